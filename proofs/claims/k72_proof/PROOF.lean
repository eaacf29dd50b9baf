import PyProof.Rows.All
import Wide.All
import OpenK.AllK
import Wide.FinOn
import Lean
import PyProof.EqAt
import PyProof.EqKinds
import PyProof.TupleCall
import PySem.Challenge.RW_postroad_k72_a_turns_bags
set_option Elab.async false
set_option linter.all false
set_option maxRecDepth 100000
abbrev bE:=@absurd
abbrev bF:=@if_neg
abbrev bL:=@if_pos
abbrev cq:=@decide_eq_true
abbrev dF:=@decide_eq_false
abbrev hh:=@congrArg
abbrev jk:=@of_decide_eq_true
abbrev o9:=@beq_iff_eq
abbrev uT:=@beq_eq_false_iff_ne
open Array renaming getD->t_,getElem?_eq_none->E3,getElem?_toList->E4,getElem?_eq_getElem->Jv,length_toList->Jw,append_assoc->UI,Perm.refl->Ũ,all_eq_true_iff_forall_mem->ũ,toList->Ū
open Bool renaming false_ne_true->ff,and_eq_true->jD,false_eq_true->ub,eq_false_iff->wM,eq_iff_iff->zR,not_eq_true'->UW,or_true->UX,true_and->UY,and_false->Ů,false_and->ů
open Classical renaming choose_spec->JA,byContradiction->ž,choose->aaa
open False renaming elim->hA
open ForInStep renaming yield->J1
open Int renaming emod_nonneg->ie,emod_lt_of_pos->lI,toNat_natCast->nN,zero_add->pR,toNat_of_nonneg->ur,le_refl->xm,toNat->Fs,ofNat.inj->J',add_assoc->We,emod_eq_of_lt->Wf,le_of_lt->abc,le_trans->abd
open List renaming length_map->bp,mem_map->cn,getElem?_map->c6,getElem?_eq_getElem->dn,mem_cons->dA,range->d_,not_mem_nil->eA,getElem?_eq_some_iff->eG,getD->eJ,mem_of_getElem?->eK,map_append->eW,size_toArray->gW,mem_filter->hC,map_cons->hW,mem_append->hX,length_append->ig,nodup_cons->iH,mem_singleton->iW,length_range->jG,map_map->jH,length_filter_le->ky,filter_cons->lJ,mem_range->lK,append_nil->mh,getElem_of_mem->mi,length_cons->mj,length_take->ml,mem_cons_of_mem->mm,filter_append->mZ,forall_mem_cons->nP,take_add_one->oW,take_length->oX,any_eq_true->pT,mem_append_right->rh,getElem_mem->so,length->sq,lookup->sr,mem_cons_self->su,nodup_nil->sv,range_succ->sx,filter_nil->ux,getElem_inj->uy,getElem_range->xC,length_eq_zero_iff->xD,nodup_append->xE,pairwise_map->xF,toArray->xG,filter_map->AB,find?_cons->AD,getElem?_of_mem->AE,getElem_map->AF,length_nil->AG,length_pos_iff->AH,replicate->AI,all_eq_true->Fv,any_cons->Fw,ext_getElem->Fx,filterMap_cons->Fy,map_congr_left->Fz,map_nil->FA,nodup_range->FC,take_zero->FD,cons.injEq->Ki,ext_getElem?->Kj,filter_eq_self->Kk,getElem?_cons_zero->Kl,map_id'->Km,map_take->Kn,mem_filterMap->Ko,mem_iff_getElem->Kp,pairwise_iff_getElem->Kq,contains_cons->WB,drop_eq_getElem_cons->WC,exists_mem_of_ne_nil->WD,filter->WE,filter_congr->WG,filter_filter->WH,getElem?_append_right->WI,getElem?_set_ne->WJ,getElem?_set_self->WK,of_mem_zip->WL,take_append_drop->WM,take_of_length_le->WN,take_sublist->WO,all_cons->acv,any_eq_false->acw,countP_cons->acx,countP_le_length->acy,countP_pos_iff->acz,find?_some->acA,getElem?_append_left->acB,getElem?_range->acC,getLastD_eq_getLast?->acD,mem_append_left->acE,mem_of_find?_eq_some->acF,mem_of_mem_take->acG,pairwise_lt_range->acH,sum_cons->acI
open Nat renaming le_refl->cj,ne_of_lt->eD,le_trans->e3,zero_le->e4,lt_of_lt_of_le->j',le_of_lt->nS,lt_of_le_of_lt->nT,lt_irrefl->pU,lt_or_ge->sy,ne_of_gt->xH,le_succ->AO,pos_of_ne_zero->AP,lt_succ_self->FE,le_of_eq->Kw,lt_succ_of_lt->Kx,lt_trans->Ky,not_lt_zero->Kz,succ_le_succ->KA,succ_ne_self->KC,min_le_right->W9,add_le_add_left->adl,le_zero->adm,lt_of_succ_lt->adn,min_eq_left->ado,sub_self->adp
open Ne renaming symm->cL
open Option renaming map_eq_some_iff->fL,some.inj->hY,isSome_iff_exists->uA,map_some->FF,some.injEq->KO,getD_none->Xj,isSome_map->adP,none->adQ
open Or renaming inl->b5,inr->rj
open PyProof.Rows renaming seqObj->jm,envOfC->n6,AllBare->q',SortKind->xP,IntsAre->Ft,keyKind'->PE,oneType'->QV,callWith_type1->Xt,kmk_tree->Xu,Subscript_->X4,subscriptTail->ċ,callWith_builtin1->ad6,args_list_sort->ajY,callWith_builtin_kwB->ak9,entry_list_sort->amy,get?_update_seq->amS,slot_list_sort->aqH,subscriptTail_builtinR->aqK,setObjOf_fresh->asG
open PyProof.Rows.F renaming plain_set_update_loop->Xs,entry_set_update_loop->ad5
open PySem renaming wpAny_bind->aw,Shared->aC,wpAny->aO,model->a6,wpAny_pure->bf,Paired->bk,World->bq,Program->bJ,Value.ref->cy,FuncData->cz,Around->cW,mainGlobals->c5,Heap.lt_size->dD,Heap.get?_push_of_some->dG,starEach->dR,Str.ofString->eH,Value.none->fP,argBest->fW,wpAny_mono->gf,Heap.get?_push_size->gi,Paired.length->gE,PyData.eqv->g_,backTo->hg,pyNext->ib,wpAny_holding->iD,bootBuiltins->iY,wpAny_loadPart_at->ja,compareOp->js,Heap.get?_update_other->jE,codeAny->jJ,Heap.SameBut->kv,PassesOwn.never->kz,backToKw->kB,keywordEach->kP,sysModules->kY,Model->k8,holding->lY,tupleKind->l8,Str.empty->mr,codeAny_builtin->mx,plainId_quiet->mL,wpAny_tryCatch->mU,Result->m3,wpAny_letGo->nH,Around.under_plainId->nL,Value.int->nX,rawInt->oC,wpAny_newObj_type->oK,wpAny_truthy_bool->oL,DictEntry->oR,Heap.get?_update_self->oT,PyData.canLay0->oZ,sizeLine_eq->pH,wpAny_call->pO,PyData.canLayAll0->pX,wpAny_call_entry->q4,Obj.mapSeq->ri,codeAny_mono->rn,seqItems?->r1,standAt->r3,wpAny_execs_nil->r9,wpAny_seqItems->r',CmpOp->sk,Heap.FlyingW->sl,Value.type->sF,Walks->sG,atKey->sI,binaryOp->sJ,valueAt->t6,wpAny_updateSeq->t9,ClassData->ue,IsItemIter->uu,Keyword->uv,NameKind->uz,PyData.depthAll->uB,Value.builtin->uL,Value.str->uM,assignEach->uO,attributeBase->uP,behindInMarks->uS,bindC->uU,bindL->uV,codeAny_call_builtin->uZ,getMethod->vf,storedH->we,swapsWith->wg,wpAny_dictEntries->wD,wpAny_fieldsOf->wF,wpAny_of_eq->wG,ExcBaseFacts->wN,Heap.size_push->xj,OwnTail->xI,Str->xM,Within->xO,argsOk->xU,assign->xV,callWith->xY,callerA->xZ,excClassObj->x3,firstArgMember->yb,pyIter->yY,setField->za,sliceBounds->zb,wpAny_Call_Name_kw->zo,wpAny_attempt->zp,wpAny_passesOwn->zq,wpAny_pyIter_list->zr,BindsTo->zM,Value->A1,mem_of_lookup->A8,Shared.TypeIs->A9,Walks.list->Bd,call_meetsIn->Bm,entryOfKey->BC,getItem->Cu,instanceDict->C2,setAttr->Et,unsetMember->EG,updateSeq->EH,wpAny_dictEpoch->ER,wpAny_isSubtype_exc->ES,wpAny_rule->ET,wpAny_standAt->EU,PyData.int->FO,PyData.list->FP,isInstance->Hj,isTrue->Hl,newExc->HO,relabel->Iu,tupleKind_room_in1->IP,wpAny_execs_cons->Jb,wpAny_setField_rec->Jc,Code.quiet_builtin->JB,Value.bool->Lk,Value.isStrOf->Ll,excMatches->M6,foldedSetIterable->Na,getAttr->Nh,getAttr?->Ni,getAttrBy->Nj,letOwnedTupleGo->PS,noteFrame->QC,refuseLoop->Rp,setFlight->RU,subscripted->R',typeLookup->Sv,wpAny_Call_method->Ti,wpAny_callSpecial?_slot->Tj,wpAny_field->Tn,wpAny_isInstance->To,wpAny_isOneOf_itemiter->Tp,wpAny_mkText->Tq,wpAny_notOrdered_dict->Tr,wpAny_typeNameOfWhole_itemiter->Ts,wpAny_typeNameOfWhole_keyiter->Tt,wpAny_typeNameOf_itemiter->Tu,wpAny_typeNameOf_keyiter->Tv,Around.under->UH,Code.isFrame->Vh,Data.cell->Vn,Data.fields->Vo,Heap.HeldW->V3,Heap.MadeExcOf->V4,Heap.get?_none_of_le->V5,Heap.get?_update_ne->V6,IsItemIterOut->Wg,PyData.strOk->Xr,Within.cons->XI,call->XJ,frameOf->XK,Value.float->X_,builtinsNs->YQ,cellsFrom->YT,closureFor->YV,codeAny_handlers_test->YW,entryPlaceOf->Y5,handedOut->ZS,onTheHeap->ç,raiseStmt->ø,refuseLoop_ref->ù,richCompare->ú,seqIndex_neg->ÿ,seqIndex_of->Ā,wpAny_Expr_any->ĭ,wpAny_Name->Į,wpAny_handleBy_cons->į,wpAny_isOneOf_keyiter->Ĵ,wpAny_newList->ĵ,wpAny_pyIter_slot->Ķ,wpAny_setField->ķ,Heap.get?_push_at->aaZ,Heap.get?_some_iff->aa0,Obj.data_mapDictKeys->adL,Obj.data_mapFields->adM,Addr->ad7,Within.nil->aex,Value.isInt_shape->ag5,behindIsImport->akO,builtinLookup_eq_fast->ak6,checkBuiltinCall->alb,codeAny_handlers_suite_as->ald,codeAny_of_tree->ale,fastBuiltinMro->amH,isSubtype_stop->aow,pastItsLine_dict->apW,plainObj_wpAny_Assign_Attribute->apY,raiseAttrError->aqf,raiseErrorWords->aqg,size_of_entries->aqE,slot_list_getitem->aqG,typeLookup_type->arb,unbindBehindTheSuite->arf,wpAny_Compare1->arC,wpAny_Dict_empty->arD,wpAny_Try_except->arE,wpAny_assign_Name->arF,wpAny_isTrue_Compare1->arG,wpAny_leaves_onW->arH,wpAny_loadPart->arI,wpAny_lookBehind->arJ,wpAny_looks_onW->arK,wpAny_missedRemoval_other->arL,wpAny_mroOf_exc->arM,wpAny_nameGoes_keeps->arN,wpAny_newTuple->arO,wpAny_pyIter_enum->arP,wpAny_raiseNew_none->arQ
open PySem.Builtin.Builtins renaming bindParams->U2
open PySem.Builtin.Dict renaming showsAll->Jx,takeOut->Ű,updateFrom->ű,addKeywords->asf,dictSlotNone->ash,keyAndDefault->asi,noArgs->asj,pairItems->asl,selfAndRest->asm
open PySem.Builtin.Dict_items renaming ownsTuple->E6,ownedTupleFields->Ų,ownedTupleIsFree->ų,pairFromOwner->Ŵ,dictOf->asn,newIterator->aso
open PySem.Builtin.Frozenset renaming updateFrom->asp
open PySem.Builtin.List renaming listTooLong->U3,listUpdate->asq
open PySem.Builtin.ObjectAttr renaming storeInOwnDict->Jy,find->U4,attrName->ŵ,dataDescriptor?->Ŷ,ownThenClass->ŷ,storeInDict->Ÿ,Found.value->asr,bindTo->ass,getOf->asu,inOwnDict->asv,newKeyGuard->asw,ownDict->asx
open PySem.Builtin.Range renaming rangeSize->asy
open PySem.Calls renaming spliced_cons->ud,callWith_builtin->zX,evalArgs_plain->zY,spliced_nil->E7,Name_function_global->Ż,call_function_entry->ż
open PySem.Challenge renaming pw_postroad_k72_a_turns_bags->asH,rw_postroad_k72_a_turns_bags->asI
open PySem.EntryCells renaming newEntry->asA
open PySem.EqMixed renaming eq_bool_str->asJ,eq_int_str->asK,eq_str_bool->asL,eq_str_int->asM,ne_bool_str->asN,ne_int_str->asO,ne_str_bool->asP,ne_str_int->asQ
open PySem.EqNone renaming eq_bool_none->asR,eq_int_none->asS,eq_none_bool->asT,eq_none_int->asU,eq_none_none->asV,eq_none_str->asW,eq_str_none->asX,ne_bool_none->asY,ne_int_none->asZ,ne_none_bool->as0,ne_none_int->as1,ne_none_none->as2,ne_none_str->as3,ne_str_none->as4
open PySem.F renaming plain_min_loop->m1,plainAttrs_list->nV,slot_list_append->o1,type_list_append->o2,plain_max_loop->xK,entry_min_loop->AZ,excBase_ValueError->A0,plainAttrs_dict->FQ,slot_dict_pop->KW,entry_max_loop->Xv,slot_dict_get->Xw,args_dict_get_2->ad8,args_dict_pop_3->ad9,entry_dict_get->aea,entry_dict_pop->aeb,entry_min->aec,kind_min->aed,plain_min->aee,slot_dict_delitem->aef,slot_dict_setdefault->aeg,store_ValueError->aeh,type_dict_pop->aei
open PySem.Heap renaming SameBut.update->Fl,ExtBut.push->J7,Ns1.of_empty->aaX,SameBut.extBut->aaY
open PySem.SeqAt renaming shaped->p1,EqAt->afV,EqAt.int_str->afW,EqAt.str_int->afX
open PySem.W renaming Frag->aU,findIn->b1,nsIn->dE,mg_of->eU,isFn->fO,kitOne->hZ,mg_none_of->j_,kia_one->mn,subIn->m2,hasDictIn->o3,keepIn->o4,Looks->pY,mroIn->pZ,looks_findIn->rk,emptyDict->sA,specialIn->sC,hideAll->uC,instObj->uD,plainGet->uE,typeIn->uF,fnOf->xN,kas_place->yy,kas_sort->yz,callWith_K->A2,excIn->A3,makesIn->A4,methodCall_KW->A5,plainOver->A6,takesIn->A7,kas_ask->Di,kas_desc->Dj,kas_rev->Dk,kas_tail3->Dl,clsIn->FR,isClsIn->KX,kitMeta->KY,lookIn->KZ,kas_bin->Px,kas_count->Py,Looks.of_pure->WR,Looks.ld->Xx,OpenLaw->Xy,codeIn->Xz,findCls->XA,handedIn->XB,hideAll_get->XC,methodObj->XD,of_hideAll->XE,plainGet_of->XF,readsIn->XG,takerIn->XH,kas_descPart->Τ,WalkO->aek,any_some->ael,bind_fn->aem,cellsFrom_some->aen,check_slot->aeo,funFrames_hide->aep,hideAll_none->aeq,kitCls->aer,kitx_dict->aes,kitx_list->aet,looks_clsIn->aeu,looks_mroIn->aev,looks_subIn->aew
open PySem.W.KF renaming slot_gs->aej,args_gs->as5,entry_class->as6,entry_gs->as7,owner_class->as8,type_class->as9
open Sum renaming inl->eX,inr->fx,inl.inj->A_,inr.inj->K1
open True renaming intro->k'
section
abbrev br:= List (List Nat)
abbrev cx:= A1 -> PySem.Shared -> Prop
abbrev cu:= List (ad7×PySem.Obj)
abbrev cB:= xM -> Option A1
abbrev dH:= List Nat
abbrev bS:= List ad7
abbrev cw:= List A1
abbrev cf:= List xM
abbrev gF:= Array Nat
abbrev hD:= Nat -> Nat -> Bool
abbrev k_:= List (Option Nat)
abbrev jI:= Array (Option A1)
abbrev m5:= List (xM×Int×xM)
abbrev Bc:= xM×Int×xM
abbrev gX:= List Int
abbrev gG:= List PySem.Expr
abbrev fy:= List PySem.PyData
abbrev lP:= xM -> Option Int
abbrev ka:= Array A1
abbrev xR:= Option A1
end
namespace ao
open PySem PySem.Spec PyProof.Rows
noncomputable abbrev a7:=Sum Int Str
noncomputable def wq:a7->Value->Bool
 |.inl k,v=>Value.isInt k v
 |.inr x,v=>Ll x v
noncomputable def aiq(w:bq):a7->Int
 |.inl k=>hashInt k
 |.inr x=>hashStr w x
theorem p_:∀{k:a7}{v:Value},wq k v=true->(∃i t,k=eX i/\v=nX i t)\/(∃x t,k=fx x/\v=uM x t)
 |.inl i,v,h=>by obtain⟨t,e⟩:=ag5 (k:=i) (v:=v) h;exact .inl ⟨i,t,rfl,e⟩
 |.inr x,v,h=>by obtain⟨t,e⟩:=Value.isStrOf_shape (x:=x) (v:=v) h;exact .inr ⟨x,t,rfl,e⟩
theorem aa5(i:Int)(t:Tok):wq (.inl i) (.int i t)=true:=by simp[wq,Value.isInt]
theorem aa6(x:Str)(t:Tok):wq (.inr x) (.str x t)=true:=by simp[wq,Ll]
theorem af9(a b:Int):decide ((eX a:a7)=eX b)=(a==b):=by
 by_cases e:a=b
 .subst e;simp
 .have h:¬(eX a:a7)=eX b:=λq=>e (A_ q);rw[dF h];exact(uT.mpr e).symm
theorem aga(a b:Str):decide ((fx a:a7)=fx b)=decide (a=b):=by
 by_cases e:a=b
 .subst e;simp
 .have h:¬(fx a:a7)=fx b:=λq=>e (K1 q);rw[dF h,dF e]
theorem agb(a:Int)(b:Str):decide ((eX a:a7)=fx b)=false:=dF (λq=>nomatch q)
theorem agc(a:Str)(b:Int):decide ((fx a:a7)=eX b)=false:=dF (λq=>nomatch q)
noncomputable def f'(prog:bJ)(w:bq):PySem.KeyKind prog w a7 where
 is:=wq
 hash:=aiq w
 inj:=λv a b aK aa=>by
  rcases p_ aK with⟨i,t,rfl,rfl⟩|⟨x,t,rfl,rfl⟩
  .rcases p_ aa with⟨j,u,rfl,e⟩|⟨y,u,rfl,e⟩
   .injection e with aE _;rw[aE]
   .exact nomatch e
  .rcases p_ aa with⟨j,u,rfl,e⟩|⟨y,u,rfl,e⟩
   .exact nomatch e
   .injection e with aE _;rw[aE]
 byValue:=λk v h=>by rcases p_ h with⟨i,t,rfl,rfl⟩|⟨x,t,rfl,rfl⟩<;>rfl
 pyHash:=λbC h=>by
  rcases p_ bC with⟨i,t,rfl,rfl⟩|⟨x,t,rfl,rfl⟩
  .exact wpAny_pyHash_int h
  .exact wpAny_pyHash_str h
 eqBool:=λb8 bC h=>by
  rcases p_ b8 with⟨i,t,rfl,rfl⟩|⟨x,t,rfl,rfl⟩
  .rcases p_ bC with⟨j,u,rfl,rfl⟩|⟨y,u,rfl,rfl⟩
   .rw[af9]at h;exact wpAny_eqBool_int h
   .rw[agb]at h;exact afW i t y u _ _ _ _ h
  .rcases p_ bC with⟨j,u,rfl,rfl⟩|⟨y,u,rfl,rfl⟩
   .rw[agc]at h;exact afX x t j u _ _ _ _ h
   .rw[aga]at h;exact wpAny_eqBool_str h
 «strs»:=λk x t v h=>by
  rcases p_ h with⟨i,u,rfl,e⟩|⟨y,u,rfl,e⟩
  .exact nomatch e
  .injection e with aE _;subst aE;cases v<;>rfl
theorem ţ(prog:bJ)(w:bq)(i:Int)(t:Tok):(f' prog w).is (.inl i) (.int i t)=true:=aa5 i t
theorem Ť(prog:bJ)(w:bq)(x:Str)(t:Tok):(f' prog w).is (.inr x) (.str x t)=true:=aa6 x t
inductive V where
 |bl|aM (b:Bool)|int (i:Int)|str (x:Str)|n0 (b:Array UInt8)|vb (b:UInt64)|ref (a:Addr)|ty (n:String)
 deriving DecidableEq
abbrev aY:= List V
abbrev lO:= Option V
noncomputable def RelV:V->Value->Prop
 |.bl,u=>u=fP
 |.aM b,u=>u=Lk b
 |.int i,u=>∃t,u=nX i t
 |.str x,u=>∃t,u=uM x t
 |.n0 b,u=>∃t,u=Value.bytes b t
 |.vb b,u=>∃t,u=X_ b t
 |.ref a,u=>u=cy a
 |.ty n,u=>u=sF n
noncomputable abbrev cI:List V->List Value->Prop:=bk RelV
theorem cI.length{xs:aY}{us:cw}(r:cI xs us):xs.length=us.length:=gE r
theorem cI.get:∀{xs:aY}{us:cw}{i:Nat}{x:V},cI xs us->xs[i]?=some x->∃u,us[i]?=some u/\RelV x u
 |_,_,_,_,.nil,e=>by simp at e
 |_,_,0,_,.cons r _,e=>by simp at e;subst e;exact⟨_,rfl,r⟩
 |_,_,i+1,x,.cons _ t,e=>by obtain⟨u,af,ai⟩:=cI.get (i:=i) (x:=x) t (by simpa using e);exact⟨u,by simpa using af,ai⟩
theorem cI.set{x:V}{u:Value}(r:RelV x u):∀{xs:aY}{us:cw}(i:Nat),cI xs us->cI (xs.set i x) (us.set i u)
 |_,_,_,.nil=>.nil
 |_,_,0,.cons _ t=>.cons r t
 |_,_,i+1,.cons q t=>.cons q (cI.set r i t)
theorem cI.append:∀{xs ys:aY}{us ws:cw},cI xs us->cI ys ws->cI (xs++ys) (us++ws)
 |_,_,_,_,.nil,s=>s
 |_,_,_,_,.cons r t,s=>.cons r (cI.append t s)
theorem cI.take:∀{xs:aY}{us:cw}(n:Nat),cI xs us->cI (xs.take n) (us.take n)
 |_,_,0,_=>.nil
 |_,_,_+1,.nil=>.nil
 |_,_,n+1,.cons r t=>.cons r (cI.take n t)
theorem cI.drop:∀{xs:aY}{us:cw}(n:Nat),cI xs us->cI (xs.drop n) (us.drop n)
 |_,_,0,r=>r
 |_,_,_+1,.nil=>.nil
 |_,_,n+1,.cons _ t=>cI.drop n t
noncomputable def iQ:Option V->Option Value->Prop
 |some v,some u=>RelV v u
 |none,none=>True
 |_,_=>False
noncomputable def gy{κ:Type}:List (κ×V)->List (κ×Value)->Prop:=bk λ(p:κ×V)(q:κ×Value)=>p.1=q.1/\RelV p.2 q.2
noncomputable def dg:a7->V
 |.inl i=>.int i
 |.inr x=>.str x
inductive ed where
  |lst (xs:aY)
  |tup (xs:aY)
  |bX (kvs:List (a7×V))|c4 (kvs:List (List a7×V))
  |set (S:Int->Bool) (n:Nat)
  |ins (C ag:Addr) (fs:List (Str×V))
  |own (x:Addr)
  |Jf (fs:List (Str×V))
  |met (f x:Addr)
  |Iw (lo ar:Int)
  |eF (o:Obj) (u:ed)
  |pI (ps:ka)
  |ext (q8:Heap->Prop)
noncomputable abbrev ae:=Addr->Option ed
noncomputable def upd(H:ae)(a:Addr)(o:ed):ae:=λb=>if b=a then some o else H b
theorem aQ{H:ae}{a:Addr}{o:ed}:upd H a o a=some o:=by unfold upd;rw[bL rfl]
theorem aA{H:ae}{a b:Addr}{o:ed}(h:b≠a):upd H a o b=H b:=by unfold upd;rw[bF h]
theorem VE{H:ae}{a:Addr}{o u:ed}:upd (upd H a o) a u=upd H a u:=by funext b;unfold upd;split<;>rfl
theorem hS{H:ae}{a b:Addr}{o u:ed}(h:H a=some o)(h':H b=some u)(d:o≠u):a≠b:=by intro e;subst e;rw[h]at h';exact d (hY h')
theorem bW{H:ae}{a b:Addr}{o:ed}(h:H a=some o)(h':H b=none):a≠b:=by intro e;subst e;rw[h]at h';cases h'
section
variable(P:bJ)(w:bq)
noncomputable def ee(H:ae)(h:Heap)(a:Addr):ed->Prop
 |.lst xs=>xs.length<=sizeLine/\∃(its:cw)(n:Nat),cI xs its/\h.get? a=some {cls:=.type "list",data:=.seq its.toArray n}
 |.tup xs=>xs.length<=sizeLine/\∃its:List Value,cI xs its/\IsTup h a its.toArray
 |.bX kvs=>kvs.length<=sizeLine/\(a==kY)=false/\∃vs,gy kvs vs/\h.DictOf (f' P w) a vs
 |.c4 kvs=>kvs.length<=sizeLine/\(a==kY)=false/\∃xs:List (List a7×Addr×Value),
   bk (λ(p:List a7×V)(q:List a7×Addr×Value)=>p.1=q.1/\H q.2.1=some (.tup (p.1.map dg))/\RelV p.2 q.2.2) kvs xs/\
   ∃o es ep,h.get? a=some o/\o.ExactDict/\o.data=.dict es ep/\es.toList=xs.map (BC (l8 (f' P w)))/\(xs.map (·.1)).Nodup
 |.set S n=>h.SetOf (intKind P w) a S n
 |.ins C ag fs=>H ag=some (.own a)/\fs.length<=1000/\ag≠a/\h.get? a=some (uD C ag)/\
   ∃mA,h.Ns1 ag mA/\(∀f,iQ (fs.lookup f) (mA f))/\xO mA (fs.map (·.1))
 |.own _=>∃o,h.get? a=some o
 |.Jf fs=>∃mA,h.Ns1 a mA/\∀f,iQ (fs.lookup f) (mA f)
 |.Iw lo ar=>∃t u v,h.get? a=some {cls:=.type "range",data:=.fields #[.int lo t,.int ar u,.int 1 v]}
 |.eF o u=>h.get? a=some o/\ee H h a u
 |.pI ps=>h.get? a=some {cls:=.none,data:=.fields ps}
 |.met f x=>h.get? a=some (XD (.ref f) (.ref x))
 |.ext q8=>q8 h/\(∃o,h.get? a=some o)/\∀af ai:Heap,q8 af->(∀o,af.get? a=some o->ai.get? a=some o)->q8 ai
noncomputable def fg(H:ae)(h:Heap):Prop:=∀a o,H a=some o->ee P w H h a o
end
section
variable{P:bJ}{w:bq}{H H':ae}{h h':Heap}{a:Addr}{o:ed}
theorem ee.lt(x:ee P w H h a o):a<h.objs.size:=by
 cases o with
 |lst xs=>obtain⟨_,_,_,_,e⟩:=x;exact dD e
 |tup xs=>obtain⟨_,_,_,p⟩:=x;exact p.lt
 |bX kvs=>obtain⟨_,_,_,_,o,_,_,e,_⟩:=x;exact dD e
 |c4 kvs=>obtain⟨_,_,_,_,o,_,_,e,_⟩:=x;exact dD e
 |set S n=>obtain⟨o,_,_,_,e,_⟩:=x;exact dD e
 |ins C ag fs=>obtain⟨_,_,_,e,_⟩:=x;exact dD e
 |own y=>obtain⟨_,e⟩:=x;exact dD e
 |Jf fs=>obtain⟨_,⟨_,_,_,e,_⟩,_⟩:=x;exact dD e
 |Iw lo ar=>obtain⟨_,_,_,e⟩:=x;exact dD e
 |eF ob u=>obtain⟨e,_⟩:=x;exact dD e
 |pI ps=>exact dD (show h.get? a=some _ from x)
 |met f y=>exact dD (show h.get? a=some _ from x)
 |ext q8=>obtain⟨_,⟨_,e⟩,_⟩:=x;exact dD e
theorem bk.e2{α β:Type}{F G:α->β->Prop}:∀{Æ:List α}{Ç:List β},bk F Æ Ç->(∀a b,F a b->G a b)->bk G Æ Ç
 |_,_,.nil,_=>.nil
 |_,_,.cons r t,f=>.cons (f _ _ r) (bk.e2 t f)
theorem ee.mS(x:ee P w H h a o)(k:∀b u,(b=a\/H b=some (.own a))->h.get? b=some u->h'.get? b=some u)(aZ:∀b,H b=some (.own a)->H' b=some (.own a))(df:∀b xs,H b=some (.tup xs)->H' b=some (.tup xs)):ee P w H' h' a o:=by
 induction o with
 |lst xs=>obtain⟨z,its,n,r,e⟩:=x;exact⟨z,its,n,r,k _ _ (.inl rfl) e⟩
 |tup xs=>obtain⟨z,its,r,ob,e,c⟩:=x;exact⟨z,its,r,ob,k _ _ (.inl rfl) e,c⟩
 |bX kvs=>obtain⟨z,y,vs,r,ob,es,ep,e,c⟩:=x;exact⟨z,y,vs,r,ob,es,ep,k _ _ (.inl rfl) e,c⟩
 |c4 kvs=>
  obtain⟨z,y,xs,r,ob,es,ep,e,c⟩:=x;exact⟨z,y,xs,bk.e2 r λp q z=>⟨z.1,df _ _ z.2.1,z.2.2⟩,ob,es,ep,k _ _ (.inl rfl) e,c⟩
 |set S n=>obtain⟨ob,es,ep,t,e,c⟩:=x;exact⟨ob,es,ep,t,k _ _ (.inl rfl) e,c⟩
 |ins C ag fs=>
  obtain⟨d,z,ne,e,mA,⟨d4,es,ep,aB,c⟩,r⟩:=x;exact⟨aZ _ d,z,ne,k _ _ (.inl rfl) e,mA,⟨d4,es,ep,k _ _ (.inr d) aB,c⟩,r⟩
 |own y=>obtain⟨ob,e⟩:=x;exact⟨ob,k _ _ (.inl rfl) e⟩
 |Jf fs=>obtain⟨mA,⟨d4,es,ep,e,c⟩,r⟩:=x;exact⟨mA,⟨d4,es,ep,k _ _ (.inl rfl) e,c⟩,r⟩
 |Iw lo ar=>obtain⟨t,u,v,e⟩:=x;exact⟨t,u,v,k _ _ (.inl rfl) e⟩
 |eF ob u a8=>obtain⟨e,q⟩:=x;exact⟨k _ _ (.inl rfl) e,a8 q⟩
 |pI ps=>
  have e:h.get? a=some {cls:=.none,data:=.fields ps}:=x;show h'.get? a=some {cls:=.none,data:=.fields ps};exact k a _ (.inl rfl) e
 |met f y=>
  have e:h.get? a=some (XD (.ref f) (.ref y)):=x;show h'.get? a=some (XD (.ref f) (.ref y));exact k a _ (.inl rfl) e
 |ext q8=>obtain⟨p,⟨o,e⟩,st⟩:=x;exact⟨st _ _ p λo q=>k _ _ (.inl rfl) q,⟨o,k _ _ (.inl rfl) e⟩,st⟩
theorem fg.lt(x:fg P w H h)(e:H a=some o):a<h.objs.size:=(x a o e).lt
theorem fg.fresh(x:fg P w H h)(e:h.objs.size<=a):H a=none:=by
 cases q:H a with
 |none=>rfl
 |some u=>exact bE (j' (x.lt q) e) (pU _)
theorem fg.kept(x:fg P w H h)(k:∀b u,h.get? b=some u->h'.get? b=some u):fg P w H h':=λa o e=>
 (x a o e).mS (λb u _ q=>k b u q) (λ_ q=>q) λ_ _ q=>q
theorem fg.laid(x:fg P w H h)(k:∀b u,h.get? b=some u->h'.get? b=some u)(aR:h.objs.size<=a)(new:ee P w (upd H a o) h' a o):fg P w (upd H a o) h':=λb u e=>by
 have aS:=x.fresh aR;by_cases aa:b=a
 .subst aa;rw[aQ]at e;cases e;exact new
 .rw[aA aa]at e;exact(x b u e).mS (λc v _ q=>k c v q) (λc q=>by rw[aA (bW q aS)];exact q) λc xs q=>by rw[aA (bW q aS)];exact q
end
noncomputable def gm(H:ae)(a:Addr)(u:ed):Prop:=H a=some u\/∃o,H a=some (.eF o u)
theorem gm.ok{P:bJ}{w:bq}{H:ae}{h:Heap}{a:Addr}{u:ed}(r:gm H a u)(x:fg P w H h):ee P w H h a u:=by
 rcases r with r|⟨o,r⟩
 .exact x a u r
 .obtain⟨_,q⟩:=x a _ r;exact q
noncomputable def AM:Option ed->Prop
 |some (.lst _)=>True
 |some (.bX _)=>True
 |some (.c4 _)=>True
 |some (.set _ _)=>True
 |some (.ins _ _ _)=>True
 |some (.ext _)=>True
 |_=>False
section
variable{P:bJ}{w:bq}{H:ae}{h h':Heap}{x e:Addr}{cC:ed}
theorem fg.write(ok:fg P w H h)(bO:AM (H x))(he:e=x\/H e=some (.own x))(k:∀b u,b≠e->h.get? b=some u->h'.get? b=some u)(yi:∃u,h'.get? e=some u)(new:ee P w (upd H x cC) h' x cC):fg P w (upd H x cC) h':=λb u q=>by
 have Þ:∀c y,H c=some (.own y)->c≠x:=λc y r z=>by subst z;rw[r]at bO;exact bO
 have apI:∀c xs,H c=some (.tup xs)->c≠x:=λc xs r z=>by subst z;rw[r]at bO;exact bO
 by_cases aa:b=x
 .subst aa;rw[aQ]at q;cases q;exact new
 .rw[aA aa]at q;by_cases ql:b=e
  .have fH:H b=some (.own x):=by
    rcases he with z|z
    .exact bE (ql.trans z) aa
    .rw[ql];exact z
   rw[q]at fH;cases fH;obtain⟨v,bC⟩:=yi;exact⟨v,by rw[ql];exact bC⟩
  .refine(ok b u q).mS (λc v ax r=>k c v ?_ r) (λc r=>by rw[aA (Þ c b r)];exact r) λc xs r=>by rw[aA (apI c xs r)];exact r
   rcases ax with rfl|ax
   .exact ql
   .rintro rfl;rcases he with z|z
    .exact Þ c b ax z
    .rw[ax]at z;cases z;exact aa rfl
end
structure h1(fs ex:bS)(H H':ae)(h h':Heap):Prop where
 keep:∀b o,h.get? b=some o->H b=none->b∉fs->b∉ex->h'.get? b=some o
 slot:∀b o,h.get? b=some o->H b=none->b∈fs->b∉ex->∃bj,h'.get? b=some {o with slots:=bj}
 free:∀b o,h.get? b=some o->H b=none->b∉ex->H' b=none
 there:∀b o,h.get? b=some o->b∉ex->∃cC,h'.get? b=some cC
 hv:∀b xs,H b=some (.tup xs)->H' b=some (.tup xs)
 iN:∀b o u,H b=some (.eF o u)->H' b=some (.eF o u)
 i_:∀b ps,H b=some (.pI ps)->∃more,H' b=some (.pI (ps++more))
section
variable{fs amN ex ato:bS}{H H1 ah:ae}{h af ai h':Heap}{a x e:Addr}{o:ed}
theorem h1.any(u:h1 fs ex H H1 h af){b:Addr}{ob:Obj}(q:h.get? b=some ob)(n:H b=none)(av:b∉ex):∃bj,af.get? b=some {ob with slots:=bj}:=by
 by_cases aa:b∈fs
 .exact u.slot b ob q n aa av
 .exact⟨ob.slots,u.keep b ob q n aa av⟩
theorem h1.kept(k:∀b u,h.get? b=some u->h'.get? b=some u):h1 fs ex H H h h':=
 ⟨λb ob q _ _ _=>k b ob q,λb ob q _ _ _=>⟨ob.slots,k b ob q⟩,λ_ _ _ n _=>n,λb ob q _=>⟨ob,k b ob q⟩,λ_ _ q=>q,λ_ _ _ q=>q,λ_ ps q=>⟨#[],by rw[q];simp⟩⟩
theorem h1.refl:h1 fs ex H H h h:=h1.kept λ_ _ q=>q
theorem h1.laid(k:∀b u,h.get? b=some u->h'.get? b=some u)(aR:h.objs.size<=a)(aS:H a=none):h1 fs ex H (upd H a o) h h' where
 keep:=λb u q _ _ _=>k b u q
 slot:=λb u q _ _ _=>⟨u.slots,k b u q⟩
 free:=λb u q n _=>by rw[aA (eD (j' (dD q) aR))];exact n
 there:=λb u q _=>⟨u,k b u q⟩
 hv:=λb xs q=>by rw[aA (bW q aS)];exact q
 iN:=λb u xs q=>by rw[aA (bW q aS)];exact q
 i_:=λb ps q=>⟨#[],by rw[aA (bW q aS),q];simp⟩
theorem h1.write(bO:AM (H x))(he:e=x\/H e=some (.own x))(k:∀b u,b≠e->h.get? b=some u->h'.get? b=some u)(yi:∃u,h'.get? e=some u):h1 fs ex H (upd H x o) h h':=by
 have av:∀b,H b=none->b≠x:=λb n z=>by subst z;rw[n]at bO;exact bO
 have aa:∀b,H b=none->b≠e:=λb n z=>by
  subst z;rcases he with r|r
  .exact av b n r
  .rw[n]at r;cases r
 have hm:∀b u,H b=some u->¬AM (some u)->b≠x:=λb u q nm z=>by subst z;rw[q]at bO;exact nm bO
 refine⟨λb u q n _ _=>k b u (aa b n) q,λb u q n _ _=>⟨u.slots,k b u (aa b n) q⟩,λb u q n _=>by rw[aA (av b n)];exact n,λb u q _=>?_,
  λb xs q=>by rw[aA (hm b _ q λz=>z)];exact q,λb u xs q=>by rw[aA (hm b _ q λz=>z)];exact q,λb ps q=>⟨#[],by rw[aA (hm b _ q λz=>z),q];simp⟩⟩
 by_cases ql:b=e
 .subst ql;exact yi
 .exact⟨u,k b u ql q⟩
end
noncomputable def IM(h:Heap)(H:ae):List Addr:=(d_ h.objs.size).filter λa=>(H a).isSome
noncomputable def r_(h:Heap)(H:ae):Heap:=uC h (IM h H)
theorem aa7(h:Heap)(H:ae):(r_ h H).objs.size=h.objs.size:=PySem.W.hideAll_size _ _
theorem abm{h:Heap}{H:ae}{b:Addr}{o:Obj}(e:h.get? b=some o)(n:H b=none):(r_ h H).get? b=some o:=
 XC _ e λhm=>by have q:(H b).isSome=true:=(hC.mp hm).2;rw[n]at q;simp at q
theorem adZ{h:Heap}{H:ae}{b:Addr}{o:Obj}(e:(r_ h H).get? b=some o):h.get? b=some o/\H b=none:=by
 have cm:h.get? b=some o:=XE (IM h H) e;refine⟨cm,?_⟩;cases q:H b with
 |none=>rfl
 |some x=>
  have hm:b∈IM h H:=hC.mpr ⟨lK.mpr (dD cm),by simp[q]⟩;have z:(r_ h H).get? b=none:=aeq (IM h H) hm;rw[z]at e;cases e
noncomputable def ad0(g h:Heap)(L:Addr):List (Addr×Obj):=(d_ h.objs.size).filterMap λa=>if a=L\/(g.get? a).isSome=true then none else(h.get? a).map λo=>(a,o)
noncomputable def rest(g h:Heap)(L d:Addr):List (Addr×Obj):=(ad0 g h L).filter λp=>decide (p.1≠d)
structure Mod(K:aU)(mg:cB)(base:Heap):Prop where
 rL:K.In base
 glob:base.Ns c5 mg
 blt:∃oq,base.Ns YQ oq/\∀x:Str,x≠"__name__"->oq x=iY x
 nolimit:base.NoLimit
structure bb where
 prog:bJ
 w:bq
 K:aU
 mg:Str->Option Value
 base:Heap
 A:cW
 N:List Str
 iz:aC
 me:ae
 env:Env
 outer:List Env
 stack:List Env
 ex:List Addr
 fn:Str->Bool
 calm:Bool
 e9:List (Addr×Obj)
 dT:Value->aC->Prop
noncomputable def fm(l:List Env):List Addr:=l.filterMap (·.frame)
noncomputable abbrev bb.fs(X:bb):List Addr:=fm X.outer
noncomputable def Lo(sc:Scope)(x:Str):Prop:=sc.names.lookup x=some .local\/sc.names.lookup x=some .cell\/sc.names.lookup x=some .free
noncomputable def Loc(sc:Scope)(x:Str):Prop:=sc.names.lookup x=some .local\/sc.names.lookup x=some .cell
noncomputable def Look(env:Env)(h:Heap)(m:cB)(x:Str)(u:Value):Prop:=
 (env.kindOf x=some .local/\m x=some u)\/((env.kindOf x=some .cell\/env.kindOf x=some .free)/\∃c,env.cells.lookup x=some c/\h.IsCell c (some u))
structure bb.Ok(X:bb):Prop where
 mod:Mod X.K X.mg X.base
 kind:X.env.scope.kind=.function
 glob:X.env.globals=c5
 blt:X.env.builtins=YQ
 above:X.iz.heap.objs.size<=X.env.locals
 inj:∀x y c,X.env.cells.lookup x=some c->X.env.cells.lookup y=some c->x=y
 has:∀x,(X.env.kindOf x=some .cell\/X.env.kindOf x=some .free)->∃c,X.env.cells.lookup x=some c
 uX:∀x c,X.fn x=true->X.env.cells.lookup x=some c->X.iz.heap.objs.size<=c
 hd:X.calm=true->X.A.handled=none
 frames:X.A.frames=some X.stack
 qT:X.stack=X.outer\/(X.stack=X.env::X.outer/\X.env.frame=some X.env.locals)
 Gd:∀b∈X.ex,b≠X.env.locals/\∀x c,X.env.cells.lookup x=some c->c≠b
 bs:∀b o,X.base.get? b=some o->X.iz.heap.get? b=some o/\X.me b=none
 p5:X.base.objs.size<=X.iz.heap.objs.size
 vQ:∀b o,X.base.get? b=some o->b∉X.ex
 x4:∀b∈X.ex,b∉X.fs
 ke:X.iz.heap.FunFrames X.base X.outer
 rt:∀b∈X.fs,X.me b=none
structure Inv(X:bb)(pins:cu)(σ:List (Option V))(H:ae)(s:aC):Prop where
 ok:X.Ok
 os:s.os=X.iz.os
 bare:q' s.gens
 base:h1 X.fs X.ex X.me H X.iz.heap s.heap
 loc:∃m,s.heap.Ns X.env.locals m/\∀(i:Nat)(x:Str)(v:V),X.N[i]?=some x->σ[i]?=some (some v)->Lo X.env.scope x->∃u,RelV v u/\Look X.env s.heap m x u
 cell:∀x c,X.env.cells.lookup x=some c->∃v,s.heap.IsCell c v
 free:H X.env.locals=none
 mB:∀x c,X.env.cells.lookup x=some c->H c=none
 pin:∀p∈X.e9++pins,s.heap.get? p.1=some p.2/\H p.1=none/\p.1≠X.env.locals/\p.1∉X.fs/\∀v,p.2.data≠.cell v
 a_:fg X.prog X.w H s.heap
 len:σ.length=X.N.length
section
variable{X:bb}{pins:cu}{σ:List (Option V)}{H H':ae}{s:aC}{h':Heap}
theorem bb.Ok.apx(ok:X.Ok){b:Addr}{o:Obj}(e:X.base.get? b=some o):b∉X.fs:=λaa=>by have:=(ok.ke.mem aa).1;rw[e]at this;cases this
theorem Inv.bs(I:Inv X pins σ H s):∀b o,X.base.get? b=some o->s.heap.get? b=some o/\H b=none:=λb o e=>
 ⟨I.base.keep b o (I.ok.bs b o e).1 (I.ok.bs b o e).2 (I.ok.apx e) (I.ok.vQ b o e),I.base.free b o (I.ok.bs b o e).1 (I.ok.bs b o e).2 (I.ok.vQ b o e)⟩
theorem Inv.gq(I:Inv X pins σ H s):∀b o,X.base.get? b=some o->s.heap.get? b=some o:=λb o e=>(I.bs b o e).1
theorem Inv.mod(I:Inv X pins σ H s):Mod X.K X.mg X.base:=I.ok.mod
theorem Inv.ew(I:Inv X pins σ H s):X.K.In s.heap:=I.ok.mod.rL.keeps I.gq
theorem Inv.lt(I:Inv X pins σ H s):X.env.locals<s.heap.objs.size:=let⟨_,aS,_⟩:=I.loc;aS.lt
theorem Inv.i'(I:Inv X pins σ H s):X.iz.heap.objs.size<=s.heap.objs.size:=e3 I.ok.above (nS I.lt)
theorem Inv.apz(I:Inv X pins σ H s){a:Addr}(h:s.heap.objs.size<=a):a∉X.fs:=λaa=>by obtain⟨_,o,aZ,_⟩:=I.ok.ke.mem aa;exact bE (j' (dD aZ) (e3 I.i' h)) (pU _)
theorem Inv.o_(I:Inv X pins σ H s):∀x c,X.env.cells.lookup x=some c->c≠X.env.locals:=λx c e z=>by obtain⟨v,o,aZ,hd⟩:=I.cell x c e;obtain⟨m,⟨cC,es,ep,kL,mE,_⟩,_⟩:=I.loc;rw[z,kL]at aZ;cases aZ;rw[mE]at hd;cases hd
theorem Inv.ke(I:Inv X pins σ H s):s.heap.FunFrames X.base X.outer:=by
 have all:∀(l:List Env),(∀b∈fm l,b∈X.fs)->X.iz.heap.FunFrames X.base l->s.heap.FunFrames X.base l:=by
  intro l
  induction l with
  |nil=>intro _ _;trivial
  |cons env r a8=>
   intro hs aj;obtain⟨aX,⟨L,o,hf,aS,aZ,hd⟩,aq⟩:=aj;have iq:L∈X.fs:=hs L (by unfold fm;rw[Fy,hf];exact su);obtain⟨bj,e⟩:=I.base.slot L o aZ (I.ok.rt L iq) iq λz=>I.ok.x4 L z iq;exact⟨aX,⟨L,_,hf,aS,e,hd⟩,a8 (λb aa=>hs b (by unfold fm;rw[Fy,hf];exact mm _ aa)) aq⟩
 exact all X.outer (λ_ aa=>aa) I.ok.ke
theorem Inv.stack(I:Inv X pins σ H s):s.heap.FunFrames X.base X.stack:=by
 rcases I.ok.qT with e|⟨e,hf⟩
 .rw[e];exact I.ke
 .rw[e];obtain⟨m,aS,_⟩:=I.loc;refine .cons (by rw[I.ok.kind];decide) hf aS ?_ I.ke;exact V5 (e3 I.ok.p5 I.ok.above)
theorem Inv.Ey(I:Inv X pins σ H s):∀b∈fm X.stack,b∈X.env.locals::X.fs:=λb aa=>by
 rcases I.ok.qT with e|⟨e,hf⟩
 .rw[e]at aa;exact mm _ aa
 .rw[e]at aa;unfold fm at aa;rw[Fy,hf]at aa;exact aa
theorem Inv.IH(I:Inv X pins σ H s):∀b∈fm X.stack,H b=none:=λb aa=>by
 rcases dA.mp (I.Ey b aa)with e|aa
 .rw[e];exact I.free
 .obtain⟨_,o,aZ,_⟩:=I.ok.ke.mem aa;exact I.base.free b o aZ (I.ok.rt b aa) λz=>I.ok.x4 b z aa
theorem Inv.step{g':Array GenState}{t':Nat}{d':Drawn}{ch:bS}(I:Inv X pins σ H s)(h8:∀b∈ch,(b∈X.ex\/X.iz.heap.objs.size<=b)/\b≠X.env.locals/\(∀x c,X.env.cells.lookup x=some c->c≠b)/\∀p∈X.e9++pins,p.1≠b)(keep:∀b o,b≠X.env.locals->b∉X.fs->b∉ch->s.heap.get? b=some o->H b=none->h'.get? b=some o)(slot:∀b o,b≠X.env.locals->b∈X.fs->b∉ch->s.heap.get? b=some o->H b=none->∃bj,h'.get? b=some {o with slots:=bj})(free:∀b o,b∉ch->s.heap.get? b=some o->H b=none->H' b=none)(there:∀b o,b∉ch->s.heap.get? b=some o->∃cC,h'.get? b=some cC)(hv:∀b xs,H b=some (.tup xs)->H' b=some (.tup xs))(iN:∀b o u,H b=some (.eF o u)->H' b=some (.eF o u))(i_:∀b ps,H b=some (.pI ps)->∃more,H' b=some (.pI (ps++more)))(ns:∀m,s.heap.Ns X.env.locals m->h'.Ns X.env.locals m)(a_:fg X.prog X.w H' h')(bP:q' g'):
  Inv X pins σ H' {s with heap:=h',gens:=g',drawn:=d',toks:=t'}:=by
 have Ø:∀b o,X.iz.heap.get? b=some o->b≠X.env.locals:=λb o e=>eD (j' (dD e) I.ok.above);have HN:∀b o,X.iz.heap.get? b=some o->b∉X.ex->b∉ch:=λb o e av aa=>by
  rcases(h8 b aa).1 with z|z
  .exact av z
  .exact bE (j' (dD e) z) (pU _)
 have cellK:∀x c,X.env.cells.lookup x=some c->∀v,s.heap.IsCell c v->h'.IsCell c v:=λx c e v⟨o,aZ,hd⟩=>by
  have pz:c∉ch:=λz=>(h8 c z).2.2.1 x c e rfl;by_cases ax:c∈X.fs
  .obtain⟨bj,q⟩:=slot c o (I.o_ x c e) ax pz aZ (I.mB x c e);exact⟨_,q,hd⟩
  .exact⟨o,keep c o (I.o_ x c e) ax pz aZ (I.mB x c e),hd⟩
 refine⟨I.ok,I.os,bP,⟨λb o e n aa av=>?_,λb o e n aa av=>?_,λb o e n av=>?_,λb o e av=>?_,λb xs e=>hv b xs (I.base.hv b xs e),λb o xs e=>iN b o xs (I.base.iN b o xs e),λb ps e=>?_⟩,?_,λx c e=>?_,?_,λx c e=>?_,λp aR=>?_,a_,I.len⟩
 .exact keep b o (Ø b o e) aa (HN b o e av) (I.base.keep b o e n aa av) (I.base.free b o e n av)
 .obtain⟨bj,aE⟩:=I.base.slot b o e n aa av;obtain⟨lD,aB⟩:=slot b _ (Ø b o e) aa (HN b o e av) aE (I.base.free b o e n av);exact⟨lD,aB⟩
 .obtain⟨cC,aE⟩:=I.base.there b o e av;exact free b cC (HN b o e av) aE (I.base.free b o e n av)
 .obtain⟨cC,aE⟩:=I.base.there b o e av;exact there b cC (HN b o e av) aE
 .obtain⟨jA,aE⟩:=I.base.i_ b ps e;obtain⟨tw,aB⟩:=i_ b _ aE;exact⟨jA++tw,by rw[aB,UI]⟩
 .obtain⟨m,aS,aj⟩:=I.loc;refine⟨m,ns m aS,λi x v aE aB cJ=>?_⟩;obtain⟨u,r,l⟩:=aj i x v aE aB cJ;refine⟨u,r,?_⟩;rcases l with l|⟨k,c,e,z⟩
  .exact .inl l
  .exact .inr ⟨k,c,e,cellK x c e _ z⟩
 .obtain⟨v,z⟩:=I.cell x c e;exact⟨v,cellK x c e v z⟩
 .obtain⟨m,⟨o,_,_,aZ,_⟩,_⟩:=I.loc;exact free _ o (λz=>(h8 _ z).2.1 rfl) aZ I.free
 .obtain⟨v,o,aZ,hd⟩:=I.cell x c e;exact free c o (λz=>(h8 c z).2.2.1 x c e rfl) aZ (I.mB x c e)
 .obtain⟨e,n,ne,gv,d⟩:=I.pin p aR;have pz:p.1∉ch:=λz=>(h8 p.1 z).2.2.2 p aR rfl;exact⟨keep p.1 p.2 ne gv pz e n,free p.1 p.2 pz e n,ne,gv,d⟩
theorem Inv.un{t':Nat}(I:Inv X pins σ H s)(u:h1 X.fs [] H H' s.heap h')(a_:fg X.prog X.w H' h'):Inv X pins σ H' {s with heap:=h',toks:=t'}:=by
 obtain⟨m,⟨o,es,ep,aZ,r⟩,_⟩:=id I.loc;obtain⟨bj,iq⟩:=u.any aZ I.free (by simp);exact I.step (g':=s.gens) (d':=s.drawn) (ch:=[]) (λ_ z=>nomatch z) (λb o _ aa _ e n=>u.keep b o e n aa (by simp)) (λb o _ aa _ e n=>u.slot b o e n aa (by simp)) (λb o _ e n=>u.free b o e n (by simp)) (λb o _ e=>u.there b o e (by simp)) u.hv u.iN u.i_ (λcP hm=>by
  obtain⟨cC,pd,m_,kL,cD⟩:=hm;rw[aZ]at kL;cases kL;exact⟨_,pd,m_,iq,cD⟩) a_ I.bare
theorem Inv.call{g':Array GenState}{t':Nat}{d':Drawn}{ch:bS}(I:Inv X pins σ H s)(u:h1 (fm X.stack) ch H H' s.heap h')(a_:fg X.prog X.w H' h')(bP:q' g')(h8:∀b∈ch,(b∈X.ex\/X.iz.heap.objs.size<=b)/\b≠X.env.locals/\(∀x c,X.env.cells.lookup x=some c->c≠b)/\∀p∈X.e9++pins,p.1≠b):
  Inv X pins σ H' {s with heap:=h',gens:=g',drawn:=d',toks:=t'}:=by
 obtain⟨m,⟨o,es,ep,aZ,r⟩,_⟩:=id I.loc;obtain⟨bj,iq⟩:=u.any aZ I.free λz=>(h8 _ z).2.1 rfl;exact I.step (ch:=ch) h8 (λb o iq aa ax e n=>u.keep b o e n (λz=>(dA.mp (I.Ey b z)).elim iq aa) ax) (λb o _ _ ax e n=>u.any e n ax) (λb o ax e n=>u.free b o e n ax) (λb o ax e=>u.there b o e ax) u.hv u.iN u.i_ (λcP hm=>by
  obtain⟨cC,pd,m_,kL,cD⟩:=hm;rw[aZ]at kL;cases kL;exact⟨_,pd,m_,iq,cD⟩) a_ bP
theorem Inv.turned{t':Nat}{it:Addr}(I:Inv X pins σ H s)(k:∀b o,b≠it->s.heap.get? b=some o->h'.get? b=some o)(aS:H it=none)(iq:it≠X.env.locals)(af:it∈X.ex\/X.iz.heap.objs.size<=it)(ai:∀x c,X.env.cells.lookup x=some c->c≠it)(bR:∀p∈X.e9++pins,p.1≠it):Inv X pins σ H {s with heap:=h',toks:=t'}:=by
 have Ù:∀b u,H b=some u->b≠it:=λb u e z=>by rw[z,aS]at e;cases e
 refine I.step (g':=s.gens) (d':=s.drawn) (ch:=[it]) (λb aa=>?_) (λb o _ _ ax e _=>k b o (λz=>ax (by simp[z])) e) (λb o _ _ ax e _=>⟨o.slots,k b o (λz=>ax (by simp[z])) e⟩) (λ_ _ _ _ n=>n)
  (λb o ax e=>⟨o,k b o (λz=>ax (by simp[z])) e⟩) (λ_ _ e=>e) (λ_ _ _ e=>e) (λb ps e=>⟨#[],by rw[e];simp⟩) (λm hm=>?_) (λb u e=>?_) I.bare
 .have e:b=it:=by simpa using aa
  subst e;exact⟨af,iq,ai,bR⟩
 .obtain⟨o,es,ep,aZ,r⟩:=hm;exact⟨o,es,ep,k _ o (cL iq) aZ,r⟩
 .refine(I.a_ b u e).mS (λc v ax q=>k c v ?_ q) (λ_ q=>q) λ_ _ q=>q;rcases ax with z|z
  .rw[z];exact Ù b u e
  .exact Ù c _ z
theorem Inv.tok(I:Inv X pins σ H s)(t:Nat):Inv X pins σ H {s with toks:=t}:=I.un (h':=s.heap) (t':=t) h1.refl I.a_
theorem Inv.kept{t':Nat}(I:Inv X pins σ H s)(k:∀b u,s.heap.get? b=some u->h'.get? b=some u):Inv X pins σ H {s with heap:=h',toks:=t'}:=I.un (h1.kept k) (I.a_.kept k)
theorem Inv.laid{a:Addr}{o:ed}{t':Nat}(I:Inv X pins σ H s)(k:∀b u,s.heap.get? b=some u->h'.get? b=some u)(aR:s.heap.objs.size<=a)(new:ee X.prog X.w (upd H a o) h' a o):
  Inv X pins σ (upd H a o) {s with heap:=h',toks:=t'}:=I.un (h1.laid k aR (I.a_.fresh aR)) (I.a_.laid k aR new)
theorem Inv.write{x e:Addr}{o:ed}{t':Nat}(I:Inv X pins σ H s)(bO:AM (H x))(he:e=x\/H e=some (.own x))(k:∀b u,b≠e->s.heap.get? b=some u->h'.get? b=some u)(yi:∃u,h'.get? e=some u)(new:ee X.prog X.w (upd H x o) h' x o):Inv X pins σ (upd H x o) {s with heap:=h',toks:=t'}:=I.un (h1.write bO he k yi) (I.a_.write bO he k yi new)
theorem Inv.î{í:cu}(I:Inv X pins σ H s)(h:∀p∈í,s.heap.get? p.1=some p.2/\H p.1=none/\p.1≠X.env.locals/\p.1∉X.fs/\∀v,p.2.data≠.cell v):Inv X í σ H s:=
 ⟨I.ok,I.os,I.bare,I.base,I.loc,I.cell,I.free,I.mB,λp aR=>(hX.mp aR).elim (λz=>I.pin p (acE _ z)) (h p),I.a_,I.len⟩
theorem SD{N:cf}(eC:N.Nodup){i j:Nat}{x:Str}(a:N[i]?=some x)(b:N[j]?=some x):i=j:=by obtain⟨af,aE⟩:=eG.mp a;obtain⟨ai,aB⟩:=eG.mp b;exact(uy eC).mp (aE.trans aB.symm)
theorem ĩ{M:k8}{A:cW}{E:cx}{i:Nat}{x:Str}{v:V}{u:Value}{Q:Unit->aC->Prop}(I:Inv X pins σ H s)(eC:X.N.Nodup)(ar:X.N[i]?=some x)(av:Loc X.env.scope x)(r:RelV v u)(h:∀s',Inv X pins (σ.set i (some v)) H s'->(∃a,kv a s.heap s'.heap/\(a=X.env.locals\/X.env.cells.lookup x=some a))->Q () s')(hf:X.fn x=true\/X.env.scope.names.lookup x=some .local:=by first|exact .inl rfl|exact .inr rfl|assumption):aO M A (storeName X.env x u) Q E s:=by
 obtain⟨m,aS,aj⟩:=id I.loc;have CI:(X.env.scope.kind==.class||(X.env.scope.kind==.module&&X.env.locals !=X.env.globals))=false:=by rw[I.ok.kind];rfl
 have G3:i<σ.length:=by rw[I.len];exact(eG.mp ar).1
 have o_:=I.o_;have tracked:∀{a:Addr}{h':Heap},(∃o,s.heap.get? a=some o/\H a=none)->kv a s.heap h'->fg X.prog X.w H h':=λ{a h'}aK hs b ob e=>by
  obtain⟨_,_,G1⟩:=aK;refine(I.a_ b ob e).mS (λc eT ax q=>(hs.2 c ?_).trans q) (λ_ q=>q) λ_ _ q=>q;rintro rfl;rcases ax with rfl|ax
  .rw[G1]at e;cases e
  .rw[G1]at ax;cases ax
 rcases av with aX|aX
 .refine wpAny_storeName_local aX aS (λh' qp hs=>?_) CI;obtain⟨apP,_,_,anT,_⟩:=id aS;refine h _ ⟨I.ok,I.os,I.bare,⟨λb o e n aa av=>?_,λb o e n aa av=>?_,I.base.free,λb o e av=>?_,I.base.hv,I.base.iN,I.base.i_⟩,⟨_,qp,λj y r7 aE aB cJ=>?_⟩,λy c e=>?_,I.free,I.mB,λp aR=>?_,tracked ⟨apP,anT,I.free⟩ hs,by simpa using I.len⟩ ⟨_,hs,.inl rfl⟩
  .exact(hs.2 b (eD (j' (dD e) I.ok.above))).trans (I.base.keep b o e n aa av)
  .obtain⟨bj,aE⟩:=I.base.slot b o e n aa av;exact⟨bj,(hs.2 b (eD (j' (dD e) I.ok.above))).trans aE⟩
  .obtain⟨cC,aE⟩:=I.base.there b o e av;exact⟨cC,(hs.2 b (eD (j' (dD e) I.ok.above))).trans aE⟩
  .by_cases bK:j=i
   .subst bK;rw[ar]at aE;cases aE;rw[WK G3]at aB;cases aB;exact⟨u,r,.inl ⟨aX,by simp⟩⟩
   .rw[WJ (cL bK)]at aB;obtain⟨u',cD,q⟩:=aj j y r7 aE aB cJ;refine⟨u',cD,?_⟩;rcases q with⟨k,e⟩|⟨k,c,e,z⟩
    .refine .inl ⟨k,?_⟩;have:y≠x:=λe=>bK (SD eC aE (e▸ar));simp[this,e]
    .exact .inr ⟨k,c,e,z.sameBut hs (o_ y c e)⟩
  .obtain⟨eT,z⟩:=I.cell y c e;exact⟨eT,z.sameBut hs (o_ y c e)⟩
  .obtain⟨e,n,ne,gv,d⟩:=I.pin p aR;exact⟨(hs.2 p.1 ne).trans e,n,ne,gv,d⟩
 .have NX:X.fn x=true:=by
   rcases hf with z|z
   .exact z
   .rw[z]at aX;cases aX
  obtain⟨c,ax⟩:=I.ok.has x (.inl aX);obtain⟨eT,z⟩:=I.cell x c ax;refine wpAny_storeName_cell I.ok.kind aX ax z (λh' ki hs=>?_);obtain⟨l4,φ,anV⟩:=id z;refine h {s with heap:=h'} ⟨I.ok,I.os,I.bare,⟨λb o e n aa av=>?_,λb o e n aa av=>?_,I.base.free,λb o e av=>?_,I.base.hv,I.base.iN,I.base.i_⟩,⟨m,aS.sameBut hs (cL (o_ x c ax)),λj y r7 aE aB cJ=>?_⟩,λy lR e=>?_,I.free,I.mB,λp aR=>?_,tracked ⟨l4,φ,I.mB x c ax⟩ hs,by simpa using I.len⟩ ⟨c,hs,.inr ax⟩
  .exact(hs.2 b (eD (j' (dD e) (I.ok.uX x c NX ax)))).trans (I.base.keep b o e n aa av)
  .obtain⟨bj,aE⟩:=I.base.slot b o e n aa av;exact⟨bj,(hs.2 b (eD (j' (dD e) (I.ok.uX x c NX ax)))).trans aE⟩
  .obtain⟨cC,aE⟩:=I.base.there b o e av;exact⟨cC,(hs.2 b (eD (j' (dD e) (I.ok.uX x c NX ax)))).trans aE⟩
  .by_cases bK:j=i
   .subst bK;rw[ar]at aE;cases aE;rw[WK G3]at aB;cases aB;exact⟨u,r,.inr ⟨.inl aX,c,ax,ki⟩⟩
   .rw[WJ (cL bK)]at aB;obtain⟨u',cD,q⟩:=aj j y r7 aE aB cJ;refine⟨u',cD,?_⟩;rcases q with q|⟨k,lR,e,di⟩
    .exact .inl q
    .refine .inr ⟨k,lR,e,di.sameBut hs ?_⟩;rintro rfl;exact bK (SD eC aE (I.ok.inj _ _ _ e ax▸ar))
  .by_cases Z4:lR=c
   .subst Z4;exact⟨_,ki⟩
   .obtain⟨fK,bD⟩:=I.cell y lR e;exact⟨fK,bD.sameBut hs Z4⟩
  .obtain⟨e,n,ne,gv,d⟩:=I.pin p aR;refine⟨(hs.2 p.1 ?_).trans e,n,ne,gv,d⟩;intro q;rw[q,φ]at e;have fH:l4=p.2:=hY e;exact d eT (by rw[<-fH];exact anV)
theorem Ij{M:k8}{A:cW}{E:cx}{i:Nat}{x:Str}{v:V}{u:Value}{Q:Unit->aC->Prop}(I:Inv X pins σ H s)(eC:X.N.Nodup)(ar:X.N[i]?=some x)(av:Loc X.env.scope x)(r:RelV v u)(h:∀s',Inv X pins (σ.set i (some v)) H s'->Q () s')(hf:X.fn x=true\/X.env.scope.names.lookup x=some .local:=by first|exact .inl rfl|exact .inr rfl|assumption):aO M A (storeName X.env x u) Q E s:=
 ĩ I eC ar av r (λs' oU _=>h s' oU) hf
theorem Inv.Bl{s':aC}{ch:bS}(I:Inv X pins σ H s)(aZ:s'.os=s.os)(u:h1 (fm X.stack) ch H H' s.heap s'.heap)(a_:fg X.prog X.w H' s'.heap)(bP:q' s'.gens)(h8:∀b∈ch,(b∈X.ex\/X.iz.heap.objs.size<=b)/\b≠X.env.locals/\(∀x c,X.env.cells.lookup x=some c->c≠b)/\∀p∈X.e9++pins,p.1≠b):Inv X pins σ H' s':=by obtain⟨h',g',d',t',cC⟩:=s';have e:cC=s.os:=aZ;subst e;exact I.call (g':=g') (t':=t') (d':=d') u a_ bP h8
end
noncomputable abbrev b2:=Value->Option Addr->ae->Prop
noncomputable abbrev St:=List (Option V)
noncomputable abbrev a':=V->ae->Prop
noncomputable abbrev TE:=St->ae->a'->Prop
noncomputable abbrev TT:=St->ae->(Bool->ae->Prop)->Prop
noncomputable abbrev f7:=St->ae->(List V->ae->Prop)->Prop
structure Ends where
 b9:St->ae->Prop
 l7:a'
 gq:St->ae->Prop:=λ_ _=>False
 e0:St->ae->Prop:=λ_ _=>False
noncomputable abbrev eY:=Ends->St->ae->Prop
noncomputable def ic(X:bb)(pins:cu)(σ:St)(Q:a')(u:Value)(s':aC):Prop:=∃v H',Inv X pins σ H' s'/\RelV v u/\Q v H'
noncomputable def K4(X:bb)(pins:cu)(σ:St)(Q:Bool->ae->Prop)(b:Bool)(s':aC):Prop:=∃H',Inv X pins σ H' s'/\Q b H'
noncomputable def Uz(X:bb)(pins:cu)(σ:St)(Q:List V->ae->Prop)(us:cw)(s':aC):Prop:=∃vs H',Inv X pins σ H' s'/\cI vs us/\Q vs H'
noncomputable def o6(X:bb)(pins:cu)(D:Ends)(f:Flow)(s':aC):Prop:=
 match f with
 |.next=>∃a3 H',Inv X pins a3 H' s'/\D.b9 a3 H'
 |.brk=>∃a3 H',Inv X pins a3 H' s'/\D.gq a3 H'
 |.cont=>∃a3 H',Inv X pins a3 H' s'/\D.e0 a3 H'
 |.ret u=>∃v a3 H',Inv X pins a3 H' s'/\RelV v u/\D.l7 v H'
noncomputable def bh(X:bb)(e:Expr)(t:TE):Prop:=
 ∀(pins:cu)(s:aC)(σ:St)(H:ae)(Q:a'),Inv X pins σ H s->t σ H Q->aO (a6 X.prog X.w) X.A (eval e X.env) (ic X pins σ Q) X.dT s
noncomputable def k9(X:bb)(e:Expr)(t:TT):Prop:=
 ∀(pins:cu)(s:aC)(σ:St)(H:ae)(Q:Bool->ae->Prop),Inv X pins σ H s->t σ H Q->aO (a6 X.prog X.w) X.A (Hl e X.env (eval e X.env)) (K4 X pins σ Q) X.dT s
noncomputable def ih(X:bb)(e:Expr)(t:TT):Prop:=
 ∀(whole:Sem Value)(pins:cu)(s:aC)(σ:St)(H:ae)(Q:Bool->ae->Prop),Inv X pins σ H s->t σ H Q->aO (a6 X.prog X.w) X.A (Hl e X.env whole) (K4 X pins σ Q) X.dT s
theorem ih.pt{X:bb}{e:Expr}{t:TT}(h:ih X e t):k9 X e t:=h _
noncomputable def fM(X:bb)(es:gG)(t:f7):Prop:=
 ∀(pos:Pos)(pins:cu)(s:aC)(σ:St)(H:ae)(Q:List V->ae->Prop),Inv X pins σ H s->t σ H Q->aO (a6 X.prog X.w) X.A (spliced (hg pos (dR es X.env))) (Uz X pins σ Q) X.dT s
noncomputable def fN(X:bb)(st:Stmt)(t:eY):Prop:=
 ∀(pins:cu)(s:aC)(σ:St)(H:ae)(D:Ends),Inv X pins σ H s->t D σ H->aO (a6 X.prog X.w) X.A (exec st X.env) (o6 X pins D) X.dT s
noncomputable def fV(X:bb)(st:List Stmt)(t:eY):Prop:=
 ∀(pins:cu)(s:aC)(σ:St)(H:ae)(D:Ends),Inv X pins σ H s->t D σ H->aO (a6 X.prog X.w) X.A (execs st X.env) (o6 X pins D) X.dT s
theorem bB{α:Type}{t:Sem α}{Q mq:α->aC->Prop}{M:k8}{A:cW}{E:cx}{s:aC}(h:aO M A t Q E s)(e8:∀a s,Q a s->mq a s):aO M A t mq E s:=gf h e8 λ_ _ x=>x
section
variable{X:bb}
theorem bin{a b:Expr}{b4 c9:TE}(aK:bh X a b4)(aa:bh X b c9){pins:cu}{s:aC}{σ:St}{H:ae}{R:V->V->ae->Prop}(I:Inv X pins σ H s)(h:b4 σ H λx H1=>c9 σ H1 λy ah=>R x y ah){α:Type}{Q:α->aC->Prop}{f:Value->Value->Sem α}(hf:∀v u s2 x y ah,Inv X pins σ ah s2->RelV x v->RelV y u->R x y ah->aO (a6 X.prog X.w) X.A (f v u) Q X.dT s2):
  aO (a6 X.prog X.w) X.A (eval a X.env) (λv dP=>aO (a6 X.prog X.w) X.A (eval b X.env) (λu qU=>aO (a6 X.prog X.w) X.A (f v u) Q X.dT qU) X.dT dP) X.dT s:=by refine bB (aK pins s σ H _ I h) λv s1⟨x,H1,aP,cg,bM⟩=>?_;refine bB (aa pins s1 σ H1 _ aP bM) λu s2⟨y,ah,bA,d5,cU⟩=>?_;exact hf v u s2 x y ah bA cg d5 cU
inductive ahJ(i:Nat)(σ:ao.St)(H:ae)(Q:a'):Prop where
 |mk (v:_) (bV:σ[i]?=some (some v)) (bD:Q v H)
noncomputable def K5(i:Nat):TE:=λσ H Q=>ahJ i σ H Q
noncomputable def r4(v:V):TE:=λ_ H Q=>Q v H
theorem agd{i:Nat}{x:Str}{pos:Pos}(eC:X.N[i]?=some x)(bC:Lo X.env.scope x)(hd:(x==("__debug__":Str))=false:=by decide)(jR:(x==("__classdict__":Str))=false:=by decide):bh X (.Name x pos) (K5 i):=by
 intro pins s σ H Q I h;obtain⟨v,e,h⟩:=h;obtain⟨m,aS,aj⟩:=I.loc;obtain⟨u,r,l⟩:=aj i x v eC e bC;have fin:ic X pins σ Q u s:=⟨v,H,I,r,h⟩
 rcases l with⟨aX,hm⟩|⟨aX,c,ax,td⟩
 .exact Į (wpAny_loadName_local I.ok.kind aX aS hm fin) hd
 .rcases aX with aX|aX
  .exact Į (wpAny_loadName_cell I.ok.kind aX ax td fin) hd
  .exact Į (wpAny_loadName_free I.ok.kind aX ax td fin jR) hd
theorem aW{i j pos}:bh X (.Constant (.int i) j pos) (r4 (.int i)):=λ_ _ _ H _ I h=>wpAny_Constant_int ⟨.int i,H,I.tok _,⟨_,rfl⟩,h⟩
theorem hL{b j pos}:bh X (.Constant (.bool b) j pos) (r4 (.aM b)):=λ_ _ _ H _ I h=>Constant_bool ⟨.aM b,H,I,rfl,h⟩
theorem kG{j pos}:bh X (.Constant .none j pos) (r4 .bl):=λ_ _ _ H _ I h=>Constant_none ⟨.bl,H,I,rfl,h⟩
theorem jO{x j pos}:bh X (.Constant (.str x) j pos) (r4 (.str x)):=λ_ _ _ H _ I h=>Calls.Constant_str ⟨.str x,H,I.tok _,⟨_,rfl⟩,h⟩
noncomputable def iV(X:bb)(x:Str):Prop:=X.env.kindOf x=some .globalImplicit
theorem rJ{E:cx}{pins:cu}{s:aC}{σ:St}{H:ae}{x:Str}{u:Value}{pos:Pos}{Q:cx}(I:Inv X pins σ H s)(bP:iV X x)(hm:X.mg x=some u)(h:Q u s)(hd:(x==("__debug__":Str))=false:=by decide):aO (a6 X.prog X.w) X.A (eval (.Name x pos) X.env) Q E s:=
 Ż I.ok.kind bP (Calls.loadGlobal_global (by rw[I.ok.glob];exact I.mod.glob.keeps I.gq) hm h) hd
theorem vT{E:cx}{pins:cu}{s:aC}{σ:St}{H:ae}{x:Str}{u:Value}{pos:Pos}{Q:cx}(I:Inv X pins σ H s)(bP:iV X x)(hm:X.mg x=none)(bC:iY x=some u)(h:Q u s)(aS:x≠"__name__":=by decide)(hd:(x==("__debug__":Str))=false:=by decide):aO (a6 X.prog X.w) X.A (eval (.Name x pos) X.env) Q E s:=by obtain⟨oq,af,ai⟩:=I.mod.blt;exact Ż I.ok.kind bP (Calls.loadGlobal_builtin (by rw[I.ok.glob];exact I.mod.glob.keeps I.gq) hm (by rw[I.ok.blt];exact af.keeps I.gq) ((ai x aS).trans bC) h) hd
theorem VF{x:Str}{v:V}{u:Value}{pos:Pos}(bP:iV X x)(hm:X.mg x=some u)(r:RelV v u)(hd:(x==("__debug__":Str))=false:=by decide):bh X (.Name x pos) (r4 v):=
 λ_ _ _ H _ I h=>rJ I bP hm ⟨v,H,I,r,h⟩ hd
theorem ad1{x:Str}{v:V}{u:Value}{pos:Pos}(bP:iV X x)(hm:X.mg x=none)(bC:iY x=some u)(r:RelV v u)(aS:x≠"__name__":=by decide)(hd:(x==("__debug__":Str))=false:=by decide):bh X (.Name x pos) (r4 v):=
 λ_ _ _ H _ I h=>vT I bP hm bC ⟨v,H,I,r,h⟩ aS hd
variable{a b:Expr}{b4 c9:TE}{pos:Pos}
noncomputable def KQ(X:bb)(op:sk)(a b:Expr)(t:TE):Prop:=
 ∀(pins:cu)(s:aC)(σ:St)(H:ae)(Q:a'),Inv X pins σ H s->t σ H Q->
  aO (a6 X.prog X.w) X.A (eval a X.env) (λv dP=>aO (a6 X.prog X.w) X.A (eval b X.env) (λu qU=>aO (a6 X.prog X.w) X.A (js op v u) (ic X pins σ Q) X.dT qU) X.dT dP) X.dT s
theorem UA(b:Expr){op:sk}(h:op≠.In)(ai:op≠.NotIn):uS op b=false:=by
 have aE:(op==CmpOp.In)=false:=by cases op<;>first|rfl|exact bE rfl h
 have aB:(op==CmpOp.NotIn)=false:=by cases op<;>first|rfl|exact bE rfl ai
 cases b<;>simp[uS,aE,aB]
inductive Wl(x:V)(H1:ae)(Q:Bool->ae->Prop):Prop where
 |mk (c:_) (bV:x=.aM c) (bD:Q c H1)
noncomputable def Ē(t:TE):TT:=λσ H Q=>t σ H λx H1=>Wl x H1 Q
theorem age{op:sk}{t:TE}(h:KQ X op a b t)(af:uS op b=false:=by first|exact UA _ (by decide) (by decide)|rfl):bh X (.Compare a [op] [b] pos) t:=λpins s σ H Q I hw=>arC (h pins s σ H Q I hw) af
theorem JL{op:sk}{t:TE}(h:KQ X op a b t)(af:uS op b=false:=by first|exact UA _ (by decide) (by decide)|rfl):k9 X (.Compare a [op] [b] pos) (Ē t):=by intro pins s σ H Q I hw;refine arG (bB (h pins s σ H _ I hw) λv s1 af=>bB af λu s2 ai=>bB ai λc s3⟨x,H1,aP,cg,bM⟩=>?_) af;obtain⟨d,rfl,q⟩:=bM;cases cg;exact oL ⟨H1,aP,q⟩
theorem iK{e:Expr}{t:TE}(h:bh X e t)(he:∀whole,Hl e X.env whole=(do let v <-whole;r3 e.pos;lY [v] (truthy v)):=by intro _;rfl):k9 X e (Ē t):=by intro pins s σ H Q I hw;refine isTrue_plain (bB (h pins s σ H _ I hw) λv s1⟨x,H1,aP,cg,bM⟩=>?_) (he _);obtain⟨d,rfl,q⟩:=bM;cases cg;exact oL ⟨H1,aP,q⟩
variable{qV IJ:TT}{rest:gG}
noncomputable def K6(t u:TT):TT:=λσ H Q=>t σ H λc H1=>if c=true then u σ H1 Q else Q false H1
noncomputable def aq0(t u:TT):TT:=λσ H Q=>t σ H λc H1=>if c=true then Q true H1 else u σ H1 Q
noncomputable def air(t:TT):TT:=λσ H Q=>t σ H λc H1=>Q (!c) H1
theorem DW(aK:k9 X a qV):ih X (.BoolOp .And [a] pos) qV:=by
 intro j7 pins s σ H Q I h;refine isTrue_and (bB (aK pins s σ H Q I h) λc s1 e=>?_);cases c with
 |true=>exact isTrue_and_nil e
 |false=>exact e
theorem pk(aK:k9 X a qV):ih X (.BoolOp .Or [a] pos) qV:=by
 intro j7 pins s σ H Q I h;refine isTrue_or (bB (aK pins s σ H Q I h) λc s1 e=>?_);cases c with
 |false=>exact isTrue_or_nil e
 |true=>exact e
theorem tA(aK:k9 X a qV)(aa:ih X (.BoolOp .And (b::rest) pos) IJ):ih X (.BoolOp .And (a::b::rest) pos) (K6 qV IJ):=by
 intro j7 pins s σ H Q I h;refine isTrue_and (bB (aK pins s σ H _ I h) λc s1⟨H1,aP,bM⟩=>?_);cases c with
 |true=>exact aa j7 pins s1 σ H1 Q aP bM
 |false=>exact⟨H1,aP,bM⟩
theorem om(aK:k9 X a qV)(aa:ih X (.BoolOp .Or (b::rest) pos) IJ):ih X (.BoolOp .Or (a::b::rest) pos) (aq0 qV IJ):=by
 intro j7 pins s σ H Q I h;refine isTrue_or (bB (aK pins s σ H _ I h) λc s1⟨H1,aP,bM⟩=>?_);cases c with
 |true=>exact⟨H1,aP,bM⟩
 |false=>exact aa j7 pins s1 σ H1 Q aP bM
theorem i0(aK:k9 X a qV):k9 X (.UnaryOp .Not a pos) (air qV):=by intro pins s σ H Q I h;exact isTrue_not (aK pins s σ H (λc H1=>Q (!c) H1) I h)
noncomputable def E_(b4 c9:TE):TE:=λσ H Q=>b4 σ H λx H1=>∃c,x=.aM c/\if c=true then c9 σ H1 Q else Q (.aM false) H1
noncomputable def ais(b4 c9:TE):TE:=λσ H Q=>b4 σ H λx H1=>∃c,x=.aM c/\if c=true then Q (.aM true) H1 else c9 σ H1 Q
noncomputable def ahK(b4:TE):TE:=λσ H Q=>b4 σ H λx H1=>∃c,x=.aM c/\Q (.aM (!c)) H1
theorem mH{op}{t:TE}(h:bh X a t):bh X (.BoolOp op [a] pos) t:=λpins s σ H Q I hw=>BoolOp_one (h pins s σ H Q I hw)
theorem jw(aK:bh X a b4)(aa:bh X (.BoolOp .And (b::rest) pos) c9):bh X (.BoolOp .And (a::b::rest) pos) (E_ b4 c9):=by
 intro pins s σ H Q I h;refine BoolOp_and (bB (aK pins s σ H _ I h) λv s1⟨x,H1,aP,cg,bM⟩=>?_);obtain⟨c,rfl,bM⟩:=bM;cases cg;refine oL ?_;cases c with
 |true=>exact aa pins s1 σ H1 Q aP bM
 |false=>exact⟨.aM false,H1,aP,rfl,bM⟩
theorem ahL(aK:bh X a b4)(aa:bh X (.BoolOp .Or (b::rest) pos) c9):bh X (.BoolOp .Or (a::b::rest) pos) (ais b4 c9):=by
 intro pins s σ H Q I h;refine BoolOp_or (bB (aK pins s σ H _ I h) λv s1⟨x,H1,aP,cg,bM⟩=>?_);obtain⟨c,rfl,bM⟩:=bM;cases cg;refine oL ?_;cases c with
 |false=>exact aa pins s1 σ H1 Q aP bM
 |true=>exact⟨.aM true,H1,aP,rfl,bM⟩
theorem Wh(aK:bh X a b4):bh X (.UnaryOp .Not a pos) (ahK b4):=by intro pins s σ H Q I h;refine UnaryOp_ (bB (aK pins s σ H _ I h) λv s1⟨x,H1,aP,cg,bM⟩=>?_);obtain⟨c,rfl,bM⟩:=bM;cases cg;exact not_of (oL ⟨.aM (!c),H1,aP,rfl,bM⟩)
end
noncomputable def aG(K:aU)(H:ae)(a:Addr)(xs:aY):Prop:=
 gm H a (.lst xs)\/
  ∃(o:Obj)(its:ka)(n:Nat),K.lookup a=some o/\o.cls=.type "list"/\o.dict=none/\o.data=.seq its n/\its.size<=sizeLine/\cI xs its.toList
noncomputable def cH(K:aU)(H:ae)(a:Addr)(xs:aY):Prop:=
 gm H a (.tup xs)\/
  ∃(o:Obj)(its:ka)(n:Nat),K.lookup a=some o/\o.cls=.type "tuple"/\o.data=.seq its n/\its.size<=sizeLine/\cI xs its.toList
noncomputable def ait:Value->Option V
 |.none=>some .bl
 |.bool b=>some (.aM b)
 |.int i _=>some (.int i)
 |.str x _=>some (.str x)
 |.bytes b _=>some (.n0 b)
 |.float b _=>some (.vb b)
 |.ref a=>some (.ref a)
 |.type n=>some (.ty n)
 |_=>none
theorem RelV.abs{x:V}{u:Value}(r:RelV x u):ait u=some x:=by
 cases x with
 |bl=>cases r;rfl
 |aM _=>cases r;rfl
 |int _=>obtain⟨t,rfl⟩:=r;rfl
 |str _=>obtain⟨t,rfl⟩:=r;rfl
 |n0 _=>obtain⟨t,rfl⟩:=r;rfl
 |vb _=>obtain⟨t,rfl⟩:=r;rfl
 |ref _=>cases r;rfl
 |ty _=>cases r;rfl
theorem RelV.inj{x y:V}{u:Value}(r:RelV x u)(q:RelV y u):x=y:=hY (r.abs.symm.trans q.abs)
theorem cI.inj:∀{xs ys:aY}{us:cw},cI xs us->cI ys us->xs=ys
 |_,_,_,.nil,.nil=>rfl
 |_,_,_,.cons r t,.cons cD t'=>by rw[r.inj cD,cI.inj t t']
section
variable{X:bb}{pins:cu}{σ:St}{H:ae}{s:aC}{a:Addr}{xs ys:aY}
theorem aG.of{K:aU}(h:H a=some (.lst xs)):aG K H a xs:=.inl (.inl h)
theorem cH.of{K:aU}(h:H a=some (.tup xs)):cH K H a xs:=.inl (.inl h)
theorem Inv.list(I:Inv X pins σ H s)(h:aG X.K H a xs):∃its:List Value,cI xs its/\PlainL s.heap a its.toArray/\xs.length<=sizeLine:=by
 rcases h with h|⟨o,its,n,aX,ax,hd,hs,hz,r⟩
 .obtain⟨z,its,n,r,e⟩:=h.ok I.a_;exact⟨its,r,⟨_,n,e,rfl,rfl,rfl⟩,z⟩
 .refine⟨its.toList,r,⟨o,n,I.ew a o aX,ax,hd,by simpa using hs⟩,?_⟩;have e:=r.length;simp only[Jw]at e;omega
theorem Inv.tuple(I:Inv X pins σ H s)(h:cH X.K H a xs):∃its:List Value,cI xs its/\IsTup s.heap a its.toArray/\xs.length<=sizeLine:=by
 rcases h with h|⟨o,its,n,aX,ax,hs,hz,r⟩
 .obtain⟨z,its,r,p⟩:=h.ok I.a_;exact⟨its,r,p,z⟩
 .refine⟨its.toList,r,⟨o,I.ew a o aX,ax,n,by simpa using hs⟩,?_⟩;have e:=r.length;simp only[Jw]at e;omega
theorem Inv.Ω(I:Inv X pins σ H s)(h:aG X.K H a xs)(h':aG X.K H a ys):xs=ys:=by
 obtain⟨its,r,⟨o,n,e,_,_,d⟩,_⟩:=I.list h;obtain⟨its',cD,⟨cC,lx,cm,_,_,d'⟩,_⟩:=I.list h';rw[e]at cm;cases cm;rw[d]at d';injection d' with jK _;have:its=its':=by simpa using hh Ū jK
 subst this;exact r.inj cD
theorem Inv.ara(I:Inv X pins σ H s)(h:cH X.K H a xs)(h':cH X.K H a ys):xs=ys:=by
 obtain⟨its,r,⟨o,e,_,n,d⟩,_⟩:=I.tuple h;obtain⟨its',cD,⟨cC,cm,_,lx,d'⟩,_⟩:=I.tuple h';rw[e]at cm;cases cm;rw[d]at d';injection d' with jK _;have:its=its':=by simpa using hh Ū jK
 subst this;exact r.inj cD
end
noncomputable abbrev bb.ku(X:bb)(E:cx):bb:={X with dT:=E}
noncomputable abbrev bb.qE(X:bb):bb:=X.ku λ_ _=>False
theorem bb.Ok.ku{X:bb}(ok:X.Ok)(E:cx):(X.ku E).Ok:=
 ⟨ok.mod,ok.kind,ok.glob,ok.blt,ok.above,ok.inj,ok.has,ok.uX,ok.hd,ok.frames,ok.qT,ok.Gd,ok.bs,ok.p5,ok.vQ,ok.x4,ok.ke,ok.rt⟩
theorem bb.Ok.ks{X:bb}{E:cx}(ok:(X.ku E).Ok):X.Ok:=
 ⟨ok.mod,ok.kind,ok.glob,ok.blt,ok.above,ok.inj,ok.has,ok.uX,ok.hd,ok.frames,ok.qT,ok.Gd,ok.bs,ok.p5,ok.vQ,ok.x4,ok.ke,ok.rt⟩
section
variable{X:bb}{pins:cu}{σ:St}{H:ae}{s:aC}{E:cx}
theorem Inv.ku(I:Inv X pins σ H s)(E:cx):Inv (X.ku E) pins σ H s:=⟨I.ok.ku E,I.os,I.bare,I.base,I.loc,I.cell,I.free,I.mB,I.pin,I.a_,I.len⟩
theorem Inv.ks(I:Inv (X.ku E) pins σ H s):Inv X pins σ H s:=⟨I.ok.ks,I.os,I.bare,I.base,I.loc,I.cell,I.free,I.mB,I.pin,I.a_,I.len⟩
theorem o6.ks{D:Ends}{f:Flow}{s':aC}(h:o6 (X.ku E) pins D f s'):o6 X pins D f s':=by
 cases f with
 |next=>obtain⟨a3,H',I,q⟩:=h;exact⟨a3,H',I.ks,q⟩
 |brk=>obtain⟨a3,H',I,q⟩:=h;exact⟨a3,H',I.ks,q⟩
 |cont=>obtain⟨a3,H',I,q⟩:=h;exact⟨a3,H',I.ks,q⟩
 |ret u=>obtain⟨v,a3,H',I,r,q⟩:=h;exact⟨v,a3,H',I.ks,r,q⟩
theorem fV.qE{st:List Stmt}{t:eY}(h:fV X.qE st t):fV X st t:=λpins s σ H D I hw=>
 gf (h pins s σ H D (I.ku _) hw) (λ_ _ q=>q.ks) λ_ _ z=>hA z
end
section
variable{X:bb}{st:Stmt}{rest:List Stmt}{t u:eY}{e:Expr}{b0:TE}{pos:Pos}
noncomputable def zF:eY:=λD σ H=>D.b9 σ H
noncomputable def lz(t u:eY):eY:=λD σ H=>t {D with b9:=u D} σ H
theorem fi:fV X [] zF:=λ_ _ σ H _ I h=>r9 ⟨σ,H,I,h⟩
theorem bc(af:fN X st t)(ai:fV X rest u):fV X (st::rest) (lz t u):=by
 intro pins s σ H D I h;refine Jb (bB (af pins s σ H {D with b9:=u D} I h) λf s1 q=>?_);cases f with
 |next=>
  obtain⟨a3,H',oU,q⟩:=q;exact ai pins s1 a3 H' D oU q
 |ret v=>exact q
 |brk=>exact q
 |cont=>exact q
theorem bo(af:fN X st t):fV X [st] t:=by
 intro pins s σ H D I h;refine Jb (bB (af pins s σ H D I h) λf s1 q=>?_);cases f with
 |next=>exact r9 q
 |ret v=>exact q
 |brk=>exact q
 |cont=>exact q
theorem Inv.quiet{pins:cu}{σ:St}{H:ae}{s:aC}(I:Inv X pins σ H s):interactive X.env=false:=by simp[interactive,I.ok.kind]
noncomputable def ahM(b0:TE):eY:=λD σ H=>b0 σ H λ_ H1=>D.b9 σ H1
theorem gI(he:bh X e b0)(hs:wg e none pos.line X.env=pure false:=by rfl):fN X (.Expr e pos) (ahM b0):=by intro pins s σ H D I h;exact ĭ (bB (he pins s σ H _ I h) λv s1⟨x,H1,aP,cg,bM⟩=>⟨σ,H1,aP,bM⟩) I.quiet hs
noncomputable def Av(b0:TE):eY:=λD σ H=>b0 σ H D.l7
theorem c7(he:bh X e b0):fN X (.Return (some e) pos) (Av b0):=by intro pins s σ H D I h;exact wpAny_Return_some (bB (he pins s σ H _ I h) λv s1⟨x,H1,aP,cg,bM⟩=>⟨x,σ,H1,aP,cg,bM⟩)
noncomputable def Yd(c:TT)(t u:eY):eY:=λD σ H=>c σ H λb H1=>if b=true then t D σ H1 else u D σ H1
theorem eO{c:Expr}{a b:List Stmt}{j3:TT}(ax:k9 X c j3)(aK:fV X a t)(aa:fV X b u):fN X (.If c a b pos) (Yd j3 t u):=by
 intro pins s σ H D I h;refine wpAny_If (bB (ax pins s σ H _ I h) λd s1⟨H1,aP,bM⟩=>?_);cases d with
 |true=>exact aK pins s1 σ H1 D aP bM
 |false=>exact aa pins s1 σ H1 D aP bM
noncomputable def agf:eY:=λ_ _ _=>False
theorem SE:fN X st agf:=λ_ _ _ _ _ _ h=>h.elim
noncomputable abbrev jo:=V->St->ae->(St->ae->Prop)->Prop
noncomputable abbrev p2:=List V->St->ae->(St->ae->Prop)->Prop
end
noncomputable def pW(X:bb)(target:Expr)(t:jo):Prop:=
 ∀(pins:cu)(s:aC)(σ:St)(H:ae)(v:V)(u:Value)(Q:St->ae->Prop),Inv X pins σ H s->RelV v u->t v σ H Q->
  aO (a6 X.prog X.w) X.A (xV target X.env u) (λ_ s'=>∃a3 H',Inv X pins a3 H' s'/\Q a3 H') X.dT s
noncomputable def AY(X:bb)(ts:gG)(t:p2):Prop:=
 ∀(pins:cu)(s:aC)(σ:St)(H:ae)(vs:aY)(us:cw)(Q:St->ae->Prop),Inv X pins σ H s->cI vs us->t vs σ H Q->
  aO (a6 X.prog X.w) X.A (assignInOrder ((uO ts X.env).map (·.2)) us) (λ_ s'=>∃a3 H',Inv X pins a3 H' s'/\Q a3 H') X.dT s
noncomputable abbrev K7:=V->V->V->ae->(ae->Prop)->Prop
noncomputable def Ye(X:bb)(t:K7):Prop:=
 ∀(pins:cu)(s:aC)(σ:St)(H:ae)(o i v:V)(eI ji u:Value)(Q:ae->Prop),Inv X pins σ H s->RelV o eI->RelV i ji->RelV v u->t o i v H Q->
  aO (a6 X.prog X.w) X.A (setItem eI ji u) (λ_ s'=>∃H',Inv X pins σ H' s'/\Q H') X.dT s
section
variable{X:bb}{pos:Pos}
noncomputable def hJ(i:Nat):jo:=λv σ H Q=>Q (σ.set i (some v)) H
theorem ei{i:Nat}{x:Str}(eC:X.N.Nodup)(ar:X.N[i]?=some x)(av:Loc X.env.scope x)(hf:X.fn x=true\/X.env.scope.names.lookup x=some .local:=by first|exact .inl rfl|exact .inr rfl|assumption):pW X (.Name x pos) (hJ i):=by intro pins s σ H v u Q I r h;exact arF (Ij I eC ar av r (λs' oU=>⟨_,H,oU,h⟩) hf)
noncomputable def Aw:p2:=λvs σ H Q=>vs=[]/\Q σ H
inductive agg(t:jo)(u:p2)(vs:aY)(σ:ao.St)(H:ae)(Q:(ao.St->ae->Prop)):Prop where
 |mk (v:_) (r:_) (bV:vs=v::r) (bD:t v σ H λa3 H'=>u r a3 H' Q)
noncomputable def qG(t:jo)(u:p2):p2:=λvs σ H Q=>agg t u vs σ H Q
theorem pj:AY X [] Aw:=by intro pins s σ H vs us Q I r h;obtain⟨e,h⟩:=h;subst e;cases r;exact assignInOrder_nil ⟨σ,H,I,h⟩
theorem h3{e:Expr}{es:gG}{t:jo}{u:p2}(af:pW X e t)(ai:AY X es u)(hs:(uO (e::es) X.env).map (·.2)=xV e X.env::(uO es X.env).map (·.2):=by rfl):AY X (e::es) (qG t u):=by
 intro pins s σ H vs us Q I r h;obtain⟨v,I_,aE,h⟩:=h;subst aE;cases r with
 |cons r fI=>
  rw[hs];refine assignInOrder_cons (bB (af pins s σ H _ _ _ I r h) λ_ s1⟨nK,H1,aP,bM⟩=>?_);exact ai pins s1 nK H1 _ _ Q aP fI bM
inductive ahN(K:aU)(n:Nat)(t:p2)(v:ao.V)(σ:ao.St)(H:ae)(Q:(ao.St->ae->Prop)):Prop where
 |mk (a:_) (xs:_) (bV:v=.ref a) (bD:cH K H a xs) (b_:xs.length=n) (c_:t xs σ H Q)
noncomputable def xl(K:aU)(n:Nat)(t:p2):jo:=λv σ H Q=>ahN K n t v σ H Q
theorem vU{es:gG}{k:Nat}{t:p2}{n:Nat}(ax:X.calm=true)(h:AY X es t)(aS:(uO es X.env).length=n:=by rfl)(l0:(uO es X.env).findIdx? (·.1)=none:=by rfl):pW X (.Tuple es k pos) (xl X.K n t):=by intro pins s σ H v u Q I r hw;obtain⟨a,xs,aE,aT,aj,hw⟩:=hw;subst aE;cases r;obtain⟨its,b7,df,hz⟩:=I.tuple aT;refine assign_Tuple_tuple (I.ok.hd ax) df (by simp[aS,<-aj,b7.length]) l0 λh' av=>?_;have aP:Inv X pins σ H {s with heap:=h'}:=I.kept (t':=s.toks) λb o e=>av b o (eD (dD e)) e;exact h pins _ σ H xs _ Q aP (by simpa using b7) hw
noncomputable def ajl(to EA:TE)(t:K7):jo:=λv σ H Q=>to σ H λo H1=>EA σ H1 λi ah=>t o i v ah λbg=>Q σ bg
theorem agh{o i:Expr}{to EA:TE}{t:K7}(aZ:bh X o to)(ar:bh X i EA)(hs:Ye X t)(aK:∀v,xV (.Subscript o i pos) X.env v=(do
   let eI <-lY [v] (eval o X.env)
   let ji <-lY [v,eI] (eval i X.env)
   r3 pos
   lY [v,eI,ji] (setItem eI ji v)
   release [v,eI,ji] []):=by intro _;rfl):pW X (.Subscript o i pos) (ajl to EA t):=by intro pins s σ H v u Q I r h;rw[aK];refine aw (iD (bB (aZ pins s σ H _ I h) λeI s1⟨x,H1,aP,cg,bM⟩=>?_));refine aw (iD (bB (ar pins s1 σ H1 _ aP bM) λji s2⟨y,ah,bA,d5,cU⟩=>?_));refine aw (EU (aw (iD (bB (hs pins s2 σ ah x y v eI ji u _ bA cg d5 r cU) λ_ s3⟨bg,cZ,hn⟩=>?_))));exact wpAny_release ⟨σ,bg,cZ,hn⟩
noncomputable def qZ(b0:TE)(g:jo):eY:=λD σ H=>b0 σ H λx H1=>g x σ H1 D.b9
theorem JM{dv e:Expr}{b0:TE}{g:jo}(he:bh X e b0)(bP:pW X dv g)(hs:swapsWithSole [dv] e pos.line X.env=pure false:=by rfl)(hw:swappedStores [dv] e X.env=pure none:=by rfl)(af:(uO [dv] X.env).map (·.2)=[xV dv X.env]:=by rfl):fN X (.Assign [dv] e pos) (qZ b0 g):=by intro pins s σ H D I h;refine wpAny_Assign_stores (bB (he pins s σ H _ I h) λv s1⟨x,H1,aP,cg,bM⟩=>?_) hs hw;rw[af];exact bB (bP pins s1 σ H1 x v _ aP cg bM) λ_ s2 q=>q
theorem c8{i:Nat}{x:Str}{e:Expr}{b0:TE}{pos':Pos}(eC:X.N.Nodup)(ar:X.N[i]?=some x)(av:Loc X.env.scope x)(he:bh X e b0)(hs:wg e (some (.Name x pos')) pos.line X.env=pure false:=by rfl)(hf:X.fn x=true\/X.env.scope.names.lookup x=some .local:=by first|exact .inl rfl|exact .inr rfl|assumption):
  fN X (.Assign [.Name x pos'] e pos) (qZ b0 (hJ i)):=by intro pins s σ H D I h;refine wpAny_Assign_Name (bB (he pins s σ H _ I h) λv s1⟨y,H1,aP,cg,bM⟩=>?_) hs;exact Ij aP eC ar av cg (λs2 bA=>⟨_,H1,bA,bM⟩) hf
noncomputable def agi(c:TT)(c9:eY):eY:=λD σ H=>∃W:Nat->St->ae->Prop,(∃m,W m σ H)/\∀m σ H,W m σ H->
 c σ H λb H1=>if b=true then∃N:St->ae->Prop,(∀a3 H',N a3 H'->∃cP,cP<m/\W cP a3 H')/\c9 {D with b9:=N,e0:=N,gq:=D.b9} σ H1 else D.b9 σ H1
theorem abn{c:Expr}{body:List Stmt}{j3:TT}{c9:eY}(aR:PassesOwn (a6 X.prog X.w) X.A X.env X.dT)(ax:k9 X c j3)(aa:fV X body c9):fN X (.While c body [] pos) (agi j3 c9):=by
 intro pins s σ H D I h;obtain⟨W,⟨m0,wC⟩,turn⟩:=h;refine wpAny_While (codeAny_whileLoop (λn s'=>∃a3 H',Inv X pins a3 H' s'/\W n a3 H') ?_ m0 ⟨σ,H,I,wC⟩);rintro n s1 ⟨nK,H1,aP,fe⟩;refine zq aR (bB (ax pins s1 nK H1 _ aP (turn n nK H1 fe)) λb s2⟨ah,bA,cU⟩=>?_);cases b with
 |true=>
  obtain⟨N,eC,cU⟩:=cU;rw[bL rfl];refine zq aR (bB (aa pins s2 nK ah _ bA cU) λf s3 hn=>?_);cases f with
  |next=>
   obtain⟨gT,bg,cZ,ot⟩:=hn;obtain⟨cP,hm,hx⟩:=eC gT bg ot;exact⟨cP,hm,gT,bg,cZ,hx⟩
  |cont=>
   obtain⟨gT,bg,cZ,ot⟩:=hn;obtain⟨cP,hm,hx⟩:=eC gT bg ot;exact⟨cP,hm,gT,bg,cZ,hx⟩
  |brk=>exact hn
  |ret v=>exact hn
 |false=>
  rw[bF ff];exact r9 ⟨nK,ah,bA,cU⟩
structure fT where
 go:Nat->ae->Prop
 nI:Nat->ae->V->ae->Prop
 stop:Nat->ae->Prop
end
noncomputable def sd(X:bb)(pins:cu)(H:ae)(b:Addr):Prop:=
 H b=none/\b≠X.env.locals/\b∉X.fs/\(b∈X.ex\/X.iz.heap.objs.size<=b)/\(∀x c,X.env.cells.lookup x=some c->c≠b)/\∀p∈X.e9++pins,p.1≠b
theorem Inv.rr{X:bb}{pins:cu}{σ:St}{H H':ae}{s:aC}{b:Addr}(I:Inv X pins σ H s)(aa:s.heap.objs.size<=b)(aS:H' b=none):sd X pins H' b:=by
 refine⟨aS,xH (j' I.lt aa),I.apz aa,.inr (e3 I.i' aa),λx c e z=>?_,λp aR z=>?_⟩
 .obtain⟨v,q⟩:=I.cell x c e;exact bE (j' q.lt (by rw[z];exact aa)) (pU _)
 .exact bE (j' (dD (I.pin p aR).1) (by rw[z];exact aa)) (pU _)
structure Turn(P:bJ)(w:bq)(K:aU)(dv:Expr)(J:fT)(cb:bS)(it:Addr)(gR:Nat->Heap->Prop):Prop where
 mem:it∈cb
 obj:∀i h,gR i h->∀b∈cb,∃o,h.get? b=some o/\∀v,o.data≠.cell v
 keep:∀i h h',gR i h->(∀b∈cb,∀o,h.get? b=some o->h'.get? b=some o)->gR i h'
 item:∀(X:bb),X.prog=P->X.w=w->X.K=K->X.calm=true->∀(i:Nat)(pins:cu)(s:aC)(σ:St)(H:ae)(E:cx),Inv X pins σ H s->(∀b∈cb,sd X pins H b)->gR i s.heap->J.go i H->
  aO (a6 P w) X.A (ib (.ref it)) (λr s1=>∃u,r=some u/\
   aO (a6 P w) X.A (PS dv (.ref it) u) (λ_ s2=>∃x H',Inv X pins σ H' s2/\RelV x u/\J.nI i H x H'/\gR (i+1) s2.heap/\∀b∈cb,H' b=none) E s1) E s
 done:∀(X:bb),X.prog=P->X.w=w->X.K=K->X.calm=true->∀(i:Nat)(pins:cu)(s:aC)(σ:St)(H:ae)(E:cx),Inv X pins σ H s->(∀b∈cb,sd X pins H b)->gR i s.heap->J.stop i H->
  aO (a6 P w) X.A (ib (.ref it)) (λr s1=>r=none/\Inv X pins σ H s1) E s
 self:∀(A:cW)(i:Nat)(s:aC)(Q:cx)(E:cx),gR i s.heap->Q (.ref it) s->aO (a6 P w) A (yY (.ref it)) Q E s
noncomputable abbrev TI:=St->ae->(fT->ae->Prop)->Prop
noncomputable def KR(X:bb)(pins:cu)(σ:St)(dv:Expr)(R:fT->ae->Prop)(Pm:Value)(s2:aC):Prop:=
 ∃(it:Addr)(cb:bS)(gR:Nat->Heap->Prop)(J:fT)(H':ae),Pm=.ref it/\Inv X pins σ H' s2/\Turn X.prog X.w X.K dv J cb it gR/\gR 0 s2.heap/\(∀b∈cb,sd X pins H' b)/\R J H'
noncomputable def nU(X:bb)(dv iter:Expr)(dc:TI):Prop:=
 ∀(pins:cu)(s:aC)(σ:St)(H:ae)(R:fT->ae->Prop),Inv X pins σ H s->dc σ H R->
  aO (a6 X.prog X.w) X.A (eval iter X.env) (λv s1=>aO (a6 X.prog X.w) X.A (yY v) (KR X pins σ dv R) X.dT s1) X.dT s
theorem zm{M:k8}{A:cW}{E:cx}{s:aC}{dv:Expr}{it:Addr}{u:Value}{o:Obj}{n:String}{vs:ka}{Q:Unit->aC->Prop}(aZ:s.heap.get? it=some o)(ax:o.cls=.type n)(hd:o.data=.fields vs)(aS:["enumerate","zip","dict_itemiterator","dict_reverseitemiterator","odict_iterator","itertools.zip_longest","itertools.pairwise"].contains n=false)(e8:Q () s):aO M A (PS dv (.ref it) u) Q E s:=by
  unfold PS;cases dv<;>first
    |exact bf e8
    | (cases u<;>first
        |exact bf e8
        | (refine aw (wpAny_load aZ ?_)
           rw[ax,hd];show aO M A (if(["enumerate","zip","dict_itemiterator","dict_reverseitemiterator","odict_iterator","itertools.zip_longest","itertools.pairwise"].contains n&&vs[0]?==some (oC _))=true then _ else _) Q E s;rw[bF (by intro h;rw[aS,ů]at h;cases h)];exact bf e8))
noncomputable def mf(K:aU)(a:Addr):fT:=
 ⟨λi H=>∃xs x,aG K H a xs/\xs[i]?=some x,λi H x H'=>H'=H/\∀xs,aG K H a xs->xs[i]?=some x,λi H=>∃xs,aG K H a xs/\xs.length<=i⟩
noncomputable def Au(K:aU)(a:Addr):fT:=
 ⟨λi H=>∃xs x,cH K H a xs/\xs[i]?=some x,λi H x H'=>H'=H/\∀xs,cH K H a xs->xs[i]?=some x,λi H=>∃xs,cH K H a xs/\xs.length<=i⟩
noncomputable def nO(lo:Int)(n:Nat):fT:=⟨λi _=>i<n,λi H x H'=>H'=H/\x=.int (lo+i),λi _=>n<=i⟩
theorem aa8{P:bJ}{w:bq}{K:aU}{dv:Expr}(a it:Addr):Turn P w K dv (mf K a) [it] it (λi h=>h.IsListIter it a i)where
 mem:=by simp
 obj:=λi h st b aa=>by
  have e:b=it:=by simpa using aa
  subst e;obtain⟨o,e,c,d⟩:=st;exact⟨o,e,λv z=>by rw[d]at z;cases z⟩
 keep:=λi h h' st k=>st.at λo e=>k it (by simp) o e
 item:=by intro X gu hw fY ax i pins s σ H E I hf st bP;subst gu hw fY;obtain⟨xs,x,aT,av⟩:=bP;obtain⟨its,b7,p,hz⟩:=I.list aT;obtain⟨u,b8,er⟩:=b7.get av;obtain⟨f0,f1,f2,cv,f4,fl⟩:=hf it (by simp);refine wpAny_pyNext_list_item st p.isList (x:=u) (by simpa using b8) λh' fJ b'=>?_;have aP:Inv X pins σ H {s with heap:=h'}:=I.turned (t':=s.toks) (λb o aa e=>(b'.2 b aa).trans e) f0 f1 cv f4 fl;obtain⟨o,e,c,d⟩:=id fJ;exact⟨u,rfl,zm (s:={s with heap:=h'}) e c d (by decide) ⟨x,H,aP,er,⟨rfl,λys cM=>by rw[I.Ω cM aT];exact av⟩,fJ,λb aa=>(hf b aa).1⟩⟩
 done:=by intro X gu hw fY ax i pins s σ H E I hf st bP;subst gu hw fY;obtain⟨xs,aT,av⟩:=bP;obtain⟨its,b7,p,hz⟩:=I.list aT;obtain⟨f0,f1,f2,cv,f4,fl⟩:=hf it (by simp);have aj:=b7.length;exact wpAny_pyNext_list_end (I.ok.hd ax) st p.isList (by simp;omega) λh' ea=>⟨rfl,I.turned (t':=s.toks) (λb o aa e=>ea b o aa e) f0 f1 cv f4 fl⟩
 self:=λ_ _ _ _ _ st h=>wpAny_pyIter_listiter st h
theorem aan{P:bJ}{w:bq}{K:aU}{dv:Expr}(a it:Addr):Turn P w K dv (Au K a) [it] it (λi h=>h.IsTupleIter it a i)where
 mem:=by simp
 obj:=λi h st b aa=>by
  have e:b=it:=by simpa using aa
  subst e;obtain⟨o,e,c,d⟩:=st;exact⟨o,e,λv z=>by rw[d]at z;cases z⟩
 keep:=λi h h' st k=>st.at λo e=>k it (by simp) o e
 item:=by intro X gu hw fY ax i pins s σ H E I hf st bP;subst gu hw fY;obtain⟨xs,x,aT,av⟩:=bP;obtain⟨its,b7,p,hz⟩:=I.tuple aT;obtain⟨u,b8,er⟩:=b7.get av;obtain⟨f0,f1,f2,cv,f4,fl⟩:=hf it (by simp);refine wpAny_pyNext_tuple_item st (show s.heap.IsTuple a its.toArray from p) (x:=u) (by simpa using b8) λh' fJ b'=>?_;have aP:Inv X pins σ H {s with heap:=h'}:=I.turned (t':=s.toks) (λb o aa e=>(b'.2 b aa).trans e) f0 f1 cv f4 fl;obtain⟨o,e,c,d⟩:=id fJ;exact⟨u,rfl,zm (s:={s with heap:=h'}) e c d (by decide) ⟨x,H,aP,er,⟨rfl,λys cM=>by rw[I.ara cM aT];exact av⟩,fJ,λb aa=>(hf b aa).1⟩⟩
 done:=by intro X gu hw fY ax i pins s σ H E I hf st bP;subst gu hw fY;obtain⟨xs,aT,av⟩:=bP;obtain⟨its,b7,p,hz⟩:=I.tuple aT;obtain⟨f0,f1,f2,cv,f4,fl⟩:=hf it (by simp);have aj:=b7.length;exact wpAny_pyNext_tuple_end (I.ok.hd ax) st (show s.heap.IsTuple a its.toArray from p) (by simp;omega) λh' ea=>⟨rfl,I.turned (t':=s.toks) (λb o aa e=>ea b o aa e) f0 f1 cv f4 fl⟩
 self:=λ_ _ _ _ _ st h=>wpAny_pyIter_tupleiter st h
theorem aao{P:bJ}{w:bq}{K:aU}{dv:Expr}(it:Addr)(lo:Int)(n:Nat):Turn P w K dv (nO lo n) [it] it (λi h=>IsRangeIter h it (lo+(i:Nat)*1) ((n:Int)-(i:Nat)) 1)where
 mem:=by simp
 obj:=λi h st b aa=>by
  have e:b=it:=by simpa using aa
  subst e;exact⟨_,st,λv z=>by
   have di:Vo _=Vn v:=z;cases di⟩
 keep:=λi h h' st k=>k it (by simp) _ st
 item:=by intro X gu hw fY ax i pins s σ H E I hf st bP;subst gu hw fY;obtain⟨f0,f1,f2,cv,f4,fl⟩:=hf it (by simp);have W:=Walks.range (prog:=X.prog) (w:=X.w) (I.ok.hd ax) it lo 1 n;refine W.item i s _ _ bP st λv h' a4 bC fJ bT=>?_;obtain⟨t,rfl⟩:=bC;have aP:Inv X pins σ H {s with heap:=h',toks:=a4}:=I.turned (λb o aa e=>bT b o (by simpa using aa) e) f0 f1 cv f4 fl;refine⟨_,rfl,zm (s:={s with heap:=h',toks:=a4}) (n:="range_iterator") fJ rfl rfl (by decide) ⟨.int (lo+i),H,aP,⟨t,?_⟩,⟨rfl,rfl⟩,fJ,λb aa=>(hf b aa).1⟩⟩;rw[Int.mul_one]
 done:=by intro X gu hw fY ax i pins s σ H E I hf st bP;subst gu hw fY;obtain⟨f0,f1,f2,cv,f4,fl⟩:=hf it (by simp);exact wpAny_pyNext_range_end (I.ok.hd ax) st (by have:n<=i:=bP;omega) λh' ea=>⟨rfl,I.turned (t':=s.toks) (λb o aa e=>ea b o aa e) f0 f1 cv f4 fl⟩
 self:=λ_ _ _ _ _ st h=>wpAny_pyIter_rangeiter st h
section
variable{X:bb}{dv:Expr}
inductive ajm(K:aU)(x:V)(H1:ae)(R:fT->ae->Prop):Prop where
 |mk (a:_) (bV:x=.ref a) (bD:(∃xs,aG K H1 a xs)) (b_:R (mf K a) H1)
noncomputable def ahO(K:aU)(dk:TE):TI:=λσ H R=>dk σ H λx H1=>ajm K x H1 R
noncomputable def ajn(K:aU)(dk:TE):TI:=λσ H R=>dk σ H λx H1=>∃a,x=.ref a/\(∃xs,cH K H1 a xs)/\R (Au K a) H1
theorem jL{l:Expr}{dk:TE}(aj:bh X l dk):nU X dv l (ahO X.K dk):=by
 intro pins s σ H R I h;refine bB (aj pins s σ H _ I h) λv s1⟨x,H1,aP,cg,bM⟩=>?_;obtain⟨a,e,⟨xs,aT⟩,q⟩:=bM;subst e;cases cg;obtain⟨its,b7,p,hz⟩:=aP.list aT;refine zr p.isList ?_;refine⟨s1.heap.objs.size,[s1.heap.objs.size],_,_,H1,rfl,aP.kept (t':=s1.toks) λb o e=>dG _ e,aa8 a _,⟨_,gi _ rfl,rfl,rfl⟩,λb aa=>?_,q⟩;have e:b=s1.heap.objs.size:=by simpa using aa
 subst e;exact aP.rr (cj _) (aP.a_.fresh (cj _))
theorem Wi{l:Expr}{dk:TE}(aj:bh X l dk):nU X dv l (ajn X.K dk):=by
 intro pins s σ H R I h;refine bB (aj pins s σ H _ I h) λv s1⟨x,H1,aP,cg,bM⟩=>?_;obtain⟨a,e,⟨xs,aT⟩,q⟩:=bM;subst e;cases cg;obtain⟨its,b7,p,hz⟩:=aP.tuple aT;refine wpAny_pyIter_tuple (show s1.heap.IsTuple a its.toArray from p) ?_;refine⟨s1.heap.objs.size,[s1.heap.objs.size],_,_,H1,rfl,aP.kept (t':=s1.toks) λb o e=>dG _ e,aan a _,⟨_,gi _ rfl,rfl,rfl⟩,λb aa=>?_,q⟩;have e:b=s1.heap.objs.size:=by simpa using aa
 subst e;exact aP.rr (cj _) (aP.a_.fresh (cj _))
theorem abo{pins:cu}{σ:St}{H:ae}{s:aC}{R:fT->ae->Prop}{E:cx}{lo ar:Int}{t u v:Tok}{a4:Nat}(I:Inv X pins σ H s)(af:-(2 ^ 62)<=lo)(ai:lo<2 ^ 62)(bR:-(2 ^ 62)<=ar)(cS:ar<2 ^ 62)(q:R (nO lo (ar-lo).toNat) H):aO (a6 X.prog X.w) X.A (yY (.ref s.heap.objs.size)) (KR X pins σ dv R) E {s with heap:=s.heap.push {cls:=.type "range",data:=.fields #[.int lo t,.int ar u,.int 1 v]},toks:=a4}:=by
 refine wpAny_pyIter_range (IsRange.new ..) (small_one af ai bR cS) ?_;have aP:Inv X pins σ H {s with heap:=s.heap.push {cls:=.type "range",data:=.fields #[.int lo t,.int ar u,.int 1 v]},toks:=a4}:=I.kept λb o e=>dG _ e;refine⟨(s.heap.push {cls:=.type "range",data:=.fields #[.int lo t,.int ar u,.int 1 v]}).objs.size,[(s.heap.push {cls:=.type "range",data:=.fields #[.int lo t,.int ar u,.int 1 v]}).objs.size],_,_,H,rfl,
  aP.kept (t':=a4) λb o e=>dG _ e,aao _ lo (ar-lo).toNat,?_,λb aa=>?_,q⟩
 .have aE:lo+((0:Nat):Int)*1=lo:=by simp
  have aB:(((ar-lo).toNat:Nat):Int)-((0:Nat):Int)=asy lo ar 1:=by rw[rangeSize_one];split<;>omega
  show IsRangeIter _ _ (lo+((0:Nat):Int)*1) ((((ar-lo).toNat:Nat):Int)-((0:Nat):Int)) 1;rw[aE,aB];exact gi _ rfl
 .have e:b=(s.heap.push {cls:=.type "range",data:=.fields #[.int lo t,.int ar u,.int 1 v]}).objs.size:=by simpa using aa
  subst e;exact aP.rr (cj _) (aP.a_.fresh (cj _))
noncomputable def ahP(b4:f7):TI:=λσ H R=>b4 σ H λvs H1=>∃j:Int,vs=[.int j]/\-(2 ^ 62)<=j/\j<2 ^ 62/\R (nO 0 j.toNat) H1
theorem yr{a:Expr}{b4:f7}{p pos:Pos}(bP:iV X "range")(hm:X.mg "range"=none)(aK:fM X [a] b4)(hs:dR [a] X.env=[(false,eval a X.env)]:=by rfl):nU X dv (.Call (.Name "range" p) [a] [] pos) (ahP b4):=by
 intro pins s σ H R I h;refine Call_ (vT I bP hm boot_range (Xt (bB (aK pos pins s σ H _ I h) λus s1⟨vs,H1,aP,cg,bM⟩=>?_) hs rfl));obtain⟨j,e,bM,cU,q⟩:=bM;subst e;cases cg with
 |cons r fI=>
  cases fI;obtain⟨t,rfl⟩:=r;exact call_range_1 (abo aP (by omega) (by omega) bM cU (by simpa using q))
noncomputable def ajo(dc:TI)(g:jo)(c9:eY):eY:=λD σ H=>dc σ H λJ H1=>∃W:Nat->Nat->St->ae->Prop,(∃m,W 0 m σ H1)/\∀i m σ H,W i m σ H->
 (J.stop i H/\D.b9 σ H)\/(J.go i H/\∃N:St->ae->Prop,(∀a3 H',N a3 H'->∃cP,cP<m/\W (i+1) cP a3 H')/\∀x H',J.nI i H x H'->g x σ H' λet ah=>c9 {D with b9:=N,e0:=N,gq:=D.b9} et ah)
noncomputable def EF(cb:bS)(h:Heap):List (Addr×Obj):=cb.filterMap λb=>(h.get? b).map λo=>(b,o)
theorem HK{cb:bS}{h:Heap}{b:Addr}{o:Obj}(aa:b∈cb)(e:h.get? b=some o):(b,o)∈EF cb h:=Ko.mpr ⟨b,aa,by rw[e];rfl⟩
theorem aa9{cb:bS}{h:Heap}{p:Addr×Obj}(aR:p∈EF cb h):p.1∈cb/\h.get? p.1=some p.2:=by
 obtain⟨b,aa,e⟩:=Ko.mp aR;cases q:h.get? b with
 |none=>rw[q]at e;cases e
 |some o=>
  rw[q]at e;have cm:(b,o)=p:=hY e;subst cm;exact⟨aa,q⟩
theorem Inv.pinned{pins:cu}{σ:St}{H:ae}{s:aC}{cb:bS}(I:Inv X pins σ H s)(hf:∀b∈cb,sd X pins H b)(aZ:∀b∈cb,∃o,s.heap.get? b=some o/\∀v,o.data≠.cell v):Inv X (pins++EF cb s.heap) σ H s:=
 I.î λp aR=>(hX.mp aR).elim (λz=>I.pin p (rh _ z)) λz=>by obtain⟨aa,e⟩:=aa9 z;obtain⟨f0,f1,f2,_⟩:=hf p.1 aa;obtain⟨o,cm,d⟩:=aZ p.1 aa;rw[e]at cm;cases cm;exact⟨e,f0,f1,f2,d⟩
theorem Inv.I5{pins pl:cu}{σ:St}{H:ae}{s:aC}(I:Inv X (pins++pl) σ H s):Inv X pins σ H s:=I.î λp aR=>I.pin p (rh _ (acE _ aR))
theorem kd{iter:Expr}{body:List Stmt}{dc:TI}{g:jo}{c9:eY}{pos:Pos}(aR:PassesOwn (a6 X.prog X.w) X.A X.env X.dT)(ax:X.calm=true)(ar:nU X dv iter dc)(bP:pW X dv g)(aa:fV X body c9)(hs:∀x,Na iter X.env x=pure x:=by intro _;rfl):fN X (.For dv iter body [] pos) (ajo dc g c9):=by
 intro pins s σ H D I h;refine wpAny_For (bB (ar pins s σ H _ I h) λv s1 af=>bB af λPm s2 ai=>?_) hs;obtain⟨it,cb,gR,J,ah,e,bA,T,IG,f2,W,⟨m0,wC⟩,turn⟩:=ai;subst e;have wd:∀{H':ae},(∀b∈cb,H' b=none)->∀b∈cb,sd X pins H' b:=λaS b aa=>⟨aS b aa,(f2 b aa).2⟩
 refine codeAny_forLoop_any (λn s'=>∃i a3 H',Inv X pins a3 H' s'/\gR i s'.heap/\(∀b∈cb,H' b=none)/\W i n a3 H') ?_ m0 ⟨0,σ,ah,bA,IG,λb aa=>(f2 b aa).1,wC⟩;rintro n s3 ⟨i,gT,bg,cZ,Ĉ,Zr,hx⟩;rcases turn i n gT bg hx with⟨stop,oB⟩|⟨go,N,eC,step⟩
 .refine zq aR (bB (T.done X rfl rfl rfl ax i pins s3 gT bg X.dT cZ (wd Zr) Ĉ stop) λr s4⟨aq,jF⟩=>?_);subst aq;exact r9 ⟨gT,bg,jF,oB⟩
 .refine zq aR (bB (T.item X rfl rfl rfl ax i pins s3 gT bg X.dT cZ (wd Zr) Ĉ go) λr s4⟨u,aq,cS⟩=>?_);subst aq;refine zq aR (bB cS λ_ s5⟨x,bx,jn,v7,wI,wc,Cm⟩=>?_);have J9:=jn.pinned (wd Cm) (T.obj _ _ wc);refine zq aR (bB (bP _ s5 gT bx x u _ J9 v7 (step x bx wI)) λ_ fR⟨E1,f6,rf,Q9⟩=>?_);refine zq aR (bB (aa _ fR E1 f6 _ rf Q9) λf gd nB=>?_);have again:∀{pP:St}{eQ:ae},Inv X (pins++EF cb s5.heap) pP eQ gd->N pP eQ->∃m,m<n/\∃i a3 H',Inv X pins a3 H' gd/\gR i gd.heap/\(∀b∈cb,H' b=none)/\W i m a3 H':=λ{pP eQ}j9 pv=>by obtain⟨cP,hm,Td⟩:=eC pP eQ pv;refine⟨cP,hm,i+1,pP,eQ,j9.I5,T.keep _ _ _ wc λb aa o e=>(j9.pin (b,o) (rh _ (rh _ (HK aa e)))).1,λb aa=>?_,Td⟩;obtain⟨o,e,d⟩:=T.obj _ _ wc b aa;exact(j9.pin (b,o) (rh _ (rh _ (HK aa e)))).2.1
  cases f with
  |next=>obtain⟨pP,eQ,j9,pv⟩:=nB;exact again j9 pv
  |cont=>obtain⟨pP,eQ,j9,pv⟩:=nB;exact again j9 pv
  |brk=>obtain⟨pP,eQ,j9,nB⟩:=nB;exact⟨pP,eQ,j9.I5,nB⟩
  |ret v=>obtain⟨wH,pP,eQ,j9,aqb,nB⟩:=nB;exact⟨wH,pP,eQ,j9.I5,aqb,nB⟩
theorem qd{K:aU}{a:Addr}{xs:aY}{g:jo}{c9:eY}{D:Ends}{σ:St}{H:ae}(Pv:Nat->St->ae->Prop)(h0:Pv 0 σ H)(aj:∀i σ H,i<=xs.length->Pv i σ H->aG K H a xs)(hs:∀i x σ H,xs[i]?=some x->Pv i σ H->g x σ H λet ah=>c9 {D with b9:=Pv (i+1),e0:=Pv (i+1),gq:=D.b9} et ah)(hd:∀σ H,Pv xs.length σ H->D.b9 σ H):
  ∃W:Nat->Nat->St->ae->Prop,(∃m,W 0 m σ H)/\∀i m σ H,W i m σ H->
   ((mf K a).stop i H/\D.b9 σ H)\/((mf K a).go i H/\∃N:St->ae->Prop,(∀a3 H',N a3 H'->∃cP,cP<m/\W (i+1) cP a3 H')/\∀x H',(mf K a).nI i H x H'->g x σ H' λet ah=>c9 {D with b9:=N,e0:=N,gq:=D.b9} et ah):=by
 refine⟨λi m σ H=>m=xs.length-i/\i<=xs.length/\Pv i σ H,⟨xs.length,by simp,e4 _,h0⟩,?_⟩;rintro i m σ H ⟨rfl,ar,p⟩;have q:=aj i σ H ar p;by_cases cK:i<xs.length
 .refine .inr ⟨⟨xs,xs[i],q,by simp[cK]⟩,Pv (i+1),λa3 H' hu=>⟨xs.length-(i+1),by omega,rfl,cK,hu⟩,λx H' y=>?_⟩;obtain⟨e,y⟩:=y;subst e;exact hs i x σ _ (y xs q) p
 .have e:i=xs.length:=by omega
  subst e;exact .inl ⟨⟨xs,q,cj _⟩,hd σ H p⟩
theorem VG{K:aU}{a:Addr}{xs:aY}{g:jo}{c9:eY}{D:Ends}{σ:St}{H:ae}(Pv:Nat->St->ae->Prop)(h0:Pv 0 σ H)(aj:∀i σ H,i<=xs.length->Pv i σ H->cH K H a xs)(hs:∀i x σ H,xs[i]?=some x->Pv i σ H->g x σ H λet ah=>c9 {D with b9:=Pv (i+1),e0:=Pv (i+1),gq:=D.b9} et ah)(hd:∀σ H,Pv xs.length σ H->D.b9 σ H):
  ∃W:Nat->Nat->St->ae->Prop,(∃m,W 0 m σ H)/\∀i m σ H,W i m σ H->
   ((Au K a).stop i H/\D.b9 σ H)\/((Au K a).go i H/\∃N:St->ae->Prop,(∀a3 H',N a3 H'->∃cP,cP<m/\W (i+1) cP a3 H')/\∀x H',(Au K a).nI i H x H'->g x σ H' λet ah=>c9 {D with b9:=N,e0:=N,gq:=D.b9} et ah):=by
 refine⟨λi m σ H=>m=xs.length-i/\i<=xs.length/\Pv i σ H,⟨xs.length,by simp,e4 _,h0⟩,?_⟩;rintro i m σ H ⟨rfl,ar,p⟩;have q:=aj i σ H ar p;by_cases cK:i<xs.length
 .refine .inr ⟨⟨xs,xs[i],q,by simp[cK]⟩,Pv (i+1),λa3 H' hu=>⟨xs.length-(i+1),by omega,rfl,cK,hu⟩,λx H' y=>?_⟩;obtain⟨e,y⟩:=y;subst e;exact hs i x σ _ (y xs q) p
 .have e:i=xs.length:=by omega
  subst e;exact .inl ⟨⟨xs,q,cj _⟩,hd σ H p⟩
theorem Ŋ{lo:Int}{n:Nat}{g:jo}{c9:eY}{D:Ends}{σ:St}{H:ae}(Pv:Nat->St->ae->Prop)(h0:Pv 0 σ H)(hs:∀i σ H,i<n->Pv i σ H->g (.int (lo+i)) σ H λet ah=>c9 {D with b9:=Pv (i+1),e0:=Pv (i+1),gq:=D.b9} et ah)(hd:∀σ H,Pv n σ H->D.b9 σ H):
  ∃W:Nat->Nat->St->ae->Prop,(∃m,W 0 m σ H)/\∀i m σ H,W i m σ H->
   ((nO lo n).stop i H/\D.b9 σ H)\/((nO lo n).go i H/\∃N:St->ae->Prop,(∀a3 H',N a3 H'->∃cP,cP<m/\W (i+1) cP a3 H')/\∀x H',(nO lo n).nI i H x H'->g x σ H' λet ah=>c9 {D with b9:=N,e0:=N,gq:=D.b9} et ah):=by
 refine⟨λi m σ H=>m=n-i/\i<=n/\Pv i σ H,⟨n,by simp,e4 _,h0⟩,?_⟩;rintro i m σ H ⟨rfl,ar,p⟩;by_cases cK:i<n
 .refine .inr ⟨cK,Pv (i+1),λa3 H' hu=>⟨n-(i+1),by omega,rfl,cK,hu⟩,λx H' y=>?_⟩;obtain⟨e,y⟩:=y;subst e y;exact hs i σ _ cK p
 .have e:i=n:=by omega
  subst e;exact .inl ⟨cj _,hd σ H p⟩
noncomputable abbrev ha:=V->V->ae->a'->Prop
end
noncomputable def gD(X:bb)(f:Value->Value->Sem Value)(r:ha):Prop:=
 ∀(pins:cu)(s:aC)(σ:St)(H:ae)(x y:V)(v u:Value)(Q:a'),Inv X pins σ H s->RelV x v->RelV y u->r x y H Q->
  aO (a6 X.prog X.w) X.A (f v u) (ic X pins σ Q) X.dT s
noncomputable def K_(X:bb)(f:Value->Sem Value)(r:V->ae->a'->Prop):Prop:=
 ∀(pins:cu)(s:aC)(σ:St)(H:ae)(x:V)(v:Value)(Q:a'),Inv X pins σ H s->RelV x v->r x H Q->
  aO (a6 X.prog X.w) X.A (f v) (ic X pins σ Q) X.dT s
noncomputable def jU(X:bb)(f:Value)(r:List V->ae->a'->Prop):Prop:=
 ∀(pins:cu)(s:aC)(σ:St)(H:ae)(xs:aY)(us:cw)(Q:a'),Inv X pins σ H s->cI xs us->r xs H Q->
  aO (a6 X.prog X.w) X.A (call f us) (ic X pins σ Q) X.dT s
noncomputable def Ez(r:ha)(b4 c9:TE):TE:=λσ H Q=>b4 σ H λx H1=>c9 σ H1 λy ah=>r x y ah Q
noncomputable def aq2(r:V->ae->a'->Prop)(b4:TE):TE:=λσ H Q=>b4 σ H λx H1=>r x H1 Q
inductive aby(C:Int->Int->Prop)(g:Int->Int->V)(x:ao.V)(y:ao.V)(H:ae)(Q:a'):Prop where
 |mk (i:_) (j:_) (bV:x=.int i) (bD:y=.int j) (b_:C i j) (c_:Q (g i j) H)
noncomputable def D9(C:Int->Int->Prop)(g:Int->Int->V):ha:=λx y H Q=>aby C g x y H Q
inductive ajp(g:Int->Int->V)(x:ao.V)(y:ao.V)(H:ae)(Q:a'):Prop where
 |mk (i:_) (j:_) (bV:x=.int i) (bD:y=.int j) (b_:Q (g i j) H)
noncomputable def v8(g:Int->Int->V):ha:=λx y H Q=>ajp g x y H Q
inductive abz(g:Int->V)(x:V)(H:ae)(Q:a'):Prop where
 |mk (i:_) (bV:x=.int i) (bD:Q (g i) H)
noncomputable def ö(g:Int->V):V->ae->a'->Prop:=λx H Q=>abz g x H Q
section
variable{X:bb}{a b c:Expr}{b4 c9 j3:TE}{pos:Pos}
theorem K8(aK:bh X a b4)(aa:bh X b c9){pins:cu}{s:aC}{σ:St}{H:ae}{R:V->V->ae->Prop}(I:Inv X pins σ H s)(h:b4 σ H λx H1=>c9 σ H1 λy ah=>R x y ah){Q:cx}{f:Value->Value->Sem Value}(hf:∀v u s2 x y ah,Inv X pins σ ah s2->RelV x v->RelV y u->R x y ah->aO (a6 X.prog X.w) X.A (f v u) Q X.dT s2):
  aO (a6 X.prog X.w) X.A (eval a X.env) (λv dP=>aO (a6 X.prog X.w) X.A (eval b X.env) (λu qU=>aO (a6 X.prog X.w) X.A (f v u) Q X.dT qU) X.dT dP) X.dT s:=by refine bB (aK pins s σ H _ I h) λv s1⟨x,H1,aP,cg,bM⟩=>?_;refine bB (aa pins s1 σ H1 _ aP bM) λu s2⟨y,ah,bA,d5,cU⟩=>?_;exact hf v u s2 x y ah bA cg d5 cU
theorem bH{op:Operator}{r:ha}(aZ:gD X (sJ op) r)(aK:bh X a b4)(aa:bh X b c9):bh X (.BinOp a op b pos) (Ez r b4 c9):=by intro pins s σ H Q I h;exact wpAny_BinOp (K8 aK aa I h λv u s2 x y ah bA bz bG q=>aZ pins s2 σ ah x y v u Q bA bz bG q)
theorem Ka{op:UnaryOp}{r:V->ae->a'->Prop}(aZ:K_ X (unaryOp op) r)(aK:bh X a b4):bh X (.UnaryOp op a pos) (aq2 r b4):=by intro pins s σ H Q I h;exact UnaryOp_ (bB (aK pins s σ H _ I h) λv s1⟨x,H1,aP,cg,bM⟩=>aZ pins s1 σ H1 x v Q aP cg bM)
theorem H7{f:Value->Value->Sem Value}{C:Int->Int->Prop}{g:Int->Int->Int}(rule:∀(i j:Int)(t u:Tok)(s:aC)(Q:cx)(E:cx),C i j->Q (.int (g i j) s.toks) {s with toks:=s.toks+1}->aO (a6 X.prog X.w) X.A (f (.int i t) (.int j u)) Q E s):
  gD X f (D9 C λi j=>.int (g i j)):=by intro pins s σ H x y v u Q I bz bG h;obtain⟨i,j,rfl,rfl,ax,q⟩:=h;obtain⟨t,rfl⟩:=bz;obtain⟨t',rfl⟩:=bG;exact rule i j t t' s _ _ ax ⟨.int (g i j),H,I.tok _,⟨_,rfl⟩,q⟩
theorem Yf{f:Value->Value->Sem Value}{g:Int->Int->Int}(rule:∀(i j:Int)(t u:Tok)(s:aC)(Q:cx)(E:cx),Q (.int (g i j) s.toks) {s with toks:=s.toks+1}->aO (a6 X.prog X.w) X.A (f (.int i t) (.int j u)) Q E s):
  gD X f (v8 λi j=>.int (g i j)):=by intro pins s σ H x y v u Q I bz bG h;obtain⟨i,j,rfl,rfl,q⟩:=h;obtain⟨t,rfl⟩:=bz;obtain⟨t',rfl⟩:=bG;exact rule i j t t' s _ _ ⟨.int (g i j),H,I.tok _,⟨_,rfl⟩,q⟩
theorem K9{f:Value->Value->Sem Value}{g:Int->Int->Bool}(rule:∀(i j:Int)(t u:Tok)(s:aC)(Q:cx)(E:cx),Q (.bool (g i j)) s->aO (a6 X.prog X.w) X.A (f (.int i t) (.int j u)) Q E s):
  gD X f (v8 λi j=>.aM (g i j)):=by intro pins s σ H x y v u Q I bz bG h;obtain⟨i,j,rfl,rfl,q⟩:=h;obtain⟨t,rfl⟩:=bz;obtain⟨t',rfl⟩:=bG;exact rule i j t t' s _ _ ⟨.aM (g i j),H,I,rfl,q⟩
noncomputable def ajq(i j:Int):Prop:=0<j/\j<1073741824
noncomputable def ajr(i j:Int):Prop:=0<=j/\j<=1000000/\i.natAbs<2 ^ 64
noncomputable def K3(i j:Int):Prop:=(-(2 ^ 64)<i/\i<2 ^ 64)\/(-(2 ^ 64)<j/\j<2 ^ 64)
theorem K3.ok{i j:Int}(h:K3 i j):IntMulOk i j:=by
 rcases h with⟨af,ai⟩|⟨af,ai⟩
 .exact .of_left (intBits_le_64 af ai)
 .exact .of_right (intBits_le_64 af ai)
theorem h4:gD X (sJ .Add) (v8 λi j=>.int (i+j)):=Yf λ_ _ _ _ _ _ _ q=>add_int q
theorem rN:gD X (sJ .Sub) (v8 λi j=>.int (i-j)):=Yf λ_ _ _ _ _ _ _ q=>sub_int q
theorem tB:gD X (sJ .Mult) (D9 K3 λi j=>.int (i*j)):=H7 λ_ _ _ _ _ _ _ ax q=>mul_int q ax.ok
theorem gY:gD X (sJ .FloorDiv) (D9 ajq λi j=>.int (i/j)):=H7 λi j _ _ _ _ _ ax q=>by have af:(0:Int)<j:=ax.1;have ai:j<1073741824:=ax.2;exact floordiv_int (by omega) (by rw[Int.fdiv_eq_ediv_of_nonneg i (by omega)];exact q) (.inl (PyProof.noPylong_small (by omega)))
theorem eZ:gD X (sJ .Mod) (D9 (λ_ j=>0<j) λi j=>.int (i%j)):=H7 λi j _ _ _ _ _ ax q=>by have af:(0:Int)<j:=ax;exact mod_int' (by omega) (by rw[Int.fmod_eq_emod_of_nonneg i (by omega)];exact q)
theorem Jn:gD X (sJ .Pow) (D9 ajr λi j=>.int (i ^ j.toNat)):=H7 λ_ _ _ _ _ _ _ ax q=>pow_int_small ax.1 ax.2.1 ax.2.2 q
theorem ard{f:Value->Sem Value}{g:Int->Int}(rule:∀(i:Int)(t:Tok)(s:aC)(Q:cx)(E:cx),Q (.int (g i) s.toks) {s with toks:=s.toks+1}->aO (a6 X.prog X.w) X.A (f (.int i t)) Q E s):
  K_ X f (ö λi=>.int (g i)):=by intro pins s σ H x v Q I bz h;obtain⟨i,rfl,q⟩:=h;obtain⟨t,rfl⟩:=bz;exact rule i t s _ _ ⟨.int (g i),H,I.tok _,⟨_,rfl⟩,q⟩
theorem JN:K_ X (unaryOp .USub) (ö λi=>.int (-i)):=ard λ_ _ _ _ _ q=>neg_int q
noncomputable def Yg:V->V->Bool
 |.bl,.bl=>true|.bl,.int _=>true|.int _,.bl=>true|.bl,.aM _=>true|.aM _,.bl=>true|.bl,.str _=>true|.str _,.bl=>true
 |.int _,.int _=>true|.aM _,.aM _=>true|.str _,.str _=>true|.n0 _,.n0 _=>true
 |.int _,.str _=>true|.str _,.int _=>true|.aM _,.str _=>true|.str _,.aM _=>true
 |_,_=>false
noncomputable def aqc:ha:=λx y H Q=>Yg x y=true/\Q (.aM (decide (x=y))) H
noncomputable def aqe:ha:=λx y H Q=>Yg x y=true/\Q (.aM (!decide (x=y))) H
theorem I6{i j:Int}:decide (V.int i=V.int j)=(i==j):=by rw[zR];simp
theorem Wj{i j:Bool}:decide (V.aM i=V.aM j)=(i==j):=by rw[zR];simp
theorem VH{i j:Str}:decide (V.str i=V.str j)=(i==j):=by rw[zR];simp
theorem VI{i j:Array UInt8}:decide (V.n0 i=V.n0 j)=(i.toList==j.toList):=by rw[zR];cases i;cases j;simp
theorem gp{pins:cu}{σ:St}{H:ae}{s:aC}{Q:a'}{k Dh:Bool}(I:Inv X pins σ H s)(q:Q (.aM k) H)(e:k=Dh):ic X pins σ Q (.bool Dh) s:=by subst e;exact⟨.aM k,H,I,rfl,q⟩
theorem i2:gD X (js .Eq) aqc:=by
 intro pins s σ H x y v u Q I bz bG h;obtain⟨hs,q⟩:=h;cases x with
 |bl=>
  cases bz;cases y with
  |bl=>cases bG;exact asV (gp I q (by simp))
  |aM j=>cases bG;exact asT (gp I q (by simp))
  |int j=>obtain⟨t',rfl⟩:=bG;exact asU (gp I q (by simp))
  |str j=>obtain⟨t',rfl⟩:=bG;exact asW (gp I q (by simp))
  |_=>exact bE (show false=true from hs) ff
 |aM i=>
  cases bz;cases y with
  |bl=>cases bG;exact asR (gp I q (by simp))
  |aM j=>cases bG;exact eq_bool (gp I q Wj)
  |str j=>obtain⟨t',rfl⟩:=bG;exact asJ (gp I q (by simp))
  |_=>exact bE (show false=true from hs) ff
 |int i=>
  obtain⟨t,rfl⟩:=bz;cases y with
  |bl=>cases bG;exact asS (gp I q (by simp))
  |int j=>obtain⟨t',rfl⟩:=bG;exact eq_int (gp I q I6)
  |str j=>obtain⟨t',rfl⟩:=bG;exact asK (gp I q (by simp))
  |_=>exact bE (show false=true from hs) ff
 |str i=>
  obtain⟨t,rfl⟩:=bz;cases y with
  |bl=>cases bG;exact asX (gp I q (by simp))
  |aM j=>cases bG;exact asL (gp I q (by simp))
  |int j=>obtain⟨t',rfl⟩:=bG;exact asM (gp I q (by simp))
  |str j=>obtain⟨t',rfl⟩:=bG;exact eq_str (gp I q VH)
  |_=>exact bE (show false=true from hs) ff
 |n0 i=>
  obtain⟨t,rfl⟩:=bz;cases y with
  |n0 j=>obtain⟨t',rfl⟩:=bG;exact PySem.W.eq_bytes (gp I q VI)
  |_=>exact bE (show false=true from hs) ff
 |_=>cases y<;>exact bE (show false=true from hs) ff
theorem wt:gD X (js .NotEq) aqe:=by
 intro pins s σ H x y v u Q I bz bG h;obtain⟨hs,q⟩:=h;cases x with
 |bl=>
  cases bz;cases y with
  |bl=>cases bG;exact as2 (gp I q (by simp))
  |aM j=>cases bG;exact as0 (gp I q (by simp))
  |int j=>obtain⟨t',rfl⟩:=bG;exact as1 (gp I q (by simp))
  |str j=>obtain⟨t',rfl⟩:=bG;exact as3 (gp I q (by simp))
  |_=>exact bE (show false=true from hs) ff
 |aM i=>
  cases bz;cases y with
  |bl=>cases bG;exact asY (gp I q (by simp))
  |aM j=>cases bG;exact ne_bool (gp I q (hh not Wj))
  |str j=>obtain⟨t',rfl⟩:=bG;exact asN (gp I q (by simp))
  |_=>exact bE (show false=true from hs) ff
 |int i=>
  obtain⟨t,rfl⟩:=bz;cases y with
  |bl=>cases bG;exact asZ (gp I q (by simp))
  |int j=>obtain⟨t',rfl⟩:=bG;exact ne_int (gp I q (hh not I6))
  |str j=>obtain⟨t',rfl⟩:=bG;exact asO (gp I q (by simp))
  |_=>exact bE (show false=true from hs) ff
 |str i=>
  obtain⟨t,rfl⟩:=bz;cases y with
  |bl=>cases bG;exact as4 (gp I q (by simp))
  |aM j=>cases bG;exact asP (gp I q (by simp))
  |int j=>obtain⟨t',rfl⟩:=bG;exact asQ (gp I q (by simp))
  |str j=>obtain⟨t',rfl⟩:=bG;exact ne_str (gp I q (hh not VH))
  |_=>exact bE (show false=true from hs) ff
 |n0 i=>
  obtain⟨t,rfl⟩:=bz;cases y with
  |n0 j=>obtain⟨t',rfl⟩:=bG;exact PySem.W.ne_bytes (gp I q (hh not VI))
  |_=>exact bE (show false=true from hs) ff
 |_=>cases y<;>exact bE (show false=true from hs) ff
theorem pw:gD X (js .Lt) (v8 λi j=>.aM (decide (i<j))):=K9 λ_ _ _ _ _ _ _ q=>lt_int q
theorem px:gD X (js .LtE) (v8 λi j=>.aM (decide (i<=j))):=K9 λ_ _ _ _ _ _ _ q=>le_int q
theorem wu:gD X (js .Gt) (v8 λi j=>.aM (decide (j<i))):=K9 λ_ _ _ _ _ _ _ q=>gt_int q
theorem Wk:gD X (js .Is) (λx y H Q=>y=.bl/\Q (.aM (decide (x=.bl))) H):=by
 intro pins s σ H x y v u Q I bz bG h;obtain⟨rfl,q⟩:=h;cases bG;refine is_none_gen (gp I q ?_);cases x<;>first
  | (cases bz;rfl)
  | (obtain⟨t,rfl⟩:=bz;rfl)
theorem TS:gD X (js .IsNot) (λx y H Q=>y=.bl/\Q (.aM (!decide (x=.bl))) H):=by
 intro pins s σ H x y v u Q I bz bG h;obtain⟨rfl,q⟩:=h;cases bG;refine isnot_none_gen (gp I q ?_);cases x<;>first
  | (cases bz;rfl)
  | (obtain⟨t,rfl⟩:=bz;rfl)
theorem dr(b:Expr){op:sk}(h:op≠.In:=by decide)(ai:op≠.NotIn:=by decide):uS op b=false:=by
 have aE:(op==CmpOp.In)=false:=by cases op<;>first|rfl|exact bE rfl h
 have aB:(op==CmpOp.NotIn)=false:=by cases op<;>first|rfl|exact bE rfl ai
 cases b<;>simp[uS,aE,aB]
theorem iZ{op:sk}{r:ha}(aZ:gD X (js op) r)(aK:bh X a b4)(aa:bh X b c9)(hm:uS op b=false):bh X (.Compare a [op] [b] pos) (Ez r b4 c9):=by intro pins s σ H Q I h;exact arC (K8 aK aa I h λv u s2 x y ah bA bz bG q=>aZ pins s2 σ ah x y v u Q bA bz bG q) hm
noncomputable def XY(t:TE):TT:=λσ H Q=>t σ H λx H'=>Wl x H' Q
theorem eu{op:sk}{r:ha}(aZ:gD X (js op) r)(aK:bh X a b4)(aa:bh X b c9)(hm:uS op b=false):k9 X (.Compare a [op] [b] pos) (XY (Ez r b4 c9)):=by
 intro pins s σ H Q I h;refine arG (bB (aK pins s σ H _ I h) λv s1⟨x,H1,aP,cg,bM⟩=>bB (aa pins s1 σ H1 _ aP bM) λu s2⟨y,ah,bA,d5,cU⟩=>
  bB (aZ pins s2 σ ah x y v u _ bA cg d5 cU) λc s3⟨z,bg,cZ,pE,k,e,hn⟩=>?_) hm
 subst e;cases pE;exact oL ⟨bg,cZ,hn⟩
noncomputable def Wt(r cD:ha)(b4 c9 j3:TE):TE:=λσ H Q=>b4 σ H λx H1=>c9 σ H1 λy ah=>r x y ah λz bg=>∃k,z=.aM k/\
 (if k=true then j3 σ bg λeT dV=>cD y eT dV Q else Q (.aM false) bg)
theorem SF{op vS:sk}{r cD:ha}(aZ:gD X (js op) r)(kL:gD X (js vS) cD)(aK:bh X a b4)(aa:bh X b c9)(ax:bh X c j3)(hm:lastMarks [op,vS] [b,c]=false:=by with_unfolding_all rfl):bh X (.Compare a [op,vS] [b,c] pos) (Wt r cD b4 c9 j3):=by
 intro pins s σ H Q I h;refine Compare_chain (bB (aK pins s σ H _ I h) λv s1⟨x,H1,aP,cg,bM⟩=>chain_link (bB (aa pins s1 σ H1 _ aP bM) λu s2⟨y,ah,bA,d5,cU⟩=>
  bB (aZ pins s2 σ ah x y v u _ bA cg d5 cU) λd s3⟨z,bg,cZ,pE,k,e,hn⟩=>?_)) hm
 subst e;cases pE;refine oL ?_;cases k with
 |false=>exact ite_ff ⟨.aM false,bg,cZ,rfl,hn⟩
 |true=>exact ite_tt (chain_last (bB (ax pins s3 σ bg _ cZ hn) λeT s4⟨di,dV,jF,v5,rR⟩=>kL pins s4 σ dV y di u eT Q jF d5 v5 rR))
theorem SG{op vS:sk}{r cD:ha}(aZ:gD X (js op) r)(kL:gD X (js vS) cD)(aK:bh X a b4)(aa:bh X b c9)(ax:bh X c j3)(hm:lastMarks [op,vS] [b,c]=false:=by with_unfolding_all rfl):k9 X (.Compare a [op,vS] [b,c] pos) (XY (Wt r cD b4 c9 j3)):=by
 intro pins s σ H Q I h;refine isTrue_chain (bB (aK pins s σ H _ I h) λv s1⟨x,H1,aP,cg,bM⟩=>test_link (bB (aa pins s1 σ H1 _ aP bM) λu s2⟨y,ah,bA,d5,cU⟩=>
  bB (aZ pins s2 σ ah x y v u _ bA cg d5 cU) λd s3⟨z,bg,cZ,pE,k,e,hn⟩=>?_)) hm
 subst e;cases pE;refine oL ?_;cases k with
 |false=>
  obtain⟨Dh,cm,fH⟩:=hn;cases cm;exact ite_ff ⟨bg,cZ,fH⟩
 |true=>
  refine ite_tt (test_last (bB (ax pins s3 σ bg _ cZ hn) λeT s4⟨di,dV,jF,v5,rR⟩=>bB (kL pins s4 σ dV y di u eT _ jF d5 v5 rR) λd' s5⟨bD,bx,jn,v7,k2,aB,DU⟩=>?_));subst aB;cases v7;exact oL ⟨bx,jn,DU⟩
theorem yZ:(sizeLine:Nat)<2 ^ 63:=by rw[pH];decide
theorem C5:gD X (sJ .Add) (λx y H Q=>∃i j,x=.str i/\y=.str j/\i.length+j.length<=sizeLine/\Q (.str (i++j)) H):=by intro pins s σ H x y v u Q I bz bG h;obtain⟨i,j,rfl,rfl,hz,q⟩:=h;obtain⟨t,rfl⟩:=bz;obtain⟨t',rfl⟩:=bG;exact add_str (λt' a4=>⟨.str (i++j),H,I.tok _,⟨_,rfl⟩,q⟩) hz
theorem vals1{x:V}{us:cw}(r:cI [x] us):∃u,us=[u]/\RelV x u:=by
 cases r with
 |cons cg d5=>cases d5;exact⟨_,rfl,cg⟩
theorem vals2{x y:V}{us:cw}(r:cI [x,y] us):∃u eT,us=[u,eT]/\RelV x u/\RelV y eT:=by
 cases r with
 |cons cg d5=>
  cases d5 with
  |cons pE v5=>cases v5;exact⟨_,_,rfl,cg,pE⟩
theorem ŋ:jU X (.type "int") (λxs H Q=>(∃i,xs=[.int i]/\Q (.int i) H)\/∃k,xs=[.aM k]/\Q (.int (if k then 1 else 0)) H):=by
 intro pins s σ H xs us Q I r h;rcases h with⟨i,rfl,q⟩|⟨k,rfl,q⟩
 .obtain⟨u,rfl,t,rfl⟩:=vals1 r;exact call_int_int ⟨.int i,H,I,⟨_,rfl⟩,q⟩
 .obtain⟨u,rfl,cg⟩:=vals1 r;cases cg;exact call_int_bool ⟨.int (if k then 1 else 0),H,I.tok _,⟨_,rfl⟩,q⟩
structure uf(h:Heap)(x ag C:Addr)(mA:cB):Prop where
 obj:h.get? x=some (uD C ag)
 ns:h.Ns1 ag mA
 ne:ag≠x
end
theorem aba{h:Heap}{ag:Addr}{mA:cB}(n:h.Ns1 ag mA):∃d4,h.get? ag=some d4/\∀name,KZ name d4=some (mA name):=by
 obtain⟨o,es,ep,aZ,hd,aX,_,hm⟩:=n;refine⟨o,aZ,λname=>?_⟩;have e:=hm name;unfold nsFind findBy at e;rw[<-Array.find?_toList]at e;unfold KZ;rw[hd];dsimp only;split
 .rename_i y q;rw[q]at e;exact hh some e
 .rename_i q;rw[q]at e;have a:es.toList.any (·.refKey)=false:=by rw[acw];intro y cM;obtain⟨z,t,yk⟩:=aX y (Array.mem_toList_iff.mp cM);simp[DictEntry.refKey,yk]
  have bt:¬es.toList.any (·.refKey)=true:=by rw[a];exact ff
  rw[bF bt];exact hh some e
theorem uf.look{h:Heap}{x ag C:Addr}{mA:cB}(I:uf h x ag C mA):∃d4,PySem.W.InstAt h x (uD C ag) C (some d4)/\∀name,KZ name d4=some (mA name):=
 let⟨d4,aZ,aj⟩:=aba I.ns
 ⟨d4,⟨I.obj,rfl,rfl,aZ⟩,aj⟩
section
variable{prog:bJ}{w:bq}{A:cW}{E:cx}{s:aC}{K:aU}{x ag C f:Addr}{mA:cB}{name:Str}{v:Value}
theorem ad2{expr:Bool}{Q:cx}(X:K.In s.heap)(I:uf s.heap x ag C mA)(bP:uE K C name=true)(dy:o3 K C=true)(aK:b1 K (.ref C) name=some none)(bC:mA name=some v)(OF:XB v=true)(h:Q v {s with toks:=s.toks+1}):
  aO (a6 prog w) A (Nh (.ref x) name expr) Q E s:=by obtain⟨d4,J,aj⟩:=I.look;exact PySem.W.get_value X J (XF bP).1 (PySem.W.findObj_own dy aK rfl (by rw[aj,bC])) OF h
theorem acb{pl:Sem Bool}{Q:Value×List Value->aC->Prop}(X:K.In s.heap)(I:uf s.heap x ag C mA)(bP:uE K C name=true)(hf:b1 K (.ref C) name=some (some (.ref f)))(df:fO K (.ref f)=true)(bC:mA name=none)(h:Q (.ref f,[.ref x]) s):
  aO (a6 prog w) A (vf (.ref x) name pl) Q E s:=by obtain⟨d4,J,aj⟩:=I.look;exact PySem.W.method_fn X J (XF bP).1 (XF bP).2 hf (o9.mp df) (by show(KZ name d4).map (·.isSome)=some false;rw[aj,bC];rfl) h
theorem ad3{ns:cf}{Q:Unit->aC->Prop}(X:K.In s.heap)(I:uf s.heap x ag C mA)(hs:b1 K (.ref C) "__setattr__"=some (some (.builtin "object.__setattr__")))(aR:A6 K C=true)(df:XH K C name=some none)(dy:o3 K C=true)(hw:xO mA ns)(hsz:ns.length<=sizeLine)(h:∀h',uf h' x ag C (λy=>if y=name then some v else mA y)->kv ag s.heap h'->Q () {s with heap:=h',toks:=s.toks+2}):
  aO (a6 prog w) A (Et (.ref x) name v) Q E s:=by obtain⟨d4,J,aj⟩:=I.look;refine PySem.W.set_plain X J hs (PySem.W.osa_open (s:={s with toks:=s.toks+1}) (r:=none) X J aR df λb=>?_);obtain⟨cd,ax,mE⟩:=ael dy;have av:s.heap.get? x=some ⟨.ref C,some ag,.plain,#[]⟩:=I.obj;refine aw (bf (aw (aw (arI av (aw (PySem.W.Looks.here (s:={s with toks:=s.toks+1}) (aeu X ax) ?_))))));rw[mE];refine bf (a:=some ag) (aw (bf (aw ?_)));refine wpAny_nsSet1 (s:={s with toks:=s.toks+1}) I.ns λh' G6 kM=>?_;obtain⟨apO,amC,amA,Og,NN,NM⟩:=G6.count (XI name v hw);refine aw (arJ Og (by rw[NN];exact apW (e3 NM (by rw[mj];omega))) ?_);exact bf (h _ ⟨(kM.2 _ (cL I.ne)).trans I.obj,G6,I.ne⟩ kM)
theorem acd{R:m3->aC->Prop}{vs:cw}{kw:List (Str×Value)}(X:K.In s.heap)(hm:A4 K C=true)(ar:b1 K (.ref C) "__init__"=some (some (.ref f)))(hf:uF K (.ref f)=some (.type "function"))(h:jJ (a6 prog w) (A.under (.builtin "type.__call__" ⟨.ref C::vs,kw⟩)) (.call (.ref f) ⟨.ref (s.heap.objs.size+1)::vs,kw⟩) (PySem.W.InitBack (s.heap.objs.size+1) R)
   {s with heap:=(s.heap.push sA).push (uD C s.heap.objs.size)}):
  jJ (a6 prog w) A (.call (.ref C) ⟨vs,kw⟩) R s:=by obtain⟨dy,g,d,t,os⟩:=s;exact PySem.W.make_core (PySem.W.makes_of X hm) (rk X ar) (λself=>aem X self hf) (.inl rfl) h
end
noncomputable def jX(f:Str)(v:V):List (Str×V)->List (Str×V)
 |[]=>[(f,v)]
 | (g,x)::r=>if g=f then(g,v)::r else(g,x)::jX f v r
theorem Qj(f g:Str)(v:V):∀fs:List (Str×V),(jX f v fs).lookup g=if g=f then some v else fs.lookup g
 |[]=>by
  show sr g [(f,v)]=_;by_cases h:g=f
  .have aa:(g==f)=true:=o9.mpr h;simp only[sr,aa,bL h]
  .have aa:(g==f)=false:=uT.mpr h;simp only[sr,aa,bF h]
 | (k,x)::r=>by
  have a8:=Qj f g v r;rw[show jX f v ((k,x)::r)=(if k=f then(k,v)::r else(k,x)::jX f v r)from rfl];by_cases aX:k=f
  .rw[bL aX];by_cases h:g=k
   .have aa:(g==k)=true:=o9.mpr h;simp only[sr,aa,bL (h.trans aX)]
   .have aa:(g==k)=false:=uT.mpr h;simp only[sr,aa,bF (λe:g=f=>h (e.trans aX.symm))]
  .rw[bF aX];by_cases h:g=k
   .have aa:(g==k)=true:=o9.mpr h;simp only[sr,aa,bF (λe:g=f=>aX (h.symm.trans e))]
   .have aa:(g==k)=false:=uT.mpr h;simp only[sr,aa];exact a8
theorem Dn(f:Str)(v:V):∀fs:List (Str×V),f∈(jX f v fs).map (·.1)/\∀g,g∈fs.map (·.1)->g∈(jX f v fs).map (·.1)
 |[]=>⟨by simp[jX],λg h=>by simp at h⟩
 | (k,x)::r=>by
  obtain⟨OM,aos⟩:=Dn f v r;rw[show jX f v ((k,x)::r)=(if k=f then(k,v)::r else(k,x)::jX f v r)from rfl];by_cases aX:k=f
  .rw[bL aX];subst aX;exact⟨by simp,λg h=>by simpa using h⟩
  .rw[bF aX];refine⟨?_,λg h=>?_⟩
   .rw[hW];exact mm _ OM
   .rw[hW]at h⊢;rcases dA.mp h with e|e
    .exact dA.mpr (.inl e)
    .exact mm _ (aos g e)
theorem Qk(f:Str)(v:V):∀fs:List (Str×V),(jX f v fs).length<=fs.length+1
 |[]=>by simp[jX]
 | (k,x)::r=>by
  have a8:=Qk f v r;rw[show jX f v ((k,x)::r)=(if k=f then(k,v)::r else(k,x)::jX f v r)from rfl];by_cases aX:k=f
  .rw[bL aX,mj,mj];omega
  .rw[bF aX,mj,mj];omega
theorem iQ.some_of{v:V}{o:xR}(r:iQ (some v) o):∃u,o=some u/\RelV v u:=by
 cases o with
 |none=>exact(show False from r).elim
 |some u=>exact⟨u,rfl,r⟩
theorem iQ.none_of{o:xR}(r:iQ none o):o=none:=by
 cases o with
 |none=>rfl
 |some u=>exact(show False from r).elim
theorem Ō{v:V}{u:Value}(r:RelV v u):XB u=true:=by
 cases v with
 |bl=>cases(show u=fP from r);rfl
 |aM b=>cases(show u=Lk b from r);rfl
 |int i=>obtain⟨t,e⟩:=(show∃t,u=nX i t from r);cases e;rfl
 |str x=>obtain⟨t,e⟩:=(show∃t,u=uM x t from r);cases e;rfl
 |n0 b=>obtain⟨t,e⟩:=(show∃t,u=Value.bytes b t from r);cases e;rfl
 |vb b=>obtain⟨t,e⟩:=(show∃t,u=X_ b t from r);cases e;rfl
 |ref a=>cases(show u=cy a from r);rfl
 |ty n=>cases(show u=sF n from r);rfl
section
variable{P:bJ}{w:bq}{H H':ae}{h h':Heap}{a C ag:Addr}{fs amN:List (Str×V)}
theorem I7(a_:fg P w H h)(e:H a=some (.ins C ag fs)):∃mA,uf h a ag C mA/\(∀f,iQ (fs.lookup f) (mA f))/\xO mA (fs.map (·.1))/\fs.length<=1000/\H ag=some (.own a):=by
 obtain⟨d,z,ne,ob,mA,n,r,q⟩:=(show ee P w H h a (.ins C ag fs)from a_ a _ e)
 exact⟨mA,⟨ob,n,ne⟩,r,q,z,d⟩
end
structure fp(K:aU)(C:Addr):Prop where
 apX:uE K C mr=true
 hd:o3 K C=true
 po:A6 K C=true
 iT:b1 K (.ref C) "__setattr__"=some (some (.builtin "object.__setattr__"))
theorem fp.get{K:aU}{C:Addr}(c:fp K C)(f:Str):uE K C f=true:=c.apX
noncomputable def tC(K:aU)(C:Addr)(f:Str):Prop:=b1 K (.ref C) f=some none
theorem tC.aq3{K:aU}{C:Addr}{f:Str}(n:tC K C f):XH K C f=some none:=by unfold XH;rw[show b1 K (.ref C) f=some none from n];rfl
structure Meth(K:aU)(C:Addr)(m:Str)(f:Addr):Prop where
 at_:b1 K (.ref C) m=some (some (.ref f))
 fn:fO K (.ref f)=true
 bQ:o4 K (.ref f)=true
section
variable{X:bb}{pins:cu}{σ:St}{H:ae}{s:aC}{a C ag:Addr}{fs:List (Str×V)}{f:Str}{v:V}{A:cW}{E:cx}
theorem aap{b:Bool}{Q:cx}(I:Inv X pins σ H s)(e:H a=some (.ins C ag fs))(c:fp X.K C)(n:tC X.K C f)(l:fs.lookup f=some v)(h:∀u s',Inv X pins σ H s'->RelV v u->Q u s'):aO (a6 X.prog X.w) A (Nh (.ref a) f b) Q E s:=by obtain⟨mA,O,r,_,_,_⟩:=I7 I.a_ e;obtain⟨u,b8,er⟩:=iQ.some_of (v:=v) (o:=mA f) (by rw[<-l];exact r f);exact ad2 I.ew O (c.get f) c.hd n b8 (Ō er) (h u _ (I.tok _) er)
theorem C6{m:Str}{g:Addr}{pl:Sem Bool}{Q:Value×List Value->aC->Prop}(I:Inv X pins σ H s)(e:H a=some (.ins C ag fs))(c:fp X.K C)(k:Meth X.K C m g)(l:fs.lookup m=none)(h:Q (.ref g,[.ref a]) s):aO (a6 X.prog X.w) A (vf (.ref a) m pl) Q E s:=by obtain⟨mA,O,r,_,_,_⟩:=I7 I.a_ e;have aS:mA m=none:=iQ.none_of (by rw[<-l];exact r m);exact acb I.ew O (c.get m) k.at_ k.fn aS h
theorem aaq{y:V}{u:Value}{Q:Unit->aC->Prop}(I:Inv X pins σ H s)(e:H a=some (.ins C ag fs))(c:fp X.K C)(n:tC X.K C f)(aj:fs.length<1000)(bG:RelV y u)(h:∀s',Inv X pins σ (upd H a (.ins C ag (jX f y fs))) s'->Q () s'):aO (a6 X.prog X.w) A (Et (.ref a) f u) Q E s:=by
 obtain⟨mA,O,r,dc,_,aZ⟩:=I7 I.a_ e;have hz:(fs.map (·.1)).length<=sizeLine:=by rw[bp,pH];omega
 refine ad3 I.ew O c.iT c.po n.aq3 c.hd dc hz λh' KH b'=>h _ ?_;have hd:∃o,h'.get? ag=some o:=let⟨o,_,_,cm,_⟩:=KH.ns;⟨o,cm⟩
 refine I.write (x:=a) (e:=ag) (by rw[e];exact k') (.inr aZ) (λb q aa z=>(b'.2 b aa).trans z) hd ?_;refine⟨by rw[aA O.ne];exact aZ,?_,O.ne,KH.obj,_,KH.ns,λg=>?_,λg bP=>?_⟩
 .have:=Qk f y fs;omega
 .show iQ ((jX f y fs).lookup g) (if g=f then some u else mA g);rw[Qj];by_cases q:g=f
  .rw[bL q,bL q];exact bG
  .rw[bF q,bF q];exact r g
 .by_cases q:g=f
  .rw[q];exact(Dn f y fs).1
  .refine(Dn f y fs).2 g (dc g λz=>bP ?_);show(if g=f then some u else mA g)=none;rw[bF q];exact z
theorem Inv.made(I:Inv X pins σ H s):Inv X pins σ (upd (upd H s.heap.objs.size (.own (s.heap.objs.size+1))) (s.heap.objs.size+1) (.ins C s.heap.objs.size []))
  {s with heap:=(s.heap.push sA).push (uD C s.heap.objs.size)}:=by
 have aE:(s.heap.push sA).get? s.heap.objs.size=some sA:=gi s.heap rfl;have aB:((s.heap.push sA).push (uD C s.heap.objs.size)).get? (s.heap.objs.size+1)=some (uD C s.heap.objs.size):=by
  have:=gi (s.heap.push sA) (o:=uD C s.heap.objs.size) rfl
  rwa [xj]at this
 have cJ:(s.heap.push sA).Ns s.heap.objs.size (λ_=>none):=⟨sA,#[],_,aE,rfl,(λe he=>bE he (by simp)),λ_=>rfl⟩
 have aP:=I.laid (a:=s.heap.objs.size) (o:=.own (s.heap.objs.size+1)) (h':=s.heap.push sA) (t':=s.toks) (λb u q=>dG _ q) (cj _) ⟨_,aE⟩;refine aP.laid (a:=s.heap.objs.size+1) (o:=.ins C s.heap.objs.size []) (t':=s.toks) (λb u q=>dG _ q) (Kw (xj _ _)) ?_;have ne:s.heap.objs.size≠s.heap.objs.size+1:=eD (FE _);refine⟨by rw[aA ne,aQ],e4 _,ne,aB,λ_=>none,(aaX cJ).at λo q=>dG _ q,λ_=>k',λy cM=>bE rfl cM⟩
theorem VJ{prog:bJ}{w:bq}{env:Env}{e:Expr}{f:Str}{pos:Pos}{s:aC}{Q:cx}(aa:uP e f env (eval e env)=eval e env)(h:aO (a6 prog w) A (eval e env) (λo dP=>aO (a6 prog w) A (Nh o f true) Q E dP) E s):aO (a6 prog w) A (eval (.Attribute e f pos) env) Q E s:=
 Attribute_any_ h (by rw[arm_eval_Attribute,aa])
end
inductive ajs(K:aU)(f:Str)(x:V)(H1:ae)(Q:a'):Prop where
 |mk (a:_) (C:_) (ag:_) (fs:_) (v:_) (bV:x=.ref a) (bD:H1 a=some (.ins C ag fs)) (b_:fp K C) (c_:tC K C f) (d1:fs.lookup f=some v) (fw:Q v H1)
noncomputable def Yh(K:aU)(b4:TE)(f:Str):TE:=λσ H Q=>b4 σ H λx H1=>ajs K f x H1 Q
noncomputable def Yi(K:aU)(b4 j4:TE)(f:Str):eY:=λD σ H=>j4 σ H λy H1=>b4 σ H1 λx ah=>∃a C ag fs,x=.ref a/\ah a=some (.ins C ag fs)/\fp K C/\tC K C f/\fs.length<1000/\
 D.b9 σ (upd ah a (.ins C ag (jX f y fs)))
section
variable{X:bb}{o e value:Expr}{f:Str}{pos pos' EC:Pos}{b4 j4:TE}
theorem eR(he:bh X e b4)(aa:uP e f X.env (eval e X.env)=eval e X.env):bh X (.Attribute e f pos) (Yh X.K b4 f):=by intro pins s σ H Q I h;refine VJ aa (bB (he pins s σ H _ I h) λu s1⟨x,H1,aP,bz,a,C,ag,fs,v,ex,au,c,n,l,q⟩=>?_);subst ex;obtain rfl:u=cy a:=bz;exact aap aP au c n l λu' s2 bA er=>⟨v,H1,bA,er,q⟩
theorem ll(aK:bh X o b4)(bC:bh X value j4)(hs:wg value (some (.Attribute o f pos')) pos.line X.env=pure false):fN X (.Assign [.Attribute o f pos'] value pos) (Yi X.K b4 j4 f):=by intro pins s σ H D I h;refine apY (bB (bC pins s σ H _ I h) λu s1⟨y,H1,aP,bG,q⟩=>bB (aK pins s1 σ H1 _ aP q) λeI s2⟨x,ah,bA,bz,a,C,ag,fs,ex,au,c,n,l,cU⟩=>?_) hs;subst ex;obtain rfl:eI=cy a:=bz;exact aaq bA au c n l bG λs3 cZ=>⟨σ,_,cZ,cU⟩
theorem ata{pl:Sem Bool}{m:Str}{eN:Pos}{args:gG}{pins:cu}{s:aC}{σ:St}{H:ae}{Q:cx}{b0:TE}(he:bh X e b0)(I:Inv X pins σ H s)(h:b0 σ H λx H1=>∃a C ag fs g,x=.ref a/\H1 a=some (.ins C ag fs)/\fp X.K C/\Meth X.K C m g/\fs.lookup m=none/\
   ∀s1,Inv X pins σ H1 s1->aO (a6 X.prog X.w) X.A (xY pos (.ref g) [.ref a] (hg pos (dR args X.env)) (kB pos (kP [] X.env))) Q X.dT s1)(df:eval (.Call (.Attribute e m eN) args [] pos) X.env=(do
   let eI <-eval e X.env
   r3 eN.atName
   let(f,first) <-lY [eI] (vf eI m pl)
   xY pos f first (hg pos (dR args X.env)) (kB pos (kP [] X.env)))):
  aO (a6 X.prog X.w) X.A (eval (.Call (.Attribute e m eN) args [] pos) X.env) Q X.dT s:=by refine A5 (pl:=pl) (bB (he pins s σ H _ I h) λu s1⟨x,H1,aP,bz,a,C,ag,fs,g,ex,au,c,k,l,q⟩=>?_) df;subst ex;obtain rfl:u=cy a:=bz;exact C6 aP au c k l (q s1 aP)
end
section
variable{X:bb}{pins:cu}{σ:St}{H:ae}{s:aC}{A:cW}{E:cx}{Q:cx}{c:Value}{b:Bool}
inductive mO(K:aU)(H:ae):V->Value->Prop where
 |bl:mO K H .bl (.type "NoneType")
 |aM (x:Bool):mO K H (.aM x) (.type "bool")
 |int (i:Int):mO K H (.int i) (.type "int")
 |str (x:Str):mO K H (.str x) (.type "str")
 |vb (x:UInt64):mO K H (.vb x) (.type "float")
 |lst {a:Addr} {xs:aY} (e:H a=some (.lst xs)):mO K H (.ref a) (.type "list")
 |eF {a:Addr} {o:Obj} {xs:aY} (e:H a=some (.eF o (.lst xs))):mO K H (.ref a) (.type "list")
 |tup {a:Addr} {xs:aY} (e:H a=some (.tup xs)):mO K H (.ref a) (.type "tuple")
 |bX {a:Addr} {kvs:List (a7×V)} (e:H a=some (.bX kvs)):mO K H (.ref a) (.type "dict")
 |c4 {a:Addr} {kvs:List (List a7×V)} (e:H a=some (.c4 kvs)):mO K H (.ref a) (.type "dict")
 |ins {a C ag:Addr} {fs:List (Str×V)} (e:H a=some (.ins C ag fs)) (cl:fp K C) (aK:b1 K (.ref C) "__class__"=some (some (.builtin "object.__class__")))
   (aS:sC K (.builtin "object.__class__") "__get__"=some (some (.builtin "getset_descriptor.__get__"))) (Hd:A7 K (.builtin "object.__class__")=some true)
   (hm:pZ K C (.type "object")=some true):mO K H (.ref a) (.ref C)
theorem abb{x:V}{u t:Value}(I:Inv X pins σ H s)(bz:RelV x u)(ty:mO X.K H x t)(e:hZ X.K t c=some b)(h:∀a4,Q (.bool b) {s with toks:=a4}):
  aO (a6 X.prog X.w) A (call (.builtin "isinstance") [u,c]) Q E s:=by
 cases ty with
 |bl=>cases(show u=fP from bz);exact mn PySem.W.kitx_none I.ew k' e (λz=>nomatch z) h
 |aM y=>cases(show u=Lk y from bz);exact mn PySem.W.kitx_bool I.ew k' e (λz=>nomatch z) h
 |int i=>obtain⟨t,q⟩:=(show∃t,u=nX i t from bz);cases q;exact mn PySem.W.kitx_int I.ew k' e (λz=>nomatch z) h
 |str y=>obtain⟨t,q⟩:=(show∃t,u=uM y t from bz);cases q;exact mn PySem.W.kitx_str I.ew k' e (λz=>nomatch z) h
 |vb y=>obtain⟨t,q⟩:=(show∃t,u=X_ y t from bz);cases q;exact mn PySem.W.kitx_float I.ew k' e (λz=>nomatch z) h
 |@lst a xs au=>
  cases(show u=cy a from bz);obtain⟨_,_,n,_,af⟩:=(show ee X.prog X.w H s.heap a (.lst xs)from I.a_ a _ au)
  exact mn aet I.ew ⟨_,af,rfl⟩ e (λz=>nomatch z) h
 |@eF a ob xs au=>
  cases(show u=cy a from bz);obtain⟨_,_,_,n,_,af⟩:=(show ee X.prog X.w H s.heap a (.eF ob (.lst xs))from I.a_ a _ au)
  exact mn aet I.ew ⟨_,af,rfl⟩ e (λz=>nomatch z) h
 |@tup a xs au=>
  cases(show u=cy a from bz);obtain⟨_,_,_,p⟩:=(show ee X.prog X.w H s.heap a (.tup xs)from I.a_ a _ au)
  obtain⟨o,af,ai,_⟩:=p;exact mn PySem.W.kitx_tuple I.ew ⟨o,af,ai⟩ e (λz=>nomatch z) h
 |@bX a kvs au=>
  cases(show u=cy a from bz);obtain⟨_,_,vs,_,p⟩:=(show ee X.prog X.w H s.heap a (.bX kvs)from I.a_ a _ au)
  obtain⟨o,es,ep,af,ai,_⟩:=p;exact mn aes I.ew ⟨o,af,ai.1⟩ e (λz=>nomatch z) h
 |@c4 a kvs au=>
  cases(show u=cy a from bz);obtain⟨_,_,xs,_,o,es,ep,af,ai,_⟩:=(show ee X.prog X.w H s.heap a (.c4 kvs)from I.a_ a _ au)
  exact mn aes I.ew ⟨o,af,ai.1⟩ e (λz=>nomatch z) h
 |@ins a C ag fs au cl aK aS Hd hm=>
  cases(show u=cy a from bz);obtain⟨mA,O,_⟩:=I7 I.a_ au;obtain⟨d4,J,_⟩:=O.look;exact mn (PySem.W.kitx_own (cl.get _) cl.hd aK aS Hd hm) I.ew J e (λz=>nomatch z) h
end
structure gc(k:Nat)(A:cW):Prop where
 hd:A.handled=none
 F':A.depth+3*k+5<recursionLimit
 un:A.units+16*k+200<cLine
theorem gc.mono{j k:Nat}{A:cW}(r:gc k A)(h:j<=k):gc j A:=⟨r.hd,by have:=r.F';omega,by have:=r.un;omega⟩
theorem gc.deeper{k:Nat}{A:cW}(r:gc (k+1) A)(env:Env):gc k (A.deeper env):=
 ⟨r.hd,by have:=r.F';show A.depth+1+3*k+5<_;omega,by have:=r.un;show A.units+3+16*k+200<_;omega⟩
theorem aar{A:cW}{C:Addr}{us:cw}{kw:List (Str×Value)}:(A.under (.builtin "type.__call__" ⟨.ref C::us,kw⟩)).depth=A.depth+1:=by
 first|rfl|simp[UH,Code.weight,Code.isCreation,Code.isGuard,Code.isCaller,Code.frames,Vh,guardIds]
theorem aas{A:cW}{C:Addr}{us:cw}{kw:List (Str×Value)}:(A.under (.builtin "type.__call__" ⟨.ref C::us,kw⟩)).units=A.units+1:=by
 first|rfl|simp[UH,Code.cUnits,Code.frames,Vh]
theorem gc.make{k:Nat}{A:cW}(r:gc (k+1) A)(C:Addr)(us:cw)(kw:List (Str×Value)):gc k (A.under (.builtin "type.__call__" ⟨.ref C::us,kw⟩)):=
 ⟨r.hd,by have:=r.F';rw[aar];omega,by have:=r.un;rw[aas];omega⟩
theorem gc.depth{k:Nat}{A:cW}(r:gc k A):A.depth<recursionLimit:=by have:=r.F';omega
theorem gc.units{k:Nat}{A:cW}(r:gc k A):A.units+64<cLine:=by have:=r.un;omega
noncomputable def Ay:f7:=λ_ H Q=>Q [] H
noncomputable def rS(b4:TE)(wi:f7):f7:=λσ H Q=>b4 σ H λx H1=>wi σ H1 λxs ah=>Q (x::xs) ah
section
variable{X:bb}{e:Expr}{es:gG}{b0:TE}{t:f7}{pos:Pos}
theorem aD:fM X [] Ay:=λ_ _ _ _ H Q I h=>E7 ⟨[],H,I,.nil,h⟩
theorem ak(aK:bh X e b0)(aq:fM X es t)(hs:dR (e::es) X.env=(false,eval e X.env)::dR es X.env:=by rfl):fM X (e::es) (rS b0 t):=by intro pos pins s σ H Q I h;rw[hs];show aO _ _ (spliced ((false,eval e X.env)::hg pos (dR es X.env))) _ _ s;refine ud (bB (aK pins s σ H _ I h) λu s1⟨x,H1,aP,cg,bM⟩=>?_);exact bB (aq pos pins s1 σ H1 _ aP bM) λus s2⟨xs,ah,bA,d5,cU⟩=>⟨x::xs,ah,bA,.cons cg d5,cU⟩
noncomputable def ajt(t:f7):TE:=λσ H Q=>t σ H λxs H1=>xs.length<=sizeLine/\∀p,H1 p=none->Q (.ref p) (upd H1 p (.tup xs))
noncomputable def aju(t:f7):TE:=λσ H Q=>t σ H λxs H1=>xs.length<=sizeLine/\∀p,H1 p=none->Q (.ref p) (upd H1 p (.lst xs))
theorem i1{eP}(h:fM X es t):bh X (.Tuple es eP pos) (ajt t):=by intro pins s σ H Q I aT;refine wpAny_Tuple_spliced (bB (h pos pins s σ H _ I aT) λus s1⟨xs,H1,aP,r,z,q⟩=>⟨by rw[<-r.length];exact z,?_⟩);have hf:H1 s1.heap.objs.size=none:=aP.a_.fresh (cj _);refine⟨.ref s1.heap.objs.size,upd H1 s1.heap.objs.size (.tup xs),aP.laid (t':=s1.toks) (λb u e=>dG _ e) (cj _) ?_,rfl,q _ hf⟩;exact⟨z,us,r,⟨_,gi _ rfl,rfl,_,rfl⟩⟩
theorem gJ(h:fM X es t):bh X (.List es pos) (aju t):=by intro pins s σ H Q I aT;refine wpAny_List_spliced (bB (h pos pins s σ H _ I aT) λus s1⟨xs,H1,aP,r,z,q⟩=>⟨by rw[<-r.length];exact z,?_⟩);have hf:H1 s1.heap.objs.size=none:=aP.a_.fresh (cj _);refine⟨.ref s1.heap.objs.size,upd H1 s1.heap.objs.size (.lst xs),aP.laid (t':=s1.toks) (λb u e=>dG _ e) (cj _) ?_,rfl,q _ hf⟩;exact⟨z,us,0,r,gi _ rfl⟩
noncomputable abbrev cG:=List V->ae->a'->b2->Prop
noncomputable abbrev mW:=List Env->ae->aC->b2->Value->aC->Prop
structure ug(P:bJ)(w:bq)(K:aU)(mg:cB)(base:Heap)(A:cW)(outer:List Env)(s:aC)(H:ae):Prop where
 frames:A.frames=some outer
 mod:Mod K mg base
 bs:∀b o,base.get? b=some o->s.heap.get? b=some o/\H b=none
 p5:base.objs.size<=s.heap.objs.size
 ke:s.heap.FunFrames base outer
 rt:∀b∈fm outer,H b=none
 a_:fg P w H s.heap
 bare:q' s.gens
noncomputable def Jz(outer:List Env)(P:bJ)(w:bq)(H:ae)(s:aC)(Q:a')(u:Value)(s':aC):Prop:=
 ∃v H',s'.os=s.os/\q' s'.gens/\h1 (fm outer) [] H H' s.heap s'.heap/\fg P w H' s'.heap/\RelV v u/\Q v H'
end
noncomputable def ź(CX:mW)(outer:List Env)(P:bJ)(w:bq)(H:ae)(s:aC)(Q:a')(E:b2)(r:m3)(s':aC):Prop:=
 match r with
 |.ok (.ret u)=>Jz outer P w H s Q u s'
 |.ok _=>False
 |.error e=>CX outer H s E e s'
structure aL(P:bJ)(w:bq)(K:aU)(mg:cB)(base:Heap)(CX:mW)(k:Nat)(f:Addr)(fd:cz)(ps:cf)(sp:cG):Prop where
 len:∀vs H Q E,sp vs H Q E->vs.length=ps.length
 run:∀(A:cW)(outer:List Env)(s:aC)(H:ae)(args:Args)(us:cw)(vs:aY)(Q:a')(E:b2),gc k A->ug P w K mg base A outer s H->zM s fd args (ps.zip us)->cI vs us->sp vs H Q E->
  jJ (a6 P w) A (.call (.ref f) args) (ź CX outer P w H s Q E) s
theorem ug.make{P:bJ}{w:bq}{K:aU}{mg:cB}{base:Heap}{A:cW}{outer:List Env}{s:aC}{H:ae}(e:ug P w K mg base A outer s H)(C:Addr)(us:cw)(kw:List (Str×Value)):
  ug P w K mg base (A.under (.builtin "type.__call__" ⟨.ref C::us,kw⟩)) outer s H:=⟨by first|exact e.frames|(simpa[UH,Code.envs,Vh,pushEnvs]using e.frames),e.mod,e.bs,e.p5,e.ke,e.rt,e.a_,e.bare⟩
section
variable{X:bb}{pins:cu}{σ:St}{H:ae}{s s':aC}
theorem Inv.BD(I:Inv X pins σ H s):ug X.prog X.w X.K X.mg X.base X.A X.stack s H:=
 ⟨I.ok.frames,I.ok.mod,I.bs,e3 I.ok.p5 I.i',I.stack,I.IH,I.a_,I.bare⟩
theorem Inv.after{Q:a'}{u:Value}(I:Inv X pins σ H s)(h:Jz X.stack X.prog X.w H s Q u s'):ic X pins σ Q u s':=by obtain⟨v,H',os,bare,un,a_,r,q⟩:=h;obtain⟨dy,g,d,t,apR⟩:=s';obtain rfl:apR=s.os:=os;exact⟨v,H',I.call (h':=dy) (g':=g) (d':=d) (t':=t) (ch:=[]) un a_ bare (λb z=>bE z (by simp)),r,q⟩
end
noncomputable def ahQ(sp:cG)(jf:aY)(E:b2)(t:f7):TE:=λσ H Q=>t σ H λvs H1=>sp (vs++jf) H1 Q E
inductive ahx(C:Addr)(m:Str)(x:V)(H1:ae)(R:Prop):Prop where
 |mk (a:_) (ag:_) (fs:_) (bV:x=.ref a) (bD:H1 a=some (.ins C ag fs)) (b_:fs.lookup m=none) (c_:R)
noncomputable def Kb(C:Addr)(m:Str)(sp:cG)(jf:aY)(E:b2)(b4:TE)(t:f7):TE:=λσ H Q=>b4 σ H λx H1=>ahx C m x H1 (t σ H1 λvs ah=>sp (x::(vs++jf)) ah Q E)
noncomputable def WF(C:Addr)(sp:cG)(jf:aY)(E:b2)(t:f7):TE:=λσ H Q=>t σ H λvs H1=>∀x ag,H1 x=none->H1 ag=none->ag≠x->
 sp (.ref x::(vs++jf)) (upd (upd H1 ag (.own x)) x (.ins C ag [])) (λv ah=>v=.bl/\Q (.ref x) ah) E
noncomputable def Binds(K:aU)(fd:cz)(ps:cf)(ds:cw):Prop:=
 ∀(s:aC)(us:cw),K.In s.heap->(us++ds).length=ps.length->zM s fd ⟨us,[]⟩ (ps.zip (us++ds))
theorem Binds.all{K:aU}{fd:cz}{ps:cf}(h:∀us:List Value,us.length=ps.length->bindArgs fd ⟨us,[]⟩=pure (ps.zip us)):Binds K fd ps []:=λs us _ aj=>by rw[mh]at aj⊢;exact .of_eq (h us aj)
noncomputable def pn(CX:mW)(X:bb)(E:b2):Prop:=∀(pins:cu)(σ:St)(H:ae)(s:aC)(e:Value)(s':aC),Inv X pins σ H s->CX X.stack H s E e s'->X.dT e s'
section
variable{X:bb}{CX:mW}{k:Nat}{f C:Addr}{fd:cz}{ps:cf}{sp:cG}{jf:aY}{ds:cw}{E:b2}{x m:Str}{p pos eN:Pos}{e o:Expr}{es:gG}{b4:TE}{t:f7}
theorem JE{pins:cu}{σ:St}{H:ae}{s:aC}{Q:a'}{us:cw}{vs:aY}(F:aL X.prog X.w X.K X.mg X.base CX k f fd ps sp)(aq:gc k X.A)(aa:Binds X.K fd ps ds)(hd:cI jf ds)(av:pn CX X E)(I:Inv X pins σ H s)(r:cI vs us)(h:sp (vs++jf) H Q E):aO (a6 X.prog X.w) X.A (call (.ref f) us) (ic X pins σ Q) X.dT s:=by
 have d5:cI (vs++jf) (us++ds):=r.append hd;have aj:(us++ds).length=ps.length:=by rw[<-d5.length];exact F.len _ _ _ _ h
 refine pO (rn (F.run X.A X.stack s H ⟨us,[]⟩ (us++ds) (vs++jf) Q E aq I.BD (aa s us I.ew aj) d5 h) λr s' aT=>?_);cases r with
 |error e=>exact av pins σ H s e s' I aT
 |ok fb=>
  cases fb with
  |ret u=>exact I.after aT
  |next=>exact hA aT
  |brk=>exact hA aT
  |cont=>exact hA aT
theorem fj(F:aL X.prog X.w X.K X.mg X.base CX k f fd ps sp)(aq:gc k X.A)(bP:iV X x)(hm:X.mg x=some (.ref f))(aX:o4 X.K (.ref f)=true)(aa:Binds X.K fd ps ds)(hd:cI jf ds)(av:pn CX X E)(aK:fM X (e::es) t)(kK:(x==("__debug__":Str))=false:=by decide)(he:dR (e::es) X.env=(false,eval e X.env)::dR es X.env:=by rfl)(fE:(hg pos (dR es X.env)).any (·.1)=false:=by rfl):
  bh X (.Call (.Name x p) (e::es) [] pos) (ahQ sp jf E t):=by intro pins s σ H Q I h;refine zo (rJ I bP hm ?_ kK);refine A2 (h₀:=X.base) I.ok.mod.rL aX (bB (aK pos pins s σ H _ I h) λus s1⟨vs,H1,aP,r,q⟩=>⟨aP.ew,?_⟩) he fE;exact JE F aq aa hd av aP r q
theorem gZ{pl:Sem Bool}(he:bh X o b4)(c:fp X.K C)(hm:Meth X.K C m f)(F:aL X.prog X.w X.K X.mg X.base CX k f fd ps sp)(aq:gc k X.A)(aa:Binds X.K fd ps ds)(hd:cI jf ds)(av:pn CX X E)(aK:fM X (e::es) t)(l0:dR (e::es) X.env=(false,eval e X.env)::dR es X.env:=by rfl)(fE:(hg pos (dR es X.env)).any (·.1)=false:=by rfl)(df:eval (.Call (.Attribute o m eN) (e::es) [] pos) X.env=(do
   let eI <-eval o X.env
   r3 eN.atName
   let(f,first) <-lY [eI] (vf eI m pl)
   xY pos f first (hg pos (dR (e::es) X.env)) (kB pos (kP [] X.env))):=by rfl):
  bh X (.Call (.Attribute o m eN) (e::es) [] pos) (Kb C m sp jf E b4 t):=by intro pins s σ H Q I h;refine A5 (pl:=pl) (bB (he pins s σ H _ I h) λu s1⟨x,H1,aP,bz,a,ag,fs,ex,au,l,q⟩=>?_) df;subst ex;obtain rfl:u=cy a:=bz;refine C6 aP au c hm l ?_;refine A2 (first:=[.ref a]) (h₀:=X.base) I.ok.mod.rL hm.bQ (bB (aK pos pins s1 σ H1 _ aP q) λus s2⟨vs,ah,bA,r,cU⟩=>⟨bA.ew,?_⟩) l0 fE;exact JE (us:=.ref a::us) (vs:=.ref a::vs) F aq aa hd av bA (.cons rfl r) cU
theorem mz{pl:Sem Bool}(he:bh X o b4)(c:fp X.K C)(hm:Meth X.K C m f)(F:aL X.prog X.w X.K X.mg X.base CX k f fd ps sp)(aq:gc k X.A)(aa:Binds X.K fd ps ds)(hd:cI jf ds)(av:pn CX X E)(df:eval (.Call (.Attribute o m eN) [] [] pos) X.env=(do
   let eI <-eval o X.env
   r3 eN.atName
   let(f,first) <-lY [eI] (vf eI m pl)
   xY pos f first (hg pos (dR [] X.env)) (kB pos (kP [] X.env))):=by rfl):
  bh X (.Call (.Attribute o m eN) [] [] pos) (Kb C m sp jf E b4 Ay):=by intro pins s σ H Q I h;refine A5 (pl:=pl) (bB (he pins s σ H _ I h) λu s1⟨x,H1,aP,bz,a,ag,fs,ex,au,l,q⟩=>?_) df;subst ex;obtain rfl:u=cy a:=bz;refine C6 aP au c hm l ?_;exact PySem.W.callWith_K0 (first:=[.ref a]) aP.ew hm.bQ (JE (us:=[.ref a]) (vs:=[.ref a]) F aq aa hd av aP (.cons rfl .nil) q)
structure nR(K:aU)(C f:Addr):Prop where
 makes:A4 K C=true
 init:b1 K (.ref C) "__init__"=some (some (.ref f))
 fn:fO K (.ref f)=true
 bQ:o4 K (.ref C)=true
theorem ace{pins:cu}{σ:St}{H:ae}{s:aC}{Q:a'}{us:cw}{vs:aY}(M:nR X.K C f)(F:aL X.prog X.w X.K X.mg X.base CX k f fd ps sp)(aq:gc (k+1) X.A)(aa:Binds X.K fd ps ds)(hd:cI jf ds)(av:pn CX X E)(I:Inv X pins σ H s)(r:cI vs us)(h:∀x ag,H x=none->H ag=none->ag≠x->sp (.ref x::(vs++jf)) (upd (upd H ag (.own x)) x (.ins C ag [])) (λv ah=>v=.bl/\Q (.ref x) ah) E):
  aO (a6 X.prog X.w) X.A (call (.ref C) us) (ic X pins σ Q) X.dT s:=by
 have aT:=h (s.heap.objs.size+1) s.heap.objs.size (I.a_.fresh (AO _)) (I.a_.fresh (cj _)) (eD (FE _));have bA:=Inv.made (C:=C) I;have d5:cI (V.ref (s.heap.objs.size+1)::(vs++jf)) (cy (s.heap.objs.size+1)::(us++ds)):=.cons rfl (r.append hd);have aj:(cy (s.heap.objs.size+1)::us++ds).length=ps.length:=by have e:=d5.length;rw[F.len _ _ _ _ aT]at e;exact e.symm
 refine pO (acd (f:=f) I.ew M.makes M.init (o9.mp M.fn) (rn (F.run _ X.stack _ _ ⟨cy (s.heap.objs.size+1)::us,[]⟩ (cy (s.heap.objs.size+1)::(us++ds)) _ _ E (aq.make C us [])
  (bA.BD.make C us []) (aa _ (cy (s.heap.objs.size+1)::us) bA.ew aj) d5 aT) λr s' mG=>?_))
 cases r with
 |error e=>exact av pins σ _ _ e s' bA mG
 |ok fb=>
  cases fb with
  |ret u=>
   obtain⟨v,H',cZ,b7,ev,hn⟩:=bA.after mG;subst ev;exact⟨b7,⟨V.ref (s.heap.objs.size+1),H',cZ,rfl,hn⟩⟩
  |next=>exact hA mG
  |brk=>exact hA mG
  |cont=>exact hA mG
theorem DX(M:nR X.K C f)(F:aL X.prog X.w X.K X.mg X.base CX k f fd ps sp)(aq:gc (k+1) X.A)(bP:iV X x)(hm:X.mg x=some (.ref C))(aa:Binds X.K fd ps ds)(hd:cI jf ds)(av:pn CX X E)(aK:fM X (e::es) t)(kK:(x==("__debug__":Str))=false:=by decide)(he:dR (e::es) X.env=(false,eval e X.env)::dR es X.env:=by rfl)(fE:(hg pos (dR es X.env)).any (·.1)=false:=by rfl):
  bh X (.Call (.Name x p) (e::es) [] pos) (WF C sp jf E t):=by intro pins s σ H Q I h;refine zo (rJ I bP hm ?_ kK);refine A2 (h₀:=X.base) I.ok.mod.rL M.bQ (bB (aK pos pins s σ H _ I h) λus s1⟨vs,H1,aP,r,q⟩=>⟨aP.ew,?_⟩) he fE;exact ace M F aq aa hd av aP r q
end
noncomputable def KS(X:bb)(Dm:List uv)(t:f7):Prop:=
 ∀(pos:Pos)(pins:cu)(s:aC)(σ:St)(H:ae)(Q:List V->ae->Prop),Inv X pins σ H s->t σ H Q->aO (a6 X.prog X.w) X.A (evalAll ((kB pos (kP Dm X.env)).map (·.2))) (Uz X pins σ Q) X.dT s
section
variable{X:bb}{CX:mW}{k:Nat}{f C:Addr}{fd:cz}{ps g4:cf}{sp:cG}{E:b2}{x m:Str}{p pos eN aoF:Pos}{e o:Expr}{es:gG}{Dm:List uv}{b0 b4:TE}{t a4:f7}{nm:Option Str}
theorem Wu:KS X [] Ay:=λ_ _ _ _ H Q I h=>wpAny_evalAll_nil ⟨[],H,I,.nil,h⟩
theorem VK(aK:bh X e b0)(aq:KS X Dm t):KS X (⟨nm,e,aoF⟩::Dm) (rS b0 t):=by intro pos pins s σ H Q I h;show aO _ _ (evalAll ((do let v <-eval e X.env;r3 pos;pure v)::(kB pos (kP Dm X.env)).map (·.2))) _ _ s;refine wpAny_evalAll_cons (aw (bB (aK pins s σ H _ I h) λu s1⟨x,H1,aP,cg,bM⟩=>aw (EU (bf ?_))));exact bB (aq pos pins s1 σ H1 _ aP bM) λus s2⟨xs,ah,bA,d5,cU⟩=>⟨x::xs,ah,bA,.cons cg d5,cU⟩
end
structure dw(N P:cf)(sc:Scope):Prop where
 kind:sc.kind=.function
 co:sc.isCoroutine=false
 gen:sc.isGenerator=false
 aJ:N.Nodup
 pre:N.take P.length=P
 par:∀x∈P,sc.names.lookup x=some .local\/sc.names.lookup x=some .cell
 apy:∀y∈sc.names,y.2≠.free
theorem ō{kindOf:Str->Option uz}{x:Str}:∀{binds:List (Str×Value)}{m:cB},(∀v,(x,v)∉binds)->uV kindOf binds m x=m x
 |[],_,_=>rfl
 | (n,v)::r,m,h=>by
  unfold uV;rw[ō λw hw=>h w (mm _ hw)];split
  .have:x≠n:=by rintro rfl;exact h v su
   simp[this]
  .rfl
theorem Ŏ{kindOf:Str->Option uz}{x:Str}:∀{binds:List (Str×Value)}{m:cB},(∀v,(x,v)∉binds)->uU kindOf binds m x=m x
 |[],_,_=>rfl
 | (n,v)::r,m,h=>by
  unfold uU;rw[Ŏ λw hw=>h w (mm _ hw)];split
  .rfl
  .have:x≠n:=by rintro rfl;exact h v su
   simp[this]
theorem ŏ{kindOf:Str->Option uz}{x:Str}{v:Value}:∀{P:cf}{vs:cw}{i:Nat}{m:cB},P.Nodup->P[i]?=some x->vs[i]?=some v->kindOf x=some .local->
  uV kindOf (P.zip vs) m x=some v
 |[],_,_,_,_,h,_,_=>by simp at h
 |_::_,[],_,_,_,_,h,_=>by simp at h
 |p::P,w::vs,0,m,aJ,af,ai,aX=>by simp at af ai;subst af;subst ai;show uV kindOf ((p,w)::P.zip vs) m p=_;unfold uV;rw[ō λv bC=>(iH.mp aJ).1 (WL bC).1,bL aX];simp
 |p::P,w::vs,i+1,m,aJ,af,ai,aX=>by show uV kindOf ((p,w)::P.zip vs) m x=_;unfold uV;exact ŏ (i:=i) (iH.mp aJ).2 (by simpa using af) (by simpa using ai) aX
theorem Ő{kindOf:Str->Option uz}{x:Str}{v:Value}:∀{P:cf}{vs:cw}{i:Nat}{m:cB},P.Nodup->P[i]?=some x->vs[i]?=some v->kindOf x≠some .local->
  uU kindOf (P.zip vs) m x=some v
 |[],_,_,_,_,h,_,_=>by simp at h
 |_::_,[],_,_,_,_,h,_=>by simp at h
 |p::P,w::vs,0,m,aJ,af,ai,aX=>by simp at af ai;subst af;subst ai;show uU kindOf ((p,w)::P.zip vs) m p=_;unfold uU;rw[Ŏ λv bC=>(iH.mp aJ).1 (WL bC).1,bF aX];simp
 |p::P,w::vs,i+1,m,aJ,af,ai,aX=>by show uU kindOf ((p,w)::P.zip vs) m x=_;unfold uU;exact Ő (i:=i) (iH.mp aJ).2 (by simpa using af) (by simpa using ai) aX
noncomputable def start(N:cf)(vs:aY):St:=vs.map some++AI (N.length-vs.length) none
noncomputable def jY(CX:mW)(P:bJ)(w:bq)(K:aU)(mg:cB)(base:Heap)(N:cf)(qual:Str)(scope:Scope)(f:Addr)(cd:Value)(A:cW)(outer:List Env)(s:aC)(H:ae)(E:b2):bb where
 prog:=P
 w:=w
 K:=K
 mg:=mg
 base:=base
 A:=A.deeper (n6 qual scope s.heap.objs.size f cd)
 N:=N
 iz:=s
 me:=H
 env:=n6 qual scope s.heap.objs.size f cd
 outer:=outer
 stack:=n6 qual scope s.heap.objs.size f cd::outer
 ex:=[]
 calm:=true
 fn:=λ_=>true
 e9:=[]
 dT:=λe s'=>aO (a6 P w) (A.deeper (n6 qual scope s.heap.objs.size f cd)) (leaving (n6 qual scope s.heap.objs.size f cd) e) (λ_ Ru=>CX outer H s E e Ru) (λcm Ru=>CX outer H s E cm Ru) s'
theorem UB{sc:Scope}{n:Nat}{x:Str}(h:sc.names.lookup x=some .cell):∃c,(YT n sc.names []).lookup x=some c:=by have q:=aen sc.names n [] (.inl h);exact uA.mp q
theorem abe{CX:mW}{P:bJ}{w:bq}{K:aU}{mg:cB}{base:Heap}{N ps:cf}{qual:Str}{scope:Scope}{f:Addr}{cd:Value}{A:cW}{outer:List Env}{s s1:aC}{H:ae}{E:b2}{us:cw}{vs:aY}(S:dw N ps scope)(hd:A.handled=none)(cT:ug P w K mg base A outer s H)(aj:vs.length=ps.length)(r:cI vs us)(x:InCallC s s.heap.objs.size (uV (n6 qual scope s.heap.objs.size f cd).kindOf (ps.zip us) λ_=>none) (YT (s.heap.objs.size+1) scope.names []) (uU (n6 qual scope s.heap.objs.size f cd).kindOf (ps.zip us) λ_=>none) s1):
  Inv (jY CX P w K mg base N qual scope f cd A outer s H E) [] (start N vs) H s1:=by
 have fE:ps.length<=N.length:=by have:=hh sq S.pre;rw[ml]at this;omega
 obtain⟨af,a4,rfl,aX⟩:=x.done;have DH:∀b:Addr,b∉(jY CX P w K mg base N qual scope f cd A outer s H E).ex:=λb z=>bE (show b∈([]:bS)from z) (by simp);refine⟨⟨cT.mod,S.kind,rfl,rfl,cj _,λy z c af ai=>?_,λy cM=>?_,λy c _ h=>?_,λ_=>hd,Around.frames_deeper cT.frames,.inr ⟨rfl,rfl⟩,λb z=>bE z (DH b),cT.bs,cT.p5,λb _ _=>DH b,λb z=>bE z (DH b),cT.ke,cT.rt⟩,
  rfl,cT.bare,h1.kept aX,⟨_,x.toInCall.ns,λi y v af ai bR=>?_⟩,λy c h=>⟨_,x.cell y c h⟩,cT.a_.fresh (cj _),λy c h=>?_,λp aR=>bE (show p∈([]:cu)from aR) (by simp),cT.a_.kept aX,?_⟩
 .exact name_of_addr x.apart (A8 af) (A8 ai)
 .have cM:scope.names.lookup y=some .cell\/scope.names.lookup y=some .free:=cM;rcases cM with cM|cM
  .exact UB cM
  .exact bE rfl (S.apy _ (A8 cM))
 .exact nS (x.above y c (A8 h))
 .have ar:i<vs.length:=by
   unfold start at ai;by_cases ar:i<vs.length
   .exact ar
   .rw[WI (by simpa using ar)]at ai;rw[List.getElem?_replicate]at ai;split at ai<;>cases ai
  have aK:vs[i]?=some v:=by
   unfold start at ai;rw[acB (by simpa using ar),c6]at ai;cases e:vs[i]? with
   |none=>rw[e]at ai;cases ai
   |some a=>rw[e]at ai;cases ai;rfl
  obtain⟨u,b8,b7⟩:=r.get aK;have aR:ps[i]?=some y:=by rw[<-S.pre,List.getElem?_take_of_lt (by omega)];exact af
  have Ó:ps.Nodup:=by rw[<-S.pre];exact S.aJ.sublist (WO _ _)
  refine⟨u,b7,?_⟩;rcases S.par y (eK aR)with k|k
  .exact .inl ⟨k,ŏ Ó aR b8 k⟩
  .obtain⟨c,e⟩:=UB (n:=s.heap.objs.size+1) k;refine .inr ⟨.inl k,c,e,?_⟩;have q:=x.cell y c e;rw[Ő Ó aR b8 (by show scope.names.lookup y≠_;rw[k];decide)]at q;exact q
 .exact cT.a_.fresh (nS (x.above y c (A8 h)))
 .unfold start;show _=N.length;rw[ig,bp,List.length_replicate];omega
theorem Kc{CX:mW}{P:bJ}{w:bq}{K:aU}{mg:cB}{base:Heap}{k:Nat}{f:Addr}{name qual:Str}{params:Arguments}{body:List Stmt}{scope:Scope}{F7 dg doc pm cdv e0 l4:Value}{an d4:Option Addr}{oz:jI}{N ps:cf}{sp:cG}(lk:K.lookup f=some ⟨l4,d4,.func (xN name qual params body scope F7 dg doc pm an cdv e0),oz⟩)(jR:Xz K cdv qual=true)(S:dw N ps scope)(len:∀vs H Q E,sp vs H Q E->vs.length=ps.length)(vk:∀(A:cW)(outer:List Env)(s:aC)(H:ae)(vs:aY)(Q:a')(E:b2),gc k (A.deeper (n6 qual scope s.heap.objs.size f cdv))->sp vs H Q E->
   ∃t,fV (jY CX P w K mg base N qual scope f cdv A outer s H E) body t/\t {b9:=λ_ H'=>Q .bl H',l7:=Q} (start N vs) H):
  aL P w K mg base CX (k+1) f (xN name qual params body scope F7 dg doc pm an cdv e0) ps sp:=by
 refine⟨len,λA outer s H args us vs Q E aq cT aa r n_=>?_⟩;have aj:=len _ _ _ _ n_;have pS:K.In s.heap:=cT.mod.rL.keeps λb o e=>(cT.bs b o e).1;have lim:s.heap.NoLimit:=cT.mod.nolimit.keeps λb o e=>(cT.bs b o e).1;have rz:∀y∈ps.zip us,scope.names.lookup y.1=some .local\/(scope.names.lookup y.1=some .cell/\((YT (s.heap.objs.size+1) scope.names []).lookup y.1).isSome=true):=λ⟨n,v⟩cM=>by
  rcases S.par n (WL cM).1 with q|q
  .exact .inl q
  .exact .inr ⟨q,aen _ _ _ (.inl q)⟩
 refine codeAny_call_function aq.depth (pS _ _ lk) rfl S.co S.gen rfl (PySem.W.codeRec_of pS jR) (aa _ _ _ _ ?_);refine wpAny_newFunctionEnv_cells S.kind rz λenv he s1 x=>?_;subst he;refine⟨lim.keeps x.toInCall.keep,codeAny_func ?_⟩;obtain⟨t,df,aT⟩:=vk A outer s H vs Q E (aq.deeper _) n_;have I:Inv (jY CX P w K mg base N qual scope f cdv A outer s H E) [] (start N vs) H s1:=abe S aq.hd cT aj r x;refine gf (df [] s1 (start N vs) H _ I aT) (λfb s' hs=>?_) λe s' hs=>hs;have fin:∀{a3:St}{H':ae}{v:V}{u:Value},Inv (jY CX P w K mg base N qual scope f cdv A outer s H E) [] a3 H' s'->RelV v u->Q v H'->Jz outer P w H s Q u s':=
  λ{a3 H' v u}J b7 q=>⟨v,H',J.os,J.bare,J.base,J.a_,b7,q⟩
 cases fb with
 |ret u=>
  obtain⟨v,a3,H',J,b7,q⟩:=hs;exact fin J b7 q
 |next=>
  obtain⟨a3,H',J,q⟩:=hs;exact fin (v:=V.bl) (u:=fP) J rfl q
 |brk=>
  obtain⟨_,_,_,q⟩:=hs;exact hA q
 |cont=>
  obtain⟨_,_,_,q⟩:=hs;exact hA q
section
variable{X:bb}{x:Str}{p pos:Pos}{e:Expr}{es:gG}{t:f7}{id T:String}{r:List V->ae->a'->Prop}
noncomputable def tV(r:List V->ae->a'->Prop)(t:f7):TE:=λσ H Q=>t σ H λvs H1=>r vs H1 Q
theorem dB(ax:jU X (.builtin id) r)(bP:iV X x)(hm:X.mg x=none)(bC:iY x=some (.builtin id))(aK:fM X (e::es) t)(aS:x≠"__name__":=by decide)(kK:(x==("__debug__":Str))=false:=by decide)(he:dR (e::es) X.env=(false,eval e X.env)::dR es X.env:=by rfl)(fE:(hg pos (dR es X.env)).any (·.1)=false:=by rfl):bh X (.Call (.Name x p) (e::es) [] pos) (tV r t):=by intro pins s σ H Q I h;refine zo (vT I bP hm bC ?_ aS kK);exact ad6 (bB (aK pos pins s σ H _ I h) λus s1⟨vs,H1,aP,cg,bM⟩=>ax pins s1 σ H1 vs us Q aP cg bM) he fE
theorem m9(ax:jU X (.type T) r)(bP:iV X x)(hm:X.mg x=none)(bC:iY x=some (.type T))(aK:fM X (e::es) t)(aS:x≠"__name__":=by decide)(kK:(x==("__debug__":Str))=false:=by decide)(he:dR (e::es) X.env=(false,eval e X.env)::dR es X.env:=by rfl)(fE:(hg pos (dR es X.env)).any (·.1)=false:=by rfl):bh X (.Call (.Name x p) (e::es) [] pos) (tV r t):=by intro pins s σ H Q I h;refine zo (vT I bP hm bC ?_ aS kK);exact Xt (bB (aK pos pins s σ H _ I h) λus s1⟨vs,H1,aP,cg,bM⟩=>ax pins s1 σ H1 vs us Q aP cg bM) he fE
end
end ao
namespace hB
open PySem PyProof.Rows
noncomputable def lexLt:List Int->List Int->Bool
 |[],[]=>false
 |[],_::_=>true
 |_::_,[]=>false
 |x::xs,y::ys=>if x=y then lexLt xs ys else decide (x<y)
section
variable{prog:bJ}{w:bq}{A:cW}{E:cx}{s:aC}
noncomputable def iS(n d:Nat):Option Int->Nat
 |none=>d
 |some v=>if v<0 then(v+(n:Int)).toNat else min v.toNat n
theorem RG(n d k:Nat):iS n d (some (k:Int))=min k n:=by show(if(k:Int)<0 then((k:Int)+(n:Int)).toNat else min (k:Int).toNat n)=min k n;rw[bF (by omega),nN]
end
end hB
namespace ao
open PySem PySem.Spec PyProof.Rows
noncomputable abbrev uI:=St->ae->(Option Int->ae->Prop)->Prop
noncomputable def FH(X:bb)(e:Option Expr)(t:uI):Prop:=
 ∀(pins:cu)(s:aC)(σ:St)(H:ae)(Q:Option Int->ae->Prop),Inv X pins σ H s->t σ H Q->
  aO (a6 X.prog X.w) X.A (evalPart e X.env) (λu s'=>∃o H',Inv X pins σ H' s'/\IsPart u o/\Q o H') X.dT s
noncomputable def ad4:uI:=λ_ H Q=>Q none H
noncomputable def ahy(t:TE):uI:=λσ H Q=>t σ H λx H1=>∃i,x=.int i/\Q (some i) H1
section
variable{X:bb}{e:Expr}{b0:TE}{lo ar:Option Expr}{dk oF:uI}{pos gP:Pos}
theorem VL:FH X none ad4:=by intro pins s σ H Q I h;rw[evalPart_none];exact bf ⟨none,H,I,.none,h⟩
theorem I8(h:bh X e b0):FH X (some e) (ahy b0):=by intro pins s σ H Q I hw;rw[evalPart_some];refine bB (h pins s σ H _ I hw) λu s1⟨x,H1,aP,cg,bM⟩=>?_;obtain⟨i,rfl,q⟩:=bM;obtain⟨t,rfl⟩:=cg;exact⟨some i,H1,aP,.int i t,q⟩
noncomputable def X0(X:bb)(r:V->Option Int->Option Int->ae->a'->Prop):Prop:=
 ∀(pins:cu)(s:aC)(σ:St)(H:ae)(x:V)(v t7 t8:Value)(lo ar:Option Int)(bj:Addr)(Q:a'),Inv X pins σ H s->RelV x v->s.heap.IsSliceOf bj t7 t8 .none->IsPart t7 lo->IsPart t8 ar->r x lo ar H Q->
  ∃T id,Sv (.type T) "__getitem__"=pure (some (.builtin id))/\s.TypeIs v T/\aO (a6 X.prog X.w) X.A (Cu v (.ref bj)) (ic X pins σ Q) X.dT s
noncomputable def aq1(r:V->Option Int->Option Int->ae->a'->Prop)(b0:TE)(dk oF:uI):TE:=λσ H Q=>b0 σ H λx H1=>dk σ H1 λl ah=>oF σ ah λu bg=>r x l u bg Q
theorem SH{r:V->Option Int->Option Int->ae->a'->Prop}(aq:X0 X r)(he:bh X e b0)(aj:FH X lo dk)(b8:FH X ar oF):bh X (.Subscript e (.Slice lo ar none gP) pos) (aq1 r b0 dk oF):=by intro pins s σ H Q I h;refine X4 (bB (he pins s σ H _ I h) λv s1⟨x,H1,aP,cg,bM⟩=>?_);refine wpAny_Slice (bB (aj pins s1 σ H1 _ aP bM) λt7 s2⟨l,ah,bA,pl,cU⟩=>bB (b8 pins s2 σ ah _ bA cU) λt8 s3⟨u,bg,cZ,pu,hn⟩=>?_);rw[evalPart_none];refine bf ?_;have jF:Inv X pins σ bg {s3 with heap:=s3.heap.push {cls:=.type "slice",data:=.fields #[t7,t8,.none]}}:=cZ.kept (t':=s3.toks) λb ob q=>dG _ q;obtain⟨T,id,jQ,df,bP⟩:=aq pins {s3 with heap:=s3.heap.push {cls:=.type "slice",data:=.fields #[t7,t8,.none]}} σ bg x v t7 t8 l u s3.heap.objs.size Q jF cg (Heap.IsSliceOf.new ..) pl pu hn;show aO (a6 X.prog X.w) X.A (ċ e (.Slice lo ar none gP) v (.ref s3.heap.objs.size)) (ic X pins σ Q) X.dT {s3 with heap:=s3.heap.push {cls:=.type "slice",data:=.fields #[t7,t8,.none]}};exact tail_any (ops:=[.ref s3.heap.objs.size,v]) df jQ bP (by with_unfolding_all rfl)
noncomputable def l6(xs:aY)(lo ar:Option Int):List V:=(xs.drop (hB.iS xs.length 0 lo)).take (hB.iS xs.length xs.length ar-hB.iS xs.length 0 lo)
theorem ť(xs:aY)(lo ar:Option Int):(l6 xs lo ar).length<=xs.length:=by unfold l6;rw[ml,List.length_drop];omega
noncomputable def qu(n:Nat)(i:Int):Option Nat:=if 0<=i then(if i<n then some i.toNat else none)else if -(n:Int)<=i then some (i+n).toNat else none
noncomputable def hb{α:Type}(xs:List α)(i:Int):Option α:=(qu xs.length i).bind λj=>xs[j]?
end
theorem VM{n:Nat}{i:Int}{j:Nat}(h:qu n i=some j):seqIndex? i n=some j/\j<n/\-(n:Int)<=i/\i<n:=by
 unfold qu at h;by_cases h0:0<=i
 .rw[bL h0]at h;by_cases af:i<n
  .rw[bL af]at h;have e:i.toNat=j:=hY h;exact⟨by rw[Ā h0 af,e],by omega,by omega,af⟩
  .rw[bF af]at h;cases h
 .rw[bF h0]at h;by_cases af:-(n:Int)<=i
  .rw[bL af]at h;have e:(i+n).toNat=j:=hY h;exact⟨by rw[ÿ (by omega) af,e],by omega,af,by omega⟩
  .rw[bF af]at h;cases h
theorem TJ{α:Type}{xs:List α}{i:Int}{v:α}(h:hb xs i=some v):∃j,seqIndex? i xs.length=some j/\xs[j]?=some v/\j<xs.length/\-(xs.length:Int)<=i/\i<xs.length:=by
 unfold hb at h;cases e:qu xs.length i with
 |none=>rw[e]at h;cases h
 |some j=>
  rw[e]at h;obtain⟨af,ai,bR,cS⟩:=VM e;exact⟨j,af,h,ai,bR,cS⟩
theorem iI{α:Type}{xs:List α}{j:Nat}{v:α}(h:xs[j]?=some v):hb xs (j:Int)=some v:=by
 have bK:j<xs.length:=(eG.mp h).1;have e:qu xs.length (j:Int)=some j:=by unfold qu;rw[bL (by omega),bL (by omega)];simp
 unfold hb;rw[e];exact h
noncomputable def aey(b:Expr):Prop:=∀o i,R' b false o i=operate [o,i] (Cu o i)
noncomputable def xo(X:bb)(r:ha):Prop:=
 ∀(value slice:Expr)(pins:cu)(s:aC)(σ:St)(H:ae)(x y:V)(v u:Value)(Q:a'),Inv X pins σ H s->RelV x v->RelV y u->r x y H Q->
  R' slice false v u=operate [v,u] (Cu v u)->aO (a6 X.prog X.w) X.A (ċ value slice v u) (ic X pins σ Q) X.dT s
noncomputable def adf(X:bb)(id:String)(r:V->List V->ae->a'->Prop):Prop:=
 ∀(pins:cu)(s:aC)(σ:St)(H:ae)(x:V)(xs:aY)(v:Value)(us:cw)(Q:a'),Inv X pins σ H s->RelV x v->cI xs us->r x xs H Q->
  aO (a6 X.prog X.w) X.A (call (.builtin id) (v::us)) (ic X pins σ Q) X.dT s
section
variable{X:bb}{a b:Expr}{b4 c9:TE}{pos:Pos}
theorem cp{r:ha}(aq:xo X r)(aK:bh X a b4)(aa:bh X b c9)(hs:aey b):bh X (.Subscript a b pos) (Ez r b4 c9):=by intro pins s σ H Q I h;exact X4 (K8 aK aa I h λv u s2 x y ah bA bz bG q=>aq a b pins s2 σ ah x y v u Q bA bz bG q (hs _ _))
inductive ahz(K:aU)(x:ao.V)(y:ao.V)(H:ae)(Q:a'):Prop where
 |mk (p:_) (xs:_) (i:_) (v:_) (bV:x=.ref p) (bD:y=.int i) (b_:aG K H p xs) (c_:hb xs i=some v) (d1:Q v H)
noncomputable def Yc(K:aU):ha:=λx y H Q=>ahz K x y H Q
inductive ahA(K:aU)(x:ao.V)(y:ao.V)(H:ae)(Q:a'):Prop where
 |mk (p:_) (xs:_) (i:_) (v:_) (bV:x=.ref p) (bD:y=.int i) (b_:cH K H p xs) (c_:hb xs i=some v) (d1:Q v H)
noncomputable def WP(K:aU):ha:=λx y H Q=>ahA K x y H Q
inductive ahB(x:ao.V)(y:ao.V)(H:ae)(Q:a'):Prop where
 |mk (z:_) (i:_) (c:_) (bV:x=.str z) (bD:y=.int i) (b_:z.length<=sizeLine) (c_:hb z.cps.toList i=some c) (d1:Q (.str ⟨#[c]⟩) H)
noncomputable def ajv:ha:=λx y H Q=>ahB x y H Q
theorem fk:xo X (Yc X.K):=by
 intro value slice pins s σ H x y v u Q I bz bG h hs;obtain⟨p,xs,i,z,rfl,rfl,aT,he,q⟩:=h;cases bz;obtain⟨t,rfl⟩:=bG;obtain⟨its,r,pl,hz⟩:=I.list aT;obtain⟨j,af,ai,bR,cS,dX⟩:=TJ he;obtain⟨w,Gb,gQ⟩:=r.get ai;have aj:=r.length;have aS:=yZ;have fin:ic X pins σ Q w s:=⟨z,H,I,gQ,q⟩
 by_cases h0:0<=i
 .have bK:i.toNat=j:=by rw[Ā h0 dX]at af;exact hY af
  exact item_listR pl.isList h0 (by omega) (by rw[bK];simpa using Gb) fin hs
 .have bK:(i+(its.toArray.size:Int)).toNat=j:=by rw[ÿ (by omega) cS]at af;rw[gW,<-aj];exact hY af
  exact aqK (x:=w) pl.isList.typeIs aqG.lookup
   (wpAny_getItem_list_neg (Q:=λr s'=>r=w/\ic X pins σ Q r s') pl.isList (by omega) (by rw[gW]<;>omega) (by omega) (by rw[bK];simpa using Gb) ⟨rfl,fin⟩) hs
theorem e5:xo X (WP X.K):=by
 intro value slice pins s σ H x y v u Q I bz bG h hs;obtain⟨p,xs,i,z,rfl,rfl,aT,he,q⟩:=h;cases bz;obtain⟨t,rfl⟩:=bG;obtain⟨its,r,pl,hz⟩:=I.tuple aT;obtain⟨j,af,ai,bR,cS,dX⟩:=TJ he;obtain⟨w,Gb,gQ⟩:=r.get ai;have aj:=r.length;have aS:=yZ;have fin:ic X pins σ Q w s:=⟨z,H,I,gQ,q⟩
 exact aqK (x:=w) pl.typeIs slot_tuple_getitem.lookup
  (getItem_tuple (j:=j) (Q:=λr s'=>r=w/\ic X pins σ Q r s') pl (by omega) (by omega) (by rw[gW,<-aj];exact af) (by simpa using Gb) ⟨rfl,fin⟩) hs
theorem af4:xo X ajv:=by
 intro value slice pins s σ H x y v u Q I bz bG h hs;obtain⟨z,i,c,rfl,rfl,hz,he,q⟩:=h;obtain⟨t,rfl⟩:=bz;obtain⟨t',rfl⟩:=bG;obtain⟨j,af,ai,bR,cS,dX⟩:=TJ he;have aj:z.cps.toList.length=z.length:=by simp[Str.length]
 rw[aj]at af cS dX;have aS:=yZ;exact tail_any (typeIs_str s z t) slot_str_getitem.lookup (getItem_str (c:=c) (by
  have aE:decide (i < -(2 ^ 63:Int))=false:=dF (by omega);have aB:decide (i≥2 ^ 63)=false:=dF (by omega);rw[aE,aB,Bool.or_false]) (by rw[af];simpa using ai) ⟨.str ⟨#[c]⟩,H,I.tok _,⟨_,rfl⟩,q⟩) hs
theorem aaf(its:cw)(n j:Nat)(u:Value):ri (·.setIfInBounds j u) {cls:=.type "list",data:=.seq its.toArray n}={cls:=.type "list",data:=.seq (its.set j u).toArray n}:=by simp[ri]
theorem Inv.lst{pins:cu}{σ:St}{H:ae}{s:aC}{p:Addr}{xs:aY}(I:Inv X pins σ H s)(h:H p=some (.lst xs)):
  ∃(its:cw)(n:Nat),cI xs its/\s.heap.get? p=some {cls:=.type "list",data:=.seq its.toArray n}/\xs.length<=sizeLine:=by obtain⟨z,its,n,r,e⟩:=I.a_ p _ h;exact⟨its,n,r,e,z⟩
theorem Inv.aoR{pins:cu}{σ:St}{H:ae}{s:aC}{p:Addr}{xs ys:aY}{its its':cw}{n lx:Nat}{f:Obj->Obj}(I:Inv X pins σ H s)(h:H p=some (.lst xs))(aZ:s.heap.get? p=some {cls:=.type "list",data:=.seq its.toArray n})(hf:f {cls:=.type "list",data:=.seq its.toArray n}={cls:=.type "list",data:=.seq its'.toArray lx})(r:cI ys its')(hz:ys.length<=sizeLine)(t:Nat):
  Inv X pins σ (upd H p (.lst ys)) {s with heap:=s.heap.update p f,toks:=t}:=by
 have e:(s.heap.update p f).get? p=some {cls:=.type "list",data:=.seq its'.toArray lx}:=by rw[oT f aZ (by rw[hf]<;>rfl),hf]
 refine I.write (x:=p) (e:=p) (by rw[h];trivial) (.inl rfl) (λb u aa q=>(jE _ _ (cL aa)).trans q) ⟨_,e⟩ ?_;exact⟨hz,its',lx,r,e⟩
inductive af5(o:V)(i:V)(v:V)(H:ae)(Q:((ae->Prop))):Prop where
 |mk (p:_) (xs:_) (k:_) (j:_) (bV:o=.ref p) (bD:i=.int k) (b_:H p=some (.lst xs)) (c_:qu xs.length k=some j) (d1:Q (upd H p (.lst (xs.set j v))))
noncomputable def ahC:V->V->V->ae->(ae->Prop)->Prop:=λo i v H Q=>af5 o i v H Q
theorem set_list:Ye X ahC:=by
 intro pins s σ H o i v eI ji u Q I aqn aqj b7 h;obtain⟨p,xs,k,j,rfl,rfl,aR,bK,q⟩:=h;cases aqn;obtain⟨t,rfl⟩:=aqj;obtain⟨its,n,r,aZ,hz⟩:=I.lst aR;obtain⟨af,ai,bR,cS⟩:=VM bK;have aj:=r.length;have aS:=yZ;have oU:Inv X pins σ (upd H p (.lst (xs.set j v))) {s with heap:=s.heap.update p (ri (·.setIfInBounds j u))}:=
  I.aoR aR aZ (aaf its n j u) (r.set b7 j) (by rw[List.length_set];exact hz) s.toks
 by_cases h0:0<=k
 .have aX:k.toNat=j:=by rw[Ā h0 cS]at af;exact hY af
  exact PySem.W.ki_setAt aZ h0 (by omega) (by rw[gW,<-aj];exact cS) (by rw[aX];exact⟨_,oU,q⟩)
 .have aX:(k+(its.toArray.size:Int)).toNat=j:=by rw[ÿ (by omega) bR]at af;rw[gW,<-aj];exact hY af
  exact PySem.W.ki_setBack aZ (by omega) (by rw[gW,<-aj];exact bR) (by omega) (by rw[aX];exact⟨_,oU,q⟩)
theorem arW(lo ar:Option Int)(n:Nat):(zb lo ar none n).1=((hB.iS n 0 lo:Nat):Int)/\(zb lo ar none n).2.1=((hB.iS n n ar:Nat):Int)/\(zb lo ar none n).2.2=1:=by
 refine⟨?_,?_,rfl⟩
 .cases lo with
  |none=>simp[zb,hB.iS]
  |some i=>
   simp only[zb,hB.iS,Xj,show(1:Int)>0 by decide,if_true];by_cases h:i<0
   .simp only[h,if_true]<;>omega
   .simp only[h,if_false]<;>omega
 .cases ar with
  |none=>simp[zb,hB.iS]
  |some i=>
   simp only[zb,hB.iS,Xj,show(1:Int)>0 by decide,if_true];by_cases h:i<0
   .simp only[h,if_true]<;>omega
   .simp only[h,if_false]<;>omega
theorem arp(its:cw)(lo ar:Option Int):slicePick its.toArray lo ar none=((its.drop (hB.iS its.length 0 lo)).take (hB.iS its.length its.length ar-hB.iS its.length 0 lo)).toArray:=by obtain⟨af,ai,bR⟩:=arW lo ar its.toArray.size;unfold slicePick;rw[af,ai,bR];simp only[sliceRange_one,pick_run,gW]<;>rfl
inductive ahD(K:aU)(x:V)(lo:(Option Int))(ar:(Option Int))(H:ae)(Q:a'):Prop where
 |mk (a:_) (xs:_) (bV:x=.ref a) (bD:aG K H a xs) (b_:∀p,H p=none->Q (.ref p) (upd H p (.lst (l6 xs lo ar))))
noncomputable def ajw(K:aU):V->Option Int->Option Int->ae->a'->Prop:=λx lo ar H Q=>ahD K x lo ar H Q
theorem TK:X0 X (ajw X.K):=by intro pins s σ H x v t7 t8 lo ar bj Q I bz hs pl pu h;obtain⟨a,xs,rfl,av,q⟩:=h;cases bz;obtain⟨its,r,df,hz⟩:=I.list av;have hlen:=r.length;refine⟨"list",_,aqG.lookup,df.isList.typeIs,?_⟩;refine wpAny_getItem_list_slice df.isList hs pl pu .none (by simp) ?_ (by rw[gW]<;>omega);rw[arp,<-hlen];refine⟨.ref s.heap.objs.size,_,I.laid (t':=s.toks) (o:=.lst (l6 xs lo ar)) (λb ob q=>dG _ q) (cj _) ?_,rfl,q _ (I.a_.fresh (cj _))⟩;exact⟨e3 (ť xs lo ar) hz,_,0,(r.drop (hB.iS xs.length 0 lo)).take (hB.iS xs.length xs.length ar-hB.iS xs.length 0 lo),gi _ rfl⟩
noncomputable def qH:V->Bool
 |.bl=>true
 |.aM _=>true
 |.int _=>true
 |.str _=>true
 |_=>false
noncomputable def s7:V->V->Bool
 |.bl,.bl=>true
 |.aM a,.aM b=>a==b
 |.aM a,.int b=>(if a then 1 else 0)==b
 |.int a,.aM b=>a==(if b then 1 else 0)
 |.int a,.int b=>a==b
 |.str a,.str b=>a==b
 |_,_=>false
theorem af6{A:cW}{s:aC}{y x:V}{u v:Value}(bG:RelV y u)(bz:RelV x v)(amO:qH y=true)(nh:qH x=true):afV A s u v (s7 y x):=by
 cases y with
 |bl=>
  cases bG;cases x with
  |bl=>cases bz;exact SeqAt.EqAt.same _
  |aM b=>cases bz;exact SeqAt.EqAt.none_bool b
  |int b=>obtain⟨t,rfl⟩:=bz;exact SeqAt.EqAt.none_int b t
  |str b=>obtain⟨t,rfl⟩:=bz;exact SeqAt.EqAt.none_str b t
  |_=>exact bE (show false=true from nh) ff
 |aM a=>
  cases bG;cases x with
  |bl=>cases bz;exact SeqAt.EqAt.bool_none a
  |aM b=>cases bz;exact SeqAt.EqAt.bool_bool a b
  |int b=>obtain⟨t,rfl⟩:=bz;exact SeqAt.EqAt.bool_int a b t
  |str b=>obtain⟨t,rfl⟩:=bz;exact SeqAt.EqAt.bool_str a b t
  |_=>exact bE (show false=true from nh) ff
 |int a=>
  obtain⟨t',rfl⟩:=bG;cases x with
  |bl=>cases bz;exact SeqAt.EqAt.int_none a t'
  |aM b=>cases bz;exact SeqAt.EqAt.int_bool a t' b
  |int b=>obtain⟨t,rfl⟩:=bz;exact SeqAt.EqAt.int_int a t' b t
  |str b=>obtain⟨t,rfl⟩:=bz;exact afW a t' b t
  |_=>exact bE (show false=true from nh) ff
 |str a=>
  obtain⟨t',rfl⟩:=bG;cases x with
  |bl=>cases bz;exact SeqAt.EqAt.str_none a t'
  |aM b=>cases bz;exact SeqAt.EqAt.str_bool a t' b
  |int b=>obtain⟨t,rfl⟩:=bz;exact afX a t' b t
  |str b=>obtain⟨t,rfl⟩:=bz;exact SeqAt.EqAt.str_str a t' b t
  |_=>exact bE (show false=true from nh) ff
 |_=>exact bE (show false=true from amO) ff
noncomputable def lW(x:V)(u:Value):Bool:=match u with
 |.none=>s7 .bl x
 |.bool b=>s7 (.aM b) x
 |.int i _=>s7 (.int i) x
 |.str z _=>s7 (.str z) x
 |_=>false
theorem Ww{x y:V}{u:Value}(r:RelV y u)(f:qH y=true):lW x u=s7 y x:=by
 cases y with
 |bl=>cases r;rfl
 |aM b=>cases r;rfl
 |int i=>obtain⟨t,rfl⟩:=r;rfl
 |str z=>obtain⟨t,rfl⟩:=r;rfl
 |_=>exact bE (show false=true from f) ff
theorem DY{x:V}:∀{xs:aY}{us:cw},cI xs us->xs.all qH=true->us.any (lW x)=xs.any λy=>s7 y x
 |_,_,.nil,_=>rfl
 |y::xs,u::us,.cons r t,f=>by rw[acv,jD]at f;rw[Fw,Fw,Ww r f.1,DY t f.2]
theorem DA{A:cW}{s:aC}{x:V}{v:Value}(bz:RelV x v)(nh:qH x=true):∀{xs:aY}{us:cw},cI xs us->xs.all qH=true->∀u∈us,afV A s u v (lW x u)
 |_,_,.nil,_=>λu b8=>by cases b8
 |y::xs,u::us,.cons r t,f=>λu' b8=>by
  rw[acv,jD]at f;rcases dA.mp b8 with rfl|b8
  .rw[Ww r f.1];exact af6 r bz f.1 nh
  .exact DA bz nh t f.2 u' b8
noncomputable def qt(x:V)(xs:aY):Bool:=xs.any λy=>s7 y x
inductive ajx(K:aU)(neg:Bool)(x:ao.V)(y:ao.V)(H:ae)(Q:a'):Prop where
 |mk (p:_) (xs:_) (bV:y=.ref p) (bD:(aG K H p xs\/cH K H p xs)) (b_:qH x=true) (c_:xs.all qH=true) (d1:Q (.aM (if neg then !qt x xs else qt x xs)) H)
noncomputable def õ(K:aU)(neg:Bool):ha:=λx y H Q=>ajx K neg x y H Q
theorem ő:gD X (js .In) (õ X.K false):=by
 intro pins s σ H x y v u Q I bz bG h;obtain⟨p,xs,rfl,aT,nh,fs,q⟩:=h;cases bG;rcases aT with aT|aT
 .obtain⟨its,r,pl,hz⟩:=I.list aT;refine SeqAt.in_listAt (lW x) pl.isList (λw hw=>DA bz nh r fs w (by simpa using hw)) ⟨.aM _,H,I,rfl,?_⟩;rw[show its.toArray.any (lW x)=its.any (lW x) by simp,DY r fs];exact q
 .obtain⟨its,r,pl,hz⟩:=I.tuple aT;refine SeqAt.in_tupleAt (lW x) pl (λw hw=>DA bz nh r fs w (by simpa using hw)) ⟨.aM _,H,I,rfl,?_⟩;rw[show its.toArray.any (lW x)=its.any (lW x) by simp,DY r fs];exact q
theorem ñ:gD X (js .NotIn) (õ X.K true):=by
 intro pins s σ H x y v u Q I bz bG h;obtain⟨p,xs,rfl,aT,nh,fs,q⟩:=h;cases bG;rcases aT with aT|aT
 .obtain⟨its,r,pl,hz⟩:=I.list aT;refine SeqAt.notIn_listAt (lW x) pl.isList (λw hw=>DA bz nh r fs w (by simpa using hw)) ⟨.aM _,H,I,rfl,?_⟩;rw[show its.toArray.any (lW x)=its.any (lW x) by simp,DY r fs];exact q
 .obtain⟨its,r,pl,hz⟩:=I.tuple aT;refine SeqAt.notIn_tupleAt (lW x) pl (λw hw=>DA bz nh r fs w (by simpa using hw)) ⟨.aM _,H,I,rfl,?_⟩;rw[show its.toArray.any (lW x)=its.any (lW x) by simp,DY r fs];exact q
inductive ajy(K:aU)(xs:aY)(H:ae)(Q:a'):Prop where
 |mk (p:_) (ys:_) (bV:xs=[.ref p]) (bD:(aG K H p ys\/cH K H p ys)) (b_:Q (.int ys.length) H)
theorem gH:jU X (.builtin "len") (ajy X.K):=by
 intro pins s σ H xs us Q I r h;obtain⟨p,ys,rfl,aT,q⟩:=h;obtain⟨u,rfl,bz⟩:=vals1 r;cases bz;have aS:=yZ;rcases aT with aT|aT
 .obtain⟨its,cD,pl,hz⟩:=I.list aT;have hlen:=cD.length;exact Calls.call_len_list pl.isList (by simp only[gW]<;>omega) ⟨.int ys.length,H,I.tok _,⟨s.toks+1,by rw[gW,hlen]⟩,q⟩
 .obtain⟨its,cD,pl,hz⟩:=I.tuple aT;have hlen:=cD.length;exact len_tuple pl (by simp only[gW]<;>omega) ⟨.int ys.length,H,I.tok _,⟨s.toks+1,by rw[gW,hlen]⟩,q⟩
theorem arX:jU X (.builtin "len") (λxs H Q=>∃z,xs=[.str z]/\z.length<=sizeLine/\Q (.int z.length) H):=by intro pins s σ H xs us Q I r h;obtain⟨z,rfl,hz,q⟩:=h;obtain⟨u,rfl,t,rfl⟩:=vals1 r;have aS:=yZ;exact len_str (by omega) ⟨.int z.length,H,I.tok _,⟨_,rfl⟩,q⟩
theorem u9:jU X (.type "list") (λxs H Q=>∃p ys,xs=[.ref p]/\(aG X.K H p ys\/cH X.K H p ys)/\∀l,H l=none->Q (.ref l) (upd H l (.lst ys))):=by
 intro pins s σ H xs us Q I r h;obtain⟨p,ys,rfl,aT,q⟩:=h;obtain⟨u,rfl,bz⟩:=vals1 r;cases bz;have fin:∀(its:cw),cI ys its->ys.length<=sizeLine->∀(h':Heap)(lR:Nat),(∀b cC,s.heap.get? b=some cC->h'.get? b=some cC)->
   h'.get? s.heap.objs.size=some {cls:=.type "list",dict:=none,data:=.seq its.toArray lR,slots:=#[]}->ic X pins σ Q (.ref s.heap.objs.size) {s with heap:=h'}:=λits cD hz h' lR bQ e=>
  ⟨.ref s.heap.objs.size,_,I.laid (t':=s.toks) bQ (cj _) (show ee X.prog X.w _ h' _ (.lst ys)from⟨hz,its,lR,cD,e⟩),rfl,q _ (I.a_.fresh (cj _))⟩
 rcases aT with aT|aT
 .obtain⟨its,cD,pl,hz⟩:=I.list aT;have hlen:=cD.length;obtain⟨o,aZ,ax,n,hd⟩:=pl.isList;exact call_list_seq p (.inl rfl) aZ ax hd (λh' lR bQ e=>fin its cD hz h' lR bQ e) (by simp only[gW]<;>omega)
 .obtain⟨its,cD,pl,hz⟩:=I.tuple aT;have hlen:=cD.length;obtain⟨o,aZ,ax,n,hd⟩:=pl;exact call_list_seq p (.inr rfl) aZ ax hd (λh' lR bQ e=>fin its cD hz h' lR bQ e) (by simp only[gW]<;>omega)
theorem ê:jU X (.type "tuple") (λxs H Q=>∃p ys,xs=[.ref p]/\((aG X.K H p ys/\∀l,H l=none->Q (.ref l) (upd H l (.tup ys)))\/(cH X.K H p ys/\Q (.ref p) H))):=by
 intro pins s σ H xs us Q I r h;obtain⟨p,ys,rfl,h⟩:=h;obtain⟨u,rfl,bz⟩:=vals1 r;cases bz;rcases h with⟨aT,q⟩|⟨aT,q⟩
 .obtain⟨its,cD,pl,hz⟩:=I.list aT;have hlen:=cD.length;refine call_tuple_list pl.isList (λh' bQ=>?_) (by simp only[gW]<;>omega);have aP:Inv X pins σ H {s with heap:=h'}:=I.kept (t':=s.toks) bQ;have bA:Inv X pins σ (upd H h'.objs.size (.tup ys)) {s with heap:=h'.push {cls:=.type "tuple",data:=.seq its.toArray}}:=
   aP.laid (t':=s.toks) (λb o e=>dG _ e) (cj _) (show ee X.prog X.w _ _ _ (.tup ys)from⟨hz,its,cD,IsTup.new _ _⟩)
  exact⟨.ref h'.objs.size,_,bA,rfl,q _ (aP.a_.fresh (cj _))⟩
 .obtain⟨its,cD,pl,hz⟩:=I.tuple aT;exact call_tuple_same pl ⟨.ref p,H,I,rfl,q⟩
noncomputable def ě(K:aU)(T:String)(x:V)(H:ae):Prop:=match x with
 |.str _=>T="str"
 |.int _=>T="int"
 |.ref p=>(T="list"/\∃xs,aG K H p xs)\/(T="tuple"/\∃o,K.lookup p=some o/\o.cls=.type "tuple"/\o.dict=none)\/
   (T="dict"/\((∃kvs,H p=some (.bX kvs))\/∃kvs,H p=some (.c4 kvs)))\/(T="set"/\∃S n,H p=some (.set S n))
 |_=>False
theorem af7{pins:cu}{σ:St}{H:ae}{s:aC}{T:String}{x:V}{v:Value}(I:Inv X pins σ H s)(r:RelV x v)(ty:ě X.K T x H):
  s.TypeIs v T/\∀a,v=.ref a->∃ob,s.heap.get? a=some ob/\ob.dict=none:=by
 cases x with
 |str z=>
  obtain⟨t,rfl⟩:=r;cases(show T="str" from ty);exact⟨typeIs_str s z t,λ_ e=>nomatch e⟩
 |int i=>
  obtain⟨t,rfl⟩:=r;cases(show T="int" from ty);exact⟨typeIs_int s i t,λ_ e=>nomatch e⟩
 |ref p=>
  cases r;rcases ty with⟨rfl,xs,aT⟩|⟨rfl,o,aX,ax,hd⟩|⟨rfl,aX⟩|⟨rfl,S,n,aX⟩
  .obtain⟨its,_,pl,_⟩:=I.list aT;refine⟨pl.isList.typeIs,λa e=>?_⟩;cases e;obtain⟨o,n,e,c,hd,_⟩:=pl;exact⟨o,e,hd⟩
  .refine⟨⟨o,I.ew p o aX,ax⟩,λa e=>?_⟩;cases e;exact⟨o,I.ew _ o aX,hd⟩
  .have z:∃o,s.heap.get? p=some o/\o.ExactDict:=by
    rcases aX with⟨kvs,aX⟩|⟨kvs,aX⟩
    .obtain⟨_,_,_,_,o,_,_,e,ex,_⟩:=I.a_ p _ aX;exact⟨o,e,ex⟩
    .obtain⟨_,_,_,_,o,_,_,e,ex,_⟩:=I.a_ p _ aX;exact⟨o,e,ex⟩
   obtain⟨o,e,ex⟩:=z;refine⟨⟨o,e,ex.1⟩,λa aB=>?_⟩;cases aB;exact⟨o,e,ex.2.1⟩
  .obtain⟨o,_,_,_,e,ex,_⟩:=I.a_ p _ aX;refine⟨⟨o,e,ex.1⟩,λa aB=>?_⟩;cases aB;exact⟨o,e,ex.2.1⟩
 |_=>exact hA ty
noncomputable def aqP(K:aU)(T:String)(r:V->List V->ae->a'->Prop)(to:TE)(t:f7):TE:=λσ H Q=>to σ H λx H1=>ě K T x H1/\t σ H1 λxs ah=>r x xs ah Q
variable{o e:Expr}{es:gG}{to:TE}{t:f7}{name:Str}{eN e6:Pos}{T id:String}{r:V->List V->ae->a'->Prop}
theorem nr(hk:PlainAttrs T)(slot:Slot T name id)(vw:typeOf (.builtin id)=pure (.type "method_descriptor"))(hm:adf X id r)(aZ:bh X o to)(aK:fM X (e::es) t)(NH:uP o name X.env (eval o X.env)=eval o X.env:=by rfl)(anB:((hg e6 (dR (e::es) X.env)).all (λx=>!x.1)&&(kB e6 (kP [] X.env)).all (λx=>x.1.isSome)
   && decide ((e::es).length+([]:List uv).length+(if([]:List uv).isEmpty then 0 else 1)<30))=true:=by rfl)(Oa:(eN.endLine==e6.line)=true:=by rfl)(hs:dR (e::es) X.env=(false,eval e X.env)::dR es X.env:=by rfl)(an3:(hg e6 (dR es X.env)).any (·.1)=false:=by rfl):
  bh X (.Call (.Attribute o name eN) (e::es) [] e6) (aqP X.K T r to t):=by intro pins s σ H Q I h;refine wpAny_Call_method_late NH anB Oa rfl (bB (aZ pins s σ H _ I h) λv s1⟨x,H1,aP,cg,ty,bM⟩=>?_);obtain⟨af,ai⟩:=af7 aP cg ty;refine⟨T,id,hk,slot,vw,af,ai,?_⟩;have mC:=aK e6 pins s1 σ H1 _ aP bM;rw[hs]at mC⊢;refine zX (by show(false||(hg e6 (dR es X.env)).any (·.1))=false;rw[an3]<;>rfl) (zY ?_);exact bB mC λus s2⟨vs,ah,bA,d5,cU⟩=>hm pins s2 σ ah x vs v us Q bA cg d5 cU
end
noncomputable def W2(X:bb)(id:String)(r:V->List V->ae->a'->Prop):Prop:=
 ∀(pins:cu)(s:aC)(σ:St)(H:ae)(x:V)(xs:aY)(v:Value)(us:cw)(Q:a'),Inv X pins σ H s->RelV x v->cI xs us->r x xs H Q->
  aO (a6 X.prog X.w) X.A (call (.builtin id) (v::us)) (ic X pins σ Q) X.dT s
theorem cI.one:∀{x:V}{us:cw},cI [x] us->∃u,us=[u]/\RelV x u
 |_,_,.cons r .nil=>⟨_,rfl,r⟩
section
variable{X:bb}{pins:cu}{σ:St}{H:ae}{s:aC}{l b:Addr}{xs ys zs:aY}
theorem Inv.Ä{its its':cw}{n:Nat}{f:Array Value->Array Value}{t':Nat}(I:Inv X pins σ H s)(kJ:H l=some (.lst xs))(e:s.heap.get? l=some {cls:=.type "list",data:=.seq its.toArray n})(hf:f its.toArray=its'.toArray)(bC:cI ys its')(hz:ys.length<=sizeLine):
  Inv X pins σ (upd H l (.lst ys)) {s with heap:=s.heap.update l (ri f),toks:=t'}:=by have q:=PySem.IsL.update e f;rw[hf]at q;refine I.write (x:=l) (e:=l) (by rw[kJ];exact trivial) (.inl rfl) (λbu u aa b8=>(jE s.heap (ri f) (cL aa)).trans b8) ⟨_,q⟩ ?_;exact⟨hz,its',_,bC,q⟩
theorem Inv.Á{its:cw}{t':Nat}(I:Inv X pins σ H s)(bC:cI ys its)(hz:ys.length<=sizeLine):
  Inv X pins σ (upd H s.heap.objs.size (.lst ys)) {s with heap:=s.heap.push {cls:=.type "list",data:=.seq its.toArray},toks:=t'}:=
 I.laid (λ_ _ q=>dG _ q) (cj _) ⟨hz,its,0,bC,gi _ rfl⟩
theorem Inv.fresh(I:Inv X pins σ H s):H s.heap.objs.size=none:=I.a_.fresh (cj _)
theorem Inv.Dy(I:Inv X pins σ H s)(kJ:H l=some (.lst xs)):xs.length<=sizeLine/\∃(its:cw)(n:Nat),cI xs its/\xs.length=its.length/\s.heap.get? l=some {cls:=.type "list",data:=.seq its.toArray n}:=by obtain⟨z,its,n,r,e⟩:=I.a_ l _ kJ;exact⟨z,its,n,r,r.length,e⟩
theorem acf{n:Nat}(h:n<=sizeLine):U3 n=false:=by unfold U3;exact dF (by omega)
end
section
variable{X:bb}
inductive acg(x:V)(vs:aY)(H:ae)(Q:a'):Prop where
 |mk (l:_) (xs:_) (y:_) (bV:x=.ref l) (bD:vs=[y]) (b_:H l=some (.lst xs)) (c_:xs.length<sizeLine) (d1:Q .bl (upd H l (.lst (xs++[y]))))
noncomputable def adV:V->List V->ae->a'->Prop:=λx vs H Q=>acg x vs H Q
theorem m':W2 X "list.append" adV:=by intro pins s σ H x vs v us Q I bz b7 h;obtain⟨l,xs,y,rfl,rfl,kJ,hz,q⟩:=h;cases bz;obtain⟨u,rfl,er⟩:=b7.one;obtain⟨z,its,n,r,aj,e⟩:=I.Dy kJ;refine call_meets F.slot_list_append ⟨_,e,rfl⟩ F.entry_list_append (F.args_list_append_2 _ _) (PySem.list_append l its.toArray n u (by rw[gW];omega)) ⟨e,?_⟩;refine⟨.bl,_,I.Ä (its':=its++[u]) kJ e (by simp) (r.append (.cons er .nil)) ?_,rfl,q⟩;rw[ig,List.length_singleton];omega
inductive ach(x:V)(vs:aY)(H:ae)(Q:a'):Prop where
 |mk (l:_) (b:_) (xs:_) (zs:_) (bV:x=.ref l) (bD:vs=[.ref b]) (b_:H l=some (.lst xs)) (c_:H b=some (.lst zs)) (d1:xs.length+zs.length<=sizeLine) (fw:Q .bl (upd H l (.lst (xs++zs))))
noncomputable def adW:V->List V->ae->a'->Prop:=λx vs H Q=>ach x vs H Q
theorem abg:W2 X "list.extend" adW:=by
 intro pins s σ H x vs v us Q I bz b7 h;obtain⟨l,b,xs,zs,rfl,rfl,kJ,Nm,hz,q⟩:=h;cases bz;obtain⟨u,rfl,er⟩:=b7.one;cases er;obtain⟨z,its,n,r,aj,e⟩:=I.Dy kJ;obtain⟨bD,vz,dC,d5,ph,aB⟩:=I.Dy Nm;have hsz:its.toArray.size+vz.toArray.size<=sizeLine:=by rw[gW,gW];omega
 have anN:¬(!its.toArray.isEmpty&&U3 (its.toArray.size+vz.toArray.size))=true:=by rw[acf hsz,Ů];exact ff
 refine call_meets F.slot_list_extend ⟨_,e,rfl⟩ F.entry_list_extend (F.args_list_extend_2 _ _)
  (AutoSeq1.list_extend_list_list_0 l its.toArray n b vz.toArray dC anN (by rw[gW];omega) (by omega)) ⟨e,aB,?_⟩
 refine⟨.bl,_,I.Ä (its':=its++vz) kJ e (by simp) (r.append d5) ?_,rfl,q⟩;rw[ig];omega
inductive ahE(x:ao.V)(y:ao.V)(H:ae)(Q:a'):Prop where
 |mk (l:_) (b:_) (xs:_) (zs:_) (bV:x=.ref l) (bD:y=.ref b) (b_:H l=some (.lst xs)) (c_:H b=some (.lst zs)) (d1:xs.length+zs.length<=sizeLine) (fw:∀p,H p=none->Q (.ref p) (upd H p (.lst (xs++zs))))
noncomputable def ajz:ha:=λx y H Q=>ahE x y H Q
theorem JF:gD X (sJ .Add) ajz:=by
 intro pins s σ H x y v u Q I bz bG h;obtain⟨l,b,xs,zs,rfl,rfl,kJ,Nm,hz,q⟩:=h;cases bz;cases bG;obtain⟨z,its,n,r,aj,e⟩:=I.Dy kJ;obtain⟨bD,vz,dC,d5,ph,aB⟩:=I.Dy Nm;refine PySem.P.add_list e aB ?_ (by rw[gW,gW];omega);have au:its.toArray++vz.toArray=(its++vz).toArray:=by simp
 rw[au];exact⟨.ref _,_,I.Á (t':=s.toks) (r.append d5) (by rw[ig];omega),rfl,q _ I.fresh⟩
end
end ao
namespace UJ
open PySem PySem.W PySem.Calls PyProof.Rows
theorem arh{P:Params}{h:Heap}:∀(ns:gX)(vs:cw),WellAll P h vs (ns.map WData.int)->Ft vs ns:=by
 intro ns
 induction ns with
 |nil=>
  intro vs w;rw[FA]at w;cases w;exact .nil
 |cons n ns a8=>
  intro vs w;rw[hW]at w;cases w with
  |cons a b=>
   cases a;exact .cons _ _ (a8 _ b)
theorem abh{l:OpenLaw}{n:Nat}(aS:l.most=some n){P:Params}{h:Heap}{args:List WData}{vals:cw}(Ha:l.row.toRowW.claim.pre args=true)(OH:WellAll P h vals args):
  ∃a vs ns,vals=[cy a]/\args=[WData.list (ns.map WData.int)]/\h.get? a=some {cls:=.type "list",data:=.seq vs.toArray}/\Ft vs ns/\ns.length<=n:=by
 have n':WShape.hasAll [] args [.list .int]=true:=(pre_splitW Ha).1;have ax:l.pre.holds [] {args:=args}=true:=(pre_splitW Ha).2;obtain⟨d,r,rfl,af,ai⟩:=hasAllW_cons n';obtain rfl:=hasAllW_nil ai;obtain⟨xs,rfl,bR⟩:=hasW_list af;obtain⟨ns,rfl⟩:=items_int bR;have hlen:ns.length<=n:=by
  unfold OpenLaw.pre at ax;have cS:(WTm.not (.lt (.lit (.int (n:Int))) (.len (.arg 0)))).holds [] {args:=[.list (ns.map .int)]}=true:=by have cS:=(holds_andW ax).1;rw[aS]at cS;exact cS
  have dX:=condW_of cS (w_not (w_lt w_lit (w_len_list (w_arg rfl))));rw[bp]at dX;refine Nat.le_of_not_lt λq=>?_;have fH:(n:Int)<((ns.length:Nat):Int):=by omega
  first
   | (rw[cq fH]at dX;exact bE dX (by decide))
   | (simp at dX;omega)
 cases OH with
 |cons fe fK=>
  cases fK;cases fe with
  |list aZ vj=>exact⟨_,_,ns,rfl,rfl,aZ,arh ns _ vj,hlen⟩
theorem abi(l:OpenLaw)(args:List WData):l.row.toRowW.claim.post args (.bool true) args=true:=
 postW_of (r:=l.row.toRowW) (X:=(true==true))
  (show WShape.has [] (.bool true) .bool=true by first|rfl|decide|simp[WShape.has,WShape.arms,WShape.armsAll])
  (show(WTm.eq .res (.lit (.bool true))).value [] {args:=args,res:=some (.bool true),after:=args}=some (.bool (true==true))from w_eq_bool (w_res rfl) w_lit) rfl
theorem aj1{l:OpenLaw}{n:Nat}{q:bJ}{loose:cf}{xT:cB->Heap->Prop}{sH:bq->Heap->Prop}{d:DefRec}(aS:l.most=some n)(qm:d.params.defaults=[])(call:∀(w:bq)(iz dP:aC)(mg oq:cB)(ip:Addr)(o:Obj)(pm cd doc:Value)(a:Addr)(vs:cw)(ns:gX),
   Ground q loose [] xT w iz mg oq dP.heap->sH w dP.heap->
   dP.heap.get? ip=some o->o.data=.func (docDef d.name d.params d.body d.scope pm cd doc)->dP.heap.CodeRec cd d.name->mg d.name=some (.ref ip)->
   dP.heap.get? a=some {cls:=.type "list",data:=.seq vs.toArray}->Ft vs ns->ns.length<=n->dP.gens=#[]->
   jJ (a6 l.prog w) xZ (.call (.ref ip) ⟨[.ref a],[]⟩) (λr s'=>r=.ok (.ret (.bool true))/\OldK dP.heap s'.heap/\s'.os=dP.os/\q' s'.gens) dP):
  WalkO q loose xT sH l.row.toRowW d [] (λf vs=>XJ f vs):=by intro w iz dP mg oq G Y ip o pm cd doc F7 dg aZ hd jR bN CL bP args vals as Ha att ω OH atu;obtain rfl:F7=.none:=Dflts.none bN qm;obtain rfl:dg=.none:=Dflts.noKw bN;obtain⟨a,vs,ns,rfl,rfl,Oh,hints,hlen⟩:=abh aS Ha OH;refine enter_call (rn (call w iz dP mg oq ip o pm cd doc a vs ns G Y aZ (fd_plain hd) jR CL Oh hints hlen bP) λr s' aT=>?_);obtain⟨rfl,ai,bR,cS⟩:=aT;exact⟨.inl ⟨.bool true,.bool true,[],rfl,λ_=>rfl,.bool true,abi l _,λ_=>⟨List.Pairwise.nil,λ_ hm=>(nomatch hm)⟩⟩,ai,bR,cS⟩
end UJ
namespace ao
open PySem PySem.Spec PyProof.Rows
theorem Œ:∀{vs:cw}{ns:gX},Ft vs ns->cI (ns.map V.int) vs
 |_,_,.nil=>.nil
 |_,_,.cons n t h=>.cons ⟨t,rfl⟩ (Œ h)
noncomputable def KN(H:ae):Prop:=∀b,H b=none\/∃o xs,H b=some (.eF o (.lst xs))
theorem aci{P:bJ}{w:bq}{K:aU}{mg oq:cB}{CX:mW}{k:Nat}{ip a:Addr}{fd:cz}{x:Str}{sp:cG}{dP:aC}{vs:cw}{ns:gX}(pS:K.In dP.heap)(CO:dP.heap.Ns c5 mg)(aa:dP.heap.Ns YQ oq)(ani:∀x:Str,x≠"__name__"->oq x=iY x)(anM:dP.heap.NoLimit)(bP:dP.gens=#[])(aK:dP.heap.get? a=some {cls:=.type "list",data:=.seq vs.toArray})(ar:Ft vs ns)(aj:ns.length<=sizeLine)(aq:gc k xZ)(F:∀base:Heap,K.In base->base.Ns c5 mg->aL P w K mg base CX k ip fd [x] sp)(ank:∀(s:aC)(u:Value),zM s fd ⟨[u],[]⟩ [(x,u)])(n_:∀H:ae,KN H->aG K H a (ns.map V.int)->sp [.ref a] H (λv _=>v=.aM true) λ_ _ _=>False)(Nq:∀H e s',CX [] H dP (λ_ _ _=>False) e s'->False):
  jJ (a6 P w) xZ (.call (.ref ip) ⟨[.ref a],[]⟩) (λr s'=>r=.ok (.ret (.bool true))/\OldK dP.heap s'.heap/\s'.os=dP.os/\q' s'.gens) dP:=by
 have b7:=Œ ar;have aoN:=ar.length;have core:∀H:ae,KN H->aG K H a (ns.map V.int)->fg P w H dP.heap->(∀b,H b≠none->b=a)->(H a≠none->K.lookup a=none)->
   jJ (a6 P w) xZ (.call (.ref ip) ⟨[.ref a],[]⟩) (λr s'=>r=.ok (.ret (.bool true))/\OldK dP.heap s'.heap/\s'.os=dP.os/\q' s'.gens) dP:=by
  intro H GU fD a_ mC fY;have YI:∀{b:Addr}{o:Obj},dP.heap.get? b=some o->H b=none->(r_ dP.heap H).get? b=some o:=λe n=>abm e n;have DH:∀{b:Addr}{o:Obj}{es:Array oR}{ep:Nat},dP.heap.get? b=some o->o.data=.dict es ep->H b=none:=λ{b o es ep}e d=>by
   cases q:H b with
   |none=>rfl
   |some u=>
    have cm:b=a:=mC b (by rw[q];simp);subst cm;rw[aK]at e;cases e;have d':Data.seq vs.toArray _=Data.dict es ep:=d;cases d'
  have HY:∀{b:Addr}{m:cB},dP.heap.Ns b m->(r_ dP.heap H).Ns b m:=λ{b m}⟨o,es,ep,e,d,r⟩=>⟨o,es,ep,YI e (DH e d),d,r⟩
  have ZL:K.In (r_ dP.heap H):=λb o e=>YI (pS b o e) (by
   cases q:H b with
   |none=>rfl
   |some u=>
    have cm:b=a:=mC b (by rw[q];simp);subst cm;rw[fY (by rw[q];simp)]at e;cases e)
  have am7:Mod K mg (r_ dP.heap H):=⟨ZL,HY CO,⟨oq,HY aa,ani⟩,let⟨aoU,af,ai⟩:=anM;⟨aoU,HY af,ai⟩⟩
  have cT:ug P w K mg (r_ dP.heap H) xZ [] dP H:=⟨rfl,am7,λb o e=>adZ e,Kw (aa7 _ _),trivial,λb aa=>bE (show b∈([]:bS)from aa) (by simp),a_,.of_eq bP⟩
  refine rn ((F _ ZL (HY CO)).run xZ [] dP H ⟨[.ref a],[]⟩ [.ref a] [.ref a] _ _ aq cT (ank dP (.ref a)) (.cons rfl .nil) (n_ H GU fD)) λr s' h=>?_;cases r with
  |error e=>exact(Nq H e s' h).elim
  |ok fb=>
   cases fb with
   |next=>exact hA h
   |brk=>exact hA h
   |cont=>exact hA h
   |ret u=>
    obtain⟨v,H',os,bare,un,anW,cD,q⟩:=h;have fH:v=.aM true:=q;subst fH;obtain rfl:u=Lk true:=cD;refine⟨rfl,OldK.of_keep λb o e=>?_,os,bare⟩;cases q:H b with
    |none=>exact un.keep b o e q (by intro z;exact bE (show b∈([]:bS)from z) (by simp)) (by simp)
    |some u=>
     rcases GU b with z|⟨ob,xs,z⟩
     .rw[q]at z;cases z
     .have bD:=un.iN b ob _ z;obtain⟨aE,_⟩:=a_ b _ z;obtain⟨aB,_⟩:=anW b _ bD;rw[e]at aE;cases aE;exact aB
 cases aX:K.lookup a with
 |some o=>
  have e:=pS a o aX;rw[aK]at e;cases e;refine core (λ_=>none) (λ_=>.inl rfl) (.inr ⟨_,vs.toArray,_,aX,rfl,rfl,rfl,by rw[gW,aoN];exact aj,by simpa using b7⟩) (λb u z=>by have di:(none:Option ed)=some u:=z;cases di) (λb z=>bE rfl z) λz=>bE rfl z
 |none=>
  refine core (λb=>if b=a then some (.eF {cls:=.type "list",data:=.seq vs.toArray} (.lst (ns.map V.int)))else none) (λb=>?_) (.inl (.inr ⟨{cls:=.type "list",data:=.seq vs.toArray},bL rfl⟩)) (λb u z=>?_) (λb z=>?_) λ_=>aX
  .by_cases aa:b=a
   .exact .inr ⟨_,_,bL aa⟩
   .exact .inl (bF aa)
  .by_cases aa:b=a
   .have di:=(bL aa).symm.trans z;cases di;subst aa;exact⟨aK,by rw[bp];exact aj,vs,_,b7,aK⟩
   .have di:=(bF aa).symm.trans z;cases di
  .by_cases aa:b=a
   .exact aa
   .exact bE (bF aa) z
noncomputable abbrev asD{K:aU}{h:Heap}(_:K.In h):aU:=K
theorem arB{l:Xy}{n k:Nat}{q:bJ}{loose:cf}{xT:cB->Heap->Prop}{sH:bq->Heap->Prop}{d:DefRec}{K:Params->aU}{CX:bq->mW}{sp:bq->cG}{x:Str}(aS:l.most=some n)(G6:n<=sizeLine)(qm:d.params.defaults=[])(aq:gc k xZ)(Ny:∀(w:bq)(h:Heap),sH w h->(K w.params).In h)(F:∀(w:bq)(mg:cB)(ip:Addr)(h:Heap),(K w.params).In h->h.Ns c5 mg->mg d.name=some (.ref ip)->
   ∃fd:cz,(∀(s:aC)(u:Value),zM s fd ⟨[u],[]⟩ [(x,u)])/\
    ∀base:Heap,(K w.params).In base->base.Ns c5 mg->aL l.prog w (K w.params) mg base (CX w) k ip fd [x] (sp w))(n_:∀(w:bq)(H:ae)(a:Addr)(ns:gX),ns.length<=n->KN H->aG (K w.params) H a (ns.map V.int)->sp w [.ref a] H (λv _=>v=.aM true) λ_ _ _=>False)(Nq:∀(w:bq)(H:ae)(s:aC)(e:Value)(s':aC),CX w [] H s (λ_ _ _=>False) e s'->False):
  aek q loose xT sH l.row.toRowW d [] (λf vs=>XJ f vs):=by refine UJ.aj1 aS qm λw iz dP mg oq ip o pm cd doc a vs ns G Y aZ hd jR CL Oh hints hlen bP=>?_;have pS:=Ny w _ Y;obtain⟨fd,aa,Cx⟩:=F w mg ip _ pS G.T.g CL;exact aci pS G.T.g G.T.b G.T.builtins G.T.nolimit bP Oh hints (e3 hlen G6) aq Cx aa (λH GU fD=>n_ w H a ns hlen GU fD) λH e s'=>Nq w H dP e s'
noncomputable def gL(s:Stmt)(j:Nat):Stmt:=match s with
 |.ClassDef _ _ _ body _ _ _ _ _ _ _=>body.getD j (.Pass ⟨0,0,0,0⟩)
 |_=>.Pass ⟨0,0,0,0⟩
noncomputable def DZ(s:Stmt):Arguments:=match s with
 |.FunctionDef _ a _ _ _ _ _ _ _ _=>a
 |_=>{posonlyargs:=[],args:=[],vararg:=none,kwonlyargs:=[],kw_defaults:=[],kwarg:=none,defaults:=[]}
noncomputable def tm(s:Stmt):List Stmt:=match s with
 |.FunctionDef _ _ b _ _ _ _ _ _ _=>b
 |_=>[]
noncomputable def c3(s:Stmt):Scope:=match s with
 |.FunctionDef _ _ _ _ _ _ sc _ _ _=>sc
 |_=>{kind:=.function,names:=[],isGenerator:=false,isCoroutine:=false}
noncomputable abbrev a5:mW:=λ_ _ _ _ _ _=>False
noncomputable abbrev ra:b2:=λ_ _ _=>False
theorem dj{X:bb}:pn a5 X ra:=λ_ _ _ _ _ _ _ h=>h.elim
structure bw(K:aU)(x qual:Str)(st:Stmt)(f:Addr)(fd:cz):Prop where
 ex:∃(l4:Value)(d4:Option Addr)(dg doc pm:Value)(an:Option Addr)(cdv e0:Value)(oz:jI),
  fd=xN x qual (DZ st) (tm st) (c3 st) .none dg doc pm an cdv e0/\K.lookup f=some ⟨l4,d4,.func fd,oz⟩/\Xz K cdv qual=true
 bQ:o4 K (.ref f)=true
section
variable{P:bJ}{w:bq}{K:aU}{mg:cB}{base:Heap}
theorem bw.ok{x qual:Str}{st:Stmt}{f:Addr}{fd:cz}{N ps:cf}{k:Nat}{sp:cG}(F:bw K x qual st f fd)(S:dw N ps (c3 st))(len:∀vs H Q E,sp vs H Q E->vs.length=ps.length)(vk:∀(cdv:Value)(A:cW)(outer:List Env)(s:aC)(H:ae)(vs:aY)(Q:a')(E:b2),gc k (A.deeper (n6 qual (c3 st) s.heap.objs.size f cdv))->sp vs H Q E->
   ∃t,fV (jY a5 P w K mg base N qual (c3 st) f cdv A outer s H E).qE (tm st) t/\t {b9:=λ_ H'=>Q .bl H',l7:=Q} (start N vs) H):aL P w K mg base a5 (k+1) f fd ps sp:=by obtain⟨l4,d4,dg,doc,pm,an,cdv,e0,oz,rfl,lk,jR⟩:=F.ex;refine Kc lk jR S len λA outer s H vs Q E aq n_=>?_;obtain⟨t,h,q⟩:=vk cdv A outer s H vs Q E aq n_;exact⟨t,h.qE,q⟩
theorem bw.binds{x qual:Str}{st:Stmt}{f:Addr}{fd:cz}{ps:cf}(F:bw K x qual st f fd)(h:∀(dg doc pm:Value)(an:Option Addr)(cdv e0:Value)(us:cw),us.length=ps.length->bindArgs (xN x qual (DZ st) (tm st) (c3 st) .none dg doc pm an cdv e0) ⟨us,[]⟩=pure (ps.zip us)):Binds K fd ps []:=by obtain⟨l4,d4,dg,doc,pm,an,cdv,e0,oz,rfl,lk,jR⟩:=F.ex;exact .all (h dg doc pm an cdv e0)
theorem dO{x qual:Str}{st:Stmt}{f:Addr}{l4:Value}{d4 an:Option Addr}{oz:jI}{dg doc pm cdv e0:Value}(l:K.lookup f=some ⟨l4,d4,.func (xN x qual (DZ st) (tm st) (c3 st) .none dg doc pm an cdv e0),oz⟩)(c:Xz K cdv qual=true)(k:o4 K (.ref f)=true):bw K x qual st f (xN x qual (DZ st) (tm st) (c3 st) .none dg doc pm an cdv e0):=⟨⟨l4,d4,dg,doc,pm,an,cdv,e0,oz,rfl,l,c⟩,k⟩
theorem iM{A:cW}{k:Nat}(aq:gc k A):A.units+1<cLine:=nT (adl (by decide:1<=64) _) aq.units
theorem eM{n:Nat}(h:n<=1000):n<sizeLine:=nT h (by decide)
end
section
variable{X:bb}
theorem U(i:Nat){x:Str}{pos:Pos}(eC:X.N[i]?=some x:=by rfl)(bC:Lo X.env.scope x:=by first|exact b5 rfl|exact rj (b5 rfl)|exact rj (rj rfl))(hd:(x==("__debug__":Str))=false:=by decide)(jR:(x==("__classdict__":Str))=false:=by decide):bh X (.Name x pos) (K5 i):=agd eC bC hd jR
theorem gs{A B:Prop}(h:B):if false=true then A else B:=by rw[bF ff];exact h
theorem hP{A B:Prop}(h:A):if true=true then A else B:=by rw[bL rfl];exact h
theorem nC{c A B:Prop}[Decidable c](af:c->A)(ai:¬c->B):if c then A else B:=by
 by_cases h:c
 .rw[bL h];exact af h
 .rw[bF h];exact ai h
theorem Kd{c A B:Prop}[Decidable c](ax:c)(h:B):if(!decide c)=true then A else B:=by rw[cq ax];exact gs h
noncomputable def aN(H H':ae):Prop:=∀b o,H b=some o->H' b=some o
theorem aN.refl(H:ae):aN H H:=λ_ _ h=>h
theorem aN.trans{H H1 ah:ae}(a:aN H H1)(b:aN H1 ah):aN H ah:=λc o h=>b c o (a c o h)
theorem aN.free{H H':ae}(e:aN H H'){l:Addr}(h:H' l=adQ):H l=adQ:=by
 cases q:H l with
 |none=>rfl
 |some o=>
  rw[e l o q]at h;cases h
theorem aN.seq{K:aU}{H H':ae}{a:Addr}{xs:aY}(e:aN H H')(h:aG K H a xs):aG K H' a xs:=by
 rcases h with(h|⟨o,h⟩)|h
 .exact .inl (.inl (e _ _ h))
 .exact .inl (.inr ⟨o,e _ _ h⟩)
 .exact .inr h
set_option maxHeartbeats 4000000
end
end ao
namespace cQ
open PySem PySem.Spec PyProof.Rows ao
noncomputable abbrev St:=ao.St
noncomputable abbrev V:=ao.V
noncomputable abbrev pV:Value->aC->Prop:=λ_ _=>False
theorem adX{α:Type}{M:k8}{A:cW}{t:Sem α}{Q:α->aC->Prop}{E:cx}{s:aC}(h:aO M A t Q pV s):aO M A t Q E s:=
 gf h (λ_ _ q=>q) λ_ _ z=>hA z
theorem aag{prog:bJ}{w:bq}{A:cW}{R:m3->aC->Prop}{s:aC}{elt dv iter:Expr}{ifs:gG}{scope:Scope}{pos:Pos}{it acc:Value}{env:Env}(I:Nat->aC->Prop)(turn:∀n s,I n s->aO (a6 prog w) A (ib it) (λr s1=>match r with
   |none=>R (.ok .next) s1
   |some v=>aO (a6 prog w) A (PS dv it v) (λ_ s2=>aO (a6 prog w) A (xV dv env v) (λ_ s3=>
     aO (a6 prog w) A (forIn ifs true λc r=>if r=true then do let ok <-Hl c env (eval c env);pure (J1 ok)else pure (J1 r)) (λok s4=>
      if ok=true then aO (a6 prog w) A (eval elt env) (λx s5=>aO (a6 prog w) A (call (.builtin "list.append") [acc,x]) (λ_ fR=>∃m,m<n/\I m fR) pV s5) pV s4
      else∃m,m<n/\I m s4) pV s3) pV s2) pV s1) pV s)(n:Nat)(h:I n s):jJ (a6 prog w) A (.compLoop (.ListComp elt [⟨dv,iter,ifs,0⟩] scope pos) 0 it acc env) R s:=by
 refine codeAny_loop rfl I (λn s am5=>?_) n h;show aO _ A ((compTurn (.ListComp elt [⟨dv,iter,ifs,0⟩] scope pos) 0 it acc env).onRaise (λx=>do QC x env;theTreesLotGoes x)) _ _ s;refine wpAny_noted (adX ?_);rw[compTurn_list];refine aw (EU (aw (gf (turn n s am5) (λr s1 af=>?_) λ_ _ z=>z)));cases r with
 |none=>exact bf af
 |some v=>
  refine aw (gf af (λ_ s2 ai=>aw (gf ai (λ_ s3 bR=>aw (gf bR (λok s4 cS=>?_) λ_ _ z=>z)) λ_ _ z=>z)) λ_ _ z=>z);cases ok with
  |false=>exact bf ⟨rfl,cS⟩
  |true=>exact aw (aw (gf cS (λx s5 dX=>aw (gf dX (λ_ fR kg=>bf (bf ⟨rfl,kg⟩)) λ_ _ z=>z)) λ_ _ z=>z))
noncomputable def ia(cs:k_)(σ:St):St:=cs.map λo=>o.bind λj=>(σ[j]?).bind id
noncomputable def oe(X:bb)(N':cf)(scope:Scope)(cl:List (Str×Addr))(C:Addr)(s3:aC)(bg:ae)(cb:bS)(e9:cu):bb:=
 {X with N:=N',iz:=s3,me:=bg,env:=compEnvC scope cl C X.env,outer:=X.stack,stack:=X.stack,ex:=cb,fn:=λ_=>false,e9:=e9,dT:=λ_ _=>False}
noncomputable def zG(k:Option uz):Prop:=k=some .cell\/k=some .free
inductive oH(X:bb)(scope:Scope)(cl:List (Str×Addr)):List Str->List (Option Nat)->Prop
 |nil:oH X scope cl [] []
 |own {x N cs}:oH X scope cl N cs->oH X scope cl (x::N) (none::cs)
 |lS {x j N cs} (af:X.N[j]?=some x) (ai:zG (X.env.kindOf x)) (bR:zG ((Iu scope X.env).names.lookup x)) (cS:cl.lookup x=X.env.cells.lookup x):
   oH X scope cl N cs->oH X scope cl (x::N) (some j::cs)
theorem oH.len{X:bb}{scope:Scope}{cl:List (Str×Addr)}{N cs}(h:oH X scope cl N cs):cs.length=N.length:=by
 induction h with
 |nil=>rfl
 |own _ a8=>simp[a8]
 |lS _ _ _ _ _ a8=>simp[a8]
theorem oH.get{X:bb}{scope:Scope}{cl:List (Str×Addr)}{N cs}(h:oH X scope cl N cs){σ:St}:∀{i:Nat}{x:Str}{v:V},N[i]?=some x->(ia cs σ)[i]?=some (some v)->
  ∃j:Nat,X.N[j]?=some x/\σ[j]?=some (some v)/\zG (X.env.kindOf x)/\zG ((Iu scope X.env).names.lookup x)/\cl.lookup x=X.env.cells.lookup x:=by
 induction h with
 |nil=>intro i x v af ai;simp at af
 |own _ a8=>
  intro i x v af ai;cases i with
  |zero=>simp[ia]at ai
  |succ i=>exact a8 (i:=i) (by simpa using af) (by simpa[ia]using ai)
 |@lS y j N cs a1 a2 hE jd _ a8=>
  intro i x v af ai;cases i with
  |zero=>
   simp at af;subst af;refine⟨j,a1,?_,a2,hE,jd⟩;simp[ia]at ai;cases q:σ[j]? with
   |none=>rw[q]at ai;simp at ai
   |some o=>
    rw[q]at ai;simp at ai;rw[ai]
  |succ i=>exact a8 (i:=i) (by simpa using af) (by simpa[ia]using ai)
noncomputable def FG(cl:List (Str×Addr))(names:List (Str×uz)):Bool:=names.all λy=>(y.2 !=.cell&&y.2 !=.free)||(cl.lookup y.1).isSome
theorem acj{cl:List (Str×Addr)}{names:List (Str×uz)}(h:FG cl names=true){x:Str}(k:zG (names.lookup x)):∃c,cl.lookup x=some c:=by
 have key:∀q:uz,names.lookup x=some q->(q=.cell\/q=.free)->∃c,cl.lookup x=some c:=λq e aT=>by
  have m:=Fv.mp h (x,q) (A8 e);rcases aT with rfl|rfl
  .exact uA.mp (by simpa using m)
  .exact uA.mp (by simpa using m)
 rcases k with k|k
 .exact key _ k (.inl rfl)
 .exact key _ k (.inr rfl)
noncomputable def Az(X:bb)(ifs:gG)(t:TT):Prop:=
 ∀(pins:cu)(s:aC)(σ:St)(H:ae)(Q:Bool->ae->Prop),Inv X pins σ H s->t σ H Q->
  aO (a6 X.prog X.w) X.A (forIn ifs true λc r=>if r=true then do let ok <-Hl c X.env (eval c X.env);pure (J1 ok)else pure (J1 r)) (K4 X pins σ Q) X.dT s
noncomputable def se:TT:=λ_ H Q=>Q true H
theorem qv{X:bb}:Az X [] se:=λ_ _ _ H _ I h=>wpAny_tests_nil ⟨H,I,h⟩
theorem yQ{X:bb}{c:Expr}{t:TT}(h:k9 X c t):Az X [c] t:=λpins s σ H Q I q=>wpAny_tests_one (h pins s σ H Q I q)
noncomputable def nF(dc:TI)(cs:k_)(g:jo)(tt:TT)(b0:TE):TE:=λσ H Q=>dc σ H λJ H1=>∀D,H1 D=none->
 ∃W:Nat->Nat->List V->St->ae->Prop,(∃m,W 0 m [] (ia cs σ) (upd H1 D (.lst [])))/\∀i m ys a3 H',W i m ys a3 H'->H' D=some (.lst ys)/\ys.length<sizeLine/\
  ((J.stop i H'/\Q (.ref D) H')\/(J.go i H'/\∀x ah,J.nI i H' x ah->g x a3 ah λgT bg=>tt gT bg λb dV=>
   if b=true then b0 gT dV λy bx=>bx D=some (.lst ys)/\∃cP,cP<m/\W (i+1) cP (ys++[y]) gT (upd bx D (.lst (ys++[y])))
   else∃cP,cP<m/\W (i+1) cP ys gT dV))
section
variable{X:bb}{elt dv iter:Expr}{ifs:gG}{scope:Scope}{pos:Pos}{N':cf}{cs:k_}{cl:List (Str×Addr)}{dc:TI}{g:jo}{tt:TT}{b0:TE}
theorem PP{P:bJ}{w:bq}{H:ae}{h h':Heap}{C:Addr}(ok:fg P w H h)(eg:H C=none)(hs:kv C h h'):fg P w H h':=λb ob e=>by
 refine(ok b ob e).mS (λc u ax q=>(hs.2 c ?_).trans q) (λ_ q=>q) λ_ _ q=>q;rintro rfl;rcases ax with rfl|ax
 .rw[eg]at e;cases e
 .rw[eg]at ax;cases ax
theorem Wx{use:Option (Value->Sem Unit)}{QQ:cx}{pins:cu}{s:aC}{σ:St}{H:ae}{Q:a'}{amL:Pos}(ax:X.calm=true)(ar:nU X dv iter dc)(CH:YV scope X.env=pure cl)(td:∀y∈scope.names,y.2≠.cell)(rz:scope.kind=.function)(CN:∀y∈scope.names,y.2=.local->scope.names.lookup y.1=some .local)(kj:∀x c,cl.lookup x=some c->X.env.cells.lookup x=some c)(a_:FG cl (Iu scope X.env).names=true)(yf:oH X scope cl N' cs)(aa:∀(C:Addr)(s3:aC)(bg:ae)(cb:bS)(e9:cu),pW (oe X N' scope cl C s3 bg cb e9) dv g/\Az (oe X N' scope cl C s3 bg cb e9) ifs tt/\bh (oe X N' scope cl C s3 bg cb e9) elt b0)(hs:∀x,Na iter X.env x=pure x:=by intro _;rfl)(I:Inv X pins σ H s)(h:nF dc cs g tt b0 σ H Q)(post:∀(D C:Addr)(s4:aC)(H':ae)(m:cB),Inv X pins σ H' s4->s4.heap.Ns C m->sd X pins H' C->Q (.ref D) H'->compPost (a6 X.prog X.w) X.A X.dT use QQ (.ref D) C (.ok .next) s4):
  aO (a6 X.prog X.w) X.A (comprehension (.ListComp elt [⟨dv,iter,ifs,0⟩] scope pos) scope X.env amL (newList []) false (eval iter X.env) use) QQ X.dT s:=by
 refine wpAny_comprehension_free (use:=use) rfl hs CH rz CN (bB (ar pins s σ H _ I h) λv s1 af=>bB af λPm s2 ai=>?_);obtain⟨it,cb,gR,J,ah,rfl,bA,T,IG,f2,cU⟩:=ai;refine oK (wpAny_newFunctionEnv td (by intro y cM;simp at cM) (λaf Of Ot=>?_) rz);dsimp only at Of Ot⊢;have cZ:Inv X pins σ (upd ah s2.heap.objs.size (.lst [])) {s2 with heap:=s2.heap.push {cls:=.type "list",data:=.seq ([]:cw).toArray},toks:=s2.toks}:=bA.Á (its:=[]) (ys:=[]) .nil (e4 _);have am3:ah s2.heap.objs.size=none:=bA.fresh;obtain⟨W,⟨m0,wC⟩,turn⟩:=cU _ am3;generalize ZK:s2.heap.push {cls:=.type "list",dict:=none,data:=.seq ([]:cw).toArray}=bR at Of Ot cZ⊢;have Η:bR.objs.size=s2.heap.objs.size+1:=by rw[<-ZK,xj]
 generalize bN:s2.heap.objs.size=D at *;have kept:∀b o,bR.get? b=some o->af.get? b=some o:=λb o e=>Ot.extBut b o (eD (dD e)) (dG _ e);have old:∀b o,s2.heap.get? b=some o->bR.get? b=some o:=λb o e=>by rw[<-ZK];exact dG _ e
 have GF:∀b∈cb,b<D:=λb de=>by obtain⟨o,e,_⟩:=T.obj 0 _ IG b de;rw[<-bN];exact dD e
 have Zp:∀b∈cb,b∉fm X.stack:=λb de z=>by
  obtain⟨_,f1,cv,_⟩:=f2 b de;rcases dA.mp (bA.Ey b z)with e|e
  .exact f1 e
  .exact cv e
 generalize kh:oe X N' scope cl bR.objs.size {s2 with heap:=bR,toks:=s2.toks} (upd ah D (.lst [])) cb (X.e9++pins)=la;obtain⟨bP,ζ,he⟩:=aa bR.objs.size {s2 with heap:=bR,toks:=s2.toks} (upd ah D (.lst [])) cb (X.e9++pins);rw[kh]at bP ζ he;have u1:la.prog=X.prog:=by rw[<-kh];rfl
 have u2:la.w=X.w:=by rw[<-kh];rfl
 have Y1:la.K=X.K:=by rw[<-kh];rfl
 have Y0:la.calm=X.calm:=by rw[<-kh];rfl
 have jF:Inv la [] (ia cs σ) (upd ah D (.lst [])) {s2 with heap:=af,toks:=s2.toks+0}:=by
  rw[<-kh];refine⟨⟨cZ.ok.mod,rz,cZ.ok.glob,cZ.ok.blt,cj _,λx y c aE aB=>cZ.ok.inj x y c (kj _ _ aE) (kj _ _ aB),λx av=>acj a_ av,λx c z _=>bE (show false=true from z) ff,cZ.ok.hd,cZ.ok.frames,.inl rfl,
   λb de=>⟨λe=>?_,λx c e=>(f2 b de).2.2.2.2.1 x c (kj _ _ e)⟩,cZ.bs,e3 cZ.ok.p5 cZ.i',λb o e de=>?_,Zp,cZ.stack,cZ.IH⟩,rfl,cZ.bare,h1.kept kept,⟨_,Of,λi x v aE aB cJ=>?_⟩,λx c e=>?_,cZ.a_.fresh (cj _),λx c e=>cZ.mB x c (kj _ _ e),
   λp aR=>?_,cZ.a_.kept kept,?_⟩
  .have l:=GF b de;rw[show b=bR.objs.size from e,Η]at l;exact pU _ (adn l)
  .have l:=GF b de;rcases(f2 b de).2.2.2.1 with z|z
   .exact bA.ok.vQ b o e z
   .exact bE (j' (dD (bA.ok.bs b o e).1) z) (pU _)
  .obtain⟨j,a1,a2,hE,jd,Be⟩:=yf.get aE aB;obtain⟨m,aS,aj⟩:=cZ.loc;obtain⟨u,er,l⟩:=aj j x v a1 a2 (by rcases hE with z|z;exact .inr (.inl z);exact .inr (.inr z));refine⟨u,er,.inr ⟨jd,?_⟩⟩;rcases l with⟨k,_⟩|⟨k,c,e,z⟩
   .rcases hE with q|q<;>(rw[k]at q;cases q)
   .obtain⟨o,aZ,hd⟩:=z;exact⟨c,Be.trans e,o,kept c o aZ,hd⟩
  .obtain⟨v,o,aZ,hd⟩:=cZ.cell x c (kj _ _ e);exact⟨v,o,kept c o aZ,hd⟩
  .have Oi:p∈X.e9++pins:=by simpa[oe]using aR
   obtain⟨e,n,ne,gv,d⟩:=cZ.pin p Oi;refine⟨kept _ _ e,n,eD (dD e),λz=>?_,d⟩;rcases dA.mp (cZ.Ey p.1 z)with q|q
   .exact ne q
   .exact gv q
  .show(ia cs σ).length=N'.length;rw[ia,bp];exact yf.len
 have ė:gR 0 af:=T.keep 0 _ _ IG λb de o e=>kept b o (old b o e);have wd:∀{H':ae},(∀b∈cb,H' b=none)->∀b∈cb,sd la [] H' b:=λ{H'}aS b de=>by rw[<-kh];refine⟨aS b de,λe=>?_,Zp b de,.inl de,λx c e=>(f2 b de).2.2.2.2.1 x c (kj _ _ e),λp aR=>(f2 b de).2.2.2.2.2 p (by simpa[oe]using aR)⟩;have l:=GF b de;rw[show b=bR.objs.size from e,Η]at l;exact pU _ (adn l)
 have Nb:∀b∈cb,(upd ah D (.lst [])) b=none:=λb de=>by rw[aA (eD (GF b de))];exact(f2 b de).1
 have zv:la.A=X.A:=by rw[<-kh];rfl
 have Jd:la.env=compEnvC scope cl bR.objs.size X.env:=by rw[<-kh];rfl
 have Je:la.dT=pV:=by rw[<-kh];rfl
 have loop:jJ (a6 X.prog X.w) X.A (.compLoop (.ListComp elt [⟨dv,iter,ifs,0⟩] scope pos) 0 (.ref it) (.ref D) (compEnvC scope cl bR.objs.size X.env))
   (compPost (a6 X.prog X.w) X.A X.dT use QQ (.ref D) bR.objs.size) {s2 with heap:=af,toks:=s2.toks+0}:=by
  refine aag (λn s'=>∃i ys a3 H',Inv la [] a3 H' s'/\gR i s'.heap/\(∀b∈cb,H' b=none)/\W i n ys a3 H') ?_ m0 ⟨0,[],_,_,jF,ė,Nb,wC⟩;rintro n s' ⟨i,ys,a3,H',oU,fJ,Zq,eT⟩;obtain⟨e7,aon,jT⟩:=turn i n ys a3 H' eT;rcases jT with⟨stop,q⟩|⟨go,step⟩
  .have hd:=T.done la u1 u2 Y1 (Y0.trans ax) i [] s' a3 H' pV oU (wd Zq) fJ stop;rw[zv]at hd;refine bB hd λr s4 aq=>?_;obtain⟨rfl,jn⟩:=aq;obtain⟨m,aS,_⟩:=id jn.loc;have sX:la.env.locals=bR.objs.size:=by rw[Jd];rfl
   have G1:H' bR.objs.size=none:=by rw[<-sX];exact jn.free
   have sL:=jn.base;rw[<-kh]at sL;have anY:s4.os=s2.os:=by have z:=jn.os;rw[<-kh]at z;exact z
   have ι:=jn.a_;rw[u1,u2]at ι;have abf:Inv X pins σ H' s4:=cZ.Bl (s':=s4) (ch:=cb) anY ⟨sL.keep,sL.slot,sL.free,sL.there,sL.hv,sL.iN,sL.i_⟩ ι jn.bare λb de=>by obtain⟨_,g1,_,g3,Nc,Nd⟩:=f2 b de;exact⟨g3,g1,Nc,Nd⟩
   exact post D bR.objs.size s4 H' m abf (by rw[sX]at aS;exact aS) (cZ.rr (cj _) G1) q
  .have hit:=T.item la u1 u2 Y1 (Y0.trans ax) i [] s' a3 H' pV oU (wd Zq) fJ go;rw[zv]at hit;refine bB hit λr s4 aq=>?_;obtain⟨u,rfl,cS⟩:=aq;refine bB cS λ_ s5 dX=>?_;obtain⟨x,bx,jn,v7,wI,wc,Cm⟩:=dX;have J9:=jn.pinned (wd Cm) (T.obj _ _ wc);have aK:=bP _ s5 a3 bx x u _ J9 v7 (step x bx wI);rw[zv,Jd,Je,u1,u2]at aK;refine bB aK λ_ fR kg=>?_;obtain⟨E1,f6,rf,Q9⟩:=kg;have df:=ζ _ fR E1 f6 _ rf Q9;rw[zv,Jd,Je,u1,u2]at df;refine bB df λok gd qh=>?_;obtain⟨eQ,j9,nB⟩:=qh;have back:∀{jb:St}{dz:ae}{e':aC}{TR:aY}{cP:Nat},Inv la ([]++EF cb s5.heap) jb dz e'->cP<n->W (i+1) cP TR jb dz->
     ∃m,m<n/\∃i ys a3 H',Inv la [] a3 H' e'/\gR i e'.heap/\(∀b∈cb,H' b=none)/\W i m ys a3 H':=λ{jb dz e' TR cP}hV hm EO=>by refine⟨cP,hm,i+1,TR,jb,dz,hV.I5,T.keep _ _ _ wc λb de o e=>(hV.pin (b,o) (rh _ (rh _ (HK de e)))).1,λb de=>?_,EO⟩;obtain⟨o,e,d⟩:=T.obj _ _ wc b de;exact(hV.pin (b,o) (rh _ (rh _ (HK de e)))).2.1
   cases ok with
   |false=>
    rw[bF ff]at nB⊢;obtain⟨cP,hm,Td⟩:=nB;exact back j9 hm Td
   |true=>
    rw[bL rfl]at nB⊢;have Z9:=he _ gd E1 eQ _ j9 nB;rw[zv,Jd,Je,u1,u2]at Z9;refine bB Z9 λar3 e' kI=>?_;obtain⟨y,dz,hV,D6,am1,cP,hm,EO⟩:=kI;have ZT:=m' (X:=la) _ e' E1 dz (.ref D) [y] (.ref D) [ar3] (λ_ md=>md=upd dz D (.lst (ys++[y]))) hV rfl (.cons D6 .nil) ⟨D,ys,y,rfl,rfl,am1,aon,rfl⟩;rw[zv,Je,u1,u2]at ZT;refine bB ZT λ_ jl n9=>?_;obtain⟨_,md,kx,_,rfl⟩:=n9;exact back kx hm EO
 exact codeAny_compStart_list loop (T.self _ 0 _ _ _ ė loop)
theorem tW(ax:X.calm=true)(ar:nU X dv iter dc)(CH:YV scope X.env=pure cl)(td:∀y∈scope.names,y.2≠.cell)(rz:scope.kind=.function)(CN:∀y∈scope.names,y.2=.local->scope.names.lookup y.1=some .local)(kj:∀x c,cl.lookup x=some c->X.env.cells.lookup x=some c)(a_:FG cl (Iu scope X.env).names=true)(yf:oH X scope cl N' cs)(aa:∀(C:Addr)(s3:aC)(bg:ae)(cb:bS)(e9:cu),pW (oe X N' scope cl C s3 bg cb e9) dv g/\Az (oe X N' scope cl C s3 bg cb e9) ifs tt/\bh (oe X N' scope cl C s3 bg cb e9) elt b0)(hs:∀x,Na iter X.env x=pure x:=by intro _;rfl):bh X (.ListComp elt [⟨dv,iter,ifs,0⟩] scope pos) (nF dc cs g tt b0):=by
 intro pins s σ H Q I h;rw[eval_ListComp];refine Wx ax ar CH td rz CN kj a_ yf aa hs I h λD C s4 H' m jF aS M8 q=>⟨m,aS,λh' rD=>⟨.ref D,H',?_,rfl,q⟩⟩
 obtain⟨f0,f1,f2,cv,f4,fl⟩:=M8;exact jF.turned (t':=s4.toks) (λb o aa e=>(rD.2 b aa).trans e) f0 f1 cv f4 fl
theorem tj{i:Nat}{y:Str}{py Ć:Pos}(eC:X.N.Nodup)(anJ:X.N[i]?=some y)(π:X.env.scope.names.lookup y=some .local)(aoc:wg (.ListComp elt [⟨dv,iter,ifs,0⟩] scope pos) (some (.Name y py)) Ć.line X.env=pure true)(ax:X.calm=true)(ar:nU X dv iter dc)(CH:YV scope X.env=pure cl)(td:∀y∈scope.names,y.2≠.cell)(rz:scope.kind=.function)(CN:∀y∈scope.names,y.2=.local->scope.names.lookup y.1=some .local)(kj:∀x c,cl.lookup x=some c->X.env.cells.lookup x=some c)(a_:FG cl (Iu scope X.env).names=true)(yf:oH X scope cl N' cs)(aa:∀(C:Addr)(s3:aC)(bg:ae)(cb:bS)(e9:cu),pW (oe X N' scope cl C s3 bg cb e9) dv g/\Az (oe X N' scope cl C s3 bg cb e9) ifs tt/\bh (oe X N' scope cl C s3 bg cb e9) elt b0)(hs:∀x,Na iter X.env x=pure x:=by intro _;rfl):fN X (.Assign [.Name y py] (.ListComp elt [⟨dv,iter,ifs,0⟩] scope pos) Ć) (qZ (nF dc cs g tt b0) (hJ i)):=by
 intro pins s σ H D0 I h;rw[exec_Assign_Name_used _ _ _ _ aoc];refine aw (EU (aw ?_));show aO _ X.A (do let _ <-comprehension (.ListComp elt [⟨dv,iter,ifs,0⟩] scope pos) scope X.env _ (newList []) false (eval iter X.env) (some (xV (.Name y py) X.env))) _ _ s;refine aw (gf (Wx (use:=some (xV (.Name y py) X.env)) (QQ:=λ_ s'=>o6 X pins D0 .next s') ax ar CH td rz CN kj a_ yf aa hs I h ?_) (λ_ s' aT=>bf (bf aT)) λ_ _ e=>e);intro D C s4 H' m jF aS M8 q;obtain⟨f0,f1,f2,cv,f4,fl⟩:=M8;refine arF (ĩ jF eC anJ (.inl π) (v:=.ref D) rfl (λfR rf⟨a,b',aK⟩=>?_) (.inr π));have amZ:C≠a:=by
  rcases aK with rfl|aK
  .exact f1
  .exactλe=>f4 _ _ aK e.symm
 refine⟨m,aS.sameBut b' amZ,λh' rD=>⟨_,H',?_,q⟩⟩;exact rf.turned (t':=fR.toks) (λb o aa e=>(rD.2 b aa).trans e) f0 f1 cv f4 fl
noncomputable def nY(J:fT)(H1:ae)(xs:aY):Prop:=∀H',aN H1 H'->J.stop xs.length H'/\(∀i,i<xs.length->J.go i H')/\∀i x ah,i<xs.length->J.nI i H' x ah->ah=H'/\xs[i]?=some x
end
theorem tn{K:aU}{a:Addr}{xs:aY}{H1:ae}(h:aG K H1 a xs):nY (mf K a) H1 xs:=λH' aF=>
 ⟨⟨xs,aF.seq h,cj _⟩,λi ar=>⟨xs,xs[i],aF.seq h,by simp[ar]⟩,λi x ah _ y=>⟨y.1,y.2 xs (aF.seq h)⟩⟩
theorem Ik{H1:ae}(lo:Int)(n:Nat):nY (nO lo n) H1 ((d_ n).map λi:Nat=>V.int (lo+i)):=λH' _=>
 ⟨by show n<=_;simp,λi ar=>(by simpa using ar:i<n),λi x ah ar y=>by
  obtain⟨aE,aB⟩:=y;have anH:i<n:=by simpa using ar
  refine⟨aE,?_⟩;rw[aB];simp[anH]⟩
theorem atd{J:fT}{xs:aY}{g:jo}{c9:eY}{D:Ends}{σ:St}{H:ae}(Pv:Nat->St->ae->Prop)(dI:nY J H xs)(h0:Pv 0 σ H)(hm:∀i a3 H',Pv i a3 H'->aN H H')(hs:∀i x a3 H',xs[i]?=some x->Pv i a3 H'->g x a3 H' λet ah=>c9 {D with b9:=Pv (i+1),e0:=Pv (i+1),gq:=D.b9} et ah)(hd:∀a3 H',Pv xs.length a3 H'->D.b9 a3 H'):
  ∃W:Nat->Nat->St->ae->Prop,(∃m,W 0 m σ H)/\∀i m σ H,W i m σ H->
   (J.stop i H/\D.b9 σ H)\/(J.go i H/\∃N:St->ae->Prop,(∀a3 H',N a3 H'->∃cP,cP<m/\W (i+1) cP a3 H')/\∀x H',J.nI i H x H'->g x σ H' λet ah=>c9 {D with b9:=N,e0:=N,gq:=D.b9} et ah):=by
 refine⟨λi m a3 H'=>m=xs.length-i/\i<=xs.length/\Pv i a3 H',⟨xs.length,by simp,e4 _,h0⟩,?_⟩;rintro i m a3 H' ⟨rfl,ar,p⟩;obtain⟨fe,fK,hx⟩:=dI H' (hm i a3 H' p);by_cases cK:i<xs.length
 .refine .inr ⟨fK i cK,Pv (i+1),λet ah hu=>⟨xs.length-(i+1),by omega,rfl,cK,hu⟩,λx ah y=>?_⟩;obtain⟨rfl,ex⟩:=hx i x ah cK y;exact hs i x a3 _ ex p
 .have e:i=xs.length:=by omega
  subst e;exact .inl ⟨fe,hd a3 H' p⟩
theorem Ke{J:fT}{xs:aY}{cs:k_}{σ rest:St}{tt:TT}{b0:TE}{Q:a'}{H1:ae}(h9:ia cs σ=none::rest)(dI:nY J H1 xs)(aj:xs.length<sizeLine)(p:V->Bool)(f:V->V)(test:∀(i:Nat)(x:V)(ah:ae)(R:Bool->ae->Prop),xs[i]?=some x->aN H1 ah->(∀bx,aN ah bx->R (p x) bx)->tt (some x::rest) ah R)(elt:∀(i:Nat)(x:V)(ah:ae)(R:a'),xs[i]?=some x->p x=true->aN H1 ah->(∀bx,aN ah bx->R (f x) bx)->b0 (some x::rest) ah R)(fin:∀(D:Addr)(H':ae),H1 D=none->H' D=some (.lst ((xs.filter p).map f))->aN H1 H'->Q (.ref D) H'):
  ∀D,H1 D=none->∃W:Nat->Nat->List V->St->ae->Prop,(∃m,W 0 m [] (ia cs σ) (upd H1 D (.lst [])))/\∀i m ys a3 H',W i m ys a3 H'->H' D=some (.lst ys)/\ys.length<sizeLine/\
   ((J.stop i H'/\Q (.ref D) H')\/(J.go i H'/\∀x ah,J.nI i H' x ah->hJ 0 x a3 ah λgT bg=>tt gT bg λb dV=>
    if b=true then b0 gT dV λy bx=>bx D=some (.lst ys)/\∃cP,cP<m/\W (i+1) cP (ys++[y]) gT (upd bx D (.lst (ys++[y])))
    else∃cP,cP<m/\W (i+1) cP ys gT dV)):=by
 intro D bN;refine⟨λi m ys a3 H'=>m=xs.length-i/\i<=xs.length/\ys=((xs.take i).filter p).map f/\(∃o,a3=o::rest)/\aN H1 H'/\H' D=some (.lst ys),⟨xs.length,by simp,e4 _,by simp,⟨none,h9⟩,λb o e=>?_,aQ⟩,?_⟩
 .rw[aA (bW e bN)];exact e
 .rintro i m ys a3 H' ⟨rfl,ar,rfl,⟨o,rfl⟩,aF,e7⟩;obtain⟨fe,fK,hx⟩:=dI H' aF;refine⟨e7,nT ?_ aj,?_⟩
  .rw[bp];refine e3 (ky _ _) ?_;rw[ml];exact W9 _ _
  by_cases cK:i<xs.length
  .refine .inr ⟨fK i cK,λx ah y=>?_⟩;obtain⟨rfl,ex⟩:=hx i x ah cK y;show tt (some x::rest) ah _;refine test i x ah _ ex aF λdV s4=>?_;have a4:xs.take (i+1)=xs.take i++[x]:=by rw[oW,ex];rfl
   cases aR:p x with
   |true=>
    refine hP ?_;refine elt i x dV _ ex aR (aF.trans s4) λbx s5=>⟨s5 _ _ (s4 _ _ e7),xs.length-(i+1),by omega,rfl,cK,?_,⟨_,rfl⟩,λb ob e=>?_,aQ⟩
    .rw[a4,mZ,eW];simp[aR]
    .rw[aA (bW e bN)];exact s5 _ _ (s4 _ _ (aF _ _ e))
   |false=>
    refine gs ⟨xs.length-(i+1),by omega,rfl,cK,?_,⟨_,rfl⟩,aF.trans s4,s4 _ _ e7⟩;rw[a4,mZ,eW];simp[aR]
  .have e:i=xs.length:=by omega
   subst e;exact .inl ⟨fe,fin D H' bN (by rw[e7,oX]) aF⟩
theorem af8{J:fT}{xs:aY}{cs:k_}{σ rest:St}{b0:TE}{Q:a'}{H1:ae}(h9:ia cs σ=none::rest)(dI:nY J H1 xs)(aj:xs.length<sizeLine)(f:V->V)(elt:∀(i:Nat)(x:V)(ah:ae)(R:a'),xs[i]?=some x->aN H1 ah->(∀bx,aN ah bx->R (f x) bx)->b0 (some x::rest) ah R)(fin:∀(D:Addr)(H':ae),H1 D=none->H' D=some (.lst (xs.map f))->aN H1 H'->Q (.ref D) H'):
  ∀D,H1 D=none->∃W:Nat->Nat->List V->St->ae->Prop,(∃m,W 0 m [] (ia cs σ) (upd H1 D (.lst [])))/\∀i m ys a3 H',W i m ys a3 H'->H' D=some (.lst ys)/\ys.length<sizeLine/\
   ((J.stop i H'/\Q (.ref D) H')\/(J.go i H'/\∀x ah,J.nI i H' x ah->hJ 0 x a3 ah λgT bg=>se gT bg λb dV=>
    if b=true then b0 gT dV λy bx=>bx D=some (.lst ys)/\∃cP,cP<m/\W (i+1) cP (ys++[y]) gT (upd bx D (.lst (ys++[y])))
    else∃cP,cP<m/\W (i+1) cP ys gT dV)):=
 Ke h9 dI aj (λ_=>true) f (λi x ah R _ _ h=>h ah (aN.refl _)) (λi x ah R ex _ aF h=>elt i x ah R ex aF h) λD H' af ai bR=>fin D H' af (by rw[ai,Kk.mpr λ_ _=>rfl]) bR
noncomputable def signs(x:Str):List V:=x.cps.toList.map λc=>V.str ⟨#[c]⟩
noncomputable def Fu(x:Str):fT:=⟨λi _=>i<x.cps.size,λi H v H'=>H'=H/\∃c,x.cps[i]?=some c/\v=.str ⟨#[c]⟩,λi _=>i=x.cps.size⟩
theorem afY{H1:ae}(x:Str):nY (Fu x) H1 (signs x):=λH' _=>by
 have aj:(signs x).length=x.cps.size:=by simp[signs]
 refine⟨aj,λi ar=>by rw[aj]at ar;exact ar,λi v ah ar y=>?_⟩;obtain⟨aE,c,aB,cJ⟩:=y;refine⟨aE,?_⟩;subst cJ;have fB:x.cps.toList[i]?=some c:=by simpa using aB
 simp[signs,fB]
theorem ack{P:bJ}{w:bq}{K:aU}{dv:Expr}(it:Addr)(x:Str)(t:Tok){ty:String}(vw:ty="str_ascii_iterator"\/ty="str_iterator"):Turn P w K dv (Fu x) [it] it (λi h=>h.IsStrIter it ty x t i)where
 mem:=by simp
 obj:=λi h st b aa=>by
  have e:b=it:=by simpa using aa
  subst e;obtain⟨o,e,c,d⟩:=st;exact⟨o,e,λv z=>by rw[d]at z;cases z⟩
 keep:=λi h h' st k=>by obtain⟨o,e,r⟩:=st;exact⟨o,k it (by simp) o e,r⟩
 item:=by
  intro X gu hw fY ax i pins s σ H E I hf st bP;subst gu hw fY;obtain⟨f0,f1,f2,cv,f4,fl⟩:=hf it (by simp);have ar:i<x.cps.size:=bP;have h5:x.cps[i]?=some x.cps[i]:=by simp[ar]
  rcases vw with rfl|rfl
  .refine wpAny_pyNext_ascii_item st h5 λh' fJ b'=>?_;have aP:Inv X pins σ H {s with heap:=h',toks:=s.toks+1}:=I.turned (λb o aa e=>(b'.2 b aa).trans e) f0 f1 cv f4 fl;obtain⟨o,e,c,d⟩:=id fJ;exact⟨_,rfl,zm (s:={s with heap:=h',toks:=s.toks+1}) e c d (by decide) ⟨.str ⟨#[x.cps[i]]⟩,H,aP,⟨_,rfl⟩,⟨rfl,_,h5,rfl⟩,fJ,λb aa=>(hf b aa).1⟩⟩
  .refine wpAny_pyNext_wide_item st h5 λh' fJ b'=>?_;have aP:Inv X pins σ H {s with heap:=h',toks:=s.toks+1}:=I.turned (λb o aa e=>(b'.2 b aa).trans e) f0 f1 cv f4 fl;obtain⟨o,e,c,d⟩:=id fJ;exact⟨_,rfl,zm (s:={s with heap:=h',toks:=s.toks+1}) e c d (by decide) ⟨.str ⟨#[x.cps[i]]⟩,H,aP,⟨_,rfl⟩,⟨rfl,_,h5,rfl⟩,fJ,λb aa=>(hf b aa).1⟩⟩
 done:=by
  intro X gu hw fY ax i pins s σ H E I hf st bP;subst gu hw fY;obtain⟨f0,f1,f2,cv,f4,fl⟩:=hf it (by simp);have h5:x.cps[i]?=none:=by have e:i=x.cps.size:=bP;simp[e]
  rcases vw with rfl|rfl
  .exact wpAny_pyNext_ascii_end (I.ok.hd ax) st h5 λh' ea=>⟨rfl,I.turned (t':=s.toks) (λb o aa e=>ea b o aa e) f0 f1 cv f4 fl⟩
  .exact wpAny_pyNext_wide_end (I.ok.hd ax) st h5 λh' ea=>⟨rfl,I.turned (t':=s.toks) (λb o aa e=>ea b o aa e) f0 f1 cv f4 fl⟩
 self:=λ_ _ _ _ _ st h=>by
  rcases vw with rfl|rfl
  .exact wpAny_pyIter_striter_ascii st h
  .exact wpAny_pyIter_striter_wide st h
section
variable{X:bb}{dv:Expr}
noncomputable def ajA(dk:TE):TI:=λσ H R=>dk σ H λx H1=>∃z,x=.str z/\R (Fu z) H1
theorem afZ{l:Expr}{dk:TE}(aj:bh X l dk):nU X dv l (ajA dk):=by
 intro pins s σ H R I h;refine bB (aj pins s σ H _ I h) λv s1⟨x,H1,aP,cg,bM⟩=>?_;obtain⟨z,e,q⟩:=bM;subst e;obtain⟨t,rfl⟩:=cg;have fin:∀(ty:String)(_:ty="str_ascii_iterator"\/ty="str_iterator"),KR X pins σ dv R (.ref s1.heap.objs.size) {s1 with heap:=s1.heap.push {cls:=.type ty,data:=.fields #[.str z t,.int 0 0]}}:=λty vw=>by
  refine⟨s1.heap.objs.size,[s1.heap.objs.size],_,_,H1,rfl,aP.kept (t':=s1.toks) λb o e=>dG _ e,ack _ z t vw,⟨_,gi _ rfl,rfl,rfl⟩,λb aa=>?_,q⟩;have e:b=s1.heap.objs.size:=by simpa using aa
  subst e;exact aP.rr (cj _) (aP.a_.fresh (cj _))
 cases aK:z.cps.all (·<128)with
 |true=>exact wpAny_pyIter_ascii aK (fin _ (.inl rfl))
 |false=>exact wpAny_pyIter_wide aK (fin _ (.inr rfl))
end
section
variable{X:bb}{e:Expr}{b0:TE}{lo ar:Option Expr}{dk oF:uI}{pos gP:Pos}
theorem Ĺ:gD X (js .LtE) (λx y H Q=>∃i j,x=.str i/\y=.str j/\Q (.aM (!decide (j.cps.toList<i.cps.toList))) H):=by intro pins s σ H x y v u Q I bz bG h;obtain⟨i,j,rfl,rfl,q⟩:=h;obtain⟨t,rfl⟩:=bz;obtain⟨t',rfl⟩:=bG;exact PySem.P.le_str (gp I q rfl)
theorem Wo(c a:Nat):(!decide ((⟨#[c]⟩:Str).cps.toList<(⟨#[a]⟩:Str).cps.toList))=decide (a<=c):=by
 have h:((⟨#[c]⟩:Str).cps.toList<(⟨#[a]⟩:Str).cps.toList)↔c<a:=by show([c]:dH) < [a]↔c<a;simp[List.cons_lt_cons_iff]
 by_cases q:c<a
 .rw[cq (h.mpr q),dF (by omega)];rfl
 .rw[dF λz=>q (h.mp z),cq (by omega)];rfl
theorem SI(ax:X.calm=true):jU X (.builtin "all") (λxs H Q=>∃(p:Addr)(bs:List Bool),xs=[.ref p]/\aG X.K H p (bs.map V.aM)/\Q (.aM (bs.all id)) H):=by
 intro pins s σ H xs us Q I r h;obtain⟨p,bs,rfl,aT,q⟩:=h;obtain⟨u,rfl,er⟩:=vals1 r;cases er;obtain⟨its,b7,pl,hz⟩:=I.list aT;have hlen:bs.length=its.length:=by have:=b7.length;rwa [bp]at this
 obtain⟨o,n,M0,_⟩:=id pl;have hO:p≠s.heap.objs.size:=eD (dD M0);have dy:X.A.in1.handled=none:=I.ok.hd ax;refine call_all_walk (zr pl.isList ?_);refine⟨s.heap.objs.size,[s.heap.objs.size,p],[s.heap.objs.size],its.toArray.size,_,_,λi=>bs.getD i false,rfl,Bd dy _ p hO its.toArray,⟨⟨_,gi _ rfl,rfl,rfl⟩,pl.isList.push _⟩,?_,λh' a4 k=>?_⟩
 .intro i v s' mq asz gu e8;have ZM:its[i]?=some v:=by simpa using gu
  have ar:i<its.length:=(eG.mp ZM).1;have aa:(bs.map V.aM)[i]?=some (V.aM (bs.getD i false)):=by rw[c6,dn (by omega:i<bs.length)];simp[eJ,hlen▸ar]
  obtain⟨u',cm,cD⟩:=b7.get aa;rw[ZM]at cm;cases cm;cases cD;exact oL e8
 .have e:(d_ its.toArray.size).all (λi=>bs.getD i false)=bs.all id:=by
   rw[gW,<-hlen,zR];simp only[Fv,lK];constructor
   .intro a b aa;obtain⟨i,ar,rfl⟩:=Kp.mp aa;have:=a i ar;simpa[eJ,ar]using this
   .intro a i ar;have:=a bs[i] (so ar);simpa[eJ,ar]using this
  rw[e];exact⟨.aM (bs.all id),H,I.kept λb ob z=>k b ob (by simpa using eD (dD z)) (dG _ z),rfl,q⟩
inductive ajB(K:aU)(xs:aY)(H:ae)(Q:a'):Prop where
 |mk (x c:V) (ML:String) (t:Value) (b:Bool) (bV:xs=[x,c]) (bD:c=.ty ML/\mO K H x t/\hZ K t (.type ML)=some b) (b_:Q (.aM b) H)
theorem lT:jU X (.builtin "isinstance") (ajB X.K):=by intro pins s σ H xs us Q I r h;obtain⟨x,c,ML,t,b,rfl,⟨rfl,ty,e⟩,q⟩:=h;obtain⟨u,eT,rfl,er,gQ⟩:=vals2 r;cases gQ;exact abb I er ty e λa4=>⟨.aM b,H,I.tok a4,rfl,q⟩
mutual
inductive mc(K:aU)(H:ae):V->PyData->Prop
 |bl:mc K H .bl .none
 |aM (b:Bool):mc K H (.aM b) (.bool b)
 |int (i:Int):mc K H (.int i) (.int i)
 |str (x:Str):mc K H (.str x) (.str x)
 |lst {a:Addr} {xs:aY} {ds:fy}:aG K H a xs->oS K H xs ds->mc K H (.ref a) (.list ds)
 |tup {a:Addr} {xs:aY} {ds:fy}:cH K H a xs->oS K H xs ds->mc K H (.ref a) (.tuple ds)
inductive oS(K:aU)(H:ae):List V->List PyData->Prop
 |nil:oS K H [] []
 |cons {v:V} {d:PyData} {vs:aY} {ds:fy}:mc K H v d->oS K H vs ds->oS K H (v::vs) (d::ds)
end
end
section
variable{X:bb}{pins:cu}{σ:St}{H:ae}{s:aC}
mutual
theorem vB(I:Inv X pins σ H s):∀{v:V}{d:PyData}{u:Value},mc X.K H v d->RelV v u->∃as,Reads s.heap u d as
 |_,_,_,.bl,r=>by cases r;exact⟨_,.none⟩
 |_,_,_,.aM b,r=>by cases r;exact⟨_,.bool b⟩
 |_,_,_,.int i,r=>by obtain⟨t,rfl⟩:=r;exact⟨_,.int i t⟩
 |_,_,_,.str x,r=>by obtain⟨t,rfl⟩:=r;exact⟨_,.str x t⟩
 |_,_,_,.lst h ds,r=>by cases r;obtain⟨its,b7,⟨o,n,e,c,_,d⟩,_⟩:=I.list h;obtain⟨as,q⟩:=Rn I ds b7;exact⟨_,.list e c d (by simpa using q)⟩
 |_,_,_,.tup h ds,r=>by cases r;obtain⟨its,b7,⟨o,e,c,n,d⟩,_⟩:=I.tuple h;obtain⟨as,q⟩:=Rn I ds b7;exact⟨_,.tuple e c d (by simpa using q)⟩
theorem Rn(I:Inv X pins σ H s):∀{vs:aY}{ds:fy}{us:cw},oS X.K H vs ds->cI vs us->∃as,ReadsAll s.heap us ds as
 |_,_,_,.nil,.nil=>⟨_,.nil⟩
 |_,_,_,.cons a b,.cons r t=>by obtain⟨as,q⟩:=vB I a r;obtain⟨bs,fH⟩:=Rn I b t;exact⟨_,.cons q fH⟩
end
end
section
variable{X:bb}
inductive ahq(K:aU)(neg:Bool)(x:ao.V)(y:ao.V)(H:ae)(Q:a'):Prop where
 |mk (d:_) (e:_) (bV:mc K H x d) (bD:mc K H y e) (b_:p1 d=true) (c_:p1 e=true) (d1:Q (.aM (if neg then !g_ d e else g_ d e)) H)
noncomputable def K2(K:aU)(neg:Bool):ha:=λx y H Q=>ahq K neg x y H Q
theorem y0(b8:X.A.units+64<cLine):gD X (js .Eq) (K2 X.K false):=by intro pins s σ H x y v u Q I bz bG h;obtain⟨d,e,hd,he,dN,dh,q⟩:=h;obtain⟨as,gB⟩:=vB I hd bz;obtain⟨bs,pF⟩:=vB I he bG;exact eq_dataH gB pF dN dh b8 ⟨.aM _,H,I,rfl,q⟩
theorem y1(b8:X.A.units+64<cLine):gD X (js .NotEq) (K2 X.K true):=by intro pins s σ H x y v u Q I bz bG h;obtain⟨d,e,hd,he,dN,dh,q⟩:=h;obtain⟨as,gB⟩:=vB I hd bz;obtain⟨bs,pF⟩:=vB I he bG;exact ne_dataH gB pF dN dh b8 ⟨.aM _,H,I,rfl,q⟩
mutual
theorem yA:∀d:PyData,d.canLay0=true->g_ d d=true
 |.none,_=>rfl
 |.bool b,_=>by simp[g_]
 |.int i,_=>by simp[g_]
 |.str x,_=>by simp[g_]
 |.list xs,h=>by simp only[g_];exact Ql xs h
 |.tuple xs,h=>by simp only[g_];exact Ql xs h
 |.dict _,h=>by cases h
theorem Ql:∀ds:List PyData,pX ds=true->PyData.eqvAll ds ds=true
 |[],_=>rfl
 |d::r,h=>by simp only[pX,jD]at h;simp only[PyData.eqvAll,yA d h.1,Ql r h.2,Bool.and_self]
end
noncomputable def q0(val:Nat->Str):Nat->Str->Bool
 |0=>λ_=>false
 |i+1=>λk=>q0 val i k||decide (k=val i)
noncomputable def nE(val:Nat->Str):Nat->Nat
 |0=>0
 |i+1=>if q0 val i (val i)then nE val i else nE val i+1
theorem VN(val:Nat->Str):∀i,nE val i<=i
 |0=>cj _
 |i+1=>by have:=VN val i;unfold nE;split<;>omega
theorem UC(val:Nat->Str)(k:Str):∀i,q0 val i k=true↔∃j,j<i/\val j=k
 |0=>by simp[q0]
 |i+1=>by
  simp only[q0,Bool.or_eq_true,UC val k i,decide_eq_true_eq];constructor
  .rintro(⟨j,bK,e⟩|e)
   .exact⟨j,by omega,e⟩
   .exact⟨i,by omega,e.symm⟩
  .rintro⟨j,bK,e⟩;by_cases h:j=i
   .subst h;exact .inr e.symm
   .exact .inl ⟨j,by omega,e⟩
theorem UD(val:Nat->Str):∀n,(∀i j,i<j->j<n->val i≠val j)->nE val n=n
 |0,_=>rfl
 |n+1,h=>by
  have a8:=UD val n λi j a b=>h i j a (by omega);have hm:¬q0 val n (val n)=true:=λz=>by obtain⟨j,bK,e⟩:=(UC val (val n) n).mp z;exact h j n bK (by omega) e
  unfold nE;rw[bF hm,a8]
theorem Ν(x:Str)(t:Tok):Ll x (.str x t)=true:=by simp[Ll]
theorem abj{prog:bJ}{w:bq}{A:cW}{R:m3->aC->Prop}{I:Addr}{cb wr:bS}{n:Nat}{Pv:Nat->Value->Prop}{A':Nat->Heap->Prop}(W:sG prog w A.in1 I cb wr n Pv A')(S:Addr)(ZP:S∉cb)(val:Nat->Str)(CU:∀i v,Pv i v->∃t,v=.str (val i) t)(aa:n+1<scanBound):∀(k i:Nat)(s:aC),n-i=k->i<=n->A' i s.heap->s.heap.SetOf (strKind prog w) S (q0 val i) (nE val i)->
   (∀h' a4,(∀b o,b≠S->b∉wr->s.heap.get? b=some o->h'.get? b=some o)->h'.SetOf (strKind prog w) S (q0 val n) (nE val n)->R (.ok (.ret .none)) {s with heap:=h',toks:=a4})->
   jJ (a6 prog w) A (.builtin "set.update.loop" ⟨[.ref S,.ref I],[]⟩) R s:=by
 have ZQ:S∉wr:=λz=>ZP (W.sub _ z);have stays:∀{h h':Heap}{F1:Str->Bool}{m:Nat},(∀o,h.get? S=some o->h'.get? S=some o)->h.SetOf (strKind prog w) S F1 m->h'.SetOf (strKind prog w) S F1 m:=λbT⟨o,es,ep,t,aZ,r⟩=>⟨o,es,ep,t,bT o aZ,r⟩
 intro k
 induction k with
 |zero=>
  intro i s aX ar st fD cO;obtain rfl:i=n:=by omega
  refine mx ad5 ?_;rw[nL Xs _];show aO _ A.in1 (ib (.ref I) >>=_) _ _ s;refine aw (W.done s _ _ st λh' a4 bT=>?_);show aO _ A.in1 (ret fP) _ _ _;exact bf (cO h' a4 (λb o _ aa e=>bT b o aa e) (stays (λo e=>bT S o ZQ e) fD))
 |succ k a8=>
  intro i s aX ar st fD cO;have cK:i<n:=by omega
  refine mx ad5 ?_;rw[nL Xs _];show aO _ A.in1 (ib (.ref I) >>=_) _ _ s;refine aw (W.item i s _ _ cK st λv af a4 gu R2 bT=>?_);obtain⟨t,rfl⟩:=CU i v gu;have qj:=stays (λo e=>bT S o ZQ e) fD;show aO _ A.in1 (lY [uM (val i) t] (setAdd S (.str (val i) t)) >>=_) _ _ _;refine aw (iD ?_);unfold setAdd;refine iD (aw ((strKind prog w).pyHash (k:=val i) (Ν (val i) t) ?_));have an8:nE val i+1<scanBound:=by have:=VN val i;omega
  refine wpAny_setAddHashed_of (knd:=strKind prog w) (Ν (val i) t) rfl qj an8 λai b' Nw=>?_;refine bf ⟨mL Xs _,a8 (i+1) _ (by omega) cK (W.frame _ _ _ R2 λb de o e=>(b'.2 b λz=>ZP (z▸de)).trans e) Nw λbR Sk PF ye=>?_⟩;exact cO bR Sk (λb o jh hN e=>PF b o jh hN ((b'.2 b jh).trans (bT b o hN e))) ye
set_option maxHeartbeats 8000000 in
theorem arY{prog:bJ}{w:bq}{A:cW}{E:cx}{s:aC}{l:Addr}{items:ka}{val:Nat->Str}{Q:cx}(dy:A.handled=none)(aj:s.heap.IsList l items)(CU:∀(i:Nat)(v:Value),items[i]?=some v->∃t,v=.str (val i) t)(aa:items.size+1<scanBound)(h:∀(h':Heap)(a4:Nat),h'.SetOf (strKind prog w) s.heap.objs.size (q0 val items.size) (nE val items.size)->(∀b o,s.heap.get? b=some o->h'.get? b=some o)->Q (.ref s.heap.objs.size) {s with heap:=h',toks:=a4}):
  aO (a6 prog w) A (call (.type "set") [.ref l]) Q E s:=by
 obtain⟨c,dk,atv⟩:=F.called_set.mro;have jA:=F.called_set.made;have tw:=F.called_set.sub;have HB:=F.called_set.notType;have HC:=F.called_set.canCreate;have HD:=F.typeCall_set_1 (.ref l);refine pO (ale ?_);show aO _ _ (callAny (.type "set") _) _ _ _;refine bf ⟨JB _ (by decide+kernel),mx F.entry_type_call ?_⟩;rw[Around.under_plain (weight_type_call_type "set" [.ref l] []) rfl]
 repeat (any_goals (first|assumption|wp_step))
 generalize CC:s.heap.objs.size=S at *;refine rn (code_set_new_1 (.ref l) (E:=E) (Q₁:=λob s1=>∃led:Bool,ob=.ref S/\s1={s with heap:=s.heap.push {cls:=.type "set",dict:=none,data:=.set #[] 0 (.fresh 0 0 led)}}) λled=>⟨led,by rw[CC],rfl⟩) λr s1 aq=>?_;cases r with
 |error e=>exact aq
 |ok fb=>
  cases fb with
  |ret ob=>
   obtain⟨led,rfl,rfl⟩:=aq;have vo:(s.heap.push {cls:=.type "set",dict:=none,data:=.set #[] 0 (.fresh 0 0 led)}).get? S=some {cls:=.type "set",dict:=none,data:=.set #[] 0 (.fresh 0 0 led)}:=by rw[<-CC];exact gi _ rfl
   have jQ:A9 {s with heap:=s.heap.push {cls:=.type "set",dict:=none,data:=.set #[] 0 (.fresh 0 0 led)}} (.ref S) "set":=⟨_,vo,rfl⟩
   have dt:=F.called_set.init.lookup;have dC:=F.called_set.init.bind (.ref S)
   repeat (any_goals (first|assumption|wp_step))
   refine rn (uZ (R:=wants (λr s2=>r=.none/\∃h' a4,s2={s with heap:=h',toks:=a4}/\h'.SetOf (strKind prog w) S (q0 val items.size) (nE val items.size)/\(∀b o,s.heap.get? b=some o->h'.get? b=some o)) E)
    F.called_set.init.plain F.entry_set_init (check_set_init_1 jQ ?_)) λd5 s2 yo=>?_
   .obtain⟨⟨l4,d4,apQ,oz⟩,mF,vm,nl,yg⟩:=id aj;simp only at vm yg;subst vm yg;have atx:=dG (h:=s.heap) {cls:=.type "set",dict:=none,data:=.set #[] 0 (.fresh 0 0 led)} mF;have d0:=F.sub_list_set;have gP:=F.sub_list_frozenset;have tQ:(sF "list"==sF "dict")=false:=by decide
    have jS:=aj.push (o:={cls:=.type "set",dict:=none,data:=.set #[] 0 (.fresh 0 0 led)});unfold Builtin.«set.__init__» noKeywords asp;generalize am8:yY=nU
    wp_walk
    subst am8;refine zr jS (aw (wpAny_runValue ?_));have ν:l<S:=by rw[<-CC];exact dD mF
    have hsz:(s.heap.push {cls:=.type "set",dict:=none,data:=.set #[] 0 (.fresh 0 0 led)}).objs.size=S+1:=by rw[xj,CC]
    refine abj (Bd (A:=A.in1.in1.in1) (by simp[dy]) _ l (by rw[hsz];exact eD (Kx ν)) items) S ?_ val CU aa (items.size-0) 0 _ (by omega) (e4 _) ⟨⟨_,gi _ rfl,rfl,rfl⟩,jS.push _⟩ ?_ ?_
    .rw[hsz];simp only[dA,eA,or_false,not_or];exact⟨eD (FE _),xH ν⟩
    .have N0:=dG (h:=s.heap.push {cls:=.type "set",dict:=none,data:=.set #[] 0 (.fresh 0 0 led)}) {cls:=.type "list_iterator",data:=.fields #[.ref l,.int 0 0]} vo;exact(asG (knd:=strKind prog w) led).setOf N0 (by unfold scanBound;omega)
    .intro h' a4 bT CB;show aO _ _ _ _ _ _;refine bf ?_;show aO _ _ (ret fP) _ _ _;refine bf ⟨rfl,h',a4,rfl,CB,λb o e=>?_⟩;have h7:b<S:=by rw[<-CC];exact dD e
     exact bT b o (eD h7) (λz=>eD (Kx h7) (by rw[hsz]at z;simpa using z)) (dG _ (dG _ e))
   .cases d5 with
    |error e=>exact yo
    |ok amK=>
     cases amK with
     |ret r=>
      obtain⟨rfl,h',a4,rfl,CB,bT⟩:=yo
      repeat (any_goals (first|assumption|wp_step))
      exact h _ _ CB bT
     |_=>exact yo.elim
  |_=>exact aq.elim
noncomputable def FJ(P:bJ)(w:bq)(a:Addr)(n:Nat):ed:=.ext λh=>∃S,h.SetOf (strKind P w) a S n
theorem ab6(ax:X.calm=true):jU X (.type "set") (λxs H Q=>∃(p:Addr)(ys:cf),xs=[.ref p]/\aG X.K H p (ys.map V.str)/\ys.length<1000/\∀q,H q=none->Q (.ref q) (upd H q (FJ X.prog X.w q (nE (λi=>ys.getD i mr) ys.length)))):=by
 intro pins s σ H xs us Q I r h;obtain⟨p,ys,rfl,aT,aj,q⟩:=h;obtain⟨u,rfl,er⟩:=vals1 r;cases er;obtain⟨its,b7,pl,hz⟩:=I.list aT;have hlen:ys.length=its.length:=by have:=b7.length;rwa [bp]at this
 have hsz:its.toArray.size=ys.length:=by rw[hlen];rfl
 refine arY (val:=λi=>ys.getD i mr) (I.ok.hd ax) pl.isList (λi v e=>?_) (by rw[hsz];unfold scanBound;omega) λh' a4 fD bT=>?_
 .have cm:its[i]?=some v:=by simpa using e
  have ar:i<ys.length:=by rw[hlen];exact(eG.mp cm).1
  have aa:(ys.map V.str)[i]?=some (V.str (ys.getD i mr)):=by rw[c6,dn ar];simp[eJ,ar]
  obtain⟨u',aB,cD⟩:=b7.get aa;rw[cm]at aB;cases aB;exact cD
 .rw[hsz]at fD;refine⟨.ref s.heap.objs.size,_,I.laid bT (cj _) ?_,rfl,q _ (I.a_.fresh (cj _))⟩;obtain⟨o,es,ep,t,aZ,cD⟩:=id fD;exact⟨⟨_,fD⟩,⟨o,aZ⟩,λaf ai⟨F1,cC,pd,m_,t',kL,d5⟩aoE=>⟨F1,cC,pd,m_,t',aoE _ kL,d5⟩⟩
theorem arq:jU X (.builtin "len") (λxs H Q=>∃q n,xs=[.ref q]/\H q=some (FJ X.prog X.w q n)/\Q (.int n) H):=by
 intro pins s σ H xs us Q I r h;obtain⟨a,n,rfl,aT,q⟩:=h;obtain⟨u,rfl,er⟩:=vals1 r;cases er;obtain⟨⟨S,o,es,ep,t,aZ,hex,hd,_,_,aa,hf,aS⟩,_,_⟩:=(show ee X.prog X.w H s.heap a (FJ X.prog X.w a n)from I.a_ a _ aT)
 subst aS;have anC:(es.size:Int)<2 ^ 63:=by unfold scanBound at aa;omega
 exact call_len_set aZ hex hd hf anC ⟨.int es.size,H,I.tok _,⟨_,rfl⟩,q⟩
theorem af0{P:bJ}{w:bq}{H:ae}{h:Heap}{a:Addr}{o:ed}(x:ee P w H h a o):∃ob,h.get? a=some ob:=by
 cases o with
 |lst xs=>obtain⟨_,_,_,_,e⟩:=x;exact⟨_,e⟩
 |tup xs=>obtain⟨_,_,_,ob,e,_⟩:=x;exact⟨ob,e⟩
 |bX kvs=>obtain⟨_,_,_,_,ob,_,_,e,_⟩:=x;exact⟨ob,e⟩
 |c4 kvs=>obtain⟨_,_,_,_,ob,_,_,e,_⟩:=x;exact⟨ob,e⟩
 |set S n=>obtain⟨ob,_,_,_,e,_⟩:=x;exact⟨ob,e⟩
 |ins C ag fs=>obtain⟨_,_,_,e,_⟩:=x;exact⟨_,e⟩
 |own y=>obtain⟨ob,e⟩:=x;exact⟨ob,e⟩
 |Jf fs=>obtain⟨_,⟨ob,_,_,e,_⟩,_⟩:=x;exact⟨ob,e⟩
 |Iw lo ar=>obtain⟨_,_,_,e⟩:=x;exact⟨_,e⟩
 |eF ob u=>obtain⟨e,_⟩:=x;exact⟨_,e⟩
 |pI ps=>exact⟨_,(show h.get? a=some _ from x)⟩
 |met f y=>exact⟨_,(show h.get? a=some _ from x)⟩
 |ext q8=>obtain⟨_,⟨ob,e⟩,_⟩:=x;exact⟨ob,e⟩
theorem ab7{P:bJ}{w:bq}{H:ae}{h:Heap}{a:Addr}(ok:fg P w H h)(e:h.get? a=none):H a=none:=by
 cases q:H a with
 |none=>rfl
 |some o=>
  obtain⟨ob,z⟩:=af0 (ok a o q);rw[e]at z;cases z
structure mI(P:bJ)(w:bq)(fr:List Env)(H:ae)(s:aC)(au:Addr)(cls a0:Value)(H':ae)(B:Heap)(s':aC):Prop where
 fb:sl B fr au cls a0 s'.heap
 os:s'.os=s.os
 bare:q' s'.gens
 ok:fg P w H' B
 un:h1 (fm fr) [] H H' s.heap s'.heap
 kN:∀b o,s.heap.get? b=some o->b∉fm fr->∃cC,B.get? b=some cC/\(H b=none->cC=o)
noncomputable def d9(P:bJ)(w:bq):mW:=λfr H s E e s'=>∃(au:Addr)(cls a0:Value)(H':ae)(B:Heap),e=.ref au/\mI P w fr H s au cls a0 H' B s'/\E cls none H'
end
section
variable{P:bJ}{w:bq}{fr:List Env}{H H':ae}{s s':aC}{au:Addr}{cls a0:Value}{B:Heap}
theorem mI.move(T:mI P w fr H s au cls a0 H' B s'){ai:Heap}(fb:sl B fr au cls a0 ai)(up:s'.heap.UpToSlots ai):mI P w fr H s au cls a0 H' B {s' with heap:=ai}:=by
 refine⟨fb,T.os,T.bare,T.ok,⟨λb o e n aa av=>?_,λb o e n aa av=>?_,T.un.free,λb o e av=>?_,T.un.hv,T.un.iN,T.un.i_⟩,T.kN⟩
 .obtain⟨cC,z,q⟩:=T.kN b o e aa;rw[q n]at z;exact fb.1 b o z
 .obtain⟨bj,z⟩:=T.un.slot b o e n aa av;obtain⟨_,ob,cm,gv⟩:=T.fb.2.2.1.mem aa;rw[z]at cm;cases cm;obtain⟨lD,di⟩:=up b _ z gv;exact⟨lD,di⟩
 .by_cases aa:b∈fm fr
  .obtain⟨_,ob,cm,gv⟩:=T.fb.2.2.1.mem aa;obtain⟨lD,di⟩:=up b _ cm gv;exact⟨_,di⟩
  .obtain⟨cC,z,_⟩:=T.kN b o e aa;exact⟨cC,fb.1 b cC z⟩
theorem mI.a_(T:mI P w fr H s au cls a0 H' B s'):fg P w H' s'.heap:=T.ok.kept λb u e=>T.fb.1 b u e
theorem mI.new(T:mI P w fr H s au cls a0 H' B s'):H' au=none:=ab7 T.ok T.fb.2.1
theorem mI.Ý(T:mI P w fr H s au cls a0 H' B s'){b:Addr}{o:Obj}(e:s.heap.get? b=some o):b≠au:=by
 rintro rfl;by_cases aa:b∈fm fr
 .obtain⟨_,ob,cm,gv⟩:=T.fb.2.2.1.mem aa;obtain⟨ox,vs,he,_,hd,_⟩:=T.fb.first;rw[he]at cm;cases cm;exact gv vs hd
 .obtain⟨cC,z,_⟩:=T.kN b o e aa;rw[T.fb.2.1]at z;cases z
end
section
variable{P:bJ}{w:bq}{K:aU}{mg:cB}{base:Heap}{N:cf}{qual:Str}{scope:Scope}{f:Addr}{cdv:Value}{A:cW}{outer:List Env}{s:aC}{H:ae}{E:b2}
noncomputable abbrev fX(P:bJ)(w:bq)(K:aU)(mg:cB)(base:Heap)(N:cf)(qual:Str)(scope:Scope)(f:Addr)(cdv:Value)(A:cW)(outer:List Env)(s:aC)(H:ae)(E:b2):bb:=
 jY (d9 P w) P w K mg base N qual scope f cdv A outer s H E
theorem yX{pins:cu}{σ:St}{H1:ae}{s1:aC}(I:Inv (fX P w K mg base N qual scope f cdv A outer s H E) pins σ H1 s1){b:Addr}{o:Obj}(e:s.heap.get? b=some o)(aa:b∉fm outer):
  b∉fm (fX P w K mg base N qual scope f cdv A outer s H E).stack:=λz=>by
 rcases dA.mp (I.Ey b z)with q|q
 .have l:=dD e;have gN:s.heap.objs.size<=b:=by have:=I.ok.above;rw[<-q]at this;exact this
  exact pU _ (j' l gN)
 .exact aa q
theorem Ŧ{pins:cu}{σ:St}{H1:ae}{s1:aC}{h':Heap}{au:Addr}{cls:Value}{vs:cw}(I:Inv (fX P w K mg base N qual scope f cdv A outer s H E) pins σ H1 s1)(av:V4 s1.heap h' au cls vs)(fo:E cls none H1):(fX P w K mg base N qual scope f cdv A outer s H E).dT (.ref au) {s1 with heap:=h'}:=by
 have vn:=I.ok.frames;have nk:∀env∈(fX P w K mg base N qual scope f cdv A outer s H E).stack,∀b,env.frame=some b->b∈fm (fX P w K mg base N qual scope f cdv A outer s H E).stack:=λenv he b aa=>Ko.mpr ⟨env,he,aa⟩;have CP:∀b o,H1 b=some o->b∉fm (fX P w K mg base N qual scope f cdv A outer s H E).stack:=λb o e z=>by rw[I.IH b z]at e;cases e
 refine wpAny_leaves_madeW (base:=uC s1.heap (fm (fX P w K mg base N qual scope f cdv A outer s H E).stack)) vn rfl (λb o q=>XE _ q) (aep I.stack nk) av λai t eP hT oN oO=>?_;have kN:∀b o,s1.heap.get? b=some o->b∉fm (fX P w K mg base N qual scope f cdv A outer s H E).stack->(uC s1.heap (fm (fX P w K mg base N qual scope f cdv A outer s H E).stack)).get? b=some o:=λb o e n=>XC _ e n;refine⟨au,cls,.ref t,H1,_,rfl,⟨eP,I.os,I.bare,λb ob e=>(I.a_ b ob e).mS (λc u ax q=>kN c u q ?_) (λ_ q=>q) λ_ _ q=>q,⟨λb o e n aa fQ=>?_,λb o e n aa fQ=>?_,I.base.free,λb o e fQ=>?_,I.base.hv,I.base.iN,I.base.i_⟩,λb o e aa=>?_⟩,fo⟩
 .rcases ax with rfl|ax
  .exact CP c _ e
  .exact CP c _ ax
 .exact eP.1 b o (kN b o (I.base.keep b o e n aa fQ) (yX I e aa))
 .obtain⟨bj,z⟩:=I.base.slot b o e n aa fQ;obtain⟨_,ob,cm,gv⟩:=I.ke.mem aa;rw[z]at cm;cases cm;obtain⟨lD,di⟩:=oO b _ (av.keeps _ _ z) gv;exact⟨lD,di⟩
 .obtain⟨cC,z⟩:=I.base.there b o e fQ;by_cases aa:b∈fm outer
  .obtain⟨_,ob,cm,gv⟩:=I.ke.mem aa;obtain⟨lD,di⟩:=oO b _ (av.keeps _ _ cm) gv;exact⟨_,di⟩
  .exact⟨cC,eP.1 b cC (kN b cC z (yX I e aa))⟩
 .obtain⟨cC,z⟩:=I.base.there b o e (by simp[fX,jY]);refine⟨cC,kN b cC z (yX I e aa),λn=>?_⟩;have bD:=I.base.keep b o e n aa (by simp[fX,jY]);rw[z]at bD;exact hY bD
theorem qw:pn (d9 P w) (fX P w K mg base N qual scope f cdv A outer s H E) E:=by
 rintro pins σ b3 sc e s' I ⟨au,cls,a0,H',B,rfl,T,fo⟩;refine arH I.ok.frames rfl T.fb λai eP hT=>?_;have sE:h1 (fm (fX P w K mg base N qual scope f cdv A outer s H E).stack) [] b3 H' sc.heap s'.heap:=T.un;have vR:∀b o,s.heap.get? b=some o->b∉fm outer->∃cC,B.get? b=some cC/\(H b=none->cC=o):=λb o e aa=>by obtain⟨hj,z⟩:=I.base.there b o e (by simp[fX,jY]);obtain⟨cC,di,q⟩:=T.kN b hj z (yX I e aa);refine⟨cC,di,λn=>?_⟩;have bD:=I.base.keep b o e n aa (by simp[fX,jY]);rw[z]at bD;cases bD;exact q (I.base.free b _ e n (by simp[fX,jY]))
 refine⟨au,cls,a0,H',B,rfl,⟨eP,T.os.trans I.os,T.bare,T.ok,⟨λb o e n aa fQ=>?_,λb o e n aa fQ=>?_,λb o e n fQ=>?_,λb o e fQ=>?_,λb xs q=>T.un.hv b xs (I.base.hv b xs q),λb o u q=>T.un.iN b o u (I.base.iN b o u q),λb ps q=>?_⟩,vR⟩,fo⟩
 .obtain⟨cC,z,q⟩:=vR b o e aa;rw[q n]at z;exact eP.1 b o z
 .obtain⟨bj,z⟩:=I.base.slot b o e n aa fQ;have de:b∈fm (fX P w K mg base N qual scope f cdv A outer s H E).stack:=by show b∈fm (_::outer);unfold fm;rw[Fy];exact mm _ aa
  obtain⟨r2,bD⟩:=sE.slot b _ z (I.base.free b o e n fQ) de (by simp);obtain⟨_,ob,cm,gv⟩:=T.fb.2.2.1.mem de;rw[bD]at cm;cases cm;obtain⟨lD,di⟩:=hT b _ bD gv;exact⟨lD,di⟩
 .obtain⟨hj,z⟩:=I.base.there b o e fQ;exact sE.free b hj z (I.base.free b o e n fQ) (by simp)
 .by_cases aa:b∈fm outer
  .obtain⟨_,ob,cm,gv⟩:=eP.2.2.1.mem aa;exact⟨ob,cm⟩
  .obtain⟨cC,z,_⟩:=vR b o e aa;exact⟨cC,eP.1 b cC z⟩
 .obtain⟨jA,aE⟩:=I.base.i_ b ps q;obtain⟨tw,aB⟩:=T.un.i_ b _ aE;exact⟨jA++tw,by rw[aB,UI]⟩
structure Exc(K:aU)(mg:cB)(x:Str)(C:Addr)(bm:cw)(fG:String):Prop where
 bound:mg x=some (.ref C)
 obj:A3 K C bm fG=true
theorem Exc.own{x:Str}{C:Addr}{bm:cw}{fG:String}{h:Heap}(e:Exc K mg x C bm fG)(X:K.In h):OwnCls x C bm fG mg h:=by
 refine⟨e.bound,?_⟩;have q:=e.obj;unfold A3 at q;split at q
 .rename_i dd cd bj aZ;split at q
  .rename_i zU Bj k0 k1 k2 k3 n k5 hm hs;simp only[jD,o9,UW]at q;obtain⟨⟨⟨⟨⟨rfl,rfl⟩,CJ⟩,df⟩,a_⟩,ym⟩:=q;obtain⟨nm,bs,mro,ns,oB,hd,sn,sub,ab,col,del⟩:=cd;dsimp only at hm CJ a_ ym;subst hm CJ;obtain⟨ă⟩:=bj;simp only at hs;subst hs;exact⟨Bj,ns,nm,oB,bs,hd,sn,sub,ab,col,dd,k0,k1,k2,k3,k5,_,X _ _ aZ,.of_isNs (PySem.W.isNs_of_in X a_),PySem.W.nsMap_none_of_in X a_ ym,PySem.W.tail_of_in X df⟩
  .cases q
 .cases q
noncomputable def af1(C:Addr)(E:b2)(b4:f7):eY:=λ_ σ H=>b4 σ H λvs H1=>vs.length<=sizeLine/\E (.ref C) none H1
theorem Il{x:Str}{C:Addr}{B fG nq:String}{bm:cw}{np e6 pos:Pos}{cT:Expr}{es:gG}{b4:f7}(F:wN B fG nq bm)(O:Exc K mg x C bm fG)(bP:iV (fX P w K mg base N qual scope f cdv A outer s H E) x)(aK:fM (fX P w K mg base N qual scope f cdv A outer s H E) (cT::es) b4)(kK:(x==("__debug__":Str))=false:=by decide)(he:dR (cT::es) (fX P w K mg base N qual scope f cdv A outer s H E).env=(false,eval cT (fX P w K mg base N qual scope f cdv A outer s H E).env)::dR es (fX P w K mg base N qual scope f cdv A outer s H E).env:=by rfl)(fE:(hg e6 (dR es (fX P w K mg base N qual scope f cdv A outer s H E).env)).any (·.1)=false:=by rfl):
  fN (fX P w K mg base N qual scope f cdv A outer s H E) (.Raise (some (.Call (.Name x np) (cT::es) [] e6)) none pos) (af1 C E b4):=by
 intro pins s1 σ H1 D I h;obtain⟨dk,Xc,nm,q,bs,hdct,sn,sub,ab,col,dd,k0,k1,k2,k3,k5,mN,eg,eC,ym,T⟩:=(O.own I.mod.rL).obj;have vm:A3 K C bm fG=true:=O.obj;refine wpAny_Raise_call_subT (C:=C) (nm:=nm) (q:=q) (N:=Xc) (bs:=bs) (bm:=dk) (hdct:=hdct) (sn:=sn) (sub:=sub) (ab:=ab) (col:=col) (dd:=dd) (k0:=k0) (k1:=k1) (k2:=k2) (k3:=k3) (k5:=k5)
  F (mN:=mN) (T.hasType F.hasBase) (I.ok.hd rfl) ?_ ym (rJ I bP O.bound ⟨rfl,?_⟩ kK)
 .rw[he];show(false||(hg e6 (dR es (fX P w K mg base N qual scope f cdv A outer s H E).env)).any (·.1))=false;rw[fE];rfl
 .have mC:=aK e6 pins s1 σ H1 _ I h;rw[he]at mC⊢;refine zY (bB mC λus s2⟨vs,ah,bA,d5,z,fo⟩=>⟨rfl,by rw[<-d5.length];exact z,bA.gq _ _ eg,eC.keeps bA.gq,T.keeps bA.gq,λh' au hm=>Ŧ bA hm fo⟩)
theorem oy{x:Str}{st:Stmt}{fd:cz}{ps:cf}{k:Nat}{sp:cG}(F:bw K x qual st f fd)(S:dw N ps (c3 st))(len:∀vs H Q E,sp vs H Q E->vs.length=ps.length)(vk:∀(cdv:Value)(A:cW)(outer:List Env)(s:aC)(H:ae)(vs:aY)(Q:a')(E:b2),gc k (A.deeper (n6 qual (c3 st) s.heap.objs.size f cdv))->sp vs H Q E->
   ∃t,fV (fX P w K mg base N qual (c3 st) f cdv A outer s H E) (tm st) t/\t {b9:=λ_ H'=>Q .bl H',l7:=Q} (start N vs) H):aL P w K mg base (d9 P w) (k+1) f fd ps sp:=by obtain⟨l4,d4,dg,doc,pm,an,cdv,e0,oz,rfl,lk,jR⟩:=F.ex;exact Kc lk jR S len λA outer s H vs Q E aq n_=>vk cdv A outer s H vs Q E aq n_
end
noncomputable def F4(X:bb)(pins:cu)(σ:St)(E:b2)(e:Value)(s':aC):Prop:=
 ∃(b3:ae)(sc:aC)(au:Addr)(cls a0:Value)(H':ae)(B:Heap),e=.ref au/\Inv X pins σ b3 sc/\mI X.prog X.w X.stack b3 sc au cls a0 H' B s'/\E cls none H'
noncomputable abbrev xQ:=b2->TE
noncomputable abbrev m4:=Ends->(St->b2)->St->ae->Prop
noncomputable def Xn(X:bb)(e:Expr)(t:xQ):Prop:=
 ∀(pins:cu)(s:aC)(σ:St)(H:ae)(Q:a')(E:b2),Inv X pins σ H s->t E σ H Q->aO (a6 X.prog X.w) X.A (eval e X.env) (ic X pins σ Q) (F4 X pins σ E) s
noncomputable def KU(X:bb)(st:Stmt)(t:m4):Prop:=
 ∀(pins:cu)(s:aC)(σ:St)(H:ae)(D:Ends)(E:St->b2),Inv X pins σ H s->t D E σ H->aO (a6 X.prog X.w) X.A (exec st X.env) (o6 X pins D) (λe s'=>∃a3,F4 X pins a3 (E a3) e s') s
noncomputable def FL(X:bb)(nD:List Stmt)(t:m4):Prop:=
 ∀(pins:cu)(s:aC)(σ:St)(H:ae)(D:Ends)(E:St->b2),Inv X pins σ H s->t D E σ H->aO (a6 X.prog X.w) X.A (execs nD X.env) (o6 X pins D) (λe s'=>∃a3,F4 X pins a3 (E a3) e s') s
section
variable{X:bb}{e o:Expr}{es:gG}{pos eN p:Pos}{k:Nat}{f C:Addr}{fd:cz}{ps:cf}{sp:cG}{b4:TE}{t:f7}{m x:Str}
theorem adU{pins:cu}{σ:St}{H:ae}{s:aC}{Q:a'}{E:b2}{us:cw}{vs:aY}(F:aL X.prog X.w X.K X.mg X.base (d9 X.prog X.w) k f fd ps sp)(aq:gc k X.A)(aa:Binds X.K fd ps [])(I:Inv X pins σ H s)(r:cI vs us)(h:sp vs H Q E):aO (a6 X.prog X.w) X.A (call (.ref f) us) (ic X pins σ Q) (F4 X pins σ E) s:=by
 have aj:(us++[]).length=ps.length:=by rw[mh,<-r.length];exact F.len _ _ _ _ h
 have de:=aa s us I.ew aj;rw[mh]at de;refine pO (rn (F.run X.A X.stack s H ⟨us,[]⟩ us vs Q E aq I.BD de r h) λr s' aT=>?_);cases r with
 |error e=>
  obtain⟨au,cls,a0,H',B,rfl,T,fo⟩:=aT;exact⟨H,s,au,cls,a0,H',B,rfl,I,T,fo⟩
 |ok fb=>
  cases fb with
  |ret u=>exact I.after aT
  |next=>exact hA aT
  |brk=>exact hA aT
  |cont=>exact hA aT
theorem yK{α:Type}{X:bb}{pins:cu}{M:k8}{A:cW}{c:Sem α}{Q:α->aC->Prop}{E:cx}{s:aC}(h:aO M A c Q (λ_ _=>False) s):aO M A c Q E s:=
 gf h (λ_ _ q=>q) λ_ _ z=>hA z
noncomputable def Wq(C:Addr)(m:Str)(sp:cG)(b4:TE)(t:f7):xQ:=λE=>Kb C m sp [] E b4 t
theorem D1{pl:Sem Bool}(he:bh X.qE o b4)(c:fp X.K C)(hm:Meth X.K C m f)(F:aL X.prog X.w X.K X.mg X.base (d9 X.prog X.w) k f fd ps sp)(aq:gc k X.A)(aa:Binds X.K fd ps [])(aK:fM X.qE (e::es) t)(l0:dR (e::es) X.env=(false,eval e X.env)::dR es X.env:=by rfl)(fE:(hg pos (dR es X.env)).any (·.1)=false:=by rfl)(df:eval (.Call (.Attribute o m eN) (e::es) [] pos) X.env=(do
   let eI <-eval o X.env
   r3 eN.atName
   let(f,first) <-lY [eI] (vf eI m pl)
   xY pos f first (hg pos (dR (e::es) X.env)) (kB pos (kP [] X.env))):=by rfl):
  Xn X (.Call (.Attribute o m eN) (e::es) [] pos) (Wq C m sp b4 t):=by intro pins s σ H Q E I h;refine A5 (pl:=pl) (yK (X:=X) (pins:=pins) (bB (he pins s σ H _ (I.ku _) h) λu s1⟨x,H1,aP,bz,a,ag,fs,ex,au,l,q⟩=>?_)) df;subst ex;obtain rfl:u=cy a:=bz;have aP:=aP.ks;refine C6 aP au c hm l ?_;refine A2 (first:=[.ref a]) (h₀:=X.base) I.ok.mod.rL hm.bQ (yK (X:=X) (pins:=pins) (bB (aK pos pins s1 σ H1 _ (aP.ku _) q) λus s2⟨vs,ah,bA,r,cU⟩=>⟨bA.ks.ew,?_⟩)) l0 fE;refine adU (us:=.ref a::us) (vs:=.ref a::vs) F aq aa bA.ks (.cons rfl r) ?_;have DT:sp (V.ref a::(vs++[])) ah Q E:=cU;rw[mh]at DT;exact DT
noncomputable def Wr(b0:xQ):m4:=λD E σ H=>b0 (E σ) σ H λ_ H1=>D.b9 σ H1
theorem DB{b0:xQ}(he:Xn X e b0)(hs:wg e none pos.line X.env=pure false:=by rfl):KU X (.Expr e pos) (Wr b0):=by intro pins s σ H D E I h;exact ĭ (gf (he pins s σ H _ _ I h) (λv s1⟨x,H1,aP,cg,bM⟩=>⟨σ,H1,aP,bM⟩) λe s' q=>⟨σ,q⟩) I.quiet hs
theorem rG{st:Stmt}{t:m4}(af:KU X st t):FL X [st] t:=by
 intro pins s σ H D E I h;refine Jb (bB (af pins s σ H D E I h) λf s1 q=>?_);cases f with
 |next=>exact r9 q
 |ret v=>exact q
 |brk=>exact q
 |cont=>exact q
theorem Jg{c:Expr}{a b:List Stmt}{j3:TT}{t u:m4}(ax:k9 X.qE c j3)(aK:FL X a t)(aa:FL X b u):KU X (.If c a b pos) (λD E σ H=>j3 σ H λk H1=>if k=true then t D E σ H1 else u D E σ H1):=by
 intro pins s σ H D E I h;refine wpAny_If (yK (X:=X) (pins:=pins) (bB (ax pins s σ H _ (I.ku _) h) λd s1⟨H1,aP,bM⟩=>?_));cases d with
 |true=>exact aK pins s1 σ H1 D E aP.ks bM
 |false=>exact aa pins s1 σ H1 D E aP.ks bM
end
noncomputable def ko(au C:Addr):ed:=.ext λh=>∃o,h.get? au=some o/\o.cls=.ref C
noncomputable def jx(K:aU)(C R:Addr):Bool:=match K.lookup C with
 |some ⟨.type "type",_,.cls cd,bj⟩=>(match cd.mro,bj.toList with
  |.ref zU::bm,[_,_,_,_,some (.builtin _),_]=>zU==C&&!cd.hasDel&&bm.contains (.type "BaseException")&&(cy C::bm).contains (.ref R)
  |_,_=>false)
 |_=>false
theorem HE{K:aU}{h:Heap}{C R:Addr}(X:K.In h)(q:jx K C R=true):∃nm oB N bs bm hdct sn sub ab col dd k0 k1 k2 k3 k5 fG,
  h.get? C=some (x3 nm oB C N bs bm hdct sn sub ab col dd k0 k1 k2 k3 k5 fG)/\bm.contains (.type "BaseException")=true/\(cy C::bm).contains (.ref R)=true:=by
 unfold jx at q;split at q
 .rename_i dd cd bj aZ;split at q
  .rename_i zU bm k0 k1 k2 k3 n k5 hm hs;simp only[jD,UW]at q;obtain⟨⟨⟨bM,CJ⟩,aa⟩,aq⟩:=q;have bM:=o9.mp bM;subst bM;obtain⟨nm,bs,mro,ns,oB,hd,sn,sub,ab,col,del⟩:=cd;dsimp only at hm CJ;subst hm CJ;obtain⟨ă⟩:=bj;simp only at hs;subst hs;exact⟨nm,oB,ns,bs,bm,hd,sn,sub,ab,col,dd,k0,k1,k2,k3,k5,n,X _ _ aZ,aa,aq⟩
  .cases q
 .cases q
theorem VO{M:k8}{A:cW}{E:cx}{K:aU}{C R au:Addr}{s:aC}{ox:Obj}{Q:Bool->aC->Prop}(X:K.In s.heap)(ax:jx K C R=true)(aq:jx K R R=true)(he:s.heap.get? au=some ox)(CI:ox.cls=.ref C)(aT:Q true s):aO M A (M6 (.ref au) (.ref R)) Q E s:=by
 obtain⟨nm,oB,N,bs,bm,hdct,sn,sub,ab,col,dd,k0,k1,k2,k3,k5,fG,eg,aa,Np⟩:=HE X ax;obtain⟨Ü,ô,N',YO,Bj,anq,ą,Ċ,YF,YX,ju,aoz,aoA,aoB,aoC,aoD,apj,cO,de,ana⟩:=HE X aq;have CF:(cy R::Bj).contains (.type "BaseException")=true:=by rw[WB,de,UX]
 have f:=tc_notTuple;obtain⟨aR,g,d,t,os⟩:=s;unfold M6
 repeat (first|(with_reducible refine ja he ?_;rw[CI])|with_reducible refine ja cO ?_|(with_reducible refine ES cO ?_;rw[CF])|(with_reducible refine ES eg ?_;rw[Np])|wp_step)
 exact aT
noncomputable abbrev nj(X:bb)(au:Addr):bb:={X with A:=X.A.mark (some (.ref au)),calm:=false,dT:=λ_ _=>False}
section
variable{X:bb}{pins:cu}{σ:St}{H:ae}{s:aC}
theorem Inv.oE(I:Inv X pins σ H s)(au:Addr):Inv (nj X au) pins σ H s:=
 ⟨⟨I.ok.mod,I.ok.kind,I.ok.glob,I.ok.blt,I.ok.above,I.ok.inj,I.ok.has,I.ok.uX,λz=>bE (show false=true from z) ff,I.ok.frames,I.ok.qT,I.ok.Gd,I.ok.bs,I.ok.p5,I.ok.vQ,I.ok.x4,I.ok.ke,I.ok.rt⟩,I.os,I.bare,I.base,I.loc,I.cell,I.free,I.mB,I.pin,I.a_,I.len⟩
theorem Inv.Ğ{au:Addr}(hd:X.calm=true->X.A.handled=none)(I:Inv (nj X au) pins σ H s):Inv X pins σ H s:=
 ⟨⟨I.ok.mod,I.ok.kind,I.ok.glob,I.ok.blt,I.ok.above,I.ok.inj,I.ok.has,I.ok.uX,hd,I.ok.frames,I.ok.qT,I.ok.Gd,I.ok.bs,I.ok.p5,I.ok.vQ,I.ok.x4,I.ok.ke,I.ok.rt⟩,I.os,I.bare,I.base,I.loc,I.cell,I.free,I.mB,I.pin,I.a_,I.len⟩
theorem Inv.forget{h':Heap}{t':Nat}{i:Nat}{x:Str}(I:Inv X pins σ H s)(eC:X.N.Nodup)(ar:X.N[i]?=some x)(hs:kv X.env.locals s.heap h')(CO:∀m,s.heap.Ns X.env.locals m->∃v,h'.Ns X.env.locals (λy=>if y=x then v else m y)):Inv X pins (σ.set i none) H {s with heap:=h',toks:=t'}:=by
 obtain⟨m,aS,aj⟩:=id I.loc;obtain⟨v,qp⟩:=CO m aS;have o_:=I.o_;have Qv:∀b o,X.iz.heap.get? b=some o->b≠X.env.locals:=λb o e=>eD (j' (dD e) I.ok.above);have G3:i<σ.length:=by rw[I.len];exact(eG.mp ar).1
 refine⟨I.ok,I.os,I.bare,⟨λb o e n aa av=>(hs.2 b (Qv b o e)).trans (I.base.keep b o e n aa av),λb o e n aa av=>?_,I.base.free,λb o e av=>?_,I.base.hv,I.base.iN,I.base.i_⟩,⟨_,qp,λj y u aE aB cJ=>?_⟩,λy c e=>?_,I.free,I.mB,λp aR=>?_,PP I.a_ I.free hs,by simpa using I.len⟩
 .obtain⟨bj,z⟩:=I.base.slot b o e n aa av;exact⟨bj,(hs.2 b (Qv b o e)).trans z⟩
 .obtain⟨cC,z⟩:=I.base.there b o e av;exact⟨cC,(hs.2 b (Qv b o e)).trans z⟩
 .by_cases bK:j=i
  .subst bK;rw[WK G3]at aB;cases aB
  .rw[WJ (cL bK)]at aB;obtain⟨u',cD,q⟩:=aj j y u aE aB cJ;refine⟨u',cD,?_⟩;rcases q with⟨k,e⟩|⟨k,c,e,z⟩
   .refine .inl ⟨k,?_⟩;have:y≠x:=λe=>bK (SD eC aE (e▸ar));simp[this,e]
   .exact .inr ⟨k,c,e,z.sameBut hs (o_ y c e)⟩
 .obtain⟨eT,z⟩:=I.cell y c e;exact⟨eT,z.sameBut hs (o_ y c e)⟩
 .obtain⟨e,n,ne,gv,d⟩:=I.pin p aR;exact⟨(hs.2 p.1 ne).trans e,n,ne,gv,d⟩
theorem arZ:iY "enumerate"=some (.type "enumerate"):=by decide+kernel
end
noncomputable def sm(K:aU)(a:Addr):fT:=
 ⟨λi H=>∃xs x,aG K H a xs/\xs[i]?=some x,λi H v H'=>∃p x,H p=none/\v=.ref p/\(∀xs,aG K H a xs->xs[i]?=some x)/\H'=upd H p (.tup [.int i,x]),λi H=>∃xs,aG K H a xs/\xs.length<=i⟩
theorem abk{P:bJ}{w:bq}{K:aU}{elts:gG}{k:Nat}{pos:Pos}(a e it:Addr)(Z8:e≠it):
  Turn P w K (.Tuple elts k pos) (sm K a) [e,it] e (λi h=>(∃old,IsEnum h e it ((i:Nat):Int) old)/\h.IsListIter it a i)where
 mem:=by simp
 obj:=λi h st b aa=>by
  obtain⟨⟨old,he⟩,o,aZ,c,d⟩:=st;rcases dA.mp aa with rfl|aa
  .exact⟨_,he,λv z=>by
    have di:Vo _=Vn v:=z;cases di⟩
  .have q:b=it:=by simpa using aa
   subst q;exact⟨o,aZ,λv z=>by rw[d]at z;cases z⟩
 keep:=λi h h' st bT=>by obtain⟨⟨old,he⟩,hit⟩:=st;exact⟨⟨old,bT e (by simp) _ he⟩,hit.at λo q=>bT it (by simp) o q⟩
 item:=by
  intro X gu hw fY ax i pins s σ H E I hf st bP;subst gu hw fY;obtain⟨⟨old,he⟩,hit⟩:=st;obtain⟨xs,x,aT,av⟩:=bP;obtain⟨its,b7,p,hz⟩:=I.list aT;obtain⟨u,b8,er⟩:=b7.get av;obtain⟨cT,aE,aB,cJ,fB,ik⟩:=hf e (by simp);obtain⟨f0,f1,f2,cv,f4,fl⟩:=hf it (by simp);refine wpAny_pyNext_enum_item he hit p.isList (x:=u) (by simpa using b8) Z8 λaf aZ anI jQ hsz aX=>⟨_,rfl,?_⟩
  refine wpAny_letOwnedTupleGo_enum aZ λai CK kM=>?_;have kM:kv e af ai:=kM;have aS:H s.heap.objs.size=none:=I.fresh;have pD:∀b o,b∉[e,it]->s.heap.get? b=some o->ai.get? b=some o:=λb o aa q=>by have ql:b≠e:=λz=>aa (by simp[z]);have anj:b≠it:=λz=>aa (by simp[z]);exact(kM.2 b ql).trans (aX b o ql anj q)
  have Z':e<s.heap.objs.size:=dD he;have Nx:ai.get? s.heap.objs.size=some {cls:=.type "tuple",data:=.seq #[.int i s.toks,u]}:=(kM.2 _ (xH Z')).trans jQ;have pz:∀b q,H b=some q->b∉[e,it]:=λb q aa z=>by
   rcases dA.mp z with rfl|z
   .rw[cT]at aa;cases aa
   .have di:b=it:=by simpa using z
    subst di;rw[f0]at aa;cases aa
  refine⟨.ref s.heap.objs.size,upd H s.heap.objs.size (.tup [.int i,x]),?_,rfl,⟨s.heap.objs.size,x,aS,rfl,λys cM=>by rw[I.Ω cM aT];exact av,rfl⟩,⟨⟨u,?_⟩,anI.at λo q=>(kM.2 it Z8.symm).trans q⟩,λb aa=>?_⟩
  .show Inv X pins σ (upd H s.heap.objs.size (.tup [.int i,x])) {s with heap:=ai,gens:=s.gens,drawn:=s.drawn,toks:=s.toks+1};refine I.step (g':=s.gens) (d':=s.drawn) (t':=s.toks+1) (h':=ai) (ch:=[e,it]) (λb aa=>?_) (λb o _ _ ax q _=>pD b o ax q) (λb o _ _ ax q _=>⟨o.slots,pD b o ax q⟩) (λb o ax q n=>?_)
    (λb o ax q=>⟨o,pD b o ax q⟩) (λb ys q=>?_) (λb o v q=>?_) (λb ps q=>⟨#[],?_⟩) (λm hm=>?_) (λb v q=>?_) I.bare
   .rcases dA.mp aa with rfl|aa
    .exact⟨cJ,aE,fB,ik⟩
    .have di:b=it:=by simpa using aa
     subst di;exact⟨cv,f1,f4,fl⟩
   .rw[aA (eD (dD q))];exact n
   .rw[aA (bW q aS)];exact q
   .rw[aA (bW q aS)];exact q
   .rw[aA (bW q aS),q];simp
   .obtain⟨o,es,ep,kL,r⟩:=hm;refine⟨o,es,ep,pD _ o (λz=>?_) kL,r⟩;rcases dA.mp z with z|z
    .exact aE z.symm
    .exact f1 (by simpa using z:X.env.locals=it).symm
   .by_cases aa:b=s.heap.objs.size
    .subst aa;rw[aQ]at q;cases q;exact⟨(by show 2<=sizeLine;decide),[.int i s.toks,u],.cons ⟨_,rfl⟩ (.cons er .nil),_,Nx,rfl,_,rfl⟩
    .rw[aA aa]at q;refine(I.a_ b v q).mS (λc y ax z=>pD c y ?_ z) (λc z=>by rw[aA (bW z aS)];exact z) λc ys z=>by rw[aA (bW z aS)];exact z
     rcases ax with rfl|ax
     .exact pz _ _ q
     .exact pz _ _ ax
  .have:(((i+1:Nat):Nat):Int)=(i:Int)+1:=by omega
   rw[this];exact CK
  .rcases dA.mp aa with rfl|aa
   .rw[aA (eD Z')];exact cT
   .have di:b=it:=by simpa using aa
    subst di;obtain⟨_,z,_⟩:=hit;rw[aA (eD (dD z))];exact f0
 done:=by intro X gu hw fY ax i pins s σ H E I hf st bP;subst gu hw fY;obtain⟨⟨old,he⟩,hit⟩:=st;obtain⟨xs,aT,av⟩:=bP;obtain⟨its,b7,p,hz⟩:=I.list aT;obtain⟨f0,f1,f2,cv,f4,fl⟩:=hf it (by simp);have aj:=b7.length;exact wpAny_pyNext_enum_end (I.ok.hd ax) he hit p.isList (by simp;omega) λh' ea=>⟨rfl,I.turned (t':=s.toks) (λb o aa e=>ea b o aa e) f0 f1 cv f4 fl⟩
 self:=λ_ _ _ _ _ st h=>by obtain⟨⟨old,he⟩,_⟩:=st;exact arP he h
section
variable{X:bb}{elts:gG}{k:Nat}{EC:Pos}
inductive ahr(K:aU)(vs:aY)(H:ae)(R:fT->ae->Prop):Prop where
 |mk (a:Addr) (bV:vs=[.ref a]) (bD:∃xs,aG K H a xs) (b_:R (sm K a) H)
noncomputable def ahs(K:aU)(b4:f7):TI:=λσ H R=>b4 σ H λvs H1=>ahr K vs H1 R
theorem I9{l:Expr}{b4:f7}{p pos:Pos}(bP:iV X "enumerate")(hm:X.mg "enumerate"=none)(aK:fM X [l] b4)(hs:dR [l] X.env=[(false,eval l X.env)]:=by rfl):nU X (.Tuple elts k EC) (.Call (.Name "enumerate" p) [l] [] pos) (ahs X.K b4):=by
 intro pins s σ H R I h;refine Call_ (vT I bP hm arZ (Xt (bB (aK pos pins s σ H _ I h) λus s1⟨vs,H1,aP,cg,bM⟩=>?_) hs rfl));obtain⟨a,e,⟨xs,aT⟩,q⟩:=bM;subst e;cases cg with
 |cons r fI=>
  cases fI;cases r;obtain⟨its,b7,p,hz⟩:=aP.list aT;refine call_enumerate_list p.isList λh' he hit hsz bT=>?_;refine arP he ?_;have ne:s1.heap.objs.size+1≠s1.heap.objs.size:=KC _;refine⟨s1.heap.objs.size+1,[s1.heap.objs.size+1,s1.heap.objs.size],_,_,H1,rfl,aP.kept (t':=s1.toks) λb o e=>bT b o e,abk a _ _ ne,⟨⟨_,he⟩,hit⟩,λb aa=>?_,q⟩;rcases dA.mp aa with rfl|aa
  .exact aP.rr (AO _) (aP.a_.fresh (AO _))
  .have z:b=s1.heap.objs.size:=by simpa using aa
   subst z;exact aP.rr (cj _) (aP.a_.fresh (cj _))
end
section
variable{X:bb}{K:aU}(fY:X.K=K)
include fY
theorem SJ:xo X (Yc K):=by subst fY;exact fk
theorem vG:xo X (WP K):=by subst fY;exact e5
theorem D2{pos:Pos}{es:gG}{k:Nat}{t:p2}{n:Nat}(ax:X.calm=true)(h:AY X es t)(aS:(uO es X.env).length=n:=by rfl)(l0:(uO es X.env).findIdx? (·.1)=none:=by rfl):pW X (.Tuple es k pos) (xl K n t):=by subst fY;exact vU ax h aS l0
theorem VP{e:Expr}{b4:TE}{f:Str}{pos:Pos}(he:bh X e b4)(aa:uP e f X.env (eval e X.env)=eval e X.env):bh X (.Attribute e f pos) (Yh K b4 f):=by subst fY;exact eR he aa
end
theorem aeY{K:aU}{a:Addr}{xs:aY}{cs:k_}{σ rest:ao.St}{tt:TT}{b0:TE}{Q:a'}{H1:ae}(h9:ia cs σ=none::none::rest)(aK:aG K H1 a xs)(aj:xs.length<sizeLine)(p:Nat->V->Bool)(f:Nat->V->V)(test:∀(i:Nat)(x:V)(ah:ae)(R:Bool->ae->Prop),xs[i]?=some x->aN H1 ah->(∀bx,aN ah bx->R (p i x) bx)->tt (some (.int i)::some x::rest) ah R)(elt:∀(i:Nat)(x:V)(ah:ae)(R:a'),xs[i]?=some x->p i x=true->aN H1 ah->(∀bx,aN ah bx->R (f i x) bx)->b0 (some (.int i)::some x::rest) ah R)(fin:∀(D:Addr)(H':ae),H1 D=none->H' D=some (.lst ((xs.zipIdx.filter λz=>p z.2 z.1).map λz=>f z.2 z.1))->aN H1 H'->Q (.ref D) H'):
  ∀D,H1 D=none->∃W:Nat->Nat->List V->ao.St->ae->Prop,(∃m,W 0 m [] (ia cs σ) (upd H1 D (.lst [])))/\∀i m ys a3 H',W i m ys a3 H'->H' D=some (.lst ys)/\ys.length<sizeLine/\
   (((sm K a).stop i H'/\Q (.ref D) H')\/((sm K a).go i H'/\∀x ah,(sm K a).nI i H' x ah->xl K 2 (qG (hJ 0) (qG (hJ 1) Aw)) x a3 ah λgT bg=>tt gT bg λb dV=>
    if b=true then b0 gT dV λy bx=>bx D=some (.lst ys)/\∃cP,cP<m/\W (i+1) cP (ys++[y]) gT (upd bx D (.lst (ys++[y])))
    else∃cP,cP<m/\W (i+1) cP ys gT dV)):=by
 intro D bN;have q7:xs.zipIdx.length=xs.length:=by simp
 refine⟨λi m ys a3 H'=>m=xs.length-i/\i<=xs.length/\ys=((xs.zipIdx.take i).filter λz=>p z.2 z.1).map (λz=>f z.2 z.1)/\(∃o cC,a3=o::cC::rest)/\aN H1 H'/\H' D=some (.lst ys),
  ⟨xs.length,by simp,e4 _,by simp,⟨none,none,h9⟩,λb o e=>?_,aQ⟩,?_⟩
 .rw[aA (bW e bN)];exact e
 .rintro i m ys a3 H' ⟨rfl,ar,rfl,⟨o,cC,rfl⟩,aF,e7⟩;have iq:aG K H' a xs:=aF.seq aK;refine⟨e7,nT ?_ aj,?_⟩
  .rw[bp];refine e3 (ky _ _) ?_;rw[ml,q7];exact W9 _ _
  by_cases cK:i<xs.length
  .have ex:xs[i]?=some xs[i]:=dn cK;refine .inr ⟨⟨xs,_,iq,ex⟩,λx ah y=>?_⟩;obtain⟨q,q5,aT,rfl,fQ,rfl⟩:=y;have M7:=fQ xs iq;have zd:aN H' (upd H' q (.tup [.int i,q5])):=λb u e=>by rw[aA (bW e aT)];exact e
   refine⟨q,_,rfl,cH.of aQ,rfl,⟨_,_,rfl,⟨_,_,rfl,rfl,?_⟩⟩⟩;show tt (some (.int i)::some q5::rest) _ _;refine test i q5 _ _ M7 (aF.trans zd) λdV s4=>?_;have a4:xs.zipIdx.take (i+1)=xs.zipIdx.take i++[(q5,i)]:=by rw[oW,List.getElem?_zipIdx,M7];simp
   have GQ:=s4 _ _ (zd _ _ e7);cases aR:p i q5 with
   |true=>
    refine hP ?_;refine elt i q5 dV _ M7 aR ((aF.trans zd).trans s4) λbx s5=>⟨s5 _ _ GQ,xs.length-(i+1),by omega,rfl,cK,?_,⟨_,_,rfl⟩,λb ob e=>?_,aQ⟩
    .rw[a4,mZ,eW];simp[aR]
    .rw[aA (bW e bN)];exact s5 _ _ (s4 _ _ (zd _ _ (aF _ _ e)))
   |false=>
    refine gs ⟨xs.length-(i+1),by omega,rfl,cK,?_,⟨_,_,rfl⟩,(aF.trans zd).trans s4,GQ⟩;rw[a4,mZ,eW];simp[aR]
  .have e:i=xs.length:=by omega
   subst e;refine .inl ⟨⟨xs,iq,cj _⟩,fin D H' bN ?_ aF⟩;rw[e7,<-q7,oX]
end cQ
namespace ao
open PySem PySem.Spec PyProof.Rows
section
variable{κ:Type}[DecidableEq κ]
noncomputable def ck(kvs:List (κ×V))(k:κ):Option V:=(kvs.find? λcc=>decide (cc.1=k)).map (·.2)
noncomputable def eo(kvs:List (κ×V))(k:κ)(v:V):List (κ×V):=
 if(kvs.any λcc=>decide (cc.1=k))=true then kvs.map (λcc=>if cc.1=k then(cc.1,v)else cc)else kvs++[(k,v)]
noncomputable def tX(kvs:List (κ×V))(k:κ):List (κ×V):=kvs.filter λcc=>decide (cc.1≠k)
theorem lU{p:κ×V}{r:List (κ×V)}{k:κ}(e:p.1=k):ck (p::r) k=some p.2:=by simp[ck,AD,e]
theorem lg{p:κ×V}{r:List (κ×V)}{k:κ}(e:¬p.1=k):ck (p::r) k=ck r k:=by simp[ck,AD,e]
theorem n8(k:κ):∀kvs:List (κ×V),(kvs.any λcc=>decide (cc.1=k))=(ck kvs k).isSome
 |[]=>rfl
 |p::r=>by
  rw[Fw];by_cases e:p.1=k
  .simp only[lU e,cq e,Bool.true_or,Option.isSome_some]
  .rw[lg e,dF e,Bool.false_or];exact n8 k r
theorem UE(k j:κ)(y:V):∀kvs:List (κ×V),ck (kvs.map λcc=>if cc.1=k then(cc.1,y)else cc) j=(ck kvs j).map λx=>if j=k then y else x
 |[]=>rfl
 |p::r=>by
  have a8:=UE k j y r;rw[hW];by_cases h:p.1=k
  .rw[bL h];by_cases e:p.1=j
   .rw[lU (p:=(p.1,y)) e,lU e,FF,bL (e.symm.trans h)]
   .rw[lg (p:=(p.1,y)) e,lg e,a8]
  .rw[bF h];by_cases e:p.1=j
   .rw[lU (p:=p) e,lU e,FF,bF (λz=>h (e.trans z))]
   .rw[lg (p:=p) e,lg e,a8]
theorem ĺ(k j:κ)(y:V):∀kvs:List (κ×V),ck kvs k=none->ck (kvs++[(k,y)]) j=if j=k then some y else ck kvs j
 |[],_=>by
  by_cases e:k=j
  .rw[bL e.symm];exact lU (p:=(k,y)) e
  .rw[bF (λz=>e z.symm)];exact lg (p:=(k,y)) e
 |p::r,aS=>by
  rw[List.cons_append];have aX:¬p.1=k:=λz=>by rw[lU z]at aS;cases aS
  rw[lg aX]at aS;have a8:=ĺ k j y r aS;by_cases e:p.1=j
  .rw[lU e,lU e,bF (λz=>aX (e.trans z))]
  .rw[lg e,lg e,a8]
theorem DC(kvs:List (κ×V))(k j:κ)(y:V):ck (eo kvs k y) j=if j=k then some y else ck kvs j:=by
 unfold eo;by_cases a:(kvs.any λcc=>decide (cc.1=k))=true
 .rw[bL a,UE];rw[n8]at a;by_cases e:j=k
  .obtain⟨x,av⟩:=uA.mp a;rw[bL e,e,av,FF,bL rfl]
  .rw[bF e];cases ck kvs j with
   |none=>rfl
   |some x=>rw[FF,bF e]
 .rw[bF a];refine ĺ k j y kvs ?_;rw[n8]at a;cases q:ck kvs k with
  |none=>rfl
  |some x=>rw[q]at a;exact(a rfl).elim
theorem C9(kvs:List (κ×V))(k:κ)(v:V):(eo kvs k v).length<=kvs.length+1:=by
 unfold eo;split
 .rw[bp];omega
 .rw[ig,mj,AG];omega
theorem yB{kvs:List (κ×V)}{k:κ}(v:V)(h:ck kvs k=none):eo kvs k v=kvs++[(k,v)]:=by unfold eo;rw[n8,h];exact bF (by decide)
theorem iQ.Hk{o:Option V}{u:xR}(r:iQ o u):o.isSome=u.isSome:=by
 cases o with
 |none=>cases u with
  |none=>rfl
  |some _=>exact(show False from r).elim
 |some _=>cases u with
  |none=>exact(show False from r).elim
  |some _=>rfl
theorem iQ.getD{o:Option V}{u:xR}{d:V}{d':Value}(r:iQ o u)(rd:RelV d d'):RelV (o.getD d) (u.getD d'):=by
 cases o with
 |none=>cases u with
  |none=>exact rd
  |some _=>exact(show False from r).elim
 |some _=>cases u with
  |none=>exact(show False from r).elim
  |some _=>exact r
theorem gy.val{kvs:List (κ×V)}{vs:List (κ×Value)}(r:gy kvs vs)(k:κ):iQ (ck kvs k) (t6 vs k):=by
 unfold gy at r
 induction r with
 |nil=>exact k'
 |@cons p q ps dM h t a8=>
  obtain⟨af,ai⟩:=h;by_cases e:p.1=k
  .have cm:q.1=k:=af.symm.trans e;have b:t6 (q::dM) k=some q.2:=by simp[t6,AD,cm]
   rw[lU e,b];exact ai
  .have cm:¬q.1=k:=λz=>e (af.trans z);have b:t6 (q::dM) k=t6 dM k:=by simp[t6,AD,cm]
   rw[lg e,b];exact a8
theorem gy.any{kvs:List (κ×V)}{vs:List (κ×Value)}(r:gy kvs vs)(k:κ):(kvs.any λcc=>decide (cc.1=k))=vs.any λcc=>decide (cc.1=k):=by
 unfold gy at r
 induction r with
 |nil=>rfl
 |cons h t a8=>rw[Fw,Fw,a8,h.1]
theorem gy.Rq{kvs:List (κ×V)}{vs:List (κ×Value)}(r:gy kvs vs)(k:κ){y:V}{u:Value}(bG:RelV y u):
  gy (kvs.map λcc=>if cc.1=k then(cc.1,y)else cc) (vs.map λcc=>if cc.1=k then(cc.1,u)else cc):=by
 unfold gy at r⊢
 induction r with
 |nil=>exact .nil
 |@cons p q ps dM h t a8=>
  rw[hW,hW];refine .cons ?_ a8;obtain⟨af,ai⟩:=h;by_cases e:p.1=k
  .rw[bL e,bL (af.symm.trans e)];exact⟨af,bG⟩
  .rw[bF e,bF (λz=>e (af.trans z))];exact⟨af,ai⟩
theorem gy.put{kvs:List (κ×V)}{vs:List (κ×Value)}(r:gy kvs vs)(k:κ){y:V}{u:Value}(bG:RelV y u):gy (eo kvs k y) (stored vs k u):=by
 unfold eo stored;rw[r.any k];by_cases e:(vs.any λcc=>decide (cc.1=k))=true
 .rw[bL e,bL e];exact r.Rq k bG
 .rw[bF e,bF e];exact Paired.snoc r ⟨rfl,bG⟩
theorem gy.drop{kvs:List (κ×V)}{vs:List (κ×Value)}(r:gy kvs vs)(k:κ):gy (tX kvs k) (without vs k):=by
 unfold gy at r⊢;unfold tX without
 induction r with
 |nil=>exact .nil
 |@cons p q ps dM h t a8=>
  obtain⟨af,ai⟩:=h;rw[lJ,lJ];by_cases e:p.1=k
  .have a:¬decide (p.1≠k)=true:=by simp[e]
   have b:¬decide (q.1≠k)=true:=by simp[af.symm.trans e]
   rw[bF a,bF b];exact a8
  .have cm:¬q.1=k:=λz=>e (af.trans z);have a:decide (p.1≠k)=true:=by simp[e]
   have b:decide (q.1≠k)=true:=by simp[cm]
   rw[bL a,bL b];exact .cons ⟨af,ai⟩ a8
theorem gy.length{kvs:List (κ×V)}{vs:List (κ×Value)}(r:gy kvs vs):kvs.length=vs.length:=gE r
theorem UG(kvs:List (κ×V))(k:κ):(tX kvs k).length<=kvs.length:=ky _ _
theorem qI{P:bJ}{w:bq}{k:a7}{u:Value}(r:RelV (dg k) u):(f' P w).is k u=true:=by
 cases k with
 |inl i=>obtain⟨t,e⟩:=(show∃t,u=nX i t from r);subst e;exact ţ P w i t
 |inr x=>obtain⟨t,e⟩:=(show∃t,u=uM x t from r);subst e;exact Ť P w x t
theorem Ļ{P:bJ}{w:bq}:∀{g4:List a7}{us:cw},cI (g4.map dg) us->ItemsAre (f' P w) g4 us
 |[],_,r=>by rw[FA]at r;cases r;exact .nil
 |k::g4,_,r=>by
  rw[hW]at r;cases r with
  |cons h t=>exact .cons (qI h) (Ļ t)
noncomputable abbrev KT(H:ae):List (List a7×V)->List (List a7×Addr×Value)->Prop:=bk λp q=>p.1=q.1/\H q.2.1=some (.tup (p.1.map dg))/\RelV p.2 q.2.2
theorem KT.val{H:ae}{kvs:List (List a7×V)}{xs:List (List a7×Addr×Value)}(r:KT H kvs xs)(k:List a7):iQ (ck kvs k) ((sI xs k).map (·.2)):=by
 induction r with
 |nil=>exact k'
 |@cons p q ps dM h t a8=>
  obtain⟨af,_,ai⟩:=h;by_cases e:p.1=k
  .have cm:q.1=k:=af.symm.trans e;have b:sI (q::dM) k=some q.2:=by simp[sI,AD,cm]
   rw[lU e,b];exact ai
  .have cm:¬q.1=k:=λz=>e (af.trans z);have b:sI (q::dM) k=sI dM k:=by simp[sI,AD,cm]
   rw[lg e,b];exact a8
theorem KT.Rq{H:ae}{kvs:List (List a7×V)}{xs:List (List a7×Addr×Value)}(r:KT H kvs xs)(k:List a7){y:V}{u:Value}(bG:RelV y u):
  KT H (kvs.map λcc=>if cc.1=k then(cc.1,y)else cc) (xs.map (putAt k u)):=by
 induction r with
 |nil=>exact .nil
 |@cons p q ps dM h t a8=>
  rw[hW,hW];refine .cons ?_ a8;obtain⟨af,ai,bR⟩:=h;unfold putAt;by_cases e:p.1=k
  .rw[bL e,bL (af.symm.trans e)];exact⟨af,ai,bG⟩
  .rw[bF e,bF (λz=>e (af.trans z))];exact⟨af,ai,bR⟩
theorem KT.put{H:ae}{kvs:List (List a7×V)}{xs:List (List a7×Addr×Value)}(r:KT H kvs xs)(k:List a7){b:Addr}{y:V}{u:Value}(aa:H b=some (.tup (k.map dg)))(bG:RelV y u):
  KT H (eo kvs k y) (we xs k b u):=by
 have e:(kvs.any λcc=>decide (cc.1=k))=(sI xs k).isSome:=by rw[n8,(r.val k).Hk,adP]
 unfold eo we;rw[e];by_cases q:(sI xs k).isSome=true
 .rw[bL q,bL q];exact r.Rq k bG
 .rw[bF q,bF q];exact Paired.snoc r ⟨rfl,aa,bG⟩
theorem KT.keeps{H H':ae}{kvs:List (List a7×V)}{xs:List (List a7×Addr×Value)}(r:KT H kvs xs)(df:∀b ys,H b=some (.tup ys)->H' b=some (.tup ys)):KT H' kvs xs:=
 bk.e2 r λ_ _ z=>⟨z.1,df _ _ z.2.1,z.2.2⟩
end
section
variable{P:bJ}{w:bq}{H:ae}{h:Heap}{a:Addr}
theorem XZ{u:ed}(ok:fg P w H h)(e:gm H a u):ee P w H h a u:=e.ok ok
theorem zw{kvs:List (a7×V)}(ok:fg P w H h)(e:gm H a (.bX kvs)):kvs.length<=sizeLine/\(a==kY)=false/\∃vs,gy kvs vs/\h.DictOf (f' P w) a vs:=
 show ee P w H h a (.bX kvs)from XZ ok e
theorem wo{kvs:List (a7×V)}(ok:fg P w H h)(e:H a=some (.bX kvs)):kvs.length<=sizeLine/\(a==kY)=false/\∃vs,gy kvs vs/\h.DictOf (f' P w) a vs:=zw ok (.inl e)
theorem vV{g4:List a7}(ok:fg P w H h)(e:H a=some (.tup (g4.map dg))):(l8 (f' P w)).is h g4 a:=by
 obtain⟨_,its,r,o,af,ai,n,bR⟩:=(show ee P w H h a (.tup (g4.map dg))from ok a _ e)
 exact⟨o,its.toArray,n,af,ai,bR,by simpa using Ļ r⟩
theorem zx{kvs:List (List a7×V)}(ok:fg P w H h)(e:gm H a (.c4 kvs)):kvs.length<=sizeLine/\(a==kY)=false/\
  ∃xs,KT H kvs xs/\h.DictOfH (l8 (f' P w)) a xs:=by
 obtain⟨z,y,xs,r,o,es,ep,af,ai,bR,cS,dX⟩:=(show ee P w H h a (.c4 kvs)from XZ ok e)
 refine⟨z,y,xs,r,o,es,ep,af,ai,bR,cS,λx av=>?_,dX⟩;have all:∀{l:List (List a7×V)}{m:List (List a7×Addr×Value)},KT H l m->∀x∈m,(l8 (f' P w)).is h x.1 x.2.1:=by
  intro l m q
  induction q with
  |nil=>intro x av;exact nomatch av
  |@cons p q ps dM aT t a8=>
   intro x av;rcases dA.mp av with e|av
   .subst e;exact vV ok (by rw[<-aT.1];exact aT.2.1)
   .exact a8 x av
 exact all r x av
theorem X1{kvs:List (List a7×V)}(ok:fg P w H h)(e:H a=some (.c4 kvs)):kvs.length<=sizeLine/\(a==kY)=false/\
  ∃xs,KT H kvs xs/\h.DictOfH (l8 (f' P w)) a xs:=zx ok (.inl e)
end
noncomputable def iR(H:ae)(a:Addr)(y:V)(r:Option V):Prop:=
 (∃kvs k,gm H a (.bX kvs)/\y=dg k/\r=ck kvs k)\/∃kvs k b,gm H a (.c4 kvs)/\y=.ref b/\H b=some (.tup (k.map dg))/\r=ck kvs k
noncomputable def oI(H:ae)(a:Addr)(y v:V)(H':ae):Prop:=
 (∃kvs k,H a=some (.bX kvs)/\y=dg k/\kvs.length<sizeLine/\H'=upd H a (.bX (eo kvs k v)))\/
 ∃kvs k b,H a=some (.c4 kvs)/\y=.ref b/\H b=some (.tup (k.map dg))/\kvs.length<sizeLine/\H'=upd H a (.c4 (eo kvs k v))
theorem iR.k{H:ae}{a:Addr}{kvs:List (a7×V)}{k:a7}(e:H a=some (.bX kvs)):iR H a (dg k) (ck kvs k):=.inl ⟨kvs,k,.inl e,rfl,rfl⟩
theorem iR.t{H:ae}{a b:Addr}{kvs:List (List a7×V)}{k:List a7}(e:H a=some (.c4 kvs))(ea:H b=some (.tup (k.map dg))):iR H a (.ref b) (ck kvs k):=.inr ⟨kvs,k,b,.inl e,rfl,ea,rfl⟩
theorem oI.k{H:ae}{a:Addr}{kvs:List (a7×V)}{k:a7}{v:V}(e:H a=some (.bX kvs))(aj:kvs.length<sizeLine):oI H a (dg k) v (upd H a (.bX (eo kvs k v))):=.inl ⟨kvs,k,e,rfl,aj,rfl⟩
theorem oI.t{H:ae}{a b:Addr}{kvs:List (List a7×V)}{k:List a7}{v:V}(e:H a=some (.c4 kvs))(ea:H b=some (.tup (k.map dg)))(aj:kvs.length<sizeLine):
  oI H a (.ref b) v (upd H a (.c4 (eo kvs k v))):=.inr ⟨kvs,k,b,e,rfl,ea,aj,rfl⟩
section
variable{X:bb}{pins:cu}{σ:St}{H:ae}{s:aC}{a:Addr}{y v:V}{u r:Value}{o:Option V}{A:cW}{E:cx}
theorem Inv.big(I:Inv X pins σ H s):kY<s.heap.objs.size:=by have h:c5<s.heap.objs.size:=(I.mod.glob.keeps I.gq).lt;exact Ky (by decide) h
theorem abl{Q:cx}(b8:A.units+1<cLine)(I:Inv X pins σ H s)(g:iR H a y (some v))(bG:RelV y u)(h:∀eT s',Inv X pins σ H s'->RelV v eT->Q eT s'):
  aO (a6 X.prog X.w) A (Cu (.ref a) u) Q E s:=by
 rcases g with⟨kvs,k,e,gr,l⟩|⟨kvs,k,b,e,gr,ea,l⟩
 .subst gr;obtain⟨z,hd,vs,rel,dd⟩:=zw I.a_ e;obtain⟨eT,hw,gQ⟩:=iQ.some_of (v:=v) (o:=t6 vs k) (by rw[l];exact rel.val k);exact wpAny_getItem_of (qI bG) dd.mapOf hw (h eT _ (I.tok _) gQ)
 .subst gr;cases(show u=cy b from bG);obtain⟨z,hd,xs,rel,dd⟩:=zx I.a_ e;obtain⟨eT,hw,gQ⟩:=iQ.some_of (v:=v) (o:=(sI xs k).map (·.2)) (by rw[l];exact rel.val k);obtain⟨p,aR,qr⟩:=fL.mp hw;refine wpAny_getItem_heap (IP b8) (vV I.a_ ea) dd aR ?_;rw[qr];exact h eT _ (I.tok _) gQ
theorem aeZ{Q:cx}(b8:A.units+1<cLine)(I:Inv X pins σ H s)(g:iR H a y o)(bG:RelV y u)(h:∀s',Inv X pins σ H s'->Q (.bool (!o.isSome)) s'):
  aO (a6 X.prog X.w) A (js .NotIn u (.ref a)) Q E s:=by
 rcases g with⟨kvs,k,e,gr,l⟩|⟨kvs,k,b,e,gr,ea,l⟩
 .subst gr;obtain⟨z,hd,vs,rel,dd⟩:=zw I.a_ e;refine wpAny_notIn_of (qI bG) hd dd.mapOf ?_;rw[<-(rel.val k).Hk,<-l];exact h _ (I.tok _)
 .subst gr;cases(show u=cy b from bG);obtain⟨z,hd,xs,rel,dd⟩:=zx I.a_ e;refine wpAny_notIn_heap (IP b8) (vV I.a_ ea) hd dd ?_;have q:=(rel.val k).Hk;rw[adP]at q;rw[<-q,<-l];exact h _ (I.tok _)
theorem vH{h':Heap}{t':Nat}{ob:ed}(I:Inv X pins σ H s)(bO:AM (H a))(hs:kv a s.heap h')(he:∃q,h'.get? a=some q)(new:ee X.prog X.w (upd H a ob) h' a ob):
  Inv X pins σ (upd H a ob) {s with heap:=h',toks:=t'}:=
 I.write (x:=a) (e:=a) bO (.inl rfl) (λb q aa z=>(hs.2 b aa).trans z) he new
theorem EE{P:bJ}{w:bq}{H':ae}{h':Heap}{kvs:List (a7×V)}{vs:List (a7×Value)}(z:kvs.length<=sizeLine)(hd:(a==kY)=false)(rel:gy kvs vs)(dd:h'.DictOf (f' P w) a vs):
  ee P w H' h' a (.bX kvs):=⟨z,hd,vs,rel,dd⟩
theorem aa2{H':ae}{Q:Unit->aC->Prop}(b8:A.units+1<cLine)(I:Inv X pins σ H s)(g:oI H a y v H')(bG:RelV y u)(b7:RelV v r)(h:∀s',Inv X pins σ H' s'->Q () s'):
  aO (a6 X.prog X.w) A (setItem (.ref a) u r) Q E s:=by
 rcases g with⟨kvs,k,e,gr,l,MT⟩|⟨kvs,k,b,e,gr,ea,l,MT⟩
 .subst gr MT;obtain⟨z,hd,vs,rel,dd⟩:=wo I.a_ e;have hz:vs.length<=sizeLine:=by rw[<-rel.length];exact z
  have aj:(eo kvs k v).length<=sizeLine:=by have:=C9 kvs k v;omega
  refine wpAny_setItem_pairs (hsz:=hz) (qI bG) dd λh' ju hs=>h _ ?_;have he:∃q,h'.get? a=some q:=let⟨q,_,_,aT,_⟩:=ju;⟨q,aT⟩
  exact vH I (by rw[e];exact k') hs he (EE aj hd (rel.put k b7) ju)
 .subst gr MT;cases(show u=cy b from bG);obtain⟨z,hd,xs,rel,dd⟩:=X1 I.a_ e;have hz:xs.length<=sizeLine:=by rw[<-gE rel];exact z
  have aj:(eo kvs k v).length<=sizeLine:=by have:=C9 kvs k v;omega
  refine wpAny_setItem_heap (hsz:=hz) (IP b8) (vV I.a_ ea) dd λh' ju hs=>h _ ?_;obtain⟨q,es,ep,aT,ai,bR,cS,_,dX⟩:=ju;refine vH I (by rw[e];exact k') hs ⟨q,aT⟩ ⟨aj,hd,_,(rel.put k ea b7).keeps λc ys h5=>?_,q,es,ep,aT,ai,bR,cS,dX⟩;rw[aA (hS h5 e (λz=>nomatch z))];exact h5
end
section
variable{X:bb}{pins:cu}{σ:St}{H:ae}{s:aC}{a:Addr}{kvs:List (a7×V)}{k:a7}{u:Value}{A:cW}{E:cx}
theorem atb{Q:Unit->aC->Prop}(I:Inv X pins σ H s)(e:H a=some (.bX kvs))(bG:RelV (dg k) u)(l:(ck kvs k).isSome=true)(h:∀s',Inv X pins σ (upd H a (.bX (tX kvs k))) s'->Q () s'):
  aO (a6 X.prog X.w) A (delItem (.ref a) u) Q E s:=by
 obtain⟨z,hd,vs,rel,dd⟩:=wo I.a_ e;refine wpAny_delItem_slot dd.typeIs (by decide) aef
  (Bm aef dd.typeIs PySem.F.entry_dict_delitem (PySem.F.args_dict_delitem_2 _ _) (meets_dict_delitem_pairs (f' X.prog X.w) a (qI bG)) ⟨vs,dd,by rw[<-rel.length];exact z,by rw[<-(rel.val k).Hk];exact l,λh' ju hs=>h _ ?_⟩)
 have he:∃q,h'.get? a=some q:=let⟨q,_,_,aT,_⟩:=ju;⟨q,aT⟩
 exact vH I (by rw[e];exact k') hs he (EE (e3 (UG kvs k) z) hd (rel.drop k) ju)
theorem aht{v:V}{more:cw}{Q:cx}(I:Inv X pins σ H s)(e:H a=some (.bX kvs))(bG:RelV (dg k) u)(l:ck kvs k=some v)(hm:more=[]\/∃x,more=[x])(h:∀eT s',Inv X pins σ (upd H a (.bX (tX kvs k))) s'->RelV v eT->Q eT s'):aO (a6 X.prog X.w) A (call (.builtin "dict.pop") (.ref a::u::more)) Q E s:=by
 obtain⟨z,hd,vs,rel,dd⟩:=wo I.a_ e;obtain⟨eT,hw,gQ⟩:=iQ.some_of (v:=v) (o:=t6 vs k) (by rw[<-l];exact rel.val k);have aR:(keyPart u).isSome=true:=by
  cases k with
  |inl i=>obtain⟨t,q⟩:=(show∃t,u=nX i t from bG);subst q;rfl
  |inr x=>obtain⟨t,q⟩:=(show∃t,u=uM x t from bG);subst q;rfl
 have aK:xU "dict.pop" ⟨.ref a::u::more,[]⟩:=by
  rcases hm with q|⟨x,q⟩
  .subst q;exact PySem.F.args_dict_pop_2 _ _
  .subst q;exact ad9 _ _ _
 refine Bm KW dd.typeIs aeb aK (meets_dict_pop_there (f' X.prog X.w) a (qI bG) more hm aR)
  ⟨vs,eT,dd,by rw[<-rel.length];exact z,hw,λh' ju hs=>h eT _ ?_ gQ⟩
 have he:∃q,h'.get? a=some q:=let⟨q,_,_,aT,_⟩:=ju;⟨q,aT⟩
 exact vH I (by rw[e];exact k') hs he (EE (e3 (UG kvs k) z) hd (rel.drop k) ju)
theorem agw{r:Value}{Q:cx}(I:Inv X pins σ H s)(e:H a=some (.bX kvs))(bG:RelV (dg k) u)(l:ck kvs k=none)(h:∀s',Inv X pins σ H s'->Q r s'):
  aO (a6 X.prog X.w) A (call (.builtin "dict.pop") [.ref a,u,r]) Q E s:=by
 obtain⟨z,hd,vs,rel,dd⟩:=wo I.a_ e;have aS:t6 vs k=none:=iQ.none_of (by rw[<-l];exact rel.val k);have aR:(keyPart u).isSome=true:=by
  cases k with
  |inl i=>obtain⟨t,q⟩:=(show∃t,u=nX i t from bG);subst q;rfl
  |inr x=>obtain⟨t,q⟩:=(show∃t,u=uM x t from bG);subst q;rfl
 exact Bm KW dd.typeIs aeb (ad9 _ _ _) (meets_dict_pop_default (f' X.prog X.w) a (qI bG) hd aR r) ⟨vs,dd,aS,h _ (I.tok _)⟩
noncomputable def Ya(i:Expr):Prop:=∀eI ji,R' i false eI ji=operate [eI,ji] (Cu eI ji)
end
theorem ae0{prog:bJ}{w:bq}{A:cW}{E:cx}{s:aC}{env:Env}{value slice:Expr}{pos:Pos}{T id:String}{Q:cx}(aj:Sv (.type T) "__getitem__"=pure (some (.builtin id)))(hs:Ya slice)(h:aO (a6 prog w) A (eval value env) (λo dP=>aO (a6 prog w) A (eval slice env) (λi qU=>qU.TypeIs o T/\aO (a6 prog w) A (Cu o i) Q E qU) E dP) E s):
  aO (a6 prog w) A (eval (.Subscript value slice pos) env) Q E s:=by
 refine X4 (gf h (λo dP OK=>gf OK (λi qU OL=>?_) λ_ _ x=>x) λ_ _ x=>x);obtain⟨jQ,OL⟩:=OL;unfold ċ;refine aw ?_;rw[getitemInPython_of_ne jQ.not_modules];refine aw (wpAny_specialOf jQ aj ?_);have fin:aO (a6 prog w) A (R' slice false o i) (λr Ď=>aO (a6 prog w) A (letTemporaryGo value o r >>=λ_=>pure r) Q E Ď) E qU:=by rw[hs o i];exact wpAny_operating (gf OL (λr Ď aoq=>aw (wpAny_letTemporaryGo (bf aoq))) λ_ _ x=>x)
 first
  |exact bf (aw fin)
  |exact aw (bf (aw fin))
  |exact aw fin
theorem ŧ{X:bb}{pins:cu}{σ:St}{H:ae}{s:aC}{a:Addr}{y:V}{o:Option V}(I:Inv X pins σ H s)(g:iR H a y o):s.TypeIs (.ref a) "dict":=by
 rcases g with⟨kvs,k,e,_,_⟩|⟨kvs,k,b,e,_,_,_⟩
 .obtain⟨_,_,vs,_,dd⟩:=zw I.a_ e;exact dd.typeIs
 .obtain⟨_,_,xs,_,dd⟩:=zx I.a_ e;exact dd.typeIs
noncomputable def ahu(bY ty:TE):TE:=λσ H Q=>bY σ H λx H1=>ty σ H1 λy ah=>∃a v,x=.ref a/\iR ah a y (some v)/\Q v ah
noncomputable def ae1(ty bY:TE):TE:=λσ H Q=>ty σ H λy H1=>bY σ H1 λx ah=>∃a o,x=.ref a/\iR ah a y o/\Q (.aM (!o.isSome)) ah
noncomputable def ahv(bY ty j4:TE):eY:=λD σ H=>j4 σ H λv H1=>bY σ H1 λx ah=>ty σ ah λy bg=>∃a dV,x=.ref a/\oI bg a y v dV/\D.b9 σ dV
section
variable{X:bb}{o i e value:Expr}{pos pos' EC:Pos}{bY ty j4:TE}
theorem tp(b8:X.A.units+1<cLine)(aZ:bh X o bY)(ar:bh X i ty)(hs:Ya i):bh X (.Subscript o i pos) (ahu bY ty):=by intro pins s σ H Q I h;refine ae0 PySem.F.slot_dict_getitem.lookup hs (bB (aZ pins s σ H _ I h) λu s1⟨x,H1,aP,bz,bM⟩=>bB (ar pins s1 σ H1 _ aP bM) λji s2⟨y,ah,bA,bG,a,v,ex,g,cU⟩=>?_);subst ex;obtain rfl:u=cy a:=bz;exact⟨ŧ bA g,abl b8 bA g bG λeT s3 cZ gQ=>⟨v,ah,cZ,gQ,cU⟩⟩
theorem H_(b8:X.A.units+1<cLine)(ar:bh X i ty)(aZ:bh X o bY):KQ X .NotIn i o (ae1 ty bY):=by intro pins s σ H Q I h;refine bB (ar pins s σ H _ I h) λji s1⟨y,H1,aP,bG,bM⟩=>bB (aZ pins s1 σ H1 _ aP bM) λu s2⟨x,ah,bA,bz,a,eI,ex,g,cU⟩=>?_;subst ex;obtain rfl:u=cy a:=bz;exact aeZ b8 bA g bG λs3 cZ=>⟨.aM (!eI.isSome),ah,cZ,rfl,cU⟩
theorem yT(b8:X.A.units+1<cLine)(aZ:bh X o bY)(ar:bh X i ty)(bC:bh X value j4)(hs:wg value (some (.Subscript o i pos')) pos.line X.env=pure false):
  fN X (.Assign [.Subscript o i pos'] value pos) (ahv bY ty j4):=by intro pins s σ H D I h;refine wpAny_Assign_Subscript (bB (bC pins s σ H _ I h) λr s1⟨v,H1,aP,b7,bM⟩=>bB (aZ pins s1 σ H1 _ aP bM) λu s2⟨x,ah,bA,bz,cU⟩=>bB (ar pins s2 σ ah _ bA cU) λji s3⟨y,bg,cZ,bG,a,dV,ex,g,hn⟩=>?_) hs;subst ex;obtain rfl:u=cy a:=bz;exact aa2 b8 cZ g bG b7 λs4 jF=>⟨σ,dV,jF,hn⟩
theorem UK{P:bJ}{w:bq}{H:ae}(h:Heap)(aa:kY<h.objs.size):ee P w H (h.push {cls:=.type "dict",data:=.dict #[]}) h.objs.size (.bX []):=
 ⟨e4 _,uT.mpr (cL (eD aa)),[],.nil,Heap.DictOf.new h⟩
theorem ab8{P:bJ}{w:bq}{H:ae}(h:Heap)(aa:kY<h.objs.size):ee P w H (h.push {cls:=.type "dict",data:=.dict #[]}) h.objs.size (.c4 []):=
 ⟨e4 _,uT.mpr (cL (eD aa)),[],.nil,_,#[],0,gi _ rfl,⟨rfl,rfl,rfl⟩,rfl,rfl,sv⟩
noncomputable def agx:TE:=λ_ H Q=>∀p,H p=none->Q (.ref p) (upd H p (.bX []))
noncomputable def agy:TE:=λ_ H Q=>∀p,H p=none->Q (.ref p) (upd H p (.c4 []))
end
section
variable{X:bb}{pos:Pos}
theorem Im:bh X (.Dict [] [] pos) agx:=λpins s σ H Q I h=>
 arD ⟨.ref s.heap.objs.size,_,I.laid (a:=s.heap.objs.size) (o:=.bX []) (t':=s.toks) (λ_ _ q=>dG _ q) (cj _) (UK s.heap I.big),rfl,h _ (I.a_.fresh (cj _))⟩
theorem ab9:bh X (.Dict [] [] pos) agy:=λpins s σ H Q I h=>
 arD ⟨.ref s.heap.objs.size,_,I.laid (a:=s.heap.objs.size) (o:=.c4 []) (t':=s.toks) (λ_ _ q=>dG _ q) (cj _) (ab8 s.heap I.big),rfl,h _ (I.a_.fresh (cj _))⟩
noncomputable def JG:List (TE×TE)->St->ae->(List (V×V)->ae->Prop)->Prop
 |[],_,H,Q=>Q [] H
 | (a4,j4)::r,σ,H,Q=>a4 σ H λx H1=>j4 σ H1 λy ah=>JG r σ ah λps bg=>Q ((x,y)::ps) bg
noncomputable abbrev X':List (V×V)->List (Value×Value)->Prop:=bk λp q=>RelV p.1 q.1/\RelV p.2 q.2
end
noncomputable def FI(X:bb)(pos:Pos)(keys:List (Option Expr))(values:gG)(r5:List (TE×TE)):Prop:=
 ∀(pins:cu)(s:aC)(σ:St)(H:ae)(Q:List (V×V)->ae->Prop),Inv X pins σ H s->JG r5 σ H Q->
  aO (a6 X.prog X.w) X.A (evalPairs (pairTrees keys values X.env pos)) (λvs s'=>∃ps H',Inv X pins σ H' s'/\X' ps vs/\Q ps H') X.dT s
theorem ae2{X:bb}{pos:Pos}:FI X pos [] [] []:=λpins s σ H Q I h=>pairTrees_nil_walk ⟨[],H,I,.nil,h⟩
theorem aca{X:bb}{pos:Pos}{k v:Expr}{g4:List (Option Expr)}{vs:gG}{a4 j4:TE}{r5:List (TE×TE)}(aX:bh X k a4)(bC:bh X v j4)(aq:FI X pos g4 vs r5):
  FI X pos (some k::g4) (v::vs) ((a4,j4)::r5):=λpins s σ H Q I h=>
 pairTrees_cons_walk (bB (aX pins s σ H _ I h) λu s1⟨x,H1,aP,bz,bM⟩=>bB (bC pins s1 σ H1 _ aP bM) λfK s2⟨y,ah,bA,bG,cU⟩=>
  bB (aq pins s2 σ ah _ bA cU) λws s3⟨ps,bg,cZ,rel,hn⟩=>⟨(x,y)::ps,bg,cZ,.cons ⟨bz,bG⟩ rel,hn⟩)
noncomputable def ze(kvs more:List (a7×V)):List (a7×V):=more.foldl (λacc cc=>eo acc cc.1 cc.2) kvs
theorem gy.merge:∀{more:List (a7×V)}{rs:List (a7×Value)}{kvs:List (a7×V)}{vs:List (a7×Value)},gy more rs->gy kvs vs->gy (ze kvs more) (merged vs rs):=by
 intro more rs kvs vs r;unfold gy at r
 induction r generalizing kvs vs with
 |nil=>intro q;exact q
 |@cons p q ps dM h t a8=>
  intro r0;have e:gy (eo kvs p.1 p.2) (stored vs q.1 q.2):=by have:=r0.put p.1 h.2;rw[<-h.1];exact this
  exact a8 e
theorem ë:∀(more kvs:List (a7×V)),(ze kvs more).length<=kvs.length+more.length
 |[],kvs=>by show kvs.length<=kvs.length+0;omega
 |p::r,kvs=>by have af:=ë r (eo kvs p.1 p.2);have ai:=C9 kvs p.1 p.2;show(ze (eo kvs p.1 p.2) r).length<=_;rw[mj];omega
theorem Ħ{P:bJ}{w:bq}:∀{kvs:List (a7×V)}{ws:List (Value×Value)},X' (kvs.map λcc=>(dg cc.1,cc.2)) ws->∃rs,Carries (f' P w) ws rs/\gy kvs rs
 |[],_,r=>by rw[FA]at r;cases r;exact⟨[],k',.nil⟩
 |p::kvs,_,r=>by
  rw[hW]at r;cases r with
  |@cons a b as bs h t=>
   obtain⟨rs,c,q⟩:=Ħ (P:=P) (w:=w) t;obtain⟨f9,gn⟩:=b;exact⟨(p.1,gn)::rs,⟨qI h.1,rfl,c⟩,.cons ⟨rfl,h.2⟩ q⟩
noncomputable def ahw(r5:List (TE×TE)):TE:=λσ H Q=>∀p,H p=none->JG r5 σ (upd H p (.bX [])) λps ah=>ah p=some (.bX [])/\∃kvs:List (a7×V),ps=kvs.map (λcc=>(dg cc.1,cc.2))/\kvs.length<=15/\Q (.ref p) (upd ah p (.bX (ze [] kvs)))
theorem ae3{X:bb}{pos:Pos}{keys:List (Option Expr)}{values:gG}{r5:List (TE×TE)}(h:FI X pos keys values r5)(vj:keys.all (·.isSome)=true)(aj:keys.length=values.length)(h0:keys≠[])(amV:keys.length<=15):bh X (.Dict keys values pos) (ahw r5):=by
 intro pins s σ H Q I q;have aS:=I.a_.fresh (cj s.heap.objs.size);have aP:=I.laid (a:=s.heap.objs.size) (o:=.bX []) (h':=s.heap.push {cls:=.type "dict",data:=.dict #[]}) (t':=s.toks) (λ_ _ q=>dG _ q) (cj _) (UK s.heap I.big);refine wpAny_Dict_walk (knd:=f' X.prog X.w) vj aj h0 amV (bB (h pins _ σ _ _ aP (q _ aS)) λws s2⟨ps,ah,bA,rel,e,kvs,ep,lk,cU⟩=>?_);subst ep;obtain⟨rs,c,tT⟩:=Ħ (P:=X.prog) (w:=X.w) rel;obtain⟨z,hd,aur,r0,dd⟩:=wo bA.a_ e;cases r0;refine⟨rs,c,dd,λh' ju hs=>⟨.ref s.heap.objs.size,_,?_,rfl,cU⟩⟩;have hz:(ze [] kvs).length<=sizeLine:=by have af:=ë kvs [];rw[AG]at af;rw[pH];omega
 have he:∃q,h'.get? s.heap.objs.size=some q:=let⟨q,_,_,aT,_⟩:=ju;⟨q,aT⟩
 exact vH bA (by rw[e];exact k') hs he (EE hz hd (tT.merge .nil) ju)
structure dp(X:bb)(o:Expr)(m:Str)(eN:Pos)(e:Expr)(e6:Pos):Prop where
 base:uP o m X.env (eval o X.env)=eval o X.env
 eE:((hg e6 (dR [e] X.env)).all (λx=>!x.1)&&(kB e6 (kP [] X.env)).all (λx=>x.1.isSome)
  && decide (([e]:gG).length+([]:List uv).length+(if([]:List uv).isEmpty then 0 else 1)<30))=true
 line:(eN.endLine==e6.line)=true
 trees:hg e6 (dR [e] X.env)=[(false,eval e X.env)]
structure M2(X:bb)(o:Expr)(m:Str)(eN:Pos)(e f:Expr)(e6:Pos):Prop where
 base:uP o m X.env (eval o X.env)=eval o X.env
 eE:((hg e6 (dR [e,f] X.env)).all (λx=>!x.1)&&(kB e6 (kP [] X.env)).all (λx=>x.1.isSome)
  && decide (([e,f]:gG).length+([]:List uv).length+(if([]:List uv).isEmpty then 0 else 1)<30))=true
 line:(eN.endLine==e6.line)=true
 trees:hg e6 (dR [e,f] X.env)=[(false,eval e X.env),(false,eval f X.env)]
noncomputable def xn(H:ae)(a:Addr):Prop:=(∃kvs,gm H a (.bX kvs))\/∃kvs,gm H a (.c4 kvs)
theorem Jh{X:bb}{pins:cu}{σ:St}{H:ae}{s:aC}{a:Addr}(I:Inv X pins σ H s)(d:xn H a):
  s.TypeIs (.ref a) "dict"/\(∀b,cy a=.ref b->∃ob,s.heap.get? b=some ob/\ob.dict=none)/\(a==kY)=false:=by
 rcases d with⟨kvs,e⟩|⟨kvs,e⟩
 .obtain⟨_,hd,vs,_,dd⟩:=zw I.a_ e;refine⟨dd.typeIs,λb q=>?_,hd⟩;cases q;obtain⟨ob,_,_,af,ai,_⟩:=dd;exact⟨ob,af,ai.2.1⟩
 .obtain⟨_,hd,xs,_,dd⟩:=zx I.a_ e;refine⟨dd.typeIs,λb q=>?_,hd⟩;cases q;obtain⟨ob,_,_,af,ai,_⟩:=dd;exact⟨ob,af,ai.2.1⟩
section
variable{X:bb}{pins:cu}{σ:St}{H:ae}{s:aC}{a:Addr}{y d:V}{u r:Value}{o:Option V}{A:cW}{E:cx}
theorem agz{Q:cx}(b8:A.units+1<cLine)(I:Inv X pins σ H s)(g:iR H a y o)(bG:RelV y u)(h:∀eT s',Inv X pins σ H s'->RelV (o.getD .bl) eT->Q eT s'):
  aO (a6 X.prog X.w) A (call (.builtin "dict.get") [.ref a,u]) Q E s:=by
 rcases g with⟨kvs,k,e,gr,l⟩|⟨kvs,k,b,e,gr,ea,l⟩
 .subst gr;obtain⟨z,hd,vs,rel,dd⟩:=zw I.a_ e;refine Bm Xw dd.typeIs aea (ad8 _ _) (meets_dict_get (f' X.prog X.w) a (qI bG) hd) ⟨_,dd.mapOf,h _ _ (I.tok _) ?_⟩;rw[l];exact(rel.val k).getD rfl
 .subst gr;cases(show u=cy b from bG);obtain⟨z,hd,xs,rel,dd⟩:=zx I.a_ e;refine Bm Xw dd.typeIs aea (ad8 _ _) (meetsH_dict_get (l8 (f' X.prog X.w)) a b hd) ⟨IP b8,k,xs,vV I.a_ ea,dd,h _ _ (I.tok _) ?_⟩;rw[l];exact(rel.val k).getD rfl
end
noncomputable def agA(bY ty:TE):TE:=λσ H Q=>bY σ H λx H1=>∃a,x=.ref a/\xn H1 a/\ty σ H1 λy ah=>∃o,iR ah a y o/\Q (o.getD .bl) ah
noncomputable def agB(bY ty j5:TE):TE:=λσ H Q=>bY σ H λx H1=>∃a,x=.ref a/\xn H1 a/\ty σ H1 λy ah=>j5 σ ah λz bg=>∃kvs k,bg a=some (.bX kvs)/\y=dg k/\
 (∀v,ck kvs k=some v->Q v (upd bg a (.bX (tX kvs k))))/\(ck kvs k=none->Q z bg)
section
variable{X:bb}{o e f:Expr}{eN e6:Pos}{bY ty j5:TE}
theorem Ta(b8:X.A.units+1<cLine)(aZ:bh X o bY)(he:bh X e ty)(m:dp X o "get" eN e e6):bh X (.Call (.Attribute o "get" eN) [e] [] e6) (agA bY ty):=by intro pins s σ H Q I h;refine Ti m.base m.eE m.line FQ Xw PySem.F.type_dict_get (bB (aZ pins s σ H _ I h) λu s1⟨x,H1,aP,bz,a,ex,d,bM⟩=>?_);subst ex;obtain rfl:u=cy a:=bz;obtain⟨t1,f5,_⟩:=Jh aP d;refine⟨t1,f5,?_⟩;rw[m.trees];refine zX rfl (zY (ud (bB (he pins s1 σ H1 _ aP bM) λji s2⟨y,ah,bA,bG,eI,g,cU⟩=>E7 ?_)));exact agz b8 bA g bG λeT s3 cZ gQ=>⟨_,ah,cZ,gQ,cU⟩
theorem UL(aZ:bh X o bY)(he:bh X e ty)(hf:bh X f j5)(m:M2 X o "pop" eN e f e6):bh X (.Call (.Attribute o "pop" eN) [e,f] [] e6) (agB bY ty j5):=by
 intro pins s σ H Q I h;refine Ti m.base m.eE m.line FQ KW aei (bB (aZ pins s σ H _ I h) λu s1⟨x,H1,aP,bz,a,ex,d,bM⟩=>?_);subst ex;obtain rfl:u=cy a:=bz;obtain⟨t1,f5,_⟩:=Jh aP d;refine⟨t1,f5,?_⟩;rw[m.trees];refine zX rfl (zY (ud (bB (he pins s1 σ H1 _ aP bM) λji s2⟨y,ah,bA,bG,cU⟩=>
  ud (bB (hf pins s2 σ ah _ bA cU) λeb s3⟨z,bg,cZ,qP,kvs,k,au,gr,hn,rR⟩=>E7 ?_))))
 subst gr;cases l:ck kvs k with
 |some v=>exact aht cZ au bG l (.inr ⟨eb,rfl⟩) λeT s4 jF gQ=>⟨v,_,jF,gQ,hn v l⟩
 |none=>exact agw cZ au bG l λs4 jF=>⟨z,bg,jF,qP,rR l⟩
end
section
variable{κ:Type}[DecidableEq κ]
theorem UM{kvs:List (κ×V)}{k:κ}(h:ck kvs k=none):¬k∈kvs.map (·.1):=by intro m;obtain⟨p,aR,e⟩:=cn.mp m;have q:(kvs.any λcc=>decide (cc.1=k))=true:=pT.mpr ⟨p,aR,cq e⟩;rw[n8,h]at q;exact bE q (by simp)
theorem S_{kvs:List (κ×V)}{k:κ}{v:V}(h:ck kvs k=some v):k∈kvs.map (·.1):=by
 have q:(kvs.any λcc=>decide (cc.1=k))=true:=by
  rw[n8,h]
  all_goals rfl
 obtain⟨p,aR,e⟩:=pT.mp q;exact cn.mpr ⟨p,aR,jk e⟩
theorem VQ:∀{l:List κ}{k:κ},l.Nodup->¬k∈l->(l++[k]).Nodup
 |[],k,_,_=>by simp
 |a::r,k,h,aX=>by
  obtain⟨af,ai⟩:=iH.mp h;show(a::(r++[k])).Nodup;refine iH.mpr ⟨λm=>?_,VQ ai λm=>aX (dA.mpr (rj m))⟩;rcases hX.mp m with q|q
  .exact af q
  .exact aX (dA.mpr (b5 (iW.mp q).symm))
theorem ae4{kvs:List (κ×V)}{k:κ}(v:V)(aS:(kvs.map (·.1)).Nodup)(h:ck kvs k=none):((eo kvs k v).map (·.1)).Nodup:=by rw[yB v h,eW];exact VQ aS (UM h)
end
end ao
namespace cQ
section
open PySem PySem.Spec PyProof.Rows
open PySem.Builtin PySem.Builtin.Getset_descriptor
structure kS(K:aU)(C:Addr):Prop where
 ga:b1 K (.ref C) "__getattribute__"=some (some (.builtin "BaseException.__getattribute__"))
 no:b1 K (.ref C) "__getattr__"=some none
 aK:b1 K (.ref C) "__class__"=some (some (.builtin "object.__class__"))
 aS:sC K (.builtin "object.__class__") "__get__"=some (some (.builtin "getset_descriptor.__get__"))
 Hd:A7 K (.builtin "object.__class__")=some true
 hm:pZ K C (.type "object")=some true
 aa:pZ K C (.type "BaseException")=some true
noncomputable def q1(h:Heap)(x C:Addr):Prop:=∃o,h.get? x=some o/\o.cls=.ref C
theorem q1.type{M:k8}{h:Heap}{x C:Addr}(I:q1 h x C):pY M h (typeOf (.ref x)) (.ref C):=by obtain⟨o,e,c⟩:=I;rw[<-c];exact(Xx e).andThen .now
section
variable{prog:bJ}{w:bq}{A:cW}{E:cx}{s:aC}{K:aU}{x C:Addr}{name:Str}
theorem ļ{M:k8}{Ï:Value}{Q:Unit->aC->Prop}(X:K.In s.heap)(c:kS K C)(I:q1 s.heap x C)(aT:Q () s):
  aO M A (alb "BaseException.__getattribute__" ⟨[.ref x,Ï],[]⟩) Q E s:=by
 have aX:builtinKind "BaseException.__getattribute__"=some .slot:=by decide+kernel
 have aob:splitId "BaseException.__getattribute__"=some ("BaseException","__getattribute__"):=by decide+kernel
 have aK:=F.args_bexc_ga (.ref x) Ï;have oV:pY M s.heap (Hj (.ref x) (.type "BaseException")) true:=I.type.andThen (aev X c.aa);obtain⟨h,g,d,t,os⟩:=s;simp only[alb,aX,aob];refine aw (oV.at ?_)
 repeat (first|assumption|wp_step)
theorem Ws{fill expr:Bool}{a4:Tok}{Q:cx}(X:K.In s.heap)(c:kS K C)(I:q1 s.heap x C)(h:∀iF:cW,jJ (a6 prog w) iF (.call (.builtin "BaseException.__getattribute__") ⟨[.ref x,.str name a4],[]⟩) (λr s'=>match r with|.ok (.ret v)=>aO (a6 prog w) A (ZS v) Q E s'|_=>False) s):
  aO (a6 prog w) A (Nj (.ref x) (.str name a4) fill expr) Q E s:=by
 have xA:=I.type (M:=a6 prog w);have uw:=rk (M:=a6 prog w) X c.ga;have ao:=rk (M:=a6 prog w) X c.no;have cv:=F.excAttr_ValueError.ga.bind (.ref x);have aok:(expr&&ç (uL "BaseException.__getattribute__"))=false:=by cases expr<;>rfl
 have aol:(uL "BaseException.__getattribute__"==uL "object.__getattribute__")=false:=by decide+kernel
 have rF:(ç (cy C)&&uL "BaseException.__getattribute__"==uL "object.__getattribute__")=false:=by rw[aol];rfl
 obtain⟨dy,g,d,t,os⟩:=s;unfold Nj;refine iD (aw (xA.at (aw (uw.at ?_))));dsimp only;rw[bF (by rw[rF];exact ff)];unfold getAttrByItsOwn hookBefore;rw[bL (show ç (cy C)=true from rfl)];refine aw (ao.at ?_);refine aw (zp (iD ?_));unfold callGetattribute;rw[bF (by rw[aok];exact ff)];unfold boundAndCalled;rw[cv];refine aw (bf ?_);refine pO (rn (h _) λr s' aq=>?_);rcases r with e|(_|_|_|v)<;>first|exact aq|exact aq.elim
theorem ab2{R:m3->aC->Prop}{c':Value}(X:K.In s.heap)(I:q1 s.heap x C)(hm:pZ K C (.type "object")=some true)(h:R (.ok (.ret (.ref C))) s):
  jJ (a6 prog w) A (.call (.builtin "getset_descriptor.__get__") ⟨[.builtin "object.__class__",.ref x,c'],[]⟩) R s:=by
 have xA:=I.type (M:=a6 prog w);have asE:=aev (M:=a6 prog w) X hm;obtain⟨h0,g,d,t,os⟩:=s;refine uZ aej.plain as7 ?_;refine aej.check _ _ _ _ _ _ _ _ as9 (as5 _ _ _) ?_;unfold Builtin.«getset_descriptor.__get__» descrGet;rw[PySem.W.dga_obj];refine aw (bf ?_);unfold descrGetter descrCheckInstance descrNameAndClass Hj;simp only[as8]
 repeat lk
 refine⟨JB _ (by decide+kernel),mx as6 ?_⟩;unfold Builtin.«object.__class__» shownTypeOf
 repeat lk
 exact h
theorem aa3{M:k8}{h:Heap}{a g:Value}(X:K.In h)(aK:b1 K (.ref C) name=some (some a))(bP:sC K a "__get__"=some (some g))(df:A7 K a=some true):
  pY M h (U4 (.ref x) (.ref C) name) (.bind g a):=by
 have uw:=rk (M:=M) X aK;have ao:pY M h (asu (some a)) (some g):=PySem.W.looks_specialIn X bP;have cQ:=PySem.W.looks_takesIn (M:=M) X df;unfold U4;refine uw.andThen (ao.andThen ?_);have acn:pY M h (Ŷ (some a) (some g)) (some (g,a)):=by unfold Ŷ;refine cQ.andThen ?_;exact .now
 exact acn.andThen (PySem.W.Looks.tag .now)
theorem kS.some(c:kS K C):(FR K C).isSome=true:=by have h:=c.hm;unfold pZ at h;obtain⟨cd,a,_⟩:=Option.bind_eq_some_iff.mp h;rw[a];rfl
theorem aa4{fill expr:Bool}{a4:Tok}{Q:cx}(X:K.In s.heap)(c:kS K C)(I:q1 s.heap x C)(h:Q (.ref C) s):
  aO (a6 prog w) A (Nj (.ref x) (.str "__class__" a4) fill expr) Q E s:=by refine Ws X c I λiF=>uZ F.excAttr_ValueError.ga.plain F.entry_bexc_ga (ļ X c I ?_);have xA:=I.type (M:=a6 prog w);have uw:=aa3 (M:=a6 prog w) (x:=x) X c.aK c.aS c.Hd;obtain⟨dy,g,d,t,os⟩:=s;unfold Builtin.«object.__getattribute__»;have iT:slotArgs "__getattribute__" 1 ⟨[.ref x,.str (eH "__class__") a4],[]⟩=pure (.ref x,[.str (eH "__class__") a4]):=rfl;rw[iT];refine aw (bf ?_);dsimp only;have an:ŵ (.str (eH "__class__") a4)=pure (eH "__class__"):=rfl;rw[an];refine aw (bf (aw (xA.at (aw (uw.at ?_)))));dsimp only;unfold ass;show aO _ _ (lY [uL "object.__class__"] (call (uL "getset_descriptor.__get__") [uL "object.__class__",cy x,cy C]) >>=ret) _ _ _;refine aw (iD (pO (ab2 X I c.hm ?_)));refine bf ?_;show aO _ _ (ZS (.ref C)) _ _ _;exact bf h
theorem ae5{Q:Option Value->aC->Prop}(X:K.In s.heap)(c:kS K C)(I:q1 s.heap x C)(h:Q (some (.ref C)) {s with toks:=s.toks+1}):aO (a6 prog w) A (Ni (.ref x) "__class__") Q E s:=by unfold Ni getAttrBy?;refine aw (Tq (aw (zp ?_)));refine aa4 (s:={s with toks:=s.toks+1}) X c I ?_;exact bf h
end
end
open PySem PySem.Spec PyProof.Rows ao
theorem ab3{K:aU}{C:Addr}{M:k8}{h:Heap}(c:kS K C)(X:K.In h):pY M h (isType (.ref C)) true:=by
 obtain⟨cd,ax⟩:=uA.mp c.some;unfold FR at ax;split at ax
 .rename_i jK my YY MM aZ;intro A Q E s k q;unfold isType loadHead;exact aw (arI (k _ _ (X _ _ aZ)) (bf q))
 .cases ax
theorem DD{K:aU}{au C:Addr}(c:kS K C):PySem.W.KitX K (.ref au) (.ref C) (λh=>q1 h au C)where
 ty:=λ_ _ _ I=>I.type
 it:=λ_ _ X _=>ab3 c X
 ne:=λh c' dd its n bj X aoe=>by
  refine wM.mpr λq=>?_;have e:C=c':=Value.ref.inj (o9.mp q);subst e;obtain⟨cd,ax⟩:=uA.mp c.some;unfold FR at ax;split at ax
  .rename_i jK my YY MM aZ;have z:=(X _ _ aZ).symm.trans aoe;cases z
  .cases ax
 ca:=λX I k=>ae5 X c I k
section
variable{X:bb}
theorem atc:jU X (.builtin "isinstance") (λxs H Q=>∃(au C p:Addr)(cs:bS)(b:Bool),xs=[.ref au,.ref p]/\H au=some (ko au C)/\H p=some (.tup (cs.map V.ref))/\kS X.K C/\PySem.W.kitAny X.K (.ref C) (cs.map cy)=some b/\Q (.aM b) H):=by
 intro pins s σ H xs us Q I r h;obtain⟨au,C,p,cs,b,rfl,h_,aR,c,qx,q⟩:=h;obtain⟨u,eT,rfl,er,gQ⟩:=vals2 r;cases er;cases gQ;obtain⟨ty,_,_⟩:=(show ee X.prog X.w H s.heap au (ko au C)from I.a_ au _ h_)
 obtain⟨q7,its,b7,⟨l4,d4,apQ,oz⟩,aZ,ax,n,hd⟩:=(show ee X.prog X.w H s.heap p (.tup (cs.map V.ref))from I.a_ p _ aR)
 simp only at ax hd;subst ax hd;have el:its=cs.map cy:=by
  clear aZ aR qx q7
  induction cs generalizing its with
  |nil=>cases b7;rfl
  |cons lR cD a8=>
   cases b7 with
   |cons cg d5=>
    cases cg;rw[a8 _ d5];rfl
 rw[el]at aZ;exact PySem.W.kia_tup (DD c) I.ew ty aZ qx (λz=>nomatch z) λa4=>⟨.aM b,H,I.tok a4,rfl,q⟩
theorem Ia:jU X (.builtin "isinstance") (λxs H Q=>∃(au C:Addr)(b:Bool),H au=some (ko au C)/\kS X.K C/\((∃R,xs=[.ref au,.ref R]/\hZ X.K (.ref C) (.ref R)=some b)\/∃T,xs=[.ref au,.ty T]/\hZ X.K (.ref C) (.type T)=some b)/\Q (.aM b) H):=by
 intro pins s σ H xs us Q I r h;obtain⟨au,C,b,h_,c,jT,q⟩:=h;obtain⟨ty,_,_⟩:=(show ee X.prog X.w H s.heap au (ko au C)from I.a_ au _ h_)
 rcases jT with⟨R,rfl,qx⟩|⟨T,rfl,qx⟩
 .obtain⟨u,eT,rfl,er,gQ⟩:=vals2 r;cases er;cases gQ;exact mn (DD c) I.ew ty qx (λz=>nomatch z) λa4=>⟨.aM b,H,I.tok a4,rfl,q⟩
 .obtain⟨u,eT,rfl,er,gQ⟩:=vals2 r;cases er;cases gQ;exact mn (DD c) I.ew ty qx (λz=>nomatch z) λa4=>⟨.aM b,H,I.tok a4,rfl,q⟩
theorem Yb{k:Nat}{A:cW}(r:gc k A):A.units+65<cLine:=by have:=r.un;omega
inductive ah5(K:aU)(neg:Bool)(x:ao.V)(y:ao.V)(H:ae)(Q:a'):Prop where
 |mk (d:_) (ds:_) (bV:mc K H x d) (bD:mc K H y (.list ds)) (b_:p1 d=true) (c_:pX ds=true) (d1:Q (.aM (if neg then !(ds.any λz=>g_ z d)else ds.any λz=>g_ z d)) H)
noncomputable def ajC(K:aU)(neg:Bool):ha:=λx y H Q=>ah5 K neg x y H Q
theorem ab4{A:cW}{ds:fy}{d:PyData}(dN:p1 d=true)(b8:A.units+65<cLine):A.units+1+min (uB ds) d.depth<cLine:=by have af:=SeqAt.depth_of_shaped dN;have ai:min (uB ds) d.depth<=d.depth:=W9 _ _;omega
theorem Wm(b8:X.A.units+65<cLine):gD X (js .In) (ajC X.K false):=by intro pins s σ H x y v u Q I bz bG h;obtain⟨d,ds,hd,he,dN,dh,q⟩:=h;obtain⟨as,gB⟩:=vB I hd bz;obtain⟨bs,pF⟩:=vB I he bG;exact SeqAt.in_list_reads pF gB dh (SeqAt.canLay_of_shaped dN) (ab4 dN b8) ⟨.aM _,H,I,rfl,q⟩
end
end cQ
namespace dY
open PySem ao cQ
theorem gA:iY "len"=some (.builtin "len"):=by decide+kernel
theorem jr:iY "isinstance"=some (.builtin "isinstance"):=by decide+kernel
theorem JH:iY "all"=some (.builtin "all"):=by decide+kernel
theorem Ji:iY "int"=some (.type "int"):=by decide+kernel
theorem TL:iY "bool"=some (.type "bool"):=by decide+kernel
theorem agC:iY "str"=some (.type "str"):=by decide+kernel
theorem oc:iY "list"=some (.type "list"):=by decide+kernel
theorem yC:iY "tuple"=some (.type "tuple"):=by decide+kernel
theorem agD:iY "set"=some (.type "set"):=by decide+kernel
theorem ars:iY "ValueError"=some (.type "ValueError"):=by decide+kernel
structure gg(mg:cB):Prop where
 len:mg "len"=none
 range:mg "range"=none
 isinstance:mg "isinstance"=none
 MB:mg "all"=none
 int:mg "int"=none
 bool:mg "bool"=none
 str:mg "str"=none
 list:mg "list"=none
 tuple:mg "tuple"=none
 aqC:mg "set"=none
 ValueError:mg "ValueError"=none
 enumerate:mg "enumerate"=none
 max:mg "max"=none
 min:mg "min"=none
 sum:mg "sum"=none
 ate:mg "any"=none
 dict:mg "dict"=none
 sorted:mg "sorted"=none
 zip:mg "zip"=none
structure dJ(K:aU)(mg:cB)(x:Str)(st:Stmt)(ps:cf)(f:Addr)(fd:cz):Prop where
 fn:bw K x x st f fd
 at_:mg x=some (.ref f)
 bd:Binds K fd ps []
structure c0(K:aU)(C:Addr)(m qual:Str)(st:Stmt)(ps:cf)(f:Addr)(fd:cz):Prop where
 fn:bw K m qual st f fd
 eh:Meth K C m f
 bd:Binds K fd ps []
structure rg(K:aU)(C:Addr)(qual:Str)(st:Stmt)(ps:cf)(f:Addr)(fd:cz):Prop where
 fn:bw K "__init__" qual st f fd
 made:nR K C f
 bd:Binds K fd ps []
noncomputable def q_(mg:cB)(x:Str)(i:Int):Prop:=∃t,mg x=some (.int i t)
theorem tk{X:bb}{x:Str}{i:Int}{pos:Pos}(bP:iV X x)(h:q_ X.mg x i)(hd:(x==("__debug__":Str))=false:=by decide):bh X (.Name x pos) (r4 (.int i)):=by obtain⟨t,e⟩:=h;exact VF bP e ⟨t,rfl⟩ hd
theorem lp{X:bb}{x:Str}{T:String}{pos:Pos}(bP:iV X x)(hm:X.mg x=none)(bC:iY x=some (.type T))(aS:x≠"__name__":=by decide)(hd:(x==("__debug__":Str))=false:=by decide):bh X (.Name x pos) (r4 (.ty T)):=
 ad1 (v:=.ty T) bP hm bC rfl aS hd
theorem Jj{X:bb}{x:Str}{C:Addr}{pos:Pos}(bP:iV X x)(hm:X.mg x=some (.ref C))(hd:(x==("__debug__":Str))=false:=by decide):bh X (.Name x pos) (r4 (.ref C)):=
 VF (v:=.ref C) bP hm rfl hd
theorem IQ{dc:TI}{cs:k_}{b0:TE}{σ rest:ao.St}{H H1:ae}{Q:a'}{J:fT}{xs:aY}(hw:∀R:fT->ae->Prop,R J H1->dc σ H R)(h9:ia cs σ=none::rest)(dI:nY J H1 xs)(aj:xs.length<sizeLine)(f:ao.V->ao.V)(elt:∀(i:Nat)(x:ao.V)(ah:ae)(R:a'),xs[i]?=some x->aN H1 ah->(∀bx,aN ah bx->R (f x) bx)->b0 (some x::rest) ah R)(fin:∀(D:Addr)(H':ae),H1 D=none->H' D=some (.lst (xs.map f))->aN H1 H'->Q (.ref D) H'):nF dc cs (hJ 0) se b0 σ H Q:=hw _ (af8 h9 dI aj f elt fin)
theorem Wn{dc:TI}{cs:k_}{tt:TT}{b0:TE}{σ rest:ao.St}{H H1:ae}{Q:a'}{J:fT}{xs:aY}(hw:∀R:fT->ae->Prop,R J H1->dc σ H R)(h9:ia cs σ=none::rest)(dI:nY J H1 xs)(aj:xs.length<sizeLine)(p:ao.V->Bool)(f:ao.V->ao.V)(test:∀(i:Nat)(x:ao.V)(ah:ae)(R:Bool->ae->Prop),xs[i]?=some x->aN H1 ah->(∀bx,aN ah bx->R (p x) bx)->tt (some x::rest) ah R)(elt:∀(i:Nat)(x:ao.V)(ah:ae)(R:a'),xs[i]?=some x->p x=true->aN H1 ah->(∀bx,aN ah bx->R (f x) bx)->b0 (some x::rest) ah R)(fin:∀(D:Addr)(H':ae),H1 D=none->H' D=some (.lst ((xs.filter p).map f))->aN H1 H'->Q (.ref D) H'):nF dc cs (hJ 0) tt b0 σ H Q:=hw _ (Ke h9 dI aj p f test elt fin)
theorem EM(K:aU)(t:String):hZ K (.type t) (.type t)=some true:=by unfold hZ;exact bL (by simp)
theorem wA{X:bb}:pn (d9 X.prog X.w) X ra:=by rintro pins σ H s e s' I ⟨_,_,_,_,_,_,_,z⟩;exact z.elim
theorem lq{cl big:List (Str×Addr)}(h:∀p∈cl,big.lookup p.1=some p.2)(x:Str)(c:Addr)(e:cl.lookup x=some c):big.lookup x=some c:=by
 induction cl with
 |nil=>cases e
 |cons p r a8=>
  obtain⟨y,d⟩:=p;rw[List.lookup_cons]at e;by_cases aa:(x==y)=true
  .rw[aa]at e;cases e;have:=h (y,c) (su ..);rw[show x=y from eq_of_beq aa];exact this
  .rw[Bool.not_eq_true]at aa;rw[aa]at e;exact a8 (λp aR=>h p (mm _ aR)) e
end dY
namespace dp
open PySem
noncomputable def ī:Nat->Int->List Nat
 |0,_=>[]
 |k+1,n=>(97+(n%26).toNat)::ī k (n/26)
noncomputable def Yl(c:Int):Int:=c*1099087573%10000000000037
noncomputable def X2(c:Int):Nat:=(1+Yl c%7).toNat
noncomputable def X3(c:Int):List Nat:=ī (X2 c) (Yl c/7)
noncomputable def AQ(l:dH):Prop:=1<=l.length/\l.length<=8/\∀x∈l,97<=x/\x<=122
noncomputable def atQ:List Nat:=[107,99,120,113,97,109,122,102,116,98,106,101]
noncomputable def ZU(c:Int):Nat:=(c%((X2 c:Int)+1)).toNat
noncomputable def fc(c:Int)(l:Nat):List Nat:=(X3 c).take (ZU c)++l::(X3 c).drop (ZU c)
structure gm where
 a:Nat
 b:Nat
 t:Int
 m:Int
abbrev bZ:= List gm
noncomputable def Ax(c:Int):Int:=c*48271%2147483647
noncomputable def Ym(n:Nat)(c:Int):Int:=Ax c%n
noncomputable def ajD(n:Nat)(c:Int):Int:=(Ym n c+1+Ax c/12%((n:Int)-1))%n
noncomputable def ah6(c:Int):Int:=if Ax c/432%5=1 then 1+c%10 ^ 9 else 1+Ax c/144%3
noncomputable def ah7(l:Int)(c:Int):Int:=1+Ax c/2160%l
noncomputable def rd(n:Nat)(c:Int):gm:=⟨(Ym n c).toNat,(ajD n c).toNat,ah7 9 c,ah6 c⟩
structure gm.Ok(r:gm)(n:Nat):Prop where
 a:r.a<n
 b:r.b<n
 ne:r.a≠r.b
 t:1<=r.t/\r.t<=9
 m:1<=r.m/\r.m<=1000000000
end dp
namespace dY
open PySem ao cQ dp
section
variable{P:bJ}{w:bq}{K:aU}{mg:cB}{base:Heap}
noncomputable abbrev S(l:dH):Str:=⟨l.toArray⟩
theorem ae6{ns:gX}{k:Int}(h0:0<=k)(af:k<(ns.map V.int).length):hb (ns.map V.int) k=some (V.int (ns.getD k.toNat 0)):=by
 have ai:k.toNat < ns.length:=by rw[bp]at af;omega
 have e:(ns.map V.int)[k.toNat]?=some (V.int (ns.getD k.toNat 0)):=by rw[c6,dn ai];simp[eJ,ai]
 have:=iI e
 rwa [ur h0]at this
inductive ah8(K:aU)(vs:aY)(H:ae)(Q:a')(bI:b2):Prop where
 |mk (a:Addr) (ns:gX) (k:Int) (bV:vs=[.ref a,.int k]) (bD:aG K H a (ns.map V.int)) (b_:0<=k) (c_:Q (.int (ns.getD k.toNat 0)) H)
noncomputable def K'(K:aU):cG:=λvs H Q bI=>ah8 K vs H Q bI
theorem ū:(eH "abcdefghijklmnopqrstuvwxyz").cps.toList=(d_ 26).map (97+·):=by decide+kernel
theorem ab5{i:Int}(h0:0<=i)(af:i<26):hb (eH "abcdefghijklmnopqrstuvwxyz").cps.toList i=some (97+i.toNat):=by
 have e:(eH "abcdefghijklmnopqrstuvwxyz").cps.toList[i.toNat]?=some (97+i.toNat):=by rw[ū,c6,acC (by omega)];rfl
 have:=iI e
 rwa [ur h0]at this
theorem wB(a b:dH):S a++S b=S (a++b):=by show Str.append _ _=_;simp[Str.append,S]
theorem qJ(a:dH):(S a).length=a.length:=by simp[S,Str.length]
noncomputable def cE(hs:br):List ao.V:=hs.map λl=>V.str (S l)
theorem TM(hs:br):cE hs=(hs.map S).map V.str:=by simp[cE]
theorem VR(l:dH):signs (S l)=l.map λc=>V.str (S [c]):=by simp[signs,S]
noncomputable def lB(hs:br)(r:dp.gm):List ao.V:=[.str (S (hs.getD r.a [])),.str (S (hs.getD r.b [])),.int r.t,.int r.m]
noncomputable def d7(H:ae):List Addr->List aY->Prop:=bk λr d=>H r=some (.tup d)
theorem d7.same{H H':ae}(aF:aN H H'){rs ds}(h:d7 H rs ds):d7 H' rs ds:=bk.e2 h λ_ _ e=>aF _ _ e
noncomputable def aH(rs:bS):List ao.V:=rs.map V.ref
theorem Paired.snoc{α β:Type}{F:α->β->Prop}{x:α}{y:β}(q:F x y):∀{l:List α}{m:List β},bk F l m->bk F (l++[x]) (m++[y])
 |_,_,.nil=>.cons q .nil
 |_,_,.cons r t=>.cons r (Paired.snoc q t)
theorem Wy{hs:br}{k:Int}(h0:0<=k)(af:k<hs.length):hb (cE hs) k=some (V.str (S (hs.getD k.toNat []))):=by
 have ai:k.toNat < hs.length:=by omega
 have e:(cE hs)[k.toNat]?=some (V.str (S (hs.getD k.toNat []))):=by unfold cE;rw[c6,dn ai];simp[eJ,ai]
 have:=iI e
 rwa [ur h0]at this
theorem IS(hs:br):(cE hs).length=hs.length:=bp ..
theorem kc{H H':ae}{p:Addr}{o:ed}(aR:H p=none)(aF:aN H H'):aN H (upd H' p o):=λb u e=>by rw[aA (bW e aR)];exact aF b u e
theorem d7.upd{H:ae}{p:Addr}{o u:ed}{rs ds}(h:d7 H rs ds)(e:H p=some u)(b8:∀d,u≠.tup d):d7 (upd H p o) rs ds:=bk.e2 h λr d q=>by
 rw[aA]
 .exact q
 .rintro rfl;rw[e]at q;exact b8 d (hY q)
theorem ru(rs:bS)(t:Addr):aH rs++[V.ref t]=aH (rs++[t]):=by simp[aH]
theorem eB(rs:bS):(aH rs).length=rs.length:=bp ..
theorem d7.len{H rs ds}(h:d7 H rs ds):rs.length=ds.length:=gE h
theorem bU{H:ae}{t:Addr}{o:ed}(df:H t=none):aN H (upd H t o):=λb u e=>by rw[aA (bW e df)];exact e
theorem fu{b:Bool}{A B:Prop}(h:b=true)(q:A):if b=true then A else B:=by rw[bL h];exact q
theorem ek{b:Bool}{A B:Prop}(h:b=false)(q:B):if b=true then A else B:=by subst h;exact q
theorem nt{R:a'}{b:Bool}{H:ae}(e:b=true)(h:R (.aM true) H):R (.aM b) H:=by rw[e];exact h
theorem Tb(xs:aY):xs.map (λ_=>V.aM true)=(AI xs.length true).map V.aM:=by
 induction xs with
 |nil=>rfl
 |cons x r a8=>simp[List.replicate_succ,a8]
theorem Tc(n:Nat):(AI n true).all id=true:=by rw[Fv];intro x av;exact(List.mem_replicate.mp av).2
structure Wv(K:aU):Prop where
 Pj:hZ K (.type "int") (.type "bool")=some false
inductive acr(vs:aY)(H:ae)(Q:a')(bI:b2):Prop where
 |mk (i:Int) (bV:vs=[.int i]) (bD:Q (.aM true) H)
noncomputable def TN:cG:=λvs H Q bI=>acr vs H Q bI
inductive abF(vs:aY)(H:ae)(Q:a')(bI:b2):Prop where
 |mk (i a b:Int) (bV:vs=[.int i,.int a,.int b]) (bD:a<=i) (b_:i<=b) (c_:Q (.aM true) H)
noncomputable def SU:cG:=λvs H Q bI=>abF vs H Q bI
inductive acs(vs:aY)(H:ae)(Q:a')(bI:b2):Prop where
 |mk (r:Addr) (xs:aY) (n:Int) (bV:vs=[.ref r,.int n]) (bD:H r=some (.tup xs)) (b_:(xs.length:Int)=n) (c_:Q (.aM true) H)
noncomputable def TO:cG:=λvs H Q bI=>acs vs H Q bI
theorem RB(ys:cf):(ys.map V.str).all qH=true:=by rw[Fv];intro x av;obtain⟨y,_,rfl⟩:=cn.mp av;rfl
theorem TP{ys:cf}{x:Str}(h:x∈ys):qt (.str x) (ys.map V.str)=true:=by unfold qt;rw[pT];exact⟨.str x,cn.mpr ⟨x,h,rfl⟩,by show(x==x)=true;exact beq_self_eq_true x⟩
inductive abG(K:aU)(vs:aY)(H:ae)(Q:a')(bI:b2):Prop where
 |mk (a:Addr) (ys:cf) (x y:Str) (bV:vs=[.ref a,.str x,.str y]) (bD:aG K H a (ys.map V.str)) (b_:x∈ys) (c_:y∈ys) (d1:x≠y) (fw:Q (.aM true) H)
noncomputable def SV(K:aU):cG:=λvs H Q bI=>abG K vs H Q bI
theorem aqv:eH "a"=⟨#[97]⟩:=by decide+kernel
theorem aqw:eH "z"=⟨#[122]⟩:=by decide+kernel
inductive ae7(vs:aY)(H:ae)(Q:a')(bI:b2):Prop where
 |mk (l:dH) (bV:vs=[.str (S l)]) (bD:AQ l) (b_:∀H',aN H H'->Q (.aM true) H')
noncomputable def JI:cG:=λvs H Q bI=>ae7 vs H Q bI
structure AA(mg:cB):Prop where
 acU:q_ mg "MOST_HOUSES" 12
 acW:q_ mg "MOST_ROADS" 40
 acY:q_ mg "MOST_SIGNS" 8
 ac0:q_ mg "MOST_TURNS" 9
 acX:q_ mg "MOST_ROOM" 1000000000
theorem tY{a b:dH}(h:S a=S b):a=b:=by have:=hh (λx=>x.cps.toList) h;simpa[S]using this
theorem ae8{hs:br}(h:hs.Nodup):∀i j,i<j->j<(hs.map S).length->(hs.map S).getD i mr≠(hs.map S).getD j mr:=by
 intro i j N2 bK e;rw[bp]at bK;have ar:i<hs.length:=by omega
 rw[eJ,eJ,c6,c6,dn ar,dn bK]at e;have aB:=tY (show S hs[i]=S hs[j]from e);exact Kq.mp h i j ar bK N2 aB
structure Good(hs:br):Prop where
 nm:∀x∈hs,AQ x
 aJ:hs.Nodup
 eE:hs.length<=12
inductive ae9(vs:aY)(H:ae)(Q:a')(bI:b2):Prop where
 |mk (a:Addr) (hs:br) (bV:vs=[.ref a]) (bD:H a=some (.lst (cE hs))) (b_:Good hs) (c_:∀H',aN H H'->Q (.aM true) H')
noncomputable def JJ:cG:=λvs H Q bI=>ae9 vs H Q bI
theorem bk.get{α β:Type}{F:α->β->Prop}:∀{l:List α}{m:List β}{i:Nat}{x:α},bk F l m->l[i]?=some x->∃y,m[i]?=some y/\F x y
 |_,_,_,_,.nil,e=>by simp at e
 |_,_,0,_,.cons r _,e=>by simp at e;subst e;exact⟨_,rfl,r⟩
 |_,_,i+1,x,.cons _ t,e=>by obtain⟨y,af,ai⟩:=bk.get (i:=i) (x:=x) t (by simpa using e);exact⟨y,by simpa using af,ai⟩
structure iJ(H:ae)(hs:br)(rs:bS)(ds:bZ):Prop where
 hv:d7 H rs (ds.map (lB hs))
 ok:∀d∈ds,d.Ok hs.length
theorem iJ.same{H H':ae}{hs rs ds}(r:iJ H hs rs ds)(aF:aN H H'):iJ H' hs rs ds:=⟨r.hv.same aF,r.ok⟩
theorem iJ.get{H:ae}{hs rs ds}{i:Nat}{r:Addr}(q:iJ H hs rs ds)(e:rs[i]?=some r):∃d,ds[i]?=some d/\d.Ok hs.length/\H r=some (.tup (lB hs d)):=by obtain⟨y,af,ai⟩:=bk.get q.hv e;rw[c6]at af;obtain⟨d,hd,rfl⟩:=fL.mp af;exact⟨d,hd,q.ok d (eK hd),ai⟩
theorem iJ.len{H:ae}{hs rs ds}(q:iJ H hs rs ds):rs.length=ds.length:=by
 have:=q.hv.len
 rwa [bp]at this
theorem y5{hs:br}{a:Nat}(h:a<hs.length):S (hs.getD a [])∈hs.map S:=by refine cn.mpr ⟨hs.getD a [],?_,rfl⟩;rw[eJ,dn h];exact so h
theorem ah9{hs:br}{a b:Nat}(aJ:hs.Nodup)(aK:a<hs.length)(aa:b<hs.length)(ne:a≠b):S (hs.getD a [])≠S (hs.getD b []):=by
 intro e;have aB:=tY e;rw[eJ,eJ,dn aK,dn aa]at aB;rcases Nat.lt_or_gt_of_ne ne with h|h
 .exact Kq.mp aJ a b aK aa h aB
 .exact Kq.mp aJ b a aa aK h aB.symm
inductive afa(K:aU)(vs:aY)(H:ae)(Q:a')(bI:b2):Prop where
 |mk (a r:Addr) (hs:br) (d:dp.gm) (bV:vs=[.ref a,.ref r]) (bD:aG K H a (cE hs)) (b_:hs.Nodup) (c_:d.Ok hs.length) (d1:H r=some (.tup (lB hs d))) (fw:Q (.aM true) H)
noncomputable def JO(K:aU):cG:=λvs H Q bI=>afa K vs H Q bI
inductive afb(K:aU)(vs:aY)(H:ae)(Q:a')(bI:b2):Prop where
 |mk (a b:Addr) (hs:br) (rs:bS) (ds:bZ) (bV:vs=[.ref a,.ref b]) (bD:aG K H a (cE hs)) (b_:hs.Nodup) (c_:H b=some (.lst (aH rs))) (d1:iJ H hs rs ds) (fw:rs.length<=40) (iE:∀H',aN H H'->Q (.aM true) H')
noncomputable def JP(K:aU):cG:=λvs H Q bI=>afb K vs H Q bI
noncomputable def SameBut(x:Addr)(H H':ae):Prop:=∀b o,b≠x->H b=some o->H' b=some o
noncomputable def Yn(a b:Addr):List (Str×ao.V):=[("kept_houses",.ref a),("kept_roads",.ref b)]
structure sf(K:aU)(C:Addr):Prop where
 cl:fp K C
 tE:tC K C "kept_houses"
 jj:tC K C "kept_roads"
inductive afc(K:aU)(C:Addr)(vs:aY)(H:ae)(Q:a')(bI:b2):Prop where
 |mk (x ag a b:Addr) (hs:br) (rs:bS) (ds:bZ) (bV:vs=[.ref x,.ref a,.ref b]) (bD:H x=some (.ins C ag [])) (b_:H a=some (.lst (cE hs))) (c_:Good hs) (d1:H b=some (.lst (aH rs))) (fw:iJ H hs rs ds) (iE:rs.length<=40) (k4:∀(H':ae)(bt bu:Addr),SameBut x H H'->H' x=some (.ins C ag (Yn bt bu))->H' bt=some (.lst (cE hs))->H' bu=some (.lst (aH rs))->H bt=none->H bu=none->Q .bl H')
noncomputable def JQ(K:aU)(C:Addr):cG:=λvs H Q bI=>afc K C vs H Q bI
structure jV(C:Addr)(H:ae)(x bt bu:Addr)(xs ys:aY):Prop where
 ins:∃ag,H x=some (.ins C ag (Yn bt bu))
 vt:H bt=some (.lst xs)
 qO:H bu=some (.lst ys)
theorem jV.same{C:Addr}{H H':ae}{x bt bu:Addr}{xs ys:aY}(n:jV C H x bt bu xs ys)(aF:aN H H'):jV C H' x bt bu xs ys:=
 let⟨ag,h⟩:=n.ins
 ⟨⟨ag,aF _ _ h⟩,aF _ _ n.vt,aF _ _ n.qO⟩
inductive aau(C:Addr)(vs:aY)(H:ae)(Q:a')(bI:b2):Prop where
 |mk (x bt bu:Addr) (xs ys:aY) (bV:vs=[.ref x]) (bD:jV C H x bt bu xs ys) (b_:∀l,H l=none->Q (.ref l) (upd H l (.lst xs)))
noncomputable def Dp(C:Addr):cG:=λvs H Q bI=>aau C vs H Q bI
inductive abH(C:Addr)(vs:aY)(H:ae)(Q:a')(bI:b2):Prop where
 |mk (x bt bu:Addr) (xs ys:aY) (bV:vs=[.ref x]) (bD:jV C H x bt bu xs ys) (b_:∀l,H l=none->Q (.ref l) (upd H l (.lst ys)))
noncomputable def SW(C:Addr):cG:=λvs H Q bI=>abH C vs H Q bI
inductive acu(C R:Addr)(vs:aY)(H:ae)(Q:a')(E:b2):Prop where
 |mk (x bt bu:Addr) (xs ys:aY) (k:Int) (bV:vs=[.ref x,.int k]) (bD:jV C H x bt bu xs ys) (b_:(0<=k/\k<ys.length->∃v,hb ys k=some v/\Q v H)) (c_:(¬(0<=k/\k<ys.length)->E (.ref R) none H))
noncomputable def TQ(C R:Addr):cG:=λvs H Q E=>acu C R vs H Q E
noncomputable def bN(hs:br):List PyData:=(hs.map S).map PyData.str
theorem Io{l:dH}(h:AQ l):oZ (.str (S l))=true:=by simp only[oZ,Xr,S];rw[ũ];intro x av;have:=h.2.2 x (by simpa using av);exact cq (by omega)
theorem D3{ds:fy}(h:∀d∈ds,d.canLay0=true):pX ds=true:=by
 induction ds with
 |nil=>rfl
 |cons d r a8=>
  simp only[pX,jD];exact⟨h d (su ..),a8 λe he=>h e (mm _ he)⟩
theorem Ib{ds:fy}{n:Nat}(h:∀d∈ds,d.depth<=n):uB ds<=n:=by
 induction ds with
 |nil=>exact e4 _
 |cons d r a8=>
  simp only[uB];exact Nat.max_le.mpr ⟨h d (su ..),a8 λe he=>h e (mm _ he)⟩
theorem vy{d:PyData}{n:Nat}(af:d.canLay0=true)(ai:d.depth<=n)(bR:n<=64):p1 d=true:=by unfold p1;rw[af,cq (e3 ai bR)];rfl
theorem IT{d:PyData}(h:d.canLay0=true):(if true=true then !g_ d d else g_ d d)=false:=by rw[yA d h];rfl
theorem VT{rs:bS}{i:Nat}{r:Addr}(e:rs[i]?=some r):hb (aH rs) ((0:Int)+(i:Int))=some (V.ref r):=by rw[pR];refine iI ?_;unfold aH;rw[c6,e];rfl
theorem RC{b3 dV:ae}{x ag:Addr}{o u:ed}(av:b3 x=none)(hd:b3 ag=none)(b':SameBut x (upd (upd b3 ag o) x u) dV):aN b3 dV:=λb v e=>by have dt:=bW e av;have dC:=bW e hd;refine b' b v dt ?_;rw[aA dt,aA dC];exact e
inductive agE(K:aU)(vs:aY)(H:ae)(Q:a')(bI:b2):Prop where
 |mk (a:Addr) (ns:gX) (bV:vs=[.ref a]) (bD:aG K H a (ns.map V.int)) (b_:ns.length<=63) (c_:∀H',Q (.aM true) H')
noncomputable def Fb(K:aU):cG:=λvs H Q bI=>agE K vs H Q bI
noncomputable def Jk(cd:ue)(bj:jI)(C R:Addr):Bool:=match cd.mro,bj.toList with
  |.ref zU::bm,[_,_,_,_,some (.builtin _),_]=>zU==C&&!cd.hasDel&&bm.contains (.type "BaseException")&&(cy C::bm).contains (.ref R)
  |_,_=>false
theorem RE{K:aU}{C R:Addr}{dd:Option Addr}{cd:ue}{bj:jI}(l:K.lookup C=some ⟨.type "type",dd,.cls cd,bj⟩)(h:Jk cd bj C R=true):jx K C R=true:=by unfold jx;rw[l];exact h
theorem agF(K:aU):hZ K (.type "int") (.type "bool")=some false:=by show(if(sF "int"==sF "bool")=true then some true else if KY "bool"=true then(amH "int").map (·.contains (.type "bool"))else none)=some false;decide+kernel
noncomputable def ti(ns:gX):PyData:=.list (ns.map FO)
theorem Wz(ns:gX):(ti ns).canLay0=true:=D3 λd hd=>by obtain⟨x,_,rfl⟩:=cn.mp hd;rfl
theorem UQ(ns:gX):(ti ns).depth<=1:=by
 unfold ti;simp only[PyData.depth];exact KA (Ib λe he=>by
  obtain⟨x,_,rfl⟩:=cn.mp he;exact cj _)
theorem UR{K:aU}{H:ae}:∀ns:List Int,oS K H (ns.map V.int) (ns.map FO)
 |[]=>.nil
 |x::r=>.cons (.int x) (UR r)
theorem VU{K:aU}{H:ae}{a:Addr}{ns:gX}(h:aG K H a (ns.map V.int)):mc K H (.ref a) (ti ns):=.lst h (UR ns)
theorem ne_int{i j:Int}(h:i≠j):decide (V.int i=V.int j)=false:=dF λz=>h (V.int.inj z)
theorem Ġ(n:Nat)(q:Nat->Bool):(((d_ n).map λi:Nat=>V.int ((0:Int)+(i:Int))).filter λv=>match v with|.int k=>q k.toNat|_=>false).map (λv=>v)=(((d_ n).filter q).map λi:Nat=>(i:Int)).map V.int:=by
 rw[Km,AB,jH];have e:(λi:Nat=>V.int ((0:Int)+(i:Int)))=(V.int∘λi:Nat=>(i:Int)):=by funext i;show V.int (0+(i:Int))=V.int (i:Int);rw[pR]
 have aB:((λv:ao.V=>match v with|.int k=>q k.toNat|_=>false)∘λi:Nat=>V.int ((0:Int)+(i:Int)))=q:=by funext i;show q ((0:Int)+(i:Int)).toNat=q i;congr 1;omega
 rw[aB,e]
noncomputable def top(i:Nat):Stmt:=asH.main.body.getD i (.Pass ⟨0,0,0,0⟩)
mutual
inductive dm(H:ae):ao.V->PyData->Prop
 |bl:dm H .bl .none
 |aM (b:Bool):dm H (.aM b) (.bool b)
 |int (i:Int):dm H (.int i) (.int i)
 |str (x:Str) (z:x.length<=100) (ok:Xr x=true):dm H (.str x) (.str x)
 |lst {a:Addr} {xs:aY} {ds:fy}:H a=some (.lst xs)->xs.length<=100->eL H xs ds->dm H (.ref a) (.list ds)
 |tup {a:Addr} {xs:aY} {ds:fy}:H a=some (.tup xs)->xs.length<=100->eL H xs ds->dm H (.ref a) (.tuple ds)
inductive eL(H:ae):List ao.V->List PyData->Prop
 |nil:eL H [] []
 |cons {v:ao.V} {d:PyData} {vs:aY} {ds:fy}:dm H v d->eL H vs ds->eL H (v::vs) (d::ds)
end
mutual
theorem dm.same{H H':ae}(aF:aN H H'):∀{v:ao.V}{d:PyData},dm H v d->dm H' v d
 |_,_,.bl=>.bl
 |_,_,.aM b=>.aM b
 |_,_,.int i=>.int i
 |_,_,.str x z ok=>.str x z ok
 |_,_,.lst h z t=>.lst (aF _ _ h) z (eL.same aF t)
 |_,_,.tup h z t=>.tup (aF _ _ h) z (eL.same aF t)
theorem eL.same{H H':ae}(aF:aN H H'):∀{vs:aY}{ds:fy},eL H vs ds->eL H' vs ds
 |_,_,.nil=>.nil
 |_,_,.cons a b=>.cons (dm.same aF a) (eL.same aF b)
end
end
mutual
theorem dm.lh{K:aU}{H:ae}:∀{v:ao.V}{d:PyData},dm H v d->mc K H v d
 |_,_,.bl=>.bl
 |_,_,.aM b=>.aM b
 |_,_,.int i=>.int i
 |_,_,.str x z ok=>.str x
 |_,_,.lst h z t=>.lst (aG.of h) (eL.lh t)
 |_,_,.tup h z t=>.tup (cH.of h) (eL.lh t)
theorem eL.lh{K:aU}{H:ae}:∀{vs:aY}{ds:fy},eL H vs ds->oS K H vs ds
 |_,_,.nil=>.nil
 |_,_,.cons a b=>.cons (dm.lh a) (eL.lh b)
end
mutual
theorem dm.m8{H:ae}:∀{v:ao.V}{d:PyData},dm H v d->d.canLay0=true
 |_,_,.bl=>rfl
 |_,_,.aM b=>rfl
 |_,_,.int i=>rfl
 |_,_,.str x z ok=>ok
 |_,_,.lst h z t=>eL.m8 t
 |_,_,.tup h z t=>eL.m8 t
theorem eL.m8{H:ae}:∀{vs:aY}{ds:fy},eL H vs ds->pX ds=true
 |_,_,.nil=>rfl
 |_,_,.cons a b=>by simp only[pX,jD];exact⟨dm.m8 a,eL.m8 b⟩
end
mutual
theorem dm.inj{H:ae}:∀{v:ao.V}{d e:PyData},dm H v d->dm H v e->d=e
 |_,_,_,.bl,.bl=>rfl
 |_,_,_,.aM b,.aM _=>rfl
 |_,_,_,.int i,.int _=>rfl
 |_,_,_,.str x _ _,.str _ _ _=>rfl
 |_,_,_,.lst h _ t,.lst h' _ t'=>by rw[h]at h';cases h';rw[eL.inj t t']
 |_,_,_,.tup h _ t,.tup h' _ t'=>by rw[h]at h';cases h';rw[eL.inj t t']
 |_,_,_,.lst h _ _,.tup h' _ _=>by rw[h]at h';cases h'
 |_,_,_,.tup h _ _,.lst h' _ _=>by rw[h]at h';cases h'
theorem eL.inj{H:ae}:∀{vs:aY}{ds es:fy},eL H vs ds->eL H vs es->ds=es
 |_,_,_,.nil,.nil=>rfl
 |_,_,_,.cons a b,.cons bt bu=>by rw[dm.inj a bt,eL.inj b bu]
end
theorem eL.len{H:ae}:∀{vs:aY}{ds:fy},eL H vs ds->vs.length=ds.length
 |_,_,.nil=>rfl
 |_,_,.cons _ b=>by simp[eL.len b]
theorem eL.get{H:ae}:∀{vs:aY}{ds:fy}{i:Nat}{v:ao.V},eL H vs ds->vs[i]?=some v->∃d,ds[i]?=some d/\dm H v d
 |_,_,_,_,.nil,e=>by simp at e
 |_,_,0,_,.cons a _,e=>by simp at e;subst e;exact⟨_,rfl,a⟩
 |_,_,i+1,v,.cons _ b,e=>by obtain⟨d,af,ai⟩:=eL.get (i:=i) (v:=v) b (by simpa using e);exact⟨d,by simpa using af,ai⟩
open Classical in
noncomputable def F9(H:ae)(v:ao.V):PyData:=if h:∃d,dm H v d then aaa h else .none
theorem US{H:ae}{v:ao.V}{d:PyData}(h:dm H v d):F9 H v=d:=by
 have q:∃d,dm H v d:=⟨d,h⟩
 unfold F9;rw[dif_pos q];exact dm.inj (JA q) h
noncomputable def wm:PyData->String
 |.none=>"NoneType"
 |.bool _=>"bool"
 |.int _=>"int"
 |.str _=>"str"
 |.list _=>"list"
 |.tuple _=>"tuple"
 |.dict _=>"dict"
theorem dm.ty{K:aU}{H:ae}{v:ao.V}{d:PyData}(h:dm H v d):mO K H v (.type (wm d)):=by
 cases h with
 |bl=>exact .bl
 |aM b=>exact .aM b
 |int i=>exact .int i
 |str x _ _=>exact .str x
 |lst h _ _=>exact .lst h
 |tup h _ _=>exact .tup h
noncomputable def uh(t c:String):Option Bool:=if(sF t==sF c)=true then some true else if KY c=true then(amH t).map (·.contains (.type c))else none
theorem Fc(K:aU){t c:String}{b:Bool}(h:uh t c=some b):hZ K (.type t) (.type c)=some b:=h
noncomputable def isTup:PyData->Bool|.tuple _=>true|_=>false
noncomputable def isBool:PyData->Bool|.bool _=>true|_=>false
noncomputable def WQ:PyData->Bool|.int _=>true|.bool _=>true|_=>false
theorem acJ(d:PyData):uh (wm d) "tuple"=some (isTup d):=by cases d<;>(show uh _ _=some _;simp only[wm,isTup];decide+kernel)
theorem Vu(d:PyData):uh (wm d) "bool"=some (isBool d):=by cases d<;>(show uh _ _=some _;simp only[wm,isBool];decide+kernel)
theorem agG(d:PyData):uh (wm d) "int"=some (WQ d):=by cases d<;>(show uh _ _=some _;simp only[wm,WQ];decide+kernel)
noncomputable def acK:PyData->Bool
 |.int _=>true
 |_=>false
noncomputable def D4(lo ar:Int):PyData->Bool
 |.int i=>decide (lo<=i)&&decide (i<=ar)
 |_=>false
noncomputable def inD(d:PyData)(ds:fy):Bool:=ds.any λz=>g_ z d
noncomputable def hc(hs:fy)(a b:PyData):Bool:=inD a hs&&inD b hs&&!g_ a b
end dY
namespace dY
open PySem PySem.Spec PyProof.Rows ao cQ dp
structure FN where
 p:ae->ao.V->Prop
 up:∀{H H':ae}{v:ao.V},aN H H'->p H v->p H' v
noncomputable def alY(d:PyData):FN:=⟨λH v=>dm H v d,λaF h=>h.same aF⟩
noncomputable def zd(K:aU)(xs:aY):FN:=⟨λH v=>∃a,v=.ref a/\aG K H a xs,λaF⟨a,e,h⟩=>⟨a,e,aF.seq h⟩⟩
section
variable{X:bb}{e a b:Expr}{es:gG}{pos gP:Pos}{wL:List (Option FN)}{A B R:FN}
theorem agH{H v i}(h:dm H v (.int i)):v=.int i:=by cases h;rfl
theorem JR{H v ds}(h:dm H v (.list ds)):∃a xs,v=.ref a/\H a=some (.lst xs)/\xs.length<=100/\eL H xs ds:=by cases h;exact⟨_,_,rfl,by assumption,by assumption,by assumption⟩
theorem WS{H v ds}(h:dm H v (.tuple ds)):∃a xs,v=.ref a/\H a=some (.tup xs)/\xs.length<=100/\eL H xs ds:=by cases h;exact⟨_,_,rfl,by assumption,by assumption,by assumption⟩
variable{i j:Int}
noncomputable def cutD(xs:fy)(lo ar:Option Int):List PyData:=(xs.drop (hB.iS xs.length 0 lo)).take (hB.iS xs.length xs.length ar-hB.iS xs.length 0 lo)
noncomputable abbrev L(x:String):Str:=eH x
end
noncomputable def aah(a b:Str)(t m f:Int):List PyData:=
 ([.list [.str a,.str b,.int t,.int m],.tuple (cutD [.str a,.str b,.int t,.int m] none (some 3)),.tuple ([.str a,.str b,.int t,.int m]++[.int 1]),.none,.tuple [.str a,.str (L "noshow"),.int t,.int m],.tuple [.str a,.str a,.int 1,.int 1]]
  ++[.tuple [.str (L ""),.str b,.int 1,.int 1],.tuple [.str a,.str b,.int 0,.int m],.tuple [.str a,.str b,.int (10+f),.int m]]
  ++[.tuple [.str a,.str b,.bool true,.int 1],.tuple [.str a,.str b,.str (L "1"),.int 1],.tuple [.str a,.str b,.int t,.int 0],.str (L "road")]
  ++[.tuple [.str a,.str b,.int 1,.int (10 ^ (9:Int).toNat+1+f)],.tuple [.str a,.str b,.int 1,.int (-1-f)]]
  ++[.tuple [.str a,.str b,.int 1,.bool true],.tuple [.str a,.str b,.int 1,.none],.tuple [.list [.str a],.str b,.int 1,.int 1]]
  ++[.tuple [.none,.str b,.int 1,.int 1],.tuple []])
noncomputable def Bq(a b:Str)(t m c:Int):PyData:=(aah a b t m (c%10 ^ (30:Int).toNat)).getD (c%20).toNat .none
theorem Jl{hs:br}{y:Str}(h:y∉hs.map S):inD (.str y) (bN hs)=false:=by unfold inD;rw[wM];intro z;obtain⟨v,bC,e⟩:=pT.mp z;obtain⟨u,b8,rfl⟩:=cn.mp bC;have cm:(u==y)=true:=e;exact h (eq_of_beq cm▸b8)
theorem WU{H:ae}:∀{hs:br},(∀x∈hs,AQ x)->eL H (cE hs) (bN hs)
 |[],_=>.nil
 |l::hs,h=>.cons (.str (S l) (by rw[qJ];have:=(h l (su ..)).2.1;omega) (Io (h l (su ..)))) (WU λx av=>h x (mm _ av))
theorem X5{H:ae}{a:Addr}{hs:br}(G:Good hs)(h:H a=some (.lst (cE hs))):dm H (.ref a) (.list (bN hs)):=.lst h (by rw[IS];have:=G.eE;omega) (WU G.nm)
end dY
namespace dp
open PySem
noncomputable def hsz(c:Int):Nat:=(1+c%8).toNat
noncomputable def fE(c:Int):Nat:=(c/8%(1+c%8)).toNat
noncomputable def h8(c:Int)(k j:Nat):Nat:=97+((c/64+5*(j:Int)*(j:Int)+2*(k:Int)*(if j=fE c then 1 else 0))%26).toNat
noncomputable def rA(c:Int)(k:Nat):List Nat:=(d_ (hsz c)).map (h8 c k)
noncomputable def rK(c:Int)(m:Nat):List dH:=(d_ m).map (rA c)
theorem WV(c:Int):1<=hsz c/\hsz c<=8:=by unfold hsz;omega
theorem afd(c:Int):(1+c%8)=(hsz c:Int):=by unfold hsz;omega
theorem agI(c:Int):fE c<hsz c:=by
 have af:0<1+c%8:=by omega
 have ai:=lI (c/8) af;have bR:=ie (c/8) (by omega:1+c%8≠0);unfold fE hsz;omega
theorem afe(c:Int):c/8%(1+c%8)=(fE c:Int):=by have bR:=ie (c/8) (by omega:1+c%8≠0);unfold fE;omega
theorem agJ(c:Int)(k j:Nat):97<=h8 c k j/\h8 c k j<=122:=by unfold h8;omega
theorem agK(c:Int)(k:Nat):AQ (rA c k):=by have h:=WV c;refine⟨by simp[rA];omega,by simp[rA];omega,λx av=>?_⟩;obtain⟨j,_,rfl⟩:=cn.mp av;exact agJ c k j
theorem aff{c:Int}{k l:Nat}(aX:k<13)(aj:l<13)(e:rA c k=rA c l):k=l:=by
 have h:=agI c;have aB:(rA c k)[fE c]?=(rA c l)[fE c]?:=by rw[e]
 unfold rA at aB;rw[c6,c6,acC h]at aB;have cJ:h8 c k (fE c)=h8 c l (fE c):=by simpa using aB
 unfold h8 at cJ;rw[bL rfl]at cJ;generalize c/64+5*(fE c:Int)*(fE c:Int)=z at cJ;omega
theorem ar0{α:Type}{f:Nat->α}{m:Nat}(h:∀i j,i<m->j<m->f i=f j->i=j):((d_ m).map f).Nodup:=by refine xF.mpr ?_;refine List.Pairwise.imp_of_mem ?_ (FC (n:=m));intro a b aK aa qk e;exact qk (h a b (lK.mp aK) (lK.mp aa) e)
theorem aav{c:Int}{m:Nat}(h:m<=12):(rK c m).Nodup:=ar0 λi j ar bK e=>aff (by omega) (by omega) e
theorem QU(c:Int)(m:Nat):(rK c m).length=m:=by simp[rK]
structure Lt where
 a:Nat
 b:Nat
 t:Int
noncomputable def La(c:Int):Int:=c*982451653%10000000000037
noncomputable def Yo(n:Nat)(c:Int):Int:=La c%n
noncomputable def lend(n:Nat)(c:Int):Int:=(Yo n c+1+La c/n%((n:Int)-1))%n
noncomputable def lt(n:Nat)(c base:Int):Lt:=⟨(Yo n c).toNat,(lend n c).toNat,base+La c/1000%31⟩
end dp
namespace cQ
open PySem PySem.Spec PyProof.Rows ao
noncomputable def e_{α:Type}:Sem α->Prop
 |.pure _=>True
 |.raise _=>True
 |.unsupported _=>True
 |.finish _=>True
 |.register _ _=>True
 |.rule _ k=>e_ (k ())
 |.at _ k=>e_ (k ())
 |.load _ _ k=>∀o,e_ (k o)
 |.update _ _ f k=>(∀o,(f o).dict=o.dict)/\e_ (k ())
 |.alloc _ k=>∀a,e_ (k a)
 |.loadIfAlive _ k=>∀o,e_ (k o)
 |.point _ k=>e_ (k ())
 |.fresh k=>∀t,e_ (k t)
 |.ask k=>∀t,e_ (k t)
 |.handled _ k=>∀t,e_ (k t)
 |.stack k=>∀t,e_ (k t)
 |.thread k=>∀n,e_ (k n)
 |_=>False
noncomputable def h6(h h':Heap):Prop:=h.objs.size<=h'.objs.size/\∀e,e<h.objs.size->(h'.objs[e]?).map (·.dict)=(h.objs[e]?).map (·.dict)
theorem h6.refl(h:Heap):h6 h h:=⟨cj _,λ_ _=>rfl⟩
theorem h6.trans{h af ai:Heap}(a:h6 h af)(b:h6 af ai):h6 h ai:=⟨e3 a.1 b.1,λe he=>(b.2 e (j' he a.1)).trans (a.2 e he)⟩
theorem h6.push(h:Heap)(o:Obj):h6 h (h.push o):=by
 obtain⟨objs,l⟩:=h;refine⟨?_,λe he=>?_⟩
 .show objs.size<=(objs.push o).size;simp
 .show((objs.push o)[e]?).map _=_;rw[Array.getElem?_push_lt he];simp[he]
theorem h6.update(h:Heap)(a:Addr){f:Obj->Obj}(hf:∀o,(f o).dict=o.dict):h6 h (h.update a f):=by
 obtain⟨objs,l⟩:=h;refine⟨?_,λe he=>?_⟩
 .show objs.size<=(objs.modify a f).size;simp
 .show((objs.modify a f)[e]?).map _=_;rw[Array.getElem?_modify];split
  .cases objs[e]? with
   |none=>rfl
   |some o=>show some (f o).dict=_;rw[hf];rfl
  .rfl
theorem h6.dict{h h':Heap}(s:h6 h h'){e:Addr}{o cC:Obj}(a:h.get? e=some o)(b:h'.get? e=some cC):cC.dict=o.dict:=by have af:=(aa0.mp a).1;have ai:=(aa0.mp b).1;have:=s.2 e (dD a);rw[af,ai]at this;exact hY this
theorem afg{α:Type}{M:k8}{wL:PySem.Ctx}{Q:α->Pos->aC->Prop}{E:Value->Pos->aC->Prop}(t:Sem α)(ax:e_ t)(p:Pos)(s:aC)(h:Sem.wp M wL t Q E p s):
  Sem.wp M wL t (λa hu s'=>Q a hu s'/\h6 s.heap s'.heap) (λa hu s'=>E a hu s'/\h6 s.heap s'.heap) p s:=by
 have key:∀(t:Sem α),e_ t->∀(p:Pos)(s:aC)(h0:Heap),h6 h0 s.heap->Sem.wp M wL t Q E p s->Sem.wp M wL t (λa hu s'=>Q a hu s'/\h6 h0 s'.heap) (λa hu s'=>E a hu s'/\h6 h0 s'.heap) p s:=by
  intro t
  induction t with
  |pure a=>exactλ_ p s h0 dN h=>⟨h,dN⟩
  |raise e=>exactλ_ p s h0 dN h=>⟨h,dN⟩
  |unsupported=>exactλ_ p s h0 dN h=>h
  |finish=>exactλ_ p s h0 dN h=>h
  |register=>exactλ_ p s h0 dN h=>h
  |rule _ k a8=>exactλc p s h0 dN h=>a8 () c p s h0 dN h
  |«at» _ k a8=>exactλc p s h0 dN h=>a8 () c _ s h0 dN h
  |load a _ k a8=>exactλc p s h0 dN⟨o,e,h⟩=>⟨o,e,a8 o (c o) p s h0 dN h⟩
  |update a _ f k a8=>exactλc p s h0 dN⟨e,h⟩=>⟨e,a8 () c.2 p _ h0 (dN.trans (h6.update _ _ c.1)) h⟩
  |alloc o k a8=>exactλc p s h0 dN h=>a8 _ (c _) p _ h0 (dN.trans (h6.push _ _)) h
  |loadIfAlive a k a8=>exactλc p s h0 dN h=>a8 _ (c _) p s h0 dN h
  |point _ k a8=>exactλc p s h0 dN h=>a8 () c p s h0 dN h
  |fresh k a8=>exactλc p s h0 dN h=>a8 _ (c _) p _ h0 dN h
  |ask k a8=>exactλc p s h0 dN h=>a8 _ (c _) p s h0 dN h
  |handled _ k a8=>exactλc p s h0 dN h=>a8 _ (c _) p s h0 dN h
  |stack k a8=>exactλc p s h0 dN h=>a8 _ (c _) p s h0 dN h
  |thread k a8=>exactλc p s h0 dN h=>a8 _ (c _) p s h0 dN h
  |choose=>exactλc=>c.elim
  |os=>exactλc=>c.elim
  |call=>exactλc=>c.elim
  |newGen=>exactλc=>c.elim
  |genState=>exactλc=>c.elim
  |resume=>exactλc=>c.elim
  |yield=>exactλc=>c.elim
  |fork=>exactλc=>c.elim
  |await=>exactλc=>c.elim
 exact key t ax p s s.heap (h6.refl _) h
theorem DM{α:Type}{M:k8}{A:cW}{Q:α->aC->Prop}{E:cx}{t:Sem α}{s:aC}(ax:e_ t)(h:aO M A t Q E s):aO M A t (λa s'=>Q a s'/\h6 s.heap s'.heap) (λa s'=>E a s'/\h6 s.heap s'.heap) s:=
 λwL p aop=>afg t ax p s (h wL p aop)
theorem h2{α β:Type}{t:Sem α}{f:α->Sem β}(h:e_ t)(hf:∀a,e_ (f a)):e_ (t >>=f):=by
 show e_ (t.bind f)
 induction t with
 |pure a=>exact hf a
 |raise e=>exact h
 |unsupported=>exact h
 |finish=>exact h
 |register=>exact h
 |rule _ k a8=>exact a8 () h
 |«at» _ k a8=>exact a8 () h
 |load a _ k a8=>exactλo=>a8 o (h o)
 |update a _ f k a8=>exact⟨h.1,a8 () h.2⟩
 |alloc o k a8=>exactλa=>a8 a (h a)
 |loadIfAlive a k a8=>exactλa=>a8 a (h a)
 |point _ k a8=>exact a8 () h
 |fresh k a8=>exactλa=>a8 a (h a)
 |ask k a8=>exactλa=>a8 a (h a)
 |handled _ k a8=>exactλa=>a8 a (h a)
 |stack k a8=>exactλa=>a8 a (h a)
 |thread k a8=>exactλa=>a8 a (h a)
 |choose=>exact h.elim
 |os=>exact h.elim
 |call=>exact h.elim
 |newGen=>exact h.elim
 |genState=>exact h.elim
 |resume=>exact h.elim
 |yield=>exact h.elim
 |fork=>exact h.elim
 |await=>exact h.elim
theorem kb{α:Type}{a:α}:e_ (pure a:Sem α):=trivial
theorem qe{α:Type}{x:String}:e_ (unsupported x:Sem α):=trivial
theorem rH{α:Type}{c:Prop}[Decidable c]{a b:Sem α}(aK:e_ a)(aa:e_ b):e_ (if c then a else b):=by split<;>assumption
theorem RH{a:Addr}:e_ (load a):=λ_=>trivial
theorem art{v:Value}:e_ (fieldsOf v):=by
 unfold fieldsOf;cases v<;>first|exact qe|skip
 refine h2 RH λo=>?_;split<;>first|exact kb|exact qe
theorem HF{v:Value}{i:Nat}:e_ (field v i):=by unfold field;refine h2 art λo=>?_;split<;>first|exact kb|exact qe
theorem PV{v:Value}{i:Nat}{x:Value}:e_ (za v i x):=by
 unfold za;cases v<;>first|exact qe|skip
 refine h2 RH λo=>?_;split
 .refine rH ⟨λo=>?_,trivial⟩ qe;obtain⟨c,d,lh,bj⟩:=o;cases lh<;>rfl
 .exact qe
theorem Pt{v:Value}{f:Option Addr}:e_ (RU v f):=by unfold RU;refine h2 HF λo=>rH PV kb
theorem Rd:e_ stack:=λ_=>trivial
theorem arj{ty:String}{vs:cw}:e_ (newFields ty vs):=by
 have as:e_ (newObjAsIs (.type ty) (.fields vs.toArray)):=by unfold newObjAsIs;exact h2 (λ_=>trivial) λa=>kb
 unfold newFields newObj;exact rH (c:=vs.toArray.size>sizeLine+2) (h2 qe λ_=>as) as
theorem aaw{f:Addr}{b:Bool}:e_ (Y5 f b):=by unfold Y5;refine h2 Rd λo=>?_;split<;>exact kb
theorem ŭ{env:Env}{outer:List Env}:e_ (akO env outer):=by unfold akO;exact rH kb (rH kb (h2 HF λ_=>kb))
theorem abI{env:Env}{b:Bool}{l:List Env}:e_ (keptBack env b l):=by
 unfold keptBack;split
 .refine rH kb (h2 ?_ λ_=>kb);exact h2 Rd λ_=>kb
 .exact kb
theorem ġ:∀l:List Env,e_ (readyFrames l)
 |[]=>trivial
 |env::outer=>by
  unfold readyFrames;split
  .exact h2 RH λo=>rH kb (h2 ŭ λ_=>h2 abI λ_=>h2 ⟨λ_=>rfl,trivial⟩ λ_=>ġ outer)
  .exact qe
theorem ar1{env:Env}:e_ (XK env):=by
 unfold XK frameEnvs;refine h2 (h2 Rd λ_=>kb) λl=>h2 ?_ λo=>?_
 .generalize List.dropWhile _ l=g9;cases g9 with
  |nil=>exact kb
  |cons a b=>exact h2 (ġ _) λ_=>kb
 .split<;>first|exact kb|exact qe
theorem Ľ{e:Value}{env:Env}:e_ (QC e env):=by
 unfold QC;have last:∀(f:Addr)(head:Value),e_ (do
   let a <-XK env
   let b <-Y5 f (head !=fP)
   let c <-asA head a fP (oC f) fP b
   za e 1 c):=λf head=>h2 ar1 λ_=>h2 aaw λ_=>h2 arj λ_=>PV
 split
 .exact h2 HF λhead=>rH (h2 HF λ_=>rH kb (h2 PV λ_=>last _ _)) (last _ _)
 .exact qe
theorem ò{e:Value}{env:Env}:e_ (leaving env e):=h2 Ľ λ_=>Pt
noncomputable def Jm(n1 p9:ue)(rZ:jI)(C:Addr)(fG:String):Bool:=
 (n1.mro==cy C::p9.mro)&&!n1.hasDel&&(match rZ.toList with|[_,_,_,_,some (.builtin n),_]=>n==fG|_=>false)
theorem acM{K:aU}{mg:cB}{h:Heap}{y:Str}{C R:Addr}{bm:cw}{fG:String}{kD Bq:Option Addr}{n1 p9:ue}{rZ Iz:jI}(X:K.In h)(O:Exc K mg y R bm fG)(PL:K.lookup C=some ⟨.type "type",kD,.cls n1,rZ⟩)(PR:K.lookup R=some ⟨.type "type",Bq,.cls p9,Iz⟩)(Bn:Jm n1 p9 rZ C fG=true):
  ∃nm q N bs dk sn sub ab col k0 k1 k2 k3 k5,h.get? C=some (x3 nm q C N bs dk n1.hasDict sn sub ab col kD k0 k1 k2 k3 k5 fG)/\xI h bm dk:=by
 obtain⟨dk,Xc,nm,q,bs,hdct,sn,sub,ab,col,dd,k0,k1,k2,k3,k5,mN,cO,eC,ym,T⟩:=(O.own X).obj;have Cy:=X _ _ PR;have aE:=Cy.symm.trans cO;have aB:=hY aE;have hm:p9.mro=cy R::dk:=by have cJ:(Data.cls p9)=_:=hh Obj.data aB;injection cJ with cJ;rw[cJ]
 unfold Jm at Bn;simp only[jD,o9,UW]at Bn;obtain⟨⟨c1,c2⟩,m7⟩:=Bn;split at m7
 .rename_i atB atD atE atF n atG hs;have m7:=o9.mp m7;subst m7;obtain⟨Ü,YO,atZ,auc,ô,mE,ą,Ċ,YF,YX,atj⟩:=n1;dsimp only at c1 c2;rw[hm]at c1;subst c1 c2;obtain⟨ă⟩:=rZ;simp only at hs;subst hs;exact⟨_,_,_,_,_,_,_,_,_,_,_,_,_,_,X _ _ PL,.own cO eC ym T⟩
 .cases m7
section
variable{prog:bJ}{w:bq}{A:cW}{E:cx}{s:aC}{K:aU}
variable{nm q:Str}{C N n7:Addr}{bs bm dk:cw}{hd:Bool}{sn:cf}{sub:cw}{ab:Bool}{col:Option Bool}{kD:Option Addr}{k0 k1 k2 k3 k5:xR}{B fG nq:String}
theorem abJ(F:wN B fG nq bm){rest:cw}{Q:cx}(T:xI s.heap bm dk)(X:K.In s.heap)(eg:s.heap.get? C=some (x3 nm q C N bs dk hd sn sub ab col kD k0 k1 k2 k3 k5 fG))(ar:b1 K (.ref C) "__init__"=some (some (.ref n7)))(hf:uF K (.ref n7)=some (.type "function"))(Α:rest.length<=sizeLine)(aT:∀h' e,s.heap.objs.size<=e->V4 s.heap h' e (.ref C) rest->aO (a6 prog w) (A.under (.builtin "type.__call__" ⟨.ref C::rest,[]⟩)) (call (.ref n7) (.ref e::rest)) (λr s'=>r=.none/\Q (.ref e) s') E {s with heap:=h'}):
  aO (a6 prog w) A (call (.ref C) rest) Q E s:=by
 obtain⟨h,g,d,t,os⟩:=s;have f1:=tc_lookup;have f2:=tc_bind (.ref C);have jQ:(⟨h,g,d,t,os⟩:aC).TypeIs (.ref C) "type":=⟨_,eg,rfl⟩
 refine pO (ale (show aO _ _ (callAny (.ref C) _) _ _ _ from ?_))
 repeat (any_goals (first|assumption|with_reducible refine ja eg ?_|wp_step))
 refine⟨rfl,codeAny_call_builtin_at (JB _ (by decide+kernel)) entry_typeCall (wpAny_check_type_call_sub eg ?_)⟩
 repeat (first|with_reducible refine wpAny_madeBy_exc eg ?_|with_reducible refine ja eg ?_|wp_step)
 refine codeAny_call_builtin_code (JB _ F.quiet) (wpAny_check_new_subT F T eg (codeAny_exc_new_subT F T eg (show aO _ _ _ _ _ _ from ?_) Α));have vo:((h.push {cls:=.type "tuple",data:=.seq rest.toArray}).push {cls:=.ref C,data:=.fields #[.ref h.objs.size,.none,.none,.none,.bool false,.none]}).get? (h.objs.size+1)=some {cls:=.ref C,data:=.fields #[.ref h.objs.size,.none,.none,.none,.bool false,.none]}:=by heap_get
 have mk:V4 h ((h.push {cls:=.type "tuple",data:=.seq rest.toArray}).push {cls:=.ref C,data:=.fields #[.ref h.objs.size,.none,.none,.none,.bool false,.none]}) (h.objs.size+1) (.ref C) rest:=
  ⟨λb o aa=>dG _ (dG _ aa),V5 (AO _),h.objs.size,vo,V5 (cj _),dG _ (aaZ rfl rfl)⟩
 have Oj:=aT _ _ (AO _) mk;have Lw:=X.keeps mk.keeps;have Nn:=mk.keeps _ _ eg;have anm:(cy C::dk).contains (.ref C)=true:=by simp
 show aO _ _ _ _ _ ⟨(h.push {cls:=.type "tuple",data:=.seq rest.toArray}).push {cls:=.ref C,data:=.fields #[.ref h.objs.size,.none,.none,.none,.bool false,.none]},g,d,t,os⟩;dsimp only;generalize(h.push {cls:=.type "tuple",data:=.seq rest.toArray}).push {cls:=.ref C,data:=.fields #[.ref h.objs.size,.none,.none,.none,.bool false,.none]}=ai at vo mk Oj Lw Nn⊢;generalize h.objs.size=a0 at vo mk Oj Nn⊢;unfold Hj
 repeat (first|with_reducible refine ja vo ?_|(with_reducible refine ES Nn ?_;rw[anm])|wp_step)
 refine(rk Lw ar).here ?_;refine iD (aw ((aem Lw _ hf).here ?_));show aO _ _ (call (.ref n7) (.ref (a0+1)::rest) >>=λr=>pure (some r)) _ _ _;refine aw (gf Oj (λr s' aq=>?_) λ_ _ z=>z);obtain⟨rfl,e8⟩:=aq
 wp_walk
 exact e8
theorem abK(F:wN B fG nq bm){R:m3->aC->Prop}{e t0:Addr}{d4:Option Addr}{bj:jI}{rest:cw}(T:xI s.heap bm dk)(eg:s.heap.get? C=some (x3 nm q C N bs dk hd sn sub ab col kD k0 k1 k2 k3 k5 fG))(he:s.heap.get? e=some ⟨.ref C,d4,.fields #[.ref t0,.none,.none,.none,.bool false,.none],bj⟩)(Α:rest.length<=sizeLine)(aT:∀h' t,(∀b o,b≠e->s.heap.get? b=some o->h'.get? b=some o)->h'.get? e=some ⟨.ref C,d4,.fields #[.ref t,.none,.none,.none,.bool false,.none],bj⟩->R (.ok (.ret .none)) {s with heap:=h'}):
  jJ (a6 prog w) A (.call (.builtin nq) ⟨.ref e::rest,[]⟩) R s:=by
 obtain⟨h,g,d,t,os⟩:=s;refine uZ F.init.plain F.initEntry (wpAny_check_init_subT F T eg he rfl ?_);dsimp only at he⊢
 wp_walk
 have anw:(h.push {cls:=.type "tuple",data:=.seq rest.toArray}).get? e=_:=dG _ he;refine aT _ h.objs.size (λb o aa GX=>?_) ?_
 .show((h.push _).update e _).get? b=some o;rw[jE _ _ (cL aa)];exact dG _ GX
 .show((h.push _).update e _).get? e=_;rw[oT _ anw rfl];rfl
theorem Ĕ{h:Heap}(T:xI h bm dk)(self:Value)(Ĭ:Str):Rp self Ĭ dk=Rp self Ĭ bm:=by
 induction T with
 |base=>rfl
 |own _ _ _ _ a8=>rw[ù,a8]
theorem Vv{M:k8}{d:Addr}{mA:cB}{name:Str}{a4:Tok}{v:Value}{ns:cf}{Q:Fin->aC->Prop}(aS:s.heap.Ns1 d mA)(hw:xO mA ns)(hz:ns.length<=1000)(aT:∀h' pJ,h'.Ns1 d (λy=>if y=name then some v else mA y)->kv d s.heap h'->Q (.done (.ret .none)) {s with heap:=h',toks:=pJ}):
  aO M A (Ÿ d (.str name a4) name v) Q E s:=by unfold Ÿ asw;refine aw (bf (aw (wpAny_nsSet1 aS λh' qp hs=>?_)));obtain⟨apO,amC,amA,Og,NN,NM⟩:=qp.count (XI name v hw);refine aw (arJ Og (by rw[NN];exact apW (e3 NM (by rw[mj,pH];omega))) ?_);exact bf (aT _ _ qp hs)
theorem afh{x:Addr}{name:Str}{v:Value}{iT owner:String}{vs:ka}{bj:jI}{Q:Unit->aC->Prop}(X:K.In s.heap)(lN:StoreFacts B bm iT owner)(T:xI s.heap bm dk)(eg:s.heap.get? C=some (x3 nm q C N bs dk hd sn sub ab col kD k0 k1 k2 k3 k5 fG))(hs:b1 K (.ref C) "__setattr__"=some (some (.builtin iT)))(aS:b1 K (.ref C) name=some none)(aZ:m2 K (.ref C) (.type owner)=some true)(av:s.heap.get? x=some ⟨.ref C,none,.fields vs,bj⟩)(NS:hd=true)(aT:∀h' pJ,h'.get? x=some ⟨.ref C,some s.heap.objs.size,.fields vs,bj⟩->h'.Ns1 s.heap.objs.size (λy=>if y=name then some v else none)->(∀b o,b≠x->s.heap.get? b=some o->h'.get? b=some o)->Q () {s with heap:=h',toks:=pJ}):
  aO (a6 prog w) A (Et (.ref x) name v) Q E s:=by
 obtain⟨h,g,d,t,os⟩:=s;dsimp only at X T eg av;have ty:pY (a6 prog w) h (typeOf (.ref x)) (.ref C):=(Xx av).andThen .now;have ob:pY (a6 prog w) h (Hj (.ref x) (.type owner)) true:=ty.andThen (aew X aZ);unfold Et callSpecial? specialOf;have cv:=lN.slot.bind (.ref x)
 repeat (any_goals (first|assumption|with_reducible refine ja av ?_|wp_step))
 refine(rk X hs).here (iD (aw (wG cv (aw (pO (uZ lN.slot.plain lN.entry (aeo lN.kind lN.split ob (lN.args _ _ _) ?_)))))));have an1:=lN.passes (.ref x);have qr:Rp (.ref x) "__setattr__" dk=pure ():=(Ĕ T _ _).trans an1;unfold Builtin.«object.__setattr__»
 repeat (first|rw[refuse_eq]|(rw[ù,qr])|with_reducible refine ja av ?_|with_reducible refine arM eg ?_|wp_step)
 refine(rk X aS).here (aw (bf ?_));show aO _ _ (Jy _ _ _ _ _ _) _ _ _;unfold Jy;refine aw (gf (Q:=λ_ s'=>s'=⟨h,g,d,t+1,os⟩) (E:=λ_ _=>False) ?_ (λ_ _ aE=>?_) (λ_ _ z=>z.elim))
 .repeat (first|with_reducible refine ja av ?_|with_reducible refine ja eg ?_|wp_step)
  exact rfl
 .subst aE;have Κ:x≠h.objs.size:=eD (dD av);have rF:(h.push {cls:=.type "dict",data:=.dict #[]}).get? x=_:=dG _ av;refine aw (gf (Q:=λr s'=>r=some h.objs.size/\s'=⟨(h.push {cls:=.type "dict",data:=.dict #[]}).update x λo=>{o with dict:=some h.objs.size},g,d,t+1,os⟩) (E:=λ_ _=>False) ?_ (λ_ _ aE=>?_) (λ_ _ z=>z.elim))
  .show aO _ _ (C2 x true) _ _ _;subst NS;unfold C2
   repeat (first|with_reducible refine ja av ?_|with_reducible refine ja eg ?_|wp_step)
   exact⟨rfl,rfl⟩
  .obtain⟨rfl,rfl⟩:=aE;have anF:((h.push {cls:=.type "dict",data:=.dict #[]}).update x λo=>{o with dict:=some h.objs.size}).get? x=some ⟨.ref C,some h.objs.size,.fields vs,bj⟩:=by rw[oT _ rF rfl]
   have N1:((h.push {cls:=.type "dict",data:=.dict #[]}).update x λo=>{o with dict:=some h.objs.size}).get? h.objs.size=some {cls:=.type "dict",data:=.dict #[]}:=
    (jE _ _ Κ).trans (aaZ rfl rfl)
   have anO:((h.push {cls:=.type "dict",data:=.dict #[]}).update x λo=>{o with dict:=some h.objs.size}).Ns h.objs.size (λ_=>none):=⟨_,#[],_,N1,rfl,λe he=>bE he (by simp),λ_=>rfl⟩
   refine Vv (mA:=λ_=>none) (ns:=[]) (aaX anO) aex (by decide) λh' pJ qp b'=>?_;refine bf (bf (aT h' pJ ?_ qp λb o aa GX=>?_))
   .exact(b'.2 x Κ).trans anF
   .refine(b'.2 b (eD (dD GX))).trans ((jE _ _ (cL aa)).trans (dG _ GX))
theorem acN{x ag:Addr}{name:Str}{v:Value}{iT owner:String}{vs:ka}{bj:jI}{mA:cB}{ns:cf}{Q:Unit->aC->Prop}(X:K.In s.heap)(lN:StoreFacts B bm iT owner)(T:xI s.heap bm dk)(eg:s.heap.get? C=some (x3 nm q C N bs dk hd sn sub ab col kD k0 k1 k2 k3 k5 fG))(hs:b1 K (.ref C) "__setattr__"=some (some (.builtin iT)))(aS:b1 K (.ref C) name=some none)(aZ:m2 K (.ref C) (.type owner)=some true)(av:s.heap.get? x=some ⟨.ref C,some ag,.fields vs,bj⟩)(NS:hd=true)(eC:s.heap.Ns1 ag mA)(hw:xO mA ns)(hz:ns.length<=1000)(aT:∀h' pJ,h'.Ns1 ag (λy=>if y=name then some v else mA y)->kv ag s.heap h'->Q () {s with heap:=h',toks:=pJ}):
  aO (a6 prog w) A (Et (.ref x) name v) Q E s:=by
 obtain⟨h,g,d,t,os⟩:=s;dsimp only at X T eg av eC;have ty:pY (a6 prog w) h (typeOf (.ref x)) (.ref C):=(Xx av).andThen .now;have ob:pY (a6 prog w) h (Hj (.ref x) (.type owner)) true:=ty.andThen (aew X aZ);unfold Et callSpecial? specialOf;have cv:=lN.slot.bind (.ref x)
 repeat (any_goals (first|assumption|with_reducible refine ja av ?_|wp_step))
 refine(rk X hs).here (iD (aw (wG cv (aw (pO (uZ lN.slot.plain lN.entry (aeo lN.kind lN.split ob (lN.args _ _ _) ?_)))))));have qr:Rp (.ref x) "__setattr__" dk=pure ():=(Ĕ T _ _).trans (lN.passes (.ref x));unfold Builtin.«object.__setattr__»
 repeat (first|rw[refuse_eq]|(rw[ù,qr])|with_reducible refine ja av ?_|with_reducible refine arM eg ?_|wp_step)
 refine(rk X aS).here (aw (bf ?_));show aO _ _ (Jy _ _ _ _ _ _) _ _ _;unfold Jy;refine aw (gf (Q:=λ_ s'=>s'=⟨h,g,d,t+1,os⟩) (E:=λ_ _=>False) ?_ (λ_ _ aE=>?_) (λ_ _ z=>z.elim))
 .repeat (first|with_reducible refine ja av ?_|with_reducible refine ja eg ?_|wp_step)
  exact rfl
 .subst aE;refine aw (gf (Q:=λr s'=>r=some ag/\s'=⟨h,g,d,t+1,os⟩) (E:=λ_ _=>False) ?_ (λ_ _ aE=>?_) (λ_ _ z=>z.elim))
  .show aO _ _ (C2 x true) _ _ _;subst NS;unfold C2
   repeat (first|with_reducible refine ja av ?_|with_reducible refine ja eg ?_|wp_step)
   exact⟨rfl,rfl⟩
  .obtain⟨rfl,rfl⟩:=aE;refine Vv eC hw hz λh' pJ qp b'=>?_;exact bf (bf (aT h' pJ qp b'))
theorem agL{x ag:Addr}{name:Str}{v:Value}{vs:ka}{bj:jI}{mA:cB}{b:Bool}{Q:cx}(X:K.In s.heap)(c:kS K C)(aS:b1 K (.ref C) name=some none)(hd:o3 K C=true)(av:s.heap.get? x=some ⟨.ref C,some ag,.fields vs,bj⟩)(eC:s.heap.Ns1 ag mA)(bC:mA name=some v)(dy:XB v=true)(aT:Q v {s with toks:=s.toks+1}):aO (a6 prog w) A (Nh (.ref x) name b) Q E s:=by
 refine aw (Tq ?_);refine Ws (s:={s with toks:=s.toks+1}) X c ⟨_,av,rfl⟩ λiF=>uZ F.excAttr_ValueError.ga.plain F.entry_bexc_ga (ļ (s:={s with toks:=s.toks+1}) X c ⟨_,av,rfl⟩ ?_);have xA:pY (a6 prog w) s.heap (typeOf (.ref x)) (.ref C):=q1.type ⟨_,av,rfl⟩;have uw:=rk (M:=a6 prog w) X aS;obtain⟨cd,jR,mE⟩:=ael hd;have acm:=aeu (M:=a6 prog w) X jR;obtain⟨anG,g,d,t,os⟩:=s;unfold Builtin.«object.__getattribute__»;have iT:slotArgs "__getattribute__" 1 ⟨[.ref x,.str name t],[]⟩=pure (.ref x,[.str name t]):=rfl;rw[iT];refine aw (bf ?_);dsimp only;have an:ŵ (.str name t)=pure name:=rfl;rw[an];refine aw (bf (aw (xA.at (aw ?_))));unfold U4;refine aw (uw.at (aw (bf (aw (bf ?_)))));show aO _ _ (ŷ _ _ _ _) _ _ _;unfold ŷ asv asx;refine aw (aw (aw (gf (Q:=λo s'=>o=⟨.ref C,some ag,.fields vs,bj⟩/\s'=⟨anG,g,d,t+1,os⟩) (E:=λ_ _=>False) ?_ (λ_ _ aE=>?_) (λ_ _ z=>z.elim))))
 .repeat (first|with_reducible refine ja av ?_|wp_step)
  exact⟨rfl,rfl⟩
 .obtain⟨rfl,rfl⟩:=aE;show aO _ _ (C2 x false) _ _ _;unfold C2;refine aw (ja av ?_);dsimp only;refine aw (acm.at ?_);rw[mE];refine bf ?_;show aO _ _ (nsGet ag name) _ _ _;refine wpAny_nsGet eC.ns ?_;rw[bC];show aO _ _ (rule "getattr.instance-dict" >>=λ_=>pure (asr v)) _ _ _;refine aw (ET (bf (bf ?_)));show aO _ _ (ZS v) _ _ _;rw[PySem.W.handedOut_of dy];exact bf aT
end
noncomputable def nf(e C:Addr):ed:=.ext λh=>∃t bj,h.get? e=some ⟨.ref C,none,.fields #[.ref t,.none,.none,.none,.bool false,.none],bj⟩
noncomputable def nd(e C ag:Addr):ed:=.ext λh=>∃t bj,h.get? e=some ⟨.ref C,some ag,.fields #[.ref t,.none,.none,.none,.bool false,.none],bj⟩
noncomputable def kF(e C ag:Addr):ed:=.ext λh=>∃vs bj,h.get? e=some ⟨.ref C,some ag,.fields vs,bj⟩
noncomputable def ma(d:Addr)(fs:List (Str×V)):ed:=.ext λh=>fs.length<=100/\∃mA,h.Ns1 d mA/\(∀f,iQ (fs.lookup f) (mA f))/\xO mA (fs.map (·.1))
section
variable{P:bJ}{w:bq}{H:ae}{h:Heap}{e C ag d:Addr}
theorem WW{t:Addr}{bj:jI}(q:h.get? e=some ⟨.ref C,none,.fields #[.ref t,.none,.none,.none,.bool false,.none],bj⟩):ee P w H h e (nf e C):=
 ⟨⟨t,bj,q⟩,⟨_,q⟩,λ_ _⟨t,bj,z⟩k=>⟨t,bj,k _ z⟩⟩
theorem agM{t:Addr}{bj:jI}(q:h.get? e=some ⟨.ref C,some ag,.fields #[.ref t,.none,.none,.none,.bool false,.none],bj⟩):ee P w H h e (nd e C ag):=
 ⟨⟨t,bj,q⟩,⟨_,q⟩,λ_ _⟨t,bj,z⟩k=>⟨t,bj,k _ z⟩⟩
theorem agN{vs:ka}{bj:jI}(q:h.get? e=some ⟨.ref C,some ag,.fields vs,bj⟩):ee P w H h e (kF e C ag):=
 ⟨⟨vs,bj,q⟩,⟨_,q⟩,λ_ _⟨t,bj,z⟩k=>⟨t,bj,k _ z⟩⟩
theorem WX{fs:List (Str×V)}{mA:cB}(z:fs.length<=100)(n:h.Ns1 d mA)(r:∀f,iQ (fs.lookup f) (mA f))(dc:xO mA (fs.map (·.1))):ee P w H h d (ma d fs):=by
 obtain⟨o,q⟩:∃o,h.get? d=some o:=by obtain⟨o,_,_,q,_⟩:=n.ns;exact⟨o,q⟩
 exact⟨⟨z,mA,n,r,dc⟩,⟨o,q⟩,λ_ _⟨z,mA,n,r,dc⟩k=>⟨z,mA,n.at k,r,dc⟩⟩
end
section
variable{X:bb}{pins:cu}{σ:ao.St}{H:ae}{s:aC}
theorem Inv.put2{h':Heap}{t':Nat}{e d:Addr}{ox d4:ed}{q8:Heap->Prop}(I:Inv X pins σ H s)(he:H e=some (.ext q8))(hd:s.heap.objs.size<=d)(k:∀b o,b≠e->s.heap.get? b=some o->h'.get? b=some o)(anz:∃o,h'.get? e=some o)(dt:ee X.prog X.w (upd (upd H d d4) e ox) h' e ox)(dC:ee X.prog X.w (upd (upd H d d4) e ox) h' d d4):Inv X pins σ (upd (upd H d d4) e ox) {s with heap:=h',toks:=t'}:=by
 have ans:H d=none:=I.a_.fresh hd;have N1:∀o,s.heap.get? d≠some o:=λo z=>pU _ (j' (dD z) hd);have ne1:∀b,H b=none->b≠e:=λb n z=>by rw[z,he]at n;cases n
 have old:∀{b:Addr}{u:ed},H b=some u->b≠e->upd (upd H d d4) e ox b=some u:=λ{b u}q n=>by rw[aA n,aA (bW q ans)];exact q
 have b9:∀{b:Addr}{u:ed},H b=some u->(∀mb,u≠.ext mb)->b≠e:=λ{b u}q n z=>by subst z;rw[he]at q;exact n q8 (hY q).symm
 refine I.un ⟨λb o q n _ _=>k b o (ne1 b n) q,λb o q n _ _=>⟨o.slots,k b o (ne1 b n) q⟩,λb o q n _=>?_,λb o q _=>?_,λb xs q=>old q (b9 q (by intro mb z;cases z)),λb o u q=>old q (b9 q (by intro mb z;cases z)),λb ps q=>⟨#[],by rw[old q (b9 q (by intro mb z;cases z))];simp⟩⟩ λb u q=>?_
 .rw[aA (ne1 b n),aA (show b≠d fromλz=>N1 o (by rw[<-z];exact q))];exact n
 .by_cases aa:b=e
  .subst aa;exact anz
  .exact⟨o,k b o aa q⟩
 .by_cases aa:b=e
  .subst aa;rw[aQ]at q;cases q;exact dt
  .rw[aA aa]at q;by_cases hN:b=d
   .subst hN;rw[aQ]at q;cases q;exact dC
   .rw[aA hN]at q;refine(I.a_ b u q).mS (λc v ax r=>k c v ?_ r) (λc r=>old r (b9 r (by intro mb z;cases z))) λc xs r=>old r (b9 r (by intro mb z;cases z));rcases ax with rfl|ax
    .exact aa
    .exact b9 ax (by intro mb z;cases z)
theorem agO{H:ae}{a:Addr}{o:ed}(h:H a=some o):upd H a o=H:=by
 funext b;by_cases aa:b=a
 .subst aa;rw[aQ,h]
 .rw[aA aa]
structure p3(K:aU)(mg:cB)(y:Str)(C R:Addr):Prop where
 base:Exc K mg y R [.type "ValueError",.type "Exception",.type "BaseException",.type "object"] "ValueError.__new__"
 lk:∃kD n1 rZ Bq p9 Iz,K.lookup C=some ⟨.type "type",kD,.cls n1,rZ⟩/\K.lookup R=some ⟨.type "type",Bq,.cls p9,Iz⟩/\Jm n1 p9 rZ C "ValueError.__new__"=true/\n1.hasDict=true
 iT:b1 K (.ref C) "__setattr__"=some (some (.builtin "object.__setattr__"))
 ob:m2 K (.ref C) (.type "object")=some true
 rd:XG K R (.type "type")=true
 M9:XA K (.ref R) (.type "type") "__init__"=some (.val (.builtin "ValueError.__init__"))
 RV:sC K (.ref R) "__getattribute__"=some (some (.builtin "type.__getattribute__"))
 h5:kS K C
 hd:o3 K C=true
end
theorem p3.obj{K:aU}{mg:cB}{y:Str}{C R:Addr}{h:Heap}(x:p3 K mg y C R)(X:K.In h):
  ∃nm q N bs dk sn sub ab col kD k0 k1 k2 k3 k5,h.get? C=some (x3 nm q C N bs dk true sn sub ab col kD k0 k1 k2 k3 k5 "ValueError.__new__")/\xI h [.type "ValueError",.type "Exception",.type "BaseException",.type "object"] dk:=by obtain⟨kD,n1,rZ,Bq,p9,Iz,PL,PR,Bn,hd⟩:=x.lk;obtain⟨nm,q,N,bs,dk,sn,sub,ab,col,k0,k1,k2,k3,k5,eg,T⟩:=acM X x.base PL PR Bn;rw[hd]at eg;exact⟨nm,q,N,bs,dk,sn,sub,ab,col,kD,k0,k1,k2,k3,k5,eg,T⟩
section
variable{X:bb}{o e value:Expr}{es:gG}{f y:Str}{pos pos' eN np:Pos}{b4 j4:TE}{t:f7}{R:Addr}
noncomputable def aqO(K:aU)(mg:cB)(y:Str)(R:Addr)(t:f7):TE:=λσ H Q=>t σ H λvs H1=>∃e C rest,vs=.ref e::rest/\H1 e=some (nf e C)/\p3 K mg y C R/\rest.length<=sizeLine/\Q .bl H1
theorem aco{pl:Sem Bool}(bP:iV X y)(hm:X.mg y=some (.ref R))(rd:XG X.K R (.type "type")=true)(M9:XA X.K (.ref R) (.type "type") "__init__"=some (.val (.builtin "ValueError.__init__")))(RV:sC X.K (.ref R) "__getattribute__"=some (some (.builtin "type.__getattribute__")))(aK:fM X (e::es) t)(kK:(y==("__debug__":Str))=false:=by decide)(l0:dR (e::es) X.env=(false,eval e X.env)::dR es X.env:=by rfl)(fE:(hg pos (dR es X.env)).any (·.1)=false:=by rfl)(df:eval (.Call (.Attribute (.Name y np) "__init__" eN) (e::es) [] pos) X.env=(do
   let eI <-eval (.Name y np) X.env
   r3 eN.atName
   let(f,first) <-lY [eI] (vf eI "__init__" pl)
   xY pos f first (hg pos (dR (e::es) X.env)) (kB pos (kP [] X.env))):=by rfl):
  bh X (.Call (.Attribute (.Name y np) "__init__" eN) (e::es) [] pos) (aqO X.K X.mg y R t):=by
 intro pins s σ H Q I h;refine A5 (pl:=pl) (rJ I bP hm ?_ kK) df;refine PySem.W.method_cls I.ew RV (PySem.W.cls_value I.ew rd M9 (by decide+kernel) ?_);refine ad6 (bB (aK pos pins _ σ H _ (I.tok _) h) λus s1⟨vs,H1,aP,cg,ex,C,rest,ev,hex,jC,hz,q⟩=>?_) l0 fE;subst ev;cases cg with
 |cons gB fI=>
  cases gB;obtain⟨⟨t0,bj,he⟩,_,_⟩:=(show ee X.prog X.w H1 s1.heap ex (nf ex C)from aP.a_ ex _ hex)
  obtain⟨nm,fH,N,bs,dk,sn,sub,ab,col,kD,k0,k1,k2,k3,k5,eg,T⟩:=jC.obj aP.ew;refine pO (abK A0 T eg he (by rw[<-fI.length];exact hz) λh' t1 bT Z7=>?_);have bA:=aP.write (t':=s1.toks) (x:=ex) (e:=ex) (o:=nf ex C) (by rw[hex];exact trivial) (.inl rfl) (λb u aa q=>bT b u aa q) ⟨_,Z7⟩ (WW Z7);rw[agO hex]at bA;exact⟨.bl,H1,bA,rfl,q⟩
noncomputable def aia(K:aU)(mg:cB)(y:Str)(R:Addr)(to j4:TE)(f:Str):eY:=λD σ H=>j4 σ H λv H1=>to σ H1 λx ah=>∃e C,x=.ref e/\p3 K mg y C R/\b1 K (.ref C) f=some none/\
 ((ah e=some (nf e C)/\∀ag,ah ag=none->ag≠e->D.b9 σ (upd (upd ah ag (ma ag [(f,v)])) e (nd e C ag)))\/
 ∃ag fs,ah e=some (nd e C ag)/\ah ag=some (ma ag fs)/\fs.length<100/\D.b9 σ (upd ah ag (ma ag (jX f v fs))))
theorem afi(aK:bh X o b4)(bC:bh X value j4)(hs:wg value (some (.Attribute o f pos')) pos.line X.env=pure false):fN X (.Assign [.Attribute o f pos'] value pos) (aia X.K X.mg y R b4 j4 f):=by
 intro pins s σ H D I h;refine apY (bB (bC pins s σ H _ I h) λu s1⟨v,H1,aP,b7,q⟩=>bB (aK pins s1 σ H1 _ aP q) λeI s2⟨x,ah,bA,bz,e,C,ex,jC,aS,cU⟩=>?_) hs;subst ex;obtain rfl:eI=cy e:=bz;obtain⟨nm,fH,N,bs,dk,sn,sub,ab,col,kD,k0,k1,k2,k3,k5,eg,T⟩:=jC.obj bA.ew;rcases cU with⟨he,cU⟩|⟨ag,fs,he,GZ,hz,cU⟩
 .obtain⟨⟨t0,bj,pg⟩,_,_⟩:=(show ee X.prog X.w ah s2.heap e (nf e C)from bA.a_ e _ he)
  refine afh bA.ew aeh T eg jC.iT aS jC.ob pg rfl λh' pJ fQ GS bT=>?_;have HM:s2.heap.objs.size≠e:=xH (dD pg);refine⟨σ,_,Inv.put2 bA he (cj _) bT ⟨_,fQ⟩ (agM fQ) (WX (fs:=[(f,v)]) (show 1<=100 by decide) GS (λg=>?_) ?_),cU _ (bA.a_.fresh (cj _)) HM⟩
  .by_cases bP:g=f
   .subst bP;have aa:(g==g)=true:=o9.mpr rfl;simp only[sr,aa,bL];exact b7
   .have aa:(g==f)=false:=uT.mpr bP;simp only[sr,aa,bF bP];exact trivial
  .exact XI f u aex
 .obtain⟨⟨t0,bj,pg⟩,_,_⟩:=(show ee X.prog X.w ah s2.heap e (nd e C ag)from bA.a_ e _ he)
  obtain⟨⟨Hg,mA,eC,Ol,OG⟩,⟨d4,atw⟩,_⟩:=(show ee X.prog X.w ah s2.heap ag (ma ag fs)from bA.a_ ag _ GZ)
  refine acN bA.ew aeh T eg jC.iT aS jC.ob pg rfl eC OG (by rw[bp];omega) λh' pJ GS b'=>?_;refine⟨σ,_,bA.write (x:=ag) (e:=ag) (o:=ma ag (jX f v fs)) (by rw[GZ];exact trivial) (.inl rfl) (λb z aa q=>(b'.2 b aa).trans q) (by obtain⟨cC,_,_,q,_⟩:=GS.ns;exact⟨cC,q⟩) (WX ?_ GS (λg=>?_) ?_),cU⟩
  .have:=Qk f v fs;omega
  .rw[Qj];by_cases q:g=f
   .rw[bL q,bL q];exact b7
   .rw[bF q,bF q];exact Ol g
  .intro g bP;by_cases q:g=f
   .rw[q];exact(Dn f v fs).1
   .exact(Dn f v fs).2 g (OG g λz=>bP (by show(if g=f then some u else mA g)=none;rw[bF q];exact z))
noncomputable def aib(K:aU)(to:TE)(f:Str):TE:=λσ H Q=>to σ H λx H1=>∃e C ag fs v,x=.ref e/\H1 e=some (kF e C ag)/\H1 ag=some (ma ag fs)/\kS K C/\b1 K (.ref C) f=some none/\o3 K C=true/\fs.lookup f=some v/\Q v H1
theorem afj(he:bh X e b4)(aa:uP e f X.env (eval e X.env)=eval e X.env):bh X (.Attribute e f pos) (aib X.K b4 f):=by
 intro pins s σ H Q I h;refine VJ aa (bB (he pins s σ H _ I h) λu s1⟨x,H1,aP,bz,a,C,ag,fs,v,ex,au,GZ,h5,aS,hd,l,q⟩=>?_);subst ex;obtain rfl:u=cy a:=bz;obtain⟨⟨vs,bj,pg⟩,_,_⟩:=(show ee X.prog X.w H1 s1.heap a (kF a C ag)from aP.a_ a _ au)
 obtain⟨⟨Hg,mA,eC,Ol,OG⟩,_,_⟩:=(show ee X.prog X.w H1 s1.heap ag (ma ag fs)from aP.a_ ag _ GZ)
 obtain⟨r7,OF,b7⟩:=iQ.some_of (v:=v) (o:=mA f) (by rw[<-l];exact Ol f);exact agL aP.ew h5 aS hd pg eC OF (Ō b7) ⟨v,H1,aP.tok _,b7,q⟩
end
section
variable{X:bb}{k:Nat}{f C R:Addr}{fd:cz}{ps:cf}{sp:cG}{y:Str}
theorem acp{pins:cu}{σ:ao.St}{H:ae}{s:aC}{us:cw}{vs:aY}{Rr:Addr->Addr->ae->Prop}(jC:p3 X.K X.mg y C R)(ar:b1 X.K (.ref C) "__init__"=some (some (.ref f)))(hf:fO X.K (.ref f)=true)(F:aL X.prog X.w X.K X.mg X.base a5 k f fd ps sp)(aq:gc (k+1) X.A)(aa:Binds X.K fd ps [])(I:Inv X pins σ H s)(r:cI vs us)(hz:vs.length<=sizeLine)(h:∀e,H e=none->sp (.ref e::vs) (upd H e (nf e C)) (λv ah=>v=.bl/\∃ag,ah e=some (nd e C ag)/\Rr e ag ah) ra):
  aO (a6 X.prog X.w) X.A (call (.ref C) us) (λu s'=>∃e ag ah,u=.ref e/\s.heap.get? e=none/\Inv X pins σ ah s'/\ah e=some (nd e C ag)/\Rr e ag ah) X.dT s:=by
 obtain⟨nm,fH,N,bs,dk,sn,sub,ab,col,kD,k0,k1,k2,k3,k5,eg,T⟩:=jC.obj I.ew;refine abJ A0 T I.ew eg ar (o9.mp hf) (by rw[<-r.length];exact hz) λh' e hle mk=>?_;obtain⟨t,he,atz,df⟩:=mk.there;have bA:Inv X pins σ (upd H e (nf e C)) {s with heap:=h'}:=I.laid (a:=e) (o:=nf e C) (t':=s.toks) mk.keeps hle (WW he);have aT:=h e (I.a_.fresh hle);have d5:cI (V.ref e::vs) (cy e::us):=.cons rfl r;have aj:(cy e::us++[]).length=ps.length:=by have aE:=d5.length;rw[F.len _ _ _ _ aT]at aE;rw[mh];exact aE.symm
 have de:=aa {s with heap:=h'} (cy e::us) bA.ew aj;rw[mh]at de;refine pO (rn (F.run _ X.stack _ _ ⟨cy e::us,[]⟩ (cy e::us) _ _ ra (aq.make C us []) (bA.BD.make C us []) de d5 aT) λfI s' mG=>?_);cases fI with
 |error x=>exact hA mG
 |ok fb=>
  cases fb with
  |ret u=>
   obtain⟨v,H',cZ,b7,ev,ag,bR,cS⟩:=bA.after mG;subst ev;exact⟨b7,e,ag,H',rfl,mk.new,cZ,bR,cS⟩
  |next=>exact hA mG
  |brk=>exact hA mG
  |cont=>exact hA mG
end
section
variable{prog:bJ}{w:bq}{A:cW}{E:cx}{s:aC}{env:Env}{K:aU}{mg:cB}{y:Str}{C R:Addr}
theorem afk{x:Sem Value}{Q:Flow->aC->Prop}(jC:p3 K mg y C R)(dy:A.handled=none)(h:aO (a6 prog w) A x (λv dP=>∃e ag t bj,v=.ref e/\K.In dP.heap/\dP.heap.get? e=some ⟨.ref C,some ag,.fields #[.ref t,.none,.none,.none,.bool false,.none],bj⟩/\E (.ref e) dP) E s):
  aO (a6 prog w) A (ø env (some x) none) Q E s:=by
 unfold ø;refine aw (gf h (λv dP OK=>?_) λ_ _ x=>x);obtain⟨e,ag,t,bj,rfl,X,he,fo⟩:=OK;obtain⟨nm,fH,N,bs,dk,sn,sub,ab,col,kD,k0,k1,k2,k3,k5,eg,T⟩:=jC.obj X;have CF:(cy C::dk).contains (.type "BaseException")=true:=by rw[WB,T.hasType (b:=true) (by decide),UX]
 obtain⟨aR,g,d,a4,os⟩:=dP
 repeat (first|with_reducible refine ja he ?_|with_reducible refine ja eg ?_|(with_reducible refine ES eg ?_;rw[CF])|wp_step)
 exact arQ dy fo
noncomputable def WA(h:Heap)(au:Addr)(d4:Option Addr):Prop:=∀ag,d4=some ag->∃o,h.get? au=some o/\o.dict=some ag
end
noncomputable def mX(P:bJ)(w:bq):mW:=λfr H s E e s'=>∃(au:Addr)(cls a0:Value)(H':ae)(B:Heap)(d4:Option Addr),e=.ref au/\mI P w fr H s au cls a0 H' B s'/\WA s'.heap au d4/\E cls d4 H'
noncomputable def del(H:ae)(a:Addr):ae:=λb=>if b=a then none else H b
theorem UT{H:ae}{a:Addr}:del H a a=none:=by unfold del;rw[bL rfl]
theorem tL{H:ae}{a b:Addr}(h:b≠a):del H a b=H b:=by unfold del;rw[bF h]
section
variable{P:bJ}{w:bq}{K:aU}{mg:cB}{base:Heap}{N:cf}{qual:Str}{scope:Scope}{f:Addr}{cdv:Value}{A:cW}{outer:List Env}{s:aC}{H:ae}{E:b2}
noncomputable abbrev jt(P:bJ)(w:bq)(K:aU)(mg:cB)(base:Heap)(N:cf)(qual:Str)(scope:Scope)(f:Addr)(cdv:Value)(A:cW)(outer:List Env)(s:aC)(H:ae)(E:b2):bb:=
 jY (mX P w) P w K mg base N qual scope f cdv A outer s H E
theorem aq7{pins:cu}{σ:ao.St}{H1:ae}{s1:aC}(I:Inv (jt P w K mg base N qual scope f cdv A outer s H E) pins σ H1 s1):Inv (fX P w K mg base N qual scope f cdv A outer s H E) pins σ H1 s1:=I.ku _
theorem ar2{pins:cu}{σ:ao.St}{H1:ae}{s1:aC}{au C ag:Addr}(I:Inv (jt P w K mg base N qual scope f cdv A outer s H E) pins σ H1 s1)(av:H1 au=some (nd au C ag))(hold:s.heap.get? au=none)(fo:E (.ref C) (some ag) (del H1 au)):(jt P w K mg base N qual scope f cdv A outer s H E).dT (.ref au) s1:=by
 obtain⟨⟨t,bj,pg⟩,_,_⟩:=(show ee P w H1 s1.heap au (nd au C ag)from I.a_ au _ av)
 obtain⟨S,fD⟩:∃S,S=fm (jt P w K mg base N qual scope f cdv A outer s H E).stack:=⟨_,rfl⟩
 have nk:∀env∈(jt P w K mg base N qual scope f cdv A outer s H E).stack,∀b,env.frame=some b->b∈au::S:=λenv he b aa=>by rw[fD];exact mm _ (Ko.mpr ⟨env,he,aa⟩)
 have CP:∀b o,H1 b=some o->b∉S:=λb o e z=>by rw[fD]at z;rw[I.IH b z]at e;cases e
 have kN:∀b o,s1.heap.get? b=some o->b≠au->b∉S->(uC s1.heap (au::S)).get? b=some o:=λb o e n m=>XC _ e λz=>by
  rcases dA.mp z with z|z
  .exact n z
  .exact m z
 have H6:∀b o,s.heap.get? b=some o->b≠au:=λb o e z=>by rw[z,hold]at e;cases e
 have qT:∀b o,s.heap.get? b=some o->b∉fm outer->b∉S:=λb o e aa=>by rw[fD];exact yX (aq7 I) e aa
 have yL:∀{b:Addr}{u:ed},H1 b=some u->(∀mb,u≠.ext mb)->b≠au:=λ{b u}q n z=>by subst z;rw[av]at q;exact n _ (hY q).symm
 have Z_:(uC s1.heap (au::S)).get? au=none:=aeq _ (.head _);refine gf (DM ò (wpAny_leaving_firstW (base:=uC s1.heap (au::S)) (a0:=.ref t) (Q:=λ_ s'=>∃h',s'={s1 with heap:=h'}/\Heap.LeftW (uC s1.heap (au::S)) _ au (.ref C) (.ref t) s1.heap h') (E:=λ_ _=>False)
  I.ok.frames (aep I.stack nk) rfl pg (λb o q=>XE _ q) Z_ rfl rfl rfl λh' iq=>⟨h',rfl,iq⟩)) (λ_ s'⟨⟨h',es,iq⟩,dN⟩=>?_) λ_ _ z=>z.1.elim
 subst es;obtain⟨k1,⟨_,_,k2⟩,k3,oO⟩:=iq;have eP:sl (uC s1.heap (au::S)) outer au (.ref C) (.ref t) h':=⟨k1,Z_,k2,k3⟩
 refine⟨au,.ref C,.ref t,del H1 au,_,some ag,rfl,⟨eP,I.os,I.bare,λb ob e=>?_,⟨λb o e n aa fQ=>?_,λb o e n aa fQ=>?_,λb o e n fQ=>?_,λb o e fQ=>?_,λb xs q=>?_,λb o u q=>?_,λb ps q=>?_⟩,λb o e aa=>?_⟩,?_,fo⟩
 .have aa:b≠au:=λz=>by rw[z,UT]at e;cases e
  rw[tL aa]at e;refine(I.a_ b ob e).mS (λc u ax q=>?_) (λc r=>by rw[tL (yL r (by intro mb z;cases z))];exact r) λc xs r=>by rw[tL (yL r (by intro mb z;cases z))];exact r
  rcases ax with rfl|ax
  .exact kN c u q aa (CP c _ e)
  .exact kN c u q (yL ax (by intro mb z;cases z)) (CP c _ ax)
 .exact eP.1 b o (kN b o (I.base.keep b o e n aa fQ) (H6 b o e) (qT b o e aa))
 .obtain⟨lD,z⟩:=I.base.slot b o e n aa fQ;obtain⟨_,ob,cm,gv⟩:=I.ke.mem aa;rw[z]at cm;cases cm;obtain⟨r2,di⟩:=oO b _ z gv;exact⟨r2,di⟩
 .rw[tL (H6 b o e)];exact I.base.free b o e n fQ
 .obtain⟨cC,z⟩:=I.base.there b o e fQ;by_cases aa:b∈fm outer
  .obtain⟨_,ob,cm,gv⟩:=I.ke.mem aa;obtain⟨lD,di⟩:=oO b _ cm gv;exact⟨_,di⟩
  .exact⟨cC,eP.1 b cC (kN b cC z (H6 b o e) (qT b o e aa))⟩
 .have r:=I.base.hv b xs q;rw[tL (yL r (by intro mb z;cases z))];exact r
 .have r:=I.base.iN b o u q;rw[tL (yL r (by intro mb z;cases z))];exact r
 .obtain⟨m,r⟩:=I.base.i_ b ps q;exact⟨m,by rw[tL (yL r (by intro mb z;cases z))];exact r⟩
 .obtain⟨cC,z⟩:=I.base.there b o e (by simp[jt,jY]);refine⟨cC,kN b cC z (H6 b o e) (qT b o e aa),λn=>?_⟩;have bD:=I.base.keep b o e n aa (by simp[jt,jY]);rw[z]at bD;exact hY bD
 .intro atl dS;cases dS;obtain⟨ob,qq,_⟩:=eP.there;exact⟨ob,qq,dN.dict pg qq⟩
noncomputable def aeH(C:Addr)(sp:cG)(E:b2)(b4:f7):eY:=λ_ σ H=>b4 σ H λvs H1=>vs.length<=sizeLine/\∀e,H1 e=none->sp (.ref e::vs) (upd H1 e (nf e C)) (λv ah=>v=.bl/\∃ag,ah e=some (nd e C ag)/\E (.ref C) (some ag) (del ah e)) ra
theorem ľ{x y:Str}{C R n7:Addr}{k:Nat}{fd:cz}{ps:cf}{sp:cG}{np e6 pos:Pos}{cT:Expr}{es:gG}{b4:f7}(jC:p3 K mg y C R)(hm:mg x=some (.ref C))(anL:o4 K (.ref C)=true)(ar:b1 K (.ref C) "__init__"=some (some (.ref n7)))(hf:fO K (.ref n7)=true)(F:aL P w K mg base a5 k n7 fd ps sp)(aq:gc (k+1) (jt P w K mg base N qual scope f cdv A outer s H E).A)(aa:Binds K fd ps [])(bP:iV (jt P w K mg base N qual scope f cdv A outer s H E) x)(aK:fM (jt P w K mg base N qual scope f cdv A outer s H E) (cT::es) b4)(kK:(x==("__debug__":Str))=false:=by decide)(he:dR (cT::es) (jt P w K mg base N qual scope f cdv A outer s H E).env=(false,eval cT (jt P w K mg base N qual scope f cdv A outer s H E).env)::dR es (jt P w K mg base N qual scope f cdv A outer s H E).env:=by rfl)(fE:(hg e6 (dR es (jt P w K mg base N qual scope f cdv A outer s H E).env)).any (·.1)=false:=by rfl):
  fN (jt P w K mg base N qual scope f cdv A outer s H E) (.Raise (some (.Call (.Name x np) (cT::es) [] e6)) none pos) (aeH C sp E b4):=by
 intro pins s1 σ H1 D I h;rw[arm_exec_Raise];refine aw (EU ?_);show aO _ _ (ø _ (some (do
  let v <-eval (.Call (.Name x np) (cT::es) [] e6) (jt P w K mg base N qual scope f cdv A outer s H E).env
  r3 pos
  pure v)) none) _ _ _
 refine afk jC (I.ok.hd rfl) (aw (zo (rJ I bP hm ?_ kK)));refine A2 (h₀:=base) I.ok.mod.rL anL (bB (aK e6 pins s1 σ H1 _ I h) λus s2⟨vs,ah,bA,r,hz,q⟩=>⟨bA.ew,?_⟩) he fE;refine bB (acp (X:=jt P w K mg base N qual scope f cdv A outer s H E) (Rr:=λe ag ah=>E (.ref C) (some ag) (del ah e)) jC ar hf F aq aa bA r hz q) λu s3⟨e,ag,bg,nc,G8,cZ,bR,fo⟩=>?_;subst nc;obtain⟨⟨t,bj,pg⟩,_,_⟩:=(show ee P w bg s3.heap e (nd e C ag)from cZ.a_ e _ bR)
 refine aw (EU (bf ⟨e,ag,t,bj,rfl,cZ.ew,pg,ar2 cZ bR ?_ fo⟩));cases oA:s.heap.get? e with
 |none=>rfl
 |some o=>
  obtain⟨cC,z⟩:=bA.base.there e o oA (by simp[jt,jY]);rw[G8]at z;cases z
theorem æ{x:Str}{st:Stmt}{fd:cz}{ps:cf}{k:Nat}{sp:cG}(F:bw K x qual st f fd)(S:dw N ps (c3 st))(len:∀vs H Q E,sp vs H Q E->vs.length=ps.length)(vk:∀(cdv:Value)(A:cW)(outer:List Env)(s:aC)(H:ae)(vs:aY)(Q:a')(E:b2),gc k (A.deeper (n6 qual (c3 st) s.heap.objs.size f cdv))->sp vs H Q E->
   ∃t,fV (jt P w K mg base N qual (c3 st) f cdv A outer s H E) (tm st) t/\t {b9:=λ_ H'=>Q .bl H',l7:=Q} (start N vs) H):aL P w K mg base (mX P w) (k+1) f fd ps sp:=by obtain⟨l4,d4,dg,doc,pm,an,cdv,e0,oz,rfl,lk,jR⟩:=F.ex;exact Kc lk jR S len λA outer s H vs Q E aq n_=>vk cdv A outer s H vs Q E aq n_
end
noncomputable def F3(X:bb)(pins:cu)(σ:ao.St)(E:b2)(e:Value)(s':aC):Prop:=
 ∃(b3:ae)(sc:aC)(au:Addr)(cls a0:Value)(H':ae)(B:Heap)(d4:Option Addr),e=.ref au/\Inv X pins σ b3 sc/\mI X.prog X.w X.stack b3 sc au cls a0 H' B s'/\WA s'.heap au d4/\E cls d4 H'
noncomputable def Xm(X:bb)(e:Expr)(t:xQ):Prop:=
 ∀(pins:cu)(s:aC)(σ:ao.St)(H:ae)(Q:a')(E:b2),Inv X pins σ H s->t E σ H Q->aO (a6 X.prog X.w) X.A (eval e X.env) (ic X pins σ Q) (F3 X pins σ E) s
noncomputable def FK(X:bb)(st:Stmt)(t:m4):Prop:=
 ∀(pins:cu)(s:aC)(σ:ao.St)(H:ae)(D:Ends)(E:ao.St->b2),Inv X pins σ H s->t D E σ H->aO (a6 X.prog X.w) X.A (exec st X.env) (o6 X pins D) (λe s'=>∃a3,F3 X pins a3 (E a3) e s') s
section
variable{X:bb}{e o:Expr}{es:gG}{pos eN p:Pos}{k:Nat}{f C:Addr}{fd:cz}{ps:cf}{sp:cG}{b4:TE}{t:f7}{m x:Str}
theorem aeI{pins:cu}{σ:ao.St}{H:ae}{s:aC}{Q:a'}{E:b2}{us:cw}{vs:aY}(F:aL X.prog X.w X.K X.mg X.base (mX X.prog X.w) k f fd ps sp)(aq:gc k X.A)(aa:Binds X.K fd ps [])(I:Inv X pins σ H s)(r:cI vs us)(h:sp vs H Q E):aO (a6 X.prog X.w) X.A (call (.ref f) us) (ic X pins σ Q) (F3 X pins σ E) s:=by
 have aj:(us++[]).length=ps.length:=by rw[mh,<-r.length];exact F.len _ _ _ _ h
 have de:=aa s us I.ew aj;rw[mh]at de;refine pO (rn (F.run X.A X.stack s H ⟨us,[]⟩ us vs Q E aq I.BD de r h) λr s' aT=>?_);cases r with
 |error e=>
  obtain⟨au,cls,a0,H',B,d4,rfl,T,lk,fo⟩:=aT;exact⟨H,s,au,cls,a0,H',B,d4,rfl,I,T,lk,fo⟩
 |ok fb=>
  cases fb with
  |ret u=>exact I.after aT
  |next=>exact hA aT
  |brk=>exact hA aT
  |cont=>exact hA aT
theorem UU{b0:xQ}(he:Xm X e b0)(hs:wg e none pos.line X.env=pure false:=by rfl):FK X (.Expr e pos) (Wr b0):=by intro pins s σ H D E I h;exact ĭ (gf (he pins s σ H _ _ I h) (λv s1⟨x,H1,aP,cg,bM⟩=>⟨σ,H1,aP,bM⟩) λe s' q=>⟨σ,q⟩) I.quiet hs
end
section
variable{M:k8}{A:cW}{E:cx}{s:aC}{B:Heap}{e L:Addr}{cls a0:Value}{Q:Unit->aC->Prop}{env:Env}{outer l:List Env}
theorem aeJ(vn:A.frames=some (env::outer))(hf:env.frame=some L)(NW:sl B (env::outer) e cls a0 s.heap)(e8:∀h',V3 B (env::outer) e cls a0 L h'->s.heap.UpToSlots h'->h6 s.heap h'->Q () {s with heap:=h'}):aO M A (QC (.ref e) env) Q E s:=
 gf (DM Ľ (arK (Q:=λ_ s'=>∃h',s'={s with heap:=h'}/\V3 B (env::outer) e cls a0 L h'/\s.heap.UpToSlots h') (E:=λ_ _=>False) vn hf NW λh' a b=>⟨h',rfl,a,b⟩)) (λ_ s'⟨⟨h',es,a,b⟩,dN⟩=>by subst es;exact e8 h' a b dN) λ_ _ z=>z.1.elim
theorem aeK(dy:V3 B l e cls a0 L s.heap)(e8:∀h',sl B l e cls a0 h'->s.heap.UpToSlots h'->h6 s.heap h'->Q () {s with heap:=h'}):aO M A (RU (.ref e) none) Q E s:=
 gf (DM Pt (wpAny_landsW (Q:=λ_ s'=>∃h',s'={s with heap:=h'}/\sl B l e cls a0 h'/\s.heap.UpToSlots h') (E:=λ_ _=>False) dy λh' a b=>⟨h',rfl,a,b⟩)) (λ_ s'⟨⟨h',es,a,b⟩,dN⟩=>by subst es;exact e8 h' a b dN) λ_ _ z=>z.1.elim
theorem aeL(dy:sl B l e cls a0 s.heap)(e8:∀h',sl B l e cls a0 h'->s.heap.UpToSlots h'->h6 s.heap h'->Q () {s with heap:=h'}):aO M A (RU (.ref e) none) Q E s:=
 gf (DM Pt (lands_againW (Q:=λ_ s'=>∃h',s'={s with heap:=h'}/\sl B l e cls a0 h'/\s.heap.UpToSlots h') (E:=λ_ _=>False) dy λh' a b=>⟨h',rfl,a,b⟩)) (λ_ s'⟨⟨h',es,a,b⟩,dN⟩=>by subst es;exact e8 h' a b dN) λ_ _ z=>z.1.elim
end
noncomputable def aic(K:aU)(c9:m4)(i:Nat)(R:Addr)(ts:eY):eY:=λD σ H=>c9 D (λa3 cls d4 H'=>∃C ag,cls=.ref C/\d4=some ag/\jx K C R=true/\∀au,H' au=none->
 ts {b9:=λet ah=>D.b9 (et.set i none) ah,l7:=D.l7,gq:=λet ah=>D.gq (et.set i none) ah,e0:=λet ah=>D.e0 (et.set i none) ah} (a3.set i (some (.ref au))) (upd H' au (kF au C ag))) σ H
theorem aeM{X:bb}{st kA:Stmt}{oE:List Stmt}{x n:Str}{np yn pos:Pos}{c9:m4}{ts:eY}{i:Nat}{R:Addr}(rE:X.stack=X.env::X.outer)(NZ:X.env.frame=some X.env.locals)(aa:FK X st c9)(eC:X.N.Nodup)(ar:X.N[i]?=some n)(aj:X.env.scope.names.lookup n=some .local)(bP:iV X x)(hm:X.mg x=some (.ref R))(cO:jx X.K R R=true)(Ox:∀au,fV (nj X au) (kA::oE) ts)(kK:(x==("__debug__":Str))=false:=by decide):fN X (.Try [st] [.ExceptHandler (some (.Name x np)) (some n) (kA::oE) yn] [] [] pos) (aic X.K c9 i R ts):=by
 intro pins s σ H D I h;refine arE (Jb (gf (aa pins s σ H D _ I h) (λf s1 q=>?_) λe s1 q=>?_))
 .cases f with
  |next=>exact r9 (r9 q)
  |ret v=>exact q
  |brk=>exact q
  |cont=>exact q
 .obtain⟨nK,b3,sc,au,cls,a0,H',B,d4,rfl,As,T,lk,C,ag,rfl,rfl,kj,k⟩:=q;obtain⟨o0,anR,ano⟩:=lk ag rfl;have vn:X.A.frames=some (X.env::X.outer):=by rw[<-rE];exact I.ok.frames
  have Cg:=T.fb;rw[rE]at Cg;refine aeJ vn NZ Cg λcS NU qY aqz=>aeK NU λdX va SM aqA=>?_;have Ci:=va;rw[<-rE]at Ci;have o7:=T.move Ci (qY.trans SM);have jn:Inv X pins nK H' {s1 with heap:=dX}:=As.Bl (s':={s1 with heap:=dX}) (ch:=[]) o7.os o7.un o7.a_ o7.bare (λb z=>bE z (by simp));obtain⟨ob,qq,G_⟩:=va.there;refine į (YW (rJ (X:=nj X au) (cQ.Inv.oE jn au) bP hm (VO jn.ew kj cO qq G_ ?_) kK)) (by intro q;cases q);refine ald (aeL va λkg Cj SN aqB=>?_);have Ck:=Cj;rw[<-rE]at Ck;have jc:=o7.move Ck SN;obtain⟨QK,v6,τ,Z2,γ,_⟩:=Cj.first;have GY:QK.dict=some ag:=(((aqz.trans aqA).trans aqB).dict anR τ).trans ano;have N8:kg.get? au=some ⟨.ref C,some ag,.fields v6,QK.slots⟩:=by rw[τ];obtain⟨c,d,lh,bj⟩:=QK;dsimp only at Z2 γ GY;rw[Z2,γ,GY]
  have old:∀b o,sc.heap.get? b=some o->b≠au:=λb o e=>T.Ý e;have gR:=T.new;have rf:Inv X pins nK (upd H' au (kF au C ag)) {s1 with heap:=kg}:=by
   refine As.Bl (s':={s1 with heap:=kg}) (ch:=[]) jc.os ⟨jc.un.keep,jc.un.slot,λb o e lx av=>by rw[aA (old b o e)];exact jc.un.free b o e lx av,jc.un.there,λb xs e=>?_,λb o u e=>?_,λb ps e=>?_⟩ ?_ jc.bare (λb z=>bE z (by simp))
   .have:=jc.un.hv b xs e;rw[aA (bW this gR)];exact this
   .have:=jc.un.iN b o u e;rw[aA (bW this gR)];exact this
   .obtain⟨m,this⟩:=jc.un.i_ b ps e;exact⟨m,by rw[aA (bW this gR)];exact this⟩
   .intro b u e;by_cases de:b=au
    .subst de;rw[aQ]at e;cases e;exact agN N8
    .rw[aA de]at e;exact(jc.a_ b u e).mS (λc v _ q=>q) (λc q=>by rw[aA (bW q gR)];exact q) λc xs q=>by rw[aA (bW q gR)];exact q
  refine Ij (X:=nj X au) (cQ.Inv.oE rf au) eC ar (.inl aj) (v:=.ref au) rfl (λgd j9=>?_) (.inr aj);have aR:(X.env.scope.kind==.class||(X.env.scope.kind==.module&&X.env.locals !=X.env.globals))=false:=by rw[I.ok.kind];rfl
  have gone:∀{jb:ao.St}{dz:ae}{e':aC}{mq:aC->Prop},Inv (nj X au) pins jb dz e'->(∀jl,Inv X pins (jb.set i none) dz jl->mq jl)->
    aO (a6 X.prog X.w) X.A (do bindName X.env n .none;arf X.env n yn) (λ_ jl=>mq jl) X.dT e':=λ{jb dz e' mq}hV aT=>by
   have Ar:Inv X pins jb dz e':=Inv.Ğ I.ok.hd hV;obtain⟨m,aS,_⟩:=id Ar.loc;refine arN aj aS aR λn9 v CM RS=>aT _ (Inv.forget Ar eC ar RS λcP yl=>?_);have em:cP=m:=by obtain⟨o,es,ep,aE,aB,_,cJ⟩:=aS;obtain⟨cC,pd,m_,pa,Bt,_,MQ⟩:=yl;rw[aE]at pa;cases pa;rw[aB]at Bt;cases Bt;funext y;rw[<-cJ y,<-MQ y]
   subst em;exact⟨v,CM⟩
  refine gf (Ox au pins gd _ _ _ j9 (k au gR)) (λM_ e' mM=>?_) λ_ _ z=>hA z;cases M_ with
  |next=>obtain⟨jb,dz,hV,q⟩:=mM;exact gone hV λjl kx=>⟨_,dz,kx,q⟩
  |brk=>obtain⟨jb,dz,hV,q⟩:=mM;exact gone hV λjl kx=>⟨_,dz,kx,q⟩
  |cont=>obtain⟨jb,dz,hV,q⟩:=mM;exact gone hV λjl kx=>⟨_,dz,kx,q⟩
  |ret u=>obtain⟨iC,jb,dz,hV,D6,q⟩:=mM;exact gone hV λjl kx=>⟨iC,_,dz,kx,D6,q⟩
section
variable{X:bb}
theorem abL:jU X (.builtin "isinstance") (λxs H Q=>∃(au C ag:Addr)(b:Bool),H au=some (kF au C ag)/\kS X.K C/\((∃R,xs=[.ref au,.ref R]/\hZ X.K (.ref C) (.ref R)=some b)\/∃T,xs=[.ref au,.ty T]/\hZ X.K (.ref C) (.type T)=some b)/\Q (.aM b) H):=by
 intro pins s σ H xs us Q I r h;obtain⟨au,C,ag,b,h_,c,jT,q⟩:=h;obtain⟨⟨vs,bj,bP⟩,_,_⟩:=(show ee X.prog X.w H s.heap au (kF au C ag)from I.a_ au _ h_)
 have ty:q1 s.heap au C:=⟨_,bP,rfl⟩
 rcases jT with⟨R,rfl,qx⟩|⟨T,rfl,qx⟩
 .obtain⟨u,eT,rfl,er,gQ⟩:=vals2 r;cases er;cases gQ;exact mn (DD c) I.ew ty qx (λz=>nomatch z) λa4=>⟨.aM b,H,I.tok a4,rfl,q⟩
 .obtain⟨u,eT,rfl,er,gQ⟩:=vals2 r;cases er;cases gQ;exact mn (DD c) I.ew ty qx (λz=>nomatch z) λa4=>⟨.aM b,H,I.tok a4,rfl,q⟩
theorem SX{K:aU}{a:Addr}{xs:aY}{g:jo}{c9:eY}{D:Ends}{σ:ao.St}{H:ae}(Pv:Nat->ao.St->ae->Prop)(h0:Pv 0 σ H)(aj:∀i σ H,Pv i σ H->aG K H a xs)(hs:∀i x σ H p,xs[i]?=some x->Pv i σ H->H p=none->g (.ref p) σ (upd H p (.tup [.int i,x])) λet ah=>c9 {D with b9:=Pv (i+1),e0:=Pv (i+1),gq:=D.b9} et ah)(hd:∀σ H,Pv xs.length σ H->D.b9 σ H):
  ∃W:Nat->Nat->ao.St->ae->Prop,(∃m,W 0 m σ H)/\∀i m σ H,W i m σ H->
   ((sm K a).stop i H/\D.b9 σ H)\/((sm K a).go i H/\∃N:ao.St->ae->Prop,(∀a3 H',N a3 H'->∃cP,cP<m/\W (i+1) cP a3 H')/\∀x H',(sm K a).nI i H x H'->g x σ H' λet ah=>c9 {D with b9:=N,e0:=N,gq:=D.b9} et ah):=by
 refine⟨λi m σ H=>m=xs.length-i/\i<=xs.length/\Pv i σ H,⟨xs.length,by simp,e4 _,h0⟩,?_⟩;rintro i m σ H ⟨rfl,ar,p⟩;have q:=aj i σ H p;by_cases cK:i<xs.length
 .refine .inr ⟨⟨xs,xs[i],q,by simp[cK]⟩,Pv (i+1),λa3 H' hu=>⟨xs.length-(i+1),by omega,rfl,cK,hu⟩,λv H' y=>?_⟩;obtain⟨r,x,aq,rfl,av,rfl⟩:=y;exact hs i x σ H r (av xs q) p aq
 .have e:i=xs.length:=by omega
  subst e;exact .inl ⟨⟨xs,q,cj _⟩,hd σ H p⟩
end
end cQ
namespace dY
open PySem ao cQ dp
inductive aax(vs:aY)(H:ae)(Q:a')(bI:b2):Prop where
 |mk (c:Int) (m:Nat) (bV:vs=[.int c,.int m]) (bD:m<=12) (b_:∀(p:Addr)(H':ae),H p=none->aN H H'->H' p=some (.lst (cE (rK c m)))->Q (.ref p) H')
noncomputable def RI:cG:=λvs H Q bI=>aax vs H Q bI
theorem asb{c:Int}{m:Nat}(h:m<=12):Good (rK c m):=⟨λx av=>by
 obtain⟨k,_,rfl⟩:=cn.mp av;exact agK c k,aav h,by rw[QU];exact h⟩
noncomputable def xx(c:Int)(k j:Nat):Int:=c/64+5*(0+(j:Int))*(0+(j:Int))+2*(0+(k:Int))*(if decide (V.int (0+(j:Int))=V.int (c/8%(1+c%8)))=true then 1 else 0)
theorem aid(c:Int)(k j:Nat):97+(xx c k j%26).toNat=h8 c k j:=by
 unfold xx h8;rw[afe c];by_cases h:j=fE c
 .subst h;rw[bL rfl,bL (cq (by rw[pR])),pR,pR]
 .rw[bF h,bF (by rw[dF (λz=>h (by have:=V.int.inj z;omega))];exact ff),pR,pR]
theorem ã{α:Type}(f:Nat->α)(n:Nat):(d_ (n+1)).map f=(d_ n).map f++[f n]:=by rw[sx,eW];rfl
section
variable{P:bJ}{w:bq}{K:aU}{mg:cB}{base:Heap}
noncomputable abbrev Ed:Stmt:=top 44
theorem ajE:dw ["_law_script","_law_k"] ["_law_script","_law_k"] (c3 Ed):=⟨rfl,rfl,rfl,by decide+kernel,rfl,by decide+kernel,by decide+kernel⟩
theorem aie{f:Addr}{fd:cz}(F:bw K "_law_cell_at" "_law_cell_at" Ed f fd)(len:mg "len"=none):aL P w K mg base a5 1 f fd ["_law_script","_law_k"] (K' K):=by
 refine F.ok ajE (λvs H Q E h=>?_) (λcdv A outer s H vs Q E aq h=>?_)
 .obtain⟨a,ns,k,rfl,_⟩:=h;rfl
 .obtain⟨a,ns,k,rfl,fD,h0,q⟩:=h;refine⟨_,bc (eO (eu pw (U 1) (dB gH (by rfl) len PySem.boot_len (ak (U 0) aD)) (dr _)) (bo (c7 (cp fk (U 0) (U 1) (λ_ _=>rfl)))) fi) (bo (c7 aW)),?_⟩;refine⟨_,rfl,_,rfl,a,_,rfl,.inl fD,_,_,rfl,rfl,_,rfl,?_⟩;refine nC (λh=>?_) (λh=>?_)
  .have af:=jk h;exact⟨_,rfl,_,rfl,a,_,k,_,rfl,rfl,fD,ae6 h0 af,q⟩
  .have af:¬k<((ns.map V.int).length:Int):=λz=>h (cq z);rw[bp]at af;have e:ns.getD k.toNat 0=0:=by rw[eJ,List.getElem?_eq_none (by omega)];rfl
   rw[e]at q;exact q
noncomputable abbrev DL:Stmt:=top 45
noncomputable abbrev acq:List Str:=["_law_cell","_law_many","_law_letters","_law_size","_law_at","_law_names","_law_k","_law_name","_law_j","_law_place"]
theorem qc:dw acq ["_law_cell","_law_many"] (c3 DL):=⟨rfl,rfl,rfl,by decide+kernel,rfl,by decide+kernel,by decide+kernel⟩
theorem aay{f:Addr}{fd:cz}(F:bw K "_law_houses" "_law_houses" DL f fd)(B:gg mg):aL P w K mg base a5 1 f fd ["_law_cell","_law_many"] RI:=by
 refine F.ok qc (λvs H Q E h=>?_) (λcdv A outer s H vs Q E aq h=>?_)
 .obtain⟨c,m,rfl,_⟩:=h;rfl
 .obtain⟨c,m,rfl,hm,q⟩:=h;refine⟨_,(bc (c8 (i:=2) qc.aJ rfl (b5 rfl) jO)
   (bc (c8 (i:=3) qc.aJ rfl (b5 rfl) (bH h4 aW (bH eZ (U 0) aW)))
   (bc (c8 (i:=4) qc.aJ rfl (b5 rfl) (bH eZ (bH gY (U 0) aW) (U 3)))
   (bc (c8 (i:=5) qc.aJ rfl (b5 rfl) (gJ aD))
   (bc (kd kz rfl (yr rfl B.range (ak (U 1) aD)) (ei (i:=6) qc.aJ rfl (b5 rfl))
    (bc (c8 (i:=7) qc.aJ rfl (b5 rfl) jO)
   (bc (kd kz rfl (yr rfl B.range (ak (U 3) aD)) (ei (i:=8) qc.aJ rfl (b5 rfl))
    (bc (c8 (i:=9) qc.aJ rfl (b5 rfl) (bH h4 (bH h4 (bH gY (U 0) aW) (bH tB (bH tB aW (U 8)) (U 8))) (bH tB (bH tB aW (U 6)) (m9 ŋ (by rfl) B.int Ji (ak (iZ i2 (U 8) (U 4) (dr _)) aD)))))
   (bo (c8 (i:=7) qc.aJ rfl (b5 rfl) (bH C5 (U 7) (cp af4 (U 2) (bH eZ (U 9) aW) (λ_ _=>rfl)))))))
   (bo (gI (nr nV o1 o2 m' (U 5) (ak (U 7) aD)))))))
   (bo (c7 (U 5)))))))),?_⟩
  have bV:=WV c;have bD:=afd c;refine⟨_,rfl,_,_,rfl,rfl,(by show(0:Int)<8;decide),_,_,rfl,rfl,?_⟩;refine⟨_,rfl,_,_,rfl,rfl,⟨by decide,by decide⟩,_,rfl,_,_,rfl,rfl,(by show(0:Int)<1+c%8;omega),?_⟩;refine⟨e4 _,λp np=>⟨_,rfl,_,rfl,(by omega),(by omega),?_⟩⟩;refine Ŋ (lo:=0) (n:=m) (λk σ ah=>ah=upd H p (.lst (cE (rK c k)))/\∃a1 a2 hE jd,σ=[some (.int c),some (.int m),some (.str (eH "abcdefghijklmnopqrstuvwxyz")),some (.int (1+c%8)),some (.int (c/8%(1+c%8))),some (.ref p),a1,a2,hE,jd]) ⟨rfl,none,none,none,none,rfl⟩ ?_ ?_
  .rintro k σ ah aX ⟨rfl,a1,a2,hE,jd,rfl⟩;refine⟨_,rfl,_,rfl,(by omega),(by omega),?_⟩;refine Ŋ (lo:=0) (n:=hsz c) (λj σ bg=>bg=upd H p (.lst (cE (rK c k)))/\∃f9 gn,σ=[some (.int c),some (.int m),some (.str (eH "abcdefghijklmnopqrstuvwxyz")),some (.int (1+c%8)),some (.int (c/8%(1+c%8))),some (.ref p),some (.int (0+(k:Int))),some (.str (S ((d_ j).map (h8 c k)))),f9,gn]) ⟨rfl,hE,jd,rfl⟩ ?_ ?_
   .rintro j σ bg bK ⟨rfl,f9,gn,rfl⟩;refine⟨_,rfl,_,_,rfl,rfl,⟨by decide,by decide⟩,_,rfl,_,_,rfl,rfl,.inl ⟨by decide,by decide⟩,_,rfl,_,_,rfl,rfl,.inr ⟨by show -(2 ^ 64)<0+(j:Int);omega,by show 0+(j:Int)<2 ^ 64;omega⟩,_,_,rfl,rfl,_,rfl,_,_,rfl,rfl,.inl ⟨by decide,by decide⟩,_,rfl,_,rfl,rfl,.inr ⟨_,rfl,_,_,rfl,rfl,.inl ⟨by show -(2 ^ 64)<2*(0+(k:Int));omega,by show 2*(0+(k:Int))<2 ^ 64;omega⟩,_,_,rfl,rfl,?_⟩⟩;have k1:0<=xx c k j%26:=ie _ (by decide);have k2:xx c k j%26<26:=lI _ (by decide);have hQ:(⟨#[97+(xx c k j%26).toNat]⟩:Str).length=1:=rfl;refine⟨_,rfl,_,rfl,_,rfl,_,_,rfl,rfl,(by show(0:Int)<26;decide),_,_,_,rfl,rfl,(by decide+kernel),ab5 k1 k2,_,_,rfl,rfl,?_,rfl,some (.int (0+(j:Int))),some (.int (xx c k j)),?_⟩
    .rw[qJ,bp,jG];show j+1<=sizeLine;exact nS (eM (by omega))
    .rw[ã,<-wB,<-aid];rfl
   .rintro σ bg ⟨rfl,f9,gn,rfl⟩;refine⟨_,rfl,.inl ⟨rfl,_,aG.of aQ⟩,_,rfl,p,_,_,rfl,rfl,aQ,eM (by rw[IS,QU];omega),?_,_,_,_,_,rfl⟩;rw[VE];unfold rK;rw[ã];unfold cE;rw[eW];rfl
  .rintro σ ah ⟨rfl,a1,a2,hE,jd,rfl⟩;exact⟨_,rfl,q p _ np (bU np) aQ⟩
noncomputable abbrev vW:Stmt:=top 8
noncomputable abbrev vI:Stmt:=top 9
noncomputable abbrev vX:Stmt:=top 10
noncomputable abbrev tq:Stmt:=top 11
noncomputable abbrev zN:Stmt:=top 30
noncomputable abbrev zO:Stmt:=top 31
noncomputable abbrev zP:Stmt:=top 32
noncomputable abbrev zQ:Stmt:=top 33
theorem Vw:dw ["thing"] ["thing"] (c3 vW):=⟨rfl,rfl,rfl,by decide+kernel,rfl,by decide+kernel,by decide+kernel⟩
theorem ac3{f:Addr}{fd:cz}(F:bw K "is_whole" "is_whole" vW f fd)(B:gg mg)(KT:Wv K):aL P w K mg base a5 1 f fd ["thing"] TN:=by
 refine F.ok Vw (λvs H Q E h=>?_) (λcdv A outer s H vs Q E aq h=>?_)
 .obtain⟨i,rfl,_⟩:=h;rfl
 .obtain⟨i,rfl,q⟩:=h;refine⟨_,(bo (c7 (jw (dB lT (by rfl) B.isinstance jr (ak (U 0) (ak (lp (by rfl) B.int Ji) aD))) (mH (Wh (dB lT (by rfl) B.isinstance jr (ak (U 0) (ak (lp (by rfl) B.bool TL) aD)))))))),?_⟩;refine⟨_,rfl,_,_,_,_,_,rfl,⟨rfl,.int _,EM _ _⟩,_,rfl,hP ?_⟩;exact⟨_,rfl,_,_,_,_,_,rfl,⟨rfl,.int _,KT.Pj⟩,_,rfl,q⟩
theorem UZ:dw ["thing","least","greatest"] ["thing","least","greatest"] (c3 vI):=⟨rfl,rfl,rfl,by decide+kernel,rfl,by decide+kernel,by decide+kernel⟩
theorem abM{f BX:Addr}{fd Cb:cz}(F:bw K "is_whole_within" "is_whole_within" vI f fd)(qa:dJ K mg "is_whole" vW ["thing"] BX Cb)(C7:aL P w K mg base a5 1 BX Cb ["thing"] TN):aL P w K mg base a5 2 f fd ["thing","least","greatest"] SU:=by
 refine F.ok UZ (λvs H Q E h=>?_) (λcdv A outer s H vs Q E aq h=>?_)
 .obtain⟨i,a,b,rfl,_⟩:=h;rfl
 .obtain⟨i,a,b,rfl,af,ai,q⟩:=h;refine⟨_,(bo (c7 (jw (fj C7 (aq.mono (by decide)) (by rfl) qa.at_ qa.fn.bQ qa.bd .nil dj (ak (U 0) aD)) (mH (SF px px (U 1) (U 0) (U 2)))))),?_⟩;refine⟨_,rfl,_,rfl,_,rfl,hP ?_⟩;exact⟨_,rfl,_,rfl,_,_,rfl,rfl,_,rfl,fu (cq af) ⟨_,rfl,_,_,rfl,rfl,nt (cq ai) q⟩⟩
theorem Vx:dw ["thing","length"] ["thing","length"] (c3 vX):=⟨rfl,rfl,rfl,by decide+kernel,rfl,by decide+kernel,by decide+kernel⟩
theorem ac4{f:Addr}{fd:cz}(F:bw K "is_tuple_of" "is_tuple_of" vX f fd)(B:gg mg):aL P w K mg base a5 1 f fd ["thing","length"] TO:=by
 refine F.ok Vx (λvs H Q E h=>?_) (λcdv A outer s H vs Q E aq h=>?_)
 .obtain⟨r,xs,n,rfl,_⟩:=h;rfl
 .obtain⟨r,xs,n,rfl,af,ai,q⟩:=h;refine⟨_,(bo (c7 (jw (dB lT (by rfl) B.isinstance jr (ak (U 0) (ak (lp (by rfl) B.tuple yC) aD))) (mH (iZ i2 (dB gH (by rfl) B.len gA (ak (U 0) aD)) (U 1) (dr _)))))),?_⟩;refine⟨_,rfl,_,_,_,_,_,rfl,⟨rfl,.tup af,EM _ _⟩,_,rfl,hP ?_⟩;exact⟨_,rfl,r,_,rfl,.inr (cH.of af),_,rfl,rfl,nt (cq (hh V.int ai)) q⟩
theorem U0:dw ["houses","one","other"] ["houses","one","other"] (c3 tq):=⟨rfl,rfl,rfl,by decide+kernel,rfl,by decide+kernel,by decide+kernel⟩
theorem abN{f:Addr}{fd:cz}(F:bw K "are_unlike_houses" "are_unlike_houses" tq f fd):aL P w K mg base a5 1 f fd ["houses","one","other"] (SV K):=by
 refine F.ok U0 (λvs H Q E h=>?_) (λcdv A outer s H vs Q E aq h=>?_)
 .obtain⟨a,ys,x,y,rfl,_⟩:=h;rfl
 .obtain⟨a,ys,x,y,rfl,fD,av,cM,ne,q⟩:=h;refine⟨_,(bo (c7 (jw (iZ ő (U 1) (U 0) (by rfl)) (jw (iZ ő (U 2) (U 0) (by rfl)) (mH (iZ wt (U 1) (U 2) (dr _))))))),?_⟩;refine⟨_,rfl,_,rfl,a,_,rfl,.inl fD,rfl,RB ys,_,rfl,fu (TP av) ?_⟩;refine⟨_,rfl,_,rfl,a,_,rfl,.inl fD,rfl,RB ys,_,rfl,fu (TP cM) ?_⟩;refine⟨_,rfl,_,rfl,rfl,nt ?_ q⟩;rw[dF (λz=>ne (V.str.inj z))];rfl
theorem agP:dw ["thing"] ["thing"] (c3 zN):=⟨rfl,rfl,rfl,by decide+kernel,rfl,by decide+kernel,by decide+kernel⟩
theorem aeN{f:Addr}{fd:cz}(F:bw K "is_name" "is_name" zN f fd)(B:gg mg)(mY:AA mg):aL P w K mg base a5 1 f fd ["thing"] JI:=by
 refine F.ok agP (λvs H Q E h=>?_) (λcdv A outer s H vs Q E aq h=>?_)
 .obtain⟨l,rfl,_⟩:=h;rfl
 .obtain⟨l,rfl,eC,q⟩:=h;refine⟨_,(bc (eO (ih.pt (om (i0 (iK (dB lT (by rfl) B.isinstance jr (ak (U 0) (ak (lp (by rfl) B.str agC) aD))))) (pk (i0 (SG px px aW (dB arX (by rfl) B.len gA (ak (U 0) aD)) (tk (by rfl) mY.acY)))))) (bo (c7 hL)) fi)
   (bo (c7 (dB (SI rfl) (by rfl) B.MB JH (ak (tW (N':=["sign"]) (cs:=[none]) rfl (afZ (U 0)) rfl (by decide+kernel) rfl (by decide+kernel) (lq (λp aR=>bE aR (eA))) rfl
    (.own .nil)
    (λC s3 bg cb e9=>⟨(ei (i:=0) (by show(["sign"]:cf).Nodup;decide+kernel) rfl (.inl rfl)),qv,(SF Ĺ Ĺ jO (U 0) jO)⟩)) aD))))),?_⟩
  have aj:=qJ l;have hz:(S l).length<=sizeLine:=nS (eM (by rw[aj];have:=eC.2.1;omega));have af:(1:Int)<=((S l).length:Int):=by have:=eC.1;omega
  have kI:((S l).length:Int)<=8:=by have:=eC.2.1;omega
  refine⟨_,rfl,_,_,_,_,_,rfl,⟨rfl,.str _,EM _ _⟩,_,rfl,gs ?_⟩;refine⟨_,rfl,_,rfl,hz,_,_,rfl,rfl,_,rfl,fu (cq af) ⟨_,_,rfl,rfl,_,rfl,Kd kI ?_⟩⟩;dsimp only[zF,Av,E_,tV,rS];refine IQ (J:=Fu (S l)) (H1:=H) (xs:=signs (S l)) (rest:=[]) (λR h=>⟨_,rfl,_,rfl,h⟩) rfl (afY _) (eM ?_) (λ_=>.aM true) (λi x ah R ex aF cO=>?_) (λD H' af ai bR=>?_)
  .rw[VR,bp];have:=eC.2.1;omega
  .rw[VR]at ex;obtain⟨k,aX,rfl⟩:=cn.mp (eK ex);have θ:=eC.2.2 k aX;have aE:(!decide ((S [k]).cps.toList<(eH "a").cps.toList))=true:=by rw[aqv];exact(Wo k 97).trans (cq θ.1)
   have aB:(!decide ((eH "z").cps.toList<(S [k]).cps.toList))=true:=by rw[aqw];exact(Wo 122 k).trans (cq θ.2)
   exact⟨_,rfl,_,_,rfl,rfl,_,rfl,fu aE ⟨_,_,rfl,rfl,nt aB (cO ah (aN.refl _))⟩⟩
  .exact⟨D,AI (signs (S l)).length true,rfl,aG.of (by rw[ai,Tb]),nt (Tc _) (q H' bR)⟩
theorem agQ:dw ["things"] ["things"] (c3 zO):=⟨rfl,rfl,rfl,by decide+kernel,rfl,by decide+kernel,by decide+kernel⟩
theorem aeO{f BQ:Addr}{fd Ca:cz}(F:bw K "are_houses" "are_houses" zO f fd)(B:gg mg)(mY:AA mg)(Dq:dJ K mg "is_name" zN ["thing"] BQ Ca)(RJ:aL P w K mg base a5 1 BQ Ca ["thing"] JI):
  aL P w K mg base a5 2 f fd ["things"] JJ:=by
 refine F.ok agQ (λvs H Q E h=>?_) (λcdv A outer s H vs Q E aq h=>?_)
 .obtain⟨a,hs,rfl,_⟩:=h;rfl
 .obtain⟨a,hs,rfl,aK,rv,q⟩:=h;refine⟨_,(bc (eO (ih.pt (om (i0 (iK (dB lT (by rfl) B.isinstance jr (ak (U 0) (ak (lp (by rfl) B.list oc) aD))))) (pk (eu wu (dB gH (by rfl) B.len gA (ak (U 0) aD)) (tk (by rfl) mY.acU) (dr _))))) (bo (c7 hL)) fi)
   (bo (c7 (jw (dB (SI rfl) (by rfl) B.MB JH (ak (tW (N':=["thing"]) (cs:=[none]) rfl (jL (U 0)) rfl (by decide+kernel) rfl (by decide+kernel) (lq (λp aR=>bE aR (eA))) rfl
    (.own .nil)
    (λC s3 bg cb e9=>⟨(ei (i:=0) (by show(["thing"]:cf).Nodup;decide+kernel) rfl (.inl rfl)),qv,(fj RJ (aq.mono (by decide)) (by rfl) Dq.at_ Dq.fn.bQ Dq.bd .nil dj (ak (U 0) aD))⟩)) aD)) (mH (iZ i2 (dB arq (by rfl) B.len gA (ak (m9 (ab6 rfl) (by rfl) B.aqC agD (ak (U 0) aD)) aD)) (dB gH (by rfl) B.len gA (ak (U 0) aD)) (dr _))))))),?_⟩
  have aj:=IS hs;have hf:=rv.eE;refine⟨_,rfl,_,_,_,_,_,rfl,⟨rfl,.lst aK,EM _ _⟩,_,rfl,gs ?_⟩;refine⟨_,rfl,a,_,rfl,.inl (aG.of aK),_,_,rfl,rfl,_,rfl,ek (dF (by omega)) ?_⟩;dsimp only[zF,Av,E_,tV,rS];refine IQ (J:=mf K a) (H1:=H) (xs:=cE hs) (rest:=[]) (λR h=>⟨_,rfl,a,rfl,⟨_,aG.of aK⟩,h⟩) rfl (tn (aG.of aK)) (eM (by omega)) (λ_=>.aM true) (λi x ah R ex aF cO=>?_) (λD H' af ai bR=>?_)
  .obtain⟨l,vq,rfl⟩:=cn.mp (eK ex);exact⟨_,rfl,l,rfl,rv.nm l vq,λH' oD=>cO H' oD⟩
  .refine⟨D,AI (cE hs).length true,rfl,aG.of (by rw[ai,Tb]),_,rfl,fu (Tc _) ?_⟩;have tc:=bR _ _ aK;refine⟨_,rfl,a,hs.map S,rfl,aG.of (by rw[tc,TM]),(by rw[bp];omega),λp aR=>?_⟩;have s2:aN H' (upd H' p (FJ P w p (nE (λi=>(hs.map S).getD i mr) (hs.map S).length))):=bU aR;refine⟨p,_,rfl,aQ,_,rfl,a,_,rfl,.inl (aG.of (s2 _ _ tc)),rfl,nt (cq ?_) (q _ (bR.trans s2))⟩;rw[UD _ _ (ae8 rv.aJ),bp,aj]
theorem agR:dw ["houses","thing"] ["houses","thing"] (c3 zP):=⟨rfl,rfl,rfl,by decide+kernel,rfl,by decide+kernel,by decide+kernel⟩
theorem aeP{f f1 f2 cv:Addr}{fd cY d8 g8:cz}(F:bw K "is_road" "is_road" zP f fd)(mY:AA mg)(p6:dJ K mg "is_tuple_of" vX ["thing","length"] f1 cY)(Co:aL P w K mg base a5 1 f1 cY ["thing","length"] TO)(lQ:dJ K mg "are_unlike_houses" tq ["houses","one","other"] f2 d8)(uY:aL P w K mg base a5 1 f2 d8 ["houses","one","other"] (SV K))(m6:dJ K mg "is_whole_within" vI ["thing","least","greatest"] cv g8)(xX:aL P w K mg base a5 2 cv g8 ["thing","least","greatest"] SU):
  aL P w K mg base a5 3 f fd ["houses","thing"] (JO K):=by
 refine F.ok agR (λvs H Q E h=>?_) (λcdv A outer s H vs Q E aq h=>?_)
 .obtain⟨a,r,hs,d,rfl,_⟩:=h;rfl
 .obtain⟨a,r,hs,d,rfl,fD,aJ,ok,lZ,q⟩:=h;refine⟨_,(bo (c7 (jw (fj Co (aq.mono (by decide)) (by rfl) p6.at_ p6.fn.bQ p6.bd .nil dj (ak (U 1) (ak aW aD))) (jw (fj uY (aq.mono (by decide)) (by rfl) lQ.at_ lQ.fn.bQ lQ.bd .nil dj (ak (U 0) (ak (cp e5 (U 1) aW (λ_ _=>rfl)) (ak (cp e5 (U 1) aW (λ_ _=>rfl)) aD)))) (jw (fj xX (aq.mono (by decide)) (by rfl) m6.at_ m6.fn.bQ m6.bd .nil dj (ak (cp e5 (U 1) aW (λ_ _=>rfl)) (ak aW (ak (tk (by rfl) mY.ac0) aD)))) (mH (fj xX (aq.mono (by decide)) (by rfl) m6.at_ m6.fn.bQ m6.bd .nil dj (ak (cp e5 (U 1) aW (λ_ _=>rfl)) (ak aW (ak (tk (by rfl) mY.acX) aD)))))))))),?_⟩;have CB:aG K H a ((hs.map S).map V.str):=by rw[<-TM];exact fD
  refine⟨_,rfl,r,_,_,rfl,lZ,rfl,_,rfl,hP ?_⟩;refine⟨_,rfl,_,rfl,r,_,_,_,rfl,rfl,cH.of lZ,rfl,_,rfl,r,_,_,_,rfl,rfl,cH.of lZ,rfl,a,hs.map S,_,_,rfl,CB,y5 ok.a,y5 ok.b,ah9 aJ ok.a ok.b ok.ne,_,rfl,hP ?_⟩;refine⟨_,rfl,r,_,_,_,rfl,rfl,cH.of lZ,rfl,_,_,_,rfl,ok.t.1,ok.t.2,_,rfl,hP ?_⟩;exact⟨_,rfl,r,_,_,_,rfl,rfl,cH.of lZ,rfl,_,_,_,rfl,ok.m.1,ok.m.2,q⟩
theorem agr:dw ["houses","things"] ["houses","things"] (c3 zQ):=⟨rfl,rfl,rfl,by decide+kernel,rfl,by decide+kernel,by decide+kernel⟩
theorem aeQ{f BQ:Addr}{fd Ca:cz}(F:bw K "are_roads" "are_roads" zQ f fd)(B:gg mg)(mY:AA mg)(Dr:dJ K mg "is_road" zP ["houses","thing"] BQ Ca)(RK:aL P w K mg base a5 3 BQ Ca ["houses","thing"] (JO K)):
  aL P w K mg base a5 4 f fd ["houses","things"] (JP K):=by
 refine F.ok agr (λvs H Q E h=>?_) (λcdv A outer s H vs Q E aq h=>?_)
 .obtain⟨a,b,hs,rs,ds,rfl,_⟩:=h;rfl
 .obtain⟨a,b,hs,rs,ds,rfl,aK,aJ,aa,cO,eE,q⟩:=h;refine⟨_,(bc (eO (ih.pt (om (i0 (iK (dB lT (by rfl) B.isinstance jr (ak (U 1) (ak (lp (by rfl) B.list oc) aD))))) (pk (eu wu (dB gH (by rfl) B.len gA (ak (U 1) aD)) (tk (by rfl) mY.acW) (dr _))))) (bo (c7 hL)) fi)
   (bo (c7 (dB (SI rfl) (by rfl) B.MB JH (ak (tW (N':=["thing","houses"]) (cs:=[none,some 0]) rfl (jL (U 1)) rfl (by decide+kernel) rfl (by decide+kernel) (lq (nP.mpr ⟨rfl,(λp aR=>bE aR (eA))⟩)) rfl
    (.own (.lS rfl (.inl rfl) (.inl rfl) rfl .nil))
    (λC s3 bg cb e9=>⟨(ei (i:=0) (by show(["thing","houses"]:cf).Nodup;decide+kernel) rfl (.inl rfl)),qv,(fj RK (aq.mono (by decide)) (by rfl) Dr.at_ Dr.fn.bQ Dr.bd .nil dj (ak (U 1) (ak (U 0) aD)))⟩)) aD))))),?_⟩
  have aj:=eB rs;refine⟨_,rfl,_,_,_,_,_,rfl,⟨rfl,.lst aa,EM _ _⟩,_,rfl,gs ?_⟩;refine⟨_,rfl,b,_,rfl,.inl (aG.of aa),_,_,rfl,rfl,_,rfl,ek (dF (by omega)) ?_⟩;dsimp only[zF,Av,E_,tV,rS];refine IQ (J:=mf K b) (H1:=H) (xs:=aH rs) (rest:=[some (.ref a)]) (λR h=>⟨_,rfl,b,rfl,⟨_,aG.of aa⟩,h⟩) rfl (tn (aG.of aa)) (eM (by omega)) (λ_=>.aM true) (λi x ah R ex aF yo=>?_) (λD H' af ai bR=>?_)
  .unfold aH at ex;rw[c6]at ex;obtain⟨r,gb,rfl⟩:=fL.mp ex;obtain⟨d,_,ok,hd⟩:=cO.get gb;exact⟨_,rfl,_,rfl,a,r,hs,d,rfl,aF.seq aK,aJ,ok,aF _ _ hd,yo ah (aN.refl _)⟩
  .exact⟨D,AI (aH rs).length true,rfl,aG.of (by rw[ai,Tb]),nt (Tc _) (q H' bR)⟩
noncomputable abbrev zS:Stmt:=gL (top 36) 0
noncomputable abbrev vC:Stmt:=gL (top 36) 1
noncomputable abbrev DV:Stmt:=gL (top 36) 2
theorem ags:dw ["self","houses","roads"] ["self","houses","roads"] (c3 zS):=⟨rfl,rfl,rfl,by decide+kernel,rfl,by decide+kernel,by decide+kernel⟩
theorem aeR{C f Y' Y_:Addr}{fd Ze Zg:cz}(F:bw K "__init__" "Net.__init__" zS f fd)(B:gg mg)(fU:sf K C)(CY:dJ K mg "are_houses" zO ["things"] Y' Ze)(PX:aL P w K mg base a5 2 Y' Ze ["things"] JJ)(C':dJ K mg "are_roads" zQ ["houses","things"] Y_ Zg)(QL:aL P w K mg base a5 4 Y_ Zg ["houses","things"] (JP K)):
  aL P w K mg base a5 5 f fd ["self","houses","roads"] (JQ K C):=by
 refine F.ok ags (λvs H Q E h=>?_) (λcdv A outer s H vs Q E aq h=>?_)
 .obtain⟨x,ag,a,b,hs,rs,ds,rfl,_⟩:=h;rfl
 .obtain⟨x,ag,a,b,hs,rs,ds,rfl,av,aK,rv,aa,cO,eE,q⟩:=h;refine⟨_,(bc (eO (i0 (iK (fj PX (aq.mono (by decide)) (by rfl) CY.at_ CY.fn.bQ CY.bd .nil dj (ak (U 1) aD)))) (bo SE) fi)
   (bc (eO (i0 (iK (fj QL (aq.mono (by decide)) (by rfl) C'.at_ C'.fn.bQ C'.bd .nil dj (ak (U 1) (ak (U 2) aD))))) (bo SE) fi)
   (bc (ll (U 0) (m9 u9 (by rfl) B.list oc (ak (U 1) aD)) rfl)
   (bo (ll (U 0) (m9 u9 (by rfl) B.list oc (ak (U 2) aD)) rfl))))),?_⟩
  refine⟨_,rfl,a,hs,rfl,aK,rv,λH1 s1=>⟨_,rfl,gs ?_⟩⟩;refine⟨_,rfl,_,rfl,a,b,hs,rs,ds,rfl,aG.of (s1 _ _ aK),rv.aJ,s1 _ _ aa,cO.same s1,eE,λah s2=>⟨_,rfl,gs ?_⟩⟩;have gw:=s1.trans s2;refine⟨_,rfl,a,_,rfl,.inl (aG.of (gw _ _ aK)),λbt tc=>?_⟩;have s3:aN ah (upd ah bt (.lst (cE hs))):=bU tc;have j1:=gw.trans s3;have b9:x≠bt:=bW (gw _ _ av) tc;refine⟨_,rfl,x,C,ag,_,rfl,j1 _ _ av,fU.cl,fU.tE,(by decide),?_⟩;have anl:b≠x:=λe=>by rw[e,av]at aa;cases aa
  have ND:upd (upd ah bt (.lst (cE hs))) x (.ins C ag (jX "kept_houses" (.ref bt) [])) b=some (.lst (aH rs)):=by rw[aA anl];exact j1 _ _ aa
  refine⟨_,rfl,b,_,rfl,.inl (aG.of ND),λbu de=>?_⟩;have QI:bu≠x:=λe=>by rw[e,aQ]at de;cases de
  have nb:bu≠bt:=λe=>by rw[e,aA b9.symm,aQ]at de;cases de
  refine⟨_,rfl,x,C,ag,_,rfl,(by rw[aA QI.symm,aQ]),fU.cl,fU.jj,(by show 1<1000;decide),?_⟩;refine q _ bt bu (λc o ax kJ=>?_) (by rw[aQ];rfl) ?_ ?_ ?_ ?_
  .rw[aA ax];have:c≠bu:=λe=>by rw[<-e,aA ax,j1 _ _ kJ]at de;cases de
   rw[aA this,aA ax];exact j1 _ _ kJ
  .rw[aA b9.symm,aA nb.symm,aA b9.symm,aQ]
  .rw[aA QI,aQ]
  .exact gw.free tc
  .rw[aA QI,aA nb]at de;exact gw.free de
theorem abO:dw ["self"] ["self"] (c3 vC):=⟨rfl,rfl,rfl,by decide+kernel,rfl,by decide+kernel,by decide+kernel⟩
theorem ac5:dw ["self"] ["self"] (c3 DV):=⟨rfl,rfl,rfl,by decide+kernel,rfl,by decide+kernel,by decide+kernel⟩
theorem aaz{C f:Addr}{fd:cz}(F:bw K "houses" "Net.houses" vC f fd)(B:gg mg)(fU:sf K C):aL P w K mg base a5 1 f fd ["self"] (Dp C):=by
 refine F.ok abO (λvs H Q E h=>?_) (λcdv A outer s H vs Q E aq h=>?_)
 .obtain⟨x,bt,bu,xs,ys,rfl,_⟩:=h;rfl
 .obtain⟨x,bt,bu,xs,ys,rfl,n,q⟩:=h;obtain⟨ag,av⟩:=n.ins;refine⟨_,(bo (c7 (m9 u9 (by rfl) B.list oc (ak (eR (U 0) (by rfl)) aD)))),?_⟩;exact⟨_,rfl,x,C,ag,_,_,rfl,av,fU.cl,fU.tE,rfl,bt,_,rfl,.inl (aG.of n.vt),q⟩
theorem abP{C f:Addr}{fd:cz}(F:bw K "roads" "Net.roads" DV f fd)(B:gg mg)(fU:sf K C):aL P w K mg base a5 1 f fd ["self"] (SW C):=by
 refine F.ok ac5 (λvs H Q E h=>?_) (λcdv A outer s H vs Q E aq h=>?_)
 .obtain⟨x,bt,bu,xs,ys,rfl,_⟩:=h;rfl
 .obtain⟨x,bt,bu,xs,ys,rfl,n,q⟩:=h;obtain⟨ag,av⟩:=n.ins;refine⟨_,(bo (c7 (m9 u9 (by rfl) B.list oc (ak (eR (U 0) (by rfl)) aD)))),?_⟩;exact⟨_,rfl,x,C,ag,_,_,rfl,av,fU.cl,fU.jj,rfl,bu,_,rfl,.inl (aG.of n.qO),q⟩
end
theorem X6{P:bJ}{w:bq}{X:bb}:pn (mX P w) X ra:=λ_ _ _ _ _ _ _ h=>by obtain⟨_,_,_,_,_,_,_,_,_,h⟩:=h;exact h.elim
theorem aeS{dc:TI}{cs:k_}{b0:TE}{σ rest:ao.St}{H H1:ae}{Q:a'}{J:fT}{xs:aY}(hw:∀R:fT->ae->Prop,R J H1->dc σ H R)(h9:ia cs σ=none::rest)(dI:nY J H1 xs)(aj:xs.length<sizeLine)(f:ao.V->List ao.V)(elt:∀(i:Nat)(x:ao.V)(ah:ae)(R:a'),xs[i]?=some x->aN H1 ah->(∀r bx,aN ah bx->bx r=some (.tup (f x))->R (.ref r) bx)->b0 (some x::rest) ah R)(fin:∀(D:Addr)(H':ae)(rs:bS),H1 D=none->H' D=some (.lst (aH rs))->d7 H' rs (xs.map f)->aN H1 H'->Q (.ref D) H'):nF dc cs (hJ 0) se b0 σ H Q:=by
 refine hw _ λD bN=>?_;refine⟨λi m ys a3 H'=>m=xs.length-i/\i<=xs.length/\(∃rs,ys=aH rs/\d7 H' rs ((xs.take i).map f))/\(∃o,a3=o::rest)/\aN H1 H'/\H' D=some (.lst ys),⟨xs.length,by simp,e4 _,⟨[],rfl,.nil⟩,⟨none,h9⟩,λb o e=>?_,aQ⟩,?_⟩
 .rw[aA (bW e bN)];exact e
 .rintro i m ys a3 H' ⟨rfl,ar,⟨rs,rfl,c'⟩,⟨o,rfl⟩,aF,e7⟩;obtain⟨fe,fK,hx⟩:=dI H' aF;have ln:=c'.len;rw[bp,ml,ado ar]at ln;refine⟨e7,nT (by rw[eB];omega) aj,?_⟩;by_cases cK:i<xs.length
  .refine .inr ⟨fK i cK,λx ah y=>?_⟩;obtain⟨rfl,ex⟩:=hx i x ah cK y;have a4:xs.take (i+1)=xs.take i++[x]:=by rw[oW,ex];rfl
   show b0 (some x::rest) ah _;refine elt i x ah _ ex aF λr bx s5 aq=>⟨s5 _ _ e7,xs.length-(i+1),by omega,rfl,cK,⟨rs++[r],ru rs r,?_⟩,⟨_,rfl⟩,λb ob e=>?_,aQ⟩
   .rw[a4,eW];exact d7.upd (Paired.snoc (F:=λr d=>bx r=some (.tup d)) aq (c'.same s5)) (s5 _ _ e7) (by intro d z;cases z)
   .rw[aA (bW e bN)];exact s5 _ _ (aF _ _ e)
  .have e:i=xs.length:=by omega
   subst e;rw[oX]at c';exact .inl ⟨fe,fin D H' rs bN e7 c' aF⟩
theorem T9(x y:Str):g_ (.str x) (.str y)=decide (x=y):=by
 by_cases h:x=y
 .subst h;rw[cq rfl];simp[g_]
 .rw[dF h];simp[g_,h]
theorem T_{hs:br}{k:Nat}(h:k<hs.length):inD (.str (S (hs.getD k []))) (bN hs)=true:=by
 unfold inD bN;rw[pT];have hm:hs.getD k []∈hs:=by rw[eJ,dn h];exact so h
 exact⟨_,cn.mpr ⟨_,cn.mpr ⟨_,hm,rfl⟩,rfl⟩,by rw[T9];exact cq rfl⟩
theorem X7{ds:fy}{n:Nat}(h:∀d∈ds,d.depth<=n):(FP ds).depth<=n+1:=KA (Ib h)
theorem aeT{dc:TI}{cs:k_}{b0:TE}{σ rest:ao.St}{H H1:ae}{Q:a'}{J:fT}{xs:aY}(hw:∀R:fT->ae->Prop,R J H1->dc σ H R)(h9:ia cs σ=none::rest)(dI:nY J H1 xs)(aj:xs.length<sizeLine)(f:Nat->ao.V)(elt:∀(i:Nat)(x:ao.V)(ah:ae)(R:a'),xs[i]?=some x->aN H1 ah->(∀bx,aN ah bx->R (f i) bx)->b0 (some x::rest) ah R)(fin:∀(D:Addr)(H':ae),H1 D=none->H' D=some (.lst ((d_ xs.length).map f))->aN H1 H'->Q (.ref D) H'):nF dc cs (hJ 0) se b0 σ H Q:=by
 refine hw _ λD bN=>?_;refine⟨λi m ys a3 H'=>m=xs.length-i/\i<=xs.length/\ys=(d_ i).map f/\(∃o,a3=o::rest)/\aN H1 H'/\H' D=some (.lst ys),⟨xs.length,by simp,e4 _,rfl,⟨none,by rw[h9]⟩,λb o e=>?_,aQ⟩,?_⟩
 .rw[aA (bW e bN)];exact e
 .rintro i m ys a3 H' ⟨rfl,ar,rfl,⟨o,rfl⟩,aF,e7⟩;obtain⟨fe,fK,hx⟩:=dI H' aF;refine⟨e7,nT (by rw[bp,jG];omega) aj,?_⟩;by_cases cK:i<xs.length
  .refine .inr ⟨fK i cK,λx ah y=>?_⟩;obtain⟨rfl,ex⟩:=hx i x ah cK y;show b0 (some x::rest) ah _;refine elt i x ah _ ex aF λbx s5=>⟨s5 _ _ e7,xs.length-(i+1),by omega,rfl,cK,?_,⟨_,rfl⟩,λb ob e=>?_,aQ⟩
   .rw[sx,eW];rfl
   .rw[aA (bW e bN)];exact s5 _ _ (aF _ _ e)
  .have e:i=xs.length:=by omega
   subst e;exact .inl ⟨fe,fin D H' bN e7 aF⟩
end dY
namespace cQ
open PySem PySem.Spec PyProof.Rows ao
section
variable{X:bb}{e:Expr}{b0:TE}{pos gP:Pos}{lo ar:Option Expr}{dk oF:uI}
theorem aeU:iY "dict"=some (.type "dict"):=by decide+kernel
theorem aif:iY "min"=some (.builtin "min"):=by decide+kernel
end
end cQ
namespace dY
open PySem ao cQ dp
theorem agt{dc:TI}{cs:k_}{tt:TT}{b0:TE}{σ rest:ao.St}{H H1:ae}{Q:a'}{J:fT}{xs:aY}(hw:∀R:fT->ae->Prop,R J H1->dc σ H R)(h9:ia cs σ=none::rest)(dI:nY J H1 xs)(aj:xs.length<sizeLine)(p:Nat->Bool)(f:Nat->ao.V)(test:∀(i:Nat)(x:ao.V)(ah:ae)(R:Bool->ae->Prop),xs[i]?=some x->aN H1 ah->(∀bx,aN ah bx->R (p i) bx)->tt (some x::rest) ah R)(elt:∀(i:Nat)(x:ao.V)(ah:ae)(R:a'),xs[i]?=some x->p i=true->aN H1 ah->(∀bx,aN ah bx->R (f i) bx)->b0 (some x::rest) ah R)(fin:∀(D:Addr)(H':ae),H1 D=none->H' D=some (.lst (((d_ xs.length).filter p).map f))->aN H1 H'->Q (.ref D) H'):nF dc cs (hJ 0) tt b0 σ H Q:=by
 refine hw _ λD bN=>?_;refine⟨λi m ys a3 H'=>m=xs.length-i/\i<=xs.length/\ys=((d_ i).filter p).map f/\(∃o,a3=o::rest)/\aN H1 H'/\H' D=some (.lst ys),⟨xs.length,by simp,e4 _,rfl,⟨none,by rw[h9]⟩,λb o e=>?_,aQ⟩,?_⟩
 .rw[aA (bW e bN)];exact e
 .rintro i m ys a3 H' ⟨rfl,ar,rfl,⟨o,rfl⟩,aF,e7⟩;obtain⟨fe,fK,hx⟩:=dI H' aF;refine⟨e7,nT ?_ aj,?_⟩
  .rw[bp];refine e3 (ky _ _) ?_;rw[jG];exact ar
  by_cases cK:i<xs.length
  .refine .inr ⟨fK i cK,λx ah y=>?_⟩;obtain⟨rfl,ex⟩:=hx i x ah cK y;show tt (some x::rest) ah _;refine test i x ah _ ex aF λdV s4=>?_;cases aR:p i with
   |true=>
    refine hP ?_;refine elt i x dV _ ex aR (aF.trans s4) λbx s5=>⟨s5 _ _ (s4 _ _ e7),xs.length-(i+1),by omega,rfl,cK,?_,⟨_,rfl⟩,λb ob e=>?_,aQ⟩
    .rw[sx,mZ,eW];simp[aR]
    .rw[aA (bW e bN)];exact s5 _ _ (s4 _ _ (aF _ _ e))
   |false=>
    refine gs ⟨xs.length-(i+1),by omega,rfl,cK,?_,⟨_,rfl⟩,aF.trans s4,s4 _ _ e7⟩;rw[sx,mZ,eW];simp[aR]
  .have e:i=xs.length:=by omega
   subst e;exact .inl ⟨fe,fin D H' bN e7 aF⟩
theorem tZ{α:Type}{l:List α}{i:Nat}{x d:α}(e:l[i]?=some x):l.getD i d=x:=by rw[eJ,e];rfl
theorem range_getD{α β:Type}(g:α->β)(fA:α)(ls:List α):((d_ ls.length).map λi=>g (ls.getD i fA))=ls.map g:=by
 apply Fx
 .simp
 .intro i af ai;simp only[bp,jG]at af;simp[eJ,af]
structure Step where
 left:Int
 ak8:Option Int
 fc:Str
 due:Int
abbrev fa:= List (List Step)
noncomputable def ak7:Option Int->ao.V
 |none=>.bl
 |some i=>.int i
noncomputable def Ex(s:Step):List ao.V:=[.int s.left,ak7 s.ak8,.str s.fc,.int s.due]
noncomputable def EI(n g st:Addr):List (Str×ao.V):=[("net",.ref n),("goals",.ref g),("steps",.ref st)]
noncomputable def hG(H:ae)(l:Addr)(ss:List Step):Prop:=∃ts,H l=some (.lst (aH ts))/\d7 H ts (ss.map Ex)
structure WalkAt(C:Addr)(H:ae)(x n g st:Addr)(b6:cf)(ls:bS)(aI:fa):Prop where
 ins:∃ag,H x=some (.ins C ag (EI n g st))
 goals:H g=some (.lst (b6.map V.str))
 steps:H st=some (.lst (aH ls))
 each:bk (hG H) ls aI
structure rX(K:aU)(C:Addr):Prop where
 cl:fp K C
 nn:b1 K (.ref C) "net"=some none
 l3:b1 K (.ref C) "goals"=some none
 ns:b1 K (.ref C) "steps"=some none
inductive aeV(C:Addr)(vs:aY)(H:ae)(Q:a')(bI:b2):Prop where
 |mk (x n g st:Addr) (b6:cf) (ls:bS) (aI:fa) (k:Nat) (y:Str) (bV:vs=[.ref x,.int k]) (bD:WalkAt C H x n g st b6 ls aI) (b_:b6[k]?=some y) (c_:Q (.str y) H)
noncomputable def JS(C:Addr):cG:=λvs H Q bI=>aeV C vs H Q bI
inductive ac6(C:Addr)(vs:aY)(H:ae)(Q:a')(bI:b2):Prop where
 |mk (x n g st:Addr) (b6:cf) (ls:bS) (aI:fa) (k:Nat) (ss:List Step) (s:Step) (bV:vs=[.ref x,.int k]) (bD:WalkAt C H x n g st b6 ls aI) (b_:aI[k]?=some (ss++[s])) (c_:Q (.str s.fc) H)
noncomputable def IU(C:Addr):cG:=λvs H Q bI=>ac6 C vs H Q bI
inductive ac7(C:Addr)(vs:aY)(H:ae)(Q:a')(bI:b2):Prop where
 |mk (x n g st:Addr) (b6:cf) (ls:bS) (aI:fa) (k:Nat) (ss:List Step) (s:Step) (bV:vs=[.ref x,.int k]) (bD:WalkAt C H x n g st b6 ls aI) (b_:aI[k]?=some (ss++[s])) (c_:Q (.int s.due) H)
noncomputable def IV(C:Addr):cG:=λvs H Q bI=>ac7 C vs H Q bI
theorem Ł{xs:aY}{v:ao.V}:ao.hb (xs++[v]) (-1)=some v:=by
 unfold ao.hb ao.qu;rw[ig,bF (by decide),bL (by show -((xs.length+1:Nat):Int)<=-1;omega)];show(xs++[v])[((-1:Int)+((xs.length+1:Nat):Int)).toNat]?=_;have e:((-1:Int)+((xs.length+1:Nat):Int)).toNat=xs.length:=by omega
 rw[e];simp
section
variable{P:bJ}{w:bq}{K:aU}{mg:cB}{base:Heap}
noncomputable abbrev y9:Stmt:=gL (top 20) 4
theorem aeW:dw ["self","number"] ["self","number"] (c3 y9):=⟨rfl,rfl,rfl,by decide+kernel,rfl,by decide+kernel,by decide+kernel⟩
theorem Vy{C:Addr}{H:ae}{x n g st:Addr}{b6:cf}{ls:bS}{aI:fa}{k:Nat}{ss:List Step}{s:Step}(W:WalkAt C H x n g st b6 ls aI)(e:aI[k]?=some (ss++[s])):
  ∃l ts t,ls[k]?=some l/\H l=some (.lst (aH (ts++[t])))/\H t=some (.tup (Ex s)):=by
 have ln:=gE W.each;obtain⟨aX,_⟩:=eG.mp e;obtain⟨l,hI⟩:∃l,ls[k]?=some l:=⟨_,dn (by omega)⟩
 obtain⟨IF,es,ts,aj,c'⟩:=bk.get W.each hI;rw[e]at es;cases es;have lt:=c'.len;rw[bp,ig]at lt;simp only[mj,AG]at lt;obtain⟨t,u7⟩:∃t,ts[ss.length]?=some t:=⟨_,dn (by omega)⟩
 obtain⟨d,dS,hd⟩:=bk.get c' u7;rw[eW,WI (by rw[bp];omega),bp,adp]at dS;cases dS;refine⟨l,ts.take ss.length,t,hI,?_,hd⟩;have aB:ts=ts.take ss.length++[t]:=by
  have this:=(WM ss.length ts).symm;have hd2:ts.drop ss.length=[t]:=by rw[WC (by omega:ss.length<ts.length)];rw[dn (by omega:ss.length<ts.length)]at u7;cases u7;rw[List.drop_eq_nil_of_le (by omega)]
  rw[hd2]at this;exact this
 rw[<-aB];exact aj
theorem ac8{C f:Addr}{fd:cz}(F:bw K "last_house" "Walk.last_house" y9 f fd)(da:rX K C):aL P w K mg base a5 1 f fd ["self","number"] (IU C):=by
 refine F.ok aeW (λvs H Q E h=>?_) (λcdv A outer s H vs Q E aq h=>?_)
 .obtain⟨x,n,g,st,b6,ls,aI,k,ss,s',rfl,_⟩:=h;rfl
 .obtain⟨x,n,g,st,b6,ls,aI,k,ss,s',rfl,W,es,q⟩:=h;obtain⟨ag,av⟩:=W.ins;obtain⟨l,ts,t,hI,aj,df⟩:=Vy W es;refine⟨_,(bo (c7 (cp e5 (cp fk (cp fk (eR (U 0) (by rfl)) (U 1) (λ_ _=>rfl)) (Ka JN aW) (λ_ _=>rfl)) aW (λ_ _=>rfl)))),?_⟩;have af:ao.hb (aH (ts++[t])) (-1)=some (.ref t):=by unfold aH;rw[eW];exact Ł
  exact⟨_,rfl,x,C,ag,_,_,rfl,av,da.cl,da.ns,rfl,_,rfl,st,_,_,_,rfl,rfl,aG.of W.steps,iI (by unfold aH;rw[c6,hI];rfl),_,rfl,l,_,_,_,rfl,rfl,aG.of aj,af,t,_,_,_,rfl,rfl,cH.of df,rfl,q⟩
noncomputable abbrev y':Stmt:=gL (top 20) 5
theorem aeX:dw ["self","number"] ["self","number"] (c3 y'):=⟨rfl,rfl,rfl,by decide+kernel,rfl,by decide+kernel,by decide+kernel⟩
theorem ac9{C f:Addr}{fd:cz}(F:bw K "last_turn" "Walk.last_turn" y' f fd)(da:rX K C):aL P w K mg base a5 1 f fd ["self","number"] (IV C):=by
 refine F.ok aeX (λvs H Q E h=>?_) (λcdv A outer s H vs Q E aq h=>?_)
 .obtain⟨x,n,g,st,b6,ls,aI,k,ss,s',rfl,_⟩:=h;rfl
 .obtain⟨x,n,g,st,b6,ls,aI,k,ss,s',rfl,W,es,q⟩:=h;obtain⟨ag,av⟩:=W.ins;obtain⟨l,ts,t,hI,aj,df⟩:=Vy W es;refine⟨_,(bo (c7 (cp e5 (cp fk (cp fk (eR (U 0) (by rfl)) (U 1) (λ_ _=>rfl)) (Ka JN aW) (λ_ _=>rfl)) aW (λ_ _=>rfl)))),?_⟩;have af:ao.hb (aH (ts++[t])) (-1)=some (.ref t):=by unfold aH;rw[eW];exact Ł
  exact⟨_,rfl,x,C,ag,_,_,rfl,av,da.cl,da.ns,rfl,_,rfl,st,_,_,_,rfl,rfl,aG.of W.steps,iI (by unfold aH;rw[c6,hI];rfl),_,rfl,l,_,_,_,rfl,rfl,aG.of aj,af,t,_,_,_,rfl,rfl,cH.of df,rfl,q⟩
noncomputable def Ks(s:Step)(g:Str):ao.V:=if s.fc=g then .int s.due else .bl
inductive ada(C:Addr)(vs:aY)(H:ae)(Q:a')(bI:b2):Prop where
 |mk (x n g st:Addr) (b6:cf) (ls:bS) (aI:fa) (k:Nat) (ss:List Step) (s:Step) (y:Str) (bV:vs=[.ref x,.int k]) (bD:WalkAt C H x n g st b6 ls aI) (b_:aI[k]?=some (ss++[s])) (c_:b6[k]?=some y) (d1:Q (Ks s y) H)
noncomputable def Uc(C:Addr):cG:=λvs H Q bI=>ada C vs H Q bI
noncomputable abbrev EJ:Stmt:=gL (top 20) 6
theorem aez:dw ["self","number"] ["self","number"] (c3 EJ):=⟨rfl,rfl,rfl,by decide+kernel,rfl,by decide+kernel,by decide+kernel⟩
theorem adb{C f f1 f2:Addr}{fd cY d8:cz}(F:bw K "home_turn" "Walk.home_turn" EJ f fd)(da:rX K C)(sS:c0 K C "last_house" "Walk.last_house" y9 ["self","number"] f1 cY)(O5:aL P w K mg base a5 1 f1 cY ["self","number"] (IU C))(sM:c0 K C "last_turn" "Walk.last_turn" y' ["self","number"] f2 d8)(Ph:aL P w K mg base a5 1 f2 d8 ["self","number"] (IV C)):aL P w K mg base a5 2 f fd ["self","number"] (Uc C):=by
 have kC:=da.cl;refine F.ok aez (λvs H Q E h=>?_) (λcdv A outer s H vs Q E aq h=>?_)
 .obtain⟨x,n,g,st,b6,ls,aI,k,ss,s',y,rfl,_⟩:=h;rfl
 .obtain⟨x,n,g,st,b6,ls,aI,k,ss,s',y,rfl,W,es,gr,q⟩:=h;obtain⟨ag,av⟩:=W.ins;refine⟨_,(bc (eO (eu wt (gZ (U 0) kC sS.eh O5 (aq.mono (by decide)) sS.bd .nil dj (ak (U 1) aD)) (cp fk (eR (U 0) (by rfl)) (U 1) (λ_ _=>rfl)) (dr _)) (bo (c7 kG)) fi)
   (bo (c7 (gZ (U 0) kC sM.eh Ph (aq.mono (by decide)) sM.bd .nil dj (ak (U 1) aD))))),?_⟩
  have Mp:ao.hb (b6.map V.str) (k:Int)=some (.str y):=iI (by rw[c6,gr];rfl);refine⟨_,rfl,x,ag,_,rfl,av,rfl,_,rfl,x,n,g,st,b6,ls,aI,k,ss,s',rfl,W,es,?_⟩;refine⟨_,rfl,x,C,ag,_,_,rfl,av,da.cl,da.l3,rfl,_,rfl,g,_,_,_,rfl,rfl,aG.of W.goals,Mp,rfl,_,rfl,?_⟩;unfold Ks at q;by_cases he:s'.fc=y
  .rw[bL he]at q;exact ek (by rw[he];simp) ⟨_,rfl,x,ag,_,rfl,av,rfl,_,rfl,x,n,g,st,b6,ls,aI,k,ss,s',rfl,W,es,q⟩
  .rw[bF he]at q;exact fu (by simp[he]) q
noncomputable def mK(d:Bc):List ao.V:=[.str d.1,.int d.2.1,.str d.2.2]
noncomputable def JT(d:Bc):List Step:=[⟨d.2.1,none,d.1,d.2.1⟩]
inductive agu(C:Addr)(vs:aY)(H:ae)(Q:a')(bI:b2):Prop where
 |mk (x ag n dQ:Addr) (rs:bS) (ds:m5) (bV:vs=[.ref x,.ref n,.ref dQ]) (bD:H x=some (.ins C ag [])) (b_:H dQ=some (.lst (aH rs))) (c_:d7 H rs (ds.map mK)) (d1:rs.length<=100) (fw:∀(H':ae)(g st:Addr)(lu:bS),SameBut x H H'->WalkAt C H' x n g st (ds.map λd=>d.2.2) lu (ds.map JT)->H g=none->H st=none->lu.Nodup->(∀l∈lu,H l=none/\l≠st/\l≠g)->g≠st->Q .bl H')
noncomputable def Kt(C:Addr):cG:=λvs H Q bI=>agu C vs H Q bI
noncomputable abbrev AL:Stmt:=gL (top 20) 0
inductive aeA(C:Addr)(vs:aY)(H:ae)(Q:a')(bI:b2):Prop where
 |mk (x ag n g st r:Addr) (b6:cf) (ls:bS) (d:Bc) (bV:vs=[.ref x,.ref r]) (bD:H x=some (.ins C ag (EI n g st))) (b_:H g=some (.lst (b6.map V.str))) (c_:H st=some (.lst (aH ls))) (d1:g≠st) (fw:H r=some (.tup (mK d))) (iE:b6.length<=100) (k4:ls.length<=100) (mV:∀(H':ae)(l t:Addr),(∀b o,b≠g->b≠st->H b=some o->H' b=some o)->H' g=some (.lst ((b6++[d.2.2]).map V.str))->H' st=some (.lst (aH (ls++[l])))->H l=none->H t=none->H' l=some (.lst [.ref t])->H' t=some (.tup (Ex ⟨d.2.1,none,d.1,d.2.1⟩))->Q .bl H')
noncomputable def Js(C:Addr):cG:=λvs H Q bI=>aeA C vs H Q bI
noncomputable abbrev zy:Stmt:=gL (top 20) 1
theorem UV:dw ["self","letter"] ["self","letter"] (c3 zy):=⟨rfl,rfl,rfl,by decide+kernel,rfl,by decide+kernel,by decide+kernel⟩
theorem aeB{C f:Addr}{fd:cz}(F:bw K "take_in" "Walk.take_in" zy f fd)(da:rX K C):aL P w K mg base a5 1 f fd ["self","letter"] (Js C):=by
 refine F.ok UV (λvs H Q E h=>?_) (λcdv A outer s H vs Q E aq h=>?_)
 .obtain⟨x,ag,n,g,st,r,b6,ls,d,rfl,_⟩:=h;rfl
 .obtain⟨x,ag,n,g,st,r,b6,ls,d,rfl,av,bP,l0,HP,hd,ya,fb,q⟩:=h;refine⟨_,(bc (gI (nr nV o1 o2 m' (eR (U 0) (by rfl)) (ak (cp e5 (U 1) aW (λ_ _=>rfl)) aD)))
   (bo (gI (nr nV o1 o2 m' (eR (U 0) (by rfl)) (ak (gJ (ak (i1 (ak (cp e5 (U 1) aW (λ_ _=>rfl)) (ak kG (ak (cp e5 (U 1) aW (λ_ _=>rfl)) (ak (cp e5 (U 1) aW (λ_ _=>rfl)) aD))))) aD)) aD))))),?_⟩
  have vO:x≠g:=hS av bP (by intro z;cases z);have yM:x≠st:=hS av l0 (by intro z;cases z);have apm:r≠g:=hS hd bP (by intro z;cases z);have aud:r≠st:=hS hd l0 (by intro z;cases z);refine⟨_,rfl,x,C,ag,_,_,rfl,av,da.cl,da.l3,rfl,.inl ⟨rfl,_,aG.of bP⟩,_,rfl,r,_,_,_,rfl,rfl,cH.of hd,rfl,g,_,_,rfl,rfl,bP,eM (by rw[bp];omega),?_⟩;have rF:upd H g (.lst (b6.map V.str++[V.str d.2.2])) x=_:=(aA vO).trans av;have rC:upd H g (.lst (b6.map V.str++[V.str d.2.2])) st=_:=(aA HP.symm).trans l0;have te:upd H g (.lst (b6.map V.str++[V.str d.2.2])) r=_:=(aA apm).trans hd;refine⟨_,rfl,x,C,ag,_,_,rfl,rF,da.cl,da.ns,rfl,.inl ⟨rfl,_,aG.of rC⟩,?_⟩;refine⟨_,rfl,r,_,_,_,rfl,rfl,cH.of te,rfl,_,rfl,r,_,_,_,rfl,rfl,cH.of te,rfl,_,rfl,r,_,_,_,rfl,rfl,cH.of te,rfl,(by show 4<=sizeLine;decide),λt dK=>⟨(by show 1<=sizeLine;decide),λl nl=>?_⟩⟩;have GH:∀{b},upd H g (.lst (b6.map V.str++[V.str d.2.2])) b=none->H b=none/\b≠g:=λ{b}e=>by
   have nb:b≠g:=λz=>by rw[z,aQ]at e;cases e
   rw[aA nb]at e;exact⟨e,nb⟩
  have HS:l≠t:=λz=>by rw[z,aQ]at nl;cases nl
  have pA:=nl;rw[aA HS]at pA;have kM:=(bU (o:=.lst [.ref t]) nl) _ _ ((bU (o:=.tup (Ex ⟨d.2.1,none,d.1,d.2.1⟩)) dK) _ _ rC);have ow:t≠st:=λz=>by rw[z,rC]at dK;cases dK
  have i7:l≠st:=λz=>by rw[z,rC]at pA;cases pA
  refine⟨st,_,_,rfl,rfl,kM,eM (by rw[eB];omega),?_⟩;refine q _ l t (λb o af ai e=>?_) ?_ ?_ (GH pA).1 (GH dK).1 ?_ ?_
  .have aE:upd H g (.lst (b6.map V.str++[V.str d.2.2])) b=some o:=by rw[aA af];exact e
   rw[aA ai];exact(bU nl) _ _ ((bU dK) _ _ aE)
  .rw[aA HP,aA (GH pA).2.symm,aA (GH dK).2.symm,aQ,eW];rfl
  .rw[aQ,ru]
  .rw[aA i7,aQ]
  .rw[aA ow,aA HS.symm,aQ];rfl
theorem X8:dw ["self","net","letters","letter"] ["self","net","letters"] (c3 AL):=⟨rfl,rfl,rfl,by decide+kernel,rfl,by decide+kernel,by decide+kernel⟩
theorem agv{C f f1:Addr}{fd cY:cz}(F:bw K "__init__" "Walk.__init__" AL f fd)(da:rX K C)(sP:c0 K C "take_in" "Walk.take_in" zy ["self","letter"] f1 cY)(Pu:aL P w K mg base a5 1 f1 cY ["self","letter"] (Js C)):aL P w K mg base a5 2 f fd ["self","net","letters"] (Kt C):=by
 have kC:=da.cl;refine F.ok X8 (λvs H Q E h=>?_) (λcdv A outer s H vs Q E aq h=>?_)
 .obtain⟨x,ag,n,dQ,rs,ds,rfl,_⟩:=h;rfl
 .obtain⟨x,ag,n,dQ,rs,ds,rfl,av,tg,c',eE,q⟩:=h;refine⟨_,(bc (ll (U 0) (U 1) rfl)
   (bc (ll (U 0) (gJ aD) rfl)
   (bc (ll (U 0) (gJ aD) rfl)
   (bo (kd kz rfl (jL (U 2)) (ei (i:=3) X8.aJ rfl (b5 rfl))
    (bo (gI (gZ (U 0) kC sP.eh Pu (aq.mono (by decide)) sP.bd .nil dj (ak (U 3) aD))))))))),?_⟩
  refine⟨_,rfl,_,rfl,x,C,ag,_,rfl,av,da.cl,da.nn,(by show 0<1000;decide),?_⟩;have tH:dQ≠x:=hS tg av (by intro z;cases z);refine⟨(by show 0<=sizeLine;decide),λg l3=>?_⟩;have vO:g≠x:=λz=>by rw[z,aQ]at l3;cases l3
  have DG:=l3;rw[aA vO]at DG;refine⟨_,rfl,x,C,ag,_,rfl,(by rw[aA vO.symm,aQ]),da.cl,da.l3,(by show 1<1000;decide),(by show 0<=sizeLine;decide),λst ow=>?_⟩;have yM:st≠x:=λz=>by rw[z,aQ]at ow;cases ow
  rw[aA yM]at ow;have HZ:st≠g:=λz=>by rw[z,aQ]at ow;cases ow
  rw[aA HZ,aA yM]at ow;refine⟨_,rfl,x,C,ag,_,rfl,(by rw[aA yM.symm,aQ]),da.cl,da.ns,(by show 2<1000;decide),?_⟩;refine⟨_,rfl,dQ,rfl,⟨_,aG.of (xs:=aH rs) ?_⟩,?_⟩
  .rw[aA tH,aA (bW tg ow),aA tH,aA (bW tg DG),aA tH];exact tg
  have hR:=eB rs;have aoM:rs.length=ds.length:=by have:=gE c';rw[bp]at this;exact this
  refine qd (K:=K) (a:=dQ) (xs:=aH rs) (λj σ gj=>∃gS lu,σ=[some (.ref x),some (.ref n),some (.ref dQ),gS]/\(∀b o,b≠x->H b=some o->gj b=some o)/\gj x=some (.ins C ag (EI n g st))/\gj g=some (.lst (((ds.take j).map λd=>d.2.2).map V.str))/\gj st=some (.lst (aH lu))/\bk (hG gj) lu ((ds.take j).map JT)/\lu.Nodup/\(∀l∈lu,H l=none/\l≠st/\l≠g))
   ⟨none,[],rfl,λb o nb e=>?_,aQ,?_,?_,.nil,sv,λl aj=>bE aj eA⟩ (λj σ gj _⟨_,_,_,h,_⟩=>aG.of (h _ _ tH tg)) ?_ ?_
  .rw[aA nb,aA (bW e ow),aA nb,aA (bW e DG),aA nb];exact e
  .rw[aA vO,aA HZ.symm,aA vO,aQ];rfl
  .rw[aA yM,aQ];rfl
  .rintro j z σ gj dx ⟨gS,lu,rfl,iy,oa,vp,qs,e1,aJ,fr⟩;unfold aH at dx;rw[c6]at dx;obtain⟨r,gb,rfl⟩:=fL.mp dx;obtain⟨y,gr,cM⟩:=bk.get c' gb;rw[c6]at gr;obtain⟨d,dS,rfl⟩:=fL.mp gr;have atO:=(eG.mp dS).1;have tu:=gE e1;rw[bp,ml]at tu;have a4:ds.take (j+1)=ds.take j++[d]:=by rw[oW,dS];rfl
   refine⟨_,rfl,x,ag,_,rfl,oa,rfl,_,rfl,x,ag,n,g,st,r,_,lu,d,rfl,oa,vp,qs,HZ.symm,iy _ _ (hS cM av (by intro z;cases z)) cM,(by rw[bp,ml];omega),(by omega),?_⟩;intro H' l t b' anD vu nl dK vq aod;have apl:∀{o},gj l=some o->False:=λ{o}e=>by rw[nl]at e;cases e
   have free:∀{b},gj b=none->H b=none:=λ{b}e=>by
    by_cases aa:b=x
    .rw[aa,oa]at e;cases e
    .cases aB:H b with
     |none=>rfl
     |some o=>rw[iy _ _ aa aB]at e;cases e
   refine⟨_,lu++[l],rfl,λb o nb e=>?_,b' _ _ vO.symm yM.symm oa,?_,vu,?_,?_,?_⟩
   .exact b' _ _ (λz=>by rw[z,DG]at e;cases e) (λz=>by rw[z,ow]at e;cases e) (iy _ _ nb e)
   .rw[anD,a4];simp only[eW,hW,FA]
   .rw[a4,eW];refine Paired.snoc ⟨[t],vq,.cons aod .nil⟩ ?_;have go:∀{ms:bS}{wk:fa},bk (hG gj) ms wk->(∀l∈ms,l≠st/\l≠g)->bk (hG H') ms wk:=λ{ms wk}p=>by
     induction p with
     |nil=>exactλ_=>.nil
     |cons r t a8=>
      refineλh=>.cons ?_ (a8 λl aj=>h l (.tail _ aj))
      obtain⟨ts,af,ai⟩:=r;refine⟨ts,b' _ _ (h _ (.head _)).2 (h _ (.head _)).1 af,bk.e2 ai λa b e=>b' _ _ (hS e vp (by intro z;cases z)) (hS e qs (by intro z;cases z)) e⟩
    exact go e1 λl aj=>(fr l aj).2
   .rw[xE];refine⟨aJ,iH.mpr ⟨eA,sv⟩,λa aK b aa=>?_⟩;rw[iW]at aa;subst aa;rintro rfl;obtain⟨i,ar,e⟩:=mi aK;obtain⟨_,_,ts,af,_⟩:=bk.get e1 (eG.mpr ⟨ar,e⟩);exact apl af
   .intro gN ph;rw[hX,iW]at ph;rcases ph with h|rfl
    .exact fr _ h
    .exact⟨free nl,λz=>(by rw[z]at nl;rw[nl]at qs;cases qs),λz=>(by rw[z]at nl;rw[nl]at vp;cases vp)⟩
  .rintro σ gj ⟨gS,lu,rfl,iy,oa,vp,qs,e1,aJ,fr⟩;rw[hR,aoM,oX]at vp e1;exact q gj g st lu (λb o nb e=>iy b o nb e) ⟨⟨ag,oa⟩,vp,qs,e1⟩ DG ow aJ fr HZ.symm
noncomputable abbrev tM:Stmt:=gL (top 36) 3
theorem Vz:dw ["self","number"] ["self","number"] (c3 tM):=⟨rfl,rfl,rfl,by decide+kernel,rfl,by decide+kernel,by decide+kernel⟩
theorem ade{C R f:Addr}{fd:cz}{ua fG nq:String}{bm:cw}(F:bw K "road" "Net.road" tM f fd)(B:gg mg)(fU:sf K C)(RL:wN ua fG nq bm)(yt:Exc K mg "NoRoad" R bm fG):
  aL P w K mg base (d9 P w) 1 f fd ["self","number"] (TQ C R):=by
 refine oy F Vz (λvs H Q E h=>?_) (λcdv A outer s H vs Q E aq h=>?_)
 .obtain⟨x,bt,bu,xs,ys,k,rfl,_⟩:=h;rfl
 .obtain⟨x,bt,bu,xs,ys,k,rfl,n,q,iu⟩:=h;obtain⟨ag,av⟩:=n.ins;refine⟨_,(bc (eO (i0 (SG px pw aW (U 1) (dB gH (by rfl) B.len gA (ak (eR (U 0) (by rfl)) aD)))) (bo (Il RL yt rfl (ak jO aD))) fi)
   (bo (c7 (cp fk (eR (U 0) (by rfl)) (U 1) (λ_ _=>rfl))))),?_⟩
  refine⟨_,rfl,_,_,rfl,rfl,_,rfl,?_⟩;by_cases h0:0<=k
  .refine fu (cq h0) ⟨_,rfl,x,C,ag,_,_,rfl,av,fU.cl,fU.jj,rfl,bu,_,rfl,.inl (aG.of n.qO),_,_,rfl,rfl,_,rfl,?_⟩;by_cases af:k<ys.length
   .obtain⟨v,bC,aqa⟩:=q ⟨h0,af⟩;refine Kd af ?_;exact⟨_,rfl,x,C,ag,_,_,rfl,av,fU.cl,fU.jj,rfl,_,rfl,bu,_,_,_,rfl,rfl,aG.of n.qO,bC,aqa⟩
   .refine fu (by rw[dF af];rfl) ?_;exact⟨by show 1<=sizeLine;decide,iu λz=>af z.2⟩
  .refine ek (dF h0) ⟨_,rfl,?_⟩;exact hP ⟨by show 1<=sizeLine;decide,iu λz=>h0 z.1⟩
end
end dY
namespace cQ
open PySem PySem.Spec PyProof.Rows ao PySem.W
noncomputable def ht{α:Type}(lt:hD):KasT α->α
 |.ret a=>a
 |.ask i j k=>ht lt (k (lt i j))
noncomputable def kO{α:Type}(n:Nat)(P:α->Prop):KasT α->Prop
 |.ret a=>P a
 |.ask i j k=>i<n/\j<n/\∀b,kO n P (k b)
theorem yU{α β:Type}{n:Nat}{P:α->Prop}{R:β->Prop}{f:α->KasT β}(hf:∀a,P a->kO n R (f a)):∀t:KasT α,kO n P t->kO n R (t.bind f)
 |.ret a,h=>hf a h
 |.ask i j k,h=>⟨h.1,h.2.1,λb=>yU hf (k b) (h.2.2 b)⟩
theorem pB{α:Type}{n:Nat}{P:α->Prop}{c:Prop}[Decidable c]{s t:KasT α}(af:c->kO n P s)(ai:¬c->kO n P t):kO n P (if c then s else t):=by
 by_cases h:c
 .rw[bL h];exact af h
 .rw[bF h];exact ai h
theorem VA{α:Type}{cmp:Nat->Nat->(Bool->aC->Prop)->aC->Prop}{lt:hD}{n:Nat}{P:α->Prop}{Q:α->aC->Prop}{s:aC}(ax:∀i j C,i<n->j<n->C (lt i j) s->cmp i j C s):
  ∀t:KasT α,kO n P t->(P (ht lt t)->Q (ht lt t) s)->t.kasWp cmp Q s
 |.ret a,p,h=>h p
 |.ask i j k,p,h=>ax i j _ p.1 p.2.1 (VA ax (k (lt i j)) (p.2.2 _) h)
theorem Ip{α:Type}{lt:hD}{n:Nat}{P:α->Prop}:∀t:KasT α,kO n P t->P (ht lt t)
 |.ret _,p=>p
 |.ask i j k,p=>Ip (k (lt i j)) (p.2.2 _)
noncomputable def ey(n:Nat)(p:gF):Prop:=p.Perm (xG (d_ n))
theorem ey.lt{n:Nat}{p:gF}(h:ey n p){x:Nat}(av:x∈p):x<n:=by
 have:=h.mem_iff.mp av;have:x∈d_ n:=by simpa using this
 exact lK.mp this
theorem ey.list{n:Nat}{p:gF}(h:ey n p):p.toList.Perm (d_ n):=by have:=Array.perm_iff_toList_perm.mp h;simpa using this
theorem ey.at{n:Nat}{p:gF}(h:ey n p)(h0:0<n)(k:Nat):p.getD k 0<n:=by
 by_cases aX:k<p.size
 .have e:p.getD k 0=p[k]:=by simp[t_,aX]
  rw[e];exact h.lt (Array.getElem_mem aX)
 .have e:p.getD k 0=0:=by simp[t_,aX]
  rw[e];exact h0
theorem ey.perm{n:Nat}{p q:gF}(h:ey n p)(e:q.Perm p):ey n q:=Array.Perm.trans e h
theorem ey.rev{n:Nat}{p:gF}(h:ey n p)(i j:Nat):ey n (Dk p i j):=h.perm (mirror_perm ..)
theorem ey.YP{n:Nat}{p:gF}(h:ey n p)(i j:Nat):ey n (bubble p i j):=h.perm (bubble_perm ..)
section
variable{n:Nat}
theorem Ku{p:gF}(h0:0<n)(h:ey n p):∀f k,kO n (λ_=>True) (kas_asc p f k)
 |0,_=>trivial
 |f+1,k=>⟨h.at h0 _,h.at h0 _,λb=>pB (λ_=>trivial) λ_=>Ku h0 h f (k+1)⟩
theorem Jt(h0:0<n):∀(f:Nat)(p:gF)(k q:Nat),ey n p->kO n (λr=>ey n r.1) (Dj f p k q)
 |0,p,k,q,h=>h
 |f+1,p,k,q,h=>⟨h.at h0 _,h.at h0 _,λb=>pB (λ_=>pB (λ_=>Jt h0 f _ _ _ (h.rev _ _)) λ_=>Jt h0 f _ _ _ h)
   λ_=>⟨h.at h0 _,h.at h0 _,λb=>pB (λ_=>h) λ_=>Jt h0 f _ _ _ h⟩⟩
theorem VB{p:gF}(h0:0<n)(h:ey n p)(k m:Nat):kO n (λr=>ey n r.2) (Dl k m p):=by unfold Dl;refine yU (P:=λ_=>True) (λa _=>?_) _ (Ku h0 (h.rev _ _) _ _);exact h.rev _ _
theorem Ģ{p:gF}(h0:0<n)(h:ey n p)(k m:Nat):kO n (λr=>ey n r.2) (Τ k m p):=
 yU (λr aq=>pB (λ_=>VB h0 (ey.rev aq _ _) _ _) λ_=>VB h0 aq _ _) _ (Jt h0 _ _ _ _ h)
theorem aeC{p:gF}(h0:0<n)(h:ey n p)(m:Nat):kO n (λr=>ey n r.2) (Py m p):=by unfold Py;refine yU (P:=λ_=>True) (λk _=>?_) _ (Ku h0 h _ _);refine pB (λ_=>h) λ_=>pB (λ_=>⟨h.at h0 _,h.at h0 _,λb=>pB (λ_=>h) λ_=>Ģ h0 (h.rev _ _) _ _⟩) λ_=>Ģ h0 h _ _
theorem Ui{p:gF}(h0:0<n)(h:ey n p)(k:Nat):∀f l r,kO n (λ_=>True) (yy p k f l r)
 |0,_,_=>trivial
 |f+1,l,r=>pB (λ_=>trivial) λ_=>⟨h.at h0 _,h.at h0 _,λb=>pB (λ_=>Ui h0 h k f _ _) λ_=>Ui h0 h k f _ _⟩
theorem Kv(h0:0<n):∀(f:Nat)(p:gF)(k:Nat),ey n p->kO n (ey n) (Px f p k)
 |0,p,k,h=>h
 |f+1,p,k,h=>yU (λl _=>Kv h0 f _ _ (h.YP _ _)) _ (Ui h0 h k _ _ _)
theorem JU(h0:0<n):kO n (ey n) (yz n):=by have aq:ey n (xG (d_ n)):=Ũ _;unfold yz;refine yU (P:=λr=>ey n r.2) (λr ai=>?_) _ (aeC h0 aq n);exact pB (λ_=>Kv h0 _ _ _ ai) λ_=>ai
end
noncomputable def pC(lt:hD)(n:Nat):List Nat:=if n<2 then d_ n else(ht lt (yz n)).toList
noncomputable def gM{α:Type}(d:α)(lt:hD)(xs:List α):List α:=(pC lt xs.length).map λi=>xs.getD i d
theorem Iq{lt:hD}{n i:Nat}(h:i∈pC lt n):i<n:=by
 unfold pC at h;split at h
 .exact lK.mp h
 .rename_i ai;exact ey.lt (Ip (lt:=lt) (yz n) (JU (by omega))) (by simpa using h)
theorem Rg(lt:hD)(n:Nat):(pC lt n).Perm (d_ n):=by
 unfold pC;split
 .exact List.Perm.refl _
 .exact ey.list (Ip (lt:=lt) (yz n) (JU (by omega)))
theorem ł{α:Type}(d:α)(lt:hD)(xs:List α):(gM d lt xs).Perm xs:=by
 have e:xs=(d_ xs.length).map λi=>xs.getD i d:=by
  apply Fx
  .simp
  .intro i af ai;simp[eJ,af]
 have p:=(Rg lt xs.length).map λi=>xs.getD i d;rw[<-e]at p;exact p
theorem SY{α:Type}(d:α)(lt:hD)(xs:List α):(gM d lt xs).length=xs.length:=(ł d lt xs).length_eq
theorem RM{lt:hD}{xs:aY}{us:cw}(h:cI xs us):cI (gM .bl lt xs) (gM .none lt us):=by
 unfold gM;rw[h.length];have:∀is:List Nat,(∀i∈is,i<xs.length)->cI (is.map λi=>xs.getD i .bl) (is.map λi=>us.getD i .none):=λis=>by
  induction is with
  |nil=>intro _;exact .nil
  |cons i r a8=>
   intro ar;refine .cons ?_ (a8 λj bK=>ar j (.tail _ bK));have cK:i<xs.length:=ar i (.head _);have aE:xs[i]?=some xs[i]:=dn cK;obtain⟨u,aB,er⟩:=h.get aE;show RelV (xs[i]?.getD .bl) (us[i]?.getD .none);rw[aE,aB];exact er
 exact this _ λi ar=>by rw[h.length];exact Iq ar
theorem adg{α:Type}(d:α)(lt:hD){xs:List α}(h:xs.length<2):gM d lt xs=xs:=by
 unfold gM pC;rw[bL h];apply Fx
 .simp
 .intro i af ai;simp[eJ,ai]
noncomputable def si(a:Addr)(h h':Heap):Prop:=∀b o,b≠a->h.get? b=some o->h'.get? b=some o
section
variable{prog:bJ}{w:bq}{A:cW}{E:cx}{s:aC}{vs:cw}{κ:xP}{lt:hD}
theorem VC{a:Addr}{e:Nat}{R:PySem.Fin->aC->Prop}(aZ:s.heap.get? a=some (jm "list" vs.toArray e))(qg:vs.length<64)(aX:2<=vs.length->∀s1:aC,si a s.heap s1.heap->∀Q:xP->aC->Prop,Q κ s1->aO (a6 prog w) A (PE vs.toArray) Q (λ_ _=>False) s1)(aj:2<=vs.length->∀s1:aC,si a s.heap s1.heap->∀i j C,i<vs.length->j<vs.length->C (lt i j) s1->Di prog w A κ vs i j C s1)(h:∀h' c,si a s.heap h'->h'.get? a=some (jm "list" (xG (gM fP lt vs)) c)->R (.done (.ret .none)) {s with heap:=h'}):
  aO (a6 prog w) A (Builtin.«list.sort» ⟨[.ref a],[]⟩) R E s:=by
 have emptied:=amS aZ λ_=>(#[]:ka)
 obtain⟨aE,CQ⟩:∃k,(s.heap.update a (ri λ_=>(#[]:ka))).get? a=some (jm "list" #[] k):=⟨_,emptied⟩
 have eP:si a s.heap (s.heap.update a (ri λ_=>(#[]:ka))):=λb o aa q=>(V6 _ _ _ _ aa).trans q;have big:∀k,k<64->k<=sizeLine:=λk aX=>by rw[pH];omega
 rw[list_sort_plain];refine aw (listItems_at aZ rfl (aw (listUpdate_at aZ rfl ?_ (by rw[gW];exact big _ qg) (e4 _))));refine aw (seqEpoch_at CQ rfl (aw (arO ?_ (big _ qg))));refine aw (ĵ (iD ?_) (e4 _));dsimp only;generalize kJ:((s.heap.update a (ri λ_=>(#[]:ka))).push (jm "tuple" vs.toArray 0)).push (jm "list" #[] 0)=ah;have CR:ah.get? a=some (jm "list" #[] aE):=by rw[<-kJ];exact dG _ (dG _ CQ)
 have hT:si a s.heap ah:=λb o aa q=>by rw[<-kJ];exact dG _ (dG _ (eP b o aa q))
 have tail:∀(x:Unit×SortSt)(out:cw),(arrOf x.2).map (·.2)=out.toArray->failedOf x.2=none->out.length<64->out=gM fP lt vs->
   aO (a6 prog w) A (do
    let now <-seqEpoch a
    asq (.ref a) λ_=>(arrOf x.2).map (·.2)
    match failedOf x.2 with
    |some gb=>do
     rule "list.sort.comparison-raised"
     throw gb
     if(now !=aE)=true then do
      rule "list.sort.modified"
      aqg "ValueError" "list modified during sort"
      ret fP
     else ret fP
    |_=>
     if(now !=aE)=true then do
      rule "list.sort.modified"
      aqg "ValueError" "list modified during sort"
      ret fP
     else ret fP) R E {s with heap:=ah}:=λx out aB cJ PK M0=>by
  refine aw (seqEpoch_at CR rfl (aw (listUpdate_at CR rfl ?_ (e4 _) ?_)))
  .rw[cJ];dsimp only;rw[bF (by simp)];obtain⟨c,ax⟩:∃c,(ah.update a (ri λ_=>(arrOf x.2).map (·.2))).get? a=some (jm "list" ((arrOf x.2).map (·.2)) c):=⟨_,amS CR λ_=>(arrOf x.2).map (·.2)⟩
   refine bf (h _ c (λb o aa q=>(V6 _ _ _ _ aa).trans (hT b o aa q)) ?_);rw[ax,aB,M0]
  .rw[aB,gW];have:=big _ PK;omega
 by_cases ai:(vs.toArray.size<2)
 .rw[bL ai,bL ai];have qf:vs.length<2:=by rw[gW]at ai;exact ai
  refine aw (bf (aw (bf ?_)));refine tail ((),SortSt.mk' general' (vs.toArray.zip vs.toArray) #[] 7 none) vs ?_ rfl qg (adg _ _ qf).symm;show(vs.toArray.zip vs.toArray).map (·.2)=vs.toArray;apply Array.toList_inj.mp;simp only[Array.toList_map,Array.toList_zip];exact List.map_snd_zip (cj _)
 .rw[bF ai,bF ai];have qf:2<=vs.length:=by rw[gW]at ai;omega
  refine aw (gf (aX qf {s with heap:=ah} hT (λUx s'=>Ux=κ/\s'={s with heap:=ah}) ⟨rfl,rfl⟩) ?_ λ_ _ x=>x.elim);rintro Ux s' ⟨rfl,rfl⟩;refine aw (gf (kat_run (κ:=Ux) (Q:=λst s'=>s'={s with heap:=ah}/\(arrOf st).map (·.2)=xG (gM fP lt vs)/\failedOf st=none/\(gM fP lt vs).length=vs.length)
   (G:=λp s'=>s'={s with heap:=ah}/\p=ht lt (yz vs.length)) rfl qf qg (λp st s' a1 a2 hE jd=>?_) (VA (λi j C ar bK eg=>aj qf _ hT i j C ar bK eg) _ (JU (by omega)) λ_=>⟨rfl,rfl⟩)) ?_ λ_ _ x=>x)
  .obtain⟨f9,gn⟩:=jd;have e:gM fP lt vs=p.toList.map λi=>vs.getD i fP:=by unfold gM pC;rw[bF (by omega),gn]
   refine⟨f9,?_,hE,?_⟩
   .rw[e];exact kat_snds rfl a2
   .rw[e,bp,Jw,a1]
  .rintro⟨⟨⟩,st⟩ s' ⟨rfl,gn,xW,MG⟩;exact tail ((),st) _ gn xW (by omega) rfl
noncomputable def mP(h h':Heap):Prop:=∀b o,h.get? b=some o->h'.get? b=some o
theorem Ń{l:Addr}{Q:cx}(aj:s.heap.IsList l vs.toArray)(qg:vs.length<64)(aX:2<=vs.length->∀s1:aC,mP s.heap s1.heap->∀Q:xP->aC->Prop,Q κ s1->aO (a6 prog w) A.in1.in1 (PE vs.toArray) Q (λ_ _=>False) s1)(aK:2<=vs.length->∀s1:aC,mP s.heap s1.heap->∀i j C,i<vs.length->j<vs.length->C (lt i j) s1->Di prog w A.in1.in1 κ vs i j C s1)(h:∀D h' c,s.heap.objs.size<=D->mP s.heap h'->h'.get? D=some (jm "list" (xG (gM fP lt vs)) c)->Q (.ref D) {s with heap:=h'}):
  aO (a6 prog w) A (call (.builtin "sorted") ([.ref l]:cw)) Q E s:=by
 have big:vs.length<=sizeLine:=by rw[pH];omega
 refine ż kind_sorted plain_sorted entry_sorted (args_sorted1 (.ref l)) ?_;unfold Builtin.«sorted»;refine aw (m:=checkCount "sorted" 1 1 _) (bf (aw (collect_list aj ?_ big)));refine aw (ĵ ?_ big);generalize rv:(s.heap.push (jm "list" #[] 0)).update s.heap.objs.size (ri (·++vs.toArray))=G;have b6:G.objs.size=s.heap.objs.size+1:=by rw[<-rv,Heap.size_update,size_push']
 have eP:mP s.heap G:=λb o q=>by have aa:=eD (dD q);rw[<-rv,V6 _ _ _ _ aa];exact dG _ q
 show aO _ _ _ _ _ {s with heap:=G.push (jm "list" vs.toArray 0)};have bN:(G.push (jm "list" vs.toArray 0)).get? G.objs.size=some (jm "list" vs.toArray 0):=gi _ rfl;have hT:mP s.heap (G.push (jm "list" vs.toArray 0)):=λb o q=>dG _ (eP b o q);have oN:∀h',si G.objs.size (G.push (jm "list" vs.toArray 0)) h'->mP s.heap h':=λh' x b o q=>x b o (eD (by rw[b6];exact Kx (dD q))) (hT b o q);refine aw (iD (q4 aqH ⟨_,bN,rfl⟩ amy ?_ (ajY _)));refine VC (s:={s with heap:=G.push (jm "list" vs.toArray 0)}) (κ:=κ) (lt:=lt) bN qg (λai s1 x=>aX ai s1 (oN _ x)) (λai s1 x=>aK ai s1 (oN _ x)) λh' c x ax=>?_;exact⟨_,rfl,bf ⟨_,rfl,h _ h' c (by rw[b6];exact AO _) (oN _ x) ax⟩⟩
noncomputable def lexLt:List a7->List a7->Bool
 |.inl a::r,.inl b::q=>if a=b then lexLt r q else decide (a<b)
 |.inr a::r,.inr b::q=>if a=b then lexLt r q else decide (a.cps.toList<b.cps.toList)
 |_,_=>false
noncomputable def km:List a7->List Bool:=List.map λk=>match k with
 |.inl _=>true
 |.inr _=>false
theorem adh(a b:Int):g_ (.int a) (.int b)=decide (a=b):=by
 by_cases h:a=b
 .subst h;rw[cq rfl];simp[g_]
 .rw[dF h];simp[g_,h]
theorem U1(x y:Str):g_ (.str x) (.str y)=decide (x=y):=by
 by_cases h:x=y
 .subst h;rw[cq rfl];simp[g_]
 .rw[dF h];simp[g_,h]
end
section
variable{prog:bJ}{w:bq}{A:cW}{E:cx}{s:aC}
theorem S8{Q:Bool->aC->Prop}:∀(d e:List a7)(us ws:cw)(i:Nat),cI (d.map dg) us->cI (e.map dg) ws->km d=km e->Q (lexLt d e) s->KatLex prog w A true false Q (us.zip ws) i s
 |[],e,us,ws,i,v1,v2,hs,h=>by
  cases v1;have cT:e=[]:=by
   cases e with
   |nil=>rfl
   |cons _ _=>cases hs
  subst cT;exact kat_nil h
 |.inl a::r,[],_,_,_,_,_,hs,_=>by cases hs
 |.inr a::r,[],_,_,_,_,_,hs,_=>by cases hs
 |.inl a::r,.inr b::q,_,_,_,_,_,hs,_=>by simp[km]at hs
 |.inr a::r,.inl b::q,_,_,_,_,_,hs,_=>by simp[km]at hs
 |.inl a::r,.inl b::q,_,_,i,.cons cg t1,.cons d5 f5,hs,h=>by
  obtain⟨t,rfl⟩:=cg;obtain⟨u,rfl⟩:=d5;have vu:km r=km q:=by simpa[km]using hs
  unfold lexLt at h;refine kat_cons (keq_flat (d:=.int a) (e:=.int b) (λ_=>.int a t) (λ_=>.int b u) prog w _ _ ?_);rw[adh];by_cases e:a=b
  .rw[bL e]at h;rw[cq e];exact kat_yes (S8 r q _ _ _ t1 f5 vu h)
  .rw[bF e]at h;rw[dF e];refine kat_no ?_;cases i with
   |zero=>exact oneLt_int h
   |succ i=>exact kat_one _ _ (lt_int h)
 |.inr a::r,.inr b::q,_,_,i,.cons cg t1,.cons d5 f5,hs,h=>by
  obtain⟨t,rfl⟩:=cg;obtain⟨u,rfl⟩:=d5;have vu:km r=km q:=by simpa[km]using hs
  unfold lexLt at h;refine kat_cons (keq_flat (d:=.str a) (e:=.str b) (λ_=>.str a t) (λ_=>.str b u) prog w _ _ ?_);rw[U1];by_cases e:a=b
  .rw[bL e]at h;rw[cq e];exact kat_yes (S8 r q _ _ _ t1 f5 vu h)
  .rw[bF e]at h;rw[dF e];refine kat_no ?_;cases i with
   |zero=>exact oneLt_str h
   |succ i=>exact kat_one _ _ (lt_str h)
noncomputable def l2(ds:List (List a7))(i j:Nat):Bool:=lexLt (ds.getD i []) (ds.getD j [])
theorem ń:∀{ts:bS}{us:cw},cI (ts.map V.ref) us->us=ts.map cy
 |[],_,.nil=>rfl
 |t::ts,_,.cons r q=>by cases r;rw[ń q];rfl
noncomputable def Μ:a7->Bool
 |.inl _=>true
 |.inr _=>false
noncomputable def Ě(b:Bool):Value:=if b=true then .type "int" else .type "str"
end
theorem WZ{P:bJ}{w:bq}{H:ae}{h af:Heap}(ok:fg P w H h)(x:mP h af){b:Bool}:∀{ts:bS}{ds:List (List a7)},bk (λr d=>H r=some (.tup (d.map dg))) ts ds->(∀d∈ds,∃r,km d=b::r)->
  ∃fs,KatTups af (ts.map cy) fs/\fs.length=ts.length/\∀v∈fs,∃k:a7,Μ k=b/\RelV (dg k) v
 |[],[],_,_=>⟨[],KatTups.nil,rfl,λ_ h=>bE h eA⟩
 |t::ts,d::ds,.cons r q,hd=>by
  obtain⟨fs,k1,k2,k3⟩:=WZ ok x q λd' h'=>hd d' (.tail _ h');obtain⟨ć,hs⟩:=hd d (.head _);obtain⟨_,its,b7,o,aZ,ax,n,i3⟩:=ok t _ r;cases d with
  |nil=>cases hs
  |cons k d=>
   cases b7 with
   |cons tT fI=>
    rename_i f fr;refine⟨f::fs,KatTups.cons (x _ _ aZ) ax i3 (by simp) k1,by simp[k2],λv bC=>?_⟩;rcases dA.mp bC with rfl|aoh
    .refine⟨k,?_,tT⟩;have:km (k::d)=Μ k::km d:=by cases k<;>rfl
     rw[this]at hs;exact(List.cons.inj hs).1
    .exact k3 v aoh
 |[],d::ds,h,_=>nomatch h
 |t::ts,[],h,_=>nomatch h
section
variable{X:bb}
theorem yu:iY "sorted"=some (.builtin "sorted"):=by decide+kernel
theorem PY:jU X (.builtin "sorted") (λxs H Q=>∃(p:Addr)(ts:bS)(ds:List (List a7))(b:Bool)(cV:List Bool),xs=[.ref p]/\aG X.K H p (ts.map V.ref)/\bk (λr d=>H r=some (.tup (d.map dg))) ts ds/\ts.length<64/\(∀d∈ds,km d=b::cV)/\
  ∀l,H l=none->Q (.ref l) (upd H l (.lst (gM .bl (l2 ds) (ts.map V.ref))))):=by
 intro pins s σ H xs us Q I r h;obtain⟨p,ts,ds,b,cV,rfl,aT,c',qg,n',q⟩:=h;obtain⟨u,rfl,er⟩:=vals1 r;cases er;obtain⟨its,b7,pl,hz⟩:=I.list aT;have hlen:=b7.length;rw[bp]at hlen;obtain rfl:=ń b7;have atk:ts.length=ds.length:=gE c';have at_:∀i,i<ts.length->∃d its,(ts.map cy).getD i fP=.ref ts[i]!/\ds.getD i []=d/\km d=b::cV/\cI (d.map dg) its/\IsTup s.heap ts[i]! its.toArray:=λi ar=>by
  have aE:ts[i]?=some ts[i]:=dn ar;have aB:ds[i]?=some ds[i]:=dn (by omega);have cJ:ts[i]! =ts[i]:=by simp[ar]
  have aR:H ts[i]=some (.tup (ds[i].map dg)):=by
   have:∀{l:bS}{m:List (List a7)}{k:Nat}{x:Addr}{y:List a7},bk (λr d=>H r=some (.tup (d.map dg))) l m->l[k]?=some x->m[k]?=some y->H x=some (.tup (y.map dg)):=λ{l m k x y}P=>by
    induction P generalizing k with
    |nil=>intro h;simp at h
    |cons a t a8=>
     cases k with
     |zero=>intro af ai;simp at af ai;subst af;subst ai;exact a
     |succ k=>intro af ai;simp at af ai;exact a8 af ai
   exact this c' aE aB
  obtain⟨_,its,v1,t1⟩:=I.a_ _ _ aR;refine⟨ds[i],its,?_,?_,n' _ (so _),v1,?_⟩
  .rw[eJ,c6,aE,cJ];rfl
  .rw[eJ,aB];rfl
  .rw[cJ];exact t1
 refine Ń (κ:=tuples' true) (lt:=l2 ds) pl.isList (by rw[bp];exact qg) (λai s1 x mq e8=>?_) (λai s1 x i j C ar bK eg=>?_) λD h' c hle x ax=>?_
 .obtain⟨fs,k1,k2,k3⟩:=WZ I.a_ x c' λd hd=>⟨cV,n' d hd⟩
  rw[bp]at ai;refine kat_kind (T:=Ě b) k1 (by omega) (λv bC=>?_) (by cases b<;>decide+kernel) ?_
  .obtain⟨k,en,tT⟩:=k3 v bC;subst en;cases k with
   |inl i=>obtain⟨t,rfl⟩:=tT;exact WR rfl
   |inr i=>obtain⟨t,rfl⟩:=tT;exact WR rfl
  .have e:(Ě b !=sF "tuple")=true:=by cases b<;>decide+kernel
   rw[e];exact e8
 .rw[bp]at ar bK;obtain⟨d,its,a1,a2,hE,jd,o,aZ,_,n,i3⟩:=at_ i ar;obtain⟨d',its',f9,gn,xW,MG,cC,kL,_,lx,anp⟩:=at_ j bK;unfold Di;rw[a1,f9];have hQ:=jd.length;have gN:=MG.length;rw[bp]at hQ gN;have kn:d.length=d'.length:=by have e:=hh sq (hE.trans xW.symm);simpa[km]using e
  refine kat_lt (b:=true) (x _ _ aZ) i3 (x _ _ kL) anp ?_;rw[dF (by rw[gW,gW];omega)];refine S8 d d' its its' 0 jd MG (hE.trans xW.symm) ?_;have:l2 ds i j=lexLt d d':=by unfold l2;rw[a2,gn]
  rw[<-this];exact eg
 .refine⟨.ref D,_,I.laid (a:=D) (o:=.lst (gM .bl (l2 ds) (ts.map V.ref))) (t':=s.toks) (λb o q=>x b o q) hle ?_,rfl,q D (I.a_.fresh hle)⟩;refine⟨?_,_,c,RM b7,ax⟩;rw[SY,bp,pH];omega
noncomputable def lH(h:Heap)(d:Addr)(es:Array oR)(ep:Nat):Prop:=∃o,h.get? d=some o/\o.ExactDict/\o.data=.dict es ep
end
section
variable{prog:bJ}{w:bq}{A:cW}{E:cx}{s:aC}{it d:Addr}{i ep:Nat}{es:Array oR}{ok eI:Value}
theorem aeD{Q:Option Value->aC->Prop}(hit:uu s.heap it d i es.size ep ok eI)(hd:lH s.heap d es ep)(ar:i<es.size)(e8:∀h',Wg h' it d (i+1) es.size ep es[i].key es[i].val s.heap.objs.size->h'.get? s.heap.objs.size=some {cls:=.type "tuple",data:=.seq #[es[i].key,es[i].val]}->
   (∀b o,b≠it->s.heap.get? b=some o->h'.get? b=some o)->Q (some (.ref s.heap.objs.size)) {s with heap:=h'}):aO (a6 prog w) A (ib (.ref it)) Q E s:=by
 obtain⟨G,pf,jv,a4,os⟩:=s;obtain⟨o,aZ,_,i3⟩:=hd;have T0:A9 ⟨G,pf,jv,a4,os⟩ (.ref it) "dict_itemiterator":=⟨_,hit,rfl⟩
 have tI:¬((cy d==fP)=true):=ff;have own:E6 "dict_itemiterator"=true:=by decide
 have lit:it<G.objs.size:=dD hit;unfold ib;refine aw (zp (Tj (name:=eH "__next__") T0 F.slot_dict_itemiterator_next (q4 F.slot_dict_itemiterator_next T0 F.entry_dict_itemiterator_next ?_ (F.args_dict_itemiterator_next_1 _))));refine aw (bf (aw (aw ?_)))
 first
 |refine aw (Ts T0 (bf (aw (wF hit rfl ?_))))
 |refine aw (Tu T0 (bf (aw (wF hit rfl ?_))))
 simp only[own,if_true];change aO _ _ (ite ((cy d==fP)=true) _ _) _ _ _;rw[bF tI];refine aw (bf (aw (wD aZ i3 ?_)));rw[bF (by simp)];refine aw (bf (aw (ER aZ i3 ?_)));rw[bF (by simp)];refine bf ?_;simp only[show¬((i:Int)<0)from by omega,if_false,nN,Jv ar];refine aw ?_
 first
 |refine aw (Ts T0 (bf (aw (Tp T0 ?_))))
 |refine aw (Tu T0 (bf (aw (Tp T0 ?_))))
 show aO _ _ (za (.ref it) 3 (oC ((i:Int)+1)) >>=_) _ _ ⟨G,pf,jv,a4,os⟩;refine aw (Jc hit (by simp) λpQ aE jA=>?_);have jA:kv it G pQ:=jA;have aE:uu pQ it d (i+1) es.size ep ok eI:=by
  have z:((i+1:Nat):Int)=(i:Int)+1:=by omega
  unfold uu;rw[z];simpa[oC]using aE
 have Ba:A9 ⟨pQ,pf,jv,a4,os⟩ (.ref it) "dict_itemiterator":=⟨_,aE,rfl⟩
 refine aw (iD (aw (Tp Ba (aw (Tp Ba ?_)))));show aO _ _ (Ŵ (.ref it) 6 es[i].key es[i].val) _ _ ⟨pQ,pf,jv,a4,os⟩;simp only[Ŵ];refine aw (arO ?_);have bV:pQ.objs.size=G.objs.size:=jA.1;have aB:uu (pQ.push {cls:=.type "tuple",data:=.seq #[es[i].key,es[i].val]}) it d (i+1) es.size ep ok eI:=dG _ aE;have f5:(pQ.push {cls:=.type "tuple",data:=.seq #[es[i].key,es[i].val]}).get? G.objs.size=some {cls:=.type "tuple",data:=.seq #[es[i].key,es[i].val]}:=by rw[<-bV];exact gi _ rfl
 have k2:∀b u,b≠it->G.get? b=some u->(pQ.push {cls:=.type "tuple",data:=.seq #[es[i].key,es[i].val]}).get? b=some u:=λb u aa q=>dG _ (jA.extBut b u aa q);show aO _ _ (ų (.ref it) >>=_) _ _ ⟨pQ.push {cls:=.type "tuple",data:=.seq #[es[i].key,es[i].val]},pf,jv,a4,os⟩;rw[bV];generalize pQ.push {cls:=.type "tuple",data:=.seq #[es[i].key,es[i].val]}=Vr at aB f5 k2⊢;refine aw ?_;unfold ų;refine aw (Tn aB rfl (x:=.none) rfl (bf ?_));simp only[if_true];refine aw (Tn aB rfl (x:=ok) rfl (aw (Tn aB rfl (x:=eI) rfl ?_)));refine aw (Jc aB (by simp) λJ4 cJ HB=>?_);have HB:kv it Vr J4:=HB;have cJ:uu J4 it d (i+1) es.size ep es[i].key eI:=cJ;refine aw (Jc cJ (by simp) λJ5 fB HC=>?_);have HC:kv it J4 J5:=HC;have fB:uu J5 it d (i+1) es.size ep es[i].key es[i].val:=fB;refine aw (Jc fB (by simp) λJ6 ik HD=>?_);have HD:kv it J5 J6:=HD;have ik:Wg J6 it d (i+1) es.size ep es[i].key es[i].val G.objs.size:=ik;refine aw (Jc ik (by simp) λE9 kE PW=>?_);have PW:kv it J6 E9:=PW;have kE:Wg E9 it d (i+1) es.size ep es[i].key es[i].val G.objs.size:=kE;have all:∀b u,b≠it->Vr.get? b=some u->E9.get? b=some u:=λb u aa q=>PW.extBut b u aa (HD.extBut b u aa (HC.extBut b u aa (HB.extBut b u aa q)));exact aw (nH (bf (bf ⟨_,rfl,bf (e8 E9 kE (all _ _ (xH lit) f5) λb u aa q=>all b u aa (k2 b u aa q))⟩)))
theorem aeE{Q:Option Value->aC->Prop}(dy:A.handled=none)(hit:uu s.heap it d i es.size ep ok eI)(hd:lH s.heap d es ep)(ar:es.size<=i)(e8:∀h',Heap.ExtBut it s.heap h'->Q none {s with heap:=h'}):
  aO (a6 prog w) A (ib (.ref it)) Q E s:=by
 obtain⟨o,aZ,_,i3⟩:=hd;have T0:s.TypeIs (.ref it) "dict_itemiterator":=⟨_,hit,rfl⟩
 have tI:¬((cy d==fP)=true):=ff;have own:E6 "dict_itemiterator"=true:=by decide
 unfold ib;refine aw (zp (Tj (name:=eH "__next__") T0 F.slot_dict_itemiterator_next (q4 F.slot_dict_itemiterator_next T0 F.entry_dict_itemiterator_next ?_ (F.args_dict_itemiterator_next_1 _))));refine aw (bf (aw (aw ?_)))
 first
 |refine aw (Ts T0 (bf (aw (wF hit rfl ?_))))
 |refine aw (Tu T0 (bf (aw (wF hit rfl ?_))))
 simp only[own,if_true];change aO _ _ (ite ((cy d==fP)=true) _ _) _ _ _;rw[bF tI];refine aw (bf (aw (wD aZ i3 ?_)));rw[bF (by simp)];refine aw (bf (aw (ER aZ i3 ?_)));rw[bF (by simp)];refine bf ?_;simp only[show¬((i:Int)<0)from by omega,if_false,nN,E3 ar];refine aw ?_
 first
 |refine aw (Ts T0 (bf ?_))
 |refine aw (Tu T0 (bf ?_))
 change aO _ _ (za (.ref it) 2 fP >>=_) _ _ s;refine aw (ķ hit rfl (by simp) ?_);change aO _ _ (HO (.type "StopIteration") [] >>=_) _ _ _;refine aw ?_;simp only[HO,newTuple];refine aw (oK ?_ (by size_fits));refine aw (m:=yb _ _) (wG (a:=fP) (by first|rfl|(simp only[yb];rfl)) (oK ?_ (by size_fits)));have nk:A.in1.handled=none:=dy;simp only[raiseNew];refine aw (wpAny_handled ?_);rw[nk];refine aw (bf (wpAny_throw ?_));refine aw (To (b:=true) (T:="StopIteration") ⟨_,gi _ rfl,rfl⟩ aow ?_);exact bf (e8 _ (J7 (J7 (aaY (Fl ..)) _) _))
theorem acR{v:Addr}{Q:cx}(bC:s.heap.IsItemsView v d)(hd:lH s.heap d es ep)(e8:Q (.ref s.heap.objs.size) {s with heap:=s.heap.push {cls:=.type "dict_itemiterator",data:=.fields #[.none,.bool false,.ref d,.int 0 0,.int es.size 0,.int ep 0,.none,.none]}}):aO (a6 prog w) A (yY (.ref v)) Q E s:=by
 obtain⟨hj,af,_,jK⟩:=id bC;obtain⟨o,aZ,_,i3⟩:=hd;have tI:¬((cy d==fP)=true):=ff;have own:E6 "dict_itemiterator"=true:=by decide
 have Ba:=bC.typeIs;refine Ķ Ba F.slot_dict_items_iter (q4 F.slot_dict_items_iter Ba F.entry_dict_items_iter ?_ (F.args_dict_items_iter_1 _));unfold Builtin.«dict_items.__iter__» asn;refine aw (bf (aw ?_));refine aw (Tn af jK (x:=.ref d) rfl (bf (aw ?_)));unfold aso;refine aw (wD aZ i3 (aw (ER aZ i3 ?_)));simp only[own,if_true];refine oK ?_ (by simp only[pH,sizeOk,Ų,ig,gW,mj,AG];omega);refine bf ⟨_,rfl,"dict_itemiterator",_,⟨_,gi _ rfl,rfl⟩,F.slot_dict_itemiterator_next.lookup,?_⟩;simpa[oC,Ų]using e8
theorem aaA{Q:cx}(hs:(d==kY)=false)(hd:lH s.heap d es ep)(e8:Q (.ref s.heap.objs.size) {s with heap:=s.heap.push {cls:=.type "dict_items",data:=.fields #[.ref d]}}):
  aO (a6 prog w) A (call (.builtin "dict.items") ([.ref d]:cw)) Q E s:=by
 obtain⟨o,aZ,av,i3⟩:=hd;have T0:s.TypeIs (.ref d) "dict":=⟨o,aZ,av.1⟩
 refine q4 F.slot_dict_items T0 F.entry_dict_items ?_ (F.args_dict_items_1 _);unfold Builtin.«dict.items»;refine aw ?_;unfold asj;refine aw (Tr T0 ?_);show aO _ _ (pure d) _ _ s;refine bf ?_;change aO _ _ (Jx d >>=_) _ _ s;unfold Jx;rw[bF (by rw[hs];exact ff)];exact aw (bf (aw (oK (bf ⟨_,rfl,e8⟩))))
end
section
variable{X:bb}{pins:cu}{σ:ao.St}{H:ae}{s:aC}{a:Addr}{u u':ed}
theorem Ju(I:Inv X pins σ H s)(aK:H a=some u)(dt:∀xs,u≠.tup xs)(dC:∀y,u≠.own y)(new:ee X.prog X.w (upd H a u') s.heap a u')(f1:∀xs,X.me a≠some (.tup xs))(f2:∀o v,X.me a≠some (.eF o v))(cv:∀ps,X.me a≠some (.pI ps)):Inv X pins σ (upd H a u') s:=by
 have other:∀{b:Addr},H b=none->upd H a u' b=none:=λ{b}e=>by rw[aA (λz=>by rw[z,aK]at e;cases e)];exact e
 refine⟨I.ok,I.os,I.bare,⟨I.base.keep,I.base.slot,λb o e n av=>other (I.base.free b o e n av),I.base.there,λb xs e=>?_,λb o v e=>?_,λb ps e=>?_⟩,I.loc,I.cell,other I.free,λx c e=>other (I.mB x c e),λp aR=>?_,λb o e=>?_,I.len⟩
 .rw[aA (λz=>by rw[z]at e;exact f1 xs e)];exact I.base.hv b xs e
 .rw[aA (λz=>by rw[z]at e;exact f2 o v e)];exact I.base.iN b o v e
 .rw[aA (λz=>by rw[z]at e;exact cv ps e)];exact I.base.i_ b ps e
 .obtain⟨af,ai,bR,cS,dX⟩:=I.pin p aR;exact⟨af,other ai,bR,cS,dX⟩
 .by_cases aa:b=a
  .subst aa;rw[aQ]at e;cases e;exact new
  .rw[aA aa]at e;refine(I.a_ b o e).mS (λc v _ q=>q) (λc q=>?_) λc xs q=>?_
   .rw[aA (λz=>by rw[z,aK]at q;exact dC _ (hY q))];exact q
   .rw[aA (λz=>by rw[z,aK]at q;exact dt _ (hY q))];exact q
inductive ajF(b0:TE)(σ:ao.St)(H:ae)(Q:a'):Prop where
 |mk (a:_) (kvs:_) (bV:H a=some (.c4 kvs)) (bD:∀o,b0 σ (upd H a (.eF o (.c4 kvs))) λv H'=>H' a=some (.eF o (.c4 kvs))/\Q v (upd H' a (.c4 kvs)))
noncomputable def aqQ(b0:TE):TE:=λσ H Q=>ajF b0 σ H Q
theorem aih{e:Expr}{b0:TE}(he:bh X e b0):bh X e (aqQ b0):=by
 intro pins s σ H Q I h;obtain⟨a,kvs,aK,h⟩:=h;have f1:∀xs,X.me a≠some (.tup xs):=λxs z=>by have:=I.base.hv a xs z;rw[aK]at this;cases this
 have f2:∀o v,X.me a≠some (.eF o v):=λo v z=>by have:=I.base.iN a o v z;rw[aK]at this;cases this
 have cv:∀ps,X.me a≠some (.pI ps):=λps z=>by obtain⟨m,e⟩:=I.base.i_ a ps z;rw[aK]at e;cases e
 obtain⟨z,y,xs,r,o,es,ep,e,c⟩:=I.a_ a _ aK;have QH:∀{H':ae}{b:Addr}{ys:aY},H b=some (.tup ys)->upd H a (.eF o (.c4 kvs)) b=some (.tup ys):=λ{H' b ys}q=>by rw[aA (λw=>by rw[w,aK]at q;cases q)];exact q
 have aP:Inv X pins σ (upd H a (.eF o (.c4 kvs))) s:=Ju I aK (by intro _ w;cases w) (by intro _ w;cases w) ⟨e,z,y,xs,bk.e2 r λp q w=>⟨w.1,QH (H':=H) w.2.1,w.2.2⟩,o,es,ep,e,c⟩ f1 f2 cv;refine bB (he pins s σ _ _ aP (h o)) λv s1⟨x,H1,bA,b7,mD,bM⟩=>?_;obtain⟨aE,bV,oP,arT,cg,hj,M5,M1,aB,c1⟩:=bA.a_ a _ mD;refine⟨x,upd H1 a (.c4 kvs),Ju bA (u':=.c4 kvs) mD (by intro _ w;cases w) (by intro _ w;cases w) ⟨bV,oP,arT,bk.e2 cg λp q w=>⟨w.1,?_,w.2.2⟩,hj,M5,M1,aB,c1⟩ f1 f2 cv,b7,bM⟩;have fe:=w.2.1;rw[aA (λt=>by rw[t,mD]at fe;cases fe)];exact fe
end
noncomputable def J_(a:Addr)(o:Obj)(kvs:List (List a7×V)):fT:=
 ⟨λi H=>H a=some (.eF o (.c4 kvs))/\i<kvs.length,λi H v H'=>∃p b k x,H p=none/\v=.ref p/\kvs[i]?=some (k,x)/\H b=some (.tup (k.map dg))/\H'=upd H p (.tup [.ref b,x]),λi H=>H a=some (.eF o (.c4 kvs))/\kvs.length<=i⟩
theorem Ul{P:bJ}{w:bq}{H:ae}{h:Heap}{a:Addr}{o:Obj}{kvs:List (List a7×V)}(ok:fg P w H h)(aK:H a=some (.eF o (.c4 kvs))):h.get? a=some o/\(a==kY)=false/\o.ExactDict/\∃es ep,o.data=.dict es ep/\es.size=kvs.length/\
  ∀(i:Nat)(k:List a7)(x:V),kvs[i]?=some (k,x)->∃b v,(∃ar:i<es.size,es[i].key=.ref b/\es[i].val=v)/\H b=some (.tup (k.map dg))/\RelV x v:=by
 obtain⟨cT,_,y,xs,r,cC,es,ep,aE,av,hd,he,_⟩:=ok a _ aK;rw[cT]at aE;cases aE;have hQ:kvs.length=xs.length:=gE r;have gN:es.size=xs.length:=by have:=hh sq he;simpa using this
 refine⟨cT,y,av,es,ep,hd,by omega,λi k x ar=>?_⟩;have lt:i<kvs.length:=(eG.mp ar).1;have pick:∀{l:List (List a7×V)}{m:List (List a7×Addr×Value)}{j:Nat}{p:List a7×V},bk (λ(p:List a7×V)(q:List a7×Addr×Value)=>p.1=q.1/\H q.2.1=some (.tup (p.1.map dg))/\RelV p.2 q.2.2) l m->l[j]?=some p->∃q,m[j]?=some q/\p.1=q.1/\H q.2.1=some (.tup (p.1.map dg))/\RelV p.2 q.2.2:=λ{l m j p}R=>by
  induction R generalizing j with
  |nil=>intro h;simp at h
  |cons a t a8=>
   cases j with
   |zero=>intro h;simp at h;subst h;exact⟨_,rfl,a⟩
   |succ j=>intro h;simp at h;simpa using a8 h
 obtain⟨q,aT,_,ai,bR⟩:=pick r ar;have tf:i<es.size:=by omega
 have cJ:es[i]=BC (l8 (f' P w)) q:=by
  have fB:es.toList[i]?=some (BC (l8 (f' P w)) q):=by rw[he,c6,aT];rfl
  have ik:es.toList[i]?=some es[i]:=by simp[tf]
  rw[ik]at fB;exact hY fB
 exact⟨q.2.1,q.2.2,⟨tf,by rw[cJ];rfl,by rw[cJ];rfl⟩,ai,bR⟩
theorem aaB{P:bJ}{w:bq}{K:aU}{elts:gG}{k:Nat}{pos:Pos}{o:Obj}{kvs:List (List a7×V)}{es:Array oR}{ep:Nat}(a it:Addr)(hd:o.data=.dict es ep):
  Turn P w K (.Tuple elts k pos) (J_ a o kvs) [it] it (λi h=>∃x y,uu h it a i es.size ep x y)where
 mem:=by simp
 obj:=λi h st b aa=>by
  obtain⟨x,y,he⟩:=st;have q:b=it:=by simpa using aa
  subst q;exact⟨_,he,λv z=>by
   have di:Vo _=Vn v:=z;cases di⟩
 keep:=λi h h' st bT=>by obtain⟨x,y,he⟩:=st;exact⟨x,y,bT it (by simp) _ he⟩
 item:=by
  intro X gu hw fY ax i pins s σ H E I hf st bP;subst gu hw fY;obtain⟨x0,arU,he⟩:=st;obtain⟨aK,ar⟩:=bP;obtain⟨go,_,cR,pd,m_,kf,b6,ge⟩:=Ul I.a_ aK;rw[hd]at kf;cases kf;obtain⟨i6,u5⟩:∃q,kvs[i]?=some q:=⟨_,dn ar⟩
  obtain⟨b,v,⟨tf,en,ev⟩,aa,b7⟩:=ge i i6.1 i6.2 u5;obtain⟨f0,f1,f2,cv,f4,fl⟩:=hf it (by simp);refine aeD he ⟨o,go,cR,hd⟩ tf λaf aZ jQ aX=>⟨_,rfl,?_⟩
  refine wpAny_letOwnedTupleGo_items aZ λai CK kM=>?_;have kM:kv it af ai:=kM;rw[en,ev]at jQ;have aS:H s.heap.objs.size=none:=I.fresh;have lit:it<s.heap.objs.size:=dD he;have pD:∀c u,c∉[it]->s.heap.get? c=some u->ai.get? c=some u:=λc u ki q=>by have CG:c≠it:=λz=>ki (by simp[z]);exact(kM.2 c CG).trans (aX c u CG q)
  have Nx:ai.get? s.heap.objs.size=some {cls:=.type "tuple",data:=.seq #[.ref b,v]}:=(kM.2 _ (xH lit)).trans jQ;have pz:∀c q,H c=some q->c∉[it]:=λc q ki z=>by
   have di:c=it:=by simpa using z
   subst di;rw[f0]at ki;cases ki
  refine⟨.ref s.heap.objs.size,upd H s.heap.objs.size (.tup [.ref b,i6.2]),?_,rfl,⟨s.heap.objs.size,b,i6.1,i6.2,aS,rfl,u5,aa,rfl⟩,⟨_,_,CK⟩,λc ki=>?_⟩
  .show Inv X pins σ (upd H s.heap.objs.size (.tup [.ref b,i6.2])) {s with heap:=ai,gens:=s.gens,drawn:=s.drawn,toks:=s.toks};refine I.step (g':=s.gens) (d':=s.drawn) (t':=s.toks) (h':=ai) (ch:=[it]) (λc ki=>?_) (λc u _ _ ki q _=>pD c u ki q) (λc u _ _ ki q _=>⟨u.slots,pD c u ki q⟩) (λc u ki q n=>?_)
    (λc u ki q=>⟨u,pD c u ki q⟩) (λc ys q=>?_) (λc u v q=>?_) (λc ps q=>⟨#[],?_⟩) (λm hm=>?_) (λc u q=>?_) I.bare
   .have di:c=it:=by simpa using ki
    subst di;exact⟨cv,f1,f4,fl⟩
   .rw[aA (eD (dD q))];exact n
   .rw[aA (bW q aS)];exact q
   .rw[aA (bW q aS)];exact q
   .rw[aA (bW q aS),q];simp
   .obtain⟨u,Ga,amz,b8,r⟩:=hm;refine⟨u,Ga,amz,pD _ u (λz=>?_) b8,r⟩;exact f1 (by simpa using z:X.env.locals=it).symm
   .by_cases Z3:c=s.heap.objs.size
    .subst Z3;rw[aQ]at q;cases q;exact⟨(by show 2<=sizeLine;decide),[.ref b,v],.cons rfl (.cons b7 .nil),_,Nx,rfl,_,rfl⟩
    .rw[aA Z3]at q;refine(I.a_ c u q).mS (λc2 y vl z=>pD c2 y ?_ z) (λc2 z=>by rw[aA (bW z aS)];exact z) λc2 ys z=>by rw[aA (bW z aS)];exact z
     rcases vl with rfl|vl
     .exact pz _ _ q
     .exact pz _ _ vl
  .have di:c=it:=by simpa using ki
   subst di;rw[aA (eD lit)];exact f0
 done:=by intro X gu hw fY ax i pins s σ H E I hf st bP;subst gu hw fY;obtain⟨x0,arU,he⟩:=st;obtain⟨aK,ar⟩:=bP;obtain⟨go,_,cR,pd,m_,kf,b6,ge⟩:=Ul I.a_ aK;rw[hd]at kf;cases kf;obtain⟨f0,f1,f2,cv,f4,fl⟩:=hf it (by simp);exact aeE (I.ok.hd ax) he ⟨o,go,cR,hd⟩ (by omega) λh' ea=>⟨rfl,I.turned (t':=s.toks) (λb o aa e=>ea b o aa e) f0 f1 cv f4 fl⟩
 self:=λ_ _ _ _ _ st h=>by obtain⟨x,y,he⟩:=st;exact PySem.W.kcp_self he h
section
variable{X:bb}{elts:gG}{k:Nat}{EC:Pos}
noncomputable def agj(bY:TE):TI:=λσ H R=>bY σ H λx H1=>∃a o kvs,x=.ref a/\H1 a=some (.eF o (.c4 kvs))/\R (J_ a o kvs) H1
theorem acS{o:Expr}{bY:TE}{eN e6:Pos}(aZ:bh X o bY)(NH:uP o "items" X.env (eval o X.env)=eval o X.env:=by rfl)(Oa:(eN.endLine==e6.line)=true:=by rfl):
  nU X (.Tuple elts k EC) (.Call (.Attribute o "items" eN) [] [] e6) (agj bY):=by
 intro pins s σ H R I h;refine wpAny_Call_method0_late NH Oa (bB (aZ pins s σ H _ I h) λv s1⟨x,H1,aP,cg,a,ob,kvs,ex,aK,bM⟩=>?_);subst ex;cases cg;obtain⟨go,Nk,cR,es,ep,kf,b6,ge⟩:=Ul aP.a_ aK;refine⟨"dict","dict.items",FQ,PySem.F.slot_dict_items,PySem.F.type_dict_items,⟨ob,go,cR.1⟩,λb e=>?_,zX rfl (PySem.evalArgs_none ?_)⟩
 .cases e;exact⟨ob,go,cR.2.1⟩
 .refine aaA Nk ⟨ob,go,cR,kf⟩ ?_;have k1:∀b o,s1.heap.get? b=some o->(s1.heap.push {cls:=.type "dict_items",data:=.fields #[.ref a]}).get? b=some o:=λb o e=>dG _ e;refine acR (d:=a) (es:=es) (ep:=ep) ⟨_,gi _ rfl,rfl,rfl⟩ ⟨ob,k1 _ _ go,cR,kf⟩ ?_;have bA:Inv X pins σ H1 {s1 with heap:=s1.heap.push {cls:=.type "dict_items",data:=.fields #[.ref a]}}:=aP.kept (t':=s1.toks) k1;refine⟨(s1.heap.push {cls:=.type "dict_items",data:=.fields #[.ref a]}).objs.size,[(s1.heap.push {cls:=.type "dict_items",data:=.fields #[.ref a]}).objs.size],_,_,H1,rfl,bA.kept (t':=s1.toks) λb o e=>dG _ e,aaB a _ kf,⟨.none,.none,gi _ rfl⟩,λb aa=>?_,bM⟩;have z:b=(s1.heap.push {cls:=.type "dict_items",data:=.fields #[.ref a]}).objs.size:=by simpa using aa
  subst z;exact bA.rr (cj _) (bA.a_.fresh (cj _))
end
section
variable{prog:bJ}{w:bq}{A:cW}{E:cx}{s:aC}{it d:Addr}{i ep:Nat}{es:Array oR}
theorem W0{Q:Option Value->aC->Prop}(hit:s.heap.IsKeyIter it d i es.size ep)(hd:lH s.heap d es ep)(ar:i<es.size)(e8:∀h',h'.IsKeyIter it d (i+1) es.size ep->kv it s.heap h'->Q (some es[i].key) {s with heap:=h'}):aO (a6 prog w) A (ib (.ref it)) Q E s:=by
 obtain⟨å,th,CG,ry⟩:=id hit;obtain⟨o,aZ,_,i3⟩:=hd;have T0:=hit.typeIs;have tI:¬((cy d==fP)=true):=ff;have own:E6 "dict_keyiterator"=false:=by decide
 unfold ib;refine aw (zp (Tj (name:=eH "__next__") T0 F.slot_dict_keyiterator_next (q4 F.slot_dict_keyiterator_next T0 F.entry_dict_keyiterator_next ?_ (F.args_dict_keyiterator_next_1 _))));refine aw (bf (aw (aw ?_)))
 first
 |refine aw (Tt T0 (bf (aw (wF th ry ?_))))
 |refine aw (Tv T0 (bf (aw (wF th ry ?_))))
 simp only[own,ub,if_false];change aO _ _ (ite ((cy d==fP)=true) _ _) _ _ s;rw[bF tI];refine aw (bf (aw (wD aZ i3 ?_)));rw[bF (by simp)];refine aw (bf (aw (ER aZ i3 ?_)));rw[bF (by simp)];refine bf ?_;simp only[show¬((i:Int)<0)from by omega,if_false,nN,Jv ar];refine aw ?_
 first
 |refine aw (Tt T0 (bf (aw (Ĵ T0 ?_))))
 |refine aw (Tv T0 (bf (aw (Ĵ T0 ?_))))
 change aO _ _ (za (.ref it) 1 (oC ((i:Int)+1)) >>=_) _ _ s;refine aw (ķ th ry (by simp) ?_);have next:(s.heap.update it (Obj.mapFields (·.setIfInBounds 1 (oC ((i:Int)+1))))).IsKeyIter it d (i+1) es.size ep:=
  ⟨_,oT _ th (Obj.isFreed_of_fields (adM ry _)),(Obj.cls_mapFields ..).trans CG,by simp[adM ry,oC]⟩
 refine aw (iD (aw (Ĵ (s:={s with heap:=s.heap.update it (Obj.mapFields (·.setIfInBounds 1 (oC ((i:Int)+1))))}) next.typeIs ?_)));exact bf (bf ⟨_,rfl,bf (e8 _ next (Fl ..))⟩)
theorem VD{Q:Option Value->aC->Prop}(dy:A.handled=none)(hit:s.heap.IsKeyIter it d i es.size ep)(hd:lH s.heap d es ep)(ar:es.size<=i)(e8:∀h',Heap.ExtBut it s.heap h'->Q none {s with heap:=h'}):
  aO (a6 prog w) A (ib (cy it)) Q E s:=by
 obtain⟨å,th,CG,ry⟩:=id hit;obtain⟨o,aZ,_,i3⟩:=hd;have T0:=hit.typeIs;have tI:¬((cy d==fP)=true):=ff;have own:E6 "dict_keyiterator"=false:=by decide
 unfold ib;refine aw (zp (Tj (name:=eH "__next__") T0 F.slot_dict_keyiterator_next (q4 F.slot_dict_keyiterator_next T0 F.entry_dict_keyiterator_next ?_ (F.args_dict_keyiterator_next_1 _))));refine aw (bf (aw (aw ?_)))
 first
 |refine aw (Tt T0 (bf (aw (wF th ry ?_))))
 |refine aw (Tv T0 (bf (aw (wF th ry ?_))))
 simp only[own,ub,if_false];change aO _ _ (ite ((cy d==fP)=true) _ _) _ _ s;rw[bF tI];refine aw (bf (aw (wD aZ i3 ?_)));rw[bF (by simp)];refine aw (bf (aw (ER aZ i3 ?_)));rw[bF (by simp)];refine bf ?_;simp only[show¬((i:Int)<0)from by omega,if_false,nN,E3 ar];refine aw ?_
 first
 |refine aw (Tt T0 (bf ?_))
 |refine aw (Tv T0 (bf ?_))
 change aO _ _ (za (.ref it) 0 fP >>=_) _ _ s;refine aw (ķ th ry (by simp) ?_);change aO _ _ (HO (.type "StopIteration") [] >>=_) _ _ _;refine aw ?_;simp only[HO,newTuple];refine aw (oK ?_ (by size_fits));refine aw (m:=yb _ _) (wG (a:=fP) (by first|rfl|(simp only[yb];rfl)) (oK ?_ (by size_fits)));have nk:A.in1.handled=none:=dy;simp only[raiseNew];refine aw (wpAny_handled ?_);rw[nk];refine aw (bf (wpAny_throw ?_));refine aw (To (b:=true) (T:="StopIteration") ⟨_,gi _ rfl,rfl⟩ aow ?_);exact bf (e8 _ (J7 (J7 (aaY (Fl ..)) _) _))
theorem Vs{Q:cx}(hs:(d==kY)=false)(hd:lH s.heap d es ep)(e8:Q (.ref s.heap.objs.size) {s with heap:=s.heap.push {cls:=.type "dict_keyiterator",data:=.fields #[.ref d,.int 0 0,.int es.size 0,.int ep 0]}}):aO (a6 prog w) A (yY (.ref d)) Q E s:=by
 obtain⟨o,aZ,av,i3⟩:=hd;have T0:s.TypeIs (.ref d) "dict":=⟨o,aZ,av.1⟩
 refine Ķ T0 F.slot_dict_iter (q4 F.slot_dict_iter T0 F.entry_dict_iter ?_ (F.args_dict_iter_1 _));unfold Builtin.«dict.__iter__» ash;refine aw (aw (Tr T0 ?_));change aO _ _ (pure (cy d)) _ _ s;refine bf ?_;change aO _ _ (Jx d >>=_) _ _ s;unfold Jx;rw[bF (by rw[hs];exact ff)];refine aw (bf (aw (wD aZ i3 (aw (ER aZ i3 ?_)))));refine aw (oK ?_);refine bf ⟨_,rfl,"dict_keyiterator",_,⟨_,gi _ rfl,rfl⟩,F.slot_dict_keyiterator_next.lookup,?_⟩;simpa[oC]using e8
noncomputable def ui{κ:Type}[DecidableEq κ](kvs:List (κ×V))(k:κ):List (κ×V):=kvs.filter λp=>decide (p.1≠k)
theorem Ņ{κ β:Type}[DecidableEq κ]{k:κ}:∀{l:List (κ×β)}{j:Nat}{v:β},(l.map (·.1)).Nodup->l[j]?=some (k,v)->l.eraseIdx j=l.filter λp=>decide (p.1≠k)
 |[],j,v,_,h=>by simp at h
 |p::r,0,v,aJ,h=>by simp only[Kl,KO]at h;subst h;rw[hW,iH]at aJ;rw[List.eraseIdx_zero,List.tail_cons,lJ];rw[bF (by simp)];symm;rw[Kk];intro q aT;have hO:q.1≠k:=λz=>aJ.1 (cn.mpr ⟨q,aT,z⟩);exact cq hO
 |p::r,j+1,v,aJ,h=>by
  rw[hW,iH]at aJ;have h':r[j]?=some (k,v):=by simpa using h
  rw[List.eraseIdx_cons_succ,lJ,Ņ aJ.2 h'];have hO:p.1≠k:=λz=>aJ.1 (by rw[z];exact cn.mpr ⟨_,eK h',rfl⟩);rw[bL (cq hO)]
end
section
variable{prog:bJ}{w:bq}{K:Type}[DecidableEq K]{knd:HeapKind prog w K}{A:cW}{E:cx}{s:aC}
theorem Ź{d a:Addr}{xs:List (K×Addr×Value)}{k:K}{Q:Option oR->aC->Prop}(b8:knd.room A)(yk:knd.is s.heap k a)(hm:s.heap.DictOfH knd d xs)(hz:xs.length<=sizeLine)(G9:(∀(j:Nat)(p:Addr×Value),xs[j]?≠some (k,p))->Q none {s with toks:=s.toks+knd.draws k})(Ov:∀(j:Nat)(p:Addr×Value),xs[j]?=some (k,p)->∀h',h'.DictOfH knd d (xs.eraseIdx j)->kv d s.heap h'->Q (some (BC knd (k,p))) {s with heap:=h',toks:=s.toks+knd.draws k}):
  aO (a6 prog w) A (Ű d (.ref a)) Q E s:=by
 obtain⟨o,es,ep,aZ,ax,hd,he,N3,aS⟩:=hm;have hsz:es.size=xs.length:=aqE he;unfold Ű
 try with_reducible refine iD ?_
 refine aw (knd.pyHash b8 yk (aw (wpAny_dictFind_heap (s:={s with toks:=s.toks+knd.draws k}) b8 yk aZ hd he N3 aS (λh0=>?_) λj p bK=>?_)))
 .exact bf (G9 h0)
 .have cK:j<xs.length:=(eG.mp bK).1;have pb:es[j]?=some (BC knd (k,p)):=by
   have aE:es.toList[j]?=some (BC knd (k,p)):=by rw[he,c6,bK];rfl
   simpa using aE
  refine aw (wD (s:={s with toks:=s.toks+knd.draws k}) aZ hd ?_);rw[pb];refine aw (wpAny_updateDictKeys (hz:=by omega) (s:={s with toks:=s.toks+knd.draws k}) aZ hd (bf (Ov j p bK _ ⟨_,_,ep+1,oT _ aZ (Obj.isFreed_of_dict (adL hd _)),ax.mapDictKeys _,adL hd _,?_,?_,?_⟩ (Fl ..))))
  .have aB:(es.eraseIdxIfInBounds j).toList=es.toList.eraseIdx j:=by obtain⟨l⟩:=es;simp
   rw[aB,he];apply Kj;intro i;simp only[List.getElem?_eraseIdx,c6];split<;>rfl
  .intro x av;exact knd.keeps (N3 x (List.mem_of_mem_eraseIdx av)) aZ hd (Fl ..)
  .exact List.Nodup.sublist ((List.eraseIdx_sublist xs j).map _) aS
theorem aeF{d a:Addr}{xs:List (K×Addr×Value)}{k:K}{r:Value}{Q:cx}(hs:(d==kY)=false)(b8:knd.room A.in1)(yk:knd.is s.heap k a)(hm:s.heap.DictOfH knd d xs)(hz:xs.length<=sizeLine)(G9:(∀(j:Nat)(p:Addr×Value),xs[j]?≠some (k,p))->∀t,Q r {s with toks:=t})(Ov:∀(j:Nat)(p:Addr×Value),xs[j]?=some (k,p)->∀h' t,h'.DictOfH knd d (xs.eraseIdx j)->kv d s.heap h'->Q p.2 {s with heap:=h',toks:=t}):
  aO (a6 prog w) A (call (.builtin "dict.pop") [.ref d,.ref a,r]) Q E s:=by
 obtain⟨o,es,ep,aZ,ax,hd,he,N3,aS⟩:=id hm;have T0:s.TypeIs (.ref d) "dict":=⟨o,aZ,ax.1⟩
 refine q4 F.slot_dict_pop T0 F.entry_dict_pop ?_ (F.args_dict_pop_3 _ _ _);unfold Builtin.«dict.pop» asi;refine aw (aw (Tr T0 ?_));change aO _ _ (pure (d,cy a,some r)) _ _ s;refine bf ?_;dsimp only;rw[bF (by simp[keyPart])];refine aw (wD aZ hd (aw (bf ?_)));have hsz:es.size=xs.length:=aqE he;by_cases NV:es.isEmpty=true
 .rw[bL NV];have x0:xs=[]:=by
   have:es.size=0:=by simpa[Array.isEmpty]using NV
   exact xD.mp (by omega)
  refine aw (ET (aw (bf ?_)));rw[bL (show(none:Option oR).isNone=true from rfl)];refine aw (arL hs (aw (ET (bf ⟨_,rfl,?_⟩))));exact G9 (λj p=>by rw[x0];simp) s.toks
 .rw[bF NV];refine aw (Ź b8 yk hm hz (λh0=>?_) λj p bK h' dd rD=>?_)
  .rw[bL (show(none:Option oR).isNone=true from rfl)];exact aw (arL hs (aw (ET (bf ⟨_,rfl,G9 h0 _⟩))))
  .rw[bF (by simp)];exact aw (nH (bf ⟨_,rfl,Ov j p bK h' _ dd rD⟩))
end
section
variable{X:bb}{o e f:Expr}{bY ty j5:TE}{eN e6:Pos}
noncomputable def agk(bY ty j5:TE):TE:=λσ H Q=>bY σ H λx H1=>∃a,x=.ref a/\xn H1 a/\ty σ H1 λy ah=>j5 σ ah λz bg=>∃kvs k b,y=.ref b/\bg a=some (.c4 kvs)/\bg b=some (.tup (k.map dg))/\Q ((ck kvs k).getD z) (upd bg a (.c4 (ui kvs k)))
theorem U5(b8:X.A.units+1<cLine)(aZ:bh X o bY)(he:bh X e ty)(hf:bh X f j5)(m:M2 X o "pop" eN e f e6):bh X (.Call (.Attribute o "pop" eN) [e,f] [] e6) (agk bY ty j5):=by
 intro pins s σ H Q I h;refine Ti m.base m.eE m.line FQ KW aei (bB (aZ pins s σ H _ I h) λu s1⟨x,H1,aP,bz,a,ex,d,bM⟩=>?_);subst ex;obtain rfl:u=cy a:=bz;obtain⟨t1,f5,_⟩:=Jh aP d;refine⟨t1,f5,?_⟩;rw[m.trees];refine zX rfl (zY (ud (bB (he pins s1 σ H1 _ aP bM) λji s2⟨y,ah,bA,bG,cU⟩=>ud (bB (hf pins s2 σ ah _ bA cU) λeb s3⟨z,bg,cZ,qP,kvs,k,b,gr,au,ea,q⟩=>E7 ?_))));subst gr;obtain rfl:ji=cy b:=bG;obtain⟨q7,hs,xs,rel,dd⟩:=X1 cZ.a_ au;have aoo:xs.length<=sizeLine:=by rw[<-gE rel];exact q7
 have i6:kvs.map (·.1)=xs.map (·.1):=by
  have:∀{l:List (List a7×V)}{m:List (List a7×Addr×Value)},KT bg l m->l.map (·.1)=m.map (·.1):=λ{l m}R=>by
   induction R with
   |nil=>rfl
   |cons a t a8=>rw[hW,hW,a8,a.1]
  exact this rel
 have aJ:(kvs.map (·.1)).Nodup:=by obtain⟨_,_,_,_,_,_,_,_,aS⟩:=id dd;rw[i6];exact aS
 have pick:∀{l:List (List a7×V)}{m:List (List a7×Addr×Value)}{j:Nat}{q:List a7×Addr×Value},KT bg l m->m[j]?=some q->∃p,l[j]?=some p/\p.1=q.1/\RelV p.2 q.2.2:=λ{l m j q}R=>by
  induction R generalizing j with
  |nil=>intro h;simp at h
  |cons a t a8=>
   cases j with
   |zero=>intro h;simp at h;subst h;exact⟨_,rfl,a.1,a.2.2⟩
   |succ j=>intro h;simp at h;simpa using a8 h
 refine aeF (knd:=l8 (f' X.prog X.w)) hs (IP b8) (vV cZ.a_ ea) dd aoo (λh0 t=>?_) λj p bK h' t ju rD=>?_
 .have v0:ck kvs k=none:=by
   have r0:=KT.val rel k;rw[atKey_none_of_get h0]at r0;cases ev:ck kvs k with
   |none=>rfl
   |some v=>rw[ev]at r0;exact r0.elim
  have apS:ui kvs k=kvs:=by
   unfold ui;rw[Kk];intro p aR;have:(kvs.any λcc=>decide (cc.1=k))=false:=by rw[n8,v0];rfl
   have hO:p.1≠k:=λz=>by rw[acw]at this;exact this p aR (cq z)
   exact cq hO
  rw[v0,apS]at q;have cT:upd bg a (.c4 kvs)=bg:=by
   funext c;by_cases ax:c=a
   .rw[ax,aQ,au]
   .rw[aA ax]
  rw[cT]at q;exact⟨z,bg,cZ.tok t,qP,q⟩
 .obtain⟨hu,Oi,en,auj⟩:=pick rel bK;have aS:(xs.map (·.1)).Nodup:=i6▸aJ;have cg:=KT.val rel k;rw[atKey_of_get aS bK]at cg;obtain⟨v1,ev,b7⟩:∃v1,ck kvs k=some v1/\RelV v1 p.2:=by
   cases ev:ck kvs k with
   |none=>rw[ev]at cg;exact cg.elim
   |some v1=>rw[ev]at cg;exact⟨v1,rfl,cg⟩
  have ep:ui kvs k=kvs.eraseIdx j:=(Ņ aJ (v:=hu.2) (by rw[Oi,show hu=(k,hu.2)from Prod.ext en rfl])).symm;rw[ev,ep]at q;have gb:∀{l:List (List a7×V)}{m:List (List a7×Addr×Value)}(j:Nat),KT bg l m->KT bg (l.eraseIdx j) (m.eraseIdx j):=λ{l m}j R=>by
   induction R generalizing j with
   |nil=>exact .nil
   |cons a t a8=>
    cases j with
    |zero=>exact t
    |succ j=>exact .cons a (a8 j)
  obtain⟨ob,es,m_,af,ai,bR,cS,_,dX⟩:=ju;refine⟨v1,_,vH (t':=t) (ob:=.c4 (kvs.eraseIdx j)) cZ (by rw[au];exact k') rD ⟨ob,af⟩ ⟨?_,hs,xs.eraseIdx j,bk.e2 (gb j rel) λp q w=>⟨w.1,?_,w.2.2⟩,ob,es,m_,af,ai,bR,cS,dX⟩,b7,q⟩
  .exact e3 (List.length_eraseIdx_le ..) q7
  .have fe:=w.2.1;rw[aA (λy=>by rw[y,au]at fe;cases fe)];exact fe
noncomputable def agl(bY ty j5:TE):TE:=λσ H Q=>bY σ H λx H1=>∃a,x=.ref a/\xn H1 a/\ty σ H1 λy ah=>j5 σ ah λz bg=>∃kvs k,y=dg k/\bg a=some (.bX kvs)/\kvs.length<sizeLine/\
 (∀v,ck kvs k=some v->Q v bg)/\(ck kvs k=none->Q z (upd bg a (.bX (eo kvs k z))))
theorem ac1(aZ:bh X o bY)(he:bh X e ty)(hf:bh X f j5)(m:M2 X o "setdefault" eN e f e6):bh X (.Call (.Attribute o "setdefault" eN) [e,f] [] e6) (agl bY ty j5):=by
 intro pins s σ H Q I h;refine Ti m.base m.eE m.line FQ aeg PySem.F.type_dict_setdefault (bB (aZ pins s σ H _ I h) λu s1⟨x,H1,aP,bz,a,ex,d,bM⟩=>?_);subst ex;obtain rfl:u=cy a:=bz;obtain⟨t1,f5,_⟩:=Jh aP d;refine⟨t1,f5,?_⟩;rw[m.trees];refine zX rfl (zY (ud (bB (he pins s1 σ H1 _ aP bM) λji s2⟨y,ah,bA,bG,cU⟩=>ud (bB (hf pins s2 σ ah _ bA cU) λeb s3⟨z,bg,cZ,qP,kvs,k,gr,au,lk,q,fH⟩=>E7 ?_))));subst gr;obtain⟨q7,hs,vs,rel,dd⟩:=wo cZ.a_ au;have hz:vs.length<=sizeLine:=by rw[<-rel.length];exact q7
 have r0:=rel.val k;refine Bm aeg dd.typeIs PySem.F.entry_dict_setdefault (PySem.F.args_dict_setdefault_3 _ _ _) (kt_meets_setdefault (f' X.prog X.w) a (qI bG) hs eb) ⟨vs,dd,hz,λv bC=>?_,λaS h' ju rD=>?_⟩
 .rw[bC]at r0;cases ev:ck kvs k with
  |none=>rw[ev]at r0;exact r0.elim
  |some v1=>
   rw[ev]at r0;exact⟨v1,bg,cZ.tok _,r0,q v1 ev⟩
 .have v0:ck kvs k=none:=by
   rw[aS]at r0;cases ev:ck kvs k with
   |none=>rfl
   |some v=>rw[ev]at r0;exact r0.elim
  have aj:(eo kvs k z).length<=sizeLine:=by have:=C9 kvs k z;omega
  have CK:∃q,h'.get? a=some q:=let⟨q,_,_,aT,_⟩:=ju;⟨q,aT⟩
  exact⟨z,_,vH (ob:=.bX (eo kvs k z)) cZ (by rw[au];exact k') rD CK (EE aj hs (rel.put k qP) ju),qP,fH v0⟩
end
section
variable{prog:bJ}{w:bq}{A:cW}{E:cx}{s:aC}{d:Addr}{ep:Nat}{es:Array oR}
theorem lH.lt{h:Heap}(x:lH h d es ep):d<h.objs.size:=let⟨_,aZ,_⟩:=x;dD aZ
theorem lH.at'{h h':Heap}(x:lH h d es ep)(k:∀o,h.get? d=some o->h'.get? d=some o):lH h' d es ep:=let⟨o,aZ,r⟩:=x;⟨o,k o aZ,r⟩
theorem aaC(dy:A.handled=none)(I:Addr)(hO:d≠I):sG prog w A I [I,d] [I] es.size (λi v=>∃e,es[i]?=some e/\v=e.key) (λi h=>h.IsKeyIter I d i es.size ep/\lH h d es ep)where
 sub:=λb aa=>by simp at aa;simp[aa]
 frame:=λ_ _ _ st aX=>⟨st.1.at λo e=>aX I (by simp) o e,st.2.at' λo e=>aX d (by simp) o e⟩
 item:=λi s Q E ar st e8=>by refine W0 st.1 st.2 ar λh' fJ b'=>e8 _ h' s.toks ⟨es[i],by simp[ar],rfl⟩ ⟨fJ,st.2.at' λo e=>(b'.2 d hO).trans e⟩ λb o aa e=>(b'.2 b (λz=>aa (by simp[z]))).trans e
 done:=λs Q E st e8=>VD dy st.1 st.2 (cj _) λh' ea=>e8 h' s.toks λb o aa e=>ea b o (λz=>aa (by simp[z])) e
 self:=λ_ _ _ _ st e8=>wpAny_pyIter_keyiter st.1 e8
theorem ac2(lo:(d==kY)=false):KdlSrc prog w "dict" d d es.size (λi v=>∃e,es[i]?=some e/\v=e.key) (λh=>lH h d es ep)where
 type:=λ_ hm=>let⟨o,aZ,av,_⟩:=hm;⟨o,aZ,av.1⟩
 there:=λ_ hm=>⟨hm.lt,hm.lt⟩
 keep:=λ_ _ hm aX=>hm.at' λo e=>aX d (.inl rfl) o e
 notList:=by decide
 notTuple:=by decide
 hint:=λ_ _ _ _ hm aT=>kdl_hint_dict (let⟨o,aZ,av,_⟩:=hm;⟨o,aZ,av.1⟩) aT
 iter:=λ_ s dy hm=>⟨_,_,(λ_ _ aT=>Vs lo hm aT),aaC dy _ (eD hm.lt),⟨⟨_,gi _ rfl,rfl,rfl⟩,hm.at' λo e=>dG _ e⟩⟩
theorem aaD{vs:cw}{κ:xP}{lt:hD}{Q:cx}(lo:(d==kY)=false)(dy:A.handled=none)(hm:lH s.heap d es ep)(bC:vs=es.toList.map (·.key))(qg:vs.length<64)(aX:2<=vs.length->∀s1:aC,mP s.heap s1.heap->∀Q:xP->aC->Prop,Q κ s1->aO (a6 prog w) A.in1.in1 (PE vs.toArray) Q (λ_ _=>False) s1)(aK:2<=vs.length->∀s1:aC,mP s.heap s1.heap->∀i j C,i<vs.length->j<vs.length->C (lt i j) s1->Di prog w A.in1.in1 κ vs i j C s1)(h:∀af D h' t c,mP s.heap af->af.objs.size<=D->mP af h'->h'.get? D=some (jm "list" (xG (gM fP lt vs)) c)->Q (.ref D) {s with heap:=h',toks:=t}):
  aO (a6 prog w) A (call (.builtin "sorted") ([.ref d]:cw)) Q E s:=by
 have big:vs.length<=sizeLine:=by rw[pH];omega
 have tf:es.size=vs.length:=by rw[bC,bp,Jw]
 refine ż kind_sorted plain_sorted entry_sorted (args_sorted1 (.ref d)) ?_;unfold Builtin.«sorted»;refine aw (m:=checkCount "sorted" 1 1 _) (bf ?_);refine aw (kdu_collect (A:=A.in1) (ac2 (ep:=ep) (es:=es) lo) dy hm (by rw[tf];exact big) λaf a4 acc eP NB=>?_);have au:acc.toList=vs:=by
  apply Kj;intro j;rw[bC,c6];by_cases bK:j<es.size
  .have η:j<acc.size:=by rw[NB.1];exact bK
   obtain⟨e,aE,aB⟩:=NB.2 j acc[j] (by simp[η]);rw[E4,E4,aE,Jv η];exact hh some aB
  .rw[E4,E4,E3 (by rw[NB.1];omega),E3 (by omega)];rfl
 rw[au];refine aw (ĵ ?_ big);have bN:(af.push (jm "list" vs.toArray 0)).get? af.objs.size=some (jm "list" vs.toArray 0):=gi _ rfl;have hT:mP s.heap (af.push (jm "list" vs.toArray 0)):=λb o q=>dG _ (eP b o q);have oN:∀h',si af.objs.size (af.push (jm "list" vs.toArray 0)) h'->mP s.heap h':=λh' x b o q=>x b o (eD (dD (eP b o q))) (hT b o q);have oO:∀h',si af.objs.size (af.push (jm "list" vs.toArray 0)) h'->mP af h':=λh' x b o q=>x b o (eD (dD q)) (dG _ q);refine aw (iD (q4 aqH ⟨_,bN,rfl⟩ amy ?_ (ajY _)));refine VC (s:={s with heap:=af.push (jm "list" vs.toArray 0),toks:=a4}) (κ:=κ) (lt:=lt) bN qg (λai s1 x=>aX ai s1 (oN _ x)) (λai s1 x=>aK ai s1 (oN _ x)) λh' c x ax=>?_;exact⟨_,rfl,bf ⟨_,rfl,h af _ h' _ c eP (cj _) (oO _ x) ax⟩⟩
end
end cQ
namespace dY
open PySem ao cQ dp
noncomputable abbrev k7:=Int×Nat
abbrev mu:= List (k7×List Nat)
noncomputable def qM:dp.gm:=⟨0,0,0,0⟩
noncomputable def pK(hs:br)(ds:bZ)(r:Nat):Str:=S (hs.getD (ds.getD r qM).a [])
noncomputable def q2(hs:br)(ds:bZ)(r:Nat):Str:=S (hs.getD (ds.getD r qM).b [])
noncomputable def qL(ds:bZ)(r:Nat):Int:=(ds.getD r qM).t
noncomputable def iv(ds:bZ)(r:Nat):Int:=(ds.getD r qM).m
noncomputable def stepK(hs:br)(ds:bZ)(k:k7):Step:=⟨k.1,some k.2,q2 hs ds k.2,k.1+qL ds k.2⟩
noncomputable def l1(st:Step)(ns:dH)(aI:fa):List (List Step):=aI.mapIdx λi ss=>if i∈ns then ss++[st]else ss
theorem Ic(st:Step)(ns:dH)(aI:fa):(l1 st ns aI).length=aI.length:=by unfold l1;rw[List.length_mapIdx]
theorem Ds(st:Step)(ns:dH)(aI:fa)(i:Nat):(l1 st ns aI)[i]?=(aI[i]?).map λss=>if i∈ns then ss++[st]else ss:=by unfold l1;rw[List.getElem?_mapIdx]
theorem ņ(st:Step)(aI:fa):l1 st [] aI=aI:=by apply Kj;intro i;rw[Ds];simp
theorem ģ(st:Step){ns:dH}{n:Nat}(h:n∉ns){aI:fa}{ss:List Step}(e:aI[n]?=some ss):l1 st (ns++[n]) aI=(l1 st ns aI).set n (ss++[st]):=by
 apply Kj;intro i;rw[Ds,List.getElem?_set,Ds,Ic];by_cases ar:n=i
 .subst ar;have aj:=(eG.mp e).1;rw[bL rfl,bL aj,e];simp
 .rw[bF ar];have:(i∈ns++[n])↔i∈ns:=by rw[hX,iW];exact⟨λz=>z.elim id λw=>bE w.symm ar,.inl⟩
  simp only[this]
noncomputable def mask(H:ae)(ts:bS):ae:=λb=>if b∈ts then none else H b
theorem lX{H:ae}{ts:bS}{b:Addr}{o:ed}(e:H b=some o)(n:b∉ts):mask H ts b=some o:=by unfold mask;rw[bF n];exact e
theorem D7{H:ae}{ts:bS}{b:Addr}(h:b∈ts):mask H ts b=none:=bL h
theorem Dt(H:ae)(ts:bS):aN (mask H ts) H:=λb o e=>by
 unfold mask at e;split at e
 .cases e
 .exact e
noncomputable def hq(H:ae)(a:Addr)(b:k7×List Nat):Prop:=∃c,H a=some (.tup [.int b.1.1,.int b.1.2,.ref c])/\H c=some (.tup (b.2.map λn:Nat=>V.int n))
theorem hq.same{H H':ae}{a:Addr}{b:k7×List Nat}(h:hq H a b)(aF:aN H H'):hq H' a b:=let⟨c,af,ai⟩:=h;⟨c,aF _ _ af,aF _ _ ai⟩
structure E'(C:Addr)(H:ae)(x n g st:Addr)(b6:cf)(ls:bS):Prop where
 ins:∃ag,H x=some (.ins C ag (EI n g st))
 goals:H g=some (.lst (b6.map V.str))
 steps:H st=some (.lst (aH ls))
theorem E'.same{C:Addr}{H H':ae}{x n g st:Addr}{b6:cf}{ls:bS}(h:E' C H x n g st b6 ls)(aF:aN H H'):E' C H' x n g st b6 ls:=
 let⟨ag,e⟩:=h.ins;⟨⟨ag,aF _ _ e⟩,aF _ _ h.goals,aF _ _ h.steps⟩
theorem hG.same{H H':ae}{l:Addr}{ss:List Step}(h:hG H l ss)(aF:aN H H'):hG H' l ss:=let⟨ts,a,b⟩:=h;⟨ts,aF _ _ a,b.same aF⟩
theorem Ň{H H':ae}{ls:bS}{aI:fa}(h:bk (hG H) ls aI)(aF:aN H H'):bk (hG H') ls aI:=bk.e2 h λ_ _ e=>e.same aF
theorem WalkAt.same{C:Addr}{H H':ae}{x n g st:Addr}{b6:cf}{ls:bS}{aI:fa}(h:WalkAt C H x n g st b6 ls aI)(aF:aN H H'):WalkAt C H' x n g st b6 ls aI:=
 let⟨ag,e⟩:=h.ins;⟨⟨ag,aF _ _ e⟩,aF _ _ h.goals,aF _ _ h.steps,Ň h.each aF⟩
theorem U6{H H':ae}{l:Addr}{IF:List Step}(new:hG H' l IF)(old:∀g9 ss,g9≠l->hG H g9 ss->hG H' g9 ss):∀{ls:bS}{aI:fa}{n:Nat},bk (hG H) ls aI->ls.Nodup->ls[n]?=some l->bk (hG H') ls (aI.set n IF)
 |_,_,n,.nil,_,e=>by simp at e
 |a::ls,s0::aI,0,.cons r t,aJ,e=>by
  simp only[Kl,KO]at e;subst e;rw[iH]at aJ;refine .cons new ?_;have:∀{ms:bS}{wk:fa},bk (hG H) ms wk->a∉ms->bk (hG H') ms wk:=λ{ms wk}p=>by
   induction p with
   |nil=>exactλ_=>.nil
   |cons r t a8=>exactλh=>.cons (old _ _ (λz=>h (by rw[z];exact .head _)) r) (a8 λz=>h (.tail _ z))
  exact this t aJ.1
 |a::ls,s0::aI,n+1,.cons r t,aJ,e=>by
  rw[iH]at aJ;have cm:ls[n]?=some l:=by simpa using e
  exact .cons (old _ _ (λz=>aJ.1 (by rw[z];exact eK cm)) r) (U6 new old t aJ.2 cm)
section
variable{P:bJ}{w:bq}{K:aU}{mg:cB}{base:Heap}
inductive acO(C:Addr)(vs:aY)(H:ae)(Q:a')(bI:b2):Prop where
 |mk (x bt bu:Addr) (xs ys:aY) (k:Int) (v:ao.V) (bV:vs=[.ref x,.int k]) (bD:jV C H x bt bu xs ys) (b_:0<=k) (c_:k<ys.length) (d1:ao.hb ys k=some v) (fw:Q v H)
noncomputable def IW(C:Addr):cG:=λvs H Q bI=>acO C vs H Q bI
theorem acP{C f:Addr}{fd:cz}(F:bw K "road" "Net.road" tM f fd)(B:gg mg)(fU:sf K C):aL P w K mg base a5 1 f fd ["self","number"] (IW C):=by
 refine F.ok Vz (λvs H Q E h=>?_) (λcdv A outer s H vs Q E aq h=>?_)
 .obtain⟨x,bt,bu,xs,ys,k,v,rfl,_⟩:=h;rfl
 .obtain⟨x,bt,bu,xs,ys,k,v,rfl,n,h0,af,bC,q⟩:=h;obtain⟨ag,av⟩:=n.ins;refine⟨_,(bc (eO (i0 (SG px pw aW (U 1) (dB gH (by rfl) B.len gA (ak (eR (U 0) (by rfl)) aD)))) (bo SE) fi)
   (bo (c7 (cp fk (eR (U 0) (by rfl)) (U 1) (λ_ _=>rfl))))),?_⟩
  refine⟨_,rfl,_,_,rfl,rfl,_,rfl,?_⟩;refine fu (cq h0) ⟨_,rfl,x,C,ag,_,_,rfl,av,fU.cl,fU.jj,rfl,bu,_,rfl,.inl (aG.of n.qO),_,_,rfl,rfl,_,rfl,?_⟩;refine Kd af ?_;exact⟨_,rfl,x,C,ag,_,_,rfl,av,fU.cl,fU.jj,rfl,_,rfl,bu,_,_,_,rfl,rfl,aG.of n.qO,bC,q⟩
inductive aeG(C az:Addr)(vs:aY)(H:ae)(Q:a')(bI:b2):Prop where
 |mk (a9:ae) (x n g st bt bu je:Addr) (b6:cf) (ls rs:bS) (aI:fa) (hs:br) (ds:bZ) (b:k7×List Nat) (bV:vs=[.ref x,.ref je]) (bD:aN a9 H) (b_:E' C a9 x n g st b6 ls) (c_:bk (hG H) ls aI) (d1:ls.Nodup) (fw:(∀l∈ls,a9 l=none)) (iE:jV az a9 n bt bu (cE hs) (aH rs)) (k4:iJ a9 hs rs ds) (mV:hq a9 je b) (q6:b.1.2<ds.length) (wK:b.2.Nodup) (zE:(∀i∈b.2,i<aI.length)) (Š:(∀ss∈aI,ss.length<=100)) (ar4:∀H',aN a9 H'->bk (hG H') ls (l1 (stepK hs ds b.1) b.2 aI)->Q .bl H')
noncomputable def JV(C az:Addr):cG:=λvs H Q bI=>aeG C az vs H Q bI
noncomputable abbrev zT:Stmt:=gL (top 20) 2
theorem JW:dw ["self","bag","road","number"] ["self","bag"] (c3 zT):=⟨rfl,rfl,rfl,by decide+kernel,rfl,by decide+kernel,by decide+kernel⟩
theorem afB{C az f f1:Addr}{fd cY:cz}(F:bw K "send" "Walk.send" zT f fd)(da:rX K C)(hp:fp K az)(n3:c0 K az "road" "Net.road" tM ["self","number"] f1 cY)(C8:aL P w K mg base a5 1 f1 cY ["self","number"] (IW az)):
  aL P w K mg base a5 2 f fd ["self","bag"] (JV C az):=by
 refine F.ok JW (λvs H Q E h=>?_) (λcdv A outer s H vs Q E aq h=>?_)
 .obtain⟨a9,x,n,g,st,bt,bu,je,b6,ls,rs,aI,hs,ds,b,rfl,_⟩:=h;rfl
 .obtain⟨a9,x,n,g,st,bt,bu,je,b6,ls,rs,aI,hs,ds,b,rfl,b',W,each,aJ,fr,N,R,NI,yo,HL,cK,eE,q⟩:=h;obtain⟨ag,av⟩:=W.ins;obtain⟨iL,aS⟩:=N.ins;obtain⟨c,jh,hN⟩:=NI;have rl:=R.len;refine⟨_,(bc (c8 (i:=2) JW.aJ rfl (b5 rfl) (gZ (eR (U 0) (by rfl)) hp n3.eh C8 (aq.mono (by decide)) n3.bd .nil dj (ak (cp e5 (U 1) aW (λ_ _=>rfl)) aD)))
   (bo (kd kz rfl (Wi (cp e5 (U 1) aW (λ_ _=>rfl))) (ei (i:=3) JW.aJ rfl (b5 rfl))
    (bo (gI (nr nV o1 o2 m' (cp fk (eR (U 0) (by rfl)) (U 3) (λ_ _=>rfl)) (ak (i1 (ak (cp e5 (U 1) aW (λ_ _=>rfl)) (ak (cp e5 (U 1) aW (λ_ _=>rfl)) (ak (cp e5 (U 2) aW (λ_ _=>rfl)) (ak (bH h4 (cp e5 (U 1) aW (λ_ _=>rfl)) (cp e5 (U 2) aW (λ_ _=>rfl))) aD))))) aD))))))),?_⟩
  obtain⟨r,gb⟩:∃r,rs[b.1.2]?=some r:=⟨_,dn (by omega)⟩
  obtain⟨d,dS,_,hd⟩:=R.get gb;have cT:ds.getD b.1.2 qM=d:=tZ dS;refine⟨_,rfl,x,C,ag,_,_,rfl,b' _ _ av,da.cl,da.nn,rfl,n,iL,_,rfl,b' _ _ aS,rfl,_,rfl,je,_,_,_,rfl,rfl,cH.of (b' _ _ jh),rfl,n,bt,bu,_,_,_,_,rfl,N.same b',(by omega),(by have:=eB rs;omega),(iI (by unfold aH;rw[c6,gb];rfl)),?_⟩;refine⟨_,rfl,je,_,_,_,rfl,rfl,cH.of (b' _ _ jh),rfl,c,rfl,?_⟩;refine⟨⟨_,cH.of (b' _ _ hN)⟩,?_⟩;have Bx:lB hs d=[.str (pK hs ds b.1.2),.str (q2 hs ds b.1.2),.int (qL ds b.1.2),.int (iv ds b.1.2)]:=by unfold lB pK q2 qL iv;rw[cT]
  rw[Bx]at hd;refine VG (K:=K) (a:=c) (xs:=b.2.map λn:Nat=>V.int n) (λj σ gj=>∃gS,σ=[some (.ref x),some (.ref je),some (.ref r),gS]/\aN a9 gj/\bk (hG gj) ls (l1 (stepK hs ds b.1) (b.2.take j) aI))
   ⟨none,rfl,b',by rw[FD,ņ];exact each⟩ (λj σ gj _⟨_,_,h,_⟩=>cH.of (h _ _ hN)) ?_ ?_
  .rintro j z σ gj dx ⟨gS,rfl,iy,e1⟩;rw[c6]at dx;obtain⟨i,el,rfl⟩:=fL.mp dx;have ar:=cK i (eK el);obtain⟨ss,es⟩:∃ss,aI[i]?=some ss:=⟨_,dn ar⟩
   have HQ:i∉b.2.take j:=λz=>by
    have bK:=(eG.mp el).1;have aB:=WM j b.2;rw[WC bK]at aB;rw[<-aB,xE]at HL;have cJ:b.2[j]=i:=by rw[dn bK]at el;exact hY el
    exact HL.2.2 i z i (by rw[cJ];exact .head _) rfl
   have ga:(l1 (stepK hs ds b.1) (b.2.take j) aI)[i]?=some ss:=by rw[Ds,es];simp[HQ]
   have ln:=gE e1;obtain⟨l,hI⟩:∃l,ls[i]?=some l:=⟨_,dn (by rw[Ic]at ln;omega)⟩
   obtain⟨aul,Ga,ts,aj,c'⟩:=bk.get e1 hI;rw[ga]at Ga;cases Ga;have NC:=cH.of (K:=K) (iy _ _ jh);have Z6:=cH.of (K:=K) (iy _ _ hd);have dk:=c'.len;rw[bp]at dk;have fs:=eE ss (eK es);have fb:(aH ts).length<sizeLine:=eM (by rw[eB];omega);refine⟨_,rfl,x,C,ag,_,_,rfl,iy _ _ av,da.cl,da.ns,rfl,_,rfl,st,_,_,_,rfl,rfl,aG.of (iy _ _ W.steps),(show ao.hb (aH ls) (i:Int)=some (.ref l)from iI (by unfold aH;rw[c6,hI];rfl)),.inl ⟨rfl,_,aG.of aj⟩,?_⟩;refine⟨_,rfl,je,_,_,_,rfl,rfl,NC,rfl,_,rfl,je,_,_,_,rfl,rfl,NC,rfl,_,rfl,r,_,_,_,rfl,rfl,Z6,rfl,_,rfl,je,_,_,_,rfl,rfl,NC,rfl,_,rfl,r,_,_,_,rfl,rfl,Z6,rfl,_,_,rfl,rfl,(by show 4<=sizeLine;decide),λt dK=>?_⟩;have Eu:=bU (o:=.tup [V.int b.1.1,V.int b.1.2,V.str (q2 hs ds b.1.2),V.int (b.1.1+qL ds b.1.2)]) dK;have ph:=Eu _ _ aj;refine⟨l,_,_,rfl,rfl,ph,fb,_,rfl,?_,?_⟩
   .exact kc (fr l (eK hI)) (iy.trans Eu)
   .have a4:b.2.take (j+1)=b.2.take j++[i]:=by rw[oW,el];rfl
    rw[a4,ģ _ HQ es];refine U6 ?_ (λg9 IF nl h=>?_) e1 aJ hI
    .refine⟨ts++[t],by rw[aQ];unfold aH;rw[eW];rfl,?_⟩;rw[eW];refine Paired.snoc ?_ ((c'.same Eu).upd ph (by intro d z;cases z));show upd _ l _ t=some (.tup (Ex (stepK hs ds b.1)));rw[aA (bW aj dK).symm,aQ];rfl
    .obtain⟨iU,af,ai⟩:=h;exact⟨iU,by rw[aA nl];exact Eu _ _ af,(ai.same Eu).upd ph (by intro d z;cases z)⟩
  .rintro σ gj ⟨gS,rfl,iy,e1⟩;refine q gj iy ?_;rw[bp,oX]at e1;exact e1
noncomputable abbrev zH:Stmt:=gL (top 20) 3
theorem agm:dw ["self","number"] ["self","number"] (c3 zH):=⟨rfl,rfl,rfl,by decide+kernel,rfl,by decide+kernel,by decide+kernel⟩
theorem afC{C f:Addr}{fd:cz}(F:bw K "goal" "Walk.goal" zH f fd)(da:rX K C):aL P w K mg base a5 1 f fd ["self","number"] (JS C):=by
 refine F.ok agm (λvs H Q E h=>?_) (λcdv A outer s H vs Q E aq h=>?_)
 .obtain⟨x,n,g,st,b6,ls,aI,k,y,rfl,_⟩:=h;rfl
 .obtain⟨x,n,g,st,b6,ls,aI,k,y,rfl,W,gr,q⟩:=h;obtain⟨ag,av⟩:=W.ins;refine⟨_,(bo (c7 (cp fk (eR (U 0) (by rfl)) (U 1) (λ_ _=>rfl)))),?_⟩;exact⟨_,rfl,x,C,ag,_,_,rfl,av,da.cl,da.l3,rfl,_,rfl,g,_,_,_,rfl,rfl,aG.of W.goals,iI (by rw[c6,gr];rfl),q⟩
end
end dY
namespace dp
noncomputable def kp(c:Int):Int:=c*1099087573%10000000000037
noncomputable def mQ(n:Nat)(c:Int):Int:=kp c%n
noncomputable def qB(n:Nat)(c:Int):Int:=(mQ n c+1+kp c/n%((n:Int)-1))%n
noncomputable def rT(c:Int):Int:=if kp c/27000%5=0 then 1+kp c/135000%10 ^ 9 else 1+kp c/9000%3
noncomputable def HI(n:Nat)(c:Int):gm:=⟨(mQ n c).toNat,(qB n c).toNat,1+kp c/1000%9,rT c⟩
theorem agn{n:Nat}(h:1<n)(c:Int):(HI n c).Ok n:=by
 have f9:0<=mQ n c:=ie _ (by omega);have gn:mQ n c<n:=lI _ (by omega);have aE:0<=qB n c:=ie _ (by omega);have aB:qB n c<n:=lI _ (by omega);have jK:0<=kp c/n%((n:Int)-1):=ie _ (by omega);have my:kp c/n%((n:Int)-1)<(n:Int)-1:=lI _ (by omega);have ne:mQ n c≠qB n c:=by
  intro z;have cJ:qB n c=(mQ n c+1+kp c/n%((n:Int)-1))%n:=rfl;generalize kp c/n%((n:Int)-1)=x at jK my cJ;by_cases cK:mQ n c+1+x<n
  .rw[Wf (by omega) cK]at cJ;omega
  .have dX:(mQ n c+1+x)%(n:Int)=(mQ n c+1+x-n)%(n:Int):=by rw[Int.sub_emod_right]
   rw[dX,Wf (by omega) (by omega)]at cJ;omega
 have t1:0<=kp c/1000%9:=ie _ (by decide);have f5:kp c/1000%9<9:=lI _ (by decide);have m:1<=rT c/\rT c<=1000000000:=by
  unfold rT;split
  .have apU:(10:Int) ^ 9=1000000000:=by decide
   rw[apU];omega
  .omega
 exact⟨by show(mQ n c).toNat < n;omega,by show(qB n c).toNat < n;omega,by show(mQ n c).toNat≠(qB n c).toNat;omega,by show 1<=1+_/\1+_<=9;omega,m⟩
end dp
namespace dY
open PySem ao cQ dp
inductive ago(vs:aY)(H:ae)(Q:a')(bI:b2):Prop where
 |mk (c:Int) (a:Addr) (hs:br) (bV:vs=[.int c,.ref a]) (bD:H a=some (.lst (cE hs))) (b_:2<=hs.length) (c_:hs.length<=12) (d1:∀r,H r=none->Q (.ref r) (upd H r (.tup (lB hs (HI hs.length c)))))
noncomputable def Kr:cG:=λvs H Q bI=>ago vs H Q bI
theorem Vt{t:eY}{D:Ends}{σ:ao.St}{H:ae}(P:Ends->Prop)(af:P D)(ai:∀cA,P cA->t cA σ H):t D σ H:=ai D af
section
variable{P:bJ}{w:bq}{K:aU}{mg:cB}{base:Heap}
noncomputable abbrev AJ:Stmt:=top 46
noncomputable abbrev ajG:List Str:=["_law_cell","_law_names","_law_n","_law_many","_law_first","_law_last","_law_room"]
theorem wy:dw ajG ["_law_cell","_law_names"] (c3 AJ):=⟨rfl,rfl,rfl,by decide+kernel,rfl,by decide+kernel,by decide+kernel⟩
theorem agp{f:Addr}{fd:cz}(F:bw K "_law_road" "_law_road" AJ f fd)(B:gg mg):aL P w K mg base a5 1 f fd ["_law_cell","_law_names"] Kr:=by
 refine F.ok wy (λvs H Q E h=>?_) (λcdv A outer s H vs Q E aq h=>?_)
 .obtain⟨c,a,hs,rfl,_⟩:=h;rfl
 .obtain⟨c,a,hs,rfl,aK,ai,vi,q⟩:=h;refine⟨_,(bc (c8 (i:=2) wy.aJ rfl (b5 rfl) (bH eZ (bH tB (U 0) aW) aW))
   (bc (c8 (i:=3) wy.aJ rfl (b5 rfl) (dB gH (by rfl) B.len gA (ak (U 1) aD)))
   (bc (c8 (i:=4) wy.aJ rfl (b5 rfl) (bH eZ (U 2) (U 3)))
   (bc (c8 (i:=5) wy.aJ rfl (b5 rfl) (bH eZ (bH h4 (bH h4 (U 4) aW) (bH eZ (bH gY (U 2) (U 3)) (bH rN (U 3) aW))) (U 3)))
   (bc (c8 (i:=6) wy.aJ rfl (b5 rfl) (bH h4 aW (bH eZ (bH gY (U 2) aW) aW)))
   (bc (eO (eu i2 (bH eZ (bH gY (U 2) aW) aW) aW (dr _)) (bo (c8 (i:=6) wy.aJ rfl (b5 rfl) (bH h4 aW (bH eZ (bH gY (U 2) aW) (bH Jn aW aW))))) fi)
   (bo (c7 (i1 (ak (cp fk (U 1) (U 4) (λ_ _=>rfl)) (ak (cp fk (U 1) (U 5) (λ_ _=>rfl)) (ak (bH h4 aW (bH eZ (bH gY (U 2) aW) aW)) (ak (U 6) aD))))))))))))),?_⟩
  have aj:=IS hs;have f9:0<=mQ hs.length c:=ie _ (by omega);have gn:mQ hs.length c<hs.length:=lI _ (by omega);have aE:0<=qB hs.length c:=ie _ (by omega);have aB:qB hs.length c<hs.length:=lI _ (by omega);refine⟨_,rfl,_,_,rfl,rfl,.inr ⟨by decide,by decide⟩,_,_,rfl,rfl,(by show(0:Int)<10000000000037;decide),?_⟩;refine⟨_,rfl,a,_,rfl,.inl (aG.of aK),?_⟩;rw[aj];refine⟨_,rfl,_,rfl,_,_,rfl,rfl,(by show(0:Int)<(hs.length:Int);omega),?_⟩;refine⟨_,rfl,_,_,rfl,rfl,_,rfl,_,rfl,_,_,rfl,rfl,⟨by show(0:Int)<(hs.length:Int);omega,by show(hs.length:Int)<1073741824;omega⟩,_,rfl,_,_,rfl,rfl,_,_,rfl,rfl,(by show(0:Int)<(hs.length:Int)-1;omega),_,_,rfl,rfl,_,rfl,_,_,rfl,rfl,(by show(0:Int)<(hs.length:Int);omega),?_⟩;refine⟨_,rfl,_,_,rfl,rfl,⟨by decide,by decide⟩,_,_,rfl,rfl,(by show(0:Int)<3;decide),_,_,rfl,rfl,?_⟩;dsimp only[hJ,lz];refine Vt (t:=Yd _ _ _) (λcA=>cA.b9 [some (.int c),some (.ref a),some (.int (kp c)),some (.int hs.length),some (.int (mQ hs.length c)),some (.int (qB hs.length c)),some (.int (rT c))] H) ?_ λcA rest=>?_
  .refine⟨_,rfl,_,rfl,a,_,_,_,rfl,rfl,aG.of aK,Wy f9 gn,_,rfl,_,rfl,a,_,_,_,rfl,rfl,aG.of aK,Wy aE aB,_,rfl,_,_,rfl,rfl,⟨by decide,by decide⟩,_,_,rfl,rfl,(by show(0:Int)<9;decide),_,_,rfl,rfl,_,rfl,(by show 4<=sizeLine;decide),q⟩
  .refine⟨_,rfl,_,_,rfl,rfl,⟨by decide,by decide⟩,_,_,rfl,rfl,(by show(0:Int)<5;decide),rfl,_,rfl,?_⟩;by_cases dX:kp c/27000%5=0
   .refine fu (by show decide (V.int (kp c/27000%5)=V.int 0)=true;rw[dX];decide) ?_;refine⟨_,rfl,_,_,rfl,rfl,⟨by decide,by decide⟩,_,_,rfl,rfl,⟨by decide,by decide,by decide⟩,_,_,rfl,rfl,(by show(0:Int)<10 ^ (9:Int).toNat;decide),_,_,rfl,rfl,?_⟩;have kE:rT c=1+kp c/135000%10 ^ (9:Int).toNat:=by unfold rT;rw[bL dX];rfl
    rw[kE]at rest;exact rest
   .refine ek (by show decide (V.int (kp c/27000%5)=V.int 0)=false;exact dF λz=>dX (V.int.inj z)) ?_;have kE:rT c=1+kp c/9000%3:=by unfold rT;rw[bF dX]
    rw[kE]at rest;exact rest
theorem I6(i j:Int):decide (V.int i=V.int j)=decide (i=j):=by
 by_cases h:i=j
 .rw[cq h,cq (hh V.int h)]
 .rw[dF h,dF λz=>h (V.int.inj z)]
noncomputable def ai5(n:Int):PyData->Bool
 |.tuple ds=>decide ((ds.length:Int)=n)
 |_=>false
inductive abQ(vs:aY)(H:ae)(Q:a')(bI:b2):Prop where
 |mk (v:ao.V) (d:PyData) (bV:vs=[v]) (bD:dm H v d) (b_:Q (.aM (acK d)) H)
noncomputable def S9:cG:=λvs H Q bI=>abQ vs H Q bI
inductive aaE(vs:aY)(H:ae)(Q:a')(bI:b2):Prop where
 |mk (v:ao.V) (d:PyData) (lo ar:Int) (bV:vs=[v,.int lo,.int ar]) (bD:dm H v d) (b_:Q (.aM (D4 lo ar d)) H)
noncomputable def Sr:cG:=λvs H Q bI=>aaE vs H Q bI
inductive abR(vs:aY)(H:ae)(Q:a')(bI:b2):Prop where
 |mk (v:ao.V) (d:PyData) (n:Int) (bV:vs=[v,.int n]) (bD:dm H v d) (b_:Q (.aM (ai5 n d)) H)
noncomputable def S':cG:=λvs H Q bI=>abR vs H Q bI
inductive aat(vs:aY)(H:ae)(Q:a')(bI:b2):Prop where
 |mk (a:Addr) (hs:fy) (v u:ao.V) (d e:PyData) (bV:vs=[.ref a,v,u]) (bD:dm H (.ref a) (.list hs)) (b_:dm H v d) (c_:dm H u e) (d1:d.depth<=60) (fw:e.depth<=60) (iE:Q (.aM (hc hs d e)) H)
noncomputable def Ie:cG:=λvs H Q bI=>aat vs H Q bI
theorem Sf{ds:fy}{d:PyData}(h:d∈ds):d.depth<=uB ds:=by
 induction ds with
 |nil=>cases h
 |cons x r a8=>
  simp only[uB];rcases dA.mp h with rfl|h
  .exact Nat.le_max_left _ _
  .exact e3 (a8 h) (Nat.le_max_right _ _)
theorem abS{f:Addr}{fd:cz}(F:bw K "is_whole" "is_whole" vW f fd)(B:gg mg):aL P w K mg base a5 1 f fd ["thing"] S9:=by
 refine F.ok Vw (λvs H Q E h=>?_) (λcdv A outer s H vs Q E aq h=>?_)
 .obtain⟨v,d,rfl,_⟩:=h;rfl
 .obtain⟨v,d,rfl,h,q⟩:=h;refine⟨_,(bo (c7 (jw (dB lT (by rfl) B.isinstance jr (ak (U 0) (ak (lp (by rfl) B.int Ji) aD))) (mH (Wh (dB lT (by rfl) B.isinstance jr (ak (U 0) (ak (lp (by rfl) B.bool TL) aD)))))))),?_⟩;refine⟨_,rfl,_,_,_,_,_,rfl,⟨rfl,h.ty,Fc K (agG d)⟩,_,rfl,?_⟩;cases d with
  |int i=>exact hP ⟨_,rfl,_,_,_,_,_,rfl,⟨rfl,h.ty,Fc K (Vu _)⟩,_,rfl,q⟩
  |bool b=>exact hP ⟨_,rfl,_,_,_,_,_,rfl,⟨rfl,h.ty,Fc K (Vu _)⟩,_,rfl,q⟩
  |_=>exact gs q
theorem aaL{f BX:Addr}{fd Cb:cz}(F:bw K "is_whole_within" "is_whole_within" vI f fd)(qa:dJ K mg "is_whole" vW ["thing"] BX Cb)(C7:aL P w K mg base a5 1 BX Cb ["thing"] S9):aL P w K mg base a5 2 f fd ["thing","least","greatest"] Sr:=by
 refine F.ok UZ (λvs H Q E h=>?_) (λcdv A outer s H vs Q E aq h=>?_)
 .obtain⟨v,d,lo,ar,rfl,_⟩:=h;rfl
 .obtain⟨v,d,lo,ar,rfl,h,q⟩:=h;refine⟨_,(bo (c7 (jw (fj C7 (aq.mono (by decide)) (by rfl) qa.at_ qa.fn.bQ qa.bd .nil dj (ak (U 0) aD)) (mH (SF px px (U 1) (U 0) (U 2)))))),?_⟩;refine⟨_,rfl,v,d,rfl,h,_,rfl,?_⟩;cases h with
  |int i=>
   have q:Q (.aM (decide (lo<=i)&&decide (i<=ar))) H:=q;refine hP ⟨_,rfl,_,rfl,_,_,rfl,rfl,_,rfl,?_⟩;by_cases af:lo<=i
   .rw[cq af,UY]at q;exact fu (cq af) ⟨_,rfl,_,_,rfl,rfl,q⟩
   .rw[dF af,ů]at q;exact ek (dF af) q
  |_=>exact gs q
theorem abT{f:Addr}{fd:cz}(F:bw K "is_tuple_of" "is_tuple_of" vX f fd)(B:gg mg):aL P w K mg base a5 1 f fd ["thing","length"] S':=by
 refine F.ok Vx (λvs H Q E h=>?_) (λcdv A outer s H vs Q E aq h=>?_)
 .obtain⟨v,d,n,rfl,_⟩:=h;rfl
 .obtain⟨v,d,n,rfl,h,q⟩:=h;refine⟨_,(bo (c7 (jw (dB lT (by rfl) B.isinstance jr (ak (U 0) (ak (lp (by rfl) B.tuple yC) aD))) (mH (iZ i2 (dB gH (by rfl) B.len gA (ak (U 0) aD)) (U 1) (dr _)))))),?_⟩;refine⟨_,rfl,_,_,_,_,_,rfl,⟨rfl,h.ty,Fc K (acJ d)⟩,_,rfl,?_⟩;cases h with
  |@tup a xs ds aK z t=>
   refine hP ⟨_,rfl,a,_,rfl,.inr (cH.of aK),_,rfl,rfl,?_⟩;show Q (.aM (decide (V.int (xs.length:Int)=V.int n))) H;rw[I6,t.len];exact q
  |_=>exact gs q
theorem aaM{f:Addr}{fd:cz}(F:bw K "are_unlike_houses" "are_unlike_houses" tq f fd):aL P w K mg base a5 1 f fd ["houses","one","other"] Ie:=by
 refine F.ok U0 (λvs H Q E h=>?_) (λcdv A outer s H vs Q E aq h=>?_)
 .obtain⟨a,hs,v,u,d,e,rfl,_⟩:=h;rfl
 .obtain⟨a,hs,v,u,d,e,rfl,aK,bC,b8,dd,MN,q⟩:=h;refine⟨_,(bo (c7 (jw (iZ (Wm (Yb aq)) (U 1) (U 0) (by rfl)) (jw (iZ (Wm (Yb aq)) (U 2) (U 0) (by rfl)) (mH (iZ (y1 aq.units) (U 1) (U 2) (dr _))))))),?_⟩;have m8:pX hs=true:=aK.m8;have dN:p1 d=true:=vy bC.m8 dd (by decide);have dh:p1 e=true:=vy b8.m8 MN (by decide);have q:Q (.aM (inD d hs&&inD e hs&&!g_ d e)) H:=q;refine⟨_,rfl,_,rfl,d,hs,bC.lh,aK.lh,dN,m8,_,rfl,?_⟩;show if inD d hs=true then _ else _
  cases af:inD d hs with
  |false=>
   rw[af]at q;exact gs q
  |true=>
   rw[af]at q;refine hP ⟨_,rfl,_,rfl,e,hs,b8.lh,aK.lh,dh,m8,_,rfl,?_⟩;show if inD e hs=true then _ else _
   cases ai:inD e hs with
   |false=>
    rw[ai]at q;exact gs q
   |true=>
    rw[ai]at q;exact hP ⟨_,rfl,_,rfl,d,e,bC.lh,b8.lh,dN,dh,q⟩
theorem aaN{ys:cf}{x:Str}(h:x∉ys):qt (.str x) (ys.map V.str)=false:=by unfold qt;rw[wM];intro z;obtain⟨v,bC,e⟩:=pT.mp z;obtain⟨y,cM,rfl⟩:=cn.mp bC;have cm:(y==x)=true:=e;exact h (eq_of_beq cm▸cM)
theorem vJ{α:Type}{l:List α}{i:Nat}{d x:α}(h:l[i]?=some x):l.getD i d=x:=by rw[eJ,h];rfl
inductive afE(C R:Addr)(vs:aY)(H:ae)(Q:a')(E:b2):Prop where
 |mk (x bt bu:Addr) (hs:br) (zs:aY) (h:Str) (bV:vs=[.ref x,.str h]) (bD:jV C H x bt bu (cE hs) zs) (b_:(h∈hs.map S->Q .bl H)) (c_:(h∉hs.map S->E (.ref R) none H))
noncomputable def JY(C R:Addr):cG:=λvs H Q E=>afE C R vs H Q E
noncomputable abbrev zI:Stmt:=gL (top 36) 7
theorem agq:dw ["self","house"] ["self","house"] (c3 zI):=⟨rfl,rfl,rfl,by decide+kernel,rfl,by decide+kernel,by decide+kernel⟩
theorem afF{C R f:Addr}{fd:cz}{ua fG nq:String}{bm:cw}(F:bw K "need_house" "Net.need_house" zI f fd)(fU:sf K C)(Rh:wN ua fG nq bm)(yw:Exc K mg "NoHouse" R bm fG):
  aL P w K mg base (d9 P w) 1 f fd ["self","house"] (JY C R):=by
 refine oy F agq (λvs H Q E h=>?_) (λcdv A outer s H vs Q E aq h=>?_)
 .obtain⟨x,bt,bu,hs,zs,h',rfl,_⟩:=h;rfl
 .obtain⟨x,bt,bu,hs,zs,h',rfl,n,q,iu⟩:=h;obtain⟨ag,av⟩:=n.ins;refine⟨_,(bo (eO (eu ñ (U 1) (eR (U 0) (by rfl)) (by rfl)) (bo (Il Rh yw rfl (ak jO aD))) fi)),?_⟩;have aj:aG K H bt ((hs.map S).map V.str):=by rw[<-TM];exact aG.of n.vt
  refine⟨_,rfl,_,rfl,x,C,ag,_,_,rfl,av,fU.cl,fU.tE,rfl,bt,_,rfl,.inl aj,rfl,RB _,_,rfl,?_⟩;by_cases hm:h'∈hs.map S
  .exact ek (by rw[TP hm];rfl) (q hm)
  .exact fu (by rw[aaN hm];rfl) ⟨by show 1<=sizeLine;decide,iu hm⟩
theorem abU{α β:Type}(xs:List α)(q:Nat->Bool)(g:Nat->β):(xs.zipIdx.filter λz=>q z.2).map (λz=>g z.2)=((d_ xs.length).filter q).map g:=by
 have e:xs.zipIdx.map (·.2)=d_ xs.length:=by rw[List.zipIdx_map_snd,List.range_eq_range']
 rw[<-e,AB,jH];rfl
noncomputable def fA:dp.gm:=⟨0,0,0,0⟩
noncomputable def zf(hs:br)(ds:bZ)(rQ:dp.gm->Nat)(h:Str):List Nat:=(d_ ds.length).filter λi=>decide (V.str (S (hs.getD (rQ (ds.getD i fA)) []))=V.str h)
noncomputable def iA(hs:br)(ds:bZ)(rQ:dp.gm->Nat)(h:Str):List Int:=(zf hs ds rQ h).map λi:Nat=>(i:Int)
theorem ň(hs:br)(ds:bZ)(rQ:dp.gm->Nat)(h:Str):(iA hs ds rQ h).length<=ds.length:=by unfold iA zf;rw[bp];exact e3 (ky _ _) (by rw[jG];exact cj _)
inductive ag4(C R:Addr)(rQ:dp.gm->Nat)(vs:aY)(H:ae)(Q:a')(E:b2):Prop where
 |mk (x bt bu:Addr) (hs:br) (rs:bS) (ds:bZ) (h:Str) (bV:vs=[.ref x,.str h]) (bD:jV C H x bt bu (cE hs) (aH rs)) (b_:iJ H hs rs ds) (c_:rs.length<=40) (d1:(h∈hs.map S->∀(p:Addr)(H':ae),H p=none->aN H H'->H' p=some (.lst ((iA hs ds rQ h).map V.int))->Q (.ref p) H')) (fw:(h∉hs.map S->E (.ref R) none H))
noncomputable def Fn(C R:Addr)(rQ:dp.gm->Nat):cG:=λvs H Q E=>ag4 C R rQ vs H Q E
noncomputable abbrev xy:Stmt:=gL (top 36) 4
theorem aii:dw ["self","house"] ["self","house"] (c3 xy):=⟨rfl,rfl,rfl,by decide+kernel,rfl,by decide+kernel,by decide+kernel⟩
theorem ag6{C R f fn:Addr}{fd Zk:cz}(F:bw K "out_of" "Net.out_of" xy f fd)(B:gg mg)(fU:sf K C)(GK:c0 K C "need_house" "Net.need_house" zI ["self","house"] fn Zk)(Pw:aL P w K mg base (d9 P w) 1 fn Zk ["self","house"] (JY C R)):
  aL P w K mg base (d9 P w) 2 f fd ["self","house"] (Fn C R (·.a)):=by
 have hp:=fU.cl;refine oy F aii (λvs H Q E h=>?_) (λcdv A outer s H vs Q E aq h=>?_)
 .obtain⟨x,bt,bu,hs,rs,ds,h',rfl,_⟩:=h;rfl
 .obtain⟨x,bt,bu,hs,rs,ds,h',rfl,n,cO,eE,q,iu⟩:=h;obtain⟨ag,av⟩:=n.ins;refine⟨_,(bc (gI (gZ (U 0) hp GK.eh Pw (aq.mono (by decide)) GK.bd .nil qw (ak (U 1) aD)))
   (bo (c7 (tW (N':=["number","road","house"]) (cs:=[none,none,some 1]) rfl (I9 rfl B.enumerate (ak (eR (U 0) (by rfl)) aD)) rfl (by decide+kernel) rfl (by decide+kernel) (lq (nP.mpr ⟨rfl,(λp aR=>bE aR (eA))⟩)) rfl
    (.own (.own (.lS rfl (.inl rfl) (.inl rfl) rfl .nil)))
    (λC s3 bg cb e9=>⟨(D2 (K:=K) (n:=2) rfl rfl (h3 (ei (i:=0) (by show(["number","road","house"]:cf).Nodup;decide+kernel) rfl (.inl rfl)) (h3 (ei (i:=1) (by show(["number","road","house"]:cf).Nodup;decide+kernel) rfl (.inl rfl)) pj))),(yQ (eu i2 (cp (vG (K:=K) rfl) (U 1) aW (λ_ _=>rfl)) (U 2) (dr _))),(U 0)⟩))))),?_⟩
  have aj:=eB rs;have yg:=cO.len;refine⟨_,rfl,x,ag,_,rfl,av,rfl,_,rfl,x,bt,bu,hs,_,h',rfl,n,λhm=>?_,iu⟩;refine⟨_,rfl,x,C,ag,_,_,rfl,av,fU.cl,fU.jj,rfl,bu,rfl,⟨_,aG.of n.qO⟩,?_⟩;refine aeY (rest:=[some (.str h')]) rfl (aG.of n.qO) (eM (by omega)) (λi _=>decide (V.str (S (hs.getD (ds.getD i fA).a []))=V.str h')) (λi _=>.int i) (λi v ah R ev aF jz=>?_) (λi v ah R ev _ aF jz=>⟨_,rfl,jz ah (aN.refl _)⟩) (λD H' af ai bR=>q hm D H' af bR ?_)
  .unfold aH at ev;rw[c6]at ev;obtain⟨r,gb,rfl⟩:=fL.mp ev;obtain⟨d,dS,ok,hd⟩:=cO.get gb;have cT:ds.getD i fA=d:=vJ dS;rw[cT]at jz;exact⟨_,rfl,r,_,_,_,rfl,rfl,cH.of (aF _ _ hd),rfl,_,rfl,rfl,_,rfl,jz ah (aN.refl _)⟩
  .rw[ai,abU (aH rs) (λi=>decide (V.str (S (hs.getD (ds.getD i fA).a []))=V.str h')) (λi=>V.int i),aj,yg];unfold iA;rw[jH];rfl
noncomputable abbrev eV:=List (List a7×ao.V)
noncomputable def f3(h g:Str):List a7:=[.inr h,.inr g]
noncomputable def oo(n t:Addr):List (Str×ao.V):=[("net",.ref n),("told",.ref t)]
structure pq(C az:Addr)(H:ae)(x n t bt bu:Addr)(xs ys:aY)(kvs:eV):Prop where
 ins:∃ag,H x=some (.ins C ag (oo n t))
 hi:jV az H n bt bu xs ys
 told:H t=some (.c4 kvs)
theorem pq.same{C az:Addr}{H H':ae}{x n t bt bu:Addr}{xs ys:aY}{kvs:eV}(W:pq C az H x n t bt bu xs ys kvs)(aF:aN H H'):pq C az H' x n t bt bu xs ys kvs:=
 let⟨ag,h⟩:=W.ins
 ⟨⟨ag,aF _ _ h⟩,W.hi.same aF,aF _ _ W.told⟩
end
structure qK(K:aU)(C:Addr):Prop where
 cl:fp K C
 nn:b1 K (.ref C) "net"=some none
 dK:b1 K (.ref C) "told"=some none
inductive aij(C:Addr)(vs:aY)(H:ae)(Q:a')(bI:b2):Prop where
 |mk (x ag:Addr) (v:ao.V) (bV:vs=[.ref x,v]) (bD:H x=some (.ins C ag [])) (b_:∀t,H t=none->Q .bl (upd (upd H t (.c4 [])) x (.ins C ag [("net",v),("told",.ref t)])))
noncomputable def Lm(C:Addr):cG:=λvs H Q bI=>aij C vs H Q bI
inductive aik(C az cN:Addr)(vs:aY)(H:ae)(Q:a')(E:b2):Prop where
 |mk (x n t bt bu:Addr) (hs:br) (ys:aY) (kvs:eV) (v u:ao.V) (d e:PyData) (bV:vs=[.ref x,v,u]) (bD:pq C az H x n t bt bu (cE hs) ys kvs) (b_:Good hs) (c_:dm H v d) (d1:dm H u e) (fw:d.depth<=60) (iE:e.depth<=60) (k4:(hc (bN hs) d e=true->∀H',aN H H'->Q .bl H')) (mV:(hc (bN hs) d e=false->∀H',aN H H'->E (.ref cN) none H'))
noncomputable def AK(C az cN:Addr):cG:=λvs H Q E=>aik C az cN vs H Q E
inductive ail(C az cN dq:Addr)(vs:aY)(H:ae)(Q:a')(E:b2):Prop where
 |mk (x n t bt bu:Addr) (hs:br) (rs:bS) (ds:bZ) (kvs:eV) (h g:Str) (i:Int) (bV:vs=[.ref x,.str h,.str g,.int i]) (bD:pq C az H x n t bt bu (cE hs) (aH rs) kvs) (b_:Good hs) (c_:iJ H hs rs ds) (d1:rs.length<=40) (fw:dm H (.str h) (.str h)) (iE:dm H (.str g) (.str g)) (k4:kvs.length<sizeLine) (mV:(hc (bN hs) (.str h) (.str g)=true->i∈iA hs ds (·.a) h->∀H',aN H H'->Q .bl (upd H' t (.c4 (eo kvs (f3 h g) (.int i)))))) (q6:(hc (bN hs) (.str h) (.str g)=false->∀H',aN H H'->E (.ref cN) none H')) (wK:(hc (bN hs) (.str h) (.str g)=true->i∉iA hs ds (·.a) h->∀H',aN H H'->E (.ref dq) none H'))
noncomputable def FY(C az cN dq:Addr):cG:=λvs H Q E=>ail C az cN dq vs H Q E
theorem abV(ys:gX):(ys.map V.int).all qH=true:=by rw[Fv];intro x av;obtain⟨y,_,rfl⟩:=cn.mp av;rfl
theorem afG{ys:gX}{x:Int}(h:x∈ys):qt (.int x) (ys.map V.int)=true:=by unfold qt;rw[pT];exact⟨.int x,cn.mpr ⟨x,h,rfl⟩,by show(x==x)=true;exact beq_self_eq_true x⟩
theorem aaO{ys:gX}{x:Int}(h:x∉ys):qt (.int x) (ys.map V.int)=false:=by unfold qt;rw[wM];intro z;obtain⟨v,bC,e⟩:=pT.mp z;obtain⟨y,cM,rfl⟩:=cn.mp bC;have cm:(y==x)=true:=e;exact h (eq_of_beq cm▸cM)
theorem Ĥ{hs:br}{h g:Str}(c:hc (bN hs) (.str h) (.str g)=true):h∈hs.map S/\g∈hs.map S:=by unfold hc at c;simp only[jD]at c;exact⟨ž λn=>by rw[Jl n]at c;exact ff c.1.1,ž λn=>by rw[Jl n]at c;exact ff c.1.2⟩
section
variable{P:bJ}{w:bq}{K:aU}{mg:cB}{base:Heap}
noncomputable abbrev Er:Stmt:=gL (top 38) 0
theorem ai6:dw ["self","net"] ["self","net"] (c3 Er):=⟨rfl,rfl,rfl,by decide+kernel,rfl,by decide+kernel,by decide+kernel⟩
theorem aim{C f:Addr}{fd:cz}(F:bw K "__init__" "Ways.__init__" Er f fd)(da:qK K C):aL P w K mg base a5 1 f fd ["self","net"] (Lm C):=by
 refine F.ok ai6 (λvs H Q E h=>?_) (λcdv A outer s H vs Q E aq h=>?_)
 .obtain⟨x,ag,v,rfl,_⟩:=h;rfl
 .obtain⟨x,ag,v,rfl,av,q⟩:=h;refine⟨_,(bc (ll (U 0) (U 1) rfl)
   (bo (ll (U 0) ab9 rfl))),?_⟩
  refine⟨_,rfl,_,rfl,x,C,ag,_,rfl,av,da.cl,da.nn,(by show 0<1000;decide),?_⟩;intro t dK;have yN:t≠x:=λe=>by rw[e,aQ]at dK;cases dK
  rw[aA yN]at dK;refine⟨_,rfl,x,C,ag,_,rfl,(by rw[aA (cL yN)];exact aQ),da.cl,da.dK,(by show 1<1000;decide),?_⟩;have aE:upd (upd (upd H x (.ins C ag [("net",v)])) t (.c4 [])) x (.ins C ag [("net",v),("told",.ref t)])=upd (upd H t (.c4 [])) x (.ins C ag [("net",v),("told",.ref t)]):=by
   funext b;by_cases aa:b=x
   .rw[aa,aQ,aQ]
   .rw[aA aa,aA aa];by_cases ax:b=t
    .rw[ax,aQ,aQ]
    .rw[aA ax,aA ax,aA aa]
  show Q .bl (upd (upd (upd H x (.ins C ag [("net",v)])) t (.c4 [])) x (.ins C ag [("net",v),("told",.ref t)]));rw[aE];exact q t dK
noncomputable abbrev v_:Stmt:=gL (top 38) 6
theorem ai7:dw ["self","house","goal"] ["self","house","goal"] (c3 v_):=⟨rfl,rfl,rfl,by decide+kernel,rfl,by decide+kernel,by decide+kernel⟩
theorem ain{C az cN f f1 f2:Addr}{fd cY d8:cz}{ua fG nq:String}{bm:cw}(F:bw K "need_pair" "Ways.need_pair" v_ f fd)(da:qK K C)(hp:fp K az)(Rh:wN ua fG nq bm)(yw:Exc K mg "NoHouse" cN bm fG)(mv:c0 K az "houses" "Net.houses" vC ["self"] f1 cY)(p8:aL P w K mg base a5 1 f1 cY ["self"] (Dp az))(lQ:dJ K mg "are_unlike_houses" tq ["houses","one","other"] f2 d8)(uY:aL P w K mg base a5 1 f2 d8 ["houses","one","other"] Ie):
  aL P w K mg base (d9 P w) 2 f fd ["self","house","goal"] (AK C az cN):=by
 refine oy F ai7 (λvs H Q E h=>?_) (λcdv A outer s H vs Q E aq h=>?_)
 .obtain⟨x,n,t,bt,bu,hs,ys,kvs,v,u,d,e,rfl,_⟩:=h;rfl
 .obtain⟨x,n,t,bt,bu,hs,ys,kvs,v,u,d,e,rfl,W,G,bC,b8,dd,MN,q,iu⟩:=h;obtain⟨ag,av⟩:=W.ins;refine⟨_,(bo (eO (i0 (iK (fj uY (aq.mono (by decide)) (by rfl) lQ.at_ lQ.fn.bQ lQ.bd .nil dj (ak (mz (eR (U 0) (by rfl)) hp mv.eh p8 (aq.mono (by decide)) mv.bd .nil dj) (ak (U 1) (ak (U 2) aD)))))) (bo (Il Rh yw rfl (ak jO aD))) fi)),?_⟩;obtain⟨iL,aS⟩:=W.hi.ins;refine⟨_,rfl,x,C,ag,_,_,rfl,av,da.cl,da.nn,rfl,n,iL,_,rfl,aS,rfl,n,bt,bu,_,_,rfl,W.hi,λl nl=>?_⟩;have bj:=bU (o:=.lst (cE hs)) nl;refine⟨_,rfl,_,rfl,l,bN hs,v,u,d,e,rfl,X5 G aQ,bC.same bj,b8.same bj,dd,MN,_,rfl,?_⟩;cases ax:hc (bN hs) d e with
  |true=>exact q ax _ bj
  |false=>exact⟨by show 1<=sizeLine;decide,iu ax _ bj⟩
noncomputable abbrev y7:Stmt:=gL (top 38) 1
theorem ai8:dw ["self","house","goal","road"] ["self","house","goal","road"] (c3 y7):=⟨rfl,rfl,rfl,by decide+kernel,rfl,by decide+kernel,by decide+kernel⟩
theorem aio{C az cN dq f f1 f2:Addr}{fd cY d8:cz}{ua fG nq:String}{bm:cw}(F:bw K "set_way" "Ways.set_way" y7 f fd)(da:qK K C)(hp:fp K az)(RL:wN ua fG nq bm)(yt:Exc K mg "NoRoad" dq bm fG)(sT:c0 K az "out_of" "Net.out_of" xy ["self","house"] f1 cY)(yc:aL P w K mg base (d9 P w) 2 f1 cY ["self","house"] (Fn az cN (·.a)))(nZ:c0 K C "need_pair" "Ways.need_pair" v_ ["self","house","goal"] f2 d8)(rm:aL P w K mg base (d9 P w) 2 f2 d8 ["self","house","goal"] (AK C az cN)):
  aL P w K mg base (d9 P w) 3 f fd ["self","house","goal","road"] (FY C az cN dq):=by
 have jM:=da.cl;refine oy F ai8 (λvs H Q E h=>?_) (λcdv A outer s H vs Q E aq h=>?_)
 .obtain⟨x,n,t,bt,bu,hs,rs,ds,kvs,h',g',i,rfl,_⟩:=h;rfl
 .obtain⟨x,n,t,bt,bu,hs,rs,ds,kvs,h',g',i,rfl,W,G,cO,eE,bC,b8,Gx,q,iu,ap8⟩:=h;obtain⟨ag,av⟩:=W.ins;obtain⟨iL,aS⟩:=W.hi.ins;refine⟨_,(bc (gI (gZ (U 0) jM nZ.eh rm (aq.mono (by decide)) nZ.bd .nil qw (ak (U 1) (ak (U 2) aD))))
   (bc (eO (eu ñ (U 3) (gZ (eR (U 0) (by rfl)) hp sT.eh yc (aq.mono (by decide)) sT.bd .nil qw (ak (U 1) aD)) (by rfl)) (bo (Il RL yt rfl (ak jO aD))) fi)
   (bo (yT (iM aq) (eR (U 0) (by rfl)) (i1 (ak (U 1) (ak (U 2) aD))) (U 3) rfl)))),?_⟩
  refine⟨_,rfl,x,ag,_,rfl,av,rfl,_,rfl,_,rfl,x,n,t,bt,bu,hs,_,kvs,.str h',.str g',.str h',.str g',rfl,W,G,bC,b8,(by show 0<=60;decide),(by show 0<=60;decide),λax H1 s1=>?_,iu⟩;have hm:=Ĥ ax;refine⟨_,rfl,_,rfl,x,C,ag,_,_,rfl,s1 _ _ av,da.cl,da.nn,rfl,n,iL,_,rfl,s1 _ _ aS,rfl,_,rfl,n,bt,bu,hs,rs,ds,h',rfl,W.hi.same s1,cO.same s1,eE,λ_ p ah np s2 aR=>?_,λvr=>bE hm.1 vr⟩;have gw:=s1.trans s2;refine⟨p,_,rfl,.inl (aG.of aR),rfl,abV _,_,rfl,?_⟩;by_cases ar:i∈iA hs ds (·.a) h'
  .refine ek (by rw[afG ar];rfl) ?_;refine⟨_,rfl,_,rfl,x,C,ag,_,_,rfl,gw _ _ av,da.cl,da.dK,rfl,_,rfl,_,rfl,(by show 2<=sizeLine;decide),λr jj=>?_⟩;have s3:=bU (o:=.tup [V.str h',V.str g']) jj;exact⟨t,_,rfl,oI.t (k:=f3 h' g') ((gw.trans s3) _ _ W.told) aQ Gx,q ax ar _ (gw.trans s3)⟩
  .refine fu (by rw[aaO ar];rfl) ⟨by show 1<=sizeLine;decide,ap8 ax ar _ gw⟩
noncomputable def jW(kvs:eV)(h g:Str):Option Nat:=match ck kvs (f3 h g)with|some (.int k)=>some k.toNat|_=>none
structure Bb(kvs:eV)(m:Nat):Prop where
 val:∀k v,ck kvs k=some v->∃i:Nat,v=.int (i:Int)/\i<m
theorem Bb.get{kvs:eV}{m:Nat}(t:Bb kvs m)(h g:Str):(ck kvs (f3 h g)=none/\jW kvs h g=none)\/∃i:Nat,ck kvs (f3 h g)=some (.int (i:Int))/\jW kvs h g=some i/\i<m:=by
 cases e:ck kvs (f3 h g)with
 |none=>exact .inl ⟨rfl,by unfold jW;rw[e]⟩
 |some v=>
  obtain⟨i,rfl,ar⟩:=t.val _ _ e;exact .inr ⟨i,rfl,by unfold jW;rw[e];simp,ar⟩
theorem Sg{α:Type}[DecidableEq α]:∀{sn L:List α},sn.Nodup->(∀y∈sn,y∈L)->sn.length<=L.length
 |[],_,_,_=>e4 _
 |x::r,L,aJ,h=>by have av:=h x (.head _);have a8:=Sg (sn:=r) (L:=L.erase x) (iH.mp aJ).2 (λy cM=>(List.mem_erase_of_ne (show y≠x fromλe=>(iH.mp aJ).1 (by rw[<-e];exact cM))).mpr (h y (.tail _ cM)));rw[List.length_erase_of_mem av]at a8;have:=List.length_pos_of_mem av;rw[mj];omega
theorem ĥ{α:Type}{l:List α}{x:α}(aJ:l.Nodup)(h:x∉l):(l++[x]).Nodup:=by rw[xE];exact⟨aJ,iH.mpr ⟨eA,sv⟩,λa aK b aa e=>h (by rw[<-iW.mp aa,<-e];exact aK)⟩
end
end dY
namespace cQ
open PySem PySem.Spec PyProof.Rows ao
noncomputable def JZ(K:aU)(C R:Addr):Prop:=∃dd cd bj,K.lookup C=some ⟨.type "type",dd,.cls cd,bj⟩/\cd.mro.contains (.ref R)=false
theorem acQ{M:k8}{A:cW}{E:cx}{K:aU}{C R au:Addr}{s:aC}{ox:Obj}{Q:Bool->aC->Prop}(X:K.In s.heap)(ax:jx K C C=true)(aS:JZ K C R)(aq:jx K R R=true)(he:s.heap.get? au=some ox)(CI:ox.cls=.ref C)(aT:Q false s):aO M A (M6 (.ref au) (.ref R)) Q E s:=by
 obtain⟨nm,oB,N,bs,bm,hdct,sn,sub,ab,col,dd,k0,k1,k2,k3,k5,fG,eg,aa,_⟩:=HE X ax;obtain⟨Ü,ô,N',YO,Bj,anq,ą,Ċ,YF,YX,ju,aoz,aoA,aoB,aoC,aoD,apj,cO,de,ana⟩:=HE X aq;obtain⟨my,cd,bj,lk,vr⟩:=aS;have Np:(cy C::bm).contains (.ref R)=false:=by have e:=X _ _ lk;rw[eg]at e;have aB:=hY e;have cJ:=hh Obj.data aB;have fB:Data.cls _=Data.cls cd:=cJ;cases fB;exact vr
 have CF:(cy R::Bj).contains (.type "BaseException")=true:=by rw[WB,de,UX]
 have f:=tc_notTuple;obtain⟨aR,g,d,t,os⟩:=s;unfold M6
 repeat (first|(with_reducible refine ja he ?_;rw[CI])|with_reducible refine ja cO ?_|(with_reducible refine ES cO ?_;rw[CF])|(with_reducible refine ES eg ?_;rw[Np])|wp_step)
 exact aT
noncomputable def XS(K:aU)(c9:m4)(i:Nat)(uH ha:Addr)(t1 f5:eY):eY:=λD σ H=>c9 D (λa3 cls _ H'=>∃C,cls=.ref C/\jx K C C=true/\
 ((jx K C uH=true/\∀au,H' au=none->t1 {b9:=λet ah=>D.b9 (et.set i none) ah,l7:=D.l7,gq:=λet ah=>D.gq (et.set i none) ah,e0:=λet ah=>D.e0 (et.set i none) ah} (a3.set i (some (.ref au))) (upd H' au (ko au C)))\/
 (JZ K C uH/\jx K C ha=true/\∀au,H' au=none->f5 {b9:=λet ah=>D.b9 (et.set i none) ah,l7:=D.l7,gq:=λet ah=>D.gq (et.set i none) ah,e0:=λet ah=>D.e0 (et.set i none) ah} (a3.set i (some (.ref au))) (upd H' au (ko au C))))) σ H
theorem afI{X:bb}{body:List Stmt}{f9 gn:Stmt}{Č č:List Stmt}{eP hT n:Str}{HU HV an4 an5 pos:Pos}{c9:m4}{t1 f5:eY}{i:Nat}{uH ha:Addr}(rE:X.stack=X.env::X.outer)(NZ:X.env.frame=some X.env.locals)(aa:FL X body c9)(eC:X.N.Nodup)(ar:X.N[i]?=some n)(aj:X.env.scope.names.lookup n=some .local)(δ:iV X eP)(ρ:X.mg eP=some (.ref uH))(ZN:jx X.K uH uH=true)(rC:∀au,fV (nj X au) (f9::Č) t1)(N0:iV X hT)(ς:X.mg hT=some (.ref ha))(jz:jx X.K ha ha=true)(kM:∀au,fV (nj X au) (gn::č) f5)(te:(eP==("__debug__":Str))=false:=by decide)(hd2:(hT==("__debug__":Str))=false:=by decide):
  fN X (.Try body [.ExceptHandler (some (.Name eP HU)) (some n) (f9::Č) an4,.ExceptHandler (some (.Name hT HV)) (some n) (gn::č) an5] [] [] pos) (XS X.K c9 i uH ha t1 f5):=by
 intro pins s σ H D I h;refine arE (gf (aa pins s σ H D _ I h) (λf s1 q=>?_) λe s1 q=>?_)
 .cases f with
  |next=>exact r9 q
  |ret v=>exact q
  |brk=>exact q
  |cont=>exact q
 .obtain⟨nK,b3,sc,au,cls,a0,H',B,rfl,As,T,C,rfl,jT⟩:=q;have vn:X.A.frames=some (X.env::X.outer):=by rw[<-rE];exact I.ok.frames
  have Cg:=T.fb;rw[rE]at Cg;refine arK vn NZ Cg λcS NU qY=>?_;refine wpAny_landsW NU λdX va SM=>?_;have Ci:=va;rw[<-rE]at Ci;have o7:=T.move Ci (qY.trans SM);have jn:Inv X pins nK H' {s1 with heap:=dX}:=As.Bl (s':={s1 with heap:=dX}) (ch:=[]) o7.os o7.un o7.a_ o7.bare (λb z=>bE z (by simp));obtain⟨ob,qq,G_⟩:=va.there;have hit:∀{x:Str}{np yn:Pos}{kA:Stmt}{oE:List Stmt}{rest:List ExceptHandler}{ts:eY}{R:Addr},iV X x->X.mg x=some (.ref R)->jx X.K R R=true->(∀au,fV (nj X au) (kA::oE) ts)->(x==("__debug__":Str))=false->jx X.K C R=true->
    (∀au,H' au=none->ts {b9:=λet ah=>D.b9 (et.set i none) ah,l7:=D.l7,gq:=λet ah=>D.gq (et.set i none) ah,e0:=λet ah=>D.e0 (et.set i none) ah} (nK.set i (some (.ref au))) (upd H' au (ko au C)))->
    aO (a6 X.prog X.w) X.A (handleBy (.ref au) X.env (.ExceptHandler (some (.Name x np)) (some n) (kA::oE) yn::rest)) (o6 X pins D) X.dT {s1 with heap:=dX}:=λ{x np yn kA oE rest ts R}bP hm cO Ox kK kj k=>by
   refine į (YW (rJ (X:=nj X au) (cQ.Inv.oE jn au) bP hm ?_ kK)) (by intro q;cases q);refine VO jn.ew kj cO qq G_ ?_;refine ald (lands_againW va λkg Cj SN=>?_);have Ck:=Cj;rw[<-rE]at Ck;have jc:=o7.move Ck SN;obtain⟨ä,υ,anU⟩:=Cj.there;have old:∀b o,sc.heap.get? b=some o->b≠au:=λb o e=>T.Ý e;have gR:=T.new;have rf:Inv X pins nK (upd H' au (ko au C)) {s1 with heap:=kg}:=by
    refine As.Bl (s':={s1 with heap:=kg}) (ch:=[]) jc.os ⟨jc.un.keep,jc.un.slot,λb o e lx av=>by rw[aA (old b o e)];exact jc.un.free b o e lx av,jc.un.there,λb xs e=>?_,λb o u e=>?_,λb ps e=>?_⟩ ?_ jc.bare (λb z=>bE z (by simp))
    .have:=jc.un.hv b xs e;rw[aA (bW this gR)];exact this
    .have:=jc.un.iN b o u e;rw[aA (bW this gR)];exact this
    .obtain⟨m,this⟩:=jc.un.i_ b ps e;exact⟨m,by rw[aA (bW this gR)];exact this⟩
    .intro b u e;by_cases de:b=au
     .subst de;rw[aQ]at e;cases e;exact⟨⟨ä,υ,anU⟩,⟨ä,υ⟩,λaf ai⟨o,aE,aB⟩bT=>⟨o,bT o aE,aB⟩⟩
     .rw[aA de]at e;exact(jc.a_ b u e).mS (λc v _ q=>q) (λc q=>by rw[aA (bW q gR)];exact q) λc xs q=>by rw[aA (bW q gR)];exact q
   refine Ij (X:=nj X au) (cQ.Inv.oE rf au) eC ar (.inl aj) (v:=.ref au) rfl (λgd j9=>?_) (.inr aj);have aR:(X.env.scope.kind==.class||(X.env.scope.kind==.module&&X.env.locals !=X.env.globals))=false:=by rw[I.ok.kind];rfl
   have gone:∀{jb:St}{dz:ae}{e':aC}{mq:aC->Prop},Inv (nj X au) pins jb dz e'->(∀jl,Inv X pins (jb.set i none) dz jl->mq jl)->
     aO (a6 X.prog X.w) X.A (do bindName X.env n .none;arf X.env n yn) (λ_ jl=>mq jl) X.dT e':=λ{jb dz e' mq}hV aT=>by
    have Ar:Inv X pins jb dz e':=Inv.Ğ I.ok.hd hV;obtain⟨m,aS,_⟩:=id Ar.loc;refine arN aj aS aR λn9 v CM RS=>aT _ (Inv.forget Ar eC ar RS λcP yl=>?_);have em:cP=m:=by obtain⟨o,es,ep,aE,aB,_,cJ⟩:=aS;obtain⟨cC,pd,m_,pa,Bt,_,MQ⟩:=yl;rw[aE]at pa;cases pa;rw[aB]at Bt;cases Bt;funext y;rw[<-cJ y,<-MQ y]
    subst em;exact⟨v,CM⟩
   refine gf (Ox au pins gd _ _ _ j9 (k au gR)) (λM_ e' mM=>?_) λ_ _ z=>hA z;cases M_ with
   |next=>obtain⟨jb,dz,hV,q⟩:=mM;exact gone hV λjl kx=>⟨_,dz,kx,q⟩
   |brk=>obtain⟨jb,dz,hV,q⟩:=mM;exact gone hV λjl kx=>⟨_,dz,kx,q⟩
   |cont=>obtain⟨jb,dz,hV,q⟩:=mM;exact gone hV λjl kx=>⟨_,dz,kx,q⟩
   |ret u=>obtain⟨iC,jb,dz,hV,D6,q⟩:=mM;exact gone hV λjl kx=>⟨iC,_,dz,kx,D6,q⟩
  obtain⟨aoa,⟨kj,k⟩|⟨vr,kj,k⟩⟩:=jT
  .exact hit δ ρ ZN rC te kj k
  .refine į (YW (rJ (X:=nj X au) (cQ.Inv.oE jn au) δ ρ ?_ te)) (by intro q;cases q);refine acQ jn.ew aoa vr ZN qq G_ ?_;exact hit N0 ς jz kM hd2 kj k
end cQ
namespace dY
open PySem ao cQ dp
theorem abW{K:aU}{dc:TI}{cs:k_}{b0:TE}{σ rest:ao.St}{H H1:ae}{Q:a'}{a:Addr}{o:Obj}{kvs:List (List a7×ao.V)}(hw:∀R:fT->ae->Prop,R (J_ a o kvs) H1->dc σ H R)(h9:ia cs σ=none::none::rest)(aK:H1 a=some (.eF o (.c4 kvs)))(aj:kvs.length<sizeLine)(f:Nat->List ao.V)(elt:∀(i:Nat)(k:List a7)(x:ao.V)(b:Addr)(ah:ae)(R:a'),kvs[i]?=some (k,x)->aN H1 ah->ah b=some (.tup (k.map dg))->(∀r bx,aN ah bx->bx r=some (.tup (f i))->R (.ref r) bx)->b0 (some (.ref b)::some x::rest) ah R)(fin:∀(D:Addr)(H':ae)(rs:bS),H1 D=none->H' D=some (.lst (aH rs))->d7 H' rs ((d_ kvs.length).map f)->aN H1 H'->Q (.ref D) H'):
  nF dc cs (xl K 2 (qG (hJ 0) (qG (hJ 1) Aw))) se b0 σ H Q:=by
 refine hw _ λD bN=>?_;refine⟨λi m ys a3 H'=>m=kvs.length-i/\i<=kvs.length/\(∃rs,ys=aH rs/\d7 H' rs ((d_ i).map f))/\(∃hj kU,a3=hj::kU::rest)/\aN H1 H'/\H' D=some (.lst ys),⟨kvs.length,by simp,e4 _,⟨[],rfl,.nil⟩,⟨none,none,h9⟩,λb o e=>?_,aQ⟩,?_⟩
 .rw[aA (bW e bN)];exact e
 .rintro i m ys a3 H' ⟨rfl,ar,⟨rs,rfl,c'⟩,⟨hj,kU,rfl⟩,aF,e7⟩;have ln:=c'.len;rw[bp,jG]at ln;refine⟨e7,nT (by rw[eB];omega) aj,?_⟩;by_cases cK:i<kvs.length
  .refine .inr ⟨⟨aF _ _ aK,cK⟩,λx ah y=>?_⟩;obtain⟨p,b,k,q5,aR,rfl,u5,aa,rfl⟩:=y;have s2:=bU (o:=.tup [V.ref b,q5]) aR;refine⟨p,_,rfl,cH.of aQ,rfl,_,_,rfl,_,_,rfl,rfl,?_⟩;refine elt i k q5 b _ _ u5 (aF.trans s2) (s2 _ _ aa) λr bx s5 aq=>⟨s5 _ _ (s2 _ _ e7),kvs.length-(i+1),by omega,rfl,cK,⟨rs++[r],ru rs r,?_⟩,⟨_,_,rfl⟩,λc ob e=>?_,aQ⟩
   .rw[sx,eW];exact d7.upd (Paired.snoc (F:=λr d=>bx r=some (.tup d)) aq ((c'.same s2).same s5)) (s5 _ _ (s2 _ _ e7)) (by intro d z;cases z)
   .rw[aA (bW e bN)];exact s5 _ _ (s2 _ _ (aF _ _ e))
  .have e:i=kvs.length:=by omega
   subst e;exact .inl ⟨⟨aF _ _ aK,cj _⟩,fin D H' rs bN e7 c' aF⟩
noncomputable abbrev Row:=Str×Str×Int
noncomputable def sg(r:Row):List a7:=[.inr r.1,.inr r.2.1,.inl r.2.2]
noncomputable def lA(r:Row):List ao.V:=[.str r.1,.str r.2.1,.int r.2.2]
noncomputable def f_(rs:List Row):List (List a7×ao.V):=rs.map λr=>([.inr r.1,.inr r.2.1],.int r.2.2)
noncomputable def KD(rs:List Row):List Nat:=pC (l2 (rs.map sg)) rs.length
noncomputable def r0:Row:=(mr,mr,0)
noncomputable def zJ(rs:List Row):List Row:=(KD rs).map λi=>rs.getD i r0
theorem row_shape(rs:List Row):∀d∈rs.map sg,km d=false::[false,true]:=λd hd=>by obtain⟨r,_,rfl⟩:=cn.mp hd;rfl
theorem abX{H:ae}{ts:bS}{rs:List Row}(h:d7 H ts (rs.map lA)):bk (λr d=>H r=some (.tup (d.map dg))) ts (rs.map sg):=by
 have:∀{ts:bS}{rs:List Row},d7 H ts (rs.map lA)->bk (λr d=>H r=some (.tup (d.map dg))) ts (rs.map sg):=λ{ts rs}=>by
  induction rs generalizing ts with
  |nil=>intro h;cases h;exact .nil
  |cons r q a8=>intro h;cases h with|cons a t=>exact .cons a (a8 t)
 exact this h
inductive aip(C az cN:Addr)(vs:aY)(H:ae)(Q:a')(E:b2):Prop where
 |mk (x n t bt bu:Addr) (hs:br) (ys:aY) (kvs:eV) (h g:Str) (bV:vs=[.ref x,.str h,.str g]) (bD:pq C az H x n t bt bu (cE hs) ys kvs) (b_:Good hs) (c_:dm H (.str h) (.str h)) (d1:dm H (.str g) (.str g)) (fw:(hc (bN hs) (.str h) (.str g)=true->∀H',aN H H'->Q ((ck kvs (f3 h g)).getD .bl) H')) (iE:(hc (bN hs) (.str h) (.str g)=false->∀H',aN H H'->E (.ref cN) none H'))
noncomputable def Ln(C az cN:Addr):cG:=λvs H Q E=>aip C az cN vs H Q E
section
variable{P:bJ}{w:bq}{K:aU}{mg:cB}{base:Heap}
noncomputable abbrev Es:Stmt:=gL (top 38) 3
theorem ai9:dw ["self","house","goal"] ["self","house","goal"] (c3 Es):=⟨rfl,rfl,rfl,by decide+kernel,rfl,by decide+kernel,by decide+kernel⟩
theorem ahW{C az cN f f2:Addr}{fd d8:cz}(F:bw K "way" "Ways.way" Es f fd)(da:qK K C)(nZ:c0 K C "need_pair" "Ways.need_pair" v_ ["self","house","goal"] f2 d8)(rm:aL P w K mg base (d9 P w) 2 f2 d8 ["self","house","goal"] (AK C az cN)):
  aL P w K mg base (d9 P w) 3 f fd ["self","house","goal"] (Ln C az cN):=by
 have jM:=da.cl;refine oy F ai9 (λvs H Q E h=>?_) (λcdv A outer s H vs Q E aq h=>?_)
 .obtain⟨x,n,t,bt,bu,hs,ys,kvs,h',g',rfl,_⟩:=h;rfl
 .obtain⟨x,n,t,bt,bu,hs,ys,kvs,h',g',rfl,W,G,bC,b8,q,iu⟩:=h;obtain⟨ag,av⟩:=W.ins;refine⟨_,(bc (gI (gZ (U 0) jM nZ.eh rm (aq.mono (by decide)) nZ.bd .nil qw (ak (U 1) (ak (U 2) aD))))
   (bo (c7 (Ta (iM aq) (eR (U 0) (by rfl)) (i1 (ak (U 1) (ak (U 2) aD))) ⟨rfl,rfl,rfl,rfl⟩)))),?_⟩
  refine⟨_,rfl,x,ag,_,rfl,av,rfl,_,rfl,_,rfl,x,n,t,bt,bu,hs,_,kvs,.str h',.str g',.str h',.str g',rfl,W,G,bC,b8,(by show 0<=60;decide),(by show 0<=60;decide),λax H1 s1=>?_,iu⟩;refine⟨_,rfl,x,C,ag,_,_,rfl,s1 _ _ av,da.cl,da.dK,rfl,t,rfl,.inr ⟨_,.inl (s1 _ _ W.told)⟩,_,rfl,_,rfl,(by show 2<=sizeLine;decide),λr jj=>?_⟩;have s3:=bU (o:=.tup [V.str h',V.str g']) jj;exact⟨_,iR.t (k:=f3 h' g') (s3 _ _ (s1 _ _ W.told)) aQ,q ax _ (s1.trans s3)⟩
end
end dY
namespace dZ
variable{κ:Type}[DecidableEq κ]
structure hU(κ:Type)where
 a:κ
 b:κ
 t:Int
inductive Path(rs:List (hU κ))(s:κ):κ->Int->Prop
 |nil:Path rs s s 0
 |snoc {v:Int} (e:hU κ):Path rs s e.a v->e∈rs->Path rs s e.b (v+e.t)
theorem Path.cons{rs:List (hU κ)}(e:hU κ)(he:e∈rs){g:κ}{w:Int}(p:Path rs e.b g w):Path rs e.a g (e.t+w):=by
 induction p with
 |nil=>
  have:=Path.snoc e (Path.nil (rs:=rs) (s:=e.a)) he
  rwa [pR,<-Int.add_zero e.t]at this
 |snoc f _ hf a8=>
  rw[<-We];exact Path.snoc f a8 hf
theorem Path.first{rs:List (hU κ)}{s g:κ}{w:Int}(p:Path rs s g w):(s=g/\w=0)\/∃e∈rs,∃u,e.a=s/\Path rs e.b g u/\w=e.t+u:=by
 induction p with
 |nil=>exact .inl ⟨rfl,rfl⟩
 |@snoc v f _ hf a8=>
  refine .inr ?_;rcases a8 with⟨rfl,rfl⟩|⟨e,he,u,aE,p,rfl⟩
  .exact⟨f,hf,0,rfl,.nil,by omega⟩
  .exact⟨e,he,u+f.t,aE,.snoc f p hf,by omega⟩
theorem Path.nonneg{rs:List (hU κ)}(aR:∀e∈rs,1<=e.t){s g:κ}{w:Int}(p:Path rs s g w):0<=w:=by
 induction p with
 |nil=>exact xm _
 |snoc e _ he a8=>have:=aR e he;omega
structure Kh(rs:List (hU κ))(s:κ)(d:κ->Option Int):Prop where
 path:∀k v,d k=some v->Path rs s k v
 least:∀k w,Path rs s k w->∃v,d k=some v/\v<=w
structure nQ(rs:List (hU κ))(s:κ)(ns:List κ)(d:κ->Option Int):Prop where
 start:d s=some 0
 path:∀k v,d k=some v->Path rs s k v
 eE:∀k v,d k=some v->v<9*(ns.countP λk=>(d k).isSome)
noncomputable def ok(d:κ->Option Int)(e:hU κ):Prop:=∀v,d e.a=some v->∃u,d e.b=some u/\u<=v+e.t
theorem nQ.done{rs:List (hU κ)}{s:κ}{ns:List κ}{d:κ->Option Int}(m:nQ rs s ns d)(h:∀e∈rs,ok d e):Kh rs s d:=by
 refine⟨m.path,λk w p=>?_⟩
 induction p with
 |nil=>exact⟨0,m.start,xm _⟩
 |snoc e _ he a8=>
  obtain⟨v,af,ai⟩:=a8;obtain⟨u,bR,cS⟩:=h e he v af;exact⟨u,bR,by omega⟩
noncomputable def put(d:κ->Option Int)(b:κ)(v:Int):κ->Option Int:=λk=>if k=b then some v else d k
theorem count_le{p q:κ->Bool}(h:∀k,p k=true->q k=true):∀ns:List κ,ns.countP p<=ns.countP q
 |[]=>by simp
 |k::r=>by have a8:=count_le h r;simp only[acx];have:=h k;split<;>split<;>simp_all<;>omega
theorem MK{p q:κ->Bool}(h:∀k,p k=true->q k=true){b:κ}(af:p b=false)(ai:q b=true):∀{ns:List κ},b∈ns->ns.countP p<ns.countP q
 |[],z=>by simp at z
 |k::r,z=>by
  simp only[acx];by_cases e:k=b
  .subst e;have:=count_le h r;simp[af,ai];omega
  .have a8:=MK h af ai (ns:=r) (by rcases dA.mp z with z|z;exact bE z.symm e;exact z);have:=h k;split<;>split<;>simp_all<;>omega
theorem Xa{f g:κ->Nat}(h:∀k,f k<=g k):∀ns:List κ,(ns.map f).sum<=(ns.map g).sum
 |[]=>by simp
 |k::r=>by have:=Xa h r;have:=h k;simp only[hW,acI];omega
theorem Xb{f g:κ->Nat}(h:∀k,f k<=g k){b:κ}(af:f b<g b):∀{ns:List κ},b∈ns->(ns.map f).sum<(ns.map g).sum
 |[],z=>by simp at z
 |k::r,z=>by
  simp only[hW,acI];by_cases e:k=b
  .subst e;have:=Xa h r;omega
  .have a8:=Xb h af (ns:=r) (by rcases dA.mp z with z|z;exact bE z.symm e;exact z);have:=h k;omega
noncomputable def val(n:Nat):Option Int->Nat
 |none=>n
 |some v=>v.toNat
noncomputable def bO(ns:List κ)(d:κ->Option Int):Nat:=(ns.map λk=>val (9*ns.length) (d k)).sum
theorem nQ.put{rs:List (hU κ)}{s:κ}{ns:List κ}{d:κ->Option Int}(m:nQ rs s ns d)(aR:∀e∈rs,1<=e.t/\e.t<=9){e:hU κ}(he:e∈rs)(aa:e.b∈ns){v:Int}(aK:d e.a=some v)(hs:∀u,d e.b=some u->v+e.t<u):
  nQ rs s ns (put d e.b (v+e.t))/\bO ns (dZ.put d e.b (v+e.t))<bO ns d:=by
 have bC:0<=v:=(m.path _ _ aK).nonneg λe he=>(aR e he).1;have df:=aR e he;have ap5:∀k w,dZ.put d e.b (v+e.t) k=some w->Path rs s k w:=λk w h=>by
  unfold dZ.put at h;split at h
  .rename_i q;cases h;rw[q];exact .snoc e (m.path _ _ aK) he
  .exact m.path k w h
 have hm:∀k,(d k).isSome=true->(dZ.put d e.b (v+e.t) k).isSome=true:=λk h=>by
  unfold dZ.put;split
  .rfl
  .exact h
 have eE:∀k w,dZ.put d e.b (v+e.t) k=some w->w<9*(ns.countP λk=>(dZ.put d e.b (v+e.t) k).isSome):=λk w h=>by
  have hle:=count_le hm ns;by_cases q:k=e.b
  .have h':w=v+e.t:=by unfold dZ.put at h;rw[bL q]at h;exact(hY h).symm
   have atA:=m.eE _ _ aK;cases hd:d e.b with
   |some u=>
    have:=hs u hd;have:=m.eE _ _ hd;omega
   |none=>
    have cK:ns.countP (λk=>(d k).isSome)<ns.countP λk=>(dZ.put d e.b (v+e.t) k).isSome:=MK hm (b:=e.b) (by rw[hd];rfl) (by unfold dZ.put;rw[bL rfl];rfl) aa;omega
  .have h':d k=some w:=by
    unfold dZ.put at h
    rwa [bF q]at h
   have:=m.eE k w h';omega
 refine⟨⟨?_,ap5,eE⟩,?_⟩
 .unfold dZ.put;split
  .rename_i q;rw[<-q]at hs;have:=hs 0 m.start;omega
  .exact m.start
 .have ax:ns.countP (λk=>(dZ.put d e.b (v+e.t) k).isSome)<=ns.length:=acy;have aS:=eE e.b (v+e.t) (by unfold dZ.put;rw[bL rfl]);have lt:val (9*ns.length) (dZ.put d e.b (v+e.t) e.b)<val (9*ns.length) (d e.b):=by
   have aE:dZ.put d e.b (v+e.t) e.b=some (v+e.t):=by unfold dZ.put;rw[bL rfl]
   have hz:((v+e.t).toNat:Int)=v+e.t:=ur (by omega);rw[aE];cases hd:d e.b with
   |some u=>
    have:=hs u hd;show(v+e.t).toNat < u.toNat
    omega
   |none=>
    show(v+e.t).toNat < 9*ns.length;omega
  refine Xb (λk=>?_) (b:=e.b) lt aa;by_cases q:k=e.b
  .subst q;exact nS lt
  .have aB:dZ.put d e.b (v+e.t) k=d k:=by unfold dZ.put;rw[bF q]
   rw[aB];exact cj _
theorem nQ.begin{rs:List (hU κ)}{s:κ}{ns:List κ}(hs:s∈ns):nQ rs s ns (λk=>if k=s then some 0 else none):=by
 refine⟨by simp,λk v h=>?_,λk v h=>?_⟩
 .split at h
  .rename_i q;cases h;rw[q];exact .nil
  .cases h
 .split at h
  .cases h;have:0<ns.countP λk=>((if k=s then some (0:Int)else none).isSome):=acz.mpr ⟨s,hs,by simp⟩;omega
  .cases h
structure FZ(rs:List (hU κ))(f:κ->Option Int)(g:κ):Prop where
 path:∀k v,f k=some v->Path rs k g v
 least:∀k w,Path rs k g w->∃v,f k=some v/\v<=w
section
variable{rs:List (hU κ)}{f:κ->Option Int}{g:κ}(F:FZ rs f g)(aR:∀e∈rs,1<=e.t)
include F
theorem FZ.back{e:hU κ}(he:e∈rs){u:Int}(h:f e.b=some u):∃v,f e.a=some v/\v<=u+e.t:=by obtain⟨v,af,ai⟩:=F.least _ _ (Path.cons e he (F.path _ _ h));exact⟨v,af,by omega⟩
include aR in
theorem FZ.other{k:κ}{v:Int}(aX:k≠g)(h:f k=some v):1<=v/\∃e∈rs,∃u,e.a=k/\f e.b=some u/\v=u+e.t:=by
 rcases(F.path _ _ h).first with⟨e,_⟩|⟨e,he,u,rfl,p,rfl⟩
 .exact bE e aX
 .have af:=p.nonneg aR;have ai:=aR e he;obtain⟨u',bR,cS⟩:=F.least _ _ p;obtain⟨r7,dX,kg⟩:=F.back he bR;rw[h]at dX;cases dX;exact⟨by omega,e,he,u',rfl,bR,by omega⟩
end
theorem Path.min{rs:List (hU κ)}(aR:∀e∈rs,1<=e.t){s g:κ}:∀(n:Nat)(w:Int),w.toNat=n->Path rs s g w->∃v,Path rs s g v/\(∀u,Path rs s g u->v<=u):=by
 intro n
 induction n using Nat.strongRecOn with
 |_ n a8=>
  intro w hw p;by_cases h:∃u,Path rs s g u/\u<w
  .obtain⟨u,pu,b8⟩:=h;have af:=pu.nonneg aR;exact a8 u.toNat (by omega) u rfl pu
  .refine⟨w,p,λu pu=>?_⟩;by_cases q:w<=u
   .exact q
   .exact bE ⟨u,pu,by omega⟩ h
open Classical in
noncomputable def dist(rs:List (hU κ))(s g:κ):Option Int:=if h:∃v,Path rs s g v/\∀u,Path rs s g u->v<=u then some (aaa h)else none
theorem amh{rs:List (hU κ)}{s:κ}{d:κ->Option Int}(L:Kh rs s d)(g:κ):d g=dist rs s g:=by
 unfold dist;cases hd:d g with
 |some v=>
  have p:=L.path g v hd;have HH:∀u,Path rs s g u->v<=u:=λu pu=>by obtain⟨r7,af,ai⟩:=L.least g u pu;rw[hd]at af;cases af;exact ai
  have h:∃v,Path rs s g v/\∀u,Path rs s g u->v<=u:=⟨v,p,HH⟩
  rw[dif_pos h];have c:=JA h;congr 1;have a:=HH _ c.1;have b:=c.2 _ p;omega
 |none=>
  have h:¬∃v,Path rs s g v/\∀u,Path rs s g u->v<=u:=λ⟨v,p,_⟩=>by obtain⟨r7,af,_⟩:=L.least g v p;rw[hd]at af;cases af
  rw[dif_neg h]
theorem Za{rs:List (hU κ)}(aR:∀e∈rs,1<=e.t)(g:κ):FZ rs (λk=>dist rs k g) g:=by
 refine⟨λk v h=>?_,λk w p=>?_⟩
 .unfold dist at h;split at h
  .rename_i q;cases h;exact(JA q).1
  .cases h
 .have q:=p.min aR _ _ rfl;show∃v,dist rs k g=some v/\v<=w;unfold dist;rw[dif_pos q];exact⟨_,rfl,(JA q).2 _ p⟩
end dZ
namespace dY
open PySem ao cQ dp
noncomputable def dS(hs:br)(d:dp.gm):dZ.hU Str:=⟨S (hs.getD d.a []),S (hs.getD d.b []),d.t⟩
noncomputable def jN(hs:br)(ds:bZ):List (dZ.hU Str):=ds.map (dS hs)
structure Tab(kvs:List (a7×ao.V))(D:lP):Prop where
 at_:∀k:Str,ck kvs (fx k:a7)=(D k).map V.int
 g4:∀cc∈kvs,∃k:Str,cc.1=(fx k:a7)
theorem afJ{kvs:List (a7×ao.V)}(h:∀cc∈kvs,∃k:Str,cc.1=(fx k:a7))(b:Str)(v:ao.V):∀cc∈eo kvs (fx b:a7) v,∃k:Str,cc.1=(fx k:a7):=by
 intro cc aX;unfold eo at aX;split at aX
 .obtain⟨q,aT,e⟩:=cn.mp aX;obtain⟨k,en⟩:=h q aT;split at e
  .exact⟨k,by rw[<-e];exact en⟩
  .exact⟨k,by rw[<-e];exact en⟩
 .rcases hX.mp aX with z|z
  .exact h cc z
  .exact⟨b,by rw[iW.mp z]⟩
theorem Tab.put{kvs:List (a7×ao.V)}{D:lP}(T:Tab kvs D)(b:Str)(v:Int):Tab (eo kvs (fx b:a7) (.int v)) (dZ.put D b v):=⟨λk=>by
 rw[DC];unfold dZ.put;by_cases h:k=b
 .rw[bL h,bL (hh fx h)];rfl
 .rw[bF h,bF λz=>h (K1 z)];exact T.at_ k,afJ T.g4 b _⟩
theorem UN{κ:Type}[DecidableEq κ]{kvs:List (κ×ao.V)}{k:κ}{u:ao.V}(v:ao.V)(h:ck kvs k=some u):(eo kvs k v).length=kvs.length:=by unfold eo;rw[bL (by rw[n8,h];rfl),bp]
noncomputable def wa(D:lP)(e:dZ.hU Str):Bool:=match D e.a with
 |none=>false
 |some v=>match D e.b with
  |none=>true
  |some u=>decide (v+e.t<u)
theorem asd{D:lP}{e:dZ.hU Str}(h:wa D e=true):∃v,D e.a=some v/\∀u,D e.b=some u->v+e.t<u:=by
 unfold wa at h;cases aK:D e.a with
 |none=>rw[aK]at h;cases h
 |some v=>
  rw[aK]at h;refine⟨v,rfl,λu b8=>?_⟩;rw[b8]at h;exact jk h
theorem aru{D:lP}{e:dZ.hU Str}(h:wa D e=false):dZ.ok D e:=by
 intro v aK;unfold wa at h;rw[aK]at h;cases aa:D e.b with
 |none=>rw[aa]at h;cases h
 |some u=>
  rw[aa]at h;exact⟨u,rfl,by have:=of_decide_eq_false h;omega⟩
inductive adq(vs:aY)(H:ae)(Q:a')(bI:b2):Prop where
 |mk (r f:Addr) (hs:br) (d:dp.gm) (kvs:List (a7×ao.V)) (D:lP) (bV:vs=[.ref r,.ref f]) (bD:H r=some (.tup (lB hs d))) (b_:H f=some (.bX kvs)) (c_:Tab kvs D) (d1:Q (.aM (wa D (dS hs d))) H)
noncomputable def Us:cG:=λvs H Q bI=>adq vs H Q bI
inductive ads(K:aU)(vs:aY)(H:ae)(Q:a')(bI:b2):Prop where
 |mk (b:Addr) (hs:br) (rs:bS) (ds:bZ) (h:Str) (bV:vs=[.ref b,.str h]) (bD:aG K H b (aH rs)) (b_:iJ H hs rs ds) (c_:hs.length<=12) (d1:h∈hs.map S) (fw:∀(p:Addr)(H':ae)(kvs:List (a7×ao.V))(D:lP),H p=none->aN H H'->H' p=some (.bX kvs)->Tab kvs D->dZ.Kh (jN hs ds) h D->Q (.ref p) H')
noncomputable def Ut(K:aU):cG:=λvs H Q bI=>ads K vs H Q bI
section
variable{P:bJ}{w:bq}{K:aU}{mg:cB}{base:Heap}
noncomputable abbrev EK:Stmt:=top 34
noncomputable abbrev EL:Stmt:=top 35
theorem afK:dw ["road","found"] ["road","found"] (c3 EK):=⟨rfl,rfl,rfl,by decide+kernel,rfl,by decide+kernel,by decide+kernel⟩
theorem yV:dw ["roads","house","found","changed","road"] ["roads","house"] (c3 EL):=⟨rfl,rfl,rfl,by decide+kernel,rfl,by decide+kernel,by decide+kernel⟩
theorem adt{f:Addr}{fd:cz}(F:bw K "is_shorter_by" "is_shorter_by" EK f fd):aL P w K mg base a5 1 f fd ["road","found"] Us:=by
 refine F.ok afK (λvs H Q E h=>?_) (λcdv A outer s H vs Q E aq h=>?_)
 .obtain⟨r,rq,hs,d,kvs,D,rfl,_⟩:=h;rfl
 .obtain⟨r,rq,hs,d,kvs,D,rfl,cO,hf,T,q⟩:=h;refine⟨_,(bc (eO (JL (H_ (iM aq) (cp e5 (U 0) aW (λ_ _=>rfl)) (U 1))) (bo (c7 hL)) fi)
   (bo (c7 (ahL (age (H_ (iM aq) (cp e5 (U 0) aW (λ_ _=>rfl)) (U 1))) (mH (iZ pw (bH h4 (tp (iM aq) (U 1) (cp e5 (U 0) aW (λ_ _=>rfl)) (λ_ _=>rfl)) (cp e5 (U 0) aW (λ_ _=>rfl))) (tp (iM aq) (U 1) (cp e5 (U 0) aW (λ_ _=>rfl)) (λ_ _=>rfl)) (dr _))))))),?_⟩
  have gB:=T.at_ (S (hs.getD d.a []));have pF:=T.at_ (S (hs.getD d.b []));have ga:=iR.k (k:=fx (S (hs.getD d.a []))) hf;have ve:=iR.k (k:=fx (S (hs.getD d.b []))) hf;rw[gB]at ga;rw[pF]at ve;unfold wa at q;have au:(dS hs d).a=S (hs.getD d.a []):=rfl;have ea:(dS hs d).b=S (hs.getD d.b []):=rfl;rw[au,ea]at q;refine⟨_,rfl,r,_,_,_,rfl,rfl,cH.of cO,rfl,_,rfl,rq,_,rfl,ga,_,rfl,?_⟩;cases aK:D (S (hs.getD d.a []))with
  |none=>
   rw[aK]at q;exact hP q
  |some v=>
   rw[aK]at q ga;refine gs ?_;refine⟨_,rfl,r,_,_,_,rfl,rfl,cH.of cO,rfl,_,rfl,rq,_,rfl,ve,_,rfl,?_⟩;cases aa:D (S (hs.getD d.b []))with
   |none=>
    rw[aa]at q;exact hP q
   |some u=>
    rw[aa]at q ve;refine gs ?_;exact⟨_,rfl,_,rfl,r,_,_,_,rfl,rfl,cH.of cO,rfl,rq,_,rfl,ga,_,rfl,r,_,_,_,rfl,rfl,cH.of cO,rfl,_,_,rfl,rfl,_,rfl,_,rfl,r,_,_,_,rfl,rfl,cH.of cO,rfl,rq,_,rfl,ve,_,_,rfl,rfl,q⟩
inductive aja(b p:Addr)(h':Str)(hs:br)(ds:bZ)(H:ae)(m:Nat)(σ:ao.St)(b3:ae):Prop where
 |mk (kvs:List (a7×ao.V)) (D:lP) (ch:Bool) (I_:lO) (bV:σ=[some (.ref b),some (.str h'),some (.ref p),some (.aM ch),I_]) (bD:aN H b3) (b_:b3 p=some (.bX kvs)) (c_:Tab kvs D) (d1:kvs.length<=(hs.map S).countP (λk=>(D k).isSome)) (fw:dZ.nQ (jN hs ds) h' (hs.map S) D) (iE:ch=false->∀e∈jN hs ds,dZ.ok D e) (k4:m=2*dZ.bO (hs.map S) D+(if ch=true then 1 else 0))
inductive ajb(b p:Addr)(h':Str)(hs:br)(ds:bZ)(H:ae)(D:lP)(i:Nat)(σ:ao.St)(fh:ae):Prop where
 |mk (i5:List (a7×ao.V)) (cA:lP) (mw:Bool) (r8:lO) (bV:σ=[some (.ref b),some (.str h'),some (.ref p),some (.aM mw),r8]) (bD:aN H fh) (b_:fh p=some (.bX i5)) (c_:Tab i5 cA) (d1:i5.length<=(hs.map S).countP (λk=>(cA k).isSome)) (fw:dZ.nQ (jN hs ds) h' (hs.map S) cA) (iE:(mw=false/\cA=D/\∀j d,j<i->ds[j]?=some d->dZ.ok cA (dS hs d))\/(mw=true/\dZ.bO (hs.map S) cA<dZ.bO (hs.map S) D))
theorem adu{f fs:Addr}{fd Zl:cz}(F:bw K "least_turns_from" "least_turns_from" EL f fd)(BW:dJ K mg "is_shorter_by" EK ["road","found"] fs Zl)(Pp:aL P w K mg base a5 1 fs Zl ["road","found"] Us):
  aL P w K mg base a5 2 f fd ["roads","house"] (Ut K):=by
 refine F.ok yV (λvs H Q E h=>?_) (λcdv A outer s H vs Q E aq h=>?_)
 .obtain⟨b,hs,rs,ds,h',rfl,_⟩:=h;rfl
 .obtain⟨b,hs,rs,ds,h',rfl,aa,cO,eE,hm,q⟩:=h;refine⟨_,(bc (c8 (i:=2) yV.aJ rfl (b5 rfl) (ae3 (aca (U 1) aW ae2) rfl rfl (by intro z;cases z) (by decide)))
   (bc (c8 (i:=3) yV.aJ rfl (b5 rfl) hL)
   (bc (abn kz (iK (U 3))
    (bc (c8 (i:=3) yV.aJ rfl (b5 rfl) hL)
   (bo (kd kz rfl (jL (U 0)) (ei (i:=4) yV.aJ rfl (b5 rfl))
    (bo (eO (iK (fj Pp (aq.mono (by decide)) (by rfl) BW.at_ BW.fn.bQ BW.bd .nil dj (ak (U 4) (ak (U 2) aD)))) (bc (yT (iM aq) (U 2) (cp e5 (U 4) aW (λ_ _=>rfl)) (bH h4 (tp (iM aq) (U 2) (cp e5 (U 4) aW (λ_ _=>rfl)) (λ_ _=>rfl)) (cp e5 (U 4) aW (λ_ _=>rfl))) rfl)
   (bo (c8 (i:=3) yV.aJ rfl (b5 rfl) hL))) fi))))))
   (bo (c7 (U 2)))))),?_⟩
  have anx:∀e∈jN hs ds,1<=e.t/\e.t<=9:=λe he=>by obtain⟨d,hd,rfl⟩:=cn.mp he;exact(cO.ok d hd).t
  refineλp aR=>⟨_,rfl,aQ,[(fx h',.int 0)],rfl,(by show 1<=15;decide),?_⟩
  have cT:upd (upd H p (.bX [])) p (.bX (ze [] [((fx h':a7),V.int 0)]))=upd H p (.bX [((fx h':a7),V.int 0)]):=by rw[VE];rfl
  rw[cT];have s0:aN H (upd H p (.bX [((fx h':a7),V.int 0)])):=bU aR;have T0:Tab [((fx h':a7),V.int 0)] (λk=>if k=h' then some 0 else none):=⟨λk=>by
   by_cases z:k=h'
   .rw[lU (hh fx z.symm),bL z];rfl
   .rw[lg λy=>z (K1 y).symm,bF z];rfl,λcc aX=>⟨h',by rw[iW.mp aX]⟩⟩
  have m0:dZ.nQ (jN hs ds) h' (hs.map S) (λk=>if k=h' then some 0 else none):=dZ.nQ.begin hm;have uW:0<(hs.map S).countP λk=>((if k=h' then some (0:Int)else none).isSome):=acz.mpr ⟨h',hm,by simp⟩;refine⟨aja b p h' hs ds H,
   ⟨_,_,_,true,none,rfl,s0,aQ,T0,uW,m0,λz=>(nomatch z),rfl⟩,?_⟩
  rintro m σ b3 ⟨kvs,D,ch,I_,rfl,aF,aX,T,len,mid,a_,rfl⟩;refine⟨_,rfl,_,rfl,?_⟩;cases ch with
  |false=>exact gs ⟨_,rfl,q p b3 kvs D aR aF aX T (mid.done (a_ rfl))⟩
  |true=>
   refine hP ⟨λa3 fh=>∃(i5:List (a7×ao.V))(cA:lP)(mw:Bool)(r8:lO),a3=[some (.ref b),some (.str h'),some (.ref p),some (.aM mw),r8]/\aN H fh/\fh p=some (.bX i5)/\Tab i5 cA/\
    i5.length<=(hs.map S).countP (λk=>(cA k).isSome)/\dZ.nQ (jN hs ds) h' (hs.map S) cA/\((mw=false/\cA=D/\∀e∈jN hs ds,dZ.ok cA e)\/(mw=true/\dZ.bO (hs.map S) cA<dZ.bO (hs.map S) D)),?_,?_⟩
   .rintro a3 fh ⟨i5,cA,mw,r8,rfl,oD,qn,nW,Dw,yF,jT⟩;refine⟨_,?_,i5,cA,mw,r8,rfl,oD,qn,nW,Dw,yF,?_,rfl⟩
    .rcases jT with⟨rfl,rfl,_⟩|⟨rfl,cK⟩
     .simp
     .simp;omega
    .rintro rfl;rcases jT with⟨_,_,aZ⟩|⟨z,_⟩
     .exact aZ
     .cases z
   .refine⟨_,rfl,b,rfl,⟨_,aF.seq aa⟩,?_⟩;refine qd (xs:=aH rs) (ajb b p h' hs ds H D)
     ⟨kvs,D,false,I_,rfl,aF,aX,T,len,mid,.inl ⟨rfl,rfl,λj d bK _=>bE bK (Kz _)⟩⟩ ?_ ?_ ?_
    .rintro i a3 fh ar ⟨i5,cA,mw,r8,rfl,oD,_⟩;exact oD.seq aa
    .rintro i z a3 fh dx ⟨i5,cA,mw,r8,rfl,oD,qn,nW,Dw,yF,jT⟩;unfold aH at dx;rw[c6]at dx;obtain⟨r,gb,rfl⟩:=fL.mp dx;obtain⟨d,Bz,rP,hd⟩:=cO.get gb;have G5:dS hs d∈jN hs ds:=cn.mpr ⟨d,eK Bz,rfl⟩;refine⟨_,rfl,_,rfl,r,p,hs,d,i5,cA,rfl,oD _ _ hd,qn,nW,_,rfl,?_⟩;cases n':wa cA (dS hs d)with
     |false=>
      refine gs ⟨i5,cA,mw,_,rfl,oD,qn,nW,Dw,yF,?_⟩;rcases jT with⟨rfl,rfl,aZ⟩|jT
      .refine .inl ⟨rfl,rfl,λj d' bK e1=>?_⟩;by_cases N4:j=i
       .subst N4;rw[Bz]at e1;cases e1;exact aru n'
       .exact aZ j d' (by omega) e1
      .exact .inr jT
     |true=>
      obtain⟨v,aK,vu⟩:=asd n';have tc:cA (S (hs.getD d.a []))=some v:=aK;obtain⟨aoX,cK⟩:=yF.put anx G5 (y5 rP.b) aK vu;have ga:=iR.k (k:=fx (S (hs.getD d.a []))) qn;rw[nW.at_,tc]at ga;have vm:(hs.map S).countP (λk=>(cA k).isSome)<=(hs.map S).length:=acy;rw[bp]at vm;have Om:=oD _ _ hd;refine hP ?_;refine⟨_,rfl,_,rfl,r,_,_,_,rfl,rfl,cH.of Om,rfl,p,_,rfl,ga,_,rfl,r,_,_,_,rfl,rfl,cH.of Om,rfl,_,_,rfl,rfl,_,rfl,_,rfl,r,_,_,_,rfl,rfl,cH.of Om,rfl,p,_,rfl,oI.k (k:=fx (S (hs.getD d.b []))) qn (eM (by omega)),?_⟩;refine⟨_,dZ.put cA (dS hs d).b (v+(dS hs d).t),true,_,rfl,kc aR oD,aQ,nW.put _ _,?_,aoX,.inr ⟨rfl,?_⟩⟩
      .cases de:cA (S (hs.getD d.b []))with
       |none=>
        have aE:(eo i5 (fx (S (hs.getD d.b [])):a7) (V.int (v+d.t))).length=i5.length+1:=by rw[yB _ (by rw[nW.at_,de];rfl),ig];rfl
        have aB:(hs.map S).countP (λk=>(cA k).isSome)<(hs.map S).countP (λk=>(dZ.put cA (dS hs d).b (v+(dS hs d).t) k).isSome):=
         dZ.MK (b:=S (hs.getD d.b [])) (λk aX=>by unfold dZ.put;split;rfl;exact aX) (by rw[de];rfl) (by unfold dZ.put;rw[bL (show S (hs.getD d.b [])=(dS hs d).b from rfl)];rfl) (y5 rP.b)
        exact e3 (Kw aE) (by omega)
       |some u=>
        have aE:(eo i5 (fx (S (hs.getD d.b [])):a7) (V.int (v+d.t))).length=i5.length:=UN _ (by rw[nW.at_,de];rfl);have aB:(hs.map S).countP (λk=>(cA k).isSome)<=(hs.map S).countP (λk=>(dZ.put cA (dS hs d).b (v+(dS hs d).t) k).isSome):=
         dZ.count_le (λk aX=>by unfold dZ.put;split;rfl;exact aX) _
        exact e3 (Kw aE) (by omega)
      .rcases jT with⟨_,rfl,_⟩|⟨_,ai⟩
       .exact cK
       .exact Ky cK ai
    .rintro a3 fh ⟨i5,cA,mw,r8,rfl,oD,qn,nW,Dw,yF,jT⟩;refine⟨i5,cA,mw,r8,rfl,oD,qn,nW,Dw,yF,?_⟩;rcases jT with⟨rfl,rfl,aZ⟩|jT
     .refine .inl ⟨rfl,rfl,λe he=>?_⟩;obtain⟨d,hd,rfl⟩:=cn.mp he;obtain⟨j,bK⟩:=AE hd;refine aZ j d ?_ bK;have af:=(eG.mp bK).1;have ai:=cO.len;rw[eB];omega
     .exact .inr jT
end
end dY
namespace cQ
open PySem PySem.Spec PyProof.Rows ao
section
variable{X:bb}
noncomputable def ajc(ts:eY):eY:=λD σ H=>∃a kvs,H a=some (.bX kvs)/\∀o,ts ⟨λa3 H'=>H' a=some (.eF o (.bX kvs))/\D.b9 a3 (upd H' a (.bX kvs)),λv H'=>H' a=some (.eF o (.bX kvs))/\D.l7 v (upd H' a (.bX kvs)),λa3 H'=>H' a=some (.eF o (.bX kvs))/\D.gq a3 (upd H' a (.bX kvs)),λa3 H'=>H' a=some (.eF o (.bX kvs))/\D.e0 a3 (upd H' a (.bX kvs))⟩ σ (upd H a (.eF o (.bX kvs)))
theorem ag7{st:Stmt}{ts:eY}(hs:fN X st ts):fN X st (ajc ts):=by
 intro pins s σ H D I h;obtain⟨a,kvs,aK,h⟩:=h;have f1:∀xs,X.me a≠some (.tup xs):=λxs z=>by have:=I.base.hv a xs z;rw[aK]at this;cases this
 have f2:∀o v,X.me a≠some (.eF o v):=λo v z=>by have:=I.base.iN a o v z;rw[aK]at this;cases this
 have cv:∀ps,X.me a≠some (.pI ps):=λps z=>by obtain⟨m,e⟩:=I.base.i_ a ps z;rw[aK]at e;cases e
 have ok:=I.a_ a _ aK;obtain⟨z,y,vs,rel,o,es,ep,e,c⟩:=id ok;have aP:Inv X pins σ (upd H a (.eF o (.bX kvs))) s:=Ju I aK (by intro _ w;cases w) (by intro _ w;cases w) ⟨e,z,y,vs,rel,o,es,ep,e,c⟩ f1 f2 cv;have back:∀{a3:ao.St}{H':ae}{s':aC},Inv X pins a3 H' s'->H' a=some (.eF o (.bX kvs))->Inv X pins a3 (upd H' a (.bX kvs)) s':=λ{a3 H' s'}bA mD=>by obtain⟨aE,bV,oP,arn,aqi,hj,M5,M1,aB,c1⟩:=bA.a_ a _ mD;exact Ju bA (u':=.bX kvs) mD (by intro _ w;cases w) (by intro _ w;cases w) ⟨bV,oP,arn,aqi,hj,M5,M1,aB,c1⟩ f1 f2 cv
 refine bB (hs pins s σ _ _ aP (h o)) λf s1 q=>?_;cases f with
 |next=>
  obtain⟨a3,H',bA,mD,q⟩:=q;exact⟨a3,_,back bA mD,q⟩
 |brk=>
  obtain⟨a3,H',bA,mD,q⟩:=q;exact⟨a3,_,back bA mD,q⟩
 |cont=>
  obtain⟨a3,H',bA,mD,q⟩:=q;exact⟨a3,_,back bA mD,q⟩
 |ret v=>
  obtain⟨a3,x,H',bA,b7,mD,q⟩:=q;exact⟨a3,x,_,back bA mD,b7,q⟩
noncomputable def AR(a:Addr)(o:Obj)(kvs:List (a7×V)):fT:=
 ⟨λi H=>H a=some (.eF o (.bX kvs))/\i<kvs.length,λi H v H'=>H'=H/\∃k x,v=dg k/\kvs[i]?=some (k,x),λi H=>H a=some (.eF o (.bX kvs))/\kvs.length<=i⟩
theorem Uu{P:bJ}{w:bq}{H:ae}{h:Heap}{a:Addr}{o:Obj}{kvs:List (a7×V)}(ok:fg P w H h)(aK:H a=some (.eF o (.bX kvs))):h.get? a=some o/\(a==kY)=false/\o.ExactDict/\∃es ep,o.data=.dict es ep/\es.size=kvs.length/\
  ∀(i:Nat)(k:a7)(x:V),kvs[i]?=some (k,x)->∃ar:i<es.size,RelV (dg k) es[i].key:=by
 obtain⟨cT,_,y,vs,rel,cC,es,ep,aE,av,hd,_,pr,_⟩:=ok a _ aK;rw[cT]at aE;cases aE;have gen:∀{kvs:List (a7×V)}{ys:List (a7×Value)}{hI:List oR},gy kvs ys->Pairs (f' P w) hI ys->hI.length=kvs.length/\∀(i:Nat)(k:a7)(x:V),kvs[i]?=some (k,x)->∃e,hI[i]?=some e/\RelV (dg k) e.key:=by
  intro kvs ys hI rel pr
  induction pr generalizing kvs with
  |nil=>
   cases rel;exact⟨rfl,λi k x e=>by simp at e⟩
  |@cons e cc hI ys af ai t a8=>
   cases rel with
   |@cons p q ps dM a b=>
    obtain⟨l,f⟩:=a8 b;refine⟨by rw[mj,mj,l],λi k x el=>?_⟩;cases i with
    |zero=>
     simp only[Kl,KO]at el;refine⟨e,rfl,?_⟩;have aE:cc.1=k:=by rw[<-a.1,el]
     rw[aE]at af;rcases p_ (show wq k e.key=true from af)with⟨n,t,rfl,en⟩|⟨n,t,rfl,en⟩
     .exact⟨t,en⟩
     .exact⟨t,en⟩
    |succ i=>exact f i k x (by simpa using el)
 obtain⟨l,f⟩:=gen rel pr;refine⟨cT,y,av,es,ep,hd,by simpa using l,λi k x ar=>?_⟩;obtain⟨e,pb,r⟩:=f i k x ar;obtain⟨af,ai⟩:=eG.mp pb;have yd:i<es.size:=by simpa using af
 refine⟨yd,?_⟩;have:es[i]=e:=by simpa using ai
 rw[this];exact r
end
theorem aaP{P:bJ}{w:bq}{K:aU}{dv:Expr}{o:Obj}{kvs:List (a7×V)}{es:Array oR}{ep:Nat}(a it:Addr)(hd:o.data=.dict es ep):
  Turn P w K dv (AR a o kvs) [it] it (λi h=>h.IsKeyIter it a i es.size ep)where
 mem:=by simp
 obj:=λi h st b aa=>by
  obtain rfl:b=it:=by simpa using aa
  obtain⟨o,e,c,d⟩:=st;exact⟨o,e,λv z=>by rw[d]at z;cases z⟩
 keep:=λi h h' st k=>by obtain⟨o,e,r⟩:=st;exact⟨o,k it (by simp) o e,r⟩
 item:=by
  intro X gu hw fY ax i pins s σ H E I hf st bP;subst gu hw fY;obtain⟨aK,ar⟩:=bP;obtain⟨go,_,cR,pd,m_,kf,b6,ge⟩:=Uu I.a_ aK;rw[hd]at kf;cases kf;obtain⟨i6,u5⟩:∃q,kvs[i]?=some q:=⟨_,dn ar⟩
  obtain⟨tf,tT⟩:=ge i i6.1 i6.2 u5;obtain⟨f0,f1,f2,cv,f4,fl⟩:=hf it (by simp);refine W0 st ⟨o,go,cR,hd⟩ tf λh' fJ b'=>?_;have aP:Inv X pins σ H {s with heap:=h'}:=I.turned (t':=s.toks) (λb o aa e=>(b'.2 b aa).trans e) f0 f1 cv f4 fl;obtain⟨å,e,c,d⟩:=id fJ;exact⟨_,rfl,zm (s:={s with heap:=h'}) e c d (by decide) ⟨dg i6.1,H,aP,tT,⟨rfl,i6.1,i6.2,rfl,u5⟩,fJ,λb aa=>(hf b aa).1⟩⟩
 done:=by intro X gu hw fY ax i pins s σ H E I hf st bP;subst gu hw fY;obtain⟨aK,ar⟩:=bP;obtain⟨go,_,cR,pd,m_,kf,b6,ge⟩:=Uu I.a_ aK;rw[hd]at kf;cases kf;obtain⟨f0,f1,f2,cv,f4,fl⟩:=hf it (by simp);exact VD (I.ok.hd ax) st ⟨o,go,cR,hd⟩ (by omega) λh' ea=>⟨rfl,I.turned (t':=s.toks) (λb o aa e=>ea b o aa e) f0 f1 cv f4 fl⟩
 self:=λA i s Q E st h=>by have T0:=st.typeIs;refine Ķ T0 F.slot_dict_keyiterator_iter (q4 F.slot_dict_keyiterator_iter T0 F.entry_dict_keyiterator_iter ?_ (F.args_dict_keyiterator_iter_1 _));exact bf ⟨_,rfl,"dict_keyiterator",_,T0,F.slot_dict_keyiterator_next.lookup,h⟩
section
variable{X:bb}{dv:Expr}
noncomputable def ag8(bY:TE):TI:=λσ H R=>bY σ H λx H1=>∃a o kvs,x=.ref a/\H1 a=some (.eF o (.bX kvs))/\R (AR a o kvs) H1
theorem adv{o:Expr}{bY:TE}(aZ:bh X o bY):nU X dv o (ag8 bY):=by
 intro pins s σ H R I h;refine bB (aZ pins s σ H _ I h) λv s1⟨x,H1,aP,cg,a,ob,kvs,ex,aK,bM⟩=>?_;subst ex;cases cg;obtain⟨go,Nk,cR,es,ep,kf,b6,ge⟩:=Uu aP.a_ aK;refine Vs Nk ⟨ob,go,cR,kf⟩ ?_;refine⟨s1.heap.objs.size,[s1.heap.objs.size],_,_,H1,rfl,aP.kept (t':=s1.toks) λb o e=>dG _ e,aaP a _ kf,⟨_,gi _ rfl,rfl,rfl⟩,λb aa=>?_,bM⟩;obtain rfl:b=s1.heap.objs.size:=by simpa using aa
 exact aP.rr (cj _) (aP.a_.fresh (cj _))
theorem abY{a:Addr}{o:Obj}{kvs:List (a7×V)}{g:jo}{c9:eY}{D:Ends}{σ:ao.St}{H:ae}(Pv:Nat->ao.St->ae->Prop)(h0:Pv 0 σ H)(aj:∀i σ H,Pv i σ H->H a=some (.eF o (.bX kvs)))(hs:∀i k x σ H,kvs[i]?=some (k,x)->Pv i σ H->g (dg k) σ H λet ah=>c9 {D with b9:=Pv (i+1),e0:=Pv (i+1),gq:=D.b9} et ah)(hd:∀σ H,Pv kvs.length σ H->D.b9 σ H):
  ∃W:Nat->Nat->ao.St->ae->Prop,(∃m,W 0 m σ H)/\∀i m σ H,W i m σ H->
   ((AR a o kvs).stop i H/\D.b9 σ H)\/((AR a o kvs).go i H/\∃N:ao.St->ae->Prop,(∀a3 H',N a3 H'->∃cP,cP<m/\W (i+1) cP a3 H')/\∀x H',(AR a o kvs).nI i H x H'->g x σ H' λet ah=>c9 {D with b9:=N,e0:=N,gq:=D.b9} et ah):=by
 refine⟨λi m σ H=>m=kvs.length-i/\i<=kvs.length/\Pv i σ H,⟨kvs.length,by simp,e4 _,h0⟩,?_⟩;rintro i m σ H ⟨rfl,ar,p⟩;have q:=aj i σ H p;by_cases cK:i<kvs.length
 .refine .inr ⟨⟨q,cK⟩,Pv (i+1),λa3 H' hu=>⟨kvs.length-(i+1),by omega,rfl,cK,hu⟩,λv H' y=>?_⟩;obtain⟨rfl,k,x,rfl,en⟩:=y;exact hs i k x σ H' en p
 .have e:i=kvs.length:=by omega
  subst e;exact .inl ⟨⟨q,cj _⟩,hd σ H p⟩
theorem gz{α β:Type}{M:k8}{A:cW}{E:cx}{s:aC}(c:Sem α){k:α->Sem β}{Q:β->aC->Prop}(h:aO M A c (λa s'=>aO M A (k a) Q E s') E s):aO M A (c >>=k) Q E s:=aw h
theorem zK{h:Heap}{b:Addr}{o:Obj}(e:h.get? b=some o):b≠h.objs.size:=eD (dD e)
theorem tN{h:Heap}{b:Addr}{o:Obj}(e:h.get? b=some o):b≠h.objs.size+1:=eD (Kx (dD e))
theorem adw{prog:bJ}{w:bq}{A:cW}{R:m3->aC->Prop}{I:Addr}{cb wr:bS}{n:Nat}{P:Nat->Value->Prop}{St:Nat->Heap->Prop}{d:Value}(W:sG prog w A.in1 I cb wr n P St)(ej:hD)(ax:CmpOf prog w A.in1 .Gt P ej)(S:Addr)(jB:S∉cb):
  ∀(k j:Nat)(s:aC)(gx:Value)(c:Nat),n-(j+1)=k->j+1<=n->St (j+1) s.heap->P (fW ej j) gx->s.heap.get? S=some ⟨.type "list",none,.seq #[gx,gx] c,#[]⟩->
   (∀v h' a4,P (fW ej (n-1)) v->(∀b o,b∉wr->b≠S->s.heap.get? b=some o->h'.get? b=some o)->R (.ok (.ret v)) {s with heap:=h',toks:=a4})->
   jJ (a6 prog w) A (.builtin "max.loop" ⟨[.ref I,.none,.ref S],[(eH "default",d)]⟩) R s:=by
 have wS:S∉wr:=λh=>jB (W.sub _ h);have nm:(toString "max"++toString ".loop":String)="max.loop":=by decide
 intro k
 induction k with
 |zero=>
  intro j s gx c aX bK st hl hM cO;have s6:j+1=n:=by omega
  refine mx Xv ?_;rw[nL xK _];refine gz (r1 (.ref S)) (r' hM rfl (gz (tryCatch (ib (.ref I)) _) (mU (W.done s _ _ (s6▸st) λh' a4 bT=>?_))));refine gz (EH S (λ_=>#[])) (t9 (bT S _ wS hM) rfl (aw (nH (bf ?_))));exact cO gx _ a4 (by rw[<-s6];exact hl) λb o dt dC e=>(jE _ _ (cL dC)).trans (bT b o dt e)
 |succ k a8=>
  intro j s gx c aX bK st hl hM cO;have lt:j+1<n:=by omega
  refine mx Xv ?_;rw[nL xK _];refine gz (r1 (.ref S)) (r' hM rfl (gz (tryCatch (ib (.ref I)) _) (mU (W.item (j+1) s _ _ lt st λv h' a4 U fJ bT=>?_))));have jy:=bT S _ wS hM;refine gz (tryCatch (lY [v,v] (ú .Gt v gx >>=_)) _) (mU (iD (aw (ax (j+1) (fW ej j) v gx _ _ _ U hl (aw (iD (oL (aw (nH (bf ?_))))))))));cases aa:ej (j+1) (fW ej j)with
  |true=>
   simp only[if_true];refine aw (t9 jy rfl (aw (nH ?_)));rw[nm];refine bf ⟨mL xK _,a8 (j+1) _ v _ (by omega) lt (W.frame _ _ _ fJ λb o' o e=>(jE _ _ (λh:S=b=>jB (by rw[h];exact o'))).trans e) (by simp only[fW,aa,if_true];exact U) (oT _ jy rfl) λv2 ai kZ kW kQ=>?_⟩;exact cO v2 ai kZ kW λb o dt dC e=>kQ b o dt dC ((jE _ _ (cL dC)).trans (bT b o dt e))
  |false=>
   simp only[ub,if_false];refine aw (nH ?_);rw[nm];exact bf ⟨mL xK _,a8 (j+1) _ gx c (by omega) lt fJ (by simp only[fW,aa,ub,if_false];exact hl) jy λv2 ai kZ kW kQ=>cO v2 ai kZ kW λb o dt dC e=>kQ b o dt dC (bT b o dt e)⟩
theorem abZ{prog:bJ}{w:bq}{A:cW}{R:m3->aC->Prop}{I:Addr}{cb wr:bS}{n:Nat}{P:Nat->Value->Prop}{St:Nat->Heap->Prop}{d:Value}(W:sG prog w A.in1 I cb wr n P St)(ej:hD)(ax:CmpOf prog w A.in1 .Gt P ej)(S:Addr)(jB:S∉cb){s:aC}{c:Nat}(st:St 0 s.heap)(hM:s.heap.get? S=some ⟨.type "list",none,.seq #[] c,#[]⟩)(h0:n=0->∀h' a4,(∀b o,b∉wr->b≠S->s.heap.get? b=some o->h'.get? b=some o)->R (.ok (.ret d)) {s with heap:=h',toks:=a4})(af:0<n->∀v h' a4,P (fW ej (n-1)) v->(∀b o,b∉wr->b≠S->s.heap.get? b=some o->h'.get? b=some o)->R (.ok (.ret v)) {s with heap:=h',toks:=a4}):
  jJ (a6 prog w) A (.builtin "max.loop" ⟨[.ref I,.none,.ref S],[(eH "default",d)]⟩) R s:=by
 have wS:S∉wr:=λh=>jB (W.sub _ h);have nm:(toString "max"++toString ".loop":String)="max.loop":=by decide
 refine mx Xv ?_;rw[nL xK _];refine gz (r1 (.ref S)) (r' hM rfl ?_);by_cases hz:n=0
 .refine gz (tryCatch (ib (.ref I)) _) (mU (W.done s _ _ (hz▸st) λh' a4 bT=>?_));refine aw (ET (bf ?_));exact h0 hz h' a4 λb o dt _ e=>bT b o dt e
 .refine gz (tryCatch (ib (.ref I)) _) (mU (W.item 0 s _ _ (AP hz) st λv h' a4 U fJ bT=>?_));have jy:=bT S _ wS hM;refine gz (EH S (λ_=>#[v,v])) (t9 jy rfl ?_);rw[nm];refine bf ⟨mL xK _,adw W ej ax S jB _ 0 _ v _ rfl (AP hz) (W.frame _ _ _ fJ λb o' o e=>(jE _ _ (λh:S=b=>jB (by rw[h];exact o'))).trans e) U (oT _ jy rfl) λv2 ai kZ kW kQ=>?_⟩;exact af (AP hz) v2 ai kZ kW λb o dt dC e=>kQ b o dt dC ((jE _ _ (cL dC)).trans (bT b o dt e))
theorem ab0(a v:Value):xU "max" ⟨[a],[(eH "default",v)]⟩:=by unfold xU;kernel_rfl
theorem adx{prog:bJ}{w:bq}{A:cW}{E:cx}{s:aC}{l:Addr}{items:ka}{val:Nat->Int}{d:Value}{Q:cx}(dy:A.in1.handled=none)(aj:s.heap.IsList l items)(bC:∀i v,items[i]?=some v->∃t,v=nX (val i) t)(h0:items.size=0->∀h' a4,(∀b o,s.heap.get? b=some o->h'.get? b=some o)->Q d {s with heap:=h',toks:=a4})(af:0<items.size->∀t h' a4,(∀b o,s.heap.get? b=some o->h'.get? b=some o)->Q (nX (val (fW (λi j=>decide (val i>val j)) (items.size-1))) t) {s with heap:=h',toks:=a4}):
  aO (a6 prog w) A (call (.builtin "max") [.ref l] [(eH "default",d)]) Q E s:=by
 have nm:(toString "max"++toString ".loop":String)="max.loop":=by decide
 obtain⟨ol,mF,_⟩:=id aj;have hO:l≠s.heap.objs.size:=eD (dD mF);refine Xu PySem.F.kind_max PySem.F.plain_max PySem.F.entry_max (ab0 _ _) ?_;refine gz (U2 "max" ["key","default"] 0 ⟨[],[(eH "default",d)]⟩) (wG (show _=pure [none,some d]from rfl) ?_);refine aw (bf ?_);refine aw (zr aj ?_);refine aw (oK ?_);rw[nm];have W:=Bd (prog:=prog) (w:=w) (A:=A.in1) dy s.heap.objs.size l hO items;have i':(s.heap.push {cls:=.type "list_iterator",data:=.fields #[.ref l,.int 0 0]}).objs.size=s.heap.objs.size+1:=xj ..;have cK:=dD mF;have s_:(s.heap.push {cls:=.type "list_iterator",data:=.fields #[.ref l,.int 0 0]}).get? s.heap.objs.size=some {cls:=.type "list_iterator",data:=.fields #[.ref l,.int 0 0]}:=gi _ rfl;have jS:=aj.push {cls:=.type "list_iterator",data:=.fields #[.ref l,.int 0 0]};have k1:∀b o,s.heap.get? b=some o->(s.heap.push {cls:=.type "list_iterator",data:=.fields #[.ref l,.int 0 0]}).get? b=some o:=λb o e=>dG _ e;dsimp only;generalize s.heap.push {cls:=.type "list_iterator",data:=.fields #[.ref l,.int 0 0]}=rB at i' s_ jS k1⊢;refine bf ⟨mL xK _,abZ W _ (CmpOf.ints_gt val bC) rB.objs.size (by rw[i'];simp only[dA,eA,or_false,not_or];exact⟨KC _,cL (tN mF)⟩) ⟨⟨_,dG _ s_,rfl,rfl⟩,jS.push _⟩ (gi _ rfl) (λhz h' a4 bT=>?_) λhz v h' a4 U bT=>?_⟩
 .exact h0 hz h' a4 λb o e=>bT b o (by simp only[dA,eA,or_false];exact zK e) (by rw[i'];exact tN e) (dG _ (k1 b o e))
 .obtain⟨f5,rfl⟩:=bC _ v U;exact af hz f5 h' a4 λb o e=>bT b o (by simp only[dA,eA,or_false];exact zK e) (by rw[i'];exact tN e) (dG _ (k1 b o e))
theorem ady{prog:bJ}{w:bq}{A:cW}{R:m3->aC->Prop}{I:Addr}{cb wr:bS}{n:Nat}{P:Nat->Value->Prop}{St:Nat->Heap->Prop}{d:Value}(W:sG prog w A.in1 I cb wr n P St)(ej:hD)(ax:CmpOf prog w A.in1 .Lt P ej)(S:Addr)(jB:S∉cb):
  ∀(k j:Nat)(s:aC)(gx:Value)(c:Nat),n-(j+1)=k->j+1<=n->St (j+1) s.heap->P (fW ej j) gx->s.heap.get? S=some ⟨.type "list",none,.seq #[gx,gx] c,#[]⟩->
   (∀v h' a4,P (fW ej (n-1)) v->(∀b o,b∉wr->b≠S->s.heap.get? b=some o->h'.get? b=some o)->R (.ok (.ret v)) {s with heap:=h',toks:=a4})->
   jJ (a6 prog w) A (.builtin "min.loop" ⟨[.ref I,.none,.ref S],[(eH "default",d)]⟩) R s:=by
 have wS:S∉wr:=λh=>jB (W.sub _ h);have nm:(toString "min"++toString ".loop":String)="min.loop":=by decide
 intro k
 induction k with
 |zero=>
  intro j s gx c aX bK st hl hM cO;have s6:j+1=n:=by omega
  refine mx AZ ?_;rw[nL m1 _];refine gz (r1 (.ref S)) (r' hM rfl (gz (tryCatch (ib (.ref I)) _) (mU (W.done s _ _ (s6▸st) λh' a4 bT=>?_))));refine gz (EH S (λ_=>#[])) (t9 (bT S _ wS hM) rfl (aw (nH (bf ?_))));exact cO gx _ a4 (by rw[<-s6];exact hl) λb o dt dC e=>(jE _ _ (cL dC)).trans (bT b o dt e)
 |succ k a8=>
  intro j s gx c aX bK st hl hM cO;have lt:j+1<n:=by omega
  refine mx AZ ?_;rw[nL m1 _];refine gz (r1 (.ref S)) (r' hM rfl (gz (tryCatch (ib (.ref I)) _) (mU (W.item (j+1) s _ _ lt st λv h' a4 U fJ bT=>?_))));have jy:=bT S _ wS hM;refine gz (tryCatch (lY [v,v] (ú .Lt v gx >>=_)) _) (mU (iD (aw (ax (j+1) (fW ej j) v gx _ _ _ U hl (aw (iD (oL (aw (nH (bf ?_))))))))));cases aa:ej (j+1) (fW ej j)with
  |true=>
   simp only[if_true];refine aw (t9 jy rfl (aw (nH ?_)));rw[nm];refine bf ⟨mL m1 _,a8 (j+1) _ v _ (by omega) lt (W.frame _ _ _ fJ λb o' o e=>(jE _ _ (λh:S=b=>jB (by rw[h];exact o'))).trans e) (by simp only[fW,aa,if_true];exact U) (oT _ jy rfl) λv2 ai kZ kW kQ=>?_⟩;exact cO v2 ai kZ kW λb o dt dC e=>kQ b o dt dC ((jE _ _ (cL dC)).trans (bT b o dt e))
  |false=>
   simp only[ub,if_false];refine aw (nH ?_);rw[nm];exact bf ⟨mL m1 _,a8 (j+1) _ gx c (by omega) lt fJ (by simp only[fW,aa,ub,if_false];exact hl) jy λv2 ai kZ kW kQ=>cO v2 ai kZ kW λb o dt dC e=>kQ b o dt dC (bT b o dt e)⟩
theorem ab1{prog:bJ}{w:bq}{A:cW}{R:m3->aC->Prop}{I:Addr}{cb wr:bS}{n:Nat}{P:Nat->Value->Prop}{St:Nat->Heap->Prop}{d:Value}(W:sG prog w A.in1 I cb wr n P St)(ej:hD)(ax:CmpOf prog w A.in1 .Lt P ej)(S:Addr)(jB:S∉cb){s:aC}{c:Nat}(st:St 0 s.heap)(hM:s.heap.get? S=some ⟨.type "list",none,.seq #[] c,#[]⟩)(h0:n=0->∀h' a4,(∀b o,b∉wr->b≠S->s.heap.get? b=some o->h'.get? b=some o)->R (.ok (.ret d)) {s with heap:=h',toks:=a4})(af:0<n->∀v h' a4,P (fW ej (n-1)) v->(∀b o,b∉wr->b≠S->s.heap.get? b=some o->h'.get? b=some o)->R (.ok (.ret v)) {s with heap:=h',toks:=a4}):
  jJ (a6 prog w) A (.builtin "min.loop" ⟨[.ref I,.none,.ref S],[(eH "default",d)]⟩) R s:=by
 have wS:S∉wr:=λh=>jB (W.sub _ h);have nm:(toString "min"++toString ".loop":String)="min.loop":=by decide
 refine mx AZ ?_;rw[nL m1 _];refine gz (r1 (.ref S)) (r' hM rfl ?_);by_cases hz:n=0
 .refine gz (tryCatch (ib (.ref I)) _) (mU (W.done s _ _ (hz▸st) λh' a4 bT=>?_));refine aw (ET (bf ?_));exact h0 hz h' a4 λb o dt _ e=>bT b o dt e
 .refine gz (tryCatch (ib (.ref I)) _) (mU (W.item 0 s _ _ (AP hz) st λv h' a4 U fJ bT=>?_));have jy:=bT S _ wS hM;refine gz (EH S (λ_=>#[v,v])) (t9 jy rfl ?_);rw[nm];refine bf ⟨mL m1 _,ady W ej ax S jB _ 0 _ v _ rfl (AP hz) (W.frame _ _ _ fJ λb o' o e=>(jE _ _ (λh:S=b=>jB (by rw[h];exact o'))).trans e) U (oT _ jy rfl) λv2 ai kZ kW kQ=>?_⟩;exact af (AP hz) v2 ai kZ kW λb o dt dC e=>kQ b o dt dC ((jE _ _ (cL dC)).trans (bT b o dt e))
theorem abp(a v:Value):xU "min" ⟨[a],[(eH "default",v)]⟩:=by unfold xU;kernel_rfl
theorem adz{prog:bJ}{w:bq}{A:cW}{E:cx}{s:aC}{l:Addr}{items:ka}{val:Nat->Int}{d:Value}{Q:cx}(dy:A.in1.handled=none)(aj:s.heap.IsList l items)(bC:∀i v,items[i]?=some v->∃t,v=nX (val i) t)(h0:items.size=0->∀h' a4,(∀b o,s.heap.get? b=some o->h'.get? b=some o)->Q d {s with heap:=h',toks:=a4})(af:0<items.size->∀t h' a4,(∀b o,s.heap.get? b=some o->h'.get? b=some o)->Q (nX (val (fW (λi j=>decide (val i<val j)) (items.size-1))) t) {s with heap:=h',toks:=a4}):
  aO (a6 prog w) A (call (.builtin "min") [.ref l] [(eH "default",d)]) Q E s:=by
 have nm:(toString "min"++toString ".loop":String)="min.loop":=by decide
 obtain⟨ol,mF,_⟩:=id aj;have hO:l≠s.heap.objs.size:=eD (dD mF);refine Xu aed aee aec (abp _ _) ?_;refine gz (U2 "min" ["key","default"] 0 ⟨[],[(eH "default",d)]⟩) (wG (show _=pure [none,some d]from rfl) ?_);refine aw (bf ?_);refine aw (zr aj ?_);refine aw (oK ?_);rw[nm];have W:=Bd (prog:=prog) (w:=w) (A:=A.in1) dy s.heap.objs.size l hO items;have i':(s.heap.push {cls:=.type "list_iterator",data:=.fields #[.ref l,.int 0 0]}).objs.size=s.heap.objs.size+1:=xj ..;have cK:=dD mF;have s_:(s.heap.push {cls:=.type "list_iterator",data:=.fields #[.ref l,.int 0 0]}).get? s.heap.objs.size=some {cls:=.type "list_iterator",data:=.fields #[.ref l,.int 0 0]}:=gi _ rfl;have jS:=aj.push {cls:=.type "list_iterator",data:=.fields #[.ref l,.int 0 0]};have k1:∀b o,s.heap.get? b=some o->(s.heap.push {cls:=.type "list_iterator",data:=.fields #[.ref l,.int 0 0]}).get? b=some o:=λb o e=>dG _ e;dsimp only;generalize s.heap.push {cls:=.type "list_iterator",data:=.fields #[.ref l,.int 0 0]}=rB at i' s_ jS k1⊢;refine bf ⟨mL m1 _,ab1 W _ (CmpOf.ints_lt val bC) rB.objs.size (by rw[i'];simp only[dA,eA,or_false,not_or];exact⟨KC _,cL (tN mF)⟩) ⟨⟨_,dG _ s_,rfl,rfl⟩,jS.push _⟩ (gi _ rfl) (λhz h' a4 bT=>?_) λhz v h' a4 U bT=>?_⟩
 .exact h0 hz h' a4 λb o e=>bT b o (by simp only[dA,eA,or_false];exact zK e) (by rw[i'];exact tN e) (dG _ (k1 b o e))
 .obtain⟨f5,rfl⟩:=bC _ v U;exact af hz f5 h' a4 λb o e=>bT b o (by simp only[dA,eA,or_false];exact zK e) (by rw[i'];exact tN e) (dG _ (k1 b o e))
noncomputable def ē(K:aU)(f:List Int->Int)(t:f7)(bY:TE):TE:=λσ H Q=>t σ H λvs H1=>rS bY Ay σ H1 λzs ah=>∃sV a ns,zs=[sV]/\vs=[.ref a]/\aG K ah a (ns.map V.int)/\(ns=[]->Q sV ah)/\(ns≠[]->Q (.int (f ns)) ah)
theorem V7{val:Nat->Int}:∀k,fW (λi j=>decide (val i>val j)) k<=k/\∀j,j<=k->val j<=val (fW (λi j=>decide (val i>val j)) k)
 |0=>⟨cj _,λj h=>by rw[adm.mp h];exact xm _⟩
 |k+1=>by
  obtain⟨a,b⟩:=V7 (val:=val) k;simp only[fW];by_cases h:val (k+1)>val (fW (λi j=>decide (val i>val j)) k)
  .rw[bL (cq h)];refine⟨cj _,λj bK=>?_⟩;rcases sy j (k+1)with af|af
   .exact abd (b j (by omega)) (abc h)
   .rw[show j=k+1 by omega];exact xm _
  .rw[bF (by rw[dF h];exact ff)];refine⟨by omega,λj bK=>?_⟩;rcases sy j (k+1)with af|af
   .exact b j (by omega)
   .rw[show j=k+1 by omega];omega
theorem UO{val:Nat->Int}:∀k,fW (λi j=>decide (val i<val j)) k<=k/\∀j,j<=k->val (fW (λi j=>decide (val i<val j)) k)<=val j
 |0=>⟨cj _,λj h=>by rw[adm.mp h];exact xm _⟩
 |k+1=>by
  obtain⟨a,b⟩:=UO (val:=val) k;simp only[fW];by_cases h:val (k+1)<val (fW (λi j=>decide (val i<val j)) k)
  .rw[bL (cq h)];refine⟨cj _,λj bK=>?_⟩;rcases sy j (k+1)with af|af
   .exact abd (abc h) (b j (by omega))
   .rw[show j=k+1 by omega];exact xm _
  .rw[bF (by rw[dF h];exact ff)];refine⟨by omega,λj bK=>?_⟩;rcases sy j (k+1)with af|af
   .exact b j (by omega)
   .rw[show j=k+1 by omega];omega
noncomputable def t2(ns:gX):Int:=ns.getD (fW (λi j=>decide (ns.getD i 0>ns.getD j 0)) (ns.length-1)) 0
theorem ag9:iY "max"=some (.builtin "max"):=by decide+kernel
end
theorem afL{X:bb}{e aB:Expr}{p bQ pos:Pos}{t:f7}{bY:TE}(ax:X.calm=true)(bP:iV X "max")(hm:X.mg "max"=none)(aK:fM X [e] t)(hd:bh X aB bY)(vj:(kB pos (kP [⟨some "default",aB,bQ⟩] X.env)).all (·.1.isSome)=true:=by rfl)(N6:(kB pos (kP [⟨some "default",aB,bQ⟩] X.env)).filterMap (·.1)=[eH "default"]:=by rfl)(he:dR [e] X.env=(false,eval e X.env)::dR [] X.env:=by rfl)(fE:(hg pos (dR [e] X.env)).any (·.1)=false:=by rfl)(N7:(kB pos (kP [⟨some "default",aB,bQ⟩] X.env)).any (·.1.isNone)=false:=by rfl):
  bh X (.Call (.Name "max" p) [e] [⟨some "default",aB,bQ⟩] pos) (ē X.K t2 t bY):=by
 intro pins s σ H Q I h;refine zo (vT I bP hm ag9 ?_ (by decide) (by decide));refine ak9 fE N7 (evalArgs_kw2 vj (bB (aK pos pins s σ H _ I h) λus s1⟨vs,H1,aP,r,q⟩=>bB ((VK hd Wu) pos pins s1 σ H1 _ aP q) λws s2⟨zs,ah,bA,qP,cU⟩=>?_) he);obtain⟨sV,a,ns,rfl,rfl,aT,oA,bM⟩:=cU;obtain⟨u,rfl,er⟩:=vals1 r;obtain⟨eT,rfl,gQ⟩:=vals1 qP;cases er;rw[N6];obtain⟨its,b7,pl,hz⟩:=bA.list aT;have hlen:ns.length=its.length:=by have:=b7.length;rwa [bp]at this
 refine adx (val:=λi=>ns.getD i 0) (items:=its.toArray) (bA.ok.hd ax) pl.isList (λi v ev=>?_) (λz h' a4 bT=>?_) λz t h' a4 bT=>?_
 .have rp:its[i]?=some v:=by simpa using ev
  have ar:i<ns.length:=by rw[hlen];exact(eG.mp rp).1
  obtain⟨u',cm,cD⟩:=b7.get (x:=V.int (ns.getD i 0)) (i:=i) (by rw[c6,dn ar];simp[eJ,ar]);rw[rp]at cm;cases cm;exact cD
 .have di:ns=[]:=xD.mp (by rw[hlen];simpa using z);exact⟨sV,ah,bA.kept bT,gQ,oA di⟩
 .have di:ns≠[]:=λe=>by rw[e]at hlen;have:its=[]:=xD.mp hlen.symm;rw[this]at z;simp at z
  refine⟨.int (t2 ns),ah,bA.kept bT,⟨t,?_⟩,bM di⟩;unfold t2;rw[hlen];simp
noncomputable def oi(ns:gX):Int:=ns.getD (fW (λi j=>decide (ns.getD i 0<ns.getD j 0)) (ns.length-1)) 0
theorem aha:iY "min"=some (.builtin "min"):=by decide+kernel
theorem afM{X:bb}{e aB:Expr}{p bQ pos:Pos}{t:f7}{bY:TE}(ax:X.calm=true)(bP:iV X "min")(hm:X.mg "min"=none)(aK:fM X [e] t)(hd:bh X aB bY)(vj:(kB pos (kP [⟨some "default",aB,bQ⟩] X.env)).all (·.1.isSome)=true:=by rfl)(N6:(kB pos (kP [⟨some "default",aB,bQ⟩] X.env)).filterMap (·.1)=[eH "default"]:=by rfl)(he:dR [e] X.env=(false,eval e X.env)::dR [] X.env:=by rfl)(fE:(hg pos (dR [e] X.env)).any (·.1)=false:=by rfl)(N7:(kB pos (kP [⟨some "default",aB,bQ⟩] X.env)).any (·.1.isNone)=false:=by rfl):
  bh X (.Call (.Name "min" p) [e] [⟨some "default",aB,bQ⟩] pos) (ē X.K oi t bY):=by
 intro pins s σ H Q I h;refine zo (vT I bP hm aha ?_ (by decide) (by decide));refine ak9 fE N7 (evalArgs_kw2 vj (bB (aK pos pins s σ H _ I h) λus s1⟨vs,H1,aP,r,q⟩=>bB ((VK hd Wu) pos pins s1 σ H1 _ aP q) λws s2⟨zs,ah,bA,qP,cU⟩=>?_) he);obtain⟨sV,a,ns,rfl,rfl,aT,oA,bM⟩:=cU;obtain⟨u,rfl,er⟩:=vals1 r;obtain⟨eT,rfl,gQ⟩:=vals1 qP;cases er;rw[N6];obtain⟨its,b7,pl,hz⟩:=bA.list aT;have hlen:ns.length=its.length:=by have:=b7.length;rwa [bp]at this
 refine adz (val:=λi=>ns.getD i 0) (items:=its.toArray) (bA.ok.hd ax) pl.isList (λi v ev=>?_) (λz h' a4 bT=>?_) λz t h' a4 bT=>?_
 .have rp:its[i]?=some v:=by simpa using ev
  have ar:i<ns.length:=by rw[hlen];exact(eG.mp rp).1
  obtain⟨u',cm,cD⟩:=b7.get (x:=V.int (ns.getD i 0)) (i:=i) (by rw[c6,dn ar];simp[eJ,ar]);rw[rp]at cm;cases cm;exact cD
 .have di:ns=[]:=xD.mp (by rw[hlen];simpa using z);exact⟨sV,ah,bA.kept bT,gQ,oA di⟩
 .have di:ns≠[]:=λe=>by rw[e]at hlen;have:its=[]:=xD.mp hlen.symm;rw[this]at z;simp at z
  refine⟨.int (oi ns),ah,bA.kept bT,⟨t,?_⟩,bM di⟩;unfold oi;rw[hlen];simp
theorem ahb{ns:gX}(h:ns≠[]):t2 ns∈ns/\∀x∈ns,x<=t2 ns:=by
 have aR:0<ns.length:=AH.mpr h;obtain⟨a,b⟩:=V7 (val:=λi=>ns.getD i 0) (ns.length-1);have ar:fW (λi j=>decide (ns.getD i 0>ns.getD j 0)) (ns.length-1)<ns.length:=by omega
 refine⟨?_,λx av=>?_⟩
 .unfold t2;rw[eJ,dn ar];exact so ar
 .obtain⟨j,bK,rfl⟩:=Kp.mp av;have:=b j (by omega);have e:ns.getD j 0=ns[j]:=by rw[eJ,dn bK];rfl
  rw[<-e];exact this
theorem Xd{ns:gX}(h:ns≠[]):oi ns∈ns/\∀x∈ns,oi ns<=x:=by
 have aR:0<ns.length:=AH.mpr h;obtain⟨a,b⟩:=UO (val:=λi=>ns.getD i 0) (ns.length-1);have ar:fW (λi j=>decide (ns.getD i 0<ns.getD j 0)) (ns.length-1)<ns.length:=by omega
 refine⟨?_,λx av=>?_⟩
 .unfold oi;rw[eJ,dn ar];exact so ar
 .obtain⟨j,bK,rfl⟩:=Kp.mp av;have:=b j (by omega);have e:ns.getD j 0=ns[j]:=by rw[eJ,dn bK];rfl
  rw[<-e];exact this
theorem abq{prog:bJ}{w:bq}{A:cW}{R:m3->aC->Prop}{I:Addr}{cb wr:bS}{n:Nat}{P:Nat->Value->Prop}{St:Nat->Heap->Prop}(W:sG prog w A.in1 I cb wr n P St)(ej:hD)(ax:CmpOf prog w A.in1 .Lt P ej)(S:Addr)(jB:S∉cb):
  ∀(k j:Nat)(s:aC)(gx:Value)(c:Nat),n-(j+1)=k->j+1<=n->St (j+1) s.heap->P (fW ej j) gx->s.heap.get? S=some ⟨.type "list",none,.seq #[gx,gx] c,#[]⟩->
   (∀v h' a4,P (fW ej (n-1)) v->(∀b o,b∉wr->b≠S->s.heap.get? b=some o->h'.get? b=some o)->R (.ok (.ret v)) {s with heap:=h',toks:=a4})->
   jJ (a6 prog w) A (.builtin "min.loop" ⟨[.ref I,.none,.ref S],[]⟩) R s:=by
 have wS:S∉wr:=λh=>jB (W.sub _ h);have nm:(toString "min"++toString ".loop":String)="min.loop":=by decide
 intro k
 induction k with
 |zero=>
  intro j s gx c aX bK st hl hM cO;have s6:j+1=n:=by omega
  refine mx AZ ?_;rw[nL m1 _];refine gz (r1 (.ref S)) (r' hM rfl (gz (tryCatch (ib (.ref I)) _) (mU (W.done s _ _ (s6▸st) λh' a4 bT=>?_))));refine gz (EH S (λ_=>#[])) (t9 (bT S _ wS hM) rfl (aw (nH (bf ?_))));exact cO gx _ a4 (by rw[<-s6];exact hl) λb o dt dC e=>(jE _ _ (cL dC)).trans (bT b o dt e)
 |succ k a8=>
  intro j s gx c aX bK st hl hM cO;have lt:j+1<n:=by omega
  refine mx AZ ?_;rw[nL m1 _];refine gz (r1 (.ref S)) (r' hM rfl (gz (tryCatch (ib (.ref I)) _) (mU (W.item (j+1) s _ _ lt st λv h' a4 U fJ bT=>?_))));have jy:=bT S _ wS hM;refine gz (tryCatch (lY [v,v] (ú .Lt v gx >>=_)) _) (mU (iD (aw (ax (j+1) (fW ej j) v gx _ _ _ U hl (aw (iD (oL (aw (nH (bf ?_))))))))));cases aa:ej (j+1) (fW ej j)with
  |true=>
   simp only[if_true];refine aw (t9 jy rfl (aw (nH ?_)));rw[nm];refine bf ⟨mL m1 _,a8 (j+1) _ v _ (by omega) lt (W.frame _ _ _ fJ λb o' o e=>(jE _ _ (λh:S=b=>jB (by rw[h];exact o'))).trans e) (by simp only[fW,aa,if_true];exact U) (oT _ jy rfl) λv2 ai kZ kW kQ=>?_⟩;exact cO v2 ai kZ kW λb o dt dC e=>kQ b o dt dC ((jE _ _ (cL dC)).trans (bT b o dt e))
  |false=>
   simp only[ub,if_false];refine aw (nH ?_);rw[nm];exact bf ⟨mL m1 _,a8 (j+1) _ gx c (by omega) lt fJ (by simp only[fW,aa,ub,if_false];exact hl) jy λv2 ai kZ kW kQ=>cO v2 ai kZ kW λb o dt dC e=>kQ b o dt dC (bT b o dt e)⟩
theorem aaQ{prog:bJ}{w:bq}{A:cW}{R:m3->aC->Prop}{I:Addr}{cb wr:bS}{n:Nat}{P:Nat->Value->Prop}{St:Nat->Heap->Prop}(W:sG prog w A.in1 I cb wr n P St)(ej:hD)(ax:CmpOf prog w A.in1 .Lt P ej)(S:Addr)(jB:S∉cb){s:aC}{c:Nat}(st:St 0 s.heap)(hM:s.heap.get? S=some ⟨.type "list",none,.seq #[] c,#[]⟩)(hz:0<n)(af:∀v h' a4,P (fW ej (n-1)) v->(∀b o,b∉wr->b≠S->s.heap.get? b=some o->h'.get? b=some o)->R (.ok (.ret v)) {s with heap:=h',toks:=a4}):
  jJ (a6 prog w) A (.builtin "min.loop" ⟨[.ref I,.none,.ref S],[]⟩) R s:=by
 have wS:S∉wr:=λh=>jB (W.sub _ h);have nm:(toString "min"++toString ".loop":String)="min.loop":=by decide
 refine mx AZ ?_;rw[nL m1 _];refine gz (r1 (.ref S)) (r' hM rfl ?_);refine gz (tryCatch (ib (.ref I)) _) (mU (W.item 0 s _ _ hz st λv h' a4 U fJ bT=>?_));have jy:=bT S _ wS hM;refine gz (EH S (λ_=>#[v,v])) (t9 jy rfl ?_);rw[nm];refine bf ⟨mL m1 _,abq W ej ax S jB _ 0 _ v _ rfl hz (W.frame _ _ _ fJ λb o' o e=>(jE _ _ (λh:S=b=>jB (by rw[h];exact o'))).trans e) U (oT _ jy rfl) λv2 ai kZ kW kQ=>?_⟩;exact af v2 ai kZ kW λb o dt dC e=>kQ b o dt dC ((jE _ _ (cL dC)).trans (bT b o dt e))
theorem abr(a:Value):xU "min" ⟨[a],[]⟩:=by unfold xU;kernel_rfl
theorem adA{prog:bJ}{w:bq}{A:cW}{E:cx}{s:aC}{l:Addr}{items:ka}{val:Nat->Int}{Q:cx}(dy:A.in1.handled=none)(aj:s.heap.IsList l items)(bC:∀i v,items[i]?=some v->∃t,v=nX (val i) t)(hz:0<items.size)(af:∀t h' a4,(∀b o,s.heap.get? b=some o->h'.get? b=some o)->Q (nX (val (fW (λi j=>decide (val i<val j)) (items.size-1))) t) {s with heap:=h',toks:=a4}):
  aO (a6 prog w) A (call (.builtin "min") [.ref l] []) Q E s:=by
 have nm:(toString "min"++toString ".loop":String)="min.loop":=by decide
 obtain⟨ol,mF,_⟩:=id aj;have hO:l≠s.heap.objs.size:=eD (dD mF);refine Xu aed aee aec (abr _) ?_;refine gz (U2 "min" ["key","default"] 0 ⟨[],[]⟩) (wG (show _=pure [none,none]from rfl) ?_);refine aw (bf ?_);refine aw (zr aj ?_);refine aw (oK ?_);rw[nm];have W:=Bd (prog:=prog) (w:=w) (A:=A.in1) dy s.heap.objs.size l hO items;have i':(s.heap.push {cls:=.type "list_iterator",data:=.fields #[.ref l,.int 0 0]}).objs.size=s.heap.objs.size+1:=xj ..;have cK:=dD mF;have s_:(s.heap.push {cls:=.type "list_iterator",data:=.fields #[.ref l,.int 0 0]}).get? s.heap.objs.size=some {cls:=.type "list_iterator",data:=.fields #[.ref l,.int 0 0]}:=gi _ rfl;have jS:=aj.push {cls:=.type "list_iterator",data:=.fields #[.ref l,.int 0 0]};have k1:∀b o,s.heap.get? b=some o->(s.heap.push {cls:=.type "list_iterator",data:=.fields #[.ref l,.int 0 0]}).get? b=some o:=λb o e=>dG _ e;dsimp only;generalize s.heap.push {cls:=.type "list_iterator",data:=.fields #[.ref l,.int 0 0]}=rB at i' s_ jS k1⊢;refine bf ⟨mL m1 _,aaQ W _ (CmpOf.ints_lt val bC) rB.objs.size (by rw[i'];simp only[dA,eA,or_false,not_or];exact⟨KC _,cL (tN mF)⟩) ⟨⟨_,dG _ s_,rfl,rfl⟩,jS.push _⟩ (gi _ rfl) hz λv h' a4 U bT=>?_⟩;obtain⟨f5,rfl⟩:=bC _ v U;exact af f5 h' a4 λb o e=>bT b o (by simp only[dA,eA,or_false];exact zK e) (by rw[i'];exact tN e) (dG _ (k1 b o e))
theorem abt{X:bb}(ax:X.calm=true):jU X (.builtin "min") (λxs H Q=>∃a ns,xs=[.ref a]/\aG X.K H a (ns.map V.int)/\ns≠[]/\Q (.int (oi ns)) H):=by
 intro pins s σ H xs us Q I r h;obtain⟨a,ns,rfl,aT,di,q⟩:=h;obtain⟨u,rfl,er⟩:=vals1 r;cases er;obtain⟨its,b7,pl,hz⟩:=I.list aT;have hlen:ns.length=its.length:=by have:=b7.length;rwa [bp]at this
 refine adA (val:=λi=>ns.getD i 0) (items:=its.toArray) (I.ok.hd ax) pl.isList (λi v ev=>?_) (by rw[gW,<-hlen];exact AH.mpr di) λt h' a4 bT=>?_
 .have rp:its[i]?=some v:=by simpa using ev
  have ar:i<ns.length:=by rw[hlen];exact(eG.mp rp).1
  obtain⟨u',cm,cD⟩:=b7.get (x:=V.int (ns.getD i 0)) (i:=i) (by rw[c6,dn ar];simp[eJ,ar]);rw[rp]at cm;cases cm;exact cD
 .refine⟨.int (oi ns),H,I.kept bT,⟨t,?_⟩,q⟩;unfold oi;rw[hlen];simp
end cQ
namespace dY
open PySem ao cQ dp
noncomputable def TabAt(H:ae)(p:Addr)(D:lP):Prop:=∃kvs,gm H p (.bX kvs)/\Tab kvs D
theorem TabAt.get{H:ae}{p:Addr}{D:lP}(T:TabAt H p D)(g:Str):iR H p (.str g) ((D g).map V.int):=by obtain⟨kvs,r,t⟩:=T;exact .inl ⟨kvs,fx g,r,rfl,(t.at_ g).symm⟩
noncomputable def uR(Da Db:lP)(g:Str)(t:Int):Bool:=match Db g with
 |none=>false
 |some u=>decide (some (t+u)=Da g)
inductive ahc(vs:aY)(H:ae)(Q:a')(bI:b2):Prop where
 |mk (r f hk hl:Addr) (hs:br) (d:dp.gm) (kvs:List (a7×ao.V)) (g:Str) (Da Db:lP) (bV:vs=[.ref r,.ref f,.str g]) (bD:H r=some (.tup (lB hs d))) (b_:H f=some (.bX kvs)) (c_:ck kvs (fx (S (hs.getD d.a [])):a7)=some (.ref hk)) (d1:ck kvs (fx (S (hs.getD d.b [])):a7)=some (.ref hl)) (fw:TabAt H hk Da) (iE:TabAt H hl Db) (k4:(∀u,Db g=some u->∃v,Da g=some v)) (mV:Q (.aM (uR Da Db g d.t)) H)
noncomputable def KG:cG:=λvs H Q bI=>ahc vs H Q bI
noncomputable abbrev jZ(hs:br)(ds:bZ)(h:Str):Str->Option Int:=λg=>dZ.dist (jN hs ds) h g
noncomputable def IK(hs:br)(ds:bZ)(i:Int):Str:=S (hs.getD (ds.getD i.toNat fA).b [])
noncomputable def sh(hs:br)(ds:bZ)(h g:Str)(i:Int):Bool:=uR (jZ hs ds h) (jZ hs ds (IK hs ds i)) g (ds.getD i.toNat fA).t
noncomputable def fit(hs:br)(ds:bZ)(h g:Str):List Int:=(iA hs ds (·.a) h).filter (sh hs ds h g)
noncomputable def best(hs:br)(ds:bZ)(h g:Str):Int:=oi (fit hs ds h g)
theorem W6{hs:br}{ds:bZ}(n9:∀e∈jN hs ds,1<=e.t){h g:Str}{v:Int}(bC:jZ hs ds h g=some v)(aS:h≠g):fit hs ds h g≠[]:=by
 obtain⟨_,e,he,u,au,nc,ev⟩:=(dZ.Za n9 g).other n9 aS bC;obtain⟨d,hd,rfl⟩:=cn.mp he;obtain⟨i,ar⟩:=AE hd;have aj:=(eG.mp ar).1;have cT:ds.getD i fA=d:=vJ ar;refine List.ne_nil_of_mem (a:=(i:Int)) (hC.mpr ⟨?_,?_⟩)
 .unfold iA zf;refine cn.mpr ⟨i,hC.mpr ⟨lK.mpr aj,?_⟩,rfl⟩;have Y2:S (hs.getD d.a [])=h:=au;rw[cT,Y2];exact cq rfl
 .unfold sh uR IK;rw[nN,cT];have amF:jZ hs ds (S (hs.getD d.b [])) g=some u:=nc;have rp:v=u+d.t:=ev;rw[amF,bC];refine cq ?_;congr 1;omega
theorem UP{hs:br}{ds:bZ}(n9:∀e∈jN hs ds,1<=e.t){h g:Str}{v:Int}(bC:jZ hs ds h g=some v)(aS:h≠g):best hs ds h g∈iA hs ds (·.a) h/\sh hs ds h g (best hs ds h g)=true:=
 hC.mp (Xd (W6 n9 bC aS)).1
structure oQ(lb:Str->Str->Int)(L:cf)(kvs:eV)(M:Str->Str->Prop):Prop where
 yes:∀h g,M h g->ck kvs (f3 h g)=some (.int (lb h g))
 no:∀h g,¬M h g->ck kvs (f3 h g)=none
 key:∀k∈kvs.map (·.1),∃h g,k=f3 h g/\h∈L/\g∈L
 aJ:(kvs.map (·.1)).Nodup
theorem W7{h g h' g':Str}(e:f3 h g=f3 h' g'):h=h'/\g=g':=by unfold f3 at e;simp only[Ki,Sum.inr.injEq,and_true]at e;exact e
theorem Vb{κ:Type}[DecidableEq κ]{kvs:List (κ×ao.V)}{k:κ}{u:ao.V}(v:ao.V)(h:ck kvs k=some u):(eo kvs k v).map (·.1)=kvs.map (·.1):=by unfold eo;rw[bL (by rw[n8,h];rfl),jH];refine Fz λq _=>?_;show(if q.1=k then(q.1,v)else q).1=q.1;split<;>rfl
theorem oQ.put{lb:Str->Str->Int}{L:cf}{kvs:eV}{M:Str->Str->Prop}(B:oQ lb L kvs M){h g:Str}(dy:h∈L)(bP:g∈L):oQ lb L (eo kvs (f3 h g) (.int (lb h g))) (λh' g'=>M h' g'\/(h'=h/\g'=g)):=by
 refine⟨λh' g' m=>?_,λh' g' m=>?_,?_,?_⟩
 .rw[DC];by_cases e:f3 h' g'=f3 h g
  .obtain⟨rfl,rfl⟩:=W7 e;rw[bL rfl]
  .rw[bF e];refine B.yes h' g' (m.resolve_right λz=>e ?_);rw[z.1,z.2]
 .rw[DC,bF λe=>m (.inr (W7 e))];exact B.no h' g' λz=>m (.inl z)
 .intro k aX;cases bC:ck kvs (f3 h g)with
  |none=>
   rw[yB _ bC,eW]at aX;rcases hX.mp aX with z|z
   .exact B.key k z
   .exact⟨h,g,iW.mp z,dy,bP⟩
  |some u=>
   rw[Vb _ bC]at aX;exact B.key k aX
 .cases bC:ck kvs (f3 h g)with
  |none=>exact ae4 _ B.aJ bC
  |some u=>rw[Vb _ bC];exact B.aJ
theorem oQ.iff{lb:Str->Str->Int}{L:cf}{kvs:eV}{M oY:Str->Str->Prop}(B:oQ lb L kvs M)(e:∀h g,M h g↔oY h g):oQ lb L kvs oY:=
 ⟨λh g m=>B.yes h g ((e h g).mpr m),λh g m=>B.no h g λz=>m ((e h g).mp z),B.key,B.aJ⟩
theorem oQ.eE{lb:Str->Str->Int}{L:cf}{kvs:eV}{M:Str->Str->Prop}(B:oQ lb L kvs M)(aj:L.length<=12):kvs.length<=144:=by
 have af:=Sg (L:=L.flatMap λh=>L.map (f3 h)) B.aJ λk aX=>by obtain⟨h,g,rfl,dy,bP⟩:=B.key k aX;exact List.mem_flatMap.mpr ⟨h,dy,cn.mpr ⟨g,bP,rfl⟩⟩
 have ai:(L.flatMap λh=>L.map (f3 h)).length=L.length*L.length:=by simp[List.length_flatMap,List.map_const']
 rw[ai,bp]at af;exact e3 af (Nat.mul_le_mul aj aj)
theorem afN{H H':ae}{a:Addr}(aF:aN H H')(z:ed):aN (upd H a z) (upd H' a z):=λb o e=>by
 by_cases aa:b=a
 .rw[aa,aQ]at e⊢;exact e
 .rw[aA aa]at e⊢;exact aF b o e
theorem adk{H H':ae}{a:Addr}{u z:ed}(aK:H a=some u)(aF:aN (upd H a z) H'):aN H (upd H' a u):=λb o e=>by
 by_cases aa:b=a
 .rw[aa,aQ];rw[aa,aK]at e;exact e
 .rw[aA aa];exact aF b o (by rw[aA aa];exact e)
section
variable{P:bJ}{w:bq}{K:aU}{mg:cB}{base:Heap}
noncomputable abbrev AN:Stmt:=top 39
theorem XT:dw ["road","far_from","goal","behind"] ["road","far_from","goal"] (c3 AN):=⟨rfl,rfl,rfl,by decide+kernel,rfl,by decide+kernel,by decide+kernel⟩
theorem ahd{f:Addr}{fd:cz}(F:bw K "begins_shortest" "begins_shortest" AN f fd):aL P w K mg base a5 1 f fd ["road","far_from","goal"] KG:=by
 refine F.ok XT (λvs H Q E h=>?_) (λcdv A outer s H vs Q E aq h=>?_)
 .obtain⟨r,rq,hk,hl,hs,d,kvs,g,Da,Db,rfl,_⟩:=h;rfl
 .obtain⟨r,rq,hk,hl,hs,d,kvs,g,Da,Db,rfl,cO,hf,I',gx,uJ,uK,bC,q⟩:=h;refine⟨_,(bc (c8 (i:=3) XT.aJ rfl (b5 rfl) (Ta (iM aq) (tp (iM aq) (U 1) (cp e5 (U 0) aW (λ_ _=>rfl)) (λ_ _=>rfl)) (U 2) ⟨rfl,rfl,rfl,rfl⟩))
   (bo (c7 (jw (iZ TS (U 3) kG (dr _)) (mH (iZ i2 (bH h4 (cp e5 (U 0) aW (λ_ _=>rfl)) (U 3)) (tp (iM aq) (tp (iM aq) (U 1) (cp e5 (U 0) aW (λ_ _=>rfl)) (λ_ _=>rfl)) (U 2) (λ_ _=>rfl)) (dr _))))))),?_⟩
  have ga:=iR.k (k:=fx (S (hs.getD d.a []))) hf;have ve:=iR.k (k:=fx (S (hs.getD d.b []))) hf;rw[I']at ga;rw[gx]at ve;have b4:=uJ.get g;have c9:=uK.get g;unfold uR at q;have Pj:xn H hl:=by obtain⟨Pz,r0,_⟩:=uK;exact .inl ⟨Pz,r0⟩
  refine⟨_,rfl,_,rfl,r,_,_,_,rfl,rfl,cH.of cO,rfl,rq,_,rfl,ve,hl,rfl,Pj,_,rfl,_,c9,_,rfl,?_⟩;cases aa:Db g with
  |none=>
   rw[aa]at q;exact⟨rfl,_,rfl,ek (by decide) q⟩
  |some u=>
   rw[aa]at q;obtain⟨v,bC⟩:=bC u aa;have Zz:=b4;rw[bC]at Zz q;refine⟨rfl,_,rfl,fu (by simp) ⟨_,rfl,r,_,_,_,rfl,rfl,cH.of cO,rfl,_,rfl,_,_,rfl,rfl,_,rfl,_,rfl,r,_,_,_,rfl,rfl,cH.of cO,rfl,rq,_,rfl,ga,_,rfl,hk,_,rfl,Zz,rfl,?_⟩⟩;have pb:decide (V.int (d.t+u)=V.int v)=decide (some ((d.t:Int)+u)=some v):=by simp
   rw[pb];exact q
theorem Vc{hs:br}{y:Str}(h:y∈hs.map S):inD (.str y) (bN hs)=true:=by
 obtain⟨x,av,rfl⟩:=cn.mp h;obtain⟨k,aX,en⟩:=mi av;have e:hs.getD k []=x:=by rw[eJ,dn aX,en];rfl
 have:=T_ aX
 rwa [e]at this
theorem IX{hs:br}{h g:Str}(a:h∈hs.map S)(b:g∈hs.map S)(n:h≠g):hc (bN hs) (.str h) (.str g)=true:=by unfold hc;rw[Vc a,Vc b,U1,dF n];rfl
theorem tO{H:ae}{hs:br}(G:Good hs){c:Str}(h:c∈hs.map S):dm H (.str c) (.str c):=by obtain⟨x,av,rfl⟩:=cn.mp h;have n:=G.nm x av;exact .str _ (by rw[qJ];have:=n.2.1;omega) (Io n)
noncomputable def XU(H1 H:ae)(q:Addr)(ng:List (a7×ao.V))(hs:br)(ds:bZ)(h:Str):Prop:=∃(p:Addr)(cc:List (a7×ao.V)),ck ng (fx h:a7)=some (.ref p)/\p≠q/\H1 p=none/\H p=some (.bX cc)/\Tab cc (jZ hs ds h)
theorem nu{H H':ae}{p:Addr}(aF:aN H H')(aR:H' p=none):H p=none:=by
 cases e:H p with
 |none=>rfl
 |some o=>rw[aF _ _ e]at aR;cases aR
theorem hS{H:ae}{a b:Addr}{o:ed}(aK:H a=some o)(aa:H b=none):a≠b:=λe=>by rw[e,aa]at aK;cases aK
theorem Yk{hs:br}{i:Nat}{v:ao.V}(e:(cE hs)[i]?=some v):∃h,v=.str h/\(hs.map S)[i]?=some h:=by unfold cE at e;rw[c6]at e;obtain⟨x,av,rfl⟩:=fL.mp e;exact⟨S x,rfl,by rw[c6,av];rfl⟩
theorem Ŗ{κ:Type}[DecidableEq κ]{k:κ}{x:ao.V}:∀{kvs:List (κ×ao.V)},(k,x)∈kvs->(ck kvs k).isSome=true:=λ{kvs}h=>by rw[<-n8];exact pT.mpr ⟨_,h,cq rfl⟩
theorem ŗ{κ:Type}[DecidableEq κ]{k:κ}{kvs:List (κ×ao.V)}(h:(ck kvs k).isSome=true):∃(j:Nat)(x:ao.V),kvs[j]?=some (k,x):=by rw[<-n8]at h;obtain⟨⟨Dh,x⟩,hm,e⟩:=pT.mp h;obtain⟨j,bK⟩:=AE hm;exact⟨j,x,by rw[bK,show Dh=k from jk e]⟩
theorem afO{hs:br}{ds:bZ}(R:∀d∈ds,d.Ok hs.length){h g:Str}{u:Int}(p:dZ.Path (jN hs ds) h g u)(hm:h∈hs.map S):g∈hs.map S:=by
 cases p with
 |nil=>exact hm
 |snoc e _ he=>
  obtain⟨d,hd,rfl⟩:=cn.mp he;exact y5 (R d hd).b
theorem Vd{hs:br}{ds:bZ}{h:Str}{i:Nat}{v:ao.V}(e:((iA hs ds (·.a) h).map V.int)[i]?=some v):∃(k:Nat)(d:dp.gm),v=.int (k:Int)/\ds[k]?=some d/\S (hs.getD d.a [])=h:=by obtain⟨z,hz,rfl⟩:=cn.mp (eK e);unfold iA zf at hz;obtain⟨k,aX,rfl⟩:=cn.mp hz;obtain⟨af,ai⟩:=hC.mp aX;have aj:=lK.mp af;have aE:ds[k]?=some ds[k]:=dn aj;refine⟨k,ds[k],rfl,aE,?_⟩;rw[vJ aE]at ai;have:=jk ai;cases this;rfl
theorem IY{b0:TE}{g:jo}{u:eY}{D:Ends}{σ:ao.St}{H:ae}(h:b0 σ H λv H1=>g v σ H1 (u D)):lz (qZ b0 g) u D σ H:=h
end
theorem afP{K:aU}{dc:TI}{cs:k_}{tt:TT}{b0:TE}{σ rest:ao.St}{H:ae}{Q:a'}{xs:aY}(hw:∀R:fT->ae->Prop,(∀p H1,H p=none->aN H H1->H1 p=some (.lst xs)->R (mf K p) H1)->dc σ H R)(h9:ia cs σ=none::rest)(aj:xs.length<sizeLine)(p:ao.V->Bool)(f:ao.V->ao.V)(test:∀(i:Nat)(x:ao.V)(ah:ae)(R:Bool->ae->Prop),xs[i]?=some x->aN H ah->(∀bx,aN ah bx->R (p x) bx)->tt (some x::rest) ah R)(elt:∀(i:Nat)(x:ao.V)(ah:ae)(R:a'),xs[i]?=some x->p x=true->aN H ah->(∀bx,aN ah bx->R (f x) bx)->b0 (some x::rest) ah R)(fin:∀(D:Addr)(H':ae),H D=none->H' D=some (.lst ((xs.filter p).map f))->aN H H'->Q (.ref D) H'):nF dc cs (hJ 0) tt b0 σ H Q:=
 hw _ λq H1 aub s1 aT=>Ke h9 (tn (aG.of aT)) aj p f (λi x ah R ex aF h=>test i x ah R ex (s1.trans aF) h) (λi x ah R ex ap6 aF h=>elt i x ah R ex ap6 (s1.trans aF) h) λD H' qD bN aF=>fin D H' (nu s1 qD) bN (s1.trans aF)
noncomputable def Told(hs:br)(ds:bZ)(i:Nat)(h g:Str):Prop:=(∃j,j<i/\(hs.map S)[j]?=some h)/\h≠g/\(jZ hs ds h g).isSome=true
structure vA(hs:br)(ds:bZ)(kvs:eV):Prop where
 lb:oQ (best hs ds) (hs.map S) kvs (λh g=>h∈hs.map S/\h≠g/\(jZ hs ds h g).isSome=true)
section
variable{P:bJ}{w:bq}{K:aU}{mg:cB}{base:Heap}
noncomputable abbrev y8:Stmt:=top 40
theorem sj:dw ["net","roads","far_from","house","ways","goal","fitting"] ["net"] (c3 y8):=⟨rfl,rfl,rfl,by decide+kernel,rfl,by decide+kernel,by decide+kernel⟩
inductive ahX(C az:Addr)(vs:aY)(H:ae)(Q:a')(bI:b2):Prop where
 |mk (n bt bu:Addr) (hs:br) (rs:bS) (ds:bZ) (bV:vs=[.ref n]) (bD:jV az H n bt bu (cE hs) (aH rs)) (b_:Good hs) (c_:iJ H hs rs ds) (d1:rs.length<=40) (fw:∀(x t:Addr)(H':ae)(kvs:eV),H x=none->H t=none->aN H H'->pq C az H' x n t bt bu (cE hs) (aH rs) kvs->vA hs ds kvs->Q (.ref x) H')
noncomputable def F0(C az:Addr):cG:=λvs H Q bI=>ahX C az vs H Q bI
inductive ajd(n d0 gP tQ:Addr)(hs:br)(ds:bZ)(H1:ae)(i:Nat)(σ:ao.St)(b3:ae):Prop where
 |mk (ng:List (a7×ao.V)) (wz:lO) (bV:σ=[some (.ref n),some (.ref d0),some (.ref gP),wz,none,none,none]) (bD:aN H1 b3) (b_:b3 tQ=some (.lst (cE hs))) (c_:b3 gP=some (.bX ng)) (d1:ng.length<=i) (fw:∀j h,j<i->(hs.map S)[j]?=some h->XU H1 b3 gP ng hs ds h)
inductive aje(C ag n d0 gP x t ly:Addr)(hs:br)(ds:bZ)(b3:ae)(i:Nat)(σ:ao.St)(fh:ae):Prop where
 |mk (kvs:eV) (wz pM oJ:lO) (bV:σ=[some (.ref n),some (.ref d0),some (.ref gP),wz,some (.ref x),pM,oJ]) (bD:aN b3 fh) (b_:fh ly=some (.lst (cE hs))) (c_:fh x=some (.ins C ag (oo n t))) (d1:fh t=some (.c4 kvs)) (fw:oQ (best hs ds) (hs.map S) kvs (Told hs ds i))
theorem ahY{C az cN dq f f1 f2 cv f4 fl BF u_:Addr}{fd cY d8 g8 kH B' B_ Cc:cz}(F:bw K "shortest" "shortest" y8 f fd)(B:gg mg)(da:qK K C)(hp:fp K az)(Uv:mg "Ways"=some (.ref C))(mv:c0 K az "houses" "Net.houses" vC ["self"] f1 cY)(p8:aL P w K mg base a5 1 f1 cY ["self"] (Dp az))(Hs:c0 K az "roads" "Net.roads" DV ["self"] f2 d8)(QM:aL P w K mg base a5 1 f2 d8 ["self"] (SW az))(sT:c0 K az "out_of" "Net.out_of" xy ["self","house"] cv g8)(yc:aL P w K mg base (d9 P w) 2 cv g8 ["self","house"] (Fn az cN (·.a)))(Bp:dJ K mg "least_turns_from" EL ["roads","house"] f4 kH)(Pn:aL P w K mg base a5 2 f4 kH ["roads","house"] (Ut K))(Bo:dJ K mg "begins_shortest" AN ["road","far_from","goal"] fl B')(aqd:aL P w K mg base a5 1 fl B' ["road","far_from","goal"] KG)(IZ:nR K C u_)(QN:rg K C "Ways.__init__" Er ["self","net"] u_ Cc)(QO:aL P w K mg base a5 1 u_ Cc ["self","net"] (Lm C))(sQ:c0 K C "set_way" "Ways.set_way" y7 ["self","house","goal","road"] BF B_)(x1:aL P w K mg base (d9 P w) 3 BF B_ ["self","house","goal","road"] (FY C az cN dq)):
  aL P w K mg base a5 4 f fd ["net"] (F0 C az):=by
 have jM:=da.cl;refine F.ok sj (λvs H Q E h=>?_) (λcdv A outer s H vs Q E aq h=>?_)
 .obtain⟨n,bt,bu,hs,rs,ds,rfl,_⟩:=h;rfl
 .obtain⟨n,bt,bu,hs,rs,ds,rfl,N,G,cO,eE,q⟩:=h;refine⟨_,(bc (c8 (i:=1) sj.aJ rfl (rj rfl) (mz (U 0) hp Hs.eh QM (aq.mono (by decide)) Hs.bd .nil dj))
   (bc (c8 (i:=2) sj.aJ rfl (rj rfl) Im)
   (bc (kd kz rfl (jL (mz (U 0) hp mv.eh p8 (aq.mono (by decide)) mv.bd .nil dj)) (ei (i:=3) sj.aJ rfl (b5 rfl))
    (bo (yT (iM aq) (U 2) (U 3) (fj Pn (aq.mono (by decide)) (by rfl) Bp.at_ Bp.fn.bQ Bp.bd .nil dj (ak (U 1) (ak (U 3) aD))) rfl)))
   (bc (c8 (i:=4) sj.aJ rfl (b5 rfl) (DX IZ QO (aq.mono (by decide)) (by rfl) Uv QN.bd .nil dj (ak (U 0) aD)))
   (bc (kd kz rfl (jL (mz (U 0) hp mv.eh p8 (aq.mono (by decide)) mv.bd .nil dj)) (ei (i:=3) sj.aJ rfl (b5 rfl))
    (bo (ag7 (kd kz rfl (adv (tp (iM aq) (U 2) (U 3) (λ_ _=>rfl))) (ei (i:=5) sj.aJ rfl (rj rfl))
    (bo (eO (eu wt (U 5) (U 3) (dr _)) (bc (tj (i:=6) sj.aJ rfl rfl rfl (N':=["number","far_from","goal","roads"]) (cs:=[none,some 2,some 5,some 1]) rfl (jL (gZ (U 0) hp sT.eh yc (aq.mono (by decide)) sT.bd .nil wA (ak (U 3) aD))) rfl (by decide+kernel) rfl (by decide+kernel) (lq (nP.mpr ⟨rfl,(nP.mpr ⟨rfl,(nP.mpr ⟨rfl,(λp aR=>bE aR (eA))⟩)⟩)⟩)) rfl
    (.own (.lS rfl (.inl rfl) (.inl rfl) rfl (.lS rfl (.inl rfl) (.inl rfl) rfl (.lS rfl (.inl rfl) (.inl rfl) rfl .nil))))
    (λC s3 bg cb e9=>⟨(ei (i:=0) (by show(["number","far_from","goal","roads"]:cf).Nodup;decide+kernel) rfl (.inl rfl)),(yQ (iK (fj aqd (aq.mono (by decide)) (by rfl) Bo.at_ Bo.fn.bQ Bo.bd .nil dj (ak (cp (SJ (K:=K) rfl) (U 3) (U 0) (λ_ _=>rfl)) (ak (U 1) (ak (U 2) aD)))))),(U 0)⟩))
   (bo (gI (gZ (U 4) jM sQ.eh x1 (aq.mono (by decide)) sQ.bd .nil wA (ak (U 3) (ak (U 5) (ak (dB (abt rfl) (by rfl) B.min aif (ak (U 6) aD)) aD))))))) fi))))))
   (bo (c7 (U 4)))))))),?_⟩
  obtain⟨iL,aS⟩:=N.ins;have hlen:=cO.len;have Zm:=G.eE;refine⟨_,rfl,n,iL,_,rfl,aS,rfl,n,bt,bu,_,_,rfl,N,λd0 HU=>?_⟩;have s1:aN H (upd H d0 (.lst (aH rs))):=bU HU;have af:upd H d0 (.lst (aH rs)) d0=some (.lst (aH rs)):=aQ;generalize upd H d0 (.lst (aH rs))=H1 at s1 af⊢
  refineλgP HV=>?_
  have s2:aN H1 (upd H1 gP (.bX [])):=bU HV;have ai:upd H1 gP (.bX []) gP=some (.bX []):=aQ;generalize upd H1 gP (.bX [])=ah at s2 ai⊢;refine⟨_,rfl,n,iL,_,rfl,s2 _ _ (s1 _ _ aS),rfl,n,bt,bu,_,_,rfl,(N.same s1).same s2,λtQ ß=>⟨tQ,rfl,⟨_,aG.of aQ⟩,?_⟩⟩;have Ê:gP≠tQ:=hS ai ß;refine qd (xs:=cE hs) (ajd n d0 gP tQ hs ds H1)
   ⟨[],none,rfl,s2.trans (bU ß),aQ,by rw[aA Ê];exact ai,cj _,λj h bK _=>bE bK (Kz _)⟩ ?_ ?_ ?_
  .rintro i σ b3 ar ⟨ng,wz,rfl,aF,bR,_⟩;exact aG.of bR
  .rintro i v σ b3 ev ⟨ng,wz,rfl,aF,bR,hf,NW,Cx⟩;obtain⟨h,rfl,u4⟩:=Yk ev;have aot:i<hs.length:=by have:=(eG.mp u4).1;rwa [bp]at this
   refine⟨_,rfl,_,rfl,d0,hs,rs,ds,h,rfl,aG.of (aF _ _ af),(cO.same s1).same aF,Zm,eK u4,λp H' cc D np kq aX T L=>?_⟩;refine⟨_,rfl,_,rfl,gP,_,rfl,oI.k (k:=fx h) (kq _ _ hf) (eM (by omega)),?_⟩;have apA:H1 p=none:=nu aF np;have ne2:p≠gP:=cL (hS hf np);have Bv:D=jZ hs ds h:=funext λg=>dZ.amh L g;subst Bv;refine⟨_,_,rfl,kc HV (aF.trans kq),by rw[aA (cL Ê)];exact kq _ _ bR,aQ,?_,λj h' bK MX=>?_⟩
   .cases bC:ck ng (fx h:a7)with
    |none=>rw[yB _ bC,ig];simp only[mj,AG];omega
    |some u=>rw[UN _ bC];omega
   .by_cases e:h'=h
    .subst e;exact⟨p,cc,by rw[DC,bL rfl],ne2,apA,by rw[aA ne2];exact aX,T⟩
    .have N4:j<i:=by
      rcases sy j i with z|z
      .exact z
      .have:j=i:=by omega
       subst this;rw[u4]at MX;cases MX;exact bE rfl e
     obtain⟨hu,aoG,r7,ne',apv,qn,nW⟩:=Cx j h' N4 MX;exact⟨hu,aoG,by rw[DC,bF λz=>e (K1 z)];exact r7,ne',apv,by rw[aA ne'];exact kq _ _ qn,nW⟩
  .rintro σ b3 ⟨ng,wz,rfl,aF,bR,hf,NW,Cx⟩;have ZJ:∀h∈hs.map S,XU H1 b3 gP ng hs ds h:=λh hm=>by obtain⟨j,bK⟩:=AE hm;exact Cx j h (by have:=(eG.mp bK).1;rw[bp]at this;unfold cE;rw[bp];exact this) bK
   refine⟨_,rfl,λx ag b9 tD auh=>⟨x,ag,_,rfl,aQ,λt dK=>⟨rfl,?_⟩⟩⟩;have H2:b3 t=none:=by refine nu (kc (o:=.ins C ag []) b9 (bU (o:=.own x) tD)) dK
   have j5:x≠t:=hS (H:=upd (upd b3 ag (.own x)) x (.ins C ag [])) aQ dK;have Ej:aN b3 (upd (upd (upd (upd b3 ag (.own x)) x (.ins C ag [])) t (.c4 [])) x (.ins C ag (oo n t))):=kc b9 (kc H2 (kc b9 (bU tD)));have OI:upd (upd (upd (upd b3 ag (.own x)) x (.ins C ag [])) t (.c4 [])) x (.ins C ag (oo n t)) x=some (.ins C ag (oo n t)):=aQ;have Oz:upd (upd (upd (upd b3 ag (.own x)) x (.ins C ag [])) t (.c4 [])) x (.ins C ag (oo n t)) t=some (.c4 []):=by rw[aA (cL j5),aQ]
   show lz _ _ _ _ (upd (upd (upd (upd b3 ag (.own x)) x (.ins C ag [])) t (.c4 [])) x (.ins C ag (oo n t)));generalize upd (upd (upd (upd b3 ag (.own x)) x (.ins C ag [])) t (.c4 [])) x (.ins C ag (oo n t))=asC at Ej OI Oz⊢;have W':jV az b3 n bt bu (cE hs) (aH rs):=(N.same s1).same aF;refine⟨_,rfl,n,iL,_,rfl,Ej _ _ (aF _ _ (s1 _ _ aS)),rfl,n,bt,bu,_,_,rfl,W'.same Ej,λly HW=>⟨ly,rfl,⟨_,aG.of aQ⟩,?_⟩⟩;have apB:b3 ly=none:=nu Ej HW;have aoY:x≠ly:=hS OI HW;have Ì:t≠ly:=hS Oz HW;refine qd (xs:=cE hs) (aje C ag n d0 gP x t ly hs ds b3)
    ⟨[],wz,none,none,rfl,Ej.trans (bU HW),aQ,by rw[aA aoY];exact OI,by rw[aA Ì];exact Oz,⟨λh g m=>?_,λh g _=>rfl,λk aX=>(nomatch aX),sv⟩⟩ ?_ ?_ ?_
   .obtain⟨⟨j,bK,_⟩,_⟩:=m;exact bE bK (Kz _)
   .rintro i σ fh ar ⟨kvs,ħ,pM,oJ,rfl,dN,cS,_⟩;exact aG.of cS
   .rintro i v σ fh ev ⟨kvs,ħ,pM,oJ,rfl,dN,cS,av,df,BT⟩;obtain⟨h,rfl,u4⟩:=Yk ev;have hm:h∈hs.map S:=eK u4;obtain⟨hk,cc,I',Î,Í,yj,uJ⟩:=ZJ h hm;have â:x≠hk:=cL (hS yj b9);have QG:t≠hk:=cL (hS yj H2);have Ë:ly≠hk:=cL (hS yj apB);refine⟨hk,cc,dN _ _ yj,λo=>?_⟩;have Zx:=iR.k (k:=fx h) (show upd fh hk (.eF o (.bX cc)) gP=some (.bX ng) by rw[aA (cL Î)];exact dN _ _ hf);rw[I']at Zx;refine⟨_,rfl,_,rfl,gP,_,rfl,Zx,hk,o,cc,rfl,aQ,?_⟩;refine abY (λj σ j8=>∃(kvs:eV)(pM oJ:lO),σ=[some (.ref n),some (.ref d0),some (.ref gP),some (.str h),some (.ref x),pM,oJ]/\aN (upd b3 hk (.eF o (.bX cc))) j8/\j8 ly=some (.lst (cE hs))/\j8 x=some (.ins C ag (oo n t))/\j8 t=some (.c4 kvs)/\
      oQ (best hs ds) (hs.map S) kvs (λh' g=>Told hs ds i h' g\/(h'=h/\h≠g/\∃kl z,kl<j/\cc[kl]?=some (fx g,z))))
     ⟨kvs,pM,oJ,rfl,afN dN _,by rw[aA Ë];exact cS,by rw[aA â];exact av,by rw[aA QG];exact df,BT.iff λh' g=>⟨.inl,λz=>z.resolve_right λ⟨_,_,kl,_,y,_⟩=>bE y (Kz _)⟩⟩ ?_ ?_ ?_
    .rintro j σ j8 ⟨kvs,pM,oJ,rfl,dh,_⟩;exact dh _ _ aQ
    .rintro j k z σ j8 en ⟨kvs,pM,oJ,rfl,dh,GP,yq,Hc,zL⟩;obtain⟨g,amv⟩:=uJ.g4 _ (eK en);have amw:k=fx g:=amv;subst amw;have n9:∀e∈jN hs ds,1<=e.t:=λe he=>by obtain⟨d,hd,rfl⟩:=cn.mp he;exact(cO.ok d hd).t.1
     have aog:(jZ hs ds h g).isSome=true:=by have:=Ŗ (eK en);rw[uJ.at_]at this;simpa using this
     obtain⟨v,bC⟩:=uA.mp aog;have bP:g∈hs.map S:=afO cO.ok ((dZ.Za n9 g).path h v bC) hm;refine⟨_,rfl,_,rfl,rfl,_,rfl,?_⟩;by_cases e:g=h
     .subst e;refine ek (show(!decide (V.str g=V.str g))=false by simp) ⟨kvs,_,oJ,rfl,dh,GP,yq,Hc,zL.iff λh' g'=>?_⟩;constructor
      .rintro(y|⟨a,b,kl,di,bK,dx⟩)
       .exact .inl y
       .exact .inr ⟨a,b,kl,di,by omega,dx⟩
      .rintro(y|⟨a,b,kl,di,bK,dx⟩)
       .exact .inl y
       .refine .inr ⟨a,b,kl,di,?_,dx⟩;rcases sy kl j with y|y
        .exact y
        .have:kl=j:=by omega
         subst this;rw[en]at dx;cases dx;exact bE rfl b
     .refine fu (show(!decide (V.str g=V.str h))=true by simp[e]) ?_;have hO:h≠g:=cL e;have RD:aN H (upd b3 hk (.eF o (.bX cc))):=s1.trans (kc Í aF);have W_:=N.same (RD.trans dh);have Nv:=cO.same (RD.trans dh);have anZ:=dh _ _ ((kc (o:=.eF o (.bX cc)) Í aF) _ _ af);have an0:=dh _ _ (show upd b3 hk (.eF o (.bX cc)) gP=some (.bX ng) by rw[aA (cL Î)];exact hf);refine IY ?_;refine afP (K:=K) (rest:=[some (.ref gP),some (.str g),some (.ref d0)]) (xs:=(iA hs ds (·.a) h).map V.int) (λR am9=>?_) rfl (by rw[bp];have:=ň hs ds (·.a) h;exact eM (by omega)) (λy=>match y with|.int i=>sh hs ds h g i|_=>false) id (λi y f6 R gr j2 Nu=>?_) (λi y f6 R gr _ fR Nu=>⟨_,rfl,Nu f6 (aN.refl _)⟩) (λD f6 qD bN j2=>?_)
      .exact⟨_,rfl,n,iL,_,rfl,(RD.trans dh) _ _ aS,rfl,_,rfl,n,bt,bu,hs,rs,ds,h,rfl,W_,Nv,eE,λ_ H9 bx apC s5 dX=>⟨H9,rfl,⟨_,aG.of dX⟩,am9 H9 bx apC s5 dX⟩,λy=>bE hm y⟩
      .obtain⟨k,d,rfl,u3,au⟩:=Vd gr;obtain⟨r,gb⟩:∃r,rs[k]?=some r:=⟨_,dn (by rw[hlen];exact(eG.mp u3).1)⟩
       obtain⟨d',Y4,rP,ω⟩:=Nv.get gb;rw[u3]at Y4;cases Y4;obtain⟨hl,Pz,gx,at7,at6,N5,uK⟩:=ZJ _ (y5 rP.b);have af2:TabAt f6 hk (jZ hs ds h):=⟨cc,.inr ⟨o,j2 _ _ (dh _ _ aQ)⟩,uJ⟩
       have af3:TabAt f6 hl (jZ hs ds (S (hs.getD d.b []))):=by
        by_cases ea:hl=hk
        .subst ea;rw[yj]at N5;cases N5;exact⟨cc,.inr ⟨o,j2 _ _ (dh _ _ aQ)⟩,uK⟩
        .exact⟨Pz,.inl (j2 _ _ (dh _ _ (by rw[aA ea];exact N5))),uK⟩
       have amB:ao.hb (aH rs) (k:Int)=some (.ref r):=iI (by unfold aH;rw[c6,gb];rfl);refine⟨_,rfl,_,rfl,d0,_,_,_,rfl,rfl,aG.of (j2 _ _ anZ),amB,_,rfl,_,rfl,r,gP,hk,hl,hs,d,ng,g,_,_,rfl,j2 _ _ ω,j2 _ _ an0,by rw[au];exact I',gx,af2,af3,λu b8=>⟨v,bC⟩,_,rfl,?_⟩;have ep:sh hs ds h g (k:Int)=uR (jZ hs ds h) (jZ hs ds (S (hs.getD d.b []))) g d.t:=by unfold sh IK;rw[nN,vJ u3]
       rw[<-ep];exact Nu f6 (aN.refl _)
      .have amu:(((iA hs ds (·.a) h).map V.int).filter λy=>match y with|.int i=>sh hs ds h g i|_=>false).map id=(fit hs ds h g).map V.int:=by rw[List.map_id,AB];rfl
       rw[amu]at bN;refine⟨_,rfl,x,ag,_,rfl,j2 _ _ yq,rfl,_,rfl,_,rfl,_,rfl,D,_,rfl,aG.of bN,W6 n9 bC hO,x,n,t,bt,bu,hs,rs,ds,kvs,h,g,_,rfl,⟨⟨ag,j2 _ _ yq⟩,W_.same j2,j2 _ _ Hc⟩,G,Nv.same j2,eE,tO G hm,tO G bP,eM (by have:=zL.eE (by rw[bp];exact Zm);omega),λ_ _ eQ gd=>?_,λy=>bE (IX hm bP hO) (by rw[y];decide),λ_ y=>bE (UP n9 bC hO).1 y⟩;have v':=j2.trans gd;refine⟨_,_,_,rfl,kc (by rw[aA QG];exact H2) (dh.trans v'),by rw[aA (cL Ì)];exact v' _ _ GP,by rw[aA j5];exact v' _ _ yq,aQ,(zL.put hm bP).iff λh' g'=>?_⟩;constructor
       .rintro((y|⟨a,b,kl,di,bK,dx⟩)|⟨rfl,rfl⟩)
        .exact .inl y
        .exact .inr ⟨a,b,kl,di,by omega,dx⟩
        .exact .inr ⟨rfl,hO,j,z,FE _,en⟩
       .rintro(y|⟨a,b,kl,di,bK,dx⟩)
        .exact .inl (.inl y)
        .rcases sy kl j with y|y
         .exact .inl (.inr ⟨a,b,kl,di,y,dx⟩)
         .have:kl=j:=by omega
          subst this;rw[en]at dx;cases dx;exact .inr ⟨a,rfl⟩
    .rintro σ j8 ⟨kvs,pM,oJ,rfl,dh,GP,yq,Hc,zL⟩;refine⟨dh _ _ aQ,kvs,_,pM,oJ,rfl,adk yj dh,by rw[aA Ë];exact GP,by rw[aA â];exact yq,by rw[aA QG];exact Hc,zL.iff λh' g=>?_⟩;constructor
     .rintro(⟨⟨j,bK,e1⟩,b,c⟩|⟨rfl,b,kl,z,_,dx⟩)
      .exact⟨⟨j,by omega,e1⟩,b,c⟩
      .refine⟨⟨i,FE _,u4⟩,b,?_⟩;have:=Ŗ (eK dx);rw[uJ.at_]at this;simpa using this
     .rintro⟨⟨j,bK,e1⟩,b,c⟩;by_cases e:h'=h
      .subst e;have:(ck cc (fx g:a7)).isSome=true:=by rw[uJ.at_];simpa using c
       obtain⟨kl,z,dx⟩:=ŗ this;exact .inr ⟨rfl,b,kl,z,(eG.mp dx).1,dx⟩
      .refine .inl ⟨⟨j,?_,e1⟩,b,c⟩;rcases sy j i with y|y
       .exact y
       .have:j=i:=by omega
        subst this;rw[u4]at e1;cases e1;exact bE rfl e
   .rintro σ fh ⟨kvs,ħ,pM,oJ,rfl,dN,cS,av,df,BT⟩;refine⟨_,rfl,q x t fh kvs (nu (s1.trans aF) b9) (nu (s1.trans aF) H2) ((s1.trans aF).trans dN) ⟨⟨ag,av⟩,W'.same dN,df⟩ ⟨BT.iff λh g=>⟨λ⟨⟨j,_,e1⟩,b,c⟩=>⟨eK e1,b,c⟩,λ⟨m,b,c⟩=>⟨?_,b,c⟩⟩⟩⟩;obtain⟨j,bK⟩:=AE m;exact⟨j,by have:=(eG.mp bK).1;rw[bp]at this;unfold cE;rw[bp];exact this,bK⟩
end
end dY
namespace cQ
open PySem PySem.Spec PyProof.Rows ao PySem.W
structure pL(n:Nat)(lt:hD):Prop where
 wi:∀i j k,lt i j=true->lt j k=true->lt i k=true
 to:∀i j,i<n->j<n->i≠j->lt i j=true\/lt j i=true
 aou:∀i,lt i i=false
noncomputable abbrev cR(p:gF)(a:Nat):Nat:=p.getD a 0
noncomputable def nv(lt:hD)(p:gF)(k:Nat):Prop:=∀a b,a<b->b<k->lt (cR p a) (cR p b)=true
theorem yv{α β:Type}(lt:hD)(f:α->KasT β):∀t:KasT α,ht lt (t.bind f)=ht lt (f (ht lt t))
 |.ret _=>rfl
 |.ask i j k=>yv lt f (k (lt i j))
theorem V8{α:Type}(lt:hD){c:Prop}[Decidable c](s t:KasT α):ht lt (if c then s else t)=if c then ht lt s else ht lt t:=by split<;>rfl
theorem ey.size{n:Nat}{p:gF}(h:ey n p):p.size=n:=by have:=h.list.length_eq;simpa using this
theorem ey.inj{n:Nat}{p:gF}(h:ey n p){a b:Nat}(aK:a<n)(aa:b<n)(e:cR p a=cR p b):a=b:=by
 have aJ:p.toList.Nodup:=h.list.nodup_iff.mpr FC;have i':=h.size;have aE:cR p a=p.toList[a]'(by simp;omega):=by simp[cR,t_,show a<p.size by omega]
 have aB:cR p b=p.toList[b]'(by simp;omega):=by simp[cR,t_,show b<p.size by omega]
 rw[aE,aB]at e;exact(uy aJ).mp e
section
variable{n:Nat}{lt:hD}
theorem pL.or(o:pL n lt){p:gF}(h:ey n p){a b:Nat}(aK:a<n)(aa:b<n)(ne:a≠b)(f:lt (cR p a) (cR p b)=false):lt (cR p b) (cR p a)=true:=by
 have h0:0<n:=by omega
 rcases o.to (cR p a) (cR p b) (h.at h0 a) (h.at h0 b) (λe=>ne (h.inj aK aa e))with z|z
 .rw[z]at f;cases f
 .exact z
theorem nv.succ(o:pL n lt){p:gF}{k:Nat}(s:nv lt p k)(af:1<=k)(h:lt (cR p (k-1)) (cR p k)=true):nv lt p (k+1):=λa b qk aa=>by
 by_cases e:b=k
 .subst e;by_cases aB:a=b-1
  .rw[aB];exact h
  .exact o.wi _ _ _ (s a (b-1) (by omega) (by omega)) h
 .exact s a b qk (by omega)
theorem J0(o:pL n lt){p:gF}(h:ey n p):∀f k,1<=k->k+f<=n->nv lt p k->∃m,ht lt (kas_asc p f k)=m/\k<=m/\m<=k+f/\nv lt p m/\(m<k+f->lt (cR p m) (cR p (m-1))=true)
 |0,k,af,ai,s=>⟨k,rfl,cj _,cj _,s,λz=>bE z (by omega)⟩
 |f+1,k,af,ai,s=>by
  show∃m,ht lt (if lt (cR p k) (cR p (k-1))=true then .ret k else kas_asc p f (k+1))=m/\_;cases e:lt (cR p k) (cR p (k-1))with
  |true=>
   rw[bL rfl];exact⟨k,rfl,cj _,by omega,s,λ_=>e⟩
  |false=>
   rw[bF (by decide)];have up:=o.or h (a:=k) (b:=k-1) (by omega) (by omega) (by omega) e;obtain⟨m,aE,aB,cJ,fB,ik⟩:=J0 o h f (k+1) (by omega) (by omega) (s.succ o af up);exact⟨m,aE,by omega,by omega,fB,λz=>ik (by omega)⟩
noncomputable def Fo(lt:hD)(p:gF)(k:Nat):Prop:=∀a b,a<b->b<k->lt (cR p b) (cR p a)=true
theorem V9(o:pL n lt){p:gF}(h:ey n p):∀f k,1<=k->k+f<=n->Fo lt p k->∃m,ht lt (Dj f p k 0)=(p,m,0)/\k<=m/\m<=k+f/\Fo lt p m
 |0,k,af,ai,s=>⟨k,rfl,cj _,cj _,s⟩
 |f+1,k,af,ai,s=>by
  show∃m,ht lt (if lt (cR p k) (cR p (k-1))=true then(if 0>0 then Dj f (Dk p (k-(0+1)) k) (k+1) 0 else Dj f p (k+1) 0)else .ask (cR p (k-1)) (cR p k) λd=>if d=true then .ret (p,k,0)else Dj f p (k+1) (0+1))=(p,m,0)/\_;cases e:lt (cR p k) (cR p (k-1))with
  |true=>
   rw[bL rfl,bF (by omega)];have s2:Fo lt p (k+1):=λa b qk aa=>by
    by_cases ea:b=k
    .subst ea;by_cases aB:a=b-1
     .rw[aB];exact e
     .exact o.wi _ _ _ e (s a (b-1) (by omega) (by omega))
    .exact s a b qk (by omega)
   obtain⟨m,aE,aB,cJ,fB⟩:=V9 o h f (k+1) (by omega) (by omega) s2;exact⟨m,aE,by omega,by omega,fB⟩
  |false=>
   rw[bF (by decide)];have up:=o.or h (a:=k) (b:=k-1) (by omega) (by omega) (by omega) e;show∃m,ht lt (if lt (cR p (k-1)) (cR p k)=true then .ret (p,k,0)else Dj f p (k+1) (0+1))=(p,m,0)/\_;rw[bL up];exact⟨k,rfl,cj _,by omega,s⟩
theorem Fp{p q:gF}{a b:Nat}(e:p[a]?=q[b]?):cR p a=cR q b:=by
 have f:∀(r:gF)(c:Nat),cR r c=(r[c]?).getD 0:=λr c=>by
  show r.getD c 0=_;by_cases ax:c<r.size
  .rw[Jv ax];simp[t_,ax]
  .rw[E3 (by omega)];simp[t_,ax]
 rw[f,f,e]
theorem W8{p:gF}{r i:Nat}(aq:r<=p.size)(ar:i<r):cR (Dk p 0 r) i=cR p (r-1-i):=by have h:=getElem?_mirror_all (xs:=p) (i:=0) (j:=r) aq i;rw[bL ⟨e4 _,ar⟩,show 0+r-1-i=r-1-i by omega]at h;exact Fp h
theorem adi(o:pL n lt){p:gF}(h:ey n p){k:Nat}(af:1<=k)(ai:k<=n)(s:Fo lt p k):∃m q,ht lt (Dl k n p)=(m,q)/\1<=m/\m<=n/\nv lt q m/\ey n q:=by
 unfold Dl;rw[yv];have aq:=h.rev 0 k;have ć:nv lt (Dk p 0 k) k:=λa b qk aa=>by rw[W8 (by rw[h.size];exact ai) (by omega),W8 (by rw[h.size];exact ai) aa];exact s _ _ (by omega) (by omega)
 obtain⟨m,aE,aB,cJ,fB,_⟩:=J0 o aq (n-k) k af (by omega) ć;rw[aE];exact⟨m,_,rfl,by omega,by omega,fB,aq⟩
theorem adj(o:pL n lt){p:gF}(h:ey n p)(h0:2<=n):∃m q,ht lt (Py n p)=(m,q)/\1<=m/\m<=n/\nv lt q m/\ey n q:=by
 unfold Py;rw[yv];obtain⟨m,aE,aB,cJ,fB,ik⟩:=J0 o h (n-1) 1 (cj _) (by omega) (λa b qk aa=>by omega);rw[aE,V8];by_cases c1:m=n
 .rw[bL (by simpa using c1)];exact⟨m,p,rfl,aB,by omega,fB,h⟩
 .rw[bF (by simpa using c1),V8];have aoS:=ik (by omega);by_cases c2:m>1
  .rw[bL c2];show∃cP q,ht lt (if lt (cR p 0) (cR p (m-1))=true then .ret (m,p)else Τ m n (Dk p 0 m))=(cP,q)/\_;rw[bL (fB 0 (m-1) (by omega) (by omega))];exact⟨m,p,rfl,aB,by omega,fB,h⟩
  .rw[bF c2];have jA:m=1:=by omega
   subst jA;unfold Τ;rw[yv];obtain⟨k,jK,my,YY,MM⟩:=V9 o h (n-(1+1)) (1+1) (by omega) (by omega) (λa b qk aa=>by
    have:a=0/\b=1:=by omega
    rw[this.1,this.2];exact aoS)
   rw[jK];show∃cP q,ht lt (if 0>0 then Dl k n (Dk p (k-(0+1)) k)else Dl k n p)=(cP,q)/\_;rw[bF (by omega)];exact adi o h (by omega) (by omega) MM
theorem Th(o:pL n lt){p:gF}(h:ey n p){k:Nat}(aX:k<n)(s:nv lt p k):∀f l r,l<=r->r<=k->r-l<=f->(∀a,a<l->lt (cR p a) (cR p k)=true)->(∀a,r<=a->a<k->lt (cR p k) (cR p a)=true)->
  ∃m,ht lt (yy p k f l r)=m/\m<=k/\(∀a,a<m->lt (cR p a) (cR p k)=true)/\∀a,m<=a->a<k->lt (cR p k) (cR p a)=true
 |0,l,r,af,ai,bR,aj,aq=>⟨l,rfl,by omega,aj,λa aK=>aq a (by omega)⟩
 |f+1,l,r,af,ai,bR,aj,aq=>by
  show∃m,ht lt (if l≥r then .ret l else .ask (cR p k) (cR p ((l+r)/2)) λc=>if c=true then yy p k f l ((l+r)/2)else yy p k f ((l+r)/2+1) r)=m/\_;by_cases c:l≥r
  .rw[bL c];exact⟨l,rfl,by omega,aj,λa aK=>aq a (by omega)⟩
  .rw[bF c];show∃m,ht lt (if lt (cR p k) (cR p ((l+r)/2))=true then yy p k f l ((l+r)/2)else yy p k f ((l+r)/2+1) r)=m/\_;have aoV:l<=(l+r)/2/\(l+r)/2<r:=by omega
   cases e:lt (cR p k) (cR p ((l+r)/2))with
   |true=>
    rw[bL rfl];refine Th o h aX s f l ((l+r)/2) aoV.1 (by omega) (by omega) aj λa aK anh=>?_;by_cases au:a=(l+r)/2
    .rw[au];exact e
    .exact o.wi _ _ _ e (s _ _ (by omega) anh)
   |false=>
    rw[bF (by decide)];have up:=o.or h (a:=k) (b:=(l+r)/2) aX (by omega) (by omega) e;refine Th o h aX s f ((l+r)/2+1) r (by omega) ai (by omega) (λa aK=>?_) aq;by_cases au:a=(l+r)/2
    .rw[au];exact up
    .exact o.wi _ _ _ (s a _ (by omega) (by omega)) up
theorem W3{p:gF}{k l i:Nat}(aX:k<p.size)(aj:l<=k):cR (bubble p k (k-l)) i=if i=l then cR p k else if l<i/\i<=k then cR p (i-1)else cR p i:=by
 have h:=getElem?_bubble (xs:=p) aX (k-l) (by omega) i;rw[show k-(k-l)=l by omega]at h;by_cases c:i=l
 .rw[bL c]at h⊢;exact Fp h
 .rw[bF c]at h⊢;by_cases c2:l<i/\i<=k
  .rw[bL c2]at h⊢;exact Fp h
  .rw[bF c2]at h⊢;exact Fp h
theorem W4(o:pL n lt):∀(f:Nat)(p:gF)(k:Nat),ey n p->nv lt p k->k+f=n->nv lt (ht lt (Px f p k)) n
 |0,p,k,h,s,e=>by
  have:k=n:=by omega
  subst this;exact s
 |f+1,p,k,h,s,e=>by
  show nv lt (ht lt ((yy p k k 0 k).bind λl=>Px f (bubble p k (k-l)) (k+1))) n;rw[yv];obtain⟨m,aE,aB,cJ,fB⟩:=Th o h (k:=k) (by omega) s k 0 k (e4 _) (cj _) (by omega) (λa aK=>bE aK (by omega)) (λa af ai=>bE ai (by omega));rw[aE];refine W4 o f _ _ (h.YP _ _) (λa b qk aa=>?_) (by omega);have aX:k<p.size:=by rw[h.size];omega
  rw[W3 aX aB,W3 aX aB];by_cases a1:a=m
  .rw[bL a1,bF (by omega),bL ⟨by omega,by omega⟩];exact fB (b-1) (by omega) (by omega)
  .rw[bF a1];by_cases f9:b=m
   .rw[bL f9,bF (by omega)];exact cJ a (by omega)
   .rw[bF f9];by_cases a2:m<a/\a<=k
    .rw[bL a2,bL ⟨by omega,by omega⟩];exact s _ _ (by omega) (by omega)
    .rw[bF a2];by_cases gn:m<b/\b<=k
     .rw[bL gn];exact s _ _ (by omega) (by omega)
     .rw[bF gn];exact s _ _ qk (by omega)
theorem ar5(o:pL n lt):(pC lt n).Pairwise λi j=>lt i j=true:=by
 unfold pC;by_cases ai:n<2
 .rw[bL ai];have:n=0\/n=1:=by omega
  rcases this with e|e<;>subst e<;>simp[sx]
 .rw[bF ai];have aq:ey n (xG (d_ n)):=Ũ _;unfold yz;rw[yv];obtain⟨m,q,aE,aB,cJ,fB,ik⟩:=adj o aq (by omega);rw[aE];show((ht lt (if m<n then Px (n-max m 1) q (max m 1)else .ret q)).toList).Pairwise _;have qC:max m 1=m:=by omega
  rw[qC];have fin:∀fH:Array Nat,ey n fH->nv lt fH n->fH.toList.Pairwise λi j=>lt i j=true:=λfH a s=>by
   rw[Kq];intro i j ar bK N2;have anK:j<n:=by rw[<-a.size];simpa using bK
   have:=s i j N2 anK;have aqD:i<fH.size:=by rw[a.size];omega
   have iy:j<fH.size:=by rw[a.size];omega
   have f1:cR fH i=fH[i]:=by simp[cR,t_,aqD]
   have f2:cR fH j=fH[j]:=by simp[cR,t_,iy]
   rw[f1,f2]at this;simpa using this
  by_cases c:m<n
  .rw[bL c];refine fin _ ?_ (W4 o _ _ _ ik fB (by omega));exact Ip (lt:=lt) _ (Kv (by omega) _ _ _ ik)
  .rw[bF c];have:m=n:=by omega
   subst this;exact fin q ik fB
end
section
variable{X:bb}
noncomputable def ltI(ns:gX)(i j:Nat):Bool:=decide (i<ns.length/\j<ns.length/\ns.getD i 0<ns.getD j 0)
theorem ahe{ns:gX}(aJ:ns.Nodup):pL ns.length (ltI ns)where
 wi:=λi j k af ai=>by have af:=jk af;have ai:=jk ai;exact cq ⟨af.1,ai.2.1,by omega⟩
 to:=λi j ar bK ne=>by
  have aE:ns.getD i 0=ns[i]:=by rw[eJ,dn ar];rfl
  have aB:ns.getD j 0=ns[j]:=by rw[eJ,dn bK];rfl
  have iL:ns.getD i 0≠ns.getD j 0:=λz=>ne ((uy aJ).mp (by rw[<-aE,<-aB];exact z));rcases Int.lt_or_lt_of_ne iL with z|z
  .exact .inl (cq ⟨ar,bK,z⟩)
  .exact .inr (cq ⟨bK,ar,z⟩)
 aou:=λi=>dF λz=>by omega
noncomputable def sortI(ns:gX):List Int:=gM 0 (ltI ns) ns
theorem sortI_perm(ns:gX):(sortI ns).Perm ns:=ł _ _ _
theorem adJ{ns:gX}(aJ:ns.Nodup):(sortI ns).Pairwise (· < ·):=by unfold sortI gM;rw[xF];exact(ar5 (ahe aJ)).imp λz=>(jk z).2.2
theorem V'(ns:gX):gM V.bl (ltI ns) (ns.map V.int)=(sortI ns).map V.int:=by unfold sortI gM;rw[jH,bp];refine Fz λi ar=>?_;have:=Iq ar;show(ns.map V.int).getD i .bl=V.int (ns.getD i 0);rw[eJ,c6,dn this,eJ,dn this];rfl
section
variable{prog:bJ}{w:bq}{A:cW}{s:aC}{ns:gX}{us:cw}
theorem TU(r:cI (ns.map V.int) us){i:Nat}(ar:i<us.length):∃t,us.getD i fP=.int (ns.getD i 0) t:=by have aj:=r.length;rw[bp]at aj;obtain⟨u,b8,t,rfl⟩:=r.get (x:=V.int (ns.getD i 0)) (i:=i) (by rw[c6,dn (by omega),eJ,dn (by omega)];rfl);exact⟨t,by rw[eJ,b8];rfl⟩
theorem Ř(r:cI (ns.map V.int) us)(ai:2<=us.length){Q:xP->aC->Prop}(h:Q QV s):aO (a6 prog w) A (PE us.toArray) Q (λ_ _=>False) s:=by refine kas_kind (T:=.type "int") ai (λv bC=>?_) (by decide+kernel) (by decide+kernel) h;obtain⟨i,ar,rfl⟩:=mi bC;obtain⟨t,e⟩:=TU r ar;rw[eJ,dn ar]at e;have e:us[i]=.int (ns.getD i 0) t:=e;rw[e];exact WR rfl
theorem Ve(r:cI (ns.map V.int) us){i j:Nat}(ar:i<us.length)(bK:j<us.length){C:Bool->aC->Prop}(h:C (ltI ns i j) s):Di prog w A QV us i j C s:=by have aj:=r.length;rw[bp]at aj;obtain⟨t,aE⟩:=TU r ar;obtain⟨u,aB⟩:=TU r bK;unfold Di;rw[aE,aB];refine kat_lt_int ?_;have e:ltI ns i j=decide (ns.getD i 0<ns.getD j 0):=decide_eq_decide.mpr ⟨λz=>z.2.2,λz=>⟨by omega,by omega,z⟩⟩;rw[<-e];exact h
end
theorem afQ{P:bJ}{w:bq}{n:Int}{v:Value}(h:(f' P w).is (.inl n) v=true):RelV (V.int n) v:=by obtain⟨t,e⟩:=ag5 h;exact⟨t,e⟩
end
end cQ
namespace dY
open PySem ao cQ dp
theorem V_{α:Type}{R:α->α->Prop}(as:∀a b,R a b->R b a->False):∀{a b:List α},a.Perm b->a.Pairwise R->b.Pairwise R->a=b
 |[],b,p,_,_=>p.nil_eq
 |x::a,[],p,_,_=>bE p.length_eq (by simp)
 |x::a,y::b,p,iT,b'=>by
  rw[List.pairwise_cons]at iT b';have amG:x=y:=by
   rcases dA.mp (p.mem_iff.mp (.head _):x∈y::b)with e|e
   .exact e
   .rcases dA.mp (p.mem_iff.mpr (.head _):y∈x::a)with aB|aB
    .exact aB.symm
    .exact(as _ _ (iT.1 y aB) (b'.1 x e)).elim
  subst amG;rw[V_ as (List.Perm.cons_inv p) iT.2 b'.2]
theorem aaR(rs:List Row):(zJ rs).Perm rs:=by unfold zJ KD;refine((Rg _ _).map _).trans ?_;rw[show(d_ rs.length).map (λi=>rs.getD i r0)=rs from ?_];refine Fx (by simp) λi af ai=>?_;rw[AF,xC,eJ,dn ai];rfl
noncomputable def i8(c:Int×Nat):List ao.V:=[.int c.1,.int (c.2:Int)]
noncomputable def qF(c:Int×Nat):List a7:=[.inl c.1,.inl (c.2:Int)]
theorem Vf(cs:List (Int×Nat)):∀d∈cs.map qF,km d=true::[true]:=λd hd=>by obtain⟨r,_,rfl⟩:=cn.mp hd;rfl
noncomputable def jg(cs:List (Int×Nat)):List (Int×Nat):=(pC (l2 (cs.map qF)) cs.length).map λi=>cs.getD i (0,0)
theorem vg(cs:List (Int×Nat)):(jg cs).Perm cs:=by unfold jg;refine((Rg _ _).map _).trans ?_;rw[show(d_ cs.length).map (λi=>cs.getD i (0,0))=cs from ?_];refine Fx (by simp) λi af ai=>?_;rw[AF,xC,eJ,dn ai];rfl
theorem Ri{H:ae}:∀{ts:bS}{cs:List (Int×Nat)},d7 H ts (cs.map i8)->bk (λr d=>H r=some (.tup (d.map dg))) ts (cs.map qF)
 |_,[],h=>by cases h;exact .nil
 |_,c::cs,h=>by cases h with|cons a t=>exact .cons a (Ri t)
theorem ř{H:ae}{ts:bS}{cs:List (Int×Nat)}(c':d7 H ts (cs.map i8)):∃iU,gM V.bl (l2 (cs.map qF)) (aH ts)=aH iU/\d7 H iU ((jg cs).map i8):=by
 have ln:(aH ts).length=cs.length:=by have:=c'.len;rw[bp]at this;rw[eB,this]
 unfold gM jg;rw[ln];have all:∀is:List Nat,(∀i∈is,i<cs.length)->∃iU,(is.map λi=>(aH ts).getD i .bl)=aH iU/\d7 H iU ((is.map λi=>cs.getD i (0,0)).map i8):=λis=>by
  induction is with
  |nil=>intro _;exact⟨[],rfl,.nil⟩
  |cons i q a8=>
   intro ar;obtain⟨iU,aE,Sm⟩:=a8 λj bK=>ar j (.tail _ bK);have lt:=ar i (.head _);have vF:i<ts.length:=by rw[eB]at ln;omega
   have aB:ts[i]?=some ts[i]:=dn vF;obtain⟨y,af,ai⟩:=bk.get c' aB;rw[c6,dn lt]at af;cases af;refine⟨ts[i]::iU,?_,.cons ?_ Sm⟩
   .rw[hW,aE];show(aH ts).getD i .bl::aH iU=V.ref ts[i]::aH iU;congr 1;show((aH ts)[i]?).getD .bl=_;unfold aH;rw[c6,aB];rfl
   .show H ts[i]=some (ed.tup (i8 (cs.getD i (0,0))));rw[show cs.getD i (0,0)=cs[i] by rw[eJ,dn lt];rfl];exact ai
 exact all _ λi ar=>Iq ar
noncomputable def i4(ns:dH):List Int:=ns.map λn:Nat=>(n:Int)
noncomputable def fz(ns:dH):List Nat:=(sortI (i4 ns)).map Fs
theorem afR{ns:dH}(aJ:ns.Nodup):(i4 ns).Nodup:=xF.mpr (aJ.imp λh z=>h (by omega))
theorem D8(ns:dH):i4 (fz ns)=sortI (i4 ns):=by
 unfold fz i4;rw[jH];have:∀x∈sortI (ns.map λn:Nat=>(n:Int)),((λn:Nat=>(n:Int))∘Fs) x=x:=λx av=>by obtain⟨n,_,rfl⟩:=cn.mp ((sortI_perm _).mem_iff.mp av);rfl
 rw[Fz this,Km]
theorem vx(ns:dH):(fz ns).Perm ns:=by
 have h:=(sortI_perm (i4 ns)).map Fs;have e:(i4 ns).map Fs=ns:=by unfold i4;rw[jH];have:∀x∈ns,(Fs∘λn:Nat=>(n:Int)) x=x:=λx _=>nN x;rw[Fz this,Km]
 rw[e]at h;exact h
theorem adK{ns:dH}(aJ:ns.Nodup):(fz ns).Pairwise (· < ·):=by have h:=adJ (afR aJ);rw[<-D8]at h;unfold i4 at h;exact(xF.mp h).imp λz=>by omega
noncomputable def q3(room:Int)(q:List (Int×Nat)):List Nat:=fz (((jg q).take room.toNat).map (·.2))
noncomputable def lV(E:List (Nat×Addr)):List (a7×ao.V):=E.map λe=>(eX (e.1:Int),.ref e.2)
structure o5(k6 H:ae)(p:Addr)(E:List (Nat×Addr))(q:Nat->List (Int×Nat)):Prop where
 tab:H p=some (.bX (lV E))
 tF:(E.map (·.1)).Nodup
 na:(E.map (·.2)).Nodup
 each:∀e∈E,k6 e.2=none/\e.2≠p/\∃ts,H e.2=some (.lst (aH ts))/\d7 H ts ((q e.1).map i8)
theorem o5.same{k6 H H':ae}{p:Addr}{E:List (Nat×Addr)}{q:Nat->List (Int×Nat)}(h:o5 k6 H p E q)(aF:aN H H'):o5 k6 H' p E q:=
 ⟨aF _ _ h.tab,h.tF,h.na,λe he=>let⟨a,b,ts,c,d⟩:=h.each e he;⟨a,b,ts,aF _ _ c,d.same aF⟩⟩
theorem Ir:∀{E:List (Nat×Addr)},(E.map (·.1)).Nodup->∀{r:Nat}{l:Addr},(r,l)∈E->ck (lV E) (eX (r:Int):a7)=some (.ref l)
 |[],_,_,_,h=>nomatch h
 | (r0,PH)::E,aJ,r,l,h=>by
  rw[hW,iH]at aJ;rcases dA.mp h with e|e
  .cases e;exact lU rfl
  .show ck ((eX (r0:Int),V.ref PH)::lV E) _=_;rw[lg (λz=>aJ.1 (by
    have di:(r0:Int)=(r:Int):=A_ z;have:r0=r:=by omega
    rw[this];exact cn.mpr ⟨_,e,rfl⟩))]
   exact Ir aJ.2 e
theorem TV:∀{E:List (Nat×Addr)}{r:Nat},r∉E.map (·.1)->ck (lV E) (eX (r:Int):a7)=none
 |[],_,_=>rfl
 | (r0,PH)::E,r,h=>by
  show ck ((eX (r0:Int),V.ref PH)::lV E) _=_;rw[lg (λz=>h (by
   have di:(r0:Int)=(r:Int):=A_ z;have:r0=r:=by omega
   rw[this];exact .head _))]
  exact TV λz=>h (.tail _ z)
theorem o5.new{k6 H:ae}{p i9:Addr}{E:List (Nat×Addr)}{q:Nat->List (Int×Nat)}(h:o5 k6 H p E q){r:Nat}(aq:r∉E.map (·.1))(oA:q r=[])(QJ:k6 i9=none)(hz:H i9=some (.lst []))(Qg:∀e∈E,e.2≠i9):
  o5 k6 (upd H p (.bX (eo (lV E) (eX (r:Int)) (.ref i9)))) p (E++[(r,i9)]) q:=by
 have np:i9≠p:=λz=>by rw[z,h.tab]at hz;cases hz
 refine⟨?_,?_,?_,λe he=>?_⟩
 .rw[aQ,yB _ (TV aq)];unfold lV;rw[eW];rfl
 .rw[eW];exact ĥ h.tF aq
 .rw[eW];refine ĥ h.na λz=>?_;obtain⟨e,he,aB⟩:=cn.mp z;exact Qg e he aB
 .rcases hX.mp he with z|z
  .obtain⟨a,b,ts,c,d⟩:=h.each e z;exact⟨a,b,ts,by rw[aA b];exact c,d.upd h.tab (by intro d z;cases z)⟩
  .rw[iW.mp z];refine⟨QJ,np,[],by rw[aA np];exact hz,?_⟩;show d7 _ [] ((q r).map i8);rw[oA];exact .nil
theorem o5.add{k6 H:ae}{p l t:Addr}{E:List (Nat×Addr)}{q:Nat->List (Int×Nat)}{ts:bS}(h:o5 k6 H p E q){r:Nat}(aq:(r,l)∈E){c:Int×Nat}(aj:H l=some (.lst (aH ts)))(c':d7 H ts ((q r).map i8))(df:H t=some (.tup (i8 c)))(aS:k6 t=none):
  o5 k6 (upd H l (.lst (aH ts++[V.ref t]))) p E (λcD=>if cD=r then q r++[c]else q cD):=by
 obtain⟨a0,kA,_⟩:=h.each _ aq;have kA:l≠p:=kA;have uniq:∀e∈E,e.2=l->e=(r,l):=λe he z=>by
  obtain⟨i,ar,el⟩:=mi he;obtain⟨j,bK,e1⟩:=mi aq;have aE:(E.map (·.2))[i]'(by rw[bp];exact ar)=(E.map (·.2))[j]'(by rw[bp];exact bK):=by rw[AF,AF,el,e1,z]
  have:=(uy h.na).mp aE;subst this;rw[<-el,e1]
 refine⟨by rw[aA (cL kA)];exact h.tab,h.tF,h.na,λe he=>?_⟩;obtain⟨a,b,iU,lR,d⟩:=h.each e he;refine⟨a,b,?_⟩;by_cases z:e.2=l
 .obtain rfl:=uniq e he z;refine⟨ts++[t],by rw[aQ,ru],?_⟩;show d7 _ _ ((if r=r then q r++[c]else q r).map i8);rw[bL rfl,eW];exact d7.upd (Paired.snoc (F:=λr d=>H r=some (.tup d)) df c') aj (by intro d z;cases z)
 .refine⟨iU,by rw[aA z];exact lR,?_⟩;have jj:e.1≠r:=λy=>z (by
   obtain⟨i,ar,el⟩:=mi he;obtain⟨j,bK,e1⟩:=mi aq;have aE:(E.map (·.1))[i]'(by rw[bp];exact ar)=(E.map (·.1))[j]'(by rw[bp];exact bK):=by rw[AF,AF,el,e1,y]
   have:=(uy h.tF).mp aE;subst this;rw[<-el,e1])
  show d7 _ _ ((if e.1=r then q r++[c]else q e.1).map i8);rw[bF jj];exact d.upd aj (by intro d z;cases z)
noncomputable def eS(due:Nat->Int)(rd:Nat->Nat)(T:Int)(go:dH)(r:Nat):List (Int×Nat):=(go.filter λn=>decide (due n<=T)&&decide (rd n=r)).map λn=>(due n,n)
theorem Xh{due:Nat->Int}{rd:Nat->Nat}{T:Int}{go:dH}{n:Nat}(h:¬due n<=T):eS due rd T (go++[n])=eS due rd T go:=by funext r;unfold eS;rw[mZ,eW];simp[lJ,h]
theorem I0{due:Nat->Int}{rd:Nat->Nat}{T:Int}{go:dH}{n:Nat}(h:due n<=T):eS due rd T (go++[n])=λcD=>if cD=rd n then eS due rd T go (rd n)++[(due n,n)]else eS due rd T go cD:=by
 funext r;unfold eS;rw[mZ,eW];by_cases e:r=rd n
 .subst e;simp[lJ,h]
 .simp[lJ,h,e,cL e]
theorem Wa(due:Nat->Int)(rd:Nat->Nat)(T:Int)(go:dH)(r:Nat):(eS due rd T go r).length<=go.length:=by unfold eS;rw[bp];exact ky _ _
noncomputable def ahf(hs:br)(kvs:eV)(b6:cf)(aI:fa)(due:Nat->Int)(rd:Nat->Nat)(n:Nat):Prop:=∃(ss:List Step)(s:Step)(y:Str),aI[n]?=some (ss++[s])/\s.due=due n/\b6[n]?=some y/\s.fc∈hs.map S/\y∈hs.map S/\s.fc≠y/\ck kvs (f3 s.fc y)=some (.int (rd n:Int))
noncomputable def fC(go:dH):List ao.V:=go.map λn:Nat=>V.int (n:Int)
noncomputable def afS(hs:br)(kvs:eV)(b6:cf)(aI:fa)(due:Nat->Int)(n:Nat):Prop:=∃(ss:List Step)(s:Step)(y:Str),aI[n]?=some (ss++[s])/\s.due=due n/\b6[n]?=some y/\s.fc∈hs.map S/\y∈hs.map S/\s.fc≠y/\ck kvs (f3 s.fc y)=none
noncomputable def TX(hw:Nat->Bool)(hs:br)(kvs:eV)(b6:cf)(aI:fa)(due:Nat->Int)(rd:Nat->Nat)(n:Nat):Prop:=(hw n=true/\ahf hs kvs b6 aI due rd n)\/(hw n=false/\afS hs kvs b6 aI due n)
inductive ahZ(K:aU)(C aV az:Addr)(vs:aY)(H:ae)(Q:a')(bI:b2):Prop where
 |mk (x n g st gl y lx t bt bu:Addr) (b6:cf) (ls:bS) (aI:fa) (hs:br) (ys:aY) (kvs:eV) (go:dH) (hw:Nat->Bool) (due:Nat->Int) (rd:Nat->Nat) (T:Int) (bV:vs=[.ref x,.ref gl,.ref y,.int T]) (bD:WalkAt C H x n g st b6 ls aI) (b_:aG K H gl (fC go)) (c_:pq aV az H y lx t bt bu (cE hs) ys kvs) (d1:Good hs) (fw:go.length<=100) (iE:(∀k∈go,TX hw hs kvs b6 aI due rd k)) (k4:∀(p:Addr)(H':ae)(E:List (Nat×Addr)),H p=none->aN H H'->o5 H H' p E (eS due rd T (go.filter hw))->(∀r,r∈E.map (·.1)↔eS due rd T (go.filter hw) r≠[])->Q (.ref p) H')
noncomputable def Lp(K:aU)(C aV az:Addr):cG:=λvs H Q bI=>ahZ K C aV az vs H Q bI
section
variable{P:bJ}{w:bq}{K:aU}{mg:cB}{base:Heap}
noncomputable abbrev Eo:Stmt:=top 22
theorem AU:dw ["walk","going","ways","turn","queues","number","came","road"] ["walk","going","ways","turn"] (c3 Eo):=⟨rfl,rfl,rfl,by decide+kernel,rfl,by decide+kernel,by decide+kernel⟩
inductive ajf(x gl y p:Addr)(T:Int)(due:Nat->Int)(rd:Nat->Nat)(go:dH)(hw:Nat->Bool)(H:ae)(i:Nat)(σ:ao.St)(b3:ae):Prop where
 |mk (E:List (Nat×Addr)) (v1 v2 gS:lO) (bV:σ=[some (.ref x),some (.ref gl),some (.ref y),some (.int T),some (.ref p),v1,v2,gS]) (bD:aN H b3) (b_:o5 H b3 p E (eS due rd T ((go.take i).filter hw))) (c_:∀r,r∈E.map (·.1)↔eS due rd T ((go.take i).filter hw) r≠[]) (d1:E.length<=i)
theorem ah0{C aV az cN f f1 f2 cv f4:Addr}{fd cY d8 g8 kH:cz}(F:bw K "queues_at" "queues_at" Eo f fd)(da:rX K C)(o8:qK K aV)(sM:c0 K C "last_turn" "Walk.last_turn" y' ["self","number"] f1 cY)(Ph:aL P w K mg base a5 1 f1 cY ["self","number"] (IV C))(sS:c0 K C "last_house" "Walk.last_house" y9 ["self","number"] f2 d8)(O5:aL P w K mg base a5 1 f2 d8 ["self","number"] (IU C))(Ht:c0 K C "goal" "Walk.goal" zH ["self","number"] cv g8)(Ž:aL P w K mg base a5 1 cv g8 ["self","number"] (JS C))(HG:c0 K aV "way" "Ways.way" Es ["self","house","goal"] f4 kH)(Rj:aL P w K mg base (d9 P w) 3 f4 kH ["self","house","goal"] (Ln aV az cN)):
  aL P w K mg base a5 4 f fd ["walk","going","ways","turn"] (Lp K C aV az):=by
 have kC:=da.cl;have jM:=o8.cl;refine F.ok AU (λvs H Q E h=>?_) (λcdv A outer s H vs Q E aq h=>?_)
 .obtain⟨x,n,g,st,gl,y,lx,t,bt,bu,b6,ls,aI,hs,ys,kvs,go,hw,due,rd,T,rfl,_⟩:=h;rfl
 .obtain⟨x,n,g,st,gl,y,lx,t,bt,bu,b6,ls,aI,hs,ys,kvs,go,hw,due,rd,T,rfl,W,G2,uN,G,eE,ok,q⟩:=h;obtain⟨ag,av⟩:=W.ins;obtain⟨hH,cM⟩:=uN.ins;refine⟨_,(bc (c8 (i:=4) AU.aJ rfl (b5 rfl) Im)
   (bc (kd kz rfl (jL (U 1)) (ei (i:=5) AU.aJ rfl (b5 rfl))
    (bc (c8 (i:=6) AU.aJ rfl (b5 rfl) (gZ (U 0) kC sM.eh Ph (aq.mono (by decide)) sM.bd .nil dj (ak (U 5) aD)))
   (bo (eO (eu px (U 6) (U 3) (dr _)) (bc (c8 (i:=7) AU.aJ rfl (b5 rfl) (gZ (U 2) jM HG.eh Rj (aq.mono (by decide)) HG.bd .nil wA (ak (gZ (U 0) kC sS.eh O5 (aq.mono (by decide)) sS.bd .nil dj (ak (U 5) aD)) (ak (gZ (U 0) kC Ht.eh Ž (aq.mono (by decide)) Ht.bd .nil dj (ak (U 5) aD)) aD))))
   (bo (eO (eu TS (U 7) kG (dr _)) (bo (gI (nr nV o1 o2 m' (ac1 (U 4) (U 7) (gJ aD) ⟨rfl,rfl,rfl,rfl⟩) (ak (i1 (ak (U 6) (ak (U 5) aD))) aD)))) fi))) fi))))
   (bo (c7 (U 4))))),?_⟩
  refineλp aR=>?_
  have s0:aN H (upd H p (.bX [])):=bU aR;refine⟨_,rfl,gl,rfl,⟨_,s0.seq G2⟩,?_⟩;refine qd (xs:=fC go) (ajf x gl y p T due rd go hw H)
   ⟨[],none,none,none,rfl,s0,⟨aQ,sv,sv,λe he=>nomatch he⟩,λr=>⟨λz=>(nomatch z),λz=>bE rfl z⟩,cj _⟩ (λi σ b3 _⟨_,_,_,_,_,h,_,_,_⟩=>h.seq G2) ?_ ?_
  .rintro i z σ b3 dx ⟨E,v1,v2,gS,rfl,aF,l5,mem,le⟩;unfold fC at dx;rw[c6]at dx;obtain⟨k,en,rfl⟩:=fL.mp dx;have aot:i<go.length:=(eG.mp en).1;have a4:go.take (i+1)=go.take i++[k]:=by rw[oW,en];rfl
   have xS:=W.same aF;rcases ok k (eK en)with⟨CV,ss,s1,oP,aE,aB,cJ,fB,ik,kE,Bu⟩|⟨CV,ss,s1,oP,aE,aB,cJ,fB,ik,kE,Bu⟩
   .have a4:(go.take (i+1)).filter hw=(go.take i).filter hw++[k]:=by rw[a4,mZ,lJ,bL CV,ux]
    refine⟨_,rfl,x,ag,_,rfl,aF _ _ av,rfl,_,rfl,x,n,g,st,b6,ls,aI,k,ss,s1,rfl,xS,aE,?_⟩;refine⟨_,rfl,_,rfl,_,_,rfl,rfl,_,rfl,?_⟩;by_cases hd:due k<=T
    .refine fu (cq (by rw[aB];exact hd)) ?_;refine⟨_,rfl,y,hH,_,rfl,aF _ _ cM,rfl,_,rfl,x,ag,_,rfl,aF _ _ av,rfl,_,rfl,x,n,g,st,b6,ls,aI,k,ss,s1,rfl,xS,aE,_,rfl,x,ag,_,rfl,aF _ _ av,rfl,_,rfl,x,n,g,st,b6,ls,aI,k,oP,rfl,xS,cJ,?_⟩;refine⟨y,lx,t,bt,bu,hs,_,kvs,s1.fc,oP,rfl,uN.same aF,G,tO G fB,tO G ik,λ_ ah s2=>?_,λz=>bE (IX fB ik kE) (by rw[z];decide)⟩;rw[Bu];refine⟨_,rfl,rfl,_,rfl,fu (by simp) ?_⟩;have kq:=aF.trans s2;have Rb:=l5.same s2;refine⟨_,rfl,p,rfl,.inl ⟨_,.inl Rb.tab⟩,_,rfl,e4 _,λi9 QE=>?_⟩;have s3:=bU (o:=.lst []) QE;have tS:=Rb.same s3;have IB:=kq.trans s3;have hz:upd ah i9 (.lst []) i9=some (.lst []):=aQ;have à:=nu kq QE;have Qg:∀e∈E,e.2≠i9:=λe he z=>by obtain⟨_,_,ts,c,_⟩:=Rb.each e he;rw[z,QE]at c;cases c
     generalize upd ah i9 (.lst [])=bg at s3 tS IB hz⊢;have hI:(lV E).length=E.length:=bp _;refine⟨lV E,eX (rd k:Int),rfl,tS.tab,eM (by omega),λv bC=>?_,λh0=>?_⟩
     .have nk:rd k∈E.map (·.1):=by
       by_cases z:rd k∈E.map (·.1)
       .exact z
       .rw[TV z]at bC;cases bC
      obtain⟨⟨r0,l⟩,he,cT⟩:=cn.mp nk;have cT:r0=rd k:=cT;subst cT;rw[Ir tS.tF he]at bC;cases bC;obtain⟨nl,_,ts,aj,c'⟩:=tS.each _ he;refine⟨.inl ⟨rfl,_,aG.of aj⟩,_,rfl,_,rfl,(by show 2<=sizeLine;decide),λr jj=>?_⟩;have s4:=bU (o:=.tup [V.int s1.due,V.int (k:Int)]) jj;have Rc:=tS.same s4;have aq:upd bg r (.tup [V.int s1.due,V.int (k:Int)]) r=some (.tup (i8 (due k,k))):=by rw[aQ,aB];rfl
      have dk:=c'.len;refine⟨l,_,_,rfl,rfl,s4 _ _ aj,eM (by rw[eB];rw[bp]at dk;have:=Wa due rd T ((go.take i).filter hw) (rd k);have gN:=ky hw (go.take i);rw[ml]at gN;have auo:ts.length=(eS due rd T ((go.take i).filter hw) (rd k)).length:=dk;omega),?_⟩;refine⟨E,_,_,_,rfl,kc nl (IB.trans s4),?_,?_,by omega⟩
      .rw[a4,I0 hd];exact Rc.add he (s4 _ _ aj) (c'.same s4) aq (nu IB jj)
      .intro cD;rw[a4,I0 hd,mem cD];dsimp only;by_cases z:cD=rd k
       .subst z;rw[bL rfl];exact⟨λ_=>by simp,λ_=>(mem _).mp nk⟩
       .rw[bF z]
     .have nk:rd k∉E.map (·.1):=λz=>by obtain⟨⟨r0,l⟩,he,cT⟩:=cn.mp z;have cT:r0=rd k:=cT;subst cT;rw[Ir tS.tF he]at h0;cases h0
      have oA:eS due rd T ((go.take i).filter hw) (rd k)=[]:=by
       by_cases z:eS due rd T ((go.take i).filter hw) (rd k)=[]
       .exact z
       .exact bE ((mem _).mpr z) nk
      have oB:=tS.new nk oA à hz Qg;have RZ:aN H (upd bg p (.bX (eo (lV E) (eX (rd k:Int)) (.ref i9)))):=kc aR IB;have np:i9≠p:=λz=>by rw[z,tS.tab]at hz;cases hz
      have Hh:upd bg p (.bX (eo (lV E) (eX (rd k:Int)) (.ref i9))) i9=some (.lst (aH [])):=by rw[aA np];exact hz
      generalize upd bg p (.bX (eo (lV E) (eX (rd k:Int)) (.ref i9)))=dV at oB RZ Hh⊢;have he:(rd k,i9)∈E++[(rd k,i9)]:=hX.mpr (.inr (.head _));refine⟨.inl ⟨rfl,_,aG.of Hh⟩,_,rfl,_,rfl,(by show 2<=sizeLine;decide),λr jj=>?_⟩;have s4:=bU (o:=.tup [V.int s1.due,V.int (k:Int)]) jj;have Rc:=oB.same s4;have aq:upd dV r (.tup [V.int s1.due,V.int (k:Int)]) r=some (.tup (i8 (due k,k))):=by rw[aQ,aB];rfl
      refine⟨i9,_,_,rfl,rfl,s4 _ _ Hh,(by show 0<sizeLine;decide),?_⟩;refine⟨E++[(rd k,i9)],_,_,_,rfl,kc à (RZ.trans s4),?_,?_,by rw[ig];show E.length+1<=i+1;omega⟩
      .rw[a4,I0 hd];exact Rc.add (ts:=[]) he (s4 _ _ Hh) (by rw[oA];exact .nil) aq (nu RZ jj)
      .intro cD;rw[a4,I0 hd,eW,hX,mem cD];dsimp only;by_cases z:cD=rd k
       .subst z;rw[bL rfl];exact⟨λ_=>by simp,λ_=>.inr (.head _)⟩
       .rw[bF z];exact⟨λy=>y.elim id λy=>bE (iW.mp y) z,.inl⟩
    .refine ek (dF (by rw[aB];exact hd)) ?_;exact⟨E,_,_,gS,rfl,aF,by rw[a4,Xh hd];exact l5,by rw[a4,Xh hd];exact mem,by omega⟩
   .have a4:(go.take (i+1)).filter hw=(go.take i).filter hw:=by rw[a4,mZ,lJ,bF (by rw[CV];decide),ux,mh]
    refine⟨_,rfl,x,ag,_,rfl,aF _ _ av,rfl,_,rfl,x,n,g,st,b6,ls,aI,k,ss,s1,rfl,xS,aE,?_⟩;refine⟨_,rfl,_,rfl,_,_,rfl,rfl,_,rfl,?_⟩;by_cases hd:due k<=T
    .refine fu (cq (by rw[aB];exact hd)) ?_;refine⟨_,rfl,y,hH,_,rfl,aF _ _ cM,rfl,_,rfl,x,ag,_,rfl,aF _ _ av,rfl,_,rfl,x,n,g,st,b6,ls,aI,k,ss,s1,rfl,xS,aE,_,rfl,x,ag,_,rfl,aF _ _ av,rfl,_,rfl,x,n,g,st,b6,ls,aI,k,oP,rfl,xS,cJ,?_⟩;refine⟨y,lx,t,bt,bu,hs,_,kvs,s1.fc,oP,rfl,uN.same aF,G,tO G fB,tO G ik,λ_ ah s2=>?_,λz=>bE (IX fB ik kE) (by rw[z];decide)⟩;rw[Bu];refine⟨_,rfl,rfl,_,rfl,ek (by simp) ?_⟩;exact⟨E,_,_,_,rfl,aF.trans s2,by rw[a4];exact l5.same s2,by rw[a4];exact mem,by omega⟩
    .refine ek (dF (by rw[aB];exact hd)) ?_;exact⟨E,_,_,gS,rfl,aF,by rw[a4];exact l5,by rw[a4];exact mem,by omega⟩
  .rintro σ b3 ⟨E,v1,v2,gS,rfl,aF,l5,mem,le⟩;unfold fC at l5 mem;rw[bp,oX]at l5 mem;exact⟨_,rfl,q p b3 E aR aF l5 mem⟩
end
end dY
namespace cQ
open PySem PySem.Spec PyProof.Rows ao
section
variable{X:bb}
theorem ì:jU X (.builtin "sorted") (λxs H Q=>∃(p:Addr)(ns:gX),xs=[.ref p]/\aG X.K H p (ns.map V.int)/\ns.length<64/\∀l,H l=none->Q (.ref l) (upd H l (.lst ((sortI ns).map V.int)))):=by intro pins s σ H xs us Q I r h;obtain⟨p,ns,rfl,aT,PK,q⟩:=h;obtain⟨u,rfl,er⟩:=vals1 r;cases er;obtain⟨its,b7,pl,hz⟩:=I.list aT;have hlen:=b7.length;rw[bp]at hlen;refine Ń (κ:=QV) (lt:=ltI ns) pl.isList (by omega) (λai s1 x mq e8=>Ř b7 ai e8) (λai s1 x i j C ar bK eg=>Ve b7 ar bK eg) λD h' c hle x ax=>?_;refine⟨.ref D,_,I.laid (a:=D) (o:=.lst ((sortI ns).map V.int)) (t':=s.toks) (λb o q=>x b o q) hle ?_,rfl,q D (I.a_.fresh hle)⟩;rw[<-V'];refine⟨?_,_,c,RM b7,ax⟩;rw[SY];exact hz
theorem arR(ax:X.calm=true):jU X (.builtin "sorted") (λxs H Q=>∃(p:Addr)(kvs:List (a7×V))(ns:gX),xs=[.ref p]/\H p=some (.bX kvs)/\kvs.map (·.1)=ns.map eX/\ns.length<64/\∀l,H l=none->Q (.ref l) (upd H l (.lst ((sortI ns).map V.int)))):=by
 intro pins s σ H xs us Q I r h;obtain⟨p,kvs,ns,rfl,aR,en,PK,q⟩:=h;obtain⟨u,rfl,er⟩:=vals1 r;cases er;have dy:X.A.handled=none:=I.ok.hd ax;obtain⟨q7,lo,ys,rel,o,es,ep,aZ,av,hd,_,qr,aS⟩:=wo I.a_ aR;have b7:cI (ns.map V.int) (es.toList.map (·.key)):=by
  have gen:∀{kvs:List (a7×V)}{ys:List (a7×Value)}{hI:List oR}{ns:gX},gy kvs ys->Pairs (f' X.prog X.w) hI ys->kvs.map (·.1)=ns.map eX->cI (ns.map V.int) (hI.map (·.key)):=by
   intro kvs ys hI ns rel pr
   induction pr generalizing kvs ns with
   |nil=>
    intro e;cases rel;cases ns with
    |nil=>exact .nil
    |cons _ _=>cases e
   |cons af ai t a8=>
    intro e;cases rel with
    |cons a b=>
     cases ns with
     |nil=>cases e
     |cons n ns=>
      rw[hW,hW,Ki]at e;refine .cons ?_ (a8 b e.2);rw[<-a.1,e.1]at af;exact afQ af
  exact gen rel qr en
 have aj:=b7.length;rw[bp]at aj;have og:kvs.length=ns.length:=by have:=hh sq en;simpa using this
 refine aaD (κ:=QV) (lt:=ltI ns) lo dy ⟨o,aZ,av,hd⟩ rfl (by omega) (λai s1 x mq e8=>Ř b7 ai e8) (λai s1 x i j C ar bK eg=>Ve b7 ar bK eg) λaf D h' t c eP hle x ax=>?_;have aP:Inv X pins σ H {s with heap:=af,toks:=t}:=I.kept (t':=t) λb o e=>eP b o e;refine⟨.ref D,_,aP.laid (a:=D) (o:=.lst ((sortI ns).map V.int)) (t':=t) (λb o q=>x b o q) hle ?_,rfl,q D (aP.a_.fresh hle)⟩;rw[<-V'];refine⟨?_,_,c,RM b7,ax⟩;rw[SY,bp];omega
end
end cQ
namespace dY
open PySem ao cQ dp
theorem Wb{K:aU}{dc:TI}{cs:k_}{b0:TE}{σ rest:ao.St}{H:ae}{Q:a'}{ds:List aY}(hw:∀R:fT->ae->Prop,(∀p H1 ts,H p=none->aN H H1->H1 p=some (.lst (aH ts))->d7 H1 ts ds->R (mf K p) H1)->dc σ H R)(h9:ia cs σ=none::none::rest)(aj:ds.length<sizeLine)(f:Nat->ao.V)(two:∀d∈ds,∃u v,d=[u,v])(elt:∀(i:Nat)(u v:ao.V)(ah:ae)(R:a'),ds[i]?=some [u,v]->aN H ah->(∀bx,aN ah bx->R (f i) bx)->b0 (some u::some v::rest) ah R)(fin:∀(D:Addr)(H':ae),H D=none->H' D=some (.lst ((d_ ds.length).map f))->aN H H'->Q (.ref D) H'):nF dc cs (xl K 2 (qG (hJ 0) (qG (hJ 1) Aw))) se b0 σ H Q:=by
 refine hw _ λp H1 ts np s1 aR c' D bN=>?_;have ln:=c'.len;refine⟨λi m ys a3 H'=>m=ds.length-i/\i<=ds.length/\ys=(d_ i).map f/\(∃hj kU,a3=hj::kU::rest)/\aN H1 H'/\H' D=some (.lst ys),⟨ds.length,by simp,e4 _,rfl,⟨none,none,by rw[h9]⟩,λb o e=>?_,aQ⟩,?_⟩
 .rw[aA (bW e bN)];exact e
 .rintro i m ys a3 H' ⟨rfl,ar,rfl,⟨hj,kU,rfl⟩,aF,e7⟩;obtain⟨fe,fK,hx⟩:=tn (aG.of (K:=K) aR) H' aF;refine⟨e7,nT (by rw[bp,jG];omega) aj,?_⟩;rw[eB]at fe fK hx;by_cases cK:i<ds.length
  .refine .inr ⟨fK i (by omega),λx ah y=>?_⟩;obtain⟨rfl,ex⟩:=hx i x ah (by omega) y;unfold aH at ex;rw[c6]at ex;obtain⟨t,u7,rfl⟩:=fL.mp ex;obtain⟨d,dS,hd⟩:=bk.get c' u7;have hd:=aF _ _ hd;obtain⟨u,v,rfl⟩:=two d (eK dS);refine⟨t,_,rfl,cH.of hd,rfl,_,_,rfl,_,_,rfl,rfl,?_⟩;show b0 (some u::some v::rest) ah _;refine elt i u v ah _ dS (s1.trans aF) λbx s5=>⟨s5 _ _ e7,ds.length-(i+1),by omega,rfl,cK,?_,⟨_,_,rfl⟩,λb ob e=>?_,aQ⟩
   .rw[sx,eW];rfl
   .rw[aA (bW e bN)];exact s5 _ _ (aF _ _ e)
  .have e:i=ds.length:=by omega
   subst e;rw[ln]at fe;exact .inl ⟨fe,fin D H' (nu s1 bN) e7 (s1.trans aF)⟩
theorem Fq{i:Nat}{v:ao.V}{σ:ao.St}{H:ae}{Q:ao.St->ae->Prop}(h:Q (σ.set i (some v)) H):hJ i v σ H Q:=h
theorem hq.upd{H:ae}{a l:Addr}{b:k7×List Nat}{xs ys:aY}(h:hq H a b)(aj:H l=some (.lst xs)):hq (ao.upd H l (.lst ys)) a b:=by obtain⟨c,af,ai⟩:=h;exact⟨c,by rw[aA λz=>by rw[z,aj]at af;cases af];exact af,by rw[aA λz=>by rw[z,aj]at ai;cases ai];exact ai⟩
theorem Vg(ts:bS){m:Int}(h:0<=m):l6 (aH ts) none (some m)=aH (ts.take m.toNat):=by
 obtain⟨k,rfl⟩:∃k:Nat,m=(k:Int):=⟨m.toNat,by omega⟩
 unfold l6;have f1:hB.iS (aH ts).length 0 none=0:=rfl;have f2:hB.iS (aH ts).length (aH ts).length (some (k:Int))=min k (aH ts).length:=hB.RG (aH ts).length (aH ts).length k;rw[f1,f2,Nat.sub_zero,List.drop_zero,nN];unfold aH;rw[bp,Kn];by_cases z:k<=ts.length
 .rw[ado z]
 .rw[Nat.min_eq_right (by omega),WN (by rw[bp];exact cj _),WN (by rw[bp];omega)]
theorem Sh{H:ae}:∀{ts:bS}{ds:List aY}(k:Nat),d7 H ts ds->d7 H (ts.take k) (ds.take k)
 |_,_,0,_=>by rw[FD,FD];exact .nil
 |_,_,k+1,.nil=>.nil
 |_,_,k+1,.cons a t=>.cons a (Sh k t)
noncomputable def hK(ds:bZ)(due:Nat->Int)(rd:Nat->Nat)(T:Int)(go:dH)(r:Nat):k7×List Nat:=((T,r),q3 (iv ds r) (eS due rd T go r))
theorem VW(due:Nat->Int)(rd:Nat->Nat)(T:Int)(go:dH)(r:Nat):(eS due rd T go r).map (·.2)=go.filter λn=>decide (due n<=T)&&decide (rd n=r):=by unfold eS;rw[jH];exact Km _
theorem ahg{due:Nat->Int}{rd:Nat->Nat}{T:Int}{go:dH}{r:Nat}(aJ:go.Nodup):(eS due rd T go r).Nodup:=by
 have h:((eS due rd T go r).map (·.2)).Nodup:=by rw[VW];exact aJ.filter _
 exact(xF.mp h).imp λh z=>h (by rw[z])
theorem VX{due:Nat->Int}{rd:Nat->Nat}{T:Int}{go:dH}{r:Nat}(aJ:go.Nodup)(k:Nat):(((jg (eS due rd T go r)).take k).map (·.2)).Nodup:=by
 have h:((jg (eS due rd T go r)).map (·.2)).Nodup:=by refine(((vg _).map _).nodup_iff).mpr ?_;rw[VW];exact aJ.filter _
 rw[Kn];exact h.sublist (WO _ _)
theorem tP(ns:dH):fC ns=(i4 ns).map V.int:=by unfold fC i4;rw[jH];rfl
inductive ahh(K:aU)(C aV az:Addr)(vs:aY)(H:ae)(Q:a')(bI:b2):Prop where
 |mk (x n g st gl y t bt bu:Addr) (b6:cf) (ls rs:bS) (aI:fa) (hs:br) (ds:bZ) (kvs:eV) (tb:dH) (hw:Nat->Bool) (go:dH) (due:Nat->Int) (rd:Nat->Nat) (T:Int) (bV:vs=[.ref n,.ref x,.ref gl,.ref y,.int T]) (bD:go=tb.filter hw) (b_:WalkAt C H x n g st b6 ls aI) (c_:aG K H gl (fC tb)) (d1:pq aV az H y n t bt bu (cE hs) (aH rs) kvs) (fw:iJ H hs rs ds) (iE:Good hs) (k4:tb.length<=60) (mV:tb.Nodup) (q6:(∀k∈tb,TX hw hs kvs b6 aI due rd k)) (wK:(∀k∈go,rd k<ds.length)) (zE:∀(l:Addr)(H':ae)(as:bS)(rl:dH),H l=none->aN H H'->H' l=some (.lst (aH as))->bk (hq H') as (rl.map (hK ds due rd T go))->rl.Pairwise (· < ·)->(∀r,r∈rl↔eS due rd T go r≠[])->Q (.ref l) H')
noncomputable def KI(K:aU)(C aV az:Addr):cG:=λvs H Q bI=>ahh K C aV az vs H Q bI
section
variable{P:bJ}{w:bq}{K:aU}{mg:cB}{base:Heap}
noncomputable abbrev Ee:Stmt:=top 23
theorem xp:dw ["net","walk","going","ways","turn","queues","bags","road","room","chosen"] ["net","walk","going","ways","turn"] (c3 Ee):=⟨rfl,rfl,rfl,by decide+kernel,rfl,by decide+kernel,by decide+kernel⟩
inductive ajg(n x gl y p aM bj:Addr)(T:Int)(rl:dH)(ds:bZ)(due:Nat->Int)(rd:Nat->Nat)(go:dH)(H1:ae)(j:Nat)(σ:ao.St)(b3:ae):Prop where
 |mk (as:bS) (v1 v2 gS:lO) (bV:σ=[some (.ref n),some (.ref x),some (.ref gl),some (.ref y),some (.int T),some (.ref p),some (.ref aM),v1,v2,gS]) (bD:aN H1 b3) (b_:b3 bj=some (.lst (fC rl))) (c_:b3 aM=some (.lst (aH as))) (d1:bk (hq b3) as ((rl.take j).map (hK ds due rd T go)))
theorem ahi{C aV az f f1 f2:Addr}{fd cY d8:cz}(F:bw K "bags_at" "bags_at" Ee f fd)(B:gg mg)(hp:fp K az)(C_:dJ K mg "queues_at" Eo ["walk","going","ways","turn"] f1 cY)(aab:aL P w K mg base a5 4 f1 cY ["walk","going","ways","turn"] (Lp K C aV az))(n3:c0 K az "road" "Net.road" tM ["self","number"] f2 d8)(C8:aL P w K mg base a5 1 f2 d8 ["self","number"] (IW az)):
  aL P w K mg base a5 5 f fd ["net","walk","going","ways","turn"] (KI K C aV az):=by
 refine F.ok xp (λvs H Q E h=>?_) (λcdv A outer s H vs Q E aq h=>?_)
 .obtain⟨x,n,g,st,gl,y,t,bt,bu,b6,ls,rs,aI,hs,ds,kvs,tb,hw,go,due,rd,T,rfl,_⟩:=h;rfl
 .obtain⟨x,n,g,st,gl,y,t,bt,bu,b6,ls,rs,aI,hs,ds,kvs,tb,hw,go,due,rd,T,rfl,MW,W,G2,uN,R,G,amI,aph,ok,Iv,q⟩:=h;have eE:go.length<=60:=by rw[MW];exact e3 (ky _ _) amI
  have Qt:go.Nodup:=by rw[MW];exact aph.filter _
  obtain⟨iL,aS⟩:=uN.hi.ins;refine⟨_,(bc (c8 (i:=5) xp.aJ rfl (b5 rfl) (fj aab (aq.mono (by decide)) (by rfl) C_.at_ C_.fn.bQ C_.bd .nil dj (ak (U 1) (ak (U 2) (ak (U 3) (ak (U 4) aD))))))
   (bc (c8 (i:=6) xp.aJ rfl (b5 rfl) (gJ aD))
   (bc (kd kz rfl (jL (dB (arR rfl) (by rfl) B.sorted yu (ak (U 5) aD))) (ei (i:=7) xp.aJ rfl (b5 rfl))
    (bc (c8 (i:=8) xp.aJ rfl (b5 rfl) (cp e5 (gZ (U 0) hp n3.eh C8 (aq.mono (by decide)) n3.bd .nil dj (ak (U 7) aD)) aW (λ_ _=>rfl)))
   (bc (tj (i:=9) xp.aJ rfl rfl rfl (N':=["came","number"]) (cs:=[none,none]) rfl (jL (SH TK (dB PY (by rfl) B.sorted yu (ak (tp (iM aq) (U 5) (U 7) (λ_ _=>rfl)) aD)) VL (I8 (U 8)))) rfl (by decide+kernel) rfl (by decide+kernel) (lq (λp aR=>bE aR (eA))) rfl
    (.own (.own .nil))
    (λC s3 bg cb e9=>⟨(D2 (K:=K) (n:=2) rfl rfl (h3 (ei (i:=0) (by show(["came","number"]:cf).Nodup;decide+kernel) rfl (.inl rfl)) (h3 (ei (i:=1) (by show(["came","number"]:cf).Nodup;decide+kernel) rfl (.inl rfl)) pj))),qv,(U 1)⟩))
   (bo (gI (nr nV o1 o2 m' (U 6) (ak (i1 (ak (U 4) (ak (U 7) (ak (m9 ê (by rfl) B.tuple yC (ak (dB ì (by rfl) B.sorted yu (ak (U 9) aD)) aD)) aD)))) aD)))))))
   (bo (c7 (U 6)))))),?_⟩
  refine⟨_,rfl,_,rfl,_,rfl,_,rfl,x,n,g,st,gl,y,n,t,bt,bu,b6,ls,aI,hs,_,kvs,tb,hw,due,rd,T,rfl,W,G2,uN,G,(by omega),ok,λp H1 E np s1 l5 mem=>?_⟩;rw[<-MW]at l5 mem;refine⟨e4 _,λaM j0=>?_⟩;have s2:=bU (o:=.lst []) j0;have NJ:upd H1 aM (.lst []) aM=some (.lst []):=aQ;generalize upd H1 aM (.lst [])=ah at s2 NJ⊢;obtain⟨g4,F_⟩:∃g4,g4=E.map (·.1):=⟨_,rfl⟩
  have Ô:g4.Nodup:=by rw[F_];exact l5.tF
  have en:(lV E).map (·.1)=(i4 g4).map eX:=by rw[F_];unfold lV i4;rw[jH,jH,jH];rfl
  have atJ:g4.length<=go.length:=by
   have ai:=Sg (sn:=g4) (L:=go.map rd) Ô λr aq=>by rw[F_]at aq;obtain⟨c,ax⟩:=WD _ ((mem r).mp aq);unfold eS at ax;obtain⟨k,aX,_⟩:=cn.mp ax;obtain⟨bR,cS⟩:=hC.mp aX;simp only[jD,decide_eq_true_eq]at cS;exact cn.mpr ⟨k,bR,cS.2⟩
   rwa [bp]at ai
  refine⟨_,rfl,p,lV E,i4 g4,rfl,s2 _ _ l5.tab,en,(by unfold i4;rw[bp];omega),λbj i7=>⟨bj,rfl,⟨_,aG.of aQ⟩,?_⟩⟩;rw[<-D8,<-tP];have s3:=bU (o:=.lst (fC (fz g4))) i7;have Ou:upd ah bj (.lst (fC (fz g4))) bj=some (.lst (fC (fz g4))):=aQ;have ZY:=s3 _ _ NJ;have aqy:bj≠aM:=cL (hS NJ i7);generalize upd ah bj (.lst (fC (fz g4)))=bg at s3 Ou ZY⊢;obtain⟨rl,u6⟩:∃rl,rl=fz g4:=⟨_,rfl⟩
  rw[<-u6]at Ou;have P0:∀r,r∈rl↔eS due rd T go r≠[]:=λr=>by rw[u6,(vx g4).mem_iff,F_];exact mem r
  have og:rl.length<=100:=by rw[u6,(vx g4).length_eq];omega
  refine qd (xs:=fC (fz g4)) (ajg n x gl y p aM bj T rl ds due rd go H1)
   ⟨[],none,none,none,rfl,s2.trans s3,Ou,ZY,.nil⟩ (λi σ b3 _⟨_,_,_,_,_,_,h,_,_⟩=>by rw[<-u6];exact aG.of h) ?_ ?_
  .rintro j z σ b3 dx ⟨as,v1,v2,gS,rfl,aF,Ζ,NL,g0⟩;rw[<-u6]at dx;unfold fC at dx;rw[c6]at dx;obtain⟨r,gb,rfl⟩:=fL.mp dx;have Β:=eK gb;obtain⟨uW,Z1⟩:=WD _ ((P0 r).mp Β);have aui:r<ds.length:=by unfold eS at Z1;obtain⟨k,aX,_⟩:=cn.mp Z1;obtain⟨bR,cS⟩:=hC.mp aX;simp only[jD,decide_eq_true_eq]at cS;rw[<-cS.2];exact Iv k bR
   have Rw:=s1.trans aF;have afD:=R.same Rw;have aqk:=R.len;obtain⟨gB,era⟩:∃gB,rs[r]?=some gB:=⟨_,dn (by omega)⟩
   obtain⟨d,dS,rP,hd⟩:=afD.get era;have cT:ds.getD r qM=d:=tZ dS;refine⟨_,rfl,n,iL,_,rfl,Rw _ _ aS,rfl,_,rfl,n,bt,bu,_,_,_,_,rfl,uN.hi.same Rw,(by omega),(by have:=eB rs;omega),(iI (by unfold aH;rw[c6,era];rfl)),gB,_,_,_,rfl,rfl,cH.of hd,rfl,?_⟩;have em:(d.m:Int)=iv ds r:=by unfold iv;rw[cT]
   have m0:0<=iv ds r:=by rw[<-em];have:=rP.m.1;omega
   obtain⟨cs,n5⟩:∃cs,cs=eS due rd T go r:=⟨_,rfl⟩
   have at8:cs.Nodup:=by rw[n5];exact ahg Qt
   have lcs:cs.length<=60:=by rw[n5];have:=Wa due rd T go r;omega
   have an6:r∈E.map (·.1):=(mem r).mpr ((P0 r).mp Β);obtain⟨⟨r0,lr⟩,he,aE⟩:=cn.mp an6;have aE:r0=r:=aE;subst aE;obtain⟨_,_,ts,N9,EB⟩:=(l5.same aF).each _ he;have EB:d7 b3 ts (cs.map i8):=by rw[n5];exact EB
   have an2:=(l5.same aF).tab;have Zy:=iR.k (k:=eX (r0:Int)) an2;rw[Ir l5.tF he]at Zy;have Sl:=EB.len;rw[bp]at Sl;obtain⟨k,BB⟩:∃k,k=(iv ds r0).toNat:=⟨_,rfl⟩
   obtain⟨ch,sZ⟩:∃ch,ch=((jg cs).take k).map (·.2):=⟨_,rfl⟩
   have at9:ch.Nodup:=by rw[sZ,n5];exact VX Qt k
   have dQ:((jg cs).take k).length<=60:=by rw[ml];have:=(vg cs).length_eq;omega
   refine Fq ?_;dsimp only;refine IY ?_;refine Wb (K:=K) (rest:=[]) (ds:=((jg cs).take k).map i8) (λK0 Cy=>?_) rfl (eM (by rw[bp];omega)) (λi=>V.int ((((jg cs).take k).getD i (0,0)).2:Int)) (λd' mE=>?_) (λi u v bx K0 el s5 bT=>?_) (λD bx qD bN s5=>?_)
   .refine⟨_,rfl,_,rfl,p,_,rfl,Zy,lr,ts,cs.map qF,true,[true],rfl,aG.of N9,Ri EB,(by omega),Vf cs,λhQ pA=>?_⟩;obtain⟨wj,BE,Sn⟩:=ř EB;have s4:=bU (o:=.lst (gM V.bl (l2 (cs.map qF)) (ts.map V.ref))) pA;have jS:upd b3 hQ (.lst (gM V.bl (l2 (cs.map qF)) (ts.map V.ref))) hQ=some (.lst (aH wj)):=by rw[aQ];rw[show ts.map V.ref=aH ts from rfl,BE]
    refine⟨_,rfl,_,rfl,hQ,_,rfl,aG.of jS,λgN kT=>⟨gN,rfl,⟨_,aG.of aQ⟩,?_⟩⟩;rw[em,Vg wj m0,<-BB];refine Cy gN _ (wj.take k) (nu s4 kT) (s4.trans (bU kT)) aQ ?_;rw[Kn];exact(Sh k (Sn.same s4)).same (bU kT)
   .obtain⟨c,_,rfl⟩:=cn.mp mE;exact⟨_,_,rfl⟩
   .rw[c6]at el;obtain⟨c,h5,aB⟩:=fL.mp el;have cJ:V.int (c.2:Int)=v:=by unfold i8 at aB;simp only[Ki]at aB;exact aB.2.1
    refine⟨_,rfl,?_⟩;rw[<-cJ];have:=bT bx (aN.refl _);rw[tZ h5]at this;exact this
   have Bv:(d_ (((jg cs).take k).map i8).length).map (λi=>V.int ((((jg cs).take k).getD i (0,0)).2:Int))=fC ch:=by rw[bp,range_getD (λc:Int×Nat=>V.int (c.2:Int)) (0,0) ((jg cs).take k),sZ];unfold fC;rw[jH];rfl
   rw[Bv,tP]at bN;have NK:=s5 _ _ NL;have gO:=gE g0;rw[bp,ml]at gO;refine⟨_,rfl,.inl ⟨rfl,_,aG.of NK⟩,_,rfl,_,rfl,_,rfl,D,i4 ch,rfl,aG.of bN,(by unfold i4;rw[bp,sZ,bp];omega),λkn tG=>⟨kn,_,rfl,.inl ⟨aG.of aQ,λc g6=>⟨(by show 3<=sizeLine;decide),λej ou=>⟨aM,aH as,_,rfl,rfl,bU ou _ _ (bU g6 _ _ (bU tG _ _ NK)),eM (by rw[eB];omega),?_⟩⟩⟩⟩⟩;rw[<-D8,<-tP];have fR:=bU (o:=.lst (fC (fz ch))) tG;have kg:∀b o,bx b=some o->upd bx kn (.lst (fC (fz ch))) b=some o:=fR;rw[<-D8,<-tP]at g6 ou;generalize upd bx kn (.lst (fC (fz ch)))=f6 at fR g6 ou⊢;have gd:=bU (o:=.tup (fC (fz ch))) g6;have CD:upd f6 c (.tup (fC (fz ch))) c=some (.tup (fC (fz ch))):=aQ;generalize upd f6 c (.tup (fC (fz ch)))=eQ at gd CD ou⊢;have e':=bU (o:=.tup [V.int T,V.int (r0:Int),V.ref c]) ou;have Z0:upd eQ ej (.tup [V.int T,V.int (r0:Int),V.ref c]) ej=some (.tup [V.int T,V.int (r0:Int),V.ref c]):=aQ;have CE:=e' _ _ CD;generalize upd eQ ej (.tup [V.int T,V.int (r0:Int),V.ref c])=dz at e' Z0 CE⊢;have pG:=fR.trans (gd.trans e');have rx:=pG _ _ NK;have nb:hq dz ej (hK ds due rd T go r0):=by
    refine⟨c,Z0,?_⟩;have u0:(hK ds due rd T go r0).2=fz ch:=by unfold hK q3;rw[<-n5,<-BB,<-sZ]
    rw[u0];exact CE
   refine⟨as++[ej],_,_,_,rfl,kc j0 (aF.trans (s5.trans pG)),by rw[aA aqy];exact pG _ _ (s5 _ _ Ζ),by rw[aQ,ru],?_⟩;rw[show rl.take (j+1)=rl.take j++[r0] by rw[oW,gb];rfl,eW];refine Paired.snoc (nb.upd rx) (bk.e2 g0 λa b h=>((h.same s5).same pG).upd rx)
  .rintro σ b3 ⟨as,v1,v2,gS,rfl,aF,Ζ,NL,g0⟩;rw[<-u6]at g0;unfold fC at g0;rw[bp,oX]at g0;exact⟨_,rfl,q aM b3 as rl (nu s1 j0) (s1.trans aF) NL g0 (by rw[u6];exact adK Ô) P0⟩
noncomputable def aqr:Step:=⟨0,none,mr,0⟩
noncomputable def rU(ss:List Step):Step:=ss.getLastD aqr
noncomputable def fZ(aI:fa)(n:Nat):Step:=rU (aI.getD n [])
noncomputable def iP(aI:fa)(n:Nat):Int:=(fZ aI n).due
noncomputable def jP(b6:cf)(n:Nat):Str:=b6.getD n mr
noncomputable def iw(kvs:eV)(b6:cf)(aI:fa)(n:Nat):Nat:=(jW kvs (fZ aI n).fc (jP b6 n)).getD 0
theorem aaS(ss:List Step)(s:Step):rU (ss++[s])=s:=by unfold rU;rw[acD,List.getLast?_append];rfl
theorem aaT{ss:List Step}(h:ss≠[]):∃i,ss=i++[rU ss]:=by refine⟨ss.dropLast,?_⟩;unfold rU;rw[acD,List.getLast?_eq_getLast h];exact(List.dropLast_concat_getLast h).symm
theorem VY{α:Type}{l:List α}{i:Nat}{d:α}(h:i<l.length):l[i]?=some (l.getD i d):=by rw[eJ,dn h];rfl
noncomputable def ni(m:Nat)(due:Nat->Int)(rd:Nat->Nat)(T:Int)(go:dH):List Nat:=(d_ m).filter λr=>!(eS due rd T go r).isEmpty
noncomputable def oj(ds:bZ)(due:Nat->Int)(rd:Nat->Nat)(T:Int)(go:dH):List (k7×List Nat):=(ni ds.length due rd T go).map (hK ds due rd T go)
theorem Vi{m:Nat}{due:Nat->Int}{rd:Nat->Nat}{T:Int}{go:dH}(cK:∀k∈go,rd k<m){rl:dH}(up:rl.Pairwise (· < ·))(mem:∀r,r∈rl↔eS due rd T go r≠[]):rl=ni m due rd T go:=by
 have ğ:(ni m due rd T go).Pairwise (· < ·):=acH.filter _;have aoW:∀r,r∈ni m due rd T go↔eS due rd T go r≠[]:=λr=>by
  unfold ni;rw[hC];constructor
  .rintro⟨_,h⟩ e;rw[e]at h;cases h
  .intro h;obtain⟨c,ax⟩:=WD _ h;refine⟨lK.mpr ?_,?_⟩
   .unfold eS at ax;obtain⟨k,aX,_⟩:=cn.mp ax;obtain⟨bR,cS⟩:=hC.mp aX;simp only[jD,decide_eq_true_eq]at cS;rw[<-cS.2];exact cK k bR
   .cases e:eS due rd T go r with
    |nil=>exact bE e h
    |cons _ _=>rfl
 refine V_ (R:=(· < ·)) (λa b af ai=>by omega) ((List.perm_ext_iff_of_nodup (up.imp λh=>eD h) (ğ.imp λh=>eD h)).mpr λr=>?_) up ğ;rw[mem r,aoW r]
theorem I1{ds:bZ}{due:Nat->Int}{rd:Nat->Nat}{T:Int}{go:dH}{r i:Nat}(h:i∈(hK ds due rd T go r).2):i∈go/\due i<=T/\rd i=r:=by unfold hK q3 at h;have af:=(vx _).mem_iff.mp h;obtain⟨c,ax,rfl⟩:=cn.mp af;have ai:=(vg _).mem_iff.mp (acG ax);unfold eS at ai;obtain⟨k,aX,rfl⟩:=cn.mp ai;obtain⟨bR,cS⟩:=hC.mp aX;simp only[jD,decide_eq_true_eq]at cS;exact⟨bR,cS.1,cS.2⟩
theorem Xi{ds:bZ}{due:Nat->Int}{rd:Nat->Nat}{T:Int}{go:dH}(aJ:go.Nodup)(r:Nat):(hK ds due rd T go r).2.Nodup:=((vx _).nodup_iff).mpr (VX aJ _)
theorem ahj{ds:bZ}{due:Nat->Int}{rd:Nat->Nat}{T:Int}{go:dH}{r:Nat}(hm:1<=iv ds r)(h:eS due rd T go r≠[]):(hK ds due rd T go r).2≠[]:=λe=>by have hQ:=hh sq e;unfold hK q3 at hQ;rw[(vx _).length_eq,bp,ml,(vg _).length_eq]at hQ;have gN:=AH.mpr h;simp only[AG]at hQ;omega
noncomputable def od(hs:br)(ds:bZ)(bs:mu)(aI:fa):List (List Step):=bs.foldl (λs b=>l1 (stepK hs ds b.1) b.2 s) aI
theorem ww(hs:br)(ds:bZ):∀(bs:mu)(aI:fa),(od hs ds bs aI).length=aI.length
 |[],_=>rfl
 |b::bs,aI=>by show(od hs ds bs (l1 (stepK hs ds b.1) b.2 aI)).length=_;rw[ww hs ds bs,Ic]
theorem Vj(hs:br)(ds:bZ):∀(bs:mu)(aI:fa)(i:Nat),(od hs ds bs aI)[i]?=(aI[i]?).map λss=>ss++((bs.filter λb=>decide (i∈b.2)).map λb=>stepK hs ds b.1)
 |[],aI,i=>by show aI[i]?=_;cases aI[i]?<;>simp
 |b::bs,aI,i=>by
  show(od hs ds bs (l1 (stepK hs ds b.1) b.2 aI))[i]?=_;rw[Vj hs ds bs,Ds,Option.map_map];congr 1;funext ss;show(if i∈b.2 then ss++[stepK hs ds b.1]else ss)++_=_;rw[lJ];by_cases z:i∈b.2
  .rw[bL z,bL (cq z),hW,List.append_assoc];rfl
  .rw[bF z,bF (by rw[dF z];decide)]
theorem Ś(hs:br)(ds:bZ)(bs:mu)(b:k7×List Nat)(aI:fa):od hs ds (bs++[b]) aI=l1 (stepK hs ds b.1) b.2 (od hs ds bs aI):=by unfold od;rw[List.foldl_append];rfl
theorem aaU{L:dH}(aJ:L.Nodup){p:Nat->Bool}{r0:Nat}(h:∀r∈L,p r=true->r=r0)(h0:p r0=true->r0∈L):L.filter p=if p r0=true then[r0]else[]:=by
 by_cases z:p r0=true
 .rw[bL z];have gv:=aJ.filter p;have all:∀r∈L.filter p,r=r0:=λr aq=>h r (hC.mp aq).1 (hC.mp aq).2;have m0:r0∈L.filter p:=hC.mpr ⟨h0 z,z⟩
  match e:L.filter p with
  |[]=>rw[e]at m0;exact bE m0 eA
  |[a]=>rw[e]at all;rw[all a (.head _)]
  |a::b::l=>
   rw[e]at all gv;have:=(iH.mp gv).1;exact bE (by rw[all a (.head _),all b (.tail _ (.head _))];exact .head _) this
 .rw[bF z];refine List.filter_eq_nil_iff.mpr λr aq aR=>z ?_;rw[<-h r aq aR];exact aR
noncomputable def KJ(ds:bZ)(due:Nat->Int)(rd:Nat->Nat)(T:Int)(go:dH)(i:Nat):Bool:=decide (i∈(hK ds due rd T go (rd i)).2)
theorem afq{ds:bZ}{due:Nat->Int}{rd:Nat->Nat}{T:Int}{go:dH}(cK:∀k∈go,rd k<ds.length)(i:Nat):(oj ds due rd T go).filter (λb=>decide (i∈b.2))=if KJ ds due rd T go i=true then[hK ds due rd T go (rd i)]else[]:=by
 unfold oj;rw[AB];have aJ:(ni ds.length due rd T go).Nodup:=(acH.filter _).imp λh=>eD h;rw[aaU (r0:=rd i) aJ (p:=(λb:k7×List Nat=>decide (i∈b.2))∘hK ds due rd T go) (λr _ aR=>((I1 (jk aR)).2.2).symm) (λaR=>?_)]
 .show List.map _ (if KJ ds due rd T go i=true then[rd i]else[])=_;cases KJ ds due rd T go i<;>rfl
 .have m:=I1 (jk aR);unfold ni;refine hC.mpr ⟨lK.mpr (cK i m.1),?_⟩;have hm:(due i,i)∈eS due rd T go (rd i):=by unfold eS;refine cn.mpr ⟨i,hC.mpr ⟨m.1,?_⟩,rfl⟩;rw[cq m.2.1,cq rfl];rfl
  cases e:eS due rd T go (rd i)with
  |nil=>rw[e]at hm;exact bE hm eA
  |cons _ _=>rfl
end
structure Lq(mg:cB):Prop where
 acV:q_ mg "MOST_LETTERS" 40
 acZ:q_ mg "MOST_TURN" 1000000000
 acT:q_ mg "MOST_APART" 30
noncomputable def ij(hs:fy):PyData->Bool
 |.tuple [a,t,g]=>hc hs a g&&D4 0 1000000000 t
 |_=>false
theorem ar6{hs ds:fy}(h:ds.length≠3):ij hs (.tuple ds)=false:=by rcases ds with _|⟨a,_|⟨b,_|⟨c,_|⟨e,r⟩⟩⟩⟩<;>first|rfl|(simp at h)
noncomputable def nx:PyData->Int
 |.tuple [_,.int t,_]=>t
 |_=>0
theorem ar7{hs:fy}{d:PyData}(h:ij hs d=true):∃a t g,d=.tuple [a,.int t,g]/\0<=t/\t<=1000000000:=by
 unfold ij at h;split at h
 .rename_i a t g;rw[jD]at h;cases t with
  |int i=>
   have ai:(decide (0<=i)&&decide (i<=1000000000))=true:=h.2;rw[jD]at ai;exact⟨a,i,g,rfl,jk ai.1,jk ai.2⟩
  |_=>cases h.2
 .cases h
noncomputable def zg(ns:gX):Int:=if ns=[]then 0 else t2 ns-oi ns
inductive afr(vs:aY)(H:ae)(Q:a')(bI:b2):Prop where
 |mk (a:Addr) (hs:fy) (v:ao.V) (d:PyData) (bV:vs=[.ref a,v]) (bD:dm H (.ref a) (.list hs)) (b_:dm H v d) (c_:d.depth<=61) (d1:Q (.aM (ij hs d)) H)
noncomputable def J2:cG:=λvs H Q bI=>afr vs H Q bI
inductive adN(vs:aY)(H:ae)(Q:a')(bI:b2):Prop where
 |mk (v:ao.V) (hs ds:fy) (bV:vs=[v]) (bD:dm H v (.list ds)) (b_:(∀d∈ds,ij hs d=true)) (c_:∀H',aN H H'->Q (.int (zg (ds.map nx))) H')
noncomputable def TY:cG:=λvs H Q bI=>adN vs H Q bI
inductive ah1(C:Addr)(vs:aY)(H:ae)(Q:a')(bI:b2):Prop where
 |mk (e:Addr) (v:ao.V) (bV:vs=[.ref e,v]) (bD:H e=some (nf e C)) (b_:∀ag,H ag=none->ag≠e->Q .bl (upd (upd H ag (ma ag [("number",v)])) e (nd e C ag)))
noncomputable def FW(C:Addr):cG:=λvs H Q bI=>ah1 C vs H Q bI
noncomputable def lj(hs:fy):List PyData->Option Nat
 |[]=>none
 |d::r=>if ij hs d=true then(lj hs r).map (·+1)else some 0
noncomputable def Lr:Option Nat->ao.V
 |some i=>.int i
 |none=>.bl
noncomputable def sa(hs ds:fy):Prop:=lj hs ds=none/\ds.length<=40/\zg (ds.map nx)<=30
inductive ahk(C d6:Addr)(vs:aY)(H:ae)(Q:a')(E:b2):Prop where
 |mk (x bt bu:Addr) (hs:br) (zs:aY) (v:ao.V) (ds:fy) (bV:vs=[.ref x,v]) (bD:jV C H x bt bu (cE hs) zs) (b_:Good hs) (c_:dm H v (.list ds)) (d1:(FP ds).depth<=62) (fw:(sa (bN hs) ds->∀l H',H l=none->aN H H'->dm H' (.ref l) (.list ds)->Q (.ref l) H')) (iE:(¬sa (bN hs) ds->∀ag H',H ag=none->aN H H'->H' ag=some (ma ag [("number",Lr (lj (bN hs) ds))])->E (.ref d6) (some ag) H'))
noncomputable def KL(C d6:Addr):cG:=λvs H Q E=>ahk C d6 vs H Q E
section
variable{P:bJ}{w:bq}{K:aU}{mg:cB}{base:Heap}
noncomputable abbrev RF:Stmt:=gL (top 6) 0
theorem ajh:dw ["self","number"] ["self","number"] (c3 RF):=⟨rfl,rfl,rfl,by decide+kernel,rfl,by decide+kernel,by decide+kernel⟩
theorem ah2{C R f:Addr}{fd:cz}(F:bw K "__init__" "NoLetter.__init__" RF f fd)(jC:p3 K mg "RoadError" C R)(p':mg "RoadError"=some (.ref R))(aS:b1 K (.ref C) "number"=some none):aL P w K mg base a5 1 f fd ["self","number"] (FW C):=by
 refine F.ok ajh (λvs H Q E h=>?_) (λcdv A outer s H vs Q E aq h=>?_)
 .obtain⟨e,v,rfl,_⟩:=h;rfl
 .obtain⟨e,v,rfl,he,q⟩:=h;refine⟨_,(bc (gI (aco (by rfl) p' jC.rd jC.M9 jC.RV (ak (U 0) (ak jO aD))))
   (bo (afi (y:="RoadError") (R:=R) (U 0) (U 1) rfl))),?_⟩
  refine⟨_,rfl,e,C,_,rfl,he,jC,(by show 1<=sizeLine;decide),?_⟩;exact⟨_,rfl,_,rfl,e,C,rfl,jC,aS,.inl ⟨he,q⟩⟩
noncomputable abbrev AV:Stmt:=top 16
theorem ah3:dw ["houses","thing"] ["houses","thing"] (c3 AV):=⟨rfl,rfl,rfl,by decide+kernel,rfl,by decide+kernel,by decide+kernel⟩
theorem ahl{f f1 f2 cv:Addr}{fd cY d8 g8:cz}(F:bw K "is_letter" "is_letter" AV f fd)(uc:Lq mg)(p6:dJ K mg "is_tuple_of" vX ["thing","length"] f1 cY)(Co:aL P w K mg base a5 1 f1 cY ["thing","length"] S')(lQ:dJ K mg "are_unlike_houses" tq ["houses","one","other"] f2 d8)(uY:aL P w K mg base a5 1 f2 d8 ["houses","one","other"] Ie)(m6:dJ K mg "is_whole_within" vI ["thing","least","greatest"] cv g8)(xX:aL P w K mg base a5 2 cv g8 ["thing","least","greatest"] Sr):
  aL P w K mg base a5 3 f fd ["houses","thing"] J2:=by
 refine F.ok ah3 (λvs H Q E h=>?_) (λcdv A outer s H vs Q E aq h=>?_)
 .obtain⟨a,hs,v,d,rfl,_⟩:=h;rfl
 .obtain⟨a,hs,v,d,rfl,aK,h,dd,q⟩:=h;refine⟨_,(bo (c7 (jw (fj Co (aq.mono (by decide)) (by rfl) p6.at_ p6.fn.bQ p6.bd .nil dj (ak (U 1) (ak aW aD))) (jw (fj uY (aq.mono (by decide)) (by rfl) lQ.at_ lQ.fn.bQ lQ.bd .nil dj (ak (U 0) (ak (cp e5 (U 1) aW (λ_ _=>rfl)) (ak (cp e5 (U 1) aW (λ_ _=>rfl)) aD)))) (mH (fj xX (aq.mono (by decide)) (by rfl) m6.at_ m6.fn.bQ m6.bd .nil dj (ak (cp e5 (U 1) aW (λ_ _=>rfl)) (ak aW (ak (tk (by rfl) uc.acZ) aD))))))))),?_⟩;refine⟨_,rfl,v,d,_,rfl,h,_,rfl,?_⟩;cases h with
  |@tup r xs ds lZ z t=>
   show if decide ((ds.length:Int)=3)=true then _ else _
   by_cases cS:ds.length=3
   .refine fu (cq (by omega)) ?_;have CW:xs.length=3:=by rw[t.len];exact cS
    obtain⟨x0,eP,hT,rfl⟩:∃x0 eP hT,xs=[x0,eP,hT]:=by rcases xs with _|⟨a,_|⟨b,_|⟨c,_|⟨d,r⟩⟩⟩⟩<;>first|exact⟨_,_,_,rfl⟩|(simp at CW)
    cases t with
    |cons t0 t=>
     cases t with
     |cons t1 t=>
      cases t with
      |cons f5 t=>
       cases t;rename_i fA jK my;have q:Q (.aM (hc hs fA my&&D4 0 1000000000 jK)) H:=q;have ant:uB [fA,jK,my]+1<=61:=dd;have kA:fA.depth<=60:=e3 (Sf (by simp:fA∈[fA,jK,my])) (by omega);have f9:my.depth<=60:=e3 (Sf (by simp:my∈[fA,jK,my])) (by omega);refine⟨_,rfl,_,rfl,r,_,_,_,rfl,rfl,cH.of lZ,rfl,_,rfl,r,_,_,_,rfl,rfl,cH.of lZ,rfl,a,hs,x0,hT,fA,my,rfl,aK,t0,f5,kA,f9,_,rfl,?_⟩;cases af:hc hs fA my with
       |false=>
        rw[af]at q;exact gs q
       |true=>
        rw[af,UY]at q;exact hP ⟨_,rfl,r,_,_,_,rfl,rfl,cH.of lZ,rfl,eP,jK,_,_,rfl,t1,q⟩
   .refine ek (dF (by omega)) ?_;rw[ar6 cS]at q;exact q
  |_=>exact gs q
noncomputable abbrev EV:Stmt:=top 17
theorem VZ:dw ["letters","turns"] ["letters"] (c3 EV):=⟨rfl,rfl,rfl,by decide+kernel,rfl,by decide+kernel,by decide+kernel⟩
theorem ś{H:ae}{hs:fy}:∀{vs:aY}{ds:fy},eL H vs ds->(∀d∈ds,ij hs d=true)->vs.map (λv=>V.int (nx (F9 H v)))=(ds.map nx).map V.int
 |_,_,.nil,_=>rfl
 |_,_,.cons a b,h=>by simp only[hW];rw[US a,ś b λd hd=>h d (mm _ hd)]
theorem adO{f:Addr}{fd:cz}(F:bw K "turns_apart" "turns_apart" EV f fd)(B:gg mg):aL P w K mg base a5 1 f fd ["letters"] TY:=by
 refine F.ok VZ (λvs H Q E h=>?_) (λcdv A outer s H vs Q E aq h=>?_)
 .obtain⟨v,hs,ds,rfl,_⟩:=h;rfl
 .obtain⟨v,hs,ds,rfl,bC,aj,q⟩:=h;obtain⟨a,xs,rfl,aK,hz,t⟩:=JR bC;refine⟨_,(bc (tj (i:=1) VZ.aJ rfl rfl rfl (N':=["letter"]) (cs:=[none]) rfl (jL (U 0)) rfl (by decide+kernel) rfl (by decide+kernel) (lq (λp aR=>bE aR (eA))) rfl
    (.own .nil)
    (λC s3 bg cb e9=>⟨(ei (i:=0) (by show(["letter"]:cf).Nodup;decide+kernel) rfl (.inl rfl)),qv,(cp (vG (K:=K) rfl) (U 0) aW (λ_ _=>rfl))⟩))
   (bo (c7 (bH rN (afL rfl (by rfl) B.max (ak (U 1) aD) aW) (afM rfl (by rfl) B.min (ak (U 1) aD) aW))))),?_⟩
  dsimp only[lz,qZ];refine IQ (J:=mf K a) (H1:=H) (xs:=xs) (rest:=[]) (λR h=>⟨_,rfl,a,rfl,⟨_,aG.of aK⟩,h⟩) rfl (tn (aG.of aK)) (eM (by omega)) (λv=>.int (nx (F9 H v))) (λi x ah R ex aF cO=>?_) (λD H' af ai bR=>?_)
  .obtain⟨d,dS,hd⟩:=t.get ex;obtain⟨alY,EA,MO,rfl,_,_⟩:=ar7 (aj d (eK dS));have jz:=cO ah (aN.refl _);rw[US hd]at jz;clear cO;obtain⟨r,ys,rfl,lZ,_,ty⟩:=WS (hd.same aF);cases ty with
   |cons t0 ty=>
    cases ty with
    |cons t1 ty=>
     cases ty with
     |cons f5 ty=>
      cases ty;obtain rfl:=agH t1;exact⟨_,rfl,r,_,_,_,rfl,rfl,cH.of lZ,rfl,jz⟩
  .rw[ś t aj]at ai;have q:=q H' bR;unfold zg at q;by_cases hz:ds.map nx=[]
   .rw[bL hz]at q;refine⟨_,rfl,.int 0,D,ds.map nx,rfl,rfl,aG.of ai,λ_=>?_,λz=>bE hz z⟩;exact⟨_,rfl,.int 0,D,ds.map nx,rfl,rfl,aG.of ai,λ_=>⟨_,_,rfl,rfl,q⟩,λz=>bE hz z⟩
   .rw[bF hz]at q;refine⟨_,rfl,.int 0,D,ds.map nx,rfl,rfl,aG.of ai,λz=>bE z hz,λ_=>?_⟩;exact⟨_,rfl,.int 0,D,ds.map nx,rfl,rfl,aG.of ai,λz=>bE z hz,λ_=>⟨_,_,rfl,rfl,q⟩⟩
noncomputable abbrev AW:Stmt:=top 18
theorem Ff:dw ["net","some","houses","number","thing"] ["net","some"] (c3 AW):=⟨rfl,rfl,rfl,by decide+kernel,rfl,by decide+kernel,by decide+kernel⟩
theorem QP{hs:fy}:∀{ds:fy}{i:Nat},(∀j,j<i->∀d,ds[j]?=some d->ij hs d=true)->(∃d,ds[i]?=some d/\ij hs d=false)->lj hs ds=some i
 |[],i,_,⟨d,e,_⟩=>by simp at e
 |x::r,0,_,⟨d,e,h⟩=>by simp at e;subst e;unfold lj;rw[bF (by rw[h];exact ff)]
 |x::r,i+1,h0,⟨d,e,h⟩=>by unfold lj;rw[bL (h0 0 (by omega) x rfl),QP (ds:=r) (i:=i) (λj bK d dS=>h0 (j+1) (by omega) d (by simpa using dS)) ⟨d,by simpa using e,h⟩];rfl
theorem Hp{hs:fy}:∀{ds:fy},(∀d∈ds,ij hs d=true)↔lj hs ds=none
 |[]=>by simp[lj]
 |x::r=>by
  unfold lj;by_cases h:ij hs x=true
  .rw[bL h];constructor
   .intro q;rw[Hp.mp λd hd=>q d (mm _ hd)];rfl
   .intro q;have cU:lj hs r=none:=by
     cases e:lj hs r with
     |none=>rfl
     |some k=>rw[e]at q;cases q
    intro d hd;rcases dA.mp hd with rfl|hd
    .exact h
    .exact Hp.mpr cU d hd
  .rw[bF h];constructor
   .intro q;exact bE (q x (su ..)) h
   .intro q;cases q
theorem ahm{C d6 f f1 f2 cv n7:Addr}{R:Addr}{fd cY d8 g8 Zf:cz}(F:bw K "letters_of" "letters_of" AW f fd)(B:gg mg)(uc:Lq mg)(hp:fp K C)(mv:c0 K C "houses" "Net.houses" vC ["self"] f1 cY)(p8:aL P w K mg base a5 1 f1 cY ["self"] (Dp C))(Dc:dJ K mg "is_letter" AV ["houses","thing"] f2 d8)(QR:aL P w K mg base a5 3 f2 d8 ["houses","thing"] J2)(Cp:dJ K mg "turns_apart" EV ["letters"] cv g8)(PO:aL P w K mg base a5 1 cv g8 ["letters"] TY)(Dd:p3 K mg "RoadError" d6 R)(vh:mg "NoLetter"=some (.ref d6))(đ:o4 K (.ref d6)=true)(Ĝ:b1 K (.ref d6) "__init__"=some (some (.ref n7)))(ĝ:fO K (.ref n7)=true)(Hi:aL P w K mg base a5 1 n7 Zf ["self","number"] (FW d6))(ul:Binds K Zf ["self","number"] []):
  aL P w K mg base (mX P w) 4 f fd ["net","some"] (KL C d6):=by
 refine æ F Ff (λvs H Q E h=>?_) (λcdv A outer s H vs Q E aq h=>?_)
 .obtain⟨x,bt,bu,hs,zs,v,ds,rfl,_⟩:=h;rfl
 .obtain⟨x,bt,bu,hs,zs,v,ds,rfl,n,G,bC,dd,q,iu⟩:=h;obtain⟨ag,av⟩:=n.ins;obtain⟨a,xs,rfl,aK,hz,t⟩:=JR bC;refine⟨_,(bc (c8 (i:=2) Ff.aJ rfl (b5 rfl) (mz (U 0) hp mv.eh p8 (aq.mono (by decide)) mv.bd .nil dj))
   (bc (kd PassesOwn.leaving rfl (I9 rfl B.enumerate (ak (U 1) aD)) (vU rfl (h3 (ei (i:=3) Ff.aJ rfl (b5 rfl)) (h3 (ei (i:=4) Ff.aJ rfl (b5 rfl)) pj)))
    (bo (eO (i0 (iK (fj QR (aq.mono (by decide)) (by rfl) Dc.at_ Dc.fn.bQ Dc.bd .nil dj (ak (U 2) (ak (U 4) aD))))) (bo (ľ Dd vh đ Ĝ ĝ Hi (aq.mono (by decide)) ul rfl (ak (U 3) aD))) fi)))
   (bc (eO (ih.pt (om (eu wu (dB gH (by rfl) B.len gA (ak (U 1) aD)) (tk (by rfl) uc.acV) (dr _)) (pk (eu wu (fj PO (aq.mono (by decide)) (by rfl) Cp.at_ Cp.fn.bQ Cp.bd .nil dj (ak (U 1) aD)) (tk (by rfl) uc.acT) (dr _))))) (bo (ľ Dd vh đ Ĝ ĝ Hi (aq.mono (by decide)) ul rfl (ak kG aD))) fi)
   (bo (c7 (m9 u9 (by rfl) B.list oc (ak (U 1) aD))))))),?_⟩
  refine⟨_,rfl,x,ag,_,rfl,av,rfl,x,bt,bu,_,_,rfl,n,λl nl=>?_⟩;have s1:aN H (upd H l (.lst (cE hs))):=bU nl;have jS:=X5 (H:=upd H l (.lst (cE hs))) G aQ;generalize upd H l (.lst (cE hs))=H1 at s1 jS⊢;have go:∀(ah:ae)(v:ao.V),aN H ah->v=Lr (lj (bN hs) ds)->¬sa (bN hs) ds->∀e,ah e=none->FW d6 (V.ref e::[v]) (upd ah e (nf e d6)) (λu bg=>u=.bl/\∃ag,bg e=some (nd e d6 ag)/\E (.ref d6) (some ag) (del bg e)) ra:=λah v s2 ev vr e ne=>by
   refine⟨e,v,rfl,aQ,λag aJ HM=>⟨rfl,ag,aQ,?_⟩⟩;have DF:ah ag=none:=by rw[aA HM]at aJ;exact aJ
   have aE:del (upd (upd (upd ah e (nf e d6)) ag (ma ag [("number",v)])) e (nd e d6 ag)) e=upd ah ag (ma ag [("number",v)]):=by
    funext b;by_cases aa:b=e
    .subst aa;rw[UT,aA (cL HM)];exact ne.symm
    .rw[tL aa,aA aa];by_cases hN:b=ag
     .subst hN;rw[aQ,aQ]
     .rw[aA hN,aA hN,aA aa]
   rw[aE];refine iu vr ag _ (s2.free DF) (s2.trans (bU DF)) ?_;rw[aQ,ev]
  refine⟨_,rfl,a,rfl,⟨_,aG.of (s1 _ _ aK)⟩,?_⟩;refine SX (K:=K) (a:=a) (xs:=xs) (λi σ ah=>aN H1 ah/\(∀j,j<i->∀d,ds[j]?=some d->ij (bN hs) d=true)/\∃u v,σ=[some (.ref x),some (.ref a),some (.ref l),u,v]) ⟨aN.refl _,λj bK=>bE bK (by omega),none,none,rfl⟩ (λi σ ah h=>aG.of (h.1 _ _ (s1 _ _ aK))) ?_ ?_
  .rintro i z σ ah p dx ⟨s2,aa,u,v,rfl⟩ np;obtain⟨d,dS,hd⟩:=t.get dx;have s3:=bU (o:=.tup [V.int (i:Int),z]) np;have j1:=s1.trans (s2.trans s3);have ant:uB ds+1<=62:=dd;have kA:d.depth<=61:=e3 (Sf (eK dS)) (by omega);refine⟨p,_,rfl,cH.of aQ,rfl,_,_,rfl,_,_,rfl,rfl,?_⟩;refine⟨_,rfl,_,rfl,l,bN hs,z,d,rfl,jS.same (s2.trans s3),hd.same j1,kA,_,rfl,?_⟩;cases ar:ij (bN hs) d with
   |true=>exact gs ⟨s2.trans s3,λj bK d' u3=>by
     rcases sy j i with h|h
     .exact aa j h d' u3
     .rw[show j=i by omega,dS]at u3;cases u3;exact ar,some (.int (i:Int)),some z,rfl⟩
   |false=>
    have x_:=QP (hs:=bN hs) aa ⟨d,dS,ar⟩;refine hP ⟨_,rfl,(by show 1<=sizeLine;decide),go _ _ j1 (by rw[x_];rfl) λmC=>?_⟩;have:=mC.1;rw[x_]at this;cases this
  .rintro σ ah ⟨s2,aa,u,v,rfl⟩;have gw:=s1.trans s2;have ε:∀d∈ds,ij (bN hs) d=true:=λd hd=>by obtain⟨j,bK,rfl⟩:=Kp.mp hd;exact aa j (by rw[t.len];exact bK) _ (dn bK)
   have x_:=Hp.mp ε;have anf:=gw _ _ aK;have hlen:=t.len;refine⟨_,rfl,a,xs,rfl,.inl (aG.of anf),_,_,rfl,rfl,_,rfl,?_⟩;by_cases ZF:ds.length<=40
   .refine ek (dF (by omega)) ⟨_,rfl,.ref a,bN hs,ds,rfl,bC.same gw,ε,λbg s3=>?_⟩;have j1:=gw.trans s3;refine⟨_,_,rfl,rfl,_,rfl,?_⟩;by_cases ZD:zg (ds.map nx)<=30
    .refine ek (dF (by omega)) ?_;refine⟨_,rfl,a,xs,rfl,.inl (aG.of (j1 _ _ aK)),λgN kT=>?_⟩;have s4:=bU (o:=.lst xs) kT;exact q ⟨x_,ZF,ZD⟩ gN _ (j1.free kT) (j1.trans s4) (.lst aQ hz (t.same (j1.trans s4)))
    .refine fu (cq (by omega)) ⟨(by show 1<=sizeLine;decide),go _ _ j1 (by rw[x_];rfl) λmC=>ZD mC.2.2⟩
   .refine fu (cq (by omega)) ?_;exact hP ⟨(by show 1<=sizeLine;decide),go _ _ gw (by rw[x_];rfl) λmC=>ZF mC.2.1⟩
noncomputable def rV(n pl y cV dI dh:Addr)(pr:Int):List (Str×ao.V):=[("net",.ref n),("present",.int pr),("posted",.ref pl),("ways",.ref y),("shut_roads",.ref cV),("walk",.ref dI),("sent",.ref dh)]
end
structure ut(K:aU)(C:Addr):Prop where
 cl:fp K C
 nn:b1 K (.ref C) "net"=some none
 np:b1 K (.ref C) "present"=some none
 no:b1 K (.ref C) "posted"=some none
 tJ:b1 K (.ref C) "ways"=some none
 tE:b1 K (.ref C) "shut_roads"=some none
 nw:b1 K (.ref C) "walk"=some none
 ns:b1 K (.ref C) "sent"=some none
structure d3 where
 (ag n pl y cV dI jv dh g bj t bt bu:Addr)
 (rs kV ls ft:bS)
noncomputable def d3.bO(A:d3)(x:Addr):List Addr:=x::A.pl::A.y::A.t::A.cV::A.dI::A.g::A.bj::A.dh::A.ls
structure cX where
 pr:Int
 ba:List Bc
 aI:List (List Step)
 kr:List (k7×List Nat)
 kvs:eV
 fS:List Nat
noncomputable def ix(l:dH):List (a7×ao.V):=l.map λr:Nat=>(eX (r:Int),.aM true)
noncomputable def dW(ba:m5):List Str:=ba.map λd=>d.2.2
structure ef(ay C aV az:Addr)(a9 H:ae)(x:Addr)(A:d3)(hs:br)(ds:bZ)(s:cX):Prop where
 b':aN a9 H
 hi:jV az a9 A.n A.bt A.bu (cE hs) (aH A.rs)
 lC:iJ a9 hs A.rs ds
 ins:H x=some (.ins ay A.ag (rV A.n A.pl A.y A.cV A.dI A.dh s.pr))
 po:H A.pl=some (.lst (aH A.kV))
 pt:d7 H A.kV (s.ba.map mK)
 l_:∃hH,H A.y=some (.ins aV hH (oo A.n A.t))
 oM:H A.t=some (.c4 s.kvs)
 cV:H A.cV=some (.bX (ix s.fS))
 dc:H A.dI=some (.ins C A.jv (EI A.n A.g A.bj))
 l':H A.g=some (.lst ((dW s.ba).map V.str))
 ws:H A.bj=some (.lst (aH A.ls))
 l9:bk (hG H) A.ls s.aI
 dh:H A.dh=some (.lst (aH A.ft))
 sp:bk (hq H) A.ft s.kr
 aJ:(A.bO x).Nodup
 fr:∀b∈A.bO x,a9 b=none
structure ho(M oY:bS)(H H':ae):Prop where
 keep:∀b o,b∉M->H b=some o->H' b=some o
 own:∀b∈oY,b∈M\/H b=none
theorem ho.refl{M:bS}{H H':ae}(aF:aN H H'):ho M M H H':=⟨λb o _ e=>aF b o e,λ_ h=>.inl h⟩
theorem ho.trans{M oY WY:bS}{H H' Fd:ae}(a:ho M oY H H')(b:ho oY WY H' Fd):ho M WY H Fd:=by
 refine⟨λc o g6 e=>b.keep c o (λz=>?_) (a.keep c o g6 e),λc ax=>?_⟩
 .rcases a.own c z with h|h
  .exact g6 h
  .rw[h]at e;cases e
 .rcases b.own c ax with h|h
  .exact a.own c h
  .by_cases hm:c∈M
   .exact .inl hm
   .right;cases e:H c with
    |none=>rfl
    |some o=>rw[a.keep c o hm e]at h;cases h
theorem ef.same{ay C aV az:Addr}{a9 H H':ae}{x:Addr}{A:d3}{hs:br}{ds:bZ}{s:cX}(D:ef ay C aV az a9 H x A hs ds s)(aF:aN H H'):ef ay C aV az a9 H' x A hs ds s:=
 let⟨hH,h⟩:=D.l_
 ⟨D.b'.trans aF,D.hi,D.lC,aF _ _ D.ins,aF _ _ D.po,D.pt.same aF,⟨hH,aF _ _ h⟩,aF _ _ D.oM,aF _ _ D.cV,aF _ _ D.dc,aF _ _ D.l',aF _ _ D.ws,Ň D.l9 aF,aF _ _ D.dh,bk.e2 D.sp λ_ _ h=>h.same aF,D.aJ,D.fr⟩
theorem ef.DI{ay C aV az:Addr}{a9 H:ae}{x:Addr}{A:d3}{hs:br}{ds:bZ}{s:cX}(D:ef ay C aV az a9 H x A hs ds s){b:Addr}(aa:b∈A.bO x){v:aY}:H b≠some (.tup v):=λe=>by
 obtain⟨hH,cM⟩:=D.l_;unfold d3.bO at aa;simp only[dA]at aa;rcases aa with rfl|rfl|rfl|rfl|rfl|rfl|rfl|rfl|rfl|aa
 .rw[D.ins]at e;cases e
 .rw[D.po]at e;cases e
 .rw[cM]at e;cases e
 .rw[D.oM]at e;cases e
 .rw[D.cV]at e;cases e
 .rw[D.dc]at e;cases e
 .rw[D.l']at e;cases e
 .rw[D.ws]at e;cases e
 .rw[D.dh]at e;cases e
 .obtain⟨i,ar,el⟩:=mi aa;obtain⟨_,_,ts,af,_⟩:=bk.get D.l9 (eG.mpr ⟨ar,el⟩);rw[af]at e;cases e
theorem ef.frame{ay C aV az:Addr}{a9 H H':ae}{x:Addr}{A:d3}{hs:br}{ds:bZ}{s:cX}(D:ef ay C aV az a9 H x A hs ds s){M:bS}(aqx:aN a9 H')(k:∀b o,b∉M->H b=some o->H' b=some o)(ami:∀b∈A.bO x,b∉M)(dK:∀b∈M,∀v,H b≠some (.tup v)):ef ay C aV az a9 H' x A hs ds s:=by
 have qz:∀b o,b∈A.bO x->H b=some o->H' b=some o:=λb o aa e=>k b o (ami b aa) e;have kt:∀b v,H b=some (.tup v)->H' b=some (.tup v):=λb v e=>k b _ (λz=>dK b z v e) e;have mem:∀b,b∈A.bO x↔b=x\/b=A.pl\/b=A.y\/b=A.t\/b=A.cV\/b=A.dI\/b=A.g\/b=A.bj\/b=A.dh\/b∈A.ls:=λb=>by unfold d3.bO;simp only[dA]
 obtain⟨hH,cM⟩:=D.l_;refine⟨aqx,D.hi,D.lC,qz _ _ ((mem _).mpr (by simp)) D.ins,qz _ _ ((mem _).mpr (by simp)) D.po,bk.e2 D.pt λ_ _ e=>kt _ _ e,⟨hH,qz _ _ ((mem _).mpr (by simp)) cM⟩,qz _ _ ((mem _).mpr (by simp)) D.oM,qz _ _ ((mem _).mpr (by simp)) D.cV,qz _ _ ((mem _).mpr (by simp)) D.dc,qz _ _ ((mem _).mpr (by simp)) D.l',qz _ _ ((mem _).mpr (by simp)) D.ws,?_,qz _ _ ((mem _).mpr (by simp)) D.dh,bk.e2 D.sp λ_ _⟨c,af,ai⟩=>⟨c,kt _ _ af,kt _ _ ai⟩,D.aJ,D.fr⟩;have go:∀{ls:bS}{aI:fa},bk (hG H) ls aI->(∀l∈ls,l∈A.ls)->bk (hG H') ls aI:=λ{ls aI}p=>by
  induction p with
  |nil=>exactλ_=>.nil
  |cons r t a8=>
   refineλh=>.cons ?_ (a8 λl aj=>h l (.tail _ aj))
   obtain⟨ts,af,ai⟩:=r;exact⟨ts,qz _ _ ((mem _).mpr (by simp[h _ (.head _)])) af,bk.e2 ai λ_ _ e=>kt _ _ e⟩
 exact go D.l9 λ_ h=>h
theorem ef.walk{ay C aV az:Addr}{a9 H:ae}{x:Addr}{A:d3}{hs:br}{ds:bZ}{s:cX}(D:ef ay C aV az a9 H x A hs ds s):WalkAt C H A.dI A.n A.g A.bj (dW s.ba) A.ls s.aI:=⟨⟨_,D.dc⟩,D.l',D.ws,D.l9⟩
theorem ef.Tg{ay C aV az:Addr}{a9 H:ae}{x:Addr}{A:d3}{hs:br}{ds:bZ}{s:cX}(D:ef ay C aV az a9 H x A hs ds s):pq aV az H A.y A.n A.t A.bt A.bu (cE hs) (aH A.rs) s.kvs:=⟨D.l_,D.hi.same D.b',D.oM⟩
section
variable{P:bJ}{w:bq}{K:aU}{mg:cB}{base:Heap}
inductive ahn(ay C aV az:Addr)(vs:aY)(H:ae)(Q:a')(bI:b2):Prop where
 |mk (a9:ae) (x:Addr) (A:d3) (hs:br) (ds:bZ) (s:cX) (bV:vs=[.ref x]) (bD:ef ay C aV az a9 H x A hs ds s) (b_:Q (.int s.pr) H)
noncomputable def KP(ay C aV az:Addr):cG:=λvs H Q bI=>ahn ay C aV az vs H Q bI
noncomputable abbrev AX:Stmt:=gL (top 42) 1
theorem ah4:dw ["self"] ["self"] (c3 AX):=⟨rfl,rfl,rfl,by decide+kernel,rfl,by decide+kernel,by decide+kernel⟩
theorem aho{ay C aV az f:Addr}{fd:cz}(F:bw K "now" "Day.now" AX f fd)(ct:ut K ay):aL P w K mg base a5 1 f fd ["self"] (KP ay C aV az):=by
 refine F.ok ah4 (λvs H Q E h=>?_) (λcdv A outer s H vs Q E aq h=>?_)
 .obtain⟨a9,x,A,hs,ds,s,rfl,_⟩:=h;rfl
 .obtain⟨a9,x,A,hs,ds,s,rfl,D,q⟩:=h;refine⟨_,(bo (c7 (eR (U 0) (by rfl)))),?_⟩;exact⟨_,rfl,x,ay,_,_,_,rfl,D.ins,ct.cl,ct.np,rfl,q⟩
inductive ahp(ay C aV az:Addr)(vs:aY)(H:ae)(Q:a')(bI:b2):Prop where
 |mk (a9:ae) (x:Addr) (A:d3) (hs:br) (ds:bZ) (s:cX) (bV:vs=[.ref x]) (bD:ef ay C aV az a9 H x A hs ds s) (b_:∀l,H l=none->Q (.ref l) (upd H l (.lst (aH A.kV))))
noncomputable def Fg(ay C aV az:Addr):cG:=λvs H Q bI=>ahp ay C aV az vs H Q bI
noncomputable abbrev xq:Stmt:=gL (top 42) 9
theorem ahR:dw ["self"] ["self"] (c3 xq):=⟨rfl,rfl,rfl,by decide+kernel,rfl,by decide+kernel,by decide+kernel⟩
theorem agU{ay C aV az f:Addr}{fd:cz}(F:bw K "letters" "Day.letters" xq f fd)(B:gg mg)(ct:ut K ay):aL P w K mg base a5 1 f fd ["self"] (Fg ay C aV az):=by
 refine F.ok ahR (λvs H Q E h=>?_) (λcdv A outer s H vs Q E aq h=>?_)
 .obtain⟨a9,x,A,hs,ds,s,rfl,_⟩:=h;rfl
 .obtain⟨a9,x,A,hs,ds,s,rfl,D,q⟩:=h;refine⟨_,(bo (c7 (m9 u9 (by rfl) B.list oc (ak (eR (U 0) (by rfl)) aD)))),?_⟩;exact⟨_,rfl,x,ay,_,_,_,rfl,D.ins,ct.cl,ct.no,rfl,A.pl,_,rfl,.inl (aG.of D.po),q⟩
theorem ne_objs{H:ae}{a b:Addr}{o u:ed}(aK:H a=some o)(aa:H b=some u)(h:o≠u):a≠b:=λz=>by rw[z,aa]at aK;exact h (hY aK).symm
inductive agV(ay C aV az:Addr)(vs:aY)(H:ae)(Q:a')(bI:b2):Prop where
 |mk (x ag n bt bu:Addr) (hs:br) (rs:bS) (ds:bZ) (pr:Int) (bV:vs=[.ref x,.ref n,.int pr]) (bD:H x=some (.ins ay ag [])) (b_:jV az H n bt bu (cE hs) (aH rs)) (c_:Good hs) (d1:iJ H hs rs ds) (fw:rs.length<=40) (iE:∀(H':ae)(A:d3)(kvs:eV),SameBut x H H'->ef ay C aV az (mask H [x]) H' x A hs ds ⟨pr,[],[],[],kvs,[]⟩->A.n=n->A.rs=rs->vA hs ds kvs->(∀b∈A.bO x,b=x\/H b=none)->Q .bl H')
noncomputable def Fh(ay C aV az:Addr):cG:=λvs H Q bI=>agV ay C aV az vs H Q bI
noncomputable abbrev xr:Stmt:=gL (top 42) 0
theorem ahS:dw ["self","net","first"] ["self","net","first"] (c3 xr):=⟨rfl,rfl,rfl,by decide+kernel,rfl,by decide+kernel,by decide+kernel⟩
theorem agW{ay C aV az f f1 pe:Addr}{fd cY s8:cz}(F:bw K "__init__" "Day.__init__" xr f fd)(ct:ut K ay)(TZ:mg "Walk"=some (.ref C))(qb:dJ K mg "shortest" y8 ["net"] f1 cY)(Rk:aL P w K mg base a5 4 f1 cY ["net"] (F0 aV az))(I2:nR K C pe)(QS:rg K C "Walk.__init__" AL ["self","net","letters"] pe s8)(aac:aL P w K mg base a5 2 pe s8 ["self","net","letters"] (Kt C)):aL P w K mg base a5 5 f fd ["self","net","first"] (Fh ay C aV az):=by
 refine F.ok ahS (λvs H Q E h=>?_) (λcdv A outer s H vs Q E aq h=>?_)
 .obtain⟨x,ag,n,bt,bu,hs,rs,ds,pr,rfl,_⟩:=h;rfl
 .obtain⟨x,ag,n,bt,bu,hs,rs,ds,pr,rfl,av,N,G,R,Rm,q⟩:=h;refine⟨_,(bc (ll (U 0) (U 1) rfl)
   (bc (ll (U 0) (U 2) rfl)
   (bc (ll (U 0) (gJ aD) rfl)
   (bc (ll (U 0) (fj Rk (aq.mono (by decide)) (by rfl) qb.at_ qb.fn.bQ qb.bd .nil dj (ak (U 1) aD)) rfl)
   (bc (ll (U 0) Im rfl)
   (bc (ll (U 0) (DX I2 aac (aq.mono (by decide)) (by rfl) TZ QS.bd .nil dj (ak (U 1) (ak (gJ aD) aD))) rfl)
   (bo (ll (U 0) (gJ aD) rfl)))))))),?_⟩
  have qC:∀b o,b≠x->H b=some o->mask H [x] b=some o:=λb o nb e=>lX e (by simpa using nb);obtain⟨iL,aS⟩:=N.ins;have apw:n≠x:=λz=>by rw[z,av]at aS;cases aS
  have ao9:bt≠x:=ne_objs N.vt av (by intro z;cases z);have apc:bu≠x:=ne_objs N.qO av (by intro z;cases z);have W5:jV az (mask H [x]) n bt bu (cE hs) (aH rs):=⟨⟨iL,qC _ _ apw aS⟩,qC _ _ ao9 N.vt,qC _ _ apc N.qO⟩
  have XM:iJ (mask H [x]) hs rs ds:=⟨bk.e2 R.hv λa d e=>qC _ _ (ne_objs e av (by intro z;cases z)) e,R.ok⟩
  have up:∀{nM:ae}{o:ed},aN (mask H [x]) nM->aN (mask H [x]) (upd nM x o):=λ{nM o}RX=>kc (D7 (by simp)) RX;have s0:=Dt H [x];have s9:∀{nM:ae}{o:ed},aN (mask H [x]) nM->nM x=some o->∀{b},nM b=none->H b=none/\b≠x:=λ{nM o}RX ex{b}e=>by
   have nb:b≠x:=λz=>by rw[z,ex]at e;cases e
   refine⟨?_,nb⟩;cases aB:H b with
   |none=>rfl
   |some u=>rw[RX _ _ (qC b u nb aB)]at e;cases e
  refine⟨_,rfl,_,rfl,x,ay,ag,_,rfl,av,ct.cl,ct.nn,(by show 0<1000;decide),?_⟩;refine⟨_,rfl,_,rfl,x,ay,ag,_,rfl,aQ,ct.cl,ct.np,(by show 1<1000;decide),?_⟩;have s2:aN (mask H [x]) (upd (upd H x (.ins ay ag [("net",.ref n)])) x (.ins ay ag [("net",.ref n),("present",.int pr)])):=up (up s0);have ai:upd (upd H x (.ins ay ag [("net",.ref n)])) x (.ins ay ag [("net",.ref n),("present",.int pr)]) x=_:=aQ;show lz _ _ _ _ (upd (upd H x (.ins ay ag [("net",.ref n)])) x (.ins ay ag [("net",.ref n),("present",.int pr)]));generalize upd (upd H x (.ins ay ag [("net",.ref n)])) x (.ins ay ag [("net",.ref n),("present",.int pr)])=ah at s2 ai⊢;refine⟨(by show 0<=sizeLine;decide),λpl HX=>?_⟩;have f1:=s9 s2 ai HX;have s3:=s2.trans (bU (o:=.lst []) HX);refine⟨_,rfl,x,ay,ag,_,rfl,(aA f1.2.symm).trans ai,ct.cl,ct.no,(by show 2<1000;decide),?_⟩;have s4:=up (o:=.ins ay ag [("net",.ref n),("present",.int pr),("posted",.ref pl)]) s3;have cS:upd (upd ah pl (.lst [])) x (.ins ay ag [("net",.ref n),("present",.int pr),("posted",.ref pl)]) x=_:=aQ;have ly:upd (upd ah pl (.lst [])) x (.ins ay ag [("net",.ref n),("present",.int pr),("posted",.ref pl)]) pl=some (.lst (aH [])):=(aA f1.2).trans aQ;show lz _ _ _ _ (upd (upd ah pl (.lst [])) x (.ins ay ag [("net",.ref n),("present",.int pr),("posted",.ref pl)]));generalize upd (upd ah pl (.lst [])) x (.ins ay ag [("net",.ref n),("present",.int pr),("posted",.ref pl)])=dV at s4 cS ly⊢;refine⟨_,rfl,n,bt,bu,hs,rs,ds,rfl,W5.same s4,G,XM.same s4,Rm,λy t bx kvs tJ dK v9 Ls ST=>?_⟩;have f2:=s9 s4 cS tJ;have cv:=s9 s4 cS dK;obtain⟨hH,cM⟩:=Ls.ins;have apL:y≠t:=ao.hS cM Ls.told (by intro z;cases z);have apE:pl≠y:=bW ly tJ;have QD:pl≠t:=bW ly dK;have s5:=s4.trans v9;refine⟨_,rfl,x,ay,ag,_,rfl,v9 _ _ cS,ct.cl,ct.tJ,(by show 3<1000;decide),?_⟩;have fR:=up (o:=.ins ay ag [("net",.ref n),("present",.int pr),("posted",.ref pl),("ways",.ref y)]) s5;have kg:upd bx x (.ins ay ag [("net",.ref n),("present",.int pr),("posted",.ref pl),("ways",.ref y)]) x=_:=aQ;have tR:upd bx x (.ins ay ag [("net",.ref n),("present",.int pr),("posted",.ref pl),("ways",.ref y)]) pl=_:=(aA f1.2).trans (v9 _ _ ly);have wJ:upd bx x (.ins ay ag [("net",.ref n),("present",.int pr),("posted",.ref pl),("ways",.ref y)]) y=_:=(aA f2.2).trans cM;have wh:upd bx x (.ins ay ag [("net",.ref n),("present",.int pr),("posted",.ref pl),("ways",.ref y)]) t=_:=(aA cv.2).trans Ls.told;show lz _ _ _ _ (upd bx x (.ins ay ag [("net",.ref n),("present",.int pr),("posted",.ref pl),("ways",.ref y)]));generalize upd bx x (.ins ay ag [("net",.ref n),("present",.int pr),("posted",.ref pl),("ways",.ref y)])=f6 at fR kg tR wJ wh⊢
  refineλcV DJ=>?_
  have f4:=s9 fR kg DJ;have SA:=bU (o:=.bX []) DJ;refine⟨_,rfl,x,ay,ag,_,rfl,SA _ _ kg,ct.cl,ct.tE,(by show 4<1000;decide),?_⟩;have e':=up (o:=.ins ay ag [("net",.ref n),("present",.int pr),("posted",.ref pl),("ways",.ref y),("shut_roads",.ref cV)]) (fR.trans SA);have kI:upd (upd f6 cV (.bX [])) x (.ins ay ag [("net",.ref n),("present",.int pr),("posted",.ref pl),("ways",.ref y),("shut_roads",.ref cV)]) x=_:=aQ;have Hr:∀b o,b≠x->f6 b=some o->upd (upd f6 cV (.bX [])) x (.ins ay ag [("net",.ref n),("present",.int pr),("posted",.ref pl),("ways",.ref y),("shut_roads",.ref cV)]) b=some o:=λb o nb e=>(aA nb).trans (SA _ _ e);have mM:upd (upd f6 cV (.bX [])) x (.ins ay ag [("net",.ref n),("present",.int pr),("posted",.ref pl),("ways",.ref y),("shut_roads",.ref cV)]) cV=some (.bX []):=(aA f4.2).trans aQ;show lz _ _ _ _ (upd (upd f6 cV (.bX [])) x (.ins ay ag [("net",.ref n),("present",.int pr),("posted",.ref pl),("ways",.ref y),("shut_roads",.ref cV)]));generalize upd (upd f6 cV (.bX [])) x (.ins ay ag [("net",.ref n),("present",.int pr),("posted",.ref pl),("ways",.ref y),("shut_roads",.ref cV)])=dz at e' kI Hr mM⊢;have yS:=Hr _ _ f1.2 tR;have TH:=Hr _ _ f2.2 wJ;have Se:=Hr _ _ cv.2 wh;have apD:pl≠cV:=bW tR DJ;have apK:y≠cV:=bW wJ DJ;have apH:t≠cV:=bW wh DJ;refine⟨_,rfl,(by show 0<=sizeLine;decide),λHz apu=>λdI jv H5 Ö auf=>?_⟩;have oG:=bU (o:=.lst []) apu;have tr:upd dz Hz (.lst []) Hz=some (.lst (aH [])):=aQ;generalize upd dz Hz (.lst [])=md at oG tr H5 Ö⊢;have Sy:aN md (upd (upd md jv (.own dI)) dI (.ins C jv [])):=λb u e=>by rw[aA (bW e H5),aA (bW e Ö)];exact e
  have Ja:upd (upd md jv (.own dI)) dI (.ins C jv []) dI=some (.ins C jv []):=aQ;generalize upd (upd md jv (.own dI)) dI (.ins C jv [])=Fe at Sy Ja⊢;have y4:=oG.trans Sy;have qQ:=e'.trans y4;have Nl:=y4 _ _ kI;have vd:=s9 (e'.trans oG) (oG _ _ kI) H5;have old:∀{b o},dz b=some o->b≠dI:=λ{b o}e=>bW (oG _ _ e) H5;have QW:=y4 _ _ yS;have TC:=y4 _ _ TH;have Sa:=y4 _ _ Se;have Q8:=y4 _ _ mM;refine⟨dI,jv,n,Hz,[],[],rfl,Ja,Sy _ _ tr,.nil,e4 _,λxi g bj lu b' F2 l3 i7 _ _ HP=>⟨rfl,?_⟩⟩;have nl:lu=[]:=by have:=gE F2.each;exact xD.mp this
  subst nl;obtain⟨amr,CV⟩:=F2.ins;have ya:=s9 qQ Nl l3;have fs:=s9 qQ Nl i7;have arS:=b' _ _ vd.2.symm Nl;have apT:=b' _ _ (old yS) QW;have arV:=b' _ _ (old TH) TC;have aqM:=b' _ _ (old Se) Sa;have ap7:=b' _ _ (old mM) Q8;have Eb:aN (mask H [x]) xi:=λb o e=>by refine b' b o (λz=>?_) (qQ b o e);have:=(Dt H [x]) _ _ e;rw[z,vd.1]at this;cases this
  refine⟨_,rfl,x,ay,ag,_,rfl,arS,ct.cl,ct.nw,(by show 5<1000;decide),?_⟩;have gw:=up (o:=.ins ay ag [("net",.ref n),("present",.int pr),("posted",.ref pl),("ways",.ref y),("shut_roads",.ref cV),("walk",.ref dI)]) Eb;have vi:upd xi x (.ins ay ag [("net",.ref n),("present",.int pr),("posted",.ref pl),("ways",.ref y),("shut_roads",.ref cV),("walk",.ref dI)]) x=_:=aQ;have tl:∀b o,b≠x->xi b=some o->upd xi x (.ins ay ag [("net",.ref n),("present",.int pr),("posted",.ref pl),("ways",.ref y),("shut_roads",.ref cV),("walk",.ref dI)]) b=some o:=λb o nb e=>(aA nb).trans e;dsimp only;show Yi _ _ _ _ _ _ (upd xi x (.ins ay ag [("net",.ref n),("present",.int pr),("posted",.ref pl),("ways",.ref y),("shut_roads",.ref cV),("walk",.ref dI)]));generalize upd xi x (.ins ay ag [("net",.ref n),("present",.int pr),("posted",.ref pl),("ways",.ref y),("shut_roads",.ref cV),("walk",.ref dI)])=VV at gw vi tl⊢;have è:=tl _ _ f1.2 apT;have œ:=tl _ _ f2.2 arV;have Đ:=tl _ _ cv.2 aqM;have ð:=tl _ _ f4.2 ap7;have Ĩ:=tl _ _ vd.2 CV;have Zs:=tl _ _ ya.2 F2.goals;have Φ:=tl _ _ fs.2 F2.steps;refine⟨(by show 0<=sizeLine;decide),λdh rO=>?_⟩;have Gw:=s9 gw vi rO;have Sz:=bU (o:=.lst []) rO;refine⟨_,rfl,x,ay,ag,_,rfl,Sz _ _ vi,ct.cl,ct.ns,(by show 6<1000;decide),?_⟩;have û:=up (o:=.ins ay ag [("net",.ref n),("present",.int pr),("posted",.ref pl),("ways",.ref y),("shut_roads",.ref cV),("walk",.ref dI),("sent",.ref dh)]) (gw.trans Sz);have vD:∀b o,b≠x->VV b=some o->upd (upd VV dh (.lst [])) x (.ins ay ag [("net",.ref n),("present",.int pr),("posted",.ref pl),("ways",.ref y),("shut_roads",.ref cV),("walk",.ref dI),("sent",.ref dh)]) b=some o:=λb o nb e=>(aA nb).trans (Sz _ _ e);have aE:=bW è rO;have aB:=bW œ rO;have cJ:=bW Đ rO;have fB:=bW ð rO;have ik:=bW Ĩ rO;have kE:=bW Zs rO;have Bu:=bW Φ rO;refine q _ ⟨ag,n,pl,y,cV,dI,amr,dh,g,bj,t,bt,bu,rs,[],[],[]⟩ kvs (λb o nb e=>û _ _ (qC b o nb e)) ⟨û,W5,XM,aQ,vD _ _ f1.2 è,.nil,⟨hH,vD _ _ f2.2 œ⟩,vD _ _ cv.2 Đ,vD _ _ f4.2 ð,vD _ _ vd.2 Ĩ,vD _ _ ya.2 Zs,vD _ _ fs.2 Φ,.nil,(aA Gw.2).trans aQ,.nil,?_,?_⟩ rfl rfl ST ?_
  .have hj:=old yS;have kU:=old TH;have yO:=old Se;have apN:=old mM;have g1:=bW QW l3;have g2:=bW TC l3;have g3:=bW Sa l3;have Nc:=bW Q8 l3;have Nd:=bW Ja l3;have hQ:=bW QW i7;have gN:=bW TC i7;have kn:=bW Sa i7;have PI:=bW Q8 i7;have PJ:=bW Ja i7;unfold d3.bO;simp only[iH,dA,eA,or_false,not_or];exact⟨⟨f1.2.symm,f2.2.symm,cv.2.symm,f4.2.symm,vd.2.symm,ya.2.symm,fs.2.symm,Gw.2.symm⟩,⟨apE,QD,apD,hj,g1,hQ,aE⟩,⟨apL,apK,kU,g2,gN,aB⟩,⟨apH,yO,g3,kn,cJ⟩,⟨apN,Nc,PI,fB⟩,⟨Nd,PJ,ik⟩,⟨HP,kE⟩,Bu,not_false,sv⟩
  all_goals
   intro b aa;unfold d3.bO at aa;simp only[dA,eA,or_false]at aa
  .have HH:∀b,H b=none->mask H [x] b=none:=λb e=>by
    cases aB:mask H [x] b with
    |none=>rfl
    |some o=>rw[(Dt H [x]) _ _ aB]at e;cases e
   rcases aa with rfl|rfl|rfl|rfl|rfl|rfl|rfl|rfl|rfl
   .exact D7 (by simp)
   all_goals (apply HH)
   .exact f1.1
   .exact f2.1
   .exact cv.1
   .exact f4.1
   .exact vd.1
   .exact ya.1
   .exact fs.1
   .exact Gw.1
  .rcases aa with rfl|rfl|rfl|rfl|rfl|rfl|rfl|rfl|rfl
   .exact .inl rfl
   .exact .inr f1.1
   .exact .inr f2.1
   .exact .inr cv.1
   .exact .inr f4.1
   .exact .inr vd.1
   .exact .inr ya.1
   .exact .inr fs.1
   .exact .inr Gw.1
end
end dY
namespace cQ
open PySem PySem.Spec PyProof.Rows ao
section
variable{P:bJ}{w:bq}{K:aU}{mg:cB}{base:Heap}{N:cf}{qual:Str}{scope:Scope}{f:Addr}{cdv:Value}{A:cW}{outer:List Env}{s:aC}{H:ae}{E:b2}
theorem adR{E2:cx}{pins:cu}{σ:ao.St}{b3 H':ae}{sc s':aC}{au:Addr}{cls a0:Value}{B:Heap}(I:Inv (fX P w K mg base N qual scope f cdv A outer s H E) pins σ b3 sc)(T:mI P w (fX P w K mg base N qual scope f cdv A outer s H E).stack b3 sc au cls a0 H' B s')(fo:E cls none H'):
  aO (a6 P w) (A.deeper (n6 qual scope s.heap.objs.size f cdv)) (leaving (n6 qual scope s.heap.objs.size f cdv) (.ref au)) (λ_ s2=>d9 P w outer H s E (.ref au) s2) E2 s':=by
 refine arH I.ok.frames rfl T.fb λai eP hT=>?_;have sE:h1 (fm (fX P w K mg base N qual scope f cdv A outer s H E).stack) [] b3 H' sc.heap s'.heap:=T.un;have vR:∀b o,s.heap.get? b=some o->b∉fm outer->∃cC,B.get? b=some cC/\(H b=none->cC=o):=λb o e aa=>by obtain⟨hj,z⟩:=I.base.there b o e (by simp[fX,jY]);obtain⟨cC,di,q⟩:=T.kN b hj z (yX I e aa);refine⟨cC,di,λn=>?_⟩;have bD:=I.base.keep b o e n aa (by simp[fX,jY]);rw[z]at bD;cases bD;exact q (I.base.free b _ e n (by simp[fX,jY]))
 refine⟨au,cls,a0,H',B,rfl,⟨eP,T.os.trans I.os,T.bare,T.ok,⟨λb o e n aa fQ=>?_,λb o e n aa fQ=>?_,λb o e n fQ=>?_,λb o e fQ=>?_,λb xs q=>T.un.hv b xs (I.base.hv b xs q),λb o u q=>T.un.iN b o u (I.base.iN b o u q),λb ps q=>?_⟩,vR⟩,fo⟩
 .obtain⟨cC,z,q⟩:=vR b o e aa;rw[q n]at z;exact eP.1 b o z
 .obtain⟨bj,z⟩:=I.base.slot b o e n aa fQ;have de:b∈fm (fX P w K mg base N qual scope f cdv A outer s H E).stack:=by show b∈fm (_::outer);unfold fm;rw[Fy];exact mm _ aa
  obtain⟨r2,bD⟩:=sE.slot b _ z (I.base.free b o e n fQ) de (by simp);obtain⟨_,ob,cm,gv⟩:=T.fb.2.2.1.mem de;rw[bD]at cm;cases cm;obtain⟨lD,di⟩:=hT b _ bD gv;exact⟨lD,di⟩
 .obtain⟨hj,z⟩:=I.base.there b o e fQ;exact sE.free b hj z (I.base.free b o e n fQ) (by simp)
 .by_cases aa:b∈fm outer
  .obtain⟨_,ob,cm,gv⟩:=eP.2.2.1.mem aa;exact⟨ob,cm⟩
  .obtain⟨cC,z,_⟩:=vR b o e aa;exact⟨cC,eP.1 b cC z⟩
 .obtain⟨jA,aE⟩:=I.base.i_ b ps q;obtain⟨tw,aB⟩:=T.un.i_ b _ aE;exact⟨jA++tw,by rw[aB,UI]⟩
theorem abu:pn (mX P w) (jt P w K mg base N qual scope f cdv A outer s H E) E:=by rintro pins σ b3 sc e s' I ⟨au,cls,a0,H',B,d4,rfl,T,L,fo⟩;have h0:=adR (K:=K) (mg:=mg) (base:=base) (N:=N) (qual:=qual) (scope:=scope) (f:=f) (cdv:=cdv) (A:=A) (outer:=outer) (s:=s) (H:=H) (E:=λc _ Fd=>c=cls/\Fd=H') (E2:=λ_ _=>False) (I.ku _) T ⟨rfl,rfl⟩;refine gf (DM ò h0) (λ_ s2 ai=>?_) λ_ _ z=>z.1.elim;obtain⟨⟨Y2,alc,ajH,ah,Ŭ,aE,sE,aB,cJ⟩,dN⟩:=ai;cases aE;subst aB cJ;refine⟨au,alc,ajH,ah,Ŭ,d4,rfl,sE,λag hd=>?_,fo⟩;obtain⟨o,aZ,hd2⟩:=L ag hd;obtain⟨ob,qq,_⟩:=sE.fb.there;exact⟨ob,qq,(dN.dict aZ qq).trans hd2⟩
end
end cQ
namespace dY
open PySem ao cQ dp
noncomputable def g5(d:Bc):PyData:=.tuple [.str d.1,.int d.2.1,.str d.2.2]
theorem T1{H:ae}:∀{rs:bS}{ba:m5},d7 H rs (ba.map mK)->(∀d∈ba,dm H (.str d.1) (.str d.1)/\dm H (.str d.2.2) (.str d.2.2))->eL H (aH rs) (ba.map g5)
 |[],[],_,_=>.nil
 |_::_,d::_,.cons h t,g=>.cons (.tup h (by show 3<=100;decide) (.cons (g d (.head _)).1 (.cons (.int _) (.cons (g d (.head _)).2 .nil)))) (T1 t λe he=>g e (.tail _ he))
theorem V0{H:ae}:∀{ba:m5}{vs:aY},eL H vs (ba.map g5)->∃rs,vs=aH rs/\d7 H rs (ba.map mK)
 |[],_,.nil=>⟨[],rfl,.nil⟩
 |d::ba,_,.cons (v:=v) (vs:=vs) h t=>by
  obtain⟨a,xs,rfl,aK,_,av⟩:=WS h;obtain⟨rs,rfl,c'⟩:=V0 t;refine⟨a::rs,rfl,.cons ?_ c'⟩;cases av with
  |cons af cg=>cases cg with
   |cons ai d5=>cases d5 with
    |cons bR pE=>
     cases pE;cases af;cases ai;cases bR;exact aK
theorem Ŝ(ba:m5):(FP (ba.map g5)).depth<=62:=by refine e3 (KA (Ib (n:=1) λy cM=>?_)) (by decide);obtain⟨d,_,rfl⟩:=cn.mp cM;exact cj _
theorem Si{H H':ae}{M:bS}(k:∀b o,b∉M->H b=some o->H' b=some o)(dK:∀b∈M,∀v,H b≠some (.tup v)):∀{ls:bS}{aI:fa},bk (hG H) ls aI->(∀l∈ls,l∉M)->bk (hG H') ls aI
 |_,_,.nil,_=>.nil
 |_,_,.cons ⟨ts,af,ai⟩ t,h=>.cons ⟨ts,k _ _ (h _ (.head _)) af,bk.e2 ai λ_ _ e=>k _ _ (λz=>dK _ z _ e) e⟩ (Si k dK t λl aj=>h l (.tail _ aj))
noncomputable def Jo(hs:br)(ba:m5):Prop:=∀d∈ba,d.1∈hs.map S/\d.2.2∈hs.map S
noncomputable def rW(s:cX)(h g:Str):cX:={s with ba:=s.ba++[(h,s.pr,g)],aI:=s.aI++[JT (h,s.pr,g)]}
inductive V1(ay C aV az d6:Addr)(vs:aY)(H:ae)(Q:a')(E:b2):Prop where
 |mk (a9:ae) (x:Addr) (A:d3) (hs:br) (ds:bZ) (s:cX) (h g:Str) (bV:vs=[.ref x,.str h,.str g]) (bD:ef ay C aV az a9 H x A hs ds s) (b_:Good hs) (c_:Jo hs s.ba) (d1:s.ba.length<=40) (fw:s.aI.length=s.ba.length) (iE:(∀H,dm H (.str h) (.str h))) (k4:(∀H,dm H (.str g) (.str g))) (mV:(sa (bN hs) ((s.ba++[(h,s.pr,g)]).map g5)->∀H' iF,ho (A.bO x) (iF.bO x) H H'->ef ay C aV az a9 H' x iF hs ds (rW s h g)->Q (.int (s.ba.length:Int)) H')) (q6:(¬sa (bN hs) ((s.ba++[(h,s.pr,g)]).map g5)->∀ag H',H ag=none->aN H H'->H' ag=some (ma ag [("number",Lr (lj (bN hs) ((s.ba++[(h,s.pr,g)]).map g5)))])->E (.ref d6) (some ag) H'))
noncomputable def Jp(ay C aV az d6:Addr):cG:=λvs H Q E=>V1 ay C aV az d6 vs H Q E
section
variable{P:bJ}{w:bq}{K:aU}{mg:cB}{base:Heap}
noncomputable abbrev zz:Stmt:=gL (top 42) 2
theorem Xk:dw ["self","house","goal","letter"] ["self","house","goal"] (c3 zz):=⟨rfl,rfl,rfl,by decide+kernel,rfl,by decide+kernel,by decide+kernel⟩
theorem afs{ay C aV az d6 f f1 f2:Addr}{fd cY d8:cz}(F:bw K "post" "Day.post" zz f fd)(B:gg mg)(ct:ut K ay)(kC:fp K C)(CZ:dJ K mg "letters_of" AW ["net","some"] f1 cY)(ar8:aL P w K mg base (mX P w) 4 f1 cY ["net","some"] (KL az d6))(sP:c0 K C "take_in" "Walk.take_in" zy ["self","letter"] f2 d8)(Pu:aL P w K mg base a5 1 f2 d8 ["self","letter"] (Js C)):aL P w K mg base (mX P w) 5 f fd ["self","house","goal"] (Jp ay C aV az d6):=by
 refine æ F Xk (λvs H Q E h=>?_) (λcdv A outer s H vs Q E aq h=>?_)
 .obtain⟨a9,x,A,hs,ds,s,h',g',rfl,_⟩:=h;rfl
 .obtain⟨a9,x,A,hs,ds,s,h',g',rfl,D,G,oV,vE,Dx,oF,dv,q,iu⟩:=h;refine⟨_,(bc (c8 (i:=3) Xk.aJ rfl (b5 rfl) (i1 (ak (U 1) (ak (eR (U 0) (by rfl)) (ak (U 2) aD)))))
   (bc (ll (U 0) (fj ar8 (aq.mono (by decide)) (by rfl) CZ.at_ CZ.fn.bQ CZ.bd .nil abu (ak (eR (U 0) (by rfl)) (ak (bH JF (eR (U 0) (by rfl)) (gJ (ak (U 3) aD))) aD))) rfl)
   (bc (gI (gZ (eR (U 0) (by rfl)) kC sP.eh Pu (aq.mono (by decide)) sP.bd .nil dj (ak (U 3) aD)))
   (bo (c7 (bH rN (dB gH (by rfl) B.len gA (ak (eR (U 0) (by rfl)) aD)) aW)))))),?_⟩
  refine⟨_,rfl,_,rfl,x,ay,_,_,_,rfl,D.ins,ct.cl,ct.np,rfl,_,rfl,(by show 3<=sizeLine;decide),λc' QH=>?_⟩;have Sx:=bU (o:=.tup (mK (h',s.pr,g'))) QH;have t1:upd H c' (.tup (mK (h',s.pr,g'))) c'=some (.tup (mK (h',s.pr,g'))):=aQ;show lz _ _ _ _ (upd H c' (.tup (mK (h',s.pr,g'))));generalize upd H c' (.tup (mK (h',s.pr,g')))=H1 at Sx t1⊢;have lF:=D.same Sx;have Â:A.kV.length=s.ba.length:=by have:=gE D.pt;rw[bp]at this;exact this
  refine⟨_,rfl,x,ay,_,_,_,rfl,lF.ins,ct.cl,ct.nn,rfl,_,rfl,x,ay,_,_,_,rfl,lF.ins,ct.cl,ct.no,rfl,_,rfl,(by show 1<=sizeLine;decide),λhQ dt=>?_⟩;have zj:=bU (o:=.lst [V.ref c']) dt;have ai:upd H1 hQ (.lst [V.ref c']) hQ=some (.lst [V.ref c']):=aQ;generalize upd H1 hQ (.lst [V.ref c'])=ah at zj ai⊢;have cF:=lF.same zj;refine⟨A.pl,hQ,_,_,rfl,rfl,cF.po,ai,(by rw[eB];show _+1<=sizeLine;exact nS (eM (by omega))),λgN dC=>?_⟩;rw[ru];have zk:=bU (o:=.lst (aH (A.kV++[c']))) dC;have bR:upd ah gN (.lst (aH (A.kV++[c']))) gN=some (.lst (aH (A.kV++[c']))):=aQ;generalize upd ah gN (.lst (aH (A.kV++[c'])))=bg at zk bR⊢;have gh:=cF.same zk;have y2:=Sx.trans (zj.trans zk);have mT:d7 bg (A.kV++[c']) ((s.ba++[(h',s.pr,g')]).map mK):=by rw[eW];exact Paired.snoc (F:=λr d=>bg r=some (.tup d)) (zk _ _ (zj _ _ t1)) gh.pt
  have aq5:dm bg (.ref gN) (.list ((s.ba++[(h',s.pr,g')]).map g5)):=by
   refine .lst bR (by rw[eB,ig];show _+1<=100;omega) (T1 mT λd hd=>?_);rcases hX.mp hd with z|z
   .exact⟨tO G (oV d z).1,tO G (oV d z).2⟩
   .rw[iW.mp z];exact⟨oF _,dv _⟩
  refine⟨A.n,A.bt,A.bu,hs,_,.ref gN,_,rfl,gh.hi.same gh.b',G,aq5,Ŝ _,λp4 l dV nl s4 aq4=>?_,λna ag dV aJ s4 hd=>?_⟩
  .obtain⟨_,xs,hI,μ,_,CW⟩:=JR aq4;cases hI;obtain⟨kV,rfl,Ę⟩:=V0 CW;have gC:=gh.same s4;obtain⟨hH,Λ⟩:=gC.l_;have qR:=y2.trans s4;have yI:H l=none:=by
    cases e:H l with
    |none=>rfl
    |some o=>rw[y2 _ _ e]at nl;cases nl
   have aJ:=D.aJ;unfold d3.bO at aJ;simp only[iH,dA,not_or]at aJ;obtain⟨⟨eP,hT,oN,oO,zt,EW,wH,EX,zu⟩,⟨d0,gP,tQ,ly,H9,tR,é,yS⟩,⟨oP,Ŕ,ŕ,TF,wI,wJ,TG⟩,⟨ď,f5,t3,Sb,Sd,wh⟩,⟨bM,cU,hn,rR,DU⟩,⟨fe,fK,hx,EN⟩,⟨g1,g2,g3⟩,⟨IA,r2⟩,aE,Qu⟩:=aJ;refine⟨_,rfl,x,ay,A.ag,_,rfl,gC.ins,ct.cl,ct.no,(by show 7<1000;decide),?_⟩;have dX:upd dV x (.ins ay A.ag (rV A.n l A.y A.cV A.dI A.dh s.pr)) x=_:=aQ;have k5:∀b o,b≠x->dV b=some o->upd dV x (.ins ay A.ag (rV A.n l A.y A.cV A.dI A.dh s.pr)) b=some o:=λb o nb e=>(aA nb).trans e;have yH:∀b,upd dV x (.ins ay A.ag (rV A.n l A.y A.cV A.dI A.dh s.pr)) b=none->dV b=none:=λb e=>by
    have nb:b≠x:=λz=>by rw[z,aQ]at e;cases e
    rw[aA nb]at e;exact e
   show lz _ _ _ _ (upd dV x (.ins ay A.ag (rV A.n l A.y A.cV A.dI A.dh s.pr)));generalize upd dV x (.ins ay A.ag (rV A.n l A.y A.cV A.dI A.dh s.pr))=bx at dX k5 yH⊢;have fF:(dW s.ba).length=s.ba.length:=bp _;have lu:A.ls.length=s.ba.length:=(gE D.l9).trans Dx;refine⟨_,rfl,x,ay,_,_,_,rfl,dX,ct.cl,ct.nw,rfl,A.dI,A.jv,_,rfl,k5 _ _ (cL zt) gC.dc,rfl,_,rfl,A.dI,A.jv,A.n,A.g,A.bj,c',dW s.ba,A.ls,(h',s.pr,g'),rfl,k5 _ _ (cL zt) gC.dc,k5 _ _ (cL EW) gC.l',k5 _ _ (cL wH) gC.ws,g1,k5 _ _ (ao.hS (s4 _ _ (zk _ _ (zj _ _ t1))) gC.ins (by intro z;cases z)) (s4 _ _ (zk _ _ (zj _ _ t1))),(by omega),(by omega),λf6 Hv aqN Ο anE an9 apq aue N8 Oy=>?_⟩;have bT:∀b o,b∉[x,A.g,A.bj]->dV b=some o->f6 b=some o:=λb o nb e=>by simp only[dA,eA,or_false,not_or]at nb;exact Ο b o nb.2.1 nb.2.2 (k5 b o nb.1 e)
   have k2:∀{b o},b≠x->b≠A.g->b≠A.bj->dV b=some o->f6 b=some o:=λ{b o}dt dC ot e=>bT b o (by simp[dt,dC,ot]) e;have kt:∀b v,dV b=some (.tup v)->f6 b=some (.tup v):=λb v e=>k2 (ao.hS e gC.ins (by intro z;cases z)) (ao.hS e gC.l' (by intro z;cases z)) (ao.hS e gC.ws (by intro z;cases z)) e;have nm:∀b o,dV b=some o->b≠Hv:=λb o e z=>by rw[z,yH _ apq]at e;cases e
   have yE:l≠x:=cL (bW gh.ins nl);have Ψ:l≠A.g:=cL (bW gh.l' nl);have Å:l≠A.bj:=cL (bW gh.ws nl);have aoQ:l∉A.ls:=λz=>by obtain⟨i,ar,el⟩:=mi z;obtain⟨_,_,ts,e,_⟩:=bk.get gh.l9 (eG.mpr ⟨ar,el⟩);rw[nl]at e;cases e
   have ZH:=Ο x _ EW wH dX;have ZG:=k2 yE Ψ Å μ;have aoO:kV.length=s.ba.length+1:=by have:=gE Ę;rw[bp,ig]at this;exact this
   refine⟨_,rfl,x,ay,_,_,_,rfl,ZH,ct.cl,ct.no,rfl,l,_,rfl,.inl (aG.of ZG),_,_,rfl,rfl,?_⟩;rw[eB,aoO];show Q (.int (((s.ba.length+1:Nat):Int)-1)) f6;rw[show(((s.ba.length+1:Nat):Int)-1)=(s.ba.length:Int) by omega];have Nb:∀b o,a9 b=some o->b≠x/\b≠A.g/\b≠A.bj:=λb o e=>by
    refine⟨λz=>?_,λz=>?_,λz=>?_⟩
    .rw[z,D.fr x (by unfold d3.bO;simp)]at e;cases e
    .rw[z,D.fr A.g (by unfold d3.bO;simp)]at e;cases e
    .rw[z,D.fr A.bj (by unfold d3.bO;simp)]at e;cases e
   have Ú:H Hv=none:=by
    cases e:H Hv with
    |none=>rfl
    |some o=>exact bE rfl (nm _ _ (qR _ _ e))
   refine q p4 f6 {A with pl:=l,kV:=kV,ls:=A.ls++[Hv]} ⟨λb o nb e=>?_,λb aa=>?_⟩ ⟨λb o e=>?_,D.hi,D.lC,ZH,ZG,bk.e2 Ę λ_ _ e=>kt _ _ e,⟨hH,k2 (cL hT) TF wI Λ⟩,k2 (cL oN) t3 Sb gC.oM,k2 (cL oO) cU hn gC.cV,k2 (cL zt) fe fK gC.dc,?_,an9,?_,k2 (cL EX) (cL g2) (cL IA) gC.dh,bk.e2 gC.sp λ_ _⟨c,af,ai⟩=>⟨c,kt _ _ af,kt _ _ ai⟩,?_,λb aa=>?_⟩
   .unfold d3.bO at nb;simp only[dA,not_or]at nb;exact k2 nb.1 nb.2.2.2.2.2.2.1 nb.2.2.2.2.2.2.2.1 (qR _ _ e)
   .unfold d3.bO at aa⊢;simp only[dA,hX,eA,or_false]at aa⊢;rcases aa with h|h|h|h|h|h|h|h|h|h|h
    .exact .inl (.inl h)
    .exact .inr (by rw[h];exact yI)
    .exact .inl (by simp[h])
    .exact .inl (by simp[h])
    .exact .inl (by simp[h])
    .exact .inl (by simp[h])
    .exact .inl (by simp[h])
    .exact .inl (by simp[h])
    .exact .inl (by simp[h])
    .exact .inl (by simp[h])
    .exact .inr (by rw[h];exact Ú)
   .obtain⟨bV,bD,b_⟩:=Nb b o e;exact k2 bV bD b_ (qR _ _ (D.b' _ _ e))
   .rw[anE];show _=some (ed.lst ((dW (s.ba++[(h',s.pr,g')])).map V.str));unfold dW;simp only[eW,hW,FA]
   .refine Paired.snoc ⟨[aqN],N8,.cons Oy .nil⟩ (Si bT (λb aa v e=>?_) gC.l9 λg9 vq z=>?_)
    .simp only[dA,eA,or_false]at aa;rcases aa with rfl|rfl|rfl
     .rw[gC.ins]at e;cases e
     .rw[gC.l']at e;cases e
     .rw[gC.ws]at e;cases e
    .simp only[dA,eA,or_false]at z;rcases z with rfl|rfl|rfl
     .exact zu vq
     .exact g3 vq
     .exact r2 vq
   .unfold d3.bO;simp only[iH,dA,hX,eA,or_false,not_or];obtain⟨atm,OJ⟩:=gh.l_;refine⟨⟨cL yE,hT,oN,oO,zt,EW,wH,EX,zu,nm _ _ gC.ins⟩,⟨cL (bW OJ nl),cL (bW gh.oM nl),cL (bW gh.cV nl),cL (bW gh.dc nl),Ψ,Å,cL (bW gh.dh nl),aoQ,nm _ _ μ⟩,⟨oP,Ŕ,ŕ,TF,wI,wJ,TG,nm _ _ Λ⟩,⟨ď,f5,t3,Sb,Sd,wh,nm _ _ gC.oM⟩,⟨bM,cU,hn,rR,DU,nm _ _ gC.cV⟩,⟨fe,fK,hx,EN,nm _ _ gC.dc⟩,⟨g1,g2,g3,nm _ _ gC.l'⟩,⟨IA,r2,nm _ _ gC.ws⟩,⟨aE,nm _ _ gC.dh⟩,?_⟩;rw[xE];refine⟨Qu,iH.mpr ⟨eA,sv⟩,λa aK b aa=>?_⟩;rw[iW]at aa;subst aa;obtain⟨i,ar,el⟩:=mi aK;obtain⟨_,_,ts,e,_⟩:=bk.get gC.l9 (eG.mpr ⟨ar,el⟩);exact nm _ _ e
   .unfold d3.bO at aa;simp only[dA,hX,eA,or_false]at aa;have old:b∈A.bO x->a9 b=none:=D.fr b;have new:H b=none->a9 b=none:=λe=>by
     cases aB:a9 b with
     |none=>rfl
     |some o=>rw[D.b' _ _ aB]at e;cases e
    unfold d3.bO at old;simp only[dA]at old;rcases aa with h|h|h|h|h|h|h|h|h|h|h
    .exact old (by simp[h])
    .exact new (by rw[h];exact yI)
    .exact old (by simp[h])
    .exact old (by simp[h])
    .exact old (by simp[h])
    .exact old (by simp[h])
    .exact old (by simp[h])
    .exact old (by simp[h])
    .exact old (by simp[h])
    .exact old (by simp[h])
    .exact new (by rw[h];exact Ú)
  .have qR:=y2.trans s4;have apd:H ag=none:=by
    cases e:H ag with
    |none=>rfl
    |some o=>rw[y2 _ _ e]at aJ;cases aJ
   exact iu na ag dV apd qR hd
noncomputable def hr(s:cX):List Nat:=(d_ s.ba.length).filter λn=>decide ((fZ s.aI n).fc≠jP (dW s.ba) n)
noncomputable def ir(s:cX)(n:Nat):Bool:=(jW s.kvs (fZ s.aI n).fc (jP (dW s.ba) n)).isSome
noncomputable def gK(ds:bZ)(s:cX):List (k7×List Nat):=(oj ds (iP s.aI) (iw s.kvs (dW s.ba) s.aI) s.pr ((hr s).filter (ir s))).filter λb=>decide (b.1.2∉s.fS)
noncomputable def zZ(hs:br)(ds:bZ)(s:cX):cX:={s with pr:=s.pr+1,aI:=od hs ds (gK ds s) s.aI,kr:=s.kr++gK ds s}
structure mJ(hs:br)(ds:bZ)(k:Nat)(s:cX):Prop where
 len:s.aI.length=s.ba.length
 vE:s.ba.length<=40
 alf:ds.length<=40
 lets:Jo hs s.ba
 tab:Bb s.kvs ds.length
 ne:∀ss∈s.aI,ss≠[]
 vt:∀ss∈s.aI,(rU ss).fc∈hs.map S
 eE:∀ss∈s.aI,ss.length<=k+1
 IE:s.kr.length<=50*k
theorem mJ.last{hs:br}{ds:bZ}{k:Nat}{s:cX}(O:mJ hs ds k s){n:Nat}(h:n<s.ba.length):∃i,s.aI[n]?=some (i++[fZ s.aI n])/\(fZ s.aI n).fc∈hs.map S:=by have aE:s.aI[n]?=some (s.aI.getD n []):=VY (by rw[O.len];exact h);have hm:=eK aE;obtain⟨i,el⟩:=aaT (O.ne _ hm);refine⟨i,?_,O.vt _ hm⟩;rw[aE];congr 1
theorem I3{s:cX}{n:Nat}(h:n<s.ba.length):(dW s.ba)[n]?=some (jP (dW s.ba) n):=VY (by unfold dW;rw[bp];exact h)
theorem mJ.goal{hs:br}{ds:bZ}{k:Nat}{s:cX}(O:mJ hs ds k s){n:Nat}(h:n<s.ba.length):jP (dW s.ba) n∈hs.map S:=by have e:=I3 h;unfold dW at e;rw[c6]at e;obtain⟨d,hd,aB⟩:=fL.mp e;have:=(O.lets d (eK hd)).2;unfold dW;rw[<-aB];exact this
theorem T2{s:cX}{n:Nat}:n∈hr s↔n<s.ba.length/\(fZ s.aI n).fc≠jP (dW s.ba) n:=by unfold hr;rw[hC,lK,decide_eq_true_eq]
end
theorem mJ.on{hs:br}{ds:bZ}{k:Nat}{s:cX}(O:mJ hs ds k s){n:Nat}(h:n∈hr s):TX (ir s) hs s.kvs (dW s.ba) s.aI (iP s.aI) (iw s.kvs (dW s.ba) s.aI) n:=by
 obtain⟨aS,dy⟩:=T2.mp h;obtain⟨i,el,hm⟩:=O.last aS;rcases O.tab.get (fZ s.aI n).fc (jP (dW s.ba) n)with⟨v,w⟩|⟨r,v,w,_⟩
 .exact .inr ⟨by unfold ir;rw[w];rfl,i,_,_,el,rfl,I3 aS,hm,O.goal aS,dy,v⟩
 .exact .inl ⟨by unfold ir;rw[w];rfl,i,_,_,el,rfl,I3 aS,hm,O.goal aS,dy,by unfold iw;rw[w];exact v⟩
theorem mJ.rd{hs:br}{ds:bZ}{k:Nat}{s:cX}(O:mJ hs ds k s){n:Nat}(h:n∈(hr s).filter (ir s)):iw s.kvs (dW s.ba) s.aI n<ds.length:=by
 obtain⟨_,ai⟩:=hC.mp h;unfold ir at ai;rcases O.tab.get (fZ s.aI n).fc (jP (dW s.ba) n)with⟨v,w⟩|⟨r,v,w,aq⟩
 .rw[w]at ai;cases ai
 .unfold iw;rw[w];exact aq
theorem aft{α:Type}{F:Addr->α->Prop}{dc:TI}{cs:k_}{tt:TT}{σ rest:ao.St}{H H1:ae}{Q:a'}{J:fT}{as:bS}{Bs:List α}(hw:∀R:fT->ae->Prop,R J H1->dc σ H R)(h9:ia cs σ=none::rest)(dI:nY J H1 (aH as))(aj:as.length<sizeLine)(pr:bk F as Bs)(q:α->Bool)(test:∀(i:Nat)(a:Addr)(b:α)(ah:ae)(R:Bool->ae->Prop),as[i]?=some a->Bs[i]?=some b->aN H1 ah->R (q b) ah->tt (some (.ref a)::rest) ah R)(fin:∀(D:Addr)(H':ae)(iX:bS),H1 D=none->H' D=some (.lst (aH iX))->bk F iX (Bs.filter q)->aN H1 H'->Q (.ref D) H'):nF dc cs (hJ 0) tt (K5 0) σ H Q:=by
 have aoL:=gE pr;have PT:=eB as;refine hw _ λD bN=>?_;refine⟨λi m ys a3 H'=>m=as.length-i/\i<=as.length/\(∃iX,ys=aH iX/\iX.length<=i/\bk F iX ((Bs.take i).filter q))/\(∃o,a3=o::rest)/\aN H1 H'/\H' D=some (.lst ys),⟨as.length,by simp,e4 _,⟨[],rfl,cj _,.nil⟩,⟨none,by rw[h9]⟩,λb o e=>?_,aQ⟩,?_⟩
 .rw[aA (bW e bN)];exact e
 .rintro i m ys a3 H' ⟨rfl,ar,⟨iX,rfl,lr,hk⟩,⟨o,rfl⟩,aF,e7⟩;obtain⟨fe,fK,hx⟩:=dI H' aF;refine⟨e7,by rw[eB];omega,?_⟩;by_cases cK:i<as.length
  .refine .inr ⟨fK i (by omega),λx ah y=>?_⟩;obtain⟨rfl,ex⟩:=hx i x ah (by omega) y;unfold aH at ex;rw[c6]at ex;obtain⟨a,au,rfl⟩:=fL.mp ex;obtain⟨b,ea,aa⟩:=bk.get pr au;have a4:Bs.take (i+1)=Bs.take i++[b]:=by rw[oW,ea];rfl
   show tt (some (.ref a)::rest) ah _;refine test i a b ah _ au ea aF ?_;cases aT:q b with
   |true=>
    refine hP ⟨_,rfl,e7,as.length-(i+1),by omega,rfl,cK,⟨iX++[a],ru iX a,by rw[ig];show iX.length+1<=i+1;omega,?_⟩,⟨_,rfl⟩,λc ob e=>?_,aQ⟩
    .rw[a4,mZ,lJ,bL aT,ux];exact Paired.snoc aa hk
    .rw[aA (bW e bN)];exact aF _ _ e
   |false=>
    refine gs ⟨as.length-(i+1),by omega,rfl,cK,⟨iX,rfl,by omega,?_⟩,⟨_,rfl⟩,aF,e7⟩;rw[a4,mZ,lJ,bF (by rw[aT];decide),ux,mh];exact hk
  .have e:i=as.length:=by omega
   subst e;rw[aoL,oX]at hk;rw[PT]at fe;exact .inl ⟨fe,fin D H' iX bN e7 hk aF⟩
theorem T3(l:dH)(r:Nat):(!(ck (ix l) (eX (r:Int):a7)).isSome)=decide (r∉l):=by
 induction l with
 |nil=>rfl
 |cons a l a8=>
  show(!(ck ((eX (a:Int),V.aM true)::ix l) (eX (r:Int):a7)).isSome)=_;by_cases h:a=r
  .subst h;rw[lU rfl];simp
  .rw[lg (λz=>h (by have:=A_ z;omega)),a8];simp[cL h]
theorem afu{hs:br}{ds:bZ}{k:Nat}{s:cX}(O:mJ hs ds k s){bs:mu}(h:bs.Sublist (gK ds s))(i:Nat):(bs.filter λb=>decide (i∈b.2)).length<=1:=by have af:(bs.filter λb=>decide (i∈b.2)).Sublist ((oj ds (iP s.aI) (iw s.kvs (dW s.ba) s.aI) s.pr ((hr s).filter (ir s))).filter λb=>decide (i∈b.2)):=(h.trans List.filter_sublist).filter _;have ai:=af.length_le;rw[afq (λn aS=>O.rd aS) i]at ai;refine e3 ai ?_;split<;>simp
theorem adS{hs:br}{ds:bZ}{k:Nat}{s:cX}(O:mJ hs ds k s){bs:mu}(h:bs.Sublist (gK ds s)):∀ss∈od hs ds bs s.aI,ss.length<=k+2:=λss Ow=>by obtain⟨i,ar⟩:=List.mem_iff_getElem?.mp Ow;rw[Vj]at ar;obtain⟨s0,cT,rfl⟩:=fL.mp ar;have:=O.eE s0 (eK cT);have:=afu O h i;rw[ig,bp];omega
inductive afv(K:aU)(ay C aV az:Addr)(vs:aY)(H:ae)(Q:a')(bI:b2):Prop where
 |mk (a9:ae) (x:Addr) (A:d3) (hs:br) (ds:bZ) (s:cX) (k:Nat) (bV:vs=[.ref x]) (bD:ef ay C aV az a9 H x A hs ds s) (b_:Good hs) (c_:mJ hs ds k s) (d1:k<=98) (fw:∀H' iF aM ft,ho (A.bO x) (iF.bO x) H H'->ef ay C aV az a9 H' x iF hs ds (zZ hs ds s)->H aM=none->aM∉iF.bO x->H' aM=some (.lst (aH ft))->bk (hq H') ft (gK ds s)->Q (.ref aM) H')
noncomputable def Jq(K:aU)(ay C aV az:Addr):cG:=λvs H Q bI=>afv K ay C aV az vs H Q bI
section
variable{P:bJ}{w:bq}{K:aU}{mg:cB}{base:Heap}
noncomputable abbrev zA:Stmt:=gL (top 42) 7
theorem EP:dw ["self","going","ready","bags","bag"] ["self"] (c3 zA):=⟨rfl,rfl,rfl,by decide+kernel,rfl,by decide+kernel,by decide+kernel⟩
theorem afw{ay C aV az f f1 f2 cv:Addr}{fd cY d8 g8:cz}(F:bw K "pass_turn" "Day.pass_turn" zA f fd)(B:gg mg)(ct:ut K ay)(kC:fp K C)(GL:c0 K C "home_turn" "Walk.home_turn" EJ ["self","number"] f1 cY)(aqR:aL P w K mg base a5 2 f1 cY ["self","number"] (Uc C))(Du:dJ K mg "bags_at" Ee ["net","walk","going","ways","turn"] f2 d8)(abv:aL P w K mg base a5 5 f2 d8 ["net","walk","going","ways","turn"] (KI K C aV az))(HA:c0 K C "send" "Walk.send" zT ["self","bag"] cv g8)(aad:aL P w K mg base a5 2 cv g8 ["self","bag"] (JV C az)):aL P w K mg base a5 6 f fd ["self"] (Jq K ay C aV az):=by
 refine F.ok EP (λvs H Q E h=>?_) (λcdv A outer s H vs Q E aq h=>?_)
 .obtain⟨a9,x,A,hs,ds,s,k,rfl,_⟩:=h;rfl
 .obtain⟨a9,x,A,hs,ds,s,k,rfl,D,G,O,Ρ,q⟩:=h;refine⟨_,(bc (tj (i:=1) EP.aJ rfl rfl rfl (N':=["number","self"]) (cs:=[none,some 0]) rfl (yr rfl B.range (ak (dB gH (by rfl) B.len gA (ak (eR (U 0) (by rfl)) aD)) aD)) rfl (by decide+kernel) rfl (by decide+kernel) (lq (nP.mpr ⟨rfl,(λp aR=>bE aR (eA))⟩)) rfl
    (.own (.lS rfl (.inl rfl) (.inl rfl) rfl .nil))
    (λC s3 bg cb e9=>⟨(ei (i:=0) (by show(["number","self"]:cf).Nodup;decide+kernel) rfl (.inl rfl)),(yQ (eu Wk (gZ (VP (K:=K) rfl (U 1) (by rfl)) kC GL.eh aqR (aq.mono (by decide)) GL.bd .nil dj (ak (U 0) aD)) kG (dr _))),(U 0)⟩))
   (bc (c8 (i:=2) EP.aJ rfl (b5 rfl) (fj abv (aq.mono (by decide)) (by rfl) Du.at_ Du.fn.bQ Du.bd .nil dj (ak (eR (U 0) (by rfl)) (ak (eR (U 0) (by rfl)) (ak (U 1) (ak (eR (U 0) (by rfl)) (ak (eR (U 0) (by rfl)) aD)))))))
   (bc (tj (i:=3) EP.aJ rfl rfl rfl (N':=["bag","self"]) (cs:=[none,some 0]) rfl (jL (U 2)) rfl (by decide+kernel) rfl (by decide+kernel) (lq (nP.mpr ⟨rfl,(λp aR=>bE aR (eA))⟩)) rfl
    (.own (.lS rfl (.inl rfl) (.inl rfl) rfl .nil))
    (λC s3 bg cb e9=>⟨(ei (i:=0) (by show(["bag","self"]:cf).Nodup;decide+kernel) rfl (.inl rfl)),(yQ (JL (H_ (iM aq) (cp (vG (K:=K) rfl) (U 0) aW (λ_ _=>rfl)) (VP (K:=K) rfl (U 1) (by rfl))))),(U 0)⟩))
   (bc (kd kz rfl (jL (U 3)) (ei (i:=4) EP.aJ rfl (b5 rfl))
    (bo (gI (gZ (eR (U 0) (by rfl)) kC HA.eh aad (aq.mono (by decide)) HA.bd .nil dj (ak (U 4) aD)))))
   (bc (gI (nr nV PySem.F.slot_list_extend PySem.F.type_list_extend abg (eR (U 0) (by rfl)) (ak (U 3) aD)))
   (bc (ll (U 0) (bH h4 (eR (U 0) (by rfl)) aW) rfl)
   (bo (c7 (U 3))))))))),?_⟩
  have Â:A.kV.length=s.ba.length:=by have:=gE D.pt;rw[bp]at this;exact this
  have vE:=O.vE;dsimp only[lz,qZ];refine agt (J:=nO 0 s.ba.length) (H1:=H) (xs:=(d_ s.ba.length).map λi:Nat=>V.int (0+i)) (rest:=[some (.ref x)]) (λR h=>⟨_,rfl,x,ay,_,_,_,rfl,D.ins,ct.cl,ct.no,rfl,A.pl,_,rfl,.inl (aG.of D.po),_,rfl,?_,?_,?_⟩) rfl (Ik 0 s.ba.length) (eM (by simp;omega)) (λn=>decide ((fZ s.aI n).fc≠jP (dW s.ba) n)) (λn=>.int (n:Int)) (λn v ah R ev aF k=>?_) (λn v ah R ev _ aF k=>?_) (λlF H1 qD bN s1=>?_)
  .rw[eB];omega
  .rw[eB];omega
  .rw[eB,Â,nN];exact h
  .have aS:n<s.ba.length/\v=.int (n:Int):=by rw[c6]at ev;obtain⟨i,el,rfl⟩:=fL.mp ev;obtain⟨af,ai⟩:=eG.mp el;rw[xC]at ai;subst ai;rw[jG]at af;exact⟨af,by rw[pR]⟩
   obtain⟨aS,rfl⟩:=aS;obtain⟨i,el,_⟩:=O.last aS;have cF:=D.same aF;refine⟨_,rfl,x,ay,_,_,_,rfl,cF.ins,ct.cl,ct.nw,rfl,A.dI,A.jv,_,rfl,cF.dc,rfl,_,rfl,A.dI,A.n,A.g,A.bj,_,_,_,n,i,_,_,rfl,cF.walk,el,I3 aS,rfl,_,rfl,?_⟩;have:=k ah (aN.refl _);unfold Ks;by_cases z:(fZ s.aI n).fc=jP (dW s.ba) n
   .rw[bL z];rw[dF (λw=>w z)]at this;exact this
   .rw[bF z];rw[cq z]at this;exact this
  .obtain rfl:v=.int (n:Int):=by rw[c6]at ev;obtain⟨i,el,rfl⟩:=fL.mp ev;obtain⟨af,ai⟩:=eG.mp el;rw[xC]at ai;subst ai;rw[pR]
   exact⟨_,rfl,k ah (aN.refl _)⟩
  have yE:((d_ s.ba.length).map λi:Nat=>V.int (0+i)).length=s.ba.length:=by simp
  rw[yE]at bN;have am0:H1 lF=some (.lst (fC (hr s))):=bN;have Da:=D.same s1;have gl:(hr s).length<=40:=by unfold hr;refine e3 (ky _ _) ?_;rw[jG];exact vE
  have Zw:(hr s).Nodup:=FC.filter _;refine⟨_,rfl,x,ay,_,_,_,rfl,Da.ins,ct.cl,ct.nn,rfl,_,rfl,x,ay,_,_,_,rfl,Da.ins,ct.cl,ct.nw,rfl,_,rfl,_,rfl,x,ay,_,_,_,rfl,Da.ins,ct.cl,ct.tJ,rfl,_,rfl,x,ay,_,_,_,rfl,Da.ins,ct.cl,ct.np,rfl,A.dI,A.n,A.g,A.bj,lF,A.y,A.t,A.bt,A.bu,_,A.ls,A.rs,s.aI,hs,ds,s.kvs,hr s,ir s,_,iP s.aI,iw s.kvs (dW s.ba) s.aI,s.pr,rfl,rfl,Da.walk,aG.of am0,Da.Tg,Da.lC.same Da.b',G,by omega,Zw,λn aS=>O.on aS,λn aS=>O.rd aS,λaM ah as rl j0 s2 h7 g0 up mem=>?_⟩;obtain rfl:=Vi (λn aS=>O.rd aS) up mem;obtain⟨Bs,MR⟩:∃Bs,Bs=oj ds (iP s.aI) (iw s.kvs (dW s.ba) s.aI) s.pr ((hr s).filter (ir s)):=⟨_,rfl⟩
  have g0:bk (hq ah) as Bs:=by rw[MR];exact g0
  have Db:=Da.same s2;have aoJ:Bs.length<=40:=by rw[MR];unfold oj ni;rw[bp];refine e3 (ky _ _) ?_;rw[jG];exact O.alf
  have gO:=gE g0;refine Fq ?_;dsimp only;refine IY ?_;refine aft (F:=hq ah) (J:=mf K aM) (H1:=ah) (as:=as) (Bs:=Bs) (rest:=[some (.ref x)]) (λR h=>⟨_,rfl,aM,rfl,⟨_,aG.of h7⟩,h⟩) rfl (tn (aG.of h7)) (eM (by omega)) g0 (λb=>decide (b.1.2∉s.fS)) (λi a b bg R au ea aF cO=>?_) (λgh bg iX nA Nr uQ s3=>?_)
  .obtain⟨gn,Y3,c,jh,hN⟩:=bk.get g0 au;rw[ea]at Y3;cases Y3;have gh:=Db.same aF;refine⟨_,rfl,a,_,_,_,rfl,rfl,cH.of (aF _ _ jh),rfl,_,rfl,x,ay,_,_,_,rfl,gh.ins,ct.cl,ct.tE,rfl,A.cV,_,rfl,iR.k (k:=eX (b.1.2:Int)) gh.cV,_,rfl,?_⟩;rw[T3];exact cO
  have YZ:Bs.filter (λb=>decide (b.1.2∉s.fS))=gK ds s:=by rw[MR];rfl
  rw[YZ]at uQ;have gV:=Db.same s3;have atN:(gK ds s).length<=40:=by rw[<-YZ];exact e3 (ky _ _) aoJ
  have aoK:=gE uQ;have uQ:=bk.e2 uQ λa b h=>h.same s3;have bin:∀b∈gK ds s,b.1.2<ds.length/\b.2.Nodup/\∀i∈b.2,i<s.aI.length:=λb aa=>by
   unfold gK oj at aa;obtain⟨r,aq,pF⟩:=cn.mp (hC.mp aa).1;subst pF;refine⟨?_,Xi (Zw.filter _) r,λi ar=>?_⟩
   .unfold ni at aq;exact lK.mp (hC.mp aq).1
   .have:=(T2.mp (hC.mp (I1 ar).1).1).1;rw[O.len];exact this
  have aJ:=D.aJ;unfold d3.bO at aJ;simp only[iH,dA,not_or]at aJ;obtain⟨⟨eP,hT,oN,oO,zt,EW,wH,EX,zu⟩,⟨d0,gP,tQ,ly,H9,tR,é,yS⟩,⟨oP,Ŕ,ŕ,TF,wI,wJ,TG⟩,⟨ď,f5,t3,Sb,Sd,wh⟩,⟨bM,cU,hn,rR,DU⟩,⟨fe,fK,hx,EN⟩,⟨g1,g2,g3⟩,⟨IA,r2⟩,aE,Qu⟩:=aJ;have amM:∀l∈A.ls,a9 l=none:=λl aj=>D.fr l (by unfold d3.bO;simp[aj]);have PU:∀{J8:ae}{i':fa},bk (hG J8) A.ls i'->∀l∈A.ls,∃ts,J8 l=some (.lst ts):=λ{J8 i'}i9 l aj=>by obtain⟨i,ar,el⟩:=mi aj;obtain⟨_,_,ts,e,_⟩:=bk.get i9 (eG.mpr ⟨ar,el⟩);exact⟨_,e⟩
  have P9:gh∉A.ls:=λz=>by obtain⟨ts,e⟩:=PU Db.l9 _ z;rw[nA]at e;cases e
  refine⟨_,rfl,gh,rfl,⟨_,aG.of Nr⟩,?_⟩;refine qd (K:=K) (a:=gh) (xs:=aH iX) (λj σ gj=>∃v4,σ=[some (.ref x),some (.ref lF),some (.ref aM),some (.ref gh),v4]/\aN (mask bg A.ls) gj/\bk (hG gj) A.ls (od hs ds ((gK ds s).take j) s.aI))
   ⟨none,rfl,Dt _ _,gV.l9⟩ (λj σ gj _⟨_,_,h,_⟩=>aG.of (h _ _ (lX Nr P9))) ?_ ?_
  .rintro j z σ gj dx ⟨v4,rfl,iy,e1⟩;unfold aH at dx;rw[c6]at dx;obtain⟨je,By,rfl⟩:=fL.mp dx;obtain⟨b,ea,c,jh,hN⟩:=bk.get uQ By;obtain⟨f9,gn,xW⟩:=bin b (eK ea);have dK:∀{c:Addr}{v:aY},bg c=some (.tup v)->c∉A.ls:=λ{c v}e z=>by obtain⟨ts,aB⟩:=PU gV.l9 _ z;rw[e]at aB;cases aB
   have a4:(gK ds s).take (j+1)=(gK ds s).take j++[b]:=by rw[oW,ea];rfl
   have oa:=iy _ _ (lX gV.ins zu);have aoj:=iy _ _ (lX gV.dc EN);have þ:aN a9 (mask bg A.ls):=λb o e=>lX (gV.b' _ _ e) λz=>by rw[amM b z]at e;cases e
   refine⟨_,rfl,x,ay,_,_,_,rfl,oa,ct.cl,ct.nw,rfl,A.dI,A.jv,_,rfl,aoj,rfl,_,rfl,mask bg A.ls,A.dI,A.n,A.g,A.bj,A.bt,A.bu,je,dW s.ba,A.ls,A.rs,_,hs,ds,b,rfl,iy,⟨⟨_,lX gV.dc EN⟩,lX gV.l' g3,lX gV.ws r2⟩,e1,Qu,(λl aj=>D7 aj),D.hi.same þ,D.lC.same þ,⟨c,lX jh (dK jh),lX hN (dK hN)⟩,f9,gn,?_,?_,λH' s' cm=>⟨_,rfl,s',?_⟩⟩
   .intro i ar;rw[ww];exact xW i ar
   .intro ss Ow;have:=adS O (WO j (gK ds s)) ss Ow;omega
   .rw[a4,Ś];exact cm
  .rintro σ gj ⟨v4,rfl,iy,e1⟩;rw[eB,aoK,oX]at e1;have oa:=iy _ _ (lX gV.ins zu);have qs:=iy _ _ (lX gV.dh aE);have GR:=iy _ _ (lX Nr P9);have atX:=gE D.sp;have IE:=O.IE;refine⟨_,rfl,x,ay,_,_,_,rfl,oa,ct.cl,ct.ns,rfl,.inl ⟨rfl,_,aG.of qs⟩,_,rfl,A.dh,gh,_,_,rfl,rfl,qs,GR,?_,?_⟩
   .rw[eB,eB];exact e3 (show _<=10000 by omega) (by decide)
   rw[show aH A.ft++aH iX=aH (A.ft++iX) by unfold aH;rw[eW]];have k1:∀b o,b≠A.dh->gj b=some o->upd gj A.dh (.lst (aH (A.ft++iX))) b=some o:=λb o nb e=>(aA nb).trans e;have pa:upd gj A.dh (.lst (aH (A.ft++iX))) A.dh=some (.lst (aH (A.ft++iX))):=aQ;dsimp only;generalize upd gj A.dh (.lst (aH (A.ft++iX)))=nM at k1 pa⊢;have Ι:=k1 _ _ EX oa;refine⟨_,rfl,x,ay,_,_,_,rfl,Ι,ct.cl,ct.np,rfl,_,_,rfl,rfl,_,rfl,x,ay,A.ag,_,rfl,Ι,ct.cl,ct.np,(by show 7<1000;decide),_,rfl,?_⟩;have i6:∀b o,b∉[x,A.dh]->gj b=some o->upd nM x (.ins ay A.ag (rV A.n A.pl A.y A.cV A.dI A.dh (s.pr+1))) b=some o:=λb o nb e=>by simp only[dA,eA,or_false,not_or]at nb;exact(aA nb.1).trans (k1 _ _ nb.2 e)
   have qy:∀{b o},b≠x->b≠A.dh->b∉A.ls->bg b=some o->upd nM x (.ins ay A.ag (rV A.n A.pl A.y A.cV A.dI A.dh (s.pr+1))) b=some o:=λ{b o}dt dC ot e=>i6 b o (by simp[dt,dC]) (iy _ _ (lX e ot));have dK:∀{c:Addr}{v:aY},bg c=some (.tup v)->c∉A.ls:=λ{c v}e z=>by obtain⟨ts,aB⟩:=PU gV.l9 _ z;rw[e]at aB;cases aB
   have kt:∀b v,bg b=some (.tup v)->upd nM x (.ins ay A.ag (rV A.n A.pl A.y A.cV A.dI A.dh (s.pr+1))) b=some (.tup v):=λb v e=>qy (ao.hS e gV.ins (by intro z;cases z)) (ao.hS e gV.dh (by intro z;cases z)) (dK e) e;have y2:=s1.trans (s2.trans s3);have aqs:=s1.trans s2;have ao2:H gh=none:=by
    cases e:H gh with
    |none=>rfl
    |some o=>rw[aqs _ _ e]at nA;cases nA
   obtain⟨hH,OJ⟩:=gV.l_;have old:∀{b o},bg b=some o->ah b=some o->b≠gh:=λ{b o}_ e z=>by rw[z,nA]at e;cases e
   obtain⟨atn,aom⟩:=Db.l_;have Qf:gh∉A.bO x:=λz=>by
    unfold d3.bO at z;simp only[dA]at z;rcases z with h|h|h|h|h|h|h|h|h|h
    .exact bW Db.ins nA h.symm
    .exact bW Db.po nA h.symm
    .exact bW aom nA h.symm
    .exact bW Db.oM nA h.symm
    .exact bW Db.cV nA h.symm
    .exact bW Db.dc nA h.symm
    .exact bW Db.l' nA h.symm
    .exact bW Db.ws nA h.symm
    .exact bW Db.dh nA h.symm
    .exact P9 h
   have ao4:gh≠x:=λz=>Qf (by unfold d3.bO;simp[z]);have ao3:gh≠A.dh:=λz=>Qf (by unfold d3.bO;simp[z]);have apV:∀{l g9:bS}{m cP:mu}{F:Addr->k7×List Nat->Prop},bk F l m->bk F g9 cP->bk F (l++g9) (m++cP):=λ{l g9 m cP F}p hu=>by
    induction p with
    |nil=>exact hu
    |cons r t a8=>exact .cons r a8
   refine q _ {A with ft:=A.ft++iX} gh iX ⟨λb o nb e=>?_,λb aa=>.inl aa⟩ ⟨λb o e=>?_,D.hi,D.lC,aQ,qy (cL eP) é yS gV.po,bk.e2 gV.pt λ_ _ e=>kt _ _ e,⟨hH,qy (cL hT) wJ TG OJ⟩,qy (cL oN) Sd wh gV.oM,qy (cL oO) rR DU gV.cV,qy (cL zt) hx EN gV.dc,qy (cL EW) g2 g3 gV.l',qy (cL wH) IA r2 gV.ws,Si i6 ?_ e1 ?_,(aA (cL EX)).trans pa,apV (bk.e2 gV.sp λ_ _⟨c,af,ai⟩=>⟨c,kt _ _ af,kt _ _ ai⟩) (bk.e2 uQ λ_ _⟨c,af,ai⟩=>⟨c,kt _ _ af,kt _ _ ai⟩),D.aJ,D.fr⟩ ao2 Qf (i6 _ _ (by simp[ao4,ao3]) GR) (bk.e2 uQ λ_ _⟨c,af,ai⟩=>⟨c,kt _ _ af,kt _ _ ai⟩)
   .unfold d3.bO at nb;simp only[dA,not_or]at nb;exact qy nb.1 nb.2.2.2.2.2.2.2.2.1 nb.2.2.2.2.2.2.2.2.2 (y2 _ _ e)
   .have f0:∀c∈A.bO x,b≠c:=λc ax z=>by rw[z,D.fr c ax]at e;cases e
    exact qy (f0 x (by unfold d3.bO;simp)) (f0 A.dh (by unfold d3.bO;simp)) (λz=>f0 b (by unfold d3.bO;simp[z]) rfl) (gV.b' _ _ e)
   .intro b aa v e;simp only[dA,eA,or_false]at aa;rcases aa with rfl|rfl
    .rw[oa]at e;cases e
    .rw[qs]at e;cases e
   .intro l aj z;simp only[dA,eA,or_false]at z;rcases z with rfl|rfl
    .exact zu aj
    .exact aE aj
end
theorem I4{hs:br}{h g:Str}{t:Int}:ij (bN hs) (g5 (h,t,g))=true↔h∈hs.map S/\g∈hs.map S/\h≠g/\0<=t/\t<=1000000000:=by
 show(hc (bN hs) (.str h) (.str g)&&D4 0 1000000000 (.int t))=true↔_;rw[jD];have w:D4 0 1000000000 (.int t)=(decide (0<=t)&&decide (t<=1000000000)):=rfl;rw[w,jD,decide_eq_true_eq,decide_eq_true_eq];constructor
 .rintro⟨u,t0,t1⟩;unfold hc at u;rw[jD,jD]at u;refine⟨?_,?_,?_,t0,t1⟩
  .by_cases z:h∈hs.map S
   .exact z
   .rw[Jl z]at u;cases u.1.1
  .by_cases z:g∈hs.map S
   .exact z
   .rw[Jl z]at u;cases u.1.2
  .rintro rfl;have:=u.2;simp[g_]at this
 .rintro⟨a,b,c,t0,t1⟩;exact⟨IX a b c,t0,t1⟩
structure vY(hs:br)(s:cX):Prop where
 is:∀d∈s.ba,ij (bN hs) (g5 d)=true
 lo:∀d∈s.ba,∀fA,s.ba.head?=some fA->fA.2.1<=d.2.1
 ar:∀d∈s.ba,d.2.1<=s.pr
theorem adT{hs:br}{s:cX}(lL:vY hs s){h g:Str}(b:ij (bN hs) (g5 (h,s.pr,g))=false):lj (bN hs) ((s.ba++[(h,s.pr,g)]).map g5)=some s.ba.length:=by
 refine QP (λj bK d dS=>?_) ⟨g5 (h,s.pr,g),?_,b⟩
 .rw[c6,acB bK]at dS;obtain⟨e,he,rfl⟩:=fL.mp dS;exact lL.is e (eK he)
 .rw[c6,WI (cj _),adp];rfl
theorem Vk{hs:br}{s:cX}(lL:vY hs s){h g:Str}(b:ij (bN hs) (g5 (h,s.pr,g))=true):lj (bN hs) ((s.ba++[(h,s.pr,g)]).map g5)=none:=by
 refine Hp.mp λd hd=>?_;obtain⟨e,he,rfl⟩:=cn.mp hd;rcases hX.mp he with z|z
 .exact lL.is e z
 .rw[iW.mp z];exact b
theorem Ī{hs:br}{s:cX}(lL:vY hs s)(h g:Str):zg (((s.ba++[(h,s.pr,g)]).map g5).map nx)=s.pr-((s.ba.head?.map λd=>d.2.1).getD s.pr):=by
 have e:((s.ba++[(h,s.pr,g)]).map g5).map nx=(s.ba++[(h,s.pr,g)]).map λd=>d.2.1:=by rw[jH];rfl
 rw[e];have ne:(s.ba++[(h,s.pr,g)]).map (λd=>d.2.1)≠[]:=by simp
 unfold zg;rw[bF ne];obtain⟨jA,tw⟩:=ahb ne;obtain⟨dt,dC⟩:=Xd ne;have qC:t2 ((s.ba++[(h,s.pr,g)]).map λd=>d.2.1)=s.pr:=by
  have a1:=tw s.pr (cn.mpr ⟨(h,s.pr,g),by simp,rfl⟩);obtain⟨d,hd,aE⟩:=cn.mp jA;rcases hX.mp hd with z|z
  .have:=lL.ar d z;omega
  .rw[iW.mp z]at aE;exact aE.symm
 rw[qC];cases aj:s.ba with
 |nil=>
  rw[aj]at dt;obtain⟨d,hd,aE⟩:=cn.mp dt;have:d=(h,s.pr,g):=by simpa using hd
  rw[this]at aE;simp only[List.head?_nil,Option.map_none,Xj];have aE:s.pr=oi ((([]:m5)++[(h,s.pr,g)]).map λd=>d.2.1):=aE;rw[<-aE]
 |cons fA r=>
  rw[aj]at dt dC;have f9:=dC fA.2.1 (cn.mpr ⟨fA,by simp,rfl⟩);obtain⟨d,hd,aE⟩:=cn.mp dt;have gn:fA.2.1<=d.2.1:=by
   rcases hX.mp hd with z|z
   .exact lL.lo d (by rw[aj];exact z) fA (by rw[aj];rfl)
   .rw[iW.mp z];exact lL.ar fA (by rw[aj];exact .head _)
  simp only[List.head?_cons,FF,Option.getD_some];omega
inductive ahT(C az cN:Addr)(vs:aY)(H:ae)(Q:a')(E:b2):Prop where
 |mk (x n t bt bu:Addr) (hs:br) (ys:aY) (kvs:eV) (h g:Str) (bV:vs=[.ref x,.str h,.str g]) (bD:pq C az H x n t bt bu (cE hs) ys kvs) (b_:Good hs) (c_:dm H (.str h) (.str h)) (d1:dm H (.str g) (.str g)) (fw:(hc (bN hs) (.str h) (.str g)=true->∀H',aN H H'->Q .bl (upd H' t (.c4 (ui kvs (f3 h g)))))) (iE:(hc (bN hs) (.str h) (.str g)=false->∀H',aN H H'->E (.ref cN) none H'))
noncomputable def Lj(C az cN:Addr):cG:=λvs H Q E=>ahT C az cN vs H Q E
section
variable{P:bJ}{w:bq}{K:aU}{mg:cB}{base:Heap}
noncomputable abbrev Ei:Stmt:=gL (top 38) 2
theorem aji:dw ["self","house","goal"] ["self","house","goal"] (c3 Ei):=⟨rfl,rfl,rfl,by decide+kernel,rfl,by decide+kernel,by decide+kernel⟩
theorem ahU{C az cN f f2:Addr}{fd d8:cz}(F:bw K "drop_way" "Ways.drop_way" Ei f fd)(da:qK K C)(nZ:c0 K C "need_pair" "Ways.need_pair" v_ ["self","house","goal"] f2 d8)(rm:aL P w K mg base (d9 P w) 2 f2 d8 ["self","house","goal"] (AK C az cN)):
  aL P w K mg base (d9 P w) 3 f fd ["self","house","goal"] (Lj C az cN):=by
 have jM:=da.cl;refine oy F aji (λvs H Q E h=>?_) (λcdv A outer s H vs Q E aq h=>?_)
 .obtain⟨x,n,t,bt,bu,hs,ys,kvs,h',g',rfl,_⟩:=h;rfl
 .obtain⟨x,n,t,bt,bu,hs,ys,kvs,h',g',rfl,W,G,bC,b8,q,iu⟩:=h;obtain⟨ag,av⟩:=W.ins;refine⟨_,(bc (gI (gZ (U 0) jM nZ.eh rm (aq.mono (by decide)) nZ.bd .nil qw (ak (U 1) (ak (U 2) aD))))
   (bo (gI (U5 (iM aq) (eR (U 0) (by rfl)) (i1 (ak (U 1) (ak (U 2) aD))) kG ⟨rfl,rfl,rfl,rfl⟩)))),?_⟩
  refine⟨_,rfl,x,ag,_,rfl,av,rfl,_,rfl,_,rfl,x,n,t,bt,bu,hs,_,kvs,.str h',.str g',.str h',.str g',rfl,W,G,bC,b8,(by show 0<=60;decide),(by show 0<=60;decide),λax H1 s1=>?_,iu⟩;refine⟨_,rfl,x,C,ag,_,_,rfl,s1 _ _ av,da.cl,da.dK,rfl,t,rfl,.inr ⟨_,.inl (s1 _ _ W.told)⟩,_,rfl,_,rfl,(by show 2<=sizeLine;decide),λr jj=>?_⟩;have s3:=bU (o:=.tup [V.str h',V.str g']) jj;exact⟨kvs,f3 h' g',r,rfl,s3 _ _ (s1 _ _ W.told),aQ,q ax _ (s1.trans s3)⟩
noncomputable def Yj(s:cX)(h g:Str)(i:Int):cX:={s with kvs:=eo s.kvs (f3 h g) (.int i)}
noncomputable def XW(s:cX)(h g:Str):cX:={s with kvs:=ui s.kvs (f3 h g)}
noncomputable def z0(l:dH)(r:Nat):List Nat:=if r∈l then l else l++[r]
noncomputable def zV(s:cX)(r:Nat):cX:={s with fS:=z0 s.fS r}
noncomputable def vK(s:cX)(r:Nat):cX:={s with fS:=s.fS.filter λk=>decide (k≠r)}
theorem U7(l:dH)(r:Nat):eo (ix l) (eX (r:Int)) (.aM true)=ix (z0 l r):=by
 unfold eo z0;have aK:((ix l).any λcc=>decide (cc.1=(eX (r:Int):a7)))=decide (r∈l):=by
  unfold ix;rw[List.any_map,zR,pT,decide_eq_true_iff];constructor
  .rintro⟨k,aX,e⟩;have e:=jk e;have e:(k:Int)=(r:Int):=A_ e;rw[<-J' e];exact aX
  .exactλh=>⟨r,h,cq rfl⟩
 rw[aK];by_cases h:r∈l
 .rw[bL (cq h),bL h];unfold ix;rw[jH];refine Fz λk _=>?_;show(if(eX (k:Int):a7)=eX (r:Int)then((eX (k:Int):a7),V.aM true)else(eX (k:Int),V.aM true))=_;split<;>rfl
 .rw[bF (by simp[h]),bF h];unfold ix;rw[eW];rfl
theorem ŝ(l:dH)(r:Nat):tX (ix l) (eX (r:Int))=ix (l.filter λk=>decide (k≠r)):=by
 unfold tX ix;rw[AB];congr 1;refine WG λk _=>?_;show decide ((eX (k:Int):a7)≠eX (r:Int))=decide (k≠r);by_cases e:k=r
 .subst e;rw[dF (by simp),dF (by simp)]
 .rw[cq e,cq (show(eX (k:Int):a7)≠eX (r:Int) fromλz=>e (J' (A_ z)))]
theorem Ş(l:dH)(r:Nat)(h:ck (ix l) (eX (r:Int):a7)=none):(l.filter λk=>decide (k≠r))=l:=by have:=T3 l r;rw[h]at this;have aS:r∉l:=jk this.symm;exact Kk.mpr λk aX=>cq λz=>aS (z▸aX)
end
section
variable{P:bJ}{w:bq}{K:aU}{mg:cB}{base:Heap}{ay C aV az:Addr}{a9 H:ae}{x:Addr}{A:d3}{hs:br}{ds:bZ}{s:cX}
theorem ef.HJ(D:ef ay C aV az a9 H x A hs ds s):A.t∈A.bO x/\A.cV∈A.bO x:=by unfold d3.bO;simp
theorem T4{α β:Type}{F G:α->β->Prop}:∀{xs:List α}{ys:List β},bk F xs ys->(∀x∈xs,∀y,F x y->G x y)->bk G xs ys
 |_,_,.nil,_=>.nil
 |_,_,.cons h r,k=>.cons (k _ (by simp) _ h) (T4 r λx av=>k x (by simp[av]))
theorem ef.Ii(D:ef ay C aV az a9 H x A hs ds s){H':ae}(aF:aN H H')(kvs:eV):ef ay C aV az a9 (upd H' A.t (.c4 kvs)) x A hs ds {s with kvs:=kvs}/\ho (A.bO x) (A.bO x) H (upd H' A.t (.c4 kvs)):=by
 have cA:=D.same aF;have dK:∀{b v},H' b=some (.tup v)->b≠A.t:=λ{b v}e z=>by rw[z,cA.oM]at e;cases e
 have aJ:=D.aJ;unfold d3.bO at aJ;simp only[iH,dA,not_or]at aJ;obtain⟨⟨_,_,dt,_⟩,⟨_,dC,_⟩,⟨ot,_⟩,⟨P6,yH,P7,pv,P8,tx⟩,_⟩:=aJ;obtain⟨hH,cM⟩:=cA.l_;refine⟨⟨λb o e=>?_,D.hi,D.lC,?_,?_,bk.e2 cA.pt λa v e=>?_,⟨hH,?_⟩,aQ,?_,?_,?_,?_,?_,?_,bk.e2 cA.sp λa v e=>?_,D.aJ,D.fr⟩,⟨λb o nb e=>?_,λb aa=>.inl aa⟩⟩
 .rw[aA (λz=>by rw[z,D.fr _ D.HJ.1]at e;cases e)];exact cA.b' _ _ e
 .rw[aA dt];exact cA.ins
 .rw[aA dC];exact cA.po
 .rw[aA (dK e)];exact e
 .rw[aA ot];exact cM
 .rw[aA (cL P6)];exact cA.cV
 .rw[aA (cL yH)];exact cA.dc
 .rw[aA (cL P7)];exact cA.l'
 .rw[aA (cL pv)];exact cA.ws
 .exact T4 cA.l9 λl aj ss⟨ts,aE,aB⟩=>⟨ts,by rw[aA (λz=>tx (by rw[<-z];exact aj))];exact aE,bk.e2 aB λa v e=>by rw[aA (dK e)];exact e⟩
 .rw[aA (cL P8)];exact cA.dh
 .obtain⟨c,aE,aB⟩:=e;exact⟨c,by rw[aA (dK aE)];exact aE,by rw[aA (dK aB)];exact aB⟩
 .rw[aA (λz=>nb (by rw[z];exact D.HJ.1))];exact aF _ _ e
theorem ef.ï(D:ef ay C aV az a9 H x A hs ds s){H':ae}(aF:aN H H')(l:dH):ef ay C aV az a9 (upd H' A.cV (.bX (ix l))) x A hs ds {s with fS:=l}/\ho (A.bO x) (A.bO x) H (upd H' A.cV (.bX (ix l))):=by
 have cA:=D.same aF;have dK:∀{b v},H' b=some (.tup v)->b≠A.cV:=λ{b v}e z=>by rw[z,cA.cV]at e;cases e
 have aJ:=D.aJ;unfold d3.bO at aJ;simp only[iH,dA,not_or]at aJ;obtain⟨⟨_,_,_,dt,_⟩,⟨_,_,dC,_⟩,⟨_,ot,_⟩,⟨P6,_⟩,⟨yH,P7,pv,P8,tx⟩,_⟩:=aJ;obtain⟨hH,cM⟩:=cA.l_;refine⟨⟨λb o e=>?_,D.hi,D.lC,?_,?_,bk.e2 cA.pt λa v e=>?_,⟨hH,?_⟩,?_,aQ,?_,?_,?_,?_,?_,bk.e2 cA.sp λa v e=>?_,D.aJ,D.fr⟩,⟨λb o nb e=>?_,λb aa=>.inl aa⟩⟩
 .rw[aA (λz=>by rw[z,D.fr _ D.HJ.2]at e;cases e)];exact cA.b' _ _ e
 .rw[aA dt];exact cA.ins
 .rw[aA dC];exact cA.po
 .rw[aA (dK e)];exact e
 .rw[aA ot];exact cM
 .rw[aA P6];exact cA.oM
 .rw[aA (cL yH)];exact cA.dc
 .rw[aA (cL P7)];exact cA.l'
 .rw[aA (cL pv)];exact cA.ws
 .exact T4 cA.l9 λl aj ss⟨ts,aE,aB⟩=>⟨ts,by rw[aA (λz=>tx (by rw[<-z];exact aj))];exact aE,bk.e2 aB λa v e=>by rw[aA (dK e)];exact e⟩
 .rw[aA (cL P8)];exact cA.dh
 .obtain⟨c,aE,aB⟩:=e;exact⟨c,by rw[aA (dK aE)];exact aE,by rw[aA (dK aB)];exact aB⟩
 .rw[aA (λz=>nb (by rw[z];exact D.HJ.2))];exact aF _ _ e
end
section
variable{P:bJ}{w:bq}{K:aU}{mg:cB}{base:Heap}
inductive agX(ay C aV az cN dq:Addr)(vs:aY)(H:ae)(Q:a')(E:b2):Prop where
 |mk (a9:ae) (x:Addr) (A:d3) (hs:br) (ds:bZ) (s:cX) (h g:Str) (i:Int) (bV:vs=[.ref x,.str h,.str g,.int i]) (bD:ef ay C aV az a9 H x A hs ds s) (b_:Good hs) (c_:A.rs.length<=40) (d1:∀H,dm H (.str h) (.str h)) (fw:∀H,dm H (.str g) (.str g)) (iE:s.kvs.length<sizeLine)
   (k4:hc (bN hs) (.str h) (.str g)=true->i∈iA hs ds (·.a) h->∀H',ho (A.bO x) (A.bO x) H H'->ef ay C aV az a9 H' x A hs ds (Yj s h g i)->Q .bl H') (mV:hc (bN hs) (.str h) (.str g)=false->∀H',aN H H'->E (.ref cN) none H') (q6:hc (bN hs) (.str h) (.str g)=true->i∉iA hs ds (·.a) h->∀H',aN H H'->E (.ref dq) none H')
noncomputable def Fi(ay C aV az cN dq:Addr):cG:=λvs H Q E=>agX ay C aV az cN dq vs H Q E
noncomputable abbrev xt:Stmt:=gL (top 42) 3
theorem ahV:dw ["self","house","goal","road"] ["self","house","goal","road"] (c3 xt):=⟨rfl,rfl,rfl,by decide+kernel,rfl,by decide+kernel,by decide+kernel⟩
theorem agY{ay C aV az cN dq f f1:Addr}{fd cY:cz}(F:bw K "set_way" "Day.set_way" xt f fd)(ct:ut K ay)(jM:fp K aV)(sQ:c0 K aV "set_way" "Ways.set_way" y7 ["self","house","goal","road"] f1 cY)(x1:aL P w K mg base (d9 P w) 3 f1 cY ["self","house","goal","road"] (FY aV az cN dq)):
  aL P w K mg base (d9 P w) 4 f fd ["self","house","goal","road"] (Fi ay C aV az cN dq):=by
 refine oy F ahV (λvs H Q E h=>?_) (λcdv q9 outer s0 H vs Q E aq h=>?_)
 .obtain⟨a9,x,A,hs,ds,s,h',g',i,rfl,_⟩:=h;rfl
 .obtain⟨a9,x,A,hs,ds,s,h',g',i,rfl,D,G,eE,oF,dv,og,q,Rf,ap9⟩:=h;refine⟨_,(bo (gI (gZ (eR (U 0) (by rfl)) jM sQ.eh x1 (aq.mono (by decide)) sQ.bd .nil qw (ak (U 1) (ak (U 2) (ak (U 3) aD)))))),?_⟩;obtain⟨hH,cM⟩:=D.l_;exact⟨_,rfl,x,ay,_,_,_,rfl,D.ins,ct.cl,ct.tJ,rfl,A.y,hH,_,rfl,cM,rfl,_,rfl,_,rfl,_,rfl,A.y,A.n,A.t,A.bt,A.bu,hs,A.rs,ds,s.kvs,h',g',i,rfl,D.Tg,G,D.lC.same D.b',eE,oF _,dv _,og,λu m H' aF=>q u m _ (D.Ii aF _).2 (D.Ii aF _).1,Rf,ap9⟩
inductive Xl(ay C aV az cN:Addr)(vs:aY)(H:ae)(Q:a')(E:b2):Prop where
 |mk (a9:ae) (x:Addr) (A:d3) (hs:br) (ds:bZ) (s:cX) (h g:Str) (bV:vs=[.ref x,.str h,.str g]) (bD:ef ay C aV az a9 H x A hs ds s) (b_:Good hs) (d1:∀H,dm H (.str h) (.str h)) (fw:∀H,dm H (.str g) (.str g))
   (k4:hc (bN hs) (.str h) (.str g)=true->∀H',ho (A.bO x) (A.bO x) H H'->ef ay C aV az a9 H' x A hs ds (XW s h g)->Q .bl H') (mV:hc (bN hs) (.str h) (.str g)=false->∀H',aN H H'->E (.ref cN) none H')
noncomputable def Fj(ay C aV az cN:Addr):cG:=λvs H Q E=>Xl ay C aV az cN vs H Q E
noncomputable abbrev xu:Stmt:=gL (top 42) 4
theorem aiB:dw ["self","house","goal"] ["self","house","goal"] (c3 xu):=⟨rfl,rfl,rfl,by decide+kernel,rfl,by decide+kernel,by decide+kernel⟩
theorem agZ{ay C aV az cN f f1:Addr}{fd cY:cz}(F:bw K "drop_way" "Day.drop_way" xu f fd)(ct:ut K ay)(jM:fp K aV)(Hm:c0 K aV "drop_way" "Ways.drop_way" Ei ["self","house","goal"] f1 cY)(ari:aL P w K mg base (d9 P w) 3 f1 cY ["self","house","goal"] (Lj aV az cN)):
  aL P w K mg base (d9 P w) 4 f fd ["self","house","goal"] (Fj ay C aV az cN):=by
 refine oy F aiB (λvs H Q E h=>?_) (λcdv q9 outer s0 H vs Q E aq h=>?_)
 .obtain⟨a9,x,A,hs,ds,s,h',g',rfl,_⟩:=h;rfl
 .obtain⟨a9,x,A,hs,ds,s,h',g',rfl,D,G,oF,dv,q,Rf⟩:=h;refine⟨_,(bo (gI (gZ (eR (U 0) (by rfl)) jM Hm.eh ari (aq.mono (by decide)) Hm.bd .nil qw (ak (U 1) (ak (U 2) aD))))),?_⟩;obtain⟨hH,cM⟩:=D.l_;exact⟨_,rfl,x,ay,_,_,_,rfl,D.ins,ct.cl,ct.tJ,rfl,A.y,hH,_,rfl,cM,rfl,_,rfl,_,rfl,A.y,A.n,A.t,A.bt,A.bu,hs,_,s.kvs,h',g',rfl,D.Tg,G,oF _,dv _,λu H' aF=>q u _ (D.Ii aF _).2 (D.Ii aF _).1,Rf⟩
inductive aiC(ay C aV az dq:Addr)(vs:aY)(H:ae)(Q:a')(E:b2):Prop where
 |mk (a9:ae) (x:Addr) (A:d3) (hs:br) (ds:bZ) (s:cX) (i:Int) (bV:vs=[.ref x,.int i]) (bD:ef ay C aV az a9 H x A hs ds s) (b_:0<=i/\i<ds.length->Q .bl H) (c_:¬(0<=i/\i<ds.length)->∀H',aN H H'->E (.ref dq) none H')
noncomputable def FX(ay C aV az dq:Addr):cG:=λvs H Q E=>aiC ay C aV az dq vs H Q E
noncomputable abbrev y6:Stmt:=gL (top 42) 11
theorem ajj:dw ["self","number"] ["self","number"] (c3 y6):=⟨rfl,rfl,rfl,by decide+kernel,rfl,by decide+kernel,by decide+kernel⟩
theorem aiD{ay C aV az dq f f1:Addr}{fd cY:cz}(F:bw K "need_road" "Day.need_road" y6 f fd)(ct:ut K ay)(hp:fp K az)(n3:c0 K az "road" "Net.road" tM ["self","number"] f1 cY)(C8:aL P w K mg base (d9 P w) 1 f1 cY ["self","number"] (TQ az dq)):
  aL P w K mg base (d9 P w) 2 f fd ["self","number"] (FX ay C aV az dq):=by
 refine oy F ajj (λvs H Q E h=>?_) (λcdv q9 outer s0 H vs Q E aq h=>?_)
 .obtain⟨a9,x,A,hs,ds,s,i,rfl,_⟩:=h;rfl
 .obtain⟨a9,x,A,hs,ds,s,i,rfl,D,q,iu⟩:=h;refine⟨_,(bo (gI (gZ (eR (U 0) (by rfl)) hp n3.eh C8 (aq.mono (by decide)) n3.bd .nil qw (ak (U 1) aD)))),?_⟩;have hi:=D.hi.same D.b';obtain⟨iL,aS⟩:=hi.ins;have aE:((aH A.rs).length:Int)=ds.length:=by rw[eB,D.lC.len]
  refine⟨_,rfl,x,ay,_,_,_,rfl,D.ins,ct.cl,ct.nn,rfl,A.n,iL,_,rfl,aS,rfl,_,rfl,A.n,A.bt,A.bu,_,_,i,rfl,hi,λar=>?_,λar=>iu (λz=>ar (by rw[aE];exact z)) H (aN.refl _)⟩;rw[aE]at ar;obtain⟨v,bC⟩:∃v,ao.hb (aH A.rs) i=some v:=by
   have ai:i.toNat < (aH A.rs).length:=by omega
   refine⟨(aH A.rs)[i.toNat],?_⟩;have:=iI (xs:=aH A.rs) (dn ai)
   rwa [ur ar.1]at this
  exact⟨v,bC,q ar⟩
inductive ag0(ay C aV az dq:Addr)(up:cX->Nat->cX)(vs:aY)(H:ae)(Q:a')(E:b2):Prop where
 |mk (a9:ae) (x:Addr) (A:d3) (hs:br) (ds:bZ) (s:cX) (i:Int) (bV:vs=[.ref x,.int i]) (bD:ef ay C aV az a9 H x A hs ds s) (d1:s.fS.length<=900) (b_:∀r:Nat,i=r->r<ds.length->∀H',ho (A.bO x) (A.bO x) H H'->ef ay C aV az a9 H' x A hs ds (up s r)->Q .bl H') (c_:¬(0<=i/\i<ds.length)->∀H',aN H H'->E (.ref dq) none H')
noncomputable def t5(ay C aV az dq:Addr)(up:cX->Nat->cX):cG:=λvs H Q E=>ag0 ay C aV az dq up vs H Q E
noncomputable abbrev zB:Stmt:=gL (top 42) 5
theorem ag1:dw ["self","road"] ["self","road"] (c3 zB):=⟨rfl,rfl,rfl,by decide+kernel,rfl,by decide+kernel,by decide+kernel⟩
theorem afx{ay C aV az dq f f1:Addr}{fd cY:cz}(F:bw K "shut" "Day.shut" zB f fd)(ct:ut K ay)(sN:c0 K ay "need_road" "Day.need_road" y6 ["self","number"] f1 cY)(Pq:aL P w K mg base (d9 P w) 2 f1 cY ["self","number"] (FX ay C aV az dq)):
  aL P w K mg base (d9 P w) 3 f fd ["self","road"] (t5 ay C aV az dq zV):=by
 have fq:=ct.cl;refine oy F ag1 (λvs H Q E h=>?_) (λcdv q9 outer s0 H vs Q E aq h=>?_)
 .obtain⟨a9,x,A,hs,ds,s,i,rfl,_⟩:=h;rfl
 .obtain⟨a9,x,A,hs,ds,s,i,rfl,D,aoH,q,iu⟩:=h;refine⟨_,(bc (gI (gZ (U 0) fq sN.eh Pq (aq.mono (by decide)) sN.bd .nil qw (ak (U 1) aD)))
   (bo (yT (iM aq) (eR (U 0) (by rfl)) (U 1) hL rfl))),?_⟩
  refine⟨_,rfl,x,A.ag,_,rfl,D.ins,rfl,_,rfl,a9,x,A,hs,ds,s,i,rfl,D,λar=>?_,iu⟩;obtain⟨r,rfl⟩:∃r:Nat,i=(r:Int):=⟨i.toNat,by omega⟩
  have cF:=D.ï (aN.refl H) (z0 s.fS r);rw[<-U7]at cF;exact⟨_,rfl,x,ay,_,_,_,rfl,D.ins,ct.cl,ct.tE,rfl,_,rfl,A.cV,_,rfl,oI.k (k:=eX (r:Int)) D.cV (eM (by unfold ix;rw[bp];omega)),q r rfl (by omega) _ cF.2 cF.1⟩
noncomputable abbrev xv:Stmt:=gL (top 42) 6
theorem aiE:dw ["self","road"] ["self","road"] (c3 xv):=⟨rfl,rfl,rfl,by decide+kernel,rfl,by decide+kernel,by decide+kernel⟩
theorem ag2{ay C aV az dq f f1:Addr}{fd cY:cz}(F:bw K "reopen" "Day.reopen" xv f fd)(ct:ut K ay)(sN:c0 K ay "need_road" "Day.need_road" y6 ["self","number"] f1 cY)(Pq:aL P w K mg base (d9 P w) 2 f1 cY ["self","number"] (FX ay C aV az dq)):
  aL P w K mg base (d9 P w) 3 f fd ["self","road"] (t5 ay C aV az dq vK):=by
 have fq:=ct.cl;refine oy F aiE (λvs H Q E h=>?_) (λcdv q9 outer s0 H vs Q E aq h=>?_)
 .obtain⟨a9,x,A,hs,ds,s,i,rfl,_⟩:=h;rfl
 .obtain⟨a9,x,A,hs,ds,s,i,rfl,D,aoH,q,iu⟩:=h;refine⟨_,(bc (gI (gZ (U 0) fq sN.eh Pq (aq.mono (by decide)) sN.bd .nil qw (ak (U 1) aD)))
   (bo (gI (UL (eR (U 0) (by rfl)) (U 1) kG ⟨rfl,rfl,rfl,rfl⟩)))),?_⟩
  refine⟨_,rfl,x,A.ag,_,rfl,D.ins,rfl,_,rfl,a9,x,A,hs,ds,s,i,rfl,D,λar=>?_,iu⟩;obtain⟨r,rfl⟩:∃r:Nat,i=(r:Int):=⟨i.toNat,by omega⟩
  have cF:=D.ï (aN.refl H) (s.fS.filter λk=>decide (k≠r));rw[<-ŝ]at cF;refine⟨_,rfl,x,ay,_,_,_,rfl,D.ins,ct.cl,ct.tE,rfl,A.cV,rfl,.inl ⟨_,.inl D.cV⟩,_,rfl,_,eX (r:Int),D.cV,rfl,λv ev=>q r rfl (by omega) _ cF.2 cF.1,λev=>?_⟩;refine q r rfl (by omega) H (ho.refl (aN.refl _)) ?_;have e:vK s r=s:=by unfold vK;rw[Ş _ _ ev]
  rw[e];exact D
inductive ag3(ay C aV az:Addr)(vs:aY)(H:ae)(Q:a')(E:b2):Prop where
 |mk (a9:ae) (x:Addr) (A:d3) (hs:br) (ds:bZ) (s:cX) (bV:vs=[.ref x]) (bD:ef ay C aV az a9 H x A hs ds s) (b_:∀l,H l=none->Q (.ref l) (upd H l (.lst (aH A.ft))))
noncomputable def zW(ay C aV az:Addr):cG:=λvs H Q E=>ag3 ay C aV az vs H Q E
noncomputable abbrev uk:Stmt:=gL (top 42) 8
theorem aiF:dw ["self"] ["self"] (c3 uk):=⟨rfl,rfl,rfl,by decide+kernel,rfl,by decide+kernel,by decide+kernel⟩
theorem agS{ay C aV az f:Addr}{fd:cz}(F:bw K "log" "Day.log" uk f fd)(B:gg mg)(ct:ut K ay):aL P w K mg base a5 1 f fd ["self"] (zW ay C aV az):=by
 refine F.ok aiF (λvs H Q E h=>?_) (λcdv A outer s H vs Q E aq h=>?_)
 .obtain⟨a9,x,A,hs,ds,s,rfl,_⟩:=h;rfl
 .obtain⟨a9,x,A,hs,ds,s,rfl,D,q⟩:=h;refine⟨_,(bo (c7 (m9 u9 (by rfl) B.list oc (ak (eR (U 0) (by rfl)) aD)))),?_⟩;exact⟨_,rfl,x,ay,_,_,_,rfl,D.ins,ct.cl,ct.ns,rfl,A.dh,_,rfl,.inl (aG.of D.dh),q⟩
inductive sb where
 |qS (r:Nat)
 |qN (r:Nat)
 |drop (h g:Str)
 |set (h g:Str) (r:Nat)
noncomputable def sb.act(s:cX):sb->cX
 |.qS r=>zV s r
 |.qN r=>vK s r
 |.drop h g=>XW s h g
 |.set h g r=>Yj s h g (r:Int)
inductive vZ(H:ae)(l:Addr):sb->Prop
 |qS {r:Nat}:H l=some (.lst [.str "shut",.int (r:Int),.bl])->vZ H l (.qS r)
 |qN {r:Nat}:H l=some (.lst [.str "reopen",.int (r:Int),.bl])->vZ H l (.qN r)
 |drop {h g:Str} {c:Addr}:H l=some (.lst [.str "way",.ref c,.bl,.bl])->H c=some (.tup [.str h,.str g])->vZ H l (.drop h g)
 |set {h g:Str} {r:Nat} {c:Addr}:H l=some (.lst [.str "way",.ref c,.int (r:Int),.bl])->H c=some (.tup [.str h,.str g])->vZ H l (.set h g r)
inductive zh(hs:br)(ds:bZ):sb->Prop
 |qS {r:Nat}:r<ds.length->zh hs ds (.qS r)
 |qN {r:Nat}:r<ds.length->zh hs ds (.qN r)
 |drop {h g:Str}:h∈hs.map S->g∈hs.map S->h≠g->zh hs ds (.drop h g)
 |set {h g:Str} {r:Nat}:h∈hs.map S->g∈hs.map S->h≠g->r<ds.length->pK hs ds r=h->zh hs ds (.set h g r)
theorem ef.live{ay C aV az:Addr}{a9 H:ae}{x:Addr}{A:d3}{hs:br}{ds:bZ}{s:cX}(D:ef ay C aV az a9 H x A hs ds s){l:Addr}(nl:H l=none):l∉A.bO x:=λaa=>by
 obtain⟨hH,cM⟩:=D.l_;unfold d3.bO at aa;simp only[dA]at aa;rcases aa with rfl|rfl|rfl|rfl|rfl|rfl|rfl|rfl|rfl|aa
 .rw[D.ins]at nl;cases nl
 .rw[D.po]at nl;cases nl
 .rw[cM]at nl;cases nl
 .rw[D.oM]at nl;cases nl
 .rw[D.cV]at nl;cases nl
 .rw[D.dc]at nl;cases nl
 .rw[D.l']at nl;cases nl
 .rw[D.ws]at nl;cases nl
 .rw[D.dh]at nl;cases nl
 .obtain⟨i,ar,el⟩:=mi aa;obtain⟨_,_,ts,af,_⟩:=bk.get D.l9 (eG.mpr ⟨ar,el⟩);rw[af]at nl;cases nl
theorem kk{H:ae}{hs:br}(G:Good hs){c:Str}(h:c∈hs.map S):dm H (.str c) (.str c):=by obtain⟨x,av,rfl⟩:=cn.mp h;have n:=G.nm x av;exact .str _ (by rw[qJ];have:=n.2.1;omega) (Io n)
end
theorem ş{hs:br}{h g:Str}(ny:h∈hs.map S)(mg:g∈hs.map S)(ne:h≠g):hc (bN hs) (.str h) (.str g)=true:=by
 obtain⟨u,b8,rfl⟩:=cn.mp ny;obtain⟨v,bC,rfl⟩:=cn.mp mg;obtain⟨i,ar,rfl⟩:=mi b8;obtain⟨j,bK,rfl⟩:=mi bC;have aE:hs.getD i []=hs[i]:=by rw[eJ,dn ar];rfl
 have aB:hs.getD j []=hs[j]:=by rw[eJ,dn bK];rfl
 have a:=T_ ar;have b:=T_ bK;rw[aE]at a;rw[aB]at b;show(inD _ _&&inD _ _&&!g_ _ _)=true;rw[a,b,T9,dF ne];rfl
theorem rM{α:Type}(f:α->ao.V){L:List α}(h:0<L.length)(z:Int):∃y,ao.hb (L.map f) (z%((L.map f).length:Int))=some (f y)/\L[(z%(L.length:Int)).toNat]?=some y:=by
 have tu:(L.map f).length=L.length:=bp _;rw[tu];have h0:0<=z%(L.length:Int):=ie _ (by omega);have af:z%(L.length:Int)<(L.length:Int):=lI _ (by omega);have cK:(z%(L.length:Int)).toNat < L.length:=by omega
 refine⟨L[(z%(L.length:Int)).toNat],?_,dn cK⟩;have e:=iI (show(L.map f)[(z%(L.length:Int)).toNat]?=some (f L[(z%(L.length:Int)).toNat]) by rw[c6,dn cK];rfl)
 rwa [ur h0]at e
theorem J3{x c m:Int}(h0:0<c)(af:c<m):(x+c)%m≠x%m:=λh=>by have e:=Int.sub_emod (x+c) x m;rw[h,Int.sub_self,Int.zero_emod,show x+c-x=c by omega,Wf (by omega) af]at e;omega
theorem ho.new{M oY:bS}{H H':ae}(fv:ho M oY H H'){l:Addr}(ao5:l∉M)(nl:H' l=none):H l=none:=by
 cases e:H l with
 |none=>rfl
 |some o=>rw[fv.keep l o ao5 e]at nl;cases nl
section
variable{P:bJ}{w:bq}{K:aU}{mg:cB}{base:Heap}
noncomputable abbrev Eh:Stmt:=top 48
noncomputable abbrev ao1:List Str:=["_law_day","_law_names","_law_lines","_law_n","_law_house","_law_goal","_law_road_here","_law_what","_law_mine"]
noncomputable abbrev DP:List Str:=["_law_day","_law_names","_law_lines","_law_n"]
theorem um:dw ao1 DP (c3 Eh):=⟨rfl,rfl,rfl,by decide+kernel,rfl,by decide+kernel,by decide+kernel⟩
inductive aiG(ay C aV az:Addr)(vs:aY)(H:ae)(Q:a')(E:b2):Prop where
 |mk (a9:ae) (x:Addr) (A:d3) (hs:br) (ds:bZ) (s:cX) (d0 cF:Addr) (rs:bS) (n:Int) (bV:vs=[.ref x,.ref d0,.ref cF,.int n]) (bD:ef ay C aV az a9 H x A hs ds s) (b_:Good hs) (c_:2<=hs.length) (d1:1<=ds.length) (fw:A.rs.length<=40) (iE:s.kvs.length<=900) (k4:s.fS.length<=900) (mV:a9 d0=some (.lst (cE hs))) (q6:a9 cF=some (.lst (aH rs))) (zE:iJ a9 hs rs ds)
   (wK:∀d H' l,zh hs ds d->ho (A.bO x) (A.bO x) H H'->ef ay C aV az a9 H' x A hs ds (d.act s)->H l=none->l∉A.bO x->vZ H' l d->Q (.ref l) H')
noncomputable def Lb(ay C aV az:Addr):cG:=λvs H Q E=>aiG ay C aV az vs H Q E
seal fM bh fN fV
theorem aiH{ay C aV az cN dq f f1 f2 cv f4:Addr}{fd cY d8 g8 kH:cz}(F:bw K "_law_change" "_law_change" Eh f fd)(B:gg mg)(fq:fp K ay)(ta:c0 K ay "shut" "Day.shut" zB ["self","road"] f1 cY)(Rl:aL P w K mg base (d9 P w) 3 f1 cY ["self","road"] (t5 ay C aV az dq zV))(sW:c0 K ay "reopen" "Day.reopen" xv ["self","road"] f2 d8)(PZ:aL P w K mg base (d9 P w) 3 f2 d8 ["self","road"] (t5 ay C aV az dq vK))(sR:c0 K ay "drop_way" "Day.drop_way" xu ["self","house","goal"] cv g8)(Po:aL P w K mg base (d9 P w) 4 cv g8 ["self","house","goal"] (Fj ay C aV az cN))(p7:c0 K ay "set_way" "Day.set_way" xt ["self","house","goal","road"] f4 kH)(Hq:aL P w K mg base (d9 P w) 4 f4 kH ["self","house","goal","road"] (Fi ay C aV az cN dq)):
  aL P w K mg base a5 5 f fd DP (Lb ay C aV az):=by
 refine F.ok um (λvs H Q E h=>?_) (λcdv q9 outer s0 H vs Q E aq h=>?_)
 .obtain⟨a9,x,A,hs,ds,s,d0,cF,rs,n,rfl,_⟩:=h;rfl
 .obtain⟨a9,x,A,hs,ds,s,d0,cF,rs,n,rfl,D,G,ai,jK,eE,og,bj,rB,qi,Rr,q⟩:=h;have Gx:rs.length<=40:=by have:=D.lC.len;have:=Rr.len;omega
  refine⟨_,(bc (c8 (i:=4) um.aJ rfl (rj rfl) (cp fk (U 1) (bH eZ (bH gY (U 3) aW) (dB gH (by rfl) B.len gA (ak (U 1) aD))) (λ_ _=>rfl)))
   (bc (c8 (i:=5) um.aJ rfl (b5 rfl) (cp fk (U 1) (bH eZ (bH h4 (bH h4 (bH gY (U 3) aW) aW) (bH eZ (bH gY (U 3) aW) (bH rN (dB gH (by rfl) B.len gA (ak (U 1) aD)) aW))) (dB gH (by rfl) B.len gA (ak (U 1) aD))) (λ_ _=>rfl)))
   (bc (c8 (i:=6) um.aJ rfl (b5 rfl) (bH eZ (bH gY (U 3) aW) (dB gH (by rfl) B.len gA (ak (U 2) aD))))
   (bc (c8 (i:=7) um.aJ rfl (b5 rfl) (bH eZ (bH gY (U 3) aW) aW))
   (bc (eO (eu i2 (U 7) aW (dr _)) (bo (c7 (gJ (ak jO (ak (U 6) (ak (gZ (U 0) fq ta.eh Rl (aq.mono (by decide)) ta.bd .nil wA (ak (U 6) aD)) aD)))))) fi)
   (bc (eO (eu i2 (U 7) aW (dr _)) (bo (c7 (gJ (ak jO (ak (U 6) (ak (gZ (U 0) fq sW.eh PZ (aq.mono (by decide)) sW.bd .nil wA (ak (U 6) aD)) aD)))))) fi)
   (bc (tj (i:=8) um.aJ rfl rfl rfl (N':=["_law_k","_law_house","_law_lines"]) (cs:=[none,some 4,some 2]) rfl (yr rfl B.range (ak (dB gH (by rfl) B.len gA (ak (U 2) aD)) aD)) rfl (by decide+kernel) rfl (by decide+kernel) (lq (nP.mpr ⟨rfl,(nP.mpr ⟨rfl,(λp aR=>bE aR (eA))⟩)⟩)) rfl
    (.own (.lS rfl (.inl rfl) (.inl rfl) rfl (.lS rfl (.inl rfl) (.inl rfl) rfl .nil)))
    (λC s3 bg cb e9=>⟨(ei (i:=0) (by show(["_law_k","_law_house","_law_lines"]:cf).Nodup;decide+kernel) rfl (.inl rfl)),(yQ (eu i2 (cp (vG (K:=K) rfl) (cp (SJ (K:=K) rfl) (U 2) (U 0) (λ_ _=>rfl)) aW (λ_ _=>rfl)) (U 1) (dr _))),(U 0)⟩))
   (bc (eO (ih.pt (om (eu i2 (U 7) aW (dr _)) (pk (eu (y0 aq.units) (U 8) (gJ aD) (dr _))))) (bo (c7 (gJ (ak jO (ak (i1 (ak (U 4) (ak (U 5) aD))) (ak kG (ak (gZ (U 0) fq sR.eh Po (aq.mono (by decide)) sR.bd .nil wA (ak (U 4) (ak (U 5) aD))) aD))))))) fi)
   (bc (c8 (i:=6) um.aJ rfl (b5 rfl) (cp fk (U 8) (bH eZ (bH gY (U 3) aW) (dB gH (by rfl) B.len gA (ak (U 8) aD))) (λ_ _=>rfl)))
   (bo (c7 (gJ (ak jO (ak (i1 (ak (U 4) (ak (U 5) aD))) (ak (U 6) (ak (gZ (U 0) fq p7.eh Hq (aq.mono (by decide)) p7.bd .nil wA (ak (U 4) (ak (U 5) (ak (U 6) aD)))) aD)))))))))))))))),?_⟩
  have aR:=D.b' _ _ rB;have hd:=D.b' _ _ qi;have dk:(cE hs).length=hs.length:=by unfold cE;rw[bp]
  obtain⟨u,Bf,nc⟩:=rM (λy=>V.str (S y)) (L:=hs) (by omega) (n/8);obtain⟨v,Bg,ev⟩:=rM (λy=>V.str (S y)) (L:=hs) (by omega) (n/8+1+n/96%((cE hs).length-1));have bO:S u∈hs.map S:=cn.mpr ⟨u,eK nc,rfl⟩;have fv:S v∈hs.map S:=cn.mpr ⟨v,eK ev,rfl⟩;have ne:S u≠S v:=λz=>by have e:=tY z;subst e;obtain⟨af,aE⟩:=eG.mp nc;obtain⟨bR,cJ⟩:=eG.mp ev;have:=(uy G.aJ).mp (aE.trans cJ.symm);have h0:0<=n/96%((cE hs).length-1:Int):=ie _ (by omega);have dX:n/96%((cE hs).length-1:Int)<((cE hs).length-1:Int):=lI _ (by omega);have a1:0<=n/8%(hs.length:Int):=ie _ (by omega);have a2:0<=(n/8+1+n/96%((cE hs).length-1))%(hs.length:Int):=ie _ (by omega);have:=J3 (x:=n/8) (c:=1+n/96%((cE hs).length-1)) (m:=hs.length) (by omega) (by omega);rw[<-We]at this;omega
  have un:=ş bO fv ne;have pos:(0:Int)<((cE hs).length:Int):=by omega
  have Q5:(0:Int)<((cE hs).length:Int)-1:=by omega
  have rl:(aH rs).length=ds.length:=by rw[eB,Rr.len]
  have Q6:(0:Int)<((aH rs).length:Int):=by omega
  refine⟨_,rfl,_,rfl,_,_,rfl,rfl,⟨by decide,by decide⟩,_,rfl,d0,_,rfl,.inl (aG.of aR),_,_,rfl,rfl,pos,d0,_,_,_,rfl,rfl,aG.of aR,Bf,?_⟩;refine⟨_,rfl,_,rfl,_,_,rfl,rfl,⟨by decide,by decide⟩,_,_,rfl,rfl,_,rfl,_,_,rfl,rfl,⟨by decide,by decide⟩,_,rfl,d0,_,rfl,.inl (aG.of aR),_,_,rfl,rfl,_,_,rfl,rfl,Q5,_,_,rfl,rfl,_,rfl,d0,_,rfl,.inl (aG.of aR),_,_,rfl,rfl,pos,d0,_,_,_,rfl,rfl,aG.of aR,Bg,?_⟩;refine⟨_,rfl,_,_,rfl,rfl,⟨by decide,by decide⟩,_,rfl,cF,_,rfl,.inl (aG.of hd),_,_,rfl,rfl,Q6,?_⟩;have r0:0<=n/4096%((aH rs).length:Int):=ie _ (by omega);have cg:n/4096%((aH rs).length:Int)<((aH rs).length:Int):=lI _ (by omega);obtain⟨r,gb⟩:∃r:Nat,n/4096%((aH rs).length:Int)=(r:Int):=⟨_,(ur r0).symm⟩
  have Iv:r<ds.length:=by omega
  rw[gb];refine⟨_,rfl,_,_,rfl,rfl,⟨by decide,by decide⟩,_,_,rfl,rfl,(by show(0:Int)<6;decide),?_⟩;refine⟨_,rfl,rfl,_,rfl,nC (λ_=>?_) (λ_=>?_)⟩
  .refine⟨_,rfl,_,rfl,x,A.ag,_,rfl,D.ins,rfl,_,rfl,a9,x,A,hs,ds,s,(r:Int),rfl,D,bj,λcD e lZ H' fv cA=>⟨by show 3<=sizeLine;decide,λl nl=>?_⟩,λno=>bE ⟨by omega,by omega⟩ no⟩;have e:cD=r:=by omega
   subst e;have lm:=cA.live nl;exact q (.qS cD) _ l (.qS lZ) (fv.trans (ho.refl (bU nl))) (cA.same (bU nl)) (fv.new lm nl) lm (.qS aQ)
  refine⟨_,rfl,rfl,_,rfl,nC (λ_=>?_) (λ_=>?_)⟩
  .refine⟨_,rfl,_,rfl,x,A.ag,_,rfl,D.ins,rfl,_,rfl,a9,x,A,hs,ds,s,(r:Int),rfl,D,bj,λcD e lZ H' fv cA=>⟨by show 3<=sizeLine;decide,λl nl=>?_⟩,λno=>bE ⟨by omega,by omega⟩ no⟩;have e:cD=r:=by omega
   subst e;have lm:=cA.live nl;exact q (.qN cD) _ l (.qN lZ) (fv.trans (ho.refl (bU nl))) (cA.same (bU nl)) (fv.new lm nl) lm (.qN aQ)
  dsimp only[zF];refine IY ?_;have CA:=Rr.same D.b';have yg:=CA.len;have item:∀(i:Nat)(v:ao.V),((d_ (aH rs).length).map λi:Nat=>V.int ((0:Int)+(i:Int)))[i]?=some v->∃r d,v=.int ((0:Int)+(i:Int))/\rs[i]?=some r/\ds[i]?=some d/\H r=some (.tup (lB hs d)):=λi v ev=>by rw[c6]at ev;obtain⟨j,e1,rfl⟩:=fL.mp ev;obtain⟨ar,e⟩:=eG.mp e1;rw[jG]at ar;rw[xC]at e;subst e;have gb:rs[i]?=some rs[i]:=dn (by omega);obtain⟨d,dS,_,hd⟩:=CA.get gb;exact⟨_,d,rfl,gb,dS,hd⟩
  refine Wn (J:=nO 0 (aH rs).length) (H1:=H) (xs:=(d_ (aH rs).length).map λi:Nat=>V.int ((0:Int)+(i:Int))) (rest:=[some (.str (S u)),some (.ref cF)]) (λR h=>⟨_,rfl,cF,_,rfl,.inl (aG.of hd),_,rfl,(by show -(2 ^ 62)<=((aH rs).length:Int);omega),(by show((aH rs).length:Int)<2 ^ 62;omega),h⟩) rfl (Ik 0 _) (eM (by rw[bp,jG];omega))
   (λv=>match v with|.int k=>decide (V.str (S (hs.getD (ds.getD k.toNat fA).a []))=V.str (S u))|_=>false) (λv=>v) (λi v ah R ev aF jz=>?_) (λi v ah R ev _ aF jz=>⟨_,rfl,jz ah (aN.refl _)⟩) (λyP uq pv qh y_=>?_)
  .obtain⟨cD,d,rfl,M3,dS,mE⟩:=item i v ev;have cT:ds.getD ((0:Int)+(i:Int)).toNat fA=d:=by rw[show((0:Int)+(i:Int)).toNat=i by omega];exact vJ dS
   have Cz:∀bx,aN ah bx->R (decide (V.str (S (hs.getD (ds.getD ((0:Int)+(i:Int)).toNat fA).a []))=V.str (S u))) bx:=jz;rw[cT]at Cz;exact⟨_,rfl,_,rfl,cF,_,_,_,rfl,rfl,aG.of (aF _ _ hd),VT M3,cD,_,_,_,rfl,rfl,cH.of (aF _ _ mE),rfl,_,rfl,rfl,_,rfl,Cz ah (aN.refl _)⟩
  have amX:uq yP=some (.lst ((iA hs ds (·.a) (S u)).map V.int)):=by rw[qh];congr 2;have:=Ġ (aH rs).length λi=>decide (V.str (S (hs.getD (ds.getD i fA).a []))=V.str (S u));rw[rl]at this⊢;exact this
  have aq6:=ň hs ds (·.a) (S u);have ĕ:∀k∈iA hs ds (·.a) (S u),∃n:Nat,k=(n:Int)/\n<ds.length/\pK hs ds n=S u:=λk aX=>by unfold iA zf at aX;obtain⟨n,aS,rfl⟩:=cn.mp aX;obtain⟨af,ai⟩:=hC.mp aS;exact⟨n,rfl,lK.mp af,V.str.inj (jk ai)⟩
  have Do:=D.same y_;have y3:∀{bx:ae}{c:Addr},aN H bx->bx c=none->aN H (upd bx c (.tup [.str (S u),.str (S v)])):=λs5 g6=>s5.trans (bU g6);have fin:∀{bx H':ae}{c l:Addr}{d:sb}{o:ed},aN H bx->bx c=none->ho (A.bO x) (A.bO x) (upd bx c (.tup [.str (S u),.str (S v)])) H'->ef ay C aV az a9 H' x A hs ds (d.act s)->H' l=none->zh hs ds d->(upd H' l o c=some (.tup [.str (S u),.str (S v)])->vZ (upd H' l o) l d)->Q (.ref l) (upd H' l o):=λ{bx H' c l d o}s5 g6 vM cA nl ok k=>by
   have fR:=y3 s5 g6;have lm:=cA.live nl;have Û:=vM.new lm nl;have ax:H' c=some (.tup [.str (S u),.str (S v)]):=vM.keep c _ (λz=>(D.same s5).live g6 z) aQ;have yI:H l=none:=by
    cases e:H l with
    |none=>rfl
    |some o=>rw[fR _ _ e]at Û;cases Û
   exact q d _ l ok ((ho.refl fR).trans (vM.trans (ho.refl (bU nl)))) (cA.same (bU nl)) yI lm (k (by rw[aA (bW ax nl)];exact ax))
  have drop:∀(bx:ae)(c:Addr),aN H bx->bx c=none->∀uG:a',(∀H',(∀l,H' l=none->Q (.ref l) (upd H' l (.lst [.str "way",.ref c,.bl,.bl])))->uG .bl H')->Xl ay C aV az cN [.ref x,.str (S u),.str (S v)] (upd bx c (.tup [.str (S u),.str (S v)])) uG ra:=λbx c s5 g6 uG k=>
   ⟨a9,x,A,hs,ds,s,S u,S v,rfl,D.same (y3 s5 g6),G,λ_=>kk G bO,λ_=>kk G fv,λ_ H' vM cA=>k H' λl nl=>fin (d:=.drop (S u) (S v)) s5 g6 vM cA nl (.drop bO fv ne) λax=>.drop aQ ax,λno=>bE (un.symm.trans no) (by decide)⟩
  refine⟨_,rfl,rfl,_,rfl,?_⟩;refine nC (λ_=>?_) (λ_=>?_)
  .refine⟨_,rfl,_,rfl,(by show 2<=sizeLine;decide),λc g6=>?_⟩;exact⟨_,rfl,x,A.ag,_,rfl,(D.same (y3 y_ g6)).ins,rfl,_,rfl,_,rfl,drop uq c y_ g6 _ λH' k=>⟨by show 4<=sizeLine;decide,k⟩⟩
  refine⟨_,rfl,e4 _,λl nl=>?_⟩;have lD:=bU (o:=.lst []) nl;have kI:=lD _ _ amX;have du:=y_.trans lD;refine⟨ti (iA hs ds (·.a) (S u)),.list [],VU (aG.of kI),.lst (aG.of aQ) .nil,vy (n:=1) (Wz _) (UQ _) (by decide),rfl,_,rfl,?_⟩;generalize upd uq l (.lst [])=Fm at kI du⊢;generalize sX:iA hs ds (·.a) (S u)=L at kI ĕ aq6⊢;have sY:g_ (ti L) (.list [])=L.isEmpty:=by cases L<;>rfl
  by_cases iq:L=[]
  .refine fu (by rw[sY,iq];rfl) ?_;refine⟨_,rfl,_,rfl,(by show 2<=sizeLine;decide),λc g6=>?_⟩;exact⟨_,rfl,x,A.ag,_,rfl,(D.same (y3 du g6)).ins,rfl,_,rfl,_,rfl,drop Fm c du g6 _ λH' k=>⟨by show 4<=sizeLine;decide,k⟩⟩
  refine ek (by rw[sY];cases L with|nil=>exact bE rfl iq|cons x r=>rfl) ?_;have am6:0<L.length:=AH.mpr iq;have atq:(L.map V.int).length=L.length:=bp _;obtain⟨bT,Mx,en⟩:=rM V.int (L:=L) am6 (n/4096);have G5:=eK en;obtain⟨tx,rfl,CM,NI⟩:=ĕ _ G5;have apZ:(0:Int)<((L.map V.int).length:Int):=by omega
  refine⟨_,rfl,_,rfl,_,_,rfl,rfl,⟨by decide,by decide⟩,_,rfl,yP,_,rfl,.inl (aG.of kI),_,_,rfl,rfl,apZ,yP,_,_,_,rfl,rfl,aG.of kI,Mx,?_⟩;refine⟨_,rfl,_,rfl,(by show 2<=sizeLine;decide),λc g6=>?_⟩;exact⟨_,rfl,_,rfl,x,A.ag,_,rfl,(D.same (y3 du g6)).ins,rfl,_,rfl,_,rfl,_,rfl,a9,x,A,hs,ds,s,S u,S v,(tx:Int),rfl,D.same (y3 du g6),G,eE,λ_=>kk G bO,λ_=>kk G fv,eM (by omega),λ_ _ H' vM cA=>⟨by show 4<=sizeLine;decide,λl nl=>fin (d:=.set (S u) (S v) tx) du g6 vM cA nl (.set bO fv ne CM NI) λax=>.set aQ ax⟩,λno=>bE (un.symm.trans no) (by decide),λ_ no=>bE (by rw[sX];exact G5) no⟩
unseal fM bh fN fV
noncomputable def XX(kvs:eV):sb->eV
 |.drop h g=>ui kvs (f3 h g)
 |.set h g r=>eo kvs (f3 h g) (.int (r:Int))
 |_=>kvs
noncomputable def aiI(l:dH):sb->List Nat
 |.qS r=>z0 l r
 |.qN r=>l.filter λk=>decide (k≠r)
 |_=>l
noncomputable abbrev Ek:Stmt:=top 51
noncomputable abbrev yW:List Str:=["_law_deed","_law_told","_law_closed"]
theorem ajk:dw yW yW (c3 Ek):=⟨rfl,rfl,rfl,by decide+kernel,rfl,by decide+kernel,by decide+kernel⟩
inductive aiJ(vs:aY)(H:ae)(Q:a')(E:b2):Prop where
 |mk (l bY cl:Addr) (d:sb) (kvs:eV) (fS:dH) (bV:vs=[.ref l,.ref bY,.ref cl]) (bD:vZ H l d) (b_:H bY=some (.c4 kvs)) (c_:H cl=some (.bX (ix fS))) (d1:kvs.length<=900) (fw:fS.length<=900)
   (iE:∀H',(∀b o,b≠bY->b≠cl->H b=some o->H' b=some o)->H' bY=some (.c4 (XX kvs d))->H' cl=some (.bX (ix (aiI fS d)))->Q (.aM true) H')
noncomputable def Lc:cG:=λvs H Q E=>aiJ vs H Q E
seal fM bh fN fV
theorem aiK{f:Addr}{fd:cz}(F:bw K "_law_made" "_law_made" Ek f fd)(B:gg mg):aL P w K mg base a5 1 f fd yW Lc:=by
 refine F.ok ajk (λvs H Q E h=>?_) (λcdv A outer s H vs Q E aq h=>?_)
 .obtain⟨l,bY,cl,d,kvs,fS,rfl,_⟩:=h;rfl
 .obtain⟨l,bY,cl,d,kvs,fS,rfl,aj,df,ax,atI,jl,q⟩:=h;refine⟨_,(bc (eO (eu TS (cp fk (U 0) (bH rN (dB gH (by rfl) B.len gA (ak (U 0) aD)) aW) (λ_ _=>rfl)) kG (dr _)) (bo (c7 hL)) fi)
   (bc (eO (eu i2 (cp fk (U 0) aW (λ_ _=>rfl)) jO (dr _)) (bo (yT (iM aq) (U 2) (cp fk (U 0) aW (λ_ _=>rfl)) hL rfl)) (bo (eO (eu i2 (cp fk (U 0) aW (λ_ _=>rfl)) jO (dr _)) (bo (gI (UL (U 2) (cp fk (U 0) aW (λ_ _=>rfl)) kG ⟨rfl,rfl,rfl,rfl⟩))) (bo (eO (eu Wk (cp fk (U 0) aW (λ_ _=>rfl)) kG (dr _)) (bo (gI (U5 (iM aq) (U 1) (cp fk (U 0) aW (λ_ _=>rfl)) kG ⟨rfl,rfl,rfl,rfl⟩))) (bo (yT (iM aq) (U 1) (cp fk (U 0) aW (λ_ _=>rfl)) (cp fk (U 0) aW (λ_ _=>rfl)) rfl)))))))
   (bo (c7 hL)))),?_⟩
  have H3:bY≠cl:=λz=>by rw[z,ax]at df;cases df
  have bj:(ix fS).length<sizeLine:=eM (by unfold ix;rw[bp];omega);cases aj with
  |@qS r aj=>
   refine⟨_,rfl,_,rfl,l,_,rfl,.inl (aG.of aj),_,_,rfl,rfl,l,_,_,_,rfl,rfl,aG.of aj,rfl,rfl,_,rfl,ek rfl ?_⟩;refine⟨_,rfl,l,_,_,_,rfl,rfl,aG.of aj,rfl,rfl,_,rfl,fu (cq rfl) ?_⟩;refine⟨_,rfl,_,rfl,l,_,_,_,rfl,rfl,aG.of aj,rfl,cl,_,rfl,oI.k (k:=eX (r:Int)) ax bj,?_⟩;rw[U7];exact q _ (λb o _ n e=>by rw[aA n];exact e) (by rw[aA H3];exact df) aQ
  |@qN r aj=>
   refine⟨_,rfl,_,rfl,l,_,rfl,.inl (aG.of aj),_,_,rfl,rfl,l,_,_,_,rfl,rfl,aG.of aj,rfl,rfl,_,rfl,ek rfl ?_⟩;refine⟨_,rfl,l,_,_,_,rfl,rfl,aG.of aj,rfl,rfl,_,rfl,ek (dF (λz=>by cases z)) ?_⟩;refine⟨_,rfl,l,_,_,_,rfl,rfl,aG.of aj,rfl,rfl,_,rfl,fu (cq rfl) ?_⟩;refine⟨_,rfl,cl,rfl,.inl ⟨_,.inl ax⟩,_,rfl,l,_,_,_,rfl,rfl,aG.of aj,rfl,_,eX (r:Int),ax,rfl,λv ev=>?_,λev=>?_⟩
   .rw[ŝ];exact q _ (λb o _ n e=>by rw[aA n];exact e) (by rw[aA H3];exact df) aQ
   .exact q H (λb o _ _ e=>e) df (by show _=some (ed.bX (ix (fS.filter λk=>decide (k≠r))));rw[Ş _ _ ev];exact ax)
  |@drop h g c aj vl=>
   refine⟨_,rfl,_,rfl,l,_,rfl,.inl (aG.of aj),_,_,rfl,rfl,l,_,_,_,rfl,rfl,aG.of aj,rfl,rfl,_,rfl,ek rfl ?_⟩;refine⟨_,rfl,l,_,_,_,rfl,rfl,aG.of aj,rfl,rfl,_,rfl,ek (dF (λz=>by cases z)) ?_⟩;refine⟨_,rfl,l,_,_,_,rfl,rfl,aG.of aj,rfl,rfl,_,rfl,ek (dF (λz=>by cases z)) ?_⟩;refine⟨_,rfl,l,_,_,_,rfl,rfl,aG.of aj,rfl,rfl,_,rfl,fu (cq rfl) ?_⟩;refine⟨_,rfl,bY,rfl,.inr ⟨_,.inl df⟩,_,rfl,l,_,_,_,rfl,rfl,aG.of aj,rfl,kvs,f3 h g,c,rfl,df,vl,?_⟩;exact q _ (λb o n _ e=>by rw[aA n];exact e) aQ (by rw[aA (cL H3)];exact ax)
  |@set h g r c aj vl=>
   refine⟨_,rfl,_,rfl,l,_,rfl,.inl (aG.of aj),_,_,rfl,rfl,l,_,_,_,rfl,rfl,aG.of aj,rfl,rfl,_,rfl,ek rfl ?_⟩;refine⟨_,rfl,l,_,_,_,rfl,rfl,aG.of aj,rfl,rfl,_,rfl,ek (dF (λz=>by cases z)) ?_⟩;refine⟨_,rfl,l,_,_,_,rfl,rfl,aG.of aj,rfl,rfl,_,rfl,ek (dF (λz=>by cases z)) ?_⟩;refine⟨_,rfl,l,_,_,_,rfl,rfl,aG.of aj,rfl,rfl,_,rfl,ek (dF (λz=>by cases z)) ?_⟩;refine⟨_,rfl,l,_,_,_,rfl,rfl,aG.of aj,rfl,_,rfl,_,rfl,l,_,_,_,rfl,rfl,aG.of aj,rfl,bY,_,rfl,oI.t (k:=f3 h g) df vl (eM (by omega)),?_⟩;exact q _ (λb o n _ e=>by rw[aA n];exact e) aQ (by rw[aA (cL H3)];exact ax)
unseal fM bh fN fV
noncomputable def T6(hs:br)(ds:bZ)(kvs:eV):Prop:=∀h g k,jW kvs h g=some k->pK hs ds k=h
noncomputable def oh(hs:br)(ds:bZ)(kvs:eV)(b6:cf)(aI:fa)(T:Int)(r n:Nat):Bool:=decide ((fZ aI n).fc=pK hs ds r)&&(decide ((fZ aI n).fc≠jP b6 n)&&(decide ((fZ aI n).due<=T)&&decide (jW kvs (fZ aI n).fc (jP b6 n)=some r)))
noncomputable def tv(hs:br)(ds:bZ)(kvs:eV)(b6:cf)(aI:fa)(T:Int)(r m:Nat):List (Int×Nat):=((d_ m).filter (oh hs ds kvs b6 aI T r)).map λn=>(iP aI n,n)
end
theorem XN{hs:br}{ds:bZ}{s:cX}(E5:T6 hs ds s.kvs)(r:Nat):tv hs ds s.kvs (dW s.ba) s.aI s.pr r s.ba.length=eS (iP s.aI) (iw s.kvs (dW s.ba) s.aI) s.pr ((hr s).filter (ir s)) r:=by
 unfold tv eS hr;rw[WH,WH];congr 1;refine WG λn _=>?_;unfold oh ir iw iP;cases w:jW s.kvs (fZ s.aI n).fc (jP (dW s.ba) n)with
 |none=>simp
 |some k=>
  have b:=E5 _ _ _ w;by_cases e:k=r
  .subst e;rw[b];simp;cases decide ((fZ s.aI n).due<=s.pr)<;>simp
  .simp[e]
theorem Xg(hs:br)(ds:bZ)(kvs:eV)(b6:cf)(aI:fa)(T:Int)(r m:Nat):(tv hs ds kvs b6 aI T r m).length<=m:=by unfold tv;rw[bp];exact e3 (ky _ _) (by rw[jG];exact cj _)
theorem afy(hs:br)(ds:bZ)(kvs:eV)(b6:cf)(aI:fa)(T:Int)(r m:Nat):tv hs ds kvs b6 aI T r (m+1)=tv hs ds kvs b6 aI T r m++(if oh hs ds kvs b6 aI T r m=true then[(iP aI m,m)]else[]):=by
 unfold tv;rw[sx,mZ,eW];congr 1;by_cases h:oh hs ds kvs b6 aI T r m=true
 .rw[bL h];simp[h]
 .rw[bF h];simp[h]
noncomputable def qA(ds:bZ)(s:cX)(m:Nat):List (k7×List Nat):=((d_ m).filter λr=>!(hK ds (iP s.aI) (iw s.kvs (dW s.ba) s.aI) s.pr ((hr s).filter (ir s)) r).2.isEmpty&&decide (r∉s.fS)).map (hK ds (iP s.aI) (iw s.kvs (dW s.ba) s.aI) s.pr ((hr s).filter (ir s)))
theorem afz(ds:bZ)(s:cX)(m:Nat):qA ds s (m+1)=qA ds s m++(if(!(hK ds (iP s.aI) (iw s.kvs (dW s.ba) s.aI) s.pr ((hr s).filter (ir s)) m).2.isEmpty&&decide (m∉s.fS))=true then[hK ds (iP s.aI) (iw s.kvs (dW s.ba) s.aI) s.pr ((hr s).filter (ir s)) m]else[]):=by
 unfold qA;rw[sx,mZ,eW];congr 1;split
 .rename_i h;simp only[lJ,h,ux];rfl
 .rename_i h;simp only[lJ,h,ux];rfl
theorem agT{hs:br}{ds:bZ}{s:cX}(R:∀d∈ds,d.Ok hs.length):qA ds s ds.length=gK ds s:=by
 unfold qA gK oj ni;rw[AB,WH];congr 1;refine WG λr aq=>?_;have aq:=lK.mp aq;rw[Bool.and_comm];show(decide (r∉s.fS)&&_)=(decide (r∉s.fS)&&_);congr 1;have jA:1<=iv ds r:=by unfold iv;rw[show ds.getD r qM=ds[r] by rw[eJ,dn aq];rfl];exact(R _ (so aq)).m.1
 cases e:eS (iP s.aI) (iw s.kvs (dW s.ba) s.aI) s.pr ((hr s).filter (ir s)) r with
 |nil=>
  unfold hK;rw[e];show(!(q3 (iv ds r) []).isEmpty)=(!([]:List (Int×Nat)).isEmpty);have:q3 (iv ds r) []=[]:=by
   have:(q3 (iv ds r) []).length=0:=by unfold q3;rw[(vx _).length_eq,bp,ml,(vg _).length_eq];simp
   exact xD.mp this
  rw[this];rfl
 |cons a l=>
  have h:=ahj (ds:=ds) (due:=iP s.aI) (rd:=iw s.kvs (dW s.ba) s.aI) (T:=s.pr) (go:=(hr s).filter (ir s)) (r:=r) jA (by rw[e];simp);cases aB:(hK ds (iP s.aI) (iw s.kvs (dW s.ba) s.aI) s.pr ((hr s).filter (ir s)) r).2 with
  |nil=>exact bE aB h
  |cons _ _=>rfl
noncomputable def D'(H:ae)(du:Addr)(aI:fa):Prop:=∃nD:List Addr,H du=some (.lst (aH nD))/\bk (λa ss=>H a=some (.tup [.str (rU ss).fc,.int (rU ss).due])) nD aI
theorem U8{α β:Type}{F:α->β->Prop}{a:α}{b:β}(q:F a b):∀{xs:List α}{ys:List β}(n:Nat),bk F xs ys->bk F (xs.set n a) (ys.set n b)
 |_,_,_,.nil=>.nil
 |_,_,0,.cons _ r=>.cons q r
 |_,_,n+1,.cons h r=>.cons h (U8 q n r)
theorem aoy{L:aY}{i:Nat}(h:i<L.length):ao.qu L.length (i:Int)=some i:=by unfold ao.qu;rw[bL (by omega),bL (by omega),nN]
theorem afA{hs:br}{ds:bZ}{s:cX}{b:k7×List Nat}(h:b∈gK ds s):b.1.1=s.pr/\b.1.2<ds.length/\b.2.Nodup/\∀n∈b.2,n<s.ba.length:=by unfold gK oj ni at h;obtain⟨af,_⟩:=hC.mp h;obtain⟨r,aq,rfl⟩:=cn.mp af;refine⟨rfl,lK.mp (hC.mp aq).1,Xi ((FC.filter _).filter _) r,λn aS=>?_⟩;have:=(I1 aS).1;exact(T2.mp (hC.mp this).1).1
section
variable{P:bJ}{w:bq}{K:aU}{mg:cB}{base:Heap}
noncomputable abbrev Ef:Stmt:=top 49
noncomputable abbrev aoZ:List Str:=["_law_letters","_law_stood","_law_told","_law_closed","_law_lines","_law_now","_law_bags_here","_law_road_here","_law_line","_law_some","_law_n","_law_letter_here","_law_house","_law_since","_law_chosen","_law_turn","_law_numbers"]
noncomputable abbrev DN:List Str:=["_law_letters","_law_stood","_law_told","_law_closed","_law_lines","_law_now"]
theorem mR:dw aoZ DN (c3 Ef):=⟨rfl,rfl,rfl,by decide+kernel,rfl,by decide+kernel,by decide+kernel⟩
inductive aiL(vs:aY)(H:ae)(Q:a')(E:b2):Prop where
 |mk (dQ du bY cl cF:Addr) (hR rs:bS) (hs:br) (ds:bZ) (s:cX) (kvs:eV) (bV:vs=[.ref dQ,.ref du,.ref bY,.ref cl,.ref cF,.int s.pr]) (bD:H dQ=some (.lst (aH hR))) (b_:d7 H hR (s.ba.map mK)) (c_:D' H du s.aI) (d1:H bY=some (.c4 kvs)) (fw:Bb kvs ds.length) (iE:∀h g,jW kvs h g=jW s.kvs h g) (k4:H cl=some (.bX (ix s.fS))) (mV:H cF=some (.lst (aH rs))) (q6:iJ H hs rs ds) (wK:s.aI.length=s.ba.length) (zE:s.ba.length<=40) (Š:T6 hs ds s.kvs) (ar4:rs.length<=40) (aus:cF≠du/\dQ≠du)
   (aut:∀aM H' as,H aM=none->(∀b o,b≠du->H b=some o->H' b=some o)->H' aM=some (.lst (aH as))->bk (hq H') as (gK ds s)->D' H' du (zZ hs ds s).aI->Q (.ref aM) H')
noncomputable def Ld:cG:=λvs H Q E=>aiL vs H Q E
inductive aiV(dQ du bY cl cF aM:Addr)(ds:bZ)(s:cX)(H:ae)(i:Nat)(σ:ao.St)(b3:ae):Prop where
 |mk (as:bS) (v1 v2 gS v4 iB v6 j6 iC:lO) (bV:σ=[some (.ref dQ),some (.ref du),some (.ref bY),some (.ref cl),some (.ref cF),some (.int s.pr),some (.ref aM),v1,v2,gS,v4,iB,v6,j6,iC,none,none]) (bD:aN H b3) (b_:b3 aM=some (.lst (aH as))) (c_:bk (hq b3) as (qA ds s i))
inductive YB(dQ du bY cl cF aM aF:Addr)(PT:ao.V)(r:Nat)(hs:br)(ds:bZ)(s:cX)(fh:ae)(i:Nat)(σ:ao.St)(j8:ae):Prop where
 |mk (ts:bS) (v4 iB v6 j6 iC:lO) (bV:σ=[some (.ref dQ),some (.ref du),some (.ref bY),some (.ref cl),some (.ref cF),some (.int s.pr),some (.ref aM),some (.int (r:Int)),some PT,some (.ref aF),v4,iB,v6,j6,iC,none,none]) (bD:aN fh j8) (b_:j8 aF=some (.lst (aH ts))) (c_:d7 j8 ts ((tv hs ds s.kvs (dW s.ba) s.aI s.pr r i).map i8))
inductive aiW(dQ du bY cl cF aM:Addr)(hs:br)(ds:bZ)(s:cX)(Bs:mu)(b3:ae)(j:Nat)(σ:ao.St)(fh:ae):Prop where
 |mk (v1 v2 gS v4 iB v6 j6 iC zl v10:lO) (bV:σ=[some (.ref dQ),some (.ref du),some (.ref bY),some (.ref cl),some (.ref cF),some (.int s.pr),some (.ref aM),v1,v2,gS,v4,iB,v6,j6,iC,zl,v10]) (bD:∀b o,b≠du->b3 b=some o->fh b=some o) (b_:D' fh du (od hs ds (Bs.take j) s.aI))
inductive aiX(dQ du bY cl cF aM:Addr)(r:Nat)(v2 gS iB v6 j6 iC zl v10:lO)(s:cX)(st:Step)(ns:dH)(cur:fa)(b3:ae)(m:Nat)(σ:ao.St)(fh:ae):Prop where
 |mk (v4:lO) (bV:σ=[some (.ref dQ),some (.ref du),some (.ref bY),some (.ref cl),some (.ref cF),some (.int s.pr),some (.ref aM),some (.int (r:Int)),v2,gS,v4,iB,v6,j6,iC,zl,v10]) (bD:∀b o,b≠du->b3 b=some o->fh b=some o) (b_:D' fh du (l1 st (ns.take m) cur))
seal fM bh fN fV
theorem aiM{f:Addr}{fd:cz}(F:bw K "_law_bags" "_law_bags" Ef f fd)(B:gg mg):aL P w K mg base a5 1 f fd DN Ld:=by
 refine F.ok mR (λvs H Q E h=>?_) (λcdv A outer s0 H vs Q E aq h=>?_)
 .obtain⟨dQ,du,bY,cl,cF,hR,rs,hs,ds,s,kvs,rfl,_⟩:=h;rfl
 .obtain⟨dQ,du,bY,cl,cF,hR,rs,hs,ds,s,kvs,rfl,tg,ę,⟨nD,vv,Q7⟩,Θ,uK,ĸ,vm,qi,R,ln,vE,E5,Rm,⟨qD,tH⟩,q⟩:=h;refine⟨_,(bc (c8 (i:=6) mR.aJ rfl (b5 rfl) (gJ aD))
   (bc (kd kz rfl (I9 rfl B.enumerate (ak (U 4) aD)) (vU rfl (h3 (ei (i:=7) mR.aJ rfl (b5 rfl)) (h3 (ei (i:=8) mR.aJ rfl (b5 rfl)) pj)))
    (bc (c8 (i:=9) mR.aJ rfl (b5 rfl) (gJ aD))
   (bc (kd kz rfl (I9 rfl B.enumerate (ak (U 0) aD)) (vU rfl (h3 (ei (i:=10) mR.aJ rfl (b5 rfl)) (h3 (ei (i:=11) mR.aJ rfl (b5 rfl)) pj)))
    (bc (JM (cp fk (U 1) (U 10) (λ_ _=>rfl)) (vU rfl (h3 (ei (i:=12) mR.aJ rfl (b5 rfl)) (h3 (ei (i:=13) mR.aJ rfl (b5 rfl)) pj))))
   (bo (eO (ih.pt (tA (eu i2 (U 12) (cp e5 (U 8) aW (λ_ _=>rfl)) (dr _)) (tA (eu wt (U 12) (cp e5 (U 11) aW (λ_ _=>rfl)) (dr _)) (tA (eu px (U 13) (U 5) (dr _)) (DW (eu i2 (Ta (iM aq) (U 2) (i1 (ak (U 12) (ak (cp e5 (U 11) aW (λ_ _=>rfl)) aD))) ⟨rfl,rfl,rfl,rfl⟩) (U 7) (dr _))))))) (bo (gI (nr nV o1 o2 m' (U 9) (ak (i1 (ak (U 13) (ak (U 10) aD))) aD)))) fi))))
   (bc (c8 (i:=14) mR.aJ rfl (b5 rfl) (dB ì (by rfl) B.sorted yu (ak (tW (N':=["_law_since","_law_n"]) (cs:=[none,none]) rfl (jL (SH TK (dB PY (by rfl) B.sorted yu (ak (U 9) aD)) VL (I8 (cp e5 (U 8) aW (λ_ _=>rfl))))) rfl (by decide+kernel) rfl (by decide+kernel) (lq (λp aR=>bE aR (eA))) rfl
    (.own (.own .nil))
    (λC s3 bg cb e9=>⟨(D2 (K:=K) (n:=2) rfl rfl (h3 (ei (i:=0) (by show(["_law_since","_law_n"]:cf).Nodup;decide+kernel) rfl (.inl rfl)) (h3 (ei (i:=1) (by show(["_law_since","_law_n"]:cf).Nodup;decide+kernel) rfl (.inl rfl)) pj))),qv,(U 1)⟩)) aD)))
   (bo (eO (ih.pt (tA (eu (y1 aq.units) (U 14) (gJ aD) (dr _)) (DW (JL (H_ (iM aq) (U 7) (U 3)))))) (bo (gI (nr nV o1 o2 m' (U 6) (ak (i1 (ak (U 5) (ak (U 7) (ak (m9 ê (by rfl) B.tuple yC (ak (U 14) aD)) aD)))) aD)))) fi))))))
   (bc (kd kz rfl (jL (U 6)) (vU rfl (h3 (ei (i:=15) mR.aJ rfl (b5 rfl)) (h3 (ei (i:=7) mR.aJ rfl (b5 rfl)) (h3 (ei (i:=16) mR.aJ rfl (b5 rfl)) pj))))
    (bo (kd kz rfl (Wi (U 16)) (ei (i:=10) mR.aJ rfl (b5 rfl))
    (bo (JM (i1 (ak (cp e5 (cp fk (U 4) (U 7) (λ_ _=>rfl)) aW (λ_ _=>rfl)) (ak (bH h4 (U 5) (cp e5 (cp fk (U 4) (U 7) (λ_ _=>rfl)) aW (λ_ _=>rfl))) aD))) (agh (U 1) (U 10) set_list))))))
   (bo (c7 (U 6)))))),?_⟩
  have gl:(dW s.ba).length=s.ba.length:=by unfold dW;rw[bp]
  have aoP:hR.length=s.ba.length:=by have:=ę.len;rwa [bp]at this
  refine⟨e4 _,λaM j0=>?_⟩;have Rv:=bU (o:=.lst []) j0;have ZV:upd H aM (.lst []) aM=some (.lst []):=aQ;generalize upd H aM (.lst [])=k6 at Rv ZV⊢;refine⟨_,rfl,cF,rfl,⟨_,aG.of (Rv _ _ qi)⟩,?_⟩;refine SX (K:=K) (a:=cF) (xs:=aH rs) (aiV dQ du bY cl cF aM ds s H) ⟨[],none,none,none,none,none,none,none,none,rfl,Rv,ZV,.nil⟩ (λi σ b3 h=>by obtain⟨as,v1,v2,gS,v4,iB,v6,j6,iC,rfl,aF,_⟩:=h;exact aG.of (aF _ _ qi)) ?_ ?_
  .rintro r z σ b3 p dx ⟨as,v1,v2,gS,v4,iB,v6,j6,iC,rfl,aF,h7,g0⟩ np;unfold aH at dx;rw[c6]at dx;obtain⟨gB,era,rfl⟩:=fL.mp dx;obtain⟨d,dS,rP,hd⟩:=R.get era;have cT:ds.getD r qM=d:=tZ dS;have Bx:lB hs d=[.str (pK hs ds r),.str (q2 hs ds r),.int (qL ds r),.int (iv ds r)]:=by unfold lB pK q2 qL iv;rw[cT]
   rw[Bx]at hd;refine⟨p,_,rfl,cH.of aQ,rfl,_,_,rfl,_,_,rfl,rfl,?_⟩;have sp:=bU (o:=.tup [V.int (r:Int),V.ref gB]) np;have zc:=aF.trans sp;have ZW:=sp _ _ h7;have YH:bk (hq _) as (qA ds s r):=bk.e2 g0 λ_ _ e=>e.same sp;generalize upd b3 p (.tup [V.int (r:Int),V.ref gB])=fh at zc ZW YH⊢;refine⟨e4 _,λtU á=>?_⟩;have s2:=bU (o:=.lst []) á;have ZC:upd fh tU (.lst []) tU=some (.lst []):=aQ;have kq:=zc.trans s2;generalize upd fh tU (.lst [])=j8 at s2 ZC kq⊢;refine⟨_,rfl,dQ,rfl,⟨_,aG.of (kq _ _ tg)⟩,?_⟩;refine SX (K:=K) (a:=dQ) (xs:=aH hR) (YB dQ du bY cl cF aM tU (.ref gB) r hs ds s fh) ⟨[],v4,iB,v6,j6,iC,rfl,s2,ZC,.nil⟩ (λi σ rb h=>by obtain⟨ts,v4,iB,v6,j6,iC,rfl,aF,_⟩:=h;exact aG.of (aF _ _ (zc _ _ tg))) ?_ ?_
   .rintro n z σ rb pt dx ⟨ts,v4,iB,v6,j6,iC,rfl,IC,yp,mT⟩ QD;unfold aH at dx;rw[c6]at dx;obtain⟨lr,amx,rfl⟩:=fL.mp dx;obtain⟨sV,BA,N9⟩:=bk.get ę amx;rw[c6]at BA;obtain⟨lt,elt,rfl⟩:=fL.mp BA;have nl:=(eG.mp elt).1;have aum:=gE Q7;obtain⟨iT,Y7⟩:∃iT,nD[n]?=some iT:=⟨_,dn (by omega)⟩
    obtain⟨ss,amD,Ε⟩:=bk.get Q7 Y7;have gO:fZ s.aI n=rU ss:=by unfold fZ;rw[tZ amD]
    rw[<-gO]at Ε;have pf:jP (dW s.ba) n=lt.2.2:=by unfold jP dW;rw[eJ,c6,elt];rfl
    refine⟨pt,_,rfl,cH.of aQ,rfl,_,_,rfl,_,_,rfl,rfl,?_⟩;have R1:=bU (o:=.tup [V.int (n:Int),V.ref lr]) QD;have ID:=IC.trans R1;have wb:=zc.trans ID;have OC:=R1 _ _ yp;have Sp:=mT.same R1;generalize upd rb pt (.tup [V.int (n:Int),V.ref lr])=Fm at ID wb OC Sp⊢;have ajZ:ao.hb (aH nD) (n:Int)=some (.ref iT):=iI (by unfold aH;rw[c6,Y7];rfl);refine⟨_,rfl,_,rfl,du,_,_,_,rfl,rfl,aG.of (wb _ _ vv),ajZ,iT,_,rfl,cH.of (wb _ _ Ε),rfl,_,_,rfl,_,_,rfl,rfl,?_⟩;have Ã:=afy hs ds s.kvs (dW s.ba) s.aI s.pr r n;have no:∀{xk:ae},oh hs ds s.kvs (dW s.ba) s.aI s.pr r n=false->aN Fm xk->YB dQ du bY cl cF aM tU (.ref gB) r hs ds s fh (n+1) [some (.ref dQ),some (.ref du),some (.ref bY),some (.ref cl),some (.ref cF),some (.int s.pr),some (.ref aM),some (.int (r:Int)),some (.ref gB),some (.ref tU),some (.int (n:Int)),some (.ref lr),some (.str (fZ s.aI n).fc),some (.int (fZ s.aI n).due),iC,none,none] xk:=λ{xk}e cV=>by refine⟨ts,_,_,_,_,_,rfl,ID.trans cV,cV _ _ OC,?_⟩;rw[Ã,e];show d7 xk ts ((_++[]).map i8);rw[mh];exact Sp.same cV
    have anr:=wb _ _ hd;have ξ:=wb _ _ N9;refine⟨_,rfl,_,rfl,gB,_,_,_,rfl,rfl,cH.of anr,rfl,rfl,_,rfl,?_⟩;by_cases c1:(fZ s.aI n).fc=pK hs ds r
    rotate_left
    .exact ek (dF λz=>c1 (V.str.inj z)) (no (by unfold oh;rw[dF c1];rfl) (aN.refl _))
    refine fu (cq (hh V.str c1)) ?_;refine⟨_,rfl,_,rfl,lr,_,_,_,rfl,rfl,cH.of ξ,rfl,rfl,_,rfl,?_⟩;by_cases c2:(fZ s.aI n).fc=jP (dW s.ba) n
    .exact ek (by rw[cq (show V.str (fZ s.aI n).fc=V.str lt.2.2 from by rw[c2,pf])];rfl) (no (by unfold oh;rw[dF (show¬(fZ s.aI n).fc≠jP (dW s.ba) n fromλz=>z c2),cq c1];rfl) (aN.refl _))
    refine fu (by rw[dF (show¬V.str (fZ s.aI n).fc=V.str lt.2.2 fromλz=>c2 (by rw[pf];exact V.str.inj z))];rfl) ?_;refine⟨_,rfl,_,rfl,_,_,rfl,rfl,_,rfl,?_⟩;by_cases m7:(fZ s.aI n).due<=s.pr
    rotate_left
    .exact ek (dF m7) (no (by unfold oh;rw[dF m7,cq c1,cq c2];rfl) (aN.refl _))
    refine fu (cq m7) ?_;refine⟨_,rfl,bY,rfl,.inr ⟨kvs,.inl (wb _ _ Θ)⟩,_,rfl,_,rfl,lr,_,_,_,rfl,rfl,cH.of ξ,rfl,(by show 2<=sizeLine;decide),λb nb=>?_⟩;have b':=bU (o:=.tup [V.str (fZ s.aI n).fc,V.str lt.2.2]) nb;have MO:=iR.t (k:=f3 (fZ s.aI n).fc lt.2.2) (b' _ _ (wb _ _ Θ)) aQ;have He:=b' _ _ OC;have Sq:=Sp.same b';have Ą:=ID.trans b';generalize upd Fm b (.tup [V.str (fZ s.aI n).fc,V.str lt.2.2])=xk at b' MO He Sq Ą⊢;refine⟨_,MO,_,rfl,?_⟩;rcases uK.get (fZ s.aI n).fc lt.2.2 with⟨aE,aB⟩|⟨k,aE,aB,aX⟩
    .rw[aE];rw[ĸ]at aB;exact⟨rfl,_,rfl,ek (dF (λz=>by cases z)) (no (by unfold oh;rw[pf,aB,cq c1,cq m7];simp) b')⟩
    .rw[aE];rw[ĸ]at aB;refine⟨rfl,_,rfl,?_⟩;by_cases Bk:k=r
     rotate_left
     .exact ek (dF λz=>Bk (J' (V.int.inj z))) (no (by unfold oh;rw[pf,aB];simp[Bk]) b')
     subst Bk;refine fu (cq rfl) ?_;have yes:oh hs ds s.kvs (dW s.ba) s.aI s.pr k n=true:=by unfold oh;rw[cq c1,cq c2,cq m7,pf,aB];simp
     have aoT:=Sq.len;rw[bp]at aoT;have atW:=Xg hs ds s.kvs (dW s.ba) s.aI s.pr k n;refine⟨_,rfl,.inl ⟨rfl,_,aG.of He⟩,_,rfl,_,rfl,(by show 2<=sizeLine;decide),λt dK=>?_⟩;have II:=bU (o:=.tup [V.int (fZ s.aI n).due,V.int (n:Int)]) dK;refine⟨tU,_,_,rfl,rfl,II _ _ He,eM (by rw[eB];omega),?_⟩;rw[ru];refine⟨ts++[t],_,_,_,_,_,rfl,kc á (Ą.trans II),aQ,?_⟩;rw[Ã,bL yes,eW];exact d7.upd (Paired.snoc (F:=λr d=>(upd xk t (.tup [V.int (fZ s.aI n).due,V.int (n:Int)])) r=some (.tup d)) aQ (Sq.same II)) (II _ _ He) (by intro d z;cases z)
   .rintro σ rb ⟨ts,v4,iB,v6,j6,iC,rfl,IC,yp,mT⟩;rw[eB,aoP,XN E5]at mT;obtain⟨cs,n5⟩:∃cs,cs=eS (iP s.aI) (iw s.kvs (dW s.ba) s.aI) s.pr ((hr s).filter (ir s)) r:=⟨_,rfl⟩
    have Qt:((hr s).filter (ir s)).Nodup:=(FC.filter _).filter _;have m0:0<=iv ds r:=by
     have:(d.m:Int)=iv ds r:=by unfold iv;rw[cT]
     rw[<-this];have:=rP.m.1;omega
    obtain⟨k,BB⟩:∃k,k=(iv ds r).toNat:=⟨_,rfl⟩
    obtain⟨ch,sZ⟩:∃ch,ch=((jg cs).take k).map (·.2):=⟨_,rfl⟩
    have lcs:cs.length<=40:=by rw[n5,<-XN E5];exact e3 (Xg _ _ _ _ _ _ _ _) vE
    rw[<-n5]at mT;have aqI:=zc.trans IC;have qm:=aqI _ _ hd;have atV:((jg cs).take k).length<=40:=by rw[ml];have:=(vg cs).length_eq;omega
    have Sl:=mT.len;rw[bp]at Sl;dsimp only[lz,qZ,tV,rS,Ay];refine Wb (K:=K) (rest:=[]) (ds:=((jg cs).take k).map i8) (λK0 Cy=>?_) rfl (eM (by rw[bp];omega)) (λi=>V.int ((((jg cs).take k).getD i (0,0)).2:Int)) (λd' mE=>?_) (λi u v bx K0 el s5 bT=>?_) (λD bx qD bN s5=>?_)
    .refine⟨_,rfl,tU,ts,cs.map qF,true,[true],rfl,aG.of yp,Ri mT,(by omega),Vf cs,λhQ pA=>?_⟩;obtain⟨wj,BE,Sn⟩:=ř mT;have s4:=bU (o:=.lst (gM V.bl (l2 (cs.map qF)) (ts.map V.ref))) pA;have jS:upd rb hQ (.lst (gM V.bl (l2 (cs.map qF)) (ts.map V.ref))) hQ=some (.lst (aH wj)):=by rw[aQ];rw[show ts.map V.ref=aH ts from rfl,BE]
     refine⟨_,rfl,gB,_,_,_,rfl,rfl,cH.of (s4 _ _ qm),rfl,_,rfl,hQ,_,rfl,aG.of jS,λgN kT=>⟨gN,rfl,⟨_,aG.of aQ⟩,?_⟩⟩;rw[Vg wj m0,<-BB];refine Cy gN _ (wj.take k) (nu s4 kT) (s4.trans (bU kT)) aQ ?_;rw[Kn];exact(Sh k (Sn.same s4)).same (bU kT)
    .obtain⟨c,_,rfl⟩:=cn.mp mE;exact⟨_,_,rfl⟩
    .rw[c6]at el;obtain⟨c,h5,aB⟩:=fL.mp el;have cJ:V.int (c.2:Int)=v:=by unfold i8 at aB;simp only[Ki]at aB;exact aB.2.1
     refine⟨_,rfl,?_⟩;rw[<-cJ];have:=bT bx (aN.refl _);rw[tZ h5]at this;exact this
    have Bv:(d_ (((jg cs).take k).map i8).length).map (λi=>V.int ((((jg cs).take k).getD i (0,0)).2:Int))=fC ch:=by rw[bp,range_getD (λc:Int×Nat=>V.int (c.2:Int)) (0,0) ((jg cs).take k),sZ];unfold fC;rw[jH];rfl
    rw[Bv,tP]at bN;refine⟨D,i4 ch,rfl,aG.of bN,(by unfold i4;rw[bp,sZ,bp];omega),λkn tG=>?_⟩;have kE:(sortI (i4 ch)).map V.int=fC (fz ch):=by rw[<-D8,<-tP]
    rw[kE];have fR:=bU (o:=.lst (fC (fz ch))) tG;have ZE:upd bx kn (.lst (fC (fz ch))) kn=some (.lst (fC (fz ch))):=aQ;generalize upd bx kn (.lst (fC (fz ch)))=f6 at fR ZE⊢;have u0:(hK ds (iP s.aI) (iw s.kvs (dW s.ba) s.aI) s.pr ((hr s).filter (ir s)) r).2=fz ch:=by unfold hK q3;rw[<-n5,<-BB,<-sZ]
    have Hy:=afz ds s r;rw[u0]at Hy;have aqu:aN rb f6:=s5.trans fR;refine⟨_,rfl,e4 _,λhI api=>?_⟩;have e':=bU (o:=.lst []) api;have GO:=e' _ _ ZE;rw[tP]at GO;refine⟨ti (i4 (fz ch)),.list [],VU (aG.of GO),.lst (aG.of aQ) .nil,vy (n:=1) (Wz _) (UQ _) (by decide),rfl,_,rfl,?_⟩;have RA:=IC.trans (aqu.trans e');have Ew:=zc.trans RA;have rx:=RA _ _ ZW;have Bi:bk (hq _) as (qA ds s r):=bk.e2 YH λ_ _ e=>e.same RA;generalize upd f6 hI (.lst [])=dz at GO Ew rx Bi⊢;have sY:g_ (ti (i4 (fz ch))) (.list [])=(fz ch).isEmpty:=by cases fz ch<;>rfl
    by_cases h8:fz ch=[]
    .refine ek (by rw[sY,h8];rfl) ⟨as,_,_,_,_,_,_,_,_,rfl,Ew,rx,?_⟩;rw[Hy,h8];show bk _ as (_++[]);rw[mh];exact Bi
    have hO:(fz ch).isEmpty=false:=by cases h:fz ch with|nil=>exact bE h h8|cons _ _=>rfl
    refine fu (by rw[sY,hO];rfl) ?_;refine⟨_,rfl,_,rfl,cl,_,rfl,iR.k (k:=eX (r:Int)) (Ew _ _ vm),_,rfl,?_⟩;rw[T3];by_cases n':r∈s.fS
    .refine ek (dF (λz=>z n')) ⟨as,_,_,_,_,_,_,_,_,rfl,Ew,rx,?_⟩;rw[Hy,dF (show¬r∉s.fS fromλz=>z n'),Ů];show bk _ as (_++[]);rw[mh];exact Bi
    refine fu (cq n') ?_;have gO:=gE Bi;have atU:(qA ds s r).length<=r:=by unfold qA;rw[bp];exact e3 (ky _ _) (by rw[jG];exact cj _)
    have rl:=(eG.mp era).1;refine⟨_,rfl,.inl ⟨rfl,_,aG.of rx⟩,_,rfl,_,rfl,_,rfl,kn,_,rfl,.inl ⟨aG.of GO,λc g6=>⟨(by show 3<=sizeLine;decide),λej ou=>⟨aM,aH as,_,rfl,rfl,bU ou _ _ (bU g6 _ _ rx),eM (by rw[eB];omega),?_⟩⟩⟩⟩;rw[<-tP]at ou⊢;have gd:=bU (o:=.tup (fC (fz ch))) g6;have CD:upd dz c (.tup (fC (fz ch))) c=some (.tup (fC (fz ch))):=aQ;generalize upd dz c (.tup (fC (fz ch)))=md at gd CD ou⊢;have qQ:=bU (o:=.tup [V.int s.pr,V.int (r:Int),V.ref c]) ou;have ZZ:upd md ej (.tup [V.int s.pr,V.int (r:Int),V.ref c]) ej=some (.tup [V.int s.pr,V.int (r:Int),V.ref c]):=aQ;have CE:=qQ _ _ CD;generalize upd md ej (.tup [V.int s.pr,V.int (r:Int),V.ref c])=Fe at qQ ZZ CE⊢;have Ry:=gd.trans qQ;have ZX:=Ry _ _ rx;have nb:hq Fe ej (hK ds (iP s.aI) (iw s.kvs (dW s.ba) s.aI) s.pr ((hr s).filter (ir s)) r):=⟨c,ZZ,by rw[u0];exact CE⟩
    refine⟨as++[ej],_,_,_,_,_,_,_,_,rfl,kc j0 (Ew.trans Ry),by rw[aQ,ru],?_⟩;rw[Hy,hO,cq n'];show bk _ (as++[ej]) (_++[_]);exact Paired.snoc (nb.upd ZX) (bk.e2 Bi λa b h=>(h.same Ry).upd ZX)
  .rintro σ b3 ⟨as,v1,v2,gS,v4,iB,v6,j6,iC,rfl,aF,h7,g0⟩;rw[eB,R.len,agT R.ok]at g0;refine⟨_,rfl,aM,rfl,⟨_,aG.of h7⟩,?_⟩;have YN:aM≠du:=λz=>by rw[z,vv]at j0;cases j0
   refine qd (K:=K) (xs:=aH as) (aiW dQ du bY cl cF aM hs ds s (gK ds s) b3) ⟨v1,v2,gS,v4,iB,v6,j6,iC,none,none,rfl,λ_ _ _ e=>e,?_⟩ (λj σ fh _ h=>by obtain⟨v1,v2,gS,v4,iB,v6,j6,iC,zl,v10,rfl,bQ,_⟩:=h;exact aG.of (bQ _ _ YN h7)) ?_ ?_
   .rw[FD];exact⟨nD,aF _ _ vv,bk.e2 Q7 λ_ _ e=>aF _ _ e⟩
   .rintro j z σ fh dx ⟨v1,v2,gS,v4,iB,v6,j6,iC,zl,v10,rfl,bQ,st⟩;unfold aH at dx;rw[c6]at dx;obtain⟨je,By,rfl⟩:=fL.mp dx;obtain⟨hF,MU,c,jh,hN⟩:=bk.get g0 By;obtain⟨u7,Iv,HL,HS⟩:=afA (hs:=hs) (eK MU);have a4:(gK ds s).take (j+1)=(gK ds s).take j++[hF]:=by rw[oW,MU];rfl
    have dK:∀{b:Addr}{v:aY},H b=some (.tup v)\/b3 b=some (.tup v)->b≠du:=λ{b v}e z=>by
     rcases e with e|e
     .rw[z,vv]at e;cases e
     .rw[z,aF _ _ vv]at e;cases e
    refine⟨je,_,rfl,cH.of (bQ _ _ (dK (.inr jh)) jh),rfl,_,_,rfl,_,_,rfl,_,_,rfl,rfl,?_⟩;obtain⟨gB,era⟩:∃gB,rs[hF.1.2]?=some gB:=⟨_,dn (by rw[R.len];exact Iv)⟩
    obtain⟨d,dS,rP,hd⟩:=R.get era;have cT:ds.getD hF.1.2 qM=d:=tZ dS;have Bx:lB hs d=[.str (pK hs ds hF.1.2),.str (q2 hs ds hF.1.2),.int (qL ds hF.1.2),.int (iv ds hF.1.2)]:=by unfold lB pK q2 qL iv;rw[cT]
    rw[Bx]at hd;have p4:ao.hb (aH rs) (hF.1.2:Int)=some (.ref gB):=iI (by unfold aH;rw[c6,era];rfl);have jR:=bQ c _ (dK (.inr hN)) hN;refine⟨_,rfl,c,rfl,⟨_,cH.of jR⟩,?_⟩;obtain⟨cur,MV⟩:∃cur,cur=od hs ds ((gK ds s).take j) s.aI:=⟨_,rfl⟩
    rw[<-MV]at st;have ati:cur.length=s.ba.length:=by rw[MV,ww];exact ln
    refine VG (K:=K) (a:=c) (xs:=hF.2.map λn:Nat=>V.int n) (aiX dQ du bY cl cF aM hF.1.2 v2 gS iB v6 j6 iC (some (.int hF.1.1)) (some (.ref c)) s (stepK hs ds hF.1) hF.2 cur b3) ⟨v4,rfl,bQ,by rw[FD,ņ];exact st⟩ (λm σ j8 _ h=>by obtain⟨v4,rfl,bQ,_⟩:=h;exact cH.of (bQ c _ (dK (.inr hN)) hN)) ?_ ?_
    .rintro m z σ j8 dx ⟨v4,rfl,bQ,aqJ,Oq,Δ⟩;rw[c6]at dx;obtain⟨i,el,rfl⟩:=fL.mp dx;have ar:=HS i (eK el);obtain⟨ss,es⟩:∃ss,cur[i]?=some ss:=⟨_,dn (by omega)⟩
     have Ė:hF.2.take (m+1)=hF.2.take m++[i]:=by rw[oW,el];rfl
     have HQ:i∉hF.2.take m:=λz=>by have:=HL;rw[<-WM (m+1) hF.2,Ė]at this;exact(xE.mp (xE.mp this).1).2.2 i z i (.head _) rfl
     have gN:=gE Δ;rw[Ic]at gN;have ZI:=bQ cF _ qD (aF _ _ qi);have Z5:=bQ gB _ (dK (.inl hd)) (aF _ _ hd);refine⟨_,rfl,_,rfl,cF,_,_,_,rfl,rfl,aG.of ZI,p4,gB,_,_,_,rfl,rfl,cH.of Z5,rfl,_,rfl,_,rfl,_,rfl,cF,_,_,_,rfl,rfl,aG.of ZI,p4,gB,_,_,_,rfl,rfl,cH.of Z5,rfl,_,_,rfl,rfl,(by show 2<=sizeLine;decide),λp np=>?_⟩;have sp:=bU (o:=.tup [V.str (q2 hs ds hF.1.2),V.int (s.pr+qL ds hF.1.2)]) np;refine⟨_,rfl,_,rfl,du,_,_,i,rfl,rfl,sp _ _ Oq,aoy (by rw[eB];omega),?_⟩;refine⟨_,rfl,λx v eP e=>?_,?_⟩
     .rw[aA eP];exact sp _ _ (bQ x v eP e)
     .rw[Ė,ģ _ HQ es];refine⟨aqJ.set i p,?_,?_⟩
      .rw[aQ];unfold aH;rw[List.map_set]
      .refine U8 ?_ i (bk.e2 Δ λx y e=>?_)
       .rw[aA (cL (bW Oq np)),aQ,aaS];show _=some (ed.tup [V.str (q2 hs ds hF.1.2),V.int (hF.1.1+qL ds hF.1.2)]);rw[u7]
       .rw[aA (λz=>by rw[z,Oq]at e;cases e)];exact sp _ _ e
    .rintro σ j8 ⟨v4,rfl,bQ,st⟩;rw[bp,oX,MV,<-Ś,<-a4]at st;exact⟨_,_,_,_,_,_,_,_,_,_,rfl,bQ,st⟩
   .rintro σ fh ⟨v1,v2,gS,v4,iB,v6,j6,iC,zl,v10,rfl,bQ,st⟩;have al:=gE g0;rw[eB,al,oX]at st;refine⟨_,rfl,q aM fh as j0 (λb o nb e=>bQ b o nb (aF _ _ e)) (bQ _ _ YN h7) (bk.e2 g0 λa b⟨c,af,ai⟩=>⟨c,?_,?_⟩) st⟩
    .exact bQ a _ (λz=>by rw[z,aF _ _ vv]at af;cases af) af
    .exact bQ c _ (λz=>by rw[z,aF _ _ vv]at ai;cases ai) ai
unseal fM bh fN fV
noncomputable def nG(b:k7×List Nat):PyData:=.tuple [.int b.1.1,.int b.1.2,.tuple (b.2.map λn:Nat=>FO n)]
end
theorem U9{K:aU}{H:ae}:∀ns:List Nat,oS K H (fC ns) (ns.map λn:Nat=>FO n)
 |[]=>.nil
 |n::ns=>.cons (.int _) (U9 ns)
theorem rI{K:aU}{H:ae}:∀{as:bS}{bs:mu},bk (hq H) as bs->oS K H (aH as) (bs.map nG)
 |_,[],h=>by cases h;exact .nil
 |_,b::bs,h=>by
  cases h with
  |cons r t=>
   obtain⟨c,af,ai⟩:=r;exact .cons (.tup (cH.of af) (.cons (.int _) (.cons (.int _) (.cons (.tup (cH.of ai) (U9 _)) .nil)))) (rI t)
theorem DK(bs:mu):(FP (bs.map nG)).canLay0=true:=D3 λd hd=>by
 obtain⟨b,_,rfl⟩:=cn.mp hd;have:pX (b.2.map λn:Nat=>FO n)=true:=D3 λd hd=>by obtain⟨n,_,rfl⟩:=cn.mp hd;rfl
 unfold nG;simp only[oZ,pX,Bool.and_true,UY];exact this
theorem YC{ds:fy}{n:Nat}(h:∀d∈ds,d.depth<=n):(PyData.tuple ds).depth<=n+1:=KA (Ib h)
theorem lw(bs:mu):p1 (.list (bs.map nG))=true:=
 vy (DK bs) (n:=4) (X7 (n:=3) λd hd=>by
  obtain⟨b,_,rfl⟩:=cn.mp hd;unfold nG;refine YC (n:=2) λd hd=>?_;simp only[dA,eA,or_false]at hd;rcases hd with rfl|rfl|rfl
  .exact e4 _
  .exact e4 _
  .exact YC (n:=1) λd hd=>by
    obtain⟨n,_,rfl⟩:=cn.mp hd;exact e4 _) (by decide)
section
variable{ay C aV az:Addr}{a9 H H':ae}{x:Addr}{A:d3}{hs:br}{ds:bZ}{s:cX}
theorem ef.Υ(D:ef ay C aV az a9 H x A hs ds s){oY:bS}(fv:ho (A.bO x) oY H H'){as:bS}{bs:mu}(p:bk (hq H) as bs):bk (hq H') as bs:=
 bk.e2 p λa b⟨c,af,ai⟩=>⟨c,fv.keep _ _ (λz=>D.DI z af) af,fv.keep _ _ (λz=>D.DI z ai) ai⟩
theorem ef.YK(D:ef ay C aV az a9 H x A hs ds s){l:Addr}(nl:l∉A.bO x)(nb:a9 l=none){xs ys:aY}(aj:H l=some (.lst xs)):ef ay C aV az a9 (upd H l (.lst ys)) x A hs ds s:=
 D.frame (M:=[l]) (λb o e=>by rw[aA (bW e nb)];exact D.b' _ _ e) (λb o nb e=>by rw[aA (λz=>nb (by rw[z];simp))];exact e) (λb aa z=>by rw[iW]at z;exact nl (z▸aa)) (λb aa v e=>by rw[iW]at aa;rw[aa,aj]at e;cases e)
end
section
variable{P:bJ}{w:bq}{K:aU}{mg:cB}{base:Heap}
noncomputable abbrev El:Stmt:=top 50
noncomputable abbrev ao6:List Str:=["_law_day","_law_due","_law_log","_law_n","_law_found","_law_bag"]
noncomputable abbrev DQ:List Str:=["_law_day","_law_due","_law_log","_law_n"]
theorem FT:dw ao6 DQ (c3 El):=⟨rfl,rfl,rfl,by decide+kernel,rfl,by decide+kernel,by decide+kernel⟩
inductive aiN(ay C aV az:Addr)(vs:aY)(H:ae)(Q:a')(E:b2):Prop where
 |mk (a9:ae) (x:Addr) (A:d3) (hs:br) (ds:bZ) (s:cX) (k:Nat) (ro fF:Addr) (F8 gO:bS) (n:Int) (bV:vs=[.ref x,.ref ro,.ref fF,.int n]) (bD:ef ay C aV az a9 H x A hs ds s) (b_:Good hs) (c_:mJ hs ds k s) (d1:k<=98) (fw:H ro=some (.lst (aH F8))) (iE:bk (hq H) F8 (gK ds s)) (k4:H fF=some (.lst (aH gO))) (mV:bk (hq H) gO (s.kr++gK ds s)) (q6:ro∉A.bO x) (wK:fF∉A.bO x) (Š:A.rs.length<=40)
   (zE:∀H' iF,ho (A.bO x) (iF.bO x) H H'->ef ay C aV az a9 H' x iF hs ds (zZ hs ds s)->Q (.aM true) H')
noncomputable def Le(ay C aV az:Addr):cG:=λvs H Q E=>aiN ay C aV az vs H Q E
inductive abw(x ro fF aM:Addr)(n:Int)(H1:ae)(i:Nat)(σ:ao.St)(b3:ae):Prop where
 |mk (iB:lO) (bV:σ=[some (.ref x),some (.ref ro),some (.ref fF),some (.int n),some (.ref aM),iB]) (bD:b3=H1)
seal fM bh fN fV
theorem aiO{ay C aV az f f1 f2:Addr}{fd cY d8:cz}(F:bw K "_law_passed" "_law_passed" El f fd)(B:gg mg)(fq:fp K ay)(sO:c0 K ay "pass_turn" "Day.pass_turn" zA ["self"] f1 cY)(Pr:aL P w K mg base a5 6 f1 cY ["self"] (Jq K ay C aV az))(n2:c0 K ay "log" "Day.log" uk ["self"] f2 d8)(Dv:aL P w K mg base a5 1 f2 d8 ["self"] (zW ay C aV az)):
  aL P w K mg base a5 7 f fd DQ (Le ay C aV az):=by
 refine F.ok FT (λvs H Q E h=>?_) (λcdv q9 outer s0 H vs Q E aq h=>?_)
 .obtain⟨a9,x,A,hs,ds,s,k,ro,fF,F8,gO,n,rfl,_⟩:=h;rfl
 .obtain⟨a9,x,A,hs,ds,s,k,ro,fF,F8,gO,n,rfl,D,G,O,Ρ,NT,akN,N_,akY,apf,yJ,Rm,q⟩:=h;refine⟨_,(bc (c8 (i:=4) FT.aJ rfl (b5 rfl) (mz (U 0) fq sO.eh Pr (aq.mono (by decide)) sO.bd .nil dj))
   (bc (eO (ih.pt (om (i0 (iK (dB lT (by rfl) B.isinstance jr (ak (U 4) (ak (lp (by rfl) B.list oc) aD))))) (pk (eu (y1 aq.units) (U 4) (U 1) (dr _))))) (bo (c7 hL)) fi)
   (bc (kd kz rfl (jL (U 4)) (ei (i:=5) FT.aJ rfl (b5 rfl))
    (bo (eO (ih.pt (om (i0 (iK (dB lT (by rfl) B.isinstance jr (ak (U 5) (ak (lp (by rfl) B.tuple yC) aD))))) (om (i0 (iK (dB lT (by rfl) B.isinstance jr (ak (cp e5 (U 5) aW (λ_ _=>rfl)) (ak (lp (by rfl) B.tuple yC) aD))))) (pk (iK (dB lT (by rfl) B.isinstance jr (ak (cp e5 (U 5) aW (λ_ _=>rfl)) (ak (lp (by rfl) B.bool TL) aD)))))))) (bo (c7 hL)) fi)))
   (bc (gI (nr nV o1 o2 m' (U 4) (ak kG aD)))
   (bc (eO (eu wu (bH eZ (bH gY (U 3) aW) aW) aW (dr _)) (bo (c7 hL)) fi)
   (bc (c8 (i:=4) FT.aJ rfl (b5 rfl) (mz (U 0) fq n2.eh Dv (aq.mono (by decide)) n2.bd .nil dj))
   (bc (eO (ih.pt (om (i0 (iK (dB lT (by rfl) B.isinstance jr (ak (U 4) (ak (lp (by rfl) B.list oc) aD))))) (pk (eu (y1 aq.units) (U 4) (U 2) (dr _))))) (bo (c7 hL)) fi)
   (bc (gI (nr nV o1 o2 m' (U 4) (ak kG aD)))
   (bo (c7 hL)))))))))),?_⟩
  refine⟨_,rfl,x,A.ag,_,rfl,D.ins,rfl,a9,x,A,hs,ds,s,k,rfl,D,G,O,Ρ,λH1 gU aM ft fv lF j0 Ð h7 g0=>?_⟩;have apg:=fv.keep _ _ apf NT;have apt:=fv.keep _ _ yJ N_;have YJ:=D.Υ fv akN;have YL:=D.Υ fv akY;obtain⟨Bs,MS⟩:∃Bs,Bs=gK ds s:=⟨_,rfl⟩
  rw[<-MS]at g0 YJ YL;refine⟨_,rfl,_,_,_,_,_,rfl,⟨rfl,.lst h7,rfl⟩,_,rfl,ek rfl ?_⟩;refine⟨_,rfl,_,rfl,.list (Bs.map nG),.list (Bs.map nG),.lst (aG.of h7) (rI g0),.lst (aG.of apg) (rI YJ),lw Bs,lw Bs,_,rfl,ek (IT (DK Bs)) ?_⟩;refine⟨_,rfl,aM,rfl,⟨_,aG.of h7⟩,?_⟩;refine qd (K:=K) (xs:=aH ft) (abw x ro fF aM n H1) ⟨none,rfl,rfl⟩ (λi σ b3 _ h=>by obtain⟨iB,rfl,rfl⟩:=h;exact aG.of h7) ?_ ?_
  .rintro i z σ b3 dx ⟨iB,rfl,rfl⟩;unfold aH at dx;rw[c6]at dx;obtain⟨je,By,rfl⟩:=fL.mp dx;obtain⟨hF,MU,c,jh,hN⟩:=bk.get g0 By;refine⟨_,rfl,_,_,_,_,_,rfl,⟨rfl,.tup jh,rfl⟩,_,rfl,ek rfl ?_⟩;refine⟨_,rfl,je,_,_,_,rfl,rfl,cH.of jh,rfl,_,_,_,_,_,rfl,⟨rfl,.tup hN,rfl⟩,_,rfl,ek rfl ?_⟩;exact⟨_,rfl,je,_,_,_,rfl,rfl,cH.of jh,rfl,_,_,_,_,_,rfl,⟨rfl,.int _,rfl⟩,_,rfl,ek rfl ⟨_,rfl,rfl⟩⟩
  rintro σ b3 ⟨iB,rfl,rfl⟩;have atg:ft.length<=40:=by
   have af:=gE g0;have ai:Bs.length<=ds.length:=by rw[MS];unfold gK oj ni;refine e3 (ky _ _) ?_;rw[bp];exact e3 (ky _ _) (by rw[jG];exact cj _)
   have bR:=D.lC.len;omega
  have apa:a9 aM=none:=by
   cases e:a9 aM with
   |none=>rfl
   |some o=>rw[D.b' _ _ e]at j0;cases j0
  have dl:ro≠aM:=λz=>by rw[z,j0]at NT;cases NT
  have tu:fF≠aM:=λz=>by rw[z,j0]at N_;cases N_
  refine⟨_,rfl,.inl ⟨rfl,_,aG.of h7⟩,aM,_,_,rfl,rfl,h7,eM (by rw[eB];omega),?_⟩;have cF:=lF.YK Ð apa h7 (ys:=aH ft++[V.bl]);have vN:ho (A.bO x) (gU.bO x) H (upd b3 aM (.lst (aH ft++[V.bl]))):=⟨λb o nb e=>by rw[aA (bW e j0)];exact fv.keep b o nb e,fv.own⟩
  have ο:upd b3 aM (.lst (aH ft++[V.bl])) fF=some (.lst (aH gO)):=by rw[aA tu];exact apt
  have YM:bk (hq (upd b3 aM (.lst (aH ft++[V.bl])))) gO (s.kr++Bs):=bk.e2 YL λ_ _ e=>e.upd h7;generalize upd b3 aM (.lst (aH ft++[V.bl]))=ah at cF vN ο YM⊢;refine⟨_,rfl,_,_,rfl,rfl,⟨by decide,by decide⟩,_,_,rfl,rfl,(by show(0:Int)<3;decide),_,_,rfl,rfl,_,rfl,?_⟩;refine nC (λ_=>q ah gU vN cF) (λ_=>?_);refine⟨_,rfl,x,gU.ag,_,rfl,cF.ins,rfl,a9,x,gU,hs,ds,_,rfl,cF,λl nl=>?_⟩;have s3:=bU (o:=.lst (aH gU.ft)) nl;have qo:upd ah l (.lst (aH gU.ft)) l=some (.lst (aH gU.ft)):=aQ;have aoI:=cF.live nl;have gh:=cF.same s3;have aps:a9 l=none:=by
   cases e:a9 l with
   |none=>rfl
   |some o=>rw[cF.b' _ _ e]at nl;cases nl
  generalize upd ah l (.lst (aH gU.ft))=bg at s3 qo gh⊢;have kr:(zZ hs ds s).kr=s.kr++Bs:=by rw[MS];rfl
  have R0:=gh.sp;rw[kr]at R0;refine⟨_,rfl,_,_,_,_,_,rfl,⟨rfl,.lst qo,rfl⟩,_,rfl,ek rfl ?_⟩;refine⟨_,rfl,_,rfl,.list ((s.kr++Bs).map nG),.list ((s.kr++Bs).map nG),.lst (aG.of qo) (rI R0),.lst (aG.of (s3 _ _ ο)) (rI (bk.e2 YM λ_ _ e=>e.same s3)),lw _,lw _,_,rfl,ek (IT (DK _)) ?_⟩;have bj:(aH gU.ft).length<=6000:=by have af:=gE R0;have ai:=O.IE;have bR:=gE g0;rw[ig]at af;rw[eB];omega
  refine⟨_,rfl,.inl ⟨rfl,_,aG.of qo⟩,l,_,_,rfl,rfl,qo,nT bj (by decide),?_⟩;have gC:=gh.YK aoI aps qo (ys:=aH gU.ft++[V.bl]);have yI:l∈A.bO x\/H l=none:=by
   by_cases hm:l∈A.bO x
   .exact .inl hm
   .exact .inr (vN.new hm nl)
  have apb:∀b o,b∉A.bO x->H b=some o->b≠l:=λb o nb e z=>by
   rcases yI with y|y
   .exact nb (z▸y)
   .rw[z,y]at e;cases e
  exact q _ gU ⟨λb o nb e=>by rw[aA (apb b o nb e)];exact s3 _ _ (vN.keep b o nb e),fv.own⟩ gC
unseal fM bh fN fV
end
end dY
namespace cQ
open PySem PySem.Spec PyProof.Rows ao
section
variable{X:bb}
theorem D_{K:aU}{C D:Addr}{b:Bool}(ax:KX K D=true)(df:uF K (.ref D)=some (.type "type"))(hs:m2 K (.ref C) (.ref D)=some b)(aS:(cy C==cy D)=true->b=true):
  hZ K (.ref C) (.ref D)=some b:=by
 unfold hZ;by_cases h:(cy C==cy D)=true
 .rw[bL h,aS h]
 .rw[bF h];unfold aer;have af:(FR K D).isSome=true:=ax;have ai:(uF K (.ref D)==some (.type "type"))=true:=by rw[df];decide
  show(if((FR K D).isSome&&uF K (.ref D)==some (.type "type"))=true then _ else _)=_;rw[af,ai];exact(bL rfl).trans hs
end
section
variable{X:bb}{e o:Expr}{es:gG}{pos eN p:Pos}{k:Nat}{f C:Addr}{fd:cz}{ps:cf}{sp:cG}{b4:TE}{t:f7}{m x:Str}
theorem V2{pl:Sem Bool}(he:bh X.qE o b4)(c:fp X.K C)(hm:Meth X.K C m f)(F:aL X.prog X.w X.K X.mg X.base (mX X.prog X.w) k f fd ps sp)(aq:gc k X.A)(aa:Binds X.K fd ps [])(aK:fM X.qE (e::es) t)(l0:dR (e::es) X.env=(false,eval e X.env)::dR es X.env:=by rfl)(fE:(hg pos (dR es X.env)).any (·.1)=false:=by rfl)(df:eval (.Call (.Attribute o m eN) (e::es) [] pos) X.env=(do
   let eI <-eval o X.env
   r3 eN.atName
   let(f,first) <-lY [eI] (vf eI m pl)
   xY pos f first (hg pos (dR (e::es) X.env)) (kB pos (kP [] X.env))):=by rfl):
  Xm X (.Call (.Attribute o m eN) (e::es) [] pos) (Wq C m sp b4 t):=by intro pins s σ H Q E I h;refine A5 (pl:=pl) (yK (X:=X) (pins:=pins) (bB (he pins s σ H _ (I.ku _) h) λu s1⟨x,H1,aP,bz,a,ag,fs,ex,au,l,q⟩=>?_)) df;subst ex;obtain rfl:u=cy a:=bz;have aP:=aP.ks;refine C6 aP au c hm l ?_;refine A2 (first:=[.ref a]) (h₀:=X.base) I.ok.mod.rL hm.bQ (yK (X:=X) (pins:=pins) (bB (aK pos pins s1 σ H1 _ (aP.ku _) q) λus s2⟨vs,ah,bA,r,cU⟩=>⟨bA.ks.ew,?_⟩)) l0 fE;refine aeI (us:=.ref a::us) (vs:=.ref a::vs) F aq aa bA.ks (.cons rfl r) ?_;have DT:sp (V.ref a::(vs++[])) ah Q E:=cU;rw[mh]at DT;exact DT
end
noncomputable def FU(X:bb)(nD:List Stmt)(t:m4):Prop:=
 ∀(pins:cu)(s:aC)(σ:St)(H:ae)(D:Ends)(E:St->b2),Inv X pins σ H s->t D E σ H->aO (a6 X.prog X.w) X.A (execs nD X.env) (o6 X pins D) (λe s'=>∃a3,F3 X pins a3 (E a3) e s') s
section
variable{X:bb}{pos:Pos}
theorem adI:FU X [] (λD _ σ H=>D.b9 σ H):=λ_ _ σ H _ _ I h=>r9 ⟨σ,H,I,h⟩
theorem Te{st:Stmt}{t:m4}(af:FK X st t):FU X [st] t:=by
 intro pins s σ H D E I h;refine Jb (bB (af pins s σ H D E I h) λf s1 q=>?_);cases f with
 |next=>exact r9 q
 |ret v=>exact q
 |brk=>exact q
 |cont=>exact q
theorem Xe{c:Expr}{a b:List Stmt}{j3:TT}{t u:m4}(ax:k9 X.qE c j3)(aK:FU X a t)(aa:FU X b u):FK X (.If c a b pos) (λD E σ H=>j3 σ H λk H1=>if k=true then t D E σ H1 else u D E σ H1):=by
 intro pins s σ H D E I h;refine wpAny_If (yK (X:=X) (pins:=pins) (bB (ax pins s σ H _ (I.ku _) h) λd s1⟨H1,aP,bM⟩=>?_));cases d with
 |true=>exact aK pins s1 σ H1 D E aP.ks bM
 |false=>exact aa pins s1 σ H1 D E aP.ks bM
end
end cQ
namespace dY
open PySem ao cQ dp
structure YD(K:aU)(d6 p0:Addr):Prop where
 sub:jx K d6 d6=true
 re:hZ K (.ref d6) (.ref p0)=some true
 h5:kS K d6
 aS:b1 K (.ref d6) "number"=some none
 hd:o3 K d6=true
theorem afl{l:dH}(h:∀x∈l,x<128):oZ (.str (S l))=true:=by simp only[oZ,Xr,S];rw[ũ];intro x av;have:=h x (by simpa using av);exact cq (by omega)
theorem Lf{l:dH}(h:∀x∈l,x<128)(z:l.length<=50)(H:ae):dm H (.str (S l)) (.str (S l)):=.str _ (by rw[qJ];omega) (afl h)
theorem XO{hs:br}(G:Good hs){h:Str}(m:h∈hs.map S):h++eH "A"∉hs.map S/\(∀H,dm H (.str (h++eH "A")) (.str (h++eH "A")))/\h.length<=8:=by
 obtain⟨l,aj,rfl⟩:=cn.mp m;have n:=G.nm l aj;have ams:eH "A"=S [65]:=by decide+kernel
 rw[ams,wB];refine⟨λz=>?_,Lf (λx av=>?_) (by rw[ig];have:=n.2.1;show _+1<=50;omega),by rw[qJ];exact n.2.1⟩
 .obtain⟨y,cM,e⟩:=cn.mp z;have:=(G.nm y cM).2.2 65 (by rw[tY e];simp);omega
 .rcases hX.mp av with av|av
  .have:=n.2.2 x av;omega
  .rw[iW.mp av];decide
section
variable{P:bJ}{w:bq}{K:aU}{mg:cB}{base:Heap}
noncomputable abbrev Em:Stmt:=top 53
noncomputable abbrev ao7:List Str:=["_law_day","_law_house","_law_goal","_law_number","_law_n","_law_error","e"]
noncomputable abbrev DR:List Str:=["_law_day","_law_house","_law_goal","_law_number","_law_n"]
theorem FV:dw ao7 DR (c3 Em):=⟨rfl,rfl,rfl,by decide+kernel,rfl,by decide+kernel,by decide+kernel⟩
inductive aiP(ay C aV az:Addr)(vs:aY)(H:ae)(Q:a')(E:b2):Prop where
 |mk (a9:ae) (x:Addr) (A:d3) (hs:br) (ds:bZ) (s:cX) (h g:Str) (n:Int) (bV:vs=[.ref x,.str h,.str g,.int (s.ba.length:Int),.int n]) (bD:ef ay C aV az a9 H x A hs ds s) (b_:Good hs) (c_:Jo hs s.ba) (d1:s.ba.length<=39) (fw:s.aI.length=s.ba.length) (iE:h∈hs.map S) (k4:g∈hs.map S) (mV:vY hs s) (q6:sa (bN hs) ((s.ba++[(h,s.pr,g)]).map g5))
   (wK:∀H' iF,ho (A.bO x) (iF.bO x) H H'->ef ay C aV az a9 H' x iF hs ds (rW s h g)->Q (.aM true) H')
noncomputable def Lg(ay C aV az:Addr):cG:=λvs H Q E=>aiP ay C aV az vs H Q E
seal fM bh fN fV
theorem aiQ{ay C aV az d6 p0 f f1:Addr}{fd cY:cz}(F:bw K "_law_posted" "_law_posted" Em f fd)(B:gg mg)(fq:fp K ay)(lM:YD K d6 p0)(p':mg "RoadError"=some (.ref p0))(vh:mg "NoLetter"=some (.ref d6))(n4:c0 K ay "post" "Day.post" zz ["self","house","goal"] f1 cY)(C3:aL P w K mg base (mX P w) 5 f1 cY ["self","house","goal"] (Jp ay C aV az d6)):aL P w K mg base a5 6 f fd DR (Lg ay C aV az):=by
 refine F.ok FV (λvs H Q E h=>?_) (λcdv q9 outer s0 H vs Q E aq h=>?_)
 .obtain⟨a9,x,A,hs,ds,s,h',g',n,rfl,_⟩:=h;rfl
 .obtain⟨a9,x,A,hs,ds,s,h',g',n,rfl,D,G,oV,atL,Dx,ny,É,lL,p4,q⟩:=h;have anc:=lM.sub;refine⟨_,(bc (c8 (i:=5) FV.aJ rfl (b5 rfl) kG)
   (bc (aeM (i:=6) rfl rfl (Xe (eu i2 (bH eZ (U 4) aW) aW (dr _)) (Te (UU (V2 (U 0) fq n4.eh C3 (aq.mono (by decide)) n4.bd (ak (U 1) (ak (U 1) aD))))) (Te (Xe (eu i2 (bH eZ (U 4) aW) aW (dr _)) (Te (UU (V2 (U 0) fq n4.eh C3 (aq.mono (by decide)) n4.bd (ak (bH C5 (U 1) jO) (ak (U 2) aD))))) adI))) FV.aJ rfl rfl rfl vh anc (λau=>(bo (c8 (i:=5) FV.aJ rfl (b5 rfl) (U 6)))))
   (bc (eO (ih.pt (tA (eu pw (bH eZ (U 4) aW) aW (dr _)) (DW (ih.pt (om (i0 (iK (dB abL (by rfl) B.isinstance jr (ak (U 5) (ak (Jj (by rfl) p') aD))))) (pk (eu wt (afj (U 5) (by rfl)) (U 3) (dr _)))))))) (bo (c7 hL)) fi)
   (bo (c7 (iZ i2 (gZ (U 0) fq n4.eh C3 (aq.mono (by decide)) n4.bd .nil X6 (ak (U 1) (ak (U 2) aD))) (U 3) (dr _))))))),?_⟩
  have fin:∀ah,aN H ah->∀uG:a',(∀H',Q (.aM true) H'->uG (.int (s.ba.length:Int)) H')->V1 ay C aV az d6 [.ref x,.str h',.str g'] ah uG ra:=λah s2 uG k=>
   ⟨a9,x,A,hs,ds,s,h',g',rfl,D.same s2,G,oV,by omega,Dx,λ_=>kk G ny,λ_=>kk G É,λ_ H' iF fv cA=>k H' (q H' iF ((ho.refl s2).trans fv) cA),λna=>bE p4 na⟩
  have bad:∀{h g:Str},ij (bN hs) (g5 (h,s.pr,g))=false->lj (bN hs) ((s.ba++[(h,s.pr,g)]).map g5)=some s.ba.length/\¬sa (bN hs) ((s.ba++[(h,s.pr,g)]).map g5):=λ{h g}b=>by have e:=adT lL b;refine⟨e,λz=>?_⟩;rw[z.1]at e;cases e
  have kA:ij (bN hs) (g5 (h',s.pr,h'))=false:=wM.mpr λz=>(I4.mp z).2.2.1 rfl;have yR:=XO G ny;have f9:ij (bN hs) (g5 (h'++eH "A",s.pr,g'))=false:=wM.mpr λz=>yR.1 (I4.mp z).1;refine⟨_,rfl,_,_,rfl,rfl,(by show(0:Int)<4;decide),rfl,_,rfl,nC (λuW=>?_) (λuW=>?_)⟩
  .refine⟨_,rfl,x,_,_,rfl,D.ins,rfl,_,rfl,_,rfl,a9,x,A,hs,ds,s,h',h',rfl,D,G,oV,by omega,Dx,λ_=>kk G ny,λ_=>kk G ny,λz=>bE z (bad kA).2,λ_ ag H1 aJ s1 hd=>⟨d6,ag,rfl,rfl,lM.sub,λau h_=>?_⟩⟩;rw[(bad kA).1]at hd;have vF:n%4<2:=by have:=V.int.inj (jk uW);omega
   refine⟨_,rfl,?_⟩;have kq:aN H (upd H1 au (kF au d6 ag)):=s1.trans (bU h_);have fo:upd H1 au (kF au d6 ag) au=some (kF au d6 ag):=aQ;have kh:upd H1 au (kF au d6 ag) ag=some (ma ag [("number",V.int (s.ba.length:Int))]):=bU h_ _ _ hd;generalize upd H1 au (kF au d6 ag)=ah at kq fo kh⊢;refine⟨_,rfl,_,_,rfl,rfl,(by show(0:Int)<4;decide),_,_,rfl,rfl,_,rfl,fu (cq vF) ?_⟩;refine⟨_,rfl,au,d6,ag,_,fo,lM.h5,.inl ⟨_,rfl,lM.re⟩,_,rfl,ek rfl ?_⟩;refine⟨_,rfl,au,d6,ag,_,_,rfl,fo,kh,lM.h5,lM.aS,lM.hd,rfl,_,rfl,rfl,_,rfl,ek (by rw[cq rfl];rfl) ?_⟩;exact⟨_,rfl,x,_,_,rfl,(D.same kq).ins,rfl,_,rfl,_,rfl,fin ah kq _ λH' D5=>⟨_,rfl,rfl,nt (cq rfl) D5⟩⟩
  refine⟨_,rfl,_,_,rfl,rfl,(by show(0:Int)<4;decide),rfl,_,rfl,nC (λc1=>?_) (λc1=>?_)⟩
  .refine⟨_,rfl,x,_,_,rfl,D.ins,rfl,_,rfl,_,_,rfl,rfl,?_,_,rfl,a9,x,A,hs,ds,s,h'++eH "A",g',rfl,D,G,oV,by omega,Dx,yR.2.1,λ_=>kk G É,λz=>bE z (bad f9).2,λ_ ag H1 aJ s1 hd=>⟨d6,ag,rfl,rfl,lM.sub,λau h_=>?_⟩⟩
   .have:=yR.2.2;exact nS (eM (by show _+1<=1000;omega))
   rw[(bad f9).1]at hd;have vF:n%4<2:=by have:=V.int.inj (jk c1);omega
   refine⟨_,rfl,?_⟩;have kq:aN H (upd H1 au (kF au d6 ag)):=s1.trans (bU h_);have fo:upd H1 au (kF au d6 ag) au=some (kF au d6 ag):=aQ;have kh:upd H1 au (kF au d6 ag) ag=some (ma ag [("number",V.int (s.ba.length:Int))]):=bU h_ _ _ hd;generalize upd H1 au (kF au d6 ag)=ah at kq fo kh⊢;refine⟨_,rfl,_,_,rfl,rfl,(by show(0:Int)<4;decide),_,_,rfl,rfl,_,rfl,fu (cq vF) ?_⟩;refine⟨_,rfl,au,d6,ag,_,fo,lM.h5,.inl ⟨_,rfl,lM.re⟩,_,rfl,ek rfl ?_⟩;refine⟨_,rfl,au,d6,ag,_,_,rfl,fo,kh,lM.h5,lM.aS,lM.hd,rfl,_,rfl,rfl,_,rfl,ek (by rw[cq rfl];rfl) ?_⟩;exact⟨_,rfl,x,_,_,rfl,(D.same kq).ins,rfl,_,rfl,_,rfl,fin ah kq _ λH' D5=>⟨_,rfl,rfl,nt (cq rfl) D5⟩⟩
  have amR:¬n%4<2:=by have h0:=ie n (show(4:Int)≠0 by decide);have uW:n%4≠0:=λz=>uW (cq (hh V.int z));have c1:n%4≠1:=λz=>c1 (cq (hh V.int z));omega
  refine⟨_,rfl,_,_,rfl,rfl,(by show(0:Int)<4;decide),_,_,rfl,rfl,_,rfl,ek (dF amR) ?_⟩;exact⟨_,rfl,x,_,_,rfl,D.ins,rfl,_,rfl,_,rfl,fin H (aN.refl _) _ λH' D5=>⟨_,rfl,rfl,nt (cq rfl) D5⟩⟩
unseal fM bh fN fV
end
structure YE(K:aU)(p0 cN dq:Addr):Prop where
 dy:jx K cN cN=true
 G0:kS K cN
 an7:hZ K (.ref cN) (.ref p0)=some true
 aoi:hZ K (.ref cN) (.type "ValueError")=some true
 anP:hZ K (.ref cN) (.ref cN)=some true
 anQ:hZ K (.ref cN) (.ref dq)=some false
 fI:jx K dq dq=true
 Rt:JZ K dq cN
 It:kS K dq
 aqp:hZ K (.ref dq) (.ref p0)=some true
 aqq:hZ K (.ref dq) (.type "ValueError")=some true
 aql:hZ K (.ref dq) (.ref cN)=some false
 aqm:hZ K (.ref dq) (.ref dq)=some true
section
variable{P:bJ}{w:bq}{K:aU}{mg:cB}{base:Heap}
noncomputable abbrev Ep:Stmt:=top 52
noncomputable abbrev ao8:List Str:=["_law_day","_law_names","_law_lines","_law_n","_law_house","_law_goal","_law_road_here","_law_other","_law_foreign","_law_error","_law_what","e"]
noncomputable abbrev DS:List Str:=["_law_day","_law_names","_law_lines","_law_n"]
theorem pN:dw ao8 DS (c3 Ep):=⟨rfl,rfl,rfl,by decide+kernel,rfl,by decide+kernel,by decide+kernel⟩
inductive aiR(ay C aV az:Addr)(vs:aY)(H:ae)(Q:a')(E:b2):Prop where
 |mk (a9:ae) (x:Addr) (A:d3) (hs:br) (ds:bZ) (s:cX) (d0 cF:Addr) (rs:bS) (n:Int) (bV:vs=[.ref x,.ref d0,.ref cF,.int n]) (bD:ef ay C aV az a9 H x A hs ds s) (b_:Good hs) (c_:2<=hs.length) (d1:1<=ds.length) (fw:A.rs.length<=40) (iE:s.kvs.length<=900) (k4:s.fS.length<=900) (mV:a9 d0=some (.lst (cE hs))) (q6:a9 cF=some (.lst (aH rs))) (zE:iJ a9 hs rs ds)
   (wK:∀H',aN H H'->Q (.aM true) H')
noncomputable def Lh(ay C aV az:Addr):cG:=λvs H Q E=>aiR ay C aV az vs H Q E
seal fM bh fN fV
theorem aiS{ay C aV az p0 cN dq f f1 f2 cv f4:Addr}{fd cY d8 g8 kH:cz}(F:bw K "_law_refused" "_law_refused" Ep f fd)(B:gg mg)(fq:fp K ay)(gk:YE K p0 cN dq)(p':mg "RoadError"=some (.ref p0))(C4:mg "NoHouse"=some (.ref cN))(Dz:mg "NoRoad"=some (.ref dq))(ta:c0 K ay "shut" "Day.shut" zB ["self","road"] f1 cY)(Rl:aL P w K mg base (d9 P w) 3 f1 cY ["self","road"] (t5 ay C aV az dq zV))(sW:c0 K ay "reopen" "Day.reopen" xv ["self","road"] f2 d8)(PZ:aL P w K mg base (d9 P w) 3 f2 d8 ["self","road"] (t5 ay C aV az dq vK))(sR:c0 K ay "drop_way" "Day.drop_way" xu ["self","house","goal"] cv g8)(Po:aL P w K mg base (d9 P w) 4 cv g8 ["self","house","goal"] (Fj ay C aV az cN))(p7:c0 K ay "set_way" "Day.set_way" xt ["self","house","goal","road"] f4 kH)(Hq:aL P w K mg base (d9 P w) 4 f4 kH ["self","house","goal","road"] (Fi ay C aV az cN dq)):
  aL P w K mg base a5 5 f fd DS (Lh ay C aV az):=by
 refine F.ok pN (λvs H Q E h=>?_) (λcdv q9 outer s0 H vs Q E aq h=>?_)
 .obtain⟨a9,x,A,hs,ds,s,d0,cF,rs,n,rfl,_⟩:=h;rfl
 .obtain⟨a9,x,A,hs,ds,s,d0,cF,rs,n,rfl,D,G,ai,jK,eE,og,bj,rB,qi,Rr,q⟩:=h;have Gx:rs.length<=40:=by have:=D.lC.len;have:=Rr.len;omega
  have anb:=gk.dy;have ane:=gk.fI;refine⟨_,(bc (c8 (i:=4) pN.aJ rfl (rj rfl) (cp fk (U 1) (bH eZ (bH gY (U 3) aW) (dB gH (by rfl) B.len gA (ak (U 1) aD))) (λ_ _=>rfl)))
   (bc (c8 (i:=5) pN.aJ rfl (b5 rfl) (cp fk (gJ (ak (U 4) (ak jO (ak (bH C5 (U 4) jO) (ak (bH C5 (bH C5 (cp fk (U 1) aW (λ_ _=>rfl)) (cp fk (U 1) aW (λ_ _=>rfl))) jO) aD))))) (bH eZ (bH gY (U 3) aW) aW) (λ_ _=>rfl)))
   (bc (c8 (i:=6) pN.aJ rfl (b5 rfl) (cp fk (gJ (ak (bH h4 (dB gH (by rfl) B.len gA (ak (U 2) aD)) (bH eZ (bH gY (U 3) aW) (bH Jn aW aW))) (ak (bH rN (Ka JN aW) (bH eZ (bH gY (U 3) aW) (bH Jn aW aW))) aD))) (bH eZ (bH gY (U 3) aW) aW) (λ_ _=>rfl)))
   (bc (c8 (i:=7) pN.aJ rfl (b5 rfl) (cp fk (U 1) (bH eZ (bH h4 (bH gY (U 3) aW) aW) (dB gH (by rfl) B.len gA (ak (U 1) aD))) (λ_ _=>rfl)))
   (bc (c8 (i:=8) pN.aJ rfl (b5 rfl) (bH JF (tW (N':=["_law_k","_law_house","_law_lines"]) (cs:=[none,some 4,some 2]) rfl (yr rfl B.range (ak (dB gH (by rfl) B.len gA (ak (U 2) aD)) aD)) rfl (by decide+kernel) rfl (by decide+kernel) (lq (nP.mpr ⟨rfl,(nP.mpr ⟨rfl,(λp aR=>bE aR (eA))⟩)⟩)) rfl
    (.own (.lS rfl (.inl rfl) (.inl rfl) rfl (.lS rfl (.inl rfl) (.inl rfl) rfl .nil)))
    (λC s3 bg cb e9=>⟨(ei (i:=0) (by show(["_law_k","_law_house","_law_lines"]:cf).Nodup;decide+kernel) rfl (.inl rfl)),(yQ (eu wt (cp (vG (K:=K) rfl) (cp (SJ (K:=K) rfl) (U 2) (U 0) (λ_ _=>rfl)) aW (λ_ _=>rfl)) (U 1) (dr _))),(U 0)⟩)) (gJ (ak (U 6) aD))))
   (bc (c8 (i:=9) pN.aJ rfl (b5 rfl) kG)
   (bc (c8 (i:=10) pN.aJ rfl (b5 rfl) (bH eZ (U 3) aW))
   (bc (afI (i:=11) rfl rfl (rG (Jg (eu pw (U 10) aW (dr _)) (rG (DB (D1 (U 0) fq p7.eh Hq (aq.mono (by decide)) p7.bd (ak (U 4) (ak (U 5) (ak (bH eZ (bH gY (U 3) aW) (dB gH (by rfl) B.len gA (ak (U 2) aD))) aD)))))) (rG (Jg (eu i2 (U 10) aW (dr _)) (rG (DB (D1 (U 0) fq sR.eh Po (aq.mono (by decide)) sR.bd (ak (U 4) (ak (U 5) aD))))) (rG (Jg (eu pw (U 10) aW (dr _)) (rG (DB (D1 (U 0) fq p7.eh Hq (aq.mono (by decide)) p7.bd (ak (U 4) (ak (U 7) (ak (cp fk (U 8) (bH eZ (bH gY (U 3) aW) (dB gH (by rfl) B.len gA (ak (U 8) aD))) (λ_ _=>rfl)) aD)))))) (rG (Jg (eu i2 (U 10) aW (dr _)) (rG (DB (D1 (U 0) fq ta.eh Rl (aq.mono (by decide)) ta.bd (ak (U 6) aD)))) (rG (DB (D1 (U 0) fq sW.eh PZ (aq.mono (by decide)) sW.bd (ak (U 6) aD)))))))))))) pN.aJ rfl rfl rfl C4 anb (λau=>(bo (c8 (i:=9) pN.aJ rfl (b5 rfl) (U 11)))) rfl Dz ane (λau=>(bo (c8 (i:=9) pN.aJ rfl (b5 rfl) (U 11)))))
   (bc (eO (ih.pt (om (i0 (iK (dB Ia (by rfl) B.isinstance jr (ak (U 9) (ak (Jj (by rfl) p') aD))))) (pk (i0 (iK (dB Ia (by rfl) B.isinstance jr (ak (U 9) (ak (lp (by rfl) B.ValueError ars) aD)))))))) (bo (c7 hL)) fi)
   (bo (c7 (iZ (y0 aq.units) (gJ (ak (dB Ia (by rfl) B.isinstance jr (ak (U 9) (ak (Jj (by rfl) C4) aD))) (ak (dB Ia (by rfl) B.isinstance jr (ak (U 9) (ak (Jj (by rfl) Dz) aD))) aD))) (gJ (ak (iZ pw (U 10) aW (dr _)) (ak (iZ wu (U 10) aW (dr _)) aD))) (dr _))))))))))))),?_⟩
  have aR:=D.b' _ _ rB;have hd:=D.b' _ _ qi;have dk:(cE hs).length=hs.length:=by unfold cE;rw[bp]
  have pos:(0:Int)<((cE hs).length:Int):=by omega
  have rl:(aH rs).length=ds.length:=by rw[eB,Rr.len]
  obtain⟨u,Bf,nc⟩:=rM (λy=>V.str (S y)) (L:=hs) (by omega) (n/8);obtain⟨v,Bg,ev⟩:=rM (λy=>V.str (S y)) (L:=hs) (by omega) (n/8+1);have bO:S u∈hs.map S:=cn.mpr ⟨u,eK nc,rfl⟩;have fv:S v∈hs.map S:=cn.mpr ⟨v,eK ev,rfl⟩;have ne:S u≠S v:=λz=>by have e:=tY z;subst e;obtain⟨af,aE⟩:=eG.mp nc;obtain⟨bR,cJ⟩:=eG.mp ev;have:=(uy G.aJ).mp (aE.trans cJ.symm);have a1:0<=n/8%(hs.length:Int):=ie _ (by omega);have a2:0<=(n/8+1)%(hs.length:Int):=ie _ (by omega);have:=J3 (x:=n/8) (c:=1) (m:=hs.length) (by omega) (by omega);omega
  have un:=ş bO fv ne;have yR:=XO G bO;have cT:hs.getD 0 []=hs[0]'(by omega):=by rw[eJ,dn (by omega)];rfl
  have yG:=G.nm (hs[0]'(by omega)) (so _);have apJ:=G.nm u (eK nc);have ME:ao.hb (cE hs) 0=some (V.str (S (hs[0]'(by omega)))):=by have:=iI (show(cE hs)[0]?=some (V.str (S (hs[0]'(by omega)))) by unfold cE;rw[c6,dn (by omega)];rfl);exact this
  generalize hs[0]'(by omega)=nJ at yG ME;refine⟨_,rfl,_,rfl,_,_,rfl,rfl,⟨by decide,by decide⟩,_,rfl,d0,_,rfl,.inl (aG.of aR),_,_,rfl,rfl,pos,d0,_,_,_,rfl,rfl,aG.of aR,Bf,?_⟩;refine⟨_,rfl,_,rfl,_,_,rfl,rfl,?_,_,rfl,d0,_,_,_,rfl,rfl,aG.of aR,ME,_,rfl,d0,_,_,_,rfl,rfl,aG.of aR,ME,_,_,rfl,rfl,?_,_,_,rfl,rfl,?_,(by show 4<=sizeLine;decide),λhQ pA=>?_⟩
  .have:=apJ.2.1;rw[qJ];exact nS (eM (by show _+1<=1000;omega))
  .have:=yG.2.1;rw[qJ];exact nS (eM (by omega))
  .have:=yG.2.1;rw[wB,qJ,ig];exact nS (eM (by show _+8<=1000;omega))
  obtain⟨g,Mp,dv,je⟩:∃g:Str,ao.hb [V.str (S u),V.str (eH ""),V.str (S u++eH "A"),V.str (S nJ++S nJ++eH "aaaaaaaa")] (n/64%4)=some (.str g)/\(∀H,dm H (.str g) (.str g))/\(g∈hs.map S->g=S u):=by
   have aor:0<=n/64%4:=ie _ (by decide);have OM:n/64%4<4:=lI _ (by decide);have:n/64%4=0\/n/64%4=1\/n/64%4=2\/n/64%4=3:=by omega
   have pb:eH ""=S []:=by decide+kernel
   have au:eH "aaaaaaaa"=S [97,97,97,97,97,97,97,97]:=by decide+kernel
   rcases this with e|e|e|e
   .exact⟨_,by rw[e];exact iI (j:=0) rfl,λ_=>kk G bO,λ_=>rfl⟩
   .refine⟨_,by rw[e];exact iI (j:=1) rfl,by rw[pb];exact Lf (by simp) (by decide),λz=>?_⟩;obtain⟨y,cM,aB⟩:=cn.mp z;rw[pb]at aB;have:=(G.nm y cM).1;rw[tY aB]at this;simp at this
   .exact⟨_,by rw[e];exact iI (j:=2) rfl,yR.2.1,λz=>bE z yR.1⟩
   .refine⟨_,by rw[e];exact iI (j:=3) rfl,?_,λz=>?_⟩
    .rw[au,wB,wB];refine Lf (λy cM=>?_) (by rw[ig,ig];have:=yG.2.1;show _+_+8<=50;omega);rcases hX.mp cM with cM|cM
     .rcases hX.mp cM with cM|cM<;>(have:=yG.2.2 y cM;omega)
     .have:∀x∈[97,97,97,97,97,97,97,97],x<128:=by decide
      exact this y cM
    .obtain⟨y,cM,aB⟩:=cn.mp z;rw[au,wB,wB]at aB;have kI:=(G.nm y cM).2.1;rw[tY aB,ig,ig]at kI;have:=yG.1;have kI:nJ.length+nJ.length+8<=8:=kI;omega
  have SK:hc (bN hs) (.str (S u)) (.str g)=false:=wM.mpr λz=>by obtain⟨bV,bD⟩:=Ĥ z;have:=je bD;rw[this]at z;unfold hc at z;rw[T9,cq rfl]at z;simp at z
  have s1:=bU (o:=.lst [V.str (S u),V.str (eH ""),V.str (S u++eH "A"),V.str (S nJ++S nJ++eH "aaaaaaaa")]) pA;refine⟨_,rfl,_,_,rfl,rfl,⟨by decide,by decide⟩,_,_,rfl,rfl,(by show(0:Int)<4;decide),hQ,_,_,_,rfl,rfl,aG.of aQ,Mp,?_⟩;generalize upd H hQ (.lst [V.str (S u),V.str (eH ""),V.str (S u++eH "A"),V.str (S nJ++S nJ++eH "aaaaaaaa")])=H1 at s1⊢;have te:=s1 _ _ hd;have aty:=s1 _ _ aR;have tR:(0:Int)<10 ^ (6:Int).toNat:=by decide
  refine⟨_,rfl,cF,_,rfl,.inl (aG.of te),_,rfl,_,_,rfl,rfl,⟨by decide,by decide⟩,_,_,rfl,rfl,⟨by decide,by decide,by decide⟩,_,_,rfl,rfl,tR,_,_,rfl,rfl,_,rfl,_,rfl,_,_,rfl,rfl,⟨by decide,by decide⟩,_,_,rfl,rfl,⟨by decide,by decide,by decide⟩,_,_,rfl,rfl,tR,_,_,rfl,rfl,(by show 2<=sizeLine;decide),λgN kT=>?_⟩;have oA:0<=n/512%10 ^ (6:Int).toNat:=ie _ (by decide);generalize n/512%10 ^ (6:Int).toNat=x' at oA kT⊢;obtain⟨fI,arr,MI⟩:∃fI:Int,ao.hb [V.int (((aH rs).length:Int)+x'),V.int (-1-x')] (n/256%2)=some (.int fI)/\¬(0<=fI/\fI<ds.length):=by
   have aor:0<=n/256%2:=ie _ (by decide);have OM:n/256%2<2:=lI _ (by decide);have:n/256%2=0\/n/256%2=1:=by omega
   rcases this with e|e
   .exact⟨_,by rw[e];exact iI (j:=0) rfl,by omega⟩
   .exact⟨_,by rw[e];exact iI (j:=1) rfl,by omega⟩
  have s2:=bU (o:=.lst [V.int (((aH rs).length:Int)+x'),V.int (-1-x')]) kT;refine⟨_,rfl,_,_,rfl,rfl,⟨by decide,by decide⟩,_,_,rfl,rfl,(by show(0:Int)<2;decide),gN,_,_,_,rfl,rfl,aG.of aQ,arr,?_⟩;have gw:=s1.trans s2;generalize upd H1 gN (.lst [V.int (((aH rs).length:Int)+x'),V.int (-1-x')])=ah at gw⊢;have qr:=gw _ _ aR;have hd2:=gw _ _ hd;refine⟨_,rfl,_,rfl,_,_,rfl,rfl,⟨by decide,by decide⟩,_,_,rfl,rfl,_,rfl,d0,_,rfl,.inl (aG.of qr),_,_,rfl,rfl,pos,d0,_,_,_,rfl,rfl,aG.of qr,Bg,?_⟩;dsimp only[lz,qZ,Ez,hJ];have CA:=Rr.same (D.b'.trans gw);have yg:=CA.len;have item:∀(i:Nat)(v:ao.V),((d_ (aH rs).length).map λi:Nat=>V.int ((0:Int)+(i:Int)))[i]?=some v->∃r d,v=.int ((0:Int)+(i:Int))/\rs[i]?=some r/\ds[i]?=some d/\ah r=some (.tup (lB hs d)):=λi v ev=>by rw[c6]at ev;obtain⟨j,e1,rfl⟩:=fL.mp ev;obtain⟨ar,e⟩:=eG.mp e1;rw[jG]at ar;rw[xC]at e;subst e;have gb:rs[i]?=some rs[i]:=dn (by omega);obtain⟨d,dS,_,hd⟩:=CA.get gb;exact⟨_,d,rfl,gb,dS,hd⟩
  refine Wn (J:=nO 0 (aH rs).length) (H1:=ah) (xs:=(d_ (aH rs).length).map λi:Nat=>V.int ((0:Int)+(i:Int))) (rest:=[some (.str (S u)),some (.ref cF)]) (λR h=>⟨_,rfl,cF,_,rfl,.inl (aG.of hd2),_,rfl,(by show -(2 ^ 62)<=((aH rs).length:Int);omega),(by show((aH rs).length:Int)<2 ^ 62;omega),h⟩) rfl (Ik 0 _) (eM (by rw[bp,jG];omega))
   (λv=>match v with|.int k=>!decide (V.str (S (hs.getD (ds.getD k.toNat fA).a []))=V.str (S u))|_=>false) (λv=>v) (λi v bg R ev aF jz=>?_) (λi v bg R ev _ aF jz=>⟨_,rfl,jz bg (aN.refl _)⟩) (λyP uq pv qh y_=>?_)
  .obtain⟨cD,d,rfl,M3,dS,mE⟩:=item i v ev;have cT:ds.getD ((0:Int)+(i:Int)).toNat fA=d:=by rw[show((0:Int)+(i:Int)).toNat=i by omega];exact vJ dS
   have Cz:∀bx,aN bg bx->R (!decide (V.str (S (hs.getD (ds.getD ((0:Int)+(i:Int)).toNat fA).a []))=V.str (S u))) bx:=jz;rw[cT]at Cz;exact⟨_,rfl,_,rfl,cF,_,_,_,rfl,rfl,aG.of (aF _ _ hd2),VT M3,cD,_,_,_,rfl,rfl,cH.of (aF _ _ mE),rfl,_,rfl,rfl,_,rfl,Cz bg (aN.refl _)⟩
  have amJ:=Ġ (aH rs).length λi=>!decide (V.str (S (hs.getD (ds.getD i fA).a []))=V.str (S u));have qh:uq yP=some (.lst ((((d_ (aH rs).length).filter λi=>!decide (V.str (S (hs.getD (ds.getD i fA).a []))=V.str (S u))).map λi:Nat=>(i:Int)).map V.int)):=by rw[qh];congr 2
  obtain⟨L,sX⟩:∃L,L=((d_ (aH rs).length).filter λi=>!decide (V.str (S (hs.getD (ds.getD i fA).a []))=V.str (S u))).map λi:Nat=>(i:Int):=⟨_,rfl⟩
  rw[<-sX]at qh;have acL:∀k∈L++[fI],k∉iA hs ds (·.a) (S u):=λk aX hm=>by
   unfold iA zf at hm;obtain⟨i,ar,rfl⟩:=cn.mp hm;obtain⟨af,ai⟩:=hC.mp ar;rcases hX.mp aX with y|y
   .rw[sX]at y;obtain⟨j,bK,e⟩:=cn.mp y;have:=J' e;subst this;have:=(hC.mp bK).2;rw[ai]at this;cases this
   .have e:=iW.mp y;have:=lK.mp af;exact MI ⟨by omega,by omega⟩
  have asF:L.length<=40:=by rw[sX,bp];exact e3 (ky _ _) (by rw[jG,eB];exact Gx)
  clear amJ item;refine⟨_,rfl,(by show 1<=sizeLine;decide),λkn tG=>?_⟩;have s4:=bU (o:=.lst [V.int fI]) tG;refine⟨yP,kn,_,_,rfl,rfl,s4 _ _ qh,aQ,nS (eM (by rw[bp];show _+1<=1000;omega)),λvc apk=>?_⟩;have s5:=bU (o:=.lst (L.map V.int++[V.int fI])) apk;have NY:upd (upd uq kn (.lst [V.int fI])) vc (.lst (L.map V.int++[V.int fI])) vc=some (.lst ((L++[fI]).map V.int)):=by rw[aQ,eW];rfl
  have fR:=gw.trans (y_.trans (s4.trans s5));generalize upd (upd uq kn (.lst [V.int fI])) vc (.lst (L.map V.int++[V.int fI]))=f6 at NY fR⊢;refine⟨_,rfl,_,_,rfl,rfl,(by show(0:Int)<8;decide),?_⟩;have wC:0<=n%8:=ie _ (by decide);have EO:n%8<8:=lI _ (by decide);generalize n%8=j7 at wC EO⊢;have lG:=D.same fR;have GY:=fR _ _ hd;have Q6:(0:Int)<((aH rs).length:Int):=by omega
  refine Vt (t:=XS _ _ _ _ _ _ _) (λcA=>(j7<3->∀(eQ:ae)(au:Addr),aN H eQ->eQ au=none->cA.b9 [some (.ref x),some (.ref d0),some (.ref cF),some (.int n),some (.str (S u)),some (.str g),some (.int fI),some (.str (S v)),some (.ref vc),some (.ref au),some (.int j7),none] (upd eQ au (ko au cN)))/\(2<j7->∀(eQ:ae)(au:Addr),aN H eQ->eQ au=none->cA.b9 [some (.ref x),some (.ref d0),some (.ref cF),some (.int n),some (.str (S u)),some (.str g),some (.int fI),some (.str (S v)),some (.ref vc),some (.ref au),some (.int j7),none] (upd eQ au (ko au dq)))) ?_ λcA rest=>?_
  .have ends:∀(l g9:Addr)(dz:ae)(f9 gn:Bool),aN H dz->dz l=none->upd dz l (.lst [.aM f9,.aM gn]) g9=none->K2 K false (.ref l) (.ref g9) (upd (upd dz l (.lst [.aM f9,.aM gn])) g9 (.lst [.aM f9,.aM gn])) Q:=λl g9 dz f9 gn e' nl vP=>by have jl:=bU (o:=.lst [.aM f9,.aM gn]) nl;have qQ:=bU (o:=.lst [.aM f9,.aM gn]) vP;refine⟨.list [.bool f9,.bool gn],.list [.bool f9,.bool gn],.lst (aG.of (qQ _ _ aQ)) (.cons (.aM _) (.cons (.aM _) .nil)),.lst (aG.of aQ) (.cons (.aM _) (.cons (.aM _) .nil)),rfl,rfl,?_⟩;refine nt (yA _ rfl) (q _ (e'.trans (jl.trans qQ)))
   refine⟨λc eQ au gd h_=>?_,λc eQ au gd h_=>?_⟩
   .have fo:upd eQ au (ko au cN) au=some (ko au cN):=aQ;have e':=gd.trans (bU (o:=ko au cN) h_);generalize upd eQ au (ko au cN)=dz at fo e'⊢;refine⟨_,rfl,au,cN,_,fo,gk.G0,.inl ⟨_,rfl,gk.an7⟩,_,rfl,gs ?_⟩;refine⟨_,rfl,au,cN,_,fo,gk.G0,.inr ⟨_,rfl,gk.aoi⟩,_,rfl,gs ?_⟩;refine⟨_,rfl,au,cN,_,fo,gk.G0,.inl ⟨_,rfl,gk.anP⟩,_,rfl,au,cN,_,fo,gk.G0,.inl ⟨_,rfl,gk.anQ⟩,(by show 2<=sizeLine;decide),λl nl=>⟨_,rfl,_,_,rfl,rfl,_,rfl,_,_,rfl,rfl,(by show 2<=sizeLine;decide),λg9 vP=>?_⟩⟩;rw[show decide (j7<3)=true from cq c,show decide (j7>2)=false from dF (by omega)];exact ends l g9 dz _ _ e' nl vP
   .have fo:upd eQ au (ko au dq) au=some (ko au dq):=aQ;have e':=gd.trans (bU (o:=ko au dq) h_);generalize upd eQ au (ko au dq)=dz at fo e'⊢;refine⟨_,rfl,au,dq,_,fo,gk.It,.inl ⟨_,rfl,gk.aqp⟩,_,rfl,gs ?_⟩;refine⟨_,rfl,au,dq,_,fo,gk.It,.inr ⟨_,rfl,gk.aqq⟩,_,rfl,gs ?_⟩;refine⟨_,rfl,au,dq,_,fo,gk.It,.inl ⟨_,rfl,gk.aql⟩,_,rfl,au,dq,_,fo,gk.It,.inl ⟨_,rfl,gk.aqm⟩,(by show 2<=sizeLine;decide),λl nl=>⟨_,rfl,_,_,rfl,rfl,_,rfl,_,_,rfl,rfl,(by show 2<=sizeLine;decide),λg9 vP=>?_⟩⟩;rw[show decide (j7<3)=false from dF (by omega),show decide (j7>2)=true from cq c];exact ends l g9 dz _ _ e' nl vP
  .refine⟨_,rfl,_,_,rfl,rfl,_,rfl,nC (λc=>?_) (λc=>?_)⟩
   .have lt:j7<3:=by have:=jk c;omega
    exact⟨_,rfl,x,A.ag,_,rfl,lG.ins,rfl,_,rfl,_,rfl,_,rfl,_,_,rfl,rfl,⟨by decide,by decide⟩,_,rfl,cF,_,rfl,.inl (aG.of GY),_,_,rfl,rfl,Q6,a9,x,A,hs,ds,s,S u,g,_,rfl,lG,G,eE,λ_=>kk G bO,dv,eM (by omega),λz=>bE (SK.symm.trans z) (by decide),λ_ eQ gd=>⟨cN,rfl,gk.dy,.inl ⟨gk.dy,λau h_=>⟨_,rfl,rest.1 lt eQ au (fR.trans gd) h_⟩⟩⟩,λz=>bE (SK.symm.trans z) (by decide)⟩
   refine⟨_,rfl,rfl,_,rfl,nC (λc2=>?_) (λc2=>?_)⟩
   .have lt:j7<3:=by have:=V.int.inj (jk c2);omega
    exact⟨_,rfl,x,A.ag,_,rfl,lG.ins,rfl,_,rfl,_,rfl,a9,x,A,hs,ds,s,S u,g,rfl,lG,G,λ_=>kk G bO,dv,λz=>bE (SK.symm.trans z) (by decide),λ_ eQ gd=>⟨cN,rfl,gk.dy,.inl ⟨gk.dy,λau h_=>⟨_,rfl,rest.1 lt eQ au (fR.trans gd) h_⟩⟩⟩⟩
   have gt:2<j7:=by have c1:¬j7<2:=λz=>c (cq z);have c2:j7≠2:=λz=>c2 (cq (hh V.int z));omega
   refine⟨_,rfl,_,_,rfl,rfl,_,rfl,nC (λm7=>?_) (λm7=>?_)⟩
   .obtain⟨bT,Mx,en⟩:=rM V.int (L:=L++[fI]) (by simp) (n/512);have no:=acL bT (eK en);have ap0:(0:Int)<(((L++[fI]).map V.int).length:Int):=by rw[bp,ig];show(0:Int)<((L.length+1:Nat):Int);omega
    exact⟨_,rfl,x,A.ag,_,rfl,lG.ins,rfl,_,rfl,_,rfl,_,rfl,_,rfl,_,_,rfl,rfl,⟨by decide,by decide⟩,_,rfl,vc,_,rfl,.inl (aG.of NY),_,_,rfl,rfl,ap0,vc,_,_,_,rfl,rfl,aG.of NY,Mx,a9,x,A,hs,ds,s,S u,S v,bT,rfl,lG,G,eE,λ_=>kk G bO,λ_=>kk G fv,eM (by omega),λ_ z=>bE z no,λz=>bE (un.symm.trans z) (by decide),λ_ _ eQ gd=>⟨dq,rfl,gk.fI,.inr ⟨gk.Rt,gk.fI,λau h_=>⟨_,rfl,rest.2 gt eQ au (fR.trans gd) h_⟩⟩⟩⟩
   refine⟨_,rfl,rfl,_,rfl,nC (λBk=>?_) (λBk=>?_)⟩
   .exact⟨_,rfl,x,A.ag,_,rfl,lG.ins,rfl,_,rfl,a9,x,A,hs,ds,s,fI,rfl,lG,bj,λr e aq=>bE ⟨by omega,by omega⟩ MI,λ_ eQ gd=>⟨dq,rfl,gk.fI,.inr ⟨gk.Rt,gk.fI,λau h_=>⟨_,rfl,rest.2 gt eQ au (fR.trans gd) h_⟩⟩⟩⟩
   .exact⟨_,rfl,x,A.ag,_,rfl,lG.ins,rfl,_,rfl,a9,x,A,hs,ds,s,fI,rfl,lG,bj,λr e aq=>bE ⟨by omega,by omega⟩ MI,λ_ eQ gd=>⟨dq,rfl,gk.fI,.inr ⟨gk.Rt,gk.fI,λau h_=>⟨_,rfl,rest.2 gt eQ au (fR.trans gd) h_⟩⟩⟩⟩
unseal fM bh fN fV
inductive aiT(C:Addr)(vs:aY)(H:ae)(Q:a')(bI:b2):Prop where
 |mk (x ag n t:Addr) (rs:List Row) (bV:vs=[.ref x]) (bD:H x=some (.ins C ag (oo n t))) (b_:H t=some (.c4 (f_ rs))) (c_:rs.length<64) (d1:∀(l:Addr)(H':ae)(ts:bS),H l=none->aN H H'->H' l=some (.lst (gM .bl (l2 (rs.map sg)) (aH ts)))->d7 H' ts (rs.map lA)->Q (.ref l) H')
noncomputable def Li(C:Addr):cG:=λvs H Q bI=>aiT C vs H Q bI
noncomputable abbrev En:Stmt:=gL (top 38) 5
theorem aiY:dw ["self"] ["self"] (c3 En):=⟨rfl,rfl,rfl,by decide+kernel,rfl,by decide+kernel,by decide+kernel⟩
theorem aiU{C f:Addr}{fd:cz}(F:bw K "pairs" "Ways.pairs" En f fd)(B:gg mg)(da:qK K C):aL P w K mg base a5 1 f fd ["self"] (Li C):=by
 refine F.ok aiY (λvs H Q E h=>?_) (λcdv A outer s H vs Q E aq h=>?_)
 .obtain⟨x,ag,n,t,rs,rfl,_⟩:=h;rfl
 .obtain⟨x,ag,n,t,rs,rfl,av,df,eE,q⟩:=h;refine⟨_,(bo (c7 (dB PY (by rfl) B.sorted yu (ak (aih (tW (N':=["pair","road"]) (cs:=[none,none]) rfl (acS (eR (U 0) (by rfl))) rfl (by decide+kernel) rfl (by decide+kernel) (lq (λp aR=>bE aR (eA))) rfl
    (.own (.own .nil))
    (λC s3 bg cb e9=>⟨(D2 (K:=K) (n:=2) rfl rfl (h3 (ei (i:=0) (by show(["pair","road"]:cf).Nodup;decide+kernel) rfl (.inl rfl)) (h3 (ei (i:=1) (by show(["pair","road"]:cf).Nodup;decide+kernel) rfl (.inl rfl)) pj))),qv,(i1 (ak (cp (vG (K:=K) rfl) (U 0) aW (λ_ _=>rfl)) (ak (cp (vG (K:=K) rfl) (U 0) aW (λ_ _=>rfl)) (ak (U 1) aD))))⟩))) aD)))),?_⟩
  have rl:(f_ rs).length=rs.length:=by unfold f_;rw[bp]
  have yN:x≠t:=λz=>by rw[z,df]at av;cases av
  dsimp only[Av,tV,rS];refine⟨t,f_ rs,df,λo=>?_⟩;have fQ:upd H t (.eF o (.c4 (f_ rs))) x=some (.ins C ag (oo n t)):=by rw[aA yN];exact av
  refine abW (H1:=upd H t (.eF o (.c4 (f_ rs)))) (a:=t) (o:=o) (kvs:=f_ rs) (rest:=[]) (λR h=>⟨_,rfl,x,C,ag,_,_,rfl,fQ,da.cl,da.dK,rfl,t,o,_,rfl,aQ,h⟩) rfl aQ (eM (by omega)) (λi=>lA (rs.getD i r0)) (λi k q5 b ah R en aF aa jz=>?_) (λD H1 ts qD bN c' ý=>?_)
  .unfold f_ at en;rw[c6]at en;obtain⟨r,gb,aB⟩:=fL.mp en;cases aB;rw[tZ gb]at jz;exact⟨_,rfl,b,_,_,_,rfl,rfl,cH.of aa,rfl,_,rfl,b,_,_,_,rfl,rfl,cH.of aa,rfl,_,rfl,(by show 3<=sizeLine;decide),λz QJ=>jz z _ (bU QJ) aQ⟩
  .have aq9:(d_ (f_ rs).length).map (λi=>lA (rs.getD i r0))=rs.map lA:=by rw[rl];exact range_getD lA r0 rs
   rw[aq9]at c';have am4:D≠t:=λz=>by rw[z,aQ]at qD;cases qD
   have yp:=ý _ _ (aQ (H:=H) (a:=t) (o:=.eF o (.c4 (f_ rs))));have sB:aN H (upd H1 t (.c4 (f_ rs))):=λb v e=>by
    by_cases aa:b=t
    .rw[aa]at e⊢;rw[aQ,<-e,df]
    .rw[aA aa];exact ý _ _ (by rw[aA aa];exact e)
   have IL:d7 (upd H1 t (.c4 (f_ rs))) ts (rs.map lA):=c'.upd yp (by intro d z;cases z);have dk:=c'.len;rw[bp]at dk;refine⟨yp,D,ts,rs.map sg,false,[false,true],rfl,aG.of (by rw[aA am4];exact bN),abX IL,by omega,row_shape rs,λl nl=>?_⟩;have bj:=bU (o:=.lst (gM V.bl (l2 (rs.map sg)) (ts.map V.ref))) nl;refine q l _ ts ?_ (sB.trans bj) aQ (IL.same bj);cases e:H l with
   |none=>rfl
   |some u=>rw[sB _ _ e]at nl;cases nl
theorem aiu{hs:br}{ds:bZ}(R:∀d∈ds,d.Ok hs.length):∀e∈jN hs ds,1<=e.t:=λe he=>by obtain⟨d,hd,rfl⟩:=cn.mp he;exact(R d hd).t.1
theorem afm{hs:br}{ds:bZ}(R:∀d∈ds,d.Ok hs.length){h g:Str}{v:Int}(bC:jZ hs ds h g=some v)(aS:h≠g):
  ∃(k:Nat)(d:dp.gm)(u:Int),best hs ds h g=(k:Int)/\ds[k]?=some d/\S (hs.getD d.a [])=h/\jZ hs ds (S (hs.getD d.b [])) g=some u/\(d.t:Int)+u=v:=by
 obtain⟨m,f⟩:=UP (aiu R) bC aS;obtain⟨i,ar⟩:=AE (cn.mpr ⟨_,m,rfl⟩:V.int (best hs ds h g)∈(iA hs ds (·.a) h).map V.int);obtain⟨k,d,aE,aB,cJ⟩:=Vd ar;have pa:best hs ds h g=(k:Int):=V.int.inj aE;rw[pa]at f;unfold sh uR IK at f;rw[nN,vJ aB]at f;cases b8:jZ hs ds (S (hs.getD d.b [])) g with
 |none=>rw[b8]at f;cases f
 |some u=>
  rw[b8,bC]at f;have:=jk f;exact⟨k,d,u,pa,aB,cJ,b8,hY this⟩
theorem S_{κ:Type}[DecidableEq κ]{kvs:List (κ×ao.V)}{k:κ}{v:ao.V}(h:ck kvs k=some v):k∈kvs.map (·.1):=by obtain⟨j,x,e⟩:=ŗ (show(ck kvs k).isSome=true by rw[h];rfl);exact cn.mpr ⟨_,eK e,rfl⟩
end
theorem vA.get{hs:br}{ds:bZ}{kvs:eV}(T:vA hs ds kvs){k:List a7}{v:ao.V}(e:ck kvs k=some v):∃h g,k=f3 h g/\h∈hs.map S/\g∈hs.map S/\h≠g/\(jZ hs ds h g).isSome=true/\v=.int (best hs ds h g):=by
 obtain⟨h,g,rfl,ny,mg⟩:=T.lb.key k (S_ e);by_cases m:h∈hs.map S/\h≠g/\(jZ hs ds h g).isSome=true
 .have:=T.lb.yes h g m;rw[e]at this;exact⟨h,g,rfl,ny,mg,m.2.1,m.2.2,hY this⟩
 .rw[T.lb.no h g m]at e;cases e
theorem vA.ok{hs:br}{ds:bZ}{kvs:eV}(T:vA hs ds kvs)(R:∀d∈ds,d.Ok hs.length):Bb kvs ds.length:=⟨λk v e=>by
 obtain⟨h,g,rfl,ny,mg,ne,is,rfl⟩:=T.get e;obtain⟨u,b8⟩:=uA.mp is;obtain⟨i,d,_,aE,aB,_⟩:=afm R b8 ne;exact⟨i,by rw[aE],(eG.mp aB).1⟩⟩
theorem U'{α:Type}{l:List α}{a:α}(p:l.Perm [a]):l=[a]:=List.perm_singleton.mp p
theorem afn{ds:bZ}{s:cX}{r:Nat}(aq:r<ds.length)(jA:1<=iv ds r)(amT:(hr s).filter (ir s)=[0])(due:iP s.aI 0<=s.pr)(rd:iw s.kvs (dW s.ba) s.aI 0=r)(cV:s.fS=[]):gK ds s=[((s.pr,r),[0])]:=by
 have q:∀cD,eS (iP s.aI) (iw s.kvs (dW s.ba) s.aI) s.pr [0] cD=if cD=r then[(iP s.aI 0,0)]else[]:=λcD=>by
  unfold eS;by_cases e:cD=r
  .rw[bL e,e];simp[due,rd]
  .rw[bF e];have cm:¬r=cD:=λz=>e z.symm;simp[rd,cm]
 unfold gK oj;rw[amT,cV,<-Vi (m:=ds.length) (rl:=[r]) (λk aX=>by rw[iW.mp aX,rd];exact aq) (by simp) (λcD=>by rw[q];by_cases e:cD=r<;>simp[e])];have b:hK ds (iP s.aI) (iw s.kvs (dW s.ba) s.aI) s.pr [0] r=((s.pr,r),[0]):=by unfold hK q3;rw[q,bL rfl,U' (vg _),WN (by simp;omega)];show((s.pr,r),fz [0])=_;rw[U' (vx _)]
 show WE _ [hK ds _ _ _ _ r]=_;rw[b];simp
noncomputable def zC(r:Row):PyData:=.tuple [.str r.1,.str r.2.1,.int r.2.2]
theorem U_{K:aU}{H:ae}:∀{ts:bS}{rs:List Row},d7 H ts (rs.map lA)->oS K H (aH ts) (rs.map zC)
 |[],[],_=>.nil
 |_::_,_::_,.cons h t=>.cons (.tup (cH.of h) (.cons (.str _) (.cons (.str _) (.cons (.int _) .nil)))) (U_ t)
theorem adD{rs:List Row}(h:∀r∈rs,oZ (.str r.1)=true/\oZ (.str r.2.1)=true):(FP (rs.map zC)).canLay0=true:=D3 λx av=>by
 obtain⟨r,aq,rfl⟩:=cn.mp av;show pX [.str r.1,.str r.2.1,.int r.2.2]=true;refine D3 λy cM=>?_;simp only[dA,eA,or_false]at cM;rcases cM with rfl|rfl|rfl
 .exact(h r aq).1
 .exact(h r aq).2
 .rfl
theorem adE{rs:List Row}(h:∀r∈rs,oZ (.str r.1)=true/\oZ (.str r.2.1)=true):p1 (.list (rs.map zC))=true:=vy (n:=2) (adD h) (X7 λx av=>by
 obtain⟨r,_,rfl⟩:=cn.mp av;exact(show(zC r).depth<=1 from cj _)) (by decide)
theorem Xf{hs:br}(G:Good hs){c:Str}(h:c∈hs.map S):oZ (.str c)=true:=by obtain⟨x,av,rfl⟩:=cn.mp h;exact Io (G.nm x av)
structure Ys(hs:br)(ds:bZ)(r:Row):Prop where
 h:r.1∈hs.map S
 g:r.2.1∈hs.map S
 ne:r.1≠r.2.1
 k:∃n:Nat,r.2.2=(n:Int)/\n<ds.length
 w:∀kvs,vA hs ds kvs->ck kvs (f3 r.1 r.2.1)=some (.int r.2.2)
section
variable{P:bJ}{w:bq}{K:aU}{mg:cB}{base:Heap}
noncomputable abbrev Eg:Stmt:=top 54
noncomputable abbrev ao0:List Str:=["_law_net","_law_lines","_law_pairs","_law_first","_law_n","_law_beside_here","_law_house","_law_goal","_law_road_here"]
noncomputable abbrev DO:List Str:=["_law_net","_law_lines","_law_pairs","_law_first","_law_n"]
theorem AS:dw ao0 DO (c3 Eg):=⟨rfl,rfl,rfl,by decide+kernel,rfl,by decide+kernel,by decide+kernel⟩
inductive aiv(az:Addr)(vs:aY)(H:ae)(Q:a')(E:b2):Prop where
 |mk (n cF pr bt bu:Addr) (ts:bS) (hs:br) (rs:bS) (ds:bZ) (rws:List Row) (eb nn:Int) (bV:vs=[.ref n,.ref cF,.ref pr,.int eb,.int nn]) (bD:jV az H n bt bu (cE hs) (aH rs)) (b_:Good hs) (c_:iJ H hs rs ds) (d1:rs.length<=40) (fw:H pr=some (.lst (aH ts))) (iE:d7 H ts (rws.map lA)) (k4:∀r∈rws,Ys hs ds r) (mV:0<=eb/\eb<=1000000000) (zE:ts.length<=900)
   (q6:∀H',aN H H'->Q (.aM true) H')
noncomputable def Lu(az:Addr):cG:=λvs H Q E=>aiv az vs H Q E
seal fM bh fN fV
theorem aiw{ay C aV az d6 f pe f1 f2 cv f4:Addr}{fd s8 cY d8 g8 kH:cz}(F:bw K "_law_beside" "_law_beside" Eg f fd)(B:gg mg)(fq:fp K ay)(zi:mg "Day"=some (.ref ay))(v3:nR K ay pe)(yx:rg K ay "Day.__init__" xr ["self","net","first"] pe s8)(Q':aL P w K mg base a5 5 pe s8 ["self","net","first"] (Fh ay C aV az))(n2:c0 K ay "log" "Day.log" uk ["self"] f1 cY)(Dv:aL P w K mg base a5 1 f1 cY ["self"] (zW ay C aV az))(sU:c0 K ay "letters" "Day.letters" xq ["self"] f2 d8)(PQ:aL P w K mg base a5 1 f2 d8 ["self"] (Fg ay C aV az))(n4:c0 K ay "post" "Day.post" zz ["self","house","goal"] cv g8)(C3:aL P w K mg base (mX P w) 5 cv g8 ["self","house","goal"] (Jp ay C aV az d6))(sO:c0 K ay "pass_turn" "Day.pass_turn" zA ["self"] f4 kH)(Pr:aL P w K mg base a5 6 f4 kH ["self"] (Jq K ay C aV az)):
  aL P w K mg base a5 7 f fd DO (Lu az):=by
 refine F.ok AS (λvs H Q E h=>?_) (λcdv q9 outer s0 H vs Q E aq h=>?_)
 .obtain⟨n,cF,pr,bt,bu,ts,hs,rs,ds,rws,eb,nn,rfl,_⟩:=h;rfl
 .obtain⟨n,cF,pr,bt,bu,ts,hs,rs,ds,rws,eb,nn,rfl,hi,G,R,eE,χ,c',Ea,⟨f0,f1⟩,aun,q⟩:=h;refine⟨_,(bc (c8 (i:=5) AS.aJ rfl (b5 rfl) (DX v3 Q' (aq.mono (by decide)) (by rfl) zi yx.bd .nil dj (ak (U 0) (ak (U 3) aD))))
   (bc (eO (ih.pt (om (eu (y1 aq.units) (mz (U 5) fq n2.eh Dv (aq.mono (by decide)) n2.bd .nil dj) (gJ aD) (dr _)) (pk (eu (y1 aq.units) (mz (U 5) fq sU.eh PQ (aq.mono (by decide)) sU.bd .nil dj) (gJ aD) (dr _))))) (bo (c7 hL)) fi)
   (bc (eO (eu (y0 aq.units) (U 2) (gJ aD) (dr _)) (bo (c7 hL)) fi)
   (bc (JM (cp fk (U 2) (bH eZ (U 4) (dB gH (by rfl) B.len gA (ak (U 2) aD))) (λ_ _=>rfl)) (vU rfl (h3 (ei (i:=6) AS.aJ rfl (b5 rfl)) (h3 (ei (i:=7) AS.aJ rfl (b5 rfl)) (h3 (ei (i:=8) AS.aJ rfl (b5 rfl)) pj)))))
   (bc (eO (eu wt (gZ (U 5) fq n4.eh C3 (aq.mono (by decide)) n4.bd .nil X6 (ak (U 6) (ak (U 7) aD))) aW (dr _)) (bo (c7 hL)) fi)
   (bo (c7 (iZ (y0 aq.units) (mz (U 5) fq sO.eh Pr (aq.mono (by decide)) sO.bd .nil dj) (gJ (ak (i1 (ak (U 3) (ak (U 8) (ak (i1 (ak aW aD)) aD)))) aD)) (dr _))))))))),?_⟩
  refine⟨_,rfl,_,rfl,λx ag b9 tD _=>?_⟩;have vL:aN H (upd (upd H ag (.own x)) x (.ins ay ag [])):=λb v e=>by rw[aA (bW e b9),aA (bW e tD)];exact e
  refine⟨x,ag,n,bt,bu,hs,rs,ds,eb,rfl,aQ,hi.same vL,G,R.same vL,eE,λbx gU k1 RR lF MZ M4 sD H8=>⟨rfl,?_⟩⟩;have s5:aN H bx:=RC b9 tD RR;have Cm:∀b∈gU.bO x,H b=none:=λb aa=>by
   rcases H8 b aa with rfl|h
   .exact b9
   .cases aB:H b with
    |none=>rfl
    |some o=>rw[vL _ _ aB]at h;cases h
  have D:=lF.aqh s5 MZ M4 hi R Cm;have ea:gU.ft=[]:=by have:=D.sp;cases h:gU.ft with|nil=>rfl|cons a l=>rw[h]at this;cases this
  have ep:gU.kV=[]:=by have:=D.pt;cases h:gU.kV with|nil=>rfl|cons a l=>rw[h]at this;cases this
  refine Fq ?_;refine⟨_,rfl,x,gU.ag,_,rfl,D.ins,rfl,H,x,gU,hs,ds,_,rfl,D,λl nl=>⟨e4 _,λgN kT=>?_⟩⟩;rw[ea]at kT⊢;have fR:=(bU (o:=.lst (aH [])) nl).trans (bU (o:=.lst []) kT);have amW:=bU (o:=.lst []) kT _ _ (aQ (H:=bx) (a:=l) (o:=.lst (aH [])));refine⟨.list [],.list [],.lst (aG.of amW) .nil,.lst (aG.of aQ) .nil,rfl,rfl,_,rfl,ek (IT rfl) ?_⟩;have lG:=D.same fR;generalize upd (upd bx l (.lst (aH []))) gN (.lst [])=f6 at fR lG⊢;refine⟨_,rfl,x,gU.ag,_,rfl,lG.ins,rfl,H,x,gU,hs,ds,_,rfl,lG,λkn tG=>⟨e4 _,λPI Qy=>?_⟩⟩;rw[ep]at Qy⊢;have gd:=(bU (o:=.lst (aH [])) tG).trans (bU (o:=.lst []) Qy);have amY:=bU (o:=.lst []) Qy _ _ (aQ (H:=f6) (a:=kn) (o:=.lst (aH [])));refine⟨.list [],.list [],.lst (aG.of amY) .nil,.lst (aG.of aQ) .nil,rfl,rfl,_,rfl,ek (IT rfl) ?_⟩;have Vl:=lG.same gd;have v':=(s5.trans fR).trans gd;generalize upd (upd f6 kn (.lst (aH []))) PI (.lst [])=eQ at v' Vl⊢;have ala:∀r∈rws,oZ (.str r.1)=true/\oZ (.str r.2.1)=true:=λr aq=>⟨Xf G (Ea r aq).h,Xf G (Ea r aq).g⟩
  refine⟨_,rfl,e4 _,λPJ apo=>?_⟩;have e':=bU (o:=.lst []) apo;have So:=(c'.same v').same e';have pG:=v'.trans e';have JD:=Vl.same e';refine⟨.list (rws.map zC),.list [],.lst (aG.of (pG _ _ χ)) (U_ So),.lst (aG.of aQ) .nil,adE ala,rfl,_,rfl,?_⟩;generalize upd eQ PJ (.lst [])=dz at pG JD So⊢;have sY:g_ (.list (rws.map zC)) (.list [])=rws.isEmpty:=by cases rws<;>rfl
  by_cases Oo:rws=[]
  .exact fu (by rw[sY,Oo];rfl) (q _ pG)
  refine ek (by rw[sY];cases rws with|nil=>exact bE rfl Oo|cons _ _=>rfl) ?_;have dk:=c'.len;rw[bp]at dk;have t0:0<ts.length:=by have:=AH.mpr Oo;omega
  obtain⟨tt,aj0,amE⟩:=rM V.ref (L:=ts) t0 nn;obtain⟨b7,Y6,aof⟩:=bk.get So amE;rw[c6]at Y6;obtain⟨r,gb,rfl⟩:=fL.mp Y6;have ok:=Ea r (eK gb);obtain⟨k,en,og⟩:=ok.k;have ap1:(0:Int)<((aH ts).length:Int):=by rw[eB];omega
  have ψ:=pG _ _ χ;refine⟨_,rfl,_,rfl,_,rfl,pr,_,rfl,.inl (aG.of ψ),_,_,rfl,rfl,ap1,pr,_,_,_,rfl,rfl,aG.of ψ,aj0,tt,_,rfl,cH.of aof,rfl,_,_,rfl,_,_,rfl,_,_,rfl,rfl,?_⟩;have lL:vY hs ⟨eb,[],[],[],k1,[]⟩:=⟨(λ_ h=>nomatch h),(λ_ h=>nomatch h),(λ_ h=>nomatch h)⟩
  have aov:ij (bN hs) (g5 (r.1,eb,r.2.1))=true:=I4.mpr ⟨ok.h,ok.g,ok.ne,f0,f1⟩;have p4:sa (bN hs) ((([]:m5)++[(r.1,eb,r.2.1)]).map g5):=⟨Vk lL aov,by show 1<=40;decide,by
   have:=Ī lL r.1 r.2.1;rw[show(([]:m5)++[(r.1,eb,r.2.1)])=(⟨eb,[],[],[],k1,[]⟩:cX).ba++[(r.1,(⟨eb,[],[],[],k1,[]⟩:cX).pr,r.2.1)]from rfl,this];show eb-eb<=30;omega⟩
  have rl:=R.len;have adB:mJ hs ds 0 ⟨eb,[],[],[],k1,[]⟩:=⟨rfl,by show 0<=40;decide,by omega,(λ_ h=>nomatch h),sD.ok R.ok,(λ_ h=>nomatch h),(λ_ h=>nomatch h),(λ_ h=>nomatch h),cj _⟩
  refine⟨_,rfl,x,gU.ag,_,rfl,JD.ins,rfl,_,rfl,_,rfl,H,x,gU,hs,ds,_,r.1,r.2.1,rfl,JD,G,(λ_ h=>nomatch h),(by show 0<=40;decide),rfl,λ_=>kk G ok.h,λ_=>kk G ok.g,λ_ md Uy at1 Vm=>⟨rfl,_,rfl,ek rfl ?_⟩,λna=>bE p4 na⟩;have adC:=adB.post ok.h ok.g (by show 0+1<=40;decide);refine⟨_,rfl,x,Uy.ag,_,rfl,Vm.ins,rfl,H,x,Uy,hs,ds,_,0,rfl,Vm,G,adC,(by decide),λFe ase aM ft at0 aae j0 Ð h7 g0=>?_⟩;have jA:1<=iv ds k:=by unfold iv;rw[show ds.getD k qM=ds[k] by rw[eJ,dn og];rfl];exact(R.ok _ (so og)).m.1
  have dI:jW k1 r.1 r.2.1=some k:=by have:=ok.w k1 sD;unfold jW;rw[this,en];rfl
  have akZ:gK ds (rW ⟨eb,[],[],[],k1,[]⟩ r.1 r.2.1)=[((eb,k),[0])]:=by
   refine afn og jA ?_ (xm _) ?_ rfl
   .unfold hr ir;show WE _ (WE _ [0])=[0];have aE:decide ((fZ (rW ⟨eb,[],[],[],k1,[]⟩ r.1 r.2.1).aI 0).fc≠jP (dW (rW ⟨eb,[],[],[],k1,[]⟩ r.1 r.2.1).ba) 0)=true:=cq ok.ne;have aB:(jW (rW ⟨eb,[],[],[],k1,[]⟩ r.1 r.2.1).kvs (fZ (rW ⟨eb,[],[],[],k1,[]⟩ r.1 r.2.1).aI 0).fc (jP (dW (rW ⟨eb,[],[],[],k1,[]⟩ r.1 r.2.1).ba) 0)).isSome=true:=by show(jW k1 r.1 r.2.1).isSome=true;rw[dI];rfl
    rw[lJ,bL aE,ux,lJ,bL aB,ux]
   .unfold iw;show(jW k1 r.1 r.2.1).getD 0=k;rw[dI];rfl
  rw[akZ]at g0;refine⟨_,rfl,_,rfl,(by show 1<=sizeLine;decide),λc g6=>⟨(by show 3<=sizeLine;decide),λej ou=>⟨(by show 1<=sizeLine;decide),λtr apr=>?_⟩⟩⟩;have Eb:=bU (o:=.tup [V.int 0]) g6;have gw:=bU (o:=.tup [V.int eb,V.int r.2.2,V.ref c]) ou;have j1:=bU (o:=.lst [V.ref ej]) apr;have akH:bk (hq (upd (upd (upd Fe c (.tup [V.int 0])) ej (.tup [V.int eb,V.int r.2.2,V.ref c])) tr (.lst [V.ref ej]))) [ej] [((eb,k),[0])]:=.cons ⟨c,by rw[<-en];exact j1 _ _ aQ,j1 _ _ (gw _ _ aQ)⟩ .nil;refine⟨.list ([((eb,k),[0])].map nG),.list ([((eb,k),[0])].map nG),.lst (aG.of (j1 _ _ (gw _ _ (Eb _ _ h7)))) (rI (bk.e2 g0 λ_ _ e=>((e.same Eb).same gw).same j1)),.lst (aG.of aQ) (rI akH),lw _,lw _,?_⟩;refine nt (yA _ (DK _)) (q _ λb o e=>?_);exact j1 _ _ (gw _ _ (Eb _ _ (aae.b' _ _ e)))
unseal fM bh fN fV
end
end dY
namespace cQ
open PySem PySem.Spec PyProof.Rows ao
theorem ar9:Sv (.type "list") "keys"=pure none:=by rw[arb,ak6];kernel_rfl
theorem asa:Sv (.type "list") "__getattr__"=pure none:=by rw[arb,ak6];kernel_rfl
theorem Tf:isSubtype (.type "AttributeError") (.type "AttributeError")=pure true:=by rw[isSubtype_type];kernel_rfl
theorem aaF(args:cw):yb (.type "AttributeError") args=pure .none:=by
 have:((Manifest.find? "AttributeError").elim false λt=>t.mro.contains "StopIteration"||t.mro.contains "SystemExit")=false:=by decide+kernel
 simp only[yb,this];rfl
section
variable{prog:bJ}{w:bq}{A:cW}{E:cx}{h:Heap}{g:Array GenState}{d:Drawn}{t:Nat}{os:OsState}{a:Addr}
theorem aaG{α:Type}{Q:α->aC->Prop}{o:Value}{name msg:Str}(dy:A.handled=none)(hm:msg.length<=sizeLine)(aT:∀h' t' e,(∀b u,h.get? b=some u->h'.get? b=some u)->(∃u,h'.get? e=some u/\u.cls=.type "AttributeError")->E (.ref e) ⟨h',g,d,t',os⟩):
  aO (a6 prog w) A (aqf o name msg:Sem α) Q E ⟨h,g,d,t,os⟩:=by
 unfold aqf;refine aw (wpAny_mkStr (aw ?_) hm);unfold HO newTuple;refine aw (oK ?_);refine aw (m:=yb _ _) (wG (aaF _) ?_);refine oK ?_;have sub:=Tf;generalize jQ:h.push {cls:=.type "tuple",data:=.seq #[.str msg t]}=af;have k1:∀b u,h.get? b=some u->af.get? b=some u:=λb u e=>by rw[<-jQ];exact dG _ e
 have he:(af.push {cls:=.type "AttributeError",data:=.fields #[.ref h.objs.size,.none,.none,.none,.bool false,.none,EG,EG]}).get? af.objs.size=some {cls:=.type "AttributeError",data:=.fields #[.ref h.objs.size,.none,.none,.none,.bool false,.none,EG,EG]}:=gi _ rfl;dsimp only;have ZR:∀a4,A9 ⟨af.push {cls:=.type "AttributeError",data:=.fields #[.ref h.objs.size,.none,.none,.none,.bool false,.none,EG,EG]},g,d,a4,os⟩ (.ref af.objs.size) "AttributeError":=λa4=>⟨_,he,rfl⟩
 refine aw (Tq ?_);dsimp only;refine aw ?_;unfold noteAttr;refine aw ?_;unfold lacksNameAndObj;refine aw (To (ZR _) sub ?_);refine aw (wpAny_load he ?_);change aO (a6 prog w) A (pure true) _ _ _;refine bf ?_;have ats:=ZR (t+1+1)
 repeat (any_goals (first|assumption|wp_step))
 refine arQ dy (aT _ _ _ (λb u e=>?_) ⟨_,oT _ he rfl,rfl⟩);refine Heap.get?_update_of_ne _ (λz=>?_) (dG _ (k1 b u e));have:=dD (k1 b u e);rw[z]at this;exact pU _ this
variable{items:ka}{n:Nat}{bj:jI}
theorem aaH{a4:Tok}{Q:Fin->aC->Prop}(dy:A.handled=none)(av:h.get? a=some ⟨.type "list",none,.seq items n,bj⟩)(aT:∀h' t' e,(∀b u,h.get? b=some u->h'.get? b=some u)->(∃u,h'.get? e=some u/\u.cls=.type "AttributeError")->E (.ref e) ⟨h',g,d,t',os⟩):
  aO (a6 prog w) A (Builtin.«object.__getattribute__» ⟨[.ref a,.str "keys" a4],[]⟩) Q E ⟨h,g,d,t,os⟩:=by
 have jQ:(⟨h,g,d,t,os⟩:aC).TypeIs (.ref a) "list":=⟨_,av,rfl⟩
 have f4:=ar9
 repeat (any_goals (first|assumption|wp_step))
 refine aaG dy ?_ aT;exact nS (nT (show _<=100 by decide+kernel) (by rw[pH];decide))
theorem abx{a4:Tok}{R:m3->aC->Prop}(dy:A.handled=none)(av:h.get? a=some ⟨.type "list",none,.seq items n,bj⟩)(aT:∀h' t' e,(∀b u,h.get? b=some u->h'.get? b=some u)->(∃u,h'.get? e=some u/\u.cls=.type "AttributeError")->R (.error (.ref e)) ⟨h',g,d,t',os⟩):
  jJ (a6 prog w) A (.call (.builtin "list.__getattribute__") ⟨[.ref a,.str "keys" a4],[]⟩) R ⟨h,g,d,t,os⟩:=
 uZ F.slot_list_getattribute.plain F.entry_list_ga (F.slot_list_getattribute.check _ _ _ _ _ _ _ _ (show(⟨h,g,d,t,os⟩:aC).TypeIs (.ref a) "list" from⟨_,av,rfl⟩) (F.args_list_getattribute_2 _ _) (aaH (by simp[dy]) av aT))
theorem afo{a4:Tok}{Q:cx}(dy:A.handled=none)(av:h.get? a=some ⟨.type "list",none,.seq items n,bj⟩)(aT:∀h' t' e,(∀b u,h.get? b=some u->h'.get? b=some u)->(∃u,h'.get? e=some u/\u.cls=.type "AttributeError")->E (.ref e) ⟨h',g,d,t',os⟩):aO (a6 prog w) A (Nj (.ref a) (.str "keys" a4) false) Q E ⟨h,g,d,t,os⟩:=by
 have jQ:(⟨h,g,d,t,os⟩:aC).TypeIs (.ref a) "list":=⟨_,av,rfl⟩
 have f2:=F.slot_list_getattribute.lookup;have cv:=F.slot_list_getattribute.bind (.ref a)
 repeat (any_goals (first|assumption|wp_step))
 refine abx dy av λh' t' e k b8=>?_;obtain⟨u,OD,OE⟩:=id b8;have atr:(⟨h',g,d,t',os⟩:aC).TypeIs (.ref e) "AttributeError":=⟨_,OD,OE⟩
 have sub:=Tf;have lk:=asa
 repeat (any_goals (first|assumption|wp_step))
 exact aT h' t' e k b8
theorem abA{Q:Option Value->aC->Prop}(dy:A.handled=none)(av:h.get? a=some ⟨.type "list",none,.seq items n,bj⟩)(aT:∀h' t',(∀b u,h.get? b=some u->h'.get? b=some u)->Q none ⟨h',g,d,t',os⟩):aO (a6 prog w) A (Ni (.ref a) "keys") Q E ⟨h,g,d,t,os⟩:=by unfold Ni getAttrBy?;refine aw (Tq (aw (zp ?_)));refine afo dy av λh' t' e k b8=>?_;obtain⟨u,OD,OE⟩:=b8;refine aw (To (⟨_,OD,OE⟩:A9 ⟨h',g,d,t',os⟩ (.ref e) "AttributeError") Tf ?_);exact bf (aT h' t' k)
theorem È:entryFor table "dict.update.loop"=some Builtin.«dict.update.loop»:=entryFor_of_tree (by kernel_rfl)
theorem Hn:plainId "dict.update.loop"=true:=by decide+kernel
noncomputable abbrev xJ:=Addr×List a7×Addr×Value
end
noncomputable def tK(P:bJ)(w:bq)(h:Heap)(q:xJ):Prop:=(∃o nn,h.get? q.1=some o/\o.cls=.type "tuple"/\o.data=.seq #[.ref q.2.2.1,q.2.2.2] nn)/\(l8 (f' P w)).is h q.2.1 q.2.2.1
noncomputable def stH(xs:List (List a7×Addr×Value))(ps:List xJ):List (List a7×Addr×Value):=ps.foldl (λxs q=>we xs q.2.1 q.2.2.1 q.2.2.2) xs
theorem abB(xs:List (List a7×Addr×Value))(k:List a7)(a:Addr)(v:Value):(we xs k a v).length<=xs.length+1:=by
 unfold we;split
 .rw[bp];omega
 .rw[ig];exact cj _
theorem abC{xs:List (List a7×Addr×Value)}{k:List a7}{a:Addr}{v:Value}{x:List a7×Addr×Value}(h:x∈we xs k a v):x.2.1=a\/∃y∈xs,x.2.1=y.2.1:=by
 unfold we at h;split at h
 .obtain⟨y,cM,rfl⟩:=cn.mp h;refine .inr ⟨y,cM,?_⟩;unfold putAt;split<;>rfl
 .rcases hX.mp h with y|y
  .exact .inr ⟨x,y,rfl⟩
  .rw[iW.mp y];exact .inl rfl
theorem tK.keep{P:bJ}{w:bq}{h h':Heap}{q:xJ}(p:tK P w h q)(k:∀b u,b=q.1\/b=q.2.2.1->h.get? b=some u->h'.get? b=some u):tK P w h' q:=by obtain⟨⟨o,nn,af,ai,bR⟩,kU,its,dC,cS,dX,kg,qh⟩:=p;exact⟨⟨o,nn,k _ _ (.inl rfl) af,ai,bR⟩,kU,its,dC,k _ _ (.inr rfl) cS,dX,kg,qh⟩
theorem aaI{prog:bJ}{w:bq}{A:cW}{R:m3->aC->Prop}{I:Addr}{cb wr:bS}{n:Nat}{Pv:Nat->Value->Prop}{A':Nat->Heap->Prop}(W:sG prog w A.in1 I cb wr n Pv A')(d:Addr)(qm:d∉cb)(b8:A.in1.units<cLine)(ps:List xJ)(aS:ps.length=n)(CU:∀i v,Pv i v->∃q,ps[i]?=some q/\v=.ref q.1)(hO:∀q∈ps,(q.1≠d/\q.1∉wr)/\q.2.2.1≠d/\q.2.2.1∉wr):∀(k i:Nat)(s:aC)(xs:List (List a7×Addr×Value)),n-i=k->i<=n->A' i s.heap->s.heap.DictOfH (l8 (f' prog w)) d xs->xs.length+k<=sizeLine->(∀x∈xs,x.2.1∉wr)->
   (∀q∈ps,tK prog w s.heap q)->
   (∀h' a4,(∀b o,b≠d->b∉wr->s.heap.get? b=some o->h'.get? b=some o)->h'.DictOfH (l8 (f' prog w)) d (stH xs (ps.drop i))->R (.ok (.ret .none)) {s with heap:=h',toks:=a4})->
   jJ (a6 prog w) A (.builtin "dict.update.loop" ⟨[.ref d,.ref I,oC (i:Int),.none],[]⟩) R s:=by
 have anv:d∉wr:=λz=>qm (W.sub _ z);have stays:∀{h h':Heap}{xs:List (List a7×Addr×Value)},(∀b o,b∉wr->h.get? b=some o->h'.get? b=some o)->h.DictOfH (l8 (f' prog w)) d xs->(∀x∈xs,x.2.1∉wr)->h'.DictOfH (l8 (f' prog w)) d xs:=λ{h h' xs}bT⟨o,es,ep,aZ,cg,d5,pE,v5,v7⟩av=>⟨o,es,ep,bT d o anv aZ,cg,d5,pE,λx m=>by
  obtain⟨kU,its,dC,cS,dX⟩:=v5 x m;exact⟨kU,its,dC,bT _ _ (av x m) cS,dX⟩,v7⟩
 intro k
 induction k with
 |zero=>
  intro i s xs aX ar st fD hz av aR cO;obtain rfl:i=n:=by omega
  refine mx È ?_;rw[nL Hn _];show aO _ A.in1 (ib (.ref I) >>=_) _ _ s;refine aw (W.done s _ _ st λh' a4 bT=>?_);show aO _ A.in1 (asf d [] >>=_) _ _ _;refine aw (bf ?_);show aO _ A.in1 (ret fP) _ _ _;refine bf (cO h' a4 (λb o _ aa e=>bT b o aa e) ?_);rw[List.drop_of_length_le (by omega)];exact stays bT fD av
 |succ k a8=>
  intro i s xs aX ar st fD hz av aR cO;have cK:i<n:=by omega
  refine mx È ?_;rw[nL Hn _];show aO _ A.in1 (ib (.ref I) >>=_) _ _ s;refine aw (W.item i s _ _ cK st λv af a4 gu R2 bT=>?_);obtain⟨q,eq,rfl⟩:=CU i v gu;have aT:=hO q (eK eq);have ap2:tK prog w af q:=(aR q (eK eq)).keep λb u aa e=>bT b u (by rcases aa with rfl|rfl;exact aT.1.2;exact aT.2.2) e;obtain⟨⟨o,nn,CQ,CR,anS⟩,key⟩:=id ap2;have qj:=stays bT fD av;refine aw (iD ?_);refine aw (mU ?_);unfold asl;refine aw (wpAny_typeOf (T:="tuple") ⟨o,CQ,CR⟩ ?_);show aO _ A.in1 (r1 (.ref q.1) >>=_) _ _ _;refine aw (r' CQ anS ?_);refine bf ?_;show aO _ A.in1 (lY [.ref q.2.2.1,q.2.2.2] (dictSet d (.ref q.2.2.1) q.2.2.2)) _ _ _;refine iD (wpAny_dictSet_heap (hsz:=by omega) b8 key qj λai Nw b'=>?_);have el:(i:Int)+1=((i+1:Nat):Int):=by omega
  rw[el];have Br:ps.drop i=q::ps.drop (i+1):=by obtain⟨af,ai⟩:=eG.mp eq;rw[WC af,ai]
  refine bf ⟨mL Hn _,a8 (i+1) _ (we xs q.2.1 q.2.2.1 q.2.2.2) (by omega) cK (W.frame _ _ _ R2 λb de o e=>(b'.2 b λz=>qm (z▸de)).trans e) Nw ?_ (λx m=>?_) (λfH m=>?_) λbR Sk PF ye=>?_⟩
  .have:=abB xs q.2.1 q.2.2.1 q.2.2.2;omega
  .rcases abC m with e|⟨y,cM,e⟩
   .rw[e];exact aT.2.2
   .rw[e];exact av y cM
  .have mG:=hO fH m;refine((aR fH m).keep λb u aa e=>?_:tK prog w ai fH);have nb:b≠d/\b∉wr:=by
    rcases aa with rfl|rfl
    .exact mG.1
    .exact mG.2
   exact(b'.2 b nb.1).trans (bT b u nb.2 e)
  .refine cO bR Sk (λb o jh hN e=>PF b o jh hN ((b'.2 b jh).trans (bT b o hN e))) ?_;rw[Br];exact ye
theorem arv{prog:bJ}{w:bq}{A:cW}{E:cx}{s:aC}{l:Addr}{items:ka}{nn:Nat}{ps:List xJ}{Q:cx}(dy:A.handled=none)(b8:A.in1.in1.units<cLine)(av:s.heap.get? l=some {cls:=.type "list",data:=.seq items nn})(ar:items.toList=ps.map λq=>cy q.1)(hz:ps.length<=sizeLine)(hk:∀q∈ps,tK prog w s.heap q)(h:∀(h':Heap)(a4:Nat),h'.DictOfH (l8 (f' prog w)) s.heap.objs.size (stH [] ps)->(∀b o,s.heap.get? b=some o->h'.get? b=some o)->Q (.ref s.heap.objs.size) {s with heap:=h',toks:=a4}):
  aO (a6 prog w) A (call (.type "dict") [.ref l]) Q E s:=by
 obtain⟨aR,g,Br,Sj,os⟩:=s;refine callType_codes (Q₁:=λobj dP=>obj=.ref aR.objs.size/\dP=⟨aR.push {cls:=.type "dict",data:=.dict #[]},g,Br,Sj,os⟩) F.kt_called_dict (F.kt_typeCall_dict_1 _) F.entry_dict_init (kt_code_dict_new _ ⟨rfl,rfl⟩) ?_;rintro obj dP ⟨rfl,rfl⟩;have G8:(aR.push {cls:=.type "dict",data:=.dict #[]}).DictOfH (l8 (f' prog w)) aR.objs.size []:=Heap.DictOfH.new aR;have jQ:A9 ⟨aR.push {cls:=.type "dict",data:=.dict #[]},g,Br,Sj,os⟩ (.ref aR.objs.size) "dict":=G8.typeIs (s:=⟨_,g,Br,Sj,os⟩);refine⟨jQ,F.args_dict_init_2 _ _,?_⟩;have aj:aR.IsList l items:=⟨_,av,rfl,nn,rfl⟩
 have rF:=dG {cls:=.type "dict",data:=.dict #[]} av;have jS:=aj.push (o:={cls:=.type "dict",data:=.dict #[]});unfold Builtin.«dict.__init__»;refine aw ?_;unfold asm;refine aw (Tr jQ ?_);show aO _ _ (pure (aR.objs.size,[cy l])) _ _ _;refine bf ?_;show aO _ _ (ű "dict.__init__" aR.objs.size (.ref l) [] .none) _ _ _;unfold ű;refine aw (wpAny_typeOf (T:="list") ⟨_,rF,rfl⟩ ?_);rw[bL (by decide)];refine aw (abA (by simp[dy]) rF λaf t1 k1=>?_);rw[bL (show(none:xR).isNone=true from rfl)];show aO _ _ (yY (.ref l) >>=_) _ _ _;have ph:af.IsList l items:=⟨_,k1 _ _ rF,rfl,nn,rfl⟩
 refine aw (zr ph ?_);dsimp only;have MP:aR.objs.size<af.objs.size:=dD (k1 _ _ (gi _ rfl));have À:l<aR.objs.size:=dD av;refine bf ⟨mL Hn _,?_⟩;have cT:oC 0=oC ((0:Nat):Int):=rfl;rw[cT];have bQ:∀b u,aR.get? b=some u->(af.push {cls:=.type "list_iterator",data:=.fields #[.ref l,.int 0 0]}).get? b=some u:=λb u e=>dG _ (k1 _ _ (dG _ e));have aox:items.size=ps.length:=by have:=hh sq ar;simpa using this
 have H0:∀{b u},aR.get? b=some u->b≠aR.objs.size/\b∉[af.objs.size]:=λ{b u}e=>by have:=dD e;refine⟨eD this,λz=>?_⟩;rw[iW]at z;exact eD (Ky this MP) z
 refine aaI (Bd (A:=A.in1.in1) (by simp[dy]) af.objs.size l (eD (Ky À MP)) items) aR.objs.size (λz=>?_) b8 ps aox.symm (λi v e=>?_) (λq aT=>?_) (items.size-0) 0 _ [] rfl (e4 _) ⟨⟨_,gi _ rfl,rfl,rfl⟩,ph.push _⟩ ?_ ?_ (λx av=>nomatch av) (λq aT=>?_) (λh' a4 bT fD=>?_)
 .simp only[dA,eA,or_false]at z;rcases z with z|z
  .exact eD MP z
  .exact xH À z
 .have:items.toList[i]?=some v:=by rw[E4];exact e
  rw[ar,c6]at this;obtain⟨q,eq,rfl⟩:=fL.mp this;exact⟨q,eq,rfl⟩
 .obtain⟨⟨o,dC,yd,_⟩,kU,its,ot,qf,_⟩:=hk q aT;exact⟨H0 yd,H0 qf⟩
 .obtain⟨o,es,ep,aE,aB,cJ,fB,ik,kE⟩:=G8;exact⟨o,es,ep,dG _ (k1 _ _ aE),aB,cJ,fB,(λx av=>by cases av),kE⟩
 .show 0+_<=_;omega
 .exact(hk q aT).keep λb u _ e=>bQ b u e
 .refine⟨rfl,h h' a4 fD λb o e=>bT b o (H0 e).1 (H0 e).2 (bQ b o e)⟩
noncomputable abbrev sz:=Addr×List a7×Addr×V
noncomputable def dictOf(dM:List sz):List (List a7×V):=dM.foldl (λkvs q=>eo kvs q.2.1 q.2.2.2) []
inductive ahF(K:aU)(xs:aY)(H:ae)(Q:a'):Prop where
 |mk (l:Addr) (dM:List sz) (bV:xs=[.ref l]) (bD:H l=some (.lst (dM.map λq=>V.ref q.1))) (b_:dM.length<=1000) (c_:∀q∈dM,H q.1=some (.tup [.ref q.2.2.1,q.2.2.2])/\H q.2.2.1=some (.tup (q.2.1.map dg))) (d1:∀p,H p=none->Q (.ref p) (upd H p (.c4 (dictOf dM))))
section
variable{X:bb}
theorem Va{P:bJ}{w:bq}{H:ae}{h:Heap}(ok:fg P w H h):∀(dM:List sz),(∀q∈dM,H q.1=some (.tup [.ref q.2.2.1,q.2.2.2])/\H q.2.2.1=some (.tup (q.2.1.map dg)))->
  ∃ps:List xJ,(ps.map λq=>cy q.1)=(dM.map λq=>cy q.1)/\(∀q∈ps,tK P w h q)/\∀{kvs:List (List a7×V)}{xs:List (List a7×Addr×Value)},KT H kvs xs->KT H (dM.foldl (λkvs q=>eo kvs q.2.1 q.2.2.2) kvs) (stH xs ps)
 |[],_=>⟨[],rfl,(λq aT=>nomatch aT),λr=>r⟩
 |q::dM,aT=>by
  obtain⟨ps,aE,aB,cJ⟩:=Va ok dM λfH m=>aT fH (.tail _ m);obtain⟨af,ai⟩:=aT q (.head _);obtain⟨_,its,r,o,hj,kU,nn,yO⟩:=(show ee P w H h q.1 (.tup [.ref q.2.2.1,q.2.2.2])from ok _ _ af)
  cases r with
  |cons gB r=>
   cases r with
   |cons pF r=>
    cases r;rename_i r6 arc;obtain rfl:r6=cy q.2.2.1:=gB;refine⟨(q.1,q.2.1,q.2.2.1,arc)::ps,by simp[aE],λfH m=>?_,λr=>?_⟩
    .rcases dA.mp m with rfl|m
     .exact⟨⟨o,nn,hj,kU,yO⟩,vV ok ai⟩
     .exact aB fH m
    .exact cJ (r.put q.2.1 ai pF)
theorem aaJ(ax:X.calm=true)(b8:X.A.units+2<cLine):jU X (.type "dict") (ahF X.K):=by
 intro pins s σ H xs us Q I r h;obtain⟨l,dM,rfl,aj,eE,each,q⟩:=h;obtain⟨u,rfl,er⟩:=vals1 r;cases er;obtain⟨z,its,n,b7,e⟩:=(show ee X.prog X.w H s.heap l (.lst (dM.map λq=>V.ref q.1))from I.a_ _ _ aj)
 obtain⟨ps,aE,aB,cJ⟩:=Va I.a_ dM each;have el:its=dM.map λq=>cy q.1:=by
  have all:∀(L:List sz)(its:cw),cI (L.map λq=>V.ref q.1) its->its=L.map λq=>cy q.1:=λL=>by
   induction L with
   |nil=>intro its r;cases r;rfl
   |cons q L a8=>
    intro its r;cases r with
    |cons gB r=>
     rw[a8 _ r];obtain rfl:=(show _=cy q.1 from gB)
     rfl
  exact all dM its b7
 have pl:ps.length=dM.length:=by have:=hh sq aE;simpa using this
 refine arv (ps:=ps) (I.ok.hd ax) b8 e (by simp[el,aE]) (by rw[pl,pH];omega) aB λh' a4 fD bT=>?_;refine⟨.ref s.heap.objs.size,_,I.laid bT (cj _) ?_,rfl,q _ (I.a_.fresh (cj _))⟩;obtain⟨o,es,ep,af,ai,bR,cS,_,dX⟩:=fD;have rel:KT H (dictOf dM) (stH [] ps):=cJ .nil;have fr:=I.a_.fresh (cj s.heap.objs.size);have len:(dictOf dM).length<=dM.length:=by
  have all:∀(L:List sz)(kvs:List (List a7×V)),(L.foldl (λkvs q=>eo kvs q.2.1 q.2.2.2) kvs).length<=kvs.length+L.length:=λL=>by
   induction L with
   |nil=>intro kvs;exact cj _
   |cons q L a8=>
    intro kvs;have af:=a8 (eo kvs q.2.1 q.2.2.2);have ai:=C9 kvs q.2.1 q.2.2.2;show(L.foldl _ (eo kvs q.2.1 q.2.2.2)).length<=_;rw[mj];omega
  have:=all dM [];simpa[dictOf]using this
 refine⟨by rw[pH];omega,uT.mpr (cL (eD I.big)),stH [] ps,rel.keeps λb ys ea=>?_,o,es,ep,af,ai,bR,cS,dX⟩;rw[aA (bW ea fr)];exact ea
end
end cQ
namespace dY
open PySem ao cQ dp
theorem Wc{κ:Type}[DecidableEq κ]{k:κ}{v:ao.V}:∀{l:List (κ×ao.V)}{j:Nat},(l.map (·.1)).Nodup->l[j]?=some (k,v)->ck l k=some v
 |[],j,_,h=>by simp at h
 |p::r,0,aJ,h=>by simp only[Kl,KO]at h;subst h;exact lU rfl
 |p::r,j+1,aJ,h=>by
  rw[hW,iH]at aJ;have h':r[j]?=some (k,v):=by simpa using h
  rw[lg (λz=>aJ.1 (by rw[z];exact cn.mpr ⟨_,eK h',rfl⟩))];exact Wc aJ.2 h'
theorem adF{H:ae}{ts:bS}{rs:List Row}(c':d7 H ts (rs.map lA)):∃iU,gM V.bl (l2 (rs.map sg)) (aH ts)=aH iU/\d7 H iU ((zJ rs).map lA):=by
 have ln:(aH ts).length=rs.length:=by have:=c'.len;rw[bp]at this;rw[eB,this]
 unfold gM zJ KD;rw[ln];have all:∀is:List Nat,(∀i∈is,i<rs.length)->∃iU,(is.map λi=>(aH ts).getD i .bl)=aH iU/\d7 H iU ((is.map λi=>rs.getD i r0).map lA):=λis=>by
  induction is with
  |nil=>intro _;exact⟨[],rfl,.nil⟩
  |cons i q a8=>
   intro ar;obtain⟨iU,aE,Sm⟩:=a8 λj bK=>ar j (.tail _ bK);have lt:=ar i (.head _);have vF:i<ts.length:=by rw[eB]at ln;omega
   have aB:ts[i]?=some ts[i]:=dn vF;obtain⟨y,af,ai⟩:=bk.get c' aB;rw[c6,dn lt]at af;cases af;refine⟨ts[i]::iU,?_,.cons ?_ Sm⟩
   .rw[hW,aE];show(aH ts).getD i .bl::aH iU=V.ref ts[i]::aH iU;congr 1;show((aH ts)[i]?).getD .bl=_;unfold aH;rw[c6,aB];rfl
   .show H ts[i]=some (ed.tup (lA (rs.getD i r0)));rw[show rs.getD i r0=rs[i] by rw[eJ,dn lt];rfl];exact ai
 exact all _ λi ar=>Iq ar
theorem abD{κ:Type}[DecidableEq κ]{l g9:List (κ×ao.V)}(p:l.Perm g9)(aJ:(l.map (·.1)).Nodup)(k:κ):ck l k=ck g9 k:=by
 have DE:(g9.map (·.1)).Nodup:=(p.map _).nodup_iff.mp aJ;cases e:ck l k with
 |some v=>
  obtain⟨cc,af,ai⟩:=fL.mp e;have bR:=acF af;have cS:=acA af;obtain⟨j,bK,aB⟩:=mi (p.mem_iff.mp bR);have cJ:cc=(k,v):=by obtain⟨a,b⟩:=cc;have:a=k:=jk cS;rw[this,<-ai]
  exact(Wc DE (by rw[dn bK,aB,cJ])).symm
 |none=>
  cases cm:ck g9 k with
  |none=>rfl
  |some v=>
   obtain⟨cc,af,ai⟩:=fL.mp cm;have bR:=acF af;have cS:cc.1=k:=jk (acA (p:=λcc:κ×ao.V=>decide (cc.1=k)) af);exact bE (cn.mpr ⟨cc,p.mem_iff.mpr bR,cS⟩) (UM e)
theorem Vp{rs:List Row}(aJ:(rs.map λr=>(r.1,r.2.1)).Nodup):((f_ rs).map (·.1)).Nodup:=by unfold f_;rw[jH];refine xF.mpr ((xF.mp aJ).imp λ{a b}h z=>h ?_);have z:([.inr a.1,.inr a.2.1]:List a7)=[.inr b.1,.inr b.2.1]:=z;simp at z;rw[z.1,z.2]
theorem Wd:∀(dM:List sz)(kvs:List (List a7×ao.V)),((kvs++dM.map λq=>(q.2.1,q.2.2.2)).map (·.1)).Nodup->dM.foldl (λkvs q=>eo kvs q.2.1 q.2.2.2) kvs=kvs++dM.map λq=>(q.2.1,q.2.2.2)
 |[],kvs,_=>(mh _).symm
 |q::dM,kvs,aJ=>by
  have arl:ck kvs q.2.1=none:=by
   cases z:ck kvs q.2.1 with
   |none=>rfl
   |some v=>
    rw[eW,xE]at aJ;exact bE rfl (aJ.2.2 q.2.1 (dY.S_ z) q.2.1 (by simp))
  show dM.foldl _ (eo kvs q.2.1 q.2.2.2)=_;rw[yB _ arl,Wd dM _ (by simpa using aJ)];simp
theorem adG{K:aU}{dc:TI}{cs:k_}{b0:TE}{σ rest:ao.St}{H:ae}{Q:a'}{D0:Addr}{ts:bS}{rws:List Row}(hw:∀R:fT->ae->Prop,R (mf K D0) H->dc σ H R)(h9:ia cs σ=none::none::none::rest)(h0:H D0=some (.lst (aH ts)))(c':d7 H ts (rws.map lA))(aj:ts.length<sizeLine)(elt:∀r∈rws,∀(ah:ae)(R:a'),aN H ah->(∀t k bx,aN ah bx->bx t=some (.tup [.ref k,.int r.2.2])->bx k=some (.tup [.str r.1,.str r.2.1])->R (.ref t) bx)->b0 (some (.str r.1)::some (.str r.2.1)::some (.int r.2.2)::rest) ah R)(fin:∀(D:Addr)(H':ae)(dM:List sz),H D=none->H' D=some (.lst (dM.map λq=>V.ref q.1))->(∀q∈dM,H' q.1=some (.tup [.ref q.2.2.1,q.2.2.2])/\H' q.2.2.1=some (.tup (q.2.1.map dg)))->(dM.map λq=>(q.2.1,q.2.2.2))=f_ rws->aN H H'->Q (.ref D) H'):
  nF dc cs (xl K 3 (qG (hJ 0) (qG (hJ 1) (qG (hJ 2) Aw)))) se b0 σ H Q:=by
 refine hw _ λD bN=>?_;have dk:=c'.len;rw[bp]at dk;refine⟨λi m ys a3 H'=>m=ts.length-i/\i<=ts.length/\(∃dM:List sz,ys=(dM.map λq=>V.ref q.1)/\(∀q∈dM,H' q.1=some (.tup [.ref q.2.2.1,q.2.2.2])/\H' q.2.2.1=some (.tup (q.2.1.map dg)))/\(dM.map λq=>(q.2.1,q.2.2.2))=f_ (rws.take i))/\(∃hj kU yO,a3=hj::kU::yO::rest)/\aN H H'/\H' D=some (.lst ys),⟨ts.length,by simp,e4 _,⟨[],rfl,(λq aT=>nomatch aT),rfl⟩,⟨none,none,none,h9⟩,bU bN,aQ⟩,?_⟩;rintro i m ys a3 H' ⟨rfl,ar,⟨dM,rfl,each,en⟩,⟨hj,kU,yO,rfl⟩,aF,e7⟩;obtain⟨fe,fK,hx⟩:=tn (aG.of h0) H' aF;rw[eB]at fe fK hx;have ó:dM.length<=i:=by have:=hh sq en;unfold f_ at this;rw[bp,bp,ml]at this;omega
 refine⟨e7,nT (by rw[bp];omega) aj,?_⟩;by_cases cK:i<ts.length
 .refine .inr ⟨fK i cK,λx ah y=>?_⟩;obtain⟨rfl,ex⟩:=hx i x ah cK y;unfold aH at ex;rw[c6]at ex;obtain⟨r,gb,rfl⟩:=fL.mp ex;obtain⟨sV,BA,anu⟩:=bk.get c' gb;rw[c6]at BA;obtain⟨d,Bz,rfl⟩:=fL.mp BA;have a4:rws.take (i+1)=rws.take i++[d]:=by rw[oW,Bz];rfl
  refine⟨r,_,rfl,cH.of (aF _ _ anu),rfl,_,_,rfl,_,_,rfl,_,_,rfl,rfl,?_⟩;refine elt d (eK Bz) ah _ aF λt k bx s5 df aX=>?_;have dX:=s5 _ _ e7;have dK:∀{b:Addr}{v:aY},bx b=some (.tup v)->b≠D:=λ{b v}e z=>by rw[z,dX]at e;cases e
  refine⟨dX,ts.length-(i+1),by omega,rfl,cK,⟨dM++[(t,f3 d.1 d.2.1,k,.int d.2.2)],by rw[eW];rfl,λq aT=>?_,?_⟩,⟨_,_,_,rfl⟩,kc bN (aF.trans s5),aQ⟩
  .rcases hX.mp aT with aT|aT
   .obtain⟨bM,cU⟩:=each q aT;have bM:=s5 _ _ bM;have cU:=s5 _ _ cU;exact⟨by rw[aA (dK bM)];exact bM,by rw[aA (dK cU)];exact cU⟩
   .rw[iW.mp aT];exact⟨by rw[aA (dK df)];exact df,by rw[aA (dK aX)];exact aX⟩
  .rw[eW,en,a4];unfold f_;rw[eW];rfl
 .have e:i=ts.length:=by omega
  subst e;rw[dk,oX]at en;exact .inl ⟨fe,fin D H' dM bN e7 each en aF⟩
theorem ahG(s:cX)(d:sb):(d.act s).pr=s.pr:=by cases d<;>rfl
theorem adH{kvs i5:eV}(e:∀key,ck kvs key=ck i5 key)(h g:Str):jW kvs h g=jW i5 h g:=by unfold jW;rw[e]
theorem adY{hs:br}{s:cX}(lL:vY hs s){h g:Str}(b:ij (bN hs) (g5 (h,s.pr,g))=true)(l:s.ba.length<40){eb:Int}(lo:∀d∈s.ba,eb<=d.2.1)(ar:s.pr-eb<=30):sa (bN hs) ((s.ba++[(h,s.pr,g)]).map g5):=by
 refine⟨Vk lL b,by rw[bp,ig];exact l,?_⟩;rw[Ī lL];cases e:s.ba with
 |nil=>show s.pr-s.pr<=30;omega
 |cons d r=>
  have:=lo d (by rw[e];exact .head _);show s.pr-d.2.1<=30;omega
theorem bk.app{α β:Type}{F:α->β->Prop}:∀{l g9:List α}{m cP:List β},bk F l m->bk F g9 cP->bk F (l++g9) (m++cP)
 |_,_,_,_,.nil,q=>q
 |_,_,_,_,.cons h r,q=>.cons h (bk.app r q)
structure aix(H:ae)(bY cl dQ du fF:Addr)(kvs:eV)(fS:dH)(hR:bS)(ba:m5)(aI:fa)(kr:mu)(gO:bS):Prop where
 bY:H bY=some (.c4 kvs)
 cl:H cl=some (.bX (ix fS))
 li:H dQ=some (.lst (aH hR))
 lt:d7 H hR (ba.map mK)
 st:D' H du aI
 fF:H fF=some (.lst (aH gO))
 lr:bk (hq H) gO kr
section
variable{ay C aV az:Addr}{a9 H H':ae}{x:Addr}{A iF:d3}{hs:br}{ds:bZ}{s s':cX}{bY cl dQ du fF:Addr}{kvs:eV}{fS:dH}{hR:bS}{ba:m5}{aI:fa}{kr:mu}{gO:bS}
structure Yt(ay C aV az:Addr)(a9 H:ae)(hs:br)(ds:bZ)(x bY cl dQ du:Addr)(eb:Int)(j:Nat)(A:d3)(s:cX)(k:Nat)(kvs:eV)(fF:Addr)(hR gO:bS):Prop where
 d:ef ay C aV az a9 H x A hs ds s
 l:aix H bY cl dQ du fF kvs s.fS hR s.ba s.aI s.kr gO
 ok:mJ hs ds k s
 po:vY hs s
 je:T6 hs ds s.kvs
 cc:∀key,ck kvs key=ck s.kvs key
 nm:∀b∈[bY,cl,dQ,du,fF],b∉A.bO x
 nb:∀b∈[bY,cl,dQ,du],a9 b=none
 ne:dQ≠du/\fF≠dQ/\fF≠du
 og:kvs.length<=36+j/\s.kvs.length<=36+j/\s.fS.length<=j
 lo:∀d∈s.ba,eb<=d.2.1
 pr:s.pr=eb+(k:Int)
 Hu:k<=j
variable{eb:Int}{j k:Nat}
theorem Vq{t u:TT}{σ:ao.St}{H:ae}{Q:Bool->ae->Prop}{c1 c2:Bool}(af:∀Q:Bool->ae->Prop,Q c1 H->t σ H Q)(ai:∀Q:Bool->ae->Prop,Q c2 H->u σ H Q)(q:Q (c1&&c2) H):K6 t u σ H Q:=by
 refine af _ ?_;cases c1 with
 |false=>exact gs q
 |true=>exact hP (ai _ q)
theorem afp{t u:TT}{σ:ao.St}{H:ae}{Q:Bool->ae->Prop}{c1:Bool}(af:∀Q:Bool->ae->Prop,Q c1 H->t σ H Q)(ai:∀Q:Bool->ae->Prop,(∀H',aN H H'->Q false H')->u σ H Q)(q:∀H',aN H H'->Q false H'):K6 t u σ H Q:=by
 refine af _ ?_;cases c1 with
 |false=>exact gs (q H (aN.refl _))
 |true=>exact hP (ai _ q)
theorem Xo{H:ae}{hs:br}(G:Good hs){rs:bS}{ba:m5}(c':d7 H rs (ba.map mK))(oV:Jo hs ba):eL H (aH rs) (ba.map g5):=T1 c' λd hd=>⟨kk G (oV d hd).1,kk G (oV d hd).2⟩
theorem aaK{H:ae}{vs:aY}{ba:m5}(h:eL H vs (ba.map g5)):p1 (.list (ba.map g5))=true:=vy (n:=62) (eL.m8 h) (Ŝ _) (by decide)
inductive aiZ(ay C aV az:Addr)(a9:ae)(hs:br)(ds:bZ)(a d0:Addr)(kR:Nat)(gV cF:Addr)(eb:Int)(n x pl bY cl dQ du:Addr)(j:Nat)(σ:ao.St)(H:ae):Prop where
 |mk (A:d3) (s:cX) (k:Nat) (kvs:eV) (fF:Addr) (hR gO:bS) (SO SP SQ SR SS:lO) (bV:σ=[some (.ref a),some (.ref d0),some (.int (kR:Int)),some (.ref gV),some (.ref cF),some (.int eb),some (.ref n),some (.ref x),some (.ref pl),some (.ref bY),some (.ref cl),some (.ref dQ),some (.ref du),some (.ref fF),some (.int s.pr),SO,SP,SQ,SR,SS,none]) (bD:Yt ay C aV az a9 H hs ds x bY cl dQ du eb j A s k kvs fF hR gO)
set_option maxHeartbeats 8000000
end
section
variable{P:bJ}{w:bq}{K:aU}{mg:cB}{base:Heap}
noncomputable abbrev xw:Stmt:=top 55
noncomputable abbrev ahH:List Str:=["_law_script","_law_names","_law_many","_law_cells","_law_lines","_law_first","_law_net","_law_day","_law_pairs","_law_told","_law_closed","_law_letters","_law_stood","_law_log","_law_now","_law_cell","_law_n","_law_due","_law_house","_law_goal","_law_found"]
theorem iO:dw ahH ["_law_script"] (c3 xw):=⟨rfl,rfl,rfl,by decide+kernel,rfl,by decide+kernel,by decide+kernel⟩
seal fM bh fN fV
theorem ahI{ay C aV az f ip Zn fb pe u_ f1 f2 cv f4 fl BF Y9 f8 Ge g1 g2 g3:Addr}{fd Zh Zi Zj s8 Cc cY d8 g8 kH B' B_ Zb Zc Zd Zt Zu Zv:cz}(F:bw K "law" "law" xw f fd)(B:gg mg)(da:qK K aV)(JX:mg "Net"=some (.ref az))(zi:mg "Day"=some (.ref ay))(fq:fp K ay)(jq:dJ K mg "_law_cell_at" Ed ["_law_script","_law_k"] ip Zh)(x2:aL P w K mg base a5 1 ip Zh ["_law_script","_law_k"] (K' K))(Cq:dJ K mg "_law_houses" DL ["_law_cell","_law_many"] Zn Zi)(arw:aL P w K mg base a5 1 Zn Zi ["_law_cell","_law_many"] RI)(De:dJ K mg "_law_road" AJ ["_law_cell","_law_names"] fb Zj)(aaj:aL P w K mg base a5 1 fb Zj ["_law_cell","_law_names"] Kr)(Jr:nR K az pe)(Q_:rg K az "Net.__init__" zS ["self","houses","roads"] pe s8)(Ra:aL P w K mg base a5 5 pe s8 ["self","houses","roads"] (JQ K az))(v3:nR K ay u_)(yx:rg K ay "Day.__init__" xr ["self","net","first"] u_ Cc)(Q':aL P w K mg base a5 5 u_ Cc ["self","net","first"] (Fh ay C aV az))(qb:dJ K mg "shortest" y8 ["net"] f1 cY)(Rk:aL P w K mg base a5 4 f1 cY ["net"] (F0 aV az))(Ho:c0 K aV "pairs" "Ways.pairs" En ["self"] f2 d8)(š:aL P w K mg base a5 1 f2 d8 ["self"] (Li aV))(Df:dJ K mg "_law_bags" Ef DN cv g8)(aak:aL P w K mg base a5 1 cv g8 DN Ld)(Cr:dJ K mg "_law_passed" El DQ f4 kH)(arx:aL P w K mg base a5 7 f4 kH DQ (Le ay C aV az))(Cs:dJ K mg "_law_posted" Em DR fl B')(ary:aL P w K mg base a5 6 fl B' DR (Lg ay C aV az))(Cv:dJ K mg "_law_refused" Ep DS BF B_)(aro:aL P w K mg base a5 5 BF B_ DS (Lh ay C aV az))(Ct:dJ K mg "_law_change" Eh DP Y9 Zb)(arz:aL P w K mg base a5 5 Y9 Zb DP (Lb ay C aV az))(Dg:dJ K mg "_law_made" Ek yW f8 Zc)(aal:aL P w K mg base a5 1 f8 Zc yW Lc)(Cn:dJ K mg "_law_beside" Eg DO Ge Zd)(arA:aL P w K mg base a5 7 Ge Zd DO (Lu az))(n2:c0 K ay "log" "Day.log" uk ["self"] g1 Zt)(Dv:aL P w K mg base a5 1 g1 Zt ["self"] (zW ay C aV az))(Ig:c0 K ay "now" "Day.now" AX ["self"] g2 Zu)(abE:aL P w K mg base a5 1 g2 Zu ["self"] (KP ay C aV az))(sU:c0 K ay "letters" "Day.letters" xq ["self"] g3 Zv)(PQ:aL P w K mg base a5 1 g3 Zv ["self"] (Fg ay C aV az)):
  aL P w K mg base a5 8 f fd ["_law_script"] (Fb K):=by
 have jM:=da.cl;refine F.ok iO (λvs H Q E h=>?_) (λcdv A outer s H vs Q E aq h=>?_)
 .obtain⟨a,ns,rfl,_⟩:=h;rfl
 .obtain⟨a,ns,rfl,fD,CO,q⟩:=h;obtain⟨m,hm⟩:∃m:Nat,2+ns.getD (1:Int).toNat 0%5=(m:Int):=⟨(2+ns.getD (1:Int).toNat 0%5).toNat,by omega⟩
  have ς:2<=m/\m<=6:=by omega
  obtain⟨hs,MY⟩:∃hs,hs=rK (ns.getD (0:Int).toNat 0) m:=⟨_,rfl⟩
  have G:Good hs:=by rw[MY];exact asb (by omega)
  have aj:hs.length=m:=by rw[MY,QU]
  refine⟨_,(bc (c8 (i:=1) iO.aJ rfl (rj rfl) (fj arw (aq.mono (by decide)) (by rfl) Cq.at_ Cq.fn.bQ Cq.bd .nil dj (ak (fj x2 (aq.mono (by decide)) (by rfl) jq.at_ jq.fn.bQ jq.bd .nil dj (ak (U 0) (ak aW aD))) (ak (bH h4 aW (bH eZ (fj x2 (aq.mono (by decide)) (by rfl) jq.at_ jq.fn.bQ jq.bd .nil dj (ak (U 0) (ak aW aD))) aW)) aD))))
   (bc (c8 (i:=2) iO.aJ rfl (b5 rfl) (cp fk (gJ (ak aW (ak (bH h4 aW (bH eZ (bH gY (fj x2 (aq.mono (by decide)) (by rfl) jq.at_ jq.fn.bQ jq.bd .nil dj (ak (U 0) (ak aW aD))) aW) aW)) aD))) (m9 ŋ (by rfl) B.int Ji (ak (iZ wu (bH eZ (bH gY (fj x2 (aq.mono (by decide)) (by rfl) jq.at_ jq.fn.bQ jq.bd .nil dj (ak (U 0) (ak aW aD))) aW) aW) aW (dr _)) aD)) (λ_ _=>rfl)))
   (bc (tj (i:=3) iO.aJ rfl rfl rfl (N':=["_law_k","_law_script"]) (cs:=[none,some 0]) rfl (yr rfl B.range (ak (U 2) aD)) rfl (by decide+kernel) rfl (by decide+kernel) (lq (nP.mpr ⟨rfl,(λp aR=>bE aR (eA))⟩)) rfl
    (.own (.lS rfl (.inl rfl) (.inl rfl) rfl .nil))
    (λC s3 bg cb e9=>⟨(ei (i:=0) (by show(["_law_k","_law_script"]:cf).Nodup;decide+kernel) rfl (.inl rfl)),qv,(bH h4 (fj x2 (aq.mono (by decide)) (by rfl) jq.at_ jq.fn.bQ jq.bd .nil dj (ak (U 1) (ak (bH h4 aW (U 0)) aD))) (bH tB (bH tB aW (U 0)) (U 0)))⟩))
   (bc (tj (i:=4) iO.aJ rfl rfl rfl (N':=["_law_cell","_law_names"]) (cs:=[none,some 1]) rfl (jL (U 3)) rfl (by decide+kernel) rfl (by decide+kernel) (lq (nP.mpr ⟨rfl,(λp aR=>bE aR (eA))⟩)) rfl
    (.own (.lS rfl (.inl rfl) (.inl rfl) rfl .nil))
    (λC s3 bg cb e9=>⟨(ei (i:=0) (by show(["_law_cell","_law_names"]:cf).Nodup;decide+kernel) rfl (.inl rfl)),qv,(fj aaj (aq.mono (by decide)) (by rfl) De.at_ De.fn.bQ De.bd .nil dj (ak (U 0) (ak (U 1) aD)))⟩))
   (bc (c8 (i:=5) iO.aJ rfl (b5 rfl) (bH eZ (fj x2 (aq.mono (by decide)) (by rfl) jq.at_ jq.fn.bQ jq.bd .nil dj (ak (U 0) (ak aW aD))) (bH rN (bH Jn aW aW) aW)))
   (bc (c8 (i:=6) iO.aJ rfl (b5 rfl) (DX Jr Ra (aq.mono (by decide)) (by rfl) JX Q_.bd .nil dj (ak (U 1) (ak (U 4) aD))))
   (bc (c8 (i:=7) iO.aJ rfl (b5 rfl) (DX v3 Q' (aq.mono (by decide)) (by rfl) zi yx.bd .nil dj (ak (U 6) (ak (U 5) aD))))
   (bc (c8 (i:=8) iO.aJ rfl (b5 rfl) (mz (fj Rk (aq.mono (by decide)) (by rfl) qb.at_ qb.fn.bQ qb.bd .nil dj (ak (U 6) aD)) jM Ho.eh š (aq.mono (by decide)) Ho.bd .nil dj))
   (bc (c8 (i:=9) iO.aJ rfl (b5 rfl) (m9 (aaJ rfl (nT (adl (by decide:2<=64) _) aq.units)) (by rfl) B.dict aeU (ak (tW (N':=["_law_house","_law_goal","_law_road_here"]) (cs:=[none,none,none]) rfl (jL (U 8)) rfl (by decide+kernel) rfl (by decide+kernel) (lq (λp aR=>bE aR (eA))) rfl
    (.own (.own (.own .nil)))
    (λC s3 bg cb e9=>⟨(D2 (K:=K) (n:=3) rfl rfl (h3 (ei (i:=0) (by show(["_law_house","_law_goal","_law_road_here"]:cf).Nodup;decide+kernel) rfl (.inl rfl)) (h3 (ei (i:=1) (by show(["_law_house","_law_goal","_law_road_here"]:cf).Nodup;decide+kernel) rfl (.inl rfl)) (h3 (ei (i:=2) (by show(["_law_house","_law_goal","_law_road_here"]:cf).Nodup;decide+kernel) rfl (.inl rfl)) pj)))),qv,(i1 (ak (i1 (ak (U 0) (ak (U 1) aD))) (ak (U 2) aD)))⟩)) aD)))
   (bc (c8 (i:=10) iO.aJ rfl (b5 rfl) Im)
   (bc (c8 (i:=11) iO.aJ rfl (b5 rfl) (gJ aD))
   (bc (c8 (i:=12) iO.aJ rfl (b5 rfl) (gJ aD))
   (bc (c8 (i:=13) iO.aJ rfl (b5 rfl) (gJ aD))
   (bc (c8 (i:=14) iO.aJ rfl (b5 rfl) (U 5))
   (bc (kd kz rfl (jL (SH TK (U 0) (I8 aW) (I8 aW))) (ei (i:=15) iO.aJ rfl (b5 rfl))
    (bc (c8 (i:=16) iO.aJ rfl (b5 rfl) (bH eZ (bH tB (U 15) aW) aW))
   (bo (eO (eu pw (bH eZ (U 16) aW) aW (dr _)) (bc (c8 (i:=17) iO.aJ rfl (b5 rfl) (fj aak (aq.mono (by decide)) (by rfl) Df.at_ Df.fn.bQ Df.bd .nil dj (ak (U 11) (ak (U 12) (ak (U 9) (ak (U 10) (ak (U 4) (ak (U 14) aD))))))))
   (bc (c8 (i:=13) iO.aJ rfl (b5 rfl) (bH JF (U 13) (U 17)))
   (bc (c8 (i:=14) iO.aJ rfl (b5 rfl) (bH h4 (U 14) aW))
   (bo (eO (i0 (iK (fj arx (aq.mono (by decide)) (by rfl) Cr.at_ Cr.fn.bQ Cr.bd .nil dj (ak (U 7) (ak (U 17) (ak (U 13) (ak (U 16) aD))))))) (bo (c7 hL)) fi))))) (bo (eO (ih.pt (tA (eu pw (bH eZ (U 16) aW) aW (dr _)) (tA (eu pw (dB gH (by rfl) B.len gA (ak (U 11) aD)) aW (dr _)) (DW (eu px (bH rN (U 14) (U 5)) aW (dr _)))))) (bc (c8 (i:=18) iO.aJ rfl (b5 rfl) (cp fk (U 1) (bH eZ (bH gY (U 16) aW) (dB gH (by rfl) B.len gA (ak (U 1) aD))) (λ_ _=>rfl)))
   (bc (c8 (i:=19) iO.aJ rfl (b5 rfl) (cp fk (U 1) (bH eZ (bH h4 (bH h4 (bH gY (U 16) aW) aW) (bH eZ (bH gY (U 16) aW) (bH rN (dB gH (by rfl) B.len gA (ak (U 1) aD)) aW))) (dB gH (by rfl) B.len gA (ak (U 1) aD))) (λ_ _=>rfl)))
   (bc (eO (i0 (iK (fj ary (aq.mono (by decide)) (by rfl) Cs.at_ Cs.fn.bQ Cs.bd .nil dj (ak (U 7) (ak (U 18) (ak (U 19) (ak (dB gH (by rfl) B.len gA (ak (U 11) aD)) (ak (bH gY (U 16) aW) aD)))))))) (bo (c7 hL)) fi)
   (bc (gI (nr nV o1 o2 m' (U 11) (ak (i1 (ak (U 18) (ak (U 14) (ak (U 19) aD)))) aD)))
   (bo (gI (nr nV o1 o2 m' (U 12) (ak (i1 (ak (U 18) (ak (U 14) aD))) aD)))))))) (bo (eO (ih.pt (tA (eu i2 (bH eZ (U 16) aW) aW (dr _)) (DW (i0 (iK (fj aro (aq.mono (by decide)) (by rfl) Cv.at_ Cv.fn.bQ Cv.bd .nil dj (ak (U 7) (ak (U 1) (ak (U 4) (ak (bH gY (U 16) aW) aD)))))))))) (bo (c7 hL)) (bo (eO (i0 (iK (fj aal (aq.mono (by decide)) (by rfl) Dg.at_ Dg.fn.bQ Dg.bd .nil dj (ak (fj arz (aq.mono (by decide)) (by rfl) Ct.at_ Ct.fn.bQ Ct.bd .nil dj (ak (U 7) (ak (U 1) (ak (U 4) (ak (bH gY (U 16) aW) aD))))) (ak (U 9) (ak (U 10) aD)))))) (bo (c7 hL)) fi))))))))))
   (bc (eO (i0 (iK (fj arA (aq.mono (by decide)) (by rfl) Cn.at_ Cn.fn.bQ Cn.bd .nil dj (ak (U 6) (ak (U 4) (ak (U 8) (ak (U 5) (ak (U 14) aD)))))))) (bo (c7 hL)) fi)
   (bc (c8 (i:=20) iO.aJ rfl (b5 rfl) (mz (U 7) fq n2.eh Dv (aq.mono (by decide)) n2.bd .nil dj))
   (bo (c7 (jw (dB lT (by rfl) B.isinstance jr (ak (U 20) (ak (lp (by rfl) B.list oc) aD))) (jw (iZ (y0 aq.units) (U 20) (U 13) (dr _)) (jw (iZ i2 (mz (U 7) fq Ig.eh abE (aq.mono (by decide)) Ig.bd .nil dj) (U 14) (dr _)) (mH (iZ (y0 aq.units) (mz (U 7) fq sU.eh PQ (aq.mono (by decide)) sU.bd .nil dj) (U 11) (dr _))))))))))))))))))))))))),?_⟩
  refine⟨_,rfl,a,ns,0,rfl,fD,by decide,_,rfl,a,ns,1,rfl,fD,by decide,_,_,rfl,rfl,(by show(0:Int)<5;decide),_,_,rfl,rfl,ns.getD (0:Int).toNat 0,m,?_,by omega,λd0 H1 HU s1 af=>?_⟩
  .show[V.int _,V.int (2+ns.getD (1:Int).toNat 0%5)]=_;rw[hm]
  rw[<-MY]at af;have qj:=s1.seq fD;refine⟨_,rfl,a,ns,1,rfl,qj,by decide,_,_,rfl,rfl,⟨by decide,by decide⟩,_,_,rfl,rfl,(by show(0:Int)<8;decide),_,_,rfl,rfl,(by show 2<=sizeLine;decide),λnJ apM=>?_⟩;have Sw:=bU (o:=.lst [V.int 12,V.int (1+ns.getD (1:Int).toNat 0/20%8)]) apM;have Hg:upd H1 nJ (.lst [V.int 12,V.int (1+ns.getD (1:Int).toNat 0/20%8)]) nJ=some (.lst [V.int 12,V.int (1+ns.getD (1:Int).toNat 0/20%8)]):=aQ;generalize upd H1 nJ (.lst [V.int 12,V.int (1+ns.getD (1:Int).toNat 0/20%8)])=k6 at Sw Hg⊢;have af:=Sw _ _ af;have qj:=Sw.seq qj;obtain⟨kR,ajX,atY⟩:∃kR:Nat,ao.hb [V.int 12,V.int (1+ns.getD (1:Int).toNat 0/20%8)] (if decide (0<ns.getD (1:Int).toNat 0/5%4)=true then 1 else 0)=some (.int (kR:Int))/\1<=kR/\kR<=12:=by
   by_cases h:0<ns.getD (1:Int).toNat 0/5%4
   .refine⟨(1+ns.getD (1:Int).toNat 0/20%8).toNat,?_,by omega,by omega⟩;rw[cq h,bL rfl,ur (by omega)];rfl
   .refine⟨12,?_,by omega,by omega⟩;rw[dF h,bF (by simp)];rfl
  refine⟨_,rfl,a,ns,1,rfl,qj,by decide,_,_,rfl,rfl,⟨by decide,by decide⟩,_,_,rfl,rfl,(by show(0:Int)<4;decide),_,_,rfl,rfl,.inr ⟨_,rfl,nJ,_,_,_,rfl,rfl,aG.of Hg,ajX,?_⟩⟩;obtain⟨YU,amt⟩:∃cl:Nat->Int,cl=λi:Nat=>ns.getD (3+(i:Int)).toNat 0+31*(i:Int)*(i:Int):=⟨_,rfl⟩
  dsimp only[lz,qZ,hJ];refine aeT (J:=nO 0 kR) (H1:=k6) (xs:=(d_ kR).map λi:Nat=>V.int (0+(i:Int))) (rest:=[some (.ref a)]) (λR h=>⟨_,rfl,_,rfl,by omega,by omega,?_⟩) rfl (Ik 0 kR) (eM (by simp;omega)) (λi=>.int (YU i)) (λi v ah R ev aF k=>?_) (λgV ah at4 Cw gw=>?_)
  .show R (nO 0 ((kR:Int)).toNat) k6;rw[nN];exact h
  .have ar:i<kR/\v=.int (0+(i:Int)):=by rw[c6]at ev;obtain⟨j,e1,rfl⟩:=fL.mp ev;obtain⟨yd,qf⟩:=eG.mp e1;rw[xC]at qf;subst qf;rw[jG]at yd;exact⟨yd,rfl⟩
   obtain⟨ar,rfl⟩:=ar;refine⟨_,rfl,_,rfl,_,_,rfl,rfl,a,ns,3+(0+(i:Int)),rfl,aF.seq qj,by omega,_,rfl,_,_,rfl,rfl,.inl ⟨by decide,by decide⟩,_,rfl,_,_,rfl,rfl,.inr ⟨by show -(2 ^ 64)<0+(i:Int);omega,by show 0+(i:Int)<2 ^ 64;omega⟩,_,_,rfl,rfl,?_⟩;have:=k ah (aN.refl _);rw[amt]at this;simp only[pR];exact this
  have yE:((d_ kR).map λi:Nat=>V.int (0+(i:Int))).length=kR:=by simp
  rw[yE]at Cw;obtain⟨cs,n5⟩:∃cs:List Int,cs=(d_ kR).map YU:=⟨_,rfl⟩
  have Cw:ah gV=some (.lst (cs.map V.int)):=by rw[Cw,n5,jH];rfl
  have lcs:cs.length=kR:=by rw[n5];simp
  obtain⟨ds,jN⟩:∃ds:List dp.gm,ds=cs.map λc=>HI hs.length c:=⟨_,rfl⟩
  have yh:∀d∈ds,d.Ok hs.length:=λd hd=>by rw[jN]at hd;obtain⟨c,_,rfl⟩:=cn.mp hd;exact agn (by omega) c
  have ba:ds.length=kR:=by rw[jN,bp,lcs]
  have vi:=gw _ _ af;refine aeS (J:=mf K gV) (H1:=ah) (xs:=cs.map V.int) (rest:=[some (.ref d0)]) (λR h=>⟨_,rfl,gV,rfl,⟨_,aG.of Cw⟩,h⟩) rfl (tn (aG.of Cw)) (eM (by rw[bp];omega)) (λv=>match v with|.int c=>lB hs (HI hs.length c)|_=>[]) (λi y bg R gr aF bT=>?_) (λcF bg rs at3 qi c' ü=>?_)
  .obtain⟨c,_,rfl⟩:=cn.mp (eK gr);exact⟨_,rfl,_,rfl,c,d0,hs,rfl,aF _ _ vi,by omega,by omega,λd5 apF=>bT d5 _ (bU apF) aQ⟩
  have IL:d7 bg rs (ds.map (lB hs)):=by rw[jN,jH];rw[jH]at c';exact c'
  have cO:iJ bg hs rs ds:=⟨IL,yh⟩
  have eE:rs.length<=12:=by rw[cO.len,ba];omega
  have ZA:=ü _ _ vi;have ye:=ü.seq (gw.seq qj);refine⟨_,rfl,a,ns,2,rfl,ye,by decide,_,_,rfl,rfl,⟨by decide,by decide,by decide⟩,_,_,rfl,rfl,_,_,rfl,rfl,(by show(0:Int)<10 ^ (9:Int).toNat - 99;decide),?_⟩;have f0:0<=ns.getD (2:Int).toNat 0%(10 ^ (9:Int).toNat - 99):=ie _ (by decide);have Y8:ns.getD (2:Int).toNat 0%(10 ^ (9:Int).toNat - 99)<10 ^ (9:Int).toNat - 99:=lI _ (by decide);have Ge:ns.getD (2:Int).toNat 0%(10 ^ (9:Int).toNat - 99)<=999999900:=by
   have e:(10:Int) ^ (9:Int).toNat - 99=999999901:=by decide
   rw[e]at Y8⊢;omega
  generalize ns.getD (2:Int).toNat 0%(10 ^ (9:Int).toNat - 99)=eb at f0 Ge⊢;clear Y8;refine⟨_,rfl,_,rfl,λn iL nn Õ _=>?_⟩;have mk:∀{b:Addr}{v:ed},bg b=some v->upd (upd bg iL (.own n)) n (.ins az iL []) b=some v:=λ{b v}e=>by rw[aA (bW e nn),aA (bW e Õ)];exact e
  refine⟨n,iL,d0,cF,hs,rs,ds,rfl,aQ,mk ZA,G,mk qi,cO.same (λb v e=>mk e),(by omega),λdV bt bu b' CW ang ND na nb=>⟨rfl,?_⟩⟩;have qR:aN bg dV:=RC nn Õ b';have hi:jV az dV n bt bu (cE hs) (aH rs):=⟨⟨iL,CW⟩,ang,ND⟩
  have Nt:=cO.same qR;have ZO:=qR.seq ye;have amU:=qR _ _ ZA;have GQ:=qR _ _ qi;refine⟨_,rfl,_,rfl,λx ag b9 tD _=>?_⟩;have vL:aN dV (upd (upd dV ag (.own x)) x (.ins ay ag [])):=λb v e=>by rw[aA (bW e b9),aA (bW e tD)];exact e
  refine⟨x,ag,n,bt,bu,hs,rs,ds,eb,rfl,aQ,hi.same vL,G,Nt.same vL,(by omega),λbx gU k1 RR lF MZ M4 sD H8=>⟨rfl,?_⟩⟩;have v9:aN dV bx:=RC b9 tD RR;have bl:∀{uo b3:ae}{b:Addr},aN uo b3->b3 b=none->uo b=none:=λ{uo b3 b}aF e=>by
   cases aB:uo b with
   |none=>rfl
   |some o=>rw[aF _ _ aB]at e;cases e
  have hj:∀b∈gU.bO x,dV b=none:=λb aa=>by
   rcases H8 b aa with rfl|h
   .exact b9
   .exact bl vL h
  refine⟨_,rfl,n,bt,bu,hs,rs,ds,rfl,hi.same v9,G,Nt.same v9,(by omega),λy t f6 kvs tJ dK j2 l_ ST=>?_⟩;obtain⟨rws,rfl,ape,rl,Ea⟩:=ST.told yh (by omega);obtain⟨⟨hH,cM⟩,_,Oy⟩:=l_;refine⟨y,_,_,rfl,cM,rfl,y,hH,n,t,rws,rfl,cM,Oy,(by omega),λpl eQ aup HX Iy CT aq8=>?_⟩;obtain⟨ts,BE,mT⟩:=adF aq8;rw[BE]at CT;obtain⟨kX,erw⟩:∃kX,kX=zJ rws:=⟨_,rfl⟩
  rw[<-erw]at mT;have Ih:kX.Perm rws:=by rw[erw];exact aaR _
  have DF:(kX.map λr=>(r.1,r.2.1)).Nodup:=(Ih.map _).nodup_iff.mpr ape;have aqk:kX.length<=36:=by rw[Ih.length_eq];exact rl
  have aqo:∀r∈kX,Ys hs ds r:=λr aq=>Ea r (Ih.mem_iff.mp aq);have auq:ts.length=kX.length:=by have:=mT.len;rw[bp]at this;exact this
  have vals:∀key,ck (f_ kX) key=ck (f_ rws) key:=λkey=>abD (Ih.map _) (Vp DF) key;dsimp only[lz,qZ,hJ,tV,rS];refine adG (K:=K) (D0:=pl) (ts:=ts) (rws:=kX) (rest:=[]) (λR h=>⟨_,rfl,pl,rfl,⟨_,aG.of CT⟩,h⟩) rfl CT mT (eM (by omega)) (λr aq aa1 R aF bT=>⟨_,rfl,_,rfl,(by show 2<=sizeLine;decide),λi6 apn=>⟨_,rfl,(by show 2<=sizeLine;decide),λj5 yN=>?_⟩⟩) (λaai dz dM at5 am2 each en rY=>?_)
  .have fe:=bU (o:=.tup [V.str r.1,V.str r.2.1]) apn;have fK:=bU (o:=.tup [V.ref i6,V.int r.2.2]) yN;exact bT j5 i6 _ (fe.trans fK) aQ (fK _ _ aQ)
  have amm:dictOf dM=f_ kX:=by have Ò:=Vp DF;rw[<-en]at Ò⊢;exact Wd dM [] Ò
  have ó:dM.length<=1000:=by have:=hh sq en;unfold f_ at this;rw[bp,bp]at this;omega
  refine⟨aai,dM,rfl,am2,ó,each,λbY H4=>?_⟩;rw[amm];have oG:=bU (o:=.c4 (f_ kX)) H4;have tr:upd dz bY (.c4 (f_ kX)) bY=some (.c4 (f_ kX)):=aQ;generalize upd dz bY (.c4 (f_ kX))=md at oG tr⊢
  refineλcl Ñ=>?_
  have r6:=bU (o:=.bX []) Ñ;have lr:upd md cl (.bX []) cl=some (.bX (ix [])):=aQ;generalize upd md cl (.bX [])=uo at r6 lr⊢;refine⟨(by show 0<=sizeLine;decide),λdQ tH=>?_⟩;have t4:=bU (o:=.lst []) tH;have lc:upd uo dQ (.lst []) dQ=some (.lst (aH [])):=aQ;generalize upd uo dQ (.lst [])=b3 at t4 lc⊢;refine⟨(by show 0<=sizeLine;decide),λdu QF=>?_⟩;have qW:=bU (o:=.lst []) QF;have ld:upd b3 du (.lst []) du=some (.lst (aH [])):=aQ;generalize upd b3 du (.lst [])=fh at qW ld⊢;refine⟨(by show 0<=sizeLine;decide),λfF yJ=>?_⟩;have qX:=bU (o:=.lst []) yJ;have le:upd fh fF (.lst []) fF=some (.lst (aH [])):=aQ;generalize upd fh fF (.lst [])=j8 at qX le⊢;refine⟨_,rfl,?_⟩;have Rx:=v9.trans (j2.trans (Iy.trans rY));have Rz:=oG.trans (r6.trans (t4.trans (qW.trans qX)));refine⟨_,rfl,_,rfl,_,rfl,a,_,rfl,(Rx.trans Rz).seq ZO,λbj i7=>⟨bj,rfl,⟨_,aG.of aQ⟩,?_⟩⟩;have wx:=bU (o:=.lst (l6 (ns.map V.int) (some 3) (some 63))) i7;have lf:upd j8 bj (.lst (l6 (ns.map V.int) (some 3) (some 63))) bj=some (.lst (l6 (ns.map V.int) (some 3) (some 63))):=aQ;generalize upd j8 bj (.lst (l6 (ns.map V.int) (some 3) (some 63)))=rb at wx lf⊢;have Ec:=Rz.trans wx;have atM:(l6 (ns.map V.int) (some 3) (some 63)).length<=60:=by unfold l6;have amP:hB.iS (ns.map V.int).length 0 (some ((3:Nat):Int))=min 3 (ns.map V.int).length:=hB.RG _ _ 3;have amQ:hB.iS (ns.map V.int).length (ns.map V.int).length (some ((63:Nat):Int))=min 63 (ns.map V.int).length:=hB.RG _ _ 63;rw[show(some (3:Int))=some ((3:Nat):Int)from rfl,show(some (63:Int))=some ((63:Nat):Int)from rfl,amP,amQ,ml];omega
  have aqt:=j2.trans (Iy.trans (rY.trans Ec));have JK:=lF.same aqt;have u0:=(r6.trans (t4.trans (qW.trans (qX.trans wx)))) _ _ tr;have au:=(t4.trans (qW.trans (qX.trans wx))) _ _ lr;have h5:=(qW.trans (qX.trans wx)) _ _ lc;have dS:=(qX.trans wx) _ _ ld;have pb:=wx _ _ le;have tx:bx bY=none:=bl (j2.trans (Iy.trans rY)) H4;have Qr:dz cl=none:=bl oG Ñ;have Qs:dz dQ=none:=bl (oG.trans r6) tH;have DE:dz du=none:=bl (oG.trans (r6.trans t4)) QF;have ne':dz fF=none:=bl (oG.trans (r6.trans (t4.trans qW))) yJ;have pG:=j2.trans (Iy.trans rY);have lv:∀{b:Addr},dz b=none->b∉gU.bO x:=λ{b}e=>lF.live (bl pG e);obtain⟨a9,Bw⟩:∃a9,a9=mask rb ([bY,cl,dQ,du]++gU.bO x):=⟨_,rfl⟩
  have C1:∀b o,rb b=some o->b∉[bY,cl,dQ,du]->b∉gU.bO x->a9 b=some o:=λb o e af ai=>by rw[Bw];exact lX e λz=>(hX.mp z).elim af ai
  have old:∀b o,dz b=some o->b∉[bY,cl,dQ,du]:=λb o e z=>by
   simp only[dA,eA,or_false]at z;rcases z with rfl|rfl|rfl|rfl
   .rw[H4]at e;cases e
   .rw[Qr]at e;cases e
   .rw[Qs]at e;cases e
   .rw[DE]at e;cases e
  have qY:aN dV a9:=λb o e=>C1 b o (Ec _ _ (Rx _ _ e)) (old b o (Rx _ _ e)) λz=>by rw[hj b z]at e;cases e
  have ak0:a9 pl=some (.lst (aH ts)):=C1 pl _ (Ec _ _ (rY _ _ CT)) (old pl _ (rY _ _ CT)) (lF.live (bl j2 HX));have ak4:d7 a9 ts (kX.map lA):=bk.e2 mT λb v e=>C1 b _ (Ec _ _ (rY _ _ e)) (old b _ (rY _ _ e)) λz=>JK.DI z (Ec _ _ (rY _ _ e));have apG:dz bj=none:=bl Rz i7;have ak3:a9 bj=some (.lst (l6 (ns.map V.int) (some 3) (some 63))):=C1 bj _ lf (λz=>by
   simp only[dA,eA,or_false]at z;rcases z with rfl|rfl|rfl|rfl
   .rw[(r6.trans (t4.trans (qW.trans qX))) _ _ tr]at i7;cases i7
   .rw[(t4.trans (qW.trans qX)) _ _ lr]at i7;cases i7
   .rw[(qW.trans qX) _ _ lc]at i7;cases i7
   .rw[qX _ _ ld]at i7;cases i7) (lv apG)
  have F5:a9 cF=some (.lst (aH rs)):=qY _ _ GQ;have MH:a9 d0=some (.lst (cE hs)):=qY _ _ amU;have Bh:=Nt.same qY;have YG:=hi.same qY;have afT:Yt ay C aV az a9 rb hs ds x bY cl dQ du eb 0 gU ⟨eb,[],[],[],k1,[]⟩ 0 (f_ kX) fF [] []:=by
   obtain⟨cg,rfl,dt,hQ,_⟩:=sD.told yh (by omega);have ark:∀key,ck (f_ rws) key=ck (f_ cg) key:=λkey=>by
    cases e:ck (f_ rws) key with
    |some v=>
     obtain⟨h,g,rfl,ny,mg,ne,is,rfl⟩:=ST.get e;exact(sD.lb.yes h g ⟨ny,ne,is⟩).symm
    |none=>
     cases aE:ck (f_ cg) key with
     |none=>rfl
     |some v=>
      obtain⟨h,g,rfl,ny,mg,ne,is,rfl⟩:=sD.get aE;rw[ST.lb.yes h g ⟨ny,ne,is⟩]at e;cases e
   have Χ:∀r:List Row,(f_ r).length=r.length:=λr=>by unfold f_;rw[bp]
   refine⟨JK.aqh (by rw[Bw];exact Dt _ _) MZ M4 YG Bh (λb aa=>by rw[Bw];exact D7 (hX.mpr (.inr aa))),⟨u0,au,h5,.nil,⟨[],dS,.nil⟩,pb,.nil⟩,⟨rfl,by show 0<=40;decide,by omega,(λ_ h=>nomatch h),sD.ok yh,(λ_ h=>nomatch h),(λ_ h=>nomatch h),(λ_ h=>nomatch h),cj _⟩,⟨(λ_ h=>nomatch h),(λ_ h=>nomatch h),(λ_ h=>nomatch h)⟩,sD.uR yh,λkey=>(vals key).trans (ark key),λb aa=>?_,λb aa=>by rw[Bw];exact D7 (hX.mpr (.inl aa)),⟨λz=>?_,λz=>?_,λz=>?_⟩,⟨by rw[Χ];omega,by show(f_ cg).length<=_;rw[Χ];omega,cj _⟩,(λ_ h=>nomatch h),by show eb=eb+0;omega,cj _⟩
   .simp only[dA,eA,or_false]at aa;rcases aa with rfl|rfl|rfl|rfl|rfl
    .exact lv H4
    .exact lv Qr
    .exact lv Qs
    .exact lv DE
    .exact lv ne'
   .rw[z,QF]at lc;cases lc
   .rw[<-z,bl qW yJ]at lc;cases lc
   .rw[<-z,yJ]at ld;cases ld
  have atf:aG K a9 a (ns.map V.int):=qY.seq ZO;clear Bw C1 old qY lv u0 au h5 dS pb tx Qr Qs DE ne' JK H8 hj;refine qd (K:=K) (a:=bj) (xs:=l6 (ns.map V.int) (some 3) (some 63)) (aiZ ay C aV az a9 hs ds a d0 kR gV cF eb n x pl bY cl dQ du)
   ⟨gU,_,0,_,fF,[],[],none,none,none,none,none,rfl,afT⟩ (λj σ gj _⟨_,_,_,_,_,_,_,_,_,_,_,_,_,h⟩=>aG.of (h.d.b' _ _ ak3)) ?_ ?_
  .rintro j z σ gj dx ⟨A,s,k,kvs,fF,hR,gO,SO,SP,SQ,SR,SS,rfl,S⟩;have atH:=(eG.mp dx).1;obtain⟨c,rfl⟩:∃c:Int,z=.int c:=by have yl:=eK dx;unfold l6 at yl;obtain⟨c,_,rfl⟩:=cn.mp (List.mem_of_mem_drop (acG yl));exact⟨c,rfl⟩
   have Hu:=S.Hu;have og:=S.og;refine Fq ?_;refine⟨_,rfl,_,_,rfl,rfl,.inr ⟨by decide,by decide⟩,_,_,rfl,rfl,(by show(0:Int)<10000000000037;decide),?_⟩;generalize c*1099087573%10000000000037=nn;have RT:=S.d.b';have GR:=RT _ _ F5;have CS:=RT _ _ MH;have afH:=Bh.same RT;refine⟨_,rfl,_,_,rfl,rfl,(by show(0:Int)<8;decide),_,_,rfl,rfl,_,rfl,nC (λ_=>?_) (λ_=>?_)⟩
   .-- a turn
    refine⟨_,rfl,_,rfl,_,rfl,_,rfl,_,rfl,_,rfl,dQ,du,bY,cl,cF,hR,rs,hs,ds,s,kvs,rfl,S.l.li,S.l.lt,S.l.st,S.l.bY,S.ok.tab.atR S.cc,adH S.cc,S.l.cl,GR,afH,S.ok.len,S.ok.vE,S.je,(by omega),⟨bW F5 (S.nb du (by simp)),S.ne.1⟩,λaM H1 as j0 bQ h7 ft st=>?_⟩;obtain⟨Da,Kg⟩:=S.g0 bQ st;have al:as.length<=40:=by
     have af:=gE ft;have ai:(gK ds s).length<=ds.length:=by unfold gK oj ni;refine e3 (ky _ _) ?_;rw[bp];exact e3 (ky _ _) (by rw[jG];exact cj _)
     omega
    have tu:gO.length<=3000:=by have af:=gE S.l.lr;have ai:=S.ok.IE;omega
    refine⟨_,rfl,_,rfl,fF,aM,_,_,rfl,rfl,Kg.fF,h7,e3 (by rw[eB,eB];omega:_<=4000) (by decide),λyD HR=>?_⟩;have fK:=bU (o:=.lst (aH gO++aH as)) HR;have g2:upd H1 yD (.lst (aH gO++aH as)) yD=some (.lst (aH (gO++as))):=by rw[aQ];unfold aH;rw[eW]
    generalize upd H1 yD (.lst (aH gO++aH as))=asB at fK g2⊢;refine⟨_,rfl,_,_,rfl,rfl,?_⟩;have Db:=Da.same fK;have xB:=Kg.same fK;have hF:=bk.e2 ft λ_ _ e=>e.same fK;have hl:=bk.app xB.lr hF;have dt:aM∉A.bO x:=S.d.live j0;have dC:yD∉A.bO x:=Da.live HR;refine⟨_,rfl,_,rfl,_,rfl,_,rfl,a9,x,A,hs,ds,s,k,aM,yD,as,gO++as,nn,rfl,Db,G,S.ok,(by omega),fK _ _ h7,hF,g2,hl,dt,dC,(by have:=S.d.lC.len;omega),λH' iF fv cA=>⟨_,rfl,gs ?_⟩⟩;refine⟨iF,zZ hs ds s,k+1,kvs,yD,hR,gO++as,_,_,_,_,_,rfl,S.pass yh Db ⟨xB.bY,xB.cl,xB.li,xB.lt,xB.st,g2,hl⟩ dC ⟨λz=>?_,λz=>?_⟩ fv cA⟩
    .have e:=Kg.li;rw[<-z,HR]at e;cases e
    .obtain⟨_,h,_⟩:=st;rw[<-z,HR]at h;cases h
   .have tu:hR.length=s.ba.length:=by have:=gE S.l.lt;rw[bp]at this;exact this
    refine Vq (c1:=decide (nn%8<6)) (c2:=decide (((aH hR).length:Int)<20)&&decide (s.pr-eb<=30)) (λQ q=>⟨_,rfl,_,_,rfl,rfl,(by show(0:Int)<8;decide),_,_,rfl,rfl,_,rfl,q⟩) (λQ q=>Vq (c1:=decide (((aH hR).length:Int)<20)) (c2:=decide (s.pr-eb<=30)) (λQ q=>⟨_,rfl,dQ,_,rfl,.inl (aG.of S.l.li),_,_,rfl,rfl,_,rfl,q⟩) (λQ q=>⟨_,rfl,_,rfl,_,_,rfl,rfl,_,_,rfl,rfl,_,rfl,q⟩) q) (nC (λax=>?_) (λ_=>?_))
    .-- a atP
     simp only[jD,decide_eq_true_eq,eB]at ax;have dk:(cE hs).length=hs.length:=by unfold cE;rw[bp]
     obtain⟨u,Bf,nc⟩:=rM (λy=>V.str (dY.S y)) (L:=hs) (by omega) (nn/8);obtain⟨v,Bg,ev⟩:=rM (λy=>V.str (dY.S y)) (L:=hs) (by omega) (nn/8+1+nn/96%((cE hs).length-1));have bO:dY.S u∈hs.map dY.S:=cn.mpr ⟨u,eK nc,rfl⟩;have fv:dY.S v∈hs.map dY.S:=cn.mpr ⟨v,eK ev,rfl⟩;have ne:dY.S u≠dY.S v:=λz=>by have e:=tY z;subst e;obtain⟨af,aE⟩:=eG.mp nc;obtain⟨bR,cJ⟩:=eG.mp ev;have:=(uy G.aJ).mp (aE.trans cJ.symm);have h0:0<=nn/96%((cE hs).length-1:Int):=ie _ (by omega);have dX:nn/96%((cE hs).length-1:Int)<((cE hs).length-1:Int):=lI _ (by omega);have a1:0<=nn/8%(hs.length:Int):=ie _ (by omega);have a2:0<=(nn/8+1+nn/96%((cE hs).length-1))%(hs.length:Int):=ie _ (by omega);have:=J3 (x:=nn/8) (c:=1+nn/96%((cE hs).length-1)) (m:=hs.length) (by omega) (by omega);rw[<-We]at this;omega
     have pos:(0:Int)<((cE hs).length:Int):=by omega
     have Q5:(0:Int)<((cE hs).length:Int)-1:=by omega
     have ap3:=S.pr;have Ξ:ij (bN hs) (g5 (dY.S u,s.pr,dY.S v))=true:=I4.mpr ⟨bO,fv,ne,by omega,by omega⟩;have p4:=adY S.po Ξ (by omega) S.lo ax.2.2;refine⟨_,rfl,_,rfl,_,_,rfl,rfl,⟨by decide,by decide⟩,_,rfl,d0,_,rfl,.inl (aG.of CS),_,_,rfl,rfl,pos,d0,_,_,_,rfl,rfl,aG.of CS,Bf,?_⟩;refine⟨_,rfl,_,rfl,_,_,rfl,rfl,⟨by decide,by decide⟩,_,_,rfl,rfl,_,rfl,_,_,rfl,rfl,⟨by decide,by decide⟩,_,rfl,d0,_,rfl,.inl (aG.of CS),_,_,rfl,rfl,_,_,rfl,rfl,Q5,_,_,rfl,rfl,_,rfl,d0,_,rfl,.inl (aG.of CS),_,_,rfl,rfl,pos,d0,_,_,_,rfl,rfl,aG.of CS,Bg,?_⟩;refine⟨_,rfl,_,rfl,_,rfl,_,rfl,dQ,_,rfl,.inl (aG.of S.l.li),_,rfl,_,_,rfl,rfl,⟨by decide,by decide⟩,a9,x,A,hs,ds,s,dY.S u,dY.S v,nn/9600,(by rw[eB,tu];rfl),S.d,G,S.ok.lets,(by omega),S.ok.len,bO,fv,S.po,p4,λah iF vN JC=>⟨_,rfl,gs ?_⟩⟩;have Kf:=S.l.keep vN.keep S.nm (λb aa v=>S.d.DI aa);obtain⟨nD,Γ,ap4⟩:=Kf.st;have auk:nD.length<=40:=by have:=gE ap4;have:=S.ok.len;omega
     refine⟨_,rfl,.inl ⟨rfl,_,aG.of Kf.li⟩,_,rfl,_,rfl,_,rfl,(by show 3<=sizeLine;decide),λt1 dt=>?_⟩;have fe:=bU (o:=.tup [V.str (dY.S u),V.int s.pr,V.str (dY.S v)]) dt;refine⟨dQ,_,_,rfl,rfl,fe _ _ Kf.li,eM (by rw[eB];omega),?_⟩;have rC:upd (upd ah t1 (.tup [V.str (dY.S u),V.int s.pr,V.str (dY.S v)])) dQ (.lst (aH hR++[.ref t1])) du=some (.lst (aH nD)):=by rw[aA S.ne.1.symm];exact fe _ _ Γ
     refine⟨_,rfl,.inl ⟨rfl,_,aG.of rC⟩,_,rfl,_,rfl,(by show 2<=sizeLine;decide),λf5 dC=>?_⟩;have fK:=bU (o:=.tup [V.str (dY.S u),V.int s.pr]) dC;refine⟨du,_,_,rfl,rfl,fK _ _ rC,eM (by rw[eB];omega),?_⟩;exact⟨iF,rW s (dY.S u) (dY.S v),k,kvs,fF,hR++[t1],gO,_,_,_,_,_,rfl,S.post Ξ bO fv (by omega) vN JC dt Γ dC⟩
    .-- a al9
     refine afp (c1:=decide (V.int (nn%8)=V.int 7)) (λQ q=>⟨_,rfl,_,_,rfl,rfl,(by show(0:Int)<8;decide),rfl,_,rfl,q⟩) (λQ q=>⟨_,rfl,_,rfl,_,rfl,_,rfl,_,_,rfl,rfl,⟨by decide,by decide⟩,a9,x,A,hs,ds,s,d0,cF,rs,_,rfl,S.d,G,(by omega),(by omega),(by have:=S.d.lC.len;omega),(by omega),(by omega),MH,F5,Bh,λH' s'=>⟨_,rfl,q H' s'⟩⟩) (λaa1 aqL=>gs ?_);have S:=S.same aqL;refine⟨_,rfl,_,rfl,_,rfl,_,rfl,_,_,rfl,rfl,⟨by decide,by decide⟩,a9,x,A,hs,ds,s,d0,cF,rs,_,rfl,S.d,G,(by omega),(by omega),(by have:=S.d.lC.len;omega),(by omega),(by omega),MH,F5,Bh,λd ah l aam fv JC nl aua alg=>?_⟩;have WT:=S.l.keep fv.keep S.nm (λb aa v=>S.d.DI aa);refine⟨_,rfl,_,rfl,l,bY,cl,d,kvs,s.fS,rfl,alg,WT.bY,WT.cl,(by omega),(by omega),λbg bQ df ax=>⟨_,rfl,gs ?_⟩⟩;have afU:=S.al9 aam fv JC bQ df ax;exact⟨A,d.act s,k,XX kvs d,fF,hR,gO,_,_,_,_,_,by rw[ahG];rfl,afU⟩
  .rintro σ gj ⟨A,s,k,kvs,fF,hR,gO,SO,SP,SQ,SR,SS,rfl,S⟩;have Hu:=S.Hu;have ap3:=S.pr;refine⟨_,rfl,_,rfl,_,rfl,_,rfl,_,rfl,n,cF,pl,bt,bu,ts,hs,rs,ds,kX,eb,s.pr,rfl,YG.same S.d.b',G,Bh.same S.d.b',(by omega),S.d.b' _ _ ak0,ak4.same S.d.b',aqo,⟨f0,by omega⟩,(by omega),λH1 s1=>⟨_,rfl,gs ?_⟩⟩;have S:=S.same s1;refine⟨_,rfl,x,A.ag,_,rfl,S.d.ins,rfl,a9,x,A,hs,ds,s,rfl,S.d,λl nl=>?_⟩;have s3:=bU (o:=.lst (aH A.ft)) nl;have qo:upd H1 l (.lst (aH A.ft)) l=some (.lst (aH A.ft)):=aQ;generalize upd H1 l (.lst (aH A.ft))=bg at s3 qo⊢;have S:=S.same s3;refine⟨_,rfl,_,_,_,_,_,rfl,⟨rfl,.lst qo,rfl⟩,_,rfl,fu rfl ?_⟩;refine⟨_,rfl,_,rfl,.list (s.kr.map nG),.list (s.kr.map nG),.lst (aG.of qo) (rI S.d.sp),.lst (aG.of S.l.fF) (rI S.l.lr),lw _,lw _,_,rfl,fu (yA _ (DK _)) ?_⟩;refine⟨_,rfl,x,A.ag,_,rfl,S.d.ins,rfl,a9,x,A,hs,ds,s,rfl,S.d,_,rfl,rfl,_,rfl,fu (cq rfl) ?_⟩;refine⟨_,rfl,x,A.ag,_,rfl,S.d.ins,rfl,a9,x,A,hs,ds,s,rfl,S.d,λg9 vP=>?_⟩;have s4:=bU (o:=.lst (aH A.kV)) vP;have gC:=S.d.same s4;have t1:=Xo G gC.pt S.ok.lets;have f5:=Xo G (S.l.lt.same s4) S.ok.lets;have cV:=aaK t1;exact⟨_,rfl,_,_,.lst (aG.of aQ) (eL.lh t1),.lst (aG.of (s4 _ _ S.l.li)) (eL.lh f5),cV,cV,nt (yA _ (eL.m8 t1)) (q _)⟩
unseal fM bh fN fV
end
theorem Xp{K:aU}{C:Addr}{T:String}{b:Bool}(hm:KY T=true)(hs:m2 K (.ref C) (.type T)=some b):hZ K (.ref C) (.type T)=some b:=by unfold hZ;rw[bF (by intro z;cases z)];unfold aer;show(if KY T=true then _ else _)=_;rw[bL hm,hs]
theorem Xq(K:aU)(C:Addr):hZ K (.ref C) (.ref C)=some true:=by unfold hZ;exact bL (by simp)
theorem nz{us:cw}(h:us.length=1):∃a0,us=[a0]:=by
 rcases us with _|⟨a0,_|⟨b,r⟩⟩
 .simp at h
 .exact⟨a0,rfl⟩
 .simp at h
theorem il{us:cw}(h:us.length=2):∃a0 a1,us=[a0,a1]:=by
 rcases us with _|⟨a0,_|⟨a1,_|⟨b,r⟩⟩⟩
 .simp at h
 .simp at h
 .exact⟨a0,a1,rfl⟩
 .simp at h
theorem ov{us:cw}(h:us.length=3):∃a0 a1 a2,us=[a0,a1,a2]:=by
 rcases us with _|⟨a0,_|⟨a1,_|⟨a2,_|⟨b,r⟩⟩⟩⟩
 .simp at h
 .simp at h
 .simp at h
 .exact⟨a0,a1,a2,rfl⟩
 .simp at h
theorem zD{us:cw}(h:us.length=4):∃a0 a1 a2 hE,us=[a0,a1,a2,hE]:=by
 rcases us with _|⟨a0,_|⟨a1,_|⟨a2,_|⟨hE,_|⟨b,r⟩⟩⟩⟩⟩
 .simp at h
 .simp at h
 .simp at h
 .simp at h
 .exact⟨a0,a1,a2,hE,rfl⟩
 .simp at h
theorem KV{us:cw}(h:us.length=5):∃a0 a1 a2 hE jd,us=[a0,a1,a2,hE,jd]:=by
 rcases us with _|⟨a0,_|⟨a1,_|⟨a2,_|⟨hE,_|⟨jd,_|⟨b,r⟩⟩⟩⟩⟩⟩
 .simp at h
 .simp at h
 .simp at h
 .simp at h
 .simp at h
 .exact⟨a0,a1,a2,hE,jd,rfl⟩
 .simp at h
theorem aiy{us:cw}(h:us.length=6):∃a0 a1 a2 hE jd Be,us=[a0,a1,a2,hE,jd,Be]:=by
 rcases us with _|⟨a0,_|⟨a1,_|⟨a2,_|⟨hE,_|⟨jd,_|⟨Be,_|⟨b,r⟩⟩⟩⟩⟩⟩⟩
 .simp at h
 .simp at h
 .simp at h
 .simp at h
 .simp at h
 .simp at h
 .exact⟨a0,a1,a2,hE,jd,Be,rfl⟩
 .simp at h
theorem all_mk{l:Xy}{w:bq}{K:aU}{h:Heap}{mg:cB}{ip dU x6 BR BV x7 BU BS ez x9 B7 B4 B8 B6 B5 ec x8 B3 B2 BY B0 B1 BZ d2 x5 BK BM BO BG BP BN BL BI BH BJ Ce Cf Cd B9 Gz Gr GA Gs Gy GJ GD GB GC Gv GI GG Gu Gi Gk Gq Gj Gg Gm Gl Gp Gn Gh Zo lE iG g7 hy Gf:Addr}{alv alu alz aly alx alw alJ alM alI alN alL alK alD alH alG alB alE alF alC ali aln alp alr alh als alq alo alk alj alm amf amg ame al1 amb alZ amc al0 ama amq aml amd amk al3 amo amn al2 alQ alS alX alR alO alU alT alW alV alP amj alA:cz}(X:K.In h)(G:h.Ns c5 mg)(anA:mg "law"=some (.ref ip))(Ly:dE K c5 "Net"=some (some (.ref dU)))(QY:uE K dU mr=true)(NP:o3 K dU=true)(Q2:A6 K dU=true)(RO:b1 K (.ref dU) "__setattr__"=some (some (.builtin "object.__setattr__")))(P2:A4 K dU=true)(PB:o4 K (.ref dU)=true)(Qh:b1 K (.ref dU) "kept_houses"=some none)(Qi:b1 K (.ref dU) "kept_roads"=some none)(LS:b1 K (.ref dU) "__init__"=some (some (.ref x6)))(OZ:fO K (.ref x6)=true)(z2:bw K "__init__" "Net.__init__" zS x6 alv)(LR:b1 K (.ref dU) "houses"=some (some (.ref BR)))(OY:fO K (.ref BR)=true)(w1:bw K "houses" "Net.houses" vC BR alu)(LX:b1 K (.ref dU) "roads"=some (some (.ref BV)))(O3:fO K (.ref BV)=true)(w4:bw K "roads" "Net.roads" DV BV alz)(LW:b1 K (.ref dU) "road"=some (some (.ref x7)))(O2:fO K (.ref x7)=true)(uj:bw K "road" "Net.road" tM x7 aly)(LV:b1 K (.ref dU) "out_of"=some (some (.ref BU)))(O1:fO K (.ref BU)=true)(w3:bw K "out_of" "Net.out_of" xy BU alx)(LU:b1 K (.ref dU) "need_house"=some (some (.ref BS)))(O0:fO K (.ref BS)=true)(w2:bw K "need_house" "Net.need_house" zI BS alw)(LF:dE K c5 "Ways"=some (some (.ref ez)))(Q0:uE K ez mr=true)(NR:o3 K ez=true)(Q4:A6 K ez=true)(RQ:b1 K (.ref ez) "__setattr__"=some (some (.builtin "object.__setattr__")))(P5:A4 K ez=true)(PD:o4 K (.ref ez)=true)(Qp:b1 K (.ref ez) "net"=some none)(Qq:b1 K (.ref ez) "told"=some none)(L7:b1 K (.ref ez) "__init__"=some (some (.ref x9)))(Pc:fO K (.ref x9)=true)(z4:bw K "__init__" "Ways.__init__" Er x9 alJ)(L':b1 K (.ref ez) "set_way"=some (some (.ref B7)))(Pf:fO K (.ref B7)=true)(xc:bw K "set_way" "Ways.set_way" y7 B7 alM)(L6:b1 K (.ref ez) "drop_way"=some (some (.ref B4)))(Pb:fO K (.ref B4)=true)(w_:bw K "drop_way" "Ways.drop_way" Ei B4 alI)(L_:b1 K (.ref ez) "way"=some (some (.ref B8)))(Pg:fO K (.ref B8)=true)(xd:bw K "way" "Ways.way" Es B8 alN)(L9:b1 K (.ref ez) "pairs"=some (some (.ref B6)))(Pe:fO K (.ref B6)=true)(xb:bw K "pairs" "Ways.pairs" En B6 alL)(L8:b1 K (.ref ez) "need_pair"=some (some (.ref B5)))(Pd:fO K (.ref B5)=true)(xa:bw K "need_pair" "Ways.need_pair" v_ B5 alK)(LD:dE K c5 "Walk"=some (some (.ref ec)))(QZ:uE K ec mr=true)(NQ:o3 K ec=true)(Q3:A6 K ec=true)(RP:b1 K (.ref ec) "__setattr__"=some (some (.builtin "object.__setattr__")))(P4:A4 K ec=true)(PC:o4 K (.ref ec)=true)(Qn:b1 K (.ref ec) "net"=some none)(Qm:b1 K (.ref ec) "goals"=some none)(Qo:b1 K (.ref ec) "steps"=some none)(L1:b1 K (.ref ec) "__init__"=some (some (.ref x8)))(O8:fO K (.ref x8)=true)(z3:bw K "__init__" "Walk.__init__" AL x8 alD)(L5:b1 K (.ref ec) "take_in"=some (some (.ref B3)))(Pa:fO K (.ref B3)=true)(w':bw K "take_in" "Walk.take_in" zy B3 alH)(L4:b1 K (.ref ec) "send"=some (some (.ref B2)))(O_:fO K (.ref B2)=true)(w9:bw K "send" "Walk.send" zT B2 alG)(LZ:b1 K (.ref ec) "goal"=some (some (.ref BY)))(O6:fO K (.ref BY)=true)(w5:bw K "goal" "Walk.goal" zH BY alB)(L2:b1 K (.ref ec) "last_house"=some (some (.ref B0)))(O9:fO K (.ref B0)=true)(w7:bw K "last_house" "Walk.last_house" y9 B0 alE)(L3:b1 K (.ref ec) "last_turn"=some (some (.ref B1)))(O':fO K (.ref B1)=true)(w8:bw K "last_turn" "Walk.last_turn" y' B1 alF)(L0:b1 K (.ref ec) "home_turn"=some (some (.ref BZ)))(O7:fO K (.ref BZ)=true)(w6:bw K "home_turn" "Walk.home_turn" EJ BZ alC)(Lx:dE K c5 "Day"=some (some (.ref d2)))(QX:uE K d2 mr=true)(NO:o3 K d2=true)(Q1:A6 K d2=true)(RN:b1 K (.ref d2) "__setattr__"=some (some (.builtin "object.__setattr__")))(P1:A4 K d2=true)(PA:o4 K (.ref d2)=true)(P':b1 K (.ref d2) "net"=some none)(Qa:b1 K (.ref d2) "present"=some none)(P_:b1 K (.ref d2) "posted"=some none)(Qe:b1 K (.ref d2) "ways"=some none)(Qc:b1 K (.ref d2) "shut_roads"=some none)(Qd:b1 K (.ref d2) "walk"=some none)(Qb:b1 K (.ref d2) "sent"=some none)(LH:b1 K (.ref d2) "__init__"=some (some (.ref x5)))(OO:fO K (.ref x5)=true)(z1:bw K "__init__" "Day.__init__" xr x5 ali)(LL:b1 K (.ref d2) "now"=some (some (.ref BK)))(OS:fO K (.ref BK)=true)(wV:bw K "now" "Day.now" AX BK aln)(LN:b1 K (.ref d2) "post"=some (some (.ref BM)))(OU:fO K (.ref BM)=true)(wX:bw K "post" "Day.post" zz BM alp)(LP:b1 K (.ref d2) "set_way"=some (some (.ref BO)))(OW:fO K (.ref BO)=true)(wZ:bw K "set_way" "Day.set_way" xt BO alr)(LG:b1 K (.ref d2) "drop_way"=some (some (.ref BG)))(ON:fO K (.ref BG)=true)(wO:bw K "drop_way" "Day.drop_way" xu BG alh)(LQ:b1 K (.ref d2) "shut"=some (some (.ref BP)))(OX:fO K (.ref BP)=true)(w0:bw K "shut" "Day.shut" zB BP als)(LO:b1 K (.ref d2) "reopen"=some (some (.ref BN)))(OV:fO K (.ref BN)=true)(wY:bw K "reopen" "Day.reopen" xv BN alq)(LM:b1 K (.ref d2) "pass_turn"=some (some (.ref BL)))(OT:fO K (.ref BL)=true)(wW:bw K "pass_turn" "Day.pass_turn" zA BL alo)(LJ:b1 K (.ref d2) "log"=some (some (.ref BI)))(OQ:fO K (.ref BI)=true)(wR:bw K "log" "Day.log" uk BI alk)(LI:b1 K (.ref d2) "letters"=some (some (.ref BH)))(OP:fO K (.ref BH)=true)(wQ:bw K "letters" "Day.letters" xq BH alj)(LK:b1 K (.ref d2) "need_road"=some (some (.ref BJ)))(OR:fO K (.ref BJ)=true)(wU:bw K "need_road" "Day.need_road" y6 BJ alm)(Mv:dE K c5 "is_whole"=some (some (.ref Ce)))(xg:bw K "is_whole" "is_whole" vW Ce amf)(Mw:dE K c5 "is_whole_within"=some (some (.ref Cf)))(xh:bw K "is_whole_within" "is_whole_within" vI Cf amg)(Mu:dE K c5 "is_tuple_of"=some (some (.ref Cd)))(xf:bw K "is_tuple_of" "is_tuple_of" vX Cd ame)(Mm:dE K c5 "are_unlike_houses"=some (some (.ref B9)))(xe:bw K "are_unlike_houses" "are_unlike_houses" tq B9 al1)(Mr:dE K c5 "is_name"=some (some (.ref Gz)))(Ai:bw K "is_name" "is_name" zN Gz amb)(Mk:dE K c5 "are_houses"=some (some (.ref Gr)))(Ad:bw K "are_houses" "are_houses" zO Gr alZ)(Ms:dE K c5 "is_road"=some (some (.ref GA)))(Aj:bw K "is_road" "is_road" zP GA amc)(Ml:dE K c5 "are_roads"=some (some (.ref Gs)))(Ae:bw K "are_roads" "are_roads" zQ Gs al0)(Mq:dE K c5 "is_letter"=some (some (.ref Gy)))(Ah:bw K "is_letter" "is_letter" AV Gy ama)(MF:dE K c5 "turns_apart"=some (some (.ref GJ)))(Aq:bw K "turns_apart" "turns_apart" EV GJ amq)(MA:dE K c5 "letters_of"=some (some (.ref GD)))(An:bw K "letters_of" "letters_of" AW GD aml)(Mt:dE K c5 "is_shorter_by"=some (some (.ref GB)))(Ak:bw K "is_shorter_by" "is_shorter_by" EK GB amd)(Mz:dE K c5 "least_turns_from"=some (some (.ref GC)))(Am:bw K "least_turns_from" "least_turns_from" EL GC amk)(Mo:dE K c5 "begins_shortest"=some (some (.ref Gv)))(Ag:bw K "begins_shortest" "begins_shortest" AN Gv al3)(MD:dE K c5 "shortest"=some (some (.ref GI)))(Ap:bw K "shortest" "shortest" y8 GI amo)(MC:dE K c5 "queues_at"=some (some (.ref GG)))(Ao:bw K "queues_at" "queues_at" Eo GG amn)(Mn:dE K c5 "bags_at"=some (some (.ref Gu)))(Af:bw K "bags_at" "bags_at" Ee Gu al2)(Mc:dE K c5 "_law_cell_at"=some (some (.ref Gi)))(z7:bw K "_law_cell_at" "_law_cell_at" Ed Gi alQ)(Me:dE K c5 "_law_houses"=some (some (.ref Gk)))(z9:bw K "_law_houses" "_law_houses" DL Gk alS)(Mj:dE K c5 "_law_road"=some (some (.ref Gq)))(Ac:bw K "_law_road" "_law_road" AJ Gq alX)(Md:dE K c5 "_law_change"=some (some (.ref Gj)))(z8:bw K "_law_change" "_law_change" Eh Gj alR)(Ma:dE K c5 "_law_bags"=some (some (.ref Gg)))(z5:bw K "_law_bags" "_law_bags" Ef Gg alO)(Mg:dE K c5 "_law_passed"=some (some (.ref Gm)))(z_:bw K "_law_passed" "_law_passed" El Gm alU)(Mf:dE K c5 "_law_made"=some (some (.ref Gl)))(z':bw K "_law_made" "_law_made" Ek Gl alT)(Mi:dE K c5 "_law_refused"=some (some (.ref Gp)))(Ab:bw K "_law_refused" "_law_refused" Ep Gp alW)(Mh:dE K c5 "_law_posted"=some (some (.ref Gn)))(Aa:bw K "_law_posted" "_law_posted" Em Gn alV)(Mb:dE K c5 "_law_beside"=some (some (.ref Gh)))(z6:bw K "_law_beside" "_law_beside" Eg Gh alP)(My:dE K c5 "law"=some (some (.ref Zo)))(Al:bw K "law" "law" xw Zo amj){al8:Option Addr}{YS:ue}{aqF:jI}(LC:dE K c5 "RoadError"=some (some (.ref lE)))(PN:K.lookup lE=some ⟨.type "type",al8,.cls YS,aqF⟩){al6:Option Addr}{F6:ue}{RY:jI}(LA:dE K c5 "NoLetter"=some (some (.ref iG)))(Hw:K.lookup iG=some ⟨.type "type",al6,.cls F6,RY⟩){al5:Option Addr}{YR:ue}{ā:jI}(Lz:dE K c5 "NoHouse"=some (some (.ref g7)))(PM:K.lookup g7=some ⟨.type "type",al5,.cls YR,ā⟩){al7:Option Addr}{MJ:ue}{Ă:jI}(LB:dE K c5 "NoRoad"=some (some (.ref hy)))(Hx:K.lookup hy=some ⟨.type "type",al7,.cls MJ,Ă⟩)(LY:b1 K (.ref iG) "__init__"=some (some (.ref Gf)))(O4:fO K (.ref Gf)=true)(E8:bw K "__init__" "NoLetter.__init__" RF Gf alA)(TA:A3 K lE [.type "ValueError",.type "Exception",.type "BaseException",.type "object"] "ValueError.__new__"=true)(Tx:A3 K g7 [.type "ValueError",.type "Exception",.type "BaseException",.type "object"] "ValueError.__new__"=true)(Tz:A3 K hy [.type "ValueError",.type "Exception",.type "BaseException",.type "object"] "ValueError.__new__"=true)(EZ:Jk F6 RY iG iG=true)(EY:Jk YR ā g7 g7=true)(E0:Jk MJ Ă hy hy=true){aqT:Tok}(S1:dE K c5 "MOST_HOUSES"=some (some (.int 12 aqT))){aqV:Tok}(S3:dE K c5 "MOST_ROADS"=some (some (.int 40 aqV))){aqX:Tok}(S5:dE K c5 "MOST_SIGNS"=some (some (.int 8 aqX))){aqZ:Tok}(S7:dE K c5 "MOST_TURNS"=some (some (.int 9 aqZ))){aqW:Tok}(S4:dE K c5 "MOST_ROOM"=some (some (.int 1000000000 aqW))){aqU:Tok}(S2:dE K c5 "MOST_LETTERS"=some (some (.int 40 aqU))){aqY:Tok}(S6:dE K c5 "MOST_TURN"=some (some (.int 1000000000 aqY))){aqS:Tok}(S0:dE K c5 "MOST_APART"=some (some (.int 30 aqS)))(Ug:dE K c5 "len"=some none)(Um:dE K c5 "range"=some none)(Ue:dE K c5 "isinstance"=some none)(T7:dE K c5 "all"=some none)(Ud:dE K c5 "int"=some none)(T':dE K c5 "bool"=some none)(Up:dE K c5 "str"=some none)(Uh:dE K c5 "list"=some none)(Ur:dE K c5 "tuple"=some none)(Un:dE K c5 "set"=some none)(T5:dE K c5 "ValueError"=some none)(Ub:dE K c5 "enumerate"=some none)(Uj:dE K c5 "max"=some none)(Uk:dE K c5 "min"=some none)(Uq:dE K c5 "sum"=some none)(T8:dE K c5 "any"=some none)(Ua:dE K c5 "dict"=some none)(Uo:dE K c5 "sorted"=some none)(Uw:dE K c5 "zip"=some none)(TB:Jm F6 YS RY iG "ValueError.__new__"=true)(Tw:F6.hasDict=true)(R_:b1 K (.ref iG) "__setattr__"=some (some (.builtin "object.__setattr__")))(QT:m2 K (.ref iG) (.type "object")=some true)(Hf:o3 K iG=true)(PG:o4 K (.ref iG)=true)(GN:b1 K (.ref iG) "__getattribute__"=some (some (.builtin "BaseException.__getattribute__")))(HT:b1 K (.ref iG) "__getattr__"=some none)(GV:b1 K (.ref iG) "__class__"=some (some (.builtin "object.__class__")))(G7:sC K (.builtin "object.__class__") "__get__"=some (some (.builtin "getset_descriptor.__get__")))(Hb:A7 K (.builtin "object.__class__")=some true)(G4:pZ K iG (.type "object")=some true)(GW:pZ K iG (.type "BaseException")=some true)(Ro:XG K lE (.type "type")=true)(M':XA K (.ref lE) (.type "type") "__init__"=some (.val (.builtin "ValueError.__init__")))(RW:sC K (.ref lE) "__getattribute__"=some (some (.builtin "type.__getattribute__")))(G':b1 K (.ref iG) "number"=some none)(Qz:MJ.mro.contains (.ref g7)=false)(Nf:b1 K (.ref g7) "__getattribute__"=some (some (.builtin "BaseException.__getattribute__")))(QA:b1 K (.ref g7) "__getattr__"=some none)(Nz:b1 K (.ref g7) "__class__"=some (some (.builtin "object.__class__")))(Od:sC K (.builtin "object.__class__") "__get__"=some (some (.builtin "getset_descriptor.__get__")))(OA:A7 K (.builtin "object.__class__")=some true)(Ob:pZ K g7 (.type "object")=some true)(NF:pZ K g7 (.type "BaseException")=some true)(Ng:b1 K (.ref hy) "__getattribute__"=some (some (.builtin "BaseException.__getattribute__")))(QB:b1 K (.ref hy) "__getattr__"=some none)(NA:b1 K (.ref hy) "__class__"=some (some (.builtin "object.__class__")))(Oe:sC K (.builtin "object.__class__") "__get__"=some (some (.builtin "getset_descriptor.__get__")))(OB:A7 K (.builtin "object.__class__")=some true)(Oc:pZ K hy (.type "object")=some true)(NG:pZ K hy (.type "BaseException")=some true)(C0:KX K lE=true)(ED:uF K (.ref lE)=some (.type "type"))(Pk:KX K g7=true)(Ss:uF K (.ref g7)=some (.type "type"))(Pl:KX K hy=true)(Su:uF K (.ref hy)=some (.type "type"))(ĉ:m2 K (.ref iG) (.type "ValueError")=some true)(R6:m2 K (.ref iG) (.ref lE)=some true)(R5:m2 K (.ref g7) (.type "ValueError")=some true)(R4:m2 K (.ref g7) (.ref lE)=some true)(R3:m2 K (.ref g7) (.ref hy)=some false)(Qw:(cy g7==cy hy)=false)(R9:m2 K (.ref hy) (.type "ValueError")=some true)(R8:m2 K (.ref hy) (.ref lE)=some true)(R7:m2 K (.ref hy) (.ref g7)=some false)(Qx:(cy hy==cy g7)=false):
  ∃fd:cz,(∀(s:aC)(v:Value),zM s fd ⟨[v],[]⟩ [("_law_script",v)])/\∀base:Heap,K.In base->base.Ns c5 mg->aL l.prog w K mg base a5 8 ip fd ["_law_script"] (Fb K):=by
 have e:=anA.symm.trans (eU X G My);cases e;have hp:fp K dU:=⟨QY,NP,Q2,RO⟩
 have JX:=eU X G Ly;have ake:=z2.binds (ps:=["self","houses","roads"]) λ_ _ _ _ _ _ us aj=>by(obtain⟨_,_,_,rfl⟩:=ov aj);rfl
 have Jr:nR K dU x6:=⟨P2,LS,OZ,PB⟩
 have Q_:rg K dU "Net.__init__" zS ["self","houses","roads"] x6 _:=⟨z2,Jr,ake⟩
 have akd:=w1.binds (ps:=["self"]) λ_ _ _ _ _ _ us aj=>by(obtain⟨_,rfl⟩:=nz aj);rfl
 have mv:c0 K dU "houses" "Net.houses" vC ["self"] BR _:=⟨w1,⟨LR,OY,w1.bQ⟩,akd⟩
 have aki:=w4.binds (ps:=["self"]) λ_ _ _ _ _ _ us aj=>by(obtain⟨_,rfl⟩:=nz aj);rfl
 have Hs:c0 K dU "roads" "Net.roads" DV ["self"] BV _:=⟨w4,⟨LX,O3,w4.bQ⟩,aki⟩
 have akh:=uj.binds (ps:=["self","number"]) λ_ _ _ _ _ _ us aj=>by(obtain⟨_,_,rfl⟩:=il aj);rfl
 have n3:c0 K dU "road" "Net.road" tM ["self","number"] x7 _:=⟨uj,⟨LW,O2,uj.bQ⟩,akh⟩
 have akg:=w3.binds (ps:=["self","house"]) λ_ _ _ _ _ _ us aj=>by(obtain⟨_,_,rfl⟩:=il aj);rfl
 have sT:c0 K dU "out_of" "Net.out_of" xy ["self","house"] BU _:=⟨w3,⟨LV,O1,w3.bQ⟩,akg⟩
 have akf:=w2.binds (ps:=["self","house"]) λ_ _ _ _ _ _ us aj=>by(obtain⟨_,_,rfl⟩:=il aj);rfl
 have GK:c0 K dU "need_house" "Net.need_house" zI ["self","house"] BS _:=⟨w2,⟨LU,O0,w2.bQ⟩,akf⟩
 have jM:fp K ez:=⟨Q0,NR,Q4,RQ⟩
 have Uv:=eU X G LF;have aks:=z4.binds (ps:=["self","net"]) λ_ _ _ _ _ _ us aj=>by(obtain⟨_,_,rfl⟩:=il aj);rfl
 have IZ:nR K ez x9:=⟨P5,L7,Pc,PD⟩
 have QN:rg K ez "Ways.__init__" Er ["self","net"] x9 _:=⟨z4,IZ,aks⟩
 have akv:=xc.binds (ps:=["self","house","goal","road"]) λ_ _ _ _ _ _ us aj=>by(obtain⟨_,_,_,_,rfl⟩:=zD aj);rfl
 have sQ:c0 K ez "set_way" "Ways.set_way" y7 ["self","house","goal","road"] B7 _:=⟨xc,⟨L',Pf,xc.bQ⟩,akv⟩
 have akr:=w_.binds (ps:=["self","house","goal"]) λ_ _ _ _ _ _ us aj=>by(obtain⟨_,_,_,rfl⟩:=ov aj);rfl
 have Hm:c0 K ez "drop_way" "Ways.drop_way" Ei ["self","house","goal"] B4 _:=⟨w_,⟨L6,Pb,w_.bQ⟩,akr⟩
 have akw:=xd.binds (ps:=["self","house","goal"]) λ_ _ _ _ _ _ us aj=>by(obtain⟨_,_,_,rfl⟩:=ov aj);rfl
 have HG:c0 K ez "way" "Ways.way" Es ["self","house","goal"] B8 _:=⟨xd,⟨L_,Pg,xd.bQ⟩,akw⟩
 have aku:=xb.binds (ps:=["self"]) λ_ _ _ _ _ _ us aj=>by(obtain⟨_,rfl⟩:=nz aj);rfl
 have Ho:c0 K ez "pairs" "Ways.pairs" En ["self"] B6 _:=⟨xb,⟨L9,Pe,xb.bQ⟩,aku⟩
 have akt:=xa.binds (ps:=["self","house","goal"]) λ_ _ _ _ _ _ us aj=>by(obtain⟨_,_,_,rfl⟩:=ov aj);rfl
 have nZ:c0 K ez "need_pair" "Ways.need_pair" v_ ["self","house","goal"] B5 _:=⟨xa,⟨L8,Pd,xa.bQ⟩,akt⟩
 have kC:fp K ec:=⟨QZ,NQ,Q3,RP⟩
 have TZ:=eU X G LD;have akm:=z3.binds (ps:=["self","net","letters"]) λ_ _ _ _ _ _ us aj=>by(obtain⟨_,_,_,rfl⟩:=ov aj);rfl
 have I2:nR K ec x8:=⟨P4,L1,O8,PC⟩
 have QS:rg K ec "Walk.__init__" AL ["self","net","letters"] x8 _:=⟨z3,I2,akm⟩
 have akq:=w'.binds (ps:=["self","letter"]) λ_ _ _ _ _ _ us aj=>by(obtain⟨_,_,rfl⟩:=il aj);rfl
 have sP:c0 K ec "take_in" "Walk.take_in" zy ["self","letter"] B3 _:=⟨w',⟨L5,Pa,w'.bQ⟩,akq⟩
 have akp:=w9.binds (ps:=["self","bag"]) λ_ _ _ _ _ _ us aj=>by(obtain⟨_,_,rfl⟩:=il aj);rfl
 have HA:c0 K ec "send" "Walk.send" zT ["self","bag"] B2 _:=⟨w9,⟨L4,O_,w9.bQ⟩,akp⟩
 have akk:=w5.binds (ps:=["self","number"]) λ_ _ _ _ _ _ us aj=>by(obtain⟨_,_,rfl⟩:=il aj);rfl
 have Ht:c0 K ec "goal" "Walk.goal" zH ["self","number"] BY _:=⟨w5,⟨LZ,O6,w5.bQ⟩,akk⟩
 have akn:=w7.binds (ps:=["self","number"]) λ_ _ _ _ _ _ us aj=>by(obtain⟨_,_,rfl⟩:=il aj);rfl
 have sS:c0 K ec "last_house" "Walk.last_house" y9 ["self","number"] B0 _:=⟨w7,⟨L2,O9,w7.bQ⟩,akn⟩
 have ako:=w8.binds (ps:=["self","number"]) λ_ _ _ _ _ _ us aj=>by(obtain⟨_,_,rfl⟩:=il aj);rfl
 have sM:c0 K ec "last_turn" "Walk.last_turn" y' ["self","number"] B1 _:=⟨w8,⟨L3,O',w8.bQ⟩,ako⟩
 have akl:=w6.binds (ps:=["self","number"]) λ_ _ _ _ _ _ us aj=>by(obtain⟨_,_,rfl⟩:=il aj);rfl
 have GL:c0 K ec "home_turn" "Walk.home_turn" EJ ["self","number"] BZ _:=⟨w6,⟨L0,O7,w6.bQ⟩,akl⟩
 have fq:fp K d2:=⟨QX,NO,Q1,RN⟩
 have zi:=eU X G Lx;have aj3:=z1.binds (ps:=["self","net","first"]) λ_ _ _ _ _ _ us aj=>by(obtain⟨_,_,_,rfl⟩:=ov aj);rfl
 have v3:nR K d2 x5:=⟨P1,LH,OO,PA⟩
 have yx:rg K d2 "Day.__init__" xr ["self","net","first"] x5 _:=⟨z1,v3,aj3⟩
 have aj7:=wV.binds (ps:=["self"]) λ_ _ _ _ _ _ us aj=>by(obtain⟨_,rfl⟩:=nz aj);rfl
 have Ig:c0 K d2 "now" "Day.now" AX ["self"] BK _:=⟨wV,⟨LL,OS,wV.bQ⟩,aj7⟩
 have aj9:=wX.binds (ps:=["self","house","goal"]) λ_ _ _ _ _ _ us aj=>by(obtain⟨_,_,_,rfl⟩:=ov aj);rfl
 have n4:c0 K d2 "post" "Day.post" zz ["self","house","goal"] BM _:=⟨wX,⟨LN,OU,wX.bQ⟩,aj9⟩
 have akb:=wZ.binds (ps:=["self","house","goal","road"]) λ_ _ _ _ _ _ us aj=>by(obtain⟨_,_,_,_,rfl⟩:=zD aj);rfl
 have p7:c0 K d2 "set_way" "Day.set_way" xt ["self","house","goal","road"] BO _:=⟨wZ,⟨LP,OW,wZ.bQ⟩,akb⟩
 have aj2:=wO.binds (ps:=["self","house","goal"]) λ_ _ _ _ _ _ us aj=>by(obtain⟨_,_,_,rfl⟩:=ov aj);rfl
 have sR:c0 K d2 "drop_way" "Day.drop_way" xu ["self","house","goal"] BG _:=⟨wO,⟨LG,ON,wO.bQ⟩,aj2⟩
 have akc:=w0.binds (ps:=["self","road"]) λ_ _ _ _ _ _ us aj=>by(obtain⟨_,_,rfl⟩:=il aj);rfl
 have ta:c0 K d2 "shut" "Day.shut" zB ["self","road"] BP _:=⟨w0,⟨LQ,OX,w0.bQ⟩,akc⟩
 have aka:=wY.binds (ps:=["self","road"]) λ_ _ _ _ _ _ us aj=>by(obtain⟨_,_,rfl⟩:=il aj);rfl
 have sW:c0 K d2 "reopen" "Day.reopen" xv ["self","road"] BN _:=⟨wY,⟨LO,OV,wY.bQ⟩,aka⟩
 have aj8:=wW.binds (ps:=["self"]) λ_ _ _ _ _ _ us aj=>by(obtain⟨_,rfl⟩:=nz aj);rfl
 have sO:c0 K d2 "pass_turn" "Day.pass_turn" zA ["self"] BL _:=⟨wW,⟨LM,OT,wW.bQ⟩,aj8⟩
 have aj5:=wR.binds (ps:=["self"]) λ_ _ _ _ _ _ us aj=>by(obtain⟨_,rfl⟩:=nz aj);rfl
 have n2:c0 K d2 "log" "Day.log" uk ["self"] BI _:=⟨wR,⟨LJ,OQ,wR.bQ⟩,aj5⟩
 have aj4:=wQ.binds (ps:=["self"]) λ_ _ _ _ _ _ us aj=>by(obtain⟨_,rfl⟩:=nz aj);rfl
 have sU:c0 K d2 "letters" "Day.letters" xq ["self"] BH _:=⟨wQ,⟨LI,OP,wQ.bQ⟩,aj4⟩
 have aj6:=wU.binds (ps:=["self","number"]) λ_ _ _ _ _ _ us aj=>by(obtain⟨_,_,rfl⟩:=il aj);rfl
 have sN:c0 K d2 "need_road" "Day.need_road" y6 ["self","number"] BJ _:=⟨wU,⟨LK,OR,wU.bQ⟩,aj6⟩
 have akU:=xg.binds (ps:=["thing"]) λ_ _ _ _ _ _ us aj=>by(obtain⟨_,rfl⟩:=nz aj);rfl
 have qa:dJ K mg "is_whole" vW ["thing"] Ce _:=⟨xg,eU X G Mv,akU⟩
 have akV:=xh.binds (ps:=["thing","least","greatest"]) λ_ _ _ _ _ _ us aj=>by(obtain⟨_,_,_,rfl⟩:=ov aj);rfl
 have m6:dJ K mg "is_whole_within" vI ["thing","least","greatest"] Cf _:=⟨xh,eU X G Mw,akV⟩
 have akT:=xf.binds (ps:=["thing","length"]) λ_ _ _ _ _ _ us aj=>by(obtain⟨_,_,rfl⟩:=il aj);rfl
 have p6:dJ K mg "is_tuple_of" vX ["thing","length"] Cd _:=⟨xf,eU X G Mu,akT⟩
 have akK:=xe.binds (ps:=["houses","one","other"]) λ_ _ _ _ _ _ us aj=>by(obtain⟨_,_,_,rfl⟩:=ov aj);rfl
 have lQ:dJ K mg "are_unlike_houses" tq ["houses","one","other"] B9 _:=⟨xe,eU X G Mm,akK⟩
 have akQ:=Ai.binds (ps:=["thing"]) λ_ _ _ _ _ _ us aj=>by(obtain⟨_,rfl⟩:=nz aj);rfl
 have Dq:dJ K mg "is_name" zN ["thing"] Gz _:=⟨Ai,eU X G Mr,akQ⟩
 have akI:=Ad.binds (ps:=["things"]) λ_ _ _ _ _ _ us aj=>by(obtain⟨_,rfl⟩:=nz aj);rfl
 have CY:dJ K mg "are_houses" zO ["things"] Gr _:=⟨Ad,eU X G Mk,akI⟩
 have akR:=Aj.binds (ps:=["houses","thing"]) λ_ _ _ _ _ _ us aj=>by(obtain⟨_,_,rfl⟩:=il aj);rfl
 have Dr:dJ K mg "is_road" zP ["houses","thing"] GA _:=⟨Aj,eU X G Ms,akR⟩
 have akJ:=Ae.binds (ps:=["houses","things"]) λ_ _ _ _ _ _ us aj=>by(obtain⟨_,_,rfl⟩:=il aj);rfl
 have C':dJ K mg "are_roads" zQ ["houses","things"] Gs _:=⟨Ae,eU X G Ml,akJ⟩
 have akP:=Ah.binds (ps:=["houses","thing"]) λ_ _ _ _ _ _ us aj=>by(obtain⟨_,_,rfl⟩:=il aj);rfl
 have Dc:dJ K mg "is_letter" AV ["houses","thing"] Gy _:=⟨Ah,eU X G Mq,akP⟩
 have ak5:=Aq.binds (ps:=["letters"]) λ_ _ _ _ _ _ us aj=>by(obtain⟨_,rfl⟩:=nz aj);rfl
 have Cp:dJ K mg "turns_apart" EV ["letters"] GJ _:=⟨Aq,eU X G MF,ak5⟩
 have akX:=An.binds (ps:=["net","some"]) λ_ _ _ _ _ _ us aj=>by(obtain⟨_,_,rfl⟩:=il aj);rfl
 have CZ:dJ K mg "letters_of" AW ["net","some"] GD _:=⟨An,eU X G MA,akX⟩
 have akS:=Ak.binds (ps:=["road","found"]) λ_ _ _ _ _ _ us aj=>by(obtain⟨_,_,rfl⟩:=il aj);rfl
 have BW:dJ K mg "is_shorter_by" EK ["road","found"] GB _:=⟨Ak,eU X G Mt,akS⟩
 have akW:=Am.binds (ps:=["roads","house"]) λ_ _ _ _ _ _ us aj=>by(obtain⟨_,_,rfl⟩:=il aj);rfl
 have Bp:dJ K mg "least_turns_from" EL ["roads","house"] GC _:=⟨Am,eU X G Mz,akW⟩
 have akM:=Ag.binds (ps:=["road","far_from","goal"]) λ_ _ _ _ _ _ us aj=>by(obtain⟨_,_,_,rfl⟩:=ov aj);rfl
 have Bo:dJ K mg "begins_shortest" AN ["road","far_from","goal"] Gv _:=⟨Ag,eU X G Mo,akM⟩
 have ak2:=Ap.binds (ps:=["net"]) λ_ _ _ _ _ _ us aj=>by(obtain⟨_,rfl⟩:=nz aj);rfl
 have qb:dJ K mg "shortest" y8 ["net"] GI _:=⟨Ap,eU X G MD,ak2⟩
 have ak1:=Ao.binds (ps:=["walk","going","ways","turn"]) λ_ _ _ _ _ _ us aj=>by(obtain⟨_,_,_,_,rfl⟩:=zD aj);rfl
 have C_:dJ K mg "queues_at" Eo ["walk","going","ways","turn"] GG _:=⟨Ao,eU X G MC,ak1⟩
 have akL:=Af.binds (ps:=["net","walk","going","ways","turn"]) λ_ _ _ _ _ _ us aj=>by(obtain⟨_,_,_,_,_,rfl⟩:=KV aj);rfl
 have Du:dJ K mg "bags_at" Ee ["net","walk","going","ways","turn"] Gu _:=⟨Af,eU X G Mn,akL⟩
 have akz:=z7.binds (ps:=["_law_script","_law_k"]) λ_ _ _ _ _ _ us aj=>by(obtain⟨_,_,rfl⟩:=il aj);rfl
 have jq:dJ K mg "_law_cell_at" Ed ["_law_script","_law_k"] Gi _:=⟨z7,eU X G Mc,akz⟩
 have akB:=z9.binds (ps:=["_law_cell","_law_many"]) λ_ _ _ _ _ _ us aj=>by(obtain⟨_,_,rfl⟩:=il aj);rfl
 have Cq:dJ K mg "_law_houses" DL ["_law_cell","_law_many"] Gk _:=⟨z9,eU X G Me,akB⟩
 have akG:=Ac.binds (ps:=["_law_cell","_law_names"]) λ_ _ _ _ _ _ us aj=>by(obtain⟨_,_,rfl⟩:=il aj);rfl
 have De:dJ K mg "_law_road" AJ ["_law_cell","_law_names"] Gq _:=⟨Ac,eU X G Mj,akG⟩
 have akA:=z8.binds (ps:=["_law_day","_law_names","_law_lines","_law_n"]) λ_ _ _ _ _ _ us aj=>by(obtain⟨_,_,_,_,rfl⟩:=zD aj);rfl
 have Ct:dJ K mg "_law_change" Eh ["_law_day","_law_names","_law_lines","_law_n"] Gj _:=⟨z8,eU X G Md,akA⟩
 have akx:=z5.binds (ps:=["_law_letters","_law_stood","_law_told","_law_closed","_law_lines","_law_now"]) λ_ _ _ _ _ _ us aj=>by(obtain⟨_,_,_,_,_,_,rfl⟩:=aiy aj);rfl
 have Df:dJ K mg "_law_bags" Ef ["_law_letters","_law_stood","_law_told","_law_closed","_law_lines","_law_now"] Gg _:=⟨z5,eU X G Ma,akx⟩
 have akD:=z_.binds (ps:=["_law_day","_law_due","_law_log","_law_n"]) λ_ _ _ _ _ _ us aj=>by(obtain⟨_,_,_,_,rfl⟩:=zD aj);rfl
 have Cr:dJ K mg "_law_passed" El ["_law_day","_law_due","_law_log","_law_n"] Gm _:=⟨z_,eU X G Mg,akD⟩
 have akC:=z'.binds (ps:=["_law_deed","_law_told","_law_closed"]) λ_ _ _ _ _ _ us aj=>by(obtain⟨_,_,_,rfl⟩:=ov aj);rfl
 have Dg:dJ K mg "_law_made" Ek ["_law_deed","_law_told","_law_closed"] Gl _:=⟨z',eU X G Mf,akC⟩
 have akF:=Ab.binds (ps:=["_law_day","_law_names","_law_lines","_law_n"]) λ_ _ _ _ _ _ us aj=>by(obtain⟨_,_,_,_,rfl⟩:=zD aj);rfl
 have Cv:dJ K mg "_law_refused" Ep ["_law_day","_law_names","_law_lines","_law_n"] Gp _:=⟨Ab,eU X G Mi,akF⟩
 have akE:=Aa.binds (ps:=["_law_day","_law_house","_law_goal","_law_number","_law_n"]) λ_ _ _ _ _ _ us aj=>by(obtain⟨_,_,_,_,_,rfl⟩:=KV aj);rfl
 have Cs:dJ K mg "_law_posted" Em ["_law_day","_law_house","_law_goal","_law_number","_law_n"] Gn _:=⟨Aa,eU X G Mh,akE⟩
 have aky:=z6.binds (ps:=["_law_net","_law_lines","_law_pairs","_law_first","_law_n"]) λ_ _ _ _ _ _ us aj=>by(obtain⟨_,_,_,_,_,rfl⟩:=KV aj);rfl
 have Cn:dJ K mg "_law_beside" Eg ["_law_net","_law_lines","_law_pairs","_law_first","_law_n"] Gh _:=⟨z6,eU X G Mb,aky⟩
 have ath:=Al.binds (ps:=["_law_script"]) λ_ _ _ _ _ _ us aj=>by(obtain⟨_,rfl⟩:=nz aj);rfl
 have p':=eU X G LC;have vh:=eU X G LA;have C4:=eU X G Lz;have Dz:=eU X G LB;have akj:=E8.binds (ps:=["self","number"]) λ_ _ _ _ _ _ us aj=>by(obtain⟨_,_,rfl⟩:=il aj);rfl
 have Ţ:Exc K mg "RoadError" lE _ _:=⟨p',TA⟩
 have yw:Exc K mg "NoHouse" g7 _ _:=⟨C4,Tx⟩
 have yt:Exc K mg "NoRoad" hy _ _:=⟨Dz,Tz⟩
 have EZ:=RE Hw EZ;have EY:=RE PM EY;have E0:=RE Hx E0;have mY:AA mg:=⟨⟨_,eU X G S1⟩,⟨_,eU X G S3⟩,⟨_,eU X G S5⟩,⟨_,eU X G S7⟩,⟨_,eU X G S4⟩⟩
 have uc:Lq mg:=⟨⟨_,eU X G S2⟩,⟨_,eU X G S6⟩,⟨_,eU X G S0⟩⟩
 have B:gg mg:=⟨j_ X G Ug,j_ X G Um,j_ X G Ue,j_ X G T7,j_ X G Ud,j_ X G T',j_ X G Up,j_ X G Uh,j_ X G Ur,j_ X G Un,j_ X G T5,j_ X G Ub,j_ X G Uj,j_ X G Uk,j_ X G Uq,j_ X G T8,j_ X G Ua,j_ X G Uo,j_ X G Uw⟩
 obtain⟨_,_,dg,al4,pm,an,cd,e0,_,rfl,_,_⟩:=id Al.ex;refine⟨xN "law" "law" (DZ xw) (tm xw) (c3 xw) .none dg al4 pm an cd e0,λs v=>.of_eq rfl,λbase _ _=>?_⟩;have fU:sf K dU:=⟨hp,Qh,Qi⟩
 have KT:Wv K:=⟨agF K⟩
 have C7:aL l.prog w K mg base a5 1 Ce _ ["thing"] TN:=ac3 xg B KT;have xX:aL l.prog w K mg base a5 2 Cf _ ["thing","least","greatest"] SU:=abM xh qa C7;have Co:aL l.prog w K mg base a5 1 Cd _ ["thing","length"] TO:=ac4 xf B;have uY:aL l.prog w K mg base a5 1 B9 _ ["houses","one","other"] (SV K):=abN xe;have RJ:aL l.prog w K mg base a5 1 Gz _ ["thing"] JI:=aeN Ai B mY;have PX:aL l.prog w K mg base a5 2 Gr _ ["things"] JJ:=aeO Ad B mY Dq RJ;have RK:aL l.prog w K mg base a5 3 GA _ ["houses","thing"] (JO K):=aeP Aj mY p6 Co lQ uY m6 xX;have QL:aL l.prog w K mg base a5 4 Gs _ ["houses","things"] (JP K):=aeQ Ae B mY Dr RK;have Ra:aL l.prog w K mg base a5 5 x6 _ ["self","houses","roads"] (JQ K dU):=aeR z2 B fU CY PX C' QL;have aaW:aL l.prog w K mg base a5 1 Ce _ ["thing"] S9:=abS xg B;have aaV:aL l.prog w K mg base a5 2 Cf _ ["thing","least","greatest"] Sr:=aaL xh qa aaW;have Gt:aL l.prog w K mg base a5 1 Cd _ ["thing","length"] S':=abT xf B;have VS:aL l.prog w K mg base a5 1 B9 _ ["houses","one","other"] Ie:=aaM xe;have Dd:p3 K mg "RoadError" iG lE:=⟨Ţ,⟨_,_,_,_,_,_,Hw,PN,TB,Tw⟩,R_,QT,Ro,M',RW,⟨GN,HT,GV,G7,Hb,G4,GW⟩,Hf⟩
 have lM:YD K iG lE:=⟨EZ,(D_ C0 ED R6 (λ_=>rfl)),⟨GN,HT,GV,G7,Hb,G4,GW⟩,G',Hf⟩
 have gk:YE K lE g7 hy:=⟨EY,⟨Nf,QA,Nz,Od,OA,Ob,NF⟩,(D_ C0 ED R4 (λ_=>rfl)),(Xp (by decide+kernel) R5),Xq _ _,(D_ Pl Su R3 (λh=>bE (h.symm.trans Qw) (by decide))),E0,⟨_,_,_,Hx,Qz⟩,⟨Ng,QB,NA,Oe,OB,Oc,NG⟩,(D_ C0 ED R8 (λ_=>rfl)),(Xp (by decide+kernel) R9),(D_ Pk Ss R7 (λh=>bE (h.symm.trans Qx) (by decide))),Xq _ _⟩
 have o8:qK K ez:=⟨jM,Qp,Qq⟩
 have da:rX K ec:=⟨kC,Qn,Qm,Qo⟩
 have ct:ut K d2:=⟨fq,P',Qa,P_,Qe,Qc,Qd,Qb⟩
 have Hi:aL l.prog w K mg base a5 1 Gf _ ["self","number"] (FW iG):=ah2 E8 Dd p' G';have p8:aL l.prog w K mg base a5 1 BR _ ["self"] (Dp dU):=aaz w1 B fU;have QR:aL l.prog w K mg base a5 3 Gy _ ["houses","thing"] J2:=ahl Ah uc p6 Gt lQ VS m6 aaV;have PO:aL l.prog w K mg base a5 1 GJ _ ["letters"] TY:=adO Aq B;have aiz:aL l.prog w K mg base (mX l.prog w) 4 GD _ ["net","some"] (KL dU iG):=ahm An B uc hp mv p8 Dc QR Cp PO Dd vh PG LY O4 Hi akj;have QM:aL l.prog w K mg base a5 1 BV _ ["self"] (SW dU):=abP w4 B fU;have Pw:aL l.prog w K mg base (d9 l.prog w) 1 BS _ ["self","house"] (JY dU g7):=afF w2 fU A0 yw;have Yu:aL l.prog w K mg base a5 1 x7 _ ["self","number"] (IW dU):=acP uj B fU;have ai0:aL l.prog w K mg base (d9 l.prog w) 1 x7 _ ["self","number"] (TQ dU hy):=ade uj B fU A0 yt;have yc:aL l.prog w K mg base (d9 l.prog w) 2 BU _ ["self","house"] (Fn dU g7 (·.a)):=ag6 w3 B fU GK Pw;have Pp:aL l.prog w K mg base a5 1 GB _ ["road","found"] Us:=adt Ak;have Pn:aL l.prog w K mg base a5 2 GC _ ["roads","house"] (Ut K):=adu Am BW Pp;have QO:aL l.prog w K mg base a5 1 x9 _ ["self","net"] (Lm ez):=aim z4 o8;have rm:aL l.prog w K mg base (d9 l.prog w) 2 B5 _ ["self","house","goal"] (AK ez dU g7):=ain xa o8 hp A0 yw mv p8 lQ VS;have x1:aL l.prog w K mg base (d9 l.prog w) 3 B7 _ ["self","house","goal","road"] (FY ez dU g7 hy):=aio xc o8 hp A0 yt sT yc nZ rm;have Rj:aL l.prog w K mg base (d9 l.prog w) 3 B8 _ ["self","house","goal"] (Ln ez dU g7):=ahW xd o8 nZ rm;have ai1:aL l.prog w K mg base (d9 l.prog w) 3 B4 _ ["self","house","goal"] (Lj ez dU g7):=ahU w_ o8 nZ rm;have ai2:aL l.prog w K mg base a5 1 B6 _ ["self"] (Li ez):=aiU xb B o8;have aiA:aL l.prog w K mg base a5 1 Gv _ ["road","far_from","goal"] KG:=ahd Ag;have Yv:aL l.prog w K mg base a5 4 GI _ ["net"] (F0 ez dU):=ahY Ap B o8 hp Uv mv p8 Hs QM sT yc Bp Pn Bo aiA IZ QN QO sQ x1;have Yw:aL l.prog w K mg base a5 1 B3 _ ["self","letter"] (Js ec):=aeB w' da;have ai3:aL l.prog w K mg base a5 2 x8 _ ["self","net","letters"] (Kt ec):=agv z3 da sP Yw;have ai4:aL l.prog w K mg base a5 1 BY _ ["self","number"] (JS ec):=afC w5 da;have Yx:aL l.prog w K mg base a5 1 B0 _ ["self","number"] (IU ec):=ac8 w7 da;have Yy:aL l.prog w K mg base a5 1 B1 _ ["self","number"] (IV ec):=ac9 w8 da;have ajI:aL l.prog w K mg base a5 2 BZ _ ["self","number"] (Uc ec):=adb w6 da sS Yx sM Yy;have ajJ:aL l.prog w K mg base a5 2 B2 _ ["self","bag"] (JV ec dU):=afB w9 da hp n3 Yu;have ajK:aL l.prog w K mg base a5 4 GG _ ["walk","going","ways","turn"] (Lp K ec ez dU):=ah0 Ao da o8 sM Yy sS Yx Ht ai4 HG Rj;have ajL:aL l.prog w K mg base a5 5 Gu _ ["net","walk","going","ways","turn"] (KI K ec ez dU):=ahi Af B hp C_ ajK n3 Yu;have Yz:aL l.prog w K mg base a5 5 x5 _ ["self","net","first"] (Fh d2 ec ez dU):=agW z1 ct TZ qb Yv I2 QS ai3;have ajM:aL l.prog w K mg base a5 1 BK _ ["self"] (KP d2 ec ez dU):=aho wV ct;have YA:aL l.prog w K mg base a5 1 BH _ ["self"] (Fg d2 ec ez dU):=agU wQ B ct;have Yp:aL l.prog w K mg base (mX l.prog w) 5 BM _ ["self","house","goal"] (Jp d2 ec ez dU iG):=afs wX B ct kC CZ aiz sP Yw;have Yq:aL l.prog w K mg base a5 6 BL _ ["self"] (Jq K d2 ec ez dU):=afw wW B ct kC GL ajI Du ajL HA ajJ;have ajN:aL l.prog w K mg base a5 1 Gi _ ["_law_script","_law_k"] (K' K):=aie z7 B.len;have ajO:aL l.prog w K mg base a5 1 Gk _ ["_law_cell","_law_many"] RI:=aay z9 B;have ajP:aL l.prog w K mg base a5 1 Gq _ ["_law_cell","_law_names"] Kr:=agp Ac B;have XP:aL l.prog w K mg base (d9 l.prog w) 4 BO _ ["self","house","goal","road"] (Fi d2 ec ez dU g7 hy):=agY wZ ct jM sQ x1;have XQ:aL l.prog w K mg base (d9 l.prog w) 4 BG _ ["self","house","goal"] (Fj d2 ec ez dU g7):=agZ wO ct jM Hm ai1;have Yr:aL l.prog w K mg base (d9 l.prog w) 2 BJ _ ["self","number"] (FX d2 ec ez dU hy):=aiD wU ct hp n3 ai0;have XR:aL l.prog w K mg base (d9 l.prog w) 3 BP _ ["self","road"] (t5 d2 ec ez dU hy zV):=afx w0 ct sN Yr;have X9:aL l.prog w K mg base (d9 l.prog w) 3 BN _ ["self","road"] (t5 d2 ec ez dU hy vK):=ag2 wY ct sN Yr;have Lv:aL l.prog w K mg base a5 1 BI _ ["self"] (zW d2 ec ez dU):=agS wR B ct;have ajQ:aL l.prog w K mg base a5 5 Gj _ DP (Lb d2 ec ez dU):=aiH z8 B fq ta XR sW X9 sR XQ p7 XP;have ajR:aL l.prog w K mg base a5 1 Gg _ DN Ld:=aiM z5 B;have ajS:aL l.prog w K mg base a5 7 Gm _ DQ (Le d2 ec ez dU):=aiO z_ B fq sO Yq n2 Lv;have ajT:aL l.prog w K mg base a5 1 Gl _ yW Lc:=aiK z' B;have ajU:aL l.prog w K mg base a5 5 Gp _ DS (Lh d2 ec ez dU):=aiS Ab B fq gk p' C4 Dz ta XR sW X9 sR XQ p7 XP;have ajV:aL l.prog w K mg base a5 6 Gn _ DR (Lg d2 ec ez dU):=aiQ Aa B fq lM p' vh n4 Yp;have ajW:aL l.prog w K mg base a5 7 Gh _ DO (Lu dU):=aiw z6 B fq zi v3 yx Yz n2 Lv sU YA n4 Yp sO Yq;exact ahI Al B o8 JX zi fq jq ajN Cq ajO De ajP Jr Q_ Ra v3 yx Yz qb Yv Ho ai2 Df ajR Cr ajS Cs ajV Cv ajU Ct ajQ Dg ajT Cn ajW n2 Lv Ig ajM sU YA
theorem walk{l:Xy}{q:bJ}{loose:cf}{xT:cB->Heap->Prop}{sH:bq->Heap->Prop}{d:DefRec}{K:Params->aU}(aS:l.most=some 63)(qm:d.params.defaults=[])(Ny:∀(w:bq)(h:Heap),sH w h->(K w.params).In h)(F:∀(w:bq)(mg:cB)(ip:Addr)(h:Heap),(K w.params).In h->h.Ns c5 mg->mg d.name=some (.ref ip)->
   ∃fd:cz,(∀(s:aC)(u:Value),zM s fd ⟨[u],[]⟩ [("_law_script",u)])/\∀base:Heap,(K w.params).In base->base.Ns c5 mg->aL l.prog w (K w.params) mg base a5 8 ip fd ["_law_script"] (Fb (K w.params))):
  aek q loose xT sH l.row.toRowW d [] (λf vs=>XJ f vs):=
 ao.arB (n:=63) (k:=8) (x:="_law_script") (CX:=λ_=>a5) (sp:=λw=>Fb (K w.params)) aS (by decide) qm ⟨rfl,by decide,by decide⟩ Ny F (λ_ _ a ns aj _ fD=>⟨a,ns,rfl,fD,aj,λ_=>rfl⟩) λ_ _ _ _ _ z=>z
end dY
noncomputable def PySem.W.Fast.tw9789765055586844105:Unit:=()
noncomputable def PySem.W.Fast.tw1510889613691962231:Unit:=()
noncomputable def PySem.W.Fast.tw12618381650228764099:Unit:=()
noncomputable def PySem.W.Fast.tw3554272326462767836:Unit:=()
noncomputable def PySem.W.Fast.tw16728220854990189159:Unit:=()
noncomputable def PySem.W.Fast.tw6535453594093378878:Unit:=()
noncomputable def PySem.W.Fast.tw13180325639674067098:Unit:=()
noncomputable def PySem.W.Fast.tw16949754842922991017:Unit:=()
noncomputable def PySem.W.Fast.tw14011649105054903778:Unit:=()
noncomputable def PySem.W.Fast.tw17219331358284397676:Unit:=()
noncomputable def PySem.W.Fast.tw17015916298109022674:Unit:=()
noncomputable def PySem.W.Fast.tw3102830403176326499:Unit:=()
noncomputable def PySem.W.Fast.tw82689314927563112:Unit:=()
noncomputable def PySem.W.Fast.tw7807467501654037530:Unit:=()
noncomputable def PySem.W.Fast.tw14585981387896435580:Unit:=()
noncomputable def PySem.W.Fast.tw9147242991836450205:Unit:=()
noncomputable def PySem.W.Fast.tw327607526988772942:Unit:=()
noncomputable def PySem.W.Fast.tw5064319080011177658:Unit:=()
noncomputable def PySem.W.Fast.tw2375864139763896371:Unit:=()
noncomputable def PySem.W.Fast.tw8870371654586705752:Unit:=()
noncomputable def PySem.W.Fast.tw9815450237018939788:Unit:=()
noncomputable def PySem.W.Fast.tw8014306633673355344:Unit:=()
noncomputable def PySem.W.Fast.tw15992926189498013245:Unit:=()
noncomputable def PySem.W.Fast.tw16079882446690847585:Unit:=()
noncomputable def PySem.W.Fast.tw12656337479505665592:Unit:=()
noncomputable def PySem.W.Fast.tw14079848438546226608:Unit:=()
noncomputable def PySem.W.Fast.tw9599752968661041386:Unit:=()
noncomputable def PySem.W.Fast.tw13228402915407261840:Unit:=()
noncomputable def PySem.W.Fast.tw10485970323351135470:Unit:=()
noncomputable def PySem.W.Fast.tw10682341915939878520:Unit:=()
noncomputable def PySem.W.Fast.tw133150751447037810:Unit:=()
noncomputable def PySem.W.Fast.tw13330484093512933037:Unit:=()
noncomputable def PySem.W.Fast.tw3191274937980835604:Unit:=()
noncomputable def PySem.W.Fast.tw9325472012736090212:Unit:=()
noncomputable def PySem.W.Fast.tw3615549721023013019:Unit:=()
noncomputable def PySem.W.Fast.tw1173990640021847097:Unit:=()
noncomputable def PySem.W.Fast.tw10365875319188329993:Unit:=()
noncomputable def PySem.W.Fast.tw10131697623202699659:Unit:=()
noncomputable def PySem.W.Fast.tw1693899468666659447:Unit:=()
noncomputable def PySem.W.Fast.tw6240207457315944786:Unit:=()
noncomputable def PySem.W.Fast.tw57085781522757162:Unit:=()
noncomputable def PySem.W.Fast.tw12268668679929581151:Unit:=()
noncomputable def PySem.W.Fast.tw2964087793375774336:Unit:=()
noncomputable def PySem.W.Fast.tw13391623230554155662:Unit:=()
noncomputable def PySem.W.Fast.tw1093800383485907356:Unit:=()
noncomputable def PySem.W.Fast.tw11458638705460551141:Unit:=()
noncomputable def PySem.W.Fast.tw5628284431829954152:Unit:=()
noncomputable def PySem.W.Fast.tw17965870672579498394:Unit:=()
noncomputable def PySem.W.Fast.tw9515367422698262874:Unit:=()
noncomputable def PySem.W.Fast.tw15938999373844750626:Unit:=()
noncomputable def PySem.W.Fast.tw1308470437025747070:Unit:=()
noncomputable def PySem.W.Fast.tw6454361809792798739:Unit:=()
noncomputable def PySem.W.Fast.tw4197036740219952027:Unit:=()
noncomputable def PySem.W.Fast.tw16988955803028574685:Unit:=()
noncomputable def PySem.W.Fast.tw7371716822574044431:Unit:=()
noncomputable def PySem.W.Fast.tw10300809705098753434:Unit:=()
noncomputable def PySem.W.Fast.tw10358485792046926281:Unit:=()
noncomputable def PySem.W.Fast.tw11480217912597159212:Unit:=()
noncomputable def PySem.W.Fast.tw16370234857236867161:Unit:=()
noncomputable def PySem.W.Fast.tw11914166117604871605:Unit:=()
noncomputable def PySem.W.Fast.tw6239904739237615090:Unit:=()
noncomputable def PySem.W.Fast.tw15529450366963377625:Unit:=()
noncomputable def PySem.W.Fast.tw9258701516254048326:Unit:=()
noncomputable def PySem.W.Fast.tw7177599905654853372:Unit:=()
noncomputable def PySem.W.Fast.tw13098900288033009725:Unit:=()
open PySem PySem.W PyProof.Rows
set_option maxRecDepth 100000 in
set_option maxHeartbeats 0 in
theorem PySem.Challenge.cw_postroad_k72_a_turns_bags_holds : PySem.Challenge.rw_postroad_k72_a_turns_bags.Holds := by
 w_on;o_law;k_head;(case hw=>w_witness2)
 k_fill
 refine dY.walk (l:=asI) rfl rfl (λw h Y=>PySem.W.kIn_of Y) ?F
 case F=>
  intro w mg ip h pS G CL
  refine' dY.all_mk pS G CL ?Ly ?QY ?NP ?Q2 ?RO ?P2 ?PB ?Qh ?Qi ?LS ?OZ ?z2 ?LR ?OY ?w1 ?LX ?O3 ?w4 ?LW ?O2 ?uj ?LV ?O1 ?w3 ?LU ?O0 ?w2 ?LF ?Q0 ?NR ?Q4 ?RQ ?P5 ?PD ?Qp ?Qq ?L7 ?Pc ?z4 ?L' ?Pf ?xc ?L6 ?Pb ?w_ ?L_ ?Pg ?xd ?L9 ?Pe ?xb ?L8 ?Pd ?xa ?LD ?QZ ?NQ ?Q3 ?RP ?P4 ?PC ?Qn ?Qm ?Qo ?L1 ?O8 ?z3 ?L5 ?Pa ?w' ?L4 ?O_ ?w9 ?LZ ?O6 ?w5 ?L2 ?O9 ?w7 ?L3 ?O' ?w8 ?L0 ?O7 ?w6 ?Lx ?QX ?NO ?Q1 ?RN ?P1 ?PA ?P' ?Qa ?P_ ?Qe ?Qc ?Qd ?Qb ?LH ?OO ?z1 ?LL ?OS ?wV ?LN ?OU ?wX ?LP ?OW ?wZ ?LG ?ON ?wO ?LQ ?OX ?w0 ?LO ?OV ?wY ?LM ?OT ?wW ?LJ ?OQ ?wR ?LI ?OP ?wQ ?LK ?OR ?wU ?Mv ?xg ?Mw ?xh ?Mu ?xf ?Mm ?xe ?Mr ?Ai ?Mk ?Ad ?Ms ?Aj ?Ml ?Ae ?Mq ?Ah ?MF ?Aq ?MA ?An ?Mt ?Ak ?Mz ?Am ?Mo ?Ag ?MD ?Ap ?MC ?Ao ?Mn ?Af ?Mc ?z7 ?Me ?z9 ?Mj ?Ac ?Md ?z8 ?Ma ?z5 ?Mg ?z_ ?Mf ?z' ?Mi ?Ab ?Mh ?Aa ?Mb ?z6 ?My ?Al ?LC ?PN ?LA ?Hw ?Lz ?PM ?LB ?Hx ?LY ?O4 ?E8 ?TA ?Tx ?Tz ?EZ ?EY ?E0 ?S1 ?S3 ?S5 ?S7 ?S4 ?S2 ?S6 ?S0 ?Ug ?Um ?Ue ?T7 ?Ud ?T' ?Up ?Uh ?Ur ?Un ?T5 ?Ub ?Uj ?Uk ?Uq ?T8 ?Ua ?Uo ?Uw ?TB ?Tw ?R_ ?QT ?Hf ?PG ?GN ?HT ?GV ?G7 ?Hb ?G4 ?GW ?Ro ?M' ?RW ?G' ?Qz ?Nf ?QA ?Nz ?Od ?OA ?Ob ?NF ?Ng ?QB ?NA ?Oe ?OB ?Oc ?NG ?C0 ?ED ?Pk ?Ss ?Pl ?Su ?ĉ ?R6 ?R5 ?R4 ?R3 ?Qw ?R9 ?R8 ?R7 ?Qx
  (case Ly=>k_is)
  (case QY=>k_is)
  (case NP=>k_is)
  (case Q2=>k_is)
  (case RO=>k_is)
  (case P2=>k_is)
  (case PB=>k_is)
  (case Qh=>k_is)
  (case Qi=>k_is)
  (case LS=>k_is)
  (case OZ=>k_is)
  (case z2=>refine' ao.dO ?z ?y ?x;(case z=>k_is);(case y=>k_is);(case x=>k_is))
  (case LR=>k_is)
  (case OY=>k_is)
  (case w1=>refine' ao.dO ?z ?y ?x;(case z=>k_is);(case y=>k_is);(case x=>k_is))
  (case LX=>k_is)
  (case O3=>k_is)
  (case w4=>refine' ao.dO ?z ?y ?x;(case z=>k_is);(case y=>k_is);(case x=>k_is))
  (case LW=>k_is)
  (case O2=>k_is)
  (case uj=>refine' ao.dO ?z ?y ?x;(case z=>k_is);(case y=>k_is);(case x=>k_is))
  (case LV=>k_is)
  (case O1=>k_is)
  (case w3=>refine' ao.dO ?z ?y ?x;(case z=>k_is);(case y=>k_is);(case x=>k_is))
  (case LU=>k_is)
  (case O0=>k_is)
  (case w2=>refine' ao.dO ?z ?y ?x;(case z=>k_is);(case y=>k_is);(case x=>k_is))
  (case LF=>k_is)
  (case Q0=>k_is)
  (case NR=>k_is)
  (case Q4=>k_is)
  (case RQ=>k_is)
  (case P5=>k_is)
  (case PD=>k_is)
  (case Qp=>k_is)
  (case Qq=>k_is)
  (case L7=>k_is)
  (case Pc=>k_is)
  (case z4=>refine' ao.dO ?z ?y ?x;(case z=>k_is);(case y=>k_is);(case x=>k_is))
  (case L'=>k_is)
  (case Pf=>k_is)
  (case xc=>refine' ao.dO ?z ?y ?x;(case z=>k_is);(case y=>k_is);(case x=>k_is))
  (case L6=>k_is)
  (case Pb=>k_is)
  (case w_=>refine' ao.dO ?z ?y ?x;(case z=>k_is);(case y=>k_is);(case x=>k_is))
  (case L_=>k_is)
  (case Pg=>k_is)
  (case xd=>refine' ao.dO ?z ?y ?x;(case z=>k_is);(case y=>k_is);(case x=>k_is))
  (case L9=>k_is)
  (case Pe=>k_is)
  (case xb=>refine' ao.dO ?z ?y ?x;(case z=>k_is);(case y=>k_is);(case x=>k_is))
  (case L8=>k_is)
  (case Pd=>k_is)
  (case xa=>refine' ao.dO ?z ?y ?x;(case z=>k_is);(case y=>k_is);(case x=>k_is))
  (case LD=>k_is)
  (case QZ=>k_is)
  (case NQ=>k_is)
  (case Q3=>k_is)
  (case RP=>k_is)
  (case P4=>k_is)
  (case PC=>k_is)
  (case Qn=>k_is)
  (case Qm=>k_is)
  (case Qo=>k_is)
  (case L1=>k_is)
  (case O8=>k_is)
  (case z3=>refine' ao.dO ?z ?y ?x;(case z=>k_is);(case y=>k_is);(case x=>k_is))
  (case L5=>k_is)
  (case Pa=>k_is)
  (case w'=>refine' ao.dO ?z ?y ?x;(case z=>k_is);(case y=>k_is);(case x=>k_is))
  (case L4=>k_is)
  (case O_=>k_is)
  (case w9=>refine' ao.dO ?z ?y ?x;(case z=>k_is);(case y=>k_is);(case x=>k_is))
  (case LZ=>k_is)
  (case O6=>k_is)
  (case w5=>refine' ao.dO ?z ?y ?x;(case z=>k_is);(case y=>k_is);(case x=>k_is))
  (case L2=>k_is)
  (case O9=>k_is)
  (case w7=>refine' ao.dO ?z ?y ?x;(case z=>k_is);(case y=>k_is);(case x=>k_is))
  (case L3=>k_is)
  (case O'=>k_is)
  (case w8=>refine' ao.dO ?z ?y ?x;(case z=>k_is);(case y=>k_is);(case x=>k_is))
  (case L0=>k_is)
  (case O7=>k_is)
  (case w6=>refine' ao.dO ?z ?y ?x;(case z=>k_is);(case y=>k_is);(case x=>k_is))
  (case Lx=>k_is)
  (case QX=>k_is)
  (case NO=>k_is)
  (case Q1=>k_is)
  (case RN=>k_is)
  (case P1=>k_is)
  (case PA=>k_is)
  (case P'=>k_is)
  (case Qa=>k_is)
  (case P_=>k_is)
  (case Qe=>k_is)
  (case Qc=>k_is)
  (case Qd=>k_is)
  (case Qb=>k_is)
  (case LH=>k_is)
  (case OO=>k_is)
  (case z1=>refine' ao.dO ?z ?y ?x;(case z=>k_is);(case y=>k_is);(case x=>k_is))
  (case LL=>k_is)
  (case OS=>k_is)
  (case wV=>refine' ao.dO ?z ?y ?x;(case z=>k_is);(case y=>k_is);(case x=>k_is))
  (case LN=>k_is)
  (case OU=>k_is)
  (case wX=>refine' ao.dO ?z ?y ?x;(case z=>k_is);(case y=>k_is);(case x=>k_is))
  (case LP=>k_is)
  (case OW=>k_is)
  (case wZ=>refine' ao.dO ?z ?y ?x;(case z=>k_is);(case y=>k_is);(case x=>k_is))
  (case LG=>k_is)
  (case ON=>k_is)
  (case wO=>refine' ao.dO ?z ?y ?x;(case z=>k_is);(case y=>k_is);(case x=>k_is))
  (case LQ=>k_is)
  (case OX=>k_is)
  (case w0=>refine' ao.dO ?z ?y ?x;(case z=>k_is);(case y=>k_is);(case x=>k_is))
  (case LO=>k_is)
  (case OV=>k_is)
  (case wY=>refine' ao.dO ?z ?y ?x;(case z=>k_is);(case y=>k_is);(case x=>k_is))
  (case LM=>k_is)
  (case OT=>k_is)
  (case wW=>refine' ao.dO ?z ?y ?x;(case z=>k_is);(case y=>k_is);(case x=>k_is))
  (case LJ=>k_is)
  (case OQ=>k_is)
  (case wR=>refine' ao.dO ?z ?y ?x;(case z=>k_is);(case y=>k_is);(case x=>k_is))
  (case LI=>k_is)
  (case OP=>k_is)
  (case wQ=>refine' ao.dO ?z ?y ?x;(case z=>k_is);(case y=>k_is);(case x=>k_is))
  (case LK=>k_is)
  (case OR=>k_is)
  (case wU=>refine' ao.dO ?z ?y ?x;(case z=>k_is);(case y=>k_is);(case x=>k_is))
  (case Mv=>k_is)
  (case xg=>refine' ao.dO ?z ?y ?x;(case z=>k_is);(case y=>k_is);(case x=>k_is))
  (case Mw=>k_is)
  (case xh=>refine' ao.dO ?z ?y ?x;(case z=>k_is);(case y=>k_is);(case x=>k_is))
  (case Mu=>k_is)
  (case xf=>refine' ao.dO ?z ?y ?x;(case z=>k_is);(case y=>k_is);(case x=>k_is))
  (case Mm=>k_is)
  (case xe=>refine' ao.dO ?z ?y ?x;(case z=>k_is);(case y=>k_is);(case x=>k_is))
  (case Mr=>k_is)
  (case Ai=>refine' ao.dO ?z ?y ?x;(case z=>k_is);(case y=>k_is);(case x=>k_is))
  (case Mk=>k_is)
  (case Ad=>refine' ao.dO ?z ?y ?x;(case z=>k_is);(case y=>k_is);(case x=>k_is))
  (case Ms=>k_is)
  (case Aj=>refine' ao.dO ?z ?y ?x;(case z=>k_is);(case y=>k_is);(case x=>k_is))
  (case Ml=>k_is)
  (case Ae=>refine' ao.dO ?z ?y ?x;(case z=>k_is);(case y=>k_is);(case x=>k_is))
  (case Mq=>k_is)
  (case Ah=>refine' ao.dO ?z ?y ?x;(case z=>k_is);(case y=>k_is);(case x=>k_is))
  (case MF=>k_is)
  (case Aq=>refine' ao.dO ?z ?y ?x;(case z=>k_is);(case y=>k_is);(case x=>k_is))
  (case MA=>k_is)
  (case An=>refine' ao.dO ?z ?y ?x;(case z=>k_is);(case y=>k_is);(case x=>k_is))
  (case Mt=>k_is)
  (case Ak=>refine' ao.dO ?z ?y ?x;(case z=>k_is);(case y=>k_is);(case x=>k_is))
  (case Mz=>k_is)
  (case Am=>refine' ao.dO ?z ?y ?x;(case z=>k_is);(case y=>k_is);(case x=>k_is))
  (case Mo=>k_is)
  (case Ag=>refine' ao.dO ?z ?y ?x;(case z=>k_is);(case y=>k_is);(case x=>k_is))
  (case MD=>k_is)
  (case Ap=>refine' ao.dO ?z ?y ?x;(case z=>k_is);(case y=>k_is);(case x=>k_is))
  (case MC=>k_is)
  (case Ao=>refine' ao.dO ?z ?y ?x;(case z=>k_is);(case y=>k_is);(case x=>k_is))
  (case Mn=>k_is)
  (case Af=>refine' ao.dO ?z ?y ?x;(case z=>k_is);(case y=>k_is);(case x=>k_is))
  (case Mc=>k_is)
  (case z7=>refine' ao.dO ?z ?y ?x;(case z=>k_is);(case y=>k_is);(case x=>k_is))
  (case Me=>k_is)
  (case z9=>refine' ao.dO ?z ?y ?x;(case z=>k_is);(case y=>k_is);(case x=>k_is))
  (case Mj=>k_is)
  (case Ac=>refine' ao.dO ?z ?y ?x;(case z=>k_is);(case y=>k_is);(case x=>k_is))
  (case Md=>k_is)
  (case z8=>refine' ao.dO ?z ?y ?x;(case z=>k_is);(case y=>k_is);(case x=>k_is))
  (case Ma=>k_is)
  (case z5=>refine' ao.dO ?z ?y ?x;(case z=>k_is);(case y=>k_is);(case x=>k_is))
  (case Mg=>k_is)
  (case z_=>refine' ao.dO ?z ?y ?x;(case z=>k_is);(case y=>k_is);(case x=>k_is))
  (case Mf=>k_is)
  (case z'=>refine' ao.dO ?z ?y ?x;(case z=>k_is);(case y=>k_is);(case x=>k_is))
  (case Mi=>k_is)
  (case Ab=>refine' ao.dO ?z ?y ?x;(case z=>k_is);(case y=>k_is);(case x=>k_is))
  (case Mh=>k_is)
  (case Aa=>refine' ao.dO ?z ?y ?x;(case z=>k_is);(case y=>k_is);(case x=>k_is))
  (case Mb=>k_is)
  (case z6=>refine' ao.dO ?z ?y ?x;(case z=>k_is);(case y=>k_is);(case x=>k_is))
  (case My=>k_is)
  (case Al=>refine' ao.dO ?z ?y ?x;(case z=>k_is);(case y=>k_is);(case x=>k_is))
  (case LC=>k_is)
  (case PN=>k_is)
  (case LA=>k_is)
  (case Hw=>k_is)
  (case Lz=>k_is)
  (case PM=>k_is)
  (case LB=>k_is)
  (case Hx=>k_is)
  (case LY=>k_is)
  (case O4=>k_is)
  (case E8=>refine' ao.dO ?z ?y ?x;(case z=>k_is);(case y=>k_is);(case x=>k_is))
  (case TA=>k_exc)
  (case Tx=>k_exc)
  (case Tz=>k_exc)
  (case EZ=>decide+kernel)
  (case EY=>decide+kernel)
  (case E0=>decide+kernel)
  (case S1=>k_is)
  (case S3=>k_is)
  (case S5=>k_is)
  (case S7=>k_is)
  (case S4=>k_is)
  (case S2=>k_is)
  (case S6=>k_is)
  (case S0=>k_is)
  (case Ug=>k_is)
  (case Um=>k_is)
  (case Ue=>k_is)
  (case T7=>k_is)
  (case Ud=>k_is)
  (case T'=>k_is)
  (case Up=>k_is)
  (case Uh=>k_is)
  (case Ur=>k_is)
  (case Un=>k_is)
  (case T5=>k_is)
  (case Ub=>k_is)
  (case Uj=>k_is)
  (case Uk=>k_is)
  (case Uq=>k_is)
  (case T8=>k_is)
  (case Ua=>k_is)
  (case Uo=>k_is)
  (case Uw=>k_is)
  (case TB=>decide+kernel)
  (case Tw=>decide+kernel)
  (case R_=>k_is)
  (case QT=>k_is)
  (case Hf=>k_is)
  (case PG=>k_is)
  (case GN=>k_is)
  (case HT=>k_is)
  (case GV=>k_is)
  (case G7=>k_is)
  (case Hb=>k_is)
  (case G4=>k_is)
  (case GW=>k_is)
  (case Ro=>k_is)
  (case M'=>k_is)
  (case RW=>k_is)
  (case G'=>k_is)
  (case Qz=>decide+kernel)
  (case Nf=>k_is)
  (case QA=>k_is)
  (case Nz=>k_is)
  (case Od=>k_is)
  (case OA=>k_is)
  (case Ob=>k_is)
  (case NF=>k_is)
  (case Ng=>k_is)
  (case QB=>k_is)
  (case NA=>k_is)
  (case Oe=>k_is)
  (case OB=>k_is)
  (case Oc=>k_is)
  (case NG=>k_is)
  (case C0=>k_is)
  (case ED=>k_is)
  (case Pk=>k_is)
  (case Ss=>k_is)
  (case Pl=>k_is)
  (case Su=>k_is)
  (case ĉ=>k_is)
  (case R6=>k_is)
  (case R5=>k_is)
  (case R4=>k_is)
  (case R3=>k_is)
  (case Qw=>decide+kernel)
  (case R9=>k_is)
  (case R8=>k_is)
  (case R7=>k_is)
  (case Qx=>decide+kernel)
