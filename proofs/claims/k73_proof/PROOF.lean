import PyProof.Rows.All
import Wide.All
import OpenK.AllK
import Wide.FinOn
import Lean
import PyProof.EqAt
import PyProof.EqKinds
import PyProof.TupleCall
import PySem.Challenge.RW_postroad_k73_whole_day_is_a_run
set_option Elab.async false
set_option linter.all false
set_option maxRecDepth 100000
set_option maxHeartbeats 4000000
abbrev aX:=@if_neg
abbrev a8:=@if_pos
abbrev bt:=@absurd
abbrev cB:=@decide_eq_true
abbrev dP:=@decide_eq_false
abbrev iP:=@congrArg
abbrev ju:=@of_decide_eq_true
abbrev lT:=@decide_eq_true_iff
abbrev px:=@beq_iff_eq
abbrev wX:=@beq_eq_false_iff_ne
open Array renaming getD->tH,length_toList->DB,getElem?_eq_none->Iy,getElem?_toList->Iz,append_assoc->TA,getElem?_eq_getElem->TB,Perm.refl->Ă,toList->ă,toList_inj->Ą
open Bool renaming false_ne_true->fL,and_eq_true->hG,false_eq_true->o6,eq_iff_iff->yD,true_and->DD,false_and->IA,eq_false_iff->TU,not_eq_true'->TV,not_true->TX,not_false->Ċ,or_true->ċ
open Classical renaming choose_spec->DF,choose->T_,byContradiction->ĕ
open False renaming elim->h3
open ForInStep renaming yield->I2
open Int renaming emod_nonneg->kO,emod_lt_of_pos->lJ,toNat_natCast->m8,le_refl->o9,zero_add->o',toNat->DU,toNat_of_nonneg->DV,add_zero->Jh,emod_eq_of_lt->Ji,add_assoc->U_,le_of_lt->ŝ,le_trans->Ş,ofNat.inj->ş,sub_emod_right->Š
open List renaming length_map->a',getElem?_eq_getElem->ct,mem_map->cw,getD->cH,getElem?_map->cL,range->dt,mem_cons->dx,not_mem_nil->dN,mem_of_getElem?->dY,mem_filter->ea,map_append->eC,getElem?_eq_some_iff->eR,length_append->fT,size_toArray->gh,map_cons->gv,map_map->gJ,mem_singleton->gK,mem_range->gZ,mem_append->hv,length_range->hK,nodup_cons->hL,forall_mem_cons->i4,length_cons->i5,getElem_mem->jA,length_take->jR,append_nil->kn,length_filter_le->lK,mem_cons_of_mem->lL,getElem?_of_mem->me,take_add_one->mf,take_length->mh,filter_append->m9,nodup_nil->n_,sum_cons->oa,any_eq_true->pb,filter_cons->pd,getElem_of_mem->pe,length_nil->qG,mem_append_right->qH,append_assoc->r8,lookup->r9,mem_cons_self->r',pairwise_map->r_,length_pos_iff->tU,map_congr_left->tV,all_eq_true->wA,filter_map->wB,range_succ->wC,toArray->wD,find?_cons->zA,getElem_inj->zB,length_eq_zero_iff->zC,pairwise_lt_range->zD,replicate->zE,any_cons->DZ,exists_mem_of_ne_nil->D1,ext_getElem->D2,filterMap_cons->D3,filter_eq_self->D4,foldl_append->D5,getElem?_take->D6,getElem_map->D7,getElem_range->D8,getLast?_append->D9,map_nil->D',nodup_range->D_,pairwise_iff_getElem->Ea,concat_eq_append->Jn,cons.injEq->Jo,drop_eq_getElem_cons->Jp,eq_nil_or_concat->Jq,ext_getElem?->Jr,filter_eq_nil_iff->Js,filter_nil->Jt,getElem?_eq_none->Ju,length->Jv,length_tail->Jw,map_take->Jx,mem_filterMap->Jy,mem_iff_getElem->Jz,mem_of_mem_take->JA,nil_append->JB,nodup_append->JC,take_sublist->JD,cons.inj->Vt,getElem?_append_right->Vu,getElem?_range->Vv,getLast?_singleton->Vw,map->Vx,map_eq_nil_iff->Vy,map_id->Vz,map_id'->VA,of_mem_zip->VB,pairwise_cons->VC,take_zero->VD,Pairwise.imp_of_mem->aa1,all_cons->aa2,append_eq_nil_iff->aa3,contains_cons->aa4,countP_cons->aa5,countP_le_length->aa6,countP_pos_iff->aa7,dropLast_concat_getLast->aa8,filter_congr->aa9,getElem?_cons_zero->aba,getElem?_set_ne->abb,getElem?_set_self->abc,getLast?_eq_getLast->abd,getLastD_eq_getLast?->abe,length_drop->abf,mem_append_left->abg,mem_iff_getElem?->abh,ne_nil_of_mem->abi,not_lt->abj,perm_ext_iff_of_nodup->abk,range_eq_range'->abl,take_append_drop->abm,take_of_length_le->abn,zipIdx_map_snd->abo
open Nat renaming le_refl->bY,le_trans->el,ne_of_lt->en,zero_le->eD,lt_of_lt_of_le->jS,lt_of_le_of_lt->od,lt_irrefl->qI,lt_or_ge->sb,le_of_lt->tX,le_succ->wF,lt_succ_self->wG,not_lt_zero->zK,pos_of_ne_zero->zL,le_of_eq->JJ,lt_succ_of_lt->JK,min_le_right->JL,ne_of_gt->JM,succ_ne_self->JN,zero_add->JO,lt_of_succ_lt->VU,mul_le_mul_left->VV,succ_le_succ->VW,add_le_add_left->ab2,le_zero->ab3,lt_trans->ab4,min_eq_left->ab5,mul_le_mul->ab6,succ_add->ab7
open Ne renaming symm->b'
open Option renaming map_eq_some_iff->ew,some.inj->hM,isSome_iff_exists->tY,map_some->Ed,getD_none->V8,isSome_map->acw,none->acx,some.injEq->acy
open Or renaming inl->cu,inr->m_
open PyProof.Rows renaming seqObj->iG,envOfC->ni,AllBare->qA,SortKind->wQ,IntsAre->DW,keyKind'->O4,oneType'->Qa,callWith_type1->Wd,kmk_tree->We,slot_tuple_getitem->Wf,Subscript_->WH,subscriptTail->Λ,callWith_builtin1->acH,args_list_sort->ajb,callWith_builtin_kwB->akn,entry_list_sort->alS,get?_update_seq->ame,slicePart_none->ap2,slot_list_sort->ap4,subscriptTail_builtinR->aqa,setObjOf_fresh->arR
open PyProof.Rows.F renaming plain_set_update_loop->Wc,entry_set_update_loop->acG
open PySem renaming Shared->ax,wpAny_bind->aR,wpAny->a4,model->bg,World->bC,Paired->bH,Program->bL,wpAny_pure->bN,FuncData->b5,mainGlobals->cx,Around->c4,Heap.get?_push_of_some->dJ,Heap.lt_size->dK,starEach->dM,Value.ref->dO,argBest->fw,wpAny_mono->gf,Str.ofString->gA,Value.none->gB,backTo->g0,Heap.get?_push_size->hg,PyData.eqv->hx,Paired.length->hO,compareOp->hQ,bootBuiltins->iw,PassesOwn.never->iL,Str.empty->iM,pyNext->jv,Heap.get?_update_other->jz,wpAny_loadPart_at->jQ,codeAny->jX,Value.int->ko,backToKw->ku,keywordEach->kE,sysModules->lB,wpAny_holding->lF,wpAny_truthy_bool->m2,wpAny_tryCatch->m3,plainId_quiet->nQ,Model->oc,Result->ot,codeAny_builtin->ov,wpAny_letGo->o2,Around.under_plainId->o5,holding->pV,wpAny_newObj_type->qu,PyData.canLayAll0->qJ,wpAny_call->rI,ClassData->rY,CmpOp->rZ,Heap.FlyingW->r3,Heap.get?_update_self->r4,Value.type->si,atKey->sl,binaryOp->so,seqItems?->tn,sizeLine_eq->tp,standAt->tr,valueAt->tC,wpAny_seqItems->tE,wpAny_updateSeq->tF,Heap.SameBut->tQ,IsPart->tS,Keyword->tT,NameKind->tW,PyData.depthAll->t2,Value.str->t7,Walks->t8,behindInMarks->ua,bindC->ub,bindL->uc,codeAny_mono->uj,getItem->uD,wpAny_Call_Name_kw->vz,wpAny_call_entry->vA,DictEntry->vG,ExcBaseFacts->vI,Heap.size_push->wh,Obj.mapSeq->wH,OwnTail->wI,Within->wN,argsOk->wU,assignEach->wV,callerA->wZ,excClassObj->w2,getMethod->xe,rawInt->xY,sliceBounds->x',swapsWith->x_,wpAny_passesOwn->ye,BindsTo->yC,mem_of_lookup->z9,attributeBase->Ab,callWith->Ae,call_meetsIn->Af,isTrue->Bz,setAttr->CU,tupleKind->C2,updateSeq->C8,wpAny_execs_nil->Dr,wpAny_of_eq->Ds,wpAny_pyIter_list->Dt,Walks.list->EE,assign->EG,codeAny_call_builtin->EJ,isInstance->Ga,pyIter->Hj,relabel->Hu,setField->HB,wpAny_standAt->Ia,PyData.list->J7,Value.bool->Kn,Value.isStrOf->Ko,foldedSetIterable->Mz,instanceDict->OM,letOwnedTupleGo->Pe,noteFrame->PY,refuseLoop->QI,richCompare->QK,setFlight->Ra,subscripted->Rj,tupleKind_room_in1->RI,wpAny_fieldsOf->Sk,wpAny_isSubtype_exc->Sl,wpAny_rule->Sm,wpAny_typeNameOfWhole_keyiter->Sn,wpAny_typeNameOf_keyiter->So,Around.under->Tz,Code.isFrame->Ua,Code.quiet_builtin->Ub,Heap.HeldW->UP,Heap.MadeExcOf->UQ,Heap.get?_none_of_le->UR,Heap.get?_update_ne->US,PyData.canLay0->Wa,PyData.int->Wb,Within.cons->Wx,call->Wy,frameOf->Wz,Value.float->WZ,builtinsNs->Xo,cellsFrom->Xr,closureFor->Xt,entryPlaceOf->XG,raiseStmt->τ,refuseLoop_ref->υ,wpAny_Call_method->Ò,wpAny_Name->Ó,wpAny_callSpecial?_slot->Ô,wpAny_dictEntries->Õ,wpAny_dictEpoch->Ö,wpAny_eqBool_int->Ø,wpAny_execs_cons->Ù,wpAny_field->Ú,wpAny_isOneOf_keyiter->Û,wpAny_newList->Ü,Heap.get?_push_at->Œ,Heap.get?_some_iff->œ,Obj.data_mapFields->acr,PassesOwn.leaving->acD,Within.nil->ac6,Value.isInt_shape->afP,behindIsImport->aj3,codeAny_of_tree->aks,fastBuiltinMro->alZ,firstArgMember->al2,pastItsLine_dict->apo,plainObj_wpAny_Assign_Attribute->apr,raiseErrorWords->apG,slot_list_getitem->ap3,wpAny_Compare1->aqY,wpAny_Dict_empty->aqZ,wpAny_Expr_any->aq0,wpAny_assign_Name->aq1,wpAny_isInstance->aq2,wpAny_isTrue_Compare1->aq3,wpAny_leaves_onW->aq4,wpAny_lookBehind->aq5,wpAny_mroOf_exc->aq6,wpAny_pyIter_enum->aq7,wpAny_pyIter_slot->aq8,wpAny_setField->aq9,wpAny_tupleItemsOf->ara
open PySem.Builtin.Builtins renaming bindParams->TY
open PySem.Builtin.Dict renaming showsAll->Č,dictSlotNone->arF
open PySem.Builtin.Dict_items renaming ownsTuple->č
open PySem.Builtin.Frozenset renaming updateFrom->arG
open PySem.Builtin.List renaming listTooLong->TZ,listUpdate->arH
open PySem.Builtin.ObjectAttr renaming storeInOwnDict->IB,storeInDict->Ď,newKeyGuard->arI
open PySem.Builtin.Range renaming rangeSize->arJ
open PySem.Builtin.Slice renaming slicePlaces->IC,sliceAdjust->T1,sliceApplied->ď,sliceFields->arK,slicePartIndex->arL
open PySem.Builtin.Tuple renaming tupleExact->ID,tupleItemsOf->arM
open PySem.Calls renaming spliced_cons->yQ,evalArgs_plain->DE,callWith_builtin->IF,spliced_nil->IG,Name_function_global->Ē,call_function_entry->ē
open PySem.Challenge renaming pw_postroad_k73_whole_day_is_a_run->arS,rw_postroad_k73_whole_day_is_a_run->arT
open PySem.EntryCells renaming newEntry->arO
open PySem.EqMixed renaming eq_bool_str->arU,eq_int_str->arV,eq_str_bool->arW,eq_str_int->arX,ne_bool_str->arY,ne_int_str->arZ,ne_str_bool->ar0,ne_str_int->ar1
open PySem.EqNone renaming eq_bool_none->ar2,eq_int_none->ar3,eq_none_bool->ar4,eq_none_int->ar5,eq_none_none->ar6,eq_none_str->ar7,eq_str_none->ar8,ne_bool_none->ar9,ne_int_none->asa,ne_none_bool->asb,ne_none_int->asd,ne_none_none->ase,ne_none_str->asf,ne_str_none->ash
open PySem.F renaming plain_min_loop->mi,plainAttrs_list->qK,slot_list_append->se,type_list_append->sf,plain_max_loop->wJ,entry_min_loop->z5,excBase_ValueError->z6,entry_max_loop->Wg,plainAttrs_dict->Wh,slot_dict_get->Wi,slot_dict_pop->Wj,args_dict_get_2->acI,args_dict_pop_3->acJ,entry_dict_get->acK,entry_dict_pop->acL,entry_min->acM,kind_min->acN,plain_min->acO,slot_dict_delitem->acP,slot_dict_setdefault->acQ,store_ValueError->acR
open PySem.Heap renaming ExtBut.push->ŏ,Ns1.of_empty->Ő,SameBut.update->ő
open PySem.SeqAt renaming shaped->qN,EqAt->aeE,EqAt.int_str->aeF,EqAt.str_int->aeG
open PySem.W renaming Frag->aS,findIn->bE,nsIn->cZ,mg_of->dZ,isFn->ey,keepIn->i7,mg_none_of->jB,hasDictIn->mj,emptyDict->oh,kitOne->oi,makesIn->oj,plainGet->om,instObj->pg,kia_one->ph,mroIn->qL,plainOver->qM,specialIn->sg,hideAll->t4,Looks->wK,fnOf->wL,looks_findIn->wM,kas_place->xx,kas_sort->xy,excIn->z7,takesIn->z8,kas_ask->BK,kas_desc->BL,kas_rev->BM,kas_tail3->BN,callWith_K->Eg,methodCall_KW->Eh,subIn->Ei,lookIn->J8,kas_bin->OT,kas_count->OU,Looks.of_pure->VE,Looks.ld->Wk,OpenLaw->Wl,check_slot->Wm,codeIn->Wn,findCls->Wo,hideAll_get->Wq,makes_of->Wr,methodObj->Ws,of_hideAll->Wt,plainGet_of->Wu,readsIn->Wv,takerIn->Ww,kas_descPart->Zj,InitBack->acS,WalkO->acT,bind_fn->acU,callWith_K0->acV,cellsFrom_some->acW,funFrames_hide->acX,handedIn->acY,hideAll_none->acZ,kitMeta->ac0,kitx_dict->ac1,kitx_list->ac2,looks_subIn->ac3,make_core->ac4,typeIn->ac5
open Sum renaming inl->eS,inr->e',inl.inj->z',inr.inj->Ka
open True renaming intro->kR
namespace ag
open PySem PySem.Spec PyProof.Rows
noncomputable abbrev bx:=Sum Int Str
noncomputable def vq:bx→Value→Bool
 |.inl k,v=>Value.isInt k v
 |.inr x,v=>Ko x v
noncomputable def aif(w:bC):bx→Int
 |.inl k=>hashInt k
 |.inr x=>hashStr w x
theorem pE:∀{k:bx}{v:Value},vq k v=true→(∃i t,k=eS i∧v=ko i t)∨(∃x t,k=e' x∧v=t7 x t)
 |.inl i,v,h=>by obtain⟨t,e⟩:=afP (k:=i) (v:=v) h;exact .inl ⟨i,t,rfl,e⟩
 |.inr x,v,h=>by obtain⟨t,e⟩:=Value.isStrOf_shape (x:=x) (v:=v) h;exact .inr ⟨x,t,rfl,e⟩
theorem ś(i:Int)(t:Tok):vq (.inl i) (.int i t)=true:=by simp[vq,Value.isInt]
theorem Ŝ(x:Str)(t:Tok):vq (.inr x) (.str x t)=true:=by simp[vq,Ko]
theorem ae0(a b:Int):decide ((eS a:bx)=eS b)=(a==b):=by
 by_cases e:a=b
 .subst e;simp
 .have h:¬(eS a:bx)=eS b:=λq=>e (z' q);rw[dP h];exact(wX.mpr e).symm
theorem aeV(a b:Str):decide ((e' a:bx)=e' b)=decide (a=b):=by
 by_cases e:a=b
 .subst e;simp
 .have h:¬(e' a:bx)=e' b:=λq=>e (Ka q);rw[dP h,dP e]
theorem aeW(a:Int)(b:Str):decide ((eS a:bx)=e' b)=false:=dP (λq=>nomatch q)
theorem aeX(a:Str)(b:Int):decide ((e' a:bx)=eS b)=false:=dP (λq=>nomatch q)
noncomputable def hn(prog:bL)(w:bC):PySem.KeyKind prog w bx where
 is:=vq
 hash:=aif w
 inj:=λv a b aI af=>by
  rcases pE aI with⟨i,t,rfl,rfl⟩|⟨x,t,rfl,rfl⟩
  .rcases pE af with⟨j,u,rfl,e⟩|⟨y,u,rfl,e⟩
   .injection e with az _;rw[az]
   .exact nomatch e
  .rcases pE af with⟨j,u,rfl,e⟩|⟨y,u,rfl,e⟩
   .exact nomatch e
   .injection e with az _;rw[az]
 byValue:=λk v h=>by rcases pE h with⟨i,t,rfl,rfl⟩|⟨x,t,rfl,rfl⟩<;>rfl
 pyHash:=λbA h=>by
  rcases pE bA with⟨i,t,rfl,rfl⟩|⟨x,t,rfl,rfl⟩
  .exact wpAny_pyHash_int h
  .exact wpAny_pyHash_str h
 eqBool:=λcj bA h=>by
  rcases pE cj with⟨i,t,rfl,rfl⟩|⟨x,t,rfl,rfl⟩
  .rcases pE bA with⟨j,u,rfl,rfl⟩|⟨y,u,rfl,rfl⟩
   .rw[ae0]at h;exact Ø h
   .rw[aeW]at h;exact aeF i t y u _ _ _ _ h
  .rcases pE bA with⟨j,u,rfl,rfl⟩|⟨y,u,rfl,rfl⟩
   .rw[aeX]at h;exact aeG x t j u _ _ _ _ h
   .rw[aeV]at h;exact wpAny_eqBool_str h
 «strs»:=λk x t v h=>by
  rcases pE h with⟨i,u,rfl,e⟩|⟨y,u,rfl,e⟩
  .exact nomatch e
  .injection e with az _;subst az;cases v<;>rfl
theorem Ā(prog:bL)(w:bC)(i:Int)(t:Tok):(hn prog w).is (.inl i) (.int i t)=true:=ś i t
theorem ā(prog:bL)(w:bC)(x:Str)(t:Tok):(hn prog w).is (.inr x) (.str x t)=true:=Ŝ x t
inductive V where
 |bD|aV (b:Bool)|int (i:Int)|str (x:Str)|lP (b:Array UInt8)|uA (b:UInt64)|ref (a:Addr)|ty (n:String)
 deriving DecidableEq
noncomputable def RelV:V→Value→Prop
 |.bD,u=>u=gB
 |.aV b,u=>u=Kn b
 |.int i,u=>∃t,u=ko i t
 |.str x,u=>∃t,u=t7 x t
 |.lP b,u=>∃t,u=Value.bytes b t
 |.uA b,u=>∃t,u=WZ b t
 |.ref a,u=>u=dO a
 |.ty n,u=>u=si n
noncomputable abbrev cN:List V→List Value→Prop:=bH RelV
theorem cN.length{xs:List V}{us:List Value}(r:cN xs us):xs.length=us.length:=hO r
theorem cN.get:∀{xs:List V}{us:List Value}{i:Nat}{x:V},cN xs us→xs[i]?=some x→∃u,us[i]?=some u∧RelV x u
 |_,_,_,_,.nil,e=>by simp at e
 |_,_,0,_,.cons r _,e=>by simp at e;subst e;exact⟨_,rfl,r⟩
 |_,_,i+1,x,.cons _ t,e=>by obtain⟨u,ai,aj⟩:=cN.get (i:=i) (x:=x) t (by simpa using e);exact⟨u,by simpa using ai,aj⟩
theorem cN.append:∀{xs ys:List V}{us ws:List Value},cN xs us→cN ys ws→cN (xs++ys) (us++ws)
 |_,_,_,_,.nil,s=>s
 |_,_,_,_,.cons r t,s=>.cons r (cN.append t s)
theorem cN.take:∀{xs:List V}{us:List Value}(n:Nat),cN xs us→cN (xs.take n) (us.take n)
 |_,_,0,_=>.nil
 |_,_,_+1,.nil=>.nil
 |_,_,n+1,.cons r t=>.cons r (cN.take n t)
theorem cN.drop:∀{xs:List V}{us:List Value}(n:Nat),cN xs us→cN (xs.drop n) (us.drop n)
 |_,_,0,r=>r
 |_,_,_+1,.nil=>.nil
 |_,_,n+1,.cons _ t=>cN.drop n t
noncomputable def ie:Option V→Option Value→Prop
 |some v,some u=>RelV v u
 |none,none=>True
 |_,_=>False
noncomputable def fC{κ:Type}:List (κ×V)→List (κ×Value)→Prop:=bH λ(p:κ×V)(q:κ×Value)=>p.1=q.1∧RelV p.2 q.2
noncomputable def dz:bx→V
 |.inl i=>.int i
 |.inr x=>.str x
inductive d1 where
  |lst (xs:List V)
  |tup (xs:List V)
  |bX (kvs:List (bx×V))|eO (kvs:List (List bx×V))
  |set (S:Int→Bool) (n:Nat)
  |ins (C ah:Addr) (fs:List (Str×V))
  |own (x:Addr)
  |Ie (fs:List (Str×V))
  |met (f x:Addr)
  |Hw (lo ar:Int)
  |fH (o:Obj) (u:d1)
  |qs (ps:Array Value)
  |ext (qz:Heap→Prop)
noncomputable abbrev aa:=Addr→Option d1
noncomputable def upd(H:aa)(a:Addr)(o:d1):aa:=λb=>if b=a then some o else H b
theorem aQ{H:aa}{a:Addr}{o:d1}:upd H a o a=some o:=by unfold upd;rw[a8 rfl]
theorem aD{H:aa}{a b:Addr}{o:d1}(h:b≠a):upd H a o b=H b:=by unfold upd;rw[aX h]
theorem Cr{H:aa}{a:Addr}{o u:d1}:upd (upd H a o) a u=upd H a u:=by funext b;unfold upd;split<;>rfl
theorem gb{H:aa}{a b:Addr}{o u:d1}(h:H a=some o)(h':H b=some u)(d:o≠u):a≠b:=by intro e;subst e;rw[h]at h';exact d (hM h')
theorem b2{H:aa}{a b:Addr}{o:d1}(h:H a=some o)(h':H b=none):a≠b:=by intro e;subst e;rw[h]at h';cases h'
section
variable(P:bL)(w:bC)
noncomputable def eo(H:aa)(h:Heap)(a:Addr):d1→Prop
 |.lst xs=>xs.length≤sizeLine∧∃(its:List Value)(n:Nat),cN xs its∧h.get? a=some {cls:=.type "list",data:=.seq its.toArray n}
 |.tup xs=>xs.length≤sizeLine∧∃its:List Value,cN xs its∧IsTup h a its.toArray
 |.bX kvs=>kvs.length≤sizeLine∧(a==lB)=false∧∃vs,fC kvs vs∧h.DictOf (hn P w) a vs
 |.eO kvs=>kvs.length≤sizeLine∧(a==lB)=false∧∃xs:List (List bx×Addr×Value),
   bH (λ(p:List bx×V)(q:List bx×Addr×Value)=>p.1=q.1∧H q.2.1=some (.tup (p.1.map dz))∧RelV p.2 q.2.2) kvs xs∧
   ∃o es ep,h.get? a=some o∧o.ExactDict∧o.data=.dict es ep∧es.toList=xs.map (entryOfKey (C2 (hn P w)))∧(xs.map (·.1)).Nodup
 |.set S n=>h.SetOf (intKind P w) a S n
 |.ins C ah fs=>H ah=some (.own a)∧fs.length≤1000∧ah≠a∧h.get? a=some (pg C ah)∧
   ∃mA,h.Ns1 ah mA∧(∀f,ie (fs.lookup f) (mA f))∧wN mA (fs.map (·.1))
 |.own _=>∃o,h.get? a=some o
 |.Ie fs=>∃mA,h.Ns1 a mA∧∀f,ie (fs.lookup f) (mA f)
 |.Hw lo ar=>∃t u v,h.get? a=some {cls:=.type "range",data:=.fields #[.int lo t,.int ar u,.int 1 v]}
 |.fH o u=>h.get? a=some o∧eo H h a u
 |.qs ps=>h.get? a=some {cls:=.none,data:=.fields ps}
 |.met f x=>h.get? a=some (Ws (.ref f) (.ref x))
 |.ext qz=>qz h∧(∃o,h.get? a=some o)∧∀ai aj:Heap,qz ai→(∀o,ai.get? a=some o→aj.get? a=some o)→qz aj
noncomputable def fp(H:aa)(h:Heap):Prop:=∀a o,H a=some o→eo P w H h a o
end
section
variable{P:bL}{w:bC}{H U:aa}{h h':Heap}{a:Addr}{o:d1}
theorem eo.lt(x:eo P w H h a o):a<h.objs.size:=by
 cases o with
 |lst xs=>obtain⟨_,_,_,_,e⟩:=x;exact dK e
 |tup xs=>obtain⟨_,_,_,p⟩:=x;exact p.lt
 |bX kvs=>obtain⟨_,_,_,_,o,_,_,e,_⟩:=x;exact dK e
 |eO kvs=>obtain⟨_,_,_,_,o,_,_,e,_⟩:=x;exact dK e
 |set S n=>obtain⟨o,_,_,_,e,_⟩:=x;exact dK e
 |ins C ah fs=>obtain⟨_,_,_,e,_⟩:=x;exact dK e
 |own y=>obtain⟨_,e⟩:=x;exact dK e
 |Ie fs=>obtain⟨_,⟨_,_,_,e,_⟩,_⟩:=x;exact dK e
 |Hw lo ar=>obtain⟨_,_,_,e⟩:=x;exact dK e
 |fH ob u=>obtain⟨e,_⟩:=x;exact dK e
 |qs ps=>exact dK (show h.get? a=some _ from x)
 |met f y=>exact dK (show h.get? a=some _ from x)
 |ext qz=>obtain⟨_,⟨_,e⟩,_⟩:=x;exact dK e
theorem bH.f_{α β:Type}{F G:α→β→Prop}:∀{Zx:List α}{Zy:List β},bH F Zx Zy→(∀a b,F a b→G a b)→bH G Zx Zy
 |_,_,.nil,_=>.nil
 |_,_,.cons r t,f=>.cons (f _ _ r) (bH.f_ t f)
theorem eo.jO(x:eo P w H h a o)(k:∀b u,(b=a∨H b=some (.own a))→h.get? b=some u→h'.get? b=some u)(bw:∀b,H b=some (.own a)→U b=some (.own a))(df:∀b xs,H b=some (.tup xs)→U b=some (.tup xs)):eo P w U h' a o:=by
 induction o with
 |lst xs=>obtain⟨z,its,n,r,e⟩:=x;exact⟨z,its,n,r,k _ _ (.inl rfl) e⟩
 |tup xs=>obtain⟨z,its,r,ob,e,c⟩:=x;exact⟨z,its,r,ob,k _ _ (.inl rfl) e,c⟩
 |bX kvs=>obtain⟨z,y,vs,r,ob,es,ep,e,c⟩:=x;exact⟨z,y,vs,r,ob,es,ep,k _ _ (.inl rfl) e,c⟩
 |eO kvs=>
  obtain⟨z,y,xs,r,ob,es,ep,e,c⟩:=x;exact⟨z,y,xs,bH.f_ r λp q z=>⟨z.1,df _ _ z.2.1,z.2.2⟩,ob,es,ep,k _ _ (.inl rfl) e,c⟩
 |set S n=>obtain⟨ob,es,ep,t,e,c⟩:=x;exact⟨ob,es,ep,t,k _ _ (.inl rfl) e,c⟩
 |ins C ah fs=>
  obtain⟨d,z,ne,e,mA,⟨dR,es,ep,aE,c⟩,r⟩:=x;exact⟨bw _ d,z,ne,k _ _ (.inl rfl) e,mA,⟨dR,es,ep,k _ _ (.inr d) aE,c⟩,r⟩
 |own y=>obtain⟨ob,e⟩:=x;exact⟨ob,k _ _ (.inl rfl) e⟩
 |Ie fs=>obtain⟨mA,⟨dR,es,ep,e,c⟩,r⟩:=x;exact⟨mA,⟨dR,es,ep,k _ _ (.inl rfl) e,c⟩,r⟩
 |Hw lo ar=>obtain⟨t,u,v,e⟩:=x;exact⟨t,u,v,k _ _ (.inl rfl) e⟩
 |fH ob u a7=>obtain⟨e,q⟩:=x;exact⟨k _ _ (.inl rfl) e,a7 q⟩
 |qs ps=>
  have e:h.get? a=some {cls:=.none,data:=.fields ps}:=x;show h'.get? a=some {cls:=.none,data:=.fields ps};exact k a _ (.inl rfl) e
 |met f y=>
  have e:h.get? a=some (Ws (.ref f) (.ref y)):=x;show h'.get? a=some (Ws (.ref f) (.ref y));exact k a _ (.inl rfl) e
 |ext qz=>obtain⟨p,⟨o,e⟩,st⟩:=x;exact⟨st _ _ p λo q=>k _ _ (.inl rfl) q,⟨o,k _ _ (.inl rfl) e⟩,st⟩
theorem fp.lt(x:fp P w H h)(e:H a=some o):a<h.objs.size:=(x a o e).lt
theorem fp.fresh(x:fp P w H h)(e:h.objs.size≤a):H a=none:=by
 cases q:H a with
 |none=>rfl
 |some u=>exact bt (jS (x.lt q) e) (qI _)
theorem fp.kept(x:fp P w H h)(k:∀b u,h.get? b=some u→h'.get? b=some u):fp P w H h':=λa o e=>
 (x a o e).jO (λb u _ q=>k b u q) (λ_ q=>q) λ_ _ q=>q
theorem fp.laid(x:fp P w H h)(k:∀b u,h.get? b=some u→h'.get? b=some u)(aW:h.objs.size≤a)(new:eo P w (upd H a o) h' a o):fp P w (upd H a o) h':=λb u e=>by
 have aw:=x.fresh aW;by_cases af:b=a
 .subst af;rw[aQ]at e;cases e;exact new
 .rw[aD af]at e;exact(x b u e).jO (λc v _ q=>k c v q) (λc q=>by rw[aD (b2 q aw)];exact q) λc xs q=>by rw[aD (b2 q aw)];exact q
end
noncomputable def a5(H:aa)(a:Addr)(u:d1):Prop:=H a=some u∨∃o,H a=some (.fH o u)
theorem a5.ok{P:bL}{w:bC}{H:aa}{h:Heap}{a:Addr}{u:d1}(r:a5 H a u)(x:fp P w H h):eo P w H h a u:=by
 rcases r with r|⟨o,r⟩
 .exact x a u r
 .obtain⟨_,q⟩:=x a _ r;exact q
noncomputable def zH:Option d1→Prop
 |some (.lst _)=>True
 |some (.bX _)=>True
 |some (.eO _)=>True
 |some (.set _ _)=>True
 |some (.ins _ _ _)=>True
 |some (.ext _)=>True
 |_=>False
section
variable{P:bL}{w:bC}{H:aa}{h h':Heap}{x e:Addr}{cD:d1}
theorem fp.write(ok:fp P w H h)(da:zH (H x))(he:e=x∨H e=some (.own x))(k:∀b u,b≠e→h.get? b=some u→h'.get? b=some u)(xi:∃u,h'.get? e=some u)(new:eo P w (upd H x cD) h' x cD):fp P w (upd H x cD) h':=λb u q=>by
 have ZX:∀c y,H c=some (.own y)→c≠x:=λc y r z=>by subst z;rw[r]at da;exact da
 have apa:∀c xs,H c=some (.tup xs)→c≠x:=λc xs r z=>by subst z;rw[r]at da;exact da
 by_cases af:b=x
 .subst af;rw[aQ]at q;cases q;exact new
 .rw[aD af]at q;by_cases kC:b=e
  .have gz:H b=some (.own x):=by
    rcases he with z|z
    .exact bt (kC.trans z) af
    .rw[kC];exact z
   rw[q]at gz;cases gz;obtain⟨v,bA⟩:=xi;exact⟨v,by rw[kC];exact bA⟩
  .refine(ok b u q).jO (λc v aG r=>k c v ?_ r) (λc r=>by rw[aD (ZX c b r)];exact r) λc xs r=>by rw[aD (apa c xs r)];exact r
   rcases aG with rfl|aG
   .exact kC
   .rintro rfl;rcases he with z|z
    .exact ZX c b aG z
    .rw[aG]at z;cases z;exact af rfl
end
structure hi(fs ex:List Addr)(H U:aa)(h h':Heap):Prop where
 keep:∀b o,h.get? b=some o→H b=none→b∉fs→b∉ex→h'.get? b=some o
 slot:∀b o,h.get? b=some o→H b=none→b∈fs→b∉ex→∃br,h'.get? b=some {o with slots:=br}
 free:∀b o,h.get? b=some o→H b=none→b∉ex→U b=none
 there:∀b o,h.get? b=some o→b∉ex→∃cD,h'.get? b=some cD
 hE:∀b xs,H b=some (.tup xs)→U b=some (.tup xs)
 iR:∀b o u,H b=some (.fH o u)→U b=some (.fH o u)
 jw:∀b ps,H b=some (.qs ps)→∃more,U b=some (.qs (ps++more))
section
variable{fs ama ex asz:List Addr}{H H1 ak:aa}{h ai aj h':Heap}{a x e:Addr}{o:d1}
theorem hi.any(u:hi fs ex H H1 h ai){b:Addr}{ob:Obj}(q:h.get? b=some ob)(n:H b=none)(ay:b∉ex):∃br,ai.get? b=some {ob with slots:=br}:=by
 by_cases af:b∈fs
 .exact u.slot b ob q n af ay
 .exact⟨ob.slots,u.keep b ob q n af ay⟩
theorem hi.kept(k:∀b u,h.get? b=some u→h'.get? b=some u):hi fs ex H H h h':=
 ⟨λb ob q _ _ _=>k b ob q,λb ob q _ _ _=>⟨ob.slots,k b ob q⟩,λ_ _ _ n _=>n,λb ob q _=>⟨ob,k b ob q⟩,λ_ _ q=>q,λ_ _ _ q=>q,λ_ ps q=>⟨#[],by rw[q];simp⟩⟩
theorem hi.refl:hi fs ex H H h h:=hi.kept λ_ _ q=>q
theorem hi.laid(k:∀b u,h.get? b=some u→h'.get? b=some u)(aW:h.objs.size≤a)(aw:H a=none):hi fs ex H (upd H a o) h h' where
 keep:=λb u q _ _ _=>k b u q
 slot:=λb u q _ _ _=>⟨u.slots,k b u q⟩
 free:=λb u q n _=>by rw[aD (en (jS (dK q) aW))];exact n
 there:=λb u q _=>⟨u,k b u q⟩
 hE:=λb xs q=>by rw[aD (b2 q aw)];exact q
 iR:=λb u xs q=>by rw[aD (b2 q aw)];exact q
 jw:=λb ps q=>⟨#[],by rw[aD (b2 q aw),q];simp⟩
theorem hi.write(da:zH (H x))(he:e=x∨H e=some (.own x))(k:∀b u,b≠e→h.get? b=some u→h'.get? b=some u)(xi:∃u,h'.get? e=some u):hi fs ex H (upd H x o) h h':=by
 have ay:∀b,H b=none→b≠x:=λb n z=>by subst z;rw[n]at da;exact da
 have af:∀b,H b=none→b≠e:=λb n z=>by
  subst z;rcases he with r|r
  .exact ay b n r
  .rw[n]at r;cases r
 have hm:∀b u,H b=some u→¬zH (some u)→b≠x:=λb u q nm z=>by subst z;rw[q]at da;exact nm da
 refine⟨λb u q n _ _=>k b u (af b n) q,λb u q n _ _=>⟨u.slots,k b u (af b n) q⟩,λb u q n _=>by rw[aD (ay b n)];exact n,λb u q _=>?_,
  λb xs q=>by rw[aD (hm b _ q λz=>z)];exact q,λb u xs q=>by rw[aD (hm b _ q λz=>z)];exact q,λb ps q=>⟨#[],by rw[aD (hm b _ q λz=>z),q];simp⟩⟩
 by_cases kC:b=e
 .subst kC;exact xi
 .exact⟨u,k b u kC q⟩
end
noncomputable def HO(h:Heap)(H:aa):List Addr:=(dt h.objs.size).filter λa=>(H a).isSome
noncomputable def rK(h:Heap)(H:aa):Heap:=t4 h (HO h H)
theorem š(h:Heap)(H:aa):(rK h H).objs.size=h.objs.size:=PySem.W.hideAll_size _ _
theorem aaN{h:Heap}{H:aa}{b:Addr}{o:Obj}(e:h.get? b=some o)(n:H b=none):(rK h H).get? b=some o:=
 Wq _ e λhm=>by have q:(H b).isSome=true:=(ea.mp hm).2;rw[n]at q;simp at q
theorem adA{h:Heap}{H:aa}{b:Addr}{o:Obj}(e:(rK h H).get? b=some o):h.get? b=some o∧H b=none:=by
 have bR:h.get? b=some o:=Wt (HO h H) e;refine⟨bR,?_⟩;cases q:H b with
 |none=>rfl
 |some x=>
  have hm:b∈HO h H:=ea.mpr ⟨gZ.mpr (dK bR),by simp[q]⟩;have z:(rK h H).get? b=none:=acZ (HO h H) hm;rw[z]at e;cases e
open PySem PySem.Spec PyProof.Rows
structure Mod(K:aS)(mg:Str→Option Value)(base:Heap):Prop where
 sW:K.In base
 glob:base.Ns cx mg
 blt:∃nK,base.Ns Xo nK∧∀x:Str,x≠"__name__"→nK x=iw x
 nolimit:base.NoLimit
structure bh where
 prog:bL
 w:bC
 K:aS
 mg:Str→Option Value
 base:Heap
 A:c4
 N:List Str
 h1:ax
 n9:aa
 env:Env
 outer:List Env
 stack:List Env
 ex:List Addr
 fn:Str→Bool
 calm:Bool
 ef:List (Addr×Obj)
 dA:Value→ax→Prop
noncomputable def eW(l:List Env):List Addr:=l.filterMap (·.frame)
noncomputable abbrev bh.fs(X:bh):List Addr:=eW X.outer
noncomputable def Kp(sc:Scope)(x:Str):Prop:=sc.names.lookup x=some .local∨sc.names.lookup x=some .cell∨sc.names.lookup x=some .free
noncomputable def Loc(sc:Scope)(x:Str):Prop:=sc.names.lookup x=some .local∨sc.names.lookup x=some .cell
noncomputable def Look(env:Env)(h:Heap)(m:Str→Option Value)(x:Str)(u:Value):Prop:=
 (env.kindOf x=some .local∧m x=some u)∨((env.kindOf x=some .cell∨env.kindOf x=some .free)∧∃c,env.cells.lookup x=some c∧h.IsCell c (some u))
structure bh.Ok(X:bh):Prop where
 mod:Mod X.K X.mg X.base
 kind:X.env.scope.kind=.function
 glob:X.env.globals=cx
 blt:X.env.builtins=Xo
 above:X.h1.heap.objs.size≤X.env.locals
 inj:∀x y c,X.env.cells.lookup x=some c→X.env.cells.lookup y=some c→x=y
 has:∀x,(X.env.kindOf x=some .cell∨X.env.kindOf x=some .free)→∃c,X.env.cells.lookup x=some c
 uh:∀x c,X.fn x=true→X.env.cells.lookup x=some c→X.h1.heap.objs.size≤c
 hd:X.calm=true→X.A.handled=none
 frames:X.A.frames=some X.stack
 qp:X.stack=X.outer∨(X.stack=X.env::X.outer∧X.env.frame=some X.env.locals)
 EY:∀b∈X.ex,b≠X.env.locals∧∀x c,X.env.cells.lookup x=some c→c≠b
 bs:∀b o,X.base.get? b=some o→X.h1.heap.get? b=some o∧X.n9 b=none
 pz:X.base.objs.size≤X.h1.heap.objs.size
 u6:∀b o,X.base.get? b=some o→b∉X.ex
 w3:∀b∈X.ex,b∉X.fs
 jK:X.h1.heap.FunFrames X.base X.outer
 qW:∀b∈X.fs,X.n9 b=none
structure Inv(X:bh)(pins:List (Addr×Obj))(σ:List (Option V))(H:aa)(s:ax):Prop where
 ok:X.Ok
 os:s.os=X.h1.os
 bare:qA s.gens
 base:hi X.fs X.ex X.n9 H X.h1.heap s.heap
 loc:∃m,s.heap.Ns X.env.locals m∧∀(i:Nat)(x:Str)(v:V),X.N[i]?=some x→σ[i]?=some (some v)→Kp X.env.scope x→∃u,RelV v u∧Look X.env s.heap m x u
 cell:∀x c,X.env.cells.lookup x=some c→∃v,s.heap.IsCell c v
 free:H X.env.locals=none
 mu:∀x c,X.env.cells.lookup x=some c→H c=none
 pin:∀p∈X.ef++pins,s.heap.get? p.1=some p.2∧H p.1=none∧p.1≠X.env.locals∧p.1∉X.fs∧∀v,p.2.data≠.cell v
 bj:fp X.prog X.w H s.heap
 len:σ.length=X.N.length
section
variable{X:bh}{pins:List (Addr×Obj)}{σ:List (Option V)}{H U:aa}{s:ax}{h':Heap}
theorem bh.Ok.aoT(ok:X.Ok){b:Addr}{o:Obj}(e:X.base.get? b=some o):b∉X.fs:=λaf=>by have:=(ok.jK.mem af).1;rw[e]at this;cases this
theorem Inv.bs(I:Inv X pins σ H s):∀b o,X.base.get? b=some o→s.heap.get? b=some o∧H b=none:=λb o e=>
 ⟨I.base.keep b o (I.ok.bs b o e).1 (I.ok.bs b o e).2 (I.ok.aoT e) (I.ok.u6 b o e),I.base.free b o (I.ok.bs b o e).1 (I.ok.bs b o e).2 (I.ok.u6 b o e)⟩
theorem Inv.hl(I:Inv X pins σ H s):∀b o,X.base.get? b=some o→s.heap.get? b=some o:=λb o e=>(I.bs b o e).1
theorem Inv.mod(I:Inv X pins σ H s):Mod X.K X.mg X.base:=I.ok.mod
theorem Inv.eB(I:Inv X pins σ H s):X.K.In s.heap:=I.ok.mod.sW.keeps I.hl
theorem Inv.lt(I:Inv X pins σ H s):X.env.locals<s.heap.objs.size:=let⟨_,aw,_⟩:=I.loc;aw.lt
theorem Inv.iq(I:Inv X pins σ H s):X.h1.heap.objs.size≤s.heap.objs.size:=el I.ok.above (tX I.lt)
theorem Inv.aoV(I:Inv X pins σ H s){a:Addr}(h:s.heap.objs.size≤a):a∉X.fs:=λaf=>by obtain⟨_,o,bw,_⟩:=I.ok.jK.mem af;exact bt (jS (dK bw) (el I.iq h)) (qI _)
theorem Inv.ui(I:Inv X pins σ H s):∀x c,X.env.cells.lookup x=some c→c≠X.env.locals:=λx c e z=>by obtain⟨v,o,bw,hd⟩:=I.cell x c e;obtain⟨m,⟨cD,es,ep,j8,nt,_⟩,_⟩:=I.loc;rw[z,j8]at bw;cases bw;rw[nt]at hd;cases hd
theorem Inv.jK(I:Inv X pins σ H s):s.heap.FunFrames X.base X.outer:=by
 have all:∀(l:List Env),(∀b∈eW l,b∈X.fs)→X.h1.heap.FunFrames X.base l→s.heap.FunFrames X.base l:=by
  intro l
  induction l with
  |nil=>intro _ _;trivial
  |cons env r a7=>
   intro hs aq;obtain⟨aT,⟨L,o,hf,aw,bw,hd⟩,au⟩:=aq;have hz:L∈X.fs:=hs L (by unfold eW;rw[D3,hf];exact r');obtain⟨br,e⟩:=I.base.slot L o bw (I.ok.qW L hz) hz λz=>I.ok.w3 L z hz;exact⟨aT,⟨L,_,hf,aw,e,hd⟩,a7 (λb af=>hs b (by unfold eW;rw[D3,hf];exact lL _ af)) au⟩
 exact all X.outer (λ_ af=>af) I.ok.jK
theorem Inv.stack(I:Inv X pins σ H s):s.heap.FunFrames X.base X.stack:=by
 rcases I.ok.qp with e|⟨e,hf⟩
 .rw[e];exact I.jK
 .rw[e];obtain⟨m,aw,_⟩:=I.loc;refine .cons (by rw[I.ok.kind];decide) hf aw ?_ I.jK;exact UR (el I.ok.pz I.ok.above)
theorem Inv.CY(I:Inv X pins σ H s):∀b∈eW X.stack,b∈X.env.locals::X.fs:=λb af=>by
 rcases I.ok.qp with e|⟨e,hf⟩
 .rw[e]at af;exact lL _ af
 .rw[e]at af;unfold eW at af;rw[D3,hf]at af;exact af
theorem Inv.HH(I:Inv X pins σ H s):∀b∈eW X.stack,H b=none:=λb af=>by
 rcases dx.mp (I.CY b af)with e|af
 .rw[e];exact I.free
 .obtain⟨_,o,bw,_⟩:=I.ok.jK.mem af;exact I.base.free b o bw (I.ok.qW b af) λz=>I.ok.w3 b z af
theorem Inv.step{g':Array GenState}{t':Nat}{d':Drawn}{ch:List Addr}(I:Inv X pins σ H s)(iD:∀b∈ch,(b∈X.ex∨X.h1.heap.objs.size≤b)∧b≠X.env.locals∧(∀x c,X.env.cells.lookup x=some c→c≠b)∧∀p∈X.ef++pins,p.1≠b)(keep:∀b o,b≠X.env.locals→b∉X.fs→b∉ch→s.heap.get? b=some o→H b=none→h'.get? b=some o)(slot:∀b o,b≠X.env.locals→b∈X.fs→b∉ch→s.heap.get? b=some o→H b=none→∃br,h'.get? b=some {o with slots:=br})(free:∀b o,b∉ch→s.heap.get? b=some o→H b=none→U b=none)(there:∀b o,b∉ch→s.heap.get? b=some o→∃cD,h'.get? b=some cD)(hE:∀b xs,H b=some (.tup xs)→U b=some (.tup xs))(iR:∀b o u,H b=some (.fH o u)→U b=some (.fH o u))(jw:∀b ps,H b=some (.qs ps)→∃more,U b=some (.qs (ps++more)))(ns:∀m,s.heap.Ns X.env.locals m→h'.Ns X.env.locals m)(bj:fp X.prog X.w U h')(bz:qA g'):
  Inv X pins σ U {s with heap:=h',gens:=g',drawn:=d',toks:=t'}:=by
 have ZO:∀b o,X.h1.heap.get? b=some o→b≠X.env.locals:=λb o e=>en (jS (dK e) I.ok.above);have GV:∀b o,X.h1.heap.get? b=some o→b∉X.ex→b∉ch:=λb o e ay af=>by
  rcases(iD b af).1 with z|z
  .exact ay z
  .exact bt (jS (dK e) z) (qI _)
 have cellK:∀x c,X.env.cells.lookup x=some c→∀v,s.heap.IsCell c v→h'.IsCell c v:=λx c e v⟨o,bw,hd⟩=>by
  have s9:c∉ch:=λz=>(iD c z).2.2.1 x c e rfl;by_cases aG:c∈X.fs
  .obtain⟨br,q⟩:=slot c o (I.ui x c e) aG s9 bw (I.mu x c e);exact⟨_,q,hd⟩
  .exact⟨o,keep c o (I.ui x c e) aG s9 bw (I.mu x c e),hd⟩
 refine⟨I.ok,I.os,bz,⟨λb o e n af ay=>?_,λb o e n af ay=>?_,λb o e n ay=>?_,λb o e ay=>?_,λb xs e=>hE b xs (I.base.hE b xs e),λb o xs e=>iR b o xs (I.base.iR b o xs e),λb ps e=>?_⟩,?_,λx c e=>?_,?_,λx c e=>?_,λp aW=>?_,bj,I.len⟩
 .exact keep b o (ZO b o e) af (GV b o e ay) (I.base.keep b o e n af ay) (I.base.free b o e n ay)
 .obtain⟨br,az⟩:=I.base.slot b o e n af ay;obtain⟨mV,aE⟩:=slot b _ (ZO b o e) af (GV b o e ay) az (I.base.free b o e n ay);exact⟨mV,aE⟩
 .obtain⟨cD,az⟩:=I.base.there b o e ay;exact free b cD (GV b o e ay) az (I.base.free b o e n ay)
 .obtain⟨cD,az⟩:=I.base.there b o e ay;exact there b cD (GV b o e ay) az
 .obtain⟨jr,az⟩:=I.base.jw b ps e;obtain⟨nJ,aE⟩:=jw b _ az;exact⟨jr++nJ,by rw[aE,TA]⟩
 .obtain⟨m,aw,aq⟩:=I.loc;refine⟨m,ns m aw,λi x v az aE dj=>?_⟩;obtain⟨u,r,l⟩:=aq i x v az aE dj;refine⟨u,r,?_⟩;rcases l with l|⟨k,c,e,z⟩
  .exact .inl l
  .exact .inr ⟨k,c,e,cellK x c e _ z⟩
 .obtain⟨v,z⟩:=I.cell x c e;exact⟨v,cellK x c e v z⟩
 .obtain⟨m,⟨o,_,_,bw,_⟩,_⟩:=I.loc;exact free _ o (λz=>(iD _ z).2.1 rfl) bw I.free
 .obtain⟨v,o,bw,hd⟩:=I.cell x c e;exact free c o (λz=>(iD c z).2.2.1 x c e rfl) bw (I.mu x c e)
 .obtain⟨e,n,ne,gc,d⟩:=I.pin p aW;have s9:p.1∉ch:=λz=>(iD p.1 z).2.2.2 p aW rfl;exact⟨keep p.1 p.2 ne gc s9 e n,free p.1 p.2 s9 e n,ne,gc,d⟩
theorem Inv.un{t':Nat}(I:Inv X pins σ H s)(u:hi X.fs [] H U s.heap h')(bj:fp X.prog X.w U h'):Inv X pins σ U {s with heap:=h',toks:=t'}:=by
 obtain⟨m,⟨o,es,ep,bw,r⟩,_⟩:=id I.loc;obtain⟨br,hz⟩:=u.any bw I.free (by simp);exact I.step (g':=s.gens) (d':=s.drawn) (ch:=[]) (λ_ z=>nomatch z) (λb o _ af _ e n=>u.keep b o e n af (by simp)) (λb o _ af _ e n=>u.slot b o e n af (by simp)) (λb o _ e n=>u.free b o e n (by simp)) (λb o _ e=>u.there b o e (by simp)) u.hE u.iR u.jw (λcp hm=>by
  obtain⟨cD,uw,uu,j8,cE⟩:=hm;rw[bw]at j8;cases j8;exact⟨_,uw,uu,hz,cE⟩) bj I.bare
theorem Inv.call{g':Array GenState}{t':Nat}{d':Drawn}{ch:List Addr}(I:Inv X pins σ H s)(u:hi (eW X.stack) ch H U s.heap h')(bj:fp X.prog X.w U h')(bz:qA g')(iD:∀b∈ch,(b∈X.ex∨X.h1.heap.objs.size≤b)∧b≠X.env.locals∧(∀x c,X.env.cells.lookup x=some c→c≠b)∧∀p∈X.ef++pins,p.1≠b):
  Inv X pins σ U {s with heap:=h',gens:=g',drawn:=d',toks:=t'}:=by
 obtain⟨m,⟨o,es,ep,bw,r⟩,_⟩:=id I.loc;obtain⟨br,hz⟩:=u.any bw I.free λz=>(iD _ z).2.1 rfl;exact I.step (ch:=ch) iD (λb o hz af aG e n=>u.keep b o e n (λz=>(dx.mp (I.CY b z)).elim hz af) aG) (λb o _ _ aG e n=>u.any e n aG) (λb o aG e n=>u.free b o e n aG) (λb o aG e=>u.there b o e aG) u.hE u.iR u.jw (λcp hm=>by
  obtain⟨cD,uw,uu,j8,cE⟩:=hm;rw[bw]at j8;cases j8;exact⟨_,uw,uu,hz,cE⟩) bj bz
theorem Inv.turned{t':Nat}{it:Addr}(I:Inv X pins σ H s)(k:∀b o,b≠it→s.heap.get? b=some o→h'.get? b=some o)(aw:H it=none)(hz:it≠X.env.locals)(ai:it∈X.ex∨X.h1.heap.objs.size≤it)(aj:∀x c,X.env.cells.lookup x=some c→c≠it)(bk:∀p∈X.ef++pins,p.1≠it):Inv X pins σ H {s with heap:=h',toks:=t'}:=by
 have ZR:∀b u,H b=some u→b≠it:=λb u e z=>by rw[z,aw]at e;cases e
 refine I.step (g':=s.gens) (d':=s.drawn) (ch:=[it]) (λb af=>?_) (λb o _ _ aG e _=>k b o (λz=>aG (by simp[z])) e) (λb o _ _ aG e _=>⟨o.slots,k b o (λz=>aG (by simp[z])) e⟩) (λ_ _ _ _ n=>n)
  (λb o aG e=>⟨o,k b o (λz=>aG (by simp[z])) e⟩) (λ_ _ e=>e) (λ_ _ _ e=>e) (λb ps e=>⟨#[],by rw[e];simp⟩) (λm hm=>?_) (λb u e=>?_) I.bare
 .have e:b=it:=by simpa using af
  subst e;exact⟨ai,hz,aj,bk⟩
 .obtain⟨o,es,ep,bw,r⟩:=hm;exact⟨o,es,ep,k _ o (b' hz) bw,r⟩
 .refine(I.bj b u e).jO (λc v aG q=>k c v ?_ q) (λ_ q=>q) λ_ _ q=>q;rcases aG with z|z
  .rw[z];exact ZR b u e
  .exact ZR c _ z
theorem Inv.tok(I:Inv X pins σ H s)(t:Nat):Inv X pins σ H {s with toks:=t}:=I.un (h':=s.heap) (t':=t) hi.refl I.bj
theorem Inv.kept{t':Nat}(I:Inv X pins σ H s)(k:∀b u,s.heap.get? b=some u→h'.get? b=some u):Inv X pins σ H {s with heap:=h',toks:=t'}:=I.un (hi.kept k) (I.bj.kept k)
theorem Inv.laid{a:Addr}{o:d1}{t':Nat}(I:Inv X pins σ H s)(k:∀b u,s.heap.get? b=some u→h'.get? b=some u)(aW:s.heap.objs.size≤a)(new:eo X.prog X.w (upd H a o) h' a o):
  Inv X pins σ (upd H a o) {s with heap:=h',toks:=t'}:=I.un (hi.laid k aW (I.bj.fresh aW)) (I.bj.laid k aW new)
theorem Inv.write{x e:Addr}{o:d1}{t':Nat}(I:Inv X pins σ H s)(da:zH (H x))(he:e=x∨H e=some (.own x))(k:∀b u,b≠e→s.heap.get? b=some u→h'.get? b=some u)(xi:∃u,h'.get? e=some u)(new:eo X.prog X.w (upd H x o) h' x o):Inv X pins σ (upd H x o) {s with heap:=h',toks:=t'}:=I.un (hi.write da he k xi) (I.bj.write da he k xi new)
theorem Inv.δ{γ:List (Addr×Obj)}(I:Inv X pins σ H s)(h:∀p∈γ,s.heap.get? p.1=some p.2∧H p.1=none∧p.1≠X.env.locals∧p.1∉X.fs∧∀v,p.2.data≠.cell v):Inv X γ σ H s:=
 ⟨I.ok,I.os,I.bare,I.base,I.loc,I.cell,I.free,I.mu,λp aW=>(hv.mp aW).elim (λz=>I.pin p (abg _ z)) (h p),I.bj,I.len⟩
theorem Tq{N:List Str}(fk:N.Nodup){i j:Nat}{x:Str}(a:N[i]?=some x)(b:N[j]?=some x):i=j:=by obtain⟨ai,az⟩:=eR.mp a;obtain⟨aj,aE⟩:=eR.mp b;exact(zB fk).mp (az.trans aE.symm)
theorem Ý{M:oc}{A:c4}{E:Value→ax→Prop}{i:Nat}{x:Str}{v:V}{u:Value}{Q:Unit→ax→Prop}(I:Inv X pins σ H s)(fk:X.N.Nodup)(ar:X.N[i]?=some x)(ay:Loc X.env.scope x)(r:RelV v u)(h:∀s',Inv X pins (σ.set i (some v)) H s'→(∃a,tQ a s.heap s'.heap∧(a=X.env.locals∨X.env.cells.lookup x=some a))→Q () s')(hf:X.fn x=true∨X.env.scope.names.lookup x=some .local:=by first|exact .inl rfl|exact .inr rfl|assumption):a4 M A (storeName X.env x u) Q E s:=by
 obtain⟨m,aw,aq⟩:=id I.loc;have M9:(X.env.scope.kind==.class||(X.env.scope.kind==.module&&X.env.locals !=X.env.globals))=false:=by rw[I.ok.kind];rfl
 have YT:i<σ.length:=by rw[I.len];exact(eR.mp ar).1
 have ui:=I.ui;have tracked:∀{a:Addr}{h':Heap},(∃o,s.heap.get? a=some o∧H a=none)→tQ a s.heap h'→fp X.prog X.w H h':=λ{a h'}aI hs b ob e=>by
  obtain⟨_,_,FT⟩:=aI;refine(I.bj b ob e).jO (λc eX aG q=>(hs.2 c ?_).trans q) (λ_ q=>q) λ_ _ q=>q;rintro rfl;rcases aG with rfl|aG
  .rw[FT]at e;cases e
  .rw[FT]at aG;cases aG
 rcases ay with aT|aT
 .refine wpAny_storeName_local aT aw (λh' lb hs=>?_) M9;obtain⟨apg,_,_,anr,_⟩:=id aw;refine h _ ⟨I.ok,I.os,I.bare,⟨λb o e n af ay=>?_,λb o e n af ay=>?_,I.base.free,λb o e ay=>?_,I.base.hE,I.base.iR,I.base.jw⟩,⟨_,lb,λj y tB az aE dj=>?_⟩,λy c e=>?_,I.free,I.mu,λp aW=>?_,tracked ⟨apg,anr,I.free⟩ hs,by simpa using I.len⟩ ⟨_,hs,.inl rfl⟩
  .exact(hs.2 b (en (jS (dK e) I.ok.above))).trans (I.base.keep b o e n af ay)
  .obtain⟨br,az⟩:=I.base.slot b o e n af ay;exact⟨br,(hs.2 b (en (jS (dK e) I.ok.above))).trans az⟩
  .obtain⟨cD,az⟩:=I.base.there b o e ay;exact⟨cD,(hs.2 b (en (jS (dK e) I.ok.above))).trans az⟩
  .by_cases bq:j=i
   .subst bq;rw[ar]at az;cases az;rw[abc YT]at aE;cases aE;exact⟨u,r,.inl ⟨aT,by simp⟩⟩
   .rw[abb (b' bq)]at aE;obtain⟨u',cE,q⟩:=aq j y tB az aE dj;refine⟨u',cE,?_⟩;rcases q with⟨k,e⟩|⟨k,c,e,z⟩
    .refine .inl ⟨k,?_⟩;have:y≠x:=λe=>bq (Tq fk az (e▸ar));simp[this,e]
    .exact .inr ⟨k,c,e,z.sameBut hs (ui y c e)⟩
  .obtain⟨eX,z⟩:=I.cell y c e;exact⟨eX,z.sameBut hs (ui y c e)⟩
  .obtain⟨e,n,ne,gc,d⟩:=I.pin p aW;exact⟨(hs.2 p.1 ne).trans e,n,ne,gc,d⟩
 .have Nn:X.fn x=true:=by
   rcases hf with z|z
   .exact z
   .rw[z]at aT;cases aT
  obtain⟨c,aG⟩:=I.ok.has x (.inl aT);obtain⟨eX,z⟩:=I.cell x c aG;refine wpAny_storeName_cell I.ok.kind aT aG z (λh' Yy hs=>?_);obtain⟨l4,Y6,ant⟩:=id z;refine h {s with heap:=h'} ⟨I.ok,I.os,I.bare,⟨λb o e n af ay=>?_,λb o e n af ay=>?_,I.base.free,λb o e ay=>?_,I.base.hE,I.base.iR,I.base.jw⟩,⟨m,aw.sameBut hs (b' (ui x c aG)),λj y tB az aE dj=>?_⟩,λy lQ e=>?_,I.free,I.mu,λp aW=>?_,tracked ⟨l4,Y6,I.mu x c aG⟩ hs,by simpa using I.len⟩ ⟨c,hs,.inr aG⟩
  .exact(hs.2 b (en (jS (dK e) (I.ok.uh x c Nn aG)))).trans (I.base.keep b o e n af ay)
  .obtain⟨br,az⟩:=I.base.slot b o e n af ay;exact⟨br,(hs.2 b (en (jS (dK e) (I.ok.uh x c Nn aG)))).trans az⟩
  .obtain⟨cD,az⟩:=I.base.there b o e ay;exact⟨cD,(hs.2 b (en (jS (dK e) (I.ok.uh x c Nn aG)))).trans az⟩
  .by_cases bq:j=i
   .subst bq;rw[ar]at az;cases az;rw[abc YT]at aE;cases aE;exact⟨u,r,.inr ⟨.inl aT,c,aG,Yy⟩⟩
   .rw[abb (b' bq)]at aE;obtain⟨u',cE,q⟩:=aq j y tB az aE dj;refine⟨u',cE,?_⟩;rcases q with q|⟨k,lQ,e,dp⟩
    .exact .inl q
    .refine .inr ⟨k,lQ,e,dp.sameBut hs ?_⟩;rintro rfl;exact bq (Tq fk az (I.ok.inj _ _ _ e aG▸ar))
  .by_cases YD:lQ=c
   .subst YD;exact⟨_,Yy⟩
   .obtain⟨ha,bG⟩:=I.cell y lQ e;exact⟨ha,bG.sameBut hs YD⟩
  .obtain⟨e,n,ne,gc,d⟩:=I.pin p aW;refine⟨(hs.2 p.1 ?_).trans e,n,ne,gc,d⟩;intro q;rw[q,Y6]at e;have gz:l4=p.2:=hM e;exact d eX (by rw[←gz];exact ant)
theorem Tr{M:oc}{A:c4}{E:Value→ax→Prop}{i:Nat}{x:Str}{v:V}{u:Value}{Q:Unit→ax→Prop}(I:Inv X pins σ H s)(fk:X.N.Nodup)(ar:X.N[i]?=some x)(ay:Loc X.env.scope x)(r:RelV v u)(h:∀s',Inv X pins (σ.set i (some v)) H s'→Q () s')(hf:X.fn x=true∨X.env.scope.names.lookup x=some .local:=by first|exact .inl rfl|exact .inr rfl|assumption):a4 M A (storeName X.env x u) Q E s:=
 Ý I fk ar ay r (λs' r5 _=>h s' r5) hf
theorem Inv.L7{s':ax}{ch:List Addr}(I:Inv X pins σ H s)(bw:s'.os=s.os)(u:hi (eW X.stack) ch H U s.heap s'.heap)(bj:fp X.prog X.w U s'.heap)(bz:qA s'.gens)(iD:∀b∈ch,(b∈X.ex∨X.h1.heap.objs.size≤b)∧b≠X.env.locals∧(∀x c,X.env.cells.lookup x=some c→c≠b)∧∀p∈X.ef++pins,p.1≠b):Inv X pins σ U s':=by obtain⟨h',g',d',t',cD⟩:=s';have e:cD=s.os:=bw;subst e;exact I.call (g':=g') (t':=t') (d':=d') u bj bz iD
end
noncomputable abbrev b6:=Value→Option Addr→aa→Prop
noncomputable abbrev St:=List (Option V)
noncomputable abbrev a6:=V→aa→Prop
noncomputable abbrev TE:=St→aa→a6→Prop
noncomputable abbrev TT:=St→aa→(Bool→aa→Prop)→Prop
noncomputable abbrev fD:=St→aa→(List V→aa→Prop)→Prop
structure Ends where
 cf:St→aa→Prop
 rt:a6
 hl:St→aa→Prop:=λ_ _=>False
 fG:St→aa→Prop:=λ_ _=>False
noncomputable abbrev eY:=Ends→St→aa→Prop
noncomputable def hI(X:bh)(pins:List (Addr×Obj))(σ:St)(Q:a6)(u:Value)(s':ax):Prop:=∃v U,Inv X pins σ U s'∧RelV v u∧Q v U
noncomputable def Ez(X:bh)(pins:List (Addr×Obj))(σ:St)(Q:Bool→aa→Prop)(b:Bool)(s':ax):Prop:=∃U,Inv X pins σ U s'∧Q b U
noncomputable def Tp(X:bh)(pins:List (Addr×Obj))(σ:St)(Q:List V→aa→Prop)(us:List Value)(s':ax):Prop:=∃vs U,Inv X pins σ U s'∧cN vs us∧Q vs U
noncomputable def t5(X:bh)(pins:List (Addr×Obj))(D:Ends)(f:Flow)(s':ax):Prop:=
 match f with
 |.next=>∃aY U,Inv X pins aY U s'∧D.cf aY U
 |.brk=>∃aY U,Inv X pins aY U s'∧D.hl aY U
 |.cont=>∃aY U,Inv X pins aY U s'∧D.fG aY U
 |.ret u=>∃v aY U,Inv X pins aY U s'∧RelV v u∧D.rt v U
noncomputable def bJ(X:bh)(e:Expr)(t:TE):Prop:=
 ∀(pins:List (Addr×Obj))(s:ax)(σ:St)(H:aa)(Q:a6),Inv X pins σ H s→t σ H Q→a4 (bg X.prog X.w) X.A (eval e X.env) (hI X pins σ Q) X.dA s
noncomputable def kP(X:bh)(e:Expr)(t:TT):Prop:=
 ∀(pins:List (Addr×Obj))(s:ax)(σ:St)(H:aa)(Q:Bool→aa→Prop),Inv X pins σ H s→t σ H Q→a4 (bg X.prog X.w) X.A (Bz e X.env (eval e X.env)) (Ez X pins σ Q) X.dA s
noncomputable def lM(X:bh)(e:Expr)(t:TT):Prop:=
 ∀(whole:Sem Value)(pins:List (Addr×Obj))(s:ax)(σ:St)(H:aa)(Q:Bool→aa→Prop),Inv X pins σ H s→t σ H Q→a4 (bg X.prog X.w) X.A (Bz e X.env whole) (Ez X pins σ Q) X.dA s
theorem lM.pt{X:bh}{e:Expr}{t:TT}(h:lM X e t):kP X e t:=h _
noncomputable def hN(X:bh)(es:List Expr)(t:fD):Prop:=
 ∀(pos:Pos)(pins:List (Addr×Obj))(s:ax)(σ:St)(H:aa)(Q:List V→aa→Prop),Inv X pins σ H s→t σ H Q→a4 (bg X.prog X.w) X.A (spliced (g0 pos (dM es X.env))) (Tp X pins σ Q) X.dA s
noncomputable def h4(X:bh)(st:Stmt)(t:eY):Prop:=
 ∀(pins:List (Addr×Obj))(s:ax)(σ:St)(H:aa)(D:Ends),Inv X pins σ H s→t D σ H→a4 (bg X.prog X.w) X.A (exec st X.env) (t5 X pins D) X.dA s
noncomputable def iK(X:bh)(st:List Stmt)(t:eY):Prop:=
 ∀(pins:List (Addr×Obj))(s:ax)(σ:St)(H:aa)(D:Ends),Inv X pins σ H s→t D σ H→a4 (bg X.prog X.w) X.A (execs st X.env) (t5 X pins D) X.dA s
theorem bM{α:Type}{t:Sem α}{Q wO:α→ax→Prop}{M:oc}{A:c4}{E:Value→ax→Prop}{s:ax}(h:a4 M A t Q E s)(fP:∀a s,Q a s→wO a s):a4 M A t wO E s:=gf h fP λ_ _ x=>x
open PySem PySem.Spec PyProof.Rows
section
variable{X:bh}
theorem bin{a b:Expr}{b3 c7:TE}(aI:bJ X a b3)(af:bJ X b c7){pins:List (Addr×Obj)}{s:ax}{σ:St}{H:aa}{R:V→V→aa→Prop}(I:Inv X pins σ H s)(h:b3 σ H λx H1=>c7 σ H1 λy ak=>R x y ak){α:Type}{Q:α→ax→Prop}{f:Value→Value→Sem α}(hf:∀v u s2 x y ak,Inv X pins σ ak s2→RelV x v→RelV y u→R x y ak→a4 (bg X.prog X.w) X.A (f v u) Q X.dA s2):
  a4 (bg X.prog X.w) X.A (eval a X.env) (λv dH=>a4 (bg X.prog X.w) X.A (eval b X.env) (λu qq=>a4 (bg X.prog X.w) X.A (f v u) Q X.dA qq) X.dA dH) X.dA s:=by refine bM (aI pins s σ H _ I h) λv s1⟨x,H1,aU,cJ,bT⟩=>?_;refine bM (af pins s1 σ H1 _ aU bT) λu s2⟨y,ak,bI,dr,c6⟩=>?_;exact hf v u s2 x y ak bI cJ dr c6
inductive agk(i:Nat)(σ:ag.St)(H:aa)(Q:a6):Prop where
 |mk (v:_) (bW:σ[i]?=some (some v)) (bG:Q v H)
noncomputable def Kc(i:Nat):TE:=λσ H Q=>agk i σ H Q
noncomputable def rD(v:V):TE:=λ_ H Q=>Q v H
theorem aeY{i:Nat}{x:Str}{pos:Pos}(fk:X.N[i]?=some x)(bA:Kp X.env.scope x)(hd:(x==("__debug__":Str))=false:=by decide)(k_:(x==("__classdict__":Str))=false:=by decide):bJ X (.Name x pos) (Kc i):=by
 intro pins s σ H Q I h;obtain⟨v,e,h⟩:=h;obtain⟨m,aw,aq⟩:=I.loc;obtain⟨u,r,l⟩:=aq i x v fk e bA;have fin:hI X pins σ Q u s:=⟨v,H,I,r,h⟩
 rcases l with⟨aT,hm⟩|⟨aT,c,aG,sP⟩
 .exact Ó (wpAny_loadName_local I.ok.kind aT aw hm fin) hd
 .rcases aT with aT|aT
  .exact Ó (wpAny_loadName_cell I.ok.kind aT aG sP fin) hd
  .exact Ó (wpAny_loadName_free I.ok.kind aT aG sP fin k_) hd
theorem ba{i j pos}:bJ X (.Constant (.int i) j pos) (rD (.int i)):=λ_ _ _ H _ I h=>wpAny_Constant_int ⟨.int i,H,I.tok _,⟨_,rfl⟩,h⟩
theorem l1{b j pos}:bJ X (.Constant (.bool b) j pos) (rD (.aV b)):=λ_ _ _ H _ I h=>Constant_bool ⟨.aV b,H,I,rfl,h⟩
theorem k9{j pos}:bJ X (.Constant .none j pos) (rD .bD):=λ_ _ _ H _ I h=>Constant_none ⟨.bD,H,I,rfl,h⟩
theorem jG{x j pos}:bJ X (.Constant (.str x) j pos) (rD (.str x)):=λ_ _ _ H _ I h=>Calls.Constant_str ⟨.str x,H,I.tok _,⟨_,rfl⟩,h⟩
noncomputable def iJ(X:bh)(x:Str):Prop:=X.env.kindOf x=some .globalImplicit
theorem sV{E:Value→ax→Prop}{pins:List (Addr×Obj)}{s:ax}{σ:St}{H:aa}{x:Str}{u:Value}{pos:Pos}{Q:Value→ax→Prop}(I:Inv X pins σ H s)(bz:iJ X x)(hm:X.mg x=some u)(h:Q u s)(hd:(x==("__debug__":Str))=false:=by decide):a4 (bg X.prog X.w) X.A (eval (.Name x pos) X.env) Q E s:=
 Ē I.ok.kind bz (Calls.loadGlobal_global (by rw[I.ok.glob];exact I.mod.glob.keeps I.hl) hm h) hd
theorem vc{E:Value→ax→Prop}{pins:List (Addr×Obj)}{s:ax}{σ:St}{H:aa}{x:Str}{u:Value}{pos:Pos}{Q:Value→ax→Prop}(I:Inv X pins σ H s)(bz:iJ X x)(hm:X.mg x=none)(bA:iw x=some u)(h:Q u s)(aw:x≠"__name__":=by decide)(hd:(x==("__debug__":Str))=false:=by decide):a4 (bg X.prog X.w) X.A (eval (.Name x pos) X.env) Q E s:=by obtain⟨nK,ai,aj⟩:=I.mod.blt;exact Ē I.ok.kind bz (Calls.loadGlobal_builtin (by rw[I.ok.glob];exact I.mod.glob.keeps I.hl) hm (by rw[I.ok.blt];exact ai.keeps I.hl) ((aj x aw).trans bA) h) hd
theorem UC{x:Str}{v:V}{u:Value}{pos:Pos}(bz:iJ X x)(hm:X.mg x=some u)(r:RelV v u)(hd:(x==("__debug__":Str))=false:=by decide):bJ X (.Name x pos) (rD v):=
 λ_ _ _ H _ I h=>sV I bz hm ⟨v,H,I,r,h⟩ hd
theorem adB{x:Str}{v:V}{u:Value}{pos:Pos}(bz:iJ X x)(hm:X.mg x=none)(bA:iw x=some u)(r:RelV v u)(aw:x≠"__name__":=by decide)(hd:(x==("__debug__":Str))=false:=by decide):bJ X (.Name x pos) (rD v):=
 λ_ _ _ H _ I h=>vc I bz hm bA ⟨v,H,I,r,h⟩ aw hd
variable{a b:Expr}{b3 c7:TE}{pos:Pos}
noncomputable def JY(X:bh)(op:rZ)(a b:Expr)(t:TE):Prop:=
 ∀(pins:List (Addr×Obj))(s:ax)(σ:St)(H:aa)(Q:a6),Inv X pins σ H s→t σ H Q→
  a4 (bg X.prog X.w) X.A (eval a X.env) (λv dH=>a4 (bg X.prog X.w) X.A (eval b X.env) (λu qq=>a4 (bg X.prog X.w) X.A (hQ op v u) (hI X pins σ Q) X.dA qq) X.dA dH) X.dA s
theorem Ts(b:Expr){op:rZ}(h:op≠.In)(aj:op≠.NotIn):ua op b=false:=by
 have az:(op==CmpOp.In)=false:=by cases op<;>first|rfl|exact bt rfl h
 have aE:(op==CmpOp.NotIn)=false:=by cases op<;>first|rfl|exact bt rfl aj
 cases b<;>simp[ua,az,aE]
inductive Va(x:V)(H1:aa)(Q:Bool→aa→Prop):Prop where
 |mk (c:_) (bW:x=.aV c) (bG:Q c H1)
noncomputable def Rq(t:TE):TT:=λσ H Q=>t σ H λx H1=>Va x H1 Q
theorem aeZ{op:rZ}{t:TE}(h:JY X op a b t)(ai:ua op b=false:=by first|exact Ts _ (by decide) (by decide)|rfl):bJ X (.Compare a [op] [b] pos) t:=λpins s σ H Q I hw=>aqY (h pins s σ H Q I hw) ai
theorem Vf{op:rZ}{t:TE}(h:JY X op a b t)(ai:ua op b=false:=by first|exact Ts _ (by decide) (by decide)|rfl):kP X (.Compare a [op] [b] pos) (Rq t):=by intro pins s σ H Q I hw;refine aq3 (bM (h pins s σ H _ I hw) λv s1 ai=>bM ai λu s2 aj=>bM aj λc s3⟨x,H1,aU,cJ,bT⟩=>?_) ai;obtain⟨d,rfl,q⟩:=bT;cases cJ;exact m2 ⟨H1,aU,q⟩
theorem k8{e:Expr}{t:TE}(h:bJ X e t)(he:∀whole,Bz e X.env whole=(do let v ←whole;tr e.pos;pV [v] (truthy v)):=by intro _;rfl):kP X e (Rq t):=by intro pins s σ H Q I hw;refine isTrue_plain (bM (h pins s σ H _ I hw) λv s1⟨x,H1,aU,cJ,bT⟩=>?_) (he _);obtain⟨d,rfl,q⟩:=bT;cases cJ;exact m2 ⟨H1,aU,q⟩
variable{qr HJ:TT}{rest:List Expr}
noncomputable def aih(t u:TT):TT:=λσ H Q=>t σ H λc H1=>if c=true then u σ H1 Q else Q false H1
noncomputable def aqp(t u:TT):TT:=λσ H Q=>t σ H λc H1=>if c=true then Q true H1 else u σ H1 Q
noncomputable def W0(t:TT):TT:=λσ H Q=>t σ H λc H1=>Q (!c) H1
theorem adC(aI:kP X a qr):lM X (.BoolOp .And [a] pos) qr:=by
 intro Dq pins s σ H Q I h;refine isTrue_and (bM (aI pins s σ H Q I h) λc s1 e=>?_);cases c with
 |true=>exact isTrue_and_nil e
 |false=>exact e
theorem C5(aI:kP X a qr):lM X (.BoolOp .Or [a] pos) qr:=by
 intro Dq pins s σ H Q I h;refine isTrue_or (bM (aI pins s σ H Q I h) λc s1 e=>?_);cases c with
 |false=>exact isTrue_or_nil e
 |true=>exact e
theorem aeP(aI:kP X a qr)(af:lM X (.BoolOp .And (b::rest) pos) HJ):lM X (.BoolOp .And (a::b::rest) pos) (aih qr HJ):=by
 intro Dq pins s σ H Q I h;refine isTrue_and (bM (aI pins s σ H _ I h) λc s1⟨H1,aU,bT⟩=>?_);cases c with
 |true=>exact af Dq pins s1 σ H1 Q aU bT
 |false=>exact⟨H1,aU,bT⟩
theorem yw(aI:kP X a qr)(af:lM X (.BoolOp .Or (b::rest) pos) HJ):lM X (.BoolOp .Or (a::b::rest) pos) (aqp qr HJ):=by
 intro Dq pins s σ H Q I h;refine isTrue_or (bM (aI pins s σ H _ I h) λc s1⟨H1,aU,bT⟩=>?_);cases c with
 |true=>exact⟨H1,aU,bT⟩
 |false=>exact af Dq pins s1 σ H1 Q aU bT
theorem jH(aI:kP X a qr):kP X (.UnaryOp .Not a pos) (W0 qr):=by intro pins s σ H Q I h;exact isTrue_not (aI pins s σ H (λc H1=>Q (!c) H1) I h)
noncomputable def DM(b3 c7:TE):TE:=λσ H Q=>b3 σ H λx H1=>∃c,x=.aV c∧if c=true then c7 σ H1 Q else Q (.aV false) H1
noncomputable def aii(b3 c7:TE):TE:=λσ H Q=>b3 σ H λx H1=>∃c,x=.aV c∧if c=true then Q (.aV true) H1 else c7 σ H1 Q
noncomputable def aga(b3:TE):TE:=λσ H Q=>b3 σ H λx H1=>∃c,x=.aV c∧Q (.aV (!c)) H1
theorem j4{op}{t:TE}(h:bJ X a t):bJ X (.BoolOp op [a] pos) t:=λpins s σ H Q I hw=>BoolOp_one (h pins s σ H Q I hw)
theorem gN(aI:bJ X a b3)(af:bJ X (.BoolOp .And (b::rest) pos) c7):bJ X (.BoolOp .And (a::b::rest) pos) (DM b3 c7):=by
 intro pins s σ H Q I h;refine BoolOp_and (bM (aI pins s σ H _ I h) λv s1⟨x,H1,aU,cJ,bT⟩=>?_);obtain⟨c,rfl,bT⟩:=bT;cases cJ;refine m2 ?_;cases c with
 |true=>exact af pins s1 σ H1 Q aU bT
 |false=>exact⟨.aV false,H1,aU,rfl,bT⟩
theorem agb(aI:bJ X a b3)(af:bJ X (.BoolOp .Or (b::rest) pos) c7):bJ X (.BoolOp .Or (a::b::rest) pos) (aii b3 c7):=by
 intro pins s σ H Q I h;refine BoolOp_or (bM (aI pins s σ H _ I h) λv s1⟨x,H1,aU,cJ,bT⟩=>?_);obtain⟨c,rfl,bT⟩:=bT;cases cJ;refine m2 ?_;cases c with
 |false=>exact af pins s1 σ H1 Q aU bT
 |true=>exact⟨.aV true,H1,aU,rfl,bT⟩
theorem Vg(aI:bJ X a b3):bJ X (.UnaryOp .Not a pos) (aga b3):=by intro pins s σ H Q I h;refine UnaryOp_ (bM (aI pins s σ H _ I h) λv s1⟨x,H1,aU,cJ,bT⟩=>?_);obtain⟨c,rfl,bT⟩:=bT;cases cJ;exact not_of (m2 ⟨.aV (!c),H1,aU,rfl,bT⟩)
end
open PySem PySem.Spec PyProof.Rows
noncomputable def aO(K:aS)(H:aa)(a:Addr)(xs:List V):Prop:=
 a5 H a (.lst xs)∨
  ∃(o:Obj)(its:Array Value)(n:Nat),K.lookup a=some o∧o.cls=.type "list"∧o.dict=none∧o.data=.seq its n∧its.size≤sizeLine∧cN xs its.toList
noncomputable def b1(K:aS)(H:aa)(a:Addr)(xs:List V):Prop:=
 a5 H a (.tup xs)∨
  ∃(o:Obj)(its:Array Value)(n:Nat),K.lookup a=some o∧o.cls=.type "tuple"∧o.data=.seq its n∧its.size≤sizeLine∧cN xs its.toList
noncomputable def aij:Value→Option V
 |.none=>some .bD
 |.bool b=>some (.aV b)
 |.int i _=>some (.int i)
 |.str x _=>some (.str x)
 |.bytes b _=>some (.lP b)
 |.float b _=>some (.uA b)
 |.ref a=>some (.ref a)
 |.type n=>some (.ty n)
 |_=>none
theorem RelV.abs{x:V}{u:Value}(r:RelV x u):aij u=some x:=by
 cases x with
 |bD=>cases r;rfl
 |aV _=>cases r;rfl
 |int _=>obtain⟨t,rfl⟩:=r;rfl
 |str _=>obtain⟨t,rfl⟩:=r;rfl
 |lP _=>obtain⟨t,rfl⟩:=r;rfl
 |uA _=>obtain⟨t,rfl⟩:=r;rfl
 |ref _=>cases r;rfl
 |ty _=>cases r;rfl
theorem RelV.inj{x y:V}{u:Value}(r:RelV x u)(q:RelV y u):x=y:=hM (r.abs.symm.trans q.abs)
theorem cN.inj:∀{xs ys:List V}{us:List Value},cN xs us→cN ys us→xs=ys
 |_,_,_,.nil,.nil=>rfl
 |_,_,_,.cons r t,.cons cE t'=>by rw[r.inj cE,cN.inj t t']
section
variable{X:bh}{pins:List (Addr×Obj)}{σ:St}{H:aa}{s:ax}{a:Addr}{xs ys:List V}
theorem aO.of{K:aS}(h:H a=some (.lst xs)):aO K H a xs:=.inl (.inl h)
theorem b1.of{K:aS}(h:H a=some (.tup xs)):b1 K H a xs:=.inl (.inl h)
theorem Inv.list(I:Inv X pins σ H s)(h:aO X.K H a xs):∃its:List Value,cN xs its∧PlainL s.heap a its.toArray∧xs.length≤sizeLine:=by
 rcases h with h|⟨o,its,n,aT,aG,hd,hs,bB,r⟩
 .obtain⟨z,its,n,r,e⟩:=h.ok I.bj;exact⟨its,r,⟨_,n,e,rfl,rfl,rfl⟩,z⟩
 .refine⟨its.toList,r,⟨o,n,I.eB a o aT,aG,hd,by simpa using hs⟩,?_⟩;have e:=r.length;simp only[DB]at e;omega
theorem Inv.tuple(I:Inv X pins σ H s)(h:b1 X.K H a xs):∃its:List Value,cN xs its∧IsTup s.heap a its.toArray∧xs.length≤sizeLine:=by
 rcases h with h|⟨o,its,n,aT,aG,hs,bB,r⟩
 .obtain⟨z,its,r,p⟩:=h.ok I.bj;exact⟨its,r,p,z⟩
 .refine⟨its.toList,r,⟨o,I.eB a o aT,aG,n,by simpa using hs⟩,?_⟩;have e:=r.length;simp only[DB]at e;omega
theorem Inv.Zr(I:Inv X pins σ H s)(h:aO X.K H a xs)(h':aO X.K H a ys):xs=ys:=by
 obtain⟨its,r,⟨o,n,e,_,_,d⟩,_⟩:=I.list h;obtain⟨its',cE,⟨cD,kc,bR,_,_,d'⟩,_⟩:=I.list h';rw[e]at bR;cases bR;rw[d]at d';injection d' with kV _;have:its=its':=by simpa using iP ă kV
 subst this;exact r.inj cE
theorem Inv.aqC(I:Inv X pins σ H s)(h:b1 X.K H a xs)(h':b1 X.K H a ys):xs=ys:=by
 obtain⟨its,r,⟨o,e,_,n,d⟩,_⟩:=I.tuple h;obtain⟨its',cE,⟨cD,bR,_,kc,d'⟩,_⟩:=I.tuple h';rw[e]at bR;cases bR;rw[d]at d';injection d' with kV _;have:its=its':=by simpa using iP ă kV
 subst this;exact r.inj cE
end
noncomputable abbrev bh.l_(X:bh)(E:Value→ax→Prop):bh:={X with dA:=E}
noncomputable abbrev bh.xK(X:bh):bh:=X.l_ λ_ _=>False
theorem bh.Ok.l_{X:bh}(ok:X.Ok)(E:Value→ax→Prop):(X.l_ E).Ok:=
 ⟨ok.mod,ok.kind,ok.glob,ok.blt,ok.above,ok.inj,ok.has,ok.uh,ok.hd,ok.frames,ok.qp,ok.EY,ok.bs,ok.pz,ok.u6,ok.w3,ok.jK,ok.qW⟩
theorem bh.Ok.oX{X:bh}{E:Value→ax→Prop}(ok:(X.l_ E).Ok):X.Ok:=
 ⟨ok.mod,ok.kind,ok.glob,ok.blt,ok.above,ok.inj,ok.has,ok.uh,ok.hd,ok.frames,ok.qp,ok.EY,ok.bs,ok.pz,ok.u6,ok.w3,ok.jK,ok.qW⟩
section
variable{X:bh}{pins:List (Addr×Obj)}{σ:St}{H:aa}{s:ax}{E:Value→ax→Prop}
theorem Inv.l_(I:Inv X pins σ H s)(E:Value→ax→Prop):Inv (X.l_ E) pins σ H s:=⟨I.ok.l_ E,I.os,I.bare,I.base,I.loc,I.cell,I.free,I.mu,I.pin,I.bj,I.len⟩
theorem Inv.oX(I:Inv (X.l_ E) pins σ H s):Inv X pins σ H s:=⟨I.ok.oX,I.os,I.bare,I.base,I.loc,I.cell,I.free,I.mu,I.pin,I.bj,I.len⟩
theorem t5.oX{D:Ends}{f:Flow}{s':ax}(h:t5 (X.l_ E) pins D f s'):t5 X pins D f s':=by
 cases f with
 |next=>obtain⟨aY,U,I,q⟩:=h;exact⟨aY,U,I.oX,q⟩
 |brk=>obtain⟨aY,U,I,q⟩:=h;exact⟨aY,U,I.oX,q⟩
 |cont=>obtain⟨aY,U,I,q⟩:=h;exact⟨aY,U,I.oX,q⟩
 |ret u=>obtain⟨v,aY,U,I,r,q⟩:=h;exact⟨v,aY,U,I.oX,r,q⟩
theorem iK.xK{st:List Stmt}{t:eY}(h:iK X.xK st t):iK X st t:=λpins s σ H D I hw=>
 gf (h pins s σ H D (I.l_ _) hw) (λ_ _ q=>q.oX) λ_ _ z=>h3 z
end
section
variable{X:bh}{st:Stmt}{rest:List Stmt}{t u:eY}{e:Expr}{b7:TE}{pos:Pos}
noncomputable def yi:eY:=λD σ H=>D.cf σ H
noncomputable def kd(t u:eY):eY:=λD σ H=>t {D with cf:=u D} σ H
theorem eT:iK X [] yi:=λ_ _ σ H _ I h=>Dr ⟨σ,H,I,h⟩
theorem a9(ai:h4 X st t)(aj:iK X rest u):iK X (st::rest) (kd t u):=by
 intro pins s σ H D I h;refine Ù (bM (ai pins s σ H {D with cf:=u D} I h) λf s1 q=>?_);cases f with
 |next=>
  obtain⟨aY,U,r5,q⟩:=q;exact aj pins s1 aY U D r5 q
 |ret v=>exact q
 |brk=>exact q
 |cont=>exact q
theorem bu(ai:h4 X st t):iK X [st] t:=by
 intro pins s σ H D I h;refine Ù (bM (ai pins s σ H D I h) λf s1 q=>?_);cases f with
 |next=>exact Dr q
 |ret v=>exact q
 |brk=>exact q
 |cont=>exact q
theorem Inv.quiet{pins:List (Addr×Obj)}{σ:St}{H:aa}{s:ax}(I:Inv X pins σ H s):interactive X.env=false:=by simp[interactive,I.ok.kind]
noncomputable def agc(b7:TE):eY:=λD σ H=>b7 σ H λ_ H1=>D.cf σ H1
theorem gm(he:bJ X e b7)(hs:x_ e none pos.line X.env=pure false:=by rfl):h4 X (.Expr e pos) (agc b7):=by intro pins s σ H D I h;exact aq0 (bM (he pins s σ H _ I h) λv s1⟨x,H1,aU,cJ,bT⟩=>⟨σ,H1,aU,bT⟩) I.quiet hs
noncomputable def zz(b7:TE):eY:=λD σ H=>b7 σ H D.rt
theorem cO(he:bJ X e b7):h4 X (.Return (some e) pos) (zz b7):=by intro pins s σ H D I h;exact wpAny_Return_some (bM (he pins s σ H _ I h) λv s1⟨x,H1,aU,cJ,bT⟩=>⟨x,σ,H1,aU,cJ,bT⟩)
noncomputable def Ej(c:TT)(t u:eY):eY:=λD σ H=>c σ H λb H1=>if b=true then t D σ H1 else u D σ H1
theorem eV{c:Expr}{a b:List Stmt}{mX:TT}(aG:kP X c mX)(aI:iK X a t)(af:iK X b u):h4 X (.If c a b pos) (Ej mX t u):=by
 intro pins s σ H D I h;refine wpAny_If (bM (aG pins s σ H _ I h) λd s1⟨H1,aU,bT⟩=>?_);cases d with
 |true=>exact aI pins s1 σ H1 D aU bT
 |false=>exact af pins s1 σ H1 D aU bT
noncomputable def aeQ:eY:=λ_ _ _=>False
theorem Hk:h4 X st aeQ:=λ_ _ _ _ _ _ h=>h.elim
end
noncomputable abbrev jC:=V→St→aa→(St→aa→Prop)→Prop
noncomputable abbrev pn:=List V→St→aa→(St→aa→Prop)→Prop
noncomputable def sd(X:bh)(target:Expr)(t:jC):Prop:=
 ∀(pins:List (Addr×Obj))(s:ax)(σ:St)(H:aa)(v:V)(u:Value)(Q:St→aa→Prop),Inv X pins σ H s→RelV v u→t v σ H Q→
  a4 (bg X.prog X.w) X.A (EG target X.env u) (λ_ s'=>∃aY U,Inv X pins aY U s'∧Q aY U) X.dA s
noncomputable def zX(X:bh)(ts:List Expr)(t:pn):Prop:=
 ∀(pins:List (Addr×Obj))(s:ax)(σ:St)(H:aa)(vs:List V)(us:List Value)(Q:St→aa→Prop),Inv X pins σ H s→cN vs us→t vs σ H Q→
  a4 (bg X.prog X.w) X.A (assignInOrder ((wV ts X.env).map (·.2)) us) (λ_ s'=>∃aY U,Inv X pins aY U s'∧Q aY U) X.dA s
section
variable{X:bh}{pos:Pos}
noncomputable def g4(i:Nat):jC:=λv σ H Q=>Q (σ.set i (some v)) H
theorem d2{i:Nat}{x:Str}(fk:X.N.Nodup)(ar:X.N[i]?=some x)(ay:Loc X.env.scope x)(hf:X.fn x=true∨X.env.scope.names.lookup x=some .local:=by first|exact .inl rfl|exact .inr rfl|assumption):sd X (.Name x pos) (g4 i):=by intro pins s σ H v u Q I r h;exact aq1 (Tr I fk ar ay r (λs' r5=>⟨_,H,r5,h⟩) hf)
noncomputable def wj:pn:=λvs σ H Q=>vs=[]∧Q σ H
inductive aeR(t:jC)(u:pn)(vs:(List ag.V))(σ:ag.St)(H:aa)(Q:(ag.St→aa→Prop)):Prop where
 |mk (v:_) (r:_) (bW:vs=v::r) (bG:t v σ H λaY U=>u r aY U Q)
noncomputable def oO(t:jC)(u:pn):pn:=λvs σ H Q=>aeR t u vs σ H Q
theorem q9:zX X [] wj:=by intro pins s σ H vs us Q I r h;obtain⟨e,h⟩:=h;subst e;cases r;exact assignInOrder_nil ⟨σ,H,I,h⟩
theorem jb{e:Expr}{es:List Expr}{t:jC}{u:pn}(ai:sd X e t)(aj:zX X es u)(hs:(wV (e::es) X.env).map (·.2)=EG e X.env::(wV es X.env).map (·.2):=by rfl):zX X (e::es) (oO t u):=by
 intro pins s σ H vs us Q I r h;obtain⟨v,H',az,h⟩:=h;subst az;cases r with
 |cons r qj=>
  rw[hs];refine assignInOrder_cons (bM (ai pins s σ H _ _ _ I r h) λ_ s1⟨rQ,H1,aU,bT⟩=>?_);exact aj pins s1 rQ H1 _ _ Q aU qj bT
inductive agd(K:aS)(n:Nat)(t:pn)(v:ag.V)(σ:ag.St)(H:aa)(Q:(ag.St→aa→Prop)):Prop where
 |mk (a:_) (xs:_) (bW:v=.ref a) (bG:b1 K H a xs) (b4:xs.length=n) (cM:t xs σ H Q)
noncomputable def tL(K:aS)(n:Nat)(t:pn):jC:=λv σ H Q=>agd K n t v σ H Q
theorem C6{es:List Expr}{k:Nat}{t:pn}{n:Nat}(aG:X.calm=true)(h:zX X es t)(aw:(wV es X.env).length=n:=by rfl)(iE:(wV es X.env).findIdx? (·.1)=none:=by rfl):sd X (.Tuple es k pos) (tL X.K n t):=by intro pins s σ H v u Q I r hw;obtain⟨a,xs,az,bb,aq,hw⟩:=hw;subst az;cases r;obtain⟨its,cz,df,bB⟩:=I.tuple bb;refine assign_Tuple_tuple (I.ok.hd aG) df (by simp[aw,←aq,cz.length]) iE λh' ay=>?_;have aU:Inv X pins σ H {s with heap:=h'}:=I.kept (t':=s.toks) λb o e=>ay b o (en (dK e)) e;exact h pins _ σ H xs _ Q aU (by simpa using cz) hw
noncomputable def rR(b7:TE)(g:jC):eY:=λD σ H=>b7 σ H λx H1=>g x σ H1 D.cf
theorem c9{i:Nat}{x:Str}{e:Expr}{b7:TE}{pos':Pos}(fk:X.N.Nodup)(ar:X.N[i]?=some x)(ay:Loc X.env.scope x)(he:bJ X e b7)(hs:x_ e (some (.Name x pos')) pos.line X.env=pure false:=by rfl)(hf:X.fn x=true∨X.env.scope.names.lookup x=some .local:=by first|exact .inl rfl|exact .inr rfl|assumption):
  h4 X (.Assign [.Name x pos'] e pos) (rR b7 (g4 i)):=by intro pins s σ H D I h;refine wpAny_Assign_Name (bM (he pins s σ H _ I h) λv s1⟨y,H1,aU,cJ,bT⟩=>?_) hs;exact Tr aU fk ar ay cJ (λs2 bI=>⟨_,H1,bI,bT⟩) hf
end
section
variable{X:bh}{pos:Pos}
noncomputable def aeS(c:TT)(c7:eY):eY:=λD σ H=>∃W:Nat→St→aa→Prop,(∃m,W m σ H)∧∀m σ H,W m σ H→
 c σ H λb H1=>if b=true then∃N:St→aa→Prop,(∀aY U,N aY U→∃cp,cp<m∧W cp aY U)∧c7 {D with cf:=N,fG:=N,hl:=D.cf} σ H1 else D.cf σ H1
theorem Hl{c:Expr}{body:List Stmt}{mX:TT}{c7:eY}(aW:PassesOwn (bg X.prog X.w) X.A X.env X.dA)(aG:kP X c mX)(af:iK X body c7):h4 X (.While c body [] pos) (aeS mX c7):=by
 intro pins s σ H D I h;obtain⟨W,⟨m0,Dh⟩,turn⟩:=h;refine wpAny_While (codeAny_whileLoop (λn s'=>∃aY U,Inv X pins aY U s'∧W n aY U) ?_ m0 ⟨σ,H,I,Dh⟩);rintro n s1 ⟨rQ,H1,aU,gV⟩;refine ye aW (bM (aG pins s1 rQ H1 _ aU (turn n rQ H1 gV)) λb s2⟨ak,bI,c6⟩=>?_);cases b with
 |true=>
  obtain⟨N,fk,c6⟩:=c6;rw[a8 rfl];refine ye aW (bM (af pins s2 rQ ak _ bI c6) λf s3 g8=>?_);cases f with
  |next=>
   obtain⟨gg,bp,c8,lq⟩:=g8;obtain⟨cp,hm,gW⟩:=fk gg bp lq;exact⟨cp,hm,gg,bp,c8,gW⟩
  |cont=>
   obtain⟨gg,bp,c8,lq⟩:=g8;obtain⟨cp,hm,gW⟩:=fk gg bp lq;exact⟨cp,hm,gg,bp,c8,gW⟩
  |brk=>exact g8
  |ret v=>exact g8
 |false=>
  rw[aX fL];exact Dr ⟨rQ,ak,bI,c6⟩
end
structure ff where
 go:Nat→aa→Prop
 m4:Nat→aa→V→aa→Prop
 stop:Nat→aa→Prop
noncomputable def rS(X:bh)(pins:List (Addr×Obj))(H:aa)(b:Addr):Prop:=
 H b=none∧b≠X.env.locals∧b∉X.fs∧(b∈X.ex∨X.h1.heap.objs.size≤b)∧(∀x c,X.env.cells.lookup x=some c→c≠b)∧∀p∈X.ef++pins,p.1≠b
theorem Inv.sG{X:bh}{pins:List (Addr×Obj)}{σ:St}{H U:aa}{s:ax}{b:Addr}(I:Inv X pins σ H s)(af:s.heap.objs.size≤b)(aw:U b=none):rS X pins U b:=by
 refine⟨aw,JM (jS I.lt af),I.aoV af,.inr (el I.iq af),λx c e z=>?_,λp aW z=>?_⟩
 .obtain⟨v,q⟩:=I.cell x c e;exact bt (jS q.lt (by rw[z];exact af)) (qI _)
 .exact bt (jS (dK (I.pin p aW).1) (by rw[z];exact af)) (qI _)
structure Turn(P:bL)(w:bC)(K:aS)(d0:Expr)(J:ff)(bZ:List Addr)(it:Addr)(fA:Nat→Heap→Prop):Prop where
 mem:it∈bZ
 obj:∀i h,fA i h→∀b∈bZ,∃o,h.get? b=some o∧∀v,o.data≠.cell v
 keep:∀i h h',fA i h→(∀b∈bZ,∀o,h.get? b=some o→h'.get? b=some o)→fA i h'
 item:∀(X:bh),X.prog=P→X.w=w→X.K=K→X.calm=true→∀(i:Nat)(pins:List (Addr×Obj))(s:ax)(σ:St)(H:aa)(E:Value→ax→Prop),Inv X pins σ H s→(∀b∈bZ,rS X pins H b)→fA i s.heap→J.go i H→
  a4 (bg P w) X.A (jv (.ref it)) (λr s1=>∃u,r=some u∧
   a4 (bg P w) X.A (Pe d0 (.ref it) u) (λ_ s2=>∃x U,Inv X pins σ U s2∧RelV x u∧J.m4 i H x U∧fA (i+1) s2.heap∧∀b∈bZ,U b=none) E s1) E s
 done:∀(X:bh),X.prog=P→X.w=w→X.K=K→X.calm=true→∀(i:Nat)(pins:List (Addr×Obj))(s:ax)(σ:St)(H:aa)(E:Value→ax→Prop),Inv X pins σ H s→(∀b∈bZ,rS X pins H b)→fA i s.heap→J.stop i H→
  a4 (bg P w) X.A (jv (.ref it)) (λr s1=>r=none∧Inv X pins σ H s1) E s
 self:∀(A:c4)(i:Nat)(s:ax)(Q:Value→ax→Prop)(E:Value→ax→Prop),fA i s.heap→Q (.ref it) s→a4 (bg P w) A (Hj (.ref it)) Q E s
noncomputable abbrev TI:=St→aa→(ff→aa→Prop)→Prop
noncomputable def JZ(X:bh)(pins:List (Addr×Obj))(σ:St)(d0:Expr)(R:ff→aa→Prop)(ON:Value)(s2:ax):Prop:=
 ∃(it:Addr)(bZ:List Addr)(fA:Nat→Heap→Prop)(J:ff)(U:aa),ON=.ref it∧Inv X pins σ U s2∧Turn X.prog X.w X.K d0 J bZ it fA∧fA 0 s2.heap∧(∀b∈bZ,rS X pins U b)∧R J U
noncomputable def og(X:bh)(d0 iter:Expr)(wi:TI):Prop:=
 ∀(pins:List (Addr×Obj))(s:ax)(σ:St)(H:aa)(R:ff→aa→Prop),Inv X pins σ H s→wi σ H R→
  a4 (bg X.prog X.w) X.A (eval iter X.env) (λv s1=>a4 (bg X.prog X.w) X.A (Hj v) (JZ X pins σ d0 R) X.dA s1) X.dA s
theorem yj{M:oc}{A:c4}{E:Value→ax→Prop}{s:ax}{d0:Expr}{it:Addr}{u:Value}{o:Obj}{n:String}{vs:Array Value}{Q:Unit→ax→Prop}(bw:s.heap.get? it=some o)(aG:o.cls=.type n)(hd:o.data=.fields vs)(aw:["enumerate","zip","dict_itemiterator","dict_reverseitemiterator","odict_iterator","itertools.zip_longest","itertools.pairwise"].contains n=false)(fP:Q () s):a4 M A (Pe d0 (.ref it) u) Q E s:=by
  unfold Pe;cases d0<;>first
    |exact bN fP
    | (cases u<;>first
        |exact bN fP
        | (refine aR (wpAny_load bw ?_)
           rw[aG,hd];show a4 M A (if(["enumerate","zip","dict_itemiterator","dict_reverseitemiterator","odict_iterator","itertools.zip_longest","itertools.pairwise"].contains n&&vs[0]?==some (xY _))=true then _ else _) Q E s;rw[aX (by intro h;rw[aw,IA]at h;cases h)];exact bN fP))
noncomputable def i3(K:aS)(a:Addr):ff:=
 ⟨λi H=>∃xs x,aO K H a xs∧xs[i]?=some x,λi H x U=>U=H∧∀xs,aO K H a xs→xs[i]?=some x,λi H=>∃xs,aO K H a xs∧xs.length≤i⟩
noncomputable def r6(K:aS)(a:Addr):ff:=
 ⟨λi H=>∃xs x,b1 K H a xs∧xs[i]?=some x,λi H x U=>U=H∧∀xs,b1 K H a xs→xs[i]?=some x,λi H=>∃xs,b1 K H a xs∧xs.length≤i⟩
noncomputable def n'(lo:Int)(n:Nat):ff:=⟨λi _=>i<n,λi H x U=>U=H∧x=.int (lo+i),λi _=>n≤i⟩
theorem ţ{P:bL}{w:bC}{K:aS}{d0:Expr}(a it:Addr):Turn P w K d0 (i3 K a) [it] it (λi h=>h.IsListIter it a i)where
 mem:=by simp
 obj:=λi h st b af=>by
  have e:b=it:=by simpa using af
  subst e;obtain⟨o,e,c,d⟩:=st;exact⟨o,e,λv z=>by rw[d]at z;cases z⟩
 keep:=λi h h' st k=>st.at λo e=>k it (by simp) o e
 item:=by intro X gP hw f9 aG i pins s σ H E I hf st bz;subst gP hw f9;obtain⟨xs,x,bb,ay⟩:=bz;obtain⟨its,cz,p,bB⟩:=I.list bb;obtain⟨u,cj,eP⟩:=cz.get ay;obtain⟨f0,f1,f2,cc,f4,eG⟩:=hf it (by simp);refine wpAny_pyNext_list_item st p.isList (x:=u) (by simpa using cj) λh' fc cF=>?_;have aU:Inv X pins σ H {s with heap:=h'}:=I.turned (t':=s.toks) (λb o af e=>(cF.2 b af).trans e) f0 f1 cc f4 eG;obtain⟨o,e,c,d⟩:=id fc;exact⟨u,rfl,yj (s:={s with heap:=h'}) e c d (by decide) ⟨x,H,aU,eP,⟨rfl,λys cW=>by rw[I.Zr cW bb];exact ay⟩,fc,λb af=>(hf b af).1⟩⟩
 done:=by intro X gP hw f9 aG i pins s σ H E I hf st bz;subst gP hw f9;obtain⟨xs,bb,ay⟩:=bz;obtain⟨its,cz,p,bB⟩:=I.list bb;obtain⟨f0,f1,f2,cc,f4,eG⟩:=hf it (by simp);have aq:=cz.length;exact wpAny_pyNext_list_end (I.ok.hd aG) st p.isList (by simp;omega) λh' d8=>⟨rfl,I.turned (t':=s.toks) (λb o af e=>d8 b o af e) f0 f1 cc f4 eG⟩
 self:=λ_ _ _ _ _ st h=>wpAny_pyIter_listiter st h
theorem Ġ{P:bL}{w:bC}{K:aS}{d0:Expr}(a it:Addr):Turn P w K d0 (r6 K a) [it] it (λi h=>h.IsTupleIter it a i)where
 mem:=by simp
 obj:=λi h st b af=>by
  have e:b=it:=by simpa using af
  subst e;obtain⟨o,e,c,d⟩:=st;exact⟨o,e,λv z=>by rw[d]at z;cases z⟩
 keep:=λi h h' st k=>st.at λo e=>k it (by simp) o e
 item:=by intro X gP hw f9 aG i pins s σ H E I hf st bz;subst gP hw f9;obtain⟨xs,x,bb,ay⟩:=bz;obtain⟨its,cz,p,bB⟩:=I.tuple bb;obtain⟨u,cj,eP⟩:=cz.get ay;obtain⟨f0,f1,f2,cc,f4,eG⟩:=hf it (by simp);refine wpAny_pyNext_tuple_item st (show s.heap.IsTuple a its.toArray from p) (x:=u) (by simpa using cj) λh' fc cF=>?_;have aU:Inv X pins σ H {s with heap:=h'}:=I.turned (t':=s.toks) (λb o af e=>(cF.2 b af).trans e) f0 f1 cc f4 eG;obtain⟨o,e,c,d⟩:=id fc;exact⟨u,rfl,yj (s:={s with heap:=h'}) e c d (by decide) ⟨x,H,aU,eP,⟨rfl,λys cW=>by rw[I.aqC cW bb];exact ay⟩,fc,λb af=>(hf b af).1⟩⟩
 done:=by intro X gP hw f9 aG i pins s σ H E I hf st bz;subst gP hw f9;obtain⟨xs,bb,ay⟩:=bz;obtain⟨its,cz,p,bB⟩:=I.tuple bb;obtain⟨f0,f1,f2,cc,f4,eG⟩:=hf it (by simp);have aq:=cz.length;exact wpAny_pyNext_tuple_end (I.ok.hd aG) st (show s.heap.IsTuple a its.toArray from p) (by simp;omega) λh' d8=>⟨rfl,I.turned (t':=s.toks) (λb o af e=>d8 b o af e) f0 f1 cc f4 eG⟩
 self:=λ_ _ _ _ _ st h=>wpAny_pyIter_tupleiter st h
theorem ġ{P:bL}{w:bC}{K:aS}{d0:Expr}(it:Addr)(lo:Int)(n:Nat):Turn P w K d0 (n' lo n) [it] it (λi h=>IsRangeIter h it (lo+(i:Nat)*1) ((n:Int)-(i:Nat)) 1)where
 mem:=by simp
 obj:=λi h st b af=>by
  have e:b=it:=by simpa using af
  subst e;exact⟨_,st,λv z=>by
   have dp:Data.fields _=Data.cell v:=z;cases dp⟩
 keep:=λi h h' st k=>k it (by simp) _ st
 item:=by intro X gP hw f9 aG i pins s σ H E I hf st bz;subst gP hw f9;obtain⟨f0,f1,f2,cc,f4,eG⟩:=hf it (by simp);have W:=Walks.range (prog:=X.prog) (w:=X.w) (I.ok.hd aG) it lo 1 n;refine W.item i s _ _ bz st λv h' aP bA fc bV=>?_;obtain⟨t,rfl⟩:=bA;have aU:Inv X pins σ H {s with heap:=h',toks:=aP}:=I.turned (λb o af e=>bV b o (by simpa using af) e) f0 f1 cc f4 eG;refine⟨_,rfl,yj (s:={s with heap:=h',toks:=aP}) (n:="range_iterator") fc rfl rfl (by decide) ⟨.int (lo+i),H,aU,⟨t,?_⟩,⟨rfl,rfl⟩,fc,λb af=>(hf b af).1⟩⟩;rw[Int.mul_one]
 done:=by intro X gP hw f9 aG i pins s σ H E I hf st bz;subst gP hw f9;obtain⟨f0,f1,f2,cc,f4,eG⟩:=hf it (by simp);exact wpAny_pyNext_range_end (I.ok.hd aG) st (by have:n≤i:=bz;omega) λh' d8=>⟨rfl,I.turned (t':=s.toks) (λb o af e=>d8 b o af e) f0 f1 cc f4 eG⟩
 self:=λ_ _ _ _ _ st h=>wpAny_pyIter_rangeiter st h
open PySem PySem.Spec PyProof.Rows
section
variable{X:bh}{d0:Expr}
inductive aik(K:aS)(x:V)(H1:aa)(R:ff→aa→Prop):Prop where
 |mk (a:_) (bW:x=.ref a) (bG:(∃xs,aO K H1 a xs)) (b4:R (i3 K a) H1)
noncomputable def age(K:aS)(c0:TE):TI:=λσ H R=>c0 σ H λx H1=>aik K x H1 R
noncomputable def ail(K:aS)(c0:TE):TI:=λσ H R=>c0 σ H λx H1=>∃a,x=.ref a∧(∃xs,b1 K H1 a xs)∧R (r6 K a) H1
theorem hP{l:Expr}{c0:TE}(aq:bJ X l c0):og X d0 l (age X.K c0):=by
 intro pins s σ H R I h;refine bM (aq pins s σ H _ I h) λv s1⟨x,H1,aU,cJ,bT⟩=>?_;obtain⟨a,e,⟨xs,bb⟩,q⟩:=bT;subst e;cases cJ;obtain⟨its,cz,p,bB⟩:=aU.list bb;refine Dt p.isList ?_;refine⟨s1.heap.objs.size,[s1.heap.objs.size],_,_,H1,rfl,aU.kept (t':=s1.toks) λb o e=>dJ _ e,ţ a _,⟨_,hg _ rfl,rfl,rfl⟩,λb af=>?_,q⟩;have e:b=s1.heap.objs.size:=by simpa using af
 subst e;exact aU.sG (bY _) (aU.bj.fresh (bY _))
theorem Ig{l:Expr}{c0:TE}(aq:bJ X l c0):og X d0 l (ail X.K c0):=by
 intro pins s σ H R I h;refine bM (aq pins s σ H _ I h) λv s1⟨x,H1,aU,cJ,bT⟩=>?_;obtain⟨a,e,⟨xs,bb⟩,q⟩:=bT;subst e;cases cJ;obtain⟨its,cz,p,bB⟩:=aU.tuple bb;refine wpAny_pyIter_tuple (show s1.heap.IsTuple a its.toArray from p) ?_;refine⟨s1.heap.objs.size,[s1.heap.objs.size],_,_,H1,rfl,aU.kept (t':=s1.toks) λb o e=>dJ _ e,Ġ a _,⟨_,hg _ rfl,rfl,rfl⟩,λb af=>?_,q⟩;have e:b=s1.heap.objs.size:=by simpa using af
 subst e;exact aU.sG (bY _) (aU.bj.fresh (bY _))
theorem aaO{pins:List (Addr×Obj)}{σ:St}{H:aa}{s:ax}{R:ff→aa→Prop}{E:Value→ax→Prop}{lo ar:Int}{t u v:Tok}{aP:Nat}(I:Inv X pins σ H s)(ai:-(2 ^ 62)≤lo)(aj:lo<2 ^ 62)(bk:-(2 ^ 62)≤ar)(cv:ar<2 ^ 62)(q:R (n' lo (ar-lo).toNat) H):a4 (bg X.prog X.w) X.A (Hj (.ref s.heap.objs.size)) (JZ X pins σ d0 R) E {s with heap:=s.heap.push {cls:=.type "range",data:=.fields #[.int lo t,.int ar u,.int 1 v]},toks:=aP}:=by
 refine wpAny_pyIter_range (IsRange.new ..) (small_one ai aj bk cv) ?_;have aU:Inv X pins σ H {s with heap:=s.heap.push {cls:=.type "range",data:=.fields #[.int lo t,.int ar u,.int 1 v]},toks:=aP}:=I.kept λb o e=>dJ _ e;refine⟨(s.heap.push {cls:=.type "range",data:=.fields #[.int lo t,.int ar u,.int 1 v]}).objs.size,[(s.heap.push {cls:=.type "range",data:=.fields #[.int lo t,.int ar u,.int 1 v]}).objs.size],_,_,H,rfl,
  aU.kept (t':=aP) λb o e=>dJ _ e,ġ _ lo (ar-lo).toNat,?_,λb af=>?_,q⟩
 .have az:lo+((0:Nat):Int)*1=lo:=by simp
  have aE:(((ar-lo).toNat:Nat):Int)-((0:Nat):Int)=arJ lo ar 1:=by rw[rangeSize_one];split<;>omega
  show IsRangeIter _ _ (lo+((0:Nat):Int)*1) ((((ar-lo).toNat:Nat):Int)-((0:Nat):Int)) 1;rw[az,aE];exact hg _ rfl
 .have e:b=(s.heap.push {cls:=.type "range",data:=.fields #[.int lo t,.int ar u,.int 1 v]}).objs.size:=by simpa using af
  subst e;exact aU.sG (bY _) (aU.bj.fresh (bY _))
noncomputable def agf(b3:fD):TI:=λσ H R=>b3 σ H λvs H1=>∃j:Int,vs=[.int j]∧-(2 ^ 62)≤j∧j<2 ^ 62∧R (n' 0 j.toNat) H1
theorem BQ{a:Expr}{b3:fD}{p pos:Pos}(bz:iJ X "range")(hm:X.mg "range"=none)(aI:hN X [a] b3)(hs:dM [a] X.env=[(false,eval a X.env)]:=by rfl):og X d0 (.Call (.Name "range" p) [a] [] pos) (agf b3):=by
 intro pins s σ H R I h;refine Call_ (vc I bz hm boot_range (Wd (bM (aI pos pins s σ H _ I h) λus s1⟨vs,H1,aU,cJ,bT⟩=>?_) hs rfl));obtain⟨j,e,bT,c6,q⟩:=bT;subst e;cases cJ with
 |cons r qj=>
  cases qj;obtain⟨t,rfl⟩:=r;exact call_range_1 (aaO aU (by omega) (by omega) bT c6 (by simpa using q))
noncomputable def aim(wi:TI)(g:jC)(c7:eY):eY:=λD σ H=>wi σ H λJ H1=>∃W:Nat→Nat→St→aa→Prop,(∃m,W 0 m σ H1)∧∀i m σ H,W i m σ H→
 (J.stop i H∧D.cf σ H)∨(J.go i H∧∃N:St→aa→Prop,(∀aY U,N aY U→∃cp,cp<m∧W (i+1) cp aY U)∧∀x U,J.m4 i H x U→g x σ U λhb ak=>c7 {D with cf:=N,fG:=N,hl:=D.cf} hb ak)
noncomputable def C7(bZ:List Addr)(h:Heap):List (Addr×Obj):=bZ.filterMap λb=>(h.get? b).map λo=>(b,o)
theorem Gz{bZ:List Addr}{h:Heap}{b:Addr}{o:Obj}(af:b∈bZ)(e:h.get? b=some o):(b,o)∈C7 bZ h:=Jy.mpr ⟨b,af,by rw[e];rfl⟩
theorem Ť{bZ:List Addr}{h:Heap}{p:Addr×Obj}(aW:p∈C7 bZ h):p.1∈bZ∧h.get? p.1=some p.2:=by
 obtain⟨b,af,e⟩:=Jy.mp aW;cases q:h.get? b with
 |none=>rw[q]at e;cases e
 |some o=>
  rw[q]at e;have bR:(b,o)=p:=hM e;subst bR;exact⟨af,q⟩
theorem Inv.pinned{pins:List (Addr×Obj)}{σ:St}{H:aa}{s:ax}{bZ:List Addr}(I:Inv X pins σ H s)(hf:∀b∈bZ,rS X pins H b)(bw:∀b∈bZ,∃o,s.heap.get? b=some o∧∀v,o.data≠.cell v):Inv X (pins++C7 bZ s.heap) σ H s:=
 I.δ λp aW=>(hv.mp aW).elim (λz=>I.pin p (qH _ z)) λz=>by obtain⟨af,e⟩:=Ť z;obtain⟨f0,f1,f2,_⟩:=hf p.1 af;obtain⟨o,bR,d⟩:=bw p.1 af;rw[e]at bR;cases bR;exact⟨e,f0,f1,f2,d⟩
theorem Inv.H8{pins pl:List (Addr×Obj)}{σ:St}{H:aa}{s:ax}(I:Inv X (pins++pl) σ H s):Inv X pins σ H s:=I.δ λp aW=>I.pin p (qH _ (abg _ aW))
theorem jf{iter:Expr}{body:List Stmt}{wi:TI}{g:jC}{c7:eY}{pos:Pos}(aW:PassesOwn (bg X.prog X.w) X.A X.env X.dA)(aG:X.calm=true)(ar:og X d0 iter wi)(bz:sd X d0 g)(af:iK X body c7)(hs:∀x,Mz iter X.env x=pure x:=by intro _;rfl):h4 X (.For d0 iter body [] pos) (aim wi g c7):=by
 intro pins s σ H D I h;refine wpAny_For (bM (ar pins s σ H _ I h) λv s1 ai=>bM ai λON s2 aj=>?_) hs;obtain⟨it,bZ,fA,J,ak,e,bI,T,HG,f2,W,⟨m0,Dh⟩,turn⟩:=aj;subst e;have vk:∀{U:aa},(∀b∈bZ,U b=none)→∀b∈bZ,rS X pins U b:=λaw b af=>⟨aw b af,(f2 b af).2⟩
 refine codeAny_forLoop_any (λn s'=>∃i aY U,Inv X pins aY U s'∧fA i s'.heap∧(∀b∈bZ,U b=none)∧W i n aY U) ?_ m0 ⟨0,σ,ak,bI,HG,λb af=>(f2 b af).1,Dh⟩;rintro n s3 ⟨i,gg,bp,c8,Κ,X7,gW⟩;rcases turn i n gg bp gW with⟨stop,oU⟩|⟨go,N,fk,step⟩
 .refine ye aW (bM (T.done X rfl rfl rfl aG i pins s3 gg bp X.dA c8 (vk X7) Κ stop) λr s4⟨au,i2⟩=>?_);subst au;exact Dr ⟨gg,bp,i2,oU⟩
 .refine ye aW (bM (T.item X rfl rfl rfl aG i pins s3 gg bp X.dA c8 (vk X7) Κ go) λr s4⟨u,au,cv⟩=>?_);subst au;refine ye aW (bM cv λ_ s5⟨x,bK,kN,Cv,vD,vj,MB⟩=>?_);have Jg:=kN.pinned (vk MB) (T.obj _ _ vj);refine ye aW (bM (bz _ s5 gg bK x u _ Jg Cv (step x bK vD)) λ_ g_⟨Dz,fY,tR,Qu⟩=>?_);refine ye aW (bM (af _ g_ Dz fY _ tR Qu) λf ql mP=>?_);have again:∀{o4:St}{jy:aa},Inv X (pins++C7 bZ s5.heap) o4 jy ql→N o4 jy→∃m,m<n∧∃i aY U,Inv X pins aY U ql∧fA i ql.heap∧(∀b∈bZ,U b=none)∧W i m aY U:=λ{o4 jy}lI oN=>by obtain⟨cp,hm,Sb⟩:=fk o4 jy oN;refine⟨cp,hm,i+1,o4,jy,lI.H8,T.keep _ _ _ vj λb af o e=>(lI.pin (b,o) (qH _ (qH _ (Gz af e)))).1,λb af=>?_,Sb⟩;obtain⟨o,e,d⟩:=T.obj _ _ vj b af;exact(lI.pin (b,o) (qH _ (qH _ (Gz af e)))).2.1
  cases f with
  |next=>obtain⟨o4,jy,lI,oN⟩:=mP;exact again lI oN
  |cont=>obtain⟨o4,jy,lI,oN⟩:=mP;exact again lI oN
  |brk=>obtain⟨o4,jy,lI,mP⟩:=mP;exact⟨o4,jy,lI.H8,mP⟩
  |ret v=>obtain⟨vC,o4,jy,lI,μ,mP⟩:=mP;exact⟨vC,o4,jy,lI.H8,μ,mP⟩
end
theorem oA{K:aS}{a:Addr}{xs:List V}{g:jC}{c7:eY}{D:Ends}{σ:St}{H:aa}(Pv:Nat→St→aa→Prop)(h0:Pv 0 σ H)(aq:∀i σ H,i≤xs.length→Pv i σ H→aO K H a xs)(hs:∀i x σ H,xs[i]?=some x→Pv i σ H→g x σ H λhb ak=>c7 {D with cf:=Pv (i+1),fG:=Pv (i+1),hl:=D.cf} hb ak)(hd:∀σ H,Pv xs.length σ H→D.cf σ H):
  ∃W:Nat→Nat→St→aa→Prop,(∃m,W 0 m σ H)∧∀i m σ H,W i m σ H→
   ((i3 K a).stop i H∧D.cf σ H)∨((i3 K a).go i H∧∃N:St→aa→Prop,(∀aY U,N aY U→∃cp,cp<m∧W (i+1) cp aY U)∧∀x U,(i3 K a).m4 i H x U→g x σ U λhb ak=>c7 {D with cf:=N,fG:=N,hl:=D.cf} hb ak):=by
 refine⟨λi m σ H=>m=xs.length-i∧i≤xs.length∧Pv i σ H,⟨xs.length,by simp,eD _,h0⟩,?_⟩;rintro i m σ H ⟨rfl,ar,p⟩;have q:=aq i σ H ar p;by_cases bP:i<xs.length
 .refine .inr ⟨⟨xs,xs[i],q,by simp[bP]⟩,Pv (i+1),λaY U hY=>⟨xs.length-(i+1),by omega,rfl,bP,hY⟩,λx U y=>?_⟩;obtain⟨e,y⟩:=y;subst e;exact hs i x σ _ (y xs q) p
 .have e:i=xs.length:=by omega
  subst e;exact .inl ⟨⟨xs,q,bY _⟩,hd σ H p⟩
theorem UD{K:aS}{a:Addr}{xs:List V}{g:jC}{c7:eY}{D:Ends}{σ:St}{H:aa}(Pv:Nat→St→aa→Prop)(h0:Pv 0 σ H)(aq:∀i σ H,i≤xs.length→Pv i σ H→b1 K H a xs)(hs:∀i x σ H,xs[i]?=some x→Pv i σ H→g x σ H λhb ak=>c7 {D with cf:=Pv (i+1),fG:=Pv (i+1),hl:=D.cf} hb ak)(hd:∀σ H,Pv xs.length σ H→D.cf σ H):
  ∃W:Nat→Nat→St→aa→Prop,(∃m,W 0 m σ H)∧∀i m σ H,W i m σ H→
   ((r6 K a).stop i H∧D.cf σ H)∨((r6 K a).go i H∧∃N:St→aa→Prop,(∀aY U,N aY U→∃cp,cp<m∧W (i+1) cp aY U)∧∀x U,(r6 K a).m4 i H x U→g x σ U λhb ak=>c7 {D with cf:=N,fG:=N,hl:=D.cf} hb ak):=by
 refine⟨λi m σ H=>m=xs.length-i∧i≤xs.length∧Pv i σ H,⟨xs.length,by simp,eD _,h0⟩,?_⟩;rintro i m σ H ⟨rfl,ar,p⟩;have q:=aq i σ H ar p;by_cases bP:i<xs.length
 .refine .inr ⟨⟨xs,xs[i],q,by simp[bP]⟩,Pv (i+1),λaY U hY=>⟨xs.length-(i+1),by omega,rfl,bP,hY⟩,λx U y=>?_⟩;obtain⟨e,y⟩:=y;subst e;exact hs i x σ _ (y xs q) p
 .have e:i=xs.length:=by omega
  subst e;exact .inl ⟨⟨xs,q,bY _⟩,hd σ H p⟩
theorem Þ{lo:Int}{n:Nat}{g:jC}{c7:eY}{D:Ends}{σ:St}{H:aa}(Pv:Nat→St→aa→Prop)(h0:Pv 0 σ H)(hs:∀i σ H,i<n→Pv i σ H→g (.int (lo+i)) σ H λhb ak=>c7 {D with cf:=Pv (i+1),fG:=Pv (i+1),hl:=D.cf} hb ak)(hd:∀σ H,Pv n σ H→D.cf σ H):
  ∃W:Nat→Nat→St→aa→Prop,(∃m,W 0 m σ H)∧∀i m σ H,W i m σ H→
   ((n' lo n).stop i H∧D.cf σ H)∨((n' lo n).go i H∧∃N:St→aa→Prop,(∀aY U,N aY U→∃cp,cp<m∧W (i+1) cp aY U)∧∀x U,(n' lo n).m4 i H x U→g x σ U λhb ak=>c7 {D with cf:=N,fG:=N,hl:=D.cf} hb ak):=by
 refine⟨λi m σ H=>m=n-i∧i≤n∧Pv i σ H,⟨n,by simp,eD _,h0⟩,?_⟩;rintro i m σ H ⟨rfl,ar,p⟩;by_cases bP:i<n
 .refine .inr ⟨bP,Pv (i+1),λaY U hY=>⟨n-(i+1),by omega,rfl,bP,hY⟩,λx U y=>?_⟩;obtain⟨e,y⟩:=y;subst e y;exact hs i σ _ bP p
 .have e:i=n:=by omega
  subst e;exact .inl ⟨bY _,hd σ H p⟩
open PySem PySem.Spec PyProof.Rows
noncomputable abbrev iu:=V→V→aa→a6→Prop
noncomputable def fZ(X:bh)(f:Value→Value→Sem Value)(r:iu):Prop:=
 ∀(pins:List (Addr×Obj))(s:ax)(σ:St)(H:aa)(x y:V)(v u:Value)(Q:a6),Inv X pins σ H s→RelV x v→RelV y u→r x y H Q→
  a4 (bg X.prog X.w) X.A (f v u) (hI X pins σ Q) X.dA s
noncomputable def Kh(X:bh)(f:Value→Sem Value)(r:V→aa→a6→Prop):Prop:=
 ∀(pins:List (Addr×Obj))(s:ax)(σ:St)(H:aa)(x:V)(v:Value)(Q:a6),Inv X pins σ H s→RelV x v→r x H Q→
  a4 (bg X.prog X.w) X.A (f v) (hI X pins σ Q) X.dA s
noncomputable def j'(X:bh)(f:Value)(r:List V→aa→a6→Prop):Prop:=
 ∀(pins:List (Addr×Obj))(s:ax)(σ:St)(H:aa)(xs:List V)(us:List Value)(Q:a6),Inv X pins σ H s→cN xs us→r xs H Q→
  a4 (bg X.prog X.w) X.A (call f us) (hI X pins σ Q) X.dA s
noncomputable def ain(X:bh)(r:V→aa→(Bool→aa→Prop)→Prop):Prop:=
 ∀(pins:List (Addr×Obj))(s:ax)(σ:St)(H:aa)(x:V)(v:Value)(Q:Bool→aa→Prop),Inv X pins σ H s→RelV x v→r x H Q→
  a4 (bg X.prog X.w) X.A (truthy v) (Ez X pins σ Q) X.dA s
noncomputable def HK(r:iu)(b3 c7:TE):TE:=λσ H Q=>b3 σ H λx H1=>c7 σ H1 λy ak=>r x y ak Q
noncomputable def aqr(r:V→aa→a6→Prop)(b3:TE):TE:=λσ H Q=>b3 σ H λx H1=>r x H1 Q
inductive Ż(C:Int→Int→Prop)(g:Int→Int→V)(x:ag.V)(y:ag.V)(H:aa)(Q:a6):Prop where
 |mk (i:_) (j:_) (bW:x=.int i) (bG:y=.int j) (b4:C i j) (cM:Q (g i j) H)
noncomputable def CA(C:Int→Int→Prop)(g:Int→Int→V):iu:=λx y H Q=>Ż C g x y H Q
inductive aio(g:Int→Int→V)(x:ag.V)(y:ag.V)(H:aa)(Q:a6):Prop where
 |mk (i:_) (j:_) (bW:x=.int i) (bG:y=.int j) (b4:Q (g i j) H)
noncomputable def vf(g:Int→Int→V):iu:=λx y H Q=>aio g x y H Q
inductive ż(g:Int→V)(x:V)(H:aa)(Q:a6):Prop where
 |mk (i:_) (bW:x=.int i) (bG:Q (g i) H)
noncomputable def ρ(g:Int→V):V→aa→a6→Prop:=λx H Q=>ż g x H Q
section
variable{X:bh}{a b c:Expr}{b3 c7 mX:TE}{pos:Pos}
theorem Kb(aI:bJ X a b3)(af:bJ X b c7){pins:List (Addr×Obj)}{s:ax}{σ:St}{H:aa}{R:V→V→aa→Prop}(I:Inv X pins σ H s)(h:b3 σ H λx H1=>c7 σ H1 λy ak=>R x y ak){Q:Value→ax→Prop}{f:Value→Value→Sem Value}(hf:∀v u s2 x y ak,Inv X pins σ ak s2→RelV x v→RelV y u→R x y ak→a4 (bg X.prog X.w) X.A (f v u) Q X.dA s2):
  a4 (bg X.prog X.w) X.A (eval a X.env) (λv dH=>a4 (bg X.prog X.w) X.A (eval b X.env) (λu qq=>a4 (bg X.prog X.w) X.A (f v u) Q X.dA qq) X.dA dH) X.dA s:=by refine bM (aI pins s σ H _ I h) λv s1⟨x,H1,aU,cJ,bT⟩=>?_;refine bM (af pins s1 σ H1 _ aU bT) λu s2⟨y,ak,bI,dr,c6⟩=>?_;exact hf v u s2 x y ak bI cJ dr c6
theorem cS{op:Operator}{r:iu}(bw:fZ X (so op) r)(aI:bJ X a b3)(af:bJ X b c7):bJ X (.BinOp a op b pos) (HK r b3 c7):=by intro pins s σ H Q I h;exact wpAny_BinOp (Kb aI af I h λv u s2 x y ak bI bo bF q=>bw pins s2 σ ak x y v u Q bI bo bF q)
theorem vr{op:UnaryOp}{r:V→aa→a6→Prop}(bw:Kh X (unaryOp op) r)(aI:bJ X a b3):bJ X (.UnaryOp op a pos) (aqr r b3):=by intro pins s σ H Q I h;exact UnaryOp_ (bM (aI pins s σ H _ I h) λv s1⟨x,H1,aU,cJ,bT⟩=>bw pins s1 σ H1 x v Q aU cJ bT)
theorem G7{f:Value→Value→Sem Value}{C:Int→Int→Prop}{g:Int→Int→Int}(rule:∀(i j:Int)(t u:Tok)(s:ax)(Q:Value→ax→Prop)(E:Value→ax→Prop),C i j→Q (.int (g i j) s.toks) {s with toks:=s.toks+1}→a4 (bg X.prog X.w) X.A (f (.int i t) (.int j u)) Q E s):
  fZ X f (CA C λi j=>.int (g i j)):=by intro pins s σ H x y v u Q I bo bF h;obtain⟨i,j,rfl,rfl,aG,q⟩:=h;obtain⟨t,rfl⟩:=bo;obtain⟨t',rfl⟩:=bF;exact rule i j t t' s _ _ aG ⟨.int (g i j),H,I.tok _,⟨_,rfl⟩,q⟩
theorem W4{f:Value→Value→Sem Value}{g:Int→Int→Int}(rule:∀(i j:Int)(t u:Tok)(s:ax)(Q:Value→ax→Prop)(E:Value→ax→Prop),Q (.int (g i j) s.toks) {s with toks:=s.toks+1}→a4 (bg X.prog X.w) X.A (f (.int i t) (.int j u)) Q E s):
  fZ X f (vf λi j=>.int (g i j)):=by intro pins s σ H x y v u Q I bo bF h;obtain⟨i,j,rfl,rfl,q⟩:=h;obtain⟨t,rfl⟩:=bo;obtain⟨t',rfl⟩:=bF;exact rule i j t t' s _ _ ⟨.int (g i j),H,I.tok _,⟨_,rfl⟩,q⟩
theorem Ke{f:Value→Value→Sem Value}{g:Int→Int→Bool}(rule:∀(i j:Int)(t u:Tok)(s:ax)(Q:Value→ax→Prop)(E:Value→ax→Prop),Q (.bool (g i j)) s→a4 (bg X.prog X.w) X.A (f (.int i t) (.int j u)) Q E s):
  fZ X f (vf λi j=>.aV (g i j)):=by intro pins s σ H x y v u Q I bo bF h;obtain⟨i,j,rfl,rfl,q⟩:=h;obtain⟨t,rfl⟩:=bo;obtain⟨t',rfl⟩:=bF;exact rule i j t t' s _ _ ⟨.aV (g i j),H,I,rfl,q⟩
noncomputable def aip(i j:Int):Prop:=0<j∧j<1073741824
noncomputable def aiq(i j:Int):Prop:=0≤j∧j≤1000000∧i.natAbs<2 ^ 64
noncomputable def Kf(i j:Int):Prop:=(-(2 ^ 64)<i∧i<2 ^ 64)∨(-(2 ^ 64)<j∧j<2 ^ 64)
theorem Kf.ok{i j:Int}(h:Kf i j):IntMulOk i j:=by
 rcases h with⟨ai,aj⟩|⟨ai,aj⟩
 .exact .of_left (intBits_le_64 ai aj)
 .exact .of_right (intBits_le_64 ai aj)
theorem hS:fZ X (so .Add) (vf λi j=>.int (i+j)):=W4 λ_ _ _ _ _ _ _ q=>add_int q
theorem x2:fZ X (so .Sub) (vf λi j=>.int (i-j)):=W4 λ_ _ _ _ _ _ _ q=>sub_int q
theorem rh:fZ X (so .Mult) (CA Kf λi j=>.int (i*j)):=G7 λ_ _ _ _ _ _ _ aG q=>mul_int q aG.ok
theorem oG:fZ X (so .FloorDiv) (CA aip λi j=>.int (i/j)):=G7 λi j _ _ _ _ _ aG q=>by have ai:(0:Int)<j:=aG.1;have aj:j<1073741824:=aG.2;exact floordiv_int (by omega) (by rw[Int.fdiv_eq_ediv_of_nonneg i (by omega)];exact q) (.inl (PyProof.noPylong_small (by omega)))
theorem je:fZ X (so .Mod) (CA (λ_ j=>0<j) λi j=>.int (i%j)):=G7 λi j _ _ _ _ _ aG q=>by have ai:(0:Int)<j:=aG;exact mod_int' (by omega) (by rw[Int.fmod_eq_emod_of_nonneg i (by omega)];exact q)
theorem Vi:fZ X (so .Pow) (CA aiq λi j=>.int (i ^ j.toNat)):=G7 λ_ _ _ _ _ _ _ aG q=>pow_int_small aG.1 aG.2.1 aG.2.2 q
theorem aqH{f:Value→Sem Value}{g:Int→Int}(rule:∀(i:Int)(t:Tok)(s:ax)(Q:Value→ax→Prop)(E:Value→ax→Prop),Q (.int (g i) s.toks) {s with toks:=s.toks+1}→a4 (bg X.prog X.w) X.A (f (.int i t)) Q E s):
  Kh X f (ρ λi=>.int (g i)):=by intro pins s σ H x v Q I bo h;obtain⟨i,rfl,q⟩:=h;obtain⟨t,rfl⟩:=bo;exact rule i t s _ _ ⟨.int (g i),H,I.tok _,⟨_,rfl⟩,q⟩
theorem vd:Kh X (unaryOp .USub) (ρ λi=>.int (-i)):=aqH λ_ _ _ _ _ q=>neg_int q
end
noncomputable def W5:V→V→Bool
 |.bD,.bD=>true|.bD,.int _=>true|.int _,.bD=>true|.bD,.aV _=>true|.aV _,.bD=>true|.bD,.str _=>true|.str _,.bD=>true
 |.int _,.int _=>true|.aV _,.aV _=>true|.str _,.str _=>true|.lP _,.lP _=>true
 |.int _,.str _=>true|.str _,.int _=>true|.aV _,.str _=>true|.str _,.aV _=>true
 |_,_=>false
noncomputable def apD:iu:=λx y H Q=>W5 x y=true∧Q (.aV (decide (x=y))) H
noncomputable def apE:iu:=λx y H Q=>W5 x y=true∧Q (.aV (!decide (x=y))) H
theorem HQ{i j:Int}:decide (V.int i=V.int j)=(i==j):=by rw[yD];simp
theorem Vj{i j:Bool}:decide (V.aV i=V.aV j)=(i==j):=by rw[yD];simp
theorem Us{i j:Str}:decide (V.str i=V.str j)=(i==j):=by rw[yD];simp
theorem Ut{i j:Array UInt8}:decide (V.lP i=V.lP j)=(i.toList==j.toList):=by rw[yD];cases i;cases j;simp
section
variable{X:bh}{a b c:Expr}{b3 c7 mX:TE}{pos:Pos}
theorem fF{pins:List (Addr×Obj)}{σ:St}{H:aa}{s:ax}{Q:a6}{k gx:Bool}(I:Inv X pins σ H s)(q:Q (.aV k) H)(e:k=gx):hI X pins σ Q (.bool gx) s:=by subst e;exact⟨.aV k,H,I,rfl,q⟩
theorem l2:fZ X (hQ .Eq) apD:=by
 intro pins s σ H x y v u Q I bo bF h;obtain⟨hs,q⟩:=h;cases x with
 |bD=>
  cases bo;cases y with
  |bD=>cases bF;exact ar6 (fF I q (by simp))
  |aV j=>cases bF;exact ar4 (fF I q (by simp))
  |int j=>obtain⟨t',rfl⟩:=bF;exact ar5 (fF I q (by simp))
  |str j=>obtain⟨t',rfl⟩:=bF;exact ar7 (fF I q (by simp))
  |_=>exact bt (show false=true from hs) fL
 |aV i=>
  cases bo;cases y with
  |bD=>cases bF;exact ar2 (fF I q (by simp))
  |aV j=>cases bF;exact eq_bool (fF I q Vj)
  |str j=>obtain⟨t',rfl⟩:=bF;exact arU (fF I q (by simp))
  |_=>exact bt (show false=true from hs) fL
 |int i=>
  obtain⟨t,rfl⟩:=bo;cases y with
  |bD=>cases bF;exact ar3 (fF I q (by simp))
  |int j=>obtain⟨t',rfl⟩:=bF;exact eq_int (fF I q HQ)
  |str j=>obtain⟨t',rfl⟩:=bF;exact arV (fF I q (by simp))
  |_=>exact bt (show false=true from hs) fL
 |str i=>
  obtain⟨t,rfl⟩:=bo;cases y with
  |bD=>cases bF;exact ar8 (fF I q (by simp))
  |aV j=>cases bF;exact arW (fF I q (by simp))
  |int j=>obtain⟨t',rfl⟩:=bF;exact arX (fF I q (by simp))
  |str j=>obtain⟨t',rfl⟩:=bF;exact eq_str (fF I q Us)
  |_=>exact bt (show false=true from hs) fL
 |lP i=>
  obtain⟨t,rfl⟩:=bo;cases y with
  |lP j=>obtain⟨t',rfl⟩:=bF;exact PySem.W.eq_bytes (fF I q Ut)
  |_=>exact bt (show false=true from hs) fL
 |_=>cases y<;>exact bt (show false=true from hs) fL
theorem DL:fZ X (hQ .NotEq) apE:=by
 intro pins s σ H x y v u Q I bo bF h;obtain⟨hs,q⟩:=h;cases x with
 |bD=>
  cases bo;cases y with
  |bD=>cases bF;exact ase (fF I q (by simp))
  |aV j=>cases bF;exact asb (fF I q (by simp))
  |int j=>obtain⟨t',rfl⟩:=bF;exact asd (fF I q (by simp))
  |str j=>obtain⟨t',rfl⟩:=bF;exact asf (fF I q (by simp))
  |_=>exact bt (show false=true from hs) fL
 |aV i=>
  cases bo;cases y with
  |bD=>cases bF;exact ar9 (fF I q (by simp))
  |aV j=>cases bF;exact ne_bool (fF I q (iP not Vj))
  |str j=>obtain⟨t',rfl⟩:=bF;exact arY (fF I q (by simp))
  |_=>exact bt (show false=true from hs) fL
 |int i=>
  obtain⟨t,rfl⟩:=bo;cases y with
  |bD=>cases bF;exact asa (fF I q (by simp))
  |int j=>obtain⟨t',rfl⟩:=bF;exact ne_int (fF I q (iP not HQ))
  |str j=>obtain⟨t',rfl⟩:=bF;exact arZ (fF I q (by simp))
  |_=>exact bt (show false=true from hs) fL
 |str i=>
  obtain⟨t,rfl⟩:=bo;cases y with
  |bD=>cases bF;exact ash (fF I q (by simp))
  |aV j=>cases bF;exact ar0 (fF I q (by simp))
  |int j=>obtain⟨t',rfl⟩:=bF;exact ar1 (fF I q (by simp))
  |str j=>obtain⟨t',rfl⟩:=bF;exact ne_str (fF I q (iP not Us))
  |_=>exact bt (show false=true from hs) fL
 |lP i=>
  obtain⟨t,rfl⟩:=bo;cases y with
  |lP j=>obtain⟨t',rfl⟩:=bF;exact PySem.W.ne_bytes (fF I q (iP not Ut))
  |_=>exact bt (show false=true from hs) fL
 |_=>cases y<;>exact bt (show false=true from hs) fL
theorem ru:fZ X (hQ .Lt) (vf λi j=>.aV (decide (i<j))):=Ke λ_ _ _ _ _ _ _ q=>lt_int q
theorem mB:fZ X (hQ .LtE) (vf λi j=>.aV (decide (i≤j))):=Ke λ_ _ _ _ _ _ _ q=>le_int q
theorem vt:fZ X (hQ .Gt) (vf λi j=>.aV (decide (j<i))):=Ke λ_ _ _ _ _ _ _ q=>gt_int q
theorem C3:fZ X (hQ .Is) (λx y H Q=>y=.bD∧Q (.aV (decide (x=.bD))) H):=by
 intro pins s σ H x y v u Q I bo bF h;obtain⟨rfl,q⟩:=h;cases bF;refine is_none_gen (fF I q ?_);cases x<;>first
  | (cases bo;rfl)
  | (obtain⟨t,rfl⟩:=bo;rfl)
theorem HR:fZ X (hQ .IsNot) (λx y H Q=>y=.bD∧Q (.aV (!decide (x=.bD))) H):=by
 intro pins s σ H x y v u Q I bo bF h;obtain⟨rfl,q⟩:=h;cases bF;refine isnot_none_gen (fF I q ?_);cases x<;>first
  | (cases bo;rfl)
  | (obtain⟨t,rfl⟩:=bo;rfl)
theorem eh(b:Expr){op:rZ}(h:op≠.In:=by decide)(aj:op≠.NotIn:=by decide):ua op b=false:=by
 have az:(op==CmpOp.In)=false:=by cases op<;>first|rfl|exact bt rfl h
 have aE:(op==CmpOp.NotIn)=false:=by cases op<;>first|rfl|exact bt rfl aj
 cases b<;>simp[ua,az,aE]
theorem ix{op:rZ}{r:iu}(bw:fZ X (hQ op) r)(aI:bJ X a b3)(af:bJ X b c7)(hm:ua op b=false):bJ X (.Compare a [op] [b] pos) (HK r b3 c7):=by intro pins s σ H Q I h;exact aqY (Kb aI af I h λv u s2 x y ak bI bo bF q=>bw pins s2 σ ak x y v u Q bI bo bF q) hm
noncomputable def WC(t:TE):TT:=λσ H Q=>t σ H λx U=>Va x U Q
theorem f3{op:rZ}{r:iu}(bw:fZ X (hQ op) r)(aI:bJ X a b3)(af:bJ X b c7)(hm:ua op b=false):kP X (.Compare a [op] [b] pos) (WC (HK r b3 c7)):=by
 intro pins s σ H Q I h;refine aq3 (bM (aI pins s σ H _ I h) λv s1⟨x,H1,aU,cJ,bT⟩=>bM (af pins s1 σ H1 _ aU bT) λu s2⟨y,ak,bI,dr,c6⟩=>
  bM (bw pins s2 σ ak x y v u _ bI cJ dr c6) λc s3⟨z,bp,c8,rv,k,e,g8⟩=>?_) hm
 subst e;cases rv;exact m2 ⟨bp,c8,g8⟩
noncomputable def Vk(r cE:iu)(b3 c7 mX:TE):TE:=λσ H Q=>b3 σ H λx H1=>c7 σ H1 λy ak=>r x y ak λz bp=>∃k,z=.aV k∧
 (if k=true then mX σ bp λeX dw=>cE y eX dw Q else Q (.aV false) bp)
theorem RL{op u_:rZ}{r cE:iu}(bw:fZ X (hQ op) r)(j8:fZ X (hQ u_) cE)(aI:bJ X a b3)(af:bJ X b c7)(aG:bJ X c mX)(hm:lastMarks [op,u_] [b,c]=false:=by with_unfolding_all rfl):bJ X (.Compare a [op,u_] [b,c] pos) (Vk r cE b3 c7 mX):=by
 intro pins s σ H Q I h;refine Compare_chain (bM (aI pins s σ H _ I h) λv s1⟨x,H1,aU,cJ,bT⟩=>chain_link (bM (af pins s1 σ H1 _ aU bT) λu s2⟨y,ak,bI,dr,c6⟩=>
  bM (bw pins s2 σ ak x y v u _ bI cJ dr c6) λd s3⟨z,bp,c8,rv,k,e,g8⟩=>?_)) hm
 subst e;cases rv;refine m2 ?_;cases k with
 |false=>exact ite_ff ⟨.aV false,bp,c8,rfl,g8⟩
 |true=>exact ite_tt (chain_last (bM (aG pins s3 σ bp _ c8 g8) λeX s4⟨dp,dw,i2,Cu,rq⟩=>j8 pins s4 σ dw y dp u eX Q i2 dr Cu rq))
theorem xB{op u_:rZ}{r cE:iu}(bw:fZ X (hQ op) r)(j8:fZ X (hQ u_) cE)(aI:bJ X a b3)(af:bJ X b c7)(aG:bJ X c mX)(hm:lastMarks [op,u_] [b,c]=false:=by with_unfolding_all rfl):kP X (.Compare a [op,u_] [b,c] pos) (WC (Vk r cE b3 c7 mX)):=by
 intro pins s σ H Q I h;refine isTrue_chain (bM (aI pins s σ H _ I h) λv s1⟨x,H1,aU,cJ,bT⟩=>test_link (bM (af pins s1 σ H1 _ aU bT) λu s2⟨y,ak,bI,dr,c6⟩=>
  bM (bw pins s2 σ ak x y v u _ bI cJ dr c6) λd s3⟨z,bp,c8,rv,k,e,g8⟩=>?_)) hm
 subst e;cases rv;refine m2 ?_;cases k with
 |false=>
  obtain⟨gx,bR,gz⟩:=g8;cases bR;exact ite_ff ⟨bp,c8,gz⟩
 |true=>
  refine ite_tt (test_last (bM (aG pins s3 σ bp _ c8 g8) λeX s4⟨dp,dw,i2,Cu,rq⟩=>bM (j8 pins s4 σ dw y dp u eX _ i2 dr Cu rq) λd' s5⟨bG,bK,kN,Cv,k2,aE,Cp⟩=>?_));subst aE;cases Cv;exact m2 ⟨bK,kN,Cp⟩
noncomputable def W6(K:aS)(x:V)(H:aa)(k:Bool):Prop:=
 match x with
 |.bD=>k=false
 |.aV b=>k=b
 |.int i=>k=(i !=0)
 |.str y=>y.length≤sizeLine∧k=((y.length:Int) !=0)
 |.lP y=>y.size≤sizeLine∧k=((y.size:Int) !=0)
 |.ref p=>(∃xs,aO K H p xs∧k=!xs.isEmpty)∨(∃xs,b1 K H p xs∧k=!xs.isEmpty)∨∃kvs,H p=some (.bX kvs)∧k=!kvs.isEmpty
 |_=>False
theorem Ģ{κ:Type}{kvs:List (κ×V)}{vs:List (κ×Value)}(r:fC kvs vs):(!vs.isEmpty)=!kvs.isEmpty:=by cases r<;>rfl
theorem Ç{xs:List V}{its:List Value}(r:cN xs its):(!its.toArray.isEmpty)=!xs.isEmpty:=by cases r<;>simp
theorem x3:(sizeLine:Nat)<2 ^ 63:=by rw[tp];decide
theorem afd:ain X (λx H Q=>∃k,W6 X.K x H k∧Q k H):=by
 intro pins s σ H x v Q I bo h;obtain⟨k,e,q⟩:=h;have aq:=x3;have hs:sizeLine=16777216:=tp;cases x with
 |bD=>
  cases bo;have bR:k=false:=e;subst bR;exact truthy_none ⟨H,I,q⟩
 |aV b=>
  cases bo;have bR:k=b:=e;subst bR;exact m2 ⟨H,I,q⟩
 |int i=>
  obtain⟨t,rfl⟩:=bo;have bR:k=(i !=0):=e;subst bR;exact PySem.P.truthy_int ⟨H,I,q⟩
 |str y=>
  obtain⟨t,rfl⟩:=bo;obtain⟨cW,bR⟩:y.length≤sizeLine∧k=((y.length:Int) !=0):=e;subst bR;exact PySem.P.truthy_str (by omega) ⟨H,I.tok _,q⟩
 |lP y=>
  obtain⟨t,rfl⟩:=bo;obtain⟨cW,bR⟩:y.size≤sizeLine∧k=((y.size:Int) !=0):=e;subst bR;exact PySem.W.truthy_bytes (by omega) ⟨H,I.tok _,q⟩
 |ref p=>
  cases bo;have bR:(∃xs,aO X.K H p xs∧k=!xs.isEmpty)∨(∃xs,b1 X.K H p xs∧k=!xs.isEmpty)∨∃kvs,H p=some (.bX kvs)∧k=!kvs.isEmpty:=e;rcases bR with⟨xs,ay,bR⟩|⟨xs,ay,bR⟩|⟨kvs,ay,bR⟩
  .subst bR;obtain⟨its,r,pl,bB⟩:=I.list ay;have hlen:=r.length;exact wpAny_truthy_list pl.isList (by simp only[gh];omega) ⟨H,I.tok _,by rw[Ç r];exact q⟩
  .subst bR;obtain⟨its,r,pl,bB⟩:=I.tuple ay;have hlen:=r.length;exact truthy_tuple pl (by simp only[gh];omega) ⟨H,I.tok _,by rw[Ç r];exact q⟩
  .subst bR;obtain⟨bB,f',vs,r,m⟩:kvs.length≤sizeLine∧(p==lB)=false∧∃vs,fC kvs vs∧s.heap.DictOf (hn X.prog X.w) p vs:=I.bj p _ ay;have hlen:kvs.length=vs.length:=hO r;exact wpAny_truthy_dict f' m (by omega) ⟨H,I.tok _,by rw[Ģ r];exact q⟩
 |_=>exact(show False from e).elim
theorem Tt(aI:bJ X a b3)(he:∀whole,Bz a X.env whole=(do let v ←whole;tr a.pos;pV [v] (truthy v))):
  kP X a (λσ H Q=>b3 σ H λx U=>∃k,W6 X.K x U k∧Q k U):=by intro pins s σ H Q I h;exact isTrue_plain (bM (aI pins s σ H _ I h) λv s1⟨x,H1,aU,cJ,bT⟩=>afd pins s1 σ H1 x v Q aU cJ bT) (he _)
theorem ģ:fZ X (so .Add) (λx y H Q=>∃i j,x=.str i∧y=.str j∧i.length+j.length≤sizeLine∧Q (.str (i++j)) H):=by intro pins s σ H x y v u Q I bo bF h;obtain⟨i,j,rfl,rfl,bB,q⟩:=h;obtain⟨t,rfl⟩:=bo;obtain⟨t',rfl⟩:=bF;exact add_str (λt' aP=>⟨.str (i++j),H,I.tok _,⟨_,rfl⟩,q⟩) bB
theorem vals1{x:V}{us:List Value}(r:cN [x] us):∃u,us=[u]∧RelV x u:=by
 cases r with
 |cons cJ dr=>cases dr;exact⟨_,rfl,cJ⟩
theorem vals2{x y:V}{us:List Value}(r:cN [x,y] us):∃u eX,us=[u,eX]∧RelV x u∧RelV y eX:=by
 cases r with
 |cons cJ dr=>
  cases dr with
  |cons rv Cu=>cases Cu;exact⟨_,_,rfl,cJ,rv⟩
theorem ť(aG:X.calm=true):j' X (.builtin "max") (λxs H Q=>∃i j,xs=[.int i,.int j]∧Q (.int (if j>i then j else i)) H):=by
 intro pins s σ H xs us Q I r h;obtain⟨i,j,rfl,q⟩:=h;obtain⟨u,eX,rfl,⟨t,rfl⟩,⟨t',rfl⟩⟩:=vals2 r;refine max_two_ints (I.ok.hd aG) λh' aP k=>⟨_,H,I.kept k,?_,q⟩
 by_cases bq:j>i
 .rw[a8 bq,a8 bq];exact⟨_,rfl⟩
 .rw[aX bq,aX bq];exact⟨_,rfl⟩
theorem Ŧ:j' X (.type "int") (λxs H Q=>(∃i,xs=[.int i]∧Q (.int i) H)∨∃k,xs=[.aV k]∧Q (.int (if k then 1 else 0)) H):=by
 intro pins s σ H xs us Q I r h;rcases h with⟨i,rfl,q⟩|⟨k,rfl,q⟩
 .obtain⟨u,rfl,t,rfl⟩:=vals1 r;exact call_int_int ⟨.int i,H,I,⟨_,rfl⟩,q⟩
 .obtain⟨u,rfl,cJ⟩:=vals1 r;cases cJ;exact call_int_bool ⟨.int (if k then 1 else 0),H,I.tok _,⟨_,rfl⟩,q⟩
end
open PySem PySem.Spec PyProof.Rows
structure tM(h:Heap)(x ah C:Addr)(mA:Str→Option Value):Prop where
 obj:h.get? x=some (pg C ah)
 ns:h.Ns1 ah mA
 ne:ah≠x
theorem ŧ{h:Heap}{ah:Addr}{mA:Str→Option Value}(n:h.Ns1 ah mA):∃dR,h.get? ah=some dR∧∀name,J8 name dR=some (mA name):=by
 obtain⟨o,es,ep,bw,hd,aT,_,hm⟩:=n;refine⟨o,bw,λname=>?_⟩;have e:=hm name;unfold nsFind findBy at e;rw[←Array.find?_toList]at e;unfold J8;rw[hd];dsimp only;split
 .rename_i y q;rw[q]at e;exact iP some e
 .rename_i q;rw[q]at e;have a:es.toList.any (·.refKey)=false:=by rw[List.any_eq_false];intro y cW;obtain⟨z,t,ana⟩:=aT y (Array.mem_toList_iff.mp cW);simp[DictEntry.refKey,ana]
  have aZ:¬es.toList.any (·.refKey)=true:=by rw[a];exact fL
  rw[aX aZ];exact iP some e
theorem tM.look{h:Heap}{x ah C:Addr}{mA:Str→Option Value}(I:tM h x ah C mA):∃dR,PySem.W.InstAt h x (pg C ah) C (some dR)∧∀name,J8 name dR=some (mA name):=
 let⟨dR,bw,aq⟩:=ŧ I.ns
 ⟨dR,⟨I.obj,rfl,rfl,bw⟩,aq⟩
section
variable{prog:bL}{w:bC}{A:c4}{E:Value→ax→Prop}{s:ax}{K:aS}{x ah C f:Addr}{mA:Str→Option Value}{name:Str}{v:Value}
theorem adD{expr:Bool}{Q:Value→ax→Prop}(X:K.In s.heap)(I:tM s.heap x ah C mA)(bz:om K C name=true)(d9:mj K C=true)(aI:bE K (.ref C) name=some none)(bA:mA name=some v)(anQ:acY v=true)(h:Q v {s with toks:=s.toks+1}):
  a4 (bg prog w) A (getAttr (.ref x) name expr) Q E s:=by obtain⟨dR,J,aq⟩:=I.look;exact PySem.W.get_value X J (Wu bz).1 (PySem.W.findObj_own d9 aI rfl (by rw[aq,bA])) anQ h
theorem aaP{pl:Sem Bool}{Q:Value×List Value→ax→Prop}(X:K.In s.heap)(I:tM s.heap x ah C mA)(bz:om K C name=true)(hf:bE K (.ref C) name=some (some (.ref f)))(df:ey K (.ref f)=true)(bA:mA name=none)(h:Q (.ref f,[.ref x]) s):
  a4 (bg prog w) A (xe (.ref x) name pl) Q E s:=by obtain⟨dR,J,aq⟩:=I.look;exact PySem.W.method_fn X J (Wu bz).1 (Wu bz).2 hf (px.mp df) (by show(J8 name dR).map (·.isSome)=some false;rw[aq,bA];rfl) h
theorem adE{ns:List Str}{Q:Unit→ax→Prop}(X:K.In s.heap)(I:tM s.heap x ah C mA)(hs:bE K (.ref C) "__setattr__"=some (some (.builtin "object.__setattr__")))(aW:qM K C=true)(df:Ww K C name=some none)(d9:mj K C=true)(hw:wN mA ns)(hsz:ns.length≤sizeLine)(h:∀h',tM h' x ah C (λy=>if y=name then some v else mA y)→tQ ah s.heap h'→Q () {s with heap:=h',toks:=s.toks+2}):
  a4 (bg prog w) A (CU (.ref x) name v) Q E s:=by obtain⟨dR,J,aq⟩:=I.look;refine PySem.W.set_plain X J hs (PySem.W.osa_open (s:={s with toks:=s.toks+1}) (r:=none) X J aW df λb=>?_);obtain⟨cd,aG,nt⟩:=PySem.W.any_some d9;have ay:s.heap.get? x=some ⟨.ref C,some ah,.plain,#[]⟩:=I.obj;refine aR (bN (aR (aR (wpAny_loadPart ay (aR (PySem.W.Looks.here (s:={s with toks:=s.toks+1}) (PySem.W.looks_clsIn X aG) ?_))))));rw[nt];refine bN (a:=some ah) (aR (bN (aR ?_)));refine wpAny_nsSet1 (s:={s with toks:=s.toks+1}) I.ns λh' FW pW=>?_;obtain⟨apf,alW,alU,NJ,Nb,M8⟩:=FW.count (Wx name v hw);refine aR (aq5 NJ (by rw[Nb];exact apo (el M8 (by rw[i5];omega))) ?_);exact bN (h _ ⟨(pW.2 _ (b' I.ne)).trans I.obj,FW,I.ne⟩ pW)
theorem aaQ{R:ot→ax→Prop}{vs:List Value}{kw:List (Str×Value)}(X:K.In s.heap)(hm:oj K C=true)(ar:bE K (.ref C) "__init__"=some (some (.ref f)))(hf:ac5 K (.ref f)=some (.type "function"))(h:jX (bg prog w) (A.under (.builtin "type.__call__" ⟨.ref C::vs,kw⟩)) (.call (.ref f) ⟨.ref (s.heap.objs.size+1)::vs,kw⟩) (acS (s.heap.objs.size+1) R)
   {s with heap:=(s.heap.push oh).push (pg C s.heap.objs.size)}):
  jX (bg prog w) A (.call (.ref C) ⟨vs,kw⟩) R s:=by obtain⟨d9,g,d,t,os⟩:=s;exact ac4 (Wr X hm) (wM X ar) (λself=>acU X self hf) (.inl rfl) h
theorem Ř{R:ot→ax→Prop}(X:K.In s.heap)(hm:oj K C=true)(ar:bE K (.ref C) "__init__"=some (some (.builtin "object.__init__")))(af:∀self,wK (bg prog w) s.heap (bindSpecial (.builtin "object.__init__") self) (.builtin "object.__init__",[self]))(h:jX (bg prog w) (A.under (.builtin "type.__call__" ⟨[.ref C],[]⟩)) (.call (.builtin "object.__init__") ⟨[.ref (s.heap.objs.size+1)],[]⟩) (acS (s.heap.objs.size+1) R)
   {s with heap:=(s.heap.push oh).push (pg C s.heap.objs.size)}):
  jX (bg prog w) A (.call (.ref C) ⟨[],[]⟩) R s:=by obtain⟨d9,g,d,t,os⟩:=s;exact ac4 (Wr X hm) (wM X ar) af (.inr ⟨rfl,rfl⟩) h
end
noncomputable def js(f:Str)(v:V):List (Str×V)→List (Str×V)
 |[]=>[(f,v)]
 | (g,x)::r=>if g=f then(g,v)::r else(g,x)::js f v r
theorem PK(f g:Str)(v:V):∀fs:List (Str×V),(js f v fs).lookup g=if g=f then some v else fs.lookup g
 |[]=>by
  show r9 g [(f,v)]=_;by_cases h:g=f
  .have af:(g==f)=true:=px.mpr h;simp only[r9,af,a8 h]
  .have af:(g==f)=false:=wX.mpr h;simp only[r9,af,aX h]
 | (k,x)::r=>by
  have a7:=PK f g v r;rw[show js f v ((k,x)::r)=(if k=f then(k,v)::r else(k,x)::js f v r)from rfl];by_cases aT:k=f
  .rw[a8 aT];by_cases h:g=k
   .have af:(g==k)=true:=px.mpr h;simp only[r9,af,a8 (h.trans aT)]
   .have af:(g==k)=false:=wX.mpr h;simp only[r9,af,aX (λe:g=f=>h (e.trans aT.symm))]
  .rw[aX aT];by_cases h:g=k
   .have af:(g==k)=true:=px.mpr h;simp only[r9,af,aX (λe:g=f=>aT (h.symm.trans e))]
   .have af:(g==k)=false:=wX.mpr h;simp only[r9,af];exact a7
theorem B0(f:Str)(v:V):∀fs:List (Str×V),f∈(js f v fs).map (·.1)∧∀g,g∈fs.map (·.1)→g∈(js f v fs).map (·.1)
 |[]=>⟨by simp[js],λg h=>by simp at h⟩
 | (k,x)::r=>by
  obtain⟨lZ,nB⟩:=B0 f v r;rw[show js f v ((k,x)::r)=(if k=f then(k,v)::r else(k,x)::js f v r)from rfl];by_cases aT:k=f
  .rw[a8 aT];subst aT;exact⟨by simp,λg h=>by simpa using h⟩
  .rw[aX aT];refine⟨?_,λg h=>?_⟩
   .rw[gv];exact lL _ lZ
   .rw[gv]at h⊢;rcases dx.mp h with e|e
    .exact dx.mpr (.inl e)
    .exact lL _ (nB g e)
theorem PR(f:Str)(v:V):∀fs:List (Str×V),(js f v fs).length≤fs.length+1
 |[]=>by simp[js]
 | (k,x)::r=>by
  have a7:=PR f v r;rw[show js f v ((k,x)::r)=(if k=f then(k,v)::r else(k,x)::js f v r)from rfl];by_cases aT:k=f
  .rw[a8 aT,i5,i5];omega
  .rw[aX aT,i5,i5];omega
theorem ie.some_of{v:V}{o:Option Value}(r:ie (some v) o):∃u,o=some u∧RelV v u:=by
 cases o with
 |none=>exact(show False from r).elim
 |some u=>exact⟨u,rfl,r⟩
theorem ie.none_of{o:Option Value}(r:ie none o):o=none:=by
 cases o with
 |none=>rfl
 |some u=>exact(show False from r).elim
theorem ř{v:V}{u:Value}(r:RelV v u):acY u=true:=by
 cases v with
 |bD=>cases(show u=gB from r);rfl
 |aV b=>cases(show u=Kn b from r);rfl
 |int i=>obtain⟨t,e⟩:=(show∃t,u=ko i t from r);cases e;rfl
 |str x=>obtain⟨t,e⟩:=(show∃t,u=t7 x t from r);cases e;rfl
 |lP b=>obtain⟨t,e⟩:=(show∃t,u=Value.bytes b t from r);cases e;rfl
 |uA b=>obtain⟨t,e⟩:=(show∃t,u=WZ b t from r);cases e;rfl
 |ref a=>cases(show u=dO a from r);rfl
 |ty n=>cases(show u=si n from r);rfl
section
variable{P:bL}{w:bC}{H U:aa}{h h':Heap}{a C ah:Addr}{fs ama:List (Str×V)}
theorem HS(bj:fp P w H h)(e:H a=some (.ins C ah fs)):∃mA,tM h a ah C mA∧(∀f,ie (fs.lookup f) (mA f))∧wN mA (fs.map (·.1))∧fs.length≤1000∧H ah=some (.own a):=by
 obtain⟨d,z,ne,ob,mA,n,r,q⟩:=(show eo P w H h a (.ins C ah fs)from bj a _ e)
 exact⟨mA,⟨ob,n,ne⟩,r,q,z,d⟩
end
structure d_(K:aS)(C:Addr):Prop where
 apq:om K C iM=true
 hd:mj K C=true
 po:qM K C=true
 l9:bE K (.ref C) "__setattr__"=some (some (.builtin "object.__setattr__"))
theorem d_.get{K:aS}{C:Addr}(c:d_ K C)(f:Str):om K C f=true:=c.apq
noncomputable def s7(K:aS)(C:Addr)(f:Str):Prop:=bE K (.ref C) f=some none
theorem s7.aqs{K:aS}{C:Addr}{f:Str}(n:s7 K C f):Ww K C f=some none:=by unfold Ww;rw[show bE K (.ref C) f=some none from n];rfl
structure Meth(K:aS)(C:Addr)(m:Str)(f:Addr):Prop where
 at_:bE K (.ref C) m=some (some (.ref f))
 fn:ey K (.ref f)=true
 b0:i7 K (.ref f)=true
section
variable{X:bh}{pins:List (Addr×Obj)}{σ:St}{H:aa}{s:ax}{a C ah:Addr}{fs:List (Str×V)}{f:Str}{v:V}{A:c4}{E:Value→ax→Prop}
theorem Ĥ{b:Bool}{Q:Value→ax→Prop}(I:Inv X pins σ H s)(e:H a=some (.ins C ah fs))(c:d_ X.K C)(n:s7 X.K C f)(l:fs.lookup f=some v)(h:∀u s',Inv X pins σ H s'→RelV v u→Q u s'):a4 (bg X.prog X.w) A (getAttr (.ref a) f b) Q E s:=by obtain⟨mA,O,r,_,_,_⟩:=HS I.bj e;obtain⟨u,cj,eP⟩:=ie.some_of (v:=v) (o:=mA f) (by rw[←l];exact r f);exact adD I.eB O (c.get f) c.hd n cj (ř eP) (h u _ (I.tok _) eP)
theorem GA{m:Str}{g:Addr}{pl:Sem Bool}{Q:Value×List Value→ax→Prop}(I:Inv X pins σ H s)(e:H a=some (.ins C ah fs))(c:d_ X.K C)(k:Meth X.K C m g)(l:fs.lookup m=none)(h:Q (.ref g,[.ref a]) s):a4 (bg X.prog X.w) A (xe (.ref a) m pl) Q E s:=by obtain⟨mA,O,r,_,_,_⟩:=HS I.bj e;have aw:mA m=none:=ie.none_of (by rw[←l];exact r m);exact aaP I.eB O (c.get m) k.at_ k.fn aw h
theorem ė{y:V}{u:Value}{Q:Unit→ax→Prop}(I:Inv X pins σ H s)(e:H a=some (.ins C ah fs))(c:d_ X.K C)(n:s7 X.K C f)(aq:fs.length<1000)(bF:RelV y u)(h:∀s',Inv X pins σ (upd H a (.ins C ah (js f y fs))) s'→Q () s'):a4 (bg X.prog X.w) A (CU (.ref a) f u) Q E s:=by
 obtain⟨mA,O,r,wi,_,bw⟩:=HS I.bj e;have bB:(fs.map (·.1)).length≤sizeLine:=by rw[a',tp];omega
 refine adE I.eB O c.l9 c.po n.aqs c.hd wi bB λh' oe cF=>h _ ?_;have hd:∃o,h'.get? ah=some o:=let⟨o,_,_,bR,_⟩:=oe.ns;⟨o,bR⟩
 refine I.write (x:=a) (e:=ah) (by rw[e];exact kR) (.inr bw) (λb q af z=>(cF.2 b af).trans z) hd ?_;refine⟨by rw[aD O.ne];exact bw,?_,O.ne,oe.obj,_,oe.ns,λg=>?_,λg bz=>?_⟩
 .have:=PR f y fs;omega
 .show ie ((js f y fs).lookup g) (if g=f then some u else mA g);rw[PK];by_cases q:g=f
  .rw[a8 q,a8 q];exact bF
  .rw[aX q,aX q];exact r g
 .by_cases q:g=f
  .rw[q];exact(B0 f y fs).1
  .refine(B0 f y fs).2 g (wi g λz=>bz ?_);show(if g=f then some u else mA g)=none;rw[aX q];exact z
theorem Inv.made(I:Inv X pins σ H s):Inv X pins σ (upd (upd H s.heap.objs.size (.own (s.heap.objs.size+1))) (s.heap.objs.size+1) (.ins C s.heap.objs.size []))
  {s with heap:=(s.heap.push oh).push (pg C s.heap.objs.size)}:=by
 have az:(s.heap.push oh).get? s.heap.objs.size=some oh:=hg s.heap rfl;have aE:((s.heap.push oh).push (pg C s.heap.objs.size)).get? (s.heap.objs.size+1)=some (pg C s.heap.objs.size):=by
  have:=hg (s.heap.push oh) (o:=pg C s.heap.objs.size) rfl
  rwa [wh]at this
 have dj:(s.heap.push oh).Ns s.heap.objs.size (λ_=>none):=⟨oh,#[],_,az,rfl,(λe he=>bt he (by simp)),λ_=>rfl⟩
 have aU:=I.laid (a:=s.heap.objs.size) (o:=.own (s.heap.objs.size+1)) (h':=s.heap.push oh) (t':=s.toks) (λb u q=>dJ _ q) (bY _) ⟨_,az⟩;refine aU.laid (a:=s.heap.objs.size+1) (o:=.ins C s.heap.objs.size []) (t':=s.toks) (λb u q=>dJ _ q) (JJ (wh _ _)) ?_;have ne:s.heap.objs.size≠s.heap.objs.size+1:=en (wG _);refine⟨by rw[aD ne,aQ],eD _,ne,aE,λ_=>none,(Ő dj).at λo q=>dJ _ q,λ_=>kR,λy cW=>bt rfl cW⟩
theorem adF{prog:bL}{w:bC}{env:Env}{e:Expr}{f:Str}{pos:Pos}{s:ax}{Q:Value→ax→Prop}(af:Ab e f env (eval e env)=eval e env)(h:a4 (bg prog w) A (eval e env) (λo dH=>a4 (bg prog w) A (getAttr o f true) Q E dH) E s):a4 (bg prog w) A (eval (.Attribute e f pos) env) Q E s:=
 Attribute_any_ h (by rw[arm_eval_Attribute,af])
end
inductive air(K:aS)(f:Str)(x:V)(H1:aa)(Q:a6):Prop where
 |mk (a:_) (C:_) (ah:_) (fs:_) (v:_) (bW:x=.ref a) (bG:H1 a=some (.ins C ah fs)) (b4:d_ K C) (cM:s7 K C f) (d3:fs.lookup f=some v) (fK:Q v H1)
noncomputable def W7(K:aS)(b3:TE)(f:Str):TE:=λσ H Q=>b3 σ H λx H1=>air K f x H1 Q
noncomputable def W8(K:aS)(b3 jx:TE)(f:Str):eY:=λD σ H=>jx σ H λy H1=>b3 σ H1 λx ak=>∃a C ah fs,x=.ref a∧ak a=some (.ins C ah fs)∧d_ K C∧s7 K C f∧fs.length<1000∧
 D.cf σ (upd ak a (.ins C ah (js f y fs)))
section
variable{X:bh}{o e value:Expr}{f:Str}{pos pos' RH:Pos}{b3 jx:TE}
theorem dT(he:bJ X e b3)(af:Ab e f X.env (eval e X.env)=eval e X.env):bJ X (.Attribute e f pos) (W7 X.K b3 f):=by intro pins s σ H Q I h;refine adF af (bM (he pins s σ H _ I h) λu s1⟨x,H1,aU,bo,a,C,ah,fs,v,ex,bc,c,n,l,q⟩=>?_);subst ex;obtain rfl:u=dO a:=bo;exact Ĥ aU bc c n l λu' s2 bI eP=>⟨v,H1,bI,eP,q⟩
theorem iA(aI:bJ X o b3)(bA:bJ X value jx)(hs:x_ value (some (.Attribute o f pos')) pos.line X.env=pure false):h4 X (.Assign [.Attribute o f pos'] value pos) (W8 X.K b3 jx f):=by intro pins s σ H D I h;refine apr (bM (bA pins s σ H _ I h) λu s1⟨y,H1,aU,bF,q⟩=>bM (aI pins s1 σ H1 _ aU q) λhr s2⟨x,ak,bI,bo,a,C,ah,fs,ex,bc,c,n,l,c6⟩=>?_) hs;subst ex;obtain rfl:hr=dO a:=bo;exact ė bI bc c n l bF λs3 c8=>⟨σ,_,c8,c6⟩
theorem asi{pl:Sem Bool}{m:Str}{fg:Pos}{args:List Expr}{pins:List (Addr×Obj)}{s:ax}{σ:St}{H:aa}{Q:Value→ax→Prop}{b7:TE}(he:bJ X e b7)(I:Inv X pins σ H s)(h:b7 σ H λx H1=>∃a C ah fs g,x=.ref a∧H1 a=some (.ins C ah fs)∧d_ X.K C∧Meth X.K C m g∧fs.lookup m=none∧
   ∀s1,Inv X pins σ H1 s1→a4 (bg X.prog X.w) X.A (Ae pos (.ref g) [.ref a] (g0 pos (dM args X.env)) (ku pos (kE [] X.env))) Q X.dA s1)(df:eval (.Call (.Attribute e m fg) args [] pos) X.env=(do
   let hr ←eval e X.env
   tr fg.atName
   let(f,first) ←pV [hr] (xe hr m pl)
   Ae pos f first (g0 pos (dM args X.env)) (ku pos (kE [] X.env)))):
  a4 (bg X.prog X.w) X.A (eval (.Call (.Attribute e m fg) args [] pos) X.env) Q X.dA s:=by refine Eh (pl:=pl) (bM (he pins s σ H _ I h) λu s1⟨x,H1,aU,bo,a,C,ah,fs,g,ex,bc,c,k,l,q⟩=>?_) df;subst ex;obtain rfl:u=dO a:=bo;exact GA aU bc c k l (q s1 aU)
end
section
variable{X:bh}{pins:List (Addr×Obj)}{σ:St}{H:aa}{s:ax}{A:c4}{E:Value→ax→Prop}{Q:Value→ax→Prop}{c:Value}{b:Bool}
inductive kG(K:aS)(H:aa):V→Value→Prop where
 |bD:kG K H .bD (.type "NoneType")
 |aV (x:Bool):kG K H (.aV x) (.type "bool")
 |int (i:Int):kG K H (.int i) (.type "int")
 |str (x:Str):kG K H (.str x) (.type "str")
 |uA (x:UInt64):kG K H (.uA x) (.type "float")
 |lst {a:Addr} {xs:List V} (e:H a=some (.lst xs)):kG K H (.ref a) (.type "list")
 |fH {a:Addr} {o:Obj} {xs:List V} (e:H a=some (.fH o (.lst xs))):kG K H (.ref a) (.type "list")
 |tup {a:Addr} {xs:List V} (e:H a=some (.tup xs)):kG K H (.ref a) (.type "tuple")
 |bX {a:Addr} {kvs:List (bx×V)} (e:H a=some (.bX kvs)):kG K H (.ref a) (.type "dict")
 |eO {a:Addr} {kvs:List (List bx×V)} (e:H a=some (.eO kvs)):kG K H (.ref a) (.type "dict")
 |ins {a C ah:Addr} {fs:List (Str×V)} (e:H a=some (.ins C ah fs)) (cl:d_ K C) (aI:bE K (.ref C) "__class__"=some (some (.builtin "object.__class__")))
   (aw:sg K (.builtin "object.__class__") "__get__"=some (some (.builtin "getset_descriptor.__get__"))) (NW:z8 K (.builtin "object.__class__")=some true)
   (hm:qL K C (.type "object")=some true):kG K H (.ref a) (.ref C)
theorem ß{x:V}{u t:Value}(I:Inv X pins σ H s)(bo:RelV x u)(ty:kG X.K H x t)(e:oi X.K t c=some b)(h:∀aP,Q (.bool b) {s with toks:=aP}):
  a4 (bg X.prog X.w) A (call (.builtin "isinstance") [u,c]) Q E s:=by
 cases ty with
 |bD=>cases(show u=gB from bo);exact ph PySem.W.kitx_none I.eB kR e (λz=>nomatch z) h
 |aV y=>cases(show u=Kn y from bo);exact ph PySem.W.kitx_bool I.eB kR e (λz=>nomatch z) h
 |int i=>obtain⟨t,q⟩:=(show∃t,u=ko i t from bo);cases q;exact ph PySem.W.kitx_int I.eB kR e (λz=>nomatch z) h
 |str y=>obtain⟨t,q⟩:=(show∃t,u=t7 y t from bo);cases q;exact ph PySem.W.kitx_str I.eB kR e (λz=>nomatch z) h
 |uA y=>obtain⟨t,q⟩:=(show∃t,u=WZ y t from bo);cases q;exact ph PySem.W.kitx_float I.eB kR e (λz=>nomatch z) h
 |@lst a xs bc=>
  cases(show u=dO a from bo);obtain⟨_,_,n,_,ai⟩:=(show eo X.prog X.w H s.heap a (.lst xs)from I.bj a _ bc)
  exact ph ac2 I.eB ⟨_,ai,rfl⟩ e (λz=>nomatch z) h
 |@fH a ob xs bc=>
  cases(show u=dO a from bo);obtain⟨_,_,_,n,_,ai⟩:=(show eo X.prog X.w H s.heap a (.fH ob (.lst xs))from I.bj a _ bc)
  exact ph ac2 I.eB ⟨_,ai,rfl⟩ e (λz=>nomatch z) h
 |@tup a xs bc=>
  cases(show u=dO a from bo);obtain⟨_,_,_,p⟩:=(show eo X.prog X.w H s.heap a (.tup xs)from I.bj a _ bc)
  obtain⟨o,ai,aj,_⟩:=p;exact ph PySem.W.kitx_tuple I.eB ⟨o,ai,aj⟩ e (λz=>nomatch z) h
 |@bX a kvs bc=>
  cases(show u=dO a from bo);obtain⟨_,_,vs,_,p⟩:=(show eo X.prog X.w H s.heap a (.bX kvs)from I.bj a _ bc)
  obtain⟨o,es,ep,ai,aj,_⟩:=p;exact ph ac1 I.eB ⟨o,ai,aj.1⟩ e (λz=>nomatch z) h
 |@eO a kvs bc=>
  cases(show u=dO a from bo);obtain⟨_,_,xs,_,o,es,ep,ai,aj,_⟩:=(show eo X.prog X.w H s.heap a (.eO kvs)from I.bj a _ bc)
  exact ph ac1 I.eB ⟨o,ai,aj.1⟩ e (λz=>nomatch z) h
 |@ins a C ah fs bc cl aI aw NW hm=>
  cases(show u=dO a from bo);obtain⟨mA,O,_⟩:=HS I.bj bc;obtain⟨dR,J,_⟩:=O.look;exact ph (PySem.W.kitx_own (cl.get _) cl.hd aI aw NW hm) I.eB J e (λz=>nomatch z) h
end
open PySem PySem.Spec PyProof.Rows
structure fW(k:Nat)(A:c4):Prop where
 hd:A.handled=none
 EO:A.depth+3*k+5<recursionLimit
 un:A.units+16*k+200<cLine
theorem fW.mono{j k:Nat}{A:c4}(r:fW k A)(h:j≤k):fW j A:=⟨r.hd,by have:=r.EO;omega,by have:=r.un;omega⟩
theorem fW.deeper{k:Nat}{A:c4}(r:fW (k+1) A)(env:Env):fW k (A.deeper env):=
 ⟨r.hd,by have:=r.EO;show A.depth+1+3*k+5<_;omega,by have:=r.un;show A.units+3+16*k+200<_;omega⟩
theorem Ę{A:c4}{C:Addr}{us:List Value}{kw:List (Str×Value)}:(A.under (.builtin "type.__call__" ⟨.ref C::us,kw⟩)).depth=A.depth+1:=by
 first|rfl|simp[Tz,Code.weight,Code.isCreation,Code.isGuard,Code.isCaller,Code.frames,Ua,guardIds]
theorem ę{A:c4}{C:Addr}{us:List Value}{kw:List (Str×Value)}:(A.under (.builtin "type.__call__" ⟨.ref C::us,kw⟩)).units=A.units+1:=by
 first|rfl|simp[Tz,Code.cUnits,Code.frames,Ua]
theorem fW.make{k:Nat}{A:c4}(r:fW (k+1) A)(C:Addr)(us:List Value)(kw:List (Str×Value)):fW k (A.under (.builtin "type.__call__" ⟨.ref C::us,kw⟩)):=
 ⟨r.hd,by have:=r.EO;rw[Ę];omega,by have:=r.un;rw[ę];omega⟩
theorem fW.depth{k:Nat}{A:c4}(r:fW k A):A.depth<recursionLimit:=by have:=r.EO;omega
theorem fW.units{k:Nat}{A:c4}(r:fW k A):A.units+64<cLine:=by have:=r.un;omega
noncomputable def Ek:fD:=λ_ H Q=>Q [] H
noncomputable def qa(b3:TE)(nU:fD):fD:=λσ H Q=>b3 σ H λx H1=>nU σ H1 λxs ak=>Q (x::xs) ak
section
variable{X:bh}{e:Expr}{es:List Expr}{b7:TE}{t:fD}{pos:Pos}
theorem aJ:hN X [] Ek:=λ_ _ _ _ H Q I h=>IG ⟨[],H,I,.nil,h⟩
theorem av(aI:bJ X e b7)(au:hN X es t)(hs:dM (e::es) X.env=(false,eval e X.env)::dM es X.env:=by rfl):hN X (e::es) (qa b7 t):=by intro pos pins s σ H Q I h;rw[hs];show a4 _ _ (spliced ((false,eval e X.env)::g0 pos (dM es X.env))) _ _ s;refine yQ (bM (aI pins s σ H _ I h) λu s1⟨x,H1,aU,cJ,bT⟩=>?_);exact bM (au pos pins s1 σ H1 _ aU bT) λus s2⟨xs,ak,bI,dr,c6⟩=>⟨x::xs,ak,bI,.cons cJ dr,c6⟩
noncomputable def ais(t:fD):TE:=λσ H Q=>t σ H λxs H1=>xs.length≤sizeLine∧∀p,H1 p=none→Q (.ref p) (upd H1 p (.tup xs))
noncomputable def ahW(t:fD):TE:=λσ H Q=>t σ H λxs H1=>xs.length≤sizeLine∧∀p,H1 p=none→Q (.ref p) (upd H1 p (.lst xs))
theorem nE{fe}(h:hN X es t):bJ X (.Tuple es fe pos) (ais t):=by intro pins s σ H Q I bb;refine wpAny_Tuple_spliced (bM (h pos pins s σ H _ I bb) λus s1⟨xs,H1,aU,r,z,q⟩=>⟨by rw[←r.length];exact z,?_⟩);have hf:H1 s1.heap.objs.size=none:=aU.bj.fresh (bY _);refine⟨.ref s1.heap.objs.size,upd H1 s1.heap.objs.size (.tup xs),aU.laid (t':=s1.toks) (λb u e=>dJ _ e) (bY _) ?_,rfl,q _ hf⟩;exact⟨z,us,r,⟨_,hg _ rfl,rfl,_,rfl⟩⟩
theorem jI(h:hN X es t):bJ X (.List es pos) (ahW t):=by intro pins s σ H Q I bb;refine wpAny_List_spliced (bM (h pos pins s σ H _ I bb) λus s1⟨xs,H1,aU,r,z,q⟩=>⟨by rw[←r.length];exact z,?_⟩);have hf:H1 s1.heap.objs.size=none:=aU.bj.fresh (bY _);refine⟨.ref s1.heap.objs.size,upd H1 s1.heap.objs.size (.lst xs),aU.laid (t':=s1.toks) (λb u e=>dJ _ e) (bY _) ?_,rfl,q _ hf⟩;exact⟨z,us,0,r,hg _ rfl⟩
end
noncomputable abbrev b8:=List V→aa→a6→b6→Prop
noncomputable abbrev lH:=List Env→aa→ax→b6→Value→ax→Prop
structure tK(P:bL)(w:bC)(K:aS)(mg:Str→Option Value)(base:Heap)(A:c4)(outer:List Env)(s:ax)(H:aa):Prop where
 frames:A.frames=some outer
 mod:Mod K mg base
 bs:∀b o,base.get? b=some o→s.heap.get? b=some o∧H b=none
 pz:base.objs.size≤s.heap.objs.size
 jK:s.heap.FunFrames base outer
 qW:∀b∈eW outer,H b=none
 bj:fp P w H s.heap
 bare:qA s.gens
noncomputable def IE(outer:List Env)(P:bL)(w:bC)(H:aa)(s:ax)(Q:a6)(u:Value)(s':ax):Prop:=
 ∃v U,s'.os=s.os∧qA s'.gens∧hi (eW outer) [] H U s.heap s'.heap∧fp P w U s'.heap∧RelV v u∧Q v U
noncomputable def đ(CX:lH)(outer:List Env)(P:bL)(w:bC)(H:aa)(s:ax)(Q:a6)(E:b6)(r:ot)(s':ax):Prop:=
 match r with
 |.ok (.ret u)=>IE outer P w H s Q u s'
 |.ok _=>False
 |.error e=>CX outer H s E e s'
structure aB(P:bL)(w:bC)(K:aS)(mg:Str→Option Value)(base:Heap)(CX:lH)(k:Nat)(f:Addr)(fd:b5)(ps:List Str)(sp:b8):Prop where
 len:∀vs H Q E,sp vs H Q E→vs.length=ps.length
 run:∀(A:c4)(outer:List Env)(s:ax)(H:aa)(args:Args)(us:List Value)(vs:List V)(Q:a6)(E:b6),fW k A→tK P w K mg base A outer s H→yC s fd args (ps.zip us)→cN vs us→sp vs H Q E→
  jX (bg P w) A (.call (.ref f) args) (đ CX outer P w H s Q E) s
theorem aB.imp{P:bL}{w:bC}{K:aS}{mg:Str→Option Value}{base:Heap}{CX:lH}{k:Nat}{f:Addr}{fd:b5}{ps:List Str}{sp Η:b8}(F:aB P w K mg base CX k f fd ps sp)(h:∀vs H Q E,Η vs H Q E→sp vs H Q E):aB P w K mg base CX k f fd ps Η:=
 ⟨λvs H Q E q=>F.len vs H Q E (h _ _ _ _ q),λA outer s H args us vs Q E au he af bA hs=>F.run A outer s H args us vs Q E au he af bA (h _ _ _ _ hs)⟩
theorem tK.make{P:bL}{w:bC}{K:aS}{mg:Str→Option Value}{base:Heap}{A:c4}{outer:List Env}{s:ax}{H:aa}(e:tK P w K mg base A outer s H)(C:Addr)(us:List Value)(kw:List (Str×Value)):
  tK P w K mg base (A.under (.builtin "type.__call__" ⟨.ref C::us,kw⟩)) outer s H:=⟨by first|exact e.frames|(simpa[Tz,Code.envs,Ua,pushEnvs]using e.frames),e.mod,e.bs,e.pz,e.jK,e.qW,e.bj,e.bare⟩
section
variable{X:bh}{pins:List (Addr×Obj)}{σ:St}{H:aa}{s s':ax}
theorem Inv.EW(I:Inv X pins σ H s):tK X.prog X.w X.K X.mg X.base X.A X.stack s H:=
 ⟨I.ok.frames,I.ok.mod,I.bs,el I.ok.pz I.iq,I.stack,I.HH,I.bj,I.bare⟩
theorem Inv.after{Q:a6}{u:Value}(I:Inv X pins σ H s)(h:IE X.stack X.prog X.w H s Q u s'):hI X pins σ Q u s':=by obtain⟨v,U,os,bare,un,bj,r,q⟩:=h;obtain⟨d9,g,d,t,api⟩:=s';obtain rfl:api=s.os:=os;exact⟨v,U,I.call (h':=d9) (g':=g) (d':=d) (t':=t) (ch:=[]) un bj bare (λb z=>bt z (by simp)),r,q⟩
end
noncomputable def agR(sp:b8)(iB:List V)(E:b6)(t:fD):TE:=λσ H Q=>t σ H λvs H1=>sp (vs++iB) H1 Q E
inductive agS(C:Addr)(m:Str)(x:V)(H1:aa)(R:Prop):Prop where
 |mk (a:_) (ah:_) (fs:_) (bW:x=.ref a) (bG:H1 a=some (.ins C ah fs)) (b4:fs.lookup m=none) (cM:R)
noncomputable def Jk(C:Addr)(m:Str)(sp:b8)(iB:List V)(E:b6)(b3:TE)(t:fD):TE:=λσ H Q=>b3 σ H λx H1=>agS C m x H1 (t σ H1 λvs ak=>sp (x::(vs++iB)) ak Q E)
noncomputable def agT(C:Addr)(sp:b8)(iB:List V)(E:b6)(t:fD):TE:=λσ H Q=>t σ H λvs H1=>∀x ah,H1 x=none→H1 ah=none→ah≠x→
 sp (.ref x::(vs++iB)) (upd (upd H1 ah (.own x)) x (.ins C ah [])) (λv ak=>v=.bD∧Q (.ref x) ak) E
noncomputable def Binds(K:aS)(fd:b5)(ps:List Str)(ds:List Value):Prop:=
 ∀(s:ax)(us:List Value),K.In s.heap→(us++ds).length=ps.length→yC s fd ⟨us,[]⟩ (ps.zip (us++ds))
theorem Binds.all{K:aS}{fd:b5}{ps:List Str}(h:∀us:List Value,us.length=ps.length→bindArgs fd ⟨us,[]⟩=pure (ps.zip us)):Binds K fd ps []:=λs us _ aq=>by rw[kn]at aq⊢;exact .of_eq (h us aq)
noncomputable def nF(CX:lH)(X:bh)(E:b6):Prop:=∀(pins:List (Addr×Obj))(σ:St)(H:aa)(s:ax)(e:Value)(s':ax),Inv X pins σ H s→CX X.stack H s E e s'→X.dA e s'
section
variable{X:bh}{CX:lH}{k:Nat}{f C:Addr}{fd:b5}{ps:List Str}{sp:b8}{iB:List V}{ds:List Value}{E:b6}{x m:Str}{p pos fg:Pos}{e o:Expr}{es:List Expr}{b3:TE}{t:fD}
theorem IH{pins:List (Addr×Obj)}{σ:St}{H:aa}{s:ax}{Q:a6}{us:List Value}{vs:List V}(F:aB X.prog X.w X.K X.mg X.base CX k f fd ps sp)(au:fW k X.A)(af:Binds X.K fd ps ds)(hd:cN iB ds)(ay:nF CX X E)(I:Inv X pins σ H s)(r:cN vs us)(h:sp (vs++iB) H Q E):a4 (bg X.prog X.w) X.A (call (.ref f) us) (hI X pins σ Q) X.dA s:=by
 have dr:cN (vs++iB) (us++ds):=r.append hd;have aq:(us++ds).length=ps.length:=by rw[←dr.length];exact F.len _ _ _ _ h
 refine rI (uj (F.run X.A X.stack s H ⟨us,[]⟩ (us++ds) (vs++iB) Q E au I.EW (af s us I.eB aq) dr h) λr s' bb=>?_);cases r with
 |error e=>exact ay pins σ H s e s' I bb
 |ok er=>
  cases er with
  |ret u=>exact I.after bb
  |next=>exact h3 bb
  |brk=>exact h3 bb
  |cont=>exact h3 bb
theorem ed(F:aB X.prog X.w X.K X.mg X.base CX k f fd ps sp)(au:fW k X.A)(bz:iJ X x)(hm:X.mg x=some (.ref f))(aT:i7 X.K (.ref f)=true)(af:Binds X.K fd ps ds)(hd:cN iB ds)(ay:nF CX X E)(aI:hN X (e::es) t)(jh:(x==("__debug__":Str))=false:=by decide)(he:dM (e::es) X.env=(false,eval e X.env)::dM es X.env:=by rfl)(e6:(g0 pos (dM es X.env)).any (·.1)=false:=by rfl):
  bJ X (.Call (.Name x p) (e::es) [] pos) (agR sp iB E t):=by intro pins s σ H Q I h;refine vz (sV I bz hm ?_ jh);refine Eg (h₀:=X.base) I.ok.mod.sW aT (bM (aI pos pins s σ H _ I h) λus s1⟨vs,H1,aU,r,q⟩=>⟨aU.eB,?_⟩) he e6;exact IH F au af hd ay aU r q
theorem e3{pl:Sem Bool}(he:bJ X o b3)(c:d_ X.K C)(hm:Meth X.K C m f)(F:aB X.prog X.w X.K X.mg X.base CX k f fd ps sp)(au:fW k X.A)(af:Binds X.K fd ps ds)(hd:cN iB ds)(ay:nF CX X E)(aI:hN X (e::es) t)(iE:dM (e::es) X.env=(false,eval e X.env)::dM es X.env:=by rfl)(e6:(g0 pos (dM es X.env)).any (·.1)=false:=by rfl)(df:eval (.Call (.Attribute o m fg) (e::es) [] pos) X.env=(do
   let hr ←eval o X.env
   tr fg.atName
   let(f,first) ←pV [hr] (xe hr m pl)
   Ae pos f first (g0 pos (dM (e::es) X.env)) (ku pos (kE [] X.env))):=by rfl):
  bJ X (.Call (.Attribute o m fg) (e::es) [] pos) (Jk C m sp iB E b3 t):=by intro pins s σ H Q I h;refine Eh (pl:=pl) (bM (he pins s σ H _ I h) λu s1⟨x,H1,aU,bo,a,ah,fs,ex,bc,l,q⟩=>?_) df;subst ex;obtain rfl:u=dO a:=bo;refine GA aU bc c hm l ?_;refine Eg (first:=[.ref a]) (h₀:=X.base) I.ok.mod.sW hm.b0 (bM (aI pos pins s1 σ H1 _ aU q) λus s2⟨vs,ak,bI,r,c6⟩=>⟨bI.eB,?_⟩) iE e6;exact IH (us:=.ref a::us) (vs:=.ref a::vs) F au af hd ay bI (.cons rfl r) c6
theorem pK{pl:Sem Bool}(he:bJ X o b3)(c:d_ X.K C)(hm:Meth X.K C m f)(F:aB X.prog X.w X.K X.mg X.base CX k f fd ps sp)(au:fW k X.A)(af:Binds X.K fd ps ds)(hd:cN iB ds)(ay:nF CX X E)(df:eval (.Call (.Attribute o m fg) [] [] pos) X.env=(do
   let hr ←eval o X.env
   tr fg.atName
   let(f,first) ←pV [hr] (xe hr m pl)
   Ae pos f first (g0 pos (dM [] X.env)) (ku pos (kE [] X.env))):=by rfl):
  bJ X (.Call (.Attribute o m fg) [] [] pos) (Jk C m sp iB E b3 Ek):=by intro pins s σ H Q I h;refine Eh (pl:=pl) (bM (he pins s σ H _ I h) λu s1⟨x,H1,aU,bo,a,ah,fs,ex,bc,l,q⟩=>?_) df;subst ex;obtain rfl:u=dO a:=bo;refine GA aU bc c hm l ?_;exact acV (first:=[.ref a]) aU.eB hm.b0 (IH (us:=[.ref a]) (vs:=[.ref a]) F au af hd ay aU (.cons rfl .nil) q)
structure i6(K:aS)(C f:Addr):Prop where
 makes:oj K C=true
 init:bE K (.ref C) "__init__"=some (some (.ref f))
 fn:ey K (.ref f)=true
 b0:i7 K (.ref C)=true
theorem aaR{pins:List (Addr×Obj)}{σ:St}{H:aa}{s:ax}{Q:a6}{us:List Value}{vs:List V}(M:i6 X.K C f)(F:aB X.prog X.w X.K X.mg X.base CX k f fd ps sp)(au:fW (k+1) X.A)(af:Binds X.K fd ps ds)(hd:cN iB ds)(ay:nF CX X E)(I:Inv X pins σ H s)(r:cN vs us)(h:∀x ah,H x=none→H ah=none→ah≠x→sp (.ref x::(vs++iB)) (upd (upd H ah (.own x)) x (.ins C ah [])) (λv ak=>v=.bD∧Q (.ref x) ak) E):
  a4 (bg X.prog X.w) X.A (call (.ref C) us) (hI X pins σ Q) X.dA s:=by
 have bb:=h (s.heap.objs.size+1) s.heap.objs.size (I.bj.fresh (wF _)) (I.bj.fresh (bY _)) (en (wG _));have bI:=Inv.made (C:=C) I;have dr:cN (V.ref (s.heap.objs.size+1)::(vs++iB)) (dO (s.heap.objs.size+1)::(us++ds)):=.cons rfl (r.append hd);have aq:(dO (s.heap.objs.size+1)::us++ds).length=ps.length:=by have e:=dr.length;rw[F.len _ _ _ _ bb]at e;exact e.symm
 refine rI (aaQ (f:=f) I.eB M.makes M.init (px.mp M.fn) (uj (F.run _ X.stack _ _ ⟨dO (s.heap.objs.size+1)::us,[]⟩ (dO (s.heap.objs.size+1)::(us++ds)) _ _ E (au.make C us [])
  (bI.EW.make C us []) (af _ (dO (s.heap.objs.size+1)::us) bI.eB aq) dr bb) λr s' oD=>?_))
 cases r with
 |error e=>exact ay pins σ _ _ e s' bI oD
 |ok er=>
  cases er with
  |ret u=>
   obtain⟨v,U,c8,cz,ev,g8⟩:=bI.after oD;subst ev;exact⟨cz,⟨V.ref (s.heap.objs.size+1),U,c8,rfl,g8⟩⟩
  |next=>exact h3 oD
  |brk=>exact h3 oD
  |cont=>exact h3 oD
theorem q'(M:i6 X.K C f)(F:aB X.prog X.w X.K X.mg X.base CX k f fd ps sp)(au:fW (k+1) X.A)(bz:iJ X x)(hm:X.mg x=some (.ref C))(af:Binds X.K fd ps ds)(hd:cN iB ds)(ay:nF CX X E)(aI:hN X (e::es) t)(jh:(x==("__debug__":Str))=false:=by decide)(he:dM (e::es) X.env=(false,eval e X.env)::dM es X.env:=by rfl)(e6:(g0 pos (dM es X.env)).any (·.1)=false:=by rfl):
  bJ X (.Call (.Name x p) (e::es) [] pos) (agT C sp iB E t):=by intro pins s σ H Q I h;refine vz (sV I bz hm ?_ jh);refine Eg (h₀:=X.base) I.ok.mod.sW M.b0 (bM (aI pos pins s σ H _ I h) λus s1⟨vs,H1,aU,r,q⟩=>⟨aU.eB,?_⟩) he e6;exact aaR M F au af hd ay aU r q
end
noncomputable def J1(X:bh)(BO:List tT)(t:fD):Prop:=
 ∀(pos:Pos)(pins:List (Addr×Obj))(s:ax)(σ:St)(H:aa)(Q:List V→aa→Prop),Inv X pins σ H s→t σ H Q→a4 (bg X.prog X.w) X.A (evalAll ((ku pos (kE BO X.env)).map (·.2))) (Tp X pins σ Q) X.dA s
section
variable{X:bh}{CX:lH}{k:Nat}{f C:Addr}{fd:b5}{ps gq:List Str}{sp:b8}{E:b6}{x m:Str}{p pos fg an7:Pos}{e o:Expr}{es:List Expr}{BO:List tT}{b7 b3:TE}{t aP:fD}{nm:Option Str}
theorem Vm:J1 X [] Ek:=λ_ _ _ _ H Q I h=>wpAny_evalAll_nil ⟨[],H,I,.nil,h⟩
theorem Uu(aI:bJ X e b7)(au:J1 X BO t):J1 X (⟨nm,e,an7⟩::BO) (qa b7 t):=by intro pos pins s σ H Q I h;show a4 _ _ (evalAll ((do let v ←eval e X.env;tr pos;pure v)::(ku pos (kE BO X.env)).map (·.2))) _ _ s;refine wpAny_evalAll_cons (aR (bM (aI pins s σ H _ I h) λu s1⟨x,H1,aU,cJ,bT⟩=>aR (Ia (bN ?_))));exact bM (au pos pins s1 σ H1 _ aU bT) λus s2⟨xs,ak,bI,dr,c6⟩=>⟨x::xs,ak,bI,.cons cJ dr,c6⟩
variable{g:List Value→List Value→List Value}{asA:List V→List V→List V}
end
structure cT(N P:List Str)(sc:Scope):Prop where
 kind:sc.kind=.function
 co:sc.isCoroutine=false
 gen:sc.isGenerator=false
 aF:N.Nodup
 pre:N.take P.length=P
 par:∀x∈P,sc.names.lookup x=some .local∨sc.names.lookup x=some .cell
 aoU:∀y∈sc.names,y.2≠.free
theorem à{kindOf:Str→Option tW}{x:Str}:∀{binds:List (Str×Value)}{m:Str→Option Value},(∀v,(x,v)∉binds)→uc kindOf binds m x=m x
 |[],_,_=>rfl
 | (n,v)::r,m,h=>by
  unfold uc;rw[à λw hw=>h w (lL _ hw)];split
  .have:x≠n:=by rintro rfl;exact h v r'
   simp[this]
  .rfl
theorem á{kindOf:Str→Option tW}{x:Str}:∀{binds:List (Str×Value)}{m:Str→Option Value},(∀v,(x,v)∉binds)→ub kindOf binds m x=m x
 |[],_,_=>rfl
 | (n,v)::r,m,h=>by
  unfold ub;rw[á λw hw=>h w (lL _ hw)];split
  .rfl
  .have:x≠n:=by rintro rfl;exact h v r'
   simp[this]
theorem â{kindOf:Str→Option tW}{x:Str}{v:Value}:∀{P:List Str}{vs:List Value}{i:Nat}{m:Str→Option Value},P.Nodup→P[i]?=some x→vs[i]?=some v→kindOf x=some .local→
  uc kindOf (P.zip vs) m x=some v
 |[],_,_,_,_,h,_,_=>by simp at h
 |_::_,[],_,_,_,_,h,_=>by simp at h
 |p::P,w::vs,0,m,aF,ai,aj,aT=>by simp at ai aj;subst ai;subst aj;show uc kindOf ((p,w)::P.zip vs) m p=_;unfold uc;rw[à λv bA=>(hL.mp aF).1 (VB bA).1,a8 aT];simp
 |p::P,w::vs,i+1,m,aF,ai,aj,aT=>by show uc kindOf ((p,w)::P.zip vs) m x=_;unfold uc;exact â (i:=i) (hL.mp aF).2 (by simpa using ai) (by simpa using aj) aT
theorem ã{kindOf:Str→Option tW}{x:Str}{v:Value}:∀{P:List Str}{vs:List Value}{i:Nat}{m:Str→Option Value},P.Nodup→P[i]?=some x→vs[i]?=some v→kindOf x≠some .local→
  ub kindOf (P.zip vs) m x=some v
 |[],_,_,_,_,h,_,_=>by simp at h
 |_::_,[],_,_,_,_,h,_=>by simp at h
 |p::P,w::vs,0,m,aF,ai,aj,aT=>by simp at ai aj;subst ai;subst aj;show ub kindOf ((p,w)::P.zip vs) m p=_;unfold ub;rw[á λv bA=>(hL.mp aF).1 (VB bA).1,aX aT];simp
 |p::P,w::vs,i+1,m,aF,ai,aj,aT=>by show ub kindOf ((p,w)::P.zip vs) m x=_;unfold ub;exact ã (i:=i) (hL.mp aF).2 (by simpa using ai) (by simpa using aj) aT
noncomputable def start(N:List Str)(vs:List V):St:=vs.map some++zE (N.length-vs.length) none
noncomputable def jt(CX:lH)(P:bL)(w:bC)(K:aS)(mg:Str→Option Value)(base:Heap)(N:List Str)(qual:Str)(scope:Scope)(f:Addr)(cd:Value)(A:c4)(outer:List Env)(s:ax)(H:aa)(E:b6):bh where
 prog:=P
 w:=w
 K:=K
 mg:=mg
 base:=base
 A:=A.deeper (ni qual scope s.heap.objs.size f cd)
 N:=N
 h1:=s
 n9:=H
 env:=ni qual scope s.heap.objs.size f cd
 outer:=outer
 stack:=ni qual scope s.heap.objs.size f cd::outer
 ex:=[]
 calm:=true
 fn:=λ_=>true
 ef:=[]
 dA:=λe s'=>a4 (bg P w) (A.deeper (ni qual scope s.heap.objs.size f cd)) (leaving (ni qual scope s.heap.objs.size f cd) e) (λ_ QN=>CX outer H s E e QN) (λbR QN=>CX outer H s E bR QN) s'
theorem Tv{sc:Scope}{n:Nat}{x:Str}(h:sc.names.lookup x=some .cell):∃c,(Xr n sc.names []).lookup x=some c:=by have q:=acW sc.names n [] (.inl h);exact tY.mp q
theorem Ś{CX:lH}{P:bL}{w:bC}{K:aS}{mg:Str→Option Value}{base:Heap}{N ps:List Str}{qual:Str}{scope:Scope}{f:Addr}{cd:Value}{A:c4}{outer:List Env}{s s1:ax}{H:aa}{E:b6}{us:List Value}{vs:List V}(S:cT N ps scope)(hd:A.handled=none)(e0:tK P w K mg base A outer s H)(aq:vs.length=ps.length)(r:cN vs us)(x:InCallC s s.heap.objs.size (uc (ni qual scope s.heap.objs.size f cd).kindOf (ps.zip us) λ_=>none) (Xr (s.heap.objs.size+1) scope.names []) (ub (ni qual scope s.heap.objs.size f cd).kindOf (ps.zip us) λ_=>none) s1):
  Inv (jt CX P w K mg base N qual scope f cd A outer s H E) [] (start N vs) H s1:=by
 have e6:ps.length≤N.length:=by have:=iP Jv S.pre;rw[jR]at this;omega
 obtain⟨ai,aP,rfl,aT⟩:=x.done;have B8:∀b:Addr,b∉(jt CX P w K mg base N qual scope f cd A outer s H E).ex:=λb z=>bt (show b∈([]:List Addr)from z) (by simp);refine⟨⟨e0.mod,S.kind,rfl,rfl,bY _,λy z c ai aj=>?_,λy cW=>?_,λy c _ h=>?_,λ_=>hd,Around.frames_deeper e0.frames,.inr ⟨rfl,rfl⟩,λb z=>bt z (B8 b),e0.bs,e0.pz,λb _ _=>B8 b,λb z=>bt z (B8 b),e0.jK,e0.qW⟩,
  rfl,e0.bare,hi.kept aT,⟨_,x.toInCall.ns,λi y v ai aj bk=>?_⟩,λy c h=>⟨_,x.cell y c h⟩,e0.bj.fresh (bY _),λy c h=>?_,λp aW=>bt (show p∈([]:List (Addr×Obj))from aW) (by simp),e0.bj.kept aT,?_⟩
 .exact name_of_addr x.apart (z9 ai) (z9 aj)
 .have cW:scope.names.lookup y=some .cell∨scope.names.lookup y=some .free:=cW;rcases cW with cW|cW
  .exact Tv cW
  .exact bt rfl (S.aoU _ (z9 cW))
 .exact tX (x.above y c (z9 h))
 .have ar:i<vs.length:=by
   unfold start at aj;by_cases ar:i<vs.length
   .exact ar
   .rw[Vu (by simpa using ar)]at aj;rw[List.getElem?_replicate]at aj;split at aj<;>cases aj
  have aI:vs[i]?=some v:=by
   unfold start at aj;rw[List.getElem?_append_left (by simpa using ar),cL]at aj;cases e:vs[i]? with
   |none=>rw[e]at aj;cases aj
   |some a=>rw[e]at aj;cases aj;rfl
  obtain⟨u,cj,cz⟩:=r.get aI;have aW:ps[i]?=some y:=by rw[←S.pre,List.getElem?_take_of_lt (by omega)];exact ai
  have ZJ:ps.Nodup:=by rw[←S.pre];exact S.aF.sublist (JD _ _)
  refine⟨u,cz,?_⟩;rcases S.par y (dY aW)with k|k
  .exact .inl ⟨k,â ZJ aW cj k⟩
  .obtain⟨c,e⟩:=Tv (n:=s.heap.objs.size+1) k;refine .inr ⟨.inl k,c,e,?_⟩;have q:=x.cell y c e;rw[ã ZJ aW cj (by show scope.names.lookup y≠_;rw[k];decide)]at q;exact q
 .exact e0.bj.fresh (tX (x.above y c (z9 h)))
 .unfold start;show _=N.length;rw[fT,a',List.length_replicate];omega
theorem Jl{CX:lH}{P:bL}{w:bC}{K:aS}{mg:Str→Option Value}{base:Heap}{k:Nat}{f:Addr}{name qual:Str}{params:Arguments}{body:List Stmt}{scope:Scope}{EM dz doc pm cdv fG l4:Value}{an dR:Option Addr}{oT:Array (Option Value)}{N ps:List Str}{sp:b8}(lk:K.lookup f=some ⟨l4,dR,.func (wL name qual params body scope EM dz doc pm an cdv fG),oT⟩)(k_:Wn K cdv qual=true)(S:cT N ps scope)(len:∀vs H Q E,sp vs H Q E→vs.length=ps.length)(uJ:∀(A:c4)(outer:List Env)(s:ax)(H:aa)(vs:List V)(Q:a6)(E:b6),fW k (A.deeper (ni qual scope s.heap.objs.size f cdv))→sp vs H Q E→
   ∃t,iK (jt CX P w K mg base N qual scope f cdv A outer s H E) body t∧t {cf:=λ_ U=>Q .bD U,rt:=Q} (start N vs) H):
  aB P w K mg base CX (k+1) f (wL name qual params body scope EM dz doc pm an cdv fG) ps sp:=by
 refine⟨len,λA outer s H args us vs Q E au e0 af r ny=>?_⟩;have aq:=len _ _ _ _ ny;have pa:K.In s.heap:=e0.mod.sW.keeps λb o e=>(e0.bs b o e).1;have lim:s.heap.NoLimit:=e0.mod.nolimit.keeps λb o e=>(e0.bs b o e).1;have q3:∀y∈ps.zip us,scope.names.lookup y.1=some .local∨(scope.names.lookup y.1=some .cell∧((Xr (s.heap.objs.size+1) scope.names []).lookup y.1).isSome=true):=λ⟨n,v⟩cW=>by
  rcases S.par n (VB cW).1 with q|q
  .exact .inl q
  .exact .inr ⟨q,acW _ _ _ (.inl q)⟩
 refine codeAny_call_function au.depth (pa _ _ lk) rfl S.co S.gen rfl (PySem.W.codeRec_of pa k_) (af _ _ _ _ ?_);refine wpAny_newFunctionEnv_cells S.kind q3 λenv he s1 x=>?_;subst he;refine⟨lim.keeps x.toInCall.keep,codeAny_func ?_⟩;obtain⟨t,df,bb⟩:=uJ A outer s H vs Q E (au.deeper _) ny;have I:Inv (jt CX P w K mg base N qual scope f cdv A outer s H E) [] (start N vs) H s1:=Ś S au.hd e0 aq r x;refine gf (df [] s1 (start N vs) H _ I bb) (λer s' hs=>?_) λe s' hs=>hs;have fin:∀{aY:St}{U:aa}{v:V}{u:Value},Inv (jt CX P w K mg base N qual scope f cdv A outer s H E) [] aY U s'→RelV v u→Q v U→IE outer P w H s Q u s':=
  λ{aY U v u}J cz q=>⟨v,U,J.os,J.bare,J.base,J.bj,cz,q⟩
 cases er with
 |ret u=>
  obtain⟨v,aY,U,J,cz,q⟩:=hs;exact fin J cz q
 |next=>
  obtain⟨aY,U,J,q⟩:=hs;exact fin (v:=V.bD) (u:=gB) J rfl q
 |brk=>
  obtain⟨_,_,_,q⟩:=hs;exact h3 q
 |cont=>
  obtain⟨_,_,_,q⟩:=hs;exact h3 q
open PySem PySem.Spec PyProof.Rows
section
variable{X:bh}{x:Str}{p pos:Pos}{e:Expr}{es:List Expr}{t:fD}{id T:String}{r:List V→aa→a6→Prop}
noncomputable def rE(r:List V→aa→a6→Prop)(t:fD):TE:=λσ H Q=>t σ H λvs H1=>r vs H1 Q
theorem d7(aG:j' X (.builtin id) r)(bz:iJ X x)(hm:X.mg x=none)(bA:iw x=some (.builtin id))(aI:hN X (e::es) t)(aw:x≠"__name__":=by decide)(jh:(x==("__debug__":Str))=false:=by decide)(he:dM (e::es) X.env=(false,eval e X.env)::dM es X.env:=by rfl)(e6:(g0 pos (dM es X.env)).any (·.1)=false:=by rfl):bJ X (.Call (.Name x p) (e::es) [] pos) (rE r t):=by intro pins s σ H Q I h;refine vz (vc I bz hm bA ?_ aw jh);exact acH (bM (aI pos pins s σ H _ I h) λus s1⟨vs,H1,aU,cJ,bT⟩=>aG pins s1 σ H1 vs us Q aU cJ bT) he e6
theorem ow(aG:j' X (.type T) r)(bz:iJ X x)(hm:X.mg x=none)(bA:iw x=some (.type T))(aI:hN X (e::es) t)(aw:x≠"__name__":=by decide)(jh:(x==("__debug__":Str))=false:=by decide)(he:dM (e::es) X.env=(false,eval e X.env)::dM es X.env:=by rfl)(e6:(g0 pos (dM es X.env)).any (·.1)=false:=by rfl):bJ X (.Call (.Name x p) (e::es) [] pos) (rE r t):=by intro pins s σ H Q I h;refine vz (vc I bz hm bA ?_ aw jh);exact Wd (bM (aI pos pins s σ H _ I h) λus s1⟨vs,H1,aU,cJ,bT⟩=>aG pins s1 σ H1 vs us Q aU cJ bT) he e6
end
end ag
namespace gu
open PySem PyProof.Rows
noncomputable def lexLt:List Int→List Int→Bool
 |[],[]=>false
 |[],_::_=>true
 |_::_,[]=>false
 |x::xs,y::ys=>if x=y then lexLt xs ys else decide (x<y)
section
open PySem.SeqAt
open PySem.AutoSeq1 (wpAny_loadPart')
open PySem.MeetsSeq PySem.MeetsSeq2 PySem.MeetsSeq3
end
section
variable{prog:bL}{w:bC}{A:c4}{E:Value→ax→Prop}{s:ax}
noncomputable def dG(n d:Nat):Option Int→Nat
 |none=>d
 |some v=>if v<0 then(v+(n:Int)).toNat else min v.toNat n
theorem QX(n d k:Nat):dG n d (some (k:Int))=min k n:=by show(if(k:Int)<0 then((k:Int)+(n:Int)).toNat else min (k:Int).toNat n)=min k n;rw[aX (by omega),m8]
theorem afe(n d:Nat)(hd:d≤n)(o:Option Int):dG n d o≤n:=by
 cases o with
 |none=>exact hd
 |some v=>
  show(if v<0 then(v+(n:Int)).toNat else min v.toNat n)≤n;by_cases bA:v<0
  .rw[a8 bA];omega
  .rw[aX bA];exact JL _ _
theorem Uv(v:Int)(n d:Nat):(if v<0 then max (v+(n:Int)) 0 else min v (n:Int))=((dG n d (some v):Nat):Int):=by
 show(if v<0 then max (v+(n:Int)) 0 else min v (n:Int))=(((if v<0 then(v+(n:Int)).toNat else min v.toNat n):Nat):Int);by_cases bA:v<0
 .simp only[a8 bA];omega
 .simp only[aX bA];omega
theorem Ě(lo ar:Option Int)(n:Nat):T1 lo ar 1 (n:Int)=(((dG n 0 lo:Nat):Int),((dG n n ar:Nat):Int)):=by
 have ai:¬((1:Int)<0):=by omega
 unfold T1;simp only[ai,if_false];refine Prod.ext ?_ ?_
 .cases lo with
  |none=>rfl
  |some v=>exact Uv v n 0
 .cases ar with
  |none=>rfl
  |some v=>exact Uv v n n
theorem ě(i j:Nat):IC (i:Int) (j:Int) 1=j-i:=by
 unfold IC;have ai:(1:Int)>0:=by omega
 simp only[ai,if_true,Int.ediv_one];split<;>omega
theorem É{v:Value}{o:Option Int}{Q:Option Int→ax→Prop}(p:tS v o)(h:Q o s):a4 (bg prog w) A (arL v) Q E s:=by
 cases p with
 |none=>exact ap2 h
 |int i t=>exact slicePart_int h
theorem apR{br:Addr}{kK kL:Value}{lo ar:Option Int}{n:Nat}{Q:Int×Int×Nat→ax→Prop}(hs:s.heap.IsSliceOf br kK kL .none)(pl:tS kK lo)(pu:tS kL ar)(h:Q (((dG n 0 lo:Nat):Int),1,dG n n ar-dG n 0 lo) s):a4 (bg prog w) A (ď (.ref br) (pure (n:Int))) Q E s:=by obtain⟨os,uN,fl,la⟩:=id hs;unfold ď arK;refine aR (aR (Ú uN la (x:=kK) rfl (aR (Ú uN la (x:=kL) rfl (aR (Ú uN la (x:=.none) rfl (bN ?_)))))));refine aR (ap2 ?_);show a4 _ _ (if((1:Int)==0)=true then _ else _) _ _ s;rw[aX (by decide)];refine aR (É pl (aR (É pu (aR (bN ?_)))));show a4 _ _ (match T1 lo ar 1 (n:Int)with|(lo,ar)=>pure (lo,(1:Int),IC lo ar 1)) _ _ s;rw[Ě lo ar n];show a4 _ _ (pure (((dG n 0 lo:Nat):Int),(1:Int),IC ((dG n 0 lo:Nat):Int) ((dG n n ar:Nat):Int) 1)) _ _ s;rw[ě];exact bN h
theorem aaS(xs:Array Value)(i k:Nat):((dt k).filterMap λ(m:Nat)=>xs[((i:Int)+(m:Int)*1).toNat]?).toArray=((xs.toList.drop i).take k).toArray:=by
 have e:(λ(m:Nat)=>xs[((i:Int)+(m:Int)*1).toNat]?)=λm=>xs[i+m]?:=by
  funext m;have:((i:Int)+(m:Int)*1).toNat=i+m:=by omega
  rw[this]
 rw[e];have:=pick_run xs i k;rw[List.filterMap_map]at this;have aE:((λx=>xs[x]?)∘λx=>i+x)=λm=>xs[i+m]?:=rfl;rw[aE]at this;rw[this]
theorem amf{t br:Addr}{items:Array Value}{kK kL:Value}{lo ar:Option Int}{Q:Value→ax→Prop}(df:IsTup s.heap t items)(hs:s.heap.IsSliceOf br kK kL .none)(pl:tS kK lo)(pu:tS kL ar)(hw:¬(dG items.size 0 lo=0∧dG items.size items.size ar=items.size))(h:Q (.ref s.heap.objs.size) {s with heap:=s.heap.push {cls:=.type "tuple",data:=.seq ((items.toList.drop (dG items.size 0 lo)).take (dG items.size items.size ar-dG items.size 0 lo)).toArray}})(hsz:items.size≤sizeLine):a4 (bg prog w) A (uD (.ref t) (.ref br)) Q E s:=by
 have F5:sizeOk (.seq ((items.toList.drop (dG items.size 0 lo)).take (dG items.size items.size ar-dG items.size 0 lo)).toArray):=by show((items.toList.drop (dG items.size 0 lo)).take (dG items.size items.size ar-dG items.size 0 lo)).toArray.size≤sizeLine;rw[gh,jR,abf,DB];omega
 have bq:dG items.size items.size ar≤items.size:=afe _ _ (bY _) ar;obtain⟨os,uN,fl,la⟩:=id hs;have amy:s.TypeIs (.ref br) "slice":=⟨os,uN,fl⟩
 unfold uD
 try with_reducible refine lF ?_
 first|refine aR (bN ?_)|skip
 refine aR (wpAny_sequenceKey df.typeIs (by decide) ?_);refine aR (Ô (name:=gA "__getitem__") df.typeIs Wf
  (vA Wf df.typeIs entry_tuple_getitem ?_ (args_tuple_getitem _ _)))
 show a4 _ _ (arM (.ref t) >>=_) _ _ s;refine aR (tupleItemsOf_ df ?_);refine aR (wpAny_typeOf amy ?_);rw[a8 (by decide)];refine aR (apR hs pl pu ?_);have lg:¬((((dG items.size 0 lo:Nat):Int)==0&&(1:Int)==1&&(dG items.size items.size ar-dG items.size 0 lo)==items.size)=true):=by intro q;rw[hG,hG]at q;have bT:((dG items.size 0 lo:Nat):Int)=0:=eq_of_beq q.1.1;have c6:dG items.size items.size ar-dG items.size 0 lo=items.size:=eq_of_beq q.2;exact hw ⟨by omega,by omega⟩
 show a4 _ _ (if(((dG items.size 0 lo:Nat):Int)==0&&(1:Int)==1&&(dG items.size items.size ar-dG items.size 0 lo)==items.size)=true then _ else _) _ _ s;rw[aX lg,aaS]
 first
  |exact aR (m:=ID _) (qu (bN ⟨_,rfl,bN h⟩) F5)
  |exact aR (m:=ID _) (qu (aR (bN (bN ⟨_,rfl,bN h⟩))) F5)
  |exact aR (aR (m:=ID _) (qu (bN (bN ⟨_,rfl,bN h⟩)) F5))
  |exact aR (aR (m:=ID _) (qu (bN ⟨_,rfl,bN h⟩) F5))
end
end gu
namespace ag
open PySem PySem.Spec PyProof.Rows
noncomputable abbrev t6:=St→aa→(Option Int→aa→Prop)→Prop
noncomputable def Ee(X:bh)(e:Option Expr)(t:t6):Prop:=
 ∀(pins:List (Addr×Obj))(s:ax)(σ:St)(H:aa)(Q:Option Int→aa→Prop),Inv X pins σ H s→t σ H Q→
  a4 (bg X.prog X.w) X.A (evalPart e X.env) (λu s'=>∃o U,Inv X pins σ U s'∧tS u o∧Q o U) X.dA s
noncomputable def adG:t6:=λ_ H Q=>Q none H
noncomputable def agU(t:TE):t6:=λσ H Q=>t σ H λx H1=>∃i,x=.int i∧Q (some i) H1
section
variable{X:bh}{e:Expr}{b7:TE}{lo ar:Option Expr}{c0 tu:t6}{pos e8:Pos}
theorem SE:Ee X none adG:=by intro pins s σ H Q I h;rw[evalPart_none];exact bN ⟨none,H,I,.none,h⟩
theorem Cs(h:bJ X e b7):Ee X (some e) (agU b7):=by intro pins s σ H Q I hw;rw[evalPart_some];refine bM (h pins s σ H _ I hw) λu s1⟨x,H1,aU,cJ,bT⟩=>?_;obtain⟨i,rfl,q⟩:=bT;obtain⟨t,rfl⟩:=cJ;exact⟨some i,H1,aU,.int i t,q⟩
noncomputable def J'(X:bh)(r:V→Option Int→Option Int→aa→a6→Prop):Prop:=
 ∀(pins:List (Addr×Obj))(s:ax)(σ:St)(H:aa)(x:V)(v kK kL:Value)(lo ar:Option Int)(br:Addr)(Q:a6),Inv X pins σ H s→RelV x v→s.heap.IsSliceOf br kK kL .none→tS kK lo→tS kL ar→r x lo ar H Q→
  ∃T id,typeLookup (.type T) "__getitem__"=pure (some (.builtin id))∧s.TypeIs v T∧a4 (bg X.prog X.w) X.A (uD v (.ref br)) (hI X pins σ Q) X.dA s
noncomputable def aqq(r:V→Option Int→Option Int→aa→a6→Prop)(b7:TE)(c0 tu:t6):TE:=λσ H Q=>b7 σ H λx H1=>c0 σ H1 λl ak=>tu σ ak λu bp=>r x l u bp Q
theorem Hm{r:V→Option Int→Option Int→aa→a6→Prop}(au:J' X r)(he:bJ X e b7)(aq:Ee X lo c0)(cj:Ee X ar tu):bJ X (.Subscript e (.Slice lo ar none e8) pos) (aqq r b7 c0 tu):=by intro pins s σ H Q I h;refine WH (bM (he pins s σ H _ I h) λv s1⟨x,H1,aU,cJ,bT⟩=>?_);refine wpAny_Slice (bM (aq pins s1 σ H1 _ aU bT) λkK s2⟨l,ak,bI,pl,c6⟩=>bM (cj pins s2 σ ak _ bI c6) λkL s3⟨u,bp,c8,pu,g8⟩=>?_);rw[evalPart_none];refine bN ?_;have i2:Inv X pins σ bp {s3 with heap:=s3.heap.push {cls:=.type "slice",data:=.fields #[kK,kL,.none]}}:=c8.kept (t':=s3.toks) λb ob q=>dJ _ q;obtain⟨T,id,q0,df,bz⟩:=au pins {s3 with heap:=s3.heap.push {cls:=.type "slice",data:=.fields #[kK,kL,.none]}} σ bp x v kK kL l u s3.heap.objs.size Q i2 cJ (Heap.IsSliceOf.new ..) pl pu g8;show a4 (bg X.prog X.w) X.A (Λ e (.Slice lo ar none e8) v (.ref s3.heap.objs.size)) (hI X pins σ Q) X.dA {s3 with heap:=s3.heap.push {cls:=.type "slice",data:=.fields #[kK,kL,.none]}};exact tail_any (ops:=[.ref s3.heap.objs.size,v]) df q0 bz (by with_unfolding_all rfl)
noncomputable def oZ(xs:List V)(lo ar:Option Int):List V:=(xs.drop (gu.dG xs.length 0 lo)).take (gu.dG xs.length xs.length ar-gu.dG xs.length 0 lo)
theorem ul(xs:List V)(lo ar:Option Int):(oZ xs lo ar).length≤xs.length:=by unfold oZ;rw[jR,abf];omega
inductive agV(K:aS)(x:V)(lo:(Option Int))(ar:(Option Int))(H:aa)(Q:a6):Prop where
 |mk (a:_) (xs:_) (bW:x=.ref a) (bG:b1 K H a xs) (b4:¬(gu.dG xs.length 0 lo=0∧gu.dG xs.length xs.length ar=xs.length)) (cM:∀p,H p=none→Q (.ref p) (upd H p (.tup (oZ xs lo ar))))
noncomputable def ahX(K:aS):V→Option Int→Option Int→aa→a6→Prop:=λx lo ar H Q=>agV K x lo ar H Q
theorem Vn:J' X (ahX X.K):=by
 intro pins s σ H x v kK kL lo ar br Q I bo hs pl pu h;obtain⟨a,xs,rfl,ay,hw,q⟩:=h;cases bo;obtain⟨its,r,df,bB⟩:=I.tuple ay;have hlen:its.toArray.size=xs.length:=by rw[gh];exact r.length.symm
 refine⟨"tuple",_,Wf.lookup,df.typeIs,?_⟩;refine gu.amf df hs pl pu (by rw[hlen];exact hw) ?_ (by rw[hlen];exact bB);rw[hlen];refine⟨.ref s.heap.objs.size,_,I.laid (t':=s.toks) (o:=.tup (oZ xs lo ar)) (λb ob q=>dJ _ q) (bY _) ?_,rfl,q _ (I.bj.fresh (bY _))⟩;exact⟨el (ul xs lo ar) bB,_,(r.drop (gu.dG xs.length 0 lo)).take (gu.dG xs.length xs.length ar-gu.dG xs.length 0 lo),IsTup.new _ _⟩
end
open PySem PySem.Spec PyProof.Rows
noncomputable def p0(n:Nat)(i:Int):Option Nat:=if 0≤i then(if i<n then some i.toNat else none)else if -(n:Int)≤i then some (i+n).toNat else none
noncomputable def gj{α:Type}(xs:List α)(i:Int):Option α:=(p0 xs.length i).bind λj=>xs[j]?
theorem adH{n:Nat}{i:Int}{j:Nat}(h:p0 n i=some j):seqIndex? i n=some j∧j<n∧-(n:Int)≤i∧i<n:=by
 unfold p0 at h;by_cases h0:0≤i
 .rw[a8 h0]at h;by_cases ai:i<n
  .rw[a8 ai]at h;have e:i.toNat=j:=hM h;exact⟨by rw[seqIndex_of h0 ai,e],by omega,by omega,ai⟩
  .rw[aX ai]at h;cases h
 .rw[aX h0]at h;by_cases ai:-(n:Int)≤i
  .rw[a8 ai]at h;have e:(i+n).toNat=j:=hM h;exact⟨by rw[seqIndex_neg (by omega) ai,e],by omega,ai,by omega⟩
  .rw[aX ai]at h;cases h
theorem SF{α:Type}{xs:List α}{i:Int}{v:α}(h:gj xs i=some v):∃j,seqIndex? i xs.length=some j∧xs[j]?=some v∧j<xs.length∧-(xs.length:Int)≤i∧i<xs.length:=by
 unfold gj at h;cases e:p0 xs.length i with
 |none=>rw[e]at h;cases h
 |some j=>
  rw[e]at h;obtain⟨ai,aj,bk,cv⟩:=adH e;exact⟨j,ai,h,aj,bk,cv⟩
theorem ja{α:Type}{xs:List α}{j:Nat}{v:α}(h:xs[j]?=some v):gj xs (j:Int)=some v:=by
 have bq:j<xs.length:=(eR.mp h).1;have e:p0 xs.length (j:Int)=some j:=by unfold p0;rw[a8 (by omega),a8 (by omega)];simp
 unfold gj;rw[e];exact h
theorem Tw{α:Type}(xs:List α)(v:α):gj (xs++[v]) (-1)=some v:=by
 have aq:(xs++[v]).length=xs.length+1:=by simp
 have e:p0 (xs++[v]).length (-1)=some xs.length:=by unfold p0;rw[aq,aX (by decide),a8 (by omega)];congr 1;omega
 unfold gj;rw[e];show(xs++[v])[xs.length]?=some v;simp
noncomputable def adI(b:Expr):Prop:=∀o i,Rj b false o i=operate [o,i] (uD o i)
noncomputable def wk(X:bh)(r:iu):Prop:=
 ∀(value slice:Expr)(pins:List (Addr×Obj))(s:ax)(σ:St)(H:aa)(x y:V)(v u:Value)(Q:a6),Inv X pins σ H s→RelV x v→RelV y u→r x y H Q→
  Rj slice false v u=operate [v,u] (uD v u)→a4 (bg X.prog X.w) X.A (Λ value slice v u) (hI X pins σ Q) X.dA s
noncomputable def abU(X:bh)(id:String)(r:V→List V→aa→a6→Prop):Prop:=
 ∀(pins:List (Addr×Obj))(s:ax)(σ:St)(H:aa)(x:V)(xs:List V)(v:Value)(us:List Value)(Q:a6),Inv X pins σ H s→RelV x v→cN xs us→r x xs H Q→
  a4 (bg X.prog X.w) X.A (call (.builtin id) (v::us)) (hI X pins σ Q) X.dA s
section
variable{X:bh}{a b:Expr}{b3 c7:TE}{pos:Pos}
theorem b_{r:iu}(au:wk X r)(aI:bJ X a b3)(af:bJ X b c7)(hs:adI b):bJ X (.Subscript a b pos) (HK r b3 c7):=by intro pins s σ H Q I h;exact WH (Kb aI af I h λv u s2 x y ak bI bo bF q=>au a b pins s2 σ ak x y v u Q bI bo bF q (hs _ _))
inductive agW(K:aS)(x:ag.V)(y:ag.V)(H:aa)(Q:a6):Prop where
 |mk (p:_) (xs:_) (i:_) (v:_) (bW:x=.ref p) (bG:y=.int i) (b4:aO K H p xs) (cM:gj xs i=some v) (d3:Q v H)
noncomputable def W9(K:aS):iu:=λx y H Q=>agW K x y H Q
inductive agX(K:aS)(x:ag.V)(y:ag.V)(H:aa)(Q:a6):Prop where
 |mk (p:_) (xs:_) (i:_) (v:_) (bW:x=.ref p) (bG:y=.int i) (b4:b1 K H p xs) (cM:gj xs i=some v) (d3:Q v H)
noncomputable def W'(K:aS):iu:=λx y H Q=>agX K x y H Q
inductive agY(x:ag.V)(y:ag.V)(H:aa)(Q:a6):Prop where
 |mk (z:_) (i:_) (c:_) (bW:x=.str z) (bG:y=.int i) (b4:z.length≤sizeLine) (cM:gj z.cps.toList i=some c) (d3:Q (.str ⟨#[c]⟩) H)
noncomputable def ahY:iu:=λx y H Q=>agY x y H Q
theorem h9:wk X (W9 X.K):=by
 intro value slice pins s σ H x y v u Q I bo bF h hs;obtain⟨p,xs,i,z,rfl,rfl,bb,he,q⟩:=h;cases bo;obtain⟨t,rfl⟩:=bF;obtain⟨its,r,pl,bB⟩:=I.list bb;obtain⟨j,ai,aj,bk,cv,dW⟩:=SF he;obtain⟨w,EX,hZ⟩:=r.get aj;have aq:=r.length;have aw:=x3;have fin:hI X pins σ Q w s:=⟨z,H,I,hZ,q⟩
 by_cases h0:0≤i
 .have bq:i.toNat=j:=by rw[seqIndex_of h0 dW]at ai;exact hM ai
  exact item_listR pl.isList h0 (by omega) (by rw[bq];simpa using EX) fin hs
 .have bq:(i+(its.toArray.size:Int)).toNat=j:=by rw[seqIndex_neg (by omega) cv]at ai;rw[gh,←aq];exact hM ai
  exact aqa (x:=w) pl.isList.typeIs ap3.lookup
   (wpAny_getItem_list_neg (Q:=λr s'=>r=w∧hI X pins σ Q r s') pl.isList (by omega) (by rw[gh]<;>omega) (by omega) (by rw[bq];simpa using EX) ⟨rfl,fin⟩) hs
theorem dE:wk X (W' X.K):=by
 intro value slice pins s σ H x y v u Q I bo bF h hs;obtain⟨p,xs,i,z,rfl,rfl,bb,he,q⟩:=h;cases bo;obtain⟨t,rfl⟩:=bF;obtain⟨its,r,pl,bB⟩:=I.tuple bb;obtain⟨j,ai,aj,bk,cv,dW⟩:=SF he;obtain⟨w,EX,hZ⟩:=r.get aj;have aq:=r.length;have aw:=x3;have fin:hI X pins σ Q w s:=⟨z,H,I,hZ,q⟩
 exact aqa (x:=w) pl.typeIs slot_tuple_getitem.lookup
  (getItem_tuple (j:=j) (Q:=λr s'=>r=w∧hI X pins σ Q r s') pl (by omega) (by omega) (by rw[gh,←aq];exact ai) (by simpa using EX) ⟨rfl,fin⟩) hs
theorem aff:wk X ahY:=by
 intro value slice pins s σ H x y v u Q I bo bF h hs;obtain⟨z,i,c,rfl,rfl,bB,he,q⟩:=h;obtain⟨t,rfl⟩:=bo;obtain⟨t',rfl⟩:=bF;obtain⟨j,ai,aj,bk,cv,dW⟩:=SF he;have aq:z.cps.toList.length=z.length:=by simp[Str.length]
 rw[aq]at ai cv dW;have aw:=x3;exact tail_any (typeIs_str s z t) slot_str_getitem.lookup (getItem_str (c:=c) (by
  have az:decide (i < -(2 ^ 63:Int))=false:=dP (by omega);have aE:decide (i≥2 ^ 63)=false:=dP (by omega);rw[az,aE,Bool.or_false]) (by rw[ai];simpa using aj) ⟨.str ⟨#[c]⟩,H,I.tok _,⟨_,rfl⟩,q⟩) hs
theorem arp(lo ar:Option Int)(n:Nat):(x' lo ar none n).1=((gu.dG n 0 lo:Nat):Int)∧(x' lo ar none n).2.1=((gu.dG n n ar:Nat):Int)∧(x' lo ar none n).2.2=1:=by
 refine⟨?_,?_,rfl⟩
 .cases lo with
  |none=>simp[x',gu.dG]
  |some i=>
   simp only[x',gu.dG,V8,show(1:Int)>0 by decide,if_true];by_cases h:i<0
   .simp only[h,if_true]<;>omega
   .simp only[h,if_false]<;>omega
 .cases ar with
  |none=>simp[x',gu.dG]
  |some i=>
   simp only[x',gu.dG,V8,show(1:Int)>0 by decide,if_true];by_cases h:i<0
   .simp only[h,if_true]<;>omega
   .simp only[h,if_false]<;>omega
theorem aqQ(its:List Value)(lo ar:Option Int):slicePick its.toArray lo ar none=((its.drop (gu.dG its.length 0 lo)).take (gu.dG its.length its.length ar-gu.dG its.length 0 lo)).toArray:=by obtain⟨ai,aj,bk⟩:=arp lo ar its.toArray.size;unfold slicePick;rw[ai,aj,bk];simp only[sliceRange_one,pick_run,gh]<;>rfl
inductive agZ(K:aS)(x:V)(lo:(Option Int))(ar:(Option Int))(H:aa)(Q:a6):Prop where
 |mk (a:_) (xs:_) (bW:x=.ref a) (bG:aO K H a xs) (b4:∀p,H p=none→Q (.ref p) (upd H p (.lst (oZ xs lo ar))))
noncomputable def ahZ(K:aS):V→Option Int→Option Int→aa→a6→Prop:=λx lo ar H Q=>agZ K x lo ar H Q
theorem Uw:J' X (ahZ X.K):=by intro pins s σ H x v kK kL lo ar br Q I bo hs pl pu h;obtain⟨a,xs,rfl,ay,q⟩:=h;cases bo;obtain⟨its,r,df,bB⟩:=I.list ay;have hlen:=r.length;refine⟨"list",_,ap3.lookup,df.isList.typeIs,?_⟩;refine wpAny_getItem_list_slice df.isList hs pl pu .none (by simp) ?_ (by rw[gh]<;>omega);rw[aqQ,←hlen];refine⟨.ref s.heap.objs.size,_,I.laid (t':=s.toks) (o:=.lst (oZ xs lo ar)) (λb ob q=>dJ _ q) (bY _) ?_,rfl,q _ (I.bj.fresh (bY _))⟩;exact⟨el (ul xs lo ar) bB,_,0,(r.drop (gu.dG xs.length 0 lo)).take (gu.dG xs.length xs.length ar-gu.dG xs.length 0 lo),hg _ rfl⟩
noncomputable def qb:V→Bool
 |.bD=>true
 |.aV _=>true
 |.int _=>true
 |.str _=>true
 |_=>false
noncomputable def sE:V→V→Bool
 |.bD,.bD=>true
 |.aV a,.aV b=>a==b
 |.aV a,.int b=>(if a then 1 else 0)==b
 |.int a,.aV b=>a==(if b then 1 else 0)
 |.int a,.int b=>a==b
 |.str a,.str b=>a==b
 |_,_=>false
theorem afg{A:c4}{s:ax}{y x:V}{u v:Value}(bF:RelV y u)(bo:RelV x v)(amb:qb y=true)(mv:qb x=true):aeE A s u v (sE y x):=by
 cases y with
 |bD=>
  cases bF;cases x with
  |bD=>cases bo;exact SeqAt.EqAt.same _
  |aV b=>cases bo;exact SeqAt.EqAt.none_bool b
  |int b=>obtain⟨t,rfl⟩:=bo;exact SeqAt.EqAt.none_int b t
  |str b=>obtain⟨t,rfl⟩:=bo;exact SeqAt.EqAt.none_str b t
  |_=>exact bt (show false=true from mv) fL
 |aV a=>
  cases bF;cases x with
  |bD=>cases bo;exact SeqAt.EqAt.bool_none a
  |aV b=>cases bo;exact SeqAt.EqAt.bool_bool a b
  |int b=>obtain⟨t,rfl⟩:=bo;exact SeqAt.EqAt.bool_int a b t
  |str b=>obtain⟨t,rfl⟩:=bo;exact SeqAt.EqAt.bool_str a b t
  |_=>exact bt (show false=true from mv) fL
 |int a=>
  obtain⟨t',rfl⟩:=bF;cases x with
  |bD=>cases bo;exact SeqAt.EqAt.int_none a t'
  |aV b=>cases bo;exact SeqAt.EqAt.int_bool a t' b
  |int b=>obtain⟨t,rfl⟩:=bo;exact SeqAt.EqAt.int_int a t' b t
  |str b=>obtain⟨t,rfl⟩:=bo;exact aeF a t' b t
  |_=>exact bt (show false=true from mv) fL
 |str a=>
  obtain⟨t',rfl⟩:=bF;cases x with
  |bD=>cases bo;exact SeqAt.EqAt.str_none a t'
  |aV b=>cases bo;exact SeqAt.EqAt.str_bool a t' b
  |int b=>obtain⟨t,rfl⟩:=bo;exact aeG a t' b t
  |str b=>obtain⟨t,rfl⟩:=bo;exact SeqAt.EqAt.str_str a t' b t
  |_=>exact bt (show false=true from mv) fL
 |_=>exact bt (show false=true from amb) fL
noncomputable def k6(x:V)(u:Value):Bool:=match u with
 |.none=>sE .bD x
 |.bool b=>sE (.aV b) x
 |.int i _=>sE (.int i) x
 |.str z _=>sE (.str z) x
 |_=>false
theorem Vc{x y:V}{u:Value}(r:RelV y u)(f:qb y=true):k6 x u=sE y x:=by
 cases y with
 |bD=>cases r;rfl
 |aV b=>cases r;rfl
 |int i=>obtain⟨t,rfl⟩:=r;rfl
 |str z=>obtain⟨t,rfl⟩:=r;rfl
 |_=>exact bt (show false=true from f) fL
theorem Ct{x:V}:∀{xs:List V}{us:List Value},cN xs us→xs.all qb=true→us.any (k6 x)=xs.any λy=>sE y x
 |_,_,.nil,_=>rfl
 |y::xs,u::us,.cons r t,f=>by rw[aa2,hG]at f;rw[DZ,DZ,Vc r f.1,Ct t f.2]
theorem Cf{A:c4}{s:ax}{x:V}{v:Value}(bo:RelV x v)(mv:qb x=true):∀{xs:List V}{us:List Value},cN xs us→xs.all qb=true→∀u∈us,aeE A s u v (k6 x u)
 |_,_,.nil,_=>λu cj=>by cases cj
 |y::xs,u::us,.cons r t,f=>λu' cj=>by
  rw[aa2,hG]at f;rcases dx.mp cj with rfl|cj
  .rw[Vc r f.1];exact afg r bo f.1 mv
  .exact Cf bo mv t f.2 u' cj
noncomputable def pZ(x:V)(xs:List V):Bool:=xs.any λy=>sE y x
inductive ah0(K:aS)(neg:Bool)(x:ag.V)(y:ag.V)(H:aa)(Q:a6):Prop where
 |mk (p:_) (xs:_) (bW:y=.ref p) (bG:(aO K H p xs∨b1 K H p xs)) (b4:qb x=true) (cM:xs.all qb=true) (d3:Q (.aV (if neg then !pZ x xs else pZ x xs)) H)
noncomputable def ξ(K:aS)(neg:Bool):iu:=λx y H Q=>ah0 K neg x y H Q
theorem QY:fZ X (hQ .In) (ξ X.K false):=by
 intro pins s σ H x y v u Q I bo bF h;obtain⟨p,xs,rfl,bb,mv,fs,q⟩:=h;cases bF;rcases bb with bb|bb
 .obtain⟨its,r,pl,bB⟩:=I.list bb;refine SeqAt.in_listAt (k6 x) pl.isList (λw hw=>Cf bo mv r fs w (by simpa using hw)) ⟨.aV _,H,I,rfl,?_⟩;rw[show its.toArray.any (k6 x)=its.any (k6 x) by simp,Ct r fs];exact q
 .obtain⟨its,r,pl,bB⟩:=I.tuple bb;refine SeqAt.in_tupleAt (k6 x) pl (λw hw=>Cf bo mv r fs w (by simpa using hw)) ⟨.aV _,H,I,rfl,?_⟩;rw[show its.toArray.any (k6 x)=its.any (k6 x) by simp,Ct r fs];exact q
theorem θ:fZ X (hQ .NotIn) (ξ X.K true):=by
 intro pins s σ H x y v u Q I bo bF h;obtain⟨p,xs,rfl,bb,mv,fs,q⟩:=h;cases bF;rcases bb with bb|bb
 .obtain⟨its,r,pl,bB⟩:=I.list bb;refine SeqAt.notIn_listAt (k6 x) pl.isList (λw hw=>Cf bo mv r fs w (by simpa using hw)) ⟨.aV _,H,I,rfl,?_⟩;rw[show its.toArray.any (k6 x)=its.any (k6 x) by simp,Ct r fs];exact q
 .obtain⟨its,r,pl,bB⟩:=I.tuple bb;refine SeqAt.notIn_tupleAt (k6 x) pl (λw hw=>Cf bo mv r fs w (by simpa using hw)) ⟨.aV _,H,I,rfl,?_⟩;rw[show its.toArray.any (k6 x)=its.any (k6 x) by simp,Ct r fs];exact q
inductive ah1(K:aS)(xs:List V)(H:aa)(Q:a6):Prop where
 |mk (p:_) (ys:_) (bW:xs=[.ref p]) (bG:(aO K H p ys∨b1 K H p ys)) (b4:Q (.int ys.length) H)
theorem h6:j' X (.builtin "len") (ah1 X.K):=by
 intro pins s σ H xs us Q I r h;obtain⟨p,ys,rfl,bb,q⟩:=h;obtain⟨u,rfl,bo⟩:=vals1 r;cases bo;have aw:=x3;rcases bb with bb|bb
 .obtain⟨its,cE,pl,bB⟩:=I.list bb;have hlen:=cE.length;exact Calls.call_len_list pl.isList (by simp only[gh]<;>omega) ⟨.int ys.length,H,I.tok _,⟨s.toks+1,by rw[gh,hlen]⟩,q⟩
 .obtain⟨its,cE,pl,bB⟩:=I.tuple bb;have hlen:=cE.length;exact len_tuple pl (by simp only[gh]<;>omega) ⟨.int ys.length,H,I.tok _,⟨s.toks+1,by rw[gh,hlen]⟩,q⟩
theorem arq:j' X (.builtin "len") (λxs H Q=>∃z,xs=[.str z]∧z.length≤sizeLine∧Q (.int z.length) H):=by intro pins s σ H xs us Q I r h;obtain⟨z,rfl,bB,q⟩:=h;obtain⟨u,rfl,t,rfl⟩:=vals1 r;have aw:=x3;exact len_str (by omega) ⟨.int z.length,H,I.tok _,⟨_,rfl⟩,q⟩
theorem sx:j' X (.type "list") (λxs H Q=>∃p ys,xs=[.ref p]∧(aO X.K H p ys∨b1 X.K H p ys)∧∀l,H l=none→Q (.ref l) (upd H l (.lst ys))):=by
 intro pins s σ H xs us Q I r h;obtain⟨p,ys,rfl,bb,q⟩:=h;obtain⟨u,rfl,bo⟩:=vals1 r;cases bo;have fin:∀(its:List Value),cN ys its→ys.length≤sizeLine→∀(h':Heap)(lQ:Nat),(∀b cD,s.heap.get? b=some cD→h'.get? b=some cD)→
   h'.get? s.heap.objs.size=some {cls:=.type "list",dict:=none,data:=.seq its.toArray lQ,slots:=#[]}→hI X pins σ Q (.ref s.heap.objs.size) {s with heap:=h'}:=λits cE bB h' lQ b0 e=>
  ⟨.ref s.heap.objs.size,_,I.laid (t':=s.toks) b0 (bY _) (show eo X.prog X.w _ h' _ (.lst ys)from⟨bB,its,lQ,cE,e⟩),rfl,q _ (I.bj.fresh (bY _))⟩
 rcases bb with bb|bb
 .obtain⟨its,cE,pl,bB⟩:=I.list bb;have hlen:=cE.length;obtain⟨o,bw,aG,n,hd⟩:=pl.isList;exact call_list_seq p (.inl rfl) bw aG hd (λh' lQ b0 e=>fin its cE bB h' lQ b0 e) (by simp only[gh]<;>omega)
 .obtain⟨its,cE,pl,bB⟩:=I.tuple bb;have hlen:=cE.length;obtain⟨o,bw,aG,n,hd⟩:=pl;exact call_list_seq p (.inr rfl) bw aG hd (λh' lQ b0 e=>fin its cE bB h' lQ b0 e) (by simp only[gh]<;>omega)
theorem aqR:j' X (.type "tuple") (λxs H Q=>∃p ys,xs=[.ref p]∧((aO X.K H p ys∧∀l,H l=none→Q (.ref l) (upd H l (.tup ys)))∨(b1 X.K H p ys∧Q (.ref p) H))):=by
 intro pins s σ H xs us Q I r h;obtain⟨p,ys,rfl,h⟩:=h;obtain⟨u,rfl,bo⟩:=vals1 r;cases bo;rcases h with⟨bb,q⟩|⟨bb,q⟩
 .obtain⟨its,cE,pl,bB⟩:=I.list bb;have hlen:=cE.length;refine call_tuple_list pl.isList (λh' b0=>?_) (by simp only[gh]<;>omega);have aU:Inv X pins σ H {s with heap:=h'}:=I.kept (t':=s.toks) b0;have bI:Inv X pins σ (upd H h'.objs.size (.tup ys)) {s with heap:=h'.push {cls:=.type "tuple",data:=.seq its.toArray}}:=
   aU.laid (t':=s.toks) (λb o e=>dJ _ e) (bY _) (show eo X.prog X.w _ _ _ (.tup ys)from⟨bB,its,cE,IsTup.new _ _⟩)
  exact⟨.ref h'.objs.size,_,bI,rfl,q _ (aU.bj.fresh (bY _))⟩
 .obtain⟨its,cE,pl,bB⟩:=I.tuple bb;exact call_tuple_same pl ⟨.ref p,H,I,rfl,q⟩
noncomputable def Ω(K:aS)(T:String)(x:V)(H:aa):Prop:=match x with
 |.str _=>T="str"
 |.int _=>T="int"
 |.ref p=>(T="list"∧∃xs,aO K H p xs)∨(T="tuple"∧∃o,K.lookup p=some o∧o.cls=.type "tuple"∧o.dict=none)∨
   (T="dict"∧((∃kvs,H p=some (.bX kvs))∨∃kvs,H p=some (.eO kvs)))∨(T="set"∧∃S n,H p=some (.set S n))
 |_=>False
theorem afh{pins:List (Addr×Obj)}{σ:St}{H:aa}{s:ax}{T:String}{x:V}{v:Value}(I:Inv X pins σ H s)(r:RelV x v)(ty:Ω X.K T x H):
  s.TypeIs v T∧∀a,v=.ref a→∃ob,s.heap.get? a=some ob∧ob.dict=none:=by
 cases x with
 |str z=>
  obtain⟨t,rfl⟩:=r;cases(show T="str" from ty);exact⟨typeIs_str s z t,λ_ e=>nomatch e⟩
 |int i=>
  obtain⟨t,rfl⟩:=r;cases(show T="int" from ty);exact⟨typeIs_int s i t,λ_ e=>nomatch e⟩
 |ref p=>
  cases r;rcases ty with⟨rfl,xs,bb⟩|⟨rfl,o,aT,aG,hd⟩|⟨rfl,aT⟩|⟨rfl,S,n,aT⟩
  .obtain⟨its,_,pl,_⟩:=I.list bb;refine⟨pl.isList.typeIs,λa e=>?_⟩;cases e;obtain⟨o,n,e,c,hd,_⟩:=pl;exact⟨o,e,hd⟩
  .refine⟨⟨o,I.eB p o aT,aG⟩,λa e=>?_⟩;cases e;exact⟨o,I.eB _ o aT,hd⟩
  .have z:∃o,s.heap.get? p=some o∧o.ExactDict:=by
    rcases aT with⟨kvs,aT⟩|⟨kvs,aT⟩
    .obtain⟨_,_,_,_,o,_,_,e,ex,_⟩:=I.bj p _ aT;exact⟨o,e,ex⟩
    .obtain⟨_,_,_,_,o,_,_,e,ex,_⟩:=I.bj p _ aT;exact⟨o,e,ex⟩
   obtain⟨o,e,ex⟩:=z;refine⟨⟨o,e,ex.1⟩,λa aE=>?_⟩;cases aE;exact⟨o,e,ex.2.1⟩
  .obtain⟨o,_,_,_,e,ex,_⟩:=I.bj p _ aT;refine⟨⟨o,e,ex.1⟩,λa aE=>?_⟩;cases aE;exact⟨o,e,ex.2.1⟩
 |_=>exact h3 ty
noncomputable def aqf(K:aS)(T:String)(r:V→List V→aa→a6→Prop)(to:TE)(t:fD):TE:=λσ H Q=>to σ H λx H1=>Ω K T x H1∧t σ H1 λxs ak=>r x xs ak Q
variable{o e:Expr}{es:List Expr}{to:TE}{t:fD}{name:Str}{fg fy:Pos}{T id:String}{r:V→List V→aa→a6→Prop}
theorem qc(eI:PlainAttrs T)(slot:Slot T name id)(uR:typeOf (.builtin id)=pure (.type "method_descriptor"))(hm:abU X id r)(bw:bJ X o to)(aI:hN X (e::es) t)(amC:Ab o name X.env (eval o X.env)=eval o X.env:=by rfl)(amX:((g0 fy (dM (e::es) X.env)).all (λx=>!x.1)&&(ku fy (kE [] X.env)).all (λx=>x.1.isSome)
   && decide ((e::es).length+([]:List tT).length+(if([]:List tT).isEmpty then 0 else 1)<30))=true:=by rfl)(anf:(fg.endLine==fy.line)=true:=by rfl)(hs:dM (e::es) X.env=(false,eval e X.env)::dM es X.env:=by rfl)(anD:(g0 fy (dM es X.env)).any (·.1)=false:=by rfl):
  bJ X (.Call (.Attribute o name fg) (e::es) [] fy) (aqf X.K T r to t):=by intro pins s σ H Q I h;refine wpAny_Call_method_late amC amX anf rfl (bM (bw pins s σ H _ I h) λv s1⟨x,H1,aU,cJ,ty,bT⟩=>?_);obtain⟨ai,aj⟩:=afh aU cJ ty;refine⟨T,id,eI,slot,uR,ai,aj,?_⟩;have lX:=aI fy pins s1 σ H1 _ aU bT;rw[hs]at lX⊢;refine IF (by show(false||(g0 fy (dM es X.env)).any (·.1))=false;rw[anD]<;>rfl) (DE ?_);exact bM lX λus s2⟨vs,ak,bI,dr,c6⟩=>hm pins s2 σ ak x vs v us Q bI cJ dr c6
end
open PySem PySem.Spec PyProof.Rows
noncomputable def VP(X:bh)(id:String)(r:V→List V→aa→a6→Prop):Prop:=
 ∀(pins:List (Addr×Obj))(s:ax)(σ:St)(H:aa)(x:V)(xs:List V)(v:Value)(us:List Value)(Q:a6),Inv X pins σ H s→RelV x v→cN xs us→r x xs H Q→
  a4 (bg X.prog X.w) X.A (call (.builtin id) (v::us)) (hI X pins σ Q) X.dA s
theorem cN.one:∀{x:V}{us:List Value},cN [x] us→∃u,us=[u]∧RelV x u
 |_,_,.cons r .nil=>⟨_,rfl,r⟩
section
variable{X:bh}{pins:List (Addr×Obj)}{σ:St}{H:aa}{s:ax}{l b:Addr}{xs ys zs:List V}
theorem Inv.Zu{its its':List Value}{n:Nat}{f:Array Value→Array Value}{t':Nat}(I:Inv X pins σ H s)(j6:H l=some (.lst xs))(e:s.heap.get? l=some {cls:=.type "list",data:=.seq its.toArray n})(hf:f its.toArray=its'.toArray)(bA:cN ys its')(bB:ys.length≤sizeLine):
  Inv X pins σ (upd H l (.lst ys)) {s with heap:=s.heap.update l (wH f),toks:=t'}:=by have q:=PySem.IsL.update e f;rw[hf]at q;refine I.write (x:=l) (e:=l) (by rw[j6];exact trivial) (.inl rfl) (λa3 u af cj=>(jz s.heap (wH f) (b' af)).trans cj) ⟨_,q⟩ ?_;exact⟨bB,its',_,bA,q⟩
theorem Inv.Zs{its:List Value}{t':Nat}(I:Inv X pins σ H s)(bA:cN ys its)(bB:ys.length≤sizeLine):
  Inv X pins σ (upd H s.heap.objs.size (.lst ys)) {s with heap:=s.heap.push {cls:=.type "list",data:=.seq its.toArray},toks:=t'}:=
 I.laid (λ_ _ q=>dJ _ q) (bY _) ⟨bB,its,0,bA,hg _ rfl⟩
theorem Inv.fresh(I:Inv X pins σ H s):H s.heap.objs.size=none:=I.bj.fresh (bY _)
theorem Inv.BS(I:Inv X pins σ H s)(j6:H l=some (.lst xs)):xs.length≤sizeLine∧∃(its:List Value)(n:Nat),cN xs its∧xs.length=its.length∧s.heap.get? l=some {cls:=.type "list",data:=.seq its.toArray n}:=by obtain⟨z,its,n,r,e⟩:=I.bj l _ j6;exact⟨z,its,n,r,r.length,e⟩
theorem aaG{n:Nat}(h:n≤sizeLine):TZ n=false:=by unfold TZ;exact dP (by omega)
end
section
variable{X:bh}
inductive aaH(x:V)(vs:(List V))(H:aa)(Q:a6):Prop where
 |mk (l:_) (xs:_) (y:_) (bW:x=.ref l) (bG:vs=[y]) (b4:H l=some (.lst xs)) (cM:xs.length<sizeLine) (d3:Q .bD (upd H l (.lst (xs++[y]))))
noncomputable def adJ:V→List V→aa→a6→Prop:=λx vs H Q=>aaH x vs H Q
theorem pG:VP X "list.append" adJ:=by intro pins s σ H x vs v us Q I bo cz h;obtain⟨l,xs,y,rfl,rfl,j6,bB,q⟩:=h;cases bo;obtain⟨u,rfl,eP⟩:=cz.one;obtain⟨z,its,n,r,aq,e⟩:=I.BS j6;refine call_meets F.slot_list_append ⟨_,e,rfl⟩ F.entry_list_append (F.args_list_append_2 _ _) (PySem.list_append l its.toArray n u (by rw[gh];omega)) ⟨e,?_⟩;refine⟨.bD,_,I.Zu (its':=its++[u]) j6 e (by simp) (r.append (.cons eP .nil)) ?_,rfl,q⟩;rw[fT,List.length_singleton];omega
inductive aaI(x:V)(vs:(List V))(H:aa)(Q:a6):Prop where
 |mk (l:_) (b:_) (xs:_) (zs:_) (bW:x=.ref l) (bG:vs=[.ref b]) (b4:H l=some (.lst xs)) (cM:H b=some (.lst zs)) (d3:xs.length+zs.length≤sizeLine) (fK:Q .bD (upd H l (.lst (xs++zs))))
noncomputable def adK:V→List V→aa→a6→Prop:=λx vs H Q=>aaI x vs H Q
theorem aac:VP X "list.extend" adK:=by
 intro pins s σ H x vs v us Q I bo cz h;obtain⟨l,b,xs,zs,rfl,rfl,j6,MJ,bB,q⟩:=h;cases bo;obtain⟨u,rfl,eP⟩:=cz.one;cases eP;obtain⟨z,its,n,r,aq,e⟩:=I.BS j6;obtain⟨bG,uU,c3,dr,nv,aE⟩:=I.BS MJ;have hsz:its.toArray.size+uU.toArray.size≤sizeLine:=by rw[gh,gh];omega
 have ang:¬(!its.toArray.isEmpty&&TZ (its.toArray.size+uU.toArray.size))=true:=by rw[aaG hsz,Bool.and_false];exact fL
 refine call_meets F.slot_list_extend ⟨_,e,rfl⟩ F.entry_list_extend (F.args_list_extend_2 _ _)
  (AutoSeq1.list_extend_list_list_0 l its.toArray n b uU.toArray c3 ang (by rw[gh];omega) (by omega)) ⟨e,aE,?_⟩
 refine⟨.bD,_,I.Zu (its':=its++uU) j6 e (by simp) (r.append dr) ?_,rfl,q⟩;rw[fT];omega
inductive ag0(x:ag.V)(y:ag.V)(H:aa)(Q:a6):Prop where
 |mk (l:_) (b:_) (xs:_) (zs:_) (bW:x=.ref l) (bG:y=.ref b) (b4:H l=some (.lst xs)) (cM:H b=some (.lst zs)) (d3:xs.length+zs.length≤sizeLine) (fK:∀p,H p=none→Q (.ref p) (upd H p (.lst (xs++zs))))
noncomputable def ah2:iu:=λx y H Q=>ag0 x y H Q
theorem Vd:fZ X (so .Add) ah2:=by
 intro pins s σ H x y v u Q I bo bF h;obtain⟨l,b,xs,zs,rfl,rfl,j6,MJ,bB,q⟩:=h;cases bo;cases bF;obtain⟨z,its,n,r,aq,e⟩:=I.BS j6;obtain⟨bG,uU,c3,dr,nv,aE⟩:=I.BS MJ;refine PySem.P.add_list e aE ?_ (by rw[gh,gh];omega);have bc:its.toArray++uU.toArray=(its++uU).toArray:=by simp
 rw[bc];exact⟨.ref _,_,I.Zs (t':=s.toks) (r.append dr) (by rw[fT];omega),rfl,q _ I.fresh⟩
end
end ag
namespace TC
open PySem PySem.W PySem.Calls PyProof.Rows
theorem aqL{P:Params}{h:Heap}:∀(ns:List Int)(vs:List Value),WellAll P h vs (ns.map WData.int)→DW vs ns:=by
 intro ns
 induction ns with
 |nil=>
  intro vs w;rw[D']at w;cases w;exact .nil
 |cons n ns a7=>
  intro vs w;rw[gv]at w;cases w with
  |cons a b=>
   cases a;exact .cons _ _ (a7 _ b)
theorem aad{l:OpenLaw}{n:Nat}(aw:l.most=some n){P:Params}{h:Heap}{args:List WData}{vals:List Value}(FZ:l.row.toRowW.claim.pre args=true)(NX:WellAll P h vals args):
  ∃a vs ns,vals=[dO a]∧args=[WData.list (ns.map WData.int)]∧h.get? a=some {cls:=.type "list",data:=.seq vs.toArray}∧DW vs ns∧ns.length≤n:=by
 have pX:WShape.hasAll [] args [.list .int]=true:=(pre_splitW FZ).1;have aG:l.pre.holds [] {args:=args}=true:=(pre_splitW FZ).2;obtain⟨d,r,rfl,ai,aj⟩:=hasAllW_cons pX;obtain rfl:=hasAllW_nil aj;obtain⟨xs,rfl,bk⟩:=hasW_list ai;obtain⟨ns,rfl⟩:=items_int bk;have hlen:ns.length≤n:=by
  unfold OpenLaw.pre at aG;have cv:(WTm.not (.lt (.lit (.int (n:Int))) (.len (.arg 0)))).holds [] {args:=[.list (ns.map .int)]}=true:=by have cv:=(holds_andW aG).1;rw[aw]at cv;exact cv
  have dW:=condW_of cv (w_not (w_lt w_lit (w_len_list (w_arg rfl))));rw[a']at dW;refine Nat.le_of_not_lt λq=>?_;have gz:(n:Int)<((ns.length:Nat):Int):=by omega
  first
   | (rw[cB gz]at dW;exact bt dW (by decide))
   | (simp at dW;omega)
 cases NX with
 |cons gV ha=>
  cases ha;cases gV with
  |list bw uI=>exact⟨_,_,ns,rfl,rfl,bw,aqL ns _ uI,hlen⟩
theorem aae(l:OpenLaw)(args:List WData):l.row.toRowW.claim.post args (.bool true) args=true:=
 postW_of (r:=l.row.toRowW) (X:=(true==true))
  (show WShape.has [] (.bool true) .bool=true by first|rfl|decide|simp[WShape.has,WShape.arms,WShape.armsAll])
  (show(WTm.eq .res (.lit (.bool true))).value [] {args:=args,res:=some (.bool true),after:=args}=some (.bool (true==true))from w_eq_bool (w_res rfl) w_lit) rfl
theorem ajd{l:OpenLaw}{n:Nat}{q:bL}{loose:List Str}{wR:(Str→Option Value)→Heap→Prop}{sk:bC→Heap→Prop}{d:DefRec}(aw:l.most=some n)(Bl:d.params.defaults=[])(call:∀(w:bC)(h1 dH:ax)(mg nK:Str→Option Value)(hy:Addr)(o:Obj)(pm cd doc:Value)(a:Addr)(vs:List Value)(ns:List Int),
   Ground q loose [] wR w h1 mg nK dH.heap→sk w dH.heap→
   dH.heap.get? hy=some o→o.data=.func (docDef d.name d.params d.body d.scope pm cd doc)→dH.heap.CodeRec cd d.name→mg d.name=some (.ref hy)→
   dH.heap.get? a=some {cls:=.type "list",data:=.seq vs.toArray}→DW vs ns→ns.length≤n→dH.gens=#[]→
   jX (bg l.prog w) wZ (.call (.ref hy) ⟨[.ref a],[]⟩) (λr s'=>r=.ok (.ret (.bool true))∧OldK dH.heap s'.heap∧s'.os=dH.os∧qA s'.gens) dH):
  WalkO q loose wR sk l.row.toRowW d [] (λf vs=>Wy f vs):=by intro w h1 dH mg nK G Y hy o pm cd doc EM dz bw hd k_ bO Bp bz args vals as FZ asG F0 NX asH;obtain rfl:EM=.none:=Dflts.none bO Bl;obtain rfl:dz=.none:=Dflts.noKw bO;obtain⟨a,vs,ns,rfl,rfl,NK,hints,hlen⟩:=aad aw FZ NX;refine enter_call (uj (call w h1 dH mg nK hy o pm cd doc a vs ns G Y bw (fd_plain hd) k_ Bp NK hints hlen bz) λr s' bb=>?_);obtain⟨rfl,aj,bk,cv⟩:=bb;exact⟨.inl ⟨.bool true,.bool true,[],rfl,λ_=>rfl,.bool true,aae l _,λ_=>⟨List.Pairwise.nil,λ_ hm=>(nomatch hm)⟩⟩,aj,bk,cv⟩
end TC
namespace ag
open PySem PySem.Spec PyProof.Rows
theorem ä:∀{vs:List Value}{ns:List Int},DW vs ns→cN (ns.map V.int) vs
 |_,_,.nil=>.nil
 |_,_,.cons n t h=>.cons ⟨t,rfl⟩ (ä h)
noncomputable def JT(H:aa):Prop:=∀b,H b=none∨∃o xs,H b=some (.fH o (.lst xs))
theorem aaJ{P:bL}{w:bC}{K:aS}{mg nK:Str→Option Value}{CX:lH}{k:Nat}{hy a:Addr}{fd:b5}{x:Str}{sp:b8}{dH:ax}{vs:List Value}{ns:List Int}(pa:K.In dH.heap)(NF:dH.heap.Ns cx mg)(af:dH.heap.Ns Xo nK)(amD:∀x:Str,x≠"__name__"→nK x=iw x)(ane:dH.heap.NoLimit)(bz:dH.gens=#[])(aI:dH.heap.get? a=some {cls:=.type "list",data:=.seq vs.toArray})(ar:DW vs ns)(aq:ns.length≤sizeLine)(au:fW k wZ)(F:∀base:Heap,K.In base→base.Ns cx mg→aB P w K mg base CX k hy fd [x] sp)(amF:∀(s:ax)(u:Value),yC s fd ⟨[u],[]⟩ [(x,u)])(ny:∀H:aa,JT H→aO K H a (ns.map V.int)→sp [.ref a] H (λv _=>v=.aV true) λ_ _ _=>False)(ML:∀H e s',CX [] H dH (λ_ _ _=>False) e s'→False):
  jX (bg P w) wZ (.call (.ref hy) ⟨[.ref a],[]⟩) (λr s'=>r=.ok (.ret (.bool true))∧OldK dH.heap s'.heap∧s'.os=dH.os∧qA s'.gens) dH:=by
 have cz:=ä ar;have aoh:=ar.length;have core:∀H:aa,JT H→aO K H a (ns.map V.int)→fp P w H dH.heap→(∀b,H b≠none→b=a)→(H a≠none→K.lookup a=none)→
   jX (bg P w) wZ (.call (.ref hy) ⟨[.ref a],[]⟩) (λr s'=>r=.ok (.ret (.bool true))∧OldK dH.heap s'.heap∧s'.os=dH.os∧qA s'.gens) dH:=by
  intro H FL f' bj lX f9;have Xm:∀{b:Addr}{o:Obj},dH.heap.get? b=some o→H b=none→(rK dH.heap H).get? b=some o:=λe n=>aaN e n;have B8:∀{b:Addr}{o:Obj}{es:Array vG}{ep:Nat},dH.heap.get? b=some o→o.data=.dict es ep→H b=none:=λ{b o es ep}e d=>by
   cases q:H b with
   |none=>rfl
   |some u=>
    have bR:b=a:=lX b (by rw[q];simp);subst bR;rw[aI]at e;cases e;have d':Data.seq vs.toArray _=Data.dict es ep:=d;cases d'
  have G1:∀{b:Addr}{m:Str→Option Value},dH.heap.Ns b m→(rK dH.heap H).Ns b m:=λ{b m}⟨o,es,ep,e,d,r⟩=>⟨o,es,ep,Xm e (B8 e d),d,r⟩
  have Yo:K.In (rK dH.heap H):=λb o e=>Xm (pa b o e) (by
   cases q:H b with
   |none=>rfl
   |some u=>
    have bR:b=a:=lX b (by rw[q];simp);subst bR;rw[f9 (by rw[q];simp)]at e;cases e)
  have qZ:Mod K mg (rK dH.heap H):=⟨Yo,G1 NF,⟨nK,G1 af,amD⟩,let⟨GB,ai,aj⟩:=ane;⟨GB,G1 ai,aj⟩⟩
  have e0:tK P w K mg (rK dH.heap H) wZ [] dH H:=⟨rfl,qZ,λb o e=>adA e,JJ (š _ _),trivial,λb af=>bt (show b∈([]:List Addr)from af) (by simp),bj,.of_eq bz⟩
  refine uj ((F _ Yo (G1 NF)).run wZ [] dH H ⟨[.ref a],[]⟩ [.ref a] [.ref a] _ _ au e0 (amF dH (.ref a)) (.cons rfl .nil) (ny H FL f')) λr s' h=>?_;cases r with
  |error e=>exact(ML H e s' h).elim
  |ok er=>
   cases er with
   |next=>exact h3 h
   |brk=>exact h3 h
   |cont=>exact h3 h
   |ret u=>
    obtain⟨v,U,os,bare,un,anu,cE,q⟩:=h;have gz:v=.aV true:=q;subst gz;obtain rfl:u=Kn true:=cE;refine⟨rfl,OldK.of_keep λb o e=>?_,os,bare⟩;cases q:H b with
    |none=>exact un.keep b o e q (by intro z;exact bt (show b∈([]:List Addr)from z) (by simp)) (by simp)
    |some u=>
     rcases FL b with z|⟨ob,xs,z⟩
     .rw[q]at z;cases z
     .have bG:=un.iR b ob _ z;obtain⟨az,_⟩:=bj b _ z;obtain⟨aE,_⟩:=anu b _ bG;rw[e]at az;cases az;exact aE
 cases aT:K.lookup a with
 |some o=>
  have e:=pa a o aT;rw[aI]at e;cases e;refine core (λ_=>none) (λ_=>.inl rfl) (.inr ⟨_,vs.toArray,_,aT,rfl,rfl,rfl,by rw[gh,aoh];exact aq,by simpa using cz⟩) (λb u z=>by have dp:(none:Option d1)=some u:=z;cases dp) (λb z=>bt rfl z) λz=>bt rfl z
 |none=>
  refine core (λb=>if b=a then some (.fH {cls:=.type "list",data:=.seq vs.toArray} (.lst (ns.map V.int)))else none) (λb=>?_) (.inl (.inr ⟨{cls:=.type "list",data:=.seq vs.toArray},a8 rfl⟩)) (λb u z=>?_) (λb z=>?_) λ_=>aT
  .by_cases af:b=a
   .exact .inr ⟨_,_,a8 af⟩
   .exact .inl (aX af)
  .by_cases af:b=a
   .have dp:=(a8 af).symm.trans z;cases dp;subst af;exact⟨aI,by rw[a'];exact aq,vs,_,cz,aI⟩
   .have dp:=(aX af).symm.trans z;cases dp
  .by_cases af:b=a
   .exact af
   .exact bt (aX af) z
noncomputable abbrev arQ{K:aS}{h:Heap}(_:K.In h):aS:=K
theorem aqV{l:Wl}{n k:Nat}{q:bL}{loose:List Str}{wR:(Str→Option Value)→Heap→Prop}{sk:bC→Heap→Prop}{d:DefRec}{K:Params→aS}{CX:bC→lH}{sp:bC→b8}{x:Str}(aw:l.most=some n)(FW:n≤sizeLine)(Bl:d.params.defaults=[])(au:fW k wZ)(MS:∀(w:bC)(h:Heap),sk w h→(K w.params).In h)(F:∀(w:bC)(mg:Str→Option Value)(hy:Addr)(h:Heap),(K w.params).In h→h.Ns cx mg→mg d.name=some (.ref hy)→
   ∃fd:b5,(∀(s:ax)(u:Value),yC s fd ⟨[u],[]⟩ [(x,u)])∧
    ∀base:Heap,(K w.params).In base→base.Ns cx mg→aB l.prog w (K w.params) mg base (CX w) k hy fd [x] (sp w))(ny:∀(w:bC)(H:aa)(a:Addr)(ns:List Int),ns.length≤n→JT H→aO (K w.params) H a (ns.map V.int)→sp w [.ref a] H (λv _=>v=.aV true) λ_ _ _=>False)(ML:∀(w:bC)(H:aa)(s:ax)(e:Value)(s':ax),CX w [] H s (λ_ _ _=>False) e s'→False):
  acT q loose wR sk l.row.toRowW d [] (λf vs=>Wy f vs):=by refine TC.ajd aw Bl λw h1 dH mg nK hy o pm cd doc a vs ns G Y bw hd k_ Bp NK hints hlen bz=>?_;have pa:=MS w _ Y;obtain⟨fd,af,Bd⟩:=F w mg hy _ pa G.T.g Bp;exact aaJ pa G.T.g G.T.b G.T.builtins G.T.nolimit bz NK hints (el hlen FW) au Bd af (λH FL f'=>ny w H a ns hlen FL f') λH e s'=>ML w H dH e s'
end ag
namespace ag
open PySem PySem.Spec PyProof.Rows
noncomputable def fz(s:Stmt)(j:Nat):Stmt:=match s with
 |.ClassDef _ _ _ body _ _ _ _ _ _ _=>body.getD j (.Pass ⟨0,0,0,0⟩)
 |_=>.Pass ⟨0,0,0,0⟩
noncomputable def Cq(s:Stmt):Arguments:=match s with
 |.FunctionDef _ a _ _ _ _ _ _ _ _=>a
 |_=>{posonlyargs:=[],args:=[],vararg:=none,kwonlyargs:=[],kw_defaults:=[],kwarg:=none,defaults:=[]}
noncomputable def lw(s:Stmt):List Stmt:=match s with
 |.FunctionDef _ _ b _ _ _ _ _ _ _=>b
 |_=>[]
noncomputable def cy(s:Stmt):Scope:=match s with
 |.FunctionDef _ _ _ _ _ _ sc _ _ _=>sc
 |_=>{kind:=.function,names:=[],isGenerator:=false,isCoroutine:=false}
noncomputable abbrev aM:lH:=λ_ _ _ _ _ _=>False
noncomputable abbrev qF:b6:=λ_ _ _=>False
theorem cn{X:bh}:nF aM X qF:=λ_ _ _ _ _ _ _ h=>h.elim
structure a_(K:aS)(x qual:Str)(st:Stmt)(f:Addr)(fd:b5):Prop where
 ex:∃(l4:Value)(dR:Option Addr)(dz doc pm:Value)(an:Option Addr)(cdv fG:Value)(oT:Array (Option Value)),
  fd=wL x qual (Cq st) (lw st) (cy st) .none dz doc pm an cdv fG∧K.lookup f=some ⟨l4,dR,.func fd,oT⟩∧Wn K cdv qual=true
 b0:i7 K (.ref f)=true
section
variable{P:bL}{w:bC}{K:aS}{mg:Str→Option Value}{base:Heap}
theorem a_.ok{x qual:Str}{st:Stmt}{f:Addr}{fd:b5}{N ps:List Str}{k:Nat}{sp:b8}(F:a_ K x qual st f fd)(S:cT N ps (cy st))(len:∀vs H Q E,sp vs H Q E→vs.length=ps.length)(uJ:∀(cdv:Value)(A:c4)(outer:List Env)(s:ax)(H:aa)(vs:List V)(Q:a6)(E:b6),fW k (A.deeper (ni qual (cy st) s.heap.objs.size f cdv))→sp vs H Q E→
   ∃t,iK (jt aM P w K mg base N qual (cy st) f cdv A outer s H E).xK (lw st) t∧t {cf:=λ_ U=>Q .bD U,rt:=Q} (start N vs) H):aB P w K mg base aM (k+1) f fd ps sp:=by obtain⟨l4,dR,dz,doc,pm,an,cdv,fG,oT,rfl,lk,k_⟩:=F.ex;refine Jl lk k_ S len λA outer s H vs Q E au ny=>?_;obtain⟨t,h,q⟩:=uJ cdv A outer s H vs Q E au ny;exact⟨t,h.xK,q⟩
theorem a_.binds{x qual:Str}{st:Stmt}{f:Addr}{fd:b5}{ps:List Str}(F:a_ K x qual st f fd)(h:∀(dz doc pm:Value)(an:Option Addr)(cdv fG:Value)(us:List Value),us.length=ps.length→bindArgs (wL x qual (Cq st) (lw st) (cy st) .none dz doc pm an cdv fG) ⟨us,[]⟩=pure (ps.zip us)):Binds K fd ps []:=by obtain⟨l4,dR,dz,doc,pm,an,cdv,fG,oT,rfl,lk,k_⟩:=F.ex;exact .all (h dz doc pm an cdv fG)
theorem c'{x qual:Str}{st:Stmt}{f:Addr}{l4:Value}{dR an:Option Addr}{oT:Array (Option Value)}{dz doc pm cdv fG:Value}(l:K.lookup f=some ⟨l4,dR,.func (wL x qual (Cq st) (lw st) (cy st) .none dz doc pm an cdv fG),oT⟩)(c:Wn K cdv qual=true)(k:i7 K (.ref f)=true):a_ K x qual st f (wL x qual (Cq st) (lw st) (cy st) .none dz doc pm an cdv fG):=⟨⟨l4,dR,dz,doc,pm,an,cdv,fG,oT,rfl,l,c⟩,k⟩
end
theorem jo{A:c4}{k:Nat}(au:fW k A):A.units+1<cLine:=od (ab2 (by decide:1≤64) _) au.units
theorem eZ{n:Nat}(h:n≤1000):n<sizeLine:=od h (by decide)
section
variable{X:bh}
theorem ae(i:Nat){x:Str}{pos:Pos}(fk:X.N[i]?=some x:=by rfl)(bA:Kp X.env.scope x:=by first|exact cu rfl|exact m_ (cu rfl)|exact m_ (m_ rfl))(hd:(x==("__debug__":Str))=false:=by decide)(k_:(x==("__classdict__":Str))=false:=by decide):bJ X (.Name x pos) (Kc i):=aeY fk bA hd k_
end
theorem gF{A B:Prop}(h:B):if false=true then A else B:=by rw[aX fL];exact h
theorem gp{A B:Prop}(h:A):if true=true then A else B:=by rw[a8 rfl];exact h
theorem Kg{c A B:Prop}[Decidable c](ai:c→A)(aj:¬c→B):if c then A else B:=by
 by_cases h:c
 .rw[a8 h];exact ai h
 .rw[aX h];exact aj h
theorem yk{c A B:Prop}[Decidable c](aG:c)(h:B):if(!decide c)=true then A else B:=by rw[cB aG];exact gF h
noncomputable def aH(H U:aa):Prop:=∀b o,H b=some o→U b=some o
theorem aH.refl(H:aa):aH H H:=λ_ _ h=>h
theorem aH.trans{H H1 ak:aa}(a:aH H H1)(b:aH H1 ak):aH H ak:=λc o h=>b c o (a c o h)
theorem aH.free{H U:aa}(e:aH H U){l:Addr}(h:U l=acx):H l=acx:=by
 cases q:H l with
 |none=>rfl
 |some o=>
  rw[e l o q]at h;cases h
theorem aH.seq{K:aS}{H U:aa}{a:Addr}{xs:List V}(e:aH H U)(h:aO K H a xs):aO K U a xs:=by
 rcases h with(h|⟨o,h⟩)|h
 .exact .inl (.inl (e _ _ h))
 .exact .inl (.inr ⟨o,e _ _ h⟩)
 .exact .inr h
end ag
namespace cq
open PySem PySem.Spec PyProof.Rows ag
noncomputable abbrev St:=ag.St
noncomputable abbrev V:=ag.V
noncomputable abbrev pf:Value→ax→Prop:=λ_ _=>False
theorem adL{α:Type}{M:oc}{A:c4}{t:Sem α}{Q:α→ax→Prop}{E:Value→ax→Prop}{s:ax}(h:a4 M A t Q pf s):a4 M A t Q E s:=
 gf h (λ_ _ q=>q) λ_ _ z=>h3 z
theorem Ĝ{prog:bL}{w:bC}{A:c4}{R:ot→ax→Prop}{s:ax}{elt d0 iter:Expr}{ifs:List Expr}{scope:Scope}{pos:Pos}{it acc:Value}{env:Env}(I:Nat→ax→Prop)(turn:∀n s,I n s→a4 (bg prog w) A (jv it) (λr s1=>match r with
   |none=>R (.ok .next) s1
   |some v=>a4 (bg prog w) A (Pe d0 it v) (λ_ s2=>a4 (bg prog w) A (EG d0 env v) (λ_ s3=>
     a4 (bg prog w) A (forIn ifs true λc r=>if r=true then do let ok ←Bz c env (eval c env);pure (I2 ok)else pure (I2 r)) (λok s4=>
      if ok=true then a4 (bg prog w) A (eval elt env) (λx s5=>a4 (bg prog w) A (call (.builtin "list.append") [acc,x]) (λ_ g_=>∃m,m<n∧I m g_) pf s5) pf s4
      else∃m,m<n∧I m s4) pf s3) pf s2) pf s1) pf s)(n:Nat)(h:I n s):jX (bg prog w) A (.compLoop (.ListComp elt [⟨d0,iter,ifs,0⟩] scope pos) 0 it acc env) R s:=by
 refine codeAny_loop rfl I (λn s FJ=>?_) n h;show a4 _ A ((compTurn (.ListComp elt [⟨d0,iter,ifs,0⟩] scope pos) 0 it acc env).onRaise (λx=>do PY x env;theTreesLotGoes x)) _ _ s;refine wpAny_noted (adL ?_);rw[compTurn_list];refine aR (Ia (aR (gf (turn n s FJ) (λr s1 ai=>?_) λ_ _ z=>z)));cases r with
 |none=>exact bN ai
 |some v=>
  refine aR (gf ai (λ_ s2 aj=>aR (gf aj (λ_ s3 bk=>aR (gf bk (λok s4 cv=>?_) λ_ _ z=>z)) λ_ _ z=>z)) λ_ _ z=>z);cases ok with
  |false=>exact bN ⟨rfl,cv⟩
  |true=>exact aR (aR (gf cv (λx s5 dW=>aR (gf dW (λ_ g_ kB=>bN (bN ⟨rfl,kB⟩)) λ_ _ z=>z)) λ_ _ z=>z))
noncomputable def gQ(cs:List (Option Nat))(σ:St):St:=cs.map λo=>o.bind λj=>(σ[j]?).bind id
noncomputable def nG(X:bh)(N':List Str)(scope:Scope)(cl:List (Str×Addr))(C:Addr)(s3:ax)(bp:aa)(bZ:List Addr)(ef:List (Addr×Obj)):bh:=
 {X with N:=N',h1:=s3,n9:=bp,env:=compEnvC scope cl C X.env,outer:=X.stack,stack:=X.stack,ex:=bZ,fn:=λ_=>false,ef:=ef,dA:=λ_ _=>False}
noncomputable def yx(k:Option tW):Prop:=k=some .cell∨k=some .free
inductive nX(X:bh)(scope:Scope)(cl:List (Str×Addr)):List Str→List (Option Nat)→Prop
 |nil:nX X scope cl [] []
 |own {x N cs}:nX X scope cl N cs→nX X scope cl (x::N) (none::cs)
 |h_ {x j N cs} (ai:X.N[j]?=some x) (aj:yx (X.env.kindOf x)) (bk:yx ((Hu scope X.env).names.lookup x)) (cv:cl.lookup x=X.env.cells.lookup x):
   nX X scope cl N cs→nX X scope cl (x::N) (some j::cs)
theorem nX.len{X:bh}{scope:Scope}{cl:List (Str×Addr)}{N cs}(h:nX X scope cl N cs):cs.length=N.length:=by
 induction h with
 |nil=>rfl
 |own _ a7=>simp[a7]
 |h_ _ _ _ _ _ a7=>simp[a7]
theorem nX.get{X:bh}{scope:Scope}{cl:List (Str×Addr)}{N cs}(h:nX X scope cl N cs){σ:St}:∀{i:Nat}{x:Str}{v:V},N[i]?=some x→(gQ cs σ)[i]?=some (some v)→
  ∃j:Nat,X.N[j]?=some x∧σ[j]?=some (some v)∧yx (X.env.kindOf x)∧yx ((Hu scope X.env).names.lookup x)∧cl.lookup x=X.env.cells.lookup x:=by
 induction h with
 |nil=>intro i x v ai aj;simp at ai
 |own _ a7=>
  intro i x v ai aj;cases i with
  |zero=>simp[gQ]at aj
  |succ i=>exact a7 (i:=i) (by simpa using ai) (by simpa[gQ]using aj)
 |@h_ y j N cs a1 a2 h5 jU _ a7=>
  intro i x v ai aj;cases i with
  |zero=>
   simp at ai;subst ai;refine⟨j,a1,?_,a2,h5,jU⟩;simp[gQ]at aj;cases q:σ[j]? with
   |none=>rw[q]at aj;simp at aj
   |some o=>
    rw[q]at aj;simp at aj;rw[aj]
  |succ i=>exact a7 (i:=i) (by simpa using ai) (by simpa[gQ]using aj)
noncomputable def El(cl:List (Str×Addr))(names:List (Str×tW)):Bool:=names.all λy=>(y.2 !=.cell&&y.2 !=.free)||(cl.lookup y.1).isSome
theorem aaK{cl:List (Str×Addr)}{names:List (Str×tW)}(h:El cl names=true){x:Str}(k:yx (names.lookup x)):∃c,cl.lookup x=some c:=by
 have key:∀q:tW,names.lookup x=some q→(q=.cell∨q=.free)→∃c,cl.lookup x=some c:=λq e bb=>by
  have m:=wA.mp h (x,q) (z9 e);rcases bb with rfl|rfl
  .exact tY.mp (by simpa using m)
  .exact tY.mp (by simpa using m)
 rcases k with k|k
 .exact key _ k (.inl rfl)
 .exact key _ k (.inr rfl)
noncomputable def zy(X:bh)(ifs:List Expr)(t:TT):Prop:=
 ∀(pins:List (Addr×Obj))(s:ax)(σ:St)(H:aa)(Q:Bool→aa→Prop),Inv X pins σ H s→t σ H Q→
  a4 (bg X.prog X.w) X.A (forIn ifs true λc r=>if r=true then do let ok ←Bz c X.env (eval c X.env);pure (I2 ok)else pure (I2 r)) (Ez X pins σ Q) X.dA s
noncomputable def rL:TT:=λ_ H Q=>Q true H
theorem lU{X:bh}:zy X [] rL:=λ_ _ _ H _ I h=>wpAny_tests_nil ⟨H,I,h⟩
theorem u1{X:bh}{c:Expr}{t:TT}(h:kP X c t):zy X [c] t:=λpins s σ H Q I q=>wpAny_tests_one (h pins s σ H Q I q)
noncomputable def lC(wi:TI)(cs:List (Option Nat))(g:jC)(tt:TT)(b7:TE):TE:=λσ H Q=>wi σ H λJ H1=>∀D,H1 D=none→
 ∃W:Nat→Nat→List V→St→aa→Prop,(∃m,W 0 m [] (gQ cs σ) (upd H1 D (.lst [])))∧∀i m ys aY U,W i m ys aY U→U D=some (.lst ys)∧ys.length<sizeLine∧
  ((J.stop i U∧Q (.ref D) U)∨(J.go i U∧∀x ak,J.m4 i U x ak→g x aY ak λgg bp=>tt gg bp λb dw=>
   if b=true then b7 gg dw λy bK=>bK D=some (.lst ys)∧∃cp,cp<m∧W (i+1) cp (ys++[y]) gg (upd bK D (.lst (ys++[y])))
   else∃cp,cp<m∧W (i+1) cp ys gg dw))
section
variable{X:bh}{elt d0 iter:Expr}{ifs:List Expr}{scope:Scope}{pos:Pos}{N':List Str}{cs:List (Option Nat)}{cl:List (Str×Addr)}{wi:TI}{g:jC}{tt:TT}{b7:TE}
theorem Ve{use:Option (Value→Sem Unit)}{QQ:Value→ax→Prop}{pins:List (Addr×Obj)}{s:ax}{σ:St}{H:aa}{Q:a6}{al6:Pos}(aG:X.calm=true)(ar:og X d0 iter wi)(Bj:Xt scope X.env=pure cl)(sP:∀y∈scope.names,y.2≠.cell)(q3:scope.kind=.function)(Bq:∀y∈scope.names,y.2=.local→scope.names.lookup y.1=some .local)(nz:∀x c,cl.lookup x=some c→X.env.cells.lookup x=some c)(bj:El cl (Hu scope X.env).names=true)(xh:nX X scope cl N' cs)(af:∀(C:Addr)(s3:ax)(bp:aa)(bZ:List Addr)(ef:List (Addr×Obj)),sd (nG X N' scope cl C s3 bp bZ ef) d0 g∧zy (nG X N' scope cl C s3 bp bZ ef) ifs tt∧bJ (nG X N' scope cl C s3 bp bZ ef) elt b7)(hs:∀x,Mz iter X.env x=pure x:=by intro _;rfl)(I:Inv X pins σ H s)(h:lC wi cs g tt b7 σ H Q)(post:∀(D C:Addr)(s4:ax)(U:aa)(m:Str→Option Value),Inv X pins σ U s4→s4.heap.Ns C m→rS X pins U C→Q (.ref D) U→compPost (bg X.prog X.w) X.A X.dA use QQ (.ref D) C (.ok .next) s4):
  a4 (bg X.prog X.w) X.A (comprehension (.ListComp elt [⟨d0,iter,ifs,0⟩] scope pos) scope X.env al6 (newList []) false (eval iter X.env) use) QQ X.dA s:=by
 refine wpAny_comprehension_free (use:=use) rfl hs Bj q3 Bq (bM (ar pins s σ H _ I h) λv s1 ai=>bM ai λON s2 aj=>?_);obtain⟨it,bZ,fA,J,ak,rfl,bI,T,HG,f2,c6⟩:=aj;refine qu (wpAny_newFunctionEnv sP (by intro y cW;simp at cW) (λai NG NP=>?_) q3);dsimp only at NG NP⊢;have c8:Inv X pins σ (upd ak s2.heap.objs.size (.lst [])) {s2 with heap:=s2.heap.push {cls:=.type "list",data:=.seq ([]:List Value).toArray},toks:=s2.toks}:=bI.Zs (its:=[]) (ys:=[]) .nil (eD _);have amo:ak s2.heap.objs.size=none:=bI.fresh;obtain⟨W,⟨m0,Dh⟩,turn⟩:=c6 _ amo;generalize Yn:s2.heap.push {cls:=.type "list",dict:=none,data:=.seq ([]:List Value).toArray}=bk at NG NP c8⊢;have Y_:bk.objs.size=s2.heap.objs.size+1:=by rw[←Yn,wh]
 generalize bO:s2.heap.objs.size=D at *;have kept:∀b o,bk.get? b=some o→ai.get? b=some o:=λb o e=>NP.extBut b o (en (dK e)) (dJ _ e);have old:∀b o,s2.heap.get? b=some o→bk.get? b=some o:=λb o e=>by rw[←Yn];exact dJ _ e
 have Fs:∀b∈bZ,b<D:=λb dk=>by obtain⟨o,e,_⟩:=T.obj 0 _ HG b dk;rw[←bO];exact dK e
 have X5:∀b∈bZ,b∉eW X.stack:=λb dk z=>by
  obtain⟨_,f1,cc,_⟩:=f2 b dk;rcases dx.mp (bI.CY b z)with e|e
  .exact f1 e
  .exact cc e
 generalize nr:nG X N' scope cl bk.objs.size {s2 with heap:=bk,toks:=s2.toks} (upd ak D (.lst [])) bZ (X.ef++pins)=kp;obtain⟨bz,YS,he⟩:=af bk.objs.size {s2 with heap:=bk,toks:=s2.toks} (upd ak D (.lst [])) bZ (X.ef++pins);rw[nr]at bz YS he;have um:kp.prog=X.prog:=by rw[←nr];rfl
 have uo:kp.w=X.w:=by rw[←nr];rfl
 have Xx:kp.K=X.K:=by rw[←nr];rfl
 have Xw:kp.calm=X.calm:=by rw[←nr];rfl
 have i2:Inv kp [] (gQ cs σ) (upd ak D (.lst [])) {s2 with heap:=ai,toks:=s2.toks+0}:=by
  rw[←nr];refine⟨⟨c8.ok.mod,q3,c8.ok.glob,c8.ok.blt,bY _,λx y c az aE=>c8.ok.inj x y c (nz _ _ az) (nz _ _ aE),λx ay=>aaK bj ay,λx c z _=>bt (show false=true from z) fL,c8.ok.hd,c8.ok.frames,.inl rfl,
   λb dk=>⟨λe=>?_,λx c e=>(f2 b dk).2.2.2.2.1 x c (nz _ _ e)⟩,c8.bs,el c8.ok.pz c8.iq,λb o e dk=>?_,X5,c8.stack,c8.HH⟩,rfl,c8.bare,hi.kept kept,⟨_,NG,λi x v az aE dj=>?_⟩,λx c e=>?_,c8.bj.fresh (bY _),λx c e=>c8.mu x c (nz _ _ e),
   λp aW=>?_,c8.bj.kept kept,?_⟩
  .have l:=Fs b dk;rw[show b=bk.objs.size from e,Y_]at l;exact qI _ (VU l)
  .have l:=Fs b dk;rcases(f2 b dk).2.2.2.1 with z|z
   .exact bI.ok.u6 b o e z
   .exact bt (jS (dK (bI.ok.bs b o e).1) z) (qI _)
  .obtain⟨j,a1,a2,h5,jU,aiu⟩:=xh.get az aE;obtain⟨m,aw,aq⟩:=c8.loc;obtain⟨u,eP,l⟩:=aq j x v a1 a2 (by rcases h5 with z|z;exact .inr (.inl z);exact .inr (.inr z));refine⟨u,eP,.inr ⟨jU,?_⟩⟩;rcases l with⟨k,_⟩|⟨k,c,e,z⟩
   .rcases h5 with q|q<;>(rw[k]at q;cases q)
   .obtain⟨o,bw,hd⟩:=z;exact⟨c,aiu.trans e,o,kept c o bw,hd⟩
  .obtain⟨v,o,bw,hd⟩:=c8.cell x c (nz _ _ e);exact⟨v,o,kept c o bw,hd⟩
  .have anv:p∈X.ef++pins:=by simpa[nG]using aW
   obtain⟨e,n,ne,gc,d⟩:=c8.pin p anv;refine⟨kept _ _ e,n,en (dK e),λz=>?_,d⟩;rcases dx.mp (c8.CY p.1 z)with q|q
   .exact ne q
   .exact gc q
  .show(gQ cs σ).length=N'.length;rw[gQ,a'];exact xh.len
 have Ρ:fA 0 ai:=T.keep 0 _ _ HG λb dk o e=>kept b o (old b o e);have vk:∀{U:aa},(∀b∈bZ,U b=none)→∀b∈bZ,rS kp [] U b:=λ{U}aw b dk=>by rw[←nr];refine⟨aw b dk,λe=>?_,X5 b dk,.inl dk,λx c e=>(f2 b dk).2.2.2.2.1 x c (nz _ _ e),λp aW=>(f2 b dk).2.2.2.2.2 p (by simpa[nG]using aW)⟩;have l:=Fs b dk;rw[show b=bk.objs.size from e,Y_]at l;exact qI _ (VU l)
 have MA:∀b∈bZ,(upd ak D (.lst [])) b=none:=λb dk=>by rw[aD (en (Fs b dk))];exact(f2 b dk).1
 have yh:kp.A=X.A:=by rw[←nr];rfl
 have Ib:kp.env=compEnvC scope cl bk.objs.size X.env:=by rw[←nr];rfl
 have Ic:kp.dA=pf:=by rw[←nr];rfl
 have loop:jX (bg X.prog X.w) X.A (.compLoop (.ListComp elt [⟨d0,iter,ifs,0⟩] scope pos) 0 (.ref it) (.ref D) (compEnvC scope cl bk.objs.size X.env))
   (compPost (bg X.prog X.w) X.A X.dA use QQ (.ref D) bk.objs.size) {s2 with heap:=ai,toks:=s2.toks+0}:=by
  refine Ĝ (λn s'=>∃i ys aY U,Inv kp [] aY U s'∧fA i s'.heap∧(∀b∈bZ,U b=none)∧W i n ys aY U) ?_ m0 ⟨0,[],_,_,i2,Ρ,MA,Dh⟩;rintro n s' ⟨i,ys,aY,U,r5,fc,X6,eX⟩;obtain⟨eH,anW,mw⟩:=turn i n ys aY U eX;rcases mw with⟨stop,q⟩|⟨go,step⟩
  .have hd:=T.done kp um uo Xx (Xw.trans aG) i [] s' aY U pf r5 (vk X6) fc stop;rw[yh]at hd;refine bM hd λr s4 au=>?_;obtain⟨rfl,kN⟩:=au;obtain⟨m,aw,_⟩:=id kN.loc;have w1:kp.env.locals=bk.objs.size:=by rw[Ib];rfl
   have FT:U bk.objs.size=none:=by rw[←w1];exact kN.free
   have sq:=kN.base;rw[←nr]at sq;have uN:s4.os=s2.os:=by have z:=kN.os;rw[←nr]at z;exact z
   have YV:=kN.bj;rw[um,uo]at YV;have Ţ:Inv X pins σ U s4:=c8.L7 (s':=s4) (ch:=bZ) uN ⟨sq.keep,sq.slot,sq.free,sq.there,sq.hE,sq.iR,sq.jw⟩ YV kN.bare λb dk=>by obtain⟨_,g1,_,g3,MD,ME⟩:=f2 b dk;exact⟨g3,g1,MD,ME⟩
   exact post D bk.objs.size s4 U m Ţ (by rw[w1]at aw;exact aw) (c8.sG (bY _) FT) q
  .have hit:=T.item kp um uo Xx (Xw.trans aG) i [] s' aY U pf r5 (vk X6) fc go;rw[yh]at hit;refine bM hit λr s4 au=>?_;obtain⟨u,rfl,cv⟩:=au;refine bM cv λ_ s5 dW=>?_;obtain⟨x,bK,kN,Cv,vD,vj,MB⟩:=dW;have Jg:=kN.pinned (vk MB) (T.obj _ _ vj);have aI:=bz _ s5 aY bK x u _ Jg Cv (step x bK vD);rw[yh,Ib,Ic,um,uo]at aI;refine bM aI λ_ g_ kB=>?_;obtain⟨Dz,fY,tR,Qu⟩:=kB;have df:=YS _ g_ Dz fY _ tR Qu;rw[yh,Ib,Ic,um,uo]at df;refine bM df λok ql FG=>?_;obtain⟨jy,lI,mP⟩:=FG;have back:∀{n4:St}{hJ:aa}{lA:ax}{SH:List V}{cp:Nat},Inv kp ([]++C7 bZ s5.heap) n4 hJ lA→cp<n→W (i+1) cp SH n4 hJ→
     ∃m,m<n∧∃i ys aY U,Inv kp [] aY U lA∧fA i lA.heap∧(∀b∈bZ,U b=none)∧W i m ys aY U:=λ{n4 hJ lA SH cp}md hm Sd=>by refine⟨cp,hm,i+1,SH,n4,hJ,md.H8,T.keep _ _ _ vj λb dk o e=>(md.pin (b,o) (qH _ (qH _ (Gz dk e)))).1,λb dk=>?_,Sd⟩;obtain⟨o,e,d⟩:=T.obj _ _ vj b dk;exact(md.pin (b,o) (qH _ (qH _ (Gz dk e)))).2.1
   cases ok with
   |false=>
    rw[aX fL]at mP⊢;obtain⟨cp,hm,Sb⟩:=mP;exact back lI hm Sb
   |true=>
    rw[a8 rfl]at mP⊢;have YJ:=he _ ql Dz jy _ lI mP;rw[yh,Ib,Ic,um,uo]at YJ;refine bM YJ λarw lA uG=>?_;obtain⟨y,hJ,md,QH,MN,cp,hm,Sd⟩:=uG;have Yt:=pG (X:=kp) _ lA Dz hJ (.ref D) [y] (.ref D) [arw] (λ_ r1=>r1=upd hJ D (.lst (ys++[y]))) md rfl (.cons QH .nil) ⟨D,ys,y,rfl,rfl,MN,anW,rfl⟩;rw[yh,Ic,um,uo]at Yt;refine bM Yt λ_ atL pO=>?_;obtain⟨_,r1,ŗ,_,rfl⟩:=pO;exact back ŗ hm Sd
 exact codeAny_compStart_list loop (T.self _ 0 _ _ _ Ρ loop)
theorem qd(aG:X.calm=true)(ar:og X d0 iter wi)(Bj:Xt scope X.env=pure cl)(sP:∀y∈scope.names,y.2≠.cell)(q3:scope.kind=.function)(Bq:∀y∈scope.names,y.2=.local→scope.names.lookup y.1=some .local)(nz:∀x c,cl.lookup x=some c→X.env.cells.lookup x=some c)(bj:El cl (Hu scope X.env).names=true)(xh:nX X scope cl N' cs)(af:∀(C:Addr)(s3:ax)(bp:aa)(bZ:List Addr)(ef:List (Addr×Obj)),sd (nG X N' scope cl C s3 bp bZ ef) d0 g∧zy (nG X N' scope cl C s3 bp bZ ef) ifs tt∧bJ (nG X N' scope cl C s3 bp bZ ef) elt b7)(hs:∀x,Mz iter X.env x=pure x:=by intro _;rfl):bJ X (.ListComp elt [⟨d0,iter,ifs,0⟩] scope pos) (lC wi cs g tt b7):=by
 intro pins s σ H Q I h;rw[eval_ListComp];refine Ve aG ar Bj sP q3 Bq nz bj xh af hs I h λD C s4 U m i2 aw Mu q=>⟨m,aw,λh' Bt=>⟨.ref D,U,?_,rfl,q⟩⟩
 obtain⟨f0,f1,f2,cc,f4,eG⟩:=Mu;exact i2.turned (t':=s4.toks) (λb o af e=>(Bt.2 b af).trans e) f0 f1 cc f4 eG
theorem oB{i:Nat}{y:Str}{py Ι:Pos}(fk:X.N.Nodup)(am7:X.N[i]?=some y)(Y1:X.env.scope.names.lookup y=some .local)(anM:x_ (.ListComp elt [⟨d0,iter,ifs,0⟩] scope pos) (some (.Name y py)) Ι.line X.env=pure true)(aG:X.calm=true)(ar:og X d0 iter wi)(Bj:Xt scope X.env=pure cl)(sP:∀y∈scope.names,y.2≠.cell)(q3:scope.kind=.function)(Bq:∀y∈scope.names,y.2=.local→scope.names.lookup y.1=some .local)(nz:∀x c,cl.lookup x=some c→X.env.cells.lookup x=some c)(bj:El cl (Hu scope X.env).names=true)(xh:nX X scope cl N' cs)(af:∀(C:Addr)(s3:ax)(bp:aa)(bZ:List Addr)(ef:List (Addr×Obj)),sd (nG X N' scope cl C s3 bp bZ ef) d0 g∧zy (nG X N' scope cl C s3 bp bZ ef) ifs tt∧bJ (nG X N' scope cl C s3 bp bZ ef) elt b7)(hs:∀x,Mz iter X.env x=pure x:=by intro _;rfl):h4 X (.Assign [.Name y py] (.ListComp elt [⟨d0,iter,ifs,0⟩] scope pos) Ι) (rR (lC wi cs g tt b7) (g4 i)):=by
 intro pins s σ H D0 I h;rw[exec_Assign_Name_used _ _ _ _ anM];refine aR (Ia (aR ?_));show a4 _ X.A (do let _ ←comprehension (.ListComp elt [⟨d0,iter,ifs,0⟩] scope pos) scope X.env _ (newList []) false (eval iter X.env) (some (EG (.Name y py) X.env))) _ _ s;refine aR (gf (Ve (use:=some (EG (.Name y py) X.env)) (QQ:=λ_ s'=>t5 X pins D0 .next s') aG ar Bj sP q3 Bq nz bj xh af hs I h ?_) (λ_ s' bb=>bN (bN bb)) λ_ _ e=>e);intro D C s4 U m i2 aw Mu q;obtain⟨f0,f1,f2,cc,f4,eG⟩:=Mu;refine aq1 (Ý i2 fk am7 (.inl Y1) (v:=.ref D) rfl (λg_ tR⟨a,cF,aI⟩=>?_) (.inr Y1));have amm:C≠a:=by
  rcases aI with rfl|aI
  .exact f1
  .exactλe=>f4 _ _ aI e.symm
 refine⟨m,aw.sameBut cF amm,λh' Bt=>⟨_,U,?_,q⟩⟩;exact tR.turned (t':=g_.toks) (λb o af e=>(Bt.2 b af).trans e) f0 f1 cc f4 eG
end
noncomputable def ml(J:ff)(H1:aa)(xs:List V):Prop:=∀U,aH H1 U→J.stop xs.length U∧(∀i,i<xs.length→J.go i U)∧∀i x ak,i<xs.length→J.m4 i U x ak→ak=U∧xs[i]?=some x
theorem nj{K:aS}{a:Addr}{xs:List V}{H1:aa}(h:aO K H1 a xs):ml (i3 K a) H1 xs:=λU aA=>
 ⟨⟨xs,aA.seq h,bY _⟩,λi ar=>⟨xs,xs[i],aA.seq h,by simp[ar]⟩,λi x ak _ y=>⟨y.1,y.2 xs (aA.seq h)⟩⟩
theorem R_{H1:aa}(lo:Int)(n:Nat):ml (n' lo n) H1 ((dt n).map λi:Nat=>V.int (lo+i)):=λU _=>
 ⟨by show n≤_;simp,λi ar=>(by simpa using ar:i<n),λi x ak ar y=>by
  obtain⟨az,aE⟩:=y;have am5:i<n:=by simpa using ar
  refine⟨az,?_⟩;rw[aE];simp[am5]⟩
theorem asm{J:ff}{xs:List V}{g:jC}{c7:eY}{D:Ends}{σ:St}{H:aa}(Pv:Nat→St→aa→Prop)(dc:ml J H xs)(h0:Pv 0 σ H)(hm:∀i aY U,Pv i aY U→aH H U)(hs:∀i x aY U,xs[i]?=some x→Pv i aY U→g x aY U λhb ak=>c7 {D with cf:=Pv (i+1),fG:=Pv (i+1),hl:=D.cf} hb ak)(hd:∀aY U,Pv xs.length aY U→D.cf aY U):
  ∃W:Nat→Nat→St→aa→Prop,(∃m,W 0 m σ H)∧∀i m σ H,W i m σ H→
   (J.stop i H∧D.cf σ H)∨(J.go i H∧∃N:St→aa→Prop,(∀aY U,N aY U→∃cp,cp<m∧W (i+1) cp aY U)∧∀x U,J.m4 i H x U→g x σ U λhb ak=>c7 {D with cf:=N,fG:=N,hl:=D.cf} hb ak):=by
 refine⟨λi m aY U=>m=xs.length-i∧i≤xs.length∧Pv i aY U,⟨xs.length,by simp,eD _,h0⟩,?_⟩;rintro i m aY U ⟨rfl,ar,p⟩;obtain⟨gV,ha,gW⟩:=dc U (hm i aY U p);by_cases bP:i<xs.length
 .refine .inr ⟨ha i bP,Pv (i+1),λhb ak hY=>⟨xs.length-(i+1),by omega,rfl,bP,hY⟩,λx ak y=>?_⟩;obtain⟨rfl,ex⟩:=gW i x ak bP y;exact hs i x aY _ ex p
 .have e:i=xs.length:=by omega
  subst e;exact .inl ⟨gV,hd aY U p⟩
theorem Jj{J:ff}{xs:List V}{cs:List (Option Nat)}{σ rest:St}{tt:TT}{b7:TE}{Q:a6}{H1:aa}(fl:gQ cs σ=none::rest)(dc:ml J H1 xs)(aq:xs.length<sizeLine)(p:V→Bool)(f:V→V)(test:∀(i:Nat)(x:V)(ak:aa)(R:Bool→aa→Prop),xs[i]?=some x→aH H1 ak→(∀bK,aH ak bK→R (p x) bK)→tt (some x::rest) ak R)(elt:∀(i:Nat)(x:V)(ak:aa)(R:a6),xs[i]?=some x→p x=true→aH H1 ak→(∀bK,aH ak bK→R (f x) bK)→b7 (some x::rest) ak R)(fin:∀(D:Addr)(U:aa),H1 D=none→U D=some (.lst ((xs.filter p).map f))→aH H1 U→Q (.ref D) U):
  ∀D,H1 D=none→∃W:Nat→Nat→List V→St→aa→Prop,(∃m,W 0 m [] (gQ cs σ) (upd H1 D (.lst [])))∧∀i m ys aY U,W i m ys aY U→U D=some (.lst ys)∧ys.length<sizeLine∧
   ((J.stop i U∧Q (.ref D) U)∨(J.go i U∧∀x ak,J.m4 i U x ak→g4 0 x aY ak λgg bp=>tt gg bp λb dw=>
    if b=true then b7 gg dw λy bK=>bK D=some (.lst ys)∧∃cp,cp<m∧W (i+1) cp (ys++[y]) gg (upd bK D (.lst (ys++[y])))
    else∃cp,cp<m∧W (i+1) cp ys gg dw)):=by
 intro D bO;refine⟨λi m ys aY U=>m=xs.length-i∧i≤xs.length∧ys=((xs.take i).filter p).map f∧(∃o,aY=o::rest)∧aH H1 U∧U D=some (.lst ys),⟨xs.length,by simp,eD _,by simp,⟨none,fl⟩,λb o e=>?_,aQ⟩,?_⟩
 .rw[aD (b2 e bO)];exact e
 .rintro i m ys aY U ⟨rfl,ar,rfl,⟨o,rfl⟩,aA,eH⟩;obtain⟨gV,ha,gW⟩:=dc U aA;refine⟨eH,od ?_ aq,?_⟩
  .rw[a'];refine el (lK _ _) ?_;rw[jR];exact JL _ _
  by_cases bP:i<xs.length
  .refine .inr ⟨ha i bP,λx ak y=>?_⟩;obtain⟨rfl,ex⟩:=gW i x ak bP y;show tt (some x::rest) ak _;refine test i x ak _ ex aA λdw s4=>?_;have aP:xs.take (i+1)=xs.take i++[x]:=by rw[mf,ex];rfl
   cases aW:p x with
   |true=>
    refine gp ?_;refine elt i x dw _ ex aW (aA.trans s4) λbK s5=>⟨s5 _ _ (s4 _ _ eH),xs.length-(i+1),by omega,rfl,bP,?_,⟨_,rfl⟩,λb ob e=>?_,aQ⟩
    .rw[aP,m9,eC];simp[aW]
    .rw[aD (b2 e bO)];exact s5 _ _ (s4 _ _ (aA _ _ e))
   |false=>
    refine gF ⟨xs.length-(i+1),by omega,rfl,bP,?_,⟨_,rfl⟩,aA.trans s4,s4 _ _ eH⟩;rw[aP,m9,eC];simp[aW]
  .have e:i=xs.length:=by omega
   subst e;exact .inl ⟨gV,fin D U bO (by rw[eH,mh]) aA⟩
theorem afi{J:ff}{xs:List V}{cs:List (Option Nat)}{σ rest:St}{b7:TE}{Q:a6}{H1:aa}(fl:gQ cs σ=none::rest)(dc:ml J H1 xs)(aq:xs.length<sizeLine)(f:V→V)(elt:∀(i:Nat)(x:V)(ak:aa)(R:a6),xs[i]?=some x→aH H1 ak→(∀bK,aH ak bK→R (f x) bK)→b7 (some x::rest) ak R)(fin:∀(D:Addr)(U:aa),H1 D=none→U D=some (.lst (xs.map f))→aH H1 U→Q (.ref D) U):
  ∀D,H1 D=none→∃W:Nat→Nat→List V→St→aa→Prop,(∃m,W 0 m [] (gQ cs σ) (upd H1 D (.lst [])))∧∀i m ys aY U,W i m ys aY U→U D=some (.lst ys)∧ys.length<sizeLine∧
   ((J.stop i U∧Q (.ref D) U)∨(J.go i U∧∀x ak,J.m4 i U x ak→g4 0 x aY ak λgg bp=>rL gg bp λb dw=>
    if b=true then b7 gg dw λy bK=>bK D=some (.lst ys)∧∃cp,cp<m∧W (i+1) cp (ys++[y]) gg (upd bK D (.lst (ys++[y])))
    else∃cp,cp<m∧W (i+1) cp ys gg dw)):=
 Jj fl dc aq (λ_=>true) f (λi x ak R _ _ h=>h ak (aH.refl _)) (λi x ak R ex _ aA h=>elt i x ak R ex aA h) λD U ai aj bk=>fin D U ai (by rw[aj,D4.mpr λ_ _=>rfl]) bk
open PySem PySem.Spec PyProof.Rows ag
noncomputable def signs(x:Str):List V:=x.cps.toList.map λc=>V.str ⟨#[c]⟩
noncomputable def DY(x:Str):ff:=⟨λi _=>i<x.cps.size,λi H v U=>U=H∧∃c,x.cps[i]?=some c∧v=.str ⟨#[c]⟩,λi _=>i=x.cps.size⟩
theorem afj{H1:aa}(x:Str):ml (DY x) H1 (signs x):=λU _=>by
 have aq:(signs x).length=x.cps.size:=by simp[signs]
 refine⟨aq,λi ar=>by rw[aq]at ar;exact ar,λi v ak ar y=>?_⟩;obtain⟨az,c,aE,dj⟩:=y;refine⟨az,?_⟩;subst dj;have fV:x.cps.toList[i]?=some c:=by simpa using aE
 simp[signs,fV]
theorem aaB{P:bL}{w:bC}{K:aS}{d0:Expr}(it:Addr)(x:Str)(t:Tok){ty:String}(uR:ty="str_ascii_iterator"∨ty="str_iterator"):Turn P w K d0 (DY x) [it] it (λi h=>h.IsStrIter it ty x t i)where
 mem:=by simp
 obj:=λi h st b af=>by
  have e:b=it:=by simpa using af
  subst e;obtain⟨o,e,c,d⟩:=st;exact⟨o,e,λv z=>by rw[d]at z;cases z⟩
 keep:=λi h h' st k=>by obtain⟨o,e,r⟩:=st;exact⟨o,k it (by simp) o e,r⟩
 item:=by
  intro X gP hw f9 aG i pins s σ H E I hf st bz;subst gP hw f9;obtain⟨f0,f1,f2,cc,f4,eG⟩:=hf it (by simp);have ar:i<x.cps.size:=bz;have kZ:x.cps[i]?=some x.cps[i]:=by simp[ar]
  rcases uR with rfl|rfl
  .refine wpAny_pyNext_ascii_item st kZ λh' fc cF=>?_;have aU:Inv X pins σ H {s with heap:=h',toks:=s.toks+1}:=I.turned (λb o af e=>(cF.2 b af).trans e) f0 f1 cc f4 eG;obtain⟨o,e,c,d⟩:=id fc;exact⟨_,rfl,yj (s:={s with heap:=h',toks:=s.toks+1}) e c d (by decide) ⟨.str ⟨#[x.cps[i]]⟩,H,aU,⟨_,rfl⟩,⟨rfl,_,kZ,rfl⟩,fc,λb af=>(hf b af).1⟩⟩
  .refine wpAny_pyNext_wide_item st kZ λh' fc cF=>?_;have aU:Inv X pins σ H {s with heap:=h',toks:=s.toks+1}:=I.turned (λb o af e=>(cF.2 b af).trans e) f0 f1 cc f4 eG;obtain⟨o,e,c,d⟩:=id fc;exact⟨_,rfl,yj (s:={s with heap:=h',toks:=s.toks+1}) e c d (by decide) ⟨.str ⟨#[x.cps[i]]⟩,H,aU,⟨_,rfl⟩,⟨rfl,_,kZ,rfl⟩,fc,λb af=>(hf b af).1⟩⟩
 done:=by
  intro X gP hw f9 aG i pins s σ H E I hf st bz;subst gP hw f9;obtain⟨f0,f1,f2,cc,f4,eG⟩:=hf it (by simp);have kZ:x.cps[i]?=none:=by have e:i=x.cps.size:=bz;simp[e]
  rcases uR with rfl|rfl
  .exact wpAny_pyNext_ascii_end (I.ok.hd aG) st kZ λh' d8=>⟨rfl,I.turned (t':=s.toks) (λb o af e=>d8 b o af e) f0 f1 cc f4 eG⟩
  .exact wpAny_pyNext_wide_end (I.ok.hd aG) st kZ λh' d8=>⟨rfl,I.turned (t':=s.toks) (λb o af e=>d8 b o af e) f0 f1 cc f4 eG⟩
 self:=λ_ _ _ _ _ st h=>by
  rcases uR with rfl|rfl
  .exact wpAny_pyIter_striter_ascii st h
  .exact wpAny_pyIter_striter_wide st h
section
variable{X:bh}{d0:Expr}
noncomputable def ah3(c0:TE):TI:=λσ H R=>c0 σ H λx H1=>∃z,x=.str z∧R (DY z) H1
theorem afk{l:Expr}{c0:TE}(aq:bJ X l c0):og X d0 l (ah3 c0):=by
 intro pins s σ H R I h;refine bM (aq pins s σ H _ I h) λv s1⟨x,H1,aU,cJ,bT⟩=>?_;obtain⟨z,e,q⟩:=bT;subst e;obtain⟨t,rfl⟩:=cJ;have fin:∀(ty:String)(_:ty="str_ascii_iterator"∨ty="str_iterator"),JZ X pins σ d0 R (.ref s1.heap.objs.size) {s1 with heap:=s1.heap.push {cls:=.type ty,data:=.fields #[.str z t,.int 0 0]}}:=λty uR=>by
  refine⟨s1.heap.objs.size,[s1.heap.objs.size],_,_,H1,rfl,aU.kept (t':=s1.toks) λb o e=>dJ _ e,aaB _ z t uR,⟨_,hg _ rfl,rfl,rfl⟩,λb af=>?_,q⟩;have e:b=s1.heap.objs.size:=by simpa using af
  subst e;exact aU.sG (bY _) (aU.bj.fresh (bY _))
 cases aI:z.cps.all (·<128)with
 |true=>exact wpAny_pyIter_ascii aI (fin _ (.inl rfl))
 |false=>exact wpAny_pyIter_wide aI (fin _ (.inr rfl))
end
section
variable{X:bh}{e:Expr}{b7:TE}{lo ar:Option Expr}{c0 tu:t6}{pos e8:Pos}
theorem å:fZ X (hQ .LtE) (λx y H Q=>∃i j,x=.str i∧y=.str j∧Q (.aV (!decide (j.cps.toList<i.cps.toList))) H):=by intro pins s σ H x y v u Q I bo bF h;obtain⟨i,j,rfl,rfl,q⟩:=h;obtain⟨t,rfl⟩:=bo;obtain⟨t',rfl⟩:=bF;exact PySem.P.le_str (fF I q rfl)
theorem Vb(c a:Nat):(!decide ((⟨#[c]⟩:Str).cps.toList<(⟨#[a]⟩:Str).cps.toList))=decide (a≤c):=by
 have h:((⟨#[c]⟩:Str).cps.toList<(⟨#[a]⟩:Str).cps.toList)↔c<a:=by show([c]:List Nat) < [a]↔c<a;simp[List.cons_lt_cons_iff]
 by_cases q:c<a
 .rw[cB (h.mpr q),dP (by omega)];rfl
 .rw[dP λz=>q (h.mp z),cB (by omega)];rfl
theorem Ci(aG:X.calm=true):j' X (.builtin "all") (λxs H Q=>∃(p:Addr)(bs:List Bool),xs=[.ref p]∧aO X.K H p (bs.map V.aV)∧Q (.aV (bs.all id)) H):=by
 intro pins s σ H xs us Q I r h;obtain⟨p,bs,rfl,bb,q⟩:=h;obtain⟨u,rfl,eP⟩:=vals1 r;cases eP;obtain⟨its,cz,pl,bB⟩:=I.list bb;have hlen:bs.length=its.length:=by have:=cz.length;rwa [a']at this
 obtain⟨o,n,Mo,_⟩:=id pl;have jL:p≠s.heap.objs.size:=en (dK Mo);have d9:X.A.in1.handled=none:=I.ok.hd aG;refine call_all_walk (Dt pl.isList ?_);refine⟨s.heap.objs.size,[s.heap.objs.size,p],[s.heap.objs.size],its.toArray.size,_,_,λi=>bs.getD i false,rfl,EE d9 _ p jL its.toArray,⟨⟨_,hg _ rfl,rfl,rfl⟩,pl.isList.push _⟩,?_,λh' aP k=>?_⟩
 .intro i v s' wO arN gP fP;have Yp:its[i]?=some v:=by simpa using gP
  have ar:i<its.length:=(eR.mp Yp).1;have af:(bs.map V.aV)[i]?=some (V.aV (bs.getD i false)):=by rw[cL,ct (by omega:i<bs.length)];simp[cH,hlen▸ar]
  obtain⟨u',bR,cE⟩:=cz.get af;rw[Yp]at bR;cases bR;cases cE;exact m2 fP
 .have e:(dt its.toArray.size).all (λi=>bs.getD i false)=bs.all id:=by
   rw[gh,←hlen,yD];simp only[wA,gZ];constructor
   .intro a b af;obtain⟨i,ar,rfl⟩:=Jz.mp af;have:=a i ar;simpa[cH,ar]using this
   .intro a i ar;have:=a bs[i] (jA ar);simpa[cH,ar]using this
  rw[e];exact⟨.aV (bs.all id),H,I.kept λb ob z=>k b ob (by simpa using en (dK z)) (dJ _ z),rfl,q⟩
inductive ah4(K:aS)(xs:List V)(H:aa)(Q:a6):Prop where
 |mk (x c:V) (L_:String) (t:Value) (b:Bool) (bW:xs=[x,c]) (bG:c=.ty L_∧kG K H x t∧oi K t (.type L_)=some b) (b4:Q (.aV b) H)
theorem pL:j' X (.builtin "isinstance") (ah4 X.K):=by intro pins s σ H xs us Q I r h;obtain⟨x,c,L_,t,b,rfl,⟨rfl,ty,e⟩,q⟩:=h;obtain⟨u,eX,rfl,eP,hZ⟩:=vals2 r;cases hZ;exact ß I eP ty e λaP=>⟨.aV b,H,I.tok aP,rfl,q⟩
end
mutual
inductive mb(K:aS)(H:aa):V→PyData→Prop
 |bD:mb K H .bD .none
 |aV (b:Bool):mb K H (.aV b) (.bool b)
 |int (i:Int):mb K H (.int i) (.int i)
 |str (x:Str):mb K H (.str x) (.str x)
 |lst {a:Addr} {xs:List V} {ds:List PyData}:aO K H a xs→qE K H xs ds→mb K H (.ref a) (.list ds)
 |tup {a:Addr} {xs:List V} {ds:List PyData}:b1 K H a xs→qE K H xs ds→mb K H (.ref a) (.tuple ds)
inductive qE(K:aS)(H:aa):List V→List PyData→Prop
 |nil:qE K H [] []
 |cons {v:V} {d:PyData} {vs:List V} {ds:List PyData}:mb K H v d→qE K H vs ds→qE K H (v::vs) (d::ds)
end
section
variable{X:bh}{pins:List (Addr×Obj)}{σ:St}{H:aa}{s:ax}
mutual
theorem B_(I:Inv X pins σ H s):∀{v:V}{d:PyData}{u:Value},mb X.K H v d→RelV v u→∃as,Reads s.heap u d as
 |_,_,_,.bD,r=>by cases r;exact⟨_,.none⟩
 |_,_,_,.aV b,r=>by cases r;exact⟨_,.bool b⟩
 |_,_,_,.int i,r=>by obtain⟨t,rfl⟩:=r;exact⟨_,.int i t⟩
 |_,_,_,.str x,r=>by obtain⟨t,rfl⟩:=r;exact⟨_,.str x t⟩
 |_,_,_,.lst h ds,r=>by cases r;obtain⟨its,cz,⟨o,n,e,c,_,d⟩,_⟩:=I.list h;obtain⟨as,q⟩:=QZ I ds cz;exact⟨_,.list e c d (by simpa using q)⟩
 |_,_,_,.tup h ds,r=>by cases r;obtain⟨its,cz,⟨o,e,c,n,d⟩,_⟩:=I.tuple h;obtain⟨as,q⟩:=QZ I ds cz;exact⟨_,.tuple e c d (by simpa using q)⟩
theorem QZ(I:Inv X pins σ H s):∀{vs:List V}{ds:List PyData}{us:List Value},qE X.K H vs ds→cN vs us→∃as,ReadsAll s.heap us ds as
 |_,_,_,.nil,.nil=>⟨_,.nil⟩
 |_,_,_,.cons a b,.cons r t=>by obtain⟨as,q⟩:=B_ I a r;obtain⟨bs,gz⟩:=QZ I b t;exact⟨_,.cons q gz⟩
end
end
section
variable{X:bh}
inductive ag1(K:aS)(neg:Bool)(x:ag.V)(y:ag.V)(H:aa)(Q:a6):Prop where
 |mk (d:_) (e:_) (bW:mb K H x d) (bG:mb K H y e) (b4:qN d=true) (cM:qN e=true) (d3:Q (.aV (if neg then !hx d e else hx d e)) H)
noncomputable def ah5(K:aS)(neg:Bool):iu:=λx y H Q=>ag1 K neg x y H Q
theorem Ih(cj:X.A.units+64<cLine):fZ X (hQ .NotEq) (ah5 X.K true):=by intro pins s σ H x y v u Q I bo bF h;obtain⟨d,e,hd,he,dg,cK,q⟩:=h;obtain⟨as,oV⟩:=B_ I hd bo;obtain⟨bs,mR⟩:=B_ I he bF;exact ne_dataH oV mR dg cK cj ⟨.aV _,H,I,rfl,q⟩
end
mutual
theorem Tx:∀d:PyData,d.canLay0=true→hx d d=true
 |.none,_=>rfl
 |.bool b,_=>by simp[hx]
 |.int i,_=>by simp[hx]
 |.str x,_=>by simp[hx]
 |.list xs,h=>by simp only[hx];exact P7 xs h
 |.tuple xs,h=>by simp only[hx];exact P7 xs h
 |.dict _,h=>by cases h
theorem P7:∀ds:List PyData,qJ ds=true→PyData.eqvAll ds ds=true
 |[],_=>rfl
 |d::r,h=>by simp only[qJ,hG]at h;simp only[PyData.eqvAll,Tx d h.1,P7 r h.2,Bool.and_self]
end
open PySem PySem.Spec PyProof.Rows ag
noncomputable def qv(val:Nat→Str):Nat→Str→Bool
 |0=>λ_=>false
 |i+1=>λk=>qv val i k||decide (k=val i)
noncomputable def mT(val:Nat→Str):Nat→Nat
 |0=>0
 |i+1=>if qv val i (val i)then mT val i else mT val i+1
theorem Ux(val:Nat→Str):∀i,mT val i≤i
 |0=>bY _
 |i+1=>by have:=Ux val i;unfold mT;split<;>omega
theorem TF(val:Nat→Str)(k:Str):∀i,qv val i k=true↔∃j,j<i∧val j=k
 |0=>by simp[qv]
 |i+1=>by
  simp only[qv,Bool.or_eq_true,TF val k i,decide_eq_true_eq];constructor
  .rintro(⟨j,bq,e⟩|e)
   .exact⟨j,by omega,e⟩
   .exact⟨i,by omega,e.symm⟩
  .rintro⟨j,bq,e⟩;by_cases h:j=i
   .subst h;exact .inr e.symm
   .exact .inl ⟨j,by omega,e⟩
theorem TG(val:Nat→Str):∀n,(∀i j,i<j→j<n→val i≠val j)→mT val n=n
 |0,_=>rfl
 |n+1,h=>by
  have a7:=TG val n λi j a b=>h i j a (by omega);have hm:¬qv val n (val n)=true:=λz=>by obtain⟨j,bq,e⟩:=(TF val (val n) n).mp z;exact h j n bq (by omega) e
  unfold mT;rw[aX hm,a7]
theorem Zg(x:Str)(t:Tok):Ko x (.str x t)=true:=by simp[Ko]
theorem aaf{prog:bL}{w:bC}{A:c4}{R:ot→ax→Prop}{I:Addr}{bZ wr:List Addr}{n:Nat}{Pv:Nat→Value→Prop}{WE:Nat→Heap→Prop}(W:t8 prog w A.in1 I bZ wr n Pv WE)(S:Addr)(Yr:S∉bZ)(val:Nat→Str)(Bu:∀i v,Pv i v→∃t,v=.str (val i) t)(af:n+1<scanBound):∀(k i:Nat)(s:ax),n-i=k→i≤n→WE i s.heap→s.heap.SetOf (strKind prog w) S (qv val i) (mT val i)→
   (∀h' aP,(∀b o,b≠S→b∉wr→s.heap.get? b=some o→h'.get? b=some o)→h'.SetOf (strKind prog w) S (qv val n) (mT val n)→R (.ok (.ret .none)) {s with heap:=h',toks:=aP})→
   jX (bg prog w) A (.builtin "set.update.loop" ⟨[.ref S,.ref I],[]⟩) R s:=by
 have Ys:S∉wr:=λz=>Yr (W.sub _ z);have stays:∀{h h':Heap}{Et:Str→Bool}{m:Nat},(∀o,h.get? S=some o→h'.get? S=some o)→h.SetOf (strKind prog w) S Et m→h'.SetOf (strKind prog w) S Et m:=λbV⟨o,es,ep,t,bw,r⟩=>⟨o,es,ep,t,bV o bw,r⟩
 intro k
 induction k with
 |zero=>
  intro i s aT ar st f' cC;obtain rfl:i=n:=by omega
  refine ov acG ?_;rw[o5 Wc _];show a4 _ A.in1 (jv (.ref I) >>=_) _ _ s;refine aR (W.done s _ _ st λh' aP bV=>?_);show a4 _ A.in1 (ret gB) _ _ _;exact bN (cC h' aP (λb o _ af e=>bV b o af e) (stays (λo e=>bV S o Ys e) f'))
 |succ k a7=>
  intro i s aT ar st f' cC;have bP:i<n:=by omega
  refine ov acG ?_;rw[o5 Wc _];show a4 _ A.in1 (jv (.ref I) >>=_) _ _ s;refine aR (W.item i s _ _ bP st λv ai aP gP ap8 bV=>?_);obtain⟨t,rfl⟩:=Bu i v gP;have Bg:=stays (λo e=>bV S o Ys e) f';show a4 _ A.in1 (pV [t7 (val i) t] (setAdd S (.str (val i) t)) >>=_) _ _ _;refine aR (lF ?_);unfold setAdd;refine lF (aR ((strKind prog w).pyHash (k:=val i) (Zg (val i) t) ?_));have anH:mT val i+1<scanBound:=by have:=Ux val i;omega
  refine wpAny_setAddHashed_of (knd:=strKind prog w) (Zg (val i) t) rfl Bg anH λaj cF amv=>?_;refine bN ⟨nQ Wc _,a7 (i+1) _ (by omega) bP (W.frame _ _ _ ap8 λb dk o e=>(cF.2 b λz=>Yr (z▸dk)).trans e) amv λbk aqv an6 FN=>?_⟩;exact cC bk aqv (λb o g6 hA e=>an6 b o g6 hA ((cF.2 b g6).trans (bV b o hA e))) FN
set_option maxHeartbeats 8000000 in
theorem ars{prog:bL}{w:bC}{A:c4}{E:Value→ax→Prop}{s:ax}{l:Addr}{items:Array Value}{val:Nat→Str}{Q:Value→ax→Prop}(d9:A.handled=none)(aq:s.heap.IsList l items)(Bu:∀(i:Nat)(v:Value),items[i]?=some v→∃t,v=.str (val i) t)(af:items.size+1<scanBound)(h:∀(h':Heap)(aP:Nat),h'.SetOf (strKind prog w) s.heap.objs.size (qv val items.size) (mT val items.size)→(∀b o,s.heap.get? b=some o→h'.get? b=some o)→Q (.ref s.heap.objs.size) {s with heap:=h',toks:=aP}):
  a4 (bg prog w) A (call (.type "set") [.ref l]) Q E s:=by
 obtain⟨c,c0,asJ⟩:=F.called_set.mro;have jr:=F.called_set.made;have nJ:=F.called_set.sub;have ate:=F.called_set.notType;have atf:=F.called_set.canCreate;have atg:=F.typeCall_set_1 (.ref l);refine rI (aks ?_);show a4 _ _ (callAny (.type "set") _) _ _ _;refine bN ⟨Ub _ (by decide+kernel),ov F.entry_type_call ?_⟩;rw[Around.under_plain (weight_type_call_type "set" [.ref l] []) rfl]
 repeat (any_goals (first|assumption|wp_step))
 generalize Bf:s.heap.objs.size=S at *;refine uj (code_set_new_1 (.ref l) (E:=E) (Q₁:=λob s1=>∃led:Bool,ob=.ref S∧s1={s with heap:=s.heap.push {cls:=.type "set",dict:=none,data:=.set #[] 0 (.fresh 0 0 led)}}) λled=>⟨led,by rw[Bf],rfl⟩) λr s1 au=>?_;cases r with
 |error e=>exact au
 |ok er=>
  cases er with
  |ret ob=>
   obtain⟨led,rfl,rfl⟩:=au;have uK:(s.heap.push {cls:=.type "set",dict:=none,data:=.set #[] 0 (.fresh 0 0 led)}).get? S=some {cls:=.type "set",dict:=none,data:=.set #[] 0 (.fresh 0 0 led)}:=by rw[←Bf];exact hg _ rfl
   have q0:Shared.TypeIs {s with heap:=s.heap.push {cls:=.type "set",dict:=none,data:=.set #[] 0 (.fresh 0 0 led)}} (.ref S) "set":=⟨_,uK,rfl⟩
   have cI:=F.called_set.init.lookup;have c3:=F.called_set.init.bind (.ref S)
   repeat (any_goals (first|assumption|wp_step))
   refine uj (EJ (R:=wants (λr s2=>r=.none∧∃h' aP,s2={s with heap:=h',toks:=aP}∧h'.SetOf (strKind prog w) S (qv val items.size) (mT val items.size)∧(∀b o,s.heap.get? b=some o→h'.get? b=some o)) E)
    F.called_set.init.plain F.entry_set_init (check_set_init_1 q0 ?_)) λdr s2 nx=>?_
   .obtain⟨⟨l4,dR,atE,oT⟩,lY,pS,nl,FR⟩:=id aq;simp only at pS FR;subst pS FR;have asL:=dJ (h:=s.heap) {cls:=.type "set",dict:=none,data:=.set #[] 0 (.fresh 0 0 led)} lY;have fb:=F.sub_list_set;have e8:=F.sub_list_frozenset;have lr:(si "list"==si "dict")=false:=by decide
    have ji:=aq.push (o:={cls:=.type "set",dict:=none,data:=.set #[] 0 (.fresh 0 0 led)});unfold Builtin.«set.__init__» noKeywords arG;generalize ams:Hj=og
    wp_walk
    subst ams;refine Dt ji (aR (wpAny_runValue ?_));have YX:l<S:=by rw[←Bf];exact dK lY
    have hsz:(s.heap.push {cls:=.type "set",dict:=none,data:=.set #[] 0 (.fresh 0 0 led)}).objs.size=S+1:=by rw[wh,Bf]
    refine aaf (EE (A:=A.in1.in1.in1) (by simp[d9]) _ l (by rw[hsz];exact en (JK YX)) items) S ?_ val Bu af (items.size-0) 0 _ (by omega) (eD _) ⟨⟨_,hg _ rfl,rfl,rfl⟩,ji.push _⟩ ?_ ?_
    .rw[hsz];simp only[dx,dN,or_false,not_or];exact⟨en (wG _),JM YX⟩
    .have am1:=dJ (h:=s.heap.push {cls:=.type "set",dict:=none,data:=.set #[] 0 (.fresh 0 0 led)}) {cls:=.type "list_iterator",data:=.fields #[.ref l,.int 0 0]} uK;exact(arR (knd:=strKind prog w) led).setOf am1 (by unfold scanBound;omega)
    .intro h' aP bV Be;show a4 _ _ _ _ _ _;refine bN ?_;show a4 _ _ (ret gB) _ _ _;refine bN ⟨rfl,h',aP,rfl,Be,λb o e=>?_⟩;have pR:b<S:=by rw[←Bf];exact dK e
     exact bV b o (en pR) (λz=>en (JK pR) (by rw[hsz]at z;simpa using z)) (dJ _ (dJ _ e))
   .cases dr with
    |error e=>exact nx
    |ok al3=>
     cases al3 with
     |ret r=>
      obtain⟨rfl,h',aP,rfl,Be,bV⟩:=nx
      repeat (any_goals (first|assumption|wp_step))
      exact h _ _ Be bV
     |_=>exact nx.elim
  |_=>exact au.elim
noncomputable def Em(P:bL)(w:bC)(a:Addr)(n:Nat):d1:=.ext λh=>∃S,h.SetOf (strKind P w) a S n
section
variable{X:bh}
theorem aaC(aG:X.calm=true):j' X (.type "set") (λxs H Q=>∃(p:Addr)(ys:List Str),xs=[.ref p]∧aO X.K H p (ys.map V.str)∧ys.length<1000∧∀q,H q=none→Q (.ref q) (upd H q (Em X.prog X.w q (mT (λi=>ys.getD i iM) ys.length)))):=by
 intro pins s σ H xs us Q I r h;obtain⟨p,ys,rfl,bb,aq,q⟩:=h;obtain⟨u,rfl,eP⟩:=vals1 r;cases eP;obtain⟨its,cz,pl,bB⟩:=I.list bb;have hlen:ys.length=its.length:=by have:=cz.length;rwa [a']at this
 have hsz:its.toArray.size=ys.length:=by rw[hlen];rfl
 refine ars (val:=λi=>ys.getD i iM) (I.ok.hd aG) pl.isList (λi v e=>?_) (by rw[hsz];unfold scanBound;omega) λh' aP f' bV=>?_
 .have bR:its[i]?=some v:=by simpa using e
  have ar:i<ys.length:=by rw[hlen];exact(eR.mp bR).1
  have af:(ys.map V.str)[i]?=some (V.str (ys.getD i iM)):=by rw[cL,ct ar];simp[cH,ar]
  obtain⟨u',aE,cE⟩:=cz.get af;rw[bR]at aE;cases aE;exact cE
 .rw[hsz]at f';refine⟨.ref s.heap.objs.size,_,I.laid bV (bY _) ?_,rfl,q _ (I.bj.fresh (bY _))⟩;obtain⟨o,es,ep,t,bw,cE⟩:=id f';exact⟨⟨_,f'⟩,⟨o,bw⟩,λai aj⟨Et,cD,uw,uu,t',j8,dr⟩an5=>⟨Et,cD,uw,uu,t',an5 _ j8,dr⟩⟩
theorem ari:j' X (.builtin "len") (λxs H Q=>∃q n,xs=[.ref q]∧H q=some (Em X.prog X.w q n)∧Q (.int n) H):=by
 intro pins s σ H xs us Q I r h;obtain⟨a,n,rfl,bb,q⟩:=h;obtain⟨u,rfl,eP⟩:=vals1 r;cases eP;obtain⟨⟨S,o,es,ep,t,bw,hex,hd,_,_,af,hf,aw⟩,_,_⟩:=(show eo X.prog X.w H s.heap a (Em X.prog X.w a n)from I.bj a _ bb)
 subst aw;have amY:(es.size:Int)<2 ^ 63:=by unfold scanBound at af;omega
 exact call_len_set bw hex hd hf amY ⟨.int es.size,H,I.tok _,⟨_,rfl⟩,q⟩
end
open PySem PySem.Spec PyProof.Rows ag
theorem afl{P:bL}{w:bC}{H:aa}{h:Heap}{a:Addr}{o:d1}(x:eo P w H h a o):∃ob,h.get? a=some ob:=by
 cases o with
 |lst xs=>obtain⟨_,_,_,_,e⟩:=x;exact⟨_,e⟩
 |tup xs=>obtain⟨_,_,_,ob,e,_⟩:=x;exact⟨ob,e⟩
 |bX kvs=>obtain⟨_,_,_,_,ob,_,_,e,_⟩:=x;exact⟨ob,e⟩
 |eO kvs=>obtain⟨_,_,_,_,ob,_,_,e,_⟩:=x;exact⟨ob,e⟩
 |set S n=>obtain⟨ob,_,_,_,e,_⟩:=x;exact⟨ob,e⟩
 |ins C ah fs=>obtain⟨_,_,_,e,_⟩:=x;exact⟨_,e⟩
 |own y=>obtain⟨ob,e⟩:=x;exact⟨ob,e⟩
 |Ie fs=>obtain⟨_,⟨ob,_,_,e,_⟩,_⟩:=x;exact⟨ob,e⟩
 |Hw lo ar=>obtain⟨_,_,_,e⟩:=x;exact⟨_,e⟩
 |fH ob u=>obtain⟨e,_⟩:=x;exact⟨_,e⟩
 |qs ps=>exact⟨_,(show h.get? a=some _ from x)⟩
 |met f y=>exact⟨_,(show h.get? a=some _ from x)⟩
 |ext qz=>obtain⟨_,⟨ob,e⟩,_⟩:=x;exact⟨ob,e⟩
theorem aaD{P:bL}{w:bC}{H:aa}{h:Heap}{a:Addr}(ok:fp P w H h)(e:h.get? a=none):H a=none:=by
 cases q:H a with
 |none=>rfl
 |some o=>
  obtain⟨ob,z⟩:=afl (ok a o q);rw[e]at z;cases z
structure mx(P:bL)(w:bC)(fr:List Env)(H:aa)(s:ax)(bc:Addr)(cls a0:Value)(U:aa)(B:Heap)(s':ax):Prop where
 er:r3 B fr bc cls a0 s'.heap
 os:s'.os=s.os
 bare:qA s'.gens
 ok:fp P w U B
 un:hi (eW fr) [] H U s.heap s'.heap
 j9:∀b o,s.heap.get? b=some o→b∉eW fr→∃cD,B.get? b=some cD∧(H b=none→cD=o)
noncomputable def eQ(P:bL)(w:bC):lH:=λfr H s E e s'=>∃(bc:Addr)(cls a0:Value)(U:aa)(B:Heap),e=.ref bc∧mx P w fr H s bc cls a0 U B s'∧E cls none U
section
variable{P:bL}{w:bC}{fr:List Env}{H U:aa}{s s':ax}{bc:Addr}{cls a0:Value}{B:Heap}
theorem mx.move(T:mx P w fr H s bc cls a0 U B s'){aj:Heap}(er:r3 B fr bc cls a0 aj)(up:s'.heap.UpToSlots aj):mx P w fr H s bc cls a0 U B {s' with heap:=aj}:=by
 refine⟨er,T.os,T.bare,T.ok,⟨λb o e n af ay=>?_,λb o e n af ay=>?_,T.un.free,λb o e ay=>?_,T.un.hE,T.un.iR,T.un.jw⟩,T.j9⟩
 .obtain⟨cD,z,q⟩:=T.j9 b o e af;rw[q n]at z;exact er.1 b o z
 .obtain⟨br,z⟩:=T.un.slot b o e n af ay;obtain⟨_,ob,bR,gc⟩:=T.er.2.2.1.mem af;rw[z]at bR;cases bR;obtain⟨mV,dp⟩:=up b _ z gc;exact⟨mV,dp⟩
 .by_cases af:b∈eW fr
  .obtain⟨_,ob,bR,gc⟩:=T.er.2.2.1.mem af;obtain⟨mV,dp⟩:=up b _ bR gc;exact⟨_,dp⟩
  .obtain⟨cD,z,_⟩:=T.j9 b o e af;exact⟨cD,er.1 b cD z⟩
theorem mx.bj(T:mx P w fr H s bc cls a0 U B s'):fp P w U s'.heap:=T.ok.kept λb u e=>T.er.1 b u e
theorem mx.new(T:mx P w fr H s bc cls a0 U B s'):U bc=none:=aaD T.ok T.er.2.1
theorem mx.aoW(T:mx P w fr H s bc cls a0 U B s'){b:Addr}{o:Obj}(e:s.heap.get? b=some o):b≠bc:=by
 rintro rfl;by_cases af:b∈eW fr
 .obtain⟨_,ob,bR,gc⟩:=T.er.2.2.1.mem af;obtain⟨rn,vs,he,_,hd,_⟩:=T.er.first;rw[he]at bR;cases bR;exact gc vs hd
 .obtain⟨cD,z,_⟩:=T.j9 b o e af;rw[T.er.2.1]at z;cases z
end
section
variable{P:bL}{w:bC}{K:aS}{mg:Str→Option Value}{base:Heap}{N:List Str}{qual:Str}{scope:Scope}{f:Addr}{cdv:Value}{A:c4}{outer:List Env}{s:ax}{H:aa}{E:b6}
noncomputable abbrev fj(P:bL)(w:bC)(K:aS)(mg:Str→Option Value)(base:Heap)(N:List Str)(qual:Str)(scope:Scope)(f:Addr)(cdv:Value)(A:c4)(outer:List Env)(s:ax)(H:aa)(E:b6):bh:=
 jt (eQ P w) P w K mg base N qual scope f cdv A outer s H E
theorem xO{pins:List (Addr×Obj)}{σ:St}{H1:aa}{s1:ax}(I:Inv (fj P w K mg base N qual scope f cdv A outer s H E) pins σ H1 s1){b:Addr}{o:Obj}(e:s.heap.get? b=some o)(af:b∉eW outer):
  b∉eW (fj P w K mg base N qual scope f cdv A outer s H E).stack:=λz=>by
 rcases dx.mp (I.CY b z)with q|q
 .have l:=dK e;have fI:s.heap.objs.size≤b:=by have:=I.ok.above;rw[←q]at this;exact this
  exact qI _ (jS l fI)
 .exact af q
theorem ą{pins:List (Addr×Obj)}{σ:St}{H1:aa}{s1:ax}{h':Heap}{bc:Addr}{cls:Value}{vs:List Value}(I:Inv (fj P w K mg base N qual scope f cdv A outer s H E) pins σ H1 s1)(ay:UQ s1.heap h' bc cls vs)(j5:E cls none H1):(fj P w K mg base N qual scope f cdv A outer s H E).dA (.ref bc) {s1 with heap:=h'}:=by
 have Bn:=I.ok.frames;have j7:∀env∈(fj P w K mg base N qual scope f cdv A outer s H E).stack,∀b,env.frame=some b→b∈eW (fj P w K mg base N qual scope f cdv A outer s H E).stack:=λenv he b af=>Jy.mpr ⟨env,he,af⟩;have Br:∀b o,H1 b=some o→b∉eW (fj P w K mg base N qual scope f cdv A outer s H E).stack:=λb o e z=>by rw[I.HH b z]at e;cases e
 refine wpAny_leaves_madeW (base:=t4 s1.heap (eW (fj P w K mg base N qual scope f cdv A outer s H E).stack)) Bn rfl (λb o q=>Wt _ q) (acX I.stack j7) ay λaj t fe iH n2 n3=>?_;have j9:∀b o,s1.heap.get? b=some o→b∉eW (fj P w K mg base N qual scope f cdv A outer s H E).stack→(t4 s1.heap (eW (fj P w K mg base N qual scope f cdv A outer s H E).stack)).get? b=some o:=λb o e n=>Wq _ e n;refine⟨bc,cls,.ref t,H1,_,rfl,⟨fe,I.os,I.bare,λb ob e=>(I.bj b ob e).jO (λc u aG q=>j9 c u q ?_) (λ_ q=>q) λ_ _ q=>q,⟨λb o e n af e7=>?_,λb o e n af e7=>?_,I.base.free,λb o e e7=>?_,I.base.hE,I.base.iR,I.base.jw⟩,λb o e af=>?_⟩,j5⟩
 .rcases aG with rfl|aG
  .exact Br c _ e
  .exact Br c _ aG
 .exact fe.1 b o (j9 b o (I.base.keep b o e n af e7) (xO I e af))
 .obtain⟨br,z⟩:=I.base.slot b o e n af e7;obtain⟨_,ob,bR,gc⟩:=I.jK.mem af;rw[z]at bR;cases bR;obtain⟨mV,dp⟩:=n3 b _ (ay.keeps _ _ z) gc;exact⟨mV,dp⟩
 .obtain⟨cD,z⟩:=I.base.there b o e e7;by_cases af:b∈eW outer
  .obtain⟨_,ob,bR,gc⟩:=I.jK.mem af;obtain⟨mV,dp⟩:=n3 b _ (ay.keeps _ _ bR) gc;exact⟨_,dp⟩
  .exact⟨cD,fe.1 b cD (j9 b cD z (xO I e af))⟩
 .obtain⟨cD,z⟩:=I.base.there b o e (by simp[fj,jt]);refine⟨cD,j9 b cD z (xO I e af),λn=>?_⟩;have bG:=I.base.keep b o e n af (by simp[fj,jt]);rw[z]at bG;exact hM bG
theorem s6:nF (eQ P w) (fj P w K mg base N qual scope f cdv A outer s H E) E:=by
 rintro pins σ bU sc e s' I ⟨bc,cls,a0,U,B,rfl,T,j5⟩;refine aq4 I.ok.frames rfl T.er λaj fe iH=>?_;have sh:hi (eW (fj P w K mg base N qual scope f cdv A outer s H E).stack) [] bU U sc.heap s'.heap:=T.un;have u9:∀b o,s.heap.get? b=some o→b∉eW outer→∃cD,B.get? b=some cD∧(H b=none→cD=o):=λb o e af=>by obtain⟨iW,z⟩:=I.base.there b o e (by simp[fj,jt]);obtain⟨cD,dp,q⟩:=T.j9 b iW z (xO I e af);refine⟨cD,dp,λn=>?_⟩;have bG:=I.base.keep b o e n af (by simp[fj,jt]);rw[z]at bG;cases bG;exact q (I.base.free b _ e n (by simp[fj,jt]))
 refine⟨bc,cls,a0,U,B,rfl,⟨fe,T.os.trans I.os,T.bare,T.ok,⟨λb o e n af e7=>?_,λb o e n af e7=>?_,λb o e n e7=>?_,λb o e e7=>?_,λb xs q=>T.un.hE b xs (I.base.hE b xs q),λb o u q=>T.un.iR b o u (I.base.iR b o u q),λb ps q=>?_⟩,u9⟩,j5⟩
 .obtain⟨cD,z,q⟩:=u9 b o e af;rw[q n]at z;exact fe.1 b o z
 .obtain⟨br,z⟩:=I.base.slot b o e n af e7;have dk:b∈eW (fj P w K mg base N qual scope f cdv A outer s H E).stack:=by show b∈eW (_::outer);unfold eW;rw[D3];exact lL _ af
  obtain⟨rB,bG⟩:=sh.slot b _ z (I.base.free b o e n e7) dk (by simp);obtain⟨_,ob,bR,gc⟩:=T.er.2.2.1.mem dk;rw[bG]at bR;cases bR;obtain⟨mV,dp⟩:=iH b _ bG gc;exact⟨mV,dp⟩
 .obtain⟨iW,z⟩:=I.base.there b o e e7;exact sh.free b iW z (I.base.free b o e n e7) (by simp)
 .by_cases af:b∈eW outer
  .obtain⟨_,ob,bR,gc⟩:=fe.2.2.1.mem af;exact⟨ob,bR⟩
  .obtain⟨cD,z,_⟩:=u9 b o e af;exact⟨cD,fe.1 b cD z⟩
 .obtain⟨jr,az⟩:=I.base.jw b ps q;obtain⟨nJ,aE⟩:=T.un.jw b _ az;exact⟨jr++nJ,by rw[aE,TA]⟩
structure Exc(K:aS)(mg:Str→Option Value)(x:Str)(C:Addr)(bm:List Value)(fm:String):Prop where
 bound:mg x=some (.ref C)
 obj:z7 K C bm fm=true
theorem Exc.own{x:Str}{C:Addr}{bm:List Value}{fm:String}{h:Heap}(e:Exc K mg x C bm fm)(X:K.In h):OwnCls x C bm fm mg h:=by
 refine⟨e.bound,?_⟩;have q:=e.obj;unfold z7 at q;split at q
 .rename_i dd cd br bw;split at q
  .rename_i yL L5 k0 k1 k2 k3 n k5 hm hs;simp only[hG,px,TV]at q;obtain⟨⟨⟨⟨⟨rfl,rfl⟩,Bk⟩,df⟩,bj⟩,xl⟩:=q;obtain⟨nm,bs,mro,ns,oU,hd,sn,sub,ab,col,del⟩:=cd;dsimp only at hm Bk bj xl;subst hm Bk;obtain⟨Ζ⟩:=br;simp only at hs;subst hs;exact⟨L5,ns,nm,oU,bs,hd,sn,sub,ab,col,dd,k0,k1,k2,k3,k5,_,X _ _ bw,.of_isNs (PySem.W.isNs_of_in X bj),PySem.W.nsMap_none_of_in X bj xl,PySem.W.tail_of_in X df⟩
  .cases q
 .cases q
noncomputable def afm(C:Addr)(E:b6)(b3:fD):eY:=λ_ σ H=>b3 σ H λvs H1=>vs.length≤sizeLine∧E (.ref C) none H1
theorem Hv{x:Str}{C:Addr}{B fm my:String}{bm:List Value}{np fy pos:Pos}{e0:Expr}{es:List Expr}{b3:fD}(F:vI B fm my bm)(O:Exc K mg x C bm fm)(bz:iJ (fj P w K mg base N qual scope f cdv A outer s H E) x)(aI:hN (fj P w K mg base N qual scope f cdv A outer s H E) (e0::es) b3)(jh:(x==("__debug__":Str))=false:=by decide)(he:dM (e0::es) (fj P w K mg base N qual scope f cdv A outer s H E).env=(false,eval e0 (fj P w K mg base N qual scope f cdv A outer s H E).env)::dM es (fj P w K mg base N qual scope f cdv A outer s H E).env:=by rfl)(e6:(g0 fy (dM es (fj P w K mg base N qual scope f cdv A outer s H E).env)).any (·.1)=false:=by rfl):
  h4 (fj P w K mg base N qual scope f cdv A outer s H E) (.Raise (some (.Call (.Name x np) (e0::es) [] fy)) none pos) (afm C E b3):=by
 intro pins s1 σ H1 D I h;obtain⟨c0,V1,nm,q,bs,hdct,sn,sub,ab,col,dd,k0,k1,k2,k3,k5,mN,ei,fk,xl,T⟩:=(O.own I.mod.sW).obj;have pS:z7 K C bm fm=true:=O.obj;refine wpAny_Raise_call_subT (C:=C) (nm:=nm) (q:=q) (N:=V1) (bs:=bs) (bm:=c0) (hdct:=hdct) (sn:=sn) (sub:=sub) (ab:=ab) (col:=col) (dd:=dd) (k0:=k0) (k1:=k1) (k2:=k2) (k3:=k3) (k5:=k5)
  F (mN:=mN) (T.hasType F.hasBase) (I.ok.hd rfl) ?_ xl (sV I bz O.bound ⟨rfl,?_⟩ jh)
 .rw[he];show(false||(g0 fy (dM es (fj P w K mg base N qual scope f cdv A outer s H E).env)).any (·.1))=false;rw[e6];rfl
 .have lX:=aI fy pins s1 σ H1 _ I h;rw[he]at lX⊢;refine DE (bM lX λus s2⟨vs,ak,bI,dr,z,j5⟩=>⟨rfl,by rw[←dr.length];exact z,bI.hl _ _ ei,fk.keeps bI.hl,T.keeps bI.hl,λh' bc hm=>ą bI hm j5⟩)
theorem ro{x:Str}{st:Stmt}{fd:b5}{ps:List Str}{k:Nat}{sp:b8}(F:a_ K x qual st f fd)(S:cT N ps (cy st))(len:∀vs H Q E,sp vs H Q E→vs.length=ps.length)(uJ:∀(cdv:Value)(A:c4)(outer:List Env)(s:ax)(H:aa)(vs:List V)(Q:a6)(E:b6),fW k (A.deeper (ni qual (cy st) s.heap.objs.size f cdv))→sp vs H Q E→
   ∃t,iK (fj P w K mg base N qual (cy st) f cdv A outer s H E) (lw st) t∧t {cf:=λ_ U=>Q .bD U,rt:=Q} (start N vs) H):aB P w K mg base (eQ P w) (k+1) f fd ps sp:=by obtain⟨l4,dR,dz,doc,pm,an,cdv,fG,oT,rfl,lk,k_⟩:=F.ex;exact Jl lk k_ S len λA outer s H vs Q E au ny=>uJ cdv A outer s H vs Q E au ny
end
open PySem PySem.Spec PyProof.Rows ag
noncomputable abbrev Ey:=b6→TE
noncomputable abbrev EA:=Ends→(St→b6)→St→aa→Prop
section
variable{X:bh}{e o:Expr}{es:List Expr}{pos fg p:Pos}{k:Nat}{f C:Addr}{fd:b5}{ps:List Str}{sp:b8}{b3:TE}{t:fD}{m x:Str}
theorem ZW{α:Type}{X:bh}{pins:List (Addr×Obj)}{M:oc}{A:c4}{c:Sem α}{Q:α→ax→Prop}{E:Value→ax→Prop}{s:ax}(h:a4 M A c Q (λ_ _=>False) s):a4 M A c Q E s:=
 gf h (λ_ _ q=>q) λ_ _ z=>h3 z
noncomputable def afn(C:Addr)(m:Str)(sp:b8)(b3:TE)(t:fD):Ey:=λE=>Jk C m sp [] E b3 t
noncomputable def afo(b7:Ey):EA:=λD E σ H=>b7 (E σ) σ H λ_ H1=>D.cf σ H1
end
noncomputable def rg(K:aS)(C R:Addr):Bool:=match K.lookup C with
 |some ⟨.type "type",_,.cls cd,br⟩=>(match cd.mro,br.toList with
  |.ref yL::bm,[_,_,_,_,some (.builtin _),_]=>yL==C&&!cd.hasDel&&bm.contains (.type "BaseException")&&(dO C::bm).contains (.ref R)
  |_,_=>false)
 |_=>false
theorem Ê{K:aS}{h:Heap}{C R:Addr}(X:K.In h)(q:rg K C R=true):∃nm oU N bs bm hdct sn sub ab col dd k0 k1 k2 k3 k5 fm,
  h.get? C=some (w2 nm oU C N bs bm hdct sn sub ab col dd k0 k1 k2 k3 k5 fm)∧bm.contains (.type "BaseException")=true∧(dO C::bm).contains (.ref R)=true:=by
 unfold rg at q;split at q
 .rename_i dd cd br bw;split at q
  .rename_i yL bm k0 k1 k2 k3 n k5 hm hs;simp only[hG,TV]at q;obtain⟨⟨⟨bT,Bk⟩,af⟩,au⟩:=q;have bT:=px.mp bT;subst bT;obtain⟨nm,bs,mro,ns,oU,hd,sn,sub,ab,col,del⟩:=cd;dsimp only at hm Bk;subst hm Bk;obtain⟨Ζ⟩:=br;simp only at hs;subst hs;exact⟨nm,oU,ns,bs,bm,hd,sn,sub,ab,col,dd,k0,k1,k2,k3,k5,n,X _ _ bw,af,au⟩
  .cases q
 .cases q
theorem adM{M:oc}{A:c4}{E:Value→ax→Prop}{K:aS}{C R bc:Addr}{s:ax}{rn:Obj}{Q:Bool→ax→Prop}(X:K.In s.heap)(aG:rg K C R=true)(au:rg K R R=true)(he:s.heap.get? bc=some rn)(M9:rn.cls=.ref C)(bb:Q true s):a4 M A (excMatches (.ref bc) (.ref R)) Q E s:=by
 obtain⟨nm,oU,N,bs,bm,hdct,sn,sub,ab,col,dd,k0,k1,k2,k3,k5,fm,ei,af,aml⟩:=Ê X aG;obtain⟨aoQ,apz,N',akj,L5,asF,ap5,ap9,aja,akt,jZ,asW,asX,asY,asZ,as0,att,cC,dk,asE⟩:=Ê X au;have M7:(dO R::L5).contains (.type "BaseException")=true:=by rw[aa4,dk,ċ]
 have f:=tc_notTuple;obtain⟨aW,g,d,t,os⟩:=s;unfold excMatches
 repeat (first|(with_reducible refine jQ he ?_;rw[M9])|with_reducible refine jQ cC ?_|(with_reducible refine Sl cC ?_;rw[M7])|(with_reducible refine Sl ei ?_;rw[aml])|wp_step)
 exact bb
noncomputable abbrev HT(X:bh)(bc:Addr):bh:={X with A:=X.A.mark (some (.ref bc)),calm:=false,dA:=λ_ _=>False}
section
variable{X:bh}{pins:List (Addr×Obj)}{σ:St}{H:aa}{s:ax}
theorem Inv.CZ(I:Inv X pins σ H s)(bc:Addr):Inv (HT X bc) pins σ H s:=
 ⟨⟨I.ok.mod,I.ok.kind,I.ok.glob,I.ok.blt,I.ok.above,I.ok.inj,I.ok.has,I.ok.uh,λz=>bt (show false=true from z) fL,I.ok.frames,I.ok.qp,I.ok.EY,I.ok.bs,I.ok.pz,I.ok.u6,I.ok.w3,I.ok.jK,I.ok.qW⟩,I.os,I.bare,I.base,I.loc,I.cell,I.free,I.mu,I.pin,I.bj,I.len⟩
theorem Inv.H9{bc:Addr}(hd:X.calm=true→X.A.handled=none)(I:Inv (HT X bc) pins σ H s):Inv X pins σ H s:=
 ⟨⟨I.ok.mod,I.ok.kind,I.ok.glob,I.ok.blt,I.ok.above,I.ok.inj,I.ok.has,I.ok.uh,hd,I.ok.frames,I.ok.qp,I.ok.EY,I.ok.bs,I.ok.pz,I.ok.u6,I.ok.w3,I.ok.jK,I.ok.qW⟩,I.os,I.bare,I.base,I.loc,I.cell,I.free,I.mu,I.pin,I.bj,I.len⟩
end
open PySem PySem.Spec PyProof.Rows ag
theorem art:iw "enumerate"=some (.type "enumerate"):=by decide+kernel
noncomputable def o_(K:aS)(a:Addr):ff:=
 ⟨λi H=>∃xs x,aO K H a xs∧xs[i]?=some x,λi H v U=>∃p x,H p=none∧v=.ref p∧(∀xs,aO K H a xs→xs[i]?=some x)∧U=upd H p (.tup [.int i,x]),λi H=>∃xs,aO K H a xs∧xs.length≤i⟩
theorem aag{P:bL}{w:bC}{K:aS}{elts:List Expr}{k:Nat}{pos:Pos}(a e it:Addr)(YI:e≠it):
  Turn P w K (.Tuple elts k pos) (o_ K a) [e,it] e (λi h=>(∃old,IsEnum h e it ((i:Nat):Int) old)∧h.IsListIter it a i)where
 mem:=by simp
 obj:=λi h st b af=>by
  obtain⟨⟨old,he⟩,o,bw,c,d⟩:=st;rcases dx.mp af with rfl|af
  .exact⟨_,he,λv z=>by
    have dp:Data.fields _=Data.cell v:=z;cases dp⟩
  .have q:b=it:=by simpa using af
   subst q;exact⟨o,bw,λv z=>by rw[d]at z;cases z⟩
 keep:=λi h h' st bV=>by obtain⟨⟨old,he⟩,hit⟩:=st;exact⟨⟨old,bV e (by simp) _ he⟩,hit.at λo q=>bV it (by simp) o q⟩
 item:=by
  intro X gP hw f9 aG i pins s σ H E I hf st bz;subst gP hw f9;obtain⟨⟨old,he⟩,hit⟩:=st;obtain⟨xs,x,bb,ay⟩:=bz;obtain⟨its,cz,p,bB⟩:=I.list bb;obtain⟨u,cj,eP⟩:=cz.get ay;obtain⟨e0,az,aE,dj,fV,jc⟩:=hf e (by simp);obtain⟨f0,f1,f2,cc,f4,eG⟩:=hf it (by simp);refine wpAny_pyNext_enum_item he hit p.isList (x:=u) (by simpa using cj) YI λai bw am6 q0 hsz aT=>⟨_,rfl,?_⟩
  refine wpAny_letOwnedTupleGo_enum bw λaj Nk pW=>?_;have pW:tQ e ai aj:=pW;have aw:H s.heap.objs.size=none:=I.fresh;have Cg:∀b o,b∉[e,it]→s.heap.get? b=some o→aj.get? b=some o:=λb o af q=>by have kC:b≠e:=λz=>af (by simp[z]);have amE:b≠it:=λz=>af (by simp[z]);exact(pW.2 b kC).trans (aT b o kC amE q)
  have YK:e<s.heap.objs.size:=dK he;have amx:aj.get? s.heap.objs.size=some {cls:=.type "tuple",data:=.seq #[.int i s.toks,u]}:=(pW.2 _ (JM YK)).trans q0;have s9:∀b q,H b=some q→b∉[e,it]:=λb q af z=>by
   rcases dx.mp z with rfl|z
   .rw[e0]at af;cases af
   .have dp:b=it:=by simpa using z
    subst dp;rw[f0]at af;cases af
  refine⟨.ref s.heap.objs.size,upd H s.heap.objs.size (.tup [.int i,x]),?_,rfl,⟨s.heap.objs.size,x,aw,rfl,λys cW=>by rw[I.Zr cW bb];exact ay,rfl⟩,⟨⟨u,?_⟩,am6.at λo q=>(pW.2 it YI.symm).trans q⟩,λb af=>?_⟩
  .show Inv X pins σ (upd H s.heap.objs.size (.tup [.int i,x])) {s with heap:=aj,gens:=s.gens,drawn:=s.drawn,toks:=s.toks+1};refine I.step (g':=s.gens) (d':=s.drawn) (t':=s.toks+1) (h':=aj) (ch:=[e,it]) (λb af=>?_) (λb o _ _ aG q _=>Cg b o aG q) (λb o _ _ aG q _=>⟨o.slots,Cg b o aG q⟩) (λb o aG q n=>?_)
    (λb o aG q=>⟨o,Cg b o aG q⟩) (λb ys q=>?_) (λb o v q=>?_) (λb ps q=>⟨#[],?_⟩) (λm hm=>?_) (λb v q=>?_) I.bare
   .rcases dx.mp af with rfl|af
    .exact⟨dj,az,fV,jc⟩
    .have dp:b=it:=by simpa using af
     subst dp;exact⟨cc,f1,f4,eG⟩
   .rw[aD (en (dK q))];exact n
   .rw[aD (b2 q aw)];exact q
   .rw[aD (b2 q aw)];exact q
   .rw[aD (b2 q aw),q];simp
   .obtain⟨o,es,ep,j8,r⟩:=hm;refine⟨o,es,ep,Cg _ o (λz=>?_) j8,r⟩;rcases dx.mp z with z|z
    .exact az z.symm
    .exact f1 (by simpa using z:X.env.locals=it).symm
   .by_cases af:b=s.heap.objs.size
    .subst af;rw[aQ]at q;cases q;exact⟨(by show 2≤sizeLine;decide),[.int i s.toks,u],.cons ⟨_,rfl⟩ (.cons eP .nil),_,amx,rfl,_,rfl⟩
    .rw[aD af]at q;refine(I.bj b v q).jO (λc y aG z=>Cg c y ?_ z) (λc z=>by rw[aD (b2 z aw)];exact z) λc ys z=>by rw[aD (b2 z aw)];exact z
     rcases aG with rfl|aG
     .exact s9 _ _ q
     .exact s9 _ _ aG
  .have:(((i+1:Nat):Nat):Int)=(i:Int)+1:=by omega
   rw[this];exact Nk
  .rcases dx.mp af with rfl|af
   .rw[aD (en YK)];exact e0
   .have dp:b=it:=by simpa using af
    subst dp;obtain⟨_,z,_⟩:=hit;rw[aD (en (dK z))];exact f0
 done:=by intro X gP hw f9 aG i pins s σ H E I hf st bz;subst gP hw f9;obtain⟨⟨old,he⟩,hit⟩:=st;obtain⟨xs,bb,ay⟩:=bz;obtain⟨its,cz,p,bB⟩:=I.list bb;obtain⟨f0,f1,f2,cc,f4,eG⟩:=hf it (by simp);have aq:=cz.length;exact wpAny_pyNext_enum_end (I.ok.hd aG) he hit p.isList (by simp;omega) λh' d8=>⟨rfl,I.turned (t':=s.toks) (λb o af e=>d8 b o af e) f0 f1 cc f4 eG⟩
 self:=λ_ _ _ _ _ st h=>by obtain⟨⟨old,he⟩,_⟩:=st;exact aq7 he h
section
variable{X:bh}{elts:List Expr}{k:Nat}{RH:Pos}
inductive ag2(K:aS)(vs:List V)(H:aa)(R:ff→aa→Prop):Prop where
 |mk (a:Addr) (bW:vs=[.ref a]) (bG:∃xs,aO K H a xs) (b4:R (o_ K a) H)
noncomputable def ag3(K:aS)(b3:fD):TI:=λσ H R=>b3 σ H λvs H1=>ag2 K vs H1 R
theorem xP{l:Expr}{b3:fD}{p pos:Pos}(bz:iJ X "enumerate")(hm:X.mg "enumerate"=none)(aI:hN X [l] b3)(hs:dM [l] X.env=[(false,eval l X.env)]:=by rfl):og X (.Tuple elts k RH) (.Call (.Name "enumerate" p) [l] [] pos) (ag3 X.K b3):=by
 intro pins s σ H R I h;refine Call_ (vc I bz hm art (Wd (bM (aI pos pins s σ H _ I h) λus s1⟨vs,H1,aU,cJ,bT⟩=>?_) hs rfl));obtain⟨a,e,⟨xs,bb⟩,q⟩:=bT;subst e;cases cJ with
 |cons r qj=>
  cases qj;cases r;obtain⟨its,cz,p,bB⟩:=aU.list bb;refine call_enumerate_list p.isList λh' he hit hsz bV=>?_;refine aq7 he ?_;have ne:s1.heap.objs.size+1≠s1.heap.objs.size:=JN _;refine⟨s1.heap.objs.size+1,[s1.heap.objs.size+1,s1.heap.objs.size],_,_,H1,rfl,aU.kept (t':=s1.toks) λb o e=>bV b o e,aag a _ _ ne,⟨⟨_,he⟩,hit⟩,λb af=>?_,q⟩;rcases dx.mp af with rfl|af
  .exact aU.sG (wF _) (aU.bj.fresh (wF _))
  .have z:b=s1.heap.objs.size:=by simpa using af
   subst z;exact aU.sG (bY _) (aU.bj.fresh (bY _))
end
section
variable{X:bh}{K:aS}(f9:X.K=K)
include f9
theorem Sa:wk X (W9 K):=by subst f9;exact h9
theorem q_:wk X (W' K):=by subst f9;exact dE
theorem CC{pos:Pos}{es:List Expr}{k:Nat}{t:pn}{n:Nat}(aG:X.calm=true)(h:zX X es t)(aw:(wV es X.env).length=n:=by rfl)(iE:(wV es X.env).findIdx? (·.1)=none:=by rfl):sd X (.Tuple es k pos) (tL K n t):=by subst f9;exact C6 aG h aw iE
theorem Uy{e:Expr}{b3:TE}{f:Str}{pos:Pos}(he:bJ X e b3)(af:Ab e f X.env (eval e X.env)=eval e X.env):bJ X (.Attribute e f pos) (W7 K b3 f):=by subst f9;exact dT he af
end
theorem Uz{K:aS}{a:Addr}{xs:List V}{cs:List (Option Nat)}{σ rest:ag.St}{tt:TT}{b7:TE}{Q:a6}{H1:aa}(fl:gQ cs σ=none::none::rest)(aI:aO K H1 a xs)(aq:xs.length<sizeLine)(p:Nat→V→Bool)(f:Nat→V→V)(test:∀(i:Nat)(x:V)(ak:aa)(R:Bool→aa→Prop),xs[i]?=some x→aH H1 ak→(∀bK,aH ak bK→R (p i x) bK)→tt (some (.int i)::some x::rest) ak R)(elt:∀(i:Nat)(x:V)(ak:aa)(R:a6),xs[i]?=some x→p i x=true→aH H1 ak→(∀bK,aH ak bK→R (f i x) bK)→b7 (some (.int i)::some x::rest) ak R)(fin:∀(D:Addr)(U:aa),H1 D=none→U D=some (.lst ((xs.zipIdx.filter λz=>p z.2 z.1).map λz=>f z.2 z.1))→aH H1 U→Q (.ref D) U):
  ∀D,H1 D=none→∃W:Nat→Nat→List V→ag.St→aa→Prop,(∃m,W 0 m [] (gQ cs σ) (upd H1 D (.lst [])))∧∀i m ys aY U,W i m ys aY U→U D=some (.lst ys)∧ys.length<sizeLine∧
   (((o_ K a).stop i U∧Q (.ref D) U)∨((o_ K a).go i U∧∀x ak,(o_ K a).m4 i U x ak→tL K 2 (oO (g4 0) (oO (g4 1) wj)) x aY ak λgg bp=>tt gg bp λb dw=>
    if b=true then b7 gg dw λy bK=>bK D=some (.lst ys)∧∃cp,cp<m∧W (i+1) cp (ys++[y]) gg (upd bK D (.lst (ys++[y])))
    else∃cp,cp<m∧W (i+1) cp ys gg dw)):=by
 intro D bO;have Dy:xs.zipIdx.length=xs.length:=by simp
 refine⟨λi m ys aY U=>m=xs.length-i∧i≤xs.length∧ys=((xs.zipIdx.take i).filter λz=>p z.2 z.1).map (λz=>f z.2 z.1)∧(∃o cD,aY=o::cD::rest)∧aH H1 U∧U D=some (.lst ys),
  ⟨xs.length,by simp,eD _,by simp,⟨none,none,fl⟩,λb o e=>?_,aQ⟩,?_⟩
 .rw[aD (b2 e bO)];exact e
 .rintro i m ys aY U ⟨rfl,ar,rfl,⟨o,cD,rfl⟩,aA,eH⟩;have hz:aO K U a xs:=aA.seq aI;refine⟨eH,od ?_ aq,?_⟩
  .rw[a'];refine el (lK _ _) ?_;rw[jR,Dy];exact JL _ _
  by_cases bP:i<xs.length
  .have ex:xs[i]?=some xs[i]:=ct bP;refine .inr ⟨⟨xs,_,hz,ex⟩,λx ak y=>?_⟩;obtain⟨q,fX,bb,rfl,e7,rfl⟩:=y;have Aw:=e7 xs hz;have qn:aH U (upd U q (.tup [.int i,fX])):=λb u e=>by rw[aD (b2 e bb)];exact e
   refine⟨q,_,rfl,b1.of aQ,rfl,⟨_,_,rfl,⟨_,_,rfl,rfl,?_⟩⟩⟩;show tt (some (.int i)::some fX::rest) _ _;refine test i fX _ _ Aw (aA.trans qn) λdw s4=>?_;have aP:xs.zipIdx.take (i+1)=xs.zipIdx.take i++[(fX,i)]:=by rw[mf,List.getElem?_zipIdx,Aw];simp
   have FI:=s4 _ _ (qn _ _ eH);cases aW:p i fX with
   |true=>
    refine gp ?_;refine elt i fX dw _ Aw aW ((aA.trans qn).trans s4) λbK s5=>⟨s5 _ _ FI,xs.length-(i+1),by omega,rfl,bP,?_,⟨_,_,rfl⟩,λb ob e=>?_,aQ⟩
    .rw[aP,m9,eC];simp[aW]
    .rw[aD (b2 e bO)];exact s5 _ _ (s4 _ _ (qn _ _ (aA _ _ e)))
   |false=>
    refine gF ⟨xs.length-(i+1),by omega,rfl,bP,?_,⟨_,_,rfl⟩,(aA.trans qn).trans s4,FI⟩;rw[aP,m9,eC];simp[aW]
  .have e:i=xs.length:=by omega
   subst e;refine .inl ⟨⟨xs,hz,bY _⟩,fin D U bO ?_ aA⟩;rw[eH,←Dy,mh]
end cq
namespace ag
open PySem PySem.Spec PyProof.Rows
section
variable{κ:Type}[DecidableEq κ]
noncomputable def cU(kvs:List (κ×V))(k:κ):Option V:=(kvs.find? λck=>decide (ck.1=k)).map (·.2)
noncomputable def eJ(kvs:List (κ×V))(k:κ)(v:V):List (κ×V):=
 if(kvs.any λck=>decide (ck.1=k))=true then kvs.map (λck=>if ck.1=k then(ck.1,v)else ck)else kvs++[(k,v)]
noncomputable def tv(kvs:List (κ×V))(k:κ):List (κ×V):=kvs.filter λck=>decide (ck.1≠k)
theorem lS{p:κ×V}{r:List (κ×V)}{k:κ}(e:p.1=k):cU (p::r) k=some p.2:=by simp[cU,zA,e]
theorem kY{p:κ×V}{r:List (κ×V)}{k:κ}(e:¬p.1=k):cU (p::r) k=cU r k:=by simp[cU,zA,e]
theorem oC(k:κ):∀kvs:List (κ×V),(kvs.any λck=>decide (ck.1=k))=(cU kvs k).isSome
 |[]=>rfl
 |p::r=>by
  rw[DZ];by_cases e:p.1=k
  .simp only[lS e,cB e,Bool.true_or,Option.isSome_some]
  .rw[kY e,dP e,Bool.false_or];exact oC k r
theorem TH(k j:κ)(y:V):∀kvs:List (κ×V),cU (kvs.map λck=>if ck.1=k then(ck.1,y)else ck) j=(cU kvs j).map λx=>if j=k then y else x
 |[]=>rfl
 |p::r=>by
  have a7:=TH k j y r;rw[gv];by_cases h:p.1=k
  .rw[a8 h];by_cases e:p.1=j
   .rw[lS (p:=(p.1,y)) e,lS e,Ed,a8 (e.symm.trans h)]
   .rw[kY (p:=(p.1,y)) e,kY e,a7]
  .rw[aX h];by_cases e:p.1=j
   .rw[lS (p:=p) e,lS e,Ed,aX (λz=>h (e.trans z))]
   .rw[kY (p:=p) e,kY e,a7]
theorem æ(k j:κ)(y:V):∀kvs:List (κ×V),cU kvs k=none→cU (kvs++[(k,y)]) j=if j=k then some y else cU kvs j
 |[],_=>by
  by_cases e:k=j
  .rw[a8 e.symm];exact lS (p:=(k,y)) e
  .rw[aX (λz=>e z.symm)];exact kY (p:=(k,y)) e
 |p::r,aw=>by
  rw[List.cons_append];have aT:¬p.1=k:=λz=>by rw[lS z]at aw;cases aw
  rw[kY aT]at aw;have a7:=æ k j y r aw;by_cases e:p.1=j
  .rw[lS e,lS e,aX (λz=>aT (e.trans z))]
  .rw[kY e,kY e,a7]
theorem Ca(kvs:List (κ×V))(k j:κ)(y:V):cU (eJ kvs k y) j=if j=k then some y else cU kvs j:=by
 unfold eJ;by_cases a:(kvs.any λck=>decide (ck.1=k))=true
 .rw[a8 a,TH];rw[oC]at a;by_cases e:j=k
  .obtain⟨x,ay⟩:=tY.mp a;rw[a8 e,e,ay,Ed,a8 rfl]
  .rw[aX e];cases cU kvs j with
   |none=>rfl
   |some x=>rw[Ed,aX e]
 .rw[aX a];refine æ k j y kvs ?_;rw[oC]at a;cases q:cU kvs k with
  |none=>rfl
  |some x=>rw[q]at a;exact(a rfl).elim
theorem Gm(kvs:List (κ×V))(k:κ)(v:V):(eJ kvs k v).length≤kvs.length+1:=by
 unfold eJ;split
 .rw[a'];omega
 .rw[fT,i5,qG];omega
theorem Cb{kvs:List (κ×V)}{k:κ}(v:V)(h:cU kvs k=none):eJ kvs k v=kvs++[(k,v)]:=by unfold eJ;rw[oC,h];exact aX (by decide)
theorem ie.Gb{o:Option V}{u:Option Value}(r:ie o u):o.isSome=u.isSome:=by
 cases o with
 |none=>cases u with
  |none=>rfl
  |some _=>exact(show False from r).elim
 |some _=>cases u with
  |none=>exact(show False from r).elim
  |some _=>rfl
theorem ie.getD{o:Option V}{u:Option Value}{d:V}{d':Value}(r:ie o u)(rd:RelV d d'):RelV (o.getD d) (u.getD d'):=by
 cases o with
 |none=>cases u with
  |none=>exact rd
  |some _=>exact(show False from r).elim
 |some _=>cases u with
  |none=>exact(show False from r).elim
  |some _=>exact r
theorem fC.val{kvs:List (κ×V)}{vs:List (κ×Value)}(r:fC kvs vs)(k:κ):ie (cU kvs k) (tC vs k):=by
 unfold fC at r
 induction r with
 |nil=>exact kR
 |@cons p q ps mQ h t a7=>
  obtain⟨ai,aj⟩:=h;by_cases e:p.1=k
  .have bR:q.1=k:=ai.symm.trans e;have b:tC (q::mQ) k=some q.2:=by simp[tC,zA,bR]
   rw[lS e,b];exact aj
  .have bR:¬q.1=k:=λz=>e (ai.trans z);have b:tC (q::mQ) k=tC mQ k:=by simp[tC,zA,bR]
   rw[kY e,b];exact a7
theorem fC.any{kvs:List (κ×V)}{vs:List (κ×Value)}(r:fC kvs vs)(k:κ):(kvs.any λck=>decide (ck.1=k))=vs.any λck=>decide (ck.1=k):=by
 unfold fC at r
 induction r with
 |nil=>rfl
 |cons h t a7=>rw[DZ,DZ,a7,h.1]
theorem fC.QJ{kvs:List (κ×V)}{vs:List (κ×Value)}(r:fC kvs vs)(k:κ){y:V}{u:Value}(bF:RelV y u):
  fC (kvs.map λck=>if ck.1=k then(ck.1,y)else ck) (vs.map λck=>if ck.1=k then(ck.1,u)else ck):=by
 unfold fC at r⊢
 induction r with
 |nil=>exact .nil
 |@cons p q ps mQ h t a7=>
  rw[gv,gv];refine .cons ?_ a7;obtain⟨ai,aj⟩:=h;by_cases e:p.1=k
  .rw[a8 e,a8 (ai.symm.trans e)];exact⟨ai,bF⟩
  .rw[aX e,aX (λz=>e (ai.trans z))];exact⟨ai,aj⟩
theorem fC.put{kvs:List (κ×V)}{vs:List (κ×Value)}(r:fC kvs vs)(k:κ){y:V}{u:Value}(bF:RelV y u):fC (eJ kvs k y) (stored vs k u):=by
 unfold eJ stored;rw[r.any k];by_cases e:(vs.any λck=>decide (ck.1=k))=true
 .rw[a8 e,a8 e];exact r.QJ k bF
 .rw[aX e,aX e];exact Paired.snoc r ⟨rfl,bF⟩
theorem fC.drop{kvs:List (κ×V)}{vs:List (κ×Value)}(r:fC kvs vs)(k:κ):fC (tv kvs k) (without vs k):=by
 unfold fC at r⊢;unfold tv without
 induction r with
 |nil=>exact .nil
 |@cons p q ps mQ h t a7=>
  obtain⟨ai,aj⟩:=h;rw[pd,pd];by_cases e:p.1=k
  .have a:¬decide (p.1≠k)=true:=by simp[e]
   have b:¬decide (q.1≠k)=true:=by simp[ai.symm.trans e]
   rw[aX a,aX b];exact a7
  .have bR:¬q.1=k:=λz=>e (ai.trans z);have a:decide (p.1≠k)=true:=by simp[e]
   have b:decide (q.1≠k)=true:=by simp[bR]
   rw[a8 a,a8 b];exact .cons ⟨ai,aj⟩ a7
theorem fC.length{kvs:List (κ×V)}{vs:List (κ×Value)}(r:fC kvs vs):kvs.length=vs.length:=hO r
theorem TJ(kvs:List (κ×V))(k:κ):(tv kvs k).length≤kvs.length:=lK _ _
end
theorem qe{P:bL}{w:bC}{k:bx}{u:Value}(r:RelV (dz k) u):(hn P w).is k u=true:=by
 cases k with
 |inl i=>obtain⟨t,e⟩:=(show∃t,u=ko i t from r);subst e;exact Ā P w i t
 |inr x=>obtain⟨t,e⟩:=(show∃t,u=t7 x t from r);subst e;exact ā P w x t
theorem î{P:bL}{w:bC}:∀{gq:List bx}{us:List Value},cN (gq.map dz) us→ItemsAre (hn P w) gq us
 |[],_,r=>by rw[D']at r;cases r;exact .nil
 |k::gq,_,r=>by
  rw[gv]at r;cases r with
  |cons h t=>exact .cons (qe h) (î t)
noncomputable abbrev KT(H:aa):List (List bx×V)→List (List bx×Addr×Value)→Prop:=bH λp q=>p.1=q.1∧H q.2.1=some (.tup (p.1.map dz))∧RelV p.2 q.2.2
theorem KT.val{H:aa}{kvs:List (List bx×V)}{xs:List (List bx×Addr×Value)}(r:KT H kvs xs)(k:List bx):ie (cU kvs k) ((sl xs k).map (·.2)):=by
 induction r with
 |nil=>exact kR
 |@cons p q ps mQ h t a7=>
  obtain⟨ai,_,aj⟩:=h;by_cases e:p.1=k
  .have bR:q.1=k:=ai.symm.trans e;have b:sl (q::mQ) k=some q.2:=by simp[sl,zA,bR]
   rw[lS e,b];exact aj
  .have bR:¬q.1=k:=λz=>e (ai.trans z);have b:sl (q::mQ) k=sl mQ k:=by simp[sl,zA,bR]
   rw[kY e,b];exact a7
theorem KT.QJ{H:aa}{kvs:List (List bx×V)}{xs:List (List bx×Addr×Value)}(r:KT H kvs xs)(k:List bx){y:V}{u:Value}(bF:RelV y u):
  KT H (kvs.map λck=>if ck.1=k then(ck.1,y)else ck) (xs.map (putAt k u)):=by
 induction r with
 |nil=>exact .nil
 |@cons p q ps mQ h t a7=>
  rw[gv,gv];refine .cons ?_ a7;obtain⟨ai,aj,bk⟩:=h;unfold putAt;by_cases e:p.1=k
  .rw[a8 e,a8 (ai.symm.trans e)];exact⟨ai,aj,bF⟩
  .rw[aX e,aX (λz=>e (ai.trans z))];exact⟨ai,aj,bk⟩
theorem KT.put{H:aa}{kvs:List (List bx×V)}{xs:List (List bx×Addr×Value)}(r:KT H kvs xs)(k:List bx){b:Addr}{y:V}{u:Value}(af:H b=some (.tup (k.map dz)))(bF:RelV y u):
  KT H (eJ kvs k y) (storedH xs k b u):=by
 have e:(kvs.any λck=>decide (ck.1=k))=(sl xs k).isSome:=by rw[oC,(r.val k).Gb,acw]
 unfold eJ storedH;rw[e];by_cases q:(sl xs k).isSome=true
 .rw[a8 q,a8 q];exact r.QJ k bF
 .rw[aX q,aX q];exact Paired.snoc r ⟨rfl,af,bF⟩
theorem KT.keeps{H U:aa}{kvs:List (List bx×V)}{xs:List (List bx×Addr×Value)}(r:KT H kvs xs)(df:∀b ys,H b=some (.tup ys)→U b=some (.tup ys)):KT U kvs xs:=
 bH.f_ r λ_ _ z=>⟨z.1,df _ _ z.2.1,z.2.2⟩
section
variable{P:bL}{w:bC}{H:aa}{h:Heap}{a:Addr}
theorem WI{u:d1}(ok:fp P w H h)(e:a5 H a u):eo P w H h a u:=e.ok ok
theorem yo{kvs:List (bx×V)}(ok:fp P w H h)(e:a5 H a (.bX kvs)):kvs.length≤sizeLine∧(a==lB)=false∧∃vs,fC kvs vs∧h.DictOf (hn P w) a vs:=
 show eo P w H h a (.bX kvs)from WI ok e
theorem vw{kvs:List (bx×V)}(ok:fp P w H h)(e:H a=some (.bX kvs)):kvs.length≤sizeLine∧(a==lB)=false∧∃vs,fC kvs vs∧h.DictOf (hn P w) a vs:=yo ok (.inl e)
theorem C_{gq:List bx}(ok:fp P w H h)(e:H a=some (.tup (gq.map dz))):(C2 (hn P w)).is h gq a:=by
 obtain⟨_,its,r,o,ai,aj,n,bk⟩:=(show eo P w H h a (.tup (gq.map dz))from ok a _ e)
 exact⟨o,its.toArray,n,ai,aj,bk,by simpa using î r⟩
theorem yp{kvs:List (List bx×V)}(ok:fp P w H h)(e:a5 H a (.eO kvs)):kvs.length≤sizeLine∧(a==lB)=false∧
  ∃xs,KT H kvs xs∧h.DictOfH (C2 (hn P w)) a xs:=by
 obtain⟨z,y,xs,r,o,es,ep,ai,aj,bk,cv,dW⟩:=(show eo P w H h a (.eO kvs)from WI ok e)
 refine⟨z,y,xs,r,o,es,ep,ai,aj,bk,cv,λx ay=>?_,dW⟩;have all:∀{l:List (List bx×V)}{m:List (List bx×Addr×Value)},KT H l m→∀x∈m,(C2 (hn P w)).is h x.1 x.2.1:=by
  intro l m q
  induction q with
  |nil=>intro x ay;exact nomatch ay
  |@cons p q ps mQ bb t a7=>
   intro x ay;rcases dx.mp ay with e|ay
   .subst e;exact C_ ok (by rw[←bb.1];exact bb.2.1)
   .exact a7 x ay
 exact all r x ay
theorem ag4{kvs:List (List bx×V)}(ok:fp P w H h)(e:H a=some (.eO kvs)):kvs.length≤sizeLine∧(a==lB)=false∧
  ∃xs,KT H kvs xs∧h.DictOfH (C2 (hn P w)) a xs:=yp ok (.inl e)
end
noncomputable def ig(H:aa)(a:Addr)(y:V)(r:Option V):Prop:=
 (∃kvs k,a5 H a (.bX kvs)∧y=dz k∧r=cU kvs k)∨∃kvs k b,a5 H a (.eO kvs)∧y=.ref b∧H b=some (.tup (k.map dz))∧r=cU kvs k
noncomputable def qw(H:aa)(a:Addr)(y v:V)(U:aa):Prop:=
 (∃kvs k,H a=some (.bX kvs)∧y=dz k∧kvs.length<sizeLine∧U=upd H a (.bX (eJ kvs k v)))∨
 ∃kvs k b,H a=some (.eO kvs)∧y=.ref b∧H b=some (.tup (k.map dz))∧kvs.length<sizeLine∧U=upd H a (.eO (eJ kvs k v))
theorem ig.k{H:aa}{a:Addr}{kvs:List (bx×V)}{k:bx}(e:H a=some (.bX kvs)):ig H a (dz k) (cU kvs k):=.inl ⟨kvs,k,.inl e,rfl,rfl⟩
theorem ig.t{H:aa}{a b:Addr}{kvs:List (List bx×V)}{k:List bx}(e:H a=some (.eO kvs))(d8:H b=some (.tup (k.map dz))):ig H a (.ref b) (cU kvs k):=.inr ⟨kvs,k,b,.inl e,rfl,d8,rfl⟩
theorem qw.k{H:aa}{a:Addr}{kvs:List (bx×V)}{k:bx}{v:V}(e:H a=some (.bX kvs))(aq:kvs.length<sizeLine):qw H a (dz k) v (upd H a (.bX (eJ kvs k v))):=.inl ⟨kvs,k,e,rfl,aq,rfl⟩
theorem qw.t{H:aa}{a b:Addr}{kvs:List (List bx×V)}{k:List bx}{v:V}(e:H a=some (.eO kvs))(d8:H b=some (.tup (k.map dz)))(aq:kvs.length<sizeLine):
  qw H a (.ref b) v (upd H a (.eO (eJ kvs k v))):=.inr ⟨kvs,k,b,e,rfl,d8,aq,rfl⟩
section
variable{X:bh}{pins:List (Addr×Obj)}{σ:St}{H:aa}{s:ax}{a:Addr}{y v:V}{u r:Value}{o:Option V}{A:c4}{E:Value→ax→Prop}
theorem Inv.big(I:Inv X pins σ H s):lB<s.heap.objs.size:=by have h:cx<s.heap.objs.size:=(I.mod.glob.keeps I.hl).lt;exact ab4 (by decide) h
theorem aah{Q:Value→ax→Prop}(cj:A.units+1<cLine)(I:Inv X pins σ H s)(g:ig H a y (some v))(bF:RelV y u)(h:∀eX s',Inv X pins σ H s'→RelV v eX→Q eX s'):
  a4 (bg X.prog X.w) A (uD (.ref a) u) Q E s:=by
 rcases g with⟨kvs,k,e,eA,l⟩|⟨kvs,k,b,e,eA,d8,l⟩
 .subst eA;obtain⟨z,hd,vs,rel,dd⟩:=yo I.bj e;obtain⟨eX,hw,hZ⟩:=ie.some_of (v:=v) (o:=tC vs k) (by rw[l];exact rel.val k);exact wpAny_getItem_of (qe bF) dd.mapOf hw (h eX _ (I.tok _) hZ)
 .subst eA;cases(show u=dO b from bF);obtain⟨z,hd,xs,rel,dd⟩:=yp I.bj e;obtain⟨eX,hw,hZ⟩:=ie.some_of (v:=v) (o:=(sl xs k).map (·.2)) (by rw[l];exact rel.val k);obtain⟨p,aW,uP⟩:=ew.mp hw;refine wpAny_getItem_heap (RI cj) (C_ I.bj d8) dd aW ?_;rw[uP];exact h eX _ (I.tok _) hZ
theorem adN{Q:Value→ax→Prop}(cj:A.units+1<cLine)(I:Inv X pins σ H s)(g:ig H a y o)(bF:RelV y u)(h:∀s',Inv X pins σ H s'→Q (.bool (!o.isSome)) s'):
  a4 (bg X.prog X.w) A (hQ .NotIn u (.ref a)) Q E s:=by
 rcases g with⟨kvs,k,e,eA,l⟩|⟨kvs,k,b,e,eA,d8,l⟩
 .subst eA;obtain⟨z,hd,vs,rel,dd⟩:=yo I.bj e;refine wpAny_notIn_of (qe bF) hd dd.mapOf ?_;rw[←(rel.val k).Gb,←l];exact h _ (I.tok _)
 .subst eA;cases(show u=dO b from bF);obtain⟨z,hd,xs,rel,dd⟩:=yp I.bj e;refine wpAny_notIn_heap (RI cj) (C_ I.bj d8) hd dd ?_;have q:=(rel.val k).Gb;rw[acw]at q;rw[←q,←l];exact h _ (I.tok _)
theorem xQ{h':Heap}{t':Nat}{ob:d1}(I:Inv X pins σ H s)(da:zH (H a))(hs:tQ a s.heap h')(he:∃q,h'.get? a=some q)(new:eo X.prog X.w (upd H a ob) h' a ob):
  Inv X pins σ (upd H a ob) {s with heap:=h',toks:=t'}:=
 I.write (x:=a) (e:=a) da (.inl rfl) (λb q af z=>(hs.2 b af).trans z) he new
theorem Dc{P:bL}{w:bC}{U:aa}{h':Heap}{kvs:List (bx×V)}{vs:List (bx×Value)}(z:kvs.length≤sizeLine)(hd:(a==lB)=false)(rel:fC kvs vs)(dd:h'.DictOf (hn P w) a vs):
  eo P w U h' a (.bX kvs):=⟨z,hd,vs,rel,dd⟩
theorem aai{U:aa}{Q:Unit→ax→Prop}(cj:A.units+1<cLine)(I:Inv X pins σ H s)(g:qw H a y v U)(bF:RelV y u)(cz:RelV v r)(h:∀s',Inv X pins σ U s'→Q () s'):
  a4 (bg X.prog X.w) A (setItem (.ref a) u r) Q E s:=by
 rcases g with⟨kvs,k,e,eA,l,Mc⟩|⟨kvs,k,b,e,eA,d8,l,Mc⟩
 .subst eA Mc;obtain⟨z,hd,vs,rel,dd⟩:=vw I.bj e;have bB:vs.length≤sizeLine:=by rw[←rel.length];exact z
  have aq:(eJ kvs k v).length≤sizeLine:=by have:=Gm kvs k v;omega
  refine wpAny_setItem_pairs (hsz:=bB) (qe bF) dd λh' jZ hs=>h _ ?_;have he:∃q,h'.get? a=some q:=let⟨q,_,_,bb,_⟩:=jZ;⟨q,bb⟩
  exact xQ I (by rw[e];exact kR) hs he (Dc aq hd (rel.put k cz) jZ)
 .subst eA Mc;cases(show u=dO b from bF);obtain⟨z,hd,xs,rel,dd⟩:=ag4 I.bj e;have bB:xs.length≤sizeLine:=by rw[←hO rel];exact z
  have aq:(eJ kvs k v).length≤sizeLine:=by have:=Gm kvs k v;omega
  refine wpAny_setItem_heap (hsz:=bB) (RI cj) (C_ I.bj d8) dd λh' jZ hs=>h _ ?_;obtain⟨q,es,ep,bb,aj,bk,cv,_,dW⟩:=jZ;refine xQ I (by rw[e];exact kR) hs ⟨q,bb⟩ ⟨aq,hd,_,(rel.put k d8 cz).keeps λc ys kZ=>?_,q,es,ep,bb,aj,bk,cv,dW⟩;rw[aD (gb kZ e (λz=>nomatch z))];exact kZ
end
section
variable{X:bh}{pins:List (Addr×Obj)}{σ:St}{H:aa}{s:ax}{a:Addr}{kvs:List (bx×V)}{k:bx}{u:Value}{A:c4}{E:Value→ax→Prop}
theorem asj{Q:Unit→ax→Prop}(I:Inv X pins σ H s)(e:H a=some (.bX kvs))(bF:RelV (dz k) u)(l:(cU kvs k).isSome=true)(h:∀s',Inv X pins σ (upd H a (.bX (tv kvs k))) s'→Q () s'):
  a4 (bg X.prog X.w) A (delItem (.ref a) u) Q E s:=by
 obtain⟨z,hd,vs,rel,dd⟩:=vw I.bj e;refine wpAny_delItem_slot dd.typeIs (by decide) acP
  (Af acP dd.typeIs PySem.F.entry_dict_delitem (PySem.F.args_dict_delitem_2 _ _) (meets_dict_delitem_pairs (hn X.prog X.w) a (qe bF)) ⟨vs,dd,by rw[←rel.length];exact z,by rw[←(rel.val k).Gb];exact l,λh' jZ hs=>h _ ?_⟩)
 have he:∃q,h'.get? a=some q:=let⟨q,_,_,bb,_⟩:=jZ;⟨q,bb⟩
 exact xQ I (by rw[e];exact kR) hs he (Dc (el (TJ kvs k) z) hd (rel.drop k) jZ)
theorem ag5{v:V}{more:List Value}{Q:Value→ax→Prop}(I:Inv X pins σ H s)(e:H a=some (.bX kvs))(bF:RelV (dz k) u)(l:cU kvs k=some v)(hm:more=[]∨∃x,more=[x])(h:∀eX s',Inv X pins σ (upd H a (.bX (tv kvs k))) s'→RelV v eX→Q eX s'):a4 (bg X.prog X.w) A (call (.builtin "dict.pop") (.ref a::u::more)) Q E s:=by
 obtain⟨z,hd,vs,rel,dd⟩:=vw I.bj e;obtain⟨eX,hw,hZ⟩:=ie.some_of (v:=v) (o:=tC vs k) (by rw[←l];exact rel.val k);have aW:(keyPart u).isSome=true:=by
  cases k with
  |inl i=>obtain⟨t,q⟩:=(show∃t,u=ko i t from bF);subst q;rfl
  |inr x=>obtain⟨t,q⟩:=(show∃t,u=t7 x t from bF);subst q;rfl
 have aI:wU "dict.pop" ⟨.ref a::u::more,[]⟩:=by
  rcases hm with q|⟨x,q⟩
  .subst q;exact PySem.F.args_dict_pop_2 _ _
  .subst q;exact acJ _ _ _
 refine Af Wj dd.typeIs acL aI (meets_dict_pop_there (hn X.prog X.w) a (qe bF) more hm aW)
  ⟨vs,eX,dd,by rw[←rel.length];exact z,hw,λh' jZ hs=>h eX _ ?_ hZ⟩
 have he:∃q,h'.get? a=some q:=let⟨q,_,_,bb,_⟩:=jZ;⟨q,bb⟩
 exact xQ I (by rw[e];exact kR) hs he (Dc (el (TJ kvs k) z) hd (rel.drop k) jZ)
theorem afp{r:Value}{Q:Value→ax→Prop}(I:Inv X pins σ H s)(e:H a=some (.bX kvs))(bF:RelV (dz k) u)(l:cU kvs k=none)(h:∀s',Inv X pins σ H s'→Q r s'):
  a4 (bg X.prog X.w) A (call (.builtin "dict.pop") [.ref a,u,r]) Q E s:=by
 obtain⟨z,hd,vs,rel,dd⟩:=vw I.bj e;have aw:tC vs k=none:=ie.none_of (by rw[←l];exact rel.val k);have aW:(keyPart u).isSome=true:=by
  cases k with
  |inl i=>obtain⟨t,q⟩:=(show∃t,u=ko i t from bF);subst q;rfl
  |inr x=>obtain⟨t,q⟩:=(show∃t,u=t7 x t from bF);subst q;rfl
 exact Af Wj dd.typeIs acL (acJ _ _ _) (meets_dict_pop_default (hn X.prog X.w) a (qe bF) hd aW r) ⟨vs,dd,aw,h _ (I.tok _)⟩
end
noncomputable def W_(i:Expr):Prop:=∀hr q8,Rj i false hr q8=operate [hr,q8] (uD hr q8)
theorem adO{prog:bL}{w:bC}{A:c4}{E:Value→ax→Prop}{s:ax}{env:Env}{value slice:Expr}{pos:Pos}{T id:String}{Q:Value→ax→Prop}(aq:typeLookup (.type T) "__getitem__"=pure (some (.builtin id)))(hs:W_ slice)(h:a4 (bg prog w) A (eval value env) (λo dH=>a4 (bg prog w) A (eval slice env) (λi qq=>qq.TypeIs o T∧a4 (bg prog w) A (uD o i) Q E qq) E dH) E s):
  a4 (bg prog w) A (eval (.Subscript value slice pos) env) Q E s:=by
 refine WH (gf h (λo dH N5=>gf N5 (λi qq N6=>?_) λ_ _ x=>x) λ_ _ x=>x);obtain⟨q0,N6⟩:=N6;unfold Λ;refine aR ?_;rw[getitemInPython_of_ne q0.not_modules];refine aR (wpAny_specialOf q0 aq ?_);have fin:a4 (bg prog w) A (Rj slice false o i) (λr Μ=>a4 (bg prog w) A (letTemporaryGo value o r >>=λ_=>pure r) Q E Μ) E qq:=by rw[hs o i];exact wpAny_operating (gf N6 (λr Μ anZ=>aR (wpAny_letTemporaryGo (bN anZ))) λ_ _ x=>x)
 first
  |exact bN (aR fin)
  |exact aR (bN (aR fin))
  |exact aR fin
theorem ć{X:bh}{pins:List (Addr×Obj)}{σ:St}{H:aa}{s:ax}{a:Addr}{y:V}{o:Option V}(I:Inv X pins σ H s)(g:ig H a y o):s.TypeIs (.ref a) "dict":=by
 rcases g with⟨kvs,k,e,_,_⟩|⟨kvs,k,b,e,_,_,_⟩
 .obtain⟨_,_,vs,_,dd⟩:=yo I.bj e;exact dd.typeIs
 .obtain⟨_,_,xs,_,dd⟩:=yp I.bj e;exact dd.typeIs
noncomputable def ag6(eL ty:TE):TE:=λσ H Q=>eL σ H λx H1=>ty σ H1 λy ak=>∃a v,x=.ref a∧ig ak a y (some v)∧Q v ak
noncomputable def adP(ty eL:TE):TE:=λσ H Q=>ty σ H λy H1=>eL σ H1 λx ak=>∃a o,x=.ref a∧ig ak a y o∧Q (.aV (!o.isSome)) ak
noncomputable def agJ(eL ty jx:TE):eY:=λD σ H=>jx σ H λv H1=>eL σ H1 λx ak=>ty σ ak λy bp=>∃a dw,x=.ref a∧qw bp a y v dw∧D.cf σ dw
section
variable{X:bh}{o i e value:Expr}{pos pos' RH:Pos}{eL ty jx:TE}
theorem sX(cj:X.A.units+1<cLine)(bw:bJ X o eL)(ar:bJ X i ty)(hs:W_ i):bJ X (.Subscript o i pos) (ag6 eL ty):=by intro pins s σ H Q I h;refine adO PySem.F.slot_dict_getitem.lookup hs (bM (bw pins s σ H _ I h) λu s1⟨x,H1,aU,bo,bT⟩=>bM (ar pins s1 σ H1 _ aU bT) λq8 s2⟨y,ak,bI,bF,a,v,ex,g,c6⟩=>?_);subst ex;obtain rfl:u=dO a:=bo;exact⟨ć bI g,aah cj bI g bF λeX s3 c8 hZ=>⟨v,ak,c8,hZ,c6⟩⟩
theorem Q0(cj:X.A.units+1<cLine)(ar:bJ X i ty)(bw:bJ X o eL):JY X .NotIn i o (adP ty eL):=by intro pins s σ H Q I h;refine bM (ar pins s σ H _ I h) λq8 s1⟨y,H1,aU,bF,bT⟩=>bM (bw pins s1 σ H1 _ aU bT) λu s2⟨x,ak,bI,bo,a,hr,ex,g,c6⟩=>?_;subst ex;obtain rfl:u=dO a:=bo;exact adN cj bI g bF λs3 c8=>⟨.aV (!hr.isSome),ak,c8,rfl,c6⟩
theorem HU(cj:X.A.units+1<cLine)(bw:bJ X o eL)(ar:bJ X i ty)(bA:bJ X value jx)(hs:x_ value (some (.Subscript o i pos')) pos.line X.env=pure false):
  h4 X (.Assign [.Subscript o i pos'] value pos) (agJ eL ty jx):=by intro pins s σ H D I h;refine wpAny_Assign_Subscript (bM (bA pins s σ H _ I h) λr s1⟨v,H1,aU,cz,bT⟩=>bM (bw pins s1 σ H1 _ aU bT) λu s2⟨x,ak,bI,bo,c6⟩=>bM (ar pins s2 σ ak _ bI c6) λq8 s3⟨y,bp,c8,bF,a,dw,ex,g,g8⟩=>?_) hs;subst ex;obtain rfl:u=dO a:=bo;exact aai cj c8 g bF cz λs4 i2=>⟨σ,dw,i2,g8⟩
end
theorem TP{P:bL}{w:bC}{H:aa}(h:Heap)(af:lB<h.objs.size):eo P w H (h.push {cls:=.type "dict",data:=.dict #[]}) h.objs.size (.bX []):=
 ⟨eD _,wX.mpr (b' (en af)),[],.nil,Heap.DictOf.new h⟩
theorem aaE{P:bL}{w:bC}{H:aa}(h:Heap)(af:lB<h.objs.size):eo P w H (h.push {cls:=.type "dict",data:=.dict #[]}) h.objs.size (.eO []):=
 ⟨eD _,wX.mpr (b' (en af)),[],.nil,_,#[],0,hg _ rfl,⟨rfl,rfl,rfl⟩,rfl,rfl,n_⟩
noncomputable def afq:TE:=λ_ H Q=>∀p,H p=none→Q (.ref p) (upd H p (.bX []))
noncomputable def afr:TE:=λ_ H Q=>∀p,H p=none→Q (.ref p) (upd H p (.eO []))
section
variable{X:bh}{pos:Pos}
theorem RS:bJ X (.Dict [] [] pos) afq:=λpins s σ H Q I h=>
 aqZ ⟨.ref s.heap.objs.size,_,I.laid (a:=s.heap.objs.size) (o:=.bX []) (t':=s.toks) (λ_ _ q=>dJ _ q) (bY _) (TP s.heap I.big),rfl,h _ (I.bj.fresh (bY _))⟩
theorem aaF:bJ X (.Dict [] [] pos) afr:=λpins s σ H Q I h=>
 aqZ ⟨.ref s.heap.objs.size,_,I.laid (a:=s.heap.objs.size) (o:=.eO []) (t':=s.toks) (λ_ _ q=>dJ _ q) (bY _) (aaE s.heap I.big),rfl,h _ (I.bj.fresh (bY _))⟩
end
noncomputable def II:List (TE×TE)→St→aa→(List (V×V)→aa→Prop)→Prop
 |[],_,H,Q=>Q [] H
 | (aP,jx)::r,σ,H,Q=>aP σ H λx H1=>jx σ H1 λy ak=>II r σ ak λps bp=>Q ((x,y)::ps) bp
noncomputable abbrev WY:List (V×V)→List (Value×Value)→Prop:=bH λp q=>RelV p.1 q.1∧RelV p.2 q.2
noncomputable def Ef(X:bh)(pos:Pos)(keys:List (Option Expr))(values:List Expr)(rF:List (TE×TE)):Prop:=
 ∀(pins:List (Addr×Obj))(s:ax)(σ:St)(H:aa)(Q:List (V×V)→aa→Prop),Inv X pins σ H s→II rF σ H Q→
  a4 (bg X.prog X.w) X.A (evalPairs (pairTrees keys values X.env pos)) (λvs s'=>∃ps U,Inv X pins σ U s'∧WY ps vs∧Q ps U) X.dA s
theorem adQ{X:bh}{pos:Pos}:Ef X pos [] [] []:=λpins s σ H Q I h=>pairTrees_nil_walk ⟨[],H,I,.nil,h⟩
theorem aaV{X:bh}{pos:Pos}{k v:Expr}{gq:List (Option Expr)}{vs:List Expr}{aP jx:TE}{rF:List (TE×TE)}(aT:bJ X k aP)(bA:bJ X v jx)(au:Ef X pos gq vs rF):
  Ef X pos (some k::gq) (v::vs) ((aP,jx)::rF):=λpins s σ H Q I h=>
 pairTrees_cons_walk (bM (aT pins s σ H _ I h) λu s1⟨x,H1,aU,bo,bT⟩=>bM (bA pins s1 σ H1 _ aU bT) λha s2⟨y,ak,bI,bF,c6⟩=>
  bM (au pins s2 σ ak _ bI c6) λws s3⟨ps,bp,c8,rel,g8⟩=>⟨(x,y)::ps,bp,c8,.cons ⟨bo,bF⟩ rel,g8⟩)
noncomputable def x7(kvs more:List (bx×V)):List (bx×V):=more.foldl (λacc ck=>eJ acc ck.1 ck.2) kvs
theorem fC.merge:∀{more:List (bx×V)}{rs:List (bx×Value)}{kvs:List (bx×V)}{vs:List (bx×Value)},fC more rs→fC kvs vs→fC (x7 kvs more) (merged vs rs):=by
 intro more rs kvs vs r;unfold fC at r
 induction r generalizing kvs vs with
 |nil=>intro q;exact q
 |@cons p q ps mQ h t a7=>
  intro r0;have e:fC (eJ kvs p.1 p.2) (stored vs q.1 q.2):=by have:=r0.put p.1 h.2;rw[←h.1];exact this
  exact a7 e
theorem ι:∀(more kvs:List (bx×V)),(x7 kvs more).length≤kvs.length+more.length
 |[],kvs=>by show kvs.length≤kvs.length+0;omega
 |p::r,kvs=>by have ai:=ι r (eJ kvs p.1 p.2);have aj:=Gm kvs p.1 p.2;show(x7 (eJ kvs p.1 p.2) r).length≤_;rw[i5];omega
theorem Ã{P:bL}{w:bC}:∀{kvs:List (bx×V)}{ws:List (Value×Value)},WY (kvs.map λck=>(dz ck.1,ck.2)) ws→∃rs,Carries (hn P w) ws rs∧fC kvs rs
 |[],_,r=>by rw[D']at r;cases r;exact⟨[],kR,.nil⟩
 |p::kvs,_,r=>by
  rw[gv]at r;cases r with
  |@cons a b as bs h t=>
   obtain⟨rs,c,q⟩:=Ã (P:=P) (w:=w) t;obtain⟨gC,gk⟩:=b;exact⟨(p.1,gk)::rs,⟨qe h.1,rfl,c⟩,.cons ⟨rfl,h.2⟩ q⟩
noncomputable def agK(rF:List (TE×TE)):TE:=λσ H Q=>∀p,H p=none→II rF σ (upd H p (.bX [])) λps ak=>ak p=some (.bX [])∧∃kvs:List (bx×V),ps=kvs.map (λck=>(dz ck.1,ck.2))∧kvs.length≤15∧Q (.ref p) (upd ak p (.bX (x7 [] kvs)))
theorem adR{X:bh}{pos:Pos}{keys:List (Option Expr)}{values:List Expr}{rF:List (TE×TE)}(h:Ef X pos keys values rF)(uI:keys.all (·.isSome)=true)(aq:keys.length=values.length)(h0:keys≠[])(amk:keys.length≤15):bJ X (.Dict keys values pos) (agK rF):=by
 intro pins s σ H Q I q;have aw:=I.bj.fresh (bY s.heap.objs.size);have aU:=I.laid (a:=s.heap.objs.size) (o:=.bX []) (h':=s.heap.push {cls:=.type "dict",data:=.dict #[]}) (t':=s.toks) (λ_ _ q=>dJ _ q) (bY _) (TP s.heap I.big);refine wpAny_Dict_walk (knd:=hn X.prog X.w) uI aq h0 amk (bM (h pins _ σ _ _ aU (q _ aw)) λws s2⟨ps,ak,bI,rel,e,kvs,ep,lk,c6⟩=>?_);subst ep;obtain⟨rs,c,tk⟩:=Ã (P:=X.prog) (w:=X.w) rel;obtain⟨z,hd,atQ,r0,dd⟩:=vw bI.bj e;cases r0;refine⟨rs,c,dd,λh' jZ hs=>⟨.ref s.heap.objs.size,_,?_,rfl,c6⟩⟩;have bB:(x7 [] kvs).length≤sizeLine:=by have ai:=ι kvs [];rw[qG]at ai;rw[tp];omega
 have he:∃q,h'.get? s.heap.objs.size=some q:=let⟨q,_,_,bb,_⟩:=jZ;⟨q,bb⟩
 exact xQ bI (by rw[e];exact kR) hs he (Dc bB hd (tk.merge .nil) jZ)
structure aN(X:bh)(o:Expr)(m:Str)(fg:Pos)(e:Expr)(fy:Pos):Prop where
 base:Ab o m X.env (eval o X.env)=eval o X.env
 b9:((g0 fy (dM [e] X.env)).all (λx=>!x.1)&&(ku fy (kE [] X.env)).all (λx=>x.1.isSome)
  && decide (([e]:List Expr).length+([]:List tT).length+(if([]:List tT).isEmpty then 0 else 1)<30))=true
 line:(fg.endLine==fy.line)=true
 trees:g0 fy (dM [e] X.env)=[(false,eval e X.env)]
structure M2(X:bh)(o:Expr)(m:Str)(fg:Pos)(e f:Expr)(fy:Pos):Prop where
 base:Ab o m X.env (eval o X.env)=eval o X.env
 b9:((g0 fy (dM [e,f] X.env)).all (λx=>!x.1)&&(ku fy (kE [] X.env)).all (λx=>x.1.isSome)
  && decide (([e,f]:List Expr).length+([]:List tT).length+(if([]:List tT).isEmpty then 0 else 1)<30))=true
 line:(fg.endLine==fy.line)=true
 trees:g0 fy (dM [e,f] X.env)=[(false,eval e X.env),(false,eval f X.env)]
noncomputable def zx(H:aa)(a:Addr):Prop:=(∃kvs,a5 H a (.bX kvs))∨∃kvs,a5 H a (.eO kvs)
theorem IJ{X:bh}{pins:List (Addr×Obj)}{σ:St}{H:aa}{s:ax}{a:Addr}(I:Inv X pins σ H s)(d:zx H a):
  s.TypeIs (.ref a) "dict"∧(∀b,dO a=.ref b→∃ob,s.heap.get? b=some ob∧ob.dict=none)∧(a==lB)=false:=by
 rcases d with⟨kvs,e⟩|⟨kvs,e⟩
 .obtain⟨_,hd,vs,_,dd⟩:=yo I.bj e;refine⟨dd.typeIs,λb q=>?_,hd⟩;cases q;obtain⟨ob,_,_,ai,aj,_⟩:=dd;exact⟨ob,ai,aj.2.1⟩
 .obtain⟨_,hd,xs,_,dd⟩:=yp I.bj e;refine⟨dd.typeIs,λb q=>?_,hd⟩;cases q;obtain⟨ob,_,_,ai,aj,_⟩:=dd;exact⟨ob,ai,aj.2.1⟩
section
variable{X:bh}{pins:List (Addr×Obj)}{σ:St}{H:aa}{s:ax}{a:Addr}{y d:V}{u r:Value}{o:Option V}{A:c4}{E:Value→ax→Prop}
theorem afs{Q:Value→ax→Prop}(cj:A.units+1<cLine)(I:Inv X pins σ H s)(g:ig H a y o)(bF:RelV y u)(h:∀eX s',Inv X pins σ H s'→RelV (o.getD .bD) eX→Q eX s'):
  a4 (bg X.prog X.w) A (call (.builtin "dict.get") [.ref a,u]) Q E s:=by
 rcases g with⟨kvs,k,e,eA,l⟩|⟨kvs,k,b,e,eA,d8,l⟩
 .subst eA;obtain⟨z,hd,vs,rel,dd⟩:=yo I.bj e;refine Af Wi dd.typeIs acK (acI _ _) (meets_dict_get (hn X.prog X.w) a (qe bF) hd) ⟨_,dd.mapOf,h _ _ (I.tok _) ?_⟩;rw[l];exact(rel.val k).getD rfl
 .subst eA;cases(show u=dO b from bF);obtain⟨z,hd,xs,rel,dd⟩:=yp I.bj e;refine Af Wi dd.typeIs acK (acI _ _) (meetsH_dict_get (C2 (hn X.prog X.w)) a b hd) ⟨RI cj,k,xs,C_ I.bj d8,dd,h _ _ (I.tok _) ?_⟩;rw[l];exact(rel.val k).getD rfl
end
noncomputable def aft(eL ty:TE):TE:=λσ H Q=>eL σ H λx H1=>∃a,x=.ref a∧zx H1 a∧ty σ H1 λy ak=>∃o,ig ak a y o∧Q (o.getD .bD) ak
noncomputable def afu(eL ty nV:TE):TE:=λσ H Q=>eL σ H λx H1=>∃a,x=.ref a∧zx H1 a∧ty σ H1 λy ak=>nV σ ak λz bp=>∃kvs k,bp a=some (.bX kvs)∧y=dz k∧
 (∀v,cU kvs k=some v→Q v (upd bp a (.bX (tv kvs k))))∧(cU kvs k=none→Q z bp)
section
variable{X:bh}{o e f:Expr}{fg fy:Pos}{eL ty nV:TE}
theorem RT(cj:X.A.units+1<cLine)(bw:bJ X o eL)(he:bJ X e ty)(m:aN X o "get" fg e fy):bJ X (.Call (.Attribute o "get" fg) [e] [] fy) (aft eL ty):=by intro pins s σ H Q I h;refine Ò m.base m.b9 m.line Wh Wi PySem.F.type_dict_get (bM (bw pins s σ H _ I h) λu s1⟨x,H1,aU,bo,a,ex,d,bT⟩=>?_);subst ex;obtain rfl:u=dO a:=bo;obtain⟨t1,et,_⟩:=IJ aU d;refine⟨t1,et,?_⟩;rw[m.trees];refine IF rfl (DE (yQ (bM (he pins s1 σ H1 _ aU bT) λq8 s2⟨y,ak,bI,bF,hr,g,c6⟩=>IG ?_)));exact afs cj bI g bF λeX s3 c8 hZ=>⟨_,ak,c8,hZ,c6⟩
theorem aaW(bw:bJ X o eL)(he:bJ X e ty)(hf:bJ X f nV)(m:M2 X o "pop" fg e f fy):bJ X (.Call (.Attribute o "pop" fg) [e,f] [] fy) (afu eL ty nV):=by
 intro pins s σ H Q I h;refine Ò m.base m.b9 m.line Wh Wj PySem.F.type_dict_pop (bM (bw pins s σ H _ I h) λu s1⟨x,H1,aU,bo,a,ex,d,bT⟩=>?_);subst ex;obtain rfl:u=dO a:=bo;obtain⟨t1,et,_⟩:=IJ aU d;refine⟨t1,et,?_⟩;rw[m.trees];refine IF rfl (DE (yQ (bM (he pins s1 σ H1 _ aU bT) λq8 s2⟨y,ak,bI,bF,c6⟩=>
  yQ (bM (hf pins s2 σ ak _ bI c6) λfv s3⟨z,bp,c8,tl,kvs,k,bc,eA,g8,rq⟩=>IG ?_))))
 subst eA;cases l:cU kvs k with
 |some v=>exact ag5 c8 bc bF l (.inr ⟨fv,rfl⟩) λeX s4 i2 hZ=>⟨v,_,i2,hZ,g8 v l⟩
 |none=>exact afp c8 bc bF l λs4 i2=>⟨z,bp,i2,tl,rq l⟩
end
open PySem PySem.Spec PyProof.Rows
section
variable{κ:Type}[DecidableEq κ]
theorem aaX{kvs:List (κ×V)}{k:κ}(h:cU kvs k=none):¬k∈kvs.map (·.1):=by intro m;obtain⟨p,aW,e⟩:=cw.mp m;have q:(kvs.any λck=>decide (ck.1=k))=true:=pb.mpr ⟨p,aW,cB e⟩;rw[oC,h]at q;exact bt q (by simp)
theorem UA{kvs:List (κ×V)}{k:κ}{v:V}(h:cU kvs k=some v):k∈kvs.map (·.1):=by
 have q:(kvs.any λck=>decide (ck.1=k))=true:=by
  rw[oC,h]
  all_goals rfl
 obtain⟨p,aW,e⟩:=pb.mp q;exact cw.mpr ⟨p,aW,ju e⟩
theorem Un:∀{l:List κ}{k:κ},l.Nodup→¬k∈l→(l++[k]).Nodup
 |[],k,_,_=>by simp
 |a::r,k,h,aT=>by
  obtain⟨ai,aj⟩:=hL.mp h;show(a::(r++[k])).Nodup;refine hL.mpr ⟨λm=>?_,Un aj λm=>aT (dx.mpr (m_ m))⟩;rcases hv.mp m with q|q
  .exact ai q
  .exact aT (dx.mpr (cu (gK.mp q).symm))
theorem adi{kvs:List (κ×V)}{k:κ}(v:V)(aw:(kvs.map (·.1)).Nodup)(h:cU kvs k=none):((eJ kvs k v).map (·.1)).Nodup:=by rw[Cb v h,eC];exact Un aw (aaX h)
end
end ag
namespace cq
section
open PySem PySem.Spec PyProof.Rows
open PySem.Builtin PySem.Builtin.Getset_descriptor
structure ah6(K:aS)(C:Addr):Prop where
 ga:bE K (.ref C) "__getattribute__"=some (some (.builtin "BaseException.__getattribute__"))
 no:bE K (.ref C) "__getattr__"=some none
 aI:bE K (.ref C) "__class__"=some (some (.builtin "object.__class__"))
 aw:sg K (.builtin "object.__class__") "__get__"=some (some (.builtin "getset_descriptor.__get__"))
 NW:z8 K (.builtin "object.__class__")=some true
 hm:qL K C (.type "object")=some true
 af:qL K C (.type "BaseException")=some true
end
open PySem PySem.Spec PyProof.Rows ag
section
variable{X:bh}
theorem W2{k:Nat}{A:c4}(r:fW k A):A.units+65<cLine:=by have:=r.un;omega
inductive agL(K:aS)(neg:Bool)(x:ag.V)(y:ag.V)(H:aa)(Q:a6):Prop where
 |mk (d:_) (ds:_) (bW:mb K H x d) (bG:mb K H y (.list ds)) (b4:qN d=true) (cM:qJ ds=true) (d3:Q (.aV (if neg then !(ds.any λz=>hx z d)else ds.any λz=>hx z d)) H)
noncomputable def ah7(K:aS)(neg:Bool):iu:=λx y H Q=>agL K neg x y H Q
theorem aaY{A:c4}{ds:List PyData}{d:PyData}(dg:qN d=true)(cj:A.units+65<cLine):A.units+1+min (t2 ds) d.depth<cLine:=by have ai:=SeqAt.depth_of_shaped dg;have aj:min (t2 ds) d.depth≤d.depth:=JL _ _;omega
theorem Vq(cj:X.A.units+65<cLine):fZ X (hQ .In) (ah7 X.K false):=by intro pins s σ H x y v u Q I bo bF h;obtain⟨d,ds,hd,he,dg,cK,q⟩:=h;obtain⟨as,oV⟩:=B_ I hd bo;obtain⟨bs,mR⟩:=B_ I he bF;exact SeqAt.in_list_reads mR oV cK (SeqAt.canLay_of_shaped dg) (aaY dg cj) ⟨.aV _,H,I,rfl,q⟩
end
end cq
namespace fq
open PySem ag cq
theorem hR:iw "len"=some (.builtin "len"):=by decide+kernel
theorem nf:iw "isinstance"=some (.builtin "isinstance"):=by decide+kernel
theorem Dd:iw "all"=some (.builtin "all"):=by decide+kernel
theorem IK:iw "int"=some (.type "int"):=by decide+kernel
theorem Uo:iw "bool"=some (.type "bool"):=by decide+kernel
theorem afv:iw "str"=some (.type "str"):=by decide+kernel
theorem p1:iw "list"=some (.type "list"):=by decide+kernel
theorem Hn:iw "tuple"=some (.type "tuple"):=by decide+kernel
theorem afw:iw "set"=some (.type "set"):=by decide+kernel
structure fo(mg:Str→Option Value):Prop where
 len:mg "len"=none
 range:mg "range"=none
 isinstance:mg "isinstance"=none
 Aa:mg "all"=none
 int:mg "int"=none
 bool:mg "bool"=none
 str:mg "str"=none
 list:mg "list"=none
 tuple:mg "tuple"=none
 apX:mg "set"=none
 ValueError:mg "ValueError"=none
 enumerate:mg "enumerate"=none
 max:mg "max"=none
 min:mg "min"=none
 sum:mg "sum"=none
 aso:mg "any"=none
 dict:mg "dict"=none
 sorted:mg "sorted"=none
 zip:mg "zip"=none
structure c1(K:aS)(mg:Str→Option Value)(x:Str)(st:Stmt)(ps:List Str)(f:Addr)(fd:b5):Prop where
 fn:a_ K x x st f fd
 at_:mg x=some (.ref f)
 bd:Binds K fd ps []
structure cR(K:aS)(C:Addr)(m qual:Str)(st:Stmt)(ps:List Str)(f:Addr)(fd:b5):Prop where
 fn:a_ K m qual st f fd
 dQ:Meth K C m f
 bd:Binds K fd ps []
structure kl(K:aS)(C:Addr)(qual:Str)(st:Stmt)(ps:List Str)(f:Addr)(fd:b5):Prop where
 fn:a_ K "__init__" qual st f fd
 made:i6 K C f
 bd:Binds K fd ps []
noncomputable def qD(mg:Str→Option Value)(x:Str)(i:Int):Prop:=∃t,mg x=some (.int i t)
theorem sT{X:bh}{x:Str}{i:Int}{pos:Pos}(bz:iJ X x)(h:qD X.mg x i)(hd:(x==("__debug__":Str))=false:=by decide):bJ X (.Name x pos) (rD (.int i)):=by obtain⟨t,e⟩:=h;exact UC bz e ⟨t,rfl⟩ hd
theorem p4{X:bh}{x:Str}{T:String}{pos:Pos}(bz:iJ X x)(hm:X.mg x=none)(bA:iw x=some (.type T))(aw:x≠"__name__":=by decide)(hd:(x==("__debug__":Str))=false:=by decide):bJ X (.Name x pos) (rD (.ty T)):=
 adB (v:=.ty T) bz hm bA rfl aw hd
theorem Vr{X:bh}{x:Str}{C:Addr}{pos:Pos}(bz:iJ X x)(hm:X.mg x=some (.ref C))(hd:(x==("__debug__":Str))=false:=by decide):bJ X (.Name x pos) (rD (.ref C)):=
 UC (v:=.ref C) bz hm rfl hd
theorem Cw{wi:TI}{cs:List (Option Nat)}{b7:TE}{σ rest:ag.St}{H H1:aa}{Q:a6}{J:ff}{xs:List ag.V}(hw:∀R:ff→aa→Prop,R J H1→wi σ H R)(fl:gQ cs σ=none::rest)(dc:ml J H1 xs)(aq:xs.length<sizeLine)(f:ag.V→ag.V)(elt:∀(i:Nat)(x:ag.V)(ak:aa)(R:a6),xs[i]?=some x→aH H1 ak→(∀bK,aH ak bK→R (f x) bK)→b7 (some x::rest) ak R)(fin:∀(D:Addr)(U:aa),H1 D=none→U D=some (.lst (xs.map f))→aH H1 U→Q (.ref D) U):lC wi cs (g4 0) rL b7 σ H Q:=hw _ (afi fl dc aq f elt fin)
theorem afx{wi:TI}{cs:List (Option Nat)}{tt:TT}{b7:TE}{σ rest:ag.St}{H H1:aa}{Q:a6}{J:ff}{xs:List ag.V}(hw:∀R:ff→aa→Prop,R J H1→wi σ H R)(fl:gQ cs σ=none::rest)(dc:ml J H1 xs)(aq:xs.length<sizeLine)(p:ag.V→Bool)(f:ag.V→ag.V)(test:∀(i:Nat)(x:ag.V)(ak:aa)(R:Bool→aa→Prop),xs[i]?=some x→aH H1 ak→(∀bK,aH ak bK→R (p x) bK)→tt (some x::rest) ak R)(elt:∀(i:Nat)(x:ag.V)(ak:aa)(R:a6),xs[i]?=some x→p x=true→aH H1 ak→(∀bK,aH ak bK→R (f x) bK)→b7 (some x::rest) ak R)(fin:∀(D:Addr)(U:aa),H1 D=none→U D=some (.lst ((xs.filter p).map f))→aH H1 U→Q (.ref D) U):lC wi cs (g4 0) tt b7 σ H Q:=hw _ (Jj fl dc aq p f test elt fin)
theorem x8(K:aS)(t:String):oi K (.type t) (.type t)=some true:=by unfold oi;exact a8 (by simp)
theorem yA{X:bh}:nF (eQ X.prog X.w) X qF:=by rintro pins σ H s e s' I ⟨_,_,_,_,_,_,_,z⟩;exact z.elim
theorem iz{cl big:List (Str×Addr)}(h:∀p∈cl,big.lookup p.1=some p.2)(x:Str)(c:Addr)(e:cl.lookup x=some c):big.lookup x=some c:=by
 induction cl with
 |nil=>cases e
 |cons p r a7=>
  obtain⟨y,d⟩:=p;rw[List.lookup_cons]at e;by_cases af:(x==y)=true
  .rw[af]at e;cases e;have:=h (y,c) (r' ..);rw[show x=y from eq_of_beq af];exact this
  .rw[Bool.not_eq_true]at af;rw[af]at e;exact a7 (λp aW=>h p (lL _ aW)) e
end fq
namespace aN
open PySem
noncomputable def zN(l:List Nat):Prop:=1≤l.length∧l.length≤8∧∀x∈l,97≤x∧x≤122
structure a5 where
 a:Nat
 b:Nat
 t:Int
 m:Int
structure a5.Ok(r:a5)(n:Nat):Prop where
 a:r.a<n
 b:r.b<n
 ne:r.a≠r.b
 t:1≤r.t∧r.t≤9
 m:1≤r.m∧r.m≤1000000000
end aN
namespace fq
open PySem ag cq aN
section
variable{P:bL}{w:bC}{K:aS}{mg:Str→Option Value}{base:Heap}
noncomputable abbrev S(l:List Nat):Str:=⟨l.toArray⟩
theorem adj{ns:List Int}{k:Int}(h0:0≤k)(ai:k<(ns.map V.int).length):gj (ns.map V.int) k=some (V.int (ns.getD k.toNat 0)):=by
 have aj:k.toNat < ns.length:=by rw[a']at ai;omega
 have e:(ns.map V.int)[k.toNat]?=some (V.int (ns.getD k.toNat 0)):=by rw[cL,ct aj];simp[cH,aj]
 have:=ja e
 rwa [DV h0]at this
inductive agM(K:aS)(vs:(List ag.V))(H:aa)(Q:a6)(bl:b6):Prop where
 |mk (a:Addr) (ns:List Int) (k:Int) (bW:vs=[.ref a,.int k]) (bG:aO K H a (ns.map V.int)) (b4:0≤k) (cM:Q (.int (ns.getD k.toNat 0)) H)
noncomputable def Kd(K:aS):b8:=λvs H Q bl=>agM K vs H Q bl
theorem Ĉ:(gA "abcdefghijklmnopqrstuvwxyz").cps.toList=(dt 26).map (97+·):=by decide+kernel
theorem aaZ{i:Int}(h0:0≤i)(ai:i<26):gj (gA "abcdefghijklmnopqrstuvwxyz").cps.toList i=some (97+i.toNat):=by
 have e:(gA "abcdefghijklmnopqrstuvwxyz").cps.toList[i.toNat]?=some (97+i.toNat):=by rw[Ĉ,cL,Vv (by omega)];rfl
 have:=ja e
 rwa [DV h0]at this
theorem agN(a b:List Nat):S a++S b=S (a++b):=by show Str.append _ _=_;simp[Str.append,S]
theorem DJ(a:List Nat):(S a).length=a.length:=by simp[S,Str.length]
noncomputable def dn(hs:List (List Nat)):List ag.V:=hs.map λl=>V.str (S l)
theorem SG(hs:List (List Nat)):dn hs=(hs.map S).map V.str:=by simp[dn]
theorem Up(l:List Nat):signs (S l)=l.map λc=>V.str (S [c]):=by simp[signs,S]
noncomputable def nS(hs:List (List Nat))(r:aN.a5):List ag.V:=[.str (S (hs.getD r.a [])),.str (S (hs.getD r.b [])),.int r.t,.int r.m]
noncomputable def dU(H:aa):List Addr→List (List ag.V)→Prop:=bH λr d=>H r=some (.tup d)
theorem dU.same{H U:aa}(aA:aH H U){rs ds}(h:dU H rs ds):dU U rs ds:=bH.f_ h λ_ _ e=>aA _ _ e
noncomputable def aK(rs:List Addr):List ag.V:=rs.map V.ref
theorem Paired.snoc{α β:Type}{F:α→β→Prop}{x:α}{y:β}(q:F x y):∀{l:List α}{m:List β},bH F l m→bH F (l++[x]) (m++[y])
 |_,_,.nil=>.cons q .nil
 |_,_,.cons r t=>.cons r (Paired.snoc q t)
theorem Ii{hs:List (List Nat)}{k:Int}(h0:0≤k)(ai:k<hs.length):gj (dn hs) k=some (V.str (S (hs.getD k.toNat []))):=by
 have aj:k.toNat < hs.length:=by omega
 have e:(dn hs)[k.toNat]?=some (V.str (S (hs.getD k.toNat []))):=by unfold dn;rw[cL,ct aj];simp[cH,aj]
 have:=ja e
 rwa [DV h0]at this
theorem Cx(hs:List (List Nat)):(dn hs).length=hs.length:=a' ..
theorem i8{H U:aa}{p:Addr}{o:d1}(aW:H p=none)(aA:aH H U):aH H (upd U p o):=λb u e=>by rw[aD (b2 e aW)];exact aA b u e
theorem dU.upd{H:aa}{p:Addr}{o u:d1}{rs ds}(h:dU H rs ds)(e:H p=some u)(cj:∀d,u≠.tup d):dU (upd H p o) rs ds:=bH.f_ h λr d q=>by
 rw[aD]
 .exact q
 .rintro rfl;rw[e]at q;exact cj d (hM q)
theorem qX(rs:List Addr)(t:Addr):aK rs++[V.ref t]=aK (rs++[t]):=by simp[aK]
theorem eb(rs:List Addr):(aK rs).length=rs.length:=a' ..
theorem dU.len{H rs ds}(h:dU H rs ds):rs.length=ds.length:=hO h
theorem cA{H:aa}{t:Addr}{o:d1}(df:H t=none):aH H (upd H t o):=λb u e=>by rw[aD (b2 e df)];exact e
theorem eE{b:Bool}{A B:Prop}(h:b=true)(q:A):if b=true then A else B:=by rw[a8 h];exact q
theorem fO{b:Bool}{A B:Prop}(h:b=false)(q:B):if b=true then A else B:=by subst h;exact q
theorem oP{R:a6}{b:Bool}{H:aa}(e:b=true)(h:R (.aV true) H):R (.aV b) H:=by rw[e];exact h
theorem RU(xs:List ag.V):xs.map (λ_=>V.aV true)=(zE xs.length true).map V.aV:=by
 induction xs with
 |nil=>rfl
 |cons x r a7=>simp[List.replicate_succ,a7]
theorem RV(n:Nat):(zE n true).all id=true:=by rw[wA];intro x ay;exact(List.mem_replicate.mp ay).2
structure Vh(K:aS):Prop where
 OJ:oi K (.type "int") (.type "bool")=some false
inductive aa0(vs:(List ag.V))(H:aa)(Q:a6)(bl:b6):Prop where
 |mk (i:Int) (bW:vs=[.int i]) (bG:Q (.aV true) H)
noncomputable def HV:b8:=λvs H Q bl=>aa0 vs H Q bl
inductive aaj(vs:(List ag.V))(H:aa)(Q:a6)(bl:b6):Prop where
 |mk (i a b:Int) (bW:vs=[.int i,.int a,.int b]) (bG:a≤i) (b4:i≤b) (cM:Q (.aV true) H)
noncomputable def RW:b8:=λvs H Q bl=>aaj vs H Q bl
inductive abp(vs:(List ag.V))(H:aa)(Q:a6)(bl:b6):Prop where
 |mk (r:Addr) (xs:List ag.V) (n:Int) (bW:vs=[.ref r,.int n]) (bG:H r=some (.tup xs)) (b4:(xs.length:Int)=n) (cM:Q (.aV true) H)
noncomputable def HW:b8:=λvs H Q bl=>abp vs H Q bl
theorem G9(ys:List Str):(ys.map V.str).all qb=true:=by rw[wA];intro x ay;obtain⟨y,_,rfl⟩:=cw.mp ay;rfl
theorem HX{ys:List Str}{x:Str}(h:x∈ys):pZ (.str x) (ys.map V.str)=true:=by unfold pZ;rw[pb];exact⟨.str x,cw.mpr ⟨x,h,rfl⟩,by show(x==x)=true;exact beq_self_eq_true x⟩
inductive aak(K:aS)(vs:(List ag.V))(H:aa)(Q:a6)(bl:b6):Prop where
 |mk (a:Addr) (ys:List Str) (x y:Str) (bW:vs=[.ref a,.str x,.str y]) (bG:aO K H a (ys.map V.str)) (b4:x∈ys) (cM:y∈ys) (d3:x≠y) (fK:Q (.aV true) H)
noncomputable def RX(K:aS):b8:=λvs H Q bl=>aak K vs H Q bl
theorem apQ:gA "a"=⟨#[97]⟩:=by decide+kernel
theorem apS:gA "z"=⟨#[122]⟩:=by decide+kernel
inductive adk(vs:(List ag.V))(H:aa)(Q:a6)(bl:b6):Prop where
 |mk (l:List Nat) (bW:vs=[.str (S l)]) (bG:zN l) (b4:∀U,aH H U→Q (.aV true) U)
noncomputable def IL:b8:=λvs H Q bl=>adk vs H Q bl
structure zF(mg:Str→Option Value):Prop where
 abB:qD mg "MOST_HOUSES" 12
 abD:qD mg "MOST_ROADS" 40
 abF:qD mg "MOST_SIGNS" 8
 abH:qD mg "MOST_TURNS" 9
 abE:qD mg "MOST_ROOM" 1000000000
theorem JE{a b:List Nat}(h:S a=S b):a=b:=by have:=iP (λx=>x.cps.toList) h;simpa[S]using this
theorem adl{hs:List (List Nat)}(h:hs.Nodup):∀i j,i<j→j<(hs.map S).length→(hs.map S).getD i iM≠(hs.map S).getD j iM:=by
 intro i j Nq bq e;rw[a']at bq;have ar:i<hs.length:=by omega
 rw[cH,cH,cL,cL,ct ar,ct bq]at e;have aE:=JE (show S hs[i]=S hs[j]from e);exact Ea.mp h i j ar bq Nq aE
structure Good(hs:List (List Nat)):Prop where
 nm:∀x∈hs,zN x
 aF:hs.Nodup
 b9:hs.length≤12
inductive adm(vs:(List ag.V))(H:aa)(Q:a6)(bl:b6):Prop where
 |mk (a:Addr) (hs:List (List Nat)) (bW:vs=[.ref a]) (bG:H a=some (.lst (dn hs))) (b4:Good hs) (cM:∀U,aH H U→Q (.aV true) U)
noncomputable def IM:b8:=λvs H Q bl=>adm vs H Q bl
theorem bH.get{α β:Type}{F:α→β→Prop}:∀{l:List α}{m:List β}{i:Nat}{x:α},bH F l m→l[i]?=some x→∃y,m[i]?=some y∧F x y
 |_,_,_,_,.nil,e=>by simp at e
 |_,_,0,_,.cons r _,e=>by simp at e;subst e;exact⟨_,rfl,r⟩
 |_,_,i+1,x,.cons _ t,e=>by obtain⟨y,ai,aj⟩:=bH.get (i:=i) (x:=x) t (by simpa using e);exact⟨y,by simpa using ai,aj⟩
structure gL(H:aa)(hs:List (List Nat))(rs:List Addr)(ds:List aN.a5):Prop where
 hE:dU H rs (ds.map (nS hs))
 ok:∀d∈ds,d.Ok hs.length
theorem gL.same{H U:aa}{hs rs ds}(r:gL H hs rs ds)(aA:aH H U):gL U hs rs ds:=⟨r.hE.same aA,r.ok⟩
theorem gL.get{H:aa}{hs rs ds}{i:Nat}{r:Addr}(q:gL H hs rs ds)(e:rs[i]?=some r):∃d,ds[i]?=some d∧d.Ok hs.length∧H r=some (.tup (nS hs d)):=by obtain⟨y,ai,aj⟩:=bH.get q.hE e;rw[cL]at ai;obtain⟨d,hd,rfl⟩:=ew.mp ai;exact⟨d,hd,q.ok d (dY hd),aj⟩
theorem gL.len{H:aa}{hs rs ds}(q:gL H hs rs ds):rs.length=ds.length:=by
 have:=q.hE.len
 rwa [a']at this
theorem oI{hs:List (List Nat)}{a:Nat}(h:a<hs.length):S (hs.getD a [])∈hs.map S:=by refine cw.mpr ⟨hs.getD a [],?_,rfl⟩;rw[cH,ct h];exact jA h
theorem agO{hs:List (List Nat)}{a b:Nat}(aF:hs.Nodup)(aI:a<hs.length)(af:b<hs.length)(ne:a≠b):S (hs.getD a [])≠S (hs.getD b []):=by
 intro e;have aE:=JE e;rw[cH,cH,ct aI,ct af]at aE;rcases Nat.lt_or_gt_of_ne ne with h|h
 .exact Ea.mp aF a b aI af h aE
 .exact Ea.mp aF b a af aI h aE.symm
inductive adn(K:aS)(vs:(List ag.V))(H:aa)(Q:a6)(bl:b6):Prop where
 |mk (a r:Addr) (hs:List (List Nat)) (d:aN.a5) (bW:vs=[.ref a,.ref r]) (bG:aO K H a (dn hs)) (b4:hs.Nodup) (cM:d.Ok hs.length) (d3:H r=some (.tup (nS hs d))) (fK:Q (.aV true) H)
noncomputable def IP(K:aS):b8:=λvs H Q bl=>adn K vs H Q bl
inductive ado(K:aS)(vs:(List ag.V))(H:aa)(Q:a6)(bl:b6):Prop where
 |mk (a b:Addr) (hs:List (List Nat)) (rs:List Addr) (ds:List aN.a5) (bW:vs=[.ref a,.ref b]) (bG:aO K H a (dn hs)) (b4:hs.Nodup) (cM:H b=some (.lst (aK rs))) (d3:gL H hs rs ds) (fK:rs.length≤40) (iZ:∀U,aH H U→Q (.aV true) U)
noncomputable def IQ(K:aS):b8:=λvs H Q bl=>ado K vs H Q bl
noncomputable def SameBut(x:Addr)(H U:aa):Prop:=∀b o,b≠x→H b=some o→U b=some o
noncomputable def W3(a b:Addr):List (Str×ag.V):=[("kept_houses",.ref a),("kept_roads",.ref b)]
structure rV(K:aS)(C:Addr):Prop where
 cl:d_ K C
 s_:s7 K C "kept_houses"
 il:s7 K C "kept_roads"
inductive adp(K:aS)(C:Addr)(vs:(List ag.V))(H:aa)(Q:a6)(bl:b6):Prop where
 |mk (x ah a b:Addr) (hs:List (List Nat)) (rs:List Addr) (ds:List aN.a5) (bW:vs=[.ref x,.ref a,.ref b]) (bG:H x=some (.ins C ah [])) (b4:H a=some (.lst (dn hs))) (cM:Good hs) (d3:H b=some (.lst (aK rs))) (fK:gL H hs rs ds) (iZ:rs.length≤40) (m5:∀(U:aa)(aZ a3:Addr),SameBut x H U→U x=some (.ins C ah (W3 aZ a3))→U aZ=some (.lst (dn hs))→U a3=some (.lst (aK rs))→H aZ=none→H a3=none→Q .bD U)
noncomputable def IS(K:aS)(C:Addr):b8:=λvs H Q bl=>adp K C vs H Q bl
structure ib(C:Addr)(H:aa)(x aZ a3:Addr)(xs ys:List ag.V):Prop where
 ins:∃ah,H x=some (.ins C ah (W3 aZ a3))
 q5:H aZ=some (.lst xs)
 qi:H a3=some (.lst ys)
theorem ib.same{C:Addr}{H U:aa}{x aZ a3:Addr}{xs ys:List ag.V}(n:ib C H x aZ a3 xs ys)(aA:aH H U):ib C U x aZ a3 xs ys:=
 let⟨ah,h⟩:=n.ins
 ⟨⟨ah,aA _ _ h⟩,aA _ _ n.q5,aA _ _ n.qi⟩
inductive Ħ(C:Addr)(vs:(List ag.V))(H:aa)(Q:a6)(bl:b6):Prop where
 |mk (x aZ a3:Addr) (xs ys:List ag.V) (bW:vs=[.ref x]) (bG:ib C H x aZ a3 xs ys) (b4:∀l,H l=none→Q (.ref l) (upd H l (.lst xs)))
noncomputable def B2(C:Addr):b8:=λvs H Q bl=>Ħ C vs H Q bl
inductive aal(C:Addr)(vs:(List ag.V))(H:aa)(Q:a6)(bl:b6):Prop where
 |mk (x aZ a3:Addr) (xs ys:List ag.V) (bW:vs=[.ref x]) (bG:ib C H x aZ a3 xs ys) (b4:∀l,H l=none→Q (.ref l) (upd H l (.lst ys)))
noncomputable def Ho(C:Addr):b8:=λvs H Q bl=>aal C vs H Q bl
inductive abq(C R:Addr)(vs:(List ag.V))(H:aa)(Q:a6)(E:b6):Prop where
 |mk (x aZ a3:Addr) (xs ys:List ag.V) (k:Int) (bW:vs=[.ref x,.int k]) (bG:ib C H x aZ a3 xs ys) (b4:(0≤k∧k<ys.length→∃v,gj ys k=some v∧Q v H)) (cM:(¬(0≤k∧k<ys.length)→E (.ref R) none H))
noncomputable def HY(C R:Addr):b8:=λvs H Q E=>abq C R vs H Q E
noncomputable def bO(hs:List (List Nat)):List PyData:=(hs.map S).map PyData.str
theorem TQ{l:List Nat}(h:zN l):Wa (.str (S l))=true:=by simp only[Wa,PyData.strOk,S];rw[Array.all_eq_true_iff_forall_mem];intro x ay;have:=h.2.2 x (by simpa using ay);exact cB (by omega)
theorem Uq{ds:List PyData}(h:∀d∈ds,d.canLay0=true):qJ ds=true:=by
 induction ds with
 |nil=>rfl
 |cons d r a7=>
  simp only[qJ,hG];exact⟨h d (r' ..),a7 λe he=>h e (lL _ he)⟩
theorem Q1{ds:List PyData}{n:Nat}(h:∀d∈ds,d.depth≤n):t2 ds≤n:=by
 induction ds with
 |nil=>exact eD _
 |cons d r a7=>
  simp only[t2];exact Nat.max_le.mpr ⟨h d (r' ..),a7 λe he=>h e (lL _ he)⟩
theorem G'{d:PyData}{n:Nat}(ai:d.canLay0=true)(aj:d.depth≤n)(bk:n≤64):qN d=true:=by unfold qN;rw[ai,cB (el aj bk)];rfl
theorem Ur{d:PyData}(h:d.canLay0=true):(if true=true then !hx d d else hx d d)=false:=by rw[Tx d h];rfl
theorem G_{bU dw:aa}{x ah:Addr}{o u:d1}(ay:bU x=none)(hd:bU ah=none)(cF:SameBut x (upd (upd bU ah o) x u) dw):aH bU dw:=λb v e=>by have cI:=b2 e ay;have c3:=b2 e hd;refine cF b v cI ?_;rw[aD cI,aD c3];exact e
inductive ae9(K:aS)(vs:(List ag.V))(H:aa)(Q:a6)(bl:b6):Prop where
 |mk (a:Addr) (ns:List Int) (bW:vs=[.ref a]) (bG:aO K H a (ns.map V.int)) (b4:ns.length≤63) (cM:∀U,Q (.aV true) U)
noncomputable def DK(K:aS):b8:=λvs H Q bl=>ae9 K vs H Q bl
noncomputable def VF(cd:rY)(br:Array (Option Value))(C R:Addr):Bool:=match cd.mro,br.toList with
  |.ref yL::bm,[_,_,_,_,some (.builtin _),_]=>yL==C&&!cd.hasDel&&bm.contains (.type "BaseException")&&(dO C::bm).contains (.ref R)
  |_,_=>false
theorem aam{K:aS}{C R:Addr}{dd:Option Addr}{cd:rY}{br:Array (Option Value)}(l:K.lookup C=some ⟨.type "type",dd,.cls cd,br⟩)(h:VF cd br C R=true):rg K C R=true:=by unfold rg;rw[l];exact h
theorem afa(K:aS):oi K (.type "int") (.type "bool")=some false:=by show(if(si "int"==si "bool")=true then some true else if ac0 "bool"=true then(alZ "int").map (·.contains (.type "bool"))else none)=some false;decide+kernel
theorem ne_int{i j:Int}(h:i≠j):decide (V.int i=V.int j)=false:=dP λz=>h (V.int.inj z)
end
open PySem ag cq aN
section
variable{P:bL}{w:bC}{K:aS}{mg:Str→Option Value}{base:Heap}
noncomputable def top(i:Nat):Stmt:=arS.main.body.getD i (.Pass ⟨0,0,0,0⟩)
end
open PySem ag cq aN
mutual
inductive dD(H:aa):ag.V→PyData→Prop
 |bD:dD H .bD .none
 |aV (b:Bool):dD H (.aV b) (.bool b)
 |int (i:Int):dD H (.int i) (.int i)
 |str (x:Str) (z:x.length≤100) (ok:PyData.strOk x=true):dD H (.str x) (.str x)
 |lst {a:Addr} {xs:List ag.V} {ds:List PyData}:H a=some (.lst xs)→xs.length≤100→eg H xs ds→dD H (.ref a) (.list ds)
 |tup {a:Addr} {xs:List ag.V} {ds:List PyData}:H a=some (.tup xs)→xs.length≤100→eg H xs ds→dD H (.ref a) (.tuple ds)
inductive eg(H:aa):List ag.V→List PyData→Prop
 |nil:eg H [] []
 |cons {v:ag.V} {d:PyData} {vs:List ag.V} {ds:List PyData}:dD H v d→eg H vs ds→eg H (v::vs) (d::ds)
end
mutual
theorem dD.same{H U:aa}(aA:aH H U):∀{v:ag.V}{d:PyData},dD H v d→dD U v d
 |_,_,.bD=>.bD
 |_,_,.aV b=>.aV b
 |_,_,.int i=>.int i
 |_,_,.str x z ok=>.str x z ok
 |_,_,.lst h z t=>.lst (aA _ _ h) z (eg.same aA t)
 |_,_,.tup h z t=>.tup (aA _ _ h) z (eg.same aA t)
theorem eg.same{H U:aa}(aA:aH H U):∀{vs:List ag.V}{ds:List PyData},eg H vs ds→eg U vs ds
 |_,_,.nil=>.nil
 |_,_,.cons a b=>.cons (dD.same aA a) (eg.same aA b)
end
mutual
theorem dD.kx{K:aS}{H:aa}:∀{v:ag.V}{d:PyData},dD H v d→mb K H v d
 |_,_,.bD=>.bD
 |_,_,.aV b=>.aV b
 |_,_,.int i=>.int i
 |_,_,.str x z ok=>.str x
 |_,_,.lst h z t=>.lst (aO.of h) (eg.kx t)
 |_,_,.tup h z t=>.tup (b1.of h) (eg.kx t)
theorem eg.kx{K:aS}{H:aa}:∀{vs:List ag.V}{ds:List PyData},eg H vs ds→qE K H vs ds
 |_,_,.nil=>.nil
 |_,_,.cons a b=>.cons (dD.kx a) (eg.kx b)
end
mutual
theorem dD.kU{H:aa}:∀{v:ag.V}{d:PyData},dD H v d→d.canLay0=true
 |_,_,.bD=>rfl
 |_,_,.aV b=>rfl
 |_,_,.int i=>rfl
 |_,_,.str x z ok=>ok
 |_,_,.lst h z t=>eg.kU t
 |_,_,.tup h z t=>eg.kU t
theorem eg.kU{H:aa}:∀{vs:List ag.V}{ds:List PyData},eg H vs ds→qJ ds=true
 |_,_,.nil=>rfl
 |_,_,.cons a b=>by simp only[qJ,hG];exact⟨dD.kU a,eg.kU b⟩
end
mutual
theorem dD.inj{H:aa}:∀{v:ag.V}{d e:PyData},dD H v d→dD H v e→d=e
 |_,_,_,.bD,.bD=>rfl
 |_,_,_,.aV b,.aV _=>rfl
 |_,_,_,.int i,.int _=>rfl
 |_,_,_,.str x _ _,.str _ _ _=>rfl
 |_,_,_,.lst h _ t,.lst h' _ t'=>by rw[h]at h';cases h';rw[eg.inj t t']
 |_,_,_,.tup h _ t,.tup h' _ t'=>by rw[h]at h';cases h';rw[eg.inj t t']
 |_,_,_,.lst h _ _,.tup h' _ _=>by rw[h]at h';cases h'
 |_,_,_,.tup h _ _,.lst h' _ _=>by rw[h]at h';cases h'
theorem eg.inj{H:aa}:∀{vs:List ag.V}{ds es:List PyData},eg H vs ds→eg H vs es→ds=es
 |_,_,_,.nil,.nil=>rfl
 |_,_,_,.cons a b,.cons aZ a3=>by rw[dD.inj a aZ,eg.inj b a3]
end
theorem eg.len{H:aa}:∀{vs:List ag.V}{ds:List PyData},eg H vs ds→vs.length=ds.length
 |_,_,.nil=>rfl
 |_,_,.cons _ b=>by simp[eg.len b]
theorem eg.get{H:aa}:∀{vs:List ag.V}{ds:List PyData}{i:Nat}{v:ag.V},eg H vs ds→vs[i]?=some v→∃d,ds[i]?=some d∧dD H v d
 |_,_,_,_,.nil,e=>by simp at e
 |_,_,0,_,.cons a _,e=>by simp at e;subst e;exact⟨_,rfl,a⟩
 |_,_,i+1,v,.cons _ b,e=>by obtain⟨d,ai,aj⟩:=eg.get (i:=i) (v:=v) b (by simpa using e);exact⟨d,by simpa using ai,aj⟩
open Classical in
noncomputable def EN(H:aa)(v:ag.V):PyData:=if h:∃d,dD H v d then T_ h else .none
theorem TR{H:aa}{v:ag.V}{d:PyData}(h:dD H v d):EN H v=d:=by
 have q:∃d,dD H v d:=⟨d,h⟩
 unfold EN;rw[dif_pos q];exact dD.inj (DF q) h
noncomputable def vp:PyData→String
 |.none=>"NoneType"
 |.bool _=>"bool"
 |.int _=>"int"
 |.str _=>"str"
 |.list _=>"list"
 |.tuple _=>"tuple"
 |.dict _=>"dict"
theorem dD.ty{K:aS}{H:aa}{v:ag.V}{d:PyData}(h:dD H v d):kG K H v (.type (vp d)):=by
 cases h with
 |bD=>exact .bD
 |aV b=>exact .aV b
 |int i=>exact .int i
 |str x _ _=>exact .str x
 |lst h _ _=>exact .lst h
 |tup h _ _=>exact .tup h
noncomputable def tN(t c:String):Option Bool:=if(si t==si c)=true then some true else if ac0 c=true then(alZ t).map (·.contains (.type c))else none
theorem DQ(K:aS){t c:String}{b:Bool}(h:tN t c=some b):oi K (.type t) (.type c)=some b:=h
noncomputable def isTup:PyData→Bool|.tuple _=>true|_=>false
noncomputable def isBool:PyData→Bool|.bool _=>true|_=>false
noncomputable def VG:PyData→Bool|.int _=>true|.bool _=>true|_=>false
theorem abr(d:PyData):tN (vp d) "tuple"=some (isTup d):=by cases d<;>(show tN _ _=some _;simp only[vp,isTup];decide+kernel)
theorem UT(d:PyData):tN (vp d) "bool"=some (isBool d):=by cases d<;>(show tN _ _=some _;simp only[vp,isBool];decide+kernel)
theorem afb(d:PyData):tN (vp d) "int"=some (VG d):=by cases d<;>(show tN _ _=some _;simp only[vp,VG];decide+kernel)
noncomputable def abt:PyData→Bool
 |.int _=>true
 |_=>false
noncomputable def Cy(lo ar:Int):PyData→Bool
 |.int i=>decide (lo≤i)&&decide (i≤ar)
 |_=>false
noncomputable def inD(d:PyData)(ds:List PyData):Bool:=ds.any λz=>hx z d
noncomputable def jE(hs:List PyData)(a b:PyData):Bool:=inD a hs&&inD b hs&&!hx a b
end fq
namespace cq
open PySem PySem.Spec PyProof.Rows ag
end cq
namespace fq
open PySem PySem.Spec PyProof.Rows ag cq aN
structure J2 where
 p:aa→ag.V→Prop
 up:∀{H U:aa}{v:ag.V},aH H U→p H v→p U v
noncomputable def ala(d:PyData):J2:=⟨λH v=>dD H v d,λaA h=>h.same aA⟩
section
variable{X:bh}{e a b:Expr}{es:List Expr}{pos e8:Pos}{vF:List (Option J2)}{A B R:J2}
theorem UV{H v i}(h:dD H v (.int i)):v=.int i:=by cases h;rfl
theorem IT{H v ds}(h:dD H v (.list ds)):∃a xs,v=.ref a∧H a=some (.lst xs)∧xs.length≤100∧eg H xs ds:=by cases h;exact⟨_,_,rfl,by assumption,by assumption,by assumption⟩
theorem VH{H v ds}(h:dD H v (.tuple ds)):∃a xs,v=.ref a∧H a=some (.tup xs)∧xs.length≤100∧eg H xs ds:=by cases h;exact⟨_,_,rfl,by assumption,by assumption,by assumption⟩
variable{i j:Int}
variable{st:List Stmt}
end
open PySem ag cq aN
noncomputable abbrev L(x:String):Str:=gA x
theorem Ij{hs:List (List Nat)}{y:Str}(h:y∉hs.map S):inD (.str y) (bO hs)=false:=by unfold inD;rw[TU];intro z;obtain⟨v,bA,e⟩:=pb.mp z;obtain⟨u,cj,rfl⟩:=cw.mp bA;have bR:(u==y)=true:=e;exact h (eq_of_beq bR▸cj)
theorem VI{H:aa}:∀{hs:List (List Nat)},(∀x∈hs,zN x)→eg H (dn hs) (bO hs)
 |[],_=>.nil
 |l::hs,h=>.cons (.str (S l) (by rw[DJ];have:=(h l (r' ..)).2.1;omega) (TQ (h l (r' ..)))) (VI λx ay=>h x (lL _ ay))
theorem WJ{H:aa}{a:Addr}{hs:List (List Nat)}(G:Good hs)(h:H a=some (.lst (dn hs))):dD H (.ref a) (.list (bO hs)):=.lst h (by rw[Cx];have:=G.b9;omega) (VI G.nm)
end fq
namespace aN
open PySem
noncomputable def hsz(c:Int):Nat:=(1+c%8).toNat
noncomputable def e6(c:Int):Nat:=(c/8%(1+c%8)).toNat
noncomputable def iD(c:Int)(k j:Nat):Nat:=97+((c/64+5*(j:Int)*(j:Int)+2*(k:Int)*(if j=e6 c then 1 else 0))%26).toNat
noncomputable def q4(c:Int)(k:Nat):List Nat:=(dt (hsz c)).map (iD c k)
noncomputable def ra(c:Int)(m:Nat):List (List Nat):=(dt m).map (q4 c)
theorem VJ(c:Int):1≤hsz c∧hsz c≤8:=by unfold hsz;omega
theorem adq(c:Int):(1+c%8)=(hsz c:Int):=by unfold hsz;omega
theorem afc(c:Int):e6 c<hsz c:=by
 have ai:0<1+c%8:=by omega
 have aj:=lJ (c/8) ai;have bk:=kO (c/8) (by omega:1+c%8≠0);unfold e6 hsz;omega
theorem ads(c:Int):c/8%(1+c%8)=(e6 c:Int):=by have bk:=kO (c/8) (by omega:1+c%8≠0);unfold e6;omega
theorem ae1(c:Int)(k j:Nat):97≤iD c k j∧iD c k j≤122:=by unfold iD;omega
theorem ae2(c:Int)(k:Nat):zN (q4 c k):=by have h:=VJ c;refine⟨by simp[q4];omega,by simp[q4];omega,λx ay=>?_⟩;obtain⟨j,_,rfl⟩:=cw.mp ay;exact ae1 c k j
theorem adt{c:Int}{k l:Nat}(aT:k<13)(aq:l<13)(e:q4 c k=q4 c l):k=l:=by
 have h:=afc c;have aE:(q4 c k)[e6 c]?=(q4 c l)[e6 c]?:=by rw[e]
 unfold q4 at aE;rw[cL,cL,Vv h]at aE;have dj:iD c k (e6 c)=iD c l (e6 c):=by simpa using aE
 unfold iD at dj;rw[a8 rfl]at dj;generalize c/64+5*(e6 c:Int)*(e6 c:Int)=z at dj;omega
theorem aru{α:Type}{f:Nat→α}{m:Nat}(h:∀i j,i<m→j<m→f i=f j→i=j):((dt m).map f).Nodup:=by refine r_.mpr ?_;refine aa1 ?_ (D_ (n:=m));intro a b aI af pQ e;exact pQ (h a b (gZ.mp aI) (gZ.mp af) e)
theorem ħ{c:Int}{m:Nat}(h:m≤12):(ra c m).Nodup:=aru λi j ar bq e=>adt (by omega) (by omega) e
theorem P8(c:Int)(m:Nat):(ra c m).length=m:=by simp[ra]
structure Lt where
 a:Nat
 b:Nat
 t:Int
noncomputable def rM(c:Int):Int:=c*982451653%10000000000037
noncomputable def l5(n:Nat)(c:Int):Int:=rM c%n
noncomputable def lend(n:Nat)(c:Int):Int:=(l5 n c+1+rM c/n%((n:Int)-1))%n
noncomputable def lt(n:Nat)(c base:Int):Lt:=⟨(l5 n c).toNat,(lend n c).toNat,base+rM c/1000%31⟩
structure Lt.Ok(d:Lt)(n:Nat)(base:Int):Prop where
 a:d.a<n
 b:d.b<n
 ne:d.a≠d.b
 lo:base≤d.t
 ar:d.t≤base+30
theorem WK{n:Nat}(h:1<n)(c base:Int):(lt n c base).Ok n base:=by
 have gC:0≤l5 n c:=kO _ (by omega);have gk:l5 n c<n:=lJ _ (by omega);have az:0≤lend n c:=kO _ (by omega);have aE:lend n c<n:=lJ _ (by omega);have kV:0≤rM c/n%((n:Int)-1):=kO _ (by omega);have kW:rM c/n%((n:Int)-1)<(n:Int)-1:=lJ _ (by omega);have ne:l5 n c≠lend n c:=by
  intro z;have dj:lend n c=(l5 n c+1+rM c/n%((n:Int)-1))%n:=rfl;generalize rM c/n%((n:Int)-1)=x at kV kW dj;by_cases bP:l5 n c+1+x<n
  .rw[Ji (by omega) bP]at dj;omega
  .have dW:(l5 n c+1+x)%(n:Int)=(l5 n c+1+x-n)%(n:Int):=by rw[Š]
   rw[dW,Ji (by omega) (by omega)]at dj;omega
 have t1:0≤rM c/1000%31:=kO _ (by decide);have et:rM c/1000%31<31:=lJ _ (by decide);exact⟨by show(l5 n c).toNat < n;omega,by show(lend n c).toNat < n;omega,by show(l5 n c).toNat≠(lend n c).toNat;omega,by show base≤base+_;omega,by show base+_≤base+30;omega⟩
end aN
namespace cq
open PySem PySem.Spec PyProof.Rows ag
noncomputable def eM{α:Type}:Sem α→Prop
 |.pure _=>True
 |.raise _=>True
 |.unsupported _=>True
 |.finish _=>True
 |.register _ _=>True
 |.rule _ k=>eM (k ())
 |.at _ k=>eM (k ())
 |.load _ _ k=>∀o,eM (k o)
 |.update _ _ f k=>(∀o,(f o).dict=o.dict)∧eM (k ())
 |.alloc _ k=>∀a,eM (k a)
 |.loadIfAlive _ k=>∀o,eM (k o)
 |.point _ k=>eM (k ())
 |.fresh k=>∀t,eM (k t)
 |.ask k=>∀t,eM (k t)
 |.handled _ k=>∀t,eM (k t)
 |.stack k=>∀t,eM (k t)
 |.thread k=>∀n,eM (k n)
 |_=>False
noncomputable def ho(h h':Heap):Prop:=h.objs.size≤h'.objs.size∧∀e,e<h.objs.size→(h'.objs[e]?).map (·.dict)=(h.objs[e]?).map (·.dict)
theorem ho.refl(h:Heap):ho h h:=⟨bY _,λ_ _=>rfl⟩
theorem ho.trans{h ai aj:Heap}(a:ho h ai)(b:ho ai aj):ho h aj:=⟨el a.1 b.1,λe he=>(b.2 e (jS he a.1)).trans (a.2 e he)⟩
theorem ho.push(h:Heap)(o:Obj):ho h (h.push o):=by
 obtain⟨objs,l⟩:=h;refine⟨?_,λe he=>?_⟩
 .show objs.size≤(objs.push o).size;simp
 .show((objs.push o)[e]?).map _=_;rw[Array.getElem?_push_lt he];simp[he]
theorem ho.update(h:Heap)(a:Addr){f:Obj→Obj}(hf:∀o,(f o).dict=o.dict):ho h (h.update a f):=by
 obtain⟨objs,l⟩:=h;refine⟨?_,λe he=>?_⟩
 .show objs.size≤(objs.modify a f).size;simp
 .show((objs.modify a f)[e]?).map _=_;rw[Array.getElem?_modify];split
  .cases objs[e]? with
   |none=>rfl
   |some o=>show some (f o).dict=_;rw[hf];rfl
  .rfl
theorem ho.dict{h h':Heap}(s:ho h h'){e:Addr}{o cD:Obj}(a:h.get? e=some o)(b:h'.get? e=some cD):cD.dict=o.dict:=by have ai:=(œ.mp a).1;have aj:=(œ.mp b).1;have:=s.2 e (dK a);rw[ai,aj]at this;exact hM this
theorem adu{α:Type}{M:oc}{vF:PySem.Ctx}{Q:α→Pos→ax→Prop}{E:Value→Pos→ax→Prop}(t:Sem α)(aG:eM t)(p:Pos)(s:ax)(h:Sem.wp M vF t Q E p s):
  Sem.wp M vF t (λa hY s'=>Q a hY s'∧ho s.heap s'.heap) (λa hY s'=>E a hY s'∧ho s.heap s'.heap) p s:=by
 have key:∀(t:Sem α),eM t→∀(p:Pos)(s:ax)(h0:Heap),ho h0 s.heap→Sem.wp M vF t Q E p s→Sem.wp M vF t (λa hY s'=>Q a hY s'∧ho h0 s'.heap) (λa hY s'=>E a hY s'∧ho h0 s'.heap) p s:=by
  intro t
  induction t with
  |pure a=>exactλ_ p s h0 dg h=>⟨h,dg⟩
  |raise e=>exactλ_ p s h0 dg h=>⟨h,dg⟩
  |unsupported=>exactλ_ p s h0 dg h=>h
  |finish=>exactλ_ p s h0 dg h=>h
  |register=>exactλ_ p s h0 dg h=>h
  |rule _ k a7=>exactλc p s h0 dg h=>a7 () c p s h0 dg h
  |«at» _ k a7=>exactλc p s h0 dg h=>a7 () c _ s h0 dg h
  |load a _ k a7=>exactλc p s h0 dg⟨o,e,h⟩=>⟨o,e,a7 o (c o) p s h0 dg h⟩
  |update a _ f k a7=>exactλc p s h0 dg⟨e,h⟩=>⟨e,a7 () c.2 p _ h0 (dg.trans (ho.update _ _ c.1)) h⟩
  |alloc o k a7=>exactλc p s h0 dg h=>a7 _ (c _) p _ h0 (dg.trans (ho.push _ _)) h
  |loadIfAlive a k a7=>exactλc p s h0 dg h=>a7 _ (c _) p s h0 dg h
  |point _ k a7=>exactλc p s h0 dg h=>a7 () c p s h0 dg h
  |fresh k a7=>exactλc p s h0 dg h=>a7 _ (c _) p _ h0 dg h
  |ask k a7=>exactλc p s h0 dg h=>a7 _ (c _) p s h0 dg h
  |handled _ k a7=>exactλc p s h0 dg h=>a7 _ (c _) p s h0 dg h
  |stack k a7=>exactλc p s h0 dg h=>a7 _ (c _) p s h0 dg h
  |thread k a7=>exactλc p s h0 dg h=>a7 _ (c _) p s h0 dg h
  |choose=>exactλc=>c.elim
  |os=>exactλc=>c.elim
  |call=>exactλc=>c.elim
  |newGen=>exactλc=>c.elim
  |genState=>exactλc=>c.elim
  |resume=>exactλc=>c.elim
  |yield=>exactλc=>c.elim
  |fork=>exactλc=>c.elim
  |await=>exactλc=>c.elim
 exact key t aG p s s.heap (ho.refl _) h
theorem Cc{α:Type}{M:oc}{A:c4}{Q:α→ax→Prop}{E:Value→ax→Prop}{t:Sem α}{s:ax}(aG:eM t)(h:a4 M A t Q E s):a4 M A t (λa s'=>Q a s'∧ho s.heap s'.heap) (λa s'=>E a s'∧ho s.heap s'.heap) s:=
 λvF p anY=>adu t aG p s (h vF p anY)
theorem hk{α β:Type}{t:Sem α}{f:α→Sem β}(h:eM t)(hf:∀a,eM (f a)):eM (t >>=f):=by
 show eM (t.bind f)
 induction t with
 |pure a=>exact hf a
 |raise e=>exact h
 |unsupported=>exact h
 |finish=>exact h
 |register=>exact h
 |rule _ k a7=>exact a7 () h
 |«at» _ k a7=>exact a7 () h
 |load a _ k a7=>exactλo=>a7 o (h o)
 |update a _ f k a7=>exact⟨h.1,a7 () h.2⟩
 |alloc o k a7=>exactλa=>a7 a (h a)
 |loadIfAlive a k a7=>exactλa=>a7 a (h a)
 |point _ k a7=>exact a7 () h
 |fresh k a7=>exactλa=>a7 a (h a)
 |ask k a7=>exactλa=>a7 a (h a)
 |handled _ k a7=>exactλa=>a7 a (h a)
 |stack k a7=>exactλa=>a7 a (h a)
 |thread k a7=>exactλa=>a7 a (h a)
 |choose=>exact h.elim
 |os=>exact h.elim
 |call=>exact h.elim
 |newGen=>exact h.elim
 |genState=>exact h.elim
 |resume=>exact h.elim
 |yield=>exact h.elim
 |fork=>exact h.elim
 |await=>exact h.elim
theorem jD{α:Type}{a:α}:eM (pure a:Sem α):=trivial
theorem pM{α:Type}{x:String}:eM (unsupported x:Sem α):=trivial
theorem q7{α:Type}{c:Prop}[Decidable c]{a b:Sem α}(aI:eM a)(af:eM b):eM (if c then a else b):=by split<;>assumption
theorem Rt{a:Addr}:eM (load a):=λ_=>trivial
theorem arj{v:Value}:eM (fieldsOf v):=by
 unfold fieldsOf;cases v<;>first|exact pM|skip
 refine hk Rt λo=>?_;split<;>first|exact jD|exact pM
theorem Gy{v:Value}{i:Nat}:eM (field v i):=by unfold field;refine hk arj λo=>?_;split<;>first|exact jD|exact pM
theorem O_{v:Value}{i:Nat}{x:Value}:eM (HB v i x):=by
 unfold HB;cases v<;>first|exact pM|skip
 refine hk Rt λo=>?_;split
 .refine q7 ⟨λo=>?_,trivial⟩ pM;obtain⟨c,d,kx,br⟩:=o;cases kx<;>rfl
 .exact pM
theorem OR{v:Value}{f:Option Addr}:eM (Ra v f):=by unfold Ra;refine hk Gy λo=>q7 O_ jD
theorem QG:eM stack:=λ_=>trivial
theorem aqM{ty:String}{vs:List Value}:eM (newFields ty vs):=by
 have as:eM (newObjAsIs (.type ty) (.fields vs.toArray)):=by unfold newObjAsIs;exact hk (λ_=>trivial) λa=>jD
 unfold newFields newObj;exact q7 (c:=vs.toArray.size>sizeLine+2) (hk pM λ_=>as) as
theorem Ĩ{f:Addr}{b:Bool}:eM (XG f b):=by unfold XG;refine hk QG λo=>?_;split<;>exact jD
theorem ĉ{env:Env}{outer:List Env}:eM (aj3 env outer):=by unfold aj3;exact q7 jD (q7 jD (hk Gy λ_=>jD))
theorem aan{env:Env}{b:Bool}{l:List Env}:eM (keptBack env b l):=by
 unfold keptBack;split
 .refine q7 jD (hk ?_ λ_=>jD);exact hk QG λ_=>jD
 .exact jD
theorem Ä:∀l:List Env,eM (readyFrames l)
 |[]=>trivial
 |env::outer=>by
  unfold readyFrames;split
  .exact hk Rt λo=>q7 jD (hk ĉ λ_=>hk aan λ_=>hk ⟨λ_=>rfl,trivial⟩ λ_=>Ä outer)
  .exact pM
theorem arv{env:Env}:eM (Wz env):=by
 unfold Wz frameEnvs;refine hk (hk QG λ_=>jD) λl=>hk ?_ λo=>?_
 .generalize List.dropWhile _ l=oJ;cases oJ with
  |nil=>exact jD
  |cons a b=>exact hk (Ä _) λ_=>jD
 .split<;>first|exact jD|exact pM
theorem ï{e:Value}{env:Env}:eM (PY e env):=by
 unfold PY;have last:∀(f:Addr)(head:Value),eM (do
   let a ←Wz env
   let b ←XG f (head !=gB)
   let c ←arO head a gB (xY f) gB b
   HB e 1 c):=λf head=>hk arv λ_=>hk Ĩ λ_=>hk aqM λ_=>O_
 split
 .exact hk Gy λhead=>q7 (hk Gy λ_=>q7 jD (hk O_ λ_=>last _ _)) (last _ _)
 .exact pM
theorem ν{e:Value}{env:Env}:eM (leaving env e):=hk ï λ_=>OR
noncomputable def De(ng pB:rY)(rz:Array (Option Value))(C:Addr)(fm:String):Bool:=
 (ng.mro==dO C::pB.mro)&&!ng.hasDel&&(match rz.toList with|[_,_,_,_,some (.builtin n),_]=>n==fm|_=>false)
theorem aaT{K:aS}{mg:Str→Option Value}{h:Heap}{y:Str}{C R:Addr}{bm:List Value}{fm:String}{jY EL:Option Addr}{ng pB:rY}{rz Hz:Array (Option Value)}(X:K.In h)(O:Exc K mg y R bm fm)(O9:K.lookup C=some ⟨.type "type",jY,.cls ng,rz⟩)(Pb:K.lookup R=some ⟨.type "type",EL,.cls pB,Hz⟩)(Ag:De ng pB rz C fm=true):
  ∃nm q N bs c0 sn sub ab col k0 k1 k2 k3 k5,h.get? C=some (w2 nm q C N bs c0 ng.hasDict sn sub ab col jY k0 k1 k2 k3 k5 fm)∧wI h bm c0:=by
 obtain⟨c0,V1,nm,q,bs,hdct,sn,sub,ab,col,dd,k0,k1,k2,k3,k5,mN,cC,fk,xl,T⟩:=(O.own X).obj;have MP:=X _ _ Pb;have az:=MP.symm.trans cC;have aE:=hM az;have hm:pB.mro=dO R::c0:=by have dj:(Data.cls pB)=_:=iP Obj.data aE;injection dj with dj;rw[dj]
 unfold De at Ag;simp only[hG,px,TV]at Ag;obtain⟨⟨gM,i_⟩,Ad⟩:=Ag;split at Ad
 .rename_i asS mz oH asT n asU hs;have Ad:=px.mp Ad;subst Ad;obtain⟨aoQ,akj,ati,atw,apz,nt,ap5,ap9,aja,akt,asr⟩:=ng;dsimp only at gM i_;rw[hm]at gM;subst gM i_;obtain⟨Ζ⟩:=rz;simp only at hs;subst hs;exact⟨_,_,_,_,_,_,_,_,_,_,_,_,_,_,X _ _ O9,.own cC fk xl T⟩
 .cases Ad
section
variable{prog:bL}{w:bC}{A:c4}{E:Value→ax→Prop}{s:ax}{K:aS}
variable{nm q:Str}{C N iQ:Addr}{bs bm c0:List Value}{hd:Bool}{sn:List Str}{sub:List Value}{ab:Bool}{col:Option Bool}{jY:Option Addr}{k0 k1 k2 k3 k5:Option Value}{B fm my:String}
theorem aao(F:vI B fm my bm){rest:List Value}{Q:Value→ax→Prop}(T:wI s.heap bm c0)(X:K.In s.heap)(ei:s.heap.get? C=some (w2 nm q C N bs c0 hd sn sub ab col jY k0 k1 k2 k3 k5 fm))(ar:bE K (.ref C) "__init__"=some (some (.ref iQ)))(hf:ac5 K (.ref iQ)=some (.type "function"))(Y8:rest.length≤sizeLine)(bb:∀h' e,s.heap.objs.size≤e→UQ s.heap h' e (.ref C) rest→a4 (bg prog w) (A.under (.builtin "type.__call__" ⟨.ref C::rest,[]⟩)) (call (.ref iQ) (.ref e::rest)) (λr s'=>r=.none∧Q (.ref e) s') E {s with heap:=h'}):
  a4 (bg prog w) A (call (.ref C) rest) Q E s:=by
 obtain⟨h,g,d,t,os⟩:=s;have f1:=tc_lookup;have f2:=tc_bind (.ref C);have q0:(⟨h,g,d,t,os⟩:ax).TypeIs (.ref C) "type":=⟨_,ei,rfl⟩
 refine rI (aks (show a4 _ _ (callAny (.ref C) _) _ _ _ from ?_))
 repeat (any_goals (first|assumption|with_reducible refine jQ ei ?_|wp_step))
 refine⟨rfl,codeAny_call_builtin_at (Ub _ (by decide+kernel)) entry_typeCall (wpAny_check_type_call_sub ei ?_)⟩
 repeat (first|with_reducible refine wpAny_madeBy_exc ei ?_|with_reducible refine jQ ei ?_|wp_step)
 refine codeAny_call_builtin_code (Ub _ F.quiet) (wpAny_check_new_subT F T ei (codeAny_exc_new_subT F T ei (show a4 _ _ _ _ _ _ from ?_) Y8));have uK:((h.push {cls:=.type "tuple",data:=.seq rest.toArray}).push {cls:=.ref C,data:=.fields #[.ref h.objs.size,.none,.none,.none,.bool false,.none]}).get? (h.objs.size+1)=some {cls:=.ref C,data:=.fields #[.ref h.objs.size,.none,.none,.none,.bool false,.none]}:=by heap_get
 have mk:UQ h ((h.push {cls:=.type "tuple",data:=.seq rest.toArray}).push {cls:=.ref C,data:=.fields #[.ref h.objs.size,.none,.none,.none,.bool false,.none]}) (h.objs.size+1) (.ref C) rest:=
  ⟨λb o af=>dJ _ (dJ _ af),UR (wF _),h.objs.size,uK,UR (bY _),dJ _ (Œ rfl rfl)⟩
 have NL:=bb _ _ (wF _) mk;have KD:=X.keeps mk.keeps;have MK:=mk.keeps _ _ ei;have amI:(dO C::c0).contains (.ref C)=true:=by simp
 show a4 _ _ _ _ _ ⟨(h.push {cls:=.type "tuple",data:=.seq rest.toArray}).push {cls:=.ref C,data:=.fields #[.ref h.objs.size,.none,.none,.none,.bool false,.none]},g,d,t,os⟩;dsimp only;generalize(h.push {cls:=.type "tuple",data:=.seq rest.toArray}).push {cls:=.ref C,data:=.fields #[.ref h.objs.size,.none,.none,.none,.bool false,.none]}=aj at uK mk NL KD MK⊢;generalize h.objs.size=a0 at uK mk NL MK⊢;unfold Ga
 repeat (first|with_reducible refine jQ uK ?_|(with_reducible refine Sl MK ?_;rw[amI])|wp_step)
 refine(wM KD ar).here ?_;refine lF (aR ((acU KD _ hf).here ?_));show a4 _ _ (call (.ref iQ) (.ref (a0+1)::rest) >>=λr=>pure (some r)) _ _ _;refine aR (gf NL (λr s' au=>?_) λ_ _ z=>z);obtain⟨rfl,fP⟩:=au
 wp_walk
 exact fP
theorem aap(F:vI B fm my bm){R:ot→ax→Prop}{e t0:Addr}{dR:Option Addr}{br:Array (Option Value)}{rest:List Value}(T:wI s.heap bm c0)(ei:s.heap.get? C=some (w2 nm q C N bs c0 hd sn sub ab col jY k0 k1 k2 k3 k5 fm))(he:s.heap.get? e=some ⟨.ref C,dR,.fields #[.ref t0,.none,.none,.none,.bool false,.none],br⟩)(Y8:rest.length≤sizeLine)(bb:∀h' t,(∀b o,b≠e→s.heap.get? b=some o→h'.get? b=some o)→h'.get? e=some ⟨.ref C,dR,.fields #[.ref t,.none,.none,.none,.bool false,.none],br⟩→R (.ok (.ret .none)) {s with heap:=h'}):
  jX (bg prog w) A (.call (.builtin my) ⟨.ref e::rest,[]⟩) R s:=by
 obtain⟨h,g,d,t,os⟩:=s;refine EJ F.init.plain F.initEntry (wpAny_check_init_subT F T ei he rfl ?_);dsimp only at he⊢
 wp_walk
 have amR:(h.push {cls:=.type "tuple",data:=.seq rest.toArray}).get? e=_:=dJ _ he;refine bb _ h.objs.size (λb o af FO=>?_) ?_
 .show((h.push _).update e _).get? b=some o;rw[jz _ _ (b' af)];exact dJ _ FO
 .show((h.push _).update e _).get? e=_;rw[r4 _ amR rfl];rfl
theorem À{h:Heap}(T:wI h bm c0)(self:Value)(Ñ:Str):QI self Ñ c0=QI self Ñ bm:=by
 induction T with
 |base=>rfl
 |own _ _ _ _ a7=>rw[υ,a7]
theorem UU{M:oc}{d:Addr}{mA:Str→Option Value}{name:Str}{aP:Tok}{v:Value}{ns:List Str}{Q:Fin→ax→Prop}(aw:s.heap.Ns1 d mA)(hw:wN mA ns)(bB:ns.length≤1000)(bb:∀h' fJ,h'.Ns1 d (λy=>if y=name then some v else mA y)→tQ d s.heap h'→Q (.done (.ret .none)) {s with heap:=h',toks:=fJ}):
  a4 M A (Ď d (.str name aP) name v) Q E s:=by unfold Ď arI;refine aR (bN (aR (wpAny_nsSet1 aw λh' lb hs=>?_)));obtain⟨apf,alW,alU,NJ,Nb,M8⟩:=lb.count (Wx name v hw);refine aR (aq5 NJ (by rw[Nb];exact apo (el M8 (by rw[i5,tp];omega))) ?_);exact bN (bb _ _ lb hs)
theorem adv{x:Addr}{name:Str}{v:Value}{l9 owner:String}{vs:Array Value}{br:Array (Option Value)}{Q:Unit→ax→Prop}(X:K.In s.heap)(kQ:StoreFacts B bm l9 owner)(T:wI s.heap bm c0)(ei:s.heap.get? C=some (w2 nm q C N bs c0 hd sn sub ab col jY k0 k1 k2 k3 k5 fm))(hs:bE K (.ref C) "__setattr__"=some (some (.builtin l9)))(aw:bE K (.ref C) name=some none)(bw:Ei K (.ref C) (.type owner)=some true)(ay:s.heap.get? x=some ⟨.ref C,none,.fields vs,br⟩)(Nj:hd=true)(bb:∀h' fJ,h'.get? x=some ⟨.ref C,some s.heap.objs.size,.fields vs,br⟩→h'.Ns1 s.heap.objs.size (λy=>if y=name then some v else none)→(∀b o,b≠x→s.heap.get? b=some o→h'.get? b=some o)→Q () {s with heap:=h',toks:=fJ}):
  a4 (bg prog w) A (CU (.ref x) name v) Q E s:=by
 obtain⟨h,g,d,t,os⟩:=s;dsimp only at X T ei ay;have ty:wK (bg prog w) h (typeOf (.ref x)) (.ref C):=(Wk ay).andThen .now;have ob:wK (bg prog w) h (Ga (.ref x) (.type owner)) true:=ty.andThen (ac3 X bw);unfold CU callSpecial? specialOf;have cc:=kQ.slot.bind (.ref x)
 repeat (any_goals (first|assumption|with_reducible refine jQ ay ?_|wp_step))
 refine(wM X hs).here (lF (aR (Ds cc (aR (rI (EJ kQ.slot.plain kQ.entry (Wm kQ.kind kQ.split ob (kQ.args _ _ _) ?_)))))));have anz:=kQ.passes (.ref x);have uP:QI (.ref x) "__setattr__" c0=pure ():=(À T _ _).trans anz;unfold Builtin.«object.__setattr__»
 repeat (first|rw[refuse_eq]|(rw[υ,uP])|with_reducible refine jQ ay ?_|with_reducible refine aq6 ei ?_|wp_step)
 refine(wM X aw).here (aR (bN ?_));show a4 _ _ (IB _ _ _ _ _ _) _ _ _;unfold IB;refine aR (gf (Q:=λ_ s'=>s'=⟨h,g,d,t+1,os⟩) (E:=λ_ _=>False) ?_ (λ_ _ az=>?_) (λ_ _ z=>z.elim))
 .repeat (first|with_reducible refine jQ ay ?_|with_reducible refine jQ ei ?_|wp_step)
  exact rfl
 .subst az;have Zc:x≠h.objs.size:=en (dK ay);have NY:(h.push {cls:=.type "dict",data:=.dict #[]}).get? x=_:=dJ _ ay;refine aR (gf (Q:=λr s'=>r=some h.objs.size∧s'=⟨(h.push {cls:=.type "dict",data:=.dict #[]}).update x λo=>{o with dict:=some h.objs.size},g,d,t+1,os⟩) (E:=λ_ _=>False) ?_ (λ_ _ az=>?_) (λ_ _ z=>z.elim))
  .show a4 _ _ (OM x true) _ _ _;subst Nj;unfold OM
   repeat (first|with_reducible refine jQ ay ?_|with_reducible refine jQ ei ?_|wp_step)
   exact⟨rfl,rfl⟩
  .obtain⟨rfl,rfl⟩:=az;have am3:((h.push {cls:=.type "dict",data:=.dict #[]}).update x λo=>{o with dict:=some h.objs.size}).get? x=some ⟨.ref C,some h.objs.size,.fields vs,br⟩:=by rw[r4 _ NY rfl]
   have Np:((h.push {cls:=.type "dict",data:=.dict #[]}).update x λo=>{o with dict:=some h.objs.size}).get? h.objs.size=some {cls:=.type "dict",data:=.dict #[]}:=
    (jz _ _ Zc).trans (Œ rfl rfl)
   have ano:((h.push {cls:=.type "dict",data:=.dict #[]}).update x λo=>{o with dict:=some h.objs.size}).Ns h.objs.size (λ_=>none):=⟨_,#[],_,Np,rfl,λe he=>bt he (by simp),λ_=>rfl⟩
   refine UU (mA:=λ_=>none) (ns:=[]) (Ő ano) ac6 (by decide) λh' fJ lb cF=>?_;refine bN (bN (bb h' fJ ?_ lb λb o af FO=>?_))
   .exact(cF.2 x Zc).trans am3
   .refine(cF.2 b (en (dK FO))).trans ((jz _ _ (b' af)).trans (dJ _ FO))
theorem aaU{x ah:Addr}{name:Str}{v:Value}{l9 owner:String}{vs:Array Value}{br:Array (Option Value)}{mA:Str→Option Value}{ns:List Str}{Q:Unit→ax→Prop}(X:K.In s.heap)(kQ:StoreFacts B bm l9 owner)(T:wI s.heap bm c0)(ei:s.heap.get? C=some (w2 nm q C N bs c0 hd sn sub ab col jY k0 k1 k2 k3 k5 fm))(hs:bE K (.ref C) "__setattr__"=some (some (.builtin l9)))(aw:bE K (.ref C) name=some none)(bw:Ei K (.ref C) (.type owner)=some true)(ay:s.heap.get? x=some ⟨.ref C,some ah,.fields vs,br⟩)(Nj:hd=true)(fk:s.heap.Ns1 ah mA)(hw:wN mA ns)(bB:ns.length≤1000)(bb:∀h' fJ,h'.Ns1 ah (λy=>if y=name then some v else mA y)→tQ ah s.heap h'→Q () {s with heap:=h',toks:=fJ}):
  a4 (bg prog w) A (CU (.ref x) name v) Q E s:=by
 obtain⟨h,g,d,t,os⟩:=s;dsimp only at X T ei ay fk;have ty:wK (bg prog w) h (typeOf (.ref x)) (.ref C):=(Wk ay).andThen .now;have ob:wK (bg prog w) h (Ga (.ref x) (.type owner)) true:=ty.andThen (ac3 X bw);unfold CU callSpecial? specialOf;have cc:=kQ.slot.bind (.ref x)
 repeat (any_goals (first|assumption|with_reducible refine jQ ay ?_|wp_step))
 refine(wM X hs).here (lF (aR (Ds cc (aR (rI (EJ kQ.slot.plain kQ.entry (Wm kQ.kind kQ.split ob (kQ.args _ _ _) ?_)))))));have uP:QI (.ref x) "__setattr__" c0=pure ():=(À T _ _).trans (kQ.passes (.ref x));unfold Builtin.«object.__setattr__»
 repeat (first|rw[refuse_eq]|(rw[υ,uP])|with_reducible refine jQ ay ?_|with_reducible refine aq6 ei ?_|wp_step)
 refine(wM X aw).here (aR (bN ?_));show a4 _ _ (IB _ _ _ _ _ _) _ _ _;unfold IB;refine aR (gf (Q:=λ_ s'=>s'=⟨h,g,d,t+1,os⟩) (E:=λ_ _=>False) ?_ (λ_ _ az=>?_) (λ_ _ z=>z.elim))
 .repeat (first|with_reducible refine jQ ay ?_|with_reducible refine jQ ei ?_|wp_step)
  exact rfl
 .subst az;refine aR (gf (Q:=λr s'=>r=some ah∧s'=⟨h,g,d,t+1,os⟩) (E:=λ_ _=>False) ?_ (λ_ _ az=>?_) (λ_ _ z=>z.elim))
  .show a4 _ _ (OM x true) _ _ _;subst Nj;unfold OM
   repeat (first|with_reducible refine jQ ay ?_|with_reducible refine jQ ei ?_|wp_step)
   exact⟨rfl,rfl⟩
  .obtain⟨rfl,rfl⟩:=az;refine UU fk hw bB λh' fJ lb cF=>?_;exact bN (bN (bb h' fJ lb cF))
end
open PySem PySem.Spec PyProof.Rows ag
noncomputable def j1(e C:Addr):d1:=.ext λh=>∃t br,h.get? e=some ⟨.ref C,none,.fields #[.ref t,.none,.none,.none,.bool false,.none],br⟩
noncomputable def j0(e C ah:Addr):d1:=.ext λh=>∃t br,h.get? e=some ⟨.ref C,some ah,.fields #[.ref t,.none,.none,.none,.bool false,.none],br⟩
noncomputable def Ms(e C ah:Addr):d1:=.ext λh=>∃vs br,h.get? e=some ⟨.ref C,some ah,.fields vs,br⟩
noncomputable def kM(d:Addr)(fs:List (Str×V)):d1:=.ext λh=>fs.length≤100∧∃mA,h.Ns1 d mA∧(∀f,ie (fs.lookup f) (mA f))∧wN mA (fs.map (·.1))
section
variable{P:bL}{w:bC}{H:aa}{h:Heap}{e C ah d:Addr}
theorem Vo{t:Addr}{br:Array (Option Value)}(q:h.get? e=some ⟨.ref C,none,.fields #[.ref t,.none,.none,.none,.bool false,.none],br⟩):eo P w H h e (j1 e C):=
 ⟨⟨t,br,q⟩,⟨_,q⟩,λ_ _⟨t,br,z⟩k=>⟨t,br,k _ z⟩⟩
theorem ae3{t:Addr}{br:Array (Option Value)}(q:h.get? e=some ⟨.ref C,some ah,.fields #[.ref t,.none,.none,.none,.bool false,.none],br⟩):eo P w H h e (j0 e C ah):=
 ⟨⟨t,br,q⟩,⟨_,q⟩,λ_ _⟨t,br,z⟩k=>⟨t,br,k _ z⟩⟩
theorem ae4{vs:Array Value}{br:Array (Option Value)}(q:h.get? e=some ⟨.ref C,some ah,.fields vs,br⟩):eo P w H h e (Ms e C ah):=
 ⟨⟨vs,br,q⟩,⟨_,q⟩,λ_ _⟨t,br,z⟩k=>⟨t,br,k _ z⟩⟩
theorem Vp{fs:List (Str×V)}{mA:Str→Option Value}(z:fs.length≤100)(n:h.Ns1 d mA)(r:∀f,ie (fs.lookup f) (mA f))(wi:wN mA (fs.map (·.1))):eo P w H h d (kM d fs):=by
 obtain⟨o,q⟩:∃o,h.get? d=some o:=by obtain⟨o,_,_,q,_⟩:=n.ns;exact⟨o,q⟩
 exact⟨⟨z,mA,n,r,wi⟩,⟨o,q⟩,λ_ _⟨z,mA,n,r,wi⟩k=>⟨z,mA,n.at k,r,wi⟩⟩
end
section
variable{X:bh}{pins:List (Addr×Obj)}{σ:ag.St}{H:aa}{s:ax}
theorem Inv.put2{h':Heap}{t':Nat}{e d:Addr}{rn dR:d1}{qz:Heap→Prop}(I:Inv X pins σ H s)(he:H e=some (.ext qz))(hd:s.heap.objs.size≤d)(k:∀b o,b≠e→s.heap.get? b=some o→h'.get? b=some o)(amU:∃o,h'.get? e=some o)(cI:eo X.prog X.w (upd (upd H d dR) e rn) h' e rn)(c3:eo X.prog X.w (upd (upd H d dR) e rn) h' d dR):Inv X pins σ (upd (upd H d dR) e rn) {s with heap:=h',toks:=t'}:=by
 have amO:H d=none:=I.bj.fresh hd;have Np:∀o,s.heap.get? d≠some o:=λo z=>qI _ (jS (dK z) hd);have ne1:∀b,H b=none→b≠e:=λb n z=>by rw[z,he]at n;cases n
 have old:∀{b:Addr}{u:d1},H b=some u→b≠e→upd (upd H d dR) e rn b=some u:=λ{b u}q n=>by rw[aD n,aD (b2 q amO)];exact q
 have cf:∀{b:Addr}{u:d1},H b=some u→(∀lG,u≠.ext lG)→b≠e:=λ{b u}q n z=>by subst z;rw[he]at q;exact n qz (hM q).symm
 refine I.un ⟨λb o q n _ _=>k b o (ne1 b n) q,λb o q n _ _=>⟨o.slots,k b o (ne1 b n) q⟩,λb o q n _=>?_,λb o q _=>?_,λb xs q=>old q (cf q (by intro lG z;cases z)),λb o u q=>old q (cf q (by intro lG z;cases z)),λb ps q=>⟨#[],by rw[old q (cf q (by intro lG z;cases z))];simp⟩⟩ λb u q=>?_
 .rw[aD (ne1 b n),aD (show b≠d fromλz=>Np o (by rw[←z];exact q))];exact n
 .by_cases af:b=e
  .subst af;exact amU
  .exact⟨o,k b o af q⟩
 .by_cases af:b=e
  .subst af;rw[aQ]at q;cases q;exact cI
  .rw[aD af]at q;by_cases hA:b=d
   .subst hA;rw[aQ]at q;cases q;exact c3
   .rw[aD hA]at q;refine(I.bj b u q).jO (λc v aG r=>k c v ?_ r) (λc r=>old r (cf r (by intro lG z;cases z))) λc xs r=>old r (cf r (by intro lG z;cases z));rcases aG with rfl|aG
    .exact af
    .exact cf aG (by intro lG z;cases z)
theorem ae5{H:aa}{a:Addr}{o:d1}(h:H a=some o):upd H a o=H:=by
 funext b;by_cases af:b=a
 .subst af;rw[aQ,h]
 .rw[aD af]
end
structure lN(K:aS)(mg:Str→Option Value)(y:Str)(C R:Addr):Prop where
 base:Exc K mg y R [.type "ValueError",.type "Exception",.type "BaseException",.type "object"] "ValueError.__new__"
 lk:∃jY ng rz EL pB Hz,K.lookup C=some ⟨.type "type",jY,.cls ng,rz⟩∧K.lookup R=some ⟨.type "type",EL,.cls pB,Hz⟩∧De ng pB rz C "ValueError.__new__"=true∧ng.hasDict=true
 l9:bE K (.ref C) "__setattr__"=some (some (.builtin "object.__setattr__"))
 ob:Ei K (.ref C) (.type "object")=some true
 rd:Wv K R (.type "type")=true
 Fe:Wo K (.ref R) (.type "type") "__init__"=some (.val (.builtin "ValueError.__init__"))
 HC:sg K (.ref R) "__getattribute__"=some (some (.builtin "type.__getattribute__"))
 kZ:ah6 K C
 hd:mj K C=true
theorem lN.obj{K:aS}{mg:Str→Option Value}{y:Str}{C R:Addr}{h:Heap}(x:lN K mg y C R)(X:K.In h):
  ∃nm q N bs c0 sn sub ab col jY k0 k1 k2 k3 k5,h.get? C=some (w2 nm q C N bs c0 true sn sub ab col jY k0 k1 k2 k3 k5 "ValueError.__new__")∧wI h [.type "ValueError",.type "Exception",.type "BaseException",.type "object"] c0:=by obtain⟨jY,ng,rz,EL,pB,Hz,O9,Pb,Ag,hd⟩:=x.lk;obtain⟨nm,q,N,bs,c0,sn,sub,ab,col,k0,k1,k2,k3,k5,ei,T⟩:=aaT X x.base O9 Pb Ag;rw[hd]at ei;exact⟨nm,q,N,bs,c0,sn,sub,ab,col,jY,k0,k1,k2,k3,k5,ei,T⟩
section
variable{X:bh}{o e value:Expr}{es:List Expr}{f y:Str}{pos pos' fg np:Pos}{b3 jx:TE}{t:fD}{R:Addr}
noncomputable def aqe(K:aS)(mg:Str→Option Value)(y:Str)(R:Addr)(t:fD):TE:=λσ H Q=>t σ H λvs H1=>∃e C rest,vs=.ref e::rest∧H1 e=some (j1 e C)∧lN K mg y C R∧rest.length≤sizeLine∧Q .bD H1
theorem TS{pl:Sem Bool}(bz:iJ X y)(hm:X.mg y=some (.ref R))(rd:Wv X.K R (.type "type")=true)(Fe:Wo X.K (.ref R) (.type "type") "__init__"=some (.val (.builtin "ValueError.__init__")))(HC:sg X.K (.ref R) "__getattribute__"=some (some (.builtin "type.__getattribute__")))(aI:hN X (e::es) t)(jh:(y==("__debug__":Str))=false:=by decide)(iE:dM (e::es) X.env=(false,eval e X.env)::dM es X.env:=by rfl)(e6:(g0 pos (dM es X.env)).any (·.1)=false:=by rfl)(df:eval (.Call (.Attribute (.Name y np) "__init__" fg) (e::es) [] pos) X.env=(do
   let hr ←eval (.Name y np) X.env
   tr fg.atName
   let(f,first) ←pV [hr] (xe hr "__init__" pl)
   Ae pos f first (g0 pos (dM (e::es) X.env)) (ku pos (kE [] X.env))):=by rfl):
  bJ X (.Call (.Attribute (.Name y np) "__init__" fg) (e::es) [] pos) (aqe X.K X.mg y R t):=by
 intro pins s σ H Q I h;refine Eh (pl:=pl) (sV I bz hm ?_ jh) df;refine PySem.W.method_cls I.eB HC (PySem.W.cls_value I.eB rd Fe (by decide+kernel) ?_);refine acH (bM (aI pos pins _ σ H _ (I.tok _) h) λus s1⟨vs,H1,aU,cJ,ex,C,rest,ev,hex,gX,bB,q⟩=>?_) iE e6;subst ev;cases cJ with
 |cons oV qj=>
  cases oV;obtain⟨⟨t0,br,he⟩,_,_⟩:=(show eo X.prog X.w H1 s1.heap ex (j1 ex C)from aU.bj ex _ hex)
  obtain⟨nm,gz,N,bs,c0,sn,sub,ab,col,jY,k0,k1,k2,k3,k5,ei,T⟩:=gX.obj aU.eB;refine rI (aap z6 T ei he (by rw[←qj.length];exact bB) λh' t1 bV YH=>?_);have bI:=aU.write (t':=s1.toks) (x:=ex) (e:=ex) (o:=j1 ex C) (by rw[hex];exact trivial) (.inl rfl) (λb u af q=>bV b u af q) ⟨_,YH⟩ (Vo YH);rw[ae5 hex]at bI;exact⟨.bD,H1,bI,rfl,q⟩
noncomputable def agP(K:aS)(mg:Str→Option Value)(y:Str)(R:Addr)(to jx:TE)(f:Str):eY:=λD σ H=>jx σ H λv H1=>to σ H1 λx ak=>∃e C,x=.ref e∧lN K mg y C R∧bE K (.ref C) f=some none∧
 ((ak e=some (j1 e C)∧∀ah,ak ah=none→ah≠e→D.cf σ (upd (upd ak ah (kM ah [(f,v)])) e (j0 e C ah)))∨
 ∃ah fs,ak e=some (j0 e C ah)∧ak ah=some (kM ah fs)∧fs.length<100∧D.cf σ (upd ak ah (kM ah (js f v fs))))
theorem SY(aI:bJ X o b3)(bA:bJ X value jx)(hs:x_ value (some (.Attribute o f pos')) pos.line X.env=pure false):h4 X (.Assign [.Attribute o f pos'] value pos) (agP X.K X.mg y R b3 jx f):=by
 intro pins s σ H D I h;refine apr (bM (bA pins s σ H _ I h) λu s1⟨v,H1,aU,cz,q⟩=>bM (aI pins s1 σ H1 _ aU q) λhr s2⟨x,ak,bI,bo,e,C,ex,gX,aw,c6⟩=>?_) hs;subst ex;obtain rfl:hr=dO e:=bo;obtain⟨nm,gz,N,bs,c0,sn,sub,ab,col,jY,k0,k1,k2,k3,k5,ei,T⟩:=gX.obj bI.eB;rcases c6 with⟨he,c6⟩|⟨ah,fs,he,Bm,bB,c6⟩
 .obtain⟨⟨t0,br,q2⟩,_,_⟩:=(show eo X.prog X.w ak s2.heap e (j1 e C)from bI.bj e _ he)
  refine adv bI.eB acR T ei gX.l9 aw gX.ob q2 rfl λh' fJ e7 FK bV=>?_;have mK:s2.heap.objs.size≠e:=JM (dK q2);refine⟨σ,_,Inv.put2 bI he (bY _) bV ⟨_,e7⟩ (ae3 e7) (Vp (fs:=[(f,v)]) (show 1≤100 by decide) FK (λg=>?_) ?_),c6 _ (bI.bj.fresh (bY _)) mK⟩
  .by_cases bz:g=f
   .subst bz;have af:(g==g)=true:=px.mpr rfl;simp only[r9,af,a8];exact cz
   .have af:(g==f)=false:=wX.mpr bz;simp only[r9,af,aX bz];exact trivial
  .exact Wx f u ac6
 .obtain⟨⟨t0,br,q2⟩,_,_⟩:=(show eo X.prog X.w ak s2.heap e (j0 e C ah)from bI.bj e _ he)
  obtain⟨⟨asR,mA,fk,anG,Za⟩,⟨dR,asK⟩,_⟩:=(show eo X.prog X.w ak s2.heap ah (kM ah fs)from bI.bj ah _ Bm)
  refine aaU bI.eB acR T ei gX.l9 aw gX.ob q2 rfl fk Za (by rw[a'];omega) λh' fJ FK cF=>?_;refine⟨σ,_,bI.write (x:=ah) (e:=ah) (o:=kM ah (js f v fs)) (by rw[Bm];exact trivial) (.inl rfl) (λb z af q=>(cF.2 b af).trans q) (by obtain⟨cD,_,_,q,_⟩:=FK.ns;exact⟨cD,q⟩) (Vp ?_ FK (λg=>?_) ?_),c6⟩
  .have:=PR f v fs;omega
  .rw[PK];by_cases q:g=f
   .rw[a8 q,a8 q];exact cz
   .rw[aX q,aX q];exact anG g
  .intro g bz;by_cases q:g=f
   .rw[q];exact(B0 f v fs).1
   .exact(B0 f v fs).2 g (Za g λz=>bz (by show(if g=f then some u else mA g)=none;rw[aX q];exact z))
end
section
variable{X:bh}{k:Nat}{f C R:Addr}{fd:b5}{ps:List Str}{sp:b8}{y:Str}
theorem abI{pins:List (Addr×Obj)}{σ:ag.St}{H:aa}{s:ax}{us:List Value}{vs:List V}{Rr:Addr→Addr→aa→Prop}(gX:lN X.K X.mg y C R)(ar:bE X.K (.ref C) "__init__"=some (some (.ref f)))(hf:ey X.K (.ref f)=true)(F:aB X.prog X.w X.K X.mg X.base aM k f fd ps sp)(au:fW (k+1) X.A)(af:Binds X.K fd ps [])(I:Inv X pins σ H s)(r:cN vs us)(bB:vs.length≤sizeLine)(h:∀e,H e=none→sp (.ref e::vs) (upd H e (j1 e C)) (λv ak=>v=.bD∧∃ah,ak e=some (j0 e C ah)∧Rr e ah ak) qF):
  a4 (bg X.prog X.w) X.A (call (.ref C) us) (λu s'=>∃e ah ak,u=.ref e∧s.heap.get? e=none∧Inv X pins σ ak s'∧ak e=some (j0 e C ah)∧Rr e ah ak) X.dA s:=by
 obtain⟨nm,gz,N,bs,c0,sn,sub,ab,col,jY,k0,k1,k2,k3,k5,ei,T⟩:=gX.obj I.eB;refine aao z6 T I.eB ei ar (px.mp hf) (by rw[←r.length];exact bB) λh' e hle mk=>?_;obtain⟨t,he,asP,df⟩:=mk.there;have bI:Inv X pins σ (upd H e (j1 e C)) {s with heap:=h'}:=I.laid (a:=e) (o:=j1 e C) (t':=s.toks) mk.keeps hle (Vo he);have bb:=h e (I.bj.fresh hle);have dr:cN (V.ref e::vs) (dO e::us):=.cons rfl r;have aq:(dO e::us++[]).length=ps.length:=by have az:=dr.length;rw[F.len _ _ _ _ bb]at az;rw[kn];exact az.symm
 have dk:=af {s with heap:=h'} (dO e::us) bI.eB aq;rw[kn]at dk;refine rI (uj (F.run _ X.stack _ _ ⟨dO e::us,[]⟩ (dO e::us) _ _ qF (au.make C us []) (bI.EW.make C us []) dk dr bb) λqj s' oD=>?_);cases qj with
 |error x=>exact h3 oD
 |ok er=>
  cases er with
  |ret u=>
   obtain⟨v,U,c8,cz,ev,ah,bk,cv⟩:=bI.after oD;subst ev;exact⟨cz,e,ah,U,rfl,mk.new,c8,bk,cv⟩
  |next=>exact h3 oD
  |brk=>exact h3 oD
  |cont=>exact h3 oD
end
section
variable{prog:bL}{w:bC}{A:c4}{E:Value→ax→Prop}{s:ax}{env:Env}{K:aS}{mg:Str→Option Value}{y:Str}{C R:Addr}
theorem adw{x:Sem Value}{Q:Flow→ax→Prop}(gX:lN K mg y C R)(d9:A.handled=none)(h:a4 (bg prog w) A x (λv dH=>∃e ah t br,v=.ref e∧K.In dH.heap∧dH.heap.get? e=some ⟨.ref C,some ah,.fields #[.ref t,.none,.none,.none,.bool false,.none],br⟩∧E (.ref e) dH) E s):
  a4 (bg prog w) A (τ env (some x) none) Q E s:=by
 unfold τ;refine aR (gf h (λv dH N5=>?_) λ_ _ x=>x);obtain⟨e,ah,t,br,rfl,X,he,j5⟩:=N5;obtain⟨nm,gz,N,bs,c0,sn,sub,ab,col,jY,k0,k1,k2,k3,k5,ei,T⟩:=gX.obj X;have M7:(dO C::c0).contains (.type "BaseException")=true:=by rw[aa4,T.hasType (b:=true) (by decide),ċ]
 obtain⟨aW,g,d,aP,os⟩:=dH
 repeat (first|with_reducible refine jQ he ?_|with_reducible refine jQ ei ?_|(with_reducible refine Sl ei ?_;rw[M7])|wp_step)
 exact wpAny_raiseNew_none d9 j5
end
noncomputable def Vs(h:Heap)(bc:Addr)(dR:Option Addr):Prop:=∀ah,dR=some ah→∃o,h.get? bc=some o∧o.dict=some ah
noncomputable def i1(P:bL)(w:bC):lH:=λfr H s E e s'=>∃(bc:Addr)(cls a0:Value)(U:aa)(B:Heap)(dR:Option Addr),e=.ref bc∧mx P w fr H s bc cls a0 U B s'∧Vs s'.heap bc dR∧E cls dR U
theorem WL{P:bL}{w:bC}{fr:List Env}{H:aa}{s s':ax}{E:b6}{e:Value}(h:eQ P w fr H s E e s'):i1 P w fr H s E e s':=by obtain⟨bc,cls,a0,U,B,rfl,T,q⟩:=h;exact⟨bc,cls,a0,U,B,none,rfl,T,(by intro ah z;cases z),q⟩
noncomputable def del(H:aa)(a:Addr):aa:=λb=>if b=a then none else H b
theorem R6{H:aa}{a:Addr}:del H a a=none:=by unfold del;rw[a8 rfl]
theorem nC{H:aa}{a b:Addr}(h:b≠a):del H a b=H b:=by unfold del;rw[aX h]
section
variable{P:bL}{w:bC}{K:aS}{mg:Str→Option Value}{base:Heap}{N:List Str}{qual:Str}{scope:Scope}{f:Addr}{cdv:Value}{A:c4}{outer:List Env}{s:ax}{H:aa}{E:b6}
noncomputable abbrev ia(P:bL)(w:bC)(K:aS)(mg:Str→Option Value)(base:Heap)(N:List Str)(qual:Str)(scope:Scope)(f:Addr)(cdv:Value)(A:c4)(outer:List Env)(s:ax)(H:aa)(E:b6):bh:=
 jt (i1 P w) P w K mg base N qual scope f cdv A outer s H E
theorem Τ{pins:List (Addr×Obj)}{σ:ag.St}{H1:aa}{s1:ax}(I:Inv (ia P w K mg base N qual scope f cdv A outer s H E) pins σ H1 s1):Inv (fj P w K mg base N qual scope f cdv A outer s H E) pins σ H1 s1:=I.l_ _
theorem ah8{e:Value}{s':ax}(h:(fj P w K mg base N qual scope f cdv A outer s H E).dA e s'):(ia P w K mg base N qual scope f cdv A outer s H E).dA e s':=
 gf h (λ_ _ q=>WL q) λ_ _ q=>WL q
theorem R7:nF (eQ P w) (ia P w K mg base N qual scope f cdv A outer s H E) E:=λpins σ bU sc e s' I h=>ah8 (s6 pins σ bU sc e s' (Τ I) h)
theorem arB{pins:List (Addr×Obj)}{σ:ag.St}{H1:aa}{s1:ax}{bc C ah:Addr}(I:Inv (ia P w K mg base N qual scope f cdv A outer s H E) pins σ H1 s1)(ay:H1 bc=some (j0 bc C ah))(hold:s.heap.get? bc=none)(j5:E (.ref C) (some ah) (del H1 bc)):(ia P w K mg base N qual scope f cdv A outer s H E).dA (.ref bc) s1:=by
 obtain⟨⟨t,br,q2⟩,_,_⟩:=(show eo P w H1 s1.heap bc (j0 bc C ah)from I.bj bc _ ay)
 obtain⟨S,f'⟩:∃S,S=eW (ia P w K mg base N qual scope f cdv A outer s H E).stack:=⟨_,rfl⟩
 have j7:∀env∈(ia P w K mg base N qual scope f cdv A outer s H E).stack,∀b,env.frame=some b→b∈bc::S:=λenv he b af=>by rw[f'];exact lL _ (Jy.mpr ⟨env,he,af⟩)
 have Br:∀b o,H1 b=some o→b∉S:=λb o e z=>by rw[f']at z;rw[I.HH b z]at e;cases e
 have j9:∀b o,s1.heap.get? b=some o→b≠bc→b∉S→(t4 s1.heap (bc::S)).get? b=some o:=λb o e n m=>Wq _ e λz=>by
  rcases dx.mp z with z|z
  .exact n z
  .exact m z
 have G6:∀b o,s.heap.get? b=some o→b≠bc:=λb o e z=>by rw[z,hold]at e;cases e
 have qp:∀b o,s.heap.get? b=some o→b∉eW outer→b∉S:=λb o e af=>by rw[f'];exact xO (Τ I) e af
 have xJ:∀{b:Addr}{u:d1},H1 b=some u→(∀lG,u≠.ext lG)→b≠bc:=λ{b u}q n z=>by subst z;rw[ay]at q;exact n _ (hM q).symm
 have YL:(t4 s1.heap (bc::S)).get? bc=none:=acZ _ (.head _);refine gf (Cc ν (wpAny_leaving_firstW (base:=t4 s1.heap (bc::S)) (a0:=.ref t) (Q:=λ_ s'=>∃h',s'={s1 with heap:=h'}∧Heap.LeftW (t4 s1.heap (bc::S)) _ bc (.ref C) (.ref t) s1.heap h') (E:=λ_ _=>False)
  I.ok.frames (acX I.stack j7) rfl q2 (λb o q=>Wt _ q) YL rfl rfl rfl λh' hz=>⟨h',rfl,hz⟩)) (λ_ s'⟨⟨h',es,hz⟩,dg⟩=>?_) λ_ _ z=>z.1.elim
 subst es;obtain⟨k1,⟨_,_,k2⟩,k3,n3⟩:=hz;have fe:r3 (t4 s1.heap (bc::S)) outer bc (.ref C) (.ref t) h':=⟨k1,YL,k2,k3⟩
 refine⟨bc,.ref C,.ref t,del H1 bc,_,some ah,rfl,⟨fe,I.os,I.bare,λb ob e=>?_,⟨λb o e n af e7=>?_,λb o e n af e7=>?_,λb o e n e7=>?_,λb o e e7=>?_,λb xs q=>?_,λb o u q=>?_,λb ps q=>?_⟩,λb o e af=>?_⟩,?_,j5⟩
 .have af:b≠bc:=λz=>by rw[z,R6]at e;cases e
  rw[nC af]at e;refine(I.bj b ob e).jO (λc u aG q=>?_) (λc r=>by rw[nC (xJ r (by intro lG z;cases z))];exact r) λc xs r=>by rw[nC (xJ r (by intro lG z;cases z))];exact r
  rcases aG with rfl|aG
  .exact j9 c u q af (Br c _ e)
  .exact j9 c u q (xJ aG (by intro lG z;cases z)) (Br c _ aG)
 .exact fe.1 b o (j9 b o (I.base.keep b o e n af e7) (G6 b o e) (qp b o e af))
 .obtain⟨mV,z⟩:=I.base.slot b o e n af e7;obtain⟨_,ob,bR,gc⟩:=I.jK.mem af;rw[z]at bR;cases bR;obtain⟨rB,dp⟩:=n3 b _ z gc;exact⟨rB,dp⟩
 .rw[nC (G6 b o e)];exact I.base.free b o e n e7
 .obtain⟨cD,z⟩:=I.base.there b o e e7;by_cases af:b∈eW outer
  .obtain⟨_,ob,bR,gc⟩:=I.jK.mem af;obtain⟨mV,dp⟩:=n3 b _ bR gc;exact⟨_,dp⟩
  .exact⟨cD,fe.1 b cD (j9 b cD z (G6 b o e) (qp b o e af))⟩
 .have r:=I.base.hE b xs q;rw[nC (xJ r (by intro lG z;cases z))];exact r
 .have r:=I.base.iR b o u q;rw[nC (xJ r (by intro lG z;cases z))];exact r
 .obtain⟨m,r⟩:=I.base.jw b ps q;exact⟨m,by rw[nC (xJ r (by intro lG z;cases z))];exact r⟩
 .obtain⟨cD,z⟩:=I.base.there b o e (by simp[ia,jt]);refine⟨cD,j9 b cD z (G6 b o e) (qp b o e af),λn=>?_⟩;have bG:=I.base.keep b o e n af (by simp[ia,jt]);rw[z]at bG;exact hM bG
 .intro hT de;cases de;obtain⟨ob,pU,_⟩:=fe.there;exact⟨ob,pU,dg.dict q2 pU⟩
noncomputable def adx(C:Addr)(sp:b8)(E:b6)(b3:fD):eY:=λ_ σ H=>b3 σ H λvs H1=>vs.length≤sizeLine∧∀e,H1 e=none→sp (.ref e::vs) (upd H1 e (j1 e C)) (λv ak=>v=.bD∧∃ah,ak e=some (j0 e C ah)∧E (.ref C) (some ah) (del ak e)) qF
theorem B3{x y:Str}{C R iQ:Addr}{k:Nat}{fd:b5}{ps:List Str}{sp:b8}{np fy pos:Pos}{e0:Expr}{es:List Expr}{b3:fD}(gX:lN K mg y C R)(hm:mg x=some (.ref C))(anb:i7 K (.ref C)=true)(ar:bE K (.ref C) "__init__"=some (some (.ref iQ)))(hf:ey K (.ref iQ)=true)(F:aB P w K mg base aM k iQ fd ps sp)(au:fW (k+1) (ia P w K mg base N qual scope f cdv A outer s H E).A)(af:Binds K fd ps [])(bz:iJ (ia P w K mg base N qual scope f cdv A outer s H E) x)(aI:hN (ia P w K mg base N qual scope f cdv A outer s H E) (e0::es) b3)(jh:(x==("__debug__":Str))=false:=by decide)(he:dM (e0::es) (ia P w K mg base N qual scope f cdv A outer s H E).env=(false,eval e0 (ia P w K mg base N qual scope f cdv A outer s H E).env)::dM es (ia P w K mg base N qual scope f cdv A outer s H E).env:=by rfl)(e6:(g0 fy (dM es (ia P w K mg base N qual scope f cdv A outer s H E).env)).any (·.1)=false:=by rfl):
  h4 (ia P w K mg base N qual scope f cdv A outer s H E) (.Raise (some (.Call (.Name x np) (e0::es) [] fy)) none pos) (adx C sp E b3):=by
 intro pins s1 σ H1 D I h;rw[arm_exec_Raise];refine aR (Ia ?_);show a4 _ _ (τ _ (some (do
  let v ←eval (.Call (.Name x np) (e0::es) [] fy) (ia P w K mg base N qual scope f cdv A outer s H E).env
  tr pos
  pure v)) none) _ _ _
 refine adw gX (I.ok.hd rfl) (aR (vz (sV I bz hm ?_ jh)));refine Eg (h₀:=base) I.ok.mod.sW anb (bM (aI fy pins s1 σ H1 _ I h) λus s2⟨vs,ak,bI,r,bB,q⟩=>⟨bI.eB,?_⟩) he e6;refine bM (abI (X:=ia P w K mg base N qual scope f cdv A outer s H E) (Rr:=λe ah ak=>E (.ref C) (some ah) (del ak e)) gX ar hf F au af bI r bB q) λu s3⟨e,ah,bp,Av,anp,c8,bk,j5⟩=>?_;subst Av;obtain⟨⟨t,br,q2⟩,_,_⟩:=(show eo P w bp s3.heap e (j0 e C ah)from c8.bj e _ bk)
 refine aR (Ia (bN ⟨e,ah,t,br,rfl,c8.eB,q2,arB c8 bk ?_ j5⟩));cases p_:s.heap.get? e with
 |none=>rfl
 |some o=>
  obtain⟨cD,z⟩:=bI.base.there e o p_ (by simp[ia,jt]);rw[anp]at z;cases z
theorem G5{x:Str}{st:Stmt}{fd:b5}{ps:List Str}{k:Nat}{sp:b8}(F:a_ K x qual st f fd)(S:cT N ps (cy st))(len:∀vs H Q E,sp vs H Q E→vs.length=ps.length)(uJ:∀(cdv:Value)(A:c4)(outer:List Env)(s:ax)(H:aa)(vs:List V)(Q:a6)(E:b6),fW k (A.deeper (ni qual (cy st) s.heap.objs.size f cdv))→sp vs H Q E→
   ∃t,iK (ia P w K mg base N qual (cy st) f cdv A outer s H E) (lw st) t∧t {cf:=λ_ U=>Q .bD U,rt:=Q} (start N vs) H):aB P w K mg base (i1 P w) (k+1) f fd ps sp:=by obtain⟨l4,dR,dz,doc,pm,an,cdv,fG,oT,rfl,lk,k_⟩:=F.ex;exact Jl lk k_ S len λA outer s H vs Q E au ny=>uJ cdv A outer s H vs Q E au ny
end
noncomputable def KG(X:bh)(pins:List (Addr×Obj))(σ:ag.St)(E:b6)(e:Value)(s':ax):Prop:=
 ∃(bU:aa)(sc:ax)(bc:Addr)(cls a0:Value)(U:aa)(B:Heap)(dR:Option Addr),e=.ref bc∧Inv X pins σ bU sc∧mx X.prog X.w X.stack bU sc bc cls a0 U B s'∧Vs s'.heap bc dR∧E cls dR U
noncomputable def V9(X:bh)(e:Expr)(t:Ey):Prop:=
 ∀(pins:List (Addr×Obj))(s:ax)(σ:ag.St)(H:aa)(Q:a6)(E:b6),Inv X pins σ H s→t E σ H Q→a4 (bg X.prog X.w) X.A (eval e X.env) (hI X pins σ Q) (KG X pins σ E) s
noncomputable def V_(X:bh)(st:Stmt)(t:EA):Prop:=
 ∀(pins:List (Addr×Obj))(s:ax)(σ:ag.St)(H:aa)(D:Ends)(E:ag.St→b6),Inv X pins σ H s→t D E σ H→a4 (bg X.prog X.w) X.A (exec st X.env) (t5 X pins D) (λe s'=>∃aY,KG X pins aY (E aY) e s') s
section
variable{X:bh}{e o:Expr}{es:List Expr}{pos fg p:Pos}{k:Nat}{f C:Addr}{fd:b5}{ps:List Str}{sp:b8}{b3:TE}{t:fD}{m x:Str}
theorem ady{pins:List (Addr×Obj)}{σ:ag.St}{H:aa}{s:ax}{Q:a6}{E:b6}{us:List Value}{vs:List V}(F:aB X.prog X.w X.K X.mg X.base (i1 X.prog X.w) k f fd ps sp)(au:fW k X.A)(af:Binds X.K fd ps [])(I:Inv X pins σ H s)(r:cN vs us)(h:sp vs H Q E):a4 (bg X.prog X.w) X.A (call (.ref f) us) (hI X pins σ Q) (KG X pins σ E) s:=by
 have aq:(us++[]).length=ps.length:=by rw[kn,←r.length];exact F.len _ _ _ _ h
 have dk:=af s us I.eB aq;rw[kn]at dk;refine rI (uj (F.run X.A X.stack s H ⟨us,[]⟩ us vs Q E au I.EW dk r h) λr s' bb=>?_);cases r with
 |error e=>
  obtain⟨bc,cls,a0,U,B,dR,rfl,T,lk,j5⟩:=bb;exact⟨H,s,bc,cls,a0,U,B,dR,rfl,I,T,lk,j5⟩
 |ok er=>
  cases er with
  |ret u=>exact I.after bb
  |next=>exact h3 bb
  |brk=>exact h3 bb
  |cont=>exact h3 bb
theorem abJ{b7:Ey}(he:V9 X e b7)(hs:x_ e none pos.line X.env=pure false:=by rfl):V_ X (.Expr e pos) (afo b7):=by intro pins s σ H D E I h;exact aq0 (gf (he pins s σ H _ _ I h) (λv s1⟨x,H1,aU,cJ,bT⟩=>⟨σ,H1,aU,bT⟩) λe s' q=>⟨σ,q⟩) I.quiet hs
end
section
variable{M:oc}{A:c4}{E:Value→ax→Prop}{s:ax}{B:Heap}{e L:Addr}{cls a0:Value}{Q:Unit→ax→Prop}{env:Env}{outer l:List Env}
theorem adz(Bn:A.frames=some (env::outer))(hf:env.frame=some L)(Nm:r3 B (env::outer) e cls a0 s.heap)(fP:∀h',UP B (env::outer) e cls a0 L h'→s.heap.UpToSlots h'→ho s.heap h'→Q () {s with heap:=h'}):a4 M A (PY (.ref e) env) Q E s:=
 gf (Cc ï (wpAny_looks_onW (Q:=λ_ s'=>∃h',s'={s with heap:=h'}∧UP B (env::outer) e cls a0 L h'∧s.heap.UpToSlots h') (E:=λ_ _=>False) Bn hf Nm λh' a b=>⟨h',rfl,a,b⟩)) (λ_ s'⟨⟨h',es,a,b⟩,dg⟩=>by subst es;exact fP h' a b dg) λ_ _ z=>z.1.elim
theorem ac8(d9:UP B l e cls a0 L s.heap)(fP:∀h',r3 B l e cls a0 h'→s.heap.UpToSlots h'→ho s.heap h'→Q () {s with heap:=h'}):a4 M A (Ra (.ref e) none) Q E s:=
 gf (Cc OR (wpAny_landsW (Q:=λ_ s'=>∃h',s'={s with heap:=h'}∧r3 B l e cls a0 h'∧s.heap.UpToSlots h') (E:=λ_ _=>False) d9 λh' a b=>⟨h',rfl,a,b⟩)) (λ_ s'⟨⟨h',es,a,b⟩,dg⟩=>by subst es;exact fP h' a b dg) λ_ _ z=>z.1.elim
theorem ac9(d9:r3 B l e cls a0 s.heap)(fP:∀h',r3 B l e cls a0 h'→s.heap.UpToSlots h'→ho s.heap h'→Q () {s with heap:=h'}):a4 M A (Ra (.ref e) none) Q E s:=
 gf (Cc OR (lands_againW (Q:=λ_ s'=>∃h',s'={s with heap:=h'}∧r3 B l e cls a0 h'∧s.heap.UpToSlots h') (E:=λ_ _=>False) d9 λh' a b=>⟨h',rfl,a,b⟩)) (λ_ s'⟨⟨h',es,a,b⟩,dg⟩=>by subst es;exact fP h' a b dg) λ_ _ z=>z.1.elim
end
theorem R8{K:aS}{a:Addr}{xs:List V}{g:jC}{c7:eY}{D:Ends}{σ:ag.St}{H:aa}(Pv:Nat→ag.St→aa→Prop)(h0:Pv 0 σ H)(aq:∀i σ H,Pv i σ H→aO K H a xs)(hs:∀i x σ H p,xs[i]?=some x→Pv i σ H→H p=none→g (.ref p) σ (upd H p (.tup [.int i,x])) λhb ak=>c7 {D with cf:=Pv (i+1),fG:=Pv (i+1),hl:=D.cf} hb ak)(hd:∀σ H,Pv xs.length σ H→D.cf σ H):
  ∃W:Nat→Nat→ag.St→aa→Prop,(∃m,W 0 m σ H)∧∀i m σ H,W i m σ H→
   ((o_ K a).stop i H∧D.cf σ H)∨((o_ K a).go i H∧∃N:ag.St→aa→Prop,(∀aY U,N aY U→∃cp,cp<m∧W (i+1) cp aY U)∧∀x U,(o_ K a).m4 i H x U→g x σ U λhb ak=>c7 {D with cf:=N,fG:=N,hl:=D.cf} hb ak):=by
 refine⟨λi m σ H=>m=xs.length-i∧i≤xs.length∧Pv i σ H,⟨xs.length,by simp,eD _,h0⟩,?_⟩;rintro i m σ H ⟨rfl,ar,p⟩;have q:=aq i σ H p;by_cases bP:i<xs.length
 .refine .inr ⟨⟨xs,xs[i],q,by simp[bP]⟩,Pv (i+1),λaY U hY=>⟨xs.length-(i+1),by omega,rfl,bP,hY⟩,λv U y=>?_⟩;obtain⟨r,x,au,rfl,ay,rfl⟩:=y;exact hs i x σ H r (ay xs q) p au
 .have e:i=xs.length:=by omega
  subst e;exact .inl ⟨⟨xs,q,bY _⟩,hd σ H p⟩
end cq
namespace fq
open PySem ag cq aN
inductive ĩ(vs:(List ag.V))(H:aa)(Q:a6)(bl:b6):Prop where
 |mk (c:Int) (m:Nat) (bW:vs=[.int c,.int m]) (bG:m≤12) (b4:∀(p:Addr)(U:aa),H p=none→aH H U→U p=some (.lst (dn (ra c m)))→Q (.ref p) U)
noncomputable def Ru:b8:=λvs H Q bl=>ĩ vs H Q bl
theorem arC{c:Int}{m:Nat}(h:m≤12):Good (ra c m):=⟨λx ay=>by
 obtain⟨k,_,rfl⟩:=cw.mp ay;exact ae2 c k,ħ h,by rw[P8];exact h⟩
noncomputable def wy(c:Int)(k j:Nat):Int:=c/64+5*(0+(j:Int))*(0+(j:Int))+2*(0+(k:Int))*(if decide (V.int (0+(j:Int))=V.int (c/8%(1+c%8)))=true then 1 else 0)
theorem agQ(c:Int)(k j:Nat):97+(wy c k j%26).toNat=iD c k j:=by
 unfold wy iD;rw[ads c];by_cases h:j=e6 c
 .subst h;rw[a8 rfl,a8 (cB (by rw[o'])),o',o']
 .rw[aX h,aX (by rw[dP (λz=>h (by have:=V.int.inj z;omega))];exact fL),o',o']
theorem Z4{α:Type}(f:Nat→α)(n:Nat):(dt (n+1)).map f=(dt n).map f++[f n]:=by rw[wC,eC];rfl
noncomputable def ltV(hs:List (List Nat))(d:aN.Lt):List ag.V:=[.str (S (hs.getD d.a [])),.int d.t,.str (S (hs.getD d.b []))]
inductive ada(vs:(List ag.V))(H:aa)(Q:a6)(bl:b6):Prop where
 |mk (c b:Int) (a:Addr) (hs:List (List Nat)) (bW:vs=[.int c,.ref a,.int b]) (bG:H a=some (.lst (dn hs))) (b4:2≤hs.length) (cM:hs.length≤12) (d3:∀r,H r=none→Q (.ref r) (upd H r (.tup (ltV hs (lt hs.length c b)))))
noncomputable def IU:b8:=λvs H Q bl=>ada vs H Q bl
section
variable{P:bL}{w:bC}{K:aS}{mg:Str→Option Value}{base:Heap}
noncomputable abbrev CG:Stmt:=top 59
theorem ah9:cT ["_law_script","_law_k"] ["_law_script","_law_k"] (cy CG):=⟨rfl,rfl,rfl,by decide+kernel,rfl,by decide+kernel,by decide+kernel⟩
theorem agD{f:Addr}{fd:b5}(F:a_ K "_law_cell_at" "_law_cell_at" CG f fd)(len:mg "len"=none):aB P w K mg base aM 1 f fd ["_law_script","_law_k"] (Kd K):=by
 refine F.ok ah9 (λvs H Q E h=>?_) (λcdv A outer s H vs Q E au h=>?_)
 .obtain⟨a,ns,k,rfl,_⟩:=h;rfl
 .obtain⟨a,ns,k,rfl,f',h0,q⟩:=h;refine⟨_,a9 (eV (f3 ru (ae 1) (d7 h6 (by rfl) len PySem.boot_len (av (ae 0) aJ)) (eh _)) (bu (cO (b_ h9 (ae 0) (ae 1) (λ_ _=>rfl)))) eT) (bu (cO ba)),?_⟩;refine⟨_,rfl,_,rfl,a,_,rfl,.inl f',_,_,rfl,rfl,_,rfl,?_⟩;refine Kg (λh=>?_) (λh=>?_)
  .have ai:=ju h;exact⟨_,rfl,_,rfl,a,_,k,_,rfl,rfl,f',adj h0 ai,q⟩
  .have ai:¬k<((ns.map V.int).length:Int):=λz=>h (cB z);rw[a']at ai;have e:ns.getD k.toNat 0=0:=by rw[cH,Ju (by omega)];rfl
   rw[e]at q;exact q
noncomputable abbrev Cd:Stmt:=top 60
noncomputable abbrev abK:List Str:=["_law_cell","_law_many","_law_letters","_law_size","_law_at","_law_names","_law_k","_law_name","_law_j","_law_place"]
theorem pH:cT abK ["_law_cell","_law_many"] (cy Cd):=⟨rfl,rfl,rfl,by decide+kernel,rfl,by decide+kernel,by decide+kernel⟩
theorem Ī{f:Addr}{fd:b5}(F:a_ K "_law_houses" "_law_houses" Cd f fd)(B:fo mg):aB P w K mg base aM 1 f fd ["_law_cell","_law_many"] Ru:=by
 refine F.ok pH (λvs H Q E h=>?_) (λcdv A outer s H vs Q E au h=>?_)
 .obtain⟨c,m,rfl,_⟩:=h;rfl
 .obtain⟨c,m,rfl,hm,q⟩:=h;refine⟨_,(a9 (c9 (i:=2) pH.aF rfl (cu rfl) jG)
   (a9 (c9 (i:=3) pH.aF rfl (cu rfl) (cS hS ba (cS je (ae 0) ba)))
   (a9 (c9 (i:=4) pH.aF rfl (cu rfl) (cS je (cS oG (ae 0) ba) (ae 3)))
   (a9 (c9 (i:=5) pH.aF rfl (cu rfl) (jI aJ))
   (a9 (jf iL rfl (BQ rfl B.range (av (ae 1) aJ)) (d2 (i:=6) pH.aF rfl (cu rfl))
    (a9 (c9 (i:=7) pH.aF rfl (cu rfl) jG)
   (a9 (jf iL rfl (BQ rfl B.range (av (ae 3) aJ)) (d2 (i:=8) pH.aF rfl (cu rfl))
    (a9 (c9 (i:=9) pH.aF rfl (cu rfl) (cS hS (cS hS (cS oG (ae 0) ba) (cS rh (cS rh ba (ae 8)) (ae 8))) (cS rh (cS rh ba (ae 6)) (ow Ŧ (by rfl) B.int IK (av (ix l2 (ae 8) (ae 4) (eh _)) aJ)))))
   (bu (c9 (i:=7) pH.aF rfl (cu rfl) (cS ģ (ae 7) (b_ aff (ae 2) (cS je (ae 9) ba) (λ_ _=>rfl)))))))
   (bu (gm (qc qK se sf pG (ae 5) (av (ae 7) aJ)))))))
   (bu (cO (ae 5)))))))),?_⟩
  have bW:=VJ c;have bG:=adq c;refine⟨_,rfl,_,_,rfl,rfl,(by show(0:Int)<8;decide),_,_,rfl,rfl,?_⟩;refine⟨_,rfl,_,_,rfl,rfl,⟨by decide,by decide⟩,_,rfl,_,_,rfl,rfl,(by show(0:Int)<1+c%8;omega),?_⟩;refine⟨eD _,λp np=>⟨_,rfl,_,rfl,(by omega),(by omega),?_⟩⟩;refine Þ (lo:=0) (n:=m) (λk σ ak=>ak=upd H p (.lst (dn (ra c k)))∧∃a1 a2 h5 jU,σ=[some (.int c),some (.int m),some (.str (gA "abcdefghijklmnopqrstuvwxyz")),some (.int (1+c%8)),some (.int (c/8%(1+c%8))),some (.ref p),a1,a2,h5,jU]) ⟨rfl,none,none,none,none,rfl⟩ ?_ ?_
  .rintro k σ ak aT ⟨rfl,a1,a2,h5,jU,rfl⟩;refine⟨_,rfl,_,rfl,(by omega),(by omega),?_⟩;refine Þ (lo:=0) (n:=hsz c) (λj σ bp=>bp=upd H p (.lst (dn (ra c k)))∧∃gC gk,σ=[some (.int c),some (.int m),some (.str (gA "abcdefghijklmnopqrstuvwxyz")),some (.int (1+c%8)),some (.int (c/8%(1+c%8))),some (.ref p),some (.int (0+(k:Int))),some (.str (S ((dt j).map (iD c k)))),gC,gk]) ⟨rfl,h5,jU,rfl⟩ ?_ ?_
   .rintro j σ bp bq ⟨rfl,gC,gk,rfl⟩;refine⟨_,rfl,_,_,rfl,rfl,⟨by decide,by decide⟩,_,rfl,_,_,rfl,rfl,.inl ⟨by decide,by decide⟩,_,rfl,_,_,rfl,rfl,.inr ⟨by show -(2 ^ 64)<0+(j:Int);omega,by show 0+(j:Int)<2 ^ 64;omega⟩,_,_,rfl,rfl,_,rfl,_,_,rfl,rfl,.inl ⟨by decide,by decide⟩,_,rfl,_,rfl,rfl,.inr ⟨_,rfl,_,_,rfl,rfl,.inl ⟨by show -(2 ^ 64)<2*(0+(k:Int));omega,by show 2*(0+(k:Int))<2 ^ 64;omega⟩,_,_,rfl,rfl,?_⟩⟩;have k1:0≤wy c k j%26:=kO _ (by decide);have k2:wy c k j%26<26:=lJ _ (by decide);have fQ:(⟨#[97+(wy c k j%26).toNat]⟩:Str).length=1:=rfl;refine⟨_,rfl,_,rfl,_,rfl,_,_,rfl,rfl,(by show(0:Int)<26;decide),_,_,_,rfl,rfl,(by decide+kernel),aaZ k1 k2,_,_,rfl,rfl,?_,rfl,some (.int (0+(j:Int))),some (.int (wy c k j)),?_⟩
    .rw[DJ,a',hK];show j+1≤sizeLine;exact tX (eZ (by omega))
    .rw[Z4,←agN,←agQ];rfl
   .rintro σ bp ⟨rfl,gC,gk,rfl⟩;refine⟨_,rfl,.inl ⟨rfl,_,aO.of aQ⟩,_,rfl,p,_,_,rfl,rfl,aQ,eZ (by rw[Cx,P8];omega),?_,_,_,_,_,rfl⟩;rw[Cr];unfold ra;rw[Z4];unfold dn;rw[eC];rfl
  .rintro σ ak ⟨rfl,a1,a2,h5,jU,rfl⟩;exact⟨_,rfl,q p _ np (cA np) aQ⟩
noncomputable abbrev yE:Stmt:=top 62
noncomputable abbrev agE:List Str:=["_law_cell","_law_names","_law_base","_law_n","_law_many","_law_first","_law_last"]
theorem Df:cT agE ["_law_cell","_law_names","_law_base"] (cy yE):=⟨rfl,rfl,rfl,by decide+kernel,rfl,by decide+kernel,by decide+kernel⟩
theorem adb{f:Addr}{fd:b5}(F:a_ K "_law_letter" "_law_letter" yE f fd)(B:fo mg):aB P w K mg base aM 1 f fd ["_law_cell","_law_names","_law_base"] IU:=by
 refine F.ok Df (λvs H Q E h=>?_) (λcdv A outer s H vs Q E au h=>?_)
 .obtain⟨c,b,a,hs,rfl,_⟩:=h;rfl
 .obtain⟨c,b,a,hs,rfl,aI,aj,sM,q⟩:=h;refine⟨_,(a9 (c9 (i:=3) Df.aF rfl (cu rfl) (cS je (cS rh (ae 0) ba) ba))
   (a9 (c9 (i:=4) Df.aF rfl (cu rfl) (d7 h6 (by rfl) B.len hR (av (ae 1) aJ)))
   (a9 (c9 (i:=5) Df.aF rfl (cu rfl) (cS je (ae 3) (ae 4)))
   (a9 (c9 (i:=6) Df.aF rfl (cu rfl) (cS je (cS hS (cS hS (ae 5) ba) (cS je (cS oG (ae 3) (ae 4)) (cS x2 (ae 4) ba))) (ae 4)))
   (bu (cO (nE (av (b_ h9 (ae 1) (ae 5) (λ_ _=>rfl)) (av (cS hS (ae 2) (cS je (cS oG (ae 3) ba) ba)) (av (b_ h9 (ae 1) (ae 6) (λ_ _=>rfl)) aJ)))))))))),?_⟩
  have aq:=Cx hs;have gC:0≤l5 hs.length c:=kO _ (by omega);have gk:l5 hs.length c<hs.length:=lJ _ (by omega);have az:0≤lend hs.length c:=kO _ (by omega);have aE:lend hs.length c<hs.length:=lJ _ (by omega);refine⟨_,rfl,_,_,rfl,rfl,.inr ⟨by decide,by decide⟩,_,_,rfl,rfl,(by show(0:Int)<10000000000037;decide),?_⟩;refine⟨_,rfl,a,_,rfl,.inl (aO.of aI),?_⟩;rw[aq];refine⟨_,rfl,_,rfl,_,_,rfl,rfl,(by show(0:Int)<(hs.length:Int);omega),?_⟩;refine⟨_,rfl,_,_,rfl,rfl,_,rfl,_,rfl,_,_,rfl,rfl,⟨by show(0:Int)<(hs.length:Int);omega,by show(hs.length:Int)<1073741824;omega⟩,_,rfl,_,_,rfl,rfl,_,_,rfl,rfl,(by show(0:Int)<(hs.length:Int)-1;omega),_,_,rfl,rfl,_,rfl,_,_,rfl,rfl,(by show(0:Int)<(hs.length:Int);omega),?_⟩;refine⟨_,rfl,_,rfl,a,_,_,_,rfl,rfl,aO.of aI,Ii (k:=l5 hs.length c) gC gk,_,rfl,_,rfl,_,_,rfl,rfl,⟨by decide,by decide⟩,_,_,rfl,rfl,(by show(0:Int)<31;decide),_,_,rfl,rfl,_,rfl,_,rfl,a,_,_,_,rfl,rfl,aO.of aI,Ii (k:=lend hs.length c) az aE,(by show 3≤sizeLine;decide),q⟩
end
open PySem ag cq aN
section
variable{P:bL}{w:bC}{K:aS}{mg:Str→Option Value}{base:Heap}
noncomputable abbrev td:Stmt:=top 10
noncomputable abbrev u2:Stmt:=top 11
noncomputable abbrev te:Stmt:=top 12
noncomputable abbrev sY:Stmt:=top 13
noncomputable abbrev yF:Stmt:=top 45
noncomputable abbrev yG:Stmt:=top 46
noncomputable abbrev yH:Stmt:=top 47
noncomputable abbrev yI:Stmt:=top 48
theorem UW:cT ["thing"] ["thing"] (cy td):=⟨rfl,rfl,rfl,by decide+kernel,rfl,by decide+kernel,by decide+kernel⟩
theorem abL{f:Addr}{fd:b5}(F:a_ K "is_whole" "is_whole" td f fd)(B:fo mg)(KT:Vh K):aB P w K mg base aM 1 f fd ["thing"] HV:=by
 refine F.ok UW (λvs H Q E h=>?_) (λcdv A outer s H vs Q E au h=>?_)
 .obtain⟨i,rfl,_⟩:=h;rfl
 .obtain⟨i,rfl,q⟩:=h;refine⟨_,(bu (cO (gN (d7 pL (by rfl) B.isinstance nf (av (ae 0) (av (p4 (by rfl) B.int IK) aJ))) (j4 (Vg (d7 pL (by rfl) B.isinstance nf (av (ae 0) (av (p4 (by rfl) B.bool Uo) aJ)))))))),?_⟩;refine⟨_,rfl,_,_,_,_,_,rfl,⟨rfl,.int _,x8 _ _⟩,_,rfl,gp ?_⟩;exact⟨_,rfl,_,_,_,_,_,rfl,⟨rfl,.int _,KT.OJ⟩,_,rfl,q⟩
theorem T2:cT ["thing","least","greatest"] ["thing","least","greatest"] (cy u2):=⟨rfl,rfl,rfl,by decide+kernel,rfl,by decide+kernel,by decide+kernel⟩
theorem aaq{f AO:Addr}{fd A5:b5}(F:a_ K "is_whole_within" "is_whole_within" u2 f fd)(iv:c1 K mg "is_whole" td ["thing"] AO A5)(pC:aB P w K mg base aM 1 AO A5 ["thing"] HV):aB P w K mg base aM 2 f fd ["thing","least","greatest"] RW:=by
 refine F.ok T2 (λvs H Q E h=>?_) (λcdv A outer s H vs Q E au h=>?_)
 .obtain⟨i,a,b,rfl,_⟩:=h;rfl
 .obtain⟨i,a,b,rfl,ai,aj,q⟩:=h;refine⟨_,(bu (cO (gN (ed pC (au.mono (by decide)) (by rfl) iv.at_ iv.fn.b0 iv.bd .nil cn (av (ae 0) aJ)) (j4 (RL mB mB (ae 1) (ae 0) (ae 2)))))),?_⟩;refine⟨_,rfl,_,rfl,_,rfl,gp ?_⟩;exact⟨_,rfl,_,rfl,_,_,rfl,rfl,_,rfl,eE (cB ai) ⟨_,rfl,_,_,rfl,rfl,oP (cB aj) q⟩⟩
theorem UX:cT ["thing","length"] ["thing","length"] (cy te):=⟨rfl,rfl,rfl,by decide+kernel,rfl,by decide+kernel,by decide+kernel⟩
theorem abM{f:Addr}{fd:b5}(F:a_ K "is_tuple_of" "is_tuple_of" te f fd)(B:fo mg):aB P w K mg base aM 1 f fd ["thing","length"] HW:=by
 refine F.ok UX (λvs H Q E h=>?_) (λcdv A outer s H vs Q E au h=>?_)
 .obtain⟨r,xs,n,rfl,_⟩:=h;rfl
 .obtain⟨r,xs,n,rfl,ai,aj,q⟩:=h;refine⟨_,(bu (cO (gN (d7 pL (by rfl) B.isinstance nf (av (ae 0) (av (p4 (by rfl) B.tuple Hn) aJ))) (j4 (ix l2 (d7 h6 (by rfl) B.len hR (av (ae 0) aJ)) (ae 1) (eh _)))))),?_⟩;refine⟨_,rfl,_,_,_,_,_,rfl,⟨rfl,.tup ai,x8 _ _⟩,_,rfl,gp ?_⟩;exact⟨_,rfl,r,_,rfl,.inr (b1.of ai),_,rfl,rfl,oP (cB (iP V.int aj)) q⟩
theorem T3:cT ["houses","one","other"] ["houses","one","other"] (cy sY):=⟨rfl,rfl,rfl,by decide+kernel,rfl,by decide+kernel,by decide+kernel⟩
theorem aar{f:Addr}{fd:b5}(F:a_ K "are_unlike_houses" "are_unlike_houses" sY f fd):aB P w K mg base aM 1 f fd ["houses","one","other"] (RX K):=by
 refine F.ok T3 (λvs H Q E h=>?_) (λcdv A outer s H vs Q E au h=>?_)
 .obtain⟨a,ys,x,y,rfl,_⟩:=h;rfl
 .obtain⟨a,ys,x,y,rfl,f',ay,cW,ne,q⟩:=h;refine⟨_,(bu (cO (gN (ix QY (ae 1) (ae 0) (by rfl)) (gN (ix QY (ae 2) (ae 0) (by rfl)) (j4 (ix DL (ae 1) (ae 2) (eh _))))))),?_⟩;refine⟨_,rfl,_,rfl,a,_,rfl,.inl f',rfl,G9 ys,_,rfl,eE (HX ay) ?_⟩;refine⟨_,rfl,_,rfl,a,_,rfl,.inl f',rfl,G9 ys,_,rfl,eE (HX cW) ?_⟩;refine⟨_,rfl,_,rfl,rfl,oP ?_ q⟩;rw[dP (λz=>ne (V.str.inj z))];rfl
theorem ae6:cT ["thing"] ["thing"] (cy yF):=⟨rfl,rfl,rfl,by decide+kernel,rfl,by decide+kernel,by decide+kernel⟩
theorem ade{f:Addr}{fd:b5}(F:a_ K "is_name" "is_name" yF f fd)(B:fo mg)(ma:zF mg):aB P w K mg base aM 1 f fd ["thing"] IL:=by
 refine F.ok ae6 (λvs H Q E h=>?_) (λcdv A outer s H vs Q E au h=>?_)
 .obtain⟨l,rfl,_⟩:=h;rfl
 .obtain⟨l,rfl,fk,q⟩:=h;refine⟨_,(a9 (eV (lM.pt (yw (jH (k8 (d7 pL (by rfl) B.isinstance nf (av (ae 0) (av (p4 (by rfl) B.str afv) aJ))))) (C5 (jH (xB mB mB ba (d7 arq (by rfl) B.len hR (av (ae 0) aJ)) (sT (by rfl) ma.abF)))))) (bu (cO l1)) eT)
   (bu (cO (d7 (Ci rfl) (by rfl) B.Aa Dd (av (qd (N':=["sign"]) (cs:=[none]) rfl (afk (ae 0)) rfl (by decide+kernel) rfl (by decide+kernel) (iz (λp aW=>bt aW (dN))) rfl
    (.own .nil)
    (λC s3 bp bZ ef=>⟨(d2 (i:=0) (by show(["sign"]:List Str).Nodup;decide+kernel) rfl (.inl rfl)),lU,(RL å å jG (ae 0) jG)⟩)) aJ))))),?_⟩
  have aq:=DJ l;have bB:(S l).length≤sizeLine:=tX (eZ (by rw[aq];have:=fk.2.1;omega));have ai:(1:Int)≤((S l).length:Int):=by have:=fk.1;omega
  have uG:((S l).length:Int)≤8:=by have:=fk.2.1;omega
  refine⟨_,rfl,_,_,_,_,_,rfl,⟨rfl,.str _,x8 _ _⟩,_,rfl,gF ?_⟩;refine⟨_,rfl,_,rfl,bB,_,_,rfl,rfl,_,rfl,eE (cB ai) ⟨_,_,rfl,rfl,_,rfl,yk uG ?_⟩⟩;dsimp only[yi,zz,DM,rE,qa];refine Cw (J:=DY (S l)) (H1:=H) (xs:=signs (S l)) (rest:=[]) (λR h=>⟨_,rfl,_,rfl,h⟩) rfl (afj _) (eZ ?_) (λ_=>.aV true) (λi x ak R ex aA cC=>?_) (λD U ai aj bk=>?_)
  .rw[Up,a'];have:=fk.2.1;omega
  .rw[Up]at ex;obtain⟨k,aT,rfl⟩:=cw.mp (dY ex);have FU:=fk.2.2 k aT;have az:(!decide ((S [k]).cps.toList<(gA "a").cps.toList))=true:=by rw[apQ];exact(Vb k 97).trans (cB FU.1)
   have aE:(!decide ((gA "z").cps.toList<(S [k]).cps.toList))=true:=by rw[apS];exact(Vb 122 k).trans (cB FU.2)
   exact⟨_,rfl,_,_,rfl,rfl,_,rfl,eE az ⟨_,_,rfl,rfl,oP aE (cC ak (aH.refl _))⟩⟩
  .exact⟨D,zE (signs (S l)).length true,rfl,aO.of (by rw[aj,RU]),oP (RV _) (q U bk)⟩
theorem ae7:cT ["things"] ["things"] (cy yG):=⟨rfl,rfl,rfl,by decide+kernel,rfl,by decide+kernel,by decide+kernel⟩
theorem adf{f AJ:Addr}{fd A4:b5}(F:a_ K "are_houses" "are_houses" yG f fd)(B:fo mg)(ma:zF mg)(B4:c1 K mg "is_name" yF ["thing"] AJ A4)(Rv:aB P w K mg base aM 1 AJ A4 ["thing"] IL):
  aB P w K mg base aM 2 f fd ["things"] IM:=by
 refine F.ok ae7 (λvs H Q E h=>?_) (λcdv A outer s H vs Q E au h=>?_)
 .obtain⟨a,hs,rfl,_⟩:=h;rfl
 .obtain⟨a,hs,rfl,aI,qY,q⟩:=h;refine⟨_,(a9 (eV (lM.pt (yw (jH (k8 (d7 pL (by rfl) B.isinstance nf (av (ae 0) (av (p4 (by rfl) B.list p1) aJ))))) (C5 (f3 vt (d7 h6 (by rfl) B.len hR (av (ae 0) aJ)) (sT (by rfl) ma.abB) (eh _))))) (bu (cO l1)) eT)
   (bu (cO (gN (d7 (Ci rfl) (by rfl) B.Aa Dd (av (qd (N':=["thing"]) (cs:=[none]) rfl (hP (ae 0)) rfl (by decide+kernel) rfl (by decide+kernel) (iz (λp aW=>bt aW (dN))) rfl
    (.own .nil)
    (λC s3 bp bZ ef=>⟨(d2 (i:=0) (by show(["thing"]:List Str).Nodup;decide+kernel) rfl (.inl rfl)),lU,(ed Rv (au.mono (by decide)) (by rfl) B4.at_ B4.fn.b0 B4.bd .nil cn (av (ae 0) aJ))⟩)) aJ)) (j4 (ix l2 (d7 ari (by rfl) B.len hR (av (ow (aaC rfl) (by rfl) B.apX afw (av (ae 0) aJ)) aJ)) (d7 h6 (by rfl) B.len hR (av (ae 0) aJ)) (eh _))))))),?_⟩
  have aq:=Cx hs;have hf:=qY.b9;refine⟨_,rfl,_,_,_,_,_,rfl,⟨rfl,.lst aI,x8 _ _⟩,_,rfl,gF ?_⟩;refine⟨_,rfl,a,_,rfl,.inl (aO.of aI),_,_,rfl,rfl,_,rfl,fO (dP (by omega)) ?_⟩;dsimp only[yi,zz,DM,rE,qa];refine Cw (J:=i3 K a) (H1:=H) (xs:=dn hs) (rest:=[]) (λR h=>⟨_,rfl,a,rfl,⟨_,aO.of aI⟩,h⟩) rfl (nj (aO.of aI)) (eZ (by omega)) (λ_=>.aV true) (λi x ak R ex aA cC=>?_) (λD U ai aj bk=>?_)
  .obtain⟨l,uM,rfl⟩:=cw.mp (dY ex);exact⟨_,rfl,l,rfl,qY.nm l uM,λU nT=>cC U nT⟩
  .refine⟨D,zE (dn hs).length true,rfl,aO.of (by rw[aj,RU]),_,rfl,eE (RV _) ?_⟩;have sN:=bk _ _ aI;refine⟨_,rfl,a,hs.map S,rfl,aO.of (by rw[sN,SG]),(by rw[a'];omega),λp aW=>?_⟩;have s2:aH U (upd U p (Em P w p (mT (λi=>(hs.map S).getD i iM) (hs.map S).length))):=cA aW;refine⟨p,_,rfl,aQ,_,rfl,a,_,rfl,.inl (aO.of (s2 _ _ sN)),rfl,oP (cB ?_) (q _ (bk.trans s2))⟩;rw[TG _ _ (adl qY.aF),a',aq]
theorem ae8:cT ["houses","thing"] ["houses","thing"] (cy yH):=⟨rfl,rfl,rfl,by decide+kernel,rfl,by decide+kernel,by decide+kernel⟩
theorem adg{f f1 f2 cc:Addr}{fd cg c_ e5:b5}(F:a_ K "is_road" "is_road" yH f fd)(ma:zF mg)(kT:c1 K mg "is_tuple_of" te ["thing","length"] f1 cg)(sz:aB P w K mg base aM 1 f1 cg ["thing","length"] HW)(kS:c1 K mg "are_unlike_houses" sY ["houses","one","other"] f2 c_)(t9:aB P w K mg base aM 1 f2 c_ ["houses","one","other"] (RX K))(mq:c1 K mg "is_whole_within" u2 ["thing","least","greatest"] cc e5)(wY:aB P w K mg base aM 2 cc e5 ["thing","least","greatest"] RW):
  aB P w K mg base aM 3 f fd ["houses","thing"] (IP K):=by
 refine F.ok ae8 (λvs H Q E h=>?_) (λcdv A outer s H vs Q E au h=>?_)
 .obtain⟨a,r,hs,d,rfl,_⟩:=h;rfl
 .obtain⟨a,r,hs,d,rfl,f',aF,ok,ic,q⟩:=h;refine⟨_,(bu (cO (gN (ed sz (au.mono (by decide)) (by rfl) kT.at_ kT.fn.b0 kT.bd .nil cn (av (ae 1) (av ba aJ))) (gN (ed t9 (au.mono (by decide)) (by rfl) kS.at_ kS.fn.b0 kS.bd .nil cn (av (ae 0) (av (b_ dE (ae 1) ba (λ_ _=>rfl)) (av (b_ dE (ae 1) ba (λ_ _=>rfl)) aJ)))) (gN (ed wY (au.mono (by decide)) (by rfl) mq.at_ mq.fn.b0 mq.bd .nil cn (av (b_ dE (ae 1) ba (λ_ _=>rfl)) (av ba (av (sT (by rfl) ma.abH) aJ)))) (j4 (ed wY (au.mono (by decide)) (by rfl) mq.at_ mq.fn.b0 mq.bd .nil cn (av (b_ dE (ae 1) ba (λ_ _=>rfl)) (av ba (av (sT (by rfl) ma.abE) aJ)))))))))),?_⟩;have Be:aO K H a ((hs.map S).map V.str):=by rw[←SG];exact f'
  refine⟨_,rfl,r,_,_,rfl,ic,rfl,_,rfl,gp ?_⟩;refine⟨_,rfl,_,rfl,r,_,_,_,rfl,rfl,b1.of ic,rfl,_,rfl,r,_,_,_,rfl,rfl,b1.of ic,rfl,a,hs.map S,_,_,rfl,Be,oI ok.a,oI ok.b,agO aF ok.a ok.b ok.ne,_,rfl,gp ?_⟩;refine⟨_,rfl,r,_,_,_,rfl,rfl,b1.of ic,rfl,_,_,_,rfl,ok.t.1,ok.t.2,_,rfl,gp ?_⟩;exact⟨_,rfl,r,_,_,_,rfl,rfl,b1.of ic,rfl,_,_,_,rfl,ok.m.1,ok.m.2,q⟩
theorem afO:cT ["houses","things"] ["houses","things"] (cy yI):=⟨rfl,rfl,rfl,by decide+kernel,rfl,by decide+kernel,by decide+kernel⟩
theorem adh{f AJ:Addr}{fd A4:b5}(F:a_ K "are_roads" "are_roads" yI f fd)(B:fo mg)(ma:zF mg)(BV:c1 K mg "is_road" yH ["houses","thing"] AJ A4)(Rw:aB P w K mg base aM 3 AJ A4 ["houses","thing"] (IP K)):
  aB P w K mg base aM 4 f fd ["houses","things"] (IQ K):=by
 refine F.ok afO (λvs H Q E h=>?_) (λcdv A outer s H vs Q E au h=>?_)
 .obtain⟨a,b,hs,rs,ds,rfl,_⟩:=h;rfl
 .obtain⟨a,b,hs,rs,ds,rfl,aI,aF,af,cC,b9,q⟩:=h;refine⟨_,(a9 (eV (lM.pt (yw (jH (k8 (d7 pL (by rfl) B.isinstance nf (av (ae 1) (av (p4 (by rfl) B.list p1) aJ))))) (C5 (f3 vt (d7 h6 (by rfl) B.len hR (av (ae 1) aJ)) (sT (by rfl) ma.abD) (eh _))))) (bu (cO l1)) eT)
   (bu (cO (d7 (Ci rfl) (by rfl) B.Aa Dd (av (qd (N':=["thing","houses"]) (cs:=[none,some 0]) rfl (hP (ae 1)) rfl (by decide+kernel) rfl (by decide+kernel) (iz (i4.mpr ⟨rfl,(λp aW=>bt aW (dN))⟩)) rfl
    (.own (.h_ rfl (.inl rfl) (.inl rfl) rfl .nil))
    (λC s3 bp bZ ef=>⟨(d2 (i:=0) (by show(["thing","houses"]:List Str).Nodup;decide+kernel) rfl (.inl rfl)),lU,(ed Rw (au.mono (by decide)) (by rfl) BV.at_ BV.fn.b0 BV.bd .nil cn (av (ae 1) (av (ae 0) aJ)))⟩)) aJ))))),?_⟩
  have aq:=eb rs;refine⟨_,rfl,_,_,_,_,_,rfl,⟨rfl,.lst af,x8 _ _⟩,_,rfl,gF ?_⟩;refine⟨_,rfl,b,_,rfl,.inl (aO.of af),_,_,rfl,rfl,_,rfl,fO (dP (by omega)) ?_⟩;dsimp only[yi,zz,DM,rE,qa];refine Cw (J:=i3 K b) (H1:=H) (xs:=aK rs) (rest:=[some (.ref a)]) (λR h=>⟨_,rfl,b,rfl,⟨_,aO.of af⟩,h⟩) rfl (nj (aO.of af)) (eZ (by omega)) (λ_=>.aV true) (λi x ak R ex aA nx=>?_) (λD U ai aj bk=>?_)
  .unfold aK at ex;rw[cL]at ex;obtain⟨r,d4,rfl⟩:=ew.mp ex;obtain⟨d,_,ok,hd⟩:=cC.get d4;exact⟨_,rfl,_,rfl,a,r,hs,d,rfl,aA.seq aI,aF,ok,aA _ _ hd,nx ak (aH.refl _)⟩
  .exact⟨D,zE (aK rs).length true,rfl,aO.of (by rw[aj,RU]),oP (RV _) (q U bk)⟩
noncomputable abbrev yJ:Stmt:=fz (top 51) 0
noncomputable abbrev uY:Stmt:=fz (top 51) 1
noncomputable abbrev xR:Stmt:=fz (top 51) 2
theorem afQ:cT ["self","houses","roads"] ["self","houses","roads"] (cy yJ):=⟨rfl,rfl,rfl,by decide+kernel,rfl,by decide+kernel,by decide+kernel⟩
theorem aee{C f XK XM:Addr}{fd XP XQ:b5}(F:a_ K "__init__" "Net.__init__" yJ f fd)(B:fo mg)(ft:rV K C)(Bx:c1 K mg "are_houses" yG ["things"] XK XP)(PU:aB P w K mg base aM 2 XK XP ["things"] IM)(BB:c1 K mg "are_roads" yI ["houses","things"] XM XQ)(P9:aB P w K mg base aM 4 XM XQ ["houses","things"] (IQ K)):
  aB P w K mg base aM 5 f fd ["self","houses","roads"] (IS K C):=by
 refine F.ok afQ (λvs H Q E h=>?_) (λcdv A outer s H vs Q E au h=>?_)
 .obtain⟨x,ah,a,b,hs,rs,ds,rfl,_⟩:=h;rfl
 .obtain⟨x,ah,a,b,hs,rs,ds,rfl,ay,aI,qY,af,cC,b9,q⟩:=h;refine⟨_,(a9 (eV (jH (k8 (ed PU (au.mono (by decide)) (by rfl) Bx.at_ Bx.fn.b0 Bx.bd .nil cn (av (ae 1) aJ)))) (bu Hk) eT)
   (a9 (eV (jH (k8 (ed P9 (au.mono (by decide)) (by rfl) BB.at_ BB.fn.b0 BB.bd .nil cn (av (ae 1) (av (ae 2) aJ))))) (bu Hk) eT)
   (a9 (iA (ae 0) (ow sx (by rfl) B.list p1 (av (ae 1) aJ)) rfl)
   (bu (iA (ae 0) (ow sx (by rfl) B.list p1 (av (ae 2) aJ)) rfl))))),?_⟩
  refine⟨_,rfl,a,hs,rfl,aI,qY,λH1 s1=>⟨_,rfl,gF ?_⟩⟩;refine⟨_,rfl,_,rfl,a,b,hs,rs,ds,rfl,aO.of (s1 _ _ aI),qY.aF,s1 _ _ af,cC.same s1,b9,λak s2=>⟨_,rfl,gF ?_⟩⟩;have g9:=s1.trans s2;refine⟨_,rfl,a,_,rfl,.inl (aO.of (g9 _ _ aI)),λaZ sN=>?_⟩;have s3:aH ak (upd ak aZ (.lst (dn hs))):=cA sN;have mS:=g9.trans s3;have cf:x≠aZ:=b2 (g9 _ _ ay) sN;refine⟨_,rfl,x,C,ah,_,rfl,mS _ _ ay,ft.cl,ft.s_,(by decide),?_⟩;have amG:b≠x:=λe=>by rw[e,ay]at af;cases af
  have MZ:upd (upd ak aZ (.lst (dn hs))) x (.ins C ah (js "kept_houses" (.ref aZ) [])) b=some (.lst (aK rs)):=by rw[aD amG];exact mS _ _ af
  refine⟨_,rfl,b,_,rfl,.inl (aO.of MZ),λa3 dk=>?_⟩;have P1:a3≠x:=λe=>by rw[e,aQ]at dk;cases dk
  have nb:a3≠aZ:=λe=>by rw[e,aD cf.symm,aQ]at dk;cases dk
  refine⟨_,rfl,x,C,ah,_,rfl,(by rw[aD P1.symm,aQ]),ft.cl,ft.il,(by show 1<1000;decide),?_⟩;refine q _ aZ a3 (λc o aG j6=>?_) (by rw[aQ];rfl) ?_ ?_ ?_ ?_
  .rw[aD aG];have:c≠a3:=λe=>by rw[←e,aD aG,mS _ _ j6]at dk;cases dk
   rw[aD this,aD aG];exact mS _ _ j6
  .rw[aD cf.symm,aD nb.symm,aD cf.symm,aQ]
  .rw[aD P1,aQ]
  .exact g9.free sN
  .rw[aD P1,aD nb]at dk;exact g9.free dk
theorem aas:cT ["self"] ["self"] (cy uY):=⟨rfl,rfl,rfl,by decide+kernel,rfl,by decide+kernel,by decide+kernel⟩
theorem abN:cT ["self"] ["self"] (cy xR):=⟨rfl,rfl,rfl,by decide+kernel,rfl,by decide+kernel,by decide+kernel⟩
theorem ī{C f:Addr}{fd:b5}(F:a_ K "houses" "Net.houses" uY f fd)(B:fo mg)(ft:rV K C):aB P w K mg base aM 1 f fd ["self"] (B2 C):=by
 refine F.ok aas (λvs H Q E h=>?_) (λcdv A outer s H vs Q E au h=>?_)
 .obtain⟨x,aZ,a3,xs,ys,rfl,_⟩:=h;rfl
 .obtain⟨x,aZ,a3,xs,ys,rfl,n,q⟩:=h;obtain⟨ah,ay⟩:=n.ins;refine⟨_,(bu (cO (ow sx (by rfl) B.list p1 (av (dT (ae 0) (by rfl)) aJ)))),?_⟩;exact⟨_,rfl,x,C,ah,_,_,rfl,ay,ft.cl,ft.s_,rfl,aZ,_,rfl,.inl (aO.of n.q5),q⟩
theorem aat{C f:Addr}{fd:b5}(F:a_ K "roads" "Net.roads" xR f fd)(B:fo mg)(ft:rV K C):aB P w K mg base aM 1 f fd ["self"] (Ho C):=by
 refine F.ok abN (λvs H Q E h=>?_) (λcdv A outer s H vs Q E au h=>?_)
 .obtain⟨x,aZ,a3,xs,ys,rfl,_⟩:=h;rfl
 .obtain⟨x,aZ,a3,xs,ys,rfl,n,q⟩:=h;obtain⟨ah,ay⟩:=n.ins;refine⟨_,(bu (cO (ow sx (by rfl) B.list p1 (av (dT (ae 0) (by rfl)) aJ)))),?_⟩;exact⟨_,rfl,x,C,ah,_,_,rfl,ay,ft.cl,ft.il,rfl,a3,_,rfl,.inl (aO.of n.qi),q⟩
end
open PySem ag cq aN
theorem WM{P:bL}{w:bC}{X:bh}:nF (i1 P w) X qF:=λ_ _ _ _ _ _ _ h=>by obtain⟨_,_,_,_,_,_,_,_,_,h⟩:=h;exact h.elim
theorem UY{wi:TI}{cs:List (Option Nat)}{b7:TE}{σ rest:ag.St}{H H1:aa}{Q:a6}{J:ff}{xs:List ag.V}(hw:∀R:ff→aa→Prop,R J H1→wi σ H R)(fl:gQ cs σ=none::rest)(dc:ml J H1 xs)(aq:xs.length<sizeLine)(f:ag.V→List ag.V)(elt:∀(i:Nat)(x:ag.V)(ak:aa)(R:a6),xs[i]?=some x→aH H1 ak→(∀r bK,aH ak bK→bK r=some (.tup (f x))→R (.ref r) bK)→b7 (some x::rest) ak R)(fin:∀(D:Addr)(U:aa)(rs:List Addr),H1 D=none→U D=some (.lst (aK rs))→dU U rs (xs.map f)→aH H1 U→Q (.ref D) U):lC wi cs (g4 0) rL b7 σ H Q:=by
 refine hw _ λD bO=>?_;refine⟨λi m ys aY U=>m=xs.length-i∧i≤xs.length∧(∃rs,ys=aK rs∧dU U rs ((xs.take i).map f))∧(∃o,aY=o::rest)∧aH H1 U∧U D=some (.lst ys),⟨xs.length,by simp,eD _,⟨[],rfl,.nil⟩,⟨none,fl⟩,λb o e=>?_,aQ⟩,?_⟩
 .rw[aD (b2 e bO)];exact e
 .rintro i m ys aY U ⟨rfl,ar,⟨rs,rfl,cY⟩,⟨o,rfl⟩,aA,eH⟩;obtain⟨gV,ha,gW⟩:=dc U aA;have ln:=cY.len;rw[a',jR,ab5 ar]at ln;refine⟨eH,od (by rw[eb];omega) aq,?_⟩;by_cases bP:i<xs.length
  .refine .inr ⟨ha i bP,λx ak y=>?_⟩;obtain⟨rfl,ex⟩:=gW i x ak bP y;have aP:xs.take (i+1)=xs.take i++[x]:=by rw[mf,ex];rfl
   show b7 (some x::rest) ak _;refine elt i x ak _ ex aA λr bK s5 au=>⟨s5 _ _ eH,xs.length-(i+1),by omega,rfl,bP,⟨rs++[r],qX rs r,?_⟩,⟨_,rfl⟩,λb ob e=>?_,aQ⟩
   .rw[aP,eC];exact dU.upd (Paired.snoc (F:=λr d=>bK r=some (.tup d)) au (cY.same s5)) (s5 _ _ eH) (by intro d z;cases z)
   .rw[aD (b2 e bO)];exact s5 _ _ (aA _ _ e)
  .have e:i=xs.length:=by omega
   subst e;rw[mh]at cY;exact .inl ⟨gV,fin D U rs bO eH cY aA⟩
theorem abP{K:aS}{wi:TI}{cs:List (Option Nat)}{b7:TE}{σ rest:ag.St}{H Hs:aa}{Q:a6}{xs:List ag.V}(hw:∀R:ff→aa→Prop,(∀p,Hs p=none→R (i3 K p) (upd Hs p (.lst xs)))→wi σ H R)(fl:gQ cs σ=none::rest)(aq:xs.length<sizeLine)(f:ag.V→List ag.V)(elt:∀(i:Nat)(x:ag.V)(ak:aa)(R:a6),xs[i]?=some x→aH Hs ak→(∀r bK,aH ak bK→bK r=some (.tup (f x))→R (.ref r) bK)→b7 (some x::rest) ak R)(fin:∀(D:Addr)(U:aa)(rs:List Addr),U D=some (.lst (aK rs))→dU U rs (xs.map f)→aH Hs U→Q (.ref D) U):lC wi cs (g4 0) rL b7 σ H Q:=
 hw _ λp aW=>UY (wi:=λ_ _ R=>R (i3 K p) (upd Hs p (.lst xs))) (H:=Hs) (λR h=>h) fl (nj (aO.of aQ)) aq f (λi x ak R ex aA k=>elt i x ak R ex ((cA aW).trans aA) k) λD U rs _ aj bk cv=>fin D U rs aj bk ((cA aW).trans cv)
theorem aef(x y:Str):hx (.str x) (.str y)=decide (x=y):=by
 by_cases h:x=y
 .subst h;rw[cB rfl];simp[hx]
 .rw[dP h];simp[hx,h]
theorem aeh{hs:List (List Nat)}{k:Nat}(h:k<hs.length):inD (.str (S (hs.getD k []))) (bO hs)=true:=by
 unfold inD bO;rw[pb];have hm:hs.getD k []∈hs:=by rw[cH,ct h];exact jA h
 exact⟨_,cw.mpr ⟨_,cw.mpr ⟨_,hm,rfl⟩,rfl⟩,by rw[aef];exact cB rfl⟩
theorem agF{ds:List PyData}{n:Nat}(h:∀d∈ds,d.depth≤n):(J7 ds).depth≤n+1:=VW (Q1 h)
theorem HZ{wi:TI}{cs:List (Option Nat)}{b7:TE}{σ rest:ag.St}{H H1:aa}{Q:a6}{J:ff}{xs:List ag.V}(hw:∀R:ff→aa→Prop,R J H1→wi σ H R)(fl:gQ cs σ=none::rest)(dc:ml J H1 xs)(aq:xs.length<sizeLine)(f:Nat→ag.V)(elt:∀(i:Nat)(x:ag.V)(ak:aa)(R:a6),xs[i]?=some x→aH H1 ak→(∀bK,aH ak bK→R (f i) bK)→b7 (some x::rest) ak R)(fin:∀(D:Addr)(U:aa),H1 D=none→U D=some (.lst ((dt xs.length).map f))→aH H1 U→Q (.ref D) U):lC wi cs (g4 0) rL b7 σ H Q:=by
 refine hw _ λD bO=>?_;refine⟨λi m ys aY U=>m=xs.length-i∧i≤xs.length∧ys=(dt i).map f∧(∃o,aY=o::rest)∧aH H1 U∧U D=some (.lst ys),⟨xs.length,by simp,eD _,rfl,⟨none,by rw[fl]⟩,λb o e=>?_,aQ⟩,?_⟩
 .rw[aD (b2 e bO)];exact e
 .rintro i m ys aY U ⟨rfl,ar,rfl,⟨o,rfl⟩,aA,eH⟩;obtain⟨gV,ha,gW⟩:=dc U aA;refine⟨eH,od (by rw[a',hK];omega) aq,?_⟩;by_cases bP:i<xs.length
  .refine .inr ⟨ha i bP,λx ak y=>?_⟩;obtain⟨rfl,ex⟩:=gW i x ak bP y;show b7 (some x::rest) ak _;refine elt i x ak _ ex aA λbK s5=>⟨s5 _ _ eH,xs.length-(i+1),by omega,rfl,bP,?_,⟨_,rfl⟩,λb ob e=>?_,aQ⟩
   .rw[wC,eC];rfl
   .rw[aD (b2 e bO)];exact s5 _ _ (aA _ _ e)
  .have e:i=xs.length:=by omega
   subst e;exact .inl ⟨gV,fin D U bO eH aA⟩
end fq
namespace cq
open PySem PySem.Spec PyProof.Rows ag
theorem VN{K:aS}{a:Addr}{xs:List V}{H1:aa}(h:b1 K H1 a xs)(k:∀U,aH H1 U→b1 K U a xs):ml (r6 K a) H1 xs:=λU aA=>
 ⟨⟨xs,k U aA,bY _⟩,λi ar=>⟨xs,xs[i],k U aA,by simp[ar]⟩,λi x ak _ y=>⟨y.1,y.2 xs (k U aA)⟩⟩
section
variable{X:bh}{e:Expr}{b7:TE}{pos e8:Pos}{lo ar:Option Expr}{c0 tu:t6}
theorem WN:iw "min"=some (.builtin "min"):=by decide+kernel
theorem agG:iw "max"=some (.builtin "max"):=by decide+kernel
end
end cq
namespace fq
open PySem ag cq aN
theorem VO{wi:TI}{cs:List (Option Nat)}{tt:TT}{b7:TE}{σ rest:ag.St}{H H1:aa}{Q:a6}{J:ff}{xs:List ag.V}(hw:∀R:ff→aa→Prop,R J H1→wi σ H R)(fl:gQ cs σ=none::rest)(dc:ml J H1 xs)(aq:xs.length<sizeLine)(p:Nat→Bool)(f:Nat→ag.V)(test:∀(i:Nat)(x:ag.V)(ak:aa)(R:Bool→aa→Prop),xs[i]?=some x→aH H1 ak→(∀bK,aH ak bK→R (p i) bK)→tt (some x::rest) ak R)(elt:∀(i:Nat)(x:ag.V)(ak:aa)(R:a6),xs[i]?=some x→p i=true→aH H1 ak→(∀bK,aH ak bK→R (f i) bK)→b7 (some x::rest) ak R)(fin:∀(D:Addr)(U:aa),H1 D=none→U D=some (.lst (((dt xs.length).filter p).map f))→aH H1 U→Q (.ref D) U):lC wi cs (g4 0) tt b7 σ H Q:=by
 refine hw _ λD bO=>?_;refine⟨λi m ys aY U=>m=xs.length-i∧i≤xs.length∧ys=((dt i).filter p).map f∧(∃o,aY=o::rest)∧aH H1 U∧U D=some (.lst ys),⟨xs.length,by simp,eD _,rfl,⟨none,by rw[fl]⟩,λb o e=>?_,aQ⟩,?_⟩
 .rw[aD (b2 e bO)];exact e
 .rintro i m ys aY U ⟨rfl,ar,rfl,⟨o,rfl⟩,aA,eH⟩;obtain⟨gV,ha,gW⟩:=dc U aA;refine⟨eH,od ?_ aq,?_⟩
  .rw[a'];refine el (lK _ _) ?_;rw[hK];exact ar
  by_cases bP:i<xs.length
  .refine .inr ⟨ha i bP,λx ak y=>?_⟩;obtain⟨rfl,ex⟩:=gW i x ak bP y;show tt (some x::rest) ak _;refine test i x ak _ ex aA λdw s4=>?_;cases aW:p i with
   |true=>
    refine gp ?_;refine elt i x dw _ ex aW (aA.trans s4) λbK s5=>⟨s5 _ _ (s4 _ _ eH),xs.length-(i+1),by omega,rfl,bP,?_,⟨_,rfl⟩,λb ob e=>?_,aQ⟩
    .rw[wC,m9,eC];simp[aW]
    .rw[aD (b2 e bO)];exact s5 _ _ (s4 _ _ (aA _ _ e))
   |false=>
    refine gF ⟨xs.length-(i+1),by omega,rfl,bP,?_,⟨_,rfl⟩,aA.trans s4,s4 _ _ eH⟩;rw[wC,m9,eC];simp[aW]
  .have e:i=xs.length:=by omega
   subst e;exact .inl ⟨gV,fin D U bO eH aA⟩
theorem nN{α:Type}{l:List α}{i:Nat}{x d:α}(e:l[i]?=some x):l.getD i d=x:=by rw[cH,e];rfl
theorem aqg{α β:Type}(q:α→Bool)(g:α→β)(eN:α)(ls:List α):(((dt ls.length).filter λi=>q (ls.getD i eN)).map λi=>g (ls.getD i eN))=(ls.filter q).map g:=by
 have h:ls=(dt ls.length).map λi=>ls.getD i eN:=by
  apply D2
  .simp
  .intro i ai aj;simp[cH,ai]
 have e:(ls.filter q).map g=(((dt ls.length).map λi=>ls.getD i eN).filter q).map g:=by rw[←h]
 rw[e,wB,gJ];rfl
theorem range_getD{α β:Type}(g:α→β)(eN:α)(ls:List α):((dt ls.length).map λi=>g (ls.getD i eN))=ls.map g:=by
 apply D2
 .simp
 .intro i ai aj;simp only[a',hK]at ai;simp[cH,ai]
structure Step where
 left:Int
 Xq:Option Int
 dm:Str
 due:Int
noncomputable def Xp:Option Int→ag.V
 |none=>.bD
 |some i=>.int i
noncomputable def qo(s:Step):List ag.V:=[.int s.left,Xp s.Xq,.str s.dm,.int s.due]
noncomputable def Dg(n g st:Addr):List (Str×ag.V):=[("net",.ref n),("goals",.ref g),("steps",.ref st)]
noncomputable def fE(H:aa)(l:Addr)(ss:List Step):Prop:=∃ts,H l=some (.lst (aK ts))∧dU H ts (ss.map qo)
structure WalkAt(C:Addr)(H:aa)(x n g st:Addr)(gs:List Str)(ls:List Addr)(sss:List (List Step)):Prop where
 ins:∃ah,H x=some (.ins C ah (Dg n g st))
 goals:H g=some (.lst (gs.map V.str))
 steps:H st=some (.lst (aK ls))
 each:bH (fE H) ls sss
structure mC(K:aS)(C:Addr):Prop where
 cl:d_ K C
 nn:bE K (.ref C) "net"=some none
 hD:bE K (.ref C) "goals"=some none
 ns:bE K (.ref C) "steps"=some none
inductive aei(C:Addr)(vs:(List ag.V))(H:aa)(Q:a6)(bl:b6):Prop where
 |mk (x n g st:Addr) (gs:List Str) (ls:List Addr) (sss:List (List Step)) (k:Nat) (y:Str) (bW:vs=[.ref x,.int k]) (bG:WalkAt C H x n g st gs ls sss) (b4:gs[k]?=some y) (cM:Q (.str y) H)
noncomputable def IV(C:Addr):b8:=λvs H Q bl=>aei C vs H Q bl
inductive abQ(C:Addr)(vs:(List ag.V))(H:aa)(Q:a6)(bl:b6):Prop where
 |mk (x n g st:Addr) (gs:List Str) (ls:List Addr) (sss:List (List Step)) (k:Nat) (ss:List Step) (s:Step) (bW:vs=[.ref x,.int k]) (bG:WalkAt C H x n g st gs ls sss) (b4:sss[k]?=some (ss++[s])) (cM:Q (.str s.dm) H)
noncomputable def Cz(C:Addr):b8:=λvs H Q bl=>abQ C vs H Q bl
inductive abR(C:Addr)(vs:(List ag.V))(H:aa)(Q:a6)(bl:b6):Prop where
 |mk (x n g st:Addr) (gs:List Str) (ls:List Addr) (sss:List (List Step)) (k:Nat) (ss:List Step) (s:Step) (bW:vs=[.ref x,.int k]) (bG:WalkAt C H x n g st gs ls sss) (b4:sss[k]?=some (ss++[s])) (cM:Q (.int s.due) H)
noncomputable def xS(C:Addr):b8:=λvs H Q bl=>abR C vs H Q bl
theorem Rx{xs:List ag.V}{v:ag.V}:ag.gj (xs++[v]) (-1)=some v:=by
 unfold ag.gj ag.p0;rw[fT,aX (by decide),a8 (by show -((xs.length+1:Nat):Int)≤-1;omega)];show(xs++[v])[((-1:Int)+((xs.length+1:Nat):Int)).toNat]?=_;have e:((-1:Int)+((xs.length+1:Nat):Int)).toNat=xs.length:=by omega
 rw[e];simp
section
variable{P:bL}{w:bC}{K:aS}{mg:Str→Option Value}{base:Heap}
noncomputable abbrev ve:Stmt:=fz (top 28) 4
theorem aej:cT ["self","number"] ["self","number"] (cy ve):=⟨rfl,rfl,rfl,by decide+kernel,rfl,by decide+kernel,by decide+kernel⟩
theorem UZ{C:Addr}{H:aa}{x n g st:Addr}{gs:List Str}{ls:List Addr}{sss:List (List Step)}{k:Nat}{ss:List Step}{s:Step}(W:WalkAt C H x n g st gs ls sss)(e:sss[k]?=some (ss++[s])):
  ∃l ts t,ls[k]?=some l∧H l=some (.lst (aK (ts++[t])))∧H t=some (.tup (qo s)):=by
 have ln:=hO W.each;obtain⟨aT,_⟩:=eR.mp e;obtain⟨l,f7⟩:∃l,ls[k]?=some l:=⟨_,ct (by omega)⟩
 obtain⟨oW,es,ts,aq,cY⟩:=bH.get W.each f7;rw[e]at es;cases es;have lt:=cY.len;rw[a',fT]at lt;simp only[i5,qG]at lt;obtain⟨t,ux⟩:∃t,ts[ss.length]?=some t:=⟨_,ct (by omega)⟩
 obtain⟨d,de,hd⟩:=bH.get cY ux;rw[eC,Vu (by rw[a'];omega),a',Nat.sub_self]at de;cases de;refine⟨l,ts.take ss.length,t,f7,?_,hd⟩;have aE:ts=ts.take ss.length++[t]:=by
  have this:=(abm ss.length ts).symm;have hd2:ts.drop ss.length=[t]:=by rw[Jp (by omega:ss.length<ts.length)];rw[ct (by omega:ss.length<ts.length)]at ux;cases ux;rw[List.drop_eq_nil_of_le (by omega)]
  rw[hd2]at this;exact this
 rw[←aE];exact aq
theorem abS{C f:Addr}{fd:b5}(F:a_ K "last_house" "Walk.last_house" ve f fd)(cm:mC K C):aB P w K mg base aM 1 f fd ["self","number"] (Cz C):=by
 refine F.ok aej (λvs H Q E h=>?_) (λcdv A outer s H vs Q E au h=>?_)
 .obtain⟨x,n,g,st,gs,ls,sss,k,ss,s',rfl,_⟩:=h;rfl
 .obtain⟨x,n,g,st,gs,ls,sss,k,ss,s',rfl,W,es,q⟩:=h;obtain⟨ah,ay⟩:=W.ins;obtain⟨l,ts,t,f7,aq,df⟩:=UZ W es;refine⟨_,(bu (cO (b_ dE (b_ h9 (b_ h9 (dT (ae 0) (by rfl)) (ae 1) (λ_ _=>rfl)) (vr vd ba) (λ_ _=>rfl)) ba (λ_ _=>rfl)))),?_⟩;have ai:ag.gj (aK (ts++[t])) (-1)=some (.ref t):=by unfold aK;rw[eC];exact Rx
  exact⟨_,rfl,x,C,ah,_,_,rfl,ay,cm.cl,cm.ns,rfl,_,rfl,st,_,_,_,rfl,rfl,aO.of W.steps,ja (by unfold aK;rw[cL,f7];rfl),_,rfl,l,_,_,_,rfl,rfl,aO.of aq,ai,t,_,_,_,rfl,rfl,b1.of df,rfl,q⟩
noncomputable abbrev tf:Stmt:=fz (top 28) 5
theorem aek:cT ["self","number"] ["self","number"] (cy tf):=⟨rfl,rfl,rfl,by decide+kernel,rfl,by decide+kernel,by decide+kernel⟩
theorem abT{C f:Addr}{fd:b5}(F:a_ K "last_turn" "Walk.last_turn" tf f fd)(cm:mC K C):aB P w K mg base aM 1 f fd ["self","number"] (xS C):=by
 refine F.ok aek (λvs H Q E h=>?_) (λcdv A outer s H vs Q E au h=>?_)
 .obtain⟨x,n,g,st,gs,ls,sss,k,ss,s',rfl,_⟩:=h;rfl
 .obtain⟨x,n,g,st,gs,ls,sss,k,ss,s',rfl,W,es,q⟩:=h;obtain⟨ah,ay⟩:=W.ins;obtain⟨l,ts,t,f7,aq,df⟩:=UZ W es;refine⟨_,(bu (cO (b_ dE (b_ h9 (b_ h9 (dT (ae 0) (by rfl)) (ae 1) (λ_ _=>rfl)) (vr vd ba) (λ_ _=>rfl)) ba (λ_ _=>rfl)))),?_⟩;have ai:ag.gj (aK (ts++[t])) (-1)=some (.ref t):=by unfold aK;rw[eC];exact Rx
  exact⟨_,rfl,x,C,ah,_,_,rfl,ay,cm.cl,cm.ns,rfl,_,rfl,st,_,_,_,rfl,rfl,aO.of W.steps,ja (by unfold aK;rw[cL,f7];rfl),_,rfl,l,_,_,_,rfl,rfl,aO.of aq,ai,t,_,_,_,rfl,rfl,b1.of df,rfl,q⟩
noncomputable def mD(s:Step)(g:Str):ag.V:=if s.dm=g then .int s.due else .bD
inductive abV(C:Addr)(vs:(List ag.V))(H:aa)(Q:a6)(bl:b6):Prop where
 |mk (x n g st:Addr) (gs:List Str) (ls:List Addr) (sss:List (List Step)) (k:Nat) (ss:List Step) (s:Step) (y:Str) (bW:vs=[.ref x,.int k]) (bG:WalkAt C H x n g st gs ls sss) (b4:sss[k]?=some (ss++[s])) (cM:gs[k]?=some y) (d3:Q (mD s y) H)
noncomputable def xT(C:Addr):b8:=λvs H Q bl=>abV C vs H Q bl
noncomputable abbrev tg:Stmt:=fz (top 28) 6
theorem ael:cT ["self","number"] ["self","number"] (cy tg):=⟨rfl,rfl,rfl,by decide+kernel,rfl,by decide+kernel,by decide+kernel⟩
theorem abW{C f f1 f2:Addr}{fd cg c_:b5}(F:a_ K "home_turn" "Walk.home_turn" tg f fd)(cm:mC K C)(nd:cR K C "last_house" "Walk.last_house" ve ["self","number"] f1 cg)(Aj:aB P w K mg base aM 1 f1 cg ["self","number"] (Cz C))(kq:cR K C "last_turn" "Walk.last_turn" tf ["self","number"] f2 c_)(ud:aB P w K mg base aM 1 f2 c_ ["self","number"] (xS C)):aB P w K mg base aM 2 f fd ["self","number"] (xT C):=by
 have fh:=cm.cl;refine F.ok ael (λvs H Q E h=>?_) (λcdv A outer s H vs Q E au h=>?_)
 .obtain⟨x,n,g,st,gs,ls,sss,k,ss,s',y,rfl,_⟩:=h;rfl
 .obtain⟨x,n,g,st,gs,ls,sss,k,ss,s',y,rfl,W,es,eA,q⟩:=h;obtain⟨ah,ay⟩:=W.ins;refine⟨_,(a9 (eV (f3 DL (e3 (ae 0) fh nd.dQ Aj (au.mono (by decide)) nd.bd .nil cn (av (ae 1) aJ)) (b_ h9 (dT (ae 0) (by rfl)) (ae 1) (λ_ _=>rfl)) (eh _)) (bu (cO k9)) eT)
   (bu (cO (e3 (ae 0) fh kq.dQ ud (au.mono (by decide)) kq.bd .nil cn (av (ae 1) aJ))))),?_⟩
  have LI:ag.gj (gs.map V.str) (k:Int)=some (.str y):=ja (by rw[cL,eA];rfl);refine⟨_,rfl,x,ah,_,rfl,ay,rfl,_,rfl,x,n,g,st,gs,ls,sss,k,ss,s',rfl,W,es,?_⟩;refine⟨_,rfl,x,C,ah,_,_,rfl,ay,cm.cl,cm.hD,rfl,_,rfl,g,_,_,_,rfl,rfl,aO.of W.goals,LI,rfl,_,rfl,?_⟩;unfold mD at q;by_cases he:s'.dm=y
  .rw[a8 he]at q;exact fO (by rw[he];simp) ⟨_,rfl,x,ah,_,rfl,ay,rfl,_,rfl,x,n,g,st,gs,ls,sss,k,ss,s',rfl,W,es,q⟩
  .rw[aX he]at q;exact eE (by simp[he]) q
noncomputable def iU(d:Str×Int×Str):List ag.V:=[.str d.1,.int d.2.1,.str d.2.2]
noncomputable def e1(d:Str×Int×Str):List Step:=[⟨d.2.1,none,d.1,d.2.1⟩]
inductive afR(C:Addr)(vs:(List ag.V))(H:aa)(Q:a6)(bl:b6):Prop where
 |mk (x ah n cQ:Addr) (rs:List Addr) (ds:List (Str×Int×Str)) (bW:vs=[.ref x,.ref n,.ref cQ]) (bG:H x=some (.ins C ah [])) (b4:H cQ=some (.lst (aK rs))) (cM:dU H rs (ds.map iU)) (d3:rs.length≤100) (fK:∀(U:aa)(g st:Addr)(gG:List Addr),SameBut x H U→WalkAt C U x n g st (ds.map λd=>d.2.2) gG (ds.map e1)→H g=none→H st=none→gG.Nodup→(∀l∈gG,H l=none∧l≠st∧l≠g)→g≠st→Q .bD U)
noncomputable def yK(C:Addr):b8:=λvs H Q bl=>afR C vs H Q bl
noncomputable abbrev tO:Stmt:=fz (top 28) 0
inductive aem(C:Addr)(vs:(List ag.V))(H:aa)(Q:a6)(bl:b6):Prop where
 |mk (x ah n g st r:Addr) (gs:List Str) (ls:List Addr) (d:Str×Int×Str) (bW:vs=[.ref x,.ref r]) (bG:H x=some (.ins C ah (Dg n g st))) (b4:H g=some (.lst (gs.map V.str))) (cM:H st=some (.lst (aK ls))) (d3:g≠st) (fK:H r=some (.tup (iU d))) (iZ:gs.length≤100) (m5:ls.length≤100) (qy:∀(U:aa)(l t:Addr),(∀b o,b≠g→b≠st→H b=some o→U b=some o)→U g=some (.lst ((gs++[d.2.2]).map V.str))→U st=some (.lst (aK (ls++[l])))→H l=none→H t=none→U l=some (.lst [.ref t])→U t=some (.tup (qo ⟨d.2.1,none,d.1,d.2.1⟩))→Q .bD U)
noncomputable def Iq(C:Addr):b8:=λvs H Q bl=>aem C vs H Q bl
noncomputable abbrev yq:Stmt:=fz (top 28) 1
theorem afS:cT ["self","letter"] ["self","letter"] (cy yq):=⟨rfl,rfl,rfl,by decide+kernel,rfl,by decide+kernel,by decide+kernel⟩
theorem aen{C f:Addr}{fd:b5}(F:a_ K "take_in" "Walk.take_in" yq f fd)(cm:mC K C):aB P w K mg base aM 1 f fd ["self","letter"] (Iq C):=by
 refine F.ok afS (λvs H Q E h=>?_) (λcdv A outer s H vs Q E au h=>?_)
 .obtain⟨x,ah,n,g,st,r,gs,ls,d,rfl,_⟩:=h;rfl
 .obtain⟨x,ah,n,g,st,r,gs,ls,d,rfl,ay,bz,iE,GW,hd,xc,er,q⟩:=h;refine⟨_,(a9 (gm (qc qK se sf pG (dT (ae 0) (by rfl)) (av (b_ dE (ae 1) ba (λ_ _=>rfl)) aJ)))
   (bu (gm (qc qK se sf pG (dT (ae 0) (by rfl)) (av (jI (av (nE (av (b_ dE (ae 1) ba (λ_ _=>rfl)) (av k9 (av (b_ dE (ae 1) ba (λ_ _=>rfl)) (av (b_ dE (ae 1) ba (λ_ _=>rfl)) aJ))))) aJ)) aJ))))),?_⟩
  have u5:x≠g:=gb ay bz (by intro z;cases z);have xM:x≠st:=gb ay iE (by intro z;cases z);have aoM:r≠g:=gb hd bz (by intro z;cases z);have aty:r≠st:=gb hd iE (by intro z;cases z);refine⟨_,rfl,x,C,ah,_,_,rfl,ay,cm.cl,cm.hD,rfl,.inl ⟨rfl,_,aO.of bz⟩,_,rfl,r,_,_,_,rfl,rfl,b1.of hd,rfl,g,_,_,rfl,rfl,bz,eZ (by rw[a'];omega),?_⟩;have NY:upd H g (.lst (gs.map V.str++[V.str d.2.2])) x=_:=(aD u5).trans ay;have F2:upd H g (.lst (gs.map V.str++[V.str d.2.2])) st=_:=(aD GW.symm).trans iE;have M':upd H g (.lst (gs.map V.str++[V.str d.2.2])) r=_:=(aD aoM).trans hd;refine⟨_,rfl,x,C,ah,_,_,rfl,NY,cm.cl,cm.ns,rfl,.inl ⟨rfl,_,aO.of F2⟩,?_⟩;refine⟨_,rfl,r,_,_,_,rfl,rfl,b1.of M',rfl,_,rfl,r,_,_,_,rfl,rfl,b1.of M',rfl,_,rfl,r,_,_,_,rfl,rfl,b1.of M',rfl,(by show 4≤sizeLine;decide),λt ee=>⟨(by show 1≤sizeLine;decide),λl nl=>?_⟩⟩;have Fu:∀{b},upd H g (.lst (gs.map V.str++[V.str d.2.2])) b=none→H b=none∧b≠g:=λ{b}e=>by
   have nb:b≠g:=λz=>by rw[z,aQ]at e;cases e
   rw[aD nb]at e;exact⟨e,nb⟩
  have ZV:l≠t:=λz=>by rw[z,aQ]at nl;cases nl
  have rk:=nl;rw[aD ZV]at rk;have pW:=(cA (o:=.lst [.ref t]) nl) _ _ ((cA (o:=.tup (qo ⟨d.2.1,none,d.1,d.2.1⟩)) ee) _ _ F2);have l3:t≠st:=λz=>by rw[z,F2]at ee;cases ee
  have mL:l≠st:=λz=>by rw[z,F2]at rk;cases rk
  refine⟨st,_,_,rfl,rfl,pW,eZ (by rw[eb];omega),?_⟩;refine q _ l t (λb o ai aj e=>?_) ?_ ?_ (Fu rk).1 (Fu ee).1 ?_ ?_
  .have az:upd H g (.lst (gs.map V.str++[V.str d.2.2])) b=some o:=by rw[aD ai];exact e
   rw[aD aj];exact(cA nl) _ _ ((cA ee) _ _ az)
  .rw[aD GW,aD (Fu rk).2.symm,aD (Fu ee).2.symm,aQ,eC];rfl
  .rw[aQ,qX]
  .rw[aD mL,aQ]
  .rw[aD l3,aD ZV.symm,aQ];rfl
theorem WO:cT ["self","net","letters","letter"] ["self","net","letters"] (cy tO):=⟨rfl,rfl,rfl,by decide+kernel,rfl,by decide+kernel,by decide+kernel⟩
theorem afT{C f f1:Addr}{fd cg:b5}(F:a_ K "__init__" "Walk.__init__" tO f fd)(cm:mC K C)(su:cR K C "take_in" "Walk.take_in" yq ["self","letter"] f1 cg)(OS:aB P w K mg base aM 1 f1 cg ["self","letter"] (Iq C)):aB P w K mg base aM 2 f fd ["self","net","letters"] (yK C):=by
 have fh:=cm.cl;refine F.ok WO (λvs H Q E h=>?_) (λcdv A outer s H vs Q E au h=>?_)
 .obtain⟨x,ah,n,cQ,rs,ds,rfl,_⟩:=h;rfl
 .obtain⟨x,ah,n,cQ,rs,ds,rfl,ay,hW,cY,b9,q⟩:=h;refine⟨_,(a9 (iA (ae 0) (ae 1) rfl)
   (a9 (iA (ae 0) (jI aJ) rfl)
   (a9 (iA (ae 0) (jI aJ) rfl)
   (bu (jf iL rfl (hP (ae 2)) (d2 (i:=3) WO.aF rfl (cu rfl))
    (bu (gm (e3 (ae 0) fh su.dQ OS (au.mono (by decide)) su.bd .nil cn (av (ae 3) aJ))))))))),?_⟩
  refine⟨_,rfl,_,rfl,x,C,ah,_,rfl,ay,cm.cl,cm.nn,(by show 0<1000;decide),?_⟩;have B7:cQ≠x:=gb hW ay (by intro z;cases z);refine⟨(by show 0≤sizeLine;decide),λg hD=>?_⟩;have u5:g≠x:=λz=>by rw[z,aQ]at hD;cases hD
  have xH:=hD;rw[aD u5]at xH;refine⟨_,rfl,x,C,ah,_,rfl,(by rw[aD u5.symm,aQ]),cm.cl,cm.hD,(by show 1<1000;decide),(by show 0≤sizeLine;decide),λst l3=>?_⟩;have xM:st≠x:=λz=>by rw[z,aQ]at l3;cases l3
  rw[aD xM]at l3;have G2:st≠g:=λz=>by rw[z,aQ]at l3;cases l3
  rw[aD G2,aD xM]at l3;refine⟨_,rfl,x,C,ah,_,rfl,(by rw[aD xM.symm,aQ]),cm.cl,cm.ns,(by show 2<1000;decide),?_⟩;refine⟨_,rfl,cQ,rfl,⟨_,aO.of (xs:=aK rs) ?_⟩,?_⟩
  .rw[aD B7,aD (b2 hW l3),aD B7,aD (b2 hW xH),aD B7];exact hW
  have hC:=eb rs;have aof:rs.length=ds.length:=by have:=hO cY;rw[a']at this;exact this
  refine oA (K:=K) (a:=cQ) (xs:=aK rs) (λj σ dX=>∃kh gG,σ=[some (.ref x),some (.ref n),some (.ref cQ),kh]∧(∀b o,b≠x→H b=some o→dX b=some o)∧dX x=some (.ins C ah (Dg n g st))∧dX g=some (.lst (((ds.take j).map λd=>d.2.2).map V.str))∧dX st=some (.lst (aK gG))∧bH (fE dX) gG ((ds.take j).map e1)∧gG.Nodup∧(∀l∈gG,H l=none∧l≠st∧l≠g))
   ⟨none,[],rfl,λb o nb e=>?_,aQ,?_,?_,.nil,n_,λl aq=>bt aq dN⟩ (λj σ dX _⟨_,_,_,h,_⟩=>aO.of (h _ _ B7 hW)) ?_ ?_
  .rw[aD nb,aD (b2 e l3),aD nb,aD (b2 e xH),aD nb];exact e
  .rw[aD u5,aD G2.symm,aD u5,aQ];rfl
  .rw[aD xM,aQ];rfl
  .rintro j z σ dX di ⟨kh,gG,rfl,gd,nA,uL,pY,ec,aF,fr⟩;unfold aK at di;rw[cL]at di;obtain⟨r,d4,rfl⟩:=ew.mp di;obtain⟨y,eA,cW⟩:=bH.get cY d4;rw[cL]at eA;obtain⟨d,de,rfl⟩:=ew.mp eA;have as6:=(eR.mp de).1;have oM:=hO ec;rw[a',jR]at oM;have aP:ds.take (j+1)=ds.take j++[d]:=by rw[mf,de];rfl
   refine⟨_,rfl,x,ah,_,rfl,nA,rfl,_,rfl,x,ah,n,g,st,r,_,gG,d,rfl,nA,uL,pY,G2.symm,gd _ _ (gb cW ay (by intro z;cases z)) cW,(by rw[a',jR];omega),(by omega),?_⟩;intro U l t cF am0 q6 nl ee uM anN;have aoI:∀{o},dX l=some o→False:=λ{o}e=>by rw[nl]at e;cases e
   have free:∀{b},dX b=none→H b=none:=λ{b}e=>by
    by_cases af:b=x
    .rw[af,nA]at e;cases e
    .cases aE:H b with
     |none=>rfl
     |some o=>rw[gd _ _ af aE]at e;cases e
   refine⟨_,gG++[l],rfl,λb o nb e=>?_,cF _ _ u5.symm xM.symm nA,?_,q6,?_,?_,?_⟩
   .exact cF _ _ (λz=>by rw[z,xH]at e;cases e) (λz=>by rw[z,l3]at e;cases e) (gd _ _ nb e)
   .rw[am0,aP];simp only[eC,gv,D']
   .rw[aP,eC];refine Paired.snoc ⟨[t],uM,.cons anN .nil⟩ ?_;have go:∀{ms:List Addr}{vn:List (List Step)},bH (fE dX) ms vn→(∀l∈ms,l≠st∧l≠g)→bH (fE U) ms vn:=λ{ms vn}p=>by
     induction p with
     |nil=>exactλ_=>.nil
     |cons r t a7=>
      refineλh=>.cons ?_ (a7 λl aq=>h l (.tail _ aq))
      obtain⟨ts,ai,aj⟩:=r;refine⟨ts,cF _ _ (h _ (.head _)).2 (h _ (.head _)).1 ai,bH.f_ aj λa b e=>cF _ _ (gb e uL (by intro z;cases z)) (gb e pY (by intro z;cases z)) e⟩
    exact go ec λl aq=>(fr l aq).2
   .rw[JC];refine⟨aF,hL.mpr ⟨dN,n_⟩,λa aI b af=>?_⟩;rw[gK]at af;subst af;rintro rfl;obtain⟨i,ar,e⟩:=pe aI;obtain⟨_,_,ts,ai,_⟩:=bH.get ec (eR.mpr ⟨ar,e⟩);exact aoI ai
   .intro fI nv;rw[hv,gK]at nv;rcases nv with h|rfl
    .exact fr _ h
    .exact⟨free nl,λz=>(by rw[z]at nl;rw[nl]at pY;cases pY),λz=>(by rw[z]at nl;rw[nl]at uL;cases uL)⟩
  .rintro σ dX ⟨kh,gG,rfl,gd,nA,uL,pY,ec,aF,fr⟩;rw[hC,aof,mh]at uL ec;exact q dX g st gG (λb o nb e=>gd b o nb e) ⟨⟨ah,nA⟩,uL,pY,ec⟩ xH l3 aF fr G2.symm
end
open PySem ag cq aN
section
variable{P:bL}{w:bC}{K:aS}{mg:Str→Option Value}{base:Heap}
noncomputable abbrev rm:Stmt:=fz (top 51) 3
theorem U0:cT ["self","number"] ["self","number"] (cy rm):=⟨rfl,rfl,rfl,by decide+kernel,rfl,by decide+kernel,by decide+kernel⟩
theorem abX{C R f:Addr}{fd:b5}{tI fm my:String}{bm:List Value}(F:a_ K "road" "Net.road" rm f fd)(B:fo mg)(ft:rV K C)(Ry:vI tI fm my bm)(xp:Exc K mg "NoRoad" R bm fm):
  aB P w K mg base (eQ P w) 1 f fd ["self","number"] (HY C R):=by
 refine ro F U0 (λvs H Q E h=>?_) (λcdv A outer s H vs Q E au h=>?_)
 .obtain⟨x,aZ,a3,xs,ys,k,rfl,_⟩:=h;rfl
 .obtain⟨x,aZ,a3,xs,ys,k,rfl,n,q,gT⟩:=h;obtain⟨ah,ay⟩:=n.ins;refine⟨_,(a9 (eV (jH (xB mB ru ba (ae 1) (d7 h6 (by rfl) B.len hR (av (dT (ae 0) (by rfl)) aJ)))) (bu (Hv Ry xp rfl (av jG aJ))) eT)
   (bu (cO (b_ h9 (dT (ae 0) (by rfl)) (ae 1) (λ_ _=>rfl))))),?_⟩
  refine⟨_,rfl,_,_,rfl,rfl,_,rfl,?_⟩;by_cases h0:0≤k
  .refine eE (cB h0) ⟨_,rfl,x,C,ah,_,_,rfl,ay,ft.cl,ft.il,rfl,a3,_,rfl,.inl (aO.of n.qi),_,_,rfl,rfl,_,rfl,?_⟩;by_cases ai:k<ys.length
   .obtain⟨v,bA,apA⟩:=q ⟨h0,ai⟩;refine yk ai ?_;exact⟨_,rfl,x,C,ah,_,_,rfl,ay,ft.cl,ft.il,rfl,_,rfl,a3,_,_,_,rfl,rfl,aO.of n.qi,bA,apA⟩
   .refine eE (by rw[dP ai];rfl) ?_;exact⟨by show 1≤sizeLine;decide,gT λz=>ai z.2⟩
  .refine fO (dP h0) ⟨_,rfl,?_⟩;exact gp ⟨by show 1≤sizeLine;decide,gT λz=>h0 z.1⟩
end
end fq
namespace cq
open PySem PySem.Spec PyProof.Rows ag PySem.W
noncomputable def gR{α:Type}(lt:Nat→Nat→Bool):KasT α→α
 |.ret a=>a
 |.ask i j k=>gR lt (k (lt i j))
noncomputable def ka{α:Type}(n:Nat)(P:α→Prop):KasT α→Prop
 |.ret a=>P a
 |.ask i j k=>i<n∧j<n∧∀b,ka n P (k b)
theorem xU{α β:Type}{n:Nat}{P:α→Prop}{R:β→Prop}{f:α→KasT β}(hf:∀a,P a→ka n R (f a)):∀t:KasT α,ka n P t→ka n R (t.bind f)
 |.ret a,h=>hf a h
 |.ask i j k,h=>⟨h.1,h.2.1,λb=>xU hf (k b) (h.2.2 b)⟩
theorem oQ{α:Type}{n:Nat}{P:α→Prop}{c:Prop}[Decidable c]{s t:KasT α}(ai:c→ka n P s)(aj:¬c→ka n P t):ka n P (if c then s else t):=by
 by_cases h:c
 .rw[a8 h];exact ai h
 .rw[aX h];exact aj h
theorem U1{α:Type}{cmp:Nat→Nat→(Bool→ax→Prop)→ax→Prop}{lt:Nat→Nat→Bool}{n:Nat}{P:α→Prop}{Q:α→ax→Prop}{s:ax}(aG:∀i j C,i<n→j<n→C (lt i j) s→cmp i j C s):
  ∀t:KasT α,ka n P t→(P (gR lt t)→Q (gR lt t) s)→t.kasWp cmp Q s
 |.ret a,p,h=>h p
 |.ask i j k,p,h=>aG i j _ p.1 p.2.1 (U1 aG (k (lt i j)) (p.2.2 _) h)
theorem Hp{α:Type}{lt:Nat→Nat→Bool}{n:Nat}{P:α→Prop}:∀t:KasT α,ka n P t→P (gR lt t)
 |.ret _,p=>p
 |.ask i j k,p=>Hp (k (lt i j)) (p.2.2 _)
noncomputable def d5(n:Nat)(p:Array Nat):Prop:=p.Perm (wD (dt n))
theorem d5.lt{n:Nat}{p:Array Nat}(h:d5 n p){x:Nat}(ay:x∈p):x<n:=by
 have:=h.mem_iff.mp ay;have:x∈dt n:=by simpa using this
 exact gZ.mp this
theorem d5.list{n:Nat}{p:Array Nat}(h:d5 n p):p.toList.Perm (dt n):=by have:=Array.perm_iff_toList_perm.mp h;simpa using this
theorem d5.at{n:Nat}{p:Array Nat}(h:d5 n p)(h0:0<n)(k:Nat):p.getD k 0<n:=by
 by_cases aT:k<p.size
 .have e:p.getD k 0=p[k]:=by simp[tH,aT]
  rw[e];exact h.lt (Array.getElem_mem aT)
 .have e:p.getD k 0=0:=by simp[tH,aT]
  rw[e];exact h0
theorem d5.perm{n:Nat}{p q:Array Nat}(h:d5 n p)(e:q.Perm p):d5 n q:=Array.Perm.trans e h
theorem d5.rev{n:Nat}{p:Array Nat}(h:d5 n p)(i j:Nat):d5 n (BM p i j):=h.perm (mirror_perm ..)
theorem d5.Xn{n:Nat}{p:Array Nat}(h:d5 n p)(i j:Nat):d5 n (bubble p i j):=h.perm (bubble_perm ..)
section
variable{n:Nat}
theorem JI{p:Array Nat}(h0:0<n)(h:d5 n p):∀f k,ka n (λ_=>True) (kas_asc p f k)
 |0,_=>trivial
 |f+1,k=>⟨h.at h0 _,h.at h0 _,λb=>oQ (λ_=>trivial) λ_=>JI h0 h f (k+1)⟩
theorem Ir(h0:0<n):∀(f:Nat)(p:Array Nat)(k q:Nat),d5 n p→ka n (λr=>d5 n r.1) (BL f p k q)
 |0,p,k,q,h=>h
 |f+1,p,k,q,h=>⟨h.at h0 _,h.at h0 _,λb=>oQ (λ_=>oQ (λ_=>Ir h0 f _ _ _ (h.rev _ _)) λ_=>Ir h0 f _ _ _ h)
   λ_=>⟨h.at h0 _,h.at h0 _,λb=>oQ (λ_=>h) λ_=>Ir h0 f _ _ _ h⟩⟩
theorem U2{p:Array Nat}(h0:0<n)(h:d5 n p)(k m:Nat):ka n (λr=>d5 n r.2) (BN k m p):=by unfold BN;refine xU (P:=λ_=>True) (λa _=>?_) _ (JI h0 (h.rev _ _) _ _);exact h.rev _ _
theorem Å{p:Array Nat}(h0:0<n)(h:d5 n p)(k m:Nat):ka n (λr=>d5 n r.2) (Zj k m p):=
 xU (λr au=>oQ (λ_=>U2 h0 (d5.rev au _ _) _ _) λ_=>U2 h0 au _ _) _ (Ir h0 _ _ _ _ h)
theorem aeo{p:Array Nat}(h0:0<n)(h:d5 n p)(m:Nat):ka n (λr=>d5 n r.2) (OU m p):=by unfold OU;refine xU (P:=λ_=>True) (λk _=>?_) _ (JI h0 h _ _);refine oQ (λ_=>h) λ_=>oQ (λ_=>⟨h.at h0 _,h.at h0 _,λb=>oQ (λ_=>h) λ_=>Å h0 (h.rev _ _) _ _⟩) λ_=>Å h0 h _ _
theorem S7{p:Array Nat}(h0:0<n)(h:d5 n p)(k:Nat):∀f l r,ka n (λ_=>True) (xx p k f l r)
 |0,_,_=>trivial
 |f+1,l,r=>oQ (λ_=>trivial) λ_=>⟨h.at h0 _,h.at h0 _,λb=>oQ (λ_=>S7 h0 h k f _ _) λ_=>S7 h0 h k f _ _⟩
theorem JG(h0:0<n):∀(f:Nat)(p:Array Nat)(k:Nat),d5 n p→ka n (d5 n) (OT f p k)
 |0,p,k,h=>h
 |f+1,p,k,h=>xU (λl _=>JG h0 f _ _ (h.Xn _ _)) _ (S7 h0 h k _ _ _)
theorem IW(h0:0<n):ka n (d5 n) (xy n):=by have au:d5 n (wD (dt n)):=Ă _;unfold xy;refine xU (P:=λr=>d5 n r.2) (λr aj=>?_) _ (aeo h0 au n);exact oQ (λ_=>JG h0 _ _ _ aj) λ_=>aj
end
noncomputable def qf(lt:Nat→Nat→Bool)(n:Nat):List Nat:=if n<2 then dt n else(gR lt (xy n)).toList
noncomputable def hq{α:Type}(d:α)(lt:Nat→Nat→Bool)(xs:List α):List α:=(qf lt xs.length).map λi=>xs.getD i d
theorem Ce{lt:Nat→Nat→Bool}{n i:Nat}(h:i∈qf lt n):i<n:=by
 unfold qf at h;split at h
 .exact gZ.mp h
 .rename_i aj;exact d5.lt (Hp (lt:=lt) (xy n) (IW (by omega))) (by simpa using h)
theorem Æ(lt:Nat→Nat→Bool)(n:Nat):(qf lt n).Perm (dt n):=by
 unfold qf;split
 .exact List.Perm.refl _
 .exact d5.list (Hp (lt:=lt) (xy n) (IW (by omega)))
theorem ð{α:Type}(d:α)(lt:Nat→Nat→Bool)(xs:List α):(hq d lt xs).Perm xs:=by
 have e:xs=(dt xs.length).map λi=>xs.getD i d:=by
  apply D2
  .simp
  .intro i ai aj;simp[cH,ai]
 have p:=(Æ lt xs.length).map λi=>xs.getD i d;rw[←e]at p;exact p
theorem R9{α:Type}(d:α)(lt:Nat→Nat→Bool)(xs:List α):(hq d lt xs).length=xs.length:=(ð d lt xs).length_eq
theorem Rz{lt:Nat→Nat→Bool}{xs:List V}{us:List Value}(h:cN xs us):cN (hq .bD lt xs) (hq .none lt us):=by
 unfold hq;rw[h.length];have:∀is:List Nat,(∀i∈is,i<xs.length)→cN (is.map λi=>xs.getD i .bD) (is.map λi=>us.getD i .none):=λis=>by
  induction is with
  |nil=>intro _;exact .nil
  |cons i r a7=>
   intro ar;refine .cons ?_ (a7 λj bq=>ar j (.tail _ bq));have bP:i<xs.length:=ar i (.head _);have az:xs[i]?=some xs[i]:=ct bP;obtain⟨u,aE,eP⟩:=h.get az;show RelV (xs[i]?.getD .bD) (us[i]?.getD .none);rw[az,aE];exact eP
 exact this _ λi ar=>by rw[h.length];exact Ce ar
theorem aby{α:Type}(d:α)(lt:Nat→Nat→Bool){xs:List α}(h:xs.length<2):hq d lt xs=xs:=by
 unfold hq qf;rw[a8 h];apply D2
 .simp
 .intro i ai aj;simp[cH,aj]
noncomputable def rT(a:Addr)(h h':Heap):Prop:=∀b o,b≠a→h.get? b=some o→h'.get? b=some o
section
variable{prog:bL}{w:bC}{A:c4}{E:Value→ax→Prop}{s:ax}{vs:List Value}{κ:wQ}{lt:Nat→Nat→Bool}
theorem U3{a:Addr}{e:Nat}{R:PySem.Fin→ax→Prop}(bw:s.heap.get? a=some (iG "list" vs.toArray e))(pN:vs.length<64)(aT:2≤vs.length→∀s1:ax,rT a s.heap s1.heap→∀Q:wQ→ax→Prop,Q κ s1→a4 (bg prog w) A (O4 vs.toArray) Q (λ_ _=>False) s1)(aq:2≤vs.length→∀s1:ax,rT a s.heap s1.heap→∀i j C,i<vs.length→j<vs.length→C (lt i j) s1→BK prog w A κ vs i j C s1)(h:∀h' c,rT a s.heap h'→h'.get? a=some (iG "list" (wD (hq gB lt vs)) c)→R (.done (.ret .none)) {s with heap:=h'}):
  a4 (bg prog w) A (Builtin.«list.sort» ⟨[.ref a],[]⟩) R E s:=by
 have emptied:=ame bw λ_=>(#[]:Array Value)
 obtain⟨az,Y3⟩:∃k,(s.heap.update a (wH λ_=>(#[]:Array Value))).get? a=some (iG "list" #[] k):=⟨_,emptied⟩
 have fe:rT a s.heap (s.heap.update a (wH λ_=>(#[]:Array Value))):=λb o af q=>(US _ _ _ _ af).trans q;have big:∀k,k<64→k≤sizeLine:=λk aT=>by rw[tp];omega
 rw[list_sort_plain];refine aR (listItems_at bw rfl (aR (listUpdate_at bw rfl ?_ (by rw[gh];exact big _ pN) (eD _))));refine aR (seqEpoch_at Y3 rfl (aR (wpAny_newTuple ?_ (big _ pN))));refine aR (Ü (lF ?_) (eD _));dsimp only;generalize j6:((s.heap.update a (wH λ_=>(#[]:Array Value))).push (iG "tuple" vs.toArray 0)).push (iG "list" #[] 0)=ak;have NI:ak.get? a=some (iG "list" #[] az):=by rw[←j6];exact dJ _ (dJ _ Y3)
 have iH:rT a s.heap ak:=λb o af q=>by rw[←j6];exact dJ _ (dJ _ (fe b o af q))
 have tail:∀(x:Unit×SortSt)(out:List Value),(arrOf x.2).map (·.2)=out.toArray→failedOf x.2=none→out.length<64→out=hq gB lt vs→
   a4 (bg prog w) A (do
    let now ←seqEpoch a
    arH (.ref a) λ_=>(arrOf x.2).map (·.2)
    match failedOf x.2 with
    |some d4=>do
     rule "list.sort.comparison-raised"
     throw d4
     if(now !=az)=true then do
      rule "list.sort.modified"
      apG "ValueError" "list modified during sort"
      ret gB
     else ret gB
    |_=>
     if(now !=az)=true then do
      rule "list.sort.modified"
      apG "ValueError" "list modified during sort"
      ret gB
     else ret gB) R E {s with heap:=ak}:=λx out aE dj O8 Mo=>by
  refine aR (seqEpoch_at NI rfl (aR (listUpdate_at NI rfl ?_ (eD _) ?_)))
  .rw[dj];dsimp only;rw[aX (by simp)];obtain⟨c,aG⟩:∃c,(ak.update a (wH λ_=>(arrOf x.2).map (·.2))).get? a=some (iG "list" ((arrOf x.2).map (·.2)) c):=⟨_,ame NI λ_=>(arrOf x.2).map (·.2)⟩
   refine bN (h _ c (λb o af q=>(US _ _ _ _ af).trans (iH b o af q)) ?_);rw[aG,aE,Mo]
  .rw[aE,gh];have:=big _ O8;omega
 by_cases aj:(vs.toArray.size<2)
 .rw[a8 aj,a8 aj];have iC:vs.length<2:=by rw[gh]at aj;exact aj
  refine aR (bN (aR (bN ?_)));refine tail ((),SortSt.mk' general' (vs.toArray.zip vs.toArray) #[] 7 none) vs ?_ rfl pN (aby _ _ iC).symm;show(vs.toArray.zip vs.toArray).map (·.2)=vs.toArray;apply Ą.mp;simp only[Array.toList_map,Array.toList_zip];exact List.map_snd_zip (bY _)
 .rw[aX aj,aX aj];have iC:2≤vs.length:=by rw[gh]at aj;omega
  refine aR (gf (aT iC {s with heap:=ak} iH (λTo s'=>To=κ∧s'={s with heap:=ak}) ⟨rfl,rfl⟩) ?_ λ_ _ x=>x.elim);rintro To s' ⟨rfl,rfl⟩;refine aR (gf (kat_run (κ:=To) (Q:=λst s'=>s'={s with heap:=ak}∧(arrOf st).map (·.2)=wD (hq gB lt vs)∧failedOf st=none∧(hq gB lt vs).length=vs.length)
   (G:=λp s'=>s'={s with heap:=ak}∧p=gR lt (xy vs.length)) rfl iC pN (λp st s' a1 a2 h5 jU=>?_) (U1 (λi j C ar bq ei=>aq iC _ iH i j C ar bq ei) _ (IW (by omega)) λ_=>⟨rfl,rfl⟩)) ?_ λ_ _ x=>x)
  .obtain⟨gC,gk⟩:=jU;have e:hq gB lt vs=p.toList.map λi=>vs.getD i gB:=by unfold hq qf;rw[aX (by omega),gk]
   refine⟨gC,?_,h5,?_⟩
   .rw[e];exact kat_snds rfl a2
   .rw[e,a',DB,a1]
  .rintro⟨⟨⟩,st⟩ s' ⟨rfl,gk,sm,L3⟩;exact tail ((),st) _ gk sm (by omega) rfl
end
open PySem PySem.Spec PyProof.Rows ag PySem.W
noncomputable def l6(h h':Heap):Prop:=∀b o,h.get? b=some o→h'.get? b=some o
section
variable{prog:bL}{w:bC}{A:c4}{E:Value→ax→Prop}{s:ax}{vs:List Value}{κ:wQ}{lt:Nat→Nat→Bool}
theorem ñ{l:Addr}{Q:Value→ax→Prop}(aq:s.heap.IsList l vs.toArray)(pN:vs.length<64)(aT:2≤vs.length→∀s1:ax,l6 s.heap s1.heap→∀Q:wQ→ax→Prop,Q κ s1→a4 (bg prog w) A.in1.in1 (O4 vs.toArray) Q (λ_ _=>False) s1)(aI:2≤vs.length→∀s1:ax,l6 s.heap s1.heap→∀i j C,i<vs.length→j<vs.length→C (lt i j) s1→BK prog w A.in1.in1 κ vs i j C s1)(h:∀D h' c,s.heap.objs.size≤D→l6 s.heap h'→h'.get? D=some (iG "list" (wD (hq gB lt vs)) c)→Q (.ref D) {s with heap:=h'}):
  a4 (bg prog w) A (call (.builtin "sorted") ([.ref l]:List Value)) Q E s:=by
 have big:vs.length≤sizeLine:=by rw[tp];omega
 refine ē kind_sorted plain_sorted entry_sorted (args_sorted1 (.ref l)) ?_;unfold Builtin.«sorted»;refine aR (m:=checkCount "sorted" 1 1 _) (bN (aR (collect_list aq ?_ big)));refine aR (Ü ?_ big);generalize qY:(s.heap.push (iG "list" #[] 0)).update s.heap.objs.size (wH (·++vs.toArray))=G;have gs:G.objs.size=s.heap.objs.size+1:=by rw[←qY,Heap.size_update,size_push']
 have fe:l6 s.heap G:=λb o q=>by have af:=en (dK q);rw[←qY,US _ _ _ _ af];exact dJ _ q
 show a4 _ _ _ _ _ {s with heap:=G.push (iG "list" vs.toArray 0)};have bO:(G.push (iG "list" vs.toArray 0)).get? G.objs.size=some (iG "list" vs.toArray 0):=hg _ rfl;have iH:l6 s.heap (G.push (iG "list" vs.toArray 0)):=λb o q=>dJ _ (fe b o q);have n2:∀h',rT G.objs.size (G.push (iG "list" vs.toArray 0)) h'→l6 s.heap h':=λh' x b o q=>x b o (en (by rw[gs];exact JK (dK q))) (iH b o q);refine aR (lF (vA ap4 ⟨_,bO,rfl⟩ alS ?_ (ajb _)));refine U3 (s:={s with heap:=G.push (iG "list" vs.toArray 0)}) (κ:=κ) (lt:=lt) bO pN (λaj s1 x=>aT aj s1 (n2 _ x)) (λaj s1 x=>aI aj s1 (n2 _ x)) λh' c x aG=>?_;exact⟨_,rfl,bN ⟨_,rfl,h _ h' c (by rw[gs];exact wF _) (n2 _ x) aG⟩⟩
end
noncomputable def lexLt:List bx→List bx→Bool
 |.inl a::r,.inl b::q=>if a=b then lexLt r q else decide (a<b)
 |.inr a::r,.inr b::q=>if a=b then lexLt r q else decide (a.cps.toList<b.cps.toList)
 |_,_=>false
noncomputable def iT:List bx→List Bool:=Vx λk=>match k with
 |.inl _=>true
 |.inr _=>false
theorem abz(a b:Int):hx (.int a) (.int b)=decide (a=b):=by
 by_cases h:a=b
 .subst h;rw[cB rfl];simp[hx]
 .rw[dP h];simp[hx,h]
theorem TK(x y:Str):hx (.str x) (.str y)=decide (x=y):=by
 by_cases h:x=y
 .subst h;rw[cB rfl];simp[hx]
 .rw[dP h];simp[hx,h]
section
variable{prog:bL}{w:bC}{A:c4}{E:Value→ax→Prop}{s:ax}
theorem R'{Q:Bool→ax→Prop}:∀(d e:List bx)(us ws:List Value)(i:Nat),cN (d.map dz) us→cN (e.map dz) ws→iT d=iT e→Q (lexLt d e) s→KatLex prog w A true false Q (us.zip ws) i s
 |[],e,us,ws,i,v1,v2,hs,h=>by
  cases v1;have e0:e=[]:=by
   cases e with
   |nil=>rfl
   |cons _ _=>cases hs
  subst e0;exact kat_nil h
 |.inl a::r,[],_,_,_,_,_,hs,_=>by cases hs
 |.inr a::r,[],_,_,_,_,_,hs,_=>by cases hs
 |.inl a::r,.inr b::q,_,_,_,_,_,hs,_=>by simp[iT]at hs
 |.inr a::r,.inl b::q,_,_,_,_,_,hs,_=>by simp[iT]at hs
 |.inl a::r,.inl b::q,_,_,i,.cons cJ t1,.cons dr et,hs,h=>by
  obtain⟨t,rfl⟩:=cJ;obtain⟨u,rfl⟩:=dr;have q6:iT r=iT q:=by simpa[iT]using hs
  unfold lexLt at h;refine kat_cons (keq_flat (d:=.int a) (e:=.int b) (λ_=>.int a t) (λ_=>.int b u) prog w _ _ ?_);rw[abz];by_cases e:a=b
  .rw[a8 e]at h;rw[cB e];exact kat_yes (R' r q _ _ _ t1 et q6 h)
  .rw[aX e]at h;rw[dP e];refine kat_no ?_;cases i with
   |zero=>exact oneLt_int h
   |succ i=>exact kat_one _ _ (lt_int h)
 |.inr a::r,.inr b::q,_,_,i,.cons cJ t1,.cons dr et,hs,h=>by
  obtain⟨t,rfl⟩:=cJ;obtain⟨u,rfl⟩:=dr;have q6:iT r=iT q:=by simpa[iT]using hs
  unfold lexLt at h;refine kat_cons (keq_flat (d:=.str a) (e:=.str b) (λ_=>.str a t) (λ_=>.str b u) prog w _ _ ?_);rw[TK];by_cases e:a=b
  .rw[a8 e]at h;rw[cB e];exact kat_yes (R' r q _ _ _ t1 et q6 h)
  .rw[aX e]at h;rw[dP e];refine kat_no ?_;cases i with
   |zero=>exact oneLt_str h
   |succ i=>exact kat_one _ _ (lt_str h)
end
noncomputable def nI(ds:List (List bx))(i j:Nat):Bool:=lexLt (ds.getD i []) (ds.getD j [])
theorem ò:∀{ts:List Addr}{us:List Value},cN (ts.map V.ref) us→us=ts.map dO
 |[],_,.nil=>rfl
 |t::ts,_,.cons r q=>by cases r;rw[ò q];rfl
noncomputable def Zf:bx→Bool
 |.inl _=>true
 |.inr _=>false
noncomputable def Ψ(b:Bool):Value:=if b=true then .type "int" else .type "str"
theorem VK{P:bL}{w:bC}{H:aa}{h ai:Heap}(ok:fp P w H h)(x:l6 h ai){b:Bool}:∀{ts:List Addr}{ds:List (List bx)},bH (λr d=>H r=some (.tup (d.map dz))) ts ds→(∀d∈ds,∃r,iT d=b::r)→
  ∃fs,KatTups ai (ts.map dO) fs∧fs.length=ts.length∧∀v∈fs,∃k:bx,Zf k=b∧RelV (dz k) v
 |[],[],_,_=>⟨[],KatTups.nil,rfl,λ_ h=>bt h dN⟩
 |t::ts,d::ds,.cons r q,hd=>by
  obtain⟨fs,k1,k2,k3⟩:=VK ok x q λd' h'=>hd d' (.tail _ h');obtain⟨l',hs⟩:=hd d (.head _);obtain⟨_,its,cz,o,bw,aG,n,nu⟩:=ok t _ r;cases d with
  |nil=>cases hs
  |cons k d=>
   cases cz with
   |cons tk qj=>
    rename_i f fr;refine⟨f::fs,KatTups.cons (x _ _ bw) aG nu (by simp) k1,by simp[k2],λv bA=>?_⟩;rcases dx.mp bA with rfl|anS
    .refine⟨k,?_,tk⟩;have:iT (k::d)=Zf k::iT d:=by cases k<;>rfl
     rw[this]at hs;exact(Vt hs).1
    .exact k3 v anS
 |[],d::ds,h,_=>nomatch h
 |t::ts,[],h,_=>nomatch h
section
variable{X:bh}
theorem Hb:iw "sorted"=some (.builtin "sorted"):=by decide+kernel
theorem ο:j' X (.builtin "sorted") (λxs H Q=>∃(p:Addr)(ts:List Addr)(ds:List (List bx))(b:Bool)(cX:List Bool),xs=[.ref p]∧aO X.K H p (ts.map V.ref)∧bH (λr d=>H r=some (.tup (d.map dz))) ts ds∧ts.length<64∧(∀d∈ds,iT d=b::cX)∧
  ∀l,H l=none→Q (.ref l) (upd H l (.lst (hq .bD (nI ds) (ts.map V.ref))))):=by
 intro pins s σ H xs us Q I r h;obtain⟨p,ts,ds,b,cX,rfl,bb,cY,pN,pX,q⟩:=h;obtain⟨u,rfl,eP⟩:=vals1 r;cases eP;obtain⟨its,cz,pl,bB⟩:=I.list bb;have hlen:=cz.length;rw[a']at hlen;obtain rfl:=ò cz;have asu:ts.length=ds.length:=hO cY;have at_:∀i,i<ts.length→∃d its,(ts.map dO).getD i gB=.ref ts[i]!∧ds.getD i []=d∧iT d=b::cX∧cN (d.map dz) its∧IsTup s.heap ts[i]! its.toArray:=λi ar=>by
  have az:ts[i]?=some ts[i]:=ct ar;have aE:ds[i]?=some ds[i]:=ct (by omega);have dj:ts[i]! =ts[i]:=by simp[ar]
  have aW:H ts[i]=some (.tup (ds[i].map dz)):=by
   have:∀{l:List Addr}{m:List (List bx)}{k:Nat}{x:Addr}{y:List bx},bH (λr d=>H r=some (.tup (d.map dz))) l m→l[k]?=some x→m[k]?=some y→H x=some (.tup (y.map dz)):=λ{l m k x y}P=>by
    induction P generalizing k with
    |nil=>intro h;simp at h
    |cons a t a7=>
     cases k with
     |zero=>intro ai aj;simp at ai aj;subst ai;subst aj;exact a
     |succ k=>intro ai aj;simp at ai aj;exact a7 ai aj
   exact this cY az aE
  obtain⟨_,its,v1,t1⟩:=I.bj _ _ aW;refine⟨ds[i],its,?_,?_,pX _ (jA _),v1,?_⟩
  .rw[cH,cL,az,dj];rfl
  .rw[cH,aE];rfl
  .rw[dj];exact t1
 refine ñ (κ:=tuples' true) (lt:=nI ds) pl.isList (by rw[a'];exact pN) (λaj s1 x wO fP=>?_) (λaj s1 x i j C ar bq ei=>?_) λD h' c hle x aG=>?_
 .obtain⟨fs,k1,k2,k3⟩:=VK I.bj x cY λd hd=>⟨cX,pX d hd⟩
  rw[a']at aj;refine kat_kind (T:=Ψ b) k1 (by omega) (λv bA=>?_) (by cases b<;>decide+kernel) ?_
  .obtain⟨k,f6,tk⟩:=k3 v bA;subst f6;cases k with
   |inl i=>obtain⟨t,rfl⟩:=tk;exact VE rfl
   |inr i=>obtain⟨t,rfl⟩:=tk;exact VE rfl
  .have e:(Ψ b !=si "tuple")=true:=by cases b<;>decide+kernel
   rw[e];exact fP
 .rw[a']at ar bq;obtain⟨d,its,a1,a2,h5,jU,o,bw,_,n,nu⟩:=at_ i ar;obtain⟨d',its',gC,gk,sm,L3,cD,j8,_,kc,amN⟩:=at_ j bq;unfold BK;rw[a1,gC];have fQ:=jU.length;have fI:=L3.length;rw[a']at fQ fI;have u0:d.length=d'.length:=by have e:=iP Jv (h5.trans sm.symm);simpa[iT]using e
  refine kat_lt (b:=true) (x _ _ bw) nu (x _ _ j8) amN ?_;rw[dP (by rw[gh,gh];omega)];refine R' d d' its its' 0 jU L3 (h5.trans sm.symm) ?_;have:nI ds i j=lexLt d d':=by unfold nI;rw[a2,gk]
  rw[←this];exact ei
 .refine⟨.ref D,_,I.laid (a:=D) (o:=.lst (hq .bD (nI ds) (ts.map V.ref))) (t':=s.toks) (λb o q=>x b o q) hle ?_,rfl,q D (I.bj.fresh hle)⟩;refine⟨?_,_,c,Rz cz,aG⟩;rw[R9,a',tp];omega
end
open PySem PySem.Spec PyProof.Rows ag
noncomputable def n7(h:Heap)(d:Addr)(es:Array vG)(ep:Nat):Prop:=∃o,h.get? d=some o∧o.ExactDict∧o.data=.dict es ep
section
variable{X:bh}{pins:List (Addr×Obj)}{σ:ag.St}{H:aa}{s:ax}{a:Addr}{u u':d1}
theorem VL(I:Inv X pins σ H s)(aI:H a=some u)(cI:∀xs,u≠.tup xs)(c3:∀y,u≠.own y)(new:eo X.prog X.w (upd H a u') s.heap a u')(f1:∀xs,X.n9 a≠some (.tup xs))(f2:∀o v,X.n9 a≠some (.fH o v))(cc:∀ps,X.n9 a≠some (.qs ps)):Inv X pins σ (upd H a u') s:=by
 have other:∀{b:Addr},H b=none→upd H a u' b=none:=λ{b}e=>by rw[aD (λz=>by rw[z,aI]at e;cases e)];exact e
 refine⟨I.ok,I.os,I.bare,⟨I.base.keep,I.base.slot,λb o e n ay=>other (I.base.free b o e n ay),I.base.there,λb xs e=>?_,λb o v e=>?_,λb ps e=>?_⟩,I.loc,I.cell,other I.free,λx c e=>other (I.mu x c e),λp aW=>?_,λb o e=>?_,I.len⟩
 .rw[aD (λz=>by rw[z]at e;exact f1 xs e)];exact I.base.hE b xs e
 .rw[aD (λz=>by rw[z]at e;exact f2 o v e)];exact I.base.iR b o v e
 .rw[aD (λz=>by rw[z]at e;exact cc ps e)];exact I.base.jw b ps e
 .obtain⟨ai,aj,bk,cv,dW⟩:=I.pin p aW;exact⟨ai,other aj,bk,cv,dW⟩
 .by_cases af:b=a
  .subst af;rw[aQ]at e;cases e;exact new
  .rw[aD af]at e;refine(I.bj b o e).jO (λc v _ q=>q) (λc q=>?_) λc xs q=>?_
   .rw[aD (λz=>by rw[z,aI]at q;exact c3 _ (hM q))];exact q
   .rw[aD (λz=>by rw[z,aI]at q;exact cI _ (hM q))];exact q
end
open PySem PySem.Spec PyProof.Rows ag
section
variable{prog:bL}{w:bC}{A:c4}{E:Value→ax→Prop}{s:ax}{it d:Addr}{i ep:Nat}{es:Array vG}
theorem VM{Q:Option Value→ax→Prop}(hit:s.heap.IsKeyIter it d i es.size ep)(hd:n7 s.heap d es ep)(ar:i<es.size)(fP:∀h',h'.IsKeyIter it d (i+1) es.size ep→tQ it s.heap h'→Q (some es[i].key) {s with heap:=h'}):a4 (bg prog w) A (jv (.ref it)) Q E s:=by
 obtain⟨Z5,sQ,YE,q1⟩:=id hit;obtain⟨o,bw,_,nu⟩:=hd;have T0:=hit.typeIs;have PX:¬((dO d==gB)=true):=fL;have own:č "dict_keyiterator"=false:=by decide
 unfold jv;refine aR (wpAny_attempt (Ô (name:=gA "__next__") T0 F.slot_dict_keyiterator_next (vA F.slot_dict_keyiterator_next T0 F.entry_dict_keyiterator_next ?_ (F.args_dict_keyiterator_next_1 _))));refine aR (bN (aR (aR ?_)))
 first
 |refine aR (Sn T0 (bN (aR (Sk sQ q1 ?_))))
 |refine aR (So T0 (bN (aR (Sk sQ q1 ?_))))
 simp only[own,o6,if_false];change a4 _ _ (ite ((dO d==gB)=true) _ _) _ _ s;rw[aX PX];refine aR (bN (aR (Õ bw nu ?_)));rw[aX (by simp)];refine aR (bN (aR (Ö bw nu ?_)));rw[aX (by simp)];refine bN ?_;simp only[show¬((i:Int)<0)from by omega,if_false,m8,TB ar];refine aR ?_
 first
 |refine aR (Sn T0 (bN (aR (Û T0 ?_))))
 |refine aR (So T0 (bN (aR (Û T0 ?_))))
 change a4 _ _ (HB (.ref it) 1 (xY ((i:Int)+1)) >>=_) _ _ s;refine aR (aq9 sQ q1 (by simp) ?_);have next:(s.heap.update it (Obj.mapFields (·.setIfInBounds 1 (xY ((i:Int)+1))))).IsKeyIter it d (i+1) es.size ep:=
  ⟨_,r4 _ sQ (Obj.isFreed_of_fields (acr q1 _)),(Obj.cls_mapFields ..).trans YE,by simp[acr q1,xY]⟩
 refine aR (lF (aR (Û (s:={s with heap:=s.heap.update it (Obj.mapFields (·.setIfInBounds 1 (xY ((i:Int)+1))))}) next.typeIs ?_)));exact bN (bN ⟨_,rfl,bN (fP _ next (ő ..))⟩)
theorem U4{Q:Option Value→ax→Prop}(d9:A.handled=none)(hit:s.heap.IsKeyIter it d i es.size ep)(hd:n7 s.heap d es ep)(ar:es.size≤i)(fP:∀h',Heap.ExtBut it s.heap h'→Q none {s with heap:=h'}):
  a4 (bg prog w) A (jv (dO it)) Q E s:=by
 obtain⟨Z5,sQ,YE,q1⟩:=id hit;obtain⟨o,bw,_,nu⟩:=hd;have T0:=hit.typeIs;have PX:¬((dO d==gB)=true):=fL;have own:č "dict_keyiterator"=false:=by decide
 unfold jv;refine aR (wpAny_attempt (Ô (name:=gA "__next__") T0 F.slot_dict_keyiterator_next (vA F.slot_dict_keyiterator_next T0 F.entry_dict_keyiterator_next ?_ (F.args_dict_keyiterator_next_1 _))));refine aR (bN (aR (aR ?_)))
 first
 |refine aR (Sn T0 (bN (aR (Sk sQ q1 ?_))))
 |refine aR (So T0 (bN (aR (Sk sQ q1 ?_))))
 simp only[own,o6,if_false];change a4 _ _ (ite ((dO d==gB)=true) _ _) _ _ s;rw[aX PX];refine aR (bN (aR (Õ bw nu ?_)));rw[aX (by simp)];refine aR (bN (aR (Ö bw nu ?_)));rw[aX (by simp)];refine bN ?_;simp only[show¬((i:Int)<0)from by omega,if_false,m8,Iy ar];refine aR ?_
 first
 |refine aR (Sn T0 (bN ?_))
 |refine aR (So T0 (bN ?_))
 change a4 _ _ (HB (.ref it) 0 gB >>=_) _ _ s;refine aR (aq9 sQ q1 (by simp) ?_);change a4 _ _ (newExc (.type "StopIteration") [] >>=_) _ _ _;refine aR ?_;simp only[newExc,newTuple];refine aR (qu ?_ (by size_fits));refine aR (m:=al2 _ _) (Ds (a:=gB) (by first|rfl|(simp only[al2];rfl)) (qu ?_ (by size_fits)));have j7:A.in1.handled=none:=d9;simp only[raiseNew];refine aR (wpAny_handled ?_);rw[j7];refine aR (bN (wpAny_throw ?_));refine aR (aq2 (b:=true) (T:="StopIteration") ⟨_,hg _ rfl,rfl⟩ isSubtype_stop ?_);exact bN (fP _ (ŏ (ŏ (Heap.SameBut.extBut (ő ..)) _) _))
theorem UG{Q:Value→ax→Prop}(hs:(d==lB)=false)(hd:n7 s.heap d es ep)(fP:Q (.ref s.heap.objs.size) {s with heap:=s.heap.push {cls:=.type "dict_keyiterator",data:=.fields #[.ref d,.int 0 0,.int es.size 0,.int ep 0]}}):a4 (bg prog w) A (Hj (.ref d)) Q E s:=by
 obtain⟨o,bw,ay,nu⟩:=hd;have T0:s.TypeIs (.ref d) "dict":=⟨o,bw,ay.1⟩
 refine aq8 T0 F.slot_dict_iter (vA F.slot_dict_iter T0 F.entry_dict_iter ?_ (F.args_dict_iter_1 _));unfold Builtin.«dict.__iter__» arF;refine aR (aR (wpAny_notOrdered_dict T0 ?_));change a4 _ _ (pure (dO d)) _ _ s;refine bN ?_;change a4 _ _ (Č d >>=_) _ _ s;unfold Č;rw[aX (by rw[hs];exact fL)];refine aR (bN (aR (Õ bw nu (aR (Ö bw nu ?_)))));refine aR (qu ?_);refine bN ⟨_,rfl,"dict_keyiterator",_,⟨_,hg _ rfl,rfl⟩,F.slot_dict_keyiterator_next.lookup,?_⟩;simpa[xY]using fP
end
open PySem PySem.Spec PyProof.Rows ag
section
variable{X:bh}{o e f:Expr}{eL ty nV:TE}{fg fy:Pos}
noncomputable def afU(eL ty nV:TE):TE:=λσ H Q=>eL σ H λx H1=>∃a,x=.ref a∧zx H1 a∧ty σ H1 λy ak=>nV σ ak λz bp=>∃kvs k,y=dz k∧bp a=some (.bX kvs)∧kvs.length<sizeLine∧
 (∀v,cU kvs k=some v→Q v bp)∧(cU kvs k=none→Q z (upd bp a (.bX (eJ kvs k z))))
theorem abu(bw:bJ X o eL)(he:bJ X e ty)(hf:bJ X f nV)(m:M2 X o "setdefault" fg e f fy):bJ X (.Call (.Attribute o "setdefault" fg) [e,f] [] fy) (afU eL ty nV):=by
 intro pins s σ H Q I h;refine Ò m.base m.b9 m.line Wh acQ PySem.F.type_dict_setdefault (bM (bw pins s σ H _ I h) λu s1⟨x,H1,aU,bo,a,ex,d,bT⟩=>?_);subst ex;obtain rfl:u=dO a:=bo;obtain⟨t1,et,_⟩:=IJ aU d;refine⟨t1,et,?_⟩;rw[m.trees];refine IF rfl (DE (yQ (bM (he pins s1 σ H1 _ aU bT) λq8 s2⟨y,ak,bI,bF,c6⟩=>yQ (bM (hf pins s2 σ ak _ bI c6) λfv s3⟨z,bp,c8,tl,kvs,k,eA,bc,lk,q,gz⟩=>IG ?_))));subst eA;obtain⟨Dy,hs,vs,rel,dd⟩:=vw c8.bj bc;have bB:vs.length≤sizeLine:=by rw[←rel.length];exact Dy
 have r0:=rel.val k;refine Af acQ dd.typeIs PySem.F.entry_dict_setdefault (PySem.F.args_dict_setdefault_3 _ _ _) (kt_meets_setdefault (hn X.prog X.w) a (qe bF) hs fv) ⟨vs,dd,bB,λv bA=>?_,λaw h' jZ Bt=>?_⟩
 .rw[bA]at r0;cases ev:cU kvs k with
  |none=>rw[ev]at r0;exact r0.elim
  |some v1=>
   rw[ev]at r0;exact⟨v1,bp,c8.tok _,r0,q v1 ev⟩
 .have v0:cU kvs k=none:=by
   rw[aw]at r0;cases ev:cU kvs k with
   |none=>rfl
   |some v=>rw[ev]at r0;exact r0.elim
  have aq:(eJ kvs k z).length≤sizeLine:=by have:=Gm kvs k z;omega
  have Nk:∃q,h'.get? a=some q:=let⟨q,_,_,bb,_⟩:=jZ;⟨q,bb⟩
  exact⟨z,_,xQ (ob:=.bX (eJ kvs k z)) c8 (by rw[bc];exact kR) Bt Nk (Dc aq hs (rel.put k tl) jZ),tl,gz v0⟩
end
open PySem PySem.Spec PyProof.Rows ag PySem.W
section
variable{prog:bL}{w:bC}{A:c4}{E:Value→ax→Prop}{s:ax}{d:Addr}{ep:Nat}{es:Array vG}
theorem n7.lt{h:Heap}(x:n7 h d es ep):d<h.objs.size:=let⟨_,bw,_⟩:=x;dK bw
theorem n7.at'{h h':Heap}(x:n7 h d es ep)(k:∀o,h.get? d=some o→h'.get? d=some o):n7 h' d es ep:=let⟨o,bw,r⟩:=x;⟨o,k o bw,r⟩
theorem Ĭ(d9:A.handled=none)(I:Addr)(jL:d≠I):t8 prog w A I [I,d] [I] es.size (λi v=>∃e,es[i]?=some e∧v=e.key) (λi h=>h.IsKeyIter I d i es.size ep∧n7 h d es ep)where
 sub:=λb af=>by simp at af;simp[af]
 frame:=λ_ _ _ st aT=>⟨st.1.at λo e=>aT I (by simp) o e,st.2.at' λo e=>aT d (by simp) o e⟩
 item:=λi s Q E ar st fP=>by refine VM st.1 st.2 ar λh' fc cF=>fP _ h' s.toks ⟨es[i],by simp[ar],rfl⟩ ⟨fc,st.2.at' λo e=>(cF.2 d jL).trans e⟩ λb o af e=>(cF.2 b (λz=>af (by simp[z]))).trans e
 done:=λs Q E st fP=>U4 d9 st.1 st.2 (bY _) λh' d8=>fP h' s.toks λb o af e=>d8 b o (λz=>af (by simp[z])) e
 self:=λ_ _ _ _ st fP=>wpAny_pyIter_keyiter st.1 fP
theorem abv(lo:(d==lB)=false):KdlSrc prog w "dict" d d es.size (λi v=>∃e,es[i]?=some e∧v=e.key) (λh=>n7 h d es ep)where
 type:=λ_ hm=>let⟨o,bw,ay,_⟩:=hm;⟨o,bw,ay.1⟩
 there:=λ_ hm=>⟨hm.lt,hm.lt⟩
 keep:=λ_ _ hm aT=>hm.at' λo e=>aT d (.inl rfl) o e
 notList:=by decide
 notTuple:=by decide
 hint:=λ_ _ _ _ hm bb=>kdl_hint_dict (let⟨o,bw,ay,_⟩:=hm;⟨o,bw,ay.1⟩) bb
 iter:=λ_ s d9 hm=>⟨_,_,(λ_ _ bb=>UG lo hm bb),Ĭ d9 _ (en hm.lt),⟨⟨_,hg _ rfl,rfl,rfl⟩,hm.at' λo e=>dJ _ e⟩⟩
theorem ĭ{vs:List Value}{κ:wQ}{lt:Nat→Nat→Bool}{Q:Value→ax→Prop}(lo:(d==lB)=false)(d9:A.handled=none)(hm:n7 s.heap d es ep)(bA:vs=es.toList.map (·.key))(pN:vs.length<64)(aT:2≤vs.length→∀s1:ax,l6 s.heap s1.heap→∀Q:wQ→ax→Prop,Q κ s1→a4 (bg prog w) A.in1.in1 (O4 vs.toArray) Q (λ_ _=>False) s1)(aI:2≤vs.length→∀s1:ax,l6 s.heap s1.heap→∀i j C,i<vs.length→j<vs.length→C (lt i j) s1→BK prog w A.in1.in1 κ vs i j C s1)(h:∀ai D h' t c,l6 s.heap ai→ai.objs.size≤D→l6 ai h'→h'.get? D=some (iG "list" (wD (hq gB lt vs)) c)→Q (.ref D) {s with heap:=h',toks:=t}):
  a4 (bg prog w) A (call (.builtin "sorted") ([.ref d]:List Value)) Q E s:=by
 have big:vs.length≤sizeLine:=by rw[tp];omega
 have Nl:es.size=vs.length:=by rw[bA,a',DB]
 refine ē kind_sorted plain_sorted entry_sorted (args_sorted1 (.ref d)) ?_;unfold Builtin.«sorted»;refine aR (m:=checkCount "sorted" 1 1 _) (bN ?_);refine aR (kdu_collect (A:=A.in1) (abv (ep:=ep) (es:=es) lo) d9 hm (by rw[Nl];exact big) λai aP acc fe MX=>?_);have bc:acc.toList=vs:=by
  apply Jr;intro j;rw[bA,cL];by_cases bq:j<es.size
  .have YU:j<acc.size:=by rw[MX.1];exact bq
   obtain⟨e,az,aE⟩:=MX.2 j acc[j] (by simp[YU]);rw[Iz,Iz,az,TB YU];exact iP some aE
  .rw[Iz,Iz,Iy (by rw[MX.1];omega),Iy (by omega)];rfl
 rw[bc];refine aR (Ü ?_ big);have bO:(ai.push (iG "list" vs.toArray 0)).get? ai.objs.size=some (iG "list" vs.toArray 0):=hg _ rfl;have iH:l6 s.heap (ai.push (iG "list" vs.toArray 0)):=λb o q=>dJ _ (fe b o q);have n2:∀h',rT ai.objs.size (ai.push (iG "list" vs.toArray 0)) h'→l6 s.heap h':=λh' x b o q=>x b o (en (dK (fe b o q))) (iH b o q);have n3:∀h',rT ai.objs.size (ai.push (iG "list" vs.toArray 0)) h'→l6 ai h':=λh' x b o q=>x b o (en (dK q)) (dJ _ q);refine aR (lF (vA ap4 ⟨_,bO,rfl⟩ alS ?_ (ajb _)));refine U3 (s:={s with heap:=ai.push (iG "list" vs.toArray 0),toks:=aP}) (κ:=κ) (lt:=lt) bO pN (λaj s1 x=>aT aj s1 (n2 _ x)) (λaj s1 x=>aI aj s1 (n2 _ x)) λh' c x aG=>?_;exact⟨_,rfl,bN ⟨_,rfl,h ai _ h' _ c fe (bY _) (n3 _ x) aG⟩⟩
end
open PySem PySem.Spec PyProof.Rows ag PySem.W
section
variable{prog:bL}{w:bC}{A:c4}{E:Value→ax→Prop}{s:ax}
theorem aep{a b:Addr}{lZ nB mz oH:Int}{t1 et kJ mZ:Tok}{Q:Value→ax→Prop}(ay:IsTup s.heap a #[.int lZ t1,.int nB et])(cW:IsTup s.heap b #[.int mz kJ,.int oH mZ])(cj:A.units<cLine)(h:Q (.bool (if lZ=mz then decide (nB≤oH)else decide (lZ≤mz))) s):a4 (bg prog w) A (hQ .LtE (.ref a) (.ref b)) Q E s:=by
 obtain⟨aph,Y5,amJ,na,amM⟩:=ay;obtain⟨ob,pU,amK,nb,jh⟩:=cW;have pq:s.TypeIs (.ref a) "tuple":=⟨aph,Y5,amJ⟩
 have ez:s.TypeIs (.ref b) "tuple":=⟨ob,pU,amK⟩
 show a4 _ _ (QK .LtE (.ref a) (.ref b)) _ _ _;refine wpAny_richCompare_same_room (op:=.LtE) pq ez F.slot_tuple_le (vA F.slot_tuple_le pq F.entry_tuple_le ?_ (F.args_tuple_le_2 _ _)) cj;show a4 _ _ (Ga (.ref b) (.type "tuple") >>=_) _ _ s;refine aR (aq2 ez isSubtype_tuple_tuple ?_);simp only[TX,o6,if_false];refine aR (ara Y5 amM ?_);refine aR (ara pU jh ?_);refine aR ?_;simp only[List.zip_cons_cons,List.zip_nil_left,List.forIn_cons,List.forIn_nil];refine aR (aR (Ø ?_));by_cases az:lZ=mz
 .rw[a8 az]at h;have gC:(lZ==mz)=true:=by simp[az]
  rw[gC];simp only[TX,o6,if_false];refine bN (aR (aR (Ø ?_)));by_cases aE:nB=oH
  .have gk:(nB==oH)=true:=by simp[aE]
   rw[gk];simp only[TX,o6,if_false];refine bN (bN ?_);refine bN ⟨_,rfl,(λz=>nomatch z),?_⟩;rw[cB (by omega)]at h;exact h
  .have gk:(nB==oH)=false:=by simp[aE]
   rw[gk];simp only[Ċ,if_true];refine aR (Sm (aR ?_));show a4 _ _ (hQ .LtE (ko nB et) (ko oH mZ)) _ _ _;exact le_int (aR (bN (bN (bN (bN ⟨_,rfl,(λz=>nomatch z),h⟩)))))
 .rw[aX az]at h;have gC:(lZ==mz)=false:=by simp[az]
  rw[gC];simp only[Ċ,if_true];refine aR (Sm (aR ?_));show a4 _ _ (hQ .LtE (ko lZ t1) (ko mz kJ)) _ _ _;exact le_int (aR (bN (bN (bN (bN ⟨_,rfl,(λz=>nomatch z),h⟩)))))
end
section
variable{X:bh}
theorem afV(cj:X.A.units<cLine):fZ X (hQ .LtE) (λx y H Q=>∃a b lZ nB mz oH,x=.ref a∧y=.ref b∧b1 X.K H a [.int lZ,.int nB]∧b1 X.K H b [.int mz,.int oH]∧Q (.aV (if lZ=mz then decide (nB≤oH)else decide (lZ≤mz))) H):=by
 intro pins s σ H x y v u Q I bo bF h;obtain⟨a,b,lZ,nB,mz,oH,rfl,rfl,aI,af,q⟩:=h;cases bo;cases bF;obtain⟨xs,cJ,t1,_⟩:=I.tuple aI;obtain⟨ys,dr,et,_⟩:=I.tuple af;cases cJ with
 |cons fb cJ=>
  cases cJ with
  |cons e8 cJ=>
   cases cJ;cases dr with
   |cons bT dr=>
    cases dr with
    |cons c6 dr=>
     cases dr;obtain⟨_,rfl⟩:=fb;obtain⟨_,rfl⟩:=e8;obtain⟨_,rfl⟩:=bT;obtain⟨_,rfl⟩:=c6;exact aep t1 et cj (fF I q rfl)
end
end cq
namespace fq
open PySem ag cq aN
noncomputable abbrev dq:=Int×Nat
noncomputable def lx:aN.a5:=⟨0,0,0,0⟩
noncomputable def rP(hs:List (List Nat))(ds:List aN.a5)(r:Nat):Str:=S (hs.getD (ds.getD r lx).a [])
noncomputable def mW(hs:List (List Nat))(ds:List aN.a5)(r:Nat):Str:=S (hs.getD (ds.getD r lx).b [])
noncomputable def nR(ds:List aN.a5)(r:Nat):Int:=(ds.getD r lx).t
noncomputable def kH(ds:List aN.a5)(r:Nat):Int:=(ds.getD r lx).m
noncomputable def stepK(hs:List (List Nat))(ds:List aN.a5)(k:dq):Step:=⟨k.1,some k.2,mW hs ds k.2,k.1+nR ds k.2⟩
noncomputable def kD(st:Step)(ns:List Nat)(sss:List (List Step)):List (List Step):=sss.mapIdx λi ss=>if i∈ns then ss++[st]else ss
theorem BW(st:Step)(ns:List Nat)(sss:List (List Step)):(kD st ns sss).length=sss.length:=by unfold kD;rw[List.length_mapIdx]
theorem pI(st:Step)(ns:List Nat)(sss:List (List Step))(i:Nat):(kD st ns sss)[i]?=(sss[i]?).map λss=>if i∈ns then ss++[st]else ss:=by unfold kD;rw[List.getElem?_mapIdx]
theorem aau(st:Step)(sss:List (List Step)):kD st [] sss=sss:=by apply Jr;intro i;rw[pI];simp
theorem ĥ(st:Step){ns:List Nat}{n:Nat}(h:n∉ns){sss:List (List Step)}{ss:List Step}(e:sss[n]?=some ss):kD st (ns++[n]) sss=(kD st ns sss).set n (ss++[st]):=by
 apply Jr;intro i;rw[pI,List.getElem?_set,pI,BW];by_cases ar:n=i
 .subst ar;have aq:=(eR.mp e).1;rw[a8 rfl,a8 aq,e];simp
 .rw[aX ar];have:(i∈ns++[n])↔i∈ns:=by rw[hv,gK];exact⟨λz=>z.elim id λw=>bt w.symm ar,.inl⟩
  simp only[this]
noncomputable def mask(H:aa)(ts:List Addr):aa:=λb=>if b∈ts then none else H b
theorem gD{H:aa}{ts:List Addr}{b:Addr}{o:d1}(e:H b=some o)(n:b∉ts):mask H ts b=some o:=by unfold mask;rw[aX n];exact e
theorem CB{H:aa}{ts:List Addr}{b:Addr}(h:b∈ts):mask H ts b=none:=a8 h
theorem xq(H:aa)(ts:List Addr):aH (mask H ts) H:=λb o e=>by
 unfold mask at e;split at e
 .cases e
 .exact e
noncomputable def gO(H:aa)(a:Addr)(b:dq×List Nat):Prop:=∃c,H a=some (.tup [.int b.1.1,.int b.1.2,.ref c])∧H c=some (.tup (b.2.map λn:Nat=>V.int n))
theorem gO.same{H U:aa}{a:Addr}{b:dq×List Nat}(h:gO H a b)(aA:aH H U):gO U a b:=let⟨c,ai,aj⟩:=h;⟨c,aA _ _ ai,aA _ _ aj⟩
structure mE(C:Addr)(H:aa)(x n g st:Addr)(gs:List Str)(ls:List Addr):Prop where
 ins:∃ah,H x=some (.ins C ah (Dg n g st))
 goals:H g=some (.lst (gs.map V.str))
 steps:H st=some (.lst (aK ls))
theorem mE.same{C:Addr}{H U:aa}{x n g st:Addr}{gs:List Str}{ls:List Addr}(h:mE C H x n g st gs ls)(aA:aH H U):mE C U x n g st gs ls:=
 let⟨ah,e⟩:=h.ins;⟨⟨ah,aA _ _ e⟩,aA _ _ h.goals,aA _ _ h.steps⟩
theorem mE.at_{C:Addr}{H:aa}{x n g st:Addr}{gs:List Str}{ls:List Addr}{sss:List (List Step)}(h:mE C H x n g st gs ls)(e:bH (fE H) ls sss):WalkAt C H x n g st gs ls sss:=⟨h.ins,h.goals,h.steps,e⟩
theorem fE.same{H U:aa}{l:Addr}{ss:List Step}(h:fE H l ss)(aA:aH H U):fE U l ss:=let⟨ts,a,b⟩:=h;⟨ts,aA _ _ a,b.same aA⟩
theorem BX{H U:aa}{ls:List Addr}{sss:List (List Step)}(h:bH (fE H) ls sss)(aA:aH H U):bH (fE U) ls sss:=bH.f_ h λ_ _ e=>e.same aA
theorem WalkAt.same{C:Addr}{H U:aa}{x n g st:Addr}{gs:List Str}{ls:List Addr}{sss:List (List Step)}(h:WalkAt C H x n g st gs ls sss)(aA:aH H U):WalkAt C U x n g st gs ls sss:=
 let⟨ah,e⟩:=h.ins;⟨⟨ah,aA _ _ e⟩,aA _ _ h.goals,aA _ _ h.steps,BX h.each aA⟩
theorem TL{H U:aa}{l:Addr}{oW:List Step}(new:fE U l oW)(old:∀oJ ss,oJ≠l→fE H oJ ss→fE U oJ ss):∀{ls:List Addr}{sss:List (List Step)}{n:Nat},bH (fE H) ls sss→ls.Nodup→ls[n]?=some l→bH (fE U) ls (sss.set n oW)
 |_,_,n,.nil,_,e=>by simp at e
 |a::ls,s0::sss,0,.cons r t,aF,e=>by
  simp only[aba,acy]at e;subst e;rw[hL]at aF;refine .cons new ?_;have:∀{ms:List Addr}{vn:List (List Step)},bH (fE H) ms vn→a∉ms→bH (fE U) ms vn:=λ{ms vn}p=>by
   induction p with
   |nil=>exactλ_=>.nil
   |cons r t a7=>exactλh=>.cons (old _ _ (λz=>h (by rw[z];exact .head _)) r) (a7 λz=>h (.tail _ z))
  exact this t aF.1
 |a::ls,s0::sss,n+1,.cons r t,aF,e=>by
  rw[hL]at aF;have bR:ls[n]?=some l:=by simpa using e
  exact .cons (old _ _ (λz=>aF.1 (by rw[z];exact dY bR)) r) (TL new old t aF.2 bR)
section
variable{P:bL}{w:bC}{K:aS}{mg:Str→Option Value}{base:Heap}
inductive abw(C:Addr)(vs:(List ag.V))(H:aa)(Q:a6)(bl:b6):Prop where
 |mk (x aZ a3:Addr) (xs ys:List ag.V) (k:Int) (v:ag.V) (bW:vs=[.ref x,.int k]) (bG:ib C H x aZ a3 xs ys) (b4:0≤k) (cM:k<ys.length) (d3:ag.gj ys k=some v) (fK:Q v H)
noncomputable def H0(C:Addr):b8:=λvs H Q bl=>abw C vs H Q bl
theorem abx{C f:Addr}{fd:b5}(F:a_ K "road" "Net.road" rm f fd)(B:fo mg)(ft:rV K C):aB P w K mg base aM 1 f fd ["self","number"] (H0 C):=by
 refine F.ok U0 (λvs H Q E h=>?_) (λcdv A outer s H vs Q E au h=>?_)
 .obtain⟨x,aZ,a3,xs,ys,k,v,rfl,_⟩:=h;rfl
 .obtain⟨x,aZ,a3,xs,ys,k,v,rfl,n,h0,ai,bA,q⟩:=h;obtain⟨ah,ay⟩:=n.ins;refine⟨_,(a9 (eV (jH (xB mB ru ba (ae 1) (d7 h6 (by rfl) B.len hR (av (dT (ae 0) (by rfl)) aJ)))) (bu Hk) eT)
   (bu (cO (b_ h9 (dT (ae 0) (by rfl)) (ae 1) (λ_ _=>rfl))))),?_⟩
  refine⟨_,rfl,_,_,rfl,rfl,_,rfl,?_⟩;refine eE (cB h0) ⟨_,rfl,x,C,ah,_,_,rfl,ay,ft.cl,ft.il,rfl,a3,_,rfl,.inl (aO.of n.qi),_,_,rfl,rfl,_,rfl,?_⟩;refine yk ai ?_;exact⟨_,rfl,x,C,ah,_,_,rfl,ay,ft.cl,ft.il,rfl,_,rfl,a3,_,_,_,rfl,rfl,aO.of n.qi,bA,q⟩
inductive aeq(C aC:Addr)(vs:(List ag.V))(H:aa)(Q:a6)(bl:b6):Prop where
 |mk (bQ:aa) (x n g st aZ a3 fi:Addr) (gs:List Str) (ls rs:List Addr) (sss:List (List Step)) (hs:List (List Nat)) (ds:List aN.a5) (b:dq×List Nat) (bW:vs=[.ref x,.ref fi]) (bG:aH bQ H) (b4:mE C bQ x n g st gs ls) (cM:bH (fE H) ls sss) (d3:ls.Nodup) (fK:(∀l∈ls,bQ l=none)) (iZ:ib aC bQ n aZ a3 (dn hs) (aK rs)) (m5:gL bQ hs rs ds) (qy:gO bQ fi b) (yt:b.1.2<ds.length) (Ik:b.2.Nodup) (ý:(∀i∈b.2,i<sss.length)) (arx:(∀ss∈sss,ss.length≤100)) (atR:∀U,aH bQ U→bH (fE U) ls (kD (stepK hs ds b.1) b.2 sss)→Q .bD U)
noncomputable def Du(C aC:Addr):b8:=λvs H Q bl=>aeq C aC vs H Q bl
noncomputable abbrev ww:Stmt:=fz (top 28) 2
theorem I1:cT ["self","bag","road","number"] ["self","bag"] (cy ww):=⟨rfl,rfl,rfl,by decide+kernel,rfl,by decide+kernel,by decide+kernel⟩
theorem aer{C aC f f1:Addr}{fd cg:b5}(F:a_ K "send" "Walk.send" ww f fd)(cm:mC K C)(fx:d_ K aC)(ks:cR K aC "road" "Net.road" rm ["self","number"] f1 cg)(uS:aB P w K mg base aM 1 f1 cg ["self","number"] (H0 aC)):
  aB P w K mg base aM 2 f fd ["self","bag"] (Du C aC):=by
 refine F.ok I1 (λvs H Q E h=>?_) (λcdv A outer s H vs Q E au h=>?_)
 .obtain⟨bQ,x,n,g,st,aZ,a3,fi,gs,ls,rs,sss,hs,ds,b,rfl,_⟩:=h;rfl
 .obtain⟨bQ,x,n,g,st,aZ,a3,fi,gs,ls,rs,sss,hs,ds,b,rfl,cF,W,each,aF,fr,N,R,sO,nx,ZK,bP,b9,q⟩:=h;obtain⟨ah,ay⟩:=W.ins;obtain⟨gw,aw⟩:=N.ins;obtain⟨c,g6,hA⟩:=sO;have eK:=R.len;refine⟨_,(a9 (c9 (i:=2) I1.aF rfl (cu rfl) (e3 (dT (ae 0) (by rfl)) fx ks.dQ uS (au.mono (by decide)) ks.bd .nil cn (av (b_ dE (ae 1) ba (λ_ _=>rfl)) aJ)))
   (bu (jf iL rfl (Ig (b_ dE (ae 1) ba (λ_ _=>rfl))) (d2 (i:=3) I1.aF rfl (cu rfl))
    (bu (gm (qc qK se sf pG (b_ h9 (dT (ae 0) (by rfl)) (ae 3) (λ_ _=>rfl)) (av (nE (av (b_ dE (ae 1) ba (λ_ _=>rfl)) (av (b_ dE (ae 1) ba (λ_ _=>rfl)) (av (b_ dE (ae 2) ba (λ_ _=>rfl)) (av (cS hS (b_ dE (ae 1) ba (λ_ _=>rfl)) (b_ dE (ae 2) ba (λ_ _=>rfl))) aJ))))) aJ))))))),?_⟩
  obtain⟨r,d4⟩:∃r,rs[b.1.2]?=some r:=⟨_,ct (by omega)⟩
  obtain⟨d,de,_,hd⟩:=R.get d4;have e0:ds.getD b.1.2 lx=d:=nN de;refine⟨_,rfl,x,C,ah,_,_,rfl,cF _ _ ay,cm.cl,cm.nn,rfl,n,gw,_,rfl,cF _ _ aw,rfl,_,rfl,fi,_,_,_,rfl,rfl,b1.of (cF _ _ g6),rfl,n,aZ,a3,_,_,_,_,rfl,N.same cF,(by omega),(by have:=eb rs;omega),(ja (by unfold aK;rw[cL,d4];rfl)),?_⟩;refine⟨_,rfl,fi,_,_,_,rfl,rfl,b1.of (cF _ _ g6),rfl,c,rfl,?_⟩;refine⟨⟨_,b1.of (cF _ _ hA)⟩,?_⟩;have Mg:nS hs d=[.str (rP hs ds b.1.2),.str (mW hs ds b.1.2),.int (nR ds b.1.2),.int (kH ds b.1.2)]:=by unfold nS rP mW nR kH;rw[e0]
  rw[Mg]at hd;refine UD (K:=K) (a:=c) (xs:=b.2.map λn:Nat=>V.int n) (λj σ dX=>∃kh,σ=[some (.ref x),some (.ref fi),some (.ref r),kh]∧aH bQ dX∧bH (fE dX) ls (kD (stepK hs ds b.1) (b.2.take j) sss))
   ⟨none,rfl,cF,by rw[VD,aau];exact each⟩ (λj σ dX _⟨_,_,h,_⟩=>b1.of (h _ _ hA)) ?_ ?_
  .rintro j z σ dX di ⟨kh,rfl,gd,ec⟩;rw[cL]at di;obtain⟨i,eF,rfl⟩:=ew.mp di;have ar:=bP i (dY eF);obtain⟨ss,es⟩:∃ss,sss[i]?=some ss:=⟨_,ct ar⟩
   have ZQ:i∉b.2.take j:=λz=>by
    have bq:=(eR.mp eF).1;have aE:=abm j b.2;rw[Jp bq]at aE;rw[←aE,JC]at ZK;have dj:b.2[j]=i:=by rw[ct bq]at eF;exact hM eF
    exact ZK.2.2 i z i (by rw[dj];exact .head _) rfl
   have ga:(kD (stepK hs ds b.1) (b.2.take j) sss)[i]?=some ss:=by rw[pI,es];simp[ZQ]
   have ln:=hO ec;obtain⟨l,f7⟩:∃l,ls[i]?=some l:=⟨_,ct (by rw[BW]at ln;omega)⟩
   obtain⟨ap6,Au,ts,aq,cY⟩:=bH.get ec f7;rw[ga]at Au;cases Au;have MY:=b1.of (K:=K) (gd _ _ g6);have YG:=b1.of (K:=K) (gd _ _ hd);have c0:=cY.len;rw[a']at c0;have fs:=b9 ss (dY es);have er:(aK ts).length<sizeLine:=eZ (by rw[eb];omega);refine⟨_,rfl,x,C,ah,_,_,rfl,gd _ _ ay,cm.cl,cm.ns,rfl,_,rfl,st,_,_,_,rfl,rfl,aO.of (gd _ _ W.steps),(show ag.gj (aK ls) (i:Int)=some (.ref l)from ja (by unfold aK;rw[cL,f7];rfl)),.inl ⟨rfl,_,aO.of aq⟩,?_⟩;refine⟨_,rfl,fi,_,_,_,rfl,rfl,MY,rfl,_,rfl,fi,_,_,_,rfl,rfl,MY,rfl,_,rfl,r,_,_,_,rfl,rfl,YG,rfl,_,rfl,fi,_,_,_,rfl,rfl,MY,rfl,_,rfl,r,_,_,_,rfl,rfl,YG,rfl,_,_,rfl,rfl,(by show 4≤sizeLine;decide),λt ee=>?_⟩;have CV:=cA (o:=.tup [V.int b.1.1,V.int b.1.2,V.str (mW hs ds b.1.2),V.int (b.1.1+nR ds b.1.2)]) ee;have nv:=CV _ _ aq;refine⟨l,_,_,rfl,rfl,nv,er,_,rfl,?_,?_⟩
   .exact i8 (fr l (dY f7)) (gd.trans CV)
   .have aP:b.2.take (j+1)=b.2.take j++[i]:=by rw[mf,eF];rfl
    rw[aP,ĥ _ ZQ es];refine TL ?_ (λoJ oW nl h=>?_) ec aF f7
    .refine⟨ts++[t],by rw[aQ];unfold aK;rw[eC];rfl,?_⟩;rw[eC];refine Paired.snoc ?_ ((cY.same CV).upd nv (by intro d z;cases z));show upd _ l _ t=some (.tup (qo (stepK hs ds b.1)));rw[aD (b2 aq ee).symm,aQ];rfl
    .obtain⟨mY,ai,aj⟩:=h;exact⟨mY,by rw[aD nl];exact CV _ _ ai,(aj.same CV).upd nv (by intro d z;cases z)⟩
  .rintro σ dX ⟨kh,rfl,gd,ec⟩;refine q dX gd ?_;rw[a',mh]at ec;exact ec
end
open PySem ag cq aN
section
variable{P:bL}{w:bC}{K:aS}{mg:Str→Option Value}{base:Heap}
noncomputable abbrev yy:Stmt:=fz (top 28) 3
theorem afW:cT ["self","number"] ["self","number"] (cy yy):=⟨rfl,rfl,rfl,by decide+kernel,rfl,by decide+kernel,by decide+kernel⟩
theorem aes{C f:Addr}{fd:b5}(F:a_ K "goal" "Walk.goal" yy f fd)(cm:mC K C):aB P w K mg base aM 1 f fd ["self","number"] (IV C):=by
 refine F.ok afW (λvs H Q E h=>?_) (λcdv A outer s H vs Q E au h=>?_)
 .obtain⟨x,n,g,st,gs,ls,sss,k,y,rfl,_⟩:=h;rfl
 .obtain⟨x,n,g,st,gs,ls,sss,k,y,rfl,W,eA,q⟩:=h;obtain⟨ah,ay⟩:=W.ins;refine⟨_,(bu (cO (b_ h9 (dT (ae 0) (by rfl)) (ae 1) (λ_ _=>rfl)))),?_⟩;exact⟨_,rfl,x,C,ah,_,_,rfl,ay,cm.cl,cm.hD,rfl,_,rfl,g,_,_,_,rfl,rfl,aO.of W.goals,ja (by rw[cL,eA];rfl),q⟩
end
open PySem ag cq aN
end fq
namespace aN
noncomputable def jN(c:Int):Int:=c*1099087573%10000000000037
noncomputable def l7(n:Nat)(c:Int):Int:=jN c%n
noncomputable def p7(n:Nat)(c:Int):Int:=(l7 n c+1+jN c/n%((n:Int)-1))%n
noncomputable def rx(c:Int):Int:=if jN c/27000%5=0 then 1+jN c/135000%10 ^ 9 else 1+jN c/9000%3
noncomputable def GG(n:Nat)(c:Int):a5:=⟨(l7 n c).toNat,(p7 n c).toNat,1+jN c/1000%9,rx c⟩
theorem afX{n:Nat}(h:1<n)(c:Int):(GG n c).Ok n:=by
 have gC:0≤l7 n c:=kO _ (by omega);have gk:l7 n c<n:=lJ _ (by omega);have az:0≤p7 n c:=kO _ (by omega);have aE:p7 n c<n:=lJ _ (by omega);have kV:0≤jN c/n%((n:Int)-1):=kO _ (by omega);have kW:jN c/n%((n:Int)-1)<(n:Int)-1:=lJ _ (by omega);have ne:l7 n c≠p7 n c:=by
  intro z;have dj:p7 n c=(l7 n c+1+jN c/n%((n:Int)-1))%n:=rfl;generalize jN c/n%((n:Int)-1)=x at kV kW dj;by_cases bP:l7 n c+1+x<n
  .rw[Ji (by omega) bP]at dj;omega
  .have dW:(l7 n c+1+x)%(n:Int)=(l7 n c+1+x-n)%(n:Int):=by rw[Š]
   rw[dW,Ji (by omega) (by omega)]at dj;omega
 have t1:0≤jN c/1000%9:=kO _ (by decide);have et:jN c/1000%9<9:=lJ _ (by decide);have m:1≤rx c∧rx c≤1000000000:=by
  unfold rx;split
  .have apk:(10:Int) ^ 9=1000000000:=by decide
   rw[apk];omega
  .omega
 exact⟨by show(l7 n c).toNat < n;omega,by show(p7 n c).toNat < n;omega,by show(l7 n c).toNat≠(p7 n c).toNat;omega,by show 1≤1+_∧1+_≤9;omega,m⟩
end aN
namespace fq
open PySem ag cq aN
inductive afY(vs:(List ag.V))(H:aa)(Q:a6)(bl:b6):Prop where
 |mk (c:Int) (a:Addr) (hs:List (List Nat)) (bW:vs=[.int c,.ref a]) (bG:H a=some (.lst (dn hs))) (b4:2≤hs.length) (cM:hs.length≤12) (d3:∀r,H r=none→Q (.ref r) (upd H r (.tup (nS hs (GG hs.length c)))))
noncomputable def JF:b8:=λvs H Q bl=>afY vs H Q bl
theorem UH{t:eY}{D:Ends}{σ:ag.St}{H:aa}(P:Ends→Prop)(ai:P D)(aj:∀cG,P cG→t cG σ H):t D σ H:=aj D ai
section
variable{P:bL}{w:bC}{K:aS}{mg:Str→Option Value}{base:Heap}
noncomputable abbrev zG:Stmt:=top 61
noncomputable abbrev aia:List Str:=["_law_cell","_law_names","_law_n","_law_many","_law_first","_law_last","_law_room"]
theorem vB:cT aia ["_law_cell","_law_names"] (cy zG):=⟨rfl,rfl,rfl,by decide+kernel,rfl,by decide+kernel,by decide+kernel⟩
theorem afZ{f:Addr}{fd:b5}(F:a_ K "_law_road" "_law_road" zG f fd)(B:fo mg):aB P w K mg base aM 1 f fd ["_law_cell","_law_names"] JF:=by
 refine F.ok vB (λvs H Q E h=>?_) (λcdv A outer s H vs Q E au h=>?_)
 .obtain⟨c,a,hs,rfl,_⟩:=h;rfl
 .obtain⟨c,a,hs,rfl,aI,aj,sM,q⟩:=h;refine⟨_,(a9 (c9 (i:=2) vB.aF rfl (cu rfl) (cS je (cS rh (ae 0) ba) ba))
   (a9 (c9 (i:=3) vB.aF rfl (cu rfl) (d7 h6 (by rfl) B.len hR (av (ae 1) aJ)))
   (a9 (c9 (i:=4) vB.aF rfl (cu rfl) (cS je (ae 2) (ae 3)))
   (a9 (c9 (i:=5) vB.aF rfl (cu rfl) (cS je (cS hS (cS hS (ae 4) ba) (cS je (cS oG (ae 2) (ae 3)) (cS x2 (ae 3) ba))) (ae 3)))
   (a9 (c9 (i:=6) vB.aF rfl (cu rfl) (cS hS ba (cS je (cS oG (ae 2) ba) ba)))
   (a9 (eV (f3 l2 (cS je (cS oG (ae 2) ba) ba) ba (eh _)) (bu (c9 (i:=6) vB.aF rfl (cu rfl) (cS hS ba (cS je (cS oG (ae 2) ba) (cS Vi ba ba))))) eT)
   (bu (cO (nE (av (b_ h9 (ae 1) (ae 4) (λ_ _=>rfl)) (av (b_ h9 (ae 1) (ae 5) (λ_ _=>rfl)) (av (cS hS ba (cS je (cS oG (ae 2) ba) ba)) (av (ae 6) aJ))))))))))))),?_⟩
  have aq:=Cx hs;have gC:0≤l7 hs.length c:=kO _ (by omega);have gk:l7 hs.length c<hs.length:=lJ _ (by omega);have az:0≤p7 hs.length c:=kO _ (by omega);have aE:p7 hs.length c<hs.length:=lJ _ (by omega);refine⟨_,rfl,_,_,rfl,rfl,.inr ⟨by decide,by decide⟩,_,_,rfl,rfl,(by show(0:Int)<10000000000037;decide),?_⟩;refine⟨_,rfl,a,_,rfl,.inl (aO.of aI),?_⟩;rw[aq];refine⟨_,rfl,_,rfl,_,_,rfl,rfl,(by show(0:Int)<(hs.length:Int);omega),?_⟩;refine⟨_,rfl,_,_,rfl,rfl,_,rfl,_,rfl,_,_,rfl,rfl,⟨by show(0:Int)<(hs.length:Int);omega,by show(hs.length:Int)<1073741824;omega⟩,_,rfl,_,_,rfl,rfl,_,_,rfl,rfl,(by show(0:Int)<(hs.length:Int)-1;omega),_,_,rfl,rfl,_,rfl,_,_,rfl,rfl,(by show(0:Int)<(hs.length:Int);omega),?_⟩;refine⟨_,rfl,_,_,rfl,rfl,⟨by decide,by decide⟩,_,_,rfl,rfl,(by show(0:Int)<3;decide),_,_,rfl,rfl,?_⟩;dsimp only[g4,kd];refine UH (t:=Ej _ _ _) (λcG=>cG.cf [some (.int c),some (.ref a),some (.int (jN c)),some (.int hs.length),some (.int (l7 hs.length c)),some (.int (p7 hs.length c)),some (.int (rx c))] H) ?_ λcG rest=>?_
  .refine⟨_,rfl,_,rfl,a,_,_,_,rfl,rfl,aO.of aI,Ii gC gk,_,rfl,_,rfl,a,_,_,_,rfl,rfl,aO.of aI,Ii az aE,_,rfl,_,_,rfl,rfl,⟨by decide,by decide⟩,_,_,rfl,rfl,(by show(0:Int)<9;decide),_,_,rfl,rfl,_,rfl,(by show 4≤sizeLine;decide),q⟩
  .refine⟨_,rfl,_,_,rfl,rfl,⟨by decide,by decide⟩,_,_,rfl,rfl,(by show(0:Int)<5;decide),rfl,_,rfl,?_⟩;by_cases dW:jN c/27000%5=0
   .refine eE (by show decide (V.int (jN c/27000%5)=V.int 0)=true;rw[dW];decide) ?_;refine⟨_,rfl,_,_,rfl,rfl,⟨by decide,by decide⟩,_,_,rfl,rfl,⟨by decide,by decide,by decide⟩,_,_,rfl,rfl,(by show(0:Int)<10 ^ (9:Int).toNat;decide),_,_,rfl,rfl,?_⟩;have qS:rx c=1+jN c/135000%10 ^ (9:Int).toNat:=by unfold rx;rw[a8 dW];rfl
    rw[qS]at rest;exact rest
   .refine fO (by show decide (V.int (jN c/27000%5)=V.int 0)=false;exact dP λz=>dW (V.int.inj z)) ?_;have qS:rx c=1+jN c/9000%3:=by unfold rx;rw[aX dW]
    rw[qS]at rest;exact rest
end
open PySem ag cq aN
theorem HQ(i j:Int):decide (V.int i=V.int j)=decide (i=j):=by
 by_cases h:i=j
 .rw[cB h,cB (iP V.int h)]
 .rw[dP h,dP λz=>h (V.int.inj z)]
noncomputable def ahM(n:Int):PyData→Bool
 |.tuple ds=>decide ((ds.length:Int)=n)
 |_=>false
inductive aav(vs:(List ag.V))(H:aa)(Q:a6)(bl:b6):Prop where
 |mk (v:ag.V) (d:PyData) (bW:vs=[v]) (bG:dD H v d) (b4:Q (.aV (abt d)) H)
noncomputable def Se:b8:=λvs H Q bl=>aav vs H Q bl
inductive ĵ(vs:(List ag.V))(H:aa)(Q:a6)(bl:b6):Prop where
 |mk (v:ag.V) (d:PyData) (lo ar:Int) (bW:vs=[v,.int lo,.int ar]) (bG:dD H v d) (b4:Q (.aV (Cy lo ar d)) H)
noncomputable def RA:b8:=λvs H Q bl=>ĵ vs H Q bl
inductive aaw(vs:(List ag.V))(H:aa)(Q:a6)(bl:b6):Prop where
 |mk (v:ag.V) (d:PyData) (n:Int) (bW:vs=[v,.int n]) (bG:dD H v d) (b4:Q (.aV (ahM n d)) H)
noncomputable def Sf:b8:=λvs H Q bl=>aaw vs H Q bl
inductive Ķ(vs:(List ag.V))(H:aa)(Q:a6)(bl:b6):Prop where
 |mk (a:Addr) (hs:List PyData) (v u:ag.V) (d e:PyData) (bW:vs=[.ref a,v,u]) (bG:dD H (.ref a) (.list hs)) (b4:dD H v d) (cM:dD H u e) (d3:d.depth≤60) (fK:e.depth≤60) (iZ:Q (.aV (jE hs d e)) H)
noncomputable def Hc:b8:=λvs H Q bl=>Ķ vs H Q bl
theorem RB{ds:List PyData}{d:PyData}(h:d∈ds):d.depth≤t2 ds:=by
 induction ds with
 |nil=>cases h
 |cons x r a7=>
  simp only[t2];rcases dx.mp h with rfl|h
  .exact Nat.le_max_left _ _
  .exact el (a7 h) (Nat.le_max_right _ _)
section
variable{P:bL}{w:bC}{K:aS}{mg:Str→Option Value}{base:Heap}
theorem aax{f:Addr}{fd:b5}(F:a_ K "is_whole" "is_whole" td f fd)(B:fo mg):aB P w K mg base aM 1 f fd ["thing"] Se:=by
 refine F.ok UW (λvs H Q E h=>?_) (λcdv A outer s H vs Q E au h=>?_)
 .obtain⟨v,d,rfl,_⟩:=h;rfl
 .obtain⟨v,d,rfl,h,q⟩:=h;refine⟨_,(bu (cO (gN (d7 pL (by rfl) B.isinstance nf (av (ae 0) (av (p4 (by rfl) B.int IK) aJ))) (j4 (Vg (d7 pL (by rfl) B.isinstance nf (av (ae 0) (av (p4 (by rfl) B.bool Uo) aJ)))))))),?_⟩;refine⟨_,rfl,_,_,_,_,_,rfl,⟨rfl,h.ty,DQ K (afb d)⟩,_,rfl,?_⟩;cases d with
  |int i=>exact gp ⟨_,rfl,_,_,_,_,_,rfl,⟨rfl,h.ty,DQ K (UT _)⟩,_,rfl,q⟩
  |bool b=>exact gp ⟨_,rfl,_,_,_,_,_,rfl,⟨rfl,h.ty,DQ K (UT _)⟩,_,rfl,q⟩
  |_=>exact gF q
theorem ķ{f AO:Addr}{fd A5:b5}(F:a_ K "is_whole_within" "is_whole_within" u2 f fd)(iv:c1 K mg "is_whole" td ["thing"] AO A5)(pC:aB P w K mg base aM 1 AO A5 ["thing"] Se):aB P w K mg base aM 2 f fd ["thing","least","greatest"] RA:=by
 refine F.ok T2 (λvs H Q E h=>?_) (λcdv A outer s H vs Q E au h=>?_)
 .obtain⟨v,d,lo,ar,rfl,_⟩:=h;rfl
 .obtain⟨v,d,lo,ar,rfl,h,q⟩:=h;refine⟨_,(bu (cO (gN (ed pC (au.mono (by decide)) (by rfl) iv.at_ iv.fn.b0 iv.bd .nil cn (av (ae 0) aJ)) (j4 (RL mB mB (ae 1) (ae 0) (ae 2)))))),?_⟩;refine⟨_,rfl,v,d,rfl,h,_,rfl,?_⟩;cases h with
  |int i=>
   have q:Q (.aV (decide (lo≤i)&&decide (i≤ar))) H:=q;refine gp ⟨_,rfl,_,rfl,_,_,rfl,rfl,_,rfl,?_⟩;by_cases ai:lo≤i
   .rw[cB ai,DD]at q;exact eE (cB ai) ⟨_,rfl,_,_,rfl,rfl,q⟩
   .rw[dP ai,IA]at q;exact fO (dP ai) q
  |_=>exact gF q
theorem aay{f:Addr}{fd:b5}(F:a_ K "is_tuple_of" "is_tuple_of" te f fd)(B:fo mg):aB P w K mg base aM 1 f fd ["thing","length"] Sf:=by
 refine F.ok UX (λvs H Q E h=>?_) (λcdv A outer s H vs Q E au h=>?_)
 .obtain⟨v,d,n,rfl,_⟩:=h;rfl
 .obtain⟨v,d,n,rfl,h,q⟩:=h;refine⟨_,(bu (cO (gN (d7 pL (by rfl) B.isinstance nf (av (ae 0) (av (p4 (by rfl) B.tuple Hn) aJ))) (j4 (ix l2 (d7 h6 (by rfl) B.len hR (av (ae 0) aJ)) (ae 1) (eh _)))))),?_⟩;refine⟨_,rfl,_,_,_,_,_,rfl,⟨rfl,h.ty,DQ K (abr d)⟩,_,rfl,?_⟩;cases h with
  |@tup a xs ds aI z t=>
   refine gp ⟨_,rfl,a,_,rfl,.inr (b1.of aI),_,rfl,rfl,?_⟩;show Q (.aV (decide (V.int (xs.length:Int)=V.int n))) H;rw[HQ,t.len];exact q
  |_=>exact gF q
theorem ĸ{f:Addr}{fd:b5}(F:a_ K "are_unlike_houses" "are_unlike_houses" sY f fd):aB P w K mg base aM 1 f fd ["houses","one","other"] Hc:=by
 refine F.ok T3 (λvs H Q E h=>?_) (λcdv A outer s H vs Q E au h=>?_)
 .obtain⟨a,hs,v,u,d,e,rfl,_⟩:=h;rfl
 .obtain⟨a,hs,v,u,d,e,rfl,aI,bA,cj,dd,Ma,q⟩:=h;refine⟨_,(bu (cO (gN (ix (Vq (W2 au)) (ae 1) (ae 0) (by rfl)) (gN (ix (Vq (W2 au)) (ae 2) (ae 0) (by rfl)) (j4 (ix (Ih au.units) (ae 1) (ae 2) (eh _))))))),?_⟩;have kU:qJ hs=true:=aI.kU;have dg:qN d=true:=G' bA.kU dd (by decide);have cK:qN e=true:=G' cj.kU Ma (by decide);have q:Q (.aV (inD d hs&&inD e hs&&!hx d e)) H:=q;refine⟨_,rfl,_,rfl,d,hs,bA.kx,aI.kx,dg,kU,_,rfl,?_⟩;show if inD d hs=true then _ else _
  cases ai:inD d hs with
  |false=>
   rw[ai]at q;exact gF q
  |true=>
   rw[ai]at q;refine gp ⟨_,rfl,_,rfl,e,hs,cj.kx,aI.kx,cK,kU,_,rfl,?_⟩;show if inD e hs=true then _ else _
   cases aj:inD e hs with
   |false=>
    rw[aj]at q;exact gF q
   |true=>
    rw[aj]at q;exact gp ⟨_,rfl,_,rfl,d,e,bA.kx,cj.kx,dg,cK,q⟩
end
open PySem ag cq aN
theorem Ì{ys:List Str}{x:Str}(h:x∉ys):pZ (.str x) (ys.map V.str)=false:=by unfold pZ;rw[TU];intro z;obtain⟨v,bA,e⟩:=pb.mp z;obtain⟨y,cW,rfl⟩:=cw.mp bA;have bR:(y==x)=true:=e;exact h (eq_of_beq bR▸cW)
theorem sZ{α:Type}{l:List α}{i:Nat}{d x:α}(h:l[i]?=some x):l.getD i d=x:=by rw[cH,h];rfl
inductive aet(C R:Addr)(vs:(List ag.V))(H:aa)(Q:a6)(E:b6):Prop where
 |mk (x aZ a3:Addr) (hs:List (List Nat)) (zs:List ag.V) (h:Str) (bW:vs=[.ref x,.str h]) (bG:ib C H x aZ a3 (dn hs) zs) (b4:(h∈hs.map S→Q .bD H)) (cM:(h∉hs.map S→E (.ref R) none H))
noncomputable def It(C R:Addr):b8:=λvs H Q E=>aet C R vs H Q E
section
variable{P:bL}{w:bC}{K:aS}{mg:Str→Option Value}{base:Heap}
noncomputable abbrev yr:Stmt:=fz (top 51) 7
theorem af0:cT ["self","house"] ["self","house"] (cy yr):=⟨rfl,rfl,rfl,by decide+kernel,rfl,by decide+kernel,by decide+kernel⟩
theorem aeu{C R f:Addr}{fd:b5}{tI fm my:String}{bm:List Value}(F:a_ K "need_house" "Net.need_house" yr f fd)(ft:rV K C)(Qv:vI tI fm my bm)(xn:Exc K mg "NoHouse" R bm fm):
  aB P w K mg base (eQ P w) 1 f fd ["self","house"] (It C R):=by
 refine ro F af0 (λvs H Q E h=>?_) (λcdv A outer s H vs Q E au h=>?_)
 .obtain⟨x,aZ,a3,hs,zs,h',rfl,_⟩:=h;rfl
 .obtain⟨x,aZ,a3,hs,zs,h',rfl,n,q,gT⟩:=h;obtain⟨ah,ay⟩:=n.ins;refine⟨_,(bu (eV (f3 θ (ae 1) (dT (ae 0) (by rfl)) (by rfl)) (bu (Hv Qv xn rfl (av jG aJ))) eT)),?_⟩;have aq:aO K H aZ ((hs.map S).map V.str):=by rw[←SG];exact aO.of n.q5
  refine⟨_,rfl,_,rfl,x,C,ah,_,_,rfl,ay,ft.cl,ft.s_,rfl,aZ,_,rfl,.inl aq,rfl,G9 _,_,rfl,?_⟩;by_cases hm:h'∈hs.map S
  .exact fO (by rw[HX hm];rfl) (q hm)
  .exact eE (by rw[Ì hm];rfl) ⟨by show 1≤sizeLine;decide,gT hm⟩
end
open PySem ag cq aN
theorem aaz{α β:Type}(xs:List α)(q:Nat→Bool)(g:Nat→β):(xs.zipIdx.filter λz=>q z.2).map (λz=>g z.2)=((dt xs.length).filter q).map g:=by
 have e:xs.zipIdx.map (·.2)=dt xs.length:=by rw[abo,abl]
 rw[←e,wB,gJ];rfl
noncomputable def eN:aN.a5:=⟨0,0,0,0⟩
noncomputable def Iu(hs:List (List Nat))(ds:List aN.a5)(rp:aN.a5→Nat)(h:Str):List Nat:=(dt ds.length).filter λi=>decide (V.str (S (hs.getD (rp (ds.getD i eN)) []))=V.str h)
noncomputable def lD(hs:List (List Nat))(ds:List aN.a5)(rp:aN.a5→Nat)(h:Str):List Int:=(Iu hs ds rp h).map λi:Nat=>(i:Int)
theorem Ű(hs:List (List Nat))(ds:List aN.a5)(rp:aN.a5→Nat)(h:Str):(lD hs ds rp h).length≤ds.length:=by unfold lD Iu;rw[a'];exact el (lK _ _) (by rw[hK];exact bY _)
inductive af1(C R:Addr)(rp:aN.a5→Nat)(vs:(List ag.V))(H:aa)(Q:a6)(E:b6):Prop where
 |mk (x aZ a3:Addr) (hs:List (List Nat)) (rs:List Addr) (ds:List aN.a5) (h:Str) (bW:vs=[.ref x,.str h]) (bG:ib C H x aZ a3 (dn hs) (aK rs)) (b4:gL H hs rs ds) (cM:rs.length≤40) (d3:(h∈hs.map S→∀(p:Addr)(U:aa),H p=none→aH H U→U p=some (.lst ((lD hs ds rp h).map V.int))→Q (.ref p) U)) (fK:(h∉hs.map S→E (.ref R) none H))
noncomputable def DN(C R:Addr)(rp:aN.a5→Nat):b8:=λvs H Q E=>af1 C R rp vs H Q E
section
variable{P:bL}{w:bC}{K:aS}{mg:Str→Option Value}{base:Heap}
noncomputable abbrev wq:Stmt:=fz (top 51) 4
theorem agH:cT ["self","house"] ["self","house"] (cy wq):=⟨rfl,rfl,rfl,by decide+kernel,rfl,by decide+kernel,by decide+kernel⟩
theorem af2{C R f fn:Addr}{fd XX:b5}(F:a_ K "out_of" "Net.out_of" wq f fd)(B:fo mg)(ft:rV K C)(pw:cR K C "need_house" "Net.need_house" yr ["self","house"] fn XX)(ue:aB P w K mg base (eQ P w) 1 fn XX ["self","house"] (It C R)):
  aB P w K mg base (eQ P w) 2 f fd ["self","house"] (DN C R (·.a)):=by
 have fx:=ft.cl;refine ro F agH (λvs H Q E h=>?_) (λcdv A outer s H vs Q E au h=>?_)
 .obtain⟨x,aZ,a3,hs,rs,ds,h',rfl,_⟩:=h;rfl
 .obtain⟨x,aZ,a3,hs,rs,ds,h',rfl,n,cC,b9,q,gT⟩:=h;obtain⟨ah,ay⟩:=n.ins;refine⟨_,(a9 (gm (e3 (ae 0) fx pw.dQ ue (au.mono (by decide)) pw.bd .nil s6 (av (ae 1) aJ)))
   (bu (cO (qd (N':=["number","road","house"]) (cs:=[none,none,some 1]) rfl (xP rfl B.enumerate (av (dT (ae 0) (by rfl)) aJ)) rfl (by decide+kernel) rfl (by decide+kernel) (iz (i4.mpr ⟨rfl,(λp aW=>bt aW (dN))⟩)) rfl
    (.own (.own (.h_ rfl (.inl rfl) (.inl rfl) rfl .nil)))
    (λC s3 bp bZ ef=>⟨(CC (K:=K) (n:=2) rfl rfl (jb (d2 (i:=0) (by show(["number","road","house"]:List Str).Nodup;decide+kernel) rfl (.inl rfl)) (jb (d2 (i:=1) (by show(["number","road","house"]:List Str).Nodup;decide+kernel) rfl (.inl rfl)) q9))),(u1 (f3 l2 (b_ (q_ (K:=K) rfl) (ae 1) ba (λ_ _=>rfl)) (ae 2) (eh _))),(ae 0)⟩))))),?_⟩
  have aq:=eb rs;have FR:=cC.len;refine⟨_,rfl,x,ah,_,rfl,ay,rfl,_,rfl,x,aZ,a3,hs,_,h',rfl,n,λhm=>?_,gT⟩;refine⟨_,rfl,x,C,ah,_,_,rfl,ay,ft.cl,ft.il,rfl,a3,rfl,⟨_,aO.of n.qi⟩,?_⟩;refine Uz (rest:=[some (.str h')]) rfl (aO.of n.qi) (eZ (by omega)) (λi _=>decide (V.str (S (hs.getD (ds.getD i eN).a []))=V.str h')) (λi _=>.int i) (λi v ak R ev aA uH=>?_) (λi v ak R ev _ aA uH=>⟨_,rfl,uH ak (aH.refl _)⟩) (λD U ai aj bk=>q hm D U ai bk ?_)
  .unfold aK at ev;rw[cL]at ev;obtain⟨r,d4,rfl⟩:=ew.mp ev;obtain⟨d,de,ok,hd⟩:=cC.get d4;have e0:ds.getD i eN=d:=sZ de;rw[e0]at uH;exact⟨_,rfl,r,_,_,_,rfl,rfl,b1.of (aA _ _ hd),rfl,_,rfl,rfl,_,rfl,uH ak (aH.refl _)⟩
  .rw[aj,aaz (aK rs) (λi=>decide (V.str (S (hs.getD (ds.getD i eN).a []))=V.str h')) (λi=>V.int i),aq,FR];unfold lD;rw[gJ];rfl
end
open PySem ag cq aN
noncomputable abbrev c2:=List (List bx×ag.V)
noncomputable def gH(h g:Str):List bx:=[.inr h,.inr g]
noncomputable def qg(n t:Addr):List (Str×ag.V):=[("net",.ref n),("told",.ref t)]
structure l0(C aC:Addr)(H:aa)(x n t aZ a3:Addr)(xs ys:List ag.V)(kvs:c2):Prop where
 ins:∃ah,H x=some (.ins C ah (qg n t))
 gy:ib aC H n aZ a3 xs ys
 told:H t=some (.eO kvs)
theorem l0.same{C aC:Addr}{H U:aa}{x n t aZ a3:Addr}{xs ys:List ag.V}{kvs:c2}(W:l0 C aC H x n t aZ a3 xs ys kvs)(aA:aH H U):l0 C aC U x n t aZ a3 xs ys kvs:=
 let⟨ah,h⟩:=W.ins
 ⟨⟨ah,aA _ _ h⟩,W.gy.same aA,aA _ _ W.told⟩
structure tw(K:aS)(C:Addr):Prop where
 cl:d_ K C
 nn:bE K (.ref C) "net"=some none
 ee:bE K (.ref C) "told"=some none
inductive agI(C:Addr)(vs:(List ag.V))(H:aa)(Q:a6)(bl:b6):Prop where
 |mk (x ah:Addr) (v:ag.V) (bW:vs=[.ref x,v]) (bG:H x=some (.ins C ah [])) (b4:∀t,H t=none→Q .bD (upd (upd H t (.eO [])) x (.ins C ah [("net",v),("told",.ref t)])))
noncomputable def Kq(C:Addr):b8:=λvs H Q bl=>agI C vs H Q bl
inductive ahp(C aC fu:Addr)(vs:(List ag.V))(H:aa)(Q:a6)(E:b6):Prop where
 |mk (x n t aZ a3:Addr) (hs:List (List Nat)) (ys:List ag.V) (kvs:c2) (v u:ag.V) (d e:PyData) (bW:vs=[.ref x,v,u]) (bG:l0 C aC H x n t aZ a3 (dn hs) ys kvs) (b4:Good hs) (cM:dD H v d) (d3:dD H u e) (fK:d.depth≤60) (iZ:e.depth≤60) (m5:(jE (bO hs) d e=true→∀U,aH H U→Q .bD U)) (qy:(jE (bO hs) d e=false→∀U,aH H U→E (.ref fu) none U))
noncomputable def Er(C aC fu:Addr):b8:=λvs H Q E=>ahp C aC fu vs H Q E
inductive ahq(C aC fu gi:Addr)(vs:(List ag.V))(H:aa)(Q:a6)(E:b6):Prop where
 |mk (x n t aZ a3:Addr) (hs:List (List Nat)) (rs:List Addr) (ds:List aN.a5) (kvs:c2) (h g:Str) (i:Int) (bW:vs=[.ref x,.str h,.str g,.int i]) (bG:l0 C aC H x n t aZ a3 (dn hs) (aK rs) kvs) (b4:Good hs) (cM:gL H hs rs ds) (d3:rs.length≤40) (fK:dD H (.str h) (.str h)) (iZ:dD H (.str g) (.str g)) (m5:kvs.length<sizeLine) (qy:(jE (bO hs) (.str h) (.str g)=true→i∈lD hs ds (·.a) h→∀U,aH H U→Q .bD (upd U t (.eO (eJ kvs (gH h g) (.int i)))))) (yt:(jE (bO hs) (.str h) (.str g)=false→∀U,aH H U→E (.ref fu) none U)) (Ik:(jE (bO hs) (.str h) (.str g)=true→i∉lD hs ds (·.a) h→∀U,aH H U→E (.ref gi) none U))
noncomputable def Kr(C aC fu gi:Addr):b8:=λvs H Q E=>ahq C aC fu gi vs H Q E
theorem ű(ys:List Int):(ys.map V.int).all qb=true:=by rw[wA];intro x ay;obtain⟨y,_,rfl⟩:=cw.mp ay;rfl
theorem aev{ys:List Int}{x:Int}(h:x∈ys):pZ (.int x) (ys.map V.int)=true:=by unfold pZ;rw[pb];exact⟨.int x,cw.mpr ⟨x,h,rfl⟩,by show(x==x)=true;exact beq_self_eq_true x⟩
theorem Ĺ{ys:List Int}{x:Int}(h:x∉ys):pZ (.int x) (ys.map V.int)=false:=by unfold pZ;rw[TU];intro z;obtain⟨v,bA,e⟩:=pb.mp z;obtain⟨y,cW,rfl⟩:=cw.mp bA;have bR:(y==x)=true:=e;exact h (eq_of_beq bR▸cW)
theorem ĺ{hs:List (List Nat)}{h g:Str}(c:jE (bO hs) (.str h) (.str g)=true):h∈hs.map S∧g∈hs.map S:=by unfold jE at c;simp only[hG]at c;exact⟨ĕ λn=>by rw[Ij n]at c;exact fL c.1.1,ĕ λn=>by rw[Ij n]at c;exact fL c.1.2⟩
section
variable{P:bL}{w:bC}{K:aS}{mg:Str→Option Value}{base:Heap}
noncomputable abbrev CR:Stmt:=fz (top 53) 0
theorem ahN:cT ["self","net"] ["self","net"] (cy CR):=⟨rfl,rfl,rfl,by decide+kernel,rfl,by decide+kernel,by decide+kernel⟩
theorem ahr{C f:Addr}{fd:b5}(F:a_ K "__init__" "Ways.__init__" CR f fd)(cm:tw K C):aB P w K mg base aM 1 f fd ["self","net"] (Kq C):=by
 refine F.ok ahN (λvs H Q E h=>?_) (λcdv A outer s H vs Q E au h=>?_)
 .obtain⟨x,ah,v,rfl,_⟩:=h;rfl
 .obtain⟨x,ah,v,rfl,ay,q⟩:=h;refine⟨_,(a9 (iA (ae 0) (ae 1) rfl)
   (bu (iA (ae 0) aaF rfl))),?_⟩
  refine⟨_,rfl,_,rfl,x,C,ah,_,rfl,ay,cm.cl,cm.nn,(by show 0<1000;decide),?_⟩;intro t ee;have Z2:t≠x:=λe=>by rw[e,aQ]at ee;cases ee
  rw[aD Z2]at ee;refine⟨_,rfl,x,C,ah,_,rfl,(by rw[aD (b' Z2)];exact aQ),cm.cl,cm.ee,(by show 1<1000;decide),?_⟩;have az:upd (upd (upd H x (.ins C ah [("net",v)])) t (.eO [])) x (.ins C ah [("net",v),("told",.ref t)])=upd (upd H t (.eO [])) x (.ins C ah [("net",v),("told",.ref t)]):=by
   funext b;by_cases af:b=x
   .rw[af,aQ,aQ]
   .rw[aD af,aD af];by_cases aG:b=t
    .rw[aG,aQ,aQ]
    .rw[aD aG,aD aG,aD af]
  show Q .bD (upd (upd (upd H x (.ins C ah [("net",v)])) t (.eO [])) x (.ins C ah [("net",v),("told",.ref t)]));rw[az];exact q t ee
noncomputable abbrev x4:Stmt:=fz (top 53) 6
theorem ahO:cT ["self","house","goal"] ["self","house","goal"] (cy x4):=⟨rfl,rfl,rfl,by decide+kernel,rfl,by decide+kernel,by decide+kernel⟩
theorem ahs{C aC fu f f1 f2:Addr}{fd cg c_:b5}{tI fm my:String}{bm:List Value}(F:a_ K "need_pair" "Ways.need_pair" x4 f fd)(cm:tw K C)(fx:d_ K aC)(Qv:vI tI fm my bm)(xn:Exc K mg "NoHouse" fu bm fm)(lO:cR K aC "houses" "Net.houses" uY ["self"] f1 cg)(pA:aB P w K mg base aM 1 f1 cg ["self"] (B2 aC))(kS:c1 K mg "are_unlike_houses" sY ["houses","one","other"] f2 c_)(t9:aB P w K mg base aM 1 f2 c_ ["houses","one","other"] Hc):
  aB P w K mg base (eQ P w) 2 f fd ["self","house","goal"] (Er C aC fu):=by
 refine ro F ahO (λvs H Q E h=>?_) (λcdv A outer s H vs Q E au h=>?_)
 .obtain⟨x,n,t,aZ,a3,hs,ys,kvs,v,u,d,e,rfl,_⟩:=h;rfl
 .obtain⟨x,n,t,aZ,a3,hs,ys,kvs,v,u,d,e,rfl,W,G,bA,cj,dd,Ma,q,gT⟩:=h;obtain⟨ah,ay⟩:=W.ins;refine⟨_,(bu (eV (jH (k8 (ed t9 (au.mono (by decide)) (by rfl) kS.at_ kS.fn.b0 kS.bd .nil cn (av (pK (dT (ae 0) (by rfl)) fx lO.dQ pA (au.mono (by decide)) lO.bd .nil cn) (av (ae 1) (av (ae 2) aJ)))))) (bu (Hv Qv xn rfl (av jG aJ))) eT)),?_⟩;obtain⟨gw,aw⟩:=W.gy.ins;refine⟨_,rfl,x,C,ah,_,_,rfl,ay,cm.cl,cm.nn,rfl,n,gw,_,rfl,aw,rfl,n,aZ,a3,_,_,rfl,W.gy,λl nl=>?_⟩;have br:=cA (o:=.lst (dn hs)) nl;refine⟨_,rfl,_,rfl,l,bO hs,v,u,d,e,rfl,WJ G aQ,bA.same br,cj.same br,dd,Ma,_,rfl,?_⟩;cases aG:jE (bO hs) d e with
  |true=>exact q aG _ br
  |false=>exact⟨by show 1≤sizeLine;decide,gT aG _ br⟩
noncomputable abbrev CP:Stmt:=fz (top 53) 1
theorem ahP:cT ["self","house","goal","road"] ["self","house","goal","road"] (cy CP):=⟨rfl,rfl,rfl,by decide+kernel,rfl,by decide+kernel,by decide+kernel⟩
theorem aht{C aC fu gi f f1 f2:Addr}{fd cg c_:b5}{tI fm my:String}{bm:List Value}(F:a_ K "set_way" "Ways.set_way" CP f fd)(cm:tw K C)(fx:d_ K aC)(Ry:vI tI fm my bm)(xp:Exc K mg "NoRoad" gi bm fm)(sy:cR K aC "out_of" "Net.out_of" wq ["self","house"] f1 cg)(xd:aB P w K mg base (eQ P w) 2 f1 cg ["self","house"] (DN aC fu (·.a)))(sv:cR K C "need_pair" "Ways.need_pair" x4 ["self","house","goal"] f2 c_)(w0:aB P w K mg base (eQ P w) 2 f2 c_ ["self","house","goal"] (Er C aC fu)):
  aB P w K mg base (eQ P w) 3 f fd ["self","house","goal","road"] (Kr C aC fu gi):=by
 have nk:=cm.cl;refine ro F ahP (λvs H Q E h=>?_) (λcdv A outer s H vs Q E au h=>?_)
 .obtain⟨x,n,t,aZ,a3,hs,rs,ds,kvs,h',g',i,rfl,_⟩:=h;rfl
 .obtain⟨x,n,t,aZ,a3,hs,rs,ds,kvs,h',g',i,rfl,W,G,cC,b9,bA,cj,al0,q,gT,apx⟩:=h;obtain⟨ah,ay⟩:=W.ins;obtain⟨gw,aw⟩:=W.gy.ins;refine⟨_,(a9 (gm (e3 (ae 0) nk sv.dQ w0 (au.mono (by decide)) sv.bd .nil s6 (av (ae 1) (av (ae 2) aJ))))
   (a9 (eV (f3 θ (ae 3) (e3 (dT (ae 0) (by rfl)) fx sy.dQ xd (au.mono (by decide)) sy.bd .nil s6 (av (ae 1) aJ)) (by rfl)) (bu (Hv Ry xp rfl (av jG aJ))) eT)
   (bu (HU (jo au) (dT (ae 0) (by rfl)) (nE (av (ae 1) (av (ae 2) aJ))) (ae 3) rfl)))),?_⟩
  refine⟨_,rfl,x,ah,_,rfl,ay,rfl,_,rfl,_,rfl,x,n,t,aZ,a3,hs,_,kvs,.str h',.str g',.str h',.str g',rfl,W,G,bA,cj,(by show 0≤60;decide),(by show 0≤60;decide),λaG H1 s1=>?_,gT⟩;have hm:=ĺ aG;refine⟨_,rfl,_,rfl,x,C,ah,_,_,rfl,s1 _ _ ay,cm.cl,cm.nn,rfl,n,gw,_,rfl,s1 _ _ aw,rfl,_,rfl,n,aZ,a3,hs,rs,ds,h',rfl,W.gy.same s1,cC.same s1,b9,λ_ p ak np s2 aW=>?_,λlg=>bt hm.1 lg⟩;have g9:=s1.trans s2;refine⟨p,_,rfl,.inl (aO.of aW),rfl,ű _,_,rfl,?_⟩;by_cases ar:i∈lD hs ds (·.a) h'
  .refine fO (by rw[aev ar];rfl) ?_;refine⟨_,rfl,_,rfl,x,C,ah,_,_,rfl,g9 _ _ ay,cm.cl,cm.ee,rfl,_,rfl,_,rfl,(by show 2≤sizeLine;decide),λr il=>?_⟩;have s3:=cA (o:=.tup [V.str h',V.str g']) il;exact⟨t,_,rfl,qw.t (k:=gH h' g') ((g9.trans s3) _ _ W.told) aQ al0,q aG ar _ (g9.trans s3)⟩
  .refine eE (by rw[Ĺ ar];rfl) ⟨by show 1≤sizeLine;decide,apx aG ar _ g9⟩
end
open PySem ag cq aN
inductive ahu(C:Addr)(vs:(List ag.V))(H:aa)(Q:a6)(bl:b6):Prop where
 |mk (e s:Addr) (v:ag.V) (zs:List ag.V) (bW:vs=[.ref e,v,.ref s]) (bG:H e=some (j1 e C)) (b4:H s=some (.lst zs)) (cM:∀(ah l:Addr)(U:aa),H ah=none→H l=none→ah≠l→(∀b o,H b=some o→b≠e→U b=some o)→U e=some (j0 e C ah)→U ah=some (kM ah [("reason",v),("seen",.ref l)])→U l=some (.lst zs)→Q .bD U)
noncomputable def Es(C:Addr):b8:=λvs H Q bl=>ahu C vs H Q bl
inductive Out where
 |ok (aP:List Nat)
 |no (why:Str) (sn:List Str)
noncomputable def hp(kvs:c2)(h g:Str):Option Nat:=match cU kvs (gH h g)with|some (.int k)=>some k.toNat|_=>none
noncomputable def ih(hs:List (List Nat))(ds:List aN.a5)(k:Nat):Str:=S (hs.getD (ds.getD k eN).b [])
noncomputable def oR(kvs:c2)(hs:List (List Nat))(ds:List aN.a5)(g:Str):Nat→Str→List Str→List Nat→Out
 |0,_,_,aP=>.ok aP
 |n+1,h,sn,aP=>if h=g then .ok aP else match hp kvs h g with
  |none=>.no "none" sn
  |some k=>if ih hs ds k∈sn then .no "round" (sn++[ih hs ds k])else oR kvs hs ds g n (ih hs ds k) (sn++[ih hs ds k]) (aP++[k])
structure iN(kvs:c2)(m:Nat):Prop where
 val:∀k v,cU kvs k=some v→∃i:Nat,v=.int (i:Int)∧i<m
theorem iN.get{kvs:c2}{m:Nat}(t:iN kvs m)(h g:Str):(cU kvs (gH h g)=none∧hp kvs h g=none)∨∃i:Nat,cU kvs (gH h g)=some (.int (i:Int))∧hp kvs h g=some i∧i<m:=by
 cases e:cU kvs (gH h g)with
 |none=>exact .inl ⟨rfl,by unfold hp;rw[e]⟩
 |some v=>
  obtain⟨i,rfl,ar⟩:=t.val _ _ e;exact .inr ⟨i,rfl,by unfold hp;rw[e];simp,ar⟩
noncomputable def nats(aP:List Nat):List ag.V:=aP.map λk:Nat=>V.int (k:Int)
noncomputable def nY(sn:List Str):List ag.V:=sn.map V.str
noncomputable def Ks(hh:Addr)(o:Out)(H:aa)(Q:a6)(E:b6):Prop:=match o with
 |.ok aP=>∀l U,H l=none→aH H U→U l=some (.lst (nats aP))→Q (.ref l) U
 |.no why sn=>∀ah l U,H ah=none→H l=none→ah≠l→aH H U→U ah=some (kM ah [("reason",.str why),("seen",.ref l)])→U l=some (.lst (nY sn))→E (.ref hh) (some ah) U
inductive ahv(C aC fu hh:Addr)(vs:(List ag.V))(H:aa)(Q:a6)(E:b6):Prop where
 |mk (x n t aZ a3:Addr) (hs:List (List Nat)) (rs:List Addr) (ds:List aN.a5) (kvs:c2) (h g:Str) (bW:vs=[.ref x,.str h,.str g]) (bG:l0 C aC H x n t aZ a3 (dn hs) (aK rs) kvs) (b4:Good hs) (cM:gL H hs rs ds) (d3:iN kvs ds.length) (fK:(h∈hs.map S→g∈hs.map S→Ks hh (oR kvs hs ds g 13 h [h] []) H Q E)) (iZ:(h∉hs.map S∨g∉hs.map S→E (.ref fu) none H))
noncomputable def Kt(C aC fu hh:Addr):b8:=λvs H Q E=>ahv C aC fu hh vs H Q E
theorem ox{α:Type}[DecidableEq α]:∀{sn L:List α},sn.Nodup→(∀y∈sn,y∈L)→sn.length≤L.length
 |[],_,_,_=>eD _
 |x::r,L,aF,h=>by have ay:=h x (.head _);have a7:=ox (sn:=r) (L:=L.erase x) (hL.mp aF).2 (λy cW=>(List.mem_erase_of_ne (show y≠x fromλe=>(hL.mp aF).1 (by rw[←e];exact cW))).mpr (h y (.tail _ cW)));rw[List.length_erase_of_mem ay]at a7;have:=List.length_pos_of_mem ay;rw[i5];omega
theorem BA{α:Type}{l:List α}{x:α}(aF:l.Nodup)(h:x∉l):(l++[x]).Nodup:=by rw[JC];exact⟨aF,hL.mpr ⟨dN,n_⟩,λa aI b af e=>h (by rw[←gK.mp af,←e];exact aI)⟩
theorem getD_mem'{α:Type}{l:List α}{i:Nat}{d:α}(h:i<l.length):l.getD i d∈l:=by rw[cH,ct h];exact jA h
theorem Tw(sn:List Str)(c:Str):ag.gj (nY (sn++[c])) (-1)=some (.str c):=by
 unfold nY;rw[eC];generalize sn.map V.str=zs;unfold ag.gj ag.p0;rw[fT,aX (by decide),a8 (by show -((zs.length+1:Nat):Int)≤-1;omega)];show(zs++[V.str c])[((-1:Int)+((zs.length+1:Nat):Int)).toNat]?=_;have e:((-1:Int)+((zs.length+1:Nat):Int)).toNat=zs.length:=by omega
 rw[e];simp
theorem none_of{H H1:aa}{a:Addr}(aA:aH H H1)(h:H1 a=none):H a=none:=by
 cases e:H a with
 |none=>rfl
 |some o=>rw[aA _ _ e]at h;cases h
theorem WQ{hh p:Addr}{why:Str}{sn:List Str}{H H1:aa}{Q:a6}{E:b6}{e:Addr}(q:Ks hh (.no why sn) H Q E)(aA:aH H H1)(cv:H1 p=some (.lst (nY sn)))(ne:H1 e=none):
  Es hh (V.ref e::[.str why,.ref p]) (upd H1 e (j1 e hh)) (λv ak=>v=.bD∧∃ah,ak e=some (j0 e hh ah)∧E (.ref hh) (some ah) (del ak e)) qF:=by
 refine⟨e,p,.str why,nY sn,rfl,aQ,cA ne _ _ cv,λah l U aF nl p9 keep he Bm aq=>⟨rfl,ah,he,?_⟩⟩;have mK:ah≠e:=λz=>by rw[z,aQ]at aF;cases aF
 have xI:l≠e:=λz=>by rw[z,aQ]at nl;cases nl
 rw[aD mK]at aF;rw[aD xI]at nl;refine q ah l (del U e) (none_of aA aF) (none_of aA nl) p9 (λb o af=>?_) ?_ ?_
 .have g6:=aA _ _ af;have kC:b≠e:=λz=>by rw[z,ne]at g6;cases g6
  rw[nC kC];exact keep b o (by rw[aD kC];exact g6) kC
 .rw[nC mK];exact Bm
 .rw[nC xI];exact aq
end fq
namespace cq
open PySem PySem.Spec PyProof.Rows ag
end cq
namespace fq
open PySem ag cq aN
noncomputable abbrev Row:=Str×Str×Int
noncomputable def r0:Row:=(iM,iM,0)
inductive ahw(C aC fu:Addr)(vs:(List ag.V))(H:aa)(Q:a6)(E:b6):Prop where
 |mk (x n t aZ a3:Addr) (hs:List (List Nat)) (ys:List ag.V) (kvs:c2) (h g:Str) (bW:vs=[.ref x,.str h,.str g]) (bG:l0 C aC H x n t aZ a3 (dn hs) ys kvs) (b4:Good hs) (cM:dD H (.str h) (.str h)) (d3:dD H (.str g) (.str g)) (fK:(jE (bO hs) (.str h) (.str g)=true→∀U,aH H U→Q ((cU kvs (gH h g)).getD .bD) U)) (iZ:(jE (bO hs) (.str h) (.str g)=false→∀U,aH H U→E (.ref fu) none U))
noncomputable def Ku(C aC fu:Addr):b8:=λvs H Q E=>ahw C aC fu vs H Q E
section
variable{P:bL}{w:bC}{K:aS}{mg:Str→Option Value}{base:Heap}
noncomputable abbrev CS:Stmt:=fz (top 53) 3
theorem ahQ:cT ["self","house","goal"] ["self","house","goal"] (cy CS):=⟨rfl,rfl,rfl,by decide+kernel,rfl,by decide+kernel,by decide+kernel⟩
theorem ahx{C aC fu f f2:Addr}{fd c_:b5}(F:a_ K "way" "Ways.way" CS f fd)(cm:tw K C)(sv:cR K C "need_pair" "Ways.need_pair" x4 ["self","house","goal"] f2 c_)(w0:aB P w K mg base (eQ P w) 2 f2 c_ ["self","house","goal"] (Er C aC fu)):
  aB P w K mg base (eQ P w) 3 f fd ["self","house","goal"] (Ku C aC fu):=by
 have nk:=cm.cl;refine ro F ahQ (λvs H Q E h=>?_) (λcdv A outer s H vs Q E au h=>?_)
 .obtain⟨x,n,t,aZ,a3,hs,ys,kvs,h',g',rfl,_⟩:=h;rfl
 .obtain⟨x,n,t,aZ,a3,hs,ys,kvs,h',g',rfl,W,G,bA,cj,q,gT⟩:=h;obtain⟨ah,ay⟩:=W.ins;refine⟨_,(a9 (gm (e3 (ae 0) nk sv.dQ w0 (au.mono (by decide)) sv.bd .nil s6 (av (ae 1) (av (ae 2) aJ))))
   (bu (cO (RT (jo au) (dT (ae 0) (by rfl)) (nE (av (ae 1) (av (ae 2) aJ))) ⟨rfl,rfl,rfl,rfl⟩)))),?_⟩
  refine⟨_,rfl,x,ah,_,rfl,ay,rfl,_,rfl,_,rfl,x,n,t,aZ,a3,hs,_,kvs,.str h',.str g',.str h',.str g',rfl,W,G,bA,cj,(by show 0≤60;decide),(by show 0≤60;decide),λaG H1 s1=>?_,gT⟩;refine⟨_,rfl,x,C,ah,_,_,rfl,s1 _ _ ay,cm.cl,cm.ee,rfl,t,rfl,.inr ⟨_,.inl (s1 _ _ W.told)⟩,_,rfl,_,rfl,(by show 2≤sizeLine;decide),λr il=>?_⟩;have s3:=cA (o:=.tup [V.str h',V.str g']) il;exact⟨_,ig.t (k:=gH h' g') (s3 _ _ (s1 _ _ W.told)) aQ,q aG _ (s1.trans s3)⟩
end
end fq
namespace dC
variable{κ:Type}[DecidableEq κ]
structure hc(κ:Type)where
 a:κ
 b:κ
 t:Int
inductive Path(rs:List (hc κ))(s:κ):κ→Int→Prop
 |nil:Path rs s s 0
 |snoc {v:Int} (e:hc κ):Path rs s e.a v→e∈rs→Path rs s e.b (v+e.t)
theorem Path.cons{rs:List (hc κ)}(e:hc κ)(he:e∈rs){g:κ}{w:Int}(p:Path rs e.b g w):Path rs e.a g (e.t+w):=by
 induction p with
 |nil=>
  have:=Path.snoc e (Path.nil (rs:=rs) (s:=e.a)) he
  rwa [o',←Jh e.t]at this
 |snoc f _ hf a7=>
  rw[←U_];exact Path.snoc f a7 hf
theorem Path.first{rs:List (hc κ)}{s g:κ}{w:Int}(p:Path rs s g w):(s=g∧w=0)∨∃e∈rs,∃u,e.a=s∧Path rs e.b g u∧w=e.t+u:=by
 induction p with
 |nil=>exact .inl ⟨rfl,rfl⟩
 |@snoc v f _ hf a7=>
  refine .inr ?_;rcases a7 with⟨rfl,rfl⟩|⟨e,he,u,az,p,rfl⟩
  .exact⟨f,hf,0,rfl,.nil,by omega⟩
  .exact⟨e,he,u+f.t,az,.snoc f p hf,by omega⟩
theorem Path.nonneg{rs:List (hc κ)}(aW:∀e∈rs,1≤e.t){s g:κ}{w:Int}(p:Path rs s g w):0≤w:=by
 induction p with
 |nil=>exact o9 _
 |snoc e _ he a7=>have:=aW e he;omega
structure Jm(rs:List (hc κ))(s:κ)(d:κ→Option Int):Prop where
 path:∀k v,d k=some v→Path rs s k v
 least:∀k w,Path rs s k w→∃v,d k=some v∧v≤w
structure m'(rs:List (hc κ))(s:κ)(ns:List κ)(d:κ→Option Int):Prop where
 start:d s=some 0
 path:∀k v,d k=some v→Path rs s k v
 b9:∀k v,d k=some v→v<9*(ns.countP λk=>(d k).isSome)
noncomputable def ok(d:κ→Option Int)(e:hc κ):Prop:=∀v,d e.a=some v→∃u,d e.b=some u∧u≤v+e.t
theorem m'.done{rs:List (hc κ)}{s:κ}{ns:List κ}{d:κ→Option Int}(m:m' rs s ns d)(h:∀e∈rs,ok d e):Jm rs s d:=by
 refine⟨m.path,λk w p=>?_⟩
 induction p with
 |nil=>exact⟨0,m.start,o9 _⟩
 |snoc e _ he a7=>
  obtain⟨v,ai,aj⟩:=a7;obtain⟨u,bk,cv⟩:=h e he v ai;exact⟨u,bk,by omega⟩
noncomputable def put(d:κ→Option Int)(b:κ)(v:Int):κ→Option Int:=λk=>if k=b then some v else d k
theorem count_le{p q:κ→Bool}(h:∀k,p k=true→q k=true):∀ns:List κ,ns.countP p≤ns.countP q
 |[]=>by simp
 |k::r=>by have a7:=count_le h r;simp only[aa5];have:=h k;split<;>split<;>simp_all<;>omega
theorem L'{p q:κ→Bool}(h:∀k,p k=true→q k=true){b:κ}(ai:p b=false)(aj:q b=true):∀{ns:List κ},b∈ns→ns.countP p<ns.countP q
 |[],z=>by simp at z
 |k::r,z=>by
  simp only[aa5];by_cases e:k=b
  .subst e;have:=count_le h r;simp[ai,aj];omega
  .have a7:=L' h ai aj (ns:=r) (by rcases dx.mp z with z|z;exact bt z.symm e;exact z);have:=h k;split<;>split<;>simp_all<;>omega
theorem VX{f g:κ→Nat}(h:∀k,f k≤g k):∀ns:List κ,(ns.map f).sum≤(ns.map g).sum
 |[]=>by simp
 |k::r=>by have:=VX h r;have:=h k;simp only[gv,oa];omega
theorem V0{f g:κ→Nat}(h:∀k,f k≤g k){b:κ}(ai:f b<g b):∀{ns:List κ},b∈ns→(ns.map f).sum<(ns.map g).sum
 |[],z=>by simp at z
 |k::r,z=>by
  simp only[gv,oa];by_cases e:k=b
  .subst e;have:=VX h r;omega
  .have a7:=V0 h ai (ns:=r) (by rcases dx.mp z with z|z;exact bt z.symm e;exact z);have:=h k;omega
noncomputable def val(n:Nat):Option Int→Nat
 |none=>n
 |some v=>v.toNat
noncomputable def da(ns:List κ)(d:κ→Option Int):Nat:=(ns.map λk=>val (9*ns.length) (d k)).sum
theorem m'.put{rs:List (hc κ)}{s:κ}{ns:List κ}{d:κ→Option Int}(m:m' rs s ns d)(aW:∀e∈rs,1≤e.t∧e.t≤9){e:hc κ}(he:e∈rs)(af:e.b∈ns){v:Int}(aI:d e.a=some v)(hs:∀u,d e.b=some u→v+e.t<u):
  m' rs s ns (put d e.b (v+e.t))∧da ns (dC.put d e.b (v+e.t))<da ns d:=by
 have bA:0≤v:=(m.path _ _ aI).nonneg λe he=>(aW e he).1;have df:=aW e he;have aps:∀k w,dC.put d e.b (v+e.t) k=some w→Path rs s k w:=λk w h=>by
  unfold dC.put at h;split at h
  .rename_i q;cases h;rw[q];exact .snoc e (m.path _ _ aI) he
  .exact m.path k w h
 have hm:∀k,(d k).isSome=true→(dC.put d e.b (v+e.t) k).isSome=true:=λk h=>by
  unfold dC.put;split
  .rfl
  .exact h
 have b9:∀k w,dC.put d e.b (v+e.t) k=some w→w<9*(ns.countP λk=>(dC.put d e.b (v+e.t) k).isSome):=λk w h=>by
  have hle:=count_le hm ns;by_cases q:k=e.b
  .have h':w=v+e.t:=by unfold dC.put at h;rw[a8 q]at h;exact(hM h).symm
   have asQ:=m.b9 _ _ aI;cases hd:d e.b with
   |some u=>
    have:=hs u hd;have:=m.b9 _ _ hd;omega
   |none=>
    have bP:ns.countP (λk=>(d k).isSome)<ns.countP λk=>(dC.put d e.b (v+e.t) k).isSome:=L' hm (b:=e.b) (by rw[hd];rfl) (by unfold dC.put;rw[a8 rfl];rfl) af;omega
  .have h':d k=some w:=by
    unfold dC.put at h
    rwa [aX q]at h
   have:=m.b9 k w h';omega
 refine⟨⟨?_,aps,b9⟩,?_⟩
 .unfold dC.put;split
  .rename_i q;rw[←q]at hs;have:=hs 0 m.start;omega
  .exact m.start
 .have aG:ns.countP (λk=>(dC.put d e.b (v+e.t) k).isSome)≤ns.length:=aa6;have aw:=b9 e.b (v+e.t) (by unfold dC.put;rw[a8 rfl]);have lt:val (9*ns.length) (dC.put d e.b (v+e.t) e.b)<val (9*ns.length) (d e.b):=by
   have az:dC.put d e.b (v+e.t) e.b=some (v+e.t):=by unfold dC.put;rw[a8 rfl]
   have bB:((v+e.t).toNat:Int)=v+e.t:=DV (by omega);rw[az];cases hd:d e.b with
   |some u=>
    have:=hs u hd;show(v+e.t).toNat < u.toNat
    omega
   |none=>
    show(v+e.t).toNat < 9*ns.length;omega
  refine V0 (λk=>?_) (b:=e.b) lt af;by_cases q:k=e.b
  .subst q;exact tX lt
  .have aE:dC.put d e.b (v+e.t) k=d k:=by unfold dC.put;rw[aX q]
   rw[aE];exact bY _
theorem m'.begin{rs:List (hc κ)}{s:κ}{ns:List κ}(hs:s∈ns):m' rs s ns (λk=>if k=s then some 0 else none):=by
 refine⟨by simp,λk v h=>?_,λk v h=>?_⟩
 .split at h
  .rename_i q;cases h;rw[q];exact .nil
  .cases h
 .split at h
  .cases h;have:0<ns.countP λk=>((if k=s then some (0:Int)else none).isSome):=aa7.mpr ⟨s,hs,by simp⟩;omega
  .cases h
structure zM(rs:List (hc κ))(f:κ→Option Int)(g:κ):Prop where
 path:∀k v,f k=some v→Path rs k g v
 least:∀k w,Path rs k g w→∃v,f k=some v∧v≤w
section
variable{rs:List (hc κ)}{f:κ→Option Int}{g:κ}(F:zM rs f g)(aW:∀e∈rs,1≤e.t)
include F
theorem zM.back{e:hc κ}(he:e∈rs){u:Int}(h:f e.b=some u):∃v,f e.a=some v∧v≤u+e.t:=by obtain⟨v,ai,aj⟩:=F.least _ _ (Path.cons e he (F.path _ _ h));exact⟨v,ai,by omega⟩
include aW in
theorem zM.goal:f g=some 0:=by obtain⟨v,ai,aj⟩:=F.least g 0 .nil;have:=(F.path _ _ ai).nonneg aW;rw[ai];congr 1;omega
include aW in
theorem zM.other{k:κ}{v:Int}(aT:k≠g)(h:f k=some v):1≤v∧∃e∈rs,∃u,e.a=k∧f e.b=some u∧v=u+e.t:=by
 rcases(F.path _ _ h).first with⟨e,_⟩|⟨e,he,u,rfl,p,rfl⟩
 .exact bt e aT
 .have ai:=p.nonneg aW;have aj:=aW e he;obtain⟨u',bk,cv⟩:=F.least _ _ p;obtain⟨tB,dW,kB⟩:=F.back he bk;rw[h]at dW;cases dW;exact⟨by omega,e,he,u',rfl,bk,by omega⟩
end
theorem Path.min{rs:List (hc κ)}(aW:∀e∈rs,1≤e.t){s g:κ}:∀(n:Nat)(w:Int),w.toNat=n→Path rs s g w→∃v,Path rs s g v∧(∀u,Path rs s g u→v≤u):=by
 intro n
 induction n using Nat.strongRecOn with
 |_ n a7=>
  intro w hw p;by_cases h:∃u,Path rs s g u∧u<w
  .obtain⟨u,pu,cj⟩:=h;have ai:=pu.nonneg aW;exact a7 u.toNat (by omega) u rfl pu
  .refine⟨w,p,λu pu=>?_⟩;by_cases q:w≤u
   .exact q
   .exact bt ⟨u,pu,by omega⟩ h
open Classical in
noncomputable def dist(rs:List (hc κ))(s g:κ):Option Int:=if h:∃v,Path rs s g v∧∀u,Path rs s g u→v≤u then some (T_ h)else none
theorem alz{rs:List (hc κ)}{s:κ}{d:κ→Option Int}(L:Jm rs s d)(g:κ):d g=dist rs s g:=by
 unfold dist;cases hd:d g with
 |some v=>
  have p:=L.path g v hd;have GF:∀u,Path rs s g u→v≤u:=λu pu=>by obtain⟨tB,ai,aj⟩:=L.least g u pu;rw[hd]at ai;cases ai;exact aj
  have h:∃v,Path rs s g v∧∀u,Path rs s g u→v≤u:=⟨v,p,GF⟩
  rw[dif_pos h];have c:=DF h;congr 1;have a:=GF _ c.1;have b:=c.2 _ p;omega
 |none=>
  have h:¬∃v,Path rs s g v∧∀u,Path rs s g u→v≤u:=λ⟨v,p,_⟩=>by obtain⟨tB,ai,_⟩:=L.least g v p;rw[hd]at ai;cases ai
  rw[dif_neg h]
theorem Mv{rs:List (hc κ)}(aW:∀e∈rs,1≤e.t)(g:κ):zM rs (λk=>dist rs k g) g:=by
 refine⟨λk v h=>?_,λk w p=>?_⟩
 .unfold dist at h;split at h
  .rename_i q;cases h;exact(DF q).1
  .cases h
 .have q:=p.min aW _ _ rfl;show∃v,dist rs k g=some v∧v≤w;unfold dist;rw[dif_pos q];exact⟨_,rfl,(DF q).2 _ p⟩
end dC
namespace fq
open PySem ag cq aN
noncomputable def de(hs:List (List Nat))(d:aN.a5):dC.hc Str:=⟨S (hs.getD d.a []),S (hs.getD d.b []),d.t⟩
noncomputable def jd(hs:List (List Nat))(ds:List aN.a5):List (dC.hc Str):=ds.map (de hs)
structure Tab(kvs:List (bx×ag.V))(D:Str→Option Int):Prop where
 at_:∀k:Str,cU kvs (e' k:bx)=(D k).map V.int
 gq:∀ck∈kvs,∃k:Str,ck.1=(e' k:bx)
theorem aew{kvs:List (bx×ag.V)}(h:∀ck∈kvs,∃k:Str,ck.1=(e' k:bx))(b:Str)(v:ag.V):∀ck∈eJ kvs (e' b:bx) v,∃k:Str,ck.1=(e' k:bx):=by
 intro ck aT;unfold eJ at aT;split at aT
 .obtain⟨q,bb,e⟩:=cw.mp aT;obtain⟨k,f6⟩:=h q bb;split at e
  .exact⟨k,by rw[←e];exact f6⟩
  .exact⟨k,by rw[←e];exact f6⟩
 .rcases hv.mp aT with z|z
  .exact h ck z
  .exact⟨b,by rw[gK.mp z]⟩
theorem Tab.put{kvs:List (bx×ag.V)}{D:Str→Option Int}(T:Tab kvs D)(b:Str)(v:Int):Tab (eJ kvs (e' b:bx) (.int v)) (dC.put D b v):=⟨λk=>by
 rw[Ca];unfold dC.put;by_cases h:k=b
 .rw[a8 h,a8 (iP e' h)];rfl
 .rw[aX h,aX λz=>h (Ka z)];exact T.at_ k,aew T.gq b _⟩
theorem TM{κ:Type}[DecidableEq κ]{kvs:List (κ×ag.V)}{k:κ}{u:ag.V}(v:ag.V)(h:cU kvs k=some u):(eJ kvs k v).length=kvs.length:=by unfold eJ;rw[a8 (by rw[oC,h];rfl),a']
noncomputable def vh(D:Str→Option Int)(e:dC.hc Str):Bool:=match D e.a with
 |none=>false
 |some v=>match D e.b with
  |none=>true
  |some u=>decide (v+e.t<u)
theorem arD{D:Str→Option Int}{e:dC.hc Str}(h:vh D e=true):∃v,D e.a=some v∧∀u,D e.b=some u→v+e.t<u:=by
 unfold vh at h;cases aI:D e.a with
 |none=>rw[aI]at h;cases h
 |some v=>
  rw[aI]at h;refine⟨v,rfl,λu cj=>?_⟩;rw[cj]at h;exact ju h
theorem ark{D:Str→Option Int}{e:dC.hc Str}(h:vh D e=false):dC.ok D e:=by
 intro v aI;unfold vh at h;rw[aI]at h;cases af:D e.b with
 |none=>rw[af]at h;cases h
 |some u=>
  rw[af]at h;exact⟨u,rfl,by have:=of_decide_eq_false h;omega⟩
inductive ab8(vs:(List ag.V))(H:aa)(Q:a6)(bl:b6):Prop where
 |mk (r f:Addr) (hs:List (List Nat)) (d:aN.a5) (kvs:List (bx×ag.V)) (D:Str→Option Int) (bW:vs=[.ref r,.ref f]) (bG:H r=some (.tup (nS hs d))) (b4:H f=some (.bX kvs)) (cM:Tab kvs D) (d3:Q (.aV (vh D (de hs d))) H)
noncomputable def Th:b8:=λvs H Q bl=>ab8 vs H Q bl
inductive ab9(K:aS)(vs:(List ag.V))(H:aa)(Q:a6)(bl:b6):Prop where
 |mk (b:Addr) (hs:List (List Nat)) (rs:List Addr) (ds:List aN.a5) (h:Str) (bW:vs=[.ref b,.str h]) (bG:aO K H b (aK rs)) (b4:gL H hs rs ds) (cM:hs.length≤12) (d3:h∈hs.map S) (fK:∀(p:Addr)(U:aa)(kvs:List (bx×ag.V))(D:Str→Option Int),H p=none→aH H U→U p=some (.bX kvs)→Tab kvs D→dC.Jm (jd hs ds) h D→Q (.ref p) U)
noncomputable def Ti(K:aS):b8:=λvs H Q bl=>ab9 K vs H Q bl
section
variable{P:bL}{w:bC}{K:aS}{mg:Str→Option Value}{base:Heap}
noncomputable abbrev Dj:Stmt:=top 49
noncomputable abbrev Dk:Stmt:=top 50
theorem ad1:cT ["road","found"] ["road","found"] (cy Dj):=⟨rfl,rfl,rfl,by decide+kernel,rfl,by decide+kernel,by decide+kernel⟩
theorem xV:cT ["roads","house","found","changed","road"] ["roads","house"] (cy Dk):=⟨rfl,rfl,rfl,by decide+kernel,rfl,by decide+kernel,by decide+kernel⟩
theorem aca{f:Addr}{fd:b5}(F:a_ K "is_shorter_by" "is_shorter_by" Dj f fd):aB P w K mg base aM 1 f fd ["road","found"] Th:=by
 refine F.ok ad1 (λvs H Q E h=>?_) (λcdv A outer s H vs Q E au h=>?_)
 .obtain⟨r,qV,hs,d,kvs,D,rfl,_⟩:=h;rfl
 .obtain⟨r,qV,hs,d,kvs,D,rfl,cC,hf,T,q⟩:=h;refine⟨_,(a9 (eV (Vf (Q0 (jo au) (b_ dE (ae 0) ba (λ_ _=>rfl)) (ae 1))) (bu (cO l1)) eT)
   (bu (cO (agb (aeZ (Q0 (jo au) (b_ dE (ae 0) ba (λ_ _=>rfl)) (ae 1))) (j4 (ix ru (cS hS (sX (jo au) (ae 1) (b_ dE (ae 0) ba (λ_ _=>rfl)) (λ_ _=>rfl)) (b_ dE (ae 0) ba (λ_ _=>rfl))) (sX (jo au) (ae 1) (b_ dE (ae 0) ba (λ_ _=>rfl)) (λ_ _=>rfl)) (eh _))))))),?_⟩
  have oV:=T.at_ (S (hs.getD d.a []));have mR:=T.at_ (S (hs.getD d.b []));have ga:=ig.k (k:=e' (S (hs.getD d.a []))) hf;have uC:=ig.k (k:=e' (S (hs.getD d.b []))) hf;rw[oV]at ga;rw[mR]at uC;unfold vh at q;have bc:(de hs d).a=S (hs.getD d.a []):=rfl;have d8:(de hs d).b=S (hs.getD d.b []):=rfl;rw[bc,d8]at q;refine⟨_,rfl,r,_,_,_,rfl,rfl,b1.of cC,rfl,_,rfl,qV,_,rfl,ga,_,rfl,?_⟩;cases aI:D (S (hs.getD d.a []))with
  |none=>
   rw[aI]at q;exact gp q
  |some v=>
   rw[aI]at q ga;refine gF ?_;refine⟨_,rfl,r,_,_,_,rfl,rfl,b1.of cC,rfl,_,rfl,qV,_,rfl,uC,_,rfl,?_⟩;cases af:D (S (hs.getD d.b []))with
   |none=>
    rw[af]at q;exact gp q
   |some u=>
    rw[af]at q uC;refine gF ?_;exact⟨_,rfl,_,rfl,r,_,_,_,rfl,rfl,b1.of cC,rfl,qV,_,rfl,ga,_,rfl,r,_,_,_,rfl,rfl,b1.of cC,rfl,_,_,rfl,rfl,_,rfl,_,rfl,r,_,_,_,rfl,rfl,b1.of cC,rfl,qV,_,rfl,uC,_,_,rfl,rfl,q⟩
inductive ahR(b p:Addr)(h':Str)(hs:List (List Nat))(ds:List aN.a5)(H:aa)(m:Nat)(σ:ag.St)(bU:aa):Prop where
 |mk (kvs:List (bx×ag.V)) (D:Str→Option Int) (ch:Bool) (H':Option ag.V) (bW:σ=[some (.ref b),some (.str h'),some (.ref p),some (.aV ch),H']) (bG:aH H bU) (b4:bU p=some (.bX kvs)) (cM:Tab kvs D) (d3:kvs.length≤(hs.map S).countP (λk=>(D k).isSome)) (fK:dC.m' (jd hs ds) h' (hs.map S) D) (iZ:ch=false→∀e∈jd hs ds,dC.ok D e) (m5:m=2*dC.da (hs.map S) D+(if ch=true then 1 else 0))
inductive ahS(b p:Addr)(h':Str)(hs:List (List Nat))(ds:List aN.a5)(H:aa)(D:Str→Option Int)(i:Nat)(σ:ag.St)(fB:aa):Prop where
 |mk (jq:List (bx×ag.V)) (cG:Str→Option Int) (lR:Bool) (rH:Option ag.V) (bW:σ=[some (.ref b),some (.str h'),some (.ref p),some (.aV lR),rH]) (bG:aH H fB) (b4:fB p=some (.bX jq)) (cM:Tab jq cG) (d3:jq.length≤(hs.map S).countP (λk=>(cG k).isSome)) (fK:dC.m' (jd hs ds) h' (hs.map S) cG) (iZ:(lR=false∧cG=D∧∀j d,j<i→ds[j]?=some d→dC.ok cG (de hs d))∨(lR=true∧dC.da (hs.map S) cG<dC.da (hs.map S) D))
theorem acb{f fs:Addr}{fd XY:b5}(F:a_ K "least_turns_from" "least_turns_from" Dk f fd)(AI:c1 K mg "is_shorter_by" Dj ["road","found"] fs XY)(OP:aB P w K mg base aM 1 fs XY ["road","found"] Th):
  aB P w K mg base aM 2 f fd ["roads","house"] (Ti K):=by
 refine F.ok xV (λvs H Q E h=>?_) (λcdv A outer s H vs Q E au h=>?_)
 .obtain⟨b,hs,rs,ds,h',rfl,_⟩:=h;rfl
 .obtain⟨b,hs,rs,ds,h',rfl,af,cC,b9,hm,q⟩:=h;refine⟨_,(a9 (c9 (i:=2) xV.aF rfl (cu rfl) (adR (aaV (ae 1) ba adQ) rfl rfl (by intro z;cases z) (by decide)))
   (a9 (c9 (i:=3) xV.aF rfl (cu rfl) l1)
   (a9 (Hl iL (k8 (ae 3))
    (a9 (c9 (i:=3) xV.aF rfl (cu rfl) l1)
   (bu (jf iL rfl (hP (ae 0)) (d2 (i:=4) xV.aF rfl (cu rfl))
    (bu (eV (k8 (ed OP (au.mono (by decide)) (by rfl) AI.at_ AI.fn.b0 AI.bd .nil cn (av (ae 4) (av (ae 2) aJ)))) (a9 (HU (jo au) (ae 2) (b_ dE (ae 4) ba (λ_ _=>rfl)) (cS hS (sX (jo au) (ae 2) (b_ dE (ae 4) ba (λ_ _=>rfl)) (λ_ _=>rfl)) (b_ dE (ae 4) ba (λ_ _=>rfl))) rfl)
   (bu (c9 (i:=3) xV.aF rfl (cu rfl) l1))) eT))))))
   (bu (cO (ae 2)))))),?_⟩
  have amS:∀e∈jd hs ds,1≤e.t∧e.t≤9:=λe he=>by obtain⟨d,hd,rfl⟩:=cw.mp he;exact(cC.ok d hd).t
  refineλp aW=>⟨_,rfl,aQ,[(e' h',.int 0)],rfl,(by show 1≤15;decide),?_⟩
  have e0:upd (upd H p (.bX [])) p (.bX (x7 [] [((e' h':bx),V.int 0)]))=upd H p (.bX [((e' h':bx),V.int 0)]):=by rw[Cr];rfl
  rw[e0];have s0:aH H (upd H p (.bX [((e' h':bx),V.int 0)])):=cA aW;have T0:Tab [((e' h':bx),V.int 0)] (λk=>if k=h' then some 0 else none):=⟨λk=>by
   by_cases z:k=h'
   .rw[lS (iP e' z.symm),a8 z];rfl
   .rw[kY λy=>z (Ka y).symm,aX z];rfl,λck aT=>⟨h',by rw[gK.mp aT]⟩⟩
  have m0:dC.m' (jd hs ds) h' (hs.map S) (λk=>if k=h' then some 0 else none):=dC.m'.begin hm;have jW:0<(hs.map S).countP λk=>((if k=h' then some (0:Int)else none).isSome):=aa7.mpr ⟨h',hm,by simp⟩;refine⟨ahR b p h' hs ds H,
   ⟨_,_,_,true,none,rfl,s0,aQ,T0,jW,m0,λz=>(nomatch z),rfl⟩,?_⟩
  rintro m σ bU ⟨kvs,D,ch,H',rfl,aA,aT,T,len,mid,bj,rfl⟩;refine⟨_,rfl,_,rfl,?_⟩;cases ch with
  |false=>exact gF ⟨_,rfl,q p bU kvs D aW aA aT T (mid.done (bj rfl))⟩
  |true=>
   refine gp ⟨λaY fB=>∃(jq:List (bx×ag.V))(cG:Str→Option Int)(lR:Bool)(rH:Option ag.V),aY=[some (.ref b),some (.str h'),some (.ref p),some (.aV lR),rH]∧aH H fB∧fB p=some (.bX jq)∧Tab jq cG∧
    jq.length≤(hs.map S).countP (λk=>(cG k).isSome)∧dC.m' (jd hs ds) h' (hs.map S) cG∧((lR=false∧cG=D∧∀e∈jd hs ds,dC.ok cG e)∨(lR=true∧dC.da (hs.map S) cG<dC.da (hs.map S) D)),?_,?_⟩
   .rintro aY fB ⟨jq,cG,lR,rH,rfl,nT,pT,e_,BR,xE,mw⟩;refine⟨_,?_,jq,cG,lR,rH,rfl,nT,pT,e_,BR,xE,?_,rfl⟩
    .rcases mw with⟨rfl,rfl,_⟩|⟨rfl,bP⟩
     .simp
     .simp;omega
    .rintro rfl;rcases mw with⟨_,_,bw⟩|⟨z,_⟩
     .exact bw
     .cases z
   .refine⟨_,rfl,b,rfl,⟨_,aA.seq af⟩,?_⟩;refine oA (xs:=aK rs) (ahS b p h' hs ds H D)
     ⟨kvs,D,false,H',rfl,aA,aT,T,len,mid,.inl ⟨rfl,rfl,λj d bq _=>bt bq (zK _)⟩⟩ ?_ ?_ ?_
    .rintro i aY fB ar ⟨jq,cG,lR,rH,rfl,nT,_⟩;exact nT.seq af
    .rintro i z aY fB di ⟨jq,cG,lR,rH,rfl,nT,pT,e_,BR,xE,mw⟩;unfold aK at di;rw[cL]at di;obtain⟨r,d4,rfl⟩:=ew.mp di;obtain⟨d,Ar,oS,hd⟩:=cC.get d4;have anl:de hs d∈jd hs ds:=cw.mpr ⟨d,dY Ar,rfl⟩;refine⟨_,rfl,_,rfl,r,p,hs,d,jq,cG,rfl,nT _ _ hd,pT,e_,_,rfl,?_⟩;cases pX:vh cG (de hs d)with
     |false=>
      refine gF ⟨jq,cG,lR,_,rfl,nT,pT,e_,BR,xE,?_⟩;rcases mw with⟨rfl,rfl,bw⟩|mw
      .refine .inl ⟨rfl,rfl,λj d' bq ec=>?_⟩;by_cases Nr:j=i
       .subst Nr;rw[Ar]at ec;cases ec;exact ark pX
       .exact bw j d' (by omega) ec
      .exact .inr mw
     |true=>
      obtain⟨v,aI,q6⟩:=arD pX;have sN:cG (S (hs.getD d.a []))=some v:=aI;obtain⟨aor,bP⟩:=xE.put amS anl (oI oS.b) aI q6;have ga:=ig.k (k:=e' (S (hs.getD d.a []))) pT;rw[e_.at_,sN]at ga;have pS:(hs.map S).countP (λk=>(cG k).isSome)≤(hs.map S).length:=aa6;rw[a']at pS;have sR:=nT _ _ hd;refine gp ?_;refine⟨_,rfl,_,rfl,r,_,_,_,rfl,rfl,b1.of sR,rfl,p,_,rfl,ga,_,rfl,r,_,_,_,rfl,rfl,b1.of sR,rfl,_,_,rfl,rfl,_,rfl,_,rfl,r,_,_,_,rfl,rfl,b1.of sR,rfl,p,_,rfl,qw.k (k:=e' (S (hs.getD d.b []))) pT (eZ (by omega)),?_⟩;refine⟨_,dC.put cG (de hs d).b (v+(de hs d).t),true,_,rfl,i8 aW nT,aQ,e_.put _ _,?_,aor,.inr ⟨rfl,?_⟩⟩
      .cases dk:cG (S (hs.getD d.b []))with
       |none=>
        have az:(eJ jq (e' (S (hs.getD d.b [])):bx) (V.int (v+d.t))).length=jq.length+1:=by rw[Cb _ (by rw[e_.at_,dk];rfl),fT];rfl
        have aE:(hs.map S).countP (λk=>(cG k).isSome)<(hs.map S).countP (λk=>(dC.put cG (de hs d).b (v+(de hs d).t) k).isSome):=
         dC.L' (b:=S (hs.getD d.b [])) (λk aT=>by unfold dC.put;split;rfl;exact aT) (by rw[dk];rfl) (by unfold dC.put;rw[a8 (show S (hs.getD d.b [])=(de hs d).b from rfl)];rfl) (oI oS.b)
        exact el (JJ az) (by omega)
       |some u=>
        have az:(eJ jq (e' (S (hs.getD d.b [])):bx) (V.int (v+d.t))).length=jq.length:=TM _ (by rw[e_.at_,dk];rfl);have aE:(hs.map S).countP (λk=>(cG k).isSome)≤(hs.map S).countP (λk=>(dC.put cG (de hs d).b (v+(de hs d).t) k).isSome):=
         dC.count_le (λk aT=>by unfold dC.put;split;rfl;exact aT) _
        exact el (JJ az) (by omega)
      .rcases mw with⟨_,rfl,_⟩|⟨_,aj⟩
       .exact bP
       .exact ab4 bP aj
    .rintro aY fB ⟨jq,cG,lR,rH,rfl,nT,pT,e_,BR,xE,mw⟩;refine⟨jq,cG,lR,rH,rfl,nT,pT,e_,BR,xE,?_⟩;rcases mw with⟨rfl,rfl,bw⟩|mw
     .refine .inl ⟨rfl,rfl,λe he=>?_⟩;obtain⟨d,hd,rfl⟩:=cw.mp he;obtain⟨j,bq⟩:=me hd;refine bw j d ?_ bq;have ai:=(eR.mp bq).1;have aj:=cC.len;rw[eb];omega
     .exact .inr mw
end
end fq
namespace cq
open PySem PySem.Spec PyProof.Rows ag
section
variable{X:bh}
noncomputable def ahT(ts:eY):eY:=λD σ H=>∃a kvs,H a=some (.bX kvs)∧∀o,ts ⟨λaY U=>U a=some (.fH o (.bX kvs))∧D.cf aY (upd U a (.bX kvs)),λv U=>U a=some (.fH o (.bX kvs))∧D.rt v (upd U a (.bX kvs)),λaY U=>U a=some (.fH o (.bX kvs))∧D.hl aY (upd U a (.bX kvs)),λaY U=>U a=some (.fH o (.bX kvs))∧D.fG aY (upd U a (.bX kvs))⟩ σ (upd H a (.fH o (.bX kvs)))
theorem af3{st:Stmt}{ts:eY}(hs:h4 X st ts):h4 X st (ahT ts):=by
 intro pins s σ H D I h;obtain⟨a,kvs,aI,h⟩:=h;have f1:∀xs,X.n9 a≠some (.tup xs):=λxs z=>by have:=I.base.hE a xs z;rw[aI]at this;cases this
 have f2:∀o v,X.n9 a≠some (.fH o v):=λo v z=>by have:=I.base.iR a o v z;rw[aI]at this;cases this
 have cc:∀ps,X.n9 a≠some (.qs ps):=λps z=>by obtain⟨m,e⟩:=I.base.jw a ps z;rw[aI]at e;cases e
 have ok:=I.bj a _ aI;obtain⟨z,y,vs,rel,o,es,ep,e,c⟩:=id ok;have aU:Inv X pins σ (upd H a (.fH o (.bX kvs))) s:=VL I aI (by intro _ w;cases w) (by intro _ w;cases w) ⟨e,z,y,vs,rel,o,es,ep,e,c⟩ f1 f2 cc;have back:∀{aY:ag.St}{U:aa}{s':ax},Inv X pins aY U s'→U a=some (.fH o (.bX kvs))→Inv X pins aY (upd U a (.bX kvs)) s':=λ{aY U s'}bI pP=>by obtain⟨az,bW,o3,aqN,apH,iW,alV,alT,aE,gM⟩:=bI.bj a _ pP;exact VL bI (u':=.bX kvs) pP (by intro _ w;cases w) (by intro _ w;cases w) ⟨bW,o3,aqN,apH,iW,alV,alT,aE,gM⟩ f1 f2 cc
 refine bM (hs pins s σ _ _ aU (h o)) λf s1 q=>?_;cases f with
 |next=>
  obtain⟨aY,U,bI,pP,q⟩:=q;exact⟨aY,_,back bI pP,q⟩
 |brk=>
  obtain⟨aY,U,bI,pP,q⟩:=q;exact⟨aY,_,back bI pP,q⟩
 |cont=>
  obtain⟨aY,U,bI,pP,q⟩:=q;exact⟨aY,_,back bI pP,q⟩
 |ret v=>
  obtain⟨aY,x,U,bI,cz,pP,q⟩:=q;exact⟨aY,x,_,back bI pP,cz,q⟩
end
noncomputable def zO(a:Addr)(o:Obj)(kvs:List (bx×V)):ff:=
 ⟨λi H=>H a=some (.fH o (.bX kvs))∧i<kvs.length,λi H v U=>U=H∧∃k x,v=dz k∧kvs[i]?=some (k,x),λi H=>H a=some (.fH o (.bX kvs))∧kvs.length≤i⟩
theorem Tj{P:bL}{w:bC}{H:aa}{h:Heap}{a:Addr}{o:Obj}{kvs:List (bx×V)}(ok:fp P w H h)(aI:H a=some (.fH o (.bX kvs))):h.get? a=some o∧(a==lB)=false∧o.ExactDict∧∃es ep,o.data=.dict es ep∧es.size=kvs.length∧
  ∀(i:Nat)(k:bx)(x:V),kvs[i]?=some (k,x)→∃ar:i<es.size,RelV (dz k) es[i].key:=by
 obtain⟨e0,_,y,vs,rel,cD,es,ep,az,ay,hd,_,pr,_⟩:=ok a _ aI;rw[e0]at az;cases az;have gen:∀{kvs:List (bx×V)}{ys:List (bx×Value)}{f7:List vG},fC kvs ys→Pairs (hn P w) f7 ys→f7.length=kvs.length∧∀(i:Nat)(k:bx)(x:V),kvs[i]?=some (k,x)→∃e,f7[i]?=some e∧RelV (dz k) e.key:=by
  intro kvs ys f7 rel pr
  induction pr generalizing kvs with
  |nil=>
   cases rel;exact⟨rfl,λi k x e=>by simp at e⟩
  |@cons e ck f7 ys ai aj t a7=>
   cases rel with
   |@cons p q ps mQ a b=>
    obtain⟨l,f⟩:=a7 b;refine⟨by rw[i5,i5,l],λi k x eF=>?_⟩;cases i with
    |zero=>
     simp only[aba,acy]at eF;refine⟨e,rfl,?_⟩;have az:ck.1=k:=by rw[←a.1,eF]
     rw[az]at ai;rcases pE (show vq k e.key=true from ai)with⟨n,t,rfl,f6⟩|⟨n,t,rfl,f6⟩
     .exact⟨t,f6⟩
     .exact⟨t,f6⟩
    |succ i=>exact f i k x (by simpa using eF)
 obtain⟨l,f⟩:=gen rel pr;refine⟨e0,y,ay,es,ep,hd,by simpa using l,λi k x ar=>?_⟩;obtain⟨e,Mi,r⟩:=f i k x ar;obtain⟨ai,aj⟩:=eR.mp Mi;have k':i<es.size:=by simpa using ai
 refine⟨k',?_⟩;have:es[i]=e:=by simpa using aj
 rw[this];exact r
theorem Ļ{P:bL}{w:bC}{K:aS}{d0:Expr}{o:Obj}{kvs:List (bx×V)}{es:Array vG}{ep:Nat}(a it:Addr)(hd:o.data=.dict es ep):
  Turn P w K d0 (zO a o kvs) [it] it (λi h=>h.IsKeyIter it a i es.size ep)where
 mem:=by simp
 obj:=λi h st b af=>by
  obtain rfl:b=it:=by simpa using af
  obtain⟨o,e,c,d⟩:=st;exact⟨o,e,λv z=>by rw[d]at z;cases z⟩
 keep:=λi h h' st k=>by obtain⟨o,e,r⟩:=st;exact⟨o,k it (by simp) o e,r⟩
 item:=by
  intro X gP hw f9 aG i pins s σ H E I hf st bz;subst gP hw f9;obtain⟨aI,ar⟩:=bz;obtain⟨go,_,c5,uw,uu,nq,gs,ge⟩:=Tj I.bj aI;rw[hd]at nq;cases nq;obtain⟨rf,XF⟩:∃q,kvs[i]?=some q:=⟨_,ct ar⟩
  obtain⟨Nl,tk⟩:=ge i rf.1 rf.2 XF;obtain⟨f0,f1,f2,cc,f4,eG⟩:=hf it (by simp);refine VM st ⟨o,go,c5,hd⟩ Nl λh' fc cF=>?_;have aU:Inv X pins σ H {s with heap:=h'}:=I.turned (t':=s.toks) (λb o af e=>(cF.2 b af).trans e) f0 f1 cc f4 eG;obtain⟨Z5,e,c,d⟩:=id fc;exact⟨_,rfl,yj (s:={s with heap:=h'}) e c d (by decide) ⟨dz rf.1,H,aU,tk,⟨rfl,rf.1,rf.2,rfl,XF⟩,fc,λb af=>(hf b af).1⟩⟩
 done:=by intro X gP hw f9 aG i pins s σ H E I hf st bz;subst gP hw f9;obtain⟨aI,ar⟩:=bz;obtain⟨go,_,c5,uw,uu,nq,gs,ge⟩:=Tj I.bj aI;rw[hd]at nq;cases nq;obtain⟨f0,f1,f2,cc,f4,eG⟩:=hf it (by simp);exact U4 (I.ok.hd aG) st ⟨o,go,c5,hd⟩ (by omega) λh' d8=>⟨rfl,I.turned (t':=s.toks) (λb o af e=>d8 b o af e) f0 f1 cc f4 eG⟩
 self:=λA i s Q E st h=>by have T0:=st.typeIs;refine aq8 T0 F.slot_dict_keyiterator_iter (vA F.slot_dict_keyiterator_iter T0 F.entry_dict_keyiterator_iter ?_ (F.args_dict_keyiterator_iter_1 _));exact bN ⟨_,rfl,"dict_keyiterator",_,T0,F.slot_dict_keyiterator_next.lookup,h⟩
section
variable{X:bh}{d0:Expr}
noncomputable def af4(eL:TE):TI:=λσ H R=>eL σ H λx H1=>∃a o kvs,x=.ref a∧H1 a=some (.fH o (.bX kvs))∧R (zO a o kvs) H1
theorem acd{o:Expr}{eL:TE}(bw:bJ X o eL):og X d0 o (af4 eL):=by
 intro pins s σ H R I h;refine bM (bw pins s σ H _ I h) λv s1⟨x,H1,aU,cJ,a,ob,kvs,ex,aI,bT⟩=>?_;subst ex;cases cJ;obtain⟨go,amh,c5,es,ep,nq,gs,ge⟩:=Tj aU.bj aI;refine UG amh ⟨ob,go,c5,nq⟩ ?_;refine⟨s1.heap.objs.size,[s1.heap.objs.size],_,_,H1,rfl,aU.kept (t':=s1.toks) λb o e=>dJ _ e,Ļ a _ nq,⟨_,hg _ rfl,rfl,rfl⟩,λb af=>?_,bT⟩;obtain rfl:b=s1.heap.objs.size:=by simpa using af
 exact aU.sG (bY _) (aU.bj.fresh (bY _))
end
theorem Ų{a:Addr}{o:Obj}{kvs:List (bx×V)}{g:jC}{c7:eY}{D:Ends}{σ:ag.St}{H:aa}(Pv:Nat→ag.St→aa→Prop)(h0:Pv 0 σ H)(aq:∀i σ H,Pv i σ H→H a=some (.fH o (.bX kvs)))(hs:∀i k x σ H,kvs[i]?=some (k,x)→Pv i σ H→g (dz k) σ H λhb ak=>c7 {D with cf:=Pv (i+1),fG:=Pv (i+1),hl:=D.cf} hb ak)(hd:∀σ H,Pv kvs.length σ H→D.cf σ H):
  ∃W:Nat→Nat→ag.St→aa→Prop,(∃m,W 0 m σ H)∧∀i m σ H,W i m σ H→
   ((zO a o kvs).stop i H∧D.cf σ H)∨((zO a o kvs).go i H∧∃N:ag.St→aa→Prop,(∀aY U,N aY U→∃cp,cp<m∧W (i+1) cp aY U)∧∀x U,(zO a o kvs).m4 i H x U→g x σ U λhb ak=>c7 {D with cf:=N,fG:=N,hl:=D.cf} hb ak):=by
 refine⟨λi m σ H=>m=kvs.length-i∧i≤kvs.length∧Pv i σ H,⟨kvs.length,by simp,eD _,h0⟩,?_⟩;rintro i m σ H ⟨rfl,ar,p⟩;have q:=aq i σ H p;by_cases bP:i<kvs.length
 .refine .inr ⟨⟨q,bP⟩,Pv (i+1),λaY U hY=>⟨kvs.length-(i+1),by omega,rfl,bP,hY⟩,λv U y=>?_⟩;obtain⟨rfl,k,x,rfl,f6⟩:=y;exact hs i k x σ U f6 p
 .have e:i=kvs.length:=by omega
  subst e;exact .inl ⟨⟨q,bY _⟩,hd σ H p⟩
open PySem PySem.Spec PyProof.Rows ag
theorem fU{α β:Type}{M:oc}{A:c4}{E:Value→ax→Prop}{s:ax}(c:Sem α){k:α→Sem β}{Q:β→ax→Prop}(h:a4 M A c (λa s'=>a4 M A (k a) Q E s') E s):a4 M A (c >>=k) Q E s:=aR h
theorem yz{h:Heap}{b:Addr}{o:Obj}(e:h.get? b=some o):b≠h.objs.size:=en (dK e)
theorem tc{h:Heap}{b:Addr}{o:Obj}(e:h.get? b=some o):b≠h.objs.size+1:=en (JK (dK e))
theorem ace{prog:bL}{w:bC}{A:c4}{R:ot→ax→Prop}{I:Addr}{bZ wr:List Addr}{n:Nat}{P:Nat→Value→Prop}{St:Nat→Heap→Prop}{d:Value}(W:t8 prog w A.in1 I bZ wr n P St)(e2:Nat→Nat→Bool)(aG:CmpOf prog w A.in1 .Gt P e2)(S:Addr)(iV:S∉bZ):
  ∀(k j:Nat)(s:ax)(fR:Value)(c:Nat),n-(j+1)=k→j+1≤n→St (j+1) s.heap→P (fw e2 j) fR→s.heap.get? S=some ⟨.type "list",none,.seq #[fR,fR] c,#[]⟩→
   (∀v h' aP,P (fw e2 (n-1)) v→(∀b o,b∉wr→b≠S→s.heap.get? b=some o→h'.get? b=some o)→R (.ok (.ret v)) {s with heap:=h',toks:=aP})→
   jX (bg prog w) A (.builtin "max.loop" ⟨[.ref I,.none,.ref S],[(gA "default",d)]⟩) R s:=by
 have wS:S∉wr:=λh=>iV (W.sub _ h);have nm:(toString "max"++toString ".loop":String)="max.loop":=by decide
 intro k
 induction k with
 |zero=>
  intro j s fR c aT bq st ht g5 cC;have kA:j+1=n:=by omega
  refine ov Wg ?_;rw[o5 wJ _];refine fU (tn (.ref S)) (tE g5 rfl (fU (tryCatch (jv (.ref I)) _) (m3 (W.done s _ _ (kA▸st) λh' aP bV=>?_))));refine fU (C8 S (λ_=>#[])) (tF (bV S _ wS g5) rfl (aR (o2 (bN ?_))));exact cC fR _ aP (by rw[←kA];exact ht) λb o cI c3 e=>(jz _ _ (b' c3)).trans (bV b o cI e)
 |succ k a7=>
  intro j s fR c aT bq st ht g5 cC;have lt:j+1<n:=by omega
  refine ov Wg ?_;rw[o5 wJ _];refine fU (tn (.ref S)) (tE g5 rfl (fU (tryCatch (jv (.ref I)) _) (m3 (W.item (j+1) s _ _ lt st λv h' aP ae fc bV=>?_))));have iS:=bV S _ wS g5;refine fU (tryCatch (pV [v,v] (QK .Gt v fR >>=_)) _) (m3 (lF (aR (aG (j+1) (fw e2 j) v fR _ _ _ ae ht (aR (lF (m2 (aR (o2 (bN ?_))))))))));cases af:e2 (j+1) (fw e2 j)with
  |true=>
   simp only[if_true];refine aR (tF iS rfl (aR (o2 ?_)));rw[nm];refine bN ⟨nQ wJ _,a7 (j+1) _ v _ (by omega) lt (W.frame _ _ _ fc λb ou o e=>(jz _ _ (λh:S=b=>iV (by rw[h];exact ou))).trans e) (by simp only[fw,af,if_true];exact ae) (r4 _ iS rfl) λv2 aj kg kf kb=>?_⟩;exact cC v2 aj kg kf λb o cI c3 e=>kb b o cI c3 ((jz _ _ (b' c3)).trans (bV b o cI e))
  |false=>
   simp only[o6,if_false];refine aR (o2 ?_);rw[nm];exact bN ⟨nQ wJ _,a7 (j+1) _ fR c (by omega) lt fc (by simp only[fw,af,o6,if_false];exact ht) iS λv2 aj kg kf kb=>cC v2 aj kg kf λb o cI c3 e=>kb b o cI c3 (bV b o cI e)⟩
theorem ų{prog:bL}{w:bC}{A:c4}{R:ot→ax→Prop}{I:Addr}{bZ wr:List Addr}{n:Nat}{P:Nat→Value→Prop}{St:Nat→Heap→Prop}{d:Value}(W:t8 prog w A.in1 I bZ wr n P St)(e2:Nat→Nat→Bool)(aG:CmpOf prog w A.in1 .Gt P e2)(S:Addr)(iV:S∉bZ){s:ax}{c:Nat}(st:St 0 s.heap)(g5:s.heap.get? S=some ⟨.type "list",none,.seq #[] c,#[]⟩)(h0:n=0→∀h' aP,(∀b o,b∉wr→b≠S→s.heap.get? b=some o→h'.get? b=some o)→R (.ok (.ret d)) {s with heap:=h',toks:=aP})(ai:0<n→∀v h' aP,P (fw e2 (n-1)) v→(∀b o,b∉wr→b≠S→s.heap.get? b=some o→h'.get? b=some o)→R (.ok (.ret v)) {s with heap:=h',toks:=aP}):
  jX (bg prog w) A (.builtin "max.loop" ⟨[.ref I,.none,.ref S],[(gA "default",d)]⟩) R s:=by
 have wS:S∉wr:=λh=>iV (W.sub _ h);have nm:(toString "max"++toString ".loop":String)="max.loop":=by decide
 refine ov Wg ?_;rw[o5 wJ _];refine fU (tn (.ref S)) (tE g5 rfl ?_);by_cases bB:n=0
 .refine fU (tryCatch (jv (.ref I)) _) (m3 (W.done s _ _ (bB▸st) λh' aP bV=>?_));refine aR (Sm (bN ?_));exact h0 bB h' aP λb o cI _ e=>bV b o cI e
 .refine fU (tryCatch (jv (.ref I)) _) (m3 (W.item 0 s _ _ (zL bB) st λv h' aP ae fc bV=>?_));have iS:=bV S _ wS g5;refine fU (C8 S (λ_=>#[v,v])) (tF iS rfl ?_);rw[nm];refine bN ⟨nQ wJ _,ace W e2 aG S iV _ 0 _ v _ rfl (zL bB) (W.frame _ _ _ fc λb ou o e=>(jz _ _ (λh:S=b=>iV (by rw[h];exact ou))).trans e) ae (r4 _ iS rfl) λv2 aj kg kf kb=>?_⟩;exact ai (zL bB) v2 aj kg kf λb o cI c3 e=>kb b o cI c3 ((jz _ _ (b' c3)).trans (bV b o cI e))
theorem Ŵ(a v:Value):wU "max" ⟨[a],[(gA "default",v)]⟩:=by unfold wU;kernel_rfl
theorem acf{prog:bL}{w:bC}{A:c4}{E:Value→ax→Prop}{s:ax}{l:Addr}{items:Array Value}{val:Nat→Int}{d:Value}{Q:Value→ax→Prop}(d9:A.in1.handled=none)(aq:s.heap.IsList l items)(bA:∀i v,items[i]?=some v→∃t,v=ko (val i) t)(h0:items.size=0→∀h' aP,(∀b o,s.heap.get? b=some o→h'.get? b=some o)→Q d {s with heap:=h',toks:=aP})(ai:0<items.size→∀t h' aP,(∀b o,s.heap.get? b=some o→h'.get? b=some o)→Q (ko (val (fw (λi j=>decide (val i>val j)) (items.size-1))) t) {s with heap:=h',toks:=aP}):
  a4 (bg prog w) A (call (.builtin "max") [.ref l] [(gA "default",d)]) Q E s:=by
 have nm:(toString "max"++toString ".loop":String)="max.loop":=by decide
 obtain⟨ol,lY,_⟩:=id aq;have jL:l≠s.heap.objs.size:=en (dK lY);refine We PySem.F.kind_max PySem.F.plain_max PySem.F.entry_max (Ŵ _ _) ?_;refine fU (TY "max" ["key","default"] 0 ⟨[],[(gA "default",d)]⟩) (Ds (show _=pure [none,some d]from rfl) ?_);refine aR (bN ?_);refine aR (Dt aq ?_);refine aR (qu ?_);rw[nm];have W:=EE (prog:=prog) (w:=w) (A:=A.in1) d9 s.heap.objs.size l jL items;have iq:(s.heap.push {cls:=.type "list_iterator",data:=.fields #[.ref l,.int 0 0]}).objs.size=s.heap.objs.size+1:=wh ..;have bP:=dK lY;have sI:(s.heap.push {cls:=.type "list_iterator",data:=.fields #[.ref l,.int 0 0]}).get? s.heap.objs.size=some {cls:=.type "list_iterator",data:=.fields #[.ref l,.int 0 0]}:=hg _ rfl;have ji:=aq.push {cls:=.type "list_iterator",data:=.fields #[.ref l,.int 0 0]};have k1:∀b o,s.heap.get? b=some o→(s.heap.push {cls:=.type "list_iterator",data:=.fields #[.ref l,.int 0 0]}).get? b=some o:=λb o e=>dJ _ e;dsimp only;generalize s.heap.push {cls:=.type "list_iterator",data:=.fields #[.ref l,.int 0 0]}=uO at iq sI ji k1⊢;refine bN ⟨nQ wJ _,ų W _ (CmpOf.ints_gt val bA) uO.objs.size (by rw[iq];simp only[dx,dN,or_false,not_or];exact⟨JN _,b' (tc lY)⟩) ⟨⟨_,dJ _ sI,rfl,rfl⟩,ji.push _⟩ (hg _ rfl) (λbB h' aP bV=>?_) λbB v h' aP ae bV=>?_⟩
 .exact h0 bB h' aP λb o e=>bV b o (by simp only[dx,dN,or_false];exact yz e) (by rw[iq];exact tc e) (dJ _ (k1 b o e))
 .obtain⟨et,rfl⟩:=bA _ v ae;exact ai bB et h' aP λb o e=>bV b o (by simp only[dx,dN,or_false];exact yz e) (by rw[iq];exact tc e) (dJ _ (k1 b o e))
theorem acg{prog:bL}{w:bC}{A:c4}{R:ot→ax→Prop}{I:Addr}{bZ wr:List Addr}{n:Nat}{P:Nat→Value→Prop}{St:Nat→Heap→Prop}{d:Value}(W:t8 prog w A.in1 I bZ wr n P St)(e2:Nat→Nat→Bool)(aG:CmpOf prog w A.in1 .Lt P e2)(S:Addr)(iV:S∉bZ):
  ∀(k j:Nat)(s:ax)(fR:Value)(c:Nat),n-(j+1)=k→j+1≤n→St (j+1) s.heap→P (fw e2 j) fR→s.heap.get? S=some ⟨.type "list",none,.seq #[fR,fR] c,#[]⟩→
   (∀v h' aP,P (fw e2 (n-1)) v→(∀b o,b∉wr→b≠S→s.heap.get? b=some o→h'.get? b=some o)→R (.ok (.ret v)) {s with heap:=h',toks:=aP})→
   jX (bg prog w) A (.builtin "min.loop" ⟨[.ref I,.none,.ref S],[(gA "default",d)]⟩) R s:=by
 have wS:S∉wr:=λh=>iV (W.sub _ h);have nm:(toString "min"++toString ".loop":String)="min.loop":=by decide
 intro k
 induction k with
 |zero=>
  intro j s fR c aT bq st ht g5 cC;have kA:j+1=n:=by omega
  refine ov z5 ?_;rw[o5 mi _];refine fU (tn (.ref S)) (tE g5 rfl (fU (tryCatch (jv (.ref I)) _) (m3 (W.done s _ _ (kA▸st) λh' aP bV=>?_))));refine fU (C8 S (λ_=>#[])) (tF (bV S _ wS g5) rfl (aR (o2 (bN ?_))));exact cC fR _ aP (by rw[←kA];exact ht) λb o cI c3 e=>(jz _ _ (b' c3)).trans (bV b o cI e)
 |succ k a7=>
  intro j s fR c aT bq st ht g5 cC;have lt:j+1<n:=by omega
  refine ov z5 ?_;rw[o5 mi _];refine fU (tn (.ref S)) (tE g5 rfl (fU (tryCatch (jv (.ref I)) _) (m3 (W.item (j+1) s _ _ lt st λv h' aP ae fc bV=>?_))));have iS:=bV S _ wS g5;refine fU (tryCatch (pV [v,v] (QK .Lt v fR >>=_)) _) (m3 (lF (aR (aG (j+1) (fw e2 j) v fR _ _ _ ae ht (aR (lF (m2 (aR (o2 (bN ?_))))))))));cases af:e2 (j+1) (fw e2 j)with
  |true=>
   simp only[if_true];refine aR (tF iS rfl (aR (o2 ?_)));rw[nm];refine bN ⟨nQ mi _,a7 (j+1) _ v _ (by omega) lt (W.frame _ _ _ fc λb ou o e=>(jz _ _ (λh:S=b=>iV (by rw[h];exact ou))).trans e) (by simp only[fw,af,if_true];exact ae) (r4 _ iS rfl) λv2 aj kg kf kb=>?_⟩;exact cC v2 aj kg kf λb o cI c3 e=>kb b o cI c3 ((jz _ _ (b' c3)).trans (bV b o cI e))
  |false=>
   simp only[o6,if_false];refine aR (o2 ?_);rw[nm];exact bN ⟨nQ mi _,a7 (j+1) _ fR c (by omega) lt fc (by simp only[fw,af,o6,if_false];exact ht) iS λv2 aj kg kf kb=>cC v2 aj kg kf λb o cI c3 e=>kb b o cI c3 (bV b o cI e)⟩
theorem ŵ{prog:bL}{w:bC}{A:c4}{R:ot→ax→Prop}{I:Addr}{bZ wr:List Addr}{n:Nat}{P:Nat→Value→Prop}{St:Nat→Heap→Prop}{d:Value}(W:t8 prog w A.in1 I bZ wr n P St)(e2:Nat→Nat→Bool)(aG:CmpOf prog w A.in1 .Lt P e2)(S:Addr)(iV:S∉bZ){s:ax}{c:Nat}(st:St 0 s.heap)(g5:s.heap.get? S=some ⟨.type "list",none,.seq #[] c,#[]⟩)(h0:n=0→∀h' aP,(∀b o,b∉wr→b≠S→s.heap.get? b=some o→h'.get? b=some o)→R (.ok (.ret d)) {s with heap:=h',toks:=aP})(ai:0<n→∀v h' aP,P (fw e2 (n-1)) v→(∀b o,b∉wr→b≠S→s.heap.get? b=some o→h'.get? b=some o)→R (.ok (.ret v)) {s with heap:=h',toks:=aP}):
  jX (bg prog w) A (.builtin "min.loop" ⟨[.ref I,.none,.ref S],[(gA "default",d)]⟩) R s:=by
 have wS:S∉wr:=λh=>iV (W.sub _ h);have nm:(toString "min"++toString ".loop":String)="min.loop":=by decide
 refine ov z5 ?_;rw[o5 mi _];refine fU (tn (.ref S)) (tE g5 rfl ?_);by_cases bB:n=0
 .refine fU (tryCatch (jv (.ref I)) _) (m3 (W.done s _ _ (bB▸st) λh' aP bV=>?_));refine aR (Sm (bN ?_));exact h0 bB h' aP λb o cI _ e=>bV b o cI e
 .refine fU (tryCatch (jv (.ref I)) _) (m3 (W.item 0 s _ _ (zL bB) st λv h' aP ae fc bV=>?_));have iS:=bV S _ wS g5;refine fU (C8 S (λ_=>#[v,v])) (tF iS rfl ?_);rw[nm];refine bN ⟨nQ mi _,acg W e2 aG S iV _ 0 _ v _ rfl (zL bB) (W.frame _ _ _ fc λb ou o e=>(jz _ _ (λh:S=b=>iV (by rw[h];exact ou))).trans e) ae (r4 _ iS rfl) λv2 aj kg kf kb=>?_⟩;exact ai (zL bB) v2 aj kg kf λb o cI c3 e=>kb b o cI c3 ((jz _ _ (b' c3)).trans (bV b o cI e))
theorem Ŷ(a v:Value):wU "min" ⟨[a],[(gA "default",v)]⟩:=by unfold wU;kernel_rfl
theorem ach{prog:bL}{w:bC}{A:c4}{E:Value→ax→Prop}{s:ax}{l:Addr}{items:Array Value}{val:Nat→Int}{d:Value}{Q:Value→ax→Prop}(d9:A.in1.handled=none)(aq:s.heap.IsList l items)(bA:∀i v,items[i]?=some v→∃t,v=ko (val i) t)(h0:items.size=0→∀h' aP,(∀b o,s.heap.get? b=some o→h'.get? b=some o)→Q d {s with heap:=h',toks:=aP})(ai:0<items.size→∀t h' aP,(∀b o,s.heap.get? b=some o→h'.get? b=some o)→Q (ko (val (fw (λi j=>decide (val i<val j)) (items.size-1))) t) {s with heap:=h',toks:=aP}):
  a4 (bg prog w) A (call (.builtin "min") [.ref l] [(gA "default",d)]) Q E s:=by
 have nm:(toString "min"++toString ".loop":String)="min.loop":=by decide
 obtain⟨ol,lY,_⟩:=id aq;have jL:l≠s.heap.objs.size:=en (dK lY);refine We acN acO acM (Ŷ _ _) ?_;refine fU (TY "min" ["key","default"] 0 ⟨[],[(gA "default",d)]⟩) (Ds (show _=pure [none,some d]from rfl) ?_);refine aR (bN ?_);refine aR (Dt aq ?_);refine aR (qu ?_);rw[nm];have W:=EE (prog:=prog) (w:=w) (A:=A.in1) d9 s.heap.objs.size l jL items;have iq:(s.heap.push {cls:=.type "list_iterator",data:=.fields #[.ref l,.int 0 0]}).objs.size=s.heap.objs.size+1:=wh ..;have bP:=dK lY;have sI:(s.heap.push {cls:=.type "list_iterator",data:=.fields #[.ref l,.int 0 0]}).get? s.heap.objs.size=some {cls:=.type "list_iterator",data:=.fields #[.ref l,.int 0 0]}:=hg _ rfl;have ji:=aq.push {cls:=.type "list_iterator",data:=.fields #[.ref l,.int 0 0]};have k1:∀b o,s.heap.get? b=some o→(s.heap.push {cls:=.type "list_iterator",data:=.fields #[.ref l,.int 0 0]}).get? b=some o:=λb o e=>dJ _ e;dsimp only;generalize s.heap.push {cls:=.type "list_iterator",data:=.fields #[.ref l,.int 0 0]}=uO at iq sI ji k1⊢;refine bN ⟨nQ mi _,ŵ W _ (CmpOf.ints_lt val bA) uO.objs.size (by rw[iq];simp only[dx,dN,or_false,not_or];exact⟨JN _,b' (tc lY)⟩) ⟨⟨_,dJ _ sI,rfl,rfl⟩,ji.push _⟩ (hg _ rfl) (λbB h' aP bV=>?_) λbB v h' aP ae bV=>?_⟩
 .exact h0 bB h' aP λb o e=>bV b o (by simp only[dx,dN,or_false];exact yz e) (by rw[iq];exact tc e) (dJ _ (k1 b o e))
 .obtain⟨et,rfl⟩:=bA _ v ae;exact ai bB et h' aP λb o e=>bV b o (by simp only[dx,dN,or_false];exact yz e) (by rw[iq];exact tc e) (dJ _ (k1 b o e))
noncomputable def Ο(K:aS)(f:List Int→Int)(t:fD)(eL:TE):TE:=λσ H Q=>t σ H λvs H1=>qa eL Ek σ H1 λzs ak=>∃uk a ns,zs=[uk]∧vs=[.ref a]∧aO K ak a (ns.map V.int)∧(ns=[]→Q uk ak)∧(ns≠[]→Q (.int (f ns)) ak)
theorem UI{val:Nat→Int}:∀k,fw (λi j=>decide (val i>val j)) k≤k∧∀j,j≤k→val j≤val (fw (λi j=>decide (val i>val j)) k)
 |0=>⟨bY _,λj h=>by rw[ab3.mp h];exact o9 _⟩
 |k+1=>by
  obtain⟨a,b⟩:=UI (val:=val) k;simp only[fw];by_cases h:val (k+1)>val (fw (λi j=>decide (val i>val j)) k)
  .rw[a8 (cB h)];refine⟨bY _,λj bq=>?_⟩;rcases sb j (k+1)with ai|ai
   .exact Ş (b j (by omega)) (ŝ h)
   .rw[show j=k+1 by omega];exact o9 _
  .rw[aX (by rw[dP h];exact fL)];refine⟨by omega,λj bq=>?_⟩;rcases sb j (k+1)with ai|ai
   .exact b j (by omega)
   .rw[show j=k+1 by omega];omega
theorem TN{val:Nat→Int}:∀k,fw (λi j=>decide (val i<val j)) k≤k∧∀j,j≤k→val (fw (λi j=>decide (val i<val j)) k)≤val j
 |0=>⟨bY _,λj h=>by rw[ab3.mp h];exact o9 _⟩
 |k+1=>by
  obtain⟨a,b⟩:=TN (val:=val) k;simp only[fw];by_cases h:val (k+1)<val (fw (λi j=>decide (val i<val j)) k)
  .rw[a8 (cB h)];refine⟨bY _,λj bq=>?_⟩;rcases sb j (k+1)with ai|ai
   .exact Ş (ŝ h) (b j (by omega))
   .rw[show j=k+1 by omega];exact o9 _
  .rw[aX (by rw[dP h];exact fL)];refine⟨by omega,λj bq=>?_⟩;rcases sb j (k+1)with ai|ai
   .exact b j (by omega)
   .rw[show j=k+1 by omega];omega
noncomputable def tx(ns:List Int):Int:=ns.getD (fw (λi j=>decide (ns.getD i 0>ns.getD j 0)) (ns.length-1)) 0
theorem af5:iw "max"=some (.builtin "max"):=by decide+kernel
theorem ad2{X:bh}{e aE:Expr}{p b0 pos:Pos}{t:fD}{eL:TE}(aG:X.calm=true)(bz:iJ X "max")(hm:X.mg "max"=none)(aI:hN X [e] t)(hd:bJ X aE eL)(uI:(ku pos (kE [⟨some "default",aE,b0⟩] X.env)).all (·.1.isSome)=true:=by rfl)(Nu:(ku pos (kE [⟨some "default",aE,b0⟩] X.env)).filterMap (·.1)=[gA "default"]:=by rfl)(he:dM [e] X.env=(false,eval e X.env)::dM [] X.env:=by rfl)(e6:(g0 pos (dM [e] X.env)).any (·.1)=false:=by rfl)(Nv:(ku pos (kE [⟨some "default",aE,b0⟩] X.env)).any (·.1.isNone)=false:=by rfl):
  bJ X (.Call (.Name "max" p) [e] [⟨some "default",aE,b0⟩] pos) (Ο X.K tx t eL):=by
 intro pins s σ H Q I h;refine vz (vc I bz hm af5 ?_ (by decide) (by decide));refine akn e6 Nv (evalArgs_kw2 uI (bM (aI pos pins s σ H _ I h) λus s1⟨vs,H1,aU,r,q⟩=>bM ((Uu hd Vm) pos pins s1 σ H1 _ aU q) λws s2⟨zs,ak,bI,tl,c6⟩=>?_) he);obtain⟨uk,a,ns,rfl,rfl,bb,p_,bT⟩:=c6;obtain⟨u,rfl,eP⟩:=vals1 r;obtain⟨eX,rfl,hZ⟩:=vals1 tl;cases eP;rw[Nu];obtain⟨its,cz,pl,bB⟩:=bI.list bb;have hlen:ns.length=its.length:=by have:=cz.length;rwa [a']at this
 refine acf (val:=λi=>ns.getD i 0) (items:=its.toArray) (bI.ok.hd aG) pl.isList (λi v ev=>?_) (λz h' aP bV=>?_) λz t h' aP bV=>?_
 .have qU:its[i]?=some v:=by simpa using ev
  have ar:i<ns.length:=by rw[hlen];exact(eR.mp qU).1
  obtain⟨u',bR,cE⟩:=cz.get (x:=V.int (ns.getD i 0)) (i:=i) (by rw[cL,ct ar];simp[cH,ar]);rw[qU]at bR;cases bR;exact cE
 .have dp:ns=[]:=zC.mp (by rw[hlen];simpa using z);exact⟨uk,ak,bI.kept bV,hZ,p_ dp⟩
 .have dp:ns≠[]:=λe=>by rw[e]at hlen;have:its=[]:=zC.mp hlen.symm;rw[this]at z;simp at z
  refine⟨.int (tx ns),ak,bI.kept bV,⟨t,?_⟩,bT dp⟩;unfold tx;rw[hlen];simp
noncomputable def lh(ns:List Int):Int:=ns.getD (fw (λi j=>decide (ns.getD i 0<ns.getD j 0)) (ns.length-1)) 0
theorem af6:iw "min"=some (.builtin "min"):=by decide+kernel
theorem ad3{X:bh}{e aE:Expr}{p b0 pos:Pos}{t:fD}{eL:TE}(aG:X.calm=true)(bz:iJ X "min")(hm:X.mg "min"=none)(aI:hN X [e] t)(hd:bJ X aE eL)(uI:(ku pos (kE [⟨some "default",aE,b0⟩] X.env)).all (·.1.isSome)=true:=by rfl)(Nu:(ku pos (kE [⟨some "default",aE,b0⟩] X.env)).filterMap (·.1)=[gA "default"]:=by rfl)(he:dM [e] X.env=(false,eval e X.env)::dM [] X.env:=by rfl)(e6:(g0 pos (dM [e] X.env)).any (·.1)=false:=by rfl)(Nv:(ku pos (kE [⟨some "default",aE,b0⟩] X.env)).any (·.1.isNone)=false:=by rfl):
  bJ X (.Call (.Name "min" p) [e] [⟨some "default",aE,b0⟩] pos) (Ο X.K lh t eL):=by
 intro pins s σ H Q I h;refine vz (vc I bz hm af6 ?_ (by decide) (by decide));refine akn e6 Nv (evalArgs_kw2 uI (bM (aI pos pins s σ H _ I h) λus s1⟨vs,H1,aU,r,q⟩=>bM ((Uu hd Vm) pos pins s1 σ H1 _ aU q) λws s2⟨zs,ak,bI,tl,c6⟩=>?_) he);obtain⟨uk,a,ns,rfl,rfl,bb,p_,bT⟩:=c6;obtain⟨u,rfl,eP⟩:=vals1 r;obtain⟨eX,rfl,hZ⟩:=vals1 tl;cases eP;rw[Nu];obtain⟨its,cz,pl,bB⟩:=bI.list bb;have hlen:ns.length=its.length:=by have:=cz.length;rwa [a']at this
 refine ach (val:=λi=>ns.getD i 0) (items:=its.toArray) (bI.ok.hd aG) pl.isList (λi v ev=>?_) (λz h' aP bV=>?_) λz t h' aP bV=>?_
 .have qU:its[i]?=some v:=by simpa using ev
  have ar:i<ns.length:=by rw[hlen];exact(eR.mp qU).1
  obtain⟨u',bR,cE⟩:=cz.get (x:=V.int (ns.getD i 0)) (i:=i) (by rw[cL,ct ar];simp[cH,ar]);rw[qU]at bR;cases bR;exact cE
 .have dp:ns=[]:=zC.mp (by rw[hlen];simpa using z);exact⟨uk,ak,bI.kept bV,hZ,p_ dp⟩
 .have dp:ns≠[]:=λe=>by rw[e]at hlen;have:its=[]:=zC.mp hlen.symm;rw[this]at z;simp at z
  refine⟨.int (lh ns),ak,bI.kept bV,⟨t,?_⟩,bT dp⟩;unfold lh;rw[hlen];simp
theorem af7{ns:List Int}(h:ns≠[]):tx ns∈ns∧∀x∈ns,x≤tx ns:=by
 have aW:0<ns.length:=tU.mpr h;obtain⟨a,b⟩:=UI (val:=λi=>ns.getD i 0) (ns.length-1);have ar:fw (λi j=>decide (ns.getD i 0>ns.getD j 0)) (ns.length-1)<ns.length:=by omega
 refine⟨?_,λx ay=>?_⟩
 .unfold tx;rw[cH,ct ar];exact jA ar
 .obtain⟨j,bq,rfl⟩:=Jz.mp ay;have:=b j (by omega);have e:ns.getD j 0=ns[j]:=by rw[cH,ct bq];rfl
  rw[←e];exact this
theorem Iv{ns:List Int}(h:ns≠[]):lh ns∈ns∧∀x∈ns,lh ns≤x:=by
 have aW:0<ns.length:=tU.mpr h;obtain⟨a,b⟩:=TN (val:=λi=>ns.getD i 0) (ns.length-1);have ar:fw (λi j=>decide (ns.getD i 0<ns.getD j 0)) (ns.length-1)<ns.length:=by omega
 refine⟨?_,λx ay=>?_⟩
 .unfold lh;rw[cH,ct ar];exact jA ar
 .obtain⟨j,bq,rfl⟩:=Jz.mp ay;have:=b j (by omega);have e:ns.getD j 0=ns[j]:=by rw[cH,ct bq];rfl
  rw[←e];exact this
theorem ŷ{prog:bL}{w:bC}{A:c4}{R:ot→ax→Prop}{I:Addr}{bZ wr:List Addr}{n:Nat}{P:Nat→Value→Prop}{St:Nat→Heap→Prop}(W:t8 prog w A.in1 I bZ wr n P St)(e2:Nat→Nat→Bool)(aG:CmpOf prog w A.in1 .Lt P e2)(S:Addr)(iV:S∉bZ):
  ∀(k j:Nat)(s:ax)(fR:Value)(c:Nat),n-(j+1)=k→j+1≤n→St (j+1) s.heap→P (fw e2 j) fR→s.heap.get? S=some ⟨.type "list",none,.seq #[fR,fR] c,#[]⟩→
   (∀v h' aP,P (fw e2 (n-1)) v→(∀b o,b∉wr→b≠S→s.heap.get? b=some o→h'.get? b=some o)→R (.ok (.ret v)) {s with heap:=h',toks:=aP})→
   jX (bg prog w) A (.builtin "min.loop" ⟨[.ref I,.none,.ref S],[]⟩) R s:=by
 have wS:S∉wr:=λh=>iV (W.sub _ h);have nm:(toString "min"++toString ".loop":String)="min.loop":=by decide
 intro k
 induction k with
 |zero=>
  intro j s fR c aT bq st ht g5 cC;have kA:j+1=n:=by omega
  refine ov z5 ?_;rw[o5 mi _];refine fU (tn (.ref S)) (tE g5 rfl (fU (tryCatch (jv (.ref I)) _) (m3 (W.done s _ _ (kA▸st) λh' aP bV=>?_))));refine fU (C8 S (λ_=>#[])) (tF (bV S _ wS g5) rfl (aR (o2 (bN ?_))));exact cC fR _ aP (by rw[←kA];exact ht) λb o cI c3 e=>(jz _ _ (b' c3)).trans (bV b o cI e)
 |succ k a7=>
  intro j s fR c aT bq st ht g5 cC;have lt:j+1<n:=by omega
  refine ov z5 ?_;rw[o5 mi _];refine fU (tn (.ref S)) (tE g5 rfl (fU (tryCatch (jv (.ref I)) _) (m3 (W.item (j+1) s _ _ lt st λv h' aP ae fc bV=>?_))));have iS:=bV S _ wS g5;refine fU (tryCatch (pV [v,v] (QK .Lt v fR >>=_)) _) (m3 (lF (aR (aG (j+1) (fw e2 j) v fR _ _ _ ae ht (aR (lF (m2 (aR (o2 (bN ?_))))))))));cases af:e2 (j+1) (fw e2 j)with
  |true=>
   simp only[if_true];refine aR (tF iS rfl (aR (o2 ?_)));rw[nm];refine bN ⟨nQ mi _,a7 (j+1) _ v _ (by omega) lt (W.frame _ _ _ fc λb ou o e=>(jz _ _ (λh:S=b=>iV (by rw[h];exact ou))).trans e) (by simp only[fw,af,if_true];exact ae) (r4 _ iS rfl) λv2 aj kg kf kb=>?_⟩;exact cC v2 aj kg kf λb o cI c3 e=>kb b o cI c3 ((jz _ _ (b' c3)).trans (bV b o cI e))
  |false=>
   simp only[o6,if_false];refine aR (o2 ?_);rw[nm];exact bN ⟨nQ mi _,a7 (j+1) _ fR c (by omega) lt fc (by simp only[fw,af,o6,if_false];exact ht) iS λv2 aj kg kf kb=>cC v2 aj kg kf λb o cI c3 e=>kb b o cI c3 (bV b o cI e)⟩
theorem ļ{prog:bL}{w:bC}{A:c4}{R:ot→ax→Prop}{I:Addr}{bZ wr:List Addr}{n:Nat}{P:Nat→Value→Prop}{St:Nat→Heap→Prop}(W:t8 prog w A.in1 I bZ wr n P St)(e2:Nat→Nat→Bool)(aG:CmpOf prog w A.in1 .Lt P e2)(S:Addr)(iV:S∉bZ){s:ax}{c:Nat}(st:St 0 s.heap)(g5:s.heap.get? S=some ⟨.type "list",none,.seq #[] c,#[]⟩)(bB:0<n)(ai:∀v h' aP,P (fw e2 (n-1)) v→(∀b o,b∉wr→b≠S→s.heap.get? b=some o→h'.get? b=some o)→R (.ok (.ret v)) {s with heap:=h',toks:=aP}):
  jX (bg prog w) A (.builtin "min.loop" ⟨[.ref I,.none,.ref S],[]⟩) R s:=by
 have wS:S∉wr:=λh=>iV (W.sub _ h);have nm:(toString "min"++toString ".loop":String)="min.loop":=by decide
 refine ov z5 ?_;rw[o5 mi _];refine fU (tn (.ref S)) (tE g5 rfl ?_);refine fU (tryCatch (jv (.ref I)) _) (m3 (W.item 0 s _ _ bB st λv h' aP ae fc bV=>?_));have iS:=bV S _ wS g5;refine fU (C8 S (λ_=>#[v,v])) (tF iS rfl ?_);rw[nm];refine bN ⟨nQ mi _,ŷ W e2 aG S iV _ 0 _ v _ rfl bB (W.frame _ _ _ fc λb ou o e=>(jz _ _ (λh:S=b=>iV (by rw[h];exact ou))).trans e) ae (r4 _ iS rfl) λv2 aj kg kf kb=>?_⟩;exact ai v2 aj kg kf λb o cI c3 e=>kb b o cI c3 ((jz _ _ (b' c3)).trans (bV b o cI e))
theorem Ÿ(a:Value):wU "min" ⟨[a],[]⟩:=by unfold wU;kernel_rfl
theorem aci{prog:bL}{w:bC}{A:c4}{E:Value→ax→Prop}{s:ax}{l:Addr}{items:Array Value}{val:Nat→Int}{Q:Value→ax→Prop}(d9:A.in1.handled=none)(aq:s.heap.IsList l items)(bA:∀i v,items[i]?=some v→∃t,v=ko (val i) t)(bB:0<items.size)(ai:∀t h' aP,(∀b o,s.heap.get? b=some o→h'.get? b=some o)→Q (ko (val (fw (λi j=>decide (val i<val j)) (items.size-1))) t) {s with heap:=h',toks:=aP}):
  a4 (bg prog w) A (call (.builtin "min") [.ref l] []) Q E s:=by
 have nm:(toString "min"++toString ".loop":String)="min.loop":=by decide
 obtain⟨ol,lY,_⟩:=id aq;have jL:l≠s.heap.objs.size:=en (dK lY);refine We acN acO acM (Ÿ _) ?_;refine fU (TY "min" ["key","default"] 0 ⟨[],[]⟩) (Ds (show _=pure [none,none]from rfl) ?_);refine aR (bN ?_);refine aR (Dt aq ?_);refine aR (qu ?_);rw[nm];have W:=EE (prog:=prog) (w:=w) (A:=A.in1) d9 s.heap.objs.size l jL items;have iq:(s.heap.push {cls:=.type "list_iterator",data:=.fields #[.ref l,.int 0 0]}).objs.size=s.heap.objs.size+1:=wh ..;have bP:=dK lY;have sI:(s.heap.push {cls:=.type "list_iterator",data:=.fields #[.ref l,.int 0 0]}).get? s.heap.objs.size=some {cls:=.type "list_iterator",data:=.fields #[.ref l,.int 0 0]}:=hg _ rfl;have ji:=aq.push {cls:=.type "list_iterator",data:=.fields #[.ref l,.int 0 0]};have k1:∀b o,s.heap.get? b=some o→(s.heap.push {cls:=.type "list_iterator",data:=.fields #[.ref l,.int 0 0]}).get? b=some o:=λb o e=>dJ _ e;dsimp only;generalize s.heap.push {cls:=.type "list_iterator",data:=.fields #[.ref l,.int 0 0]}=uO at iq sI ji k1⊢;refine bN ⟨nQ mi _,ļ W _ (CmpOf.ints_lt val bA) uO.objs.size (by rw[iq];simp only[dx,dN,or_false,not_or];exact⟨JN _,b' (tc lY)⟩) ⟨⟨_,dJ _ sI,rfl,rfl⟩,ji.push _⟩ (hg _ rfl) bB λv h' aP ae bV=>?_⟩;obtain⟨et,rfl⟩:=bA _ v ae;exact ai et h' aP λb o e=>bV b o (by simp only[dx,dN,or_false];exact yz e) (by rw[iq];exact tc e) (dJ _ (k1 b o e))
theorem ó{X:bh}(aG:X.calm=true):j' X (.builtin "min") (λxs H Q=>∃a ns,xs=[.ref a]∧aO X.K H a (ns.map V.int)∧ns≠[]∧Q (.int (lh ns)) H):=by
 intro pins s σ H xs us Q I r h;obtain⟨a,ns,rfl,bb,dp,q⟩:=h;obtain⟨u,rfl,eP⟩:=vals1 r;cases eP;obtain⟨its,cz,pl,bB⟩:=I.list bb;have hlen:ns.length=its.length:=by have:=cz.length;rwa [a']at this
 refine aci (val:=λi=>ns.getD i 0) (items:=its.toArray) (I.ok.hd aG) pl.isList (λi v ev=>?_) (by rw[gh,←hlen];exact tU.mpr dp) λt h' aP bV=>?_
 .have qU:its[i]?=some v:=by simpa using ev
  have ar:i<ns.length:=by rw[hlen];exact(eR.mp qU).1
  obtain⟨u',bR,cE⟩:=cz.get (x:=V.int (ns.getD i 0)) (i:=i) (by rw[cL,ct ar];simp[cH,ar]);rw[qU]at bR;cases bR;exact cE
 .refine⟨.int (lh ns),H,I.kept bV,⟨t,?_⟩,q⟩;unfold lh;rw[hlen];simp
end cq
namespace fq
open PySem ag cq aN
noncomputable def TabAt(H:aa)(p:Addr)(D:Str→Option Int):Prop:=∃kvs,a5 H p (.bX kvs)∧Tab kvs D
theorem TabAt.get{H:aa}{p:Addr}{D:Str→Option Int}(T:TabAt H p D)(g:Str):ig H p (.str g) ((D g).map V.int):=by obtain⟨kvs,r,t⟩:=T;exact .inl ⟨kvs,e' g,r,rfl,(t.at_ g).symm⟩
noncomputable def wW(Da Db:Str→Option Int)(g:Str)(t:Int):Bool:=match Db g with
 |none=>false
 |some u=>decide (some (t+u)=Da g)
inductive af8(vs:(List ag.V))(H:aa)(Q:a6)(bl:b6):Prop where
 |mk (r f eI ht:Addr) (hs:List (List Nat)) (d:aN.a5) (kvs:List (bx×ag.V)) (g:Str) (Da Db:Str→Option Int) (bW:vs=[.ref r,.ref f,.str g]) (bG:H r=some (.tup (nS hs d))) (b4:H f=some (.bX kvs)) (cM:cU kvs (e' (S (hs.getD d.a [])):bx)=some (.ref eI)) (d3:cU kvs (e' (S (hs.getD d.b [])):bx)=some (.ref ht)) (fK:TabAt H eI Da) (iZ:TabAt H ht Db) (m5:(∀u,Db g=some u→∃v,Da g=some v)) (qy:Q (.aV (wW Da Db g d.t)) H)
noncomputable def JP:b8:=λvs H Q bl=>af8 vs H Q bl
noncomputable abbrev hX(hs:List (List Nat))(ds:List aN.a5)(h:Str):Str→Option Int:=λg=>dC.dist (jd hs ds) h g
noncomputable def HL(hs:List (List Nat))(ds:List aN.a5)(i:Int):Str:=S (hs.getD (ds.getD i.toNat eN).b [])
noncomputable def rU(hs:List (List Nat))(ds:List aN.a5)(h g:Str)(i:Int):Bool:=wW (hX hs ds h) (hX hs ds (HL hs ds i)) g (ds.getD i.toNat eN).t
noncomputable def fit(hs:List (List Nat))(ds:List aN.a5)(h g:Str):List Int:=(lD hs ds (·.a) h).filter (rU hs ds h g)
noncomputable def best(hs:List (List Nat))(ds:List aN.a5)(h g:Str):Int:=lh (fit hs ds h g)
theorem V2{hs:List (List Nat)}{ds:List aN.a5}(pO:∀e∈jd hs ds,1≤e.t){h g:Str}{v:Int}(bA:hX hs ds h g=some v)(aw:h≠g):fit hs ds h g≠[]:=by
 obtain⟨_,e,he,u,bc,Av,ev⟩:=(dC.Mv pO g).other pO aw bA;obtain⟨d,hd,rfl⟩:=cw.mp he;obtain⟨i,ar⟩:=me hd;have aq:=(eR.mp ar).1;have e0:ds.getD i eN=d:=sZ ar;refine abi (a:=(i:Int)) (ea.mpr ⟨?_,?_⟩)
 .unfold lD Iu;refine cw.mpr ⟨i,ea.mpr ⟨gZ.mpr aq,?_⟩,rfl⟩;have Xy:S (hs.getD d.a [])=h:=bc;rw[e0,Xy];exact cB rfl
 .unfold rU wW HL;rw[m8,e0];have alX:hX hs ds (S (hs.getD d.b [])) g=some u:=Av;have qU:v=u+d.t:=ev;rw[alX,bA];refine cB ?_;congr 1;omega
theorem TO{hs:List (List Nat)}{ds:List aN.a5}(pO:∀e∈jd hs ds,1≤e.t){h g:Str}{v:Int}(bA:hX hs ds h g=some v)(aw:h≠g):best hs ds h g∈lD hs ds (·.a) h∧rU hs ds h g (best hs ds h g)=true:=
 ea.mp (Iv (V2 pO bA aw)).1
structure n6(i':Str→Str→Int)(L:List Str)(kvs:c2)(M:Str→Str→Prop):Prop where
 yes:∀h g,M h g→cU kvs (gH h g)=some (.int (i' h g))
 no:∀h g,¬M h g→cU kvs (gH h g)=none
 key:∀k∈kvs.map (·.1),∃h g,k=gH h g∧h∈L∧g∈L
 aF:(kvs.map (·.1)).Nodup
theorem Il{h g h' g':Str}(e:gH h g=gH h' g'):h=h'∧g=g':=by unfold gH at e;simp only[Jo,Sum.inr.injEq,and_true]at e;exact e
theorem T6{κ:Type}[DecidableEq κ]{kvs:List (κ×ag.V)}{k:κ}{u:ag.V}(v:ag.V)(h:cU kvs k=some u):(eJ kvs k v).map (·.1)=kvs.map (·.1):=by unfold eJ;rw[a8 (by rw[oC,h];rfl),gJ];refine tV λq _=>?_;show(if q.1=k then(q.1,v)else q).1=q.1;split<;>rfl
theorem n6.put{i':Str→Str→Int}{L:List Str}{kvs:c2}{M:Str→Str→Prop}(B:n6 i' L kvs M){h g:Str}(d9:h∈L)(bz:g∈L):n6 i' L (eJ kvs (gH h g) (.int (i' h g))) (λh' g'=>M h' g'∨(h'=h∧g'=g)):=by
 refine⟨λh' g' m=>?_,λh' g' m=>?_,?_,?_⟩
 .rw[Ca];by_cases e:gH h' g'=gH h g
  .obtain⟨rfl,rfl⟩:=Il e;rw[a8 rfl]
  .rw[aX e];refine B.yes h' g' (m.resolve_right λz=>e ?_);rw[z.1,z.2]
 .rw[Ca,aX λe=>m (.inr (Il e))];exact B.no h' g' λz=>m (.inl z)
 .intro k aT;cases bA:cU kvs (gH h g)with
  |none=>
   rw[Cb _ bA,eC]at aT;rcases hv.mp aT with z|z
   .exact B.key k z
   .exact⟨h,g,gK.mp z,d9,bz⟩
  |some u=>
   rw[T6 _ bA]at aT;exact B.key k aT
 .cases bA:cU kvs (gH h g)with
  |none=>exact adi _ B.aF bA
  |some u=>rw[T6 _ bA];exact B.aF
theorem n6.iff{i':Str→Str→Int}{L:List Str}{kvs:c2}{M Eb:Str→Str→Prop}(B:n6 i' L kvs M)(e:∀h g,M h g↔Eb h g):n6 i' L kvs Eb:=
 ⟨λh g m=>B.yes h g ((e h g).mpr m),λh g m=>B.no h g λz=>m ((e h g).mp z),B.key,B.aF⟩
theorem n6.b9{i':Str→Str→Int}{L:List Str}{kvs:c2}{M:Str→Str→Prop}(B:n6 i' L kvs M)(aq:L.length≤12):kvs.length≤144:=by
 have ai:=ox (L:=L.flatMap λh=>L.map (gH h)) B.aF λk aT=>by obtain⟨h,g,rfl,d9,bz⟩:=B.key k aT;exact List.mem_flatMap.mpr ⟨h,d9,cw.mpr ⟨g,bz,rfl⟩⟩
 have aj:(L.flatMap λh=>L.map (gH h)).length=L.length*L.length:=by simp[List.length_flatMap,List.map_const']
 rw[aj,a']at ai;exact el ai (ab6 aq aq)
theorem ad4{H U:aa}{a:Addr}(aA:aH H U)(z:d1):aH (upd H a z) (upd U a z):=λb o e=>by
 by_cases af:b=a
 .rw[af,aQ]at e⊢;exact e
 .rw[aD af]at e⊢;exact aA b o e
theorem abZ{H U:aa}{a:Addr}{u z:d1}(aI:H a=some u)(aA:aH (upd H a z) U):aH H (upd U a u):=λb o e=>by
 by_cases af:b=a
 .rw[af,aQ];rw[af,aI]at e;exact e
 .rw[aD af];exact aA b o (by rw[aD af];exact e)
section
variable{P:bL}{w:bC}{K:aS}{mg:Str→Option Value}{base:Heap}
noncomputable abbrev zJ:Stmt:=top 54
theorem WR:cT ["road","far_from","goal","behind"] ["road","far_from","goal"] (cy zJ):=⟨rfl,rfl,rfl,by decide+kernel,rfl,by decide+kernel,by decide+kernel⟩
theorem af9{f:Addr}{fd:b5}(F:a_ K "begins_shortest" "begins_shortest" zJ f fd):aB P w K mg base aM 1 f fd ["road","far_from","goal"] JP:=by
 refine F.ok WR (λvs H Q E h=>?_) (λcdv A outer s H vs Q E au h=>?_)
 .obtain⟨r,qV,eI,ht,hs,d,kvs,g,Da,Db,rfl,_⟩:=h;rfl
 .obtain⟨r,qV,eI,ht,hs,d,kvs,g,Da,Db,rfl,cC,hf,ki,fR,pq,ez,bA,q⟩:=h;refine⟨_,(a9 (c9 (i:=3) WR.aF rfl (cu rfl) (RT (jo au) (sX (jo au) (ae 1) (b_ dE (ae 0) ba (λ_ _=>rfl)) (λ_ _=>rfl)) (ae 2) ⟨rfl,rfl,rfl,rfl⟩))
   (bu (cO (gN (ix HR (ae 3) k9 (eh _)) (j4 (ix l2 (cS hS (b_ dE (ae 0) ba (λ_ _=>rfl)) (ae 3)) (sX (jo au) (sX (jo au) (ae 1) (b_ dE (ae 0) ba (λ_ _=>rfl)) (λ_ _=>rfl)) (ae 2) (λ_ _=>rfl)) (eh _))))))),?_⟩
  have ga:=ig.k (k:=e' (S (hs.getD d.a []))) hf;have uC:=ig.k (k:=e' (S (hs.getD d.b []))) hf;rw[ki]at ga;rw[fR]at uC;have b3:=pq.get g;have c7:=ez.get g;unfold wW at q;have OJ:zx H ht:=by obtain⟨OV,r0,_⟩:=ez;exact .inl ⟨OV,r0⟩
  refine⟨_,rfl,_,rfl,r,_,_,_,rfl,rfl,b1.of cC,rfl,qV,_,rfl,uC,ht,rfl,OJ,_,rfl,_,c7,_,rfl,?_⟩;cases af:Db g with
  |none=>
   rw[af]at q;exact⟨rfl,_,rfl,fO (by decide) q⟩
  |some u=>
   rw[af]at q;obtain⟨v,bA⟩:=bA u af;have Yc:=b3;rw[bA]at Yc q;refine⟨rfl,_,rfl,eE (by simp) ⟨_,rfl,r,_,_,_,rfl,rfl,b1.of cC,rfl,_,rfl,_,_,rfl,rfl,_,rfl,_,rfl,r,_,_,_,rfl,rfl,b1.of cC,rfl,qV,_,rfl,ga,_,rfl,eI,_,rfl,Yc,rfl,?_⟩⟩;have Mi:decide (V.int (d.t+u)=V.int v)=decide (some ((d.t:Int)+u)=some v):=by simp
   rw[Mi];exact q
end
open PySem ag cq aN
theorem T7{hs:List (List Nat)}{y:Str}(h:y∈hs.map S):inD (.str y) (bO hs)=true:=by
 obtain⟨x,ay,rfl⟩:=cw.mp h;obtain⟨k,aT,f6⟩:=pe ay;have e:hs.getD k []=x:=by rw[cH,ct aT,f6];rfl
 have:=aeh aT
 rwa [e]at this
theorem H2{hs:List (List Nat)}{h g:Str}(a:h∈hs.map S)(b:g∈hs.map S)(n:h≠g):jE (bO hs) (.str h) (.str g)=true:=by unfold jE;rw[T7 a,T7 b,TK,dP n];rfl
theorem nD{H:aa}{hs:List (List Nat)}(G:Good hs){c:Str}(h:c∈hs.map S):dD H (.str c) (.str c):=by obtain⟨x,ay,rfl⟩:=cw.mp h;have n:=G.nm x ay;exact .str _ (by rw[DJ];have:=n.2.1;omega) (TQ n)
noncomputable def WS(H1 H:aa)(q:Addr)(mr:List (bx×ag.V))(hs:List (List Nat))(ds:List aN.a5)(h:Str):Prop:=∃(p:Addr)(ck:List (bx×ag.V)),cU mr (e' h:bx)=some (.ref p)∧p≠q∧H1 p=none∧H p=some (.bX ck)∧Tab ck (hX hs ds h)
theorem mF{H U:aa}{p:Addr}(aA:aH H U)(aW:U p=none):H p=none:=by
 cases e:H p with
 |none=>rfl
 |some o=>rw[aA _ _ e]at aW;cases aW
theorem gb{H:aa}{a b:Addr}{o:d1}(aI:H a=some o)(af:H b=none):a≠b:=λe=>by rw[e,af]at aI;cases aI
theorem Xf{hs:List (List Nat)}{i:Nat}{v:ag.V}(e:(dn hs)[i]?=some v):∃h,v=.str h∧(hs.map S)[i]?=some h:=by unfold dn at e;rw[cL]at e;obtain⟨x,ay,rfl⟩:=ew.mp e;exact⟨S x,rfl,by rw[cL,ay];rfl⟩
theorem ô{κ:Type}[DecidableEq κ]{k:κ}{x:ag.V}:∀{kvs:List (κ×ag.V)},(k,x)∈kvs→(cU kvs k).isSome=true:=λ{kvs}h=>by rw[←oC];exact pb.mpr ⟨_,h,cB rfl⟩
theorem õ{κ:Type}[DecidableEq κ]{k:κ}{kvs:List (κ×ag.V)}(h:(cU kvs k).isSome=true):∃(j:Nat)(x:ag.V),kvs[j]?=some (k,x):=by rw[←oC]at h;obtain⟨⟨gx,x⟩,hm,e⟩:=pb.mp h;obtain⟨j,bq⟩:=me hm;exact⟨j,x,by rw[bq,show gx=k from ju e]⟩
theorem ad5{hs:List (List Nat)}{ds:List aN.a5}(R:∀d∈ds,d.Ok hs.length){h g:Str}{u:Int}(p:dC.Path (jd hs ds) h g u)(hm:h∈hs.map S):g∈hs.map S:=by
 cases p with
 |nil=>exact hm
 |snoc e _ he=>
  obtain⟨d,hd,rfl⟩:=cw.mp he;exact oI (R d hd).b
theorem T8{hs:List (List Nat)}{ds:List aN.a5}{h:Str}{i:Nat}{v:ag.V}(e:((lD hs ds (·.a) h).map V.int)[i]?=some v):∃(k:Nat)(d:aN.a5),v=.int (k:Int)∧ds[k]?=some d∧S (hs.getD d.a [])=h:=by obtain⟨z,bB,rfl⟩:=cw.mp (dY e);unfold lD Iu at bB;obtain⟨k,aT,rfl⟩:=cw.mp bB;obtain⟨ai,aj⟩:=ea.mp aT;have aq:=gZ.mp ai;have az:ds[k]?=some ds[k]:=ct aq;refine⟨k,ds[k],rfl,az,?_⟩;rw[sZ az]at aj;have:=ju aj;cases this;rfl
theorem H3{b7:TE}{g:jC}{u:eY}{D:Ends}{σ:ag.St}{H:aa}(h:b7 σ H λv H1=>g v σ H1 (u D)):kd (rR b7 g) u D σ H:=h
theorem ad6{K:aS}{wi:TI}{cs:List (Option Nat)}{tt:TT}{b7:TE}{σ rest:ag.St}{H:aa}{Q:a6}{xs:List ag.V}(hw:∀R:ff→aa→Prop,(∀p H1,H p=none→aH H H1→H1 p=some (.lst xs)→R (i3 K p) H1)→wi σ H R)(fl:gQ cs σ=none::rest)(aq:xs.length<sizeLine)(p:ag.V→Bool)(f:ag.V→ag.V)(test:∀(i:Nat)(x:ag.V)(ak:aa)(R:Bool→aa→Prop),xs[i]?=some x→aH H ak→(∀bK,aH ak bK→R (p x) bK)→tt (some x::rest) ak R)(elt:∀(i:Nat)(x:ag.V)(ak:aa)(R:a6),xs[i]?=some x→p x=true→aH H ak→(∀bK,aH ak bK→R (f x) bK)→b7 (some x::rest) ak R)(fin:∀(D:Addr)(U:aa),H D=none→U D=some (.lst ((xs.filter p).map f))→aH H U→Q (.ref D) U):lC wi cs (g4 0) tt b7 σ H Q:=
 hw _ λq H1 atv s1 bb=>Jj fl (nj (aO.of bb)) aq p f (λi x ak R ex aA h=>test i x ak R ex (s1.trans aA) h) (λi x ak R ex apu aA h=>elt i x ak R ex apu (s1.trans aA) h) λD U nM bO aA=>fin D U (mF s1 nM) bO (s1.trans aA)
noncomputable def Told(hs:List (List Nat))(ds:List aN.a5)(i:Nat)(h g:Str):Prop:=(∃j,j<i∧(hs.map S)[j]?=some h)∧h≠g∧(hX hs ds h g).isSome=true
structure kv(hs:List (List Nat))(ds:List aN.a5)(kvs:c2):Prop where
 i':n6 (best hs ds) (hs.map S) kvs (λh g=>h∈hs.map S∧h≠g∧(hX hs ds h g).isSome=true)
section
variable{P:bL}{w:bC}{K:aS}{mg:Str→Option Value}{base:Heap}
noncomputable abbrev x6:Stmt:=top 55
theorem rX:cT ["net","roads","far_from","house","ways","goal","fitting"] ["net"] (cy x6):=⟨rfl,rfl,rfl,by decide+kernel,rfl,by decide+kernel,by decide+kernel⟩
inductive ahy(C aC:Addr)(vs:(List ag.V))(H:aa)(Q:a6)(bl:b6):Prop where
 |mk (n aZ a3:Addr) (hs:List (List Nat)) (rs:List Addr) (ds:List aN.a5) (bW:vs=[.ref n]) (bG:ib aC H n aZ a3 (dn hs) (aK rs)) (b4:Good hs) (cM:gL H hs rs ds) (d3:rs.length≤40) (fK:∀(x t:Addr)(U:aa)(kvs:c2),H x=none→H t=none→aH H U→l0 C aC U x n t aZ a3 (dn hs) (aK rs) kvs→kv hs ds kvs→Q (.ref x) U)
noncomputable def Eo(C aC:Addr):b8:=λvs H Q bl=>ahy C aC vs H Q bl
inductive ahU(n fb e8 lr:Addr)(hs:List (List Nat))(ds:List aN.a5)(H1:aa)(i:Nat)(σ:ag.St)(bU:aa):Prop where
 |mk (mr:List (bx×ag.V)) (vv:Option ag.V) (bW:σ=[some (.ref n),some (.ref fb),some (.ref e8),vv,none,none,none]) (bG:aH H1 bU) (b4:bU lr=some (.lst (dn hs))) (cM:bU e8=some (.bX mr)) (d3:mr.length≤i) (fK:∀j h,j<i→(hs.map S)[j]?=some h→WS H1 bU e8 mr hs ds h)
inductive ahV(C ah n fb e8 x t gS:Addr)(hs:List (List Nat))(ds:List aN.a5)(bU:aa)(i:Nat)(σ:ag.St)(fB:aa):Prop where
 |mk (kvs:c2) (vv oY nZ:Option ag.V) (bW:σ=[some (.ref n),some (.ref fb),some (.ref e8),vv,some (.ref x),oY,nZ]) (bG:aH bU fB) (b4:fB gS=some (.lst (dn hs))) (cM:fB x=some (.ins C ah (qg n t))) (d3:fB t=some (.eO kvs)) (fK:n6 (best hs ds) (hs.map S) kvs (Told hs ds i))
theorem ahz{C aC fu gi f f1 f2 cc f4 eG Ax uz:Addr}{fd cg c_ e5 j2 oy A3 XT:b5}(F:a_ K "shortest" "shortest" x6 f fd)(B:fo mg)(cm:tw K C)(fx:d_ K aC)(SI:mg "Ways"=some (.ref C))(lO:cR K aC "houses" "Net.houses" uY ["self"] f1 cg)(pA:aB P w K mg base aM 1 f1 cg ["self"] (B2 aC))(sA:cR K aC "roads" "Net.roads" xR ["self"] f2 c_)(xo:aB P w K mg base aM 1 f2 c_ ["self"] (Ho aC))(sy:cR K aC "out_of" "Net.out_of" wq ["self","house"] cc e5)(xd:aB P w K mg base (eQ P w) 2 cc e5 ["self","house"] (DN aC fu (·.a)))(Ah:c1 K mg "least_turns_from" Dk ["roads","house"] f4 j2)(OK:aB P w K mg base aM 2 f4 j2 ["roads","house"] (Ti K))(Ak:c1 K mg "begins_shortest" zJ ["road","far_from","goal"] eG oy)(apF:aB P w K mg base aM 1 eG oy ["road","far_from","goal"] JP)(H4:i6 K C uz)(P5:kl K C "Ways.__init__" CR ["self","net"] uz XT)(P6:aB P w K mg base aM 1 uz XT ["self","net"] (Kq C))(F9:cR K C "set_way" "Ways.set_way" CP ["self","house","goal","road"] Ax A3)(OO:aB P w K mg base (eQ P w) 3 Ax A3 ["self","house","goal","road"] (Kr C aC fu gi)):
  aB P w K mg base aM 4 f fd ["net"] (Eo C aC):=by
 have nk:=cm.cl;refine F.ok rX (λvs H Q E h=>?_) (λcdv A outer s H vs Q E au h=>?_)
 .obtain⟨n,aZ,a3,hs,rs,ds,rfl,_⟩:=h;rfl
 .obtain⟨n,aZ,a3,hs,rs,ds,rfl,N,G,cC,b9,q⟩:=h;refine⟨_,(a9 (c9 (i:=1) rX.aF rfl (m_ rfl) (pK (ae 0) fx sA.dQ xo (au.mono (by decide)) sA.bd .nil cn))
   (a9 (c9 (i:=2) rX.aF rfl (m_ rfl) RS)
   (a9 (jf iL rfl (hP (pK (ae 0) fx lO.dQ pA (au.mono (by decide)) lO.bd .nil cn)) (d2 (i:=3) rX.aF rfl (cu rfl))
    (bu (HU (jo au) (ae 2) (ae 3) (ed OK (au.mono (by decide)) (by rfl) Ah.at_ Ah.fn.b0 Ah.bd .nil cn (av (ae 1) (av (ae 3) aJ))) rfl)))
   (a9 (c9 (i:=4) rX.aF rfl (cu rfl) (q' H4 P6 (au.mono (by decide)) (by rfl) SI P5.bd .nil cn (av (ae 0) aJ)))
   (a9 (jf iL rfl (hP (pK (ae 0) fx lO.dQ pA (au.mono (by decide)) lO.bd .nil cn)) (d2 (i:=3) rX.aF rfl (cu rfl))
    (bu (af3 (jf iL rfl (acd (sX (jo au) (ae 2) (ae 3) (λ_ _=>rfl))) (d2 (i:=5) rX.aF rfl (m_ rfl))
    (bu (eV (f3 DL (ae 5) (ae 3) (eh _)) (a9 (oB (i:=6) rX.aF rfl rfl rfl (N':=["number","far_from","goal","roads"]) (cs:=[none,some 2,some 5,some 1]) rfl (hP (e3 (ae 0) fx sy.dQ xd (au.mono (by decide)) sy.bd .nil yA (av (ae 3) aJ))) rfl (by decide+kernel) rfl (by decide+kernel) (iz (i4.mpr ⟨rfl,(i4.mpr ⟨rfl,(i4.mpr ⟨rfl,(λp aW=>bt aW (dN))⟩)⟩)⟩)) rfl
    (.own (.h_ rfl (.inl rfl) (.inl rfl) rfl (.h_ rfl (.inl rfl) (.inl rfl) rfl (.h_ rfl (.inl rfl) (.inl rfl) rfl .nil))))
    (λC s3 bp bZ ef=>⟨(d2 (i:=0) (by show(["number","far_from","goal","roads"]:List Str).Nodup;decide+kernel) rfl (.inl rfl)),(u1 (k8 (ed apF (au.mono (by decide)) (by rfl) Ak.at_ Ak.fn.b0 Ak.bd .nil cn (av (b_ (Sa (K:=K) rfl) (ae 3) (ae 0) (λ_ _=>rfl)) (av (ae 1) (av (ae 2) aJ)))))),(ae 0)⟩))
   (bu (gm (e3 (ae 4) nk F9.dQ OO (au.mono (by decide)) F9.bd .nil yA (av (ae 3) (av (ae 5) (av (d7 (ó rfl) (by rfl) B.min WN (av (ae 6) aJ)) aJ))))))) eT))))))
   (bu (cO (ae 4)))))))),?_⟩
  obtain⟨gw,aw⟩:=N.ins;have hlen:=cC.len;have xb:=G.b9;refine⟨_,rfl,n,gw,_,rfl,aw,rfl,n,aZ,a3,_,_,rfl,N,λfb GZ=>?_⟩;have s1:aH H (upd H fb (.lst (aK rs))):=cA GZ;have ai:upd H fb (.lst (aK rs)) fb=some (.lst (aK rs)):=aQ;generalize upd H fb (.lst (aK rs))=H1 at s1 ai⊢
  refineλe8 B9=>?_
  have s2:aH H1 (upd H1 e8 (.bX [])):=cA B9;have aj:upd H1 e8 (.bX []) e8=some (.bX []):=aQ;generalize upd H1 e8 (.bX [])=ak at s2 aj⊢;refine⟨_,rfl,n,gw,_,rfl,s2 _ _ (s1 _ _ aw),rfl,n,aZ,a3,_,_,rfl,(N.same s1).same s2,λlr ZY=>⟨lr,rfl,⟨_,aO.of aQ⟩,?_⟩⟩;have ZD:e8≠lr:=gb aj ZY;refine oA (xs:=dn hs) (ahU n fb e8 lr hs ds H1)
   ⟨[],none,rfl,s2.trans (cA ZY),aQ,by rw[aD ZD];exact aj,bY _,λj h bq _=>bt bq (zK _)⟩ ?_ ?_ ?_
  .rintro i σ bU ar ⟨mr,vv,rfl,aA,bk,_⟩;exact aO.of bk
  .rintro i v σ bU ev ⟨mr,vv,rfl,aA,bk,hf,Nm,Bd⟩;obtain⟨h,rfl,ur⟩:=Xf ev;have uT:i<hs.length:=by have:=(eR.mp ur).1;rwa [a']at this
   refine⟨_,rfl,_,rfl,fb,hs,rs,ds,h,rfl,aO.of (aA _ _ ai),(cC.same s1).same aA,xb,dY ur,λp U ck D np vi aT T L=>?_⟩;refine⟨_,rfl,_,rfl,e8,_,rfl,qw.k (k:=e' h) (vi _ _ hf) (eZ (by omega)),?_⟩;have aoY:H1 p=none:=mF aA np;have ne2:p≠e8:=b' (gb hf np);have Mb:D=hX hs ds h:=funext λg=>dC.alz L g;subst Mb;refine⟨_,_,rfl,i8 B9 (aA.trans vi),by rw[aD (b' ZD)];exact vi _ _ bk,aQ,?_,λj h' bq Mk=>?_⟩
   .cases bA:cU mr (e' h:bx)with
    |none=>rw[Cb _ bA,fT];simp only[i5,qG];omega
    |some u=>rw[TM _ bA];omega
   .by_cases e:h'=h
    .subst e;exact⟨p,ck,by rw[Ca,a8 rfl],ne2,aoY,by rw[aD ne2];exact aT,T⟩
    .have Nr:j<i:=by
      rcases sb j i with z|z
      .exact z
      .have:j=i:=by omega
       subst this;rw[ur]at Mk;cases Mk;exact bt rfl e
     obtain⟨hY,an8,tB,ne',aoR,pT,e_⟩:=Bd j h' Nr Mk;exact⟨hY,an8,by rw[Ca,aX λz=>e (Ka z)];exact tB,ne',aoR,by rw[aD ne'];exact vi _ _ pT,e_⟩
  .rintro σ bU ⟨mr,vv,rfl,aA,bk,hf,Nm,Bd⟩;have Ym:∀h∈hs.map S,WS H1 bU e8 mr hs ds h:=λh hm=>by obtain⟨j,bq⟩:=me hm;exact Bd j h (by have:=(eR.mp bq).1;rw[a']at this;unfold dn;rw[a'];exact this) bq
   refine⟨_,rfl,λx ah cf nP atD=>⟨x,ah,_,rfl,aQ,λt ee=>⟨rfl,?_⟩⟩⟩;have G3:bU t=none:=by refine mF (i8 (o:=.ins C ah []) cf (cA (o:=.own x) nP)) ee
   have nV:x≠t:=gb (H:=upd (upd bU ah (.own x)) x (.ins C ah [])) aQ ee;have CM:aH bU (upd (upd (upd (upd bU ah (.own x)) x (.ins C ah [])) t (.eO [])) x (.ins C ah (qg n t))):=i8 cf (i8 G3 (i8 cf (cA nP)));have NZ:upd (upd (upd (upd bU ah (.own x)) x (.ins C ah [])) t (.eO [])) x (.ins C ah (qg n t)) x=some (.ins C ah (qg n t)):=aQ;have NT:upd (upd (upd (upd bU ah (.own x)) x (.ins C ah [])) t (.eO [])) x (.ins C ah (qg n t)) t=some (.eO []):=by rw[aD (b' nV),aQ]
   show kd _ _ _ _ (upd (upd (upd (upd bU ah (.own x)) x (.ins C ah [])) t (.eO [])) x (.ins C ah (qg n t)));generalize upd (upd (upd (upd bU ah (.own x)) x (.ins C ah [])) t (.eO [])) x (.ins C ah (qg n t))=ŕ at CM NZ NT⊢;have VY:ib aC bU n aZ a3 (dn hs) (aK rs):=(N.same s1).same aA;refine⟨_,rfl,n,gw,_,rfl,CM _ _ (aA _ _ (s1 _ _ aw)),rfl,n,aZ,a3,_,_,rfl,VY.same CM,λgS G0=>⟨gS,rfl,⟨_,aO.of aQ⟩,?_⟩⟩;have aoZ:bU gS=none:=mF CM G0;have aot:x≠gS:=gb NZ G0;have ZF:t≠gS:=gb NT G0;refine oA (xs:=dn hs) (ahV C ah n fb e8 x t gS hs ds bU)
    ⟨[],vv,none,none,rfl,CM.trans (cA G0),aQ,by rw[aD aot];exact NZ,by rw[aD ZF];exact NT,⟨λh g m=>?_,λh g _=>rfl,λk aT=>(nomatch aT),n_⟩⟩ ?_ ?_ ?_
   .obtain⟨⟨j,bq,_⟩,_⟩:=m;exact bt bq (zK _)
   .rintro i σ fB ar ⟨kvs,È,oY,nZ,rfl,dg,cv,_⟩;exact aO.of cv
   .rintro i v σ fB ev ⟨kvs,È,oY,nZ,rfl,dg,cv,ay,df,BT⟩;obtain⟨h,rfl,ur⟩:=Xf ev;have hm:h∈hs.map S:=dY ur;obtain⟨eI,ck,ki,ZH,ZG,xk,pq⟩:=Ym h hm;have Z3:x≠eI:=b' (gb xk cf);have P0:t≠eI:=b' (gb xk G3);have ZE:gS≠eI:=b' (gb xk aoZ);refine⟨eI,ck,dg _ _ xk,λo=>?_⟩;have Ya:=ig.k (k:=e' h) (show upd fB eI (.fH o (.bX ck)) e8=some (.bX mr) by rw[aD (b' ZH)];exact dg _ _ hf);rw[ki]at Ya;refine⟨_,rfl,_,rfl,e8,_,rfl,Ya,eI,o,ck,rfl,aQ,?_⟩;refine Ų (λj σ r2=>∃(kvs:c2)(oY nZ:Option ag.V),σ=[some (.ref n),some (.ref fb),some (.ref e8),some (.str h),some (.ref x),oY,nZ]∧aH (upd bU eI (.fH o (.bX ck))) r2∧r2 gS=some (.lst (dn hs))∧r2 x=some (.ins C ah (qg n t))∧r2 t=some (.eO kvs)∧
      n6 (best hs ds) (hs.map S) kvs (λh' g=>Told hs ds i h' g∨(h'=h∧h≠g∧∃jM z,jM<j∧ck[jM]?=some (e' g,z))))
     ⟨kvs,oY,nZ,rfl,ad4 dg _,by rw[aD ZE];exact cv,by rw[aD Z3];exact ay,by rw[aD P0];exact df,BT.iff λh' g=>⟨.inl,λz=>z.resolve_right λ⟨_,_,jM,_,y,_⟩=>bt y (zK _)⟩⟩ ?_ ?_ ?_
    .rintro j σ r2 ⟨kvs,oY,nZ,rfl,cK,_⟩;exact cK _ _ aQ
    .rintro j k z σ r2 f6 ⟨kvs,oY,nZ,rfl,cK,FF,xm,F6,yB⟩;obtain⟨g,As⟩:=pq.gq _ (dY f6);have alR:k=e' g:=As;subst alR;have pO:∀e∈jd hs ds,1≤e.t:=λe he=>by obtain⟨d,hd,rfl⟩:=cw.mp he;exact(cC.ok d hd).t.1
     have anR:(hX hs ds h g).isSome=true:=by have:=ô (dY f6);rw[pq.at_]at this;simpa using this
     obtain⟨v,bA⟩:=tY.mp anR;have bz:g∈hs.map S:=ad5 cC.ok ((dC.Mv pO g).path h v bA) hm;refine⟨_,rfl,_,rfl,rfl,_,rfl,?_⟩;by_cases e:g=h
     .subst e;refine fO (show(!decide (V.str g=V.str g))=false by simp) ⟨kvs,_,nZ,rfl,cK,FF,xm,F6,yB.iff λh' g'=>?_⟩;constructor
      .rintro(y|⟨a,b,jM,dp,bq,di⟩)
       .exact .inl y
       .exact .inr ⟨a,b,jM,dp,by omega,di⟩
      .rintro(y|⟨a,b,jM,dp,bq,di⟩)
       .exact .inl y
       .refine .inr ⟨a,b,jM,dp,?_,di⟩;rcases sb jM j with y|y
        .exact y
        .have:jM=j:=by omega
         subst this;rw[f6]at di;cases di;exact bt rfl b
     .refine eE (show(!decide (V.str g=V.str h))=true by simp[e]) ?_;have jL:h≠g:=b' e;have QU:aH H (upd bU eI (.fH o (.bX ck))):=s1.trans (i8 ZG aA);have VZ:=N.same (QU.trans cK);have MR:=cC.same (QU.trans cK);have anw:=cK _ _ ((i8 (o:=.fH o (.bX ck)) ZG aA) _ _ ai);have anx:=cK _ _ (show upd bU eI (.fH o (.bX ck)) e8=some (.bX mr) by rw[aD (b' ZH)];exact hf);refine H3 ?_;refine ad6 (K:=K) (rest:=[some (.ref e8),some (.str g),some (.ref fb)]) (xs:=(lD hs ds (·.a) h).map V.int) (λR amu=>?_) rfl (by rw[a'];have:=Ű hs ds (·.a) h;exact eZ (by omega)) (λy=>match y with|.int i=>rU hs ds h g i|_=>false) id (λi y fY R eA lz MQ=>?_) (λi y fY R eA _ g_ MQ=>⟨_,rfl,MQ fY (aH.refl _)⟩) (λD fY nM bO lz=>?_)
      .exact⟨_,rfl,n,gw,_,rfl,(QU.trans cK) _ _ aw,rfl,_,rfl,n,aZ,a3,hs,rs,ds,h,rfl,VZ,MR,b9,λ_ G8 bK ao0 s5 dW=>⟨G8,rfl,⟨_,aO.of dW⟩,amu G8 bK ao0 s5 dW⟩,λy=>bt hm y⟩
      .obtain⟨k,d,rfl,kz,bc⟩:=T8 eA;obtain⟨r,d4⟩:∃r,rs[k]?=some r:=⟨_,ct (by rw[hlen];exact(eR.mp kz).1)⟩
       obtain⟨d',ES,oS,F0⟩:=MR.get d4;rw[kz]at ES;cases ES;obtain⟨ht,OV,fR,atp,ato,Nt,ez⟩:=Ym _ (oI oS.b);have aeT:TabAt fY eI (hX hs ds h):=⟨ck,.inr ⟨o,lz _ _ (cK _ _ aQ)⟩,pq⟩
       have aeU:TabAt fY ht (hX hs ds (S (hs.getD d.b []))):=by
        by_cases d8:ht=eI
        .subst d8;rw[xk]at Nt;cases Nt;exact⟨ck,.inr ⟨o,lz _ _ (cK _ _ aQ)⟩,ez⟩
        .exact⟨OV,.inl (lz _ _ (cK _ _ (by rw[aD d8];exact Nt))),ez⟩
       have Mq:ag.gj (aK rs) (k:Int)=some (.ref r):=ja (by unfold aK;rw[cL,d4];rfl);refine⟨_,rfl,_,rfl,fb,_,_,_,rfl,rfl,aO.of (lz _ _ anw),Mq,_,rfl,_,rfl,r,e8,eI,ht,hs,d,mr,g,_,_,rfl,lz _ _ F0,lz _ _ anx,by rw[bc];exact ki,fR,aeT,aeU,λu cj=>⟨v,bA⟩,_,rfl,?_⟩;have ep:rU hs ds h g (k:Int)=wW (hX hs ds h) (hX hs ds (S (hs.getD d.b []))) g d.t:=by unfold rU HL;rw[m8,sZ kz]
       rw[←ep];exact MQ fY (aH.refl _)
      .have ET:(((lD hs ds (·.a) h).map V.int).filter λy=>match y with|.int i=>rU hs ds h g i|_=>false).map id=(fit hs ds h g).map V.int:=by rw[Vz,wB];rfl
       rw[ET]at bO;refine⟨_,rfl,x,ah,_,rfl,lz _ _ xm,rfl,_,rfl,_,rfl,_,rfl,D,_,rfl,aO.of bO,V2 pO bA jL,x,n,t,aZ,a3,hs,rs,ds,kvs,h,g,_,rfl,⟨⟨ah,lz _ _ xm⟩,VZ.same lz,lz _ _ F6⟩,G,MR.same lz,b9,nD G hm,nD G bz,eZ (by have:=yB.b9 (by rw[a'];exact xb);omega),λ_ _ jy ql=>?_,λy=>bt (H2 hm bz jL) (by rw[y];decide),λ_ y=>bt (TO pO bA jL).1 y⟩;have tm:=lz.trans ql;refine⟨_,_,_,rfl,i8 (by rw[aD P0];exact G3) (cK.trans tm),by rw[aD (b' ZF)];exact tm _ _ FF,by rw[aD nV];exact tm _ _ xm,aQ,(yB.put hm bz).iff λh' g'=>?_⟩;constructor
       .rintro((y|⟨a,b,jM,dp,bq,di⟩)|⟨rfl,rfl⟩)
        .exact .inl y
        .exact .inr ⟨a,b,jM,dp,by omega,di⟩
        .exact .inr ⟨rfl,jL,j,z,wG _,f6⟩
       .rintro(y|⟨a,b,jM,dp,bq,di⟩)
        .exact .inl (.inl y)
        .rcases sb jM j with y|y
         .exact .inl (.inr ⟨a,b,jM,dp,y,di⟩)
         .have:jM=j:=by omega
          subst this;rw[f6]at di;cases di;exact .inr ⟨a,rfl⟩
    .rintro σ r2 ⟨kvs,oY,nZ,rfl,cK,FF,xm,F6,yB⟩;refine⟨cK _ _ aQ,kvs,_,oY,nZ,rfl,abZ xk cK,by rw[aD ZE];exact FF,by rw[aD Z3];exact xm,by rw[aD P0];exact F6,yB.iff λh' g=>?_⟩;constructor
     .rintro(⟨⟨j,bq,ec⟩,b,c⟩|⟨rfl,b,jM,z,_,di⟩)
      .exact⟨⟨j,by omega,ec⟩,b,c⟩
      .refine⟨⟨i,wG _,ur⟩,b,?_⟩;have:=ô (dY di);rw[pq.at_]at this;simpa using this
     .rintro⟨⟨j,bq,ec⟩,b,c⟩;by_cases e:h'=h
      .subst e;have:(cU ck (e' g:bx)).isSome=true:=by rw[pq.at_];simpa using c
       obtain⟨jM,z,di⟩:=õ this;exact .inr ⟨rfl,b,jM,z,(eR.mp di).1,di⟩
      .refine .inl ⟨⟨j,?_,ec⟩,b,c⟩;rcases sb j i with y|y
       .exact y
       .have:j=i:=by omega
        subst this;rw[ur]at ec;cases ec;exact bt rfl e
   .rintro σ fB ⟨kvs,È,oY,nZ,rfl,dg,cv,ay,df,BT⟩;refine⟨_,rfl,q x t fB kvs (mF (s1.trans aA) cf) (mF (s1.trans aA) G3) ((s1.trans aA).trans dg) ⟨⟨ah,ay⟩,VY.same dg,df⟩ ⟨BT.iff λh g=>⟨λ⟨⟨j,_,ec⟩,b,c⟩=>⟨dY ec,b,c⟩,λ⟨m,b,c⟩=>⟨?_,b,c⟩⟩⟩⟩;obtain⟨j,bq⟩:=me m;exact⟨j,by have:=(eR.mp bq).1;rw[a']at this;unfold dn;rw[a'];exact this,bq⟩
end
end fq
namespace cq
open PySem PySem.Spec PyProof.Rows ag PySem.W
structure nW(n:Nat)(lt:Nat→Nat→Bool):Prop where
 nU:∀i j k,lt i j=true→lt j k=true→lt i k=true
 to:∀i j,i<n→j<n→i≠j→lt i j=true∨lt j i=true
 Ze:∀i,lt i i=false
noncomputable abbrev c5(p:Array Nat)(a:Nat):Nat:=p.getD a 0
noncomputable def mG(lt:Nat→Nat→Bool)(p:Array Nat)(k:Nat):Prop:=∀a b,a<b→b<k→lt (c5 p a) (c5 p b)=true
theorem xr{α β:Type}(lt:Nat→Nat→Bool)(f:α→KasT β):∀t:KasT α,gR lt (t.bind f)=gR lt (f (gR lt t))
 |.ret _=>rfl
 |.ask i j k=>xr lt f (k (lt i j))
theorem UJ{α:Type}(lt:Nat→Nat→Bool){c:Prop}[Decidable c](s t:KasT α):gR lt (if c then s else t)=if c then gR lt s else gR lt t:=by split<;>rfl
theorem d5.size{n:Nat}{p:Array Nat}(h:d5 n p):p.size=n:=by have:=h.list.length_eq;simpa using this
theorem d5.inj{n:Nat}{p:Array Nat}(h:d5 n p){a b:Nat}(aI:a<n)(af:b<n)(e:c5 p a=c5 p b):a=b:=by
 have aF:p.toList.Nodup:=h.list.nodup_iff.mpr D_;have iq:=h.size;have az:c5 p a=p.toList[a]'(by simp;omega):=by simp[c5,tH,show a<p.size by omega]
 have aE:c5 p b=p.toList[b]'(by simp;omega):=by simp[c5,tH,show b<p.size by omega]
 rw[az,aE]at e;exact(zB aF).mp e
section
variable{n:Nat}{lt:Nat→Nat→Bool}
theorem nW.or(o:nW n lt){p:Array Nat}(h:d5 n p){a b:Nat}(aI:a<n)(af:b<n)(ne:a≠b)(f:lt (c5 p a) (c5 p b)=false):lt (c5 p b) (c5 p a)=true:=by
 have h0:0<n:=by omega
 rcases o.to (c5 p a) (c5 p b) (h.at h0 a) (h.at h0 b) (λe=>ne (h.inj aI af e))with z|z
 .rw[z]at f;cases f
 .exact z
theorem mG.succ(o:nW n lt){p:Array Nat}{k:Nat}(s:mG lt p k)(ai:1≤k)(h:lt (c5 p (k-1)) (c5 p k)=true):mG lt p (k+1):=λa b pQ af=>by
 by_cases e:b=k
 .subst e;by_cases aE:a=b-1
  .rw[aE];exact h
  .exact o.nU _ _ _ (s a (b-1) (by omega) (by omega)) h
 .exact s a b pQ (by omega)
theorem I3(o:nW n lt){p:Array Nat}(h:d5 n p):∀f k,1≤k→k+f≤n→mG lt p k→∃m,gR lt (kas_asc p f k)=m∧k≤m∧m≤k+f∧mG lt p m∧(m<k+f→lt (c5 p m) (c5 p (m-1))=true)
 |0,k,ai,aj,s=>⟨k,rfl,bY _,bY _,s,λz=>bt z (by omega)⟩
 |f+1,k,ai,aj,s=>by
  show∃m,gR lt (if lt (c5 p k) (c5 p (k-1))=true then .ret k else kas_asc p f (k+1))=m∧_;cases e:lt (c5 p k) (c5 p (k-1))with
  |true=>
   rw[a8 rfl];exact⟨k,rfl,bY _,by omega,s,λ_=>e⟩
  |false=>
   rw[aX (by decide)];have up:=o.or h (a:=k) (b:=k-1) (by omega) (by omega) (by omega) e;obtain⟨m,az,aE,dj,fV,jc⟩:=I3 o h f (k+1) (by omega) (by omega) (s.succ o ai up);exact⟨m,az,by omega,by omega,fV,λz=>jc (by omega)⟩
noncomputable def DO(lt:Nat→Nat→Bool)(p:Array Nat)(k:Nat):Prop:=∀a b,a<b→b<k→lt (c5 p b) (c5 p a)=true
theorem UK(o:nW n lt){p:Array Nat}(h:d5 n p):∀f k,1≤k→k+f≤n→DO lt p k→∃m,gR lt (BL f p k 0)=(p,m,0)∧k≤m∧m≤k+f∧DO lt p m
 |0,k,ai,aj,s=>⟨k,rfl,bY _,bY _,s⟩
 |f+1,k,ai,aj,s=>by
  show∃m,gR lt (if lt (c5 p k) (c5 p (k-1))=true then(if 0>0 then BL f (BM p (k-(0+1)) k) (k+1) 0 else BL f p (k+1) 0)else .ask (c5 p (k-1)) (c5 p k) λd=>if d=true then .ret (p,k,0)else BL f p (k+1) (0+1))=(p,m,0)∧_;cases e:lt (c5 p k) (c5 p (k-1))with
  |true=>
   rw[a8 rfl,aX (by omega)];have s2:DO lt p (k+1):=λa b pQ af=>by
    by_cases d8:b=k
    .subst d8;by_cases aE:a=b-1
     .rw[aE];exact e
     .exact o.nU _ _ _ e (s a (b-1) (by omega) (by omega))
    .exact s a b pQ (by omega)
   obtain⟨m,az,aE,dj,fV⟩:=UK o h f (k+1) (by omega) (by omega) s2;exact⟨m,az,by omega,by omega,fV⟩
  |false=>
   rw[aX (by decide)];have up:=o.or h (a:=k) (b:=k-1) (by omega) (by omega) (by omega) e;show∃m,gR lt (if lt (c5 p (k-1)) (c5 p k)=true then .ret (p,k,0)else BL f p (k+1) (0+1))=(p,m,0)∧_;rw[a8 up];exact⟨k,rfl,bY _,by omega,s⟩
theorem DP{p q:Array Nat}{a b:Nat}(e:p[a]?=q[b]?):c5 p a=c5 q b:=by
 have f:∀(r:Array Nat)(c:Nat),c5 r c=(r[c]?).getD 0:=λr c=>by
  show r.getD c 0=_;by_cases aG:c<r.size
  .rw[TB aG];simp[tH,aG]
  .rw[Iy (by omega)];simp[tH,aG]
 rw[f,f,e]
theorem VT{p:Array Nat}{r i:Nat}(au:r≤p.size)(ar:i<r):c5 (BM p 0 r) i=c5 p (r-1-i):=by have h:=getElem?_mirror_all (xs:=p) (i:=0) (j:=r) au i;rw[a8 ⟨eD _,ar⟩,show 0+r-1-i=r-1-i by omega]at h;exact DP h
theorem ab0(o:nW n lt){p:Array Nat}(h:d5 n p){k:Nat}(ai:1≤k)(aj:k≤n)(s:DO lt p k):∃m q,gR lt (BN k n p)=(m,q)∧1≤m∧m≤n∧mG lt q m∧d5 n q:=by
 unfold BN;rw[xr];have au:=h.rev 0 k;have l':mG lt (BM p 0 k) k:=λa b pQ af=>by rw[VT (by rw[h.size];exact aj) (by omega),VT (by rw[h.size];exact aj) af];exact s _ _ (by omega) (by omega)
 obtain⟨m,az,aE,dj,fV,_⟩:=I3 o au (n-k) k ai (by omega) l';rw[az];exact⟨m,_,rfl,by omega,by omega,fV,au⟩
theorem ab1(o:nW n lt){p:Array Nat}(h:d5 n p)(h0:2≤n):∃m q,gR lt (OU n p)=(m,q)∧1≤m∧m≤n∧mG lt q m∧d5 n q:=by
 unfold OU;rw[xr];obtain⟨m,az,aE,dj,fV,jc⟩:=I3 o h (n-1) 1 (bY _) (by omega) (λa b pQ af=>by omega);rw[az,UJ];by_cases gM:m=n
 .rw[a8 (by simpa using gM)];exact⟨m,p,rfl,aE,by omega,fV,h⟩
 .rw[aX (by simpa using gM),UJ];have aom:=jc (by omega);by_cases i_:m>1
  .rw[a8 i_];show∃cp q,gR lt (if lt (c5 p 0) (c5 p (m-1))=true then .ret (m,p)else Zj m n (BM p 0 m))=(cp,q)∧_;rw[a8 (fV 0 (m-1) (by omega) (by omega))];exact⟨m,p,rfl,aE,by omega,fV,h⟩
  .rw[aX i_];have jr:m=1:=by omega
   subst jr;unfold Zj;rw[xr];obtain⟨k,kV,kW,asq,aku⟩:=UK o h (n-(1+1)) (1+1) (by omega) (by omega) (λa b pQ af=>by
    have:a=0∧b=1:=by omega
    rw[this.1,this.2];exact aom)
   rw[kV];show∃cp q,gR lt (if 0>0 then BN k n (BM p (k-(0+1)) k)else BN k n p)=(cp,q)∧_;rw[aX (by omega)];exact ab0 o h (by omega) (by omega) aku
theorem Sg(o:nW n lt){p:Array Nat}(h:d5 n p){k:Nat}(aT:k<n)(s:mG lt p k):∀f l r,l≤r→r≤k→r-l≤f→(∀a,a<l→lt (c5 p a) (c5 p k)=true)→(∀a,r≤a→a<k→lt (c5 p k) (c5 p a)=true)→
  ∃m,gR lt (xx p k f l r)=m∧m≤k∧(∀a,a<m→lt (c5 p a) (c5 p k)=true)∧∀a,m≤a→a<k→lt (c5 p k) (c5 p a)=true
 |0,l,r,ai,aj,bk,aq,au=>⟨l,rfl,by omega,aq,λa aI=>au a (by omega)⟩
 |f+1,l,r,ai,aj,bk,aq,au=>by
  show∃m,gR lt (if l≥r then .ret l else .ask (c5 p k) (c5 p ((l+r)/2)) λc=>if c=true then xx p k f l ((l+r)/2)else xx p k f ((l+r)/2+1) r)=m∧_;by_cases c:l≥r
  .rw[a8 c];exact⟨l,rfl,by omega,aq,λa aI=>au a (by omega)⟩
  .rw[aX c];show∃m,gR lt (if lt (c5 p k) (c5 p ((l+r)/2))=true then xx p k f l ((l+r)/2)else xx p k f ((l+r)/2+1) r)=m∧_;have aop:l≤(l+r)/2∧(l+r)/2<r:=by omega
   cases e:lt (c5 p k) (c5 p ((l+r)/2))with
   |true=>
    rw[a8 rfl];refine Sg o h aT s f l ((l+r)/2) aop.1 (by omega) (by omega) aq λa aI amB=>?_;by_cases bc:a=(l+r)/2
    .rw[bc];exact e
    .exact o.nU _ _ _ e (s _ _ (by omega) amB)
   |false=>
    rw[aX (by decide)];have up:=o.or h (a:=k) (b:=(l+r)/2) aT (by omega) (by omega) e;refine Sg o h aT s f ((l+r)/2+1) r (by omega) aj (by omega) (λa aI=>?_) au;by_cases bc:a=(l+r)/2
    .rw[bc];exact up
    .exact o.nU _ _ _ (s a _ (by omega) (by omega)) up
theorem VQ{p:Array Nat}{k l i:Nat}(aT:k<p.size)(aq:l≤k):c5 (bubble p k (k-l)) i=if i=l then c5 p k else if l<i∧i≤k then c5 p (i-1)else c5 p i:=by
 have h:=getElem?_bubble (xs:=p) aT (k-l) (by omega) i;rw[show k-(k-l)=l by omega]at h;by_cases c:i=l
 .rw[a8 c]at h⊢;exact DP h
 .rw[aX c]at h⊢;by_cases i_:l<i∧i≤k
  .rw[a8 i_]at h⊢;exact DP h
  .rw[aX i_]at h⊢;exact DP h
theorem VR(o:nW n lt):∀(f:Nat)(p:Array Nat)(k:Nat),d5 n p→mG lt p k→k+f=n→mG lt (gR lt (OT f p k)) n
 |0,p,k,h,s,e=>by
  have:k=n:=by omega
  subst this;exact s
 |f+1,p,k,h,s,e=>by
  show mG lt (gR lt ((xx p k k 0 k).bind λl=>OT f (bubble p k (k-l)) (k+1))) n;rw[xr];obtain⟨m,az,aE,dj,fV⟩:=Sg o h (k:=k) (by omega) s k 0 k (eD _) (bY _) (by omega) (λa aI=>bt aI (by omega)) (λa ai aj=>bt aj (by omega));rw[az];refine VR o f _ _ (h.Xn _ _) (λa b pQ af=>?_) (by omega);have aT:k<p.size:=by rw[h.size];omega
  rw[VQ aT aE,VQ aT aE];by_cases a1:a=m
  .rw[a8 a1,aX (by omega),a8 ⟨by omega,by omega⟩];exact fV (b-1) (by omega) (by omega)
  .rw[aX a1];by_cases gC:b=m
   .rw[a8 gC,aX (by omega)];exact dj a (by omega)
   .rw[aX gC];by_cases a2:m<a∧a≤k
    .rw[a8 a2,a8 ⟨by omega,by omega⟩];exact s _ _ (by omega) (by omega)
    .rw[aX a2];by_cases gk:m<b∧b≤k
     .rw[a8 gk];exact s _ _ (by omega) (by omega)
     .rw[aX gk];exact s _ _ pQ (by omega)
theorem π(o:nW n lt):(qf lt n).Pairwise λi j=>lt i j=true:=by
 unfold qf;by_cases aj:n<2
 .rw[a8 aj];have:n=0∨n=1:=by omega
  rcases this with e|e<;>subst e<;>simp[wC]
 .rw[aX aj];have au:d5 n (wD (dt n)):=Ă _;unfold xy;rw[xr];obtain⟨m,q,az,aE,dj,fV,jc⟩:=ab1 o au (by omega);rw[az];show((gR lt (if m<n then OT (n-max m 1) q (max m 1)else .ret q)).toList).Pairwise _;have p8:max m 1=m:=by omega
  rw[p8];have fin:∀gz:Array Nat,d5 n gz→mG lt gz n→gz.toList.Pairwise λi j=>lt i j=true:=λgz a s=>by
   rw[Ea];intro i j ar bq Nq;have am8:j<n:=by rw[←a.size];simpa using bq
   have:=s i j Nq am8;have apY:i<gz.size:=by rw[a.size];omega
   have gd:j<gz.size:=by rw[a.size];omega
   have f1:c5 gz i=gz[i]:=by simp[c5,tH,apY]
   have f2:c5 gz j=gz[j]:=by simp[c5,tH,gd]
   rw[f1,f2]at this;simpa using this
  by_cases c:m<n
  .rw[a8 c];refine fin _ ?_ (VR o _ _ _ jc fV (by omega));exact Hp (lt:=lt) _ (JG (by omega) _ _ _ jc)
  .rw[aX c];have:m=n:=by omega
   subst this;exact fin q jc fV
end
open PySem PySem.Spec PyProof.Rows ag PySem.W
section
variable{X:bh}
noncomputable def ltI(ns:List Int)(i j:Nat):Bool:=decide (i<ns.length∧j<ns.length∧ns.getD i 0<ns.getD j 0)
theorem afG{ns:List Int}(aF:ns.Nodup):nW ns.length (ltI ns)where
 nU:=λi j k ai aj=>by have ai:=ju ai;have aj:=ju aj;exact cB ⟨ai.1,aj.2.1,by omega⟩
 to:=λi j ar bq ne=>by
  have az:ns.getD i 0=ns[i]:=by rw[cH,ct ar];rfl
  have aE:ns.getD j 0=ns[j]:=by rw[cH,ct bq];rfl
  have gw:ns.getD i 0≠ns.getD j 0:=λz=>ne ((zB aF).mp (by rw[←az,←aE];exact z));rcases Int.lt_or_lt_of_ne gw with z|z
  .exact .inl (cB ⟨ar,bq,z⟩)
  .exact .inr (cB ⟨bq,ar,z⟩)
 Ze:=λi=>dP λz=>by omega
noncomputable def sortI(ns:List Int):List Int:=hq 0 (ltI ns) ns
theorem sortI_perm(ns:List Int):(sortI ns).Perm ns:=ð _ _ _
theorem abY{ns:List Int}(aF:ns.Nodup):(sortI ns).Pairwise (· < ·):=by unfold sortI hq;rw[r_];exact(π (afG aF)).imp λz=>(ju z).2.2
theorem UL(ns:List Int):hq V.bD (ltI ns) (ns.map V.int)=(sortI ns).map V.int:=by unfold sortI hq;rw[gJ,a'];refine tV λi ar=>?_;have:=Ce ar;show(ns.map V.int).getD i .bD=V.int (ns.getD i 0);rw[cH,cL,ct this,cH,ct this];rfl
section
variable{prog:bL}{w:bC}{A:c4}{s:ax}{ns:List Int}{us:List Value}
theorem SJ(r:cN (ns.map V.int) us){i:Nat}(ar:i<us.length):∃t,us.getD i gB=.int (ns.getD i 0) t:=by have aq:=r.length;rw[a']at aq;obtain⟨u,cj,t,rfl⟩:=r.get (x:=V.int (ns.getD i 0)) (i:=i) (by rw[cL,ct (by omega),cH,ct (by omega)];rfl);exact⟨t,by rw[cH,cj];rfl⟩
theorem ö(r:cN (ns.map V.int) us)(aj:2≤us.length){Q:wQ→ax→Prop}(h:Q Qa s):a4 (bg prog w) A (O4 us.toArray) Q (λ_ _=>False) s:=by refine kas_kind (T:=.type "int") aj (λv bA=>?_) (by decide+kernel) (by decide+kernel) h;obtain⟨i,ar,rfl⟩:=pe bA;obtain⟨t,e⟩:=SJ r ar;rw[cH,ct ar]at e;have e:us[i]=.int (ns.getD i 0) t:=e;rw[e];exact VE rfl
theorem T9(r:cN (ns.map V.int) us){i j:Nat}(ar:i<us.length)(bq:j<us.length){C:Bool→ax→Prop}(h:C (ltI ns i j) s):BK prog w A Qa us i j C s:=by have aq:=r.length;rw[a']at aq;obtain⟨t,az⟩:=SJ r ar;obtain⟨u,aE⟩:=SJ r bq;unfold BK;rw[az,aE];refine kat_lt_int ?_;have e:ltI ns i j=decide (ns.getD i 0<ns.getD j 0):=decide_eq_decide.mpr ⟨λz=>z.2.2,λz=>⟨by omega,by omega,z⟩⟩;rw[←e];exact h
end
theorem ad7{P:bL}{w:bC}{n:Int}{v:Value}(h:(hn P w).is (.inl n) v=true):RelV (V.int n) v:=by obtain⟨t,e⟩:=afP h;exact⟨t,e⟩
end
open PySem PySem.Spec PyProof.Rows ag
theorem afH{a b:Str}(h:a.cps.toList=b.cps.toList):a=b:=by cases a;cases b;simp only[Ą]at h;rw[h]
theorem I4:∀a:List bx,lexLt a a=false
 |[]=>rfl
 |.inl a::r=>by show(if a=a then lexLt r r else _)=false;rw[a8 rfl];exact I4 r
 |.inr a::r=>by show(if a=a then lexLt r r else _)=false;rw[a8 rfl];exact I4 r
theorem I5:∀a b:List bx,iT a=iT b→a≠b→lexLt a b=true∨lexLt b a=true
 |[],[],_,n=>bt rfl n
 |[],.inl _::_,h,_=>by cases h
 |[],.inr _::_,h,_=>by cases h
 |.inl _::_,[],h,_=>by cases h
 |.inr _::_,[],h,_=>by cases h
 |.inl a::r,.inr b::q,h,_=>by cases h
 |.inr a::r,.inl b::q,h,_=>by cases h
 |.inl a::r,.inl b::q,h,n=>by
  show(if a=b then lexLt r q else decide (a<b))=true∨(if b=a then lexLt q r else decide (b<a))=true;by_cases e:a=b
  .subst e;rw[a8 rfl,a8 rfl];exact I5 r q (Vt h).2 λz=>n (by rw[z])
  .rw[aX e,aX (b' e),lT,lT];omega
 |.inr a::r,.inr b::q,h,n=>by
  show(if a=b then lexLt r q else decide (a.cps.toList<b.cps.toList))=true∨(if b=a then lexLt q r else decide (b.cps.toList<a.cps.toList))=true;by_cases e:a=b
  .subst e;rw[a8 rfl,a8 rfl];exact I5 r q (Vt h).2 λz=>n (by rw[z])
  .rw[aX e,aX (b' e),lT,lT];by_cases l:a.cps.toList<b.cps.toList
   .exact .inl l
   .by_cases fI:b.cps.toList<a.cps.toList
    .exact .inr fI
    .exact bt (afH (List.le_antisymm (abj.mp fI) (abj.mp l))) e
theorem I6:∀a b c:List bx,lexLt a b=true→lexLt b c=true→lexLt a c=true
 |[],_,_,h,_=>by cases h
 |.inl _::_,[],_,h,_=>by cases h
 |.inr _::_,[],_,h,_=>by cases h
 |.inl _::_,.inr _::_,_,h,_=>by cases h
 |.inr _::_,.inl _::_,_,h,_=>by cases h
 |.inl _::_,.inl _::_,[],_,h=>by cases h
 |.inr _::_,.inr _::_,[],_,h=>by cases h
 |.inl _::_,.inl _::_,.inr _::_,_,h=>by cases h
 |.inr _::_,.inr _::_,.inl _::_,_,h=>by cases h
 |.inl a::r,.inl b::q,.inl c::p,ai,aj=>by
  have k':(if a=b then lexLt r q else decide (a<b))=true:=ai;have iC:(if b=c then lexLt q p else decide (b<c))=true:=aj;show(if a=c then lexLt r p else decide (a<c))=true;by_cases az:a=b
  .subst az;rw[a8 rfl]at k';by_cases aE:a=c
   .rw[a8 aE]at iC⊢;exact I6 r q p k' iC
   .rw[aX aE]at iC⊢;exact iC
  .rw[aX az,lT]at k';by_cases aE:b=c
   .subst aE;rw[aX az,lT];exact k'
   .rw[aX aE,lT]at iC;rw[aX (by omega),lT];omega
 |.inr a::r,.inr b::q,.inr c::p,ai,aj=>by
  have k':(if a=b then lexLt r q else decide (a.cps.toList<b.cps.toList))=true:=ai;have iC:(if b=c then lexLt q p else decide (b.cps.toList<c.cps.toList))=true:=aj;show(if a=c then lexLt r p else decide (a.cps.toList<c.cps.toList))=true;by_cases az:a=b
  .subst az;rw[a8 rfl]at k';by_cases aE:a=c
   .rw[a8 aE]at iC⊢;exact I6 r q p k' iC
   .rw[aX aE]at iC⊢;exact iC
  .rw[aX az,lT]at k';by_cases aE:b=c
   .subst aE;rw[aX az,lT];exact k'
   .rw[aX aE,lT]at iC;have nU:=List.lt_trans k' iC;rw[aX λz=>by rw[z]at nU;exact List.lt_irrefl _ nU,lT];exact nU
theorem ad8{ds:List (List bx)}{cX:List Bool}(pX:∀d∈ds,iT d=cX)(aF:ds.Nodup):nW ds.length (nI ds)where
 nU:=λi j k ai aj=>I6 _ _ _ ai aj
 to:=λi j ar bq ne=>by
  have az:ds.getD i []=ds[i]:=by rw[cH,ct ar];rfl
  have aE:ds.getD j []=ds[j]:=by rw[cH,ct bq];rfl
  unfold nI;rw[az,aE];refine I5 _ _ ((pX _ (jA ar)).trans (pX _ (jA bq)).symm) λz=>ne ?_;exact(List.getElem?_inj ar aF).mp (by rw[ct ar,ct bq,z])
 Ze:=λi=>I4 _
end cq
namespace fq
open PySem ag cq aN
theorem SK{α:Type}{R:α→α→Prop}(as:∀a b,R a b→R b a→False):∀{a b:List α},a.Perm b→a.Pairwise R→b.Pairwise R→a=b
 |[],b,p,_,_=>p.nil_eq
 |x::a,[],p,_,_=>bt p.length_eq (by simp)
 |x::a,y::b,p,l9,cF=>by
  rw[VC]at l9 cF;have alY:x=y:=by
   rcases dx.mp (p.mem_iff.mp (.head _):x∈y::b)with e|e
   .exact e
   .rcases dx.mp (p.mem_iff.mpr (.head _):y∈x::a)with aE|aE
    .exact aE.symm
    .exact(as _ _ (l9.1 y aE) (cF.1 x e)).elim
  subst alY;rw[SK as (List.Perm.cons_inv p) l9.2 cF.2]
noncomputable def iX(c:Int×Nat):List ag.V:=[.int c.1,.int (c.2:Int)]
noncomputable def kF(c:Int×Nat):List bx:=[.inl c.1,.inl (c.2:Int)]
theorem afI{a b:Int×Nat}(h:kF a=kF b):a=b:=by unfold kF at h;simp only[Jo,Sum.inl.injEq,and_true]at h;exact Prod.ext h.1 (by omega)
theorem ahA{cs:List (Int×Nat)}(aF:cs.Nodup):(cs.map kF).Nodup:=r_.mpr (aF.imp λh z=>h (afI z))
theorem Sh(cs:List (Int×Nat)):∀d∈cs.map kF,iT d=true::[true]:=λd hd=>by obtain⟨r,_,rfl⟩:=cw.mp hd;rfl
noncomputable def jJ(cs:List (Int×Nat)):List (Int×Nat):=(qf (nI (cs.map kF)) cs.length).map λi=>cs.getD i (0,0)
theorem qQ(cs:List (Int×Nat)):(jJ cs).Perm cs:=by unfold jJ;refine((Æ _ _).map _).trans ?_;rw[show(dt cs.length).map (λi=>cs.getD i (0,0))=cs from ?_];refine D2 (by simp) λi ai aj=>?_;rw[D7,D8,cH,ct aj];rfl
noncomputable def Z'(a b:Int×Nat):Prop:=a.1<b.1∨(a.1=b.1∧a.2<b.2)
theorem afJ{a b:Int×Nat}(h:cq.lexLt (kF a) (kF b)=true):Z' a b:=by
 have h':(if a.1=b.1 then(if(a.2:Int)=(b.2:Int)then cq.lexLt [] []else decide ((a.2:Int)<(b.2:Int)))else decide (a.1<b.1))=true:=h;by_cases e:a.1=b.1
 .rw[a8 e]at h';by_cases aE:(a.2:Int)=(b.2:Int)
  .rw[a8 aE]at h';cases h'
  .rw[aX aE,lT]at h';exact .inr ⟨e,by omega⟩
 .rw[aX e,lT]at h';exact .inl h'
theorem Ź{cs:List (Int×Nat)}(aF:cs.Nodup):(jJ cs).Pairwise Z':=by
 unfold jJ;rw[r_];have ok:=ad8 (Sh cs) (ahA aF);rw[a']at ok;refine aa1 ?_ (π ok);intro i j ar bq h;have e:∀i,i<cs.length→(cs.map kF).getD i []=kF (cs.getD i (0,0)):=λi ar=>by rw[cH,cL,cH,ct ar];rfl
 unfold nI at h;rw[e i (Ce ar),e j (Ce bq)]at h;exact afJ h
theorem Qw{H:aa}:∀{ts:List Addr}{cs:List (Int×Nat)},dU H ts (cs.map iX)→bH (λr d=>H r=some (.tup (d.map dz))) ts (cs.map kF)
 |_,[],h=>by cases h;exact .nil
 |_,c::cs,h=>by cases h with|cons a t=>exact .cons a (Qw t)
theorem ø{H:aa}{ts:List Addr}{cs:List (Int×Nat)}(cY:dU H ts (cs.map iX)):∃mY,hq V.bD (nI (cs.map kF)) (aK ts)=aK mY∧dU H mY ((jJ cs).map iX):=by
 have ln:(aK ts).length=cs.length:=by have:=cY.len;rw[a']at this;rw[eb,this]
 unfold hq jJ;rw[ln];have all:∀is:List Nat,(∀i∈is,i<cs.length)→∃mY,(is.map λi=>(aK ts).getD i .bD)=aK mY∧dU H mY ((is.map λi=>cs.getD i (0,0)).map iX):=λis=>by
  induction is with
  |nil=>intro _;exact⟨[],rfl,.nil⟩
  |cons i q a7=>
   intro ar;obtain⟨mY,az,aqz⟩:=a7 λj bq=>ar j (.tail _ bq);have lt:=ar i (.head _);have aon:i<ts.length:=by rw[eb]at ln;omega
   have aE:ts[i]?=some ts[i]:=ct aon;obtain⟨y,ai,aj⟩:=bH.get cY aE;rw[cL,ct lt]at ai;cases ai;refine⟨ts[i]::mY,?_,.cons ?_ aqz⟩
   .rw[gv,az];show(aK ts).getD i .bD::aK mY=V.ref ts[i]::aK mY;congr 1;show((aK ts)[i]?).getD .bD=_;unfold aK;rw[cL,aE];rfl
   .show H ts[i]=some (d1.tup (iX (cs.getD i (0,0))));rw[show cs.getD i (0,0)=cs[i] by rw[cH,ct lt];rfl];exact aj
 exact all _ λi ar=>Ce ar
noncomputable def ke(ns:List Nat):List Int:=ns.map λn:Nat=>(n:Int)
noncomputable def jk(ns:List Nat):List Nat:=(sortI (ke ns)).map DU
theorem ad9{ns:List Nat}(aF:ns.Nodup):(ke ns).Nodup:=r_.mpr (aF.imp λh z=>h (by omega))
theorem H5(ns:List Nat):ke (jk ns)=sortI (ke ns):=by
 unfold jk ke;rw[gJ];have:∀x∈sortI (ns.map λn:Nat=>(n:Int)),((λn:Nat=>(n:Int))∘DU) x=x:=λx ay=>by obtain⟨n,_,rfl⟩:=cw.mp ((sortI_perm _).mem_iff.mp ay);rfl
 rw[tV this,VA]
theorem xu(ns:List Nat):(jk ns).Perm ns:=by
 have h:=(sortI_perm (ke ns)).map DU;have e:(ke ns).map DU=ns:=by unfold ke;rw[gJ];have:∀x∈ns,(DU∘λn:Nat=>(n:Int)) x=x:=λx _=>m8 x;rw[tV this,VA]
 rw[e]at h;exact h
theorem T'{ns:List Nat}(aF:ns.Nodup):(jk ns).Pairwise (· < ·):=by have h:=abY (ad9 aF);rw[←H5]at h;unfold ke at h;exact(r_.mp h).imp λz=>by omega
noncomputable def zI(room:Int)(q:List (Int×Nat)):List Nat:=jk (((jJ q).take room.toNat).map (·.2))
noncomputable def k4(E:List (Nat×Addr)):List (bx×ag.V):=E.map λe=>(eS (e.1:Int),.ref e.2)
structure oo(m7 H:aa)(p:Addr)(E:List (Nat×Addr))(q:Nat→List (Int×Nat)):Prop where
 tab:H p=some (.bX (k4 E))
 ta:(E.map (·.1)).Nodup
 na:(E.map (·.2)).Nodup
 each:∀e∈E,m7 e.2=none∧e.2≠p∧∃ts,H e.2=some (.lst (aK ts))∧dU H ts ((q e.1).map iX)
theorem oo.same{m7 H U:aa}{p:Addr}{E:List (Nat×Addr)}{q:Nat→List (Int×Nat)}(h:oo m7 H p E q)(aA:aH H U):oo m7 U p E q:=
 ⟨aA _ _ h.tab,h.ta,h.na,λe he=>let⟨a,b,ts,c,d⟩:=h.each e he;⟨a,b,ts,aA _ _ c,d.same aA⟩⟩
theorem Hq:∀{E:List (Nat×Addr)},(E.map (·.1)).Nodup→∀{r:Nat}{l:Addr},(r,l)∈E→cU (k4 E) (eS (r:Int):bx)=some (.ref l)
 |[],_,_,_,h=>nomatch h
 | (r0,O7)::E,aF,r,l,h=>by
  rw[gv,hL]at aF;rcases dx.mp h with e|e
  .cases e;exact lS rfl
  .show cU ((eS (r0:Int),V.ref O7)::k4 E) _=_;rw[kY (λz=>aF.1 (by
    have dp:(r0:Int)=(r:Int):=z' z;have:r0=r:=by omega
    rw[this];exact cw.mpr ⟨_,e,rfl⟩))]
   exact Hq aF.2 e
theorem SM:∀{E:List (Nat×Addr)}{r:Nat},r∉E.map (·.1)→cU (k4 E) (eS (r:Int):bx)=none
 |[],_,_=>rfl
 | (r0,O7)::E,r,h=>by
  show cU ((eS (r0:Int),V.ref O7)::k4 E) _=_;rw[kY (λz=>h (by
   have dp:(r0:Int)=(r:Int):=z' z;have:r0=r:=by omega
   rw[this];exact .head _))]
  exact SM λz=>h (.tail _ z)
theorem oo.new{m7 H:aa}{p ip:Addr}{E:List (Nat×Addr)}{q:Nat→List (Int×Nat)}(h:oo m7 H p E q){r:Nat}(au:r∉E.map (·.1))(p_:q r=[])(P2:m7 ip=none)(bB:H ip=some (.lst []))(PE:∀e∈E,e.2≠ip):
  oo m7 (upd H p (.bX (eJ (k4 E) (eS (r:Int)) (.ref ip)))) p (E++[(r,ip)]) q:=by
 have np:ip≠p:=λz=>by rw[z,h.tab]at bB;cases bB
 refine⟨?_,?_,?_,λe he=>?_⟩
 .rw[aQ,Cb _ (SM au)];unfold k4;rw[eC];rfl
 .rw[eC];exact BA h.ta au
 .rw[eC];refine BA h.na λz=>?_;obtain⟨e,he,aE⟩:=cw.mp z;exact PE e he aE
 .rcases hv.mp he with z|z
  .obtain⟨a,b,ts,c,d⟩:=h.each e z;exact⟨a,b,ts,by rw[aD b];exact c,d.upd h.tab (by intro d z;cases z)⟩
  .rw[gK.mp z];refine⟨P2,np,[],by rw[aD np];exact bB,?_⟩;show dU _ [] ((q r).map iX);rw[p_];exact .nil
theorem oo.add{m7 H:aa}{p l t:Addr}{E:List (Nat×Addr)}{q:Nat→List (Int×Nat)}{ts:List Addr}(h:oo m7 H p E q){r:Nat}(au:(r,l)∈E){c:Int×Nat}(aq:H l=some (.lst (aK ts)))(cY:dU H ts ((q r).map iX))(df:H t=some (.tup (iX c)))(aw:m7 t=none):
  oo m7 (upd H l (.lst (aK ts++[V.ref t]))) p E (λcE=>if cE=r then q r++[c]else q cE):=by
 obtain⟨a0,pv,_⟩:=h.each _ au;have pv:l≠p:=pv;have uniq:∀e∈E,e.2=l→e=(r,l):=λe he z=>by
  obtain⟨i,ar,eF⟩:=pe he;obtain⟨j,bq,ec⟩:=pe au;have az:(E.map (·.2))[i]'(by rw[a'];exact ar)=(E.map (·.2))[j]'(by rw[a'];exact bq):=by rw[D7,D7,eF,ec,z]
  have:=(zB h.na).mp az;subst this;rw[←eF,ec]
 refine⟨by rw[aD (b' pv)];exact h.tab,h.ta,h.na,λe he=>?_⟩;obtain⟨a,b,mY,lQ,d⟩:=h.each e he;refine⟨a,b,?_⟩;by_cases z:e.2=l
 .obtain rfl:=uniq e he z;refine⟨ts++[t],by rw[aQ,qX],?_⟩;show dU _ _ ((if r=r then q r++[c]else q r).map iX);rw[a8 rfl,eC];exact dU.upd (Paired.snoc (F:=λr d=>H r=some (.tup d)) df cY) aq (by intro d z;cases z)
 .refine⟨mY,by rw[aD z];exact lQ,?_⟩;have il:e.1≠r:=λy=>z (by
   obtain⟨i,ar,eF⟩:=pe he;obtain⟨j,bq,ec⟩:=pe au;have az:(E.map (·.1))[i]'(by rw[a'];exact ar)=(E.map (·.1))[j]'(by rw[a'];exact bq):=by rw[D7,D7,eF,ec,y]
   have:=(zB h.ta).mp az;subst this;rw[←eF,ec])
  show dU _ _ ((if e.1=r then q r++[c]else q e.1).map iX);rw[aX il];exact d.upd aq (by intro d z;cases z)
noncomputable def dS(due:Nat→Int)(rd:Nat→Nat)(T:Int)(go:List Nat)(r:Nat):List (Int×Nat):=(go.filter λn=>decide (due n≤T)&&decide (rd n=r)).map λn=>(due n,n)
theorem V4{due:Nat→Int}{rd:Nat→Nat}{T:Int}{go:List Nat}{n:Nat}(h:¬due n≤T):dS due rd T (go++[n])=dS due rd T go:=by funext r;unfold dS;rw[m9,eC];simp[pd,h]
theorem H6{due:Nat→Int}{rd:Nat→Nat}{T:Int}{go:List Nat}{n:Nat}(h:due n≤T):dS due rd T (go++[n])=λcE=>if cE=rd n then dS due rd T go (rd n)++[(due n,n)]else dS due rd T go cE:=by
 funext r;unfold dS;rw[m9,eC];by_cases e:r=rd n
 .subst e;simp[pd,h]
 .simp[pd,h,e,b' e]
theorem UM(due:Nat→Int)(rd:Nat→Nat)(T:Int)(go:List Nat)(r:Nat):(dS due rd T go r).length≤go.length:=by unfold dS;rw[a'];exact lK _ _
noncomputable def I7(hs:List (List Nat))(kvs:c2)(gs:List Str)(sss:List (List Step))(due:Nat→Int)(rd:Nat→Nat)(n:Nat):Prop:=∃(ss:List Step)(s:Step)(y:Str),sss[n]?=some (ss++[s])∧s.due=due n∧gs[n]?=some y∧s.dm∈hs.map S∧y∈hs.map S∧s.dm≠y∧cU kvs (gH s.dm y)=some (.int (rd n:Int))
noncomputable def e4(go:List Nat):List ag.V:=go.map λn:Nat=>V.int (n:Int)
noncomputable def aea(hs:List (List Nat))(kvs:c2)(gs:List Str)(sss:List (List Step))(due:Nat→Int)(n:Nat):Prop:=∃(ss:List Step)(s:Step)(y:Str),sss[n]?=some (ss++[s])∧s.due=due n∧gs[n]?=some y∧s.dm∈hs.map S∧y∈hs.map S∧s.dm≠y∧cU kvs (gH s.dm y)=none
noncomputable def SN(hw:Nat→Bool)(hs:List (List Nat))(kvs:c2)(gs:List Str)(sss:List (List Step))(due:Nat→Int)(rd:Nat→Nat)(n:Nat):Prop:=(hw n=true∧I7 hs kvs gs sss due rd n)∨(hw n=false∧aea hs kvs gs sss due n)
inductive ahB(K:aS)(C bf aC:Addr)(vs:(List ag.V))(H:aa)(Q:a6)(bl:b6):Prop where
 |mk (x n g st gl y kc t aZ a3:Addr) (gs:List Str) (ls:List Addr) (sss:List (List Step)) (hs:List (List Nat)) (ys:List ag.V) (kvs:c2) (go:List Nat) (hw:Nat→Bool) (due:Nat→Int) (rd:Nat→Nat) (T:Int) (bW:vs=[.ref x,.ref gl,.ref y,.int T]) (bG:WalkAt C H x n g st gs ls sss) (b4:aO K H gl (e4 go)) (cM:l0 bf aC H y kc t aZ a3 (dn hs) ys kvs) (d3:Good hs) (fK:go.length≤100) (iZ:(∀k∈go,SN hw hs kvs gs sss due rd k)) (m5:∀(p:Addr)(U:aa)(E:List (Nat×Addr)),H p=none→aH H U→oo H U p E (dS due rd T (go.filter hw))→(∀r,r∈E.map (·.1)↔dS due rd T (go.filter hw) r≠[])→Q (.ref p) U)
noncomputable def Kk(K:aS)(C bf aC:Addr):b8:=λvs H Q bl=>ahB K C bf aC vs H Q bl
section
variable{P:bL}{w:bC}{K:aS}{mg:Str→Option Value}{base:Heap}
noncomputable abbrev CN:Stmt:=top 36
theorem zQ:cT ["walk","going","ways","turn","queues","number","came","road"] ["walk","going","ways","turn"] (cy CN):=⟨rfl,rfl,rfl,by decide+kernel,rfl,by decide+kernel,by decide+kernel⟩
inductive aiv(x gl y p:Addr)(T:Int)(due:Nat→Int)(rd:Nat→Nat)(go:List Nat)(hw:Nat→Bool)(H:aa)(i:Nat)(σ:ag.St)(bU:aa):Prop where
 |mk (E:List (Nat×Addr)) (v1 v2 kh:Option ag.V) (bW:σ=[some (.ref x),some (.ref gl),some (.ref y),some (.int T),some (.ref p),v1,v2,kh]) (bG:aH H bU) (b4:oo H bU p E (dS due rd T ((go.take i).filter hw))) (cM:∀r,r∈E.map (·.1)↔dS due rd T ((go.take i).filter hw) r≠[]) (d3:E.length≤i)
theorem ahC{C bf aC fu f f1 f2 cc f4:Addr}{fd cg c_ e5 j2:b5}(F:a_ K "queues_at" "queues_at" CN f fd)(cm:mC K C)(qO:tw K bf)(kq:cR K C "last_turn" "Walk.last_turn" tf ["self","number"] f1 cg)(ud:aB P w K mg base aM 1 f1 cg ["self","number"] (xS C))(nd:cR K C "last_house" "Walk.last_house" ve ["self","number"] f2 c_)(Aj:aB P w K mg base aM 1 f2 c_ ["self","number"] (Cz C))(Gq:cR K C "goal" "Walk.goal" yy ["self","number"] cc e5)(Ĕ:aB P w K mg base aM 1 cc e5 ["self","number"] (IV C))(GJ:cR K bf "way" "Ways.way" CS ["self","house","goal"] f4 j2)(Qx:aB P w K mg base (eQ P w) 3 f4 j2 ["self","house","goal"] (Ku bf aC fu)):
  aB P w K mg base aM 4 f fd ["walk","going","ways","turn"] (Kk K C bf aC):=by
 have fh:=cm.cl;have nk:=qO.cl;refine F.ok zQ (λvs H Q E h=>?_) (λcdv A outer s H vs Q E au h=>?_)
 .obtain⟨x,n,g,st,gl,y,kc,t,aZ,a3,gs,ls,sss,hs,ys,kvs,go,hw,due,rd,T,rfl,_⟩:=h;rfl
 .obtain⟨x,n,g,st,gl,y,kc,t,aZ,a3,gs,ls,sss,hs,ys,kvs,go,hw,due,rd,T,rfl,W,xj,mn,G,b9,ok,q⟩:=h;obtain⟨ah,ay⟩:=W.ins;obtain⟨ky,cW⟩:=mn.ins;refine⟨_,(a9 (c9 (i:=4) zQ.aF rfl (cu rfl) RS)
   (a9 (jf iL rfl (hP (ae 1)) (d2 (i:=5) zQ.aF rfl (cu rfl))
    (a9 (c9 (i:=6) zQ.aF rfl (cu rfl) (e3 (ae 0) fh kq.dQ ud (au.mono (by decide)) kq.bd .nil cn (av (ae 5) aJ)))
   (bu (eV (f3 mB (ae 6) (ae 3) (eh _)) (a9 (c9 (i:=7) zQ.aF rfl (cu rfl) (e3 (ae 2) nk GJ.dQ Qx (au.mono (by decide)) GJ.bd .nil yA (av (e3 (ae 0) fh nd.dQ Aj (au.mono (by decide)) nd.bd .nil cn (av (ae 5) aJ)) (av (e3 (ae 0) fh Gq.dQ Ĕ (au.mono (by decide)) Gq.bd .nil cn (av (ae 5) aJ)) aJ))))
   (bu (eV (f3 HR (ae 7) k9 (eh _)) (bu (gm (qc qK se sf pG (abu (ae 4) (ae 7) (jI aJ) ⟨rfl,rfl,rfl,rfl⟩) (av (nE (av (ae 6) (av (ae 5) aJ))) aJ)))) eT))) eT))))
   (bu (cO (ae 4))))),?_⟩
  refineλp aW=>?_
  have s0:aH H (upd H p (.bX [])):=cA aW;refine⟨_,rfl,gl,rfl,⟨_,s0.seq xj⟩,?_⟩;refine oA (xs:=e4 go) (aiv x gl y p T due rd go hw H)
   ⟨[],none,none,none,rfl,s0,⟨aQ,n_,n_,λe he=>nomatch he⟩,λr=>⟨λz=>(nomatch z),λz=>bt rfl z⟩,bY _⟩ (λi σ bU _⟨_,_,_,_,_,h,_,_,_⟩=>h.seq xj) ?_ ?_
  .rintro i z σ bU di ⟨E,v1,v2,kh,rfl,aA,lu,mem,le⟩;unfold e4 at di;rw[cL]at di;obtain⟨k,f6,rfl⟩:=ew.mp di;have uT:i<go.length:=(eR.mp f6).1;have aP:go.take (i+1)=go.take i++[k]:=by rw[mf,f6];rfl
   have qP:=W.same aA;rcases ok k (dY f6)with⟨Bv,ss,s1,o3,az,aE,dj,fV,jc,qS,An⟩|⟨Bv,ss,s1,o3,az,aE,dj,fV,jc,qS,An⟩
   .have aP:(go.take (i+1)).filter hw=(go.take i).filter hw++[k]:=by rw[aP,m9,pd,a8 Bv,Jt]
    refine⟨_,rfl,x,ah,_,rfl,aA _ _ ay,rfl,_,rfl,x,n,g,st,gs,ls,sss,k,ss,s1,rfl,qP,az,?_⟩;refine⟨_,rfl,_,rfl,_,_,rfl,rfl,_,rfl,?_⟩;by_cases hd:due k≤T
    .refine eE (cB (by rw[aE];exact hd)) ?_;refine⟨_,rfl,y,ky,_,rfl,aA _ _ cW,rfl,_,rfl,x,ah,_,rfl,aA _ _ ay,rfl,_,rfl,x,n,g,st,gs,ls,sss,k,ss,s1,rfl,qP,az,_,rfl,x,ah,_,rfl,aA _ _ ay,rfl,_,rfl,x,n,g,st,gs,ls,sss,k,o3,rfl,qP,dj,?_⟩;refine⟨y,kc,t,aZ,a3,hs,_,kvs,s1.dm,o3,rfl,mn.same aA,G,nD G fV,nD G jc,λ_ ak s2=>?_,λz=>bt (H2 fV jc qS) (by rw[z];decide)⟩;rw[An];refine⟨_,rfl,rfl,_,rfl,eE (by simp) ?_⟩;have vi:=aA.trans s2;have QE:=lu.same s2;refine⟨_,rfl,p,rfl,.inl ⟨_,.inl QE.tab⟩,_,rfl,eD _,λip PZ=>?_⟩;have s3:=cA (o:=.lst []) PZ;have th:=QE.same s3;have HF:=vi.trans s3;have bB:upd ak ip (.lst []) ip=some (.lst []):=aQ;have Z1:=mF vi PZ;have PE:∀e∈E,e.2≠ip:=λe he z=>by obtain⟨_,_,ts,c,_⟩:=QE.each e he;rw[z,PZ]at c;cases c
     generalize upd ak ip (.lst [])=bp at s3 th HF bB⊢;have f7:(k4 E).length=E.length:=a' _;refine⟨k4 E,eS (rd k:Int),rfl,th.tab,eZ (by omega),λv bA=>?_,λh0=>?_⟩
     .have j7:rd k∈E.map (·.1):=by
       by_cases z:rd k∈E.map (·.1)
       .exact z
       .rw[SM z]at bA;cases bA
      obtain⟨⟨r0,l⟩,he,e0⟩:=cw.mp j7;have e0:r0=rd k:=e0;subst e0;rw[Hq th.ta he]at bA;cases bA;obtain⟨nl,_,ts,aq,cY⟩:=th.each _ he;refine⟨.inl ⟨rfl,_,aO.of aq⟩,_,rfl,_,rfl,(by show 2≤sizeLine;decide),λr il=>?_⟩;have s4:=cA (o:=.tup [V.int s1.due,V.int (k:Int)]) il;have QF:=th.same s4;have au:upd bp r (.tup [V.int s1.due,V.int (k:Int)]) r=some (.tup (iX (due k,k))):=by rw[aQ,aE];rfl
      have c0:=cY.len;refine⟨l,_,_,rfl,rfl,s4 _ _ aq,eZ (by rw[eb];rw[a']at c0;have:=UM due rd T ((go.take i).filter hw) (rd k);have fI:=lK hw (go.take i);rw[jR]at fI;have atO:ts.length=(dS due rd T ((go.take i).filter hw) (rd k)).length:=c0;omega),?_⟩;refine⟨E,_,_,_,rfl,i8 nl (HF.trans s4),?_,?_,by omega⟩
      .rw[aP,H6 hd];exact QF.add he (s4 _ _ aq) (cY.same s4) au (mF HF il)
      .intro cE;rw[aP,H6 hd,mem cE];dsimp only;by_cases z:cE=rd k
       .subst z;rw[a8 rfl];exact⟨λ_=>by simp,λ_=>(mem _).mp j7⟩
       .rw[aX z]
     .have j7:rd k∉E.map (·.1):=λz=>by obtain⟨⟨r0,l⟩,he,e0⟩:=cw.mp z;have e0:r0=rd k:=e0;subst e0;rw[Hq th.ta he]at h0;cases h0
      have p_:dS due rd T ((go.take i).filter hw) (rd k)=[]:=by
       by_cases z:dS due rd T ((go.take i).filter hw) (rd k)=[]
       .exact z
       .exact bt ((mem _).mpr z) j7
      have oU:=th.new j7 p_ Z1 bB PE;have Rg:aH H (upd bp p (.bX (eJ (k4 E) (eS (rd k:Int)) (.ref ip)))):=i8 aW HF;have np:ip≠p:=λz=>by rw[z,th.tab]at bB;cases bB
      have F8:upd bp p (.bX (eJ (k4 E) (eS (rd k:Int)) (.ref ip))) ip=some (.lst (aK [])):=by rw[aD np];exact bB
      generalize upd bp p (.bX (eJ (k4 E) (eS (rd k:Int)) (.ref ip)))=dw at oU Rg F8⊢;have he:(rd k,ip)∈E++[(rd k,ip)]:=hv.mpr (.inr (.head _));refine⟨.inl ⟨rfl,_,aO.of F8⟩,_,rfl,_,rfl,(by show 2≤sizeLine;decide),λr il=>?_⟩;have s4:=cA (o:=.tup [V.int s1.due,V.int (k:Int)]) il;have QF:=oU.same s4;have au:upd dw r (.tup [V.int s1.due,V.int (k:Int)]) r=some (.tup (iX (due k,k))):=by rw[aQ,aE];rfl
      refine⟨ip,_,_,rfl,rfl,s4 _ _ F8,(by show 0<sizeLine;decide),?_⟩;refine⟨E++[(rd k,ip)],_,_,_,rfl,i8 Z1 (Rg.trans s4),?_,?_,by rw[fT];show E.length+1≤i+1;omega⟩
      .rw[aP,H6 hd];exact QF.add (ts:=[]) he (s4 _ _ F8) (by rw[p_];exact .nil) au (mF Rg il)
      .intro cE;rw[aP,H6 hd,eC,hv,mem cE];dsimp only;by_cases z:cE=rd k
       .subst z;rw[a8 rfl];exact⟨λ_=>by simp,λ_=>.inr (.head _)⟩
       .rw[aX z];exact⟨λy=>y.elim id λy=>bt (gK.mp y) z,.inl⟩
    .refine fO (dP (by rw[aE];exact hd)) ?_;exact⟨E,_,_,kh,rfl,aA,by rw[aP,V4 hd];exact lu,by rw[aP,V4 hd];exact mem,by omega⟩
   .have aP:(go.take (i+1)).filter hw=(go.take i).filter hw:=by rw[aP,m9,pd,aX (by rw[Bv];decide),Jt,kn]
    refine⟨_,rfl,x,ah,_,rfl,aA _ _ ay,rfl,_,rfl,x,n,g,st,gs,ls,sss,k,ss,s1,rfl,qP,az,?_⟩;refine⟨_,rfl,_,rfl,_,_,rfl,rfl,_,rfl,?_⟩;by_cases hd:due k≤T
    .refine eE (cB (by rw[aE];exact hd)) ?_;refine⟨_,rfl,y,ky,_,rfl,aA _ _ cW,rfl,_,rfl,x,ah,_,rfl,aA _ _ ay,rfl,_,rfl,x,n,g,st,gs,ls,sss,k,ss,s1,rfl,qP,az,_,rfl,x,ah,_,rfl,aA _ _ ay,rfl,_,rfl,x,n,g,st,gs,ls,sss,k,o3,rfl,qP,dj,?_⟩;refine⟨y,kc,t,aZ,a3,hs,_,kvs,s1.dm,o3,rfl,mn.same aA,G,nD G fV,nD G jc,λ_ ak s2=>?_,λz=>bt (H2 fV jc qS) (by rw[z];decide)⟩;rw[An];refine⟨_,rfl,rfl,_,rfl,fO (by simp) ?_⟩;exact⟨E,_,_,_,rfl,aA.trans s2,by rw[aP];exact lu.same s2,by rw[aP];exact mem,by omega⟩
    .refine fO (dP (by rw[aE];exact hd)) ?_;exact⟨E,_,_,kh,rfl,aA,by rw[aP];exact lu,by rw[aP];exact mem,by omega⟩
  .rintro σ bU ⟨E,v1,v2,kh,rfl,aA,lu,mem,le⟩;unfold e4 at lu mem;rw[a',mh]at lu mem;exact⟨_,rfl,q p bU E aW aA lu mem⟩
end
end fq
namespace cq
open PySem PySem.Spec PyProof.Rows ag
section
variable{X:bh}
theorem arl:j' X (.builtin "sorted") (λxs H Q=>∃(p:Addr)(ns:List Int),xs=[.ref p]∧aO X.K H p (ns.map V.int)∧ns.length<64∧∀l,H l=none→Q (.ref l) (upd H l (.lst ((sortI ns).map V.int)))):=by intro pins s σ H xs us Q I r h;obtain⟨p,ns,rfl,bb,O8,q⟩:=h;obtain⟨u,rfl,eP⟩:=vals1 r;cases eP;obtain⟨its,cz,pl,bB⟩:=I.list bb;have hlen:=cz.length;rw[a']at hlen;refine ñ (κ:=Qa) (lt:=ltI ns) pl.isList (by omega) (λaj s1 x wO fP=>ö cz aj fP) (λaj s1 x i j C ar bq ei=>T9 cz ar bq ei) λD h' c hle x aG=>?_;refine⟨.ref D,_,I.laid (a:=D) (o:=.lst ((sortI ns).map V.int)) (t':=s.toks) (λb o q=>x b o q) hle ?_,rfl,q D (I.bj.fresh hle)⟩;rw[←UL];refine⟨?_,_,c,Rz cz,aG⟩;rw[R9];exact bB
theorem aqS(aG:X.calm=true):j' X (.builtin "sorted") (λxs H Q=>∃(p:Addr)(kvs:List (bx×V))(ns:List Int),xs=[.ref p]∧H p=some (.bX kvs)∧kvs.map (·.1)=ns.map eS∧ns.length<64∧∀l,H l=none→Q (.ref l) (upd H l (.lst ((sortI ns).map V.int)))):=by
 intro pins s σ H xs us Q I r h;obtain⟨p,kvs,ns,rfl,aW,f6,O8,q⟩:=h;obtain⟨u,rfl,eP⟩:=vals1 r;cases eP;have d9:X.A.handled=none:=I.ok.hd aG;obtain⟨Dy,lo,ys,rel,o,es,ep,bw,ay,hd,_,uP,aw⟩:=vw I.bj aW;have cz:cN (ns.map V.int) (es.toList.map (·.key)):=by
  have gen:∀{kvs:List (bx×V)}{ys:List (bx×Value)}{f7:List vG}{ns:List Int},fC kvs ys→Pairs (hn X.prog X.w) f7 ys→kvs.map (·.1)=ns.map eS→cN (ns.map V.int) (f7.map (·.key)):=by
   intro kvs ys f7 ns rel pr
   induction pr generalizing kvs ns with
   |nil=>
    intro e;cases rel;cases ns with
    |nil=>exact .nil
    |cons _ _=>cases e
   |cons ai aj t a7=>
    intro e;cases rel with
    |cons a b=>
     cases ns with
     |nil=>cases e
     |cons n ns=>
      rw[gv,gv,Jo]at e;refine .cons ?_ (a7 b e.2);rw[←a.1,e.1]at ai;exact ad7 ai
  exact gen rel uP f6
 have aq:=cz.length;rw[a']at aq;have Gj:kvs.length=ns.length:=by have:=iP Jv f6;simpa using this
 refine ĭ (κ:=Qa) (lt:=ltI ns) lo d9 ⟨o,bw,ay,hd⟩ rfl (by omega) (λaj s1 x wO fP=>ö cz aj fP) (λaj s1 x i j C ar bq ei=>T9 cz ar bq ei) λai D h' t c fe hle x aG=>?_;have aU:Inv X pins σ H {s with heap:=ai,toks:=t}:=I.kept (t':=t) λb o e=>fe b o e;refine⟨.ref D,_,aU.laid (a:=D) (o:=.lst ((sortI ns).map V.int)) (t':=t) (λb o q=>x b o q) hle ?_,rfl,q D (aU.bj.fresh hle)⟩;rw[←UL];refine⟨?_,_,c,Rz cz,aG⟩;rw[R9,a'];omega
end
end cq
namespace fq
open PySem ag cq aN
theorem aeb{K:aS}{wi:TI}{cs:List (Option Nat)}{b7:TE}{σ rest:ag.St}{H:aa}{Q:a6}{ds:List (List ag.V)}(hw:∀R:ff→aa→Prop,(∀p H1 ts,H p=none→aH H H1→H1 p=some (.lst (aK ts))→dU H1 ts ds→R (i3 K p) H1)→wi σ H R)(fl:gQ cs σ=none::none::rest)(aq:ds.length<sizeLine)(f:Nat→ag.V)(two:∀d∈ds,∃u v,d=[u,v])(elt:∀(i:Nat)(u v:ag.V)(ak:aa)(R:a6),ds[i]?=some [u,v]→aH H ak→(∀bK,aH ak bK→R (f i) bK)→b7 (some u::some v::rest) ak R)(fin:∀(D:Addr)(U:aa),H D=none→U D=some (.lst ((dt ds.length).map f))→aH H U→Q (.ref D) U):lC wi cs (tL K 2 (oO (g4 0) (oO (g4 1) wj))) rL b7 σ H Q:=by
 refine hw _ λp H1 ts np s1 aW cY D bO=>?_;have ln:=cY.len;refine⟨λi m ys aY U=>m=ds.length-i∧i≤ds.length∧ys=(dt i).map f∧(∃iW mO,aY=iW::mO::rest)∧aH H1 U∧U D=some (.lst ys),⟨ds.length,by simp,eD _,rfl,⟨none,none,by rw[fl]⟩,λb o e=>?_,aQ⟩,?_⟩
 .rw[aD (b2 e bO)];exact e
 .rintro i m ys aY U ⟨rfl,ar,rfl,⟨iW,mO,rfl⟩,aA,eH⟩;obtain⟨gV,ha,gW⟩:=nj (aO.of (K:=K) aW) U aA;refine⟨eH,od (by rw[a',hK];omega) aq,?_⟩;rw[eb]at gV ha gW;by_cases bP:i<ds.length
  .refine .inr ⟨ha i (by omega),λx ak y=>?_⟩;obtain⟨rfl,ex⟩:=gW i x ak (by omega) y;unfold aK at ex;rw[cL]at ex;obtain⟨t,ux,rfl⟩:=ew.mp ex;obtain⟨d,de,hd⟩:=bH.get cY ux;have hd:=aA _ _ hd;obtain⟨u,v,rfl⟩:=two d (dY de);refine⟨t,_,rfl,b1.of hd,rfl,_,_,rfl,_,_,rfl,rfl,?_⟩;show b7 (some u::some v::rest) ak _;refine elt i u v ak _ de (s1.trans aA) λbK s5=>⟨s5 _ _ eH,ds.length-(i+1),by omega,rfl,bP,?_,⟨_,_,rfl⟩,λb ob e=>?_,aQ⟩
   .rw[wC,eC];rfl
   .rw[aD (b2 e bO)];exact s5 _ _ (aA _ _ e)
  .have e:i=ds.length:=by omega
   subst e;rw[ln]at gV;exact .inl ⟨gV,fin D U (mF s1 bO) eH (s1.trans aA)⟩
theorem yR{i:Nat}{v:ag.V}{σ:ag.St}{H:aa}{Q:ag.St→aa→Prop}(h:Q (σ.set i (some v)) H):g4 i v σ H Q:=h
theorem gO.upd{H:aa}{a l:Addr}{b:dq×List Nat}{xs ys:List ag.V}(h:gO H a b)(aq:H l=some (.lst xs)):gO (ag.upd H l (.lst ys)) a b:=by obtain⟨c,ai,aj⟩:=h;exact⟨c,by rw[aD λz=>by rw[z,aq]at ai;cases ai];exact ai,by rw[aD λz=>by rw[z,aq]at aj;cases aj];exact aj⟩
theorem acs(ts:List Addr){m:Int}(h:0≤m):oZ (aK ts) none (some m)=aK (ts.take m.toNat):=by
 obtain⟨k,rfl⟩:∃k:Nat,m=(k:Int):=⟨m.toNat,by omega⟩
 unfold oZ;have f1:gu.dG (aK ts).length 0 none=0:=rfl;have f2:gu.dG (aK ts).length (aK ts).length (some (k:Int))=min k (aK ts).length:=gu.QX (aK ts).length (aK ts).length k;rw[f1,f2,Nat.sub_zero,List.drop_zero,m8];unfold aK;rw[a',Jx];by_cases z:k≤ts.length
 .rw[ab5 z]
 .rw[Nat.min_eq_right (by omega),abn (by rw[a'];exact bY _),abn (by rw[a'];omega)]
theorem ù{H:aa}:∀{ts:List Addr}{ds:List (List ag.V)}(k:Nat),dU H ts ds→dU H (ts.take k) (ds.take k)
 |_,_,0,_=>by rw[VD,VD];exact .nil
 |_,_,k+1,.nil=>.nil
 |_,_,k+1,.cons a t=>.cons a (ù k t)
noncomputable def hU(ds:List aN.a5)(due:Nat→Int)(rd:Nat→Nat)(T:Int)(go:List Nat)(r:Nat):dq×List Nat:=((T,r),zI (kH ds r) (dS due rd T go r))
theorem UN(due:Nat→Int)(rd:Nat→Nat)(T:Int)(go:List Nat)(r:Nat):(dS due rd T go r).map (·.2)=go.filter λn=>decide (due n≤T)&&decide (rd n=r):=by unfold dS;rw[gJ];exact VA _
theorem afK{due:Nat→Int}{rd:Nat→Nat}{T:Int}{go:List Nat}{r:Nat}(aF:go.Nodup):(dS due rd T go r).Nodup:=by
 have h:((dS due rd T go r).map (·.2)).Nodup:=by rw[UN];exact aF.filter _
 exact(r_.mp h).imp λh z=>h (by rw[z])
theorem SO{due:Nat→Int}{rd:Nat→Nat}{T:Int}{go:List Nat}{r:Nat}(aF:go.Nodup)(k:Nat):(((jJ (dS due rd T go r)).take k).map (·.2)).Nodup:=by
 have h:((jJ (dS due rd T go r)).map (·.2)).Nodup:=by refine(((qQ _).map _).nodup_iff).mpr ?_;rw[UN];exact aF.filter _
 rw[Jx];exact h.sublist (JD _ _)
theorem Im(ns:List Nat):e4 ns=(ke ns).map V.int:=by unfold e4 ke;rw[gJ];rfl
inductive ahD(K:aS)(C bf aC:Addr)(vs:(List ag.V))(H:aa)(Q:a6)(bl:b6):Prop where
 |mk (x n g st gl y t aZ a3:Addr) (gs:List Str) (ls rs:List Addr) (sss:List (List Step)) (hs:List (List Nat)) (ds:List aN.a5) (kvs:c2) (go:List Nat) (due:Nat→Int) (rd:Nat→Nat) (T:Int) (bW:vs=[.ref n,.ref x,.ref gl,.ref y,.int T]) (bG:WalkAt C H x n g st gs ls sss) (b4:aO K H gl (e4 go)) (cM:l0 bf aC H y n t aZ a3 (dn hs) (aK rs) kvs) (d3:gL H hs rs ds) (fK:Good hs) (iZ:go.length≤60) (m5:go.Nodup) (qy:(∀k∈go,I7 hs kvs gs sss due rd k)) (yt:(∀k∈go,rd k<ds.length)) (Ik:∀(l:Addr)(U:aa)(as:List Addr)(eK:List Nat),H l=none→aH H U→U l=some (.lst (aK as))→bH (gO U) as (eK.map (hU ds due rd T go))→eK.Pairwise (· < ·)→(∀r,r∈eK↔dS due rd T go r≠[])→Q (.ref l) U)
noncomputable def Kl(K:aS)(C bf aC:Addr):b8:=λvs H Q bl=>ahD K C bf aC vs H Q bl
inductive afL(K:aS)(C bf aC:Addr)(vs:(List ag.V))(H:aa)(Q:a6)(bl:b6):Prop where
 |mk (x n g st gl y t aZ a3:Addr) (gs:List Str) (ls rs:List Addr) (sss:List (List Step)) (hs:List (List Nat)) (ds:List aN.a5) (kvs:c2) (sL:List Nat) (hw:Nat→Bool) (go:List Nat) (due:Nat→Int) (rd:Nat→Nat) (T:Int) (bW:vs=[.ref n,.ref x,.ref gl,.ref y,.int T]) (bG:go=sL.filter hw) (b4:WalkAt C H x n g st gs ls sss) (cM:aO K H gl (e4 sL)) (d3:l0 bf aC H y n t aZ a3 (dn hs) (aK rs) kvs) (fK:gL H hs rs ds) (iZ:Good hs) (m5:sL.length≤60) (qy:sL.Nodup) (yt:(∀k∈sL,SN hw hs kvs gs sss due rd k)) (Ik:(∀k∈go,rd k<ds.length)) (ý:∀(l:Addr)(U:aa)(as:List Addr)(eK:List Nat),H l=none→aH H U→U l=some (.lst (aK as))→bH (gO U) as (eK.map (hU ds due rd T go))→eK.Pairwise (· < ·)→(∀r,r∈eK↔dS due rd T go r≠[])→Q (.ref l) U)
noncomputable def yS(K:aS)(C bf aC:Addr):b8:=λvs H Q bl=>afL K C bf aC vs H Q bl
theorem afM{K:aS}{C bf aC:Addr}{vs:List ag.V}{H:aa}{Q:a6}{E:b6}(h:Kl K C bf aC vs H Q E):yS K C bf aC vs H Q E:=by obtain⟨x,n,g,st,gl,y,t,aZ,a3,gs,ls,rs,sss,hs,ds,kvs,go,due,rd,T,rfl,W,xj,mn,R,G,b9,GU,ok,QL,q⟩:=h;exact⟨x,n,g,st,gl,y,t,aZ,a3,gs,ls,rs,sss,hs,ds,kvs,go,λ_=>true,go,due,rd,T,rfl,(D4.mpr λ_ _=>rfl).symm,W,xj,mn,R,G,b9,GU,λk aT=>.inl ⟨rfl,ok k aT⟩,QL,q⟩
section
variable{P:bL}{w:bC}{K:aS}{mg:Str→Option Value}{base:Heap}
noncomputable abbrev x1:Stmt:=top 37
theorem wt:cT ["net","walk","going","ways","turn","queues","bags","road","room","chosen"] ["net","walk","going","ways","turn"] (cy x1):=⟨rfl,rfl,rfl,by decide+kernel,rfl,by decide+kernel,by decide+kernel⟩
inductive aiw(n x gl y p aV br:Addr)(T:Int)(eK:List Nat)(ds:List aN.a5)(due:Nat→Int)(rd:Nat→Nat)(go:List Nat)(H1:aa)(j:Nat)(σ:ag.St)(bU:aa):Prop where
 |mk (as:List Addr) (v1 v2 kh:Option ag.V) (bW:σ=[some (.ref n),some (.ref x),some (.ref gl),some (.ref y),some (.int T),some (.ref p),some (.ref aV),v1,v2,kh]) (bG:aH H1 bU) (b4:bU br=some (.lst (e4 eK))) (cM:bU aV=some (.lst (aK as))) (d3:bH (gO bU) as ((eK.take j).map (hU ds due rd T go)))
theorem afN{C bf aC f f1 f2:Addr}{fd cg c_:b5}(F:a_ K "bags_at" "bags_at" x1 f fd)(B:fo mg)(fx:d_ K aC)(BC:c1 K mg "queues_at" CN ["walk","going","ways","turn"] f1 cg)(Ė:aB P w K mg base aM 4 f1 cg ["walk","going","ways","turn"] (Kk K C bf aC))(ks:cR K aC "road" "Net.road" rm ["self","number"] f2 c_)(uS:aB P w K mg base aM 1 f2 c_ ["self","number"] (H0 aC)):
  aB P w K mg base aM 5 f fd ["net","walk","going","ways","turn"] (yS K C bf aC):=by
 refine F.ok wt (λvs H Q E h=>?_) (λcdv A outer s H vs Q E au h=>?_)
 .obtain⟨x,n,g,st,gl,y,t,aZ,a3,gs,ls,rs,sss,hs,ds,kvs,sL,hw,go,due,rd,T,rfl,_⟩:=h;rfl
 .obtain⟨x,n,g,st,gl,y,t,aZ,a3,gs,ls,rs,sss,hs,ds,kvs,sL,hw,go,due,rd,T,rfl,Mj,W,xj,mn,R,G,al1,aoF,ok,QL,q⟩:=h;have b9:go.length≤60:=by rw[Mj];exact el (lK _ _) al1
  have GU:go.Nodup:=by rw[Mj];exact aoF.filter _
  obtain⟨gw,aw⟩:=mn.gy.ins;refine⟨_,(a9 (c9 (i:=5) wt.aF rfl (cu rfl) (ed Ė (au.mono (by decide)) (by rfl) BC.at_ BC.fn.b0 BC.bd .nil cn (av (ae 1) (av (ae 2) (av (ae 3) (av (ae 4) aJ))))))
   (a9 (c9 (i:=6) wt.aF rfl (cu rfl) (jI aJ))
   (a9 (jf iL rfl (hP (d7 (aqS rfl) (by rfl) B.sorted Hb (av (ae 5) aJ))) (d2 (i:=7) wt.aF rfl (cu rfl))
    (a9 (c9 (i:=8) wt.aF rfl (cu rfl) (b_ dE (e3 (ae 0) fx ks.dQ uS (au.mono (by decide)) ks.bd .nil cn (av (ae 7) aJ)) ba (λ_ _=>rfl)))
   (a9 (oB (i:=9) wt.aF rfl rfl rfl (N':=["came","number"]) (cs:=[none,none]) rfl (hP (Hm Uw (d7 ο (by rfl) B.sorted Hb (av (sX (jo au) (ae 5) (ae 7) (λ_ _=>rfl)) aJ)) SE (Cs (ae 8)))) rfl (by decide+kernel) rfl (by decide+kernel) (iz (λp aW=>bt aW (dN))) rfl
    (.own (.own .nil))
    (λC s3 bp bZ ef=>⟨(CC (K:=K) (n:=2) rfl rfl (jb (d2 (i:=0) (by show(["came","number"]:List Str).Nodup;decide+kernel) rfl (.inl rfl)) (jb (d2 (i:=1) (by show(["came","number"]:List Str).Nodup;decide+kernel) rfl (.inl rfl)) q9))),lU,(ae 1)⟩))
   (bu (gm (qc qK se sf pG (ae 6) (av (nE (av (ae 4) (av (ae 7) (av (ow aqR (by rfl) B.tuple Hn (av (d7 arl (by rfl) B.sorted Hb (av (ae 9) aJ)) aJ)) aJ)))) aJ)))))))
   (bu (cO (ae 6)))))),?_⟩
  refine⟨_,rfl,_,rfl,_,rfl,_,rfl,x,n,g,st,gl,y,n,t,aZ,a3,gs,ls,sss,hs,_,kvs,sL,hw,due,rd,T,rfl,W,xj,mn,G,(by omega),ok,λp H1 E np s1 lu mem=>?_⟩;rw[←Mj]at lu mem;refine⟨eD _,λaV s8=>?_⟩;have s2:=cA (o:=.lst []) s8;have Bi:upd H1 aV (.lst []) aV=some (.lst []):=aQ;generalize upd H1 aV (.lst [])=ak at s2 Bi⊢;obtain⟨gq,EV⟩:∃gq,gq=E.map (·.1):=⟨_,rfl⟩
  have ZL:gq.Nodup:=by rw[EV];exact lu.ta
  have f6:(k4 E).map (·.1)=(ke gq).map eS:=by rw[EV];unfold k4 ke;rw[gJ,gJ,gJ];rfl
  have as2:gq.length≤go.length:=by
   have aj:=ox (sn:=gq) (L:=go.map rd) ZL λr au=>by rw[EV]at au;obtain⟨c,aG⟩:=D1 _ ((mem r).mp au);unfold dS at aG;obtain⟨k,aT,_⟩:=cw.mp aG;obtain⟨bk,cv⟩:=ea.mp aT;simp only[hG,decide_eq_true_eq]at cv;exact cw.mpr ⟨k,bk,cv.2⟩
   rwa [a']at aj
  refine⟨_,rfl,p,k4 E,ke gq,rfl,s2 _ _ lu.tab,f6,(by unfold ke;rw[a'];omega),λbr mL=>⟨br,rfl,⟨_,aO.of aQ⟩,?_⟩⟩;rw[←H5,←Im];have s3:=cA (o:=.lst (e4 (jk gq))) mL;have NS:upd ak br (.lst (e4 (jk gq))) br=some (.lst (e4 (jk gq))):=aQ;have Yu:=s3 _ _ Bi;have apT:br≠aV:=b' (gb Bi mL);generalize upd ak br (.lst (e4 (jk gq)))=bp at s3 NS Yu⊢;obtain⟨eK,uv⟩:∃eK,eK=jk gq:=⟨_,rfl⟩
  rw[←uv]at NS;have Pg:∀r,r∈eK↔dS due rd T go r≠[]:=λr=>by rw[uv,(xu gq).mem_iff,EV];exact mem r
  have Gj:eK.length≤100:=by rw[uv,(xu gq).length_eq];omega
  refine oA (xs:=e4 (jk gq)) (aiw n x gl y p aV br T eK ds due rd go H1)
   ⟨[],none,none,none,rfl,s2.trans s3,NS,Yu,.nil⟩ (λi σ bU _⟨_,_,_,_,_,_,h,_,_⟩=>by rw[←uv];exact aO.of h) ?_ ?_
  .rintro j z σ bU di ⟨as,v1,v2,kh,rfl,aA,Y',M4,h8⟩;rw[←uv]at di;unfold e4 at di;rw[cL]at di;obtain⟨r,d4,rfl⟩:=ew.mp di;have Y9:=dY d4;obtain⟨jW,xg⟩:=D1 _ ((Pg r).mp Y9);have atJ:r<ds.length:=by unfold dS at xg;obtain⟨k,aT,_⟩:=cw.mp xg;obtain⟨bk,cv⟩:=ea.mp aT;simp only[hG,decide_eq_true_eq]at cv;rw[←cv.2];exact QL k bk
   have QP:=s1.trans aA;have aeg:=R.same QP;have atI:=R.len;obtain⟨oV,era⟩:∃oV,rs[r]?=some oV:=⟨_,ct (by omega)⟩
   obtain⟨d,de,oS,hd⟩:=aeg.get era;have e0:ds.getD r lx=d:=nN de;refine⟨_,rfl,n,gw,_,rfl,QP _ _ aw,rfl,_,rfl,n,aZ,a3,_,_,_,_,rfl,mn.gy.same QP,(by omega),(by have:=eb rs;omega),(ja (by unfold aK;rw[cL,era];rfl)),oV,_,_,_,rfl,rfl,b1.of hd,rfl,?_⟩;have em:(d.m:Int)=kH ds r:=by unfold kH;rw[e0]
   have m0:0≤kH ds r:=by rw[←em];have:=oS.m.1;omega
   obtain⟨cs,sD⟩:∃cs,cs=dS due rd T go r:=⟨_,rfl⟩
   have atr:cs.Nodup:=by rw[sD];exact afK GU
   have lcs:cs.length≤60:=by rw[sD];have:=UM due rd T go r;omega
   have anF:r∈E.map (·.1):=(mem r).mpr ((Pg r).mp Y9);obtain⟨⟨r0,p6⟩,he,az⟩:=cw.mp anF;have az:r0=r:=az;subst az;obtain⟨_,_,ts,anc,C1⟩:=(lu.same aA).each _ he;have C1:dU bU ts (cs.map iX):=by rw[sD];exact C1
   have anA:=(lu.same aA).tab;have Yb:=ig.k (k:=eS (r0:Int)) anA;rw[Hq lu.ta he]at Yb;have aqx:=C1.len;rw[a']at aqx;obtain⟨k,XE⟩:∃k,k=(kH ds r0).toNat:=⟨_,rfl⟩
   obtain⟨ch,ER⟩:∃ch,ch=((jJ cs).take k).map (·.2):=⟨_,rfl⟩
   have ats:ch.Nodup:=by rw[ER,sD];exact SO GU k
   have cQ:((jJ cs).take k).length≤60:=by rw[jR];have:=(qQ cs).length_eq;omega
   refine yR ?_;dsimp only;refine H3 ?_;refine aeb (K:=K) (rest:=[]) (ds:=((jJ cs).take k).map iX) (λoq MP=>?_) rfl (eZ (by rw[a'];omega)) (λi=>V.int ((((jJ cs).take k).getD i (0,0)).2:Int)) (λd' nt=>?_) (λi u v bK oq eF s5 bV=>?_) (λD bK nM bO s5=>?_)
   .refine⟨_,rfl,_,rfl,p,_,rfl,Yb,p6,ts,cs.map kF,true,[true],rfl,aO.of anc,Qw C1,(by omega),Sh cs,λfQ rk=>?_⟩;obtain⟨qt,Mr,HM⟩:=ø C1;have s4:=cA (o:=.lst (hq V.bD (nI (cs.map kF)) (ts.map V.ref))) rk;have ji:upd bU fQ (.lst (hq V.bD (nI (cs.map kF)) (ts.map V.ref))) fQ=some (.lst (aK qt)):=by rw[aQ];rw[show ts.map V.ref=aK ts from rfl,Mr]
    refine⟨_,rfl,_,rfl,fQ,_,rfl,aO.of ji,λfI tb=>⟨fI,rfl,⟨_,aO.of aQ⟩,?_⟩⟩;rw[em,acs qt m0,←XE];refine MP fI _ (qt.take k) (mF s4 tb) (s4.trans (cA tb)) aQ ?_;rw[Jx];exact(ù k (HM.same s4)).same (cA tb)
   .obtain⟨c,_,rfl⟩:=cw.mp nt;exact⟨_,_,rfl⟩
   .rw[cL]at eF;obtain⟨c,kZ,aE⟩:=ew.mp eF;have dj:V.int (c.2:Int)=v:=by unfold iX at aE;simp only[Jo]at aE;exact aE.2.1
    refine⟨_,rfl,?_⟩;rw[←dj];have:=bV bK (aH.refl _);rw[nN kZ]at this;exact this
   have Mb:(dt (((jJ cs).take k).map iX).length).map (λi=>V.int ((((jJ cs).take k).getD i (0,0)).2:Int))=e4 ch:=by rw[a',range_getD (λc:Int×Nat=>V.int (c.2:Int)) (0,0) ((jJ cs).take k),ER];unfold e4;rw[gJ];rfl
   rw[Mb,Im]at bO;have M3:=s5 _ _ M4;have Zn:=hO h8;rw[a',jR]at Zn;refine⟨_,rfl,.inl ⟨rfl,_,aO.of M3⟩,_,rfl,_,rfl,_,rfl,D,ke ch,rfl,aO.of bO,(by unfold ke;rw[a',ER,a'];omega),λu0 ZT=>⟨u0,_,rfl,.inl ⟨aO.of aQ,λc GS=>⟨(by show 3≤sizeLine;decide),λe2 B5=>⟨aV,aK as,_,rfl,rfl,cA B5 _ _ (cA GS _ _ (cA ZT _ _ M3)),eZ (by rw[eb];omega),?_⟩⟩⟩⟩⟩;rw[←H5,←Im];have g_:=cA (o:=.lst (e4 (jk ch))) ZT;have kB:∀b o,bK b=some o→upd bK u0 (.lst (e4 (jk ch))) b=some o:=g_;rw[←H5,←Im]at GS B5;generalize upd bK u0 (.lst (e4 (jk ch)))=fY at g_ GS B5⊢;have ql:=cA (o:=.tup (e4 (jk ch))) GS;have YB:upd fY c (.tup (e4 (jk ch))) c=some (.tup (e4 (jk ch))):=aQ;generalize upd fY c (.tup (e4 (jk ch)))=jy at ql YB B5⊢;have lA:=cA (o:=.tup [V.int T,V.int (r0:Int),V.ref c]) B5;have Yx:upd jy e2 (.tup [V.int T,V.int (r0:Int),V.ref c]) e2=some (.tup [V.int T,V.int (r0:Int),V.ref c]):=aQ;have YC:=lA _ _ YB;generalize upd jy e2 (.tup [V.int T,V.int (r0:Int),V.ref c])=hJ at lA Yx YC⊢;have Hx:=g_.trans (ql.trans lA);have Yv:=Hx _ _ M3;have nb:gO hJ e2 (hU ds due rd T go r0):=by
    refine⟨c,Yx,?_⟩;have alM:(hU ds due rd T go r0).2=jk ch:=by unfold hU zI;rw[←sD,←XE,←ER]
    rw[alM];exact YC
   refine⟨as++[e2],_,_,_,rfl,i8 s8 (aA.trans (s5.trans Hx)),by rw[aD apT];exact Hx _ _ (s5 _ _ Y'),by rw[aQ,qX],?_⟩;rw[show eK.take (j+1)=eK.take j++[r0] by rw[mf,d4];rfl,eC];refine Paired.snoc (nb.upd Yv) (bH.f_ h8 λa b h=>((h.same s5).same Hx).upd Yv)
  .rintro σ bU ⟨as,v1,v2,kh,rfl,aA,Y',M4,h8⟩;rw[←uv]at h8;unfold e4 at h8;rw[a',mh]at h8;exact⟨_,rfl,q aV bU as eK (mF s1 s8) (s1.trans aA) M4 h8 (by rw[uv];exact T' ZL) Pg⟩
theorem ahE{C bf aC f:Addr}{fd:b5}{ps:List Str}(F:aB P w K mg base aM 5 f fd ps (yS K C bf aC)):aB P w K mg base aM 5 f fd ps (Kl K C bf aC):=F.imp λ_ _ _ _ h=>afM h
end
open PySem ag cq aN
noncomputable def apJ:Step:=⟨0,none,iM,0⟩
noncomputable def qh(ss:List Step):Step:=ss.getLastD apJ
noncomputable def cP(sss:List (List Step))(n:Nat):Step:=qh (sss.getD n [])
noncomputable def cV(sss:List (List Step))(n:Nat):Int:=(cP sss n).due
noncomputable def dh(gs:List Str)(n:Nat):Str:=gs.getD n iM
noncomputable def du(kvs:c2)(gs:List Str)(sss:List (List Step))(n:Nat):Nat:=(hp kvs (cP sss n).dm (dh gs n)).getD 0
theorem Í(ss:List Step)(s:Step):qh (ss++[s])=s:=by unfold qh;rw[abe,D9];rfl
theorem xv{ss:List Step}(h:ss≠[]):∃i,ss=i++[qh ss]:=by refine⟨ss.dropLast,?_⟩;unfold qh;rw[abe,abd h];exact(aa8 h).symm
theorem jF{α:Type}{l:List α}{i:Nat}{d:α}(h:i<l.length):l[i]?=some (l.getD i d):=by rw[cH,ct h];rfl
noncomputable def iy(m:Nat)(due:Nat→Int)(rd:Nat→Nat)(T:Int)(go:List Nat):List Nat:=(dt m).filter λr=>!(dS due rd T go r).isEmpty
noncomputable def jl(ds:List aN.a5)(due:Nat→Int)(rd:Nat→Nat)(T:Int)(go:List Nat):List (dq×List Nat):=(iy ds.length due rd T go).map (hU ds due rd T go)
theorem Uc{m:Nat}{due:Nat→Int}{rd:Nat→Nat}{T:Int}{go:List Nat}(bP:∀k∈go,rd k<m){eK:List Nat}(up:eK.Pairwise (· < ·))(mem:∀r,r∈eK↔dS due rd T go r≠[]):eK=iy m due rd T go:=by
 have Á:(iy m due rd T go).Pairwise (· < ·):=zD.filter _;have GC:∀r,r∈iy m due rd T go↔dS due rd T go r≠[]:=λr=>by
  unfold iy;rw[ea];constructor
  .rintro⟨_,h⟩ e;rw[e]at h;cases h
  .intro h;obtain⟨c,aG⟩:=D1 _ h;refine⟨gZ.mpr ?_,?_⟩
   .unfold dS at aG;obtain⟨k,aT,_⟩:=cw.mp aG;obtain⟨bk,cv⟩:=ea.mp aT;simp only[hG,decide_eq_true_eq]at cv;rw[←cv.2];exact bP k bk
   .cases e:dS due rd T go r with
    |nil=>exact bt e h
    |cons _ _=>rfl
 refine SK (R:=(· < ·)) (λa b ai aj=>by omega) ((abk (up.imp λh=>en h) (Á.imp λh=>en h)).mpr λr=>?_) up Á;rw[mem r,GC r]
theorem oF{ds:List aN.a5}{due:Nat→Int}{rd:Nat→Nat}{T:Int}{go:List Nat}{r i:Nat}(h:i∈(hU ds due rd T go r).2):i∈go∧due i≤T∧rd i=r:=by unfold hU zI at h;have ai:=(xu _).mem_iff.mp h;obtain⟨c,aG,rfl⟩:=cw.mp ai;have aj:=(qQ _).mem_iff.mp (JA aG);unfold dS at aj;obtain⟨k,aT,rfl⟩:=cw.mp aj;obtain⟨bk,cv⟩:=ea.mp aT;simp only[hG,decide_eq_true_eq]at cv;exact⟨bk,cv.1,cv.2⟩
theorem I8{ds:List aN.a5}{due:Nat→Int}{rd:Nat→Nat}{T:Int}{go:List Nat}(aF:go.Nodup)(r:Nat):(hU ds due rd T go r).2.Nodup:=((xu _).nodup_iff).mpr (SO aF _)
theorem V5{ds:List aN.a5}{due:Nat→Int}{rd:Nat→Nat}{T:Int}{go:List Nat}{r:Nat}(hm:1≤kH ds r)(h:dS due rd T go r≠[]):(hU ds due rd T go r).2≠[]:=λe=>by have fQ:=iP Jv e;unfold hU zI at fQ;rw[(xu _).length_eq,a',jR,(qQ _).length_eq]at fQ;have fI:=tU.mpr h;simp only[qG]at fQ;omega
noncomputable def eU(hs:List (List Nat))(ds:List aN.a5)(bs:List (dq×List Nat))(sss:List (List Step)):List (List Step):=bs.foldl (λs b=>kD (stepK hs ds b.1) b.2 s) sss
theorem uV(hs:List (List Nat))(ds:List aN.a5):∀(bs:List (dq×List Nat))(sss:List (List Step)),(eU hs ds bs sss).length=sss.length
 |[],_=>rfl
 |b::bs,sss=>by show(eU hs ds bs (kD (stepK hs ds b.1) b.2 sss)).length=_;rw[uV hs ds bs,BW]
theorem uW(hs:List (List Nat))(ds:List aN.a5):∀(bs:List (dq×List Nat))(sss:List (List Step))(i:Nat),(eU hs ds bs sss)[i]?=(sss[i]?).map λss=>ss++((bs.filter λb=>decide (i∈b.2)).map λb=>stepK hs ds b.1)
 |[],sss,i=>by show sss[i]?=_;cases sss[i]?<;>simp
 |b::bs,sss,i=>by
  show(eU hs ds bs (kD (stepK hs ds b.1) b.2 sss))[i]?=_;rw[uW hs ds bs,pI,Option.map_map];congr 1;funext ss;show(if i∈b.2 then ss++[stepK hs ds b.1]else ss)++_=_;rw[pd];by_cases z:i∈b.2
  .rw[a8 z,a8 (cB z),gv,r8];rfl
  .rw[aX z,aX (by rw[dP z];decide)]
theorem ú(hs:List (List Nat))(ds:List aN.a5)(bs:List (dq×List Nat))(b:dq×List Nat)(sss:List (List Step)):eU hs ds (bs++[b]) sss=kD (stepK hs ds b.1) b.2 (eU hs ds bs sss):=by unfold eU;rw[D5];rfl
theorem Ľ{L:List Nat}(aF:L.Nodup){p:Nat→Bool}{r0:Nat}(h:∀r∈L,p r=true→r=r0)(h0:p r0=true→r0∈L):L.filter p=if p r0=true then[r0]else[]:=by
 by_cases z:p r0=true
 .rw[a8 z];have gc:=aF.filter p;have all:∀r∈L.filter p,r=r0:=λr au=>h r (ea.mp au).1 (ea.mp au).2;have m0:r0∈L.filter p:=ea.mpr ⟨h0 z,z⟩
  match e:L.filter p with
  |[]=>rw[e]at m0;exact bt m0 dN
  |[a]=>rw[e]at all;rw[all a (.head _)]
  |a::b::l=>
   rw[e]at all gc;have:=(hL.mp gc).1;exact bt (by rw[all a (.head _),all b (.tail _ (.head _))];exact .head _) this
 .rw[aX z];refine Js.mpr λr au aW=>z ?_;rw[←h r au aW];exact aW
noncomputable def yT(ds:List aN.a5)(due:Nat→Int)(rd:Nat→Nat)(T:Int)(go:List Nat)(i:Nat):Bool:=decide (i∈(hU ds due rd T go (rd i)).2)
theorem SP{ds:List aN.a5}{due:Nat→Int}{rd:Nat→Nat}{T:Int}{go:List Nat}(bP:∀k∈go,rd k<ds.length)(i:Nat):(jl ds due rd T go).filter (λb=>decide (i∈b.2))=if yT ds due rd T go i=true then[hU ds due rd T go (rd i)]else[]:=by
 unfold jl;rw[wB];have aF:(iy ds.length due rd T go).Nodup:=(zD.filter _).imp λh=>en h;rw[Ľ (r0:=rd i) aF (p:=(λb:dq×List Nat=>decide (i∈b.2))∘hU ds due rd T go) (λr _ aW=>((oF (ju aW)).2.2).symm) (λaW=>?_)]
 .show Vx _ (if yT ds due rd T go i=true then[rd i]else[])=_;cases yT ds due rd T go i<;>rfl
 .have m:=oF (ju aW);unfold iy;refine ea.mpr ⟨gZ.mpr (bP i m.1),?_⟩;have hm:(due i,i)∈dS due rd T go (rd i):=by unfold dS;refine cw.mpr ⟨i,ea.mpr ⟨m.1,?_⟩,rfl⟩;rw[cB m.2.1,cB rfl];rfl
  cases e:dS due rd T go (rd i)with
  |nil=>rw[e]at hm;exact bt hm dN
  |cons _ _=>rfl
section
variable{P:bL}{w:bC}{K:aS}{mg:Str→Option Value}{base:Heap}
noncomputable abbrev QW:Stmt:=fz (top 8) 0
theorem aix:cT ["self","reason","seen"] ["self","reason","seen"] (cy QW):=⟨rfl,rfl,rfl,by decide+kernel,rfl,by decide+kernel,by decide+kernel⟩
theorem ahF{C R f:Addr}{fd:b5}(F:a_ K "__init__" "NoWay.__init__" QW f fd)(B:fo mg)(gX:lN K mg "RoadError" C R)(uy:mg "RoadError"=some (.ref R))(ai:bE K (.ref C) "reason"=some none)(aj:bE K (.ref C) "seen"=some none):aB P w K mg base aM 1 f fd ["self","reason","seen"] (Es C):=by
 refine F.ok aix (λvs H Q E h=>?_) (λcdv A outer s H vs Q E au h=>?_)
 .obtain⟨e,s,v,zs,rfl,_⟩:=h;rfl
 .obtain⟨e,s,v,zs,rfl,he,hs,q⟩:=h;refine⟨_,(a9 (gm (TS (by rfl) uy gX.rd gX.Fe gX.HC (av (ae 0) (av jG aJ))))
   (a9 (SY (y:="RoadError") (R:=R) (ae 0) (ae 1) rfl)
   (bu (SY (y:="RoadError") (R:=R) (ae 0) (ow sx (by rfl) B.list p1 (av (ae 2) aJ)) rfl)))),?_⟩
  refine⟨_,rfl,e,C,_,rfl,he,gX,(by show 1≤sizeLine;decide),?_⟩;refine⟨_,rfl,_,rfl,e,C,rfl,gX,ai,.inl ⟨he,λah aF mK=>?_⟩⟩;have anK:s≠e:=λz=>by rw[z,he]at hs;cases hs
  have anJ:s≠ah:=λz=>by rw[z,aF]at hs;cases hs
  refine⟨_,rfl,s,zs,rfl,.inl (aO.of (by rw[aD anK,aD anJ];exact hs)),λl nl=>?_⟩;have xI:l≠e:=λz=>by rw[z,aQ]at nl;cases nl
  rw[aD xI]at nl;have GX:l≠ah:=λz=>by rw[z,aQ]at nl;cases nl
  rw[aD GX]at nl;refine⟨_,rfl,e,C,rfl,gX,aj,.inr ⟨ah,[("reason",v)],?_,?_,(by show 1<100;decide),?_⟩⟩
  .rw[aD (b' xI)];exact aQ
  .rw[aD (b' GX),aD mK];exact aQ
  refine q ah l _ aF nl (b' GX) (λb o af kC=>?_) ?_ ?_ ?_
  .rw[aD (λz=>by rw[z,aF]at af;cases af),aD (λz=>by rw[z,nl]at af;cases af),aD kC,aD (λz=>by rw[z,aF]at af;cases af)];exact af
  .rw[aD (b' mK),aD (b' xI)];exact aQ
  .exact aQ
  .rw[aD GX];exact aQ
noncomputable abbrev CO:Stmt:=fz (top 53) 4
noncomputable abbrev aoy:List Str:=["self","house","goal","taken","seen","number","come_to"]
theorem zR:cT aoy ["self","house","goal"] (cy CO):=⟨rfl,rfl,rfl,by decide+kernel,rfl,by decide+kernel,by decide+kernel⟩
theorem ahG{C aC fu gi hh R f f1 f2 iQ:Addr}{fd cg c_ sF:b5}(F:a_ K "route" "Ways.route" CO f fd)(cm:tw K C)(fx:d_ K aC)(pw:cR K aC "need_house" "Net.need_house" yr ["self","house"] f1 cg)(ue:aB P w K mg base (eQ P w) 1 f1 cg ["self","house"] (It aC fu))(ks:cR K aC "road" "Net.road" rm ["self","number"] f2 c_)(uS:aB P w K mg base (eQ P w) 1 f2 c_ ["self","number"] (HY aC gi))(Cn:lN K mg "RoadError" hh R)(uX:mg "NoWay"=some (.ref hh))(Ud:i7 K (.ref hh)=true)(Ue:bE K (.ref hh) "__init__"=some (some (.ref iQ)))(Ug:ey K (.ref iQ)=true)(Gd:aB P w K mg base aM 1 iQ sF ["self","reason","seen"] (Es hh))(Uh:Binds K sF ["self","reason","seen"] []):
  aB P w K mg base (i1 P w) 3 f fd ["self","house","goal"] (Kt C aC fu hh):=by
 refine G5 F zR (λvs H Q E h=>?_) (λcdv A outer s H vs Q E au h=>?_)
 .obtain⟨x,n,t,aZ,a3,hs,rs,ds,kvs,h',g',rfl,_⟩:=h;rfl
 .obtain⟨x,n,t,aZ,a3,hs,rs,ds,kvs,h',g',rfl,W,G,cC,tab,q,gT⟩:=h;obtain⟨ah,ay⟩:=W.ins;obtain⟨gw,aw⟩:=W.gy.ins;refine⟨_,(a9 (gm (e3 (dT (ae 0) (by rfl)) fx pw.dQ ue (au.mono (by decide)) pw.bd .nil R7 (av (ae 1) aJ)))
   (a9 (gm (e3 (dT (ae 0) (by rfl)) fx pw.dQ ue (au.mono (by decide)) pw.bd .nil R7 (av (ae 2) aJ)))
   (a9 (c9 (i:=3) zR.aF rfl (cu rfl) (jI aJ))
   (a9 (c9 (i:=4) zR.aF rfl (cu rfl) (jI (av (ae 1) aJ)))
   (a9 (Hl acD (f3 DL (b_ h9 (ae 4) (vr vd ba) (λ_ _=>rfl)) (ae 2) (eh _))
    (a9 (c9 (i:=5) zR.aF rfl (cu rfl) (RT (jo au) (dT (ae 0) (by rfl)) (nE (av (b_ h9 (ae 4) (vr vd ba) (λ_ _=>rfl)) (av (ae 2) aJ))) ⟨rfl,rfl,rfl,rfl⟩))
   (a9 (eV (f3 C3 (ae 5) k9 (eh _)) (bu (B3 Cn uX Ud Ue Ug Gd (au.mono (by decide)) Uh rfl (av jG (av (ae 4) aJ)))) eT)
   (a9 (c9 (i:=6) zR.aF rfl (cu rfl) (b_ dE (e3 (dT (ae 0) (by rfl)) fx ks.dQ uS (au.mono (by decide)) ks.bd .nil R7 (av (ae 5) aJ)) ba (λ_ _=>rfl)))
   (a9 (eV (f3 QY (ae 6) (ae 4) (by rfl)) (bu (B3 Cn uX Ud Ue Ug Gd (au.mono (by decide)) Uh rfl (av jG (av (cS Vd (ae 4) (jI (av (ae 6) aJ))) aJ)))) eT)
   (a9 (gm (qc qK se sf pG (ae 3) (av (ae 5) aJ)))
   (bu (gm (qc qK se sf pG (ae 4) (av (ae 6) aJ))))))))))
   (bu (cO (ae 3)))))))),?_⟩
  refine⟨_,rfl,x,C,ah,_,_,rfl,ay,cm.cl,cm.nn,rfl,n,gw,_,rfl,aw,rfl,_,rfl,n,aZ,a3,hs,_,h',rfl,W.gy,λjr=>?_,λlg=>gT (.inl lg)⟩;refine⟨_,rfl,x,C,ah,_,_,rfl,ay,cm.cl,cm.nn,rfl,n,gw,_,rfl,aw,rfl,_,rfl,n,aZ,a3,hs,_,g',rfl,W.gy,λnJ=>?_,λlg=>gT (.inr lg)⟩;refine⟨eD _,λlr lq=>⟨_,rfl,(by show 1≤sizeLine;decide),λgS ri=>?_⟩⟩;have q:=q jr nJ;have s3:=cA (o:=.lst []) lq;have s4:=cA (o:=.lst [V.str h']) ri;have Pq:gS≠lr:=λz=>by rw[z,aQ]at ri;cases ri
  have aos:H gS=none:=by rw[aD Pq]at ri;exact ri
  refine⟨λm σ bU=>∃(c:Str)(sn:List Str)(aP:List Nat)(jP v6:Option ag.V),σ=[some (.ref x),some (.str h'),some (.str g'),some (.ref lr),some (.ref gS),jP,v6]∧aH H bU∧bU lr=some (.lst (nats aP))∧bU gS=some (.lst (nY sn))∧
   ag.gj (nY sn) (-1)=some (.str c)∧(∀y∈sn,y∈hs.map S)∧sn.Nodup∧Ks hh (oR kvs hs ds g' m c sn aP) H Q E∧m+sn.length=14∧aP.length+1=sn.length,⟨13,h',[h'],[],none,none,rfl,s3.trans s4,s4 _ _ aQ,aQ,rfl,?_,?_,q,rfl,rfl⟩,?_⟩
  .intro y cW;rw[gK.mp cW];exact jr
  .exact hL.mpr ⟨dN,n_⟩
  rintro m σ bU ⟨c,sn,aP,jP,v6,rfl,aA,bk,cv,last,sub,aF,q,hm,aq⟩;have oK:sn.length≤12:=by have:=ox aF sub;rw[a']at this;exact el this G.b9
  obtain⟨m,rfl⟩:∃cp,m=cp+1:=⟨m-1,by omega⟩
  have asN:(nY sn).length=sn.length:=a' _;refine⟨_,rfl,_,rfl,gS,_,_,_,rfl,rfl,aO.of cv,last,_,rfl,rfl,_,rfl,?_⟩;unfold oR at q;by_cases FQ:c=g'
  .rw[a8 FQ]at q;refine fO (by rw[FQ];simp) ⟨_,rfl,q lr bU lq aA bk⟩
  rw[aX FQ]at q;refine eE (by simp[FQ]) ⟨_,λaY U h=>⟨m,wG _,h⟩,?_⟩;have N0:=aA _ _ ay;refine⟨_,rfl,x,C,ah,_,_,rfl,N0,cm.cl,cm.ee,rfl,t,rfl,.inr ⟨kvs,.inl (aA _ _ W.told)⟩,_,rfl,_,rfl,gS,_,_,_,rfl,rfl,aO.of cv,last,_,rfl,(by show 2≤sizeLine;decide),λr il=>⟨_,ig.t (k:=gH c g') ((cA il) _ _ (aA _ _ W.told)) aQ,?_⟩⟩;have l':=cA (o:=.tup [V.str c,V.str g']) il;have tq:=aA.trans l';have MI:=l' _ _ bk;have Bb:=l' _ _ cv;generalize upd bU r (.tup [V.str c,V.str g'])=H1 at l' tq MI Bb⊢;rcases tab.get c g' with⟨az,aE⟩|⟨i,az,aE,ar⟩
  .rw[aE]at q;rw[az];exact⟨_,rfl,rfl,_,rfl,eE (by decide) ⟨_,rfl,(by show 2≤sizeLine;decide),λe ne=>WQ q tq Bb ne⟩⟩
  .rw[aE]at q;rw[az];refine⟨_,rfl,rfl,_,rfl,fO (by simp) ?_⟩;obtain⟨cE,d4⟩:∃cE,rs[i]?=some cE:=⟨_,ct (by rw[cC.len];exact ar)⟩
   obtain⟨d,de,alD,F0⟩:=cC.get d4;have ux:ih hs ds i=S (hs.getD d.b []):=by unfold ih;rw[sZ de]
   have Mq:ag.gj (aK rs) (i:Int)=some (.ref cE):=ja (by unfold aK;rw[cL,d4];rfl);refine⟨_,rfl,x,C,ah,_,_,rfl,tq _ _ ay,cm.cl,cm.nn,rfl,n,gw,_,rfl,tq _ _ aw,rfl,_,rfl,n,aZ,a3,_,_,(i:Int),rfl,W.gy.same tq,λ_=>⟨_,Mq,?_⟩,λlg=>bt ⟨by omega,by rw[eb,cC.len];omega⟩ lg⟩;refine⟨cE,_,_,_,rfl,rfl,b1.of (tq _ _ F0),rfl,?_⟩;simp only[ux]at q;have GC:S (hs.getD d.b [])∈hs.map S:=cw.mpr ⟨_,getD_mem' alD.b,rfl⟩;generalize S (hs.getD d.b [])=i_ at q GC⊢;refine⟨_,rfl,_,rfl,gS,_,rfl,.inl (aO.of Bb),rfl,G9 _,_,rfl,?_⟩;by_cases j7:i_∈sn
   .rw[a8 j7]at q;refine eE (HX j7) ⟨_,rfl,_,rfl,(by show 1≤sizeLine;decide),λapC xG=>⟨gS,apC,_,_,rfl,rfl,(cA xG) _ _ Bb,aQ,tX (eZ (by show(nY sn).length+1≤1000;omega)),λμ oN=>⟨(by show 2≤sizeLine;decide),λe ne=>WQ q (tq.trans ((cA xG).trans (cA oN))) (by rw[aQ];unfold nY;rw[eC];rfl) ne⟩⟩⟩
   .rw[aX j7]at q;refine fO (Ì j7) ?_;have asO:(nats aP).length=aP.length:=a' _;refine⟨_,rfl,.inl ⟨rfl,_,aO.of MI⟩,_,rfl,lr,_,_,rfl,rfl,MI,eZ (by omega),?_⟩;have Yg:upd H1 lr (.lst (nats aP++[V.int (i:Int)])) gS=some (.lst (nY sn)):=by rw[aD Pq];exact Bb
    refine⟨_,rfl,.inl ⟨rfl,_,aO.of Yg⟩,_,rfl,gS,_,_,rfl,rfl,Yg,eZ (by omega),?_⟩;refine⟨i_,sn++[i_],aP++[i],_,_,rfl,i8 aos (i8 lq tq),?_,?_,?_,?_,?_,q,?_,?_⟩
    .rw[aD (b' Pq),aQ];unfold nats;rw[eC];rfl
    .rw[aQ];unfold nY;rw[eC];rfl
    .exact Tw sn i_
    .intro y cW;rcases hv.mp cW with cW|cW
     .exact sub y cW
     .rw[gK.mp cW];exact GC
    .exact BA aF j7
    .rw[fT];show m+(sn.length+1)=14;omega
    .rw[fT,fT];show aP.length+1+1=sn.length+1;omega
end
end fq
namespace cq
open PySem PySem.Spec PyProof.Rows ag
noncomputable def ahH(K:aS)(c7:EA)(R:Addr)(ts:eY):eY:=λD σ H=>c7 D (λaY cls dR U=>∃C ah,cls=.ref C∧dR=some ah∧rg K C R=true∧∀bc,U bc=none→ts D aY (upd U bc (Ms bc C ah))) σ H
theorem aec{X:bh}{st pv:Stmt}{CZ:List Stmt}{x:Str}{np anE pos:Pos}{c7:EA}{ts:eY}{R:Addr}(F3:X.stack=X.env::X.outer)(amZ:X.env.frame=some X.env.locals)(af:V_ X st c7)(bz:iJ X x)(hm:X.mg x=some (.ref R))(cC:rg X.K R R=true)(anL:∀bc,iK (HT X bc) (pv::CZ) ts)(jh:(x==("__debug__":Str))=false:=by decide):h4 X (.Try [st] [.ExceptHandler (some (.Name x np)) none (pv::CZ) anE] [] [] pos) (ahH X.K c7 R ts):=by
 intro pins s σ H D I h;refine wpAny_Try_except (Ù (gf (af pins s σ H D _ I h) (λf s1 q=>?_) λe s1 q=>?_))
 .cases f with
  |next=>exact Dr (Dr q)
  |ret v=>exact q
  |brk=>exact q
  |cont=>exact q
 .obtain⟨rQ,bU,sc,bc,cls,a0,U,B,dR,rfl,U6,T,lk,C,ah,rfl,rfl,nz,k⟩:=q;obtain⟨o0,anq,amL⟩:=lk ah rfl;have Bn:X.A.frames=some (X.env::X.outer):=by rw[←F3];exact I.ok.frames
  have X0:=T.er;rw[F3]at X0;refine adz Bn amZ X0 λcv amV aqJ apU=>ac8 amV λdW My RQ apV=>?_;have X1:=My;rw[←F3]at X1;have z_:=T.move X1 (aqJ.trans RQ);have kN:Inv X pins rQ U {s1 with heap:=dW}:=U6.L7 (s':={s1 with heap:=dW}) (ch:=[]) z_.os z_.un z_.bj z_.bare (λb z=>bt z (by simp));obtain⟨ob,pU,ans⟩:=My.there;refine wpAny_handleBy_cons (codeAny_handlers_test (sV (X:=HT X bc) (cq.Inv.CZ kN bc) bz hm (adM kN.eB nz cC pU ans ?_) jh)) (by intro q;cases q);refine codeAny_handlers_suite (ac9 My λkB X2 aqK apW=>?_);have X3:=X2;rw[←F3]at X3;have pk:=z_.move X3 aqK;obtain⟨P4,v6,Y4,YA,YM,_⟩:=X2.first;have YF:P4.dict=some ah:=(((apU.trans apV).trans apW).dict anq Y4).trans amL;have Nx:kB.get? bc=some ⟨.ref C,some ah,.fields v6,P4.slots⟩:=by rw[Y4];obtain⟨c,d,kx,br⟩:=P4;dsimp only at YA YM YF;rw[YA,YM,YF]
  have old:∀b o,sc.heap.get? b=some o→b≠bc:=λb o e=>T.aoW e;have fA:=T.new;have tR:Inv X pins rQ (upd U bc (Ms bc C ah)) {s1 with heap:=kB}:=by
   refine U6.L7 (s':={s1 with heap:=kB}) (ch:=[]) pk.os ⟨pk.un.keep,pk.un.slot,λb o e kc ay=>by rw[aD (old b o e)];exact pk.un.free b o e kc ay,pk.un.there,λb xs e=>?_,λb o u e=>?_,λb ps e=>?_⟩ ?_ pk.bare (λb z=>bt z (by simp))
   .have:=pk.un.hE b xs e;rw[aD (b2 this fA)];exact this
   .have:=pk.un.iR b o u e;rw[aD (b2 this fA)];exact this
   .obtain⟨m,this⟩:=pk.un.jw b ps e;exact⟨m,by rw[aD (b2 this fA)];exact this⟩
   .intro b u e;by_cases dk:b=bc
    .subst dk;rw[aQ]at e;cases e;exact ae4 Nx
    .rw[aD dk]at e;exact(pk.bj b u e).jO (λc v _ q=>q) (λc q=>by rw[aD (b2 q fA)];exact q) λc xs q=>by rw[aD (b2 q fA)];exact q
  refine gf (anL bc pins _ _ _ _ (cq.Inv.CZ tR bc) (k bc fA)) (λal4 lA rr=>?_) λ_ _ z=>h3 z;cases al4 with
  |next=>obtain⟨n4,hJ,md,q⟩:=rr;exact⟨n4,hJ,Inv.H9 I.ok.hd md,q⟩
  |brk=>obtain⟨n4,hJ,md,q⟩:=rr;exact⟨n4,hJ,Inv.H9 I.ok.hd md,q⟩
  |cont=>obtain⟨n4,hJ,md,q⟩:=rr;exact⟨n4,hJ,Inv.H9 I.ok.hd md,q⟩
  |ret u=>obtain⟨rG,n4,hJ,md,QH,q⟩:=rr;exact⟨rG,n4,hJ,Inv.H9 I.ok.hd md,QH,q⟩
open PySem ag
section
variable{X:bh}{e o:Expr}{es:List Expr}{pos fg p:Pos}{k:Nat}{f C:Addr}{fd:b5}{ps:List Str}{sp:b8}{b3:TE}{t:fD}{m x:Str}
theorem aed{pl:Sem Bool}(he:bJ X.xK o b3)(c:d_ X.K C)(hm:Meth X.K C m f)(F:aB X.prog X.w X.K X.mg X.base (i1 X.prog X.w) k f fd ps sp)(au:fW k X.A)(af:Binds X.K fd ps [])(aI:hN X.xK (e::es) t)(iE:dM (e::es) X.env=(false,eval e X.env)::dM es X.env:=by rfl)(e6:(g0 pos (dM es X.env)).any (·.1)=false:=by rfl)(df:eval (.Call (.Attribute o m fg) (e::es) [] pos) X.env=(do
   let hr ←eval o X.env
   tr fg.atName
   let(f,first) ←pV [hr] (xe hr m pl)
   Ae pos f first (g0 pos (dM (e::es) X.env)) (ku pos (kE [] X.env))):=by rfl):
  V9 X (.Call (.Attribute o m fg) (e::es) [] pos) (afn C m sp b3 t):=by intro pins s σ H Q E I h;refine Eh (pl:=pl) (ZW (X:=X) (pins:=pins) (bM (he pins s σ H _ (I.l_ _) h) λu s1⟨x,H1,aU,bo,a,ah,fs,ex,bc,l,q⟩=>?_)) df;subst ex;obtain rfl:u=dO a:=bo;have aU:=aU.oX;refine GA aU bc c hm l ?_;refine Eg (first:=[.ref a]) (h₀:=X.base) I.ok.mod.sW hm.b0 (ZW (X:=X) (pins:=pins) (bM (aI pos pins s1 σ H1 _ (aU.l_ _) q) λus s2⟨vs,ak,bI,r,c6⟩=>⟨bI.oX.eB,?_⟩)) iE e6;refine ady (us:=.ref a::us) (vs:=.ref a::vs) F au af bI.oX (.cons rfl r) ?_;have η:sp (V.ref a::(vs++[])) ak Q E:=c6;rw[kn]at η;exact η
end
end cq
namespace fq
open PySem ag cq aN
noncomputable def aiy:Out→Bool
 |.ok _=>true
 |.no _ _=>false
noncomputable def rj(kvs:c2)(hs:List (List Nat))(ds:List aN.a5)(d:Str×Int×Str):Bool:=aiy (oR kvs hs ds d.2.2 13 d.1 [d.1] [])
inductive ahI(C aC:Addr)(vs:(List ag.V))(H:aa)(Q:a6)(bl:b6):Prop where
 |mk (lt x n t aZ a3:Addr) (hs:List (List Nat)) (rs:List Addr) (ds:List aN.a5) (kvs:c2) (d:Str×Int×Str) (bW:vs=[.ref lt,.ref x]) (bG:H lt=some (.tup (iU d))) (b4:l0 C aC H x n t aZ a3 (dn hs) (aK rs) kvs) (cM:Good hs) (d3:gL H hs rs ds) (fK:iN kvs ds.length) (iZ:d.1∈hs.map S) (m5:d.2.2∈hs.map S) (qy:∀U,aH H U→Q (.aV (rj kvs hs ds d)) U)
noncomputable def Km(C aC:Addr):b8:=λvs H Q bl=>ahI C aC vs H Q bl
section
variable{P:bL}{w:bC}{K:aS}{mg:Str→Option Value}{base:Heap}
noncomputable abbrev CH:Stmt:=top 35
theorem aiz:cT ["letter","ways"] ["letter","ways"] (cy CH):=⟨rfl,rfl,rfl,by decide+kernel,rfl,by decide+kernel,by decide+kernel⟩
theorem ahJ{C aC fu hh f f1:Addr}{fd cg:b5}(F:a_ K "has_route" "has_route" CH f fd)(nk:d_ K C)(Yq:rg K hh hh=true)(uX:mg "NoWay"=some (.ref hh))(Ge:cR K C "route" "Ways.route" CO ["self","house","goal"] f1 cg)(PF:aB P w K mg base (i1 P w) 3 f1 cg ["self","house","goal"] (Kt C aC fu hh)):
  aB P w K mg base aM 4 f fd ["letter","ways"] (Km C aC):=by
 refine F.ok aiz (λvs H Q E h=>?_) (λcdv A outer s H vs Q E au h=>?_)
 .obtain⟨lt,x,n,t,aZ,a3,hs,rs,ds,kvs,d,rfl,_⟩:=h;rfl
 .obtain⟨lt,x,n,t,aZ,a3,hs,rs,ds,kvs,d,rfl,bP,W,G,cC,tab,jr,nJ,q⟩:=h;obtain⟨ah,ay⟩:=W.ins;refine⟨_,(a9 (aec rfl rfl (abJ (aed (ae 1) nk Ge.dQ PF (au.mono (by decide)) Ge.bd (av (b_ dE (ae 0) ba (λ_ _=>rfl)) (av (b_ dE (ae 0) ba (λ_ _=>rfl)) aJ)))) rfl uX Yq (λbc=>(bu (cO l1))))
   (bu (cO l1))),?_⟩
  refine⟨_,rfl,x,ah,_,rfl,ay,rfl,_,rfl,lt,_,_,_,rfl,rfl,b1.of bP,rfl,_,rfl,lt,_,_,_,rfl,rfl,b1.of bP,rfl,x,n,t,aZ,a3,hs,rs,ds,kvs,d.1,d.2.2,rfl,W,G,cC,tab,λ_ _=>?_,λlg=>lg.elim (λz=>bt jr z) λz=>bt nJ z⟩;unfold rj at q;cases Z7:oR kvs hs ds d.2.2 13 d.1 [d.1] []with
  |ok aP=>
   rw[Z7]at q;intro l U nl br aq;exact q U br
  |no why sn=>
   rw[Z7]at q;intro ah l U aF nl p9 aA Bm aq;refine⟨hh,ah,rfl,rfl,Yq,λbc amT=>?_⟩;exact q _ (aA.trans (cA amT))
end
open PySem ag cq aN
inductive ll(kvs:c2)(hs:List (List Nat))(ds:List aN.a5)(g:Str):Str→List Nat→Prop
 |hB:ll kvs hs ds g g []
 |on {h:Str} {k:Nat} {aP:List Nat}:h≠g→hp kvs h g=some k→k<ds.length→ll kvs hs ds g (ih hs ds k) aP→ll kvs hs ds g h (k::aP)
theorem Î{kvs:c2}{hs:List (List Nat)}{ds:List aN.a5}(R:∀d∈ds,d.Ok hs.length)(T:iN kvs ds.length)(b9:hs.length≤12){g:Str}:∀(n:Nat)(c:Str)(sn:List Str)(aP out:List Nat),n+sn.length=14→sn.Nodup→(∀y∈sn,y∈hs.map S)→
  oR kvs hs ds g n c sn aP=.ok out→∃fJ,out=aP++fJ∧ll kvs hs ds g c fJ∧fJ.length+sn.length≤12
 |0,c,sn,aP,out,aw,aF,sub,e=>by have:=ox aF sub;rw[a']at this;omega
 |n+1,c,sn,aP,out,aw,aF,sub,e=>by
  have oK:=ox aF sub;rw[a']at oK;unfold oR at e;by_cases z:c=g
  .rw[a8 z]at e;cases e;subst z;exact⟨[],by rw[kn],.hB,by show 0+sn.length≤12;omega⟩
  .rw[aX z]at e;rcases T.get c g with⟨_,w⟩|⟨k,_,w,Gj⟩
   .rw[w]at e;cases e
   .rw[w]at e;by_cases m:ih hs ds k∈sn
    .simp only[a8 m]at e;cases e
    .simp only[aX m]at e;have GH:ih hs ds k∈hs.map S:=by unfold ih;exact oI (R _ (getD_mem' Gj)).b
     obtain⟨fJ,ai,aj,bk⟩:=Î R T b9 n (ih hs ds k) (sn++[ih hs ds k]) (aP++[k]) out (by rw[fT];show n+(sn.length+1)=14;omega) (BA aF m) (λy cW=>by
      rcases hv.mp cW with Sx|Sx
      .exact sub y Sx
      .rw[gK.mp Sx];exact GH) e
     rw[fT]at bk;simp only[i5,qG]at bk;exact⟨k::fJ,by rw[ai,r8];rfl,.on z w Gj aj,by rw[i5];omega⟩
theorem ς{kvs:c2}{hs:List (List Nat)}{ds:List aN.a5}(R:∀d∈ds,d.Ok hs.length)(T:iN kvs ds.length)(b9:hs.length≤12){d:Str×Int×Str}(m:d.1∈hs.map S)(h:rj kvs hs ds d=true):∃aP,ll kvs hs ds d.2.2 d.1 aP∧aP.length≤12:=by
 unfold rj at h;cases e:oR kvs hs ds d.2.2 13 d.1 [d.1] []with
 |ok out=>
  obtain⟨aP,_,aj,bk⟩:=Î R T b9 13 d.1 [d.1] [] out rfl (hL.mpr ⟨dN,n_⟩) (λy cW=>by rw[gK.mp cW];exact m) e;exact⟨aP,aj,by omega⟩
 |no why sn=>rw[e]at h;cases h
structure jm(hs:List (List Nat))(ds:List aN.a5)(kvs:c2)(gs:List Str)(sss:List (List Step))(go:List Nat)(rt:Nat→List Nat):Prop where
 len:sss.length=gs.length
 lt:∀n∈go,n<gs.length
 aF:go.Nodup
 ne:∀ss∈sss,ss≠[]
 b9:∀n,(sss.getD n []).length+(rt n).length≤20
 dm:∀n∈go,(cP sss n).dm∈hs.map S
 goal:∀n∈go,dh gs n∈hs.map S
 way:∀n∈go,ll kvs hs ds (dh gs n) (cP sss n).dm (rt n)
 on:∀n∈go,rt n≠[]
theorem ll.way{kvs:c2}{hs:List (List Nat)}{ds:List aN.a5}{g h:Str}{aP:List Nat}(r:ll kvs hs ds g h aP)(ne:aP≠[]):∃k fJ,aP=k::fJ∧h≠g∧hp kvs h g=some k∧k<ds.length∧ll kvs hs ds g (ih hs ds k) fJ:=by
 cases r with
 |hB=>exact bt rfl ne
 |on a b c d=>exact⟨_,_,rfl,a,b,c,d⟩
theorem jm.uE{hs:List (List Nat)}{ds:List aN.a5}{kvs:c2}{gs:List Str}{sss:List (List Step)}{go:List Nat}{rt:Nat→List Nat}(T:iN kvs ds.length)(O:jm hs ds kvs gs sss go rt):(∀n∈go,I7 hs kvs gs sss (cV sss) (du kvs gs sss) n)∧∀n∈go,du kvs gs sss n<ds.length:=by
 have key:∀n∈go,∃k,hp kvs (cP sss n).dm (dh gs n)=some k∧du kvs gs sss n=k∧k<ds.length∧(cP sss n).dm≠dh gs n∧cU kvs (gH (cP sss n).dm (dh gs n))=some (.int (k:Int)):=λn aw=>by
  obtain⟨k,fJ,_,aj,bk,cv,_⟩:=(O.way n aw).way (O.on n aw);refine⟨k,bk,by unfold du;rw[bk];rfl,cv,aj,?_⟩;rcases T.get (cP sss n).dm (dh gs n)with⟨_,w⟩|⟨i,v,w,_⟩
  .rw[w]at bk;cases bk
  .rw[w]at bk;cases bk;exact v
 refine⟨λn aw=>?_,λn aw=>?_⟩
 .obtain⟨k,ai,aj,bk,cv,dW⟩:=key n aw;have ln:=O.lt n aw;have az:sss[n]?=some (sss.getD n []):=jF (by rw[O.len];exact ln);obtain⟨i,eF⟩:=xv (O.ne _ (dY az));refine⟨i,cP sss n,dh gs n,?_,rfl,jF ln,O.dm n aw,O.goal n aw,cv,by rw[aj];exact dW⟩;rw[az];congr 1
 .obtain⟨k,_,aj,bk,_⟩:=key n aw;rw[aj];exact bk
section
variable(hs:List (List Nat))(ds:List aN.a5)(kvs:c2)(gs:List Str)
noncomputable def nextT(T:Int)(go:List Nat)(sss:List (List Step)):Int:=max (T+1) (lh (go.map (cV sss)))
noncomputable def f5(T:Int)(go:List Nat)(sss:List (List Step)):List (dq×List Nat):=jl ds (cV sss) (du kvs gs sss) T go
noncomputable def dy(T:Int)(go:List Nat)(sss:List (List Step)):List (List Step):=eU hs ds (f5 ds kvs gs T go sss) sss
noncomputable def j_(T:Int)(go:List Nat)(sss:List (List Step))(i:Nat):Bool:=yT ds (cV sss) (du kvs gs sss) T go i
noncomputable def jg(go:List Nat)(sss:List (List Step)):List Nat:=go.filter λn=>decide ((cP sss n).dm≠dh gs n)
noncomputable def l8:Nat→Int→List Nat→List (List Step)→List (dq×List Nat)
 |0,_,_,_=>[]
 |m+1,T,go,sss=>if go=[]then[]else f5 ds kvs gs (nextT T go sss) go sss++l8 m (nextT T go sss) (jg gs go (dy hs ds kvs gs (nextT T go sss) go sss)) (dy hs ds kvs gs (nextT T go sss) go sss)
end
section
variable{hs:List (List Nat)}{ds:List aN.a5}{kvs:c2}{gs:List Str}{sss:List (List Step)}{go:List Nat}{rt:Nat→List Nat}{T:Int}
theorem step_get(bP:∀k∈go,du kvs gs sss k<ds.length)(i:Nat):(dy hs ds kvs gs T go sss)[i]?=(sss[i]?).map λss=>ss++(if j_ ds kvs gs T go sss i=true then[stepK hs ds (T,du kvs gs sss i)]else[]):=by unfold dy;rw[uW];congr 1;funext ss;congr 1;unfold f5;rw[SP bP i];show Vx _ (if j_ ds kvs gs T go sss i=true then _ else _)=_;cases j_ ds kvs gs T go sss i<;>rfl
theorem Hd(bP:∀k∈go,du kvs gs sss k<ds.length){i:Nat}(ar:i<sss.length):(dy hs ds kvs gs T go sss).getD i []=sss.getD i []++(if j_ ds kvs gs T go sss i=true then[stepK hs ds (T,du kvs gs sss i)]else[]):=by rw[cH,step_get bP,jF (d:=[]) ar];rfl
theorem xW{i:Nat}(h:j_ ds kvs gs T go sss i=true):i∈go∧cV sss i≤T:=by have:=oF (ju h);exact⟨this.1,this.2.1⟩
theorem BY(bP:∀k∈go,du kvs gs sss k<ds.length){i:Nat}(ar:i<sss.length):cP (dy hs ds kvs gs T go sss) i=if j_ ds kvs gs T go sss i=true then stepK hs ds (T,du kvs gs sss i)else cP sss i:=by
 unfold cP;rw[Hd bP ar];by_cases z:j_ ds kvs gs T go sss i=true
 .rw[a8 z,a8 z];exact Í _ _
 .rw[aX z,aX z,kn]
theorem adS{r:Nat}(h:r<ds.length):mW hs ds r=ih hs ds r:=by unfold mW ih;rw[show ds.getD r lx=ds[r] by rw[cH,ct h];rfl,show ds.getD r eN=ds[r] by rw[cH,ct h];rfl]
noncomputable def ly(ds:List aN.a5)(kvs:c2)(gs:List Str)(T:Int)(go:List Nat)(sss:List (List Step))(rt:Nat→List Nat)(i:Nat):List Nat:=if j_ ds kvs gs T go sss i=true then(rt i).tail else rt i
theorem ll.nil_eq{kvs:c2}{hs:List (List Nat)}{ds:List aN.a5}{g h:Str}{aP:List Nat}(r:ll kvs hs ds g h aP)(e:aP=[]:=by rfl):h=g:=by
 cases r with
 |hB=>rfl
 |on=>cases e
theorem jm.step(R:∀d∈ds,d.Ok hs.length)(ez:iN kvs ds.length)(O:jm hs ds kvs gs sss go rt):jm hs ds kvs gs (dy hs ds kvs gs T go sss) (jg gs go (dy hs ds kvs gs T go sss)) (ly ds kvs gs T go sss rt):=by
 have bP:=(O.uE ez).2;have sub:∀n∈jg gs go (dy hs ds kvs gs T go sss),n∈go:=λn aw=>(ea.mp aw).1;have Ð:∀n∈go,ll kvs hs ds (dh gs n) (cP (dy hs ds kvs gs T go sss) n).dm (ly ds kvs gs T go sss rt n):=λn aw=>by
  have ln:n<sss.length:=by rw[O.len];exact O.lt n aw
  rw[BY bP ln];unfold ly;by_cases z:j_ ds kvs gs T go sss n=true
  .rw[a8 z,a8 z];obtain⟨k,fJ,az,_,aE,dj,fV⟩:=(O.way n aw).way (O.on n aw);have d4:du kvs gs sss n=k:=by unfold du;rw[aE];rfl
   rw[az];show ll kvs hs ds (dh gs n) (mW hs ds (du kvs gs sss n)) fJ;rw[d4,adS dj];exact fV
  .rw[aX z,aX z];exact O.way n aw
 refine⟨?_,λn aw=>O.lt n (sub n aw),O.aF.filter _,λss fa=>?_,λn=>?_,λn aw=>?_,λn aw=>O.goal n (sub n aw),λn aw=>Ð n (sub n aw),λn aw e=>?_⟩
 .unfold dy;rw[uV];exact O.len
 .obtain⟨i,ar⟩:=me fa;rw[step_get bP]at ar;obtain⟨Ri,e0,rfl⟩:=ew.mp ar;have:=O.ne Ri (dY e0);intro e;exact this (aa3.mp e).1
 .have f:=O.b9 n;by_cases ln:n<sss.length
  .rw[Hd bP ln];unfold ly;by_cases z:j_ ds kvs gs T go sss n=true
   .rw[a8 z,a8 z,fT,Jw];have:=tU.mpr (O.on n (xW z).1);simp only[i5,qG];omega
   .rw[aX z,aX z,kn];exact f
  .have e0:(dy hs ds kvs gs T go sss).getD n []=[]:=by rw[cH,Ju (by unfold dy;rw[uV];omega)];rfl
   have z:¬j_ ds kvs gs T go sss n=true:=λz=>ln (by rw[O.len];exact O.lt n (xW z).1);rw[e0];unfold ly;rw[aX z];simp only[qG];omega
 .have lb:=sub n aw;have ln:n<sss.length:=by rw[O.len];exact O.lt n lb
  rw[BY bP ln];by_cases z:j_ ds kvs gs T go sss n=true
  .rw[a8 z];have aq:=bP n lb;show mW hs ds (du kvs gs sss n)∈_;unfold mW;rw[show ds.getD (du kvs gs sss n) lx=ds[du kvs gs sss n] by rw[cH,ct aq];rfl];exact oI (R _ (jA aq)).b
  .rw[aX z];exact O.dm n lb
 .have jL:=ju (ea.mp aw).2;have w:=Ð n (sub n aw);rw[e]at w;exact jL w.nil_eq
noncomputable def e9(rt:Nat→List Nat)(go:List Nat):Nat:=(go.map λn=>(rt n).length).sum
theorem I9{f g:Nat→List Nat}:∀{go:List Nat},(∀n∈go,(f n).length≤(g n).length)→e9 f go≤e9 g go
 |[],_=>bY _
 |n::go,h=>by unfold e9;rw[gv,oa,gv,oa];have ai:=h n (.head _);have aj:e9 f go≤e9 g go:=I9 λn aw=>h n (.tail _ aw);unfold e9 at aj;omega
theorem V6{f g:Nat→List Nat}:∀{go:List Nat},(∀n∈go,(f n).length≤(g n).length)→(∃n∈go,(f n).length<(g n).length)→e9 f go<e9 g go
 |[],_,⟨n,aw,_⟩=>nomatch aw
 |n::go,h,⟨m,hm,lt⟩=>by
  have ai:=h n (.head _);have le:e9 f go≤e9 g go:=I9 λn aw=>h n (.tail _ aw);unfold e9 at le⊢;rw[gv,oa,gv,oa];rcases dx.mp hm with rfl|hm
  .omega
  .have aj:e9 f go<e9 g go:=V6 (λn aw=>h n (.tail _ aw)) ⟨m,hm,lt⟩;unfold e9 at aj;omega
theorem Qy{f:Nat→List Nat}{p:Nat→Bool}:∀go:List Nat,e9 f (go.filter p)≤e9 f go
 |[]=>bY _
 |n::go=>by
  have h:=Qy (f:=f) (p:=p) go;rw[pd];unfold e9 at h⊢;split
  .rw[gv,oa,gv,oa];omega
  .rw[gv,oa];omega
theorem jm.less(R:∀d∈ds,d.Ok hs.length)(ez:iN kvs ds.length)(O:jm hs ds kvs gs sss go rt)(h:∃n∈go,cV sss n≤T):e9 (ly ds kvs gs T go sss rt) (jg gs go (dy hs ds kvs gs T go sss))<e9 rt go:=by
 have bP:=(O.uE ez).2;refine od (Qy go) (V6 (λn aw=>?_) ?_)
 .unfold ly;split
  .rw[Jw];omega
  .exact bY _
 .obtain⟨n,aw,hd⟩:=h;have aq:=bP n aw;have q:dS (cV sss) (du kvs gs sss) T go (du kvs gs sss n)≠[]:=abi (a:=(cV sss n,n)) (by
   unfold dS;refine cw.mpr ⟨n,ea.mpr ⟨aw,?_⟩,rfl⟩;rw[cB hd,cB rfl];rfl)
  have jr:1≤kH ds (du kvs gs sss n):=by unfold kH;rw[show ds.getD (du kvs gs sss n) lx=ds[du kvs gs sss n] by rw[cH,ct aq];rfl];have:=(R _ (jA aq)).m.1;omega
  obtain⟨i,ar⟩:=D1 _ (V5 jr q);have bm:=oF ar;have z:j_ ds kvs gs T go sss i=true:=by unfold j_ yT;rw[bm.2.2];exact cB ar
  refine⟨i,bm.1,?_⟩;unfold ly;rw[a8 z,Jw];have:=tU.mpr (O.on i bm.1);omega
theorem T4(h:go≠[]):∃n∈go,cV sss n≤nextT T go sss:=by have ai:=(Iv (ns:=go.map (cV sss)) (by simpa using h)).1;obtain⟨n,aw,e⟩:=cw.mp ai;refine⟨n,aw,?_⟩;unfold nextT;rw[e];exact Int.le_max_right _ _
end
open PySem ag cq aN
noncomputable def dV:Str×Int×Str:=(iM,0,iM)
noncomputable def lp(hs:List (List Nat))(ds:List aN.a5)(kvs:c2)(ao:List (Str×Int×Str)):List Nat:=(dt ao.length).filter λi=>rj kvs hs ds (ao.getD i dV)
noncomputable def rN(hs:List (List Nat))(ds:List aN.a5)(kvs:c2)(ao:List (Str×Int×Str)):List (dq×List Nat):=l8 hs ds kvs (ao.map λd=>d.2.2) 1300 (-1) (lp hs ds kvs ao) (ao.map e1)
theorem afy{K:aS}{wi:TI}{a:Addr}{xs:List ag.V}{cs:List (Option Nat)}{σ rest:ag.St}{tt:TT}{b7:TE}{Q:a6}{H H1:aa}(hw:∀R:ff→aa→Prop,R (o_ K a) H1→wi σ H R)(fl:gQ cs σ=none::none::rest)(aI:aO K H1 a xs)(aq:xs.length<sizeLine)(p:Nat→Bool)(f:Nat→ag.V)(test:∀(i:Nat)(x:ag.V)(ak:aa)(R:Bool→aa→Prop),xs[i]?=some x→aH H1 ak→(∀bK,aH ak bK→R (p i) bK)→tt (some (.int i)::some x::rest) ak R)(elt:∀(i:Nat)(x:ag.V)(ak:aa)(R:a6),xs[i]?=some x→p i=true→aH H1 ak→(∀bK,aH ak bK→R (f i) bK)→b7 (some (.int i)::some x::rest) ak R)(fin:∀(D:Addr)(U:aa),H1 D=none→U D=some (.lst (((dt xs.length).filter p).map f))→aH H1 U→Q (.ref D) U):
  lC wi cs (tL K 2 (oO (g4 0) (oO (g4 1) wj))) tt b7 σ H Q:=hw _ (Uz fl aI aq (λi _=>p i) (λi _=>f i) test elt λD U nM bO aA=>fin D U nM (by
   have e:((xs.zipIdx.filter λz=>p z.2).map λz=>f z.2)=((dt xs.length).filter p).map f:=by rw[abl,←abo,wB,gJ];rfl
   rw[←e];exact bO) aA)
theorem va{H:aa}{ls:List Addr}{sss:List (List Step)}(h:bH (fE H) ls sss):∀l∈ls,∃ts,H l=some (.lst (aK ts)):=λl aq=>by obtain⟨i,ar⟩:=me aq;obtain⟨ss,_,ts,ai,_⟩:=bH.get h ar;exact⟨ts,ai⟩
theorem afz{C:Addr}{H:aa}{x n g st:Addr}{gs:List Str}{ls:List Addr}{sss:List (List Step)}(W:mE C H x n g st gs ls)(e:bH (fE H) ls sss)(fr:∀l∈ls,l≠st∧l≠g):mE C (mask H ls) x n g st gs ls:=by obtain⟨ah,ay⟩:=W.ins;refine⟨⟨ah,gD ay λz=>?_⟩,gD W.goals λz=>(fr g z).2 rfl,gD W.steps λz=>(fr st z).1 rfl⟩;obtain⟨ts,h⟩:=va e x z;rw[ay]at h;cases h
theorem Hr{H:aa}{ls:List Addr}{sss:List (List Step)}{a:Addr}{b:dq×List Nat}(h:gO H a b)(e:bH (fE H) ls sss):gO (mask H ls) a b:=by
 obtain⟨c,ai,aj⟩:=h;refine⟨c,gD ai λz=>?_,gD aj λz=>?_⟩
 .obtain⟨ts,h⟩:=va e a z;rw[ai]at h;cases h
 .obtain⟨ts,h⟩:=va e c z;rw[aj]at h;cases h
theorem ź{H U:aa}{ls:List Addr}(aA:aH H U)(fr:∀l∈ls,H l=none):aH H (mask U ls):=λb o e=>gD (aA _ _ e) λz=>by rw[fr b z]at e;cases e
theorem acu{H:aa}{ls:List Addr}{sss:List (List Step)}{p:Addr}{xs ys:List ag.V}(h:bH (fE H) ls sss)(aW:H p=some (.lst xs))(np:p∉ls):bH (fE (upd H p (.lst ys))) ls sss:=by
 have all:∀{ls:List Addr}{sss:List (List Step)},bH (fE H) ls sss→p∉ls→bH (fE (upd H p (.lst ys))) ls sss:=λ{ls sss}q=>by
  induction q with
  |nil=>exactλ_=>.nil
  |cons r t a7=>
   intro nn;obtain⟨ts,ai,aj⟩:=r;exact .cons ⟨ts,by rw[aD λz=>nn (by rw[z];exact .head _)];exact ai,aj.upd aW (by intro d z;cases z)⟩ (a7 λz=>nn (.tail _ z))
 exact all h np
theorem mE.upd{C:Addr}{H:aa}{x n g st:Addr}{gs:List Str}{ls:List Addr}{p:Addr}{xs ys:List ag.V}(W:mE C H x n g st gs ls)(aW:H p=some (.lst xs))(ai:p≠g)(aj:p≠st):mE C (ag.upd H p (.lst ys)) x n g st gs ls:=by obtain⟨ah,ay⟩:=W.ins;exact⟨⟨ah,by rw[aD λz=>by rw[z,aW]at ay;cases ay];exact ay⟩,by rw[aD (b' ai)];exact W.goals,by rw[aD (b' aj)];exact W.steps⟩
structure vx(C:Addr)(H bU:aa)(x n g st gl pl:Addr)(gs:List Str)(ls as:List Addr)(sss:List (List Step))(go:List Nat)(bs:List (dq×List Nat)):Prop where
 aA:aH H bU
 tD:mE C bU x n g st gs ls
 each:bH (fE bU) ls sss
 sJ:bU gl=some (.lst (e4 go))
 hD:gl∉ls
 PT:gl≠pl
 xX:bU pl=some (.lst (aK as))
 Ac:bH (gO bU) as bs
theorem vx.same{C:Addr}{H bU fB:aa}{x n g st gl pl:Addr}{gs:List Str}{ls as:List Addr}{sss:List (List Step)}{go:List Nat}{bs:List (dq×List Nat)}(h:vx C H bU x n g st gl pl gs ls as sss go bs)(s:aH bU fB):vx C H fB x n g st gl pl gs ls as sss go bs:=
 ⟨h.aA.trans s,h.tD.same s,BX h.each s,s _ _ h.sJ,h.hD,h.PT,s _ _ h.xX,bH.f_ h.Ac λ_ _ b=>b.same s⟩
theorem RC{α β:Type}{f:α→β}{l:List α}{i:Nat}{d:α}{e:β}(h:i<l.length):(l.map f).getD i e=f (l.getD i d):=by rw[cH,cL,jF (d:=d) h];rfl
theorem V7{rt:Nat→List Nat}:∀go:List Nat,(∀n∈go,(rt n).length≤12)→e9 rt go≤12*go.length
 |[],_=>bY _
 |n::go,h=>by have ai:=V7 (rt:=rt) go λn aw=>h n (.tail _ aw);have aj:=h n (.head _);unfold e9 at ai⊢;rw[gv,oa,i5];omega
theorem RD{hs:List (List Nat)}{ds:List aN.a5}{kvs:c2}(R:∀d∈ds,d.Ok hs.length)(ez:iN kvs ds.length)(b9:hs.length≤12){ao:List (Str×Int×Str)}(BP:ao.length≤100)(jj:∀d∈ao,d.1∈hs.map S∧d.2.2∈hs.map S∧d.1≠d.2.2):
  ∃rt,jm hs ds kvs (ao.map λd=>d.2.2) (ao.map e1) (lp hs ds kvs ao) rt∧e9 rt (lp hs ds kvs ao)≤1300:=by
 have mem:∀n∈lp hs ds kvs ao,n<ao.length∧rj kvs hs ds (ao.getD n dV)=true:=λn aw=>by obtain⟨ai,aj⟩:=ea.mp aw;exact⟨gZ.mp ai,aj⟩
 have all:∀n,∃aP:List Nat,aP.length≤12∧(n∈lp hs ds kvs ao→ll kvs hs ds (ao.getD n dV).2.2 (ao.getD n dV).1 aP):=λn=>by
  by_cases z:n∈lp hs ds kvs ao
  .obtain⟨ai,aj⟩:=mem n z;obtain⟨aP,bk,cv⟩:=ς R ez b9 (jj _ (getD_mem' ai)).1 aj;exact⟨aP,cv,λ_=>bk⟩
  .exact⟨[],eD _,λy=>bt y z⟩
 obtain⟨rt,sR⟩:∃rt:Nat→List Nat,∀n,(rt n).length≤12∧(n∈lp hs ds kvs ao→ll kvs hs ds (ao.getD n dV).2.2 (ao.getD n dV).1 (rt n)):=⟨λn=>T_ (all n),λn=>DF (all n)⟩
 have p6:∀n,n<ao.length→cP (ao.map e1) n=⟨(ao.getD n dV).2.1,none,(ao.getD n dV).1,(ao.getD n dV).2.1⟩:=λn aw=>by unfold cP;rw[RC (d:=dV) aw];rfl
 have ga:∀n,n<ao.length→dh (ao.map λd=>d.2.2) n=(ao.getD n dV).2.2:=λn aw=>by unfold dh;rw[RC (d:=dV) aw]
 refine⟨rt,⟨by rw[a',a'],λn aw=>by rw[a'];exact(mem n aw).1,(D_).filter _,λss fa=>?_,λn=>?_,λn aw=>?_,λn aw=>?_,λn aw=>?_,λn aw e=>?_⟩,?_⟩
 .obtain⟨d,_,rfl⟩:=cw.mp fa;unfold e1;simp
 .have h:=(sR n).1;have:((ao.map e1).getD n []).length≤1:=by
   by_cases z:n<ao.length
   .rw[RC (d:=dV) z];exact bY _
   .rw[cH,Ju (by rw[a'];omega)];exact eD _
  omega
 .rw[p6 n (mem n aw).1];exact(jj _ (getD_mem' (mem n aw).1)).1
 .rw[ga n (mem n aw).1];exact(jj _ (getD_mem' (mem n aw).1)).2.1
 .rw[p6 n (mem n aw).1,ga n (mem n aw).1];exact(sR n).2 aw
 .have r:=(sR n).2 aw;exact(jj _ (getD_mem' (mem n aw).1)).2.2 (r.nil_eq e)
 .have ai:=V7 (rt:=rt) (lp hs ds kvs ao) λn _=>(sR n).1;have aj:(lp hs ds kvs ao).length≤ao.length:=by unfold lp;exact el (lK _ _) (by rw[hK];exact bY _)
  omega
inductive afA(C bf aC:Addr)(vs:(List ag.V))(H:aa)(Q:a6)(bl:b6):Prop where
 |mk (n cQ y t aZ a3:Addr) (hs:List (List Nat)) (rs hC:List Addr) (ds:List aN.a5) (kvs:c2) (ao:List (Str×Int×Str)) (bW:vs=[.ref n,.ref cQ,.ref y]) (bG:H cQ=some (.lst (aK hC))) (b4:dU H hC (ao.map iU)) (cM:hC.length≤60) (d3:l0 bf aC H y n t aZ a3 (dn hs) (aK rs) kvs) (fK:Good hs) (iZ:gL H hs rs ds) (m5:iN kvs ds.length) (qy:(∀d∈ao,d.1∈hs.map S∧d.2.2∈hs.map S∧d.1≠d.2.2)) (yt:∀(l:Addr)(U:aa)(as:List Addr),H l=none→aH H U→U l=some (.lst (aK as))→bH (gO U) as (rN hs ds kvs ao)→Q (.ref l) U)
noncomputable def JS(C bf aC:Addr):b8:=λvs H Q bl=>afA C bf aC vs H Q bl
section
variable{P:bL}{w:bC}{K:aS}{mg:Str→Option Value}{base:Heap}
noncomputable abbrev zS:Stmt:=top 38
noncomputable abbrev aiA:List Str:=["net","letters","ways","walk","going","plan","turn","bag"]
theorem ut:cT aiA ["net","letters","ways"] (cy zS):=⟨rfl,rfl,rfl,by decide+kernel,rfl,by decide+kernel,by decide+kernel⟩
theorem afB{C bf aC f k7 f1 f2 cc f4 eG:Addr}{fd oz cg c_ e5 j2 oy:b5}(F:a_ K "run" "run" zS f fd)(B:fo mg)(cm:mC K C)(rb:mg "Walk"=some (.ref C))(p2:i6 K C k7)(qR:kl K C "Walk.__init__" tO ["self","net","letters"] k7 oz)(BD:aB P w K mg base aM 2 k7 oz ["self","net","letters"] (yK C))(BE:c1 K mg "has_route" CH ["letter","ways"] f1 cg)(Đ:aB P w K mg base aM 4 f1 cg ["letter","ways"] (Km bf aC))(kq:cR K C "last_turn" "Walk.last_turn" tf ["self","number"] f2 c_)(ud:aB P w K mg base aM 1 f2 c_ ["self","number"] (xS C))(pJ:c1 K mg "bags_at" x1 ["net","walk","going","ways","turn"] cc e5)(RE:aB P w K mg base aM 5 cc e5 ["net","walk","going","ways","turn"] (Kl K C bf aC))(nh:cR K C "send" "Walk.send" ww ["self","bag"] f4 j2)(BF:aB P w K mg base aM 2 f4 j2 ["self","bag"] (Du C aC))(kr:cR K C "home_turn" "Walk.home_turn" tg ["self","number"] eG oy)(uf:aB P w K mg base aM 2 eG oy ["self","number"] (xT C)):
  aB P w K mg base aM 6 f fd ["net","letters","ways"] (JS C bf aC):=by
 have fh:=cm.cl;refine F.ok ut (λvs H Q E h=>?_) (λcdv A outer s H vs Q E au h=>?_)
 .obtain⟨n,cQ,y,t,aZ,a3,hs,rs,hC,ds,kvs,ao,rfl,_⟩:=h;rfl
 .obtain⟨n,cQ,y,t,aZ,a3,hs,rs,hC,ds,kvs,ao,rfl,hW,lE,b9,mn,G,R,ez,jj,q⟩:=h;refine⟨_,(a9 (c9 (i:=3) ut.aF rfl (m_ rfl) (q' p2 BD (au.mono (by decide)) (by rfl) rb qR.bd .nil cn (av (ae 0) (av (ae 1) aJ))))
   (a9 (oB (i:=4) ut.aF rfl rfl rfl (N':=["number","letter","ways"]) (cs:=[none,none,some 2]) rfl (xP rfl B.enumerate (av (ae 1) aJ)) rfl (by decide+kernel) rfl (by decide+kernel) (iz (i4.mpr ⟨rfl,(λp aW=>bt aW (dN))⟩)) rfl
    (.own (.own (.h_ rfl (.inl rfl) (.inl rfl) rfl .nil)))
    (λC s3 bp bZ ef=>⟨(CC (K:=K) (n:=2) rfl rfl (jb (d2 (i:=0) (by show(["number","letter","ways"]:List Str).Nodup;decide+kernel) rfl (.inl rfl)) (jb (d2 (i:=1) (by show(["number","letter","ways"]:List Str).Nodup;decide+kernel) rfl (.inl rfl)) q9))),(u1 (k8 (ed Đ (au.mono (by decide)) (by rfl) BE.at_ BE.fn.b0 BE.bd .nil cn (av (ae 1) (av (ae 2) aJ))))),(ae 0)⟩))
   (a9 (c9 (i:=5) ut.aF rfl (cu rfl) (jI aJ))
   (a9 (c9 (i:=6) ut.aF rfl (cu rfl) (vr vd ba))
   (a9 (Hl iL (Tt (ae 4) (λ_=>rfl))
    (a9 (c9 (i:=6) ut.aF rfl (cu rfl) (d7 (ť rfl) (by rfl) B.max agG (av (cS hS (ae 6) ba) (av (d7 (ó rfl) (by rfl) B.min WN (av (qd (N':=["number","walk"]) (cs:=[none,some 3]) rfl (hP (ae 4)) rfl (by decide+kernel) rfl (by decide+kernel) (iz (i4.mpr ⟨rfl,(λp aW=>bt aW (dN))⟩)) rfl
    (.own (.h_ rfl (.inl rfl) (.inl rfl) rfl .nil))
    (λC s3 bp bZ ef=>⟨(d2 (i:=0) (by show(["number","walk"]:List Str).Nodup;decide+kernel) rfl (.inl rfl)),lU,(e3 (ae 1) fh kq.dQ ud (au.mono (by decide)) kq.bd .nil cn (av (ae 0) aJ))⟩)) aJ)) aJ))))
   (a9 (jf iL rfl (hP (ed RE (au.mono (by decide)) (by rfl) pJ.at_ pJ.fn.b0 pJ.bd .nil cn (av (ae 0) (av (ae 3) (av (ae 4) (av (ae 2) (av (ae 6) aJ))))))) (d2 (i:=7) ut.aF rfl (cu rfl))
    (a9 (gm (e3 (ae 3) fh nh.dQ BF (au.mono (by decide)) nh.bd .nil cn (av (ae 7) aJ)))
   (bu (gm (qc qK se sf pG (ae 5) (av (ae 7) aJ))))))
   (bu (oB (i:=4) ut.aF rfl rfl rfl (N':=["number","walk"]) (cs:=[none,some 3]) rfl (hP (ae 4)) rfl (by decide+kernel) rfl (by decide+kernel) (iz (i4.mpr ⟨rfl,(λp aW=>bt aW (dN))⟩)) rfl
    (.own (.h_ rfl (.inl rfl) (.inl rfl) rfl .nil))
    (λC s3 bp bZ ef=>⟨(d2 (i:=0) (by show(["number","walk"]:List Str).Nodup;decide+kernel) rfl (.inl rfl)),(u1 (f3 C3 (e3 (ae 1) fh kr.dQ uf (au.mono (by decide)) kr.bd .nil cn (av (ae 0) aJ)) k9 (eh _))),(ae 0)⟩))))))
   (bu (cO (ae 5)))))))),?_⟩
  have Gw:hC.length=ao.length:=by have:=lE.len;rwa [a']at this
  obtain⟨gs,EU⟩:∃gs,gs=ao.map λd=>d.2.2:=⟨_,rfl⟩
  have asB:gs.length=ao.length:=by rw[EU,a']
  have xC:=eb hC;refine⟨_,rfl,_,rfl,λx ah cf nP aF=>?_⟩;have mk:∀{b:Addr}{v:d1},H b=some v→upd (upd H ah (.own x)) x (.ins C ah []) b=some v:=λ{b v}e=>by rw[aD (b2 e cf),aD (b2 e nP)];exact e
  refine⟨x,ah,n,cQ,hC,ao,rfl,aQ,mk hW,lE.same (λb v e=>mk e),(by omega),λH1 g st ls cF W xH atz p9 fr asC=>⟨rfl,?_⟩⟩;have s1:aH H H1:=G_ cf nP cF;have aqI:∀{b:Addr},upd (upd H ah (.own x)) x (.ins C ah []) b=none→H b=none:=λ{b}e=>by
   cases aE:H b with
   |none=>rfl
   |some v=>rw[mk aE]at e;cases e
  have Fv:∀l∈ls,H l=none:=λl aq=>aqI (fr l aq).1;have al7:∀l∈ls,l≠st∧l≠g:=λl aq=>(fr l aq).2;rw[←EU]at W;refine yR ?_;dsimp only;refine H3 ?_;refine afy (K:=K) (a:=cQ) (H1:=H1) (xs:=aK hC) (rest:=[some (.ref y)]) (λoq h=>⟨_,rfl,cQ,rfl,⟨_,aO.of (s1 _ _ hW)⟩,h⟩) rfl (aO.of (s1 _ _ hW)) (eZ (by omega)) (λi=>rj kvs hs ds (ao.getD i dV)) (λi=>.int (i:Int)) (λi v ak oq ev s2 bV=>?_) (λi v ak oq ev _ s2 bV=>⟨_,rfl,bV ak (aH.refl _)⟩) (λxf ak aoJ Bo s2=>?_)
  .unfold aK at ev;rw[cL]at ev;obtain⟨r,d4,rfl⟩:=ew.mp ev;obtain⟨d',kz,nt⟩:=bH.get lE d4;rw[cL]at kz;obtain⟨d,de,rfl⟩:=ew.mp kz;have g9:=s1.trans s2;have d9:=jj d (dY de);refine⟨_,rfl,_,rfl,r,y,n,t,aZ,a3,hs,rs,ds,kvs,d,rfl,g9 _ _ nt,mn.same g9,G,R.same g9,ez,d9.1,d9.2.1,λbp s3=>⟨_,rfl,?_⟩⟩;have:=bV bp s3;rw[nN de]at this;exact this
  rw[xC,Gw]at Bo;have Bo:ak xf=some (.lst (e4 (lp hs ds kvs ao))):=Bo;refine⟨eD _,λpl p'=>?_⟩;have s3:=cA (o:=.lst []) p';have Y7:upd ak pl (.lst []) pl=some (.lst []):=aQ;have EB:=W.same s2;have ZZ:=mF (s1.trans s2) p';have ao1:pl≠g:=b' (gb EB.goals p');have ao3:pl≠st:=b' (gb EB.steps p');have Z0:pl∉ls:=λz=>by obtain⟨ts,h⟩:=va EB.each pl z;rw[p']at h;cases h
  have aoK:xf∉ls:=λz=>by obtain⟨ts,h⟩:=va W.each xf z;rw[aoJ]at h;cases h
  have aoL:xf≠pl:=gb Bo p';have YO:=s3 _ _ Bo;have sj:=EB.same s3;have ry:=(s1.trans s2).trans s3;generalize upd ak pl (.lst [])=bp at s3 Y7 YO sj ry⊢;have a5:=R.ok;have xb:=G.b9;have Ec:=RD (kvs:=kvs) a5 ez xb (show ao.length≤100 by omega) jj;rw[←EU]at Ec;obtain⟨QM,Ec,aqy⟩:=Ec;refine⟨_,rfl,?_⟩;refine yR ?_;dsimp only;have a0:vx C H bp x n g st xf pl gs ls [] (ao.map e1) (lp hs ds kvs ao) []:=⟨ry,⟨sj.ins,sj.goals,sj.steps⟩,sj.each,YO,aoK,aoL,Y7,.nil⟩
  obtain⟨I,Md⟩:∃I:Nat→ag.St→aa→Prop,I=λm σ bU=>∃(T:Int)(go:List Nat)(sss:List (List Step))(rt:Nat→List Nat)(gl:Addr)(as:List Addr)(bs:List (dq×List Nat))(iY:Option ag.V),σ=[some (.ref n),some (.ref cQ),some (.ref y),some (.ref x),some (.ref gl),some (.ref pl),some (.int T),iY]∧vx C H bU x n g st gl pl gs ls as sss go bs∧jm hs ds kvs gs sss go rt∧e9 rt go≤m∧bs++l8 hs ds kvs gs m T go sss=rN hs ds kvs ao∧as.length≤(1300-m)*100∧m≤1300:=⟨_,rfl⟩
  refine⟨I,⟨1300,by rw[Md];exact⟨-1,_,_,QM,xf,[],[],none,rfl,a0,Ec,aqy,by rw[JB,EU];rfl,eD _,bY _⟩⟩,?_⟩;intro m σ bU FJ;rw[Md]at FJ;obtain⟨T,go,sss,rt,gl,as,bs,iY,rfl,kj,O,atP,NO,as8,atd⟩:=FJ;have amg:go.length≤60:=by have:=ox (L:=dt gs.length) O.aF λk aT=>gZ.mpr (O.lt k aT);rw[hK]at this;omega
  obtain⟨Al,N0⟩:=kj.tD.ins;have ok:=(O.uE ez).1;have bP:=(O.uE ez).2;refine⟨_,rfl,!(e4 go).isEmpty,.inl ⟨_,aO.of kj.sJ,rfl⟩,?_⟩;by_cases bz:go=[]
  .subst bz;refine fO rfl ⟨_,rfl,q pl bU as ZZ kj.aA kj.xX ?_⟩;have e0:l8 hs ds kvs gs m T [] sss=[]:=by cases m<;>rfl
   rw[e0,kn]at NO;rw[←NO];exact kj.Ac
  obtain⟨e_,Mf⟩:∃e_,e_=nextT T go sss:=⟨_,rfl⟩
  have less:=O.less (T:=e_) a5 ez (by rw[Mf];exact T4 bz);obtain⟨m,rfl⟩:∃cp,m=cp+1:=⟨m-1,by omega⟩
  refine eE (by cases go with|nil=>exact bt rfl bz|cons _ _=>rfl) ⟨I m,λaY U h=>⟨m,by omega,h⟩,?_⟩;have qP:=kj.tD.at_ kj.each;dsimp only[kd,rR,rE,qa];refine⟨_,rfl,_,_,rfl,rfl,?_⟩;have ata:(e4 go).length=go.length:=a' _;refine Cw (J:=i3 K gl) (H1:=bU) (xs:=e4 go) (rest:=[some (.ref x)]) (λoq h=>⟨_,rfl,gl,rfl,⟨_,aO.of kj.sJ⟩,h⟩) rfl (nj (aO.of kj.sJ)) (eZ (by omega)) (λv=>match v with|.int k=>.int (cV sss k.toNat)|_=>.bD) (λi v ak oq ev s2 bV=>?_) (λm6 dw atk FH s4=>?_)
  .obtain⟨k,aT,rfl⟩:=cw.mp (dY ev);obtain⟨ss,apL,o3,az,aE,_⟩:=ok k aT;refine⟨_,rfl,x,Al,_,rfl,s2 _ _ N0,rfl,_,rfl,x,n,g,st,gs,ls,sss,k,ss,apL,rfl,qP.same s2,az,?_⟩;rw[aE];have:=bV ak (aH.refl _);rw[show(match V.int (k:Int)with|.int k=>V.int (cV sss k.toNat)|_=>.bD)=V.int (cV sss k) by show V.int (cV sss (k:Int).toNat)=_;rw[m8]]at this;exact this
  have alN:(e4 go).map (λv=>match v with|.int k=>V.int (cV sss k.toNat)|_=>.bD)=(go.map (cV sss)).map V.int:=by unfold e4;rw[gJ,gJ];rfl
  rw[alN]at FH;refine⟨m6,go.map (cV sss),rfl,aO.of FH,by simpa using bz,_,_,rfl,?_⟩;have alO:(if lh (go.map (cV sss))>T+1 then lh (go.map (cV sss))else T+1)=e_:=by rw[Mf];unfold nextT;split<;>omega
  rw[alO];have hF:=kj.same s4;refine yR ?_;refine⟨_,rfl,_,rfl,_,rfl,_,rfl,_,rfl,x,n,g,st,gl,y,t,aZ,a3,gs,ls,rs,sss,hs,ds,kvs,go,cV sss,du kvs gs sss,e_,rfl,qP.same s4,aO.of hF.sJ,mn.same hF.aA,R.same hF.aA,G,amg,O.aF,ok,bP,λaV bK nc eK s8 s5 pR EH RQ Zz=>⟨aV,rfl,⟨_,aO.of pR⟩,?_⟩⟩;obtain rfl:=Uc bP RQ Zz;obtain⟨Bs,qT⟩:∃Bs,Bs=f5 ds kvs gs e_ go sss:=⟨_,rfl⟩
  have EH:bH (gO bK) nc Bs:=by rw[qT];exact EH
  have þ:=hF.same s5;have aoB:aV∉ls:=λz=>by obtain⟨ts,h⟩:=va hF.each aV z;rw[s8]at h;cases h
  have aoA:aV≠pl:=b' (gb hF.xX s8);have Zo:=hO EH;have arE:Bs.length≤100:=by
   rw[qT];unfold f5 jl;rw[a'];have aF:(iy ds.length (cV sss) (du kvs gs sss) e_ go).Nodup:=(zD.filter _).imp λh=>en h;have:=ox (L:=go.map (du kvs gs sss)) aF λr au=>by have ai:=(Zz r).mp au;obtain⟨c,aG⟩:=D1 _ ai;unfold dS at aG;obtain⟨k,aT,_⟩:=cw.mp aG;obtain⟨bk,cv⟩:=ea.mp aT;simp only[hG,decide_eq_true_eq]at cv;exact cw.mpr ⟨k,bk,cv.2⟩
   rw[a']at this;omega
  refine oA (xs:=aK nc) (λj σ fB=>∃iY,σ=[some (.ref n),some (.ref cQ),some (.ref y),some (.ref x),some (.ref gl),some (.ref pl),some (.int e_),iY]∧vx C H fB x n g st gl pl gs ls (as++nc.take j) (eU hs ds (Bs.take j) sss) go (bs++Bs.take j)∧fB aV=some (.lst (aK nc))∧bH (gO fB) nc Bs)
   ⟨iY,rfl,by simpa[eU]using þ,pR,EH⟩ (λj σ fB _⟨_,_,_,h,_⟩=>aO.of h) ?_ ?_
  .rintro j z σ fB di ⟨iY,rfl,gr,Yw,L4⟩;unfold aK at di;rw[cL]at di;obtain⟨fi,uq,rfl⟩:=ew.mp di;obtain⟨b,d8,af⟩:=bH.get L4 uq;have akf:=dY d8;have L6:=akf;rw[qT]at L6;unfold f5 jl at L6;obtain⟨r,au,mR⟩:=cw.mp L6;have apI:r<ds.length:=by unfold iy at au;exact gZ.mp (ea.mp au).1
   obtain⟨Al,N1⟩:=gr.tD.ins;have Rf:=ź gr.aA Fv;have Tu:=afz gr.tD gr.each al7;refine⟨_,rfl,x,Al,_,rfl,N1,rfl,_,rfl,mask fB ls,x,n,g,st,aZ,a3,fi,gs,ls,rs,_,hs,ds,b,rfl,xq fB ls,Tu,gr.each,p9,(λl aq=>CB aq),mn.gy.same Rf,R.same Rf,Hr af gr.each,?_,?_,?_,?_,λfY g_ alP=>?_⟩
   .rw[←mR];exact apI
   .rw[←mR];exact I8 O.aF r
   .intro i ar;rw[←mR]at ar;rw[uV,O.len];exact O.lt i (oF ar).1
   .intro ss fa;obtain⟨i,ar⟩:=me fa;rw[uW]at ar;obtain⟨Ri,e0,rfl⟩:=ew.mp ar;have f:=O.b9 i;rw[show sss.getD i []=Ri by rw[cH,e0];rfl]at f;have fQ:((Bs.take j).filter λb=>decide (i∈b.2)).length≤(Bs.filter λb=>decide (i∈b.2)).length:=((JD j Bs).filter _).length_le;have fI:(Bs.filter λb=>decide (i∈b.2)).length≤1:=by
     rw[qT];unfold f5;rw[SP bP i];split
     .exact bY _
     .exact eD _
    rw[fT,a'];omega
   have uQ:=g_ _ _ (gD gr.xX Z0);have atb:=hO gr.Ac;have aqw:(as++nc.take j).length≤200000:=by rw[fT,jR];omega
   refine⟨_,rfl,.inl ⟨rfl,_,aO.of uQ⟩,_,rfl,pl,_,_,rfl,rfl,uQ,(by rw[eb];exact od aqw (by decide)),_,rfl,?_,?_,?_⟩
   .have t1:nc.take (j+1)=nc.take j++[fi]:=by rw[mf,uq];rfl
    have et:Bs.take (j+1)=Bs.take j++[b]:=by rw[mf,d8];rfl
    rw[t1,et,ú,←r8,←r8];refine⟨i8 ZZ (Rf.trans g_),(Tu.same g_).upd uQ ao1 ao3,acu alP uQ Z0,?_,gr.hD,gr.PT,by rw[aQ,qX],?_⟩
    .rw[aD gr.PT];exact g_ _ _ (gD gr.sJ gr.hD)
    .exact Paired.snoc (((Hr af gr.each).same g_).upd uQ) (bH.f_ gr.Ac λa b h=>((Hr h gr.each).same g_).upd uQ)
   .rw[aD aoA];exact g_ _ _ (gD Yw aoB)
   .exact bH.f_ L4 λa b h=>((Hr h gr.each).same g_).upd uQ
  .rintro σ fB ⟨iY,rfl,gr,Yw,L4⟩;rw[eb,Zo,mh,show nc.take Bs.length=nc by rw[←Zo,mh],qT]at gr;have gr:vx C H fB x n g st gl pl gs ls (as++nc) (dy hs ds kvs gs e_ go sss) go (bs++f5 ds kvs gs e_ go sss):=gr;have oe:=O.step (T:=e_) a5 ez;obtain⟨Al,N1⟩:=gr.tD.ins;have agn:=gr.tD.at_ gr.each;dsimp only;refine afx (J:=i3 K gl) (H1:=fB) (xs:=e4 go) (rest:=[some (.ref x)]) (λoq h=>⟨_,rfl,gl,rfl,⟨_,aO.of gr.sJ⟩,h⟩) rfl (nj (aO.of gr.sJ)) (eZ (by omega)) (λv=>match v with|.int k=>decide ((cP (dy hs ds kvs gs e_ go sss) k.toNat).dm≠dh gs k.toNat)|_=>false) id (λi v ak oq ev s2 bV=>?_) (λi v ak oq ev _ s2 bV=>⟨_,rfl,bV ak (aH.refl _)⟩) (λX9 dw ZP YN apN=>?_)
   .obtain⟨k,aT,rfl⟩:=cw.mp (dY ev);have lk:k<gs.length:=O.lt k aT;have az:(dy hs ds kvs gs e_ go sss)[k]?=some ((dy hs ds kvs gs e_ go sss).getD k []):=jF (by rw[oe.len];exact lk);obtain⟨an0,eF⟩:=xv (oe.ne _ (dY az));refine⟨_,rfl,x,Al,_,rfl,s2 _ _ N1,rfl,_,rfl,x,n,g,st,gs,ls,_,k,an0,cP (dy hs ds kvs gs e_ go sss) k,dh gs k,rfl,agn.same s2,?_,jF lk,rfl,_,rfl,?_⟩
    .rw[az];congr 1
    .have aE:decide (mD (cP (dy hs ds kvs gs e_ go sss) k) (dh gs k)=V.bD)=decide ((cP (dy hs ds kvs gs e_ go sss) k).dm≠dh gs k):=by
      unfold mD;by_cases z:(cP (dy hs ds kvs gs e_ go sss) k).dm=dh gs k
      .rw[a8 z];simp[z]
      .rw[aX z];simp[z]
     rw[aE];have:=bV ak (aH.refl _);rw[show(match V.int (k:Int)with|.int k=>decide ((cP (dy hs ds kvs gs e_ go sss) k.toNat).dm≠dh gs k.toNat)|_=>false)=decide ((cP (dy hs ds kvs gs e_ go sss) k).dm≠dh gs k) by show decide ((cP (dy hs ds kvs gs e_ go sss) (k:Int).toNat).dm≠dh gs (k:Int).toNat)=_;rw[m8]]at this;exact this
   have As:((e4 go).filter λv=>match v with|.int k=>decide ((cP (dy hs ds kvs gs e_ go sss) k.toNat).dm≠dh gs k.toNat)|_=>false).map id=e4 (jg gs go (dy hs ds kvs gs e_ go sss)):=by unfold e4 jg;rw[Vz,wB];rfl
   rw[As]at YN;rw[Md];have yu:=gr.same apN;refine⟨e_,_,_,_,X9,as++nc,_,iY,rfl,⟨yu.aA,yu.tD,yu.each,YN,λz=>?_,b' (gb gr.xX ZP),yu.xX,yu.Ac⟩,oe,by omega,?_,?_,by omega⟩
   .obtain⟨ts,h⟩:=va gr.each X9 z;rw[ZP]at h;cases h
   .rw[←NO,r8];congr 1;show _=(if go=[]then[]else _);rw[aX bz,←Mf]
   .rw[fT];omega
end
open PySem ag cq aN
structure Ki(mg:Str→Option Value):Prop where
 abC:qD mg "MOST_LETTERS" 40
 abG:qD mg "MOST_TURN" 1000000000
 abA:qD mg "MOST_APART" 30
noncomputable def iO(hs:List PyData):PyData→Bool
 |.tuple [a,t,g]=>jE hs a g&&Cy 0 1000000000 t
 |_=>false
theorem ary{hs ds:List PyData}(h:ds.length≠3):iO hs (.tuple ds)=false:=by rcases ds with _|⟨a,_|⟨b,_|⟨c,_|⟨e,r⟩⟩⟩⟩<;>first|rfl|(simp at h)
noncomputable def mH:PyData→Int
 |.tuple [_,.int t,_]=>t
 |_=>0
theorem arz{hs:List PyData}{d:PyData}(h:iO hs d=true):∃a t g,d=.tuple [a,.int t,g]∧0≤t∧t≤1000000000:=by
 unfold iO at h;split at h
 .rename_i a t g;rw[hG]at h;cases t with
  |int i=>
   have aj:(decide (0≤i)&&decide (i≤1000000000))=true:=h.2;rw[hG]at aj;exact⟨a,i,g,rfl,ju aj.1,ju aj.2⟩
  |_=>cases h.2
 .cases h
noncomputable def ya(ns:List Int):Int:=if ns=[]then 0 else tx ns-lh ns
inductive adT(vs:(List ag.V))(H:aa)(Q:a6)(bl:b6):Prop where
 |mk (a:Addr) (hs:List PyData) (v:ag.V) (d:PyData) (bW:vs=[.ref a,v]) (bG:dD H (.ref a) (.list hs)) (b4:dD H v d) (cM:d.depth≤61) (d3:Q (.aV (iO hs d)) H)
noncomputable def IX:b8:=λvs H Q bl=>adT vs H Q bl
inductive acv(vs:(List ag.V))(H:aa)(Q:a6)(bl:b6):Prop where
 |mk (v:ag.V) (hs ds:List PyData) (bW:vs=[v]) (bG:dD H v (.list ds)) (b4:(∀d∈ds,iO hs d=true)) (cM:∀U,aH H U→Q (.int (ya (ds.map mH))) U)
noncomputable def SQ:b8:=λvs H Q bl=>acv vs H Q bl
inductive ahK(C:Addr)(vs:(List ag.V))(H:aa)(Q:a6)(bl:b6):Prop where
 |mk (e:Addr) (v:ag.V) (bW:vs=[.ref e,v]) (bG:H e=some (j1 e C)) (b4:∀ah,H ah=none→ah≠e→Q .bD (upd (upd H ah (kM ah [("number",v)])) e (j0 e C ah)))
noncomputable def wu(C:Addr):b8:=λvs H Q bl=>ahK C vs H Q bl
noncomputable def lV(hs:List PyData):List PyData→Option Nat
 |[]=>none
 |d::r=>if iO hs d=true then(lV hs r).map (·+1)else some 0
noncomputable def Kj:Option Nat→ag.V
 |some i=>.int i
 |none=>.bD
noncomputable def wx(hs ds:List PyData):Prop:=lV hs ds=none∧ds.length≤40∧ya (ds.map mH)≤30
inductive afC(C ek:Addr)(vs:(List ag.V))(H:aa)(Q:a6)(E:b6):Prop where
 |mk (x aZ a3:Addr) (hs:List (List Nat)) (zs:List ag.V) (v:ag.V) (ds:List PyData) (bW:vs=[.ref x,v]) (bG:ib C H x aZ a3 (dn hs) zs) (b4:Good hs) (cM:dD H v (.list ds)) (d3:(J7 ds).depth≤62) (fK:(wx (bO hs) ds→∀l U,H l=none→aH H U→dD U (.ref l) (.list ds)→Q (.ref l) U)) (iZ:(¬wx (bO hs) ds→∀ah U,H ah=none→aH H U→U ah=some (kM ah [("number",Kj (lV (bO hs) ds))])→E (.ref ek) (some ah) U))
noncomputable def JU(C ek:Addr):b8:=λvs H Q E=>afC C ek vs H Q E
section
variable{P:bL}{w:bC}{K:aS}{mg:Str→Option Value}{base:Heap}
noncomputable abbrev QV:Stmt:=fz (top 6) 0
theorem aiB:cT ["self","number"] ["self","number"] (cy QV):=⟨rfl,rfl,rfl,by decide+kernel,rfl,by decide+kernel,by decide+kernel⟩
theorem ahL{C R f:Addr}{fd:b5}(F:a_ K "__init__" "NoLetter.__init__" QV f fd)(gX:lN K mg "RoadError" C R)(uy:mg "RoadError"=some (.ref R))(aw:bE K (.ref C) "number"=some none):aB P w K mg base aM 1 f fd ["self","number"] (wu C):=by
 refine F.ok aiB (λvs H Q E h=>?_) (λcdv A outer s H vs Q E au h=>?_)
 .obtain⟨e,v,rfl,_⟩:=h;rfl
 .obtain⟨e,v,rfl,he,q⟩:=h;refine⟨_,(a9 (gm (TS (by rfl) uy gX.rd gX.Fe gX.HC (av (ae 0) (av jG aJ))))
   (bu (SY (y:="RoadError") (R:=R) (ae 0) (ae 1) rfl))),?_⟩
  refine⟨_,rfl,e,C,_,rfl,he,gX,(by show 1≤sizeLine;decide),?_⟩;exact⟨_,rfl,_,rfl,e,C,rfl,gX,aw,.inl ⟨he,q⟩⟩
noncomputable abbrev zT:Stmt:=top 18
theorem ahd:cT ["houses","thing"] ["houses","thing"] (cy zT):=⟨rfl,rfl,rfl,by decide+kernel,rfl,by decide+kernel,by decide+kernel⟩
theorem afD{f f1 f2 cc:Addr}{fd cg c_ e5:b5}(F:a_ K "is_letter" "is_letter" zT f fd)(tJ:Ki mg)(kT:c1 K mg "is_tuple_of" te ["thing","length"] f1 cg)(sz:aB P w K mg base aM 1 f1 cg ["thing","length"] Sf)(kS:c1 K mg "are_unlike_houses" sY ["houses","one","other"] f2 c_)(t9:aB P w K mg base aM 1 f2 c_ ["houses","one","other"] Hc)(mq:c1 K mg "is_whole_within" u2 ["thing","least","greatest"] cc e5)(wY:aB P w K mg base aM 2 cc e5 ["thing","least","greatest"] RA):
  aB P w K mg base aM 3 f fd ["houses","thing"] IX:=by
 refine F.ok ahd (λvs H Q E h=>?_) (λcdv A outer s H vs Q E au h=>?_)
 .obtain⟨a,hs,v,d,rfl,_⟩:=h;rfl
 .obtain⟨a,hs,v,d,rfl,aI,h,dd,q⟩:=h;refine⟨_,(bu (cO (gN (ed sz (au.mono (by decide)) (by rfl) kT.at_ kT.fn.b0 kT.bd .nil cn (av (ae 1) (av ba aJ))) (gN (ed t9 (au.mono (by decide)) (by rfl) kS.at_ kS.fn.b0 kS.bd .nil cn (av (ae 0) (av (b_ dE (ae 1) ba (λ_ _=>rfl)) (av (b_ dE (ae 1) ba (λ_ _=>rfl)) aJ)))) (j4 (ed wY (au.mono (by decide)) (by rfl) mq.at_ mq.fn.b0 mq.bd .nil cn (av (b_ dE (ae 1) ba (λ_ _=>rfl)) (av ba (av (sT (by rfl) tJ.abG) aJ))))))))),?_⟩;refine⟨_,rfl,v,d,_,rfl,h,_,rfl,?_⟩;cases h with
  |@tup r xs ds ic z t=>
   show if decide ((ds.length:Int)=3)=true then _ else _
   by_cases cv:ds.length=3
   .refine eE (cB (by omega)) ?_;have Bw:xs.length=3:=by rw[t.len];exact cv
    obtain⟨x0,fe,iH,rfl⟩:∃x0 fe iH,xs=[x0,fe,iH]:=by rcases xs with _|⟨a,_|⟨b,_|⟨c,_|⟨d,r⟩⟩⟩⟩<;>first|exact⟨_,_,_,rfl⟩|(simp at Bw)
    cases t with
    |cons t0 t=>
     cases t with
     |cons t1 t=>
      cases t with
      |cons et t=>
       cases t;rename_i eN kV kW;have q:Q (.aV (jE hs eN kW&&Cy 0 1000000000 kV)) H:=q;have amP:t2 [eN,kV,kW]+1≤61:=dd;have pv:eN.depth≤60:=el (RB (by simp:eN∈[eN,kV,kW])) (by omega);have gC:kW.depth≤60:=el (RB (by simp:kW∈[eN,kV,kW])) (by omega);refine⟨_,rfl,_,rfl,r,_,_,_,rfl,rfl,b1.of ic,rfl,_,rfl,r,_,_,_,rfl,rfl,b1.of ic,rfl,a,hs,x0,iH,eN,kW,rfl,aI,t0,et,pv,gC,_,rfl,?_⟩;cases ai:jE hs eN kW with
       |false=>
        rw[ai]at q;exact gF q
       |true=>
        rw[ai,DD]at q;exact gp ⟨_,rfl,r,_,_,_,rfl,rfl,b1.of ic,rfl,fe,kV,_,_,rfl,t1,q⟩
   .refine fO (dP (by omega)) ?_;rw[ary cv]at q;exact q
  |_=>exact gF q
noncomputable abbrev Dl:Stmt:=top 19
theorem UO:cT ["letters","turns"] ["letters"] (cy Dl):=⟨rfl,rfl,rfl,by decide+kernel,rfl,by decide+kernel,by decide+kernel⟩
theorem û{H:aa}{hs:List PyData}:∀{vs:List ag.V}{ds:List PyData},eg H vs ds→(∀d∈ds,iO hs d=true)→vs.map (λv=>V.int (mH (EN H v)))=(ds.map mH).map V.int
 |_,_,.nil,_=>rfl
 |_,_,.cons a b,h=>by simp only[gv];rw[TR a,û b λd hd=>h d (lL _ hd)]
theorem acz{f:Addr}{fd:b5}(F:a_ K "turns_apart" "turns_apart" Dl f fd)(B:fo mg):aB P w K mg base aM 1 f fd ["letters"] SQ:=by
 refine F.ok UO (λvs H Q E h=>?_) (λcdv A outer s H vs Q E au h=>?_)
 .obtain⟨v,hs,ds,rfl,_⟩:=h;rfl
 .obtain⟨v,hs,ds,rfl,bA,aq,q⟩:=h;obtain⟨a,xs,rfl,aI,bB,t⟩:=IT bA;refine⟨_,(a9 (oB (i:=1) UO.aF rfl rfl rfl (N':=["letter"]) (cs:=[none]) rfl (hP (ae 0)) rfl (by decide+kernel) rfl (by decide+kernel) (iz (λp aW=>bt aW (dN))) rfl
    (.own .nil)
    (λC s3 bp bZ ef=>⟨(d2 (i:=0) (by show(["letter"]:List Str).Nodup;decide+kernel) rfl (.inl rfl)),lU,(b_ (q_ (K:=K) rfl) (ae 0) ba (λ_ _=>rfl))⟩))
   (bu (cO (cS x2 (ad2 rfl (by rfl) B.max (av (ae 1) aJ) ba) (ad3 rfl (by rfl) B.min (av (ae 1) aJ) ba))))),?_⟩
  dsimp only[kd,rR];refine Cw (J:=i3 K a) (H1:=H) (xs:=xs) (rest:=[]) (λR h=>⟨_,rfl,a,rfl,⟨_,aO.of aI⟩,h⟩) rfl (nj (aO.of aI)) (eZ (by omega)) (λv=>.int (mH (EN H v))) (λi x ak R ex aA cC=>?_) (λD U ai aj bk=>?_)
  .obtain⟨d,de,hd⟩:=t.get ex;obtain⟨ala,atN,ass,rfl,_,_⟩:=arz (aq d (dY de));have uH:=cC ak (aH.refl _);rw[TR hd]at uH;clear cC;obtain⟨r,ys,rfl,ic,_,ty⟩:=VH (hd.same aA);cases ty with
   |cons t0 ty=>
    cases ty with
    |cons t1 ty=>
     cases ty with
     |cons et ty=>
      cases ty;obtain rfl:=UV t1;exact⟨_,rfl,r,_,_,_,rfl,rfl,b1.of ic,rfl,uH⟩
  .rw[û t aq]at aj;have q:=q U bk;unfold ya at q;by_cases bB:ds.map mH=[]
   .rw[a8 bB]at q;refine⟨_,rfl,.int 0,D,ds.map mH,rfl,rfl,aO.of aj,λ_=>?_,λz=>bt bB z⟩;exact⟨_,rfl,.int 0,D,ds.map mH,rfl,rfl,aO.of aj,λ_=>⟨_,_,rfl,rfl,q⟩,λz=>bt bB z⟩
   .rw[aX bB]at q;refine⟨_,rfl,.int 0,D,ds.map mH,rfl,rfl,aO.of aj,λz=>bt z bB,λ_=>?_⟩;exact⟨_,rfl,.int 0,D,ds.map mH,rfl,rfl,aO.of aj,λz=>bt z bB,λ_=>⟨_,_,rfl,rfl,q⟩⟩
noncomputable abbrev zU:Stmt:=top 20
theorem DR:cT ["net","some","houses","number","thing"] ["net","some"] (cy zU):=⟨rfl,rfl,rfl,by decide+kernel,rfl,by decide+kernel,by decide+kernel⟩
theorem Â{hs:List PyData}:∀{ds:List PyData}{i:Nat},(∀j,j<i→∀d,ds[j]?=some d→iO hs d=true)→(∃d,ds[i]?=some d∧iO hs d=false)→lV hs ds=some i
 |[],i,_,⟨d,e,_⟩=>by simp at e
 |x::r,0,_,⟨d,e,h⟩=>by simp at e;subst e;unfold lV;rw[aX (by rw[h];exact fL)]
 |x::r,i+1,h0,⟨d,e,h⟩=>by unfold lV;rw[a8 (h0 0 (by omega) x rfl),Â (ds:=r) (i:=i) (λj bq d de=>h0 (j+1) (by omega) d (by simpa using de)) ⟨d,by simpa using e,h⟩];rfl
theorem Gg{hs:List PyData}:∀{ds:List PyData},(∀d∈ds,iO hs d=true)↔lV hs ds=none
 |[]=>by simp[lV]
 |x::r=>by
  unfold lV;by_cases h:iO hs x=true
  .rw[a8 h];constructor
   .intro q;rw[Gg.mp λd hd=>q d (lL _ hd)];rfl
   .intro q;have c6:lV hs r=none:=by
     cases e:lV hs r with
     |none=>rfl
     |some k=>rw[e]at q;cases q
    intro d hd;rcases dx.mp hd with rfl|hd
    .exact h
    .exact Gg.mpr c6 d hd
  .rw[aX h];constructor
   .intro q;exact bt (q x (r' ..)) h
   .intro q;cases q
theorem afE{C ek f f1 f2 cc iQ:Addr}{R:Addr}{fd cg c_ e5 sF:b5}(F:a_ K "letters_of" "letters_of" zU f fd)(B:fo mg)(tJ:Ki mg)(fx:d_ K C)(lO:cR K C "houses" "Net.houses" uY ["self"] f1 cg)(pA:aB P w K mg base aM 1 f1 cg ["self"] (B2 C))(BG:c1 K mg "is_letter" zT ["houses","thing"] f2 c_)(Qs:aB P w K mg base aM 3 f2 c_ ["houses","thing"] IX)(A':c1 K mg "turns_apart" Dl ["letters"] cc e5)(Pa:aB P w K mg base aM 1 cc e5 ["letters"] SQ)(sC:lN K mg "RoadError" ek R)(uF:mg "NoLetter"=some (.ref ek))(Gr:i7 K (.ref ek)=true)(Gs:bE K (.ref ek) "__init__"=some (some (.ref iQ)))(Gu:ey K (.ref iQ)=true)(ug:aB P w K mg base aM 1 iQ sF ["self","number"] (wu ek))(Gv:Binds K sF ["self","number"] []):
  aB P w K mg base (i1 P w) 4 f fd ["net","some"] (JU C ek):=by
 refine G5 F DR (λvs H Q E h=>?_) (λcdv A outer s H vs Q E au h=>?_)
 .obtain⟨x,aZ,a3,hs,zs,v,ds,rfl,_⟩:=h;rfl
 .obtain⟨x,aZ,a3,hs,zs,v,ds,rfl,n,G,bA,dd,q,gT⟩:=h;obtain⟨ah,ay⟩:=n.ins;obtain⟨a,xs,rfl,aI,bB,t⟩:=IT bA;refine⟨_,(a9 (c9 (i:=2) DR.aF rfl (cu rfl) (pK (ae 0) fx lO.dQ pA (au.mono (by decide)) lO.bd .nil cn))
   (a9 (jf acD rfl (xP rfl B.enumerate (av (ae 1) aJ)) (C6 rfl (jb (d2 (i:=3) DR.aF rfl (cu rfl)) (jb (d2 (i:=4) DR.aF rfl (cu rfl)) q9)))
    (bu (eV (jH (k8 (ed Qs (au.mono (by decide)) (by rfl) BG.at_ BG.fn.b0 BG.bd .nil cn (av (ae 2) (av (ae 4) aJ))))) (bu (B3 sC uF Gr Gs Gu ug (au.mono (by decide)) Gv rfl (av (ae 3) aJ))) eT)))
   (a9 (eV (lM.pt (yw (f3 vt (d7 h6 (by rfl) B.len hR (av (ae 1) aJ)) (sT (by rfl) tJ.abC) (eh _)) (C5 (f3 vt (ed Pa (au.mono (by decide)) (by rfl) A'.at_ A'.fn.b0 A'.bd .nil cn (av (ae 1) aJ)) (sT (by rfl) tJ.abA) (eh _))))) (bu (B3 sC uF Gr Gs Gu ug (au.mono (by decide)) Gv rfl (av k9 aJ))) eT)
   (bu (cO (ow sx (by rfl) B.list p1 (av (ae 1) aJ))))))),?_⟩
  refine⟨_,rfl,x,ah,_,rfl,ay,rfl,x,aZ,a3,_,_,rfl,n,λl nl=>?_⟩;have s1:aH H (upd H l (.lst (dn hs))):=cA nl;have ji:=WJ (H:=upd H l (.lst (dn hs))) G aQ;generalize upd H l (.lst (dn hs))=H1 at s1 ji⊢;have go:∀(ak:aa)(v:ag.V),aH H ak→v=Kj (lV (bO hs) ds)→¬wx (bO hs) ds→∀e,ak e=none→wu ek (V.ref e::[v]) (upd ak e (j1 e ek)) (λu bp=>u=.bD∧∃ah,bp e=some (j0 e ek ah)∧E (.ref ek) (some ah) (del bp e)) qF:=λak v s2 ev lg e ne=>by
   refine⟨e,v,rfl,aQ,λah aF mK=>⟨rfl,ah,aQ,?_⟩⟩;have B6:ak ah=none:=by rw[aD mK]at aF;exact aF
   have az:del (upd (upd (upd ak e (j1 e ek)) ah (kM ah [("number",v)])) e (j0 e ek ah)) e=upd ak ah (kM ah [("number",v)]):=by
    funext b;by_cases af:b=e
    .subst af;rw[R6,aD (b' mK)];exact ne.symm
    .rw[nC af,aD af];by_cases hA:b=ah
     .subst hA;rw[aQ,aQ]
     .rw[aD hA,aD hA,aD af]
   rw[az];refine gT lg ah _ (s2.free B6) (s2.trans (cA B6)) ?_;rw[aQ,ev]
  refine⟨_,rfl,a,rfl,⟨_,aO.of (s1 _ _ aI)⟩,?_⟩;refine R8 (K:=K) (a:=a) (xs:=xs) (λi σ ak=>aH H1 ak∧(∀j,j<i→∀d,ds[j]?=some d→iO (bO hs) d=true)∧∃u v,σ=[some (.ref x),some (.ref a),some (.ref l),u,v]) ⟨aH.refl _,λj bq=>bt bq (by omega),none,none,rfl⟩ (λi σ ak h=>aO.of (h.1 _ _ (s1 _ _ aI))) ?_ ?_
  .rintro i z σ ak p di ⟨s2,af,u,v,rfl⟩ np;obtain⟨d,de,hd⟩:=t.get di;have s3:=cA (o:=.tup [V.int (i:Int),z]) np;have mS:=s1.trans (s2.trans s3);have amP:t2 ds+1≤62:=dd;have pv:d.depth≤61:=el (RB (dY de)) (by omega);refine⟨p,_,rfl,b1.of aQ,rfl,_,_,rfl,_,_,rfl,rfl,?_⟩;refine⟨_,rfl,_,rfl,l,bO hs,z,d,rfl,ji.same (s2.trans s3),hd.same mS,pv,_,rfl,?_⟩;cases ar:iO (bO hs) d with
   |true=>exact gF ⟨s2.trans s3,λj bq d' kz=>by
     rcases sb j i with h|h
     .exact af j h d' kz
     .rw[show j=i by omega,de]at kz;cases kz;exact ar,some (.int (i:Int)),some z,rfl⟩
   |false=>
    have xa:=Â (hs:=bO hs) af ⟨d,de,ar⟩;refine gp ⟨_,rfl,(by show 1≤sizeLine;decide),go _ _ mS (by rw[xa];rfl) λlX=>?_⟩;have:=lX.1;rw[xa]at this;cases this
  .rintro σ ak ⟨s2,af,u,v,rfl⟩;have g9:=s1.trans s2;have YP:∀d∈ds,iO (bO hs) d=true:=λd hd=>by obtain⟨j,bq,rfl⟩:=Jz.mp hd;exact af j (by rw[t.len];exact bq) _ (ct bq)
   have xa:=Gg.mp YP;have amz:=g9 _ _ aI;have hlen:=t.len;refine⟨_,rfl,a,xs,rfl,.inl (aO.of amz),_,_,rfl,rfl,_,rfl,?_⟩;by_cases Yf:ds.length≤40
   .refine fO (dP (by omega)) ⟨_,rfl,.ref a,bO hs,ds,rfl,bA.same g9,YP,λbp s3=>?_⟩;have mS:=g9.trans s3;refine⟨_,_,rfl,rfl,_,rfl,?_⟩;by_cases Ye:ya (ds.map mH)≤30
    .refine fO (dP (by omega)) ?_;refine⟨_,rfl,a,xs,rfl,.inl (aO.of (mS _ _ aI)),λfI tb=>?_⟩;have s4:=cA (o:=.lst xs) tb;exact q ⟨xa,Yf,Ye⟩ fI _ (mS.free tb) (mS.trans s4) (.lst aQ bB (t.same (mS.trans s4)))
    .refine eE (cB (by omega)) ⟨(by show 1≤sizeLine;decide),go _ _ mS (by rw[xa];rfl) λlX=>Ye lX.2.2⟩
   .refine eE (cB (by omega)) ?_;exact gp ⟨(by show 1≤sizeLine;decide),go _ _ g9 (by rw[xa];rfl) λlX=>Yf lX.2.1⟩
end
open PySem ag cq aN
noncomputable def rC(n pl y cX dc cK:Addr)(pr:Int):List (Str×ag.V):=[("net",.ref n),("present",.int pr),("posted",.ref pl),("ways",.ref y),("shut_roads",.ref cX),("walk",.ref dc),("sent",.ref cK)]
structure o1(K:aS)(C:Addr):Prop where
 cl:d_ K C
 nn:bE K (.ref C) "net"=some none
 np:bE K (.ref C) "present"=some none
 no:bE K (.ref C) "posted"=some none
 mM:bE K (.ref C) "ways"=some none
 s_:bE K (.ref C) "shut_roads"=some none
 nw:bE K (.ref C) "walk"=some none
 ns:bE K (.ref C) "sent"=some none
structure ej where
 (ah n pl y cX dc kX cK g br t aZ a3:Addr)
 (rs hu ls i9:List Addr)
noncomputable def ej.da(A:ej)(x:Addr):List Addr:=x::A.pl::A.y::A.t::A.cX::A.dc::A.g::A.br::A.cK::A.ls
structure dF where
 pr:Int
 ao:List (Str×Int×Str)
 sss:List (List Step)
 gU:List (dq×List Nat)
 kvs:c2
 mU:List Nat
noncomputable def kI(l:List Nat):List (bx×ag.V):=l.map λr:Nat=>(eS (r:Int),.aV true)
noncomputable def bS(ao:List (Str×Int×Str)):List Str:=ao.map λd=>d.2.2
structure gn(aL C bf aC:Addr)(bQ H:aa)(x:Addr)(A:ej)(hs:List (List Nat))(ds:List aN.a5)(s:dF):Prop where
 cF:aH bQ H
 gy:ib aC bQ A.n A.aZ A.a3 (dn hs) (aK A.rs)
 tj:gL bQ hs A.rs ds
 ins:H x=some (.ins aL A.ah (rC A.n A.pl A.y A.cX A.dc A.cK s.pr))
 po:H A.pl=some (.lst (aK A.hu))
 pt:dU H A.hu (s.ao.map iU)
 tG:∃ky,H A.y=some (.ins bf ky (qg A.n A.t))
 rJ:H A.t=some (.eO s.kvs)
 cX:H A.cX=some (.bX (kI s.mU))
 wi:H A.dc=some (.ins C A.kX (Dg A.n A.g A.br))
 n1:H A.g=some (.lst ((bS s.ao).map V.str))
 ws:H A.br=some (.lst (aK A.ls))
 n0:bH (fE H) A.ls s.sss
 cK:H A.cK=some (.lst (aK A.i9))
 sp:bH (gO H) A.i9 s.gU
 aF:(A.da x).Nodup
 fr:∀b∈A.da x,bQ b=none
structure sa(M Eb:List Addr)(H U:aa):Prop where
 keep:∀b o,b∉M→H b=some o→U b=some o
 own:∀b∈Eb,b∈M∨H b=none
theorem sa.refl{M:List Addr}{H U:aa}(aA:aH H U):sa M M H U:=⟨λb o _ e=>aA b o e,λ_ h=>.inl h⟩
theorem gn.same{aL C bf aC:Addr}{bQ H U:aa}{x:Addr}{A:ej}{hs:List (List Nat)}{ds:List aN.a5}{s:dF}(D:gn aL C bf aC bQ H x A hs ds s)(aA:aH H U):gn aL C bf aC bQ U x A hs ds s:=
 let⟨ky,h⟩:=D.tG
 ⟨D.cF.trans aA,D.gy,D.tj,aA _ _ D.ins,aA _ _ D.po,D.pt.same aA,⟨ky,aA _ _ h⟩,aA _ _ D.rJ,aA _ _ D.cX,aA _ _ D.wi,aA _ _ D.n1,aA _ _ D.ws,BX D.n0 aA,aA _ _ D.cK,bH.f_ D.sp λ_ _ h=>h.same aA,D.aF,D.fr⟩
theorem gn.walk{aL C bf aC:Addr}{bQ H:aa}{x:Addr}{A:ej}{hs:List (List Nat)}{ds:List aN.a5}{s:dF}(D:gn aL C bf aC bQ H x A hs ds s):WalkAt C H A.dc A.n A.g A.br (bS s.ao) A.ls s.sss:=⟨⟨_,D.wi⟩,D.n1,D.ws,D.n0⟩
theorem gn.aqW{aL C bf aC:Addr}{bQ H:aa}{x:Addr}{A:ej}{hs:List (List Nat)}{ds:List aN.a5}{s:dF}(D:gn aL C bf aC bQ H x A hs ds s):l0 bf aC H A.y A.n A.t A.aZ A.a3 (dn hs) (aK A.rs) s.kvs:=⟨D.tG,D.gy.same D.cF,D.rJ⟩
section
variable{P:bL}{w:bC}{K:aS}{mg:Str→Option Value}{base:Heap}
inductive afF(aL C bf aC:Addr)(vs:(List ag.V))(H:aa)(Q:a6)(bl:b6):Prop where
 |mk (bQ:aa) (x:Addr) (A:ej) (hs:List (List Nat)) (ds:List aN.a5) (s:dF) (bW:vs=[.ref x]) (bG:gn aL C bf aC bQ H x A hs ds s) (b4:Q (.int s.pr) H)
noncomputable def JV(aL C bf aC:Addr):b8:=λvs H Q bl=>afF aL C bf aC vs H Q bl
noncomputable abbrev zV:Stmt:=fz (top 57) 1
theorem ahe:cT ["self"] ["self"] (cy zV):=⟨rfl,rfl,rfl,by decide+kernel,rfl,by decide+kernel,by decide+kernel⟩
theorem agl{aL C bf aC f:Addr}{fd:b5}(F:a_ K "now" "Day.now" zV f fd)(cb:o1 K aL):aB P w K mg base aM 1 f fd ["self"] (JV aL C bf aC):=by
 refine F.ok ahe (λvs H Q E h=>?_) (λcdv A outer s H vs Q E au h=>?_)
 .obtain⟨bQ,x,A,hs,ds,s,rfl,_⟩:=h;rfl
 .obtain⟨bQ,x,A,hs,ds,s,rfl,D,q⟩:=h;refine⟨_,(bu (cO (dT (ae 0) (by rfl)))),?_⟩;exact⟨_,rfl,x,aL,_,_,_,rfl,D.ins,cb.cl,cb.np,rfl,q⟩
inductive agm(aL C bf aC:Addr)(vs:(List ag.V))(H:aa)(Q:a6)(bl:b6):Prop where
 |mk (bQ:aa) (x:Addr) (A:ej) (hs:List (List Nat)) (ds:List aN.a5) (s:dF) (bW:vs=[.ref x]) (bG:gn aL C bf aC bQ H x A hs ds s) (b4:∀l,H l=none→Q (.ref l) (upd H l (.lst (aK A.hu))))
noncomputable def JW(aL C bf aC:Addr):b8:=λvs H Q bl=>agm aL C bf aC vs H Q bl
noncomputable abbrev zW:Stmt:=fz (top 57) 9
theorem ahf:cT ["self"] ["self"] (cy zW):=⟨rfl,rfl,rfl,by decide+kernel,rfl,by decide+kernel,by decide+kernel⟩
theorem ago{aL C bf aC f:Addr}{fd:b5}(F:a_ K "letters" "Day.letters" zW f fd)(B:fo mg)(cb:o1 K aL):aB P w K mg base aM 1 f fd ["self"] (JW aL C bf aC):=by
 refine F.ok ahf (λvs H Q E h=>?_) (λcdv A outer s H vs Q E au h=>?_)
 .obtain⟨bQ,x,A,hs,ds,s,rfl,_⟩:=h;rfl
 .obtain⟨bQ,x,A,hs,ds,s,rfl,D,q⟩:=h;refine⟨_,(bu (cO (ow sx (by rfl) B.list p1 (av (dT (ae 0) (by rfl)) aJ)))),?_⟩;exact⟨_,rfl,x,aL,_,_,_,rfl,D.ins,cb.cl,cb.no,rfl,A.pl,_,rfl,.inl (aO.of D.po),q⟩
end
open PySem ag cq aN
section
variable{P:bL}{w:bC}{K:aS}{mg:Str→Option Value}{base:Heap}
theorem ne_objs{H:aa}{a b:Addr}{o u:d1}(aI:H a=some o)(af:H b=some u)(h:o≠u):a≠b:=λz=>by rw[z,af]at aI;exact h (hM aI).symm
inductive agp(aL C bf aC:Addr)(vs:(List ag.V))(H:aa)(Q:a6)(bl:b6):Prop where
 |mk (x ah n aZ a3:Addr) (hs:List (List Nat)) (rs:List Addr) (ds:List aN.a5) (pr:Int) (bW:vs=[.ref x,.ref n,.int pr]) (bG:H x=some (.ins aL ah [])) (b4:ib aC H n aZ a3 (dn hs) (aK rs)) (cM:Good hs) (d3:gL H hs rs ds) (fK:rs.length≤40) (iZ:∀(U:aa)(A:ej)(kvs:c2),SameBut x H U→gn aL C bf aC (mask H [x]) U x A hs ds ⟨pr,[],[],[],kvs,[]⟩→A.n=n→A.rs=rs→kv hs ds kvs→(∀b∈A.da x,b=x∨H b=none)→Q .bD U)
noncomputable def JR(aL C bf aC:Addr):b8:=λvs H Q bl=>agp aL C bf aC vs H Q bl
noncomputable abbrev zP:Stmt:=fz (top 57) 0
theorem ahg:cT ["self","net","first"] ["self","net","first"] (cy zP):=⟨rfl,rfl,rfl,by decide+kernel,rfl,by decide+kernel,by decide+kernel⟩
theorem agq{aL C bf aC f f1 k7:Addr}{fd cg oz:b5}(F:a_ K "__init__" "Day.__init__" zP f fd)(cb:o1 K aL)(rb:mg "Walk"=some (.ref C))(pD:c1 K mg "shortest" x6 ["net"] f1 cg)(Qz:aB P w K mg base aM 4 f1 cg ["net"] (Eo bf aC))(p2:i6 K C k7)(qR:kl K C "Walk.__init__" tO ["self","net","letters"] k7 oz)(BD:aB P w K mg base aM 2 k7 oz ["self","net","letters"] (yK C)):aB P w K mg base aM 5 f fd ["self","net","first"] (JR aL C bf aC):=by
 refine F.ok ahg (λvs H Q E h=>?_) (λcdv A outer s H vs Q E au h=>?_)
 .obtain⟨x,ah,n,aZ,a3,hs,rs,ds,pr,rfl,_⟩:=h;rfl
 .obtain⟨x,ah,n,aZ,a3,hs,rs,ds,pr,rfl,ay,N,G,R,apB,q⟩:=h;refine⟨_,(a9 (iA (ae 0) (ae 1) rfl)
   (a9 (iA (ae 0) (ae 2) rfl)
   (a9 (iA (ae 0) (jI aJ) rfl)
   (a9 (iA (ae 0) (ed Qz (au.mono (by decide)) (by rfl) pD.at_ pD.fn.b0 pD.bd .nil cn (av (ae 1) aJ)) rfl)
   (a9 (iA (ae 0) RS rfl)
   (a9 (iA (ae 0) (q' p2 BD (au.mono (by decide)) (by rfl) rb qR.bd .nil cn (av (ae 1) (av (jI aJ) aJ))) rfl)
   (bu (iA (ae 0) (jI aJ) rfl)))))))),?_⟩
  have p8:∀b o,b≠x→H b=some o→mask H [x] b=some o:=λb o nb e=>gD e (by simpa using nb);obtain⟨gw,aw⟩:=N.ins;have aoS:n≠x:=λz=>by rw[z,ay]at aw;cases aw
  have aoz:aZ≠x:=ne_objs N.q5 ay (by intro z;cases z);have aoC:a3≠x:=ne_objs N.qi ay (by intro z;cases z);have VS:ib aC (mask H [x]) n aZ a3 (dn hs) (aK rs):=⟨⟨gw,p8 _ _ aoS aw⟩,p8 _ _ aoz N.q5,p8 _ _ aoC N.qi⟩
  have WB:gL (mask H [x]) hs rs ds:=⟨bH.f_ R.hE λa d e=>p8 _ _ (ne_objs e ay (by intro z;cases z)) e,R.ok⟩
  have up:∀{mc:aa}{o:d1},aH (mask H [x]) mc→aH (mask H [x]) (upd mc x o):=λ{mc o}Rc=>i8 (CB (by simp)) Rc;have s0:=xq H [x];have sH:∀{mc:aa}{o:d1},aH (mask H [x]) mc→mc x=some o→∀{b},mc b=none→H b=none∧b≠x:=λ{mc o}Rc ex{b}e=>by
   have nb:b≠x:=λz=>by rw[z,ex]at e;cases e
   refine⟨?_,nb⟩;cases aE:H b with
   |none=>rfl
   |some u=>rw[Rc _ _ (p8 b u nb aE)]at e;cases e
  refine⟨_,rfl,_,rfl,x,aL,ah,_,rfl,ay,cb.cl,cb.nn,(by show 0<1000;decide),?_⟩;refine⟨_,rfl,_,rfl,x,aL,ah,_,rfl,aQ,cb.cl,cb.np,(by show 1<1000;decide),?_⟩;have s2:aH (mask H [x]) (upd (upd H x (.ins aL ah [("net",.ref n)])) x (.ins aL ah [("net",.ref n),("present",.int pr)])):=up (up s0);have aj:upd (upd H x (.ins aL ah [("net",.ref n)])) x (.ins aL ah [("net",.ref n),("present",.int pr)]) x=_:=aQ;show kd _ _ _ _ (upd (upd H x (.ins aL ah [("net",.ref n)])) x (.ins aL ah [("net",.ref n),("present",.int pr)]));generalize upd (upd H x (.ins aL ah [("net",.ref n)])) x (.ins aL ah [("net",.ref n),("present",.int pr)])=ak at s2 aj⊢;refine⟨(by show 0≤sizeLine;decide),λpl p'=>?_⟩;have f1:=sH s2 aj p';have s3:=s2.trans (cA (o:=.lst []) p');refine⟨_,rfl,x,aL,ah,_,rfl,(aD f1.2.symm).trans aj,cb.cl,cb.no,(by show 2<1000;decide),?_⟩;have s4:=up (o:=.ins aL ah [("net",.ref n),("present",.int pr),("posted",.ref pl)]) s3;have cv:upd (upd ak pl (.lst [])) x (.ins aL ah [("net",.ref n),("present",.int pr),("posted",.ref pl)]) x=_:=aQ;have gS:upd (upd ak pl (.lst [])) x (.ins aL ah [("net",.ref n),("present",.int pr),("posted",.ref pl)]) pl=some (.lst (aK [])):=(aD f1.2).trans aQ;show kd _ _ _ _ (upd (upd ak pl (.lst [])) x (.ins aL ah [("net",.ref n),("present",.int pr),("posted",.ref pl)]));generalize upd (upd ak pl (.lst [])) x (.ins aL ah [("net",.ref n),("present",.int pr),("posted",.ref pl)])=dw at s4 cv gS⊢;refine⟨_,rfl,n,aZ,a3,hs,rs,ds,rfl,VS.same s4,G,WB.same s4,apB,λy t bK kvs mM ee CE Kx ST=>?_⟩;have f2:=sH s4 cv mM;have cc:=sH s4 cv ee;obtain⟨ky,cW⟩:=Kx.ins;have apc:y≠t:=ag.gb cW Kx.told (by intro z;cases z);have ao5:pl≠y:=b2 gS mM;have ao4:pl≠t:=b2 gS ee;have s5:=s4.trans CE;refine⟨_,rfl,x,aL,ah,_,rfl,CE _ _ cv,cb.cl,cb.mM,(by show 3<1000;decide),?_⟩;have g_:=up (o:=.ins aL ah [("net",.ref n),("present",.int pr),("posted",.ref pl),("ways",.ref y)]) s5;have kB:upd bK x (.ins aL ah [("net",.ref n),("present",.int pr),("posted",.ref pl),("ways",.ref y)]) x=_:=aQ;have Cj:upd bK x (.ins aL ah [("net",.ref n),("present",.int pr),("posted",.ref pl),("ways",.ref y)]) pl=_:=(aD f1.2).trans (CE _ _ gS);have vE:upd bK x (.ins aL ah [("net",.ref n),("present",.int pr),("posted",.ref pl),("ways",.ref y)]) y=_:=(aD f2.2).trans cW;have vl:upd bK x (.ins aL ah [("net",.ref n),("present",.int pr),("posted",.ref pl),("ways",.ref y)]) t=_:=(aD cc.2).trans Kx.told;show kd _ _ _ _ (upd bK x (.ins aL ah [("net",.ref n),("present",.int pr),("posted",.ref pl),("ways",.ref y)]));generalize upd bK x (.ins aL ah [("net",.ref n),("present",.int pr),("posted",.ref pl),("ways",.ref y)])=fY at g_ kB Cj vE vl⊢
  refineλcX B'=>?_
  have f4:=sH g_ kB B';have RM:=cA (o:=.bX []) B';refine⟨_,rfl,x,aL,ah,_,rfl,RM _ _ kB,cb.cl,cb.s_,(by show 4<1000;decide),?_⟩;have lA:=up (o:=.ins aL ah [("net",.ref n),("present",.int pr),("posted",.ref pl),("ways",.ref y),("shut_roads",.ref cX)]) (g_.trans RM);have uG:upd (upd fY cX (.bX [])) x (.ins aL ah [("net",.ref n),("present",.int pr),("posted",.ref pl),("ways",.ref y),("shut_roads",.ref cX)]) x=_:=aQ;have Gi:∀b o,b≠x→fY b=some o→upd (upd fY cX (.bX [])) x (.ins aL ah [("net",.ref n),("present",.int pr),("posted",.ref pl),("ways",.ref y),("shut_roads",.ref cX)]) b=some o:=λb o nb e=>(aD nb).trans (RM _ _ e);have rr:upd (upd fY cX (.bX [])) x (.ins aL ah [("net",.ref n),("present",.int pr),("posted",.ref pl),("ways",.ref y),("shut_roads",.ref cX)]) cX=some (.bX []):=(aD f4.2).trans aQ;show kd _ _ _ _ (upd (upd fY cX (.bX [])) x (.ins aL ah [("net",.ref n),("present",.int pr),("posted",.ref pl),("ways",.ref y),("shut_roads",.ref cX)]));generalize upd (upd fY cX (.bX [])) x (.ins aL ah [("net",.ref n),("present",.int pr),("posted",.ref pl),("ways",.ref y),("shut_roads",.ref cX)])=hJ at lA uG Gi rr⊢;have xN:=Gi _ _ f1.2 Cj;have SD:=Gi _ _ f2.2 vE;have Rp:=Gi _ _ cc.2 vl;have ao2:pl≠cX:=b2 Cj B';have apb:y≠cX:=b2 vE B';have ao9:t≠cX:=b2 vl B';refine⟨_,rfl,(by show 0≤sizeLine;decide),λGx aoP=>λdc kX G4 ZN atB=>?_⟩;have C4:=cA (o:=.lst []) aoP;have Zk:upd hJ Gx (.lst []) Gx=some (.lst (aK [])):=aQ;generalize upd hJ Gx (.lst [])=r1 at C4 Zk G4 ZN⊢;have RJ:aH r1 (upd (upd r1 kX (.own dc)) dc (.ins C kX [])):=λb u e=>by rw[aD (b2 e G4),aD (b2 e ZN)];exact e
  have H_:upd (upd r1 kX (.own dc)) dc (.ins C kX []) dc=some (.ins C kX []):=aQ;generalize upd (upd r1 kX (.own dc)) dc (.ins C kX [])=ō at RJ H_⊢;have xZ:=C4.trans RJ;have QO:=lA.trans xZ;have MH:=xZ _ _ uG;have uB:=sH (lA.trans C4) (C4 _ _ uG) G4;have old:∀{b o},hJ b=some o→b≠dc:=λ{b o}e=>b2 (C4 _ _ e) G4;have Qb:=xZ _ _ xN;have Sy:=xZ _ _ SD;have Rm:=xZ _ _ Rp;have Qt:=xZ _ _ rr;refine⟨dc,kX,n,Gx,[],[],rfl,H_,RJ _ _ Zk,.nil,eD _,λo8 g br gG cF EC hD mL _ _ GW=>⟨rfl,?_⟩⟩;have nl:gG=[]:=by have:=hO EC.each;exact zC.mp this
  subst nl;obtain⟨alK,Bv⟩:=EC.ins;have xc:=sH QO MH hD;have fs:=sH QO MH mL;have arb:=cF _ _ uB.2.symm MH;have apj:=cF _ _ (old xN) Qb;have aro:=cF _ _ (old SD) Sy;have aqb:=cF _ _ (old Rp) Rm;have apv:=cF _ _ (old rr) Qt;have apM:aH (mask H [x]) o8:=λb o e=>by refine cF b o (λz=>?_) (QO b o e);have:=(xq H [x]) _ _ e;rw[z,uB.1]at this;cases this
  refine⟨_,rfl,x,aL,ah,_,rfl,arb,cb.cl,cb.nw,(by show 5<1000;decide),?_⟩;have g9:=up (o:=.ins aL ah [("net",.ref n),("present",.int pr),("posted",.ref pl),("ways",.ref y),("shut_roads",.ref cX),("walk",.ref dc)]) apM;have sM:upd o8 x (.ins aL ah [("net",.ref n),("present",.int pr),("posted",.ref pl),("ways",.ref y),("shut_roads",.ref cX),("walk",.ref dc)]) x=_:=aQ;have sU:∀b o,b≠x→o8 b=some o→upd o8 x (.ins aL ah [("net",.ref n),("present",.int pr),("posted",.ref pl),("ways",.ref y),("shut_roads",.ref cX),("walk",.ref dc)]) b=some o:=λb o nb e=>(aD nb).trans e;dsimp only;show W8 _ _ _ _ _ _ (upd o8 x (.ins aL ah [("net",.ref n),("present",.int pr),("posted",.ref pl),("ways",.ref y),("shut_roads",.ref cX),("walk",.ref dc)]));generalize upd o8 x (.ins aL ah [("net",.ref n),("present",.int pr),("posted",.ref pl),("ways",.ref y),("shut_roads",.ref cX),("walk",.ref dc)])=wg at g9 sM sU⊢;have Z8:=sU _ _ f1.2 apj;have è:=sU _ _ f2.2 aro;have Ξ:=sU _ _ cc.2 aqb;have ζ:=sU _ _ f4.2 apv;have Ë:=sU _ _ uB.2 Bv;have X8:=sU _ _ xc.2 EC.goals;have oK:=sU _ _ fs.2 EC.steps;refine⟨(by show 0≤sizeLine;decide),λcK rl=>?_⟩;have Fg:=sH g9 sM rl;have RK:=cA (o:=.lst []) rl;refine⟨_,rfl,x,aL,ah,_,rfl,RK _ _ sM,cb.cl,cb.ns,(by show 6<1000;decide),?_⟩;have ψ:=up (o:=.ins aL ah [("net",.ref n),("present",.int pr),("posted",.ref pl),("ways",.ref y),("shut_roads",.ref cX),("walk",.ref dc),("sent",.ref cK)]) (g9.trans RK);have uZ:∀b o,b≠x→wg b=some o→upd (upd wg cK (.lst [])) x (.ins aL ah [("net",.ref n),("present",.int pr),("posted",.ref pl),("ways",.ref y),("shut_roads",.ref cX),("walk",.ref dc),("sent",.ref cK)]) b=some o:=λb o nb e=>(aD nb).trans (RK _ _ e);have az:=b2 Z8 rl;have aE:=b2 è rl;have dj:=b2 Ξ rl;have fV:=b2 ζ rl;have jc:=b2 Ë rl;have qS:=b2 X8 rl;have An:=b2 oK rl;refine q _ ⟨ah,n,pl,y,cX,dc,alK,cK,g,br,t,aZ,a3,rs,[],[],[]⟩ kvs (λb o nb e=>ψ _ _ (p8 b o nb e)) ⟨ψ,VS,WB,aQ,uZ _ _ f1.2 Z8,.nil,⟨ky,uZ _ _ f2.2 è⟩,uZ _ _ cc.2 Ξ,uZ _ _ f4.2 ζ,uZ _ _ uB.2 Ë,uZ _ _ xc.2 X8,uZ _ _ fs.2 oK,.nil,(aD Fg.2).trans aQ,.nil,?_,?_⟩ rfl rfl ST ?_
  .have iW:=old xN;have mO:=old SD;have apd:=old Rp;have ape:=old rr;have g1:=b2 Qb hD;have g2:=b2 Sy hD;have g3:=b2 Rm hD;have MD:=b2 Qt hD;have ME:=b2 H_ hD;have fQ:=b2 Qb mL;have fI:=b2 Sy mL;have u0:=b2 Rm mL;have an9:=b2 Qt mL;have aoa:=b2 H_ mL;unfold ej.da;simp only[hL,dx,dN,or_false,not_or];exact⟨⟨f1.2.symm,f2.2.symm,cc.2.symm,f4.2.symm,uB.2.symm,xc.2.symm,fs.2.symm,Fg.2.symm⟩,⟨ao5,ao4,ao2,iW,g1,fQ,az⟩,⟨apc,apb,mO,g2,fI,aE⟩,⟨ao9,apd,g3,u0,dj⟩,⟨ape,MD,an9,fV⟩,⟨ME,aoa,jc⟩,⟨GW,qS⟩,An,not_false,n_⟩
  all_goals
   intro b af;unfold ej.da at af;simp only[dx,dN,or_false]at af
  .have GF:∀b,H b=none→mask H [x] b=none:=λb e=>by
    cases aE:mask H [x] b with
    |none=>rfl
    |some o=>rw[(xq H [x]) _ _ aE]at e;cases e
   rcases af with rfl|rfl|rfl|rfl|rfl|rfl|rfl|rfl|rfl
   .exact CB (by simp)
   all_goals (apply GF)
   .exact f1.1
   .exact f2.1
   .exact cc.1
   .exact f4.1
   .exact uB.1
   .exact xc.1
   .exact fs.1
   .exact Fg.1
  .rcases af with rfl|rfl|rfl|rfl|rfl|rfl|rfl|rfl|rfl
   .exact .inl rfl
   .exact .inr f1.1
   .exact .inr f2.1
   .exact .inr cc.1
   .exact .inr f4.1
   .exact .inr uB.1
   .exact .inr xc.1
   .exact .inr fs.1
   .exact .inr Fg.1
end
end fq
namespace cq
open PySem PySem.Spec PyProof.Rows ag
section
variable{P:bL}{w:bC}{K:aS}{mg:Str→Option Value}{base:Heap}{N:List Str}{qual:Str}{scope:Scope}{f:Addr}{cdv:Value}{A:c4}{outer:List Env}{s:ax}{H:aa}{E:b6}
theorem acj{E2:Value→ax→Prop}{pins:List (Addr×Obj)}{σ:ag.St}{bU U:aa}{sc s':ax}{bc:Addr}{cls a0:Value}{B:Heap}(I:Inv (fj P w K mg base N qual scope f cdv A outer s H E) pins σ bU sc)(T:mx P w (fj P w K mg base N qual scope f cdv A outer s H E).stack bU sc bc cls a0 U B s')(j5:E cls none U):
  a4 (bg P w) (A.deeper (ni qual scope s.heap.objs.size f cdv)) (leaving (ni qual scope s.heap.objs.size f cdv) (.ref bc)) (λ_ s2=>eQ P w outer H s E (.ref bc) s2) E2 s':=by
 refine aq4 I.ok.frames rfl T.er λaj fe iH=>?_;have sh:hi (eW (fj P w K mg base N qual scope f cdv A outer s H E).stack) [] bU U sc.heap s'.heap:=T.un;have u9:∀b o,s.heap.get? b=some o→b∉eW outer→∃cD,B.get? b=some cD∧(H b=none→cD=o):=λb o e af=>by obtain⟨iW,z⟩:=I.base.there b o e (by simp[fj,jt]);obtain⟨cD,dp,q⟩:=T.j9 b iW z (xO I e af);refine⟨cD,dp,λn=>?_⟩;have bG:=I.base.keep b o e n af (by simp[fj,jt]);rw[z]at bG;cases bG;exact q (I.base.free b _ e n (by simp[fj,jt]))
 refine⟨bc,cls,a0,U,B,rfl,⟨fe,T.os.trans I.os,T.bare,T.ok,⟨λb o e n af e7=>?_,λb o e n af e7=>?_,λb o e n e7=>?_,λb o e e7=>?_,λb xs q=>T.un.hE b xs (I.base.hE b xs q),λb o u q=>T.un.iR b o u (I.base.iR b o u q),λb ps q=>?_⟩,u9⟩,j5⟩
 .obtain⟨cD,z,q⟩:=u9 b o e af;rw[q n]at z;exact fe.1 b o z
 .obtain⟨br,z⟩:=I.base.slot b o e n af e7;have dk:b∈eW (fj P w K mg base N qual scope f cdv A outer s H E).stack:=by show b∈eW (_::outer);unfold eW;rw[D3];exact lL _ af
  obtain⟨rB,bG⟩:=sh.slot b _ z (I.base.free b o e n e7) dk (by simp);obtain⟨_,ob,bR,gc⟩:=T.er.2.2.1.mem dk;rw[bG]at bR;cases bR;obtain⟨mV,dp⟩:=iH b _ bG gc;exact⟨mV,dp⟩
 .obtain⟨iW,z⟩:=I.base.there b o e e7;exact sh.free b iW z (I.base.free b o e n e7) (by simp)
 .by_cases af:b∈eW outer
  .obtain⟨_,ob,bR,gc⟩:=fe.2.2.1.mem af;exact⟨ob,bR⟩
  .obtain⟨cD,z,_⟩:=u9 b o e af;exact⟨cD,fe.1 b cD z⟩
 .obtain⟨jr,az⟩:=I.base.jw b ps q;obtain⟨nJ,aE⟩:=T.un.jw b _ az;exact⟨jr++nJ,by rw[aE,TA]⟩
theorem Ž:nF (i1 P w) (ia P w K mg base N qual scope f cdv A outer s H E) E:=by rintro pins σ bU sc e s' I ⟨bc,cls,a0,U,B,dR,rfl,T,L,j5⟩;have h0:=acj (K:=K) (mg:=mg) (base:=base) (N:=N) (qual:=qual) (scope:=scope) (f:=f) (cdv:=cdv) (A:=A) (outer:=outer) (s:=s) (H:=H) (E:=λc _ Ō=>c=cls∧Ō=U) (E2:=λ_ _=>False) (I.l_ _) T ⟨rfl,rfl⟩;refine gf (Cc ν h0) (λ_ s2 aj=>?_) λ_ _ z=>z.1.elim;obtain⟨⟨Xy,akr,ait,ak,Ć,az,sh,aE,dj⟩,dg⟩:=aj;cases az;subst aE dj;refine⟨bc,akr,ait,ak,Ć,dR,rfl,sh,λah hd=>?_,j5⟩;obtain⟨o,bw,hd2⟩:=L ah hd;obtain⟨ob,pU,_⟩:=sh.er.there;exact⟨ob,pU,(dg.dict bw pU).trans hd2⟩
end
end cq
namespace fq
open PySem ag cq aN
noncomputable def ik(d:Str×Int×Str):PyData:=.tuple [.str d.1,.int d.2.1,.str d.2.2]
theorem SR{H:aa}:∀{rs:List Addr}{ao:List (Str×Int×Str)},dU H rs (ao.map iU)→(∀d∈ao,dD H (.str d.1) (.str d.1)∧dD H (.str d.2.2) (.str d.2.2))→eg H (aK rs) (ao.map ik)
 |[],[],_,_=>.nil
 |_::_,d::_,.cons h t,g=>.cons (.tup h (by show 3≤100;decide) (.cons (g d (.head _)).1 (.cons (.int _) (.cons (g d (.head _)).2 .nil)))) (SR t λe he=>g e (.tail _ he))
theorem U5{H:aa}:∀{ao:List (Str×Int×Str)}{vs:List ag.V},eg H vs (ao.map ik)→∃rs,vs=aK rs∧dU H rs (ao.map iU)
 |[],_,.nil=>⟨[],rfl,.nil⟩
 |d::ao,_,.cons (v:=v) (vs:=vs) h t=>by
  obtain⟨a,xs,rfl,aI,_,ay⟩:=VH h;obtain⟨rs,rfl,cY⟩:=U5 t;refine⟨a::rs,rfl,.cons ?_ cY⟩;cases ay with
  |cons ai cJ=>cases cJ with
   |cons aj dr=>cases dr with
    |cons bk rv=>
     cases rv;cases ai;cases aj;cases bk;exact aI
theorem ü(ao:List (Str×Int×Str)):(J7 (ao.map ik)).depth≤62:=by refine el (VW (Q1 (n:=1) λy cW=>?_)) (by decide);obtain⟨d,_,rfl⟩:=cw.mp cW;exact bY _
theorem RF{H U:aa}{M:List Addr}(k:∀b o,b∉M→H b=some o→U b=some o)(ee:∀b∈M,∀v,H b≠some (.tup v)):∀{ls:List Addr}{sss:List (List Step)},bH (fE H) ls sss→(∀l∈ls,l∉M)→bH (fE U) ls sss
 |_,_,.nil,_=>.nil
 |_,_,.cons ⟨ts,ai,aj⟩ t,h=>.cons ⟨ts,k _ _ (h _ (.head _)) ai,bH.f_ aj λ_ _ e=>k _ _ (λz=>ee _ z _ e) e⟩ (RF k ee t λl aq=>h l (.tail _ aq))
noncomputable def Io(hs:List (List Nat))(ao:List (Str×Int×Str)):Prop:=∀d∈ao,d.1∈hs.map S∧d.2.2∈hs.map S
noncomputable def yl(s:dF)(h g:Str):dF:={s with ao:=s.ao++[(h,s.pr,g)],sss:=s.sss++[e1 (h,s.pr,g)]}
inductive adV(aL C bf aC ek:Addr)(vs:(List ag.V))(H:aa)(Q:a6)(E:b6):Prop where
 |mk (bQ:aa) (x:Addr) (A:ej) (hs:List (List Nat)) (ds:List aN.a5) (s:dF) (h g:Str) (bW:vs=[.ref x,.str h,.str g]) (bG:gn aL C bf aC bQ H x A hs ds s) (b4:Good hs) (cM:Io hs s.ao) (d3:s.ao.length≤40) (fK:s.sss.length=s.ao.length) (iZ:(∀H,dD H (.str h) (.str h))) (m5:(∀H,dD H (.str g) (.str g))) (qy:(wx (bO hs) ((s.ao++[(h,s.pr,g)]).map ik)→∀U n5,sa (A.da x) (n5.da x) H U→gn aL C bf aC bQ U x n5 hs ds (yl s h g)→Q (.int (s.ao.length:Int)) U)) (yt:(¬wx (bO hs) ((s.ao++[(h,s.pr,g)]).map ik)→∀ah U,H ah=none→aH H U→U ah=some (kM ah [("number",Kj (lV (bO hs) ((s.ao++[(h,s.pr,g)]).map ik)))])→E (.ref ek) (some ah) U))
noncomputable def IY(aL C bf aC ek:Addr):b8:=λvs H Q E=>adV aL C bf aC ek vs H Q E
section
variable{P:bL}{w:bC}{K:aS}{mg:Str→Option Value}{base:Heap}
noncomputable abbrev yM:Stmt:=fz (top 57) 2
theorem V3:cT ["self","house","goal","letter"] ["self","house","goal"] (cy yM):=⟨rfl,rfl,rfl,by decide+kernel,rfl,by decide+kernel,by decide+kernel⟩
theorem adW{aL C bf aC ek f f1 f2:Addr}{fd cg c_:b5}(F:a_ K "post" "Day.post" yM f fd)(B:fo mg)(cb:o1 K aL)(fh:d_ K C)(By:c1 K mg "letters_of" zU ["net","some"] f1 cg)(arA:aB P w K mg base (i1 P w) 4 f1 cg ["net","some"] (JU aC ek))(su:cR K C "take_in" "Walk.take_in" yq ["self","letter"] f2 c_)(OS:aB P w K mg base aM 1 f2 c_ ["self","letter"] (Iq C)):aB P w K mg base (i1 P w) 5 f fd ["self","house","goal"] (IY aL C bf aC ek):=by
 refine G5 F V3 (λvs H Q E h=>?_) (λcdv A outer s H vs Q E au h=>?_)
 .obtain⟨bQ,x,A,hs,ds,s,h',g',rfl,_⟩:=h;rfl
 .obtain⟨bQ,x,A,hs,ds,s,h',g',rfl,D,G,r7,xA,aol,tu,d0,q,gT⟩:=h;refine⟨_,(a9 (c9 (i:=3) V3.aF rfl (cu rfl) (nE (av (ae 1) (av (dT (ae 0) (by rfl)) (av (ae 2) aJ)))))
   (a9 (iA (ae 0) (ed arA (au.mono (by decide)) (by rfl) By.at_ By.fn.b0 By.bd .nil Ž (av (dT (ae 0) (by rfl)) (av (cS Vd (dT (ae 0) (by rfl)) (jI (av (ae 3) aJ))) aJ))) rfl)
   (a9 (gm (e3 (dT (ae 0) (by rfl)) fh su.dQ OS (au.mono (by decide)) su.bd .nil cn (av (ae 3) aJ)))
   (bu (cO (cS x2 (d7 h6 (by rfl) B.len hR (av (dT (ae 0) (by rfl)) aJ)) ba)))))),?_⟩
  refine⟨_,rfl,_,rfl,x,aL,_,_,_,rfl,D.ins,cb.cl,cb.np,rfl,_,rfl,(by show 3≤sizeLine;decide),λcY ao8=>?_⟩;have kJ:=cA (o:=.tup (iU (h',s.pr,g'))) ao8;have t1:upd H cY (.tup (iU (h',s.pr,g'))) cY=some (.tup (iU (h',s.pr,g'))):=aQ;show kd _ _ _ _ (upd H cY (.tup (iU (h',s.pr,g'))));generalize upd H cY (.tup (iU (h',s.pr,g')))=H1 at kJ t1⊢;have m6:=D.same kJ;have Zt:A.hu.length=s.ao.length:=by have:=hO D.pt;rw[a']at this;exact this
  refine⟨_,rfl,x,aL,_,_,_,rfl,m6.ins,cb.cl,cb.nn,rfl,_,rfl,x,aL,_,_,_,rfl,m6.ins,cb.cl,cb.no,rfl,_,rfl,(by show 1≤sizeLine;decide),λfQ cI=>?_⟩;have mZ:=cA (o:=.lst [V.ref cY]) cI;have aj:upd H1 fQ (.lst [V.ref cY]) fQ=some (.lst [V.ref cY]):=aQ;generalize upd H1 fQ (.lst [V.ref cY])=ak at mZ aj⊢;have gY:=m6.same mZ;refine⟨A.pl,fQ,_,_,rfl,rfl,gY.po,aj,(by rw[eb];show _+1≤sizeLine;exact tX (eZ (by omega))),λfI c3=>?_⟩;rw[qX];have yc:=cA (o:=.lst (aK (A.hu++[cY]))) c3;have bk:upd ak fI (.lst (aK (A.hu++[cY]))) fI=some (.lst (aK (A.hu++[cY]))):=aQ;generalize upd ak fI (.lst (aK (A.hu++[cY])))=bp at yc bk⊢;have fS:=gY.same yc;have ry:=kJ.trans (mZ.trans yc);have vm:dU bp (A.hu++[cY]) ((s.ao++[(h',s.pr,g')]).map iU):=by rw[eC];exact Paired.snoc (F:=λr d=>bp r=some (.tup d)) (yc _ _ (mZ _ _ t1)) fS.pt
  have aqu:dD bp (.ref fI) (.list ((s.ao++[(h',s.pr,g')]).map ik)):=by
   refine .lst bk (by rw[eb,fT];show _+1≤100;omega) (SR vm λd hd=>?_);rcases hv.mp hd with z|z
   .exact⟨nD G (r7 d z).1,nD G (r7 d z).2⟩
   .rw[gK.mp z];exact⟨tu _,d0 _⟩
  refine⟨A.n,A.aZ,A.a3,hs,_,.ref fI,_,rfl,fS.gy.same fS.cF,G,aqu,ü _,λLX l dw nl s4 aqt=>?_,λna ah dw aF s4 hd=>?_⟩
  .obtain⟨_,xs,f7,YW,_,Bw⟩:=IT aqt;cases f7;obtain⟨hu,rfl,Υ⟩:=U5 Bw;have gI:=fS.same s4;obtain⟨ky,Zd⟩:=gI.tG;have qk:=ry.trans s4;have ZS:H l=none:=by
    cases e:H l with
    |none=>rfl
    |some o=>rw[ry _ _ e]at nl;cases nl
   have aF:=D.aF;unfold ej.da at aF;simp only[hL,dx,not_or]at aF;obtain⟨⟨fe,iH,n2,n3,yf,Dv,vC,Dw,yg⟩,⟨fb,e8,lr,gS,G8,Cj,Z9,xN⟩,⟨o3,é,ê,Sz,vD,vE,SA⟩,⟨Ν,et,t3,Rn,Ro,vl⟩,⟨bT,c6,g8,rq,Cp⟩,⟨gV,ha,gW,Di⟩,⟨g1,g2,g3⟩,⟨HE,rB⟩,az,p9⟩:=aF;refine⟨_,rfl,x,aL,A.ah,_,rfl,gI.ins,cb.cl,cb.no,(by show 7<1000;decide),?_⟩;have dW:upd dw x (.ins aL A.ah (rC A.n l A.y A.cX A.dc A.cK s.pr)) x=_:=aQ;have k5:∀b o,b≠x→dw b=some o→upd dw x (.ins aL A.ah (rC A.n l A.y A.cX A.dc A.cK s.pr)) b=some o:=λb o nb e=>(aD nb).trans e;have xF:∀b,upd dw x (.ins aL A.ah (rC A.n l A.y A.cX A.dc A.cK s.pr)) b=none→dw b=none:=λb e=>by
    have nb:b≠x:=λz=>by rw[z,aQ]at e;cases e
    rw[aD nb]at e;exact e
   show kd _ _ _ _ (upd dw x (.ins aL A.ah (rC A.n l A.y A.cX A.dc A.cK s.pr)));generalize upd dw x (.ins aL A.ah (rC A.n l A.y A.cX A.dc A.cK s.pr))=bK at dW k5 xF⊢;have as9:(bS s.ao).length=s.ao.length:=a' _;have gG:A.ls.length=s.ao.length:=(hO D.n0).trans aol;refine⟨_,rfl,x,aL,_,_,_,rfl,dW,cb.cl,cb.nw,rfl,A.dc,A.kX,_,rfl,k5 _ _ (b' yf) gI.wi,rfl,_,rfl,A.dc,A.kX,A.n,A.g,A.br,cY,bS s.ao,A.ls,(h',s.pr,g'),rfl,k5 _ _ (b' yf) gI.wi,k5 _ _ (b' Dv) gI.n1,k5 _ _ (b' vC) gI.ws,g1,k5 _ _ (ag.gb (s4 _ _ (yc _ _ (mZ _ _ t1))) gI.ins (by intro z;cases z)) (s4 _ _ (yc _ _ (mZ _ _ t1))),(by omega),(by omega),λfY Gl aqc Zi am2 anI aoO atA Nx anO=>?_⟩;have bV:∀b o,b∉[x,A.g,A.br]→dw b=some o→fY b=some o:=λb o nb e=>by simp only[dx,dN,or_false,not_or]at nb;exact Zi b o nb.2.1 nb.2.2 (k5 b o nb.1 e)
   have k2:∀{b o},b≠x→b≠A.g→b≠A.br→dw b=some o→fY b=some o:=λ{b o}cI c3 lq e=>bV b o (by simp[cI,c3,lq]) e;have kt:∀b v,dw b=some (.tup v)→fY b=some (.tup v):=λb v e=>k2 (ag.gb e gI.ins (by intro z;cases z)) (ag.gb e gI.n1 (by intro z;cases z)) (ag.gb e gI.ws (by intro z;cases z)) e;have nm:∀b o,dw b=some o→b≠Gl:=λb o e z=>by rw[z,xF _ aoO]at e;cases e
   have xD:l≠x:=b' (b2 fS.ins nl);have Zq:l≠A.g:=b' (b2 fS.n1 nl);have Zw:l≠A.br:=b' (b2 fS.ws nl);have aok:l∉A.ls:=λz=>by obtain⟨i,ar,eF⟩:=pe z;obtain⟨_,_,ts,e,_⟩:=bH.get fS.n0 (eR.mpr ⟨ar,eF⟩);rw[nl]at e;cases e
   have Yi:=Zi x _ Dv vC dW;have Yh:=k2 xD Zq Zw YW;have aoj:hu.length=s.ao.length+1:=by have:=hO Υ;rw[a',fT]at this;exact this
   refine⟨_,rfl,x,aL,_,_,_,rfl,Yi,cb.cl,cb.no,rfl,l,_,rfl,.inl (aO.of Yh),_,_,rfl,rfl,?_⟩;rw[eb,aoj];show Q (.int (((s.ao.length+1:Nat):Int)-1)) fY;rw[show(((s.ao.length+1:Nat):Int)-1)=(s.ao.length:Int) by omega];have MA:∀b o,bQ b=some o→b≠x∧b≠A.g∧b≠A.br:=λb o e=>by
    refine⟨λz=>?_,λz=>?_,λz=>?_⟩
    .rw[z,D.fr x (by unfold ej.da;simp)]at e;cases e
    .rw[z,D.fr A.g (by unfold ej.da;simp)]at e;cases e
    .rw[z,D.fr A.br (by unfold ej.da;simp)]at e;cases e
   have ZU:H Gl=none:=by
    cases e:H Gl with
    |none=>rfl
    |some o=>exact bt rfl (nm _ _ (qk _ _ e))
   refine q LX fY {A with pl:=l,hu:=hu,ls:=A.ls++[Gl]} ⟨λb o nb e=>?_,λb af=>?_⟩ ⟨λb o e=>?_,D.gy,D.tj,Yi,Yh,bH.f_ Υ λ_ _ e=>kt _ _ e,⟨ky,k2 (b' iH) Sz vD Zd⟩,k2 (b' n2) t3 Rn gI.rJ,k2 (b' n3) c6 g8 gI.cX,k2 (b' yf) gV ha gI.wi,?_,anI,?_,k2 (b' Dw) (b' g2) (b' HE) gI.cK,bH.f_ gI.sp λ_ _⟨c,ai,aj⟩=>⟨c,kt _ _ ai,kt _ _ aj⟩,?_,λb af=>?_⟩
   .unfold ej.da at nb;simp only[dx,not_or]at nb;exact k2 nb.1 nb.2.2.2.2.2.2.1 nb.2.2.2.2.2.2.2.1 (qk _ _ e)
   .unfold ej.da at af⊢;simp only[dx,hv,dN,or_false]at af⊢;rcases af with h|h|h|h|h|h|h|h|h|h|h
    .exact .inl (.inl h)
    .exact .inr (by rw[h];exact ZS)
    .exact .inl (by simp[h])
    .exact .inl (by simp[h])
    .exact .inl (by simp[h])
    .exact .inl (by simp[h])
    .exact .inl (by simp[h])
    .exact .inl (by simp[h])
    .exact .inl (by simp[h])
    .exact .inl (by simp[h])
    .exact .inr (by rw[h];exact ZU)
   .obtain⟨bW,bG,b4⟩:=MA b o e;exact k2 bW bG b4 (qk _ _ (D.cF _ _ e))
   .rw[am2];show _=some (d1.lst ((bS (s.ao++[(h',s.pr,g')])).map V.str));unfold bS;simp only[eC,gv,D']
   .refine Paired.snoc ⟨[aqc],Nx,.cons anO .nil⟩ (RF bV (λb af v e=>?_) gI.n0 λoJ uM z=>?_)
    .simp only[dx,dN,or_false]at af;rcases af with rfl|rfl|rfl
     .rw[gI.ins]at e;cases e
     .rw[gI.n1]at e;cases e
     .rw[gI.ws]at e;cases e
    .simp only[dx,dN,or_false]at z;rcases z with rfl|rfl|rfl
     .exact yg uM
     .exact g3 uM
     .exact rB uM
   .unfold ej.da;simp only[hL,dx,hv,dN,or_false,not_or];obtain⟨asv,N2⟩:=fS.tG;refine⟨⟨b' xD,iH,n2,n3,yf,Dv,vC,Dw,yg,nm _ _ gI.ins⟩,⟨b' (b2 N2 nl),b' (b2 fS.rJ nl),b' (b2 fS.cX nl),b' (b2 fS.wi nl),Zq,Zw,b' (b2 fS.cK nl),aok,nm _ _ YW⟩,⟨o3,é,ê,Sz,vD,vE,SA,nm _ _ Zd⟩,⟨Ν,et,t3,Rn,Ro,vl,nm _ _ gI.rJ⟩,⟨bT,c6,g8,rq,Cp,nm _ _ gI.cX⟩,⟨gV,ha,gW,Di,nm _ _ gI.wi⟩,⟨g1,g2,g3,nm _ _ gI.n1⟩,⟨HE,rB,nm _ _ gI.ws⟩,⟨az,nm _ _ gI.cK⟩,?_⟩;rw[JC];refine⟨p9,hL.mpr ⟨dN,n_⟩,λa aI b af=>?_⟩;rw[gK]at af;subst af;obtain⟨i,ar,eF⟩:=pe aI;obtain⟨_,_,ts,e,_⟩:=bH.get gI.n0 (eR.mpr ⟨ar,eF⟩);exact nm _ _ e
   .unfold ej.da at af;simp only[dx,hv,dN,or_false]at af;have old:b∈A.da x→bQ b=none:=D.fr b;have new:H b=none→bQ b=none:=λe=>by
     cases aE:bQ b with
     |none=>rfl
     |some o=>rw[D.cF _ _ aE]at e;cases e
    unfold ej.da at old;simp only[dx]at old;rcases af with h|h|h|h|h|h|h|h|h|h|h
    .exact old (by simp[h])
    .exact new (by rw[h];exact ZS)
    .exact old (by simp[h])
    .exact old (by simp[h])
    .exact old (by simp[h])
    .exact old (by simp[h])
    .exact old (by simp[h])
    .exact old (by simp[h])
    .exact old (by simp[h])
    .exact old (by simp[h])
    .exact new (by rw[h];exact ZU)
  .have qk:=ry.trans s4;have aoE:H ah=none:=by
    cases e:H ah with
    |none=>rfl
    |some o=>rw[ry _ _ e]at aF;cases aF
   exact gT na ah dw aoE qk hd
end
open PySem ag cq aN
noncomputable def lW(s:dF):List Nat:=(dt s.ao.length).filter λn=>decide ((cP s.sss n).dm≠dh (bS s.ao) n)
noncomputable def oE(s:dF)(n:Nat):Bool:=(hp s.kvs (cP s.sss n).dm (dh (bS s.ao) n)).isSome
noncomputable def fN(ds:List aN.a5)(s:dF):List (dq×List Nat):=(jl ds (cV s.sss) (du s.kvs (bS s.ao) s.sss) s.pr ((lW s).filter (oE s))).filter λb=>decide (b.1.2∉s.mU)
noncomputable def nO(hs:List (List Nat))(ds:List aN.a5)(s:dF):dF:={s with pr:=s.pr+1,sss:=eU hs ds (fN ds s) s.sss,gU:=s.gU++fN ds s}
structure hV(hs:List (List Nat))(ds:List aN.a5)(k:Nat)(s:dF):Prop where
 len:s.sss.length=s.ao.length
 xA:s.ao.length≤40
 EK:ds.length≤40
 lets:Io hs s.ao
 tab:iN s.kvs ds.length
 ne:∀ss∈s.sss,ss≠[]
 q5:∀ss∈s.sss,(qh ss).dm∈hs.map S
 b9:∀ss∈s.sss,ss.length≤k+1
 CW:s.gU.length≤50*k
theorem hV.last{hs:List (List Nat)}{ds:List aN.a5}{k:Nat}{s:dF}(O:hV hs ds k s){n:Nat}(h:n<s.ao.length):∃i,s.sss[n]?=some (i++[cP s.sss n])∧(cP s.sss n).dm∈hs.map S:=by have az:s.sss[n]?=some (s.sss.getD n []):=jF (by rw[O.len];exact h);have hm:=dY az;obtain⟨i,eF⟩:=xv (O.ne _ hm);refine⟨i,?_,O.q5 _ hm⟩;rw[az];congr 1
theorem H7{s:dF}{n:Nat}(h:n<s.ao.length):(bS s.ao)[n]?=some (dh (bS s.ao) n):=jF (by unfold bS;rw[a'];exact h)
theorem hV.goal{hs:List (List Nat)}{ds:List aN.a5}{k:Nat}{s:dF}(O:hV hs ds k s){n:Nat}(h:n<s.ao.length):dh (bS s.ao) n∈hs.map S:=by have e:=H7 h;unfold bS at e;rw[cL]at e;obtain⟨d,hd,aE⟩:=ew.mp e;have:=(O.lets d (dY hd)).2;unfold bS;rw[←aE];exact this
theorem U7{s:dF}{n:Nat}:n∈lW s↔n<s.ao.length∧(cP s.sss n).dm≠dh (bS s.ao) n:=by unfold lW;rw[ea,gZ,decide_eq_true_eq]
theorem hV.on{hs:List (List Nat)}{ds:List aN.a5}{k:Nat}{s:dF}(O:hV hs ds k s){n:Nat}(h:n∈lW s):SN (oE s) hs s.kvs (bS s.ao) s.sss (cV s.sss) (du s.kvs (bS s.ao) s.sss) n:=by
 obtain⟨aw,d9⟩:=U7.mp h;obtain⟨i,eF,hm⟩:=O.last aw;rcases O.tab.get (cP s.sss n).dm (dh (bS s.ao) n)with⟨v,w⟩|⟨r,v,w,_⟩
 .exact .inr ⟨by unfold oE;rw[w];rfl,i,_,_,eF,rfl,H7 aw,hm,O.goal aw,d9,v⟩
 .exact .inl ⟨by unfold oE;rw[w];rfl,i,_,_,eF,rfl,H7 aw,hm,O.goal aw,d9,by unfold du;rw[w];exact v⟩
theorem hV.rd{hs:List (List Nat)}{ds:List aN.a5}{k:Nat}{s:dF}(O:hV hs ds k s){n:Nat}(h:n∈(lW s).filter (oE s)):du s.kvs (bS s.ao) s.sss n<ds.length:=by
 obtain⟨_,aj⟩:=ea.mp h;unfold oE at aj;rcases O.tab.get (cP s.sss n).dm (dh (bS s.ao) n)with⟨v,w⟩|⟨r,v,w,au⟩
 .rw[w]at aj;cases aj
 .unfold du;rw[w];exact au
theorem adX{α:Type}{F:Addr→α→Prop}{wi:TI}{cs:List (Option Nat)}{tt:TT}{σ rest:ag.St}{H H1:aa}{Q:a6}{J:ff}{as:List Addr}{Bs:List α}(hw:∀R:ff→aa→Prop,R J H1→wi σ H R)(fl:gQ cs σ=none::rest)(dc:ml J H1 (aK as))(aq:as.length<sizeLine)(pr:bH F as Bs)(q:α→Bool)(test:∀(i:Nat)(a:Addr)(b:α)(ak:aa)(R:Bool→aa→Prop),as[i]?=some a→Bs[i]?=some b→aH H1 ak→R (q b) ak→tt (some (.ref a)::rest) ak R)(fin:∀(D:Addr)(U:aa)(h7:List Addr),H1 D=none→U D=some (.lst (aK h7))→bH F h7 (Bs.filter q)→aH H1 U→Q (.ref D) U):lC wi cs (g4 0) tt (Kc 0) σ H Q:=by
 have aoe:=hO pr;have ij:=eb as;refine hw _ λD bO=>?_;refine⟨λi m ys aY U=>m=as.length-i∧i≤as.length∧(∃h7,ys=aK h7∧h7.length≤i∧bH F h7 ((Bs.take i).filter q))∧(∃o,aY=o::rest)∧aH H1 U∧U D=some (.lst ys),⟨as.length,by simp,eD _,⟨[],rfl,bY _,.nil⟩,⟨none,by rw[fl]⟩,λb o e=>?_,aQ⟩,?_⟩
 .rw[aD (b2 e bO)];exact e
 .rintro i m ys aY U ⟨rfl,ar,⟨h7,rfl,p6,eI⟩,⟨o,rfl⟩,aA,eH⟩;obtain⟨gV,ha,gW⟩:=dc U aA;refine⟨eH,by rw[eb];omega,?_⟩;by_cases bP:i<as.length
  .refine .inr ⟨ha i (by omega),λx ak y=>?_⟩;obtain⟨rfl,ex⟩:=gW i x ak (by omega) y;unfold aK at ex;rw[cL]at ex;obtain⟨a,bc,rfl⟩:=ew.mp ex;obtain⟨b,d8,af⟩:=bH.get pr bc;have aP:Bs.take (i+1)=Bs.take i++[b]:=by rw[mf,d8];rfl
   show tt (some (.ref a)::rest) ak _;refine test i a b ak _ bc d8 aA ?_;cases bb:q b with
   |true=>
    refine gp ⟨_,rfl,eH,as.length-(i+1),by omega,rfl,bP,⟨h7++[a],qX h7 a,by rw[fT];show h7.length+1≤i+1;omega,?_⟩,⟨_,rfl⟩,λc ob e=>?_,aQ⟩
    .rw[aP,m9,pd,a8 bb,Jt];exact Paired.snoc af eI
    .rw[aD (b2 e bO)];exact aA _ _ e
   |false=>
    refine gF ⟨as.length-(i+1),by omega,rfl,bP,⟨h7,rfl,by omega,?_⟩,⟨_,rfl⟩,aA,eH⟩;rw[aP,m9,pd,aX (by rw[bb];decide),Jt,kn];exact eI
  .have e:i=as.length:=by omega
   subst e;rw[aoe,mh]at eI;rw[ij]at gV;exact .inl ⟨gV,fin D U h7 bO eH eI aA⟩
theorem U8(l:List Nat)(r:Nat):(!(cU (kI l) (eS (r:Int):bx)).isSome)=decide (r∉l):=by
 induction l with
 |nil=>rfl
 |cons a l a7=>
  show(!(cU ((eS (a:Int),V.aV true)::kI l) (eS (r:Int):bx)).isSome)=_;by_cases h:a=r
  .subst h;rw[lS rfl];simp
  .rw[kY (λz=>h (by have:=z' z;omega)),a7];simp[b' h]
theorem adY{hs:List (List Nat)}{ds:List aN.a5}{k:Nat}{s:dF}(O:hV hs ds k s){bs:List (dq×List Nat)}(h:bs.Sublist (fN ds s))(i:Nat):(bs.filter λb=>decide (i∈b.2)).length≤1:=by have ai:(bs.filter λb=>decide (i∈b.2)).Sublist ((jl ds (cV s.sss) (du s.kvs (bS s.ao) s.sss) s.pr ((lW s).filter (oE s))).filter λb=>decide (i∈b.2)):=(h.trans List.filter_sublist).filter _;have aj:=ai.length_le;rw[SP (λn aw=>O.rd aw) i]at aj;refine el aj ?_;split<;>simp
theorem T5{hs:List (List Nat)}{ds:List aN.a5}{k:Nat}{s:dF}(O:hV hs ds k s){bs:List (dq×List Nat)}(h:bs.Sublist (fN ds s)):∀ss∈eU hs ds bs s.sss,ss.length≤k+2:=λss fa=>by obtain⟨i,ar⟩:=abh.mp fa;rw[uW]at ar;obtain⟨s0,e0,rfl⟩:=ew.mp ar;have:=O.b9 s0 (dY e0);have:=adY O h i;rw[fT,a'];omega
inductive adZ(K:aS)(aL C bf aC:Addr)(vs:(List ag.V))(H:aa)(Q:a6)(bl:b6):Prop where
 |mk (bQ:aa) (x:Addr) (A:ej) (hs:List (List Nat)) (ds:List aN.a5) (s:dF) (k:Nat) (bW:vs=[.ref x]) (bG:gn aL C bf aC bQ H x A hs ds s) (b4:Good hs) (cM:hV hs ds k s) (d3:k≤98) (fK:∀U n5 aV i9,sa (A.da x) (n5.da x) H U→gn aL C bf aC bQ U x n5 hs ds (nO hs ds s)→H aV=none→aV∉n5.da x→U aV=some (.lst (aK i9))→bH (gO U) i9 (fN ds s)→Q (.ref aV) U)
noncomputable def IZ(K:aS)(aL C bf aC:Addr):b8:=λvs H Q bl=>adZ K aL C bf aC vs H Q bl
section
variable{P:bL}{w:bC}{K:aS}{mg:Str→Option Value}{base:Heap}
noncomputable abbrev yN:Stmt:=fz (top 57) 7
theorem Dm:cT ["self","going","ready","bags","bag"] ["self"] (cy yN):=⟨rfl,rfl,rfl,by decide+kernel,rfl,by decide+kernel,by decide+kernel⟩
theorem ad0{aL C bf aC f f1 f2 cc:Addr}{fd cg c_ e5:b5}(F:a_ K "pass_turn" "Day.pass_turn" yN f fd)(B:fo mg)(cb:o1 K aL)(fh:d_ K C)(kr:cR K C "home_turn" "Walk.home_turn" tg ["self","number"] f1 cg)(uf:aB P w K mg base aM 2 f1 cg ["self","number"] (xT C))(pJ:c1 K mg "bags_at" x1 ["net","walk","going","ways","turn"] f2 c_)(RE:aB P w K mg base aM 5 f2 c_ ["net","walk","going","ways","turn"] (yS K C bf aC))(nh:cR K C "send" "Walk.send" ww ["self","bag"] cc e5)(BF:aB P w K mg base aM 2 cc e5 ["self","bag"] (Du C aC)):aB P w K mg base aM 6 f fd ["self"] (IZ K aL C bf aC):=by
 refine F.ok Dm (λvs H Q E h=>?_) (λcdv A outer s H vs Q E au h=>?_)
 .obtain⟨bQ,x,A,hs,ds,s,k,rfl,_⟩:=h;rfl
 .obtain⟨bQ,x,A,hs,ds,s,k,rfl,D,G,O,as1,q⟩:=h;refine⟨_,(a9 (oB (i:=1) Dm.aF rfl rfl rfl (N':=["number","self"]) (cs:=[none,some 0]) rfl (BQ rfl B.range (av (d7 h6 (by rfl) B.len hR (av (dT (ae 0) (by rfl)) aJ)) aJ)) rfl (by decide+kernel) rfl (by decide+kernel) (iz (i4.mpr ⟨rfl,(λp aW=>bt aW (dN))⟩)) rfl
    (.own (.h_ rfl (.inl rfl) (.inl rfl) rfl .nil))
    (λC s3 bp bZ ef=>⟨(d2 (i:=0) (by show(["number","self"]:List Str).Nodup;decide+kernel) rfl (.inl rfl)),(u1 (f3 C3 (e3 (Uy (K:=K) rfl (ae 1) (by rfl)) fh kr.dQ uf (au.mono (by decide)) kr.bd .nil cn (av (ae 0) aJ)) k9 (eh _))),(ae 0)⟩))
   (a9 (c9 (i:=2) Dm.aF rfl (cu rfl) (ed RE (au.mono (by decide)) (by rfl) pJ.at_ pJ.fn.b0 pJ.bd .nil cn (av (dT (ae 0) (by rfl)) (av (dT (ae 0) (by rfl)) (av (ae 1) (av (dT (ae 0) (by rfl)) (av (dT (ae 0) (by rfl)) aJ)))))))
   (a9 (oB (i:=3) Dm.aF rfl rfl rfl (N':=["bag","self"]) (cs:=[none,some 0]) rfl (hP (ae 2)) rfl (by decide+kernel) rfl (by decide+kernel) (iz (i4.mpr ⟨rfl,(λp aW=>bt aW (dN))⟩)) rfl
    (.own (.h_ rfl (.inl rfl) (.inl rfl) rfl .nil))
    (λC s3 bp bZ ef=>⟨(d2 (i:=0) (by show(["bag","self"]:List Str).Nodup;decide+kernel) rfl (.inl rfl)),(u1 (Vf (Q0 (jo au) (b_ (q_ (K:=K) rfl) (ae 0) ba (λ_ _=>rfl)) (Uy (K:=K) rfl (ae 1) (by rfl))))),(ae 0)⟩))
   (a9 (jf iL rfl (hP (ae 3)) (d2 (i:=4) Dm.aF rfl (cu rfl))
    (bu (gm (e3 (dT (ae 0) (by rfl)) fh nh.dQ BF (au.mono (by decide)) nh.bd .nil cn (av (ae 4) aJ)))))
   (a9 (gm (qc qK PySem.F.slot_list_extend PySem.F.type_list_extend aac (dT (ae 0) (by rfl)) (av (ae 3) aJ)))
   (a9 (iA (ae 0) (cS hS (dT (ae 0) (by rfl)) ba) rfl)
   (bu (cO (ae 3))))))))),?_⟩
  have Zt:A.hu.length=s.ao.length:=by have:=hO D.pt;rw[a']at this;exact this
  have xA:=O.xA;dsimp only[kd,rR];refine VO (J:=n' 0 s.ao.length) (H1:=H) (xs:=(dt s.ao.length).map λi:Nat=>V.int (0+i)) (rest:=[some (.ref x)]) (λR h=>⟨_,rfl,x,aL,_,_,_,rfl,D.ins,cb.cl,cb.no,rfl,A.pl,_,rfl,.inl (aO.of D.po),_,rfl,?_,?_,?_⟩) rfl (R_ 0 s.ao.length) (eZ (by simp;omega)) (λn=>decide ((cP s.sss n).dm≠dh (bS s.ao) n)) (λn=>.int (n:Int)) (λn v ak R ev aA k=>?_) (λn v ak R ev _ aA k=>?_) (λm6 H1 nM bO s1=>?_)
  .rw[eb];omega
  .rw[eb];omega
  .rw[eb,Zt,m8];exact h
  .have aw:n<s.ao.length∧v=.int (n:Int):=by rw[cL]at ev;obtain⟨i,eF,rfl⟩:=ew.mp ev;obtain⟨ai,aj⟩:=eR.mp eF;rw[D8]at aj;subst aj;rw[hK]at ai;exact⟨ai,by rw[o']⟩
   obtain⟨aw,rfl⟩:=aw;obtain⟨i,eF,_⟩:=O.last aw;have gY:=D.same aA;refine⟨_,rfl,x,aL,_,_,_,rfl,gY.ins,cb.cl,cb.nw,rfl,A.dc,A.kX,_,rfl,gY.wi,rfl,_,rfl,A.dc,A.n,A.g,A.br,_,_,_,n,i,_,_,rfl,gY.walk,eF,H7 aw,rfl,_,rfl,?_⟩;have:=k ak (aH.refl _);unfold mD;by_cases z:(cP s.sss n).dm=dh (bS s.ao) n
   .rw[a8 z];rw[dP (λw=>w z)]at this;exact this
   .rw[aX z];rw[cB z]at this;exact this
  .obtain rfl:v=.int (n:Int):=by rw[cL]at ev;obtain⟨i,eF,rfl⟩:=ew.mp ev;obtain⟨ai,aj⟩:=eR.mp eF;rw[D8]at aj;subst aj;rw[o']
   exact⟨_,rfl,k ak (aH.refl _)⟩
  have xD:((dt s.ao.length).map λi:Nat=>V.int (0+i)).length=s.ao.length:=by simp
  rw[xD]at bO;have FH:H1 m6=some (.lst (e4 (lW s))):=bO;have Da:=D.same s1;have gl:(lW s).length≤40:=by unfold lW;refine el (lK _ _) ?_;rw[hK];exact xA
  have X_:(lW s).Nodup:=D_.filter _;refine⟨_,rfl,x,aL,_,_,_,rfl,Da.ins,cb.cl,cb.nn,rfl,_,rfl,x,aL,_,_,_,rfl,Da.ins,cb.cl,cb.nw,rfl,_,rfl,_,rfl,x,aL,_,_,_,rfl,Da.ins,cb.cl,cb.mM,rfl,_,rfl,x,aL,_,_,_,rfl,Da.ins,cb.cl,cb.np,rfl,A.dc,A.n,A.g,A.br,m6,A.y,A.t,A.aZ,A.a3,_,A.ls,A.rs,s.sss,hs,ds,s.kvs,lW s,oE s,_,cV s.sss,du s.kvs (bS s.ao) s.sss,s.pr,rfl,rfl,Da.walk,aO.of FH,Da.aqW,Da.tj.same Da.cF,G,by omega,X_,λn aw=>O.on aw,λn aw=>O.rd aw,λaV ak as eK s8 s2 pR h8 up mem=>?_⟩;obtain rfl:=Uc (λn aw=>O.rd aw) up mem;obtain⟨Bs,qT⟩:∃Bs,Bs=jl ds (cV s.sss) (du s.kvs (bS s.ao) s.sss) s.pr ((lW s).filter (oE s)):=⟨_,rfl⟩
  have h8:bH (gO ak) as Bs:=by rw[qT];exact h8
  have Db:=Da.same s2;have aoc:Bs.length≤40:=by rw[qT];unfold jl iy;rw[a'];refine el (lK _ _) ?_;rw[hK];exact O.EK
  have Zn:=hO h8;refine yR ?_;dsimp only;refine H3 ?_;refine adX (F:=gO ak) (J:=i3 K aV) (H1:=ak) (as:=as) (Bs:=Bs) (rest:=[some (.ref x)]) (λR h=>⟨_,rfl,aV,rfl,⟨_,aO.of pR⟩,h⟩) rfl (nj (aO.of pR)) (eZ (by omega)) h8 (λb=>decide (b.1.2∉s.mU)) (λi a b bp R bc d8 aA cC=>?_) (λfS bp h7 mJ MM t_ s3=>?_)
  .obtain⟨gk,Xz,c,g6,hA⟩:=bH.get h8 bc;rw[d8]at Xz;cases Xz;have fS:=Db.same aA;refine⟨_,rfl,a,_,_,_,rfl,rfl,b1.of (aA _ _ g6),rfl,_,rfl,x,aL,_,_,_,rfl,fS.ins,cb.cl,cb.s_,rfl,A.cX,_,rfl,ig.k (k:=eS (b.1.2:Int)) fS.cX,_,rfl,?_⟩;rw[U8];exact cC
  have Xv:Bs.filter (λb=>decide (b.1.2∉s.mU))=fN ds s:=by rw[qT];rfl
  rw[Xv]at t_;have fM:=Db.same s3;have as4:(fN ds s).length≤40:=by rw[←Xv];exact el (lK _ _) aoc
  have aod:=hO t_;have t_:=bH.f_ t_ λa b h=>h.same s3;have bin:∀b∈fN ds s,b.1.2<ds.length∧b.2.Nodup∧∀i∈b.2,i<s.sss.length:=λb af=>by
   unfold fN jl at af;obtain⟨r,au,mR⟩:=cw.mp (ea.mp af).1;subst mR;refine⟨?_,I8 (X_.filter _) r,λi ar=>?_⟩
   .unfold iy at au;exact gZ.mp (ea.mp au).1
   .have:=(U7.mp (ea.mp (oF ar).1).1).1;rw[O.len];exact this
  have aF:=D.aF;unfold ej.da at aF;simp only[hL,dx,not_or]at aF;obtain⟨⟨fe,iH,n2,n3,yf,Dv,vC,Dw,yg⟩,⟨fb,e8,lr,gS,G8,Cj,Z9,xN⟩,⟨o3,é,ê,Sz,vD,vE,SA⟩,⟨Ν,et,t3,Rn,Ro,vl⟩,⟨bT,c6,g8,rq,Cp⟩,⟨gV,ha,gW,Di⟩,⟨g1,g2,g3⟩,⟨HE,rB⟩,az,p9⟩:=aF;have al9:∀l∈A.ls,bQ l=none:=λl aq=>D.fr l (by unfold ej.da;simp[aq]);have Pf:∀{Jf:aa}{iq:List (List Step)},bH (fE Jf) A.ls iq→∀l∈A.ls,∃ts,Jf l=some (.lst ts):=λ{Jf iq}ip l aq=>by obtain⟨i,ar,eF⟩:=pe aq;obtain⟨_,_,ts,e,_⟩:=bH.get ip (eR.mpr ⟨ar,eF⟩);exact⟨_,e⟩
  have Pu:fS∉A.ls:=λz=>by obtain⟨ts,e⟩:=Pf Db.n0 _ z;rw[mJ]at e;cases e
  refine⟨_,rfl,fS,rfl,⟨_,aO.of MM⟩,?_⟩;refine oA (K:=K) (a:=fS) (xs:=aK h7) (λj σ dX=>∃v4,σ=[some (.ref x),some (.ref m6),some (.ref aV),some (.ref fS),v4]∧aH (mask bp A.ls) dX∧bH (fE dX) A.ls (eU hs ds ((fN ds s).take j) s.sss))
   ⟨none,rfl,xq _ _,fM.n0⟩ (λj σ dX _⟨_,_,h,_⟩=>aO.of (h _ _ (gD MM Pu))) ?_ ?_
  .rintro j z σ dX di ⟨v4,rfl,gd,ec⟩;unfold aK at di;rw[cL]at di;obtain⟨fi,uq,rfl⟩:=ew.mp di;obtain⟨b,d8,c,g6,hA⟩:=bH.get t_ uq;obtain⟨gC,gk,sm⟩:=bin b (dY d8);have ee:∀{c:Addr}{v:List ag.V},bp c=some (.tup v)→c∉A.ls:=λ{c v}e z=>by obtain⟨ts,aE⟩:=Pf fM.n0 _ z;rw[e]at aE;cases aE
   have aP:(fN ds s).take (j+1)=(fN ds s).take j++[b]:=by rw[mf,d8];rfl
   have nA:=gd _ _ (gD fM.ins yg);have anU:=gd _ _ (gD fM.wi Di);have Γ:aH bQ (mask bp A.ls):=λb o e=>gD (fM.cF _ _ e) λz=>by rw[al9 b z]at e;cases e
   refine⟨_,rfl,x,aL,_,_,_,rfl,nA,cb.cl,cb.nw,rfl,A.dc,A.kX,_,rfl,anU,rfl,_,rfl,mask bp A.ls,A.dc,A.n,A.g,A.br,A.aZ,A.a3,fi,bS s.ao,A.ls,A.rs,_,hs,ds,b,rfl,gd,⟨⟨_,gD fM.wi Di⟩,gD fM.n1 g3,gD fM.ws rB⟩,ec,p9,(λl aq=>CB aq),D.gy.same Γ,D.tj.same Γ,⟨c,gD g6 (ee g6),gD hA (ee hA)⟩,gC,gk,?_,?_,λU s' bR=>⟨_,rfl,s',?_⟩⟩
   .intro i ar;rw[uV];exact sm i ar
   .intro ss fa;have:=T5 O (JD j (fN ds s)) ss fa;omega
   .rw[aP,ú];exact bR
  .rintro σ dX ⟨v4,rfl,gd,ec⟩;rw[eb,aod,mh]at ec;have nA:=gd _ _ (gD fM.ins yg);have pY:=gd _ _ (gD fM.cK az);have Yk:=gd _ _ (gD MM Pu);have atc:=hO D.sp;have CW:=O.CW;refine⟨_,rfl,x,aL,_,_,_,rfl,nA,cb.cl,cb.ns,rfl,.inl ⟨rfl,_,aO.of pY⟩,_,rfl,A.cK,fS,_,_,rfl,rfl,pY,Yk,?_,?_⟩
   .rw[eb,eb];exact el (show _≤10000 by omega) (by decide)
   rw[show aK A.i9++aK h7=aK (A.i9++h7) by unfold aK;rw[eC]];have k1:∀b o,b≠A.cK→dX b=some o→upd dX A.cK (.lst (aK (A.i9++h7))) b=some o:=λb o nb e=>(aD nb).trans e;have Am:upd dX A.cK (.lst (aK (A.i9++h7))) A.cK=some (.lst (aK (A.i9++h7))):=aQ;dsimp only;generalize upd dX A.cK (.lst (aK (A.i9++h7)))=mc at k1 Am⊢;have Zb:=k1 _ _ Dw nA;refine⟨_,rfl,x,aL,_,_,_,rfl,Zb,cb.cl,cb.np,rfl,_,_,rfl,rfl,_,rfl,x,aL,A.ah,_,rfl,Zb,cb.cl,cb.np,(by show 7<1000;decide),_,rfl,?_⟩;have rf:∀b o,b∉[x,A.cK]→dX b=some o→upd mc x (.ins aL A.ah (rC A.n A.pl A.y A.cX A.dc A.cK (s.pr+1))) b=some o:=λb o nb e=>by simp only[dx,dN,or_false,not_or]at nb;exact(aD nb.1).trans (k1 _ _ nb.2 e)
   have p3:∀{b o},b≠x→b≠A.cK→b∉A.ls→bp b=some o→upd mc x (.ins aL A.ah (rC A.n A.pl A.y A.cX A.dc A.cK (s.pr+1))) b=some o:=λ{b o}cI c3 lq e=>rf b o (by simp[cI,c3]) (gd _ _ (gD e lq));have ee:∀{c:Addr}{v:List ag.V},bp c=some (.tup v)→c∉A.ls:=λ{c v}e z=>by obtain⟨ts,aE⟩:=Pf fM.n0 _ z;rw[e]at aE;cases aE
   have kt:∀b v,bp b=some (.tup v)→upd mc x (.ins aL A.ah (rC A.n A.pl A.y A.cX A.dc A.cK (s.pr+1))) b=some (.tup v):=λb v e=>p3 (ag.gb e fM.ins (by intro z;cases z)) (ag.gb e fM.cK (by intro z;cases z)) (ee e) e;have ry:=s1.trans (s2.trans s3);have apK:=s1.trans s2;have aou:H fS=none:=by
    cases e:H fS with
    |none=>rfl
    |some o=>rw[apK _ _ e]at mJ;cases mJ
   obtain⟨ky,N2⟩:=fM.tG;have old:∀{b o},bp b=some o→ak b=some o→b≠fS:=λ{b o}_ e z=>by rw[z,mJ]at e;cases e
   obtain⟨asw,anV⟩:=Db.tG;have PD:fS∉A.da x:=λz=>by
    unfold ej.da at z;simp only[dx]at z;rcases z with h|h|h|h|h|h|h|h|h|h
    .exact b2 Db.ins mJ h.symm
    .exact b2 Db.po mJ h.symm
    .exact b2 anV mJ h.symm
    .exact b2 Db.rJ mJ h.symm
    .exact b2 Db.cX mJ h.symm
    .exact b2 Db.wi mJ h.symm
    .exact b2 Db.n1 mJ h.symm
    .exact b2 Db.ws mJ h.symm
    .exact b2 Db.cK mJ h.symm
    .exact Pu h
   have aow:fS≠x:=λz=>PD (by unfold ej.da;simp[z]);have aov:fS≠A.cK:=λz=>PD (by unfold ej.da;simp[z]);have apl:∀{l oJ:List Addr}{m cp:List (dq×List Nat)}{F:Addr→dq×List Nat→Prop},bH F l m→bH F oJ cp→bH F (l++oJ) (m++cp):=λ{l oJ m cp F}p hY=>by
    induction p with
    |nil=>exact hY
    |cons r t a7=>exact .cons r a7
   refine q _ {A with i9:=A.i9++h7} fS h7 ⟨λb o nb e=>?_,λb af=>.inl af⟩ ⟨λb o e=>?_,D.gy,D.tj,aQ,p3 (b' fe) Z9 xN fM.po,bH.f_ fM.pt λ_ _ e=>kt _ _ e,⟨ky,p3 (b' iH) vE SA N2⟩,p3 (b' n2) Ro vl fM.rJ,p3 (b' n3) rq Cp fM.cX,p3 (b' yf) gW Di fM.wi,p3 (b' Dv) g2 g3 fM.n1,p3 (b' vC) HE rB fM.ws,RF rf ?_ ec ?_,(aD (b' Dw)).trans Am,apl (bH.f_ fM.sp λ_ _⟨c,ai,aj⟩=>⟨c,kt _ _ ai,kt _ _ aj⟩) (bH.f_ t_ λ_ _⟨c,ai,aj⟩=>⟨c,kt _ _ ai,kt _ _ aj⟩),D.aF,D.fr⟩ aou PD (rf _ _ (by simp[aow,aov]) Yk) (bH.f_ t_ λ_ _⟨c,ai,aj⟩=>⟨c,kt _ _ ai,kt _ _ aj⟩)
   .unfold ej.da at nb;simp only[dx,not_or]at nb;exact p3 nb.1 nb.2.2.2.2.2.2.2.2.1 nb.2.2.2.2.2.2.2.2.2 (ry _ _ e)
   .have f0:∀c∈A.da x,b≠c:=λc aG z=>by rw[z,D.fr c aG]at e;cases e
    exact p3 (f0 x (by unfold ej.da;simp)) (f0 A.cK (by unfold ej.da;simp)) (λz=>f0 b (by unfold ej.da;simp[z]) rfl) (fM.cF _ _ e)
   .intro b af v e;simp only[dx,dN,or_false]at af;rcases af with rfl|rfl
    .rw[nA]at e;cases e
    .rw[pY]at e;cases e
   .intro l aq z;simp only[dx,dN,or_false]at z;rcases z with rfl|rfl
    .exact yg aq
    .exact az aq
end
open PySem ag cq aN
theorem ž(ss:List Step):∀l:List Step,l=[]∧qh (ss++l)=qh ss∨∃st∈l,qh (ss++l)=st:=λl=>by
 rcases Jq l with rfl|⟨i,st,rfl⟩
 .exact .inl ⟨rfl,by rw[kn]⟩
 .refine .inr ⟨st,by simp,?_⟩;rw[Jn,←r8];exact Í _ _
theorem ack{hs:List (List Nat)}{ds:List aN.a5}(R:∀d∈ds,d.Ok hs.length){r:Nat}(h:r<ds.length):mW hs ds r∈hs.map S:=by
 unfold mW;have e:ds.getD r lx∈ds:=by rw[cH,ct h];exact jA h
 have af:=(R _ e).b;refine cw.mpr ⟨hs.getD (ds.getD r lx).b [],?_,rfl⟩;rw[cH,ct af];exact jA af
theorem hV.pass{hs:List (List Nat)}{ds:List aN.a5}{k:Nat}{s:dF}(R:∀d∈ds,d.Ok hs.length)(O:hV hs ds k s):hV hs ds (k+1) (nO hs ds s):=by
 have f7:∀ss∈eU hs ds (fN ds s) s.sss,∃s0∈s.sss,∃bs:List (dq×List Nat),(∀b∈bs,b∈fN ds s)∧ss=s0++bs.map λb=>stepK hs ds b.1:=λss fa=>by obtain⟨i,ar⟩:=abh.mp fa;rw[uW]at ar;obtain⟨s0,e0,rfl⟩:=ew.mp ar;exact⟨s0,dY e0,_,λb af=>(ea.mp af).1,rfl⟩
 refine⟨(uV _ _ _ _).trans O.len,O.xA,O.EK,O.lets,O.tab,λss fa=>?_,λss fa=>?_,λss fa=>?_,?_⟩
 .obtain⟨s0,h0,bs,_,rfl⟩:=f7 ss fa;intro z;exact O.ne s0 h0 (aa3.mp z).1
 .obtain⟨s0,h0,bs,af,rfl⟩:=f7 ss fa;rcases ž s0 (bs.map λb=>stepK hs ds b.1)with⟨_,e⟩|⟨st,iE,e⟩
  .rw[e];exact O.q5 s0 h0
  .obtain⟨b,dk,rfl⟩:=cw.mp iE;rw[e];have:=af b dk;unfold fN jl at this;obtain⟨r,au,mR⟩:=cw.mp (ea.mp this).1;subst mR;unfold iy at au;exact ack R (gZ.mp (ea.mp au).1)
 .exact T5 O (List.Sublist.refl _) ss fa
 .show(s.gU++fN ds s).length≤_;rw[fT];have ai:=O.CW;have aj:(fN ds s).length≤40:=by unfold fN jl iy;refine el (lK _ _) ?_;rw[a'];refine el (lK _ _) ?_;rw[hK];exact O.EK
  omega
theorem hV.post{hs:List (List Nat)}{ds:List aN.a5}{k:Nat}{s:dF}(O:hV hs ds k s){h g:Str}(d9:h∈hs.map S)(bz:g∈hs.map S)(l:s.ao.length+1≤40):hV hs ds k (yl s h g):=by
 have mem:∀ss∈s.sss++[e1 (h,s.pr,g)],ss∈s.sss∨ss=e1 (h,s.pr,g):=λss q6=>by
  rcases hv.mp q6 with z|z
  .exact .inl z
  .exact .inr (gK.mp z)
 refine⟨?_,?_,O.EK,λd hd=>?_,O.tab,λss fa=>?_,λss fa=>?_,λss fa=>?_,O.CW⟩
 .show(s.sss++[_]).length=(s.ao++[_]).length;rw[fT,fT,O.len];rfl
 .show(s.ao++[_]).length≤40;rw[fT];exact l
 .rcases hv.mp hd with z|z
  .exact O.lets d z
  .rw[gK.mp z];exact⟨d9,bz⟩
 .rcases mem ss fa with z|rfl
  .exact O.ne ss z
  .unfold e1;simp
 .rcases mem ss fa with z|rfl
  .exact O.q5 ss z
  .exact d9
 .rcases mem ss fa with z|rfl
  .exact O.b9 ss z
  .show 1≤k+1;omega
theorem aeD{hs:List (List Nat)}{h g:Str}{t:Int}:iO (bO hs) (ik (h,t,g))=true↔h∈hs.map S∧g∈hs.map S∧h≠g∧0≤t∧t≤1000000000:=by
 show(jE (bO hs) (.str h) (.str g)&&Cy 0 1000000000 (.int t))=true↔_;rw[hG];have w:Cy 0 1000000000 (.int t)=(decide (0≤t)&&decide (t≤1000000000)):=rfl;rw[w,hG,decide_eq_true_eq,decide_eq_true_eq];constructor
 .rintro⟨u,t0,t1⟩;unfold jE at u;rw[hG,hG]at u;refine⟨?_,?_,?_,t0,t1⟩
  .by_cases z:h∈hs.map S
   .exact z
   .rw[Ij z]at u;cases u.1.1
  .by_cases z:g∈hs.map S
   .exact z
   .rw[Ij z]at u;cases u.1.2
  .rintro rfl;have:=u.2;simp[hx]at this
 .rintro⟨a,b,c,t0,t1⟩;exact⟨H2 a b c,t0,t1⟩
structure p5(hs:List (List Nat))(s:dF):Prop where
 is:∀d∈s.ao,iO (bO hs) (ik d)=true
 lo:∀d∈s.ao,∀eN,s.ao.head?=some eN→eN.2.1≤d.2.1
 ar:∀d∈s.ao,d.2.1≤s.pr
theorem acm{hs:List (List Nat)}{s:dF}(jT:p5 hs s){h g:Str}(b:iO (bO hs) (ik (h,s.pr,g))=true):lV (bO hs) ((s.ao++[(h,s.pr,g)]).map ik)=none:=by
 refine Gg.mp λd hd=>?_;obtain⟨e,he,rfl⟩:=cw.mp hd;rcases hv.mp he with z|z
 .exact jT.is e z
 .rw[gK.mp z];exact b
theorem Į{hs:List (List Nat)}{s:dF}(jT:p5 hs s)(h g:Str):ya (((s.ao++[(h,s.pr,g)]).map ik).map mH)=s.pr-((s.ao.head?.map λd=>d.2.1).getD s.pr):=by
 have e:((s.ao++[(h,s.pr,g)]).map ik).map mH=(s.ao++[(h,s.pr,g)]).map λd=>d.2.1:=by rw[gJ];rfl
 rw[e];have ne:(s.ao++[(h,s.pr,g)]).map (λd=>d.2.1)≠[]:=by simp
 unfold ya;rw[aX ne];obtain⟨jr,nJ⟩:=af7 ne;obtain⟨cI,c3⟩:=Iv ne;have p8:tx ((s.ao++[(h,s.pr,g)]).map λd=>d.2.1)=s.pr:=by
  have a1:=nJ s.pr (cw.mpr ⟨(h,s.pr,g),by simp,rfl⟩);obtain⟨d,hd,az⟩:=cw.mp jr;rcases hv.mp hd with z|z
  .have:=jT.ar d z;omega
  .rw[gK.mp z]at az;exact az.symm
 rw[p8];cases aq:s.ao with
 |nil=>
  rw[aq]at cI;obtain⟨d,hd,az⟩:=cw.mp cI;have:d=(h,s.pr,g):=by simpa using hd
  rw[this]at az;simp only[List.head?_nil,Option.map_none,V8];have az:s.pr=lh ((([]:List (Str×Int×Str))++[(h,s.pr,g)]).map λd=>d.2.1):=az;rw[←az]
 |cons eN r=>
  rw[aq]at cI c3;have gC:=c3 eN.2.1 (cw.mpr ⟨eN,by simp,rfl⟩);obtain⟨d,hd,az⟩:=cw.mp cI;have gk:eN.2.1≤d.2.1:=by
   rcases hv.mp hd with z|z
   .exact jT.lo d (by rw[aq];exact z) eN (by rw[aq];rfl)
   .rw[gK.mp z];exact jT.ar eN (by rw[aq];exact .head _)
  simp only[List.head?_cons,Ed,Option.getD_some];omega
theorem p5.pass{hs:List (List Nat)}{ds:List aN.a5}{s:dF}(jT:p5 hs s):p5 hs (nO hs ds s):=⟨jT.is,jT.lo,λd hd=>by have:=jT.ar d hd;show d.2.1≤s.pr+1;omega⟩
theorem p5.post{hs:List (List Nat)}{s:dF}(jT:p5 hs s){h g:Str}(b:iO (bO hs) (ik (h,s.pr,g))=true):p5 hs (yl s h g):=by
 have mem:∀d∈s.ao++[(h,s.pr,g)],d∈s.ao∨d=(h,s.pr,g):=λd hd=>by
  rcases hv.mp hd with z|z
  .exact .inl z
  .exact .inr (gK.mp z)
 refine⟨λd hd=>?_,λd hd eN e0=>?_,λd hd=>?_⟩
 .rcases mem d hd with z|rfl
  .exact jT.is d z
  .exact b
 .have e0:(s.ao++[(h,s.pr,g)]).head?=some eN:=e0;cases aq:s.ao with
  |nil=>
   rw[aq]at e0;cases e0;rcases mem d hd with z|rfl
   .rw[aq]at z;cases z
   .exact o9 _
  |cons c r=>
   rw[aq]at e0;cases e0;rcases mem d hd with z|rfl
   .exact jT.lo d z eN (by rw[aq];rfl)
   .exact jT.ar eN (by rw[aq];exact .head _)
 .rcases mem d hd with z|rfl
  .exact jT.ar d z
  .exact o9 _
theorem acn{hs:List (List Nat)}{s:dF}(jT:p5 hs s){h g:Str}(b:iO (bO hs) (ik (h,s.pr,g))=true)(l:s.ao.length<40){fv:Int}(lo:∀d∈s.ao,fv≤d.2.1)(ar:s.pr-fv≤30):wx (bO hs) ((s.ao++[(h,s.pr,g)]).map ik):=by
 refine⟨acm jT b,by rw[a',fT];exact l,?_⟩;rw[Į jT];cases e:s.ao with
 |nil=>show s.pr-s.pr≤30;omega
 |cons d r=>
  have:=lo d (by rw[e];exact .head _);show s.pr-d.2.1≤30;omega
theorem JQ{hs:List (List Nat)}{ds:List aN.a5}(R:∀d∈ds,d.Ok hs.length):∀e∈jd hs ds,1≤e.t:=λe he=>by obtain⟨d,hd,rfl⟩:=cw.mp he;exact(R d hd).t.1
theorem SS{hs:List (List Nat)}{ds:List aN.a5}(R:∀d∈ds,d.Ok hs.length){h g:Str}{v:Int}(bA:hX hs ds h g=some v)(aw:h≠g):
  ∃(k:Nat)(d:aN.a5)(u:Int),best hs ds h g=(k:Int)∧ds[k]?=some d∧S (hs.getD d.a [])=h∧hX hs ds (S (hs.getD d.b [])) g=some u∧(d.t:Int)+u=v:=by
 obtain⟨m,f⟩:=TO (JQ R) bA aw;obtain⟨i,ar⟩:=me (cw.mpr ⟨_,m,rfl⟩:V.int (best hs ds h g)∈(lD hs ds (·.a) h).map V.int);obtain⟨k,d,az,aE,dj⟩:=T8 ar;have Am:best hs ds h g=(k:Int):=V.int.inj az;rw[Am]at f;unfold rU wW HL at f;rw[m8,sZ aE]at f;cases cj:hX hs ds (S (hs.getD d.b [])) g with
 |none=>rw[cj]at f;cases f
 |some u=>
  rw[cj,bA]at f;have:=ju f;exact⟨k,d,u,Am,aE,dj,cj,hM this⟩
theorem UA{κ:Type}[DecidableEq κ]{kvs:List (κ×ag.V)}{k:κ}{v:ag.V}(h:cU kvs k=some v):k∈kvs.map (·.1):=by obtain⟨j,x,e⟩:=õ (show(cU kvs k).isSome=true by rw[h];rfl);exact cw.mpr ⟨_,dY e,rfl⟩
theorem kv.get{hs:List (List Nat)}{ds:List aN.a5}{kvs:c2}(T:kv hs ds kvs){k:List bx}{v:ag.V}(e:cU kvs k=some v):∃h g,k=gH h g∧h∈hs.map S∧g∈hs.map S∧h≠g∧(hX hs ds h g).isSome=true∧v=.int (best hs ds h g):=by
 obtain⟨h,g,rfl,GD,mg⟩:=T.i'.key k (UA e);by_cases m:h∈hs.map S∧h≠g∧(hX hs ds h g).isSome=true
 .have:=T.i'.yes h g m;rw[e]at this;exact⟨h,g,rfl,GD,mg,m.2.1,m.2.2,hM this⟩
 .rw[T.i'.no h g m]at e;cases e
theorem kv.ok{hs:List (List Nat)}{ds:List aN.a5}{kvs:c2}(T:kv hs ds kvs)(R:∀d∈ds,d.Ok hs.length):iN kvs ds.length:=⟨λk v e=>by
 obtain⟨h,g,rfl,GD,mg,ne,is,rfl⟩:=T.get e;obtain⟨u,cj⟩:=tY.mp is;obtain⟨i,d,_,az,aE,_⟩:=SS R cj ne;exact⟨i,by rw[az],(eR.mp aE).1⟩⟩
noncomputable def Xb(ds:List aN.a5)(aP:List Nat):Int:=(aP.map λk=>((ds.getD k eN).t:Int)).sum
theorem Ï{hs:List (List Nat)}{ds:List aN.a5}{kvs:c2}(T:kv hs ds kvs)(R:∀d∈ds,d.Ok hs.length)(b9:hs.length≤12){g:Str}:∀(n:Nat)(c:Str)(sn:List Str)(aP:List Nat)(u:Int),n+sn.length=14→sn.Nodup→(∀y∈sn,y∈hs.map S)→c∈hs.map S→hX hs ds c g=some u→
  (∀y∈sn,∃w,hX hs ds y g=some w∧u≤w)→∃fJ,oR kvs hs ds g n c sn aP=.ok (aP++fJ)∧Xb ds fJ=u∧(∀k∈fJ,k<ds.length)∧fJ.length≤n
 |0,c,sn,aP,u,aw,aF,sub,GB,cj,hw=>by have:=ox aF sub;rw[a']at this;omega
 |n+1,c,sn,aP,u,aw,aF,sub,GB,cj,hw=>by
  unfold oR;by_cases e:c=g
  .rw[a8 e];have h0:=(dC.Mv (JQ R) g).goal (JQ R);rw[←e]at h0;have ai:hX hs ds c c=some 0:=h0;rw[←e,ai]at cj;exact⟨[],by rw[kn],by cases cj;rfl,λk aT=>(nomatch aT),eD _⟩
  .rw[aX e];obtain⟨k,d,u',az,aE,dj,fV,jc⟩:=SS R cj e;have Bu:=T.i'.yes c g ⟨GB,e,by rw[cj];rfl⟩;have anT:hp kvs c g=some k:=by unfold hp;rw[Bu,az];simp
   have F7:ih hs ds k=S (hs.getD d.b []):=by unfold ih;rw[sZ aE]
   have oS:=R d (dY aE);have t1:1≤(d.t:Int):=oS.t.1;have Y2:ih hs ds k∉sn:=λm=>by obtain⟨w,ai,aj⟩:=hw _ m;rw[F7,fV]at ai;cases ai;omega
   rw[anT];show∃fJ,(if ih hs ds k∈sn then _ else _)=Out.ok (aP++fJ)∧_;rw[aX Y2];have GH:ih hs ds k∈hs.map S:=by rw[F7];exact oI oS.b
   obtain⟨fJ,ai,aj,bk,cv⟩:=Ï T R b9 n (ih hs ds k) (sn++[ih hs ds k]) (aP++[k]) u' (by rw[fT];show n+(sn.length+1)=14;omega) (BA aF Y2)
    (λy cW=>by
     rcases hv.mp cW with z|z
     .exact sub y z
     .rw[gK.mp z];exact GH) GH (by rw[F7];exact fV)
    (λy cW=>by
     rcases hv.mp cW with z|z
     .obtain⟨w,a,b⟩:=hw y z;exact⟨w,a,by omega⟩
     .rw[gK.mp z,F7];exact⟨u',fV,o9 _⟩)
   refine⟨k::fJ,by rw[ai,r8];rfl,?_,?_,by rw[i5];omega⟩
   .show((ds.getD k eN).t:Int)+Xb ds fJ=u;rw[aj,sZ aE];exact jc
   .intro j bq;rcases dx.mp bq with rfl|bq
    .exact(eR.mp aE).1
    .exact bk j bq
section
variable(hs:List (List Nat))(ds:List aN.a5)(kvs:c2)(gs:List Str)
noncomputable def iF:Nat→Int→List Nat→List (List Step)→List (dq×List Nat)
 |0,_,_,_=>[]
 |m+1,T,go,sss=>f5 ds kvs gs T go sss++iF m (T+1) (jg gs go (dy hs ds kvs gs T go sss)) (dy hs ds kvs gs T go sss)
end
section
variable{hs:List (List Nat)}{ds:List aN.a5}{kvs:c2}{gs:List Str}{sss:List (List Step)}{go:List Nat}{rt:Nat→List Nat}{T:Int}
theorem agr(h:∀n∈go,T<cV sss n)(r:Nat):dS (cV sss) (du kvs gs sss) T go r=[]:=by unfold dS;rw[Vy,Js];intro n aw;have:=h n aw;simp;intro ai;omega
theorem He(h:∀n∈go,T<cV sss n):f5 ds kvs gs T go sss=[]:=by unfold f5 jl iy;rw[Vy,Js];intro r _;rw[agr h];simp
theorem Si(h:∀n∈go,T<cV sss n):dy hs ds kvs gs T go sss=sss:=by unfold dy;rw[He h];rfl
theorem aeH(O:jm hs ds kvs gs sss go rt):jg gs go sss=go:=by unfold jg;rw[D4];intro n aw;obtain⟨_,_,_,h,_⟩:=(O.way n aw).way (O.on n aw);exact cB h
theorem SU:∀(m:Nat)(T:Int),iF hs ds kvs gs m T [] sss=[]
 |0,_=>rfl
 |m+1,T=>by have b:f5 ds kvs gs T [] sss=[]:=He (λn aw=>nomatch aw);have e:dy hs ds kvs gs T [] sss=sss:=Si (λn aw=>nomatch aw);unfold iF;rw[b,e];exact SU m (T+1)
theorem asn(a b:Nat):∀(T:Int)(go:List Nat)(sss:List (List Step)),∃go' ap7,iF hs ds kvs gs (a+b) T go sss=iF hs ds kvs gs a T go sss++iF hs ds kvs gs b (T+(a:Int)) go' ap7:=by
 induction a with
 |zero=>intro T go sss;exact⟨go,sss,by rw[JO];show _=[]++iF hs ds kvs gs b (T+0) go sss;rw[JB,Jh]⟩
 |succ a a7=>
  intro T go sss;obtain⟨g',s',e⟩:=a7 (T+1) (jg gs go (dy hs ds kvs gs T go sss)) (dy hs ds kvs gs T go sss);refine⟨g',s',?_⟩;rw[ab7];show f5 ds kvs gs T go sss++iF hs ds kvs gs (a+b) _ _ _=(f5 ds kvs gs T go sss++iF hs ds kvs gs a _ _ _)++_;rw[e,r8,U_,show(1:Int)+(a:Int)=((a+1:Nat):Int) by omega]
theorem Sj(O:jm hs ds kvs gs sss go rt):∀(d m:Nat)(T:Int),(∀n∈go,T+(d:Int)≤cV sss n)→iF hs ds kvs gs (d+m) T go sss=iF hs ds kvs gs m (T+(d:Int)) go sss
 |0,m,T,_=>by rw[JO];show _=iF hs ds kvs gs m (T+0) go sss;rw[Jh]
 |d+1,m,T,h=>by
  have no:∀n∈go,T<cV sss n:=λn aw=>by have:=h n aw;omega
  rw[ab7];show f5 ds kvs gs T go sss++iF hs ds kvs gs (d+m) (T+1) (jg gs go (dy hs ds kvs gs T go sss)) (dy hs ds kvs gs T go sss)=_;rw[He no,Si no,aeH O,JB,Sj O d m (T+1) (λn aw=>by have:=h n aw;omega),U_,show(1:Int)+(d:Int)=((d+1:Nat):Int) by omega]
theorem U9(R:∀d∈ds,d.Ok hs.length)(ez:iN kvs ds.length):∀(f:Nat)(T:Int)(go:List Nat)(sss:List (List Step))(rt:Nat→List Nat),jm hs ds kvs gs sss go rt→e9 rt go≤f→∃M:Nat,∀m,M≤m→iF hs ds kvs gs m (T+1) go sss=l8 hs ds kvs gs f T go sss
 |f,T,[],sss,rt,O,df=>⟨0,λm _=>by
  rw[SU];cases f with
  |zero=>rfl
  |succ f=>unfold l8;rw[a8 rfl]⟩
 |0,T,n::go,sss,rt,O,df=>by have ai:=O.on n (.head _);unfold e9 at df;rw[gv,oa]at df;have:=tU.mpr ai;omega
 |f+1,T,n::go,sss,rt,O,df=>by
  have ne:n::go≠[]:=List.cons_ne_nil _ _;have due:=T4 (T:=T) (sss:=sss) ne;have ls:=O.less R ez due;obtain⟨M,qZ⟩:=U9 R ez f (nextT T (n::go) sss) _ _ _ (O.step (T:=nextT T (n::go) sss) R ez) (by omega);have as7:T+1≤nextT T (n::go) sss:=by unfold nextT;omega
  obtain⟨d,hd⟩:∃d:Nat,nextT T (n::go) sss=T+1+(d:Int):=⟨(nextT T (n::go) sss-(T+1)).toNat,by omega⟩
  refine⟨d+(M+1),λm hm=>?_⟩;obtain⟨cp,rfl⟩:∃cp,m=d+(cp+1):=⟨m-d-1,by omega⟩
  have skip:∀k∈n::go,T+1+(d:Int)≤cV sss k∨d=0:=λk aT=>by
   by_cases z:d=0
   .exact .inr z
   .left;have:=(Iv (ns:=(n::go).map (cV sss)) (by simp)).2 (cV sss k) (cw.mpr ⟨k,aT,rfl⟩);unfold nextT at hd;omega
  have az:iF hs ds kvs gs (d+(cp+1)) (T+1) (n::go) sss=iF hs ds kvs gs (cp+1) (T+1+(d:Int)) (n::go) sss:=by
   by_cases z:d=0
   .subst z;rw[JO];show _=iF hs ds kvs gs (cp+1) (T+1+0) (n::go) sss;rw[Jh]
   .exact Sj O d (cp+1) (T+1) λk aT=>(skip k aT).resolve_right z
  rw[az,←hd];unfold iF l8;rw[aX ne,qZ cp (by omega)]
end
open PySem ag cq aN
theorem į{ds:List aN.a5}{due pF:Nat→Int}{rd ti:Nat→Nat}{T:Int}{go go':List Nat}(h:∀r,dS due rd T go r=dS pF ti T go' r):jl ds due rd T go=jl ds pF ti T go':=by
 have az:iy ds.length due rd T go=iy ds.length pF ti T go':=by unfold iy;refine aa9 λr _=>?_;rw[h r]
 unfold jl;rw[az];refine tV λr _=>?_;unfold hU;rw[h r]
theorem aeI{due pF:Nat→Int}{rd ti:Nat→Nat}{T:Int}{go go':List Nat}{r:Nat}(u:go.Pairwise (· < ·))(u':go'.Pairwise (· < ·))(mem:∀n,(n∈go∧due n≤T∧rd n=r)↔(n∈go'∧pF n≤T∧ti n=r))(eq:∀n∈go',pF n≤T→due n=pF n):dS due rd T go r=dS pF ti T go' r:=by
 have e:(go.filter λn=>decide (due n≤T)&&decide (rd n=r))=go'.filter λn=>decide (pF n≤T)&&decide (ti n=r):=by have fb:(go.filter λn=>decide (due n≤T)&&decide (rd n=r)).Pairwise (· < ·):=u.filter _;have e8:(go'.filter λn=>decide (pF n≤T)&&decide (ti n=r)).Pairwise (· < ·):=u'.filter _;refine SK (R:=(· < ·)) (λa b ai aj=>by omega) ((abk (fb.imp λh=>en h) (e8.imp λh=>en h)).mpr λn=>?_) fb e8;rw[ea,ea];simp only[hG,decide_eq_true_eq];exact mem n
 unfold dS;rw[e];refine tV λn aw=>?_;obtain⟨ai,aj⟩:=ea.mp aw;simp only[hG,decide_eq_true_eq]at aj;rw[eq n ai aj.1]
theorem ë{sss:List (List Step)}{m n:Nat}(h:n<m):cP (sss.take m) n=cP sss n:=by unfold cP;rw[cH,cH,D6,a8 h]
theorem aeJ{ao:List (Str×Int×Str)}{m n:Nat}(h:n<m):dh (bS (ao.take m)) n=dh (bS ao) n:=by unfold dh bS;rw[Jx,cH,cH,D6,a8 h]
structure rO(hs:List (List Nat))(ds:List aN.a5)(kvs:c2)(ao:List (Str×Int×Str))(full:List (List Step))(go:List Nat)(rt:Nat→List Nat)(m:Nat)(s:dF):Prop where
 ok:jm hs ds kvs (bS ao) full go rt
 B1:m≤ao.length
 le:s.ao=ao.take m
 cK:s.sss=full.take m
 oL:∀n,m≤n→n<ao.length→full.getD n []=e1 (ao.getD n dV)∧s.pr≤(ao.getD n dV).2.1
 cX:s.mU=[]
 ck:∀h g,hp s.kvs h g=hp kvs h g
 up:go.Pairwise (· < ·)
 mem:∀n,n<ao.length→(n∈go↔(cP full n).dm≠dh (bS ao) n∧(hp kvs (cP full n).dm (dh (bS ao) n)).isSome=true)
section
variable{hs:List (List Nat)}{ds:List aN.a5}{kvs:c2}{ao:List (Str×Int×Str)}{full:List (List Step)}{go:List Nat}{rt:Nat→List Nat}{m:Nat}{s:dF}
theorem sS(ao:List (Str×Int×Str)):(bS ao).length=ao.length:=a' ..
theorem rO.h8(D:rO hs ds kvs ao full go rt m s)(st:∀n,m≤n→n<ao.length→s.pr<(ao.getD n dV).2.1):fN ds s=f5 ds kvs (bS ao) s.pr go full:=by
 have lm:(ao.take m).length=m:=by rw[jR];have:=D.B1;omega
 unfold fN;rw[D.cX];rw[D4.mpr (λb _=>by simp)];unfold f5;refine į λr=>?_;refine aeI ((zD.filter _).filter _) D.up (λn=>?_) (λn aw hd=>?_)
 .have oL:n∈go→cV full n≤s.pr→n<m:=λai aj=>by
   have ln:n<ao.length:=by have:=D.ok.lt n ai;rw[sS]at this;exact this
   by_cases z:n<m
   .exact z
   .have fQ:=(D.oL n (by omega) ln).1;have fI:=st n (by omega) ln;have e:cV full n=(ao.getD n dV).2.1:=by unfold cV cP;rw[fQ];rfl
    omega
  have same:n<m→(cP s.sss n=cP full n∧dh (bS s.ao) n=dh (bS ao) n):=λh=>by rw[D.cK,D.le];exact⟨ë h,aeJ h⟩
  constructor
  .rintro⟨ai,aj,bk⟩;obtain⟨cv,dW⟩:=ea.mp ai;unfold lW at cv;obtain⟨kB,FG⟩:=ea.mp cv;rw[D.le,lm]at kB;have nm:=gZ.mp kB;obtain⟨az,aE⟩:=same nm;unfold oE at dW;unfold cV at aj;unfold du at bk;rw[az,aE,D.ck]at dW bk;rw[az]at aj;rw[az,aE]at FG;exact⟨(D.mem n (by have:=D.B1;omega)).mpr ⟨ju FG,dW⟩,aj,bk⟩
  .rintro⟨ai,aj,bk⟩;have nm:=oL ai aj;obtain⟨az,aE⟩:=same nm;obtain⟨cv,dW⟩:=(D.mem n (by have:=D.B1;omega)).mp ai;refine⟨ea.mpr ⟨?_,?_⟩,?_,?_⟩
   .unfold lW;refine ea.mpr ⟨by rw[D.le,lm];exact gZ.mpr nm,?_⟩;rw[az,aE];exact cB cv
   .unfold oE;rw[az,aE,D.ck];exact dW
   .unfold cV at aj⊢;rw[az];exact aj
   .unfold du at bk⊢;rw[az,aE,D.ck];exact bk
 .have ln:n<ao.length:=by have:=D.ok.lt n aw;rw[sS]at this;exact this
  have nm:n<m:=by
   by_cases z:n<m
   .exact z
   .have fQ:=(D.oL n (by omega) ln).1;have fI:=st n (by omega) ln;have e:cV full n=(ao.getD n dV).2.1:=by unfold cV cP;rw[fQ];rfl
    omega
  unfold cV;rw[D.cK,ë nm]
theorem aaa(bs:List (dq×List Nat))(sss:List (List Step))(m:Nat):eU hs ds bs (sss.take m)=(eU hs ds bs sss).take m:=by
 refine Jr λi=>?_;rw[uW,D6,D6,uW];split
 .rfl
 .rfl
theorem rO.pass(R:∀d∈ds,d.Ok hs.length)(ez:iN kvs ds.length)(D:rO hs ds kvs ao full go rt m s)(st:∀n,m≤n→n<ao.length→s.pr<(ao.getD n dV).2.1):rO hs ds kvs ao (dy hs ds kvs (bS ao) s.pr go full) (jg (bS ao) go (dy hs ds kvs (bS ao) s.pr go full)) (ly ds kvs (bS ao) s.pr go full rt) m (nO hs ds s):=by
 have bP:=(D.ok.uE ez).2;have er:full.length=ao.length:=by have:=D.ok.len;rw[sS]at this;exact this
 have oe:=D.ok.step (T:=s.pr) R ez;have aoX:∀n,m≤n→n<ao.length→¬j_ ds kvs (bS ao) s.pr go full n=true:=λn ai aj z=>by
  have fQ:=(D.oL n ai aj).1;have fI:=st n ai aj;have e:cV full n=(ao.getD n dV).2.1:=by unfold cV cP;rw[fQ];rfl
  have:=(xW z).2;omega
 refine⟨oe,D.B1,D.le,?_,λn ai aj=>⟨?_,?_⟩,D.cX,D.ck,D.up.filter _,λn aw=>?_⟩
 .show eU hs ds (fN ds s) s.sss=_;rw[D.h8 st,D.cK,aaa];rfl
 .rw[Hd bP (by omega),aX (aoX n ai aj),kn];exact(D.oL n ai aj).1
 .have:=st n ai aj;show s.pr+1≤_;omega
 .by_cases g:n∈go
  .constructor
   .intro h;obtain⟨k,aP,_,aj,bk,_⟩:=(oe.way n h).way (oe.on n h);exact⟨aj,by rw[bk];rfl⟩
   .rintro⟨ai,_⟩;exact ea.mpr ⟨g,cB ai⟩
  .have ns:¬j_ ds kvs (bS ao) s.pr go full n=true:=λz=>g (xW z).1;rw[BY bP (by omega),aX ns];constructor
   .intro h;exact bt (ea.mp h).1 g
   .intro h;exact bt ((D.mem n aw).mpr h) g
theorem rO.post(D:rO hs ds kvs ao full go rt m s){h g:Str}(e:ao[m]?=some (h,s.pr,g)):rO hs ds kvs ao full go rt (m+1) (yl s h g):=by
 obtain⟨lt,f7⟩:=eR.mp e;have er:full.length=ao.length:=by have:=D.ok.len;rw[sS]at this;exact this
 have Fq:full[m]?=some (e1 (h,s.pr,g)):=by have:=(D.oL m (bY _) lt).1;rw[jF (d:=[]) (by omega:m<full.length),this];congr 2;rw[cH,e];rfl
 refine⟨D.ok,lt,?_,?_,λn ai aj=>D.oL n (by omega) aj,D.cX,D.ck,D.up,D.mem⟩
 .show s.ao++[(h,s.pr,g)]=_;rw[D.le,mf,e];rfl
 .show s.sss++[e1 (h,s.pr,g)]=_;rw[D.cK,mf,Fq];rfl
end
open PySem ag cq aN
section
variable{hs:List (List Nat)}{ds:List aN.a5}{kvs:c2}{gs:List Str}{sss:List (List Step)}{go:List Nat}{rt:Nat→List Nat}{T:Int}
theorem aco(h:f5 ds kvs gs T go sss≠[]):∃n∈go,cV sss n≤T:=by
 by_cases z:∃n∈go,cV sss n≤T
 .exact z
 .exact bt (He λn aw=>by
   by_cases y:T<cV sss n
   .exact y
   .exact bt ⟨n,aw,by omega⟩ z) h
theorem acp(bP:∀k∈go,du kvs gs sss k<ds.length){n:Nat}(aw:n∈go)(h:cV sss n≤T):f5 ds kvs gs T go sss≠[]:=λe=>by
 unfold f5 jl iy at e;rw[Vy,Js]at e;have:=e (du kvs gs sss n) (gZ.mpr (bP n aw));have q:(cV sss n,n)∈dS (cV sss) (du kvs gs sss) T go (du kvs gs sss n):=by unfold dS;refine cw.mpr ⟨n,ea.mpr ⟨aw,?_⟩,rfl⟩;rw[cB h,cB rfl];rfl
 cases z:dS (cV sss) (du kvs gs sss) T go (du kvs gs sss n)with
 |nil=>rw[z]at q;cases q
 |cons a b=>rw[z]at this;exact this rfl
theorem acq:(f5 ds kvs gs T go sss).length≤ds.length:=by unfold f5 jl iy;rw[a'];exact el (lK _ _) (by rw[hK];exact bY _)
theorem aeK(O:jm hs ds kvs gs sss go rt):e9 rt go≤20*gs.length:=by
 have all:∀l:List Nat,e9 rt l≤20*l.length:=λl=>by
  induction l with
  |nil=>exact bY _
  |cons n l a7=>
   have:=O.b9 n;unfold e9 at a7⊢;rw[gv,oa,i5];omega
 have ai:=all go;have aj:go.length≤gs.length:=by have:=ox O.aF (λn aw=>gZ.mpr (O.lt n aw):go ⊆ dt gs.length);rw[hK]at this;exact this
 omega
end
theorem Ĵ{hs:List (List Nat)}{ds:List aN.a5}{kvs:c2}(ST:kv hs ds kvs)(R:∀d∈ds,d.Ok hs.length)(b9:hs.length≤12){d:Str×Int×Str}(m:d.1∈hs.map S)(ne:d.1≠d.2.2):rj kvs hs ds d=true↔(hp kvs d.1 d.2.2).isSome=true:=by
 constructor
 .intro h;obtain⟨aP,r,_⟩:=ς R (ST.ok R) b9 m h;have fA:aP≠[]:=λe=>ne (r.nil_eq e);obtain⟨_,_,_,_,w,_⟩:=r.way fA;rw[w];rfl
 .intro h;rcases(ST.ok R).get d.1 d.2.2 with⟨_,w⟩|⟨i,v,w,_⟩
  .rw[w]at h;cases h
  .obtain⟨h',g',f6,GD,mg,_,is,_⟩:=ST.get v;obtain⟨az,aE⟩:=Il f6;rw[←az,←aE]at is;obtain⟨u,cj⟩:=tY.mp is;obtain⟨aP,e,_⟩:=Ï ST R b9 (g:=d.2.2) 13 d.1 [d.1] [] u rfl (hL.mpr ⟨dN,n_⟩) (λy cW=>by rw[gK.mp cW];exact m) m cj (λy cW=>by rw[gK.mp cW];exact⟨u,cj,o9 _⟩);unfold rj;rw[e];rfl
section
variable{hs:List (List Nat)}{ds:List aN.a5}{kvs nH:c2}{ao:List (Str×Int×Str)}{full:List (List Step)}{go:List Nat}{rt:Nat→List Nat}{m idle:Nat}{s:dF}{fv:Int}{P:List (dq×List Nat)}
theorem aab(A:kv hs ds kvs)(B:kv hs ds nH)(h g:Str):hp kvs h g=hp nH h g:=by
 have e:cU kvs (gH h g)=cU nH (gH h g):=by
  by_cases z:h∈hs.map S∧h≠g∧(hX hs ds h g).isSome=true
  .rw[A.i'.yes h g z,B.i'.yes h g z]
  .rw[A.i'.no h g z,B.i'.no h g z]
 unfold hp;rw[e]
structure Kept(hs:List (List Nat))(ds:List aN.a5)(kvs:c2)(ao:List (Str×Int×Str))(fv:Int)(P:List (dq×List Nat))(full:List (List Step))(go:List Nat)(rt:Nat→List Nat)(m idle:Nat)(s:dF):Prop where
 d:rO hs ds kvs ao full go rt m s
 due:∀n,n<ao.length→cV full n≤max (fv+11) (s.pr-idle+8)
 past:1≤idle→∀n∈go,s.pr≤cV full n
 pr:fv+(idle:Int)≤s.pr
 log:∃M:Nat,∀j,M≤j→s.gU++iF hs ds kvs (bS ao) j s.pr go full=P
 gU:s.gU.length+ds.length*e9 rt go≤ds.length*(20*ao.length)
 jO:∀n,n<ao.length→(cP full n).dm≠dh (bS ao) n→hp kvs (cP full n).dm (dh (bS ao) n)=none→full.getD n []=e1 (ao.getD n dV)
 walk:full=eU hs ds s.gU (ao.map e1)
theorem Kept.start(A:kv hs ds kvs)(B:kv hs ds nH)(R:∀d∈ds,d.Ok hs.length)(b9:hs.length≤12)(BP:ao.length≤100)(jj:∀d∈ao,d.1∈hs.map S∧d.2.2∈hs.map S∧d.1≠d.2.2)(f0:0≤fv)(fA:∀d∈ao,fv≤d.2.1∧d.2.1≤fv+11):
  ∃rt,Kept hs ds kvs ao fv (rN hs ds kvs ao) (ao.map e1) (lp hs ds kvs ao) rt 0 0 ⟨fv,[],[],[],nH,[]⟩:=by
 obtain⟨rt,O,df⟩:=RD (kvs:=kvs) R (A.ok R) b9 BP jj;have at_:∀n,n<ao.length→ao.getD n dV∈ao:=λn aw=>by rw[cH,ct aw];exact jA aw
 have fst:∀n,n<ao.length→(ao.map e1).getD n []=e1 (ao.getD n dV):=λn aw=>by rw[cH,cL,cH,ct aw];rfl
 have last:∀n,n<ao.length→cP (ao.map e1) n=⟨(ao.getD n dV).2.1,none,(ao.getD n dV).1,(ao.getD n dV).2.1⟩:=λn aw=>by unfold cP;rw[fst n aw];rfl
 have gl:∀n,n<ao.length→dh (bS ao) n=(ao.getD n dV).2.2:=λn aw=>by unfold dh bS;rw[cH,cL,cH,ct aw];rfl
 have lt:∀n∈lp hs ds kvs ao,n<ao.length:=λn aw=>gZ.mp (ea.mp aw).1;have due:∀n,n<ao.length→fv≤cV (ao.map e1) n∧cV (ao.map e1) n≤fv+11:=λn aw=>by unfold cV;rw[last n aw];exact fA _ (at_ n aw)
 refine⟨rt,⟨O,eD _,rfl,rfl,λn _ aw=>⟨fst n aw,(fA _ (at_ n aw)).1⟩,rfl,aab B A,zD.filter _,λn aw=>?_⟩,λn aw=>?_,λh=>bt h (by decide),?_,?_,?_,λn aw _ _=>fst n aw,rfl⟩
 .rw[last n aw,gl n aw];have d:=jj _ (at_ n aw);have χ:=Ĵ A R b9 d.1 d.2.2;constructor
  .intro h;exact⟨d.2.2,χ.mp (ea.mp h).2⟩
  .rintro⟨_,h⟩;exact ea.mpr ⟨gZ.mpr aw,χ.mpr h⟩
 .have:=(due n aw).2;show _≤max (fv+11) (fv-((0:Nat):Int)+8);omega
 .show fv+((0:Nat):Int)≤fv;omega
 .obtain⟨M,qZ⟩:=U9 R (A.ok R) 1300 (-1) _ _ _ O df;obtain⟨v,rfl⟩:∃v:Nat,fv=(v:Int):=⟨fv.toNat,by omega⟩
  refine⟨M,λj bq=>?_⟩;have ai:=qZ (v+j) (by omega);have aj:=Sj O v j 0 (λn aw=>by have:=(due n (lt n aw)).1;omega);show[]++iF hs ds kvs (bS ao) j (v:Int) _ _=rN hs ds kvs ao;rw[JB];rw[o']at aj;rw[show((-1:Int)+1)=0 by decide]at ai;exact aj.symm.trans ai
 .have:=aeK O;rw[a']at this;show 0+_≤_;rw[JO];exact VV _ this
theorem Kept.post(K:Kept hs ds kvs ao fv P full go rt m idle s){h g:Str}(e:ao[m]?=some (h,s.pr,g)):Kept hs ds kvs ao fv P full go rt (m+1) idle (yl s h g):=⟨K.d.post e,K.due,K.past,K.pr,K.log,K.gU,K.jO,K.walk⟩
theorem Kept.pass(R:∀d∈ds,d.Ok hs.length)(ez:iN kvs ds.length)(K:Kept hs ds kvs ao fv P full go rt m idle s)(st:∀n,m≤n→n<ao.length→s.pr<(ao.getD n dV).2.1):
  Kept hs ds kvs ao fv P (dy hs ds kvs (bS ao) s.pr go full) (jg (bS ao) go (dy hs ds kvs (bS ao) s.pr go full)) (ly ds kvs (bS ao) s.pr go full rt) m (if fN ds s=[]then idle+1 else 0) (nO hs ds s)∧(fN ds s≠[]→e9 (ly ds kvs (bS ao) s.pr go full rt) (jg (bS ao) go (dy hs ds kvs (bS ao) s.pr go full))<e9 rt go)∧(fN ds s=[]→e9 (ly ds kvs (bS ao) s.pr go full rt) (jg (bS ao) go (dy hs ds kvs (bS ao) s.pr go full))≤e9 rt go):=by
 have cG:=K.d.pass R ez st;have bP:=(K.d.ok.uE ez).2;have be:=K.d.h8 st;have er:full.length=ao.length:=by have:=K.d.ok.len;rw[sS]at this;exact this
 have log:∃M:Nat,∀j,M≤j→(nO hs ds s).gU++iF hs ds kvs (bS ao) j (nO hs ds s).pr (jg (bS ao) go (dy hs ds kvs (bS ao) s.pr go full)) (dy hs ds kvs (bS ao) s.pr go full)=P:=by obtain⟨M,qZ⟩:=K.log;refine⟨M,λj bq=>?_⟩;have:=qZ (j+1) (by omega);rw[←this];show(s.gU++fN ds s)++_=s.gU++(f5 ds kvs (bS ao) s.pr go full++_);rw[be,r8];rfl
 have walk:dy hs ds kvs (bS ao) s.pr go full=eU hs ds (nO hs ds s).gU (ao.map e1):=by show eU hs ds (f5 ds kvs (bS ao) s.pr go full) full=eU hs ds (s.gU++fN ds s) (ao.map e1);rw[be];have e:eU hs ds (s.gU++f5 ds kvs (bS ao) s.pr go full) (ao.map e1)=eU hs ds (f5 ds kvs (bS ao) s.pr go full) (eU hs ds s.gU (ao.map e1)):=D5 ..;rw[e,←K.walk]
 have jO:∀n,n<ao.length→(cP (dy hs ds kvs (bS ao) s.pr go full) n).dm≠dh (bS ao) n→hp kvs (cP (dy hs ds kvs (bS ao) s.pr go full) n).dm (dh (bS ao) n)=none→(dy hs ds kvs (bS ao) s.pr go full).getD n []=e1 (ao.getD n dV):=λn aw ai aj=>by
  have ln:n<full.length:=by omega
  by_cases z:j_ ds kvs (bS ao) s.pr go full n=true
  .have bz:n∈jg (bS ao) go (dy hs ds kvs (bS ao) s.pr go full):=ea.mpr ⟨(xW z).1,cB ai⟩;obtain⟨_,_,_,_,bk,_⟩:=(cG.ok.way n bz).way (cG.ok.on n bz);rw[aj]at bk;cases bk
  .rw[BY bP ln,aX z]at ai aj;rw[Hd bP ln,aX z,kn];exact K.jO n aw ai aj
 have aV:(fN ds s).length≤ds.length:=by rw[be];exact acq
 have br:(nO hs ds s).gU.length=s.gU.length+(fN ds s).length:=fT ..;have Co:(nO hs ds s).pr=s.pr+1:=rfl;by_cases b:fN ds s=[]
 .rw[be]at b;have none_:∀n∈go,s.pr<cV full n:=λn aw=>by
   by_cases z:s.pr<cV full n
   .exact z
   .exact bt b (acp bP aw (by omega))
  have es:=Si (hs:=hs) (ds:=ds) (kvs:=kvs) (gs:=bS ao) none_;have c0:e9 (ly ds kvs (bS ao) s.pr go full rt) (jg (bS ao) go (dy hs ds kvs (bS ao) s.pr go full))≤e9 rt go:=by
   refine el (Qy _) (I9 λn _=>?_);unfold ly;split
   .rw[Jw];omega
   .exact bY _
  rw[a8 (be.trans b)];refine⟨⟨cG,λn aw=>?_,λ_ n aw=>?_,?_,log,?_,jO,walk⟩,λh=>bt (be.trans b) h,λ_=>c0⟩
  .have:=K.due n aw;rw[es,Co];omega
  .have bz:=(ea.mp aw).1;have:=none_ n bz;rw[es,Co];omega
  .have:=K.pr;rw[Co];omega
  .rw[br,be,b,qG];exact el (ab2 (VV _ c0) _) K.gU
 .have alJ:=aco (by rw[←be];exact b);have ls:=K.d.ok.less R ez alJ;rw[aX b];refine⟨⟨cG,λn aw=>?_,λh=>bt h (by decide),?_,log,?_,jO,walk⟩,λ_=>ls,λh=>bt h b⟩
  .have ln:n<full.length:=by omega
   unfold cV;rw[BY bP ln,Co];split
   .rename_i z;have bz:=(xW z).1;have au:=bP n bz;have atM:nR ds (du kvs (bS ao) full n)≤9:=by unfold nR;rw[show ds.getD (du kvs (bS ao) full n) lx=ds[du kvs (bS ao) full n] by rw[cH,ct au];rfl];have:=(R _ (jA au)).t;omega
    show s.pr+nR ds (du kvs (bS ao) full n)≤_;omega
   .have:=K.due n aw;unfold cV at this;omega
  .have:=K.pr;rw[Co];omega
  .have ai:=VV ds.length (show e9 (ly ds kvs (bS ao) s.pr go full rt) (jg (bS ao) go (dy hs ds kvs (bS ao) s.pr go full))+1≤e9 rt go from ls);rw[Nat.mul_add,Nat.mul_one]at ai;have:=K.gU;omega
theorem Kept.done(K:Kept hs ds kvs ao fv P full go rt m idle s)(h:12≤idle):go=[]∧s.gU=P:=by
 have e:go=[]:=by
  cases go with
  |nil=>rfl
  |cons n l=>
   have ai:=K.due n (by have:=K.d.ok.lt n (.head _);rw[sS]at this;exact this);have aj:=K.past (by omega) n (.head _);have bk:=K.pr;omega
 refine⟨e,?_⟩;obtain⟨M,qZ⟩:=K.log;have:=qZ M (bY _);rw[e,SU,kn]at this;exact this
theorem hV.ajc{k:Nat}(O:hV hs ds k s)(b9:∀ss∈s.sss,ss.length≤99)(br:s.gU.length≤4900):hV hs ds 98 s:={O with b9:=b9,CW:=br}
theorem Kept.b9(K:Kept hs ds kvs ao fv P full go rt m idle s):∀ss∈s.sss,ss.length≤20:=λss h=>by rw[K.d.cK]at h;obtain⟨i,ar⟩:=me (JA h);have:=K.d.ok.b9 i;rw[cH,ar]at this;have:ss.length+(rt i).length≤20:=this;omega
end
open PySem ag cq aN
noncomputable def vy(l:List Nat)(r:Nat):List Nat:=if r∈l then l else l++[r]
noncomputable def yO(s:dF)(r:Nat):dF:={s with mU:=vy s.mU r}
noncomputable def u4(s:dF)(r:Nat):dF:={s with mU:=s.mU.filter λk=>decide (k≠r)}
theorem acC(l:List Nat)(r:Nat):eJ (kI l) (eS (r:Int)) (.aV true)=kI (vy l r):=by
 unfold eJ vy;have aI:((kI l).any λck=>decide (ck.1=(eS (r:Int):bx)))=decide (r∈l):=by
  unfold kI;rw[List.any_map,yD,pb,lT];constructor
  .rintro⟨k,aT,e⟩;have e:=ju e;have e:(k:Int)=(r:Int):=z' e;rw[←ş e];exact aT
  .exactλh=>⟨r,h,cB rfl⟩
 rw[aI];by_cases h:r∈l
 .rw[a8 (cB h),a8 h];unfold kI;rw[gJ];refine tV λk _=>?_;show(if(eS (k:Int):bx)=eS (r:Int)then((eS (k:Int):bx),V.aV true)else(eS (k:Int),V.aV true))=_;split<;>rfl
 .rw[aX (by simp[h]),aX h];unfold kI;rw[eC];rfl
theorem Ũ(l:List Nat)(r:Nat):tv (kI l) (eS (r:Int))=kI (l.filter λk=>decide (k≠r)):=by
 unfold tv kI;rw[wB];congr 1;refine aa9 λk _=>?_;show decide ((eS (k:Int):bx)≠eS (r:Int))=decide (k≠r);by_cases e:k=r
 .subst e;rw[dP (by simp),dP (by simp)]
 .rw[cB e,cB (show(eS (k:Int):bx)≠eS (r:Int) fromλz=>e (ş (z' z)))]
theorem ũ(l:List Nat)(r:Nat)(h:cU (kI l) (eS (r:Int):bx)=none):(l.filter λk=>decide (k≠r))=l:=by have:=U8 l r;rw[h]at this;have aw:r∉l:=ju this.symm;exact D4.mpr λk aT=>cB λz=>aw (z▸aT)
section
variable{P:bL}{w:bC}{K:aS}{mg:Str→Option Value}{base:Heap}{aL C bf aC:Addr}{bQ H:aa}{x:Addr}{A:ej}{hs:List (List Nat)}{ds:List aN.a5}{s:dF}
theorem gn.GI(D:gn aL C bf aC bQ H x A hs ds s):A.t∈A.da x∧A.cX∈A.da x:=by unfold ej.da;simp
theorem SW{α β:Type}{F G:α→β→Prop}:∀{xs:List α}{ys:List β},bH F xs ys→(∀x∈xs,∀y,F x y→G x y)→bH G xs ys
 |_,_,.nil,_=>.nil
 |_,_,.cons h r,k=>.cons (k _ (by simp) _ h) (SW r λx ay=>k x (by simp[ay]))
theorem gn.atH(D:gn aL C bf aC bQ H x A hs ds s){U:aa}(aA:aH H U)(kvs:c2):gn aL C bf aC bQ (upd U A.t (.eO kvs)) x A hs ds {s with kvs:=kvs}∧sa (A.da x) (A.da x) H (upd U A.t (.eO kvs)):=by
 have cG:=D.same aA;have ee:∀{b v},U b=some (.tup v)→b≠A.t:=λ{b v}e z=>by rw[z,cG.rJ]at e;cases e
 have aF:=D.aF;unfold ej.da at aF;simp only[hL,dx,not_or]at aF;obtain⟨⟨_,_,cI,_⟩,⟨_,c3,_⟩,⟨lq,_⟩,⟨ri,xF,xG,oN,Pr,Pt⟩,_⟩:=aF;obtain⟨ky,cW⟩:=cG.tG;refine⟨⟨λb o e=>?_,D.gy,D.tj,?_,?_,bH.f_ cG.pt λa v e=>?_,⟨ky,?_⟩,aQ,?_,?_,?_,?_,?_,?_,bH.f_ cG.sp λa v e=>?_,D.aF,D.fr⟩,⟨λb o nb e=>?_,λb af=>.inl af⟩⟩
 .rw[aD (λz=>by rw[z,D.fr _ D.GI.1]at e;cases e)];exact cG.cF _ _ e
 .rw[aD cI];exact cG.ins
 .rw[aD c3];exact cG.po
 .rw[aD (ee e)];exact e
 .rw[aD lq];exact cW
 .rw[aD (b' ri)];exact cG.cX
 .rw[aD (b' xF)];exact cG.wi
 .rw[aD (b' xG)];exact cG.n1
 .rw[aD (b' oN)];exact cG.ws
 .exact SW cG.n0 λl aq ss⟨ts,az,aE⟩=>⟨ts,by rw[aD (λz=>Pt (by rw[←z];exact aq))];exact az,bH.f_ aE λa v e=>by rw[aD (ee e)];exact e⟩
 .rw[aD (b' Pr)];exact cG.cK
 .obtain⟨c,az,aE⟩:=e;exact⟨c,by rw[aD (ee az)];exact az,by rw[aD (ee aE)];exact aE⟩
 .rw[aD (λz=>nb (by rw[z];exact D.GI.1))];exact aA _ _ e
theorem gn.ε(D:gn aL C bf aC bQ H x A hs ds s){U:aa}(aA:aH H U)(l:List Nat):gn aL C bf aC bQ (upd U A.cX (.bX (kI l))) x A hs ds {s with mU:=l}∧sa (A.da x) (A.da x) H (upd U A.cX (.bX (kI l))):=by
 have cG:=D.same aA;have ee:∀{b v},U b=some (.tup v)→b≠A.cX:=λ{b v}e z=>by rw[z,cG.cX]at e;cases e
 have aF:=D.aF;unfold ej.da at aF;simp only[hL,dx,not_or]at aF;obtain⟨⟨_,_,_,cI,_⟩,⟨_,_,c3,_⟩,⟨_,lq,_⟩,⟨ri,_⟩,⟨xF,xG,oN,Pr,Pt⟩,_⟩:=aF;obtain⟨ky,cW⟩:=cG.tG;refine⟨⟨λb o e=>?_,D.gy,D.tj,?_,?_,bH.f_ cG.pt λa v e=>?_,⟨ky,?_⟩,?_,aQ,?_,?_,?_,?_,?_,bH.f_ cG.sp λa v e=>?_,D.aF,D.fr⟩,⟨λb o nb e=>?_,λb af=>.inl af⟩⟩
 .rw[aD (λz=>by rw[z,D.fr _ D.GI.2]at e;cases e)];exact cG.cF _ _ e
 .rw[aD cI];exact cG.ins
 .rw[aD c3];exact cG.po
 .rw[aD (ee e)];exact e
 .rw[aD lq];exact cW
 .rw[aD ri];exact cG.rJ
 .rw[aD (b' xF)];exact cG.wi
 .rw[aD (b' xG)];exact cG.n1
 .rw[aD (b' oN)];exact cG.ws
 .exact SW cG.n0 λl aq ss⟨ts,az,aE⟩=>⟨ts,by rw[aD (λz=>Pt (by rw[←z];exact aq))];exact az,bH.f_ aE λa v e=>by rw[aD (ee e)];exact e⟩
 .rw[aD (b' Pr)];exact cG.cK
 .obtain⟨c,az,aE⟩:=e;exact⟨c,by rw[aD (ee az)];exact az,by rw[aD (ee aE)];exact aE⟩
 .rw[aD (λz=>nb (by rw[z];exact D.GI.2))];exact aA _ _ e
end
section
variable{P:bL}{w:bC}{K:aS}{mg:Str→Option Value}{base:Heap}
inductive ahh(aL C bf aC gi:Addr)(vs:List ag.V)(H:aa)(Q:a6)(E:b6):Prop where
 |mk (bQ:aa) (x:Addr) (A:ej) (hs:List (List Nat)) (ds:List aN.a5) (s:dF) (i:Int) (bW:vs=[.ref x,.int i]) (bG:gn aL C bf aC bQ H x A hs ds s) (b4:0≤i∧i<ds.length→Q .bD H) (cM:¬(0≤i∧i<ds.length)→∀U,aH H U→E (.ref gi) none U)
noncomputable def Ex(aL C bf aC gi:Addr):b8:=λvs H Q E=>ahh aL C bf aC gi vs H Q E
noncomputable abbrev x5:Stmt:=fz (top 57) 11
theorem aiC:cT ["self","number"] ["self","number"] (cy x5):=⟨rfl,rfl,rfl,by decide+kernel,rfl,by decide+kernel,by decide+kernel⟩
theorem ahi{aL C bf aC gi f f1:Addr}{fd cg:b5}(F:a_ K "need_road" "Day.need_road" x5 f fd)(cb:o1 K aL)(fx:d_ K aC)(ks:cR K aC "road" "Net.road" rm ["self","number"] f1 cg)(uS:aB P w K mg base (eQ P w) 1 f1 cg ["self","number"] (HY aC gi)):
  aB P w K mg base (eQ P w) 2 f fd ["self","number"] (Ex aL C bf aC gi):=by
 refine ro F aiC (λvs H Q E h=>?_) (λcdv kj outer s0 H vs Q E au h=>?_)
 .obtain⟨bQ,x,A,hs,ds,s,i,rfl,_⟩:=h;rfl
 .obtain⟨bQ,x,A,hs,ds,s,i,rfl,D,q,gT⟩:=h;refine⟨_,(bu (gm (e3 (dT (ae 0) (by rfl)) fx ks.dQ uS (au.mono (by decide)) ks.bd .nil s6 (av (ae 1) aJ)))),?_⟩;have gy:=D.gy.same D.cF;obtain⟨gw,aw⟩:=gy.ins;have az:((aK A.rs).length:Int)=ds.length:=by rw[eb,D.tj.len]
  refine⟨_,rfl,x,aL,_,_,_,rfl,D.ins,cb.cl,cb.nn,rfl,A.n,gw,_,rfl,aw,rfl,_,rfl,A.n,A.aZ,A.a3,_,_,i,rfl,gy,λar=>?_,λar=>gT (λz=>ar (by rw[az];exact z)) H (aH.refl _)⟩;rw[az]at ar;obtain⟨v,bA⟩:∃v,ag.gj (aK A.rs) i=some v:=by
   have aj:i.toNat < (aK A.rs).length:=by omega
   refine⟨(aK A.rs)[i.toNat],?_⟩;have:=ja (xs:=aK A.rs) (ct aj)
   rwa [DV ar.1]at this
  exact⟨v,bA,q ar⟩
inductive ags(aL C bf aC gi:Addr)(up:dF→Nat→dF)(vs:List ag.V)(H:aa)(Q:a6)(E:b6):Prop where
 |mk (bQ:aa) (x:Addr) (A:ej) (hs:List (List Nat)) (ds:List aN.a5) (s:dF) (i:Int) (bW:vs=[.ref x,.int i]) (bG:gn aL C bf aC bQ H x A hs ds s) (d3:s.mU.length≤900) (b4:∀r:Nat,i=r→r<ds.length→∀U,sa (A.da x) (A.da x) H U→gn aL C bf aC bQ U x A hs ds (up s r)→Q .bD U) (cM:¬(0≤i∧i<ds.length)→∀U,aH H U→E (.ref gi) none U)
noncomputable def ym(aL C bf aC gi:Addr)(up:dF→Nat→dF):b8:=λvs H Q E=>ags aL C bf aC gi up vs H Q E
noncomputable abbrev yP:Stmt:=fz (top 57) 5
theorem agt:cT ["self","road"] ["self","road"] (cy yP):=⟨rfl,rfl,rfl,by decide+kernel,rfl,by decide+kernel,by decide+kernel⟩
theorem aeL{aL C bf aC gi f f1:Addr}{fd cg:b5}(F:a_ K "shut" "Day.shut" yP f fd)(cb:o1 K aL)(sr:cR K aL "need_road" "Day.need_road" x5 ["self","number"] f1 cg)(OQ:aB P w K mg base (eQ P w) 2 f1 cg ["self","number"] (Ex aL C bf aC gi)):
  aB P w K mg base (eQ P w) 3 f fd ["self","road"] (ym aL C bf aC gi yO):=by
 have j3:=cb.cl;refine ro F agt (λvs H Q E h=>?_) (λcdv kj outer s0 H vs Q E au h=>?_)
 .obtain⟨bQ,x,A,hs,ds,s,i,rfl,_⟩:=h;rfl
 .obtain⟨bQ,x,A,hs,ds,s,i,rfl,D,aob,q,gT⟩:=h;refine⟨_,(a9 (gm (e3 (ae 0) j3 sr.dQ OQ (au.mono (by decide)) sr.bd .nil s6 (av (ae 1) aJ)))
   (bu (HU (jo au) (dT (ae 0) (by rfl)) (ae 1) l1 rfl))),?_⟩
  refine⟨_,rfl,x,A.ah,_,rfl,D.ins,rfl,_,rfl,bQ,x,A,hs,ds,s,i,rfl,D,λar=>?_,gT⟩;obtain⟨r,rfl⟩:∃r:Nat,i=(r:Int):=⟨i.toNat,by omega⟩
  have gY:=D.ε (aH.refl H) (vy s.mU r);rw[←acC]at gY;exact⟨_,rfl,x,aL,_,_,_,rfl,D.ins,cb.cl,cb.s_,rfl,_,rfl,A.cX,_,rfl,qw.k (k:=eS (r:Int)) D.cX (eZ (by unfold kI;rw[a'];omega)),q r rfl (by omega) _ gY.2 gY.1⟩
noncomputable abbrev z0:Stmt:=fz (top 57) 6
theorem ahj:cT ["self","road"] ["self","road"] (cy z0):=⟨rfl,rfl,rfl,by decide+kernel,rfl,by decide+kernel,by decide+kernel⟩
theorem agu{aL C bf aC gi f f1:Addr}{fd cg:b5}(F:a_ K "reopen" "Day.reopen" z0 f fd)(cb:o1 K aL)(sr:cR K aL "need_road" "Day.need_road" x5 ["self","number"] f1 cg)(OQ:aB P w K mg base (eQ P w) 2 f1 cg ["self","number"] (Ex aL C bf aC gi)):
  aB P w K mg base (eQ P w) 3 f fd ["self","road"] (ym aL C bf aC gi u4):=by
 have j3:=cb.cl;refine ro F ahj (λvs H Q E h=>?_) (λcdv kj outer s0 H vs Q E au h=>?_)
 .obtain⟨bQ,x,A,hs,ds,s,i,rfl,_⟩:=h;rfl
 .obtain⟨bQ,x,A,hs,ds,s,i,rfl,D,aob,q,gT⟩:=h;refine⟨_,(a9 (gm (e3 (ae 0) j3 sr.dQ OQ (au.mono (by decide)) sr.bd .nil s6 (av (ae 1) aJ)))
   (bu (gm (aaW (dT (ae 0) (by rfl)) (ae 1) k9 ⟨rfl,rfl,rfl,rfl⟩)))),?_⟩
  refine⟨_,rfl,x,A.ah,_,rfl,D.ins,rfl,_,rfl,bQ,x,A,hs,ds,s,i,rfl,D,λar=>?_,gT⟩;obtain⟨r,rfl⟩:∃r:Nat,i=(r:Int):=⟨i.toNat,by omega⟩
  have gY:=D.ε (aH.refl H) (s.mU.filter λk=>decide (k≠r));rw[←Ũ]at gY;refine⟨_,rfl,x,aL,_,_,_,rfl,D.ins,cb.cl,cb.s_,rfl,A.cX,rfl,.inl ⟨_,.inl D.cX⟩,_,rfl,_,eS (r:Int),D.cX,rfl,λv ev=>q r rfl (by omega) _ gY.2 gY.1,λev=>?_⟩;refine q r rfl (by omega) H (sa.refl (aH.refl _)) ?_;have e:u4 s r=s:=by unfold u4;rw[ũ _ _ ev]
  rw[e];exact D
inductive agv(aL C bf aC:Addr)(vs:List ag.V)(H:aa)(Q:a6)(E:b6):Prop where
 |mk (bQ:aa) (x:Addr) (A:ej) (hs:List (List Nat)) (ds:List aN.a5) (s:dF) (bW:vs=[.ref x]) (bG:gn aL C bf aC bQ H x A hs ds s) (b4:∀l,H l=none→Q (.ref l) (upd H l (.lst (aK A.i9))))
noncomputable def J3(aL C bf aC:Addr):b8:=λvs H Q E=>agv aL C bf aC vs H Q E
noncomputable abbrev z1:Stmt:=fz (top 57) 8
theorem ahk:cT ["self"] ["self"] (cy z1):=⟨rfl,rfl,rfl,by decide+kernel,rfl,by decide+kernel,by decide+kernel⟩
theorem agw{aL C bf aC f:Addr}{fd:b5}(F:a_ K "log" "Day.log" z1 f fd)(B:fo mg)(cb:o1 K aL):aB P w K mg base aM 1 f fd ["self"] (J3 aL C bf aC):=by
 refine F.ok ahk (λvs H Q E h=>?_) (λcdv A outer s H vs Q E au h=>?_)
 .obtain⟨bQ,x,A,hs,ds,s,rfl,_⟩:=h;rfl
 .obtain⟨bQ,x,A,hs,ds,s,rfl,D,q⟩:=h;refine⟨_,(bu (cO (ow sx (by rfl) B.list p1 (av (dT (ae 0) (by rfl)) aJ)))),?_⟩;exact⟨_,rfl,x,aL,_,_,_,rfl,D.ins,cb.cl,cb.ns,rfl,A.cK,_,rfl,.inl (aO.of D.cK),q⟩
end
open PySem ag cq aN
noncomputable def rW(b:dq×List Nat):PyData:=.tuple [.int b.1.1,.int b.1.2,.tuple (b.2.map λn:Nat=>Wb n)]
theorem Uk{K:aS}{H:aa}:∀ns:List Nat,qE K H (e4 ns) (ns.map λn:Nat=>Wb n)
 |[]=>.nil
 |n::ns=>.cons (.int _) (Uk ns)
theorem HI{K:aS}{H:aa}:∀{as:List Addr}{bs:List (dq×List Nat)},bH (gO H) as bs→qE K H (aK as) (bs.map rW)
 |_,[],h=>by cases h;exact .nil
 |_,b::bs,h=>by
  cases h with
  |cons r t=>
   obtain⟨c,ai,aj⟩:=r;exact .cons (.tup (b1.of ai) (.cons (.int _) (.cons (.int _) (.cons (.tup (b1.of aj) (Uk _)) .nil)))) (HI t)
theorem Ul(bs:List (dq×List Nat)):(J7 (bs.map rW)).canLay0=true:=Uq λd hd=>by
 obtain⟨b,_,rfl⟩:=cw.mp hd;have:qJ (b.2.map λn:Nat=>Wb n)=true:=Uq λd hd=>by obtain⟨n,_,rfl⟩:=cw.mp hd;rfl
 unfold rW;simp only[Wa,qJ,Bool.and_true,DD];exact this
theorem Xc{ds:List PyData}{n:Nat}(h:∀d∈ds,d.depth≤n):(PyData.tuple ds).depth≤n+1:=VW (Q1 h)
theorem SX(bs:List (dq×List Nat)):qN (.list (bs.map rW))=true:=
 G' (Ul bs) (n:=4) (agF (n:=3) λd hd=>by
  obtain⟨b,_,rfl⟩:=cw.mp hd;unfold rW;refine Xc (n:=2) λd hd=>?_;simp only[dx,dN,or_false]at hd;rcases hd with rfl|rfl|rfl
  .exact eD _
  .exact eD _
  .exact Xc (n:=1) λd hd=>by
    obtain⟨n,_,rfl⟩:=cw.mp hd;exact eD _) (by decide)
structure I0(hs:List (List Nat))(ao:List (Str×Int×Str))(fv:Int):Prop where
 b9:ao.length≤12
 jj:∀d∈ao,d.1∈hs.map S∧d.2.2∈hs.map S∧d.1≠d.2.2
 fA:∀d∈ao,fv≤d.2.1∧d.2.1≤fv+11
 up:ao.Pairwise λa b=>a.2.1≤b.2.1
 f0:0≤fv∧fv≤999999900
section
variable{P:bL}{w:bC}{K:aS}{mg:Str→Option Value}{base:Heap}
noncomputable abbrev CL:Stmt:=top 63
noncomputable abbrev aox:List Str:=["_law_net","_law_letters","_law_first","_law_closed","_law_day","_law_road_here","_law_idle","_law_house","_law_turn","_law_goal","_law_bags"]
noncomputable abbrev Ha:List Str:=["_law_net","_law_letters","_law_first","_law_closed"]
theorem qx:cT aox Ha (cy CL):=⟨rfl,rfl,rfl,by decide+kernel,rfl,by decide+kernel,by decide+kernel⟩
inductive ahl(aL C bf aC:Addr)(vs:List ag.V)(H:aa)(Q:a6)(E:b6):Prop where
 |mk (n aZ a3 cQ cl:Addr) (hs:List (List Nat)) (rs:List Addr) (ds:List aN.a5) (hC:List Addr) (ao:List (Str×Int×Str)) (kvs:c2) (fv:Int) (cs:List Nat) (bW:vs=[.ref n,.ref cQ,.int fv,.ref cl]) (bG:ib aC H n aZ a3 (dn hs) (aK rs)) (b4:Good hs) (cM:gL H hs rs ds) (d3:rs.length≤12) (fK:H cQ=some (.lst (aK hC))) (iZ:dU H hC (ao.map iU)) (m5:H cl=some (.lst (cs.map λc:Nat=>V.int (c:Int)))) (qy:∀c∈cs,c<ds.length) (yt:cs.length≤2) (Ik:kv hs ds kvs) (ý:I0 hs ao fv)
   (arx:∀(x:Addr)(A:ej)(bQ U:aa)(s:dF)(full:List (List Step))(go:List Nat)(rt:Nat→List Nat)(idle:Nat),aH H bQ→gn aL C bf aC bQ U x A hs ds s→hV hs ds 98 s→Kept hs ds kvs ao fv (rN hs ds kvs ao) full go rt ao.length idle s→24≤idle→Q (.ref x) U)
noncomputable def Ky(aL C bf aC:Addr):b8:=λvs H Q E=>ahl aL C bf aC vs H Q E
structure WG(aL C bf aC:Addr)(hs:List (List Nat))(ds:List aN.a5)(kvs:c2)(ao:List (Str×Int×Str))(fv:Int)(x:Addr)(bQ bU:aa)(A:ej)(s:dF)(full:List (List Step))(go:List Nat)(rt:Nat→List Nat)(m idle:Nat):Prop where
 d:gn aL C bf aC bQ bU x A hs ds s
 k:Kept hs ds kvs ao fv (rN hs ds kvs ao) full go rt m idle s
 ok:hV hs ds 98 s
 po:p5 hs s
inductive Xd(aL C bf aC:Addr)(hs:List (List Nat))(ds:List aN.a5)(kvs:c2)(ao:List (Str×Int×Str))(fv:Int)(n cQ cl x:Addr)(bQ:aa)(dQ:Nat)(σ:ag.St)(bU:aa):Prop where
 |mk (A:ej) (s:dF) (full:List (List Step)) (go:List Nat) (rt:Nat→List Nat) (m idle:Nat) (jP iY rG vu v10:Option ag.V) (bW:σ=[some (.ref n),some (.ref cQ),some (.int fv),some (.ref cl),some (.ref x),jP,some (.int (idle:Int)),iY,rG,vu,v10]) (bG:WG aL C bf aC hs ds kvs ao fv x bQ bU A s full go rt m idle) (b4:∀i,i<m→(ao.getD i dV).2.1<s.pr) (cM:25*e9 rt go+(24-idle)=dQ)
inductive aiD(aL C bf aC:Addr)(hs:List (List Nat))(ds:List aN.a5)(kvs:c2)(ao:List (Str×Int×Str))(fv:Int)(n cQ cl x:Addr)(bQ:aa)(pr:Int)(full:List (List Step))(go:List Nat)(rt:Nat→List Nat)(idle:Nat)(jP v10:Option ag.V)(i:Nat)(σ:ag.St)(bU:aa):Prop where
 |mk (A:ej) (s:dF) (m:Nat) (iY rG vu:Option ag.V) (bW:σ=[some (.ref n),some (.ref cQ),some (.int fv),some (.ref cl),some (.ref x),jP,some (.int (idle:Int)),iY,rG,vu,v10]) (bG:WG aL C bf aC hs ds kvs ao fv x bQ bU A s full go rt m idle) (b4:∀j,j<m→j<i∨(ao.getD j dV).2.1<s.pr) (cM:∀j,j<i→j<ao.length→(ao.getD j dV).2.1=s.pr→j<m) (d3:s.pr=pr)
inductive aiE(aL C bf aC:Addr)(hs:List (List Nat))(ds:List aN.a5)(nH:c2)(fv:Int)(n cQ cl x:Addr)(bQ:aa)(i:Nat)(σ:ag.St)(bU:aa):Prop where
 |mk (A:ej) (jP:Option ag.V) (bW:σ=[some (.ref n),some (.ref cQ),some (.int fv),some (.ref cl),some (.ref x),jP,none,none,none,none,none]) (bG:gn aL C bf aC bQ bU x A hs ds ⟨fv,[],[],[],nH,[]⟩)
seal hN bJ h4 iK
theorem ahm{aL C bf aC ek gi f k7 f1 f2 cc f4 eG:Addr}{fd oz cg c_ e5 j2 oy:b5}(F:a_ K "_law_kept" "_law_kept" CL f fd)(B:fo mg)(j3:d_ K aL)(I':mg "Day"=some (.ref aL))(Ip:i6 K aL k7)(QA:kl K aL "Day.__init__" zP ["self","net","first"] k7 oz)(ľ:aB P w K mg base aM 5 k7 oz ["self","net","first"] (JR aL C bf aC))(GO:cR K aL "shut" "Day.shut" yP ["self","road"] f1 cg)(Ł:aB P w K mg base (eQ P w) 3 f1 cg ["self","road"] (ym aL C bf aC gi yO))(Gf:cR K aL "reopen" "Day.reopen" z0 ["self","road"] f2 c_)(ÿ:aB P w K mg base (eQ P w) 3 f2 c_ ["self","road"] (ym aL C bf aC gi u4))(Hf:cR K aL "now" "Day.now" zV ["self"] cc e5)(Ū:aB P w K mg base aM 1 cc e5 ["self"] (JV aL C bf aC))(GP:cR K aL "post" "Day.post" yM ["self","house","goal"] f4 j2)(ł:aB P w K mg base (i1 P w) 5 f4 j2 ["self","house","goal"] (IY aL C bf aC ek))(FD:cR K aL "pass_turn" "Day.pass_turn" yN ["self"] eG oy)(aqE:aB P w K mg base aM 6 eG oy ["self"] (IZ K aL C bf aC)):
  aB P w K mg base aM 7 f fd Ha (Ky aL C bf aC):=by
 refine F.ok qx (λvs H Q E h=>?_) (λcdv kj outer s0 H vs Q E au h=>?_)
 .obtain⟨n,aZ,a3,cQ,cl,hs,rs,ds,hC,ao,kvs,fv,cs,rfl,_⟩:=h;rfl
 .obtain⟨n,aZ,a3,cQ,cl,hs,rs,ds,hC,ao,kvs,fv,cs,rfl,gy,G,R,b9,hW,cY,pS,fl,i_,ST,km,q⟩:=h;refine⟨_,(a9 (c9 (i:=4) qx.aF rfl (cu rfl) (q' Ip ľ (au.mono (by decide)) (by rfl) I' QA.bd .nil cn (av (ae 0) (av (ae 2) aJ))))
   (a9 (jf iL rfl (hP (ae 3)) (d2 (i:=5) qx.aF rfl (cu rfl))
    (a9 (gm (e3 (ae 4) j3 GO.dQ Ł (au.mono (by decide)) GO.bd .nil yA (av (ae 5) aJ)))
   (bu (gm (e3 (ae 4) j3 Gf.dQ ÿ (au.mono (by decide)) Gf.bd .nil yA (av (ae 5) aJ))))))
   (a9 (c9 (i:=6) qx.aF rfl (cu rfl) ba)
   (a9 (Hl iL (f3 ru (ae 6) ba (eh _))
    (a9 (jf iL rfl (hP (ae 1)) (C6 rfl (jb (d2 (i:=7) qx.aF rfl (cu rfl)) (jb (d2 (i:=8) qx.aF rfl (cu rfl)) (jb (d2 (i:=9) qx.aF rfl (cu rfl)) q9))))
    (bu (eV (f3 l2 (ae 8) (pK (ae 4) j3 Hf.dQ Ū (au.mono (by decide)) Hf.bd .nil cn) (eh _)) (bu (gm (e3 (ae 4) j3 GP.dQ ł (au.mono (by decide)) GP.bd .nil WM (av (ae 7) (av (ae 9) aJ))))) eT)))
   (a9 (c9 (i:=10) qx.aF rfl (cu rfl) (pK (ae 4) j3 FD.dQ aqE (au.mono (by decide)) FD.bd .nil cn))
   (a9 (c9 (i:=6) qx.aF rfl (cu rfl) (cS hS (ae 6) ba))
   (bu (eV (f3 (Ih au.units) (ae 10) (jI aJ) (eh _)) (bu (c9 (i:=6) qx.aF rfl (cu rfl) ba)) eT))))))
   (bu (cO (ae 4))))))),?_⟩
  refine⟨_,rfl,_,rfl,λx ah cf nP _=>?_⟩;have u3:aH H (upd (upd H ah (.own x)) x (.ins aL ah [])):=λb v e=>by rw[aD (b2 e cf),aD (b2 e nP)];exact e
  refine⟨x,ah,n,aZ,a3,hs,rs,ds,fv,rfl,aQ,gy.same u3,G,R.same u3,(by omega),λH1 hF nH Q' m6 asx asy WD atG=>⟨rfl,?_⟩⟩;have s1:aH H H1:=G_ cf nP Q';have g6:aH H (mask (upd (upd H ah (.own x)) x (.ins aL ah [])) [x]):=λb o e=>gD (u3 _ _ e) (by simpa using b2 e cf);generalize mask (upd (upd H ah (.own x)) x (.ins aL ah [])) [x]=bQ at m6 g6;have la:=R.ok;have Gw:hC.length=ao.length:=by have:=cY.len;rw[a']at this;exact this
  have dl:ds.length≤12:=by have:=R.len;omega
  have oK:=km.b9;have f0:=km.f0;refine⟨_,rfl,cl,rfl,⟨_,aO.of (s1 _ _ pS)⟩,?_⟩;refine oA (K:=K) (a:=cl) (xs:=cs.map λc:Nat=>V.int (c:Int)) (aiE aL C bf aC hs ds nH fv n cQ cl x bQ) ⟨hF,none,rfl,m6⟩ (λj σ dX _⟨A,jP,_,D⟩=>aO.of (D.cF _ _ (g6 _ _ pS))) ?_ ?_
  .rintro j z σ dX di ⟨A,jP,rfl,D⟩;rw[cL]at di;obtain⟨c,kZ,rfl⟩:=ew.mp di;have aG:=fl c (dY kZ);refine⟨_,rfl,x,A.ah,_,rfl,D.ins,rfl,_,rfl,bQ,x,A,hs,ds,_,(c:Int),rfl,D,(by show 0≤900;decide),λr d4 ic ak ZC gY=>?_,λna=>bt ⟨by omega,by omega⟩ na⟩;have d4:r=c:=by omega
   subst d4;refine⟨_,rfl,x,A.ah,_,rfl,gY.ins,rfl,_,rfl,bQ,x,A,hs,ds,_,(r:Int),rfl,gY,(by show(vy [] r).length≤900;unfold vy;simp),λcE XH asM bp atj fS=>?_,λna=>bt ⟨by omega,by omega⟩ na⟩;have XH:cE=r:=by omega
   subst XH;refine⟨A,_,rfl,?_⟩;have e:u4 (yO ⟨fv,[],[],[],nH,[]⟩ cE) cE=⟨fv,[],[],[],nH,[]⟩:=by unfold u4 yO vy;simp
   rw[e]at fS;exact fS
  rintro σ dX ⟨A,jP,rfl,D⟩;obtain⟨QM,aaA⟩:=Kept.start ST WD la G.b9 (by omega:ao.length≤100) km.jj f0.1 km.fA;have at_:∀i,i<ao.length→ao.getD i dV∈ao:=λi ar=>by rw[cH,ct ar];exact jA ar
  have aog:∀i j,i<j→j<ao.length→(ao.getD i dV).2.1≤(ao.getD j dV).2.1:=λi j ai aj=>by rw[cH,ct (by omega:i<ao.length),cH,ct aj];exact Ea.mp km.up i j (by omega) aj ai
  refine⟨Xd aL C bf aC hs ds kvs ao fv n cQ cl x bQ,⟨_,A,⟨fv,[],[],[],nH,[]⟩,ao.map e1,lp hs ds kvs ao,QM,0,0,jP,none,none,none,none,rfl,⟨D,aaA,⟨rfl,by show 0≤40;decide,by omega,(λ_ h=>nomatch h),WD.ok la,(λ_ h=>nomatch h),(λ_ h=>nomatch h),(λ_ h=>nomatch h),by show 0≤50*98;decide⟩,⟨(λ_ h=>nomatch h),(λ_ h=>nomatch h),(λ_ h=>nomatch h)⟩⟩,λi ar=>bt ar (zK _),rfl⟩,?_⟩;rintro dQ σ bU ⟨A,s,full,go,rt,m,idle,jP,iY,rG,vu,v10,rfl,S,lt,em⟩;refine⟨_,rfl,_,_,rfl,rfl,_,rfl,Kg (λar=>?_) (λar=>?_)⟩
  .have ar:(idle:Int)<24:=ju ar;refine⟨λaY U=>∃cp,cp<dQ∧Xd aL C bf aC hs ds kvs ao fv n cQ cl x bQ cp aY U,λaY U h=>h,?_⟩;refine⟨_,rfl,cQ,rfl,⟨_,aO.of (S.d.cF _ _ (g6 _ _ hW))⟩,?_⟩;refine oA (K:=K) (a:=cQ) (xs:=aK hC) (aiD aL C bf aC hs ds kvs ao fv n cQ cl x bQ s.pr full go rt idle jP v10) ⟨A,s,m,iY,rG,vu,rfl,S,λj bq=>.inr (lt j bq),λj bq=>bt bq (zK _),rfl⟩ (λj σ dX _⟨_,_,_,_,_,_,_,S,_,_,_⟩=>aO.of (S.d.cF _ _ (g6 _ _ hW))) ?_ ?_
   .rintro i z σ Ŕ di ⟨A,s',m,iY,rG,vu,rfl,S,b4,cM,Mp⟩;unfold aK at di;rw[cL]at di;obtain⟨r,d4,rfl⟩:=ew.mp di;obtain⟨d',kz,nt⟩:=bH.get cY d4;rw[cL]at kz;obtain⟨d,de,rfl⟩:=ew.mp kz;have uT:=(eR.mp de).1;have nq:ao.getD i dV=d:=nN de;have Xu:=dY de;refine⟨r,_,rfl,b1.of (S.d.cF _ _ (g6 _ _ nt)),rfl,_,_,rfl,_,_,rfl,_,_,rfl,rfl,?_⟩;refine⟨_,rfl,_,rfl,x,A.ah,_,rfl,S.d.ins,rfl,bQ,x,A,hs,ds,s',rfl,S.d,rfl,_,rfl,Kg (λh=>?_) (λh=>?_)⟩
    .have e:d.2.1=s'.pr:=V.int.inj (ju h);have aoq:m=i:=by
      by_cases gM:i<m
      .rcases b4 i gM with h|h
       .omega
       .rw[nq]at h;omega
      .by_cases i_:m<i
       .have fQ:=(S.k.d.oL m (bY _) (by omega)).2;have fI:=aog m i i_ uT;rw[nq]at fI;have:=cM m i_ (by omega) (by omega);omega
       .omega
     subst aoq;have aq:=km.jj d Xu;have fA:=km.fA d Xu;have Zh:iO (bO hs) (ik (d.1,s'.pr,d.2.2))=true:=aeD.mpr ⟨aq.1,aq.2.1,aq.2.2,by omega,by omega⟩;have br:s'.ao.length=m:=by rw[S.k.d.le,jR];omega
     have LX:=acn S.po Zh (by omega) (fv:=fv) (λkW aj=>(km.fA kW (JA (by rw[S.k.d.le]at aj;exact aj))).1) (by omega);have ES:ao[m]?=some (d.1,s'.pr,d.2.2):=by rw[de,←e]
     refine⟨_,rfl,x,A.ah,_,rfl,S.d.ins,rfl,_,rfl,_,rfl,bQ,x,A,hs,ds,s',d.1,d.2.2,rfl,S.d,G,S.ok.lets,S.ok.xA,S.ok.len,(λH=>nD G aq.1),(λH=>nD G aq.2.1),λ_ U n5 ZC cG=>?_,λna=>bt LX na⟩;exact⟨n5,yl s' d.1 d.2.2,m+1,_,_,_,rfl,⟨cG,S.k.post ES,S.ok.post aq.1 aq.2.1 (by omega),S.po.post Zh⟩,λj bq=>.inl bq,λj bq _ _=>bq,Mp⟩
    .have ne:d.2.1≠s'.pr:=λe=>h (cB (by rw[e]));refine⟨A,s',m,_,_,_,rfl,S,λj bq=>(b4 j bq).imp (λh=>by omega) id,λj bq aq e=>?_,Mp⟩;by_cases c:j=i
     .subst c;rw[nq]at e;exact bt e ne
     .exact cM j (by omega) aq e
   .rintro σ Ŕ ⟨A,s',m,iY,rG,vu,rfl,S,b4,cM,Mp⟩;rw[eb,Gw]at b4 cM;have st:∀j,m≤j→j<ao.length→s'.pr<(ao.getD j dV).2.1:=λj ai aj=>by
     have fQ:=(S.k.d.oL j ai aj).2;by_cases e:(ao.getD j dV).2.1=s'.pr
     .have:=cM j aj aj e;omega
     .omega
    refine⟨_,rfl,x,A.ah,_,rfl,S.d.ins,rfl,bQ,x,A,hs,ds,s',98,rfl,S.d,G,S.ok,bY _,λU n5 aV i9 ZC cG s8 atq pR h8=>?_⟩;refine⟨_,rfl,_,_,rfl,rfl,?_⟩;refine⟨_,rfl,(by show 0≤sizeLine;decide),λaz ne1=>?_⟩;have kJ:=cA (o:=.lst []) ne1;have g1:upd U az (.lst []) az=some (.lst []):=aQ;generalize upd U az (.lst [])=ak at kJ g1⊢;obtain⟨wz,t1,et⟩:=S.k.pass la (ST.ok la) st;have Z6:hV hs ds 98 (nO hs ds s'):=(S.ok.pass la).ajc (λss h=>el (wz.b9 ss h) (by decide)) (by
     have ai:=wz.gU;have aj:ds.length*(20*ao.length)≤12*(20*12):=ab6 dl (by omega);omega)
    have lt':∀i,i<m→(ao.getD i dV).2.1<(nO hs ds s').pr:=λi ar=>by
     have ai:(ao.getD i dV).2.1≤s'.pr:=by
      rcases b4 i ar with h|h
      .have:=S.po.ar (ao.getD i dV) (by
        rw[S.k.d.le];refine dY (i:=i) ?_;rw[D6,a8 ar];exact jF h)
       exact this
      .omega
     show _<s'.pr+1;omega
    have Bi:=kJ _ _ pR;have ajU:=bH.f_ h8 λ_ _ e=>e.same kJ;refine⟨.list ((fN ds s').map rW),.list [],.lst (aO.of Bi) (HI ajU),.lst (aO.of g1) .nil,SX _,(by decide+kernel),_,rfl,?_⟩;by_cases b:fN ds s'=[]
    .rw[a8 b]at wz;refine fO (by rw[b];rfl) ⟨_,?_,n5,_,_,_,_,m,idle+1,_,_,_,_,_,rfl,⟨cG.same kJ,wz,Z6,S.po.pass⟩,lt',rfl⟩;have:=et b;omega
    .rw[aX b]at wz;refine eE (by cases e:fN ds s' with|nil=>exact bt e b|cons _ _=>rfl) ⟨_,?_,n5,_,_,_,_,m,0,_,_,_,_,_,rfl,⟨cG.same kJ,wz,Z6,S.po.pass⟩,lt',rfl⟩;have:=t1 b;omega
  .have ar:¬(idle:Int)<24:=λz=>ar (cB z);have mN:m=ao.length:=by
    by_cases c:m<ao.length
    .have fQ:=(S.k.d.oL m (bY _) c).2;have fI:=(km.fA _ (at_ m c)).2;have u0:=S.k.pr;omega
    .have:=S.k.d.B1;omega
   subst mN;exact⟨_,rfl,q x A bQ bU s full go rt idle g6 S.d S.ok S.k (by omega)⟩
unseal hN bJ h4 iK
end
open PySem ag cq aN
section
variable{P:bL}{w:bC}{K:aS}{mg:Str→Option Value}{base:Heap}
noncomputable def z2(s:Step)(y h:Str)(t:Int):Bool:=decide (s.dm≠y)&&(decide (s.dm=h)&&decide (s.due≤t))
noncomputable def I_(C:Addr):b8:=λvs H Q _=>∃(x n g st:Addr)(gs:List Str)(ls:List Addr)(sss:List (List Step))(k:Nat)(ss:List Step)(s:Step)(y h:Str)(t:Int),vs=[.ref x,.int k,.str h,.int t]∧WalkAt C H x n g st gs ls sss∧sss[k]?=some (ss++[s])∧gs[k]?=some y∧Q (.aV (z2 s y h t)) H
noncomputable abbrev yU:Stmt:=fz (top 28) 7
theorem agx:cT ["self","number","house","turn"] ["self","number","house","turn"] (cy yU):=⟨rfl,rfl,rfl,by decide+kernel,rfl,by decide+kernel,by decide+kernel⟩
theorem aeM{C f f1 f2 cc:Addr}{fd cg c_ e5:b5}(F:a_ K "can_leave" "Walk.can_leave" yU f fd)(cm:mC K C)(nd:cR K C "last_house" "Walk.last_house" ve ["self","number"] f1 cg)(Aj:aB P w K mg base aM 1 f1 cg ["self","number"] (Cz C))(kq:cR K C "last_turn" "Walk.last_turn" tf ["self","number"] f2 c_)(ud:aB P w K mg base aM 1 f2 c_ ["self","number"] (xS C))(kr:cR K C "home_turn" "Walk.home_turn" tg ["self","number"] cc e5)(uf:aB P w K mg base aM 2 cc e5 ["self","number"] (xT C)):aB P w K mg base aM 3 f fd ["self","number","house","turn"] (I_ C):=by
 have fh:=cm.cl;refine F.ok agx (λvs H Q E h=>?_) (λcdv A outer s H vs Q E au h=>?_)
 .obtain⟨x,n,g,st,gs,ls,sss,k,ss,s',y,h',t,rfl,_⟩:=h;rfl
 .obtain⟨x,n,g,st,gs,ls,sss,k,ss,s',y,h',t,rfl,W,es,eA,q⟩:=h;obtain⟨ah,ay⟩:=W.ins;refine⟨_,(bu (cO (gN (ix C3 (e3 (ae 0) fh kr.dQ uf (au.mono (by decide)) kr.bd .nil cn (av (ae 1) aJ)) k9 (eh _)) (gN (ix l2 (e3 (ae 0) fh nd.dQ Aj (au.mono (by decide)) nd.bd .nil cn (av (ae 1) aJ)) (ae 2) (eh _)) (j4 (ix mB (e3 (ae 0) fh kq.dQ ud (au.mono (by decide)) kq.bd .nil cn (av (ae 1) aJ)) (ae 3) (eh _))))))),?_⟩;refine⟨_,rfl,x,ah,_,rfl,ay,rfl,_,rfl,x,n,g,st,gs,ls,sss,k,ss,s',y,rfl,W,es,eA,rfl,_,rfl,?_⟩;unfold z2 at q;by_cases ai:s'.dm=y
  .have e:decide (mD s' y=ag.V.bD)=false:=by unfold mD;rw[a8 ai];exact dP (by intro z;cases z)
   rw[dP (λz=>z ai),IA]at q;exact fO e q
  .have e:decide (mD s' y=ag.V.bD)=true:=by unfold mD;rw[aX ai];exact cB rfl
   rw[cB ai,DD]at q;refine eE e ⟨_,rfl,x,ah,_,rfl,ay,rfl,_,rfl,x,n,g,st,gs,ls,sss,k,ss,s',rfl,W,es,_,rfl,rfl,_,rfl,?_⟩;by_cases aj:s'.dm=h'
   .rw[cB aj,DD]at q;exact eE (cB (iP V.str aj)) ⟨_,rfl,x,ah,_,rfl,ay,rfl,_,rfl,x,n,g,st,gs,ls,sss,k,ss,s',rfl,W,es,_,rfl,_,_,rfl,rfl,q⟩
   .rw[dP aj,IA]at q;exact fO (dP λz=>aj (V.str.inj z)) q
noncomputable abbrev Dn:Stmt:=top 29
theorem aeN:cT ["thing"] ["thing"] (cy Dn):=⟨rfl,rfl,rfl,by decide+kernel,rfl,by decide+kernel,by decide+kernel⟩
noncomputable def Iw:b8:=λvs H Q _=>∃(a:Addr)(b:dq×List Nat),vs=[.ref a]∧gO H a b∧b.2≠[]∧b.2.length≤100∧∀U,aH H U→Q (.aV true) U
theorem acE{f f1 f2:Addr}{fd cg c_:b5}(F:a_ K "is_bag" "is_bag" Dn f fd)(B:fo mg)(iv:c1 K mg "is_whole" td ["thing"] f1 cg)(pC:aB P w K mg base aM 1 f1 cg ["thing"] HV)(kT:c1 K mg "is_tuple_of" te ["thing","length"] f2 c_)(sz:aB P w K mg base aM 1 f2 c_ ["thing","length"] HW):aB P w K mg base aM 2 f fd ["thing"] Iw:=by
 refine F.ok aeN (λvs H Q E h=>?_) (λcdv A outer s H vs Q E au h=>?_)
 .obtain⟨a,b,rfl,_⟩:=h;rfl
 .obtain⟨a,b,rfl,⟨c,ai,aj⟩,ne,b9,q⟩:=h;refine⟨_,(bu (cO (gN (ed sz (au.mono (by decide)) (by rfl) kT.at_ kT.fn.b0 kT.bd .nil cn (av (ae 0) (av ba aJ))) (gN (ed pC (au.mono (by decide)) (by rfl) iv.at_ iv.fn.b0 iv.bd .nil cn (av (b_ dE (ae 0) ba (λ_ _=>rfl)) aJ)) (gN (ed pC (au.mono (by decide)) (by rfl) iv.at_ iv.fn.b0 iv.bd .nil cn (av (b_ dE (ae 0) ba (λ_ _=>rfl)) aJ)) (gN (d7 pL (by rfl) B.isinstance nf (av (b_ dE (ae 0) ba (λ_ _=>rfl)) (av (p4 (by rfl) B.tuple Hn) aJ))) (gN (ix vt (d7 h6 (by rfl) B.len hR (av (b_ dE (ae 0) ba (λ_ _=>rfl)) aJ)) ba (eh _)) (j4 (d7 (Ci rfl) (by rfl) B.Aa Dd (av (qd (N':=["number"]) (cs:=[none]) rfl (Ig (b_ dE (ae 0) ba (λ_ _=>rfl))) rfl (by decide+kernel) rfl (by decide+kernel) (iz (λp aW=>bt aW (dN))) rfl
    (.own .nil)
    (λC s3 bp bZ ef=>⟨(d2 (i:=0) (by show(["number"]:List Str).Nodup;decide+kernel) rfl (.inl rfl)),lU,(ed pC (au.mono (by decide)) (by rfl) iv.at_ iv.fn.b0 iv.bd .nil cn (av (ae 0) aJ))⟩)) aJ)))))))))),?_⟩
  have t1:=b1.of (K:=K) ai;have et:=b1.of (K:=K) aj;refine⟨_,rfl,a,_,3,rfl,ai,rfl,_,rfl,gp ?_⟩;refine⟨_,rfl,a,_,_,_,rfl,rfl,t1,rfl,b.1.1,rfl,_,rfl,gp ?_⟩;refine⟨_,rfl,a,_,_,_,rfl,rfl,t1,rfl,b.1.2,rfl,_,rfl,gp ?_⟩;refine⟨_,rfl,a,_,_,_,rfl,rfl,t1,rfl,?_⟩;refine⟨_,_,_,_,_,rfl,⟨rfl,.tup aj,x8 _ _⟩,_,rfl,gp ?_⟩;have pos:0<b.2.length:=tU.mpr ne;refine⟨_,rfl,a,_,_,_,rfl,rfl,t1,rfl,c,_,rfl,.inr et,_,_,rfl,rfl,_,rfl,eE (cB (by rw[a'];omega)) ?_⟩;dsimp only[rE,qa];refine HZ (J:=r6 K c) (H1:=H) (xs:=b.2.map λn:Nat=>V.int n) (rest:=[]) (λR h=>⟨_,rfl,a,_,_,_,rfl,rfl,t1,rfl,c,rfl,⟨_,et⟩,h⟩) rfl (VN et λU aA=>b1.of (aA _ _ aj)) (eZ (by rw[a'];omega)) (λ_=>.aV true) (λi v ak R ev aA k=>?_) (λD ak nM bO qm=>?_)
  .rw[cL]at ev;obtain⟨j,ec,rfl⟩:=ew.mp ev;exact⟨_,rfl,j,rfl,k ak (aH.refl _)⟩
  .refine⟨D,(dt (b.2.map λn:Nat=>V.int n).length).map (λ_=>true),rfl,aO.of (by rw[bO,gJ];rfl),?_⟩;refine oP ?_ (q _ qm);rw[wA];intro z bB;obtain⟨_,_,rfl⟩:=cw.mp bB;rfl
noncomputable abbrev z3:Stmt:=top 30
theorem DS:cT ["numbers","bound","ahead","number"] ["numbers","bound"] (cy z3):=⟨rfl,rfl,rfl,by decide+kernel,rfl,by decide+kernel,by decide+kernel⟩
noncomputable def J4:b8:=λvs H Q _=>∃(c:Addr)(ns:List Nat)(m:Int),vs=[.ref c,.int m]∧H c=some (.tup (ns.map λn:Nat=>V.int n))∧ns.Pairwise (· < ·)∧(∀n∈ns,(n:Int)<m)∧Q (.aV true) H
theorem agy{f:Addr}{fd:b5}(F:a_ K "are_rising_below" "are_rising_below" z3 f fd):aB P w K mg base aM 1 f fd ["numbers","bound"] J4:=by
 refine F.ok DS (λvs H Q E h=>?_) (λcdv A outer s H vs Q E au h=>?_)
 .obtain⟨c,ns,m,rfl,_⟩:=h;rfl
 .obtain⟨c,ns,m,rfl,aG,apt,bP,q⟩:=h;refine⟨_,(a9 (c9 (i:=2) DS.aF rfl (cu rfl) (vr vd ba))
   (a9 (jf iL rfl (Ig (ae 0)) (d2 (i:=3) DS.aF rfl (cu rfl))
    (a9 (eV (jH (xB ru ru (ae 2) (ae 3) (ae 1))) (bu (cO l1)) eT)
   (bu (c9 (i:=2) DS.aF rfl (cu rfl) (ae 3)))))
   (bu (cO l1)))),?_⟩
  refine⟨_,rfl,_,rfl,c,rfl,⟨_,b1.of aG⟩,?_⟩;refine UD (K:=K) (a:=c) (xs:=ns.map λn:Nat=>V.int n) (λj σ dX=>∃(hj:Int)(v:Option ag.V),σ=[some (.ref c),some (.int m),some (.int hj),v]∧dX=H∧∀n,n∈ns.drop j→hj<n) ⟨-1,none,rfl,rfl,λn _=>by omega⟩ (λj σ dX _⟨_,_,_,h,_⟩=>h▸b1.of aG) ?_ ?_
  .rintro j z σ dX di ⟨hj,v,rfl,rfl,aI⟩;rw[cL]at di;obtain⟨n,kA,rfl⟩:=ew.mp di;have bq:=(eR.mp kA).1;have dj:ns[j]=n:=by rw[ct bq]at kA;exact hM kA
   have EP:ns.drop j=n::ns.drop (j+1):=by rw[Jp bq,dj]
   have ai:=aI n (by rw[EP];exact .head _);have aj:=bP n (dY kA);refine⟨_,rfl,_,rfl,_,_,rfl,rfl,_,rfl,?_⟩;refine eE (cB ai) ⟨_,rfl,_,_,rfl,rfl,_,rfl,?_⟩;refine yk aj ?_;refine⟨_,rfl,n,some (.int n),rfl,rfl,λk aT=>?_⟩;have Z_:(ns.drop j).Pairwise (· < ·):=apt.sublist (List.drop_sublist _ _);rw[EP,VC]at Z_;have:=Z_.1 k aT;omega
  .rintro σ dX ⟨hj,v,rfl,rfl,aI⟩;exact q
noncomputable def WT:Option dq→dq→Prop
 |none,_=>True
 |some a,k=>a.1<k.1∨(a.1=k.1∧a.2<k.2)
noncomputable def yv(H:aa)(v:ag.V):Option dq→Prop
 |none=>v=.bD
 |some k=>∃a ns,v=.ref a∧gO H a (k,ns)
theorem yv.same{H U:aa}{v:ag.V}(aA:aH H U):∀{o:Option dq},yv H v o→yv U v o
 |none,h=>h
 |some _,⟨a,ns,e,h⟩=>⟨a,ns,e,h.same aA⟩
structure WU(hs:List (List Nat))(ds:List aN.a5)(gs:List Str)(sss:List (List Step))(hj:Option dq)(b:dq×List Nat):Prop where
 ne:b.2≠[]
 b9:b.2.length≤100
 ord:WT hj b.1
 rd:b.1.2<ds.length
 room:(b.2.length:Int)≤kH ds b.1.2
 φ:b.2.Pairwise (· < ·)
 lt:∀i∈b.2,i<sss.length
 kU:∀i∈b.2,∃ss s y,sss[i]?=some (ss++[s])∧gs[i]?=some y∧z2 s y (rP hs ds b.1.2) b.1.1=true
noncomputable def J5(C aC:Addr):b8:=λvs H Q _=>∃(x n g st aZ a3 fi cQ:Addr)(gs:List Str)(ls rs:List Addr)(sss:List (List Step))(hs:List (List Nat))(ds:List aN.a5)(b:dq×List Nat)(ki:ag.V)(hj:Option dq)(ts:List ag.V),vs=[.ref x,.ref n,.ref cQ,ki,.ref fi]∧WalkAt C H x n g st gs ls sss∧
 ib aC H n aZ a3 (dn hs) (aK rs)∧gL H hs rs ds∧rs.length≤40∧gO H fi b∧yv H ki hj∧H cQ=some (.lst ts)∧ts.length=sss.length∧WU hs ds gs sss hj b∧∀U,aH H U→Q .bD U
noncomputable abbrev z4:Stmt:=top 31
theorem J6:cT ["walk","net","letters","ahead","thing","roads","road"] ["walk","net","letters","ahead","thing"] (cy z4):=⟨rfl,rfl,rfl,by decide+kernel,rfl,by decide+kernel,by decide+kernel⟩
theorem agz{C aC f f1 f2 cc f4:Addr}{fd cg c_ e5 j2:b5}(F:a_ K "reason_against" "reason_against" z4 f fd)(B:fo mg)(fh:d_ K C)(fx:d_ K aC)(Ck:c1 K mg "is_bag" Dn ["thing"] f1 cg)(acF:aB P w K mg base aM 2 f1 cg ["thing"] Iw)(Ai:c1 K mg "are_rising_below" z3 ["numbers","bound"] f2 c_)(apw:aB P w K mg base aM 1 f2 c_ ["numbers","bound"] J4)(sA:cR K aC "roads" "Net.roads" xR ["self"] cc e5)(xo:aB P w K mg base aM 1 cc e5 ["self"] (Ho aC))(FC:cR K C "can_leave" "Walk.can_leave" yU ["self","number","house","turn"] f4 j2)(aqd:aB P w K mg base aM 3 f4 j2 ["self","number","house","turn"] (I_ C)):
  aB P w K mg base aM 4 f fd ["walk","net","letters","ahead","thing"] (J5 C aC):=by
 refine F.ok J6 (λvs H Q E h=>?_) (λcdv A outer s H vs Q E au h=>?_)
 .obtain⟨x,n,g,st,aZ,a3,fi,cQ,gs,ls,rs,sss,hs,ds,b,ki,hj,ts,rfl,_⟩:=h;rfl
 .obtain⟨x,n,g,st,aZ,a3,fi,cQ,gs,ls,rs,sss,hs,ds,b,ki,hj,ts,rfl,W,N,R,b9,sO,Bh,hW,c0,ok,q⟩:=h;refine⟨_,(a9 (eV (jH (k8 (ed acF (au.mono (by decide)) (by rfl) Ck.at_ Ck.fn.b0 Ck.bd .nil cn (av (ae 4) aJ)))) (bu (cO jG)) eT)
   (a9 (eV (lM.pt (aeP (f3 HR (ae 3) k9 (eh _)) (adC (f3 (afV (VU (jo au))) (Hm Vn (ae 4) SE (Cs ba)) (Hm Vn (ae 3) SE (Cs ba)) (eh _))))) (bu (cO jG)) eT)
   (a9 (c9 (i:=5) J6.aF rfl (cu rfl) (pK (ae 1) fx sA.dQ xo (au.mono (by decide)) sA.bd .nil cn))
   (a9 (eV (jH (xB mB ru ba (b_ dE (ae 4) ba (λ_ _=>rfl)) (d7 h6 (by rfl) B.len hR (av (ae 5) aJ)))) (bu (cO jG)) eT)
   (a9 (c9 (i:=6) J6.aF rfl (m_ rfl) (b_ h9 (ae 5) (b_ dE (ae 4) ba (λ_ _=>rfl)) (λ_ _=>rfl)))
   (a9 (eV (f3 vt (d7 h6 (by rfl) B.len hR (av (b_ dE (ae 4) ba (λ_ _=>rfl)) aJ)) (b_ dE (ae 6) ba (λ_ _=>rfl)) (eh _)) (bu (cO jG)) eT)
   (a9 (eV (jH (k8 (ed apw (au.mono (by decide)) (by rfl) Ai.at_ Ai.fn.b0 Ai.bd .nil cn (av (b_ dE (ae 4) ba (λ_ _=>rfl)) (av (d7 h6 (by rfl) B.len hR (av (ae 2) aJ)) aJ))))) (bu (cO jG)) eT)
   (a9 (eV (jH (k8 (d7 (Ci rfl) (by rfl) B.Aa Dd (av (qd (N':=["number","walk","road","thing"]) (cs:=[none,some 0,some 6,some 4]) rfl (Ig (b_ dE (ae 4) ba (λ_ _=>rfl))) rfl (by decide+kernel) rfl (by decide+kernel) (iz (i4.mpr ⟨rfl,(i4.mpr ⟨rfl,(i4.mpr ⟨rfl,(λp aW=>bt aW (dN))⟩)⟩)⟩)) rfl
    (.own (.h_ rfl (.inl rfl) (.inl rfl) rfl (.h_ rfl (.inl rfl) (.inl rfl) rfl (.h_ rfl (.inl rfl) (.inl rfl) rfl .nil))))
    (λC s3 bp bZ ef=>⟨(d2 (i:=0) (by show(["number","walk","road","thing"]:List Str).Nodup;decide+kernel) rfl (.inl rfl)),lU,(e3 (ae 1) fh FC.dQ aqd (au.mono (by decide)) FC.bd .nil cn (av (ae 0) (av (b_ (q_ (K:=K) rfl) (ae 2) ba (λ_ _=>rfl)) (av (b_ (q_ (K:=K) rfl) (ae 3) ba (λ_ _=>rfl)) aJ))))⟩)) aJ)))) (bu (cO jG)) eT)
   (bu (cO k9)))))))))),?_⟩
  refine⟨_,rfl,fi,b,rfl,sO,ok.ne,ok.b9,λH1 s1=>⟨_,rfl,gF ?_⟩⟩;obtain⟨c,g6,hA⟩:=id sO;dsimp only[yi,kd];refine UH (t:=Ej _ _ _) (λcG=>∀ak,aH H ak→cG.cf [some (.ref x),some (.ref n),some (.ref cQ),some ki,some (.ref fi),none,none] ak) ?_ λcG rest=>?_
  .intro ak s2;obtain⟨gw,aw⟩:=N.ins;refine⟨_,rfl,n,gw,_,rfl,s2 _ _ aw,rfl,n,aZ,a3,_,_,rfl,N.same s2,λl nl=>?_⟩;have s3:=s2.trans (cA (o:=.lst (aK rs)) nl);have Nw:=aQ (H:=ak) (a:=l) (o:=.lst (aK rs));generalize upd ak l (.lst (aK rs))=bp at s3 Nw⊢;have t1:=b1.of (K:=K) (s3 _ _ g6);have et:=b1.of (K:=K) (s3 _ _ hA);have eK:=R.len;have rfl':=eb rs;have nx:=ok.rd;refine⟨_,rfl,fi,_,_,_,rfl,rfl,t1,rfl,_,_,rfl,rfl,_,rfl,?_⟩;refine eE (cB (by omega)) ⟨_,rfl,l,_,rfl,.inl (aO.of Nw),_,_,rfl,rfl,_,rfl,?_⟩;refine yk (by omega) ?_;obtain⟨r,d4⟩:∃r,rs[b.1.2]?=some r:=⟨_,ct (by omega)⟩
   obtain⟨d,de,_,hd⟩:=R.get d4;have e0:ds.getD b.1.2 lx=d:=nN de;have Mg:nS hs d=[.str (rP hs ds b.1.2),.str (mW hs ds b.1.2),.int (nR ds b.1.2),.int (kH ds b.1.2)]:=by unfold nS rP mW nR kH;rw[e0]
   rw[Mg]at hd;have eL:=b1.of (K:=K) (s3 _ _ hd);refine⟨_,rfl,_,rfl,fi,_,_,_,rfl,rfl,t1,rfl,l,_,_,_,rfl,rfl,aO.of Nw,(show ag.gj (aK rs) (b.1.2:Int)=some (.ref r)from ja (by unfold aK;rw[cL,d4];rfl)),?_⟩;refine⟨_,rfl,fi,_,_,_,rfl,rfl,t1,rfl,c,_,rfl,.inr et,_,rfl,r,_,_,_,rfl,rfl,eL,rfl,_,_,rfl,rfl,_,rfl,?_⟩;refine fO (dP (by rw[a'];have:=ok.room;omega)) ?_;refine⟨_,rfl,fi,_,_,_,rfl,rfl,t1,rfl,_,rfl,cQ,_,rfl,.inl (aO.of (s3 _ _ hW)),c,b.2,_,rfl,s3 _ _ hA,ok.φ,(λi ar=>by have:=ok.lt i ar;omega),_,rfl,gF ?_⟩;dsimp only[yi,kd,Ej,W0,Rq,rE,qa];have sj:=W.same s3;obtain⟨ah,ay⟩:=sj.ins;refine HZ (J:=r6 K c) (H1:=bp) (xs:=b.2.map λn:Nat=>V.int n) (rest:=[some (.ref x),some (.ref r),some (.ref fi)]) (λR h=>⟨_,rfl,fi,_,_,_,rfl,rfl,t1,rfl,c,rfl,⟨_,et⟩,h⟩) rfl (VN et λU aA=>b1.of (aA _ _ (s3 _ _ hA))) (eZ (by rw[a'];have:=ok.b9;omega)) (λ_=>.aV true) (λi v dw Rr ev aA k=>?_) (λD dw nM bO qm=>?_)
   .rw[cL]at ev;obtain⟨j,ec,rfl⟩:=ew.mp ev;obtain⟨ss,s',y,es,eA,aG⟩:=ok.kU j (dY ec);refine⟨_,rfl,x,ah,_,rfl,aA _ _ ay,rfl,_,rfl,_,rfl,r,_,_,_,rfl,rfl,b1.of (aA _ _ (s3 _ _ hd)),rfl,_,rfl,fi,_,_,_,rfl,rfl,b1.of (aA _ _ (s3 _ _ g6)),rfl,x,n,g,st,gs,ls,sss,j,ss,s',y,_,_,rfl,sj.same aA,es,eA,?_⟩;rw[aG];exact k dw (aH.refl _)
   .refine⟨D,(dt (b.2.map λn:Nat=>V.int n).length).map (λ_=>true),rfl,aO.of (by rw[bO,gJ];rfl),_,rfl,?_⟩;have bc:((dt (b.2.map λn:Nat=>V.int n).length).map (λ_=>true)).all id=true:=by rw[wA];intro z bB;obtain⟨_,_,rfl⟩:=cw.mp bB;rfl
    rw[bc];exact gF (q _ (s3.trans qm))
  .refine⟨_,rfl,rfl,_,rfl,?_⟩;cases hj with
   |none=>
    obtain rfl:ki=.bD:=Bh;exact fO rfl (rest H1 s1)
   |some k0=>
    obtain⟨a0,atx,rfl,jW,ami,asD⟩:=Bh;refine eE rfl ⟨_,rfl,_,rfl,fi,_,rfl,b1.of (s1 _ _ g6),(by show¬((0:Nat)=0∧(2:Nat)=3);omega),λfb GZ=>?_⟩;have s2:=s1.trans (cA (o:=.tup [V.int b.1.1,V.int b.1.2]) GZ);have uO:=aQ (H:=H1) (a:=fb) (o:=.tup [V.int b.1.1,V.int b.1.2]);refine⟨_,rfl,_,rfl,a0,_,rfl,b1.of (s2 _ _ ami),(by show¬((0:Nat)=0∧(2:Nat)=3);omega),λe8 B9=>?_⟩;have s3:=s2.trans (cA (o:=.tup [V.int k0.1,V.int k0.2]) B9);refine⟨fb,e8,_,_,_,_,rfl,rfl,b1.of (cA B9 _ _ uO),b1.of aQ,_,rfl,?_⟩;have atF:k0.1<b.1.1∨(k0.1=b.1.1∧k0.2<b.1.2):=ok.ord;refine fO ?_ (rest _ s3);show(if b.1.1=k0.1 then decide ((b.1.2:Int)≤(k0.2:Int))else decide (b.1.1≤k0.1))=false;split
    .exact dP (by omega)
    .exact dP (by omega)
inductive mm(hs:List (List Nat))(ds:List aN.a5)(gs:List Str):List (List Step)→Option dq→List (dq×List Nat)→List (List Step)→Prop
 |nil {sss hj}:mm hs ds gs sss hj [] sss
 |cons {sss hj b bs fin} (ok:WU hs ds gs sss hj b) (t:mm hs ds gs (kD (stepK hs ds b.1) b.2 sss) (some b.1) bs fin):mm hs ds gs sss hj (b::bs) fin
noncomputable def Xe(eI:List Addr)(fin:List (List Step)):Prop:=eI.length≤99∨∀ss∈fin,ss.length≤100
theorem mm.grow{hs:List (List Nat)}{ds:List aN.a5}{gs:List Str}{sss:List (List Step)}{hj:Option dq}{bs:List (dq×List Nat)}{fin:List (List Step)}(w:mm hs ds gs sss hj bs fin):∀{i:Nat}{ss:List Step},sss[i]?=some ss→∃oW,fin[i]?=some oW∧ss.length≤oW.length:=by
 induction w with
 |nil=>intro i ss e;exact⟨ss,e,bY _⟩
 |cons ok t a7=>
  intro i ss e;obtain⟨oW,ai,aj⟩:=a7 (i:=i) (by rw[pI,e];rfl);refine⟨oW,ai,el ?_ aj⟩;split
  .rw[fT];omega
  .exact bY _
noncomputable def Ja(C aC:Addr):b8:=λvs H Q _=>∃(n aZ a3 cQ pp:Addr)(rs ij eI:List Addr)(g7:List (Str×Int×Str))(hs:List (List Nat))(ds:List aN.a5)(bs:List (dq×List Nat))(fin:List (List Step)),vs=[.ref n,.ref cQ,.ref pp]∧ib aC H n aZ a3 (dn hs) (aK rs)∧gL H hs rs ds∧rs.length≤40∧
 H cQ=some (.lst (aK ij))∧dU H ij (g7.map iU)∧ij.length≤100∧H pp=some (.lst (aK eI))∧bH (gO H) eI bs∧Xe eI fin∧mm hs ds (g7.map λd=>d.2.2) (g7.map e1) none bs fin∧
 ∀(U:aa)(x g st:Addr)(ls:List Addr),aH H U→WalkAt C U x n g st (g7.map λd=>d.2.2) ls fin→Q (.ref x) U
noncomputable abbrev yV:Stmt:=top 32
theorem vb:cT ["net","letters","plan","walk","ahead","place","thing","reason"] ["net","letters","plan"] (cy yV):=⟨rfl,rfl,rfl,by decide+kernel,rfl,by decide+kernel,by decide+kernel⟩
theorem aeO{C aC f f1 f2 cc:Addr}{fd cg c_ e5:b5}(F:a_ K "walk_of" "walk_of" yV f fd)(B:fo mg)(cm:mC K C)(rb:mg "Walk"=some (.ref C))(Ap:c1 K mg "reason_against" z4 ["walk","net","letters","ahead","thing"] f1 cg)(aqF:aB P w K mg base aM 4 f1 cg ["walk","net","letters","ahead","thing"] (J5 C aC))(p2:i6 K C f2)(qR:kl K C "Walk.__init__" tO ["self","net","letters"] f2 c_)(BD:aB P w K mg base aM 2 f2 c_ ["self","net","letters"] (yK C))(nh:cR K C "send" "Walk.send" ww ["self","bag"] cc e5)(BF:aB P w K mg base aM 2 cc e5 ["self","bag"] (Du C aC)):
  aB P w K mg base aM 5 f fd ["net","letters","plan"] (Ja C aC):=by
 have fh:=cm.cl;refine F.ok vb (λvs H Q E h=>?_) (λcdv A outer s H vs Q E au h=>?_)
 .obtain⟨n,aZ,a3,cQ,pp,rs,ij,eI,g7,hs,ds,bs,fin,rfl,_⟩:=h;rfl
 .obtain⟨n,aZ,a3,cQ,pp,rs,ij,eI,g7,hs,ds,bs,fin,rfl,N,R,b9,hW,lE,Mw,FY,FP,Mx,dc,q⟩:=h;refine⟨_,(a9 (c9 (i:=3) vb.aF rfl (cu rfl) (q' p2 BD (au.mono (by decide)) (by rfl) rb qR.bd .nil cn (av (ae 0) (av (ae 1) aJ))))
   (a9 (c9 (i:=4) vb.aF rfl (cu rfl) k9)
   (a9 (jf iL rfl (xP rfl B.enumerate (av (ae 2) aJ)) (C6 rfl (jb (d2 (i:=5) vb.aF rfl (cu rfl)) (jb (d2 (i:=6) vb.aF rfl (cu rfl)) q9)))
    (a9 (c9 (i:=7) vb.aF rfl (cu rfl) (ed aqF (au.mono (by decide)) (by rfl) Ap.at_ Ap.fn.b0 Ap.bd .nil cn (av (ae 3) (av (ae 0) (av (ae 1) (av (ae 4) (av (ae 6) aJ)))))))
   (a9 (eV (f3 HR (ae 7) k9 (eh _)) (bu Hk) eT)
   (a9 (gm (e3 (ae 3) fh nh.dQ BF (au.mono (by decide)) nh.bd .nil cn (av (ae 6) aJ)))
   (bu (c9 (i:=4) vb.aF rfl (cu rfl) (ae 6)))))))
   (bu (cO (ae 3)))))),?_⟩
  refine⟨_,rfl,_,rfl,λx ah cf nP aF=>?_⟩;have mk:∀{b:Addr}{v:d1},H b=some v→upd (upd H ah (.own x)) x (.ins C ah []) b=some v:=λ{b v}e=>by rw[aD (b2 e cf),aD (b2 e nP)];exact e
  refine⟨x,ah,n,cQ,ij,g7,rfl,aQ,mk hW,lE.same (λb v e=>mk e),Mw,λH1 g st gG cF W hD l3 p9 fr aoN=>⟨rfl,?_⟩⟩;have s1:aH H H1:=G_ cf nP cF;have Fv:∀l∈gG,H l=none:=λl aq=>by
   cases e:H l with
   |none=>rfl
   |some o=>have:=(fr l aq).1;rw[mk e]at this;cases this
  obtain⟨bQ,Ao⟩:∃bQ,bQ=mask H1 gG:=⟨_,rfl⟩
  have Q':aH bQ H1:=by rw[Ao];exact xq _ _
  have vg:aH H bQ:=λb o e=>by rw[Ao];exact gD (s1 _ _ e) λaf=>by rw[Fv b af]at e;cases e
  have al8:∀l∈gG,bQ l=none:=λl aq=>by rw[Ao];exact CB aq
  have ç:x∉gG:=λaq=>by have:=(fr x aq).1;rw[aQ]at this;cases this
  have X':g∉gG:=λaq=>(fr g aq).2.2 rfl;have sn:st∉gG:=λaq=>(fr st aq).2.1 rfl;have ED:mE C bQ x n g st (g7.map λd=>d.2.2) gG:=by obtain⟨hT,e⟩:=W.ins;rw[Ao];exact⟨⟨hT,gD e ç⟩,gD W.goals X',gD W.steps sn⟩
  have xC:ij.length=g7.length:=by have:=lE.len;rw[a']at this;exact this
  have apm:=hO FP;have d8:=W.each;clear W cF mk cf nP aF hD l3 fr aoN ç X' sn Fv Ao;refine⟨_,rfl,pp,rfl,⟨_,aO.of (s1 _ _ FY)⟩,?_⟩;refine R8 (K:=K) (a:=pp) (xs:=aK eI) (λj σ dX=>∃(ki:ag.V)(hj:Option dq)(sss:List (List Step))(jP v6 iY:Option ag.V),σ=[some (.ref n),some (.ref cQ),some (.ref pp),some (.ref x),some ki,jP,v6,iY]∧aH bQ dX∧bH (fE dX) gG sss∧yv bQ ki hj∧mm hs ds (g7.map λd=>d.2.2) sss hj (bs.drop j) fin∧sss.length=g7.length∧∀ss∈sss,ss.length≤j+1)
   ⟨.bD,none,g7.map e1,none,none,none,rfl,Q',d8,rfl,dc,a' _,λss hs=>by obtain⟨d,_,rfl⟩:=cw.mp hs;exact bY _⟩ (λj σ dX⟨_,_,_,_,_,_,_,h,_⟩=>aO.of (h _ _ (vg _ _ FY))) ?_ ?_
  .rintro j z σ dX p di ⟨ki,hj,sss,jP,v6,iY,rfl,gd,ec,Bh,yd,ln,uz⟩ np;unfold aK at di;rw[cL]at di;obtain⟨fi,uq,rfl⟩:=ew.mp di;obtain⟨b,Mh,sO⟩:=bH.get FP uq;have asV:=(eR.mp uq).1;have Δ:=cA (o:=.tup [V.int (j:Int),V.ref fi]) np;refine⟨p,_,rfl,b1.of aQ,rfl,?_⟩;have CT:=gd.trans Δ;have Mm:=BX ec Δ;generalize upd dX p (.tup [V.int (j:Int),V.ref fi])=mc at CT Mm⊢;have EP:bs.drop j=b::bs.drop (j+1):=by have bq:=(eR.mp Mh).1;rw[Jp bq];rw[ct bq]at Mh;rw[hM Mh]
   rw[EP]at yd;have aqX:=yd;cases yd with
   |cons ok tail=>
   have nb:=vg.trans CT;refine⟨_,_,rfl,_,_,rfl,rfl,?_⟩;refine⟨_,rfl,_,rfl,_,rfl,_,rfl,_,rfl,x,n,g,st,aZ,a3,fi,cQ,_,gG,rs,sss,hs,ds,b,ki,hj,_,rfl,(ED.same CT).at_ Mm,N.same nb,R.same nb,b9,sO.same nb,Bh.same CT,nb _ _ hW,(by rw[eb,xC,ln]),ok,λarP br=>?_⟩;refine⟨_,rfl,rfl,_,rfl,fO rfl ?_⟩;have Β:=CT.trans br;obtain⟨hT,e7⟩:=ED.ins;refine⟨_,rfl,x,hT,_,rfl,Β _ _ e7,rfl,_,rfl,bQ,x,n,g,st,aZ,a3,fi,_,gG,rs,sss,hs,ds,b,rfl,Β,ED,BX Mm br,p9,al8,N.same vg,R.same vg,sO.same vg,ok.rd,(ok.φ.imp λh=>en h),ok.lt,(λss fa=>by
    rcases Mx with bZ|bZ
    .have:=uz ss fa;omega
    .obtain⟨i,ar⟩:=me fa;obtain⟨oW,ai,aj⟩:=aqX.grow ar;exact el aj (bZ oW (dY ai))),λŕ aA em=>?_⟩
   refine⟨_,rfl,_,some b.1,_,_,_,_,rfl,aA,em,⟨fi,b.2,rfl,sO.same vg⟩,tail,by rw[BW];exact ln,λss fa=>?_⟩;obtain⟨i,ar,rfl⟩:=pe fa;have az:=pI (stepK hs ds b.1) b.2 sss i;rw[ct ar]at az;obtain⟨s0,aE,dj⟩:=ew.mp az.symm;have:=uz s0 (dY aE);rw[←dj];split
   .rw[fT];simp only[i5,qG];omega
   .omega
  .rintro σ dX ⟨ki,hj,sss,jP,v6,iY,rfl,gd,ec,Bh,yd,ln,uz⟩;rw[eb,apm,List.drop_length]at yd;cases yd;exact⟨_,rfl,q dX x g st gG (vg.trans gd) ((ED.same gd).at_ ec)⟩
end
open PySem ag cq aN
section
variable{hs:List (List Nat)}{ds:List aN.a5}{kvs:c2}{gs:List Str}{sss:List (List Step)}{go:List Nat}{rt:Nat→List Nat}{T:Int}
theorem Ń{st:Step}{ns:List Nat}{sss:List (List Step)}{n:Nat}(h:n∉ns):cP (kD st ns sss) n=cP sss n:=by
 unfold cP;rw[cH,pI,cH];cases sss[n]? with
 |none=>rfl
 |some ss=>simp[h]
noncomputable def Jb(hs:List (List Nat))(ds:List aN.a5)(kvs:c2):Prop:=∀h g k,hp kvs h g=some k→rP hs ds k=h
end
open PySem ag cq aN
section
variable{hs:List (List Nat)}{ds:List aN.a5}{kvs:c2}{gs:List Str}{sss fin:List (List Step)}{go:List Nat}{rt:Nat→List Nat}{T:Int}
theorem ac7(R:∀d∈ds,d.Ok hs.length)(ez:iN kvs ds.length)(DC:Jb hs ds kvs)(MC:gs.length≤100)(O:jm hs ds kvs gs sss go rt)(k0:Option dq)(am9:∀gx,k0=some gx→gx.1<T){P:List (dq×List Nat)}(rest:∀k,(∀gx,k=some gx→gx.1≤T)→mm hs ds gs (dy hs ds kvs gs T go sss) k P fin):
  mm hs ds gs sss k0 (f5 ds kvs gs T go sss++P) fin:=by
 have bP:=(O.uE ez).2;have along:∀(eK:List Nat)(k:Option dq)(cur:List (List Step)),eK.Pairwise (· < ·)→(∀r∈eK,r∈iy ds.length (cV sss) (du kvs gs sss) T go)→(∀gx,k=some gx→gx.1<T∨(gx.1=T∧∀r∈eK,gx.2<r))→cur.length=sss.length→(∀ss∈cur,ss≠[])→
   (∀n,(∃r∈eK,n∈(hU ds (cV sss) (du kvs gs sss) T go r).2)→cP cur n=cP sss n)→eU hs ds (eK.map (hU ds (cV sss) (du kvs gs sss) T go)) cur=dy hs ds kvs gs T go sss→mm hs ds gs cur k (eK.map (hU ds (cV sss) (du kvs gs sss) T go)++P) fin:=by
  intro eK
  induction eK with
  |nil=>
   intro k cur _ _ aT _ _ _ es;have es:cur=dy hs ds kvs gs T go sss:=es;rw[es];exact rest k λgx e=>by
    rcases aT gx e with z|z
    .omega
    .omega
  |cons r eK a7=>
   intro k cur up sub aT ln nn same es;rw[VC]at up;have au:=sub r (.head _);have nx:r<ds.length∧dS (cV sss) (du kvs gs sss) T go r≠[]:=by unfold iy at au;obtain⟨ai,aj⟩:=ea.mp au;refine⟨gZ.mp ai,λz=>?_⟩;rw[z]at aj;cases aj
   have oS:ds.getD r lx=ds[r]:=by rw[cH,ct nx.1];rfl
   have jr:1≤kH ds r:=by unfold kH;rw[oS];exact(R _ (jA nx.1)).m.1
   have nl:∀n∈(hU ds (cV sss) (du kvs gs sss) T go r).2,cP cur n=cP sss n:=λn aw=>same n ⟨r,.head _,aw⟩;have lt:∀n∈(hU ds (cV sss) (du kvs gs sss) T go r).2,n<cur.length:=λn aw=>by rw[ln,O.len];exact O.lt n (oF aw).1
   refine .cons ⟨V5 jr nx.2,?_,?_,nx.1,?_,T' (SO O.aF _),lt,λn aw=>?_⟩ (a7 (some (T,r)) _ up.2 (λcE ic=>sub cE (.tail _ ic)) (λgx e=>?_) ?_ ?_ (λn aw=>?_) es)
   .have ai:=ox (I8 (ds:=ds) (due:=cV sss) (rd:=du kvs gs sss) (T:=T) O.aF r) (λn aw=>(gZ.mpr (O.lt n (oF aw).1):n∈dt gs.length));rw[hK]at ai;omega
   .unfold WT;cases k with
    |none=>trivial
    |some gx=>
     rcases aT gx rfl with z|z
     .exact .inl z
     .exact .inr ⟨z.1,z.2 r (.head _)⟩
   .show(((hU ds (cV sss) (du kvs gs sss) T go r).2.length:Nat):Int)≤kH ds r;unfold hU zI;rw[(xu _).length_eq,a',jR];omega
   .have bm:=oF aw;have az:cur[n]?=some (cur.getD n []):=jF (lt n aw);obtain⟨i,eF⟩:=xv (nn _ (dY az));obtain⟨k1,fJ,_,jL,aE,_,_⟩:=(O.way n bm.1).way (O.on n bm.1);have d4:du kvs gs sss n=k1:=by unfold du;rw[aE];rfl
    have af:(cP sss n).dm=rP hs ds r:=by rw[←bm.2.2,d4];exact(DC _ _ _ aE).symm
    refine⟨i,cP cur n,dh gs n,?_,jF (O.lt n bm.1),?_⟩
    .rw[az];congr 1
    .rw[nl n aw];show z2 (cP sss n) (dh gs n) (rP hs ds r) T=true;have hd:(cP sss n).due≤T:=bm.2.1;unfold z2;rw[←af];simp[jL,hd]
   .cases e;exact .inr ⟨rfl,λcE ic=>up.1 cE ic⟩
   .rw[BW];exact ln
   .intro ss fa;obtain⟨i,ar⟩:=me fa;rw[pI]at ar;obtain⟨s0,e0,rfl⟩:=ew.mp ar;have:=nn s0 (dY e0);split
    .simp
    .exact this
   .obtain⟨cE,ic,lb⟩:=aw;rw[Ń (λz=>?_)]
    .exact same n ⟨cE,.tail _ ic,lb⟩
    .have az:=(oF z).2.2;have aE:=(oF lb).2.2;have:=up.1 cE ic;omega
 unfold f5 jl;exact along _ k0 sss (zD.filter _) (λr au=>au) (λgx e=>.inl (am9 gx e)) rfl O.ne (λn _=>rfl) rfl
theorem U'(R:∀d∈ds,d.Ok hs.length)(ez:iN kvs ds.length)(DC:Jb hs ds kvs)(MC:gs.length≤100):∀(m:Nat)(T:Int)(go:List Nat)(sss:List (List Step))(rt:Nat→List Nat)(k:Option dq),jm hs ds kvs gs sss go rt→(∀gx,k=some gx→gx.1≤T)→mm hs ds gs sss k (l8 hs ds kvs gs m T go sss) (eU hs ds (l8 hs ds kvs gs m T go sss) sss)
 |0,T,go,sss,rt,k,_,_=>.nil
 |m+1,T,go,sss,rt,k,O,aT=>by
  unfold l8;by_cases bz:go=[]
  .rw[a8 bz];exact .nil
  .rw[aX bz];have ee:T<nextT T go sss:=by unfold nextT;omega
   have e:∀P,eU hs ds (f5 ds kvs gs (nextT T go sss) go sss++P) sss=eU hs ds P (dy hs ds kvs gs (nextT T go sss) go sss):=λP=>D5 ..;rw[e];exact ac7 R ez DC MC O k (λgx e=>by have:=aT gx e;omega) λk2 FU=>U' R ez DC MC m _ _ _ _ k2 (O.step R ez) FU
end
end fq
namespace cq
open PySem PySem.Spec PyProof.Rows ag
section
variable{X:bh}
theorem ì:j' X (.builtin "isinstance") (λxs H Q=>∃x C t b,xs=[x,.ref C]∧kG X.K H x t∧oi X.K t (.ref C)=some b∧Q (.aV b) H):=by intro pins s σ H xs us Q I r h;obtain⟨x,C,t,b,rfl,ty,e,q⟩:=h;obtain⟨u,eX,rfl,eP,hZ⟩:=vals2 r;cases hZ;exact ß I eP ty e λaP=>⟨.aV b,H,I.tok aP,rfl,q⟩
structure DX(K:aS)(C:Addr):Prop where
 cl:d_ K C
 aI:bE K (.ref C) "__class__"=some (some (.builtin "object.__class__"))
 aw:sg K (.builtin "object.__class__") "__get__"=some (some (.builtin "getset_descriptor.__get__"))
 df:z8 K (.builtin "object.__class__")=some true
 hm:qL K C (.type "object")=some true
theorem DX.ty{K:aS}{C:Addr}(i:DX K C){H:aa}{a ah:Addr}{fs:List (Str×V)}(e:H a=some (.ins C ah fs)):kG K H (.ref a) (.ref C):=.ins e i.cl i.aI i.aw i.df i.hm
structure JH(K:aS)(C:Addr):Prop where
 makes:oj K C=true
 init:bE K (.ref C) "__init__"=some (some (.builtin "object.__init__"))
 b0:i7 K (.ref C)=true
noncomputable def agA(C:Addr):TE:=λ_ H Q=>∀x ah,H x=none→H ah=none→ah≠x→Q (.ref x) (upd (upd H ah (.own x)) x (.ins C ah []))
theorem Ņ{C:Addr}{pins:List (Addr×Obj)}{σ:ag.St}{H:aa}{s:ax}{Q:a6}(M:JH X.K C)(I:Inv X pins σ H s)(h:∀x ah,H x=none→H ah=none→ah≠x→Q (.ref x) (upd (upd H ah (.own x)) x (.ins C ah []))):
  a4 (bg X.prog X.w) X.A (call (.ref C) []) (hI X pins σ Q) X.dA s:=by
 have bI:=Inv.made (C:=C) I;have Y:=Wr (M:=bg X.prog X.w) I.eB M.makes;obtain⟨_,_,_,ay,_⟩:=(show eo X.prog X.w _ _ _ (.ins C s.heap.objs.size [])from bI.bj (s.heap.objs.size+1) _ aQ)
 refine rI (Ř I.eB M.makes M.init (λself=>PySem.W.Looks.of_pure (PySem.W.oi_bind self)) ?_);have t1:wK (bg X.prog X.w) ((s.heap.push oh).push (pg C s.heap.objs.size)) (typeOf (.ref (s.heap.objs.size+1))) (.ref C):=(Wk ay).andThen .now;have et:wK (bg X.prog X.w) ((s.heap.push oh).push (pg C s.heap.objs.size)) (Ga (.ref (s.heap.objs.size+1)) (.type "object")) true:=t1.andThen (Y.top.keeps λb o e=>dJ _ (dJ _ e));refine EJ PySem.W.oi_plain PySem.W.entry_oi (@Wm (bg X.prog X.w) _ _ _ "object.__init__" "object" "__init__" (.ref (s.heap.objs.size+1)) [] [] _ PySem.W.oi_kind PySem.W.oi_split et (PySem.W.oi_args (.ref (s.heap.objs.size+1))) ?_);rw[PySem.W.oi_run];exact bN (And.intro rfl ⟨V.ref (s.heap.objs.size+1),_,bI,rfl,h _ _ (I.bj.fresh (wF _)) (I.bj.fresh (bY _)) (en (wG _))⟩)
theorem acA{C:Addr}{x:Str}{p pos:Pos}(M:JH X.K C)(bz:iJ X x)(hm:X.mg x=some (.ref C))(jh:(x==("__debug__":Str))=false:=by decide):bJ X (.Call (.Name x p) [] [] pos) (agA C):=by intro pins s σ H Q I h;refine vz (sV I bz hm ?_ jh);exact acV I.eB M.b0 (Ņ M I h)
end
end cq
namespace fq
open PySem ag cq aN
noncomputable def Kz(C:Addr)(a:Str):b8:=λvs H Q _=>∃(x ah:Addr)(u:ag.V),vs=[.ref x,u]∧H x=some (.ins C ah [])∧Q .bD (upd H x (.ins C ah [(a,u)]))
noncomputable def wm(C:Addr)(a b:Str):b8:=λvs H Q _=>∃(x ah:Addr)(u v:ag.V),vs=[.ref x,u,v]∧H x=some (.ins C ah [])∧Q .bD (upd H x (.ins C ah [(a,u),(b,v)]))
section
variable{P:bL}{w:bC}{K:aS}{mg:Str→Option Value}{base:Heap}
noncomputable abbrev CJ:Stmt:=fz (top 24) 0
noncomputable abbrev CK:Stmt:=fz (top 25) 0
noncomputable abbrev CI:Stmt:=fz (top 26) 0
theorem aiK:cT ["self","at","since"] ["self","at","since"] (cy CJ):=⟨rfl,rfl,rfl,by decide+kernel,rfl,by decide+kernel,by decide+kernel⟩
theorem ahn{C f:Addr}{fd:b5}(F:a_ K "__init__" "AtHouse.__init__" CJ f fd)(cl:d_ K C)(cI:bE K (.ref C) "at"=some none)(c3:bE K (.ref C) "since"=some none):aB P w K mg base aM 1 f fd ["self","at","since"] (wm C "at" "since"):=by
 refine F.ok aiK (λvs H Q E h=>?_) (λcdv A outer s H vs Q E au h=>?_)
 .obtain⟨x,ah,u,v,rfl,_⟩:=h;rfl
 .obtain⟨x,ah,u,v,rfl,ay,q⟩:=h;refine⟨_,(a9 (iA (ae 0) (ae 1) rfl)
   (bu (iA (ae 0) (ae 2) rfl))),?_⟩
  refine⟨_,rfl,_,rfl,x,C,ah,_,rfl,ay,cl,cI,(by show 0<1000;decide),?_⟩;refine⟨_,rfl,_,rfl,x,C,ah,_,rfl,aQ,cl,c3,(by show 1<1000;decide),?_⟩;show Q .bD (upd (upd H x (.ins C ah [("at",u)])) x (.ins C ah [("at",u),("since",v)]));rw[Cr];exact q
theorem aiL:cT ["self","by","due"] ["self","by","due"] (cy CK):=⟨rfl,rfl,rfl,by decide+kernel,rfl,by decide+kernel,by decide+kernel⟩
theorem aho{C f:Addr}{fd:b5}(F:a_ K "__init__" "OnRoad.__init__" CK f fd)(cl:d_ K C)(cI:bE K (.ref C) "by"=some none)(c3:bE K (.ref C) "due"=some none):aB P w K mg base aM 1 f fd ["self","by","due"] (wm C "by" "due"):=by
 refine F.ok aiL (λvs H Q E h=>?_) (λcdv A outer s H vs Q E au h=>?_)
 .obtain⟨x,ah,u,v,rfl,_⟩:=h;rfl
 .obtain⟨x,ah,u,v,rfl,ay,q⟩:=h;refine⟨_,(a9 (iA (ae 0) (ae 1) rfl)
   (bu (iA (ae 0) (ae 2) rfl))),?_⟩
  refine⟨_,rfl,_,rfl,x,C,ah,_,rfl,ay,cl,cI,(by show 0<1000;decide),?_⟩;refine⟨_,rfl,_,rfl,x,C,ah,_,rfl,aQ,cl,c3,(by show 1<1000;decide),?_⟩;show Q .bD (upd (upd H x (.ins C ah [("by",u)])) x (.ins C ah [("by",u),("due",v)]));rw[Cr];exact q
theorem aiM:cT ["self","since"] ["self","since"] (cy CI):=⟨rfl,rfl,rfl,by decide+kernel,rfl,by decide+kernel,by decide+kernel⟩
theorem ag7{C f:Addr}{fd:b5}(F:a_ K "__init__" "AtHome.__init__" CI f fd)(cl:d_ K C)(cI:bE K (.ref C) "since"=some none):aB P w K mg base aM 1 f fd ["self","since"] (Kz C "since"):=by
 refine F.ok aiM (λvs H Q E h=>?_) (λcdv A outer s H vs Q E au h=>?_)
 .obtain⟨x,ah,u,rfl,_⟩:=h;rfl
 .obtain⟨x,ah,u,rfl,ay,q⟩:=h;refine⟨_,(bu (iA (ae 0) (ae 1) rfl)),?_⟩;exact⟨_,rfl,_,rfl,x,C,ah,_,rfl,ay,cl,cI,(by show 0<1000;decide),q⟩
end
open PySem ag cq aN
inductive J_ where
 |mM
 |at_ (h:Str) (t:Int)
 |on (r:Option Int) (t:Int)
 |hB (t:Int)
structure pj where
 mM:Addr
 at_:Addr
 on:Addr
 hB:Addr
noncomputable def Dp(S:pj)(H:aa)(v:ag.V):J_→Prop
 |.mM=>∃x ah,v=.ref x∧H x=some (.ins S.mM ah [])
 |.at_ h t=>∃x ah,v=.ref x∧H x=some (.ins S.at_ ah [("at",.str h),("since",.int t)])
 |.on r t=>∃x ah,v=.ref x∧H x=some (.ins S.on ah [("by",Xp r),("due",.int t)])
 |.hB t=>∃x ah,v=.ref x∧H x=some (.ins S.hB ah [("since",.int t)])
noncomputable def yn(s:Step)(y:Str)(t:Int):J_:=if t<s.due then .on s.Xq s.due else if s.dm=y then .hB s.due else .at_ s.dm s.due
noncomputable def spotOf(ss:List Step)(y:Str)(t:Int):J_:=match(ss.filter λs=>decide (s.left≤t)).getLast? with
 |none=>.mM
 |some s=>yn s y t
theorem picked{H:aa}{ts:List Addr}{ss:List Step}(cY:dU H ts (ss.map qo))(s0:Step)(q:Step→Bool):
  ∃us,((dt (aK ts).length).filter λi=>q (ss.getD i s0)).map (λi=>(aK ts).getD i .bD)=aK us∧dU H us ((ss.filter q).map qo):=by
 have c0:=cY.len;rw[a']at c0;have eK:=eb ts;have az:ss.filter q=((dt (aK ts).length).filter λi=>q (ss.getD i s0)).map λi=>ss.getD i s0:=by have:=aqg q id s0 ss;rw[Vz]at this;rw[eK,c0,←this];rfl
 refine⟨((dt (aK ts).length).filter λi=>q (ss.getD i s0)).map λi=>ts.getD i 0,?_,?_⟩
 .unfold aK;rw[gJ];refine tV λi ar=>?_;have YR:=gZ.mp (ea.mp ar).1;rw[a']at YR;show((ts.map V.ref)[i]?).getD _=V.ref ((ts[i]?).getD 0);rw[cL,ct YR];rfl
 .rw[az,gJ];generalize ay:(dt (aK ts).length).filter (λi=>q (ss.getD i s0))=idx;have all:∀i∈idx,i<ts.length:=λi ar=>by rw[←ay]at ar;have:=gZ.mp (ea.mp ar).1;omega
  clear ay az
  induction idx with
  |nil=>exact .nil
  |cons i r a7=>
   refine .cons ?_ (a7 λj bq=>all j (.tail _ bq));have ar:=all i (.head _);obtain⟨d,de,hd⟩:=bH.get cY (ct ar);rw[cL]at de;obtain⟨s',bR,rfl⟩:=ew.mp de;show H ((ts[i]?).getD 0)=some (.tup (qo (ss.getD i s0)));rw[nN bR,ct ar];exact hd
theorem ū{H:aa}{us:List Addr}{pre:List Step}{s:Step}(cY:dU H us ((pre++[s]).map qo)):∃ps u,us=ps++[u]∧H u=some (.tup (qo s)):=by
 rcases Jq us with rfl|⟨ps,u,rfl⟩
 .have:=cY.len;simp at this
 .have l:=cY.len;rw[Jn]at *;refine⟨ps,u,rfl,?_⟩;obtain⟨d,de,hd⟩:=bH.get cY (i:=ps.length) (x:=u) (by simp);have pl:ps.length=pre.length:=by simpa using l
  rw[pl,eC,Vu (by rw[a'];omega)]at de;simp at de;rw[←de]at hd;exact hd
section
variable{P:bL}{w:bC}{K:aS}{mg:Str→Option Value}{base:Heap}
noncomputable def Jc(C:Addr)(S:pj):b8:=λvs H Q _=>∃(x n g st:Addr)(gs:List Str)(ls:List Addr)(sss:List (List Step))(k:Nat)(ss:List Step)(y:Str)(t:Int),vs=[.ref x,.int k,.int t]∧WalkAt C H x n g st gs ls sss∧sss[k]?=some ss∧ss.length≤100∧gs[k]?=some y∧∀v U,aH H U→Dp S U v (spotOf ss y t)→Q v U
noncomputable abbrev yW:Stmt:=fz (top 28) 8
theorem Jd:cT ["self","number","turn","begun","last"] ["self","number","turn"] (cy yW):=⟨rfl,rfl,rfl,by decide+kernel,rfl,by decide+kernel,by decide+kernel⟩
theorem aey{C f f1 f2 cc:Addr}{fd cg c_ e5:b5}{S:pj}(F:a_ K "spot_at" "Walk.spot_at" yW f fd)(cm:mC K C)(RN:mg "NotYet"=some (.ref S.mM))(xw:mg "AtHouse"=some (.ref S.at_))(RO:mg "OnRoad"=some (.ref S.on))(xt:mg "AtHome"=some (.ref S.hB))(abO:JH K S.mM)(GQ:i6 K S.at_ f1)(O5:kl K S.at_ "AtHouse.__init__" CJ ["self","at","since"] f1 cg)(aqT:aB P w K mg base aM 1 f1 cg ["self","at","since"] (wm S.at_ "at" "since"))(Hg:i6 K S.on f2)(Pc:kl K S.on "OnRoad.__init__" CK ["self","by","due"] f2 c_)(arn:aB P w K mg base aM 1 f2 c_ ["self","by","due"] (wm S.on "by" "due"))(Hh:i6 K S.hB cc)(Pd:kl K S.hB "AtHome.__init__" CI ["self","since"] cc e5)(arc:aB P w K mg base aM 1 cc e5 ["self","since"] (Kz S.hB "since")):
  aB P w K mg base aM 3 f fd ["self","number","turn"] (Jc C S):=by
 refine F.ok Jd (λvs H Q E h=>?_) (λcdv A outer s H vs Q E au h=>?_)
 .obtain⟨x,n,g,st,gs,ls,sss,k,ss,y,t,rfl,_⟩:=h;rfl
 .obtain⟨x,n,g,st,gs,ls,sss,k,ss,y,t,rfl,W,es,b9,eA,q⟩:=h;obtain⟨ah,ay⟩:=W.ins;refine⟨_,(a9 (oB (i:=3) Jd.aF rfl rfl rfl (N':=["step","turn"]) (cs:=[none,some 2]) rfl (hP (b_ h9 (dT (ae 0) (by rfl)) (ae 1) (λ_ _=>rfl))) rfl (by decide+kernel) rfl (by decide+kernel) (iz (i4.mpr ⟨rfl,(λp aW=>bt aW (dN))⟩)) rfl
    (.own (.h_ rfl (.inl rfl) (.inl rfl) rfl .nil))
    (λC s3 bp bZ ef=>⟨(d2 (i:=0) (by show(["step","turn"]:List Str).Nodup;decide+kernel) rfl (.inl rfl)),(u1 (f3 mB (b_ (q_ (K:=K) rfl) (ae 0) ba (λ_ _=>rfl)) (ae 1) (eh _))),(ae 0)⟩))
   (a9 (eV (jH (Tt (ae 3) (λ_=>rfl))) (bu (cO (acA abO (by rfl) RN))) eT)
   (a9 (c9 (i:=4) Jd.aF rfl (cu rfl) (b_ h9 (ae 3) (vr vd ba) (λ_ _=>rfl)))
   (a9 (eV (f3 vt (b_ dE (ae 4) ba (λ_ _=>rfl)) (ae 2) (eh _)) (bu (cO (q' Hg arn (au.mono (by decide)) (by rfl) RO Pc.bd .nil cn (av (b_ dE (ae 4) ba (λ_ _=>rfl)) (av (b_ dE (ae 4) ba (λ_ _=>rfl)) aJ))))) eT)
   (a9 (eV (f3 l2 (b_ dE (ae 4) ba (λ_ _=>rfl)) (b_ h9 (dT (ae 0) (by rfl)) (ae 1) (λ_ _=>rfl)) (eh _)) (bu (cO (q' Hh arc (au.mono (by decide)) (by rfl) xt Pd.bd .nil cn (av (b_ dE (ae 4) ba (λ_ _=>rfl)) aJ)))) eT)
   (bu (cO (q' GQ aqT (au.mono (by decide)) (by rfl) xw O5.bd .nil cn (av (b_ dE (ae 4) ba (λ_ _=>rfl)) (av (b_ dE (ae 4) ba (λ_ _=>rfl)) aJ)))))))))),?_⟩
  have ln:=hO W.each;have aT:=(eR.mp es).1;obtain⟨l,f7⟩:∃l,ls[k]?=some l:=⟨_,ct (by omega)⟩
  obtain⟨ap6,Au,ts,aq,cY⟩:=bH.get W.each f7;rw[es]at Au;cases Au;have c0:=cY.len;rw[a']at c0;have al:ag.gj (aK ls) (k:Int)=some (.ref l):=ja (by unfold aK;rw[cL,f7];rfl);have nv:=eb ts
  let s0:Step:=⟨0,none,gA "",0⟩
  dsimp only[kd,rR];refine VO (J:=i3 K l) (H1:=H) (xs:=aK ts) (rest:=[some (.int t)]) (λR h=>⟨_,rfl,x,C,ah,_,_,rfl,ay,cm.cl,cm.ns,rfl,_,rfl,st,_,_,_,rfl,rfl,aO.of W.steps,al,l,rfl,⟨_,aO.of aq⟩,h⟩) rfl (nj (aO.of aq)) (eZ (by omega)) (λi=>decide ((ss.getD i s0).left≤t)) (λi=>(aK ts).getD i .bD) (λi v ak R ev aA k2=>?_) (λi v ak R ev aW aA k2=>?_) (λD ak nM bO qm=>?_)
  .unfold aK at ev;rw[cL]at ev;obtain⟨r,d4,rfl⟩:=ew.mp ev;obtain⟨d,de,hd⟩:=bH.get cY d4;rw[cL]at de;obtain⟨s',bR,rfl⟩:=ew.mp de;have e0:ss.getD i s0=s':=nN bR;rw[e0]at k2;exact⟨_,rfl,r,_,_,_,rfl,rfl,b1.of (aA _ _ hd),rfl,_,rfl,_,_,rfl,rfl,_,rfl,k2 ak (aH.refl _)⟩
  .refine⟨_,rfl,?_⟩;rw[nN ev]at k2;exact k2 ak (aH.refl _)
  .obtain⟨us,Av,HP⟩:=picked cY s0 (λs'=>decide (s'.left≤t));rw[Av]at bO;unfold spotOf at q;have ZA:∀{fX hT:Addr}{o:d1},ak fX=none→ak hT=none→aH H (upd (upd ak hT (.own fX)) fX o):=λ{fX hT o}cI c3 b v e=>by have aE:=qm _ _ e;rw[aD (b2 aE cI),aD (b2 aE c3)];exact aE
   have u3:∀{fX hT:Addr}{o mO:d1},ak fX=none→ak hT=none→aH H (upd (upd (upd ak hT (.own fX)) fX o) fX mO):=λ{fX hT o mO}cI c3=>by rw[Cr];exact ZA cI c3
   rcases Jq (ss.filter λs'=>decide (s'.left≤t))with e|⟨pre,s',e⟩
   .rw[e]at HP q;have aqD:us=[]:=by have:=HP.len;exact zC.mp this
    subst aqD;exact⟨_,rfl,false,.inl ⟨_,aO.of bO,rfl⟩,gp λfX hT cI c3 _=>q _ _ (ZA cI c3) ⟨fX,hT,rfl,aQ⟩⟩
   .rw[Jn]at e;rw[e]at HP q;rw[D9,Vw]at q;obtain⟨ps,u,rfl,cj⟩:=ū HP;have anP:=qm _ _ cj;have vo:=b1.of (K:=K) anP;have P2:(aK (ps++[u])).isEmpty=false:=by unfold aK;rw[eC];cases ps<;>rfl
    have p6:ag.gj (aK (ps++[u])) (-1)=some (.ref u):=by unfold aK;rw[eC];exact Rx
    refine⟨_,rfl,true,.inl ⟨_,aO.of bO,by rw[P2];rfl⟩,gF ?_⟩;refine⟨_,rfl,_,rfl,D,_,_,_,rfl,rfl,aO.of bO,p6,?_⟩;refine⟨_,rfl,u,_,_,_,rfl,rfl,vo,rfl,_,rfl,_,_,rfl,rfl,_,rfl,?_⟩;show(if decide (t<s'.due)=true then _ else _);change ∀v U,aH H U→Dp S U v (yn s' y t)→Q v U at q;unfold yn at q;by_cases ai:t<s'.due
    .rw[a8 ai]at q;refine eE (cB ai) ⟨_,rfl,u,_,_,_,rfl,rfl,vo,rfl,_,rfl,u,_,_,_,rfl,rfl,vo,rfl,λfX hT cI c3 _=>⟨fX,hT,_,_,rfl,aQ,rfl,?_⟩⟩;exact q _ _ (u3 cI c3) ⟨fX,hT,rfl,aQ⟩
    .rw[aX ai]at q;refine fO (dP ai) ?_;have LI:ag.gj (gs.map V.str) (k:Int)=some (.str y):=ja (by rw[cL,eA];rfl);refine⟨_,rfl,u,_,_,_,rfl,rfl,vo,rfl,_,rfl,x,C,ah,_,_,rfl,qm _ _ ay,cm.cl,cm.hD,rfl,_,rfl,g,_,_,_,rfl,rfl,aO.of (qm _ _ W.goals),LI,rfl,_,rfl,?_⟩;by_cases aj:s'.dm=y
     .rw[a8 aj]at q;refine eE (cB (iP V.str aj)) ⟨_,rfl,u,_,_,_,rfl,rfl,vo,rfl,λfX hT cI c3 _=>⟨fX,hT,_,rfl,aQ,rfl,?_⟩⟩;exact q _ _ (u3 cI c3) ⟨fX,hT,rfl,aQ⟩
     .rw[aX aj]at q;refine fO (dP λz=>aj (V.str.inj z)) ⟨_,rfl,u,_,_,_,rfl,rfl,vo,rfl,_,rfl,u,_,_,_,rfl,rfl,vo,rfl,λfX hT cI c3 _=>⟨fX,hT,_,_,rfl,aQ,rfl,?_⟩⟩;exact q _ _ (u3 cI c3) ⟨fX,hT,rfl,aQ⟩
end
open PySem ag cq aN
noncomputable def rA(ss:List Step)(y:Str):ag.V:=match ss.getLast? with
 |none=>.bD
 |some s=>mD s y
section
variable{P:bL}{w:bC}{K:aS}{mg:Str→Option Value}{base:Heap}
noncomputable def J0(C aC:Addr):b8:=λvs H Q _=>∃(n aZ a3 cQ pp:Addr)(rs ij eI:List Addr)(g7:List (Str×Int×Str))(hs:List (List Nat))(ds:List aN.a5)(bs:List (dq×List Nat))(fin:List (List Step)),vs=[.ref n,.ref cQ,.ref pp]∧ib aC H n aZ a3 (dn hs) (aK rs)∧gL H hs rs ds∧rs.length≤40∧
 H cQ=some (.lst (aK ij))∧dU H ij (g7.map iU)∧ij.length≤100∧H pp=some (.lst (aK eI))∧bH (gO H) eI bs∧Xe eI fin∧mm hs ds (g7.map λd=>d.2.2) (g7.map e1) none bs fin∧fin.length=g7.length∧(∀ss∈fin,ss≠[])∧
 ∀(U:aa)(D:Addr),H D=none→aH H U→U D=some (.lst ((dt g7.length).map λi=>rA (fin.getD i []) ((g7.map λd=>d.2.2).getD i (gA ""))))→Q (.ref D) U
noncomputable abbrev zY:Stmt:=top 33
theorem WV:cT ["net","letters","plan","walk"] ["net","letters","plan"] (cy zY):=⟨rfl,rfl,rfl,by decide+kernel,rfl,by decide+kernel,by decide+kernel⟩
theorem agB{C aC f f1 f2:Addr}{fd cg c_:b5}(F:a_ K "arrivals" "arrivals" zY f fd)(B:fo mg)(fh:d_ K C)(BZ:c1 K mg "walk_of" yV ["net","letters","plan"] f1 cg)(Ŭ:aB P w K mg base aM 5 f1 cg ["net","letters","plan"] (Ja C aC))(kr:cR K C "home_turn" "Walk.home_turn" tg ["self","number"] f2 c_)(uf:aB P w K mg base aM 2 f2 c_ ["self","number"] (xT C)):
  aB P w K mg base aM 6 f fd ["net","letters","plan"] (J0 C aC):=by
 refine F.ok WV (λvs H Q E h=>?_) (λcdv A outer s H vs Q E au h=>?_)
 .obtain⟨n,aZ,a3,cQ,pp,rs,ij,eI,g7,hs,ds,bs,fin,rfl,_⟩:=h;rfl
 .obtain⟨n,aZ,a3,cQ,pp,rs,ij,eI,g7,hs,ds,bs,fin,rfl,N,R,b9,hW,lE,Mw,FY,FP,Mx,dc,er,al5,q⟩:=h;refine⟨_,(a9 (c9 (i:=3) WV.aF rfl (m_ rfl) (ed Ŭ (au.mono (by decide)) (by rfl) BZ.at_ BZ.fn.b0 BZ.bd .nil cn (av (ae 0) (av (ae 1) (av (ae 2) aJ)))))
   (bu (cO (qd (N':=["number","walk"]) (cs:=[none,some 3]) rfl (BQ rfl B.range (av (d7 h6 (by rfl) B.len hR (av (ae 1) aJ)) aJ)) rfl (by decide+kernel) rfl (by decide+kernel) (iz (i4.mpr ⟨rfl,(λp aW=>bt aW (dN))⟩)) rfl
    (.own (.h_ rfl (.inl rfl) (.inl rfl) rfl .nil))
    (λC s3 bp bZ ef=>⟨(d2 (i:=0) (by show(["number","walk"]:List Str).Nodup;decide+kernel) rfl (.inl rfl)),lU,(e3 (ae 1) fh kr.dQ uf (au.mono (by decide)) kr.bd .nil cn (av (ae 0) aJ))⟩))))),?_⟩
  have oM:ij.length=g7.length:=by have:=lE.len;rw[a']at this;exact this
  have eK:=eb ij;refine⟨_,rfl,_,rfl,_,rfl,n,aZ,a3,cQ,pp,rs,ij,eI,g7,hs,ds,bs,fin,rfl,N,R,b9,hW,lE,Mw,FY,FP,Mx,dc,λH1 x g st ls s1 W=>?_⟩;obtain⟨ah,ay⟩:=W.ins;have anh:=s1 _ _ hW;dsimp only[zz];refine HZ (J:=n' 0 (aK ij).length) (H1:=H1) (xs:=(dt (aK ij).length).map λi:Nat=>V.int ((0:Int)+(i:Int))) (rest:=[some (.ref x)]) (λR h=>⟨_,rfl,cQ,_,rfl,.inl (aO.of anh),_,rfl,(by show -(2 ^ 62)≤((aK ij).length:Int);omega),(by show((aK ij).length:Int)<2 ^ 62;omega),h⟩) rfl (R_ 0 _) (eZ (by rw[a',hK];omega))
   (λi=>rA (fin.getD i []) ((g7.map λd:Str×Int×Str=>d.2.2).getD i (gA ""))) (λi v ak R ev aA k=>?_) (λD ak nM bO qm=>?_)
  .rw[cL]at ev;obtain⟨j,ec,rfl⟩:=ew.mp ev;obtain⟨ar,e⟩:=eR.mp ec;rw[hK]at ar;rw[D8]at e;subst e;obtain⟨ss,es⟩:∃ss,fin[i]?=some ss:=⟨_,ct (by omega)⟩
   obtain⟨y,eA⟩:∃y,(g7.map λd=>d.2.2)[i]?=some y:=⟨_,ct (by rw[a'];omega)⟩
   rw[nN es,nN eA]at k;rcases Jq ss with z|⟨pre,s',z⟩
   .exact bt z (al5 ss (dY es))
   .rw[Jn]at z;subst z;unfold rA at k;rw[D9,Vw]at k;refine⟨_,rfl,x,ah,_,rfl,aA _ _ ay,rfl,_,rfl,x,n,g,st,_,ls,fin,i,pre,s',y,?_,W.same aA,es,eA,k ak (aH.refl _)⟩;rw[o'];rfl
  .rw[a',hK,eK,oM]at bO;refine q ak D ?_ (s1.trans qm) bO;cases e:H D with
   |none=>rfl
   |some o=>rw[s1 _ _ e]at nM;cases nM
end
open PySem ag cq aN
section
variable{hs:List (List Nat)}{ds:List aN.a5}{kvs:c2}{ao:List (Str×Int×Str)}{full:List (List Step)}{go:List Nat}{rt:Nat→List Nat}{idle:Nat}{s:dF}{fv:Int}{P:List (dq×List Nat)}
theorem ĝ{α:Type}(p:α→Bool){l:List α}{a:α}(e:l.getLast?=some a)(h:p a=true):(l.filter p).getLast?=some a:=by
 obtain⟨i,rfl⟩:∃i,l=i++[a]:=⟨l.dropLast,by
  have ne:l≠[]:=λz=>by rw[z]at e;cases e
  rw[abd ne]at e;cases e;exact(aa8 ne).symm⟩
 rw[m9];simp[h]
theorem aez(R:∀d∈ds,d.Ok hs.length)(r:Nat):0≤nR ds r:=by
 unfold nR;by_cases h:r<ds.length
 .rw[show ds.getD r lx=ds[r] by rw[cH,ct h];rfl];have:=(R _ (jA h)).t;omega
 .rw[cH,Ju (by omega)];decide
theorem í(R:∀d∈ds,d.Ok hs.length):∀(bs:List (dq×List Nat))(sss:List (List Step)),(∀ss∈sss,∀st∈ss,st.left≤st.due)→∀ss∈eU hs ds bs sss,∀st∈ss,st.left≤st.due
 |[],sss,h=>h
 |b::bs,sss,h=>í R bs _ λss fa st iE=>by
  obtain⟨i,ar⟩:=me fa;rw[pI]at ar;obtain⟨s0,e0,rfl⟩:=ew.mp ar;have h0:=h s0 (dY e0);split at iE
  .rcases hv.mp iE with z|z
   .exact h0 st z
   .rw[gK.mp z];show b.1.1≤b.1.1+nR ds b.1.2;have:=aez R b.1.2;omega
  .exact h0 st iE
theorem Kept.left{m:Nat}(R:∀d∈ds,d.Ok hs.length)(K:Kept hs ds kvs ao fv P full go rt m idle s):∀ss∈full,∀st,ss.getLast?=some st→st.left≤st.due:=λss fa st e=>by rw[K.walk]at fa;refine í R _ _ (λss fa st iE=>?_) ss fa st (List.mem_of_getLast? e);obtain⟨d,_,rfl⟩:=cw.mp fa;rw[gK.mp iE];exact o9 _
theorem Kept.Rh(R:∀d∈ds,d.Ok hs.length)(K:Kept hs ds kvs ao fv P full go rt ao.length idle s)(FE:24≤idle){n:Nat}(aw:n<ao.length):
  (cP full n).dm=dh (bS ao) n∧spotOf (full.getD n []) (dh (bS ao) n) s.pr=.hB (cP full n).due∨
  (cP full n).dm≠dh (bS ao) n∧full.getD n []=e1 (ao.getD n dV)∧spotOf (full.getD n []) (dh (bS ao) n) s.pr=.at_ (ao.getD n dV).1 (ao.getD n dV).2.1:=by
 have er:full.length=ao.length:=by have:=K.d.ok.len;rw[sS]at this;exact this
 have az:full[n]?=some (full.getD n []):=jF (by omega);have mem:=dY az;have ne:=K.d.ok.ne _ mem;have p6:(full.getD n []).getLast?=some (cP full n):=by obtain⟨i,eF⟩:=xv ne;rw[eF,D9];rfl
 have due:(cP full n).due≤s.pr:=by have ai:=K.due n aw;have aj:=K.pr;unfold cV at ai;omega
 have lf:=K.left R _ mem _ p6;have sp:spotOf (full.getD n []) (dh (bS ao) n) s.pr=yn (cP full n) (dh (bS ao) n) s.pr:=by unfold spotOf;rw[ĝ _ p6 (cB (by omega))]
 have aF:¬s.pr<(cP full n).due:=by omega
 by_cases z:(cP full n).dm=dh (bS ao) n
 .left;refine⟨z,?_⟩;rw[sp];unfold yn;rw[aX aF,a8 z]
 .right;have hD:n∉go:=by rw[(K.done (by omega)).1];exact dN
  have wn:hp kvs (cP full n).dm (dh (bS ao) n)=none:=by
   cases w:hp kvs (cP full n).dm (dh (bS ao) n)with
   |none=>rfl
   |some k=>exact bt ((K.d.mem n aw).mpr ⟨z,by rw[w];rfl⟩) hD
  have fs:=K.jO n aw z wn;refine⟨z,fs,?_⟩;have fQ:cP full n=⟨(ao.getD n dV).2.1,none,(ao.getD n dV).1,(ao.getD n dV).2.1⟩:=by unfold cP;rw[fs];rfl
  rw[sp];unfold yn;rw[aX aF,aX z,fQ]
end
end fq
namespace cq
open PySem PySem.Spec PyProof.Rows
open ag
end cq
namespace fq
open PySem ag cq aN
section
variable{P:bL}{w:bC}{K:aS}{mg:Str→Option Value}{base:Heap}
noncomputable abbrev CQ:Stmt:=top 64
noncomputable abbrev Cm:List Str:=["_law_spot","_law_letter_here","_law_home"]
theorem aiN:cT Cm Cm (cy CQ):=⟨rfl,rfl,rfl,by decide+kernel,rfl,by decide+kernel,by decide+kernel⟩
inductive ag8(S_:pj)(vs:List ag.V)(H:aa)(Q:a6)(E:b6):Prop where
 |dm (v:ag.V) (r:Addr) (d:Str×Int×Str) (bW:vs=[v,.ref r,.bD]) (bG:H r=some (.tup (iU d))) (b4:Dp S_ H v (.at_ d.1 d.2.1)) (cM:Q (.aV true) H)
 |hB (v:ag.V) (r:Addr) (t:Int) (bW:vs=[v,.ref r,.int t]) (bG:Dp S_ H v (.hB t)) (b4:Q (.aV true) H)
noncomputable def KA(S_:pj):b8:=λvs H Q E=>ag8 S_ vs H Q E
theorem ag9{f:Addr}{fd:b5}{S_:pj}(F:a_ K "_law_spot_fits" "_law_spot_fits" CQ f fd)(B:fo mg)(xw:mg "AtHouse"=some (.ref S_.at_))(xt:mg "AtHome"=some (.ref S_.hB))(an2:DX K S_.at_)(an1:DX K S_.hB)(an4:oi K (.ref S_.at_) (.ref S_.at_)=some true)(an3:oi K (.ref S_.hB) (.ref S_.hB)=some true)(Xs:d_ K S_.at_)(akq:d_ K S_.hB)(na:bE K (.ref S_.at_) "at"=some none)(ao7:bE K (.ref S_.at_) "since"=some none)(ao6:bE K (.ref S_.hB) "since"=some none):aB P w K mg base aM 1 f fd Cm (KA S_):=by
 refine F.ok aiN (λvs H Q E h=>?_) (λcdv kj outer s0 H vs Q E au h=>?_)
 .rcases h with⟨v,r,d,rfl,_⟩|⟨v,r,t,rfl,_⟩<;>rfl
 .refine⟨_,(a9 (eV (f3 C3 (ae 2) k9 (eh _)) (bu (cO (gN (d7 ì (by rfl) B.isinstance nf (av (ae 0) (av (Vr (by rfl) xw) aJ))) (gN (ix l2 (dT (ae 0) (by rfl)) (b_ dE (ae 1) ba (λ_ _=>rfl)) (eh _)) (j4 (ix l2 (dT (ae 0) (by rfl)) (b_ dE (ae 1) ba (λ_ _=>rfl)) (eh _))))))) eT)
   (bu (cO (gN (d7 ì (by rfl) B.isinstance nf (av (ae 0) (av (Vr (by rfl) xt) aJ))) (j4 (ix l2 (dT (ae 0) (by rfl)) (ae 2) (eh _))))))),?_⟩
  rcases h with⟨v,r,d,rfl,ic,⟨x,ah,rfl,ay⟩,q⟩|⟨v,r,t,rfl,⟨x,ah,rfl,ay⟩,q⟩
  .refine⟨_,rfl,rfl,_,rfl,eE (cB rfl) ?_⟩;refine⟨_,rfl,_,_,_,_,rfl,an2.ty ay,an4,_,rfl,eE rfl ?_⟩;refine⟨_,rfl,x,S_.at_,ah,_,_,rfl,ay,Xs,na,rfl,_,rfl,r,_,_,_,rfl,rfl,b1.of ic,rfl,rfl,_,rfl,eE (cB rfl) ?_⟩;exact⟨_,rfl,x,S_.at_,ah,_,_,rfl,ay,Xs,ao7,rfl,_,rfl,r,_,_,_,rfl,rfl,b1.of ic,rfl,rfl,oP (cB rfl) q⟩
  .refine⟨_,rfl,rfl,_,rfl,fO (dP (by simp)) ?_⟩;refine⟨_,rfl,_,_,_,_,rfl,an1.ty ay,an3,_,rfl,eE rfl ?_⟩;exact⟨_,rfl,x,S_.hB,ah,_,_,rfl,ay,akq,ao6,rfl,_,rfl,rfl,oP (cB rfl) q⟩
end
open PySem ag cq aN
theorem kv.aj2{hs:List (List Nat)}{ds:List aN.a5}{kvs:c2}(T:kv hs ds kvs)(R:∀d∈ds,d.Ok hs.length):Jb hs ds kvs:=λh g k e=>by
 unfold hp at e;split at e
 .rename_i i bA;obtain⟨h',g',f6,GD,mg,ne,is,ev⟩:=T.get bA;obtain⟨rfl,rfl⟩:=Il f6;cases ev;obtain⟨u,cj⟩:=tY.mp is;obtain⟨i,d,_,gC,gk,sm,_⟩:=SS R cj ne;rw[gC,m8]at e;cases e;unfold rP;rw[nN gk];exact sm
 .cases e
section
variable{hs:List (List Nat)}{ds:List aN.a5}{kvs:c2}{gs:List Str}
theorem aeA(R:∀d∈ds,d.Ok hs.length)(ez:iN kvs ds.length):∀(m:Nat)(T:Int)(go:List Nat)(sss:List (List Step))(rt:Nat→List Nat),jm hs ds kvs gs sss go rt→∀ss∈eU hs ds (l8 hs ds kvs gs m T go sss) sss,ss.length≤20:=by
 have base:∀{go:List Nat}{sss:List (List Step)}{rt:Nat→List Nat},jm hs ds kvs gs sss go rt→∀ss∈sss,ss.length≤20:=λ{go sss rt}O ss h=>by obtain⟨i,ar⟩:=me h;have:=O.b9 i;rw[cH,ar]at this;have:ss.length+(rt i).length≤20:=this;omega
 intro m
 induction m with
 |zero=>exactλT go sss rt O=>base O
 |succ m a7=>
  intro T go sss rt O;unfold l8;by_cases bz:go=[]
  .rw[a8 bz];exact base O
  .rw[aX bz];have e:∀P,eU hs ds (f5 ds kvs gs (nextT T go sss) go sss++P) sss=eU hs ds P (dy hs ds kvs gs (nextT T go sss) go sss):=λP=>D5 ..;rw[e];exact a7 _ _ _ _ (O.step R ez)
theorem acB(R:∀d∈ds,d.Ok hs.length)(ez:iN kvs ds.length):∀(m:Nat)(T:Int)(go:List Nat)(sss:List (List Step))(rt:Nat→List Nat),jm hs ds kvs gs sss go rt→∀ss∈eU hs ds (l8 hs ds kvs gs m T go sss) sss,ss≠[]:=by
 intro m
 induction m with
 |zero=>exactλT go sss rt O=>O.ne
 |succ m a7=>
  intro T go sss rt O;unfold l8;by_cases bz:go=[]
  .rw[a8 bz];exact O.ne
  .rw[aX bz];have e:∀P,eU hs ds (f5 ds kvs gs (nextT T go sss) go sss++P) sss=eU hs ds P (dy hs ds kvs gs (nextT T go sss) go sss):=λP=>D5 ..;rw[e];exact a7 _ _ _ _ (O.step R ez)
end
structure WW(hs:List (List Nat))(ds:List aN.a5)(ao:List (Str×Int×Str))(P:List (dq×List Nat))(fin:List (List Step)):Prop where
 dc:mm hs ds (ao.map λd=>d.2.2) (ao.map e1) none P fin
 len:fin.length=ao.length
 b9:∀ss∈fin,ss.length≤100
 ne:∀ss∈fin,ss≠[]
theorem PP{hs:List (List Nat)}{ds:List aN.a5}{kvs:c2}{ao:List (Str×Int×Str)}(A:kv hs ds kvs)(R:∀d∈ds,d.Ok hs.length)(b9:hs.length≤12)(BP:ao.length≤100)(jj:∀d∈ao,d.1∈hs.map S∧d.2.2∈hs.map S∧d.1≠d.2.2):WW hs ds ao (rN hs ds kvs ao) (eU hs ds (rN hs ds kvs ao) (ao.map e1)):=by obtain⟨rt,O,_⟩:=RD (kvs:=kvs) R (A.ok R) b9 BP jj;exact⟨U' R (A.ok R) (A.aj2 R) (by rw[a'];exact BP) 1300 (-1) _ _ rt none O (λgx e=>nomatch e),by rw[uV,a'],λss h=>el (aeA R (A.ok R) 1300 (-1) _ _ rt O ss h) (by decide),acB R (A.ok R) 1300 (-1) _ _ rt O⟩
theorem aeB{K:aS}{wi:TI}{cs:List (Option Nat)}{b7:TE}{σ rest:ag.St}{H:aa}{Q:a6}{D0:Addr}{ts:List Addr}{e0:List (Int×Nat)}(hw:∀R:ff→aa→Prop,R (i3 K D0) H→wi σ H R)(fl:gQ cs σ=none::none::rest)(h0:H D0=some (.lst (aK ts)))(cY:dU H ts (e0.map iX))(aq:ts.length<sizeLine)(f:Int×Nat→List ag.V)(elt:∀c∈e0,∀(ak:aa)(R:a6),aH H ak→(∀r bK,aH ak bK→bK r=some (.tup (f c))→R (.ref r) bK)→b7 (some (.int c.1)::some (.int (c.2:Int))::rest) ak R)(fin:∀(D:Addr)(U:aa)(rs:List Addr),H D=none→U D=some (.lst (aK rs))→dU U rs (e0.map f)→aH H U→Q (.ref D) U):
  lC wi cs (tL K 2 (oO (g4 0) (oO (g4 1) wj))) rL b7 σ H Q:=by
 refine hw _ λD bO=>?_;have c0:=cY.len;rw[a']at c0;refine⟨λi m ys aY U=>m=ts.length-i∧i≤ts.length∧(∃rs,ys=aK rs∧dU U rs ((e0.take i).map f))∧(∃iW mO,aY=iW::mO::rest)∧aH H U∧U D=some (.lst ys),⟨ts.length,by simp,eD _,⟨[],rfl,.nil⟩,⟨none,none,fl⟩,cA bO,aQ⟩,?_⟩;rintro i m ys aY U ⟨rfl,ar,⟨rs,rfl,HN⟩,⟨iW,mO,rfl⟩,aA,eH⟩;obtain⟨gV,ha,gW⟩:=nj (aO.of h0) U aA;rw[eb]at gV ha gW;have apy:=HN.len;rw[a',jR]at apy;refine⟨eH,od (by rw[eb];omega) aq,?_⟩;by_cases bP:i<ts.length
 .refine .inr ⟨ha i bP,λx ak y=>?_⟩;obtain⟨rfl,ex⟩:=gW i x ak bP y;unfold aK at ex;rw[cL]at ex;obtain⟨r,d4,rfl⟩:=ew.mp ex;obtain⟨uk,XC,amQ⟩:=bH.get cY d4;rw[cL]at XC;obtain⟨d,Ar,rfl⟩:=ew.mp XC;have aP:e0.take (i+1)=e0.take i++[d]:=by rw[mf,Ar];rfl
  refine⟨r,_,rfl,b1.of (aA _ _ amQ),rfl,_,_,rfl,_,_,rfl,rfl,?_⟩;refine elt d (dY Ar) ak _ aA λt bK s5 df=>?_;have dW:=s5 _ _ eH;refine⟨dW,ts.length-(i+1),by omega,rfl,bP,⟨rs++[t],qX rs t,?_⟩,⟨_,_,rfl⟩,i8 bO (aA.trans s5),aQ⟩;rw[aP,eC];exact dU.upd (Paired.snoc (F:=λr d=>bK r=some (.tup d)) df (HN.same s5)) dW (by intro d z;cases z)
 .have e:i=ts.length:=by omega
  subst e;rw[c0,mh]at HN;exact .inl ⟨gV,fin D U rs bO eH HN aA⟩
noncomputable def BU(hs:List (List Nat))(dI:List Int)(i:Nat):aN.Lt:=lt hs.length (dI.getD i 0) 0
noncomputable def m1(hs:List (List Nat))(dI:List Int):List (Int×Nat):=(dt dI.length).map λi=>((BU hs dI i).t*12/31,i)
noncomputable def KC(hs:List (List Nat))(dI:List Int)(fv:Int)(c:Int×Nat):Str×Int×Str:=(S (hs.getD (BU hs dI c.2).a []),fv+c.1,S (hs.getD (BU hs dI c.2).b []))
noncomputable def tA(hs:List (List Nat))(dI:List Int)(fv:Int):List (Str×Int×Str):=(jJ (m1 hs dI)).map (KC hs dI fv)
theorem aeC(hs:List (List Nat))(dI:List Int):(m1 hs dI).Nodup:=by unfold m1;refine r_.mpr (D_.imp λh z=>h ?_);exact(Prod.mk.inj z).2
theorem Um{hs:List (List Nat)}{dI:List Int}(aj:2≤hs.length){c:Int×Nat}(h:c∈m1 hs dI):c.2<dI.length∧0≤c.1∧c.1≤11:=by
 obtain⟨i,ar,rfl⟩:=cw.mp h;have o:=WK (n:=hs.length) (by omega) (dI.getD i 0) 0;have ai:=o.lo;have bk:=o.ar;refine⟨gZ.mp ar,?_,?_⟩
 .show 0≤(lt hs.length (dI.getD i 0) 0).t*12/31;omega
 .show(lt hs.length (dI.getD i 0) 0).t*12/31≤11;omega
theorem agC{hs:List (List Nat)}{dI:List Int}{fv:Int}(G:Good hs)(aj:2≤hs.length)(oK:dI.length≤12)(f0:0≤fv)(EZ:fv≤999999900):I0 hs (tA hs dI fv) fv:=by
 have mem:∀d∈tA hs dI fv,∃c,c∈m1 hs dI∧d=KC hs dI fv c:=λd hd=>by obtain⟨c,aG,rfl⟩:=cw.mp hd;exact⟨c,(qQ _).mem_iff.mp aG,rfl⟩
 refine⟨?_,λd hd=>?_,λd hd=>?_,?_,f0,EZ⟩
 .unfold tA;rw[a',(qQ _).length_eq];unfold m1;rw[a',hK];exact oK
 .obtain⟨c,aG,rfl⟩:=mem d hd;have o:=WK (n:=hs.length) (by omega) (dI.getD c.2 0) 0;refine⟨oI o.a,oI o.b,λe=>?_⟩;have az:=JE e;have ai:=o.a;have bk:=o.b;have az:hs.getD (lt hs.length (dI.getD c.2 0) 0).a []=hs.getD (lt hs.length (dI.getD c.2 0) 0).b []:=az;have nn:=o.ne;generalize(lt hs.length (dI.getD c.2 0) 0).a=u at ai az nn;generalize(lt hs.length (dI.getD c.2 0) 0).b=v at bk az nn;rw[cH,cH,ct ai,ct bk]at az;exact nn ((zB G.aF).mp az)
 .obtain⟨c,aG,rfl⟩:=mem d hd;have:=Um aj aG;show fv≤fv+c.1∧fv+c.1≤fv+11;omega
 .unfold tA;rw[r_];refine(Ź (aeC hs dI)).imp λ{a b}h=>?_;show fv+a.1≤fv+b.1;rcases h with z|z
  .omega
  .omega
theorem ŭ{hs:List (List Nat)}{dI:List Int}{fv:Int}:(tA hs dI fv).length=dI.length:=by unfold tA;rw[a',(qQ _).length_eq];unfold m1;rw[a',hK]
theorem V'{H:aa}{hs:List (List Nat)}(G:Good hs){rs:List Addr}{ao:List (Str×Int×Str)}(cY:dU H rs (ao.map iU))(r7:Io hs ao):eg H (aK rs) (ao.map ik):=SR cY λd hd=>⟨nD G (r7 d hd).1,nD G (r7 d hd).2⟩
theorem ņ{H:aa}{vs:List ag.V}{ao:List (Str×Int×Str)}(h:eg H vs (ao.map ik)):qN (.list (ao.map ik))=true:=G' (n:=62) (eg.kU h) (ü _) (by decide)
theorem int_list:∀{xs:List ag.V},(∀x∈xs,∃c:Int,x=.int c)→∃dI:List Int,xs=dI.map V.int
 |[],_=>⟨[],rfl⟩
 |x::xs,h=>by obtain⟨c,rfl⟩:=h x (.head _);obtain⟨dI,rfl⟩:=int_list λy cW=>h y (.tail _ cW);exact⟨c::dI,rfl⟩
theorem Ů{full:List (List Step)}{n:Nat}{y:Str}(ne:full.getD n []≠[]):rA (full.getD n []) y=mD (cP full n) y:=by obtain⟨i,eF⟩:=xv ne;unfold rA;rw[eF,D9,Vw];show mD (qh (full.getD n [])) y=_;rfl
structure aha(ao:List (Str×Int×Str))(P:List (dq×List Nat))(fin:List (List Step))(s:dF):Prop where
 le:s.ao=ao
 cK:s.sss=fin
 gU:s.gU=P
 b9:∀ss∈s.sss,ss.length≤100
 Rh:∀n,n<ao.length→(∃t:Int,rA (fin.getD n []) (dh (bS ao) n)=.int t∧spotOf (fin.getD n []) (dh (bS ao) n) s.pr=.hB t)∨(rA (fin.getD n []) (dh (bS ao) n)=.bD∧spotOf (fin.getD n []) (dh (bS ao) n) s.pr=.at_ (ao.getD n dV).1 (ao.getD n dV).2.1)
theorem Kept.fin{hs:List (List Nat)}{ds:List aN.a5}{kvs:c2}{ao:List (Str×Int×Str)}{full:List (List Step)}{go:List Nat}{rt:Nat→List Nat}{idle:Nat}{s:dF}{fv:Int}{P:List (dq×List Nat)}(R:∀d∈ds,d.Ok hs.length)(K:Kept hs ds kvs ao fv P full go rt ao.length idle s)(FE:24≤idle):aha ao P (eU hs ds P (ao.map e1)) s:=by
 have az:=(K.done (by omega)).2;have er:full.length=ao.length:=by have:=K.d.ok.len;rw[sS]at this;exact this
 have ET:full=eU hs ds P (ao.map e1):=by rw[←az];exact K.walk
 refine⟨by rw[K.d.le,mh],?_,az,λss h=>el (K.b9 ss h) (by decide),λn aw=>?_⟩
 .rw[K.d.cK,←er,mh];exact ET
 .have ne:full.getD n []≠[]:=K.d.ok.ne _ (dY (jF (by omega)));have d9:=Ů (y:=dh (bS ao) n) ne;have sp:=K.Rh R FE aw;rw[←ET,d9];unfold mD;rcases sp with⟨ai,aj⟩|⟨ai,aj,bk⟩
  .left;rw[a8 ai];exact⟨_,rfl,aj⟩
  .right;rw[aX ai];exact⟨rfl,bk⟩
open PySem ag cq aN
section
variable{P:bL}{w:bC}{K:aS}{mg:Str→Option Value}{base:Heap}
noncomputable abbrev zZ:Stmt:=fz (top 57) 10
theorem ahb:cT ["self","number"] ["self","number"] (cy zZ):=⟨rfl,rfl,rfl,by decide+kernel,rfl,by decide+kernel,by decide+kernel⟩
inductive agh(aL C bf aC ek:Addr)(Sp_:pj)(vs:List ag.V)(H:aa)(Q:a6)(E:b6):Prop where
 |mk (bQ:aa) (x:Addr) (A:ej) (hs:List (List Nat)) (ds:List aN.a5) (s:dF) (i:Int) (bW:vs=[.ref x,.int i]) (bG:gn aL C bf aC bQ H x A hs ds s) (b4:s.sss.length=s.ao.length) (cM:∀ss∈s.sss,ss.length≤100)
   (d3:∀n:Nat,i=n→n<s.ao.length→∀v U,aH H U→Dp Sp_ U v (spotOf (s.sss.getD n []) (dh (bS s.ao) n) s.pr)→Q v U) (fK:¬(0≤i∧i<s.ao.length)→∀ah U,H ah=none→aH H U→U ah=some (kM ah [("number",.int i)])→E (.ref ek) (some ah) U)
noncomputable def JX(aL C bf aC ek:Addr)(Sp_:pj):b8:=λvs H Q E=>agh aL C bf aC ek Sp_ vs H Q E
theorem WF{aL C bf aC ek f f1 iQ R:Addr}{Sp_:pj}{fd cg sF:b5}(F:a_ K "spot" "Day.spot" zZ f fd)(B:fo mg)(cb:o1 K aL)(fh:d_ K C)(F_:cR K C "spot_at" "Walk.spot_at" yW ["self","number","turn"] f1 cg)(aqU:aB P w K mg base aM 3 f1 cg ["self","number","turn"] (Jc C Sp_))(sC:lN K mg "RoadError" ek R)(uF:mg "NoLetter"=some (.ref ek))(Gr:i7 K (.ref ek)=true)(Gs:bE K (.ref ek) "__init__"=some (some (.ref iQ)))(Gu:ey K (.ref iQ)=true)(ug:aB P w K mg base aM 1 iQ sF ["self","number"] (wu ek))(Gv:Binds K sF ["self","number"] []):
  aB P w K mg base (i1 P w) 4 f fd ["self","number"] (JX aL C bf aC ek Sp_):=by
 refine G5 F ahb (λvs H Q E h=>?_) (λcdv kj outer s0 H vs Q E au h=>?_)
 .obtain⟨bQ,x,A,hs,ds,s,i,rfl,_⟩:=h;rfl
 .obtain⟨bQ,x,A,hs,ds,s,i,rfl,D,ln,b9,q,gT⟩:=h;refine⟨_,(a9 (eV (jH (xB mB ru ba (ae 1) (d7 h6 (by rfl) B.len hR (av (dT (ae 0) (by rfl)) aJ)))) (bu (B3 sC uF Gr Gs Gu ug (au.mono (by decide)) Gv rfl (av (ae 1) aJ))) eT)
   (bu (cO (e3 (dT (ae 0) (by rfl)) fh F_.dQ aqU (au.mono (by decide)) F_.bd .nil cn (av (ae 1) (av (dT (ae 0) (by rfl)) aJ)))))),?_⟩
  have cQ:(aK A.hu).length=s.ao.length:=by have:=D.pt.len;rw[a']at this;rw[eb];exact this
  have go:¬(0≤i∧i<s.ao.length)→∀e,H e=none→wu ek (V.ref e::[.int i]) (upd H e (j1 e ek)) (λu bp=>u=.bD∧∃ah,bp e=some (j0 e ek ah)∧E (.ref ek) (some ah) (del bp e)) qF:=λlg e ne=>by
   refine⟨e,.int i,rfl,aQ,λah aF mK=>⟨rfl,ah,aQ,?_⟩⟩;have B6:H ah=none:=by rw[aD mK]at aF;exact aF
   have az:del (upd (upd (upd H e (j1 e ek)) ah (kM ah [("number",.int i)])) e (j0 e ek ah)) e=upd H ah (kM ah [("number",.int i)]):=by
    funext b;by_cases af:b=e
    .subst af;rw[R6,aD (b' mK)];exact ne.symm
    .rw[nC af,aD af];by_cases hA:b=ah
     .subst hA;rw[aQ,aQ]
     .rw[aD hA,aD hA,aD af]
   rw[az];exact gT lg ah _ B6 (cA B6) aQ
  refine⟨_,rfl,_,_,rfl,rfl,_,rfl,?_⟩;by_cases h0:0≤i
  .refine eE (cB h0) ⟨_,rfl,x,aL,A.ah,_,_,rfl,D.ins,cb.cl,cb.no,rfl,A.pl,_,rfl,.inl (aO.of D.po),_,_,rfl,rfl,_,rfl,?_⟩;by_cases ai:i<((aK A.hu).length:Int)
   .refine yk ai ?_;rw[cQ]at ai;obtain⟨n,rfl⟩:∃n:Nat,i=(n:Int):=⟨i.toNat,by omega⟩
    have nl:n<s.ao.length:=by omega
    have es:s.sss[n]?=some (s.sss.getD n []):=jF (by omega);have As:(bS s.ao)[n]?=some (dh (bS s.ao) n):=jF (by unfold bS;rw[a'];exact nl);exact⟨_,rfl,x,aL,A.ah,_,_,rfl,D.ins,cb.cl,cb.nw,rfl,A.dc,A.kX,_,rfl,D.wi,rfl,_,rfl,_,rfl,x,aL,A.ah,_,_,rfl,D.ins,cb.cl,cb.np,rfl,A.dc,A.n,A.g,A.br,_,_,_,n,_,_,_,rfl,D.walk,es,b9 _ (dY es),As,λv U aA sp=>q n rfl nl v U aA sp⟩
   .refine eE (by rw[dP ai];rfl) ?_;exact⟨_,rfl,(by show 1≤sizeLine;decide),go λz=>ai (by rw[cQ];exact z.2)⟩
  .refine fO (dP h0) ⟨_,rfl,?_⟩;exact gp ⟨_,rfl,(by show 1≤sizeLine;decide),go λz=>h0 z.1⟩
end
open PySem ag cq aN
theorem aex{K:aS}{wi:TI}{a:Addr}{xs:List ag.V}{cs:List (Option Nat)}{σ rest:ag.St}{b7:TE}{Q:a6}{H H1:aa}(hw:∀R:ff→aa→Prop,R (o_ K a) H1→wi σ H R)(fl:gQ cs σ=none::none::rest)(aI:aO K H1 a xs)(aq:xs.length<sizeLine)(f:Nat→List ag.V)(elt:∀(i:Nat)(x:ag.V)(ak:aa)(R:a6),xs[i]?=some x→aH H1 ak→(∀r bK,aH ak bK→bK r=some (.tup (f i))→R (.ref r) bK)→b7 (some (.int i)::some x::rest) ak R)(fin:∀(D:Addr)(U:aa)(rs:List Addr),H1 D=none→U D=some (.lst (aK rs))→dU U rs ((dt xs.length).map f)→aH H1 U→Q (.ref D) U):
  lC wi cs (tL K 2 (oO (g4 0) (oO (g4 1) wj))) rL b7 σ H Q:=by
 refine hw _ λD bO=>?_;refine⟨λi m ys aY U=>m=xs.length-i∧i≤xs.length∧(∃rs,ys=aK rs∧dU U rs ((dt i).map f))∧(∃iW mO,aY=iW::mO::rest)∧aH H1 U∧U D=some (.lst ys),⟨xs.length,by simp,eD _,⟨[],rfl,.nil⟩,⟨none,none,fl⟩,λb o e=>?_,aQ⟩,?_⟩
 .rw[aD (b2 e bO)];exact e
 .rintro i m ys aY U ⟨rfl,ar,⟨rs,rfl,cY⟩,⟨iW,mO,rfl⟩,aA,eH⟩;have hz:aO K U a xs:=aA.seq aI;have ln:=cY.len;rw[a',hK]at ln;refine⟨eH,od (by rw[eb];omega) aq,?_⟩;by_cases bP:i<xs.length
  .have ex:xs[i]?=some xs[i]:=ct bP;refine .inr ⟨⟨xs,_,hz,ex⟩,λx ak y=>?_⟩;obtain⟨q,fX,bb,rfl,e7,rfl⟩:=y;have Aw:=e7 xs hz;have s2:=cA (o:=.tup [V.int (i:Int),fX]) bb;refine⟨q,_,rfl,b1.of aQ,rfl,_,_,rfl,_,_,rfl,rfl,?_⟩;show b7 (some (.int i)::some fX::rest) _ _;refine elt i fX _ _ Aw (aA.trans s2) λr bK s5 au=>⟨s5 _ _ (s2 _ _ eH),xs.length-(i+1),by omega,rfl,bP,⟨rs++[r],qX rs r,?_⟩,⟨_,_,rfl⟩,λc ob e=>?_,aQ⟩
   .rw[wC,eC];exact dU.upd (Paired.snoc (F:=λr d=>bK r=some (.tup d)) au ((cY.same s2).same s5)) (s5 _ _ (s2 _ _ eH)) (by intro d z;cases z)
   .rw[aD (b2 e bO)];exact s5 _ _ (s2 _ _ (aA _ _ e))
  .have e:i=xs.length:=by omega
   subst e;exact .inl ⟨⟨xs,hz,bY _⟩,fin D U rs bO eH cY aA⟩
end fq
set_option maxHeartbeats 8000000
namespace fq
open PySem ag cq aN
section
variable{P:bL}{w:bC}{K:aS}{mg:Str→Option Value}{base:Heap}
noncomputable abbrev wo:Stmt:=top 65
noncomputable abbrev agi:List Str:=["_law_script","_law_names","_law_cells","_law_lines","_law_first","_law_net","_law_some","_law_order","_law_letters","_law_plan","_law_homes","_law_closed","_law_day","_law_n","_law_letter_here"]
theorem lj:cT agi ["_law_script"] (cy wo):=⟨rfl,rfl,rfl,by decide+kernel,rfl,by decide+kernel,by decide+kernel⟩
seal hN bJ h4 iK
inductive aiO(a fb fM gY:Addr)(fv:Int)(n n8 br cQ pl hm:Addr)(Hs:aa)(i:Nat)(σ:ag.St)(bU:aa):Prop where
 |mk (v11 RR C9 C':Option ag.V) (bW:σ=[some (.ref a),some (.ref fb),some (.ref fM),some (.ref gY),some (.int fv),some (.ref n),some (.ref n8),some (.ref br),some (.ref cQ),some (.ref pl),some (.ref hm),v11,RR,C9,C']) (bG:aH Hs bU)
inductive aiP(a fb fM gY:Addr)(fv:Int)(n n8 br cQ pl hm cl x:Addr)(Hs:aa)(i:Nat)(σ:ag.St)(bU:aa):Prop where
 |mk (C9 C':Option ag.V) (bW:σ=[some (.ref a),some (.ref fb),some (.ref fM),some (.ref gY),some (.int fv),some (.ref n),some (.ref n8),some (.ref br),some (.ref cQ),some (.ref pl),some (.ref hm),some (.ref cl),some (.ref x),C9,C']) (bG:aH Hs bU)
theorem agj{aL C bf aC ek f hy XZ er Fq k7 f1 f2 cc f4 eG Ax XJ f8:Addr}{S_:pj}{fd XR XS XU XW oz cg c_ e5 j2 oy A3 XN XO:b5}(F:a_ K "law" "law" wo f fd)(B:fo mg)(Je:mg "Net"=some (.ref aC))(j3:d_ K aL)(jV:c1 K mg "_law_cell_at" CG ["_law_script","_law_k"] hy XR)(A9:aB P w K mg base aM 1 hy XR ["_law_script","_law_k"] (Kd K))(A_:c1 K mg "_law_houses" Cd ["_law_cell","_law_many"] XZ XS)(ard:aB P w K mg base aM 1 XZ XS ["_law_cell","_law_many"] Ru)(BH:c1 K mg "_law_road" zG ["_law_cell","_law_names"] er XU)(Ğ:aB P w K mg base aM 1 er XU ["_law_cell","_law_names"] JF)(Ba:c1 K mg "_law_letter" yE ["_law_cell","_law_names","_law_base"] Fq XW)(arf:aB P w K mg base aM 1 Fq XW ["_law_cell","_law_names","_law_base"] IU)(DA:i6 K aC k7)(QB:kl K aC "Net.__init__" yJ ["self","houses","roads"] k7 oz)(QC:aB P w K mg base aM 5 k7 oz ["self","houses","roads"] (IS K aC))(pD:c1 K mg "shortest" x6 ["net"] f1 cg)(Qz:aB P w K mg base aM 4 f1 cg ["net"] (Eo bf aC))(yX:c1 K mg "run" zS ["net","letters","ways"] f2 c_)(J9:aB P w K mg base aM 6 f2 c_ ["net","letters","ways"] (JS C bf aC))(BJ:c1 K mg "arrivals" zY ["net","letters","plan"] cc e5)(Ň:aB P w K mg base aM 6 cc e5 ["net","letters","plan"] (J0 C aC))(BI:c1 K mg "_law_kept" CL Ha f4 j2)(Do:aB P w K mg base aM 7 f4 j2 Ha (Ky aL C bf aC))(Aq:c1 K mg "_law_spot_fits" CQ Cm eG oy)(aqG:aB P w K mg base aM 1 eG oy Cm (KA S_))(Gh:cR K aL "letters" "Day.letters" zW ["self"] Ax A3)(arh:aB P w K mg base aM 1 Ax A3 ["self"] (JW aL C bf aC))(Hi:cR K aL "log" "Day.log" z1 ["self"] XJ XN)(ů:aB P w K mg base aM 1 XJ XN ["self"] (J3 aL C bf aC))(GR:cR K aL "spot" "Day.spot" zZ ["self","number"] f8 XO)(ň:aB P w K mg base (i1 P w) 4 f8 XO ["self","number"] (JX aL C bf aC ek S_)):
  aB P w K mg base aM 8 f fd ["_law_script"] (DK K):=by
 refine F.ok lj (λvs H Q E h=>?_) (λcdv A outer s H vs Q E au h=>?_)
 .obtain⟨a,ns,rfl,_⟩:=h;rfl
 .obtain⟨a,ns,rfl,f',NF,q⟩:=h;obtain⟨m,hm⟩:∃m:Nat,2+ns.getD (1:Int).toNat 0%5=(m:Int):=⟨(2+ns.getD (1:Int).toNat 0%5).toNat,by omega⟩
  have asI:2≤m∧m≤6:=by omega
  obtain⟨hs,Ml⟩:∃hs,hs=ra (ns.getD (0:Int).toNat 0) m:=⟨_,rfl⟩
  have G:Good hs:=by rw[Ml];exact arC (by omega)
  have aq:hs.length=m:=by rw[Ml,P8]
  refine⟨_,(a9 (c9 (i:=1) lj.aF rfl (m_ rfl) (ed ard (au.mono (by decide)) (by rfl) A_.at_ A_.fn.b0 A_.bd .nil cn (av (ed A9 (au.mono (by decide)) (by rfl) jV.at_ jV.fn.b0 jV.bd .nil cn (av (ae 0) (av ba aJ))) (av (cS hS ba (cS je (ed A9 (au.mono (by decide)) (by rfl) jV.at_ jV.fn.b0 jV.bd .nil cn (av (ae 0) (av ba aJ))) ba)) aJ))))
   (a9 (oB (i:=2) lj.aF rfl rfl rfl (N':=["_law_k","_law_script"]) (cs:=[none,some 0]) rfl (BQ rfl B.range (av (cS hS ba (cS je (cS oG (ed A9 (au.mono (by decide)) (by rfl) jV.at_ jV.fn.b0 jV.bd .nil cn (av (ae 0) (av ba aJ))) ba) ba)) aJ)) rfl (by decide+kernel) rfl (by decide+kernel) (iz (i4.mpr ⟨rfl,(λp aW=>bt aW (dN))⟩)) rfl
    (.own (.h_ rfl (.inl rfl) (.inl rfl) rfl .nil))
    (λC s3 bp bZ ef=>⟨(d2 (i:=0) (by show(["_law_k","_law_script"]:List Str).Nodup;decide+kernel) rfl (.inl rfl)),lU,(cS hS (ed A9 (au.mono (by decide)) (by rfl) jV.at_ jV.fn.b0 jV.bd .nil cn (av (ae 1) (av (cS hS ba (ae 0)) aJ))) (cS rh (cS rh ba (ae 0)) (ae 0)))⟩))
   (a9 (oB (i:=3) lj.aF rfl rfl rfl (N':=["_law_cell","_law_names"]) (cs:=[none,some 1]) rfl (hP (ae 2)) rfl (by decide+kernel) rfl (by decide+kernel) (iz (i4.mpr ⟨rfl,(λp aW=>bt aW (dN))⟩)) rfl
    (.own (.h_ rfl (.inl rfl) (.inl rfl) rfl .nil))
    (λC s3 bp bZ ef=>⟨(d2 (i:=0) (by show(["_law_cell","_law_names"]:List Str).Nodup;decide+kernel) rfl (.inl rfl)),lU,(ed Ğ (au.mono (by decide)) (by rfl) BH.at_ BH.fn.b0 BH.bd .nil cn (av (ae 0) (av (ae 1) aJ)))⟩))
   (a9 (c9 (i:=4) lj.aF rfl (m_ rfl) (cS je (ed A9 (au.mono (by decide)) (by rfl) jV.at_ jV.fn.b0 jV.bd .nil cn (av (ae 0) (av ba aJ))) (cS x2 (cS Vi ba ba) ba)))
   (a9 (c9 (i:=5) lj.aF rfl (cu rfl) (q' DA QC (au.mono (by decide)) (by rfl) Je QB.bd .nil cn (av (ae 1) (av (ae 3) aJ))))
   (a9 (c9 (i:=6) lj.aF rfl (m_ rfl) (qd (N':=["_law_cell","_law_names"]) (cs:=[none,some 1]) rfl (hP (Hm Uw (ae 0) (Cs ba) (Cs ba))) rfl (by decide+kernel) rfl (by decide+kernel) (iz (i4.mpr ⟨rfl,(λp aW=>bt aW (dN))⟩)) rfl
    (.own (.h_ rfl (.inl rfl) (.inl rfl) rfl .nil))
    (λC s3 bp bZ ef=>⟨(d2 (i:=0) (by show(["_law_cell","_law_names"]:List Str).Nodup;decide+kernel) rfl (.inl rfl)),lU,(ed arf (au.mono (by decide)) (by rfl) Ba.at_ Ba.fn.b0 Ba.bd .nil cn (av (ae 0) (av (ae 1) (av ba aJ))))⟩)))
   (a9 (c9 (i:=7) lj.aF rfl (cu rfl) (d7 ο (by rfl) B.sorted Hb (av (qd (N':=["_law_n","_law_letter_here"]) (cs:=[none,none]) rfl (xP rfl B.enumerate (av (ae 6) aJ)) rfl (by decide+kernel) rfl (by decide+kernel) (iz (λp aW=>bt aW (dN))) rfl
    (.own (.own .nil))
    (λC s3 bp bZ ef=>⟨(CC (K:=K) (n:=2) rfl rfl (jb (d2 (i:=0) (by show(["_law_n","_law_letter_here"]:List Str).Nodup;decide+kernel) rfl (.inl rfl)) (jb (d2 (i:=1) (by show(["_law_n","_law_letter_here"]:List Str).Nodup;decide+kernel) rfl (.inl rfl)) q9))),lU,(nE (av (cS oG (cS rh (b_ (q_ (K:=K) rfl) (ae 1) ba (λ_ _=>rfl)) ba) ba) (av (ae 0) aJ)))⟩)) aJ)))
   (a9 (oB (i:=8) lj.aF rfl rfl rfl (N':=["_law_turn","_law_n","_law_first","_law_some"]) (cs:=[none,none,some 4,some 6]) rfl (hP (ae 7)) rfl (by decide+kernel) rfl (by decide+kernel) (iz (i4.mpr ⟨rfl,(i4.mpr ⟨rfl,(λp aW=>bt aW (dN))⟩)⟩)) rfl
    (.own (.own (.h_ rfl (.inl rfl) (.inl rfl) rfl (.h_ rfl (.inl rfl) (.inl rfl) rfl .nil))))
    (λC s3 bp bZ ef=>⟨(CC (K:=K) (n:=2) rfl rfl (jb (d2 (i:=0) (by show(["_law_turn","_law_n","_law_first","_law_some"]:List Str).Nodup;decide+kernel) rfl (.inl rfl)) (jb (d2 (i:=1) (by show(["_law_turn","_law_n","_law_first","_law_some"]:List Str).Nodup;decide+kernel) rfl (.inl rfl)) q9))),lU,(nE (av (b_ (q_ (K:=K) rfl) (b_ (Sa (K:=K) rfl) (ae 3) (ae 1) (λ_ _=>rfl)) ba (λ_ _=>rfl)) (av (cS hS (ae 2) (ae 0)) (av (b_ (q_ (K:=K) rfl) (b_ (Sa (K:=K) rfl) (ae 3) (ae 1) (λ_ _=>rfl)) ba (λ_ _=>rfl)) aJ))))⟩))
   (a9 (c9 (i:=9) lj.aF rfl (cu rfl) (ed J9 (au.mono (by decide)) (by rfl) yX.at_ yX.fn.b0 yX.bd .nil cn (av (ae 5) (av (ae 8) (av (ed Qz (au.mono (by decide)) (by rfl) pD.at_ pD.fn.b0 pD.bd .nil cn (av (ae 5) aJ)) aJ)))))
   (a9 (c9 (i:=10) lj.aF rfl (cu rfl) (ed Ň (au.mono (by decide)) (by rfl) BJ.at_ BJ.fn.b0 BJ.bd .nil cn (av (ae 5) (av (ae 8) (av (ae 9) aJ)))))
   (a9 (jf iL rfl (hP (jI (av (jI aJ) (av (jI (av (cS x2 (d7 h6 (by rfl) B.len hR (av (ae 3) aJ)) ba) (av ba aJ))) aJ)))) (d2 (i:=11) lj.aF rfl (cu rfl))
    (a9 (c9 (i:=12) lj.aF rfl (cu rfl) (ed Do (au.mono (by decide)) (by rfl) BI.at_ BI.fn.b0 BI.bd .nil cn (av (ae 5) (av (ae 8) (av (ae 4) (av (ae 11) aJ))))))
   (a9 (eV (lM.pt (yw (f3 (Ih au.units) (pK (ae 12) j3 Gh.dQ arh (au.mono (by decide)) Gh.bd .nil cn) (ae 8) (eh _)) (C5 (f3 (Ih au.units) (pK (ae 12) j3 Hi.dQ ů (au.mono (by decide)) Hi.bd .nil cn) (ae 9) (eh _))))) (bu (cO l1)) eT)
   (bu (jf iL rfl (xP rfl B.enumerate (av (ae 8) aJ)) (C6 rfl (jb (d2 (i:=13) lj.aF rfl (cu rfl)) (jb (d2 (i:=14) lj.aF rfl (cu rfl)) q9)))
    (bu (eV (jH (k8 (ed aqG (au.mono (by decide)) (by rfl) Aq.at_ Aq.fn.b0 Aq.bd .nil cn (av (e3 (ae 12) j3 GR.dQ ň (au.mono (by decide)) GR.bd .nil WM (av (ae 13) aJ)) (av (ae 14) (av (b_ h9 (ae 10) (ae 13) (λ_ _=>rfl)) aJ)))))) (bu (cO l1)) eT)))))))
   (bu (cO (ix l2 (d7 h6 (by rfl) B.len hR (av (ae 10) aJ)) (d7 h6 (by rfl) B.len hR (av (ae 8) aJ)) (eh _))))))))))))))),?_⟩
  refine⟨_,rfl,a,ns,0,rfl,f',by decide,_,rfl,a,ns,1,rfl,f',by decide,_,_,rfl,rfl,(by show(0:Int)<5;decide),_,_,rfl,rfl,ns.getD (0:Int).toNat 0,m,?_,by omega,λfb H1 GZ s1 ai=>?_⟩
  .show[V.int _,V.int (2+ns.getD (1:Int).toNat 0%5)]=_;rw[hm]
  rw[←Ml]at ai;have Bg:=s1.seq f';obtain⟨nL,anm⟩:∃nL:Nat,1+ns.getD (1:Int).toNat 0/5%8=(nL:Int):=⟨(1+ns.getD (1:Int).toNat 0/5%8).toNat,by omega⟩
  have ath:nL≤8:=by omega
  obtain⟨cl,alQ⟩:∃cl:Nat→Int,cl=λi:Nat=>ns.getD (3+(i:Int)).toNat 0+31*(i:Int)*(i:Int):=⟨_,rfl⟩
  dsimp only[kd,rR,g4];refine HZ (J:=n' 0 nL) (H1:=H1) (xs:=(dt nL).map λi:Nat=>V.int (0+(i:Int))) (rest:=[some (.ref a)]) (λR h=>⟨_,rfl,a,ns,1,rfl,Bg,by decide,_,_,rfl,rfl,⟨by decide,by decide⟩,_,_,rfl,rfl,(by show(0:Int)<8;decide),_,_,rfl,rfl,_,rfl,?_,?_,?_⟩) rfl (R_ 0 nL) (eZ (by simp;omega)) (λi=>.int (cl i)) (λi v ak R ev aA k=>?_) (λfM ak atm Bc g9=>?_)
  .show -2 ^ 62≤1+ns.getD (1:Int).toNat 0/5%8;omega
  .show 1+ns.getD (1:Int).toNat 0/5%8<2 ^ 62;omega
  .show R (n' 0 (1+ns.getD (1:Int).toNat 0/5%8).toNat) H1;rw[anm,m8];exact h
  .have ar:i<nL∧v=.int (0+(i:Int)):=by rw[cL]at ev;obtain⟨j,ec,rfl⟩:=ew.mp ev;obtain⟨k',iC⟩:=eR.mp ec;rw[D8]at iC;subst iC;rw[hK]at k';exact⟨k',rfl⟩
   obtain⟨ar,rfl⟩:=ar;refine⟨_,rfl,_,rfl,_,_,rfl,rfl,a,ns,3+(0+(i:Int)),rfl,aA.seq Bg,by omega,_,rfl,_,_,rfl,rfl,.inl ⟨by decide,by decide⟩,_,rfl,_,_,rfl,rfl,.inr ⟨by show -(2 ^ 64)<0+(i:Int);omega,by show 0+(i:Int)<2 ^ 64;omega⟩,_,_,rfl,rfl,?_⟩;have:=k ak (aH.refl _);rw[alQ]at this;simp only[o'];exact this
  have xD:((dt nL).map λi:Nat=>V.int (0+(i:Int))).length=nL:=by simp
  rw[xD]at Bc;obtain⟨cs,sD⟩:∃cs:List Int,cs=(dt nL).map cl:=⟨_,rfl⟩
  have Bc:ak fM=some (.lst (cs.map V.int)):=by rw[Bc,sD,gJ];rfl
  have lcs:cs.length=nL:=by rw[sD];simp
  obtain⟨ds,jd⟩:∃ds:List aN.a5,ds=cs.map λc=>GG hs.length c:=⟨_,rfl⟩
  have la:∀d∈ds,d.Ok hs.length:=λd hd=>by rw[jd]at hd;obtain⟨c,_,rfl⟩:=cw.mp hd;exact afX (by omega) c
  have Zp:ds.length=nL:=by rw[jd,a',lcs]
  have sM:=g9 _ _ ai;refine UY (J:=i3 K fM) (H1:=ak) (xs:=cs.map V.int) (rest:=[some (.ref fb)]) (λR h=>⟨_,rfl,fM,rfl,⟨_,aO.of Bc⟩,h⟩) rfl (nj (aO.of Bc)) (eZ (by rw[a'];omega)) (λv=>match v with|.int c=>nS hs (GG hs.length c)|_=>[]) (λi y bp R eA aA bV=>?_) (λgY bp rs atl Yj cY ω=>?_)
  .obtain⟨c,_,rfl⟩:=cw.mp (dY eA);exact⟨_,rfl,_,rfl,c,fb,hs,rfl,aA _ _ sM,by omega,by omega,λdr u7=>bV dr _ (cA u7) aQ⟩
  have aqA:dU bp rs (ds.map (nS hs)):=by rw[jd,gJ];rw[gJ]at cY;exact cY
  have cC:gL bp hs rs ds:=⟨aqA,la⟩
  have b9:rs.length≤8:=by rw[cC.len,Zp];omega
  have Yd:=ω _ _ sM;have FN:=ω.seq (g9.seq Bg);refine⟨_,rfl,a,ns,2,rfl,FN,by decide,_,_,rfl,rfl,⟨by decide,by decide,by decide⟩,_,_,rfl,rfl,_,_,rfl,rfl,(by show(0:Int)<10 ^ (9:Int).toNat - 99;decide),?_⟩;have f0:0≤ns.getD (2:Int).toNat 0%(10 ^ (9:Int).toNat - 99):=kO _ (by decide);have XI:ns.getD (2:Int).toNat 0%(10 ^ (9:Int).toNat - 99)<10 ^ (9:Int).toNat - 99:=lJ _ (by decide);have EZ:ns.getD (2:Int).toNat 0%(10 ^ (9:Int).toNat - 99)≤999999900:=by
   have e:(10:Int) ^ (9:Int).toNat - 99=999999901:=by decide
   rw[e]at XI⊢;omega
  generalize ns.getD (2:Int).toNat 0%(10 ^ (9:Int).toNat - 99)=fv at f0 EZ⊢;clear XI;refine⟨_,rfl,_,rfl,λn gw nn ZM _=>?_⟩;have mk:∀{b:Addr}{v:d1},bp b=some v→upd (upd bp gw (.own n)) n (.ins aC gw []) b=some v:=λ{b v}e=>by rw[aD (b2 e nn),aD (b2 e ZM)];exact e
  refine⟨n,gw,fb,gY,hs,rs,ds,rfl,aQ,mk Yd,G,mk Yj,cC.same (λb v e=>mk e),(by omega),λdw aZ a3 cF Bw amA MZ na nb=>⟨rfl,?_⟩⟩;have qk:aH bp dw:=G_ nn ZM cF;have gy:ib aC dw n aZ a3 (dn hs) (aK rs):=⟨⟨gw,Bw⟩,amA,MZ⟩
  have amt:=cC.same qk;have amw:=qk.seq FN;have amj:=qk _ _ Yd;have FI:=qk _ _ Yj;obtain⟨xs,Mt⟩:∃xs,xs=oZ (ns.map V.int) (some 3) (some 15):=⟨_,rfl⟩
  have oK:xs.length≤12:=by rw[Mt];unfold oZ;have amc:gu.dG (ns.map V.int).length 0 (some ((3:Nat):Int))=min 3 (ns.map V.int).length:=gu.QX _ _ 3;have amd:gu.dG (ns.map V.int).length (ns.map V.int).length (some ((15:Nat):Int))=min 15 (ns.map V.int).length:=gu.QX _ _ 15;rw[show(some (3:Int))=some ((3:Nat):Int)from rfl,show(some (15:Int))=some ((15:Nat):Int)from rfl,amc,amd,jR];omega
  have allI:∀x∈xs,∃c:Int,x=.int c:=λx ay=>by rw[Mt]at ay;unfold oZ at ay;obtain⟨c,_,rfl⟩:=cw.mp (List.mem_of_mem_drop (JA ay));exact⟨c,rfl⟩
  dsimp only;refine abP (K:=K) (Hs:=dw) (xs:=xs) (rest:=[some (.ref fb)]) (λR cC=>⟨_,rfl,_,rfl,_,rfl,a,_,rfl,amw,λp np=>⟨p,rfl,⟨_,aO.of aQ⟩,by have:=cC p np;rw[Mt]at this;exact this⟩⟩) rfl (eZ (by omega)) (λv=>match v with|.int c=>ltV hs (lt hs.length c 0)|_=>[]) (λi y bK R eA aA bV=>?_) (λn8 bK l' MO vm CE=>?_)
  .obtain⟨c,rfl⟩:=allI y (dY eA);exact⟨_,rfl,_,rfl,c,0,fb,hs,rfl,aA _ _ amj,by omega,by omega,λdr u7=>bV dr _ (cA u7) aQ⟩
  have Zv:l'.length=xs.length:=by have:=vm.len;rw[a']at this;exact this
  have aoo:∀i,i<xs.length→∃c:Int,xs[i]?=some (.int c):=λi ar=>by obtain⟨c,e⟩:=allI _ (jA ar);exact⟨c,by rw[ct ar,e]⟩
  obtain⟨dI,XB⟩:=int_list allI;have as5:dI.length=xs.length:=by rw[XB,a']
  have vm:dU bK l' (dI.map λc=>ltV hs (lt hs.length c 0)):=by rw[XB,gJ]at vm;exact vm
  have sat:∀i,i<dI.length→∃r,(aK l')[i]?=some (.ref r)∧bK r=some (.tup (ltV hs (BU hs dI i))):=λi ar=>by
   obtain⟨r,d4⟩:∃r,l'[i]?=some r:=⟨_,ct (by omega)⟩
   obtain⟨d,de,hd⟩:=bH.get vm d4;rw[cL,jF (d:=0) ar]at de;cases de;exact⟨r,by unfold aK;rw[cL,d4];rfl,hd⟩
  have oK:dI.length≤12:=by omega
  have Zv:l'.length=dI.length:=by omega
  clear aoo allI;dsimp only[rE,qa];refine aex (K:=K) (a:=n8) (H1:=bK) (xs:=aK l') (rest:=[]) (λR h=>⟨_,rfl,n8,rfl,⟨_,aO.of MO⟩,h⟩) rfl (aO.of MO) (eZ (by rw[eb];omega)) (λi=>iX ((BU hs dI i).t*12/31,i)) (λi v Ŗ R ev qn bV=>?_) (λğ fY hu atn amq yb lz=>?_)
  .have ar:i<dI.length:=by have:=(eR.mp ev).1;rw[eb]at this;omega
   obtain⟨r,d4,NM⟩:=sat i ar;rw[d4]at ev;cases ev;have F1:=qn _ _ NM;refine⟨_,rfl,r,_,_,_,rfl,rfl,b1.of F1,rfl,_,_,rfl,rfl,.inr ⟨by decide,by decide⟩,_,_,rfl,rfl,⟨by decide,by decide⟩,_,rfl,(by show 2≤sizeLine;decide),λdr u7=>bV dr _ (cA u7) aQ⟩
  have yb:dU fY hu ((m1 hs dI).map iX):=by rw[eb,Zv]at yb;unfold m1;rw[gJ];exact yb
  have aoi:=yb.len;have lor:(m1 hs dI).length=dI.length:=by unfold m1;rw[a',hK]
  rw[a',lor]at aoi;refine⟨ğ,hu,(m1 hs dI).map kF,true,[true],rfl,aO.of amq,Qw yb,(by omega),Sh _,λbr mL=>?_⟩;obtain⟨qt,Mr,HM⟩:=ø yb;rw[show hu.map V.ref=aK hu from rfl,Mr];have QS:=cA (o:=.lst (aK qt)) mL;have NR:upd fY br (.lst (aK qt)) br=some (.lst (aK qt)):=aQ;have Φ:=HM.same QS;have tm:=lz.trans QS;generalize upd fY br (.lst (aK qt))=jy at QS NR Φ tm⊢;have g7:qt.length=dI.length:=by have:=HM.len;rw[a',(qQ _).length_eq,lor]at this;exact this
  have amr:=tm _ _ MO;refine aeB (K:=K) (D0:=br) (ts:=qt) (e0:=jJ (m1 hs dI)) (rest:=[some (.int fv),some (.ref n8)]) (λR h=>⟨_,rfl,br,rfl,⟨_,aO.of NR⟩,h⟩) rfl NR Φ (eZ (by omega)) (λc=>iU (KC hs dI fv c)) (λc aG Ŗ R qn bV=>?_) (λcQ hJ hC B7 hW lE apO=>?_)
  .have amH:=Um (by omega) ((qQ _).mem_iff.mp aG);obtain⟨r,d4,NM⟩:=sat c.2 amH.1;have F1:=qn _ _ (tm _ _ NM);have Yl:=qn _ _ amr;exact⟨_,rfl,_,rfl,n8,_,_,_,rfl,rfl,aO.of Yl,ja d4,r,_,_,_,rfl,rfl,b1.of F1,rfl,_,rfl,_,rfl,_,_,rfl,rfl,_,rfl,_,rfl,n8,_,_,_,rfl,rfl,aO.of Yl,ja d4,r,_,_,_,rfl,rfl,b1.of F1,rfl,(by show 3≤sizeLine;decide),λdr u7=>bV dr _ (cA u7) aQ⟩
  obtain⟨ao,Mn⟩:∃ao,ao=tA hs dI fv:=⟨_,rfl⟩
  have km:I0 hs ao fv:=by rw[Mn];exact agC G (by omega) oK f0 EZ
  have Gw:ao.length=dI.length:=by rw[Mn];exact ŭ
  have lE:dU hJ hC (ao.map iU):=by rw[Mn];unfold tA;rw[gJ];exact lE
  have xC:=lE.len;rw[a']at xC;have as3:=km.b9;have QR:=(CE.trans tm).trans apO;have PS:=gy.same QR;have En:=amt.same QR;have MN:=QR _ _ FI;have xb:hs.length≤12:=by omega
  refine⟨_,rfl,_,rfl,_,rfl,n,aZ,a3,hs,rs,ds,rfl,PS,G,En,(by omega),λy t r1 kvs mM ee Hy agg ST=>?_⟩;refine⟨n,cQ,y,t,aZ,a3,hs,rs,hC,ds,kvs,ao,rfl,Hy _ _ hW,lE.same Hy,(by omega),agg,G,En.same Hy,ST.ok la,km.jj,λpl ō apn p' apP e6 h8=>?_⟩;have CF:=Hy.trans apP;obtain⟨tZ,Me⟩:∃tZ,tZ=rN hs ds kvs ao:=⟨_,rfl⟩
  obtain⟨fin,XD⟩:∃fin,fin=eU hs ds tZ (ao.map e1):=⟨_,rfl⟩
  have Ep:WW hs ds ao tZ fin:=by rw[XD,Me];exact PP ST la xb (by omega) km.jj
  rw[←Me]at h8;have YZ:=CF _ _ hW;have Χ:=lE.same CF;refine⟨_,rfl,_,rfl,_,rfl,n,aZ,a3,cQ,pl,rs,hC,apn,ao,hs,ds,tZ,fin,rfl,PS.same CF,En.same CF,(by omega),YZ,Χ,(by omega),e6,h8,.inr Ep.b9,Ep.dc,Ep.len,Ep.ne,λo8 hm atu CD am4=>?_⟩;have QT:=CF.trans CD;have amn:=QT _ _ MN;have ani:=CD _ _ YZ;have aqB:=Χ.same CD;have anC:=CD _ _ e6;have ajT:=bH.f_ h8 λ_ _ e=>e.same CD;have aoH:=PS.same QT;have adU:=En.same QT;dsimp only;have cJ:1≤rs.length:=by rw[cC.len,Zp];omega
  refine⟨(by show 0≤sizeLine;decide),λjW aoD=>?_⟩;have HA:=cA (o:=.lst []) aoD;have xg:upd o8 jW (.lst []) jW=some (.lst []):=aQ;generalize upd o8 jW (.lst [])=zw at HA xg⊢;refine⟨_,rfl,gY,_,rfl,.inl (aO.of (HA _ _ amn)),_,_,rfl,rfl,(by show 2≤sizeLine;decide),λgM ZI=>?_⟩;have XA:[V.int (((aK rs).length:Int)-1),V.int 0]=[rs.length-1,0].map (λc:Nat=>V.int (c:Int)):=by rw[eb];show _=[V.int ((rs.length-1:Nat):Int),V.int ((0:Nat):Int)];rw[show((rs.length-1:Nat):Int)=(rs.length:Int)-1 by omega];rfl
  have Q_:=cA (o:=.lst [V.int (((aK rs).length:Int)-1),V.int 0]) ZI;have Yz:upd zw gM (.lst [V.int (((aK rs).length:Int)-1),V.int 0]) gM=some (.lst ([rs.length-1,0].map (λc:Nat=>V.int (c:Int)))):=by rw[aQ,XA]
  refine⟨(by show 2≤sizeLine;decide),λoM GY=>⟨oM,rfl,⟨_,aO.of aQ⟩,?_⟩⟩;have s2:aH o8 (upd (upd zw gM (.lst [V.int (((aK rs).length:Int)-1),V.int 0])) oM (.lst [.ref jW,.ref gM])):=(HA.trans Q_).trans (cA GY);have M5:=cA (o:=.lst [.ref jW,.ref gM]) GY _ _ (Q_ _ _ xg);have M6:=cA (o:=.lst [.ref jW,.ref gM]) GY _ _ Yz;have YY:upd (upd zw gM (.lst [V.int (((aK rs).length:Int)-1),V.int 0])) oM (.lst [.ref jW,.ref gM]) oM=some (.lst (aK [jW,gM])):=aQ;show∃W:Nat→Nat→ag.St→aa→Prop,(∃m,W 0 m _ (upd (upd zw gM (.lst [V.int (((aK rs).length:Int)-1),V.int 0])) oM (.lst [.ref jW,.ref gM])))∧_;generalize upd (upd zw gM (.lst [V.int (((aK rs).length:Int)-1),V.int 0])) oM (.lst [.ref jW,.ref gM])=Hs at s2 M5 M6 YY⊢;clear XA;have both:∀(i:Nat)(v:ag.V),(aK [jW,gM])[i]?=some v→∃(cl:Addr)(cs:List Nat),v=.ref cl∧Hs cl=some (.lst (cs.map λc:Nat=>V.int (c:Int)))∧(∀c∈cs,c<ds.length)∧cs.length≤2:=λi v ev=>by
   have dl:ds.length=rs.length:=cC.len.symm
   match i,ev with
   |0,ev=>cases ev;exact⟨jW,[],rfl,M5,(λc h=>nomatch h),by decide⟩
   |1,ev=>
    cases ev;refine⟨gM,_,rfl,M6,λc h=>?_,bY _⟩;simp only[dx,dN,or_false]at h;rcases h with rfl|rfl<;>omega
  have FV:=s2 _ _ ani;have RG:=aqB.same s2;have anB:=s2 _ _ anC;have ajS:=bH.f_ ajT λ_ _ e=>e.same s2;have aoG:=aoH.same s2;have oq:=adU.same s2;have YQ:=s2 _ _ am4;clear M5 M6 Yz xg HA Q_ ZI GY;refine oA (K:=K) (a:=oM) (xs:=aK [jW,gM]) (aiO a fb fM gY fv n n8 br cQ pl hm Hs) ⟨none,none,none,none,rfl,aH.refl _⟩ (λj σ dX _⟨_,_,_,_,_,aA⟩=>aO.of (aA _ _ YY)) ?_ ?_
  .rintro j z σ dX di ⟨v11,RR,C9,C',rfl,aA⟩;obtain⟨cl,cs,rfl,pS,fl,i_⟩:=both j z di;refine⟨_,rfl,_,rfl,_,rfl,_,rfl,n,aZ,a3,cQ,cl,hs,rs,ds,hC,ao,kvs,fv,cs,rfl,aoG.same aA,G,oq.same aA,(by omega),aA _ _ FV,RG.same aA,aA _ _ pS,fl,i_,ST,km,λx hF bQ wg s full go rt idle cF D O Vl FE=>?_⟩;rw[←Me]at Vl;have vH:=Vl.fin la FE;rw[←XD]at vH;have gd:aH Hs wg:=(aA.trans cF).trans D.cF;have w1:=vH.le;refine⟨_,rfl,x,hF.ah,_,rfl,D.ins,rfl,bQ,x,hF,hs,ds,s,rfl,D,λfQ rk=>?_⟩;have kJ:=cA (o:=.lst (aK hF.hu)) rk;have ji:upd wg fQ (.lst (aK hF.hu)) fQ=some (.lst (aK hF.hu)):=aQ;generalize upd wg fQ (.lst (aK hF.hu))=UE at kJ ji⊢;have DG:=D.same kJ;have Rb:=gd.trans kJ;have r7:Io hs ao:=λd hd=>⟨(km.jj d hd).1,(km.jj d hd).2.1⟩
   have t1:=V' G (by rw[←w1];exact DG.pt) r7;have et:=V' G (RG.same Rb) r7;have cX:=ņ t1;refine⟨_,rfl,.list (ao.map ik),.list (ao.map ik),.lst (aO.of ji) (eg.kx t1),.lst (aO.of (Rb _ _ FV)) (eg.kx et),cX,cX,_,rfl,fO (Ur (eg.kU t1)) ?_⟩;refine⟨_,rfl,x,hF.ah,_,rfl,DG.ins,rfl,bQ,x,hF,hs,ds,s,rfl,DG,λfI tb=>?_⟩;have mZ:=cA (o:=.lst (aK hF.i9)) tb;have nv:upd UE fI (.lst (aK hF.i9)) fI=some (.lst (aK hF.i9)):=aQ;generalize upd UE fI (.lst (aK hF.i9))=Ŏ at mZ nv⊢;have Ui:=DG.same mZ;have x9:=Rb.trans mZ;have Θ:=Ui.sp;rw[vH.gU]at Θ;refine⟨_,rfl,.list (tZ.map rW),.list (tZ.map rW),.lst (aO.of nv) (HI Θ),.lst (aO.of (x9 _ _ anB)) (HI (bH.f_ ajS λ_ _ e=>e.same x9)),SX _,SX _,_,rfl,fO (Ur (Ul _)) ?_⟩;have Y0:=x9 _ _ FV;refine⟨_,rfl,cQ,rfl,⟨_,aO.of Y0⟩,?_⟩;refine R8 (K:=K) (a:=cQ) (xs:=aK hC) (aiP a fb fM gY fv n n8 br cQ pl hm cl x Ŏ) ⟨_,_,rfl,aH.refl _⟩ (λj σ dX⟨_,_,_,aA⟩=>aO.of (aA _ _ Y0)) ?_ ?_
   .rintro i v σ bU p ev ⟨aqO,aqP,rfl,sc⟩ np;have sp:=cA (o:=.tup [V.int (i:Int),v]) np;have aW:upd bU p (.tup [V.int (i:Int),v]) p=some (.tup [V.int (i:Int),v]):=aQ;generalize upd bU p (.tup [V.int (i:Int),v])=fB at sp aW⊢;have dg:=sc.trans sp;have uT:i<ao.length:=by have:=(eR.mp ev).1;rw[eb]at this;omega
    unfold aK at ev;rw[cL]at ev;obtain⟨r,d4,rfl⟩:=ew.mp ev;obtain⟨d',kz,nt⟩:=bH.get (RG.same (x9.trans dg)) d4;rw[cL,jF (d:=dV) uT]at kz;cases kz;have Uj:=Ui.same dg;refine⟨p,_,rfl,b1.of aW,rfl,_,_,rfl,_,_,rfl,rfl,?_⟩;refine⟨_,rfl,x,hF.ah,_,rfl,Uj.ins,rfl,_,rfl,bQ,x,hF,hs,ds,s,(i:Int),rfl,Uj,O.len,vH.b9,λkc kA aw v r2 cK C0=>?_,λno=>bt ⟨by omega,by rw[w1];omega⟩ no⟩;have kA:kc=i:=by omega
    subst kA;rw[w1,vH.cK]at C0;have anj:=cK _ _ (dg _ _ (x9 _ _ YQ));have ank:((dt ao.length).map λi=>rA (fin.getD i []) ((ao.map λd=>d.2.2).getD i (gA "")))[kc]?=some (rA (fin.getD kc []) (dh (bS ao) kc)):=by rw[cL,Vv uT];rfl
    refine⟨_,rfl,_,rfl,_,rfl,hm,_,_,_,rfl,rfl,aO.of anj,ja ank,?_⟩;rcases vH.Rh kc uT with⟨t,az,aE⟩|⟨az,aE⟩
    .rw[az];rw[aE]at C0;exact .hB v r t rfl C0 ⟨_,rfl,gF ⟨_,_,rfl,dg.trans cK⟩⟩
    .rw[az];rw[aE]at C0;exact .dm v r (ao.getD kc dV) rfl (cK _ _ nt) C0 ⟨_,rfl,gF ⟨_,_,rfl,dg.trans cK⟩⟩
   .rintro σ bU ⟨aqO,aqP,rfl,sc⟩;exact⟨_,_,_,_,rfl,x9.trans sc⟩
  .rintro σ dX ⟨v11,RR,C9,C',rfl,aA⟩;refine⟨_,rfl,hm,_,rfl,.inl (aO.of (aA _ _ YQ)),_,rfl,cQ,_,rfl,.inl (aO.of (aA _ _ FV)),rfl,oP (cB ?_) (q _)⟩;rw[a',hK,eb,xC]
unseal hN bJ h4 iK
end
open PySem ag cq aN
theorem WA(K:aS)(C:Addr):oi K (.ref C) (.ref C)=some true:=by unfold oi;exact a8 (by simp)
theorem mI{us:List Value}(h:us.length=1):∃a0,us=[a0]:=by
 rcases us with _|⟨a0,_|⟨b,r⟩⟩
 .simp at h
 .exact⟨a0,rfl⟩
 .simp at h
theorem gE{us:List Value}(h:us.length=2):∃a0 a1,us=[a0,a1]:=by
 rcases us with _|⟨a0,_|⟨a1,_|⟨b,r⟩⟩⟩
 .simp at h
 .simp at h
 .exact⟨a0,a1,rfl⟩
 .simp at h
theorem jn{us:List Value}(h:us.length=3):∃a0 a1 a2,us=[a0,a1,a2]:=by
 rcases us with _|⟨a0,_|⟨a1,_|⟨a2,_|⟨b,r⟩⟩⟩⟩
 .simp at h
 .simp at h
 .simp at h
 .exact⟨a0,a1,a2,rfl⟩
 .simp at h
theorem DT{us:List Value}(h:us.length=4):∃a0 a1 a2 h5,us=[a0,a1,a2,h5]:=by
 rcases us with _|⟨a0,_|⟨a1,_|⟨a2,_|⟨h5,_|⟨b,r⟩⟩⟩⟩⟩
 .simp at h
 .simp at h
 .simp at h
 .simp at h
 .exact⟨a0,a1,a2,h5,rfl⟩
 .simp at h
theorem WX{us:List Value}(h:us.length=5):∃a0 a1 a2 h5 jU,us=[a0,a1,a2,h5,jU]:=by
 rcases us with _|⟨a0,_|⟨a1,_|⟨a2,_|⟨h5,_|⟨jU,_|⟨b,r⟩⟩⟩⟩⟩⟩
 .simp at h
 .simp at h
 .simp at h
 .simp at h
 .simp at h
 .exact⟨a0,a1,a2,h5,jU,rfl⟩
 .simp at h
theorem all_mk{l:Wl}{w:bC}{K:aS}{h:Heap}{mg:Str→Option Value}{hy kk hH w5 ir w9 h2 w4 dB w7 AK AN w8 AM AL eu w_ A0 A1 AZ AY dv w' AX AV AQ AS AU AR AP AW d6 w6 AB AE AG AF AD Az Ay AH AA A7 A8 A6 A2 Fl E9 Fm E_ Fj Fz Fp Fn Fo Fd Fy Fh Ft Fc Fx Fi E' Fw FA Fb E3 E4 E7 E6 E5 E8 X4 qC i0 iI o7 qB E0 E1:Addr}{akw akP akv akI akH akM akL akK akJ akZ ak2 ak3 ak1 ak0 akT akY akW akR akU akV akS akQ akX akx akB akD akF akE akC akz aky akG akA alx aly alw ale als alb alu ald alr alI alC alv alB alh alH alp alE alg alG alq alc alF alL alf ak4 ak5 ak8 ak7 ak6 ak9 alA akN akO:b5}(X:K.In h)(G:h.Ns cx mg)(amW:mg "law"=some (.ref hy))(KU:cZ K cx "NotYet"=some (some (.ref kk)))(Qg:om K kk iM=true)(Nf:mj K kk=true)(Qo:qM K kk=true)(Q6:bE K (.ref kk) "__setattr__"=some (some (.builtin "object.__setattr__")))(Pm:oj K kk=true)(O0:i7 K (.ref kk)=true)(KL:cZ K cx "AtHouse"=some (some (.ref hH)))(Qd:om K hH iM=true)(Na:mj K hH=true)(Ql:qM K hH=true)(Q3:bE K (.ref hH) "__setattr__"=some (some (.builtin "object.__setattr__")))(Pj:oj K hH=true)(OX:i7 K (.ref hH)=true)(GL:bE K (.ref hH) "at"=some none)(GN:bE K (.ref hH) "since"=some none)(KI:bE K (.ref hH) "__init__"=some (some (.ref w5)))(N8:ey K (.ref w5)=true)(yZ:a_ K "__init__" "AtHouse.__init__" CJ w5 akw)(KV:cZ K cx "OnRoad"=some (some (.ref ir)))(Qh:om K ir iM=true)(Ng:mj K ir=true)(Qp:qM K ir=true)(Q7:bE K (.ref ir) "__setattr__"=some (some (.builtin "object.__setattr__")))(Pn:oj K ir=true)(O1:i7 K (.ref ir)=true)(PI:bE K (.ref ir) "by"=some none)(PJ:bE K (.ref ir) "due"=some none)(Le:bE K (.ref ir) "__init__"=some (some (.ref w9)))(Ou:ey K (.ref w9)=true)(y2:a_ K "__init__" "OnRoad.__init__" CK w9 akP)(KJ:cZ K cx "AtHome"=some (some (.ref h2)))(Qc:om K h2 iM=true)(M_:mj K h2=true)(Qk:qM K h2=true)(Q2:bE K (.ref h2) "__setattr__"=some (some (.builtin "object.__setattr__")))(Ph:oj K h2=true)(OW:i7 K (.ref h2)=true)(GK:bE K (.ref h2) "since"=some none)(KH:bE K (.ref h2) "__init__"=some (some (.ref w4)))(N7:ey K (.ref w4)=true)(yY:a_ K "__init__" "AtHome.__init__" CI w4 akv)(KO:cZ K cx "Net"=some (some (.ref dB)))(Qf:om K dB iM=true)(Nd:mj K dB=true)(Qn:qM K dB=true)(Q5:bE K (.ref dB) "__setattr__"=some (some (.builtin "object.__setattr__")))(Pl:oj K dB=true)(OZ:i7 K (.ref dB)=true)(PG:bE K (.ref dB) "kept_houses"=some none)(PH:bE K (.ref dB) "kept_roads"=some none)(K':bE K (.ref dB) "__init__"=some (some (.ref w7)))(Oj:ey K (.ref w7)=true)(y1:a_ K "__init__" "Net.__init__" yJ w7 akI)(K9:bE K (.ref dB) "houses"=some (some (.ref AK)))(Oi:ey K (.ref AK)=true)(vS:a_ K "houses" "Net.houses" uY AK akH)(Lc:bE K (.ref dB) "roads"=some (some (.ref AN)))(Oq:ey K (.ref AN)=true)(vV:a_ K "roads" "Net.roads" xR AN akM)(Lb:bE K (.ref dB) "road"=some (some (.ref w8)))(Oo:ey K (.ref w8)=true)(tP:a_ K "road" "Net.road" rm w8 akL)(La:bE K (.ref dB) "out_of"=some (some (.ref AM)))(Om:ey K (.ref AM)=true)(vU:a_ K "out_of" "Net.out_of" wq AM akK)(K_:bE K (.ref dB) "need_house"=some (some (.ref AL)))(Ol:ey K (.ref AL)=true)(vT:a_ K "need_house" "Net.need_house" yr AL akJ)(KY:cZ K cx "Ways"=some (some (.ref eu)))(Qj:om K eu iM=true)(Ni:mj K eu=true)(Qr:qM K eu=true)(Q9:bE K (.ref eu) "__setattr__"=some (some (.builtin "object.__setattr__")))(Pp:oj K eu=true)(O3:i7 K (.ref eu)=true)(PO:bE K (.ref eu) "net"=some none)(PQ:bE K (.ref eu) "told"=some none)(Lo:bE K (.ref eu) "__init__"=some (some (.ref w_)))(OE:ey K (.ref w_)=true)(y4:a_ K "__init__" "Ways.__init__" CR w_ akZ)(Lr:bE K (.ref eu) "set_way"=some (some (.ref A0)))(OH:ey K (.ref A0)=true)(v_:a_ K "set_way" "Ways.set_way" CP A0 ak2)(Ls:bE K (.ref eu) "way"=some (some (.ref A1)))(OI:ey K (.ref A1)=true)(wa:a_ K "way" "Ways.way" CS A1 ak3)(Lq:bE K (.ref eu) "route"=some (some (.ref AZ)))(OG:ey K (.ref AZ)=true)(v':a_ K "route" "Ways.route" CO AZ ak1)(Lp:bE K (.ref eu) "need_pair"=some (some (.ref AY)))(OF:ey K (.ref AY)=true)(v9:a_ K "need_pair" "Ways.need_pair" x4 AY ak0)(KX:cZ K cx "Walk"=some (some (.ref dv)))(Qi:om K dv iM=true)(Nh:mj K dv=true)(Qq:qM K dv=true)(Q8:bE K (.ref dv) "__setattr__"=some (some (.builtin "object.__setattr__")))(Po:oj K dv=true)(O2:i7 K (.ref dv)=true)(PM:bE K (.ref dv) "net"=some none)(PL:bE K (.ref dv) "goals"=some none)(PN:bE K (.ref dv) "steps"=some none)(Li:bE K (.ref dv) "__init__"=some (some (.ref w')))(Oy:ey K (.ref w')=true)(y3:a_ K "__init__" "Walk.__init__" tO w' akT)(Ln:bE K (.ref dv) "take_in"=some (some (.ref AX)))(OD:ey K (.ref AX)=true)(v8:a_ K "take_in" "Walk.take_in" yq AX akY)(Ll:bE K (.ref dv) "send"=some (some (.ref AV)))(OB:ey K (.ref AV)=true)(v5:a_ K "send" "Walk.send" ww AV akW)(Lg:bE K (.ref dv) "goal"=some (some (.ref AQ)))(Ow:ey K (.ref AQ)=true)(vX:a_ K "goal" "Walk.goal" yy AQ akR)(Lj:bE K (.ref dv) "last_house"=some (some (.ref AS)))(Oz:ey K (.ref AS)=true)(vZ:a_ K "last_house" "Walk.last_house" ve AS akU)(Lk:bE K (.ref dv) "last_turn"=some (some (.ref AU)))(OA:ey K (.ref AU)=true)(v3:a_ K "last_turn" "Walk.last_turn" tf AU akV)(Lh:bE K (.ref dv) "home_turn"=some (some (.ref AR)))(Ox:ey K (.ref AR)=true)(vY:a_ K "home_turn" "Walk.home_turn" tg AR akS)(Lf:bE K (.ref dv) "can_leave"=some (some (.ref AP)))(Ov:ey K (.ref AP)=true)(vW:a_ K "can_leave" "Walk.can_leave" yU AP akQ)(Lm:bE K (.ref dv) "spot_at"=some (some (.ref AW)))(OC:ey K (.ref AW)=true)(v7:a_ K "spot_at" "Walk.spot_at" yW AW akX)(KN:cZ K cx "Day"=some (some (.ref d6)))(Qe:om K d6 iM=true)(Nc:mj K d6=true)(Qm:qM K d6=true)(Q4:bE K (.ref d6) "__setattr__"=some (some (.builtin "object.__setattr__")))(Pk:oj K d6=true)(OY:i7 K (.ref d6)=true)(Pw:bE K (.ref d6) "net"=some none)(Py:bE K (.ref d6) "present"=some none)(Px:bE K (.ref d6) "posted"=some none)(PC:bE K (.ref d6) "ways"=some none)(PA:bE K (.ref d6) "shut_roads"=some none)(PB:bE K (.ref d6) "walk"=some none)(Pz:bE K (.ref d6) "sent"=some none)(KZ:bE K (.ref d6) "__init__"=some (some (.ref w6)))(N9:ey K (.ref w6)=true)(y0:a_ K "__init__" "Day.__init__" zP w6 akx)(K3:bE K (.ref d6) "now"=some (some (.ref AB)))(Oc:ey K (.ref AB)=true)(vM:a_ K "now" "Day.now" zV AB akB)(K5:bE K (.ref d6) "post"=some (some (.ref AE)))(Oe:ey K (.ref AE)=true)(vO:a_ K "post" "Day.post" yM AE akD)(K7:bE K (.ref d6) "shut"=some (some (.ref AG)))(Og:ey K (.ref AG)=true)(vQ:a_ K "shut" "Day.shut" yP AG akF)(K6:bE K (.ref d6) "reopen"=some (some (.ref AF)))(Of:ey K (.ref AF)=true)(vP:a_ K "reopen" "Day.reopen" z0 AF akE)(K4:bE K (.ref d6) "pass_turn"=some (some (.ref AD)))(Od:ey K (.ref AD)=true)(vN:a_ K "pass_turn" "Day.pass_turn" yN AD akC)(K1:bE K (.ref d6) "log"=some (some (.ref Az)))(Oa:ey K (.ref Az)=true)(vK:a_ K "log" "Day.log" z1 Az akz)(K0:bE K (.ref d6) "letters"=some (some (.ref Ay)))(N_:ey K (.ref Ay)=true)(vJ:a_ K "letters" "Day.letters" zW Ay aky)(K8:bE K (.ref d6) "spot"=some (some (.ref AH)))(Oh:ey K (.ref AH)=true)(vR:a_ K "spot" "Day.spot" zZ AH akG)(K2:bE K (.ref d6) "need_road"=some (some (.ref AA)))(Ob:ey K (.ref AA)=true)(vL:a_ K "need_road" "Day.need_road" x5 AA akA)(LQ:cZ K cx "is_whole"=some (some (.ref A7)))(wd:a_ K "is_whole" "is_whole" td A7 alx)(LR:cZ K cx "is_whole_within"=some (some (.ref A8)))(we:a_ K "is_whole_within" "is_whole_within" u2 A8 aly)(LP:cZ K cx "is_tuple_of"=some (some (.ref A6)))(wc:a_ K "is_tuple_of" "is_tuple_of" te A6 alw)(LD:cZ K cx "are_unlike_houses"=some (some (.ref A2)))(wb:a_ K "are_unlike_houses" "are_unlike_houses" sY A2 ale)(LM:cZ K cx "is_name"=some (some (.ref Fl)))(zi:a_ K "is_name" "is_name" yF Fl als)(LA:cZ K cx "are_houses"=some (some (.ref E9)))(y_:a_ K "are_houses" "are_houses" yG E9 alb)(LN:cZ K cx "is_road"=some (some (.ref Fm)))(zj:a_ K "is_road" "is_road" yH Fm alu)(LC:cZ K cx "are_roads"=some (some (.ref E_)))(zb:a_ K "are_roads" "are_roads" yI E_ ald)(LL:cZ K cx "is_letter"=some (some (.ref Fj)))(zh:a_ K "is_letter" "is_letter" zT Fj alr)(L1:cZ K cx "turns_apart"=some (some (.ref Fz)))(zu:a_ K "turns_apart" "turns_apart" Dl Fz alI)(LV:cZ K cx "letters_of"=some (some (.ref Fp)))(zo:a_ K "letters_of" "letters_of" zU Fp alC)(LO:cZ K cx "is_shorter_by"=some (some (.ref Fn)))(zk:a_ K "is_shorter_by" "is_shorter_by" Dj Fn alv)(LU:cZ K cx "least_turns_from"=some (some (.ref Fo)))(zm:a_ K "least_turns_from" "least_turns_from" Dk Fo alB)(LH:cZ K cx "begins_shortest"=some (some (.ref Fd)))(ze:a_ K "begins_shortest" "begins_shortest" zJ Fd alh)(L0:cZ K cx "shortest"=some (some (.ref Fy)))(zt:a_ K "shortest" "shortest" x6 Fy alH)(LJ:cZ K cx "has_route"=some (some (.ref Fh)))(zf:a_ K "has_route" "has_route" CH Fh alp)(LW:cZ K cx "queues_at"=some (some (.ref Ft)))(zp:a_ K "queues_at" "queues_at" CN Ft alE)(LG:cZ K cx "bags_at"=some (some (.ref Fc)))(zd:a_ K "bags_at" "bags_at" x1 Fc alg)(LZ:cZ K cx "run"=some (some (.ref Fx)))(zr:a_ K "run" "run" zS Fx alG)(LK:cZ K cx "is_bag"=some (some (.ref Fi)))(zg:a_ K "is_bag" "is_bag" Dn Fi alq)(LB:cZ K cx "are_rising_below"=some (some (.ref E')))(za:a_ K "are_rising_below" "are_rising_below" z3 E' alc)(LY:cZ K cx "reason_against"=some (some (.ref Fw)))(zq:a_ K "reason_against" "reason_against" z4 Fw alF)(L2:cZ K cx "walk_of"=some (some (.ref FA)))(zv:a_ K "walk_of" "walk_of" yV FA alL)(LF:cZ K cx "arrivals"=some (some (.ref Fb)))(zc:a_ K "arrivals" "arrivals" zY Fb alf)(Lu:cZ K cx "_law_cell_at"=some (some (.ref E3)))(y5:a_ K "_law_cell_at" "_law_cell_at" CG E3 ak4)(Lv:cZ K cx "_law_houses"=some (some (.ref E4)))(y6:a_ K "_law_houses" "_law_houses" Cd E4 ak5)(Ly:cZ K cx "_law_road"=some (some (.ref E7)))(y9:a_ K "_law_road" "_law_road" zG E7 ak8)(Lx:cZ K cx "_law_letter"=some (some (.ref E6)))(y8:a_ K "_law_letter" "_law_letter" yE E6 ak7)(Lw:cZ K cx "_law_kept"=some (some (.ref E5)))(y7:a_ K "_law_kept" "_law_kept" CL E5 ak6)(Lz:cZ K cx "_law_spot_fits"=some (some (.ref E8)))(y':a_ K "_law_spot_fits" "_law_spot_fits" CQ E8 ak9)(LS:cZ K cx "law"=some (some (.ref X4)))(zl:a_ K "law" "law" wo X4 alA){alo:Option Addr}{L9:rY}{ap1:Array (Option Value)}(KW:cZ K cx "RoadError"=some (some (.ref qC)))(Gp:K.lookup qC=some ⟨.type "type",alo,.cls L9,ap1⟩){alk:Option Addr}{L8:rY}{Ε:Array (Option Value)}(KQ:cZ K cx "NoLetter"=some (some (.ref i0)))(O':K.lookup i0=some ⟨.type "type",alk,.cls L8,Ε⟩){aln:Option Addr}{EI:rY}{Rd:Array (Option Value)}(KS:cZ K cx "NoWay"=some (some (.ref iI)))(Gn:K.lookup iI=some ⟨.type "type",aln,.cls EI,Rd⟩){alj:Option Addr}{ako:rY}{apZ:Array (Option Value)}(KP:cZ K cx "NoHouse"=some (some (.ref o7)))(Zl:K.lookup o7=some ⟨.type "type",alj,.cls ako,apZ⟩){alm:Option Addr}{akp:rY}{ap0:Array (Option Value)}(KR:cZ K cx "NoRoad"=some (some (.ref qB)))(Zm:K.lookup qB=some ⟨.type "type",alm,.cls akp,ap0⟩)(EF:bE K (.ref i0) "__init__"=some (some (.ref E0)))(F':ey K (.ref E0)=true)(DH:a_ K "__init__" "NoLetter.__init__" QV E0 akN)(Ld:bE K (.ref iI) "__init__"=some (some (.ref E1)))(Ot:ey K (.ref E1)=true)(DI:a_ K "__init__" "NoWay.__init__" QW E1 akO)(Su:z7 K qC [.type "ValueError",.type "Exception",.type "BaseException",.type "object"] "ValueError.__new__"=true)(Sr:z7 K o7 [.type "ValueError",.type "Exception",.type "BaseException",.type "object"] "ValueError.__new__"=true)(Ss:z7 K qB [.type "ValueError",.type "Exception",.type "BaseException",.type "object"] "ValueError.__new__"=true)(Dx:VF EI Rd iI iI=true){aqi:Tok}(RZ:cZ K cx "MOST_HOUSES"=some (some (.int 12 aqi))){aqk:Tok}(R1:cZ K cx "MOST_ROADS"=some (some (.int 40 aqk))){aqm:Tok}(R3:cZ K cx "MOST_SIGNS"=some (some (.int 8 aqm))){aqo:Tok}(R5:cZ K cx "MOST_TURNS"=some (some (.int 9 aqo))){aql:Tok}(R2:cZ K cx "MOST_ROOM"=some (some (.int 1000000000 aql))){aqj:Tok}(R0:cZ K cx "MOST_LETTERS"=some (some (.int 40 aqj))){aqn:Tok}(R4:cZ K cx "MOST_TURN"=some (some (.int 1000000000 aqn))){aqh:Tok}(RY:cZ K cx "MOST_APART"=some (some (.int 30 aqh)))(S8:cZ K cx "len"=some none)(Tb:cZ K cx "range"=some none)(S6:cZ K cx "isinstance"=some none)(S0:cZ K cx "all"=some none)(S5:cZ K cx "int"=some none)(S2:cZ K cx "bool"=some none)(Te:cZ K cx "str"=some none)(S9:cZ K cx "list"=some none)(Tg:cZ K cx "tuple"=some none)(Tc:cZ K cx "set"=some none)(SV:cZ K cx "ValueError"=some none)(S4:cZ K cx "enumerate"=some none)(S':cZ K cx "max"=some none)(Ta:cZ K cx "min"=some none)(Tf:cZ K cx "sum"=some none)(S1:cZ K cx "any"=some none)(S3:cZ K cx "dict"=some none)(Td:cZ K cx "sorted"=some none)(Tn:cZ K cx "zip"=some none)(Sv:De L8 L9 Ε i0 "ValueError.__new__"=true)(Sp:L8.hasDict=true)(Rk:bE K (.ref i0) "__setattr__"=some (some (.builtin "object.__setattr__")))(P':Ei K (.ref i0) (.type "object")=some true)(N3:mj K i0=true)(Gk:i7 K (.ref i0)=true)(MF:bE K (.ref i0) "__getattribute__"=some (some (.builtin "BaseException.__getattribute__")))(PV:bE K (.ref i0) "__getattr__"=some none)(MV:bE K (.ref i0) "__class__"=some (some (.builtin "object.__class__")))(NC:sg K (.builtin "object.__class__") "__get__"=some (some (.builtin "getset_descriptor.__get__")))(NU:z8 K (.builtin "object.__class__")=some true)(NA:qL K i0 (.type "object")=some true)(M0:qL K i0 (.type "BaseException")=some true)(Sw:De EI L9 Rd iI "ValueError.__new__"=true)(Sq:EI.hasDict=true)(Rl:bE K (.ref iI) "__setattr__"=some (some (.builtin "object.__setattr__")))(P_:Ei K (.ref iI) (.type "object")=some true)(N4:mj K iI=true)(O6:i7 K (.ref iI)=true)(MG:bE K (.ref iI) "__getattribute__"=some (some (.builtin "BaseException.__getattribute__")))(PW:bE K (.ref iI) "__getattr__"=some none)(MW:bE K (.ref iI) "__class__"=some (some (.builtin "object.__class__")))(ND:sg K (.builtin "object.__class__") "__get__"=some (some (.builtin "getset_descriptor.__get__")))(NV:z8 K (.builtin "object.__class__")=some true)(NB:qL K iI (.type "object")=some true)(M1:qL K iI (.type "BaseException")=some true)(Ht:Wv K qC (.type "type")=true)(Ff:Wo K (.ref qC) (.type "type") "__init__"=some (.val (.builtin "ValueError.__init__")))(HD:sg K (.ref qC) "__getattribute__"=some (some (.builtin "type.__getattribute__")))(NH:bE K (.ref i0) "number"=some none)(NN:bE K (.ref iI) "reason"=some none)(NQ:bE K (.ref iI) "seen"=some none)(OL:bE K (.ref kk) "__init__"=some (some (.builtin "object.__init__")))(FX:sg K (.builtin "object.__class__") "__get__"=some (some (.builtin "getset_descriptor.__get__")))(F4:z8 K (.builtin "object.__class__")=some true)(MU:bE K (.ref hH) "__class__"=some (some (.builtin "object.__class__")))(Nz:qL K hH (.type "object")=some true)(MT:bE K (.ref h2) "__class__"=some (some (.builtin "object.__class__")))(Ny:qL K h2 (.type "object")=some true):
  ∃fd:b5,(∀(s:ax)(v:Value),yC s fd ⟨[v],[]⟩ [("_law_script",v)])∧∀base:Heap,K.In base→base.Ns cx mg→aB l.prog w K mg base aM 8 hy fd ["_law_script"] (DK K):=by
 have e:=amW.symm.trans (dZ X G LS);cases e;have asl:d_ K kk:=⟨Qg,Nf,Qo,Q6⟩
 have RN:=dZ X G KU;have QD:d_ K hH:=⟨Qd,Na,Ql,Q3⟩
 have xw:=dZ X G KL;have ajf:=yZ.binds (ps:=["self","at","since"]) λ_ _ _ _ _ _ us aq=>by(obtain⟨_,_,_,rfl⟩:=jn aq);rfl
 have GQ:i6 K hH w5:=⟨Pj,KI,N8,OX⟩
 have O5:kl K hH "AtHouse.__init__" CJ ["self","at","since"] w5 _:=⟨yZ,GQ,ajf⟩
 have aaL:d_ K ir:=⟨Qh,Ng,Qp,Q7⟩
 have RO:=dZ X G KV;have ajx:=y2.binds (ps:=["self","by","due"]) λ_ _ _ _ _ _ us aq=>by(obtain⟨_,_,_,rfl⟩:=jn aq);rfl
 have Hg:i6 K ir w9:=⟨Pn,Le,Ou,O1⟩
 have Pc:kl K ir "OnRoad.__init__" CK ["self","by","due"] w9 _:=⟨y2,Hg,ajx⟩
 have RP:d_ K h2:=⟨Qc,M_,Qk,Q2⟩
 have xt:=dZ X G KJ;have aje:=yY.binds (ps:=["self","since"]) λ_ _ _ _ _ _ us aq=>by(obtain⟨_,_,rfl⟩:=gE aq);rfl
 have Hh:i6 K h2 w4:=⟨Ph,KH,N7,OW⟩
 have Pd:kl K h2 "AtHome.__init__" CI ["self","since"] w4 _:=⟨yY,Hh,aje⟩
 have fx:d_ K dB:=⟨Qf,Nd,Qn,Q5⟩
 have Je:=dZ X G KO;have ajr:=y1.binds (ps:=["self","houses","roads"]) λ_ _ _ _ _ _ us aq=>by(obtain⟨_,_,_,rfl⟩:=jn aq);rfl
 have DA:i6 K dB w7:=⟨Pl,K',Oj,OZ⟩
 have QB:kl K dB "Net.__init__" yJ ["self","houses","roads"] w7 _:=⟨y1,DA,ajr⟩
 have ajq:=vS.binds (ps:=["self"]) λ_ _ _ _ _ _ us aq=>by(obtain⟨_,rfl⟩:=mI aq);rfl
 have lO:cR K dB "houses" "Net.houses" uY ["self"] AK _:=⟨vS,⟨K9,Oi,vS.b0⟩,ajq⟩
 have ajv:=vV.binds (ps:=["self"]) λ_ _ _ _ _ _ us aq=>by(obtain⟨_,rfl⟩:=mI aq);rfl
 have sA:cR K dB "roads" "Net.roads" xR ["self"] AN _:=⟨vV,⟨Lc,Oq,vV.b0⟩,ajv⟩
 have aju:=tP.binds (ps:=["self","number"]) λ_ _ _ _ _ _ us aq=>by(obtain⟨_,_,rfl⟩:=gE aq);rfl
 have ks:cR K dB "road" "Net.road" rm ["self","number"] w8 _:=⟨tP,⟨Lb,Oo,tP.b0⟩,aju⟩
 have ajt:=vU.binds (ps:=["self","house"]) λ_ _ _ _ _ _ us aq=>by(obtain⟨_,_,rfl⟩:=gE aq);rfl
 have sy:cR K dB "out_of" "Net.out_of" wq ["self","house"] AM _:=⟨vU,⟨La,Om,vU.b0⟩,ajt⟩
 have ajs:=vT.binds (ps:=["self","house"]) λ_ _ _ _ _ _ us aq=>by(obtain⟨_,_,rfl⟩:=gE aq);rfl
 have pw:cR K dB "need_house" "Net.need_house" yr ["self","house"] AL _:=⟨vT,⟨K_,Ol,vT.b0⟩,ajs⟩
 have nk:d_ K eu:=⟨Qj,Ni,Qr,Q9⟩
 have SI:=dZ X G KY;have ajH:=y4.binds (ps:=["self","net"]) λ_ _ _ _ _ _ us aq=>by(obtain⟨_,_,rfl⟩:=gE aq);rfl
 have H4:i6 K eu w_:=⟨Pp,Lo,OE,O3⟩
 have P5:kl K eu "Ways.__init__" CR ["self","net"] w_ _:=⟨y4,H4,ajH⟩
 have ajK:=v_.binds (ps:=["self","house","goal","road"]) λ_ _ _ _ _ _ us aq=>by(obtain⟨_,_,_,_,rfl⟩:=DT aq);rfl
 have F9:cR K eu "set_way" "Ways.set_way" CP ["self","house","goal","road"] A0 _:=⟨v_,⟨Lr,OH,v_.b0⟩,ajK⟩
 have ajL:=wa.binds (ps:=["self","house","goal"]) λ_ _ _ _ _ _ us aq=>by(obtain⟨_,_,_,rfl⟩:=jn aq);rfl
 have GJ:cR K eu "way" "Ways.way" CS ["self","house","goal"] A1 _:=⟨wa,⟨Ls,OI,wa.b0⟩,ajL⟩
 have ajJ:=v'.binds (ps:=["self","house","goal"]) λ_ _ _ _ _ _ us aq=>by(obtain⟨_,_,_,rfl⟩:=jn aq);rfl
 have Ge:cR K eu "route" "Ways.route" CO ["self","house","goal"] AZ _:=⟨v',⟨Lq,OG,v'.b0⟩,ajJ⟩
 have ajI:=v9.binds (ps:=["self","house","goal"]) λ_ _ _ _ _ _ us aq=>by(obtain⟨_,_,_,rfl⟩:=jn aq);rfl
 have sv:cR K eu "need_pair" "Ways.need_pair" x4 ["self","house","goal"] AY _:=⟨v9,⟨Lp,OF,v9.b0⟩,ajI⟩
 have fh:d_ K dv:=⟨Qi,Nh,Qq,Q8⟩
 have rb:=dZ X G KX;have ajB:=y3.binds (ps:=["self","net","letters"]) λ_ _ _ _ _ _ us aq=>by(obtain⟨_,_,_,rfl⟩:=jn aq);rfl
 have p2:i6 K dv w':=⟨Po,Li,Oy,O2⟩
 have qR:kl K dv "Walk.__init__" tO ["self","net","letters"] w' _:=⟨y3,p2,ajB⟩
 have ajG:=v8.binds (ps:=["self","letter"]) λ_ _ _ _ _ _ us aq=>by(obtain⟨_,_,rfl⟩:=gE aq);rfl
 have su:cR K dv "take_in" "Walk.take_in" yq ["self","letter"] AX _:=⟨v8,⟨Ln,OD,v8.b0⟩,ajG⟩
 have ajE:=v5.binds (ps:=["self","bag"]) λ_ _ _ _ _ _ us aq=>by(obtain⟨_,_,rfl⟩:=gE aq);rfl
 have nh:cR K dv "send" "Walk.send" ww ["self","bag"] AV _:=⟨v5,⟨Ll,OB,v5.b0⟩,ajE⟩
 have ajz:=vX.binds (ps:=["self","number"]) λ_ _ _ _ _ _ us aq=>by(obtain⟨_,_,rfl⟩:=gE aq);rfl
 have Gq:cR K dv "goal" "Walk.goal" yy ["self","number"] AQ _:=⟨vX,⟨Lg,Ow,vX.b0⟩,ajz⟩
 have ajC:=vZ.binds (ps:=["self","number"]) λ_ _ _ _ _ _ us aq=>by(obtain⟨_,_,rfl⟩:=gE aq);rfl
 have nd:cR K dv "last_house" "Walk.last_house" ve ["self","number"] AS _:=⟨vZ,⟨Lj,Oz,vZ.b0⟩,ajC⟩
 have ajD:=v3.binds (ps:=["self","number"]) λ_ _ _ _ _ _ us aq=>by(obtain⟨_,_,rfl⟩:=gE aq);rfl
 have kq:cR K dv "last_turn" "Walk.last_turn" tf ["self","number"] AU _:=⟨v3,⟨Lk,OA,v3.b0⟩,ajD⟩
 have ajA:=vY.binds (ps:=["self","number"]) λ_ _ _ _ _ _ us aq=>by(obtain⟨_,_,rfl⟩:=gE aq);rfl
 have kr:cR K dv "home_turn" "Walk.home_turn" tg ["self","number"] AR _:=⟨vY,⟨Lh,Ox,vY.b0⟩,ajA⟩
 have ajy:=vW.binds (ps:=["self","number","house","turn"]) λ_ _ _ _ _ _ us aq=>by(obtain⟨_,_,_,_,rfl⟩:=DT aq);rfl
 have FC:cR K dv "can_leave" "Walk.can_leave" yU ["self","number","house","turn"] AP _:=⟨vW,⟨Lf,Ov,vW.b0⟩,ajy⟩
 have ajF:=v7.binds (ps:=["self","number","turn"]) λ_ _ _ _ _ _ us aq=>by(obtain⟨_,_,_,rfl⟩:=jn aq);rfl
 have F_:cR K dv "spot_at" "Walk.spot_at" yW ["self","number","turn"] AW _:=⟨v7,⟨Lm,OC,v7.b0⟩,ajF⟩
 have j3:d_ K d6:=⟨Qe,Nc,Qm,Q4⟩
 have I':=dZ X G KN;have ajg:=y0.binds (ps:=["self","net","first"]) λ_ _ _ _ _ _ us aq=>by(obtain⟨_,_,_,rfl⟩:=jn aq);rfl
 have Ip:i6 K d6 w6:=⟨Pk,KZ,N9,OY⟩
 have QA:kl K d6 "Day.__init__" zP ["self","net","first"] w6 _:=⟨y0,Ip,ajg⟩
 have ajk:=vM.binds (ps:=["self"]) λ_ _ _ _ _ _ us aq=>by(obtain⟨_,rfl⟩:=mI aq);rfl
 have Hf:cR K d6 "now" "Day.now" zV ["self"] AB _:=⟨vM,⟨K3,Oc,vM.b0⟩,ajk⟩
 have ajm:=vO.binds (ps:=["self","house","goal"]) λ_ _ _ _ _ _ us aq=>by(obtain⟨_,_,_,rfl⟩:=jn aq);rfl
 have GP:cR K d6 "post" "Day.post" yM ["self","house","goal"] AE _:=⟨vO,⟨K5,Oe,vO.b0⟩,ajm⟩
 have ajo:=vQ.binds (ps:=["self","road"]) λ_ _ _ _ _ _ us aq=>by(obtain⟨_,_,rfl⟩:=gE aq);rfl
 have GO:cR K d6 "shut" "Day.shut" yP ["self","road"] AG _:=⟨vQ,⟨K7,Og,vQ.b0⟩,ajo⟩
 have ajn:=vP.binds (ps:=["self","road"]) λ_ _ _ _ _ _ us aq=>by(obtain⟨_,_,rfl⟩:=gE aq);rfl
 have Gf:cR K d6 "reopen" "Day.reopen" z0 ["self","road"] AF _:=⟨vP,⟨K6,Of,vP.b0⟩,ajn⟩
 have ajl:=vN.binds (ps:=["self"]) λ_ _ _ _ _ _ us aq=>by(obtain⟨_,rfl⟩:=mI aq);rfl
 have FD:cR K d6 "pass_turn" "Day.pass_turn" yN ["self"] AD _:=⟨vN,⟨K4,Od,vN.b0⟩,ajl⟩
 have aji:=vK.binds (ps:=["self"]) λ_ _ _ _ _ _ us aq=>by(obtain⟨_,rfl⟩:=mI aq);rfl
 have Hi:cR K d6 "log" "Day.log" z1 ["self"] Az _:=⟨vK,⟨K1,Oa,vK.b0⟩,aji⟩
 have ajh:=vJ.binds (ps:=["self"]) λ_ _ _ _ _ _ us aq=>by(obtain⟨_,rfl⟩:=mI aq);rfl
 have Gh:cR K d6 "letters" "Day.letters" zW ["self"] Ay _:=⟨vJ,⟨K0,N_,vJ.b0⟩,ajh⟩
 have ajp:=vR.binds (ps:=["self","number"]) λ_ _ _ _ _ _ us aq=>by(obtain⟨_,_,rfl⟩:=gE aq);rfl
 have GR:cR K d6 "spot" "Day.spot" zZ ["self","number"] AH _:=⟨vR,⟨K8,Oh,vR.b0⟩,ajp⟩
 have ajj:=vL.binds (ps:=["self","number"]) λ_ _ _ _ _ _ us aq=>by(obtain⟨_,_,rfl⟩:=gE aq);rfl
 have sr:cR K d6 "need_road" "Day.need_road" x5 ["self","number"] AA _:=⟨vL,⟨K2,Ob,vL.b0⟩,ajj⟩
 have akb:=wd.binds (ps:=["thing"]) λ_ _ _ _ _ _ us aq=>by(obtain⟨_,rfl⟩:=mI aq);rfl
 have iv:c1 K mg "is_whole" td ["thing"] A7 _:=⟨wd,dZ X G LQ,akb⟩
 have akc:=we.binds (ps:=["thing","least","greatest"]) λ_ _ _ _ _ _ us aq=>by(obtain⟨_,_,_,rfl⟩:=jn aq);rfl
 have mq:c1 K mg "is_whole_within" u2 ["thing","least","greatest"] A8 _:=⟨we,dZ X G LR,akc⟩
 have aka:=wc.binds (ps:=["thing","length"]) λ_ _ _ _ _ _ us aq=>by(obtain⟨_,_,rfl⟩:=gE aq);rfl
 have kT:c1 K mg "is_tuple_of" te ["thing","length"] A6 _:=⟨wc,dZ X G LP,aka⟩
 have ajY:=wb.binds (ps:=["houses","one","other"]) λ_ _ _ _ _ _ us aq=>by(obtain⟨_,_,_,rfl⟩:=jn aq);rfl
 have kS:c1 K mg "are_unlike_houses" sY ["houses","one","other"] A2 _:=⟨wb,dZ X G LD,ajY⟩
 have aj7:=zi.binds (ps:=["thing"]) λ_ _ _ _ _ _ us aq=>by(obtain⟨_,rfl⟩:=mI aq);rfl
 have B4:c1 K mg "is_name" yF ["thing"] Fl _:=⟨zi,dZ X G LM,aj7⟩
 have ajV:=y_.binds (ps:=["things"]) λ_ _ _ _ _ _ us aq=>by(obtain⟨_,rfl⟩:=mI aq);rfl
 have Bx:c1 K mg "are_houses" yG ["things"] E9 _:=⟨y_,dZ X G LA,ajV⟩
 have aj8:=zj.binds (ps:=["houses","thing"]) λ_ _ _ _ _ _ us aq=>by(obtain⟨_,_,rfl⟩:=gE aq);rfl
 have BV:c1 K mg "is_road" yH ["houses","thing"] Fm _:=⟨zj,dZ X G LN,aj8⟩
 have ajX:=zb.binds (ps:=["houses","things"]) λ_ _ _ _ _ _ us aq=>by(obtain⟨_,_,rfl⟩:=gE aq);rfl
 have BB:c1 K mg "are_roads" yI ["houses","things"] E_ _:=⟨zb,dZ X G LC,ajX⟩
 have aj6:=zh.binds (ps:=["houses","thing"]) λ_ _ _ _ _ _ us aq=>by(obtain⟨_,_,rfl⟩:=gE aq);rfl
 have BG:c1 K mg "is_letter" zT ["houses","thing"] Fj _:=⟨zh,dZ X G LL,aj6⟩
 have akl:=zu.binds (ps:=["letters"]) λ_ _ _ _ _ _ us aq=>by(obtain⟨_,rfl⟩:=mI aq);rfl
 have A':c1 K mg "turns_apart" Dl ["letters"] Fz _:=⟨zu,dZ X G L1,akl⟩
 have ake:=zo.binds (ps:=["net","some"]) λ_ _ _ _ _ _ us aq=>by(obtain⟨_,_,rfl⟩:=gE aq);rfl
 have By:c1 K mg "letters_of" zU ["net","some"] Fp _:=⟨zo,dZ X G LV,ake⟩
 have aj9:=zk.binds (ps:=["road","found"]) λ_ _ _ _ _ _ us aq=>by(obtain⟨_,_,rfl⟩:=gE aq);rfl
 have AI:c1 K mg "is_shorter_by" Dj ["road","found"] Fn _:=⟨zk,dZ X G LO,aj9⟩
 have akd:=zm.binds (ps:=["roads","house"]) λ_ _ _ _ _ _ us aq=>by(obtain⟨_,_,rfl⟩:=gE aq);rfl
 have Ah:c1 K mg "least_turns_from" Dk ["roads","house"] Fo _:=⟨zm,dZ X G LU,akd⟩
 have aj1:=ze.binds (ps:=["road","far_from","goal"]) λ_ _ _ _ _ _ us aq=>by(obtain⟨_,_,_,rfl⟩:=jn aq);rfl
 have Ak:c1 K mg "begins_shortest" zJ ["road","far_from","goal"] Fd _:=⟨ze,dZ X G LH,aj1⟩
 have akk:=zt.binds (ps:=["net"]) λ_ _ _ _ _ _ us aq=>by(obtain⟨_,rfl⟩:=mI aq);rfl
 have pD:c1 K mg "shortest" x6 ["net"] Fy _:=⟨zt,dZ X G L0,akk⟩
 have aj4:=zf.binds (ps:=["letter","ways"]) λ_ _ _ _ _ _ us aq=>by(obtain⟨_,_,rfl⟩:=gE aq);rfl
 have BE:c1 K mg "has_route" CH ["letter","ways"] Fh _:=⟨zf,dZ X G LJ,aj4⟩
 have akg:=zp.binds (ps:=["walk","going","ways","turn"]) λ_ _ _ _ _ _ us aq=>by(obtain⟨_,_,_,_,rfl⟩:=DT aq);rfl
 have BC:c1 K mg "queues_at" CN ["walk","going","ways","turn"] Ft _:=⟨zp,dZ X G LW,akg⟩
 have aj0:=zd.binds (ps:=["net","walk","going","ways","turn"]) λ_ _ _ _ _ _ us aq=>by(obtain⟨_,_,_,_,_,rfl⟩:=WX aq);rfl
 have pJ:c1 K mg "bags_at" x1 ["net","walk","going","ways","turn"] Fc _:=⟨zd,dZ X G LG,aj0⟩
 have aki:=zr.binds (ps:=["net","letters","ways"]) λ_ _ _ _ _ _ us aq=>by(obtain⟨_,_,_,rfl⟩:=jn aq);rfl
 have yX:c1 K mg "run" zS ["net","letters","ways"] Fx _:=⟨zr,dZ X G LZ,aki⟩
 have aj5:=zg.binds (ps:=["thing"]) λ_ _ _ _ _ _ us aq=>by(obtain⟨_,rfl⟩:=mI aq);rfl
 have Ck:c1 K mg "is_bag" Dn ["thing"] Fi _:=⟨zg,dZ X G LK,aj5⟩
 have ajW:=za.binds (ps:=["numbers","bound"]) λ_ _ _ _ _ _ us aq=>by(obtain⟨_,_,rfl⟩:=gE aq);rfl
 have Ai:c1 K mg "are_rising_below" z3 ["numbers","bound"] E' _:=⟨za,dZ X G LB,ajW⟩
 have akh:=zq.binds (ps:=["walk","net","letters","ahead","thing"]) λ_ _ _ _ _ _ us aq=>by(obtain⟨_,_,_,_,_,rfl⟩:=WX aq);rfl
 have Ap:c1 K mg "reason_against" z4 ["walk","net","letters","ahead","thing"] Fw _:=⟨zq,dZ X G LY,akh⟩
 have akm:=zv.binds (ps:=["net","letters","plan"]) λ_ _ _ _ _ _ us aq=>by(obtain⟨_,_,_,rfl⟩:=jn aq);rfl
 have BZ:c1 K mg "walk_of" yV ["net","letters","plan"] FA _:=⟨zv,dZ X G L2,akm⟩
 have ajZ:=zc.binds (ps:=["net","letters","plan"]) λ_ _ _ _ _ _ us aq=>by(obtain⟨_,_,_,rfl⟩:=jn aq);rfl
 have BJ:c1 K mg "arrivals" zY ["net","letters","plan"] Fb _:=⟨zc,dZ X G LF,ajZ⟩
 have ajM:=y5.binds (ps:=["_law_script","_law_k"]) λ_ _ _ _ _ _ us aq=>by(obtain⟨_,_,rfl⟩:=gE aq);rfl
 have jV:c1 K mg "_law_cell_at" CG ["_law_script","_law_k"] E3 _:=⟨y5,dZ X G Lu,ajM⟩
 have ajN:=y6.binds (ps:=["_law_cell","_law_many"]) λ_ _ _ _ _ _ us aq=>by(obtain⟨_,_,rfl⟩:=gE aq);rfl
 have A_:c1 K mg "_law_houses" Cd ["_law_cell","_law_many"] E4 _:=⟨y6,dZ X G Lv,ajN⟩
 have ajQ:=y9.binds (ps:=["_law_cell","_law_names"]) λ_ _ _ _ _ _ us aq=>by(obtain⟨_,_,rfl⟩:=gE aq);rfl
 have BH:c1 K mg "_law_road" zG ["_law_cell","_law_names"] E7 _:=⟨y9,dZ X G Ly,ajQ⟩
 have ajP:=y8.binds (ps:=["_law_cell","_law_names","_law_base"]) λ_ _ _ _ _ _ us aq=>by(obtain⟨_,_,_,rfl⟩:=jn aq);rfl
 have Ba:c1 K mg "_law_letter" yE ["_law_cell","_law_names","_law_base"] E6 _:=⟨y8,dZ X G Lx,ajP⟩
 have ajO:=y7.binds (ps:=["_law_net","_law_letters","_law_first","_law_closed"]) λ_ _ _ _ _ _ us aq=>by(obtain⟨_,_,_,_,rfl⟩:=DT aq);rfl
 have BI:c1 K mg "_law_kept" CL ["_law_net","_law_letters","_law_first","_law_closed"] E5 _:=⟨y7,dZ X G Lw,ajO⟩
 have ajR:=y'.binds (ps:=["_law_spot","_law_letter_here","_law_home"]) λ_ _ _ _ _ _ us aq=>by(obtain⟨_,_,_,rfl⟩:=jn aq);rfl
 have Aq:c1 K mg "_law_spot_fits" CQ ["_law_spot","_law_letter_here","_law_home"] E8 _:=⟨y',dZ X G Lz,ajR⟩
 have asp:=zl.binds (ps:=["_law_script"]) λ_ _ _ _ _ _ us aq=>by(obtain⟨_,rfl⟩:=mI aq);rfl
 have uy:=dZ X G KW;have uF:=dZ X G KQ;have uX:=dZ X G KS;have Ŋ:=dZ X G KP;have aaM:=dZ X G KR;have Xl:=DH.binds (ps:=["self","number"]) λ_ _ _ _ _ _ us aq=>by(obtain⟨_,_,rfl⟩:=gE aq);rfl
 have ajw:=DI.binds (ps:=["self","reason","seen"]) λ_ _ _ _ _ _ us aq=>by(obtain⟨_,_,_,rfl⟩:=jn aq);rfl
 have Α:Exc K mg "RoadError" qC _ _:=⟨uy,Su⟩
 have xn:Exc K mg "NoHouse" o7 _ _:=⟨Ŋ,Sr⟩
 have xp:Exc K mg "NoRoad" qB _ _:=⟨aaM,Ss⟩
 have Dx:=aam Gn Dx;have ma:zF mg:=⟨⟨_,dZ X G RZ⟩,⟨_,dZ X G R1⟩,⟨_,dZ X G R3⟩,⟨_,dZ X G R5⟩,⟨_,dZ X G R2⟩⟩
 have tJ:Ki mg:=⟨⟨_,dZ X G R0⟩,⟨_,dZ X G R4⟩,⟨_,dZ X G RY⟩⟩
 have B:fo mg:=⟨jB X G S8,jB X G Tb,jB X G S6,jB X G S0,jB X G S5,jB X G S2,jB X G Te,jB X G S9,jB X G Tg,jB X G Tc,jB X G SV,jB X G S4,jB X G S',jB X G Ta,jB X G Tf,jB X G S1,jB X G S3,jB X G Td,jB X G Tn⟩
 obtain⟨_,_,dz,ali,pm,an,cd,fG,_,rfl,_,_⟩:=id zl.ex;refine⟨wL "law" "law" (Cq wo) (lw wo) (cy wo) .none dz ali pm an cd fG,λs v=>.of_eq rfl,λbase _ _=>?_⟩;have ft:rV K dB:=⟨fx,PG,PH⟩
 have KT:Vh K:=⟨afa K⟩
 have pC:aB l.prog w K mg base aM 1 A7 _ ["thing"] HV:=abL wd B KT;have wY:aB l.prog w K mg base aM 2 A8 _ ["thing","least","greatest"] RW:=aaq we iv pC;have sz:aB l.prog w K mg base aM 1 A6 _ ["thing","length"] HW:=abM wc B;have t9:aB l.prog w K mg base aM 1 A2 _ ["houses","one","other"] (RX K):=aar wb;have Rv:aB l.prog w K mg base aM 1 Fl _ ["thing"] IL:=ade zi B ma;have PU:aB l.prog w K mg base aM 2 E9 _ ["things"] IM:=adf y_ B ma B4 Rv;have Rw:aB l.prog w K mg base aM 3 Fm _ ["houses","thing"] (IP K):=adg zj ma kT sz kS t9 mq wY;have P9:aB l.prog w K mg base aM 4 E_ _ ["houses","things"] (IQ K):=adh zb B ma BV Rw;have QC:aB l.prog w K mg base aM 5 w7 _ ["self","houses","roads"] (IS K dB):=aee y1 B ft Bx PU BB P9;have ŋ:aB l.prog w K mg base aM 1 A7 _ ["thing"] Se:=aax wd B;have ń:aB l.prog w K mg base aM 2 A8 _ ["thing","least","greatest"] RA:=ķ we iv ŋ;have Gt:aB l.prog w K mg base aM 1 A6 _ ["thing","length"] Sf:=aay wc B;have UB:aB l.prog w K mg base aM 1 A2 _ ["houses","one","other"] Hc:=ĸ wb;have sC:lN K mg "RoadError" i0 qC:=⟨Α,⟨_,_,_,_,_,_,O',Gp,Sv,Sp⟩,Rk,P',Ht,Ff,HD,⟨MF,PV,MV,NC,NU,NA,M0⟩,N3⟩
 have Cn:lN K mg "RoadError" iI qC:=⟨Α,⟨_,_,_,_,_,_,Gn,Gp,Sw,Sq⟩,Rl,P_,Ht,Ff,HD,⟨MG,PW,MW,ND,NV,NB,M1⟩,N4⟩
 have qO:tw K eu:=⟨nk,PO,PQ⟩
 have cm:mC K dv:=⟨fh,PM,PL,PN⟩
 have cb:o1 K d6:=⟨j3,Pw,Py,Px,PC,PA,PB,Pz⟩
 have ug:aB l.prog w K mg base aM 1 E0 _ ["self","number"] (wu i0):=ahL DH sC uy NH;have pA:aB l.prog w K mg base aM 1 AK _ ["self"] (B2 dB):=ī vS B ft;have Qs:aB l.prog w K mg base aM 3 Fj _ ["houses","thing"] IX:=afD zh tJ kT Gt kS UB mq ń;have Pa:aB l.prog w K mg base aM 1 Fz _ ["letters"] SQ:=acz zu B;have ahc:aB l.prog w K mg base (i1 l.prog w) 4 Fp _ ["net","some"] (JU dB i0):=afE zo B tJ fx lO pA BG Qs A' Pa sC uF Gk EF F' ug Xl;have xo:aB l.prog w K mg base aM 1 AN _ ["self"] (Ho dB):=aat vV B ft;have ue:aB l.prog w K mg base (eQ l.prog w) 1 AL _ ["self","house"] (It dB o7):=aeu vT ft z6 xn;have Xa:aB l.prog w K mg base aM 1 w8 _ ["self","number"] (H0 dB):=abx tP B ft;have Xg:aB l.prog w K mg base (eQ l.prog w) 1 w8 _ ["self","number"] (HY dB qB):=abX tP B ft z6 xp;have xd:aB l.prog w K mg base (eQ l.prog w) 2 AM _ ["self","house"] (DN dB o7 (·.a)):=af2 vU B ft pw ue;have OP:aB l.prog w K mg base aM 1 Fn _ ["road","found"] Th:=aca zk;have OK:aB l.prog w K mg base aM 2 Fo _ ["roads","house"] (Ti K):=acb zm AI OP;have P6:aB l.prog w K mg base aM 1 w_ _ ["self","net"] (Kq eu):=ahr y4 qO;have w0:aB l.prog w K mg base (eQ l.prog w) 2 AY _ ["self","house","goal"] (Er eu dB o7):=ahs v9 qO fx z6 xn lO pA kS UB;have OO:aB l.prog w K mg base (eQ l.prog w) 3 A0 _ ["self","house","goal","road"] (Kr eu dB o7 qB):=aht v_ qO fx z6 xp sy xd sv w0;have Qx:aB l.prog w K mg base (eQ l.prog w) 3 A1 _ ["self","house","goal"] (Ku eu dB o7):=ahx wa qO sv w0;have Gd:aB l.prog w K mg base aM 1 E1 _ ["self","reason","seen"] (Es iI):=ahF DI B Cn uy NN NQ;have PF:aB l.prog w K mg base (i1 l.prog w) 3 AZ _ ["self","house","goal"] (Kt eu dB o7 iI):=ahG v' qO fx pw ue ks Xg Cn uX O6 Ld Ot Gd ajw;have aib:aB l.prog w K mg base aM 1 Fd _ ["road","far_from","goal"] JP:=af9 ze;have Xh:aB l.prog w K mg base aM 4 Fy _ ["net"] (Eo eu dB):=ahz zt B qO fx SI lO pA sA xo sy xd Ah OK Ak aib H4 P5 P6 F9 OO;have Xi:aB l.prog w K mg base aM 1 AX _ ["self","letter"] (Iq dv):=aen v8 cm;have Kv:aB l.prog w K mg base aM 2 w' _ ["self","net","letters"] (yK dv):=afT y3 cm su Xi;have aiQ:aB l.prog w K mg base aM 1 AQ _ ["self","number"] (IV dv):=aes vX cm;have Kw:aB l.prog w K mg base aM 1 AS _ ["self","number"] (Cz dv):=abS vZ cm;have Eu:aB l.prog w K mg base aM 1 AU _ ["self","number"] (xS dv):=abT v3 cm;have Ew:aB l.prog w K mg base aM 2 AR _ ["self","number"] (xT dv):=abW vY cm nd Kw kq Eu;have WP:aB l.prog w K mg base aM 2 AV _ ["self","bag"] (Du dv dB):=aer v5 cm fx ks Xa;have aiR:aB l.prog w K mg base aM 4 Ft _ ["walk","going","ways","turn"] (Kk K dv eu dB):=ahC zp cm qO kq Eu nd Kw Gq aiQ GJ Qx;have aiS:aB l.prog w K mg base aM 4 Fh _ ["letter","ways"] (Km eu dB):=ahJ zf nk Dx uX Ge PF;have Xj:aB l.prog w K mg base aM 5 Fc _ ["net","walk","going","ways","turn"] (yS K dv eu dB):=afN zd B fx BC aiR ks Xa;have J9:aB l.prog w K mg base aM 6 Fx _ ["net","letters","ways"] (JS dv eu dB):=afB zr B cm rb p2 qR Kv BE aiS kq Eu pJ (ahE Xj) nh WP kr Ew;have aiT:aB l.prog w K mg base aM 3 AP _ ["self","number","house","turn"] (I_ dv):=aeM vW cm nd Kw kq Eu kr Ew;have aiU:aB l.prog w K mg base aM 1 w5 _ ["self","at","since"] (wm hH "at" "since"):=ahn yZ QD GL GN;have aiV:aB l.prog w K mg base aM 1 w9 _ ["self","by","due"] (wm ir "by" "due"):=aho y2 aaL PI PJ;have aiW:aB l.prog w K mg base aM 1 w4 _ ["self","since"] (Kz h2 "since"):=ag7 yY RP GK;have aiX:aB l.prog w K mg base aM 3 AW _ ["self","number","turn"] (Jc dv ⟨kk,hH,ir,h2⟩):=aey (S:=⟨kk,hH,ir,h2⟩) v7 cm RN xw RO xt ⟨Pm,OL,O0⟩ GQ O5 aiU Hg Pc aiV Hh Pd aiW;have aiY:aB l.prog w K mg base aM 2 Fi _ ["thing"] Iw:=acE zg B iv pC kT sz;have aiZ:aB l.prog w K mg base aM 1 E' _ ["numbers","bound"] J4:=agy za;have ai0:aB l.prog w K mg base aM 4 Fw _ ["walk","net","letters","ahead","thing"] (J5 dv dB):=agz zq B fh fx Ck aiY Ai aiZ sA xo FC aiT;have ai1:aB l.prog w K mg base aM 5 FA _ ["net","letters","plan"] (Ja dv dB):=aeO zv B cm rb Ap ai0 p2 qR Kv nh WP;have ai2:aB l.prog w K mg base aM 6 Fb _ ["net","letters","plan"] (J0 dv dB):=agB zc B fh BZ ai1 kr Ew;have ai3:aB l.prog w K mg base aM 5 w6 _ ["self","net","first"] (JR d6 dv eu dB):=agq y0 cb rb pD Xh p2 qR Kv;have ai4:aB l.prog w K mg base aM 1 AB _ ["self"] (JV d6 dv eu dB):=agl vM cb;have ai5:aB l.prog w K mg base aM 1 Ay _ ["self"] (JW d6 dv eu dB):=ago vJ B cb;have ai6:aB l.prog w K mg base (i1 l.prog w) 5 AE _ ["self","house","goal"] (IY d6 dv eu dB i0):=adW vO B cb fh By ahc su Xi;have ai7:aB l.prog w K mg base aM 6 AD _ ["self"] (IZ K d6 dv eu dB):=ad0 vN B cb fh kr Ew pJ Xj nh WP;have ai8:aB l.prog w K mg base aM 1 E3 _ ["_law_script","_law_k"] (Kd K):=agD y5 B.len;have ai9:aB l.prog w K mg base aM 1 E4 _ ["_law_cell","_law_many"] Ru:=Ī y6 B;have aiF:aB l.prog w K mg base aM 1 E7 _ ["_law_cell","_law_names"] JF:=afZ y9 B;have aiG:aB l.prog w K mg base aM 1 E6 _ ["_law_cell","_law_names","_law_base"] IU:=adb y8 B;have Xk:aB l.prog w K mg base (eQ l.prog w) 2 AA _ ["self","number"] (Ex d6 dv eu dB qB):=ahi vL cb fx ks Xg;have aic:aB l.prog w K mg base (eQ l.prog w) 3 AG _ ["self","road"] (ym d6 dv eu dB qB yO):=aeL vQ cb sr Xk;have aid:aB l.prog w K mg base (eQ l.prog w) 3 AF _ ["self","road"] (ym d6 dv eu dB qB u4):=agu vP cb sr Xk;have aiH:aB l.prog w K mg base aM 1 Az _ ["self"] (J3 d6 dv eu dB):=agw vK B cb;have aie:aB l.prog w K mg base (i1 l.prog w) 4 AH _ ["self","number"] (JX d6 dv eu dB i0 ⟨kk,hH,ir,h2⟩):=WF (Sp_:=⟨kk,hH,ir,h2⟩) vR B cb fh F_ aiX sC uF Gk EF F' ug Xl;have aiI:aB l.prog w K mg base aM 7 E5 _ ["_law_net","_law_letters","_law_first","_law_closed"] (Ky d6 dv eu dB):=ahm y7 B j3 I' Ip QA ai3 GO aic Gf aid Hf ai4 GP ai6 FD ai7;have aiJ:aB l.prog w K mg base aM 1 E8 _ ["_law_spot","_law_letter_here","_law_home"] (KA ⟨kk,hH,ir,h2⟩):=ag9 (S_:=⟨kk,hH,ir,h2⟩) y' B xw xt ⟨QD,MU,FX,F4,Nz⟩ ⟨RP,MT,FX,F4,Ny⟩ (WA _ _) (WA _ _) QD RP GL GN GK;exact agj (S_:=⟨kk,hH,ir,h2⟩) zl B Je j3 jV ai8 A_ ai9 BH aiF Ba aiG DA QB QC pD Xh yX J9 BJ ai2 BI aiI Aq aiJ Gh ai5 Hi aiH GR aie
theorem walk{l:Wl}{q:bL}{loose:List Str}{wR:(Str→Option Value)→Heap→Prop}{sk:bC→Heap→Prop}{d:DefRec}{K:Params→aS}(aw:l.most=some 63)(Bl:d.params.defaults=[])(MS:∀(w:bC)(h:Heap),sk w h→(K w.params).In h)(F:∀(w:bC)(mg:Str→Option Value)(hy:Addr)(h:Heap),(K w.params).In h→h.Ns cx mg→mg d.name=some (.ref hy)→
   ∃fd:b5,(∀(s:ax)(u:Value),yC s fd ⟨[u],[]⟩ [("_law_script",u)])∧∀base:Heap,(K w.params).In base→base.Ns cx mg→aB l.prog w (K w.params) mg base aM 8 hy fd ["_law_script"] (DK (K w.params))):
  acT q loose wR sk l.row.toRowW d [] (λf vs=>Wy f vs):=
 ag.aqV (n:=63) (k:=8) (x:="_law_script") (CX:=λ_=>aM) (sp:=λw=>DK (K w.params)) aw (by decide) Bl ⟨rfl,by decide,by decide⟩ MS F (λ_ _ a ns aq _ f'=>⟨a,ns,rfl,f',aq,λ_=>rfl⟩) λ_ _ _ _ _ z=>z
end fq
noncomputable def PySem.W.Fast.tw1773184307624560365:Unit:=()
noncomputable def PySem.W.Fast.tw10946064525505416160:Unit:=()
noncomputable def PySem.W.Fast.tw6095903199759170979:Unit:=()
noncomputable def PySem.W.Fast.tw13813590739395514068:Unit:=()
noncomputable def PySem.W.Fast.tw17767310601646674569:Unit:=()
noncomputable def PySem.W.Fast.tw17840564852621515995:Unit:=()
noncomputable def PySem.W.Fast.tw5385153196560720961:Unit:=()
noncomputable def PySem.W.Fast.tw2240045362724046295:Unit:=()
noncomputable def PySem.W.Fast.tw16048462924820129296:Unit:=()
noncomputable def PySem.W.Fast.tw4564886547287340768:Unit:=()
noncomputable def PySem.W.Fast.tw3183747575129353240:Unit:=()
noncomputable def PySem.W.Fast.tw3123766703513092772:Unit:=()
noncomputable def PySem.W.Fast.tw4586577638717248925:Unit:=()
noncomputable def PySem.W.Fast.tw1326394463223895908:Unit:=()
noncomputable def PySem.W.Fast.tw3919246605518288896:Unit:=()
noncomputable def PySem.W.Fast.tw3546523255754384012:Unit:=()
noncomputable def PySem.W.Fast.tw8406871926894837126:Unit:=()
noncomputable def PySem.W.Fast.tw1921851674350040317:Unit:=()
noncomputable def PySem.W.Fast.tw11123277171253878706:Unit:=()
noncomputable def PySem.W.Fast.tw7987334649819558546:Unit:=()
noncomputable def PySem.W.Fast.tw2040463019812814096:Unit:=()
noncomputable def PySem.W.Fast.tw15901465424284711718:Unit:=()
noncomputable def PySem.W.Fast.tw4328330733129404977:Unit:=()
noncomputable def PySem.W.Fast.tw4838311754220918199:Unit:=()
noncomputable def PySem.W.Fast.tw8109831858401784930:Unit:=()
noncomputable def PySem.W.Fast.tw16957393200244739000:Unit:=()
noncomputable def PySem.W.Fast.tw2897947348552630875:Unit:=()
noncomputable def PySem.W.Fast.tw5888097779524041735:Unit:=()
noncomputable def PySem.W.Fast.tw11418075625915488617:Unit:=()
noncomputable def PySem.W.Fast.tw4877417851179075122:Unit:=()
noncomputable def PySem.W.Fast.tw2464105615444927530:Unit:=()
noncomputable def PySem.W.Fast.tw14321849182139309239:Unit:=()
noncomputable def PySem.W.Fast.tw14542441733389682128:Unit:=()
noncomputable def PySem.W.Fast.tw7585197680984734785:Unit:=()
noncomputable def PySem.W.Fast.tw183815222176307932:Unit:=()
noncomputable def PySem.W.Fast.tw4910431978961075001:Unit:=()
noncomputable def PySem.W.Fast.tw2822876892694291513:Unit:=()
noncomputable def PySem.W.Fast.tw4020635401375932130:Unit:=()
noncomputable def PySem.W.Fast.tw10961251220267184728:Unit:=()
noncomputable def PySem.W.Fast.tw11548747124479983995:Unit:=()
noncomputable def PySem.W.Fast.tw18240885188515218772:Unit:=()
noncomputable def PySem.W.Fast.tw12136234472798326638:Unit:=()
noncomputable def PySem.W.Fast.tw17657077503411075526:Unit:=()
noncomputable def PySem.W.Fast.tw640280829679892822:Unit:=()
noncomputable def PySem.W.Fast.tw3932241716436397822:Unit:=()
noncomputable def PySem.W.Fast.tw13105874234352712366:Unit:=()
noncomputable def PySem.W.Fast.tw18168086859050813602:Unit:=()
noncomputable def PySem.W.Fast.tw4857480902736626243:Unit:=()
noncomputable def PySem.W.Fast.tw15207710110943969404:Unit:=()
noncomputable def PySem.W.Fast.tw5265242356439938230:Unit:=()
noncomputable def PySem.W.Fast.tw11015577314531621770:Unit:=()
noncomputable def PySem.W.Fast.tw6362110369103259335:Unit:=()
noncomputable def PySem.W.Fast.tw14427228391464977742:Unit:=()
noncomputable def PySem.W.Fast.tw3569975813030500229:Unit:=()
noncomputable def PySem.W.Fast.tw6628428174510886509:Unit:=()
noncomputable def PySem.W.Fast.tw12426333579604767592:Unit:=()
noncomputable def PySem.W.Fast.tw834475341702142447:Unit:=()
noncomputable def PySem.W.Fast.tw2685445677679006609:Unit:=()
noncomputable def PySem.W.Fast.tw10980036245732000828:Unit:=()
noncomputable def PySem.W.Fast.tw5954520211145137482:Unit:=()
noncomputable def PySem.W.Fast.tw1875260263362556335:Unit:=()
noncomputable def PySem.W.Fast.tw2445273408891122830:Unit:=()
noncomputable def PySem.W.Fast.tw13121327190462376386:Unit:=()
noncomputable def PySem.W.Fast.tw18437963368613637240:Unit:=()
noncomputable def PySem.W.Fast.tw2848756893762196192:Unit:=()
noncomputable def PySem.W.Fast.tw5813566821641517709:Unit:=()
noncomputable def PySem.W.Fast.tw3124739272773022117:Unit:=()
noncomputable def PySem.W.Fast.tw12036708739389746940:Unit:=()
noncomputable def PySem.W.Fast.tw9726886443896720417:Unit:=()
noncomputable def PySem.W.Fast.tw11136892839582748799:Unit:=()
noncomputable def PySem.W.Fast.tw13783846439693280529:Unit:=()
noncomputable def PySem.W.Fast.tw11965725838432204148:Unit:=()
noncomputable def PySem.W.Fast.tw7283937225950286313:Unit:=()
noncomputable def PySem.W.Fast.tw16140096805408865209:Unit:=()
noncomputable def PySem.W.Fast.tw7548855109338333270:Unit:=()
open PySem PySem.W PyProof.Rows
set_option maxRecDepth 100000 in
set_option maxHeartbeats 0 in
theorem PySem.Challenge.cw_postroad_k73_whole_day_is_a_run_holds : PySem.Challenge.rw_postroad_k73_whole_day_is_a_run.Holds := by
 w_on;o_law;k_head;(case hw=>w_witness2)
 k_fill
 refine fq.walk (l:=arT) rfl rfl (λw h Y=>PySem.W.kIn_of Y) ?F
 case F=>
  intro w mg hy h pa G Bp
  refine' fq.all_mk pa G Bp ?KU ?Qg ?Nf ?Qo ?Q6 ?Pm ?O0 ?KL ?Qd ?Na ?Ql ?Q3 ?Pj ?OX ?GL ?GN ?KI ?N8 ?yZ ?KV ?Qh ?Ng ?Qp ?Q7 ?Pn ?O1 ?PI ?PJ ?Le ?Ou ?y2 ?KJ ?Qc ?M_ ?Qk ?Q2 ?Ph ?OW ?GK ?KH ?N7 ?yY ?KO ?Qf ?Nd ?Qn ?Q5 ?Pl ?OZ ?PG ?PH ?K' ?Oj ?y1 ?K9 ?Oi ?vS ?Lc ?Oq ?vV ?Lb ?Oo ?tP ?La ?Om ?vU ?K_ ?Ol ?vT ?KY ?Qj ?Ni ?Qr ?Q9 ?Pp ?O3 ?PO ?PQ ?Lo ?OE ?y4 ?Lr ?OH ?v_ ?Ls ?OI ?wa ?Lq ?OG ?v' ?Lp ?OF ?v9 ?KX ?Qi ?Nh ?Qq ?Q8 ?Po ?O2 ?PM ?PL ?PN ?Li ?Oy ?y3 ?Ln ?OD ?v8 ?Ll ?OB ?v5 ?Lg ?Ow ?vX ?Lj ?Oz ?vZ ?Lk ?OA ?v3 ?Lh ?Ox ?vY ?Lf ?Ov ?vW ?Lm ?OC ?v7 ?KN ?Qe ?Nc ?Qm ?Q4 ?Pk ?OY ?Pw ?Py ?Px ?PC ?PA ?PB ?Pz ?KZ ?N9 ?y0 ?K3 ?Oc ?vM ?K5 ?Oe ?vO ?K7 ?Og ?vQ ?K6 ?Of ?vP ?K4 ?Od ?vN ?K1 ?Oa ?vK ?K0 ?N_ ?vJ ?K8 ?Oh ?vR ?K2 ?Ob ?vL ?LQ ?wd ?LR ?we ?LP ?wc ?LD ?wb ?LM ?zi ?LA ?y_ ?LN ?zj ?LC ?zb ?LL ?zh ?L1 ?zu ?LV ?zo ?LO ?zk ?LU ?zm ?LH ?ze ?L0 ?zt ?LJ ?zf ?LW ?zp ?LG ?zd ?LZ ?zr ?LK ?zg ?LB ?za ?LY ?zq ?L2 ?zv ?LF ?zc ?Lu ?y5 ?Lv ?y6 ?Ly ?y9 ?Lx ?y8 ?Lw ?y7 ?Lz ?y' ?LS ?zl ?KW ?Gp ?KQ ?O' ?KS ?Gn ?KP ?Zl ?KR ?Zm ?EF ?F' ?DH ?Ld ?Ot ?DI ?Su ?Sr ?Ss ?Dx ?RZ ?R1 ?R3 ?R5 ?R2 ?R0 ?R4 ?RY ?S8 ?Tb ?S6 ?S0 ?S5 ?S2 ?Te ?S9 ?Tg ?Tc ?SV ?S4 ?S' ?Ta ?Tf ?S1 ?S3 ?Td ?Tn ?Sv ?Sp ?Rk ?P' ?N3 ?Gk ?MF ?PV ?MV ?NC ?NU ?NA ?M0 ?Sw ?Sq ?Rl ?P_ ?N4 ?O6 ?MG ?PW ?MW ?ND ?NV ?NB ?M1 ?Ht ?Ff ?HD ?NH ?NN ?NQ ?OL ?FX ?F4 ?MU ?Nz ?MT ?Ny
  (case KU=>k_is)
  (case Qg=>k_is)
  (case Nf=>k_is)
  (case Qo=>k_is)
  (case Q6=>k_is)
  (case Pm=>k_is)
  (case O0=>k_is)
  (case KL=>k_is)
  (case Qd=>k_is)
  (case Na=>k_is)
  (case Ql=>k_is)
  (case Q3=>k_is)
  (case Pj=>k_is)
  (case OX=>k_is)
  (case GL=>k_is)
  (case GN=>k_is)
  (case KI=>k_is)
  (case N8=>k_is)
  (case yZ=>refine' ag.c' ?z ?y ?x;(case z=>k_is);(case y=>k_is);(case x=>k_is))
  (case KV=>k_is)
  (case Qh=>k_is)
  (case Ng=>k_is)
  (case Qp=>k_is)
  (case Q7=>k_is)
  (case Pn=>k_is)
  (case O1=>k_is)
  (case PI=>k_is)
  (case PJ=>k_is)
  (case Le=>k_is)
  (case Ou=>k_is)
  (case y2=>refine' ag.c' ?z ?y ?x;(case z=>k_is);(case y=>k_is);(case x=>k_is))
  (case KJ=>k_is)
  (case Qc=>k_is)
  (case M_=>k_is)
  (case Qk=>k_is)
  (case Q2=>k_is)
  (case Ph=>k_is)
  (case OW=>k_is)
  (case GK=>k_is)
  (case KH=>k_is)
  (case N7=>k_is)
  (case yY=>refine' ag.c' ?z ?y ?x;(case z=>k_is);(case y=>k_is);(case x=>k_is))
  (case KO=>k_is)
  (case Qf=>k_is)
  (case Nd=>k_is)
  (case Qn=>k_is)
  (case Q5=>k_is)
  (case Pl=>k_is)
  (case OZ=>k_is)
  (case PG=>k_is)
  (case PH=>k_is)
  (case K'=>k_is)
  (case Oj=>k_is)
  (case y1=>refine' ag.c' ?z ?y ?x;(case z=>k_is);(case y=>k_is);(case x=>k_is))
  (case K9=>k_is)
  (case Oi=>k_is)
  (case vS=>refine' ag.c' ?z ?y ?x;(case z=>k_is);(case y=>k_is);(case x=>k_is))
  (case Lc=>k_is)
  (case Oq=>k_is)
  (case vV=>refine' ag.c' ?z ?y ?x;(case z=>k_is);(case y=>k_is);(case x=>k_is))
  (case Lb=>k_is)
  (case Oo=>k_is)
  (case tP=>refine' ag.c' ?z ?y ?x;(case z=>k_is);(case y=>k_is);(case x=>k_is))
  (case La=>k_is)
  (case Om=>k_is)
  (case vU=>refine' ag.c' ?z ?y ?x;(case z=>k_is);(case y=>k_is);(case x=>k_is))
  (case K_=>k_is)
  (case Ol=>k_is)
  (case vT=>refine' ag.c' ?z ?y ?x;(case z=>k_is);(case y=>k_is);(case x=>k_is))
  (case KY=>k_is)
  (case Qj=>k_is)
  (case Ni=>k_is)
  (case Qr=>k_is)
  (case Q9=>k_is)
  (case Pp=>k_is)
  (case O3=>k_is)
  (case PO=>k_is)
  (case PQ=>k_is)
  (case Lo=>k_is)
  (case OE=>k_is)
  (case y4=>refine' ag.c' ?z ?y ?x;(case z=>k_is);(case y=>k_is);(case x=>k_is))
  (case Lr=>k_is)
  (case OH=>k_is)
  (case v_=>refine' ag.c' ?z ?y ?x;(case z=>k_is);(case y=>k_is);(case x=>k_is))
  (case Ls=>k_is)
  (case OI=>k_is)
  (case wa=>refine' ag.c' ?z ?y ?x;(case z=>k_is);(case y=>k_is);(case x=>k_is))
  (case Lq=>k_is)
  (case OG=>k_is)
  (case v'=>refine' ag.c' ?z ?y ?x;(case z=>k_is);(case y=>k_is);(case x=>k_is))
  (case Lp=>k_is)
  (case OF=>k_is)
  (case v9=>refine' ag.c' ?z ?y ?x;(case z=>k_is);(case y=>k_is);(case x=>k_is))
  (case KX=>k_is)
  (case Qi=>k_is)
  (case Nh=>k_is)
  (case Qq=>k_is)
  (case Q8=>k_is)
  (case Po=>k_is)
  (case O2=>k_is)
  (case PM=>k_is)
  (case PL=>k_is)
  (case PN=>k_is)
  (case Li=>k_is)
  (case Oy=>k_is)
  (case y3=>refine' ag.c' ?z ?y ?x;(case z=>k_is);(case y=>k_is);(case x=>k_is))
  (case Ln=>k_is)
  (case OD=>k_is)
  (case v8=>refine' ag.c' ?z ?y ?x;(case z=>k_is);(case y=>k_is);(case x=>k_is))
  (case Ll=>k_is)
  (case OB=>k_is)
  (case v5=>refine' ag.c' ?z ?y ?x;(case z=>k_is);(case y=>k_is);(case x=>k_is))
  (case Lg=>k_is)
  (case Ow=>k_is)
  (case vX=>refine' ag.c' ?z ?y ?x;(case z=>k_is);(case y=>k_is);(case x=>k_is))
  (case Lj=>k_is)
  (case Oz=>k_is)
  (case vZ=>refine' ag.c' ?z ?y ?x;(case z=>k_is);(case y=>k_is);(case x=>k_is))
  (case Lk=>k_is)
  (case OA=>k_is)
  (case v3=>refine' ag.c' ?z ?y ?x;(case z=>k_is);(case y=>k_is);(case x=>k_is))
  (case Lh=>k_is)
  (case Ox=>k_is)
  (case vY=>refine' ag.c' ?z ?y ?x;(case z=>k_is);(case y=>k_is);(case x=>k_is))
  (case Lf=>k_is)
  (case Ov=>k_is)
  (case vW=>refine' ag.c' ?z ?y ?x;(case z=>k_is);(case y=>k_is);(case x=>k_is))
  (case Lm=>k_is)
  (case OC=>k_is)
  (case v7=>refine' ag.c' ?z ?y ?x;(case z=>k_is);(case y=>k_is);(case x=>k_is))
  (case KN=>k_is)
  (case Qe=>k_is)
  (case Nc=>k_is)
  (case Qm=>k_is)
  (case Q4=>k_is)
  (case Pk=>k_is)
  (case OY=>k_is)
  (case Pw=>k_is)
  (case Py=>k_is)
  (case Px=>k_is)
  (case PC=>k_is)
  (case PA=>k_is)
  (case PB=>k_is)
  (case Pz=>k_is)
  (case KZ=>k_is)
  (case N9=>k_is)
  (case y0=>refine' ag.c' ?z ?y ?x;(case z=>k_is);(case y=>k_is);(case x=>k_is))
  (case K3=>k_is)
  (case Oc=>k_is)
  (case vM=>refine' ag.c' ?z ?y ?x;(case z=>k_is);(case y=>k_is);(case x=>k_is))
  (case K5=>k_is)
  (case Oe=>k_is)
  (case vO=>refine' ag.c' ?z ?y ?x;(case z=>k_is);(case y=>k_is);(case x=>k_is))
  (case K7=>k_is)
  (case Og=>k_is)
  (case vQ=>refine' ag.c' ?z ?y ?x;(case z=>k_is);(case y=>k_is);(case x=>k_is))
  (case K6=>k_is)
  (case Of=>k_is)
  (case vP=>refine' ag.c' ?z ?y ?x;(case z=>k_is);(case y=>k_is);(case x=>k_is))
  (case K4=>k_is)
  (case Od=>k_is)
  (case vN=>refine' ag.c' ?z ?y ?x;(case z=>k_is);(case y=>k_is);(case x=>k_is))
  (case K1=>k_is)
  (case Oa=>k_is)
  (case vK=>refine' ag.c' ?z ?y ?x;(case z=>k_is);(case y=>k_is);(case x=>k_is))
  (case K0=>k_is)
  (case N_=>k_is)
  (case vJ=>refine' ag.c' ?z ?y ?x;(case z=>k_is);(case y=>k_is);(case x=>k_is))
  (case K8=>k_is)
  (case Oh=>k_is)
  (case vR=>refine' ag.c' ?z ?y ?x;(case z=>k_is);(case y=>k_is);(case x=>k_is))
  (case K2=>k_is)
  (case Ob=>k_is)
  (case vL=>refine' ag.c' ?z ?y ?x;(case z=>k_is);(case y=>k_is);(case x=>k_is))
  (case LQ=>k_is)
  (case wd=>refine' ag.c' ?z ?y ?x;(case z=>k_is);(case y=>k_is);(case x=>k_is))
  (case LR=>k_is)
  (case we=>refine' ag.c' ?z ?y ?x;(case z=>k_is);(case y=>k_is);(case x=>k_is))
  (case LP=>k_is)
  (case wc=>refine' ag.c' ?z ?y ?x;(case z=>k_is);(case y=>k_is);(case x=>k_is))
  (case LD=>k_is)
  (case wb=>refine' ag.c' ?z ?y ?x;(case z=>k_is);(case y=>k_is);(case x=>k_is))
  (case LM=>k_is)
  (case zi=>refine' ag.c' ?z ?y ?x;(case z=>k_is);(case y=>k_is);(case x=>k_is))
  (case LA=>k_is)
  (case y_=>refine' ag.c' ?z ?y ?x;(case z=>k_is);(case y=>k_is);(case x=>k_is))
  (case LN=>k_is)
  (case zj=>refine' ag.c' ?z ?y ?x;(case z=>k_is);(case y=>k_is);(case x=>k_is))
  (case LC=>k_is)
  (case zb=>refine' ag.c' ?z ?y ?x;(case z=>k_is);(case y=>k_is);(case x=>k_is))
  (case LL=>k_is)
  (case zh=>refine' ag.c' ?z ?y ?x;(case z=>k_is);(case y=>k_is);(case x=>k_is))
  (case L1=>k_is)
  (case zu=>refine' ag.c' ?z ?y ?x;(case z=>k_is);(case y=>k_is);(case x=>k_is))
  (case LV=>k_is)
  (case zo=>refine' ag.c' ?z ?y ?x;(case z=>k_is);(case y=>k_is);(case x=>k_is))
  (case LO=>k_is)
  (case zk=>refine' ag.c' ?z ?y ?x;(case z=>k_is);(case y=>k_is);(case x=>k_is))
  (case LU=>k_is)
  (case zm=>refine' ag.c' ?z ?y ?x;(case z=>k_is);(case y=>k_is);(case x=>k_is))
  (case LH=>k_is)
  (case ze=>refine' ag.c' ?z ?y ?x;(case z=>k_is);(case y=>k_is);(case x=>k_is))
  (case L0=>k_is)
  (case zt=>refine' ag.c' ?z ?y ?x;(case z=>k_is);(case y=>k_is);(case x=>k_is))
  (case LJ=>k_is)
  (case zf=>refine' ag.c' ?z ?y ?x;(case z=>k_is);(case y=>k_is);(case x=>k_is))
  (case LW=>k_is)
  (case zp=>refine' ag.c' ?z ?y ?x;(case z=>k_is);(case y=>k_is);(case x=>k_is))
  (case LG=>k_is)
  (case zd=>refine' ag.c' ?z ?y ?x;(case z=>k_is);(case y=>k_is);(case x=>k_is))
  (case LZ=>k_is)
  (case zr=>refine' ag.c' ?z ?y ?x;(case z=>k_is);(case y=>k_is);(case x=>k_is))
  (case LK=>k_is)
  (case zg=>refine' ag.c' ?z ?y ?x;(case z=>k_is);(case y=>k_is);(case x=>k_is))
  (case LB=>k_is)
  (case za=>refine' ag.c' ?z ?y ?x;(case z=>k_is);(case y=>k_is);(case x=>k_is))
  (case LY=>k_is)
  (case zq=>refine' ag.c' ?z ?y ?x;(case z=>k_is);(case y=>k_is);(case x=>k_is))
  (case L2=>k_is)
  (case zv=>refine' ag.c' ?z ?y ?x;(case z=>k_is);(case y=>k_is);(case x=>k_is))
  (case LF=>k_is)
  (case zc=>refine' ag.c' ?z ?y ?x;(case z=>k_is);(case y=>k_is);(case x=>k_is))
  (case Lu=>k_is)
  (case y5=>refine' ag.c' ?z ?y ?x;(case z=>k_is);(case y=>k_is);(case x=>k_is))
  (case Lv=>k_is)
  (case y6=>refine' ag.c' ?z ?y ?x;(case z=>k_is);(case y=>k_is);(case x=>k_is))
  (case Ly=>k_is)
  (case y9=>refine' ag.c' ?z ?y ?x;(case z=>k_is);(case y=>k_is);(case x=>k_is))
  (case Lx=>k_is)
  (case y8=>refine' ag.c' ?z ?y ?x;(case z=>k_is);(case y=>k_is);(case x=>k_is))
  (case Lw=>k_is)
  (case y7=>refine' ag.c' ?z ?y ?x;(case z=>k_is);(case y=>k_is);(case x=>k_is))
  (case Lz=>k_is)
  (case y'=>refine' ag.c' ?z ?y ?x;(case z=>k_is);(case y=>k_is);(case x=>k_is))
  (case LS=>k_is)
  (case zl=>refine' ag.c' ?z ?y ?x;(case z=>k_is);(case y=>k_is);(case x=>k_is))
  (case KW=>k_is)
  (case Gp=>k_is)
  (case KQ=>k_is)
  (case O'=>k_is)
  (case KS=>k_is)
  (case Gn=>k_is)
  (case KP=>k_is)
  (case Zl=>k_is)
  (case KR=>k_is)
  (case Zm=>k_is)
  (case EF=>k_is)
  (case F'=>k_is)
  (case DH=>refine' ag.c' ?z ?y ?x;(case z=>k_is);(case y=>k_is);(case x=>k_is))
  (case Ld=>k_is)
  (case Ot=>k_is)
  (case DI=>refine' ag.c' ?z ?y ?x;(case z=>k_is);(case y=>k_is);(case x=>k_is))
  (case Su=>k_exc)
  (case Sr=>k_exc)
  (case Ss=>k_exc)
  (case Dx=>decide+kernel)
  (case RZ=>k_is)
  (case R1=>k_is)
  (case R3=>k_is)
  (case R5=>k_is)
  (case R2=>k_is)
  (case R0=>k_is)
  (case R4=>k_is)
  (case RY=>k_is)
  (case S8=>k_is)
  (case Tb=>k_is)
  (case S6=>k_is)
  (case S0=>k_is)
  (case S5=>k_is)
  (case S2=>k_is)
  (case Te=>k_is)
  (case S9=>k_is)
  (case Tg=>k_is)
  (case Tc=>k_is)
  (case SV=>k_is)
  (case S4=>k_is)
  (case S'=>k_is)
  (case Ta=>k_is)
  (case Tf=>k_is)
  (case S1=>k_is)
  (case S3=>k_is)
  (case Td=>k_is)
  (case Tn=>k_is)
  (case Sv=>decide+kernel)
  (case Sp=>decide+kernel)
  (case Rk=>k_is)
  (case P'=>k_is)
  (case N3=>k_is)
  (case Gk=>k_is)
  (case MF=>k_is)
  (case PV=>k_is)
  (case MV=>k_is)
  (case NC=>k_is)
  (case NU=>k_is)
  (case NA=>k_is)
  (case M0=>k_is)
  (case Sw=>decide+kernel)
  (case Sq=>decide+kernel)
  (case Rl=>k_is)
  (case P_=>k_is)
  (case N4=>k_is)
  (case O6=>k_is)
  (case MG=>k_is)
  (case PW=>k_is)
  (case MW=>k_is)
  (case ND=>k_is)
  (case NV=>k_is)
  (case NB=>k_is)
  (case M1=>k_is)
  (case Ht=>k_is)
  (case Ff=>k_is)
  (case HD=>k_is)
  (case NH=>k_is)
  (case NN=>k_is)
  (case NQ=>k_is)
  (case OL=>k_is)
  (case FX=>k_is)
  (case F4=>k_is)
  (case MU=>k_is)
  (case Nz=>k_is)
  (case MT=>k_is)
  (case Ny=>k_is)
