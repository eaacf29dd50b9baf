import PyProof.Rows.All
import Wide.All
import OpenK.AllK
import Wide.FinOn
import Lean
import PyProof.EqAt
import PyProof.EqKinds
import PyProof.TupleCall
import PySem.Challenge.RW_postroad_k32_whole_no_waiting
set_option Elab.async false
set_option linter.all false
set_option maxRecDepth 100000
abbrev aD:=@if_neg
abbrev aI:=@if_pos
abbrev bB:=@absurd
abbrev dp:=@decide_eq_true
abbrev eF:=@decide_eq_false
abbrev eK:=@congrArg
abbrev jM:=@of_decide_eq_true
abbrev kZ:=@decide_eq_true_iff
abbrev o_:=@beq_iff_eq
abbrev vC:=@beq_eq_false_iff_ne
open Array renaming getD->nD,length_toList->uJ,getElem?_eq_getElem->xx,getElem?_eq_none->Ca,toList_inj->Cb,getElem?_toList->GA,toList_push->GB,Perm.refl->PS,toList_setIfInBounds->PT,append_assoc->Zp,perm_iff_toList_perm->Zq,toList->Zr,toList_map->Zs,toList_modify->Zt,toList_zip->Zu
open Bool renaming false_ne_true->fb,and_eq_true->kK,false_eq_true->uK,eq_iff_iff->Cd,eq_false_iff->PW,not_eq_true'->PX,not_true->PY,not_false->ZJ,or_true->ZK
open Classical renaming choose_spec->G3,byContradiction->Z4,choose->Z5
open False renaming elim->hQ
open ForInStep renaming yield->G8
open Int renaming emod_nonneg->jR,emod_lt_of_pos->j_,toNat_natCast->mq,zero_add->sM,le_refl->x_,toNat->Cz,toNat_of_nonneg->CA,emod_eq_of_lt->Hj,le_of_lt->î,le_trans->ï,sub_emod_right->ð
open List renaming length_map->bc,mem_map->bV,getElem?_map->b8,getElem?_eq_getElem->cg,getD->cY,range->c_,mem_filter->d1,getElem_mem->eg,map_append->ek,mem_append->el,not_mem_nil->eB,size_toArray->eC,mem_of_getElem?->eI,mem_singleton->e8,length_append->ff,mem_cons->fy,getElem?_eq_some_iff->fW,map_cons->fX,length_take->gb,map_map->gk,length_range->hi,length_cons->hS,mem_range->iR,getElem_of_mem->jd,append_assoc->jB,append_nil->jS,forall_mem_cons->jT,nodup_cons->jU,pairwise_append->jV,take_length->ka,take_add_one->kR,toArray->kS,filter_append->lE,pairwise_map->lF,nodup_nil->mu,sum_cons->mv,length_filter_le->nH,mem_cons_of_mem->nI,any_eq_true->oV,nodup_append->oW,take_sublist->oX,getElem?_of_mem->pZ,mem_append_right->p0,take_append_drop->p1,length_nil->q4,length_pos_iff->q5,lookup->q6,drop_zero->sO,getElem_take->sP,length->sQ,length_drop->sR,map_congr_left->sS,mem_cons_self->sT,pairwise_iff_getElem->sU,ext_getElem->ve,filter_cons->vf,filter_map->vg,getElem?_range->vh,getElem_inj->vi,map_take->vj,Perm.trans->ym,drop_sublist->yn,find?_cons->yo,getElem_drop->yp,getElem_map->yq,getElem_range->yr,mem_of_mem_take->yt,range_succ->yu,replicate->yv,all_eq_true->CF,any_cons->CG,drop_eq_getElem_cons->CH,drop_eq_nil_of_le->CI,exists_mem_of_ne_nil->CJ,map->CK,take_zero->CL,Perm.append_left->HA,cons.injEq->HB,filterMap_cons->HC,getElem?_eq_none->HD,getElem_append_left->HE,getLastD_eq_getLast?->HF,map_id'->HG,map_nil->HH,mem_filterMap->HI,mem_flatMap->HJ,pairwise_cons->HK,pairwise_lt_range->HL,take_of_length_le->HM,Pairwise.imp_of_mem->Rq,Pairwise.nil->Rt,cons.inj->Ru,drop_drop->Rv,drop_take->Rw,ext_getElem?->Rx,find?_some->Ry,getElem?_append_right->Rz,getElem?_cons_zero->RA,getElem?_set_self->RB,getElem_append_right->RC,length_pos_of_mem->RD,length_set->RE,length_tail->RF,map_eq_nil_iff->RG,mem_iff_getElem->RH,mem_of_find?_eq_some->RI,nil_append->RJ,nodup_range->RK,of_mem_zip->RL,reverse_append->RM,reverse_reverse->RN,Perm.append_right->Ĵ,Perm.cons_inv->ĵ,Perm.refl->Ķ,all_cons->ķ,contains_cons->ĸ,countP_cons->Ĺ,countP_le_length->ĺ,countP_pos_iff->Ļ,filter->ļ,filterMap_cons_none->Ľ,filterMap_cons_some->ľ,filter_eq_self->Ł,filter_nil->ł,getElem?_append_left->Ń,getElem?_eq_none_iff->ń,getElem?_set->Ņ,getElem?_set_ne->ņ,getLast?_append->Ň,getLast?_eq_getLast->ň,getLast_map->Ŋ,length_flatMap->ŋ,map_drop->Ō,map_id->ō,map_snd_zip->Ŏ,mem_append_left->ŏ,ne_nil_of_mem->Ő,not_lt->ő,perm_append_comm->Œ,perm_append_comm_assoc->œ,range'->Ŕ,range'_succ->ŕ,range_eq_range'->Ŗ,reverse_cons->ŗ,zipIdx_map_snd->Ř
open Nat renaming le_refl->b1,zero_le->ea,ne_of_lt->en,le_trans->gm,lt_of_lt_of_le->jC,lt_of_le_of_lt->lG,lt_irrefl->p2,le_of_lt->sW,lt_or_ge->sX,le_succ->vk,sub_zero->vl,lt_succ_self->yx,ne_of_gt->yy,zero_add->yz,lt_succ_of_lt->CT,le_of_eq->HN,not_lt_zero->HO,lt_of_succ_lt->RQ,min_eq_left->RR,min_le_right->RS,add_assoc->aar,le_zero->aas,lt_trans->aat,mul_le_mul->aau,sub_self->aav,succ_le_succ->aaw,succ_mul->aax,succ_ne_self->aay
open Ne renaming symm->dG
open Option renaming map_eq_some_iff->eh,some.inj->gT,isSome_iff_exists->yB,map_some->HQ,some.injEq->R2,getD_none->aa4,isSome_map->aa5,none->aa6
open Or renaming inl->cC,inr->kb
open Prod renaming ext->vp,mk.inj->yD
open PyProof.Rows renaming seqObj->fp,elem'->fF,arrOf->gE,SortKind->my,SortSt.mk'->mz,bubble->nQ,envOfC->ph,AllBare->pU,failedOf->rp,keyKind'->As,IntsAre->CB,mirror->EU,setArr->FT,callWith_type1->HW,Subscript_->Ir,get?_update_seq->Kf,listUpdate_at->Mk,oneType'->M_,pairsOf->Nd,seqEpoch_at->N1,subscriptTail->Oa,args_list_sort->S7,args_sorted1->S8,entry_list_sort->TC,entry_sorted->TF,kind_sorted->VY,pendingOf->WT,plain_sorted->WW,slot_list_sort->Xj,callWith_builtin1->abm,getElem?_mirror_all->ahV,list_sort_plain->ajA,subscriptTail_builtinR->alh,kmk_tree->anb,setObjOf_fresh->anc
open PyProof.Rows.F renaming plain_set_update_loop->Sg,entry_set_update_loop->abl
open PySem renaming Shared->ax,wpAny_bind->aJ,wpAny->aX,model->br,World->bJ,wpAny_pure->bM,Program->bT,Paired->bZ,FuncData->cP,mainGlobals->c1,Around->c5,Value.ref->da,Heap.lt_size->du,Heap.get?_push_of_some->dy,starEach->dW,Value.none->d5,wpAny_mono->fa,Heap.get?_push_size->gD,backTo->hq,compareOp->hv,PassesOwn.never->hF,Paired.length->iy,argBest->iT,bootBuiltins->iV,PyData.eqv->je,wpAny_loadPart_at->jy,sysModules->jP,wpAny_holding->jQ,Str.empty->jW,pyNext->kB,Obj.mapSeq->kT,sliceBounds->lu,Heap.SameBut->lB,Str.ofString->lI,Model->nK,codeAny->nS,holding->n7,wpAny_call_entry->oM,wpAny_truthy_bool->oN,Value.int->o6,Heap.get?_update_other->pW,assignEach->p9,rawInt->qJ,sizeLine_eq->qM,CmpOp->qY,DictEntry->qZ,Heap.FlyingW->q2,atKey->q_,backToKw->rg,binaryOp->rh,keywordEach->rM,standAt->r',tupleKind->sd,wpAny_call->si,wpAny_newObj_type->sj,ClassData->sF,IsItemIter->sN,NameKind->sV,PyData.int->sY,Value.type->s_,behindInMarks->tb,bindC->tc,bindL->td,codeAny_mono->tg,wpAny_fieldsOf->uD,ExcBaseFacts->uO,OwnTail->vm,Within->vu,Result->vv,assign->vz,callerA->vE,excClassObj->vL,getItem->vV,getMethod->vW,setField->xi,swapsWith->xl,valueAt->xr,wpAny_passesOwn->xu,BindsTo->xA,Heap.get?_update_ne->x8,Heap.get?_update_self->x9,Keyword->yj,PyData.canLayAll0->yE,mem_of_lookup->yL,Value.str->yO,attributeBase->yS,callWith->yY,codeAny_builtin->y0,isTrue->Af,pyIter->A3,setAttr->Bn,wpAny_dictEntries->BJ,wpAny_dictEpoch->BK,wpAny_execs_nil->BL,wpAny_standAt->BM,Around.under_plainId->B_,Heap.size_push->Cy,call_meetsIn->Dc,plainId_quiet->Fq,relabel->FH,tupleKind_room_in1->F5,wpAny_Call_Name_kw->Gi,wpAny_attempt->Gj,wpAny_letGo->Gk,wpAny_newList->Gl,wpAny_of_eq->Gm,wpAny_setField_rec->Gn,PyData.depthAll->HV,Value.bool->Iv,Value.isStrOf->Iw,codeAny_call_builtin->JH,firstArgMember->J_,foldedSetIterable->Kb,instanceDict->LX,isInstance->LZ,letOwnedTupleGo->Mj,noteFrame->MS,raiseErrorWords->NH,refuseLoop->NJ,setFlight->N2,slicePick->N6,subscripted->Ob,wpAny_callSpecial?_slot->O1,wpAny_field->O2,wpAny_isOneOf_itemiter->O3,wpAny_isSubtype_exc->O4,wpAny_pyIter_list->O5,wpAny_tryCatch->O6,wpAny_typeNameOfWhole_itemiter->O7,wpAny_typeNameOfWhole_keyiter->O8,wpAny_typeNameOf_itemiter->O9,wpAny_typeNameOf_keyiter->O',Around.under->PR,Code.isFrame->P2,Code.quiet_builtin->P4,Data.cell->Qa,Data.fields->Qb,Heap.HeldW->QK,Heap.MadeExcOf->QL,Heap.get?_none_of_le->QN,IsItemIterOut->QZ,Within.cons->Ss,call->Su,frameOf->Sv,Shared.TypeIs->SE,Value.float->S0,Walks.list->S5,builtinsNs->Ta,cellsFrom->Td,checkCount->Te,closureFor->Tf,entryOfKey->TA,entryPlaceOf->TB,raiseStmt->W5,refuseLoop_ref->W6,seqIndex_neg->Xc,seqIndex_of->Xd,seqItems?->Xe,slot_list_getitem->Xi,wpAny_Call_method->Yo,wpAny_Name->Yp,wpAny_eqBool_int->Yq,wpAny_execs_cons->Yr,wpAny_isInstance->Ys,wpAny_isOneOf_keyiter->Yt,wpAny_newTuple->Yu,wpAny_pyIter_slot->Yv,wpAny_rule->Yw,wpAny_seqItems->Yx,wpAny_setField->Yy,wpAny_updateSeq->Yz,Heap.get?_push_at->Ö,Heap.get?_some_iff->Ø,Heap.size_update->Ù,Obj.data_mapFields->aaU,PyData.canLay0->abk,Fin->abt,Within.nil->abG,Value.isInt_shape->aet,behindIsImport->af9,codeAny_of_tree->agt,isSubtype_stop->ajq,pastItsLine_dict->akv,plainObj_wpAny_Assign_Attribute->akz,wpAny_Compare1->ame,wpAny_Dict_empty->amf,wpAny_Expr_any->amg,wpAny_assign_Name->amh,wpAny_getItem_list_slice->ami,wpAny_isTrue_Compare1->amj,wpAny_lookBehind->amk,wpAny_mroOf_exc->aml,wpAny_notOrdered_dict->amm,wpAny_pyIter_enum->amn,wpAny_tupleItemsOf->amo
open PySem.Builtin.Builtins renaming bindParams->amW
open PySem.Builtin.Dict renaming showsAll->GS,dictSlotNone->amX,noArgs->amY
open PySem.Builtin.Dict_items renaming ownsTuple->Ce,ownedTupleFields->ZN,ownedTupleIsFree->ZO,pairFromOwner->ZP,dictOf->amZ,newIterator->am0
open PySem.Builtin.Frozenset renaming updateFrom->am1
open PySem.Builtin.List renaming listTooLong->PZ,listUpdate->ZQ
open PySem.Builtin.ObjectAttr renaming storeInOwnDict->GU,storeInDict->ZR,newKeyGuard->am2
open PySem.Builtin.Range renaming rangeSize->am3
open PySem.Calls renaming spliced_cons->xC,callWith_builtin->Cf,evalArgs_plain->Cg,spliced_nil->GY,call_function_entry->P1,Name_function_global->Z1
open PySem.Challenge renaming pw_postroad_k32_whole_no_waiting->ane,rw_postroad_k32_whole_no_waiting->anf
open PySem.EntryCells renaming newEntry->am5
open PySem.EqMixed renaming eq_bool_str->ang,eq_int_str->anh,eq_str_bool->ani,eq_str_int->anj,ne_bool_str->ank,ne_int_str->anl,ne_str_bool->anm,ne_str_int->ano
open PySem.EqNone renaming eq_bool_none->anp,eq_int_none->anq,eq_none_bool->anr,eq_none_int->ans,eq_none_none->ant,eq_none_str->anu,eq_str_none->anv,ne_bool_none->anw,ne_int_none->anx,ne_none_bool->anz,ne_none_int->anA,ne_none_none->anB,ne_none_str->anC,ne_str_none->anD
open PySem.F renaming plainAttrs_list->p4,slot_list_append->p5,type_list_append->p6,plain_min_loop->vq,excBase_ValueError->yF,slot_dict_get->yG,entry_dict_get->HX,plainAttrs_dict->HY,entry_min_loop->Sh,args_dict_get_2->abn,args_dict_get_3->abo,slot_dict_setdefault->abp,store_ValueError->abq,type_dict_get->abr
open PySem.Heap renaming ExtBut.push->Hf,SameBut.update->QM,IsSliceOf.new->Ó,Ns1.of_empty->Ô,SameBut.extBut->Õ
open PySem.SeqAt renaming shaped->q8,EqAt->ac2,EqAt.int_str->ac3,EqAt.str_int->ac4
open PySem.W renaming Frag->a3,findIn->c3,nsIn->dA,mg_of->fg,isFn->g8,mg_none_of->jf,kas_rev->oc,keepIn->o1,kia_one->o2,kas_ask->qz,emptyDict->q7,hasDictIn->sZ,hideAll->s6,instObj->s7,fnOf->vr,plainGet->vt,kas_place->wC,kas_sort->wD,excIn->yH,kitOne->yI,looks_findIn->yJ,specialIn->yK,kas_desc->Aq,kas_tail3->Ar,Looks.of_pure->CN,callWith_K->C0,makesIn->C1,methodCall_KW->C2,mroIn->C3,plainOver->C4,Looks->HZ,lookIn->H0,subIn->H2,kas_bin->L6,kas_count->L7,OpenLaw->Si,codeIn->Sj,findCls->Sk,hideAll_get->Sl,methodObj->Sm,of_hideAll->Sn,plainGet_of->So,readsIn->Sp,takerIn->Sq,takesIn->Sr,kas_descPart->VX,Looks.ld->abu,WalkO->abv,bind_fn->abw,cellsFrom_some->abx,check_slot->aby,funFrames_hide->abz,handedIn->abA,hideAll_none->abB,kitx_dict->abC,kitx_list->abD,looks_subIn->abE,typeIn->abF
open Sum renaming inr->e',inl->iz,inr.inj->It,inl.inj->SH
open True renaming intro->lK
namespace ai
open PySem PySem.Spec PyProof.Rows
noncomputable abbrev bj:=Sum Int Str
noncomputable def ui:bj→Value→Bool
 |.inl k,v=>Value.isInt k v
 |.inr x,v=>Iw x v
noncomputable def aeM(w:bJ):bj→Int
 |.inl k=>hashInt k
 |.inr x=>hashStr w x
theorem pb:∀{k:bj}{v:Value},ui k v=true→(∃i t,k=iz i∧v=o6 i t)∨(∃x t,k=e' x∧v=yO x t)
 |.inl i,v,h=>by
  obtain⟨t,e⟩:=aet (k:=i) (v:=v) h
  exact .inl ⟨i,t,rfl,e⟩
 |.inr x,v,h=>by
  obtain⟨t,e⟩:=Value.isStrOf_shape (x:=x) (v:=v) h
  exact .inr ⟨x,t,rfl,e⟩
theorem δ(i:Int)(t:Tok):ui (.inl i) (.int i t)=true:=by simp[ui,Value.isInt]
theorem ε(x:Str)(t:Tok):ui (.inr x) (.str x t)=true:=by simp[ui,Iw]
theorem abH(a b:Int):decide ((iz a:bj)=iz b)=(a==b):=by
 by_cases e:a=b
 .subst e;simp
 .have h:¬(iz a:bj)=iz b:=λq=>e (SH q)
  rw[eF h]
  exact(vC.mpr e).symm
theorem abe(a b:Str):decide ((e' a:bj)=e' b)=decide (a=b):=by
 by_cases e:a=b
 .subst e;simp
 .have h:¬(e' a:bj)=e' b:=λq=>e (It q)
  rw[eF h,eF e]
theorem abf(a:Int)(b:Str):decide ((iz a:bj)=e' b)=false:=eF (λq=>nomatch q)
theorem abg(a:Str)(b:Int):decide ((e' a:bj)=iz b)=false:=eF (λq=>nomatch q)
noncomputable def gV(prog:bT)(w:bJ):PySem.KeyKind prog w bj where
 is:=ui
 hash:=aeM w
 inj:=λv a b aH U=>by
  rcases pb aH with⟨i,t,rfl,rfl⟩|⟨x,t,rfl,rfl⟩
  .rcases pb U with⟨j,u,rfl,e⟩|⟨y,u,rfl,e⟩
   .injection e with av _;rw[av]
   .exact nomatch e
  .rcases pb U with⟨j,u,rfl,e⟩|⟨y,u,rfl,e⟩
   .exact nomatch e
   .injection e with av _;rw[av]
 byValue:=λk v h=>by
  rcases pb h with⟨i,t,rfl,rfl⟩|⟨x,t,rfl,rfl⟩<;>rfl
 pyHash:=λbG h=>by
  rcases pb bG with⟨i,t,rfl,rfl⟩|⟨x,t,rfl,rfl⟩
  .exact wpAny_pyHash_int h
  .exact wpAny_pyHash_str h
 eqBool:=λcf bG h=>by
  rcases pb cf with⟨i,t,rfl,rfl⟩|⟨x,t,rfl,rfl⟩
  .rcases pb bG with⟨j,u,rfl,rfl⟩|⟨y,u,rfl,rfl⟩
   .rw[abH]at h;exact Yq h
   .rw[abf]at h;exact ac3 i t y u _ _ _ _ h
  .rcases pb bG with⟨j,u,rfl,rfl⟩|⟨y,u,rfl,rfl⟩
   .rw[abg]at h;exact ac4 x t j u _ _ _ _ h
   .rw[abe]at h;exact wpAny_eqBool_str h
 «strs»:=λk x t v h=>by
  rcases pb h with⟨i,u,rfl,e⟩|⟨y,u,rfl,e⟩
  .exact nomatch e
  .injection e with av _
   subst av
   cases v<;>rfl
theorem amx(prog:bT)(w:bJ)(i:Int)(t:Tok):(gV prog w).is (.inl i) (.int i t)=true:=δ i t
theorem amy(prog:bT)(w:bJ)(x:Str)(t:Tok):(gV prog w).is (.inr x) (.str x t)=true:=ε x t
inductive V where
 |bR|bo (b:Bool)|int (i:Int)|str (x:Str)|kV (b:Array UInt8)|tv (b:UInt64)|ref (a:Addr)|ty (n:String)
 deriving DecidableEq
noncomputable def RelV:V→Value→Prop
 |.bR,u=>u=d5
 |.bo b,u=>u=Iv b
 |.int i,u=>∃t,u=o6 i t
 |.str x,u=>∃t,u=yO x t
 |.kV b,u=>∃t,u=Value.bytes b t
 |.tv b,u=>∃t,u=S0 b t
 |.ref a,u=>u=da a
 |.ty n,u=>u=s_ n
noncomputable abbrev cj:List V→List Value→Prop:=bZ RelV
theorem cj.length{xs:List V}{us:List Value}(r:cj xs us):xs.length=us.length:=iy r
theorem cj.get:∀{xs:List V}{us:List Value}{i:Nat}{x:V},cj xs us→xs[i]?=some x→∃u,us[i]?=some u∧RelV x u
 |_,_,_,_,.nil,e=>by simp at e
 |_,_,0,_,.cons r _,e=>by simp at e;subst e;exact⟨_,rfl,r⟩
 |_,_,i+1,x,.cons _ t,e=>by
  obtain⟨u,ag,af⟩:=cj.get (i:=i) (x:=x) t (by simpa using e)
  exact⟨u,by simpa using ag,af⟩
theorem cj.set{x:V}{u:Value}(r:RelV x u):∀{xs:List V}{us:List Value}(i:Nat),cj xs us→cj (xs.set i x) (us.set i u)
 |_,_,_,.nil=>.nil
 |_,_,0,.cons _ t=>.cons r t
 |_,_,i+1,.cons q t=>.cons q (cj.set r i t)
theorem cj.append:∀{xs ys:List V}{us ws:List Value},cj xs us→cj ys ws→cj (xs++ys) (us++ws)
 |_,_,_,_,.nil,s=>s
 |_,_,_,_,.cons r t,s=>.cons r (cj.append t s)
theorem cj.take:∀{xs:List V}{us:List Value}(n:Nat),cj xs us→cj (xs.take n) (us.take n)
 |_,_,0,_=>.nil
 |_,_,_+1,.nil=>.nil
 |_,_,n+1,.cons r t=>.cons r (cj.take n t)
theorem cj.drop:∀{xs:List V}{us:List Value}(n:Nat),cj xs us→cj (xs.drop n) (us.drop n)
 |_,_,0,r=>r
 |_,_,_+1,.nil=>.nil
 |_,_,n+1,.cons _ t=>cj.drop n t
theorem cj.none_of:∀{xs:List V}{us:List Value}{i:Nat},cj xs us→xs[i]?=none→us[i]?=none:=λ{xs us i}r e=>by
 have ag:=r.length
 have af:xs.length≤i:=ń.mp e
 exact ń.mpr (by omega)
noncomputable def iI:Option V→Option Value→Prop
 |some v,some u=>RelV v u
 |none,none=>True
 |_,_=>False
noncomputable def f_{κ:Type}:List (κ×V)→List (κ×Value)→Prop:=bZ λ(p:κ×V)(q:κ×Value)=>p.1=q.1∧RelV p.2 q.2
noncomputable def cQ:bj→V
 |.inl i=>.int i
 |.inr x=>.str x
inductive d4 where
  |lst (xs:List V)
  |tup (xs:List V)
  |ct (kvs:List (bj×V))|cE (kvs:List (List bj×V))
  |set (S:Int→Bool) (n:Nat)
  |ins (C au:Addr) (fs:List (Str×V))
  |own (x:Addr)
  |Gs (fs:List (Str×V))
  |met (f x:Addr)
  |FL (lo aj:Int)
  |d9 (o:Obj) (u:d4)
  |oG (ps:Array Value)
  |ext (pT:Heap→Prop)
noncomputable abbrev ae:=Addr→Option d4
noncomputable def upd(H:ae)(a:Addr)(o:d4):ae:=λb=>if b=a then some o else H b
theorem a4{H:ae}{a:Addr}{o:d4}:upd H a o a=some o:=by unfold upd;rw[aI rfl]
theorem aG{H:ae}{a b:Addr}{o:d4}(h:b≠a):upd H a o b=H b:=by unfold upd;rw[aD h]
theorem P0{H:ae}{a:Addr}{o u:d4}:upd (upd H a o) a u=upd H a u:=by
 funext b;unfold upd;split<;>rfl
theorem hx{H:ae}{a b:Addr}{o u:d4}(h:H a=some o)(h':H b=some u)(d:o≠u):a≠b:=by
 intro e;subst e;rw[h]at h';exact d (gT h')
theorem dg{H:ae}{a b:Addr}{o:d4}(h:H a=some o)(h':H b=none):a≠b:=by
 intro e;subst e;rw[h]at h';cases h'
section
variable(P:bT)(w:bJ)
noncomputable def eo(H:ae)(h:Heap)(a:Addr):d4→Prop
 |.lst xs=>xs.length≤sizeLine∧∃(its:List Value)(n:Nat),cj xs its∧h.get? a=some {cls:=.type "list",data:=.seq its.toArray n}
 |.tup xs=>xs.length≤sizeLine∧∃its:List Value,cj xs its∧IsTup h a its.toArray
 |.ct kvs=>kvs.length≤sizeLine∧(a==jP)=false∧∃vs,f_ kvs vs∧h.DictOf (gV P w) a vs
 |.cE kvs=>kvs.length≤sizeLine∧(a==jP)=false∧∃xs:List (List bj×Addr×Value),
   bZ (λ(p:List bj×V)(q:List bj×Addr×Value)=>p.1=q.1∧H q.2.1=some (.tup (p.1.map cQ))∧RelV p.2 q.2.2) kvs xs∧
   ∃o es ep,h.get? a=some o∧o.ExactDict∧o.data=.dict es ep∧es.toList=xs.map (TA (sd (gV P w)))∧(xs.map (·.1)).Nodup
 |.set S n=>h.SetOf (intKind P w) a S n
 |.ins C au fs=>H au=some (.own a)∧fs.length≤1000∧au≠a∧h.get? a=some (s7 C au)∧
   ∃mA,h.Ns1 au mA∧(∀f,iI (fs.lookup f) (mA f))∧vu mA (fs.map (·.1))
 |.own _=>∃o,h.get? a=some o
 |.Gs fs=>∃mA,h.Ns1 a mA∧∀f,iI (fs.lookup f) (mA f)
 |.FL lo aj=>∃t u v,h.get? a=some {cls:=.type "range",data:=.fields #[.int lo t,.int aj u,.int 1 v]}
 |.d9 o u=>h.get? a=some o∧eo H h a u
 |.oG ps=>h.get? a=some {cls:=.none,data:=.fields ps}
 |.met f x=>h.get? a=some (Sm (.ref f) (.ref x))
 |.ext pT=>pT h∧(∃o,h.get? a=some o)∧∀ag af:Heap,pT ag→(∀o,ag.get? a=some o→af.get? a=some o)→pT af
noncomputable def fe(H:ae)(h:Heap):Prop:=∀a o,H a=some o→eo P w H h a o
end
section
variable{P:bT}{w:bJ}{H H':ae}{h h':Heap}{a:Addr}{o:d4}
theorem eo.lt(x:eo P w H h a o):a<h.objs.size:=by
 cases o with
 |lst xs=>obtain⟨_,_,_,_,e⟩:=x;exact du e
 |tup xs=>obtain⟨_,_,_,p⟩:=x;exact p.lt
 |ct kvs=>obtain⟨_,_,_,_,o,_,_,e,_⟩:=x;exact du e
 |cE kvs=>obtain⟨_,_,_,_,o,_,_,e,_⟩:=x;exact du e
 |set S n=>obtain⟨o,_,_,_,e,_⟩:=x;exact du e
 |ins C au fs=>obtain⟨_,_,_,e,_⟩:=x;exact du e
 |own y=>obtain⟨_,e⟩:=x;exact du e
 |Gs fs=>obtain⟨_,⟨_,_,_,e,_⟩,_⟩:=x;exact du e
 |FL lo aj=>obtain⟨_,_,_,e⟩:=x;exact du e
 |d9 ob u=>obtain⟨e,_⟩:=x;exact du e
 |oG ps=>exact du (show h.get? a=some _ from x)
 |met f y=>exact du (show h.get? a=some _ from x)
 |ext pT=>obtain⟨_,⟨_,e⟩,_⟩:=x;exact du e
theorem bZ.jL{α β:Type}{F G:α→β→Prop}:∀{We:List α}{Wf:List β},bZ F We Wf→(∀a b,F a b→G a b)→bZ G We Wf
 |_,_,.nil,_=>.nil
 |_,_,.cons r t,f=>.cons (f _ _ r) (bZ.jL t f)
theorem eo.nt(x:eo P w H h a o)(k:∀b u,(b=a∨H b=some (.own a))→h.get? b=some u→h'.get? b=some u)(a9:∀b,H b=some (.own a)→H' b=some (.own a))(cw:∀b xs,H b=some (.tup xs)→H' b=some (.tup xs)):eo P w H' h' a o:=by
 induction o with
 |lst xs=>obtain⟨z,its,n,r,e⟩:=x;exact⟨z,its,n,r,k _ _ (.inl rfl) e⟩
 |tup xs=>obtain⟨z,its,r,ob,e,c⟩:=x;exact⟨z,its,r,ob,k _ _ (.inl rfl) e,c⟩
 |ct kvs=>obtain⟨z,y,vs,r,ob,es,ep,e,c⟩:=x;exact⟨z,y,vs,r,ob,es,ep,k _ _ (.inl rfl) e,c⟩
 |cE kvs=>
  obtain⟨z,y,xs,r,ob,es,ep,e,c⟩:=x
  exact⟨z,y,xs,bZ.jL r λp q z=>⟨z.1,cw _ _ z.2.1,z.2.2⟩,ob,es,ep,k _ _ (.inl rfl) e,c⟩
 |set S n=>obtain⟨ob,es,ep,t,e,c⟩:=x;exact⟨ob,es,ep,t,k _ _ (.inl rfl) e,c⟩
 |ins C au fs=>
  obtain⟨d,z,ne,e,mA,⟨dP,es,ep,ay,c⟩,r⟩:=x
  exact⟨a9 _ d,z,ne,k _ _ (.inl rfl) e,mA,⟨dP,es,ep,k _ _ (.inr d) ay,c⟩,r⟩
 |own y=>obtain⟨ob,e⟩:=x;exact⟨ob,k _ _ (.inl rfl) e⟩
 |Gs fs=>obtain⟨mA,⟨dP,es,ep,e,c⟩,r⟩:=x;exact⟨mA,⟨dP,es,ep,k _ _ (.inl rfl) e,c⟩,r⟩
 |FL lo aj=>obtain⟨t,u,v,e⟩:=x;exact⟨t,u,v,k _ _ (.inl rfl) e⟩
 |d9 ob u ba=>obtain⟨e,q⟩:=x;exact⟨k _ _ (.inl rfl) e,ba q⟩
 |oG ps=>
  have e:h.get? a=some {cls:=.none,data:=.fields ps}:=x
  show h'.get? a=some {cls:=.none,data:=.fields ps}
  exact k a _ (.inl rfl) e
 |met f y=>
  have e:h.get? a=some (Sm (.ref f) (.ref y)):=x
  show h'.get? a=some (Sm (.ref f) (.ref y))
  exact k a _ (.inl rfl) e
 |ext pT=>obtain⟨p,⟨o,e⟩,st⟩:=x;exact⟨st _ _ p λo q=>k _ _ (.inl rfl) q,⟨o,k _ _ (.inl rfl) e⟩,st⟩
theorem fe.lt(x:fe P w H h)(e:H a=some o):a<h.objs.size:=(x a o e).lt
theorem fe.fresh(x:fe P w H h)(e:h.objs.size≤a):H a=none:=by
 cases q:H a with
 |none=>rfl
 |some u=>exact bB (jC (x.lt q) e) (p2 _)
theorem fe.kept(x:fe P w H h)(k:∀b u,h.get? b=some u→h'.get? b=some u):fe P w H h':=λa o e=>
 (x a o e).nt (λb u _ q=>k b u q) (λ_ q=>q) λ_ _ q=>q
theorem fe.laid(x:fe P w H h)(k:∀b u,h.get? b=some u→h'.get? b=some u)(aQ:h.objs.size≤a)(new:eo P w (upd H a o) h' a o):fe P w (upd H a o) h':=λb u e=>by
 have az:=x.fresh aQ
 by_cases U:b=a
 .subst U;rw[a4]at e;cases e;exact new
 .rw[aG U]at e
  exact(x b u e).nt (λc v _ q=>k c v q) (λc q=>by rw[aG (dg q az)];exact q) λc xs q=>by rw[aG (dg q az)];exact q
end
noncomputable def bz(H:ae)(a:Addr)(u:d4):Prop:=H a=some u∨∃o,H a=some (.d9 o u)
theorem bz.ok{P:bT}{w:bJ}{H:ae}{h:Heap}{a:Addr}{u:d4}(r:bz H a u)(x:fe P w H h):eo P w H h a u:=by
 rcases r with r|⟨o,r⟩
 .exact x a u r
 .obtain⟨_,q⟩:=x a _ r
  exact q
noncomputable def yw:Option d4→Prop
 |some (.lst _)=>True
 |some (.ct _)=>True
 |some (.cE _)=>True
 |some (.set _ _)=>True
 |some (.ins _ _ _)=>True
 |some (.ext _)=>True
 |_=>False
section
variable{P:bT}{w:bJ}{H:ae}{h h':Heap}{x e:Addr}{cO:d4}
theorem fe.write(ok:fe P w H h)(h4:yw (H x))(he:e=x∨H e=some (.own x))(k:∀b u,b≠e→h.get? b=some u→h'.get? b=some u)(v_:∃u,h'.get? e=some u)(new:eo P w (upd H x cO) h' x cO):fe P w (upd H x cO) h':=λb u q=>by
 have WD:∀c y,H c=some (.own y)→c≠x:=λc y r z=>by subst z;rw[r]at h4;exact h4
 have aki:∀c xs,H c=some (.tup xs)→c≠x:=λc xs r z=>by subst z;rw[r]at h4;exact h4
 by_cases U:b=x
 .subst U;rw[a4]at q;cases q;exact new
 .rw[aG U]at q
  by_cases j3:b=e
  .have c4:H b=some (.own x):=by
    rcases he with z|z
    .exact bB (j3.trans z) U
    .rw[j3];exact z
   rw[q]at c4;cases c4
   obtain⟨v,bG⟩:=v_
   exact⟨v,by rw[j3];exact bG⟩
  .refine(ok b u q).nt (λc v aF r=>k c v ?_ r) (λc r=>by rw[aG (WD c b r)];exact r) λc xs r=>by rw[aG (aki c xs r)];exact r
   rcases aF with rfl|aF
   .exact j3
   .rintro rfl
    rcases he with z|z
    .exact WD c b aF z
    .rw[aF]at z;cases z;exact U rfl
end
structure hk(fs ex:List Addr)(H H':ae)(h h':Heap):Prop where
 keep:∀b o,h.get? b=some o→H b=none→b∉fs→b∉ex→h'.get? b=some o
 slot:∀b o,h.get? b=some o→H b=none→b∈fs→b∉ex→∃bS,h'.get? b=some {o with slots:=bS}
 free:∀b o,h.get? b=some o→H b=none→b∉ex→H' b=none
 there:∀b o,h.get? b=some o→b∉ex→∃cO,h'.get? b=some cO
 h7:∀b xs,H b=some (.tup xs)→H' b=some (.tup xs)
 iY:∀b o u,H b=some (.d9 o u)→H' b=some (.d9 o u)
 jx:∀b ps,H b=some (.oG ps)→∃more,H' b=some (.oG (ps++more))
section
variable{fs ahS ex vK:List Addr}{H H1 ak:ae}{h ag af h':Heap}{a x e:Addr}{o:d4}
theorem hk.any(u:hk fs ex H H1 h ag){b:Addr}{ob:Obj}(q:h.get? b=some ob)(n:H b=none)(ao:b∉ex):∃bS,ag.get? b=some {ob with slots:=bS}:=by
 by_cases U:b∈fs
 .exact u.slot b ob q n U ao
 .exact⟨ob.slots,u.keep b ob q n U ao⟩
theorem hk.kept(k:∀b u,h.get? b=some u→h'.get? b=some u):hk fs ex H H h h':=
 ⟨λb ob q _ _ _=>k b ob q,λb ob q _ _ _=>⟨ob.slots,k b ob q⟩,λ_ _ _ n _=>n,λb ob q _=>⟨ob,k b ob q⟩,λ_ _ q=>q,λ_ _ _ q=>q,λ_ ps q=>⟨#[],by rw[q];simp⟩⟩
theorem hk.refl:hk fs ex H H h h:=hk.kept λ_ _ q=>q
theorem hk.laid(k:∀b u,h.get? b=some u→h'.get? b=some u)(aQ:h.objs.size≤a)(az:H a=none):hk fs ex H (upd H a o) h h' where
 keep:=λb u q _ _ _=>k b u q
 slot:=λb u q _ _ _=>⟨u.slots,k b u q⟩
 free:=λb u q n _=>by rw[aG (en (jC (du q) aQ))];exact n
 there:=λb u q _=>⟨u,k b u q⟩
 h7:=λb xs q=>by rw[aG (dg q az)];exact q
 iY:=λb u xs q=>by rw[aG (dg q az)];exact q
 jx:=λb ps q=>⟨#[],by rw[aG (dg q az),q];simp⟩
theorem hk.write(h4:yw (H x))(he:e=x∨H e=some (.own x))(k:∀b u,b≠e→h.get? b=some u→h'.get? b=some u)(v_:∃u,h'.get? e=some u):hk fs ex H (upd H x o) h h':=by
 have ao:∀b,H b=none→b≠x:=λb n z=>by subst z;rw[n]at h4;exact h4
 have U:∀b,H b=none→b≠e:=λb n z=>by
  subst z
  rcases he with r|r
  .exact ao b n r
  .rw[n]at r;cases r
 have hm:∀b u,H b=some u→¬yw (some u)→b≠x:=λb u q nm z=>by subst z;rw[q]at h4;exact nm h4
 refine⟨λb u q n _ _=>k b u (U b n) q,λb u q n _ _=>⟨u.slots,k b u (U b n) q⟩,λb u q n _=>by rw[aG (ao b n)];exact n,λb u q _=>?_,
  λb xs q=>by rw[aG (hm b _ q λz=>z)];exact q,λb u xs q=>by rw[aG (hm b _ q λz=>z)];exact q,λb ps q=>⟨#[],by rw[aG (hm b _ q λz=>z),q];simp⟩⟩
 by_cases j3:b=e
 .subst j3;exact v_
 .exact⟨u,k b u j3 q⟩
end
noncomputable def F4(h:Heap)(H:ae):List Addr:=(c_ h.objs.size).filter λa=>(H a).isSome
noncomputable def qP(h:Heap)(H:ae):Heap:=s6 h (F4 h H)
theorem ζ(h:Heap)(H:ae):(qP h H).objs.size=h.objs.size:=PySem.W.hideAll_size _ _
theorem Ξ{h:Heap}{H:ae}{b:Addr}{o:Obj}(e:h.get? b=some o)(n:H b=none):(qP h H).get? b=some o:=
 Sl _ e λhm=>by
  have q:(H b).isSome=true:=(d1.mp hm).2
  rw[n]at q;simp at q
theorem Ĭ{h:Heap}{H:ae}{b:Addr}{o:Obj}(e:(qP h H).get? b=some o):h.get? b=some o∧H b=none:=by
 have b5:h.get? b=some o:=Sn (F4 h H) e
 refine⟨b5,?_⟩
 cases q:H b with
 |none=>rfl
 |some x=>
  have hm:b∈F4 h H:=d1.mpr ⟨iR.mpr (du b5),by simp[q]⟩
  have z:(qP h H).get? b=none:=abB (F4 h H) hm
  rw[z]at e;cases e
noncomputable def ĭ(g h:Heap)(L:Addr):List (Addr×Obj):=(c_ h.objs.size).filterMap λa=>if a=L∨(g.get? a).isSome=true then none else(h.get? a).map λo=>(a,o)
noncomputable def rest(g h:Heap)(L d:Addr):List (Addr×Obj):=(ĭ g h L).filter λp=>decide (p.1≠d)
open PySem PySem.Spec PyProof.Rows
structure Mod(K:a3)(aa:Str→Option Value)(base:Heap):Prop where
 rN:K.In base
 glob:base.Ns c1 aa
 blt:∃nc,base.Ns Ta nc∧∀x:Str,x≠"__name__"→nc x=iV x
 nolimit:base.NoLimit
structure bw where
 prog:bT
 w:bJ
 K:a3
 aa:Str→Option Value
 base:Heap
 A:c5
 N:List Str
 hN:ax
 kP:ae
 env:Env
 outer:List Env
 stack:List Env
 ex:List Addr
 fn:Str→Bool
 calm:Bool
 ey:List (Addr×Obj)
 dj:Value→ax→Prop
noncomputable def fG(l:List Env):List Addr:=l.filterMap (·.frame)
noncomputable abbrev bw.fs(X:bw):List Addr:=fG X.outer
noncomputable def Iy(sc:Scope)(x:Str):Prop:=sc.names.lookup x=some .local∨sc.names.lookup x=some .cell∨sc.names.lookup x=some .free
noncomputable def Loc(sc:Scope)(x:Str):Prop:=sc.names.lookup x=some .local∨sc.names.lookup x=some .cell
noncomputable def Look(env:Env)(h:Heap)(m:Str→Option Value)(x:Str)(u:Value):Prop:=
 (env.kindOf x=some .local∧m x=some u)∨((env.kindOf x=some .cell∨env.kindOf x=some .free)∧∃c,env.cells.lookup x=some c∧h.IsCell c (some u))
structure bw.Ok(X:bw):Prop where
 mod:Mod X.K X.aa X.base
 kind:X.env.scope.kind=.function
 glob:X.env.globals=c1
 blt:X.env.builtins=Ta
 above:X.hN.heap.objs.size≤X.env.locals
 inj:∀x y c,X.env.cells.lookup x=some c→X.env.cells.lookup y=some c→x=y
 has:∀x,(X.env.kindOf x=some .cell∨X.env.kindOf x=some .free)→∃c,X.env.cells.lookup x=some c
 tf:∀x c,X.fn x=true→X.env.cells.lookup x=some c→X.hN.heap.objs.size≤c
 hd:X.calm=true→X.A.handled=none
 frames:X.A.frames=some X.stack
 oE:X.stack=X.outer∨(X.stack=X.env::X.outer∧X.env.frame=some X.env.locals)
 Dt:∀b∈X.ex,b≠X.env.locals∧∀x c,X.env.cells.lookup x=some c→c≠b
 bs:∀b o,X.base.get? b=some o→X.hN.heap.get? b=some o∧X.kP b=none
 pa:X.base.objs.size≤X.hN.heap.objs.size
 ua:∀b o,X.base.get? b=some o→b∉X.ex
 vM:∀b∈X.ex,b∉X.fs
 jk:X.hN.heap.FunFrames X.base X.outer
 qf:∀b∈X.fs,X.kP b=none
structure Inv(X:bw)(pins:List (Addr×Obj))(σ:List (Option V))(H:ae)(s:ax):Prop where
 ok:X.Ok
 os:s.os=X.hN.os
 bare:pU s.gens
 base:hk X.fs X.ex X.kP H X.hN.heap s.heap
 loc:∃m,s.heap.Ns X.env.locals m∧∀(i:Nat)(x:Str)(v:V),X.N[i]?=some x→σ[i]?=some (some v)→Iy X.env.scope x→∃u,RelV v u∧Look X.env s.heap m x u
 cell:∀x c,X.env.cells.lookup x=some c→∃v,s.heap.IsCell c v
 free:H X.env.locals=none
 lT:∀x c,X.env.cells.lookup x=some c→H c=none
 pin:∀p∈X.ey++pins,s.heap.get? p.1=some p.2∧H p.1=none∧p.1≠X.env.locals∧p.1∉X.fs∧∀v,p.2.data≠.cell v
 bh:fe X.prog X.w H s.heap
 len:σ.length=X.N.length
section
variable{X:bw}{pins:List (Addr×Obj)}{σ:List (Option V)}{H H':ae}{s:ax}{h':Heap}
theorem bw.Ok.aj8(ok:X.Ok){b:Addr}{o:Obj}(e:X.base.get? b=some o):b∉X.fs:=λU=>by
 have:=(ok.jk.mem U).1
 rw[e]at this;cases this
theorem Inv.bs(I:Inv X pins σ H s):∀b o,X.base.get? b=some o→s.heap.get? b=some o∧H b=none:=λb o e=>
 ⟨I.base.keep b o (I.ok.bs b o e).1 (I.ok.bs b o e).2 (I.ok.aj8 e) (I.ok.ua b o e),I.base.free b o (I.ok.bs b o e).1 (I.ok.bs b o e).2 (I.ok.ua b o e)⟩
theorem Inv.gG(I:Inv X pins σ H s):∀b o,X.base.get? b=some o→s.heap.get? b=some o:=λb o e=>(I.bs b o e).1
theorem Inv.mod(I:Inv X pins σ H s):Mod X.K X.aa X.base:=I.ok.mod
theorem Inv.eV(I:Inv X pins σ H s):X.K.In s.heap:=I.ok.mod.rN.keeps I.gG
theorem Inv.lt(I:Inv X pins σ H s):X.env.locals<s.heap.objs.size:=let⟨_,az,_⟩:=I.loc;az.lt
theorem Inv.i_(I:Inv X pins σ H s):X.hN.heap.objs.size≤s.heap.objs.size:=gm I.ok.above (sW I.lt)
theorem Inv.aka(I:Inv X pins σ H s){a:Addr}(h:s.heap.objs.size≤a):a∉X.fs:=λU=>by
 obtain⟨_,o,a9,_⟩:=I.ok.jk.mem U
 exact bB (jC (du a9) (gm I.i_ h)) (p2 _)
theorem Inv.p'(I:Inv X pins σ H s):∀x c,X.env.cells.lookup x=some c→c≠X.env.locals:=λx c e z=>by
 obtain⟨v,o,a9,hd⟩:=I.cell x c e
 obtain⟨m,⟨cO,es,ep,i3,kq,_⟩,_⟩:=I.loc
 rw[z,i3]at a9;cases a9;rw[kq]at hd;cases hd
theorem Inv.jk(I:Inv X pins σ H s):s.heap.FunFrames X.base X.outer:=by
 have all:∀(l:List Env),(∀b∈fG l,b∈X.fs)→X.hN.heap.FunFrames X.base l→s.heap.FunFrames X.base l:=by
  intro l
  induction l with
  |nil=>intro _ _;trivial
  |cons env r ba=>
   intro hs ar
   obtain⟨aK,⟨L,o,hf,az,a9,hd⟩,aw⟩:=ar
   have hz:L∈X.fs:=hs L (by unfold fG;rw[HC,hf];exact sT)
   obtain⟨bS,e⟩:=I.base.slot L o a9 (I.ok.qf L hz) hz λz=>I.ok.vM L z hz
   exact⟨aK,⟨L,_,hf,az,e,hd⟩,ba (λb U=>hs b (by unfold fG;rw[HC,hf];exact nI _ U)) aw⟩
 exact all X.outer (λ_ U=>U) I.ok.jk
theorem Inv.stack(I:Inv X pins σ H s):s.heap.FunFrames X.base X.stack:=by
 rcases I.ok.oE with e|⟨e,hf⟩
 .rw[e];exact I.jk
 .rw[e]
  obtain⟨m,az,_⟩:=I.loc
  refine .cons (by rw[I.ok.kind];decide) hf az ?_ I.jk
  exact QN (gm I.ok.pa I.ok.above)
theorem Inv.Br(I:Inv X pins σ H s):∀b∈fG X.stack,b∈X.env.locals::X.fs:=λb U=>by
 rcases I.ok.oE with e|⟨e,hf⟩
 .rw[e]at U;exact nI _ U
 .rw[e]at U
  unfold fG at U
  rw[HC,hf]at U
  exact U
theorem Inv.FX(I:Inv X pins σ H s):∀b∈fG X.stack,H b=none:=λb U=>by
 rcases fy.mp (I.Br b U)with e|U
 .rw[e];exact I.free
 .obtain⟨_,o,a9,_⟩:=I.ok.jk.mem U
  exact I.base.free b o a9 (I.ok.qf b U) λz=>I.ok.vM b z U
theorem Inv.step{g':Array GenState}{t':Nat}{d':Drawn}{ch:List Addr}(I:Inv X pins σ H s)(ik:∀b∈ch,(b∈X.ex∨X.hN.heap.objs.size≤b)∧b≠X.env.locals∧(∀x c,X.env.cells.lookup x=some c→c≠b)∧∀p∈X.ey++pins,p.1≠b)(keep:∀b o,b≠X.env.locals→b∉X.fs→b∉ch→s.heap.get? b=some o→H b=none→h'.get? b=some o)(slot:∀b o,b≠X.env.locals→b∈X.fs→b∉ch→s.heap.get? b=some o→H b=none→∃bS,h'.get? b=some {o with slots:=bS})(free:∀b o,b∉ch→s.heap.get? b=some o→H b=none→H' b=none)(there:∀b o,b∉ch→s.heap.get? b=some o→∃cO,h'.get? b=some cO)(h7:∀b xs,H b=some (.tup xs)→H' b=some (.tup xs))(iY:∀b o u,H b=some (.d9 o u)→H' b=some (.d9 o u))(jx:∀b ps,H b=some (.oG ps)→∃more,H' b=some (.oG (ps++more)))(ns:∀m,s.heap.Ns X.env.locals m→h'.Ns X.env.locals m)(bh:fe X.prog X.w H' h')(bf:pU g'):
  Inv X pins σ H' {s with heap:=h',gens:=g',drawn:=d',toks:=t'}:=by
 have Ww:∀b o,X.hN.heap.get? b=some o→b≠X.env.locals:=λb o e=>en (jC (du e) I.ok.above)
 have E0:∀b o,X.hN.heap.get? b=some o→b∉X.ex→b∉ch:=λb o e ao U=>by
  rcases(ik b U).1 with z|z
  .exact ao z
  .exact bB (jC (du e) z) (p2 _)
 have cellK:∀x c,X.env.cells.lookup x=some c→∀v,s.heap.IsCell c v→h'.IsCell c v:=λx c e v⟨o,a9,hd⟩=>by
  have oo:c∉ch:=λz=>(ik c z).2.2.1 x c e rfl
  by_cases aF:c∈X.fs
  .obtain⟨bS,q⟩:=slot c o (I.p' x c e) aF oo a9 (I.lT x c e)
   exact⟨_,q,hd⟩
  .exact⟨o,keep c o (I.p' x c e) aF oo a9 (I.lT x c e),hd⟩
 refine⟨I.ok,I.os,bf,⟨λb o e n U ao=>?_,λb o e n U ao=>?_,λb o e n ao=>?_,λb o e ao=>?_,λb xs e=>h7 b xs (I.base.h7 b xs e),λb o xs e=>iY b o xs (I.base.iY b o xs e),λb ps e=>?_⟩,?_,λx c e=>?_,?_,λx c e=>?_,λp aQ=>?_,bh,I.len⟩
 .exact keep b o (Ww b o e) U (E0 b o e ao) (I.base.keep b o e n U ao) (I.base.free b o e n ao)
 .obtain⟨bS,av⟩:=I.base.slot b o e n U ao
  obtain⟨oC,ay⟩:=slot b _ (Ww b o e) U (E0 b o e ao) av (I.base.free b o e n ao)
  exact⟨oC,ay⟩
 .obtain⟨cO,av⟩:=I.base.there b o e ao
  exact free b cO (E0 b o e ao) av (I.base.free b o e n ao)
 .obtain⟨cO,av⟩:=I.base.there b o e ao
  exact there b cO (E0 b o e ao) av
 .obtain⟨dY,av⟩:=I.base.jx b ps e
  obtain⟨eQ,ay⟩:=jx b _ av
  exact⟨dY++eQ,by rw[ay,Zp]⟩
 .obtain⟨m,az,ar⟩:=I.loc
  refine⟨m,ns m az,λi x v av ay cv=>?_⟩
  obtain⟨u,r,l⟩:=ar i x v av ay cv
  refine⟨u,r,?_⟩
  rcases l with l|⟨k,c,e,z⟩
  .exact .inl l
  .exact .inr ⟨k,c,e,cellK x c e _ z⟩
 .obtain⟨v,z⟩:=I.cell x c e
  exact⟨v,cellK x c e v z⟩
 .obtain⟨m,⟨o,_,_,a9,_⟩,_⟩:=I.loc
  exact free _ o (λz=>(ik _ z).2.1 rfl) a9 I.free
 .obtain⟨v,o,a9,hd⟩:=I.cell x c e
  exact free c o (λz=>(ik c z).2.2.1 x c e rfl) a9 (I.lT x c e)
 .obtain⟨e,n,ne,gJ,d⟩:=I.pin p aQ
  have oo:p.1∉ch:=λz=>(ik p.1 z).2.2.2 p aQ rfl
  exact⟨keep p.1 p.2 ne gJ oo e n,free p.1 p.2 oo e n,ne,gJ,d⟩
theorem Inv.un{t':Nat}(I:Inv X pins σ H s)(u:hk X.fs [] H H' s.heap h')(bh:fe X.prog X.w H' h'):Inv X pins σ H' {s with heap:=h',toks:=t'}:=by
 obtain⟨m,⟨o,es,ep,a9,r⟩,_⟩:=id I.loc
 obtain⟨bS,hz⟩:=u.any a9 I.free (by simp)
 exact I.step (g':=s.gens) (d':=s.drawn) (ch:=[]) (λ_ z=>nomatch z) (λb o _ U _ e n=>u.keep b o e n U (by simp)) (λb o _ U _ e n=>u.slot b o e n U (by simp)) (λb o _ e n=>u.free b o e n (by simp)) (λb o _ e=>u.there b o e (by simp)) u.h7 u.iY u.jx (λcR hm=>by
  obtain⟨cO,qb,qa,i3,cm⟩:=hm
  rw[a9]at i3;cases i3
  exact⟨_,qb,qa,hz,cm⟩) bh I.bare
theorem Inv.call{g':Array GenState}{t':Nat}{d':Drawn}{ch:List Addr}(I:Inv X pins σ H s)(u:hk (fG X.stack) ch H H' s.heap h')(bh:fe X.prog X.w H' h')(bf:pU g')(ik:∀b∈ch,(b∈X.ex∨X.hN.heap.objs.size≤b)∧b≠X.env.locals∧(∀x c,X.env.cells.lookup x=some c→c≠b)∧∀p∈X.ey++pins,p.1≠b):
  Inv X pins σ H' {s with heap:=h',gens:=g',drawn:=d',toks:=t'}:=by
 obtain⟨m,⟨o,es,ep,a9,r⟩,_⟩:=id I.loc
 obtain⟨bS,hz⟩:=u.any a9 I.free λz=>(ik _ z).2.1 rfl
 exact I.step (ch:=ch) ik (λb o hz U aF e n=>u.keep b o e n (λz=>(fy.mp (I.Br b z)).elim hz U) aF) (λb o _ _ aF e n=>u.any e n aF) (λb o aF e n=>u.free b o e n aF) (λb o aF e=>u.there b o e aF) u.h7 u.iY u.jx (λcR hm=>by
  obtain⟨cO,qb,qa,i3,cm⟩:=hm
  rw[a9]at i3;cases i3
  exact⟨_,qb,qa,hz,cm⟩) bh bf
theorem Inv.turned{t':Nat}{it:Addr}(I:Inv X pins σ H s)(k:∀b o,b≠it→s.heap.get? b=some o→h'.get? b=some o)(az:H it=none)(hz:it≠X.env.locals)(ag:it∈X.ex∨X.hN.heap.objs.size≤it)(af:∀x c,X.env.cells.lookup x=some c→c≠it)(aU:∀p∈X.ey++pins,p.1≠it):Inv X pins σ H {s with heap:=h',toks:=t'}:=by
 have WA:∀b u,H b=some u→b≠it:=λb u e z=>by rw[z,az]at e;cases e
 refine I.step (g':=s.gens) (d':=s.drawn) (ch:=[it]) (λb U=>?_) (λb o _ _ aF e _=>k b o (λz=>aF (by simp[z])) e) (λb o _ _ aF e _=>⟨o.slots,k b o (λz=>aF (by simp[z])) e⟩) (λ_ _ _ _ n=>n)
  (λb o aF e=>⟨o,k b o (λz=>aF (by simp[z])) e⟩) (λ_ _ e=>e) (λ_ _ _ e=>e) (λb ps e=>⟨#[],by rw[e];simp⟩) (λm hm=>?_) (λb u e=>?_) I.bare
 .have e:b=it:=by simpa using U
  subst e
  exact⟨ag,hz,af,aU⟩
 .obtain⟨o,es,ep,a9,r⟩:=hm
  exact⟨o,es,ep,k _ o (dG hz) a9,r⟩
 .refine(I.bh b u e).nt (λc v aF q=>k c v ?_ q) (λ_ q=>q) λ_ _ q=>q
  rcases aF with z|z
  .rw[z];exact WA b u e
  .exact WA c _ z
theorem Inv.tok(I:Inv X pins σ H s)(t:Nat):Inv X pins σ H {s with toks:=t}:=I.un (h':=s.heap) (t':=t) hk.refl I.bh
theorem Inv.kept{t':Nat}(I:Inv X pins σ H s)(k:∀b u,s.heap.get? b=some u→h'.get? b=some u):Inv X pins σ H {s with heap:=h',toks:=t'}:=I.un (hk.kept k) (I.bh.kept k)
theorem Inv.laid{a:Addr}{o:d4}{t':Nat}(I:Inv X pins σ H s)(k:∀b u,s.heap.get? b=some u→h'.get? b=some u)(aQ:s.heap.objs.size≤a)(new:eo X.prog X.w (upd H a o) h' a o):
  Inv X pins σ (upd H a o) {s with heap:=h',toks:=t'}:=I.un (hk.laid k aQ (I.bh.fresh aQ)) (I.bh.laid k aQ new)
theorem Inv.write{x e:Addr}{o:d4}{t':Nat}(I:Inv X pins σ H s)(h4:yw (H x))(he:e=x∨H e=some (.own x))(k:∀b u,b≠e→s.heap.get? b=some u→h'.get? b=some u)(v_:∃u,h'.get? e=some u)(new:eo X.prog X.w (upd H x o) h' x o):Inv X pins σ (upd H x o) {s with heap:=h',toks:=t'}:=I.un (hk.write h4 he k v_) (I.bh.write h4 he k v_ new)
theorem Inv.WV{WU:List (Addr×Obj)}(I:Inv X pins σ H s)(h:∀p∈WU,s.heap.get? p.1=some p.2∧H p.1=none∧p.1≠X.env.locals∧p.1∉X.fs∧∀v,p.2.data≠.cell v):Inv X WU σ H s:=
 ⟨I.ok,I.os,I.bare,I.base,I.loc,I.cell,I.free,I.lT,λp aQ=>(el.mp aQ).elim (λz=>I.pin p (ŏ _ z)) (h p),I.bh,I.len⟩
theorem YA{N:List Str}(fl:N.Nodup){i j:Nat}{x:Str}(a:N[i]?=some x)(b:N[j]?=some x):i=j:=by
 obtain⟨ag,av⟩:=fW.mp a
 obtain⟨af,ay⟩:=fW.mp b
 exact(vi fl).mp (av.trans ay.symm)
theorem XM{M:nK}{A:c5}{E:Value→ax→Prop}{i:Nat}{x:Str}{v:V}{u:Value}{Q:Unit→ax→Prop}(I:Inv X pins σ H s)(fl:X.N.Nodup)(aj:X.N[i]?=some x)(ao:Loc X.env.scope x)(r:RelV v u)(h:∀s',Inv X pins (σ.set i (some v)) H s'→(∃a,lB a s.heap s'.heap∧(a=X.env.locals∨X.env.cells.lookup x=some a))→Q () s')(hf:X.fn x=true∨X.env.scope.names.lookup x=some .local:=by first|exact .inl rfl|exact .inr rfl|assumption):aX M A (storeName X.env x u) Q E s:=by
 obtain⟨m,az,ar⟩:=id I.loc
 have KR:(X.env.scope.kind==.class||(X.env.scope.kind==.module&&X.env.locals !=X.env.globals))=false:=by rw[I.ok.kind];rfl
 have Vn:i<σ.length:=by rw[I.len];exact(fW.mp aj).1
 have p':=I.p'
 have tracked:∀{a:Addr}{h':Heap},(∃o,s.heap.get? a=some o∧H a=none)→lB a s.heap h'→fe X.prog X.w H h':=λ{a h'}aH hs b ob e=>by
  obtain⟨_,_,Ea⟩:=aH
  refine(I.bh b ob e).nt (λc fO aF q=>(hs.2 c ?_).trans q) (λ_ q=>q) λ_ _ q=>q
  rintro rfl
  rcases aF with rfl|aF
  .rw[Ea]at e;cases e
  .rw[Ea]at aF;cases aF
 rcases ao with aK|aK
 .refine wpAny_storeName_local aK az (λh' j4 hs=>?_) KR
  obtain⟨akk,_,_,aiR,_⟩:=id az
  refine h _ ⟨I.ok,I.os,I.bare,⟨λb o e n U ao=>?_,λb o e n U ao=>?_,I.base.free,λb o e ao=>?_,I.base.h7,I.base.iY,I.base.jx⟩,⟨_,j4,λj y se av ay cv=>?_⟩,λy c e=>?_,I.free,I.lT,λp aQ=>?_,tracked ⟨akk,aiR,I.free⟩ hs,by simpa using I.len⟩ ⟨_,hs,.inl rfl⟩
  .exact(hs.2 b (en (jC (du e) I.ok.above))).trans (I.base.keep b o e n U ao)
  .obtain⟨bS,av⟩:=I.base.slot b o e n U ao
   exact⟨bS,(hs.2 b (en (jC (du e) I.ok.above))).trans av⟩
  .obtain⟨cO,av⟩:=I.base.there b o e ao
   exact⟨cO,(hs.2 b (en (jC (du e) I.ok.above))).trans av⟩
  .by_cases aN:j=i
   .subst aN
    rw[aj]at av;cases av
    rw[RB Vn]at ay
    cases ay
    exact⟨u,r,.inl ⟨aK,by simp⟩⟩
   .rw[ņ (dG aN)]at ay
    obtain⟨u',cm,q⟩:=ar j y se av ay cv
    refine⟨u',cm,?_⟩
    rcases q with⟨k,e⟩|⟨k,c,e,z⟩
    .refine .inl ⟨k,?_⟩
     have:y≠x:=λe=>aN (YA fl av (e▸aj))
     simp[this,e]
    .exact .inr ⟨k,c,e,z.sameBut hs (p' y c e)⟩
  .obtain⟨fO,z⟩:=I.cell y c e
   exact⟨fO,z.sameBut hs (p' y c e)⟩
  .obtain⟨e,n,ne,gJ,d⟩:=I.pin p aQ
   exact⟨(hs.2 p.1 ne).trans e,n,ne,gJ,d⟩
 .have K1:X.fn x=true:=by
   rcases hf with z|z
   .exact z
   .rw[z]at aK;cases aK
  obtain⟨c,aF⟩:=I.ok.has x (.inl aK)
  obtain⟨fO,z⟩:=I.cell x c aF
  refine wpAny_storeName_cell I.ok.kind aK aF z (λh' jr hs=>?_)
  obtain⟨lh,Vy,aiT⟩:=id z
  refine h {s with heap:=h'} ⟨I.ok,I.os,I.bare,⟨λb o e n U ao=>?_,λb o e n U ao=>?_,I.base.free,λb o e ao=>?_,I.base.h7,I.base.iY,I.base.jx⟩,⟨m,az.sameBut hs (dG (p' x c aF)),λj y se av ay cv=>?_⟩,λy gq e=>?_,I.free,I.lT,λp aQ=>?_,tracked ⟨lh,Vy,I.lT x c aF⟩ hs,by simpa using I.len⟩ ⟨c,hs,.inr aF⟩
  .exact(hs.2 b (en (jC (du e) (I.ok.tf x c K1 aF)))).trans (I.base.keep b o e n U ao)
  .obtain⟨bS,av⟩:=I.base.slot b o e n U ao
   exact⟨bS,(hs.2 b (en (jC (du e) (I.ok.tf x c K1 aF)))).trans av⟩
  .obtain⟨cO,av⟩:=I.base.there b o e ao
   exact⟨cO,(hs.2 b (en (jC (du e) (I.ok.tf x c K1 aF)))).trans av⟩
  .by_cases aN:j=i
   .subst aN
    rw[aj]at av;cases av
    rw[RB Vn]at ay
    cases ay
    exact⟨u,r,.inr ⟨.inl aK,c,aF,jr⟩⟩
   .rw[ņ (dG aN)]at ay
    obtain⟨u',cm,q⟩:=ar j y se av ay cv
    refine⟨u',cm,?_⟩
    rcases q with q|⟨k,gq,e,dt⟩
    .exact .inl q
    .refine .inr ⟨k,gq,e,dt.sameBut hs ?_⟩
     rintro rfl
     exact aN (YA fl av (I.ok.inj _ _ _ e aF▸aj))
  .by_cases Va:gq=c
   .subst Va;exact⟨_,jr⟩
   .obtain⟨fD,bL⟩:=I.cell y gq e
    exact⟨fD,bL.sameBut hs Va⟩
  .obtain⟨e,n,ne,gJ,d⟩:=I.pin p aQ
   refine⟨(hs.2 p.1 ?_).trans e,n,ne,gJ,d⟩
   intro q
   rw[q,Vy]at e
   have c4:lh=p.2:=gT e
   exact d fO (by rw[←c4];exact aiT)
theorem YB{M:nK}{A:c5}{E:Value→ax→Prop}{i:Nat}{x:Str}{v:V}{u:Value}{Q:Unit→ax→Prop}(I:Inv X pins σ H s)(fl:X.N.Nodup)(aj:X.N[i]?=some x)(ao:Loc X.env.scope x)(r:RelV v u)(h:∀s',Inv X pins (σ.set i (some v)) H s'→Q () s')(hf:X.fn x=true∨X.env.scope.names.lookup x=some .local:=by first|exact .inl rfl|exact .inr rfl|assumption):aX M A (storeName X.env x u) Q E s:=
 XM I fl aj ao r (λs' nG _=>h s' nG) hf
theorem Inv.JG{s':ax}{ch:List Addr}(I:Inv X pins σ H s)(a9:s'.os=s.os)(u:hk (fG X.stack) ch H H' s.heap s'.heap)(bh:fe X.prog X.w H' s'.heap)(bf:pU s'.gens)(ik:∀b∈ch,(b∈X.ex∨X.hN.heap.objs.size≤b)∧b≠X.env.locals∧(∀x c,X.env.cells.lookup x=some c→c≠b)∧∀p∈X.ey++pins,p.1≠b):Inv X pins σ H' s':=by
 obtain⟨h',g',d',t',cO⟩:=s'
 have e:cO=s.os:=a9
 subst e
 exact I.call (g':=g') (t':=t') (d':=d') u bh bf ik
end
noncomputable abbrev cy:=Value→Option Addr→ae→Prop
noncomputable abbrev St:=List (Option V)
noncomputable abbrev bk:=V→ae→Prop
noncomputable abbrev TE:=St→ae→bk→Prop
noncomputable abbrev TT:=St→ae→(Bool→ae→Prop)→Prop
noncomputable abbrev fY:=St→ae→(List V→ae→Prop)→Prop
structure Ends where
 b':St→ae→Prop
 rt:bk
 gG:St→ae→Prop:=λ_ _=>False
 fA:St→ae→Prop:=λ_ _=>False
noncomputable abbrev eY:=Ends→St→ae→Prop
noncomputable def hh(X:bw)(pins:List (Addr×Obj))(σ:St)(Q:bk)(u:Value)(s':ax):Prop:=∃v H',Inv X pins σ H' s'∧RelV v u∧Q v H'
noncomputable def C7(X:bw)(pins:List (Addr×Obj))(σ:St)(Q:Bool→ae→Prop)(b:Bool)(s':ax):Prop:=∃H',Inv X pins σ H' s'∧Q b H'
noncomputable def Ze(X:bw)(pins:List (Addr×Obj))(σ:St)(Q:List V→ae→Prop)(us:List Value)(s':ax):Prop:=∃vs H',Inv X pins σ H' s'∧cj vs us∧Q vs H'
noncomputable def s9(X:bw)(pins:List (Addr×Obj))(D:Ends)(f:Flow)(s':ax):Prop:=
 match f with
 |.next=>∃a6 H',Inv X pins a6 H' s'∧D.b' a6 H'
 |.brk=>∃a6 H',Inv X pins a6 H' s'∧D.gG a6 H'
 |.cont=>∃a6 H',Inv X pins a6 H' s'∧D.fA a6 H'
 |.ret u=>∃v a6 H',Inv X pins a6 H' s'∧RelV v u∧D.rt v H'
noncomputable def bE(X:bw)(e:Expr)(t:TE):Prop:=
 ∀(pins:List (Addr×Obj))(s:ax)(σ:St)(H:ae)(Q:bk),Inv X pins σ H s→t σ H Q→aX (br X.prog X.w) X.A (eval e X.env) (hh X pins σ Q) X.dj s
noncomputable def kc(X:bw)(e:Expr)(t:TT):Prop:=
 ∀(pins:List (Addr×Obj))(s:ax)(σ:St)(H:ae)(Q:Bool→ae→Prop),Inv X pins σ H s→t σ H Q→aX (br X.prog X.w) X.A (Af e X.env (eval e X.env)) (C7 X pins σ Q) X.dj s
noncomputable def kU(X:bw)(e:Expr)(t:TT):Prop:=
 ∀(whole:Sem Value)(pins:List (Addr×Obj))(s:ax)(σ:St)(H:ae)(Q:Bool→ae→Prop),Inv X pins σ H s→t σ H Q→aX (br X.prog X.w) X.A (Af e X.env whole) (C7 X pins σ Q) X.dj s
theorem kU.pt{X:bw}{e:Expr}{t:TT}(h:kU X e t):kc X e t:=h _
noncomputable def hj(X:bw)(es:List Expr)(t:fY):Prop:=
 ∀(pos:Pos)(pins:List (Addr×Obj))(s:ax)(σ:St)(H:ae)(Q:List V→ae→Prop),Inv X pins σ H s→t σ H Q→aX (br X.prog X.w) X.A (spliced (hq pos (dW es X.env))) (Ze X pins σ Q) X.dj s
noncomputable def gn(X:bw)(st:Stmt)(t:eY):Prop:=
 ∀(pins:List (Addr×Obj))(s:ax)(σ:St)(H:ae)(D:Ends),Inv X pins σ H s→t D σ H→aX (br X.prog X.w) X.A (exec st X.env) (s9 X pins D) X.dj s
noncomputable def hT(X:bw)(st:List Stmt)(t:eY):Prop:=
 ∀(pins:List (Addr×Obj))(s:ax)(σ:St)(H:ae)(D:Ends),Inv X pins σ H s→t D σ H→aX (br X.prog X.w) X.A (execs st X.env) (s9 X pins D) X.dj s
theorem bH{α:Type}{t:Sem α}{Q o3:α→ax→Prop}{M:nK}{A:c5}{E:Value→ax→Prop}{s:ax}(h:aX M A t Q E s)(eu:∀a s,Q a s→o3 a s):aX M A t o3 E s:=fa h eu λ_ _ x=>x
open PySem PySem.Spec PyProof.Rows
section
variable{X:bw}
theorem bin{a b:Expr}{b3 cX:TE}(aH:bE X a b3)(U:bE X b cX){pins:List (Addr×Obj)}{s:ax}{σ:St}{H:ae}{R:V→V→ae→Prop}(I:Inv X pins σ H s)(h:b3 σ H λx H1=>cX σ H1 λy ak=>R x y ak){α:Type}{Q:α→ax→Prop}{f:Value→Value→Sem α}(hf:∀v u s2 x y ak,Inv X pins σ ak s2→RelV x v→RelV y u→R x y ak→aX (br X.prog X.w) X.A (f v u) Q X.dj s2):
  aX (br X.prog X.w) X.A (eval a X.env) (λv dw=>aX (br X.prog X.w) X.A (eval b X.env) (λu pQ=>aX (br X.prog X.w) X.A (f v u) Q X.dj pQ) X.dj dw) X.dj s:=by
 refine bH (aH pins s σ H _ I h) λv s1⟨x,H1,aS,b6,bq⟩=>?_
 refine bH (U pins s1 σ H1 _ aS bq) λu s2⟨y,ak,bK,c8,cp⟩=>?_
 exact hf v u s2 x y ak bK b6 c8 cp
inductive ac7(i:Nat)(σ:St)(H:ae)(Q:bk):Prop where
 |mk (v:_) (b4:σ[i]?=some (some v)) (bL:Q v H)
noncomputable def SI(i:Nat):TE:=λσ H Q=>ac7 i σ H Q
noncomputable def r_(v:V):TE:=λ_ H Q=>Q v H
theorem abh{i:Nat}{x:Str}{pos:Pos}(fl:X.N[i]?=some x)(bG:Iy X.env.scope x)(hd:(x==("__debug__":Str))=false:=by decide)(kp:(x==("__classdict__":Str))=false:=by decide):bE X (.Name x pos) (SI i):=by
 intro pins s σ H Q I h
 obtain⟨v,e,h⟩:=h
 obtain⟨m,az,ar⟩:=I.loc
 obtain⟨u,r,l⟩:=ar i x v fl e bG
 have fin:hh X pins σ Q u s:=⟨v,H,I,r,h⟩
 rcases l with⟨aK,hm⟩|⟨aK,c,aF,rE⟩
 .exact Yp (wpAny_loadName_local I.ok.kind aK az hm fin) hd
 .rcases aK with aK|aK
  .exact Yp (wpAny_loadName_cell I.ok.kind aK aF rE fin) hd
  .exact Yp (wpAny_loadName_free I.ok.kind aK aF rE fin kp) hd
theorem bl{i j pos}:bE X (.Constant (.int i) j pos) (r_ (.int i)):=λ_ _ _ H _ I h=>wpAny_Constant_int ⟨.int i,H,I.tok _,⟨_,rfl⟩,h⟩
theorem jl{b j pos}:bE X (.Constant (.bool b) j pos) (r_ (.bo b)):=λ_ _ _ H _ I h=>Constant_bool ⟨.bo b,H,I,rfl,h⟩
theorem w3{j pos}:bE X (.Constant .none j pos) (r_ .bR):=λ_ _ _ H _ I h=>Constant_none ⟨.bR,H,I,rfl,h⟩
theorem n_{x j pos}:bE X (.Constant (.str x) j pos) (r_ (.str x)):=λ_ _ _ H _ I h=>Calls.Constant_str ⟨.str x,H,I.tok _,⟨_,rfl⟩,h⟩
noncomputable def jA(X:bw)(x:Str):Prop:=X.env.kindOf x=some .globalImplicit
theorem tM{E:Value→ax→Prop}{pins:List (Addr×Obj)}{s:ax}{σ:St}{H:ae}{x:Str}{u:Value}{pos:Pos}{Q:Value→ax→Prop}(I:Inv X pins σ H s)(bf:jA X x)(hm:X.aa x=some u)(h:Q u s)(hd:(x==("__debug__":Str))=false:=by decide):aX (br X.prog X.w) X.A (eval (.Name x pos) X.env) Q E s:=
 Z1 I.ok.kind bf (Calls.loadGlobal_global (by rw[I.ok.glob];exact I.mod.glob.keeps I.gG) hm h) hd
theorem w4{E:Value→ax→Prop}{pins:List (Addr×Obj)}{s:ax}{σ:St}{H:ae}{x:Str}{u:Value}{pos:Pos}{Q:Value→ax→Prop}(I:Inv X pins σ H s)(bf:jA X x)(hm:X.aa x=none)(bG:iV x=some u)(h:Q u s)(az:x≠"__name__":=by decide)(hd:(x==("__debug__":Str))=false:=by decide):aX (br X.prog X.w) X.A (eval (.Name x pos) X.env) Q E s:=by
 obtain⟨nc,ag,af⟩:=I.mod.blt
 exact Z1 I.ok.kind bf (Calls.loadGlobal_builtin (by rw[I.ok.glob];exact I.mod.glob.keeps I.gG) hm (by rw[I.ok.blt];exact ag.keeps I.gG) ((af x az).trans bG) h) hd
theorem Į{x:Str}{v:V}{u:Value}{pos:Pos}(bf:jA X x)(hm:X.aa x=some u)(r:RelV v u)(hd:(x==("__debug__":Str))=false:=by decide):bE X (.Name x pos) (r_ v):=
 λ_ _ _ H _ I h=>tM I bf hm ⟨v,H,I,r,h⟩ hd
theorem į{x:Str}{v:V}{u:Value}{pos:Pos}(bf:jA X x)(hm:X.aa x=none)(bG:iV x=some u)(r:RelV v u)(az:x≠"__name__":=by decide)(hd:(x==("__debug__":Str))=false:=by decide):bE X (.Name x pos) (r_ v):=
 λ_ _ _ H _ I h=>w4 I bf hm bG ⟨v,H,I,r,h⟩ az hd
variable{a b:Expr}{b3 cX:TE}{pos:Pos}
noncomputable def HR(X:bw)(op:qY)(a b:Expr)(t:TE):Prop:=
 ∀(pins:List (Addr×Obj))(s:ax)(σ:St)(H:ae)(Q:bk),Inv X pins σ H s→t σ H Q→
  aX (br X.prog X.w) X.A (eval a X.env) (λv dw=>aX (br X.prog X.w) X.A (eval b X.env) (λu pQ=>aX (br X.prog X.w) X.A (hv op v u) (hh X pins σ Q) X.dj pQ) X.dj dw) X.dj s
theorem YC(b:Expr){op:qY}(h:op≠.In)(af:op≠.NotIn):tb op b=false:=by
 have av:(op==CmpOp.In)=false:=by cases op<;>first|rfl|exact bB rfl h
 have ay:(op==CmpOp.NotIn)=false:=by cases op<;>first|rfl|exact bB rfl af
 cases b<;>simp[tb,av,ay]
inductive Q4(x:V)(H:ae)(Q:Bool→ae→Prop):Prop where
 |mk (c:Bool) (b4:x=.bo c) (bL:Q c H)
noncomputable def Xs(t:TE):TT:=λσ H Q=>t σ H λx H1=>Q4 x H1 Q
theorem abi{op:qY}{t:TE}(h:HR X op a b t)(ag:tb op b=false:=by first|exact YC _ (by decide) (by decide)|rfl):bE X (.Compare a [op] [b] pos) t:=λpins s σ H Q I hw=>ame (h pins s σ H Q I hw) ag
theorem QE{op:qY}{t:TE}(h:HR X op a b t)(ag:tb op b=false:=by first|exact YC _ (by decide) (by decide)|rfl):kc X (.Compare a [op] [b] pos) (Xs t):=by
 intro pins s σ H Q I hw
 refine amj (bH (h pins s σ H _ I hw) λv s1 ag=>bH ag λu s2 af=>bH af λc s3⟨x,H1,aS,b6,bq⟩=>?_) ag
 obtain⟨d,rfl,q⟩:=bq
 cases b6
 exact oN ⟨H1,aS,q⟩
theorem mZ{e:Expr}{t:TE}(h:bE X e t)(he:∀whole,Af e X.env whole=(do let v ←whole;r' e.pos;n7 [v] (truthy v)):=by intro _;rfl):kc X e (Xs t):=by
 intro pins s σ H Q I hw
 refine isTrue_plain (bH (h pins s σ H _ I hw) λv s1⟨x,H1,aS,b6,bq⟩=>?_) (he _)
 obtain⟨d,rfl,q⟩:=bq
 cases b6
 exact oN ⟨H1,aS,q⟩
variable{pR FZ:TT}{rest:List Expr}
noncomputable def aeN(t u:TT):TT:=λσ H Q=>t σ H λc H1=>if c=true then u σ H1 Q else Q false H1
noncomputable def als(t u:TT):TT:=λσ H Q=>t σ H λc H1=>if c=true then Q true H1 else u σ H1 Q
noncomputable def aeO(t:TT):TT:=λσ H Q=>t σ H λc H1=>Q (!c) H1
theorem Qc(aH:kc X a pR):kU X (.BoolOp .And [a] pos) pR:=by
 intro BI pins s σ H Q I h
 refine isTrue_and (bH (aH pins s σ H Q I h) λc s1 e=>?_)
 cases c with
 |true=>exact isTrue_and_nil e
 |false=>exact e
theorem F9(aH:kc X a pR):kU X (.BoolOp .Or [a] pos) pR:=by
 intro BI pins s σ H Q I h
 refine isTrue_or (bH (aH pins s σ H Q I h) λc s1 e=>?_)
 cases c with
 |false=>exact isTrue_or_nil e
 |true=>exact e
theorem Pu(aH:kc X a pR)(U:kU X (.BoolOp .And (b::rest) pos) FZ):kU X (.BoolOp .And (a::b::rest) pos) (aeN pR FZ):=by
 intro BI pins s σ H Q I h
 refine isTrue_and (bH (aH pins s σ H _ I h) λc s1⟨H1,aS,bq⟩=>?_)
 cases c with
 |true=>exact U BI pins s1 σ H1 Q aS bq
 |false=>exact⟨H1,aS,bq⟩
theorem Cj(aH:kc X a pR)(U:kU X (.BoolOp .Or (b::rest) pos) FZ):kU X (.BoolOp .Or (a::b::rest) pos) (als pR FZ):=by
 intro BI pins s σ H Q I h
 refine isTrue_or (bH (aH pins s σ H _ I h) λc s1⟨H1,aS,bq⟩=>?_)
 cases c with
 |true=>exact⟨H1,aS,bq⟩
 |false=>exact U BI pins s1 σ H1 Q aS bq
theorem pC(aH:kc X a pR):kc X (.UnaryOp .Not a pos) (aeO pR):=by
 intro pins s σ H Q I h
 exact isTrue_not (aH pins s σ H (λc H1=>Q (!c) H1) I h)
noncomputable def Ck(b3 cX:TE):TE:=λσ H Q=>b3 σ H λx H1=>∃c,x=.bo c∧if c=true then cX σ H1 Q else Q (.bo false) H1
noncomputable def aeP(b3 cX:TE):TE:=λσ H Q=>b3 σ H λx H1=>∃c,x=.bo c∧if c=true then Q (.bo true) H1 else cX σ H1 Q
noncomputable def ac8(b3:TE):TE:=λσ H Q=>b3 σ H λx H1=>∃c,x=.bo c∧Q (.bo (!c)) H1
theorem qx{op}{t:TE}(h:bE X a t):bE X (.BoolOp op [a] pos) t:=λpins s σ H Q I hw=>BoolOp_one (h pins s σ H Q I hw)
theorem m1(aH:bE X a b3)(U:bE X (.BoolOp .And (b::rest) pos) cX):bE X (.BoolOp .And (a::b::rest) pos) (Ck b3 cX):=by
 intro pins s σ H Q I h
 refine BoolOp_and (bH (aH pins s σ H _ I h) λv s1⟨x,H1,aS,b6,bq⟩=>?_)
 obtain⟨c,rfl,bq⟩:=bq
 cases b6
 refine oN ?_
 cases c with
 |true=>exact U pins s1 σ H1 Q aS bq
 |false=>exact⟨.bo false,H1,aS,rfl,bq⟩
theorem ac9(aH:bE X a b3)(U:bE X (.BoolOp .Or (b::rest) pos) cX):bE X (.BoolOp .Or (a::b::rest) pos) (aeP b3 cX):=by
 intro pins s σ H Q I h
 refine BoolOp_or (bH (aH pins s σ H _ I h) λv s1⟨x,H1,aS,b6,bq⟩=>?_)
 obtain⟨c,rfl,bq⟩:=bq
 cases b6
 refine oN ?_
 cases c with
 |false=>exact U pins s1 σ H1 Q aS bq
 |true=>exact⟨.bo true,H1,aS,rfl,bq⟩
theorem PP(aH:bE X a b3):bE X (.UnaryOp .Not a pos) (ac8 b3):=by
 intro pins s σ H Q I h
 refine UnaryOp_ (bH (aH pins s σ H _ I h) λv s1⟨x,H1,aS,b6,bq⟩=>?_)
 obtain⟨c,rfl,bq⟩:=bq
 cases b6
 exact not_of (oN ⟨.bo (!c),H1,aS,rfl,bq⟩)
end
open PySem PySem.Spec PyProof.Rows
noncomputable def aR(K:a3)(H:ae)(a:Addr)(xs:List V):Prop:=
 bz H a (.lst xs)∨
  ∃(o:Obj)(its:Array Value)(n:Nat),K.lookup a=some o∧o.cls=.type "list"∧o.dict=none∧o.data=.seq its n∧its.size≤sizeLine∧cj xs its.toList
noncomputable def b2(K:a3)(H:ae)(a:Addr)(xs:List V):Prop:=
 bz H a (.tup xs)∨
  ∃(o:Obj)(its:Array Value)(n:Nat),K.lookup a=some o∧o.cls=.type "tuple"∧o.data=.seq its n∧its.size≤sizeLine∧cj xs its.toList
noncomputable def aeh:Value→Option V
 |.none=>some .bR
 |.bool b=>some (.bo b)
 |.int i _=>some (.int i)
 |.str x _=>some (.str x)
 |.bytes b _=>some (.kV b)
 |.float b _=>some (.tv b)
 |.ref a=>some (.ref a)
 |.type n=>some (.ty n)
 |_=>none
theorem RelV.abs{x:V}{u:Value}(r:RelV x u):aeh u=some x:=by
 cases x with
 |bR=>cases r;rfl
 |bo _=>cases r;rfl
 |int _=>obtain⟨t,rfl⟩:=r;rfl
 |str _=>obtain⟨t,rfl⟩:=r;rfl
 |kV _=>obtain⟨t,rfl⟩:=r;rfl
 |tv _=>obtain⟨t,rfl⟩:=r;rfl
 |ref _=>cases r;rfl
 |ty _=>cases r;rfl
theorem RelV.inj{x y:V}{u:Value}(r:RelV x u)(q:RelV y u):x=y:=gT (r.abs.symm.trans q.abs)
theorem cj.inj:∀{xs ys:List V}{us:List Value},cj xs us→cj ys us→xs=ys
 |_,_,_,.nil,.nil=>rfl
 |_,_,_,.cons r t,.cons cm t'=>by rw[r.inj cm,cj.inj t t']
section
variable{X:bw}{pins:List (Addr×Obj)}{σ:St}{H:ae}{s:ax}{a:Addr}{xs ys:List V}
theorem aR.of{K:a3}(h:H a=some (.lst xs)):aR K H a xs:=.inl (.inl h)
theorem b2.of{K:a3}(h:H a=some (.tup xs)):b2 K H a xs:=.inl (.inl h)
theorem Inv.list(I:Inv X pins σ H s)(h:aR X.K H a xs):∃its:List Value,cj xs its∧PlainL s.heap a its.toArray∧xs.length≤sizeLine:=by
 rcases h with h|⟨o,its,n,aK,aF,hd,hs,bQ,r⟩
 .obtain⟨z,its,n,r,e⟩:=h.ok I.bh
  exact⟨its,r,⟨_,n,e,rfl,rfl,rfl⟩,z⟩
 .refine⟨its.toList,r,⟨o,n,I.eV a o aK,aF,hd,by simpa using hs⟩,?_⟩
  have e:=r.length
  simp only[uJ]at e
  omega
theorem Inv.tuple(I:Inv X pins σ H s)(h:b2 X.K H a xs):∃its:List Value,cj xs its∧IsTup s.heap a its.toArray∧xs.length≤sizeLine:=by
 rcases h with h|⟨o,its,n,aK,aF,hs,bQ,r⟩
 .obtain⟨z,its,r,p⟩:=h.ok I.bh
  exact⟨its,r,p,z⟩
 .refine⟨its.toList,r,⟨o,I.eV a o aK,aF,n,by simpa using hs⟩,?_⟩
  have e:=r.length
  simp only[uJ]at e
  omega
theorem Inv.V'(I:Inv X pins σ H s)(h:aR X.K H a xs)(h':aR X.K H a ys):xs=ys:=by
 obtain⟨its,r,⟨o,n,e,_,_,d⟩,_⟩:=I.list h
 obtain⟨its',cm,⟨cO,kv,b5,_,_,d'⟩,_⟩:=I.list h'
 rw[e]at b5;cases b5
 rw[d]at d'
 injection d' with nT _
 have:its=its':=by simpa using eK Zr nT
 subst this
 exact r.inj cm
theorem Inv.alK(I:Inv X pins σ H s)(h:b2 X.K H a xs)(h':b2 X.K H a ys):xs=ys:=by
 obtain⟨its,r,⟨o,e,_,n,d⟩,_⟩:=I.tuple h
 obtain⟨its',cm,⟨cO,b5,_,kv,d'⟩,_⟩:=I.tuple h'
 rw[e]at b5;cases b5
 rw[d]at d'
 injection d' with nT _
 have:its=its':=by simpa using eK Zr nT
 subst this
 exact r.inj cm
end
noncomputable abbrev bw.mj(X:bw)(E:Value→ax→Prop):bw:={X with dj:=E}
noncomputable abbrev bw.wY(X:bw):bw:=X.mj λ_ _=>False
theorem bw.Ok.mj{X:bw}(ok:X.Ok)(E:Value→ax→Prop):(X.mj E).Ok:=
 ⟨ok.mod,ok.kind,ok.glob,ok.blt,ok.above,ok.inj,ok.has,ok.tf,ok.hd,ok.frames,ok.oE,ok.Dt,ok.bs,ok.pa,ok.ua,ok.vM,ok.jk,ok.qf⟩
theorem bw.Ok.oI{X:bw}{E:Value→ax→Prop}(ok:(X.mj E).Ok):X.Ok:=
 ⟨ok.mod,ok.kind,ok.glob,ok.blt,ok.above,ok.inj,ok.has,ok.tf,ok.hd,ok.frames,ok.oE,ok.Dt,ok.bs,ok.pa,ok.ua,ok.vM,ok.jk,ok.qf⟩
section
variable{X:bw}{pins:List (Addr×Obj)}{σ:St}{H:ae}{s:ax}{E:Value→ax→Prop}
theorem Inv.mj(I:Inv X pins σ H s)(E:Value→ax→Prop):Inv (X.mj E) pins σ H s:=⟨I.ok.mj E,I.os,I.bare,I.base,I.loc,I.cell,I.free,I.lT,I.pin,I.bh,I.len⟩
theorem Inv.oI(I:Inv (X.mj E) pins σ H s):Inv X pins σ H s:=⟨I.ok.oI,I.os,I.bare,I.base,I.loc,I.cell,I.free,I.lT,I.pin,I.bh,I.len⟩
theorem s9.oI{D:Ends}{f:Flow}{s':ax}(h:s9 (X.mj E) pins D f s'):s9 X pins D f s':=by
 cases f with
 |next=>obtain⟨a6,H',I,q⟩:=h;exact⟨a6,H',I.oI,q⟩
 |brk=>obtain⟨a6,H',I,q⟩:=h;exact⟨a6,H',I.oI,q⟩
 |cont=>obtain⟨a6,H',I,q⟩:=h;exact⟨a6,H',I.oI,q⟩
 |ret u=>obtain⟨v,a6,H',I,r,q⟩:=h;exact⟨v,a6,H',I.oI,r,q⟩
theorem hT.wY{st:List Stmt}{t:eY}(h:hT X.wY st t):hT X st t:=λpins s σ H D I hw=>
 fa (h pins s σ H D (I.mj _) hw) (λ_ _ q=>q.oI) λ_ _ z=>hQ z
end
section
variable{X:bw}{st:Stmt}{rest:List Stmt}{t u:eY}{e:Expr}{bY:TE}{pos:Pos}
noncomputable def Cm:eY:=λD σ H=>D.b' σ H
noncomputable def qQ(t u:eY):eY:=λD σ H=>t {D with b':=u D} σ H
theorem f3:hT X [] Cm:=λ_ _ σ H _ I h=>BL ⟨σ,H,I,h⟩
theorem bO(ag:gn X st t)(af:hT X rest u):hT X (st::rest) (qQ t u):=by
 intro pins s σ H D I h
 refine Yr (bH (ag pins s σ H {D with b':=u D} I h) λf s1 q=>?_)
 cases f with
 |next=>
  obtain⟨a6,H',nG,q⟩:=q
  exact af pins s1 a6 H' D nG q
 |ret v=>exact q
 |brk=>exact q
 |cont=>exact q
theorem bW(ag:gn X st t):hT X [st] t:=by
 intro pins s σ H D I h
 refine Yr (bH (ag pins s σ H D I h) λf s1 q=>?_)
 cases f with
 |next=>exact BL q
 |ret v=>exact q
 |brk=>exact q
 |cont=>exact q
theorem Inv.quiet{pins:List (Addr×Obj)}{σ:St}{H:ae}{s:ax}(I:Inv X pins σ H s):interactive X.env=false:=by simp[interactive,I.ok.kind]
noncomputable def ada(bY:TE):eY:=λD σ H=>bY σ H λ_ H1=>D.b' σ H1
theorem iB(he:bE X e bY)(hs:xl e none pos.line X.env=pure false:=by rfl):gn X (.Expr e pos) (ada bY):=by
 intro pins s σ H D I h
 exact amg (bH (he pins s σ H _ I h) λv s1⟨x,H1,aS,b6,bq⟩=>⟨σ,H1,aS,bq⟩) I.quiet hs
noncomputable def x6(bY:TE):eY:=λD σ H=>bY σ H D.rt
theorem dH(he:bE X e bY):gn X (.Return (some e) pos) (x6 bY):=by
 intro pins s σ H D I h
 exact wpAny_Return_some (bH (he pins s σ H _ I h) λv s1⟨x,H1,aS,b6,bq⟩=>⟨x,σ,H1,aS,b6,bq⟩)
noncomputable def CE(c:TT)(t u:eY):eY:=λD σ H=>c σ H λb H1=>if b=true then t D σ H1 else u D σ H1
theorem f5{c:Expr}{a b:List Stmt}{mg:TT}(aF:kc X c mg)(aH:hT X a t)(U:hT X b u):gn X (.If c a b pos) (CE mg t u):=by
 intro pins s σ H D I h
 refine wpAny_If (bH (aF pins s σ H _ I h) λd s1⟨H1,aS,bq⟩=>?_)
 cases d with
 |true=>exact aH pins s1 σ H1 D aS bq
 |false=>exact U pins s1 σ H1 D aS bq
noncomputable def abj:eY:=λ_ _ _=>False
theorem ND:gn X st abj:=λ_ _ _ _ _ _ h=>h.elim
end
noncomputable abbrev ic:=V→St→ae→(St→ae→Prop)→Prop
noncomputable abbrev lJ:=List V→St→ae→(St→ae→Prop)→Prop
noncomputable def nM(X:bw)(target:Expr)(t:ic):Prop:=
 ∀(pins:List (Addr×Obj))(s:ax)(σ:St)(H:ae)(v:V)(u:Value)(Q:St→ae→Prop),Inv X pins σ H s→RelV v u→t v σ H Q→
  aX (br X.prog X.w) X.A (vz target X.env u) (λ_ s'=>∃a6 H',Inv X pins a6 H' s'∧Q a6 H') X.dj s
noncomputable def vn(X:bw)(ts:List Expr)(t:lJ):Prop:=
 ∀(pins:List (Addr×Obj))(s:ax)(σ:St)(H:ae)(vs:List V)(us:List Value)(Q:St→ae→Prop),Inv X pins σ H s→cj vs us→t vs σ H Q→
  aX (br X.prog X.w) X.A (assignInOrder ((p9 ts X.env).map (·.2)) us) (λ_ s'=>∃a6 H',Inv X pins a6 H' s'∧Q a6 H') X.dj s
noncomputable abbrev HT:=V→V→V→ae→(ae→Prop)→Prop
noncomputable def SD(X:bw)(t:HT):Prop:=
 ∀(pins:List (Addr×Obj))(s:ax)(σ:St)(H:ae)(o i v:V)(ej i4 u:Value)(Q:ae→Prop),Inv X pins σ H s→RelV o ej→RelV i i4→RelV v u→t o i v H Q→
  aX (br X.prog X.w) X.A (setItem ej i4 u) (λ_ s'=>∃H',Inv X pins σ H' s'∧Q H') X.dj s
section
variable{X:bw}{pos:Pos}
noncomputable def gr(i:Nat):ic:=λv σ H Q=>Q (σ.set i (some v)) H
theorem de{i:Nat}{x:Str}(fl:X.N.Nodup)(aj:X.N[i]?=some x)(ao:Loc X.env.scope x)(hf:X.fn x=true∨X.env.scope.names.lookup x=some .local:=by first|exact .inl rfl|exact .inr rfl|assumption):nM X (.Name x pos) (gr i):=by
 intro pins s σ H v u Q I r h
 exact amh (YB I fl aj ao r (λs' nG=>⟨_,H,nG,h⟩) hf)
noncomputable def uP:lJ:=λvs σ H Q=>vs=[]∧Q σ H
inductive abd(t:ic)(u:lJ)(vs:(List V))(σ:St)(H:ae)(Q:(St→ae→Prop)):Prop where
 |mk (v:_) (r:_) (b4:vs=v::r) (bL:t v σ H λa6 H'=>u r a6 H' Q)
noncomputable def m7(t:ic)(u:lJ):lJ:=λvs σ H Q=>abd t u vs σ H Q
theorem lP:vn X [] uP:=by
 intro pins s σ H vs us Q I r h
 obtain⟨e,h⟩:=h
 subst e
 cases r
 exact assignInOrder_nil ⟨σ,H,I,h⟩
theorem fZ{e:Expr}{es:List Expr}{t:ic}{u:lJ}(ag:nM X e t)(af:vn X es u)(hs:(p9 (e::es) X.env).map (·.2)=vz e X.env::(p9 es X.env).map (·.2):=by rfl):vn X (e::es) (m7 t u):=by
 intro pins s σ H vs us Q I r h
 obtain⟨v,F_,av,h⟩:=h
 subst av
 cases r with
 |cons r lr=>
  rw[hs]
  refine assignInOrder_cons (bH (ag pins s σ H _ _ _ I r h) λ_ s1⟨qU,H1,aS,bq⟩=>?_)
  exact af pins s1 qU H1 _ _ Q aS lr bq
inductive acX(K:a3)(n:Nat)(t:lJ)(v:V)(σ:St)(H:ae)(Q:(St→ae→Prop)):Prop where
 |mk (a:_) (xs:_) (b4:v=.ref a) (bL:b2 K H a xs) (cG:xs.length=n) (c2:t xs σ H Q)
noncomputable def uG(K:a3)(n:Nat)(t:lJ):ic:=λv σ H Q=>acX K n t v σ H Q
theorem t4{es:List Expr}{k:Nat}{t:lJ}{n:Nat}(aF:X.calm=true)(h:vn X es t)(az:(p9 es X.env).length=n:=by rfl)(kr:(p9 es X.env).findIdx? (·.1)=none:=by rfl):nM X (.Tuple es k pos) (uG X.K n t):=by
 intro pins s σ H v u Q I r hw
 obtain⟨a,xs,av,bg,ar,hw⟩:=hw
 subst av
 cases r
 obtain⟨its,b7,cw,bQ⟩:=I.tuple bg
 refine assign_Tuple_tuple (I.ok.hd aF) cw (by simp[az,←ar,b7.length]) kr λh' ao=>?_
 have aS:Inv X pins σ H {s with heap:=h'}:=I.kept (t':=s.toks) λb o e=>ao b o (en (du e)) e
 exact h pins _ σ H xs _ Q aS (by simpa using b7) hw
noncomputable def aei(to F1:TE)(t:HT):ic:=λv σ H Q=>to σ H λo H1=>F1 σ H1 λi ak=>t o i v ak λbD=>Q σ bD
theorem ab7{o i:Expr}{to F1:TE}{t:HT}(a9:bE X o to)(aj:bE X i F1)(hs:SD X t)(aH:∀v,vz (.Subscript o i pos) X.env v=(do
   let ej ←n7 [v] (eval o X.env)
   let i4 ←n7 [v,ej] (eval i X.env)
   r' pos
   n7 [v,ej,i4] (setItem ej i4 v)
   release [v,ej,i4] []):=by intro _;rfl):nM X (.Subscript o i pos) (aei to F1 t):=by
 intro pins s σ H v u Q I r h
 rw[aH]
 refine aJ (jQ (bH (a9 pins s σ H _ I h) λej s1⟨x,H1,aS,b6,bq⟩=>?_))
 refine aJ (jQ (bH (aj pins s1 σ H1 _ aS bq) λi4 s2⟨y,ak,bK,c8,cp⟩=>?_))
 refine aJ (BM (aJ (jQ (bH (hs pins s2 σ ak x y v ej i4 u _ bK b6 c8 r cp) λ_ s3⟨bD,cT,eH⟩=>?_))))
 exact wpAny_release ⟨σ,bD,cT,eH⟩
noncomputable def sk(bY:TE)(g:ic):eY:=λD σ H=>bY σ H λx H1=>g x σ H1 D.b'
theorem Pw{dq e:Expr}{bY:TE}{g:ic}(he:bE X e bY)(bf:nM X dq g)(hs:swapsWithSole [dq] e pos.line X.env=pure false:=by rfl)(hw:swappedStores [dq] e X.env=pure none:=by rfl)(ag:(p9 [dq] X.env).map (·.2)=[vz dq X.env]:=by rfl):gn X (.Assign [dq] e pos) (sk bY g):=by
 intro pins s σ H D I h
 refine wpAny_Assign_stores (bH (he pins s σ H _ I h) λv s1⟨x,H1,aS,b6,bq⟩=>?_) hs hw
 rw[ag]
 exact bH (bf pins s1 σ H1 x v _ aS b6 bq) λ_ s2 q=>q
theorem dB{i:Nat}{x:Str}{e:Expr}{bY:TE}{pos':Pos}(fl:X.N.Nodup)(aj:X.N[i]?=some x)(ao:Loc X.env.scope x)(he:bE X e bY)(hs:xl e (some (.Name x pos')) pos.line X.env=pure false:=by rfl)(hf:X.fn x=true∨X.env.scope.names.lookup x=some .local:=by first|exact .inl rfl|exact .inr rfl|assumption):
  gn X (.Assign [.Name x pos'] e pos) (sk bY (gr i)):=by
 intro pins s σ H D I h
 refine wpAny_Assign_Name (bH (he pins s σ H _ I h) λv s1⟨y,H1,aS,b6,bq⟩=>?_) hs
 exact YB aS fl aj ao b6 (λs2 bK=>⟨_,H1,bK,bq⟩) hf
end
section
variable{X:bw}{pos:Pos}
noncomputable def ab8(c:TT)(cX:eY):eY:=λD σ H=>∃W:Nat→St→ae→Prop,(∃m,W m σ H)∧∀m σ H,W m σ H→
 c σ H λb H1=>if b=true then∃N:St→ae→Prop,(∀a6 H',N a6 H'→∃cR,cR<m∧W cR a6 H')∧cX {D with b':=N,fA:=N,gG:=D.b'} σ H1 else D.b' σ H1
theorem NF{c:Expr}{body:List Stmt}{mg:TT}{cX:eY}(aQ:PassesOwn (br X.prog X.w) X.A X.env X.dj)(aF:kc X c mg)(U:hT X body cX):gn X (.While c body [] pos) (ab8 mg cX):=by
 intro pins s σ H D I h
 obtain⟨W,⟨m0,BH⟩,turn⟩:=h
 refine wpAny_While (codeAny_whileLoop (λn s'=>∃a6 H',Inv X pins a6 H' s'∧W n a6 H') ?_ m0 ⟨σ,H,I,BH⟩)
 rintro n s1 ⟨qU,H1,aS,fP⟩
 refine xu aQ (bH (aF pins s1 qU H1 _ aS (turn n qU H1 fP)) λb s2⟨ak,bK,cp⟩=>?_)
 cases b with
 |true=>
  obtain⟨N,fl,cp⟩:=cp
  rw[aI rfl]
  refine xu aQ (bH (U pins s2 qU ak _ bK cp) λf s3 eH=>?_)
  cases f with
  |next=>
   obtain⟨f',bD,cT,tZ⟩:=eH
   obtain⟨cR,hm,hO⟩:=fl f' bD tZ
   exact⟨cR,hm,f',bD,cT,hO⟩
  |cont=>
   obtain⟨f',bD,cT,tZ⟩:=eH
   obtain⟨cR,hm,hO⟩:=fl f' bD tZ
   exact⟨cR,hm,f',bD,cT,hO⟩
  |brk=>exact eH
  |ret v=>exact eH
 |false=>
  rw[aD fb]
  exact BL ⟨qU,ak,bK,cp⟩
end
structure e7 where
 go:Nat→ae→Prop
 ml:Nat→ae→V→ae→Prop
 stop:Nat→ae→Prop
noncomputable def sl(X:bw)(pins:List (Addr×Obj))(H:ae)(b:Addr):Prop:=
 H b=none∧b≠X.env.locals∧b∉X.fs∧(b∈X.ex∨X.hN.heap.objs.size≤b)∧(∀x c,X.env.cells.lookup x=some c→c≠b)∧∀p∈X.ey++pins,p.1≠b
theorem Inv.qe{X:bw}{pins:List (Addr×Obj)}{σ:St}{H H':ae}{s:ax}{b:Addr}(I:Inv X pins σ H s)(U:s.heap.objs.size≤b)(az:H' b=none):sl X pins H' b:=by
 refine⟨az,yy (jC I.lt U),I.aka U,.inr (gm I.i_ U),λx c e z=>?_,λp aQ z=>?_⟩
 .obtain⟨v,q⟩:=I.cell x c e
  exact bB (jC q.lt (by rw[z];exact U)) (p2 _)
 .exact bB (jC (du (I.pin p aQ).1) (by rw[z];exact U)) (p2 _)
structure Turn(P:bT)(w:bJ)(K:a3)(dq:Expr)(J:e7)(cu:List Addr)(it:Addr)(hE:Nat→Heap→Prop):Prop where
 mem:it∈cu
 obj:∀i h,hE i h→∀b∈cu,∃o,h.get? b=some o∧∀v,o.data≠.cell v
 keep:∀i h h',hE i h→(∀b∈cu,∀o,h.get? b=some o→h'.get? b=some o)→hE i h'
 item:∀(X:bw),X.prog=P→X.w=w→X.K=K→X.calm=true→∀(i:Nat)(pins:List (Addr×Obj))(s:ax)(σ:St)(H:ae)(E:Value→ax→Prop),Inv X pins σ H s→(∀b∈cu,sl X pins H b)→hE i s.heap→J.go i H→
  aX (br P w) X.A (kB (.ref it)) (λr s1=>∃u,r=some u∧
   aX (br P w) X.A (Mj dq (.ref it) u) (λ_ s2=>∃x H',Inv X pins σ H' s2∧RelV x u∧J.ml i H x H'∧hE (i+1) s2.heap∧∀b∈cu,H' b=none) E s1) E s
 done:∀(X:bw),X.prog=P→X.w=w→X.K=K→X.calm=true→∀(i:Nat)(pins:List (Addr×Obj))(s:ax)(σ:St)(H:ae)(E:Value→ax→Prop),Inv X pins σ H s→(∀b∈cu,sl X pins H b)→hE i s.heap→J.stop i H→
  aX (br P w) X.A (kB (.ref it)) (λr s1=>r=none∧Inv X pins σ H s1) E s
 self:∀(A:c5)(i:Nat)(s:ax)(Q:Value→ax→Prop)(E:Value→ax→Prop),hE i s.heap→Q (.ref it) s→aX (br P w) A (A3 (.ref it)) Q E s
noncomputable abbrev TI:=St→ae→(e7→ae→Prop)→Prop
noncomputable def HS(X:bw)(pins:List (Addr×Obj))(σ:St)(dq:Expr)(R:e7→ae→Prop)(L1:Value)(s2:ax):Prop:=
 ∃(it:Addr)(cu:List Addr)(hE:Nat→Heap→Prop)(J:e7)(H':ae),L1=.ref it∧Inv X pins σ H' s2∧Turn X.prog X.w X.K dq J cu it hE∧hE 0 s2.heap∧(∀b∈cu,sl X pins H' b)∧R J H'
noncomputable def lH(X:bw)(dq iter:Expr)(wi:TI):Prop:=
 ∀(pins:List (Addr×Obj))(s:ax)(σ:St)(H:ae)(R:e7→ae→Prop),Inv X pins σ H s→wi σ H R→
  aX (br X.prog X.w) X.A (eval iter X.env) (λv s1=>aX (br X.prog X.w) X.A (A3 v) (HS X pins σ dq R) X.dj s1) X.dj s
theorem xn{M:nK}{A:c5}{E:Value→ax→Prop}{s:ax}{dq:Expr}{it:Addr}{u:Value}{o:Obj}{n:String}{vs:Array Value}{Q:Unit→ax→Prop}(a9:s.heap.get? it=some o)(aF:o.cls=.type n)(hd:o.data=.fields vs)(az:["enumerate","zip","dict_itemiterator","dict_reverseitemiterator","odict_iterator","itertools.zip_longest","itertools.pairwise"].contains n=false)(eu:Q () s):aX M A (Mj dq (.ref it) u) Q E s:=by
  unfold Mj
  cases dq<;>first
    |exact bM eu
    | (cases u<;>first
        |exact bM eu
        | (refine aJ (wpAny_load a9 ?_)
           rw[aF,hd]
           show aX M A (if(["enumerate","zip","dict_itemiterator","dict_reverseitemiterator","odict_iterator","itertools.zip_longest","itertools.pairwise"].contains n&&vs[0]?==some (qJ _))=true then _ else _) Q E s
           rw[aD (by intro h;rw[az,Bool.false_and]at h;cases h)]
           exact bM eu))
noncomputable def jc(K:a3)(a:Addr):e7:=
 ⟨λi H=>∃xs x,aR K H a xs∧xs[i]?=some x,λi H x H'=>H'=H∧∀xs,aR K H a xs→xs[i]?=some x,λi H=>∃xs,aR K H a xs∧xs.length≤i⟩
noncomputable def yc(K:a3)(a:Addr):e7:=
 ⟨λi H=>∃xs x,b2 K H a xs∧xs[i]?=some x,λi H x H'=>H'=H∧∀xs,b2 K H a xs→xs[i]?=some x,λi H=>∃xs,b2 K H a xs∧xs.length≤i⟩
noncomputable def pY(lo:Int)(n:Nat):e7:=⟨λi _=>i<n,λi H x H'=>H'=H∧x=.int (lo+i),λi _=>n≤i⟩
theorem η{P:bT}{w:bJ}{K:a3}{dq:Expr}(a it:Addr):Turn P w K dq (jc K a) [it] it (λi h=>h.IsListIter it a i)where
 mem:=by simp
 obj:=λi h st b U=>by
  have e:b=it:=by simpa using U
  subst e
  obtain⟨o,e,c,d⟩:=st
  exact⟨o,e,λv z=>by rw[d]at z;cases z⟩
 keep:=λi h h' st k=>st.at λo e=>k it (by simp) o e
 item:=by
  intro X fH hw fk aF i pins s σ H E I hf st bf
  subst fH hw fk
  obtain⟨xs,x,bg,ao⟩:=bf
  obtain⟨its,b7,p,bQ⟩:=I.list bg
  obtain⟨u,cf,e4⟩:=b7.get ao
  obtain⟨f0,f1,f2,dc,f4,eU⟩:=hf it (by simp)
  refine wpAny_pyNext_list_item st p.isList (x:=u) (by simpa using cf) λh' aM bX=>?_
  have aS:Inv X pins σ H {s with heap:=h'}:=I.turned (t':=s.toks) (λb o U e=>(bX.2 b U).trans e) f0 f1 dc f4 eU
  obtain⟨o,e,c,d⟩:=id aM
  exact⟨u,rfl,xn (s:={s with heap:=h'}) e c d (by decide) ⟨x,H,aS,e4,⟨rfl,λys aT=>by rw[I.V' aT bg];exact ao⟩,aM,λb U=>(hf b U).1⟩⟩
 done:=by
  intro X fH hw fk aF i pins s σ H E I hf st bf
  subst fH hw fk
  obtain⟨xs,bg,ao⟩:=bf
  obtain⟨its,b7,p,bQ⟩:=I.list bg
  obtain⟨f0,f1,f2,dc,f4,eU⟩:=hf it (by simp)
  have ar:=b7.length
  exact wpAny_pyNext_list_end (I.ok.hd aF) st p.isList (by simp;omega) λh' dJ=>⟨rfl,I.turned (t':=s.toks) (λb o U e=>dJ b o U e) f0 f1 dc f4 eU⟩
 self:=λ_ _ _ _ _ st h=>wpAny_pyIter_listiter st h
theorem Zf{P:bT}{w:bJ}{K:a3}{dq:Expr}(a it:Addr):Turn P w K dq (yc K a) [it] it (λi h=>h.IsTupleIter it a i)where
 mem:=by simp
 obj:=λi h st b U=>by
  have e:b=it:=by simpa using U
  subst e
  obtain⟨o,e,c,d⟩:=st
  exact⟨o,e,λv z=>by rw[d]at z;cases z⟩
 keep:=λi h h' st k=>st.at λo e=>k it (by simp) o e
 item:=by
  intro X fH hw fk aF i pins s σ H E I hf st bf
  subst fH hw fk
  obtain⟨xs,x,bg,ao⟩:=bf
  obtain⟨its,b7,p,bQ⟩:=I.tuple bg
  obtain⟨u,cf,e4⟩:=b7.get ao
  obtain⟨f0,f1,f2,dc,f4,eU⟩:=hf it (by simp)
  refine wpAny_pyNext_tuple_item st (show s.heap.IsTuple a its.toArray from p) (x:=u) (by simpa using cf) λh' aM bX=>?_
  have aS:Inv X pins σ H {s with heap:=h'}:=I.turned (t':=s.toks) (λb o U e=>(bX.2 b U).trans e) f0 f1 dc f4 eU
  obtain⟨o,e,c,d⟩:=id aM
  exact⟨u,rfl,xn (s:={s with heap:=h'}) e c d (by decide) ⟨x,H,aS,e4,⟨rfl,λys aT=>by rw[I.alK aT bg];exact ao⟩,aM,λb U=>(hf b U).1⟩⟩
 done:=by
  intro X fH hw fk aF i pins s σ H E I hf st bf
  subst fH hw fk
  obtain⟨xs,bg,ao⟩:=bf
  obtain⟨its,b7,p,bQ⟩:=I.tuple bg
  obtain⟨f0,f1,f2,dc,f4,eU⟩:=hf it (by simp)
  have ar:=b7.length
  exact wpAny_pyNext_tuple_end (I.ok.hd aF) st (show s.heap.IsTuple a its.toArray from p) (by simp;omega) λh' dJ=>⟨rfl,I.turned (t':=s.toks) (λb o U e=>dJ b o U e) f0 f1 dc f4 eU⟩
 self:=λ_ _ _ _ _ st h=>wpAny_pyIter_tupleiter st h
theorem Zg{P:bT}{w:bJ}{K:a3}{dq:Expr}(it:Addr)(lo:Int)(n:Nat):Turn P w K dq (pY lo n) [it] it (λi h=>IsRangeIter h it (lo+(i:Nat)*1) ((n:Int)-(i:Nat)) 1)where
 mem:=by simp
 obj:=λi h st b U=>by
  have e:b=it:=by simpa using U
  subst e
  exact⟨_,st,λv z=>by
   have dt:Qb _=Qa v:=z
   cases dt⟩
 keep:=λi h h' st k=>k it (by simp) _ st
 item:=by
  intro X fH hw fk aF i pins s σ H E I hf st bf
  subst fH hw fk
  obtain⟨f0,f1,f2,dc,f4,eU⟩:=hf it (by simp)
  have W:=Walks.range (prog:=X.prog) (w:=X.w) (I.ok.hd aF) it lo 1 n
  refine W.item i s _ _ bf st λv h' a5 bG aM c0=>?_
  obtain⟨t,rfl⟩:=bG
  have aS:Inv X pins σ H {s with heap:=h',toks:=a5}:=I.turned (λb o U e=>c0 b o (by simpa using U) e) f0 f1 dc f4 eU
  refine⟨_,rfl,xn (s:={s with heap:=h',toks:=a5}) (n:="range_iterator") aM rfl rfl (by decide) ⟨.int (lo+i),H,aS,⟨t,?_⟩,⟨rfl,rfl⟩,aM,λb U=>(hf b U).1⟩⟩
  rw[Int.mul_one]
 done:=by
  intro X fH hw fk aF i pins s σ H E I hf st bf
  subst fH hw fk
  obtain⟨f0,f1,f2,dc,f4,eU⟩:=hf it (by simp)
  exact wpAny_pyNext_range_end (I.ok.hd aF) st (by have:n≤i:=bf;omega) λh' dJ=>⟨rfl,I.turned (t':=s.toks) (λb o U e=>dJ b o U e) f0 f1 dc f4 eU⟩
 self:=λ_ _ _ _ _ st h=>wpAny_pyIter_rangeiter st h
open PySem PySem.Spec PyProof.Rows
section
variable{X:bw}{dq:Expr}
inductive aej(K:a3)(x:V)(H:ae)(R:e7→ae→Prop):Prop where
 |mk (a:Addr) (b4:x=.ref a) (bL:∃xs,aR K H a xs) (cG:R (jc K a) H)
noncomputable def acY(K:a3)(cS:TE):TI:=λσ H R=>cS σ H λx H1=>aej K x H1 R
noncomputable def aek(K:a3)(cS:TE):TI:=λσ H R=>cS σ H λx H1=>∃a,x=.ref a∧(∃xs,b2 K H1 a xs)∧R (yc K a) H1
theorem hn{l:Expr}{cS:TE}(ar:bE X l cS):lH X dq l (acY X.K cS):=by
 intro pins s σ H R I h
 refine bH (ar pins s σ H _ I h) λv s1⟨x,H1,aS,b6,bq⟩=>?_
 obtain⟨a,e,⟨xs,bg⟩,q⟩:=bq
 subst e
 cases b6
 obtain⟨its,b7,p,bQ⟩:=aS.list bg
 refine O5 p.isList ?_
 refine⟨s1.heap.objs.size,[s1.heap.objs.size],_,_,H1,rfl,aS.kept (t':=s1.toks) λb o e=>dy _ e,η a _,⟨_,gD _ rfl,rfl,rfl⟩,λb U=>?_,q⟩
 have e:b=s1.heap.objs.size:=by simpa using U
 subst e
 exact aS.qe (b1 _) (aS.bh.fresh (b1 _))
theorem Gw{l:Expr}{cS:TE}(ar:bE X l cS):lH X dq l (aek X.K cS):=by
 intro pins s σ H R I h
 refine bH (ar pins s σ H _ I h) λv s1⟨x,H1,aS,b6,bq⟩=>?_
 obtain⟨a,e,⟨xs,bg⟩,q⟩:=bq
 subst e
 cases b6
 obtain⟨its,b7,p,bQ⟩:=aS.tuple bg
 refine wpAny_pyIter_tuple (show s1.heap.IsTuple a its.toArray from p) ?_
 refine⟨s1.heap.objs.size,[s1.heap.objs.size],_,_,H1,rfl,aS.kept (t':=s1.toks) λb o e=>dy _ e,Zf a _,⟨_,gD _ rfl,rfl,rfl⟩,λb U=>?_,q⟩
 have e:b=s1.heap.objs.size:=by simpa using U
 subst e
 exact aS.qe (b1 _) (aS.bh.fresh (b1 _))
theorem YD{pins:List (Addr×Obj)}{σ:St}{H:ae}{s:ax}{R:e7→ae→Prop}{E:Value→ax→Prop}{lo aj:Int}{t u v:Tok}{a5:Nat}(I:Inv X pins σ H s)(ag:-(2 ^ 62)≤lo)(af:lo<2 ^ 62)(aU:-(2 ^ 62)≤aj)(bP:aj<2 ^ 62)(q:R (pY lo (aj-lo).toNat) H):aX (br X.prog X.w) X.A (A3 (.ref s.heap.objs.size)) (HS X pins σ dq R) E {s with heap:=s.heap.push {cls:=.type "range",data:=.fields #[.int lo t,.int aj u,.int 1 v]},toks:=a5}:=by
 refine wpAny_pyIter_range (IsRange.new ..) (small_one ag af aU bP) ?_
 have aS:Inv X pins σ H {s with heap:=s.heap.push {cls:=.type "range",data:=.fields #[.int lo t,.int aj u,.int 1 v]},toks:=a5}:=I.kept λb o e=>dy _ e
 refine⟨(s.heap.push {cls:=.type "range",data:=.fields #[.int lo t,.int aj u,.int 1 v]}).objs.size,[(s.heap.push {cls:=.type "range",data:=.fields #[.int lo t,.int aj u,.int 1 v]}).objs.size],_,_,H,rfl,
  aS.kept (t':=a5) λb o e=>dy _ e,Zg _ lo (aj-lo).toNat,?_,λb U=>?_,q⟩
 .have av:lo+((0:Nat):Int)*1=lo:=by simp
  have ay:(((aj-lo).toNat:Nat):Int)-((0:Nat):Int)=am3 lo aj 1:=by rw[rangeSize_one];split<;>omega
  show IsRangeIter _ _ (lo+((0:Nat):Int)*1) ((((aj-lo).toNat:Nat):Int)-((0:Nat):Int)) 1
  rw[av,ay]
  exact gD _ rfl
 .have e:b=(s.heap.push {cls:=.type "range",data:=.fields #[.int lo t,.int aj u,.int 1 v]}).objs.size:=by simpa using U
  subst e
  exact aS.qe (b1 _) (aS.bh.fresh (b1 _))
noncomputable def acZ(b3:fY):TI:=λσ H R=>b3 σ H λvs H1=>∃j:Int,vs=[.int j]∧-(2 ^ 62)≤j∧j<2 ^ 62∧R (pY 0 j.toNat) H1
noncomputable def ac0(b3:fY):TI:=λσ H R=>b3 σ H λvs H1=>∃i j:Int,vs=[.int i,.int j]∧(-(2 ^ 62)≤i∧i<2 ^ 62∧-(2 ^ 62)≤j∧j<2 ^ 62)∧R (pY i (j-i).toNat) H1
theorem EO{a:Expr}{b3:fY}{p pos:Pos}(bf:jA X "range")(hm:X.aa "range"=none)(aH:hj X [a] b3)(hs:dW [a] X.env=[(false,eval a X.env)]:=by rfl):lH X dq (.Call (.Name "range" p) [a] [] pos) (acZ b3):=by
 intro pins s σ H R I h
 refine Call_ (w4 I bf hm boot_range (HW (bH (aH pos pins s σ H _ I h) λus s1⟨vs,H1,aS,b6,bq⟩=>?_) hs rfl))
 obtain⟨j,e,bq,cp,q⟩:=bq
 subst e
 cases b6 with
 |cons r lr=>
  cases lr
  obtain⟨t,rfl⟩:=r
  exact call_range_1 (YD aS (by omega) (by omega) bq cp (by simpa using q))
theorem γ{a b:Expr}{b3:fY}{p pos:Pos}(bf:jA X "range")(hm:X.aa "range"=none)(aH:hj X [a,b] b3)(hs:dW [a,b] X.env=[(false,eval a X.env),(false,eval b X.env)]:=by rfl)(iG:dW [b] X.env=[(false,eval b X.env)]:=by rfl):
  lH X dq (.Call (.Name "range" p) [a,b] [] pos) (ac0 b3):=by
 intro pins s σ H R I h
 refine Call_ (w4 I bf hm boot_range (HW (bH (aH pos pins s σ H _ I h) λus s1⟨vs,H1,aS,b6,bq⟩=>?_) (by rw[hs,iG]) (by rw[iG];rfl)))
 obtain⟨i,j,e,⟨bq,cp,eH,iq⟩,q⟩:=bq
 subst e
 cases b6 with
 |cons r lr=>
  cases lr with
  |cons cm lr=>
   cases lr
   obtain⟨t,rfl⟩:=r
   obtain⟨t',rfl⟩:=cm
   exact call_range_2 (YD aS bq cp eH iq q)
noncomputable def ael(wi:TI)(g:ic)(cX:eY):eY:=λD σ H=>wi σ H λJ H1=>∃W:Nat→Nat→St→ae→Prop,(∃m,W 0 m σ H1)∧∀i m σ H,W i m σ H→
 (J.stop i H∧D.b' σ H)∨(J.go i H∧∃N:St→ae→Prop,(∀a6 H',N a6 H'→∃cR,cR<m∧W (i+1) cR a6 H')∧∀x H',J.ml i H x H'→g x σ H' λgZ ak=>cX {D with b':=N,fA:=N,gG:=D.b'} gZ ak)
noncomputable def A6(cu:List Addr)(h:Heap):List (Addr×Obj):=cu.filterMap λb=>(h.get? b).map λo=>(b,o)
theorem Ep{cu:List Addr}{h:Heap}{b:Addr}{o:Obj}(U:b∈cu)(e:h.get? b=some o):(b,o)∈A6 cu h:=HI.mpr ⟨b,U,by rw[e];rfl⟩
theorem π{cu:List Addr}{h:Heap}{p:Addr×Obj}(aQ:p∈A6 cu h):p.1∈cu∧h.get? p.1=some p.2:=by
 obtain⟨b,U,e⟩:=HI.mp aQ
 cases q:h.get? b with
 |none=>rw[q]at e;cases e
 |some o=>
  rw[q]at e
  have b5:(b,o)=p:=gT e
  subst b5
  exact⟨U,q⟩
theorem Inv.pinned{pins:List (Addr×Obj)}{σ:St}{H:ae}{s:ax}{cu:List Addr}(I:Inv X pins σ H s)(hf:∀b∈cu,sl X pins H b)(a9:∀b∈cu,∃o,s.heap.get? b=some o∧∀v,o.data≠.cell v):Inv X (pins++A6 cu s.heap) σ H s:=
 I.WV λp aQ=>(el.mp aQ).elim (λz=>I.pin p (p0 _ z)) λz=>by
  obtain⟨U,e⟩:=π z
  obtain⟨f0,f1,f2,_⟩:=hf p.1 U
  obtain⟨o,b5,d⟩:=a9 p.1 U
  rw[e]at b5;cases b5
  exact⟨e,f0,f1,f2,d⟩
theorem Inv.F7{pins pl:List (Addr×Obj)}{σ:St}{H:ae}{s:ax}(I:Inv X (pins++pl) σ H s):Inv X pins σ H s:=I.WV λp aQ=>I.pin p (p0 _ (ŏ _ aQ))
theorem hV{iter:Expr}{body:List Stmt}{wi:TI}{g:ic}{cX:eY}{pos:Pos}(aQ:PassesOwn (br X.prog X.w) X.A X.env X.dj)(aF:X.calm=true)(aj:lH X dq iter wi)(bf:nM X dq g)(U:hT X body cX)(hs:∀x,Kb iter X.env x=pure x:=by intro _;rfl):gn X (.For dq iter body [] pos) (ael wi g cX):=by
 intro pins s σ H D I h
 refine wpAny_For (bH (aj pins s σ H _ I h) λv s1 ag=>bH ag λL1 s2 af=>?_) hs
 obtain⟨it,cu,hE,J,ak,e,bK,T,FW,f2,W,⟨m0,BH⟩,turn⟩:=af
 subst e
 have uv:∀{H':ae},(∀b∈cu,H' b=none)→∀b∈cu,sl X pins H' b:=λaz b U=>⟨az b U,(f2 b U).2⟩
 refine codeAny_forLoop_any (λn s'=>∃i a6 H',Inv X pins a6 H' s'∧hE i s'.heap∧(∀b∈cu,H' b=none)∧W i n a6 H') ?_ m0 ⟨0,σ,ak,bK,FW,λb U=>(f2 b U).1,BH⟩
 rintro n s3 ⟨i,f',bD,cT,Xo,Uj,hO⟩
 rcases turn i n f' bD hO with⟨stop,ov⟩|⟨go,N,fl,step⟩
 .refine xu aQ (bH (T.done X rfl rfl rfl aF i pins s3 f' bD X.dj cT (uv Uj) Xo stop) λr s4⟨aw,iP⟩=>?_)
  subst aw
  exact BL ⟨f',bD,iP,ov⟩
 .refine xu aQ (bH (T.item X rfl rfl rfl aF i pins s3 f' bD X.dj cT (uv Uj) Xo go) λr s4⟨u,aw,bP⟩=>?_)
  subst aw
  refine xu aQ (bH bP λ_ s5⟨x,bU,iQ,A4,Pp,uu,Kc⟩=>?_)
  have Hi:=iQ.pinned (uv Kc) (T.obj _ _ uu)
  refine xu aQ (bH (bf _ s5 f' bU x u _ Hi A4 (step x bU Pp)) λ_ h5⟨B',kN,sJ,Nl⟩=>?_)
  refine xu aQ (bH (U _ h5 B' kN _ sJ Nl) λf pO mb=>?_)
  have again:∀{oQ:St}{eO:ae},Inv X (pins++A6 cu s5.heap) oQ eO pO→N oQ eO→∃m,m<n∧∃i a6 H',Inv X pins a6 H' pO∧hE i pO.heap∧(∀b∈cu,H' b=none)∧W i m a6 H':=λ{oQ eO}kQ rT=>by
   obtain⟨cR,hm,OR⟩:=fl oQ eO rT
   refine⟨cR,hm,i+1,oQ,eO,kQ.F7,T.keep _ _ _ uu λb U o e=>(kQ.pin (b,o) (p0 _ (p0 _ (Ep U e)))).1,λb U=>?_,OR⟩
   obtain⟨o,e,d⟩:=T.obj _ _ uu b U
   exact(kQ.pin (b,o) (p0 _ (p0 _ (Ep U e)))).2.1
  cases f with
  |next=>obtain⟨oQ,eO,kQ,rT⟩:=mb;exact again kQ rT
  |cont=>obtain⟨oQ,eO,kQ,rT⟩:=mb;exact again kQ rT
  |brk=>obtain⟨oQ,eO,kQ,mb⟩:=mb;exact⟨oQ,eO,kQ.F7,mb⟩
  |ret v=>obtain⟨amr,oQ,eO,kQ,W2,mb⟩:=mb;exact⟨amr,oQ,eO,kQ.F7,W2,mb⟩
end
theorem nV{K:a3}{a:Addr}{xs:List V}{g:ic}{cX:eY}{D:Ends}{σ:St}{H:ae}(Pv:Nat→St→ae→Prop)(h0:Pv 0 σ H)(ar:∀i σ H,i≤xs.length→Pv i σ H→aR K H a xs)(hs:∀i x σ H,xs[i]?=some x→Pv i σ H→g x σ H λgZ ak=>cX {D with b':=Pv (i+1),fA:=Pv (i+1),gG:=D.b'} gZ ak)(hd:∀σ H,Pv xs.length σ H→D.b' σ H):
  ∃W:Nat→Nat→St→ae→Prop,(∃m,W 0 m σ H)∧∀i m σ H,W i m σ H→
   ((jc K a).stop i H∧D.b' σ H)∨((jc K a).go i H∧∃N:St→ae→Prop,(∀a6 H',N a6 H'→∃cR,cR<m∧W (i+1) cR a6 H')∧∀x H',(jc K a).ml i H x H'→g x σ H' λgZ ak=>cX {D with b':=N,fA:=N,gG:=D.b'} gZ ak):=by
 refine⟨λi m σ H=>m=xs.length-i∧i≤xs.length∧Pv i σ H,⟨xs.length,by simp,ea _,h0⟩,?_⟩
 rintro i m σ H ⟨rfl,aj,p⟩
 have q:=ar i σ H aj p
 by_cases bN:i<xs.length
 .refine .inr ⟨⟨xs,xs[i],q,by simp[bN]⟩,Pv (i+1),λa6 H' ip=>⟨xs.length-(i+1),by omega,rfl,bN,ip⟩,λx H' y=>?_⟩
  obtain⟨e,y⟩:=y
  subst e
  exact hs i x σ _ (y xs q) p
 .have e:i=xs.length:=by omega
  subst e
  exact .inl ⟨⟨xs,q,b1 _⟩,hd σ H p⟩
theorem OK{K:a3}{a:Addr}{xs:List V}{g:ic}{cX:eY}{D:Ends}{σ:St}{H:ae}(Pv:Nat→St→ae→Prop)(h0:Pv 0 σ H)(ar:∀i σ H,i≤xs.length→Pv i σ H→b2 K H a xs)(hs:∀i x σ H,xs[i]?=some x→Pv i σ H→g x σ H λgZ ak=>cX {D with b':=Pv (i+1),fA:=Pv (i+1),gG:=D.b'} gZ ak)(hd:∀σ H,Pv xs.length σ H→D.b' σ H):
  ∃W:Nat→Nat→St→ae→Prop,(∃m,W 0 m σ H)∧∀i m σ H,W i m σ H→
   ((yc K a).stop i H∧D.b' σ H)∨((yc K a).go i H∧∃N:St→ae→Prop,(∀a6 H',N a6 H'→∃cR,cR<m∧W (i+1) cR a6 H')∧∀x H',(yc K a).ml i H x H'→g x σ H' λgZ ak=>cX {D with b':=N,fA:=N,gG:=D.b'} gZ ak):=by
 refine⟨λi m σ H=>m=xs.length-i∧i≤xs.length∧Pv i σ H,⟨xs.length,by simp,ea _,h0⟩,?_⟩
 rintro i m σ H ⟨rfl,aj,p⟩
 have q:=ar i σ H aj p
 by_cases bN:i<xs.length
 .refine .inr ⟨⟨xs,xs[i],q,by simp[bN]⟩,Pv (i+1),λa6 H' ip=>⟨xs.length-(i+1),by omega,rfl,bN,ip⟩,λx H' y=>?_⟩
  obtain⟨e,y⟩:=y
  subst e
  exact hs i x σ _ (y xs q) p
 .have e:i=xs.length:=by omega
  subst e
  exact .inl ⟨⟨xs,q,b1 _⟩,hd σ H p⟩
theorem EP{lo:Int}{n:Nat}{g:ic}{cX:eY}{D:Ends}{σ:St}{H:ae}(Pv:Nat→St→ae→Prop)(h0:Pv 0 σ H)(hs:∀i σ H,i<n→Pv i σ H→g (.int (lo+i)) σ H λgZ ak=>cX {D with b':=Pv (i+1),fA:=Pv (i+1),gG:=D.b'} gZ ak)(hd:∀σ H,Pv n σ H→D.b' σ H):
  ∃W:Nat→Nat→St→ae→Prop,(∃m,W 0 m σ H)∧∀i m σ H,W i m σ H→
   ((pY lo n).stop i H∧D.b' σ H)∨((pY lo n).go i H∧∃N:St→ae→Prop,(∀a6 H',N a6 H'→∃cR,cR<m∧W (i+1) cR a6 H')∧∀x H',(pY lo n).ml i H x H'→g x σ H' λgZ ak=>cX {D with b':=N,fA:=N,gG:=D.b'} gZ ak):=by
 refine⟨λi m σ H=>m=n-i∧i≤n∧Pv i σ H,⟨n,by simp,ea _,h0⟩,?_⟩
 rintro i m σ H ⟨rfl,aj,p⟩
 by_cases bN:i<n
 .refine .inr ⟨bN,Pv (i+1),λa6 H' ip=>⟨n-(i+1),by omega,rfl,bN,ip⟩,λx H' y=>?_⟩
  obtain⟨e,y⟩:=y
  subst e y
  exact hs i σ _ bN p
 .have e:i=n:=by omega
  subst e
  exact .inl ⟨b1 _,hd σ H p⟩
open PySem PySem.Spec PyProof.Rows
noncomputable abbrev gL:=V→V→ae→bk→Prop
noncomputable def fQ(X:bw)(f:Value→Value→Sem Value)(r:gL):Prop:=
 ∀(pins:List (Addr×Obj))(s:ax)(σ:St)(H:ae)(x y:V)(v u:Value)(Q:bk),Inv X pins σ H s→RelV x v→RelV y u→r x y H Q→
  aX (br X.prog X.w) X.A (f v u) (hh X pins σ Q) X.dj s
noncomputable def Iu(X:bw)(f:Value→Sem Value)(r:V→ae→bk→Prop):Prop:=
 ∀(pins:List (Addr×Obj))(s:ax)(σ:St)(H:ae)(x:V)(v:Value)(Q:bk),Inv X pins σ H s→RelV x v→r x H Q→
  aX (br X.prog X.w) X.A (f v) (hh X pins σ Q) X.dj s
noncomputable def jH(X:bw)(f:Value)(r:List V→ae→bk→Prop):Prop:=
 ∀(pins:List (Addr×Obj))(s:ax)(σ:St)(H:ae)(xs:List V)(us:List Value)(Q:bk),Inv X pins σ H s→cj xs us→r xs H Q→
  aX (br X.prog X.w) X.A (call f us) (hh X pins σ Q) X.dj s
noncomputable def aem(X:bw)(r:V→ae→(Bool→ae→Prop)→Prop):Prop:=
 ∀(pins:List (Addr×Obj))(s:ax)(σ:St)(H:ae)(x:V)(v:Value)(Q:Bool→ae→Prop),Inv X pins σ H s→RelV x v→r x H Q→
  aX (br X.prog X.w) X.A (truthy v) (C7 X pins σ Q) X.dj s
noncomputable def F0(r:gL)(b3 cX:TE):TE:=λσ H Q=>b3 σ H λx H1=>cX σ H1 λy ak=>r x y ak Q
noncomputable def alw(r:V→ae→bk→Prop)(b3:TE):TE:=λσ H Q=>b3 σ H λx H1=>r x H1 Q
inductive ā(C:Int→Int→Prop)(g:Int→Int→V)(x:V)(y:V)(H:ae)(Q:bk):Prop where
 |mk (i:_) (j:_) (b4:x=.int i) (bL:y=.int j) (cG:C i j) (c2:Q (g i j) H)
noncomputable def A5(C:Int→Int→Prop)(g:Int→Int→V):gL:=λx y H Q=>ā C g x y H Q
inductive aen(g:Int→Int→V)(x:V)(y:V)(H:ae)(Q:bk):Prop where
 |mk (i:_) (j:_) (b4:x=.int i) (bL:y=.int j) (cG:Q (g i j) H)
noncomputable def uh(g:Int→Int→V):gL:=λx y H Q=>aen g x y H Q
inductive Ă(g:Int→V)(x:V)(H:ae)(Q:bk):Prop where
 |mk (i:_) (b4:x=.int i) (bL:Q (g i) H)
noncomputable def W4(g:Int→V):V→ae→bk→Prop:=λx H Q=>Ă g x H Q
section
variable{X:bw}{a b c:Expr}{b3 cX mg:TE}{pos:Pos}
theorem H5(aH:bE X a b3)(U:bE X b cX){pins:List (Addr×Obj)}{s:ax}{σ:St}{H:ae}{R:V→V→ae→Prop}(I:Inv X pins σ H s)(h:b3 σ H λx H1=>cX σ H1 λy ak=>R x y ak){Q:Value→ax→Prop}{f:Value→Value→Sem Value}(hf:∀v u s2 x y ak,Inv X pins σ ak s2→RelV x v→RelV y u→R x y ak→aX (br X.prog X.w) X.A (f v u) Q X.dj s2):
  aX (br X.prog X.w) X.A (eval a X.env) (λv dw=>aX (br X.prog X.w) X.A (eval b X.env) (λu pQ=>aX (br X.prog X.w) X.A (f v u) Q X.dj pQ) X.dj dw) X.dj s:=by
 refine bH (aH pins s σ H _ I h) λv s1⟨x,H1,aS,b6,bq⟩=>?_
 refine bH (U pins s1 σ H1 _ aS bq) λu s2⟨y,ak,bK,c8,cp⟩=>?_
 exact hf v u s2 x y ak bK b6 c8 cp
theorem cK{op:Operator}{r:gL}(a9:fQ X (rh op) r)(aH:bE X a b3)(U:bE X b cX):bE X (.BinOp a op b pos) (F0 r b3 cX):=by
 intro pins s σ H Q I h
 exact wpAny_BinOp (H5 aH U I h λv u s2 x y ak bK bt bI q=>a9 pins s2 σ ak x y v u Q bK bt bI q)
theorem BN{op:UnaryOp}{r:V→ae→bk→Prop}(a9:Iu X (unaryOp op) r)(aH:bE X a b3):bE X (.UnaryOp op a pos) (alw r b3):=by
 intro pins s σ H Q I h
 exact UnaryOp_ (bH (aH pins s σ H _ I h) λv s1⟨x,H1,aS,b6,bq⟩=>a9 pins s1 σ H1 x v Q aS b6 bq)
theorem Fe{f:Value→Value→Sem Value}{C:Int→Int→Prop}{g:Int→Int→Int}(rule:∀(i j:Int)(t u:Tok)(s:ax)(Q:Value→ax→Prop)(E:Value→ax→Prop),C i j→Q (.int (g i j) s.toks) {s with toks:=s.toks+1}→aX (br X.prog X.w) X.A (f (.int i t) (.int j u)) Q E s):
  fQ X f (A5 C λi j=>.int (g i j)):=by
 intro pins s σ H x y v u Q I bt bI h
 obtain⟨i,j,rfl,rfl,aF,q⟩:=h
 obtain⟨t,rfl⟩:=bt
 obtain⟨t',rfl⟩:=bI
 exact rule i j t t' s _ _ aF ⟨.int (g i j),H,I.tok _,⟨_,rfl⟩,q⟩
theorem Sx{f:Value→Value→Sem Value}{g:Int→Int→Int}(rule:∀(i j:Int)(t u:Tok)(s:ax)(Q:Value→ax→Prop)(E:Value→ax→Prop),Q (.int (g i j) s.toks) {s with toks:=s.toks+1}→aX (br X.prog X.w) X.A (f (.int i t) (.int j u)) Q E s):
  fQ X f (uh λi j=>.int (g i j)):=by
 intro pins s σ H x y v u Q I bt bI h
 obtain⟨i,j,rfl,rfl,q⟩:=h
 obtain⟨t,rfl⟩:=bt
 obtain⟨t',rfl⟩:=bI
 exact rule i j t t' s _ _ ⟨.int (g i j),H,I.tok _,⟨_,rfl⟩,q⟩
theorem H6{f:Value→Value→Sem Value}{g:Int→Int→Bool}(rule:∀(i j:Int)(t u:Tok)(s:ax)(Q:Value→ax→Prop)(E:Value→ax→Prop),Q (.bool (g i j)) s→aX (br X.prog X.w) X.A (f (.int i t) (.int j u)) Q E s):
  fQ X f (uh λi j=>.bo (g i j)):=by
 intro pins s σ H x y v u Q I bt bI h
 obtain⟨i,j,rfl,rfl,q⟩:=h
 obtain⟨t,rfl⟩:=bt
 obtain⟨t',rfl⟩:=bI
 exact rule i j t t' s _ _ ⟨.bo (g i j),H,I,rfl,q⟩
noncomputable def aeo(i j:Int):Prop:=0<j∧j<1073741824
noncomputable def aep(i j:Int):Prop:=0≤j∧j≤1000000∧i.natAbs<2 ^ 64
noncomputable def H7(i j:Int):Prop:=(-(2 ^ 64)<i∧i<2 ^ 64)∨(-(2 ^ 64)<j∧j<2 ^ 64)
theorem H7.ok{i j:Int}(h:H7 i j):IntMulOk i j:=by
 rcases h with⟨ag,af⟩|⟨ag,af⟩
 .exact .of_left (intBits_le_64 ag af)
 .exact .of_right (intBits_le_64 ag af)
theorem ie:fQ X (rh .Add) (uh λi j=>.int (i+j)):=Sx λ_ _ _ _ _ _ _ q=>add_int q
theorem Gx:fQ X (rh .Sub) (uh λi j=>.int (i-j)):=Sx λ_ _ _ _ _ _ _ q=>sub_int q
theorem qA:fQ X (rh .Mult) (A5 H7 λi j=>.int (i*j)):=Fe λ_ _ _ _ _ _ _ aF q=>mul_int q aF.ok
theorem lQ:fQ X (rh .FloorDiv) (A5 aeo λi j=>.int (i/j)):=Fe λi j _ _ _ _ _ aF q=>by
 have ag:(0:Int)<j:=aF.1
 have af:j<1073741824:=aF.2
 exact floordiv_int (by omega) (by rw[Int.fdiv_eq_ediv_of_nonneg i (by omega)];exact q) (.inl (PyProof.noPylong_small (by omega)))
theorem ht:fQ X (rh .Mod) (A5 (λ_ j=>0<j) λi j=>.int (i%j)):=Fe λi j _ _ _ _ _ aF q=>by
 have ag:(0:Int)<j:=aF
 exact mod_int' (by omega) (by rw[Int.fmod_eq_emod_of_nonneg i (by omega)];exact q)
theorem QC:fQ X (rh .Pow) (A5 aep λi j=>.int (i ^ j.toNat)):=Fe λ_ _ _ _ _ _ _ aF q=>pow_int_small aF.1 aF.2.1 aF.2.2 q
theorem alU{f:Value→Sem Value}{g:Int→Int}(rule:∀(i:Int)(t:Tok)(s:ax)(Q:Value→ax→Prop)(E:Value→ax→Prop),Q (.int (g i) s.toks) {s with toks:=s.toks+1}→aX (br X.prog X.w) X.A (f (.int i t)) Q E s):
  Iu X f (W4 λi=>.int (g i)):=by
 intro pins s σ H x v Q I bt h
 obtain⟨i,rfl,q⟩:=h
 obtain⟨t,rfl⟩:=bt
 exact rule i t s _ _ ⟨.int (g i),H,I.tok _,⟨_,rfl⟩,q⟩
theorem A7:Iu X (unaryOp .USub) (W4 λi=>.int (-i)):=alU λ_ _ _ _ _ q=>neg_int q
end
noncomputable def Sy:V→V→Bool
 |.bR,.bR=>true|.bR,.int _=>true|.int _,.bR=>true|.bR,.bo _=>true|.bo _,.bR=>true|.bR,.str _=>true|.str _,.bR=>true
 |.int _,.int _=>true|.bo _,.bo _=>true|.str _,.str _=>true|.kV _,.kV _=>true
 |.int _,.str _=>true|.str _,.int _=>true|.bo _,.str _=>true|.str _,.bo _=>true
 |_,_=>false
noncomputable def akM:gL:=λx y H Q=>Sy x y=true∧Q (.bo (decide (x=y))) H
noncomputable def akN:gL:=λx y H Q=>Sy x y=true∧Q (.bo (!decide (x=y))) H
theorem OL{i j:Int}:decide (V.int i=V.int j)=(i==j):=by
 rw[Cd]
 simp
theorem QD{i j:Bool}:decide (V.bo i=V.bo j)=(i==j):=by
 rw[Cd]
 simp
theorem Qd{i j:Str}:decide (V.str i=V.str j)=(i==j):=by
 rw[Cd]
 simp
theorem Qe{i j:Array UInt8}:decide (V.kV i=V.kV j)=(i.toList==j.toList):=by
 rw[Cd]
 cases i
 cases j
 simp
section
variable{X:bw}{a b c:Expr}{b3 cX mg:TE}{pos:Pos}
theorem fz{pins:List (Addr×Obj)}{σ:St}{H:ae}{s:ax}{Q:bk}{k wB:Bool}(I:Inv X pins σ H s)(q:Q (.bo k) H)(e:k=wB):hh X pins σ Q (.bool wB) s:=by
 subst e
 exact⟨.bo k,H,I,rfl,q⟩
theorem l3:fQ X (hv .Eq) akM:=by
 intro pins s σ H x y v u Q I bt bI h
 obtain⟨hs,q⟩:=h
 cases x with
 |bR=>
  cases bt
  cases y with
  |bR=>cases bI;exact ant (fz I q (by simp))
  |bo j=>cases bI;exact anr (fz I q (by simp))
  |int j=>obtain⟨t',rfl⟩:=bI;exact ans (fz I q (by simp))
  |str j=>obtain⟨t',rfl⟩:=bI;exact anu (fz I q (by simp))
  |_=>exact bB (show false=true from hs) fb
 |bo i=>
  cases bt
  cases y with
  |bR=>cases bI;exact anp (fz I q (by simp))
  |bo j=>cases bI;exact eq_bool (fz I q QD)
  |str j=>obtain⟨t',rfl⟩:=bI;exact ang (fz I q (by simp))
  |_=>exact bB (show false=true from hs) fb
 |int i=>
  obtain⟨t,rfl⟩:=bt
  cases y with
  |bR=>cases bI;exact anq (fz I q (by simp))
  |int j=>obtain⟨t',rfl⟩:=bI;exact eq_int (fz I q OL)
  |str j=>obtain⟨t',rfl⟩:=bI;exact anh (fz I q (by simp))
  |_=>exact bB (show false=true from hs) fb
 |str i=>
  obtain⟨t,rfl⟩:=bt
  cases y with
  |bR=>cases bI;exact anv (fz I q (by simp))
  |bo j=>cases bI;exact ani (fz I q (by simp))
  |int j=>obtain⟨t',rfl⟩:=bI;exact anj (fz I q (by simp))
  |str j=>obtain⟨t',rfl⟩:=bI;exact eq_str (fz I q Qd)
  |_=>exact bB (show false=true from hs) fb
 |kV i=>
  obtain⟨t,rfl⟩:=bt
  cases y with
  |kV j=>obtain⟨t',rfl⟩:=bI;exact PySem.W.eq_bytes (fz I q Qe)
  |_=>exact bB (show false=true from hs) fb
 |_=>cases y<;>exact bB (show false=true from hs) fb
theorem rY:fQ X (hv .NotEq) akN:=by
 intro pins s σ H x y v u Q I bt bI h
 obtain⟨hs,q⟩:=h
 cases x with
 |bR=>
  cases bt
  cases y with
  |bR=>cases bI;exact anB (fz I q (by simp))
  |bo j=>cases bI;exact anz (fz I q (by simp))
  |int j=>obtain⟨t',rfl⟩:=bI;exact anA (fz I q (by simp))
  |str j=>obtain⟨t',rfl⟩:=bI;exact anC (fz I q (by simp))
  |_=>exact bB (show false=true from hs) fb
 |bo i=>
  cases bt
  cases y with
  |bR=>cases bI;exact anw (fz I q (by simp))
  |bo j=>cases bI;exact ne_bool (fz I q (eK not QD))
  |str j=>obtain⟨t',rfl⟩:=bI;exact ank (fz I q (by simp))
  |_=>exact bB (show false=true from hs) fb
 |int i=>
  obtain⟨t,rfl⟩:=bt
  cases y with
  |bR=>cases bI;exact anx (fz I q (by simp))
  |int j=>obtain⟨t',rfl⟩:=bI;exact ne_int (fz I q (eK not OL))
  |str j=>obtain⟨t',rfl⟩:=bI;exact anl (fz I q (by simp))
  |_=>exact bB (show false=true from hs) fb
 |str i=>
  obtain⟨t,rfl⟩:=bt
  cases y with
  |bR=>cases bI;exact anD (fz I q (by simp))
  |bo j=>cases bI;exact anm (fz I q (by simp))
  |int j=>obtain⟨t',rfl⟩:=bI;exact ano (fz I q (by simp))
  |str j=>obtain⟨t',rfl⟩:=bI;exact ne_str (fz I q (eK not Qd))
  |_=>exact bB (show false=true from hs) fb
 |kV i=>
  obtain⟨t,rfl⟩:=bt
  cases y with
  |kV j=>obtain⟨t',rfl⟩:=bI;exact PySem.W.ne_bytes (fz I q (eK not Qe))
  |_=>exact bB (show false=true from hs) fb
 |_=>cases y<;>exact bB (show false=true from hs) fb
theorem Cn:fQ X (hv .Lt) (uh λi j=>.bo (decide (i<j))):=H6 λ_ _ _ _ _ _ _ q=>lt_int q
theorem uj:fQ X (hv .LtE) (uh λi j=>.bo (decide (i≤j))):=H6 λ_ _ _ _ _ _ _ q=>le_int q
theorem Ha:fQ X (hv .Gt) (uh λi j=>.bo (decide (j<i))):=H6 λ_ _ _ _ _ _ _ q=>gt_int q
theorem QJ:fQ X (hv .Is) (λx y H Q=>y=.bR∧Q (.bo (decide (x=.bR))) H):=by
 intro pins s σ H x y v u Q I bt bI h
 obtain⟨rfl,q⟩:=h
 cases bI
 refine is_none_gen (fz I q ?_)
 cases x<;>first
  | (cases bt;rfl)
  | (obtain⟨t,rfl⟩:=bt;rfl)
theorem Qf:fQ X (hv .IsNot) (λx y H Q=>y=.bR∧Q (.bo (!decide (x=.bR))) H):=by
 intro pins s σ H x y v u Q I bt bI h
 obtain⟨rfl,q⟩:=h
 cases bI
 refine isnot_none_gen (fz I q ?_)
 cases x<;>first
  | (cases bt;rfl)
  | (obtain⟨t,rfl⟩:=bt;rfl)
theorem fu(b:Expr){op:qY}(h:op≠.In:=by decide)(af:op≠.NotIn:=by decide):tb op b=false:=by
 have av:(op==CmpOp.In)=false:=by cases op<;>first|rfl|exact bB rfl h
 have ay:(op==CmpOp.NotIn)=false:=by cases op<;>first|rfl|exact bB rfl af
 cases b<;>simp[tb,av,ay]
theorem mP{op:qY}{r:gL}(a9:fQ X (hv op) r)(aH:bE X a b3)(U:bE X b cX)(hm:tb op b=false):bE X (.Compare a [op] [b] pos) (F0 r b3 cX):=by
 intro pins s σ H Q I h
 exact ame (H5 aH U I h λv u s2 x y ak bK bt bI q=>a9 pins s2 σ ak x y v u Q bK bt bI q) hm
noncomputable def RW(t:TE):TT:=λσ H Q=>t σ H λx H'=>Q4 x H' Q
theorem gf{op:qY}{r:gL}(a9:fQ X (hv op) r)(aH:bE X a b3)(U:bE X b cX)(hm:tb op b=false):kc X (.Compare a [op] [b] pos) (RW (F0 r b3 cX)):=by
 intro pins s σ H Q I h
 refine amj (bH (aH pins s σ H _ I h) λv s1⟨x,H1,aS,b6,bq⟩=>bH (U pins s1 σ H1 _ aS bq) λu s2⟨y,ak,bK,c8,cp⟩=>
  bH (a9 pins s2 σ ak x y v u _ bK b6 c8 cp) λc s3⟨z,bD,cT,uf,k,e,eH⟩=>?_) hm
 subst e
 cases uf
 exact oN ⟨bD,cT,eH⟩
noncomputable def QP(r cm:gL)(b3 cX mg:TE):TE:=λσ H Q=>b3 σ H λx H1=>cX σ H1 λy ak=>r x y ak λz bD=>∃k,z=.bo k∧
 (if k=true then mg σ bD λfO d0=>cm y fO d0 Q else Q (.bo false) bD)
theorem YE{op ue:qY}{r cm:gL}(a9:fQ X (hv op) r)(i3:fQ X (hv ue) cm)(aH:bE X a b3)(U:bE X b cX)(aF:bE X c mg)(hm:lastMarks [op,ue] [b,c]=false:=by with_unfolding_all rfl):bE X (.Compare a [op,ue] [b,c] pos) (QP r cm b3 cX mg):=by
 intro pins s σ H Q I h
 refine Compare_chain (bH (aH pins s σ H _ I h) λv s1⟨x,H1,aS,b6,bq⟩=>chain_link (bH (U pins s1 σ H1 _ aS bq) λu s2⟨y,ak,bK,c8,cp⟩=>
  bH (a9 pins s2 σ ak x y v u _ bK b6 c8 cp) λd s3⟨z,bD,cT,uf,k,e,eH⟩=>?_)) hm
 subst e
 cases uf
 refine oN ?_
 cases k with
 |false=>exact ite_ff ⟨.bo false,bD,cT,rfl,eH⟩
 |true=>exact ite_tt (chain_last (bH (aF pins s3 σ bD _ cT eH) λfO s4⟨dt,d0,iP,ug,iq⟩=>i3 pins s4 σ d0 y dt u fO Q iP c8 ug iq))
theorem NG{op ue:qY}{r cm:gL}(a9:fQ X (hv op) r)(i3:fQ X (hv ue) cm)(aH:bE X a b3)(U:bE X b cX)(aF:bE X c mg)(hm:lastMarks [op,ue] [b,c]=false:=by with_unfolding_all rfl):kc X (.Compare a [op,ue] [b,c] pos) (RW (QP r cm b3 cX mg)):=by
 intro pins s σ H Q I h
 refine isTrue_chain (bH (aH pins s σ H _ I h) λv s1⟨x,H1,aS,b6,bq⟩=>test_link (bH (U pins s1 σ H1 _ aS bq) λu s2⟨y,ak,bK,c8,cp⟩=>
  bH (a9 pins s2 σ ak x y v u _ bK b6 c8 cp) λd s3⟨z,bD,cT,uf,k,e,eH⟩=>?_)) hm
 subst e
 cases uf
 refine oN ?_
 cases k with
 |false=>
  obtain⟨wB,b5,c4⟩:=eH
  cases b5
  exact ite_ff ⟨bD,cT,c4⟩
 |true=>
  refine ite_tt (test_last (bH (aF pins s3 σ bD _ cT eH) λfO s4⟨dt,d0,iP,ug,iq⟩=>bH (i3 pins s4 σ d0 y dt u fO _ iP c8 ug iq) λd' s5⟨bL,bU,iQ,A4,k2,ay,akD⟩=>?_))
  subst ay
  cases A4
  exact oN ⟨bU,iQ,akD⟩
noncomputable def Sz(K:a3)(x:V)(H:ae)(k:Bool):Prop:=
 match x with
 |.bR=>k=false
 |.bo b=>k=b
 |.int i=>k=(i !=0)
 |.str y=>y.length≤sizeLine∧k=((y.length:Int) !=0)
 |.kV y=>y.size≤sizeLine∧k=((y.size:Int) !=0)
 |.ref p=>(∃xs,aR K H p xs∧k=!xs.isEmpty)∨(∃xs,b2 K H p xs∧k=!xs.isEmpty)∨∃kvs,H p=some (.ct kvs)∧k=!kvs.isEmpty
 |_=>False
theorem Zh{κ:Type}{kvs:List (κ×V)}{vs:List (κ×Value)}(r:f_ kvs vs):(!vs.isEmpty)=!kvs.isEmpty:=by
 cases r<;>rfl
theorem Xp{xs:List V}{its:List Value}(r:cj xs its):(!its.toArray.isEmpty)=!xs.isEmpty:=by
 cases r<;>simp
theorem t5:(sizeLine:Nat)<2 ^ 63:=by rw[qM];decide
theorem ab9:aem X (λx H Q=>∃k,Sz X.K x H k∧Q k H):=by
 intro pins s σ H x v Q I bt h
 obtain⟨k,e,q⟩:=h
 have ar:=t5
 have hs:sizeLine=16777216:=qM
 cases x with
 |bR=>
  cases bt
  have b5:k=false:=e
  subst b5
  exact truthy_none ⟨H,I,q⟩
 |bo b=>
  cases bt
  have b5:k=b:=e
  subst b5
  exact oN ⟨H,I,q⟩
 |int i=>
  obtain⟨t,rfl⟩:=bt
  have b5:k=(i !=0):=e
  subst b5
  exact PySem.P.truthy_int ⟨H,I,q⟩
 |str y=>
  obtain⟨t,rfl⟩:=bt
  obtain⟨aT,b5⟩:y.length≤sizeLine∧k=((y.length:Int) !=0):=e
  subst b5
  exact PySem.P.truthy_str (by omega) ⟨H,I.tok _,q⟩
 |kV y=>
  obtain⟨t,rfl⟩:=bt
  obtain⟨aT,b5⟩:y.size≤sizeLine∧k=((y.size:Int) !=0):=e
  subst b5
  exact PySem.W.truthy_bytes (by omega) ⟨H,I.tok _,q⟩
 |ref p=>
  cases bt
  have b5:(∃xs,aR X.K H p xs∧k=!xs.isEmpty)∨(∃xs,b2 X.K H p xs∧k=!xs.isEmpty)∨∃kvs,H p=some (.ct kvs)∧k=!kvs.isEmpty:=e
  rcases b5 with⟨xs,ao,b5⟩|⟨xs,ao,b5⟩|⟨kvs,ao,b5⟩
  .subst b5
   obtain⟨its,r,pl,bQ⟩:=I.list ao
   have hlen:=r.length
   exact wpAny_truthy_list pl.isList (by simp only[eC];omega) ⟨H,I.tok _,by rw[Xp r];exact q⟩
  .subst b5
   obtain⟨its,r,pl,bQ⟩:=I.tuple ao
   have hlen:=r.length
   exact truthy_tuple pl (by simp only[eC];omega) ⟨H,I.tok _,by rw[Xp r];exact q⟩
  .subst b5
   obtain⟨bQ,f7,vs,r,m⟩:kvs.length≤sizeLine∧(p==jP)=false∧∃vs,f_ kvs vs∧s.heap.DictOf (gV X.prog X.w) p vs:=I.bh p _ ao
   have hlen:kvs.length=vs.length:=iy r
   exact wpAny_truthy_dict f7 m (by omega) ⟨H,I.tok _,by rw[Zh r];exact q⟩
 |_=>exact(show False from e).elim
theorem Ú(aH:bE X a b3)(he:∀whole,Af a X.env whole=(do let v ←whole;r' a.pos;n7 [v] (truthy v))):
  kc X a (λσ H Q=>b3 σ H λx H'=>∃k,Sz X.K x H' k∧Q k H'):=by
 intro pins s σ H Q I h
 exact isTrue_plain (bH (aH pins s σ H _ I h) λv s1⟨x,H1,aS,b6,bq⟩=>ab9 pins s1 σ H1 x v Q aS b6 bq) (he _)
theorem Zi:fQ X (rh .Add) (λx y H Q=>∃i j,x=.str i∧y=.str j∧i.length+j.length≤sizeLine∧Q (.str (i++j)) H):=by
 intro pins s σ H x y v u Q I bt bI h
 obtain⟨i,j,rfl,rfl,bQ,q⟩:=h
 obtain⟨t,rfl⟩:=bt
 obtain⟨t',rfl⟩:=bI
 exact add_str (λt' a5=>⟨.str (i++j),H,I.tok _,⟨_,rfl⟩,q⟩) bQ
theorem vals1{x:V}{us:List Value}(r:cj [x] us):∃u,us=[u]∧RelV x u:=by
 cases r with
 |cons b6 c8=>cases c8;exact⟨_,rfl,b6⟩
theorem vals2{x y:V}{us:List Value}(r:cj [x,y] us):∃u fO,us=[u,fO]∧RelV x u∧RelV y fO:=by
 cases r with
 |cons b6 c8=>
  cases c8 with
  |cons uf ug=>cases ug;exact⟨_,_,rfl,b6,uf⟩
theorem ρ(aF:X.calm=true):jH X (.builtin "max") (λxs H Q=>∃i j,xs=[.int i,.int j]∧Q (.int (if j>i then j else i)) H):=by
 intro pins s σ H xs us Q I r h
 obtain⟨i,j,rfl,q⟩:=h
 obtain⟨u,fO,rfl,⟨t,rfl⟩,⟨t',rfl⟩⟩:=vals2 r
 refine max_two_ints (I.ok.hd aF) λh' a5 k=>⟨_,H,I.kept k,?_,q⟩
 by_cases aN:j>i
 .rw[aI aN,aI aN];exact⟨_,rfl⟩
 .rw[aD aN,aD aN];exact⟨_,rfl⟩
theorem ς:jH X (.type "int") (λxs H Q=>(∃i,xs=[.int i]∧Q (.int i) H)∨∃k,xs=[.bo k]∧Q (.int (if k then 1 else 0)) H):=by
 intro pins s σ H xs us Q I r h
 rcases h with⟨i,rfl,q⟩|⟨k,rfl,q⟩
 .obtain⟨u,rfl,t,rfl⟩:=vals1 r
  exact call_int_int ⟨.int i,H,I,⟨_,rfl⟩,q⟩
 .obtain⟨u,rfl,b6⟩:=vals1 r
  cases b6
  exact call_int_bool ⟨.int (if k then 1 else 0),H,I.tok _,⟨_,rfl⟩,q⟩
end
open PySem PySem.Spec PyProof.Rows
structure sx(h:Heap)(x au C:Addr)(mA:Str→Option Value):Prop where
 obj:h.get? x=some (s7 C au)
 ns:h.Ns1 au mA
 ne:au≠x
theorem τ{h:Heap}{au:Addr}{mA:Str→Option Value}(n:h.Ns1 au mA):∃dP,h.get? au=some dP∧∀name,H0 name dP=some (mA name):=by
 obtain⟨o,es,ep,a9,hd,aK,_,hm⟩:=n
 refine⟨o,a9,λname=>?_⟩
 have e:=hm name
 unfold nsFind findBy at e
 rw[←Array.find?_toList]at e
 unfold H0
 rw[hd]
 dsimp only
 split
 .rename_i y q
  rw[q]at e
  exact eK some e
 .rename_i q
  rw[q]at e
  have a:es.toList.any (·.refKey)=false:=by
   rw[List.any_eq_false]
   intro y aT
   obtain⟨z,t,aiF⟩:=aK y (Array.mem_toList_iff.mp aT)
   simp[DictEntry.refKey,aiF]
  have bx:¬es.toList.any (·.refKey)=true:=by rw[a];exact fb
  rw[aD bx]
  exact eK some e
theorem sx.look{h:Heap}{x au C:Addr}{mA:Str→Option Value}(I:sx h x au C mA):∃dP,PySem.W.InstAt h x (s7 C au) C (some dP)∧∀name,H0 name dP=some (mA name):=
 let⟨dP,a9,ar⟩:=τ I.ns
 ⟨dP,⟨I.obj,rfl,rfl,a9⟩,ar⟩
section
variable{prog:bT}{w:bJ}{A:c5}{E:Value→ax→Prop}{s:ax}{K:a3}{x au C f:Addr}{mA:Str→Option Value}{name:Str}{v:Value}
theorem ř{expr:Bool}{Q:Value→ax→Prop}(X:K.In s.heap)(I:sx s.heap x au C mA)(bf:vt K C name=true)(ef:sZ K C=true)(aH:c3 K (.ref C) name=some none)(bG:mA name=some v)(ajf:abA v=true)(h:Q v {s with toks:=s.toks+1}):
  aX (br prog w) A (getAttr (.ref x) name expr) Q E s:=by
 obtain⟨dP,J,ar⟩:=I.look
 exact PySem.W.get_value X J (So bf).1 (PySem.W.findObj_own ef aH rfl (by rw[ar,bG])) ajf h
theorem Þ{pl:Sem Bool}{Q:Value×List Value→ax→Prop}(X:K.In s.heap)(I:sx s.heap x au C mA)(bf:vt K C name=true)(hf:c3 K (.ref C) name=some (some (.ref f)))(cw:g8 K (.ref f)=true)(bG:mA name=none)(h:Q (.ref f,[.ref x]) s):
  aX (br prog w) A (vW (.ref x) name pl) Q E s:=by
 obtain⟨dP,J,ar⟩:=I.look
 exact PySem.W.method_fn X J (So bf).1 (So bf).2 hf (o_.mp cw) (by show(H0 name dP).map (·.isSome)=some false;rw[ar,bG];rfl) h
theorem Ś{ns:List Str}{Q:Unit→ax→Prop}(X:K.In s.heap)(I:sx s.heap x au C mA)(hs:c3 K (.ref C) "__setattr__"=some (some (.builtin "object.__setattr__")))(aQ:C4 K C=true)(cw:Sq K C name=some none)(ef:sZ K C=true)(hw:vu mA ns)(hsz:ns.length≤sizeLine)(h:∀h',sx h' x au C (λy=>if y=name then some v else mA y)→lB au s.heap h'→Q () {s with heap:=h',toks:=s.toks+2}):
  aX (br prog w) A (Bn (.ref x) name v) Q E s:=by
 obtain⟨dP,J,ar⟩:=I.look
 refine PySem.W.set_plain X J hs (PySem.W.osa_open (s:={s with toks:=s.toks+1}) (r:=none) X J aQ cw λb=>?_)
 obtain⟨cd,aF,kq⟩:=PySem.W.any_some ef
 have ao:s.heap.get? x=some ⟨.ref C,some au,.plain,#[]⟩:=I.obj
 refine aJ (bM (aJ (aJ (wpAny_loadPart ao (aJ (PySem.W.Looks.here (s:={s with toks:=s.toks+1}) (PySem.W.looks_clsIn X aF) ?_))))))
 rw[kq]
 refine bM (a:=some au) (aJ (bM (aJ ?_)))
 refine wpAny_nsSet1 (s:={s with toks:=s.toks+1}) I.ns λh' z8 iG=>?_
 obtain⟨akj,ahH,ahF,Lb,KS,KQ⟩:=z8.count (Ss name v hw)
 refine aJ (amk Lb (by rw[KS];exact akv (gm KQ (by rw[hS];omega))) ?_)
 exact bM (h _ ⟨(iG.2 _ (dG I.ne)).trans I.obj,z8,I.ne⟩ iG)
theorem ß{R:vv→ax→Prop}{vs:List Value}{kw:List (Str×Value)}(X:K.In s.heap)(hm:C1 K C=true)(aj:c3 K (.ref C) "__init__"=some (some (.ref f)))(hf:abF K (.ref f)=some (.type "function"))(h:nS (br prog w) (A.under (.builtin "type.__call__" ⟨.ref C::vs,kw⟩)) (.call (.ref f) ⟨.ref (s.heap.objs.size+1)::vs,kw⟩) (PySem.W.InitBack (s.heap.objs.size+1) R)
   {s with heap:=(s.heap.push q7).push (s7 C s.heap.objs.size)}):
  nS (br prog w) A (.call (.ref C) ⟨vs,kw⟩) R s:=by
 obtain⟨ef,g,d,t,os⟩:=s
 exact PySem.W.make_core (PySem.W.makes_of X hm) (yJ X aj) (λself=>abw X self hf) (.inl rfl) h
end
noncomputable def i6(f:Str)(v:V):List (Str×V)→List (Str×V)
 |[]=>[(f,v)]
 | (g,x)::r=>if g=f then(g,v)::r else(g,x)::i6 f v r
theorem Me(f g:Str)(v:V):∀fs:List (Str×V),(i6 f v fs).lookup g=if g=f then some v else fs.lookup g
 |[]=>by
  show q6 g [(f,v)]=_
  by_cases h:g=f
  .have U:(g==f)=true:=o_.mpr h
   simp only[q6,U,aI h]
  .have U:(g==f)=false:=vC.mpr h
   simp only[q6,U,aD h]
 | (k,x)::r=>by
  have ba:=Me f g v r
  rw[show i6 f v ((k,x)::r)=(if k=f then(k,v)::r else(k,x)::i6 f v r)from rfl]
  by_cases aK:k=f
  .rw[aI aK]
   by_cases h:g=k
   .have U:(g==k)=true:=o_.mpr h
    simp only[q6,U,aI (h.trans aK)]
   .have U:(g==k)=false:=vC.mpr h
    simp only[q6,U,aD (λe:g=f=>h (e.trans aK.symm))]
  .rw[aD aK]
   by_cases h:g=k
   .have U:(g==k)=true:=o_.mpr h
    simp only[q6,U,aD (λe:g=f=>aK (h.symm.trans e))]
   .have U:(g==k)=false:=vC.mpr h
    simp only[q6,U]
    exact ba
theorem Ak(f:Str)(v:V):∀fs:List (Str×V),f∈(i6 f v fs).map (·.1)∧∀g,g∈fs.map (·.1)→g∈(i6 f v fs).map (·.1)
 |[]=>⟨by simp[i6],λg h=>by simp at h⟩
 | (k,x)::r=>by
  obtain⟨k',mY⟩:=Ak f v r
  rw[show i6 f v ((k,x)::r)=(if k=f then(k,v)::r else(k,x)::i6 f v r)from rfl]
  by_cases aK:k=f
  .rw[aI aK]
   subst aK
   exact⟨by simp,λg h=>by simpa using h⟩
  .rw[aD aK]
   refine⟨?_,λg h=>?_⟩
   .rw[fX]
    exact nI _ k'
   .rw[fX]at h⊢
    rcases fy.mp h with e|e
    .exact fy.mpr (.inl e)
    .exact nI _ (mY g e)
theorem Mf(f:Str)(v:V):∀fs:List (Str×V),(i6 f v fs).length≤fs.length+1
 |[]=>by simp[i6]
 | (k,x)::r=>by
  have ba:=Mf f v r
  rw[show i6 f v ((k,x)::r)=(if k=f then(k,v)::r else(k,x)::i6 f v r)from rfl]
  by_cases aK:k=f
  .rw[aI aK,hS,hS];omega
  .rw[aD aK,hS,hS];omega
theorem iI.some_of{v:V}{o:Option Value}(r:iI (some v) o):∃u,o=some u∧RelV v u:=by
 cases o with
 |none=>exact(show False from r).elim
 |some u=>exact⟨u,rfl,r⟩
theorem iI.none_of{o:Option Value}(r:iI none o):o=none:=by
 cases o with
 |none=>rfl
 |some u=>exact(show False from r).elim
theorem υ{v:V}{u:Value}(r:RelV v u):abA u=true:=by
 cases v with
 |bR=>cases(show u=d5 from r);rfl
 |bo b=>cases(show u=Iv b from r);rfl
 |int i=>obtain⟨t,e⟩:=(show∃t,u=o6 i t from r);cases e;rfl
 |str x=>obtain⟨t,e⟩:=(show∃t,u=yO x t from r);cases e;rfl
 |kV b=>obtain⟨t,e⟩:=(show∃t,u=Value.bytes b t from r);cases e;rfl
 |tv b=>obtain⟨t,e⟩:=(show∃t,u=S0 b t from r);cases e;rfl
 |ref a=>cases(show u=da a from r);rfl
 |ty n=>cases(show u=s_ n from r);rfl
section
variable{P:bT}{w:bJ}{H H':ae}{h h':Heap}{a C au:Addr}{fs ahS:List (Str×V)}
theorem FJ(bh:fe P w H h)(e:H a=some (.ins C au fs)):∃mA,sx h a au C mA∧(∀f,iI (fs.lookup f) (mA f))∧vu mA (fs.map (·.1))∧fs.length≤1000∧H au=some (.own a):=by
 obtain⟨d,z,ne,ob,mA,n,r,q⟩:=(show eo P w H h a (.ins C au fs)from bh a _ e)
 exact⟨mA,⟨ob,n,ne⟩,r,q,z,d⟩
end
structure g5(K:a3)(C:Addr):Prop where
 akx:vt K C jW=true
 hd:sZ K C=true
 po:C4 K C=true
 aO:c3 K (.ref C) "__setattr__"=some (some (.builtin "object.__setattr__"))
theorem g5.get{K:a3}{C:Addr}(c:g5 K C)(f:Str):vt K C f=true:=c.akx
noncomputable def rO(K:a3)(C:Addr)(f:Str):Prop:=c3 K (.ref C) f=some none
theorem rO.alx{K:a3}{C:Addr}{f:Str}(n:rO K C f):Sq K C f=some none:=by
 unfold Sq
 rw[show c3 K (.ref C) f=some none from n]
 rfl
structure Meth(K:a3)(C:Addr)(m:Str)(f:Addr):Prop where
 at_:c3 K (.ref C) m=some (some (.ref f))
 fn:g8 K (.ref f)=true
 cN:o1 K (.ref f)=true
section
variable{X:bw}{pins:List (Addr×Obj)}{σ:St}{H:ae}{s:ax}{a C au:Addr}{fs:List (Str×V)}{f:Str}{v:V}{A:c5}{E:Value→ax→Prop}
theorem Zj{b:Bool}{Q:Value→ax→Prop}(I:Inv X pins σ H s)(e:H a=some (.ins C au fs))(c:g5 X.K C)(n:rO X.K C f)(l:fs.lookup f=some v)(h:∀u s',Inv X pins σ H s'→RelV v u→Q u s'):aX (br X.prog X.w) A (getAttr (.ref a) f b) Q E s:=by
 obtain⟨mA,O,r,_,_,_⟩:=FJ I.bh e
 obtain⟨u,cf,e4⟩:=iI.some_of (v:=v) (o:=mA f) (by rw[←l];exact r f)
 exact ř I.eV O (c.get f) c.hd n cf (υ e4) (h u _ (I.tok _) e4)
theorem Eu{m:Str}{g:Addr}{pl:Sem Bool}{Q:Value×List Value→ax→Prop}(I:Inv X pins σ H s)(e:H a=some (.ins C au fs))(c:g5 X.K C)(k:Meth X.K C m g)(l:fs.lookup m=none)(h:Q (.ref g,[.ref a]) s):aX (br X.prog X.w) A (vW (.ref a) m pl) Q E s:=by
 obtain⟨mA,O,r,_,_,_⟩:=FJ I.bh e
 have az:mA m=none:=iI.none_of (by rw[←l];exact r m)
 exact Þ I.eV O (c.get m) k.at_ k.fn az h
theorem Zk{y:V}{u:Value}{Q:Unit→ax→Prop}(I:Inv X pins σ H s)(e:H a=some (.ins C au fs))(c:g5 X.K C)(n:rO X.K C f)(ar:fs.length<1000)(bI:RelV y u)(h:∀s',Inv X pins σ (upd H a (.ins C au (i6 f y fs))) s'→Q () s'):aX (br X.prog X.w) A (Bn (.ref a) f u) Q E s:=by
 obtain⟨mA,O,r,wi,_,a9⟩:=FJ I.bh e
 have bQ:(fs.map (·.1)).length≤sizeLine:=by rw[bc,qM];omega
 refine Ś I.eV O c.aO c.po n.alx c.hd wi bQ λh' p3 bX=>h _ ?_
 have hd:∃o,h'.get? au=some o:=let⟨o,_,_,b5,_⟩:=p3.ns;⟨o,b5⟩
 refine I.write (x:=a) (e:=au) (by rw[e];exact lK) (.inr a9) (λb q U z=>(bX.2 b U).trans z) hd ?_
 refine⟨by rw[aG O.ne];exact a9,?_,O.ne,p3.obj,_,p3.ns,λg=>?_,λg bf=>?_⟩
 .have:=Mf f y fs;omega
 .show iI ((i6 f y fs).lookup g) (if g=f then some u else mA g)
  rw[Me]
  by_cases q:g=f
  .rw[aI q,aI q];exact bI
  .rw[aD q,aD q];exact r g
 .by_cases q:g=f
  .rw[q];exact(Ak f y fs).1
  .refine(Ak f y fs).2 g (wi g λz=>bf ?_)
   show(if g=f then some u else mA g)=none
   rw[aD q];exact z
theorem Inv.made(I:Inv X pins σ H s):Inv X pins σ (upd (upd H s.heap.objs.size (.own (s.heap.objs.size+1))) (s.heap.objs.size+1) (.ins C s.heap.objs.size []))
  {s with heap:=(s.heap.push q7).push (s7 C s.heap.objs.size)}:=by
 have av:(s.heap.push q7).get? s.heap.objs.size=some q7:=gD s.heap rfl
 have ay:((s.heap.push q7).push (s7 C s.heap.objs.size)).get? (s.heap.objs.size+1)=some (s7 C s.heap.objs.size):=by
  have:=gD (s.heap.push q7) (o:=s7 C s.heap.objs.size) rfl
  rwa [Cy]at this
 have cv:(s.heap.push q7).Ns s.heap.objs.size (λ_=>none):=⟨q7,#[],_,av,rfl,(λe he=>bB he (by simp)),λ_=>rfl⟩
 have aS:=I.laid (a:=s.heap.objs.size) (o:=.own (s.heap.objs.size+1)) (h':=s.heap.push q7) (t':=s.toks) (λb u q=>dy _ q) (b1 _) ⟨_,av⟩
 refine aS.laid (a:=s.heap.objs.size+1) (o:=.ins C s.heap.objs.size []) (t':=s.toks) (λb u q=>dy _ q) (HN (Cy _ _)) ?_
 have ne:s.heap.objs.size≠s.heap.objs.size+1:=en (yx _)
 refine⟨by rw[aG ne,a4],ea _,ne,ay,λ_=>none,(Ô cv).at λo q=>dy _ q,λ_=>lK,λy aT=>bB rfl aT⟩
theorem ś{prog:bT}{w:bJ}{env:Env}{e:Expr}{f:Str}{pos:Pos}{s:ax}{Q:Value→ax→Prop}(U:yS e f env (eval e env)=eval e env)(h:aX (br prog w) A (eval e env) (λo dw=>aX (br prog w) A (getAttr o f true) Q E dw) E s):aX (br prog w) A (eval (.Attribute e f pos) env) Q E s:=
 Attribute_any_ h (by rw[arm_eval_Attribute,U])
end
inductive aeq(K:a3)(f:Str)(x:V)(H:ae)(Q:bk):Prop where
 |mk (a C au:Addr) (fs:List (Str×V)) (v:V) (b4:x=.ref a) (bL:H a=some (.ins C au fs)) (cG:g5 K C) (c2:rO K C f) (dR:fs.lookup f=some v) (eW:Q v H)
noncomputable def aer(K:a3)(b3:TE)(f:Str):TE:=λσ H Q=>b3 σ H λx H1=>aeq K f x H1 Q
noncomputable def ad8(K:a3)(b3 jb:TE)(f:Str):eY:=λD σ H=>jb σ H λy H1=>b3 σ H1 λx ak=>∃a C au fs,x=.ref a∧ak a=some (.ins C au fs)∧g5 K C∧rO K C f∧fs.length<1000∧
 D.b' σ (upd ak a (.ins C au (i6 f y fs)))
section
variable{X:bw}{o e value:Expr}{f:Str}{pos pos' BD:Pos}{b3 jb:TE}
theorem ha(he:bE X e b3)(U:yS e f X.env (eval e X.env)=eval e X.env):bE X (.Attribute e f pos) (aer X.K b3 f):=by
 intro pins s σ H Q I h
 refine ś U (bH (he pins s σ H _ I h) λu s1⟨x,H1,aS,bt,a,C,au,fs,v,ex,bp,c,n,l,q⟩=>?_)
 subst ex
 obtain rfl:u=da a:=bt
 exact Zj aS bp c n l λu' s2 bK e4=>⟨v,H1,bK,e4,q⟩
theorem t2(aH:bE X o b3)(bG:bE X value jb)(hs:xl value (some (.Attribute o f pos')) pos.line X.env=pure false):gn X (.Assign [.Attribute o f pos'] value pos) (ad8 X.K b3 jb f):=by
 intro pins s σ H D I h
 refine akz (bH (bG pins s σ H _ I h) λu s1⟨y,H1,aS,bI,q⟩=>bH (aH pins s1 σ H1 _ aS q) λej s2⟨x,ak,bK,bt,a,C,au,fs,ex,bp,c,n,l,cp⟩=>?_) hs
 subst ex
 obtain rfl:ej=da a:=bt
 exact Zk bK bp c n l bI λs3 cT=>⟨σ,_,cT,cp⟩
theorem ana{pl:Sem Bool}{m:Str}{eZ:Pos}{args:List Expr}{pins:List (Addr×Obj)}{s:ax}{σ:St}{H:ae}{Q:Value→ax→Prop}{bY:TE}(he:bE X e bY)(I:Inv X pins σ H s)(h:bY σ H λx H1=>∃a C au fs g,x=.ref a∧H1 a=some (.ins C au fs)∧g5 X.K C∧Meth X.K C m g∧fs.lookup m=none∧
   ∀s1,Inv X pins σ H1 s1→aX (br X.prog X.w) X.A (yY pos (.ref g) [.ref a] (hq pos (dW args X.env)) (rg pos (rM [] X.env))) Q X.dj s1)(cw:eval (.Call (.Attribute e m eZ) args [] pos) X.env=(do
   let ej ←eval e X.env
   r' eZ.atName
   let(f,first) ←n7 [ej] (vW ej m pl)
   yY pos f first (hq pos (dW args X.env)) (rg pos (rM [] X.env)))):
  aX (br X.prog X.w) X.A (eval (.Call (.Attribute e m eZ) args [] pos) X.env) Q X.dj s:=by
 refine C2 (pl:=pl) (bH (he pins s σ H _ I h) λu s1⟨x,H1,aS,bt,a,C,au,fs,g,ex,bp,c,k,l,q⟩=>?_) cw
 subst ex
 obtain rfl:u=da a:=bt
 exact Eu aS bp c k l (q s1 aS)
end
section
variable{X:bw}{pins:List (Addr×Obj)}{σ:St}{H:ae}{s:ax}{A:c5}{E:Value→ax→Prop}{Q:Value→ax→Prop}{c:Value}{b:Bool}
inductive ma(K:a3)(H:ae):V→Value→Prop where
 |bR:ma K H .bR (.type "NoneType")
 |bo (x:Bool):ma K H (.bo x) (.type "bool")
 |int (i:Int):ma K H (.int i) (.type "int")
 |str (x:Str):ma K H (.str x) (.type "str")
 |tv (x:UInt64):ma K H (.tv x) (.type "float")
 |lst {a:Addr} {xs:List V} (e:H a=some (.lst xs)):ma K H (.ref a) (.type "list")
 |d9 {a:Addr} {o:Obj} {xs:List V} (e:H a=some (.d9 o (.lst xs))):ma K H (.ref a) (.type "list")
 |tup {a:Addr} {xs:List V} (e:H a=some (.tup xs)):ma K H (.ref a) (.type "tuple")
 |ct {a:Addr} {kvs:List (bj×V)} (e:H a=some (.ct kvs)):ma K H (.ref a) (.type "dict")
 |cE {a:Addr} {kvs:List (List bj×V)} (e:H a=some (.cE kvs)):ma K H (.ref a) (.type "dict")
 |ins {a C au:Addr} {fs:List (Str×V)} (e:H a=some (.ins C au fs)) (cl:g5 K C) (aH:c3 K (.ref C) "__class__"=some (some (.builtin "object.__class__")))
   (az:yK K (.builtin "object.__class__") "__get__"=some (some (.builtin "getset_descriptor.__get__"))) (Lm:Sr K (.builtin "object.__class__")=some true)
   (hm:C3 K C (.type "object")=some true):ma K H (.ref a) (.ref C)
theorem φ{x:V}{u t:Value}(I:Inv X pins σ H s)(bt:RelV x u)(ty:ma X.K H x t)(e:yI X.K t c=some b)(h:∀a5,Q (.bool b) {s with toks:=a5}):
  aX (br X.prog X.w) A (call (.builtin "isinstance") [u,c]) Q E s:=by
 cases ty with
 |bR=>cases(show u=d5 from bt);exact o2 PySem.W.kitx_none I.eV lK e (λz=>nomatch z) h
 |bo y=>cases(show u=Iv y from bt);exact o2 PySem.W.kitx_bool I.eV lK e (λz=>nomatch z) h
 |int i=>obtain⟨t,q⟩:=(show∃t,u=o6 i t from bt);cases q;exact o2 PySem.W.kitx_int I.eV lK e (λz=>nomatch z) h
 |str y=>obtain⟨t,q⟩:=(show∃t,u=yO y t from bt);cases q;exact o2 PySem.W.kitx_str I.eV lK e (λz=>nomatch z) h
 |tv y=>obtain⟨t,q⟩:=(show∃t,u=S0 y t from bt);cases q;exact o2 PySem.W.kitx_float I.eV lK e (λz=>nomatch z) h
 |@lst a xs bp=>
  cases(show u=da a from bt)
  obtain⟨_,_,n,_,ag⟩:=(show eo X.prog X.w H s.heap a (.lst xs)from I.bh a _ bp)
  exact o2 abD I.eV ⟨_,ag,rfl⟩ e (λz=>nomatch z) h
 |@d9 a ob xs bp=>
  cases(show u=da a from bt)
  obtain⟨_,_,_,n,_,ag⟩:=(show eo X.prog X.w H s.heap a (.d9 ob (.lst xs))from I.bh a _ bp)
  exact o2 abD I.eV ⟨_,ag,rfl⟩ e (λz=>nomatch z) h
 |@tup a xs bp=>
  cases(show u=da a from bt)
  obtain⟨_,_,_,p⟩:=(show eo X.prog X.w H s.heap a (.tup xs)from I.bh a _ bp)
  obtain⟨o,ag,af,_⟩:=p
  exact o2 PySem.W.kitx_tuple I.eV ⟨o,ag,af⟩ e (λz=>nomatch z) h
 |@ct a kvs bp=>
  cases(show u=da a from bt)
  obtain⟨_,_,vs,_,p⟩:=(show eo X.prog X.w H s.heap a (.ct kvs)from I.bh a _ bp)
  obtain⟨o,es,ep,ag,af,_⟩:=p
  exact o2 abC I.eV ⟨o,ag,af.1⟩ e (λz=>nomatch z) h
 |@cE a kvs bp=>
  cases(show u=da a from bt)
  obtain⟨_,_,xs,_,o,es,ep,ag,af,_⟩:=(show eo X.prog X.w H s.heap a (.cE kvs)from I.bh a _ bp)
  exact o2 abC I.eV ⟨o,ag,af.1⟩ e (λz=>nomatch z) h
 |@ins a C au fs bp cl aH az Lm hm=>
  cases(show u=da a from bt)
  obtain⟨mA,O,_⟩:=FJ I.bh bp
  obtain⟨dP,J,_⟩:=O.look
  exact o2 (PySem.W.kitx_own (cl.get _) cl.hd aH az Lm hm) I.eV J e (λz=>nomatch z) h
end
open PySem PySem.Spec PyProof.Rows
structure fU(k:Nat)(A:c5):Prop where
 hd:A.handled=none
 Dh:A.depth+3*k+5<recursionLimit
 un:A.units+16*k+200<cLine
theorem fU.mono{j k:Nat}{A:c5}(r:fU k A)(h:j≤k):fU j A:=⟨r.hd,by have:=r.Dh;omega,by have:=r.un;omega⟩
theorem fU.deeper{k:Nat}{A:c5}(r:fU (k+1) A)(env:Env):fU k (A.deeper env):=
 ⟨r.hd,by have:=r.Dh;show A.depth+1+3*k+5<_;omega,by have:=r.un;show A.units+3+16*k+200<_;omega⟩
theorem Zl{A:c5}{C:Addr}{us:List Value}{kw:List (Str×Value)}:(A.under (.builtin "type.__call__" ⟨.ref C::us,kw⟩)).depth=A.depth+1:=by
 first|rfl|simp[PR,Code.weight,Code.isCreation,Code.isGuard,Code.isCaller,Code.frames,P2,guardIds]
theorem Zm{A:c5}{C:Addr}{us:List Value}{kw:List (Str×Value)}:(A.under (.builtin "type.__call__" ⟨.ref C::us,kw⟩)).units=A.units+1:=by
 first|rfl|simp[PR,Code.cUnits,Code.frames,P2]
theorem fU.make{k:Nat}{A:c5}(r:fU (k+1) A)(C:Addr)(us:List Value)(kw:List (Str×Value)):fU k (A.under (.builtin "type.__call__" ⟨.ref C::us,kw⟩)):=
 ⟨r.hd,by have:=r.Dh;rw[Zl];omega,by have:=r.un;rw[Zm];omega⟩
theorem fU.depth{k:Nat}{A:c5}(r:fU k A):A.depth<recursionLimit:=by have:=r.Dh;omega
theorem fU.units{k:Nat}{A:c5}(r:fU k A):A.units+64<cLine:=by have:=r.un;omega
noncomputable def H8:fY:=λ_ H Q=>Q [] H
noncomputable def xo(b3:TE)(hg:fY):fY:=λσ H Q=>b3 σ H λx H1=>hg σ H1 λxs ak=>Q (x::xs) ak
section
variable{X:bw}{e:Expr}{es:List Expr}{bY:TE}{t:fY}{pos:Pos}
theorem a8:hj X [] H8:=λ_ _ _ _ H Q I h=>GY ⟨[],H,I,.nil,h⟩
theorem aB(aH:bE X e bY)(aw:hj X es t)(hs:dW (e::es) X.env=(false,eval e X.env)::dW es X.env:=by rfl):hj X (e::es) (xo bY t):=by
 intro pos pins s σ H Q I h
 rw[hs]
 show aX _ _ (spliced ((false,eval e X.env)::hq pos (dW es X.env))) _ _ s
 refine xC (bH (aH pins s σ H _ I h) λu s1⟨x,H1,aS,b6,bq⟩=>?_)
 exact bH (aw pos pins s1 σ H1 _ aS bq) λus s2⟨xs,ak,bK,c8,cp⟩=>⟨x::xs,ak,bK,.cons b6 c8,cp⟩
noncomputable def ad9(t:fY):TE:=λσ H Q=>t σ H λxs H1=>xs.length≤sizeLine∧∀p,H1 p=none→Q (.ref p) (upd H1 p (.tup xs))
noncomputable def SA(t:fY):TE:=λσ H Q=>t σ H λxs H1=>xs.length≤sizeLine∧∀p,H1 p=none→Q (.ref p) (upd H1 p (.lst xs))
theorem hu{gB}(h:hj X es t):bE X (.Tuple es gB pos) (ad9 t):=by
 intro pins s σ H Q I bg
 refine wpAny_Tuple_spliced (bH (h pos pins s σ H _ I bg) λus s1⟨xs,H1,aS,r,z,q⟩=>⟨by rw[←r.length];exact z,?_⟩)
 have hf:H1 s1.heap.objs.size=none:=aS.bh.fresh (b1 _)
 refine⟨.ref s1.heap.objs.size,upd H1 s1.heap.objs.size (.tup xs),aS.laid (t':=s1.toks) (λb u e=>dy _ e) (b1 _) ?_,rfl,q _ hf⟩
 exact⟨z,us,r,⟨_,gD _ rfl,rfl,_,rfl⟩⟩
theorem k7(h:hj X es t):bE X (.List es pos) (SA t):=by
 intro pins s σ H Q I bg
 refine wpAny_List_spliced (bH (h pos pins s σ H _ I bg) λus s1⟨xs,H1,aS,r,z,q⟩=>⟨by rw[←r.length];exact z,?_⟩)
 have hf:H1 s1.heap.objs.size=none:=aS.bh.fresh (b1 _)
 refine⟨.ref s1.heap.objs.size,upd H1 s1.heap.objs.size (.lst xs),aS.laid (t':=s1.toks) (λb u e=>dy _ e) (b1 _) ?_,rfl,q _ hf⟩
 exact⟨z,us,0,r,gD _ rfl⟩
end
noncomputable abbrev cW:=List V→ae→bk→cy→Prop
noncomputable abbrev lz:=List Env→ae→ax→cy→Value→ax→Prop
structure sy(P:bT)(w:bJ)(K:a3)(aa:Str→Option Value)(base:Heap)(A:c5)(outer:List Env)(s:ax)(H:ae):Prop where
 frames:A.frames=some outer
 mod:Mod K aa base
 bs:∀b o,base.get? b=some o→s.heap.get? b=some o∧H b=none
 pa:base.objs.size≤s.heap.objs.size
 jk:s.heap.FunFrames base outer
 qf:∀b∈fG outer,H b=none
 bh:fe P w H s.heap
 bare:pU s.gens
noncomputable def GW(outer:List Env)(P:bT)(w:bJ)(H:ae)(s:ax)(Q:bk)(u:Value)(s':ax):Prop:=
 ∃v H',s'.os=s.os∧pU s'.gens∧hk (fG outer) [] H H' s.heap s'.heap∧fe P w H' s'.heap∧RelV v u∧Q v H'
noncomputable def ZY(CX:lz)(outer:List Env)(P:bT)(w:bJ)(H:ae)(s:ax)(Q:bk)(E:cy)(r:vv)(s':ax):Prop:=
 match r with
 |.ok (.ret u)=>GW outer P w H s Q u s'
 |.ok _=>False
 |.error e=>CX outer H s E e s'
structure aY(P:bT)(w:bJ)(K:a3)(aa:Str→Option Value)(base:Heap)(CX:lz)(k:Nat)(f:Addr)(fd:cP)(ps:List Str)(sp:cW):Prop where
 len:∀vs H Q E,sp vs H Q E→vs.length=ps.length
 run:∀(A:c5)(outer:List Env)(s:ax)(H:ae)(args:Args)(us:List Value)(vs:List V)(Q:bk)(E:cy),fU k A→sy P w K aa base A outer s H→xA s fd args (ps.zip us)→cj vs us→sp vs H Q E→
  nS (br P w) A (.call (.ref f) args) (ZY CX outer P w H s Q E) s
theorem aY.imp{P:bT}{w:bJ}{K:a3}{aa:Str→Option Value}{base:Heap}{CX:lz}{k:Nat}{f:Addr}{fd:cP}{ps:List Str}{sp Xl:cW}(F:aY P w K aa base CX k f fd ps sp)(h:∀vs H Q E,Xl vs H Q E→sp vs H Q E):aY P w K aa base CX k f fd ps Xl:=
 ⟨λvs H Q E q=>F.len vs H Q E (h _ _ _ _ q),λA outer s H args us vs Q E aw he U bG hs=>F.run A outer s H args us vs Q E aw he U bG (h _ _ _ _ hs)⟩
theorem sy.make{P:bT}{w:bJ}{K:a3}{aa:Str→Option Value}{base:Heap}{A:c5}{outer:List Env}{s:ax}{H:ae}(e:sy P w K aa base A outer s H)(C:Addr)(us:List Value)(kw:List (Str×Value)):
  sy P w K aa base (A.under (.builtin "type.__call__" ⟨.ref C::us,kw⟩)) outer s H:=⟨by first|exact e.frames|(simpa[PR,Code.envs,P2,pushEnvs]using e.frames),e.mod,e.bs,e.pa,e.jk,e.qf,e.bh,e.bare⟩
section
variable{X:bw}{pins:List (Addr×Obj)}{σ:St}{H:ae}{s s':ax}
theorem Inv.Dn(I:Inv X pins σ H s):sy X.prog X.w X.K X.aa X.base X.A X.stack s H:=
 ⟨I.ok.frames,I.ok.mod,I.bs,gm I.ok.pa I.i_,I.stack,I.FX,I.bh,I.bare⟩
theorem Inv.after{Q:bk}{u:Value}(I:Inv X pins σ H s)(h:GW X.stack X.prog X.w H s Q u s'):hh X pins σ Q u s':=by
 obtain⟨v,H',os,bare,un,bh,r,q⟩:=h
 obtain⟨ef,g,d,t,akq⟩:=s'
 obtain rfl:akq=s.os:=os
 exact⟨v,H',I.call (h':=ef) (g':=g) (d':=d) (t':=t) (ch:=[]) un bh bare (λb z=>bB z (by simp)),r,q⟩
end
noncomputable def acW(sp:cW)(ih:List V)(E:cy)(t:fY):TE:=λσ H Q=>t σ H λvs H1=>sp (vs++ih) H1 Q E
inductive adm(C:Addr)(m:Str)(x:V)(H:ae)(R:Prop):Prop where
 |mk (a au:Addr) (fs:List (Str×V)) (b4:x=.ref a) (bL:H a=some (.ins C au fs)) (cG:fs.lookup m=none) (c2:R)
noncomputable def Hg(C:Addr)(m:Str)(sp:cW)(ih:List V)(E:cy)(b3:TE)(t:fY):TE:=λσ H Q=>b3 σ H λx H1=>adm C m x H1 (t σ H1 λvs ak=>sp (x::(vs++ih)) ak Q E)
noncomputable def adn(C:Addr)(sp:cW)(ih:List V)(E:cy)(t:fY):TE:=λσ H Q=>t σ H λvs H1=>∀x au,H1 x=none→H1 au=none→au≠x→
 sp (.ref x::(vs++ih)) (upd (upd H1 au (.own x)) x (.ins C au [])) (λv ak=>v=.bR∧Q (.ref x) ak) E
noncomputable def Binds(K:a3)(fd:cP)(ps:List Str)(ds:List Value):Prop:=
 ∀(s:ax)(us:List Value),K.In s.heap→(us++ds).length=ps.length→xA s fd ⟨us,[]⟩ (ps.zip (us++ds))
theorem Binds.all{K:a3}{fd:cP}{ps:List Str}(h:∀us:List Value,us.length=ps.length→bindArgs fd ⟨us,[]⟩=pure (ps.zip us)):Binds K fd ps []:=λs us _ ar=>by
 rw[jS]at ar⊢
 exact .of_eq (h us ar)
noncomputable def pD(CX:lz)(X:bw)(E:cy):Prop:=∀(pins:List (Addr×Obj))(σ:St)(H:ae)(s:ax)(e:Value)(s':ax),Inv X pins σ H s→CX X.stack H s E e s'→X.dj e s'
section
variable{X:bw}{CX:lz}{k:Nat}{f C:Addr}{fd:cP}{ps:List Str}{sp:cW}{ih:List V}{ds:List Value}{E:cy}{x m:Str}{p pos eZ:Pos}{e o:Expr}{es:List Expr}{b3:TE}{t:fY}
theorem Gy{pins:List (Addr×Obj)}{σ:St}{H:ae}{s:ax}{Q:bk}{us:List Value}{vs:List V}(F:aY X.prog X.w X.K X.aa X.base CX k f fd ps sp)(aw:fU k X.A)(U:Binds X.K fd ps ds)(hd:cj ih ds)(ao:pD CX X E)(I:Inv X pins σ H s)(r:cj vs us)(h:sp (vs++ih) H Q E):aX (br X.prog X.w) X.A (call (.ref f) us) (hh X pins σ Q) X.dj s:=by
 have c8:cj (vs++ih) (us++ds):=r.append hd
 have ar:(us++ds).length=ps.length:=by rw[←c8.length];exact F.len _ _ _ _ h
 refine si (tg (F.run X.A X.stack s H ⟨us,[]⟩ (us++ds) (vs++ih) Q E aw I.Dn (U s us I.eV ar) c8 h) λr s' bg=>?_)
 cases r with
 |error e=>exact ao pins σ H s e s' I bg
 |ok fB=>
  cases fB with
  |ret u=>exact I.after bg
  |next=>exact hQ bg
  |brk=>exact hQ bg
  |cont=>exact hQ bg
theorem fT(F:aY X.prog X.w X.K X.aa X.base CX k f fd ps sp)(aw:fU k X.A)(bf:jA X x)(hm:X.aa x=some (.ref f))(aK:o1 X.K (.ref f)=true)(U:Binds X.K fd ps ds)(hd:cj ih ds)(ao:pD CX X E)(aH:hj X (e::es) t)(jG:(x==("__debug__":Str))=false:=by decide)(he:dW (e::es) X.env=(false,eval e X.env)::dW es X.env:=by rfl)(fm:(hq pos (dW es X.env)).any (·.1)=false:=by rfl):
  bE X (.Call (.Name x p) (e::es) [] pos) (acW sp ih E t):=by
 intro pins s σ H Q I h
 refine Gi (tM I bf hm ?_ jG)
 refine C0 (h₀:=X.base) I.ok.mod.rN aK (bH (aH pos pins s σ H _ I h) λus s1⟨vs,H1,aS,r,q⟩=>⟨aS.eV,?_⟩) he fm
 exact Gy F aw U hd ao aS r q
theorem hU{pl:Sem Bool}(he:bE X o b3)(c:g5 X.K C)(hm:Meth X.K C m f)(F:aY X.prog X.w X.K X.aa X.base CX k f fd ps sp)(aw:fU k X.A)(U:Binds X.K fd ps ds)(hd:cj ih ds)(ao:pD CX X E)(aH:hj X (e::es) t)(kr:dW (e::es) X.env=(false,eval e X.env)::dW es X.env:=by rfl)(fm:(hq pos (dW es X.env)).any (·.1)=false:=by rfl)(cw:eval (.Call (.Attribute o m eZ) (e::es) [] pos) X.env=(do
   let ej ←eval o X.env
   r' eZ.atName
   let(f,first) ←n7 [ej] (vW ej m pl)
   yY pos f first (hq pos (dW (e::es) X.env)) (rg pos (rM [] X.env))):=by rfl):
  bE X (.Call (.Attribute o m eZ) (e::es) [] pos) (Hg C m sp ih E b3 t):=by
 intro pins s σ H Q I h
 refine C2 (pl:=pl) (bH (he pins s σ H _ I h) λu s1⟨x,H1,aS,bt,a,au,fs,ex,bp,l,q⟩=>?_) cw
 subst ex
 obtain rfl:u=da a:=bt
 refine Eu aS bp c hm l ?_
 refine C0 (first:=[.ref a]) (h₀:=X.base) I.ok.mod.rN hm.cN (bH (aH pos pins s1 σ H1 _ aS q) λus s2⟨vs,ak,bK,r,cp⟩=>⟨bK.eV,?_⟩) kr fm
 exact Gy (us:=.ref a::us) (vs:=.ref a::vs) F aw U hd ao bK (.cons rfl r) cp
theorem Ax{pl:Sem Bool}(he:bE X o b3)(c:g5 X.K C)(hm:Meth X.K C m f)(F:aY X.prog X.w X.K X.aa X.base CX k f fd ps sp)(aw:fU k X.A)(U:Binds X.K fd ps ds)(hd:cj ih ds)(ao:pD CX X E)(cw:eval (.Call (.Attribute o m eZ) [] [] pos) X.env=(do
   let ej ←eval o X.env
   r' eZ.atName
   let(f,first) ←n7 [ej] (vW ej m pl)
   yY pos f first (hq pos (dW [] X.env)) (rg pos (rM [] X.env))):=by rfl):
  bE X (.Call (.Attribute o m eZ) [] [] pos) (Hg C m sp ih E b3 H8):=by
 intro pins s σ H Q I h
 refine C2 (pl:=pl) (bH (he pins s σ H _ I h) λu s1⟨x,H1,aS,bt,a,au,fs,ex,bp,l,q⟩=>?_) cw
 subst ex
 obtain rfl:u=da a:=bt
 refine Eu aS bp c hm l ?_
 exact PySem.W.callWith_K0 (first:=[.ref a]) aS.eV hm.cN (Gy (us:=[.ref a]) (vs:=[.ref a]) F aw U hd ao aS (.cons rfl .nil) q)
structure oY(K:a3)(C f:Addr):Prop where
 makes:C1 K C=true
 init:c3 K (.ref C) "__init__"=some (some (.ref f))
 fn:g8 K (.ref f)=true
 cN:o1 K (.ref C)=true
theorem á{pins:List (Addr×Obj)}{σ:St}{H:ae}{s:ax}{Q:bk}{us:List Value}{vs:List V}(M:oY X.K C f)(F:aY X.prog X.w X.K X.aa X.base CX k f fd ps sp)(aw:fU (k+1) X.A)(U:Binds X.K fd ps ds)(hd:cj ih ds)(ao:pD CX X E)(I:Inv X pins σ H s)(r:cj vs us)(h:∀x au,H x=none→H au=none→au≠x→sp (.ref x::(vs++ih)) (upd (upd H au (.own x)) x (.ins C au [])) (λv ak=>v=.bR∧Q (.ref x) ak) E):
  aX (br X.prog X.w) X.A (call (.ref C) us) (hh X pins σ Q) X.dj s:=by
 have bg:=h (s.heap.objs.size+1) s.heap.objs.size (I.bh.fresh (vk _)) (I.bh.fresh (b1 _)) (en (yx _))
 have bK:=Inv.made (C:=C) I
 have c8:cj (V.ref (s.heap.objs.size+1)::(vs++ih)) (da (s.heap.objs.size+1)::(us++ds)):=.cons rfl (r.append hd)
 have ar:(da (s.heap.objs.size+1)::us++ds).length=ps.length:=by
  have e:=c8.length
  rw[F.len _ _ _ _ bg]at e
  exact e.symm
 refine si (ß (f:=f) I.eV M.makes M.init (o_.mp M.fn) (tg (F.run _ X.stack _ _ ⟨da (s.heap.objs.size+1)::us,[]⟩ (da (s.heap.objs.size+1)::(us++ds)) _ _ E (aw.make C us [])
  (bK.Dn.make C us []) (U _ (da (s.heap.objs.size+1)::us) bK.eV ar) c8 bg) λr s' n8=>?_))
 cases r with
 |error e=>exact ao pins σ _ _ e s' bK n8
 |ok fB=>
  cases fB with
  |ret u=>
   obtain⟨v,H',cT,b7,ev,eH⟩:=bK.after n8
   subst ev
   exact⟨b7,⟨V.ref (s.heap.objs.size+1),H',cT,rfl,eH⟩⟩
  |next=>exact hQ n8
  |brk=>exact hQ n8
  |cont=>exact hQ n8
theorem FK(M:oY X.K C f)(F:aY X.prog X.w X.K X.aa X.base CX k f fd ps sp)(aw:fU (k+1) X.A)(bf:jA X x)(hm:X.aa x=some (.ref C))(U:Binds X.K fd ps ds)(hd:cj ih ds)(ao:pD CX X E)(aH:hj X (e::es) t)(jG:(x==("__debug__":Str))=false:=by decide)(he:dW (e::es) X.env=(false,eval e X.env)::dW es X.env:=by rfl)(fm:(hq pos (dW es X.env)).any (·.1)=false:=by rfl):
  bE X (.Call (.Name x p) (e::es) [] pos) (adn C sp ih E t):=by
 intro pins s σ H Q I h
 refine Gi (tM I bf hm ?_ jG)
 refine C0 (h₀:=X.base) I.ok.mod.rN M.cN (bH (aH pos pins s σ H _ I h) λus s1⟨vs,H1,aS,r,q⟩=>⟨aS.eV,?_⟩) he fm
 exact á M F aw U hd ao aS r q
end
structure dT(N P:List Str)(sc:Scope):Prop where
 kind:sc.kind=.function
 co:sc.isCoroutine=false
 gen:sc.isGenerator=false
 aE:N.Nodup
 pre:N.take P.length=P
 par:∀x∈P,sc.names.lookup x=some .local∨sc.names.lookup x=some .cell
 aj9:∀y∈sc.names,y.2≠.free
theorem XN{kindOf:Str→Option sV}{x:Str}:∀{binds:List (Str×Value)}{m:Str→Option Value},(∀v,(x,v)∉binds)→td kindOf binds m x=m x
 |[],_,_=>rfl
 | (n,v)::r,m,h=>by
  unfold td
  rw[XN λw hw=>h w (nI _ hw)]
  split
  .have:x≠n:=by rintro rfl;exact h v sT
   simp[this]
  .rfl
theorem XO{kindOf:Str→Option sV}{x:Str}:∀{binds:List (Str×Value)}{m:Str→Option Value},(∀v,(x,v)∉binds)→tc kindOf binds m x=m x
 |[],_,_=>rfl
 | (n,v)::r,m,h=>by
  unfold tc
  rw[XO λw hw=>h w (nI _ hw)]
  split
  .rfl
  .have:x≠n:=by rintro rfl;exact h v sT
   simp[this]
theorem XP{kindOf:Str→Option sV}{x:Str}{v:Value}:∀{P:List Str}{vs:List Value}{i:Nat}{m:Str→Option Value},P.Nodup→P[i]?=some x→vs[i]?=some v→kindOf x=some .local→
  td kindOf (P.zip vs) m x=some v
 |[],_,_,_,_,h,_,_=>by simp at h
 |_::_,[],_,_,_,_,h,_=>by simp at h
 |p::P,w::vs,0,m,aE,ag,af,aK=>by
  simp at ag af;subst ag;subst af
  show td kindOf ((p,w)::P.zip vs) m p=_
  unfold td
  rw[XN λv bG=>(jU.mp aE).1 (RL bG).1,aI aK]
  simp
 |p::P,w::vs,i+1,m,aE,ag,af,aK=>by
  show td kindOf ((p,w)::P.zip vs) m x=_
  unfold td
  exact XP (i:=i) (jU.mp aE).2 (by simpa using ag) (by simpa using af) aK
theorem XQ{kindOf:Str→Option sV}{x:Str}{v:Value}:∀{P:List Str}{vs:List Value}{i:Nat}{m:Str→Option Value},P.Nodup→P[i]?=some x→vs[i]?=some v→kindOf x≠some .local→
  tc kindOf (P.zip vs) m x=some v
 |[],_,_,_,_,h,_,_=>by simp at h
 |_::_,[],_,_,_,_,h,_=>by simp at h
 |p::P,w::vs,0,m,aE,ag,af,aK=>by
  simp at ag af;subst ag;subst af
  show tc kindOf ((p,w)::P.zip vs) m p=_
  unfold tc
  rw[XO λv bG=>(jU.mp aE).1 (RL bG).1,aD aK]
  simp
 |p::P,w::vs,i+1,m,aE,ag,af,aK=>by
  show tc kindOf ((p,w)::P.zip vs) m x=_
  unfold tc
  exact XQ (i:=i) (jU.mp aE).2 (by simpa using ag) (by simpa using af) aK
noncomputable def start(N:List Str)(vs:List V):St:=vs.map some++yv (N.length-vs.length) none
noncomputable def j6(CX:lz)(P:bT)(w:bJ)(K:a3)(aa:Str→Option Value)(base:Heap)(N:List Str)(b_:Str)(scope:Scope)(f:Addr)(cd:Value)(A:c5)(outer:List Env)(s:ax)(H:ae)(E:cy):bw where
 prog:=P
 w:=w
 K:=K
 aa:=aa
 base:=base
 A:=A.deeper (ph b_ scope s.heap.objs.size f cd)
 N:=N
 hN:=s
 kP:=H
 env:=ph b_ scope s.heap.objs.size f cd
 outer:=outer
 stack:=ph b_ scope s.heap.objs.size f cd::outer
 ex:=[]
 calm:=true
 fn:=λ_=>true
 ey:=[]
 dj:=λe s'=>aX (br P w) (A.deeper (ph b_ scope s.heap.objs.size f cd)) (leaving (ph b_ scope s.heap.objs.size f cd) e) (λ_ NM=>CX outer H s E e NM) (λb5 NM=>CX outer H s E b5 NM) s'
theorem YF{sc:Scope}{n:Nat}{x:Str}(h:sc.names.lookup x=some .cell):∃c,(Td n sc.names []).lookup x=some c:=by
 have q:=abx sc.names n [] (.inl h)
 exact yB.mp q
theorem χ{CX:lz}{P:bT}{w:bJ}{K:a3}{aa:Str→Option Value}{base:Heap}{N ps:List Str}{b_:Str}{scope:Scope}{f:Addr}{cd:Value}{A:c5}{outer:List Env}{s s1:ax}{H:ae}{E:cy}{us:List Value}{vs:List V}(S:dT N ps scope)(hd:A.handled=none)(cF:sy P w K aa base A outer s H)(ar:vs.length=ps.length)(r:cj vs us)(x:InCallC s s.heap.objs.size (td (ph b_ scope s.heap.objs.size f cd).kindOf (ps.zip us) λ_=>none) (Td (s.heap.objs.size+1) scope.names []) (tc (ph b_ scope s.heap.objs.size f cd).kindOf (ps.zip us) λ_=>none) s1):
  Inv (j6 CX P w K aa base N b_ scope f cd A outer s H E) [] (start N vs) H s1:=by
 have fm:ps.length≤N.length:=by have:=eK sQ S.pre;rw[gb]at this;omega
 obtain⟨ag,a5,rfl,aK⟩:=x.done
 have AL:∀b:Addr,b∉(j6 CX P w K aa base N b_ scope f cd A outer s H E).ex:=λb z=>bB (show b∈([]:List Addr)from z) (by simp)
 refine⟨⟨cF.mod,S.kind,rfl,rfl,b1 _,λy z c ag af=>?_,λy aT=>?_,λy c _ h=>?_,λ_=>hd,Around.frames_deeper cF.frames,.inr ⟨rfl,rfl⟩,λb z=>bB z (AL b),cF.bs,cF.pa,λb _ _=>AL b,λb z=>bB z (AL b),cF.jk,cF.qf⟩,
  rfl,cF.bare,hk.kept aK,⟨_,x.toInCall.ns,λi y v ag af aU=>?_⟩,λy c h=>⟨_,x.cell y c h⟩,cF.bh.fresh (b1 _),λy c h=>?_,λp aQ=>bB (show p∈([]:List (Addr×Obj))from aQ) (by simp),cF.bh.kept aK,?_⟩
 .exact name_of_addr x.apart (yL ag) (yL af)
 .have aT:scope.names.lookup y=some .cell∨scope.names.lookup y=some .free:=aT
  rcases aT with aT|aT
  .exact YF aT
  .exact bB rfl (S.aj9 _ (yL aT))
 .exact sW (x.above y c (yL h))
 .have aj:i<vs.length:=by
   unfold start at af
   by_cases aj:i<vs.length
   .exact aj
   .rw[Rz (by simpa using aj)]at af
    rw[List.getElem?_replicate]at af
    split at af<;>cases af
  have aH:vs[i]?=some v:=by
   unfold start at af
   rw[Ń (by simpa using aj),b8]at af
   cases e:vs[i]? with
   |none=>rw[e]at af;cases af
   |some a=>rw[e]at af;cases af;rfl
  obtain⟨u,cf,b7⟩:=r.get aH
  have aQ:ps[i]?=some y:=by
   rw[←S.pre,List.getElem?_take_of_lt (by omega)];exact ag
  have Wt:ps.Nodup:=by rw[←S.pre];exact S.aE.sublist (oX _ _)
  refine⟨u,b7,?_⟩
  rcases S.par y (eI aQ)with k|k
  .exact .inl ⟨k,XP Wt aQ cf k⟩
  .obtain⟨c,e⟩:=YF (n:=s.heap.objs.size+1) k
   refine .inr ⟨.inl k,c,e,?_⟩
   have q:=x.cell y c e
   rw[XQ Wt aQ cf (by show scope.names.lookup y≠_;rw[k];decide)]at q
   exact q
 .exact cF.bh.fresh (sW (x.above y c (yL h)))
 .unfold start
  show _=N.length
  rw[ff,bc,List.length_replicate]
  omega
theorem Hh{CX:lz}{P:bT}{w:bJ}{K:a3}{aa:Str→Option Value}{base:Heap}{k:Nat}{f:Addr}{name b_:Str}{params:Arguments}{body:List Stmt}{scope:Scope}{Dg cQ doc pm bC fA lh:Value}{an dP:Option Addr}{ot:Array (Option Value)}{N ps:List Str}{sp:cW}(lk:K.lookup f=some ⟨lh,dP,.func (vr name b_ params body scope Dg cQ doc pm an bC fA),ot⟩)(kp:Sj K bC b_=true)(S:dT N ps scope)(len:∀vs H Q E,sp vs H Q E→vs.length=ps.length)(tB:∀(A:c5)(outer:List Env)(s:ax)(H:ae)(vs:List V)(Q:bk)(E:cy),fU k (A.deeper (ph b_ scope s.heap.objs.size f bC))→sp vs H Q E→
   ∃t,hT (j6 CX P w K aa base N b_ scope f bC A outer s H E) body t∧t {b':=λ_ H'=>Q .bR H',rt:=Q} (start N vs) H):
  aY P w K aa base CX (k+1) f (vr name b_ params body scope Dg cQ doc pm an bC fA) ps sp:=by
 refine⟨len,λA outer s H args us vs Q E aw cF U r mW=>?_⟩
 have ar:=len _ _ _ _ mW
 have oU:K.In s.heap:=cF.mod.rN.keeps λb o e=>(cF.bs b o e).1
 have lim:s.heap.NoLimit:=cF.mod.nolimit.keeps λb o e=>(cF.bs b o e).1
 have qo:∀y∈ps.zip us,scope.names.lookup y.1=some .local∨(scope.names.lookup y.1=some .cell∧((Td (s.heap.objs.size+1) scope.names []).lookup y.1).isSome=true):=λ⟨n,v⟩aT=>by
  rcases S.par n (RL aT).1 with q|q
  .exact .inl q
  .exact .inr ⟨q,abx _ _ _ (.inl q)⟩
 refine codeAny_call_function aw.depth (oU _ _ lk) rfl S.co S.gen rfl (PySem.W.codeRec_of oU kp) (U _ _ _ _ ?_)
 refine wpAny_newFunctionEnv_cells S.kind qo λenv he s1 x=>?_
 subst he
 refine⟨lim.keeps x.toInCall.keep,codeAny_func ?_⟩
 obtain⟨t,cw,bg⟩:=tB A outer s H vs Q E (aw.deeper _) mW
 have I:Inv (j6 CX P w K aa base N b_ scope f bC A outer s H E) [] (start N vs) H s1:=χ S aw.hd cF ar r x
 refine fa (cw [] s1 (start N vs) H _ I bg) (λfB s' hs=>?_) λe s' hs=>hs
 have fin:∀{a6:St}{H':ae}{v:V}{u:Value},Inv (j6 CX P w K aa base N b_ scope f bC A outer s H E) [] a6 H' s'→RelV v u→Q v H'→GW outer P w H s Q u s':=
  λ{a6 H' v u}J b7 q=>⟨v,H',J.os,J.bare,J.base,J.bh,b7,q⟩
 cases fB with
 |ret u=>
  obtain⟨v,a6,H',J,b7,q⟩:=hs
  exact fin J b7 q
 |next=>
  obtain⟨a6,H',J,q⟩:=hs
  exact fin (v:=V.bR) (u:=d5) J rfl q
 |brk=>
  obtain⟨_,_,_,q⟩:=hs
  exact hQ q
 |cont=>
  obtain⟨_,_,_,q⟩:=hs
  exact hQ q
open PySem PySem.Spec PyProof.Rows
section
variable{X:bw}{x:Str}{p pos:Pos}{e:Expr}{es:List Expr}{t:fY}{id T:String}{r:List V→ae→bk→Prop}
noncomputable def uw(r:List V→ae→bk→Prop)(t:fY):TE:=λσ H Q=>t σ H λvs H1=>r vs H1 Q
theorem gd(aF:jH X (.builtin id) r)(bf:jA X x)(hm:X.aa x=none)(bG:iV x=some (.builtin id))(aH:hj X (e::es) t)(az:x≠"__name__":=by decide)(jG:(x==("__debug__":Str))=false:=by decide)(he:dW (e::es) X.env=(false,eval e X.env)::dW es X.env:=by rfl)(fm:(hq pos (dW es X.env)).any (·.1)=false:=by rfl):bE X (.Call (.Name x p) (e::es) [] pos) (uw r t):=by
 intro pins s σ H Q I h
 refine Gi (w4 I bf hm bG ?_ az jG)
 exact abm (bH (aH pos pins s σ H _ I h) λus s1⟨vs,H1,aS,b6,bq⟩=>aF pins s1 σ H1 vs us Q aS b6 bq) he fm
theorem ro(aF:jH X (.type T) r)(bf:jA X x)(hm:X.aa x=none)(bG:iV x=some (.type T))(aH:hj X (e::es) t)(az:x≠"__name__":=by decide)(jG:(x==("__debug__":Str))=false:=by decide)(he:dW (e::es) X.env=(false,eval e X.env)::dW es X.env:=by rfl)(fm:(hq pos (dW es X.env)).any (·.1)=false:=by rfl):bE X (.Call (.Name x p) (e::es) [] pos) (uw r t):=by
 intro pins s σ H Q I h
 refine Gi (w4 I bf hm bG ?_ az jG)
 exact HW (bH (aH pos pins s σ H _ I h) λus s1⟨vs,H1,aS,b6,bq⟩=>aF pins s1 σ H1 vs us Q aS b6 bq) he fm
end
end ai
namespace hR
open PySem PyProof.Rows
noncomputable def lexLt:List Int→List Int→Bool
 |[],[]=>false
 |[],_::_=>true
 |_::_,[]=>false
 |x::xs,y::ys=>if x=y then lexLt xs ys else decide (x<y)
section
open PySem.SeqAt
open PySem.AutoSeq1 (wpAny_loadPart')
open PySem.MeetsSeq PySem.MeetsSeq2 PySem.MeetsSeq3
end
section
variable{prog:bT}{w:bJ}{A:c5}{E:Value→ax→Prop}{s:ax}
noncomputable def iu(n d:Nat):Option Int→Nat
 |none=>d
 |some v=>if v<0 then(v+(n:Int)).toNat else min v.toNat n
theorem ak0(n d k:Nat):iu n d (some (k:Int))=min k n:=by
 show(if(k:Int)<0 then((k:Int)+(n:Int)).toNat else min (k:Int).toNat n)=min k n
 rw[aD (by omega),mq]
end
end hR
namespace ai
open PySem PySem.Spec PyProof.Rows
noncomputable abbrev q9:=St→ae→(Option Int→ae→Prop)→Prop
noncomputable def vo(X:bw)(e:Option Expr)(t:q9):Prop:=
 ∀(pins:List (Addr×Obj))(s:ax)(σ:St)(H:ae)(Q:Option Int→ae→Prop),Inv X pins σ H s→t σ H Q→
  aX (br X.prog X.w) X.A (evalPart e X.env) (λu s'=>∃o H',Inv X pins σ H' s'∧IsPart u o∧Q o H') X.dj s
noncomputable def ş:q9:=λ_ H Q=>Q none H
noncomputable def ado(t:TE):q9:=λσ H Q=>t σ H λx H1=>∃i,x=.int i∧Q (some i) H1
section
variable{X:bw}{e:Expr}{bY:TE}{lo aj:Option Expr}{cS ja:q9}{pos f9:Pos}
theorem Š:vo X none ş:=by
 intro pins s σ H Q I h
 rw[evalPart_none]
 exact bM ⟨none,H,I,.none,h⟩
theorem AP(h:bE X e bY):vo X (some e) (ado bY):=by
 intro pins s σ H Q I hw
 rw[evalPart_some]
 refine bH (h pins s σ H _ I hw) λu s1⟨x,H1,aS,b6,bq⟩=>?_
 obtain⟨i,rfl,q⟩:=bq
 obtain⟨t,rfl⟩:=b6
 exact⟨some i,H1,aS,.int i t,q⟩
noncomputable def SF(X:bw)(r:V→Option Int→Option Int→ae→bk→Prop):Prop:=
 ∀(pins:List (Addr×Obj))(s:ax)(σ:St)(H:ae)(x:V)(v ny nz:Value)(lo aj:Option Int)(bS:Addr)(Q:bk),Inv X pins σ H s→RelV x v→s.heap.IsSliceOf bS ny nz .none→IsPart ny lo→IsPart nz aj→r x lo aj H Q→
  ∃T id,typeLookup (.type T) "__getitem__"=pure (some (.builtin id))∧s.TypeIs v T∧aX (br X.prog X.w) X.A (vV v (.ref bS)) (hh X pins σ Q) X.dj s
noncomputable def alu(r:V→Option Int→Option Int→ae→bk→Prop)(bY:TE)(cS ja:q9):TE:=λσ H Q=>bY σ H λx H1=>cS σ H1 λl ak=>ja σ ak λu bD=>r x l u bD Q
theorem â{r:V→Option Int→Option Int→ae→bk→Prop}(aw:SF X r)(he:bE X e bY)(ar:vo X lo cS)(cf:vo X aj ja):bE X (.Subscript e (.Slice lo aj none f9) pos) (alu r bY cS ja):=by
 intro pins s σ H Q I h
 refine Ir (bH (he pins s σ H _ I h) λv s1⟨x,H1,aS,b6,bq⟩=>?_)
 refine wpAny_Slice (bH (ar pins s1 σ H1 _ aS bq) λny s2⟨l,ak,bK,pl,cp⟩=>bH (cf pins s2 σ ak _ bK cp) λnz s3⟨u,bD,cT,pu,eH⟩=>?_)
 rw[evalPart_none]
 refine bM ?_
 have iP:Inv X pins σ bD {s3 with heap:=s3.heap.push {cls:=.type "slice",data:=.fields #[ny,nz,.none]}}:=cT.kept (t':=s3.toks) λb ob q=>dy _ q
 obtain⟨T,id,fV,cw,bf⟩:=aw pins {s3 with heap:=s3.heap.push {cls:=.type "slice",data:=.fields #[ny,nz,.none]}} σ bD x v ny nz l u s3.heap.objs.size Q iP b6 (Ó ..) pl pu eH
 show aX (br X.prog X.w) X.A (Oa e (.Slice lo aj none f9) v (.ref s3.heap.objs.size)) (hh X pins σ Q) X.dj {s3 with heap:=s3.heap.push {cls:=.type "slice",data:=.fields #[ny,nz,.none]}}
 exact tail_any (ops:=[.ref s3.heap.objs.size,v]) cw fV bf (by with_unfolding_all rfl)
noncomputable def u7(xs:List V)(lo aj:Option Int):List V:=(xs.drop (hR.iu xs.length 0 lo)).take (hR.iu xs.length xs.length aj-hR.iu xs.length 0 lo)
theorem amD(xs:List V)(lo aj:Option Int):(u7 xs lo aj).length≤xs.length:=by
 unfold u7
 rw[gb,sR]
 omega
end
open PySem PySem.Spec PyProof.Rows
noncomputable def m4(n:Nat)(i:Int):Option Nat:=if 0≤i then(if i<n then some i.toNat else none)else if -(n:Int)≤i then some (i+n).toNat else none
noncomputable def e0{α:Type}(xs:List α)(i:Int):Option α:=(m4 xs.length i).bind λj=>xs[j]?
theorem Qg{n:Nat}{i:Int}{j:Nat}(h:m4 n i=some j):seqIndex? i n=some j∧j<n∧-(n:Int)≤i∧i<n:=by
 unfold m4 at h
 by_cases h0:0≤i
 .rw[aI h0]at h
  by_cases ag:i<n
  .rw[aI ag]at h
   have e:i.toNat=j:=gT h
   exact⟨by rw[Xd h0 ag,e],by omega,by omega,ag⟩
  .rw[aD ag]at h;cases h
 .rw[aD h0]at h
  by_cases ag:-(n:Int)≤i
  .rw[aI ag]at h
   have e:(i+n).toNat=j:=gT h
   exact⟨by rw[Xc (by omega) ag,e],by omega,ag,by omega⟩
  .rw[aD ag]at h;cases h
theorem OM{α:Type}{xs:List α}{i:Int}{v:α}(h:e0 xs i=some v):∃j,seqIndex? i xs.length=some j∧xs[j]?=some v∧j<xs.length∧-(xs.length:Int)≤i∧i<xs.length:=by
 unfold e0 at h
 cases e:m4 xs.length i with
 |none=>rw[e]at h;cases h
 |some j=>
  rw[e]at h
  obtain⟨ag,af,aU,bP⟩:=Qg e
  exact⟨j,ag,h,af,aU,bP⟩
theorem ho{α:Type}{xs:List α}{j:Nat}{v:α}(h:xs[j]?=some v):e0 xs (j:Int)=some v:=by
 have aN:j<xs.length:=(fW.mp h).1
 have e:m4 xs.length (j:Int)=some j:=by
  unfold m4
  rw[aI (by omega),aI (by omega)];simp
 unfold e0;rw[e];exact h
theorem YS{α:Type}(xs:List α)(v:α):e0 (xs++[v]) (-1)=some v:=by
 have ar:(xs++[v]).length=xs.length+1:=by simp
 have e:m4 (xs++[v]).length (-1)=some xs.length:=by
  unfold m4
  rw[ar,aD (by decide),aI (by omega)]
  congr 1
  omega
 unfold e0
 rw[e]
 show(xs++[v])[xs.length]?=some v
 simp
noncomputable def š(b:Expr):Prop:=∀o i,Ob b false o i=operate [o,i] (vV o i)
noncomputable def vc(X:bw)(r:gL):Prop:=
 ∀(value slice:Expr)(pins:List (Addr×Obj))(s:ax)(σ:St)(H:ae)(x y:V)(v u:Value)(Q:bk),Inv X pins σ H s→RelV x v→RelV y u→r x y H Q→
  Ob slice false v u=operate [v,u] (vV v u)→aX (br X.prog X.w) X.A (Oa value slice v u) (hh X pins σ Q) X.dj s
noncomputable def aae(X:bw)(id:String)(r:V→List V→ae→bk→Prop):Prop:=
 ∀(pins:List (Addr×Obj))(s:ax)(σ:St)(H:ae)(x:V)(xs:List V)(v:Value)(us:List Value)(Q:bk),Inv X pins σ H s→RelV x v→cj xs us→r x xs H Q→
  aX (br X.prog X.w) X.A (call (.builtin id) (v::us)) (hh X pins σ Q) X.dj s
section
variable{X:bw}{a b:Expr}{b3 cX:TE}{pos:Pos}
theorem b9{r:gL}(aw:vc X r)(aH:bE X a b3)(U:bE X b cX)(hs:š b):bE X (.Subscript a b pos) (F0 r b3 cX):=by
 intro pins s σ H Q I h
 exact Ir (H5 aH U I h λv u s2 x y ak bK bt bI q=>aw a b pins s2 σ ak x y v u Q bK bt bI q (hs _ _))
inductive adp(K:a3)(x:V)(y:V)(H:ae)(Q:bk):Prop where
 |mk (p:_) (xs:_) (i:_) (v:_) (b4:x=.ref p) (bL:y=.int i) (cG:aR K H p xs) (c2:e0 xs i=some v) (dR:Q v H)
noncomputable def SR(K:a3):gL:=λx y H Q=>adp K x y H Q
inductive adq(K:a3)(x:V)(y:V)(H:ae)(Q:bk):Prop where
 |mk (p:_) (xs:_) (i:_) (v:_) (b4:x=.ref p) (bL:y=.int i) (cG:b2 K H p xs) (c2:e0 xs i=some v) (dR:Q v H)
noncomputable def SS(K:a3):gL:=λx y H Q=>adq K x y H Q
inductive ads(x:V)(y:V)(H:ae)(Q:bk):Prop where
 |mk (z:_) (i:_) (c:_) (b4:x=.str z) (bL:y=.int i) (cG:z.length≤sizeLine) (c2:e0 z.cps.toList i=some c) (dR:Q (.str ⟨#[c]⟩) H)
noncomputable def aea:gL:=λx y H Q=>ads x y H Q
theorem gp:vc X (SR X.K):=by
 intro value slice pins s σ H x y v u Q I bt bI h hs
 obtain⟨p,xs,i,z,rfl,rfl,bg,he,q⟩:=h
 cases bt
 obtain⟨t,rfl⟩:=bI
 obtain⟨its,r,pl,bQ⟩:=I.list bg
 obtain⟨j,ag,af,aU,bP,cZ⟩:=OM he
 obtain⟨w,Ds,kF⟩:=r.get af
 have ar:=r.length
 have az:=t5
 have fin:hh X pins σ Q w s:=⟨z,H,I,kF,q⟩
 by_cases h0:0≤i
 .have aN:i.toNat=j:=by
   rw[Xd h0 cZ]at ag
   exact gT ag
  exact item_listR pl.isList h0 (by omega) (by rw[aN];simpa using Ds) fin hs
 .have aN:(i+(its.toArray.size:Int)).toNat=j:=by
   rw[Xc (by omega) bP]at ag
   rw[eC,←ar]
   exact gT ag
  exact alh (x:=w) pl.isList.typeIs Xi.lookup
   (wpAny_getItem_list_neg (Q:=λr s'=>r=w∧hh X pins σ Q r s') pl.isList (by omega) (by rw[eC]<;>omega) (by omega) (by rw[aN];simpa using Ds) ⟨rfl,fin⟩) hs
theorem d2:vc X (SS X.K):=by
 intro value slice pins s σ H x y v u Q I bt bI h hs
 obtain⟨p,xs,i,z,rfl,rfl,bg,he,q⟩:=h
 cases bt
 obtain⟨t,rfl⟩:=bI
 obtain⟨its,r,pl,bQ⟩:=I.tuple bg
 obtain⟨j,ag,af,aU,bP,cZ⟩:=OM he
 obtain⟨w,Ds,kF⟩:=r.get af
 have ar:=r.length
 have az:=t5
 have fin:hh X pins σ Q w s:=⟨z,H,I,kF,q⟩
 exact alh (x:=w) pl.typeIs slot_tuple_getitem.lookup
  (getItem_tuple (j:=j) (Q:=λr s'=>r=w∧hh X pins σ Q r s') pl (by omega) (by omega) (by rw[eC,←ar];exact ag) (by simpa using Ds) ⟨rfl,fin⟩) hs
theorem aca:vc X aea:=by
 intro value slice pins s σ H x y v u Q I bt bI h hs
 obtain⟨z,i,c,rfl,rfl,bQ,he,q⟩:=h
 obtain⟨t,rfl⟩:=bt
 obtain⟨t',rfl⟩:=bI
 obtain⟨j,ag,af,aU,bP,cZ⟩:=OM he
 have ar:z.cps.toList.length=z.length:=by simp[Str.length]
 rw[ar]at ag bP cZ
 have az:=t5
 exact tail_any (typeIs_str s z t) slot_str_getitem.lookup (getItem_str (c:=c) (by
  have av:decide (i < -(2 ^ 63:Int))=false:=eF (by omega)
  have ay:decide (i≥2 ^ 63)=false:=eF (by omega)
  rw[av,ay,Bool.or_false]) (by rw[ag];simpa using af) ⟨.str ⟨#[c]⟩,H,I.tok _,⟨_,rfl⟩,q⟩) hs
theorem Zn(its:List Value)(n j:Nat)(u:Value):kT (·.setIfInBounds j u) {cls:=.type "list",data:=.seq its.toArray n}={cls:=.type "list",data:=.seq (its.set j u).toArray n}:=by
 simp[kT]
theorem Inv.lst{pins:List (Addr×Obj)}{σ:St}{H:ae}{s:ax}{p:Addr}{xs:List V}(I:Inv X pins σ H s)(h:H p=some (.lst xs)):
  ∃(its:List Value)(n:Nat),cj xs its∧s.heap.get? p=some {cls:=.type "list",data:=.seq its.toArray n}∧xs.length≤sizeLine:=by
 obtain⟨z,its,n,r,e⟩:=I.bh p _ h
 exact⟨its,n,r,e,z⟩
theorem Inv.ajF{pins:List (Addr×Obj)}{σ:St}{H:ae}{s:ax}{p:Addr}{xs ys:List V}{its its':List Value}{n kv:Nat}{f:Obj→Obj}(I:Inv X pins σ H s)(h:H p=some (.lst xs))(a9:s.heap.get? p=some {cls:=.type "list",data:=.seq its.toArray n})(hf:f {cls:=.type "list",data:=.seq its.toArray n}={cls:=.type "list",data:=.seq its'.toArray kv})(r:cj ys its')(bQ:ys.length≤sizeLine)(t:Nat):
  Inv X pins σ (upd H p (.lst ys)) {s with heap:=s.heap.update p f,toks:=t}:=by
 have e:(s.heap.update p f).get? p=some {cls:=.type "list",data:=.seq its'.toArray kv}:=by
  rw[x9 f a9 (by rw[hf]<;>rfl),hf]
 refine I.write (x:=p) (e:=p) (by rw[h];trivial) (.inl rfl) (λb u U q=>(pW _ _ (dG U)).trans q) ⟨_,e⟩ ?_
 exact⟨bQ,its',kv,r,e⟩
inductive acb(o:V)(i:V)(v:V)(H:ae)(Q:((ae→Prop))):Prop where
 |mk (p:_) (xs:_) (k:_) (j:_) (b4:o=.ref p) (bL:i=.int k) (cG:H p=some (.lst xs)) (c2:m4 xs.length k=some j) (dR:Q (upd H p (.lst (xs.set j v))))
noncomputable def adt:V→V→V→ae→(ae→Prop)→Prop:=λo i v H Q=>acb o i v H Q
theorem set_list:SD X adt:=by
 intro pins s σ H o i v ej i4 u Q I r6 akP b7 h
 obtain⟨p,xs,k,j,rfl,rfl,aQ,aN,q⟩:=h
 cases r6
 obtain⟨t,rfl⟩:=akP
 obtain⟨its,n,r,a9,bQ⟩:=I.lst aQ
 obtain⟨ag,af,aU,bP⟩:=Qg aN
 have ar:=r.length
 have az:=t5
 have nG:Inv X pins σ (upd H p (.lst (xs.set j v))) {s with heap:=s.heap.update p (kT (·.setIfInBounds j u))}:=
  I.ajF aQ a9 (Zn its n j u) (r.set b7 j) (by rw[RE];exact bQ) s.toks
 by_cases h0:0≤k
 .have aK:k.toNat=j:=by
   rw[Xd h0 bP]at ag
   exact gT ag
  exact PySem.W.ki_setAt a9 h0 (by omega) (by rw[eC,←ar];exact bP) (by rw[aK];exact⟨_,nG,q⟩)
 .have aK:(k+(its.toArray.size:Int)).toNat=j:=by
   rw[Xc (by omega) aU]at ag
   rw[eC,←ar]
   exact gT ag
  exact PySem.W.ki_setBack a9 (by omega) (by rw[eC,←ar];exact aU) (by omega) (by rw[aK];exact⟨_,nG,q⟩)
theorem alZ(lo aj:Option Int)(n:Nat):(lu lo aj none n).1=((hR.iu n 0 lo:Nat):Int)∧(lu lo aj none n).2.1=((hR.iu n n aj:Nat):Int)∧(lu lo aj none n).2.2=1:=by
 refine⟨?_,?_,rfl⟩
 .cases lo with
  |none=>simp[lu,hR.iu]
  |some i=>
   simp only[lu,hR.iu,aa4,show(1:Int)>0 by decide,if_true]
   by_cases h:i<0
   .simp only[h,if_true]<;>omega
   .simp only[h,if_false]<;>omega
 .cases aj with
  |none=>simp[lu,hR.iu]
  |some i=>
   simp only[lu,hR.iu,aa4,show(1:Int)>0 by decide,if_true]
   by_cases h:i<0
   .simp only[h,if_true]<;>omega
   .simp only[h,if_false]<;>omega
theorem alL(its:List Value)(lo aj:Option Int):N6 its.toArray lo aj none=((its.drop (hR.iu its.length 0 lo)).take (hR.iu its.length its.length aj-hR.iu its.length 0 lo)).toArray:=by
 obtain⟨ag,af,aU⟩:=alZ lo aj its.toArray.size
 unfold N6
 rw[ag,af,aU]
 simp only[sliceRange_one,pick_run,eC]<;>rfl
inductive adu(K:a3)(x:V)(lo:(Option Int))(aj:(Option Int))(H:ae)(Q:bk):Prop where
 |mk (a:_) (xs:_) (b4:x=.ref a) (bL:aR K H a xs) (cG:∀p,H p=none→Q (.ref p) (upd H p (.lst (u7 xs lo aj))))
noncomputable def aeb(K:a3):V→Option Int→Option Int→ae→bk→Prop:=λx lo aj H Q=>adu K x lo aj H Q
theorem Ţ:SF X (aeb X.K):=by
 intro pins s σ H x v ny nz lo aj bS Q I bt hs pl pu h
 obtain⟨a,xs,rfl,ao,q⟩:=h
 cases bt
 obtain⟨its,r,cw,bQ⟩:=I.list ao
 have hlen:=r.length
 refine⟨"list",_,Xi.lookup,cw.isList.typeIs,?_⟩
 refine ami cw.isList hs pl pu .none (by simp) ?_ (by rw[eC]<;>omega)
 rw[alL,←hlen]
 refine⟨.ref s.heap.objs.size,_,I.laid (t':=s.toks) (o:=.lst (u7 xs lo aj)) (λb ob q=>dy _ q) (b1 _) ?_,rfl,q _ (I.bh.fresh (b1 _))⟩
 exact⟨gm (amD xs lo aj) bQ,_,0,(r.drop (hR.iu xs.length 0 lo)).take (hR.iu xs.length xs.length aj-hR.iu xs.length 0 lo),gD _ rfl⟩
noncomputable def pG:V→Bool
 |.bR=>true
 |.bo _=>true
 |.int _=>true
 |.str _=>true
 |_=>false
noncomputable def rn:V→V→Bool
 |.bR,.bR=>true
 |.bo a,.bo b=>a==b
 |.bo a,.int b=>(if a then 1 else 0)==b
 |.int a,.bo b=>a==(if b then 1 else 0)
 |.int a,.int b=>a==b
 |.str a,.str b=>a==b
 |_,_=>false
theorem acd{A:c5}{s:ax}{y x:V}{u v:Value}(bI:RelV y u)(bt:RelV x v)(ahT:pG y=true)(lU:pG x=true):ac2 A s u v (rn y x):=by
 cases y with
 |bR=>
  cases bI
  cases x with
  |bR=>cases bt;exact SeqAt.EqAt.same _
  |bo b=>cases bt;exact SeqAt.EqAt.none_bool b
  |int b=>obtain⟨t,rfl⟩:=bt;exact SeqAt.EqAt.none_int b t
  |str b=>obtain⟨t,rfl⟩:=bt;exact SeqAt.EqAt.none_str b t
  |_=>exact bB (show false=true from lU) fb
 |bo a=>
  cases bI
  cases x with
  |bR=>cases bt;exact SeqAt.EqAt.bool_none a
  |bo b=>cases bt;exact SeqAt.EqAt.bool_bool a b
  |int b=>obtain⟨t,rfl⟩:=bt;exact SeqAt.EqAt.bool_int a b t
  |str b=>obtain⟨t,rfl⟩:=bt;exact SeqAt.EqAt.bool_str a b t
  |_=>exact bB (show false=true from lU) fb
 |int a=>
  obtain⟨t',rfl⟩:=bI
  cases x with
  |bR=>cases bt;exact SeqAt.EqAt.int_none a t'
  |bo b=>cases bt;exact SeqAt.EqAt.int_bool a t' b
  |int b=>obtain⟨t,rfl⟩:=bt;exact SeqAt.EqAt.int_int a t' b t
  |str b=>obtain⟨t,rfl⟩:=bt;exact ac3 a t' b t
  |_=>exact bB (show false=true from lU) fb
 |str a=>
  obtain⟨t',rfl⟩:=bI
  cases x with
  |bR=>cases bt;exact SeqAt.EqAt.str_none a t'
  |bo b=>cases bt;exact SeqAt.EqAt.str_bool a t' b
  |int b=>obtain⟨t,rfl⟩:=bt;exact ac4 a t' b t
  |str b=>obtain⟨t,rfl⟩:=bt;exact SeqAt.EqAt.str_str a t' b t
  |_=>exact bB (show false=true from lU) fb
 |_=>exact bB (show false=true from ahT) fb
noncomputable def km(x:V)(u:Value):Bool:=match u with
 |.none=>rn .bR x
 |.bool b=>rn (.bo b) x
 |.int i _=>rn (.int i) x
 |.str z _=>rn (.str z) x
 |_=>false
theorem QR{x y:V}{u:Value}(r:RelV y u)(f:pG y=true):km x u=rn y x:=by
 cases y with
 |bR=>cases r;rfl
 |bo b=>cases r;rfl
 |int i=>obtain⟨t,rfl⟩:=r;rfl
 |str z=>obtain⟨t,rfl⟩:=r;rfl
 |_=>exact bB (show false=true from f) fb
theorem AQ{x:V}:∀{xs:List V}{us:List Value},cj xs us→xs.all pG=true→us.any (km x)=xs.any λy=>rn y x
 |_,_,.nil,_=>rfl
 |y::xs,u::us,.cons r t,f=>by
  rw[ķ,kK]at f
  rw[CG,CG,QR r f.1,AQ t f.2]
theorem Ay{A:c5}{s:ax}{x:V}{v:Value}(bt:RelV x v)(lU:pG x=true):∀{xs:List V}{us:List Value},cj xs us→xs.all pG=true→∀u∈us,ac2 A s u v (km x u)
 |_,_,.nil,_=>λu cf=>by cases cf
 |y::xs,u::us,.cons r t,f=>λu' cf=>by
  rw[ķ,kK]at f
  rcases fy.mp cf with rfl|cf
  .rw[QR r f.1];exact acd r bt f.1 lU
  .exact Ay bt lU t f.2 u' cf
noncomputable def pA(x:V)(xs:List V):Bool:=xs.any λy=>rn y x
inductive aec(K:a3)(neg:Bool)(x:V)(y:V)(H:ae)(Q:bk):Prop where
 |mk (p:_) (xs:_) (b4:y=.ref p) (bL:(aR K H p xs∨b2 K H p xs)) (cG:pG x=true) (c2:xs.all pG=true) (dR:Q (.bo (if neg then !pA x xs else pA x xs)) H)
noncomputable def W3(K:a3)(neg:Bool):gL:=λx y H Q=>aec K neg x y H Q
theorem Nc:fQ X (hv .In) (W3 X.K false):=by
 intro pins s σ H x y v u Q I bt bI h
 obtain⟨p,xs,rfl,bg,lU,fs,q⟩:=h
 cases bI
 rcases bg with bg|bg
 .obtain⟨its,r,pl,bQ⟩:=I.list bg
  refine SeqAt.in_listAt (km x) pl.isList (λw hw=>Ay bt lU r fs w (by simpa using hw)) ⟨.bo _,H,I,rfl,?_⟩
  rw[show its.toArray.any (km x)=its.any (km x) by simp,AQ r fs]
  exact q
 .obtain⟨its,r,pl,bQ⟩:=I.tuple bg
  refine SeqAt.in_tupleAt (km x) pl (λw hw=>Ay bt lU r fs w (by simpa using hw)) ⟨.bo _,H,I,rfl,?_⟩
  rw[show its.toArray.any (km x)=its.any (km x) by simp,AQ r fs]
  exact q
theorem WM:fQ X (hv .NotIn) (W3 X.K true):=by
 intro pins s σ H x y v u Q I bt bI h
 obtain⟨p,xs,rfl,bg,lU,fs,q⟩:=h
 cases bI
 rcases bg with bg|bg
 .obtain⟨its,r,pl,bQ⟩:=I.list bg
  refine SeqAt.notIn_listAt (km x) pl.isList (λw hw=>Ay bt lU r fs w (by simpa using hw)) ⟨.bo _,H,I,rfl,?_⟩
  rw[show its.toArray.any (km x)=its.any (km x) by simp,AQ r fs]
  exact q
 .obtain⟨its,r,pl,bQ⟩:=I.tuple bg
  refine SeqAt.notIn_tupleAt (km x) pl (λw hw=>Ay bt lU r fs w (by simpa using hw)) ⟨.bo _,H,I,rfl,?_⟩
  rw[show its.toArray.any (km x)=its.any (km x) by simp,AQ r fs]
  exact q
inductive aed(K:a3)(xs:List V)(H:ae)(Q:bk):Prop where
 |mk (p:Addr) (ys:List V) (b4:xs=[.ref p]) (bL:aR K H p ys∨b2 K H p ys) (cG:Q (.int ys.length) H)
theorem mE:jH X (.builtin "len") (aed X.K):=by
 intro pins s σ H xs us Q I r h
 obtain⟨p,ys,rfl,bg,q⟩:=h
 obtain⟨u,rfl,bt⟩:=vals1 r
 cases bt
 have az:=t5
 rcases bg with bg|bg
 .obtain⟨its,cm,pl,bQ⟩:=I.list bg
  have hlen:=cm.length
  exact Calls.call_len_list pl.isList (by simp only[eC]<;>omega) ⟨.int ys.length,H,I.tok _,⟨s.toks+1,by rw[eC,hlen]⟩,q⟩
 .obtain⟨its,cm,pl,bQ⟩:=I.tuple bg
  have hlen:=cm.length
  exact len_tuple pl (by simp only[eC]<;>omega) ⟨.int ys.length,H,I.tok _,⟨s.toks+1,by rw[eC,hlen]⟩,q⟩
theorem al0:jH X (.builtin "len") (λxs H Q=>∃z,xs=[.str z]∧z.length≤sizeLine∧Q (.int z.length) H):=by
 intro pins s σ H xs us Q I r h
 obtain⟨z,rfl,bQ,q⟩:=h
 obtain⟨u,rfl,t,rfl⟩:=vals1 r
 have az:=t5
 exact len_str (by omega) ⟨.int z.length,H,I.tok _,⟨_,rfl⟩,q⟩
theorem zF:jH X (.type "list") (λxs H Q=>∃p ys,xs=[.ref p]∧(aR X.K H p ys∨b2 X.K H p ys)∧∀l,H l=none→Q (.ref l) (upd H l (.lst ys))):=by
 intro pins s σ H xs us Q I r h
 obtain⟨p,ys,rfl,bg,q⟩:=h
 obtain⟨u,rfl,bt⟩:=vals1 r
 cases bt
 have fin:∀(its:List Value),cj ys its→ys.length≤sizeLine→∀(h':Heap)(gq:Nat),(∀b cO,s.heap.get? b=some cO→h'.get? b=some cO)→
   h'.get? s.heap.objs.size=some {cls:=.type "list",dict:=none,data:=.seq its.toArray gq,slots:=#[]}→hh X pins σ Q (.ref s.heap.objs.size) {s with heap:=h'}:=λits cm bQ h' gq cN e=>
  ⟨.ref s.heap.objs.size,_,I.laid (t':=s.toks) cN (b1 _) (show eo X.prog X.w _ h' _ (.lst ys)from⟨bQ,its,gq,cm,e⟩),rfl,q _ (I.bh.fresh (b1 _))⟩
 rcases bg with bg|bg
 .obtain⟨its,cm,pl,bQ⟩:=I.list bg
  have hlen:=cm.length
  obtain⟨o,a9,aF,n,hd⟩:=pl.isList
  exact call_list_seq p (.inl rfl) a9 aF hd (λh' gq cN e=>fin its cm bQ h' gq cN e) (by simp only[eC]<;>omega)
 .obtain⟨its,cm,pl,bQ⟩:=I.tuple bg
  have hlen:=cm.length
  obtain⟨o,a9,aF,n,hd⟩:=pl
  exact call_list_seq p (.inr rfl) a9 aF hd (λh' gq cN e=>fin its cm bQ h' gq cN e) (by simp only[eC]<;>omega)
theorem alM:jH X (.type "tuple") (λxs H Q=>∃p ys,xs=[.ref p]∧((aR X.K H p ys∧∀l,H l=none→Q (.ref l) (upd H l (.tup ys)))∨(b2 X.K H p ys∧Q (.ref p) H))):=by
 intro pins s σ H xs us Q I r h
 obtain⟨p,ys,rfl,h⟩:=h
 obtain⟨u,rfl,bt⟩:=vals1 r
 cases bt
 rcases h with⟨bg,q⟩|⟨bg,q⟩
 .obtain⟨its,cm,pl,bQ⟩:=I.list bg
  have hlen:=cm.length
  refine call_tuple_list pl.isList (λh' cN=>?_) (by simp only[eC]<;>omega)
  have aS:Inv X pins σ H {s with heap:=h'}:=I.kept (t':=s.toks) cN
  have bK:Inv X pins σ (upd H h'.objs.size (.tup ys)) {s with heap:=h'.push {cls:=.type "tuple",data:=.seq its.toArray}}:=
   aS.laid (t':=s.toks) (λb o e=>dy _ e) (b1 _) (show eo X.prog X.w _ _ _ (.tup ys)from⟨bQ,its,cm,IsTup.new _ _⟩)
  exact⟨.ref h'.objs.size,_,bK,rfl,q _ (aS.bh.fresh (b1 _))⟩
 .obtain⟨its,cm,pl,bQ⟩:=I.tuple bg
  exact call_tuple_same pl ⟨.ref p,H,I,rfl,q⟩
noncomputable def XE(K:a3)(T:String)(x:V)(H:ae):Prop:=match x with
 |.str _=>T="str"
 |.int _=>T="int"
 |.ref p=>(T="list"∧∃xs,aR K H p xs)∨(T="tuple"∧∃o,K.lookup p=some o∧o.cls=.type "tuple"∧o.dict=none)∨
   (T="dict"∧((∃kvs,H p=some (.ct kvs))∨∃kvs,H p=some (.cE kvs)))∨(T="set"∧∃S n,H p=some (.set S n))
 |_=>False
theorem ace{pins:List (Addr×Obj)}{σ:St}{H:ae}{s:ax}{T:String}{x:V}{v:Value}(I:Inv X pins σ H s)(r:RelV x v)(ty:XE X.K T x H):
  s.TypeIs v T∧∀a,v=.ref a→∃ob,s.heap.get? a=some ob∧ob.dict=none:=by
 cases x with
 |str z=>
  obtain⟨t,rfl⟩:=r
  cases(show T="str" from ty)
  exact⟨typeIs_str s z t,λ_ e=>nomatch e⟩
 |int i=>
  obtain⟨t,rfl⟩:=r
  cases(show T="int" from ty)
  exact⟨typeIs_int s i t,λ_ e=>nomatch e⟩
 |ref p=>
  cases r
  rcases ty with⟨rfl,xs,bg⟩|⟨rfl,o,aK,aF,hd⟩|⟨rfl,aK⟩|⟨rfl,S,n,aK⟩
  .obtain⟨its,_,pl,_⟩:=I.list bg
   refine⟨pl.isList.typeIs,λa e=>?_⟩
   cases e
   obtain⟨o,n,e,c,hd,_⟩:=pl
   exact⟨o,e,hd⟩
  .refine⟨⟨o,I.eV p o aK,aF⟩,λa e=>?_⟩
   cases e
   exact⟨o,I.eV _ o aK,hd⟩
  .have z:∃o,s.heap.get? p=some o∧o.ExactDict:=by
    rcases aK with⟨kvs,aK⟩|⟨kvs,aK⟩
    .obtain⟨_,_,_,_,o,_,_,e,ex,_⟩:=I.bh p _ aK
     exact⟨o,e,ex⟩
    .obtain⟨_,_,_,_,o,_,_,e,ex,_⟩:=I.bh p _ aK
     exact⟨o,e,ex⟩
   obtain⟨o,e,ex⟩:=z
   refine⟨⟨o,e,ex.1⟩,λa ay=>?_⟩
   cases ay
   exact⟨o,e,ex.2.1⟩
  .obtain⟨o,_,_,_,e,ex,_⟩:=I.bh p _ aK
   refine⟨⟨o,e,ex.1⟩,λa ay=>?_⟩
   cases ay
   exact⟨o,e,ex.2.1⟩
 |_=>exact hQ ty
noncomputable def alj(K:a3)(T:String)(r:V→List V→ae→bk→Prop)(to:TE)(t:fY):TE:=λσ H Q=>to σ H λx H1=>XE K T x H1∧t σ H1 λxs ak=>r x xs ak Q
variable{o e:Expr}{es:List Expr}{to:TE}{t:fY}{name:Str}{eZ e2:Pos}{T id:String}{r:V→List V→ae→bk→Prop}
theorem pH(iM:PlainAttrs T)(slot:Slot T name id)(tK:typeOf (.builtin id)=pure (.type "method_descriptor"))(hm:aae X id r)(a9:bE X o to)(aH:hj X (e::es) t)(KJ:yS o name X.env (eval o X.env)=eval o X.env:=by rfl)(ait:((hq e2 (dW (e::es) X.env)).all (λx=>!x.1)&&(rg e2 (rM [] X.env)).all (λx=>x.1.isSome)
   && decide ((e::es).length+([]:List yj).length+(if([]:List yj).isEmpty then 0 else 1)<30))=true:=by rfl)(K8:(eZ.endLine==e2.line)=true:=by rfl)(hs:dW (e::es) X.env=(false,eval e X.env)::dW es X.env:=by rfl)(ai3:(hq e2 (dW es X.env)).any (·.1)=false:=by rfl):
  bE X (.Call (.Attribute o name eZ) (e::es) [] e2) (alj X.K T r to t):=by
 intro pins s σ H Q I h
 refine wpAny_Call_method_late KJ ait K8 rfl (bH (a9 pins s σ H _ I h) λv s1⟨x,H1,aS,b6,ty,bq⟩=>?_)
 obtain⟨ag,af⟩:=ace aS b6 ty
 refine⟨T,id,iM,slot,tK,ag,af,?_⟩
 have rB:=aH e2 pins s1 σ H1 _ aS bq
 rw[hs]at rB⊢
 refine Cf (by show(false||(hq e2 (dW es X.env)).any (·.1))=false;rw[ai3]<;>rfl) (Cg ?_)
 exact bH rB λus s2⟨vs,ak,bK,c8,cp⟩=>hm pins s2 σ ak x vs v us Q bK b6 c8 cp
end
open PySem PySem.Spec PyProof.Rows
noncomputable def RP(X:bw)(id:String)(r:V→List V→ae→bk→Prop):Prop:=
 ∀(pins:List (Addr×Obj))(s:ax)(σ:St)(H:ae)(x:V)(xs:List V)(v:Value)(us:List Value)(Q:bk),Inv X pins σ H s→RelV x v→cj xs us→r x xs H Q→
  aX (br X.prog X.w) X.A (call (.builtin id) (v::us)) (hh X pins σ Q) X.dj s
theorem cj.one:∀{x:V}{us:List Value},cj [x] us→∃u,us=[u]∧RelV x u
 |_,_,.cons r .nil=>⟨_,rfl,r⟩
section
variable{X:bw}{pins:List (Addr×Obj)}{σ:St}{H:ae}{s:ax}{l b:Addr}{xs ys zs:List V}
theorem Inv.Wc{its its':List Value}{n:Nat}{f:Array Value→Array Value}{t':Nat}(I:Inv X pins σ H s)(iF:H l=some (.lst xs))(e:s.heap.get? l=some {cls:=.type "list",data:=.seq its.toArray n})(hf:f its.toArray=its'.toArray)(bG:cj ys its')(bQ:ys.length≤sizeLine):
  Inv X pins σ (upd H l (.lst ys)) {s with heap:=s.heap.update l (kT f),toks:=t'}:=by
 have q:=PySem.IsL.update e f
 rw[hf]at q
 refine I.write (x:=l) (e:=l) (by rw[iF];exact trivial) (.inl rfl) (λaZ u U cf=>(pW s.heap (kT f) (dG U)).trans cf) ⟨_,q⟩ ?_
 exact⟨bQ,its',_,bG,q⟩
theorem Inv.V_{its:List Value}{t':Nat}(I:Inv X pins σ H s)(bG:cj ys its)(bQ:ys.length≤sizeLine):
  Inv X pins σ (upd H s.heap.objs.size (.lst ys)) {s with heap:=s.heap.push {cls:=.type "list",data:=.seq its.toArray},toks:=t'}:=
 I.laid (λ_ _ q=>dy _ q) (b1 _) ⟨bQ,its,0,bG,gD _ rfl⟩
theorem Inv.fresh(I:Inv X pins σ H s):H s.heap.objs.size=none:=I.bh.fresh (b1 _)
theorem Inv.AD(I:Inv X pins σ H s)(iF:H l=some (.lst xs)):xs.length≤sizeLine∧∃(its:List Value)(n:Nat),cj xs its∧xs.length=its.length∧s.heap.get? l=some {cls:=.type "list",data:=.seq its.toArray n}:=by
 obtain⟨z,its,n,r,e⟩:=I.bh l _ iF
 exact⟨z,its,n,r,r.length,e⟩
theorem ã{n:Nat}(h:n≤sizeLine):PZ n=false:=by
 unfold PZ
 exact eF (by omega)
end
section
variable{X:bw}
inductive ä(x:V)(vs:(List V))(H:ae)(Q:bk):Prop where
 |mk (l:_) (xs:_) (y:_) (b4:x=.ref l) (bL:vs=[y]) (cG:H l=some (.lst xs)) (c2:xs.length<sizeLine) (dR:Q .bR (upd H l (.lst (xs++[y]))))
noncomputable def ţ:V→List V→ae→bk→Prop:=λx vs H Q=>ä x vs H Q
theorem nR:RP X "list.append" ţ:=by
 intro pins s σ H x vs v us Q I bt b7 h
 obtain⟨l,xs,y,rfl,rfl,iF,bQ,q⟩:=h
 cases bt
 obtain⟨u,rfl,e4⟩:=b7.one
 obtain⟨z,its,n,r,ar,e⟩:=I.AD iF
 refine call_meets F.slot_list_append ⟨_,e,rfl⟩ F.entry_list_append (F.args_list_append_2 _ _) (PySem.list_append l its.toArray n u (by rw[eC];omega)) ⟨e,?_⟩
 refine⟨.bR,_,I.Wc (its':=its++[u]) iF e (by simp) (r.append (.cons e4 .nil)) ?_,rfl,q⟩
 rw[ff,List.length_singleton]
 omega
inductive å(x:V)(vs:(List V))(H:ae)(Q:bk):Prop where
 |mk (l:_) (b:_) (xs:_) (zs:_) (b4:x=.ref l) (bL:vs=[.ref b]) (cG:H l=some (.lst xs)) (c2:H b=some (.lst zs)) (dR:xs.length+zs.length≤sizeLine) (eW:Q .bR (upd H l (.lst (xs++zs))))
noncomputable def Ť:V→List V→ae→bk→Prop:=λx vs H Q=>å x vs H Q
theorem anE:RP X "list.extend" Ť:=by
 intro pins s σ H x vs v us Q I bt b7 h
 obtain⟨l,b,xs,zs,rfl,rfl,iF,zL,bQ,q⟩:=h
 cases bt
 obtain⟨u,rfl,e4⟩:=b7.one
 cases e4
 obtain⟨z,its,n,r,ar,e⟩:=I.AD iF
 obtain⟨bL,tL,ew,c8,mU,ay⟩:=I.AD zL
 have hsz:its.toArray.size+tL.toArray.size≤sizeLine:=by rw[eC,eC];omega
 have aiL:¬(!its.toArray.isEmpty&&PZ (its.toArray.size+tL.toArray.size))=true:=by
  rw[ã hsz,Bool.and_false]
  exact fb
 refine call_meets F.slot_list_extend ⟨_,e,rfl⟩ F.entry_list_extend (F.args_list_extend_2 _ _)
  (AutoSeq1.list_extend_list_list_0 l its.toArray n b tL.toArray ew aiL (by rw[eC];omega) (by omega)) ⟨e,ay,?_⟩
 refine⟨.bR,_,I.Wc (its':=its++tL) iF e (by simp) (r.append c8) ?_,rfl,q⟩
 rw[ff]
 omega
inductive adv(x:V)(y:V)(H:ae)(Q:bk):Prop where
 |mk (l:_) (b:_) (xs:_) (zs:_) (b4:x=.ref l) (bL:y=.ref b) (cG:H l=some (.lst xs)) (c2:H b=some (.lst zs)) (dR:xs.length+zs.length≤sizeLine) (eW:∀p,H p=none→Q (.ref p) (upd H p (.lst (xs++zs))))
noncomputable def aee:gL:=λx y H Q=>adv x y H Q
theorem acf:fQ X (rh .Add) aee:=by
 intro pins s σ H x y v u Q I bt bI h
 obtain⟨l,b,xs,zs,rfl,rfl,iF,zL,bQ,q⟩:=h
 cases bt
 cases bI
 obtain⟨z,its,n,r,ar,e⟩:=I.AD iF
 obtain⟨bL,tL,ew,c8,mU,ay⟩:=I.AD zL
 refine PySem.P.add_list e ay ?_ (by rw[eC,eC];omega)
 have bp:its.toArray++tL.toArray=(its++tL).toArray:=by simp
 rw[bp]
 exact⟨.ref _,_,I.V_ (t':=s.toks) (r.append c8) (by rw[ff];omega),rfl,q _ I.fresh⟩
end
end ai
namespace PU
open PySem PySem.W PySem.Calls PyProof.Rows
theorem akH{P:Params}{h:Heap}:∀(ns:List Int)(vs:List Value),WellAll P h vs (ns.map WData.int)→CB vs ns:=by
 intro ns
 induction ns with
 |nil=>
  intro vs w
  rw[HH]at w
  cases w
  exact .nil
 |cons n ns ba=>
  intro vs w
  rw[fX]at w
  cases w with
  |cons a b=>
   cases a
   exact .cons _ _ (ba _ b)
theorem ψ{l:OpenLaw}{n:Nat}(az:l.most=some n){P:Params}{h:Heap}{args:List WData}{vals:List Value}(Eh:l.row.toRowW.claim.pre args=true)(Lp:WellAll P h vals args):
  ∃a vs ns,vals=[da a]∧args=[WData.list (ns.map WData.int)]∧h.get? a=some {cls:=.type "list",data:=.seq vs.toArray}∧CB vs ns∧ns.length≤n:=by
 have l0:WShape.hasAll [] args [.list .int]=true:=(pre_splitW Eh).1
 have aF:l.pre.holds [] {args:=args}=true:=(pre_splitW Eh).2
 obtain⟨d,r,rfl,ag,af⟩:=hasAllW_cons l0
 obtain rfl:=hasAllW_nil af
 obtain⟨xs,rfl,aU⟩:=hasW_list ag
 obtain⟨ns,rfl⟩:=items_int aU
 have hlen:ns.length≤n:=by
  unfold OpenLaw.pre at aF
  have bP:(WTm.not (.lt (.lit (.int (n:Int))) (.len (.arg 0)))).holds [] {args:=[.list (ns.map .int)]}=true:=by
   have bP:=(holds_andW aF).1
   rw[az]at bP
   exact bP
  have cZ:=condW_of bP (w_not (w_lt w_lit (w_len_list (w_arg rfl))))
  rw[bc]at cZ
  refine Nat.le_of_not_lt λq=>?_
  have c4:(n:Int)<((ns.length:Nat):Int):=by omega
  first
   | (rw[dp c4]at cZ;exact bB cZ (by decide))
   | (simp at cZ;omega)
 cases Lp with
 |cons fP fD=>
  cases fD
  cases fP with
  |list a9 KD=>exact⟨_,_,ns,rfl,rfl,a9,akH ns _ KD,hlen⟩
theorem ω(l:OpenLaw)(args:List WData):l.row.toRowW.claim.post args (.bool true) args=true:=
 postW_of (r:=l.row.toRowW) (X:=(true==true))
  (show WShape.has [] (.bool true) .bool=true by first|rfl|decide|simp[WShape.has,WShape.arms,WShape.armsAll])
  (show(WTm.eq .res (.lit (.bool true))).value [] {args:=args,res:=some (.bool true),after:=args}=some (.bool (true==true))from w_eq_bool (w_res rfl) w_lit) rfl
theorem afA{l:OpenLaw}{n:Nat}{q:bT}{loose:List Str}{vx:(Str→Option Value)→Heap→Prop}{q':bJ→Heap→Prop}{d:DefRec}(az:l.most=some n)(zY:d.params.defaults=[])(call:∀(w:bJ)(hN dw:ax)(aa nc:Str→Option Value)(gN:Addr)(o:Obj)(pm cd doc:Value)(a:Addr)(vs:List Value)(ns:List Int),
   Ground q loose [] vx w hN aa nc dw.heap→q' w dw.heap→
   dw.heap.get? gN=some o→o.data=.func (docDef d.name d.params d.body d.scope pm cd doc)→dw.heap.CodeRec cd d.name→aa d.name=some (.ref gN)→
   dw.heap.get? a=some {cls:=.type "list",data:=.seq vs.toArray}→CB vs ns→ns.length≤n→dw.gens=#[]→
   nS (br l.prog w) vE (.call (.ref gN) ⟨[.ref a],[]⟩) (λr s'=>r=.ok (.ret (.bool true))∧OldK dw.heap s'.heap∧s'.os=dw.os∧pU s'.gens) dw):
  WalkO q loose vx q' l.row.toRowW d [] (λf vs=>Su f vs):=by
 intro w hN dw aa nc G Y gN o pm cd doc Dg cQ a9 hd kp cq z7 bf args vals as Eh anU qs Lp anV
 obtain rfl:Dg=.none:=Dflts.none cq zY
 obtain rfl:cQ=.none:=Dflts.noKw cq
 obtain⟨a,vs,ns,rfl,rfl,Lc,hints,hlen⟩:=ψ az Eh Lp
 refine enter_call (tg (call w hN dw aa nc gN o pm cd doc a vs ns G Y a9 (fd_plain hd) kp z7 Lc hints hlen bf) λr s' bg=>?_)
 obtain⟨rfl,af,aU,bP⟩:=bg
 exact⟨.inl ⟨.bool true,.bool true,[],rfl,λ_=>rfl,.bool true,ω l _,λ_=>⟨Rt,λ_ hm=>(nomatch hm)⟩⟩,af,aU,bP⟩
end PU
namespace ai
open PySem PySem.Spec PyProof.Rows
theorem XR:∀{vs:List Value}{ns:List Int},CB vs ns→cj (ns.map V.int) vs
 |_,_,.nil=>.nil
 |_,_,.cons n t h=>.cons ⟨t,rfl⟩ (XR h)
noncomputable def HP(H:ae):Prop:=∀b,H b=none∨∃o xs,H b=some (.d9 o (.lst xs))
theorem æ{P:bT}{w:bJ}{K:a3}{aa nc:Str→Option Value}{CX:lz}{k:Nat}{gN a:Addr}{fd:cP}{x:Str}{sp:cW}{dw:ax}{vs:List Value}{ns:List Int}(oU:K.In dw.heap)(K_:dw.heap.Ns c1 aa)(U:dw.heap.Ns Ta nc)(tA:∀x:Str,x≠"__name__"→nc x=iV x)(aiK:dw.heap.NoLimit)(bf:dw.gens=#[])(aH:dw.heap.get? a=some {cls:=.type "list",data:=.seq vs.toArray})(aj:CB vs ns)(ar:ns.length≤sizeLine)(aw:fU k vE)(F:∀base:Heap,K.In base→base.Ns c1 aa→aY P w K aa base CX k gN fd [x] sp)(aid:∀(s:ax)(u:Value),xA s fd ⟨[u],[]⟩ [(x,u)])(mW:∀H:ae,HP H→aR K H a (ns.map V.int)→sp [.ref a] H (λv _=>v=.bo true) λ_ _ _=>False)(Kk:∀H e s',CX [] H dw (λ_ _ _=>False) e s'→False):
  nS (br P w) vE (.call (.ref gN) ⟨[.ref a],[]⟩) (λr s'=>r=.ok (.ret (.bool true))∧OldK dw.heap s'.heap∧s'.os=dw.os∧pU s'.gens) dw:=by
 have b7:=XR aj
 have ajz:=aj.length
 have core:∀H:ae,HP H→aR K H a (ns.map V.int)→fe P w H dw.heap→(∀b,H b≠none→b=a)→(H a≠none→K.lookup a=none)→
   nS (br P w) vE (.call (.ref gN) ⟨[.ref a],[]⟩) (λr s'=>r=.ok (.ret (.bool true))∧OldK dw.heap s'.heap∧s'.os=dw.os∧pU s'.gens) dw:=by
  intro H D4 f7 bh rB fk
  have S_:∀{b:Addr}{o:Obj},dw.heap.get? b=some o→H b=none→(qP dw.heap H).get? b=some o:=λe n=>Ξ e n
  have AL:∀{b:Addr}{o:Obj}{es:Array qZ}{ep:Nat},dw.heap.get? b=some o→o.data=.dict es ep→H b=none:=λ{b o es ep}e d=>by
   cases q:H b with
   |none=>rfl
   |some u=>
    have b5:b=a:=rB b (by rw[q];simp)
    subst b5
    rw[aH]at e;cases e
    have d':Data.seq vs.toArray _=Data.dict es ep:=d
    cases d'
  have E5:∀{b:Addr}{m:Str→Option Value},dw.heap.Ns b m→(qP dw.heap H).Ns b m:=λ{b m}⟨o,es,ep,e,d,r⟩=>⟨o,es,ep,S_ e (AL e d),d,r⟩
  have UP:K.In (qP dw.heap H):=λb o e=>S_ (oU b o e) (by
   cases q:H b with
   |none=>rfl
   |some u=>
    have b5:b=a:=rB b (by rw[q];simp)
    subst b5
    rw[fk (by rw[q];simp)]at e;cases e)
  have ah5:Mod K aa (qP dw.heap H):=⟨UP,E5 K_,⟨nc,E5 U,tA⟩,let⟨ajI,ag,af⟩:=aiK;⟨ajI,E5 ag,af⟩⟩
  have cF:sy P w K aa (qP dw.heap H) vE [] dw H:=⟨rfl,ah5,λb o e=>Ĭ e,HN (ζ _ _),trivial,λb U=>bB (show b∈([]:List Addr)from U) (by simp),bh,.of_eq bf⟩
  refine tg ((F _ UP (E5 K_)).run vE [] dw H ⟨[.ref a],[]⟩ [.ref a] [.ref a] _ _ aw cF (aid dw (.ref a)) (.cons rfl .nil) (mW H D4 f7)) λr s' h=>?_
  cases r with
  |error e=>exact(Kk H e s' h).elim
  |ok fB=>
   cases fB with
   |next=>exact hQ h
   |brk=>exact hQ h
   |cont=>exact hQ h
   |ret u=>
    obtain⟨v,H',os,bare,un,aiU,cm,q⟩:=h
    have c4:v=.bo true:=q
    subst c4
    obtain rfl:u=Iv true:=cm
    refine⟨rfl,OldK.of_keep λb o e=>?_,os,bare⟩
    cases q:H b with
    |none=>exact un.keep b o e q (by intro z;exact bB (show b∈([]:List Addr)from z) (by simp)) (by simp)
    |some u=>
     rcases D4 b with z|⟨ob,xs,z⟩
     .rw[q]at z;cases z
     .have bL:=un.iY b ob _ z
      obtain⟨av,_⟩:=bh b _ z
      obtain⟨ay,_⟩:=aiU b _ bL
      rw[e]at av;cases av
      exact ay
 cases aK:K.lookup a with
 |some o=>
  have e:=oU a o aK
  rw[aH]at e
  cases e
  refine core (λ_=>none) (λ_=>.inl rfl) (.inr ⟨_,vs.toArray,_,aK,rfl,rfl,rfl,by rw[eC,ajz];exact ar,by simpa using b7⟩) (λb u z=>by have dt:(none:Option d4)=some u:=z;cases dt) (λb z=>bB rfl z) λz=>bB rfl z
 |none=>
  refine core (λb=>if b=a then some (.d9 {cls:=.type "list",data:=.seq vs.toArray} (.lst (ns.map V.int)))else none) (λb=>?_) (.inl (.inr ⟨{cls:=.type "list",data:=.seq vs.toArray},aI rfl⟩)) (λb u z=>?_) (λb z=>?_) λ_=>aK
  .by_cases U:b=a
   .exact .inr ⟨_,_,aI U⟩
   .exact .inl (aD U)
  .by_cases U:b=a
   .have dt:=(aI U).symm.trans z
    cases dt
    subst U
    exact⟨aH,by rw[bc];exact ar,vs,_,b7,aH⟩
   .have dt:=(aD U).symm.trans z
    cases dt
  .by_cases U:b=a
   .exact U
   .exact bB (aD U) z
noncomputable abbrev am9{K:a3}{h:Heap}(_:K.In h):a3:=K
theorem amd{l:Si}{n k:Nat}{q:bT}{loose:List Str}{vx:(Str→Option Value)→Heap→Prop}{q':bJ→Heap→Prop}{d:DefRec}{K:Params→a3}{CX:bJ→lz}{sp:bJ→cW}{x:Str}(az:l.most=some n)(z8:n≤sizeLine)(zY:d.params.defaults=[])(aw:fU k vE)(Ky:∀(w:bJ)(h:Heap),q' w h→(K w.params).In h)(F:∀(w:bJ)(aa:Str→Option Value)(gN:Addr)(h:Heap),(K w.params).In h→h.Ns c1 aa→aa d.name=some (.ref gN)→
   ∃fd:cP,(∀(s:ax)(u:Value),xA s fd ⟨[u],[]⟩ [(x,u)])∧
    ∀base:Heap,(K w.params).In base→base.Ns c1 aa→aY l.prog w (K w.params) aa base (CX w) k gN fd [x] (sp w))(mW:∀(w:bJ)(H:ae)(a:Addr)(ns:List Int),ns.length≤n→HP H→aR (K w.params) H a (ns.map V.int)→sp w [.ref a] H (λv _=>v=.bo true) λ_ _ _=>False)(Kk:∀(w:bJ)(H:ae)(s:ax)(e:Value)(s':ax),CX w [] H s (λ_ _ _=>False) e s'→False):
  abv q loose vx q' l.row.toRowW d [] (λf vs=>Su f vs):=by
 refine PU.afA az zY λw hN dw aa nc gN o pm cd doc a vs ns G Y a9 hd kp z7 Lc hints hlen bf=>?_
 have oU:=Ky w _ Y
 obtain⟨fd,U,n2⟩:=F w aa gN _ oU G.T.g z7
 exact æ oU G.T.g G.T.b G.T.builtins G.T.nolimit bf Lc hints (gm hlen z8) aw n2 U (λH D4 f7=>mW w H a ns hlen D4 f7) λH e s'=>Kk w H dw e s'
end ai
namespace ai
open PySem PySem.Spec PyProof.Rows
noncomputable def iH(s:Stmt)(j:Nat):Stmt:=match s with
 |.ClassDef _ _ _ body _ _ _ _ _ _ _=>body.getD j (.Pass ⟨0,0,0,0⟩)
 |_=>.Pass ⟨0,0,0,0⟩
noncomputable def AR(s:Stmt):Arguments:=match s with
 |.FunctionDef _ a _ _ _ _ _ _ _ _=>a
 |_=>{posonlyargs:=[],args:=[],vararg:=none,kwonlyargs:=[],kw_defaults:=[],kwarg:=none,defaults:=[]}
noncomputable def rL(s:Stmt):List Stmt:=match s with
 |.FunctionDef _ _ b _ _ _ _ _ _ _=>b
 |_=>[]
noncomputable def dh(s:Stmt):Scope:=match s with
 |.FunctionDef _ _ _ _ _ _ sc _ _ _=>sc
 |_=>{kind:=.function,names:=[],isGenerator:=false,isCoroutine:=false}
noncomputable abbrev bu:lz:=λ_ _ _ _ _ _=>False
noncomputable abbrev uN:cy:=λ_ _ _=>False
theorem dI{X:bw}:pD bu X uN:=λ_ _ _ _ _ _ _ h=>h.elim
structure b0(K:a3)(x b_:Str)(st:Stmt)(f:Addr)(fd:cP):Prop where
 ex:∃(lh:Value)(dP:Option Addr)(cQ doc pm:Value)(an:Option Addr)(bC fA:Value)(ot:Array (Option Value)),
  fd=vr x b_ (AR st) (rL st) (dh st) .none cQ doc pm an bC fA∧K.lookup f=some ⟨lh,dP,.func fd,ot⟩∧Sj K bC b_=true
 cN:o1 K (.ref f)=true
section
variable{P:bT}{w:bJ}{K:a3}{aa:Str→Option Value}{base:Heap}
theorem b0.ok{x b_:Str}{st:Stmt}{f:Addr}{fd:cP}{N ps:List Str}{k:Nat}{sp:cW}(F:b0 K x b_ st f fd)(S:dT N ps (dh st))(len:∀vs H Q E,sp vs H Q E→vs.length=ps.length)(tB:∀(bC:Value)(A:c5)(outer:List Env)(s:ax)(H:ae)(vs:List V)(Q:bk)(E:cy),fU k (A.deeper (ph b_ (dh st) s.heap.objs.size f bC))→sp vs H Q E→
   ∃t,hT (j6 bu P w K aa base N b_ (dh st) f bC A outer s H E).wY (rL st) t∧t {b':=λ_ H'=>Q .bR H',rt:=Q} (start N vs) H):aY P w K aa base bu (k+1) f fd ps sp:=by
 obtain⟨lh,dP,cQ,doc,pm,an,bC,fA,ot,rfl,lk,kp⟩:=F.ex
 refine Hh lk kp S len λA outer s H vs Q E aw mW=>?_
 obtain⟨t,h,q⟩:=tB bC A outer s H vs Q E aw mW
 exact⟨t,h.wY,q⟩
theorem b0.binds{x b_:Str}{st:Stmt}{f:Addr}{fd:cP}{ps:List Str}(F:b0 K x b_ st f fd)(h:∀(cQ doc pm:Value)(an:Option Addr)(bC fA:Value)(us:List Value),us.length=ps.length→bindArgs (vr x b_ (AR st) (rL st) (dh st) .none cQ doc pm an bC fA) ⟨us,[]⟩=pure (ps.zip us)):Binds K fd ps []:=by
 obtain⟨lh,dP,cQ,doc,pm,an,bC,fA,ot,rfl,lk,kp⟩:=F.ex
 exact .all (h cQ doc pm an bC fA)
theorem ee{x b_:Str}{st:Stmt}{f:Addr}{lh:Value}{dP an:Option Addr}{ot:Array (Option Value)}{cQ doc pm bC fA:Value}(l:K.lookup f=some ⟨lh,dP,.func (vr x b_ (AR st) (rL st) (dh st) .none cQ doc pm an bC fA),ot⟩)(c:Sj K bC b_=true)(k:o1 K (.ref f)=true):b0 K x b_ st f (vr x b_ (AR st) (rL st) (dh st) .none cQ doc pm an bC fA):=⟨⟨lh,dP,cQ,doc,pm,an,bC,fA,ot,rfl,l,c⟩,k⟩
end
theorem hJ{A:c5}{k:Nat}(aw:fU k A):A.units+1<cLine:=lG (Nat.add_le_add_left (by decide:1≤64) _) aw.units
theorem fh{n:Nat}(h:n≤1000):n<sizeLine:=lG h (by decide)
section
variable{X:bw}
theorem ah(i:Nat){x:Str}{pos:Pos}(fl:X.N[i]?=some x:=by rfl)(bG:Iy X.env.scope x:=by first|exact cC rfl|exact kb (cC rfl)|exact kb (kb rfl))(hd:(x==("__debug__":Str))=false:=by decide)(kp:(x==("__classdict__":Str))=false:=by decide):bE X (.Name x pos) (SI i):=abh fl bG hd kp
end
theorem ky{A B:Prop}(h:B):if false=true then A else B:=by
 rw[aD fb]
 exact h
theorem j7{A B:Prop}(h:A):if true=true then A else B:=by
 rw[aI rfl]
 exact h
theorem H9{c A B:Prop}[Decidable c](ag:c→A)(af:¬c→B):if c then A else B:=by
 by_cases h:c
 .rw[aI h]
  exact ag h
 .rw[aD h]
  exact af h
theorem Hd{c A B:Prop}[Decidable c](aF:c)(h:B):if(!decide c)=true then A else B:=by
 rw[dp aF]
 exact ky h
noncomputable def aP(H H':ae):Prop:=∀b o,H b=some o→H' b=some o
theorem aP.refl(H:ae):aP H H:=λ_ _ h=>h
theorem aP.trans{H H1 ak:ae}(a:aP H H1)(b:aP H1 ak):aP H ak:=λc o h=>b c o (a c o h)
theorem aP.free{H H':ae}(e:aP H H'){l:Addr}(h:H' l=aa6):H l=aa6:=by
 cases q:H l with
 |none=>rfl
 |some o=>
  rw[e l o q]at h
  cases h
theorem aP.seq{K:a3}{H H':ae}{a:Addr}{xs:List V}(e:aP H H')(h:aR K H a xs):aR K H' a xs:=by
 rcases h with(h|⟨o,h⟩)|h
 .exact .inl (.inl (e _ _ h))
 .exact .inl (.inr ⟨o,e _ _ h⟩)
 .exact .inr h
end ai
set_option maxHeartbeats 4000000
namespace cA
open PySem PySem.Spec PyProof.Rows ai
noncomputable abbrev St:=ai.St
noncomputable abbrev V:=ai.V
noncomputable abbrev oZ:Value→ax→Prop:=λ_ _=>False
theorem ť{α:Type}{M:nK}{A:c5}{t:Sem α}{Q:α→ax→Prop}{E:Value→ax→Prop}{s:ax}(h:aX M A t Q oZ s):aX M A t Q E s:=
 fa h (λ_ _ q=>q) λ_ _ z=>hQ z
theorem Zo{prog:bT}{w:bJ}{A:c5}{R:vv→ax→Prop}{s:ax}{elt dq iter:Expr}{ifs:List Expr}{scope:Scope}{pos:Pos}{it acc:Value}{env:Env}(I:Nat→ax→Prop)(turn:∀n s,I n s→aX (br prog w) A (kB it) (λr s1=>match r with
   |none=>R (.ok .next) s1
   |some v=>aX (br prog w) A (Mj dq it v) (λ_ s2=>aX (br prog w) A (vz dq env v) (λ_ s3=>
     aX (br prog w) A (forIn ifs true λc r=>if r=true then do let ok ←Af c env (eval c env);pure (G8 ok)else pure (G8 r)) (λok s4=>
      if ok=true then aX (br prog w) A (eval elt env) (λx s5=>aX (br prog w) A (call (.builtin "list.append") [acc,x]) (λ_ h5=>∃m,m<n∧I m h5) oZ s5) oZ s4
      else∃m,m<n∧I m s4) oZ s3) oZ s2) oZ s1) oZ s)(n:Nat)(h:I n s):nS (br prog w) A (.compLoop (.ListComp elt [⟨dq,iter,ifs,0⟩] scope pos) 0 it acc env) R s:=by
 refine codeAny_loop rfl I (λn s D2=>?_) n h
 show aX _ A ((compTurn (.ListComp elt [⟨dq,iter,ifs,0⟩] scope pos) 0 it acc env).onRaise (λx=>do MS x env;theTreesLotGoes x)) _ _ s
 refine wpAny_noted (ť ?_)
 rw[compTurn_list]
 refine aJ (BM (aJ (fa (turn n s D2) (λr s1 ag=>?_) λ_ _ z=>z)))
 cases r with
 |none=>exact bM ag
 |some v=>
  refine aJ (fa ag (λ_ s2 af=>aJ (fa af (λ_ s3 aU=>aJ (fa aU (λok s4 bP=>?_) λ_ _ z=>z)) λ_ _ z=>z)) λ_ _ z=>z)
  cases ok with
  |false=>exact bM ⟨rfl,bP⟩
  |true=>exact aJ (aJ (fa bP (λx s5 cZ=>aJ (fa cZ (λ_ h5 qi=>bM (bM ⟨rfl,qi⟩)) λ_ _ z=>z)) λ_ _ z=>z))
noncomputable def gO(cs:List (Option Nat))(σ:St):St:=cs.map λo=>o.bind λj=>(σ[j]?).bind id
noncomputable def m2(X:bw)(N':List Str)(scope:Scope)(cl:List (Str×Addr))(C:Addr)(s3:ax)(bD:ae)(cu:List Addr)(ey:List (Addr×Obj)):bw:=
 {X with N:=N',hN:=s3,kP:=bD,env:=compEnvC scope cl C X.env,outer:=X.stack,stack:=X.stack,ex:=cu,fn:=λ_=>false,ey:=ey,dj:=λ_ _=>False}
noncomputable def B0(k:Option sV):Prop:=k=some .cell∨k=some .free
inductive nh(X:bw)(scope:Scope)(cl:List (Str×Addr)):List Str→List (Option Nat)→Prop
 |nil:nh X scope cl [] []
 |own {x N cs}:nh X scope cl N cs→nh X scope cl (x::N) (none::cs)
 |iW {x j N cs} (ag:X.N[j]?=some x) (af:B0 (X.env.kindOf x)) (aU:B0 ((FH scope X.env).names.lookup x)) (bP:cl.lookup x=X.env.cells.lookup x):
   nh X scope cl N cs→nh X scope cl (x::N) (some j::cs)
theorem nh.len{X:bw}{scope:Scope}{cl:List (Str×Addr)}{N cs}(h:nh X scope cl N cs):cs.length=N.length:=by
 induction h with
 |nil=>rfl
 |own _ ba=>simp[ba]
 |iW _ _ _ _ _ ba=>simp[ba]
theorem nh.get{X:bw}{scope:Scope}{cl:List (Str×Addr)}{N cs}(h:nh X scope cl N cs){σ:St}:∀{i:Nat}{x:Str}{v:V},N[i]?=some x→(gO cs σ)[i]?=some (some v)→
  ∃j:Nat,X.N[j]?=some x∧σ[j]?=some (some v)∧B0 (X.env.kindOf x)∧B0 ((FH scope X.env).names.lookup x)∧cl.lookup x=X.env.cells.lookup x:=by
 induction h with
 |nil=>intro i x v ag af;simp at ag
 |own _ ba=>
  intro i x v ag af
  cases i with
  |zero=>simp[gO]at af
  |succ i=>exact ba (i:=i) (by simpa using ag) (by simpa[gO]using af)
 |@iW y j N cs a1 a2 ft hl _ ba=>
  intro i x v ag af
  cases i with
  |zero=>
   simp at ag
   subst ag
   refine⟨j,a1,?_,a2,ft,hl⟩
   simp[gO]at af
   cases q:σ[j]? with
   |none=>rw[q]at af;simp at af
   |some o=>
    rw[q]at af
    simp at af
    rw[af]
  |succ i=>exact ba (i:=i) (by simpa using ag) (by simpa[gO]using af)
noncomputable def CO(cl:List (Str×Addr))(names:List (Str×sV)):Bool:=names.all λy=>(y.2 !=.cell&&y.2 !=.free)||(cl.lookup y.1).isSome
theorem Î{cl:List (Str×Addr)}{names:List (Str×sV)}(h:CO cl names=true){x:Str}(k:B0 (names.lookup x)):∃c,cl.lookup x=some c:=by
 have key:∀q:sV,names.lookup x=some q→(q=.cell∨q=.free)→∃c,cl.lookup x=some c:=λq e bg=>by
  have m:=CF.mp h (x,q) (yL e)
  rcases bg with rfl|rfl
  .exact yB.mp (by simpa using m)
  .exact yB.mp (by simpa using m)
 rcases k with k|k
 .exact key _ k (.inl rfl)
 .exact key _ k (.inr rfl)
noncomputable def x7(X:bw)(ifs:List Expr)(t:TT):Prop:=
 ∀(pins:List (Addr×Obj))(s:ax)(σ:St)(H:ae)(Q:Bool→ae→Prop),Inv X pins σ H s→t σ H Q→
  aX (br X.prog X.w) X.A (forIn ifs true λc r=>if r=true then do let ok ←Af c X.env (eval c X.env);pure (G8 ok)else pure (G8 r)) (C7 X pins σ Q) X.dj s
noncomputable def qR:TT:=λ_ H Q=>Q true H
theorem nZ{X:bw}:x7 X [] qR:=λ_ _ _ H _ I h=>wpAny_tests_nil ⟨H,I,h⟩
theorem tQ{X:bw}{c:Expr}{t:TT}(h:kc X c t):x7 X [c] t:=λpins s σ H Q I q=>wpAny_tests_one (h pins s σ H Q I q)
noncomputable def kI(wi:TI)(cs:List (Option Nat))(g:ic)(tt:TT)(bY:TE):TE:=λσ H Q=>wi σ H λJ H1=>∀D,H1 D=none→
 ∃W:Nat→Nat→List V→St→ae→Prop,(∃m,W 0 m [] (gO cs σ) (upd H1 D (.lst [])))∧∀i m ys a6 H',W i m ys a6 H'→H' D=some (.lst ys)∧ys.length<sizeLine∧
  ((J.stop i H'∧Q (.ref D) H')∨(J.go i H'∧∀x ak,J.ml i H' x ak→g x a6 ak λf' bD=>tt f' bD λb d0=>
   if b=true then bY f' d0 λy bU=>bU D=some (.lst ys)∧∃cR,cR<m∧W (i+1) cR (ys++[y]) f' (upd bU D (.lst (ys++[y])))
   else∃cR,cR<m∧W (i+1) cR ys f' d0))
section
variable{X:bw}{elt dq iter:Expr}{ifs:List Expr}{scope:Scope}{pos:Pos}{N':List Str}{cs:List (Option Nat)}{cl:List (Str×Addr)}{wi:TI}{g:ic}{tt:TT}{bY:TE}
theorem QG{use:Option (Value→Sem Unit)}{QQ:Value→ax→Prop}{pins:List (Addr×Obj)}{s:ax}{σ:St}{H:ae}{Q:bk}{ahO:Pos}(aF:X.calm=true)(aj:lH X dq iter wi)(zW:Tf scope X.env=pure cl)(rE:∀y∈scope.names,y.2≠.cell)(qo:scope.kind=.function)(z9:∀y∈scope.names,y.2=.local→scope.names.lookup y.1=some .local)(mX:∀x c,cl.lookup x=some c→X.env.cells.lookup x=some c)(bh:CO cl (FH scope X.env).names=true)(v9:nh X scope cl N' cs)(U:∀(C:Addr)(s3:ax)(bD:ae)(cu:List Addr)(ey:List (Addr×Obj)),nM (m2 X N' scope cl C s3 bD cu ey) dq g∧x7 (m2 X N' scope cl C s3 bD cu ey) ifs tt∧bE (m2 X N' scope cl C s3 bD cu ey) elt bY)(hs:∀x,Kb iter X.env x=pure x:=by intro _;rfl)(I:Inv X pins σ H s)(h:kI wi cs g tt bY σ H Q)(post:∀(D C:Addr)(s4:ax)(H':ae)(m:Str→Option Value),Inv X pins σ H' s4→s4.heap.Ns C m→sl X pins H' C→Q (.ref D) H'→compPost (br X.prog X.w) X.A X.dj use QQ (.ref D) C (.ok .next) s4):
  aX (br X.prog X.w) X.A (comprehension (.ListComp elt [⟨dq,iter,ifs,0⟩] scope pos) scope X.env ahO (newList []) false (eval iter X.env) use) QQ X.dj s:=by
 refine wpAny_comprehension_free (use:=use) rfl hs zW qo z9 (bH (aj pins s σ H _ I h) λv s1 ag=>bH ag λL1 s2 af=>?_)
 obtain⟨it,cu,hE,J,ak,rfl,bK,T,FW,f2,cp⟩:=af
 refine sj (wpAny_newFunctionEnv rE (by intro y aT;simp at aT) (λag La Lh=>?_) qo)
 dsimp only at La Lh⊢
 have cT:Inv X pins σ (upd ak s2.heap.objs.size (.lst [])) {s2 with heap:=s2.heap.push {cls:=.type "list",data:=.seq ([]:List Value).toArray},toks:=s2.toks}:=bK.V_ (its:=[]) (ys:=[]) .nil (ea _)
 have ah2:ak s2.heap.objs.size=none:=bK.fresh
 obtain⟨W,⟨m0,BH⟩,turn⟩:=cp _ ah2
 generalize UO:s2.heap.push {cls:=.type "list",dict:=none,data:=.seq ([]:List Value).toArray}=aU at La Lh cT⊢
 have VJ:aU.objs.size=s2.heap.objs.size+1:=by rw[←UO,Cy]
 generalize cq:s2.heap.objs.size=D at *
 have kept:∀b o,aU.get? b=some o→ag.get? b=some o:=λb o e=>Lh.extBut b o (en (du e)) (dy _ e)
 have old:∀b o,s2.heap.get? b=some o→aU.get? b=some o:=λb o e=>by rw[←UO];exact dy _ e
 have DR:∀b∈cu,b<D:=λb cJ=>by
  obtain⟨o,e,_⟩:=T.obj 0 _ FW b cJ
  rw[←cq]
  exact du e
 have Uh:∀b∈cu,b∉fG X.stack:=λb cJ z=>by
  obtain⟨_,f1,dc,_⟩:=f2 b cJ
  rcases fy.mp (bK.Br b z)with e|e
  .exact f1 e
  .exact dc e
 generalize mS:m2 X N' scope cl aU.objs.size {s2 with heap:=aU,toks:=s2.toks} (upd ak D (.lst [])) cu (X.ey++pins)=jg
 obtain⟨bf,Vm,he⟩:=U aU.objs.size {s2 with heap:=aU,toks:=s2.toks} (upd ak D (.lst [])) cu (X.ey++pins)
 rw[mS]at bf Vm he
 have tk:jg.prog=X.prog:=by rw[←mS];rfl
 have tl:jg.w=X.w:=by rw[←mS];rfl
 have Tj:jg.K=X.K:=by rw[←mS];rfl
 have Ti:jg.calm=X.calm:=by rw[←mS];rfl
 have iP:Inv jg [] (gO cs σ) (upd ak D (.lst [])) {s2 with heap:=ag,toks:=s2.toks+0}:=by
  rw[←mS]
  refine⟨⟨cT.ok.mod,qo,cT.ok.glob,cT.ok.blt,b1 _,λx y c av ay=>cT.ok.inj x y c (mX _ _ av) (mX _ _ ay),λx ao=>Î bh ao,λx c z _=>bB (show false=true from z) fb,cT.ok.hd,cT.ok.frames,.inl rfl,
   λb cJ=>⟨λe=>?_,λx c e=>(f2 b cJ).2.2.2.2.1 x c (mX _ _ e)⟩,cT.bs,gm cT.ok.pa cT.i_,λb o e cJ=>?_,Uh,cT.stack,cT.FX⟩,rfl,cT.bare,hk.kept kept,⟨_,La,λi x v av ay cv=>?_⟩,λx c e=>?_,cT.bh.fresh (b1 _),λx c e=>cT.lT x c (mX _ _ e),
   λp aQ=>?_,cT.bh.kept kept,?_⟩
  .have l:=DR b cJ
   rw[show b=aU.objs.size from e,VJ]at l
   exact p2 _ (RQ l)
  .have l:=DR b cJ
   rcases(f2 b cJ).2.2.2.1 with z|z
   .exact bK.ok.ua b o e z
   .exact bB (jC (du (bK.ok.bs b o e).1) z) (p2 _)
  .obtain⟨j,a1,a2,ft,hl,yQ⟩:=v9.get av ay
   obtain⟨m,az,ar⟩:=cT.loc
   obtain⟨u,e4,l⟩:=ar j x v a1 a2 (by rcases ft with z|z;exact .inr (.inl z);exact .inr (.inr z))
   refine⟨u,e4,.inr ⟨hl,?_⟩⟩
   rcases l with⟨k,_⟩|⟨k,c,e,z⟩
   .rcases ft with q|q<;>(rw[k]at q;cases q)
   .obtain⟨o,a9,hd⟩:=z
    exact⟨c,yQ.trans e,o,kept c o a9,hd⟩
  .obtain⟨v,o,a9,hd⟩:=cT.cell x c (mX _ _ e)
   exact⟨v,o,kept c o a9,hd⟩
  .have aiW:p∈X.ey++pins:=by simpa[m2]using aQ
   obtain⟨e,n,ne,gJ,d⟩:=cT.pin p aiW
   refine⟨kept _ _ e,n,en (du e),λz=>?_,d⟩
   rcases fy.mp (cT.Br p.1 z)with q|q
   .exact ne q
   .exact gJ q
  .show(gO cs σ).length=N'.length
   rw[gO,bc]
   exact v9.len
 have xm:hE 0 ag:=T.keep 0 _ _ FW λb cJ o e=>kept b o (old b o e)
 have uv:∀{H':ae},(∀b∈cu,H' b=none)→∀b∈cu,sl jg [] H' b:=λ{H'}az b cJ=>by
  rw[←mS]
  refine⟨az b cJ,λe=>?_,Uh b cJ,.inl cJ,λx c e=>(f2 b cJ).2.2.2.2.1 x c (mX _ _ e),λp aQ=>(f2 b cJ).2.2.2.2.2 p (by simpa[m2]using aQ)⟩
  have l:=DR b cJ
  rw[show b=aU.objs.size from e,VJ]at l
  exact p2 _ (RQ l)
 have ahP:∀b∈cu,(upd ak D (.lst [])) b=none:=λb cJ=>by
  rw[aG (en (DR b cJ))]
  exact(f2 b cJ).1
 have xv:jg.A=X.A:=by rw[←mS];rfl
 have Gp:jg.env=compEnvC scope cl aU.objs.size X.env:=by rw[←mS];rfl
 have Gr:jg.dj=oZ:=by rw[←mS];rfl
 have loop:nS (br X.prog X.w) X.A (.compLoop (.ListComp elt [⟨dq,iter,ifs,0⟩] scope pos) 0 (.ref it) (.ref D) (compEnvC scope cl aU.objs.size X.env))
   (compPost (br X.prog X.w) X.A X.dj use QQ (.ref D) aU.objs.size) {s2 with heap:=ag,toks:=s2.toks+0}:=by
  refine Zo (λn s'=>∃i ys a6 H',Inv jg [] a6 H' s'∧hE i s'.heap∧(∀b∈cu,H' b=none)∧W i n ys a6 H') ?_ m0 ⟨0,[],_,_,iP,xm,ahP,BH⟩
  rintro n s' ⟨i,ys,a6,H',nG,aM,Ui,fO⟩
  obtain⟨et,aji,lY⟩:=turn i n ys a6 H' fO
  rcases lY with⟨stop,q⟩|⟨go,step⟩
  .have hd:=T.done jg tk tl Tj (Ti.trans aF) i [] s' a6 H' oZ nG (uv Ui) aM stop
   rw[xv]at hd
   refine bH hd λr s4 aw=>?_
   obtain⟨rfl,iQ⟩:=aw
   obtain⟨m,az,_⟩:=id iQ.loc
   have k4:jg.env.locals=aU.objs.size:=by rw[Gp];rfl
   have Ea:H' aU.objs.size=none:=by rw[←k4];exact iQ.free
   have ri:=iQ.base
   rw[←mS]at ri
   have aiV:s4.os=s2.os:=by
    have z:=iQ.os
    rw[←mS]at z
    exact z
   have Vq:=iQ.bh
   rw[tk,tl]at Vq
   have ò:Inv X pins σ H' s4:=cT.JG (s':=s4) (ch:=cu) aiV ⟨ri.keep,ri.slot,ri.free,ri.there,ri.h7,ri.iY,ri.jx⟩ Vq iQ.bare λb cJ=>by
    obtain⟨_,g1,_,g3,tw,ahU⟩:=f2 b cJ
    exact⟨g3,g1,tw,ahU⟩
   exact post D aU.objs.size s4 H' m ò (by rw[k4]at az;exact az) (cT.qe (b1 _) Ea) q
  .have hit:=T.item jg tk tl Tj (Ti.trans aF) i [] s' a6 H' oZ nG (uv Ui) aM go
   rw[xv]at hit
   refine bH hit λr s4 aw=>?_
   obtain⟨u,rfl,bP⟩:=aw
   refine bH bP λ_ s5 cZ=>?_
   obtain⟨x,bU,iQ,A4,Pp,uu,Kc⟩:=cZ
   have Hi:=iQ.pinned (uv Kc) (T.obj _ _ uu)
   have aH:=bf _ s5 a6 bU x u _ Hi A4 (step x bU Pp)
   rw[xv,Gp,Gr,tk,tl]at aH
   refine bH aH λ_ h5 qi=>?_
   obtain⟨B',kN,sJ,Nl⟩:=qi
   have cw:=Vm _ h5 B' kN _ sJ Nl
   rw[xv,Gp,Gr,tk,tl]at cw
   refine bH cw λok pO iE=>?_
   obtain⟨eO,kQ,mb⟩:=iE
   have back:∀{nC:St}{h_:ae}{oz:ax}{Pr:List V}{cR:Nat},Inv jg ([]++A6 cu s5.heap) nC h_ oz→cR<n→W (i+1) cR Pr nC h_→
     ∃m,m<n∧∃i ys a6 H',Inv jg [] a6 H' oz∧hE i oz.heap∧(∀b∈cu,H' b=none)∧W i m ys a6 H':=λ{nC h_ oz Pr cR}lD hm OS=>by
    refine⟨cR,hm,i+1,Pr,nC,h_,lD.F7,T.keep _ _ _ uu λb cJ o e=>(lD.pin (b,o) (p0 _ (p0 _ (Ep cJ e)))).1,λb cJ=>?_,OS⟩
    obtain⟨o,e,d⟩:=T.obj _ _ uu b cJ
    exact(lD.pin (b,o) (p0 _ (p0 _ (Ep cJ e)))).2.1
   cases ok with
   |false=>
    rw[aD fb]at mb⊢
    obtain⟨cR,hm,OR⟩:=mb
    exact back kQ hm OR
   |true=>
    rw[aI rfl]at mb⊢
    have Vg:=he _ pO B' eO _ kQ mb
    rw[xv,Gp,Gr,tk,tl]at Vg
    refine bH Vg λamH oz Ki=>?_
    obtain⟨y,h_,lD,NC,ah1,cR,hm,OS⟩:=Ki
    have U0:=nR (X:=jg) _ oz B' h_ (.ref D) [y] (.ref D) [amH] (λ_ vb=>vb=upd h_ D (.lst (ys++[y]))) lD rfl (.cons NC .nil) ⟨D,ys,y,rfl,rfl,ah1,aji,rfl⟩
    rw[xv,Gr,tk,tl]at U0
    refine bH U0 λ_ aoB pq=>?_
    obtain⟨_,vb,ç,_,rfl⟩:=pq
    exact back ç hm OS
 exact codeAny_compStart_list loop (T.self _ 0 _ _ _ xm loop)
theorem qE(aF:X.calm=true)(aj:lH X dq iter wi)(zW:Tf scope X.env=pure cl)(rE:∀y∈scope.names,y.2≠.cell)(qo:scope.kind=.function)(z9:∀y∈scope.names,y.2=.local→scope.names.lookup y.1=some .local)(mX:∀x c,cl.lookup x=some c→X.env.cells.lookup x=some c)(bh:CO cl (FH scope X.env).names=true)(v9:nh X scope cl N' cs)(U:∀(C:Addr)(s3:ax)(bD:ae)(cu:List Addr)(ey:List (Addr×Obj)),nM (m2 X N' scope cl C s3 bD cu ey) dq g∧x7 (m2 X N' scope cl C s3 bD cu ey) ifs tt∧bE (m2 X N' scope cl C s3 bD cu ey) elt bY)(hs:∀x,Kb iter X.env x=pure x:=by intro _;rfl):bE X (.ListComp elt [⟨dq,iter,ifs,0⟩] scope pos) (kI wi cs g tt bY):=by
 intro pins s σ H Q I h
 rw[eval_ListComp]
 refine QG aF aj zW rE qo z9 mX bh v9 U hs I h λD C s4 H' m iP az J5 q=>⟨m,az,λh' rK=>⟨.ref D,H',?_,rfl,q⟩⟩
 obtain⟨f0,f1,f2,dc,f4,eU⟩:=J5
 exact iP.turned (t':=s4.toks) (λb o U e=>(rK.2 b U).trans e) f0 f1 dc f4 eU
theorem qg{i:Nat}{y:Str}{py Xm:Pos}(fl:X.N.Nodup)(aiE:X.N[i]?=some y)(Vs:X.env.scope.names.lookup y=some .local)(ajd:xl (.ListComp elt [⟨dq,iter,ifs,0⟩] scope pos) (some (.Name y py)) Xm.line X.env=pure true)(aF:X.calm=true)(aj:lH X dq iter wi)(zW:Tf scope X.env=pure cl)(rE:∀y∈scope.names,y.2≠.cell)(qo:scope.kind=.function)(z9:∀y∈scope.names,y.2=.local→scope.names.lookup y.1=some .local)(mX:∀x c,cl.lookup x=some c→X.env.cells.lookup x=some c)(bh:CO cl (FH scope X.env).names=true)(v9:nh X scope cl N' cs)(U:∀(C:Addr)(s3:ax)(bD:ae)(cu:List Addr)(ey:List (Addr×Obj)),nM (m2 X N' scope cl C s3 bD cu ey) dq g∧x7 (m2 X N' scope cl C s3 bD cu ey) ifs tt∧bE (m2 X N' scope cl C s3 bD cu ey) elt bY)(hs:∀x,Kb iter X.env x=pure x:=by intro _;rfl):gn X (.Assign [.Name y py] (.ListComp elt [⟨dq,iter,ifs,0⟩] scope pos) Xm) (sk (kI wi cs g tt bY) (gr i)):=by
 intro pins s σ H D0 I h
 rw[exec_Assign_Name_used _ _ _ _ ajd]
 refine aJ (BM (aJ ?_))
 show aX _ X.A (do let _ ←comprehension (.ListComp elt [⟨dq,iter,ifs,0⟩] scope pos) scope X.env _ (newList []) false (eval iter X.env) (some (vz (.Name y py) X.env))) _ _ s
 refine aJ (fa (QG (use:=some (vz (.Name y py) X.env)) (QQ:=λ_ s'=>s9 X pins D0 .next s') aF aj zW rE qo z9 mX bh v9 U hs I h ?_) (λ_ s' bg=>bM (bM bg)) λ_ _ e=>e)
 intro D C s4 H' m iP az J5 q
 obtain⟨f0,f1,f2,dc,f4,eU⟩:=J5
 refine amh (XM iP fl aiE (.inl Vs) (v:=.ref D) rfl (λh5 sJ⟨a,bX,aH⟩=>?_) (.inr Vs))
 have ah0:C≠a:=by
  rcases aH with rfl|aH
  .exact f1
  .exactλe=>f4 _ _ aH e.symm
 refine⟨m,az.sameBut bX ah0,λh' rK=>⟨_,H',?_,q⟩⟩
 exact sJ.turned (t':=h5.toks) (λb o U e=>(rK.2 b U).trans e) f0 f1 dc f4 eU
end
noncomputable def mC(J:e7)(H1:ae)(xs:List V):Prop:=∀H',aP H1 H'→J.stop xs.length H'∧(∀i,i<xs.length→J.go i H')∧∀i x ak,i<xs.length→J.ml i H' x ak→ak=H'∧xs[i]?=some x
theorem n0{K:a3}{a:Addr}{xs:List V}{H1:ae}(h:aR K H1 a xs):mC (jc K a) H1 xs:=λH' aC=>
 ⟨⟨xs,aC.seq h,b1 _⟩,λi aj=>⟨xs,xs[i],aC.seq h,by simp[aj]⟩,λi x ak _ y=>⟨y.1,y.2 xs (aC.seq h)⟩⟩
theorem Ï{H1:ae}(lo:Int)(n:Nat):mC (pY lo n) H1 ((c_ n).map λi:Nat=>V.int (lo+i)):=λH' _=>
 ⟨by show n≤_;simp,λi aj=>(by simpa using aj:i<n),λi x ak aj y=>by
  obtain⟨av,ay⟩:=y
  have Ec:i<n:=by simpa using aj
  refine⟨av,?_⟩
  rw[ay]
  simp[Ec]⟩
theorem anF{J:e7}{xs:List V}{g:ic}{cX:eY}{D:Ends}{σ:St}{H:ae}(Pv:Nat→St→ae→Prop)(iO:mC J H xs)(h0:Pv 0 σ H)(hm:∀i a6 H',Pv i a6 H'→aP H H')(hs:∀i x a6 H',xs[i]?=some x→Pv i a6 H'→g x a6 H' λgZ ak=>cX {D with b':=Pv (i+1),fA:=Pv (i+1),gG:=D.b'} gZ ak)(hd:∀a6 H',Pv xs.length a6 H'→D.b' a6 H'):
  ∃W:Nat→Nat→St→ae→Prop,(∃m,W 0 m σ H)∧∀i m σ H,W i m σ H→
   (J.stop i H∧D.b' σ H)∨(J.go i H∧∃N:St→ae→Prop,(∀a6 H',N a6 H'→∃cR,cR<m∧W (i+1) cR a6 H')∧∀x H',J.ml i H x H'→g x σ H' λgZ ak=>cX {D with b':=N,fA:=N,gG:=D.b'} gZ ak):=by
 refine⟨λi m a6 H'=>m=xs.length-i∧i≤xs.length∧Pv i a6 H',⟨xs.length,by simp,ea _,h0⟩,?_⟩
 rintro i m a6 H' ⟨rfl,aj,p⟩
 obtain⟨fP,fD,hO⟩:=iO H' (hm i a6 H' p)
 by_cases bN:i<xs.length
 .refine .inr ⟨fD i bN,Pv (i+1),λgZ ak ip=>⟨xs.length-(i+1),by omega,rfl,bN,ip⟩,λx ak y=>?_⟩
  obtain⟨rfl,ex⟩:=hO i x ak bN y
  exact hs i x a6 _ ex p
 .have e:i=xs.length:=by omega
  subst e
  exact .inl ⟨fP,hd a6 H' p⟩
theorem He{J:e7}{xs:List V}{cs:List (Option Nat)}{σ rest:St}{tt:TT}{bY:TE}{Q:bk}{H1:ae}(gx:gO cs σ=none::rest)(iO:mC J H1 xs)(ar:xs.length<sizeLine)(p:V→Bool)(f:V→V)(test:∀(i:Nat)(x:V)(ak:ae)(R:Bool→ae→Prop),xs[i]?=some x→aP H1 ak→(∀bU,aP ak bU→R (p x) bU)→tt (some x::rest) ak R)(elt:∀(i:Nat)(x:V)(ak:ae)(R:bk),xs[i]?=some x→p x=true→aP H1 ak→(∀bU,aP ak bU→R (f x) bU)→bY (some x::rest) ak R)(fin:∀(D:Addr)(H':ae),H1 D=none→H' D=some (.lst ((xs.filter p).map f))→aP H1 H'→Q (.ref D) H'):
  ∀D,H1 D=none→∃W:Nat→Nat→List V→St→ae→Prop,(∃m,W 0 m [] (gO cs σ) (upd H1 D (.lst [])))∧∀i m ys a6 H',W i m ys a6 H'→H' D=some (.lst ys)∧ys.length<sizeLine∧
   ((J.stop i H'∧Q (.ref D) H')∨(J.go i H'∧∀x ak,J.ml i H' x ak→gr 0 x a6 ak λf' bD=>tt f' bD λb d0=>
    if b=true then bY f' d0 λy bU=>bU D=some (.lst ys)∧∃cR,cR<m∧W (i+1) cR (ys++[y]) f' (upd bU D (.lst (ys++[y])))
    else∃cR,cR<m∧W (i+1) cR ys f' d0)):=by
 intro D cq
 refine⟨λi m ys a6 H'=>m=xs.length-i∧i≤xs.length∧ys=((xs.take i).filter p).map f∧(∃o,a6=o::rest)∧aP H1 H'∧H' D=some (.lst ys),⟨xs.length,by simp,ea _,by simp,⟨none,gx⟩,λb o e=>?_,a4⟩,?_⟩
 .rw[aG (dg e cq)]
  exact e
 .rintro i m ys a6 H' ⟨rfl,aj,rfl,⟨o,rfl⟩,aC,et⟩
  obtain⟨fP,fD,hO⟩:=iO H' aC
  refine⟨et,lG ?_ ar,?_⟩
  .rw[bc]
   refine gm (nH _ _) ?_
   rw[gb]
   exact RS _ _
  by_cases bN:i<xs.length
  .refine .inr ⟨fD i bN,λx ak y=>?_⟩
   obtain⟨rfl,ex⟩:=hO i x ak bN y
   show tt (some x::rest) ak _
   refine test i x ak _ ex aC λd0 s4=>?_
   have a5:xs.take (i+1)=xs.take i++[x]:=by rw[kR,ex];rfl
   cases aQ:p x with
   |true=>
    refine j7 ?_
    refine elt i x d0 _ ex aQ (aC.trans s4) λbU s5=>⟨s5 _ _ (s4 _ _ et),xs.length-(i+1),by omega,rfl,bN,?_,⟨_,rfl⟩,λb ob e=>?_,a4⟩
    .rw[a5,lE,ek]
     simp[aQ]
    .rw[aG (dg e cq)]
     exact s5 _ _ (s4 _ _ (aC _ _ e))
   |false=>
    refine ky ⟨xs.length-(i+1),by omega,rfl,bN,?_,⟨_,rfl⟩,aC.trans s4,s4 _ _ et⟩
    rw[a5,lE,ek]
    simp[aQ]
  .have e:i=xs.length:=by omega
   subst e
   exact .inl ⟨fP,fin D H' cq (by rw[et,ka]) aC⟩
theorem acg{J:e7}{xs:List V}{cs:List (Option Nat)}{σ rest:St}{bY:TE}{Q:bk}{H1:ae}(gx:gO cs σ=none::rest)(iO:mC J H1 xs)(ar:xs.length<sizeLine)(f:V→V)(elt:∀(i:Nat)(x:V)(ak:ae)(R:bk),xs[i]?=some x→aP H1 ak→(∀bU,aP ak bU→R (f x) bU)→bY (some x::rest) ak R)(fin:∀(D:Addr)(H':ae),H1 D=none→H' D=some (.lst (xs.map f))→aP H1 H'→Q (.ref D) H'):
  ∀D,H1 D=none→∃W:Nat→Nat→List V→St→ae→Prop,(∃m,W 0 m [] (gO cs σ) (upd H1 D (.lst [])))∧∀i m ys a6 H',W i m ys a6 H'→H' D=some (.lst ys)∧ys.length<sizeLine∧
   ((J.stop i H'∧Q (.ref D) H')∨(J.go i H'∧∀x ak,J.ml i H' x ak→gr 0 x a6 ak λf' bD=>qR f' bD λb d0=>
    if b=true then bY f' d0 λy bU=>bU D=some (.lst ys)∧∃cR,cR<m∧W (i+1) cR (ys++[y]) f' (upd bU D (.lst (ys++[y])))
    else∃cR,cR<m∧W (i+1) cR ys f' d0)):=
 He gx iO ar (λ_=>true) f (λi x ak R _ _ h=>h ak (aP.refl _)) (λi x ak R ex _ aC h=>elt i x ak R ex aC h) λD H' ag af aU=>fin D H' ag (by rw[af,Ł.mpr λ_ _=>rfl]) aU
open PySem PySem.Spec PyProof.Rows ai
noncomputable def signs(x:Str):List V:=x.cps.toList.map λc=>V.str ⟨#[c]⟩
noncomputable def CC(x:Str):e7:=⟨λi _=>i<x.cps.size,λi H v H'=>H'=H∧∃c,x.cps[i]?=some c∧v=.str ⟨#[c]⟩,λi _=>i=x.cps.size⟩
theorem ach{H1:ae}(x:Str):mC (CC x) H1 (signs x):=λH' _=>by
 have ar:(signs x).length=x.cps.size:=by simp[signs]
 refine⟨ar,λi aj=>by rw[ar]at aj;exact aj,λi v ak aj y=>?_⟩
 obtain⟨av,c,ay,cv⟩:=y
 refine⟨av,?_⟩
 subst cv
 have er:x.cps.toList[i]?=some c:=by simpa using ay
 simp[signs,er]
theorem Ð{P:bT}{w:bJ}{K:a3}{dq:Expr}(it:Addr)(x:Str)(t:Tok){ty:String}(tK:ty="str_ascii_iterator"∨ty="str_iterator"):Turn P w K dq (CC x) [it] it (λi h=>h.IsStrIter it ty x t i)where
 mem:=by simp
 obj:=λi h st b U=>by
  have e:b=it:=by simpa using U
  subst e
  obtain⟨o,e,c,d⟩:=st
  exact⟨o,e,λv z=>by rw[d]at z;cases z⟩
 keep:=λi h h' st k=>by
  obtain⟨o,e,r⟩:=st
  exact⟨o,k it (by simp) o e,r⟩
 item:=by
  intro X fH hw fk aF i pins s σ H E I hf st bf
  subst fH hw fk
  obtain⟨f0,f1,f2,dc,f4,eU⟩:=hf it (by simp)
  have aj:i<x.cps.size:=bf
  have j0:x.cps[i]?=some x.cps[i]:=by simp[aj]
  rcases tK with rfl|rfl
  .refine wpAny_pyNext_ascii_item st j0 λh' aM bX=>?_
   have aS:Inv X pins σ H {s with heap:=h',toks:=s.toks+1}:=I.turned (λb o U e=>(bX.2 b U).trans e) f0 f1 dc f4 eU
   obtain⟨o,e,c,d⟩:=id aM
   exact⟨_,rfl,xn (s:={s with heap:=h',toks:=s.toks+1}) e c d (by decide) ⟨.str ⟨#[x.cps[i]]⟩,H,aS,⟨_,rfl⟩,⟨rfl,_,j0,rfl⟩,aM,λb U=>(hf b U).1⟩⟩
  .refine wpAny_pyNext_wide_item st j0 λh' aM bX=>?_
   have aS:Inv X pins σ H {s with heap:=h',toks:=s.toks+1}:=I.turned (λb o U e=>(bX.2 b U).trans e) f0 f1 dc f4 eU
   obtain⟨o,e,c,d⟩:=id aM
   exact⟨_,rfl,xn (s:={s with heap:=h',toks:=s.toks+1}) e c d (by decide) ⟨.str ⟨#[x.cps[i]]⟩,H,aS,⟨_,rfl⟩,⟨rfl,_,j0,rfl⟩,aM,λb U=>(hf b U).1⟩⟩
 done:=by
  intro X fH hw fk aF i pins s σ H E I hf st bf
  subst fH hw fk
  obtain⟨f0,f1,f2,dc,f4,eU⟩:=hf it (by simp)
  have j0:x.cps[i]?=none:=by
   have e:i=x.cps.size:=bf
   simp[e]
  rcases tK with rfl|rfl
  .exact wpAny_pyNext_ascii_end (I.ok.hd aF) st j0 λh' dJ=>⟨rfl,I.turned (t':=s.toks) (λb o U e=>dJ b o U e) f0 f1 dc f4 eU⟩
  .exact wpAny_pyNext_wide_end (I.ok.hd aF) st j0 λh' dJ=>⟨rfl,I.turned (t':=s.toks) (λb o U e=>dJ b o U e) f0 f1 dc f4 eU⟩
 self:=λ_ _ _ _ _ st h=>by
  rcases tK with rfl|rfl
  .exact wpAny_pyIter_striter_ascii st h
  .exact wpAny_pyIter_striter_wide st h
section
variable{X:bw}{dq:Expr}
noncomputable def aef(cS:TE):TI:=λσ H R=>cS σ H λx H1=>∃z,x=.str z∧R (CC z) H1
theorem aci{l:Expr}{cS:TE}(ar:bE X l cS):lH X dq l (aef cS):=by
 intro pins s σ H R I h
 refine bH (ar pins s σ H _ I h) λv s1⟨x,H1,aS,b6,bq⟩=>?_
 obtain⟨z,e,q⟩:=bq
 subst e
 obtain⟨t,rfl⟩:=b6
 have fin:∀(ty:String)(_:ty="str_ascii_iterator"∨ty="str_iterator"),HS X pins σ dq R (.ref s1.heap.objs.size) {s1 with heap:=s1.heap.push {cls:=.type ty,data:=.fields #[.str z t,.int 0 0]}}:=λty tK=>by
  refine⟨s1.heap.objs.size,[s1.heap.objs.size],_,_,H1,rfl,aS.kept (t':=s1.toks) λb o e=>dy _ e,Ð _ z t tK,⟨_,gD _ rfl,rfl,rfl⟩,λb U=>?_,q⟩
  have e:b=s1.heap.objs.size:=by simpa using U
  subst e
  exact aS.qe (b1 _) (aS.bh.fresh (b1 _))
 cases aH:z.cps.all (·<128)with
 |true=>exact wpAny_pyIter_ascii aH (fin _ (.inl rfl))
 |false=>exact wpAny_pyIter_wide aH (fin _ (.inr rfl))
end
section
variable{X:bw}{e:Expr}{bY:TE}{lo aj:Option Expr}{cS ja:q9}{pos f9:Pos}
theorem XS:fQ X (hv .LtE) (λx y H Q=>∃i j,x=.str i∧y=.str j∧Q (.bo (!decide (j.cps.toList<i.cps.toList))) H):=by
 intro pins s σ H x y v u Q I bt bI h
 obtain⟨i,j,rfl,rfl,q⟩:=h
 obtain⟨t,rfl⟩:=bt
 obtain⟨t',rfl⟩:=bI
 exact PySem.P.le_str (fz I q rfl)
theorem QH(c a:Nat):(!decide ((⟨#[c]⟩:Str).cps.toList<(⟨#[a]⟩:Str).cps.toList))=decide (a≤c):=by
 have h:((⟨#[c]⟩:Str).cps.toList<(⟨#[a]⟩:Str).cps.toList)↔c<a:=by
  show([c]:List Nat) < [a]↔c<a
  simp[List.cons_lt_cons_iff]
 by_cases q:c<a
 .rw[dp (h.mpr q),eF (by omega)]
  rfl
 .rw[eF λz=>q (h.mp z),dp (by omega)]
  rfl
theorem Od(aF:X.calm=true):jH X (.builtin "all") (λxs H Q=>∃(p:Addr)(bs:List Bool),xs=[.ref p]∧aR X.K H p (bs.map V.bo)∧Q (.bo (bs.all id)) H):=by
 intro pins s σ H xs us Q I r h
 obtain⟨p,bs,rfl,bg,q⟩:=h
 obtain⟨u,rfl,e4⟩:=vals1 r
 cases e4
 obtain⟨its,b7,pl,bQ⟩:=I.list bg
 have hlen:bs.length=its.length:=by have:=b7.length;rwa [bc]at this
 obtain⟨o,n,zc,_⟩:=id pl
 have mV:p≠s.heap.objs.size:=en (du zc)
 have ef:X.A.in1.handled=none:=I.ok.hd aF
 refine call_all_walk (O5 pl.isList ?_)
 refine⟨s.heap.objs.size,[s.heap.objs.size,p],[s.heap.objs.size],its.toArray.size,_,_,λi=>bs.getD i false,rfl,S5 ef _ p mV its.toArray,⟨⟨_,gD _ rfl,rfl,rfl⟩,pl.isList.push _⟩,?_,λh' a5 k=>?_⟩
 .intro i v s' o3 am4 fH eu
  have UQ:its[i]?=some v:=by simpa using fH
  have aj:i<its.length:=(fW.mp UQ).1
  have U:(bs.map V.bo)[i]?=some (V.bo (bs.getD i false)):=by
   rw[b8,cg (by omega:i<bs.length)]
   simp[cY,hlen▸aj]
  obtain⟨u',b5,cm⟩:=b7.get U
  rw[UQ]at b5
  cases b5
  cases cm
  exact oN eu
 .have e:(c_ its.toArray.size).all (λi=>bs.getD i false)=bs.all id:=by
   rw[eC,←hlen,Cd]
   simp only[CF,iR]
   constructor
   .intro a b U
    obtain⟨i,aj,rfl⟩:=RH.mp U
    have:=a i aj
    simpa[cY,aj]using this
   .intro a i aj
    have:=a bs[i] (eg aj)
    simpa[cY,aj]using this
  rw[e]
  exact⟨.bo (bs.all id),H,I.kept λb ob z=>k b ob (by simpa using en (du z)) (dy _ z),rfl,q⟩
inductive aeg(K:a3)(xs:List V)(H:ae)(Q:bk):Prop where
 |mk (x c:V) (JJ:String) (t:Value) (b:Bool) (b4:xs=[x,c]) (bL:c=.ty JJ∧ma K H x t∧yI K t (.type JJ)=some b) (cG:Q (.bo b) H)
theorem wk:jH X (.builtin "isinstance") (aeg X.K):=by
 intro pins s σ H xs us Q I r h
 obtain⟨x,c,JJ,t,b,rfl,⟨rfl,ty,e⟩,q⟩:=h
 obtain⟨u,fO,rfl,e4,kF⟩:=vals2 r
 cases kF
 exact φ I e4 ty e λa5=>⟨.bo b,H,I.tok a5,rfl,q⟩
end
mutual
inductive kM(K:a3)(H:ae):V→PyData→Prop
 |bR:kM K H .bR .none
 |bo (b:Bool):kM K H (.bo b) (.bool b)
 |int (i:Int):kM K H (.int i) (.int i)
 |str (x:Str):kM K H (.str x) (.str x)
 |lst {a:Addr} {xs:List V} {ds:List PyData}:aR K H a xs→q0 K H xs ds→kM K H (.ref a) (.list ds)
 |tup {a:Addr} {xs:List V} {ds:List PyData}:b2 K H a xs→q0 K H xs ds→kM K H (.ref a) (.tuple ds)
inductive q0(K:a3)(H:ae):List V→List PyData→Prop
 |nil:q0 K H [] []
 |cons {v:V} {d:PyData} {vs:List V} {ds:List PyData}:kM K H v d→q0 K H vs ds→q0 K H (v::vs) (d::ds)
end
section
variable{X:bw}{pins:List (Addr×Obj)}{σ:St}{H:ae}{s:ax}
mutual
theorem tN(I:Inv X pins σ H s):∀{v:V}{d:PyData}{u:Value},kM X.K H v d→RelV v u→∃as,Reads s.heap u d as
 |_,_,_,.bR,r=>by cases r;exact⟨_,.none⟩
 |_,_,_,.bo b,r=>by cases r;exact⟨_,.bool b⟩
 |_,_,_,.int i,r=>by obtain⟨t,rfl⟩:=r;exact⟨_,.int i t⟩
 |_,_,_,.str x,r=>by obtain⟨t,rfl⟩:=r;exact⟨_,.str x t⟩
 |_,_,_,.lst h ds,r=>by
  cases r
  obtain⟨its,b7,⟨o,n,e,c,_,d⟩,_⟩:=I.list h
  obtain⟨as,q⟩:=Nb I ds b7
  exact⟨_,.list e c d (by simpa using q)⟩
 |_,_,_,.tup h ds,r=>by
  cases r
  obtain⟨its,b7,⟨o,e,c,n,d⟩,_⟩:=I.tuple h
  obtain⟨as,q⟩:=Nb I ds b7
  exact⟨_,.tuple e c d (by simpa using q)⟩
theorem Nb(I:Inv X pins σ H s):∀{vs:List V}{ds:List PyData}{us:List Value},q0 X.K H vs ds→cj vs us→∃as,ReadsAll s.heap us ds as
 |_,_,_,.nil,.nil=>⟨_,.nil⟩
 |_,_,_,.cons a b,.cons r t=>by
  obtain⟨as,q⟩:=tN I a r
  obtain⟨bs,c4⟩:=Nb I b t
  exact⟨_,.cons q c4⟩
end
end
section
variable{X:bw}
inductive adw(K:a3)(neg:Bool)(x:ai.V)(y:ai.V)(H:ae)(Q:bk):Prop where
 |mk (d:_) (e:_) (b4:kM K H x d) (bL:kM K H y e) (cG:q8 d=true) (c2:q8 e=true) (dR:Q (.bo (if neg then !je d e else je d e)) H)
noncomputable def SU(K:a3)(neg:Bool):gL:=λx y H Q=>adw K neg x y H Q
theorem acj(cf:X.A.units+64<cLine):fQ X (hv .Eq) (SU X.K false):=by
 intro pins s σ H x y v u Q I bt bI h
 obtain⟨d,e,hd,he,cB,fN,q⟩:=h
 obtain⟨as,fM⟩:=tN I hd bt
 obtain⟨bs,kE⟩:=tN I he bI
 exact eq_dataH fM kE cB fN cf ⟨.bo _,H,I,rfl,q⟩
theorem QI(cf:X.A.units+64<cLine):fQ X (hv .NotEq) (SU X.K true):=by
 intro pins s σ H x y v u Q I bt bI h
 obtain⟨d,e,hd,he,cB,fN,q⟩:=h
 obtain⟨as,fM⟩:=tN I hd bt
 obtain⟨bs,kE⟩:=tN I he bI
 exact ne_dataH fM kE cB fN cf ⟨.bo _,H,I,rfl,q⟩
end
open PySem PySem.Spec PyProof.Rows ai
noncomputable def pS(val:Nat→Str):Nat→Str→Bool
 |0=>λ_=>false
 |i+1=>λk=>pS val i k||decide (k=val i)
noncomputable def l_(val:Nat→Str):Nat→Nat
 |0=>0
 |i+1=>if pS val i (val i)then l_ val i else l_ val i+1
theorem Qh(val:Nat→Str):∀i,l_ val i≤i
 |0=>b1 _
 |i+1=>by
  have:=Qh val i
  unfold l_
  split<;>omega
theorem YT(val:Nat→Str)(k:Str):∀i,pS val i k=true↔∃j,j<i∧val j=k
 |0=>by simp[pS]
 |i+1=>by
  simp only[pS,Bool.or_eq_true,YT val k i,decide_eq_true_eq]
  constructor
  .rintro(⟨j,aN,e⟩|e)
   .exact⟨j,by omega,e⟩
   .exact⟨i,by omega,e.symm⟩
  .rintro⟨j,aN,e⟩
   by_cases h:j=i
   .subst h
    exact .inr e.symm
   .exact .inl ⟨j,by omega,e⟩
theorem YU(val:Nat→Str):∀n,(∀i j,i<j→j<n→val i≠val j)→l_ val n=n
 |0,_=>rfl
 |n+1,h=>by
  have ba:=YU val n λi j a b=>h i j a (by omega)
  have hm:¬pS val n (val n)=true:=λz=>by
   obtain⟨j,aN,e⟩:=(YT val (val n) n).mp z
   exact h j n aN (by omega) e
  unfold l_
  rw[aD hm,ba]
theorem VV(x:Str)(t:Tok):Iw x (.str x t)=true:=by simp[Iw]
theorem Α{prog:bT}{w:bJ}{A:c5}{R:vv→ax→Prop}{I:Addr}{cu wr:List Addr}{n:Nat}{Pv:Nat→Value→Prop}{SG:Nat→Heap→Prop}(W:Walks prog w A.in1 I cu wr n Pv SG)(S:Addr)(D5:S∉cu)(val:Nat→Str)(Ln:∀i v,Pv i v→∃t,v=.str (val i) t)(U:n+1<scanBound):∀(k i:Nat)(s:ax),n-i=k→i≤n→SG i s.heap→s.heap.SetOf (strKind prog w) S (pS val i) (l_ val i)→
   (∀h' a5,(∀b o,b≠S→b∉wr→s.heap.get? b=some o→h'.get? b=some o)→h'.SetOf (strKind prog w) S (pS val n) (l_ val n)→R (.ok (.ret .none)) {s with heap:=h',toks:=a5})→
   nS (br prog w) A (.builtin "set.update.loop" ⟨[.ref S,.ref I],[]⟩) R s:=by
 have UY:S∉wr:=λz=>D5 (W.sub _ z)
 have stays:∀{h h':Heap}{C5:Str→Bool}{m:Nat},(∀o,h.get? S=some o→h'.get? S=some o)→h.SetOf (strKind prog w) S C5 m→h'.SetOf (strKind prog w) S C5 m:=λc0⟨o,es,ep,t,a9,r⟩=>⟨o,es,ep,t,c0 o a9,r⟩
 intro k
 induction k with
 |zero=>
  intro i s aK aj st f7 cL
  obtain rfl:i=n:=by omega
  refine y0 abl ?_
  rw[B_ Sg _]
  show aX _ A.in1 (kB (.ref I) >>=_) _ _ s
  refine aJ (W.done s _ _ st λh' a5 c0=>?_)
  show aX _ A.in1 (ret d5) _ _ _
  exact bM (cL h' a5 (λb o _ U e=>c0 b o U e) (stays (λo e=>c0 S o UY e) f7))
 |succ k ba=>
  intro i s aK aj st f7 cL
  have bN:i<n:=by omega
  refine y0 abl ?_
  rw[B_ Sg _]
  show aX _ A.in1 (kB (.ref I) >>=_) _ _ s
  refine aJ (W.item i s _ _ bN st λv ag a5 fH ale c0=>?_)
  obtain⟨t,rfl⟩:=Ln i v fH
  have v8:=stays (λo e=>c0 S o UY e) f7
  show aX _ A.in1 (n7 [yO (val i) t] (setAdd S (.str (val i) t)) >>=_) _ _ _
  refine aJ (jQ ?_)
  unfold setAdd
  refine jQ (aJ ((strKind prog w).pyHash (k:=val i) (VV (val i) t) ?_))
  have ai8:l_ val i+1<scanBound:=by have:=Qh val i;omega
  refine wpAny_setAddHashed_of (knd:=strKind prog w) (VV (val i) t) rfl v8 ai8 λaf bX zQ=>?_
  refine bM ⟨Fq Sg _,ba (i+1) _ (by omega) bN (W.frame _ _ _ ale λb cJ o e=>(bX.2 b λz=>D5 (z▸cJ)).trans e) zQ λaU alA ajt zR=>?_⟩
  exact cL aU alA (λb o i2 hY e=>ajt b o i2 hY ((bX.2 b i2).trans (c0 b o hY e))) zR
set_option maxHeartbeats 8000000 in
theorem al1{prog:bT}{w:bJ}{A:c5}{E:Value→ax→Prop}{s:ax}{l:Addr}{items:Array Value}{val:Nat→Str}{Q:Value→ax→Prop}(ef:A.handled=none)(ar:s.heap.IsList l items)(Ln:∀(i:Nat)(v:Value),items[i]?=some v→∃t,v=.str (val i) t)(U:items.size+1<scanBound)(h:∀(h':Heap)(a5:Nat),h'.SetOf (strKind prog w) s.heap.objs.size (pS val items.size) (l_ val items.size)→(∀b o,s.heap.get? b=some o→h'.get? b=some o)→Q (.ref s.heap.objs.size) {s with heap:=h',toks:=a5}):
  aX (br prog w) A (call (.type "set") [.ref l]) Q E s:=by
 obtain⟨c,cS,anW⟩:=F.called_set.mro
 have dY:=F.called_set.made
 have eQ:=F.called_set.sub
 have tX:=F.called_set.notType
 have AE:=F.called_set.canCreate
 have EL:=F.typeCall_set_1 (.ref l)
 refine si (agt ?_)
 show aX _ _ (callAny (.type "set") _) _ _ _
 refine bM ⟨P4 _ (by decide+kernel),y0 F.entry_type_call ?_⟩
 rw[Around.under_plain (weight_type_call_type "set" [.ref l] []) rfl]
 repeat (any_goals (first|assumption|wp_step))
 generalize zP:s.heap.objs.size=S at *
 refine tg (code_set_new_1 (.ref l) (E:=E) (Q₁:=λob s1=>∃led:Bool,ob=.ref S∧s1={s with heap:=s.heap.push {cls:=.type "set",dict:=none,data:=.set #[] 0 (.fresh 0 0 led)}}) λled=>⟨led,by rw[zP],rfl⟩) λr s1 aw=>?_
 cases r with
 |error e=>exact aw
 |ok fB=>
  cases fB with
  |ret ob=>
   obtain⟨led,rfl,rfl⟩:=aw
   have tC:(s.heap.push {cls:=.type "set",dict:=none,data:=.set #[] 0 (.fresh 0 0 led)}).get? S=some {cls:=.type "set",dict:=none,data:=.set #[] 0 (.fresh 0 0 led)}:=by
    rw[←zP]
    exact gD _ rfl
   have fV:SE {s with heap:=s.heap.push {cls:=.type "set",dict:=none,data:=.set #[] 0 (.fresh 0 0 led)}} (.ref S) "set":=⟨_,tC,rfl⟩
   have hD:=F.called_set.init.lookup
   have ew:=F.called_set.init.bind (.ref S)
   repeat (any_goals (first|assumption|wp_step))
   refine tg (JH (R:=wants (λr s2=>r=.none∧∃h' a5,s2={s with heap:=h',toks:=a5}∧h'.SetOf (strKind prog w) S (pS val items.size) (l_ val items.size)∧(∀b o,s.heap.get? b=some o→h'.get? b=some o)) E)
    F.called_set.init.plain F.entry_set_init (check_set_init_1 fV ?_)) λc8 s2 qr=>?_
   .obtain⟨⟨lh,dP,aox,ot⟩,wc,zV,nl,v'⟩:=id ar
    simp only at zV v'
    subst zV v'
    have anZ:=dy (h:=s.heap) {cls:=.type "set",dict:=none,data:=.set #[] 0 (.fresh 0 0 led)} wc
    have eS:=F.sub_list_set
    have f9:=F.sub_list_frozenset
    have ou:(s_ "list"==s_ "dict")=false:=by decide
    have tE:=ar.push (o:={cls:=.type "set",dict:=none,data:=.set #[] 0 (.fresh 0 0 led)})
    unfold Builtin.«set.__init__» noKeywords am1
    generalize ah6:A3=lH
    wp_walk
    subst ah6
    refine O5 tE (aJ (wpAny_runValue ?_))
    have Vr:l<S:=by rw[←zP];exact du wc
    have hsz:(s.heap.push {cls:=.type "set",dict:=none,data:=.set #[] 0 (.fresh 0 0 led)}).objs.size=S+1:=by rw[Cy,zP]
    refine Α (S5 (A:=A.in1.in1.in1) (by simp[ef]) _ l (by rw[hsz];exact en (CT Vr)) items) S ?_ val Ln U (items.size-0) 0 _ (by omega) (ea _) ⟨⟨_,gD _ rfl,rfl,rfl⟩,tE.push _⟩ ?_ ?_
    .rw[hsz]
     simp only[fy,eB,or_false,not_or]
     exact⟨en (yx _),yy Vr⟩
    .have aix:=dy (h:=s.heap.push {cls:=.type "set",dict:=none,data:=.set #[] 0 (.fresh 0 0 led)}) {cls:=.type "list_iterator",data:=.fields #[.ref l,.int 0 0]} tC
     exact(anc (knd:=strKind prog w) led).setOf aix (by unfold scanBound;omega)
    .intro h' a5 c0 zO
     show aX _ _ _ _ _ _
     refine bM ?_
     show aX _ _ (ret d5) _ _ _
     refine bM ⟨rfl,h',a5,rfl,zO,λb o e=>?_⟩
     have zT:b<S:=by rw[←zP];exact du e
     exact c0 b o (en zT) (λz=>en (CT zT) (by rw[hsz]at z;simpa using z)) (dy _ (dy _ e))
   .cases c8 with
    |error e=>exact qr
    |ok ahM=>
     cases ahM with
     |ret r=>
      obtain⟨rfl,h',a5,rfl,zO,c0⟩:=qr
      repeat (any_goals (first|assumption|wp_step))
      exact h _ _ zO c0
     |_=>exact qr.elim
  |_=>exact aw.elim
noncomputable def CD(P:bT)(w:bJ)(a:Addr)(n:Nat):d4:=.ext λh=>∃S,h.SetOf (strKind P w) a S n
section
variable{X:bw}
theorem Ñ(aF:X.calm=true):jH X (.type "set") (λxs H Q=>∃(p:Addr)(ys:List Str),xs=[.ref p]∧aR X.K H p (ys.map V.str)∧ys.length<1000∧∀q,H q=none→Q (.ref q) (upd H q (CD X.prog X.w q (l_ (λi=>ys.getD i jW) ys.length)))):=by
 intro pins s σ H xs us Q I r h
 obtain⟨p,ys,rfl,bg,ar,q⟩:=h
 obtain⟨u,rfl,e4⟩:=vals1 r
 cases e4
 obtain⟨its,b7,pl,bQ⟩:=I.list bg
 have hlen:ys.length=its.length:=by have:=b7.length;rwa [bc]at this
 have hsz:its.toArray.size=ys.length:=by
  rw[hlen]
  rfl
 refine al1 (val:=λi=>ys.getD i jW) (I.ok.hd aF) pl.isList (λi v e=>?_) (by rw[hsz];unfold scanBound;omega) λh' a5 f7 c0=>?_
 .have b5:its[i]?=some v:=by simpa using e
  have aj:i<ys.length:=by rw[hlen];exact(fW.mp b5).1
  have U:(ys.map V.str)[i]?=some (V.str (ys.getD i jW)):=by
   rw[b8,cg aj]
   simp[cY,aj]
  obtain⟨u',ay,cm⟩:=b7.get U
  rw[b5]at ay
  cases ay
  exact cm
 .rw[hsz]at f7
  refine⟨.ref s.heap.objs.size,_,I.laid c0 (b1 _) ?_,rfl,q _ (I.bh.fresh (b1 _))⟩
  obtain⟨o,es,ep,t,a9,cm⟩:=id f7
  exact⟨⟨_,f7⟩,⟨o,a9⟩,λag af⟨C5,cO,qb,qa,t',i3,c8⟩ajs=>⟨C5,cO,qb,qa,t',ajs _ i3,c8⟩⟩
theorem alN:jH X (.builtin "len") (λxs H Q=>∃q n,xs=[.ref q]∧H q=some (CD X.prog X.w q n)∧Q (.int n) H):=by
 intro pins s σ H xs us Q I r h
 obtain⟨a,n,rfl,bg,q⟩:=h
 obtain⟨u,rfl,e4⟩:=vals1 r
 cases e4
 obtain⟨⟨S,o,es,ep,t,a9,hex,hd,_,_,U,hf,az⟩,_,_⟩:=(show eo X.prog X.w H s.heap a (CD X.prog X.w a n)from I.bh a _ bg)
 subst az
 have aiu:(es.size:Int)<2 ^ 63:=by unfold scanBound at U;omega
 exact call_len_set a9 hex hd hf aiu ⟨.int es.size,H,I.tok _,⟨_,rfl⟩,q⟩
end
open PySem PySem.Spec PyProof.Rows ai
theorem ack{P:bT}{w:bJ}{H:ae}{h:Heap}{a:Addr}{o:d4}(x:eo P w H h a o):∃ob,h.get? a=some ob:=by
 cases o with
 |lst xs=>obtain⟨_,_,_,_,e⟩:=x;exact⟨_,e⟩
 |tup xs=>obtain⟨_,_,_,ob,e,_⟩:=x;exact⟨ob,e⟩
 |ct kvs=>obtain⟨_,_,_,_,ob,_,_,e,_⟩:=x;exact⟨ob,e⟩
 |cE kvs=>obtain⟨_,_,_,_,ob,_,_,e,_⟩:=x;exact⟨ob,e⟩
 |set S n=>obtain⟨ob,_,_,_,e,_⟩:=x;exact⟨ob,e⟩
 |ins C au fs=>obtain⟨_,_,_,e,_⟩:=x;exact⟨_,e⟩
 |own y=>obtain⟨ob,e⟩:=x;exact⟨ob,e⟩
 |Gs fs=>obtain⟨_,⟨ob,_,_,e,_⟩,_⟩:=x;exact⟨ob,e⟩
 |FL lo aj=>obtain⟨_,_,_,e⟩:=x;exact⟨_,e⟩
 |d9 ob u=>obtain⟨e,_⟩:=x;exact⟨_,e⟩
 |oG ps=>exact⟨_,(show h.get? a=some _ from x)⟩
 |met f y=>exact⟨_,(show h.get? a=some _ from x)⟩
 |ext pT=>obtain⟨_,⟨ob,e⟩,_⟩:=x;exact⟨ob,e⟩
theorem Ò{P:bT}{w:bJ}{H:ae}{h:Heap}{a:Addr}(ok:fe P w H h)(e:h.get? a=none):H a=none:=by
 cases q:H a with
 |none=>rfl
 |some o=>
  obtain⟨ob,z⟩:=ack (ok a o q)
  rw[e]at z
  cases z
structure m3(P:bT)(w:bJ)(fr:List Env)(H:ae)(s:ax)(bp:Addr)(cls a0:Value)(H':ae)(B:Heap)(s':ax):Prop where
 fB:q2 B fr bp cls a0 s'.heap
 os:s'.os=s.os
 bare:pU s'.gens
 ok:fe P w H' B
 un:hk (fG fr) [] H H' s.heap s'.heap
 j5:∀b o,s.heap.get? b=some o→b∉fG fr→∃cO,B.get? b=some cO∧(H b=none→cO=o)
noncomputable def gC(P:bT)(w:bJ):lz:=λfr H s E e s'=>∃(bp:Addr)(cls a0:Value)(H':ae)(B:Heap),e=.ref bp∧m3 P w fr H s bp cls a0 H' B s'∧E cls none H'
section
variable{P:bT}{w:bJ}{fr:List Env}{H H':ae}{s s':ax}{bp:Addr}{cls a0:Value}{B:Heap}
theorem m3.move(T:m3 P w fr H s bp cls a0 H' B s'){af:Heap}(fB:q2 B fr bp cls a0 af)(up:s'.heap.UpToSlots af):m3 P w fr H s bp cls a0 H' B {s' with heap:=af}:=by
 refine⟨fB,T.os,T.bare,T.ok,⟨λb o e n U ao=>?_,λb o e n U ao=>?_,T.un.free,λb o e ao=>?_,T.un.h7,T.un.iY,T.un.jx⟩,T.j5⟩
 .obtain⟨cO,z,q⟩:=T.j5 b o e U
  rw[q n]at z
  exact fB.1 b o z
 .obtain⟨bS,z⟩:=T.un.slot b o e n U ao
  obtain⟨_,ob,b5,gJ⟩:=T.fB.2.2.1.mem U
  rw[z]at b5
  cases b5
  obtain⟨oC,dt⟩:=up b _ z gJ
  exact⟨oC,dt⟩
 .by_cases U:b∈fG fr
  .obtain⟨_,ob,b5,gJ⟩:=T.fB.2.2.1.mem U
   obtain⟨oC,dt⟩:=up b _ b5 gJ
   exact⟨_,dt⟩
  .obtain⟨cO,z,_⟩:=T.j5 b o e U
   exact⟨cO,fB.1 b cO z⟩
theorem m3.bh(T:m3 P w fr H s bp cls a0 H' B s'):fe P w H' s'.heap:=T.ok.kept λb u e=>T.fB.1 b u e
theorem m3.new(T:m3 P w fr H s bp cls a0 H' B s'):H' bp=none:=Ò T.ok T.fB.2.1
theorem m3.akb(T:m3 P w fr H s bp cls a0 H' B s'){b:Addr}{o:Obj}(e:s.heap.get? b=some o):b≠bp:=by
 rintro rfl
 by_cases U:b∈fG fr
 .obtain⟨_,ob,b5,gJ⟩:=T.fB.2.2.1.mem U
  obtain⟨qF,vs,he,_,hd,_⟩:=T.fB.first
  rw[he]at b5
  cases b5
  exact gJ vs hd
 .obtain⟨cO,z,_⟩:=T.j5 b o e U
  rw[T.fB.2.1]at z
  cases z
end
section
variable{P:bT}{w:bJ}{K:a3}{aa:Str→Option Value}{base:Heap}{N:List Str}{b_:Str}{scope:Scope}{f:Addr}{bC:Value}{A:c5}{outer:List Env}{s:ax}{H:ae}{E:cy}
noncomputable abbrev gu(P:bT)(w:bJ)(K:a3)(aa:Str→Option Value)(base:Heap)(N:List Str)(b_:Str)(scope:Scope)(f:Addr)(bC:Value)(A:c5)(outer:List Env)(s:ax)(H:ae)(E:cy):bw:=
 j6 (gC P w) P w K aa base N b_ scope f bC A outer s H E
theorem AS{pins:List (Addr×Obj)}{σ:St}{H1:ae}{s1:ax}(I:Inv (gu P w K aa base N b_ scope f bC A outer s H E) pins σ H1 s1){b:Addr}{o:Obj}(e:s.heap.get? b=some o)(U:b∉fG outer):
  b∉fG (gu P w K aa base N b_ scope f bC A outer s H E).stack:=λz=>by
 rcases fy.mp (I.Br b z)with q|q
 .have l:=du e
  have e_:s.heap.objs.size≤b:=by
   have:=I.ok.above
   rw[←q]at this
   exact this
  exact p2 _ (jC l e_)
 .exact U q
theorem amE{pins:List (Addr×Obj)}{σ:St}{H1:ae}{s1:ax}{h':Heap}{bp:Addr}{cls:Value}{vs:List Value}(I:Inv (gu P w K aa base N b_ scope f bC A outer s H E) pins σ H1 s1)(ao:QL s1.heap h' bp cls vs)(lW:E cls none H1):(gu P w K aa base N b_ scope f bC A outer s H E).dj (.ref bp) {s1 with heap:=h'}:=by
 have z1:=I.ok.frames
 have il:∀env∈(gu P w K aa base N b_ scope f bC A outer s H E).stack,∀b,env.frame=some b→b∈fG (gu P w K aa base N b_ scope f bC A outer s H E).stack:=λenv he b U=>HI.mpr ⟨env,he,U⟩
 have z':∀b o,H1 b=some o→b∉fG (gu P w K aa base N b_ scope f bC A outer s H E).stack:=λb o e z=>by rw[I.FX b z]at e;cases e
 refine wpAny_leaves_madeW (base:=s6 s1.heap (fG (gu P w K aa base N b_ scope f bC A outer s H E).stack)) z1 rfl (λb o q=>Sn _ q) (abz I.stack il) ao λaf t gB dZ oO uE=>?_
 have j5:∀b o,s1.heap.get? b=some o→b∉fG (gu P w K aa base N b_ scope f bC A outer s H E).stack→(s6 s1.heap (fG (gu P w K aa base N b_ scope f bC A outer s H E).stack)).get? b=some o:=λb o e n=>Sl _ e n
 refine⟨bp,cls,.ref t,H1,_,rfl,⟨gB,I.os,I.bare,λb ob e=>(I.bh b ob e).nt (λc u aF q=>j5 c u q ?_) (λ_ q=>q) λ_ _ q=>q,⟨λb o e n U ei=>?_,λb o e n U ei=>?_,I.base.free,λb o e ei=>?_,I.base.h7,I.base.iY,I.base.jx⟩,λb o e U=>?_⟩,lW⟩
 .rcases aF with rfl|aF
  .exact z' c _ e
  .exact z' c _ aF
 .exact gB.1 b o (j5 b o (I.base.keep b o e n U ei) (AS I e U))
 .obtain⟨bS,z⟩:=I.base.slot b o e n U ei
  obtain⟨_,ob,b5,gJ⟩:=I.jk.mem U
  rw[z]at b5
  cases b5
  obtain⟨oC,dt⟩:=uE b _ (ao.keeps _ _ z) gJ
  exact⟨oC,dt⟩
 .obtain⟨cO,z⟩:=I.base.there b o e ei
  by_cases U:b∈fG outer
  .obtain⟨_,ob,b5,gJ⟩:=I.jk.mem U
   obtain⟨oC,dt⟩:=uE b _ (ao.keeps _ _ b5) gJ
   exact⟨_,dt⟩
  .exact⟨cO,gB.1 b cO (j5 b cO z (AS I e U))⟩
 .obtain⟨cO,z⟩:=I.base.there b o e (by simp[gu,j6])
  refine⟨cO,j5 b cO z (AS I e U),λn=>?_⟩
  have bL:=I.base.keep b o e n U (by simp[gu,j6])
  rw[z]at bL
  exact gT bL
theorem AU:pD (gC P w) (gu P w K aa base N b_ scope f bC A outer s H E) E:=by
 rintro pins σ a7 sc e s' I ⟨bp,cls,a0,H',B,rfl,T,lW⟩
 refine wpAny_leaves_onW I.ok.frames rfl T.fB λaf gB dZ=>?_
 have SJ:hk (fG (gu P w K aa base N b_ scope f bC A outer s H E).stack) [] a7 H' sc.heap s'.heap:=T.un
 have M':∀b o,s.heap.get? b=some o→b∉fG outer→∃cO,B.get? b=some cO∧(H b=none→cO=o):=λb o e U=>by
  obtain⟨i8,z⟩:=I.base.there b o e (by simp[gu,j6])
  obtain⟨cO,dt,q⟩:=T.j5 b i8 z (AS I e U)
  refine⟨cO,dt,λn=>?_⟩
  have bL:=I.base.keep b o e n U (by simp[gu,j6])
  rw[z]at bL
  cases bL
  exact q (I.base.free b _ e n (by simp[gu,j6]))
 refine⟨bp,cls,a0,H',B,rfl,⟨gB,T.os.trans I.os,T.bare,T.ok,⟨λb o e n U ei=>?_,λb o e n U ei=>?_,λb o e n ei=>?_,λb o e ei=>?_,λb xs q=>T.un.h7 b xs (I.base.h7 b xs q),λb o u q=>T.un.iY b o u (I.base.iY b o u q),λb ps q=>?_⟩,M'⟩,lW⟩
 .obtain⟨cO,z,q⟩:=M' b o e U
  rw[q n]at z
  exact gB.1 b o z
 .obtain⟨bS,z⟩:=I.base.slot b o e n U ei
  have cJ:b∈fG (gu P w K aa base N b_ scope f bC A outer s H E).stack:=by
   show b∈fG (_::outer)
   unfold fG
   rw[HC]
   exact nI _ U
  obtain⟨Xg,bL⟩:=SJ.slot b _ z (I.base.free b o e n ei) cJ (by simp)
  obtain⟨_,ob,b5,gJ⟩:=T.fB.2.2.1.mem cJ
  rw[bL]at b5
  cases b5
  obtain⟨oC,dt⟩:=dZ b _ bL gJ
  exact⟨oC,dt⟩
 .obtain⟨i8,z⟩:=I.base.there b o e ei
  exact SJ.free b i8 z (I.base.free b o e n ei) (by simp)
 .by_cases U:b∈fG outer
  .obtain⟨_,ob,b5,gJ⟩:=gB.2.2.1.mem U
   exact⟨ob,b5⟩
  .obtain⟨cO,z,_⟩:=M' b o e U
   exact⟨cO,gB.1 b cO z⟩
 .obtain⟨dY,av⟩:=I.base.jx b ps q
  obtain⟨eQ,ay⟩:=T.un.jx b _ av
  exact⟨dY++eQ,by rw[ay,Zp]⟩
structure Exc(K:a3)(aa:Str→Option Value)(x:Str)(C:Addr)(bm:List Value)(fo:String):Prop where
 bound:aa x=some (.ref C)
 obj:yH K C bm fo=true
theorem Exc.own{x:Str}{C:Addr}{bm:List Value}{fo:String}{h:Heap}(e:Exc K aa x C bm fo)(X:K.In h):OwnCls x C bm fo aa h:=by
 refine⟨e.bound,?_⟩
 have q:=e.obj
 unfold yH at q
 split at q
 .rename_i dd cd bS a9
  split at q
  .rename_i xB Jy k0 k1 k2 k3 n k5 hm hs
   simp only[kK,o_,PX]at q
   obtain⟨⟨⟨⟨⟨rfl,rfl⟩,zX⟩,cw⟩,bh⟩,wb⟩:=q
   obtain⟨nm,bs,mro,ns,ov,hd,sn,sub,ab,col,del⟩:=cd
   dsimp only at hm zX bh wb
   subst hm zX
   obtain⟨Xh⟩:=bS
   simp only at hs
   subst hs
   exact⟨Jy,ns,nm,ov,bs,hd,sn,sub,ab,col,dd,k0,k1,k2,k3,k5,_,X _ _ a9,.of_isNs (PySem.W.isNs_of_in X bh),PySem.W.nsMap_none_of_in X bh wb,PySem.W.tail_of_in X cw⟩
  .cases q
 .cases q
noncomputable def acm(C:Addr)(E:cy)(b3:fY):eY:=λ_ σ H=>b3 σ H λvs H1=>vs.length≤sizeLine∧E (.ref C) none H1
theorem Fb{x:Str}{C:Addr}{B fo l1:String}{bm:List Value}{np e2 pos:Pos}{cF:Expr}{es:List Expr}{b3:fY}(F:uO B fo l1 bm)(O:Exc K aa x C bm fo)(bf:jA (gu P w K aa base N b_ scope f bC A outer s H E) x)(aH:hj (gu P w K aa base N b_ scope f bC A outer s H E) (cF::es) b3)(jG:(x==("__debug__":Str))=false:=by decide)(he:dW (cF::es) (gu P w K aa base N b_ scope f bC A outer s H E).env=(false,eval cF (gu P w K aa base N b_ scope f bC A outer s H E).env)::dW es (gu P w K aa base N b_ scope f bC A outer s H E).env:=by rfl)(fm:(hq e2 (dW es (gu P w K aa base N b_ scope f bC A outer s H E).env)).any (·.1)=false:=by rfl):
  gn (gu P w K aa base N b_ scope f bC A outer s H E) (.Raise (some (.Call (.Name x np) (cF::es) [] e2)) none pos) (acm C E b3):=by
 intro pins s1 σ H1 D I h
 obtain⟨cS,RV,nm,q,bs,hdct,sn,sub,ab,col,dd,k0,k1,k2,k3,k5,mN,dO,fl,wb,T⟩:=(O.own I.mod.rN).obj
 have zV:yH K C bm fo=true:=O.obj
 refine wpAny_Raise_call_subT (C:=C) (nm:=nm) (q:=q) (N:=RV) (bs:=bs) (bm:=cS) (hdct:=hdct) (sn:=sn) (sub:=sub) (ab:=ab) (col:=col) (dd:=dd) (k0:=k0) (k1:=k1) (k2:=k2) (k3:=k3) (k5:=k5)
  F (mN:=mN) (T.hasType F.hasBase) (I.ok.hd rfl) ?_ wb (tM I bf O.bound ⟨rfl,?_⟩ jG)
 .rw[he]
  show(false||(hq e2 (dW es (gu P w K aa base N b_ scope f bC A outer s H E).env)).any (·.1))=false
  rw[fm]
  rfl
 .have rB:=aH e2 pins s1 σ H1 _ I h
  rw[he]at rB⊢
  refine Cg (bH rB λus s2⟨vs,ak,bK,c8,z,lW⟩=>⟨rfl,by rw[←c8.length];exact z,bK.gG _ _ dO,fl.keeps bK.gG,T.keeps bK.gG,λh' bp hm=>amE bK hm lW⟩)
theorem w1{x:Str}{st:Stmt}{fd:cP}{ps:List Str}{k:Nat}{sp:cW}(F:b0 K x b_ st f fd)(S:dT N ps (dh st))(len:∀vs H Q E,sp vs H Q E→vs.length=ps.length)(tB:∀(bC:Value)(A:c5)(outer:List Env)(s:ax)(H:ae)(vs:List V)(Q:bk)(E:cy),fU k (A.deeper (ph b_ (dh st) s.heap.objs.size f bC))→sp vs H Q E→
   ∃t,hT (gu P w K aa base N b_ (dh st) f bC A outer s H E) (rL st) t∧t {b':=λ_ H'=>Q .bR H',rt:=Q} (start N vs) H):aY P w K aa base (gC P w) (k+1) f fd ps sp:=by
 obtain⟨lh,dP,cQ,doc,pm,an,bC,fA,ot,rfl,lk,kp⟩:=F.ex
 exact Hh lk kp S len λA outer s H vs Q E aw mW=>tB bC A outer s H vs Q E aw mW
end
open PySem PySem.Spec PyProof.Rows ai
noncomputable abbrev C6:=cy→TE
noncomputable abbrev C8:=Ends→(St→cy)→St→ae→Prop
section
variable{X:bw}{e o:Expr}{es:List Expr}{pos eZ p:Pos}{k:Nat}{f C:Addr}{fd:cP}{ps:List Str}{sp:cW}{b3:TE}{t:fY}{m x:Str}
theorem WC{α:Type}{X:bw}{pins:List (Addr×Obj)}{M:nK}{A:c5}{c:Sem α}{Q:α→ax→Prop}{E:Value→ax→Prop}{s:ax}(h:aX M A c Q (λ_ _=>False) s):aX M A c Q E s:=
 fa h (λ_ _ q=>q) λ_ _ z=>hQ z
noncomputable def acn(C:Addr)(m:Str)(sp:cW)(b3:TE)(t:fY):C6:=λE=>Hg C m sp [] E b3 t
noncomputable def aco(bY:C6):C8:=λD E σ H=>bY (E σ) σ H λ_ H1=>D.b' σ H1
end
noncomputable def qy(K:a3)(C R:Addr):Bool:=match K.lookup C with
 |some ⟨.type "type",_,.cls cd,bS⟩=>(match cd.mro,bS.toList with
  |.ref xB::bm,[_,_,_,_,some (.builtin _),_]=>xB==C&&!cd.hasDel&&bm.contains (.type "BaseException")&&(da C::bm).contains (.ref R)
  |_,_=>false)
 |_=>false
theorem Xa{K:a3}{h:Heap}{C R:Addr}(X:K.In h)(q:qy K C R=true):∃nm ov N bs bm hdct sn sub ab col dd k0 k1 k2 k3 k5 fo,
  h.get? C=some (vL nm ov C N bs bm hdct sn sub ab col dd k0 k1 k2 k3 k5 fo)∧bm.contains (.type "BaseException")=true∧(da C::bm).contains (.ref R)=true:=by
 unfold qy at q
 split at q
 .rename_i dd cd bS a9
  split at q
  .rename_i xB bm k0 k1 k2 k3 n k5 hm hs
   simp only[kK,PX]at q
   obtain⟨⟨⟨bq,zX⟩,U⟩,aw⟩:=q
   have bq:=o_.mp bq
   subst bq
   obtain⟨nm,bs,mro,ns,ov,hd,sn,sub,ab,col,del⟩:=cd
   dsimp only at hm zX
   subst hm zX
   obtain⟨Xh⟩:=bS
   simp only at hs
   subst hs
   exact⟨nm,ov,ns,bs,bm,hd,sn,sub,ab,col,dd,k0,k1,k2,k3,k5,n,X _ _ a9,U,aw⟩
  .cases q
 .cases q
theorem Ĩ{M:nK}{A:c5}{E:Value→ax→Prop}{K:a3}{C R bp:Addr}{s:ax}{qF:Obj}{Q:Bool→ax→Prop}(X:K.In s.heap)(aF:qy K C R=true)(aw:qy K R R=true)(he:s.heap.get? bp=some qF)(KR:qF.cls=.ref C)(bg:Q true s):aX M A (excMatches (.ref bp) (.ref R)) Q E s:=by
 obtain⟨nm,ov,N,bs,bm,hdct,sn,sub,ab,col,dd,k0,k1,k2,k3,k5,fo,dO,U,ahZ⟩:=Xa X aF
 obtain⟨aj6,akI,N',agl,Jy,anT,ald,alg,afw,agu,nW,an6,an7,an8,an9,aoa,aos,cL,cJ,anS⟩:=Xa X aw
 have KP:(da R::Jy).contains (.type "BaseException")=true:=by rw[ĸ,cJ,ZK]
 have f:=tc_notTuple
 obtain⟨aQ,g,d,t,os⟩:=s
 unfold excMatches
 repeat (first|(with_reducible refine jy he ?_;rw[KR])|with_reducible refine jy cL ?_|(with_reducible refine O4 cL ?_;rw[KP])|(with_reducible refine O4 dO ?_;rw[ahZ])|wp_step)
 exact bg
noncomputable abbrev Ft(X:bw)(bp:Addr):bw:={X with A:=X.A.mark (some (.ref bp)),calm:=false,dj:=λ_ _=>False}
section
variable{X:bw}{pins:List (Addr×Obj)}{σ:St}{H:ae}{s:ax}
theorem Inv.Bs(I:Inv X pins σ H s)(bp:Addr):Inv (Ft X bp) pins σ H s:=
 ⟨⟨I.ok.mod,I.ok.kind,I.ok.glob,I.ok.blt,I.ok.above,I.ok.inj,I.ok.has,I.ok.tf,λz=>bB (show false=true from z) fb,I.ok.frames,I.ok.oE,I.ok.Dt,I.ok.bs,I.ok.pa,I.ok.ua,I.ok.vM,I.ok.jk,I.ok.qf⟩,I.os,I.bare,I.base,I.loc,I.cell,I.free,I.lT,I.pin,I.bh,I.len⟩
theorem Inv.F8{bp:Addr}(hd:X.calm=true→X.A.handled=none)(I:Inv (Ft X bp) pins σ H s):Inv X pins σ H s:=
 ⟨⟨I.ok.mod,I.ok.kind,I.ok.glob,I.ok.blt,I.ok.above,I.ok.inj,I.ok.has,I.ok.tf,hd,I.ok.frames,I.ok.oE,I.ok.Dt,I.ok.bs,I.ok.pa,I.ok.ua,I.ok.vM,I.ok.jk,I.ok.qf⟩,I.os,I.bare,I.base,I.loc,I.cell,I.free,I.lT,I.pin,I.bh,I.len⟩
end
open PySem PySem.Spec PyProof.Rows ai
theorem al2:iV "enumerate"=some (.type "enumerate"):=by decide+kernel
noncomputable def pX(K:a3)(a:Addr):e7:=
 ⟨λi H=>∃xs x,aR K H a xs∧xs[i]?=some x,λi H v H'=>∃p x,H p=none∧v=.ref p∧(∀xs,aR K H a xs→xs[i]?=some x)∧H'=upd H p (.tup [.int i,x]),λi H=>∃xs,aR K H a xs∧xs.length≤i⟩
theorem Β{P:bT}{w:bJ}{K:a3}{elts:List Expr}{k:Nat}{pos:Pos}(a e it:Addr)(Vf:e≠it):
  Turn P w K (.Tuple elts k pos) (pX K a) [e,it] e (λi h=>(∃old,IsEnum h e it ((i:Nat):Int) old)∧h.IsListIter it a i)where
 mem:=by simp
 obj:=λi h st b U=>by
  obtain⟨⟨old,he⟩,o,a9,c,d⟩:=st
  rcases fy.mp U with rfl|U
  .exact⟨_,he,λv z=>by
    have dt:Qb _=Qa v:=z
    cases dt⟩
  .have q:b=it:=by simpa using U
   subst q
   exact⟨o,a9,λv z=>by rw[d]at z;cases z⟩
 keep:=λi h h' st c0=>by
  obtain⟨⟨old,he⟩,hit⟩:=st
  exact⟨⟨old,c0 e (by simp) _ he⟩,hit.at λo q=>c0 it (by simp) o q⟩
 item:=by
  intro X fH hw fk aF i pins s σ H E I hf st bf
  subst fH hw fk
  obtain⟨⟨old,he⟩,hit⟩:=st
  obtain⟨xs,x,bg,ao⟩:=bf
  obtain⟨its,b7,p,bQ⟩:=I.list bg
  obtain⟨u,cf,e4⟩:=b7.get ao
  obtain⟨cF,av,ay,cv,er,gM⟩:=hf e (by simp)
  obtain⟨f0,f1,f2,dc,f4,eU⟩:=hf it (by simp)
  refine wpAny_pyNext_enum_item he hit p.isList (x:=u) (by simpa using cf) Vf λag a9 aiD fV hsz aK=>⟨_,rfl,?_⟩
  refine wpAny_letOwnedTupleGo_enum a9 λaf z0 iG=>?_
  have iG:lB e ag af:=iG
  have az:H s.heap.objs.size=none:=I.fresh
  have oq:∀b o,b∉[e,it]→s.heap.get? b=some o→af.get? b=some o:=λb o U q=>by
   have j3:b≠e:=λz=>U (by simp[z])
   have aic:b≠it:=λz=>U (by simp[z])
   exact(iG.2 b j3).trans (aK b o j3 aic q)
  have Vh:e<s.heap.objs.size:=du he
  have Kx:af.get? s.heap.objs.size=some {cls:=.type "tuple",data:=.seq #[.int i s.toks,u]}:=(iG.2 _ (yy Vh)).trans fV
  have oo:∀b q,H b=some q→b∉[e,it]:=λb q U z=>by
   rcases fy.mp z with rfl|z
   .rw[cF]at U;cases U
   .have dt:b=it:=by simpa using z
    subst dt
    rw[f0]at U;cases U
  refine⟨.ref s.heap.objs.size,upd H s.heap.objs.size (.tup [.int i,x]),?_,rfl,⟨s.heap.objs.size,x,az,rfl,λys aT=>by rw[I.V' aT bg];exact ao,rfl⟩,⟨⟨u,?_⟩,aiD.at λo q=>(iG.2 it Vf.symm).trans q⟩,λb U=>?_⟩
  .show Inv X pins σ (upd H s.heap.objs.size (.tup [.int i,x])) {s with heap:=af,gens:=s.gens,drawn:=s.drawn,toks:=s.toks+1}
   refine I.step (g':=s.gens) (d':=s.drawn) (t':=s.toks+1) (h':=af) (ch:=[e,it]) (λb U=>?_) (λb o _ _ aF q _=>oq b o aF q) (λb o _ _ aF q _=>⟨o.slots,oq b o aF q⟩) (λb o aF q n=>?_)
    (λb o aF q=>⟨o,oq b o aF q⟩) (λb ys q=>?_) (λb o v q=>?_) (λb ps q=>⟨#[],?_⟩) (λm hm=>?_) (λb v q=>?_) I.bare
   .rcases fy.mp U with rfl|U
    .exact⟨cv,av,er,gM⟩
    .have dt:b=it:=by simpa using U
     subst dt
     exact⟨dc,f1,f4,eU⟩
   .rw[aG (en (du q))]
    exact n
   .rw[aG (dg q az)]
    exact q
   .rw[aG (dg q az)]
    exact q
   .rw[aG (dg q az),q]
    simp
   .obtain⟨o,es,ep,i3,r⟩:=hm
    refine⟨o,es,ep,oq _ o (λz=>?_) i3,r⟩
    rcases fy.mp z with z|z
    .exact av z.symm
    .exact f1 (by simpa using z:X.env.locals=it).symm
   .by_cases U:b=s.heap.objs.size
    .subst U
     rw[a4]at q
     cases q
     exact⟨(by show 2≤sizeLine;decide),[.int i s.toks,u],.cons ⟨_,rfl⟩ (.cons e4 .nil),_,Kx,rfl,_,rfl⟩
    .rw[aG U]at q
     refine(I.bh b v q).nt (λc y aF z=>oq c y ?_ z) (λc z=>by rw[aG (dg z az)];exact z) λc ys z=>by rw[aG (dg z az)];exact z
     rcases aF with rfl|aF
     .exact oo _ _ q
     .exact oo _ _ aF
  .have:(((i+1:Nat):Nat):Int)=(i:Int)+1:=by omega
   rw[this]
   exact z0
  .rcases fy.mp U with rfl|U
   .rw[aG (en Vh)]
    exact cF
   .have dt:b=it:=by simpa using U
    subst dt
    obtain⟨_,z,_⟩:=hit
    rw[aG (en (du z))]
    exact f0
 done:=by
  intro X fH hw fk aF i pins s σ H E I hf st bf
  subst fH hw fk
  obtain⟨⟨old,he⟩,hit⟩:=st
  obtain⟨xs,bg,ao⟩:=bf
  obtain⟨its,b7,p,bQ⟩:=I.list bg
  obtain⟨f0,f1,f2,dc,f4,eU⟩:=hf it (by simp)
  have ar:=b7.length
  exact wpAny_pyNext_enum_end (I.ok.hd aF) he hit p.isList (by simp;omega) λh' dJ=>⟨rfl,I.turned (t':=s.toks) (λb o U e=>dJ b o U e) f0 f1 dc f4 eU⟩
 self:=λ_ _ _ _ _ st h=>by
  obtain⟨⟨old,he⟩,_⟩:=st
  exact amn he h
section
variable{X:bw}{elts:List Expr}{k:Nat}{BD:Pos}
inductive adx(K:a3)(vs:List V)(H:ae)(R:e7→ae→Prop):Prop where
 |mk (a:Addr) (b4:vs=[.ref a]) (bL:∃xs,aR K H a xs) (cG:R (pX K a) H)
noncomputable def ady(K:a3)(b3:fY):TI:=λσ H R=>b3 σ H λvs H1=>adx K vs H1 R
theorem AV{l:Expr}{b3:fY}{p pos:Pos}(bf:jA X "enumerate")(hm:X.aa "enumerate"=none)(aH:hj X [l] b3)(hs:dW [l] X.env=[(false,eval l X.env)]:=by rfl):lH X (.Tuple elts k BD) (.Call (.Name "enumerate" p) [l] [] pos) (ady X.K b3):=by
 intro pins s σ H R I h
 refine Call_ (w4 I bf hm al2 (HW (bH (aH pos pins s σ H _ I h) λus s1⟨vs,H1,aS,b6,bq⟩=>?_) hs rfl))
 obtain⟨a,e,⟨xs,bg⟩,q⟩:=bq
 subst e
 cases b6 with
 |cons r lr=>
  cases lr
  cases r
  obtain⟨its,b7,p,bQ⟩:=aS.list bg
  refine call_enumerate_list p.isList λh' he hit hsz c0=>?_
  refine amn he ?_
  have ne:s1.heap.objs.size+1≠s1.heap.objs.size:=aay _
  refine⟨s1.heap.objs.size+1,[s1.heap.objs.size+1,s1.heap.objs.size],_,_,H1,rfl,aS.kept (t':=s1.toks) λb o e=>c0 b o e,Β a _ _ ne,⟨⟨_,he⟩,hit⟩,λb U=>?_,q⟩
  rcases fy.mp U with rfl|U
  .exact aS.qe (vk _) (aS.bh.fresh (vk _))
  .have z:b=s1.heap.objs.size:=by simpa using U
   subst z
   exact aS.qe (b1 _) (aS.bh.fresh (b1 _))
end
section
variable{X:bw}{K:a3}(fk:X.K=K)
include fk
theorem E':vc X (SR K):=by subst fk;exact gp
theorem n1:vc X (SS K):=by subst fk;exact d2
theorem wJ{pos:Pos}{es:List Expr}{k:Nat}{t:lJ}{n:Nat}(aF:X.calm=true)(h:vn X es t)(az:(p9 es X.env).length=n:=by rfl)(kr:(p9 es X.env).findIdx? (·.1)=none:=by rfl):nM X (.Tuple es k pos) (uG K n t):=by
 subst fk
 exact t4 aF h az kr
end
theorem Qi{K:a3}{a:Addr}{xs:List V}{cs:List (Option Nat)}{σ rest:ai.St}{tt:TT}{bY:TE}{Q:bk}{H1:ae}(gx:gO cs σ=none::none::rest)(aH:aR K H1 a xs)(ar:xs.length<sizeLine)(p:Nat→V→Bool)(f:Nat→V→V)(test:∀(i:Nat)(x:V)(ak:ae)(R:Bool→ae→Prop),xs[i]?=some x→aP H1 ak→(∀bU,aP ak bU→R (p i x) bU)→tt (some (.int i)::some x::rest) ak R)(elt:∀(i:Nat)(x:V)(ak:ae)(R:bk),xs[i]?=some x→p i x=true→aP H1 ak→(∀bU,aP ak bU→R (f i x) bU)→bY (some (.int i)::some x::rest) ak R)(fin:∀(D:Addr)(H':ae),H1 D=none→H' D=some (.lst ((xs.zipIdx.filter λz=>p z.2 z.1).map λz=>f z.2 z.1))→aP H1 H'→Q (.ref D) H'):
  ∀D,H1 D=none→∃W:Nat→Nat→List V→ai.St→ae→Prop,(∃m,W 0 m [] (gO cs σ) (upd H1 D (.lst [])))∧∀i m ys a6 H',W i m ys a6 H'→H' D=some (.lst ys)∧ys.length<sizeLine∧
   (((pX K a).stop i H'∧Q (.ref D) H')∨((pX K a).go i H'∧∀x ak,(pX K a).ml i H' x ak→uG K 2 (m7 (gr 0) (m7 (gr 1) uP)) x a6 ak λf' bD=>tt f' bD λb d0=>
    if b=true then bY f' d0 λy bU=>bU D=some (.lst ys)∧∃cR,cR<m∧W (i+1) cR (ys++[y]) f' (upd bU D (.lst (ys++[y])))
    else∃cR,cR<m∧W (i+1) cR ys f' d0)):=by
 intro D cq
 have B7:xs.zipIdx.length=xs.length:=by simp
 refine⟨λi m ys a6 H'=>m=xs.length-i∧i≤xs.length∧ys=((xs.zipIdx.take i).filter λz=>p z.2 z.1).map (λz=>f z.2 z.1)∧(∃o cO,a6=o::cO::rest)∧aP H1 H'∧H' D=some (.lst ys),
  ⟨xs.length,by simp,ea _,by simp,⟨none,none,gx⟩,λb o e=>?_,a4⟩,?_⟩
 .rw[aG (dg e cq)]
  exact e
 .rintro i m ys a6 H' ⟨rfl,aj,rfl,⟨o,cO,rfl⟩,aC,et⟩
  have hz:aR K H' a xs:=aC.seq aH
  refine⟨et,lG ?_ ar,?_⟩
  .rw[bc]
   refine gm (nH _ _) ?_
   rw[gb,B7]
   exact RS _ _
  by_cases bN:i<xs.length
  .have ex:xs[i]?=some xs[i]:=cg bN
   refine .inr ⟨⟨xs,_,hz,ex⟩,λx ak y=>?_⟩
   obtain⟨q,nA,bg,rfl,ei,rfl⟩:=y
   have J3:=ei xs hz
   have lx:aP H' (upd H' q (.tup [.int i,nA])):=λb u e=>by rw[aG (dg e bg)];exact e
   refine⟨q,_,rfl,b2.of a4,rfl,⟨_,_,rfl,⟨_,_,rfl,rfl,?_⟩⟩⟩
   show tt (some (.int i)::some nA::rest) _ _
   refine test i nA _ _ J3 (aC.trans lx) λd0 s4=>?_
   have a5:xs.zipIdx.take (i+1)=xs.zipIdx.take i++[(nA,i)]:=by
    rw[kR,List.getElem?_zipIdx,J3]
    simp
   have qk:=s4 _ _ (lx _ _ et)
   cases aQ:p i nA with
   |true=>
    refine j7 ?_
    refine elt i nA d0 _ J3 aQ ((aC.trans lx).trans s4) λbU s5=>⟨s5 _ _ qk,xs.length-(i+1),by omega,rfl,bN,?_,⟨_,_,rfl⟩,λb ob e=>?_,a4⟩
    .rw[a5,lE,ek]
     simp[aQ]
    .rw[aG (dg e cq)]
     exact s5 _ _ (s4 _ _ (lx _ _ (aC _ _ e)))
   |false=>
    refine ky ⟨xs.length-(i+1),by omega,rfl,bN,?_,⟨_,_,rfl⟩,(aC.trans lx).trans s4,qk⟩
    rw[a5,lE,ek]
    simp[aQ]
  .have e:i=xs.length:=by omega
   subst e
   refine .inl ⟨⟨xs,hz,b1 _⟩,fin D H' cq ?_ aC⟩
   rw[et,←B7,ka]
end cA
namespace ai
open PySem PySem.Spec PyProof.Rows
section
variable{κ:Type}[DecidableEq κ]
noncomputable def cz(kvs:List (κ×V))(k:κ):Option V:=(kvs.find? λck=>decide (ck.1=k)).map (·.2)
noncomputable def ec(kvs:List (κ×V))(k:κ)(v:V):List (κ×V):=
 if(kvs.any λck=>decide (ck.1=k))=true then kvs.map (λck=>if ck.1=k then(ck.1,v)else ck)else kvs++[(k,v)]
theorem kW{p:κ×V}{r:List (κ×V)}{k:κ}(e:p.1=k):cz (p::r) k=some p.2:=by simp[cz,yo,e]
theorem kh{p:κ×V}{r:List (κ×V)}{k:κ}(e:¬p.1=k):cz (p::r) k=cz r k:=by simp[cz,yo,e]
theorem nU(k:κ):∀kvs:List (κ×V),(kvs.any λck=>decide (ck.1=k))=(cz kvs k).isSome
 |[]=>rfl
 |p::r=>by
  rw[CG]
  by_cases e:p.1=k
  .simp only[kW e,dp e,Bool.true_or,Option.isSome_some]
  .rw[kh e,eF e,Bool.false_or];exact nU k r
theorem YV(k j:κ)(y:V):∀kvs:List (κ×V),cz (kvs.map λck=>if ck.1=k then(ck.1,y)else ck) j=(cz kvs j).map λx=>if j=k then y else x
 |[]=>rfl
 |p::r=>by
  have ba:=YV k j y r
  rw[fX]
  by_cases h:p.1=k
  .rw[aI h]
   by_cases e:p.1=j
   .rw[kW (p:=(p.1,y)) e,kW e,HQ,aI (e.symm.trans h)]
   .rw[kh (p:=(p.1,y)) e,kh e,ba]
  .rw[aD h]
   by_cases e:p.1=j
   .rw[kW (p:=p) e,kW e,HQ,aD (λz=>h (e.trans z))]
   .rw[kh (p:=p) e,kh e,ba]
theorem XT(k j:κ)(y:V):∀kvs:List (κ×V),cz kvs k=none→cz (kvs++[(k,y)]) j=if j=k then some y else cz kvs j
 |[],_=>by
  by_cases e:k=j
  .rw[aI e.symm];exact kW (p:=(k,y)) e
  .rw[aD (λz=>e z.symm)];exact kh (p:=(k,y)) e
 |p::r,az=>by
  rw[List.cons_append]
  have aK:¬p.1=k:=λz=>by rw[kW z]at az;cases az
  rw[kh aK]at az
  have ba:=XT k j y r az
  by_cases e:p.1=j
  .rw[kW e,kW e,aD (λz=>aK (e.trans z))]
  .rw[kh e,kh e,ba]
theorem tO(kvs:List (κ×V))(k j:κ)(y:V):cz (ec kvs k y) j=if j=k then some y else cz kvs j:=by
 unfold ec
 by_cases a:(kvs.any λck=>decide (ck.1=k))=true
 .rw[aI a,YV]
  rw[nU]at a
  by_cases e:j=k
  .obtain⟨x,ao⟩:=yB.mp a
   rw[aI e,e,ao,HQ,aI rfl]
  .rw[aD e]
   cases cz kvs j with
   |none=>rfl
   |some x=>rw[HQ,aD e]
 .rw[aD a]
  refine XT k j y kvs ?_
  rw[nU]at a
  cases q:cz kvs k with
  |none=>rfl
  |some x=>rw[q]at a;exact(a rfl).elim
theorem vS(kvs:List (κ×V))(k:κ)(v:V):(ec kvs k v).length≤kvs.length+1:=by
 unfold ec
 split
 .rw[bc];omega
 .rw[ff,hS,q4];omega
theorem wm{kvs:List (κ×V)}{k:κ}(v:V)(h:cz kvs k=none):ec kvs k v=kvs++[(k,v)]:=by
 unfold ec
 rw[nU,h]
 exact aD (by decide)
theorem iI.L0{o:Option V}{u:Option Value}(r:iI o u):o.isSome=u.isSome:=by
 cases o with
 |none=>cases u with
  |none=>rfl
  |some _=>exact(show False from r).elim
 |some _=>cases u with
  |none=>exact(show False from r).elim
  |some _=>rfl
theorem iI.getD{o:Option V}{u:Option Value}{d:V}{d':Value}(r:iI o u)(rd:RelV d d'):RelV (o.getD d) (u.getD d'):=by
 cases o with
 |none=>cases u with
  |none=>exact rd
  |some _=>exact(show False from r).elim
 |some _=>cases u with
  |none=>exact(show False from r).elim
  |some _=>exact r
theorem f_.val{kvs:List (κ×V)}{vs:List (κ×Value)}(r:f_ kvs vs)(k:κ):iI (cz kvs k) (xr vs k):=by
 unfold f_ at r
 induction r with
 |nil=>exact lK
 |@cons p q ps nk h t ba=>
  obtain⟨ag,af⟩:=h
  by_cases e:p.1=k
  .have b5:q.1=k:=ag.symm.trans e
   have b:xr (q::nk) k=some q.2:=by simp[xr,yo,b5]
   rw[kW e,b];exact af
  .have b5:¬q.1=k:=λz=>e (ag.trans z)
   have b:xr (q::nk) k=xr nk k:=by simp[xr,yo,b5]
   rw[kh e,b];exact ba
theorem f_.any{kvs:List (κ×V)}{vs:List (κ×Value)}(r:f_ kvs vs)(k:κ):(kvs.any λck=>decide (ck.1=k))=vs.any λck=>decide (ck.1=k):=by
 unfold f_ at r
 induction r with
 |nil=>rfl
 |cons h t ba=>rw[CG,CG,ba,h.1]
theorem f_.NK{kvs:List (κ×V)}{vs:List (κ×Value)}(r:f_ kvs vs)(k:κ){y:V}{u:Value}(bI:RelV y u):
  f_ (kvs.map λck=>if ck.1=k then(ck.1,y)else ck) (vs.map λck=>if ck.1=k then(ck.1,u)else ck):=by
 unfold f_ at r⊢
 induction r with
 |nil=>exact .nil
 |@cons p q ps nk h t ba=>
  rw[fX,fX]
  refine .cons ?_ ba
  obtain⟨ag,af⟩:=h
  by_cases e:p.1=k
  .rw[aI e,aI (ag.symm.trans e)];exact⟨ag,bI⟩
  .rw[aD e,aD (λz=>e (ag.trans z))];exact⟨ag,af⟩
theorem f_.put{kvs:List (κ×V)}{vs:List (κ×Value)}(r:f_ kvs vs)(k:κ){y:V}{u:Value}(bI:RelV y u):f_ (ec kvs k y) (stored vs k u):=by
 unfold ec stored
 rw[r.any k]
 by_cases e:(vs.any λck=>decide (ck.1=k))=true
 .rw[aI e,aI e];exact r.NK k bI
 .rw[aD e,aD e];exact Paired.snoc r ⟨rfl,bI⟩
theorem f_.length{kvs:List (κ×V)}{vs:List (κ×Value)}(r:f_ kvs vs):kvs.length=vs.length:=iy r
end
theorem rZ{P:bT}{w:bJ}{k:bj}{u:Value}(r:RelV (cQ k) u):(gV P w).is k u=true:=by
 cases k with
 |inl i=>obtain⟨t,e⟩:=(show∃t,u=o6 i t from r);subst e;exact amx P w i t
 |inr x=>obtain⟨t,e⟩:=(show∃t,u=yO x t from r);subst e;exact amy P w x t
theorem XU{P:bT}{w:bJ}:∀{ks:List bj}{us:List Value},cj (ks.map cQ) us→ItemsAre (gV P w) ks us
 |[],_,r=>by rw[HH]at r;cases r;exact .nil
 |k::ks,_,r=>by
  rw[fX]at r
  cases r with
  |cons h t=>exact .cons (rZ h) (XU t)
noncomputable abbrev KT(H:ae):List (List bj×V)→List (List bj×Addr×Value)→Prop:=bZ λp q=>p.1=q.1∧H q.2.1=some (.tup (p.1.map cQ))∧RelV p.2 q.2.2
theorem KT.val{H:ae}{kvs:List (List bj×V)}{xs:List (List bj×Addr×Value)}(r:KT H kvs xs)(k:List bj):iI (cz kvs k) ((q_ xs k).map (·.2)):=by
 induction r with
 |nil=>exact lK
 |@cons p q ps nk h t ba=>
  obtain⟨ag,_,af⟩:=h
  by_cases e:p.1=k
  .have b5:q.1=k:=ag.symm.trans e
   have b:q_ (q::nk) k=some q.2:=by simp[q_,yo,b5]
   rw[kW e,b];exact af
  .have b5:¬q.1=k:=λz=>e (ag.trans z)
   have b:q_ (q::nk) k=q_ nk k:=by simp[q_,yo,b5]
   rw[kh e,b];exact ba
theorem KT.NK{H:ae}{kvs:List (List bj×V)}{xs:List (List bj×Addr×Value)}(r:KT H kvs xs)(k:List bj){y:V}{u:Value}(bI:RelV y u):
  KT H (kvs.map λck=>if ck.1=k then(ck.1,y)else ck) (xs.map (putAt k u)):=by
 induction r with
 |nil=>exact .nil
 |@cons p q ps nk h t ba=>
  rw[fX,fX]
  refine .cons ?_ ba
  obtain⟨ag,af,aU⟩:=h
  unfold putAt
  by_cases e:p.1=k
  .rw[aI e,aI (ag.symm.trans e)];exact⟨ag,af,bI⟩
  .rw[aD e,aD (λz=>e (ag.trans z))];exact⟨ag,af,aU⟩
theorem KT.put{H:ae}{kvs:List (List bj×V)}{xs:List (List bj×Addr×Value)}(r:KT H kvs xs)(k:List bj){b:Addr}{y:V}{u:Value}(U:H b=some (.tup (k.map cQ)))(bI:RelV y u):
  KT H (ec kvs k y) (storedH xs k b u):=by
 have e:(kvs.any λck=>decide (ck.1=k))=(q_ xs k).isSome:=by
  rw[nU,(r.val k).L0,aa5]
 unfold ec storedH
 rw[e]
 by_cases q:(q_ xs k).isSome=true
 .rw[aI q,aI q];exact r.NK k bI
 .rw[aD q,aD q];exact Paired.snoc r ⟨rfl,U,bI⟩
theorem KT.keeps{H H':ae}{kvs:List (List bj×V)}{xs:List (List bj×Addr×Value)}(r:KT H kvs xs)(cw:∀b ys,H b=some (.tup ys)→H' b=some (.tup ys)):KT H' kvs xs:=
 bZ.jL r λ_ _ z=>⟨z.1,cw _ _ z.2.1,z.2.2⟩
section
variable{P:bT}{w:bJ}{H:ae}{h:Heap}{a:Addr}
theorem RX{u:d4}(ok:fe P w H h)(e:bz H a u):eo P w H h a u:=e.ok ok
theorem um{kvs:List (bj×V)}(ok:fe P w H h)(e:bz H a (.ct kvs)):kvs.length≤sizeLine∧(a==jP)=false∧∃vs,f_ kvs vs∧h.DictOf (gV P w) a vs:=
 show eo P w H h a (.ct kvs)from RX ok e
theorem Do{kvs:List (bj×V)}(ok:fe P w H h)(e:H a=some (.ct kvs)):kvs.length≤sizeLine∧(a==jP)=false∧∃vs,f_ kvs vs∧h.DictOf (gV P w) a vs:=um ok (.inl e)
theorem w2{ks:List bj}(ok:fe P w H h)(e:H a=some (.tup (ks.map cQ))):(sd (gV P w)).is h ks a:=by
 obtain⟨_,its,r,o,ag,af,n,aU⟩:=(show eo P w H h a (.tup (ks.map cQ))from ok a _ e)
 exact⟨o,its.toArray,n,ag,af,aU,by simpa using XU r⟩
theorem uo{kvs:List (List bj×V)}(ok:fe P w H h)(e:bz H a (.cE kvs)):kvs.length≤sizeLine∧(a==jP)=false∧
  ∃xs,KT H kvs xs∧h.DictOfH (sd (gV P w)) a xs:=by
 obtain⟨z,y,xs,r,o,es,ep,ag,af,aU,bP,cZ⟩:=(show eo P w H h a (.cE kvs)from RX ok e)
 refine⟨z,y,xs,r,o,es,ep,ag,af,aU,bP,λx ao=>?_,cZ⟩
 have all:∀{l:List (List bj×V)}{m:List (List bj×Addr×Value)},KT H l m→∀x∈m,(sd (gV P w)).is h x.1 x.2.1:=by
  intro l m q
  induction q with
  |nil=>intro x ao;exact nomatch ao
  |@cons p q ps nk bg t ba=>
   intro x ao
   rcases fy.mp ao with e|ao
   .subst e
    exact w2 ok (by rw[←bg.1];exact bg.2.1)
   .exact ba x ao
 exact all r x ao
theorem adz{kvs:List (List bj×V)}(ok:fe P w H h)(e:H a=some (.cE kvs)):kvs.length≤sizeLine∧(a==jP)=false∧
  ∃xs,KT H kvs xs∧h.DictOfH (sd (gV P w)) a xs:=uo ok (.inl e)
end
noncomputable def gP(H:ae)(a:Addr)(y:V)(r:Option V):Prop:=
 (∃kvs k,bz H a (.ct kvs)∧y=cQ k∧r=cz kvs k)∨∃kvs k b,bz H a (.cE kvs)∧y=.ref b∧H b=some (.tup (k.map cQ))∧r=cz kvs k
noncomputable def oA(H:ae)(a:Addr)(y v:V)(H':ae):Prop:=
 (∃kvs k,H a=some (.ct kvs)∧y=cQ k∧kvs.length<sizeLine∧H'=upd H a (.ct (ec kvs k v)))∨
 ∃kvs k b,H a=some (.cE kvs)∧y=.ref b∧H b=some (.tup (k.map cQ))∧kvs.length<sizeLine∧H'=upd H a (.cE (ec kvs k v))
theorem gP.k{H:ae}{a:Addr}{kvs:List (bj×V)}{k:bj}(e:H a=some (.ct kvs)):gP H a (cQ k) (cz kvs k):=.inl ⟨kvs,k,.inl e,rfl,rfl⟩
theorem gP.t{H:ae}{a b:Addr}{kvs:List (List bj×V)}{k:List bj}(e:H a=some (.cE kvs))(dJ:H b=some (.tup (k.map cQ))):gP H a (.ref b) (cz kvs k):=.inr ⟨kvs,k,b,.inl e,rfl,dJ,rfl⟩
theorem oA.k{H:ae}{a:Addr}{kvs:List (bj×V)}{k:bj}{v:V}(e:H a=some (.ct kvs))(ar:kvs.length<sizeLine):oA H a (cQ k) v (upd H a (.ct (ec kvs k v))):=.inl ⟨kvs,k,e,rfl,ar,rfl⟩
theorem oA.t{H:ae}{a b:Addr}{kvs:List (List bj×V)}{k:List bj}{v:V}(e:H a=some (.cE kvs))(dJ:H b=some (.tup (k.map cQ)))(ar:kvs.length<sizeLine):
  oA H a (.ref b) v (upd H a (.cE (ec kvs k v))):=.inr ⟨kvs,k,b,e,rfl,dJ,ar,rfl⟩
section
variable{X:bw}{pins:List (Addr×Obj)}{σ:St}{H:ae}{s:ax}{a:Addr}{y v:V}{u r:Value}{o:Option V}{A:c5}{E:Value→ax→Prop}
theorem Inv.big(I:Inv X pins σ H s):jP<s.heap.objs.size:=by
 have h:c1<s.heap.objs.size:=(I.mod.glob.keeps I.gG).lt
 exact aat (by decide) h
theorem Γ{Q:Value→ax→Prop}(cf:A.units+1<cLine)(I:Inv X pins σ H s)(g:gP H a y (some v))(bI:RelV y u)(h:∀fO s',Inv X pins σ H s'→RelV v fO→Q fO s'):
  aX (br X.prog X.w) A (vV (.ref a) u) Q E s:=by
 rcases g with⟨kvs,k,e,dV,l⟩|⟨kvs,k,b,e,dV,dJ,l⟩
 .subst dV
  obtain⟨z,hd,vs,rel,dd⟩:=um I.bh e
  obtain⟨fO,hw,kF⟩:=iI.some_of (v:=v) (o:=xr vs k) (by rw[l];exact rel.val k)
  exact wpAny_getItem_of (rZ bI) dd.mapOf hw (h fO _ (I.tok _) kF)
 .subst dV
  cases(show u=da b from bI)
  obtain⟨z,hd,xs,rel,dd⟩:=uo I.bh e
  obtain⟨fO,hw,kF⟩:=iI.some_of (v:=v) (o:=(q_ xs k).map (·.2)) (by rw[l];exact rel.val k)
  obtain⟨p,aQ,tI⟩:=eh.mp hw
  refine wpAny_getItem_heap (F5 cf) (w2 I.bh dJ) dd aQ ?_
  rw[tI]
  exact h fO _ (I.tok _) kF
theorem ĩ{Q:Value→ax→Prop}(cf:A.units+1<cLine)(I:Inv X pins σ H s)(g:gP H a y o)(bI:RelV y u)(h:∀s',Inv X pins σ H s'→Q (.bool (!o.isSome)) s'):
  aX (br X.prog X.w) A (hv .NotIn u (.ref a)) Q E s:=by
 rcases g with⟨kvs,k,e,dV,l⟩|⟨kvs,k,b,e,dV,dJ,l⟩
 .subst dV
  obtain⟨z,hd,vs,rel,dd⟩:=um I.bh e
  refine wpAny_notIn_of (rZ bI) hd dd.mapOf ?_
  rw[←(rel.val k).L0,←l]
  exact h _ (I.tok _)
 .subst dV
  cases(show u=da b from bI)
  obtain⟨z,hd,xs,rel,dd⟩:=uo I.bh e
  refine wpAny_notIn_heap (F5 cf) (w2 I.bh dJ) hd dd ?_
  have q:=(rel.val k).L0
  rw[aa5]at q
  rw[←q,←l]
  exact h _ (I.tok _)
theorem Fu{h':Heap}{t':Nat}{ob:d4}(I:Inv X pins σ H s)(h4:yw (H a))(hs:lB a s.heap h')(he:∃q,h'.get? a=some q)(new:eo X.prog X.w (upd H a ob) h' a ob):
  Inv X pins σ (upd H a ob) {s with heap:=h',toks:=t'}:=
 I.write (x:=a) (e:=a) h4 (.inl rfl) (λb q U z=>(hs.2 b U).trans z) he new
theorem Gz{P:bT}{w:bJ}{H':ae}{h':Heap}{kvs:List (bj×V)}{vs:List (bj×Value)}(z:kvs.length≤sizeLine)(hd:(a==jP)=false)(rel:f_ kvs vs)(dd:h'.DictOf (gV P w) a vs):
  eo P w H' h' a (.ct kvs):=⟨z,hd,vs,rel,dd⟩
theorem Δ{H':ae}{Q:Unit→ax→Prop}(cf:A.units+1<cLine)(I:Inv X pins σ H s)(g:oA H a y v H')(bI:RelV y u)(b7:RelV v r)(h:∀s',Inv X pins σ H' s'→Q () s'):
  aX (br X.prog X.w) A (setItem (.ref a) u r) Q E s:=by
 rcases g with⟨kvs,k,e,dV,l,JM⟩|⟨kvs,k,b,e,dV,dJ,l,JM⟩
 .subst dV JM
  obtain⟨z,hd,vs,rel,dd⟩:=Do I.bh e
  have bQ:vs.length≤sizeLine:=by rw[←rel.length];exact z
  have ar:(ec kvs k v).length≤sizeLine:=by have:=vS kvs k v;omega
  refine wpAny_setItem_pairs (hsz:=bQ) (rZ bI) dd λh' nW hs=>h _ ?_
  have he:∃q,h'.get? a=some q:=let⟨q,_,_,bg,_⟩:=nW;⟨q,bg⟩
  exact Fu I (by rw[e];exact lK) hs he (Gz ar hd (rel.put k b7) nW)
 .subst dV JM
  cases(show u=da b from bI)
  obtain⟨z,hd,xs,rel,dd⟩:=adz I.bh e
  have bQ:xs.length≤sizeLine:=by rw[←iy rel];exact z
  have ar:(ec kvs k v).length≤sizeLine:=by have:=vS kvs k v;omega
  refine wpAny_setItem_heap (hsz:=bQ) (F5 cf) (w2 I.bh dJ) dd λh' nW hs=>h _ ?_
  obtain⟨q,es,ep,bg,af,aU,bP,_,cZ⟩:=nW
  refine Fu I (by rw[e];exact lK) hs ⟨q,bg⟩ ⟨ar,hd,_,(rel.put k dJ b7).keeps λc ys j0=>?_,q,es,ep,bg,af,aU,bP,cZ⟩
  rw[aG (hx j0 e (λz=>nomatch z))]
  exact j0
end
noncomputable def SN(i:Expr):Prop:=∀ej i4,Ob i false ej i4=operate [ej,i4] (vV ej i4)
theorem Ī{prog:bT}{w:bJ}{A:c5}{E:Value→ax→Prop}{s:ax}{env:Env}{value slice:Expr}{pos:Pos}{T id:String}{Q:Value→ax→Prop}(ar:typeLookup (.type T) "__getitem__"=pure (some (.builtin id)))(hs:SN slice)(h:aX (br prog w) A (eval value env) (λo dw=>aX (br prog w) A (eval slice env) (λi pQ=>pQ.TypeIs o T∧aX (br prog w) A (vV o i) Q E pQ) E dw) E s):
  aX (br prog w) A (eval (.Subscript value slice pos) env) Q E s:=by
 refine Ir (fa h (λo dw Lx=>fa Lx (λi pQ Ly=>?_) λ_ _ x=>x) λ_ _ x=>x)
 obtain⟨fV,Ly⟩:=Ly
 unfold Oa
 refine aJ ?_
 rw[getitemInPython_of_ne fV.not_modules]
 refine aJ (wpAny_specialOf fV ar ?_)
 have fin:aX (br prog w) A (Ob slice false o i) (λr Xr=>aX (br prog w) A (letTemporaryGo value o r >>=λ_=>pure r) Q E Xr) E pQ:=by
  rw[hs o i]
  exact wpAny_operating (fa Ly (λr Xr ajl=>aJ (wpAny_letTemporaryGo (bM ajl))) λ_ _ x=>x)
 first
  |exact bM (aJ fin)
  |exact aJ (bM (aJ fin))
  |exact aJ fin
theorem amF{X:bw}{pins:List (Addr×Obj)}{σ:St}{H:ae}{s:ax}{a:Addr}{y:V}{o:Option V}(I:Inv X pins σ H s)(g:gP H a y o):s.TypeIs (.ref a) "dict":=by
 rcases g with⟨kvs,k,e,_,_⟩|⟨kvs,k,b,e,_,_,_⟩
 .obtain⟨_,_,vs,_,dd⟩:=um I.bh e
  exact dd.typeIs
 .obtain⟨_,_,xs,_,dd⟩:=uo I.bh e
  exact dd.typeIs
noncomputable def adi(dQ ty:TE):TE:=λσ H Q=>dQ σ H λx H1=>ty σ H1 λy ak=>∃a v,x=.ref a∧gP ak a y (some v)∧Q v ak
noncomputable def ŷ(ty dQ:TE):TE:=λσ H Q=>ty σ H λy H1=>dQ σ H1 λx ak=>∃a o,x=.ref a∧gP ak a y o∧Q (.bo (!o.isSome)) ak
noncomputable def adj(dQ ty jb:TE):eY:=λD σ H=>jb σ H λv H1=>dQ σ H1 λx ak=>ty σ ak λy bD=>∃a d0,x=.ref a∧oA bD a y v d0∧D.b' σ d0
section
variable{X:bw}{o i e value:Expr}{pos pos' BD:Pos}{dQ ty jb:TE}
theorem pw(cf:X.A.units+1<cLine)(a9:bE X o dQ)(aj:bE X i ty)(hs:SN i):bE X (.Subscript o i pos) (adi dQ ty):=by
 intro pins s σ H Q I h
 refine Ī PySem.F.slot_dict_getitem.lookup hs (bH (a9 pins s σ H _ I h) λu s1⟨x,H1,aS,bt,bq⟩=>bH (aj pins s1 σ H1 _ aS bq) λi4 s2⟨y,ak,bK,bI,a,v,ex,g,cp⟩=>?_)
 subst ex
 obtain rfl:u=da a:=bt
 exact⟨amF bK g,Γ cf bK g bI λfO s3 cT kF=>⟨v,ak,cT,kF,cp⟩⟩
theorem Nr(cf:X.A.units+1<cLine)(aj:bE X i ty)(a9:bE X o dQ):HR X .NotIn i o (ŷ ty dQ):=by
 intro pins s σ H Q I h
 refine bH (aj pins s σ H _ I h) λi4 s1⟨y,H1,aS,bI,bq⟩=>bH (a9 pins s1 σ H1 _ aS bq) λu s2⟨x,ak,bK,bt,a,ej,ex,g,cp⟩=>?_
 subst ex
 obtain rfl:u=da a:=bt
 exact ĩ cf bK g bI λs3 cT=>⟨.bo (!ej.isSome),ak,cT,rfl,cp⟩
theorem AO(cf:X.A.units+1<cLine)(a9:bE X o dQ)(aj:bE X i ty)(bG:bE X value jb)(hs:xl value (some (.Subscript o i pos')) pos.line X.env=pure false):
  gn X (.Assign [.Subscript o i pos'] value pos) (adj dQ ty jb):=by
 intro pins s σ H D I h
 refine wpAny_Assign_Subscript (bH (bG pins s σ H _ I h) λr s1⟨v,H1,aS,b7,bq⟩=>bH (a9 pins s1 σ H1 _ aS bq) λu s2⟨x,ak,bK,bt,cp⟩=>bH (aj pins s2 σ ak _ bK cp) λi4 s3⟨y,bD,cT,bI,a,d0,ex,g,eH⟩=>?_) hs
 subst ex
 obtain rfl:u=da a:=bt
 exact Δ cf cT g bI b7 λs4 iP=>⟨σ,d0,iP,eH⟩
end
theorem YW{P:bT}{w:bJ}{H:ae}(h:Heap)(U:jP<h.objs.size):eo P w H (h.push {cls:=.type "dict",data:=.dict #[]}) h.objs.size (.ct []):=
 ⟨ea _,vC.mpr (dG (en U)),[],.nil,Heap.DictOf.new h⟩
theorem è{P:bT}{w:bJ}{H:ae}(h:Heap)(U:jP<h.objs.size):eo P w H (h.push {cls:=.type "dict",data:=.dict #[]}) h.objs.size (.cE []):=
 ⟨ea _,vC.mpr (dG (en U)),[],.nil,_,#[],0,gD _ rfl,⟨rfl,rfl,rfl⟩,rfl,rfl,mu⟩
noncomputable def acp:TE:=λ_ H Q=>∀p,H p=none→Q (.ref p) (upd H p (.ct []))
noncomputable def acq:TE:=λ_ H Q=>∀p,H p=none→Q (.ref p) (upd H p (.cE []))
section
variable{X:bw}{pos:Pos}
theorem YX:bE X (.Dict [] [] pos) acp:=λpins s σ H Q I h=>
 amf ⟨.ref s.heap.objs.size,_,I.laid (a:=s.heap.objs.size) (o:=.ct []) (t':=s.toks) (λ_ _ q=>dy _ q) (b1 _) (YW s.heap I.big),rfl,h _ (I.bh.fresh (b1 _))⟩
theorem NT:bE X (.Dict [] [] pos) acq:=λpins s σ H Q I h=>
 amf ⟨.ref s.heap.objs.size,_,I.laid (a:=s.heap.objs.size) (o:=.cE []) (t':=s.toks) (λ_ _ q=>dy _ q) (b1 _) (è s.heap I.big),rfl,h _ (I.bh.fresh (b1 _))⟩
end
noncomputable def GC:List (TE×TE)→St→ae→(List (V×V)→ae→Prop)→Prop
 |[],_,H,Q=>Q [] H
 | (a5,jb)::r,σ,H,Q=>a5 σ H λx H1=>jb σ H1 λy ak=>GC r σ ak λps bD=>Q ((x,y)::ps) bD
noncomputable abbrev SY:List (V×V)→List (Value×Value)→Prop:=bZ λp q=>RelV p.1 q.1∧RelV p.2 q.2
noncomputable def CZ(X:bw)(pos:Pos)(keys:List (Option Expr))(values:List Expr)(qN:List (TE×TE)):Prop:=
 ∀(pins:List (Addr×Obj))(s:ax)(σ:St)(H:ae)(Q:List (V×V)→ae→Prop),Inv X pins σ H s→GC qN σ H Q→
  aX (br X.prog X.w) X.A (evalPairs (pairTrees keys values X.env pos)) (λvs s'=>∃ps H',Inv X pins σ H' s'∧SY ps vs∧Q ps H') X.dj s
theorem Ÿ{X:bw}{pos:Pos}:CZ X pos [] [] []:=λpins s σ H Q I h=>pairTrees_nil_walk ⟨[],H,I,.nil,h⟩
theorem é{X:bw}{pos:Pos}{k v:Expr}{ks:List (Option Expr)}{vs:List Expr}{a5 jb:TE}{qN:List (TE×TE)}(aK:bE X k a5)(bG:bE X v jb)(aw:CZ X pos ks vs qN):
  CZ X pos (some k::ks) (v::vs) ((a5,jb)::qN):=λpins s σ H Q I h=>
 pairTrees_cons_walk (bH (aK pins s σ H _ I h) λu s1⟨x,H1,aS,bt,bq⟩=>bH (bG pins s1 σ H1 _ aS bq) λfD s2⟨y,ak,bK,bI,cp⟩=>
  bH (aw pins s2 σ ak _ bK cp) λws s3⟨ps,bD,cT,rel,eH⟩=>⟨(x,y)::ps,bD,cT,.cons ⟨bt,bI⟩ rel,eH⟩)
noncomputable def xa(kvs more:List (bj×V)):List (bj×V):=more.foldl (λacc ck=>ec acc ck.1 ck.2) kvs
theorem f_.merge:∀{more:List (bj×V)}{rs:List (bj×Value)}{kvs:List (bj×V)}{vs:List (bj×Value)},f_ more rs→f_ kvs vs→f_ (xa kvs more) (merged vs rs):=by
 intro more rs kvs vs r
 unfold f_ at r
 induction r generalizing kvs vs with
 |nil=>intro q;exact q
 |@cons p q ps nk h t ba=>
  intro r0
  have e:f_ (ec kvs p.1 p.2) (stored vs q.1 q.2):=by
   have:=r0.put p.1 h.2
   rw[←h.1];exact this
  exact ba e
theorem Wn:∀(more kvs:List (bj×V)),(xa kvs more).length≤kvs.length+more.length
 |[],kvs=>by show kvs.length≤kvs.length+0;omega
 |p::r,kvs=>by
  have ag:=Wn r (ec kvs p.1 p.2)
  have af:=vS kvs p.1 p.2
  show(xa (ec kvs p.1 p.2) r).length≤_
  rw[hS];omega
theorem Xb{P:bT}{w:bJ}:∀{kvs:List (bj×V)}{ws:List (Value×Value)},SY (kvs.map λck=>(cQ ck.1,ck.2)) ws→∃rs,Carries (gV P w) ws rs∧f_ kvs rs
 |[],_,r=>by rw[HH]at r;cases r;exact⟨[],lK,.nil⟩
 |p::kvs,_,r=>by
  rw[fX]at r
  cases r with
  |@cons a b as bs h t=>
   obtain⟨rs,c,q⟩:=Xb (P:=P) (w:=w) t
   obtain⟨d6,dC⟩:=b
   exact⟨(p.1,dC)::rs,⟨rZ h.1,rfl,c⟩,.cons ⟨rfl,h.2⟩ q⟩
noncomputable def adk(qN:List (TE×TE)):TE:=λσ H Q=>∀p,H p=none→GC qN σ (upd H p (.ct [])) λps ak=>ak p=some (.ct [])∧∃kvs:List (bj×V),ps=kvs.map (λck=>(cQ ck.1,ck.2))∧kvs.length≤15∧Q (.ref p) (upd ak p (.ct (xa [] kvs)))
theorem Ź{X:bw}{pos:Pos}{keys:List (Option Expr)}{values:List Expr}{qN:List (TE×TE)}(h:CZ X pos keys values qN)(KD:keys.all (·.isSome)=true)(ar:keys.length=values.length)(h0:keys≠[])(ahY:keys.length≤15):bE X (.Dict keys values pos) (adk qN):=by
 intro pins s σ H Q I q
 have az:=I.bh.fresh (b1 s.heap.objs.size)
 have aS:=I.laid (a:=s.heap.objs.size) (o:=.ct []) (h':=s.heap.push {cls:=.type "dict",data:=.dict #[]}) (t':=s.toks) (λ_ _ q=>dy _ q) (b1 _) (YW s.heap I.big)
 refine wpAny_Dict_walk (knd:=gV X.prog X.w) KD ar h0 ahY (bH (h pins _ σ _ _ aS (q _ az)) λws s2⟨ps,ak,bK,rel,e,kvs,ep,lk,cp⟩=>?_)
 subst ep
 obtain⟨rs,c,ox⟩:=Xb (P:=X.prog) (w:=X.w) rel
 obtain⟨z,hd,aoH,r0,dd⟩:=Do bK.bh e
 cases r0
 refine⟨rs,c,dd,λh' nW hs=>⟨.ref s.heap.objs.size,_,?_,rfl,cp⟩⟩
 have bQ:(xa [] kvs).length≤sizeLine:=by
  have ag:=Wn kvs []
  rw[q4]at ag
  rw[qM];omega
 have he:∃q,h'.get? s.heap.objs.size=some q:=let⟨q,_,_,bg,_⟩:=nW;⟨q,bg⟩
 exact Fu bK (by rw[e];exact lK) hs he (Gz bQ hd (ox.merge .nil) nW)
structure a'(X:bw)(o:Expr)(m:Str)(eZ:Pos)(e:Expr)(e2:Pos):Prop where
 base:yS o m X.env (eval o X.env)=eval o X.env
 cM:((hq e2 (dW [e] X.env)).all (λx=>!x.1)&&(rg e2 (rM [] X.env)).all (λx=>x.1.isSome)
  && decide (([e]:List Expr).length+([]:List yj).length+(if([]:List yj).isEmpty then 0 else 1)<30))=true
 line:(eZ.endLine==e2.line)=true
 trees:hq e2 (dW [e] X.env)=[(false,eval e X.env)]
structure M2(X:bw)(o:Expr)(m:Str)(eZ:Pos)(e f:Expr)(e2:Pos):Prop where
 base:yS o m X.env (eval o X.env)=eval o X.env
 cM:((hq e2 (dW [e,f] X.env)).all (λx=>!x.1)&&(rg e2 (rM [] X.env)).all (λx=>x.1.isSome)
  && decide (([e,f]:List Expr).length+([]:List yj).length+(if([]:List yj).isEmpty then 0 else 1)<30))=true
 line:(eZ.endLine==e2.line)=true
 trees:hq e2 (dW [e,f] X.env)=[(false,eval e X.env),(false,eval f X.env)]
noncomputable def yb(H:ae)(a:Addr):Prop:=(∃kvs,bz H a (.ct kvs))∨∃kvs,bz H a (.cE kvs)
theorem GD{X:bw}{pins:List (Addr×Obj)}{σ:St}{H:ae}{s:ax}{a:Addr}(I:Inv X pins σ H s)(d:yb H a):
  s.TypeIs (.ref a) "dict"∧(∀b,da a=.ref b→∃ob,s.heap.get? b=some ob∧ob.dict=none)∧(a==jP)=false:=by
 rcases d with⟨kvs,e⟩|⟨kvs,e⟩
 .obtain⟨_,hd,vs,_,dd⟩:=um I.bh e
  refine⟨dd.typeIs,λb q=>?_,hd⟩
  cases q
  obtain⟨ob,_,_,ag,af,_⟩:=dd
  exact⟨ob,ag,af.2.1⟩
 .obtain⟨_,hd,xs,_,dd⟩:=uo I.bh e
  refine⟨dd.typeIs,λb q=>?_,hd⟩
  cases q
  obtain⟨ob,_,_,ag,af,_⟩:=dd
  exact⟨ob,ag,af.2.1⟩
section
variable{X:bw}{pins:List (Addr×Obj)}{σ:St}{H:ae}{s:ax}{a:Addr}{y d:V}{u r:Value}{o:Option V}{A:c5}{E:Value→ax→Prop}
theorem acr{Q:Value→ax→Prop}(cf:A.units+1<cLine)(I:Inv X pins σ H s)(g:gP H a y o)(bI:RelV y u)(h:∀fO s',Inv X pins σ H s'→RelV (o.getD .bR) fO→Q fO s'):
  aX (br X.prog X.w) A (call (.builtin "dict.get") [.ref a,u]) Q E s:=by
 rcases g with⟨kvs,k,e,dV,l⟩|⟨kvs,k,b,e,dV,dJ,l⟩
 .subst dV
  obtain⟨z,hd,vs,rel,dd⟩:=um I.bh e
  refine Dc yG dd.typeIs HX (abn _ _) (meets_dict_get (gV X.prog X.w) a (rZ bI) hd) ⟨_,dd.mapOf,h _ _ (I.tok _) ?_⟩
  rw[l]
  exact(rel.val k).getD rfl
 .subst dV
  cases(show u=da b from bI)
  obtain⟨z,hd,xs,rel,dd⟩:=uo I.bh e
  refine Dc yG dd.typeIs HX (abn _ _) (meetsH_dict_get (sd (gV X.prog X.w)) a b hd) ⟨F5 cf,k,xs,w2 I.bh dJ,dd,h _ _ (I.tok _) ?_⟩
  rw[l]
  exact(rel.val k).getD rfl
theorem abQ{Q:Value→ax→Prop}(cf:A.units+1<cLine)(I:Inv X pins σ H s)(g:gP H a y o)(bI:RelV y u)(rd:RelV d r)(h:∀fO s',Inv X pins σ H s'→RelV (o.getD d) fO→Q fO s'):
  aX (br X.prog X.w) A (call (.builtin "dict.get") [.ref a,u,r]) Q E s:=by
 rcases g with⟨kvs,k,e,dV,l⟩|⟨kvs,k,b,e,dV,dJ,l⟩
 .subst dV
  obtain⟨z,hd,vs,rel,dd⟩:=um I.bh e
  refine Dc yG dd.typeIs HX (abo _ _ _) (meets_dict_get_default (gV X.prog X.w) a (rZ bI) hd r) ⟨_,dd.mapOf,h _ _ (I.tok _) ?_⟩
  rw[l]
  exact(rel.val k).getD rd
 .subst dV
  cases(show u=da b from bI)
  obtain⟨z,hd,xs,rel,dd⟩:=uo I.bh e
  refine Dc yG dd.typeIs HX (abo _ _ _) (meetsH_dict_get_default (sd (gV X.prog X.w)) a b hd r) ⟨F5 cf,k,xs,w2 I.bh dJ,dd,h _ _ (I.tok _) ?_⟩
  rw[l]
  exact(rel.val k).getD rd
end
noncomputable def abR(dQ ty:TE):TE:=λσ H Q=>dQ σ H λx H1=>∃a,x=.ref a∧yb H1 a∧ty σ H1 λy ak=>∃o,gP ak a y o∧Q (o.getD .bR) ak
noncomputable def abS(dQ ty nu:TE):TE:=λσ H Q=>dQ σ H λx H1=>∃a,x=.ref a∧yb H1 a∧ty σ H1 λy ak=>nu σ ak λz bD=>∃o,gP bD a y o∧Q (o.getD z) bD
section
variable{X:bw}{o e f:Expr}{eZ e2:Pos}{dQ ty nu:TE}
theorem NU(cf:X.A.units+1<cLine)(a9:bE X o dQ)(he:bE X e ty)(m:a' X o "get" eZ e e2):bE X (.Call (.Attribute o "get" eZ) [e] [] e2) (abR dQ ty):=by
 intro pins s σ H Q I h
 refine Yo m.base m.cM m.line HY yG abr (bH (a9 pins s σ H _ I h) λu s1⟨x,H1,aS,bt,a,ex,d,bq⟩=>?_)
 subst ex
 obtain rfl:u=da a:=bt
 obtain⟨t1,dx,_⟩:=GD aS d
 refine⟨t1,dx,?_⟩
 rw[m.trees]
 refine Cf rfl (Cg (xC (bH (he pins s1 σ H1 _ aS bq) λi4 s2⟨y,ak,bK,bI,ej,g,cp⟩=>GY ?_)))
 exact acr cf bK g bI λfO s3 cT kF=>⟨_,ak,cT,kF,cp⟩
theorem ê(cf:X.A.units+1<cLine)(a9:bE X o dQ)(he:bE X e ty)(hf:bE X f nu)(m:M2 X o "get" eZ e f e2):bE X (.Call (.Attribute o "get" eZ) [e,f] [] e2) (abS dQ ty nu):=by
 intro pins s σ H Q I h
 refine Yo m.base m.cM m.line HY yG abr (bH (a9 pins s σ H _ I h) λu s1⟨x,H1,aS,bt,a,ex,d,bq⟩=>?_)
 subst ex
 obtain rfl:u=da a:=bt
 obtain⟨t1,dx,_⟩:=GD aS d
 refine⟨t1,dx,?_⟩
 rw[m.trees]
 refine Cf rfl (Cg (xC (bH (he pins s1 σ H1 _ aS bq) λi4 s2⟨y,ak,bK,bI,cp⟩=>
  xC (bH (hf pins s2 σ ak _ bK cp) λUl s3⟨z,bD,cT,FN,ej,g,eH⟩=>GY ?_))))
 exact abQ cf cT g bI FN λfO s4 iP kF=>⟨_,bD,iP,kF,eH⟩
end
open PySem PySem.Spec PyProof.Rows
section
variable{κ:Type}[DecidableEq κ]
theorem YY{kvs:List (κ×V)}{k:κ}(h:cz kvs k=none):¬k∈kvs.map (·.1):=by
 intro m
 obtain⟨p,aQ,e⟩:=bV.mp m
 have q:(kvs.any λck=>decide (ck.1=k))=true:=oV.mpr ⟨p,aQ,dp e⟩
 rw[nU,h]at q
 exact bB q (by simp)
theorem OO{kvs:List (κ×V)}{k:κ}{v:V}(h:cz kvs k=some v):k∈kvs.map (·.1):=by
 have q:(kvs.any λck=>decide (ck.1=k))=true:=by
  rw[nU,h]
  all_goals rfl
 obtain⟨p,aQ,e⟩:=oV.mp q
 exact bV.mpr ⟨p,aQ,jM e⟩
theorem Qj:∀{l:List κ}{k:κ},l.Nodup→¬k∈l→(l++[k]).Nodup
 |[],k,_,_=>by simp
 |a::r,k,h,aK=>by
  obtain⟨ag,af⟩:=jU.mp h
  show(a::(r++[k])).Nodup
  refine jU.mpr ⟨λm=>?_,Qj af λm=>aK (fy.mpr (kb m))⟩
  rcases el.mp m with q|q
  .exact ag q
  .exact aK (fy.mpr (cC (e8.mp q).symm))
theorem ź{kvs:List (κ×V)}{k:κ}(v:V)(az:(kvs.map (·.1)).Nodup)(h:cz kvs k=none):((ec kvs k v).map (·.1)).Nodup:=by
 rw[wm v h,ek]
 exact Qj az (YY h)
end
end ai
namespace cA
section
open PySem PySem.Spec PyProof.Rows
open PySem.Builtin PySem.Builtin.Getset_descriptor
structure ae7(K:a3)(C:Addr):Prop where
 ga:c3 K (.ref C) "__getattribute__"=some (some (.builtin "BaseException.__getattribute__"))
 no:c3 K (.ref C) "__getattr__"=some none
 aH:c3 K (.ref C) "__class__"=some (some (.builtin "object.__class__"))
 az:yK K (.builtin "object.__class__") "__get__"=some (some (.builtin "getset_descriptor.__get__"))
 Lm:Sr K (.builtin "object.__class__")=some true
 hm:C3 K C (.type "object")=some true
 U:C3 K C (.type "BaseException")=some true
end
open PySem PySem.Spec PyProof.Rows ai
section
variable{X:bw}
theorem SP{k:Nat}{A:c5}(r:fU k A):A.units+65<cLine:=by have:=r.un;omega
inductive adl(K:a3)(neg:Bool)(x:ai.V)(y:ai.V)(H:ae)(Q:bk):Prop where
 |mk (d:_) (ds:_) (b4:kM K H x d) (bL:kM K H y (.list ds)) (cG:q8 d=true) (c2:yE ds=true) (dR:Q (.bo (if neg then !(ds.any λz=>je z d)else ds.any λz=>je z d)) H)
noncomputable def ae8(K:a3)(neg:Bool):gL:=λx y H Q=>adl K neg x y H Q
theorem ë{A:c5}{ds:List PyData}{d:PyData}(cB:q8 d=true)(cf:A.units+65<cLine):A.units+1+min (HV ds) d.depth<cLine:=by
 have ag:=SeqAt.depth_of_shaped cB
 have af:min (HV ds) d.depth≤d.depth:=RS _ _
 omega
theorem QW(cf:X.A.units+65<cLine):fQ X (hv .In) (ae8 X.K false):=by
 intro pins s σ H x y v u Q I bt bI h
 obtain⟨d,ds,hd,he,cB,fN,q⟩:=h
 obtain⟨as,fM⟩:=tN I hd bt
 obtain⟨bs,kE⟩:=tN I he bI
 exact SeqAt.in_list_reads kE fM fN (SeqAt.canLay_of_shaped cB) (ë cB cf) ⟨.bo _,H,I,rfl,q⟩
end
end cA
namespace fx
open PySem ai cA
theorem lV:iV "len"=some (.builtin "len"):=by decide+kernel
theorem vF:iV "isinstance"=some (.builtin "isinstance"):=by decide+kernel
theorem GF:iV "all"=some (.builtin "all"):=by decide+kernel
theorem QX:iV "int"=some (.type "int"):=by decide+kernel
theorem Ż:iV "bool"=some (.type "bool"):=by decide+kernel
theorem abT:iV "str"=some (.type "str"):=by decide+kernel
theorem tR:iV "list"=some (.type "list"):=by decide+kernel
theorem YZ:iV "tuple"=some (.type "tuple"):=by decide+kernel
theorem abU:iV "set"=some (.type "set"):=by decide+kernel
structure g4(aa:Str→Option Value):Prop where
 len:aa "len"=none
 range:aa "range"=none
 isinstance:aa "isinstance"=none
 Jr:aa "all"=none
 int:aa "int"=none
 bool:aa "bool"=none
 str:aa "str"=none
 list:aa "list"=none
 tuple:aa "tuple"=none
 ak7:aa "set"=none
 ValueError:aa "ValueError"=none
 enumerate:aa "enumerate"=none
 max:aa "max"=none
 min:aa "min"=none
 sum:aa "sum"=none
 anH:aa "any"=none
 dict:aa "dict"=none
 sorted:aa "sorted"=none
 zip:aa "zip"=none
structure dS(K:a3)(aa:Str→Option Value)(x:Str)(st:Stmt)(ps:List Str)(f:Addr)(fd:cP):Prop where
 fn:b0 K x x st f fd
 at_:aa x=some (.ref f)
 bd:Binds K fd ps []
structure eD(K:a3)(C:Addr)(m b_:Str)(st:Stmt)(ps:List Str)(f:Addr)(fd:cP):Prop where
 fn:b0 K m b_ st f fd
 gI:Meth K C m f
 bd:Binds K fd ps []
structure sL(K:a3)(C:Addr)(b_:Str)(st:Stmt)(ps:List Str)(f:Addr)(fd:cP):Prop where
 fn:b0 K "__init__" b_ st f fd
 made:oY K C f
 bd:Binds K fd ps []
noncomputable def uM(aa:Str→Option Value)(x:Str)(i:Int):Prop:=∃t,aa x=some (.int i t)
theorem Az{X:bw}{x:Str}{i:Int}{pos:Pos}(bf:jA X x)(h:uM X.aa x i)(hd:(x==("__debug__":Str))=false:=by decide):bE X (.Name x pos) (r_ (.int i)):=by
 obtain⟨t,e⟩:=h
 exact Į bf e ⟨t,rfl⟩ hd
theorem xb{X:bw}{x:Str}{T:String}{pos:Pos}(bf:jA X x)(hm:X.aa x=none)(bG:iV x=some (.type T))(az:x≠"__name__":=by decide)(hd:(x==("__debug__":Str))=false:=by decide):bE X (.Name x pos) (r_ (.ty T)):=
 į (v:=.ty T) bf hm bG rfl az hd
theorem Fv{wi:TI}{cs:List (Option Nat)}{bY:TE}{σ rest:ai.St}{H H1:ae}{Q:bk}{J:e7}{xs:List ai.V}(hw:∀R:e7→ae→Prop,R J H1→wi σ H R)(gx:gO cs σ=none::rest)(iO:mC J H1 xs)(ar:xs.length<sizeLine)(f:ai.V→ai.V)(elt:∀(i:Nat)(x:ai.V)(ak:ae)(R:bk),xs[i]?=some x→aP H1 ak→(∀bU,aP ak bU→R (f x) bU)→bY (some x::rest) ak R)(fin:∀(D:Addr)(H':ae),H1 D=none→H' D=some (.lst (xs.map f))→aP H1 H'→Q (.ref D) H'):kI wi cs (gr 0) qR bY σ H Q:=hw _ (acg gx iO ar f elt fin)
theorem QY{wi:TI}{cs:List (Option Nat)}{tt:TT}{bY:TE}{σ rest:ai.St}{H H1:ae}{Q:bk}{J:e7}{xs:List ai.V}(hw:∀R:e7→ae→Prop,R J H1→wi σ H R)(gx:gO cs σ=none::rest)(iO:mC J H1 xs)(ar:xs.length<sizeLine)(p:ai.V→Bool)(f:ai.V→ai.V)(test:∀(i:Nat)(x:ai.V)(ak:ae)(R:Bool→ae→Prop),xs[i]?=some x→aP H1 ak→(∀bU,aP ak bU→R (p x) bU)→tt (some x::rest) ak R)(elt:∀(i:Nat)(x:ai.V)(ak:ae)(R:bk),xs[i]?=some x→p x=true→aP H1 ak→(∀bU,aP ak bU→R (f x) bU)→bY (some x::rest) ak R)(fin:∀(D:Addr)(H':ae),H1 D=none→H' D=some (.lst ((xs.filter p).map f))→aP H1 H'→Q (.ref D) H'):kI wi cs (gr 0) tt bY σ H Q:=hw _ (He gx iO ar p f test elt fin)
theorem Bl(K:a3)(t:String):yI K (.type t) (.type t)=some true:=by
 unfold yI
 exact aI (by simp)
theorem Co{X:bw}:pD (gC X.prog X.w) X uN:=by
 rintro pins σ H s e s' I ⟨_,_,_,_,_,_,_,z⟩
 exact z.elim
theorem jj{cl big:List (Str×Addr)}(h:∀p∈cl,big.lookup p.1=some p.2)(x:Str)(c:Addr)(e:cl.lookup x=some c):big.lookup x=some c:=by
 induction cl with
 |nil=>cases e
 |cons p r ba=>
  obtain⟨y,d⟩:=p
  rw[List.lookup_cons]at e
  by_cases U:(x==y)=true
  .rw[U]at e
   cases e
   have:=h (y,c) (sT ..)
   rw[show x=y from eq_of_beq U]
   exact this
  .rw[Bool.not_eq_true]at U
   rw[U]at e
   exact ba (λp aQ=>h p (nI _ aQ)) e
end fx
namespace a'
open PySem
noncomputable def Yl:Nat→Int→List Nat
 |0,_=>[]
 |k+1,n=>(97+(n%26).toNat)::Yl k (n/26)
noncomputable def SK(c:Int):Int:=c*1099087573%10000000000037
noncomputable def RY(c:Int):Nat:=(1+SK c%7).toNat
noncomputable def RZ(c:Int):List Nat:=Yl (RY c) (SK c/7)
noncomputable def yA(l:List Nat):Prop:=1≤l.length∧l.length≤8∧∀x∈l,97≤x∧x≤122
noncomputable def aoe:List Nat:=[107,99,120,113,97,109,122,102,116,98,106,101]
noncomputable def D6(c:Int):Nat:=(c%((RY c:Int)+1)).toNat
noncomputable def dv(c:Int)(l:Nat):List Nat:=(RZ c).take (D6 c)++l::(RZ c).drop (D6 c)
structure bz where
 a:Nat
 b:Nat
 t:Int
 m:Int
noncomputable def x'(c:Int):Int:=c*48271%2147483647
noncomputable def SM(n:Nat)(c:Int):Int:=x' c%n
noncomputable def afa(n:Nat)(c:Int):Int:=(SM n c+1+x' c/12%((n:Int)-1))%n
noncomputable def adb(c:Int):Int:=if x' c/432%5=1 then 1+c%10 ^ 9 else 1+x' c/144%3
noncomputable def ade(l:Int)(c:Int):Int:=1+x' c/2160%l
noncomputable def rd(n:Nat)(c:Int):bz:=⟨(SM n c).toNat,(afa n c).toNat,ade 9 c,adb c⟩
structure bz.Ok(r:bz)(n:Nat):Prop where
 a:r.a<n
 b:r.b<n
 ne:r.a≠r.b
 t:1≤r.t∧r.t≤9
 m:1≤r.m∧r.m≤1000000000
end a'
namespace fx
open PySem ai cA a'
section
variable{P:bT}{w:bJ}{K:a3}{aa:Str→Option Value}{base:Heap}
noncomputable abbrev S(l:List Nat):Str:=⟨l.toArray⟩
theorem ż{ns:List Int}{k:Int}(h0:0≤k)(ag:k<(ns.map V.int).length):e0 (ns.map V.int) k=some (V.int (ns.getD k.toNat 0)):=by
 have af:k.toNat < ns.length:=by rw[bc]at ag;omega
 have e:(ns.map V.int)[k.toNat]?=some (V.int (ns.getD k.toNat 0)):=by
  rw[b8,cg af]
  simp[cY,af]
 have:=ho e
 rwa [CA h0]at this
inductive adf(K:a3)(vs:(List ai.V))(H:ae)(Q:bk)(bF:cy):Prop where
 |mk (a:Addr) (ns:List Int) (k:Int) (b4:vs=[.ref a,.int k]) (bL:aR K H a (ns.map V.int)) (cG:0≤k) (c2:Q (.int (ns.getD k.toNat 0)) H)
noncomputable def CP(K:a3):cW:=λvs H Q bF=>adf K vs H Q bF
theorem amG:(lI "abcdefghijklmnopqrstuvwxyz").cps.toList=(c_ 26).map (97+·):=by decide+kernel
theorem ì{i:Int}(h0:0≤i)(ag:i<26):e0 (lI "abcdefghijklmnopqrstuvwxyz").cps.toList i=some (97+i.toNat):=by
 have e:(lI "abcdefghijklmnopqrstuvwxyz").cps.toList[i.toNat]?=some (97+i.toNat):=by
  rw[amG,b8,vh (by omega)]
  rfl
 have:=ho e
 rwa [CA h0]at this
theorem adL(a b:List Nat):S a++S b=S (a++b):=by
 show Str.append _ _=_
 simp[Str.append,S]
theorem B1(a:List Nat):(S a).length=a.length:=by simp[S,Str.length]
noncomputable def dr(hs:List (List Nat)):List ai.V:=hs.map λl=>V.str (S l)
theorem ON(hs:List (List Nat)):dr hs=(hs.map S).map V.str:=by simp[dr]
theorem Qk(l:List Nat):signs (S l)=l.map λc=>V.str (S [c]):=by simp[signs,S]
noncomputable def ow(hs:List (List Nat))(r:a'.bz):List ai.V:=[.str (S (hs.getD r.a [])),.str (S (hs.getD r.b [])),.int r.t,.int r.m]
noncomputable def dn(H:ae):List Addr→List (List ai.V)→Prop:=bZ λr d=>H r=some (.tup d)
theorem dn.same{H H':ae}(aC:aP H H'){rs ds}(h:dn H rs ds):dn H' rs ds:=bZ.jL h λ_ _ e=>aC _ _ e
noncomputable def aL(rs:List Addr):List ai.V:=rs.map V.ref
theorem Paired.snoc{α β:Type}{F:α→β→Prop}{x:α}{y:β}(q:F x y):∀{l:List α}{m:List β},bZ F l m→bZ F (l++[x]) (m++[y])
 |_,_,.nil=>.cons q .nil
 |_,_,.cons r t=>.cons r (Paired.snoc q t)
theorem Gh{hs:List (List Nat)}{k:Int}(h0:0≤k)(ag:k<hs.length):e0 (dr hs) k=some (V.str (S (hs.getD k.toNat []))):=by
 have af:k.toNat < hs.length:=by omega
 have e:(dr hs)[k.toNat]?=some (V.str (S (hs.getD k.toNat []))):=by
  unfold dr
  rw[b8,cg af]
  simp[cY,af]
 have:=ho e
 rwa [CA h0]at this
theorem wK(hs:List (List Nat)):(dr hs).length=hs.length:=bc ..
theorem hH{H H':ae}{p:Addr}{o:d4}(aQ:H p=none)(aC:aP H H'):aP H (upd H' p o):=λb u e=>by
 rw[aG (dg e aQ)]
 exact aC b u e
theorem dn.upd{H:ae}{p:Addr}{o u:d4}{rs ds}(h:dn H rs ds)(e:H p=some u)(cf:∀d,u≠.tup d):dn (upd H p o) rs ds:=bZ.jL h λr d q=>by
 rw[aG]
 .exact q
 .rintro rfl
  rw[e]at q
  exact cf d (gT q)
theorem p_(rs:List Addr)(t:Addr):aL rs++[V.ref t]=aL (rs++[t]):=by simp[aL]
theorem fS(rs:List Addr):(aL rs).length=rs.length:=bc ..
theorem dn.len{H rs ds}(h:dn H rs ds):rs.length=ds.length:=iy h
theorem cH{H:ae}{t:Addr}{o:d4}(cw:H t=none):aP H (upd H t o):=λb u e=>by
 rw[aG (dg e cw)]
 exact e
theorem f6{b:Bool}{A B:Prop}(h:b=true)(q:A):if b=true then A else B:=by rw[aI h];exact q
theorem gh{b:Bool}{A B:Prop}(h:b=false)(q:B):if b=true then A else B:=by subst h;exact q
theorem uq{R:bk}{b:Bool}{H:ae}(e:b=true)(h:R (.bo true) H):R (.bo b) H:=by rw[e];exact h
theorem NV(xs:List ai.V):xs.map (λ_=>V.bo true)=(yv xs.length true).map V.bo:=by
 induction xs with
 |nil=>rfl
 |cons x r ba=>simp[List.replicate_succ,ba]
theorem NW(n:Nat):(yv n true).all id=true:=by
 rw[CF]
 intro x ao
 exact(List.mem_replicate.mp ao).2
structure Ri(K:a3):Prop where
 aV:yI K (.type "int") (.type "bool")=some false
inductive í(vs:(List ai.V))(H:ae)(Q:bk)(bF:cy):Prop where
 |mk (i:Int) (b4:vs=[.int i]) (bL:Q (.bo true) H)
noncomputable def Pa:cW:=λvs H Q bF=>í vs H Q bF
inductive Ε(vs:(List ai.V))(H:ae)(Q:bk)(bF:cy):Prop where
 |mk (i a b:Int) (b4:vs=[.int i,.int a,.int b]) (bL:a≤i) (cG:i≤b) (c2:Q (.bo true) H)
noncomputable def NX:cW:=λvs H Q bF=>Ε vs H Q bF
inductive ñ(vs:(List ai.V))(H:ae)(Q:bk)(bF:cy):Prop where
 |mk (r:Addr) (xs:List ai.V) (n:Int) (b4:vs=[.ref r,.int n]) (bL:H r=some (.tup xs)) (cG:(xs.length:Int)=n) (c2:Q (.bo true) H)
noncomputable def ww:cW:=λvs H Q bF=>ñ vs H Q bF
theorem ER(ys:List Str):(ys.map V.str).all pG=true:=by
 rw[CF]
 intro x ao
 obtain⟨y,_,rfl⟩:=bV.mp ao
 rfl
theorem Fw{ys:List Str}{x:Str}(h:x∈ys):pA (.str x) (ys.map V.str)=true:=by
 unfold pA
 rw[oV]
 exact⟨.str x,bV.mpr ⟨x,h,rfl⟩,by show(x==x)=true;exact beq_self_eq_true x⟩
inductive Ζ(K:a3)(vs:(List ai.V))(H:ae)(Q:bk)(bF:cy):Prop where
 |mk (a:Addr) (ys:List Str) (x y:Str) (b4:vs=[.ref a,.str x,.str y]) (bL:aR K H a (ys.map V.str)) (cG:x∈ys) (c2:y∈ys) (dR:x≠y) (eW:Q (.bo true) H)
noncomputable def Ox(K:a3):cW:=λvs H Q bF=>Ζ K vs H Q bF
theorem akZ:lI "a"=⟨#[97]⟩:=by decide+kernel
theorem ak1:lI "z"=⟨#[122]⟩:=by decide+kernel
inductive Ž(vs:(List ai.V))(H:ae)(Q:bk)(bF:cy):Prop where
 |mk (l:List Nat) (b4:vs=[.str (S l)]) (bL:yA l) (cG:∀H',aP H H'→Q (.bo true) H')
noncomputable def GG:cW:=λvs H Q bF=>Ž vs H Q bF
structure ya(aa:Str→Option Value):Prop where
 Ű:uM aa "MOST_HOUSES" 12
 ű:uM aa "MOST_ROADS" 40
 ų:uM aa "MOST_SIGNS" 8
 Ŵ:uM aa "MOST_TURNS" 9
 Ų:uM aa "MOST_ROOM" 1000000000
theorem Hk{a b:List Nat}(h:S a=S b):a=b:=by
 have:=eK (λx=>x.cps.toList) h
 simpa[S]using this
theorem ž{hs:List (List Nat)}(h:hs.Nodup):∀i j,i<j→j<(hs.map S).length→(hs.map S).getD i jW≠(hs.map S).getD j jW:=by
 intro i j n6 aN e
 rw[bc]at aN
 have aj:i<hs.length:=by omega
 rw[cY,cY,b8,b8,cg aj,cg aN]at e
 have ay:=Hk (show S hs[i]=S hs[j]from e)
 exact sU.mp h i j aj aN n6 ay
structure Good(hs:List (List Nat)):Prop where
 nm:∀x∈hs,yA x
 aE:hs.Nodup
 cM:hs.length≤12
inductive aaa(vs:(List ai.V))(H:ae)(Q:bk)(bF:cy):Prop where
 |mk (a:Addr) (hs:List (List Nat)) (b4:vs=[.ref a]) (bL:H a=some (.lst (dr hs))) (cG:Good hs) (c2:∀H',aP H H'→Q (.bo true) H')
noncomputable def GH:cW:=λvs H Q bF=>aaa vs H Q bF
theorem bZ.get{α β:Type}{F:α→β→Prop}:∀{l:List α}{m:List β}{i:Nat}{x:α},bZ F l m→l[i]?=some x→∃y,m[i]?=some y∧F x y
 |_,_,_,_,.nil,e=>by simp at e
 |_,_,0,_,.cons r _,e=>by simp at e;subst e;exact⟨_,rfl,r⟩
 |_,_,i+1,x,.cons _ t,e=>by
  obtain⟨y,ag,af⟩:=bZ.get (i:=i) (x:=x) t (by simpa using e)
  exact⟨y,by simpa using ag,af⟩
structure hp(H:ae)(hs:List (List Nat))(rs:List Addr)(ds:List a'.bz):Prop where
 h7:dn H rs (ds.map (ow hs))
 ok:∀d∈ds,d.Ok hs.length
theorem hp.same{H H':ae}{hs rs ds}(r:hp H hs rs ds)(aC:aP H H'):hp H' hs rs ds:=⟨r.h7.same aC,r.ok⟩
theorem hp.get{H:ae}{hs rs ds}{i:Nat}{r:Addr}(q:hp H hs rs ds)(e:rs[i]?=some r):∃d,ds[i]?=some d∧d.Ok hs.length∧H r=some (.tup (ow hs d)):=by
 obtain⟨y,ag,af⟩:=bZ.get q.h7 e
 rw[b8]at ag
 obtain⟨d,hd,rfl⟩:=eh.mp ag
 exact⟨d,hd,q.ok d (eI hd),af⟩
theorem hp.len{H:ae}{hs rs ds}(q:hp H hs rs ds):rs.length=ds.length:=by
 have:=q.h7.len
 rwa [bc]at this
theorem oa{hs:List (List Nat)}{a:Nat}(h:a<hs.length):S (hs.getD a [])∈hs.map S:=by
 refine bV.mpr ⟨hs.getD a [],?_,rfl⟩
 rw[cY,cg h]
 exact eg h
theorem adM{hs:List (List Nat)}{a b:Nat}(aE:hs.Nodup)(aH:a<hs.length)(U:b<hs.length)(ne:a≠b):S (hs.getD a [])≠S (hs.getD b []):=by
 intro e
 have ay:=Hk e
 rw[cY,cY,cg aH,cg U]at ay
 rcases Nat.lt_or_gt_of_ne ne with h|h
 .exact sU.mp aE a b aH U h ay
 .exact sU.mp aE b a U aH h ay.symm
inductive aab(K:a3)(vs:(List ai.V))(H:ae)(Q:bk)(bF:cy):Prop where
 |mk (a r:Addr) (hs:List (List Nat)) (d:a'.bz) (b4:vs=[.ref a,.ref r]) (bL:aR K H a (dr hs)) (cG:hs.Nodup) (c2:d.Ok hs.length) (dR:H r=some (.tup (ow hs d))) (eW:Q (.bo true) H)
noncomputable def GK(K:a3):cW:=λvs H Q bF=>aab K vs H Q bF
inductive aac(K:a3)(vs:(List ai.V))(H:ae)(Q:bk)(bF:cy):Prop where
 |mk (a b:Addr) (hs:List (List Nat)) (rs:List Addr) (ds:List a'.bz) (b4:vs=[.ref a,.ref b]) (bL:aR K H a (dr hs)) (cG:hs.Nodup) (c2:H b=some (.lst (aL rs))) (dR:hp H hs rs ds) (eW:rs.length≤40) (h8:∀H',aP H H'→Q (.bo true) H')
noncomputable def GL(K:a3):cW:=λvs H Q bF=>aac K vs H Q bF
noncomputable def SameBut(x:Addr)(H H':ae):Prop:=∀b o,b≠x→H b=some o→H' b=some o
noncomputable def SX(a b:Addr):List (Str×ai.V):=[("kept_houses",.ref a),("kept_roads",.ref b)]
structure sq(K:a3)(C:Addr):Prop where
 cl:g5 K C
 MP:rO K C "kept_houses"
 fL:rO K C "kept_roads"
inductive aad(K:a3)(C:Addr)(vs:(List ai.V))(H:ae)(Q:bk)(bF:cy):Prop where
 |mk (x au a b:Addr) (hs:List (List Nat)) (rs:List Addr) (ds:List a'.bz) (b4:vs=[.ref x,.ref a,.ref b]) (bL:H x=some (.ins C au [])) (cG:H a=some (.lst (dr hs))) (c2:Good hs) (dR:H b=some (.lst (aL rs))) (eW:hp H hs rs ds) (h8:rs.length≤40) (jz:∀(H':ae)(bx aZ:Addr),SameBut x H H'→H' x=some (.ins C au (SX bx aZ))→H' bx=some (.lst (dr hs))→H' aZ=some (.lst (aL rs))→H bx=none→H aZ=none→Q .bR H')
noncomputable def GN(K:a3)(C:Addr):cW:=λvs H Q bF=>aad K C vs H Q bF
structure ku(C:Addr)(H:ae)(x bx aZ:Addr)(xs ys:List ai.V):Prop where
 ins:∃au,H x=some (.ins C au (SX bx aZ))
 Ld:H bx=some (.lst xs)
 r7:H aZ=some (.lst ys)
theorem ku.same{C:Addr}{H H':ae}{x bx aZ:Addr}{xs ys:List ai.V}(n:ku C H x bx aZ xs ys)(aC:aP H H'):ku C H' x bx aZ xs ys:=
 let⟨au,h⟩:=n.ins
 ⟨⟨au,aC _ _ h⟩,aC _ _ n.Ld,aC _ _ n.r7⟩
inductive ZE(C:Addr)(vs:(List ai.V))(H:ae)(Q:bk)(bF:cy):Prop where
 |mk (x bx aZ:Addr) (xs ys:List ai.V) (b4:vs=[.ref x]) (bL:ku C H x bx aZ xs ys) (cG:∀l,H l=none→Q (.ref l) (upd H l (.lst xs)))
noncomputable def ES(C:Addr):cW:=λvs H Q bF=>ZE C vs H Q bF
inductive Η(C:Addr)(vs:(List ai.V))(H:ae)(Q:bk)(bF:cy):Prop where
 |mk (x bx aZ:Addr) (xs ys:List ai.V) (b4:vs=[.ref x]) (bL:ku C H x bx aZ xs ys) (cG:∀l,H l=none→Q (.ref l) (upd H l (.lst ys)))
noncomputable def Oi(C:Addr):cW:=λvs H Q bF=>Η C vs H Q bF
inductive ó(C R:Addr)(vs:(List ai.V))(H:ae)(Q:bk)(E:cy):Prop where
 |mk (x bx aZ:Addr) (xs ys:List ai.V) (k:Int) (b4:vs=[.ref x,.int k]) (bL:ku C H x bx aZ xs ys) (cG:(0≤k∧k<ys.length→∃v,e0 ys k=some v∧Q v H)) (c2:(¬(0≤k∧k<ys.length)→E (.ref R) none H))
noncomputable def Pb(C R:Addr):cW:=λvs H Q E=>ó C R vs H Q E
noncomputable def cq(hs:List (List Nat)):List PyData:=(hs.map S).map PyData.str
theorem Oj{l:List Nat}(h:yA l):abk (.str (S l))=true:=by
 simp only[abk,PyData.strOk,S]
 rw[Array.all_eq_true_iff_forall_mem]
 intro x ao
 have:=h.2.2 x (by simpa using ao)
 exact dp (by omega)
theorem aaf{ds:List PyData}(h:∀d∈ds,d.canLay0=true):yE ds=true:=by
 induction ds with
 |nil=>rfl
 |cons d r ba=>
  simp only[yE,kK]
  exact⟨h d (sT ..),ba λe he=>h e (nI _ he)⟩
theorem XW{ds:List PyData}{n:Nat}(h:∀d∈ds,d.depth≤n):HV ds≤n:=by
 induction ds with
 |nil=>exact ea _
 |cons d r ba=>
  simp only[HV]
  exact Nat.max_le.mpr ⟨h d (sT ..),ba λe he=>h e (nI _ he)⟩
theorem EM{d:PyData}{n:Nat}(ag:d.canLay0=true)(af:d.depth≤n)(aU:n≤64):q8 d=true:=by
 unfold q8
 rw[ag,dp (gm af aU)]
 rfl
theorem aag{rs:List Addr}{i:Nat}{r:Addr}(e:rs[i]?=some r):e0 (aL rs) ((0:Int)+(i:Int))=some (V.ref r):=by
 rw[sM]
 refine ho ?_
 unfold aL
 rw[b8,e]
 rfl
theorem XX{a7 d0:ae}{x au:Addr}{o u:d4}(ao:a7 x=none)(hd:a7 au=none)(bX:SameBut x (upd (upd a7 au o) x u) d0):aP a7 d0:=λb v e=>by
 have hD:=dg e ao
 have ew:=dg e hd
 refine bX b v hD ?_
 rw[aG hD,aG ew]
 exact e
inductive abV(K:a3)(vs:(List ai.V))(H:ae)(Q:bk)(bF:cy):Prop where
 |mk (a:Addr) (ns:List Int) (b4:vs=[.ref a]) (bL:aR K H a (ns.map V.int)) (cG:ns.length≤63) (c2:∀H',Q (.bo true) H')
noncomputable def Cp(K:a3):cW:=λvs H Q bF=>abV K vs H Q bF
noncomputable def Q0(cd:sF)(bS:Array (Option Value))(C R:Addr):Bool:=match cd.mro,bS.toList with
  |.ref xB::bm,[_,_,_,_,some (.builtin _),_]=>xB==C&&!cd.hasDel&&bm.contains (.type "BaseException")&&(da C::bm).contains (.ref R)
  |_,_=>false
theorem θ{K:a3}{C R:Addr}{dd:Option Addr}{cd:sF}{bS:Array (Option Value)}(l:K.lookup C=some ⟨.type "type",dd,.cls cd,bS⟩)(h:Q0 cd bS C R=true):qy K C R=true:=by
 unfold qy
 rw[l]
 exact h
theorem abW(K:a3):yI K (.type "int") (.type "bool")=some false:=by
 show(if(s_ "int"==s_ "bool")=true then some true else if PySem.W.kitMeta "bool"=true then(fastBuiltinMro "int").map (·.contains (.type "bool"))else none)=some false
 decide+kernel
noncomputable def Ae(ns:List Int):PyData:=.list (ns.map sY)
theorem ô(ns:List Int):(Ae ns).depth≤1:=by
 unfold Ae
 simp only[PyData.depth]
 exact aaw (XW λe he=>by
  obtain⟨x,_,rfl⟩:=bV.mp he
  exact b1 _)
theorem Y0{K:a3}{H:ae}:∀ns:List Int,q0 K H (ns.map V.int) (ns.map sY)
 |[]=>.nil
 |x::r=>.cons (.int x) (Y0 r)
theorem aah{K:a3}{H:ae}{a:Addr}{ns:List Int}(h:aR K H a (ns.map V.int)):kM K H (.ref a) (Ae ns):=.lst h (Y0 ns)
theorem ne_int{i j:Int}(h:i≠j):decide (V.int i=V.int j)=false:=eF λz=>h (V.int.inj z)
theorem ZF(n:Nat)(q:Nat→Bool):(((c_ n).map λi:Nat=>V.int ((0:Int)+(i:Int))).filter λv=>match v with|.int k=>q k.toNat|_=>false).map (λv=>v)=(((c_ n).filter q).map λi:Nat=>(i:Int)).map V.int:=by
 rw[HG,vg,gk]
 have e:(λi:Nat=>V.int ((0:Int)+(i:Int)))=(V.int∘λi:Nat=>(i:Int)):=by
  funext i
  show V.int (0+(i:Int))=V.int (i:Int)
  rw[sM]
 have ay:((λv:ai.V=>match v with|.int k=>q k.toNat|_=>false)∘λi:Nat=>V.int ((0:Int)+(i:Int)))=q:=by
  funext i
  show q ((0:Int)+(i:Int)).toNat=q i
  congr 1
  omega
 rw[ay,e]
end
open PySem ai cA a'
section
variable{P:bT}{w:bJ}{K:a3}{aa:Str→Option Value}{base:Heap}
noncomputable def top(i:Nat):Stmt:=ane.main.body.getD i (.Pass ⟨0,0,0,0⟩)
end
open PySem ai cA a'
mutual
inductive gc(H:ae):ai.V→PyData→Prop
 |bR:gc H .bR .none
 |bo (b:Bool):gc H (.bo b) (.bool b)
 |int (i:Int):gc H (.int i) (.int i)
 |str (x:Str) (z:x.length≤100) (ok:PyData.strOk x=true):gc H (.str x) (.str x)
 |lst {a:Addr} {xs:List ai.V} {ds:List PyData}:H a=some (.lst xs)→xs.length≤100→hG H xs ds→gc H (.ref a) (.list ds)
 |tup {a:Addr} {xs:List ai.V} {ds:List PyData}:H a=some (.tup xs)→xs.length≤100→hG H xs ds→gc H (.ref a) (.tuple ds)
inductive hG(H:ae):List ai.V→List PyData→Prop
 |nil:hG H [] []
 |cons {v:ai.V} {d:PyData} {vs:List ai.V} {ds:List PyData}:gc H v d→hG H vs ds→hG H (v::vs) (d::ds)
end
mutual
theorem gc.same{H H':ae}(aC:aP H H'):∀{v:ai.V}{d:PyData},gc H v d→gc H' v d
 |_,_,.bR=>.bR
 |_,_,.bo b=>.bo b
 |_,_,.int i=>.int i
 |_,_,.str x z ok=>.str x z ok
 |_,_,.lst h z t=>.lst (aC _ _ h) z (hG.same aC t)
 |_,_,.tup h z t=>.tup (aC _ _ h) z (hG.same aC t)
theorem hG.same{H H':ae}(aC:aP H H'):∀{vs:List ai.V}{ds:List PyData},hG H vs ds→hG H' vs ds
 |_,_,.nil=>.nil
 |_,_,.cons a b=>.cons (gc.same aC a) (hG.same aC b)
end
mutual
theorem gc.kj{K:a3}{H:ae}:∀{v:ai.V}{d:PyData},gc H v d→kM K H v d
 |_,_,.bR=>.bR
 |_,_,.bo b=>.bo b
 |_,_,.int i=>.int i
 |_,_,.str x z ok=>.str x
 |_,_,.lst h z t=>.lst (aR.of h) (hG.kj t)
 |_,_,.tup h z t=>.tup (b2.of h) (hG.kj t)
theorem hG.kj{K:a3}{H:ae}:∀{vs:List ai.V}{ds:List PyData},hG H vs ds→q0 K H vs ds
 |_,_,.nil=>.nil
 |_,_,.cons a b=>.cons (gc.kj a) (hG.kj b)
end
mutual
theorem gc.mJ{H:ae}:∀{v:ai.V}{d:PyData},gc H v d→d.canLay0=true
 |_,_,.bR=>rfl
 |_,_,.bo b=>rfl
 |_,_,.int i=>rfl
 |_,_,.str x z ok=>ok
 |_,_,.lst h z t=>hG.mJ t
 |_,_,.tup h z t=>hG.mJ t
theorem hG.mJ{H:ae}:∀{vs:List ai.V}{ds:List PyData},hG H vs ds→yE ds=true
 |_,_,.nil=>rfl
 |_,_,.cons a b=>by
  simp only[yE,kK]
  exact⟨gc.mJ a,hG.mJ b⟩
end
noncomputable def inD(d:PyData)(ds:List PyData):Bool:=ds.any λz=>je z d
noncomputable def kk(hs:List PyData)(a b:PyData):Bool:=inD a hs&&inD b hs&&!je a b
end fx
namespace cA
open PySem PySem.Spec PyProof.Rows ai
end cA
namespace fx
open PySem PySem.Spec PyProof.Rows ai cA a'
structure HU where
 p:ae→ai.V→Prop
 up:∀{H H':ae}{v:ai.V},aP H H'→p H v→p H' v
noncomputable def lx(K:a3)(xs:List ai.V):HU:=⟨λH v=>∃a,v=.ref a∧aR K H a xs,λaC⟨a,e,h⟩=>⟨a,e,aC.seq h⟩⟩
section
variable{X:bw}{e a b:Expr}{es:List Expr}{pos f9:Pos}{uH:List (Option HU)}{A B R:HU}
variable{i j:Int}
noncomputable def cutD(xs:List PyData)(lo aj:Option Int):List PyData:=(xs.drop (hR.iu xs.length 0 lo)).take (hR.iu xs.length xs.length aj-hR.iu xs.length 0 lo)
variable{st:List Stmt}
end
open PySem ai cA a'
theorem õ{α:Type}{xs:List α}{i:Int}(d:α)(h0:0≤i)(ag:i<xs.length):e0 xs i=some (xs.getD i.toNat d):=by
 have af:i.toNat < xs.length:=by omega
 have e:xs[i.toNat]?=some (xs.getD i.toNat d):=by rw[cY,cg af];rfl
 have:=ho e
 rwa [CA h0]at this
noncomputable abbrev L(x:String):Str:=lI x
noncomputable def Z_(a b:Str)(t m f:Int):List PyData:=
 ([.list [.str a,.str b,.int t,.int m],.tuple (cutD [.str a,.str b,.int t,.int m] none (some 3)),.tuple ([.str a,.str b,.int t,.int m]++[.int 1]),.none,.tuple [.str a,.str (L "noshow"),.int t,.int m],.tuple [.str a,.str a,.int 1,.int 1]]
  ++[.tuple [.str (L ""),.str b,.int 1,.int 1],.tuple [.str a,.str b,.int 0,.int m],.tuple [.str a,.str b,.int (10+f),.int m]]
  ++[.tuple [.str a,.str b,.bool true,.int 1],.tuple [.str a,.str b,.str (L "1"),.int 1],.tuple [.str a,.str b,.int t,.int 0],.str (L "road")]
  ++[.tuple [.str a,.str b,.int 1,.int (10 ^ (9:Int).toNat+1+f)],.tuple [.str a,.str b,.int 1,.int (-1-f)]]
  ++[.tuple [.str a,.str b,.int 1,.bool true],.tuple [.str a,.str b,.int 1,.none],.tuple [.list [.str a],.str b,.int 1,.int 1]]
  ++[.tuple [.none,.str b,.int 1,.int 1],.tuple []])
noncomputable def y2(a b:Str)(t m c:Int):PyData:=(Z_ a b t m (c%10 ^ (30:Int).toNat)).getD (c%20).toNat .none
theorem QS{hs:List (List Nat)}{y:Str}(h:y∉hs.map S):inD (.str y) (cq hs)=false:=by
 unfold inD
 rw[PW]
 intro z
 obtain⟨v,bG,e⟩:=oV.mp z
 obtain⟨u,cf,rfl⟩:=bV.mp bG
 have b5:(u==y)=true:=e
 exact h (eq_of_beq b5▸cf)
theorem QT{H:ae}:∀{hs:List (List Nat)},(∀x∈hs,yA x)→hG H (dr hs) (cq hs)
 |[],_=>.nil
 |l::hs,h=>.cons (.str (S l) (by rw[B1];have:=(h l (sT ..)).2.1;omega) (Oj (h l (sT ..)))) (QT λx ao=>h x (nI _ ao))
theorem adN{H:ae}{a:Addr}{hs:List (List Nat)}(G:Good hs)(h:H a=some (.lst (dr hs))):gc H (.ref a) (.list (cq hs)):=.lst h (by rw[wK];have:=G.cM;omega) (QT G.nm)
end fx
namespace a'
open PySem
noncomputable def hsz(c:Int):Nat:=(1+c%8).toNat
noncomputable def fm(c:Int):Nat:=(c/8%(1+c%8)).toNat
noncomputable def ik(c:Int)(k j:Nat):Nat:=97+((c/64+5*(j:Int)*(j:Int)+2*(k:Int)*(if j=fm c then 1 else 0))%26).toNat
noncomputable def qp(c:Int)(k:Nat):List Nat:=(c_ (hsz c)).map (ik c k)
noncomputable def qu(c:Int)(m:Nat):List (List Nat):=(c_ m).map (qp c)
theorem QU(c:Int):1≤hsz c∧hsz c≤8:=by unfold hsz;omega
theorem aai(c:Int):(1+c%8)=(hsz c:Int):=by unfold hsz;omega
theorem abX(c:Int):fm c<hsz c:=by
 have ag:0<1+c%8:=by omega
 have af:=j_ (c/8) ag
 have aU:=jR (c/8) (by omega:1+c%8≠0)
 unfold fm hsz
 omega
theorem aaj(c:Int):c/8%(1+c%8)=(fm c:Int):=by
 have aU:=jR (c/8) (by omega:1+c%8≠0)
 unfold fm
 omega
theorem abY(c:Int)(k j:Nat):97≤ik c k j∧ik c k j≤122:=by unfold ik;omega
theorem abZ(c:Int)(k:Nat):yA (qp c k):=by
 have h:=QU c
 refine⟨by simp[qp];omega,by simp[qp];omega,λx ao=>?_⟩
 obtain⟨j,_,rfl⟩:=bV.mp ao
 exact abY c k j
theorem Ŭ{c:Int}{k l:Nat}(aK:k<13)(ar:l<13)(e:qp c k=qp c l):k=l:=by
 have h:=abX c
 have ay:(qp c k)[fm c]?=(qp c l)[fm c]?:=by rw[e]
 unfold qp at ay
 rw[b8,b8,vh h]at ay
 have cv:ik c k (fm c)=ik c l (fm c):=by simpa using ay
 unfold ik at cv
 rw[aI rfl]at cv
 generalize c/64+5*(fm c:Int)*(fm c:Int)=z at cv
 omega
theorem al6{α:Type}{f:Nat→α}{m:Nat}(h:∀i j,i<m→j<m→f i=f j→i=j):((c_ m).map f).Nodup:=by
 refine lF.mpr ?_
 refine Rq ?_ (RK (n:=m))
 intro a b aH U jq e
 exact jq (h a b (iR.mp aH) (iR.mp U) e)
theorem ZG{c:Int}{m:Nat}(h:m≤12):(qu c m).Nodup:=al6 λi j aj aN e=>Ŭ (by omega) (by omega) e
theorem Mh(c:Int)(m:Nat):(qu c m).length=m:=by simp[qu]
structure Lt where
 a:Nat
 b:Nat
 t:Int
noncomputable def qT(c:Int):Int:=c*982451653%10000000000037
noncomputable def lg(n:Nat)(c:Int):Int:=qT c%n
noncomputable def lend(n:Nat)(c:Int):Int:=(lg n c+1+qT c/n%((n:Int)-1))%n
noncomputable def lt(n:Nat)(c base:Int):Lt:=⟨(lg n c).toNat,(lend n c).toNat,base+qT c/1000%31⟩
structure Lt.Ok(d:Lt)(n:Nat)(base:Int):Prop where
 a:d.a<n
 b:d.b<n
 ne:d.a≠d.b
 lo:base≤d.t
 aj:d.t≤base+30
theorem adO{n:Nat}(h:1<n)(c base:Int):(lt n c base).Ok n base:=by
 have d6:0≤lg n c:=jR _ (by omega)
 have dC:lg n c<n:=j_ _ (by omega)
 have av:0≤lend n c:=jR _ (by omega)
 have ay:lend n c<n:=j_ _ (by omega)
 have nT:0≤qT c/n%((n:Int)-1):=jR _ (by omega)
 have De:qT c/n%((n:Int)-1)<(n:Int)-1:=j_ _ (by omega)
 have ne:lg n c≠lend n c:=by
  intro z
  have cv:lend n c=(lg n c+1+qT c/n%((n:Int)-1))%n:=rfl
  generalize qT c/n%((n:Int)-1)=x at nT De cv
  by_cases bN:lg n c+1+x<n
  .rw[Hj (by omega) bN]at cv
   omega
  .have cZ:(lg n c+1+x)%(n:Int)=(lg n c+1+x-n)%(n:Int):=by rw[ð]
   rw[cZ,Hj (by omega) (by omega)]at cv
   omega
 have t1:0≤qT c/1000%31:=jR _ (by decide)
 have dx:qT c/1000%31<31:=j_ _ (by decide)
 exact⟨by show(lg n c).toNat < n;omega,by show(lend n c).toNat < n;omega,by show(lg n c).toNat≠(lend n c).toNat;omega,by show base≤base+_;omega,by show base+_≤base+30;omega⟩
end a'
namespace cA
open PySem PySem.Spec PyProof.Rows ai
noncomputable def eN{α:Type}:Sem α→Prop
 |.pure _=>True
 |.raise _=>True
 |.unsupported _=>True
 |.finish _=>True
 |.register _ _=>True
 |.rule _ k=>eN (k ())
 |.at _ k=>eN (k ())
 |.load _ _ k=>∀o,eN (k o)
 |.update _ _ f k=>(∀o,(f o).dict=o.dict)∧eN (k ())
 |.alloc _ k=>∀a,eN (k a)
 |.loadIfAlive _ k=>∀o,eN (k o)
 |.point _ k=>eN (k ())
 |.fresh k=>∀t,eN (k t)
 |.ask k=>∀t,eN (k t)
 |.handled _ k=>∀t,eN (k t)
 |.stack k=>∀t,eN (k t)
 |.thread k=>∀n,eN (k n)
 |_=>False
noncomputable def hb(h h':Heap):Prop:=h.objs.size≤h'.objs.size∧∀e,e<h.objs.size→(h'.objs[e]?).map (·.dict)=(h.objs[e]?).map (·.dict)
theorem hb.refl(h:Heap):hb h h:=⟨b1 _,λ_ _=>rfl⟩
theorem hb.trans{h ag af:Heap}(a:hb h ag)(b:hb ag af):hb h af:=⟨gm a.1 b.1,λe he=>(b.2 e (jC he a.1)).trans (a.2 e he)⟩
theorem hb.push(h:Heap)(o:Obj):hb h (h.push o):=by
 obtain⟨objs,l⟩:=h
 refine⟨?_,λe he=>?_⟩
 .show objs.size≤(objs.push o).size
  simp
 .show((objs.push o)[e]?).map _=_
  rw[Array.getElem?_push_lt he]
  simp[he]
theorem hb.update(h:Heap)(a:Addr){f:Obj→Obj}(hf:∀o,(f o).dict=o.dict):hb h (h.update a f):=by
 obtain⟨objs,l⟩:=h
 refine⟨?_,λe he=>?_⟩
 .show objs.size≤(objs.modify a f).size
  simp
 .show((objs.modify a f)[e]?).map _=_
  rw[Array.getElem?_modify]
  split
  .cases objs[e]? with
   |none=>rfl
   |some o=>show some (f o).dict=_;rw[hf];rfl
  .rfl
theorem hb.dict{h h':Heap}(s:hb h h'){e:Addr}{o cO:Obj}(a:h.get? e=some o)(b:h'.get? e=some cO):cO.dict=o.dict:=by
 have ag:=(Ø.mp a).1
 have af:=(Ø.mp b).1
 have:=s.2 e (du a)
 rw[ag,af]at this
 exact gT this
theorem ŭ{α:Type}{M:nK}{uH:PySem.Ctx}{Q:α→Pos→ax→Prop}{E:Value→Pos→ax→Prop}(t:Sem α)(aF:eN t)(p:Pos)(s:ax)(h:Sem.wp M uH t Q E p s):
  Sem.wp M uH t (λa ip s'=>Q a ip s'∧hb s.heap s'.heap) (λa ip s'=>E a ip s'∧hb s.heap s'.heap) p s:=by
 have key:∀(t:Sem α),eN t→∀(p:Pos)(s:ax)(h0:Heap),hb h0 s.heap→Sem.wp M uH t Q E p s→Sem.wp M uH t (λa ip s'=>Q a ip s'∧hb h0 s'.heap) (λa ip s'=>E a ip s'∧hb h0 s'.heap) p s:=by
  intro t
  induction t with
  |pure a=>exactλ_ p s h0 cB h=>⟨h,cB⟩
  |raise e=>exactλ_ p s h0 cB h=>⟨h,cB⟩
  |unsupported=>exactλ_ p s h0 cB h=>h
  |finish=>exactλ_ p s h0 cB h=>h
  |register=>exactλ_ p s h0 cB h=>h
  |rule _ k ba=>exactλc p s h0 cB h=>ba () c p s h0 cB h
  |«at» _ k ba=>exactλc p s h0 cB h=>ba () c _ s h0 cB h
  |load a _ k ba=>exactλc p s h0 cB⟨o,e,h⟩=>⟨o,e,ba o (c o) p s h0 cB h⟩
  |update a _ f k ba=>exactλc p s h0 cB⟨e,h⟩=>⟨e,ba () c.2 p _ h0 (cB.trans (hb.update _ _ c.1)) h⟩
  |alloc o k ba=>exactλc p s h0 cB h=>ba _ (c _) p _ h0 (cB.trans (hb.push _ _)) h
  |loadIfAlive a k ba=>exactλc p s h0 cB h=>ba _ (c _) p s h0 cB h
  |point _ k ba=>exactλc p s h0 cB h=>ba () c p s h0 cB h
  |fresh k ba=>exactλc p s h0 cB h=>ba _ (c _) p _ h0 cB h
  |ask k ba=>exactλc p s h0 cB h=>ba _ (c _) p s h0 cB h
  |handled _ k ba=>exactλc p s h0 cB h=>ba _ (c _) p s h0 cB h
  |stack k ba=>exactλc p s h0 cB h=>ba _ (c _) p s h0 cB h
  |thread k ba=>exactλc p s h0 cB h=>ba _ (c _) p s h0 cB h
  |choose=>exactλc=>c.elim
  |os=>exactλc=>c.elim
  |call=>exactλc=>c.elim
  |newGen=>exactλc=>c.elim
  |genState=>exactλc=>c.elim
  |resume=>exactλc=>c.elim
  |yield=>exactλc=>c.elim
  |fork=>exactλc=>c.elim
  |await=>exactλc=>c.elim
 exact key t aF p s s.heap (hb.refl _) h
theorem E_{α:Type}{M:nK}{A:c5}{Q:α→ax→Prop}{E:Value→ax→Prop}{t:Sem α}{s:ax}(aF:eN t)(h:aX M A t Q E s):aX M A t (λa s'=>Q a s'∧hb s.heap s'.heap) (λa s'=>E a s'∧hb s.heap s'.heap) s:=
 λuH p ajk=>ŭ t aF p s (h uH p ajk)
theorem g_{α β:Type}{t:Sem α}{f:α→Sem β}(h:eN t)(hf:∀a,eN (f a)):eN (t >>=f):=by
 show eN (t.bind f)
 induction t with
 |pure a=>exact hf a
 |raise e=>exact h
 |unsupported=>exact h
 |finish=>exact h
 |register=>exact h
 |rule _ k ba=>exact ba () h
 |«at» _ k ba=>exact ba () h
 |load a _ k ba=>exactλo=>ba o (h o)
 |update a _ f k ba=>exact⟨h.1,ba () h.2⟩
 |alloc o k ba=>exactλa=>ba a (h a)
 |loadIfAlive a k ba=>exactλa=>ba a (h a)
 |point _ k ba=>exact ba () h
 |fresh k ba=>exactλa=>ba a (h a)
 |ask k ba=>exactλa=>ba a (h a)
 |handled _ k ba=>exactλa=>ba a (h a)
 |stack k ba=>exactλa=>ba a (h a)
 |thread k ba=>exactλa=>ba a (h a)
 |choose=>exact h.elim
 |os=>exact h.elim
 |call=>exact h.elim
 |newGen=>exact h.elim
 |genState=>exact h.elim
 |resume=>exact h.elim
 |yield=>exact h.elim
 |fork=>exact h.elim
 |await=>exact h.elim
theorem jh{α:Type}{a:α}:eN (pure a:Sem α):=trivial
theorem pj{α:Type}{x:String}:eN (unsupported x:Sem α):=trivial
theorem qh{α:Type}{c:Prop}[Decidable c]{a b:Sem α}(aH:eN a)(U:eN b):eN (if c then a else b):=by split<;>assumption
theorem Nt{a:Addr}:eN (load a):=λ_=>trivial
theorem alO{v:Value}:eN (fieldsOf v):=by
 unfold fieldsOf
 cases v<;>first|exact pj|skip
 refine g_ Nt λo=>?_
 split<;>first|exact jh|exact pj
theorem Ew{v:Value}{i:Nat}:eN (field v i):=by
 unfold field
 refine g_ alO λo=>?_
 split<;>first|exact jh|exact pj
theorem L2{v:Value}{i:Nat}{x:Value}:eN (xi v i x):=by
 unfold xi
 cases v<;>first|exact pj|skip
 refine g_ Nt λo=>?_
 split
 .refine qh ⟨λo=>?_,trivial⟩ pj
  obtain⟨c,d,kj,bS⟩:=o
  cases kj<;>rfl
 .exact pj
theorem L4{v:Value}{f:Option Addr}:eN (N2 v f):=by
 unfold N2
 refine g_ Ew λo=>qh L2 jh
theorem Na:eN stack:=λ_=>trivial
theorem alm{ty:String}{vs:List Value}:eN (newFields ty vs):=by
 have as:eN (newObjAsIs (.type ty) (.fields vs.toArray)):=by
  unfold newObjAsIs
  exact g_ (λ_=>trivial) λa=>jh
 unfold newFields newObj
 exact qh (c:=vs.toArray.size>sizeLine+2) (g_ pj λ_=>as) as
theorem ZH{f:Addr}{b:Bool}:eN (TB f b):=by
 unfold TB
 refine g_ Na λo=>?_
 split<;>exact jh
theorem amI{env:Env}{outer:List Env}:eN (af9 env outer):=by
 unfold af9
 exact qh jh (qh jh (g_ Ew λ_=>jh))
theorem ι{env:Env}{b:Bool}{l:List Env}:eN (keptBack env b l):=by
 unfold keptBack
 split
 .refine qh jh (g_ ?_ λ_=>jh)
  exact g_ Na λ_=>jh
 .exact jh
theorem Xt:∀l:List Env,eN (readyFrames l)
 |[]=>trivial
 |env::outer=>by
  unfold readyFrames
  split
  .exact g_ Nt λo=>qh jh (g_ amI λ_=>g_ ι λ_=>g_ ⟨λ_=>rfl,trivial⟩ λ_=>Xt outer)
  .exact pj
theorem al7{env:Env}:eN (Sv env):=by
 unfold Sv frameEnvs
 refine g_ (g_ Na λ_=>jh) λl=>g_ ?_ λo=>?_
 .generalize List.dropWhile _ l=lb
  cases lb with
  |nil=>exact jh
  |cons a b=>exact g_ (Xt _) λ_=>jh
 .split<;>first|exact jh|exact pj
theorem XF{e:Value}{env:Env}:eN (MS e env):=by
 unfold MS
 have last:∀(f:Addr)(head:Value),eN (do
   let a ←Sv env
   let b ←TB f (head !=d5)
   let c ←am5 head a d5 (qJ f) d5 b
   xi e 1 c):=λf head=>g_ al7 λ_=>g_ ZH λ_=>g_ alm λ_=>L2
 split
 .exact g_ Ew λhead=>qh (g_ Ew λ_=>qh jh (g_ L2 λ_=>last _ _)) (last _ _)
 .exact pj
theorem al8{e:Value}{env:Env}:eN (leaving env e):=g_ XF λ_=>L4
noncomputable def Ga(mI pd:sF)(qL:Array (Option Value))(C:Addr)(fo:String):Bool:=
 (mI.mro==da C::pd.mro)&&!mI.hasDel&&(match qL.toList with|[_,_,_,_,some (.builtin n),_]=>n==fo|_=>false)
theorem ć{K:a3}{aa:Str→Option Value}{h:Heap}{y:Str}{C R:Addr}{bm:List Value}{fo:String}{jF y2:Option Addr}{mI pd:sF}{qL FR:Array (Option Value)}(X:K.In h)(O:Exc K aa y R bm fo)(Mb:K.lookup C=some ⟨.type "type",jF,.cls mI,qL⟩)(Mg:K.lookup R=some ⟨.type "type",y2,.cls pd,FR⟩)(jE:Ga mI pd qL C fo=true):
  ∃nm q N bs cS sn sub ab col k0 k1 k2 k3 k5,h.get? C=some (vL nm q C N bs cS mI.hasDict sn sub ab col jF k0 k1 k2 k3 k5 fo)∧vm h bm cS:=by
 obtain⟨cS,RV,nm,q,bs,hdct,sn,sub,ab,col,dd,k0,k1,k2,k3,k5,mN,cL,fl,wb,T⟩:=(O.own X).obj
 have Kq:=X _ _ Mg
 have av:=Kq.symm.trans cL
 have ay:=gT av
 have hm:pd.mro=da R::cS:=by
  have cv:(Data.cls pd)=_:=eK Obj.data ay
  injection cv with cv
  rw[cv]
 unfold Ga at jE
 simp only[kK,o_,PX]at jE
 obtain⟨⟨e1,c6⟩,hr⟩:=jE
 split at hr
 .rename_i an5 fI fJ i5 n VW hs
  have hr:=o_.mp hr
  subst hr
  obtain⟨aj6,agl,aol,aot,akI,kq,ald,alg,afw,agu,anK⟩:=mI
  dsimp only at e1 c6
  rw[hm]at e1
  subst e1 c6
  obtain⟨Xh⟩:=qL
  simp only at hs
  subst hs
  exact⟨_,_,_,_,_,_,_,_,_,_,_,_,_,_,X _ _ Mb,.own cL fl wb T⟩
 .cases hr
section
variable{prog:bT}{w:bJ}{A:c5}{E:Value→ax→Prop}{s:ax}{K:a3}
variable{nm q:Str}{C N mO:Addr}{bs bm cS:List Value}{hd:Bool}{sn:List Str}{sub:List Value}{ab:Bool}{col:Option Bool}{jF:Option Addr}{k0 k1 k2 k3 k5:Option Value}{B fo l1:String}
theorem μ(F:uO B fo l1 bm){rest:List Value}{Q:Value→ax→Prop}(T:vm s.heap bm cS)(X:K.In s.heap)(dO:s.heap.get? C=some (vL nm q C N bs cS hd sn sub ab col jF k0 k1 k2 k3 k5 fo))(aj:c3 K (.ref C) "__init__"=some (some (.ref mO)))(hf:abF K (.ref mO)=some (.type "function"))(VE:rest.length≤sizeLine)(bg:∀h' e,s.heap.objs.size≤e→QL s.heap h' e (.ref C) rest→aX (br prog w) (A.under (.builtin "type.__call__" ⟨.ref C::rest,[]⟩)) (call (.ref mO) (.ref e::rest)) (λr s'=>r=.none∧Q (.ref e) s') E {s with heap:=h'}):
  aX (br prog w) A (call (.ref C) rest) Q E s:=by
 obtain⟨h,g,d,t,os⟩:=s
 have f1:=tc_lookup
 have f2:=tc_bind (.ref C)
 have fV:(⟨h,g,d,t,os⟩:ax).TypeIs (.ref C) "type":=⟨_,dO,rfl⟩
 refine si (agt (show aX _ _ (callAny (.ref C) _) _ _ _ from ?_))
 repeat (any_goals (first|assumption|with_reducible refine jy dO ?_|wp_step))
 refine⟨rfl,codeAny_call_builtin_at (P4 _ (by decide+kernel)) entry_typeCall (wpAny_check_type_call_sub dO ?_)⟩
 repeat (first|with_reducible refine wpAny_madeBy_exc dO ?_|with_reducible refine jy dO ?_|wp_step)
 refine codeAny_call_builtin_code (P4 _ F.quiet) (wpAny_check_new_subT F T dO (codeAny_exc_new_subT F T dO (show aX _ _ _ _ _ _ from ?_) VE))
 have tC:((h.push {cls:=.type "tuple",data:=.seq rest.toArray}).push {cls:=.ref C,data:=.fields #[.ref h.objs.size,.none,.none,.none,.bool false,.none]}).get? (h.objs.size+1)=some {cls:=.ref C,data:=.fields #[.ref h.objs.size,.none,.none,.none,.bool false,.none]}:=by heap_get
 have mk:QL h ((h.push {cls:=.type "tuple",data:=.seq rest.toArray}).push {cls:=.ref C,data:=.fields #[.ref h.objs.size,.none,.none,.none,.bool false,.none]}) (h.objs.size+1) (.ref C) rest:=
  ⟨λb o U=>dy _ (dy _ U),QN (vk _),h.objs.size,tC,QN (b1 _),dy _ (Ö rfl rfl)⟩
 have Le:=bg _ _ (vk _) mk
 have IA:=X.keeps mk.keeps
 have Kj:=mk.keeps _ _ dO
 have aif:(da C::cS).contains (.ref C)=true:=by simp
 show aX _ _ _ _ _ ⟨(h.push {cls:=.type "tuple",data:=.seq rest.toArray}).push {cls:=.ref C,data:=.fields #[.ref h.objs.size,.none,.none,.none,.bool false,.none]},g,d,t,os⟩
 dsimp only
 generalize(h.push {cls:=.type "tuple",data:=.seq rest.toArray}).push {cls:=.ref C,data:=.fields #[.ref h.objs.size,.none,.none,.none,.bool false,.none]}=af at tC mk Le IA Kj⊢
 generalize h.objs.size=a0 at tC mk Le Kj⊢
 unfold LZ
 repeat (first|with_reducible refine jy tC ?_|(with_reducible refine O4 Kj ?_;rw[aif])|wp_step)
 refine(yJ IA aj).here ?_
 refine jQ (aJ ((abw IA _ hf).here ?_))
 show aX _ _ (call (.ref mO) (.ref (a0+1)::rest) >>=λr=>pure (some r)) _ _ _
 refine aJ (fa Le (λr s' aw=>?_) λ_ _ z=>z)
 obtain⟨rfl,eu⟩:=aw
 wp_walk
 exact eu
theorem ν(F:uO B fo l1 bm){R:vv→ax→Prop}{e t0:Addr}{dP:Option Addr}{bS:Array (Option Value)}{rest:List Value}(T:vm s.heap bm cS)(dO:s.heap.get? C=some (vL nm q C N bs cS hd sn sub ab col jF k0 k1 k2 k3 k5 fo))(he:s.heap.get? e=some ⟨.ref C,dP,.fields #[.ref t0,.none,.none,.none,.bool false,.none],bS⟩)(VE:rest.length≤sizeLine)(bg:∀h' t,(∀b o,b≠e→s.heap.get? b=some o→h'.get? b=some o)→h'.get? e=some ⟨.ref C,dP,.fields #[.ref t,.none,.none,.none,.bool false,.none],bS⟩→R (.ok (.ret .none)) {s with heap:=h'}):
  nS (br prog w) A (.call (.builtin l1) ⟨.ref e::rest,[]⟩) R s:=by
 obtain⟨h,g,d,t,os⟩:=s
 refine JH F.init.plain F.initEntry (wpAny_check_init_subT F T dO he rfl ?_)
 dsimp only at he⊢
 wp_walk
 have ain:(h.push {cls:=.type "tuple",data:=.seq rest.toArray}).get? e=_:=dy _ he
 refine bg _ h.objs.size (λb o U D7=>?_) ?_
 .show((h.push _).update e _).get? b=some o
  rw[pW _ _ (dG U)]
  exact dy _ D7
 .show((h.push _).update e _).get? e=_
  rw[x9 _ ain rfl]
  rfl
theorem W0{h:Heap}(T:vm h bm cS)(self:Value)(Ym:Str):NJ self Ym cS=NJ self Ym bm:=by
 induction T with
 |base=>rfl
 |own _ _ _ _ ba=>rw[W6,ba]
theorem Ql{M:nK}{d:Addr}{mA:Str→Option Value}{name:Str}{a5:Tok}{v:Value}{ns:List Str}{Q:Fin→ax→Prop}(az:s.heap.Ns1 d mA)(hw:vu mA ns)(bQ:ns.length≤1000)(bg:∀h' gA,h'.Ns1 d (λy=>if y=name then some v else mA y)→lB d s.heap h'→Q (.done (.ret .none)) {s with heap:=h',toks:=gA}):
  aX M A (ZR d (.str name a5) name v) Q E s:=by
 unfold ZR am2
 refine aJ (bM (aJ (wpAny_nsSet1 az λh' j4 hs=>?_)))
 obtain⟨akj,ahH,ahF,Lb,KS,KQ⟩:=j4.count (Ss name v hw)
 refine aJ (amk Lb (by rw[KS];exact akv (gm KQ (by rw[hS,qM];omega))) ?_)
 exact bM (bg _ _ j4 hs)
theorem Ů{x:Addr}{name:Str}{v:Value}{aO owner:String}{vs:Array Value}{bS:Array (Option Value)}{Q:Unit→ax→Prop}(X:K.In s.heap)(ke:StoreFacts B bm aO owner)(T:vm s.heap bm cS)(dO:s.heap.get? C=some (vL nm q C N bs cS hd sn sub ab col jF k0 k1 k2 k3 k5 fo))(hs:c3 K (.ref C) "__setattr__"=some (some (.builtin aO)))(az:c3 K (.ref C) name=some none)(a9:H2 K (.ref C) (.type owner)=some true)(ao:s.heap.get? x=some ⟨.ref C,none,.fields vs,bS⟩)(KY:hd=true)(bg:∀h' gA,h'.get? x=some ⟨.ref C,some s.heap.objs.size,.fields vs,bS⟩→h'.Ns1 s.heap.objs.size (λy=>if y=name then some v else none)→(∀b o,b≠x→s.heap.get? b=some o→h'.get? b=some o)→Q () {s with heap:=h',toks:=gA}):
  aX (br prog w) A (Bn (.ref x) name v) Q E s:=by
 obtain⟨h,g,d,t,os⟩:=s
 dsimp only at X T dO ao
 have ty:HZ (br prog w) h (typeOf (.ref x)) (.ref C):=(abu ao).andThen .now
 have ob:HZ (br prog w) h (LZ (.ref x) (.type owner)) true:=ty.andThen (abE X a9)
 unfold Bn callSpecial? specialOf
 have dc:=ke.slot.bind (.ref x)
 repeat (any_goals (first|assumption|with_reducible refine jy ao ?_|wp_step))
 refine(yJ X hs).here (jQ (aJ (Gm dc (aJ (si (JH ke.slot.plain ke.entry (aby ke.kind ke.split ob (ke.args _ _ _) ?_)))))))
 have ai0:=ke.passes (.ref x)
 have tI:NJ (.ref x) "__setattr__" cS=pure ():=(W0 T _ _).trans ai0
 unfold Builtin.«object.__setattr__»
 repeat (first|rw[refuse_eq]|(rw[W6,tI])|with_reducible refine jy ao ?_|with_reducible refine aml dO ?_|wp_step)
 refine(yJ X az).here (aJ (bM ?_))
 show aX _ _ (GU _ _ _ _ _ _) _ _ _
 unfold GU
 refine aJ (fa (Q:=λ_ s'=>s'=⟨h,g,d,t+1,os⟩) (E:=λ_ _=>False) ?_ (λ_ _ av=>?_) (λ_ _ z=>z.elim))
 .repeat (first|with_reducible refine jy ao ?_|with_reducible refine jy dO ?_|wp_step)
  exact rfl
 .subst av
  have VS:x≠h.objs.size:=en (du ao)
  have Lq:(h.push {cls:=.type "dict",data:=.dict #[]}).get? x=_:=dy _ ao
  refine aJ (fa (Q:=λr s'=>r=some h.objs.size∧s'=⟨(h.push {cls:=.type "dict",data:=.dict #[]}).update x λo=>{o with dict:=some h.objs.size},g,d,t+1,os⟩) (E:=λ_ _=>False) ?_ (λ_ _ av=>?_) (λ_ _ z=>z.elim))
  .show aX _ _ (LX x true) _ _ _
   subst KY
   unfold LX
   repeat (first|with_reducible refine jy ao ?_|with_reducible refine jy dO ?_|wp_step)
   exact⟨rfl,rfl⟩
  .obtain⟨rfl,rfl⟩:=av
   have aiy:((h.push {cls:=.type "dict",data:=.dict #[]}).update x λo=>{o with dict:=some h.objs.size}).get? x=some ⟨.ref C,some h.objs.size,.fields vs,bS⟩:=by
    rw[x9 _ Lq rfl]
   have K2:((h.push {cls:=.type "dict",data:=.dict #[]}).update x λo=>{o with dict:=some h.objs.size}).get? h.objs.size=some {cls:=.type "dict",data:=.dict #[]}:=
    (pW _ _ VS).trans (Ö rfl rfl)
   have aiO:((h.push {cls:=.type "dict",data:=.dict #[]}).update x λo=>{o with dict:=some h.objs.size}).Ns h.objs.size (λ_=>none):=⟨_,#[],_,K2,rfl,λe he=>bB he (by simp),λ_=>rfl⟩
   refine Ql (mA:=λ_=>none) (ns:=[]) (Ô aiO) abG (by decide) λh' gA j4 bX=>?_
   refine bM (bM (bg h' gA ?_ j4 λb o U D7=>?_))
   .exact(bX.2 x VS).trans aiy
   .refine(bX.2 b (en (du D7))).trans ((pW _ _ (dG U)).trans (dy _ D7))
theorem Ĉ{x au:Addr}{name:Str}{v:Value}{aO owner:String}{vs:Array Value}{bS:Array (Option Value)}{mA:Str→Option Value}{ns:List Str}{Q:Unit→ax→Prop}(X:K.In s.heap)(ke:StoreFacts B bm aO owner)(T:vm s.heap bm cS)(dO:s.heap.get? C=some (vL nm q C N bs cS hd sn sub ab col jF k0 k1 k2 k3 k5 fo))(hs:c3 K (.ref C) "__setattr__"=some (some (.builtin aO)))(az:c3 K (.ref C) name=some none)(a9:H2 K (.ref C) (.type owner)=some true)(ao:s.heap.get? x=some ⟨.ref C,some au,.fields vs,bS⟩)(KY:hd=true)(fl:s.heap.Ns1 au mA)(hw:vu mA ns)(bQ:ns.length≤1000)(bg:∀h' gA,h'.Ns1 au (λy=>if y=name then some v else mA y)→lB au s.heap h'→Q () {s with heap:=h',toks:=gA}):
  aX (br prog w) A (Bn (.ref x) name v) Q E s:=by
 obtain⟨h,g,d,t,os⟩:=s
 dsimp only at X T dO ao fl
 have ty:HZ (br prog w) h (typeOf (.ref x)) (.ref C):=(abu ao).andThen .now
 have ob:HZ (br prog w) h (LZ (.ref x) (.type owner)) true:=ty.andThen (abE X a9)
 unfold Bn callSpecial? specialOf
 have dc:=ke.slot.bind (.ref x)
 repeat (any_goals (first|assumption|with_reducible refine jy ao ?_|wp_step))
 refine(yJ X hs).here (jQ (aJ (Gm dc (aJ (si (JH ke.slot.plain ke.entry (aby ke.kind ke.split ob (ke.args _ _ _) ?_)))))))
 have tI:NJ (.ref x) "__setattr__" cS=pure ():=(W0 T _ _).trans (ke.passes (.ref x))
 unfold Builtin.«object.__setattr__»
 repeat (first|rw[refuse_eq]|(rw[W6,tI])|with_reducible refine jy ao ?_|with_reducible refine aml dO ?_|wp_step)
 refine(yJ X az).here (aJ (bM ?_))
 show aX _ _ (GU _ _ _ _ _ _) _ _ _
 unfold GU
 refine aJ (fa (Q:=λ_ s'=>s'=⟨h,g,d,t+1,os⟩) (E:=λ_ _=>False) ?_ (λ_ _ av=>?_) (λ_ _ z=>z.elim))
 .repeat (first|with_reducible refine jy ao ?_|with_reducible refine jy dO ?_|wp_step)
  exact rfl
 .subst av
  refine aJ (fa (Q:=λr s'=>r=some au∧s'=⟨h,g,d,t+1,os⟩) (E:=λ_ _=>False) ?_ (λ_ _ av=>?_) (λ_ _ z=>z.elim))
  .show aX _ _ (LX x true) _ _ _
   subst KY
   unfold LX
   repeat (first|with_reducible refine jy ao ?_|with_reducible refine jy dO ?_|wp_step)
   exact⟨rfl,rfl⟩
  .obtain⟨rfl,rfl⟩:=av
   refine Ql fl hw bQ λh' gA j4 bX=>?_
   exact bM (bM (bg h' gA j4 bX))
end
open PySem PySem.Spec PyProof.Rows ai
noncomputable def mM(e C:Addr):d4:=.ext λh=>∃t bS,h.get? e=some ⟨.ref C,none,.fields #[.ref t,.none,.none,.none,.bool false,.none],bS⟩
noncomputable def mL(e C au:Addr):d4:=.ext λh=>∃t bS,h.get? e=some ⟨.ref C,some au,.fields #[.ref t,.none,.none,.none,.bool false,.none],bS⟩
noncomputable def J2(e C au:Addr):d4:=.ext λh=>∃vs bS,h.get? e=some ⟨.ref C,some au,.fields vs,bS⟩
noncomputable def sm(d:Addr)(fs:List (Str×V)):d4:=.ext λh=>fs.length≤100∧∃mA,h.Ns1 d mA∧(∀f,iI (fs.lookup f) (mA f))∧vu mA (fs.map (·.1))
section
variable{P:bT}{w:bJ}{H:ae}{h:Heap}{e C au d:Addr}
theorem Q8{t:Addr}{bS:Array (Option Value)}(q:h.get? e=some ⟨.ref C,none,.fields #[.ref t,.none,.none,.none,.bool false,.none],bS⟩):eo P w H h e (mM e C):=
 ⟨⟨t,bS,q⟩,⟨_,q⟩,λ_ _⟨t,bS,z⟩k=>⟨t,bS,k _ z⟩⟩
theorem ab0{t:Addr}{bS:Array (Option Value)}(q:h.get? e=some ⟨.ref C,some au,.fields #[.ref t,.none,.none,.none,.bool false,.none],bS⟩):eo P w H h e (mL e C au):=
 ⟨⟨t,bS,q⟩,⟨_,q⟩,λ_ _⟨t,bS,z⟩k=>⟨t,bS,k _ z⟩⟩
theorem ab1{vs:Array Value}{bS:Array (Option Value)}(q:h.get? e=some ⟨.ref C,some au,.fields vs,bS⟩):eo P w H h e (J2 e C au):=
 ⟨⟨vs,bS,q⟩,⟨_,q⟩,λ_ _⟨t,bS,z⟩k=>⟨t,bS,k _ z⟩⟩
theorem Q9{fs:List (Str×V)}{mA:Str→Option Value}(z:fs.length≤100)(n:h.Ns1 d mA)(r:∀f,iI (fs.lookup f) (mA f))(wi:vu mA (fs.map (·.1))):eo P w H h d (sm d fs):=by
 obtain⟨o,q⟩:∃o,h.get? d=some o:=by obtain⟨o,_,_,q,_⟩:=n.ns;exact⟨o,q⟩
 exact⟨⟨z,mA,n,r,wi⟩,⟨o,q⟩,λ_ _⟨z,mA,n,r,wi⟩k=>⟨z,mA,n.at k,r,wi⟩⟩
end
section
variable{X:bw}{pins:List (Addr×Obj)}{σ:ai.St}{H:ae}{s:ax}
theorem Inv.put2{h':Heap}{t':Nat}{e d:Addr}{qF dP:d4}{pT:Heap→Prop}(I:Inv X pins σ H s)(he:H e=some (.ext pT))(hd:s.heap.objs.size≤d)(k:∀b o,b≠e→s.heap.get? b=some o→h'.get? b=some o)(aiq:∃o,h'.get? e=some o)(hD:eo X.prog X.w (upd (upd H d dP) e qF) h' e qF)(ew:eo X.prog X.w (upd (upd H d dP) e qF) h' d dP):Inv X pins σ (upd (upd H d dP) e qF) {s with heap:=h',toks:=t'}:=by
 have ail:H d=none:=I.bh.fresh hd
 have K2:∀o,s.heap.get? d≠some o:=λo z=>p2 _ (jC (du z) hd)
 have ne1:∀b,H b=none→b≠e:=λb n z=>by rw[z,he]at n;cases n
 have old:∀{b:Addr}{u:d4},H b=some u→b≠e→upd (upd H d dP) e qF b=some u:=λ{b u}q n=>by rw[aG n,aG (dg q ail)];exact q
 have b':∀{b:Addr}{u:d4},H b=some u→(∀kJ,u≠.ext kJ)→b≠e:=λ{b u}q n z=>by subst z;rw[he]at q;exact n pT (gT q).symm
 refine I.un ⟨λb o q n _ _=>k b o (ne1 b n) q,λb o q n _ _=>⟨o.slots,k b o (ne1 b n) q⟩,λb o q n _=>?_,λb o q _=>?_,λb xs q=>old q (b' q (by intro kJ z;cases z)),λb o u q=>old q (b' q (by intro kJ z;cases z)),λb ps q=>⟨#[],by rw[old q (b' q (by intro kJ z;cases z))];simp⟩⟩ λb u q=>?_
 .rw[aG (ne1 b n),aG (show b≠d fromλz=>K2 o (by rw[←z];exact q))]
  exact n
 .by_cases U:b=e
  .subst U;exact aiq
  .exact⟨o,k b o U q⟩
 .by_cases U:b=e
  .subst U;rw[a4]at q;cases q;exact hD
  .rw[aG U]at q
   by_cases hY:b=d
   .subst hY;rw[a4]at q;cases q;exact ew
   .rw[aG hY]at q
    refine(I.bh b u q).nt (λc v aF r=>k c v ?_ r) (λc r=>old r (b' r (by intro kJ z;cases z))) λc xs r=>old r (b' r (by intro kJ z;cases z))
    rcases aF with rfl|aF
    .exact U
    .exact b' aF (by intro kJ z;cases z)
theorem ab2{H:ae}{a:Addr}{o:d4}(h:H a=some o):upd H a o=H:=by
 funext b
 by_cases U:b=a
 .subst U;rw[a4,h]
 .rw[aG U]
end
structure o7(K:a3)(aa:Str→Option Value)(y:Str)(C R:Addr):Prop where
 base:Exc K aa y R [.type "ValueError",.type "Exception",.type "BaseException",.type "object"] "ValueError.__new__"
 lk:∃jF mI qL y2 pd FR,K.lookup C=some ⟨.type "type",jF,.cls mI,qL⟩∧K.lookup R=some ⟨.type "type",y2,.cls pd,FR⟩∧Ga mI pd qL C "ValueError.__new__"=true∧mI.hasDict=true
 aO:c3 K (.ref C) "__setattr__"=some (some (.builtin "object.__setattr__"))
 ob:H2 K (.ref C) (.type "object")=some true
 rd:Sp K R (.type "type")=true
 J7:Sk K (.ref R) (.type "type") "__init__"=some (.val (.builtin "ValueError.__init__"))
 df:yK K (.ref R) "__getattribute__"=some (some (.builtin "type.__getattribute__"))
 j0:ae7 K C
 hd:sZ K C=true
theorem o7.obj{K:a3}{aa:Str→Option Value}{y:Str}{C R:Addr}{h:Heap}(x:o7 K aa y C R)(X:K.In h):
  ∃nm q N bs cS sn sub ab col jF k0 k1 k2 k3 k5,h.get? C=some (vL nm q C N bs cS true sn sub ab col jF k0 k1 k2 k3 k5 "ValueError.__new__")∧vm h [.type "ValueError",.type "Exception",.type "BaseException",.type "object"] cS:=by
 obtain⟨jF,mI,qL,y2,pd,FR,Mb,Mg,jE,hd⟩:=x.lk
 obtain⟨nm,q,N,bs,cS,sn,sub,ab,col,k0,k1,k2,k3,k5,dO,T⟩:=ć X x.base Mb Mg jE
 rw[hd]at dO
 exact⟨nm,q,N,bs,cS,sn,sub,ab,col,jF,k0,k1,k2,k3,k5,dO,T⟩
section
variable{X:bw}{o e value:Expr}{es:List Expr}{f y:Str}{pos pos' eZ np:Pos}{b3 jb:TE}{t:fY}{R:Addr}
noncomputable def ali(K:a3)(aa:Str→Option Value)(y:Str)(R:Addr)(t:fY):TE:=λσ H Q=>t σ H λvs H1=>∃e C rest,vs=.ref e::rest∧H1 e=some (mM e C)∧o7 K aa y C R∧rest.length≤sizeLine∧Q .bR H1
theorem ĉ{pl:Sem Bool}(bf:jA X y)(hm:X.aa y=some (.ref R))(rd:Sp X.K R (.type "type")=true)(J7:Sk X.K (.ref R) (.type "type") "__init__"=some (.val (.builtin "ValueError.__init__")))(df:yK X.K (.ref R) "__getattribute__"=some (some (.builtin "type.__getattribute__")))(aH:hj X (e::es) t)(jG:(y==("__debug__":Str))=false:=by decide)(kr:dW (e::es) X.env=(false,eval e X.env)::dW es X.env:=by rfl)(fm:(hq pos (dW es X.env)).any (·.1)=false:=by rfl)(cw:eval (.Call (.Attribute (.Name y np) "__init__" eZ) (e::es) [] pos) X.env=(do
   let ej ←eval (.Name y np) X.env
   r' eZ.atName
   let(f,first) ←n7 [ej] (vW ej "__init__" pl)
   yY pos f first (hq pos (dW (e::es) X.env)) (rg pos (rM [] X.env))):=by rfl):
  bE X (.Call (.Attribute (.Name y np) "__init__" eZ) (e::es) [] pos) (ali X.K X.aa y R t):=by
 intro pins s σ H Q I h
 refine C2 (pl:=pl) (tM I bf hm ?_ jG) cw
 refine PySem.W.method_cls I.eV df (PySem.W.cls_value I.eV rd J7 (by decide+kernel) ?_)
 refine abm (bH (aH pos pins _ σ H _ (I.tok _) h) λus s1⟨vs,H1,aS,b6,ex,C,rest,ev,hex,iv,bQ,q⟩=>?_) kr fm
 subst ev
 cases b6 with
 |cons fM lr=>
  cases fM
  obtain⟨⟨t0,bS,he⟩,_,_⟩:=(show eo X.prog X.w H1 s1.heap ex (mM ex C)from aS.bh ex _ hex)
  obtain⟨nm,c4,N,bs,cS,sn,sub,ab,col,jF,k0,k1,k2,k3,k5,dO,T⟩:=iv.obj aS.eV
  refine si (ν yF T dO he (by rw[←lr.length];exact bQ) λh' t1 c0 Ve=>?_)
  have bK:=aS.write (t':=s1.toks) (x:=ex) (e:=ex) (o:=mM ex C) (by rw[hex];exact trivial) (.inl rfl) (λb u U q=>c0 b u U q) ⟨_,Ve⟩ (Q8 Ve)
  rw[ab2 hex]at bK
  exact⟨.bR,H1,bK,rfl,q⟩
noncomputable def adP(K:a3)(aa:Str→Option Value)(y:Str)(R:Addr)(to jb:TE)(f:Str):eY:=λD σ H=>jb σ H λv H1=>to σ H1 λx ak=>∃e C,x=.ref e∧o7 K aa y C R∧c3 K (.ref C) f=some none∧
 ((ak e=some (mM e C)∧∀au,ak au=none→au≠e→D.b' σ (upd (upd ak au (sm au [(f,v)])) e (mL e C au)))∨
 ∃au fs,ak e=some (mL e C au)∧ak au=some (sm au fs)∧fs.length<100∧D.b' σ (upd ak au (sm au (i6 f v fs))))
theorem Qm(aH:bE X o b3)(bG:bE X value jb)(hs:xl value (some (.Attribute o f pos')) pos.line X.env=pure false):gn X (.Assign [.Attribute o f pos'] value pos) (adP X.K X.aa y R b3 jb f):=by
 intro pins s σ H D I h
 refine akz (bH (bG pins s σ H _ I h) λu s1⟨v,H1,aS,b7,q⟩=>bH (aH pins s1 σ H1 _ aS q) λej s2⟨x,ak,bK,bt,e,C,ex,iv,az,cp⟩=>?_) hs
 subst ex
 obtain rfl:ej=da e:=bt
 obtain⟨nm,c4,N,bs,cS,sn,sub,ab,col,jF,k0,k1,k2,k3,k5,dO,T⟩:=iv.obj bK.eV
 rcases cp with⟨he,cp⟩|⟨au,fs,he,zZ,bQ,cp⟩
 .obtain⟨⟨t0,bS,qn⟩,_,_⟩:=(show eo X.prog X.w ak s2.heap e (mM e C)from bK.bh e _ he)
  refine Ů bK.eV abq T dO iv.aO az iv.ob qn rfl λh' gA ei D3 c0=>?_
  have t7:s2.heap.objs.size≠e:=yy (du qn)
  refine⟨σ,_,Inv.put2 bK he (b1 _) c0 ⟨_,ei⟩ (ab0 ei) (Q9 (fs:=[(f,v)]) (show 1≤100 by decide) D3 (λg=>?_) ?_),cp _ (bK.bh.fresh (b1 _)) t7⟩
  .by_cases bf:g=f
   .subst bf
    have U:(g==g)=true:=o_.mpr rfl
    simp only[q6,U,aI]
    exact b7
   .have U:(g==f)=false:=vC.mpr bf
    simp only[q6,U,aD bf]
    exact trivial
  .exact Ss f u abG
 .obtain⟨⟨t0,bS,qn⟩,_,_⟩:=(show eo X.prog X.w ak s2.heap e (mL e C au)from bK.bh e _ he)
  obtain⟨⟨an4,mA,fl,ai7,VR⟩,⟨dP,anY⟩,_⟩:=(show eo X.prog X.w ak s2.heap au (sm au fs)from bK.bh au _ zZ)
  refine Ĉ bK.eV abq T dO iv.aO az iv.ob qn rfl fl VR (by rw[bc];omega) λh' gA D3 bX=>?_
  refine⟨σ,_,bK.write (x:=au) (e:=au) (o:=sm au (i6 f v fs)) (by rw[zZ];exact trivial) (.inl rfl) (λb z U q=>(bX.2 b U).trans q) (by obtain⟨cO,_,_,q,_⟩:=D3.ns;exact⟨cO,q⟩) (Q9 ?_ D3 (λg=>?_) ?_),cp⟩
  .have:=Mf f v fs;omega
  .rw[Me]
   by_cases q:g=f
   .rw[aI q,aI q];exact b7
   .rw[aD q,aD q];exact ai7 g
  .intro g bf
   by_cases q:g=f
   .rw[q];exact(Ak f v fs).1
   .exact(Ak f v fs).2 g (VR g λz=>bf (by show(if g=f then some u else mA g)=none;rw[aD q];exact z))
end
section
variable{X:bw}{k:Nat}{f C R:Addr}{fd:cP}{ps:List Str}{sp:cW}{y:Str}
theorem Ċ{pins:List (Addr×Obj)}{σ:ai.St}{H:ae}{s:ax}{us:List Value}{vs:List V}{Rr:Addr→Addr→ae→Prop}(iv:o7 X.K X.aa y C R)(aj:c3 X.K (.ref C) "__init__"=some (some (.ref f)))(hf:g8 X.K (.ref f)=true)(F:aY X.prog X.w X.K X.aa X.base bu k f fd ps sp)(aw:fU (k+1) X.A)(U:Binds X.K fd ps [])(I:Inv X pins σ H s)(r:cj vs us)(bQ:vs.length≤sizeLine)(h:∀e,H e=none→sp (.ref e::vs) (upd H e (mM e C)) (λv ak=>v=.bR∧∃au,ak e=some (mL e C au)∧Rr e au ak) uN):
  aX (br X.prog X.w) X.A (call (.ref C) us) (λu s'=>∃e au ak,u=.ref e∧s.heap.get? e=none∧Inv X pins σ ak s'∧ak e=some (mL e C au)∧Rr e au ak) X.dj s:=by
 obtain⟨nm,c4,N,bs,cS,sn,sub,ab,col,jF,k0,k1,k2,k3,k5,dO,T⟩:=iv.obj I.eV
 refine μ yF T I.eV dO aj (o_.mp hf) (by rw[←r.length];exact bQ) λh' e hle mk=>?_
 obtain⟨t,he,an2,cw⟩:=mk.there
 have bK:Inv X pins σ (upd H e (mM e C)) {s with heap:=h'}:=I.laid (a:=e) (o:=mM e C) (t':=s.toks) mk.keeps hle (Q8 he)
 have bg:=h e (I.bh.fresh hle)
 have c8:cj (V.ref e::vs) (da e::us):=.cons rfl r
 have ar:(da e::us++[]).length=ps.length:=by
  have av:=c8.length
  rw[F.len _ _ _ _ bg]at av
  rw[jS]
  exact av.symm
 have cJ:=U {s with heap:=h'} (da e::us) bK.eV ar
 rw[jS]at cJ
 refine si (tg (F.run _ X.stack _ _ ⟨da e::us,[]⟩ (da e::us) _ _ uN (aw.make C us []) (bK.Dn.make C us []) cJ c8 bg) λlr s' n8=>?_)
 cases lr with
 |error x=>exact hQ n8
 |ok fB=>
  cases fB with
  |ret u=>
   obtain⟨v,H',cT,b7,ev,au,aU,bP⟩:=bK.after n8
   subst ev
   exact⟨b7,e,au,H',rfl,mk.new,cT,aU,bP⟩
  |next=>exact hQ n8
  |brk=>exact hQ n8
  |cont=>exact hQ n8
end
section
variable{prog:bT}{w:bJ}{A:c5}{E:Value→ax→Prop}{s:ax}{env:Env}{K:a3}{aa:Str→Option Value}{y:Str}{C R:Addr}
theorem ů{x:Sem Value}{Q:Flow→ax→Prop}(iv:o7 K aa y C R)(ef:A.handled=none)(h:aX (br prog w) A x (λv dw=>∃e au t bS,v=.ref e∧K.In dw.heap∧dw.heap.get? e=some ⟨.ref C,some au,.fields #[.ref t,.none,.none,.none,.bool false,.none],bS⟩∧E (.ref e) dw) E s):
  aX (br prog w) A (W5 env (some x) none) Q E s:=by
 unfold W5
 refine aJ (fa h (λv dw Lx=>?_) λ_ _ x=>x)
 obtain⟨e,au,t,bS,rfl,X,he,lW⟩:=Lx
 obtain⟨nm,c4,N,bs,cS,sn,sub,ab,col,jF,k0,k1,k2,k3,k5,dO,T⟩:=iv.obj X
 have KP:(da C::cS).contains (.type "BaseException")=true:=by rw[ĸ,T.hasType (b:=true) (by decide),ZK]
 obtain⟨aQ,g,d,a5,os⟩:=dw
 repeat (first|with_reducible refine jy he ?_|with_reducible refine jy dO ?_|(with_reducible refine O4 dO ?_;rw[KP])|wp_step)
 exact wpAny_raiseNew_none ef lW
end
noncomputable def Rp(h:Heap)(bp:Addr)(dP:Option Addr):Prop:=∀au,dP=some au→∃o,h.get? bp=some o∧o.dict=some au
noncomputable def qX(P:bT)(w:bJ):lz:=λfr H s E e s'=>∃(bp:Addr)(cls a0:Value)(H':ae)(B:Heap)(dP:Option Addr),e=.ref bp∧m3 P w fr H s bp cls a0 H' B s'∧Rp s'.heap bp dP∧E cls dP H'
theorem R0{P:bT}{w:bJ}{fr:List Env}{H:ae}{s s':ax}{E:cy}{e:Value}(h:gC P w fr H s E e s'):qX P w fr H s E e s':=by
 obtain⟨bp,cls,a0,H',B,rfl,T,q⟩:=h
 exact⟨bp,cls,a0,H',B,none,rfl,T,(by intro au z;cases z),q⟩
noncomputable def del(H:ae)(a:Addr):ae:=λb=>if b=a then none else H b
theorem ċ{H:ae}{a:Addr}:del H a a=none:=by unfold del;rw[aI rfl]
theorem pB{H:ae}{a b:Addr}(h:b≠a):del H a b=H b:=by unfold del;rw[aD h]
section
variable{P:bT}{w:bJ}{K:a3}{aa:Str→Option Value}{base:Heap}{N:List Str}{b_:Str}{scope:Scope}{f:Addr}{bC:Value}{A:c5}{outer:List Env}{s:ax}{H:ae}{E:cy}
noncomputable abbrev ig(P:bT)(w:bJ)(K:a3)(aa:Str→Option Value)(base:Heap)(N:List Str)(b_:Str)(scope:Scope)(f:Addr)(bC:Value)(A:c5)(outer:List Env)(s:ax)(H:ae)(E:cy):bw:=
 j6 (qX P w) P w K aa base N b_ scope f bC A outer s H E
theorem Xz{pins:List (Addr×Obj)}{σ:ai.St}{H1:ae}{s1:ax}(I:Inv (ig P w K aa base N b_ scope f bC A outer s H E) pins σ H1 s1):Inv (gu P w K aa base N b_ scope f bC A outer s H E) pins σ H1 s1:=I.mj _
theorem afb{e:Value}{s':ax}(h:(gu P w K aa base N b_ scope f bC A outer s H E).dj e s'):(ig P w K aa base N b_ scope f bC A outer s H E).dj e s':=
 fa h (λ_ _ q=>R0 q) λ_ _ q=>R0 q
theorem Ol:pD (gC P w) (ig P w K aa base N b_ scope f bC A outer s H E) E:=λpins σ a7 sc e s' I h=>afb (AU pins σ a7 sc e s' (Xz I) h)
theorem al9{pins:List (Addr×Obj)}{σ:ai.St}{H1:ae}{s1:ax}{bp C au:Addr}(I:Inv (ig P w K aa base N b_ scope f bC A outer s H E) pins σ H1 s1)(ao:H1 bp=some (mL bp C au))(hold:s.heap.get? bp=none)(lW:E (.ref C) (some au) (del H1 bp)):(ig P w K aa base N b_ scope f bC A outer s H E).dj (.ref bp) s1:=by
 obtain⟨⟨t,bS,qn⟩,_,_⟩:=(show eo P w H1 s1.heap bp (mL bp C au)from I.bh bp _ ao)
 obtain⟨S,f7⟩:∃S,S=fG (ig P w K aa base N b_ scope f bC A outer s H E).stack:=⟨_,rfl⟩
 have il:∀env∈(ig P w K aa base N b_ scope f bC A outer s H E).stack,∀b,env.frame=some b→b∈bp::S:=λenv he b U=>by
  rw[f7]
  exact nI _ (HI.mpr ⟨env,he,U⟩)
 have z':∀b o,H1 b=some o→b∉S:=λb o e z=>by rw[f7]at z;rw[I.FX b z]at e;cases e
 have j5:∀b o,s1.heap.get? b=some o→b≠bp→b∉S→(s6 s1.heap (bp::S)).get? b=some o:=λb o e n m=>Sl _ e λz=>by
  rcases fy.mp z with z|z
  .exact n z
  .exact m z
 have Fd:∀b o,s.heap.get? b=some o→b≠bp:=λb o e z=>by rw[z,hold]at e;cases e
 have oE:∀b o,s.heap.get? b=some o→b∉fG outer→b∉S:=λb o e U=>by rw[f7];exact AS (Xz I) e U
 have wX:∀{b:Addr}{u:d4},H1 b=some u→(∀kJ,u≠.ext kJ)→b≠bp:=λ{b u}q n z=>by subst z;rw[ao]at q;exact n _ (gT q).symm
 have Vi:(s6 s1.heap (bp::S)).get? bp=none:=abB _ (.head _)
 refine fa (E_ al8 (wpAny_leaving_firstW (base:=s6 s1.heap (bp::S)) (a0:=.ref t) (Q:=λ_ s'=>∃h',s'={s1 with heap:=h'}∧Heap.LeftW (s6 s1.heap (bp::S)) _ bp (.ref C) (.ref t) s1.heap h') (E:=λ_ _=>False)
  I.ok.frames (abz I.stack il) rfl qn (λb o q=>Sn _ q) Vi rfl rfl rfl λh' hz=>⟨h',rfl,hz⟩)) (λ_ s'⟨⟨h',es,hz⟩,cB⟩=>?_) λ_ _ z=>z.1.elim
 subst es
 obtain⟨k1,⟨_,_,k2⟩,k3,uE⟩:=hz
 have gB:q2 (s6 s1.heap (bp::S)) outer bp (.ref C) (.ref t) h':=⟨k1,Vi,k2,k3⟩
 refine⟨bp,.ref C,.ref t,del H1 bp,_,some au,rfl,⟨gB,I.os,I.bare,λb ob e=>?_,⟨λb o e n U ei=>?_,λb o e n U ei=>?_,λb o e n ei=>?_,λb o e ei=>?_,λb xs q=>?_,λb o u q=>?_,λb ps q=>?_⟩,λb o e U=>?_⟩,?_,lW⟩
 .have U:b≠bp:=λz=>by rw[z,ċ]at e;cases e
  rw[pB U]at e
  refine(I.bh b ob e).nt (λc u aF q=>?_) (λc r=>by rw[pB (wX r (by intro kJ z;cases z))];exact r) λc xs r=>by rw[pB (wX r (by intro kJ z;cases z))];exact r
  rcases aF with rfl|aF
  .exact j5 c u q U (z' c _ e)
  .exact j5 c u q (wX aF (by intro kJ z;cases z)) (z' c _ aF)
 .exact gB.1 b o (j5 b o (I.base.keep b o e n U ei) (Fd b o e) (oE b o e U))
 .obtain⟨oC,z⟩:=I.base.slot b o e n U ei
  obtain⟨_,ob,b5,gJ⟩:=I.jk.mem U
  rw[z]at b5
  cases b5
  obtain⟨Xg,dt⟩:=uE b _ z gJ
  exact⟨Xg,dt⟩
 .rw[pB (Fd b o e)]
  exact I.base.free b o e n ei
 .obtain⟨cO,z⟩:=I.base.there b o e ei
  by_cases U:b∈fG outer
  .obtain⟨_,ob,b5,gJ⟩:=I.jk.mem U
   obtain⟨oC,dt⟩:=uE b _ b5 gJ
   exact⟨_,dt⟩
  .exact⟨cO,gB.1 b cO (j5 b cO z (Fd b o e) (oE b o e U))⟩
 .have r:=I.base.h7 b xs q
  rw[pB (wX r (by intro kJ z;cases z))]
  exact r
 .have r:=I.base.iY b o u q
  rw[pB (wX r (by intro kJ z;cases z))]
  exact r
 .obtain⟨m,r⟩:=I.base.jx b ps q
  exact⟨m,by rw[pB (wX r (by intro kJ z;cases z))];exact r⟩
 .obtain⟨cO,z⟩:=I.base.there b o e (by simp[ig,j6])
  refine⟨cO,j5 b cO z (Fd b o e) (oE b o e U),λn=>?_⟩
  have bL:=I.base.keep b o e n U (by simp[ig,j6])
  rw[z]at bL
  exact gT bL
 .intro anM c'
  cases c'
  obtain⟨ob,tG,_⟩:=gB.there
  exact⟨ob,tG,cB.dict qn tG⟩
noncomputable def ŵ(C:Addr)(sp:cW)(E:cy)(b3:fY):eY:=λ_ σ H=>b3 σ H λvs H1=>vs.length≤sizeLine∧∀e,H1 e=none→sp (.ref e::vs) (upd H1 e (mM e C)) (λv ak=>v=.bR∧∃au,ak e=some (mL e C au)∧E (.ref C) (some au) (del ak e)) uN
theorem XG{x y:Str}{C R mO:Addr}{k:Nat}{fd:cP}{ps:List Str}{sp:cW}{np e2 pos:Pos}{cF:Expr}{es:List Expr}{b3:fY}(iv:o7 K aa y C R)(hm:aa x=some (.ref C))(aiG:o1 K (.ref C)=true)(aj:c3 K (.ref C) "__init__"=some (some (.ref mO)))(hf:g8 K (.ref mO)=true)(F:aY P w K aa base bu k mO fd ps sp)(aw:fU (k+1) (ig P w K aa base N b_ scope f bC A outer s H E).A)(U:Binds K fd ps [])(bf:jA (ig P w K aa base N b_ scope f bC A outer s H E) x)(aH:hj (ig P w K aa base N b_ scope f bC A outer s H E) (cF::es) b3)(jG:(x==("__debug__":Str))=false:=by decide)(he:dW (cF::es) (ig P w K aa base N b_ scope f bC A outer s H E).env=(false,eval cF (ig P w K aa base N b_ scope f bC A outer s H E).env)::dW es (ig P w K aa base N b_ scope f bC A outer s H E).env:=by rfl)(fm:(hq e2 (dW es (ig P w K aa base N b_ scope f bC A outer s H E).env)).any (·.1)=false:=by rfl):
  gn (ig P w K aa base N b_ scope f bC A outer s H E) (.Raise (some (.Call (.Name x np) (cF::es) [] e2)) none pos) (ŵ C sp E b3):=by
 intro pins s1 σ H1 D I h
 rw[arm_exec_Raise]
 refine aJ (BM ?_)
 show aX _ _ (W5 _ (some (do
  let v ←eval (.Call (.Name x np) (cF::es) [] e2) (ig P w K aa base N b_ scope f bC A outer s H E).env
  r' pos
  pure v)) none) _ _ _
 refine ů iv (I.ok.hd rfl) (aJ (Gi (tM I bf hm ?_ jG)))
 refine C0 (h₀:=base) I.ok.mod.rN aiG (bH (aH e2 pins s1 σ H1 _ I h) λus s2⟨vs,ak,bK,r,bQ,q⟩=>⟨bK.eV,?_⟩) he fm
 refine bH (Ċ (X:=ig P w K aa base N b_ scope f bC A outer s H E) (Rr:=λe au ak=>E (.ref C) (some au) (del ak e)) iv aj hf F aw U bK r bQ q) λu s3⟨e,au,bD,zd,aiP,cT,aU,lW⟩=>?_
 subst zd
 obtain⟨⟨t,bS,qn⟩,_,_⟩:=(show eo P w bD s3.heap e (mL e C au)from cT.bh e _ aU)
 refine aJ (BM (bM ⟨e,au,t,bS,rfl,cT.eV,qn,al9 cT aU ?_ lW⟩))
 cases w7:s.heap.get? e with
 |none=>rfl
 |some o=>
  obtain⟨cO,z⟩:=bK.base.there e o w7 (by simp[ig,j6])
  rw[aiP]at z
  cases z
theorem akm{x:Str}{st:Stmt}{fd:cP}{ps:List Str}{k:Nat}{sp:cW}(F:b0 K x b_ st f fd)(S:dT N ps (dh st))(len:∀vs H Q E,sp vs H Q E→vs.length=ps.length)(tB:∀(bC:Value)(A:c5)(outer:List Env)(s:ax)(H:ae)(vs:List V)(Q:bk)(E:cy),fU k (A.deeper (ph b_ (dh st) s.heap.objs.size f bC))→sp vs H Q E→
   ∃t,hT (ig P w K aa base N b_ (dh st) f bC A outer s H E) (rL st) t∧t {b':=λ_ H'=>Q .bR H',rt:=Q} (start N vs) H):aY P w K aa base (qX P w) (k+1) f fd ps sp:=by
 obtain⟨lh,dP,cQ,doc,pm,an,bC,fA,ot,rfl,lk,kp⟩:=F.ex
 exact Hh lk kp S len λA outer s H vs Q E aw mW=>tB bC A outer s H vs Q E aw mW
end
noncomputable def IB(X:bw)(pins:List (Addr×Obj))(σ:ai.St)(E:cy)(e:Value)(s':ax):Prop:=
 ∃(a7:ae)(sc:ax)(bp:Addr)(cls a0:Value)(H':ae)(B:Heap)(dP:Option Addr),e=.ref bp∧Inv X pins σ a7 sc∧m3 X.prog X.w X.stack a7 sc bp cls a0 H' B s'∧Rp s'.heap bp dP∧E cls dP H'
noncomputable def R3(X:bw)(e:Expr)(t:C6):Prop:=
 ∀(pins:List (Addr×Obj))(s:ax)(σ:ai.St)(H:ae)(Q:bk)(E:cy),Inv X pins σ H s→t E σ H Q→aX (br X.prog X.w) X.A (eval e X.env) (hh X pins σ Q) (IB X pins σ E) s
noncomputable def R4(X:bw)(st:Stmt)(t:C8):Prop:=
 ∀(pins:List (Addr×Obj))(s:ax)(σ:ai.St)(H:ae)(D:Ends)(E:ai.St→cy),Inv X pins σ H s→t D E σ H→aX (br X.prog X.w) X.A (exec st X.env) (s9 X pins D) (λe s'=>∃a6,IB X pins a6 (E a6) e s') s
section
variable{X:bw}{e o:Expr}{es:List Expr}{pos eZ p:Pos}{k:Nat}{f C:Addr}{fd:cP}{ps:List Str}{sp:cW}{b3:TE}{t:fY}{m x:Str}
theorem Ŷ{pins:List (Addr×Obj)}{σ:ai.St}{H:ae}{s:ax}{Q:bk}{E:cy}{us:List Value}{vs:List V}(F:aY X.prog X.w X.K X.aa X.base (qX X.prog X.w) k f fd ps sp)(aw:fU k X.A)(U:Binds X.K fd ps [])(I:Inv X pins σ H s)(r:cj vs us)(h:sp vs H Q E):aX (br X.prog X.w) X.A (call (.ref f) us) (hh X pins σ Q) (IB X pins σ E) s:=by
 have ar:(us++[]).length=ps.length:=by rw[jS,←r.length];exact F.len _ _ _ _ h
 have cJ:=U s us I.eV ar
 rw[jS]at cJ
 refine si (tg (F.run X.A X.stack s H ⟨us,[]⟩ us vs Q E aw I.Dn cJ r h) λr s' bg=>?_)
 cases r with
 |error e=>
  obtain⟨bp,cls,a0,H',B,dP,rfl,T,lk,lW⟩:=bg
  exact⟨H,s,bp,cls,a0,H',B,dP,rfl,I,T,lk,lW⟩
 |ok fB=>
  cases fB with
  |ret u=>exact I.after bg
  |next=>exact hQ bg
  |brk=>exact hQ bg
  |cont=>exact hQ bg
theorem Č{bY:C6}(he:R3 X e bY)(hs:xl e none pos.line X.env=pure false:=by rfl):R4 X (.Expr e pos) (aco bY):=by
 intro pins s σ H D E I h
 exact amg (fa (he pins s σ H _ _ I h) (λv s1⟨x,H1,aS,b6,bq⟩=>⟨σ,H1,aS,bq⟩) λe s' q=>⟨σ,q⟩) I.quiet hs
end
section
variable{M:nK}{A:c5}{E:Value→ax→Prop}{s:ax}{B:Heap}{e L:Addr}{cls a0:Value}{Q:Unit→ax→Prop}{env:Env}{outer l:List Env}
theorem Ŧ(z1:A.frames=some (env::outer))(hf:env.frame=some L)(K0:q2 B (env::outer) e cls a0 s.heap)(eu:∀h',QK B (env::outer) e cls a0 L h'→s.heap.UpToSlots h'→hb s.heap h'→Q () {s with heap:=h'}):aX M A (MS (.ref e) env) Q E s:=
 fa (E_ XF (wpAny_looks_onW (Q:=λ_ s'=>∃h',s'={s with heap:=h'}∧QK B (env::outer) e cls a0 L h'∧s.heap.UpToSlots h') (E:=λ_ _=>False) z1 hf K0 λh' a b=>⟨h',rfl,a,b⟩)) (λ_ s'⟨⟨h',es,a,b⟩,cB⟩=>by subst es;exact eu h' a b cB) λ_ _ z=>z.1.elim
theorem ŧ(ef:QK B l e cls a0 L s.heap)(eu:∀h',q2 B l e cls a0 h'→s.heap.UpToSlots h'→hb s.heap h'→Q () {s with heap:=h'}):aX M A (N2 (.ref e) none) Q E s:=
 fa (E_ L4 (wpAny_landsW (Q:=λ_ s'=>∃h',s'={s with heap:=h'}∧q2 B l e cls a0 h'∧s.heap.UpToSlots h') (E:=λ_ _=>False) ef λh' a b=>⟨h',rfl,a,b⟩)) (λ_ s'⟨⟨h',es,a,b⟩,cB⟩=>by subst es;exact eu h' a b cB) λ_ _ z=>z.1.elim
theorem Ũ(ef:q2 B l e cls a0 s.heap)(eu:∀h',q2 B l e cls a0 h'→s.heap.UpToSlots h'→hb s.heap h'→Q () {s with heap:=h'}):aX M A (N2 (.ref e) none) Q E s:=
 fa (E_ L4 (lands_againW (Q:=λ_ s'=>∃h',s'={s with heap:=h'}∧q2 B l e cls a0 h'∧s.heap.UpToSlots h') (E:=λ_ _=>False) ef λh' a b=>⟨h',rfl,a,b⟩)) (λ_ s'⟨⟨h',es,a,b⟩,cB⟩=>by subst es;exact eu h' a b cB) λ_ _ z=>z.1.elim
end
theorem Om{K:a3}{a:Addr}{xs:List V}{g:ic}{cX:eY}{D:Ends}{σ:ai.St}{H:ae}(Pv:Nat→ai.St→ae→Prop)(h0:Pv 0 σ H)(ar:∀i σ H,Pv i σ H→aR K H a xs)(hs:∀i x σ H p,xs[i]?=some x→Pv i σ H→H p=none→g (.ref p) σ (upd H p (.tup [.int i,x])) λgZ ak=>cX {D with b':=Pv (i+1),fA:=Pv (i+1),gG:=D.b'} gZ ak)(hd:∀σ H,Pv xs.length σ H→D.b' σ H):
  ∃W:Nat→Nat→ai.St→ae→Prop,(∃m,W 0 m σ H)∧∀i m σ H,W i m σ H→
   ((pX K a).stop i H∧D.b' σ H)∨((pX K a).go i H∧∃N:ai.St→ae→Prop,(∀a6 H',N a6 H'→∃cR,cR<m∧W (i+1) cR a6 H')∧∀x H',(pX K a).ml i H x H'→g x σ H' λgZ ak=>cX {D with b':=N,fA:=N,gG:=D.b'} gZ ak):=by
 refine⟨λi m σ H=>m=xs.length-i∧i≤xs.length∧Pv i σ H,⟨xs.length,by simp,ea _,h0⟩,?_⟩
 rintro i m σ H ⟨rfl,aj,p⟩
 have q:=ar i σ H p
 by_cases bN:i<xs.length
 .refine .inr ⟨⟨xs,xs[i],q,by simp[bN]⟩,Pv (i+1),λa6 H' ip=>⟨xs.length-(i+1),by omega,rfl,bN,ip⟩,λv H' y=>?_⟩
  obtain⟨r,x,aw,rfl,ao,rfl⟩:=y
  exact hs i x σ H r (ao xs q) p aw
 .have e:i=xs.length:=by omega
  subst e
  exact .inl ⟨⟨xs,q,b1 _⟩,hd σ H p⟩
end cA
namespace fx
open PySem ai cA a'
inductive ZI(vs:(List ai.V))(H:ae)(Q:bk)(bF:cy):Prop where
 |mk (c:Int) (m:Nat) (b4:vs=[.int c,.int m]) (bL:m≤12) (cG:∀(p:Addr)(H':ae),H p=none→aP H H'→H' p=some (.lst (dr (qu c m)))→Q (.ref p) H')
noncomputable def Nu:cW:=λvs H Q bF=>ZI vs H Q bF
theorem ama{c:Int}{m:Nat}(h:m≤12):Good (qu c m):=⟨λx ao=>by
 obtain⟨k,_,rfl⟩:=bV.mp ao
 exact abZ c k,ZG h,by rw[Mh];exact h⟩
noncomputable def uU(c:Int)(k j:Nat):Int:=c/64+5*(0+(j:Int))*(0+(j:Int))+2*(0+(k:Int))*(if decide (V.int (0+(j:Int))=V.int (c/8%(1+c%8)))=true then 1 else 0)
theorem adQ(c:Int)(k j:Nat):97+(uU c k j%26).toNat=ik c k j:=by
 unfold uU ik
 rw[aaj c]
 by_cases h:j=fm c
 .subst h
  rw[aI rfl,aI (dp (by rw[sM])),sM,sM]
 .rw[aD h,aD (by rw[eF (λz=>h (by have:=V.int.inj z;omega))];exact fb),sM,sM]
theorem V5{α:Type}(f:Nat→α)(n:Nat):(c_ (n+1)).map f=(c_ n).map f++[f n]:=by rw[yu,ek];rfl
noncomputable def ltV(hs:List (List Nat))(d:a'.Lt):List ai.V:=[.str (S (hs.getD d.a [])),.int d.t,.str (S (hs.getD d.b []))]
inductive ũ(vs:(List ai.V))(H:ae)(Q:bk)(bF:cy):Prop where
 |mk (c b:Int) (a:Addr) (hs:List (List Nat)) (b4:vs=[.int c,.ref a,.int b]) (bL:H a=some (.lst (dr hs))) (cG:2≤hs.length) (c2:hs.length≤12) (dR:∀r,H r=none→Q (.ref r) (upd H r (.tup (ltV hs (lt hs.length c b)))))
noncomputable def GO:cW:=λvs H Q bF=>ũ vs H Q bF
section
variable{P:bT}{w:bJ}{K:a3}{aa:Str→Option Value}{base:Heap}
noncomputable abbrev xe:Stmt:=top 37
theorem afc:dT ["_law_script","_law_k"] ["_law_script","_law_k"] (dh xe):=⟨rfl,rfl,rfl,by decide+kernel,rfl,by decide+kernel,by decide+kernel⟩
theorem adR{f:Addr}{fd:cP}(F:b0 K "_law_cell_at" "_law_cell_at" xe f fd)(len:aa "len"=none):aY P w K aa base bu 1 f fd ["_law_script","_law_k"] (CP K):=by
 refine F.ok afc (λvs H Q E h=>?_) (λbC A outer s H vs Q E aw h=>?_)
 .obtain⟨a,ns,k,rfl,_⟩:=h
  rfl
 .obtain⟨a,ns,k,rfl,f7,h0,q⟩:=h
  refine⟨_,bO (f5 (gf Cn (ah 1) (gd mE (by rfl) len PySem.boot_len (aB (ah 0) a8)) (fu _)) (bW (dH (b9 gp (ah 0) (ah 1) (λ_ _=>rfl)))) f3) (bW (dH bl)),?_⟩
  refine⟨_,rfl,_,rfl,a,_,rfl,.inl f7,_,_,rfl,rfl,_,rfl,?_⟩
  refine H9 (λh=>?_) (λh=>?_)
  .have ag:=jM h
   exact⟨_,rfl,_,rfl,a,_,k,_,rfl,rfl,f7,ż h0 ag,q⟩
  .have ag:¬k<((ns.map V.int).length:Int):=λz=>h (dp z)
   rw[bc]at ag
   have e:ns.getD k.toNat 0=0:=by
    rw[cY,HD (by omega)]
    rfl
   rw[e]at q
   exact q
noncomputable abbrev AJ:Stmt:=top 38
noncomputable abbrev č:List Str:=["_law_cell","_law_many","_law_letters","_law_size","_law_at","_law_names","_law_k","_law_name","_law_j","_law_place"]
theorem pf:dT č ["_law_cell","_law_many"] (dh AJ):=⟨rfl,rfl,rfl,by decide+kernel,rfl,by decide+kernel,by decide+kernel⟩
theorem ZL{f:Addr}{fd:cP}(F:b0 K "_law_houses" "_law_houses" AJ f fd)(B:g4 aa):aY P w K aa base bu 1 f fd ["_law_cell","_law_many"] Nu:=by
 refine F.ok pf (λvs H Q E h=>?_) (λbC A outer s H vs Q E aw h=>?_)
 .obtain⟨c,m,rfl,_⟩:=h
  rfl
 .obtain⟨c,m,rfl,hm,q⟩:=h
  refine⟨_,(bO (dB (i:=2) pf.aE rfl (cC rfl) n_)
   (bO (dB (i:=3) pf.aE rfl (cC rfl) (cK ie bl (cK ht (ah 0) bl)))
   (bO (dB (i:=4) pf.aE rfl (cC rfl) (cK ht (cK lQ (ah 0) bl) (ah 3)))
   (bO (dB (i:=5) pf.aE rfl (cC rfl) (k7 a8))
   (bO (hV hF rfl (EO rfl B.range (aB (ah 1) a8)) (de (i:=6) pf.aE rfl (cC rfl))
    (bO (dB (i:=7) pf.aE rfl (cC rfl) n_)
   (bO (hV hF rfl (EO rfl B.range (aB (ah 3) a8)) (de (i:=8) pf.aE rfl (cC rfl))
    (bO (dB (i:=9) pf.aE rfl (cC rfl) (cK ie (cK ie (cK lQ (ah 0) bl) (cK qA (cK qA bl (ah 8)) (ah 8))) (cK qA (cK qA bl (ah 6)) (ro ς (by rfl) B.int QX (aB (mP l3 (ah 8) (ah 4) (fu _)) a8)))))
   (bW (dB (i:=7) pf.aE rfl (cC rfl) (cK Zi (ah 7) (b9 aca (ah 2) (cK ht (ah 9) bl) (λ_ _=>rfl)))))))
   (bW (iB (pH p4 p5 p6 nR (ah 5) (aB (ah 7) a8)))))))
   (bW (dH (ah 5)))))))),?_⟩
  have b4:=QU c
  have bL:=aai c
  refine⟨_,rfl,_,_,rfl,rfl,(by show(0:Int)<8;decide),_,_,rfl,rfl,?_⟩
  refine⟨_,rfl,_,_,rfl,rfl,⟨by decide,by decide⟩,_,rfl,_,_,rfl,rfl,(by show(0:Int)<1+c%8;omega),?_⟩
  refine⟨ea _,λp np=>⟨_,rfl,_,rfl,(by omega),(by omega),?_⟩⟩
  refine EP (lo:=0) (n:=m) (λk σ ak=>ak=upd H p (.lst (dr (qu c k)))∧∃a1 a2 ft hl,σ=[some (.int c),some (.int m),some (.str (lI "abcdefghijklmnopqrstuvwxyz")),some (.int (1+c%8)),some (.int (c/8%(1+c%8))),some (.ref p),a1,a2,ft,hl]) ⟨rfl,none,none,none,none,rfl⟩ ?_ ?_
  .rintro k σ ak aK ⟨rfl,a1,a2,ft,hl,rfl⟩
   refine⟨_,rfl,_,rfl,(by omega),(by omega),?_⟩
   refine EP (lo:=0) (n:=hsz c) (λj σ bD=>bD=upd H p (.lst (dr (qu c k)))∧∃d6 dC,σ=[some (.int c),some (.int m),some (.str (lI "abcdefghijklmnopqrstuvwxyz")),some (.int (1+c%8)),some (.int (c/8%(1+c%8))),some (.ref p),some (.int (0+(k:Int))),some (.str (S ((c_ j).map (ik c k)))),d6,dC]) ⟨rfl,ft,hl,rfl⟩ ?_ ?_
   .rintro j σ bD aN ⟨rfl,d6,dC,rfl⟩
    refine⟨_,rfl,_,_,rfl,rfl,⟨by decide,by decide⟩,_,rfl,_,_,rfl,rfl,.inl ⟨by decide,by decide⟩,_,rfl,_,_,rfl,rfl,.inr ⟨by show -(2 ^ 64)<0+(j:Int);omega,by show 0+(j:Int)<2 ^ 64;omega⟩,_,_,rfl,rfl,_,rfl,_,_,rfl,rfl,.inl ⟨by decide,by decide⟩,_,rfl,_,rfl,rfl,.inr ⟨_,rfl,_,_,rfl,rfl,.inl ⟨by show -(2 ^ 64)<2*(0+(k:Int));omega,by show 2*(0+(k:Int))<2 ^ 64;omega⟩,_,_,rfl,rfl,?_⟩⟩
    have k1:0≤uU c k j%26:=jR _ (by decide)
    have k2:uU c k j%26<26:=j_ _ (by decide)
    have gy:(⟨#[97+(uU c k j%26).toNat]⟩:Str).length=1:=rfl
    refine⟨_,rfl,_,rfl,_,rfl,_,_,rfl,rfl,(by show(0:Int)<26;decide),_,_,_,rfl,rfl,(by decide+kernel),ì k1 k2,_,_,rfl,rfl,?_,rfl,some (.int (0+(j:Int))),some (.int (uU c k j)),?_⟩
    .rw[B1,bc,hi]
     show j+1≤sizeLine
     exact sW (fh (by omega))
    .rw[V5,←adL,←adQ]
     rfl
   .rintro σ bD ⟨rfl,d6,dC,rfl⟩
    refine⟨_,rfl,.inl ⟨rfl,_,aR.of a4⟩,_,rfl,p,_,_,rfl,rfl,a4,fh (by rw[wK,Mh];omega),?_,_,_,_,_,rfl⟩
    rw[P0]
    unfold qu
    rw[V5]
    unfold dr
    rw[ek]
    rfl
  .rintro σ ak ⟨rfl,a1,a2,ft,hl,rfl⟩
   exact⟨_,rfl,q p _ np (cH np) a4⟩
noncomputable abbrev BP:Stmt:=top 40
noncomputable abbrev adS:List Str:=["_law_cell","_law_names","_law_base","_law_n","_law_many","_law_first","_law_last"]
theorem Bu:dT adS ["_law_cell","_law_names","_law_base"] (dh BP):=⟨rfl,rfl,rfl,by decide+kernel,rfl,by decide+kernel,by decide+kernel⟩
theorem Ū{f:Addr}{fd:cP}(F:b0 K "_law_letter" "_law_letter" BP f fd)(B:g4 aa):aY P w K aa base bu 1 f fd ["_law_cell","_law_names","_law_base"] GO:=by
 refine F.ok Bu (λvs H Q E h=>?_) (λbC A outer s H vs Q E aw h=>?_)
 .obtain⟨c,b,a,hs,rfl,_⟩:=h
  rfl
 .obtain⟨c,b,a,hs,rfl,aH,af,v5,q⟩:=h
  refine⟨_,(bO (dB (i:=3) Bu.aE rfl (cC rfl) (cK ht (cK qA (ah 0) bl) bl))
   (bO (dB (i:=4) Bu.aE rfl (cC rfl) (gd mE (by rfl) B.len lV (aB (ah 1) a8)))
   (bO (dB (i:=5) Bu.aE rfl (cC rfl) (cK ht (ah 3) (ah 4)))
   (bO (dB (i:=6) Bu.aE rfl (cC rfl) (cK ht (cK ie (cK ie (ah 5) bl) (cK ht (cK lQ (ah 3) (ah 4)) (cK Gx (ah 4) bl))) (ah 4)))
   (bW (dH (hu (aB (b9 gp (ah 1) (ah 5) (λ_ _=>rfl)) (aB (cK ie (ah 2) (cK ht (cK lQ (ah 3) bl) bl)) (aB (b9 gp (ah 1) (ah 6) (λ_ _=>rfl)) a8)))))))))),?_⟩
  have ar:=wK hs
  have d6:0≤lg hs.length c:=jR _ (by omega)
  have dC:lg hs.length c<hs.length:=j_ _ (by omega)
  have av:0≤lend hs.length c:=jR _ (by omega)
  have ay:lend hs.length c<hs.length:=j_ _ (by omega)
  refine⟨_,rfl,_,_,rfl,rfl,.inr ⟨by decide,by decide⟩,_,_,rfl,rfl,(by show(0:Int)<10000000000037;decide),?_⟩
  refine⟨_,rfl,a,_,rfl,.inl (aR.of aH),?_⟩
  rw[ar]
  refine⟨_,rfl,_,rfl,_,_,rfl,rfl,(by show(0:Int)<(hs.length:Int);omega),?_⟩
  refine⟨_,rfl,_,_,rfl,rfl,_,rfl,_,rfl,_,_,rfl,rfl,⟨by show(0:Int)<(hs.length:Int);omega,by show(hs.length:Int)<1073741824;omega⟩,_,rfl,_,_,rfl,rfl,_,_,rfl,rfl,(by show(0:Int)<(hs.length:Int)-1;omega),_,_,rfl,rfl,_,rfl,_,_,rfl,rfl,(by show(0:Int)<(hs.length:Int);omega),?_⟩
  refine⟨_,rfl,_,rfl,a,_,_,_,rfl,rfl,aR.of aH,Gh (k:=lg hs.length c) d6 dC,_,rfl,_,rfl,_,_,rfl,rfl,⟨by decide,by decide⟩,_,_,rfl,rfl,(by show(0:Int)<31;decide),_,_,rfl,rfl,_,rfl,_,rfl,a,_,_,_,rfl,rfl,aR.of aH,Gh (k:=lend hs.length c) av ay,(by show 3≤sizeLine;decide),q⟩
end
open PySem ai cA a'
section
variable{P:bT}{w:bJ}{K:a3}{aa:Str→Option Value}{base:Heap}
noncomputable abbrev Bv:Stmt:=top 8
noncomputable abbrev A0:Stmt:=top 9
noncomputable abbrev Bw:Stmt:=top 10
noncomputable abbrev tS:Stmt:=top 11
noncomputable abbrev BQ:Stmt:=top 25
noncomputable abbrev BR:Stmt:=top 26
noncomputable abbrev BS:Stmt:=top 27
noncomputable abbrev BU:Stmt:=top 28
theorem ū:dT ["thing"] ["thing"] (dh Bv):=⟨rfl,rfl,rfl,by decide+kernel,rfl,by decide+kernel,by decide+kernel⟩
theorem Ď{f:Addr}{fd:cP}(F:b0 K "is_whole" "is_whole" Bv f fd)(B:g4 aa)(KT:Ri K):aY P w K aa base bu 1 f fd ["thing"] Pa:=by
 refine F.ok ū (λvs H Q E h=>?_) (λbC A outer s H vs Q E aw h=>?_)
 .obtain⟨i,rfl,_⟩:=h
  rfl
 .obtain⟨i,rfl,q⟩:=h
  refine⟨_,(bW (dH (m1 (gd wk (by rfl) B.isinstance vF (aB (ah 0) (aB (xb (by rfl) B.int QX) a8))) (qx (PP (gd wk (by rfl) B.isinstance vF (aB (ah 0) (aB (xb (by rfl) B.bool Ż) a8)))))))),?_⟩
  refine⟨_,rfl,_,_,_,_,_,rfl,⟨rfl,.int _,Bl _ _⟩,_,rfl,j7 ?_⟩
  exact⟨_,rfl,_,_,_,_,_,rfl,⟨rfl,.int _,KT.aV⟩,_,rfl,q⟩
theorem ď:dT ["thing","least","greatest"] ["thing","least","greatest"] (dh A0):=⟨rfl,rfl,rfl,by decide+kernel,rfl,by decide+kernel,by decide+kernel⟩
theorem ξ{f TP:Addr}{fd TY:cP}(F:b0 K "is_whole_within" "is_whole_within" A0 f fd)(Ao:dS K aa "is_whole" Bv ["thing"] TP TY)(M0:aY P w K aa base bu 1 TP TY ["thing"] Pa):aY P w K aa base bu 2 f fd ["thing","least","greatest"] NX:=by
 refine F.ok ď (λvs H Q E h=>?_) (λbC A outer s H vs Q E aw h=>?_)
 .obtain⟨i,a,b,rfl,_⟩:=h
  rfl
 .obtain⟨i,a,b,rfl,ag,af,q⟩:=h
  refine⟨_,(bW (dH (m1 (fT M0 (aw.mono (by decide)) (by rfl) Ao.at_ Ao.fn.cN Ao.bd .nil dI (aB (ah 0) a8)) (qx (YE uj uj (ah 1) (ah 0) (ah 2)))))),?_⟩
  refine⟨_,rfl,_,rfl,_,rfl,j7 ?_⟩
  exact⟨_,rfl,_,rfl,_,_,rfl,rfl,_,rfl,f6 (dp ag) ⟨_,rfl,_,_,rfl,rfl,uq (dp af) q⟩⟩
theorem aaz:dT ["thing","length"] ["thing","length"] (dh Bw):=⟨rfl,rfl,rfl,by decide+kernel,rfl,by decide+kernel,by decide+kernel⟩
theorem Đ{f:Addr}{fd:cP}(F:b0 K "is_tuple_of" "is_tuple_of" Bw f fd)(B:g4 aa):aY P w K aa base bu 1 f fd ["thing","length"] ww:=by
 refine F.ok aaz (λvs H Q E h=>?_) (λbC A outer s H vs Q E aw h=>?_)
 .obtain⟨r,xs,n,rfl,_⟩:=h
  rfl
 .obtain⟨r,xs,n,rfl,ag,af,q⟩:=h
  refine⟨_,(bW (dH (m1 (gd wk (by rfl) B.isinstance vF (aB (ah 0) (aB (xb (by rfl) B.tuple YZ) a8))) (qx (mP l3 (gd mE (by rfl) B.len lV (aB (ah 0) a8)) (ah 1) (fu _)))))),?_⟩
  refine⟨_,rfl,_,_,_,_,_,rfl,⟨rfl,.tup ag,Bl _ _⟩,_,rfl,j7 ?_⟩
  exact⟨_,rfl,r,_,rfl,.inr (b2.of ag),_,rfl,rfl,uq (dp (eK V.int af)) q⟩
theorem YH:dT ["houses","one","other"] ["houses","one","other"] (dh tS):=⟨rfl,rfl,rfl,by decide+kernel,rfl,by decide+kernel,by decide+kernel⟩
theorem ο{f:Addr}{fd:cP}(F:b0 K "are_unlike_houses" "are_unlike_houses" tS f fd):aY P w K aa base bu 1 f fd ["houses","one","other"] (Ox K):=by
 refine F.ok YH (λvs H Q E h=>?_) (λbC A outer s H vs Q E aw h=>?_)
 .obtain⟨a,ys,x,y,rfl,_⟩:=h
  rfl
 .obtain⟨a,ys,x,y,rfl,f7,ao,aT,ne,q⟩:=h
  refine⟨_,(bW (dH (m1 (mP Nc (ah 1) (ah 0) (by rfl)) (m1 (mP Nc (ah 2) (ah 0) (by rfl)) (qx (mP rY (ah 1) (ah 2) (fu _))))))),?_⟩
  refine⟨_,rfl,_,rfl,a,_,rfl,.inl f7,rfl,ER ys,_,rfl,f6 (Fw ao) ?_⟩
  refine⟨_,rfl,_,rfl,a,_,rfl,.inl f7,rfl,ER ys,_,rfl,f6 (Fw aT) ?_⟩
  refine⟨_,rfl,_,rfl,rfl,uq ?_ q⟩
  rw[eF (λz=>ne (V.str.inj z))]
  rfl
theorem ab3:dT ["thing"] ["thing"] (dh BQ):=⟨rfl,rfl,rfl,by decide+kernel,rfl,by decide+kernel,by decide+kernel⟩
theorem aaA{f:Addr}{fd:cP}(F:b0 K "is_name" "is_name" BQ f fd)(B:g4 aa)(lA:ya aa):aY P w K aa base bu 1 f fd ["thing"] GG:=by
 refine F.ok ab3 (λvs H Q E h=>?_) (λbC A outer s H vs Q E aw h=>?_)
 .obtain⟨l,rfl,_⟩:=h
  rfl
 .obtain⟨l,rfl,fl,q⟩:=h
  refine⟨_,(bO (f5 (kU.pt (Cj (pC (mZ (gd wk (by rfl) B.isinstance vF (aB (ah 0) (aB (xb (by rfl) B.str abT) a8))))) (F9 (pC (NG uj uj bl (gd al0 (by rfl) B.len lV (aB (ah 0) a8)) (Az (by rfl) lA.ų)))))) (bW (dH jl)) f3)
   (bW (dH (gd (Od rfl) (by rfl) B.Jr GF (aB (qE (N':=["sign"]) (cs:=[none]) rfl (aci (ah 0)) rfl (by decide+kernel) rfl (by decide+kernel) (jj (λp aQ=>bB aQ (eB))) rfl
    (.own .nil)
    (λC s3 bD cu ey=>⟨(de (i:=0) (by show(["sign"]:List Str).Nodup;decide+kernel) rfl (.inl rfl)),nZ,(YE XS XS n_ (ah 0) n_)⟩)) a8))))),?_⟩
  have ar:=B1 l
  have bQ:(S l).length≤sizeLine:=sW (fh (by rw[ar];have:=fl.2.1;omega))
  have ag:(1:Int)≤((S l).length:Int):=by have:=fl.1;omega
  have Ki:((S l).length:Int)≤8:=by have:=fl.2.1;omega
  refine⟨_,rfl,_,_,_,_,_,rfl,⟨rfl,.str _,Bl _ _⟩,_,rfl,ky ?_⟩
  refine⟨_,rfl,_,rfl,bQ,_,_,rfl,rfl,_,rfl,f6 (dp ag) ⟨_,_,rfl,rfl,_,rfl,Hd Ki ?_⟩⟩
  dsimp only[Cm,x6,Ck,uw,xo]
  refine Fv (J:=CC (S l)) (H1:=H) (xs:=signs (S l)) (rest:=[]) (λR h=>⟨_,rfl,_,rfl,h⟩) rfl (ach _) (fh ?_) (λ_=>.bo true) (λi x ak R ex aC cL=>?_) (λD H' ag af aU=>?_)
  .rw[Qk,bc]
   have:=fl.2.1
   omega
  .rw[Qk]at ex
   obtain⟨k,aK,rfl⟩:=bV.mp (eI ex)
   have Vp:=fl.2.2 k aK
   have av:(!decide ((S [k]).cps.toList<(lI "a").cps.toList))=true:=by
    rw[akZ]
    exact(QH k 97).trans (dp Vp.1)
   have ay:(!decide ((lI "z").cps.toList<(S [k]).cps.toList))=true:=by
    rw[ak1]
    exact(QH 122 k).trans (dp Vp.2)
   exact⟨_,rfl,_,_,rfl,rfl,_,rfl,f6 av ⟨_,_,rfl,rfl,uq ay (cL ak (aP.refl _))⟩⟩
  .exact⟨D,yv (signs (S l)).length true,rfl,aR.of (by rw[af,NV]),uq (NW _) (q H' aU)⟩
theorem ab4:dT ["things"] ["things"] (dh BR):=⟨rfl,rfl,rfl,by decide+kernel,rfl,by decide+kernel,by decide+kernel⟩
theorem aaB{f zh:Addr}{fd zB:cP}(F:b0 K "are_houses" "are_houses" BR f fd)(B:g4 aa)(lA:ya aa)(Al:dS K aa "is_name" BQ ["thing"] zh zB)(Nv:aY P w K aa base bu 1 zh zB ["thing"] GG):
  aY P w K aa base bu 2 f fd ["things"] GH:=by
 refine F.ok ab4 (λvs H Q E h=>?_) (λbC A outer s H vs Q E aw h=>?_)
 .obtain⟨a,hs,rfl,_⟩:=h
  rfl
 .obtain⟨a,hs,rfl,aH,mR,q⟩:=h
  refine⟨_,(bO (f5 (kU.pt (Cj (pC (mZ (gd wk (by rfl) B.isinstance vF (aB (ah 0) (aB (xb (by rfl) B.list tR) a8))))) (F9 (gf Ha (gd mE (by rfl) B.len lV (aB (ah 0) a8)) (Az (by rfl) lA.Ű) (fu _))))) (bW (dH jl)) f3)
   (bW (dH (m1 (gd (Od rfl) (by rfl) B.Jr GF (aB (qE (N':=["thing"]) (cs:=[none]) rfl (hn (ah 0)) rfl (by decide+kernel) rfl (by decide+kernel) (jj (λp aQ=>bB aQ (eB))) rfl
    (.own .nil)
    (λC s3 bD cu ey=>⟨(de (i:=0) (by show(["thing"]:List Str).Nodup;decide+kernel) rfl (.inl rfl)),nZ,(fT Nv (aw.mono (by decide)) (by rfl) Al.at_ Al.fn.cN Al.bd .nil dI (aB (ah 0) a8))⟩)) a8)) (qx (mP l3 (gd alN (by rfl) B.len lV (aB (ro (Ñ rfl) (by rfl) B.ak7 abU (aB (ah 0) a8)) a8)) (gd mE (by rfl) B.len lV (aB (ah 0) a8)) (fu _))))))),?_⟩
  have ar:=wK hs
  have hf:=mR.cM
  refine⟨_,rfl,_,_,_,_,_,rfl,⟨rfl,.lst aH,Bl _ _⟩,_,rfl,ky ?_⟩
  refine⟨_,rfl,a,_,rfl,.inl (aR.of aH),_,_,rfl,rfl,_,rfl,gh (eF (by omega)) ?_⟩
  dsimp only[Cm,x6,Ck,uw,xo]
  refine Fv (J:=jc K a) (H1:=H) (xs:=dr hs) (rest:=[]) (λR h=>⟨_,rfl,a,rfl,⟨_,aR.of aH⟩,h⟩) rfl (n0 (aR.of aH)) (fh (by omega)) (λ_=>.bo true) (λi x ak R ex aC cL=>?_) (λD H' ag af aU=>?_)
  .obtain⟨l,K7,rfl⟩:=bV.mp (eI ex)
   exact⟨_,rfl,l,rfl,mR.nm l K7,λH' nq=>cL H' nq⟩
  .refine⟨D,yv (dr hs).length true,rfl,aR.of (by rw[af,NV]),_,rfl,f6 (NW _) ?_⟩
   have rD:=aU _ _ aH
   refine⟨_,rfl,a,hs.map S,rfl,aR.of (by rw[rD,ON]),(by rw[bc];omega),λp aQ=>?_⟩
   have s2:aP H' (upd H' p (CD P w p (l_ (λi=>(hs.map S).getD i jW) (hs.map S).length))):=cH aQ
   refine⟨p,_,rfl,a4,_,rfl,a,_,rfl,.inl (aR.of (s2 _ _ rD)),rfl,uq (dp ?_) (q _ (aU.trans s2))⟩
   rw[YU _ _ (ž mR.aE),bc,ar]
theorem ab5:dT ["houses","thing"] ["houses","thing"] (dh BS):=⟨rfl,rfl,rfl,by decide+kernel,rfl,by decide+kernel,by decide+kernel⟩
theorem aaC{f f1 f2 dc:Addr}{fd fv gw nY:cP}(F:b0 K "is_road" "is_road" BS f fd)(lA:ya aa)(ze:dS K aa "is_tuple_of" Bw ["thing","length"] f1 fv)(L3:aY P w K aa base bu 1 f1 fv ["thing","length"] ww)(o8:dS K aa "are_unlike_houses" tS ["houses","one","other"] f2 gw)(yV:aY P w K aa base bu 1 f2 gw ["houses","one","other"] (Ox K))(ra:dS K aa "is_whole_within" A0 ["thing","least","greatest"] dc nY)(Df:aY P w K aa base bu 2 dc nY ["thing","least","greatest"] NX):
  aY P w K aa base bu 3 f fd ["houses","thing"] (GK K):=by
 refine F.ok ab5 (λvs H Q E h=>?_) (λbC A outer s H vs Q E aw h=>?_)
 .obtain⟨a,r,hs,d,rfl,_⟩:=h
  rfl
 .obtain⟨a,r,hs,d,rfl,f7,aE,ok,lZ,q⟩:=h
  refine⟨_,(bW (dH (m1 (fT L3 (aw.mono (by decide)) (by rfl) ze.at_ ze.fn.cN ze.bd .nil dI (aB (ah 1) (aB bl a8))) (m1 (fT yV (aw.mono (by decide)) (by rfl) o8.at_ o8.fn.cN o8.bd .nil dI (aB (ah 0) (aB (b9 d2 (ah 1) bl (λ_ _=>rfl)) (aB (b9 d2 (ah 1) bl (λ_ _=>rfl)) a8)))) (m1 (fT Df (aw.mono (by decide)) (by rfl) ra.at_ ra.fn.cN ra.bd .nil dI (aB (b9 d2 (ah 1) bl (λ_ _=>rfl)) (aB bl (aB (Az (by rfl) lA.Ŵ) a8)))) (qx (fT Df (aw.mono (by decide)) (by rfl) ra.at_ ra.fn.cN ra.bd .nil dI (aB (b9 d2 (ah 1) bl (λ_ _=>rfl)) (aB bl (aB (Az (by rfl) lA.Ų) a8)))))))))),?_⟩
  have zO:aR K H a ((hs.map S).map V.str):=by rw[←ON];exact f7
  refine⟨_,rfl,r,_,_,rfl,lZ,rfl,_,rfl,j7 ?_⟩
  refine⟨_,rfl,_,rfl,r,_,_,_,rfl,rfl,b2.of lZ,rfl,_,rfl,r,_,_,_,rfl,rfl,b2.of lZ,rfl,a,hs.map S,_,_,rfl,zO,oa ok.a,oa ok.b,adM aE ok.a ok.b ok.ne,_,rfl,j7 ?_⟩
  refine⟨_,rfl,r,_,_,_,rfl,rfl,b2.of lZ,rfl,_,_,_,rfl,ok.t.1,ok.t.2,_,rfl,j7 ?_⟩
  exact⟨_,rfl,r,_,_,_,rfl,rfl,b2.of lZ,rfl,_,_,_,rfl,ok.m.1,ok.m.2,q⟩
theorem ab6:dT ["houses","things"] ["houses","things"] (dh BU):=⟨rfl,rfl,rfl,by decide+kernel,rfl,by decide+kernel,by decide+kernel⟩
theorem aaD{f zh:Addr}{fd zB:cP}(F:b0 K "are_roads" "are_roads" BU f fd)(B:g4 aa)(lA:ya aa)(Am:dS K aa "is_road" BS ["houses","thing"] zh zB)(Nw:aY P w K aa base bu 3 zh zB ["houses","thing"] (GK K)):
  aY P w K aa base bu 4 f fd ["houses","things"] (GL K):=by
 refine F.ok ab6 (λvs H Q E h=>?_) (λbC A outer s H vs Q E aw h=>?_)
 .obtain⟨a,b,hs,rs,ds,rfl,_⟩:=h
  rfl
 .obtain⟨a,b,hs,rs,ds,rfl,aH,aE,U,cL,cM,q⟩:=h
  refine⟨_,(bO (f5 (kU.pt (Cj (pC (mZ (gd wk (by rfl) B.isinstance vF (aB (ah 1) (aB (xb (by rfl) B.list tR) a8))))) (F9 (gf Ha (gd mE (by rfl) B.len lV (aB (ah 1) a8)) (Az (by rfl) lA.ű) (fu _))))) (bW (dH jl)) f3)
   (bW (dH (gd (Od rfl) (by rfl) B.Jr GF (aB (qE (N':=["thing","houses"]) (cs:=[none,some 0]) rfl (hn (ah 1)) rfl (by decide+kernel) rfl (by decide+kernel) (jj (jT.mpr ⟨rfl,(λp aQ=>bB aQ (eB))⟩)) rfl
    (.own (.iW rfl (.inl rfl) (.inl rfl) rfl .nil))
    (λC s3 bD cu ey=>⟨(de (i:=0) (by show(["thing","houses"]:List Str).Nodup;decide+kernel) rfl (.inl rfl)),nZ,(fT Nw (aw.mono (by decide)) (by rfl) Am.at_ Am.fn.cN Am.bd .nil dI (aB (ah 1) (aB (ah 0) a8)))⟩)) a8))))),?_⟩
  have ar:=fS rs
  refine⟨_,rfl,_,_,_,_,_,rfl,⟨rfl,.lst U,Bl _ _⟩,_,rfl,ky ?_⟩
  refine⟨_,rfl,b,_,rfl,.inl (aR.of U),_,_,rfl,rfl,_,rfl,gh (eF (by omega)) ?_⟩
  dsimp only[Cm,x6,Ck,uw,xo]
  refine Fv (J:=jc K b) (H1:=H) (xs:=aL rs) (rest:=[some (.ref a)]) (λR h=>⟨_,rfl,b,rfl,⟨_,aR.of U⟩,h⟩) rfl (n0 (aR.of U)) (fh (by omega)) (λ_=>.bo true) (λi x ak R ex aC qr=>?_) (λD H' ag af aU=>?_)
  .unfold aL at ex
   rw[b8]at ex
   obtain⟨r,dK,rfl⟩:=eh.mp ex
   obtain⟨d,_,ok,hd⟩:=cL.get dK
   exact⟨_,rfl,_,rfl,a,r,hs,d,rfl,aC.seq aH,aE,ok,aC _ _ hd,qr ak (aP.refl _)⟩
  .exact⟨D,yv (aL rs).length true,rfl,aR.of (by rw[af,NV]),uq (NW _) (q H' aU)⟩
noncomputable abbrev BV:Stmt:=iH (top 31) 0
noncomputable abbrev wo:Stmt:=iH (top 31) 1
noncomputable abbrev AW:Stmt:=iH (top 31) 2
theorem abI:dT ["self","houses","roads"] ["self","houses","roads"] (dh BV):=⟨rfl,rfl,rfl,by decide+kernel,rfl,by decide+kernel,by decide+kernel⟩
theorem aaE{C f TN TO:Addr}{fd TU TX:cP}(F:b0 K "__init__" "Net.__init__" BV f fd)(B:g4 aa)(fq:sq K C)(zG:dS K aa "are_houses" BR ["things"] TN TU)(L5:aY P w K aa base bu 2 TN TU ["things"] GH)(Ag:dS K aa "are_roads" BU ["houses","things"] TO TX)(My:aY P w K aa base bu 4 TO TX ["houses","things"] (GL K)):
  aY P w K aa base bu 5 f fd ["self","houses","roads"] (GN K C):=by
 refine F.ok abI (λvs H Q E h=>?_) (λbC A outer s H vs Q E aw h=>?_)
 .obtain⟨x,au,a,b,hs,rs,ds,rfl,_⟩:=h
  rfl
 .obtain⟨x,au,a,b,hs,rs,ds,rfl,ao,aH,mR,U,cL,cM,q⟩:=h
  refine⟨_,(bO (f5 (pC (mZ (fT L5 (aw.mono (by decide)) (by rfl) zG.at_ zG.fn.cN zG.bd .nil dI (aB (ah 1) a8)))) (bW ND) f3)
   (bO (f5 (pC (mZ (fT My (aw.mono (by decide)) (by rfl) Ag.at_ Ag.fn.cN Ag.bd .nil dI (aB (ah 1) (aB (ah 2) a8))))) (bW ND) f3)
   (bO (t2 (ah 0) (ro zF (by rfl) B.list tR (aB (ah 1) a8)) rfl)
   (bW (t2 (ah 0) (ro zF (by rfl) B.list tR (aB (ah 2) a8)) rfl))))),?_⟩
  refine⟨_,rfl,a,hs,rfl,aH,mR,λH1 s1=>⟨_,rfl,ky ?_⟩⟩
  refine⟨_,rfl,_,rfl,a,b,hs,rs,ds,rfl,aR.of (s1 _ _ aH),mR.aE,s1 _ _ U,cL.same s1,cM,λak s2=>⟨_,rfl,ky ?_⟩⟩
  have hc:=s1.trans s2
  refine⟨_,rfl,a,_,rfl,.inl (aR.of (hc _ _ aH)),λbx rD=>?_⟩
  have s3:aP ak (upd ak bx (.lst (dr hs))):=cH rD
  have oy:=hc.trans s3
  have b':x≠bx:=dg (hc _ _ ao) rD
  refine⟨_,rfl,x,C,au,_,rfl,oy _ _ ao,fq.cl,fq.MP,(by decide),?_⟩
  have aie:b≠x:=λe=>by rw[e,ao]at U;cases U
  have aia:upd (upd ak bx (.lst (dr hs))) x (.ins C au (i6 "kept_houses" (.ref bx) [])) b=some (.lst (aL rs)):=by
   rw[aG aie]
   exact oy _ _ U
  refine⟨_,rfl,b,_,rfl,.inl (aR.of aia),λaZ cJ=>?_⟩
  have ub:aZ≠x:=λe=>by rw[e,a4]at cJ;cases cJ
  have nb:aZ≠bx:=λe=>by rw[e,aG b'.symm,a4]at cJ;cases cJ
  refine⟨_,rfl,x,C,au,_,rfl,(by rw[aG ub.symm,a4]),fq.cl,fq.fL,(by show 1<1000;decide),?_⟩
  refine q _ bx aZ (λc o aF iF=>?_) (by rw[a4];rfl) ?_ ?_ ?_ ?_
  .rw[aG aF]
   have:c≠aZ:=λe=>by
    rw[←e,aG aF,oy _ _ iF]at cJ
    cases cJ
   rw[aG this,aG aF]
   exact oy _ _ iF
  .rw[aG b'.symm,aG nb.symm,aG b'.symm,a4]
  .rw[aG ub,a4]
  .exact hc.free rD
  .rw[aG ub,aG nb]at cJ
   exact hc.free cJ
theorem Ο:dT ["self"] ["self"] (dh wo):=⟨rfl,rfl,rfl,by decide+kernel,rfl,by decide+kernel,by decide+kernel⟩
theorem đ:dT ["self"] ["self"] (dh AW):=⟨rfl,rfl,rfl,by decide+kernel,rfl,by decide+kernel,by decide+kernel⟩
theorem ZM{C f:Addr}{fd:cP}(F:b0 K "houses" "Net.houses" wo f fd)(B:g4 aa)(fq:sq K C):aY P w K aa base bu 1 f fd ["self"] (ES C):=by
 refine F.ok Ο (λvs H Q E h=>?_) (λbC A outer s H vs Q E aw h=>?_)
 .obtain⟨x,bx,aZ,xs,ys,rfl,_⟩:=h
  rfl
 .obtain⟨x,bx,aZ,xs,ys,rfl,n,q⟩:=h
  obtain⟨au,ao⟩:=n.ins
  refine⟨_,(bW (dH (ro zF (by rfl) B.list tR (aB (ha (ah 0) (by rfl)) a8)))),?_⟩
  exact⟨_,rfl,x,C,au,_,_,rfl,ao,fq.cl,fq.MP,rfl,bx,_,rfl,.inl (aR.of n.Ld),q⟩
theorem Ρ{C f:Addr}{fd:cP}(F:b0 K "roads" "Net.roads" AW f fd)(B:g4 aa)(fq:sq K C):aY P w K aa base bu 1 f fd ["self"] (Oi C):=by
 refine F.ok đ (λvs H Q E h=>?_) (λbC A outer s H vs Q E aw h=>?_)
 .obtain⟨x,bx,aZ,xs,ys,rfl,_⟩:=h
  rfl
 .obtain⟨x,bx,aZ,xs,ys,rfl,n,q⟩:=h
  obtain⟨au,ao⟩:=n.ins
  refine⟨_,(bW (dH (ro zF (by rfl) B.list tR (aB (ha (ah 0) (by rfl)) a8)))),?_⟩
  exact⟨_,rfl,x,C,au,_,_,rfl,ao,fq.cl,fq.fL,rfl,aZ,_,rfl,.inl (aR.of n.r7),q⟩
end
open PySem ai cA a'
theorem aaF{wi:TI}{cs:List (Option Nat)}{bY:TE}{σ rest:ai.St}{H H1:ae}{Q:bk}{J:e7}{xs:List ai.V}(hw:∀R:e7→ae→Prop,R J H1→wi σ H R)(gx:gO cs σ=none::rest)(iO:mC J H1 xs)(ar:xs.length<sizeLine)(f:ai.V→List ai.V)(elt:∀(i:Nat)(x:ai.V)(ak:ae)(R:bk),xs[i]?=some x→aP H1 ak→(∀r bU,aP ak bU→bU r=some (.tup (f x))→R (.ref r) bU)→bY (some x::rest) ak R)(fin:∀(D:Addr)(H':ae)(rs:List Addr),H1 D=none→H' D=some (.lst (aL rs))→dn H' rs (xs.map f)→aP H1 H'→Q (.ref D) H'):kI wi cs (gr 0) qR bY σ H Q:=by
 refine hw _ λD cq=>?_
 refine⟨λi m ys a6 H'=>m=xs.length-i∧i≤xs.length∧(∃rs,ys=aL rs∧dn H' rs ((xs.take i).map f))∧(∃o,a6=o::rest)∧aP H1 H'∧H' D=some (.lst ys),⟨xs.length,by simp,ea _,⟨[],rfl,.nil⟩,⟨none,gx⟩,λb o e=>?_,a4⟩,?_⟩
 .rw[aG (dg e cq)]
  exact e
 .rintro i m ys a6 H' ⟨rfl,aj,⟨rs,rfl,di⟩,⟨o,rfl⟩,aC,et⟩
  obtain⟨fP,fD,hO⟩:=iO H' aC
  have ln:=di.len
  rw[bc,gb,RR aj]at ln
  refine⟨et,lG (by rw[fS];omega) ar,?_⟩
  by_cases bN:i<xs.length
  .refine .inr ⟨fD i bN,λx ak y=>?_⟩
   obtain⟨rfl,ex⟩:=hO i x ak bN y
   have a5:xs.take (i+1)=xs.take i++[x]:=by rw[kR,ex];rfl
   show bY (some x::rest) ak _
   refine elt i x ak _ ex aC λr bU s5 aw=>⟨s5 _ _ et,xs.length-(i+1),by omega,rfl,bN,⟨rs++[r],p_ rs r,?_⟩,⟨_,rfl⟩,λb ob e=>?_,a4⟩
   .rw[a5,ek]
    exact dn.upd (Paired.snoc (F:=λr d=>bU r=some (.tup d)) aw (di.same s5)) (s5 _ _ et) (by intro d z;cases z)
   .rw[aG (dg e cq)]
    exact s5 _ _ (aC _ _ e)
  .have e:i=xs.length:=by omega
   subst e
   rw[ka]at di
   exact .inl ⟨fP,fin D H' rs cq et di aC⟩
theorem YI{K:a3}{wi:TI}{cs:List (Option Nat)}{bY:TE}{σ rest:ai.St}{H Hs:ae}{Q:bk}{xs:List ai.V}(hw:∀R:e7→ae→Prop,(∀p,Hs p=none→R (jc K p) (upd Hs p (.lst xs)))→wi σ H R)(gx:gO cs σ=none::rest)(ar:xs.length<sizeLine)(f:ai.V→List ai.V)(elt:∀(i:Nat)(x:ai.V)(ak:ae)(R:bk),xs[i]?=some x→aP Hs ak→(∀r bU,aP ak bU→bU r=some (.tup (f x))→R (.ref r) bU)→bY (some x::rest) ak R)(fin:∀(D:Addr)(H':ae)(rs:List Addr),H' D=some (.lst (aL rs))→dn H' rs (xs.map f)→aP Hs H'→Q (.ref D) H'):kI wi cs (gr 0) qR bY σ H Q:=
 hw _ λp aQ=>aaF (wi:=λ_ _ R=>R (jc K p) (upd Hs p (.lst xs))) (H:=Hs) (λR h=>h) gx (n0 (aR.of a4)) ar f (λi x ak R ex aC k=>elt i x ak R ex ((cH aQ).trans aC) k) λD H' rs _ af aU bP=>fin D H' rs af aU ((cH aQ).trans bP)
theorem Qn(x y:Str):je (.str x) (.str y)=decide (x=y):=by
 by_cases h:x=y
 .subst h;rw[dp rfl];simp[je]
 .rw[eF h];simp[je,h]
theorem OT{hs:List (List Nat)}{k:Nat}(h:k<hs.length):inD (.str (S (hs.getD k []))) (cq hs)=true:=by
 unfold inD cq
 rw[oV]
 have hm:hs.getD k []∈hs:=by rw[cY,cg h];exact eg h
 exact⟨_,bV.mpr ⟨_,bV.mpr ⟨_,hm,rfl⟩,rfl⟩,by rw[Qn];exact dp rfl⟩
theorem adT{ds:List PyData}{n:Nat}(h:∀d∈ds,d.depth≤n):(PyData.list ds).depth≤n+1:=aaw (XW h)
end fx
namespace cA
open PySem PySem.Spec PyProof.Rows ai
noncomputable def kH{α:Type}(xs:List α)(lo aj:Option Int)(st:Int):List α:=
 (sliceRange (lu lo aj (some st) xs.length).1 (lu lo aj (some st) xs.length).2.1 (lu lo aj (some st) xs.length).2.2).filterMap (xs[·]?)
theorem Nx{xs:List V}{us:List Value}(h:cj xs us):∀is:List Nat,cj (is.filterMap (xs[·]?)) (is.filterMap (us[·]?))
 |[]=>.nil
 |i::r=>by
  cases e:xs[i]? with
  |none=>
   rw[Ľ e,Ľ (h.none_of e)]
   exact Nx h r
  |some x=>
   obtain⟨u,ay,e4⟩:=h.get e
   rw[ľ e,ľ ay]
   exact .cons e4 (Nx h r)
theorem XH{α β:Type}(f:α→β)(xs:List α)(lo aj:Option Int)(st:Int):kH (xs.map f) lo aj st=(kH xs lo aj st).map f:=by
 unfold kH
 rw[bc,List.map_filterMap]
 congr 1
 funext i
 exact b8
theorem XI{α:Type}(xs:List α)(lo aj:Nat):(kH xs (some (lo:Int)) (some (aj:Int)) 2).length≤(aj-lo+1)/2:=by
 unfold kH
 refine gm (List.length_filterMap_le _ _) ?_
 unfold sliceRange
 rw[bc,hi]
 have av:(lu (some (lo:Int)) (some (aj:Int)) (some 2) xs.length).1=max 0 (min (lo:Int) xs.length):=by
  have h0:¬((lo:Int)<0):=by omega
  simp[lu,h0]
 have ay:(lu (some (lo:Int)) (some (aj:Int)) (some 2) xs.length).2.1=max 0 (min (aj:Int) xs.length):=by
  have h0:¬((aj:Int)<0):=by omega
  simp[lu,h0]
 have cv:(lu (some (lo:Int)) (some (aj:Int)) (some 2) xs.length).2.2=2:=rfl
 rw[av,ay,cv]
 rw[aI (by decide)]
 split<;>omega
section
variable{X:bw}{e:Expr}{bY:TE}{pos f9:Pos}{lo aj:Option Expr}{cS ja:q9}
noncomputable def afd(K:a3)(bY:TE)(cS ja:q9)(a5:TE):TE:=λσ H Q=>bY σ H λx H1=>cS σ H1 λl ak=>ja σ ak λu bD=>a5 σ bD λk d0=>∃a xs i,x=.ref a∧k=.int i∧i≠0∧aR K d0 a xs∧
 ∀p,d0 p=none→Q (.ref p) (upd d0 p (.lst (kH xs l u i)))
theorem Yd{st:Expr}{a5:TE}(he:bE X e bY)(ar:vo X lo cS)(cf:vo X aj ja)(aK:bE X st a5):bE X (.Subscript e (.Slice lo aj (some st) f9) pos) (afd X.K bY cS ja a5):=by
 intro pins s σ H Q I h
 refine Ir (bH (he pins s σ H _ I h) λv s1⟨x,H1,aS,b6,bq⟩=>?_)
 refine wpAny_Slice (bH (ar pins s1 σ H1 _ aS bq) λny s2⟨l,ak,bK,aky,cp⟩=>bH (cf pins s2 σ ak _ bK cp) λnz s3⟨u,bD,cT,pu,eH⟩=>?_)
 rw[evalPart_some]
 refine bH (aK pins s3 σ bD _ cT eH) λck s4⟨k,d0,iP,ug,iq⟩=>?_
 obtain⟨a,xs,i,rfl,rfl,aiA,ao,q⟩:=iq
 cases b6
 obtain⟨t,rfl⟩:=ug
 have iQ:Inv X pins σ d0 {s4 with heap:=s4.heap.push {cls:=.type "slice",data:=.fields #[ny,nz,.int i t]}}:=iP.kept (t':=s4.toks) λb ob q=>dy _ q
 obtain⟨its,r,pl,bQ⟩:=iQ.list ao
 have hlen:=r.length
 have bf:aX (br X.prog X.w) X.A (vV (.ref a) (.ref s4.heap.objs.size)) (hh X pins σ Q) X.dj {s4 with heap:=s4.heap.push {cls:=.type "slice",data:=.fields #[ny,nz,.int i t]}}:=by
  refine ami pl.isList (Ó ..) aky pu (.int i t) (by intro z;exact aiA (gT z)) ?_ (by rw[eC]<;>omega)
  have ep:N6 its.toArray l u (some i)=(kH its l u i).toArray:=by
   unfold N6 kH
   rw[eC]
   simp only[List.getElem?_toArray]
  have rs:cj (kH xs l u i) (kH its l u i):=by
   unfold kH
   rw[hlen]
   exact Nx r _
  have ajj:(kH xs l u i).length≤sizeLine:=by
   have:=slicePick_size_le its.toArray l u (some i)
   rw[ep,eC,eC]at this
   rw[rs.length]
   omega
  rw[ep]
  refine⟨.ref _,_,iQ.laid (t':=s4.toks) (o:=.lst (kH xs l u i)) (λb ob q=>dy _ q) (b1 _) ?_,rfl,q _ (iQ.bh.fresh (b1 _))⟩
  exact⟨ajj,_,0,rs,gD _ rfl⟩
 show aX (br X.prog X.w) X.A (Oa e (.Slice lo aj (some st) f9) (.ref a) (.ref s4.heap.objs.size)) (hh X pins σ Q) X.dj {s4 with heap:=s4.heap.push {cls:=.type "slice",data:=.fields #[ny,nz,.int i t]}}
 exact tail_any (ops:=[.ref a,.ref s4.heap.objs.size]) pl.isList.typeIs Xi.lookup bf (by with_unfolding_all rfl)
theorem R1:iV "min"=some (.builtin "min"):=by decide+kernel
theorem adU:iV "max"=some (.builtin "max"):=by decide+kernel
end
end cA
namespace fx
open PySem ai cA a'
theorem abJ{wi:TI}{cs:List (Option Nat)}{tt:TT}{bY:TE}{σ rest:ai.St}{H H1:ae}{Q:bk}{J:e7}{xs:List ai.V}(hw:∀R:e7→ae→Prop,R J H1→wi σ H R)(gx:gO cs σ=none::rest)(iO:mC J H1 xs)(ar:xs.length<sizeLine)(p:Nat→Bool)(f:Nat→ai.V)(test:∀(i:Nat)(x:ai.V)(ak:ae)(R:Bool→ae→Prop),xs[i]?=some x→aP H1 ak→(∀bU,aP ak bU→R (p i) bU)→tt (some x::rest) ak R)(elt:∀(i:Nat)(x:ai.V)(ak:ae)(R:bk),xs[i]?=some x→p i=true→aP H1 ak→(∀bU,aP ak bU→R (f i) bU)→bY (some x::rest) ak R)(fin:∀(D:Addr)(H':ae),H1 D=none→H' D=some (.lst (((c_ xs.length).filter p).map f))→aP H1 H'→Q (.ref D) H'):kI wi cs (gr 0) tt bY σ H Q:=by
 refine hw _ λD cq=>?_
 refine⟨λi m ys a6 H'=>m=xs.length-i∧i≤xs.length∧ys=((c_ i).filter p).map f∧(∃o,a6=o::rest)∧aP H1 H'∧H' D=some (.lst ys),⟨xs.length,by simp,ea _,rfl,⟨none,by rw[gx]⟩,λb o e=>?_,a4⟩,?_⟩
 .rw[aG (dg e cq)]
  exact e
 .rintro i m ys a6 H' ⟨rfl,aj,rfl,⟨o,rfl⟩,aC,et⟩
  obtain⟨fP,fD,hO⟩:=iO H' aC
  refine⟨et,lG ?_ ar,?_⟩
  .rw[bc]
   refine gm (nH _ _) ?_
   rw[hi]
   exact aj
  by_cases bN:i<xs.length
  .refine .inr ⟨fD i bN,λx ak y=>?_⟩
   obtain⟨rfl,ex⟩:=hO i x ak bN y
   show tt (some x::rest) ak _
   refine test i x ak _ ex aC λd0 s4=>?_
   cases aQ:p i with
   |true=>
    refine j7 ?_
    refine elt i x d0 _ ex aQ (aC.trans s4) λbU s5=>⟨s5 _ _ (s4 _ _ et),xs.length-(i+1),by omega,rfl,bN,?_,⟨_,rfl⟩,λb ob e=>?_,a4⟩
    .rw[yu,lE,ek]
     simp[aQ]
    .rw[aG (dg e cq)]
     exact s5 _ _ (s4 _ _ (aC _ _ e))
   |false=>
    refine ky ⟨xs.length-(i+1),by omega,rfl,bN,?_,⟨_,rfl⟩,aC.trans s4,s4 _ _ et⟩
    rw[yu,lE,ek]
    simp[aQ]
  .have e:i=xs.length:=by omega
   subst e
   exact .inl ⟨fP,fin D H' cq et aC⟩
theorem k_{α:Type}{l:List α}{i:Nat}{x d:α}(e:l[i]?=some x):l.getD i d=x:=by rw[cY,e];rfl
theorem akJ{α β:Type}(q:α→Bool)(g:α→β)(hI:α)(ls:List α):(((c_ ls.length).filter λi=>q (ls.getD i hI)).map λi=>g (ls.getD i hI))=(ls.filter q).map g:=by
 have h:ls=(c_ ls.length).map λi=>ls.getD i hI:=by
  apply ve
  .simp
  .intro i ag af
   simp[cY,ag]
 have e:(ls.filter q).map g=(((c_ ls.length).map λi=>ls.getD i hI).filter q).map g:=by rw[←h]
 rw[e,vg,gk]
 rfl
theorem range_getD{α β:Type}(g:α→β)(hI:α)(ls:List α):((c_ ls.length).map λi=>g (ls.getD i hI))=ls.map g:=by
 apply ve
 .simp
 .intro i ag af
  simp only[bc,hi]at ag
  simp[cY,ag]
structure Step where
 left:Int
 ago:Option Int
 dv:Str
 due:Int
noncomputable def agn:Option Int→ai.V
 |none=>.bR
 |some i=>.int i
noncomputable def Bq(s:Step):List ai.V:=[.int s.left,agn s.ago,.str s.dv,.int s.due]
noncomputable def Gb(n g st:Addr):List (Str×ai.V):=[("net",.ref n),("goals",.ref g),("steps",.ref st)]
noncomputable def gF(H:ae)(l:Addr)(ss:List Step):Prop:=∃ts,H l=some (.lst (aL ts))∧dn H ts (ss.map Bq)
structure WalkAt(C:Addr)(H:ae)(x n g st:Addr)(gs:List Str)(ls:List Addr)(sss:List (List Step)):Prop where
 ins:∃au,H x=some (.ins C au (Gb n g st))
 goals:H g=some (.lst (gs.map V.str))
 steps:H st=some (.lst (aL ls))
 each:bZ (gF H) ls sss
structure pI(K:a3)(C:Addr):Prop where
 cl:g5 K C
 nn:c3 K (.ref C) "net"=some none
 nd:c3 K (.ref C) "goals"=some none
 ns:c3 K (.ref C) "steps"=some none
inductive aaG(C:Addr)(vs:(List ai.V))(H:ae)(Q:bk)(bF:cy):Prop where
 |mk (x n g st:Addr) (gs:List Str) (ls:List Addr) (sss:List (List Step)) (k:Nat) (y:Str) (b4:vs=[.ref x,.int k]) (bL:WalkAt C H x n g st gs ls sss) (cG:gs[k]?=some y) (c2:Q (.str y) H)
noncomputable def GP(C:Addr):cW:=λvs H Q bF=>aaG C vs H Q bF
inductive Ē(C:Addr)(vs:(List ai.V))(H:ae)(Q:bk)(bF:cy):Prop where
 |mk (x n g st:Addr) (gs:List Str) (ls:List Addr) (sss:List (List Step)) (k:Nat) (ss:List Step) (s:Step) (b4:vs=[.ref x,.int k]) (bL:WalkAt C H x n g st gs ls sss) (cG:sss[k]?=some (ss++[s])) (c2:Q (.str s.dv) H)
noncomputable def Fx(C:Addr):cW:=λvs H Q bF=>Ē C vs H Q bF
inductive ē(C:Addr)(vs:(List ai.V))(H:ae)(Q:bk)(bF:cy):Prop where
 |mk (x n g st:Addr) (gs:List Str) (ls:List Addr) (sss:List (List Step)) (k:Nat) (ss:List Step) (s:Step) (b4:vs=[.ref x,.int k]) (bL:WalkAt C H x n g st gs ls sss) (cG:sss[k]?=some (ss++[s])) (c2:Q (.int s.due) H)
noncomputable def AX(C:Addr):cW:=λvs H Q bF=>ē C vs H Q bF
theorem Yf{xs:List ai.V}{v:ai.V}:ai.e0 (xs++[v]) (-1)=some v:=by
 unfold ai.e0 ai.m4
 rw[ff,aD (by decide),aI (by show -((xs.length+1:Nat):Int)≤-1;omega)]
 show(xs++[v])[((-1:Int)+((xs.length+1:Nat):Int)).toNat]?=_
 have e:((-1:Int)+((xs.length+1:Nat):Int)).toNat=xs.length:=by omega
 rw[e]
 simp
section
variable{P:bT}{w:bJ}{K:a3}{aa:Str→Option Value}{base:Heap}
noncomputable abbrev xc:Stmt:=iH (top 13) 4
theorem aaH:dT ["self","number"] ["self","number"] (dh xc):=⟨rfl,rfl,rfl,by decide+kernel,rfl,by decide+kernel,by decide+kernel⟩
theorem Qo{C:Addr}{H:ae}{x n g st:Addr}{gs:List Str}{ls:List Addr}{sss:List (List Step)}{k:Nat}{ss:List Step}{s:Step}(W:WalkAt C H x n g st gs ls sss)(e:sss[k]?=some (ss++[s])):
  ∃l ts t,ls[k]?=some l∧H l=some (.lst (aL (ts++[t])))∧H t=some (.tup (Bq s)):=by
 have ln:=iy W.each
 obtain⟨aK,_⟩:=fW.mp e
 obtain⟨l,eL⟩:∃l,ls[k]?=some l:=⟨_,cg (by omega)⟩
 obtain⟨FV,es,ts,ar,di⟩:=bZ.get W.each eL
 rw[e]at es
 cases es
 have lt:=di.len
 rw[bc,ff]at lt
 simp only[hS,q4]at lt
 obtain⟨t,qc⟩:∃t,ts[ss.length]?=some t:=⟨_,cg (by omega)⟩
 obtain⟨d,c',hd⟩:=bZ.get di qc
 rw[ek,Rz (by rw[bc];omega),bc,aav]at c'
 cases c'
 refine⟨l,ts.take ss.length,t,eL,?_,hd⟩
 have ay:ts=ts.take ss.length++[t]:=by
  have this:=(p1 ss.length ts).symm
  have hd2:ts.drop ss.length=[t]:=by
   rw[CH (by omega:ss.length<ts.length)]
   rw[cg (by omega:ss.length<ts.length)]at qc
   cases qc
   rw[CI (by omega)]
  rw[hd2]at this
  exact this
 rw[←ay]
 exact ar
theorem Ĕ{C f:Addr}{fd:cP}(F:b0 K "last_house" "Walk.last_house" xc f fd)(cx:pI K C):aY P w K aa base bu 1 f fd ["self","number"] (Fx C):=by
 refine F.ok aaH (λvs H Q E h=>?_) (λbC A outer s H vs Q E aw h=>?_)
 .obtain⟨x,n,g,st,gs,ls,sss,k,ss,s',rfl,_⟩:=h
  rfl
 .obtain⟨x,n,g,st,gs,ls,sss,k,ss,s',rfl,W,es,q⟩:=h
  obtain⟨au,ao⟩:=W.ins
  obtain⟨l,ts,t,eL,ar,cw⟩:=Qo W es
  refine⟨_,(bW (dH (b9 d2 (b9 gp (b9 gp (ha (ah 0) (by rfl)) (ah 1) (λ_ _=>rfl)) (BN A7 bl) (λ_ _=>rfl)) bl (λ_ _=>rfl)))),?_⟩
  have ag:ai.e0 (aL (ts++[t])) (-1)=some (.ref t):=by unfold aL;rw[ek];exact Yf
  exact⟨_,rfl,x,C,au,_,_,rfl,ao,cx.cl,cx.ns,rfl,_,rfl,st,_,_,_,rfl,rfl,aR.of W.steps,ho (by unfold aL;rw[b8,eL];rfl),_,rfl,l,_,_,_,rfl,rfl,aR.of ar,ag,t,_,_,_,rfl,rfl,b2.of cw,rfl,q⟩
noncomputable abbrev uc:Stmt:=iH (top 13) 5
theorem aaI:dT ["self","number"] ["self","number"] (dh uc):=⟨rfl,rfl,rfl,by decide+kernel,rfl,by decide+kernel,by decide+kernel⟩
theorem ĕ{C f:Addr}{fd:cP}(F:b0 K "last_turn" "Walk.last_turn" uc f fd)(cx:pI K C):aY P w K aa base bu 1 f fd ["self","number"] (AX C):=by
 refine F.ok aaI (λvs H Q E h=>?_) (λbC A outer s H vs Q E aw h=>?_)
 .obtain⟨x,n,g,st,gs,ls,sss,k,ss,s',rfl,_⟩:=h
  rfl
 .obtain⟨x,n,g,st,gs,ls,sss,k,ss,s',rfl,W,es,q⟩:=h
  obtain⟨au,ao⟩:=W.ins
  obtain⟨l,ts,t,eL,ar,cw⟩:=Qo W es
  refine⟨_,(bW (dH (b9 d2 (b9 gp (b9 gp (ha (ah 0) (by rfl)) (ah 1) (λ_ _=>rfl)) (BN A7 bl) (λ_ _=>rfl)) bl (λ_ _=>rfl)))),?_⟩
  have ag:ai.e0 (aL (ts++[t])) (-1)=some (.ref t):=by unfold aL;rw[ek];exact Yf
  exact⟨_,rfl,x,C,au,_,_,rfl,ao,cx.cl,cx.ns,rfl,_,rfl,st,_,_,_,rfl,rfl,aR.of W.steps,ho (by unfold aL;rw[b8,eL];rfl),_,rfl,l,_,_,_,rfl,rfl,aR.of ar,ag,t,_,_,_,rfl,rfl,b2.of cw,rfl,q⟩
noncomputable def Cq(s:Step)(g:Str):ai.V:=if s.dv=g then .int s.due else .bR
inductive Ė(C:Addr)(vs:(List ai.V))(H:ae)(Q:bk)(bF:cy):Prop where
 |mk (x n g st:Addr) (gs:List Str) (ls:List Addr) (sss:List (List Step)) (k:Nat) (ss:List Step) (s:Step) (y:Str) (b4:vs=[.ref x,.int k]) (bL:WalkAt C H x n g st gs ls sss) (cG:sss[k]?=some (ss++[s])) (c2:gs[k]?=some y) (dR:Q (Cq s y) H)
noncomputable def OU(C:Addr):cW:=λvs H Q bF=>Ė C vs H Q bF
noncomputable abbrev Bx:Stmt:=iH (top 13) 6
theorem aaJ:dT ["self","number"] ["self","number"] (dh Bx):=⟨rfl,rfl,rfl,by decide+kernel,rfl,by decide+kernel,by decide+kernel⟩
theorem ė{C f f1 f2:Addr}{fd fv gw:cP}(F:b0 K "home_turn" "Walk.home_turn" Bx f fd)(cx:pI K C)(rb:eD K C "last_house" "Walk.last_house" xc ["self","number"] f1 fv)(Kd:aY P w K aa base bu 1 f1 fv ["self","number"] (Fx C))(mF:eD K C "last_turn" "Walk.last_turn" uc ["self","number"] f2 gw)(y3:aY P w K aa base bu 1 f2 gw ["self","number"] (AX C)):aY P w K aa base bu 2 f fd ["self","number"] (OU C):=by
 have kY:=cx.cl
 refine F.ok aaJ (λvs H Q E h=>?_) (λbC A outer s H vs Q E aw h=>?_)
 .obtain⟨x,n,g,st,gs,ls,sss,k,ss,s',y,rfl,_⟩:=h
  rfl
 .obtain⟨x,n,g,st,gs,ls,sss,k,ss,s',y,rfl,W,es,dV,q⟩:=h
  obtain⟨au,ao⟩:=W.ins
  refine⟨_,(bO (f5 (gf rY (hU (ah 0) kY rb.gI Kd (aw.mono (by decide)) rb.bd .nil dI (aB (ah 1) a8)) (b9 gp (ha (ah 0) (by rfl)) (ah 1) (λ_ _=>rfl)) (fu _)) (bW (dH w3)) f3)
   (bW (dH (hU (ah 0) kY mF.gI y3 (aw.mono (by decide)) mF.bd .nil dI (aB (ah 1) a8))))),?_⟩
  have afx:ai.e0 (gs.map V.str) (k:Int)=some (.str y):=ho (by rw[b8,dV];rfl)
  refine⟨_,rfl,x,au,_,rfl,ao,rfl,_,rfl,x,n,g,st,gs,ls,sss,k,ss,s',rfl,W,es,?_⟩
  refine⟨_,rfl,x,C,au,_,_,rfl,ao,cx.cl,cx.nd,rfl,_,rfl,g,_,_,_,rfl,rfl,aR.of W.goals,afx,rfl,_,rfl,?_⟩
  unfold Cq at q
  by_cases he:s'.dv=y
  .rw[aI he]at q
   exact gh (by rw[he];simp) ⟨_,rfl,x,au,_,rfl,ao,rfl,_,rfl,x,n,g,st,gs,ls,sss,k,ss,s',rfl,W,es,q⟩
  .rw[aD he]at q
   exact f6 (by simp[he]) q
noncomputable def jJ(d:Str×Int×Str):List ai.V:=[.str d.1,.int d.2.1,.str d.2.2]
noncomputable def gg(d:Str×Int×Str):List Step:=[⟨d.2.1,none,d.1,d.2.1⟩]
inductive abK(C:Addr)(vs:(List ai.V))(H:ae)(Q:bk)(bF:cy):Prop where
 |mk (x au n gi:Addr) (rs:List Addr) (ds:List (Str×Int×Str)) (b4:vs=[.ref x,.ref n,.ref gi]) (bL:H x=some (.ins C au [])) (cG:H gi=some (.lst (aL rs))) (c2:dn H rs (ds.map jJ)) (dR:rs.length≤100) (eW:∀(H':ae)(g st:Addr)(l':List Addr),SameBut x H H'→WalkAt C H' x n g st (ds.map λd=>d.2.2) l' (ds.map gg)→H g=none→H st=none→l'.Nodup→(∀l∈l',H l=none∧l≠st∧l≠g)→g≠st→Q .bR H')
noncomputable def Hr(C:Addr):cW:=λvs H Q bF=>abK C vs H Q bF
noncomputable abbrev yg:Stmt:=iH (top 13) 0
inductive aaK(C:Addr)(vs:(List ai.V))(H:ae)(Q:bk)(bF:cy):Prop where
 |mk (x au n g st r:Addr) (gs:List Str) (ls:List Addr) (d:Str×Int×Str) (b4:vs=[.ref x,.ref r]) (bL:H x=some (.ins C au (Gb n g st))) (cG:H g=some (.lst (gs.map V.str))) (c2:H st=some (.lst (aL ls))) (dR:g≠st) (eW:H r=some (.tup (jJ d))) (h8:gs.length≤100) (jz:ls.length≤100) (oP:∀(H':ae)(l t:Addr),(∀b o,b≠g→b≠st→H b=some o→H' b=some o)→H' g=some (.lst ((gs++[d.2.2]).map V.str))→H' st=some (.lst (aL (ls++[l])))→H l=none→H t=none→H' l=some (.lst [.ref t])→H' t=some (.tup (Bq ⟨d.2.1,none,d.1,d.2.1⟩))→Q .bR H')
noncomputable def GQ(C:Addr):cW:=λvs H Q bF=>aaK C vs H Q bF
noncomputable abbrev BW:Stmt:=iH (top 13) 1
theorem abL:dT ["self","letter"] ["self","letter"] (dh BW):=⟨rfl,rfl,rfl,by decide+kernel,rfl,by decide+kernel,by decide+kernel⟩
theorem aaL{C f:Addr}{fd:cP}(F:b0 K "take_in" "Walk.take_in" BW f fd)(cx:pI K C):aY P w K aa base bu 1 f fd ["self","letter"] (GQ C):=by
 refine F.ok abL (λvs H Q E h=>?_) (λbC A outer s H vs Q E aw h=>?_)
 .obtain⟨x,au,n,g,st,r,gs,ls,d,rfl,_⟩:=h
  rfl
 .obtain⟨x,au,n,g,st,r,gs,ls,d,rfl,ao,bf,kr,Wy,hd,J',fB,q⟩:=h
  refine⟨_,(bO (iB (pH p4 p5 p6 nR (ha (ah 0) (by rfl)) (aB (b9 d2 (ah 1) bl (λ_ _=>rfl)) a8)))
   (bW (iB (pH p4 p5 p6 nR (ha (ah 0) (by rfl)) (aB (k7 (aB (hu (aB (b9 d2 (ah 1) bl (λ_ _=>rfl)) (aB w3 (aB (b9 d2 (ah 1) bl (λ_ _=>rfl)) (aB (b9 d2 (ah 1) bl (λ_ _=>rfl)) a8))))) a8)) a8))))),?_⟩
  have t8:x≠g:=hx ao bf (by intro z;cases z)
  have wZ:x≠st:=hx ao kr (by intro z;cases z)
  have aj4:r≠g:=hx hd bf (by intro z;cases z)
  have aou:r≠st:=hx hd kr (by intro z;cases z)
  refine⟨_,rfl,x,C,au,_,_,rfl,ao,cx.cl,cx.nd,rfl,.inl ⟨rfl,_,aR.of bf⟩,_,rfl,r,_,_,_,rfl,rfl,b2.of hd,rfl,g,_,_,rfl,rfl,bf,fh (by rw[bc];omega),?_⟩
  have Lq:upd H g (.lst (gs.map V.str++[V.str d.2.2])) x=_:=(aG t8).trans ao
  have n9:upd H g (.lst (gs.map V.str++[V.str d.2.2])) st=_:=(aG Wy.symm).trans kr
  have D':upd H g (.lst (gs.map V.str++[V.str d.2.2])) r=_:=(aG aj4).trans hd
  refine⟨_,rfl,x,C,au,_,_,rfl,Lq,cx.cl,cx.ns,rfl,.inl ⟨rfl,_,aR.of n9⟩,?_⟩
  refine⟨_,rfl,r,_,_,_,rfl,rfl,b2.of D',rfl,_,rfl,r,_,_,_,rfl,rfl,b2.of D',rfl,_,rfl,r,_,_,_,rfl,rfl,b2.of D',rfl,(by show 4≤sizeLine;decide),λt eG=>⟨(by show 1≤sizeLine;decide),λl nl=>?_⟩⟩
  have DT:∀{b},upd H g (.lst (gs.map V.str++[V.str d.2.2])) b=none→H b=none∧b≠g:=λ{b}e=>by
   have nb:b≠g:=λz=>by rw[z,a4]at e;cases e
   rw[aG nb]at e
   exact⟨e,nb⟩
  have t_:l≠t:=λz=>by rw[z,a4]at nl;cases nl
  have t9:=nl
  rw[aG t_]at t9
  have iG:=(cH (o:=.lst [.ref t]) nl) _ _ ((cH (o:=.tup (Bq ⟨d.2.1,none,d.1,d.2.1⟩)) eG) _ _ n9)
  have nf:t≠st:=λz=>by rw[z,n9]at eG;cases eG
  have E7:l≠st:=λz=>by rw[z,n9]at t9;cases t9
  refine⟨st,_,_,rfl,rfl,iG,fh (by rw[fS];omega),?_⟩
  refine q _ l t (λb o ag af e=>?_) ?_ ?_ (DT t9).1 (DT eG).1 ?_ ?_
  .have av:upd H g (.lst (gs.map V.str++[V.str d.2.2])) b=some o:=by rw[aG ag];exact e
   rw[aG af]
   exact(cH nl) _ _ ((cH eG) _ _ av)
  .rw[aG Wy,aG (DT t9).2.symm,aG (DT eG).2.symm,a4,ek]
   rfl
  .rw[a4,p_]
  .rw[aG E7,a4]
  .rw[aG nf,aG t_.symm,a4]
   rfl
theorem R5:dT ["self","net","letters","letter"] ["self","net","letters"] (dh yg):=⟨rfl,rfl,rfl,by decide+kernel,rfl,by decide+kernel,by decide+kernel⟩
theorem abM{C f f1:Addr}{fd fv:cP}(F:b0 K "__init__" "Walk.__init__" yg f fd)(cx:pI K C)(DX:eD K C "take_in" "Walk.take_in" BW ["self","letter"] f1 fv)(alv:aY P w K aa base bu 1 f1 fv ["self","letter"] (GQ C)):aY P w K aa base bu 2 f fd ["self","net","letters"] (Hr C):=by
 have kY:=cx.cl
 refine F.ok R5 (λvs H Q E h=>?_) (λbC A outer s H vs Q E aw h=>?_)
 .obtain⟨x,au,n,gi,rs,ds,rfl,_⟩:=h
  rfl
 .obtain⟨x,au,n,gi,rs,ds,rfl,ao,k9,di,cM,q⟩:=h
  refine⟨_,(bO (t2 (ah 0) (ah 1) rfl)
   (bO (t2 (ah 0) (k7 a8) rfl)
   (bO (t2 (ah 0) (k7 a8) rfl)
   (bW (hV hF rfl (hn (ah 2)) (de (i:=3) R5.aE rfl (cC rfl))
    (bW (iB (hU (ah 0) kY DX.gI alv (aw.mono (by decide)) DX.bd .nil dI (aB (ah 3) a8))))))))),?_⟩
  refine⟨_,rfl,_,rfl,x,C,au,_,rfl,ao,cx.cl,cx.nn,(by show 0<1000;decide),?_⟩
  have E3:gi≠x:=hx k9 ao (by intro z;cases z)
  refine⟨(by show 0≤sizeLine;decide),λg nd=>?_⟩
  have t8:g≠x:=λz=>by rw[z,a4]at nd;cases nd
  have wV:=nd
  rw[aG t8]at wV
  refine⟨_,rfl,x,C,au,_,rfl,(by rw[aG t8.symm,a4]),cx.cl,cx.nd,(by show 1<1000;decide),(by show 0≤sizeLine;decide),λst nf=>?_⟩
  have wZ:st≠x:=λz=>by rw[z,a4]at nf;cases nf
  rw[aG wZ]at nf
  have E6:st≠g:=λz=>by rw[z,a4]at nf;cases nf
  rw[aG E6,aG wZ]at nf
  refine⟨_,rfl,x,C,au,_,rfl,(by rw[aG wZ.symm,a4]),cx.cl,cx.ns,(by show 2<1000;decide),?_⟩
  refine⟨_,rfl,gi,rfl,⟨_,aR.of (xs:=aL rs) ?_⟩,?_⟩
  .rw[aG E3,aG (dg k9 nf),aG E3,aG (dg k9 wV),aG E3]
   exact k9
  have fK:=fS rs
  have ajy:rs.length=ds.length:=by have:=iy di;rw[bc]at this;exact this
  refine nV (K:=K) (a:=gi) (xs:=aL rs) (λj σ ix=>∃gK l',σ=[some (.ref x),some (.ref n),some (.ref gi),gK]∧(∀b o,b≠x→H b=some o→ix b=some o)∧ix x=some (.ins C au (Gb n g st))∧ix g=some (.lst (((ds.take j).map λd=>d.2.2).map V.str))∧ix st=some (.lst (aL l'))∧bZ (gF ix) l' ((ds.take j).map gg)∧l'.Nodup∧(∀l∈l',H l=none∧l≠st∧l≠g))
   ⟨none,[],rfl,λb o nb e=>?_,a4,?_,?_,.nil,mu,λl ar=>bB ar eB⟩ (λj σ ix _⟨_,_,_,h,_⟩=>aR.of (h _ _ E3 k9)) ?_ ?_
  .rw[aG nb,aG (dg e nf),aG nb,aG (dg e wV),aG nb]
   exact e
  .rw[aG t8,aG E6.symm,aG t8,a4]
   rfl
  .rw[aG wZ,a4]
   rfl
  .rintro j z σ ix cV ⟨gK,l',rfl,kG,wh,tD,wd,eP,aE,fr⟩
   unfold aL at cV
   rw[b8]at cV
   obtain⟨r,dK,rfl⟩:=eh.mp cV
   obtain⟨y,dV,aT⟩:=bZ.get di dK
   rw[b8]at dV
   obtain⟨d,c',rfl⟩:=eh.mp dV
   have aoc:=(fW.mp c').1
   have EF:=iy eP
   rw[bc,gb]at EF
   have a5:ds.take (j+1)=ds.take j++[d]:=by
    rw[kR,c']
    rfl
   refine⟨_,rfl,x,au,_,rfl,wh,rfl,_,rfl,x,au,n,g,st,r,_,l',d,rfl,wh,tD,wd,E6.symm,kG _ _ (hx aT ao (by intro z;cases z)) aT,(by rw[bc,gb];omega),(by omega),?_⟩
   intro H' l t bX aiw rJ nl eG K7 aje
   have aj0:∀{o},ix l=some o→False:=λ{o}e=>by rw[nl]at e;cases e
   have free:∀{b},ix b=none→H b=none:=λ{b}e=>by
    by_cases U:b=x
    .rw[U,wh]at e;cases e
    .cases ay:H b with
     |none=>rfl
     |some o=>rw[kG _ _ U ay]at e;cases e
   refine⟨_,l'++[l],rfl,λb o nb e=>?_,bX _ _ t8.symm wZ.symm wh,?_,rJ,?_,?_,?_⟩
   .exact bX _ _ (λz=>by rw[z,wV]at e;cases e) (λz=>by rw[z,nf]at e;cases e) (kG _ _ nb e)
   .rw[aiw,a5]
    simp only[ek,fX,HH]
   .rw[a5,ek]
    refine Paired.snoc ⟨[t],K7,.cons aje .nil⟩ ?_
    have go:∀{ms:List Addr}{uz:List (List Step)},bZ (gF ix) ms uz→(∀l∈ms,l≠st∧l≠g)→bZ (gF H') ms uz:=λ{ms uz}p=>by
     induction p with
     |nil=>exactλ_=>.nil
     |cons r t ba=>
      refineλh=>.cons ?_ (ba λl ar=>h l (.tail _ ar))
      obtain⟨ts,ag,af⟩:=r
      refine⟨ts,bX _ _ (h _ (.head _)).2 (h _ (.head _)).1 ag,bZ.jL af λa b e=>bX _ _ (hx e tD (by intro z;cases z)) (hx e wd (by intro z;cases z)) e⟩
    exact go eP λl ar=>(fr l ar).2
   .rw[oW]
    refine⟨aE,jU.mpr ⟨eB,mu⟩,λa aH b U=>?_⟩
    rw[e8]at U
    subst U
    rintro rfl
    obtain⟨i,aj,e⟩:=jd aH
    obtain⟨_,_,ts,ag,_⟩:=bZ.get eP (fW.mpr ⟨aj,e⟩)
    exact aj0 ag
   .intro e_ mU
    rw[el,e8]at mU
    rcases mU with h|rfl
    .exact fr _ h
    .exact⟨free nl,λz=>(by rw[z]at nl;rw[nl]at wd;cases wd),λz=>(by rw[z]at nl;rw[nl]at tD;cases tD)⟩
  .rintro σ ix ⟨gK,l',rfl,kG,wh,tD,wd,eP,aE,fr⟩
   rw[fK,ajy,ka]at tD eP
   exact q ix g st l' (λb o nb e=>kG b o nb e) ⟨⟨au,wh⟩,tD,wd,eP⟩ wV nf aE fr E6.symm
end
open PySem ai cA a'
section
variable{P:bT}{w:bJ}{K:a3}{aa:Str→Option Value}{base:Heap}
noncomputable abbrev rS:Stmt:=iH (top 31) 3
theorem P5:dT ["self","number"] ["self","number"] (dh rS):=⟨rfl,rfl,rfl,by decide+kernel,rfl,by decide+kernel,by decide+kernel⟩
theorem Ę{C R f:Addr}{fd:cP}{sA fo l1:String}{bm:List Value}(F:b0 K "road" "Net.road" rS f fd)(B:g4 aa)(fq:sq K C)(Ny:uO sA fo l1 bm)(wj:Exc K aa "NoRoad" R bm fo):
  aY P w K aa base (gC P w) 1 f fd ["self","number"] (Pb C R):=by
 refine w1 F P5 (λvs H Q E h=>?_) (λbC A outer s H vs Q E aw h=>?_)
 .obtain⟨x,bx,aZ,xs,ys,k,rfl,_⟩:=h
  rfl
 .obtain⟨x,bx,aZ,xs,ys,k,rfl,n,q,kC⟩:=h
  obtain⟨au,ao⟩:=n.ins
  refine⟨_,(bO (f5 (pC (NG uj Cn bl (ah 1) (gd mE (by rfl) B.len lV (aB (ha (ah 0) (by rfl)) a8)))) (bW (Fb Ny wj rfl (aB n_ a8))) f3)
   (bW (dH (b9 gp (ha (ah 0) (by rfl)) (ah 1) (λ_ _=>rfl))))),?_⟩
  refine⟨_,rfl,_,_,rfl,rfl,_,rfl,?_⟩
  by_cases h0:0≤k
  .refine f6 (dp h0) ⟨_,rfl,x,C,au,_,_,rfl,ao,fq.cl,fq.fL,rfl,aZ,_,rfl,.inl (aR.of n.r7),_,_,rfl,rfl,_,rfl,?_⟩
   by_cases ag:k<ys.length
   .obtain⟨v,bG,akK⟩:=q ⟨h0,ag⟩
    refine Hd ag ?_
    exact⟨_,rfl,x,C,au,_,_,rfl,ao,fq.cl,fq.fL,rfl,_,rfl,aZ,_,_,_,rfl,rfl,aR.of n.r7,bG,akK⟩
   .refine f6 (by rw[eF ag];rfl) ?_
    exact⟨by show 1≤sizeLine;decide,kC λz=>ag z.2⟩
  .refine gh (eF h0) ⟨_,rfl,?_⟩
   exact j7 ⟨by show 1≤sizeLine;decide,kC λz=>h0 z.1⟩
end
end fx
namespace cA
open PySem PySem.Spec PyProof.Rows ai PySem.W
noncomputable def gQ{α:Type}(lt:Nat→Nat→Bool):KasT α→α
 |.ret a=>a
 |.ask i j k=>gQ lt (k (lt i j))
noncomputable def jI{α:Type}(n:Nat)(P:α→Prop):KasT α→Prop
 |.ret a=>P a
 |.ask i j k=>i<n∧j<n∧∀b,jI n P (k b)
theorem wI{α β:Type}{n:Nat}{P:α→Prop}{R:β→Prop}{f:α→KasT β}(hf:∀a,P a→jI n R (f a)):∀t:KasT α,jI n P t→jI n R (t.bind f)
 |.ret a,h=>hf a h
 |.ask i j k,h=>⟨h.1,h.2.1,λb=>wI hf (k b) (h.2.2 b)⟩
theorem om{α:Type}{n:Nat}{P:α→Prop}{c:Prop}[Decidable c]{s t:KasT α}(ag:c→jI n P s)(af:¬c→jI n P t):jI n P (if c then s else t):=by
 by_cases h:c
 .rw[aI h];exact ag h
 .rw[aD h];exact af h
theorem P6{α:Type}{cmp:Nat→Nat→(Bool→ax→Prop)→ax→Prop}{lt:Nat→Nat→Bool}{n:Nat}{P:α→Prop}{Q:α→ax→Prop}{s:ax}(aF:∀i j C,i<n→j<n→C (lt i j) s→cmp i j C s):
  ∀t:KasT α,jI n P t→(P (gQ lt t)→Q (gQ lt t) s)→t.kasWp cmp Q s
 |.ret a,p,h=>h p
 |.ask i j k,p,h=>aF i j _ p.1 p.2.1 (P6 aF (k (lt i j)) (p.2.2 _) h)
theorem Ff{α:Type}{lt:Nat→Nat→Bool}{n:Nat}{P:α→Prop}:∀t:KasT α,jI n P t→P (gQ lt t)
 |.ret _,p=>p
 |.ask i j k,p=>Ff (k (lt i j)) (p.2.2 _)
noncomputable def cU(n:Nat)(p:Array Nat):Prop:=p.Perm (kS (c_ n))
theorem cU.lt{n:Nat}{p:Array Nat}(h:cU n p){x:Nat}(ao:x∈p):x<n:=by
 have:=h.mem_iff.mp ao
 have:x∈c_ n:=by simpa using this
 exact iR.mp this
theorem cU.list{n:Nat}{p:Array Nat}(h:cU n p):p.toList.Perm (c_ n):=by
 have:=Zq.mp h
 simpa using this
theorem cU.at{n:Nat}{p:Array Nat}(h:cU n p)(h0:0<n)(k:Nat):p.getD k 0<n:=by
 by_cases aK:k<p.size
 .have e:p.getD k 0=p[k]:=by simp[nD,aK]
  rw[e]
  exact h.lt (Array.getElem_mem aK)
 .have e:p.getD k 0=0:=by simp[nD,aK]
  rw[e]
  exact h0
theorem cU.perm{n:Nat}{p q:Array Nat}(h:cU n p)(e:q.Perm p):cU n q:=Array.Perm.trans e h
theorem cU.rev{n:Nat}{p:Array Nat}(h:cU n p)(i j:Nat):cU n (oc p i j):=h.perm (mirror_perm ..)
theorem cU.JB{n:Nat}{p:Array Nat}(h:cU n p)(i j:Nat):cU n (nQ p i j):=h.perm (bubble_perm ..)
section
variable{n:Nat}
theorem Ht{p:Array Nat}(h0:0<n)(h:cU n p):∀f k,jI n (λ_=>True) (kas_asc p f k)
 |0,_=>trivial
 |f+1,k=>⟨h.at h0 _,h.at h0 _,λb=>om (λ_=>trivial) λ_=>Ht h0 h f (k+1)⟩
theorem Gd(h0:0<n):∀(f:Nat)(p:Array Nat)(k q:Nat),cU n p→jI n (λr=>cU n r.1) (Aq f p k q)
 |0,p,k,q,h=>h
 |f+1,p,k,q,h=>⟨h.at h0 _,h.at h0 _,λb=>om (λ_=>om (λ_=>Gd h0 f _ _ _ (h.rev _ _)) λ_=>Gd h0 f _ _ _ h)
   λ_=>⟨h.at h0 _,h.at h0 _,λb=>om (λ_=>h) λ_=>Gd h0 f _ _ _ h⟩⟩
theorem P7{p:Array Nat}(h0:0<n)(h:cU n p)(k m:Nat):jI n (λr=>cU n r.2) (Ar k m p):=by
 unfold Ar
 refine wI (P:=λ_=>True) (λa _=>?_) _ (Ht h0 (h.rev _ _) _ _)
 exact h.rev _ _
theorem Xu{p:Array Nat}(h0:0<n)(h:cU n p)(k m:Nat):jI n (λr=>cU n r.2) (VX k m p):=
 wI (λr aw=>om (λ_=>P7 h0 (cU.rev aw _ _) _ _) λ_=>P7 h0 aw _ _) _ (Gd h0 _ _ _ _ h)
theorem aaM{p:Array Nat}(h0:0<n)(h:cU n p)(m:Nat):jI n (λr=>cU n r.2) (L7 m p):=by
 unfold L7
 refine wI (P:=λ_=>True) (λk _=>?_) _ (Ht h0 h _ _)
 refine om (λ_=>h) λ_=>om (λ_=>⟨h.at h0 _,h.at h0 _,λb=>om (λ_=>h) λ_=>Xu h0 (h.rev _ _) _ _⟩) λ_=>Xu h0 h _ _
theorem OV{p:Array Nat}(h0:0<n)(h:cU n p)(k:Nat):∀f l r,jI n (λ_=>True) (wC p k f l r)
 |0,_,_=>trivial
 |f+1,l,r=>om (λ_=>trivial) λ_=>⟨h.at h0 _,h.at h0 _,λb=>om (λ_=>OV h0 h k f _ _) λ_=>OV h0 h k f _ _⟩
theorem Hu(h0:0<n):∀(f:Nat)(p:Array Nat)(k:Nat),cU n p→jI n (cU n) (L6 f p k)
 |0,p,k,h=>h
 |f+1,p,k,h=>wI (λl _=>Hu h0 f _ _ (h.JB _ _)) _ (OV h0 h k _ _ _)
theorem GR(h0:0<n):jI n (cU n) (wD n):=by
 have aw:cU n (kS (c_ n)):=PS _
 unfold wD
 refine wI (P:=λr=>cU n r.2) (λr af=>?_) _ (aaM h0 aw n)
 exact om (λ_=>Hu h0 _ _ _ af) λ_=>af
end
noncomputable def og(lt:Nat→Nat→Bool)(n:Nat):List Nat:=if n<2 then c_ n else(gQ lt (wD n)).toList
noncomputable def e3{α:Type}(d:α)(lt:Nat→Nat→Bool)(xs:List α):List α:=(og lt xs.length).map λi=>xs.getD i d
theorem wq{lt:Nat→Nat→Bool}{n i:Nat}(h:i∈og lt n):i<n:=by
 unfold og at h
 split at h
 .exact iR.mp h
 .rename_i af
  exact cU.lt (Ff (lt:=lt) (wD n) (GR (by omega))) (by simpa using h)
theorem ED(lt:Nat→Nat→Bool)(n:Nat):(og lt n).Perm (c_ n):=by
 unfold og
 split
 .exact Ķ _
 .exact cU.list (Ff (lt:=lt) (wD n) (GR (by omega)))
theorem Yg{α:Type}(d:α)(lt:Nat→Nat→Bool)(xs:List α):(e3 d lt xs).Perm xs:=by
 have e:xs=(c_ xs.length).map λi=>xs.getD i d:=by
  apply ve
  .simp
  .intro i ag af
   simp[cY,ag]
 have p:=(ED lt xs.length).map λi=>xs.getD i d
 rw[←e]at p
 exact p
theorem AF{α:Type}(d:α)(lt:Nat→Nat→Bool)(xs:List α):(e3 d lt xs).length=xs.length:=(Yg d lt xs).length_eq
theorem EN{lt:Nat→Nat→Bool}{xs:List V}{us:List Value}(h:cj xs us):cj (e3 .bR lt xs) (e3 .none lt us):=by
 unfold e3
 rw[h.length]
 have:∀is:List Nat,(∀i∈is,i<xs.length)→cj (is.map λi=>xs.getD i .bR) (is.map λi=>us.getD i .none):=λis=>by
  induction is with
  |nil=>intro _;exact .nil
  |cons i r ba=>
   intro aj
   refine .cons ?_ (ba λj aN=>aj j (.tail _ aN))
   have bN:i<xs.length:=aj i (.head _)
   have av:xs[i]?=some xs[i]:=cg bN
   obtain⟨u,ay,e4⟩:=h.get av
   show RelV (xs[i]?.getD .bR) (us[i]?.getD .none)
   rw[av,ay]
   exact e4
 exact this _ λi aj=>by rw[h.length];exact wq aj
theorem YJ{α:Type}(d:α)(lt:Nat→Nat→Bool){xs:List α}(h:xs.length<2):e3 d lt xs=xs:=by
 unfold e3 og
 rw[aI h]
 apply ve
 .simp
 .intro i ag af
  simp[cY,af]
noncomputable def ll(a:Addr)(h h':Heap):Prop:=∀b o,b≠a→h.get? b=some o→h'.get? b=some o
section
variable{prog:bT}{w:bJ}{A:c5}{E:Value→ax→Prop}{s:ax}{vs:List Value}{κ:my}{lt:Nat→Nat→Bool}
theorem P8{a:Addr}{e:Nat}{R:abt→ax→Prop}(a9:s.heap.get? a=some (fp "list" vs.toArray e))(pn:vs.length<64)(aK:2≤vs.length→∀s1:ax,ll a s.heap s1.heap→∀Q:my→ax→Prop,Q κ s1→aX (br prog w) A (As vs.toArray) Q (λ_ _=>False) s1)(ar:2≤vs.length→∀s1:ax,ll a s.heap s1.heap→∀i j C,i<vs.length→j<vs.length→C (lt i j) s1→qz prog w A κ vs i j C s1)(h:∀h' c,ll a s.heap h'→h'.get? a=some (fp "list" (kS (e3 d5 lt vs)) c)→R (.done (.ret .none)) {s with heap:=h'}):
  aX (br prog w) A (Builtin.«list.sort» ⟨[.ref a],[]⟩) R E s:=by
 have emptied:=Kf a9 λ_=>(#[]:Array Value)
 obtain⟨av,z_⟩:∃k,(s.heap.update a (kT λ_=>(#[]:Array Value))).get? a=some (fp "list" #[] k):=⟨_,emptied⟩
 have gB:ll a s.heap (s.heap.update a (kT λ_=>(#[]:Array Value))):=λb o U q=>(x8 _ _ _ _ U).trans q
 have big:∀k,k<64→k≤sizeLine:=λk aK=>by rw[qM];omega
 rw[ajA]
 refine aJ (listItems_at a9 rfl (aJ (Mk a9 rfl ?_ (by rw[eC];exact big _ pn) (ea _))))
 refine aJ (N1 z_ rfl (aJ (Yu ?_ (big _ pn))))
 refine aJ (Gl (jQ ?_) (ea _))
 dsimp only
 generalize iF:((s.heap.update a (kT λ_=>(#[]:Array Value))).push (fp "tuple" vs.toArray 0)).push (fp "list" #[] 0)=ak
 have tF:ak.get? a=some (fp "list" #[] av):=by
  rw[←iF]
  exact dy _ (dy _ z_)
 have dZ:ll a s.heap ak:=λb o U q=>by
  rw[←iF]
  exact dy _ (dy _ (gB b o U q))
 have tail:∀(x:Unit×SortSt)(out:List Value),(gE x.2).map (·.2)=out.toArray→rp x.2=none→out.length<64→out=e3 d5 lt vs→
   aX (br prog w) A (do
    let now ←seqEpoch a
    ZQ (.ref a) λ_=>(gE x.2).map (·.2)
    match rp x.2 with
    |some dK=>do
     rule "list.sort.comparison-raised"
     throw dK
     if(now !=av)=true then do
      rule "list.sort.modified"
      NH "ValueError" "list modified during sort"
      ret d5
     else ret d5
    |_=>
     if(now !=av)=true then do
      rule "list.sort.modified"
      NH "ValueError" "list modified during sort"
      ret d5
     else ret d5) R E {s with heap:=ak}:=λx out ay cv Aw zc=>by
  refine aJ (N1 tF rfl (aJ (Mk tF rfl ?_ (ea _) ?_)))
  .rw[cv]
   dsimp only
   rw[aD (by simp)]
   obtain⟨c,aF⟩:∃c,(ak.update a (kT λ_=>(gE x.2).map (·.2))).get? a=some (fp "list" ((gE x.2).map (·.2)) c):=⟨_,Kf tF λ_=>(gE x.2).map (·.2)⟩
   refine bM (h _ c (λb o U q=>(x8 _ _ _ _ U).trans (dZ b o U q)) ?_)
   rw[aF,ay,zc]
  .rw[ay,eC]
   have:=big _ Aw
   omega
 by_cases af:(vs.toArray.size<2)
 .rw[aI af,aI af]
  have fC:vs.length<2:=by rw[eC]at af;exact af
  refine aJ (bM (aJ (bM ?_)));refine tail ((),mz general' (vs.toArray.zip vs.toArray) #[] 7 none) vs ?_ rfl pn (YJ _ _ fC).symm
  show(vs.toArray.zip vs.toArray).map (·.2)=vs.toArray
  apply Cb.mp
  simp only[Zs,Zu]
  exact Ŏ (b1 _)
 .rw[aD af,aD af]
  have fC:2≤vs.length:=by rw[eC]at af;omega
  refine aJ (fa (aK fC {s with heap:=ak} dZ (λuI s'=>uI=κ∧s'={s with heap:=ak}) ⟨rfl,rfl⟩) ?_ λ_ _ x=>x.elim)
  rintro uI s' ⟨rfl,rfl⟩
  refine aJ (fa (kat_run (κ:=uI) (Q:=λst s'=>s'={s with heap:=ak}∧(gE st).map (·.2)=kS (e3 d5 lt vs)∧rp st=none∧(e3 d5 lt vs).length=vs.length)
   (G:=λp s'=>s'={s with heap:=ak}∧p=gQ lt (wD vs.length)) rfl fC pn (λp st s' a1 a2 ft hl=>?_) (P6 (λi j C aj aN dO=>ar fC _ dZ i j C aj aN dO) _ (GR (by omega)) λ_=>⟨rfl,rfl⟩)) ?_ λ_ _ x=>x)
  .obtain⟨d6,dC⟩:=hl
   have e:e3 d5 lt vs=p.toList.map λi=>vs.getD i d5:=by
    unfold e3 og
    rw[aD (by omega),dC]
   refine⟨d6,?_,ft,?_⟩
   .rw[e]
    exact kat_snds rfl a2
   .rw[e,bc,uJ,a1]
  .rintro⟨⟨⟩,st⟩ s' ⟨rfl,dC,kf,nP⟩
   exact tail ((),st) _ dC kf (by omega) rfl
end
open PySem PySem.Spec PyProof.Rows ai PySem.W
noncomputable def iJ(h h':Heap):Prop:=∀b o,h.get? b=some o→h'.get? b=some o
section
variable{prog:bT}{w:bJ}{A:c5}{E:Value→ax→Prop}{s:ax}{vs:List Value}{κ:my}{lt:Nat→Nat→Bool}
theorem Yh{l:Addr}{Q:Value→ax→Prop}(ar:s.heap.IsList l vs.toArray)(pn:vs.length<64)(aK:2≤vs.length→∀s1:ax,iJ s.heap s1.heap→∀Q:my→ax→Prop,Q κ s1→aX (br prog w) A.in1.in1 (As vs.toArray) Q (λ_ _=>False) s1)(aH:2≤vs.length→∀s1:ax,iJ s.heap s1.heap→∀i j C,i<vs.length→j<vs.length→C (lt i j) s1→qz prog w A.in1.in1 κ vs i j C s1)(h:∀D h' c,s.heap.objs.size≤D→iJ s.heap h'→h'.get? D=some (fp "list" (kS (e3 d5 lt vs)) c)→Q (.ref D) {s with heap:=h'}):
  aX (br prog w) A (call (.builtin "sorted") ([.ref l]:List Value)) Q E s:=by
 have big:vs.length≤sizeLine:=by rw[qM];omega
 refine P1 VY WW TF (S8 (.ref l)) ?_;unfold Builtin.«sorted»
 refine aJ (m:=Te "sorted" 1 1 _) (bM (aJ (collect_list ar ?_ big)))
 refine aJ (Gl ?_ big)
 generalize mR:(s.heap.push (fp "list" #[] 0)).update s.heap.objs.size (kT (·++vs.toArray))=G
 have gs:G.objs.size=s.heap.objs.size+1:=by rw[←mR,Ù,size_push']
 have gB:iJ s.heap G:=λb o q=>by
  have U:=en (du q)
  rw[←mR,x8 _ _ _ _ U]
  exact dy _ q
 show aX _ _ _ _ _ {s with heap:=G.push (fp "list" vs.toArray 0)}
 have cq:(G.push (fp "list" vs.toArray 0)).get? G.objs.size=some (fp "list" vs.toArray 0):=gD _ rfl
 have dZ:iJ s.heap (G.push (fp "list" vs.toArray 0)):=λb o q=>dy _ (gB b o q)
 have oO:∀h',ll G.objs.size (G.push (fp "list" vs.toArray 0)) h'→iJ s.heap h':=λh' x b o q=>x b o (en (by rw[gs];exact CT (du q))) (dZ b o q)
 refine aJ (jQ (oM Xj ⟨_,cq,rfl⟩ TC ?_ (S7 _)))
 refine P8 (s:={s with heap:=G.push (fp "list" vs.toArray 0)}) (κ:=κ) (lt:=lt) cq pn (λaf s1 x=>aK af s1 (oO _ x)) (λaf s1 x=>aH af s1 (oO _ x)) λh' c x aF=>?_
 exact⟨_,rfl,bM ⟨_,rfl,h _ h' c (by rw[gs];exact vk _) (oO _ x) aF⟩⟩
end
noncomputable def lexLt:List bj→List bj→Bool
 |.inl a::r,.inl b::q=>if a=b then lexLt r q else decide (a<b)
 |.inr a::r,.inr b::q=>if a=b then lexLt r q else decide (a.cps.toList<b.cps.toList)
 |_,_=>false
noncomputable def hC:List bj→List Bool:=CK λk=>match k with
 |.inl _=>true
 |.inr _=>false
theorem ę(a b:Int):je (.int a) (.int b)=decide (a=b):=by
 by_cases h:a=b
 .subst h;rw[dp rfl];simp[je]
 .rw[eF h];simp[je,h]
theorem YK(x y:Str):je (.str x) (.str y)=decide (x=y):=by
 by_cases h:x=y
 .subst h;rw[dp rfl];simp[je]
 .rw[eF h];simp[je,h]
section
variable{prog:bT}{w:bJ}{A:c5}{E:Value→ax→Prop}{s:ax}
theorem Fh{Q:Bool→ax→Prop}:∀(d e:List bj)(us ws:List Value)(i:Nat),cj (d.map cQ) us→cj (e.map cQ) ws→hC d=hC e→Q (lexLt d e) s→KatLex prog w A true false Q (us.zip ws) i s
 |[],e,us,ws,i,v1,v2,hs,h=>by
  cases v1
  have cF:e=[]:=by
   cases e with
   |nil=>rfl
   |cons _ _=>cases hs
  subst cF
  exact kat_nil h
 |.inl a::r,[],_,_,_,_,_,hs,_=>by cases hs
 |.inr a::r,[],_,_,_,_,_,hs,_=>by cases hs
 |.inl a::r,.inr b::q,_,_,_,_,_,hs,_=>by simp[hC]at hs
 |.inr a::r,.inl b::q,_,_,_,_,_,hs,_=>by simp[hC]at hs
 |.inl a::r,.inl b::q,_,_,i,.cons b6 t1,.cons c8 dx,hs,h=>by
  obtain⟨t,rfl⟩:=b6
  obtain⟨u,rfl⟩:=c8
  have rJ:hC r=hC q:=by simpa[hC]using hs
  unfold lexLt at h
  refine kat_cons (keq_flat (d:=.int a) (e:=.int b) (λ_=>.int a t) (λ_=>.int b u) prog w _ _ ?_)
  rw[ę]
  by_cases e:a=b
  .rw[aI e]at h
   rw[dp e]
   exact kat_yes (Fh r q _ _ _ t1 dx rJ h)
  .rw[aD e]at h
   rw[eF e]
   refine kat_no ?_
   cases i with
   |zero=>exact oneLt_int h
   |succ i=>exact kat_one _ _ (lt_int h)
 |.inr a::r,.inr b::q,_,_,i,.cons b6 t1,.cons c8 dx,hs,h=>by
  obtain⟨t,rfl⟩:=b6
  obtain⟨u,rfl⟩:=c8
  have rJ:hC r=hC q:=by simpa[hC]using hs
  unfold lexLt at h
  refine kat_cons (keq_flat (d:=.str a) (e:=.str b) (λ_=>.str a t) (λ_=>.str b u) prog w _ _ ?_)
  rw[YK]
  by_cases e:a=b
  .rw[aI e]at h
   rw[dp e]
   exact kat_yes (Fh r q _ _ _ t1 dx rJ h)
  .rw[aD e]at h
   rw[eF e]
   refine kat_no ?_
   cases i with
   |zero=>exact oneLt_str h
   |succ i=>exact kat_one _ _ (lt_str h)
end
noncomputable def h3(ds:List (List bj))(i j:Nat):Bool:=lexLt (ds.getD i []) (ds.getD j [])
theorem Nz:∀{ts:List Addr}{us:List Value},cj (ts.map V.ref) us→us=ts.map da
 |[],_,.nil=>rfl
 |t::ts,_,.cons r q=>by
  cases r
  rw[Nz q]
  rfl
noncomputable def VU:bj→Bool
 |.inl _=>true
 |.inr _=>false
noncomputable def F6(b:Bool):Value:=if b=true then .type "int" else .type "str"
theorem GV{P:bT}{w:bJ}{H:ae}{h ag:Heap}(ok:fe P w H h)(x:iJ h ag){b:Bool}:∀{ts:List Addr}{ds:List (List bj)},bZ (λr d=>H r=some (.tup (d.map cQ))) ts ds→(∀d∈ds,∃r,hC d=b::r)→
  ∃fs,KatTups ag (ts.map da) fs∧fs.length=ts.length∧∀v∈fs,∃k:bj,VU k=b∧RelV (cQ k) v
 |[],[],_,_=>⟨[],KatTups.nil,rfl,λ_ h=>bB h eB⟩
 |t::ts,d::ds,.cons r q,hd=>by
  obtain⟨fs,k1,k2,k3⟩:=GV ok x q λd' h'=>hd d' (.tail _ h')
  obtain⟨jw,hs⟩:=hd d (.head _)
  obtain⟨_,its,b7,o,a9,aF,n,hA⟩:=ok t _ r
  cases d with
  |nil=>cases hs
  |cons k d=>
   cases b7 with
   |cons ox lr=>
    rename_i f fr
    refine⟨f::fs,KatTups.cons (x _ _ a9) aF hA (by simp) k1,by simp[k2],λv bG=>?_⟩
    rcases fy.mp bG with rfl|ajh
    .refine⟨k,?_,ox⟩
     have:hC (k::d)=VU k::hC d:=by cases k<;>rfl
     rw[this]at hs
     exact(Ru hs).1
    .exact k3 v ajh
 |[],d::ds,h,_=>nomatch h
 |t::ts,[],h,_=>nomatch h
section
variable{X:bw}
theorem E1:iV "sorted"=some (.builtin "sorted"):=by decide+kernel
theorem amb:jH X (.builtin "sorted") (λxs H Q=>∃(p:Addr)(ts:List Addr)(ds:List (List bj))(b:Bool)(mf:List Bool),xs=[.ref p]∧aR X.K H p (ts.map V.ref)∧bZ (λr d=>H r=some (.tup (d.map cQ))) ts ds∧ts.length<64∧(∀d∈ds,hC d=b::mf)∧
  ∀l,H l=none→Q (.ref l) (upd H l (.lst (e3 .bR (h3 ds) (ts.map V.ref))))):=by
 intro pins s σ H xs us Q I r h
 obtain⟨p,ts,ds,b,mf,rfl,bg,di,pn,l0,q⟩:=h
 obtain⟨u,rfl,e4⟩:=vals1 r
 cases e4
 obtain⟨its,b7,pl,bQ⟩:=I.list bg
 have hlen:=b7.length
 rw[bc]at hlen
 obtain rfl:=Nz b7
 have ahm:ts.length=ds.length:=iy di
 have at_:∀i,i<ts.length→∃d its,(ts.map da).getD i d5=.ref ts[i]!∧ds.getD i []=d∧hC d=b::mf∧cj (d.map cQ) its∧IsTup s.heap ts[i]! its.toArray:=λi aj=>by
  have av:ts[i]?=some ts[i]:=cg aj
  have ay:ds[i]?=some ds[i]:=cg (by omega)
  have cv:ts[i]! =ts[i]:=by simp[aj]
  have aQ:H ts[i]=some (.tup (ds[i].map cQ)):=by
   have:∀{l:List Addr}{m:List (List bj)}{k:Nat}{x:Addr}{y:List bj},bZ (λr d=>H r=some (.tup (d.map cQ))) l m→l[k]?=some x→m[k]?=some y→H x=some (.tup (y.map cQ)):=λ{l m k x y}P=>by
    induction P generalizing k with
    |nil=>intro h;simp at h
    |cons a t ba=>
     cases k with
     |zero=>intro ag af;simp at ag af;subst ag;subst af;exact a
     |succ k=>intro ag af;simp at ag af;exact ba ag af
   exact this di av ay
  obtain⟨_,its,v1,t1⟩:=I.bh _ _ aQ
  refine⟨ds[i],its,?_,?_,l0 _ (eg _),v1,?_⟩
  .rw[cY,b8,av,cv];rfl
  .rw[cY,ay];rfl
  .rw[cv];exact t1
 refine Yh (κ:=tuples' true) (lt:=h3 ds) pl.isList (by rw[bc];exact pn) (λaf s1 x o3 eu=>?_) (λaf s1 x i j C aj aN dO=>?_) λD h' c hle x aF=>?_
 .obtain⟨fs,k1,k2,k3⟩:=GV I.bh x di λd hd=>⟨mf,l0 d hd⟩
  rw[bc]at af
  refine kat_kind (T:=F6 b) k1 (by omega) (λv bG=>?_) (by cases b<;>decide+kernel) ?_
  .obtain⟨k,d3,ox⟩:=k3 v bG
   subst d3
   cases k with
   |inl i=>obtain⟨t,rfl⟩:=ox;exact CN rfl
   |inr i=>obtain⟨t,rfl⟩:=ox;exact CN rfl
  .have e:(F6 b !=s_ "tuple")=true:=by cases b<;>decide+kernel
   rw[e]
   exact eu
 .rw[bc]at aj aN
  obtain⟨d,its,a1,a2,ft,hl,o,a9,_,n,hA⟩:=at_ i aj
  obtain⟨d',its',d6,dC,kf,nP,cO,i3,_,kv,KX⟩:=at_ j aN
  unfold qz
  rw[a1,d6]
  have gy:=hl.length
  have e_:=nP.length
  rw[bc]at gy e_
  have l9:d.length=d'.length:=by
   have e:=eK sQ (ft.trans kf.symm)
   simpa[hC]using e
  refine kat_lt (b:=true) (x _ _ a9) hA (x _ _ i3) KX ?_
  rw[eF (by rw[eC,eC];omega)]
  refine Fh d d' its its' 0 hl nP (ft.trans kf.symm) ?_
  have:h3 ds i j=lexLt d d':=by unfold h3;rw[a2,dC]
  rw[←this]
  exact dO
 .refine⟨.ref D,_,I.laid (a:=D) (o:=.lst (e3 .bR (h3 ds) (ts.map V.ref))) (t':=s.toks) (λb o q=>x b o q) hle ?_,rfl,q D (I.bh.fresh hle)⟩
  refine⟨?_,_,c,EN b7,aF⟩
  rw[AF,bc,qM]
  omega
end
open PySem PySem.Spec PyProof.Rows ai
noncomputable def j'(h:Heap)(d:Addr)(es:Array qZ)(ep:Nat):Prop:=∃o,h.get? d=some o∧o.ExactDict∧o.data=.dict es ep
section
variable{prog:bT}{w:bJ}{A:c5}{E:Value→ax→Prop}{s:ax}{it d:Addr}{i ep:Nat}{es:Array qZ}{ok ej:Value}
theorem aaN{Q:Option Value→ax→Prop}(hit:sN s.heap it d i es.size ep ok ej)(hd:j' s.heap d es ep)(aj:i<es.size)(eu:∀h',QZ h' it d (i+1) es.size ep es[i].key es[i].val s.heap.objs.size→h'.get? s.heap.objs.size=some {cls:=.type "tuple",data:=.seq #[es[i].key,es[i].val]}→
   (∀b o,b≠it→s.heap.get? b=some o→h'.get? b=some o)→Q (some (.ref s.heap.objs.size)) {s with heap:=h'}):aX (br prog w) A (kB (.ref it)) Q E s:=by
 obtain⟨G,jn,ti,a5,os⟩:=s
 obtain⟨o,a9,_,hA⟩:=hd
 have T0:SE ⟨G,jn,ti,a5,os⟩ (.ref it) "dict_itemiterator":=⟨_,hit,rfl⟩
 have rU:¬((da d==d5)=true):=fb
 have own:Ce "dict_itemiterator"=true:=by decide
 have lit:it<G.objs.size:=du hit
 unfold kB
 refine aJ (Gj (O1 (name:=lI "__next__") T0 F.slot_dict_itemiterator_next (oM F.slot_dict_itemiterator_next T0 F.entry_dict_itemiterator_next ?_ (F.args_dict_itemiterator_next_1 _))))
 refine aJ (bM (aJ (aJ ?_)))
 first
 |refine aJ (O7 T0 (bM (aJ (uD hit rfl ?_))))
 |refine aJ (O9 T0 (bM (aJ (uD hit rfl ?_))))
 simp only[own,if_true]
 change aX _ _ (ite ((da d==d5)=true) _ _) _ _ _
 rw[aD rU]
 refine aJ (bM (aJ (BJ a9 hA ?_)))
 rw[aD (by simp)]
 refine aJ (bM (aJ (BK a9 hA ?_)))
 rw[aD (by simp)]
 refine bM ?_
 simp only[show¬((i:Int)<0)from by omega,if_false,mq,xx aj]
 refine aJ ?_
 first
 |refine aJ (O7 T0 (bM (aJ (O3 T0 ?_))))
 |refine aJ (O9 T0 (bM (aJ (O3 T0 ?_))))
 show aX _ _ (xi (.ref it) 3 (qJ ((i:Int)+1)) >>=_) _ _ ⟨G,jn,ti,a5,os⟩
 refine aJ (Gn hit (by simp) λoS av dY=>?_)
 have dY:lB it G oS:=dY
 have av:sN oS it d (i+1) es.size ep ok ej:=by
  have z:((i+1:Nat):Int)=(i:Int)+1:=by omega
  unfold sN
  rw[z]
  simpa[qJ]using av
 have vw:SE ⟨oS,jn,ti,a5,os⟩ (.ref it) "dict_itemiterator":=⟨_,av,rfl⟩
 refine aJ (jQ (aJ (O3 vw (aJ (O3 vw ?_)))))
 show aX _ _ (ZP (.ref it) 6 es[i].key es[i].val) _ _ ⟨oS,jn,ti,a5,os⟩
 simp only[ZP];refine aJ (Yu ?_)
 have b4:oS.objs.size=G.objs.size:=dY.1
 have ay:sN (oS.push {cls:=.type "tuple",data:=.seq #[es[i].key,es[i].val]}) it d (i+1) es.size ep ok ej:=dy _ av
 have dx:(oS.push {cls:=.type "tuple",data:=.seq #[es[i].key,es[i].val]}).get? G.objs.size=some {cls:=.type "tuple",data:=.seq #[es[i].key,es[i].val]}:=by
  rw[←b4];exact gD _ rfl
 have k2:∀b u,b≠it→G.get? b=some u→(oS.push {cls:=.type "tuple",data:=.seq #[es[i].key,es[i].val]}).get? b=some u:=λb u U q=>dy _ (dY.extBut b u U q)
 show aX _ _ (ZO (.ref it) >>=_) _ _ ⟨oS.push {cls:=.type "tuple",data:=.seq #[es[i].key,es[i].val]},jn,ti,a5,os⟩
 rw[b4]
 generalize oS.push {cls:=.type "tuple",data:=.seq #[es[i].key,es[i].val]}=QB at ay dx k2⊢
 refine aJ ?_
 unfold ZO;refine aJ (O2 ay rfl (x:=.none) rfl (bM ?_))
 simp only[if_true]
 refine aJ (O2 ay rfl (x:=ok) rfl (aJ (O2 ay rfl (x:=ej) rfl ?_)))
 refine aJ (Gn ay (by simp) λG9 cv tX=>?_)
 have tX:lB it QB G9:=tX
 have cv:sN G9 it d (i+1) es.size ep es[i].key ej:=cv
 refine aJ (Gn cv (by simp) λG' er AE=>?_)
 have AE:lB it G9 G':=AE
 have er:sN G' it d (i+1) es.size ep es[i].key es[i].val:=er
 refine aJ (Gn er (by simp) λG_ gM EL=>?_)
 have EL:lB it G' G_:=EL
 have gM:QZ G_ it d (i+1) es.size ep es[i].key es[i].val G.objs.size:=gM
 refine aJ (Gn gM (by simp) λCx jZ Mq=>?_)
 have Mq:lB it G_ Cx:=Mq
 have jZ:QZ Cx it d (i+1) es.size ep es[i].key es[i].val G.objs.size:=jZ
 have all:∀b u,b≠it→QB.get? b=some u→Cx.get? b=some u:=λb u U q=>Mq.extBut b u U (EL.extBut b u U (AE.extBut b u U (tX.extBut b u U q)))
 exact aJ (Gk (bM (bM ⟨_,rfl,bM (eu Cx jZ (all _ _ (yy lit) dx) λb u U q=>all b u U (k2 b u U q))⟩)))
theorem aaO{Q:Option Value→ax→Prop}(ef:A.handled=none)(hit:sN s.heap it d i es.size ep ok ej)(hd:j' s.heap d es ep)(aj:es.size≤i)(eu:∀h',Heap.ExtBut it s.heap h'→Q none {s with heap:=h'}):
  aX (br prog w) A (kB (.ref it)) Q E s:=by
 obtain⟨o,a9,_,hA⟩:=hd
 have T0:s.TypeIs (.ref it) "dict_itemiterator":=⟨_,hit,rfl⟩
 have rU:¬((da d==d5)=true):=fb
 have own:Ce "dict_itemiterator"=true:=by decide
 unfold kB
 refine aJ (Gj (O1 (name:=lI "__next__") T0 F.slot_dict_itemiterator_next (oM F.slot_dict_itemiterator_next T0 F.entry_dict_itemiterator_next ?_ (F.args_dict_itemiterator_next_1 _))))
 refine aJ (bM (aJ (aJ ?_)))
 first
 |refine aJ (O7 T0 (bM (aJ (uD hit rfl ?_))))
 |refine aJ (O9 T0 (bM (aJ (uD hit rfl ?_))))
 simp only[own,if_true]
 change aX _ _ (ite ((da d==d5)=true) _ _) _ _ _
 rw[aD rU]
 refine aJ (bM (aJ (BJ a9 hA ?_)))
 rw[aD (by simp)]
 refine aJ (bM (aJ (BK a9 hA ?_)))
 rw[aD (by simp)]
 refine bM ?_
 simp only[show¬((i:Int)<0)from by omega,if_false,mq,Ca aj]
 refine aJ ?_
 first
 |refine aJ (O7 T0 (bM ?_))
 |refine aJ (O9 T0 (bM ?_))
 change aX _ _ (xi (.ref it) 2 d5 >>=_) _ _ s;refine aJ (Yy hit rfl (by simp) ?_)
 change aX _ _ (newExc (.type "StopIteration") [] >>=_) _ _ _;refine aJ ?_
 simp only[newExc,newTuple];refine aJ (sj ?_ (by size_fits))
 refine aJ (m:=J_ _ _) (Gm (a:=d5) (by first|rfl|(simp only[J_];rfl)) (sj ?_ (by size_fits)))
 have il:A.in1.handled=none:=ef
 simp only[raiseNew];refine aJ (wpAny_handled ?_)
 rw[il];refine aJ (bM (wpAny_throw ?_))
 refine aJ (Ys (b:=true) (T:="StopIteration") ⟨_,gD _ rfl,rfl⟩ ajq ?_)
 exact bM (eu _ (Hf (Hf (Õ (QM ..)) _) _))
theorem ú{v:Addr}{Q:Value→ax→Prop}(bG:s.heap.IsItemsView v d)(hd:j' s.heap d es ep)(eu:Q (.ref s.heap.objs.size) {s with heap:=s.heap.push {cls:=.type "dict_itemiterator",data:=.fields #[.none,.bool false,.ref d,.int 0 0,.int es.size 0,.int ep 0,.none,.none]}}):aX (br prog w) A (A3 (.ref v)) Q E s:=by
 obtain⟨i8,ag,_,nT⟩:=id bG
 obtain⟨o,a9,_,hA⟩:=hd
 have rU:¬((da d==d5)=true):=fb
 have own:Ce "dict_itemiterator"=true:=by decide
 have vw:=bG.typeIs
 refine Yv vw F.slot_dict_items_iter (oM F.slot_dict_items_iter vw F.entry_dict_items_iter ?_ (F.args_dict_items_iter_1 _))
 unfold Builtin.«dict_items.__iter__» amZ;refine aJ (bM (aJ ?_))
 refine aJ (O2 ag nT (x:=.ref d) rfl (bM (aJ ?_)))
 unfold am0;refine aJ (BJ a9 hA (aJ (BK a9 hA ?_)))
 simp only[own,if_true]
 refine sj ?_ (by simp only[qM,sizeOk,ZN,ff,eC,hS,q4];omega)
 refine bM ⟨_,rfl,"dict_itemiterator",_,⟨_,gD _ rfl,rfl⟩,F.slot_dict_itemiterator_next.lookup,?_⟩
 simpa[qJ,ZN]using eu
theorem ZS{Q:Value→ax→Prop}(hs:(d==jP)=false)(hd:j' s.heap d es ep)(eu:Q (.ref s.heap.objs.size) {s with heap:=s.heap.push {cls:=.type "dict_items",data:=.fields #[.ref d]}}):
  aX (br prog w) A (call (.builtin "dict.items") ([.ref d]:List Value)) Q E s:=by
 obtain⟨o,a9,ao,hA⟩:=hd
 have T0:s.TypeIs (.ref d) "dict":=⟨o,a9,ao.1⟩
 refine oM F.slot_dict_items T0 F.entry_dict_items ?_ (F.args_dict_items_1 _)
 unfold Builtin.«dict.items»
 refine aJ ?_
 unfold amY
 refine aJ (amm T0 ?_)
 show aX _ _ (pure d) _ _ s
 refine bM ?_
 change aX _ _ (GS d >>=_) _ _ s;unfold GS
 rw[aD (by rw[hs];exact fb)]
 exact aJ (bM (aJ (sj (bM ⟨_,rfl,eu⟩))))
end
section
variable{X:bw}{pins:List (Addr×Obj)}{σ:ai.St}{H:ae}{s:ax}{a:Addr}{u u':d4}
theorem Ge(I:Inv X pins σ H s)(aH:H a=some u)(hD:∀xs,u≠.tup xs)(ew:∀y,u≠.own y)(new:eo X.prog X.w (upd H a u') s.heap a u')(f1:∀xs,X.kP a≠some (.tup xs))(f2:∀o v,X.kP a≠some (.d9 o v))(dc:∀ps,X.kP a≠some (.oG ps)):Inv X pins σ (upd H a u') s:=by
 have other:∀{b:Addr},H b=none→upd H a u' b=none:=λ{b}e=>by
  rw[aG (λz=>by rw[z,aH]at e;cases e)]
  exact e
 refine⟨I.ok,I.os,I.bare,⟨I.base.keep,I.base.slot,λb o e n ao=>other (I.base.free b o e n ao),I.base.there,λb xs e=>?_,λb o v e=>?_,λb ps e=>?_⟩,I.loc,I.cell,other I.free,λx c e=>other (I.lT x c e),λp aQ=>?_,λb o e=>?_,I.len⟩
 .rw[aG (λz=>by rw[z]at e;exact f1 xs e)];exact I.base.h7 b xs e
 .rw[aG (λz=>by rw[z]at e;exact f2 o v e)];exact I.base.iY b o v e
 .rw[aG (λz=>by rw[z]at e;exact dc ps e)];exact I.base.jx b ps e
 .obtain⟨ag,af,aU,bP,cZ⟩:=I.pin p aQ
  exact⟨ag,other af,aU,bP,cZ⟩
 .by_cases U:b=a
  .subst U
   rw[a4]at e
   cases e
   exact new
  .rw[aG U]at e
   refine(I.bh b o e).nt (λc v _ q=>q) (λc q=>?_) λc xs q=>?_
   .rw[aG (λz=>by rw[z,aH]at q;exact ew _ (gT q))];exact q
   .rw[aG (λz=>by rw[z,aH]at q;exact hD _ (gT q))];exact q
inductive afe(bY:TE)(σ:ai.St)(H:ae)(Q:bk):Prop where
 |mk (a:_) (kvs:_) (b4:H a=some (.cE kvs)) (bL:∀o,bY σ (upd H a (.d9 o (.cE kvs))) λv H'=>H' a=some (.d9 o (.cE kvs))∧Q v (upd H' a (.cE kvs)))
noncomputable def alk(bY:TE):TE:=λσ H Q=>afe bY σ H Q
theorem adV{e:Expr}{bY:TE}(he:bE X e bY):bE X e (alk bY):=by
 intro pins s σ H Q I h
 obtain⟨a,kvs,aH,h⟩:=h
 have f1:∀xs,X.kP a≠some (.tup xs):=λxs z=>by have:=I.base.h7 a xs z;rw[aH]at this;cases this
 have f2:∀o v,X.kP a≠some (.d9 o v):=λo v z=>by have:=I.base.iY a o v z;rw[aH]at this;cases this
 have dc:∀ps,X.kP a≠some (.oG ps):=λps z=>by obtain⟨m,e⟩:=I.base.jx a ps z;rw[aH]at e;cases e
 obtain⟨z,y,xs,r,o,es,ep,e,c⟩:=I.bh a _ aH
 have akh:∀{H':ae}{b:Addr}{ys:List V},H b=some (.tup ys)→upd H a (.d9 o (.cE kvs)) b=some (.tup ys):=λ{H' b ys}q=>by
  rw[aG (λw=>by rw[w,aH]at q;cases q)]
  exact q
 have aS:Inv X pins σ (upd H a (.d9 o (.cE kvs))) s:=Ge I aH (by intro _ w;cases w) (by intro _ w;cases w) ⟨e,z,y,xs,bZ.jL r λp q w=>⟨w.1,akh (H':=H) w.2.1,w.2.2⟩,o,es,ep,e,c⟩ f1 f2 dc
 refine bH (he pins s σ _ _ aS (h o)) λv s1⟨x,H1,bK,b7,k8,bq⟩=>?_
 obtain⟨av,b4,nB,amB,b6,i8,JZ,JV,ay,e1⟩:=bK.bh a _ k8
 refine⟨x,upd H1 a (.cE kvs),Ge bK (u':=.cE kvs) k8 (by intro _ w;cases w) (by intro _ w;cases w) ⟨b4,nB,amB,bZ.jL b6 λp q w=>⟨w.1,?_,w.2.2⟩,i8,JZ,JV,ay,e1⟩ f1 f2 dc,b7,bq⟩
 have fP:=w.2.1
 rw[aG (λt=>by rw[t,k8]at fP;cases fP)]
 exact fP
end
noncomputable def Hl(a:Addr)(o:Obj)(kvs:List (List bj×V)):e7:=
 ⟨λi H=>H a=some (.d9 o (.cE kvs))∧i<kvs.length,λi H v H'=>∃p b k x,H p=none∧v=.ref p∧kvs[i]?=some (k,x)∧H b=some (.tup (k.map cQ))∧H'=upd H p (.tup [.ref b,x]),λi H=>H a=some (.d9 o (.cE kvs))∧kvs.length≤i⟩
theorem OW{P:bT}{w:bJ}{H:ae}{h:Heap}{a:Addr}{o:Obj}{kvs:List (List bj×V)}(ok:fe P w H h)(aH:H a=some (.d9 o (.cE kvs))):h.get? a=some o∧(a==jP)=false∧o.ExactDict∧∃es ep,o.data=.dict es ep∧es.size=kvs.length∧
  ∀(i:Nat)(k:List bj)(x:V),kvs[i]?=some (k,x)→∃b v,(∃aj:i<es.size,es[i].key=.ref b∧es[i].val=v)∧H b=some (.tup (k.map cQ))∧RelV x v:=by
 obtain⟨cF,_,y,xs,r,cO,es,ep,av,ao,hd,he,_⟩:=ok a _ aH
 rw[cF]at av
 cases av
 have gy:kvs.length=xs.length:=iy r
 have e_:es.size=xs.length:=by
  have:=eK sQ he
  simpa using this
 refine⟨cF,y,ao,es,ep,hd,by omega,λi k x aj=>?_⟩
 have lt:i<kvs.length:=(fW.mp aj).1
 have pick:∀{l:List (List bj×V)}{m:List (List bj×Addr×Value)}{j:Nat}{p:List bj×V},bZ (λ(p:List bj×V)(q:List bj×Addr×Value)=>p.1=q.1∧H q.2.1=some (.tup (p.1.map cQ))∧RelV p.2 q.2.2) l m→l[j]?=some p→∃q,m[j]?=some q∧p.1=q.1∧H q.2.1=some (.tup (p.1.map cQ))∧RelV p.2 q.2.2:=λ{l m j p}R=>by
  induction R generalizing j with
  |nil=>intro h;simp at h
  |cons a t ba=>
   cases j with
   |zero=>intro h;simp at h;subst h;exact⟨_,rfl,a⟩
   |succ j=>intro h;simp at h;simpa using ba h
 obtain⟨q,bg,_,af,aU⟩:=pick r aj
 have rF:i<es.size:=by omega
 have cv:es[i]=TA (sd (gV P w)) q:=by
  have er:es.toList[i]?=some (TA (sd (gV P w)) q):=by rw[he,b8,bg];rfl
  have gM:es.toList[i]?=some es[i]:=by simp[rF]
  rw[gM]at er
  exact gT er
 exact⟨q.2.1,q.2.2,⟨rF,by rw[cv];rfl,by rw[cv];rfl⟩,af,aU⟩
theorem ZT{P:bT}{w:bJ}{K:a3}{elts:List Expr}{k:Nat}{pos:Pos}{o:Obj}{kvs:List (List bj×V)}{es:Array qZ}{ep:Nat}(a it:Addr)(hd:o.data=.dict es ep):
  Turn P w K (.Tuple elts k pos) (Hl a o kvs) [it] it (λi h=>∃x y,sN h it a i es.size ep x y)where
 mem:=by simp
 obj:=λi h st b U=>by
  obtain⟨x,y,he⟩:=st
  have q:b=it:=by simpa using U
  subst q
  exact⟨_,he,λv z=>by
   have dt:Qb _=Qa v:=z
   cases dt⟩
 keep:=λi h h' st c0=>by
  obtain⟨x,y,he⟩:=st
  exact⟨x,y,c0 it (by simp) _ he⟩
 item:=by
  intro X fH hw fk aF i pins s σ H E I hf st bf
  subst fH hw fk
  obtain⟨x0,amC,he⟩:=st
  obtain⟨aH,aj⟩:=bf
  obtain⟨go,_,bb,qb,qa,jm,gs,ge⟩:=OW I.bh aH
  rw[hd]at jm
  cases jm
  obtain⟨m6,tm⟩:∃q,kvs[i]?=some q:=⟨_,cg aj⟩
  obtain⟨b,v,⟨rF,d3,ev⟩,U,b7⟩:=ge i m6.1 m6.2 tm
  obtain⟨f0,f1,f2,dc,f4,eU⟩:=hf it (by simp)
  refine aaN he ⟨o,go,bb,hd⟩ rF λag a9 fV aK=>⟨_,rfl,?_⟩
  refine wpAny_letOwnedTupleGo_items a9 λaf z0 iG=>?_
  have iG:lB it ag af:=iG
  rw[d3,ev]at fV
  have az:H s.heap.objs.size=none:=I.fresh
  have lit:it<s.heap.objs.size:=du he
  have oq:∀c u,c∉[it]→s.heap.get? c=some u→af.get? c=some u:=λc u jr q=>by
   have zU:c≠it:=λz=>jr (by simp[z])
   exact(iG.2 c zU).trans (aK c u zU q)
  have Kx:af.get? s.heap.objs.size=some {cls:=.type "tuple",data:=.seq #[.ref b,v]}:=(iG.2 _ (yy lit)).trans fV
  have oo:∀c q,H c=some q→c∉[it]:=λc q jr z=>by
   have dt:c=it:=by simpa using z
   subst dt
   rw[f0]at jr;cases jr
  refine⟨.ref s.heap.objs.size,upd H s.heap.objs.size (.tup [.ref b,m6.2]),?_,rfl,⟨s.heap.objs.size,b,m6.1,m6.2,az,rfl,tm,U,rfl⟩,⟨_,_,z0⟩,λc jr=>?_⟩
  .show Inv X pins σ (upd H s.heap.objs.size (.tup [.ref b,m6.2])) {s with heap:=af,gens:=s.gens,drawn:=s.drawn,toks:=s.toks}
   refine I.step (g':=s.gens) (d':=s.drawn) (t':=s.toks) (h':=af) (ch:=[it]) (λc jr=>?_) (λc u _ _ jr q _=>oq c u jr q) (λc u _ _ jr q _=>⟨u.slots,oq c u jr q⟩) (λc u jr q n=>?_)
    (λc u jr q=>⟨u,oq c u jr q⟩) (λc ys q=>?_) (λc u v q=>?_) (λc ps q=>⟨#[],?_⟩) (λm hm=>?_) (λc u q=>?_) I.bare
   .have dt:c=it:=by simpa using jr
    subst dt
    exact⟨dc,f1,f4,eU⟩
   .rw[aG (en (du q))]
    exact n
   .rw[aG (dg q az)]
    exact q
   .rw[aG (dg q az)]
    exact q
   .rw[aG (dg q az),q]
    simp
   .obtain⟨u,Dp,ahE,cf,r⟩:=hm
    refine⟨u,Dp,ahE,oq _ u (λz=>?_) cf,r⟩
    exact f1 (by simpa using z:X.env.locals=it).symm
   .by_cases D8:c=s.heap.objs.size
    .subst D8
     rw[a4]at q
     cases q
     exact⟨(by show 2≤sizeLine;decide),[.ref b,v],.cons rfl (.cons b7 .nil),_,Kx,rfl,_,rfl⟩
    .rw[aG D8]at q
     refine(I.bh c u q).nt (λc6 y n4 z=>oq c6 y ?_ z) (λc6 z=>by rw[aG (dg z az)];exact z) λc6 ys z=>by rw[aG (dg z az)];exact z
     rcases n4 with rfl|n4
     .exact oo _ _ q
     .exact oo _ _ n4
  .have dt:c=it:=by simpa using jr
   subst dt
   rw[aG (en lit)]
   exact f0
 done:=by
  intro X fH hw fk aF i pins s σ H E I hf st bf
  subst fH hw fk
  obtain⟨x0,amC,he⟩:=st
  obtain⟨aH,aj⟩:=bf
  obtain⟨go,_,bb,qb,qa,jm,gs,ge⟩:=OW I.bh aH
  rw[hd]at jm
  cases jm
  obtain⟨f0,f1,f2,dc,f4,eU⟩:=hf it (by simp)
  exact aaO (I.ok.hd aF) he ⟨o,go,bb,hd⟩ (by omega) λh' dJ=>⟨rfl,I.turned (t':=s.toks) (λb o U e=>dJ b o U e) f0 f1 dc f4 eU⟩
 self:=λ_ _ _ _ _ st h=>by
  obtain⟨x,y,he⟩:=st
  exact PySem.W.kcp_self he h
section
variable{X:bw}{elts:List Expr}{k:Nat}{BD:Pos}
noncomputable def abN(dQ:TE):TI:=λσ H R=>dQ σ H λx H1=>∃a o kvs,x=.ref a∧H1 a=some (.d9 o (.cE kvs))∧R (Hl a o kvs) H1
theorem û{o:Expr}{dQ:TE}{eZ e2:Pos}(a9:bE X o dQ)(KJ:yS o "items" X.env (eval o X.env)=eval o X.env:=by rfl)(K8:(eZ.endLine==e2.line)=true:=by rfl):
  lH X (.Tuple elts k BD) (.Call (.Attribute o "items" eZ) [] [] e2) (abN dQ):=by
 intro pins s σ H R I h
 refine wpAny_Call_method0_late KJ K8 (bH (a9 pins s σ H _ I h) λv s1⟨x,H1,aS,b6,a,ob,kvs,ex,aH,bq⟩=>?_)
 subst ex
 cases b6
 obtain⟨go,Kg,bb,es,ep,jm,gs,ge⟩:=OW aS.bh aH
 refine⟨"dict","dict.items",HY,PySem.F.slot_dict_items,PySem.F.type_dict_items,⟨ob,go,bb.1⟩,λb e=>?_,Cf rfl (PySem.evalArgs_none ?_)⟩
 .cases e
  exact⟨ob,go,bb.2.1⟩
 .refine ZS Kg ⟨ob,go,bb,jm⟩ ?_
  have k1:∀b o,s1.heap.get? b=some o→(s1.heap.push {cls:=.type "dict_items",data:=.fields #[.ref a]}).get? b=some o:=λb o e=>dy _ e
  refine ú (d:=a) (es:=es) (ep:=ep) ⟨_,gD _ rfl,rfl,rfl⟩ ⟨ob,k1 _ _ go,bb,jm⟩ ?_
  have bK:Inv X pins σ H1 {s1 with heap:=s1.heap.push {cls:=.type "dict_items",data:=.fields #[.ref a]}}:=aS.kept (t':=s1.toks) k1
  refine⟨(s1.heap.push {cls:=.type "dict_items",data:=.fields #[.ref a]}).objs.size,[(s1.heap.push {cls:=.type "dict_items",data:=.fields #[.ref a]}).objs.size],_,_,H1,rfl,bK.kept (t':=s1.toks) λb o e=>dy _ e,ZT a _ jm,⟨.none,.none,gD _ rfl⟩,λb U=>?_,bq⟩
  have z:b=(s1.heap.push {cls:=.type "dict_items",data:=.fields #[.ref a]}).objs.size:=by simpa using U
  subst z
  exact bK.qe (b1 _) (bK.bh.fresh (b1 _))
end
open PySem PySem.Spec PyProof.Rows ai
section
variable{prog:bT}{w:bJ}{A:c5}{E:Value→ax→Prop}{s:ax}{it d:Addr}{i ep:Nat}{es:Array qZ}
theorem Q5{Q:Option Value→ax→Prop}(hit:s.heap.IsKeyIter it d i es.size ep)(hd:j' s.heap d es ep)(aj:i<es.size)(eu:∀h',h'.IsKeyIter it d (i+1) es.size ep→lB it s.heap h'→Q (some es[i].key) {s with heap:=h'}):aX (br prog w) A (kB (.ref it)) Q E s:=by
 obtain⟨WN,rH,zU,qm⟩:=id hit
 obtain⟨o,a9,_,hA⟩:=hd
 have T0:=hit.typeIs
 have rU:¬((da d==d5)=true):=fb
 have own:Ce "dict_keyiterator"=false:=by decide
 unfold kB
 refine aJ (Gj (O1 (name:=lI "__next__") T0 F.slot_dict_keyiterator_next (oM F.slot_dict_keyiterator_next T0 F.entry_dict_keyiterator_next ?_ (F.args_dict_keyiterator_next_1 _))))
 refine aJ (bM (aJ (aJ ?_)))
 first
 |refine aJ (O8 T0 (bM (aJ (uD rH qm ?_))))
 |refine aJ (O' T0 (bM (aJ (uD rH qm ?_))))
 simp only[own,uK,if_false];change aX _ _ (ite ((da d==d5)=true) _ _) _ _ s
 rw[aD rU]
 refine aJ (bM (aJ (BJ a9 hA ?_)))
 rw[aD (by simp)]
 refine aJ (bM (aJ (BK a9 hA ?_)))
 rw[aD (by simp)]
 refine bM ?_
 simp only[show¬((i:Int)<0)from by omega,if_false,mq,xx aj]
 refine aJ ?_
 first
 |refine aJ (O8 T0 (bM (aJ (Yt T0 ?_))))
 |refine aJ (O' T0 (bM (aJ (Yt T0 ?_))))
 change aX _ _ (xi (.ref it) 1 (qJ ((i:Int)+1)) >>=_) _ _ s
 refine aJ (Yy rH qm (by simp) ?_)
 have next:(s.heap.update it (Obj.mapFields (·.setIfInBounds 1 (qJ ((i:Int)+1))))).IsKeyIter it d (i+1) es.size ep:=
  ⟨_,x9 _ rH (Obj.isFreed_of_fields (aaU qm _)),(Obj.cls_mapFields ..).trans zU,by simp[aaU qm,qJ]⟩
 refine aJ (jQ (aJ (Yt (s:={s with heap:=s.heap.update it (Obj.mapFields (·.setIfInBounds 1 (qJ ((i:Int)+1))))}) next.typeIs ?_)))
 exact bM (bM ⟨_,rfl,bM (eu _ next (QM ..))⟩)
theorem P9{Q:Option Value→ax→Prop}(ef:A.handled=none)(hit:s.heap.IsKeyIter it d i es.size ep)(hd:j' s.heap d es ep)(aj:es.size≤i)(eu:∀h',Heap.ExtBut it s.heap h'→Q none {s with heap:=h'}):
  aX (br prog w) A (kB (da it)) Q E s:=by
 obtain⟨WN,rH,zU,qm⟩:=id hit
 obtain⟨o,a9,_,hA⟩:=hd
 have T0:=hit.typeIs
 have rU:¬((da d==d5)=true):=fb
 have own:Ce "dict_keyiterator"=false:=by decide
 unfold kB
 refine aJ (Gj (O1 (name:=lI "__next__") T0 F.slot_dict_keyiterator_next (oM F.slot_dict_keyiterator_next T0 F.entry_dict_keyiterator_next ?_ (F.args_dict_keyiterator_next_1 _))))
 refine aJ (bM (aJ (aJ ?_)))
 first
 |refine aJ (O8 T0 (bM (aJ (uD rH qm ?_))))
 |refine aJ (O' T0 (bM (aJ (uD rH qm ?_))))
 simp only[own,uK,if_false];change aX _ _ (ite ((da d==d5)=true) _ _) _ _ s
 rw[aD rU]
 refine aJ (bM (aJ (BJ a9 hA ?_)))
 rw[aD (by simp)]
 refine aJ (bM (aJ (BK a9 hA ?_)))
 rw[aD (by simp)]
 refine bM ?_
 simp only[show¬((i:Int)<0)from by omega,if_false,mq,Ca aj]
 refine aJ ?_
 first
 |refine aJ (O8 T0 (bM ?_))
 |refine aJ (O' T0 (bM ?_))
 change aX _ _ (xi (.ref it) 0 d5 >>=_) _ _ s;refine aJ (Yy rH qm (by simp) ?_)
 change aX _ _ (newExc (.type "StopIteration") [] >>=_) _ _ _;refine aJ ?_
 simp only[newExc,newTuple];refine aJ (sj ?_ (by size_fits))
 refine aJ (m:=J_ _ _) (Gm (a:=d5) (by first|rfl|(simp only[J_];rfl)) (sj ?_ (by size_fits)))
 have il:A.in1.handled=none:=ef
 simp only[raiseNew];refine aJ (wpAny_handled ?_)
 rw[il];refine aJ (bM (wpAny_throw ?_))
 refine aJ (Ys (b:=true) (T:="StopIteration") ⟨_,gD _ rfl,rfl⟩ ajq ?_)
 exact bM (eu _ (Hf (Hf (Õ (QM ..)) _) _))
theorem P'{Q:Value→ax→Prop}(hs:(d==jP)=false)(hd:j' s.heap d es ep)(eu:Q (.ref s.heap.objs.size) {s with heap:=s.heap.push {cls:=.type "dict_keyiterator",data:=.fields #[.ref d,.int 0 0,.int es.size 0,.int ep 0]}}):aX (br prog w) A (A3 (.ref d)) Q E s:=by
 obtain⟨o,a9,ao,hA⟩:=hd
 have T0:s.TypeIs (.ref d) "dict":=⟨o,a9,ao.1⟩
 refine Yv T0 F.slot_dict_iter (oM F.slot_dict_iter T0 F.entry_dict_iter ?_ (F.args_dict_iter_1 _))
 unfold Builtin.«dict.__iter__» amX;refine aJ (aJ (amm T0 ?_))
 change aX _ _ (pure (da d)) _ _ s;refine bM ?_
 change aX _ _ (GS d >>=_) _ _ s;unfold GS
 rw[aD (by rw[hs];exact fb)]
 refine aJ (bM (aJ (BJ a9 hA (aJ (BK a9 hA ?_)))))
 refine aJ (sj ?_)
 refine bM ⟨_,rfl,"dict_keyiterator",_,⟨_,gD _ rfl,rfl⟩,F.slot_dict_keyiterator_next.lookup,?_⟩
 simpa[qJ]using eu
end
open PySem PySem.Spec PyProof.Rows ai
section
variable{X:bw}{o e f:Expr}{dQ ty nu:TE}{eZ e2:Pos}
noncomputable def abO(dQ ty nu:TE):TE:=λσ H Q=>dQ σ H λx H1=>∃a,x=.ref a∧yb H1 a∧ty σ H1 λy ak=>nu σ ak λz bD=>∃kvs k,y=cQ k∧bD a=some (.ct kvs)∧kvs.length<sizeLine∧
 (∀v,cz kvs k=some v→Q v bD)∧(cz kvs k=none→Q z (upd bD a (.ct (ec kvs k z))))
theorem ü(a9:bE X o dQ)(he:bE X e ty)(hf:bE X f nu)(m:M2 X o "setdefault" eZ e f e2):bE X (.Call (.Attribute o "setdefault" eZ) [e,f] [] e2) (abO dQ ty nu):=by
 intro pins s σ H Q I h
 refine Yo m.base m.cM m.line HY abp PySem.F.type_dict_setdefault (bH (a9 pins s σ H _ I h) λu s1⟨x,H1,aS,bt,a,ex,d,bq⟩=>?_)
 subst ex
 obtain rfl:u=da a:=bt
 obtain⟨t1,dx,_⟩:=GD aS d
 refine⟨t1,dx,?_⟩
 rw[m.trees]
 refine Cf rfl (Cg (xC (bH (he pins s1 σ H1 _ aS bq) λi4 s2⟨y,ak,bK,bI,cp⟩=>xC (bH (hf pins s2 σ ak _ bK cp) λUl s3⟨z,bD,cT,FN,kvs,k,dV,bp,lk,q,c4⟩=>GY ?_))))
 subst dV
 obtain⟨B7,hs,vs,rel,dd⟩:=Do cT.bh bp
 have bQ:vs.length≤sizeLine:=by rw[←rel.length];exact B7
 have r0:=rel.val k
 refine Dc abp dd.typeIs PySem.F.entry_dict_setdefault (PySem.F.args_dict_setdefault_3 _ _ _) (kt_meets_setdefault (gV X.prog X.w) a (rZ bI) hs Ul) ⟨vs,dd,bQ,λv bG=>?_,λaz h' nW rK=>?_⟩
 .rw[bG]at r0
  cases ev:cz kvs k with
  |none=>rw[ev]at r0;exact r0.elim
  |some v1=>
   rw[ev]at r0
   exact⟨v1,bD,cT.tok _,r0,q v1 ev⟩
 .have v0:cz kvs k=none:=by
   rw[az]at r0
   cases ev:cz kvs k with
   |none=>rfl
   |some v=>rw[ev]at r0;exact r0.elim
  have ar:(ec kvs k z).length≤sizeLine:=by have:=vS kvs k z;omega
  have z0:∃q,h'.get? a=some q:=let⟨q,_,_,bg,_⟩:=nW;⟨q,bg⟩
  exact⟨z,_,Fu (ob:=.ct (ec kvs k z)) cT (by rw[bp];exact lK) rK z0 (Gz ar hs (rel.put k FN) nW),FN,c4 v0⟩
end
open PySem PySem.Spec PyProof.Rows ai PySem.W
section
variable{prog:bT}{w:bJ}{A:c5}{E:Value→ax→Prop}{s:ax}{d:Addr}{ep:Nat}{es:Array qZ}
theorem j'.lt{h:Heap}(x:j' h d es ep):d<h.objs.size:=let⟨_,a9,_⟩:=x;du a9
theorem j'.at'{h h':Heap}(x:j' h d es ep)(k:∀o,h.get? d=some o→h'.get? d=some o):j' h' d es ep:=let⟨o,a9,r⟩:=x;⟨o,k o a9,r⟩
theorem ZU(ef:A.handled=none)(I:Addr)(mV:d≠I):Walks prog w A I [I,d] [I] es.size (λi v=>∃e,es[i]?=some e∧v=e.key) (λi h=>h.IsKeyIter I d i es.size ep∧j' h d es ep)where
 sub:=λb U=>by simp at U;simp[U]
 frame:=λ_ _ _ st aK=>⟨st.1.at λo e=>aK I (by simp) o e,st.2.at' λo e=>aK d (by simp) o e⟩
 item:=λi s Q E aj st eu=>by
  refine Q5 st.1 st.2 aj λh' aM bX=>eu _ h' s.toks ⟨es[i],by simp[aj],rfl⟩ ⟨aM,st.2.at' λo e=>(bX.2 d mV).trans e⟩ λb o U e=>(bX.2 b (λz=>U (by simp[z]))).trans e
 done:=λs Q E st eu=>P9 ef st.1 st.2 (b1 _) λh' dJ=>eu h' s.toks λb o U e=>dJ b o (λz=>U (by simp[z])) e
 self:=λ_ _ _ _ st eu=>wpAny_pyIter_keyiter st.1 eu
theorem ý(lo:(d==jP)=false):KdlSrc prog w "dict" d d es.size (λi v=>∃e,es[i]?=some e∧v=e.key) (λh=>j' h d es ep)where
 type:=λ_ hm=>let⟨o,a9,ao,_⟩:=hm;⟨o,a9,ao.1⟩
 there:=λ_ hm=>⟨hm.lt,hm.lt⟩
 keep:=λ_ _ hm aK=>hm.at' λo e=>aK d (.inl rfl) o e
 notList:=by decide
 notTuple:=by decide
 hint:=λ_ _ _ _ hm bg=>kdl_hint_dict (let⟨o,a9,ao,_⟩:=hm;⟨o,a9,ao.1⟩) bg
 iter:=λ_ s ef hm=>⟨_,_,(λ_ _ bg=>P' lo hm bg),ZU ef _ (en hm.lt),⟨⟨_,gD _ rfl,rfl,rfl⟩,hm.at' λo e=>dy _ e⟩⟩
theorem Zx{vs:List Value}{κ:my}{lt:Nat→Nat→Bool}{Q:Value→ax→Prop}(lo:(d==jP)=false)(ef:A.handled=none)(hm:j' s.heap d es ep)(bG:vs=es.toList.map (·.key))(pn:vs.length<64)(aK:2≤vs.length→∀s1:ax,iJ s.heap s1.heap→∀Q:my→ax→Prop,Q κ s1→aX (br prog w) A.in1.in1 (As vs.toArray) Q (λ_ _=>False) s1)(aH:2≤vs.length→∀s1:ax,iJ s.heap s1.heap→∀i j C,i<vs.length→j<vs.length→C (lt i j) s1→qz prog w A.in1.in1 κ vs i j C s1)(h:∀ag D h' t c,iJ s.heap ag→ag.objs.size≤D→iJ ag h'→h'.get? D=some (fp "list" (kS (e3 d5 lt vs)) c)→Q (.ref D) {s with heap:=h',toks:=t}):
  aX (br prog w) A (call (.builtin "sorted") ([.ref d]:List Value)) Q E s:=by
 have big:vs.length≤sizeLine:=by rw[qM];omega
 have rF:es.size=vs.length:=by rw[bG,bc,uJ]
 refine P1 VY WW TF (S8 (.ref d)) ?_;unfold Builtin.«sorted»
 refine aJ (m:=Te "sorted" 1 1 _) (bM ?_)
 refine aJ (kdu_collect (A:=A.in1) (ý (ep:=ep) (es:=es) lo) ef hm (by rw[rF];exact big) λag a5 acc gB KC=>?_)
 have bp:acc.toList=vs:=by
  apply Rx
  intro j
  rw[bG,b8]
  by_cases aN:j<es.size
  .have Vo:j<acc.size:=by rw[KC.1];exact aN
   obtain⟨e,av,ay⟩:=KC.2 j acc[j] (by simp[Vo])
   rw[GA,GA,av,xx Vo]
   exact eK some ay
  .rw[GA,GA,Ca (by rw[KC.1];omega),Ca (by omega)]
   rfl
 rw[bp]
 refine aJ (Gl ?_ big)
 have cq:(ag.push (fp "list" vs.toArray 0)).get? ag.objs.size=some (fp "list" vs.toArray 0):=gD _ rfl
 have dZ:iJ s.heap (ag.push (fp "list" vs.toArray 0)):=λb o q=>dy _ (gB b o q)
 have oO:∀h',ll ag.objs.size (ag.push (fp "list" vs.toArray 0)) h'→iJ s.heap h':=λh' x b o q=>x b o (en (du (gB b o q))) (dZ b o q)
 have uE:∀h',ll ag.objs.size (ag.push (fp "list" vs.toArray 0)) h'→iJ ag h':=λh' x b o q=>x b o (en (du q)) (dy _ q)
 refine aJ (jQ (oM Xj ⟨_,cq,rfl⟩ TC ?_ (S7 _)))
 refine P8 (s:={s with heap:=ag.push (fp "list" vs.toArray 0),toks:=a5}) (κ:=κ) (lt:=lt) cq pn (λaf s1 x=>aK af s1 (oO _ x)) (λaf s1 x=>aH af s1 (oO _ x)) λh' c x aF=>?_
 exact⟨_,rfl,bM ⟨_,rfl,h ag _ h' _ c gB (b1 _) (uE _ x) aF⟩⟩
end
open PySem PySem.Spec PyProof.Rows ai PySem.W
end cA
namespace fx
open PySem ai cA a'
noncomputable abbrev fE:=Int×Nat
noncomputable def lq:a'.bz:=⟨0,0,0,0⟩
noncomputable def sz(hs:List (List Nat))(ds:List a'.bz)(r:Nat):Str:=S (hs.getD (ds.getD r lq).a [])
noncomputable def ni(hs:List (List Nat))(ds:List a'.bz)(r:Nat):Str:=S (hs.getD (ds.getD r lq).b [])
noncomputable def jv(ds:List a'.bz)(r:Nat):Int:=(ds.getD r lq).t
noncomputable def ir(ds:List a'.bz)(r:Nat):Int:=(ds.getD r lq).m
noncomputable def stepK(hs:List (List Nat))(ds:List a'.bz)(k:fE):Step:=⟨k.1,some k.2,ni hs ds k.2,k.1+jv ds k.2⟩
noncomputable def la(st:Step)(ns:List Nat)(sss:List (List Step)):List (List Step):=sss.mapIdx λi ss=>if i∈ns then ss++[st]else ss
theorem NA(st:Step)(ns:List Nat)(sss:List (List Step)):(la st ns sss).length=sss.length:=by
 unfold la
 rw[List.length_mapIdx]
theorem An(st:Step)(ns:List Nat)(sss:List (List Step))(i:Nat):(la st ns sss)[i]?=(sss[i]?).map λss=>if i∈ns then ss++[st]else ss:=by
 unfold la
 rw[List.getElem?_mapIdx]
theorem Τ(st:Step)(sss:List (List Step)):la st [] sss=sss:=by
 apply Rx
 intro i
 rw[An]
 simp
theorem Zy(st:Step){ns:List Nat}{n:Nat}(h:n∉ns){sss:List (List Step)}{ss:List Step}(e:sss[n]?=some ss):la st (ns++[n]) sss=(la st ns sss).set n (ss++[st]):=by
 apply Rx
 intro i
 rw[An,Ņ,An,NA]
 by_cases aj:n=i
 .subst aj
  have ar:=(fW.mp e).1
  rw[aI rfl,aI ar,e]
  simp
 .rw[aD aj]
  have:(i∈ns++[n])↔i∈ns:=by
   rw[el,e8]
   exact⟨λz=>z.elim id λw=>bB w.symm aj,.inl⟩
  simp only[this]
noncomputable def mask(H:ae)(ts:List Addr):ae:=λb=>if b∈ts then none else H b
theorem qv{H:ae}{ts:List Addr}{b:Addr}{o:d4}(e:H b=some o)(n:b∉ts):mask H ts b=some o:=by
 unfold mask
 rw[aD n]
 exact e
theorem aal{H:ae}{ts:List Addr}{b:Addr}(h:b∈ts):mask H ts b=none:=aI h
theorem Υ(H:ae)(ts:List Addr):aP (mask H ts) H:=λb o e=>by
 unfold mask at e
 split at e
 .cases e
 .exact e
noncomputable def iZ(H:ae)(a:Addr)(b:fE×List Nat):Prop:=∃c,H a=some (.tup [.int b.1.1,.int b.1.2,.ref c])∧H c=some (.tup (b.2.map λn:Nat=>V.int n))
theorem iZ.same{H H':ae}{a:Addr}{b:fE×List Nat}(h:iZ H a b)(aC:aP H H'):iZ H' a b:=let⟨c,ag,af⟩:=h;⟨c,aC _ _ ag,aC _ _ af⟩
structure m8(C:Addr)(H:ae)(x n g st:Addr)(gs:List Str)(ls:List Addr):Prop where
 ins:∃au,H x=some (.ins C au (Gb n g st))
 goals:H g=some (.lst (gs.map V.str))
 steps:H st=some (.lst (aL ls))
theorem m8.same{C:Addr}{H H':ae}{x n g st:Addr}{gs:List Str}{ls:List Addr}(h:m8 C H x n g st gs ls)(aC:aP H H'):m8 C H' x n g st gs ls:=
 let⟨au,e⟩:=h.ins;⟨⟨au,aC _ _ e⟩,aC _ _ h.goals,aC _ _ h.steps⟩
theorem m8.at_{C:Addr}{H:ae}{x n g st:Addr}{gs:List Str}{ls:List Addr}{sss:List (List Step)}(h:m8 C H x n g st gs ls)(e:bZ (gF H) ls sss):WalkAt C H x n g st gs ls sss:=⟨h.ins,h.goals,h.steps,e⟩
theorem gF.same{H H':ae}{l:Addr}{ss:List Step}(h:gF H l ss)(aC:aP H H'):gF H' l ss:=let⟨ts,a,b⟩:=h;⟨ts,aC _ _ a,b.same aC⟩
theorem Yi{H H':ae}{ls:List Addr}{sss:List (List Step)}(h:bZ (gF H) ls sss)(aC:aP H H'):bZ (gF H') ls sss:=bZ.jL h λ_ _ e=>e.same aC
theorem WalkAt.same{C:Addr}{H H':ae}{x n g st:Addr}{gs:List Str}{ls:List Addr}{sss:List (List Step)}(h:WalkAt C H x n g st gs ls sss)(aC:aP H H'):WalkAt C H' x n g st gs ls sss:=
 let⟨au,e⟩:=h.ins;⟨⟨au,aC _ _ e⟩,aC _ _ h.goals,aC _ _ h.steps,Yi h.each aC⟩
theorem YL{H H':ae}{l:Addr}{FV:List Step}(new:gF H' l FV)(old:∀lb ss,lb≠l→gF H lb ss→gF H' lb ss):∀{ls:List Addr}{sss:List (List Step)}{n:Nat},bZ (gF H) ls sss→ls.Nodup→ls[n]?=some l→bZ (gF H') ls (sss.set n FV)
 |_,_,n,.nil,_,e=>by simp at e
 |a::ls,s0::sss,0,.cons r t,aE,e=>by
  simp only[RA,R2]at e
  subst e
  rw[jU]at aE
  refine .cons new ?_
  have:∀{ms:List Addr}{uz:List (List Step)},bZ (gF H) ms uz→a∉ms→bZ (gF H') ms uz:=λ{ms uz}p=>by
   induction p with
   |nil=>exactλ_=>.nil
   |cons r t ba=>exactλh=>.cons (old _ _ (λz=>h (by rw[z];exact .head _)) r) (ba λz=>h (.tail _ z))
  exact this t aE.1
 |a::ls,s0::sss,n+1,.cons r t,aE,e=>by
  rw[jU]at aE
  have b5:ls[n]?=some l:=by simpa using e
  exact .cons (old _ _ (λz=>aE.1 (by rw[z];exact eI b5)) r) (YL new old t aE.2 b5)
section
variable{P:bT}{w:bJ}{K:a3}{aa:Str→Option Value}{base:Heap}
inductive þ(C:Addr)(vs:(List ai.V))(H:ae)(Q:bk)(bF:cy):Prop where
 |mk (x bx aZ:Addr) (xs ys:List ai.V) (k:Int) (v:ai.V) (b4:vs=[.ref x,.int k]) (bL:ku C H x bx aZ xs ys) (cG:0≤k) (c2:k<ys.length) (dR:ai.e0 ys k=some v) (eW:Q v H)
noncomputable def Fy(C:Addr):cW:=λvs H Q bF=>þ C vs H Q bF
theorem ÿ{C f:Addr}{fd:cP}(F:b0 K "road" "Net.road" rS f fd)(B:g4 aa)(fq:sq K C):aY P w K aa base bu 1 f fd ["self","number"] (Fy C):=by
 refine F.ok P5 (λvs H Q E h=>?_) (λbC A outer s H vs Q E aw h=>?_)
 .obtain⟨x,bx,aZ,xs,ys,k,v,rfl,_⟩:=h
  rfl
 .obtain⟨x,bx,aZ,xs,ys,k,v,rfl,n,h0,ag,bG,q⟩:=h
  obtain⟨au,ao⟩:=n.ins
  refine⟨_,(bO (f5 (pC (NG uj Cn bl (ah 1) (gd mE (by rfl) B.len lV (aB (ha (ah 0) (by rfl)) a8)))) (bW ND) f3)
   (bW (dH (b9 gp (ha (ah 0) (by rfl)) (ah 1) (λ_ _=>rfl))))),?_⟩
  refine⟨_,rfl,_,_,rfl,rfl,_,rfl,?_⟩
  refine f6 (dp h0) ⟨_,rfl,x,C,au,_,_,rfl,ao,fq.cl,fq.fL,rfl,aZ,_,rfl,.inl (aR.of n.r7),_,_,rfl,rfl,_,rfl,?_⟩
  refine Hd ag ?_
  exact⟨_,rfl,x,C,au,_,_,rfl,ao,fq.cl,fq.fL,rfl,_,rfl,aZ,_,_,_,rfl,rfl,aR.of n.r7,bG,q⟩
inductive aam(C bA:Addr)(vs:(List ai.V))(H:ae)(Q:bk)(bF:cy):Prop where
 |mk (oT:ae) (x n g st bx aZ iU:Addr) (gs:List Str) (ls rs:List Addr) (sss:List (List Step)) (hs:List (List Nat)) (ds:List a'.bz) (b:fE×List Nat) (b4:vs=[.ref x,.ref iU]) (bL:aP oT H) (cG:m8 C oT x n g st gs ls) (c2:bZ (gF H) ls sss) (dR:ls.Nodup) (eW:(∀l∈ls,oT l=none)) (h8:ku bA oT n bx aZ (dr hs) (aL rs)) (jz:hp oT hs rs ds) (oP:iZ oT iU b) (xw:b.1.2<ds.length) (B2:b.2.Nodup) (Y1:(∀i∈b.2,i<sss.length)) (amJ:(∀ss∈sss,ss.length≤100)) (amK:∀H',aP oT H'→bZ (gF H') ls (la (stepK hs ds b.1) b.2 sss)→Q .bR H')
noncomputable def GI(C bA:Addr):cW:=λvs H Q bF=>aam C bA vs H Q bF
noncomputable abbrev BX:Stmt:=iH (top 13) 2
theorem GJ:dT ["self","bag","road","number"] ["self","bag"] (dh BX):=⟨rfl,rfl,rfl,by decide+kernel,rfl,by decide+kernel,by decide+kernel⟩
theorem aan{C bA f f1:Addr}{fd fv:cP}(F:b0 K "send" "Walk.send" BX f fd)(cx:pI K C)(gU:g5 K bA)(mH:eD K bA "road" "Net.road" rS ["self","number"] f1 fv)(tq:aY P w K aa base bu 1 f1 fv ["self","number"] (Fy bA)):
  aY P w K aa base bu 2 f fd ["self","bag"] (GI C bA):=by
 refine F.ok GJ (λvs H Q E h=>?_) (λbC A outer s H vs Q E aw h=>?_)
 .obtain⟨oT,x,n,g,st,bx,aZ,iU,gs,ls,rs,sss,hs,ds,b,rfl,_⟩:=h
  rfl
 .obtain⟨oT,x,n,g,st,bx,aZ,iU,gs,ls,rs,sss,hs,ds,b,rfl,bX,W,each,aE,fr,N,R,aib,qr,Wu,bN,cM,q⟩:=h
  obtain⟨au,ao⟩:=W.ins
  obtain⟨fj,az⟩:=N.ins
  obtain⟨c,i2,hY⟩:=aib
  have gY:=R.len
  refine⟨_,(bO (dB (i:=2) GJ.aE rfl (cC rfl) (hU (ha (ah 0) (by rfl)) gU mH.gI tq (aw.mono (by decide)) mH.bd .nil dI (aB (b9 d2 (ah 1) bl (λ_ _=>rfl)) a8)))
   (bW (hV hF rfl (Gw (b9 d2 (ah 1) bl (λ_ _=>rfl))) (de (i:=3) GJ.aE rfl (cC rfl))
    (bW (iB (pH p4 p5 p6 nR (b9 gp (ha (ah 0) (by rfl)) (ah 3) (λ_ _=>rfl)) (aB (hu (aB (b9 d2 (ah 1) bl (λ_ _=>rfl)) (aB (b9 d2 (ah 1) bl (λ_ _=>rfl)) (aB (b9 d2 (ah 2) bl (λ_ _=>rfl)) (aB (cK ie (b9 d2 (ah 1) bl (λ_ _=>rfl)) (b9 d2 (ah 2) bl (λ_ _=>rfl))) a8))))) a8))))))),?_⟩
  obtain⟨r,dK⟩:∃r,rs[b.1.2]?=some r:=⟨_,cg (by omega)⟩
  obtain⟨d,c',_,hd⟩:=R.get dK
  have cF:ds.getD b.1.2 lq=d:=k_ c'
  refine⟨_,rfl,x,C,au,_,_,rfl,bX _ _ ao,cx.cl,cx.nn,rfl,n,fj,_,rfl,bX _ _ az,rfl,_,rfl,iU,_,_,_,rfl,rfl,b2.of (bX _ _ i2),rfl,n,bx,aZ,_,_,_,_,rfl,N.same bX,(by omega),(by have:=fS rs;omega),(ho (by unfold aL;rw[b8,dK];rfl)),?_⟩
  refine⟨_,rfl,iU,_,_,_,rfl,rfl,b2.of (bX _ _ i2),rfl,c,rfl,?_⟩
  refine⟨⟨_,b2.of (bX _ _ hY)⟩,?_⟩
  have ahv:ow hs d=[.str (sz hs ds b.1.2),.str (ni hs ds b.1.2),.int (jv ds b.1.2),.int (ir ds b.1.2)]:=by
   unfold ow sz ni jv ir
   rw[cF]
  rw[ahv]at hd
  refine OK (K:=K) (a:=c) (xs:=b.2.map λn:Nat=>V.int n) (λj σ ix=>∃gK,σ=[some (.ref x),some (.ref iU),some (.ref r),gK]∧aP oT ix∧bZ (gF ix) ls (la (stepK hs ds b.1) (b.2.take j) sss))
   ⟨none,rfl,bX,by rw[CL,Τ];exact each⟩ (λj σ ix _⟨_,_,h,_⟩=>b2.of (h _ _ hY)) ?_ ?_
  .rintro j z σ ix cV ⟨gK,rfl,kG,eP⟩
   rw[b8]at cV
   obtain⟨i,iD,rfl⟩:=eh.mp cV
   have aj:=bN i (eI iD)
   obtain⟨ss,es⟩:∃ss,sss[i]?=some ss:=⟨_,cg aj⟩
   have Wz:i∉b.2.take j:=λz=>by
    have aN:=(fW.mp iD).1
    have ay:=p1 j b.2
    rw[CH aN]at ay
    rw[←ay,oW]at Wu
    have cv:b.2[j]=i:=by
     rw[cg aN]at iD
     exact gT iD
    exact Wu.2.2 i z i (by rw[cv];exact .head _) rfl
   have ga:(la (stepK hs ds b.1) (b.2.take j) sss)[i]?=some ss:=by rw[An,es];simp[Wz]
   have ln:=iy eP
   obtain⟨l,eL⟩:∃l,ls[i]?=some l:=⟨_,cg (by rw[NA]at ln;omega)⟩
   obtain⟨aoD,Dp,ts,ar,di⟩:=bZ.get eP eL
   rw[ga]at Dp
   cases Dp
   have KH:=b2.of (K:=K) (kG _ _ i2)
   have Vc:=b2.of (K:=K) (kG _ _ hd)
   have cS:=di.len
   rw[bc]at cS
   have fs:=cM ss (eI es)
   have fB:(aL ts).length<sizeLine:=fh (by rw[fS];omega)
   refine⟨_,rfl,x,C,au,_,_,rfl,kG _ _ ao,cx.cl,cx.ns,rfl,_,rfl,st,_,_,_,rfl,rfl,aR.of (kG _ _ W.steps),(show ai.e0 (aL ls) (i:Int)=some (.ref l)from ho (by unfold aL;rw[b8,eL];rfl)),.inl ⟨rfl,_,aR.of ar⟩,?_⟩
   refine⟨_,rfl,iU,_,_,_,rfl,rfl,KH,rfl,_,rfl,iU,_,_,_,rfl,rfl,KH,rfl,_,rfl,r,_,_,_,rfl,rfl,Vc,rfl,_,rfl,iU,_,_,_,rfl,rfl,KH,rfl,_,rfl,r,_,_,_,rfl,rfl,Vc,rfl,_,_,rfl,rfl,(by show 4≤sizeLine;decide),λt eG=>?_⟩
   have Bp:=cH (o:=.tup [V.int b.1.1,V.int b.1.2,V.str (ni hs ds b.1.2),V.int (b.1.1+jv ds b.1.2)]) eG
   have mU:=Bp _ _ ar
   refine⟨l,_,_,rfl,rfl,mU,fB,_,rfl,?_,?_⟩
   .exact hH (fr l (eI eL)) (kG.trans Bp)
   .have a5:b.2.take (j+1)=b.2.take j++[i]:=by
     rw[kR,iD]
     rfl
    rw[a5,Zy _ Wz es]
    refine YL ?_ (λlb FV nl h=>?_) eP aE eL
    .refine⟨ts++[t],by rw[a4];unfold aL;rw[ek];rfl,?_⟩
     rw[ek]
     refine Paired.snoc ?_ ((di.same Bp).upd mU (by intro d z;cases z))
     show upd _ l _ t=some (.tup (Bq (stepK hs ds b.1)))
     rw[aG (dg ar eG).symm,a4]
     rfl
    .obtain⟨gS,ag,af⟩:=h
     exact⟨gS,by rw[aG nl];exact Bp _ _ ag,(af.same Bp).upd mU (by intro d z;cases z)⟩
  .rintro σ ix ⟨gK,rfl,kG,eP⟩
   refine q ix kG ?_
   rw[bc,ka]at eP
   exact eP
end
open PySem ai cA a'
section
variable{P:bT}{w:bJ}{K:a3}{aa:Str→Option Value}{base:Heap}
noncomputable abbrev BY:Stmt:=iH (top 13) 3
theorem abP:dT ["self","number"] ["self","number"] (dh BY):=⟨rfl,rfl,rfl,by decide+kernel,rfl,by decide+kernel,by decide+kernel⟩
theorem aao{C f:Addr}{fd:cP}(F:b0 K "goal" "Walk.goal" BY f fd)(cx:pI K C):aY P w K aa base bu 1 f fd ["self","number"] (GP C):=by
 refine F.ok abP (λvs H Q E h=>?_) (λbC A outer s H vs Q E aw h=>?_)
 .obtain⟨x,n,g,st,gs,ls,sss,k,y,rfl,_⟩:=h
  rfl
 .obtain⟨x,n,g,st,gs,ls,sss,k,y,rfl,W,dV,q⟩:=h
  obtain⟨au,ao⟩:=W.ins
  refine⟨_,(bW (dH (b9 gp (ha (ah 0) (by rfl)) (ah 1) (λ_ _=>rfl)))),?_⟩
  exact⟨_,rfl,x,C,au,_,_,rfl,ao,cx.cl,cx.nd,rfl,_,rfl,g,_,_,_,rfl,rfl,aR.of W.goals,ho (by rw[b8,dV];rfl),q⟩
end
open PySem ai cA a'
theorem aap{wi:TI}{cs:List (Option Nat)}{bY:TE}{σ rest:ai.St}{H H1:ae}{Q:bk}{J:e7}{xs:List ai.V}(hw:∀R:e7→ae→Prop,R J H1→wi σ H R)(gx:gO cs σ=none::rest)(iO:mC J H1 xs)(ar:xs.length<sizeLine)(F:Nat→ai.V→ae→Prop)(st:∀i v ak bD,aP ak bD→F i v ak→F i v bD)(bS:∀i v ak D ys zs,ak D=some (.lst ys)→F i v ak→F i v (upd ak D (.lst zs)))(elt:∀(i:Nat)(x:ai.V)(ak:ae)(R:bk),xs[i]?=some x→aP H1 ak→(∀v bU,aP ak bU→F i v bU→R v bU)→bY (some x::rest) ak R)(fin:∀(D:Addr)(H':ae)(vs:List ai.V),H1 D=none→H' D=some (.lst vs)→vs.length=xs.length→(∀i v,vs[i]?=some v→F i v H')→aP H1 H'→Q (.ref D) H'):kI wi cs (gr 0) qR bY σ H Q:=by
 refine hw _ λD cq=>?_
 refine⟨λi m ys a6 H'=>m=xs.length-i∧i≤xs.length∧(ys.length=i∧∀j v,ys[j]?=some v→F j v H')∧(∃o,a6=o::rest)∧aP H1 H'∧H' D=some (.lst ys),⟨xs.length,by simp,ea _,⟨rfl,λj v e=>by simp at e⟩,⟨none,by rw[gx]⟩,λb o e=>?_,a4⟩,?_⟩
 .rw[aG (dg e cq)]
  exact e
 .rintro i m ys a6 H' ⟨rfl,aj,⟨Pq,aT⟩,⟨o,rfl⟩,aC,et⟩
  obtain⟨fP,fD,hO⟩:=iO H' aC
  refine⟨et,lG (by omega) ar,?_⟩
  by_cases bN:i<xs.length
  .refine .inr ⟨fD i bN,λx ak y=>?_⟩
   obtain⟨rfl,ex⟩:=hO i x ak bN y
   show bY (some x::rest) ak _
   refine elt i x ak _ ex aC λv bU s5 bG=>⟨s5 _ _ et,xs.length-(i+1),by omega,rfl,bN,⟨by rw[ff,Pq];rfl,λj u e=>?_⟩,⟨_,rfl⟩,λb ob e=>?_,a4⟩
   .refine bS j u bU D ys _ (s5 _ _ et) ?_
    by_cases aN:j<ys.length
    .rw[Ń aN]at e
     exact st j u _ _ s5 (aT j u e)
    .rw[Rz (by omega)]at e
     have eP:j=i:=by
      by_cases bQ:j-ys.length=0
      .omega
      .rw[HD (by simp;omega)]at e
       cases e
     subst eP
     rw[Pq,aav]at e
     cases e
     exact bG
   .rw[aG (dg e cq)]
    exact s5 _ _ (aC _ _ e)
  .have e:i=xs.length:=by omega
   subst e
   exact .inl ⟨fP,fin D H' ys cq et Pq aT aC⟩
end fx
namespace a'
noncomputable def js(c:Int):Int:=c*1099087573%10000000000037
noncomputable def lp(n:Nat)(c:Int):Int:=js c%n
noncomputable def pF(n:Nat)(c:Int):Int:=(lp n c+1+js c/n%((n:Int)-1))%n
noncomputable def qH(c:Int):Int:=if js c/27000%5=0 then 1+js c/135000%10 ^ 9 else 1+js c/9000%3
noncomputable def EV(n:Nat)(c:Int):bz:=⟨(lp n c).toNat,(pF n c).toNat,1+js c/1000%9,qH c⟩
theorem acG{n:Nat}(h:1<n)(c:Int):(EV n c).Ok n:=by
 have d6:0≤lp n c:=jR _ (by omega)
 have dC:lp n c<n:=j_ _ (by omega)
 have av:0≤pF n c:=jR _ (by omega)
 have ay:pF n c<n:=j_ _ (by omega)
 have nT:0≤js c/n%((n:Int)-1):=jR _ (by omega)
 have De:js c/n%((n:Int)-1)<(n:Int)-1:=j_ _ (by omega)
 have ne:lp n c≠pF n c:=by
  intro z
  have cv:pF n c=(lp n c+1+js c/n%((n:Int)-1))%n:=rfl
  generalize js c/n%((n:Int)-1)=x at nT De cv
  by_cases bN:lp n c+1+x<n
  .rw[Hj (by omega) bN]at cv
   omega
  .have cZ:(lp n c+1+x)%(n:Int)=(lp n c+1+x-n)%(n:Int):=by rw[ð]
   rw[cZ,Hj (by omega) (by omega)]at cv
   omega
 have t1:0≤js c/1000%9:=jR _ (by decide)
 have dx:js c/1000%9<9:=j_ _ (by decide)
 have m:1≤qH c∧qH c≤1000000000:=by
  unfold qH
  split
  .have aks:(10:Int) ^ 9=1000000000:=by decide
   rw[aks]
   omega
  .omega
 exact⟨by show(lp n c).toNat < n;omega,by show(pF n c).toNat < n;omega,by show(lp n c).toNat≠(pF n c).toNat;omega,by show 1≤1+_∧1+_≤9;omega,m⟩
end a'
namespace fx
open PySem ai cA a'
inductive acH(vs:(List ai.V))(H:ae)(Q:bk)(bF:cy):Prop where
 |mk (c:Int) (a:Addr) (hs:List (List Nat)) (b4:vs=[.int c,.ref a]) (bL:H a=some (.lst (dr hs))) (cG:2≤hs.length) (c2:hs.length≤12) (dR:∀r,H r=none→Q (.ref r) (upd H r (.tup (ow hs (EV hs.length c)))))
noncomputable def Hp:cW:=λvs H Q bF=>acH vs H Q bF
theorem OX{t:eY}{D:Ends}{σ:ai.St}{H:ae}(P:Ends→Prop)(ag:P D)(af:∀eA,P eA→t eA σ H):t D σ H:=af D ag
section
variable{P:bT}{w:bJ}{K:a3}{aa:Str→Option Value}{base:Heap}
noncomputable abbrev ye:Stmt:=top 39
noncomputable abbrev aff:List Str:=["_law_cell","_law_names","_law_n","_law_many","_law_first","_law_last","_law_room"]
theorem ux:dT aff ["_law_cell","_law_names"] (dh ye):=⟨rfl,rfl,rfl,by decide+kernel,rfl,by decide+kernel,by decide+kernel⟩
theorem acJ{f:Addr}{fd:cP}(F:b0 K "_law_road" "_law_road" ye f fd)(B:g4 aa):aY P w K aa base bu 1 f fd ["_law_cell","_law_names"] Hp:=by
 refine F.ok ux (λvs H Q E h=>?_) (λbC A outer s H vs Q E aw h=>?_)
 .obtain⟨c,a,hs,rfl,_⟩:=h
  rfl
 .obtain⟨c,a,hs,rfl,aH,af,v5,q⟩:=h
  refine⟨_,(bO (dB (i:=2) ux.aE rfl (cC rfl) (cK ht (cK qA (ah 0) bl) bl))
   (bO (dB (i:=3) ux.aE rfl (cC rfl) (gd mE (by rfl) B.len lV (aB (ah 1) a8)))
   (bO (dB (i:=4) ux.aE rfl (cC rfl) (cK ht (ah 2) (ah 3)))
   (bO (dB (i:=5) ux.aE rfl (cC rfl) (cK ht (cK ie (cK ie (ah 4) bl) (cK ht (cK lQ (ah 2) (ah 3)) (cK Gx (ah 3) bl))) (ah 3)))
   (bO (dB (i:=6) ux.aE rfl (cC rfl) (cK ie bl (cK ht (cK lQ (ah 2) bl) bl)))
   (bO (f5 (gf l3 (cK ht (cK lQ (ah 2) bl) bl) bl (fu _)) (bW (dB (i:=6) ux.aE rfl (cC rfl) (cK ie bl (cK ht (cK lQ (ah 2) bl) (cK QC bl bl))))) f3)
   (bW (dH (hu (aB (b9 gp (ah 1) (ah 4) (λ_ _=>rfl)) (aB (b9 gp (ah 1) (ah 5) (λ_ _=>rfl)) (aB (cK ie bl (cK ht (cK lQ (ah 2) bl) bl)) (aB (ah 6) a8))))))))))))),?_⟩
  have ar:=wK hs
  have d6:0≤lp hs.length c:=jR _ (by omega)
  have dC:lp hs.length c<hs.length:=j_ _ (by omega)
  have av:0≤pF hs.length c:=jR _ (by omega)
  have ay:pF hs.length c<hs.length:=j_ _ (by omega)
  refine⟨_,rfl,_,_,rfl,rfl,.inr ⟨by decide,by decide⟩,_,_,rfl,rfl,(by show(0:Int)<10000000000037;decide),?_⟩
  refine⟨_,rfl,a,_,rfl,.inl (aR.of aH),?_⟩
  rw[ar]
  refine⟨_,rfl,_,rfl,_,_,rfl,rfl,(by show(0:Int)<(hs.length:Int);omega),?_⟩
  refine⟨_,rfl,_,_,rfl,rfl,_,rfl,_,rfl,_,_,rfl,rfl,⟨by show(0:Int)<(hs.length:Int);omega,by show(hs.length:Int)<1073741824;omega⟩,_,rfl,_,_,rfl,rfl,_,_,rfl,rfl,(by show(0:Int)<(hs.length:Int)-1;omega),_,_,rfl,rfl,_,rfl,_,_,rfl,rfl,(by show(0:Int)<(hs.length:Int);omega),?_⟩
  refine⟨_,rfl,_,_,rfl,rfl,⟨by decide,by decide⟩,_,_,rfl,rfl,(by show(0:Int)<3;decide),_,_,rfl,rfl,?_⟩
  dsimp only[gr,qQ]
  refine OX (t:=CE _ _ _) (λeA=>eA.b' [some (.int c),some (.ref a),some (.int (js c)),some (.int hs.length),some (.int (lp hs.length c)),some (.int (pF hs.length c)),some (.int (qH c))] H) ?_ λeA rest=>?_
  .refine⟨_,rfl,_,rfl,a,_,_,_,rfl,rfl,aR.of aH,Gh d6 dC,_,rfl,_,rfl,a,_,_,_,rfl,rfl,aR.of aH,Gh av ay,_,rfl,_,_,rfl,rfl,⟨by decide,by decide⟩,_,_,rfl,rfl,(by show(0:Int)<9;decide),_,_,rfl,rfl,_,rfl,(by show 4≤sizeLine;decide),q⟩
  .refine⟨_,rfl,_,_,rfl,rfl,⟨by decide,by decide⟩,_,_,rfl,rfl,(by show(0:Int)<5;decide),rfl,_,rfl,?_⟩
   by_cases cZ:js c/27000%5=0
   .refine f6 (by show decide (V.int (js c/27000%5)=V.int 0)=true;rw[cZ];decide) ?_
    refine⟨_,rfl,_,_,rfl,rfl,⟨by decide,by decide⟩,_,_,rfl,rfl,⟨by decide,by decide,by decide⟩,_,_,rfl,rfl,(by show(0:Int)<10 ^ (9:Int).toNat;decide),_,_,rfl,rfl,?_⟩
    have jZ:qH c=1+js c/135000%10 ^ (9:Int).toNat:=by unfold qH;rw[aI cZ];rfl
    rw[jZ]at rest
    exact rest
   .refine gh (by show decide (V.int (js c/27000%5)=V.int 0)=false;exact eF λz=>cZ (V.int.inj z)) ?_
    have jZ:qH c=1+js c/9000%3:=by unfold qH;rw[aD cZ]
    rw[jZ]at rest
    exact rest
end
open PySem ai cA a'
theorem OL(i j:Int):decide (V.int i=V.int j)=decide (i=j):=by
 by_cases h:i=j
 .rw[dp h,dp (eK V.int h)]
 .rw[eF h,eF λz=>h (V.int.inj z)]
inductive Zz(vs:(List ai.V))(H:ae)(Q:bk)(bF:cy):Prop where
 |mk (a:Addr) (hs:List PyData) (v u:ai.V) (d e:PyData) (b4:vs=[.ref a,v,u]) (bL:gc H (.ref a) (.list hs)) (cG:gc H v d) (c2:gc H u e) (dR:d.depth≤60) (eW:e.depth≤60) (h8:Q (.bo (kk hs d e)) H)
noncomputable def NB:cW:=λvs H Q bF=>Zz vs H Q bF
section
variable{P:bT}{w:bJ}{K:a3}{aa:Str→Option Value}{base:Heap}
theorem ZA{f:Addr}{fd:cP}(F:b0 K "are_unlike_houses" "are_unlike_houses" tS f fd):aY P w K aa base bu 1 f fd ["houses","one","other"] NB:=by
 refine F.ok YH (λvs H Q E h=>?_) (λbC A outer s H vs Q E aw h=>?_)
 .obtain⟨a,hs,v,u,d,e,rfl,_⟩:=h
  rfl
 .obtain⟨a,hs,v,u,d,e,rfl,aH,bG,cf,dd,JK,q⟩:=h
  refine⟨_,(bW (dH (m1 (mP (QW (SP aw)) (ah 1) (ah 0) (by rfl)) (m1 (mP (QW (SP aw)) (ah 2) (ah 0) (by rfl)) (qx (mP (QI aw.units) (ah 1) (ah 2) (fu _))))))),?_⟩
  have mJ:yE hs=true:=aH.mJ
  have cB:q8 d=true:=EM bG.mJ dd (by decide)
  have fN:q8 e=true:=EM cf.mJ JK (by decide)
  have q:Q (.bo (inD d hs&&inD e hs&&!je d e)) H:=q
  refine⟨_,rfl,_,rfl,d,hs,bG.kj,aH.kj,cB,mJ,_,rfl,?_⟩
  show if inD d hs=true then _ else _
  cases ag:inD d hs with
  |false=>
   rw[ag]at q
   exact ky q
  |true=>
   rw[ag]at q
   refine j7 ⟨_,rfl,_,rfl,e,hs,cf.kj,aH.kj,fN,mJ,_,rfl,?_⟩
   show if inD e hs=true then _ else _
   cases af:inD e hs with
   |false=>
    rw[af]at q
    exact ky q
   |true=>
    rw[af]at q
    exact j7 ⟨_,rfl,_,rfl,d,e,bG.kj,cf.kj,cB,fN,q⟩
end
open PySem ai cA a'
theorem Xv{ys:List Str}{x:Str}(h:x∉ys):pA (.str x) (ys.map V.str)=false:=by
 unfold pA
 rw[PW]
 intro z
 obtain⟨v,bG,e⟩:=oV.mp z
 obtain⟨y,aT,rfl⟩:=bV.mp bG
 have b5:(y==x)=true:=e
 exact h (eq_of_beq b5▸aT)
theorem qw{α:Type}{l:List α}{i:Nat}{d x:α}(h:l[i]?=some x):l.getD i d=x:=by rw[cY,h];rfl
inductive aaq(C R:Addr)(vs:(List ai.V))(H:ae)(Q:bk)(E:cy):Prop where
 |mk (x bx aZ:Addr) (hs:List (List Nat)) (zs:List ai.V) (h:Str) (b4:vs=[.ref x,.str h]) (bL:ku C H x bx aZ (dr hs) zs) (cG:(h∈hs.map S→Q .bR H)) (c2:(h∉hs.map S→E (.ref R) none H))
noncomputable def Gf(C R:Addr):cW:=λvs H Q E=>aaq C R vs H Q E
section
variable{P:bT}{w:bJ}{K:a3}{aa:Str→Option Value}{base:Heap}
noncomputable abbrev xt:Stmt:=iH (top 31) 7
theorem acK:dT ["self","house"] ["self","house"] (dh xt):=⟨rfl,rfl,rfl,by decide+kernel,rfl,by decide+kernel,by decide+kernel⟩
theorem aak{C R f:Addr}{fd:cP}{sA fo l1:String}{bm:List Value}(F:b0 K "need_house" "Net.need_house" xt f fd)(fq:sq K C)(M1:uO sA fo l1 bm)(vT:Exc K aa "NoHouse" R bm fo):
  aY P w K aa base (gC P w) 1 f fd ["self","house"] (Gf C R):=by
 refine w1 F acK (λvs H Q E h=>?_) (λbC A outer s H vs Q E aw h=>?_)
 .obtain⟨x,bx,aZ,hs,zs,h',rfl,_⟩:=h
  rfl
 .obtain⟨x,bx,aZ,hs,zs,h',rfl,n,q,kC⟩:=h
  obtain⟨au,ao⟩:=n.ins
  refine⟨_,(bW (f5 (gf WM (ah 1) (ha (ah 0) (by rfl)) (by rfl)) (bW (Fb M1 vT rfl (aB n_ a8))) f3)),?_⟩
  have ar:aR K H bx ((hs.map S).map V.str):=by rw[←ON];exact aR.of n.Ld
  refine⟨_,rfl,_,rfl,x,C,au,_,_,rfl,ao,fq.cl,fq.MP,rfl,bx,_,rfl,.inl ar,rfl,ER _,_,rfl,?_⟩
  by_cases hm:h'∈hs.map S
  .exact gh (by rw[Fw hm];rfl) (q hm)
  .exact f6 (by rw[Xv hm];rfl) ⟨by show 1≤sizeLine;decide,kC hm⟩
end
open PySem ai cA a'
theorem Φ{α β:Type}(xs:List α)(q:Nat→Bool)(g:Nat→β):(xs.zipIdx.filter λz=>q z.2).map (λz=>g z.2)=((c_ xs.length).filter q).map g:=by
 have e:xs.zipIdx.map (·.2)=c_ xs.length:=by rw[Ř,Ŗ]
 rw[←e,vg,gk]
 rfl
noncomputable def hI:a'.bz:=⟨0,0,0,0⟩
noncomputable def xd(hs:List (List Nat))(ds:List a'.bz)(qI:a'.bz→Nat)(h:Str):List Nat:=(c_ ds.length).filter λi=>decide (V.str (S (hs.getD (qI (ds.getD i hI)) []))=V.str h)
noncomputable def h6(hs:List (List Nat))(ds:List a'.bz)(qI:a'.bz→Nat)(h:Str):List Int:=(xd hs ds qI h).map λi:Nat=>(i:Int)
theorem Yj(hs:List (List Nat))(ds:List a'.bz)(qI:a'.bz→Nat)(h:Str):(h6 hs ds qI h).length≤ds.length:=by
 unfold h6 xd
 rw[bc]
 exact gm (nH _ _) (by rw[hi];exact b1 _)
inductive acL(C R:Addr)(qI:a'.bz→Nat)(vs:(List ai.V))(H:ae)(Q:bk)(E:cy):Prop where
 |mk (x bx aZ:Addr) (hs:List (List Nat)) (rs:List Addr) (ds:List a'.bz) (h:Str) (b4:vs=[.ref x,.str h]) (bL:ku C H x bx aZ (dr hs) (aL rs)) (cG:hp H hs rs ds) (c2:rs.length≤40) (dR:(h∈hs.map S→∀(p:Addr)(H':ae),H p=none→aP H H'→H' p=some (.lst ((h6 hs ds qI h).map V.int))→Q (.ref p) H')) (eW:(h∉hs.map S→E (.ref R) none H))
noncomputable def Ci(C R:Addr)(qI:a'.bz→Nat):cW:=λvs H Q E=>acL C R qI vs H Q E
section
variable{P:bT}{w:bJ}{K:a3}{aa:Str→Option Value}{base:Heap}
noncomputable abbrev u_:Stmt:=iH (top 31) 4
theorem adW:dT ["self","house"] ["self","house"] (dh u_):=⟨rfl,rfl,rfl,by decide+kernel,rfl,by decide+kernel,by decide+kernel⟩
theorem acM{C R f fn:Addr}{fd T5:cP}(F:b0 K "out_of" "Net.out_of" u_ f fd)(B:g4 aa)(fq:sq K C)(o':eD K C "need_house" "Net.need_house" xt ["self","house"] fn T5)(ta:aY P w K aa base (gC P w) 1 fn T5 ["self","house"] (Gf C R)):
  aY P w K aa base (gC P w) 2 f fd ["self","house"] (Ci C R (·.a)):=by
 have gU:=fq.cl
 refine w1 F adW (λvs H Q E h=>?_) (λbC A outer s H vs Q E aw h=>?_)
 .obtain⟨x,bx,aZ,hs,rs,ds,h',rfl,_⟩:=h
  rfl
 .obtain⟨x,bx,aZ,hs,rs,ds,h',rfl,n,cL,cM,q,kC⟩:=h
  obtain⟨au,ao⟩:=n.ins
  refine⟨_,(bO (iB (hU (ah 0) gU o'.gI ta (aw.mono (by decide)) o'.bd .nil AU (aB (ah 1) a8)))
   (bW (dH (qE (N':=["number","road","house"]) (cs:=[none,none,some 1]) rfl (AV rfl B.enumerate (aB (ha (ah 0) (by rfl)) a8)) rfl (by decide+kernel) rfl (by decide+kernel) (jj (jT.mpr ⟨rfl,(λp aQ=>bB aQ (eB))⟩)) rfl
    (.own (.own (.iW rfl (.inl rfl) (.inl rfl) rfl .nil)))
    (λC s3 bD cu ey=>⟨(wJ (K:=K) (n:=2) rfl rfl (fZ (de (i:=0) (by show(["number","road","house"]:List Str).Nodup;decide+kernel) rfl (.inl rfl)) (fZ (de (i:=1) (by show(["number","road","house"]:List Str).Nodup;decide+kernel) rfl (.inl rfl)) lP))),(tQ (gf l3 (b9 (n1 (K:=K) rfl) (ah 1) bl (λ_ _=>rfl)) (ah 2) (fu _))),(ah 0)⟩))))),?_⟩
  have ar:=fS rs
  have v':=cL.len
  refine⟨_,rfl,x,au,_,rfl,ao,rfl,_,rfl,x,bx,aZ,hs,_,h',rfl,n,λhm=>?_,kC⟩
  refine⟨_,rfl,x,C,au,_,_,rfl,ao,fq.cl,fq.fL,rfl,aZ,rfl,⟨_,aR.of n.r7⟩,?_⟩
  refine Qi (rest:=[some (.str h')]) rfl (aR.of n.r7) (fh (by omega)) (λi _=>decide (V.str (S (hs.getD (ds.getD i hI).a []))=V.str h')) (λi _=>.int i) (λi v ak R ev aC n3=>?_) (λi v ak R ev _ aC n3=>⟨_,rfl,n3 ak (aP.refl _)⟩) (λD H' ag af aU=>q hm D H' ag aU ?_)
  .unfold aL at ev
   rw[b8]at ev
   obtain⟨r,dK,rfl⟩:=eh.mp ev
   obtain⟨d,c',ok,hd⟩:=cL.get dK
   have cF:ds.getD i hI=d:=qw c'
   rw[cF]at n3
   exact⟨_,rfl,r,_,_,_,rfl,rfl,b2.of (aC _ _ hd),rfl,_,rfl,rfl,_,rfl,n3 ak (aP.refl _)⟩
  .rw[af,Φ (aL rs) (λi=>decide (V.str (S (hs.getD (ds.getD i hI).a []))=V.str h')) (λi=>V.int i),ar,v']
   unfold h6
   rw[gk]
   rfl
end
open PySem ai cA a'
noncomputable abbrev c9:=List (List bj×ai.V)
noncomputable def dM(h g:Str):List bj:=[.inr h,.inr g]
noncomputable def l4(n t:Addr):List (Str×ai.V):=[("net",.ref n),("told",.ref t)]
structure kn(C bA:Addr)(H:ae)(x n t bx aZ:Addr)(xs ys:List ai.V)(kvs:c9):Prop where
 ins:∃au,H x=some (.ins C au (l4 n t))
 i7:ku bA H n bx aZ xs ys
 told:H t=some (.cE kvs)
theorem kn.same{C bA:Addr}{H H':ae}{x n t bx aZ:Addr}{xs ys:List ai.V}{kvs:c9}(W:kn C bA H x n t bx aZ xs ys kvs)(aC:aP H H'):kn C bA H' x n t bx aZ xs ys kvs:=
 let⟨au,h⟩:=W.ins
 ⟨⟨au,aC _ _ h⟩,W.i7.same aC,aC _ _ W.told⟩
structure oh(K:a3)(C:Addr):Prop where
 cl:g5 K C
 nn:c3 K (.ref C) "net"=some none
 eG:c3 K (.ref C) "told"=some none
inductive adX(C:Addr)(vs:(List ai.V))(H:ae)(Q:bk)(bF:cy):Prop where
 |mk (x au:Addr) (v:ai.V) (b4:vs=[.ref x,v]) (bL:H x=some (.ins C au [])) (cG:∀t,H t=none→Q .bR (upd (upd H t (.cE [])) x (.ins C au [("net",v),("told",.ref t)])))
noncomputable def CQ(C:Addr):cW:=λvs H Q bF=>adX C vs H Q bF
inductive adY(C bA e9:Addr)(vs:(List ai.V))(H:ae)(Q:bk)(E:cy):Prop where
 |mk (x n t bx aZ:Addr) (hs:List (List Nat)) (ys:List ai.V) (kvs:c9) (v u:ai.V) (d e:PyData) (b4:vs=[.ref x,v,u]) (bL:kn C bA H x n t bx aZ (dr hs) ys kvs) (cG:Good hs) (c2:gc H v d) (dR:gc H u e) (eW:d.depth≤60) (h8:e.depth≤60) (jz:(kk (cq hs) d e=true→∀H',aP H H'→Q .bR H')) (oP:(kk (cq hs) d e=false→∀H',aP H H'→E (.ref e9) none H'))
noncomputable def CR(C bA e9:Addr):cW:=λvs H Q E=>adY C bA e9 vs H Q E
inductive adZ(C bA e9 mx:Addr)(vs:(List ai.V))(H:ae)(Q:bk)(E:cy):Prop where
 |mk (x n t bx aZ:Addr) (hs:List (List Nat)) (rs:List Addr) (ds:List a'.bz) (kvs:c9) (h g:Str) (i:Int) (b4:vs=[.ref x,.str h,.str g,.int i]) (bL:kn C bA H x n t bx aZ (dr hs) (aL rs) kvs) (cG:Good hs) (c2:hp H hs rs ds) (dR:rs.length≤40) (eW:gc H (.str h) (.str h)) (h8:gc H (.str g) (.str g)) (jz:kvs.length<sizeLine) (oP:(kk (cq hs) (.str h) (.str g)=true→i∈h6 hs ds (·.a) h→∀H',aP H H'→Q .bR (upd H' t (.cE (ec kvs (dM h g) (.int i)))))) (xw:(kk (cq hs) (.str h) (.str g)=false→∀H',aP H H'→E (.ref e9) none H')) (B2:(kk (cq hs) (.str h) (.str g)=true→i∉h6 hs ds (·.a) h→∀H',aP H H'→E (.ref mx) none H'))
noncomputable def CS(C bA e9 mx:Addr):cW:=λvs H Q E=>adZ C bA e9 mx vs H Q E
theorem Χ(ys:List Int):(ys.map V.int).all pG=true:=by
 rw[CF]
 intro x ao
 obtain⟨y,_,rfl⟩:=bV.mp ao
 rfl
theorem aaT{ys:List Int}{x:Int}(h:x∈ys):pA (.int x) (ys.map V.int)=true:=by
 unfold pA
 rw[oV]
 exact⟨.int x,bV.mpr ⟨x,h,rfl⟩,by show(x==x)=true;exact beq_self_eq_true x⟩
theorem ZC{ys:List Int}{x:Int}(h:x∉ys):pA (.int x) (ys.map V.int)=false:=by
 unfold pA
 rw[PW]
 intro z
 obtain⟨v,bG,e⟩:=oV.mp z
 obtain⟨y,aT,rfl⟩:=bV.mp bG
 have b5:(y==x)=true:=e
 exact h (eq_of_beq b5▸aT)
theorem M3{hs:List (List Nat)}{h g:Str}(c:kk (cq hs) (.str h) (.str g)=true):h∈hs.map S∧g∈hs.map S:=by
 unfold kk at c
 simp only[kK]at c
 exact⟨Z4 λn=>by rw[QS n]at c;exact fb c.1.1,Z4 λn=>by rw[QS n]at c;exact fb c.1.2⟩
section
variable{P:bT}{w:bJ}{K:a3}{aa:Str→Option Value}{base:Heap}
noncomputable abbrev xh:Stmt:=iH (top 33) 0
theorem afg:dT ["self","net"] ["self","net"] (dh xh):=⟨rfl,rfl,rfl,by decide+kernel,rfl,by decide+kernel,by decide+kernel⟩
theorem ad0{C f:Addr}{fd:cP}(F:b0 K "__init__" "Ways.__init__" xh f fd)(cx:oh K C):aY P w K aa base bu 1 f fd ["self","net"] (CQ C):=by
 refine F.ok afg (λvs H Q E h=>?_) (λbC A outer s H vs Q E aw h=>?_)
 .obtain⟨x,au,v,rfl,_⟩:=h
  rfl
 .obtain⟨x,au,v,rfl,ao,q⟩:=h
  refine⟨_,(bO (t2 (ah 0) (ah 1) rfl)
   (bW (t2 (ah 0) NT rfl))),?_⟩
  refine⟨_,rfl,_,rfl,x,C,au,_,rfl,ao,cx.cl,cx.nn,(by show 0<1000;decide),?_⟩
  intro t eG
  have rW:t≠x:=λe=>by rw[e,a4]at eG;cases eG
  rw[aG rW]at eG
  refine⟨_,rfl,x,C,au,_,rfl,(by rw[aG (dG rW)];exact a4),cx.cl,cx.eG,(by show 1<1000;decide),?_⟩
  have av:upd (upd (upd H x (.ins C au [("net",v)])) t (.cE [])) x (.ins C au [("net",v),("told",.ref t)])=upd (upd H t (.cE [])) x (.ins C au [("net",v),("told",.ref t)]):=by
   funext b
   by_cases U:b=x
   .rw[U,a4,a4]
   .rw[aG U,aG U]
    by_cases aF:b=t
    .rw[aF,a4,a4]
    .rw[aG aF,aG aF,aG U]
  show Q .bR (upd (upd (upd H x (.ins C au [("net",v)])) t (.cE [])) x (.ins C au [("net",v),("told",.ref t)]))
  rw[av]
  exact q t eG
noncomputable abbrev xf:Stmt:=iH (top 33) 6
theorem afh:dT ["self","house","goal"] ["self","house","goal"] (dh xf):=⟨rfl,rfl,rfl,by decide+kernel,rfl,by decide+kernel,by decide+kernel⟩
theorem ad1{C bA e9 f f1 f2:Addr}{fd fv gw:cP}{sA fo l1:String}{bm:List Value}(F:b0 K "need_pair" "Ways.need_pair" xf f fd)(cx:oh K C)(gU:g5 K bA)(M1:uO sA fo l1 bm)(vT:Exc K aa "NoHouse" e9 bm fo)(o9:eD K bA "houses" "Net.houses" wo ["self"] f1 fv)(th:aY P w K aa base bu 1 f1 fv ["self"] (ES bA))(o8:dS K aa "are_unlike_houses" tS ["houses","one","other"] f2 gw)(yV:aY P w K aa base bu 1 f2 gw ["houses","one","other"] NB):
  aY P w K aa base (gC P w) 2 f fd ["self","house","goal"] (CR C bA e9):=by
 refine w1 F afh (λvs H Q E h=>?_) (λbC A outer s H vs Q E aw h=>?_)
 .obtain⟨x,n,t,bx,aZ,hs,ys,kvs,v,u,d,e,rfl,_⟩:=h
  rfl
 .obtain⟨x,n,t,bx,aZ,hs,ys,kvs,v,u,d,e,rfl,W,G,bG,cf,dd,JK,q,kC⟩:=h
  obtain⟨au,ao⟩:=W.ins
  refine⟨_,(bW (f5 (pC (mZ (fT yV (aw.mono (by decide)) (by rfl) o8.at_ o8.fn.cN o8.bd .nil dI (aB (Ax (ha (ah 0) (by rfl)) gU o9.gI th (aw.mono (by decide)) o9.bd .nil dI) (aB (ah 1) (aB (ah 2) a8)))))) (bW (Fb M1 vT rfl (aB n_ a8))) f3)),?_⟩
  obtain⟨fj,az⟩:=W.i7.ins
  refine⟨_,rfl,x,C,au,_,_,rfl,ao,cx.cl,cx.nn,rfl,n,fj,_,rfl,az,rfl,n,bx,aZ,_,_,rfl,W.i7,λl nl=>?_⟩
  have bS:=cH (o:=.lst (dr hs)) nl
  refine⟨_,rfl,_,rfl,l,cq hs,v,u,d,e,rfl,adN G a4,bG.same bS,cf.same bS,dd,JK,_,rfl,?_⟩
  cases aF:kk (cq hs) d e with
  |true=>exact q aF _ bS
  |false=>exact⟨by show 1≤sizeLine;decide,kC aF _ bS⟩
noncomputable abbrev xg:Stmt:=iH (top 33) 1
theorem afi:dT ["self","house","goal","road"] ["self","house","goal","road"] (dh xg):=⟨rfl,rfl,rfl,by decide+kernel,rfl,by decide+kernel,by decide+kernel⟩
theorem ad2{C bA e9 mx f f1 f2:Addr}{fd fv gw:cP}{sA fo l1:String}{bm:List Value}(F:b0 K "set_way" "Ways.set_way" xg f fd)(cx:oh K C)(gU:g5 K bA)(Ny:uO sA fo l1 bm)(wj:Exc K aa "NoRoad" mx bm fo)(rj:eD K bA "out_of" "Net.out_of" u_ ["self","house"] f1 fv)(vH:aY P w K aa base (gC P w) 2 f1 fv ["self","house"] (Ci bA e9 (·.a)))(rf:eD K C "need_pair" "Ways.need_pair" xf ["self","house","goal"] f2 gw)(vD:aY P w K aa base (gC P w) 2 f2 gw ["self","house","goal"] (CR C bA e9)):
  aY P w K aa base (gC P w) 3 f fd ["self","house","goal","road"] (CS C bA e9 mx):=by
 have jY:=cx.cl
 refine w1 F afi (λvs H Q E h=>?_) (λbC A outer s H vs Q E aw h=>?_)
 .obtain⟨x,n,t,bx,aZ,hs,rs,ds,kvs,h',g',i,rfl,_⟩:=h
  rfl
 .obtain⟨x,n,t,bx,aZ,hs,rs,ds,kvs,h',g',i,rfl,W,G,cL,cM,bG,cf,J9,q,kC,akG⟩:=h
  obtain⟨au,ao⟩:=W.ins
  obtain⟨fj,az⟩:=W.i7.ins
  refine⟨_,(bO (iB (hU (ah 0) jY rf.gI vD (aw.mono (by decide)) rf.bd .nil AU (aB (ah 1) (aB (ah 2) a8))))
   (bO (f5 (gf WM (ah 3) (hU (ha (ah 0) (by rfl)) gU rj.gI vH (aw.mono (by decide)) rj.bd .nil AU (aB (ah 1) a8)) (by rfl)) (bW (Fb Ny wj rfl (aB n_ a8))) f3)
   (bW (AO (hJ aw) (ha (ah 0) (by rfl)) (hu (aB (ah 1) (aB (ah 2) a8))) (ah 3) rfl)))),?_⟩
  refine⟨_,rfl,x,au,_,rfl,ao,rfl,_,rfl,_,rfl,x,n,t,bx,aZ,hs,_,kvs,.str h',.str g',.str h',.str g',rfl,W,G,bG,cf,(by show 0≤60;decide),(by show 0≤60;decide),λaF H1 s1=>?_,kC⟩
  have hm:=M3 aF
  refine⟨_,rfl,_,rfl,x,C,au,_,_,rfl,s1 _ _ ao,cx.cl,cx.nn,rfl,n,fj,_,rfl,s1 _ _ az,rfl,_,rfl,n,bx,aZ,hs,rs,ds,h',rfl,W.i7.same s1,cL.same s1,cM,λ_ p ak np s2 aQ=>?_,λlX=>bB hm.1 lX⟩
  have hc:=s1.trans s2
  refine⟨p,_,rfl,.inl (aR.of aQ),rfl,Χ _,_,rfl,?_⟩
  by_cases aj:i∈h6 hs ds (·.a) h'
  .refine gh (by rw[aaT aj];rfl) ?_
   refine⟨_,rfl,_,rfl,x,C,au,_,_,rfl,hc _ _ ao,cx.cl,cx.eG,rfl,_,rfl,_,rfl,(by show 2≤sizeLine;decide),λr fL=>?_⟩
   have s3:=cH (o:=.tup [V.str h',V.str g']) fL
   exact⟨t,_,rfl,oA.t (k:=dM h' g') ((hc.trans s3) _ _ W.told) a4 J9,q aF aj _ (hc.trans s3)⟩
  .refine f6 (by rw[ZC aj];rfl) ⟨by show 1≤sizeLine;decide,akG aF aj _ hc⟩
end
open PySem ai cA a'
inductive ad3(C:Addr)(vs:(List ai.V))(H:ae)(Q:bk)(bF:cy):Prop where
 |mk (e s:Addr) (v:ai.V) (zs:List ai.V) (b4:vs=[.ref e,v,.ref s]) (bL:H e=some (mM e C)) (cG:H s=some (.lst zs)) (c2:∀(au l:Addr)(H':ae),H au=none→H l=none→au≠l→(∀b o,H b=some o→b≠e→H' b=some o)→H' e=some (mL e C au)→H' au=some (sm au [("reason",v),("seen",.ref l)])→H' l=some (.lst zs)→Q .bR H')
noncomputable def CV(C:Addr):cW:=λvs H Q bF=>ad3 C vs H Q bF
inductive Out where
 |ok (a5:List Nat)
 |no (why:Str) (sn:List Str)
noncomputable def hK(kvs:c9)(h g:Str):Option Nat:=match cz kvs (dM h g)with|some (.int k)=>some k.toNat|_=>none
noncomputable def hB(hs:List (List Nat))(ds:List a'.bz)(k:Nat):Str:=S (hs.getD (ds.getD k hI).b [])
noncomputable def oi(kvs:c9)(hs:List (List Nat))(ds:List a'.bz)(g:Str):Nat→Str→List Str→List Nat→Out
 |0,_,_,a5=>.ok a5
 |n+1,h,sn,a5=>if h=g then .ok a5 else match hK kvs h g with
  |none=>.no "none" sn
  |some k=>if hB hs ds k∈sn then .no "round" (sn++[hB hs ds k])else oi kvs hs ds g n (hB hs ds k) (sn++[hB hs ds k]) (a5++[k])
structure iA(kvs:c9)(m:Nat):Prop where
 val:∀k v,cz kvs k=some v→∃i:Nat,v=.int (i:Int)∧i<m
theorem iA.get{kvs:c9}{m:Nat}(t:iA kvs m)(h g:Str):(cz kvs (dM h g)=none∧hK kvs h g=none)∨∃i:Nat,cz kvs (dM h g)=some (.int (i:Int))∧hK kvs h g=some i∧i<m:=by
 cases e:cz kvs (dM h g)with
 |none=>exact .inl ⟨rfl,by unfold hK;rw[e]⟩
 |some v=>
  obtain⟨i,rfl,aj⟩:=t.val _ _ e
  exact .inr ⟨i,rfl,by unfold hK;rw[e];simp,aj⟩
noncomputable def nats(a5:List Nat):List ai.V:=a5.map λk:Nat=>V.int (k:Int)
noncomputable def ng(sn:List Str):List ai.V:=sn.map V.str
noncomputable def Ik(g7:Addr)(o:Out)(H:ae)(Q:bk)(E:cy):Prop:=match o with
 |.ok a5=>∀l H',H l=none→aP H H'→H' l=some (.lst (nats a5))→Q (.ref l) H'
 |.no why sn=>∀au l H',H au=none→H l=none→au≠l→aP H H'→H' au=some (sm au [("reason",.str why),("seen",.ref l)])→H' l=some (.lst (ng sn))→E (.ref g7) (some au) H'
inductive ad4(C bA e9 g7:Addr)(vs:(List ai.V))(H:ae)(Q:bk)(E:cy):Prop where
 |mk (x n t bx aZ:Addr) (hs:List (List Nat)) (rs:List Addr) (ds:List a'.bz) (kvs:c9) (h g:Str) (b4:vs=[.ref x,.str h,.str g]) (bL:kn C bA H x n t bx aZ (dr hs) (aL rs) kvs) (cG:Good hs) (c2:hp H hs rs ds) (dR:iA kvs ds.length) (eW:(h∈hs.map S→g∈hs.map S→Ik g7 (oi kvs hs ds g 13 h [h] []) H Q E)) (h8:(h∉hs.map S∨g∉hs.map S→E (.ref e9) none H))
noncomputable def Il(C bA e9 g7:Addr):cW:=λvs H Q E=>ad4 C bA e9 g7 vs H Q E
theorem pg{α:Type}[DecidableEq α]:∀{sn L:List α},sn.Nodup→(∀y∈sn,y∈L)→sn.length≤L.length
 |[],_,_,_=>ea _
 |x::r,L,aE,h=>by
  have ao:=h x (.head _)
  have ba:=pg (sn:=r) (L:=L.erase x) (jU.mp aE).2 (λy aT=>(List.mem_erase_of_ne (show y≠x fromλe=>(jU.mp aE).1 (by rw[←e];exact aT))).mpr (h y (.tail _ aT)))
  rw[List.length_erase_of_mem ao]at ba
  have:=RD ao
  rw[hS]
  omega
theorem EJ{α:Type}{l:List α}{x:α}(aE:l.Nodup)(h:x∉l):(l++[x]).Nodup:=by
 rw[oW]
 exact⟨aE,jU.mpr ⟨eB,mu⟩,λa aH b U e=>h (by rw[←e8.mp U,←e];exact aH)⟩
theorem getD_mem'{α:Type}{l:List α}{i:Nat}{d:α}(h:i<l.length):l.getD i d∈l:=by
 rw[cY,cg h]
 exact eg h
theorem YS(sn:List Str)(c:Str):ai.e0 (ng (sn++[c])) (-1)=some (.str c):=by
 unfold ng
 rw[ek]
 generalize sn.map V.str=zs
 unfold ai.e0 ai.m4
 rw[ff,aD (by decide),aI (by show -((zs.length+1:Nat):Int)≤-1;omega)]
 show(zs++[V.str c])[((-1:Int)+((zs.length+1:Nat):Int)).toNat]?=_
 have e:((-1:Int)+((zs.length+1:Nat):Int)).toNat=zs.length:=by omega
 rw[e]
 simp
theorem none_of{H H1:ae}{a:Addr}(aC:aP H H1)(h:H1 a=none):H a=none:=by
 cases e:H a with
 |none=>rfl
 |some o=>rw[aC _ _ e]at h;cases h
theorem R6{g7 p:Addr}{why:Str}{sn:List Str}{H H1:ae}{Q:bk}{E:cy}{e:Addr}(q:Ik g7 (.no why sn) H Q E)(aC:aP H H1)(bP:H1 p=some (.lst (ng sn)))(ne:H1 e=none):
  CV g7 (V.ref e::[.str why,.ref p]) (upd H1 e (mM e g7)) (λv ak=>v=.bR∧∃au,ak e=some (mL e g7 au)∧E (.ref g7) (some au) (del ak e)) uN:=by
 refine⟨e,p,.str why,ng sn,rfl,a4,cH ne _ _ bP,λau l H' aE nl EZ keep he zZ ar=>⟨rfl,au,he,?_⟩⟩
 have t7:au≠e:=λz=>by rw[z,a4]at aE;cases aE
 have wW:l≠e:=λz=>by rw[z,a4]at nl;cases nl
 rw[aG t7]at aE
 rw[aG wW]at nl
 refine q au l (del H' e) (none_of aC aE) (none_of aC nl) EZ (λb o U=>?_) ?_ ?_
 .have i2:=aC _ _ U
  have j3:b≠e:=λz=>by rw[z,ne]at i2;cases i2
  rw[pB j3]
  exact keep b o (by rw[aG j3];exact i2) j3
 .rw[pB t7];exact zZ
 .rw[pB wW];exact ar
end fx
namespace cA
open PySem PySem.Spec PyProof.Rows ai
end cA
namespace fx
open PySem ai cA a'
theorem Ψ{K:a3}{wi:TI}{cs:List (Option Nat)}{bY:TE}{σ rest:ai.St}{H H1:ae}{Q:bk}{a:Addr}{o:Obj}{kvs:List (List bj×ai.V)}(hw:∀R:e7→ae→Prop,R (Hl a o kvs) H1→wi σ H R)(gx:gO cs σ=none::none::rest)(aH:H1 a=some (.d9 o (.cE kvs)))(ar:kvs.length<sizeLine)(f:Nat→List ai.V)(elt:∀(i:Nat)(k:List bj)(x:ai.V)(b:Addr)(ak:ae)(R:bk),kvs[i]?=some (k,x)→aP H1 ak→ak b=some (.tup (k.map cQ))→(∀r bU,aP ak bU→bU r=some (.tup (f i))→R (.ref r) bU)→bY (some (.ref b)::some x::rest) ak R)(fin:∀(D:Addr)(H':ae)(rs:List Addr),H1 D=none→H' D=some (.lst (aL rs))→dn H' rs ((c_ kvs.length).map f)→aP H1 H'→Q (.ref D) H'):
  kI wi cs (uG K 2 (m7 (gr 0) (m7 (gr 1) uP))) qR bY σ H Q:=by
 refine hw _ λD cq=>?_
 refine⟨λi m ys a6 H'=>m=kvs.length-i∧i≤kvs.length∧(∃rs,ys=aL rs∧dn H' rs ((c_ i).map f))∧(∃i8 pM,a6=i8::pM::rest)∧aP H1 H'∧H' D=some (.lst ys),⟨kvs.length,by simp,ea _,⟨[],rfl,.nil⟩,⟨none,none,gx⟩,λb o e=>?_,a4⟩,?_⟩
 .rw[aG (dg e cq)]
  exact e
 .rintro i m ys a6 H' ⟨rfl,aj,⟨rs,rfl,di⟩,⟨i8,pM,rfl⟩,aC,et⟩
  have ln:=di.len
  rw[bc,hi]at ln
  refine⟨et,lG (by rw[fS];omega) ar,?_⟩
  by_cases bN:i<kvs.length
  .refine .inr ⟨⟨aC _ _ aH,bN⟩,λx ak y=>?_⟩
   obtain⟨p,b,k,nA,aQ,rfl,tm,U,rfl⟩:=y
   have s2:=cH (o:=.tup [V.ref b,nA]) aQ
   refine⟨p,_,rfl,b2.of a4,rfl,_,_,rfl,_,_,rfl,rfl,?_⟩
   refine elt i k nA b _ _ tm (aC.trans s2) (s2 _ _ U) λr bU s5 aw=>⟨s5 _ _ (s2 _ _ et),kvs.length-(i+1),by omega,rfl,bN,⟨rs++[r],p_ rs r,?_⟩,⟨_,_,rfl⟩,λc ob e=>?_,a4⟩
   .rw[yu,ek]
    exact dn.upd (Paired.snoc (F:=λr d=>bU r=some (.tup d)) aw ((di.same s2).same s5)) (s5 _ _ (s2 _ _ et)) (by intro d z;cases z)
   .rw[aG (dg e cq)]
    exact s5 _ _ (s2 _ _ (aC _ _ e))
  .have e:i=kvs.length:=by omega
   subst e
   exact .inl ⟨⟨aC _ _ aH,b1 _⟩,fin D H' rs cq et di aC⟩
noncomputable abbrev Row:=Str×Str×Int
noncomputable def oF(r:Row):List bj:=[.inr r.1,.inr r.2.1,.inl r.2.2]
noncomputable def mc(r:Row):List ai.V:=[.str r.1,.str r.2.1,.int r.2.2]
noncomputable def dU(rs:List Row):List (List bj×ai.V):=rs.map λr=>([.inr r.1,.inr r.2.1],.int r.2.2)
noncomputable def Hq(rs:List Row):List Nat:=og (h3 (rs.map oF)) rs.length
noncomputable def r0:Row:=(jW,jW,0)
noncomputable def BZ(rs:List Row):List Row:=(Hq rs).map λi=>rs.getD i r0
theorem row_shape(rs:List Row):∀d∈rs.map oF,hC d=false::[false,true]:=λd hd=>by
 obtain⟨r,_,rfl⟩:=bV.mp hd
 rfl
theorem Ω{H:ae}{ts:List Addr}{rs:List Row}(h:dn H ts (rs.map mc)):bZ (λr d=>H r=some (.tup (d.map cQ))) ts (rs.map oF):=by
 have:∀{ts:List Addr}{rs:List Row},dn H ts (rs.map mc)→bZ (λr d=>H r=some (.tup (d.map cQ))) ts (rs.map oF):=λ{ts rs}=>by
  induction rs generalizing ts with
  |nil=>intro h;cases h;exact .nil
  |cons r q ba=>intro h;cases h with|cons a t=>exact .cons a (ba t)
 exact this h
inductive ad5(C bA e9:Addr)(vs:(List ai.V))(H:ae)(Q:bk)(E:cy):Prop where
 |mk (x n t bx aZ:Addr) (hs:List (List Nat)) (ys:List ai.V) (kvs:c9) (h g:Str) (b4:vs=[.ref x,.str h,.str g]) (bL:kn C bA H x n t bx aZ (dr hs) ys kvs) (cG:Good hs) (c2:gc H (.str h) (.str h)) (dR:gc H (.str g) (.str g)) (eW:(kk (cq hs) (.str h) (.str g)=true→∀H',aP H H'→Q ((cz kvs (dM h g)).getD .bR) H')) (h8:(kk (cq hs) (.str h) (.str g)=false→∀H',aP H H'→E (.ref e9) none H'))
noncomputable def Im(C bA e9:Addr):cW:=λvs H Q E=>ad5 C bA e9 vs H Q E
section
variable{P:bT}{w:bJ}{K:a3}{aa:Str→Option Value}{base:Heap}
noncomputable abbrev Bm:Stmt:=iH (top 33) 3
theorem afj:dT ["self","house","goal"] ["self","house","goal"] (dh Bm):=⟨rfl,rfl,rfl,by decide+kernel,rfl,by decide+kernel,by decide+kernel⟩
theorem ad6{C bA e9 f f2:Addr}{fd gw:cP}(F:b0 K "way" "Ways.way" Bm f fd)(cx:oh K C)(rf:eD K C "need_pair" "Ways.need_pair" xf ["self","house","goal"] f2 gw)(vD:aY P w K aa base (gC P w) 2 f2 gw ["self","house","goal"] (CR C bA e9)):
  aY P w K aa base (gC P w) 3 f fd ["self","house","goal"] (Im C bA e9):=by
 have jY:=cx.cl
 refine w1 F afj (λvs H Q E h=>?_) (λbC A outer s H vs Q E aw h=>?_)
 .obtain⟨x,n,t,bx,aZ,hs,ys,kvs,h',g',rfl,_⟩:=h
  rfl
 .obtain⟨x,n,t,bx,aZ,hs,ys,kvs,h',g',rfl,W,G,bG,cf,q,kC⟩:=h
  obtain⟨au,ao⟩:=W.ins
  refine⟨_,(bO (iB (hU (ah 0) jY rf.gI vD (aw.mono (by decide)) rf.bd .nil AU (aB (ah 1) (aB (ah 2) a8))))
   (bW (dH (NU (hJ aw) (ha (ah 0) (by rfl)) (hu (aB (ah 1) (aB (ah 2) a8))) ⟨rfl,rfl,rfl,rfl⟩)))),?_⟩
  refine⟨_,rfl,x,au,_,rfl,ao,rfl,_,rfl,_,rfl,x,n,t,bx,aZ,hs,_,kvs,.str h',.str g',.str h',.str g',rfl,W,G,bG,cf,(by show 0≤60;decide),(by show 0≤60;decide),λaF H1 s1=>?_,kC⟩
  refine⟨_,rfl,x,C,au,_,_,rfl,s1 _ _ ao,cx.cl,cx.eG,rfl,t,rfl,.inr ⟨_,.inl (s1 _ _ W.told)⟩,_,rfl,_,rfl,(by show 2≤sizeLine;decide),λr fL=>?_⟩
  have s3:=cH (o:=.tup [V.str h',V.str g']) fL
  exact⟨_,gP.t (k:=dM h' g') (s3 _ _ (s1 _ _ W.told)) a4,q aF _ (s1.trans s3)⟩
end
end fx
namespace dz
variable{κ:Type}[DecidableEq κ]
structure g6(κ:Type)where
 a:κ
 b:κ
 t:Int
inductive Path(rs:List (g6 κ))(s:κ):κ→Int→Prop
 |nil:Path rs s s 0
 |snoc {v:Int} (e:g6 κ):Path rs s e.a v→e∈rs→Path rs s e.b (v+e.t)
theorem Path.cons{rs:List (g6 κ)}(e:g6 κ)(he:e∈rs){g:κ}{w:Int}(p:Path rs e.b g w):Path rs e.a g (e.t+w):=by
 induction p with
 |nil=>
  have:=Path.snoc e (Path.nil (rs:=rs) (s:=e.a)) he
  rwa [sM,←Int.add_zero e.t]at this
 |snoc f _ hf ba=>
  rw[←Int.add_assoc]
  exact Path.snoc f ba hf
theorem Path.first{rs:List (g6 κ)}{s g:κ}{w:Int}(p:Path rs s g w):(s=g∧w=0)∨∃e∈rs,∃u,e.a=s∧Path rs e.b g u∧w=e.t+u:=by
 induction p with
 |nil=>exact .inl ⟨rfl,rfl⟩
 |@snoc v f _ hf ba=>
  refine .inr ?_
  rcases ba with⟨rfl,rfl⟩|⟨e,he,u,av,p,rfl⟩
  .exact⟨f,hf,0,rfl,.nil,by omega⟩
  .exact⟨e,he,u+f.t,av,.snoc f p hf,by omega⟩
theorem Path.nonneg{rs:List (g6 κ)}(aQ:∀e∈rs,1≤e.t){s g:κ}{w:Int}(p:Path rs s g w):0≤w:=by
 induction p with
 |nil=>exact x_ _
 |snoc e _ he ba=>have:=aQ e he;omega
structure Hz(rs:List (g6 κ))(s:κ)(d:κ→Option Int):Prop where
 path:∀k v,d k=some v→Path rs s k v
 least:∀k w,Path rs s k w→∃v,d k=some v∧v≤w
structure mw(rs:List (g6 κ))(s:κ)(ns:List κ)(d:κ→Option Int):Prop where
 start:d s=some 0
 path:∀k v,d k=some v→Path rs s k v
 cM:∀k v,d k=some v→v<9*(ns.countP λk=>(d k).isSome)
noncomputable def ok(d:κ→Option Int)(e:g6 κ):Prop:=∀v,d e.a=some v→∃u,d e.b=some u∧u≤v+e.t
theorem mw.done{rs:List (g6 κ)}{s:κ}{ns:List κ}{d:κ→Option Int}(m:mw rs s ns d)(h:∀e∈rs,ok d e):Hz rs s d:=by
 refine⟨m.path,λk w p=>?_⟩
 induction p with
 |nil=>exact⟨0,m.start,x_ _⟩
 |snoc e _ he ba=>
  obtain⟨v,ag,af⟩:=ba
  obtain⟨u,aU,bP⟩:=h e he v ag
  exact⟨u,aU,by omega⟩
noncomputable def put(d:κ→Option Int)(b:κ)(v:Int):κ→Option Int:=λk=>if k=b then some v else d k
theorem count_le{p q:κ→Bool}(h:∀k,p k=true→q k=true):∀ns:List κ,ns.countP p≤ns.countP q
 |[]=>by simp
 |k::r=>by
  have ba:=count_le h r
  simp only[Ĺ]
  have:=h k
  split<;>split<;>simp_all<;>omega
theorem JI{p q:κ→Bool}(h:∀k,p k=true→q k=true){b:κ}(ag:p b=false)(af:q b=true):∀{ns:List κ},b∈ns→ns.countP p<ns.countP q
 |[],z=>by simp at z
 |k::r,z=>by
  simp only[Ĺ]
  by_cases e:k=b
  .subst e
   have:=count_le h r
   simp[ag,af]
   omega
  .have ba:=JI h ag af (ns:=r) (by rcases fy.mp z with z|z;exact bB z.symm e;exact z)
   have:=h k
   split<;>split<;>simp_all<;>omega
theorem Q6{f g:κ→Nat}(h:∀k,f k≤g k):∀ns:List κ,(ns.map f).sum≤(ns.map g).sum
 |[]=>by simp
 |k::r=>by
  have:=Q6 h r
  have:=h k
  simp only[fX,mv]
  omega
theorem Q7{f g:κ→Nat}(h:∀k,f k≤g k){b:κ}(ag:f b<g b):∀{ns:List κ},b∈ns→(ns.map f).sum<(ns.map g).sum
 |[],z=>by simp at z
 |k::r,z=>by
  simp only[fX,mv]
  by_cases e:k=b
  .subst e
   have:=Q6 h r
   omega
  .have ba:=Q7 h ag (ns:=r) (by rcases fy.mp z with z|z;exact bB z.symm e;exact z)
   have:=h k
   omega
noncomputable def val(n:Nat):Option Int→Nat
 |none=>n
 |some v=>v.toNat
noncomputable def h4(ns:List κ)(d:κ→Option Int):Nat:=(ns.map λk=>val (9*ns.length) (d k)).sum
theorem mw.put{rs:List (g6 κ)}{s:κ}{ns:List κ}{d:κ→Option Int}(m:mw rs s ns d)(aQ:∀e∈rs,1≤e.t∧e.t≤9){e:g6 κ}(he:e∈rs)(U:e.b∈ns){v:Int}(aH:d e.a=some v)(hs:∀u,d e.b=some u→v+e.t<u):
  mw rs s ns (put d e.b (v+e.t))∧h4 ns (dz.put d e.b (v+e.t))<h4 ns d:=by
 have bG:0≤v:=(m.path _ _ aH).nonneg λe he=>(aQ e he).1
 have cw:=aQ e he
 have akB:∀k w,dz.put d e.b (v+e.t) k=some w→Path rs s k w:=λk w h=>by
  unfold dz.put at h
  split at h
  .rename_i q
   cases h
   rw[q]
   exact .snoc e (m.path _ _ aH) he
  .exact m.path k w h
 have hm:∀k,(d k).isSome=true→(dz.put d e.b (v+e.t) k).isSome=true:=λk h=>by
  unfold dz.put
  split
  .rfl
  .exact h
 have cM:∀k w,dz.put d e.b (v+e.t) k=some w→w<9*(ns.countP λk=>(dz.put d e.b (v+e.t) k).isSome):=λk w h=>by
  have hle:=count_le hm ns
  by_cases q:k=e.b
  .have h':w=v+e.t:=by
    unfold dz.put at h
    rw[aI q]at h
    exact(gT h).symm
   have an3:=m.cM _ _ aH
   cases hd:d e.b with
   |some u=>
    have:=hs u hd
    have:=m.cM _ _ hd
    omega
   |none=>
    have bN:ns.countP (λk=>(d k).isSome)<ns.countP λk=>(dz.put d e.b (v+e.t) k).isSome:=JI hm (b:=e.b) (by rw[hd];rfl) (by unfold dz.put;rw[aI rfl];rfl) U
    omega
  .have h':d k=some w:=by
    unfold dz.put at h
    rwa [aD q]at h
   have:=m.cM k w h'
   omega
 refine⟨⟨?_,akB,cM⟩,?_⟩
 .unfold dz.put
  split
  .rename_i q
   rw[←q]at hs
   have:=hs 0 m.start
   omega
  .exact m.start
 .have aF:ns.countP (λk=>(dz.put d e.b (v+e.t) k).isSome)≤ns.length:=ĺ
  have az:=cM e.b (v+e.t) (by unfold dz.put;rw[aI rfl])
  have lt:val (9*ns.length) (dz.put d e.b (v+e.t) e.b)<val (9*ns.length) (d e.b):=by
   have av:dz.put d e.b (v+e.t) e.b=some (v+e.t):=by unfold dz.put;rw[aI rfl]
   have bQ:((v+e.t).toNat:Int)=v+e.t:=CA (by omega)
   rw[av]
   cases hd:d e.b with
   |some u=>
    have:=hs u hd
    show(v+e.t).toNat < u.toNat
    omega
   |none=>
    show(v+e.t).toNat < 9*ns.length
    omega
  refine Q7 (λk=>?_) (b:=e.b) lt U
  by_cases q:k=e.b
  .subst q
   exact sW lt
  .have ay:dz.put d e.b (v+e.t) k=d k:=by unfold dz.put;rw[aD q]
   rw[ay]
   exact b1 _
theorem mw.begin{rs:List (g6 κ)}{s:κ}{ns:List κ}(hs:s∈ns):mw rs s ns (λk=>if k=s then some 0 else none):=by
 refine⟨by simp,λk v h=>?_,λk v h=>?_⟩
 .split at h
  .rename_i q
   cases h
   rw[q]
   exact .nil
  .cases h
 .split at h
  .cases h
   have:0<ns.countP λk=>((if k=s then some (0:Int)else none).isSome):=Ļ.mpr ⟨s,hs,by simp⟩
   omega
  .cases h
structure CW(rs:List (g6 κ))(f:κ→Option Int)(g:κ):Prop where
 path:∀k v,f k=some v→Path rs k g v
 least:∀k w,Path rs k g w→∃v,f k=some v∧v≤w
section
variable{rs:List (g6 κ)}{f:κ→Option Int}{g:κ}(F:CW rs f g)(aQ:∀e∈rs,1≤e.t)
include F
theorem CW.back{e:g6 κ}(he:e∈rs){u:Int}(h:f e.b=some u):∃v,f e.a=some v∧v≤u+e.t:=by
 obtain⟨v,ag,af⟩:=F.least _ _ (Path.cons e he (F.path _ _ h))
 exact⟨v,ag,by omega⟩
include aQ in
theorem CW.other{k:κ}{v:Int}(aK:k≠g)(h:f k=some v):1≤v∧∃e∈rs,∃u,e.a=k∧f e.b=some u∧v=u+e.t:=by
 rcases(F.path _ _ h).first with⟨e,_⟩|⟨e,he,u,rfl,p,rfl⟩
 .exact bB e aK
 .have ag:=p.nonneg aQ
  have af:=aQ e he
  obtain⟨u',aU,bP⟩:=F.least _ _ p
  obtain⟨se,cZ,qi⟩:=F.back he aU
  rw[h]at cZ
  cases cZ
  exact⟨by omega,e,he,u',rfl,aU,by omega⟩
end
theorem Path.min{rs:List (g6 κ)}(aQ:∀e∈rs,1≤e.t){s g:κ}:∀(n:Nat)(w:Int),w.toNat=n→Path rs s g w→∃v,Path rs s g v∧(∀u,Path rs s g u→v≤u):=by
 intro n
 induction n using Nat.strongRecOn with
 |_ n ba=>
  intro w hw p
  by_cases h:∃u,Path rs s g u∧u<w
  .obtain⟨u,pu,cf⟩:=h
   have ag:=pu.nonneg aQ
   exact ba u.toNat (by omega) u rfl pu
  .refine⟨w,p,λu pu=>?_⟩
   by_cases q:w≤u
   .exact q
   .exact bB ⟨u,pu,by omega⟩ h
open Classical in
noncomputable def dist(rs:List (g6 κ))(s g:κ):Option Int:=if h:∃v,Path rs s g v∧∀u,Path rs s g u→v≤u then some (Z5 h)else none
theorem ahj{rs:List (g6 κ)}{s:κ}{d:κ→Option Int}(L:Hz rs s d)(g:κ):d g=dist rs s g:=by
 unfold dist
 cases hd:d g with
 |some v=>
  have p:=L.path g v hd
  have Wi:∀u,Path rs s g u→v≤u:=λu pu=>by
   obtain⟨se,ag,af⟩:=L.least g u pu
   rw[hd]at ag
   cases ag
   exact af
  have h:∃v,Path rs s g v∧∀u,Path rs s g u→v≤u:=⟨v,p,Wi⟩
  rw[dif_pos h]
  have c:=G3 h
  congr 1
  have a:=Wi _ c.1
  have b:=c.2 _ p
  omega
 |none=>
  have h:¬∃v,Path rs s g v∧∀u,Path rs s g u→v≤u:=λ⟨v,p,_⟩=>by
   obtain⟨se,ag,_⟩:=L.least g v p
   rw[hd]at ag
   cases ag
  rw[dif_neg h]
theorem TQ{rs:List (g6 κ)}(aQ:∀e∈rs,1≤e.t)(g:κ):CW rs (λk=>dist rs k g) g:=by
 refine⟨λk v h=>?_,λk w p=>?_⟩
 .unfold dist at h
  split at h
  .rename_i q
   cases h
   exact(G3 q).1
  .cases h
 .have q:=p.min aQ _ _ rfl
  show∃v,dist rs k g=some v∧v≤w
  unfold dist
  rw[dif_pos q]
  exact⟨_,rfl,(G3 q).2 _ p⟩
end dz
namespace fx
open PySem ai cA a'
noncomputable def c'(hs:List (List Nat))(d:a'.bz):dz.g6 Str:=⟨S (hs.getD d.a []),S (hs.getD d.b []),d.t⟩
noncomputable def iX(hs:List (List Nat))(ds:List a'.bz):List (dz.g6 Str):=ds.map (c' hs)
structure Tab(kvs:List (bj×ai.V))(D:Str→Option Int):Prop where
 at_:∀k:Str,cz kvs (e' k:bj)=(D k).map V.int
 ks:∀ck∈kvs,∃k:Str,ck.1=(e' k:bj)
theorem aaV{kvs:List (bj×ai.V)}(h:∀ck∈kvs,∃k:Str,ck.1=(e' k:bj))(b:Str)(v:ai.V):∀ck∈ec kvs (e' b:bj) v,∃k:Str,ck.1=(e' k:bj):=by
 intro ck aK
 unfold ec at aK
 split at aK
 .obtain⟨q,bg,e⟩:=bV.mp aK
  obtain⟨k,d3⟩:=h q bg
  split at e
  .exact⟨k,by rw[←e];exact d3⟩
  .exact⟨k,by rw[←e];exact d3⟩
 .rcases el.mp aK with z|z
  .exact h ck z
  .exact⟨b,by rw[e8.mp z]⟩
theorem Tab.put{kvs:List (bj×ai.V)}{D:Str→Option Int}(T:Tab kvs D)(b:Str)(v:Int):Tab (ec kvs (e' b:bj) (.int v)) (dz.put D b v):=⟨λk=>by
 rw[tO]
 unfold dz.put
 by_cases h:k=b
 .rw[aI h,aI (eK e' h)]
  rfl
 .rw[aD h,aD λz=>h (It z)]
  exact T.at_ k,aaV T.ks b _⟩
theorem YM{κ:Type}[DecidableEq κ]{kvs:List (κ×ai.V)}{k:κ}{u:ai.V}(v:ai.V)(h:cz kvs k=some u):(ec kvs k v).length=kvs.length:=by
 unfold ec
 rw[aI (by rw[nU,h];rfl),bc]
noncomputable def ur(D:Str→Option Int)(e:dz.g6 Str):Bool:=match D e.a with
 |none=>false
 |some v=>match D e.b with
  |none=>true
  |some u=>decide (v+e.t<u)
theorem amc{D:Str→Option Int}{e:dz.g6 Str}(h:ur D e=true):∃v,D e.a=some v∧∀u,D e.b=some u→v+e.t<u:=by
 unfold ur at h
 cases aH:D e.a with
 |none=>rw[aH]at h;cases h
 |some v=>
  rw[aH]at h
  refine⟨v,rfl,λu cf=>?_⟩
  rw[cf]at h
  exact jM h
theorem alP{D:Str→Option Int}{e:dz.g6 Str}(h:ur D e=false):dz.ok D e:=by
 intro v aH
 unfold ur at h
 rw[aH]at h
 cases U:D e.b with
 |none=>rw[U]at h;cases h
 |some u=>
  rw[U]at h
  exact⟨u,rfl,by have:=of_decide_eq_false h;omega⟩
inductive Ā(vs:(List ai.V))(H:ae)(Q:bk)(bF:cy):Prop where
 |mk (r f:Addr) (hs:List (List Nat)) (d:a'.bz) (kvs:List (bj×ai.V)) (D:Str→Option Int) (b4:vs=[.ref r,.ref f]) (bL:H r=some (.tup (ow hs d))) (cG:H f=some (.ct kvs)) (c2:Tab kvs D) (dR:Q (.bo (ur D (c' hs d))) H)
noncomputable def OY:cW:=λvs H Q bF=>Ā vs H Q bF
inductive ă(K:a3)(vs:(List ai.V))(H:ae)(Q:bk)(bF:cy):Prop where
 |mk (b:Addr) (hs:List (List Nat)) (rs:List Addr) (ds:List a'.bz) (h:Str) (b4:vs=[.ref b,.str h]) (bL:aR K H b (aL rs)) (cG:hp H hs rs ds) (c2:hs.length≤12) (dR:h∈hs.map S) (eW:∀(p:Addr)(H':ae)(kvs:List (bj×ai.V))(D:Str→Option Int),H p=none→aP H H'→H' p=some (.ct kvs)→Tab kvs D→dz.Hz (iX hs ds) h D→Q (.ref p) H')
noncomputable def OZ(K:a3):cW:=λvs H Q bF=>ă K vs H Q bF
section
variable{P:bT}{w:bJ}{K:a3}{aa:Str→Option Value}{base:Heap}
noncomputable abbrev By:Stmt:=top 29
noncomputable abbrev Bt:Stmt:=top 30
theorem aaW:dT ["road","found"] ["road","found"] (dh By):=⟨rfl,rfl,rfl,by decide+kernel,rfl,by decide+kernel,by decide+kernel⟩
theorem w0:dT ["roads","house","found","changed","road"] ["roads","house"] (dh Bt):=⟨rfl,rfl,rfl,by decide+kernel,rfl,by decide+kernel,by decide+kernel⟩
theorem Ą{f:Addr}{fd:cP}(F:b0 K "is_shorter_by" "is_shorter_by" By f fd):aY P w K aa base bu 1 f fd ["road","found"] OY:=by
 refine F.ok aaW (λvs H Q E h=>?_) (λbC A outer s H vs Q E aw h=>?_)
 .obtain⟨r,qd,hs,d,kvs,D,rfl,_⟩:=h
  rfl
 .obtain⟨r,qd,hs,d,kvs,D,rfl,cL,hf,T,q⟩:=h
  refine⟨_,(bO (f5 (QE (Nr (hJ aw) (b9 d2 (ah 0) bl (λ_ _=>rfl)) (ah 1))) (bW (dH jl)) f3)
   (bW (dH (ac9 (abi (Nr (hJ aw) (b9 d2 (ah 0) bl (λ_ _=>rfl)) (ah 1))) (qx (mP Cn (cK ie (pw (hJ aw) (ah 1) (b9 d2 (ah 0) bl (λ_ _=>rfl)) (λ_ _=>rfl)) (b9 d2 (ah 0) bl (λ_ _=>rfl))) (pw (hJ aw) (ah 1) (b9 d2 (ah 0) bl (λ_ _=>rfl)) (λ_ _=>rfl)) (fu _))))))),?_⟩
  have fM:=T.at_ (S (hs.getD d.a []))
  have kE:=T.at_ (S (hs.getD d.b []))
  have ga:=gP.k (k:=e' (S (hs.getD d.a []))) hf
  have j1:=gP.k (k:=e' (S (hs.getD d.b []))) hf
  rw[fM]at ga
  rw[kE]at j1
  unfold ur at q
  have bp:(c' hs d).a=S (hs.getD d.a []):=rfl
  have dJ:(c' hs d).b=S (hs.getD d.b []):=rfl
  rw[bp,dJ]at q
  refine⟨_,rfl,r,_,_,_,rfl,rfl,b2.of cL,rfl,_,rfl,qd,_,rfl,ga,_,rfl,?_⟩
  cases aH:D (S (hs.getD d.a []))with
  |none=>
   rw[aH]at q
   exact j7 q
  |some v=>
   rw[aH]at q ga
   refine ky ?_
   refine⟨_,rfl,r,_,_,_,rfl,rfl,b2.of cL,rfl,_,rfl,qd,_,rfl,j1,_,rfl,?_⟩
   cases U:D (S (hs.getD d.b []))with
   |none=>
    rw[U]at q
    exact j7 q
   |some u=>
    rw[U]at q j1
    refine ky ?_
    exact⟨_,rfl,_,rfl,r,_,_,_,rfl,rfl,b2.of cL,rfl,qd,_,rfl,ga,_,rfl,r,_,_,_,rfl,rfl,b2.of cL,rfl,_,_,rfl,rfl,_,rfl,_,rfl,r,_,_,_,rfl,rfl,b2.of cL,rfl,qd,_,rfl,j1,_,_,rfl,rfl,q⟩
theorem ą{f fs:Addr}{fd rr:cP}(F:b0 K "least_turns_from" "least_turns_from" Bt f fd)(y1:dS K aa "is_shorter_by" By ["road","found"] fs rr)(Lz:aY P w K aa base bu 1 fs rr ["road","found"] OY):
  aY P w K aa base bu 2 f fd ["roads","house"] (OZ K):=by
 refine F.ok w0 (λvs H Q E h=>?_) (λbC A outer s H vs Q E aw h=>?_)
 .obtain⟨b,hs,rs,ds,h',rfl,_⟩:=h
  rfl
 .obtain⟨b,hs,rs,ds,h',rfl,U,cL,cM,hm,q⟩:=h
  refine⟨_,(bO (dB (i:=2) w0.aE rfl (cC rfl) (Ź (é (ah 1) bl Ÿ) rfl rfl (by intro z;cases z) (by decide)))
   (bO (dB (i:=3) w0.aE rfl (cC rfl) jl)
   (bO (NF hF (mZ (ah 3))
    (bO (dB (i:=3) w0.aE rfl (cC rfl) jl)
   (bW (hV hF rfl (hn (ah 0)) (de (i:=4) w0.aE rfl (cC rfl))
    (bW (f5 (mZ (fT Lz (aw.mono (by decide)) (by rfl) y1.at_ y1.fn.cN y1.bd .nil dI (aB (ah 4) (aB (ah 2) a8)))) (bO (AO (hJ aw) (ah 2) (b9 d2 (ah 4) bl (λ_ _=>rfl)) (cK ie (pw (hJ aw) (ah 2) (b9 d2 (ah 4) bl (λ_ _=>rfl)) (λ_ _=>rfl)) (b9 d2 (ah 4) bl (λ_ _=>rfl))) rfl)
   (bW (dB (i:=3) w0.aE rfl (cC rfl) jl))) f3))))))
   (bW (dH (ah 2)))))),?_⟩
  have aio:∀e∈iX hs ds,1≤e.t∧e.t≤9:=λe he=>by
   obtain⟨d,hd,rfl⟩:=bV.mp he
   exact(cL.ok d hd).t
  refineλp aQ=>⟨_,rfl,a4,[(e' h',.int 0)],rfl,(by show 1≤15;decide),?_⟩
  have cF:upd (upd H p (.ct [])) p (.ct (xa [] [((e' h':bj),V.int 0)]))=upd H p (.ct [((e' h':bj),V.int 0)]):=by
   rw[P0]
   rfl
  rw[cF]
  have s0:aP H (upd H p (.ct [((e' h':bj),V.int 0)])):=cH aQ
  have T0:Tab [((e' h':bj),V.int 0)] (λk=>if k=h' then some 0 else none):=⟨λk=>by
   by_cases z:k=h'
   .rw[kW (eK e' z.symm),aI z]
    rfl
   .rw[kh λy=>z (It y).symm,aD z]
    rfl,λck aK=>⟨h',by rw[e8.mp aK]⟩⟩
  have m0:dz.mw (iX hs ds) h' (hs.map S) (λk=>if k=h' then some 0 else none):=dz.mw.begin hm
  have Tb:0<(hs.map S).countP λk=>((if k=h' then some (0:Int)else none).isSome):=Ļ.mpr ⟨h',hm,by simp⟩
  refine⟨λm σ a7=>∃(kvs:List (bj×ai.V))(D:Str→Option Int)(ch:Bool)(F_:Option ai.V),σ=[some (.ref b),some (.str h'),some (.ref p),some (.bo ch),F_]∧aP H a7∧a7 p=some (.ct kvs)∧Tab kvs D∧
   kvs.length≤(hs.map S).countP (λk=>(D k).isSome)∧dz.mw (iX hs ds) h' (hs.map S) D∧(ch=false→∀e∈iX hs ds,dz.ok D e)∧m=2*dz.h4 (hs.map S) D+(if ch=true then 1 else 0),
   ⟨_,_,_,true,none,rfl,s0,a4,T0,Tb,m0,λz=>(nomatch z),rfl⟩,?_⟩
  rintro m σ a7 ⟨kvs,D,ch,F_,rfl,aC,aK,T,len,mid,bh,rfl⟩
  refine⟨_,rfl,_,rfl,?_⟩
  cases ch with
  |false=>exact ky ⟨_,rfl,q p a7 kvs D aQ aC aK T (mid.done (bh rfl))⟩
  |true=>
   refine j7 ⟨λa6 dk=>∃(hM:List (bj×ai.V))(eA:Str→Option Int)(kX:Bool)(qS:Option ai.V),a6=[some (.ref b),some (.str h'),some (.ref p),some (.bo kX),qS]∧aP H dk∧dk p=some (.ct hM)∧Tab hM eA∧
    hM.length≤(hs.map S).countP (λk=>(eA k).isSome)∧dz.mw (iX hs ds) h' (hs.map S) eA∧((kX=false∧eA=D∧∀e∈iX hs ds,dz.ok eA e)∨(kX=true∧dz.h4 (hs.map S) eA<dz.h4 (hs.map S) D)),?_,?_⟩
   .rintro a6 dk ⟨hM,eA,kX,qS,rfl,nq,pv,cb,AA,wL,lY⟩
    refine⟨_,?_,hM,eA,kX,qS,rfl,nq,pv,cb,AA,wL,?_,rfl⟩
    .rcases lY with⟨rfl,rfl,_⟩|⟨rfl,bN⟩
     .simp
     .simp
      omega
    .rintro rfl
     rcases lY with⟨_,_,a9⟩|⟨z,_⟩
     .exact a9
     .cases z
   .refine⟨_,rfl,b,rfl,⟨_,aC.seq U⟩,?_⟩
    refine nV (xs:=aL rs) (λi a6 dk=>∃(hM:List (bj×ai.V))(eA:Str→Option Int)(kX:Bool)(qS:Option ai.V),a6=[some (.ref b),some (.str h'),some (.ref p),some (.bo kX),qS]∧aP H dk∧dk p=some (.ct hM)∧Tab hM eA∧
     hM.length≤(hs.map S).countP (λk=>(eA k).isSome)∧dz.mw (iX hs ds) h' (hs.map S) eA∧((kX=false∧eA=D∧∀j d,j<i→ds[j]?=some d→dz.ok eA (c' hs d))∨(kX=true∧dz.h4 (hs.map S) eA<dz.h4 (hs.map S) D)))
     ⟨kvs,D,false,F_,rfl,aC,aK,T,len,mid,.inl ⟨rfl,rfl,λj d aN _=>bB aN (HO _)⟩⟩ ?_ ?_ ?_
    .rintro i a6 dk aj ⟨hM,eA,kX,qS,rfl,nq,_⟩
     exact nq.seq U
    .rintro i z a6 dk cV ⟨hM,eA,kX,qS,rfl,nq,pv,cb,AA,wL,lY⟩
     unfold aL at cV
     rw[b8]at cV
     obtain⟨r,dK,rfl⟩:=eh.mp cV
     obtain⟨d,za,qG,hd⟩:=cL.get dK
     have z6:c' hs d∈iX hs ds:=bV.mpr ⟨d,eI za,rfl⟩
     refine⟨_,rfl,_,rfl,r,p,hs,d,hM,eA,rfl,nq _ _ hd,pv,cb,_,rfl,?_⟩
     cases l0:ur eA (c' hs d)with
     |false=>
      refine ky ⟨hM,eA,kX,_,rfl,nq,pv,cb,AA,wL,?_⟩
      rcases lY with⟨rfl,rfl,a9⟩|lY
      .refine .inl ⟨rfl,rfl,λj d' aN eP=>?_⟩
       by_cases K4:j=i
       .subst K4
        rw[za]at eP
        cases eP
        exact alP l0
       .exact a9 j d' (by omega) eP
      .exact .inr lY
     |true=>
      obtain⟨v,aH,rJ⟩:=amc l0
      have rD:eA (S (hs.getD d.a []))=some v:=aH
      obtain⟨ajL,bN⟩:=wL.put aio z6 (oa qG.b) aH rJ
      have ga:=gP.k (k:=e' (S (hs.getD d.a []))) pv
      rw[cb.at_,rD]at ga
      have zV:(hs.map S).countP (λk=>(eA k).isSome)≤(hs.map S).length:=ĺ
      rw[bc]at zV
      have rI:=nq _ _ hd
      refine j7 ?_
      refine⟨_,rfl,_,rfl,r,_,_,_,rfl,rfl,b2.of rI,rfl,p,_,rfl,ga,_,rfl,r,_,_,_,rfl,rfl,b2.of rI,rfl,_,_,rfl,rfl,_,rfl,_,rfl,r,_,_,_,rfl,rfl,b2.of rI,rfl,p,_,rfl,oA.k (k:=e' (S (hs.getD d.b []))) pv (fh (by omega)),?_⟩
      refine⟨_,dz.put eA (c' hs d).b (v+(c' hs d).t),true,_,rfl,hH aQ nq,a4,cb.put _ _,?_,ajL,.inr ⟨rfl,?_⟩⟩
      .cases cJ:eA (S (hs.getD d.b []))with
       |none=>
        have av:(ec hM (e' (S (hs.getD d.b [])):bj) (V.int (v+d.t))).length=hM.length+1:=by
         rw[wm _ (by rw[cb.at_,cJ];rfl),ff]
         rfl
        have ay:(hs.map S).countP (λk=>(eA k).isSome)<(hs.map S).countP (λk=>(dz.put eA (c' hs d).b (v+(c' hs d).t) k).isSome):=
         dz.JI (b:=S (hs.getD d.b [])) (λk aK=>by unfold dz.put;split;rfl;exact aK) (by rw[cJ];rfl) (by unfold dz.put;rw[aI (show S (hs.getD d.b [])=(c' hs d).b from rfl)];rfl) (oa qG.b)
        exact gm (HN av) (by omega)
       |some u=>
        have av:(ec hM (e' (S (hs.getD d.b [])):bj) (V.int (v+d.t))).length=hM.length:=YM _ (by rw[cb.at_,cJ];rfl)
        have ay:(hs.map S).countP (λk=>(eA k).isSome)≤(hs.map S).countP (λk=>(dz.put eA (c' hs d).b (v+(c' hs d).t) k).isSome):=
         dz.count_le (λk aK=>by unfold dz.put;split;rfl;exact aK) _
        exact gm (HN av) (by omega)
      .rcases lY with⟨_,rfl,_⟩|⟨_,af⟩
       .exact bN
       .exact aat bN af
    .rintro a6 dk ⟨hM,eA,kX,qS,rfl,nq,pv,cb,AA,wL,lY⟩
     refine⟨hM,eA,kX,qS,rfl,nq,pv,cb,AA,wL,?_⟩
     rcases lY with⟨rfl,rfl,a9⟩|lY
     .refine .inl ⟨rfl,rfl,λe he=>?_⟩
      obtain⟨d,hd,rfl⟩:=bV.mp he
      obtain⟨j,aN⟩:=pZ hd
      refine a9 j d ?_ aN
      have ag:=(fW.mp aN).1
      have af:=cL.len
      rw[fS]
      omega
     .exact .inr lY
end
end fx
namespace cA
open PySem PySem.Spec PyProof.Rows ai
section
variable{X:bw}
noncomputable def afk(ts:eY):eY:=λD σ H=>∃a kvs,H a=some (.ct kvs)∧∀o,ts ⟨λa6 H'=>H' a=some (.d9 o (.ct kvs))∧D.b' a6 (upd H' a (.ct kvs)),λv H'=>H' a=some (.d9 o (.ct kvs))∧D.rt v (upd H' a (.ct kvs)),λa6 H'=>H' a=some (.d9 o (.ct kvs))∧D.gG a6 (upd H' a (.ct kvs)),λa6 H'=>H' a=some (.d9 o (.ct kvs))∧D.fA a6 (upd H' a (.ct kvs))⟩ σ (upd H a (.d9 o (.ct kvs)))
theorem acN{st:Stmt}{ts:eY}(hs:gn X st ts):gn X st (afk ts):=by
 intro pins s σ H D I h
 obtain⟨a,kvs,aH,h⟩:=h
 have f1:∀xs,X.kP a≠some (.tup xs):=λxs z=>by have:=I.base.h7 a xs z;rw[aH]at this;cases this
 have f2:∀o v,X.kP a≠some (.d9 o v):=λo v z=>by have:=I.base.iY a o v z;rw[aH]at this;cases this
 have dc:∀ps,X.kP a≠some (.oG ps):=λps z=>by obtain⟨m,e⟩:=I.base.jx a ps z;rw[aH]at e;cases e
 have ok:=I.bh a _ aH
 obtain⟨z,y,vs,rel,o,es,ep,e,c⟩:=id ok
 have aS:Inv X pins σ (upd H a (.d9 o (.ct kvs))) s:=Ge I aH (by intro _ w;cases w) (by intro _ w;cases w) ⟨e,z,y,vs,rel,o,es,ep,e,c⟩ f1 f2 dc
 have back:∀{a6:ai.St}{H':ae}{s':ax},Inv X pins a6 H' s'→H' a=some (.d9 o (.ct kvs))→Inv X pins a6 (upd H' a (.ct kvs)) s':=λ{a6 H' s'}bK k8=>by
  obtain⟨av,b4,nB,al5,akO,i8,JZ,JV,ay,e1⟩:=bK.bh a _ k8
  exact Ge bK (u':=.ct kvs) k8 (by intro _ w;cases w) (by intro _ w;cases w) ⟨b4,nB,al5,akO,i8,JZ,JV,ay,e1⟩ f1 f2 dc
 refine bH (hs pins s σ _ _ aS (h o)) λf s1 q=>?_
 cases f with
 |next=>
  obtain⟨a6,H',bK,k8,q⟩:=q
  exact⟨a6,_,back bK k8,q⟩
 |brk=>
  obtain⟨a6,H',bK,k8,q⟩:=q
  exact⟨a6,_,back bK k8,q⟩
 |cont=>
  obtain⟨a6,H',bK,k8,q⟩:=q
  exact⟨a6,_,back bK k8,q⟩
 |ret v=>
  obtain⟨a6,x,H',bK,b7,k8,q⟩:=q
  exact⟨a6,x,_,back bK k8,b7,q⟩
end
noncomputable def yf(a:Addr)(o:Obj)(kvs:List (bj×V)):e7:=
 ⟨λi H=>H a=some (.d9 o (.ct kvs))∧i<kvs.length,λi H v H'=>H'=H∧∃k x,v=cQ k∧kvs[i]?=some (k,x),λi H=>H a=some (.d9 o (.ct kvs))∧kvs.length≤i⟩
theorem O0{P:bT}{w:bJ}{H:ae}{h:Heap}{a:Addr}{o:Obj}{kvs:List (bj×V)}(ok:fe P w H h)(aH:H a=some (.d9 o (.ct kvs))):h.get? a=some o∧(a==jP)=false∧o.ExactDict∧∃es ep,o.data=.dict es ep∧es.size=kvs.length∧
  ∀(i:Nat)(k:bj)(x:V),kvs[i]?=some (k,x)→∃aj:i<es.size,RelV (cQ k) es[i].key:=by
 obtain⟨cF,_,y,vs,rel,cO,es,ep,av,ao,hd,_,pr,_⟩:=ok a _ aH
 rw[cF]at av
 cases av
 have gen:∀{kvs:List (bj×V)}{ys:List (bj×Value)}{eL:List qZ},f_ kvs ys→Pairs (gV P w) eL ys→eL.length=kvs.length∧∀(i:Nat)(k:bj)(x:V),kvs[i]?=some (k,x)→∃e,eL[i]?=some e∧RelV (cQ k) e.key:=by
  intro kvs ys eL rel pr
  induction pr generalizing kvs with
  |nil=>
   cases rel
   exact⟨rfl,λi k x e=>by simp at e⟩
  |@cons e ck eL ys ag af t ba=>
   cases rel with
   |@cons p q ps nk a b=>
    obtain⟨l,f⟩:=ba b
    refine⟨by rw[hS,hS,l],λi k x iD=>?_⟩
    cases i with
    |zero=>
     simp only[RA,R2]at iD
     refine⟨e,rfl,?_⟩
     have av:ck.1=k:=by rw[←a.1,iD]
     rw[av]at ag
     rcases pb (show ui k e.key=true from ag)with⟨n,t,rfl,d3⟩|⟨n,t,rfl,d3⟩
     .exact⟨t,d3⟩
     .exact⟨t,d3⟩
    |succ i=>exact f i k x (by simpa using iD)
 obtain⟨l,f⟩:=gen rel pr
 refine⟨cF,y,ao,es,ep,hd,by simpa using l,λi k x aj=>?_⟩
 obtain⟨e,JP,r⟩:=f i k x aj
 obtain⟨ag,af⟩:=fW.mp JP
 have jo:i<es.size:=by simpa using ag
 refine⟨jo,?_⟩
 have:es[i]=e:=by simpa using af
 rw[this]
 exact r
theorem ZD{P:bT}{w:bJ}{K:a3}{dq:Expr}{o:Obj}{kvs:List (bj×V)}{es:Array qZ}{ep:Nat}(a it:Addr)(hd:o.data=.dict es ep):
  Turn P w K dq (yf a o kvs) [it] it (λi h=>h.IsKeyIter it a i es.size ep)where
 mem:=by simp
 obj:=λi h st b U=>by
  obtain rfl:b=it:=by simpa using U
  obtain⟨o,e,c,d⟩:=st
  exact⟨o,e,λv z=>by rw[d]at z;cases z⟩
 keep:=λi h h' st k=>by
  obtain⟨o,e,r⟩:=st
  exact⟨o,k it (by simp) o e,r⟩
 item:=by
  intro X fH hw fk aF i pins s σ H E I hf st bf
  subst fH hw fk
  obtain⟨aH,aj⟩:=bf
  obtain⟨go,_,bb,qb,qa,jm,gs,ge⟩:=O0 I.bh aH
  rw[hd]at jm
  cases jm
  obtain⟨m6,tm⟩:∃q,kvs[i]?=some q:=⟨_,cg aj⟩
  obtain⟨rF,ox⟩:=ge i m6.1 m6.2 tm
  obtain⟨f0,f1,f2,dc,f4,eU⟩:=hf it (by simp)
  refine Q5 st ⟨o,go,bb,hd⟩ rF λh' aM bX=>?_
  have aS:Inv X pins σ H {s with heap:=h'}:=I.turned (t':=s.toks) (λb o U e=>(bX.2 b U).trans e) f0 f1 dc f4 eU
  obtain⟨WN,e,c,d⟩:=id aM
  exact⟨_,rfl,xn (s:={s with heap:=h'}) e c d (by decide) ⟨cQ m6.1,H,aS,ox,⟨rfl,m6.1,m6.2,rfl,tm⟩,aM,λb U=>(hf b U).1⟩⟩
 done:=by
  intro X fH hw fk aF i pins s σ H E I hf st bf
  subst fH hw fk
  obtain⟨aH,aj⟩:=bf
  obtain⟨go,_,bb,qb,qa,jm,gs,ge⟩:=O0 I.bh aH
  rw[hd]at jm
  cases jm
  obtain⟨f0,f1,f2,dc,f4,eU⟩:=hf it (by simp)
  exact P9 (I.ok.hd aF) st ⟨o,go,bb,hd⟩ (by omega) λh' dJ=>⟨rfl,I.turned (t':=s.toks) (λb o U e=>dJ b o U e) f0 f1 dc f4 eU⟩
 self:=λA i s Q E st h=>by
  have T0:=st.typeIs
  refine Yv T0 F.slot_dict_keyiterator_iter (oM F.slot_dict_keyiterator_iter T0 F.entry_dict_keyiterator_iter ?_ (F.args_dict_keyiterator_iter_1 _))
  exact bM ⟨_,rfl,"dict_keyiterator",_,T0,F.slot_dict_keyiterator_next.lookup,h⟩
section
variable{X:bw}{dq:Expr}
noncomputable def acO(dQ:TE):TI:=λσ H R=>dQ σ H λx H1=>∃a o kvs,x=.ref a∧H1 a=some (.d9 o (.ct kvs))∧R (yf a o kvs) H1
theorem Ć{o:Expr}{dQ:TE}(a9:bE X o dQ):lH X dq o (acO dQ):=by
 intro pins s σ H R I h
 refine bH (a9 pins s σ H _ I h) λv s1⟨x,H1,aS,b6,a,ob,kvs,ex,aH,bq⟩=>?_
 subst ex
 cases b6
 obtain⟨go,Kg,bb,es,ep,jm,gs,ge⟩:=O0 aS.bh aH
 refine P' Kg ⟨ob,go,bb,jm⟩ ?_
 refine⟨s1.heap.objs.size,[s1.heap.objs.size],_,_,H1,rfl,aS.kept (t':=s1.toks) λb o e=>dy _ e,ZD a _ jm,⟨_,gD _ rfl,rfl,rfl⟩,λb U=>?_,bq⟩
 obtain rfl:b=s1.heap.objs.size:=by simpa using U
 exact aS.qe (b1 _) (aS.bh.fresh (b1 _))
end
theorem À{a:Addr}{o:Obj}{kvs:List (bj×V)}{g:ic}{cX:eY}{D:Ends}{σ:ai.St}{H:ae}(Pv:Nat→ai.St→ae→Prop)(h0:Pv 0 σ H)(ar:∀i σ H,Pv i σ H→H a=some (.d9 o (.ct kvs)))(hs:∀i k x σ H,kvs[i]?=some (k,x)→Pv i σ H→g (cQ k) σ H λgZ ak=>cX {D with b':=Pv (i+1),fA:=Pv (i+1),gG:=D.b'} gZ ak)(hd:∀σ H,Pv kvs.length σ H→D.b' σ H):
  ∃W:Nat→Nat→ai.St→ae→Prop,(∃m,W 0 m σ H)∧∀i m σ H,W i m σ H→
   ((yf a o kvs).stop i H∧D.b' σ H)∨((yf a o kvs).go i H∧∃N:ai.St→ae→Prop,(∀a6 H',N a6 H'→∃cR,cR<m∧W (i+1) cR a6 H')∧∀x H',(yf a o kvs).ml i H x H'→g x σ H' λgZ ak=>cX {D with b':=N,fA:=N,gG:=D.b'} gZ ak):=by
 refine⟨λi m σ H=>m=kvs.length-i∧i≤kvs.length∧Pv i σ H,⟨kvs.length,by simp,ea _,h0⟩,?_⟩
 rintro i m σ H ⟨rfl,aj,p⟩
 have q:=ar i σ H p
 by_cases bN:i<kvs.length
 .refine .inr ⟨⟨q,bN⟩,Pv (i+1),λa6 H' ip=>⟨kvs.length-(i+1),by omega,rfl,bN,ip⟩,λv H' y=>?_⟩
  obtain⟨rfl,k,x,rfl,d3⟩:=y
  exact hs i k x σ H' d3 p
 .have e:i=kvs.length:=by omega
  subst e
  exact .inl ⟨⟨q,b1 _⟩,hd σ H p⟩
open PySem PySem.Spec PyProof.Rows ai
theorem mG{α β:Type}{M:nK}{A:c5}{E:Value→ax→Prop}{s:ax}(c:Sem α){k:α→Sem β}{Q:β→ax→Prop}(h:aX M A c (λa s'=>aX M A (k a) Q E s') E s):aX M A (c >>=k) Q E s:=aJ h
theorem ad7{h:Heap}{b:Addr}{o:Obj}(e:h.get? b=some o):b≠h.objs.size:=en (du e)
theorem Q1{h:Heap}{b:Addr}{o:Obj}(e:h.get? b=some o):b≠h.objs.size+1:=en (CT (du e))
theorem P_{val:Nat→Int}:∀k,iT (λi j=>decide (val i>val j)) k≤k∧∀j,j≤k→val j≤val (iT (λi j=>decide (val i>val j)) k)
 |0=>⟨b1 _,λj h=>by rw[aas.mp h];exact x_ _⟩
 |k+1=>by
  obtain⟨a,b⟩:=P_ (val:=val) k
  simp only[iT]
  by_cases h:val (k+1)>val (iT (λi j=>decide (val i>val j)) k)
  .rw[aI (dp h)]
   refine⟨b1 _,λj aN=>?_⟩
   rcases sX j (k+1)with ag|ag
   .exact ï (b j (by omega)) (î h)
   .rw[show j=k+1 by omega];exact x_ _
  .rw[aD (by rw[eF h];exact fb)]
   refine⟨by omega,λj aN=>?_⟩
   rcases sX j (k+1)with ag|ag
   .exact b j (by omega)
   .rw[show j=k+1 by omega];omega
theorem YN{val:Nat→Int}:∀k,iT (λi j=>decide (val i<val j)) k≤k∧∀j,j≤k→val (iT (λi j=>decide (val i<val j)) k)≤val j
 |0=>⟨b1 _,λj h=>by rw[aas.mp h];exact x_ _⟩
 |k+1=>by
  obtain⟨a,b⟩:=YN (val:=val) k
  simp only[iT]
  by_cases h:val (k+1)<val (iT (λi j=>decide (val i<val j)) k)
  .rw[aI (dp h)]
   refine⟨b1 _,λj aN=>?_⟩
   rcases sX j (k+1)with ag|ag
   .exact ï (î h) (b j (by omega))
   .rw[show j=k+1 by omega];exact x_ _
  .rw[aD (by rw[eF h];exact fb)]
   refine⟨by omega,λj aN=>?_⟩
   rcases sX j (k+1)with ag|ag
   .exact b j (by omega)
   .rw[show j=k+1 by omega];omega
noncomputable def Hn(ns:List Int):Int:=ns.getD (iT (λi j=>decide (ns.getD i 0>ns.getD j 0)) (ns.length-1)) 0
noncomputable def pJ(ns:List Int):Int:=ns.getD (iT (λi j=>decide (ns.getD i 0<ns.getD j 0)) (ns.length-1)) 0
theorem anG{ns:List Int}(h:ns≠[]):Hn ns∈ns∧∀x∈ns,x≤Hn ns:=by
 have aQ:0<ns.length:=q5.mpr h
 obtain⟨a,b⟩:=P_ (val:=λi=>ns.getD i 0) (ns.length-1)
 have aj:iT (λi j=>decide (ns.getD i 0>ns.getD j 0)) (ns.length-1)<ns.length:=by omega
 refine⟨?_,λx ao=>?_⟩
 .unfold Hn
  rw[cY,cg aj]
  exact eg aj
 .obtain⟨j,aN,rfl⟩:=RH.mp ao
  have:=b j (by omega)
  have e:ns.getD j 0=ns[j]:=by rw[cY,cg aN];rfl
  rw[←e]
  exact this
theorem Gg{ns:List Int}(h:ns≠[]):pJ ns∈ns∧∀x∈ns,pJ ns≤x:=by
 have aQ:0<ns.length:=q5.mpr h
 obtain⟨a,b⟩:=YN (val:=λi=>ns.getD i 0) (ns.length-1)
 have aj:iT (λi j=>decide (ns.getD i 0<ns.getD j 0)) (ns.length-1)<ns.length:=by omega
 refine⟨?_,λx ao=>?_⟩
 .unfold pJ
  rw[cY,cg aj]
  exact eg aj
 .obtain⟨j,aN,rfl⟩:=RH.mp ao
  have:=b j (by omega)
  have e:ns.getD j 0=ns[j]:=by rw[cY,cg aN];rfl
  rw[←e]
  exact this
theorem Á{prog:bT}{w:bJ}{A:c5}{R:vv→ax→Prop}{I:Addr}{cu wr:List Addr}{n:Nat}{P:Nat→Value→Prop}{St:Nat→Heap→Prop}(W:Walks prog w A.in1 I cu wr n P St)(eE:Nat→Nat→Bool)(aF:CmpOf prog w A.in1 .Lt P eE)(S:Addr)(wR:S∉cu):
  ∀(k j:Nat)(s:ax)(mi:Value)(c:Nat),n-(j+1)=k→j+1≤n→St (j+1) s.heap→P (iT eE j) mi→s.heap.get? S=some ⟨.type "list",none,.seq #[mi,mi] c,#[]⟩→
   (∀v h' a5,P (iT eE (n-1)) v→(∀b o,b∉wr→b≠S→s.heap.get? b=some o→h'.get? b=some o)→R (.ok (.ret v)) {s with heap:=h',toks:=a5})→
   nS (br prog w) A (.builtin "min.loop" ⟨[.ref I,.none,.ref S],[]⟩) R s:=by
 have wS:S∉wr:=λh=>wR (W.sub _ h)
 have nm:(toString "min"++toString ".loop":String)="min.loop":=by decide
 intro k
 induction k with
 |zero=>
  intro j s mi c aK aN st kA ru cL
  have k6:j+1=n:=by omega
  refine y0 Sh ?_
  rw[B_ vq _]
  refine mG (Xe (.ref S)) (Yx ru rfl (mG (tryCatch (kB (.ref I)) _) (O6 (W.done s _ _ (k6▸st) λh' a5 c0=>?_))))
  refine mG (updateSeq S (λ_=>#[])) (Yz (c0 S _ wS ru) rfl (aJ (Gk (bM ?_))))
  exact cL mi _ a5 (by rw[←k6];exact kA) λb o hD ew e=>(pW _ _ (dG ew)).trans (c0 b o hD e)
 |succ k ba=>
  intro j s mi c aK aN st kA ru cL
  have lt:j+1<n:=by omega
  refine y0 Sh ?_
  rw[B_ vq _]
  refine mG (Xe (.ref S)) (Yx ru rfl (mG (tryCatch (kB (.ref I)) _) (O6 (W.item (j+1) s _ _ lt st λv h' a5 ah aM c0=>?_))))
  have vU:=c0 S _ wS ru
  refine mG (tryCatch (n7 [v,v] (richCompare .Lt v mi >>=_)) _) (O6 (jQ (aJ (aF (j+1) (iT eE j) v mi _ _ _ ah kA (aJ (jQ (oN (aJ (Gk (bM ?_))))))))))
  cases U:eE (j+1) (iT eE j)with
  |true=>
   simp only[if_true]
   refine aJ (Yz vU rfl (aJ (Gk ?_)))
   rw[nm]
   refine bM ⟨Fq vq _,ba (j+1) _ v _ (by omega) lt (W.frame _ _ _ aM λb Jx o e=>(pW _ _ (λh:S=b=>wR (by rw[h];exact Jx))).trans e) (by simp only[iT,U,if_true];exact ah) (x9 _ vU rfl) λv2 af Bz A2 Au=>?_⟩
   exact cL v2 af Bz A2 λb o hD ew e=>Au b o hD ew ((pW _ _ (dG ew)).trans (c0 b o hD e))
  |false=>
   simp only[uK,if_false]
   refine aJ (Gk ?_)
   rw[nm]
   exact bM ⟨Fq vq _,ba (j+1) _ mi c (by omega) lt aM (by simp only[iT,U,uK,if_false];exact kA) vU λv2 af Bz A2 Au=>cL v2 af Bz A2 λb o hD ew e=>Au b o hD ew (c0 b o hD e)⟩
theorem Z0{prog:bT}{w:bJ}{A:c5}{R:vv→ax→Prop}{I:Addr}{cu wr:List Addr}{n:Nat}{P:Nat→Value→Prop}{St:Nat→Heap→Prop}(W:Walks prog w A.in1 I cu wr n P St)(eE:Nat→Nat→Bool)(aF:CmpOf prog w A.in1 .Lt P eE)(S:Addr)(wR:S∉cu){s:ax}{c:Nat}(st:St 0 s.heap)(ru:s.heap.get? S=some ⟨.type "list",none,.seq #[] c,#[]⟩)(bQ:0<n)(ag:∀v h' a5,P (iT eE (n-1)) v→(∀b o,b∉wr→b≠S→s.heap.get? b=some o→h'.get? b=some o)→R (.ok (.ret v)) {s with heap:=h',toks:=a5}):
  nS (br prog w) A (.builtin "min.loop" ⟨[.ref I,.none,.ref S],[]⟩) R s:=by
 have wS:S∉wr:=λh=>wR (W.sub _ h)
 have nm:(toString "min"++toString ".loop":String)="min.loop":=by decide
 refine y0 Sh ?_
 rw[B_ vq _]
 refine mG (Xe (.ref S)) (Yx ru rfl ?_)
 refine mG (tryCatch (kB (.ref I)) _) (O6 (W.item 0 s _ _ bQ st λv h' a5 ah aM c0=>?_))
 have vU:=c0 S _ wS ru
 refine mG (updateSeq S (λ_=>#[v,v])) (Yz vU rfl ?_)
 rw[nm]
 refine bM ⟨Fq vq _,Á W eE aF S wR _ 0 _ v _ rfl bQ (W.frame _ _ _ aM λb Jx o e=>(pW _ _ (λh:S=b=>wR (by rw[h];exact Jx))).trans e) ah (x9 _ vU rfl) λv2 af Bz A2 Au=>?_⟩
 exact ag v2 af Bz A2 λb o hD ew e=>Au b o hD ew ((pW _ _ (dG ew)).trans (c0 b o hD e))
theorem Â(a:Value):argsOk "min" ⟨[a],[]⟩:=by unfold argsOk;kernel_rfl
theorem ö{prog:bT}{w:bJ}{A:c5}{E:Value→ax→Prop}{s:ax}{l:Addr}{items:Array Value}{val:Nat→Int}{Q:Value→ax→Prop}(ef:A.in1.handled=none)(ar:s.heap.IsList l items)(bG:∀i v,items[i]?=some v→∃t,v=o6 (val i) t)(bQ:0<items.size)(ag:∀t h' a5,(∀b o,s.heap.get? b=some o→h'.get? b=some o)→Q (o6 (val (iT (λi j=>decide (val i<val j)) (items.size-1))) t) {s with heap:=h',toks:=a5}):
  aX (br prog w) A (call (.builtin "min") [.ref l] []) Q E s:=by
 have nm:(toString "min"++toString ".loop":String)="min.loop":=by decide
 obtain⟨ol,wc,_⟩:=id ar
 have mV:l≠s.heap.objs.size:=en (du wc)
 refine anb PySem.F.kind_min PySem.F.plain_min PySem.F.entry_min (Â _) ?_
 refine mG (amW "min" ["key","default"] 0 ⟨[],[]⟩) (Gm (show _=pure [none,none]from rfl) ?_)
 refine aJ (bM ?_)
 refine aJ (O5 ar ?_)
 refine aJ (sj ?_)
 rw[nm]
 have W:=S5 (prog:=prog) (w:=w) (A:=A.in1) ef s.heap.objs.size l mV items
 have i_:(s.heap.push {cls:=.type "list_iterator",data:=.fields #[.ref l,.int 0 0]}).objs.size=s.heap.objs.size+1:=Cy ..
 have bN:=du wc
 have Uo:(s.heap.push {cls:=.type "list_iterator",data:=.fields #[.ref l,.int 0 0]}).get? s.heap.objs.size=some {cls:=.type "list_iterator",data:=.fields #[.ref l,.int 0 0]}:=gD _ rfl
 have tE:=ar.push {cls:=.type "list_iterator",data:=.fields #[.ref l,.int 0 0]}
 have k1:∀b o,s.heap.get? b=some o→(s.heap.push {cls:=.type "list_iterator",data:=.fields #[.ref l,.int 0 0]}).get? b=some o:=λb o e=>dy _ e
 dsimp only
 generalize s.heap.push {cls:=.type "list_iterator",data:=.fields #[.ref l,.int 0 0]}=aiX at i_ Uo tE k1⊢
 refine bM ⟨Fq vq _,Z0 W _ (CmpOf.ints_lt val bG) aiX.objs.size (by rw[i_];simp only[fy,eB,or_false,not_or];exact⟨aay _,dG (Q1 wc)⟩) ⟨⟨_,dy _ Uo,rfl,rfl⟩,tE.push _⟩ (gD _ rfl) bQ λv h' a5 ah c0=>?_⟩
 obtain⟨dx,rfl⟩:=bG _ v ah
 exact ag dx h' a5 λb o e=>c0 b o (by simp only[fy,eB,or_false];exact ad7 e) (by rw[i_];exact Q1 e) (dy _ (k1 b o e))
theorem X6{X:bw}(aF:X.calm=true):jH X (.builtin "min") (λxs H Q=>∃a ns,xs=[.ref a]∧aR X.K H a (ns.map V.int)∧ns≠[]∧Q (.int (pJ ns)) H):=by
 intro pins s σ H xs us Q I r h
 obtain⟨a,ns,rfl,bg,dt,q⟩:=h
 obtain⟨u,rfl,e4⟩:=vals1 r
 cases e4
 obtain⟨its,b7,pl,bQ⟩:=I.list bg
 have hlen:ns.length=its.length:=by have:=b7.length;rwa [bc]at this
 refine ö (val:=λi=>ns.getD i 0) (items:=its.toArray) (I.ok.hd aF) pl.isList (λi v ev=>?_) (by rw[eC,←hlen];exact q5.mpr dt) λt h' a5 c0=>?_
 .have J1:its[i]?=some v:=by simpa using ev
  have aj:i<ns.length:=by rw[hlen];exact(fW.mp J1).1
  obtain⟨u',b5,cm⟩:=b7.get (x:=V.int (ns.getD i 0)) (i:=i) (by rw[b8,cg aj];simp[cY,aj])
  rw[J1]at b5
  cases b5
  exact cm
 .refine⟨.int (pJ ns),H,I.kept c0,⟨t,?_⟩,q⟩
  unfold pJ
  rw[hlen]
  simp
end cA
namespace fx
open PySem ai cA a'
noncomputable def TabAt(H:ae)(p:Addr)(D:Str→Option Int):Prop:=∃kvs,bz H p (.ct kvs)∧Tab kvs D
theorem TabAt.get{H:ae}{p:Addr}{D:Str→Option Int}(T:TabAt H p D)(g:Str):gP H p (.str g) ((D g).map V.int):=by
 obtain⟨kvs,r,t⟩:=T
 exact .inl ⟨kvs,e' g,r,rfl,(t.at_ g).symm⟩
noncomputable def vB(Da Db:Str→Option Int)(g:Str)(t:Int):Bool:=match Db g with
 |none=>false
 |some u=>decide (some (t+u)=Da g)
inductive acP(vs:(List ai.V))(H:ae)(Q:bk)(bF:cy):Prop where
 |mk (r f iM kA:Addr) (hs:List (List Nat)) (d:a'.bz) (kvs:List (bj×ai.V)) (g:Str) (Da Db:Str→Option Int) (b4:vs=[.ref r,.ref f,.str g]) (bL:H r=some (.tup (ow hs d))) (cG:H f=some (.ct kvs)) (c2:cz kvs (e' (S (hs.getD d.a [])):bj)=some (.ref iM)) (dR:cz kvs (e' (S (hs.getD d.b [])):bj)=some (.ref kA)) (eW:TabAt H iM Da) (h8:TabAt H kA Db) (jz:(∀u,Db g=some u→∃v,Da g=some v)) (oP:Q (.bo (vB Da Db g d.t)) H)
noncomputable def Ho:cW:=λvs H Q bF=>acP vs H Q bF
noncomputable abbrev h1(hs:List (List Nat))(ds:List a'.bz)(h:Str):Str→Option Int:=λg=>dz.dist (iX hs ds) h g
noncomputable def F2(hs:List (List Nat))(ds:List a'.bz)(i:Int):Str:=S (hs.getD (ds.getD i.toNat hI).b [])
noncomputable def so(hs:List (List Nat))(ds:List a'.bz)(h g:Str)(i:Int):Bool:=vB (h1 hs ds h) (h1 hs ds (F2 hs ds i)) g (ds.getD i.toNat hI).t
noncomputable def fit(hs:List (List Nat))(ds:List a'.bz)(h g:Str):List Int:=(h6 hs ds (·.a) h).filter (so hs ds h g)
noncomputable def best(hs:List (List Nat))(ds:List a'.bz)(h g:Str):Int:=pJ (fit hs ds h g)
theorem Q2{hs:List (List Nat)}{ds:List a'.bz}(pq:∀e∈iX hs ds,1≤e.t){h g:Str}{v:Int}(bG:h1 hs ds h g=some v)(az:h≠g):fit hs ds h g≠[]:=by
 obtain⟨_,e,he,u,bp,zd,ev⟩:=(dz.TQ pq g).other pq az bG
 obtain⟨d,hd,rfl⟩:=bV.mp he
 obtain⟨i,aj⟩:=pZ hd
 have ar:=(fW.mp aj).1
 have cF:ds.getD i hI=d:=qw aj
 refine Ő (a:=(i:Int)) (d1.mpr ⟨?_,?_⟩)
 .unfold h6 xd
  refine bV.mpr ⟨i,d1.mpr ⟨iR.mpr ar,?_⟩,rfl⟩
  have ahw:S (hs.getD d.a [])=h:=bp
  rw[cF,ahw]
  exact dp rfl
 .unfold so vB F2
  rw[mq,cF]
  have ahJ:h1 hs ds (S (hs.getD d.b [])) g=some u:=zd
  have J1:v=u+d.t:=ev
  rw[ahJ,bG]
  refine dp ?_
  congr 1
  omega
theorem YO{hs:List (List Nat)}{ds:List a'.bz}(pq:∀e∈iX hs ds,1≤e.t){h g:Str}{v:Int}(bG:h1 hs ds h g=some v)(az:h≠g):best hs ds h g∈h6 hs ds (·.a) h∧so hs ds h g (best hs ds h g)=true:=
 d1.mp (Gg (Q2 pq bG az)).1
structure nE(jD:Str→Str→Int)(L:List Str)(kvs:c9)(M:Str→Str→Prop):Prop where
 yes:∀h g,M h g→cz kvs (dM h g)=some (.int (jD h g))
 no:∀h g,¬M h g→cz kvs (dM h g)=none
 key:∀k∈kvs.map (·.1),∃h g,k=dM h g∧h∈L∧g∈L
 aE:(kvs.map (·.1)).Nodup
theorem w8{h g h' g':Str}(e:dM h g=dM h' g'):h=h'∧g=g':=by
 unfold dM at e
 simp only[HB,Sum.inr.injEq,and_true]at e
 exact e
theorem YP{κ:Type}[DecidableEq κ]{kvs:List (κ×ai.V)}{k:κ}{u:ai.V}(v:ai.V)(h:cz kvs k=some u):(ec kvs k v).map (·.1)=kvs.map (·.1):=by
 unfold ec
 rw[aI (by rw[nU,h];rfl),gk]
 refine sS λq _=>?_
 show(if q.1=k then(q.1,v)else q).1=q.1
 split<;>rfl
theorem nE.put{jD:Str→Str→Int}{L:List Str}{kvs:c9}{M:Str→Str→Prop}(B:nE jD L kvs M){h g:Str}(ef:h∈L)(bf:g∈L):nE jD L (ec kvs (dM h g) (.int (jD h g))) (λh' g'=>M h' g'∨(h'=h∧g'=g)):=by
 refine⟨λh' g' m=>?_,λh' g' m=>?_,?_,?_⟩
 .rw[tO]
  by_cases e:dM h' g'=dM h g
  .obtain⟨rfl,rfl⟩:=w8 e
   rw[aI rfl]
  .rw[aD e]
   refine B.yes h' g' (m.resolve_right λz=>e ?_)
   rw[z.1,z.2]
 .rw[tO,aD λe=>m (.inr (w8 e))]
  exact B.no h' g' λz=>m (.inl z)
 .intro k aK
  cases bG:cz kvs (dM h g)with
  |none=>
   rw[wm _ bG,ek]at aK
   rcases el.mp aK with z|z
   .exact B.key k z
   .exact⟨h,g,e8.mp z,ef,bf⟩
  |some u=>
   rw[YP _ bG]at aK
   exact B.key k aK
 .cases bG:cz kvs (dM h g)with
  |none=>exact ź _ B.aE bG
  |some u=>rw[YP _ bG];exact B.aE
theorem nE.iff{jD:Str→Str→Int}{L:List Str}{kvs:c9}{M RO:Str→Str→Prop}(B:nE jD L kvs M)(e:∀h g,M h g↔RO h g):nE jD L kvs RO:=
 ⟨λh g m=>B.yes h g ((e h g).mpr m),λh g m=>B.no h g λz=>m ((e h g).mp z),B.key,B.aE⟩
theorem nE.cM{jD:Str→Str→Int}{L:List Str}{kvs:c9}{M:Str→Str→Prop}(B:nE jD L kvs M)(ar:L.length≤12):kvs.length≤144:=by
 have ag:=pg (L:=L.flatMap λh=>L.map (dM h)) B.aE λk aK=>by
  obtain⟨h,g,rfl,ef,bf⟩:=B.key k aK
  exact HJ.mpr ⟨h,ef,bV.mpr ⟨g,bf,rfl⟩⟩
 have af:(L.flatMap λh=>L.map (dM h)).length=L.length*L.length:=by simp[ŋ,List.map_const']
 rw[af,bc]at ag
 exact gm ag (aau ar ar)
theorem aaX{H H':ae}{a:Addr}(aC:aP H H')(z:d4):aP (upd H a z) (upd H' a z):=λb o e=>by
 by_cases U:b=a
 .rw[U,a4]at e⊢
  exact e
 .rw[aG U]at e⊢
  exact aC b o e
theorem ø{H H':ae}{a:Addr}{u z:d4}(aH:H a=some u)(aC:aP (upd H a z) H'):aP H (upd H' a u):=λb o e=>by
 by_cases U:b=a
 .rw[U,a4]
  rw[U,aH]at e
  exact e
 .rw[aG U]
  exact aC b o (by rw[aG U];exact e)
section
variable{P:bT}{w:bJ}{K:a3}{aa:Str→Option Value}{base:Heap}
noncomputable abbrev yd:Stmt:=top 34
theorem R7:dT ["road","far_from","goal","behind"] ["road","far_from","goal"] (dh yd):=⟨rfl,rfl,rfl,by decide+kernel,rfl,by decide+kernel,by decide+kernel⟩
theorem acQ{f:Addr}{fd:cP}(F:b0 K "begins_shortest" "begins_shortest" yd f fd):aY P w K aa base bu 1 f fd ["road","far_from","goal"] Ho:=by
 refine F.ok R7 (λvs H Q E h=>?_) (λbC A outer s H vs Q E aw h=>?_)
 .obtain⟨r,qd,iM,kA,hs,d,kvs,g,Da,Db,rfl,_⟩:=h
  rfl
 .obtain⟨r,qd,iM,kA,hs,d,kvs,g,Da,Db,rfl,cL,hf,F',mi,o5,dm,bG,q⟩:=h
  refine⟨_,(bO (dB (i:=3) R7.aE rfl (cC rfl) (NU (hJ aw) (pw (hJ aw) (ah 1) (b9 d2 (ah 0) bl (λ_ _=>rfl)) (λ_ _=>rfl)) (ah 2) ⟨rfl,rfl,rfl,rfl⟩))
   (bW (dH (m1 (mP Qf (ah 3) w3 (fu _)) (qx (mP l3 (cK ie (b9 d2 (ah 0) bl (λ_ _=>rfl)) (ah 3)) (pw (hJ aw) (pw (hJ aw) (ah 1) (b9 d2 (ah 0) bl (λ_ _=>rfl)) (λ_ _=>rfl)) (ah 2) (λ_ _=>rfl)) (fu _))))))),?_⟩
  have ga:=gP.k (k:=e' (S (hs.getD d.a []))) hf
  have j1:=gP.k (k:=e' (S (hs.getD d.b []))) hf
  rw[F']at ga
  rw[mi]at j1
  have b3:=o5.get g
  have cX:=dm.get g
  unfold vB at q
  have aV:yb H kA:=by
   obtain⟨m5,r0,_⟩:=dm
   exact .inl ⟨m5,r0⟩
  refine⟨_,rfl,_,rfl,r,_,_,_,rfl,rfl,b2.of cL,rfl,qd,_,rfl,j1,kA,rfl,aV,_,rfl,_,cX,_,rfl,?_⟩
  cases U:Db g with
  |none=>
   rw[U]at q
   exact⟨rfl,_,rfl,gh (by decide) q⟩
  |some u=>
   rw[U]at q
   obtain⟨v,bG⟩:=bG u U
   have Ur:=b3
   rw[bG]at Ur q
   refine⟨rfl,_,rfl,f6 (by simp) ⟨_,rfl,r,_,_,_,rfl,rfl,b2.of cL,rfl,_,rfl,_,_,rfl,rfl,_,rfl,_,rfl,r,_,_,_,rfl,rfl,b2.of cL,rfl,qd,_,rfl,ga,_,rfl,iM,_,rfl,Ur,rfl,?_⟩⟩
   have JP:decide (V.int (d.t+u)=V.int v)=decide (some ((d.t:Int)+u)=some v):=by simp
   rw[JP]
   exact q
end
open PySem ai cA a'
theorem YQ{hs:List (List Nat)}{y:Str}(h:y∈hs.map S):inD (.str y) (cq hs)=true:=by
 obtain⟨x,ao,rfl⟩:=bV.mp h
 obtain⟨k,aK,d3⟩:=jd ao
 have e:hs.getD k []=x:=by rw[cY,cg aK,d3];rfl
 have:=OT aK
 rwa [e]at this
theorem OP{hs:List (List Nat)}{h g:Str}(a:h∈hs.map S)(b:g∈hs.map S)(n:h≠g):kk (cq hs) (.str h) (.str g)=true:=by
 unfold kk
 rw[YQ a,YQ b,YK,eF n]
 rfl
theorem w9{H:ae}{hs:List (List Nat)}(G:Good hs){c:Str}(h:c∈hs.map S):gc H (.str c) (.str c):=by
 obtain⟨x,ao,rfl⟩:=bV.mp h
 have n:=G.nm x ao
 exact .str _ (by rw[B1];have:=n.2.1;omega) (Oj n)
noncomputable def R8(H1 H:ae)(q:Addr)(lS:List (bj×ai.V))(hs:List (List Nat))(ds:List a'.bz)(h:Str):Prop:=∃(p:Addr)(ck:List (bj×ai.V)),cz lS (e' h:bj)=some (.ref p)∧p≠q∧H1 p=none∧H p=some (.ct ck)∧Tab ck (h1 hs ds h)
theorem l5{H H':ae}{p:Addr}(aC:aP H H')(aQ:H' p=none):H p=none:=by
 cases e:H p with
 |none=>rfl
 |some o=>rw[aC _ _ e]at aQ;cases aQ
theorem hx{H:ae}{a b:Addr}{o:d4}(aH:H a=some o)(U:H b=none):a≠b:=λe=>by rw[e,U]at aH;cases aH
theorem SV{hs:List (List Nat)}{i:Nat}{v:ai.V}(e:(dr hs)[i]?=some v):∃h,v=.str h∧(hs.map S)[i]?=some h:=by
 unfold dr at e
 rw[b8]at e
 obtain⟨x,ao,rfl⟩:=eh.mp e
 exact⟨S x,rfl,by rw[b8,ao];rfl⟩
theorem X7{κ:Type}[DecidableEq κ]{k:κ}{x:ai.V}:∀{kvs:List (κ×ai.V)},(k,x)∈kvs→(cz kvs k).isSome=true:=λ{kvs}h=>by
 rw[←nU]
 exact oV.mpr ⟨_,h,dp rfl⟩
theorem Nm{κ:Type}[DecidableEq κ]{k:κ}{kvs:List (κ×ai.V)}(h:(cz kvs k).isSome=true):∃(j:Nat)(x:ai.V),kvs[j]?=some (k,x):=by
 rw[←nU]at h
 obtain⟨⟨wB,x⟩,hm,e⟩:=oV.mp h
 obtain⟨j,aN⟩:=pZ hm
 exact⟨j,x,by rw[aN,show wB=k from jM e]⟩
theorem aaY{hs:List (List Nat)}{ds:List a'.bz}(R:∀d∈ds,d.Ok hs.length){h g:Str}{u:Int}(p:dz.Path (iX hs ds) h g u)(hm:h∈hs.map S):g∈hs.map S:=by
 cases p with
 |nil=>exact hm
 |snoc e _ he=>
  obtain⟨d,hd,rfl⟩:=bV.mp he
  exact oa (R d hd).b
theorem YR{hs:List (List Nat)}{ds:List a'.bz}{h:Str}{i:Nat}{v:ai.V}(e:((h6 hs ds (·.a) h).map V.int)[i]?=some v):∃(k:Nat)(d:a'.bz),v=.int (k:Int)∧ds[k]?=some d∧S (hs.getD d.a [])=h:=by
 obtain⟨z,bQ,rfl⟩:=bV.mp (eI e)
 unfold h6 xd at bQ
 obtain⟨k,aK,rfl⟩:=bV.mp bQ
 obtain⟨ag,af⟩:=d1.mp aK
 have ar:=iR.mp ag
 have av:ds[k]?=some ds[k]:=cg ar
 refine⟨k,ds[k],rfl,av,?_⟩
 rw[qw av]at af
 have:=jM af
 cases this
 rfl
theorem AY{bY:TE}{g:ic}{u:eY}{D:Ends}{σ:ai.St}{H:ae}(h:bY σ H λv H1=>g v σ H1 (u D)):qQ (sk bY g) u D σ H:=h
theorem aaZ{K:a3}{wi:TI}{cs:List (Option Nat)}{tt:TT}{bY:TE}{σ rest:ai.St}{H:ae}{Q:bk}{xs:List ai.V}(hw:∀R:e7→ae→Prop,(∀p H1,H p=none→aP H H1→H1 p=some (.lst xs)→R (jc K p) H1)→wi σ H R)(gx:gO cs σ=none::rest)(ar:xs.length<sizeLine)(p:ai.V→Bool)(f:ai.V→ai.V)(test:∀(i:Nat)(x:ai.V)(ak:ae)(R:Bool→ae→Prop),xs[i]?=some x→aP H ak→(∀bU,aP ak bU→R (p x) bU)→tt (some x::rest) ak R)(elt:∀(i:Nat)(x:ai.V)(ak:ae)(R:bk),xs[i]?=some x→p x=true→aP H ak→(∀bU,aP ak bU→R (f x) bU)→bY (some x::rest) ak R)(fin:∀(D:Addr)(H':ae),H D=none→H' D=some (.lst ((xs.filter p).map f))→aP H H'→Q (.ref D) H'):kI wi cs (gr 0) tt bY σ H Q:=
 hw _ λq H1 WK s1 bg=>He gx (n0 (aR.of bg)) ar p f (λi x ak R ex aC h=>test i x ak R ex (s1.trans aC) h) (λi x ak R ex akC aC h=>elt i x ak R ex akC (s1.trans aC) h) λD H' qC cq aC=>fin D H' (l5 s1 qC) cq (s1.trans aC)
noncomputable def Told(hs:List (List Nat))(ds:List a'.bz)(i:Nat)(h g:Str):Prop:=(∃j,j<i∧(hs.map S)[j]?=some h)∧h≠g∧(h1 hs ds h g).isSome=true
structure AG(hs:List (List Nat))(ds:List a'.bz)(kvs:c9):Prop where
 jD:nE (best hs ds) (hs.map S) kvs (λh g=>h∈hs.map S∧h≠g∧(h1 hs ds h g).isSome=true)
section
variable{P:bT}{w:bJ}{K:a3}{aa:Str→Option Value}{base:Heap}
noncomputable abbrev Bi:Stmt:=top 35
theorem sv:dT ["net","roads","far_from","house","ways","goal","fitting"] ["net"] (dh Bi):=⟨rfl,rfl,rfl,by decide+kernel,rfl,by decide+kernel,by decide+kernel⟩
inductive adI(C bA:Addr)(vs:(List ai.V))(H:ae)(Q:bk)(bF:cy):Prop where
 |mk (n bx aZ:Addr) (hs:List (List Nat)) (rs:List Addr) (ds:List a'.bz) (b4:vs=[.ref n]) (bL:ku bA H n bx aZ (dr hs) (aL rs)) (cG:Good hs) (c2:hp H hs rs ds) (dR:rs.length≤40) (eW:∀(x t:Addr)(H':ae)(kvs:c9),H x=none→H t=none→aP H H'→kn C bA H' x n t bx aZ (dr hs) (aL rs) kvs→AG hs ds kvs→Q (.ref x) H')
noncomputable def Io(C bA:Addr):cW:=λvs H Q bF=>adI C bA vs H Q bF
theorem adJ{C bA e9 mx f f1 f2 dc f4 eU TM tu:Addr}{fd fv gw nY rq zA TS zE:cP}(F:b0 K "shortest" "shortest" Bi f fd)(B:g4 aa)(cx:oh K C)(gU:g5 K bA)(wN:aa "Ways"=some (.ref C))(o9:eD K bA "houses" "Net.houses" wo ["self"] f1 fv)(th:aY P w K aa base bu 1 f1 fv ["self"] (ES bA))(Er:eD K bA "roads" "Net.roads" AW ["self"] f2 gw)(Mr:aY P w K aa base bu 1 f2 gw ["self"] (Oi bA))(rj:eD K bA "out_of" "Net.out_of" u_ ["self","house"] dc nY)(vH:aY P w K aa base (gC P w) 2 dc nY ["self","house"] (Ci bA e9 (·.a)))(yW:dS K aa "least_turns_from" Bt ["roads","house"] f4 rq)(J6:aY P w K aa base bu 2 f4 rq ["roads","house"] (OZ K))(yX:dS K aa "begins_shortest" yd ["road","far_from","goal"] eU zA)(akt:aY P w K aa base bu 1 eU zA ["road","far_from","goal"] Ho)(tV:oY K C tu)(vN:sL K C "Ways.__init__" xh ["self","net"] tu zE)(vX:aY P w K aa base bu 1 tu zE ["self","net"] (CQ C))(rk:eD K C "set_way" "Ways.set_way" xg ["self","house","goal","road"] TM TS)(vG:aY P w K aa base (gC P w) 3 TM TS ["self","house","goal","road"] (CS C bA e9 mx)):
  aY P w K aa base bu 4 f fd ["net"] (Io C bA):=by
 have jY:=cx.cl
 refine F.ok sv (λvs H Q E h=>?_) (λbC A outer s H vs Q E aw h=>?_)
 .obtain⟨n,bx,aZ,hs,rs,ds,rfl,_⟩:=h
  rfl
 .obtain⟨n,bx,aZ,hs,rs,ds,rfl,N,G,cL,cM,q⟩:=h
  refine⟨_,(bO (dB (i:=1) sv.aE rfl (kb rfl) (Ax (ah 0) gU Er.gI Mr (aw.mono (by decide)) Er.bd .nil dI))
   (bO (dB (i:=2) sv.aE rfl (kb rfl) YX)
   (bO (hV hF rfl (hn (Ax (ah 0) gU o9.gI th (aw.mono (by decide)) o9.bd .nil dI)) (de (i:=3) sv.aE rfl (cC rfl))
    (bW (AO (hJ aw) (ah 2) (ah 3) (fT J6 (aw.mono (by decide)) (by rfl) yW.at_ yW.fn.cN yW.bd .nil dI (aB (ah 1) (aB (ah 3) a8))) rfl)))
   (bO (dB (i:=4) sv.aE rfl (cC rfl) (FK tV vX (aw.mono (by decide)) (by rfl) wN vN.bd .nil dI (aB (ah 0) a8)))
   (bO (hV hF rfl (hn (Ax (ah 0) gU o9.gI th (aw.mono (by decide)) o9.bd .nil dI)) (de (i:=3) sv.aE rfl (cC rfl))
    (bW (acN (hV hF rfl (Ć (pw (hJ aw) (ah 2) (ah 3) (λ_ _=>rfl))) (de (i:=5) sv.aE rfl (kb rfl))
    (bW (f5 (gf rY (ah 5) (ah 3) (fu _)) (bO (qg (i:=6) sv.aE rfl rfl rfl (N':=["number","far_from","goal","roads"]) (cs:=[none,some 2,some 5,some 1]) rfl (hn (hU (ah 0) gU rj.gI vH (aw.mono (by decide)) rj.bd .nil Co (aB (ah 3) a8))) rfl (by decide+kernel) rfl (by decide+kernel) (jj (jT.mpr ⟨rfl,(jT.mpr ⟨rfl,(jT.mpr ⟨rfl,(λp aQ=>bB aQ (eB))⟩)⟩)⟩)) rfl
    (.own (.iW rfl (.inl rfl) (.inl rfl) rfl (.iW rfl (.inl rfl) (.inl rfl) rfl (.iW rfl (.inl rfl) (.inl rfl) rfl .nil))))
    (λC s3 bD cu ey=>⟨(de (i:=0) (by show(["number","far_from","goal","roads"]:List Str).Nodup;decide+kernel) rfl (.inl rfl)),(tQ (mZ (fT akt (aw.mono (by decide)) (by rfl) yX.at_ yX.fn.cN yX.bd .nil dI (aB (b9 (E' (K:=K) rfl) (ah 3) (ah 0) (λ_ _=>rfl)) (aB (ah 1) (aB (ah 2) a8)))))),(ah 0)⟩))
   (bW (iB (hU (ah 4) jY rk.gI vG (aw.mono (by decide)) rk.bd .nil Co (aB (ah 3) (aB (ah 5) (aB (gd (X6 rfl) (by rfl) B.min R1 (aB (ah 6) a8)) a8))))))) f3))))))
   (bW (dH (ah 4)))))))),?_⟩
  obtain⟨fj,az⟩:=N.ins
  have hlen:=cL.len
  have DH:=G.cM
  refine⟨_,rfl,n,fj,_,rfl,az,rfl,n,bx,aZ,_,_,rfl,N,λeS MT=>?_⟩
  have s1:aP H (upd H eS (.lst (aL rs))):=cH MT
  have ag:upd H eS (.lst (aL rs)) eS=some (.lst (aL rs)):=a4
  generalize upd H eS (.lst (aL rs))=H1 at s1 ag⊢
  refineλf9 WE=>?_
  have s2:aP H1 (upd H1 f9 (.ct [])):=cH WE
  have af:upd H1 f9 (.ct []) f9=some (.ct []):=a4
  generalize upd H1 f9 (.ct [])=ak at s2 af⊢
  refine⟨_,rfl,n,fj,_,rfl,s2 _ _ (s1 _ _ az),rfl,n,bx,aZ,_,_,rfl,(N.same s1).same s2,λou WG=>⟨ou,rfl,⟨_,aR.of a4⟩,?_⟩⟩
  have Wj:f9≠ou:=hx af WG
  refine nV (xs:=dr hs) (λi σ a7=>∃(lS:List (bj×ai.V))(uC:Option ai.V),σ=[some (.ref n),some (.ref eS),some (.ref f9),uC,none,none,none]∧aP H1 a7∧a7 ou=some (.lst (dr hs))∧a7 f9=some (.ct lS)∧lS.length≤i∧∀j h,j<i→(hs.map S)[j]?=some h→R8 H1 a7 f9 lS hs ds h)
   ⟨[],none,rfl,s2.trans (cH WG),a4,by rw[aG Wj];exact af,b1 _,λj h aN _=>bB aN (HO _)⟩ ?_ ?_ ?_
  .rintro i σ a7 aj ⟨lS,uC,rfl,aC,aU,_⟩
   exact aR.of aU
  .rintro i v σ a7 ev ⟨lS,uC,rfl,aC,aU,hf,K0,n2⟩
   obtain⟨h,rfl,lR⟩:=SV ev
   have ajo:i<hs.length:=by have:=(fW.mp lR).1;rwa [bc]at this
   refine⟨_,rfl,_,rfl,eS,hs,rs,ds,h,rfl,aR.of (aC _ _ ag),(cL.same s1).same aC,DH,eI lR,λp H' ck D np i' aK T L=>?_⟩
   refine⟨_,rfl,_,rfl,f9,_,rfl,oA.k (k:=e' h) (i' _ _ hf) (fh (by omega)),?_⟩
   have akc:H1 p=none:=l5 aC np
   have ne2:p≠f9:=dG (hx hf np)
   have JL:D=h1 hs ds h:=funext λg=>dz.ahj L g
   subst JL
   refine⟨_,_,rfl,hH WE (aC.trans i'),by rw[aG (dG Wj)];exact i' _ _ aU,a4,?_,λj h' aN JR=>?_⟩
   .cases bG:cz lS (e' h:bj)with
    |none=>rw[wm _ bG,ff];simp only[hS,q4];omega
    |some u=>rw[YM _ bG];omega
   .by_cases e:h'=h
    .subst e
     exact⟨p,ck,by rw[tO,aI rfl],ne2,akc,by rw[aG ne2];exact aK,T⟩
    .have K4:j<i:=by
      rcases sX j i with z|z
      .exact z
      .have:j=i:=by omega
       subst this
       rw[lR]at JR
       cases JR
       exact bB rfl e
     obtain⟨ip,aju,se,ne',aj7,pv,cb⟩:=n2 j h' K4 JR
     exact⟨ip,aju,by rw[tO,aD λz=>e (It z)];exact se,ne',aj7,by rw[aG ne'];exact i' _ _ pv,cb⟩
  .rintro σ a7 ⟨lS,uC,rfl,aC,aU,hf,K0,n2⟩
   have UN:∀h∈hs.map S,R8 H1 a7 f9 lS hs ds h:=λh hm=>by
    obtain⟨j,aN⟩:=pZ hm
    exact n2 j h (by have:=(fW.mp aN).1;rw[bc]at this;unfold dr;rw[bc];exact this) aN
   refine⟨_,rfl,λx au b' qD aow=>⟨x,au,_,rfl,a4,λt eG=>⟨rfl,?_⟩⟩⟩
   have E8:a7 t=none:=by
    refine l5 (hH (o:=.ins C au []) b' (cH (o:=.own x) qD)) eG
   have nu:x≠t:=hx (H:=upd (upd a7 au (.own x)) x (.ins C au [])) a4 eG
   have Be:aP a7 (upd (upd (upd (upd a7 au (.own x)) x (.ins C au [])) t (.cE [])) x (.ins C au (l4 n t))):=hH b' (hH E8 (hH b' (cH qD)))
   have Lr:upd (upd (upd (upd a7 au (.own x)) x (.ins C au [])) t (.cE [])) x (.ins C au (l4 n t)) x=some (.ins C au (l4 n t)):=a4
   have Lk:upd (upd (upd (upd a7 au (.own x)) x (.ins C au [])) t (.cE [])) x (.ins C au (l4 n t)) t=some (.cE []):=by rw[aG (dG nu),a4]
   show qQ _ _ _ _ (upd (upd (upd (upd a7 au (.own x)) x (.ins C au [])) t (.cE [])) x (.ins C au (l4 n t)))
   generalize upd (upd (upd (upd a7 au (.own x)) x (.ins C au [])) t (.cE [])) x (.ins C au (l4 n t))=am8 at Be Lr Lk⊢
   have RT:ku bA a7 n bx aZ (dr hs) (aL rs):=(N.same s1).same aC
   refine⟨_,rfl,n,fj,_,rfl,Be _ _ (aC _ _ (s1 _ _ az)),rfl,n,bx,aZ,_,_,rfl,RT.same Be,λju E4=>⟨ju,rfl,⟨_,aR.of a4⟩,?_⟩⟩
   have akd:a7 ju=none:=l5 Be E4
   have ajO:x≠ju:=hx Lr E4
   have Wl:t≠ju:=hx Lk E4
   refine nV (xs:=dr hs) (λi σ dk=>∃(kvs:c9)(uC oL nx:Option ai.V),σ=[some (.ref n),some (.ref eS),some (.ref f9),uC,some (.ref x),oL,nx]∧aP a7 dk∧dk ju=some (.lst (dr hs))∧dk x=some (.ins C au (l4 n t))∧dk t=some (.cE kvs)∧nE (best hs ds) (hs.map S) kvs (Told hs ds i))
    ⟨[],uC,none,none,rfl,Be.trans (cH E4),a4,by rw[aG ajO];exact Lr,by rw[aG Wl];exact Lk,⟨λh g m=>?_,λh g _=>rfl,λk aK=>(nomatch aK),mu⟩⟩ ?_ ?_ ?_
   .obtain⟨⟨j,aN,_⟩,_⟩:=m
    exact bB aN (HO _)
   .rintro i σ dk aj ⟨kvs,Ye,oL,nx,rfl,cB,bP,_⟩
    exact aR.of bP
   .rintro i v σ dk ev ⟨kvs,Ye,oL,nx,rfl,cB,bP,ao,cw,BT⟩
    obtain⟨h,rfl,lR⟩:=SV ev
    have hm:h∈hs.map S:=eI lR
    obtain⟨iM,ck,F',Ws,Wr,wa,o5⟩:=UN h hm
    have WL:x≠iM:=dG (hx wa b')
    have MW:t≠iM:=dG (hx wa E8)
    have Wk:ju≠iM:=dG (hx wa akd)
    refine⟨iM,ck,cB _ _ wa,λo=>?_⟩
    have Uq:=gP.k (k:=e' h) (show upd dk iM (.d9 o (.ct ck)) f9=some (.ct lS) by rw[aG (dG Ws)];exact cB _ _ hf)
    rw[F']at Uq
    refine⟨_,rfl,_,rfl,f9,_,rfl,Uq,iM,o,ck,rfl,a4,?_⟩
    refine À (λj σ kO=>∃(kvs:c9)(oL nx:Option ai.V),σ=[some (.ref n),some (.ref eS),some (.ref f9),some (.str h),some (.ref x),oL,nx]∧aP (upd a7 iM (.d9 o (.ct ck))) kO∧kO ju=some (.lst (dr hs))∧kO x=some (.ins C au (l4 n t))∧kO t=some (.cE kvs)∧
      nE (best hs ds) (hs.map S) kvs (λh' g=>Told hs ds i h' g∨(h'=h∧h≠g∧∃gR z,gR<j∧ck[gR]?=some (e' g,z))))
     ⟨kvs,oL,nx,rfl,aaX cB _,by rw[aG Wk];exact bP,by rw[aG WL];exact ao,by rw[aG MW];exact cw,BT.iff λh' g=>⟨.inl,λz=>z.resolve_right λ⟨_,_,gR,_,y,_⟩=>bB y (HO _)⟩⟩ ?_ ?_ ?_
    .rintro j σ kO ⟨kvs,oL,nx,rfl,fN,_⟩
     exact fN _ _ a4
    .rintro j k z σ kO d3 ⟨kvs,oL,nx,rfl,fN,DY,wg,Ej,xy⟩
     obtain⟨g,vJ⟩:=o5.ks _ (eI d3)
     have ahz:k=e' g:=vJ
     subst ahz
     have pq:∀e∈iX hs ds,1≤e.t:=λe he=>by
      obtain⟨d,hd,rfl⟩:=bV.mp he
      exact(cL.ok d hd).t.1
     have ajg:(h1 hs ds h g).isSome=true:=by
      have:=X7 (eI d3)
      rw[o5.at_]at this
      simpa using this
     obtain⟨v,bG⟩:=yB.mp ajg
     have bf:g∈hs.map S:=aaY cL.ok ((dz.TQ pq g).path h v bG) hm
     refine⟨_,rfl,_,rfl,rfl,_,rfl,?_⟩
     by_cases e:g=h
     .subst e
      refine gh (show(!decide (V.str g=V.str g))=false by simp) ⟨kvs,_,nx,rfl,fN,DY,wg,Ej,xy.iff λh' g'=>?_⟩
      constructor
      .rintro(y|⟨a,b,gR,dt,aN,cV⟩)
       .exact .inl y
       .exact .inr ⟨a,b,gR,dt,by omega,cV⟩
      .rintro(y|⟨a,b,gR,dt,aN,cV⟩)
       .exact .inl y
       .refine .inr ⟨a,b,gR,dt,?_,cV⟩
        rcases sX gR j with y|y
        .exact y
        .have:gR=j:=by omega
         subst this
         rw[d3]at cV
         cases cV
         exact bB rfl b
     .refine f6 (show(!decide (V.str g=V.str h))=true by simp[e]) ?_
      have mV:h≠g:=dG e
      have NR:aP H (upd a7 iM (.d9 o (.ct ck))):=s1.trans (hH Wr aC)
      have RU:=N.same (NR.trans fN)
      have Kv:=cL.same (NR.trans fN)
      have aiY:=fN _ _ ((hH (o:=.d9 o (.ct ck)) Wr aC) _ _ ag)
      have aiZ:=fN _ _ (show upd a7 iM (.d9 o (.ct ck)) f9=some (.ct lS) by rw[aG (dG Ws)];exact hf)
      refine AY ?_
      refine aaZ (K:=K) (rest:=[some (.ref f9),some (.str g),some (.ref eS)]) (xs:=(h6 hs ds (·.a) h).map V.int) (λR ah7=>?_) rfl (by rw[bc];have:=Yj hs ds (·.a) h;exact fh (by omega)) (λy=>match y with|.int i=>so hs ds h g i|_=>false) id (λi y kN R dV me Kt=>?_) (λi y kN R dV _ h5 Kt=>⟨_,rfl,Kt kN (aP.refl _)⟩) (λD kN qC cq me=>?_)
      .exact⟨_,rfl,n,fj,_,rfl,(NR.trans fN) _ _ az,rfl,_,rfl,n,bx,aZ,hs,rs,ds,h,rfl,RU,Kv,cM,λ_ WQ bU ake s5 cZ=>⟨WQ,rfl,⟨_,aR.of cZ⟩,ah7 WQ bU ake s5 cZ⟩,λy=>bB hm y⟩
      .obtain⟨k,d,rfl,mK,bp⟩:=YR dV
       obtain⟨r,dK⟩:∃r,rs[k]?=some r:=⟨_,cg (by rw[hlen];exact(fW.mp mK).1)⟩
       obtain⟨d',Tr,qG,qs⟩:=Kv.get dK
       rw[mK]at Tr
       cases Tr
       obtain⟨kA,m5,mi,aoo,aon,rG,dm⟩:=UN _ (oa qG.b)
       have adg:TabAt kN iM (h1 hs ds h):=⟨ck,.inr ⟨o,me _ _ (fN _ _ a4)⟩,o5⟩
       have adh:TabAt kN kA (h1 hs ds (S (hs.getD d.b []))):=by
        by_cases dJ:kA=iM
        .subst dJ
         rw[wa]at rG
         cases rG
         exact⟨ck,.inr ⟨o,me _ _ (fN _ _ a4)⟩,dm⟩
        .exact⟨m5,.inl (me _ _ (fN _ _ (by rw[aG dJ];exact rG))),dm⟩
       have JY:ai.e0 (aL rs) (k:Int)=some (.ref r):=ho (by unfold aL;rw[b8,dK];rfl)
       refine⟨_,rfl,_,rfl,eS,_,_,_,rfl,rfl,aR.of (me _ _ aiY),JY,_,rfl,_,rfl,r,f9,iM,kA,hs,d,lS,g,_,_,rfl,me _ _ qs,me _ _ aiZ,by rw[bp];exact F',mi,adg,adh,λu cf=>⟨v,bG⟩,_,rfl,?_⟩
       have ep:so hs ds h g (k:Int)=vB (h1 hs ds h) (h1 hs ds (S (hs.getD d.b []))) g d.t:=by
        unfold so F2
        rw[mq,qw mK]
       rw[←ep]
       exact Kt kN (aP.refl _)
      .have ahy:(((h6 hs ds (·.a) h).map V.int).filter λy=>match y with|.int i=>so hs ds h g i|_=>false).map id=(fit hs ds h g).map V.int:=by
        rw[ō,vg]
        rfl
       rw[ahy]at cq
       refine⟨_,rfl,x,au,_,rfl,me _ _ wg,rfl,_,rfl,_,rfl,_,rfl,D,_,rfl,aR.of cq,Q2 pq bG mV,x,n,t,bx,aZ,hs,rs,ds,kvs,h,g,_,rfl,⟨⟨au,me _ _ wg⟩,RU.same me,me _ _ Ej⟩,G,Kv.same me,cM,w9 G hm,w9 G bf,fh (by have:=xy.cM (by rw[bc];exact DH);omega),λ_ _ eO pO=>?_,λy=>bB (OP hm bf mV) (by rw[y];decide),λ_ y=>bB (YO pq bG mV).1 y⟩
       have NP:=me.trans pO
       refine⟨_,_,_,rfl,hH (by rw[aG MW];exact E8) (fN.trans NP),by rw[aG (dG Wl)];exact NP _ _ DY,by rw[aG nu];exact NP _ _ wg,a4,(xy.put hm bf).iff λh' g'=>?_⟩
       constructor
       .rintro((y|⟨a,b,gR,dt,aN,cV⟩)|⟨rfl,rfl⟩)
        .exact .inl y
        .exact .inr ⟨a,b,gR,dt,by omega,cV⟩
        .exact .inr ⟨rfl,mV,j,z,yx _,d3⟩
       .rintro(y|⟨a,b,gR,dt,aN,cV⟩)
        .exact .inl (.inl y)
        .rcases sX gR j with y|y
         .exact .inl (.inr ⟨a,b,gR,dt,y,cV⟩)
         .have:gR=j:=by omega
          subst this
          rw[d3]at cV
          cases cV
          exact .inr ⟨a,rfl⟩
    .rintro σ kO ⟨kvs,oL,nx,rfl,fN,DY,wg,Ej,xy⟩
     refine⟨fN _ _ a4,kvs,_,oL,nx,rfl,ø wa fN,by rw[aG Wk];exact DY,by rw[aG WL];exact wg,by rw[aG MW];exact Ej,xy.iff λh' g=>?_⟩
     constructor
     .rintro(⟨⟨j,aN,eP⟩,b,c⟩|⟨rfl,b,gR,z,_,cV⟩)
      .exact⟨⟨j,by omega,eP⟩,b,c⟩
      .refine⟨⟨i,yx _,lR⟩,b,?_⟩
       have:=X7 (eI cV)
       rw[o5.at_]at this
       simpa using this
     .rintro⟨⟨j,aN,eP⟩,b,c⟩
      by_cases e:h'=h
      .subst e
       have:(cz ck (e' g:bj)).isSome=true:=by rw[o5.at_];simpa using c
       obtain⟨gR,z,cV⟩:=Nm this
       exact .inr ⟨rfl,b,gR,z,(fW.mp cV).1,cV⟩
      .refine .inl ⟨⟨j,?_,eP⟩,b,c⟩
       rcases sX j i with y|y
       .exact y
       .have:j=i:=by omega
        subst this
        rw[lR]at eP
        cases eP
        exact bB rfl e
   .rintro σ dk ⟨kvs,Ye,oL,nx,rfl,cB,bP,ao,cw,BT⟩
    refine⟨_,rfl,q x t dk kvs (l5 (s1.trans aC) b') (l5 (s1.trans aC) E8) ((s1.trans aC).trans cB) ⟨⟨au,ao⟩,RT.same cB,cw⟩ ⟨BT.iff λh g=>⟨λ⟨⟨j,_,eP⟩,b,c⟩=>⟨eI eP,b,c⟩,λ⟨m,b,c⟩=>⟨?_,b,c⟩⟩⟩⟩
    obtain⟨j,aN⟩:=pZ m
    exact⟨j,by have:=(fW.mp aN).1;rw[bc]at this;unfold dr;rw[bc];exact this,aN⟩
end
end fx
namespace cA
open PySem PySem.Spec PyProof.Rows ai PySem.W
structure h2(n:Nat)(lt:Nat→Nat→Bool):Prop where
 hg:∀i j k,lt i j=true→lt j k=true→lt i k=true
 to:∀i j,i<n→j<n→i≠j→lt i j=true∨lt j i=true
 LY:∀i,lt i i=false
noncomputable abbrev bb(p:Array Nat)(a:Nat):Nat:=p.getD a 0
noncomputable def l6(lt:Nat→Nat→Bool)(p:Array Nat)(k:Nat):Prop:=∀a b,a<b→b<k→lt (bb p a) (bb p b)=true
theorem wz{α β:Type}(lt:Nat→Nat→Bool)(f:α→KasT β):∀t:KasT α,gQ lt (t.bind f)=gQ lt (f (gQ lt t))
 |.ret _=>rfl
 |.ask i j k=>wz lt f (k (lt i j))
theorem Qp{α:Type}(lt:Nat→Nat→Bool){c:Prop}[Decidable c](s t:KasT α):gQ lt (if c then s else t)=if c then gQ lt s else gQ lt t:=by split<;>rfl
theorem cU.size{n:Nat}{p:Array Nat}(h:cU n p):p.size=n:=by
 have:=h.list.length_eq
 simpa using this
theorem cU.inj{n:Nat}{p:Array Nat}(h:cU n p){a b:Nat}(aH:a<n)(U:b<n)(e:bb p a=bb p b):a=b:=by
 have aE:p.toList.Nodup:=h.list.nodup_iff.mpr RK
 have i_:=h.size
 have av:bb p a=p.toList[a]'(by simp;omega):=by simp[bb,nD,show a<p.size by omega]
 have ay:bb p b=p.toList[b]'(by simp;omega):=by simp[bb,nD,show b<p.size by omega]
 rw[av,ay]at e
 exact(vi aE).mp e
section
variable{n:Nat}{lt:Nat→Nat→Bool}
theorem h2.or(o:h2 n lt){p:Array Nat}(h:cU n p){a b:Nat}(aH:a<n)(U:b<n)(ne:a≠b)(f:lt (bb p a) (bb p b)=false):lt (bb p b) (bb p a)=true:=by
 have h0:0<n:=by omega
 rcases o.to (bb p a) (bb p b) (h.at h0 a) (h.at h0 b) (λe=>ne (h.inj aH U e))with z|z
 .rw[z]at f;cases f
 .exact z
theorem l6.succ(o:h2 n lt){p:Array Nat}{k:Nat}(s:l6 lt p k)(ag:1≤k)(h:lt (bb p (k-1)) (bb p k)=true):l6 lt p (k+1):=λa b jq U=>by
 by_cases e:b=k
 .subst e
  by_cases ay:a=b-1
  .rw[ay];exact h
  .exact o.hg _ _ _ (s a (b-1) (by omega) (by omega)) h
 .exact s a b jq (by omega)
theorem GZ(o:h2 n lt){p:Array Nat}(h:cU n p):∀f k,1≤k→k+f≤n→l6 lt p k→∃m,gQ lt (kas_asc p f k)=m∧k≤m∧m≤k+f∧l6 lt p m∧(m<k+f→lt (bb p m) (bb p (m-1))=true)
 |0,k,ag,af,s=>⟨k,rfl,b1 _,b1 _,s,λz=>bB z (by omega)⟩
 |f+1,k,ag,af,s=>by
  show∃m,gQ lt (if lt (bb p k) (bb p (k-1))=true then .ret k else kas_asc p f (k+1))=m∧_
  cases e:lt (bb p k) (bb p (k-1))with
  |true=>
   rw[aI rfl]
   exact⟨k,rfl,b1 _,by omega,s,λ_=>e⟩
  |false=>
   rw[aD (by decide)]
   have up:=o.or h (a:=k) (b:=k-1) (by omega) (by omega) (by omega) e
   obtain⟨m,av,ay,cv,er,gM⟩:=GZ o h f (k+1) (by omega) (by omega) (s.succ o ag up)
   exact⟨m,av,by omega,by omega,er,λz=>gM (by omega)⟩
noncomputable def Cr(lt:Nat→Nat→Bool)(p:Array Nat)(k:Nat):Prop:=∀a b,a<b→b<k→lt (bb p b) (bb p a)=true
theorem Qq(o:h2 n lt){p:Array Nat}(h:cU n p):∀f k,1≤k→k+f≤n→Cr lt p k→∃m,gQ lt (Aq f p k 0)=(p,m,0)∧k≤m∧m≤k+f∧Cr lt p m
 |0,k,ag,af,s=>⟨k,rfl,b1 _,b1 _,s⟩
 |f+1,k,ag,af,s=>by
  show∃m,gQ lt (if lt (bb p k) (bb p (k-1))=true then(if 0>0 then Aq f (oc p (k-(0+1)) k) (k+1) 0 else Aq f p (k+1) 0)else .ask (bb p (k-1)) (bb p k) λd=>if d=true then .ret (p,k,0)else Aq f p (k+1) (0+1))=(p,m,0)∧_
  cases e:lt (bb p k) (bb p (k-1))with
  |true=>
   rw[aI rfl,aD (by omega)]
   have s2:Cr lt p (k+1):=λa b jq U=>by
    by_cases dJ:b=k
    .subst dJ
     by_cases ay:a=b-1
     .rw[ay];exact e
     .exact o.hg _ _ _ e (s a (b-1) (by omega) (by omega))
    .exact s a b jq (by omega)
   obtain⟨m,av,ay,cv,er⟩:=Qq o h f (k+1) (by omega) (by omega) s2
   exact⟨m,av,by omega,by omega,er⟩
  |false=>
   rw[aD (by decide)]
   have up:=o.or h (a:=k) (b:=k-1) (by omega) (by omega) (by omega) e
   show∃m,gQ lt (if lt (bb p (k-1)) (bb p k)=true then .ret (p,k,0)else Aq f p (k+1) (0+1))=(p,m,0)∧_
   rw[aI up]
   exact⟨k,rfl,b1 _,by omega,s⟩
theorem xq{p q:Array Nat}{a b:Nat}(e:p[a]?=q[b]?):bb p a=bb q b:=by
 have f:∀(r:Array Nat)(c:Nat),bb r c=(r[c]?).getD 0:=λr c=>by
  show r.getD c 0=_
  by_cases aF:c<r.size
  .rw[xx aF]
   simp[nD,aF]
  .rw[Ca (by omega)]
   simp[nD,aF]
 rw[f,f,e]
theorem Q3{p:Array Nat}{r i:Nat}(aw:r≤p.size)(aj:i<r):bb (oc p 0 r) i=bb p (r-1-i):=by
 have h:=ahV (xs:=p) (i:=0) (j:=r) aw i
 rw[aI ⟨ea _,aj⟩,show 0+r-1-i=r-1-i by omega]at h
 exact xq h
theorem ù(o:h2 n lt){p:Array Nat}(h:cU n p){k:Nat}(ag:1≤k)(af:k≤n)(s:Cr lt p k):∃m q,gQ lt (Ar k n p)=(m,q)∧1≤m∧m≤n∧l6 lt q m∧cU n q:=by
 unfold Ar
 rw[wz]
 have aw:=h.rev 0 k
 have jw:l6 lt (oc p 0 k) k:=λa b jq U=>by
  rw[Q3 (by rw[h.size];exact af) (by omega),Q3 (by rw[h.size];exact af) U]
  exact s _ _ (by omega) (by omega)
 obtain⟨m,av,ay,cv,er,_⟩:=GZ o aw (n-k) k ag (by omega) jw
 rw[av]
 exact⟨m,_,rfl,by omega,by omega,er,aw⟩
theorem Ģ(o:h2 n lt){p:Array Nat}(h:cU n p)(h0:2≤n):∃m q,gQ lt (L7 n p)=(m,q)∧1≤m∧m≤n∧l6 lt q m∧cU n q:=by
 unfold L7
 rw[wz]
 obtain⟨m,av,ay,cv,er,gM⟩:=GZ o h (n-1) 1 (b1 _) (by omega) (λa b jq U=>by omega)
 rw[av,Qp]
 by_cases e1:m=n
 .rw[aI (by simpa using e1)]
  exact⟨m,p,rfl,ay,by omega,er,h⟩
 .rw[aD (by simpa using e1),Qp]
  have Mo:=gM (by omega)
  by_cases c6:m>1
  .rw[aI c6]
   show∃cR q,gQ lt (if lt (bb p 0) (bb p (m-1))=true then .ret (m,p)else VX m n (oc p 0 m))=(cR,q)∧_
   rw[aI (er 0 (m-1) (by omega) (by omega))]
   exact⟨m,p,rfl,ay,by omega,er,h⟩
  .rw[aD c6]
   have dY:m=1:=by omega
   subst dY
   unfold VX
   rw[wz]
   obtain⟨k,nT,De,anJ,agy⟩:=Qq o h (n-(1+1)) (1+1) (by omega) (by omega) (λa b jq U=>by
    have:a=0∧b=1:=by omega
    rw[this.1,this.2]
    exact Mo)
   rw[nT]
   show∃cR q,gQ lt (if 0>0 then Ar k n (oc p (k-(0+1)) k)else Ar k n p)=(cR,q)∧_
   rw[aD (by omega)]
   exact ù o h (by omega) (by omega) agy
theorem Og(o:h2 n lt){p:Array Nat}(h:cU n p){k:Nat}(aK:k<n)(s:l6 lt p k):∀f l r,l≤r→r≤k→r-l≤f→(∀a,a<l→lt (bb p a) (bb p k)=true)→(∀a,r≤a→a<k→lt (bb p k) (bb p a)=true)→
  ∃m,gQ lt (wC p k f l r)=m∧m≤k∧(∀a,a<m→lt (bb p a) (bb p k)=true)∧∀a,m≤a→a<k→lt (bb p k) (bb p a)=true
 |0,l,r,ag,af,aU,ar,aw=>⟨l,rfl,by omega,ar,λa aH=>aw a (by omega)⟩
 |f+1,l,r,ag,af,aU,ar,aw=>by
  show∃m,gQ lt (if l≥r then .ret l else .ask (bb p k) (bb p ((l+r)/2)) λc=>if c=true then wC p k f l ((l+r)/2)else wC p k f ((l+r)/2+1) r)=m∧_
  by_cases c:l≥r
  .rw[aI c]
   exact⟨l,rfl,by omega,ar,λa aH=>aw a (by omega)⟩
  .rw[aD c]
   show∃m,gQ lt (if lt (bb p k) (bb p ((l+r)/2))=true then wC p k f l ((l+r)/2)else wC p k f ((l+r)/2+1) r)=m∧_
   have ajJ:l≤(l+r)/2∧(l+r)/2<r:=by omega
   cases e:lt (bb p k) (bb p ((l+r)/2))with
   |true=>
    rw[aI rfl]
    refine Og o h aK s f l ((l+r)/2) ajJ.1 (by omega) (by omega) ar λa aH ah9=>?_
    by_cases bp:a=(l+r)/2
    .rw[bp];exact e
    .exact o.hg _ _ _ e (s _ _ (by omega) ah9)
   |false=>
    rw[aD (by decide)]
    have up:=o.or h (a:=k) (b:=(l+r)/2) aK (by omega) (by omega) e
    refine Og o h aK s f ((l+r)/2+1) r (by omega) af (by omega) (λa aH=>?_) aw
    by_cases bp:a=(l+r)/2
    .rw[bp];exact up
    .exact o.hg _ _ _ (s a _ (by omega) (by omega)) up
theorem G0{p:Array Nat}{k l i:Nat}(aK:k<p.size)(ar:l≤k):bb (nQ p k (k-l)) i=if i=l then bb p k else if l<i∧i≤k then bb p (i-1)else bb p i:=by
 have h:=getElem?_bubble (xs:=p) aK (k-l) (by omega) i
 rw[show k-(k-l)=l by omega]at h
 by_cases c:i=l
 .rw[aI c]at h⊢
  exact xq h
 .rw[aD c]at h⊢
  by_cases c6:l<i∧i≤k
  .rw[aI c6]at h⊢
   exact xq h
  .rw[aD c6]at h⊢
   exact xq h
theorem Rc(o:h2 n lt):∀(f:Nat)(p:Array Nat)(k:Nat),cU n p→l6 lt p k→k+f=n→l6 lt (gQ lt (L6 f p k)) n
 |0,p,k,h,s,e=>by
  have:k=n:=by omega
  subst this
  exact s
 |f+1,p,k,h,s,e=>by
  show l6 lt (gQ lt ((wC p k k 0 k).bind λl=>L6 f (nQ p k (k-l)) (k+1))) n
  rw[wz]
  obtain⟨m,av,ay,cv,er⟩:=Og o h (k:=k) (by omega) s k 0 k (ea _) (b1 _) (by omega) (λa aH=>bB aH (by omega)) (λa ag af=>bB af (by omega))
  rw[av]
  refine Rc o f _ _ (h.JB _ _) (λa b jq U=>?_) (by omega)
  have aK:k<p.size:=by rw[h.size];omega
  rw[G0 aK ay,G0 aK ay]
  by_cases a1:a=m
  .rw[aI a1,aD (by omega),aI ⟨by omega,by omega⟩]
   exact er (b-1) (by omega) (by omega)
  .rw[aD a1]
   by_cases d6:b=m
   .rw[aI d6,aD (by omega)]
    exact cv a (by omega)
   .rw[aD d6]
    by_cases a2:m<a∧a≤k
    .rw[aI a2,aI ⟨by omega,by omega⟩]
     exact s _ _ (by omega) (by omega)
    .rw[aD a2]
     by_cases dC:m<b∧b≤k
     .rw[aI dC]
      exact s _ _ (by omega) (by omega)
     .rw[aD dC]
      exact s _ _ jq (by omega)
theorem lw(o:h2 n lt):(og lt n).Pairwise λi j=>lt i j=true:=by
 unfold og
 by_cases af:n<2
 .rw[aI af]
  have:n=0∨n=1:=by omega
  rcases this with e|e<;>subst e<;>simp[yu]
 .rw[aD af]
  have aw:cU n (kS (c_ n)):=PS _
  unfold wD
  rw[wz]
  obtain⟨m,q,av,ay,cv,er,gM⟩:=Ģ o aw (by omega)
  rw[av]
  show((gQ lt (if m<n then L6 (n-max m 1) q (max m 1)else .ret q)).toList).Pairwise _
  have Mz:max m 1=m:=by omega
  rw[Mz]
  have fin:∀c4:Array Nat,cU n c4→l6 lt c4 n→c4.toList.Pairwise λi j=>lt i j=true:=λc4 a s=>by
   rw[sU]
   intro i j aj aN n6
   have z5:j<n:=by rw[←a.size];simpa using aN
   have:=s i j n6 z5
   have ak9:i<c4.size:=by rw[a.size];omega
   have kG:j<c4.size:=by rw[a.size];omega
   have f1:bb c4 i=c4[i]:=by simp[bb,nD,ak9]
   have f2:bb c4 j=c4[j]:=by simp[bb,nD,kG]
   rw[f1,f2]at this
   simpa using this
  by_cases c:m<n
  .rw[aI c]
   refine fin _ ?_ (Rc o _ _ _ gM er (by omega))
   exact Ff (lt:=lt) _ (Hu (by omega) _ _ _ gM)
  .rw[aD c]
   have:m=n:=by omega
   subst this
   exact fin q gM er
end
end cA
namespace PV
open PySem PySem.Spec PyProof.Rows cA PySem.W
noncomputable def mQ:Bool→Keyed→Array Keyed→Nat→Nat→Nat→StateT SortSt Sem (Option Nat):=sortPriv% PySem.Builtin.gallop
noncomputable def Oh:Array Keyed→Array Keyed→StateT SortSt Sem (Array Keyed):=sortPriv% PySem.Builtin.mergeLo
noncomputable def Oy:Array Keyed→Array Keyed→StateT SortSt Sem (Array Keyed):=sortPriv% PySem.Builtin.mergeHi
noncomputable def tW:Nat→StateT SortSt Sem Unit:=sortPriv% PySem.Builtin.setMinGallop
structure Ctx where
 prog:bT
 w:bJ
 A:c5
 E:Value→ax→Prop
 κ:my
 it:Array Keyed
 s:ax
 n:Nat
 lt:Nat→Nat→Bool
 aF:∀i j C,i<n→j<n→C (lt i j) s→kas_cmp prog w A κ it i j C s
 ok:h2 n lt
variable(X:Ctx)
noncomputable def W{α:Type}(m:StateT SortSt Sem α)(Q:α→SortSt→Prop)(st:SortSt):Prop:=kasC (br X.prog X.w) X.A X.E m (λa aM s'=>s'=X.s∧Q a aM) st X.s
noncomputable abbrev Ctx.item(i:Nat):Keyed:=kas_item X.it i
noncomputable def ST(p:Array Nat)(a_:Array (Nat×Nat×Nat))(g:Nat):SortSt:=mz X.κ (p.map X.item) a_ g none
variable{X}
theorem cc{α:Type}{a:α}{Q:α→SortSt→Prop}{st:SortSt}(h:Q a st):W X (pure a) Q st:=kasC_pure ⟨rfl,h⟩
theorem Rd{α:Type}{m:StateT SortSt Sem α}{Q o3:α→SortSt→Prop}{st:SortSt}(h:W X m Q st)(bg:∀a aM,Q a aM→o3 a aM):W X m o3 st:=by
 unfold W kasC at h⊢
 exact fa h (λr s' z=>⟨z.1,bg _ _ z.2⟩) λ_ _ e=>e
theorem cn{α β:Type}{m:StateT SortSt Sem α}{f:α→StateT SortSt Sem β}{Q:β→SortSt→Prop}{st:SortSt}(h:W X m (λa aM=>W X (f a) Q aM) st):W X (m >>=f) Q st:=by
 refine kasC_bind ?_
 unfold W kasC at h
 unfold kasC
 refine fa h (λr s' z=>?_) λ_ _ e=>e
 obtain⟨e,z⟩:=z
 rw[e]
 exact z
theorem m9{Q:SortSt→SortSt→Prop}{st:SortSt}(h:Q st st):W X get Q st:=kasC_get ⟨rfl,h⟩
theorem pk{f:SortSt→SortSt}{Q:PUnit→SortSt→Prop}{st:SortSt}(h:Q ⟨⟩ (f st)):W X (modify f) Q st:=kasC_modify ⟨rfl,h⟩
theorem Rf{α:Type}{m:Sem α}{Q:α→SortSt→Prop}{st:SortSt}(h:aX (br X.prog X.w) X.A m (λa s'=>s'=X.s∧Q a st) X.E X.s):W X (liftM m) Q st:=kasC_lift h
theorem w'{x:String}{Q:Unit→SortSt→Prop}{st:SortSt}(h:Q () st):W X (liftM (rule x)) Q st:=Rf (Yw ⟨rfl,h⟩)
theorem yk{i j:Nat}{Q:Option Bool→SortSt→Prop}{p:Array Nat}{a_:Array (Nat×Nat×Nat)}{g:Nat}(aj:i<X.n)(aN:j<X.n)(h:Q (some (X.lt i j)) (ST X p a_ g)):W X (lt' (X.item i) (X.item j)) Q (ST X p a_ g):=by
 rw[lt'_eq]
 refine cn (m9 (cn (Rf ?_)))
 refine Gj (fa (X.aF i j (λc s'=>c=X.lt i j∧s'=X.s) aj aN ⟨rfl,rfl⟩) (λc s' z=>?_) λ_ _ n2=>n2.elim)
 obtain⟨av,ay⟩:=z
 rw[av]
 exact⟨ay,cc h⟩
theorem Rg{l:List Nat}{k:Nat}{Q:Keyed→SortSt→Prop}{st:SortSt}(aK:k<l.length)(h:Q (X.item l[k]) st):W X (fF (l.map X.item).toArray k) Q st:=by
 rw[elem'_eq]
 have e:((l.map X.item).toArray)[k]?=some (X.item l[k]):=by simp[aK]
 rw[e]
 exact cc h
theorem adK{β:Type}{N:Nat}{b:β}{f:Nat→β→StateT SortSt Sem (ForInStep β)}{Q:β→SortSt→Prop}{st:SortSt}(Inv:Nat→β→SortSt→Prop)(h0:Inv 0 b st)(step:∀k b st,k<N→Inv k b st→W X (f k b) (λr aM=>match r with|.done aZ=>Q aZ aM|.yield aZ=>Inv (k+1) aZ aM) st)(fin:∀b st,Inv N b st→Q b st):W X (forIn [0:N] b f) Q st:=by
 refine kasC_range ?_
 have gen:∀(m k:Nat)(b:β)(st:SortSt),k+m=N→Inv k b st→kasC (br X.prog X.w) X.A X.E (forIn (Ŕ k m) b f) (λa aM s'=>s'=X.s∧Q a aM) st X.s:=by
  intro m
  induction m with
  |zero=>
   intro k b st e h
   have:k=N:=by omega
   subst this
   exact kasC_nil ⟨rfl,fin b st h⟩
  |succ m ba=>
   intro k b st e h
   rw[ŕ]
   refine kasC_cons ?_
   have s1:=step k b st (by omega) h
   unfold W kasC at s1
   unfold kasC
   refine fa s1 (λr s' z=>?_) λ_ _ e=>e
   obtain⟨b6,aM⟩:=r
   cases b6 with
   |done aZ=>exact z
   |yield aZ=>
    obtain⟨av,bL⟩:=z
    rw[av]
    exact ba (k+1) aZ aM (by omega) bL
 exact gen (N-0) 0 b st (by omega) h0
theorem ko{α β:Type}{N:Nat}{b:β}{f:Nat→β→StateT SortSt Sem (ForInStep β)}{cont:β→StateT SortSt Sem α}{Q:α→SortSt→Prop}{st:SortSt}(Post:β→SortSt→Prop)(Inv:Nat→β→SortSt→Prop)(h0:Inv 0 b st)(step:∀k b st,k<N→Inv k b st→W X (f k b) (λr aM=>match r with|.done aZ=>Post aZ aM|.yield aZ=>Inv (k+1) aZ aM) st)(fin:∀b st,Inv N b st→Post b st)(k:∀b st,Post b st→W X (cont b) Q st):W X (forIn [0:N] b f >>=cont) Q st:=
 cn (Rd (adK Inv h0 step fin) k)
theorem Z2(left:Bool)(key:Keyed)(arr:Array Keyed)(base n hint:Nat):mQ left key arr base n hint=(do
  let beyond (i:Nat):StateT SortSt Sem (Option Bool):=do
   let x ←fF arr (base+i)
   if left then lt' x key else return (←lt' key x).map (!·)
  let mut EB:=0
  let mut dE:=1
  let mut lo:=0
  let mut aj:=0
  let some right ←beyond hint|return none
  if right then
   let AI:=n-hint
   for _ in [0:n] do
    if dE≥AI then break
    let some more ←beyond (hint+dE)|return none
    if !more then break
    EB:=dE
    dE:=2*dE+1
   lo:=hint+EB+1
   aj:=hint+min dE AI
  else
   let AI:=hint+1
   for _ in [0:n] do
    if dE≥AI then break
    let some found ←beyond (hint-dE)|return none
    if found then break
    EB:=dE
    dE:=2*dE+1
   lo:=hint+1-min dE AI
   aj:=hint-EB
  for _ in [0:n] do
   if lo≥aj then break
   let m:=lo+(aj-lo)/2
   let some more ←beyond m|return none
   if more then lo:=m+1 else aj:=m
  return some aj):=rfl
noncomputable def kg(X:Ctx)(left:Bool)(key:Nat)(l:List Nat)(i:Nat):Bool:=if left then X.lt (l.getD i 0) key else !X.lt key (l.getD i 0)
theorem wt{left:Bool}{key:Nat}{l:List Nat}{base m hint:Nat}{Q:Option Nat→SortSt→Prop}{p:Array Nat}{a_:Array (Nat×Nat×Nat)}{g:Nat}(aK:key<X.n)(ar:∀x∈l,x<X.n)(U:base+m≤l.length)(ef:hint<m)(mono:∀i j,i<j→j<m→kg X left key l (base+j)=true→kg X left key l (base+i)=true)(h:∀k,k≤m→(∀i,i<k→kg X left key l (base+i)=true)→(∀i,k≤i→i<m→kg X left key l (base+i)=false)→Q (some k) (ST X p a_ g)):
  W X (mQ left (X.item key) (l.map X.item).toArray base m hint) Q (ST X p a_ g):=by
 rw[Z2]
 have yU:∀(i:Nat){R:Option Bool→SortSt→Prop},i<m→R (some (kg X left key l (base+i))) (ST X p a_ g)→W X (do
   let x ←fF (l.map X.item).toArray (base+i)
   if left=true then lt' x (X.item key)else do
    let r ←lt' (X.item key) x
    pure (r.map (!·))) R (ST X p a_ g):=λi R aj cL=>by
  have Ed:base+i<l.length:=by omega
  have e:l.getD (base+i) 0=l[base+i]:=by rw[cY,cg Ed];rfl
  refine cn (Rg Ed ?_)
  unfold kg at cL
  rw[e]at cL
  cases left with
  |true=>exact yk (ar _ (eg Ed)) aK cL
  |false=>exact cn (yk aK (ar _ (eg Ed)) (cc cL))
 generalize kg X left key l=bd at *
 have EI:∀k,k<m→bd (base+k)=true→∀i,i<k+1→bd (base+i)=true:=λk aK cJ i aj=>by
  by_cases e:i=k
  .rw[e];exact cJ
  .exact mono i k (by omega) aK cJ
 have Eg:∀k,k<m→bd (base+k)=false→∀i,k≤i→i<m→bd (base+i)=false:=λk aK cJ i aj aiC=>by
  by_cases e:i=k
  .rw[e];exact cJ
  .cases ay:bd (base+i)with
   |false=>rfl
   |true=>rw[mono k i (by omega) aiC ay]at cJ;cases cJ
 dsimp only
 refine cn (yU hint ef ?_)
 dsimp only
 cases lR:bd (base+hint)with
 |true=>
  rw[aI rfl]
  refine ko (Post:=λb aM=>aM=ST X p a_ g∧∃aq dE,b=(none,aq,dE)∧bd (base+(hint+aq))=true∧aq<m-hint∧aq<dE∧(m-hint≤dE∨bd (base+(hint+dE))=false))
   (λk b aM=>aM=ST X p a_ g∧∃aq dE,b=(none,aq,dE)∧bd (base+(hint+aq))=true∧aq<m-hint∧aq<dE∧k+1≤dE) ⟨rfl,0,1,rfl,lR,by omega,by omega,by omega⟩ ?_ ?_ ?_
  .rintro k b aM aK ⟨rfl,aq,dE,rfl,bq,cp,eH,iq⟩
   dsimp only
   by_cases c:dE≥m-hint
   .rw[aI c]
    exact cc ⟨rfl,aq,dE,rfl,bq,cp,eH,.inl c⟩
   .rw[aD c]
    refine cn (yU _ (by omega) ?_)
    dsimp only
    cases e:bd (base+(hint+dE))with
    |true=>
     rw[aD (by decide)]
     exact cc ⟨rfl,_,_,rfl,e,by omega,by omega,by omega⟩
    |false=>
     rw[aI (by decide)]
     exact cc ⟨rfl,aq,dE,rfl,bq,cp,eH,.inr e⟩
  .rintro b aM ⟨rfl,aq,dE,rfl,bq,cp,eH,iq⟩
   exact⟨rfl,aq,dE,rfl,bq,cp,eH,.inl (by omega)⟩
  .rintro b aM ⟨rfl,aq,dE,rfl,bq,cp,eH,iq⟩
   dsimp only
   have low:=EI (hint+aq) (by omega) bq
   have high:∀i,hint+min dE (m-hint)≤i→i<m→bd (base+i)=false:=λi ag af=>by
    rcases iq with z|z
    .omega
    .by_cases c:m-hint≤dE
     .omega
     .exact Eg (hint+dE) (by omega) z i (by omega) af
   refine ko (Post:=λb aM=>aM=ST X p a_ g∧∃aj,b=(none,aj,aj)∧aj≤m∧(∀i,i<aj→bd (base+i)=true)∧∀i,aj≤i→i<m→bd (base+i)=false)
    (λk b aM=>aM=ST X p a_ g∧∃lo aj,b=(none,lo,aj)∧lo≤aj∧aj≤m∧aj-lo≤m-k∧(∀i,i<lo→bd (base+i)=true)∧∀i,aj≤i→i<m→bd (base+i)=false) ⟨rfl,hint+aq+1,hint+min dE (m-hint),rfl,by omega,by omega,by omega,low,high⟩ ?_ ?_ ?_
   .rintro k b aM aK ⟨rfl,lo,aj,rfl,ag,af,cZ,aU,bP⟩
    dsimp only
    by_cases c:lo≥aj
    .rw[aI c]
     have:lo=aj:=by omega
     subst this
     exact cc ⟨rfl,lo,rfl,af,aU,bP⟩
    .rw[aD c]
     have hm:lo+(aj-lo)/2<m:=by omega
     refine cn (yU _ hm ?_)
     dsimp only
     cases e:bd (base+(lo+(aj-lo)/2))with
     |true=>
      rw[aI rfl]
      exact cc ⟨rfl,_,_,rfl,by omega,af,by omega,EI _ hm e,bP⟩
     |false=>
      rw[aD (by decide)]
      exact cc ⟨rfl,_,_,rfl,by omega,by omega,by omega,aU,Eg _ hm e⟩
   .rintro b aM ⟨rfl,lo,aj,rfl,ag,af,cZ,aU,bP⟩
    have:lo=aj:=by omega
    subst this
    exact⟨rfl,lo,rfl,af,aU,bP⟩
   .rintro b aM ⟨rfl,aj,rfl,af,aU,bP⟩
    exact cc (h aj af aU bP)
 |false=>
  rw[aD (by decide)]
  refine ko (Post:=λb aM=>aM=ST X p a_ g∧∃aq dE,b=(none,aq,dE)∧bd (base+(hint-aq))=false∧aq<hint+1∧aq<dE∧(hint+1≤dE∨bd (base+(hint-dE))=true))
   (λk b aM=>aM=ST X p a_ g∧∃aq dE,b=(none,aq,dE)∧bd (base+(hint-aq))=false∧aq<hint+1∧aq<dE∧k+1≤dE) ⟨rfl,0,1,rfl,lR,by omega,by omega,by omega⟩ ?_ ?_ ?_
  .rintro k b aM aK ⟨rfl,aq,dE,rfl,bq,cp,eH,iq⟩
   dsimp only
   by_cases c:dE≥hint+1
   .rw[aI c]
    exact cc ⟨rfl,aq,dE,rfl,bq,cp,eH,.inl c⟩
   .rw[aD c]
    refine cn (yU _ (by omega) ?_)
    dsimp only
    cases e:bd (base+(hint-dE))with
    |true=>
     rw[aI rfl]
     exact cc ⟨rfl,aq,dE,rfl,bq,cp,eH,.inr e⟩
    |false=>
     rw[aD (by decide)]
     exact cc ⟨rfl,_,_,rfl,e,by omega,by omega,by omega⟩
  .rintro b aM ⟨rfl,aq,dE,rfl,bq,cp,eH,iq⟩
   exact⟨rfl,aq,dE,rfl,bq,cp,eH,.inl (by omega)⟩
  .rintro b aM ⟨rfl,aq,dE,rfl,bq,cp,eH,iq⟩
   dsimp only
   have high:=Eg (hint-aq) (by omega) bq
   have low:∀i,i<hint+1-min dE (hint+1)→bd (base+i)=true:=λi aj=>by
    rcases iq with z|z
    .omega
    .by_cases c:hint+1≤dE
     .omega
     .exact EI (hint-dE) (by omega) z i (by omega)
   refine ko (Post:=λb aM=>aM=ST X p a_ g∧∃aj,b=(none,aj,aj)∧aj≤m∧(∀i,i<aj→bd (base+i)=true)∧∀i,aj≤i→i<m→bd (base+i)=false)
    (λk b aM=>aM=ST X p a_ g∧∃lo aj,b=(none,lo,aj)∧lo≤aj∧aj≤m∧aj-lo≤m-k∧(∀i,i<lo→bd (base+i)=true)∧∀i,aj≤i→i<m→bd (base+i)=false) ⟨rfl,hint+1-min dE (hint+1),hint-aq,rfl,by omega,by omega,by omega,low,high⟩ ?_ ?_ ?_
   .rintro k b aM aK ⟨rfl,lo,aj,rfl,ag,af,cZ,aU,bP⟩
    dsimp only
    by_cases c:lo≥aj
    .rw[aI c]
     have:lo=aj:=by omega
     subst this
     exact cc ⟨rfl,lo,rfl,af,aU,bP⟩
    .rw[aD c]
     have hm:lo+(aj-lo)/2<m:=by omega
     refine cn (yU _ hm ?_)
     dsimp only
     cases e:bd (base+(lo+(aj-lo)/2))with
     |true=>
      rw[aI rfl]
      exact cc ⟨rfl,_,_,rfl,by omega,af,by omega,EI _ hm e,bP⟩
     |false=>
      rw[aD (by decide)]
      exact cc ⟨rfl,_,_,rfl,by omega,by omega,by omega,aU,Eg _ hm e⟩
   .rintro b aM ⟨rfl,lo,aj,rfl,ag,af,cZ,aU,bP⟩
    have:lo=aj:=by omega
    subst this
    exact⟨rfl,lo,rfl,af,aU,bP⟩
   .rintro b aM ⟨rfl,aj,rfl,af,aU,bP⟩
    exact cc (h aj af aU bP)
theorem amQ(a b:Array Keyed):Oh a b=(do
 rule "list.sort.merge-lo"
 let total:=a.size+b.size
 let done (out:Array Keyed) (aW aV:Nat):=out++a.extract aW a.size++b.extract aV b.size
 let EA (out:Array Keyed) (aW aV:Nat):=out++b.extract aV b.size++a.extract aW a.size
 let mut out:Array Keyed:=#[←fF b 0]
 let mut aW:=0
 let mut aV:=1
 if aV==b.size then return done out aW aV
 if aW+1==a.size then return EA out aW aV
 let mut minGallop:=gallopOf (←get)
 for _ in [0:total] do
  let mut lM:=0
  let mut lN:=0
  for _ in [0:total] do
   let some afV ←lt' (←fF b aV) (←fF a aW)|return done out aW aV
   if afV then
    out:=out.push (←fF b aV);aV:=aV+1;lN:=lN+1;lM:=0
    if aV==b.size then return done out aW aV
    if lN≥minGallop then break
   else
    out:=out.push (←fF a aW);aW:=aW+1;lM:=lM+1;lN:=0
    if aW+1==a.size then return EA out aW aV
    if lM≥minGallop then break
  rule "list.sort.gallop"
  minGallop:=minGallop+1
  for _ in [0:total] do
   if minGallop>1 then minGallop:=minGallop-1
   tW minGallop
   let some k ←mQ false (←fF b aV) a aW (a.size-aW) 0|return done out aW aV
   lM:=k
   if k>0 then
    out:=out++a.extract aW (aW+k);aW:=aW+k
    if aW+1==a.size then return EA out aW aV
    if aW==a.size then return done out aW aV
   out:=out.push (←fF b aV);aV:=aV+1
   if aV==b.size then return done out aW aV
   let some k ←mQ true (←fF a aW) b aV (b.size-aV) 0|return done out aW aV
   lN:=k
   if k>0 then
    out:=out++b.extract aV (aV+k);aV:=aV+k
    if aV==b.size then return done out aW aV
   out:=out.push (←fF a aW);aW:=aW+1
   if aW+1==a.size then return EA out aW aV
   if lM<7&&lN<7 then break
  minGallop:=minGallop+1
  tW minGallop
 unsupported "internal:list.sort.merge-bound"):=rfl
theorem amR(a b:Array Keyed):Oy a b=(do
 rule "list.sort.merge-hi"
 let total:=a.size+b.size
 let done (out:Array Keyed) (na nb:Nat):=a.extract 0 na++b.extract 0 nb++out.reverse
 let DJ (out:Array Keyed) (na nb:Nat):=b.extract 0 nb++a.extract 0 na++out.reverse
 let mut na:=a.size-1
 let mut nb:=b.size
 let mut out:Array Keyed:=#[←fF a na]
 if na==0 then return done out na nb
 if nb==1 then return DJ out na nb
 let mut minGallop:=gallopOf (←get)
 for _ in [0:total] do
  let mut lM:=0
  let mut lN:=0
  for _ in [0:total] do
   let some afv ←lt' (←fF b (nb-1)) (←fF a (na-1))|return done out na nb
   if afv then
    na:=na-1;out:=out.push (←fF a na);lM:=lM+1;lN:=0
    if na==0 then return done out na nb
    if lM≥minGallop then break
   else
    nb:=nb-1;out:=out.push (←fF b nb);lN:=lN+1;lM:=0
    if nb==1 then return DJ out na nb
    if lN≥minGallop then break
  rule "list.sort.gallop"
  minGallop:=minGallop+1
  for _ in [0:total] do
   if minGallop>1 then minGallop:=minGallop-1
   tW minGallop
   let some at_ ←mQ false (←fF b (nb-1)) a 0 na (na-1)|return done out na nb
   let k:=na-at_
   lM:=k
   if k>0 then
    out:=out++(a.extract at_ na).reverse;na:=at_
    if na==0 then return done out na nb
   nb:=nb-1;out:=out.push (←fF b nb)
   if nb==1 then return DJ out na nb
   let some at_ ←mQ true (←fF a (na-1)) b 0 nb (nb-1)|return done out na nb
   let k:=nb-at_
   lN:=k
   if k>0 then
    out:=out++(b.extract at_ nb).reverse;nb:=at_
    if nb==1 then return DJ out na nb
    if nb==0 then return done out na nb
   na:=na-1;out:=out.push (←fF a na)
   if na==0 then return done out na nb
   if lM<7&&lN<7 then break
  minGallop:=minGallop+1
  tW minGallop
 unsupported "internal:list.sort.merge-bound"):=rfl
variable{X:Ctx}
noncomputable def Ctx.arr(X:Ctx)(l:List Nat):Array Keyed:=(l.map X.item).toArray
theorem wu(l:List Nat):(X.arr l).size=l.length:=by simp[Ctx.arr]
theorem ji(l m:List Nat):X.arr l++X.arr m=X.arr (l++m):=by simp[Ctx.arr]
theorem wx(l:List Nat)(x:Nat):(X.arr l).push (X.item x)=X.arr (l++[x]):=by simp[Ctx.arr]
theorem ki(l:List Nat)(i j:Nat):(X.arr l).extract i j=X.arr ((l.drop i).take (j-i)):=by
 unfold Ctx.arr
 rw[List.extract_toArray,List.extract_eq_drop_take,vj,Ō]
theorem wO(l:List Nat):(X.arr l).reverse=X.arr l.reverse:=by simp[Ctx.arr]
theorem wy(l:List Nat)(i:Nat):(X.arr l).extract i (X.arr l).size=X.arr (l.drop i):=by
 rw[ki,wu,HM (by rw[sR];omega)]
theorem iK{l:List Nat}{k:Nat}{Q:Keyed→SortSt→Prop}{st:SortSt}(aK:k<l.length)(h:Q (X.item l[k]) st):W X (fF (X.arr l) k) Q st:=Rg aK h
noncomputable abbrev Ctx.Lt(X:Ctx)(i j:Nat):Prop:=X.lt i j=true
structure iS(X:Ctx)(aq aA:List Nat):Prop where
 aO:aq.Pairwise X.Lt
 bX:aA.Pairwise X.Lt
 na:∀x∈aq,x<X.n
 nb:∀x∈aA,x<X.n
 ahc:∀x∈aq,∀y∈aA,x≠y
 fst:∀(h:0<aA.length),∀y∈aq,X.Lt aA[0] y
 lst:∀(h:aq.length-1<aq.length),∀y∈aA,X.Lt y aq[aq.length-1]
theorem iS.r6{aq aA:List Nat}(m:iS X aq aA){x y:Nat}(ao:x∈aq)(aT:y∈aA)(h:X.lt y x=false):X.Lt x y:=by
 rcases X.ok.to x y (m.na x ao) (m.nb y aT) (m.ahc x ao y aT)with z|z
 .exact z
 .rw[z]at h;cases h
structure ib(X:Ctx)(aq aA o:List Nat)(aW aV:Nat):Prop where
 pm:(o++aq.drop aW++aA.drop aV).Perm (aq++aA)
 oD:o.Pairwise X.Lt
 od:∀x∈o,∀y∈aq.drop aW,X.Lt x y
 oe:∀x∈o,∀y∈aA.drop aV,X.Lt x y
noncomputable def nJ(X:Ctx)(aq aA r:List Nat):Prop:=r.Perm (aq++aA)∧r.Pairwise X.Lt
section
variable{aq aA o:List Nat}{aW aV:Nat}
theorem ib.sa(M:iS X aq aA)(h:ib X aq aA o aW aV)(k:Nat)(aK:∀x∈(aq.drop aW).take k,∀y∈aA.drop aV,X.Lt x y):ib X aq aA (o++(aq.drop aW).take k) (aW+k) aV:=by
 have e:(aq.drop aW).take k++aq.drop (aW+k)=aq.drop aW:=by
  rw[←Rv]
  exact p1 k _
 have cB:=M.aO.sublist (yn aW aq)
 rw[←e,jV]at cB
 refine⟨?_,?_,λx ao y aT=>?_,λx ao y aT=>?_⟩
 .rw[jB o,e]
  exact h.pm
 .rw[jV]
  exact⟨h.oD,cB.1,λx ao y aT=>h.od x ao y (yt aT)⟩
 .rcases el.mp ao with z|z
  .exact h.od x z y (by rw[←e];exact el.mpr (.inr aT))
  .exact cB.2.2 x z y aT
 .rcases el.mp ao with z|z
  .exact h.oe x z y aT
  .exact aK x z y aT
theorem ib.sb(M:iS X aq aA)(h:ib X aq aA o aW aV)(k:Nat)(aK:∀x∈(aA.drop aV).take k,∀y∈aq.drop aW,X.Lt x y):ib X aq aA (o++(aA.drop aV).take k) aW (aV+k):=by
 have e:(aA.drop aV).take k++aA.drop (aV+k)=aA.drop aV:=by
  rw[←Rv]
  exact p1 k _
 have cB:=M.bX.sublist (yn aV aA)
 rw[←e,jV]at cB
 refine⟨?_,?_,λx ao y aT=>?_,λx ao y aT=>?_⟩
 .refine ym ?_ h.pm
  rw[jB,jB,jB]
  refine HA o ?_
  refine ym (œ _ _ _) ?_
  rw[e]
 .rw[jV]
  exact⟨h.oD,cB.1,λx ao y aT=>h.oe x ao y (yt aT)⟩
 .rcases el.mp ao with z|z
  .exact h.od x z y aT
  .exact aK x z y aT
 .rcases el.mp ao with z|z
  .exact h.oe x z y (by rw[←e];exact el.mpr (.inr aT))
  .exact cB.2.2 x z y aT
theorem ib.done(M:iS X aq aA)(h:ib X aq aA o aW aV)(z:aq.length≤aW∨aA.length≤aV):nJ X aq aA (o++aq.drop aW++aA.drop aV):=by
 refine⟨h.pm,?_⟩
 have s1:=M.aO.sublist (yn aW aq)
 have s2:=M.bX.sublist (yn aV aA)
 rcases z with z|z
 .rw[CI z,jS,jV]
  exact⟨h.oD,s2,h.oe⟩
 .rw[CI z,jS,jV]
  exact⟨h.oD,s1,h.od⟩
theorem ib.last(M:iS X aq aA)(h:ib X aq aA o aW aV)(z:aW+1=aq.length):nJ X aq aA (o++aA.drop aV++aq.drop aW):=by
 have s1:=M.aO.sublist (yn aW aq)
 have s2:=M.bX.sublist (yn aV aA)
 refine⟨ym ?_ h.pm,?_⟩
 .rw[jB,jB]
  exact HA o Œ
 .rw[jV,jV]
  refine⟨⟨h.oD,s2,h.oe⟩,s1,λx ao y aT=>?_⟩
  have e:aq.drop aW=[aq[aq.length-1]'(by omega)]:=by
   rw[CH (by omega:aW<aq.length),CI (by omega)]
   have:aW=aq.length-1:=by omega
   subst this
   rfl
  rcases el.mp ao with w|w
  .exact h.od x w y aT
  .rw[e]at aT
   rw[e8.mp aT]
   exact M.lst (by omega) x (List.mem_of_mem_drop w)
theorem oj{l:List Nat}{i:Nat}(h:i<l.length):(l.drop i).take 1=[l[i]]:=by
 rw[CH h]
 rfl
theorem Wo{l:List Nat}{i k x:Nat}(h:x∈(l.drop i).take k):∃j,j<k∧∃aN:i+j<l.length,x=l[i+j]:=by
 obtain⟨j,aN,rfl⟩:=jd h
 rw[gb,sR]at aN
 refine⟨j,by omega,by omega,?_⟩
 rw[sP,yp]
theorem tj{l:List Nat}{i x:Nat}(h:x∈l.drop i):∃j,i≤j∧∃aN:j<l.length,x=l[j]:=by
 obtain⟨j,aN,rfl⟩:=jd h
 rw[sR]at aN
 refine⟨i+j,by omega,by omega,?_⟩
 rw[yp]
theorem B5{l:List Nat}(s:l.Pairwise X.Lt){i j:Nat}(n6:i<j)(aN:j<l.length):X.Lt l[i] l[j]:=sU.mp s i j (by omega) aN n6
theorem Cs{l:List Nat}(s:l.Pairwise X.Lt){x i j:Nat}(aN:j<l.length)(n6:i≤j)(h:X.Lt x (l[i]'(by omega))):X.Lt x l[j]:=by
 by_cases e:i=j
 .subst e;exact h
 .exact X.ok.hg _ _ _ h (B5 s (by omega) aN)
end
theorem Fi{k:Nat}{Q:Unit→SortSt→Prop}{p:Array Nat}{a_:Array (Nat×Nat×Nat)}{g:Nat}(h:Q () (ST X p a_ k)):W X (tW k) Q (ST X p a_ g):=pk h
theorem r1{key:Nat}{l:List Nat}{i:Nat}(aj:i<l.length):kg X false key l i=!X.lt key l[i]:=by
 unfold kg
 rw[aD (by decide),cY,cg aj]
 rfl
theorem r2{key:Nat}{l:List Nat}{i:Nat}(aj:i<l.length):kg X true key l i=X.lt l[i] key:=by
 unfold kg
 rw[aI rfl,cY,cg aj]
 rfl
theorem XY{key:Nat}{l:List Nat}(s:l.Pairwise X.Lt){base m:Nat}(U:base+m≤l.length):∀i j,i<j→j<m→kg X false key l (base+j)=true→kg X false key l (base+i)=true:=λi j n6 aN h=>by
 rw[r1 (by omega)]at h⊢
 cases e:X.lt key (l[base+i]'(by omega))with
 |false=>rfl
 |true=>
  have:X.lt key (l[base+j]'(by omega))=true:=X.ok.hg _ _ _ e (B5 s (by omega) (by omega))
  rw[this]at h
  cases h
theorem XZ{key:Nat}{l:List Nat}(s:l.Pairwise X.Lt){base m:Nat}(U:base+m≤l.length):∀i j,i<j→j<m→kg X true key l (base+j)=true→kg X true key l (base+i)=true:=λi j n6 aN h=>by
 rw[r2 (by omega)]at h⊢
 exact X.ok.hg _ _ _ (B5 s (by omega) (by omega)) h
theorem Rh{α:Type}{c:Prop}[Decidable c]{F:Nat→StateT SortSt Sem α}{Q:α→SortSt→Prop}{st:SortSt}{m n:Nat}(h:∀m,W X (F m) Q st):W X (if c then F m else F n) Q st:=by split<;>exact h _
noncomputable abbrev q3:=Option (Array Keyed)×Array Keyed×Nat×Nat×Nat×Nat×Nat
noncomputable def EH(a b:Array Keyed)(aO bX aa ac cD aW:Nat)(out:Array Keyed)(aV:Nat):StateT SortSt Sem (ForInStep q3):=do
 let x ←fF a aW
 if aW+1+1==aO then pure (.done (some (out.push x++b.extract aV bX++a.extract (aW+1) aO),out.push x,aW+1,aV,aa,ac,cD))
 else if ac<7&&cD<7 then pure (.done (none,out.push x,aW+1,aV,aa,ac,cD))else pure (.yield (none,out.push x,aW+1,aV,aa,ac,cD))
noncomputable def EG(a b:Array Keyed)(aO bX aa ac cD:Nat)(out:Array Keyed)(aW aV:Nat):StateT SortSt Sem (ForInStep q3):=do
 let y ←fF b aV
 if aV+1==bX then pure (.done (some (out.push y++a.extract aW aO++b.extract (aV+1) bX),out.push y,aW,aV+1,aa,ac,cD))
 else do
  let x ←fF a aW
  let r ←mQ true x b (aV+1) (bX-(aV+1)) 0
  match r with
  |some k=>
   if k>0 then
    if aV+1+k==bX then pure (.done (some (out.push y++b.extract (aV+1) (aV+1+k)++a.extract aW aO++b.extract (aV+1+k) bX),out.push y++b.extract (aV+1) (aV+1+k),aW,aV+1+k,aa,ac,k))
    else EH a b aO bX aa ac k aW (out.push y++b.extract (aV+1) (aV+1+k)) (aV+1+k)
   else EH a b aO bX aa ac k aW (out.push y) (aV+1)
  |_=>pure (.done (some (out.push y++a.extract aW aO++b.extract (aV+1) bX),out.push y,aW,aV+1,aa,ac,cD))
noncomputable def AB(a b:Array Keyed)(aO bX:Nat)(out:Array Keyed)(aW aV aa ac cD:Nat):StateT SortSt Sem (ForInStep q3):=do
 tW aa
 let y ←fF b aV
 let r ←mQ false y a aW (aO-aW) 0
 match r with
 |some k=>
  if k>0 then
   if aW+k+1==aO then pure (.done (some (out++a.extract aW (aW+k)++b.extract aV bX++a.extract (aW+k) aO),out++a.extract aW (aW+k),aW+k,aV,aa,k,cD))
   else if aW+k==aO then pure (.done (some (out++a.extract aW (aW+k)++a.extract (aW+k) aO++b.extract aV bX),out++a.extract aW (aW+k),aW+k,aV,aa,k,cD))
   else EG a b aO bX aa k cD (out++a.extract aW (aW+k)) (aW+k) aV
  else EG a b aO bX aa k cD out aW aV
 |_=>pure (.done (some (out++a.extract aW aO++b.extract aV bX),out,aW,aV,aa,ac,cD))
section
variable{aq aA o:List Nat}{Q:ForInStep q3→SortSt→Prop}{st:SortSt}{p:Array Nat}{a_:Array (Nat×Nat×Nat)}{t i n aW aV aa ac cD:Nat}
structure H4(X:Ctx)(aq aA:List Nat)(Q:ForInStep q3→SortSt→Prop)(t:Nat)(st:SortSt):Prop where
 fj:∀r b,nJ X aq aA r→b.1=some (X.arr r)→Q (.done b) st
 b':∀o aW aV aa ac cD,ib X aq aA o aW aV→aW+1<aq.length→aV<aA.length→t≤aW+aV→Q (.done (none,X.arr o,aW,aV,aa,ac,cD)) st∧Q (.yield (none,X.arr o,aW,aV,aa,ac,cD)) st
theorem B6(o:List Nat)(aW aV:Nat):X.arr o++(X.arr aq).extract aW aq.length++(X.arr aA).extract aV aA.length=X.arr (o++aq.drop aW++aA.drop aV):=by
 have av:=wy (X:=X) aq aW
 have ay:=wy (X:=X) aA aV
 rw[wu]at av ay
 rw[av,ay,ji,ji]
theorem R9(l o:List Nat)(i k:Nat):X.arr o++(X.arr l).extract i (i+k)=X.arr (o++(l.drop i).take k):=by
 rw[ki,ji,show i+k-i=k by omega]
theorem R'(M:iS X aq aA){g:Nat}(q:H4 X aq aA Q t (ST X p a_ g))(I:ib X aq aA o i n)(ag:i+1<aq.length)(af:n<aA.length)(cw:t≤i+1+n)(mm:∀y∈aA.drop n,X.Lt (aq[i]'(by omega)) y):W X (EH (X.arr aq) (X.arr aA) aq.length aA.length aa ac cD i (X.arr o) n) Q (ST X p a_ g):=by
 have tx:i<aq.length:=by omega
 unfold EH
 refine cn (iK tx ?_)
 rw[wx]
 have I:=I.sa M 1 (λx ao y aT=>by rw[oj tx]at ao;rw[e8.mp ao];exact mm y aT)
 rw[oj tx]at I
 by_cases lO:(i+1+1==aq.length)=true
 .rw[aI lO]
  exact cc (q.fj _ _ (I.last M (by simpa using lO)) (eK some (B6 _ _ _)))
 rw[aD lO]
 have z:=q.b' _ _ _ aa ac cD I (by simp at lO;omega) af cw
 split
 .exact cc z.1
 .exact cc z.2
theorem R_(M:iS X aq aA){g:Nat}(q:H4 X aq aA Q t (ST X p a_ g))(I:ib X aq aA o i aV)(ag:i+1<aq.length)(af:aV<aA.length)(cw:t≤i+1+(aV+1))(fw:∀y∈aq.drop i,X.Lt aA[aV] y):W X (EG (X.arr aq) (X.arr aA) aq.length aA.length aa ac cD (X.arr o) i aV) Q (ST X p a_ g):=by
 unfold EG
 refine cn (iK af ?_)
 rw[wx]
 have I:=I.sb M 1 (λx ao y aT=>by rw[oj af]at ao;rw[e8.mp ao];exact fw y aT)
 rw[oj af]at I
 by_cases c6:(aV+1==aA.length)=true
 .rw[aI c6]
  exact cc (q.fj _ _ (I.done M (.inr (by simp at c6;omega))) (eK some (B6 _ _ _)))
 rw[aD c6]
 have fC:aV+1<aA.length:=by simp at c6;omega
 have tx:i<aq.length:=by omega
 clear fw c6
 refine cn (iK tx ?_)
 refine cn (wt (left:=true) (key:=aq[i]) (l:=aA) (base:=aV+1) (m:=aA.length-(aV+1)) (hint:=0) (M.na _ (eg tx)) M.nb (by omega) (by omega) (XZ M.bX (by omega)) λk gy e_ l9=>?_)
 dsimp only
 have mm:∀y∈aA.drop (aV+1+k),X.Lt aq[i] y:=λy aT=>by
  obtain⟨j,fI,fJ,rfl⟩:=tj aT
  have:=l9 (j-(aV+1)) (by omega) (by omega)
  rw[show aV+1+(j-(aV+1))=j by omega,r2 fJ]at this
  exact M.r6 (eg tx) (eg fJ) this
 by_cases jE:k>0
 .rw[aI jE,R9]
  have I:=I.sb M k λx ao y aT=>by
   obtain⟨j,fI,fJ,rfl⟩:=Wo ao
   obtain⟨gR,i5,n',rfl⟩:=tj aT
   have:=e_ j fI
   rw[r2 fJ]at this
   exact Cs M.aO n' i5 this
  by_cases hr:(aV+1+k==aA.length)=true
  .rw[aI hr]
   exact cc (q.fj _ _ (I.done M (.inr (by simp at hr;omega))) (eK some (B6 _ _ _)))
  rw[aD hr]
  exact R' M q I ag (by simp at hr;omega) (by omega) mm
 .rw[aD jE]
  obtain rfl:k=0:=by omega
  exact R' M q I ag fC cw mm
theorem UV{g:Nat}(M:iS X aq aA)(q:H4 X aq aA Q t (ST X p a_ aa))(I:ib X aq aA o aW aV)(ag:aW+1<aq.length)(af:aV<aA.length)(cw:t≤aW+1+(aV+1)):W X (AB (X.arr aq) (X.arr aA) aq.length aA.length (X.arr o) aW aV aa ac cD) Q (ST X p a_ g):=by
 unfold AB
 refine cn (Fi ?_)
 refine cn (iK af ?_)
 refine cn (wt (left:=false) (key:=aA[aV]) (l:=aq) (base:=aW) (m:=aq.length-aW) (hint:=0) (M.nb _ (eg af)) M.na (by omega) (by omega) (XY M.aO (by omega)) λk k1 k2 k3=>?_)
 dsimp only
 have fw:∀y∈aq.drop (aW+k),X.Lt aA[aV] y:=λy aT=>by
  obtain⟨j,fI,fJ,rfl⟩:=tj aT
  have:=k3 (j-aW) (by omega) (by omega)
  rw[show aW+(j-aW)=j by omega,r1 fJ]at this
  simpa using this
 by_cases jE:k>0
 .rw[aI jE,R9]
  have I:=I.sa M k λx ao y aT=>by
   obtain⟨j,fI,fJ,rfl⟩:=Wo ao
   obtain⟨gR,i5,n',rfl⟩:=tj aT
   have:=k2 j fI
   rw[r1 fJ]at this
   exact Cs M.bX n' i5 (M.r6 (eg fJ) (eg af) (by simpa using this))
  by_cases c:(aW+k+1==aq.length)=true
  .rw[aI c]
   exact cc (q.fj _ _ (I.last M (by simpa using c)) (eK some (B6 _ _ _)))
  rw[aD c]
  by_cases gq:(aW+k==aq.length)=true
  .rw[aI gq]
   exact cc (q.fj _ _ (I.done M (.inl (by simp at gq;omega))) (eK some (B6 _ _ _)))
  rw[aD gq]
  exact R_ M q I (by simp at c gq;omega) af (by omega) fw
 .rw[aD jE]
  obtain rfl:k=0:=by omega
  exact R_ M q I ag af cw fw
end
section
variable(X:Ctx)(aq aA:List Nat)(p:Array Nat)(a_:Array (Nat×Nat×Nat))(k:Nat)
inductive CM(b:Option (Array Keyed)):Prop where
 |mk (r:List Nat) (b4:b=some (X.arr r)) (bL:nJ X aq aA r)
inductive SW(b:Option (Array Keyed))(aM:SortSt):Prop where
 |mk (g':Nat) (r:List Nat) (Gv:aM=ST X p a_ g') (b4:b=some (X.arr r)) (bL:nJ X aq aA r)
inductive Ŝ(b:Option (Array Keyed)×Array Keyed×Nat×Nat×Nat)(aM:SortSt):Prop where
 |mk (g':Nat) (o:List Nat) (aW aV aa:Nat) (b4:aM=ST X p a_ g') (bL:b=(none,X.arr o,aW,aV,aa)) (cG:ib X aq aA o aW aV) (c2:aW+1<aq.length) (dR:aV<aA.length) (eW:k+1≤aW+aV)
inductive ŝ(g' j:Nat)(b:Option (Array Keyed)×Array Keyed×Nat×Nat×Nat×Nat)(aM:SortSt):Prop where
 |mk (Gv:aM=ST X p a_ g') (o:List Nat) (aW aV ac cD:Nat) (bL:b=(none,X.arr o,aW,aV,ac,cD)) (cG:ib X aq aA o aW aV) (c2:aW+1<aq.length) (dR:aV<aA.length) (eW:k+1+j≤aW+aV)
inductive afl(b:Option (Array Keyed)×Array Keyed×Nat×Nat×Nat×Nat):Prop where
 |mk (o:List Nat) (aW aV ac cD:Nat) (bL:b=(none,X.arr o,aW,aV,ac,cD)) (cG:ib X aq aA o aW aV) (c2:aW+1<aq.length) (dR:aV<aA.length) (eW:k+2≤aW+aV)
inductive Ş(j:Nat)(b:q3)(aM:SortSt):Prop where
 |mk (g':Nat) (o:List Nat) (aW aV aa ac cD:Nat) (b4:aM=ST X p a_ g') (bL:b=(none,X.arr o,aW,aV,aa,ac,cD)) (cG:ib X aq aA o aW aV) (c2:aW+1<aq.length) (dR:aV<aA.length) (eW:k+2+j≤aW+aV)
inductive afm(b:q3):Prop where
 |mk (o:List Nat) (aW aV aa ac cD:Nat) (bL:b=(none,X.arr o,aW,aV,aa,ac,cD)) (cG:ib X aq aA o aW aV) (c2:aW+1<aq.length) (dR:aV<aA.length) (eW:k+2≤aW+aV)
inductive afn(b:q3)(aM:SortSt):Prop where
 |mk (g':Nat) (Gv:aM=ST X p a_ g') (b4:CM X aq aA b.1∨afm X aq aA k b)
end
theorem Ã{aq aA:List Nat}{Q:Array Keyed→SortSt→Prop}{p:Array Nat}{a_:Array (Nat×Nat×Nat)}{g:Nat}(M:iS X aq aA)(aH:0<aq.length)(U:0<aA.length)(h:∀r g',nJ X aq aA r→Q (X.arr r) (ST X p a_ g')):W X (Oh (X.arr aq) (X.arr aA)) Q (ST X p a_ g):=by
 rw[amQ]
 refine cn (w' ?_)
 dsimp only
 refine cn (iK U ?_)
 have cF:(#[X.item aA[0]]:Array Keyed)=X.arr [aA[0]]:=rfl
 rw[cF]
 have sI:ib X aq aA [aA[0]] 0 1:=by
  have z:ib X aq aA [] 0 0:=⟨Ķ _,Rt,λx ao=>bB ao eB,λx ao=>bB ao eB⟩
  have:=z.sb M 1 λx ao y aT=>by
   rw[oj U]at ao
   rw[e8.mp ao]
   exact M.fst U y aT
  rw[oj U]at this
  exact this
 have fj:∀o aW aV,X.arr o++(X.arr aq).extract aW aq.length++(X.arr aA).extract aV aA.length=X.arr (o++aq.drop aW++aA.drop aV):=λo aW aV=>by
  have av:=wy (X:=X) aq aW
  have ay:=wy (X:=X) aA aV
  rw[wu]at av ay
  rw[av,ay,ji,ji]
 have ls:∀o aW aV,X.arr o++(X.arr aA).extract aV aA.length++(X.arr aq).extract aW aq.length=X.arr (o++aA.drop aV++aq.drop aW):=λo aW aV=>by
  have av:=wy (X:=X) aq aW
  have ay:=wy (X:=X) aA aV
  rw[wu]at av ay
  rw[av,ay,ji,ji]
 have alB:∀o i k,X.arr o++(X.arr aq).extract i (i+k)=X.arr (o++(aq.drop i).take k):=λo i k=>by
  rw[ki,ji,show i+k-i=k by omega]
 have alC:∀o i k,X.arr o++(X.arr aA).extract i (i+k)=X.arr (o++(aA.drop i).take k):=λo i k=>by
  rw[ki,ji,show i+k-i=k by omega]
 simp only[wu]
 by_cases e1:(1==aA.length)=true
 .rw[aI e1,fj]
  exact cc (h _ _ (sI.done M (.inr (by simp at e1;omega))))
 rw[aD e1]
 by_cases c6:(0+1==aq.length)=true
 .rw[aI c6,ls]
  exact cc (h _ _ (sI.last M (by simpa using c6)))
 rw[aD c6]
 have gy:1<aA.length:=by simp at e1;omega
 have e_:0+1<aq.length:=by simp at c6;omega
 refine cn (m9 ?_)
 refine ko (Post:=λb aM=>SW X aq aA p a_ b.1 aM)
  (λk b aM=>Ŝ X aq aA p a_ k b aM)
  ⟨g,[aA[0]],0,1,_,rfl,rfl,sI,e_,gy,by omega⟩ ?_ ?_ ?_
 .rintro k b aM aK ⟨g',o,aW,aV,aa,rfl,rfl,I,ag,af,aU⟩
  try dsimp only
  refine ko (Post:=λb aM=>aM=ST X p a_ g'∧(CM X aq aA b.1∨afl X aq aA k b))
   (λj b aM=>ŝ X aq aA p a_ k g' j b aM) ⟨rfl,o,aW,aV,0,0,rfl,I,ag,af,by omega⟩ ?_ ?_ ?_
  .rintro j b aM aN ⟨rfl,o,aW,aV,ac,cD,rfl,I,ag,af,aU⟩
   try dsimp only
   have mT:aW<aq.length:=by omega
   refine cn (iK af (cn (iK mT (cn (yk (M.nb _ (eg af)) (M.na _ (eg mT)) ?_)))))
   try dsimp only
   cases e:X.lt aA[aV] aq[aW]with
   |true=>
    rw[aI rfl]
    refine cn (iK af ?_)
    try dsimp only
    rw[wx]
    have I:=I.sb M 1 (λx ao y aT=>by
     rw[oj af]at ao
     rw[e8.mp ao]
     obtain⟨gR,i5,n',rfl⟩:=tj aT
     exact Cs M.aO n' i5 e)
    rw[oj af]at I
    by_cases c:(aV+1==aA.length)=true
    .rw[aI c]
     exact cc ⟨rfl,.inl ⟨_,eK some (fj _ _ _),I.done M (.inr (by simp at c;omega))⟩⟩
    rw[aD c]
    have fC:aV+1<aA.length:=by simp at c;omega
    split
    .exact cc ⟨rfl,.inr ⟨_,_,_,_,_,rfl,I,ag,fC,by omega⟩⟩
    .exact cc ⟨rfl,_,_,_,_,_,rfl,I,ag,fC,by omega⟩
   |false=>
    rw[aD (by decide)]
    refine cn (iK mT ?_)
    try dsimp only
    rw[wx]
    have I:=I.sa M 1 (λx ao y aT=>by
     rw[oj mT]at ao
     rw[e8.mp ao]
     obtain⟨gR,i5,n',rfl⟩:=tj aT
     exact Cs M.bX n' i5 (M.r6 (eg mT) (eg af) e))
    rw[oj mT]at I
    by_cases c:(aW+1+1==aq.length)=true
    .rw[aI c]
     exact cc ⟨rfl,.inl ⟨_,eK some (ls _ _ _),I.last M (by simpa using c)⟩⟩
    rw[aD c]
    have jo:aW+1+1<aq.length:=by simp at c;omega
    split
    .exact cc ⟨rfl,.inr ⟨_,_,_,_,_,rfl,I,jo,af,by omega⟩⟩
    .exact cc ⟨rfl,_,_,_,_,_,rfl,I,jo,af,by omega⟩
  .rintro b aM ⟨rfl,o,aW,aV,ac,cD,rfl,I,ag,af,aU⟩
   omega
  .rintro b aM ⟨rfl,z⟩
   rcases z with⟨r,e,eR⟩|⟨o,aW,aV,ac,cD,rfl,I,ag,af,aU⟩
   .obtain⟨d6,dC⟩:=b
    dsimp only at e
    subst e
    exact cc ⟨g',r,rfl,rfl,eR⟩
   try dsimp only
   refine cn (w' ?_)
   refine ko (Post:=λb aM=>afn X aq aA p a_ k b aM)
    (λj b aM=>Ş X aq aA p a_ k j b aM) ⟨g',o,aW,aV,_,_,_,rfl,rfl,I,ag,af,by omega⟩ ?_ ?_ ?_
   .rintro j b aM aN ⟨g',o,aW,aV,aa,ac,cD,rfl,rfl,I,ag,af,aU⟩
    try dsimp only
    show W X (if aa>1 then AB (X.arr aq) (X.arr aA) aq.length aA.length (X.arr o) aW aV (aa-1) ac cD else AB (X.arr aq) (X.arr aA) aq.length aA.length (X.arr o) aW aV aa ac cD) _ _
    refine Rh (F:=λm=>AB (X.arr aq) (X.arr aA) aq.length aA.length (X.arr o) aW aV m ac cD) λm=>?_
    refine UV (t:=k+2+(j+1)) M ⟨λr b eR e=>?_,λo aW aV aa ac cD I a b c=>⟨?_,?_⟩⟩ I ag af (by omega)
    .exact⟨_,rfl,.inl ⟨r,e,eR⟩⟩
    .exact⟨_,rfl,.inr ⟨_,_,_,_,_,_,rfl,I,a,b,by omega⟩⟩
    .exact⟨_,_,_,_,_,_,_,rfl,rfl,I,a,b,c⟩
   .rintro b aM ⟨g',o,aW,aV,aa,ac,cD,rfl,rfl,I,ag,af,aU⟩
    omega
   .rintro b aM ⟨g',rfl,z⟩
    rcases z with⟨r,e,eR⟩|⟨o,aW,aV,aa,ac,cD,rfl,I,ag,af,aU⟩
    .obtain⟨d6,dC⟩:=b
     dsimp only at e
     subst e
     exact cc ⟨g',r,rfl,rfl,eR⟩
    try dsimp only
    exact cn (Fi (cc ⟨_,_,_,_,_,rfl,rfl,I,ag,af,by omega⟩))
 .rintro b aM ⟨g',o,aW,aV,aa,rfl,rfl,I,ag,af,aU⟩
  omega
 .rintro b aM ⟨g',r,rfl,e,eR⟩
  obtain⟨d6,dC⟩:=b
  dsimp only at e
  subst e
  exact cc (h r g' eR)
open PySem PySem.Spec PyProof.Rows cA PySem.W
variable{X:Ctx}
structure ia(X:Ctx)(aq aA q:List Nat)(na nb:Nat):Prop where
 pm:(aq.take na++aA.take nb++q).Perm (aq++aA)
 oD:q.Pairwise X.Lt
 od:∀y∈aq.take na,∀x∈q,X.Lt y x
 oe:∀y∈aA.take nb,∀x∈q,X.Lt y x
section
variable{aq aA q:List Nat}{na nb:Nat}
theorem Za{l:List Nat}{n k:Nat}(h:k≤n):l.take k++(l.take n).drop k=l.take n:=by
 have:=p1 k (l.take n)
 rw[List.take_take,RR h]at this
 exact this
theorem ia.sa(M:iS X aq aA)(h:ia X aq aA q na nb){k:Nat}(aK:k≤na)(ao:∀x∈(aq.take na).drop k,∀y∈aA.take nb,X.Lt y x):ia X aq aA ((aq.take na).drop k++q) k nb:=by
 have e:=Za (l:=aq) aK
 have cB:=M.aO.sublist (oX na aq)
 rw[←e,jV]at cB
 refine⟨?_,?_,λy aT x ei=>?_,λy aT x ei=>?_⟩
 .refine ym ?_ h.pm
  rw[←e,jB,jB,jB]
  rw[e]
  exact HA _ (œ _ _ _)
 .rw[jV]
  exact⟨cB.2.1,h.oD,λx ei y aT=>h.od x (by rw[←e];exact el.mpr (.inr ei)) y aT⟩
 .rcases el.mp ei with z|z
  .exact cB.2.2 y aT x z
  .exact h.od y (by rw[←e];exact el.mpr (.inl aT)) x z
 .rcases el.mp ei with z|z
  .exact ao x z y aT
  .exact h.oe y aT x z
theorem ia.sb(M:iS X aq aA)(h:ia X aq aA q na nb){k:Nat}(aK:k≤nb)(ao:∀x∈(aA.take nb).drop k,∀y∈aq.take na,X.Lt y x):ia X aq aA ((aA.take nb).drop k++q) na k:=by
 have e:=Za (l:=aA) aK
 have cB:=M.bX.sublist (oX nb aA)
 rw[←e,jV]at cB
 refine⟨?_,?_,λy aT x ei=>?_,λy aT x ei=>?_⟩
 .have ay:aq.take na++aA.take k++((aA.take nb).drop k++q)=aq.take na++aA.take nb++q:=by
   rw[jB,←jB (aA.take k),e,jB]
  rw[ay]
  exact h.pm
 .rw[jV]
  exact⟨cB.2.1,h.oD,λx ei y aT=>h.oe x (by rw[←e];exact el.mpr (.inr ei)) y aT⟩
 .rcases el.mp ei with z|z
  .exact ao x z y aT
  .exact h.od y aT x z
 .rcases el.mp ei with z|z
  .exact cB.2.2 y aT x z
  .exact h.oe y (by rw[←e];exact el.mpr (.inl aT)) x z
theorem ia.done(M:iS X aq aA)(h:ia X aq aA q na nb)(z:na=0∨nb=0):nJ X aq aA (aq.take na++aA.take nb++q):=by
 refine⟨h.pm,?_⟩
 have s1:=M.aO.sublist (oX na aq)
 have s2:=M.bX.sublist (oX nb aA)
 rcases z with z|z
 .subst z
  rw[CL,RJ,jV]
  exact⟨s2,h.oD,h.oe⟩
 .subst z
  rw[CL,jS,jV]
  exact⟨s1,h.oD,h.od⟩
theorem ia.DW(M:iS X aq aA)(h:ia X aq aA q na nb)(z:nb=1)(U:0<aA.length):nJ X aq aA (aA.take nb++aq.take na++q):=by
 have s1:=M.aO.sublist (oX na aq)
 have s2:=M.bX.sublist (oX nb aA)
 refine⟨ym ?_ h.pm,?_⟩
 .exact Ĵ q Œ
 .rw[jV,jV]
  refine⟨⟨s2,s1,λx ao y aT=>?_⟩,h.oD,λx ao y aT=>?_⟩
  .have e:aA.take nb=[aA[0]]:=by
    subst z
    have:=oj (l:=aA) (i:=0) U
    rw[sO]at this
    exact this
   rw[e]at ao
   rw[e8.mp ao]
   exact M.fst U y (yt aT)
  .rcases el.mp ao with w|w
   .exact h.oe x w y aT
   .exact h.od x w y aT
theorem pK{l:List Nat}{n:Nat}(h0:0<n)(h:n≤l.length):(l.take n).drop (n-1)=[l[n-1]'(by omega)]:=by
 rw[CH (by rw[gb];omega),CI (by rw[gb];omega),sP]
theorem Wq{l:List Nat}{n k x:Nat}(h:x∈(l.take n).drop k):∃j,k≤j∧j<n∧∃aN:j<l.length,x=l[j]:=by
 obtain⟨j,fI,fJ,rfl⟩:=tj h
 rw[gb]at fJ
 exact⟨j,fI,by omega,by omega,by rw[sP]⟩
theorem vY{l:List Nat}{n x:Nat}(h:x∈l.take n):∃j,j<n∧∃aN:j<l.length,x=l[j]:=by
 obtain⟨j,aN,rfl⟩:=jd h
 rw[gb]at aN
 exact⟨j,by omega,by omega,by rw[sP]⟩
theorem Ct{l:List Nat}(s:l.Pairwise X.Lt){x i j:Nat}(aN:j<l.length)(n6:i≤j)(h:X.Lt l[j] x):X.Lt (l[i]'(by omega)) x:=by
 by_cases e:i=j
 .subst e;exact h
 .exact X.ok.hg _ _ _ (B5 s (by omega) aN) h
end
noncomputable abbrev q1:=Option (Array Keyed)×Nat×Nat×Array Keyed×Nat×Nat×Nat
noncomputable def Ef(a b:Array Keyed)(aa ac cD na:Nat)(out:Array Keyed)(nb:Nat):StateT SortSt Sem (ForInStep q1):=do
 let x ←fF a (na-1)
 if na-1==0 then pure (.done (some (a.extract 0 (na-1)++b.extract 0 nb++(out.push x).reverse),na-1,nb,out.push x,aa,ac,cD))
 else if ac<7&&cD<7 then pure (.done (none,na-1,nb,out.push x,aa,ac,cD))else pure (.yield (none,na-1,nb,out.push x,aa,ac,cD))
noncomputable def Ee(a b:Array Keyed)(aa ac cD na:Nat)(out:Array Keyed)(nb:Nat):StateT SortSt Sem (ForInStep q1):=do
 let y ←fF b (nb-1)
 if nb-1==1 then pure (.done (some (b.extract 0 (nb-1)++a.extract 0 na++(out.push y).reverse),na,nb-1,out.push y,aa,ac,cD))
 else do
  let x ←fF a (na-1)
  let r ←mQ true x b 0 (nb-1) (nb-1-1)
  match r with
  |some k=>
   if nb-1-k>0 then
    if k==1 then pure (.done (some (b.extract 0 k++a.extract 0 na++(out.push y++(b.extract k (nb-1)).reverse).reverse),na,k,out.push y++(b.extract k (nb-1)).reverse,aa,ac,nb-1-k))
    else if k==0 then pure (.done (some (a.extract 0 na++b.extract 0 k++(out.push y++(b.extract k (nb-1)).reverse).reverse),na,k,out.push y++(b.extract k (nb-1)).reverse,aa,ac,nb-1-k))
    else Ef a b aa ac (nb-1-k) na (out.push y++(b.extract k (nb-1)).reverse) k
   else Ef a b aa ac (nb-1-k) na (out.push y) (nb-1)
  |_=>pure (.done (some (a.extract 0 na++b.extract 0 (nb-1)++(out.push y).reverse),na,nb-1,out.push y,aa,ac,cD))
noncomputable def z3(a b:Array Keyed)(na nb:Nat)(out:Array Keyed)(aa ac cD:Nat):StateT SortSt Sem (ForInStep q1):=do
 tW aa
 let y ←fF b (nb-1)
 let r ←mQ false y a 0 na (na-1)
 match r with
 |some k=>
  if na-k>0 then
   if k==0 then pure (.done (some (a.extract 0 k++b.extract 0 nb++(out++(a.extract k na).reverse).reverse),k,nb,out++(a.extract k na).reverse,aa,na-k,cD))
   else Ee a b aa (na-k) cD k (out++(a.extract k na).reverse) nb
  else Ee a b aa (na-k) cD na out nb
 |_=>pure (.done (some (a.extract 0 na++b.extract 0 nb++out.reverse),na,nb,out,aa,ac,cD))
section
variable{aq aA q:List Nat}{Q:ForInStep q1→SortSt→Prop}{p:Array Nat}{a_:Array (Nat×Nat×Nat)}{t na nb aa ac cD g:Nat}
structure H3(X:Ctx)(aq aA:List Nat)(Q:ForInStep q1→SortSt→Prop)(t:Nat)(st:SortSt):Prop where
 fj:∀r b,nJ X aq aA r→b.1=some (X.arr r)→Q (.done b) st
 b':∀q na nb aa ac cD,ia X aq aA q na nb→0<na→1<nb→na≤aq.length→nb≤aA.length→na+nb+t≤aq.length+aA.length→Q (.done (none,na,nb,X.arr q.reverse,aa,ac,cD)) st∧Q (.yield (none,na,nb,X.arr q.reverse,aa,ac,cD)) st
theorem B8(q:List Nat)(na nb:Nat):(X.arr aq).extract 0 na++(X.arr aA).extract 0 nb++(X.arr q.reverse).reverse=X.arr (aq.take na++aA.take nb++q):=by
 rw[ki,ki,wO,ji,ji,RN,sO,sO,vl,vl]
theorem Sa(l q:List Nat)(k n:Nat):X.arr q.reverse++((X.arr l).extract k n).reverse=X.arr ((l.take n).drop k++q).reverse:=by
 rw[ki,wO,ji,RM,Rw]
theorem Rj(q:List Nat)(x:Nat):(X.arr q.reverse).push (X.item x)=X.arr (x::q).reverse:=by
 rw[wx,ŗ]
theorem Sb(M:iS X aq aA)(nj:H3 X aq aA Q t (ST X p a_ g))(I:ia X aq aA q na nb)(ag:0<na)(af:1<nb)(bP:na≤aq.length)(cZ:nb≤aA.length)(cw:na-1+nb+t≤aq.length+aA.length)(mm:∀y∈aA.take nb,X.Lt y (aq[na-1]'(by omega))):W X (Ef (X.arr aq) (X.arr aA) aa ac cD na (X.arr q.reverse) nb) Q (ST X p a_ g):=by
 have v7:na-1<aq.length:=by omega
 unfold Ef
 refine cn (iK v7 ?_)
 rw[Rj]
 have I:=I.sa M (k:=na-1) (by omega) (λx ao y aT=>by rw[pK (by omega) (by omega)]at ao;rw[e8.mp ao];exact mm y aT)
 rw[pK (by omega) (by omega)]at I
 by_cases lO:(na-1==0)=true
 .rw[aI lO]
  exact cc (nj.fj _ _ (I.done M (.inl (by simpa using lO))) (eK some (B8 _ _ _)))
 rw[aD lO]
 have z:=nj.b' _ _ _ aa ac cD I (by simp at lO;omega) af (by omega) cZ cw
 split
 .exact cc z.1
 .exact cc z.2
theorem Sd(M:iS X aq aA)(U:0<aA.length)(nj:H3 X aq aA Q t (ST X p a_ g))(I:ia X aq aA q na nb)(ag:0<na)(af:1<nb)(bP:na≤aq.length)(cZ:nb≤aA.length)(cw:na-1+(nb-1)+t≤aq.length+aA.length)(fw:∀y∈aq.take na,X.Lt y (aA[nb-1]'(by omega))):W X (Ee (X.arr aq) (X.arr aA) aa ac cD na (X.arr q.reverse) nb) Q (ST X p a_ g):=by
 have zL:nb-1<aA.length:=by omega
 have v7:na-1<aq.length:=by omega
 unfold Ee
 refine cn (iK zL ?_)
 rw[Rj]
 have I:=I.sb M (k:=nb-1) (by omega) (λx ao y aT=>by rw[pK (by omega) (by omega)]at ao;rw[e8.mp ao];exact fw y aT)
 rw[pK (by omega) (by omega)]at I
 by_cases c6:(nb-1==1)=true
 .rw[aI c6]
  exact cc (nj.fj _ _ (I.DW M (by simpa using c6) U) (eK some (B8 _ _ _)))
 rw[aD c6]
 have fC:1<nb-1:=by simp at c6;omega
 clear fw c6
 refine cn (iK v7 ?_)
 refine cn (wt (left:=true) (key:=aq[na-1]) (l:=aA) (base:=0) (m:=nb-1) (hint:=nb-1-1) (M.na _ (eg v7)) M.nb (by omega) (by omega) (XZ M.bX (by omega)) λk gy e_ l9=>?_)
 dsimp only
 have mm:∀y∈aA.take k,X.Lt y aq[na-1]:=λy aT=>by
  obtain⟨j,fI,fJ,rfl⟩:=vY aT
  have:=e_ j fI
  rw[yz,r2 fJ]at this
  exact this
 by_cases jE:nb-1-k>0
 .rw[aI jE,Sa]
  have I:=I.sb M (k:=k) (by omega) λx ao y aT=>by
   obtain⟨j,fI,fJ,i5,rfl⟩:=Wq ao
   obtain⟨gR,n',VW,rfl⟩:=vY aT
   have:=l9 j fI fJ
   rw[yz,r2 i5]at this
   exact Ct M.aO v7 (by omega) (M.r6 (eg v7) (eg i5) this)
  by_cases hr:(k==1)=true
  .rw[aI hr]
   exact cc (nj.fj _ _ (I.DW M (by simpa using hr) U) (eK some (B8 _ _ _)))
  rw[aD hr]
  by_cases C_:(k==0)=true
  .rw[aI C_]
   exact cc (nj.fj _ _ (I.done M (.inr (by simpa using C_))) (eK some (B8 _ _ _)))
  rw[aD C_]
  exact Sb M nj I ag (by simp at hr C_;omega) bP (by omega) (by omega) mm
 .rw[aD jE]
  obtain rfl:k=nb-1:=by omega
  exact Sb M nj I ag fC bP (by omega) cw mm
theorem adA(M:iS X aq aA)(U:0<aA.length)(nj:H3 X aq aA Q t (ST X p a_ aa))(I:ia X aq aA q na nb)(ag:0<na)(af:1<nb)(bP:na≤aq.length)(cZ:nb≤aA.length)(cw:na-1+(nb-1)+t≤aq.length+aA.length):W X (z3 (X.arr aq) (X.arr aA) na nb (X.arr q.reverse) aa ac cD) Q (ST X p a_ g):=by
 have DZ:nb-1<aA.length:=by omega
 unfold z3
 refine cn (Fi ?_)
 refine cn (iK DZ ?_)
 refine cn (wt (left:=false) (key:=aA[nb-1]) (l:=aq) (base:=0) (m:=na) (hint:=na-1) (M.nb _ (eg DZ)) M.na (by omega) (by omega) (XY M.aO (by omega)) λk k1 k2 k3=>?_)
 dsimp only
 have fw:∀y∈aq.take k,X.Lt y aA[nb-1]:=λy aT=>by
  obtain⟨j,fI,fJ,rfl⟩:=vY aT
  have:=k2 j fI
  rw[yz,r1 fJ]at this
  exact M.r6 (eg fJ) (eg DZ) (by simpa using this)
 by_cases jE:na-k>0
 .rw[aI jE,Sa]
  have I:=I.sa M (k:=k) k1 λx ao y aT=>by
   obtain⟨j,fI,fJ,i5,rfl⟩:=Wq ao
   obtain⟨gR,n',VW,rfl⟩:=vY aT
   have:=k3 j fI fJ
   rw[yz,r1 i5]at this
   exact Ct M.bX DZ (by omega) (by simpa using this)
  by_cases gq:(k==0)=true
  .rw[aI gq]
   exact cc (nj.fj _ _ (I.done M (.inl (by simpa using gq))) (eK some (B8 _ _ _)))
  rw[aD gq]
  exact Sd M U nj I (by simp at gq;omega) af (by omega) cZ (by omega) fw
 .rw[aD jE]
  obtain rfl:k=na:=by omega
  exact Sd M U nj I ag af bP cZ cw fw
end
section
variable(X:Ctx)(aq aA:List Nat)(p:Array Nat)(a_:Array (Nat×Nat×Nat))(k:Nat)
inductive Û(b:Option (Array Keyed)×Nat×Nat×Array Keyed×Nat)(aM:SortSt):Prop where
 |mk (g':Nat) (q:List Nat) (na nb aa:Nat) (b4:aM=ST X p a_ g') (bL:b=(none,na,nb,X.arr q.reverse,aa)) (cG:ia X aq aA q na nb) (c2:0<na) (dR:1<nb) (eW:na≤aq.length) (h8:nb≤aA.length) (jz:na+nb+k+1≤aq.length+aA.length)
inductive Ü(g' j:Nat)(b:Option (Array Keyed)×Nat×Nat×Array Keyed×Nat×Nat)(aM:SortSt):Prop where
 |mk (Gv:aM=ST X p a_ g') (q:List Nat) (na nb ac cD:Nat) (bL:b=(none,na,nb,X.arr q.reverse,ac,cD)) (cG:ia X aq aA q na nb) (c2:0<na) (dR:1<nb) (eW:na≤aq.length) (h8:nb≤aA.length) (jz:na+nb+k+1+j≤aq.length+aA.length)
inductive afo(b:Option (Array Keyed)×Nat×Nat×Array Keyed×Nat×Nat):Prop where
 |mk (q:List Nat) (na nb ac cD:Nat) (bL:b=(none,na,nb,X.arr q.reverse,ac,cD)) (cG:ia X aq aA q na nb) (c2:0<na) (dR:1<nb) (eW:na≤aq.length) (h8:nb≤aA.length) (jz:na+nb+k+2≤aq.length+aA.length)
inductive Ý(j:Nat)(b:q1)(aM:SortSt):Prop where
 |mk (g':Nat) (q:List Nat) (na nb aa ac cD:Nat) (b4:aM=ST X p a_ g') (bL:b=(none,na,nb,X.arr q.reverse,aa,ac,cD)) (cG:ia X aq aA q na nb) (c2:0<na) (dR:1<nb) (eW:na≤aq.length) (h8:nb≤aA.length) (jz:na+nb+k+2+j≤aq.length+aA.length)
inductive afp(b:q1):Prop where
 |mk (q:List Nat) (na nb aa ac cD:Nat) (bL:b=(none,na,nb,X.arr q.reverse,aa,ac,cD)) (cG:ia X aq aA q na nb) (c2:0<na) (dR:1<nb) (eW:na≤aq.length) (h8:nb≤aA.length) (jz:na+nb+k+2≤aq.length+aA.length)
inductive afq(b:q1)(aM:SortSt):Prop where
 |mk (g':Nat) (Gv:aM=ST X p a_ g') (b4:CM X aq aA b.1∨afp X aq aA k b)
end
theorem Ä{aq aA:List Nat}{Q:Array Keyed→SortSt→Prop}{p:Array Nat}{a_:Array (Nat×Nat×Nat)}{g:Nat}(M:iS X aq aA)(aH:0<aq.length)(U:0<aA.length)(h:∀r g',nJ X aq aA r→Q (X.arr r) (ST X p a_ g')):W X (Oy (X.arr aq) (X.arr aA)) Q (ST X p a_ g):=by
 rw[amR]
 refine cn (w' ?_)
 try dsimp only
 simp only[wu]
 refine cn (iK (show aq.length-1<aq.length by omega) ?_)
 have cF:(#[X.item aq[aq.length-1]]:Array Keyed)=X.arr [aq[aq.length-1]].reverse:=rfl
 rw[cF]
 have sI:ia X aq aA [aq[aq.length-1]] (aq.length-1) aA.length:=by
  have z:ia X aq aA [] aq.length aA.length:=⟨by rw[ka,ka,jS],Rt,λy _ x ao=>bB ao eB,λy _ x ao=>bB ao eB⟩
  have:=z.sa M (k:=aq.length-1) (by omega) λx ao y aT=>by
   rw[pK aH (b1 _)]at ao
   rw[e8.mp ao]
   exact M.lst (by omega) y (yt aT)
  rw[pK aH (b1 _)]at this
  exact this
 have fj:∀q na nb,(X.arr aq).extract 0 na++(X.arr aA).extract 0 nb++(X.arr q.reverse).reverse=X.arr (aq.take na++aA.take nb++q):=λq na nb=>by
  rw[ki,ki,wO,ji,ji,RN,sO,sO,vl,vl]
 have TR:∀q na nb,(X.arr aA).extract 0 nb++(X.arr aq).extract 0 na++(X.arr q.reverse).reverse=X.arr (aA.take nb++aq.take na++q):=λq na nb=>by
  rw[ki,ki,wO,ji,ji,RN,sO,sO,vl,vl]
 have alB:∀q k n,X.arr q.reverse++((X.arr aq).extract k n).reverse=X.arr ((aq.take n).drop k++q).reverse:=λq k n=>by
  rw[ki,wO,ji,RM,Rw]
 have alC:∀q k n,X.arr q.reverse++((X.arr aA).extract k n).reverse=X.arr ((aA.take n).drop k++q).reverse:=λq k n=>by
  rw[ki,wO,ji,RM,Rw]
 have WY:∀(q:List Nat)(x:Nat),(X.arr q.reverse).push (X.item x)=X.arr (x::q).reverse:=λq x=>by
  rw[wx,ŗ]
 by_cases e1:(aq.length-1==0)=true
 .rw[aI e1,fj]
  exact cc (h _ _ (sI.done M (.inl (by simpa using e1))))
 rw[aD e1]
 by_cases c6:(aA.length==1)=true
 .rw[aI c6,TR]
  exact cc (h _ _ (sI.DW M (by simpa using c6) U))
 rw[aD c6]
 have gy:0<aq.length-1:=by simp at e1;omega
 have e_:1<aA.length:=by simp at c6;omega
 refine cn (m9 ?_)
 refine ko (Post:=λb aM=>SW X aq aA p a_ b.1 aM)
  (λk b aM=>Û X aq aA p a_ k b aM)
  ⟨g,[aq[aq.length-1]],aq.length-1,aA.length,_,rfl,rfl,sI,gy,e_,by omega,by omega,by omega⟩ ?_ ?_ ?_
 .rintro k b aM aK ⟨g',q,na,nb,aa,rfl,rfl,I,ag,af,bP,cZ,aU⟩
  try dsimp only
  refine ko (Post:=λb aM=>aM=ST X p a_ g'∧(CM X aq aA b.1∨afo X aq aA k b))
   (λj b aM=>Ü X aq aA p a_ k g' j b aM) ⟨rfl,q,na,nb,0,0,rfl,I,ag,af,bP,cZ,by omega⟩ ?_ ?_ ?_
  .rintro j b aM aN ⟨rfl,q,na,nb,ac,cD,rfl,I,ag,af,bP,cZ,aU⟩
   try dsimp only
   have mT:na-1<aq.length:=by omega
   have z4:nb-1<aA.length:=by omega
   refine cn (iK z4 (cn (iK mT (cn (yk (M.nb _ (eg z4)) (M.na _ (eg mT)) ?_)))))
   try dsimp only
   cases e:X.lt aA[nb-1] aq[na-1]with
   |true=>
    rw[aI rfl]
    refine cn (iK mT ?_)
    try dsimp only
    rw[WY]
    have I:=I.sa M (k:=na-1) (by omega) (λx ao y aT=>by
     rw[pK (by omega) (by omega)]at ao
     rw[e8.mp ao]
     obtain⟨gR,i5,n',rfl⟩:=vY aT
     exact Ct M.bX z4 (by omega) e)
    rw[pK (by omega) (by omega)]at I
    by_cases c:(na-1==0)=true
    .rw[aI c]
     exact cc ⟨rfl,.inl ⟨_,eK some (fj _ _ _),I.done M (.inl (by simpa using c))⟩⟩
    rw[aD c]
    have jo:0<na-1:=by simp at c;omega
    split
    .exact cc ⟨rfl,.inr ⟨_,_,_,_,_,rfl,I,jo,af,by omega,by omega,by omega⟩⟩
    .exact cc ⟨rfl,_,_,_,_,_,rfl,I,jo,af,by omega,by omega,by omega⟩
   |false=>
    rw[aD (by decide)]
    refine cn (iK z4 ?_)
    try dsimp only
    rw[WY]
    have I:=I.sb M (k:=nb-1) (by omega) (λx ao y aT=>by
     rw[pK (by omega) (by omega)]at ao
     rw[e8.mp ao]
     obtain⟨gR,i5,n',rfl⟩:=vY aT
     exact Ct M.aO mT (by omega) (M.r6 (eg mT) (eg z4) e))
    rw[pK (by omega) (by omega)]at I
    by_cases c:(nb-1==1)=true
    .rw[aI c]
     exact cc ⟨rfl,.inl ⟨_,eK some (TR _ _ _),I.DW M (by simpa using c) U⟩⟩
    rw[aD c]
    have fC:1<nb-1:=by simp at c;omega
    split
    .exact cc ⟨rfl,.inr ⟨_,_,_,_,_,rfl,I,ag,fC,by omega,by omega,by omega⟩⟩
    .exact cc ⟨rfl,_,_,_,_,_,rfl,I,ag,fC,by omega,by omega,by omega⟩
  .rintro b aM ⟨rfl,q,na,nb,ac,cD,rfl,I,ag,af,bP,cZ,aU⟩
   omega
  .rintro b aM ⟨rfl,z⟩
   rcases z with⟨r,e,eR⟩|⟨q,na,nb,ac,cD,rfl,I,ag,af,bP,cZ,aU⟩
   .obtain⟨d6,dC⟩:=b
    dsimp only at e
    subst e
    exact cc ⟨g',r,rfl,rfl,eR⟩
   try dsimp only
   refine cn (w' ?_)
   refine ko (Post:=λb aM=>afq X aq aA p a_ k b aM)
    (λj b aM=>Ý X aq aA p a_ k j b aM) ⟨g',q,na,nb,_,_,_,rfl,rfl,I,ag,af,bP,cZ,by omega⟩ ?_ ?_ ?_
   .rintro j b aM aN ⟨g',q,na,nb,aa,ac,cD,rfl,rfl,I,ag,af,bP,cZ,aU⟩
    try dsimp only
    show W X (if aa>1 then z3 (X.arr aq) (X.arr aA) na nb (X.arr q.reverse) (aa-1) ac cD else z3 (X.arr aq) (X.arr aA) na nb (X.arr q.reverse) aa ac cD) _ _
    refine Rh (F:=λm=>z3 (X.arr aq) (X.arr aA) na nb (X.arr q.reverse) m ac cD) λm=>?_
    refine adA (t:=k+2+(j+1)) M U ⟨λr b eR e=>?_,λq na nb aa ac cD I a b c d e=>⟨?_,?_⟩⟩ I ag af bP cZ (by omega)
    .exact⟨_,rfl,.inl ⟨r,e,eR⟩⟩
    .exact⟨_,rfl,.inr ⟨_,_,_,_,_,_,rfl,I,a,b,c,d,by omega⟩⟩
    .exact⟨_,_,_,_,_,_,_,rfl,rfl,I,a,b,c,d,by omega⟩
   .rintro b aM ⟨g',q,na,nb,aa,ac,cD,rfl,rfl,I,ag,af,bP,cZ,aU⟩
    omega
   .rintro b aM ⟨g',rfl,z⟩
    rcases z with⟨r,e,eR⟩|⟨q,na,nb,aa,ac,cD,rfl,I,ag,af,bP,cZ,aU⟩
    .obtain⟨d6,dC⟩:=b
     dsimp only at e
     subst e
     exact cc ⟨g',r,rfl,rfl,eR⟩
    try dsimp only
    exact cn (Fi (cc ⟨_,_,_,_,_,rfl,rfl,I,ag,af,bP,cZ,by omega⟩))
 .rintro b aM ⟨g',q,na,nb,aa,rfl,rfl,I,ag,af,bP,cZ,aU⟩
  omega
 .rintro b aM ⟨g',r,rfl,e,eR⟩
  obtain⟨d6,dC⟩:=b
  dsimp only at e
  subst e
  exact cc (h r g' eR)
open PySem PySem.Spec PyProof.Rows cA PySem.W
variable{X:Ctx}
theorem acR{β:Type}{a N:Nat}{b:β}{f:Nat→β→StateT SortSt Sem (ForInStep β)}{Q:β→SortSt→Prop}{st:SortSt}(Inv:Nat→β→SortSt→Prop)(h0:Inv 0 b st)(step:∀k b st,k<N-a→Inv k b st→W X (f (a+k) b) (λr aM=>match r with|.done aZ=>Q aZ aM|.yield aZ=>Inv (k+1) aZ aM) st)(fin:∀b st,Inv (N-a) b st→Q b st):W X (forIn [a:N] b f) Q st:=by
 refine kasC_range ?_
 have gen:∀(m k:Nat)(b:β)(st:SortSt),k+m=N-a→Inv k b st→kasC (br X.prog X.w) X.A X.E (forIn (Ŕ (a+k) m) b f) (λa aM s'=>s'=X.s∧Q a aM) st X.s:=by
  intro m
  induction m with
  |zero=>
   intro k b st e h
   have:k=N-a:=by omega
   subst this
   exact kasC_nil ⟨rfl,fin b st h⟩
  |succ m ba=>
   intro k b st e h
   rw[ŕ]
   refine kasC_cons ?_
   have s1:=step k b st (by omega) h
   unfold W kasC at s1
   unfold kasC
   refine fa s1 (λr s' z=>?_) λ_ _ e=>e
   obtain⟨b6,aM⟩:=r
   cases b6 with
   |done aZ=>exact z
   |yield aZ=>
    obtain⟨av,bL⟩:=z
    rw[av]
    exact ba (k+1) aZ aM (by omega) bL
 exact gen (N-a) 0 b st (by omega) h0
theorem Fz{α β:Type}{a N:Nat}{b:β}{f:Nat→β→StateT SortSt Sem (ForInStep β)}{cont:β→StateT SortSt Sem α}{Q:α→SortSt→Prop}{st:SortSt}(Post:β→SortSt→Prop)(Inv:Nat→β→SortSt→Prop)(h0:Inv 0 b st)(step:∀k b st,k<N-a→Inv k b st→W X (f (a+k) b) (λr aM=>match r with|.done aZ=>Post aZ aM|.yield aZ=>Inv (k+1) aZ aM) st)(fin:∀b st,Inv (N-a) b st→Post b st)(k:∀b st,Post b st→W X (cont b) Q st):W X (forIn [a:N] b f >>=cont) Q st:=
 cn (Rd (acR Inv h0 step fin) k)
section
variable{p:Array Nat}{a_:Array (Nat×Nat×Nat)}{g:Nat}
theorem w_{i j:Nat}{Q:Option Bool→SortSt→Prop}(ab:cU X.n p)(aj:i<X.n)(aN:j<X.n)(h:Q (some (X.lt (bb p i) (bb p j))) (ST X p a_ g)):W X (ltAt' i j) Q (ST X p a_ g):=by
 have i_:=ab.size
 have get:∀k,k<X.n→(gE (ST X p a_ g))[k]?=some (X.item (bb p k)):=λk aK=>by
  show(p.map X.item)[k]?=_
  have e:bb p k=p[k]'(by omega):=by simp[bb,nD,show k<p.size by omega]
  rw[e]
  simp[show k<p.size by omega]
 rw[ltAt'_eq]
 refine cn (m9 ?_)
 show W X (do let x ←fF (gE (ST X p a_ g)) i;let y ←fF (gE (ST X p a_ g)) j;lt' x y) Q _
 rw[elem'_eq,elem'_eq,get i aj,get j aN]
 refine cn (cc (cn (cc ?_)))
 exact yk (ab.at (by omega) i) (ab.at (by omega) j) h
theorem adB{i j:Nat}{Q:Unit→SortSt→Prop}(h:Q () (ST X (oc p i j) a_ g)):W X (reverseSlice' i j) Q (ST X p a_ g):=by
 rw[reverseSlice'_eq]
 refine pk ?_
 have e:FT (ST X p a_ g) (EU (gE (ST X p a_ g)) i j ((j-i)/2))=ST X (oc p i j) a_ g:=by
  show mz X.κ (EU (p.map X.item) i j ((j-i)/2)) a_ g none=mz X.κ ((EU p i j ((j-i)/2)).map X.item) a_ g none
  have av:EU (p.map X.item) i j ((j-i)/2)=(EU p i j ((j-i)/2)).map X.item:=kas_swaps_map X.item (λk=>i+k) (λk=>j-1-k) _ p
  rw[av]
 rw[e]
 exact h
theorem acS{k l:Nat}{Q:Unit→SortSt→Prop}(h:Q () (ST X (nQ p k (k-l)) a_ g)):W X (moveDown' k l) Q (ST X p a_ g):=by
 rw[moveDown'_eq]
 refine pk ?_
 have e:FT (ST X p a_ g) (nQ (gE (ST X p a_ g)) k (k-l))=ST X (nQ p k (k-l)) a_ g:=by
  show mz X.κ (nQ (p.map X.item) k (k-l)) a_ g none=mz X.κ ((nQ p k (k-l)).map X.item) a_ g none
  have av:nQ (p.map X.item) k (k-l)=(nQ p k (k-l)).map X.item:=kas_swaps_map X.item (λi=>k-i) (λi=>k-i-1) _ p
  rw[av]
 rw[e]
 exact h
end
noncomputable def Seg(X:Ctx)(p:Array Nat)(lo aj:Nat):Prop:=∀a b,lo≤a→a<b→b<aj→X.Lt (bb p a) (bb p b)
structure hP(X:Ctx)(p q:Array Nat)(lo aj:Nat):Prop where
 ab:cU X.n q
 out:∀i,i<lo∨aj≤i→bb q i=bb p i
theorem hP.rfl'{p:Array Nat}{lo aj:Nat}(h:cU X.n p):hP X p p lo aj:=⟨h,λ_ _=>rfl⟩
theorem hP.trans{p q r:Array Nat}{lo aj:Nat}(h:hP X p q lo aj)(af:hP X q r lo aj):hP X p r lo aj:=⟨af.ab,λi z=>(af.out i z).trans (h.out i z)⟩
theorem hP.wide{p q:Array Nat}{lo aj Wa Ec:Nat}(h:hP X p q lo aj)(ag:Wa≤lo)(af:aj≤Ec):hP X p q Wa Ec:=⟨h.ab,λi z=>h.out i (by omega)⟩
theorem Seg.succ{p:Array Nat}{lo k:Nat}(s:Seg X p lo (lo+k))(ag:1≤k)(h:X.Lt (bb p (lo+k-1)) (bb p (lo+k))):Seg X p lo (lo+(k+1)):=λa b aH jq U=>by
 by_cases e:b=lo+k
 .subst e
  by_cases ay:a=lo+k-1
  .rw[ay];exact h
  .exact X.ok.hg _ _ _ (s a (lo+k-1) aH (by omega) (by omega)) h
 .exact s a b aH jq (by omega)
theorem or'{p:Array Nat}(ab:cU X.n p){a b:Nat}(aH:a<X.n)(U:b<X.n)(ne:a≠b)(f:X.lt (bb p a) (bb p b)=false):X.Lt (bb p b) (bb p a):=X.ok.or ab aH U ne f
theorem aa0{p:Array Nat}{a_:Array (Nat×Nat×Nat)}{g:Nat}{lo kx:Nat}{Q:Option Nat→SortSt→Prop}(ab:cU X.n p)(ag:1≤kx)(az:lo+kx≤X.n)(h:∀m q,1≤m→m≤kx→hP X p q lo (lo+kx)→Seg X q lo (lo+m)→Q (some m) (ST X q a_ g)):W X (countRun' lo kx) Q (ST X p a_ g):=by
 rw[countRun'_eq]
 refine Fz (Post:=λb aM=>aM=ST X p a_ g∧∃m,b=(none,m)∧1≤m∧m≤kx∧Seg X p lo (lo+m)∧(m<kx→X.Lt (bb p (lo+m)) (bb p (lo+m-1))))
  (λk b aM=>aM=ST X p a_ g∧b=(none,k+1)∧Seg X p lo (lo+(k+1))) ⟨rfl,rfl,λa b _ _ _=>by omega⟩ ?_ ?_ ?_
 .rintro k b aM aK ⟨rfl,rfl,df⟩
  try dsimp only
  refine cn (w_ ab (by omega) (by omega) ?_)
  try dsimp only
  cases e:X.lt (bb p (lo+(k+1))) (bb p (lo+(k+1)-1))with
  |true=>
   rw[aI rfl]
   exact cc ⟨rfl,k+1,rfl,by omega,by omega,df,λ_=>e⟩
  |false=>
   rw[aD (by decide)]
   exact cc ⟨rfl,rfl,df.succ (by omega) (or' ab (by omega) (by omega) (by omega) e)⟩
 .rintro b aM ⟨rfl,rfl,df⟩
  exact⟨rfl,kx-1+1,rfl,by omega,by omega,df,λz=>by omega⟩
 .rintro b aM ⟨rfl,m,rfl,dY,eQ,df,ti⟩
  try dsimp only
  by_cases c:(m==kx)=true
  .rw[aI c]
   exact cc (h m p dY eQ (hP.rfl' ab) df)
  rw[aD c]
  have tX:m<kx:=by simp at c;omega
  by_cases c6:m>1
  .rw[aI c6]
   refine cn (w_ ab (by omega) (by omega) ?_)
   try dsimp only
   have e:X.lt (bb p lo) (bb p (lo+m-1))=true:=df lo (lo+m-1) (b1 _) (by omega) (by omega)
   rw[e,aI rfl]
   exact cc (h m p dY eQ (hP.rfl' ab) df)
  .rw[aD c6]
   have av:m=1:=by omega
   subst av
   have hI:=ti tX
   refine cn (w' ?_)
   refine Fz (Post:=λb aM=>aM=ST X p a_ g∧∃k,b=(none,k,0)∧2≤k∧k≤kx∧∀a b,lo≤a→a<b→b<lo+k→X.Lt (bb p b) (bb p a))
    (λk b aM=>aM=ST X p a_ g∧b=(none,k+2,0)∧∀a b,lo≤a→a<b→b<lo+(k+2)→X.Lt (bb p b) (bb p a)) ⟨rfl,rfl,λa b ag af aU=>?_⟩ ?_ ?_ ?_
   .have bp:a=lo:=by omega
    have dJ:b=lo+1:=by omega
    rw[bp,dJ]
    exact hI
   .rintro k b aM aK ⟨rfl,rfl,ds⟩
    try dsimp only
    refine cn (w_ ab (by omega) (by omega) ?_)
    try dsimp only
    cases e:X.lt (bb p (lo+(k+2))) (bb p (lo+(k+2)-1))with
    |true=>
     rw[aI rfl,aD (by omega)]
     refine cc ⟨rfl,rfl,λa b ag af aU=>?_⟩
     by_cases dJ:b=lo+(k+2)
     .subst dJ
      by_cases bp:a=lo+(k+2)-1
      .rw[bp];exact e
      .exact X.ok.hg _ _ _ e (ds a _ ag (by omega) (by omega))
     .exact ds a b ag af (by omega)
    |false=>
     rw[aD (by decide)]
     refine cn (w_ ab (by omega) (by omega) ?_)
     try dsimp only
     have ay:X.lt (bb p (lo+(k+2)-1)) (bb p (lo+(k+2)))=true:=or' ab (by omega) (by omega) (by omega) e
     rw[ay,aI rfl]
     exact cc ⟨rfl,k+2,rfl,by omega,by omega,ds⟩
   .rintro b aM ⟨rfl,rfl,ds⟩
    exact⟨rfl,kx-(1+1)+2,rfl,by omega,by omega,ds⟩
   .rintro b aM ⟨rfl,k,rfl,k1,k2,ds⟩
    try dsimp only
    rw[aD (by omega)]
    refine cn (adB ?_)
    have i_:=ab.size
    have eJ:=ab.rev lo (lo+k)
    have b7:∀i,bb (oc p lo (lo+k)) i=if lo≤i∧i<lo+k then bb p (lo+(lo+k)-1-i)else bb p i:=λi=>by
     have z:=ahV (xs:=p) (i:=lo) (j:=lo+k) (by omega) i
     by_cases c:lo≤i∧i<lo+k
     .rw[aI c]at z⊢
      exact xq z
     .rw[aD c]at z⊢
      exact xq z
    have eE:hP X p (oc p lo (lo+k)) lo (lo+kx):=⟨eJ,λi z=>by rw[b7,aD (by omega)]⟩
    have lx:Seg X (oc p lo (lo+k)) lo (lo+k):=λa b ag af aU=>by
     rw[b7,b7,aI ⟨ag,by omega⟩,aI ⟨by omega,aU⟩]
     exact ds _ _ (by omega) (by omega) (by omega)
    generalize oc p lo (lo+k)=q at eJ b7 eE lx⊢
    refine Fz (Post:=λb aM=>aM=ST X q a_ g∧∃m,b=(none,m)∧1≤m∧m≤kx∧Seg X q lo (lo+m))
     (λj b aM=>aM=ST X q a_ g∧b=(none,k+j)∧Seg X q lo (lo+(k+j))) ⟨rfl,rfl,lx⟩ ?_ ?_ ?_
    .rintro j b aM aN ⟨rfl,rfl,df⟩
     try dsimp only
     refine cn (w_ eJ (by omega) (by omega) ?_)
     try dsimp only
     cases e:X.lt (bb q (lo+(k+j))) (bb q (lo+(k+j)-1))with
     |true=>
      rw[aI rfl]
      exact cc ⟨rfl,k+j,rfl,by omega,by omega,df⟩
     |false=>
      rw[aD (by decide)]
      exact cc ⟨rfl,rfl,df.succ (by omega) (or' eJ (by omega) (by omega) (by omega) e)⟩
    .rintro b aM ⟨rfl,rfl,df⟩
     exact⟨rfl,k+(kx-k),rfl,by omega,by omega,df⟩
    .rintro b aM ⟨rfl,m,rfl,dY,eQ,df⟩
     exact cc (h m q dY eQ eE df)
theorem adC{p:Array Nat}{a_:Array (Nat×Nat×Nat)}{g:Nat}{lo n ok:Nat}{Q:Bool→SortSt→Prop}(ab:cU X.n p)(az:lo+n≤X.n)(ag:1≤ok)(af:ok≤n)(df:Seg X p lo (lo+ok))(h:∀q,hP X p q lo (lo+n)→Seg X q lo (lo+n)→Q true (ST X q a_ g)):W X (binarySort' lo n ok) Q (ST X p a_ g):=by
 rw[binarySort'_eq]
 have Mz:max ok 1=ok:=by omega
 rw[Mz]
 refine Fz (Post:=λb aM=>∃q,aM=ST X q a_ g∧b.1=none∧hP X p q lo (lo+n)∧Seg X q lo (lo+n))
  (λk b aM=>∃q,aM=ST X q a_ g∧b.1=none∧hP X p q lo (lo+n)∧Seg X q lo (lo+(ok+k))) ⟨p,rfl,rfl,hP.rfl' ab,df⟩ ?_ ?_ ?_
 .rintro k b aM aK ⟨q,rfl,U,eE,df⟩
  try dsimp only
  have eJ:=eE.ab
  have i_:=eJ.size
  refine ko (Post:=λb aM=>aM=ST X q a_ g∧∃l,b=(none,l,l)∧l≤ok+k∧(∀a,a<l→X.Lt (bb q (lo+a)) (bb q (lo+(ok+k))))∧∀a,l≤a→a<ok+k→X.Lt (bb q (lo+(ok+k))) (bb q (lo+a)))
   (λj b aM=>aM=ST X q a_ g∧∃l r,b=(none,l,r)∧l≤r∧r≤ok+k∧r-l≤ok+k-j∧(∀a,a<l→X.Lt (bb q (lo+a)) (bb q (lo+(ok+k))))∧∀a,r≤a→a<ok+k→X.Lt (bb q (lo+(ok+k))) (bb q (lo+a))) ⟨rfl,0,ok+k,rfl,by omega,by omega,by omega,λa z=>by omega,λa b4 bL=>by omega⟩ ?_ ?_ ?_
  .rintro j b aM aN ⟨rfl,l,r,rfl,gy,e_,l9,wG,wH⟩
   try dsimp only
   by_cases c:l≥r
   .rw[aI c]
    have:l=r:=by omega
    subst this
    exact cc ⟨rfl,l,rfl,e_,wG,wH⟩
   .rw[aD c]
    refine cn (w_ eJ (by omega) (by omega) ?_)
    try dsimp only
    cases e:X.lt (bb q (lo+(ok+k))) (bb q (lo+(l+r)/2))with
    |true=>
     rw[aI rfl]
     refine cc ⟨rfl,l,(l+r)/2,rfl,by omega,by omega,by omega,wG,λa b4 bL=>?_⟩
     by_cases bp:a=(l+r)/2
     .rw[bp];exact e
     .exact X.ok.hg _ _ _ e (df _ _ (by omega) (by omega) (by omega))
    |false=>
     rw[aD (by decide)]
     have up:=or' eJ (a:=lo+(ok+k)) (b:=lo+(l+r)/2) (by omega) (by omega) (by omega) e
     refine cc ⟨rfl,(l+r)/2+1,r,rfl,by omega,by omega,by omega,λa z=>?_,wH⟩
     by_cases bp:a=(l+r)/2
     .rw[bp];exact up
     .exact X.ok.hg _ _ _ (df _ _ (by omega) (by omega) (by omega)) up
  .rintro b aM ⟨rfl,l,r,rfl,gy,e_,l9,wG,wH⟩
   have:l=r:=by omega
   subst this
   exact⟨rfl,l,rfl,e_,wG,wH⟩
  .rintro aZ aM ⟨rfl,l,rfl,e_,wG,wH⟩
   try dsimp only
   refine cn (acS ?_)
   have cI:∀i,bb (nQ q (lo+(ok+k)) (lo+(ok+k)-(lo+l))) i=if i=lo+l then bb q (lo+(ok+k))else if lo+l<i∧i≤lo+(ok+k)then bb q (i-1)else bb q i:=λi=>G0 (by omega) (by omega)
   have S6:=eJ.JB (lo+(ok+k)) (lo+(ok+k)-(lo+l))
   generalize nQ q (lo+(ok+k)) (lo+(ok+k)-(lo+l))=cp at cI S6⊢
   refine cc ⟨cp,rfl,rfl,eE.trans ⟨S6,λi z=>?_⟩,λa b aH jq hY=>?_⟩
   .rw[cI,aD (by omega),aD (by omega)]
   .rw[cI,cI]
    by_cases a1:a=lo+l
    .rw[aI a1,aD (by omega),aI ⟨by omega,by omega⟩]
     have:=wH (b-1-lo) (by omega) (by omega)
     rw[show lo+(b-1-lo)=b-1 by omega]at this
     exact this
    .rw[aD a1]
     by_cases d6:b=lo+l
     .rw[aI d6,aD (by omega)]
      have:=wG (a-lo) (by omega)
      rw[show lo+(a-lo)=a by omega]at this
      exact this
     .rw[aD d6]
      by_cases a2:lo+l<a∧a≤lo+(ok+k)
      .rw[aI a2,aI ⟨by omega,by omega⟩]
       exact df _ _ (by omega) (by omega) (by omega)
      .rw[aD a2]
       by_cases dC:lo+l<b∧b≤lo+(ok+k)
       .rw[aI dC]
        exact df _ _ (by omega) (by omega) (by omega)
       .rw[aD dC]
        exact df _ _ (by omega) jq (by omega)
 .rintro b aM ⟨q,rfl,U,eE,df⟩
  rw[show ok+(n-ok)=n by omega]at df
  exact⟨q,rfl,U,eE,df⟩
 .rintro b aM ⟨q,rfl,U,eE,df⟩
  obtain⟨d6,dC⟩:=b
  dsimp only at U
  subst U
  exact cc (h q eE df)
open PySem PySem.Spec PyProof.Rows cA PySem.W
variable{X:Ctx}
theorem amS(i:Nat):mergeAt' i=(do
 let s ←get
 let(some (aO,na,power),some (bX,nb,_)):=((WT s)[i]?,(WT s)[i+1]?)|unsupported "internal:list.sort.pending"
 set (setPending s (((WT s).setIfInBounds i (aO,na+nb,power)).eraseIdxIfInBounds (i+1)))
 let some k ←mQ false (←fF (gE s) bX) (gE s) aO na 0|return false
 let(aO,na):=(aO+k,na-k)
 if na==0 then return true
 let some nb ←mQ true (←fF (gE s) (aO+na-1)) (gE s) bX nb (nb-1)|return false
 if nb==0 then return true
 let x:=(gE s).extract aO bX
 let y:=(gE s).extract bX (bX+nb)
 let merged ←if na≤nb then Oh x y else Oy x y
 modify λs=>FT s (merged.toList.zipIdx.foldl (λa(p,j)=>a.setIfInBounds (aO+j) p) (gE s))
 return (rp (←get)).isNone):=rfl
theorem adD{st aM:SortSt}{Q:PUnit→SortSt→Prop}(h:Q ⟨⟩ aM):W X (set aM) Q st:=by
 unfold W kasC
 rw[StateT.run_set]
 exact bM ⟨rfl,h⟩
theorem Rk{α:Type}:∀(r:List α)(a:Array α)(s o:Nat),s+o+r.length≤a.size→((r.zipIdx o).foldl (λa(x:α×Nat)=>a.setIfInBounds (s+x.2) x.1) a).toList=a.toList.take (s+o)++r++a.toList.drop (s+o+r.length)
 |[],a,s,o,_=>by simp
 |x::r,a,s,o,h=>by
  rw[List.zipIdx_cons,List.foldl_cons]
  have ar:(x::r).length=r.length+1:=rfl
  rw[ar]at h
  rw[Rk r (a.setIfInBounds (s+o) x) s (o+1) (by rw[Array.size_setIfInBounds];omega)]
  rw[PT,ar]
  have av:(a.toList.set (s+o) x).take (s+(o+1))=a.toList.take (s+o)++[x]:=by
   rw[show s+(o+1)=s+o+1 by omega,kR,List.take_set_of_le (by omega)]
   congr 1
   rw[RB (by simp;omega)]
   rfl
  have ay:(a.toList.set (s+o) x).drop (s+(o+1)+r.length)=a.toList.drop (s+o+(r.length+1)):=by
   rw[show s+(o+1)+r.length=s+o+(r.length+1) by omega,List.drop_set_of_lt (by omega)]
  rw[av,ay]
  simp
theorem FA{p:Array Nat}{i:Nat}(h:i<p.toList.length):bb p i=p.toList[i]:=by
 have af:i<p.size:=by simpa using h
 simp[bb,nD,af]
theorem OQ(p:Array Nat):p.map X.item=X.arr p.toList:=by
 unfold Ctx.arr
 apply Cb.mp
 simp
theorem Å{p:Array Nat}{a_:Array (Nat×Nat×Nat)}{g i aO na i9 nb w6:Nat}{Q:Bool→SortSt→Prop}(ab:cU X.n p)(av:a_[i]?=some (aO,na,i9))(ay:a_[i+1]?=some (aO+na,nb,w6))(az:aO+na+nb≤X.n)(aH:0<na)(U:0<nb)(s1:Seg X p aO (aO+na))(s2:Seg X p (aO+na) (aO+na+nb))(h:∀q g',hP X p q aO (aO+na+nb)→Seg X q aO (aO+na+nb)→Q true (ST X q ((a_.setIfInBounds i (aO,na+nb,i9)).eraseIdxIfInBounds (i+1)) g')):W X (mergeAt' i) Q (ST X p a_ g):=by
 rw[amS]
 refine cn (m9 ?_)
 show W X (match(a_[i]?,a_[i+1]?)with|(some (aO,na,power),some (bX,nb,_))=>_|_=>_) Q _
 rw[av,ay]
 dsimp only
 refine cn (adD ?_)
 show W X _ Q (ST X p ((a_.setIfInBounds i (aO,na+nb,i9)).eraseIdxIfInBounds (i+1)) g)
 generalize(a_.setIfInBounds i (aO,na+nb,i9)).eraseIdxIfInBounds (i+1)=dF at h⊢
 have bp:gE (ST X p a_ g)=X.arr p.toList:=OQ p
 rw[bp]
 have i_:=ab.size
 obtain⟨L,k4⟩:∃L,L=p.toList:=⟨_,rfl⟩
 have ar:L.length=X.n:=by rw[k4];simpa using i_
 have gl:∀j(aN:j<L.length),bb p j=L[j]:=λj aN=>by
  subst k4
  exact FA aN
 have ln:∀x∈L,x<X.n:=λx ao=>by
  rw[k4]at ao
  exact ab.lt (by simpa using ao)
 rw[←k4]
 have rK:aO+na<L.length:=by omega
 refine cn (iK rK ?_)
 refine cn (wt (left:=false) (key:=L[aO+na]) (l:=L) (base:=aO) (m:=na) (hint:=0) (ln _ (eg rK)) ln (by omega) (by omega) (λa b jq cJ z=>?_) λk k1 k2 k3=>?_)
 .rw[r1 (by omega)]at z⊢
  cases e:X.lt L[aO+na] (L[aO+a]'(by omega))with
  |false=>rfl
  |true=>
   have w:=s1 (aO+a) (aO+b) (by omega) (by omega) (by omega)
   rw[gl _ (by omega),gl _ (by omega)]at w
   rw[X.ok.hg _ _ _ e w]at z
   cases z
 try dsimp only
 have g0:∀j,j<k→X.Lt (bb p (aO+j)) (bb p (aO+na)):=λj aN=>by
  have:=k2 j aN
  rw[r1 (by omega),←gl _ (by omega),←gl _ (by omega)]at this
  exact or' ab (by omega) (by omega) (by omega) (by simpa using this)
 have fw:∀j,k≤j→j<na→X.Lt (bb p (aO+na)) (bb p (aO+j)):=λj aN K3=>by
  have:=k3 j aN K3
  rw[r1 (by omega),←gl _ (by omega),←gl _ (by omega)]at this
  simpa using this
 have Mi:∀{x:Nat}c,aO+na≤c→c<aO+na+nb→X.Lt x (bb p (aO+na))→X.Lt x (bb p c):=λ{x}c ag af aU=>by
  by_cases e:c=aO+na
  .rw[e];exact aU
  .exact X.ok.hg _ _ _ aU (s2 (aO+na) c (b1 _) (by omega) af)
 by_cases e1:(na-k==0)=true
 .rw[aI e1]
  have d3:k=na:=by simp at e1;omega
  subst d3
  refine cc (h p g (hP.rfl' ab) λa b ag af aU=>?_)
  by_cases hY:b<aO+k
  .exact s1 a b ag af hY
  .by_cases Kz:aO+k≤a
   .exact s2 a b Kz af aU
   .have:=g0 (a-aO) (by omega)
    rw[show aO+(a-aO)=a by omega]at this
    exact Mi b (by omega) aU this
 rw[aD e1]
 have aK:k<na:=by simp at e1;omega
 have eL:aO+k+(na-k)-1=aO+na-1:=by omega
 rw[eL]
 have n9:aO+na-1<L.length:=by omega
 refine cn (iK n9 ?_)
 refine cn (wt (left:=true) (key:=L[aO+na-1]) (l:=L) (base:=aO+na) (m:=nb) (hint:=nb-1) (ln _ (eg n9)) ln (by omega) (by omega) (λa b jq cJ z=>?_) λew gy e_ l9=>?_)
 .rw[r2 (by omega)]at z⊢
  have w:=s2 (aO+na+a) (aO+na+b) (by omega) (by omega) (by omega)
  rw[gl _ (by omega),gl _ (by omega)]at w
  exact X.ok.hg _ _ _ w z
 try dsimp only
 have Zv:∀j,j<ew→X.Lt (bb p (aO+na+j)) (bb p (aO+na-1)):=λj aN=>by
  have:=e_ j aN
  rw[r2 (by omega),←gl _ (by omega),←gl _ (by omega)]at this
  exact this
 have mm:∀j,ew≤j→j<nb→X.Lt (bb p (aO+na-1)) (bb p (aO+na+j)):=λj aN K3=>by
  have:=l9 j aN K3
  rw[r2 (by omega),←gl _ (by omega),←gl _ (by omega)]at this
  exact or' ab (by omega) (by omega) (by omega) this
 have V9:∀{x:Nat}c,aO≤c→c<aO+na→X.Lt (bb p (aO+na-1)) x→X.Lt (bb p c) x:=λ{x}c ag af aU=>by
  by_cases e:c=aO+na-1
  .rw[e];exact aU
  .exact X.ok.hg _ _ _ (s1 c (aO+na-1) ag (by omega) (by omega)) aU
 by_cases c6:(ew==0)=true
 .rw[aI c6]
  have d3:ew=0:=by simpa using c6
  subst d3
  refine cc (h p g (hP.rfl' ab) λa b ag af aU=>?_)
  by_cases hY:b<aO+na
  .exact s1 a b ag af hY
  .by_cases Kz:aO+na≤a
   .exact s2 a b Kz af aU
   .have:=mm (b-(aO+na)) (by omega) (by omega)
    rw[show aO+na+(b-(aO+na))=b by omega]at this
    exact V9 a ag (by omega) this
 rw[aD c6]
 have z8:0<ew:=by simp at c6;omega
 rw[ki,ki]
 have ajH:aO+na+ew-(aO+na)=ew:=by omega
 rw[ajH]
 obtain⟨aq,JT⟩:∃aq,aq=(L.drop (aO+k)).take (aO+na-(aO+k)):=⟨_,rfl⟩
 obtain⟨aA,JU⟩:∃aA,aA=(L.drop (aO+na)).take ew:=⟨_,rfl⟩
 rw[←JT,←JU]
 have aof:aq.length=na-k:=by rw[JT,gb,sR];omega
 have aog:aA.length=ew:=by rw[JU,gb,sR];omega
 have ga:∀j(aN:j<aq.length),aq[j]=bb p (aO+k+j):=λj aN=>by
  rw[gl _ (by omega)]
  subst JT
  rw[sP,yp]
 have j1:∀j(aN:j<aA.length),aA[j]=bb p (aO+na+j):=λj aN=>by
  rw[gl _ (by omega)]
  subst JU
  rw[sP,yp]
 have M:iS X aq aA:=by
  refine⟨?_,?_,λx ao=>?_,λx ao=>?_,λx ao y aT=>?_,λh0 y aT=>?_,λh0 y aT=>?_⟩
  .rw[sU]
   intro a b aH U jq
   rw[ga _ aH,ga _ U]
   exact s1 _ _ (by omega) (by omega) (by omega)
  .rw[sU]
   intro a b aH U jq
   rw[j1 _ aH,j1 _ U]
   exact s2 _ _ (by omega) (by omega) (by omega)
  .obtain⟨j,aN,rfl⟩:=jd ao
   rw[ga _ aN]
   exact ab.at (by omega) _
  .obtain⟨j,aN,rfl⟩:=jd ao
   rw[j1 _ aN]
   exact ab.at (by omega) _
  .obtain⟨j,aN,rfl⟩:=jd ao
   obtain⟨gR,z5,rfl⟩:=jd aT
   rw[ga _ aN,j1 _ z5]
   intro z
   have:=ab.inj (by omega) (by omega) z
   omega
  .obtain⟨j,aN,rfl⟩:=jd aT
   rw[j1 _ h0,ga _ aN]
   have:=fw (k+j) (by omega) (by omega)
   rw[show aO+(k+j)=aO+k+j by omega]at this
   exact this
  .obtain⟨j,aN,rfl⟩:=jd aT
   rw[j1 _ aN,ga _ h0]
   have:=Zv j (by omega)
   rw[show aO+k+(aq.length-1)=aO+na-1 by omega]
   exact this
 have fin:∀r g',nJ X aq aA r→W X (do
   modify λs=>FT s ((X.arr r).toList.zipIdx.foldl (λa(x:Keyed×Nat)=>a.setIfInBounds (aO+k+x.2) x.1) (gE s))
   let st ←get
   pure (rp st).isNone) Q (ST X p dF g'):=λr g' eR=>by
  have EK:r.length=na-k+ew:=by
   have:=eR.1.length_eq
   rw[ff]at this
   omega
  have es:FT (ST X p dF g') ((X.arr r).toList.zipIdx.foldl (λa(x:Keyed×Nat)=>a.setIfInBounds (aO+k+x.2) x.1) (gE (ST X p dF g')))=ST X (L.take (aO+k)++r++L.drop (aO+k+r.length)).toArray dF g':=by
   have cv:(X.arr r).toList.zipIdx.foldl (λa(x:Keyed×Nat)=>a.setIfInBounds (aO+k+x.2) x.1) (p.map X.item)=((L.take (aO+k)++r++L.drop (aO+k+r.length)).toArray).map X.item:=by
    apply Cb.mp
    rw[Rk (X.arr r).toList (p.map X.item) (aO+k) 0 (by simp[Ctx.arr];omega)]
    rw[OQ,OQ,←k4]
    simp[Ctx.arr,vj,Ō]
   show mz X.κ ((X.arr r).toList.zipIdx.foldl (λa(x:Keyed×Nat)=>a.setIfInBounds (aO+k+x.2) x.1) (p.map X.item)) dF g' none=mz X.κ (((L.take (aO+k)++r++L.drop (aO+k+r.length)).toArray).map X.item) dF g' none
   rw[cv]
  refine cn (pk ?_)
  rw[es]
  refine cn (m9 (cc ?_))
  obtain⟨mr,y9⟩:∃mr,mr=L.take (aO+k)++r++L.drop (aO+k+r.length):=⟨_,rfl⟩
  rw[←y9]
  have split:L=L.take (aO+k)++(aq++aA)++L.drop (aO+k+r.length):=by
   have er:aq++aA=(L.drop (aO+k)).take r.length:=by
    apply ve
    .rw[ff,gb,sR];omega
    .intro j ag af
     rw[sP,yp]
     by_cases aN:j<aq.length
     .rw[HE aN,ga _ aN,gl _ (by omega)]
     .rw[RC (by omega),j1 _ (by rw[ff]at ag;omega),gl _ (by rw[ff]at ag;omega)]
      congr 1
      omega
   have gM:=(p1 (aO+k) L).symm
   have jZ:=(p1 r.length (L.drop (aO+k))).symm
   rw[Rv]at jZ
   rw[er,jB,←jZ]
   exact gM
  have V4:mr.length=X.n:=by
   rw[y9,ff,ff,gb,sR]
   omega
  have eJ:cU X.n mr.toArray:=by
   have pm:mr.Perm L:=by
    rw[y9]
    refine ym ?_ (List.Perm.of_eq split.symm)
    exact Ĵ _ (HA _ eR.1)
   have:p.toList.Perm (c_ X.n):=ab.list
   rw[←k4]at this
   exact Zq.mpr (by simpa using pm.trans this)
  have zJ:∀j(aN:j<X.n),bb mr.toArray j=mr[j]'(by omega):=λj aN=>FA (p:=mr.toArray) (by simpa[V4]using aN)
  have out:∀j,j<aO+k∨aO+na+ew≤j→bb mr.toArray j=bb p j:=λj aN=>by
   by_cases K5:j<X.n
   .rw[zJ j K5,gl j (by omega)]
    subst y9
    by_cases ag:j<aO+k
    .rw[HE (by rw[ff,gb];omega),HE (by rw[gb];omega),sP]
    .rw[RC (by rw[ff,gb];omega),yp]
     congr 1
     rw[ff,gb]
     omega
   .have b4:bb mr.toArray j=0:=by simp[bb,nD,V4,show¬j<X.n from K5]
    have bL:bb p j=0:=by simp[bb,nD,i_,show¬j<X.n from K5]
    rw[b4,bL]
  have mid:∀j(ag:aO+k≤j)(af:j<aO+na+ew),bb mr.toArray j=r[j-(aO+k)]'(by omega):=λj ag af=>by
   rw[zJ j (by omega)]
   subst y9
   rw[HE (by rw[ff,gb];omega),RC (by rw[gb];omega)]
   congr 1
   rw[gb]
   omega
  have inr:∀x∈r,(∃c,aO+k≤c∧c<aO+na∧x=bb p c)∨∃c,aO+na≤c∧c<aO+na+ew∧x=bb p c:=λx ao=>by
   rcases el.mp (eR.1.mem_iff.mp ao)with z|z
   .obtain⟨j,aN,rfl⟩:=jd z
    exact .inl ⟨aO+k+j,by omega,by omega,ga j aN⟩
   .obtain⟨j,aN,rfl⟩:=jd z
    exact .inr ⟨aO+na+j,by omega,by omega,j1 j aN⟩
  refine h mr.toArray g' ⟨eJ,λj aN=>out j (by omega)⟩ λa b ag af aU=>?_
  by_cases a1:a<aO+k
  .rw[out a (.inl a1)]
   have Jo:=g0 (a-aO) (by omega)
   rw[show aO+(a-aO)=a by omega]at Jo
   by_cases d6:b<aO+k
   .rw[out b (.inl d6)]
    exact s1 a b ag af (by omega)
   .by_cases dC:b<aO+na+ew
    .rw[mid b (by omega) dC]
     rcases inr _ (eg (by omega:b-(aO+k)<r.length))with⟨c,e1,c6,e⟩|⟨c,e1,c6,e⟩
     .rw[e]
      exact s1 a c ag (by omega) c6
     .rw[e]
      exact Mi c e1 (by omega) Jo
    .rw[out b (.inr (by omega))]
     exact Mi b (by omega) aU Jo
  .by_cases a2:a<aO+na+ew
   .rw[mid a (by omega) a2]
    by_cases dC:b<aO+na+ew
    .rw[mid b (by omega) dC]
     exact B5 eR.2 (by omega) (by omega)
    .rw[out b (.inr (by omega))]
     have gG:=mm (b-(aO+na)) (by omega) (by omega)
     rw[show aO+na+(b-(aO+na))=b by omega]at gG
     rcases inr _ (eg (by omega:a-(aO+k)<r.length))with⟨c,e1,c6,e⟩|⟨c,e1,c6,e⟩
     .rw[e]
      exact V9 c (by omega) c6 gG
     .rw[e]
      exact s2 c b e1 (by omega) aU
   .rw[out a (.inr (by omega)),out b (.inr (by omega))]
    exact s2 a b (by omega) af aU
 by_cases hr:na-k≤ew
 .rw[aI hr]
  exact cn (Ã M (by omega) (by omega) λr g' eR=>fin r g' eR)
 .rw[aD hr]
  exact cn (Ä M (by omega) (by omega) λr g' eR=>fin r g' eR)
variable{X:Ctx}
noncomputable abbrev s8:=Nat×Nat×Nat
noncomputable def Runs(X:Ctx)(p:Array Nat):List s8→Nat→Nat→Prop
 |[],s,e=>s=e
 |x::l,s,e=>x.1=s∧0<x.2.1∧Seg X p s (s+x.2.1)∧Runs X p l (s+x.2.1) e
theorem Seg.keep{p q:Array Nat}{s e:Nat}(h:Seg X p s e)(k:∀i,s≤i→i<e→bb q i=bb p i):Seg X q s e:=λa b ag af aU=>by
 rw[k a ag (by omega),k b (by omega) aU]
 exact h a b ag af aU
theorem Runs.le{p:Array Nat}:∀{l:List s8}{s e:Nat},Runs X p l s e→s+l.length≤e
 |[],s,e,h=>by rw[show s=e from h];exact b1 _
 |x::l,s,e,⟨_,af,_,bP⟩=>by
  have:=Runs.le bP
  rw[hS]
  omega
theorem Runs.keep{p q:Array Nat}:∀{l:List s8}{s e:Nat},Runs X p l s e→(∀i,s≤i→i<e→bb q i=bb p i)→Runs X q l s e
 |[],_,_,h,_=>h
 |x::l,s,e,⟨ag,af,aU,bP⟩,k=>by
  have:=Runs.le bP
  exact⟨ag,af,aU.keep λi a b=>k i a (by omega),Runs.keep bP λi a b=>k i (by omega) b⟩
theorem Runs.snoc{p:Array Nat}{len i9:Nat}:∀{l:List s8}{s e:Nat},Runs X p l s e→0<len→Seg X p e (e+len)→Runs X p (l++[(e,len,i9)]) s (e+len)
 |[],s,e,h,ag,af=>by
  have h:s=e:=h
  subst h
  exact⟨rfl,ag,af,rfl⟩
 |x::l,s,e,⟨a,b,c,d⟩,ag,af=>⟨a,b,c,Runs.snoc d ag af⟩
theorem Runs.i9{p:Array Nat}{w:Nat}:∀{l:List s8}{s e i:Nat},Runs X p l s e→Runs X p (l.modify i λx=>(x.1,x.2.1,w)) s e
 |[],_,_,i,h=>by
  cases i<;>exact h
 |x::l,s,e,0,⟨a,b,c,d⟩=>⟨a,b,c,d⟩
 |x::l,s,e,i+1,⟨a,b,c,d⟩=>⟨a,b,c,Runs.i9 d⟩
theorem Runs.merge{p:Array Nat}:∀{l:List s8}{s e i:Nat},Runs X p l s e→i+1<l.length→∃aO na i9 nb w6,l[i]?=some (aO,na,i9)∧l[i+1]?=some (aO+na,nb,w6)∧0<na∧0<nb∧Seg X p aO (aO+na)∧Seg X p (aO+na) (aO+na+nb)∧s≤aO∧aO+na+nb≤e∧
  ∀q,hP X p q aO (aO+na+nb)→Seg X q aO (aO+na+nb)→Runs X q ((l.set i (aO,na+nb,i9)).eraseIdx (i+1)) s e
 |[],_,_,_,_,h=>by simp at h
 |[x],_,_,i,_,h=>by simp at h
 |x::y::l,s,e,0,⟨a1,a2,ft,d6,dC,kf,nP⟩,h=>by
  have le:=Runs.le nP
  refine⟨x.1,x.2.1,x.2.2,y.2.1,y.2.2,rfl,?_,a2,dC,by rw[a1];exact ft,by rw[a1];exact kf,by omega,by omega,λq eE df=>?_⟩
  .show some y=_
   rw[a1,←d6]
  .show Runs X q ((x.1,x.2.1+y.2.1,x.2.2)::l) s e
   rw[a1]at df eE⊢
   refine⟨rfl,by show 0<x.2.1+y.2.1;omega,?_,?_⟩
   .show Seg X q s (s+(x.2.1+y.2.1))
    rw[←aar]
    exact df
   .show Runs X q l (s+(x.2.1+y.2.1)) e
    rw[←aar]
    exact nP.keep λi ag af=>eE.out i (.inr ag)
 |x::y::l,s,e,i+1,⟨a1,a2,ft,b⟩,h=>by
  obtain⟨aO,na,i9,nb,w6,e1,c6,hr,lO,JC,JD,agp,JE,JF⟩:=Runs.merge (i:=i) b (by simpa using h)
  refine⟨aO,na,i9,nb,w6,by simpa using e1,by simpa using c6,hr,lO,JC,JD,by omega,JE,λq eE df=>?_⟩
  refine⟨a1,a2,ft.keep λj ag af=>eE.out j (.inl (by omega)),?_⟩
  exact JF q eE df
theorem X0{α:Type}(a:Array α)(i:Nat)(v:α)(j:Nat):((a.setIfInBounds i v).eraseIdxIfInBounds j).toList=(a.toList.set i v).eraseIdx j:=by
 unfold Array.eraseIdxIfInBounds
 split
 .rw[Array.toList_eraseIdx,PT]
 .rename_i h
  rw[PT,List.eraseIdx_of_length_le (by simpa using h)]
theorem Oz{p:Array Nat}{a_:Array s8}{g i e:Nat}{Q:Bool→SortSt→Prop}(ab:cU X.n p)(R:Runs X p a_.toList 0 e)(he:e≤X.n)(aj:i+1<a_.size)(h:∀q dF g',hP X p q 0 e→Runs X q dF.toList 0 e→dF.size+1=a_.size→Q true (ST X q dF g')):W X (mergeAt' i) Q (ST X p a_ g):=by
 obtain⟨aO,na,i9,nb,w6,e1,c6,hr,lO,JC,JD,agp,JE,JF⟩:=R.merge (i:=i) (by simpa using aj)
 refine Å ab (by simpa using e1) (by simpa using c6) (by omega) hr lO JC JD λq g' eE df=>?_
 refine h q _ g' (eE.wide (by omega) JE) ?_ ?_
 .rw[X0]
  exact JF q eE df
 .have:=eK sQ (X0 a_ i (aO,na+nb,i9) (i+1))
  rw[List.length_eraseIdx,RE,uJ,uJ,aI aj]at this
  omega
theorem acT{p:Array Nat}{g:Nat}{Q:Unit→SortSt→Prop}(ab:cU X.n p)(af:2≤X.n)(h:∀q dF g',cU X.n q→Seg X q 0 X.n→Q () (ST X q dF g')):W X sortRuns' Q (ST X p #[] g):=by
 rw[sortRuns'_eq]
 refine cn (m9 ?_)
 have i_:(gE (ST X p #[] g)).size=X.n:=by
  show(p.map X.item).size=X.n
  rw[Array.size_map,ab.size]
 try dsimp only
 rw[i_]
 generalize minRun' X.n X.n 0=eR
 refine ko (Post:=λb aM=>∃q a_ g',aM=ST X q a_ g'∧b.1=none∧cU X.n q∧Runs X q a_.toList 0 X.n)
  (λk b aM=>∃q a_ g' lo,aM=ST X q a_ g'∧b=(none,lo)∧cU X.n q∧Runs X q a_.toList 0 lo∧lo≤X.n∧k≤lo) ⟨p,#[],g,0,rfl,rfl,ab,rfl,by omega,by omega⟩ ?_ ?_ ?_
 .rintro k b aM aK ⟨q,a_,g',lo,rfl,rfl,eJ,R,gy,e_⟩
  try dsimp only
  by_cases c:lo≥X.n
  .rw[aI c]
   have:lo=X.n:=by omega
   subst this
   exact cc ⟨q,a_,g',rfl,rfl,eJ,R⟩
  rw[aD c]
  refine cn (aa0 eJ (by omega) (by omega) λm bq dY eQ JA Xf=>?_)
  try dsimp only
  have Sw:Runs X bq a_.toList 0 lo:=R.keep λi a b=>JA.out i (.inl b)
  by_cases c6:m<eR
  .rw[aI c6]
   refine cn (w' ?_)
   refine cn (adC JA.ab (n:=min (X.n-lo) eR) (by omega) dY (by omega) Xf λcp eE df=>?_)
   rw[aD (by decide)]
   have gL:Runs X cp a_.toList 0 lo:=Sw.keep λi a b=>eE.out i (.inl b)
   refine cn (m9 ?_)
   show W X (match a_.back? with|some (s1,hD,_)=>_|_=>_) _ _
   cases dJ:a_.back? with
   |none=>
    try dsimp only
    refine cn (pk (cc ⟨cp,a_.push (lo,min (X.n-lo) eR,0),g',lo+min (X.n-lo) eR,rfl,rfl,eE.ab,?_,by omega,by omega⟩))
    rw[GB]
    exact Runs.snoc gL (by omega) df
   |some x=>
    obtain⟨s1,hD,fP⟩:=x
    try dsimp only
    refine ko (Post:=λb aM=>∃c4 dF g',aM=ST X c4 dF g'∧b=(none,())∧cU X.n c4∧Runs X c4 dF.toList 0 lo∧Seg X c4 lo (lo+min (X.n-lo) eR))
     (λ_ b aM=>∃c4 dF g',aM=ST X c4 dF g'∧b=(none,())∧cU X.n c4∧Runs X c4 dF.toList 0 lo∧Seg X c4 lo (lo+min (X.n-lo) eR)) ⟨cp,a_,g',rfl,rfl,eE.ab,gL,df⟩ ?_ (λ_ _ z=>z) ?_
    .rintro j b aM aN ⟨c4,dF,g',rfl,rfl,eJ,nO,oB⟩
     refine cn (m9 ?_)
     show W X (match(if dF.size>1 then dF[dF.size-2]? else none)with|some (_,_,akp)=>_|_=>_) _ _
     by_cases c:dF.size>1
     .rw[aI c]
      obtain⟨x,ex⟩:∃x,dF[dF.size-2]?=some x:=⟨_,xx (by omega)⟩
      rw[ex]
      obtain⟨i8,pM,E9⟩:=x
      try dsimp only
      split
      .exact cc ⟨c4,dF,g',rfl,rfl,eJ,nO,oB⟩
      .refine cn (Oz eJ nO (by omega) (by show dF.size-2+1<dF.size;omega) λiq AZ tw te yM Xq=>?_)
       rw[aD (by decide)]
       exact cc ⟨iq,AZ,tw,rfl,rfl,te.ab,yM,oB.keep λi a b=>te.out i (.inr a)⟩
     .rw[aD c]
      exact cc ⟨c4,dF,g',rfl,rfl,eJ,nO,oB⟩
    .rintro b aM ⟨c4,dF,g',rfl,rfl,eJ,nO,oB⟩
     try dsimp only
     refine cn (pk (cn (pk (cc ⟨c4,_,g',lo+min (X.n-lo) eR,rfl,rfl,eJ,?_,by omega,by omega⟩))))
     show Runs X c4 (((dF.modify (dF.size-1) λx=>(x.1,x.2.1,_)).push (lo,min (X.n-lo) eR,0)).toList) 0 (lo+min (X.n-lo) eR)
     rw[GB,Zt]
     exact Runs.snoc (Runs.i9 nO) (by omega) oB
  .rw[aD c6]
   have eE:=JA
   have gL:=Sw
   have df:=Xf
   have aoy:bq=bq:=rfl
   refine cn (m9 ?_)
   show W X (match a_.back? with|some (s1,hD,_)=>_|_=>_) _ _
   cases dJ:a_.back? with
   |none=>
    try dsimp only
    refine cn (pk (cc ⟨bq,a_.push (lo,m,0),g',lo+m,rfl,rfl,eE.ab,?_,by omega,by omega⟩))
    rw[GB]
    exact Runs.snoc gL (by omega) df
   |some x=>
    obtain⟨s1,hD,fP⟩:=x
    try dsimp only
    refine ko (Post:=λb aM=>∃c4 dF g',aM=ST X c4 dF g'∧b=(none,())∧cU X.n c4∧Runs X c4 dF.toList 0 lo∧Seg X c4 lo (lo+m))
     (λ_ b aM=>∃c4 dF g',aM=ST X c4 dF g'∧b=(none,())∧cU X.n c4∧Runs X c4 dF.toList 0 lo∧Seg X c4 lo (lo+m)) ⟨bq,a_,g',rfl,rfl,eE.ab,gL,df⟩ ?_ (λ_ _ z=>z) ?_
    .rintro j b aM aN ⟨c4,dF,g',rfl,rfl,eJ,nO,oB⟩
     refine cn (m9 ?_)
     show W X (match(if dF.size>1 then dF[dF.size-2]? else none)with|some (_,_,akp)=>_|_=>_) _ _
     by_cases c:dF.size>1
     .rw[aI c]
      obtain⟨x,ex⟩:∃x,dF[dF.size-2]?=some x:=⟨_,xx (by omega)⟩
      rw[ex]
      obtain⟨i8,pM,E9⟩:=x
      try dsimp only
      split
      .exact cc ⟨c4,dF,g',rfl,rfl,eJ,nO,oB⟩
      .refine cn (Oz eJ nO (by omega) (by show dF.size-2+1<dF.size;omega) λiq AZ tw te yM Xq=>?_)
       rw[aD (by decide)]
       exact cc ⟨iq,AZ,tw,rfl,rfl,te.ab,yM,oB.keep λi a b=>te.out i (.inr a)⟩
     .rw[aD c]
      exact cc ⟨c4,dF,g',rfl,rfl,eJ,nO,oB⟩
    .rintro b aM ⟨c4,dF,g',rfl,rfl,eJ,nO,oB⟩
     try dsimp only
     refine cn (pk (cn (pk (cc ⟨c4,_,g',lo+m,rfl,rfl,eJ,?_,by omega,by omega⟩))))
     show Runs X c4 (((dF.modify (dF.size-1) λx=>(x.1,x.2.1,_)).push (lo,m,0)).toList) 0 (lo+m)
     rw[GB,Zt]
     exact Runs.snoc (Runs.i9 nO) (by omega) oB
 .rintro b aM ⟨q,a_,g',lo,rfl,rfl,eJ,R,gy,e_⟩
  have:lo=X.n:=by omega
  subst this
  exact⟨q,a_,g',rfl,rfl,eJ,R⟩
 .rintro b aM ⟨q,a_,g',rfl,U,eJ,R⟩
  obtain⟨d6,dC⟩:=b
  dsimp only at U
  subst U
  try dsimp only
  refine ko (Post:=λb aM=>∃q a_ g',aM=ST X q a_ g'∧b=(none,())∧cU X.n q∧Runs X q a_.toList 0 X.n∧a_.size≤1)
   (λk b aM=>∃q a_ g',aM=ST X q a_ g'∧b=(none,())∧cU X.n q∧Runs X q a_.toList 0 X.n∧a_.size+k≤X.n+1) ⟨q,a_,g',rfl,rfl,eJ,R,by have:=R.le;rw[uJ]at this;omega⟩ ?_ ?_ ?_
  .rintro k b aM aK ⟨q,a_,g',rfl,rfl,eJ,R,gy⟩
   refine cn (m9 ?_)
   show W X (if a_.size≤1 then _ else _) _ _
   by_cases c:a_.size≤1
   .rw[aI c]
    exact cc ⟨q,a_,g',rfl,rfl,eJ,R,c⟩
   rw[aD c]
   refine cn (Oz eJ R (b1 _) ?_ λiq AZ tw te yM Xq=>?_)
   .have le:∀(c:Prop)[Decidable c],(if c then a_.size-2-1 else a_.size-2)+1<a_.size:=λc _=>by split<;>omega
    exact le _
   rw[aD (by decide)]
   exact cc ⟨iq,AZ,tw,rfl,rfl,te.ab,yM,by omega⟩
  .rintro b aM ⟨q,a_,g',rfl,rfl,eJ,R,gy⟩
   exact⟨q,a_,g',rfl,rfl,eJ,R,by omega⟩
  .rintro b aM ⟨q,a_,g',rfl,rfl,eJ,R,gy⟩
   refine cc (h q a_ g' eJ ?_)
   have EF:a_.toList.length≤1:=by simpa using gy
   rcases e:a_.toList with _|⟨x,_|⟨y,l⟩⟩
   .rw[e]at R
    have R:0=X.n:=R
    omega
   .rw[e]at R
    obtain⟨_,_,df,k6⟩:=R
    have k6:0+x.2.1=X.n:=k6
    rw[←k6]
    exact df
   .rw[e]at EF
    simp at EF
theorem X8{lt:Nat→Nat→Bool}{n:Nat}(ok:h2 n lt):∀{a b:List Nat},a.Perm b→(∀x∈a,x<n)→a.Pairwise (λi j=>lt i j=true)→b.Pairwise (λi j=>lt i j=true)→a=b
 |[],b,p,_,_,_=>p.nil_eq
 |x::a,[],p,_,_,_=>bB p.length_eq (by simp)
 |x::a,y::b,p,ln,aO,bX=>by
  rw[HK]at aO bX
  have J4:x=y:=by
   rcases fy.mp (p.mem_iff.mp (.head _):x∈y::b)with e|e
   .exact e
   .rcases fy.mp (p.mem_iff.mpr (.head _):y∈x::a)with ay|ay
    .exact ay.symm
    .have h:=ok.hg _ _ _ (aO.1 y ay) (bX.1 x e)
     rw[ok.LY]at h
     cases h
  subst J4
  rw[X8 ok (ĵ p) (λz bQ=>ln z (.tail _ bQ)) aO.2 bX.2]
theorem akU{prog:bT}{w:bJ}{A:c5}{E:Value→ax→Prop}{s:ax}{κ:my}{vs:List Value}{lt:Nat→Nat→Bool}(af:2≤vs.length)(ok:h2 vs.length lt)(aF:∀i j C,i<vs.length→j<vs.length→C (lt i j) s→qz prog w A κ vs i j C s):
  aX (br prog w) A ((sortRuns').run (mz κ (vs.toArray.zip vs.toArray) #[] 7 none)) (λr s'=>s'=s∧(gE r.2).map (·.2)=kS (e3 d5 lt vs)∧rp r.2=none) E s:=by
 let X:Ctx:=⟨prog,w,A,E,κ,Nd vs,s,vs.length,lt,λi j C aj aN dO=>by have:=aF i j C aj aN dO;rw[kas_ask_eq]at this;exact this,ok⟩
 have ab:cU vs.length (kS (c_ vs.length)):=PS _
 have run:=acT (X:=X) (p:=kS (c_ vs.length)) (g:=7) (Q:=λ_ aM=>(gE aM).map (·.2)=kS (e3 d5 lt vs)∧rp aM=none) ab af λq dF g' eJ df=>?_
 .have Dq:mz κ (vs.toArray.zip vs.toArray) #[] 7 none=ST X (kS (c_ vs.length)) #[] 7:=by
   have e:=kas_range (Nd vs)
   rw[pairsOf_size]at e
   show mz κ (Nd vs) #[] 7 none=mz κ ((kS (c_ vs.length)).map (kas_item (Nd vs))) #[] 7 none
   rw[e]
  rw[Dq]
  exact run
 .refine⟨?_,rfl⟩
  have eq:e3 d5 lt vs=q.toList.map λi=>vs.getD i d5:=by
   unfold e3
   congr 1
   refine(X8 ok ((eJ.list).trans (ED lt vs.length).symm) (λx ao=>eJ.lt (by simpa using ao)) ?_ (lw ok)).symm
   rw[sU]
   intro i j aj aN n6
   have i_:q.size=vs.length:=eJ.size
   have z5:j<vs.length:=by rw[←i_];simpa using aN
   have:=df i j (ea _) n6 z5
   rw[FA aj,FA aN]at this
   exact this
  rw[eq]
  exact kat_snds (ks:=vs) rfl rfl
end PV
namespace cA
open PySem PySem.Spec PyProof.Rows ai PySem.W
section
variable{prog:bT}{w:bJ}{A:c5}{E:Value→ax→Prop}{s:ax}{vs:List Value}{κ:my}{lt:Nat→Nat→Bool}
theorem ģ{a:Addr}{e:Nat}{R:abt→ax→Prop}(a9:s.heap.get? a=some (fp "list" vs.toArray e))(bQ:vs.length≤sizeLine)(ok:h2 vs.length lt)(aK:2≤vs.length→∀s1:ax,ll a s.heap s1.heap→∀Q:my→ax→Prop,Q κ s1→aX (br prog w) A (As vs.toArray) Q (λ_ _=>False) s1)(ar:2≤vs.length→∀s1:ax,ll a s.heap s1.heap→∀i j C,i<vs.length→j<vs.length→C (lt i j) s1→qz prog w A κ vs i j C s1)(h:∀h' c,ll a s.heap h'→h'.get? a=some (fp "list" (kS (e3 d5 lt vs)) c)→R (.done (.ret .none)) {s with heap:=h'}):
  aX (br prog w) A (Builtin.«list.sort» ⟨[.ref a],[]⟩) R E s:=by
 have emptied:=Kf a9 λ_=>(#[]:Array Value)
 obtain⟨av,z_⟩:∃k,(s.heap.update a (kT λ_=>(#[]:Array Value))).get? a=some (fp "list" #[] k):=⟨_,emptied⟩
 have gB:ll a s.heap (s.heap.update a (kT λ_=>(#[]:Array Value))):=λb o U q=>(x8 _ _ _ _ U).trans q
 rw[ajA]
 refine aJ (listItems_at a9 rfl (aJ (Mk a9 rfl ?_ (by rw[eC];exact bQ) (ea _))))
 refine aJ (N1 z_ rfl (aJ (Yu ?_ bQ)))
 refine aJ (Gl (jQ ?_) (ea _))
 dsimp only
 generalize iF:((s.heap.update a (kT λ_=>(#[]:Array Value))).push (fp "tuple" vs.toArray 0)).push (fp "list" #[] 0)=ak
 have tF:ak.get? a=some (fp "list" #[] av):=by
  rw[←iF]
  exact dy _ (dy _ z_)
 have dZ:ll a s.heap ak:=λb o U q=>by
  rw[←iF]
  exact dy _ (dy _ (gB b o U q))
 have tail:∀(x:Unit×SortSt)(out:List Value),(gE x.2).map (·.2)=out.toArray→rp x.2=none→out.length≤sizeLine→out=e3 d5 lt vs→
   aX (br prog w) A (do
    let now ←seqEpoch a
    ZQ (.ref a) λ_=>(gE x.2).map (·.2)
    match rp x.2 with
    |some dK=>do
     rule "list.sort.comparison-raised"
     throw dK
     if(now !=av)=true then do
      rule "list.sort.modified"
      NH "ValueError" "list modified during sort"
      ret d5
     else ret d5
    |_=>
     if(now !=av)=true then do
      rule "list.sort.modified"
      NH "ValueError" "list modified during sort"
      ret d5
     else ret d5) R E {s with heap:=ak}:=λx out ay cv Aw zc=>by
  refine aJ (N1 tF rfl (aJ (Mk tF rfl ?_ (ea _) ?_)))
  .rw[cv]
   dsimp only
   rw[aD (by simp)]
   obtain⟨c,aF⟩:∃c,(ak.update a (kT λ_=>(gE x.2).map (·.2))).get? a=some (fp "list" ((gE x.2).map (·.2)) c):=⟨_,Kf tF λ_=>(gE x.2).map (·.2)⟩
   refine bM (h _ c (λb o U q=>(x8 _ _ _ _ U).trans (dZ b o U q)) ?_)
   rw[aF,ay,zc]
  .rw[ay,eC]
   exact Nat.le_succ_of_le Aw
 by_cases af:(vs.toArray.size<2)
 .rw[aI af,aI af]
  have fC:vs.length<2:=by rw[eC]at af;exact af
  refine aJ (bM (aJ (bM ?_)));refine tail ((),mz general' (vs.toArray.zip vs.toArray) #[] 7 none) vs ?_ rfl bQ (YJ _ _ fC).symm
  show(vs.toArray.zip vs.toArray).map (·.2)=vs.toArray
  apply Cb.mp
  simp only[Zs,Zu]
  exact Ŏ (b1 _)
 .rw[aD af,aD af]
  have fC:2≤vs.length:=by rw[eC]at af;omega
  refine aJ (fa (aK fC {s with heap:=ak} dZ (λuI s'=>uI=κ∧s'={s with heap:=ak}) ⟨rfl,rfl⟩) ?_ λ_ _ x=>x.elim)
  rintro uI s' ⟨rfl,rfl⟩
  have run:=PV.akU (prog:=prog) (w:=w) (A:=A) (E:=E) (s:={s with heap:=ak}) (κ:=uI) (vs:=vs) fC ok (λi j C aj aN dO=>ar fC _ dZ i j C aj aN dO)
  refine aJ (fa run ?_ λ_ _ x=>x)
  rintro⟨⟨⟩,st⟩ s' ⟨rfl,dC,kf⟩
  exact tail ((),st) _ dC kf (by rw[AF];exact bQ) rfl
end
open PySem PySem.Spec PyProof.Rows ai PySem.W
section
variable{prog:bT}{w:bJ}{A:c5}{E:Value→ax→Prop}{s:ax}{vs:List Value}{κ:my}{lt:Nat→Nat→Bool}
theorem Z3{l:Addr}{Q:Value→ax→Prop}(ar:s.heap.IsList l vs.toArray)(big:vs.length≤sizeLine)(ok:h2 vs.length lt)(aK:2≤vs.length→∀s1:ax,iJ s.heap s1.heap→∀Q:my→ax→Prop,Q κ s1→aX (br prog w) A.in1.in1 (As vs.toArray) Q (λ_ _=>False) s1)(aH:2≤vs.length→∀s1:ax,iJ s.heap s1.heap→∀i j C,i<vs.length→j<vs.length→C (lt i j) s1→qz prog w A.in1.in1 κ vs i j C s1)(h:∀D h' c,s.heap.objs.size≤D→iJ s.heap h'→h'.get? D=some (fp "list" (kS (e3 d5 lt vs)) c)→Q (.ref D) {s with heap:=h'}):
  aX (br prog w) A (call (.builtin "sorted") ([.ref l]:List Value)) Q E s:=by
 refine P1 VY WW TF (S8 (.ref l)) ?_;unfold Builtin.«sorted»
 refine aJ (m:=Te "sorted" 1 1 _) (bM (aJ (collect_list ar ?_ big)))
 refine aJ (Gl ?_ big)
 generalize mR:(s.heap.push (fp "list" #[] 0)).update s.heap.objs.size (kT (·++vs.toArray))=G
 have gs:G.objs.size=s.heap.objs.size+1:=by rw[←mR,Ù,size_push']
 have gB:iJ s.heap G:=λb o q=>by
  have U:=en (du q)
  rw[←mR,x8 _ _ _ _ U]
  exact dy _ q
 show aX _ _ _ _ _ {s with heap:=G.push (fp "list" vs.toArray 0)}
 have cq:(G.push (fp "list" vs.toArray 0)).get? G.objs.size=some (fp "list" vs.toArray 0):=gD _ rfl
 have dZ:iJ s.heap (G.push (fp "list" vs.toArray 0)):=λb o q=>dy _ (gB b o q)
 have oO:∀h',ll G.objs.size (G.push (fp "list" vs.toArray 0)) h'→iJ s.heap h':=λh' x b o q=>x b o (en (by rw[gs];exact CT (du q))) (dZ b o q)
 refine aJ (jQ (oM Xj ⟨_,cq,rfl⟩ TC ?_ (S7 _)))
 refine ģ (s:={s with heap:=G.push (fp "list" vs.toArray 0)}) (κ:=κ) (lt:=lt) cq big ok (λaf s1 x=>aK af s1 (oO _ x)) (λaf s1 x=>aH af s1 (oO _ x)) λh' c x aF=>?_
 exact⟨_,rfl,bM ⟨_,rfl,h _ h' c (by rw[gs];exact vk _) (oO _ x) aF⟩⟩
end
section
variable{X:bw}
theorem alQ:jH X (.builtin "sorted") (λxs H Q=>∃(p:Addr)(ts:List Addr)(ds:List (List bj))(b:Bool)(mf:List Bool),xs=[.ref p]∧aR X.K H p (ts.map V.ref)∧bZ (λr d=>H r=some (.tup (d.map cQ))) ts ds∧h2 ts.length (h3 ds)∧(∀d∈ds,hC d=b::mf)∧
  ∀l,H l=none→Q (.ref l) (upd H l (.lst (e3 .bR (h3 ds) (ts.map V.ref))))):=by
 intro pins s σ H xs us Q I r h
 obtain⟨p,ts,ds,b,mf,rfl,bg,di,ako,l0,q⟩:=h
 obtain⟨u,rfl,e4⟩:=vals1 r
 cases e4
 obtain⟨its,b7,pl,bQ⟩:=I.list bg
 have hlen:=b7.length
 rw[bc]at hlen
 obtain rfl:=Nz b7
 have Lw:(ts.map da).length≤sizeLine:=by first|exact bQ|simpa using bQ
 have ahm:ts.length=ds.length:=iy di
 have at_:∀i,i<ts.length→∃d its,(ts.map da).getD i d5=.ref ts[i]!∧ds.getD i []=d∧hC d=b::mf∧cj (d.map cQ) its∧IsTup s.heap ts[i]! its.toArray:=λi aj=>by
  have av:ts[i]?=some ts[i]:=cg aj
  have ay:ds[i]?=some ds[i]:=cg (by omega)
  have cv:ts[i]! =ts[i]:=by simp[aj]
  have aQ:H ts[i]=some (.tup (ds[i].map cQ)):=by
   have:∀{l:List Addr}{m:List (List bj)}{k:Nat}{x:Addr}{y:List bj},bZ (λr d=>H r=some (.tup (d.map cQ))) l m→l[k]?=some x→m[k]?=some y→H x=some (.tup (y.map cQ)):=λ{l m k x y}P=>by
    induction P generalizing k with
    |nil=>intro h;simp at h
    |cons a t ba=>
     cases k with
     |zero=>intro ag af;simp at ag af;subst ag;subst af;exact a
     |succ k=>intro ag af;simp at ag af;exact ba ag af
   exact this di av ay
  obtain⟨_,its,v1,t1⟩:=I.bh _ _ aQ
  refine⟨ds[i],its,?_,?_,l0 _ (eg _),v1,?_⟩
  .rw[cY,b8,av,cv];rfl
  .rw[cY,ay];rfl
  .rw[cv];exact t1
 refine Z3 (κ:=tuples' true) (lt:=h3 ds) pl.isList Lw (by rw[bc];exact ako) (λaf s1 x o3 eu=>?_) (λaf s1 x i j C aj aN dO=>?_) λD h' c hle x aF=>?_
 .obtain⟨fs,k1,k2,k3⟩:=GV I.bh x di λd hd=>⟨mf,l0 d hd⟩
  rw[bc]at af
  refine kat_kind (T:=F6 b) k1 (by omega) (λv bG=>?_) (by cases b<;>decide+kernel) ?_
  .obtain⟨k,d3,ox⟩:=k3 v bG
   subst d3
   cases k with
   |inl i=>obtain⟨t,rfl⟩:=ox;exact CN rfl
   |inr i=>obtain⟨t,rfl⟩:=ox;exact CN rfl
  .have e:(F6 b !=s_ "tuple")=true:=by cases b<;>decide+kernel
   rw[e]
   exact eu
 .rw[bc]at aj aN
  obtain⟨d,its,a1,a2,ft,hl,o,a9,_,n,hA⟩:=at_ i aj
  obtain⟨d',its',d6,dC,kf,nP,cO,i3,_,kv,KX⟩:=at_ j aN
  unfold qz
  rw[a1,d6]
  have gy:=hl.length
  have e_:=nP.length
  rw[bc]at gy e_
  have l9:d.length=d'.length:=by
   have e:=eK sQ (ft.trans kf.symm)
   simpa[hC]using e
  refine kat_lt (b:=true) (x _ _ a9) hA (x _ _ i3) KX ?_
  rw[eF (by rw[eC,eC];omega)]
  refine Fh d d' its its' 0 hl nP (ft.trans kf.symm) ?_
  have:h3 ds i j=lexLt d d':=by unfold h3;rw[a2,dC]
  rw[←this]
  exact dO
 .refine⟨.ref D,_,I.laid (a:=D) (o:=.lst (e3 .bR (h3 ds) (ts.map V.ref))) (t':=s.toks) (λb o q=>x b o q) hle ?_,rfl,q D (I.bh.fresh hle)⟩
  refine⟨?_,_,c,EN b7,aF⟩
  rw[AF]
  rw[bc]at Lw⊢
  exact Lw
noncomputable def ltI(ns:List Int)(i j:Nat):Bool:=decide (i<ns.length∧j<ns.length∧ns.getD i 0<ns.getD j 0)
theorem acU{ns:List Int}(aE:ns.Nodup):h2 ns.length (ltI ns)where
 hg:=λi j k ag af=>by
  have ag:=jM ag
  have af:=jM af
  exact dp ⟨ag.1,af.2.1,by omega⟩
 to:=λi j aj aN ne=>by
  have av:ns.getD i 0=ns[i]:=by rw[cY,cg aj];rfl
  have ay:ns.getD j 0=ns[j]:=by rw[cY,cg aN];rfl
  have fj:ns.getD i 0≠ns.getD j 0:=λz=>ne ((vi aE).mp (by rw[←av,←ay];exact z))
  rcases Int.lt_or_lt_of_ne fj with z|z
  .exact .inl (dp ⟨aj,aN,z⟩)
  .exact .inr (dp ⟨aN,aj,z⟩)
 LY:=λi=>eF λz=>by omega
noncomputable def sortI(ns:List Int):List Int:=e3 0 (ltI ns) ns
theorem sortI_perm(ns:List Int):(sortI ns).Perm ns:=Yg _ _ _
theorem Ĥ{ns:List Int}(aE:ns.Nodup):(sortI ns).Pairwise (· < ·):=by
 unfold sortI e3
 rw[lF]
 exact(lw (acU aE)).imp λz=>(jM z).2.2
theorem Qr(ns:List Int):e3 V.bR (ltI ns) (ns.map V.int)=(sortI ns).map V.int:=by
 unfold sortI e3
 rw[gk,bc]
 refine sS λi aj=>?_
 have:=wq aj
 show(ns.map V.int).getD i .bR=V.int (ns.getD i 0)
 rw[cY,b8,cg this,cY,cg this]
 rfl
section
variable{prog:bT}{w:bJ}{A:c5}{s:ax}{ns:List Int}{us:List Value}
theorem Pd(r:cj (ns.map V.int) us){i:Nat}(aj:i<us.length):∃t,us.getD i d5=.int (ns.getD i 0) t:=by
 have ar:=r.length
 rw[bc]at ar
 obtain⟨u,cf,t,rfl⟩:=r.get (x:=V.int (ns.getD i 0)) (i:=i) (by rw[b8,cg (by omega),cY,cg (by omega)];rfl)
 exact⟨t,by rw[cY,cf];rfl⟩
theorem X9(r:cj (ns.map V.int) us)(af:2≤us.length){Q:my→ax→Prop}(h:Q M_ s):aX (br prog w) A (As us.toArray) Q (λ_ _=>False) s:=by
 refine kas_kind (T:=.type "int") af (λv bG=>?_) (by decide+kernel) (by decide+kernel) h
 obtain⟨i,aj,rfl⟩:=jd bG
 obtain⟨t,e⟩:=Pd r aj
 rw[cY,cg aj]at e
 have e:us[i]=.int (ns.getD i 0) t:=e
 rw[e]
 exact CN rfl
theorem Zb(r:cj (ns.map V.int) us){i j:Nat}(aj:i<us.length)(aN:j<us.length){C:Bool→ax→Prop}(h:C (ltI ns i j) s):qz prog w A M_ us i j C s:=by
 have ar:=r.length
 rw[bc]at ar
 obtain⟨t,av⟩:=Pd r aj
 obtain⟨u,ay⟩:=Pd r aN
 unfold qz
 rw[av,ay]
 refine kat_lt_int ?_
 have e:ltI ns i j=decide (ns.getD i 0<ns.getD j 0):=decide_eq_decide.mpr ⟨λz=>z.2.2,λz=>⟨by omega,by omega,z⟩⟩
 rw[←e]
 exact h
end
theorem aa1{P:bT}{w:bJ}{n:Int}{v:Value}(h:(gV P w).is (.inl n) v=true):RelV (V.int n) v:=by
 obtain⟨t,e⟩:=aet h
 exact⟨t,e⟩
end
open PySem PySem.Spec PyProof.Rows ai
theorem acV{a b:Str}(h:a.cps.toList=b.cps.toList):a=b:=by
 cases a
 cases b
 simp only[Cb]at h
 rw[h]
theorem G1:∀a:List bj,lexLt a a=false
 |[]=>rfl
 |.inl a::r=>by
  show(if a=a then lexLt r r else _)=false
  rw[aI rfl]
  exact G1 r
 |.inr a::r=>by
  show(if a=a then lexLt r r else _)=false
  rw[aI rfl]
  exact G1 r
theorem G2:∀a b:List bj,hC a=hC b→a≠b→lexLt a b=true∨lexLt b a=true
 |[],[],_,n=>bB rfl n
 |[],.inl _::_,h,_=>by cases h
 |[],.inr _::_,h,_=>by cases h
 |.inl _::_,[],h,_=>by cases h
 |.inr _::_,[],h,_=>by cases h
 |.inl a::r,.inr b::q,h,_=>by cases h
 |.inr a::r,.inl b::q,h,_=>by cases h
 |.inl a::r,.inl b::q,h,n=>by
  show(if a=b then lexLt r q else decide (a<b))=true∨(if b=a then lexLt q r else decide (b<a))=true
  by_cases e:a=b
  .subst e
   rw[aI rfl,aI rfl]
   exact G2 r q (Ru h).2 λz=>n (by rw[z])
  .rw[aD e,aD (dG e),kZ,kZ]
   omega
 |.inr a::r,.inr b::q,h,n=>by
  show(if a=b then lexLt r q else decide (a.cps.toList<b.cps.toList))=true∨(if b=a then lexLt q r else decide (b.cps.toList<a.cps.toList))=true
  by_cases e:a=b
  .subst e
   rw[aI rfl,aI rfl]
   exact G2 r q (Ru h).2 λz=>n (by rw[z])
  .rw[aD e,aD (dG e),kZ,kZ]
   by_cases l:a.cps.toList<b.cps.toList
   .exact .inl l
   .by_cases e_:b.cps.toList<a.cps.toList
    .exact .inr e_
    .exact bB (acV (List.le_antisymm (ő.mp e_) (ő.mp l))) e
theorem G4:∀a b c:List bj,lexLt a b=true→lexLt b c=true→lexLt a c=true
 |[],_,_,h,_=>by cases h
 |.inl _::_,[],_,h,_=>by cases h
 |.inr _::_,[],_,h,_=>by cases h
 |.inl _::_,.inr _::_,_,h,_=>by cases h
 |.inr _::_,.inl _::_,_,h,_=>by cases h
 |.inl _::_,.inl _::_,[],_,h=>by cases h
 |.inr _::_,.inr _::_,[],_,h=>by cases h
 |.inl _::_,.inl _::_,.inr _::_,_,h=>by cases h
 |.inr _::_,.inr _::_,.inl _::_,_,h=>by cases h
 |.inl a::r,.inl b::q,.inl c::p,ag,af=>by
  have jo:(if a=b then lexLt r q else decide (a<b))=true:=ag
  have fC:(if b=c then lexLt q p else decide (b<c))=true:=af
  show(if a=c then lexLt r p else decide (a<c))=true
  by_cases av:a=b
  .subst av
   rw[aI rfl]at jo
   by_cases ay:a=c
   .rw[aI ay]at fC⊢
    exact G4 r q p jo fC
   .rw[aD ay]at fC⊢
    exact fC
  .rw[aD av,kZ]at jo
   by_cases ay:b=c
   .subst ay
    rw[aD av,kZ]
    exact jo
   .rw[aD ay,kZ]at fC
    rw[aD (by omega),kZ]
    omega
 |.inr a::r,.inr b::q,.inr c::p,ag,af=>by
  have jo:(if a=b then lexLt r q else decide (a.cps.toList<b.cps.toList))=true:=ag
  have fC:(if b=c then lexLt q p else decide (b.cps.toList<c.cps.toList))=true:=af
  show(if a=c then lexLt r p else decide (a.cps.toList<c.cps.toList))=true
  by_cases av:a=b
  .subst av
   rw[aI rfl]at jo
   by_cases ay:a=c
   .rw[aI ay]at fC⊢
    exact G4 r q p jo fC
   .rw[aD ay]at fC⊢
    exact fC
  .rw[aD av,kZ]at jo
   by_cases ay:b=c
   .subst ay
    rw[aD av,kZ]
    exact jo
   .rw[aD ay,kZ]at fC
    have hg:=List.lt_trans jo fC
    rw[aD λz=>by rw[z]at hg;exact List.lt_irrefl _ hg,kZ]
    exact hg
theorem Qs{ds:List (List bj)}{mf:List Bool}(l0:∀d∈ds,hC d=mf)(aE:ds.Nodup):h2 ds.length (h3 ds)where
 hg:=λi j k ag af=>G4 _ _ _ ag af
 to:=λi j aj aN ne=>by
  have av:ds.getD i []=ds[i]:=by rw[cY,cg aj];rfl
  have ay:ds.getD j []=ds[j]:=by rw[cY,cg aN];rfl
  unfold h3
  rw[av,ay]
  refine G2 _ _ ((l0 _ (eg aj)).trans (l0 _ (eg aN)).symm) λz=>ne ?_
  exact(List.getElem?_inj aj aE).mp (by rw[cg aj,cg aN,z])
 LY:=λi=>G1 _
end cA
namespace fx
open PySem ai cA a'
theorem Qt{α:Type}{R:α→α→Prop}(as:∀a b,R a b→R b a→False):∀{a b:List α},a.Perm b→a.Pairwise R→b.Pairwise R→a=b
 |[],b,p,_,_=>p.nil_eq
 |x::a,[],p,_,_=>bB p.length_eq (by simp)
 |x::a,y::b,p,aO,bX=>by
  rw[HK]at aO bX
  have J4:x=y:=by
   rcases fy.mp (p.mem_iff.mp (.head _):x∈y::b)with e|e
   .exact e
   .rcases fy.mp (p.mem_iff.mpr (.head _):y∈x::a)with ay|ay
    .exact ay.symm
    .exact(as _ _ (aO.1 y ay) (bX.1 x e)).elim
  subst J4
  rw[Qt as (ĵ p) aO.2 bX.2]
theorem Z6(rs:List Row):(BZ rs).Perm rs:=by
 unfold BZ Hq
 refine((ED _ _).map _).trans ?_
 rw[show(c_ rs.length).map (λi=>rs.getD i r0)=rs from ?_]
 refine ve (by simp) λi ag af=>?_
 rw[yq,yr,cY,cg af]
 rfl
theorem Qu:∀{kvs:List (List bj×ai.V)},(∀p∈kvs,∃r:Row,p=([.inr r.1,.inr r.2.1],.int r.2.2))→∃rs,kvs=dU rs
 |[],_=>⟨[],rfl⟩
 |p::q,h=>by
  obtain⟨r,rfl⟩:=h p (.head _)
  obtain⟨rs,rfl⟩:=Qu (kvs:=q) λp aQ=>h p (.tail _ aQ)
  exact⟨r::rs,rfl⟩
noncomputable def jN(c:Int×Nat):List ai.V:=[.int c.1,.int (c.2:Int)]
noncomputable def kz(c:Int×Nat):List bj:=[.inl c.1,.inl (c.2:Int)]
theorem acu{a b:Int×Nat}(h:kz a=kz b):a=b:=by
 unfold kz at h
 simp only[HB,Sum.inl.injEq,and_true]at h
 exact vp h.1 (by omega)
theorem adE{cs:List (Int×Nat)}(aE:cs.Nodup):(cs.map kz).Nodup:=lF.mpr (aE.imp λh z=>h (acu z))
theorem Zc(cs:List (Int×Nat)):∀d∈cs.map kz,hC d=true::[true]:=λd hd=>by
 obtain⟨r,_,rfl⟩:=bV.mp hd
 rfl
noncomputable def iC(cs:List (Int×Nat)):List (Int×Nat):=(og (h3 (cs.map kz)) cs.length).map λi=>cs.getD i (0,0)
theorem vZ(cs:List (Int×Nat)):(iC cs).Perm cs:=by
 unfold iC
 refine((ED _ _).map _).trans ?_
 rw[show(c_ cs.length).map (λi=>cs.getD i (0,0))=cs from ?_]
 refine ve (by simp) λi ag af=>?_
 rw[yq,yr,cY,cg af]
 rfl
noncomputable def WS(a b:Int×Nat):Prop:=a.1<b.1∨(a.1=b.1∧a.2<b.2)
theorem acv{a b:Int×Nat}(h:cA.lexLt (kz a) (kz b)=true):WS a b:=by
 have h':(if a.1=b.1 then(if(a.2:Int)=(b.2:Int)then cA.lexLt [] []else decide ((a.2:Int)<(b.2:Int)))else decide (a.1<b.1))=true:=h
 by_cases e:a.1=b.1
 .rw[aI e]at h'
  by_cases ay:(a.2:Int)=(b.2:Int)
  .rw[aI ay]at h'
   cases h'
  .rw[aD ay,kZ]at h'
   exact .inr ⟨e,by omega⟩
 .rw[aD e,kZ]at h'
  exact .inl h'
theorem Æ{cs:List (Int×Nat)}(aE:cs.Nodup):(iC cs).Pairwise WS:=by
 unfold iC
 rw[lF]
 have ok:=Qs (Zc cs) (adE aE)
 rw[bc]at ok
 refine Rq ?_ (lw ok)
 intro i j aj aN h
 have e:∀i,i<cs.length→(cs.map kz).getD i []=kz (cs.getD i (0,0)):=λi aj=>by
  rw[cY,b8,cY,cg aj]
  rfl
 unfold h3 at h
 rw[e i (wq aj),e j (wq aN)]at h
 exact acv h
theorem X1{H:ae}:∀{ts:List Addr}{cs:List (Int×Nat)},dn H ts (cs.map jN)→bZ (λr d=>H r=some (.tup (d.map cQ))) ts (cs.map kz)
 |_,[],h=>by cases h;exact .nil
 |_,c::cs,h=>by cases h with|cons a t=>exact .cons a (X1 t)
theorem È{H:ae}{ts:List Addr}{cs:List (Int×Nat)}(di:dn H ts (cs.map jN)):∃gS,e3 V.bR (h3 (cs.map kz)) (aL ts)=aL gS∧dn H gS ((iC cs).map jN):=by
 have ln:(aL ts).length=cs.length:=by
  have:=di.len
  rw[bc]at this
  rw[fS,this]
 unfold e3 iC
 rw[ln]
 have all:∀is:List Nat,(∀i∈is,i<cs.length)→∃gS,(is.map λi=>(aL ts).getD i .bR)=aL gS∧dn H gS ((is.map λi=>cs.getD i (0,0)).map jN):=λis=>by
  induction is with
  |nil=>intro _;exact⟨[],rfl,.nil⟩
  |cons i q ba=>
   intro aj
   obtain⟨gS,av,Oq⟩:=ba λj aN=>aj j (.tail _ aN)
   have lt:=aj i (.head _)
   have Mp:i<ts.length:=by rw[fS]at ln;omega
   have ay:ts[i]?=some ts[i]:=cg Mp
   obtain⟨y,ag,af⟩:=bZ.get di ay
   rw[b8,cg lt]at ag
   cases ag
   refine⟨ts[i]::gS,?_,.cons ?_ Oq⟩
   .rw[fX,av]
    show(aL ts).getD i .bR::aL gS=V.ref ts[i]::aL gS
    congr 1
    show((aL ts)[i]?).getD .bR=_
    unfold aL
    rw[b8,ay]
    rfl
   .show H ts[i]=some (d4.tup (jN (cs.getD i (0,0))))
    rw[show cs.getD i (0,0)=cs[i] by rw[cY,cg lt];rfl]
    exact af
 exact all _ λi aj=>wq aj
noncomputable def jK(ns:List Nat):List Int:=ns.map λn:Nat=>(n:Int)
noncomputable def i0(ns:List Nat):List Nat:=(sortI (jK ns)).map Cz
theorem aa2{ns:List Nat}(aE:ns.Nodup):(jK ns).Nodup:=lF.mpr (aE.imp λh z=>h (by omega))
theorem FC(ns:List Nat):jK (i0 ns)=sortI (jK ns):=by
 unfold i0 jK
 rw[gk]
 have:∀x∈sortI (ns.map λn:Nat=>(n:Int)),((λn:Nat=>(n:Int))∘Cz) x=x:=λx ao=>by
  obtain⟨n,_,rfl⟩:=bV.mp ((sortI_perm _).mem_iff.mp ao)
  rfl
 rw[sS this,HG]
theorem rm(ns:List Nat):(i0 ns).Perm ns:=by
 have h:=(sortI_perm (jK ns)).map Cz
 have e:(jK ns).map Cz=ns:=by
  unfold jK
  rw[gk]
  have:∀x∈ns,(Cz∘λn:Nat=>(n:Int)) x=x:=λx _=>mq x
  rw[sS this,HG]
 rw[e]at h
 exact h
theorem ĥ{ns:List Nat}(aE:ns.Nodup):(i0 ns).Pairwise (· < ·):=by
 have h:=Ĥ (aa2 aE)
 rw[←FC]at h
 unfold jK at h
 exact(lF.mp h).imp λz=>by omega
noncomputable def sG(room:Int)(q:List (Int×Nat)):List Nat:=i0 (((iC q).take room.toNat).map (·.2))
noncomputable def kl(E:List (Nat×Addr)):List (bj×ai.V):=E.map λe=>(iz (e.1:Int),.ref e.2)
structure nN(mn H:ae)(p:Addr)(E:List (Nat×Addr))(q:Nat→List (Int×Nat)):Prop where
 tab:H p=some (.ct (kl E))
 pL:(E.map (·.1)).Nodup
 na:(E.map (·.2)).Nodup
 each:∀e∈E,mn e.2=none∧e.2≠p∧∃ts,H e.2=some (.lst (aL ts))∧dn H ts ((q e.1).map jN)
theorem nN.same{mn H H':ae}{p:Addr}{E:List (Nat×Addr)}{q:Nat→List (Int×Nat)}(h:nN mn H p E q)(aC:aP H H'):nN mn H' p E q:=
 ⟨aC _ _ h.tab,h.pL,h.na,λe he=>let⟨a,b,ts,c,d⟩:=h.each e he;⟨a,b,ts,aC _ _ c,d.same aC⟩⟩
theorem Fj:∀{E:List (Nat×Addr)},(E.map (·.1)).Nodup→∀{r:Nat}{l:Addr},(r,l)∈E→cz (kl E) (iz (r:Int):bj)=some (.ref l)
 |[],_,_,_,h=>nomatch h
 | (r0,wF)::E,aE,r,l,h=>by
  rw[fX,jU]at aE
  rcases fy.mp h with e|e
  .cases e
   exact kW rfl
  .show cz ((iz (r0:Int),V.ref wF)::kl E) _=_
   rw[kh (λz=>aE.1 (by
    have dt:(r0:Int)=(r:Int):=SH z
    have:r0=r:=by omega
    rw[this]
    exact bV.mpr ⟨_,e,rfl⟩))]
   exact Fj aE.2 e
theorem Pe:∀{E:List (Nat×Addr)}{r:Nat},r∉E.map (·.1)→cz (kl E) (iz (r:Int):bj)=none
 |[],_,_=>rfl
 | (r0,wF)::E,r,h=>by
  show cz ((iz (r0:Int),V.ref wF)::kl E) _=_
  rw[kh (λz=>h (by
   have dt:(r0:Int)=(r:Int):=SH z
   have:r0=r:=by omega
   rw[this]
   exact .head _))]
  exact Pe λz=>h (.tail _ z)
theorem nN.new{mn H:ae}{p iN:Addr}{E:List (Nat×Addr)}{q:Nat→List (Int×Nat)}(h:nN mn H p E q){r:Nat}(aw:r∉E.map (·.1))(w7:q r=[])(MY:mn iN=none)(bQ:H iN=some (.lst []))(ME:∀e∈E,e.2≠iN):
  nN mn (upd H p (.ct (ec (kl E) (iz (r:Int)) (.ref iN)))) p (E++[(r,iN)]) q:=by
 have np:iN≠p:=λz=>by rw[z,h.tab]at bQ;cases bQ
 refine⟨?_,?_,?_,λe he=>?_⟩
 .rw[a4,wm _ (Pe aw)]
  unfold kl
  rw[ek]
  rfl
 .rw[ek]
  exact EJ h.pL aw
 .rw[ek]
  refine EJ h.na λz=>?_
  obtain⟨e,he,ay⟩:=bV.mp z
  exact ME e he ay
 .rcases el.mp he with z|z
  .obtain⟨a,b,ts,c,d⟩:=h.each e z
   exact⟨a,b,ts,by rw[aG b];exact c,d.upd h.tab (by intro d z;cases z)⟩
  .rw[e8.mp z]
   refine⟨MY,np,[],by rw[aG np];exact bQ,?_⟩
   show dn _ [] ((q r).map jN)
   rw[w7]
   exact .nil
theorem nN.add{mn H:ae}{p l t:Addr}{E:List (Nat×Addr)}{q:Nat→List (Int×Nat)}{ts:List Addr}(h:nN mn H p E q){r:Nat}(aw:(r,l)∈E){c:Int×Nat}(ar:H l=some (.lst (aL ts)))(di:dn H ts ((q r).map jN))(cw:H t=some (.tup (jN c)))(az:mn t=none):
  nN mn (upd H l (.lst (aL ts++[V.ref t]))) p E (λcm=>if cm=r then q r++[c]else q cm):=by
 obtain⟨a0,vA,_⟩:=h.each _ aw
 have vA:l≠p:=vA
 have uniq:∀e∈E,e.2=l→e=(r,l):=λe he z=>by
  obtain⟨i,aj,iD⟩:=jd he
  obtain⟨j,aN,eP⟩:=jd aw
  have av:(E.map (·.2))[i]'(by rw[bc];exact aj)=(E.map (·.2))[j]'(by rw[bc];exact aN):=by
   rw[yq,yq,iD,eP,z]
  have:=(vi h.na).mp av
  subst this
  rw[←iD,eP]
 refine⟨by rw[aG (dG vA)];exact h.tab,h.pL,h.na,λe he=>?_⟩
 obtain⟨a,b,gS,gq,d⟩:=h.each e he
 refine⟨a,b,?_⟩
 by_cases z:e.2=l
 .obtain rfl:=uniq e he z
  refine⟨ts++[t],by rw[a4,p_],?_⟩
  show dn _ _ ((if r=r then q r++[c]else q r).map jN)
  rw[aI rfl,ek]
  exact dn.upd (Paired.snoc (F:=λr d=>H r=some (.tup d)) cw di) ar (by intro d z;cases z)
 .refine⟨gS,by rw[aG z];exact gq,?_⟩
  have fL:e.1≠r:=λy=>z (by
   obtain⟨i,aj,iD⟩:=jd he
   obtain⟨j,aN,eP⟩:=jd aw
   have av:(E.map (·.1))[i]'(by rw[bc];exact aj)=(E.map (·.1))[j]'(by rw[bc];exact aN):=by
    rw[yq,yq,iD,eP,y]
   have:=(vi h.pL).mp av
   subst this
   rw[←iD,eP])
  show dn _ _ ((if e.1=r then q r++[c]else q e.1).map jN)
  rw[aD fL]
  exact d.upd ar (by intro d z;cases z)
noncomputable def dN(due:Nat→Int)(rd:Nat→Nat)(T:Int)(go:List Nat)(r:Nat):List (Int×Nat):=(go.filter λn=>decide (due n≤T)&&decide (rd n=r)).map λn=>(due n,n)
theorem Rl{due:Nat→Int}{rd:Nat→Nat}{T:Int}{go:List Nat}{n:Nat}(h:¬due n≤T):dN due rd T (go++[n])=dN due rd T go:=by
 funext r
 unfold dN
 rw[lE,ek]
 simp[vf,h]
theorem FD{due:Nat→Int}{rd:Nat→Nat}{T:Int}{go:List Nat}{n:Nat}(h:due n≤T):dN due rd T (go++[n])=λcm=>if cm=rd n then dN due rd T go (rd n)++[(due n,n)]else dN due rd T go cm:=by
 funext r
 unfold dN
 rw[lE,ek]
 by_cases e:r=rd n
 .subst e
  simp[vf,h]
 .simp[vf,h,e,dG e]
theorem Qv(due:Nat→Int)(rd:Nat→Nat)(T:Int)(go:List Nat)(r:Nat):(dN due rd T go r).length≤go.length:=by
 unfold dN
 rw[bc]
 exact nH _ _
noncomputable def G5(hs:List (List Nat))(kvs:c9)(gs:List Str)(sss:List (List Step))(due:Nat→Int)(rd:Nat→Nat)(n:Nat):Prop:=∃(ss:List Step)(s:Step)(y:Str),sss[n]?=some (ss++[s])∧s.due=due n∧gs[n]?=some y∧s.dv∈hs.map S∧y∈hs.map S∧s.dv≠y∧cz kvs (dM s.dv y)=some (.int (rd n:Int))
noncomputable def fi(go:List Nat):List ai.V:=go.map λn:Nat=>V.int (n:Int)
noncomputable def aa3(hs:List (List Nat))(kvs:c9)(gs:List Str)(sss:List (List Step))(due:Nat→Int)(n:Nat):Prop:=∃(ss:List Step)(s:Step)(y:Str),sss[n]?=some (ss++[s])∧s.due=due n∧gs[n]?=some y∧s.dv∈hs.map S∧y∈hs.map S∧s.dv≠y∧cz kvs (dM s.dv y)=none
noncomputable def Qw(hw:Nat→Bool)(hs:List (List Nat))(kvs:c9)(gs:List Str)(sss:List (List Step))(due:Nat→Int)(rd:Nat→Nat)(n:Nat):Prop:=(hw n=true∧G5 hs kvs gs sss due rd n)∨(hw n=false∧aa3 hs kvs gs sss due n)
inductive adF(K:a3)(C eT bA:Addr)(vs:(List ai.V))(H:ae)(Q:bk)(bF:cy):Prop where
 |mk (x n g st gl y kv t bx aZ:Addr) (gs:List Str) (ls:List Addr) (sss:List (List Step)) (hs:List (List Nat)) (ys:List ai.V) (kvs:c9) (go:List Nat) (hw:Nat→Bool) (due:Nat→Int) (rd:Nat→Nat) (T:Int) (b4:vs=[.ref x,.ref gl,.ref y,.int T]) (bL:WalkAt C H x n g st gs ls sss) (cG:aR K H gl (fi go)) (c2:kn eT bA H y kv t bx aZ (dr hs) ys kvs) (dR:Good hs) (eW:go.length≤100) (h8:(∀k∈go,Qw hw hs kvs gs sss due rd k)) (jz:∀(p:Addr)(H':ae)(E:List (Nat×Addr)),H p=none→aP H H'→nN H H' p E (dN due rd T (go.filter hw))→(∀r,r∈E.map (·.1)↔dN due rd T (go.filter hw) r≠[])→Q (.ref p) H')
noncomputable def Ig(K:a3)(C eT bA:Addr):cW:=λvs H Q bF=>adF K C eT bA vs H Q bF
section
variable{P:bT}{w:bJ}{K:a3}{aa:Str→Option Value}{base:Heap}
noncomputable abbrev Bg:Stmt:=top 16
theorem yl:dT ["walk","going","ways","turn","queues","number","came","road"] ["walk","going","ways","turn"] (dh Bg):=⟨rfl,rfl,rfl,by decide+kernel,rfl,by decide+kernel,by decide+kernel⟩
theorem adG{C eT bA e9 f f1 f2 dc f4:Addr}{fd fv gw nY rq:cP}(F:b0 K "queues_at" "queues_at" Bg f fd)(cx:pI K C)(mB:oh K eT)(mF:eD K C "last_turn" "Walk.last_turn" uc ["self","number"] f1 fv)(y3:aY P w K aa base bu 1 f1 fv ["self","number"] (AX C))(rb:eD K C "last_house" "Walk.last_house" xc ["self","number"] f2 gw)(Kd:aY P w K aa base bu 1 f2 gw ["self","number"] (Fx C))(Es:eD K C "goal" "Walk.goal" BY ["self","number"] dc nY)(amT:aY P w K aa base bu 1 dc nY ["self","number"] (GP C))(Ex:eD K eT "way" "Ways.way" Bm ["self","house","goal"] f4 rq)(M4:aY P w K aa base (gC P w) 3 f4 rq ["self","house","goal"] (Im eT bA e9)):
  aY P w K aa base bu 4 f fd ["walk","going","ways","turn"] (Ig K C eT bA):=by
 have kY:=cx.cl
 have jY:=mB.cl
 refine F.ok yl (λvs H Q E h=>?_) (λbC A outer s H vs Q E aw h=>?_)
 .obtain⟨x,n,g,st,gl,y,kv,t,bx,aZ,gs,ls,sss,hs,ys,kvs,go,hw,due,rd,T,rfl,_⟩:=h
  rfl
 .obtain⟨x,n,g,st,gl,y,kv,t,bx,aZ,gs,ls,sss,hs,ys,kvs,go,hw,due,rd,T,rfl,W,n5,lL,G,cM,ok,q⟩:=h
  obtain⟨au,ao⟩:=W.ins
  obtain⟨y6,aT⟩:=lL.ins
  refine⟨_,(bO (dB (i:=4) yl.aE rfl (cC rfl) YX)
   (bO (hV hF rfl (hn (ah 1)) (de (i:=5) yl.aE rfl (cC rfl))
    (bO (dB (i:=6) yl.aE rfl (cC rfl) (hU (ah 0) kY mF.gI y3 (aw.mono (by decide)) mF.bd .nil dI (aB (ah 5) a8)))
   (bW (f5 (gf uj (ah 6) (ah 3) (fu _)) (bO (dB (i:=7) yl.aE rfl (cC rfl) (hU (ah 2) jY Ex.gI M4 (aw.mono (by decide)) Ex.bd .nil Co (aB (hU (ah 0) kY rb.gI Kd (aw.mono (by decide)) rb.bd .nil dI (aB (ah 5) a8)) (aB (hU (ah 0) kY Es.gI amT (aw.mono (by decide)) Es.bd .nil dI (aB (ah 5) a8)) a8))))
   (bW (f5 (gf Qf (ah 7) w3 (fu _)) (bW (iB (pH p4 p5 p6 nR (ü (ah 4) (ah 7) (k7 a8) ⟨rfl,rfl,rfl,rfl⟩) (aB (hu (aB (ah 6) (aB (ah 5) a8))) a8)))) f3))) f3))))
   (bW (dH (ah 4))))),?_⟩
  refineλp aQ=>?_
  have s0:aP H (upd H p (.ct [])):=cH aQ
  refine⟨_,rfl,gl,rfl,⟨_,s0.seq n5⟩,?_⟩
  refine nV (xs:=fi go) (λi σ a7=>∃(E:List (Nat×Addr))(v1 v2 gK:Option ai.V),σ=[some (.ref x),some (.ref gl),some (.ref y),some (.int T),some (.ref p),v1,v2,gK]∧aP H a7∧nN H a7 p E (dN due rd T ((go.take i).filter hw))∧(∀r,r∈E.map (·.1)↔dN due rd T ((go.take i).filter hw) r≠[])∧E.length≤i)
   ⟨[],none,none,none,rfl,s0,⟨a4,mu,mu,λe he=>nomatch he⟩,λr=>⟨λz=>(nomatch z),λz=>bB rfl z⟩,b1 _⟩ (λi σ a7 _⟨_,_,_,_,_,h,_⟩=>h.seq n5) ?_ ?_
  .rintro i z σ a7 cV ⟨E,v1,v2,gK,rfl,aC,kD,mem,le⟩
   unfold fi at cV
   rw[b8]at cV
   obtain⟨k,d3,rfl⟩:=eh.mp cV
   have ajo:i<go.length:=(fW.mp d3).1
   have a5:go.take (i+1)=go.take i++[k]:=by
    rw[kR,d3]
    rfl
   have p8:=W.same aC
   rcases ok k (eI d3)with⟨Lo,ss,s1,nB,av,ay,cv,er,gM,jZ,y7⟩|⟨Lo,ss,s1,nB,av,ay,cv,er,gM,jZ,y7⟩
   .have a5:(go.take (i+1)).filter hw=(go.take i).filter hw++[k]:=by
     rw[a5,lE,vf,aI Lo,ł]
    refine⟨_,rfl,x,au,_,rfl,aC _ _ ao,rfl,_,rfl,x,n,g,st,gs,ls,sss,k,ss,s1,rfl,p8,av,?_⟩
    refine⟨_,rfl,_,rfl,_,_,rfl,rfl,_,rfl,?_⟩
    by_cases hd:due k≤T
    .refine f6 (dp (by rw[ay];exact hd)) ?_
     refine⟨_,rfl,y,y6,_,rfl,aC _ _ aT,rfl,_,rfl,x,au,_,rfl,aC _ _ ao,rfl,_,rfl,x,n,g,st,gs,ls,sss,k,ss,s1,rfl,p8,av,_,rfl,x,au,_,rfl,aC _ _ ao,rfl,_,rfl,x,n,g,st,gs,ls,sss,k,nB,rfl,p8,cv,?_⟩
     refine⟨y,kv,t,bx,aZ,hs,_,kvs,s1.dv,nB,rfl,lL.same aC,G,w9 G er,w9 G gM,λ_ ak s2=>?_,λz=>bB (OP er gM jZ) (by rw[z];decide)⟩
     rw[y7]
     refine⟨_,rfl,rfl,_,rfl,f6 (by simp) ?_⟩
     have i':=aC.trans s2
     have Np:=kD.same s2
     refine⟨_,rfl,p,rfl,.inl ⟨_,.inl Np.tab⟩,_,rfl,ea _,λiN MV=>?_⟩
     have s3:=cH (o:=.lst []) MV
     have r5:=Np.same s3
     have FU:=i'.trans s3
     have bQ:upd ak iN (.lst []) iN=some (.lst []):=a4
     have WJ:=l5 i' MV
     have ME:∀e∈E,e.2≠iN:=λe he z=>by
      obtain⟨_,_,ts,c,_⟩:=Np.each e he
      rw[z,MV]at c
      cases c
     generalize upd ak iN (.lst [])=bD at s3 r5 FU bQ⊢
     have eL:(kl E).length=E.length:=bc _
     refine⟨kl E,iz (rd k:Int),rfl,r5.tab,fh (by omega),λv bG=>?_,λh0=>?_⟩
     .have il:rd k∈E.map (·.1):=by
       by_cases z:rd k∈E.map (·.1)
       .exact z
       .rw[Pe z]at bG
        cases bG
      obtain⟨⟨r0,l⟩,he,cF⟩:=bV.mp il
      have cF:r0=rd k:=cF
      subst cF
      rw[Fj r5.pL he]at bG
      cases bG
      obtain⟨nl,_,ts,ar,di⟩:=r5.each _ he
      refine⟨.inl ⟨rfl,_,aR.of ar⟩,_,rfl,_,rfl,(by show 2≤sizeLine;decide),λr fL=>?_⟩
      have s4:=cH (o:=.tup [V.int s1.due,V.int (k:Int)]) fL
      have Nq:=r5.same s4
      have aw:upd bD r (.tup [V.int s1.due,V.int (k:Int)]) r=some (.tup (jN (due k,k))):=by rw[a4,ay];rfl
      have cS:=di.len
      refine⟨l,_,_,rfl,rfl,s4 _ _ ar,fh (by rw[fS];rw[bc]at cS;have:=Qv due rd T ((go.take i).filter hw) (rd k);have e_:=nH hw (go.take i);rw[gb]at e_;have aoF:ts.length=(dN due rd T ((go.take i).filter hw) (rd k)).length:=cS;omega),?_⟩
      refine⟨E,_,_,_,rfl,hH nl (FU.trans s4),?_,?_,by omega⟩
      .rw[a5,FD hd]
       exact Nq.add he (s4 _ _ ar) (di.same s4) aw (l5 FU fL)
      .intro cm
       rw[a5,FD hd,mem cm]
       dsimp only
       by_cases z:cm=rd k
       .subst z
        rw[aI rfl]
        exact⟨λ_=>by simp,λ_=>(mem _).mp il⟩
       .rw[aD z]
     .have il:rd k∉E.map (·.1):=λz=>by
       obtain⟨⟨r0,l⟩,he,cF⟩:=bV.mp z
       have cF:r0=rd k:=cF
       subst cF
       rw[Fj r5.pL he]at h0
       cases h0
      have w7:dN due rd T ((go.take i).filter hw) (rd k)=[]:=by
       by_cases z:dN due rd T ((go.take i).filter hw) (rd k)=[]
       .exact z
       .exact bB ((mem _).mpr z) il
      have ov:=r5.new il w7 WJ bQ ME
      have N9:aP H (upd bD p (.ct (ec (kl E) (iz (rd k:Int)) (.ref iN)))):=hH aQ FU
      have np:iN≠p:=λz=>by rw[z,r5.tab]at bQ;cases bQ
      have Ek:upd bD p (.ct (ec (kl E) (iz (rd k:Int)) (.ref iN))) iN=some (.lst (aL [])):=by rw[aG np];exact bQ
      generalize upd bD p (.ct (ec (kl E) (iz (rd k:Int)) (.ref iN)))=d0 at ov N9 Ek⊢
      have he:(rd k,iN)∈E++[(rd k,iN)]:=el.mpr (.inr (.head _))
      refine⟨.inl ⟨rfl,_,aR.of Ek⟩,_,rfl,_,rfl,(by show 2≤sizeLine;decide),λr fL=>?_⟩
      have s4:=cH (o:=.tup [V.int s1.due,V.int (k:Int)]) fL
      have Nq:=ov.same s4
      have aw:upd d0 r (.tup [V.int s1.due,V.int (k:Int)]) r=some (.tup (jN (due k,k))):=by rw[a4,ay];rfl
      refine⟨iN,_,_,rfl,rfl,s4 _ _ Ek,(by show 0<sizeLine;decide),?_⟩
      refine⟨E++[(rd k,iN)],_,_,_,rfl,hH WJ (N9.trans s4),?_,?_,by rw[ff];show E.length+1≤i+1;omega⟩
      .rw[a5,FD hd]
       exact Nq.add (ts:=[]) he (s4 _ _ Ek) (by rw[w7];exact .nil) aw (l5 N9 fL)
      .intro cm
       rw[a5,FD hd,ek,el,mem cm]
       dsimp only
       by_cases z:cm=rd k
       .subst z
        rw[aI rfl]
        exact⟨λ_=>by simp,λ_=>.inr (.head _)⟩
       .rw[aD z]
        exact⟨λy=>y.elim id λy=>bB (e8.mp y) z,.inl⟩
    .refine gh (eF (by rw[ay];exact hd)) ?_
     exact⟨E,_,_,gK,rfl,aC,by rw[a5,Rl hd];exact kD,by rw[a5,Rl hd];exact mem,by omega⟩
   .have a5:(go.take (i+1)).filter hw=(go.take i).filter hw:=by
     rw[a5,lE,vf,aD (by rw[Lo];decide),ł,jS]
    refine⟨_,rfl,x,au,_,rfl,aC _ _ ao,rfl,_,rfl,x,n,g,st,gs,ls,sss,k,ss,s1,rfl,p8,av,?_⟩
    refine⟨_,rfl,_,rfl,_,_,rfl,rfl,_,rfl,?_⟩
    by_cases hd:due k≤T
    .refine f6 (dp (by rw[ay];exact hd)) ?_
     refine⟨_,rfl,y,y6,_,rfl,aC _ _ aT,rfl,_,rfl,x,au,_,rfl,aC _ _ ao,rfl,_,rfl,x,n,g,st,gs,ls,sss,k,ss,s1,rfl,p8,av,_,rfl,x,au,_,rfl,aC _ _ ao,rfl,_,rfl,x,n,g,st,gs,ls,sss,k,nB,rfl,p8,cv,?_⟩
     refine⟨y,kv,t,bx,aZ,hs,_,kvs,s1.dv,nB,rfl,lL.same aC,G,w9 G er,w9 G gM,λ_ ak s2=>?_,λz=>bB (OP er gM jZ) (by rw[z];decide)⟩
     rw[y7]
     refine⟨_,rfl,rfl,_,rfl,gh (by simp) ?_⟩
     exact⟨E,_,_,_,rfl,aC.trans s2,by rw[a5];exact kD.same s2,by rw[a5];exact mem,by omega⟩
    .refine gh (eF (by rw[ay];exact hd)) ?_
     exact⟨E,_,_,gK,rfl,aC,by rw[a5];exact kD,by rw[a5];exact mem,by omega⟩
  .rintro σ a7 ⟨E,v1,v2,gK,rfl,aC,kD,mem,le⟩
   unfold fi at kD mem
   rw[bc,ka]at kD mem
   exact⟨_,rfl,q p a7 E aQ aC kD mem⟩
end
end fx
namespace cA
open PySem PySem.Spec PyProof.Rows ai
section
variable{X:bw}
theorem alR:jH X (.builtin "sorted") (λxs H Q=>∃(p:Addr)(ns:List Int),xs=[.ref p]∧aR X.K H p (ns.map V.int)∧ns.length<64∧∀l,H l=none→Q (.ref l) (upd H l (.lst ((sortI ns).map V.int)))):=by
 intro pins s σ H xs us Q I r h
 obtain⟨p,ns,rfl,bg,Aw,q⟩:=h
 obtain⟨u,rfl,e4⟩:=vals1 r
 cases e4
 obtain⟨its,b7,pl,bQ⟩:=I.list bg
 have hlen:=b7.length
 rw[bc]at hlen
 refine Yh (κ:=M_) (lt:=ltI ns) pl.isList (by omega) (λaf s1 x o3 eu=>X9 b7 af eu) (λaf s1 x i j C aj aN dO=>Zb b7 aj aN dO) λD h' c hle x aF=>?_
 refine⟨.ref D,_,I.laid (a:=D) (o:=.lst ((sortI ns).map V.int)) (t':=s.toks) (λb o q=>x b o q) hle ?_,rfl,q D (I.bh.fresh hle)⟩
 rw[←Qr]
 refine⟨?_,_,c,EN b7,aF⟩
 rw[AF]
 exact bQ
theorem ul(aF:X.calm=true):jH X (.builtin "sorted") (λxs H Q=>∃(p:Addr)(kvs:List (bj×V))(ns:List Int),xs=[.ref p]∧H p=some (.ct kvs)∧kvs.map (·.1)=ns.map iz∧ns.length<64∧∀l,H l=none→Q (.ref l) (upd H l (.lst ((sortI ns).map V.int)))):=by
 intro pins s σ H xs us Q I r h
 obtain⟨p,kvs,ns,rfl,aQ,d3,Aw,q⟩:=h
 obtain⟨u,rfl,e4⟩:=vals1 r
 cases e4
 have ef:X.A.handled=none:=I.ok.hd aF
 obtain⟨B7,lo,ys,rel,o,es,ep,a9,ao,hd,_,tI,az⟩:=Do I.bh aQ
 have b7:cj (ns.map V.int) (es.toList.map (·.key)):=by
  have gen:∀{kvs:List (bj×V)}{ys:List (bj×Value)}{eL:List qZ}{ns:List Int},f_ kvs ys→Pairs (gV X.prog X.w) eL ys→kvs.map (·.1)=ns.map iz→cj (ns.map V.int) (eL.map (·.key)):=by
   intro kvs ys eL ns rel pr
   induction pr generalizing kvs ns with
   |nil=>
    intro e
    cases rel
    cases ns with
    |nil=>exact .nil
    |cons _ _=>cases e
   |cons ag af t ba=>
    intro e
    cases rel with
    |cons a b=>
     cases ns with
     |nil=>cases e
     |cons n ns=>
      rw[fX,fX,HB]at e
      refine .cons ?_ (ba b e.2)
      rw[←a.1,e.1]at ag
      exact aa1 ag
  exact gen rel tI d3
 have ar:=b7.length
 rw[bc]at ar
 have iL:kvs.length=ns.length:=by have:=eK sQ d3;simpa using this
 refine Zx (κ:=M_) (lt:=ltI ns) lo ef ⟨o,a9,ao,hd⟩ rfl (by omega) (λaf s1 x o3 eu=>X9 b7 af eu) (λaf s1 x i j C aj aN dO=>Zb b7 aj aN dO) λag D h' t c gB hle x aF=>?_
 have aS:Inv X pins σ H {s with heap:=ag,toks:=t}:=I.kept (t':=t) λb o e=>gB b o e
 refine⟨.ref D,_,aS.laid (a:=D) (o:=.lst ((sortI ns).map V.int)) (t':=t) (λb o q=>x b o q) hle ?_,rfl,q D (aS.bh.fresh hle)⟩
 rw[←Qr]
 refine⟨?_,_,c,EN b7,aF⟩
 rw[AF,bc]
 omega
end
end cA
namespace fx
open PySem ai cA a'
theorem aa7{K:a3}{wi:TI}{cs:List (Option Nat)}{bY:TE}{σ rest:ai.St}{H:ae}{Q:bk}{ds:List (List ai.V)}(hw:∀R:e7→ae→Prop,(∀p H1 ts,H p=none→aP H H1→H1 p=some (.lst (aL ts))→dn H1 ts ds→R (jc K p) H1)→wi σ H R)(gx:gO cs σ=none::none::rest)(ar:ds.length<sizeLine)(f:Nat→ai.V)(two:∀d∈ds,∃u v,d=[u,v])(elt:∀(i:Nat)(u v:ai.V)(ak:ae)(R:bk),ds[i]?=some [u,v]→aP H ak→(∀bU,aP ak bU→R (f i) bU)→bY (some u::some v::rest) ak R)(fin:∀(D:Addr)(H':ae),H D=none→H' D=some (.lst ((c_ ds.length).map f))→aP H H'→Q (.ref D) H'):kI wi cs (uG K 2 (m7 (gr 0) (m7 (gr 1) uP))) qR bY σ H Q:=by
 refine hw _ λp H1 ts np s1 aQ di D cq=>?_
 have ln:=di.len
 refine⟨λi m ys a6 H'=>m=ds.length-i∧i≤ds.length∧ys=(c_ i).map f∧(∃i8 pM,a6=i8::pM::rest)∧aP H1 H'∧H' D=some (.lst ys),⟨ds.length,by simp,ea _,rfl,⟨none,none,by rw[gx]⟩,λb o e=>?_,a4⟩,?_⟩
 .rw[aG (dg e cq)]
  exact e
 .rintro i m ys a6 H' ⟨rfl,aj,rfl,⟨i8,pM,rfl⟩,aC,et⟩
  obtain⟨fP,fD,hO⟩:=n0 (aR.of (K:=K) aQ) H' aC
  refine⟨et,lG (by rw[bc,hi];omega) ar,?_⟩
  rw[fS]at fP fD hO
  by_cases bN:i<ds.length
  .refine .inr ⟨fD i (by omega),λx ak y=>?_⟩
   obtain⟨rfl,ex⟩:=hO i x ak (by omega) y
   unfold aL at ex
   rw[b8]at ex
   obtain⟨t,qc,rfl⟩:=eh.mp ex
   obtain⟨d,c',hd⟩:=bZ.get di qc
   have hd:=aC _ _ hd
   obtain⟨u,v,rfl⟩:=two d (eI c')
   refine⟨t,_,rfl,b2.of hd,rfl,_,_,rfl,_,_,rfl,rfl,?_⟩
   show bY (some u::some v::rest) ak _
   refine elt i u v ak _ c' (s1.trans aC) λbU s5=>⟨s5 _ _ et,ds.length-(i+1),by omega,rfl,bN,?_,⟨_,_,rfl⟩,λb ob e=>?_,a4⟩
   .rw[yu,ek]
    rfl
   .rw[aG (dg e cq)]
    exact s5 _ _ (aC _ _ e)
  .have e:i=ds.length:=by omega
   subst e
   rw[ln]at fP
   exact .inl ⟨fP,fin D H' (l5 s1 cq) et (s1.trans aC)⟩
theorem Cu{i:Nat}{v:ai.V}{σ:ai.St}{H:ae}{Q:ai.St→ae→Prop}(h:Q (σ.set i (some v)) H):gr i v σ H Q:=h
theorem iZ.upd{H:ae}{a l:Addr}{b:fE×List Nat}{xs ys:List ai.V}(h:iZ H a b)(ar:H l=some (.lst xs)):iZ (ai.upd H l (.lst ys)) a b:=by
 obtain⟨c,ag,af⟩:=h
 exact⟨c,by rw[aG λz=>by rw[z,ar]at ag;cases ag];exact ag,by rw[aG λz=>by rw[z,ar]at af;cases af];exact af⟩
theorem Ħ(ts:List Addr){m:Int}(h:0≤m):u7 (aL ts) none (some m)=aL (ts.take m.toNat):=by
 obtain⟨k,rfl⟩:∃k:Nat,m=(k:Int):=⟨m.toNat,by omega⟩
 unfold u7
 have f1:hR.iu (aL ts).length 0 none=0:=rfl
 have f2:hR.iu (aL ts).length (aL ts).length (some (k:Int))=min k (aL ts).length:=hR.ak0 (aL ts).length (aL ts).length k
 rw[f1,f2,vl,sO,mq]
 unfold aL
 rw[bc,vj]
 by_cases z:k≤ts.length
 .rw[RR z]
 .rw[Nat.min_eq_right (by omega),HM (by rw[bc];exact b1 _),HM (by rw[bc];omega)]
theorem X'{H:ae}:∀{ts:List Addr}{ds:List (List ai.V)}(k:Nat),dn H ts ds→dn H (ts.take k) (ds.take k)
 |_,_,0,_=>by rw[CL,CL];exact .nil
 |_,_,k+1,.nil=>.nil
 |_,_,k+1,.cons a t=>.cons a (X' k t)
noncomputable def hW(ds:List a'.bz)(due:Nat→Int)(rd:Nat→Nat)(T:Int)(go:List Nat)(r:Nat):fE×List Nat:=((T,r),sG (ir ds r) (dN due rd T go r))
theorem Qx(due:Nat→Int)(rd:Nat→Nat)(T:Int)(go:List Nat)(r:Nat):(dN due rd T go r).map (·.2)=go.filter λn=>decide (due n≤T)&&decide (rd n=r):=by
 unfold dN
 rw[gk]
 exact HG _
theorem Rm{due:Nat→Int}{rd:Nat→Nat}{T:Int}{go:List Nat}{r:Nat}(aE:go.Nodup):(dN due rd T go r).Nodup:=by
 have h:((dN due rd T go r).map (·.2)).Nodup:=by rw[Qx];exact aE.filter _
 exact(lF.mp h).imp λh z=>h (by rw[z])
theorem Qy{due:Nat→Int}{rd:Nat→Nat}{T:Int}{go:List Nat}{r:Nat}(aE:go.Nodup)(k:Nat):(((iC (dN due rd T go r)).take k).map (·.2)).Nodup:=by
 have h:((iC (dN due rd T go r)).map (·.2)).Nodup:=by
  refine(((vZ _).map _).nodup_iff).mpr ?_
  rw[Qx]
  exact aE.filter _
 rw[vj]
 exact h.sublist (oX _ _)
theorem Gu(ns:List Nat):fi ns=(jK ns).map V.int:=by
 unfold fi jK
 rw[gk]
 rfl
inductive adH(K:a3)(C eT bA:Addr)(vs:(List ai.V))(H:ae)(Q:bk)(bF:cy):Prop where
 |mk (x n g st gl y t bx aZ:Addr) (gs:List Str) (ls rs:List Addr) (sss:List (List Step)) (hs:List (List Nat)) (ds:List a'.bz) (kvs:c9) (go:List Nat) (due:Nat→Int) (rd:Nat→Nat) (T:Int) (b4:vs=[.ref n,.ref x,.ref gl,.ref y,.int T]) (bL:WalkAt C H x n g st gs ls sss) (cG:aR K H gl (fi go)) (c2:kn eT bA H y n t bx aZ (dr hs) (aL rs) kvs) (dR:hp H hs rs ds) (eW:Good hs) (h8:go.length≤60) (jz:go.Nodup) (oP:(∀k∈go,G5 hs kvs gs sss due rd k)) (xw:(∀k∈go,rd k<ds.length)) (B2:∀(l:Addr)(H':ae)(as:List Addr)(gY:List Nat),H l=none→aP H H'→H' l=some (.lst (aL as))→bZ (iZ H') as (gY.map (hW ds due rd T go))→gY.Pairwise (· < ·)→(∀r,r∈gY↔dN due rd T go r≠[])→Q (.ref l) H')
noncomputable def CY(K:a3)(C eT bA:Addr):cW:=λvs H Q bF=>adH K C eT bA vs H Q bF
inductive acw(K:a3)(C eT bA:Addr)(vs:(List ai.V))(H:ae)(Q:bk)(bF:cy):Prop where
 |mk (x n g st gl y t bx aZ:Addr) (gs:List Str) (ls rs:List Addr) (sss:List (List Step)) (hs:List (List Nat)) (ds:List a'.bz) (kvs:c9) (rz:List Nat) (hw:Nat→Bool) (go:List Nat) (due:Nat→Int) (rd:Nat→Nat) (T:Int) (b4:vs=[.ref n,.ref x,.ref gl,.ref y,.int T]) (bL:go=rz.filter hw) (cG:WalkAt C H x n g st gs ls sss) (c2:aR K H gl (fi rz)) (dR:kn eT bA H y n t bx aZ (dr hs) (aL rs) kvs) (eW:hp H hs rs ds) (h8:Good hs) (jz:rz.length≤60) (oP:rz.Nodup) (xw:(∀k∈rz,Qw hw hs kvs gs sss due rd k)) (B2:(∀k∈go,rd k<ds.length)) (Y1:∀(l:Addr)(H':ae)(as:List Addr)(gY:List Nat),H l=none→aP H H'→H' l=some (.lst (aL as))→bZ (iZ H') as (gY.map (hW ds due rd T go))→gY.Pairwise (· < ·)→(∀r,r∈gY↔dN due rd T go r≠[])→Q (.ref l) H')
noncomputable def Hx(K:a3)(C eT bA:Addr):cW:=λvs H Q bF=>acw K C eT bA vs H Q bF
theorem acx{K:a3}{C eT bA:Addr}{vs:List ai.V}{H:ae}{Q:bk}{E:cy}(h:CY K C eT bA vs H Q E):Hx K C eT bA vs H Q E:=by
 obtain⟨x,n,g,st,gl,y,t,bx,aZ,gs,ls,rs,sss,hs,ds,kvs,go,due,rd,T,rfl,W,n5,lL,R,G,cM,EY,ok,FI,q⟩:=h
 exact⟨x,n,g,st,gl,y,t,bx,aZ,gs,ls,rs,sss,hs,ds,kvs,go,λ_=>true,go,due,rd,T,rfl,(Ł.mpr λ_ _=>rfl).symm,W,n5,lL,R,G,cM,EY,λk aK=>.inl ⟨rfl,ok k aK⟩,FI,q⟩
section
variable{P:bT}{w:bJ}{K:a3}{aa:Str→Option Value}{base:Heap}
noncomputable abbrev Ba:Stmt:=top 17
theorem va:dT ["net","walk","going","ways","turn","queues","bags","road","room","chosen"] ["net","walk","going","ways","turn"] (dh Ba):=⟨rfl,rfl,rfl,by decide+kernel,rfl,by decide+kernel,by decide+kernel⟩
theorem acy{C eT bA f f1 f2:Addr}{fd fv gw:cP}(F:b0 K "bags_at" "bags_at" Ba f fd)(B:g4 aa)(gU:g5 K bA)(Ah:dS K aa "queues_at" Bg ["walk","going","ways","turn"] f1 fv)(amU:aY P w K aa base bu 4 f1 fv ["walk","going","ways","turn"] (Ig K C eT bA))(mH:eD K bA "road" "Net.road" rS ["self","number"] f2 gw)(tq:aY P w K aa base bu 1 f2 gw ["self","number"] (Fy bA)):
  aY P w K aa base bu 5 f fd ["net","walk","going","ways","turn"] (Hx K C eT bA):=by
 refine F.ok va (λvs H Q E h=>?_) (λbC A outer s H vs Q E aw h=>?_)
 .obtain⟨x,n,g,st,gl,y,t,bx,aZ,gs,ls,rs,sss,hs,ds,kvs,rz,hw,go,due,rd,T,rfl,_⟩:=h
  rfl
 .obtain⟨x,n,g,st,gl,y,t,bx,aZ,gs,ls,rs,sss,hs,ds,kvs,rz,hw,go,due,rd,T,rfl,JQ,W,n5,lL,R,G,ahL,ajZ,ok,FI,q⟩:=h
  have cM:go.length≤60:=by rw[JQ];exact gm (nH _ _) ahL
  have EY:go.Nodup:=by rw[JQ];exact ajZ.filter _
  obtain⟨fj,az⟩:=lL.i7.ins
  refine⟨_,(bO (dB (i:=5) va.aE rfl (cC rfl) (fT amU (aw.mono (by decide)) (by rfl) Ah.at_ Ah.fn.cN Ah.bd .nil dI (aB (ah 1) (aB (ah 2) (aB (ah 3) (aB (ah 4) a8))))))
   (bO (dB (i:=6) va.aE rfl (cC rfl) (k7 a8))
   (bO (hV hF rfl (hn (gd (ul rfl) (by rfl) B.sorted E1 (aB (ah 5) a8))) (de (i:=7) va.aE rfl (cC rfl))
    (bO (dB (i:=8) va.aE rfl (cC rfl) (b9 d2 (hU (ah 0) gU mH.gI tq (aw.mono (by decide)) mH.bd .nil dI (aB (ah 7) a8)) bl (λ_ _=>rfl)))
   (bO (qg (i:=9) va.aE rfl rfl rfl (N':=["came","number"]) (cs:=[none,none]) rfl (hn (â Ţ (gd amb (by rfl) B.sorted E1 (aB (pw (hJ aw) (ah 5) (ah 7) (λ_ _=>rfl)) a8)) Š (AP (ah 8)))) rfl (by decide+kernel) rfl (by decide+kernel) (jj (λp aQ=>bB aQ (eB))) rfl
    (.own (.own .nil))
    (λC s3 bD cu ey=>⟨(wJ (K:=K) (n:=2) rfl rfl (fZ (de (i:=0) (by show(["came","number"]:List Str).Nodup;decide+kernel) rfl (.inl rfl)) (fZ (de (i:=1) (by show(["came","number"]:List Str).Nodup;decide+kernel) rfl (.inl rfl)) lP))),nZ,(ah 1)⟩))
   (bW (iB (pH p4 p5 p6 nR (ah 6) (aB (hu (aB (ah 4) (aB (ah 7) (aB (ro alM (by rfl) B.tuple YZ (aB (gd alR (by rfl) B.sorted E1 (aB (ah 9) a8)) a8)) a8)))) a8)))))))
   (bW (dH (ah 6)))))),?_⟩
  refine⟨_,rfl,_,rfl,_,rfl,_,rfl,x,n,g,st,gl,y,n,t,bx,aZ,gs,ls,sss,hs,_,kvs,rz,hw,due,rd,T,rfl,W,n5,lL,G,(by omega),ok,λp H1 E np s1 kD mem=>?_⟩
  rw[←JQ]at kD mem
  refine⟨ea _,λbo wU=>?_⟩
  have s2:=cH (o:=.lst []) wU
  have KL:upd H1 bo (.lst []) bo=some (.lst []):=a4
  generalize upd H1 bo (.lst [])=ak at s2 KL⊢
  obtain⟨ks,Dl⟩:∃ks,ks=E.map (·.1):=⟨_,rfl⟩
  have Wv:ks.Nodup:=by rw[Dl];exact kD.pL
  have d3:(kl E).map (·.1)=(jK ks).map iz:=by
   rw[Dl]
   unfold kl jK
   rw[gk,gk,gk]
   rfl
  have aob:ks.length≤go.length:=by
   have af:=pg (sn:=ks) (L:=go.map rd) Wv λr aw=>by
    rw[Dl]at aw
    obtain⟨c,aF⟩:=CJ _ ((mem r).mp aw)
    unfold dN at aF
    obtain⟨k,aK,_⟩:=bV.mp aF
    obtain⟨aU,bP⟩:=d1.mp aK
    simp only[kK,decide_eq_true_eq]at bP
    exact bV.mpr ⟨k,aU,bP.2⟩
   rwa [bc]at af
  refine⟨_,rfl,p,kl E,jK ks,rfl,s2 _ _ kD.tab,d3,(by unfold jK;rw[bc];omega),λbS E7=>⟨bS,rfl,⟨_,aR.of a4⟩,?_⟩⟩
  rw[←FC,←Gu]
  have s3:=cH (o:=.lst (fi (i0 ks))) E7
  have Lj:upd ak bS (.lst (fi (i0 ks))) bS=some (.lst (fi (i0 ks))):=a4
  have U3:=s3 _ _ KL
  have ak2:bS≠bo:=dG (hx KL E7)
  generalize upd ak bS (.lst (fi (i0 ks)))=bD at s3 Lj U3⊢
  obtain⟨gY,tn⟩:∃gY,gY=i0 ks:=⟨_,rfl⟩
  rw[←tn]at Lj
  have Mt:∀r,r∈gY↔dN due rd T go r≠[]:=λr=>by
   rw[tn,(rm ks).mem_iff,Dl]
   exact mem r
  have iL:gY.length≤100:=by
   rw[tn,(rm ks).length_eq]
   omega
  refine nV (xs:=fi (i0 ks)) (λj σ a7=>∃(as:List Addr)(v1 v2 gK:Option ai.V),σ=[some (.ref n),some (.ref x),some (.ref gl),some (.ref y),some (.int T),some (.ref p),some (.ref bo),v1,v2,gK]∧aP H1 a7∧a7 bS=some (.lst (fi gY))∧a7 bo=some (.lst (aL as))∧bZ (iZ a7) as ((gY.take j).map (hW ds due rd T go)))
   ⟨[],none,none,none,rfl,s2.trans s3,Lj,U3,.nil⟩ (λi σ a7 _⟨_,_,_,_,_,_,h,_⟩=>by rw[←tn];exact aR.of h) ?_ ?_
  .rintro j z σ a7 cV ⟨as,v1,v2,gK,rfl,aC,VI,KO,jX⟩
   rw[←tn]at cV
   unfold fi at cV
   rw[b8]at cV
   obtain⟨r,dK,rfl⟩:=eh.mp cV
   have VF:=eI dK
   obtain⟨Tb,U7⟩:=CJ _ ((Mt r).mp VF)
   have aoA:r<ds.length:=by
    unfold dN at U7
    obtain⟨k,aK,_⟩:=bV.mp U7
    obtain⟨aU,bP⟩:=d1.mp aK
    simp only[kK,decide_eq_true_eq]at bP
    rw[←bP.2]
    exact FI k aU
   have NO:=s1.trans aC
   have acI:=R.same NO
   have aoz:=R.len
   obtain⟨fM,era⟩:∃fM,rs[r]?=some fM:=⟨_,cg (by omega)⟩
   obtain⟨d,c',qG,hd⟩:=acI.get era
   have cF:ds.getD r lq=d:=k_ c'
   refine⟨_,rfl,n,fj,_,rfl,NO _ _ az,rfl,_,rfl,n,bx,aZ,_,_,_,_,rfl,lL.i7.same NO,(by omega),(by have:=fS rs;omega),(ho (by unfold aL;rw[b8,era];rfl)),fM,_,_,_,rfl,rfl,b2.of hd,rfl,?_⟩
   have em:(d.m:Int)=ir ds r:=by unfold ir;rw[cF]
   have m0:0≤ir ds r:=by rw[←em];have:=qG.m.1;omega
   obtain⟨cs,y_⟩:∃cs,cs=dN due rd T go r:=⟨_,rfl⟩
   have aoq:cs.Nodup:=by rw[y_];exact Rm EY
   have lcs:cs.length≤60:=by rw[y_];have:=Qv due rd T go r;omega
   have ai5:r∈E.map (·.1):=(mem r).mpr ((Mt r).mp VF)
   obtain⟨⟨r0,aq⟩,he,av⟩:=bV.mp ai5
   have av:r0=r:=av
   subst av
   obtain⟨_,_,ts,aiI,BC⟩:=(kD.same aC).each _ he
   have BC:dn a7 ts (cs.map jN):=by rw[y_];exact BC
   have ai1:=(kD.same aC).tab
   have zJ:=gP.k (k:=iz (r0:Int)) ai1
   rw[Fj kD.pL he]at zJ
   have alE:=BC.len
   rw[bc]at alE
   obtain⟨k,Tw⟩:∃k,k=(ir ds r0).toNat:=⟨_,rfl⟩
   obtain⟨ch,Dj⟩:∃ch,ch=((iC cs).take k).map (·.2):=⟨_,rfl⟩
   have aor:ch.Nodup:=by rw[Dj,y_];exact Qy EY k
   have gi:((iC cs).take k).length≤60:=by
    rw[gb]
    have:=(vZ cs).length_eq
    omega
   refine Cu ?_
   dsimp only
   refine AY ?_
   refine aa7 (K:=K) (rest:=[]) (ds:=((iC cs).take k).map jN) (λkd Kq=>?_) rfl (fh (by rw[bc];omega)) (λi=>V.int ((((iC cs).take k).getD i (0,0)).2:Int)) (λd' kq=>?_) (λi u v bU kd iD s5 c0=>?_) (λD bU qC cq s5=>?_)
   .refine⟨_,rfl,_,rfl,p,_,rfl,zJ,aq,ts,cs.map kz,true,[true],rfl,aR.of aiI,X1 BC,(by omega),Zc cs,λgy t9=>?_⟩
    obtain⟨Ov,Dr,alG⟩:=È BC
    have s4:=cH (o:=.lst (e3 V.bR (h3 (cs.map kz)) (ts.map V.ref))) t9
    have tE:upd a7 gy (.lst (e3 V.bR (h3 (cs.map kz)) (ts.map V.ref))) gy=some (.lst (aL Ov)):=by rw[a4];rw[show ts.map V.ref=aL ts from rfl,Dr]
    refine⟨_,rfl,_,rfl,gy,_,rfl,aR.of tE,λe_ MQ=>⟨e_,rfl,⟨_,aR.of a4⟩,?_⟩⟩
    rw[em,Ħ Ov m0,←Tw]
    refine Kq e_ _ (Ov.take k) (l5 s4 MQ) (s4.trans (cH MQ)) a4 ?_
    rw[vj]
    exact(X' k (alG.same s4)).same (cH MQ)
   .obtain⟨c,_,rfl⟩:=bV.mp kq
    exact⟨_,_,rfl⟩
   .rw[b8]at iD
    obtain⟨c,j0,ay⟩:=eh.mp iD
    have cv:V.int (c.2:Int)=v:=by
     unfold jN at ay
     simp only[HB]at ay
     exact ay.2.1
    refine⟨_,rfl,?_⟩
    rw[←cv]
    have:=c0 bU (aP.refl _)
    rw[k_ j0]at this
    exact this
   have JL:(c_ (((iC cs).take k).map jN).length).map (λi=>V.int ((((iC cs).take k).getD i (0,0)).2:Int))=fi ch:=by
    rw[bc,range_getD (λc:Int×Nat=>V.int (c.2:Int)) (0,0) ((iC cs).take k),Dj]
    unfold fi
    rw[gk]
    rfl
   rw[JL,Gu]at cq
   have KN:=s5 _ _ KO
   have ajw:=iy jX
   rw[bc,gb]at ajw
   refine⟨_,rfl,.inl ⟨rfl,_,aR.of KN⟩,_,rfl,_,rfl,_,rfl,D,jK ch,rfl,aR.of cq,(by unfold jK;rw[bc,Dj,bc];omega),λl9 WB=>⟨l9,_,rfl,.inl ⟨aR.of a4,λc EX=>⟨(by show 3≤sizeLine;decide),λeE t6=>⟨bo,aL as,_,rfl,rfl,cH t6 _ _ (cH EX _ _ (cH WB _ _ KN)),fh (by rw[fS];omega),?_⟩⟩⟩⟩⟩
   rw[←FC,←Gu]
   have h5:=cH (o:=.lst (fi (i0 ch))) WB
   have qi:∀b o,bU b=some o→upd bU l9 (.lst (fi (i0 ch))) b=some o:=h5
   rw[←FC,←Gu]at EX t6
   generalize upd bU l9 (.lst (fi (i0 ch)))=kN at h5 EX t6⊢
   have pO:=cH (o:=.tup (fi (i0 ch))) EX
   have U':upd kN c (.tup (fi (i0 ch))) c=some (.tup (fi (i0 ch))):=a4
   generalize upd kN c (.tup (fi (i0 ch)))=eO at pO U' t6⊢
   have oz:=cH (o:=.tup [V.int T,V.int (r0:Int),V.ref c]) t6
   have U6:upd eO eE (.tup [V.int T,V.int (r0:Int),V.ref c]) eE=some (.tup [V.int T,V.int (r0:Int),V.ref c]):=a4
   have U_:=oz _ _ U'
   generalize upd eO eE (.tup [V.int T,V.int (r0:Int),V.ref c])=h_ at oz U6 U_⊢
   have FQ:=h5.trans (pO.trans oz)
   have U4:=FQ _ _ KN
   have nb:iZ h_ eE (hW ds due rd T go r0):=by
    refine⟨c,U6,?_⟩
    have ahr:(hW ds due rd T go r0).2=i0 ch:=by
     unfold hW sG
     rw[←y_,←Tw,←Dj]
    rw[ahr]
    exact U_
   refine⟨as++[eE],_,_,_,rfl,hH wU (aC.trans (s5.trans FQ)),by rw[aG ak2];exact FQ _ _ (s5 _ _ VI),by rw[a4,p_],?_⟩
   rw[show gY.take (j+1)=gY.take j++[r0] by rw[kR,dK];rfl,ek]
   refine Paired.snoc (nb.upd U4) (bZ.jL jX λa b h=>((h.same s5).same FQ).upd U4)
  .rintro σ a7 ⟨as,v1,v2,gK,rfl,aC,VI,KO,jX⟩
   rw[←tn]at jX
   unfold fi at jX
   rw[bc,ka]at jX
   exact⟨_,rfl,q bo a7 as gY (l5 s1 wU) (s1.trans aC) KO jX (by rw[tn];exact ĥ Wv) Mt⟩
theorem aes{C eT bA f:Addr}{fd:cP}{ps:List Str}(F:aY P w K aa base bu 5 f fd ps (Hx K C eT bA)):aY P w K aa base bu 5 f fd ps (CY K C eT bA):=F.imp λ_ _ _ _ h=>acx h
end
open PySem ai cA a'
noncomputable def akW:Step:=⟨0,none,jW,0⟩
noncomputable def B9(ss:List Step):Step:=ss.getLastD akW
noncomputable def c7(sss:List (List Step))(n:Nat):Step:=B9 (sss.getD n [])
noncomputable def d7(sss:List (List Step))(n:Nat):Int:=(c7 sss n).due
noncomputable def gH(gs:List Str)(n:Nat):Str:=gs.getD n jW
noncomputable def d_(kvs:c9)(gs:List Str)(sss:List (List Step))(n:Nat):Nat:=(hK kvs (c7 sss n).dv (gH gs n)).getD 0
theorem X2{ss:List Step}(h:ss≠[]):∃i,ss=i++[B9 ss]:=by
 refine⟨ss.dropLast,?_⟩
 unfold B9
 rw[HF,ň h]
 exact(List.dropLast_concat_getLast h).symm
theorem wQ{α:Type}{l:List α}{i:Nat}{d:α}(h:i<l.length):l[i]?=some (l.getD i d):=by
 rw[cY,cg h]
 rfl
noncomputable def px(m:Nat)(due:Nat→Int)(rd:Nat→Nat)(T:Int)(go:List Nat):List Nat:=(c_ m).filter λr=>!(dN due rd T go r).isEmpty
noncomputable def m'(ds:List a'.bz)(due:Nat→Int)(rd:Nat→Nat)(T:Int)(go:List Nat):List (fE×List Nat):=(px ds.length due rd T go).map (hW ds due rd T go)
theorem ħ{m:Nat}{due:Nat→Int}{rd:Nat→Nat}{T:Int}{go:List Nat}(bN:∀k∈go,rd k<m){gY:List Nat}(up:gY.Pairwise (· < ·))(mem:∀r,r∈gY↔dN due rd T go r≠[]):gY=px m due rd T go:=by
 have X3:(px m due rd T go).Pairwise (· < ·):=HL.filter _
 have ET:∀r,r∈px m due rd T go↔dN due rd T go r≠[]:=λr=>by
  unfold px
  rw[d1]
  constructor
  .rintro⟨_,h⟩ e
   rw[e]at h
   cases h
  .intro h
   obtain⟨c,aF⟩:=CJ _ h
   refine⟨iR.mpr ?_,?_⟩
   .unfold dN at aF
    obtain⟨k,aK,_⟩:=bV.mp aF
    obtain⟨aU,bP⟩:=d1.mp aK
    simp only[kK,decide_eq_true_eq]at bP
    rw[←bP.2]
    exact bN k aU
   .cases e:dN due rd T go r with
    |nil=>exact bB e h
    |cons _ _=>rfl
 refine Qt (R:=(· < ·)) (λa b ag af=>by omega) ((List.perm_ext_iff_of_nodup (up.imp λh=>en h) (X3.imp λh=>en h)).mpr λr=>?_) up X3
 rw[mem r,ET r]
theorem tT{ds:List a'.bz}{due:Nat→Int}{rd:Nat→Nat}{T:Int}{go:List Nat}{r i:Nat}(h:i∈(hW ds due rd T go r).2):i∈go∧due i≤T∧rd i=r:=by
 unfold hW sG at h
 have ag:=(rm _).mem_iff.mp h
 obtain⟨c,aF,rfl⟩:=bV.mp ag
 have af:=(vZ _).mem_iff.mp (yt aF)
 unfold dN at af
 obtain⟨k,aK,rfl⟩:=bV.mp af
 obtain⟨aU,bP⟩:=d1.mp aK
 simp only[kK,decide_eq_true_eq]at bP
 exact⟨aU,bP.1,bP.2⟩
theorem Rn{ds:List a'.bz}{due:Nat→Int}{rd:Nat→Nat}{T:Int}{go:List Nat}(aE:go.Nodup)(r:Nat):(hW ds due rd T go r).2.Nodup:=((rm _).nodup_iff).mpr (Qy aE _)
theorem acz{ds:List a'.bz}{due:Nat→Int}{rd:Nat→Nat}{T:Int}{go:List Nat}{r:Nat}(hm:1≤ir ds r)(h:dN due rd T go r≠[]):(hW ds due rd T go r).2≠[]:=λe=>by
 have gy:=eK sQ e
 unfold hW sG at gy
 rw[(rm _).length_eq,bc,gb,(vZ _).length_eq]at gy
 have e_:=q5.mpr h
 simp only[q4]at gy
 omega
noncomputable def pz(hs:List (List Nat))(ds:List a'.bz)(bs:List (fE×List Nat))(sss:List (List Step)):List (List Step):=bs.foldl (λs b=>la (stepK hs ds b.1) b.2 s) sss
theorem Fl(hs:List (List Nat))(ds:List a'.bz):∀(bs:List (fE×List Nat))(sss:List (List Step)),(pz hs ds bs sss).length=sss.length
 |[],_=>rfl
 |b::bs,sss=>by
  show(pz hs ds bs (la (stepK hs ds b.1) b.2 sss)).length=_
  rw[Fl hs ds bs,NA]
theorem OA(hs:List (List Nat))(ds:List a'.bz):∀(bs:List (fE×List Nat))(sss:List (List Step))(i:Nat),(pz hs ds bs sss)[i]?=(sss[i]?).map λss=>ss++((bs.filter λb=>decide (i∈b.2)).map λb=>stepK hs ds b.1)
 |[],sss,i=>by
  show sss[i]?=_
  cases sss[i]?<;>simp
 |b::bs,sss,i=>by
  show(pz hs ds bs (la (stepK hs ds b.1) b.2 sss))[i]?=_
  rw[OA hs ds bs,An,Option.map_map]
  congr 1
  funext ss
  show(if i∈b.2 then ss++[stepK hs ds b.1]else ss)++_=_
  rw[vf]
  by_cases z:i∈b.2
  .rw[aI z,aI (dp z),fX,jB]
   rfl
  .rw[aD z,aD (by rw[eF z];decide)]
theorem É(hs:List (List Nat))(ds:List a'.bz)(bs:List (fE×List Nat))(b:fE×List Nat)(sss:List (List Step)):pz hs ds (bs++[b]) sss=la (stepK hs ds b.1) b.2 (pz hs ds bs sss):=by
 unfold pz
 rw[List.foldl_append]
 rfl
theorem Z7{L:List Nat}(aE:L.Nodup){p:Nat→Bool}{r0:Nat}(h:∀r∈L,p r=true→r=r0)(h0:p r0=true→r0∈L):L.filter p=if p r0=true then[r0]else[]:=by
 by_cases z:p r0=true
 .rw[aI z]
  have gJ:=aE.filter p
  have all:∀r∈L.filter p,r=r0:=λr aw=>h r (d1.mp aw).1 (d1.mp aw).2
  have m0:r0∈L.filter p:=d1.mpr ⟨h0 z,z⟩
  match e:L.filter p with
  |[]=>rw[e]at m0;exact bB m0 eB
  |[a]=>rw[e]at all;rw[all a (.head _)]
  |a::b::l=>
   rw[e]at all gJ
   have:=(jU.mp gJ).1
   exact bB (by rw[all a (.head _),all b (.tail _ (.head _))];exact .head _) this
 .rw[aD z]
  refine List.filter_eq_nil_iff.mpr λr aw aQ=>z ?_
  rw[←h r aw aQ]
  exact aQ
noncomputable def uA(ds:List a'.bz)(due:Nat→Int)(rd:Nat→Nat)(T:Int)(go:List Nat)(i:Nat):Bool:=decide (i∈(hW ds due rd T go (rd i)).2)
theorem FE{ds:List a'.bz}{due:Nat→Int}{rd:Nat→Nat}{T:Int}{go:List Nat}(bN:∀k∈go,rd k<ds.length)(i:Nat):(m' ds due rd T go).filter (λb=>decide (i∈b.2))=if uA ds due rd T go i=true then[hW ds due rd T go (rd i)]else[]:=by
 unfold m'
 rw[vg]
 have aE:(px ds.length due rd T go).Nodup:=(HL.filter _).imp λh=>en h
 rw[Z7 (r0:=rd i) aE (p:=(λb:fE×List Nat=>decide (i∈b.2))∘hW ds due rd T go) (λr _ aQ=>((tT (jM aQ)).2.2).symm) (λaQ=>?_)]
 .show CK _ (if uA ds due rd T go i=true then[rd i]else[])=_
  cases uA ds due rd T go i<;>rfl
 .have m:=tT (jM aQ)
  unfold px
  refine d1.mpr ⟨iR.mpr (bN i m.1),?_⟩
  have hm:(due i,i)∈dN due rd T go (rd i):=by
   unfold dN
   refine bV.mpr ⟨i,d1.mpr ⟨m.1,?_⟩,rfl⟩
   rw[dp m.2.1,dp rfl]
   rfl
  cases e:dN due rd T go (rd i)with
  |nil=>rw[e]at hm;exact bB hm eB
  |cons _ _=>rfl
section
variable{P:bT}{w:bJ}{K:a3}{aa:Str→Option Value}{base:Heap}
noncomputable abbrev NS:Stmt:=iH (top 6) 0
theorem afr:dT ["self","reason","seen"] ["self","reason","seen"] (dh NS):=⟨rfl,rfl,rfl,by decide+kernel,rfl,by decide+kernel,by decide+kernel⟩
theorem aeu{C R f:Addr}{fd:cP}(F:b0 K "__init__" "NoWay.__init__" NS f fd)(B:g4 aa)(iv:o7 K aa "RoadError" C R)(El:aa "RoadError"=some (.ref R))(ag:c3 K (.ref C) "reason"=some none)(af:c3 K (.ref C) "seen"=some none):aY P w K aa base bu 1 f fd ["self","reason","seen"] (CV C):=by
 refine F.ok afr (λvs H Q E h=>?_) (λbC A outer s H vs Q E aw h=>?_)
 .obtain⟨e,s,v,zs,rfl,_⟩:=h
  rfl
 .obtain⟨e,s,v,zs,rfl,he,hs,q⟩:=h
  refine⟨_,(bO (iB (ĉ (by rfl) El iv.rd iv.J7 iv.df (aB (ah 0) (aB n_ a8))))
   (bO (Qm (y:="RoadError") (R:=R) (ah 0) (ah 1) rfl)
   (bW (Qm (y:="RoadError") (R:=R) (ah 0) (ro zF (by rfl) B.list tR (aB (ah 2) a8)) rfl)))),?_⟩
  refine⟨_,rfl,e,C,_,rfl,he,iv,(by show 1≤sizeLine;decide),?_⟩
  refine⟨_,rfl,_,rfl,e,C,rfl,iv,ag,.inl ⟨he,λau aE t7=>?_⟩⟩
  have ajb:s≠e:=λz=>by rw[z,he]at hs;cases hs
  have aja:s≠au:=λz=>by rw[z,aE]at hs;cases hs
  refine⟨_,rfl,s,zs,rfl,.inl (aR.of (by rw[aG ajb,aG aja];exact hs)),λl nl=>?_⟩
  have wW:l≠e:=λz=>by rw[z,a4]at nl;cases nl
  rw[aG wW]at nl
  have E2:l≠au:=λz=>by rw[z,a4]at nl;cases nl
  rw[aG E2]at nl
  refine⟨_,rfl,e,C,rfl,iv,af,.inr ⟨au,[("reason",v)],?_,?_,(by show 1<100;decide),?_⟩⟩
  .rw[aG (dG wW)];exact a4
  .rw[aG (dG E2),aG t7];exact a4
  refine q au l _ aE nl (dG E2) (λb o U j3=>?_) ?_ ?_ ?_
  .rw[aG (λz=>by rw[z,aE]at U;cases U),aG (λz=>by rw[z,nl]at U;cases U),aG j3,aG (λz=>by rw[z,aE]at U;cases U)]
   exact U
  .rw[aG (dG t7),aG (dG wW)];exact a4
  .exact a4
  .rw[aG E2];exact a4
noncomputable abbrev Bh:Stmt:=iH (top 33) 4
noncomputable abbrev ajS:List Str:=["self","house","goal","taken","seen","number","come_to"]
theorem yh:dT ajS ["self","house","goal"] (dh Bh):=⟨rfl,rfl,rfl,by decide+kernel,rfl,by decide+kernel,by decide+kernel⟩
theorem aev{C bA e9 mx g7 R f f1 f2 mO:Addr}{fd fv gw TV:cP}(F:b0 K "route" "Ways.route" Bh f fd)(cx:oh K C)(gU:g5 K bA)(o':eD K bA "need_house" "Net.need_house" xt ["self","house"] f1 fv)(ta:aY P w K aa base (gC P w) 1 f1 fv ["self","house"] (Gf bA e9))(mH:eD K bA "road" "Net.road" rS ["self","number"] f2 gw)(tq:aY P w K aa base (gC P w) 1 f2 gw ["self","number"] (Pb bA mx))(AH:o7 K aa "RoadError" g7 R)(tP:aa "NoWay"=some (.ref g7))(Zd:o1 K (.ref g7)=true)(Y2:c3 K (.ref g7) "__init__"=some (some (.ref mO)))(Y3:g8 K (.ref mO)=true)(Em:aY P w K aa base bu 1 mO TV ["self","reason","seen"] (CV g7))(Y4:Binds K TV ["self","reason","seen"] []):
  aY P w K aa base (qX P w) 3 f fd ["self","house","goal"] (Il C bA e9 g7):=by
 refine akm F yh (λvs H Q E h=>?_) (λbC A outer s H vs Q E aw h=>?_)
 .obtain⟨x,n,t,bx,aZ,hs,rs,ds,kvs,h',g',rfl,_⟩:=h
  rfl
 .obtain⟨x,n,t,bx,aZ,hs,rs,ds,kvs,h',g',rfl,W,G,cL,tab,q,kC⟩:=h
  obtain⟨au,ao⟩:=W.ins
  obtain⟨fj,az⟩:=W.i7.ins
  refine⟨_,(bO (iB (hU (ha (ah 0) (by rfl)) gU o'.gI ta (aw.mono (by decide)) o'.bd .nil Ol (aB (ah 1) a8)))
   (bO (iB (hU (ha (ah 0) (by rfl)) gU o'.gI ta (aw.mono (by decide)) o'.bd .nil Ol (aB (ah 2) a8)))
   (bO (dB (i:=3) yh.aE rfl (cC rfl) (k7 a8))
   (bO (dB (i:=4) yh.aE rfl (cC rfl) (k7 (aB (ah 1) a8)))
   (bO (NF PassesOwn.leaving (gf rY (b9 gp (ah 4) (BN A7 bl) (λ_ _=>rfl)) (ah 2) (fu _))
    (bO (dB (i:=5) yh.aE rfl (cC rfl) (NU (hJ aw) (ha (ah 0) (by rfl)) (hu (aB (b9 gp (ah 4) (BN A7 bl) (λ_ _=>rfl)) (aB (ah 2) a8))) ⟨rfl,rfl,rfl,rfl⟩))
   (bO (f5 (gf QJ (ah 5) w3 (fu _)) (bW (XG AH tP Zd Y2 Y3 Em (aw.mono (by decide)) Y4 rfl (aB n_ (aB (ah 4) a8)))) f3)
   (bO (dB (i:=6) yh.aE rfl (cC rfl) (b9 d2 (hU (ha (ah 0) (by rfl)) gU mH.gI tq (aw.mono (by decide)) mH.bd .nil Ol (aB (ah 5) a8)) bl (λ_ _=>rfl)))
   (bO (f5 (gf Nc (ah 6) (ah 4) (by rfl)) (bW (XG AH tP Zd Y2 Y3 Em (aw.mono (by decide)) Y4 rfl (aB n_ (aB (cK acf (ah 4) (k7 (aB (ah 6) a8))) a8)))) f3)
   (bO (iB (pH p4 p5 p6 nR (ah 3) (aB (ah 5) a8)))
   (bW (iB (pH p4 p5 p6 nR (ah 4) (aB (ah 6) a8))))))))))
   (bW (dH (ah 3)))))))),?_⟩
  refine⟨_,rfl,x,C,au,_,_,rfl,ao,cx.cl,cx.nn,rfl,n,fj,_,rfl,az,rfl,_,rfl,n,bx,aZ,hs,_,h',rfl,W.i7,λdY=>?_,λlX=>kC (.inl lX)⟩
  refine⟨_,rfl,x,C,au,_,_,rfl,ao,cx.cl,cx.nn,rfl,n,fj,_,rfl,az,rfl,_,rfl,n,bx,aZ,hs,_,g',rfl,W.i7,λeQ=>?_,λlX=>kC (.inr lX)⟩
  refine⟨ea _,λou tZ=>⟨_,rfl,(by show 1≤sizeLine;decide),λju AK=>?_⟩⟩
  have q:=q dY eQ
  have s3:=cH (o:=.lst []) tZ
  have s4:=cH (o:=.lst [V.str h']) AK
  have MC:ju≠ou:=λz=>by rw[z,a4]at AK;cases AK
  have ajN:H ju=none:=by rw[aG MC]at AK;exact AK
  refine⟨λm σ a7=>∃(c:Str)(sn:List Str)(a5:List Nat)(xp v6:Option ai.V),σ=[some (.ref x),some (.str h'),some (.str g'),some (.ref ou),some (.ref ju),xp,v6]∧aP H a7∧a7 ou=some (.lst (nats a5))∧a7 ju=some (.lst (ng sn))∧
   ai.e0 (ng sn) (-1)=some (.str c)∧(∀y∈sn,y∈hs.map S)∧sn.Nodup∧Ik g7 (oi kvs hs ds g' m c sn a5) H Q E∧m+sn.length=14∧a5.length+1=sn.length,⟨13,h',[h'],[],none,none,rfl,s3.trans s4,s4 _ _ a4,a4,rfl,?_,?_,q,rfl,rfl⟩,?_⟩
  .intro y aT
   rw[e8.mp aT]
   exact dY
  .exact jU.mpr ⟨eB,mu⟩
  rintro m σ a7 ⟨c,sn,a5,xp,v6,rfl,aC,aU,bP,last,sub,aE,q,hm,ar⟩
  have V1:sn.length≤12:=by
   have:=pg aE sub
   rw[bc]at this
   exact gm this G.cM
  obtain⟨m,rfl⟩:∃cR,m=cR+1:=⟨m-1,by omega⟩
  have an0:(ng sn).length=sn.length:=bc _
  refine⟨_,rfl,_,rfl,ju,_,_,_,rfl,rfl,aR.of bP,last,_,rfl,rfl,_,rfl,?_⟩
  unfold oi at q
  by_cases D9:c=g'
  .rw[aI D9]at q
   refine gh (by rw[D9];simp) ⟨_,rfl,q ou a7 tZ aC aU⟩
  rw[aD D9]at q
  refine f6 (by simp[D9]) ⟨_,λa6 H' h=>⟨m,yx _,h⟩,?_⟩
  have Ls:=aC _ _ ao
  refine⟨_,rfl,x,C,au,_,_,rfl,Ls,cx.cl,cx.eG,rfl,t,rfl,.inr ⟨kvs,.inl (aC _ _ W.told)⟩,_,rfl,_,rfl,ju,_,_,_,rfl,rfl,aR.of bP,last,_,rfl,(by show 2≤sizeLine;decide),λr fL=>⟨_,gP.t (k:=dM c g') ((cH fL) _ _ (aC _ _ W.told)) a4,?_⟩⟩
  have jw:=cH (o:=.tup [V.str c,V.str g']) fL
  have j8:=aC.trans jw
  have Kh:=jw _ _ aU
  have zK:=jw _ _ bP
  generalize upd a7 r (.tup [V.str c,V.str g'])=H1 at jw j8 Kh zK⊢
  rcases tab.get c g' with⟨av,ay⟩|⟨i,av,ay,aj⟩
  .rw[ay]at q
   rw[av]
   exact⟨_,rfl,rfl,_,rfl,f6 (by decide) ⟨_,rfl,(by show 2≤sizeLine;decide),λe ne=>R6 q j8 zK ne⟩⟩
  .rw[ay]at q
   rw[av]
   refine⟨_,rfl,rfl,_,rfl,gh (by simp) ?_⟩
   obtain⟨cm,dK⟩:∃cm,rs[i]?=some cm:=⟨_,cg (by rw[cL.len];exact aj)⟩
   obtain⟨d,c',ahn,qs⟩:=cL.get dK
   have qc:hB hs ds i=S (hs.getD d.b []):=by unfold hB;rw[qw c']
   have JY:ai.e0 (aL rs) (i:Int)=some (.ref cm):=ho (by unfold aL;rw[b8,dK];rfl)
   refine⟨_,rfl,x,C,au,_,_,rfl,j8 _ _ ao,cx.cl,cx.nn,rfl,n,fj,_,rfl,j8 _ _ az,rfl,_,rfl,n,bx,aZ,_,_,(i:Int),rfl,W.i7.same j8,λ_=>⟨_,JY,?_⟩,λlX=>bB ⟨by omega,by rw[fS,cL.len];omega⟩ lX⟩
   refine⟨cm,_,_,_,rfl,rfl,b2.of (j8 _ _ qs),rfl,?_⟩
   simp only[qc]at q
   have ET:S (hs.getD d.b [])∈hs.map S:=bV.mpr ⟨_,getD_mem' ahn.b,rfl⟩
   generalize S (hs.getD d.b [])=c6 at q ET⊢
   refine⟨_,rfl,_,rfl,ju,_,rfl,.inl (aR.of zK),rfl,ER _,_,rfl,?_⟩
   by_cases il:c6∈sn
   .rw[aI il]at q
    refine f6 (Fw il) ⟨_,rfl,_,rfl,(by show 1≤sizeLine;decide),λakL Wm=>⟨ju,akL,_,_,rfl,rfl,(cH Wm) _ _ zK,a4,sW (fh (by show(ng sn).length+1≤1000;omega)),λW2 rT=>⟨(by show 2≤sizeLine;decide),λe ne=>R6 q (j8.trans ((cH Wm).trans (cH rT))) (by rw[a4];unfold ng;rw[ek];rfl) ne⟩⟩⟩
   .rw[aD il]at q
    refine gh (Xv il) ?_
    have an1:(nats a5).length=a5.length:=bc _
    refine⟨_,rfl,.inl ⟨rfl,_,aR.of Kh⟩,_,rfl,ou,_,_,rfl,rfl,Kh,fh (by omega),?_⟩
    have Uw:upd H1 ou (.lst (nats a5++[V.int (i:Int)])) ju=some (.lst (ng sn)):=by rw[aG MC];exact zK
    refine⟨_,rfl,.inl ⟨rfl,_,aR.of Uw⟩,_,rfl,ju,_,_,rfl,rfl,Uw,fh (by omega),?_⟩
    refine⟨c6,sn++[c6],a5++[i],_,_,rfl,hH ajN (hH tZ j8),?_,?_,?_,?_,?_,q,?_,?_⟩
    .rw[aG (dG MC),a4];unfold nats;rw[ek];rfl
    .rw[a4];unfold ng;rw[ek];rfl
    .exact YS sn c6
    .intro y aT
     rcases el.mp aT with aT|aT
     .exact sub y aT
     .rw[e8.mp aT];exact ET
    .exact EJ aE il
    .rw[ff];show m+(sn.length+1)=14;omega
    .rw[ff,ff];show a5.length+1+1=sn.length+1;omega
end
end fx
namespace cA
open PySem PySem.Spec PyProof.Rows ai
noncomputable def aew(K:a3)(cX:C8)(R:Addr)(ts:eY):eY:=λD σ H=>cX D (λa6 cls dP H'=>∃C au,cls=.ref C∧dP=some au∧qy K C R=true∧∀bp,H' bp=none→ts D a6 (upd H' bp (J2 bp C au))) σ H
theorem aa8{X:bw}{st vA:Stmt}{Bs:List Stmt}{x:Str}{np ai4 pos:Pos}{cX:C8}{ts:eY}{R:Addr}(Ei:X.stack=X.env::X.outer)(aiv:X.env.frame=some X.env.locals)(U:R4 X st cX)(bf:jA X x)(hm:X.aa x=some (.ref R))(cL:qy X.K R R=true)(ajc:∀bp,hT (Ft X bp) (vA::Bs) ts)(jG:(x==("__debug__":Str))=false:=by decide):gn X (.Try [st] [.ExceptHandler (some (.Name x np)) none (vA::Bs) ai4] [] [] pos) (aew X.K cX R ts):=by
 intro pins s σ H D I h
 refine wpAny_Try_except (Yr (fa (U pins s σ H D _ I h) (λf s1 q=>?_) λe s1 q=>?_))
 .cases f with
  |next=>exact BL (BL q)
  |ret v=>exact q
  |brk=>exact q
  |cont=>exact q
 .obtain⟨qU,a7,sc,bp,cls,a0,H',B,dP,rfl,QV,T,lk,C,au,rfl,rfl,mX,k⟩:=q
  obtain⟨o0,aiQ,aii⟩:=lk au rfl
  have z1:X.A.frames=some (X.env::X.outer):=by rw[←Ei];exact I.ok.frames
  have Ua:=T.fB
  rw[Ei]at Ua
  refine Ŧ z1 aiv Ua λbP air alW ak3=>ŧ air λcZ Ka OB ak4=>?_
  have Ub:=Ka
  rw[←Ei]at Ub
  have yN:=T.move Ub (alW.trans OB)
  have iQ:Inv X pins qU H' {s1 with heap:=cZ}:=QV.JG (s':={s1 with heap:=cZ}) (ch:=[]) yN.os yN.un yN.bh yN.bare (λb z=>bB z (by simp))
  obtain⟨ob,tG,aiS⟩:=Ka.there
  refine wpAny_handleBy_cons (codeAny_handlers_test (tM (X:=Ft X bp) (cA.Inv.Bs iQ bp) bf hm (Ĩ iQ.eV mX cL tG aiS ?_) jG)) (by intro q;cases q)
  refine codeAny_handlers_suite (Ũ Ka λqi Uc alX ak5=>?_)
  have Ud:=Uc
  rw[←Ei]at Ud
  have o4:=yN.move Ud alX
  obtain⟨MZ,v6,Vw,U9,Vj,_⟩:=Uc.first
  have Vb:MZ.dict=some au:=(((ak3.trans ak4).trans ak5).dict aiQ Vw).trans aii
  have aiH:qi.get? bp=some ⟨.ref C,some au,.fields v6,MZ.slots⟩:=by
   rw[Vw]
   obtain⟨c,d,kj,bS⟩:=MZ
   dsimp only at U9 Vj Vb
   rw[U9,Vj,Vb]
  have old:∀b o,sc.heap.get? b=some o→b≠bp:=λb o e=>T.akb e
  have hE:=T.new
  have sJ:Inv X pins qU (upd H' bp (J2 bp C au)) {s1 with heap:=qi}:=by
   refine QV.JG (s':={s1 with heap:=qi}) (ch:=[]) o4.os ⟨o4.un.keep,o4.un.slot,λb o e kv ao=>by rw[aG (old b o e)];exact o4.un.free b o e kv ao,o4.un.there,λb xs e=>?_,λb o u e=>?_,λb ps e=>?_⟩ ?_ o4.bare (λb z=>bB z (by simp))
   .have:=o4.un.h7 b xs e
    rw[aG (dg this hE)]
    exact this
   .have:=o4.un.iY b o u e
    rw[aG (dg this hE)]
    exact this
   .obtain⟨m,this⟩:=o4.un.jx b ps e
    exact⟨m,by rw[aG (dg this hE)];exact this⟩
   .intro b u e
    by_cases cJ:b=bp
    .subst cJ
     rw[a4]at e
     cases e
     exact ab1 aiH
    .rw[aG cJ]at e
     exact(o4.bh b u e).nt (λc v _ q=>q) (λc q=>by rw[aG (dg q hE)];exact q) λc xs q=>by rw[aG (dg q hE)];exact q
  refine fa (ajc bp pins _ _ _ _ (cA.Inv.Bs sJ bp) (k bp hE)) (λahN oz Fs=>?_) λ_ _ z=>hQ z
  cases ahN with
  |next=>obtain⟨nC,h_,lD,q⟩:=Fs;exact⟨nC,h_,Inv.F8 I.ok.hd lD,q⟩
  |brk=>obtain⟨nC,h_,lD,q⟩:=Fs;exact⟨nC,h_,Inv.F8 I.ok.hd lD,q⟩
  |cont=>obtain⟨nC,h_,lD,q⟩:=Fs;exact⟨nC,h_,Inv.F8 I.ok.hd lD,q⟩
  |ret u=>obtain⟨oK,nC,h_,lD,NC,q⟩:=Fs;exact⟨oK,nC,h_,Inv.F8 I.ok.hd lD,NC,q⟩
open PySem ai
section
variable{X:bw}{e o:Expr}{es:List Expr}{pos eZ p:Pos}{k:Nat}{f C:Addr}{fd:cP}{ps:List Str}{sp:cW}{b3:TE}{t:fY}{m x:Str}
theorem aa9{pl:Sem Bool}(he:bE X.wY o b3)(c:g5 X.K C)(hm:Meth X.K C m f)(F:aY X.prog X.w X.K X.aa X.base (qX X.prog X.w) k f fd ps sp)(aw:fU k X.A)(U:Binds X.K fd ps [])(aH:hj X.wY (e::es) t)(kr:dW (e::es) X.env=(false,eval e X.env)::dW es X.env:=by rfl)(fm:(hq pos (dW es X.env)).any (·.1)=false:=by rfl)(cw:eval (.Call (.Attribute o m eZ) (e::es) [] pos) X.env=(do
   let ej ←eval o X.env
   r' eZ.atName
   let(f,first) ←n7 [ej] (vW ej m pl)
   yY pos f first (hq pos (dW (e::es) X.env)) (rg pos (rM [] X.env))):=by rfl):
  R3 X (.Call (.Attribute o m eZ) (e::es) [] pos) (acn C m sp b3 t):=by
 intro pins s σ H Q E I h
 refine C2 (pl:=pl) (WC (X:=X) (pins:=pins) (bH (he pins s σ H _ (I.mj _) h) λu s1⟨x,H1,aS,bt,a,au,fs,ex,bp,l,q⟩=>?_)) cw
 subst ex
 obtain rfl:u=da a:=bt
 have aS:=aS.oI
 refine Eu aS bp c hm l ?_
 refine C0 (first:=[.ref a]) (h₀:=X.base) I.ok.mod.rN hm.cN (WC (X:=X) (pins:=pins) (bH (aH pos pins s1 σ H1 _ (aS.mj _) q) λus s2⟨vs,ak,bK,r,cp⟩=>⟨bK.oI.eV,?_⟩)) kr fm
 refine Ŷ (us:=.ref a::us) (vs:=.ref a::vs) F aw U bK.oI (.cons rfl r) ?_
 have WZ:sp (V.ref a::(vs++[])) ak Q E:=cp
 rw[jS]at WZ
 exact WZ
end
end cA
namespace fx
open PySem ai cA a'
noncomputable def Ih:Out→Bool
 |.ok _=>true
 |.no _ _=>false
noncomputable def rR(kvs:c9)(hs:List (List Nat))(ds:List a'.bz)(d:Str×Int×Str):Bool:=Ih (oi kvs hs ds d.2.2 13 d.1 [d.1] [])
inductive aex(C bA:Addr)(vs:(List ai.V))(H:ae)(Q:bk)(bF:cy):Prop where
 |mk (lt x n t bx aZ:Addr) (hs:List (List Nat)) (rs:List Addr) (ds:List a'.bz) (kvs:c9) (d:Str×Int×Str) (b4:vs=[.ref lt,.ref x]) (bL:H lt=some (.tup (jJ d))) (cG:kn C bA H x n t bx aZ (dr hs) (aL rs) kvs) (c2:Good hs) (dR:hp H hs rs ds) (eW:iA kvs ds.length) (h8:d.1∈hs.map S) (jz:d.2.2∈hs.map S) (oP:∀H',aP H H'→Q (.bo (rR kvs hs ds d)) H')
noncomputable def Ii(C bA:Addr):cW:=λvs H Q bF=>aex C bA vs H Q bF
section
variable{P:bT}{w:bJ}{K:a3}{aa:Str→Option Value}{base:Heap}
noncomputable abbrev Bc:Stmt:=top 15
theorem aeX:dT ["letter","ways"] ["letter","ways"] (dh Bc):=⟨rfl,rfl,rfl,by decide+kernel,rfl,by decide+kernel,by decide+kernel⟩
theorem aey{C bA e9 g7 f f1:Addr}{fd fv:cP}(F:b0 K "has_route" "has_route" Bc f fd)(jY:g5 K C)(UW:qy K g7 g7=true)(tP:aa "NoWay"=some (.ref g7))(En:eD K C "route" "Ways.route" Bh ["self","house","goal"] f1 fv)(Md:aY P w K aa base (qX P w) 3 f1 fv ["self","house","goal"] (Il C bA e9 g7)):
  aY P w K aa base bu 4 f fd ["letter","ways"] (Ii C bA):=by
 refine F.ok aeX (λvs H Q E h=>?_) (λbC A outer s H vs Q E aw h=>?_)
 .obtain⟨lt,x,n,t,bx,aZ,hs,rs,ds,kvs,d,rfl,_⟩:=h
  rfl
 .obtain⟨lt,x,n,t,bx,aZ,hs,rs,ds,kvs,d,rfl,bN,W,G,cL,tab,dY,eQ,q⟩:=h
  obtain⟨au,ao⟩:=W.ins
  refine⟨_,(bO (aa8 rfl rfl (Č (aa9 (ah 1) jY En.gI Md (aw.mono (by decide)) En.bd (aB (b9 d2 (ah 0) bl (λ_ _=>rfl)) (aB (b9 d2 (ah 0) bl (λ_ _=>rfl)) a8)))) rfl tP UW (λbp=>(bW (dH jl))))
   (bW (dH jl))),?_⟩
  refine⟨_,rfl,x,au,_,rfl,ao,rfl,_,rfl,lt,_,_,_,rfl,rfl,b2.of bN,rfl,_,rfl,lt,_,_,_,rfl,rfl,b2.of bN,rfl,x,n,t,bx,aZ,hs,rs,ds,kvs,d.1,d.2.2,rfl,W,G,cL,tab,λ_ _=>?_,λlX=>lX.elim (λz=>bB dY z) λz=>bB eQ z⟩
  unfold rR at q
  cases WO:oi kvs hs ds d.2.2 13 d.1 [d.1] []with
  |ok a5=>
   rw[WO]at q
   intro l H' nl bS ar
   exact q H' bS
  |no why sn=>
   rw[WO]at q
   intro au l H' aE nl EZ aC zZ ar
   refine⟨g7,au,rfl,rfl,UW,λbp aip=>?_⟩
   exact q _ (aC.trans (cH aip))
end
open PySem ai cA a'
inductive hy(kvs:c9)(hs:List (List Nat))(ds:List a'.bz)(g:Str):Str→List Nat→Prop
 |tH:hy kvs hs ds g g []
 |on {h:Str} {k:Nat} {a5:List Nat}:h≠g→hK kvs h g=some k→k<ds.length→hy kvs hs ds g (hB hs ds k) a5→hy kvs hs ds g h (k::a5)
theorem ut{kvs:c9}{hs:List (List Nat)}{ds:List a'.bz}(R:∀d∈ds,d.Ok hs.length)(T:iA kvs ds.length)(cM:hs.length≤12){g:Str}:∀(n:Nat)(c:Str)(sn:List Str)(a5 out:List Nat),n+sn.length=14→sn.Nodup→(∀y∈sn,y∈hs.map S)→
  oi kvs hs ds g n c sn a5=.ok out→∃gA,out=a5++gA∧hy kvs hs ds g c gA∧gA.length+sn.length≤12
 |0,c,sn,a5,out,az,aE,sub,e=>by
  have:=pg aE sub
  rw[bc]at this
  omega
 |n+1,c,sn,a5,out,az,aE,sub,e=>by
  have V1:=pg aE sub
  rw[bc]at V1
  unfold oi at e
  by_cases z:c=g
  .rw[aI z]at e
   cases e
   subst z
   exact⟨[],by rw[jS],.tH,by show 0+sn.length≤12;omega⟩
  .rw[aD z]at e
   rcases T.get c g with⟨_,w⟩|⟨k,_,w,iL⟩
   .rw[w]at e
    cases e
   .rw[w]at e
    by_cases m:hB hs ds k∈sn
    .simp only[aI m]at e
     cases e
    .simp only[aD m]at e
     have ajM:hB hs ds k∈hs.map S:=by
      unfold hB
      exact oa (R _ (getD_mem' iL)).b
     obtain⟨gA,ag,af,aU⟩:=ut R T cM n (hB hs ds k) (sn++[hB hs ds k]) (a5++[k]) out (by rw[ff];show n+(sn.length+1)=14;omega) (EJ aE m) (λy aT=>by
      rcases el.mp aT with Po|Po
      .exact sub y Po
      .rw[e8.mp Po];exact ajM) e
     rw[ff]at aU
     simp only[hS,q4]at aU
     exact⟨k::gA,by rw[ag,jB];rfl,.on z w iL af,by rw[hS];omega⟩
theorem amA{kvs:c9}{hs:List (List Nat)}{ds:List a'.bz}(R:∀d∈ds,d.Ok hs.length)(T:iA kvs ds.length)(cM:hs.length≤12){d:Str×Int×Str}(m:d.1∈hs.map S)(h:rR kvs hs ds d=true):∃a5,hy kvs hs ds d.2.2 d.1 a5∧a5.length≤12:=by
 unfold rR at h
 cases e:oi kvs hs ds d.2.2 13 d.1 [d.1] []with
 |ok out=>
  obtain⟨a5,_,af,aU⟩:=ut R T cM 13 d.1 [d.1] [] out rfl (jU.mpr ⟨eB,mu⟩) (λy aT=>by rw[e8.mp aT];exact m) e
  exact⟨a5,af,by omega⟩
 |no why sn=>rw[e]at h;cases h
structure l7(hs:List (List Nat))(ds:List a'.bz)(kvs:c9)(gs:List Str)(sss:List (List Step))(go:List Nat)(rt:Nat→List Nat):Prop where
 len:sss.length=gs.length
 lt:∀n∈go,n<gs.length
 aE:go.Nodup
 ne:∀ss∈sss,ss≠[]
 cM:∀n,(sss.getD n []).length+(rt n).length≤20
 dv:∀n∈go,(c7 sss n).dv∈hs.map S
 goal:∀n∈go,gH gs n∈hs.map S
 way:∀n∈go,hy kvs hs ds (gH gs n) (c7 sss n).dv (rt n)
 on:∀n∈go,rt n≠[]
theorem Z8(ss:List Step)(s:Step):B9 (ss++[s])=s:=by
 unfold B9
 rw[HF,Ň]
 rfl
theorem hy.way{kvs:c9}{hs:List (List Nat)}{ds:List a'.bz}{g h:Str}{a5:List Nat}(r:hy kvs hs ds g h a5)(ne:a5≠[]):∃k gA,a5=k::gA∧h≠g∧hK kvs h g=some k∧k<ds.length∧hy kvs hs ds g (hB hs ds k) gA:=by
 cases r with
 |tH=>exact bB rfl ne
 |on a b c d=>exact⟨_,_,rfl,a,b,c,d⟩
theorem l7.rx{hs:List (List Nat)}{ds:List a'.bz}{kvs:c9}{gs:List Str}{sss:List (List Step)}{go:List Nat}{rt:Nat→List Nat}(T:iA kvs ds.length)(O:l7 hs ds kvs gs sss go rt):(∀n∈go,G5 hs kvs gs sss (d7 sss) (d_ kvs gs sss) n)∧∀n∈go,d_ kvs gs sss n<ds.length:=by
 have key:∀n∈go,∃k,hK kvs (c7 sss n).dv (gH gs n)=some k∧d_ kvs gs sss n=k∧k<ds.length∧(c7 sss n).dv≠gH gs n∧cz kvs (dM (c7 sss n).dv (gH gs n))=some (.int (k:Int)):=λn az=>by
  obtain⟨k,gA,_,af,aU,bP,_⟩:=(O.way n az).way (O.on n az)
  refine⟨k,aU,by unfold d_;rw[aU];rfl,bP,af,?_⟩
  rcases T.get (c7 sss n).dv (gH gs n)with⟨_,w⟩|⟨i,v,w,_⟩
  .rw[w]at aU;cases aU
  .rw[w]at aU
   cases aU
   exact v
 refine⟨λn az=>?_,λn az=>?_⟩
 .obtain⟨k,ag,af,aU,bP,cZ⟩:=key n az
  have ln:=O.lt n az
  have av:sss[n]?=some (sss.getD n []):=wQ (by rw[O.len];exact ln)
  obtain⟨i,iD⟩:=X2 (O.ne _ (eI av))
  refine⟨i,c7 sss n,gH gs n,?_,rfl,wQ ln,O.dv n az,O.goal n az,bP,by rw[af];exact cZ⟩
  rw[av]
  congr 1
 .obtain⟨k,_,af,aU,_⟩:=key n az
  rw[af]
  exact aU
section
variable(hs:List (List Nat))(ds:List a'.bz)(kvs:c9)(gs:List Str)
noncomputable def nextT(T:Int)(go:List Nat)(sss:List (List Step)):Int:=max (T+1) (pJ (go.map (d7 sss)))
noncomputable def hX(T:Int)(go:List Nat)(sss:List (List Step)):List (fE×List Nat):=m' ds (d7 sss) (d_ kvs gs sss) T go
noncomputable def d8(T:Int)(go:List Nat)(sss:List (List Step)):List (List Step):=pz hs ds (hX ds kvs gs T go sss) sss
noncomputable def gW(T:Int)(go:List Nat)(sss:List (List Step))(i:Nat):Bool:=uA ds (d7 sss) (d_ kvs gs sss) T go i
noncomputable def j2(go:List Nat)(sss:List (List Step)):List Nat:=go.filter λn=>decide ((c7 sss n).dv≠gH gs n)
noncomputable def hL:Nat→Int→List Nat→List (List Step)→List (fE×List Nat)
 |0,_,_,_=>[]
 |m+1,T,go,sss=>if go=[]then[]else hX ds kvs gs (nextT T go sss) go sss++hL m (nextT T go sss) (j2 gs go (d8 hs ds kvs gs (nextT T go sss) go sss)) (d8 hs ds kvs gs (nextT T go sss) go sss)
end
section
variable{hs:List (List Nat)}{ds:List a'.bz}{kvs:c9}{gs:List Str}{sss:List (List Step)}{go:List Nat}{rt:Nat→List Nat}{T:Int}
theorem step_get(bN:∀k∈go,d_ kvs gs sss k<ds.length)(i:Nat):(d8 hs ds kvs gs T go sss)[i]?=(sss[i]?).map λss=>ss++(if gW ds kvs gs T go sss i=true then[stepK hs ds (T,d_ kvs gs sss i)]else[]):=by
 unfold d8
 rw[OA]
 congr 1
 funext ss
 congr 1
 unfold hX
 rw[FE bN i]
 show CK _ (if gW ds kvs gs T go sss i=true then _ else _)=_
 cases gW ds kvs gs T go sss i<;>rfl
theorem X_(bN:∀k∈go,d_ kvs gs sss k<ds.length){i:Nat}(aj:i<sss.length):(d8 hs ds kvs gs T go sss).getD i []=sss.getD i []++(if gW ds kvs gs T go sss i=true then[stepK hs ds (T,d_ kvs gs sss i)]else[]):=by
 rw[cY,step_get bN,wQ (d:=[]) aj]
 rfl
theorem Pk{i:Nat}(h:gW ds kvs gs T go sss i=true):i∈go∧d7 sss i≤T:=by
 have:=tT (jM h)
 exact⟨this.1,this.2.1⟩
theorem wA(bN:∀k∈go,d_ kvs gs sss k<ds.length){i:Nat}(aj:i<sss.length):c7 (d8 hs ds kvs gs T go sss) i=if gW ds kvs gs T go sss i=true then stepK hs ds (T,d_ kvs gs sss i)else c7 sss i:=by
 unfold c7
 rw[X_ bN aj]
 by_cases z:gW ds kvs gs T go sss i=true
 .rw[aI z,aI z]
  exact Z8 _ _
 .rw[aD z,aD z,jS]
theorem Pl{r:Nat}(h:r<ds.length):ni hs ds r=hB hs ds r:=by
 unfold ni hB
 rw[show ds.getD r lq=ds[r] by rw[cY,cg h];rfl,show ds.getD r hI=ds[r] by rw[cY,cg h];rfl]
noncomputable def pN(ds:List a'.bz)(kvs:c9)(gs:List Str)(T:Int)(go:List Nat)(sss:List (List Step))(rt:Nat→List Nat)(i:Nat):List Nat:=if gW ds kvs gs T go sss i=true then(rt i).tail else rt i
theorem hy.nil_eq{kvs:c9}{hs:List (List Nat)}{ds:List a'.bz}{g h:Str}{a5:List Nat}(r:hy kvs hs ds g h a5)(e:a5=[]:=by rfl):h=g:=by
 cases r with
 |tH=>rfl
 |on=>cases e
theorem l7.step(R:∀d∈ds,d.Ok hs.length)(dm:iA kvs ds.length)(O:l7 hs ds kvs gs sss go rt):l7 hs ds kvs gs (d8 hs ds kvs gs T go sss) (j2 gs go (d8 hs ds kvs gs T go sss)) (pN ds kvs gs T go sss rt):=by
 have bN:=(O.rx dm).2
 have sub:∀n∈j2 gs go (d8 hs ds kvs gs T go sss),n∈go:=λn az=>(d1.mp az).1
 have Yk:∀n∈go,hy kvs hs ds (gH gs n) (c7 (d8 hs ds kvs gs T go sss) n).dv (pN ds kvs gs T go sss rt n):=λn az=>by
  have ln:n<sss.length:=by rw[O.len];exact O.lt n az
  rw[wA bN ln]
  unfold pN
  by_cases z:gW ds kvs gs T go sss n=true
  .rw[aI z,aI z]
   obtain⟨k,gA,av,_,ay,cv,er⟩:=(O.way n az).way (O.on n az)
   have dK:d_ kvs gs sss n=k:=by unfold d_;rw[ay];rfl
   rw[av]
   show hy kvs hs ds (gH gs n) (ni hs ds (d_ kvs gs sss n)) gA
   rw[dK,Pl cv]
   exact er
  .rw[aD z,aD z]
   exact O.way n az
 refine⟨?_,λn az=>O.lt n (sub n az),O.aE.filter _,λss Aa=>?_,λn=>?_,λn az=>?_,λn az=>O.goal n (sub n az),λn az=>Yk n (sub n az),λn az e=>?_⟩
 .unfold d8
  rw[Fl]
  exact O.len
 .obtain⟨i,aj⟩:=pZ Aa
  rw[step_get bN]at aj
  obtain⟨N_,cF,rfl⟩:=eh.mp aj
  have:=O.ne N_ (eI cF)
  intro e
  exact this (List.append_eq_nil_iff.mp e).1
 .have f:=O.cM n
  by_cases ln:n<sss.length
  .rw[X_ bN ln]
   unfold pN
   by_cases z:gW ds kvs gs T go sss n=true
   .rw[aI z,aI z,ff,RF]
    have:=q5.mpr (O.on n (Pk z).1)
    simp only[hS,q4]
    omega
   .rw[aD z,aD z,jS]
    exact f
  .have cF:(d8 hs ds kvs gs T go sss).getD n []=[]:=by
    rw[cY,HD (by unfold d8;rw[Fl];omega)]
    rfl
   have z:¬gW ds kvs gs T go sss n=true:=λz=>ln (by rw[O.len];exact O.lt n (Pk z).1)
   rw[cF]
   unfold pN
   rw[aD z]
   simp only[q4]
   omega
 .have j4:=sub n az
  have ln:n<sss.length:=by rw[O.len];exact O.lt n j4
  rw[wA bN ln]
  by_cases z:gW ds kvs gs T go sss n=true
  .rw[aI z]
   have ar:=bN n j4
   show ni hs ds (d_ kvs gs sss n)∈_
   unfold ni
   rw[show ds.getD (d_ kvs gs sss n) lq=ds[d_ kvs gs sss n] by rw[cY,cg ar];rfl]
   exact oa (R _ (eg ar)).b
  .rw[aD z]
   exact O.dv n j4
 .have mV:=jM (d1.mp az).2
  have w:=Yk n (sub n az)
  rw[e]at w
  exact mV w.nil_eq
noncomputable def gj(rt:Nat→List Nat)(go:List Nat):Nat:=(go.map λn=>(rt n).length).sum
theorem Q_{f g:Nat→List Nat}:∀{go:List Nat},(∀n∈go,(f n).length≤(g n).length)→gj f go≤gj g go
 |[],_=>b1 _
 |n::go,h=>by
  unfold gj
  rw[fX,mv,fX,mv]
  have ag:=h n (.head _)
  have af:gj f go≤gj g go:=Q_ λn az=>h n (.tail _ az)
  unfold gj at af
  omega
theorem Ra{f g:Nat→List Nat}:∀{go:List Nat},(∀n∈go,(f n).length≤(g n).length)→(∃n∈go,(f n).length<(g n).length)→gj f go<gj g go
 |[],_,⟨n,az,_⟩=>nomatch az
 |n::go,h,⟨m,hm,lt⟩=>by
  have ag:=h n (.head _)
  have le:gj f go≤gj g go:=Q_ λn az=>h n (.tail _ az)
  unfold gj at le⊢
  rw[fX,mv,fX,mv]
  rcases fy.mp hm with rfl|hm
  .omega
  .have af:gj f go<gj g go:=Ra (λn az=>h n (.tail _ az)) ⟨m,hm,lt⟩
   unfold gj at af
   omega
theorem X4{f:Nat→List Nat}{p:Nat→Bool}:∀go:List Nat,gj f (go.filter p)≤gj f go
 |[]=>b1 _
 |n::go=>by
  have h:=X4 (f:=f) (p:=p) go
  rw[vf]
  unfold gj at h⊢
  split
  .rw[fX,mv,fX,mv]
   omega
  .rw[fX,mv]
   omega
theorem l7.less(R:∀d∈ds,d.Ok hs.length)(dm:iA kvs ds.length)(O:l7 hs ds kvs gs sss go rt)(h:∃n∈go,d7 sss n≤T):gj (pN ds kvs gs T go sss rt) (j2 gs go (d8 hs ds kvs gs T go sss))<gj rt go:=by
 have bN:=(O.rx dm).2
 refine lG (X4 go) (Ra (λn az=>?_) ?_)
 .unfold pN
  split
  .rw[RF];omega
  .exact b1 _
 .obtain⟨n,az,hd⟩:=h
  have ar:=bN n az
  have q:dN (d7 sss) (d_ kvs gs sss) T go (d_ kvs gs sss n)≠[]:=Ő (a:=(d7 sss n,n)) (by
   unfold dN
   refine bV.mpr ⟨n,d1.mpr ⟨az,?_⟩,rfl⟩
   rw[dp hd,dp rfl]
   rfl)
  have dY:1≤ir ds (d_ kvs gs sss n):=by
   unfold ir
   rw[show ds.getD (d_ kvs gs sss n) lq=ds[d_ kvs gs sss n] by rw[cY,cg ar];rfl]
   have:=(R _ (eg ar)).m.1
   omega
  obtain⟨i,aj⟩:=CJ _ (acz dY q)
  have bm:=tT aj
  have z:gW ds kvs gs T go sss i=true:=by
   unfold gW uA
   rw[bm.2.2]
   exact dp aj
  refine⟨i,bm.1,?_⟩
  unfold pN
  rw[aI z,RF]
  have:=q5.mpr (O.on i bm.1)
  omega
theorem Fm(h:go≠[]):∃n∈go,d7 sss n≤nextT T go sss:=by
 have ag:=(Gg (ns:=go.map (d7 sss)) (by simpa using h)).1
 obtain⟨n,az,e⟩:=bV.mp ag
 refine⟨n,az,?_⟩
 unfold nextT
 rw[e]
 exact Int.le_max_right _ _
end
open PySem ai cA a'
section
variable{hs:List (List Nat)}{ds:List a'.bz}{kvs:c9}{gs:List Str}{sss:List (List Step)}{go:List Nat}{rt:Nat→List Nat}{T:Int}
noncomputable def G6(hs:List (List Nat))(ds:List a'.bz)(kvs:c9):Prop:=∀h g k,hK kvs h g=some k→sz hs ds k=h
theorem hy.uniq{g h:Str}:∀{a b:List Nat},hy kvs hs ds g h a→hy kvs hs ds g h b→a=b
 |[],_,fM,kE=>by
  cases fM
  cases kE with
  |tH=>rfl
  |on ne _ _ _=>exact bB rfl ne
 |k::a,b,fM,kE=>by
  obtain⟨k1,t1,av,hD,fP,_,b6⟩:=fM.way (by simp)
  cases av
  cases kE with
  |tH=>exact bB rfl hD
  |on _ fD _ c8=>
   rw[fP]at fD
   cases fD
   rw[b6.uniq c8]
noncomputable def gone(P:List (fE×List Nat))(n:Nat):List Nat:=(P.filter λb=>decide (n∈b.2)).map λb=>b.1.2
theorem Ê(bN:∀k∈go,d_ kvs gs sss k<ds.length)(n:Nat):gone (hX ds kvs gs T go sss) n=if gW ds kvs gs T go sss n=true then[d_ kvs gs sss n]else[]:=by
 unfold gone hX
 rw[FE bN n]
 show CK _ (if gW ds kvs gs T go sss n=true then _ else _)=_
 cases gW ds kvs gs T go sss n<;>rfl
theorem Ġ(P yC:List (fE×List Nat))(n:Nat):gone (P++yC) n=gone P n++gone yC n:=by
 unfold gone
 rw[lE,ek]
theorem OC(R:∀d∈ds,d.Ok hs.length)(dm:iA kvs ds.length):∀(m:Nat)(T:Int)(go:List Nat)(sss:List (List Step))(rt:Nat→List Nat),l7 hs ds kvs gs sss go rt→gj rt go≤m→∀n,gone (hL hs ds kvs gs m T go sss) n=if n∈go then rt n else[]
 |0,T,go,sss,rt,O,cw,n=>by
  have bf:go=[]:=by
   cases go with
   |nil=>rfl
   |cons k go=>
    have:=q5.mpr (O.on k (.head _))
    unfold gj at cw
    rw[fX,mv]at cw
    omega
  rw[bf,aD eB]
  rfl
 |m+1,T,go,sss,rt,O,cw,n=>by
  unfold hL
  by_cases bf:go=[]
  .rw[aI bf,bf,aD eB]
   rfl
  .rw[aD bf,Ġ]
   have bN:=(O.rx dm).2
   obtain⟨cb,nX⟩:∃cb,cb=nextT T go sss:=⟨_,rfl⟩
   have less:=O.less (T:=cb) R dm (by rw[nX];exact Fm bf)
   rw[←nX,Ê bN n,OC R dm m cb _ _ _ (O.step R dm) (by omega) n]
   by_cases az:n∈go
   .rw[aI az]
    have ln:n<sss.length:=by rw[O.len];exact O.lt n az
    obtain⟨k,gA,av,ne,ay,cv,er⟩:=(O.way n az).way (O.on n az)
    have dK:d_ kvs gs sss n=k:=by unfold d_;rw[ay];rfl
    have l2:n∈j2 gs go (d8 hs ds kvs gs cb go sss)↔(c7 (d8 hs ds kvs gs cb go sss) n).dv≠gH gs n:=by
     unfold j2
     rw[d1,kZ]
     exact⟨λz=>z.2,λz=>⟨az,z⟩⟩
    rw[wA bN ln]at l2
    by_cases z:gW ds kvs gs cb go sss n=true
    .rw[aI z]
     rw[aI z]at l2
     have l2:n∈j2 gs go (d8 hs ds kvs gs cb go sss)↔ni hs ds (d_ kvs gs sss n)≠gH gs n:=l2
     rw[dK,Pl cv]at l2
     rw[dK,av]
     show[k]++_=[k]++gA
     congr 1
     by_cases y:hB hs ds k=gH gs n
     .rw[aD λw=>(l2.mp w) y]
      rw[y]at er
      exact(er.uniq .tH).symm
     .rw[aI (l2.mpr y)]
      unfold pN
      rw[aI z,av]
      rfl
    .rw[aD z]
     rw[aD z]at l2
     rw[aI (l2.mpr ne),RJ]
     unfold pN
     rw[aD z]
   .rw[aD az,aD (show¬n∈j2 gs go (d8 hs ds kvs gs cb go sss) fromλw=>az (d1.mp w).1),aD λz=>az (Pk z).1]
    rfl
end
open PySem ai cA a'
noncomputable def eb:Str×Int×Str:=(jW,0,jW)
noncomputable def l8(hs:List (List Nat))(ds:List a'.bz)(kvs:c9)(lds:List (Str×Int×Str)):List Nat:=(c_ lds.length).filter λi=>rR kvs hs ds (lds.getD i eb)
noncomputable def jt(hs:List (List Nat))(ds:List a'.bz)(kvs:c9)(lds:List (Str×Int×Str)):List (fE×List Nat):=hL hs ds kvs (lds.map λd=>d.2.2) 1300 (-1) (l8 hs ds kvs lds) (lds.map gg)
theorem acA{K:a3}{wi:TI}{a:Addr}{xs:List ai.V}{cs:List (Option Nat)}{σ rest:ai.St}{tt:TT}{bY:TE}{Q:bk}{H H1:ae}(hw:∀R:e7→ae→Prop,R (pX K a) H1→wi σ H R)(gx:gO cs σ=none::none::rest)(aH:aR K H1 a xs)(ar:xs.length<sizeLine)(p:Nat→Bool)(f:Nat→ai.V)(test:∀(i:Nat)(x:ai.V)(ak:ae)(R:Bool→ae→Prop),xs[i]?=some x→aP H1 ak→(∀bU,aP ak bU→R (p i) bU)→tt (some (.int i)::some x::rest) ak R)(elt:∀(i:Nat)(x:ai.V)(ak:ae)(R:bk),xs[i]?=some x→p i=true→aP H1 ak→(∀bU,aP ak bU→R (f i) bU)→bY (some (.int i)::some x::rest) ak R)(fin:∀(D:Addr)(H':ae),H1 D=none→H' D=some (.lst (((c_ xs.length).filter p).map f))→aP H1 H'→Q (.ref D) H'):
  kI wi cs (uG K 2 (m7 (gr 0) (m7 (gr 1) uP))) tt bY σ H Q:=hw _ (Qi gx aH ar (λi _=>p i) (λi _=>f i) test elt λD H' qC cq aC=>fin D H' qC (by
   have e:((xs.zipIdx.filter λz=>p z.2).map λz=>f z.2)=((c_ xs.length).filter p).map f:=by
    rw[Ŗ,←Ř,vg,gk]
    rfl
   rw[←e]
   exact cq) aC)
theorem ud{H:ae}{ls:List Addr}{sss:List (List Step)}(h:bZ (gF H) ls sss):∀l∈ls,∃ts,H l=some (.lst (aL ts)):=λl ar=>by
 obtain⟨i,aj⟩:=pZ ar
 obtain⟨ss,_,ts,ag,_⟩:=bZ.get h aj
 exact⟨ts,ag⟩
theorem acB{C:Addr}{H:ae}{x n g st:Addr}{gs:List Str}{ls:List Addr}{sss:List (List Step)}(W:m8 C H x n g st gs ls)(e:bZ (gF H) ls sss)(fr:∀l∈ls,l≠st∧l≠g):m8 C (mask H ls) x n g st gs ls:=by
 obtain⟨au,ao⟩:=W.ins
 refine⟨⟨au,qv ao λz=>?_⟩,qv W.goals λz=>(fr g z).2 rfl,qv W.steps λz=>(fr st z).1 rfl⟩
 obtain⟨ts,h⟩:=ud e x z
 rw[ao]at h
 cases h
theorem Fn{H:ae}{ls:List Addr}{sss:List (List Step)}{a:Addr}{b:fE×List Nat}(h:iZ H a b)(e:bZ (gF H) ls sss):iZ (mask H ls) a b:=by
 obtain⟨c,ag,af⟩:=h
 refine⟨c,qv ag λz=>?_,qv af λz=>?_⟩
 .obtain⟨ts,h⟩:=ud e a z
  rw[ag]at h
  cases h
 .obtain⟨ts,h⟩:=ud e c z
  rw[af]at h
  cases h
theorem Ë{H H':ae}{ls:List Addr}(aC:aP H H')(fr:∀l∈ls,H l=none):aP H (mask H' ls):=λb o e=>qv (aC _ _ e) λz=>by rw[fr b z]at e;cases e
theorem ġ{H:ae}{ls:List Addr}{sss:List (List Step)}{p:Addr}{xs ys:List ai.V}(h:bZ (gF H) ls sss)(aQ:H p=some (.lst xs))(np:p∉ls):bZ (gF (upd H p (.lst ys))) ls sss:=by
 have all:∀{ls:List Addr}{sss:List (List Step)},bZ (gF H) ls sss→p∉ls→bZ (gF (upd H p (.lst ys))) ls sss:=λ{ls sss}q=>by
  induction q with
  |nil=>exactλ_=>.nil
  |cons r t ba=>
   intro nn
   obtain⟨ts,ag,af⟩:=r
   exact .cons ⟨ts,by rw[aG λz=>nn (by rw[z];exact .head _)];exact ag,af.upd aQ (by intro d z;cases z)⟩ (ba λz=>nn (.tail _ z))
 exact all h np
theorem m8.upd{C:Addr}{H:ae}{x n g st:Addr}{gs:List Str}{ls:List Addr}{p:Addr}{xs ys:List ai.V}(W:m8 C H x n g st gs ls)(aQ:H p=some (.lst xs))(ag:p≠g)(af:p≠st):m8 C (ai.upd H p (.lst ys)) x n g st gs ls:=by
 obtain⟨au,ao⟩:=W.ins
 exact⟨⟨au,by rw[aG λz=>by rw[z,aQ]at ao;cases ao];exact ao⟩,by rw[aG (dG ag)];exact W.goals,by rw[aG (dG af)];exact W.steps⟩
structure uB(C:Addr)(H a7:ae)(x n g st gl pl:Addr)(gs:List Str)(ls as:List Addr)(sss:List (List Step))(go:List Nat)(bs:List (fE×List Nat)):Prop where
 aC:aP H a7
 sh:m8 C a7 x n g st gs ls
 each:bZ (gF a7) ls sss
 ry:a7 gl=some (.lst (fi go))
 nd:gl∉ls
 MO:gl≠pl
 w5:a7 pl=some (.lst (aL as))
 yT:bZ (iZ a7) as bs
theorem uB.same{C:Addr}{H a7 dk:ae}{x n g st gl pl:Addr}{gs:List Str}{ls as:List Addr}{sss:List (List Step)}{go:List Nat}{bs:List (fE×List Nat)}(h:uB C H a7 x n g st gl pl gs ls as sss go bs)(s:aP a7 dk):uB C H dk x n g st gl pl gs ls as sss go bs:=
 ⟨h.aC.trans s,h.sh.same s,Yi h.each s,s _ _ h.ry,h.nd,h.MO,s _ _ h.w5,bZ.jL h.yT λ_ _ b=>b.same s⟩
theorem rv{α β:Type}{f:α→β}{l:List α}{i:Nat}{d:α}{e:β}(h:i<l.length):(l.map f).getD i e=f (l.getD i d):=by
 rw[cY,b8,wQ (d:=d) h]
 rfl
theorem Rb{rt:Nat→List Nat}:∀go:List Nat,(∀n∈go,(rt n).length≤12)→gj rt go≤12*go.length
 |[],_=>b1 _
 |n::go,h=>by
  have ag:=Rb (rt:=rt) go λn az=>h n (.tail _ az)
  have af:=h n (.head _)
  unfold gj at ag⊢
  rw[fX,mv,hS]
  omega
theorem Nn{hs:List (List Nat)}{ds:List a'.bz}{kvs:c9}(R:∀d∈ds,d.Ok hs.length)(dm:iA kvs ds.length)(cM:hs.length≤12){lds:List (Str×Int×Str)}(Av:lds.length≤100)(hZ:∀d∈lds,d.1∈hs.map S∧d.2.2∈hs.map S∧d.1≠d.2.2):
  ∃rt,l7 hs ds kvs (lds.map λd=>d.2.2) (lds.map gg) (l8 hs ds kvs lds) rt∧gj rt (l8 hs ds kvs lds)≤1300:=by
 have mem:∀n∈l8 hs ds kvs lds,n<lds.length∧rR kvs hs ds (lds.getD n eb)=true:=λn az=>by
  obtain⟨ag,af⟩:=d1.mp az
  exact⟨iR.mp ag,af⟩
 have all:∀n,∃a5:List Nat,a5.length≤12∧(n∈l8 hs ds kvs lds→hy kvs hs ds (lds.getD n eb).2.2 (lds.getD n eb).1 a5):=λn=>by
  by_cases z:n∈l8 hs ds kvs lds
  .obtain⟨ag,af⟩:=mem n z
   obtain⟨a5,aU,bP⟩:=amA R dm cM (hZ _ (getD_mem' ag)).1 af
   exact⟨a5,bP,λ_=>aU⟩
  .exact⟨[],ea _,λy=>bB y z⟩
 obtain⟨rt,rI⟩:∃rt:Nat→List Nat,∀n,(rt n).length≤12∧(n∈l8 hs ds kvs lds→hy kvs hs ds (lds.getD n eb).2.2 (lds.getD n eb).1 (rt n)):=⟨λn=>Z5 (all n),λn=>G3 (all n)⟩
 have aq:∀n,n<lds.length→c7 (lds.map gg) n=⟨(lds.getD n eb).2.1,none,(lds.getD n eb).1,(lds.getD n eb).2.1⟩:=λn az=>by
  unfold c7
  rw[rv (d:=eb) az]
  rfl
 have ga:∀n,n<lds.length→gH (lds.map λd=>d.2.2) n=(lds.getD n eb).2.2:=λn az=>by
  unfold gH
  rw[rv (d:=eb) az]
 refine⟨rt,⟨by rw[bc,bc],λn az=>by rw[bc];exact(mem n az).1,(RK).filter _,λss Aa=>?_,λn=>?_,λn az=>?_,λn az=>?_,λn az=>?_,λn az e=>?_⟩,?_⟩
 .obtain⟨d,_,rfl⟩:=bV.mp Aa
  unfold gg
  simp
 .have h:=(rI n).1
  have:((lds.map gg).getD n []).length≤1:=by
   by_cases z:n<lds.length
   .rw[rv (d:=eb) z]
    exact b1 _
   .rw[cY,HD (by rw[bc];omega)]
    exact ea _
  omega
 .rw[aq n (mem n az).1]
  exact(hZ _ (getD_mem' (mem n az).1)).1
 .rw[ga n (mem n az).1]
  exact(hZ _ (getD_mem' (mem n az).1)).2.1
 .rw[aq n (mem n az).1,ga n (mem n az).1]
  exact(rI n).2 az
 .have r:=(rI n).2 az
  exact(hZ _ (getD_mem' (mem n az).1)).2.2 (r.nil_eq e)
 .have ag:=Rb (rt:=rt) (l8 hs ds kvs lds) λn _=>(rI n).1
  have af:(l8 hs ds kvs lds).length≤lds.length:=by
   unfold l8
   exact gm (nH _ _) (by rw[hi];exact b1 _)
  omega
inductive acC(C eT bA:Addr)(vs:(List ai.V))(H:ae)(Q:bk)(bF:cy):Prop where
 |mk (n gi y t bx aZ:Addr) (hs:List (List Nat)) (rs fK:List Addr) (ds:List a'.bz) (kvs:c9) (lds:List (Str×Int×Str)) (b4:vs=[.ref n,.ref gi,.ref y]) (bL:H gi=some (.lst (aL fK))) (cG:dn H fK (lds.map jJ)) (c2:fK.length≤60) (dR:kn eT bA H y n t bx aZ (dr hs) (aL rs) kvs) (eW:Good hs) (h8:hp H hs rs ds) (jz:iA kvs ds.length) (oP:(∀d∈lds,d.1∈hs.map S∧d.2.2∈hs.map S∧d.1≠d.2.2)) (xw:∀(l:Addr)(H':ae)(as:List Addr),H l=none→aP H H'→H' l=some (.lst (aL as))→bZ (iZ H') as (jt hs ds kvs lds)→Q (.ref l) H')
noncomputable def Hv(C eT bA:Addr):cW:=λvs H Q bF=>acC C eT bA vs H Q bF
section
variable{P:bT}{w:bJ}{K:a3}{aa:Str→Option Value}{base:Heap}
noncomputable abbrev yi:Stmt:=top 18
noncomputable abbrev WF:List Str:=["net","letters","ways","walk","going","plan","turn","bag"]
theorem r3:dT WF ["net","letters","ways"] (dh yi):=⟨rfl,rfl,rfl,by decide+kernel,rfl,by decide+kernel,by decide+kernel⟩
theorem acD{C eT bA f tr f1 f2 dc f4 eU:Addr}{fd zD fv gw nY rq zA:cP}(F:b0 K "run" "run" yi f fd)(B:g4 aa)(cx:pI K C)(Pm:aa "Walk"=some (.ref C))(FF:oY K C tr)(Ms:sL K C "Walk.__init__" yg ["self","net","letters"] tr zD)(amL:aY P w K aa base bu 2 tr zD ["self","net","letters"] (Hr C))(Ai:dS K aa "has_route" Bc ["letter","ways"] f1 fv)(amM:aY P w K aa base bu 4 f1 fv ["letter","ways"] (Ii eT bA))(mF:eD K C "last_turn" "Walk.last_turn" uc ["self","number"] f2 gw)(y3:aY P w K aa base bu 1 f2 gw ["self","number"] (AX C))(Aj:dS K aa "bags_at" Ba ["net","walk","going","ways","turn"] dc nY)(Θ:aY P w K aa base bu 5 dc nY ["net","walk","going","ways","turn"] (CY K C eT bA))(Et:eD K C "send" "Walk.send" BX ["self","bag"] f4 rq)(amN:aY P w K aa base bu 2 f4 rq ["self","bag"] (GI C bA))(Di:eD K C "home_turn" "Walk.home_turn" Bx ["self","number"] eU zA)(akE:aY P w K aa base bu 2 eU zA ["self","number"] (OU C)):
  aY P w K aa base bu 6 f fd ["net","letters","ways"] (Hv C eT bA):=by
 have kY:=cx.cl
 refine F.ok r3 (λvs H Q E h=>?_) (λbC A outer s H vs Q E aw h=>?_)
 .obtain⟨n,gi,y,t,bx,aZ,hs,rs,fK,ds,kvs,lds,rfl,_⟩:=h
  rfl
 .obtain⟨n,gi,y,t,bx,aZ,hs,rs,fK,ds,kvs,lds,rfl,k9,oH,cM,lL,G,R,dm,hZ,q⟩:=h
  refine⟨_,(bO (dB (i:=3) r3.aE rfl (kb rfl) (FK FF amL (aw.mono (by decide)) (by rfl) Pm Ms.bd .nil dI (aB (ah 0) (aB (ah 1) a8))))
   (bO (qg (i:=4) r3.aE rfl rfl rfl (N':=["number","letter","ways"]) (cs:=[none,none,some 2]) rfl (AV rfl B.enumerate (aB (ah 1) a8)) rfl (by decide+kernel) rfl (by decide+kernel) (jj (jT.mpr ⟨rfl,(λp aQ=>bB aQ (eB))⟩)) rfl
    (.own (.own (.iW rfl (.inl rfl) (.inl rfl) rfl .nil)))
    (λC s3 bD cu ey=>⟨(wJ (K:=K) (n:=2) rfl rfl (fZ (de (i:=0) (by show(["number","letter","ways"]:List Str).Nodup;decide+kernel) rfl (.inl rfl)) (fZ (de (i:=1) (by show(["number","letter","ways"]:List Str).Nodup;decide+kernel) rfl (.inl rfl)) lP))),(tQ (mZ (fT amM (aw.mono (by decide)) (by rfl) Ai.at_ Ai.fn.cN Ai.bd .nil dI (aB (ah 1) (aB (ah 2) a8))))),(ah 0)⟩))
   (bO (dB (i:=5) r3.aE rfl (cC rfl) (k7 a8))
   (bO (dB (i:=6) r3.aE rfl (cC rfl) (BN A7 bl))
   (bO (NF hF (Ú (ah 4) (λ_=>rfl))
    (bO (dB (i:=6) r3.aE rfl (cC rfl) (gd (ρ rfl) (by rfl) B.max adU (aB (cK ie (ah 6) bl) (aB (gd (X6 rfl) (by rfl) B.min R1 (aB (qE (N':=["number","walk"]) (cs:=[none,some 3]) rfl (hn (ah 4)) rfl (by decide+kernel) rfl (by decide+kernel) (jj (jT.mpr ⟨rfl,(λp aQ=>bB aQ (eB))⟩)) rfl
    (.own (.iW rfl (.inl rfl) (.inl rfl) rfl .nil))
    (λC s3 bD cu ey=>⟨(de (i:=0) (by show(["number","walk"]:List Str).Nodup;decide+kernel) rfl (.inl rfl)),nZ,(hU (ah 1) kY mF.gI y3 (aw.mono (by decide)) mF.bd .nil dI (aB (ah 0) a8))⟩)) a8)) a8))))
   (bO (hV hF rfl (hn (fT Θ (aw.mono (by decide)) (by rfl) Aj.at_ Aj.fn.cN Aj.bd .nil dI (aB (ah 0) (aB (ah 3) (aB (ah 4) (aB (ah 2) (aB (ah 6) a8))))))) (de (i:=7) r3.aE rfl (cC rfl))
    (bO (iB (hU (ah 3) kY Et.gI amN (aw.mono (by decide)) Et.bd .nil dI (aB (ah 7) a8)))
   (bW (iB (pH p4 p5 p6 nR (ah 5) (aB (ah 7) a8))))))
   (bW (qg (i:=4) r3.aE rfl rfl rfl (N':=["number","walk"]) (cs:=[none,some 3]) rfl (hn (ah 4)) rfl (by decide+kernel) rfl (by decide+kernel) (jj (jT.mpr ⟨rfl,(λp aQ=>bB aQ (eB))⟩)) rfl
    (.own (.iW rfl (.inl rfl) (.inl rfl) rfl .nil))
    (λC s3 bD cu ey=>⟨(de (i:=0) (by show(["number","walk"]:List Str).Nodup;decide+kernel) rfl (.inl rfl)),(tQ (gf QJ (hU (ah 1) kY Di.gI akE (aw.mono (by decide)) Di.bd .nil dI (aB (ah 0) a8)) w3 (fu _))),(ah 0)⟩))))))
   (bW (dH (ah 5)))))))),?_⟩
  have EC:fK.length=lds.length:=by have:=oH.len;rwa [bc]at this
  obtain⟨gs,Dk⟩:∃gs,gs=lds.map λd=>d.2.2:=⟨_,rfl⟩
  have anO:gs.length=lds.length:=by rw[Dk,bc]
  have rP:=fS fK
  refine⟨_,rfl,_,rfl,λx au b' qD aE=>?_⟩
  have mk:∀{b:Addr}{v:d4},H b=some v→upd (upd H au (.own x)) x (.ins C au []) b=some v:=λ{b v}e=>by
   rw[aG (dg e b'),aG (dg e qD)]
   exact e
  refine⟨x,au,n,gi,fK,lds,rfl,a4,mk k9,oH.same (λb v e=>mk e),(by omega),λH1 g st ls bX W wV aov EZ fr anP=>⟨rfl,?_⟩⟩
  have s1:aP H H1:=XX b' qD bX
  have alV:∀{b:Addr},upd (upd H au (.own x)) x (.ins C au []) b=none→H b=none:=λ{b}e=>by
   cases ay:H b with
   |none=>rfl
   |some v=>rw[mk ay]at e;cases e
  have ahQ:∀l∈ls,H l=none:=λl ar=>alV (fr l ar).1
  have ahR:∀l∈ls,l≠st∧l≠g:=λl ar=>(fr l ar).2
  rw[←Dk]at W
  refine Cu ?_
  dsimp only
  refine AY ?_
  refine acA (K:=K) (a:=gi) (H1:=H1) (xs:=aL fK) (rest:=[some (.ref y)]) (λkd h=>⟨_,rfl,gi,rfl,⟨_,aR.of (s1 _ _ k9)⟩,h⟩) rfl (aR.of (s1 _ _ k9)) (fh (by omega)) (λi=>rR kvs hs ds (lds.getD i eb)) (λi=>.int (i:Int)) (λi v ak kd ev s2 c0=>?_) (λi v ak kd ev _ s2 c0=>⟨_,rfl,c0 ak (aP.refl _)⟩) (λv3 ak aj1 z2 s2=>?_)
  .unfold aL at ev
   rw[b8]at ev
   obtain⟨r,dK,rfl⟩:=eh.mp ev
   obtain⟨d',mK,kq⟩:=bZ.get oH dK
   rw[b8]at mK
   obtain⟨d,c',rfl⟩:=eh.mp mK
   have hc:=s1.trans s2
   have ef:=hZ d (eI c')
   refine⟨_,rfl,_,rfl,r,y,n,t,bx,aZ,hs,rs,ds,kvs,d,rfl,hc _ _ kq,lL.same hc,G,R.same hc,dm,ef.1,ef.2.1,λbD s3=>⟨_,rfl,?_⟩⟩
   have:=c0 bD s3
   rw[k_ c']at this
   exact this
  rw[rP,EC]at z2
  have z2:ak v3=some (.lst (fi (l8 hs ds kvs lds))):=z2
  refine⟨ea _,λpl rV=>?_⟩
  have s3:=cH (o:=.lst []) rV
  have VA:upd ak pl (.lst []) pl=some (.lst []):=a4
  have C9:=W.same s2
  have WH:=l5 (s1.trans s2) rV
  have akf:pl≠g:=dG (hx C9.goals rV)
  have akg:pl≠st:=dG (hx C9.steps rV)
  have WI:pl∉ls:=λz=>by
   obtain⟨ts,h⟩:=ud C9.each pl z
   rw[rV]at h
   cases h
  have aj2:v3∉ls:=λz=>by
   obtain⟨ts,h⟩:=ud W.each v3 z
   rw[aj1]at h
   cases h
  have aj3:v3≠pl:=hx z2 rV
  have Vl:=s3 _ _ z2
  have yP:=C9.same s3
  have W9:=(s1.trans s2).trans s3
  generalize upd ak pl (.lst [])=bD at s3 VA Vl yP W9⊢
  have bz:=R.ok
  have DH:=G.cM
  have CU:=Nn (kvs:=kvs) bz dm DH (show lds.length≤100 by omega) hZ
  rw[←Dk]at CU
  obtain⟨akS,CU,alF⟩:=CU
  refine⟨_,rfl,?_⟩
  refine Cu ?_
  dsimp only
  have a0:uB C H bD x n g st v3 pl gs ls [] (lds.map gg) (l8 hs ds kvs lds) []:=⟨W9,⟨yP.ins,yP.goals,yP.steps⟩,yP.each,Vl,aj2,aj3,VA,.nil⟩
  obtain⟨I,JN⟩:∃I:Nat→ai.St→ae→Prop,I=λm σ a7=>∃(T:Int)(go:List Nat)(sss:List (List Step))(rt:Nat→List Nat)(gl:Addr)(as:List Addr)(bs:List (fE×List Nat))(nv:Option ai.V),σ=[some (.ref n),some (.ref gi),some (.ref y),some (.ref x),some (.ref gl),some (.ref pl),some (.int T),nv]∧uB C H a7 x n g st gl pl gs ls as sss go bs∧l7 hs ds kvs gs sss go rt∧gj rt go≤m∧bs++hL hs ds kvs gs m T go sss=jt hs ds kvs lds∧as.length≤(1300-m)*100∧m≤1300:=⟨_,rfl⟩
  refine⟨I,⟨1300,by rw[JN];exact⟨-1,_,_,akS,v3,[],[],none,rfl,a0,CU,alF,by rw[RJ,Dk];rfl,ea _,b1 _⟩⟩,?_⟩
  intro m σ a7 D2
  rw[JN]at D2
  obtain⟨T,go,sss,rt,gl,as,bs,nv,rfl,ly,O,aoG,Lg,aod,aok⟩:=D2
  have ahW:go.length≤60:=by
   have:=pg (L:=c_ gs.length) O.aE λk aK=>iR.mpr (O.lt k aK)
   rw[hi]at this
   omega
  obtain⟨y5,Ls⟩:=ly.sh.ins
  have ok:=(O.rx dm).1
  have bN:=(O.rx dm).2
  refine⟨_,rfl,!(fi go).isEmpty,.inl ⟨_,aR.of ly.ry,rfl⟩,?_⟩
  by_cases bf:go=[]
  .subst bf
   refine gh rfl ⟨_,rfl,q pl a7 as WH ly.aC ly.w5 ?_⟩
   have cF:hL hs ds kvs gs m T [] sss=[]:=by cases m<;>rfl
   rw[cF,jS]at Lg
   rw[←Lg]
   exact ly.yT
  obtain⟨cb,nX⟩:∃cb,cb=nextT T go sss:=⟨_,rfl⟩
  have less:=O.less (T:=cb) bz dm (by rw[nX];exact Fm bf)
  obtain⟨m,rfl⟩:∃cR,m=cR+1:=⟨m-1,by omega⟩
  refine f6 (by cases go with|nil=>exact bB rfl bf|cons _ _=>rfl) ⟨I m,λa6 H' h=>⟨m,by omega,h⟩,?_⟩
  have p8:=ly.sh.at_ ly.each
  dsimp only[qQ,sk,uw,xo]
  refine⟨_,rfl,_,_,rfl,rfl,?_⟩
  have aoi:(fi go).length=go.length:=bc _
  refine Fv (J:=jc K gl) (H1:=a7) (xs:=fi go) (rest:=[some (.ref x)]) (λkd h=>⟨_,rfl,gl,rfl,⟨_,aR.of ly.ry⟩,h⟩) rfl (n0 (aR.of ly.ry)) (fh (by omega)) (λv=>match v with|.int k=>.int (d7 sss k.toNat)|_=>.bR) (λi v ak kd ev s2 c0=>?_) (λeX d0 MD qj s4=>?_)
  .obtain⟨k,aK,rfl⟩:=bV.mp (eI ev)
   obtain⟨ss,akX,nB,av,ay,_⟩:=ok k aK
   refine⟨_,rfl,x,y5,_,rfl,s2 _ _ Ls,rfl,_,rfl,x,n,g,st,gs,ls,sss,k,ss,akX,rfl,p8.same s2,av,?_⟩
   rw[ay]
   have:=c0 ak (aP.refl _)
   rw[show(match V.int (k:Int)with|.int k=>V.int (d7 sss k.toNat)|_=>.bR)=V.int (d7 sss k) by show V.int (d7 sss (k:Int).toNat)=_;rw[mq]]at this
   exact this
  have ahs:(fi go).map (λv=>match v with|.int k=>V.int (d7 sss k.toNat)|_=>.bR)=(go.map (d7 sss)).map V.int:=by
   unfold fi
   rw[gk,gk]
   rfl
  rw[ahs]at qj
  refine⟨eX,go.map (d7 sss),rfl,aR.of qj,by simpa using bf,_,_,rfl,?_⟩
  have ahu:(if pJ (go.map (d7 sss))>T+1 then pJ (go.map (d7 sss))else T+1)=cb:=by
   rw[nX]
   unfold nextT
   split<;>omega
  rw[ahu]
  have g0:=ly.same s4
  refine Cu ?_
  refine⟨_,rfl,_,rfl,_,rfl,_,rfl,_,rfl,x,n,g,st,gl,y,t,bx,aZ,gs,ls,rs,sss,hs,ds,kvs,go,d7 sss,d_ kvs gs sss,cb,rfl,p8.same s4,aR.of g0.ry,lL.same g0.aC,R.same g0.aC,G,ahW,O.aE,ok,bN,λbo bU mD gY wU s5 zT C' OB Wg=>⟨bo,rfl,⟨_,aR.of zT⟩,?_⟩⟩
  obtain rfl:=ħ bN OB Wg
  obtain⟨kL,y8⟩:∃kL,kL=hX ds kvs gs cb go sss:=⟨_,rfl⟩
  have C':bZ (iZ bU) mD kL:=by rw[y8];exact C'
  have fw:=g0.same s5
  have ajW:bo∉ls:=λz=>by
   obtain⟨ts,h⟩:=ud g0.each bo z
   rw[wU]at h
   cases h
  have ajV:bo≠pl:=dG (hx g0.w5 wU)
  have V6:=iy C'
  have amV:kL.length≤100:=by
   rw[y8]
   unfold hX m'
   rw[bc]
   have aE:(px ds.length (d7 sss) (d_ kvs gs sss) cb go).Nodup:=(HL.filter _).imp λh=>en h
   have:=pg (L:=go.map (d_ kvs gs sss)) aE λr aw=>by
    have ag:=(Wg r).mp aw
    obtain⟨c,aF⟩:=CJ _ ag
    unfold dN at aF
    obtain⟨k,aK,_⟩:=bV.mp aF
    obtain⟨aU,bP⟩:=d1.mp aK
    simp only[kK,decide_eq_true_eq]at bP
    exact bV.mpr ⟨k,aU,bP.2⟩
   rw[bc]at this
   omega
  refine nV (xs:=aL mD) (λj σ dk=>∃nv,σ=[some (.ref n),some (.ref gi),some (.ref y),some (.ref x),some (.ref gl),some (.ref pl),some (.int cb),nv]∧uB C H dk x n g st gl pl gs ls (as++mD.take j) (pz hs ds (kL.take j) sss) go (bs++kL.take j)∧dk bo=some (.lst (aL mD))∧bZ (iZ dk) mD kL)
   ⟨nv,rfl,by simpa[pz]using fw,zT,C'⟩ (λj σ dk _⟨_,_,_,h,_⟩=>aR.of h) ?_ ?_
  .rintro j z σ dk cV ⟨nv,rfl,e5,U5,Jw⟩
   unfold aL at cV
   rw[b8]at cV
   obtain⟨iU,vI,rfl⟩:=eh.mp cV
   obtain⟨b,dJ,U⟩:=bZ.get Jw vI
   have agi:=eI dJ
   have Jz:=agi
   rw[y8]at Jz
   unfold hX m' at Jz
   obtain⟨r,aw,kE⟩:=bV.mp Jz
   have akQ:r<ds.length:=by
    unfold px at aw
    exact iR.mp (d1.mp aw).1
   obtain⟨y5,Lu⟩:=e5.sh.ins
   have N7:=Ë e5.aC ahQ
   have PQ:=acB e5.sh e5.each ahR
   refine⟨_,rfl,x,y5,_,rfl,Lu,rfl,_,rfl,mask dk ls,x,n,g,st,bx,aZ,iU,gs,ls,rs,_,hs,ds,b,rfl,Υ dk ls,PQ,e5.each,EZ,(λl ar=>aal ar),lL.i7.same N7,R.same N7,Fn U e5.each,?_,?_,?_,?_,λkN h5 ahx=>?_⟩
   .rw[←kE];exact akQ
   .rw[←kE];exact Rn O.aE r
   .intro i aj
    rw[←kE]at aj
    rw[Fl,O.len]
    exact O.lt i (tT aj).1
   .intro ss Aa
    obtain⟨i,aj⟩:=pZ Aa
    rw[OA]at aj
    obtain⟨N_,cF,rfl⟩:=eh.mp aj
    have f:=O.cM i
    rw[show sss.getD i []=N_ by rw[cY,cF];rfl]at f
    have gy:((kL.take j).filter λb=>decide (i∈b.2)).length≤(kL.filter λb=>decide (i∈b.2)).length:=((oX j kL).filter _).length_le
    have e_:(kL.filter λb=>decide (i∈b.2)).length≤1:=by
     rw[y8]
     unfold hX
     rw[FE bN i]
     split
     .exact b1 _
     .exact ea _
    rw[ff,bc]
    omega
   have tJ:=h5 _ _ (qv e5.w5 WI)
   have aoj:=iy e5.yT
   have alD:(as++mD.take j).length≤200000:=by
    rw[ff,gb]
    omega
   refine⟨_,rfl,.inl ⟨rfl,_,aR.of tJ⟩,_,rfl,pl,_,_,rfl,rfl,tJ,(by rw[fS];exact lG alD (by decide)),_,rfl,?_,?_,?_⟩
   .have t1:mD.take (j+1)=mD.take j++[iU]:=by rw[kR,vI];rfl
    have dx:kL.take (j+1)=kL.take j++[b]:=by rw[kR,dJ];rfl
    rw[t1,dx,É,←jB,←jB]
    refine⟨hH WH (N7.trans h5),(PQ.same h5).upd tJ akf akg,ġ ahx tJ WI,?_,e5.nd,e5.MO,by rw[a4,p_],?_⟩
    .rw[aG e5.MO]
     exact h5 _ _ (qv e5.ry e5.nd)
    .exact Paired.snoc (((Fn U e5.each).same h5).upd tJ) (bZ.jL e5.yT λa b h=>((Fn h e5.each).same h5).upd tJ)
   .rw[aG ajV]
    exact h5 _ _ (qv U5 ajW)
   .exact bZ.jL Jw λa b h=>((Fn h e5.each).same h5).upd tJ
  .rintro σ dk ⟨nv,rfl,e5,U5,Jw⟩
   rw[fS,V6,ka,show mD.take kL.length=mD by rw[←V6,ka],y8]at e5
   have e5:uB C H dk x n g st gl pl gs ls (as++mD) (d8 hs ds kvs gs cb go sss) go (bs++hX ds kvs gs cb go sss):=e5
   have p3:=O.step (T:=cb) bz dm
   obtain⟨y5,Lu⟩:=e5.sh.ins
   have ae9:=e5.sh.at_ e5.each
   dsimp only
   refine QY (J:=jc K gl) (H1:=dk) (xs:=fi go) (rest:=[some (.ref x)]) (λkd h=>⟨_,rfl,gl,rfl,⟨_,aR.of e5.ry⟩,h⟩) rfl (n0 (aR.of e5.ry)) (fh (by omega)) (λv=>match v with|.int k=>decide ((c7 (d8 hs ds kvs gs cb go sss) k.toNat).dv≠gH gs k.toNat)|_=>false) id (λi v ak kd ev s2 c0=>?_) (λi v ak kd ev _ s2 c0=>⟨_,rfl,c0 ak (aP.refl _)⟩) (λUp d0 Wx Vk akY=>?_)
   .obtain⟨k,aK,rfl⟩:=bV.mp (eI ev)
    have lk:k<gs.length:=O.lt k aK
    have av:(d8 hs ds kvs gs cb go sss)[k]?=some ((d8 hs ds kvs gs cb go sss).getD k []):=wQ (by rw[p3.len];exact lk)
    obtain⟨ajn,iD⟩:=X2 (p3.ne _ (eI av))
    refine⟨_,rfl,x,y5,_,rfl,s2 _ _ Lu,rfl,_,rfl,x,n,g,st,gs,ls,_,k,ajn,c7 (d8 hs ds kvs gs cb go sss) k,gH gs k,rfl,ae9.same s2,?_,wQ lk,rfl,_,rfl,?_⟩
    .rw[av]
     congr 1
    .have ay:decide (Cq (c7 (d8 hs ds kvs gs cb go sss) k) (gH gs k)=V.bR)=decide ((c7 (d8 hs ds kvs gs cb go sss) k).dv≠gH gs k):=by
      unfold Cq
      by_cases z:(c7 (d8 hs ds kvs gs cb go sss) k).dv=gH gs k
      .rw[aI z]
       simp[z]
      .rw[aD z]
       simp[z]
     rw[ay]
     have:=c0 ak (aP.refl _)
     rw[show(match V.int (k:Int)with|.int k=>decide ((c7 (d8 hs ds kvs gs cb go sss) k.toNat).dv≠gH gs k.toNat)|_=>false)=decide ((c7 (d8 hs ds kvs gs cb go sss) k).dv≠gH gs k) by show decide ((c7 (d8 hs ds kvs gs cb go sss) (k:Int).toNat).dv≠gH gs (k:Int).toNat)=_;rw[mq]]at this
     exact this
   have vJ:((fi go).filter λv=>match v with|.int k=>decide ((c7 (d8 hs ds kvs gs cb go sss) k.toNat).dv≠gH gs k.toNat)|_=>false).map id=fi (j2 gs go (d8 hs ds kvs gs cb go sss)):=by
    unfold fi j2
    rw[ō,vg]
    rfl
   rw[vJ]at Vk
   rw[JN]
   have qV:=e5.same akY
   refine⟨cb,_,_,_,Up,as++mD,_,nv,rfl,⟨qV.aC,qV.sh,qV.each,Vk,λz=>?_,dG (hx e5.w5 Wx),qV.w5,qV.yT⟩,p3,by omega,?_,?_,by omega⟩
   .obtain⟨ts,h⟩:=ud e5.each Up z
    rw[Wx]at h
    cases h
   .rw[←Lg,jB]
    congr 1
    show _=(if go=[]then[]else _)
    rw[aD bf,←nX]
   .rw[ff]
    omega
end
open PySem ai cA a'
noncomputable def gz(s:Step):List Step→List (Str×Int×Int)
 |[]=>[]
 |s'::r=>(s.dv,s.due,s'.left)::gz s' r
noncomputable def dD(hs:List (List Nat))(ds:List a'.bz)(P:List (fE×List Nat))(n:Nat):List Step:=(P.filter λb=>decide (n∈b.2)).map λb=>stepK hs ds b.1
theorem Fo(hs:List (List Nat))(ds:List a'.bz)(P yC:List (fE×List Nat))(n:Nat):dD hs ds (P++yC) n=dD hs ds P n++dD hs ds yC n:=by
 unfold dD
 rw[lE,ek]
section
variable{hs:List (List Nat)}{ds:List a'.bz}{kvs:c9}{gs:List Str}{sss:List (List Step)}{go:List Nat}{rt:Nat→List Nat}{T:Int}
theorem Ya(bN:∀k∈go,d_ kvs gs sss k<ds.length)(n:Nat):dD hs ds (hX ds kvs gs T go sss) n=if gW ds kvs gs T go sss n=true then[stepK hs ds (T,d_ kvs gs sss n)]else[]:=by
 unfold dD hX
 rw[FE bN n]
 show CK _ (if gW ds kvs gs T go sss n=true then _ else _)=_
 cases gW ds kvs gs T go sss n<;>rfl
noncomputable def B3(hs:List (List Nat))(ds:List a'.bz)(P:List (fE×List Nat))(aq:Nat→Step)(n k:Nat)(h:Str)(s dX:Int):Prop:=
 ∃b∈P,b.1=(dX,k)∧(b.2.length:Int)=ir ds k∧∀m∈b.2,∃s',(h,s',dX)∈gz (aq m) (dD hs ds P m)∧(s'<s∨(s'=s∧m<n))
theorem Z9{ds:List a'.bz}{due:Nat→Int}{rd:Nat→Nat}{T:Int}{go:List Nat}(aE:go.Nodup)(hm:∀k∈go,1≤ir ds (rd k)){n:Nat}(az:n∈go)(hd:due n≤T)(hs:¬uA ds due rd T go n=true):
  ((hW ds due rd T go (rd n)).2.length:Int)=ir ds (rd n)∧∀m∈(hW ds due rd T go (rd n)).2,due m<due n∨(due m=due n∧m<n):=by
 have dY:=hm n az
 have bg:(due n,n)∈dN due rd T go (rd n):=by
  unfold dN
  refine bV.mpr ⟨n,d1.mpr ⟨az,?_⟩,rfl⟩
  rw[dp hd,dp rfl]
  rfl
 have aQ:=(vZ _).mem_iff.mpr bg
 have no:(due n,n)∉(iC (dN due rd T go (rd n))).take (ir ds (rd n)).toNat:=λz=>hs (by
  unfold uA hW sG
  exact dp ((rm _).mem_iff.mpr (bV.mpr ⟨_,z,rfl⟩)))
 constructor
 .unfold hW sG
  rw[(rm _).length_eq,bc,gb]
  have:(ir ds (rd n)).toNat≤(iC (dN due rd T go (rd n))).length:=by
   by_cases z:(ir ds (rd n)).toNat≤(iC (dN due rd T go (rd n))).length
   .exact z
   .rw[HM (by omega)]at no
    exact bB aQ no
  omega
 .intro m Vu
  unfold hW sG at Vu
  obtain⟨p,VB,rfl⟩:=bV.mp ((rm _).mem_iff.mp Vu)
  have up:=Æ (Rm (due:=due) (rd:=rd) (T:=T) (r:=rd n) aE)
  have ai2:p.1=due p.2:=by
   have:=(vZ _).mem_iff.mp (yt VB)
   unfold dN at this
   obtain⟨i,_,rfl⟩:=bV.mp this
   rfl
  rw[←p1 (ir ds (rd n)).toNat (iC (dN due rd T go (rd n)))]at up aQ
  have il:=(el.mp aQ).resolve_left no
  have lt:=(jV.mp up).2.2 p VB _ il
  rw[←ai2]
  rcases lt with h|⟨ag,af⟩
  .exact .inl h
  .exact .inr ⟨ag,af⟩
theorem EW{x:Str×Int×Int}:∀{L:List Step}{s0:Step},x∈gz s0 L→(x.1=s0.dv∧x.2.1=s0.due)∨∃y∈L,x.1=y.dv∧x.2.1=y.due
 |[],_,h=>nomatch h
 |y::r,s0,h=>by
  rcases fy.mp h with rfl|h
  .exact .inl ⟨rfl,rfl⟩
  .rcases EW h with e|⟨z,bQ,e⟩
   .exact .inr ⟨y,.head _,e⟩
   .exact .inr ⟨z,.tail _ bQ,e⟩
theorem tU:∀(m:Nat)(T:Int)(go:List Nat)(sss:List (List Step)),∀b∈hL hs ds kvs gs m T go sss,b.1.2<ds.length∧T<b.1.1∧∀n∈b.2,n∈go
 |0,_,_,_,b,U=>nomatch U
 |m+1,T,go,sss,b,U=>by
  unfold hL at U
  by_cases bf:go=[]
  .rw[aI bf]at U
   exact bB U eB
  .rw[aD bf]at U
   have TT:T<nextT T go sss:=by unfold nextT;omega
   rcases el.mp U with h|h
   .unfold hX m' at h
    obtain⟨r,aw,rfl⟩:=bV.mp h
    exact⟨iR.mp (d1.mp aw).1,TT,λn az=>(tT az).1⟩
   .obtain⟨ag,af,aU⟩:=tU m _ _ _ b h
    exact⟨ag,by omega,λn az=>(d1.mp (aU n az)).1⟩
theorem Ι{T dX:Int}{go:List Nat}{sss:List (List Step)}(ag:T<dX)(af:dX<nextT T go sss){n:Nat}(az:n∈go):dX<d7 sss n:=by
 have aU:=(Gg (ns:=go.map (d7 sss)) (by intro z;rw[RG]at z;rw[z]at az;exact bB az eB)).2 (d7 sss n) (bV.mpr ⟨n,az,rfl⟩)
 unfold nextT at af
 omega
theorem Y5{rt:Nat→List Nat}{n:Nat}:∀{go:List Nat},n∈go→(rt n).length≤gj rt go
 |[],h=>nomatch h
 |k::go,h=>by
  unfold gj
  rw[fX,mv]
  rcases fy.mp h with rfl|h
  .omega
  .have:=Y5 (rt:=rt) h
   unfold gj at this
   omega
theorem Yb(R:∀d∈ds,d.Ok hs.length)(dm:iA kvs ds.length)(sC:G6 hs ds kvs):∀(m:Nat)(T:Int)(go:List Nat)(sss:List (List Step))(rt:Nat→List Nat),l7 hs ds kvs gs sss go rt→gj rt go≤m→∀n∈go,∀h s l,(h,s,l)∈gz (c7 sss n) (dD hs ds (hL hs ds kvs gs m T go sss) n)→
  ∃k,hK kvs h (gH gs n)=some k∧∀dX,s≤dX→dX<l→T<dX→B3 hs ds (hL hs ds kvs gs m T go sss) (c7 sss) n k h s dX
 |0,T,go,sss,rt,O,cw,n,az,_,_,_,_=>by
  exfalso
  have ag:=q5.mpr (O.on n az)
  have af:(rt n).length≤gj rt go:=Y5 az
  omega
 |m+1,T,go,sss,rt,O,cw,n,az,h,s,l,ao=>by
  have bf:go≠[]:=λz=>by rw[z]at az;exact bB az eB
  have bN:=(O.rx dm).2
  have xm:∀k,k<ds.length→1≤jv ds k∧1≤ir ds k:=λk aK=>by
   unfold jv ir
   rw[show ds.getD k lq=ds[k] by rw[cY,cg aK];rfl]
   exact⟨(R _ (eg aK)).t.1,(R _ (eg aK)).m.1⟩
  unfold hL at ao⊢
  rw[aD bf]at ao⊢
  obtain⟨cb,nX⟩:∃cb,cb=nextT T go sss:=⟨_,rfl⟩
  have TT:T<cb:=by rw[nX];unfold nextT;omega
  have less:=O.less (T:=cb) R dm (by rw[nX];exact Fm bf)
  have p3:=O.step (T:=cb) R dm
  have gap:∀j∈go,∀dX,d7 sss j≤dX→dX<cb→T<dX→False:=λj aN dX a b c=>by
   rw[nX]at b
   have:=Ι c b aN
   omega
  rw[←nX]at ao⊢
  have ba:=Yb R dm sC m cb _ _ _ p3 (by omega) n
  obtain⟨nL,To⟩:∃nL,nL=hL hs ds kvs gs m cb (j2 gs go (d8 hs ds kvs gs cb go sss)) (d8 hs ds kvs gs cb go sss):=⟨_,rfl⟩
  have LW:∀b∈nL,b.1.2<ds.length∧cb<b.1.1∧∀j∈b.2,j∈j2 gs go (d8 hs ds kvs gs cb go sss):=λb U=>by
   rw[To]at U
   exact tU _ _ _ _ b U
  rw[←To]at ao ba⊢
  have sp:∀j∈go,gz (c7 sss j) (dD hs ds (hX ds kvs gs cb go sss++nL) j)=(if gW ds kvs gs cb go sss j=true then[((c7 sss j).dv,d7 sss j,cb)]else[])++gz (c7 (d8 hs ds kvs gs cb go sss) j) (dD hs ds nL j):=λj aN=>by
   have ln:j<sss.length:=by rw[O.len];exact O.lt j aN
   have aq:=wA (hs:=hs) (T:=cb) bN ln
   rw[Fo,Ya bN j,aq]
   by_cases z:gW ds kvs gs cb go sss j=true
   .rw[aI z,aI z,aI z]
    rfl
   .rw[aD z,aD z,aD z]
    rfl
  have ajp:∀j,j∈j2 gs go (d8 hs ds kvs gs cb go sss)→j∈go:=λj aN=>(d1.mp aN).1
  have lift:∀{k:Nat}{h:Str}{s dX:Int},B3 hs ds nL (c7 (d8 hs ds kvs gs cb go sss)) n k h s dX→B3 hs ds (hX ds kvs gs cb go sss++nL) (c7 sss) n k h s dX:=λ{k h s dX}⟨b,U,e,f,g⟩=>by
   refine⟨b,el.mpr (.inr U),e,f,λj aN=>?_⟩
   obtain⟨s',ag,af⟩:=g j aN
   refine⟨s',?_,af⟩
   rw[sp j (ajp j ((LW b U).2.2 j aN))]
   exact el.mpr (.inr ag)
  obtain⟨k,gA,av,ne,ay,cv,er⟩:=(O.way n az).way (O.on n az)
  have dK:d_ kvs gs sss n=k:=by unfold d_;rw[ay];rfl
  have ln:n<sss.length:=by rw[O.len];exact O.lt n az
  have aq:=wA (hs:=hs) (T:=cb) bN ln
  have V7:∀x,x∈gz (c7 (d8 hs ds kvs gs cb go sss) n) (dD hs ds nL n)→(x.1=(c7 (d8 hs ds kvs gs cb go sss) n).dv∧x.2.1=d7 (d8 hs ds kvs gs cb go sss) n)∨cb<x.2.1:=λx ao=>by
   rcases EW ao with e|⟨y,aT,_,e⟩
   .exact .inl e
   .unfold dD at aT
    obtain⟨b,U,rfl⟩:=bV.mp aT
    obtain⟨bq,cp,_⟩:=LW b (d1.mp U).1
    have:=(xm _ bq).1
    right
    rw[e]
    show cb<b.1.1+jv ds b.1.2
    omega
  rw[sp n az]at ao
  by_cases z:gW ds kvs gs cb go sss n=true
  .rw[aI z]at ao aq
   rcases el.mp ao with ao|ao
   .cases e8.mp ao
    exact⟨k,ay,λdX a b c=>(gap n az dX a b c).elim⟩
   .have l2:n∈j2 gs go (d8 hs ds kvs gs cb go sss):=by
     have:∃y,y∈dD hs ds nL n:=by
      cases e:dD hs ds nL n with
      |nil=>rw[e]at ao;exact bB ao eB
      |cons y r=>exact⟨y,.head _⟩
     obtain⟨y,aT⟩:=this
     unfold dD at aT
     obtain⟨b,U,_⟩:=bV.mp aT
     obtain⟨i2,hY⟩:=d1.mp U
     exact(LW b i2).2.2 n (jM hY)
    obtain⟨k2,fD,f2⟩:=ba l2 h s l ao
    refine⟨k2,fD,λdX a b c=>lift (f2 dX a b ?_)⟩
    have kq:d7 (d8 hs ds kvs gs cb go sss) n=cb+jv ds k:=by
     unfold d7
     rw[aq]
     show cb+jv ds (d_ kvs gs sss n)=_
     rw[dK]
    have:=(xm k cv).1
    rcases V7 _ ao with⟨_,e⟩|e
    .have e:s=_:=e
     omega
    .have e:cb<s:=e
     omega
  .rw[aD z]at ao aq
   have ao:(h,s,l)∈gz (c7 (d8 hs ds kvs gs cb go sss) n) (dD hs ds nL n):=ao
   have l2:n∈j2 gs go (d8 hs ds kvs gs cb go sss):=d1.mpr ⟨az,dp (by rw[aq];exact ne)⟩
   obtain⟨k2,fD,f2⟩:=ba l2 h s l ao
   refine⟨k2,fD,λdX a b c=>?_⟩
   by_cases y:cb<dX
   .exact lift (f2 dX a b y)
   .have kq:d7 (d8 hs ds kvs gs cb go sss) n=d7 sss n:=by unfold d7;rw[aq]
    rcases V7 _ ao with⟨lR,e⟩|e
    .have es:s=d7 sss n:=by rw[←kq];exact e
     have Tt:h=(c7 sss n).dv:=by rw[←aq];exact lR
     clear e lR
     by_cases uF:dX<cb
     .exact(gap n az dX (by omega) uF c).elim
     .have ahK:dX=cb:=by omega
      subst ahK
      rw[Tt,ay]at fD
      cases fD
      obtain⟨t1,dx⟩:=Z9 (ds:=ds) (due:=d7 sss) (rd:=d_ kvs gs sss) (T:=dX) O.aE (λj aN=>(xm _ (bN j aN)).2) az (by omega) z
      refine⟨hW ds (d7 sss) (d_ kvs gs sss) dX go k,el.mpr (.inl ?_),rfl,by rw[←dK];exact t1,λj aN=>?_⟩
      .unfold hX m'
       refine bV.mpr ⟨k,d1.mpr ⟨iR.mpr cv,?_⟩,rfl⟩
       have:(d7 sss n,n)∈dN (d7 sss) (d_ kvs gs sss) dX go k:=by
        unfold dN
        refine bV.mpr ⟨n,d1.mpr ⟨az,?_⟩,rfl⟩
        rw[dp (show d7 sss n≤dX by omega),dp dK]
        rfl
       cases eq:dN (d7 sss) (d_ kvs gs sss) dX go k with
       |nil=>rw[eq]at this;exact bB this eB
       |cons _ _=>rfl
      .obtain⟨fI,fJ,i5⟩:=tT aN
       refine⟨d7 sss j,?_,?_⟩
       .rw[sp j fI,aI (show gW ds kvs gs dX go sss j=true from dp (by rw[i5];exact aN))]
        obtain⟨ajr,_,_,_,Yn,_⟩:=(O.way j fI).way (O.on j fI)
        have eP:d_ kvs gs sss j=ajr:=by unfold d_;rw[Yn];rfl
        have d6:=sC _ _ _ Yn
        have dC:=sC _ _ _ ay
        rw[eP]at i5
        rw[i5,dC]at d6
        rw[Tt,d6]
        exact .head _
       .rw[es]
        exact dx j (by rw[dK];exact aN)
    .have e:cb<s:=e
     omega
end
open PySem ai cA a'
section
variable{P:bT}{w:bJ}{K:a3}{aa:Str→Option Value}{base:Heap}
noncomputable abbrev Bf:Stmt:=iH (top 33) 5
theorem aeY:dT ["self"] ["self"] (dh Bf):=⟨rfl,rfl,rfl,by decide+kernel,rfl,by decide+kernel,by decide+kernel⟩
end
open PySem ai cA a'
inductive acE(C:Addr)(vs:(List ai.V))(H:ae)(Q:bk)(bF:cy):Prop where
 |mk (x au n t:Addr) (rs:List Row) (b4:vs=[.ref x]) (bL:H x=some (.ins C au (l4 n t))) (cG:H t=some (.cE (dU rs))) (c2:(rs.map oF).Nodup) (dR:rs.length≤900) (eW:∀(l:Addr)(H':ae)(ts:List Addr),H l=none→aP H H'→H' l=some (.lst (e3 .bR (h3 (rs.map oF)) (aL ts)))→dn H' ts (rs.map mc)→Q (.ref l) H')
noncomputable def Hw(C:Addr):cW:=λvs H Q bF=>acE C vs H Q bF
section
variable{P:bT}{w:bJ}{K:a3}{aa:Str→Option Value}{base:Heap}
theorem acF{C f:Addr}{fd:cP}(F:b0 K "pairs" "Ways.pairs" Bf f fd)(B:g4 aa)(cx:oh K C):aY P w K aa base bu 1 f fd ["self"] (Hw C):=by
 refine F.ok aeY (λvs H Q E h=>?_) (λbC A outer s H vs Q E aw h=>?_)
 .obtain⟨x,au,n,t,rs,rfl,_⟩:=h
  rfl
 .obtain⟨x,au,n,t,rs,rfl,ao,cw,aE,cM,q⟩:=h
  refine⟨_,(bW (dH (gd alQ (by rfl) B.sorted E1 (aB (adV (qE (N':=["pair","road"]) (cs:=[none,none]) rfl (û (ha (ah 0) (by rfl))) rfl (by decide+kernel) rfl (by decide+kernel) (jj (λp aQ=>bB aQ (eB))) rfl
    (.own (.own .nil))
    (λC s3 bD cu ey=>⟨(wJ (K:=K) (n:=2) rfl rfl (fZ (de (i:=0) (by show(["pair","road"]:List Str).Nodup;decide+kernel) rfl (.inl rfl)) (fZ (de (i:=1) (by show(["pair","road"]:List Str).Nodup;decide+kernel) rfl (.inl rfl)) lP))),nZ,(hu (aB (b9 (n1 (K:=K) rfl) (ah 0) bl (λ_ _=>rfl)) (aB (b9 (n1 (K:=K) rfl) (ah 0) bl (λ_ _=>rfl)) (aB (ah 1) a8))))⟩))) a8)))),?_⟩
  have gY:(dU rs).length=rs.length:=by unfold dU;rw[bc]
  have rW:x≠t:=λz=>by rw[z,cw]at ao;cases ao
  dsimp only[x6,uw,xo]
  refine⟨t,dU rs,cw,λo=>?_⟩
  have ei:upd H t (.d9 o (.cE (dU rs))) x=some (.ins C au (l4 n t)):=by rw[aG rW];exact ao
  refine Ψ (H1:=upd H t (.d9 o (.cE (dU rs)))) (a:=t) (o:=o) (kvs:=dU rs) (rest:=[]) (λR h=>⟨_,rfl,x,C,au,_,_,rfl,ei,cx.cl,cx.eG,rfl,t,o,_,rfl,a4,h⟩) rfl a4 (fh (by omega)) (λi=>mc (rs.getD i r0)) (λi k nA b ak R d3 aC U n3=>?_) (λD H1 ts qC cq di W_=>?_)
  .unfold dU at d3
   rw[b8]at d3
   obtain⟨r,dK,ay⟩:=eh.mp d3
   cases ay
   rw[k_ dK]at n3
   exact⟨_,rfl,b,_,_,_,rfl,rfl,b2.of U,rfl,_,rfl,b,_,_,_,rfl,rfl,b2.of U,rfl,_,rfl,(by show 3≤sizeLine;decide),λz MY=>n3 z _ (cH MY) a4⟩
  .have alI:(c_ (dU rs).length).map (λi=>mc (rs.getD i r0))=rs.map mc:=by
    rw[gY]
    exact range_getD mc r0 rs
   rw[alI]at di
   have ah3:D≠t:=λz=>by rw[z,a4]at qC;cases qC
   have VQ:=W_ _ _ (a4 (H:=H) (a:=t) (o:=.d9 o (.cE (dU rs))))
   have sB:aP H (upd H1 t (.cE (dU rs))):=λb v e=>by
    by_cases U:b=t
    .rw[U]at e⊢
     rw[a4,←e,cw]
    .rw[aG U]
     exact W_ _ _ (by rw[aG U];exact e)
   have BA:dn (upd H1 t (.cE (dU rs))) ts (rs.map mc):=di.upd VQ (by intro d z;cases z)
   have cS:=di.len
   rw[bc]at cS
   refine⟨VQ,D,ts,rs.map oF,false,[false,true],rfl,aR.of (by rw[aG ah3];exact cq),Ω BA,by rw[cS];have:=Qs (row_shape rs) aE;rw[bc]at this;exact this,row_shape rs,λl nl=>?_⟩
   have bS:=cH (o:=.lst (e3 V.bR (h3 (rs.map oF)) (ts.map V.ref))) nl
   refine q l _ ts ?_ (sB.trans bS) a4 (BA.same bS)
   cases e:H l with
   |none=>rfl
   |some u=>rw[sB _ _ e]at nl;cases nl
end
open PySem ai cA a'
theorem aez{hs:List (List Nat)}{ds:List a'.bz}(R:∀d∈ds,d.Ok hs.length):∀e∈iX hs ds,1≤e.t:=λe he=>by
 obtain⟨d,hd,rfl⟩:=bV.mp he
 exact(R d hd).t.1
theorem aba{hs:List (List Nat)}{ds:List a'.bz}(R:∀d∈ds,d.Ok hs.length){h g:Str}{v:Int}(bG:h1 hs ds h g=some v)(az:h≠g):
  ∃(k:Nat)(d:a'.bz)(u:Int),best hs ds h g=(k:Int)∧ds[k]?=some d∧S (hs.getD d.a [])=h∧h1 hs ds (S (hs.getD d.b [])) g=some u∧(d.t:Int)+u=v:=by
 obtain⟨m,f⟩:=YO (aez R) bG az
 obtain⟨i,aj⟩:=pZ (bV.mpr ⟨_,m,rfl⟩:V.int (best hs ds h g)∈(h6 hs ds (·.a) h).map V.int)
 obtain⟨k,d,av,ay,cv⟩:=YR aj
 have Th:best hs ds h g=(k:Int):=V.int.inj av
 rw[Th]at f
 unfold so vB F2 at f
 rw[mq,qw ay]at f
 cases cf:h1 hs ds (S (hs.getD d.b [])) g with
 |none=>rw[cf]at f;cases f
 |some u=>
  rw[cf,bG]at f
  have:=jM f
  exact⟨k,d,u,Th,ay,cv,cf,gT this⟩
theorem OO{κ:Type}[DecidableEq κ]{kvs:List (κ×ai.V)}{k:κ}{v:ai.V}(h:cz kvs k=some v):k∈kvs.map (·.1):=by
 obtain⟨j,x,e⟩:=Nm (show(cz kvs k).isSome=true by rw[h];rfl)
 exact bV.mpr ⟨_,eI e,rfl⟩
theorem AG.get{hs:List (List Nat)}{ds:List a'.bz}{kvs:c9}(T:AG hs ds kvs){k:List bj}{v:ai.V}(e:cz kvs k=some v):∃h g,k=dM h g∧h∈hs.map S∧g∈hs.map S∧h≠g∧(h1 hs ds h g).isSome=true∧v=.int (best hs ds h g):=by
 obtain⟨h,g,rfl,Mu,aa⟩:=T.jD.key k (OO e)
 by_cases m:h∈hs.map S∧h≠g∧(h1 hs ds h g).isSome=true
 .have:=T.jD.yes h g m
  rw[e]at this
  exact⟨h,g,rfl,Mu,aa,m.2.1,m.2.2,gT this⟩
 .rw[T.jD.no h g m]at e
  cases e
noncomputable def M8(hs:List (List Nat))(ds:List a'.bz)(g h:Str):Bool:=decide (h≠g)&&(h1 hs ds h g).isSome
noncomputable def aeZ(hs:List (List Nat))(ds:List a'.bz)(g:Str)(L:List Str):List Row:=(L.filter (M8 hs ds g)).map λh=>(h,g,best hs ds h g)
noncomputable def Ij(hs:List (List Nat))(ds:List a'.bz)(L:List Str):List Row:=L.flatMap λg=>aeZ hs ds g (hs.map S)
theorem FG{hs:List (List Nat)}{ds:List a'.bz}{L:List Str}{r:Row}(h:r∈Ij hs ds L):r.1∈hs.map S∧r.2.1∈L∧r.1≠r.2.1∧(h1 hs ds r.1 r.2.1).isSome=true∧r.2.2=best hs ds r.1 r.2.1:=by
 obtain⟨g,bf,aw⟩:=HJ.mp h
 obtain⟨k,aK,rfl⟩:=bV.mp aw
 obtain⟨ag,af⟩:=d1.mp aK
 unfold M8 at af
 simp only[kK,decide_eq_true_eq]at af
 exact⟨ag,bf,af.1,af.2,rfl⟩
theorem abb{hs:List (List Nat)}{ds:List a'.bz}{L:List Str}{h g:Str}(ef:h∈hs.map S)(bf:g∈L)(ne:h≠g)(is:(h1 hs ds h g).isSome=true):(h,g,best hs ds h g)∈Ij hs ds L:=by
 refine HJ.mpr ⟨g,bf,bV.mpr ⟨h,d1.mpr ⟨ef,?_⟩,rfl⟩⟩
 unfold M8
 rw[dp ne,is]
 rfl
theorem Pn{κ:Type}[DecidableEq κ]{k:κ}{v:ai.V}:∀{l:List (κ×ai.V)}{j:Nat},(l.map (·.1)).Nodup→l[j]?=some (k,v)→cz l k=some v
 |[],j,_,h=>by simp at h
 |p::r,0,aE,h=>by
  simp only[RA,R2]at h
  subst h
  exact kW rfl
 |p::r,j+1,aE,h=>by
  rw[fX,jU]at aE
  have h':r[j]?=some (k,v):=by simpa using h
  rw[kh (λz=>aE.1 (by rw[z];exact bV.mpr ⟨_,eI h',rfl⟩))]
  exact Pn aE.2 h'
theorem Ě(ds:List PyData):je (.list ds) (.list [])=ds.isEmpty:=by cases ds<;>rfl
theorem AG.rows{hs:List (List Nat)}{ds:List a'.bz}{kvs:c9}(T:AG hs ds kvs):∃rs:List Row,kvs=dU rs∧rs.Nodup∧∀r,r∈rs↔r∈Ij hs ds (hs.map S):=by
 have val:∀p∈kvs,cz kvs p.1=some p.2:=λp aQ=>by
  obtain⟨j,aN⟩:=pZ aQ
  exact Pn T.jD.aE (show kvs[j]?=some (p.1,p.2)from aN)
 obtain⟨rs,e⟩:=Qu (kvs:=kvs) λp aQ=>by
  obtain⟨h,g,av,_,_,_,_,ay⟩:=T.get (val p aQ)
  exact⟨(h,g,best hs ds h g),vp av ay⟩
 subst e
 refine⟨rs,rfl,?_,λr=>⟨λaw=>?_,λaw=>?_⟩⟩
 .have aE:=T.jD.aE
  unfold dU at aE
  rw[gk]at aE
  exact(lF.mp aE).imp λh z=>h (by rw[z])
 .have aQ:(([.inr r.1,.inr r.2.1],.int r.2.2):List bj×ai.V)∈dU rs:=bV.mpr ⟨r,aw,rfl⟩
  obtain⟨h,g,av,dY,eQ,ne,is,ay⟩:=T.get (val _ aQ)
  obtain⟨cv,er⟩:=w8 (h:=r.1) (g:=r.2.1) av
  have gM:r=(h,g,best hs ds h g):=vp cv (vp er (V.int.inj ay))
  rw[gM]
  exact abb dY eQ ne is
 .obtain⟨dY,eQ,ne,is,e⟩:=FG aw
  have bG:=T.jD.yes r.1 r.2.1 ⟨dY,ne,is⟩
  obtain⟨j,y,eP⟩:=Nm (show(cz (dU rs) (dM r.1 r.2.1)).isSome=true by rw[bG];rfl)
  have dV:=val _ (eI eP)
  rw[bG]at dV
  obtain⟨cm,lZ,b5⟩:=bV.mp (eI eP)
  obtain⟨cv,er⟩:=w8 (h:=cm.1) (g:=cm.2.1) (eK Prod.fst b5)
  have jZ:V.int cm.2.2=y:=eK Prod.snd b5
  have y7:cm.2.2=best hs ds r.1 r.2.1:=by
   have:=gT dV
   rw[←jZ]at this
   exact(V.int.inj this).symm
  have gM:r=cm:=vp cv.symm (vp er.symm (by rw[e,y7]))
  rw[gM]
  exact lZ
structure Se(hs:List (List Nat))(ds:List a'.bz)(r:Row):Prop where
 h:r.1∈hs.map S
 g:r.2.1∈hs.map S
 k:∃n:Nat,r.2.2=(n:Int)∧n<ds.length∧sz hs ds n=r.1
structure oJ(hs:List (List Nat))(ds:List a'.bz)(kvs:c9):Prop where
 rows:∃rs:List Row,kvs=dU rs∧(rs.map λr=>(r.1,r.2.1)).Nodup∧∀r∈rs,Se hs ds r
theorem ě(h g:Str)(k:Int)(rs:List Row)(aE:(rs.map λr=>(r.1,r.2.1)).Nodup):∃qK:List Row,ec (dU rs) (dM h g) (.int k)=dU qK∧(qK.map λr=>(r.1,r.2.1)).Nodup∧∀r∈qK,r∈rs∨r=(h,g,k):=by
 have Ma:∀r:Row,(dM r.1 r.2.1=dM h g)↔(r.1,r.2.1)=(h,g):=λr=>by
  constructor
  .intro e
   obtain⟨av,ay⟩:=w8 e
   rw[av,ay]
  .intro e
   obtain⟨av,ay⟩:=yD e
   rw[av,ay]
 unfold ec
 split
 .refine⟨rs.map λr=>if(r.1,r.2.1)=(h,g)then(h,g,k)else r,?_,?_,λr aw=>?_⟩
  .unfold dU
   rw[gk,gk]
   refine sS λr _=>?_
   show(if dM r.1 r.2.1=dM h g then(dM r.1 r.2.1,V.int k)else(dM r.1 r.2.1,V.int r.2.2))=_
   by_cases e:(r.1,r.2.1)=(h,g)
   .rw[aI ((Ma r).mpr e)]
    show _=(dM (if(r.1,r.2.1)=(h,g)then(h,g,k)else r).1 (if(r.1,r.2.1)=(h,g)then(h,g,k)else r).2.1,V.int (if(r.1,r.2.1)=(h,g)then(h,g,k)else r).2.2)
    rw[aI e]
    obtain⟨av,ay⟩:=yD e
    rw[av,ay]
   .rw[aD λz=>e ((Ma r).mp z)]
    show _=(dM (if(r.1,r.2.1)=(h,g)then(h,g,k)else r).1 (if(r.1,r.2.1)=(h,g)then(h,g,k)else r).2.1,V.int (if(r.1,r.2.1)=(h,g)then(h,g,k)else r).2.2)
    rw[aD e]
  .rw[gk]
   have:((λr:Row=>(r.1,r.2.1))∘λr=>if(r.1,r.2.1)=(h,g)then(h,g,k)else r)=λr:Row=>(r.1,r.2.1):=by
    funext r
    show((if(r.1,r.2.1)=(h,g)then(h,g,k)else r).1,(if(r.1,r.2.1)=(h,g)then(h,g,k)else r).2.1)=(r.1,r.2.1)
    by_cases e:(r.1,r.2.1)=(h,g)
    .rw[aI e]
     exact e.symm
    .rw[aD e]
   rw[this]
   exact aE
  .obtain⟨cm,lZ,rfl⟩:=bV.mp aw
   by_cases e:(cm.1,cm.2.1)=(h,g)
   .rw[aI e]
    exact .inr rfl
   .rw[aD e]
    exact .inl lZ
 .rename_i no
  refine⟨rs++[(h,g,k)],by unfold dU;rw[ek];rfl,?_,λr aw=>?_⟩
  .rw[ek]
   refine oW.mpr ⟨aE,by simp,λp aQ q bg=>?_⟩
   rw[List.map_singleton,e8]at bg
   rintro rfl
   obtain⟨r,aw,dK⟩:=bV.mp aQ
   refine no (oV.mpr ⟨([.inr r.1,.inr r.2.1],V.int r.2.2),bV.mpr ⟨r,aw,rfl⟩,dp ((Ma r).mpr ?_)⟩)
   exact dK.trans bg
  .rcases el.mp aw with y|y
   .exact .inl y
   .exact .inr (e8.mp y)
theorem oJ.put{hs:List (List Nat)}{ds:List a'.bz}{kvs:c9}(T:oJ hs ds kvs){h g:Str}{n:Nat}(Mu:h∈hs.map S)(aa:g∈hs.map S)(az:n<ds.length)(U:sz hs ds n=h):oJ hs ds (ec kvs (dM h g) (.int (n:Int))):=by
 obtain⟨rs,rfl,aE,ok⟩:=T.rows
 obtain⟨qK,e,MN,m⟩:=ě h g (n:Int) rs aE
 refine⟨⟨qK,e,MN,λr aw=>?_⟩⟩
 rcases m r aw with y|rfl
 .exact ok r y
 .exact⟨Mu,aa,n,rfl,az,U⟩
theorem Z'{hs:List (List Nat)}{i j:Nat}(aj:i<hs.length)(aN:j<hs.length)(ne:S (hs.getD i [])≠S (hs.getD j [])):kk (cq hs) (.str (S (hs.getD i []))) (.str (S (hs.getD j [])))=true:=by
 show(inD _ _&&inD _ _&&!je _ _)=true
 rw[OT aj,OT aN,Qn,eF ne]
 rfl
theorem Sf{H:ae}{hs:List (List Nat)}(G:Good hs){c:Str}(h:c∈hs.map S):gc H (.str c) (.str c):=by
 obtain⟨x,ao,rfl⟩:=bV.mp h
 have n:=G.nm x ao
 exact .str _ (by rw[B1];have:=n.2.1;omega) (Oj n)
theorem Y6{H:ae}:∀{L:List Int},hG H (L.map V.int) (L.map sY)
 |[]=>.nil
 |k::r=>.cons (.int _) Y6
structure vd(C:Addr)(hs:List (List Nat))(ds:List a'.bz)(eO:ae)(dZ gv x t:Addr)(a7:ae)(kvs:c9):Prop where
 aC:aP eO a7
 ins:a7 dZ=some (.ins C gv (l4 x t))
 di:a7 t=some (.cE kvs)
 tab:oJ hs ds kvs
theorem vd.same{C:Addr}{hs:List (List Nat)}{ds:List a'.bz}{eO:ae}{dZ gv x t:Addr}{a7 dk:ae}{kvs:c9}(J:vd C hs ds eO dZ gv x t a7 kvs)(s:aP a7 dk):vd C hs ds eO dZ gv x t dk kvs:=⟨J.aC.trans s,s _ _ J.ins,s _ _ J.di,J.tab⟩
theorem Y7{hs:List (List Nat)}{i:Nat}{z:ai.V}(e:(dr hs)[i]?=some z):i<hs.length∧∃h:Str,h=S (hs.getD i [])∧z=.str h:=by
 unfold dr at e
 rw[b8]at e
 obtain⟨y,dV,rfl⟩:=eh.mp e
 obtain⟨aj,_⟩:=fW.mp dV
 exact⟨aj,_,rfl,by rw[qw dV]⟩
inductive aeA(K:a3)(C bA:Addr)(vs:(List ai.V))(H:ae)(Q:bk)(bF:cy):Prop where
 |mk (x eS h9 a bx aZ:Addr) (hs:List (List Nat)) (rs:List Addr) (ds:List a'.bz) (ns:List Int) (b4:vs=[.ref x,.ref eS,.ref h9,.ref a]) (bL:ku bA H x bx aZ (dr hs) (aL rs)) (cG:H eS=some (.lst (dr hs))) (c2:H h9=some (.lst (aL rs))) (dR:aR K H a (ns.map V.int)) (eW:Good hs) (h8:hp H hs rs ds) (jz:rs.length≤40) (oP:∀(y t:Addr)(H':ae)(kvs:c9),H y=none→H t=none→aP H H'→kn C bA H' y x t bx aZ (dr hs) (aL rs) kvs→oJ hs ds kvs→Q (.ref y) H')
noncomputable def H_(K:a3)(C bA:Addr):cW:=λvs H Q bF=>aeA K C bA vs H Q bF
section
variable{P:bT}{w:bJ}{K:a3}{aa:Str→Option Value}{base:Heap}
noncomputable abbrev Bk:Stmt:=top 41
noncomputable abbrev ajU:List Str:=["_law_net","_law_names","_law_lines","_law_script","_law_table_here","_law_k","_law_house","_law_outs","_law_j","_law_goal","_law_cell"]
theorem sr:dT ajU ["_law_net","_law_names","_law_lines","_law_script"] (dh Bk):=⟨rfl,rfl,rfl,by decide+kernel,rfl,by decide+kernel,by decide+kernel⟩
theorem aeB{C bA e9 mx f gN fs tu Um:Addr}{fd zC rr zE T9:cP}(F:b0 K "_law_table" "_law_table" Bk f fd)(B:g4 aa)(cx:oh K C)(wN:aa "Ways"=some (.ref C))(g9:dS K aa "_law_cell_at" xe ["_law_script","_law_k"] gN zC)(rl:aY P w K aa base bu 1 gN zC ["_law_script","_law_k"] (CP K))(Ap:dS K aa "shortest" Bi ["net"] fs rr)(ZV:aY P w K aa base bu 4 fs rr ["net"] (Io C bA))(tV:oY K C tu)(vN:sL K C "Ways.__init__" xh ["self","net"] tu zE)(vX:aY P w K aa base bu 1 tu zE ["self","net"] (CQ C))(rk:eD K C "set_way" "Ways.set_way" xg ["self","house","goal","road"] Um T9)(vG:aY P w K aa base (gC P w) 3 Um T9 ["self","house","goal","road"] (CS C bA e9 mx)):
  aY P w K aa base bu 5 f fd ["_law_net","_law_names","_law_lines","_law_script"] (H_ K C bA):=by
 have jY:=cx.cl
 refine F.ok sr (λvs H Q E h=>?_) (λbC A outer s eO vs Q E aw h=>?_)
 .obtain⟨x,eS,h9,a,bx,aZ,hs,rs,ds,ns,rfl,_⟩:=h
  rfl
 .obtain⟨x,eS,h9,a,bx,aZ,hs,rs,ds,ns,rfl,i7,rA,rC,zS,G,ql,cM,q⟩:=h
  have cL:=ql
  have v5:=G.cM
  refine⟨_,(bO (f5 (gf l3 (cK ht (cK lQ (fT rl (aw.mono (by decide)) (by rfl) g9.at_ g9.fn.cN g9.bd .nil dI (aB (ah 3) (aB bl a8))) bl) bl) bl (fu _)) (bW (dH (fT ZV (aw.mono (by decide)) (by rfl) Ap.at_ Ap.fn.cN Ap.bd .nil dI (aB (ah 0) a8)))) f3)
   (bO (dB (i:=4) sr.aE rfl (cC rfl) (FK tV vX (aw.mono (by decide)) (by rfl) wN vN.bd .nil dI (aB (ah 0) a8)))
   (bO (hV hF rfl (AV rfl B.enumerate (aB (ah 1) a8)) (t4 rfl (fZ (de (i:=5) sr.aE rfl (cC rfl)) (fZ (de (i:=6) sr.aE rfl (kb rfl)) lP)))
    (bO (qg (i:=7) sr.aE rfl rfl rfl (N':=["_law_n","_law_house","_law_lines"]) (cs:=[none,some 6,some 2]) rfl (EO rfl B.range (aB (gd mE (by rfl) B.len lV (aB (ah 2) a8)) a8)) rfl (by decide+kernel) rfl (by decide+kernel) (jj (jT.mpr ⟨rfl,(jT.mpr ⟨rfl,(λp aQ=>bB aQ (eB))⟩)⟩)) rfl
    (.own (.iW rfl (.inl rfl) (.inl rfl) rfl (.iW rfl (.inl rfl) (.inl rfl) rfl .nil)))
    (λC s3 bD cu ey=>⟨(de (i:=0) (by show(["_law_n","_law_house","_law_lines"]:List Str).Nodup;decide+kernel) rfl (.inl rfl)),(tQ (gf l3 (b9 (n1 (K:=K) rfl) (b9 (E' (K:=K) rfl) (ah 2) (ah 0) (λ_ _=>rfl)) bl (λ_ _=>rfl)) (ah 1) (fu _))),(ah 0)⟩))
   (bW (hV hF rfl (AV rfl B.enumerate (aB (ah 1) a8)) (t4 rfl (fZ (de (i:=8) sr.aE rfl (cC rfl)) (fZ (de (i:=9) sr.aE rfl (cC rfl)) lP)))
    (bO (dB (i:=10) sr.aE rfl (cC rfl) (cK ht (cK qA (cK ie (fT rl (aw.mono (by decide)) (by rfl) g9.at_ g9.fn.cN g9.bd .nil dI (aB (ah 3) (aB (cK ie bl (ah 5)) a8))) (cK qA (cK qA bl (ah 8)) (ah 8))) bl) bl))
   (bW (f5 (kU.pt (Pu (gf rY (ah 6) (ah 9) (fu _)) (Pu (gf (QI aw.units) (ah 7) (k7 a8) (fu _)) (Qc (gf Ha (cK ht (ah 10) bl) bl (fu _)))))) (bW (iB (hU (ah 4) jY rk.gI vG (aw.mono (by decide)) rk.bd .nil Co (aB (ah 6) (aB (ah 9) (aB (b9 gp (ah 7) (cK ht (cK ie (cK lQ (ah 10) bl) (ah 8)) (gd mE (by rfl) B.len lV (aB (ah 7) a8))) (λ_ _=>rfl)) a8)))))) f3)))))))
   (bW (dH (ah 4)))))),?_⟩
  refine⟨_,rfl,a,ns,1,rfl,zS,by decide,_,_,rfl,rfl,⟨by decide,by decide⟩,_,_,rfl,rfl,(by show(0:Int)<2;decide),rfl,_,rfl,?_⟩
  refine H9 (λ_=>?_) (λ_=>?_)
  .refine⟨_,rfl,x,bx,aZ,hs,rs,ds,rfl,i7,G,ql,cM,λy t H' kvs MX eG s' amq ST=>q y t H' kvs MX eG s' amq ?_⟩
   obtain⟨rows,e,aE,mem⟩:=ST.rows
   refine⟨rows,e,?_,λr aw=>?_⟩
   .refine lF.mpr (Rq (λ{b6 c8}dY eQ ne z=>ne ?_) aE)
    obtain⟨_,_,_,_,av⟩:=FG ((mem b6).mp dY)
    obtain⟨_,_,_,_,ay⟩:=FG ((mem c8).mp eQ)
    obtain⟨a1,a2,ft⟩:=b6
    obtain⟨e1,c6,hr⟩:=c8
    obtain⟨b4,bL⟩:=yD z
    have b4:a1=e1:=b4
    have bL:a2=c6:=bL
    have av:ft=best hs ds a1 a2:=av
    have ay:hr=best hs ds e1 c6:=ay
    rw[av,ay,b4,bL]
   .obtain⟨dY,eQ,ne,is,av⟩:=FG ((mem r).mp aw)
    obtain⟨u,cf⟩:=yB.mp is
    obtain⟨i,d,_,d6,dC,kf,_⟩:=aba ql.ok cf ne
    refine⟨dY,eQ,i,av.trans d6,(fW.mp dC).1,?_⟩
    unfold sz
    rw[k_ dC]
    exact kf
  refine⟨_,rfl,λdZ gv ub ajY aop=>⟨dZ,gv,.ref x,rfl,a4,λt eG=>⟨rfl,?_⟩⟩⟩
  have rW:t≠dZ:=λz=>by rw[z,a4]at eG;cases eG
  rw[aG rW]at eG
  have AN:t≠gv:=λz=>by rw[z,a4]at eG;cases eG
  rw[aG AN]at eG
  have pP:aP eO (upd (upd (upd (upd eO gv (.own dZ)) dZ (.ins C gv [])) t (.cE [])) dZ (.ins C gv [("net",.ref x),("told",.ref t)])):=λb o e=>by
   rw[aG (dg e ub),aG (dg e eG),aG (dg e ub),aG (dg e ajY)]
   exact e
  have Ab:upd (upd (upd (upd eO gv (.own dZ)) dZ (.ins C gv [])) t (.cE [])) dZ (.ins C gv [("net",.ref x),("told",.ref t)]) dZ=some (.ins C gv (l4 x t)):=a4
  have VL:upd (upd (upd (upd eO gv (.own dZ)) dZ (.ins C gv [])) t (.cE [])) dZ (.ins C gv [("net",.ref x),("told",.ref t)]) t=some (.cE []):=by rw[aG rW];exact a4
  have Hm:vd C hs ds eO dZ gv x t (upd (upd (upd (upd eO gv (.own dZ)) dZ (.ins C gv [])) t (.cE [])) dZ (.ins C gv [("net",.ref x),("told",.ref t)])) []:=⟨pP,Ab,VL,⟨[],rfl,mu,λr aw=>nomatch aw⟩⟩
  generalize upd (upd (upd (upd eO gv (.own dZ)) dZ (.ins C gv [])) t (.cE [])) dZ (.ins C gv [("net",.ref x),("told",.ref t)])=h_ at pP Ab VL Hm⊢
  refine⟨_,rfl,eS,rfl,⟨_,aR.of (Hm.aC _ _ rA)⟩,?_⟩
  refine Om (K:=K) (a:=eS) (xs:=dr hs) (λi σ a7=>∃(kvs:c9)(xp v6 nv oK mh v10:Option ai.V),σ=[some (.ref x),some (.ref eS),some (.ref h9),some (.ref a),some (.ref dZ),xp,v6,nv,oK,mh,v10]∧vd C hs ds eO dZ gv x t a7 kvs∧kvs.length≤12*i)
   ⟨[],none,none,none,none,none,none,rfl,Hm,b1 _⟩ (λi σ a7⟨kvs,_,_,_,_,_,_,_,J,_⟩=>aR.of (J.aC _ _ rA)) ?_ ?_
  .rintro i z σ a7 pt cV ⟨kvs,xp,v6,nv,oK,mh,v10,rfl,J,lk⟩ MU
   obtain⟨aj,h',ahB,rfl⟩:=Y7 cV
   have xj:=cH (o:=.tup [V.int (i:Int),V.str h']) MU
   refine⟨pt,_,rfl,b2.of a4,rfl,?_⟩
   have J:=J.same xj
   generalize upd a7 pt (.tup [V.int (i:Int),V.str h'])=dk at xj J⊢
   refine⟨_,_,rfl,_,_,rfl,rfl,?_⟩
   dsimp only[qQ,sk]
   have aiM:=fS rs
   have v':=cL.len
   have ah8:=ql.same J.aC
   have UL:=J.aC _ _ rC
   have item:∀(i:Nat)(v:ai.V),((c_ (aL rs).length).map λi:Nat=>V.int ((0:Int)+(i:Int)))[i]?=some v→∃r d,v=.int ((0:Int)+(i:Int))∧rs[i]?=some r∧ds[i]?=some d∧dk r=some (.tup (ow hs d)):=λi v ev=>by
    rw[b8]at ev
    obtain⟨j,eP,rfl⟩:=eh.mp ev
    obtain⟨aj,e⟩:=fW.mp eP
    rw[hi]at aj
    rw[yr]at e
    subst e
    have dK:rs[i]?=some rs[i]:=cg (by omega)
    obtain⟨d,c',_,hd⟩:=ah8.get dK
    exact⟨_,d,rfl,dK,c',hd⟩
   refine QY (J:=pY 0 (aL rs).length) (H1:=dk) (xs:=(c_ (aL rs).length).map λi:Nat=>V.int ((0:Int)+(i:Int))) (rest:=[some (.str h'),some (.ref h9)]) (λR h=>⟨_,rfl,h9,_,rfl,.inl (aR.of UL),_,rfl,(by show -(2 ^ 62)≤((aL rs).length:Int);omega),(by show((aL rs).length:Int)<2 ^ 62;omega),h⟩) rfl (Ï 0 _) (fh (by rw[bc,hi];omega))
    (λv=>match v with|.int k=>decide (V.str (S (hs.getD (ds.getD k.toNat hI).a []))=V.str h')|_=>false) (λv=>v) (λi v ak R ev aC n3=>?_) (λi v ak R ev _ aC n3=>⟨_,rfl,n3 ak (aP.refl _)⟩) (λrX à rT iE ak6=>?_)
   .obtain⟨r,d,rfl,dK,c',hd⟩:=item i v ev
    have cF:ds.getD ((0:Int)+(i:Int)).toNat hI=d:=by
     rw[show((0:Int)+(i:Int)).toNat=i by omega]
     exact qw c'
    have zN:∀bU,aP ak bU→R (decide (V.str (S (hs.getD (ds.getD ((0:Int)+(i:Int)).toNat hI).a []))=V.str h')) bU:=n3
    rw[cF]at zN
    exact⟨_,rfl,_,rfl,h9,_,_,_,rfl,rfl,aR.of (aC _ _ UL),aag dK,r,_,_,_,rfl,rfl,b2.of (aC _ _ hd),rfl,_,rfl,rfl,_,rfl,zN ak (aP.refl _)⟩
   have Ux:à rX=some (.lst ((h6 hs ds (·.a) h').map V.int)):=by
    rw[iE]
    congr 2
    have:=ZF (aL rs).length λi=>decide (V.str (S (hs.getD (ds.getD i hI).a []))=V.str h')
    rw[aiM,v']at this⊢
    exact this
   have cS:=Yj hs ds (·.a) h'
   have Xx:∀k∈h6 hs ds (·.a) h',∃n:Nat,k=(n:Int)∧n<ds.length:=λk aK=>by
    unfold h6 xd at aK
    obtain⟨n,az,rfl⟩:=bV.mp aK
    exact⟨n,rfl,iR.mp (d1.mp az).1⟩
   have Xw:∀{lC:ae},lC rX=some (.lst ((h6 hs ds (·.a) h').map V.int))→gc lC (.ref rX) (.list ((h6 hs ds (·.a) h').map sY)):=λ{lC}e=>.lst e (by rw[bc];omega) Y6
   generalize k4:h6 hs ds (·.a) h'=L at Ux cS Xx Xw
   have J:=J.same ak6
   refine⟨_,rfl,eS,rfl,⟨_,aR.of (J.aC _ _ rA)⟩,?_⟩
   refine Om (K:=K) (a:=eS) (xs:=dr hs) (λj σ kO=>∃(kvs:c9)(oK mh v10:Option ai.V),σ=[some (.ref x),some (.ref eS),some (.ref h9),some (.ref a),some (.ref dZ),some (.int (i:Int)),some (.str h'),some (.ref rX),oK,mh,v10]∧vd C hs ds eO dZ gv x t kO kvs∧kvs.length≤12*i+j∧kO rX=some (.lst (L.map V.int)))
    ⟨kvs,oK,mh,v10,rfl,J,lk,Ux⟩ (λi σ a7⟨kvs,_,_,_,_,J,_⟩=>aR.of (J.aC _ _ rA)) ?_ ?_
   .rintro j z σ kO pt cV ⟨kvs,oK,mh,v10,rfl,J,lk,iE⟩ MU
    obtain⟨aN,g',ahA,rfl⟩:=Y7 cV
    have xj:=cH (o:=.tup [V.int (j:Int),V.str g']) MU
    refine⟨pt,_,rfl,b2.of a4,rfl,?_⟩
    have J:=J.same xj
    have iE:=xj _ _ iE
    generalize upd kO pt (.tup [V.int (j:Int),V.str g'])=nF at xj J iE⊢
    have D5:=J.aC.seq zS
    refine⟨_,_,rfl,_,_,rfl,rfl,_,rfl,_,rfl,_,_,rfl,rfl,a,ns,2+(i:Int),rfl,D5,by omega,_,rfl,_,_,rfl,rfl,.inl ⟨by decide,by decide⟩,_,rfl,_,_,rfl,rfl,.inr ⟨by omega,by omega⟩,_,_,rfl,rfl,_,_,rfl,rfl,.inr ⟨by decide,by decide⟩,_,_,rfl,rfl,(by show(0:Int)<2147483647;decide),?_⟩
    show gr 10 (V.int ((ns.getD (2+(i:Int)).toNat 0+97*(j:Int)*(j:Int))*48271%2147483647)) _ _ _
    generalize(ns.getD (2+(i:Int)).toNat 0+97*(j:Int)*(j:Int))*48271%2147483647=yZ
    refine⟨_,rfl,_,rfl,rfl,_,rfl,?_⟩
    by_cases Eb:h'=g'
    .exact gh (by rw[Eb];simp) ⟨kvs,_,_,_,rfl,J,by omega,iE⟩
    refine f6 (by simp[Eb]) ?_
    have VP:=Xw iE
    refine⟨_,rfl,ea _,λl nl=>?_⟩
    have bS:=cH (o:=.lst []) nl
    have ak8:q8 (.list (L.map sY))=true:=EM VP.mJ (adT (n:=0) λd hd=>by obtain⟨k,_,rfl⟩:=bV.mp hd;exact b1 _) (by decide)
    refine⟨.list (L.map sY),.list [],(VP.same bS).kj,.lst (aR.of a4) .nil,ak8,rfl,_,rfl,?_⟩
    have J:=J.same bS
    have iE:=bS _ _ iE
    generalize upd nF l (.lst [])=QO at bS J iE⊢
    have Tn:je (.list (L.map sY)) (.list [])=(L.map sY).isEmpty:=Ě _
    by_cases hz:L=[]
    .exact gh (by rw[Tn,hz];rfl) ⟨kvs,_,_,_,rfl,J,by omega,iE⟩
    have anQ:0<L.length:=q5.mpr hz
    refine f6 (by rw[Tn];cases L with|nil=>exact bB rfl hz|cons x r=>rfl) ?_
    refine⟨_,rfl,_,_,rfl,rfl,(by show(0:Int)<4;decide),_,_,rfl,rfl,_,rfl,?_⟩
    refine H9 (λ_=>?_) (λ_=>⟨kvs,_,_,_,rfl,J,by omega,iE⟩)
    have anR:(L.map V.int).length=L.length:=bc _
    obtain⟨c0,D6,z6⟩:∃c0,ai.e0 (L.map V.int) ((yZ/4+(j:Int))%((L.map V.int).length:Int))=some (V.int c0)∧c0∈L:=by
     have h0:0≤(yZ/4+(j:Int))%((L.map V.int).length:Int):=jR _ (by omega)
     have ag:(yZ/4+(j:Int))%((L.map V.int).length:Int)<((L.map V.int).length:Int):=j_ _ (by omega)
     have bN:((yZ/4+(j:Int))%((L.map V.int).length:Int)).toNat < L.length:=by omega
     refine⟨L[((yZ/4+(j:Int))%((L.map V.int).length:Int)).toNat],?_,eg bN⟩
     have e:=õ (xs:=L.map V.int) (V.int 0) h0 ag
     rw[e,cY,b8,cg bN]
     rfl
    obtain⟨wM,rfl,aiN⟩:=Xx _ z6
    have pos:(0:Int)<((L.map V.int).length:Int):=by omega
    have iL:kvs.length<sizeLine:=fh (by have:=G.cM;omega)
    have ajP:rX≠t:=λz=>by rw[z,J.di]at iE;cases iE
    have aeR:kn C bA QO dZ x t bx aZ (dr hs) (aL rs) kvs:=⟨⟨gv,J.ins⟩,i7.same J.aC,J.di⟩
    have un:kk (cq hs) (.str h') (.str g')=true:=by
     rw[ahB,ahA]at Eb⊢
     exact Z' aj aN Eb
    have dY:h'∈hs.map S:=(M3 un).1
    have eQ:g'∈hs.map S:=(M3 un).2
    refine⟨_,rfl,dZ,gv,_,rfl,J.ins,rfl,_,rfl,_,rfl,_,rfl,_,rfl,_,_,rfl,rfl,⟨by decide,by decide⟩,_,rfl,_,_,rfl,rfl,_,rfl,rX,_,rfl,.inl (aR.of iE),_,_,rfl,rfl,pos,rX,_,_,_,rfl,rfl,aR.of iE,D6,?_⟩
    refine⟨dZ,x,t,bx,aZ,hs,rs,ds,kvs,h',g',(wM:Int),rfl,aeR,G,ql.same J.aC,cM,Sf G dY,Sf G eQ,iL,λ_ _ ix N4=>?_,λlX=>bB (un.symm.trans lX) (by decide),λ_ lX=>bB (k4▸z6) lX⟩
    have U:sz hs ds wM=h':=by
     have hm:=k4▸z6
     unfold h6 xd at hm
     obtain⟨n,az,k6⟩:=bV.mp hm
     have k6:n=wM:=by have:(n:Int)=(wM:Int):=k6;omega
     subst k6
     exact V.str.inj (jM (d1.mp az).2)
    refine⟨ec kvs (dM h' g') (.int (wM:Int)),_,_,_,rfl,⟨hH eG (J.aC.trans N4),?_,a4,J.tab.put dY eQ aiN U⟩,?_,?_⟩
    .rw[aG (dG rW)];exact N4 _ _ J.ins
    .have:=vS kvs (dM h' g') (.int (wM:Int));omega
    .rw[aG ajP];exact N4 _ _ iE
   .rintro σ kO ⟨kvs,oK,mh,v10,rfl,J,lk,iE⟩
    rw[wK]at lk
    exact⟨kvs,_,_,_,oK,mh,v10,rfl,J,by omega⟩
  .rintro σ a7 ⟨kvs,xp,v6,nv,oK,mh,v10,rfl,J,lk⟩
   exact⟨_,rfl,q dZ t a7 kvs ub eG J.aC ⟨⟨gv,J.ins⟩,i7.same J.aC,J.di⟩ J.tab⟩
end
open PySem ai cA a'
section
variable{hs:List (List Nat)}{ds:List a'.bz}{kvs:c9}{g:Str}
theorem X5(R:∀d∈ds,d.Ok hs.length)(cM:hs.length≤12):∀(n:Nat)(c:Str)(sn:List Str)(Oo a5:List Nat),n+sn.length=14→sn.Nodup→(∀y∈sn,y∈hs.map S)→hy kvs hs ds g c a5→(∀y∈sn,∃ty,hy kvs hs ds g y ty∧a5.length≤ty.length)→Ih (oi kvs hs ds g n c sn Oo)=true
 |0,c,sn,Oo,a5,az,aE,sub,_,_=>by
  have:=pg aE sub
  rw[bc]at this
  omega
 |n+1,c,sn,Oo,a5,az,aE,sub,r,hw=>by
  unfold oi
  by_cases e:c=g
  .rw[aI e]
   rfl
  .rw[aD e]
   have eG:a5≠[]:=λz=>e (r.nil_eq z)
   obtain⟨k,gA,rfl,_,w,iL,cm⟩:=r.way eG
   rw[w]
   have Vv:hB hs ds k∉sn:=λm=>by
    obtain⟨ty,ag,af⟩:=hw _ m
    have:=eK sQ (ag.uniq cm)
    rw[hS]at af
    omega
   show Ih (if hB hs ds k∈sn then _ else _)=true
   rw[aD Vv]
   have mk:hB hs ds k∈hs.map S:=by
    unfold hB
    have cF:ds.getD k hI=ds[k]:=by rw[cY,cg iL];rfl
    rw[cF]
    exact oa (R _ (eg iL)).b
   refine X5 R cM n _ _ _ gA (by rw[ff];show n+(sn.length+1)=14;omega) (oW.mpr ⟨aE,by simp,λx ao y aT z=>Vv (by rw[e8]at aT;rw[←aT,←z];exact ao)⟩) (λy aT=>?_) cm λy aT=>?_
   .rcases el.mp aT with h|h
    .exact sub y h
    .rw[e8.mp h]
     exact mk
   .rcases el.mp aT with h|h
    .obtain⟨ty,ag,af⟩:=hw y h
     rw[hS]at af
     exact⟨ty,ag,by omega⟩
    .rw[e8.mp h]
     exact⟨gA,cm,b1 _⟩
theorem ams(R:∀d∈ds,d.Ok hs.length)(cM:hs.length≤12){d:Str×Int×Str}(m:d.1∈hs.map S){a5:List Nat}(r:hy kvs hs ds d.2.2 d.1 a5):rR kvs hs ds d=true:=
 X5 R cM 13 d.1 [d.1] [] a5 rfl (by simp) (λy aT=>by rw[e8.mp aT];exact m) r λy aT=>⟨a5,by rw[e8.mp aT];exact r,b1 _⟩
noncomputable def md(kvs:c9)(hs:List (List Nat))(ds:List a'.bz)(g:Str):Nat→Str→Bool
 |0,_=>false
 |n+1,h=>if h=g then true else match hK kvs h g with
  |none=>false
  |some k=>md kvs hs ds g n (hB hs ds k)
theorem XJ(dm:iA kvs ds.length):∀(n:Nat)(h:Str),md kvs hs ds g n h=true→∃a5,hy kvs hs ds g h a5
 |0,_,e=>nomatch e
 |n+1,h,e=>by
  unfold md at e
  by_cases z:h=g
  .rw[z]
   exact⟨[],.tH⟩
  .rw[aD z]at e
   cases w:hK kvs h g with
   |none=>rw[w]at e;cases e
   |some k=>
    rw[w]at e
    obtain⟨a5,r⟩:=XJ dm n _ e
    have iL:k<ds.length:=by
     rcases dm.get h g with⟨_,y⟩|⟨i,_,y,aj⟩
     .rw[w]at y;cases y
     .rw[w]at y;cases y;exact aj
    exact⟨k::a5,.on z w iL r⟩
theorem hy.last{h:Str}:∀{a5:List Nat},hy kvs hs ds g h a5→∀(ne:a5≠[]),hB hs ds (a5.getLast ne)=g:=by
 intro a5
 induction a5 generalizing h with
 |nil=>intro _ ne;exact bB rfl ne
 |cons k a5 ba=>
  intro r ne
  obtain⟨wB,t',e,_,_,_,cm⟩:=r.way ne
  cases e
  cases a5 with
  |nil=>exact cm.nil_eq
  |cons j t=>rw[List.getLast_cons (by simp)];exact ba cm (by simp)
noncomputable def eM(s:Step)(L:List Step):Str×Int:=((L.getLastD s).dv,(L.getLastD s).due)
theorem ZW(R:∀d∈ds,d.Ok hs.length)(X:oJ hs ds kvs)(dm:iA kvs ds.length)(sC:G6 hs ds kvs)(cM:hs.length≤12){lds:List (Str×Int×Str)}(Av:lds.length≤100)(hZ:∀d∈lds,d.1∈hs.map S∧d.2.2∈hs.map S∧d.1≠d.2.2∧0≤d.2.1){n:Nat}(az:n<lds.length)(aw:md kvs hs ds (lds.getD n eb).2.2 13 (lds.getD n eb).1=true):
  (eM (c7 (lds.map gg) n) (dD hs ds (jt hs ds kvs lds) n)).1=(lds.getD n eb).2.2∧∀h s l,(h,s,l)∈gz (c7 (lds.map gg) n) (dD hs ds (jt hs ds kvs lds) n)→∃k,hK kvs h (lds.getD n eb).2.2=some k∧k<ds.length∧∀dX,s≤dX→dX<l→B3 hs ds (jt hs ds kvs lds) (c7 (lds.map gg)) n k h s dX:=by
 have hm:=getD_mem' (d:=eb) az
 obtain⟨dY,eQ,tX,AE⟩:=hZ _ hm
 have aiJ:∀d∈lds,d.1∈hs.map S∧d.2.2∈hs.map S∧d.1≠d.2.2:=λd hd=>⟨(hZ d hd).1,(hZ d hd).2.1,(hZ d hd).2.2.1⟩
 obtain⟨rt,O,cw⟩:=Nn (kvs:=kvs) R dm cM Av aiJ
 obtain⟨a5,akT⟩:=XJ dm _ _ aw
 have n5:n∈l8 hs ds kvs lds:=d1.mpr ⟨iR.mpr az,ams R cM dY akT⟩
 have vJ:gH (lds.map λd=>d.2.2) n=(lds.getD n eb).2.2:=by
  unfold gH
  rw[rv (d:=eb) az]
 have aq:c7 (lds.map gg) n=⟨(lds.getD n eb).2.1,none,(lds.getD n eb).1,(lds.getD n eb).2.1⟩:=by
  unfold c7
  rw[rv (d:=eb) az]
  rfl
 constructor
 .have jn:=OC R dm 1300 (-1) _ _ rt O cw n
  rw[aI n5]at jn
  have jn:gone (jt hs ds kvs lds) n=rt n:=jn
  have akV:=O.way n n5
  have ne:=O.on n n5
  have e_:=akV.last ne
  rw[vJ]at e_
  have av:dD hs ds (jt hs ds kvs lds) n≠[]:=λz=>by
   unfold dD at z
   unfold gone at jn
   rw[RG.mp z]at jn
   exact ne jn.symm
  unfold eM
  rw[HF,ň av]
  show((dD hs ds (jt hs ds kvs lds) n).getLast av).dv=_
  have iL:(rt n).getLast ne<ds.length:=by
   have:(rt n).getLast ne∈gone (jt hs ds kvs lds) n:=by rw[jn];exact List.getLast_mem ne
   unfold gone at this
   obtain⟨b,U,e⟩:=bV.mp this
   rw[←e]
   exact(tU _ _ _ _ b (d1.mp U).1).1
  rw[←e_,←Pl iL]
  have:∀(L:List (fE×List Nat))(q:List Nat)(bg:L.map (λb=>b.1.2)=q)(a:L.map (λb=>stepK hs ds b.1)≠[])(c:q≠[]),((L.map λb=>stepK hs ds b.1).getLast a).dv=ni hs ds (q.getLast c):=by
   intro L q bg a c
   subst bg
   rw[Ŋ,Ŋ]
   rfl
  exact this _ _ jn av ne
 .intro h s l ao
  obtain⟨k,w,f⟩:=Yb R dm sC 1300 (-1) _ _ rt O cw n n5 h s l ao
  rw[vJ]at w
  refine⟨k,w,?_,λdX a b=>f dX a b ?_⟩
  .rcases dm.get h (lds.getD n eb).2.2 with⟨_,y⟩|⟨i,_,y,aj⟩
   .rw[w]at y;cases y
   .rw[w]at y;cases y;exact aj
  .rcases EW ao with⟨_,e⟩|⟨y,aT,_,e⟩
   .have e:s=(c7 (lds.map gg) n).due:=e
    rw[aq]at e
    have e:s=(lds.getD n eb).2.1:=e
    omega
   .unfold dD at aT
    obtain⟨b,U,rfl⟩:=bV.mp aT
    obtain⟨bq,cp,_⟩:=tU _ _ _ _ b (d1.mp U).1
    have e:s=b.1.1+jv ds b.1.2:=e
    have:1≤jv ds b.1.2:=by
     unfold jv
     rw[show ds.getD b.1.2 lq=ds[b.1.2] by rw[cY,cg bq];rfl]
     exact(R _ (eg bq)).t.1
    omega
theorem oJ.ok(X:oJ hs ds kvs):iA kvs ds.length∧G6 hs ds kvs:=by
 obtain⟨rs,rfl,aE,ok⟩:=X.rows
 have key:∀k v,cz (dU rs) k=some v→∃r∈rs,k=dM r.1 r.2.1∧v=.int r.2.2:=λk v e=>by
  unfold cz at e
  obtain⟨ck,hf,rfl⟩:=eh.mp e
  have hm:=RI hf
  have aK:=Ry hf
  unfold dU at hm
  obtain⟨r,aw,rfl⟩:=bV.mp hm
  exact⟨r,aw,(jM aK).symm,rfl⟩
 refine⟨⟨λk v e=>?_⟩,λh g k w=>?_⟩
 .obtain⟨r,aw,_,rfl⟩:=key k v e
  obtain⟨n,k6,az,_⟩:=(ok r aw).k
  exact⟨n,by rw[k6],az⟩
 .unfold hK at w
  cases e:cz (dU rs) (dM h g)with
  |none=>rw[e]at w;cases w
  |some v=>
   obtain⟨r,aw,d3,rfl⟩:=key _ _ e
   obtain⟨n,k6,az,U⟩:=(ok r aw).k
   rw[e,k6]at w
   obtain⟨av,ay⟩:=w8 d3
   have:n=k:=by simpa using w
   rw[←this,U,av]
end
open PySem ai cA a'
section
variable{P:bT}{w:bJ}{K:a3}{aa:Str→Option Value}{base:Heap}
inductive aeC(vs:(List ai.V))(H:ae)(Q:bk)(bF:cy):Prop where
 |mk (b t:Addr) (hs:List (List Nat)) (rs:List Addr) (ds:List a'.bz) (kvs:c9) (h g:Str) (b4:vs=[.ref b,.ref t,.str h,.str g]) (bL:H b=some (.lst (aL rs))) (cG:H t=some (.cE kvs)) (c2:hp H hs rs ds) (dR:iA kvs ds.length) (eW:∀H',aP H H'→Q (.bo (md kvs hs ds g 13 h)) H')
noncomputable def Ia:cW:=λvs H Q bF=>aeC vs H Q bF
noncomputable abbrev Bd:Stmt:=top 44
theorem Ib:dT ["_law_lines","_law_told","_law_house","_law_goal","_law_k"] ["_law_lines","_law_told","_law_house","_law_goal"] (dh Bd):=⟨rfl,rfl,rfl,by decide+kernel,rfl,by decide+kernel,by decide+kernel⟩
seal hj bE gn hT
theorem aeD{f:Addr}{fd:cP}(F:b0 K "_law_has_route" "_law_has_route" Bd f fd)(B:g4 aa):aY P w K aa base bu 1 f fd ["_law_lines","_law_told","_law_house","_law_goal"] Ia:=by
 refine F.ok Ib (λvs H Q E h=>?_) (λbC A outer s H vs Q E aw h=>?_)
 .obtain⟨b,t,hs,rs,ds,kvs,h',g',rfl,_⟩:=h
  rfl
 .obtain⟨b,t,hs,rs,ds,kvs,h',g',rfl,U,cw,cL,tab,q⟩:=h
  refine⟨_,(bO (hV hF rfl (EO rfl B.range (aB bl a8)) (de (i:=4) Ib.aE rfl (cC rfl))
    (bO (f5 (gf l3 (ah 2) (ah 3) (fu _)) (bW (dH jl)) f3)
   (bO (f5 (QE (Nr (hJ aw) (hu (aB (ah 2) (aB (ah 3) a8))) (ah 1))) (bW (dH jl)) f3)
   (bW (dB (i:=2) Ib.aE rfl (cC rfl) (b9 d2 (b9 gp (ah 0) (pw (hJ aw) (ah 1) (hu (aB (ah 2) (aB (ah 3) a8))) (λ_ _=>rfl)) (λ_ _=>rfl)) bl (λ_ _=>rfl)))))))
   (bW (dH jl))),?_⟩
  obtain⟨a0,Tp⟩:∃a0,a0=md kvs hs ds g' 13 h':=⟨_,rfl⟩
  rw[←Tp]at q
  refine⟨13,rfl,by decide,by decide,?_⟩
  refine EP (lo:=0) (n:=13) (λi σ a7=>aP H a7∧∃(c:Str)(v:Option ai.V),σ=[some (.ref b),some (.ref t),some (.str c),some (.str g'),v]∧i≤13∧a0=md kvs hs ds g' (13-i) c) ⟨aP.refl _,h',none,rfl,by decide,Tp⟩ ?_ ?_
  .rintro i σ a7 aj ⟨aC,c,v,rfl,_,e⟩
   obtain⟨m,em⟩:∃m,13-i=m+1:=⟨12-i,by omega⟩
   have ahD:13-(i+1)=m:=by omega
   rw[em]at e
   unfold md at e
   refine⟨_,rfl,_,rfl,rfl,_,rfl,?_⟩
   by_cases z:c=g'
   .rw[aI z]at e
    rw[e]at q
    exact f6 (dp (eK V.str z)) (q a7 aC)
   rw[aD z]at e
   refine gh (eF λy=>z (V.str.inj y)) ?_
   refine⟨_,rfl,_,rfl,(by show 2≤sizeLine;decide),λr fL=>?_⟩
   have jw:=cH (o:=.tup [V.str c,V.str g']) fL
   have j8:=aC.trans jw
   have qq:upd a7 r (.tup [V.str c,V.str g']) r=some (.tup ((dM c g').map cQ)):=a4
   generalize upd a7 r (.tup [V.str c,V.str g'])=H1 at jw j8 qq⊢
   refine⟨_,rfl,t,_,rfl,gP.t (j8 _ _ cw) qq,_,rfl,?_⟩
   rcases tab.get c g' with⟨av,ay⟩|⟨k,av,ay,aK⟩
   .rw[ay]at e
    rw[av]
    rw[e]at q
    exact f6 rfl (q H1 j8)
   .rw[ay]at e
    rw[av]
    refine gh rfl ?_
    refine⟨_,rfl,_,rfl,_,rfl,_,rfl,(by show 2≤sizeLine;decide),λc8 AM=>?_⟩
    have Xn:=cH (o:=.tup [V.str c,V.str g']) AM
    have i':=j8.trans Xn
    have qr:upd H1 c8 (.tup [V.str c,V.str g']) c8=some (.tup ((dM c g').map cQ)):=a4
    generalize upd H1 c8 (.tup [V.str c,V.str g'])=ak at Xn i' qr⊢
    obtain⟨fM,era⟩:∃fM,rs[k]?=some fM:=⟨_,cg (by rw[cL.len];exact aK)⟩
    obtain⟨d,c',qG,hd⟩:=cL.get era
    have vy:ai.e0 (aL rs) (k:Int)=some (.ref fM):=ho (by unfold aL;rw[b8,era];rfl)
    have qc:hB hs ds k=S (hs.getD d.b []):=by unfold hB;rw[qw c']
    refine⟨t,_,rfl,(by rw[←av];exact gP.t (i' _ _ cw) qr),b,_,_,_,rfl,rfl,aR.of (i' _ _ U),vy,fM,_,_,_,rfl,rfl,b2.of (i' _ _ hd),rfl,?_⟩
    refine⟨i',_,_,rfl,by omega,?_⟩
    rw[ahD,←qc]
    exact e
  .rintro σ a7 ⟨aC,c,v,rfl,_,e⟩
   have e:a0=false:=e
   rw[e]at q
   exact q a7 aC
unseal hj bE gn hT
end
open PySem ai cA a'
noncomputable def fV(y:Str×Int):List ai.V:=[.str y.1,.int y.2]
noncomputable def jO(x:Str×Int×Int):List ai.V:=[.str x.1,.int x.2.1,.int x.2.2]
noncomputable def Iq(H:ae)(a:Addr)(xs:List (Str×Int×Int)):Prop:=∃ts,H a=some (.lst (aL ts))∧dn H ts (xs.map jO)
theorem Y8(x:Step):∀(L:List Step)(s:Step),gz s (L++[x])=gz s L++[((eM s L).1,(eM s L).2,x.left)]
 |[],s=>rfl
 |y::r,s=>by
  show(s.dv,s.due,y.left)::gz y (r++[x])=(s.dv,s.due,y.left)::(gz y r++_)
  rw[Y8 x r y]
  have:eM s (y::r)=eM y r:=by
   unfold eM
   cases r with
   |nil=>rfl
   |cons z r=>rfl
  rw[this]
theorem Ĝ(x s:Step)(L:List Step):eM s (L++[x])=(x.dv,x.due):=by
 unfold eM
 rw[HF,Ň]
 rfl
theorem Ez{α β:Type}{F:α→β→Prop}:∀{xs:List α}{ys:List β},xs.length=ys.length→(∀(i:Nat)(x:α)(y:β),xs[i]?=some x→ys[i]?=some y→F x y)→bZ F xs ys
 |[],[],_,_=>.nil
 |x::xs,y::ys,e,h=>.cons (h 0 x y rfl rfl) (Ez (Nat.succ.inj e) λi a b bp dJ=>h (i+1) a b bp dJ)
 |[],_::_,e,_=>by cases e
 |_::_,[],e,_=>by cases e
structure p7(H a7:ae)(D0 eX:Addr)(aq:Nat→Step)(N:Nat)(ed:List Addr)(L:Nat→List Step):Prop where
 aC:aP H a7
 here:∃gX,a7 D0=some (.lst (aL gX))∧dn a7 gX ((c_ N).map λn=>fV (eM (aq n) (L n)))
 lst:a7 eX=some (.lst (aL ed))
 each:bZ (Iq a7) ed ((c_ N).map λn=>gz (aq n) (L n))
 aE:ed.Nodup
 fr:∀l∈ed,H l=none∧l≠D0∧l≠eX
theorem p7.same{H a7 dk:ae}{D0 eX:Addr}{aq:Nat→Step}{N:Nat}{ed:List Addr}{L:Nat→List Step}(A:p7 H a7 D0 eX aq N ed L)(s:aP a7 dk):p7 H dk D0 eX aq N ed L:=by
 obtain⟨gX,ag,af⟩:=A.here
 exact⟨A.aC.trans s,⟨gX,s _ _ ag,af.same s⟩,s _ _ A.lst,bZ.jL A.each λa xs⟨ts,av,ay⟩=>⟨ts,s _ _ av,ay.same s⟩,A.aE,A.fr⟩
theorem p7.step{H a7:ae}{D0 eX:Addr}{aq:Nat→Step}{N:Nat}{ed:List Addr}{L:Nat→List Step}(A:p7 H a7 D0 eX aq N ed L)(MA:H D0=none)(MB:D0≠eX){n:Nat}{l:Addr}(eL:ed[n]?=some l){gX ts:List Addr}(h0:a7 D0=some (.lst (aL gX)))(ja:dn a7 gX ((c_ N).map λn=>fV (eM (aq n) (L n))))(ar:a7 l=some (.lst (aL ts)))(tt:dn a7 ts ((gz (aq n) (L n)).map jO)){st:Step}{t1 dx:Addr}(dY:a7 t1=none)(eQ:upd (upd a7 t1 (.tup (jO ((eM (aq n) (L n)).1,(eM (aq n) (L n)).2,st.left)))) l (.lst (aL (ts++[t1]))) dx=none):
  p7 H (upd (upd (upd (upd a7 t1 (.tup (jO ((eM (aq n) (L n)).1,(eM (aq n) (L n)).2,st.left)))) l (.lst (aL (ts++[t1])))) dx (.tup (fV (st.dv,st.due)))) D0 (.lst (aL (gX.set n dx)))) D0 eX aq N ed (λj=>if j=n then L j++[st]else L j):=by
 have tY:=eI eL
 obtain⟨f1,f2,dc⟩:=A.fr l tY
 have bS:=iy A.each
 rw[bc,hi]at bS
 have aom:n<N:=by have:=(fW.mp eL).1;omega
 have mU:dx≠l:=λz=>by rw[z,a4]at eQ;cases eQ
 rw[aG mU]at eQ
 have Of:dx≠t1:=λz=>by rw[z,a4]at eQ;cases eQ
 rw[aG Of]at eQ
 have Mo:l≠t1:=λz=>by rw[z,dY]at ar;cases ar
 have agv:D0≠t1:=λz=>by rw[z,dY]at h0;cases h0
 have agw:D0≠dx:=λz=>by rw[z,eQ]at h0;cases h0
 have keep:∀{a:Addr}{o:d4},a7 a=some o→a≠l→a≠D0→upd (upd (upd (upd a7 t1 (.tup (jO ((eM (aq n) (L n)).1,(eM (aq n) (L n)).2,st.left)))) l (.lst (aL (ts++[t1])))) dx (.tup (fV (st.dv,st.due)))) D0 (.lst (aL (gX.set n dx))) a=some o:=λ{a o}e bq cp=>by
  rw[aG cp,aG (dg e eQ),aG bq,aG (dg e dY)]
  exact e
 have kt:∀{a:Addr}{xs:List ai.V},a7 a=some (.tup xs)→upd (upd (upd (upd a7 t1 (.tup (jO ((eM (aq n) (L n)).1,(eM (aq n) (L n)).2,st.left)))) l (.lst (aL (ts++[t1])))) dx (.tup (fV (st.dv,st.due)))) D0 (.lst (aL (gX.set n dx))) a=some (.tup xs):=λ{a xs}e=>keep e (λz=>by rw[z,ar]at e;cases e) λz=>by rw[z,h0]at e;cases e
 have g1:upd (upd (upd (upd a7 t1 (.tup (jO ((eM (aq n) (L n)).1,(eM (aq n) (L n)).2,st.left)))) l (.lst (aL (ts++[t1])))) dx (.tup (fV (st.dv,st.due)))) D0 (.lst (aL (gX.set n dx))) t1=some (.tup (jO ((eM (aq n) (L n)).1,(eM (aq n) (L n)).2,st.left))):=by
  rw[aG (dG agv),aG (dG Of),aG (dG Mo),a4]
 have g2:upd (upd (upd (upd a7 t1 (.tup (jO ((eM (aq n) (L n)).1,(eM (aq n) (L n)).2,st.left)))) l (.lst (aL (ts++[t1])))) dx (.tup (fV (st.dv,st.due)))) D0 (.lst (aL (gX.set n dx))) dx=some (.tup (fV (st.dv,st.due))):=by
  rw[aG (dG agw),a4]
 have gl:upd (upd (upd (upd a7 t1 (.tup (jO ((eM (aq n) (L n)).1,(eM (aq n) (L n)).2,st.left)))) l (.lst (aL (ts++[t1])))) dx (.tup (fV (st.dv,st.due)))) D0 (.lst (aL (gX.set n dx))) l=some (.lst (aL (ts++[t1]))):=by
  rw[aG f2,aG (dG mU),a4]
 have Xk:aP H (upd (upd (upd (upd a7 t1 (.tup (jO ((eM (aq n) (L n)).1,(eM (aq n) (L n)).2,st.left)))) l (.lst (aL (ts++[t1])))) dx (.tup (fV (st.dv,st.due)))) D0 (.lst (aL (gX.set n dx)))):=hH MA (((hH f1 (A.aC.trans (cH dY)))).trans (cH (by rw[aG mU,aG Of];exact eQ)))
 have Un:(upd (upd (upd (upd a7 t1 (.tup (jO ((eM (aq n) (L n)).1,(eM (aq n) (L n)).2,st.left)))) l (.lst (aL (ts++[t1])))) dx (.tup (fV (st.dv,st.due)))) D0 (.lst (aL (gX.set n dx)))) D0=some (.lst (aL (gX.set n dx))):=a4
 generalize upd (upd (upd (upd a7 t1 (.tup (jO ((eM (aq n) (L n)).1,(eM (aq n) (L n)).2,st.left)))) l (.lst (aL (ts++[t1])))) dx (.tup (fV (st.dv,st.due)))) D0 (.lst (aL (gX.set n dx)))=nF at keep kt g1 g2 gl Xk Un⊢
 have V0:∀{rs:List Addr}{xs:List (List ai.V)},dn a7 rs xs→dn nF rs xs:=λh=>bZ.jL h λ_ _ e=>kt e
 have EE:=ja.len
 rw[bc,hi]at EE
 refine⟨Xk,⟨gX.set n dx,Un,?_⟩,keep A.lst (dG dc) (dG MB),?_,A.aE,A.fr⟩
 .refine Ez (by rw[RE,EE,bc,hi]) λi x y ex dV=>?_
  rw[b8]at dV
  obtain⟨k,d3,rfl⟩:=eh.mp dV
  obtain⟨aK,e⟩:=fW.mp d3
  rw[yr]at e
  subst e
  rw[hi]at aK
  rw[Ņ]at ex
  by_cases z:n=i
  .subst z
   rw[aI rfl,aI (by omega)]at ex
   cases ex
   rw[aI rfl,Ĝ]
   exact g2
  .rw[aD z]at ex
   rw[aD (dG z)]
   obtain⟨d,c',hd⟩:=bZ.get ja ex
   rw[b8,vh aK]at c'
   cases c'
   exact kt hd
 .refine Ez (by rw[bc,hi];exact bS) λi x y ex dV=>?_
  rw[b8]at dV
  obtain⟨k,d3,rfl⟩:=eh.mp dV
  obtain⟨aK,e⟩:=fW.mp d3
  rw[yr]at e
  subst e
  rw[hi]at aK
  by_cases z:i=n
  .subst z
   rw[eL]at ex
   cases ex
   rw[aI rfl,Y8]
   refine⟨ts++[t1],gl,?_⟩
   rw[ek]
   exact Paired.snoc (F:=λr d=>nF r=some (.tup d)) g1 (V0 tt)
  .rw[aD z]
   obtain⟨d,c',gS,ag,af⟩:=bZ.get A.each ex
   rw[b8,vh aK]at c'
   cases c'
   have amz:x≠l:=λy=>by
    rw[y]at ex
    obtain⟨a1,d6⟩:=fW.mp ex
    obtain⟨a2,dC⟩:=fW.mp eL
    exact z ((vi A.aE).mp (d6.trans dC.symm))
   exact⟨gS,keep ag amz (A.fr x (eI ex)).2.1,V0 af⟩
theorem abc{wi:TI}{cs:List (Option Nat)}{σ rest:ai.St}{H H1:ae}{Q:bk}{J:e7}{xs:List ai.V}(hw:∀R:e7→ae→Prop,R J H1→wi σ H R)(gx:gO cs σ=none::rest)(iO:mC J H1 xs)(ar:xs.length<sizeLine)(fin:∀(D:Addr)(H':ae)(ed:List Addr),H1 D=none→H' D=some (.lst (aL ed))→ed.length=xs.length→ed.Nodup→(∀l∈ed,H1 l=none∧l≠D∧H' l=some (.lst []))→aP H1 H'→Q (.ref D) H'):kI wi cs (gr 0) qR (SA H8) σ H Q:=by
 refine hw _ λD cq=>?_
 refine⟨λi m ys a6 H'=>m=xs.length-i∧i≤xs.length∧(∃ed,ys=aL ed∧ed.length=i∧ed.Nodup∧∀l∈ed,H1 l=none∧l≠D∧H' l=some (.lst []))∧(∃o,a6=o::rest)∧aP H1 H'∧H' D=some (.lst ys),⟨xs.length,by simp,ea _,⟨[],rfl,rfl,mu,λl ar=>nomatch ar⟩,⟨none,gx⟩,cH cq,a4⟩,?_⟩
 rintro i m ys a6 H' ⟨rfl,aj,⟨ed,rfl,ln,aE,each⟩,⟨o,rfl⟩,aC,et⟩
 obtain⟨fP,fD,hO⟩:=iO H' aC
 refine⟨et,lG (by rw[fS];omega) ar,?_⟩
 by_cases bN:i<xs.length
 .refine .inr ⟨fD i bN,λx ak y=>?_⟩
  obtain⟨rfl,ex⟩:=hO i x ak bN y
  refine⟨ea _,λp np=>?_⟩
  have s5:=cH (o:=.lst []) np
  have cZ:=s5 _ _ et
  have WR:p≠D:=λz=>by rw[z,et]at np;cases np
  refine⟨cZ,xs.length-(i+1),by omega,rfl,bN,⟨ed++[p],p_ ed p,by rw[ff,ln];rfl,?_,λl hm=>?_⟩,⟨_,rfl⟩,hH cq (aC.trans s5),a4⟩
  .refine oW.mpr ⟨aE,by simp,λa aH b U z=>?_⟩
   rw[e8]at U
   rw[z,U]at aH
   rw[(each p aH).2.2]at np
   cases np
  .rcases el.mp hm with h|h
   .obtain⟨bq,cp,eH⟩:=each l h
    exact⟨bq,cp,by rw[aG cp];exact s5 _ _ eH⟩
   .rw[e8.mp h]
    refine⟨?_,WR,by rw[aG WR,a4]⟩
    cases e:H1 p with
    |none=>rfl
    |some o=>rw[aC _ _ e]at np;cases np
 .have e:i=xs.length:=by omega
  subst e
  exact .inl ⟨fP,fin D H' ed cq et ln aE each aC⟩
theorem Qz{H:ae}{g:Nat→List ai.V}:∀(vs:List ai.V)(k:Nat),(∀i v,vs[i]?=some v→∃r,v=.ref r∧H r=some (.tup (g (k+i))))→∃rs,vs=aL rs∧dn H rs ((c_ vs.length).map λi=>g (k+i))
 |[],_,_=>⟨[],rfl,.nil⟩
 |v::vs,k,h=>by
  obtain⟨r,rfl,aw⟩:=h 0 v rfl
  obtain⟨rs,e,t⟩:=Qz (H:=H) (g:=g) vs (k+1) λi u zd=>by
   obtain⟨r,av,ay⟩:=h (i+1) u zd
   exact⟨r,av,by rw[ay];congr 3;omega⟩
  refine⟨r::rs,by rw[e];rfl,?_⟩
  rw[hS,List.range_succ_eq_map,fX,gk]
  refine .cons aw ?_
  have:(c_ vs.length).map ((λi=>g (k+i))∘Nat.succ)=(c_ vs.length).map λi=>g (k+1+i):=sS λi _=>by show g (k+(i+1))=_;congr 1;omega
  rw[this]
  exact t
section
variable{P:bT}{w:bJ}{K:a3}{aa:Str→Option Value}{base:Heap}
noncomputable abbrev Bj:Stmt:=top 42
noncomputable abbrev ajT:List Str:=["_law_lines","_law_letters","_law_plan","_law_here","_law_stays_here","_law_turn","_law_road_here","_law_numbers","_law_n"]
theorem sD:dT ajT ["_law_lines","_law_letters","_law_plan"] (dh Bj):=⟨rfl,rfl,rfl,by decide+kernel,rfl,by decide+kernel,by decide+kernel⟩
inductive aeE(vs:(List ai.V))(H:ae)(Q:bk)(bF:cy):Prop where
 |mk (b gi pp:Addr) (hs:List (List Nat)) (rs fK as:List Addr) (ds:List a'.bz) (lds:List (Str×Int×Str)) (P:List (fE×List Nat)) (b4:vs=[.ref b,.ref gi,.ref pp]) (bL:H b=some (.lst (aL rs))) (cG:hp H hs rs ds) (c2:H gi=some (.lst (aL fK))) (dR:dn H fK (lds.map jJ)) (eW:fK.length≤60) (h8:H pp=some (.lst (aL as))) (jz:bZ (iZ H) as P) (oP:(∀b∈P,b.1.2<ds.length∧b.2.Nodup∧∀n∈b.2,n<lds.length)) (xw:(∀n,(dD hs ds P n).length≤100)) (B2:∀(r D0 eX:Addr)(H':ae)(ed gX:List Addr),aP H H'→H' r=some (.lst [.ref eX,.ref D0])→H' eX=some (.lst (aL ed))→bZ (Iq H') ed ((c_ lds.length).map λn=>gz (c7 (lds.map gg) n) (dD hs ds P n))→H' D0=some (.lst (aL gX))→dn H' gX ((c_ lds.length).map λn=>fV (eM (c7 (lds.map gg) n) (dD hs ds P n)))→Q (.ref r) H')
noncomputable def Ic:cW:=λvs H Q bF=>aeE vs H Q bF
theorem aeF{f:Addr}{fd:cP}(F:b0 K "_law_stays" "_law_stays" Bj f fd)(B:g4 aa):aY P w K aa base bu 1 f fd ["_law_lines","_law_letters","_law_plan"] Ic:=by
 refine F.ok sD (λvs H Q E h=>?_) (λbC A outer s H vs Q E aw h=>?_)
 .obtain⟨b,gi,pp,hs,rs,fK,as,ds,lds,fR,rfl,_⟩:=h
  rfl
 .obtain⟨b,gi,pp,hs,rs,fK,as,ds,lds,fR,rfl,U,R,k9,oH,cM,VC,jX,akn,J9,q⟩:=h
  refine⟨_,(bO (qg (i:=3) sD.aE rfl rfl rfl (N':=["_law_letter_here"]) (cs:=[none]) rfl (hn (ah 1)) rfl (by decide+kernel) rfl (by decide+kernel) (jj (λp aQ=>bB aQ (eB))) rfl
    (.own .nil)
    (λC s3 bD cu ey=>⟨(de (i:=0) (by show(["_law_letter_here"]:List Str).Nodup;decide+kernel) rfl (.inl rfl)),nZ,(hu (aB (b9 (n1 (K:=K) rfl) (ah 0) bl (λ_ _=>rfl)) (aB (b9 (n1 (K:=K) rfl) (ah 0) bl (λ_ _=>rfl)) a8)))⟩))
   (bO (qg (i:=4) sD.aE rfl rfl rfl (N':=["_law_letter_here"]) (cs:=[none]) rfl (hn (ah 1)) rfl (by decide+kernel) rfl (by decide+kernel) (jj (λp aQ=>bB aQ (eB))) rfl
    (.own .nil)
    (λC s3 bD cu ey=>⟨(de (i:=0) (by show(["_law_letter_here"]:List Str).Nodup;decide+kernel) rfl (.inl rfl)),nZ,(k7 a8)⟩))
   (bO (hV hF rfl (hn (ah 2)) (t4 rfl (fZ (de (i:=5) sD.aE rfl (cC rfl)) (fZ (de (i:=6) sD.aE rfl (cC rfl)) (fZ (de (i:=7) sD.aE rfl (cC rfl)) lP))))
    (bW (hV hF rfl (Gw (ah 7)) (de (i:=8) sD.aE rfl (cC rfl))
    (bO (iB (pH p4 p5 p6 nR (b9 gp (ah 4) (ah 8) (λ_ _=>rfl)) (aB (hu (aB (b9 d2 (b9 gp (ah 3) (ah 8) (λ_ _=>rfl)) bl (λ_ _=>rfl)) (aB (b9 d2 (b9 gp (ah 3) (ah 8) (λ_ _=>rfl)) bl (λ_ _=>rfl)) (aB (ah 5) a8)))) a8)))
   (bW (Pw (hu (aB (b9 d2 (b9 gp (ah 0) (ah 6) (λ_ _=>rfl)) bl (λ_ _=>rfl)) (aB (cK ie (ah 5) (b9 d2 (b9 gp (ah 0) (ah 6) (λ_ _=>rfl)) bl (λ_ _=>rfl))) a8))) (ab7 (ah 3) (ah 8) set_list)))))))
   (bW (dH (k7 (aB (ah 4) (aB (ah 3) a8)))))))),?_⟩
  have EC:fK.length=lds.length:=by have:=oH.len;rwa [bc]at this
  have rP:=fS fK
  have ajx:∀{i:Nat}{v:ai.V},(aL fK)[i]?=some v→∃(r:Addr)(d:Str×Int×Str),v=.ref r∧lds[i]?=some d∧H r=some (.tup (jJ d)):=λ{i v}ev=>by
   unfold aL at ev
   rw[b8]at ev
   obtain⟨r,dK,rfl⟩:=eh.mp ev
   obtain⟨d',mK,kq⟩:=bZ.get oH dK
   rw[b8]at mK
   obtain⟨d,c',rfl⟩:=eh.mp mK
   exact⟨r,d,rfl,c',kq⟩
  refine AY ?_
  refine aap (J:=jc K gi) (H1:=H) (xs:=aL fK) (rest:=[]) (λkd h=>⟨_,rfl,gi,rfl,⟨_,aR.of k9⟩,h⟩) rfl (n0 (aR.of k9)) (fh (by omega)) (λi v H'=>∃r,v=.ref r∧H' r=some (.tup (fV ((lds.getD i eb).1,(lds.getD i eb).2.1)))) ?_ ?_ (λi v ak kd ev s2 c0=>?_) (λD0 H1 vs ajQ zM lv each s1=>?_)
  .rintro i v ak bD s3 ⟨r,rfl,e⟩
   exact⟨r,rfl,s3 _ _ e⟩
  .rintro i v ak D ys zs cq ⟨r,rfl,e⟩
   exact⟨r,rfl,by rw[aG (λz=>by rw[z,cq]at e;cases e)];exact e⟩
  .obtain⟨r,d,rfl,c',hd⟩:=ajx ev
   refine⟨_,rfl,r,_,_,_,rfl,rfl,b2.of (s2 _ _ hd),rfl,_,rfl,r,_,_,_,rfl,rfl,b2.of (s2 _ _ hd),rfl,(by show 2≤sizeLine;decide),λt eG=>c0 _ _ (cH eG) ⟨t,rfl,?_⟩⟩
   rw[a4,k_ c']
   rfl
  obtain⟨gX,rfl,alz⟩:=Qz (H:=H1) (g:=λi=>fV ((lds.getD i eb).1,(lds.getD i eb).2.1)) vs 0 λi v ev=>by
   obtain⟨r,av,ay⟩:=each i v ev
   exact⟨r,av,by rw[ay,yz]⟩
  refine AY ?_
  refine abc (J:=jc K gi) (H1:=H1) (xs:=aL fK) (rest:=[]) (λkd h=>⟨_,rfl,gi,rfl,⟨_,aR.of (s1 _ _ k9)⟩,h⟩) rfl (n0 (aR.of (s1 _ _ k9))) (fh (by omega)) (λeX ak ed MD qj ajE ajX fr s2=>?_)
  have aq:∀n,n<lds.length→c7 (lds.map gg) n=⟨(lds.getD n eb).2.1,none,(lds.getD n eb).1,(lds.getD n eb).2.1⟩:=λn az=>by
   unfold c7
   rw[rv (d:=eb) az]
   rfl
  have MB:D0≠eX:=λz=>by rw[←z,zM]at MD;cases MD
  have ly:p7 H ak D0 eX (c7 (lds.map gg)) lds.length ed (λ_=>[]):=by
   refine⟨s1.trans s2,⟨gX,s2 _ _ zM,?_⟩,qj,?_,ajX,λl ar=>⟨?_,λz=>?_,(fr l ar).2.1⟩⟩
   .have:=alz.same s2
    rw[lv,rP,EC]at this
    have e:((c_ lds.length).map λi=>fV ((lds.getD (0+i) eb).1,(lds.getD (0+i) eb).2.1))=(c_ lds.length).map λn=>fV (eM (c7 (lds.map gg) n) []):=sS λi aj=>by
     rw[yz]
     show _=fV ((c7 (lds.map gg) i).dv,(c7 (lds.map gg) i).due)
     rw[aq i (iR.mp aj)]
    rw[e]at this
    exact this
   .refine Ez (by rw[bc,hi,ajE,rP,EC]) λi x y ex dV=>?_
    rw[b8]at dV
    obtain⟨k,_,rfl⟩:=eh.mp dV
    exact⟨[],(fr x (eI ex)).2.2,.nil⟩
   .cases e:H l with
    |none=>rfl
    |some o=>
     have:=(fr l ar).1
     rw[s1 _ _ e]at this
     cases this
   .have:=(fr l ar).1
    rw[z,zM]at this
    cases this
  refine⟨_,rfl,pp,rfl,⟨_,aR.of (ly.aC _ _ VC)⟩,?_⟩
  have gY:=R.len
  refine nV (xs:=aL as) (λi σ a7=>∃(v1 v2 gK v4:Option ai.V),σ=[some (.ref b),some (.ref gi),some (.ref pp),some (.ref D0),some (.ref eX),v1,v2,gK,v4]∧p7 H a7 D0 eX (c7 (lds.map gg)) lds.length ed (λn=>dD hs ds (fR.take i) n))
   ⟨none,none,none,none,rfl,ly⟩ (λi σ a7 _⟨_,_,_,_,_,h⟩=>aR.of (h.aC _ _ VC)) ?_ ?_
  .rintro i z σ a7 cV ⟨v1,v2,gK,v4,rfl,g0⟩
   unfold aL at cV
   rw[b8]at cV
   obtain⟨iU,vI,rfl⟩:=eh.mp cV
   obtain⟨cI,y',c,i2,hY⟩:=bZ.get jX vI
   obtain⟨FI,mG,t_⟩:=akn cI (eI y')
   have a5:fR.take (i+1)=fR.take i++[cI]:=by rw[kR,y'];rfl
   refine⟨iU,_,rfl,b2.of (g0.aC _ _ i2),rfl,_,_,rfl,_,_,rfl,_,_,rfl,rfl,?_⟩
   obtain⟨fM,era⟩:∃fM,rs[cI.1.2]?=some fM:=⟨_,cg (by omega)⟩
   obtain⟨d,c',qG,qs⟩:=R.get era
   have cF:ds.getD cI.1.2 lq=d:=k_ c'
   have vy:ai.e0 (aL rs) (cI.1.2:Int)=some (.ref fM):=ho (by unfold aL;rw[b8,era];rfl)
   have Dq:stepK hs ds cI.1=⟨cI.1.1,some cI.1.2,S (hs.getD d.b []),cI.1.1+d.t⟩:=by
    unfold stepK ni jv
    rw[cF]
   refine⟨_,rfl,c,rfl,⟨_,b2.of (g0.aC _ _ hY)⟩,?_⟩
   refine OK (K:=K) (a:=c) (xs:=cI.2.map λn:Nat=>V.int n) (λj σ dk=>∃v4,σ=[some (.ref b),some (.ref gi),some (.ref pp),some (.ref D0),some (.ref eX),some (.int cI.1.1),some (.int (cI.1.2:Int)),some (.ref c),v4]∧p7 H dk D0 eX (c7 (lds.map gg)) lds.length ed (λn=>dD hs ds (fR.take i) n++(if n∈cI.2.take j then[stepK hs ds cI.1]else[])))
    ⟨v4,rfl,by simpa using g0⟩ (λj σ dk _⟨_,_,h⟩=>b2.of (h.aC _ _ hY)) ?_ ?_
   .rintro j z σ dk cV ⟨v4,rfl,fw⟩
    rw[b8]at cV
    obtain⟨k,d3,rfl⟩:=eh.mp cV
    have iL:=t_ k (eI d3)
    have Xy:cI.2.take (j+1)=cI.2.take j++[k]:=by rw[kR,d3];rfl
    have VZ:k∉cI.2.take j:=λz=>by
     have:=mG
     rw[←p1 (j+1) cI.2,Xy]at this
     exact(oW.mp (oW.mp this).1).2.2 k z k (.head _) rfl
    obtain⟨qt,h0,ja⟩:=fw.here
    have EE:=ja.len
    rw[bc,hi]at EE
    have bS:=iy fw.each
    rw[bc,hi]at bS
    obtain⟨l,eL⟩:∃l,ed[k]?=some l:=⟨_,cg (by omega)⟩
    obtain⟨oE,TJ,ts,ar,tt⟩:=bZ.get fw.each eL
    rw[b8,vh iL]at TJ
    cases TJ
    obtain⟨qq,zb⟩:∃x,qt[k]?=some x:=⟨_,cg (by omega)⟩
    obtain⟨D',Tu,ef⟩:=bZ.get ja zb
    rw[b8,vh iL]at Tu
    cases Tu
    have yR:ai.e0 (aL ed) (k:Int)=some (.ref l):=ho (by unfold aL;rw[b8,eL];rfl)
    have S9:ai.e0 (aL qt) (k:Int)=some (.ref qq):=ho (by unfold aL;rw[b8,zb];rfl)
    dsimp only at tt ef
    have qB:=tt.len
    rw[bc]at qB
    have lf:(gz (c7 (lds.map gg) k) (dD hs ds (fR.take i) k++(if k∈cI.2.take j then[stepK hs ds cI.1]else[]))).length≤101:=by
     have:∀(L:List Step)(s:Step),(gz s L).length=L.length:=λL=>by
      induction L with
      |nil=>intro s;rfl
      |cons y r ba=>intro s;show(gz y r).length+1=_;rw[ba y];rfl
     rw[this,ff,aD VZ]
     have ag:=J9 k
     rw[←p1 i fR,Fo,ff]at ag
     show _+0≤101
     omega
    refine⟨_,rfl,_,rfl,eX,_,_,_,rfl,rfl,aR.of fw.lst,yR,.inl ⟨rfl,_,aR.of ar⟩,?_⟩
    refine⟨_,rfl,_,rfl,D0,_,_,_,rfl,rfl,aR.of h0,S9,qq,_,_,_,rfl,rfl,b2.of ef,rfl,_,rfl,_,rfl,D0,_,_,_,rfl,rfl,aR.of h0,S9,qq,_,_,_,rfl,rfl,b2.of ef,rfl,_,rfl,(by show 3≤sizeLine;decide),λt1 dY=>?_⟩
    have qO:=cH (o:=.tup (jO ((eM (c7 (lds.map gg) k) (dD hs ds (fR.take i) k++(if k∈cI.2.take j then[stepK hs ds cI.1]else[]))).1,(eM (c7 (lds.map gg) k) (dD hs ds (fR.take i) k++(if k∈cI.2.take j then[stepK hs ds cI.1]else[]))).2,(stepK hs ds cI.1).left))) dY
    refine⟨l,_,_,rfl,rfl,qO _ _ ar,fh (by rw[fS];omega),?_⟩
    rw[p_]
    have aj5:∀{a:Addr}{o:d4},H a=some o→a≠l:=λ{a o}e z=>by
     have:=(fw.fr l (eI eL)).1
     rw[←z,e]at this
     cases this
    have bX:∀{a:Addr}{o:d4},H a=some o→upd (upd dk t1 (.tup (jO ((eM (c7 (lds.map gg) k) (dD hs ds (fR.take i) k++(if k∈cI.2.take j then[stepK hs ds cI.1]else[]))).1,(eM (c7 (lds.map gg) k) (dD hs ds (fR.take i) k++(if k∈cI.2.take j then[stepK hs ds cI.1]else[]))).2,(stepK hs ds cI.1).left)))) l (.lst (aL (ts++[t1]))) a=some o:=λ{a o}e=>by
     rw[aG (aj5 e)]
     exact qO _ _ (fw.aC _ _ e)
    refine⟨_,rfl,_,rfl,b,_,_,_,rfl,rfl,aR.of (bX U),vy,fM,_,_,_,rfl,rfl,b2.of (bX qs),rfl,_,rfl,_,rfl,_,rfl,b,_,_,_,rfl,rfl,aR.of (bX U),vy,fM,_,_,_,rfl,rfl,b2.of (bX qs),rfl,_,_,rfl,rfl,(by show 2≤sizeLine;decide),λdx eQ=>?_⟩
    have e5:=fw.step ajQ MB eL h0 ja ar tt (st:=stepK hs ds cI.1) dY eQ
    have k4:(λn=>if n=k then(dD hs ds (fR.take i) n++(if n∈cI.2.take j then[stepK hs ds cI.1]else[]))++[stepK hs ds cI.1]else dD hs ds (fR.take i) n++(if n∈cI.2.take j then[stepK hs ds cI.1]else[]))=λn=>dD hs ds (fR.take i) n++(if n∈cI.2.take (j+1)then[stepK hs ds cI.1]else[]):=by
     funext n
     rw[Xy]
     by_cases y:n=k
     .subst y
      rw[aI rfl,aD VZ,aI (el.mpr (.inr (.head _))),jS]
     .rw[aD y]
      have:(n∈cI.2.take j++[k])↔n∈cI.2.take j:=by
       rw[el,e8]
       exact⟨λh=>h.resolve_right y,.inl⟩
      by_cases uF:n∈cI.2.take j
      .rw[aI uF,aI (this.mpr uF)]
      .rw[aD uF,aD λz=>uF (this.mp z)]
    rw[k4]at e5
    have agx:=(fw.fr l (eI eL)).2.1
    have ahX:upd (upd dk t1 (.tup (jO ((eM (c7 (lds.map gg) k) (dD hs ds (fR.take i) k++(if k∈cI.2.take j then[stepK hs ds cI.1]else[]))).1,(eM (c7 (lds.map gg) k) (dD hs ds (fR.take i) k++(if k∈cI.2.take j then[stepK hs ds cI.1]else[]))).2,(stepK hs ds cI.1).left)))) l (.lst (aL (ts++[t1]))) D0=some (.lst (aL qt)):=by
     rw[aG (dG agx)]
     exact qO _ _ h0
    refine⟨_,rfl,_,rfl,D0,aL qt,(k:Int),k,rfl,rfl,cH eQ _ _ ahX,(by have:=fS qt;unfold ai.m4;rw[aI (by omega),aI (by omega),mq]),?_⟩
    refine⟨_,rfl,?_⟩
    have av:(aL qt).set k (.ref dx)=aL (qt.set k dx):=by unfold aL;rw[List.map_set]
    rw[av]
    rw[Dq]at e5
    rw[Dq]
    exact e5
   .rintro σ dk ⟨v4,rfl,fw⟩
    refine⟨_,_,_,_,rfl,?_⟩
    have e:(λn=>dD hs ds (fR.take i) n++(if n∈cI.2.take (cI.2.map λn:Nat=>V.int n).length then[stepK hs ds cI.1]else[]))=λn=>dD hs ds (fR.take (i+1)) n:=by
     funext n
     rw[a5,Fo,bc,ka]
     unfold dD
     by_cases y:n∈cI.2
     .rw[aI y]
      simp[y]
     .rw[aD y]
      simp[y]
    rw[e]at fw
    exact fw
  .rintro σ a7 ⟨v1,v2,gK,v4,rfl,g0⟩
   have ajv:=iy jX
   rw[fS,ajv,ka]at g0
   obtain⟨qt,h0,ja⟩:=g0.here
   refine⟨_,rfl,_,rfl,(by show 2≤sizeLine;decide),λr fL=>?_⟩
   have fw:=g0.same (cH (o:=.lst [V.ref eX,V.ref D0]) fL)
   have jw:=cH (o:=.lst [V.ref eX,V.ref D0]) fL
   exact q r D0 eX _ ed qt fw.aC a4 fw.lst fw.each (jw _ _ h0) (ja.same jw)
end
end fx
namespace cA
open PySem PySem.Spec PyProof.Rows ai PySem.W
section
variable{prog:bT}{w:bJ}{A:c5}{E:Value→ax→Prop}{s:ax}
theorem aaR{a b:Addr}{k' mY fI fJ:Int}{t1 dx qO BF:Tok}{Q:Value→ax→Prop}(ao:IsTup s.heap a #[.int k' t1,.int mY dx])(aT:IsTup s.heap b #[.int fI qO,.int fJ BF])(cf:A.units<cLine)(h:Q (.bool (if k'=fI then decide (fJ≤mY)else decide (fI≤k'))) s):aX (br prog w) A (hv .GtE (.ref a) (.ref b)) Q E s:=by
 obtain⟨akl,Vx,aih,na,aij⟩:=ao
 obtain⟨ob,tG,D8,nb,jG⟩:=aT
 have o5:s.TypeIs (.ref a) "tuple":=⟨akl,Vx,aih⟩
 have dm:s.TypeIs (.ref b) "tuple":=⟨ob,tG,D8⟩
 show aX _ _ (richCompare .GtE (.ref a) (.ref b)) _ _ _
 refine wpAny_richCompare_same_room (op:=.GtE) o5 dm F.slot_tuple_ge (oM F.slot_tuple_ge o5 F.entry_tuple_ge ?_ (F.args_tuple_ge_2 _ _)) cf
 show aX _ _ (LZ (.ref b) (.type "tuple") >>=_) _ _ s
 refine aJ (Ys dm isSubtype_tuple_tuple ?_)
 simp only[PY,uK,if_false]
 refine aJ (amo Vx aij ?_)
 refine aJ (amo tG jG ?_)
 refine aJ ?_
 simp only[List.zip_cons_cons,List.zip_nil_left,List.forIn_cons,List.forIn_nil]
 refine aJ (aJ (Yq ?_))
 by_cases av:k'=fI
 .rw[aI av]at h
  have d6:(k'==fI)=true:=by simp[av]
  rw[d6]
  simp only[PY,uK,if_false]
  refine bM (aJ (aJ (Yq ?_)))
  by_cases ay:mY=fJ
  .have dC:(mY==fJ)=true:=by simp[ay]
   rw[dC]
   simp only[PY,uK,if_false]
   refine bM (bM ?_)
   refine bM ⟨_,rfl,(λz=>nomatch z),?_⟩
   rw[dp (by omega)]at h
   exact h
  .have dC:(mY==fJ)=false:=by simp[ay]
   rw[dC]
   simp only[ZJ,if_true]
   refine aJ (Yw (aJ ?_))
   show aX _ _ (hv .GtE (o6 mY dx) (o6 fJ BF)) _ _ _
   exact ge_int (aJ (bM (bM (bM (bM ⟨_,rfl,(λz=>nomatch z),h⟩)))))
 .rw[aD av]at h
  have d6:(k'==fI)=false:=by simp[av]
  rw[d6]
  simp only[ZJ,if_true]
  refine aJ (Yw (aJ ?_))
  show aX _ _ (hv .GtE (o6 k' t1) (o6 fI qO)) _ _ _
  exact ge_int (aJ (bM (bM (bM (bM ⟨_,rfl,(λz=>nomatch z),h⟩)))))
end
section
variable{X:bw}
theorem acs(cf:X.A.units<cLine):fQ X (hv .GtE) (λx y H Q=>∃a b k' mY fI fJ,x=.ref a∧y=.ref b∧b2 X.K H a [.int k',.int mY]∧b2 X.K H b [.int fI,.int fJ]∧Q (.bo (if k'=fI then decide (fJ≤mY)else decide (fI≤k'))) H):=by
 intro pins s σ H x y v u Q I bt bI h
 obtain⟨a,b,k',mY,fI,fJ,rfl,rfl,aH,U,q⟩:=h
 cases bt
 cases bI
 obtain⟨xs,b6,t1,_⟩:=I.tuple aH
 obtain⟨ys,c8,dx,_⟩:=I.tuple U
 cases b6 with
 |cons eS b6=>
  cases b6 with
  |cons f9 b6=>
   cases b6
   cases c8 with
   |cons bq c8=>
    cases c8 with
    |cons cp c8=>
     cases c8
     obtain⟨_,rfl⟩:=eS
     obtain⟨_,rfl⟩:=f9
     obtain⟨_,rfl⟩:=bq
     obtain⟨_,rfl⟩:=cp
     exact aaR t1 dx cf (fz I q rfl)
end
end cA
namespace fx
open PySem ai cA a'
structure sE(H:ae)(t:Addr)(P:List (fE×List Nat)):Prop where
 ex:∃kvs:c9,H t=some (.cE kvs)∧∀b∈P,∃c,cz kvs [.inl b.1.1,.inl (b.1.2:Int)]=some (.ref c)∧H c=some (.tup (b.2.map λn:Nat=>V.int n))
theorem sE.same{H H':ae}{t:Addr}{P:List (fE×List Nat)}(B:sE H t P)(s:aP H H'):sE H' t P:=by
 obtain⟨kvs,ag,af⟩:=B.ex
 exact⟨kvs,s _ _ ag,λb U=>by obtain⟨c,av,ay⟩:=af b U;exact⟨c,av,s _ _ ay⟩⟩
inductive aeG(vs:(List ai.V))(H:ae)(Q:bk)(bF:cy):Prop where
 |mk (b t eX aO:Addr) (n k N:Nat) (hs:List (List Nat)) (rs ed:List Addr) (ds:List a'.bz) (P:List (fE×List Nat)) (aq:Nat→Step) (h:Str) (s l:Int) (b4:vs=[.ref b,.ref t,.ref eX,.int (n:Int),.ref aO,.int (k:Int)]) (bL:H b=some (.lst (aL rs))) (cG:hp H hs rs ds) (c2:k<ds.length) (dR:sE H t P) (eW:H eX=some (.lst (aL ed))) (h8:bZ (Iq H) ed ((c_ N).map λn=>gz (aq n) (dD hs ds P n))) (jz:H aO=some (.tup (jO (h,s,l)))) (oP:(∀b∈P,∀m∈b.2,m<N)) (xw:(∀m,(dD hs ds P m).length≤100)) (B2:(-(2 ^ 62)≤s∧s<2 ^ 62∧-(2 ^ 62)≤l∧l<2 ^ 62)) (Y1:(∀dX,s≤dX→dX<l→B3 hs ds P aq n k h s dX)) (amJ:(∀m s1 s2 h dX,(h,s1,dX)∈gz (aq m) (dD hs ds P m)→(h,s2,dX)∈gz (aq m) (dD hs ds P m)→s1=s2)) (amK:∀H',aP H H'→Q (.bo true) H')
noncomputable def Ie:cW:=λvs H Q bF=>aeG vs H Q bF
section
variable{P:bT}{w:bJ}{K:a3}{aa:Str→Option Value}{base:Heap}
noncomputable abbrev Bb:Stmt:=top 43
noncomputable abbrev ajR:List Str:=["_law_lines","_law_bags","_law_stays_here","_law_number","_law_stay","_law_road_here","_law_house","_law_since","_law_leave","_law_turn","_law_numbers","_law_n","_law_came"]
noncomputable abbrev Fg:List Str:=["_law_lines","_law_bags","_law_stays_here","_law_number","_law_stay","_law_road_here"]
theorem su:dT ajR Fg (dh Bb):=⟨rfl,rfl,rfl,by decide+kernel,rfl,by decide+kernel,by decide+kernel⟩
seal hj bE gn hT
theorem aeH{f:Addr}{fd:cP}(F:b0 K "_law_full" "_law_full" Bb f fd)(B:g4 aa):aY P w K aa base bu 1 f fd Fg Ie:=by
 refine F.ok su (λvs H Q E h=>?_) (λbC A outer s0 H vs Q E aw h=>?_)
 .obtain⟨b,t,eX,aO,n,k,N,hs,rs,ed,ds,fR,aq,h',s,l,rfl,_⟩:=h
  rfl
 .obtain⟨b,t,eX,aO,n,k,N,hs,rs,ed,ds,fR,aq,h',s,l,rfl,U,R,iL,Cc,qj,each,ai9,mem,cM,⟨d6,dC,kf,nP⟩,full,alY,q⟩:=h
  refine⟨_,(bO (Pw (ah 4) (t4 rfl (fZ (de (i:=6) su.aE rfl (kb rfl)) (fZ (de (i:=7) su.aE rfl (cC rfl)) (fZ (de (i:=8) su.aE rfl (cC rfl)) lP)))))
   (bO (hV hF rfl (γ rfl B.range (aB (ah 7) (aB (ah 8) a8))) (de (i:=9) su.aE rfl (kb rfl))
    (bO (dB (i:=10) su.aE rfl (cC rfl) (ê (hJ aw) (ah 1) (hu (aB (ah 9) (aB (ah 5) a8))) (hu a8) ⟨rfl,rfl,rfl,rfl⟩))
   (bO (f5 (gf rY (gd mE (by rfl) B.len lV (aB (ah 10) a8)) (b9 d2 (b9 gp (ah 0) (ah 5) (λ_ _=>rfl)) bl (λ_ _=>rfl)) (fu _)) (bW (dH jl)) f3)
   (bW (hV hF rfl (Gw (ah 10)) (de (i:=11) su.aE rfl (cC rfl))
    (bO (qg (i:=12) su.aE rfl rfl rfl (N':=["_law_other","_law_house","_law_turn"]) (cs:=[none,some 6,some 9]) rfl (hn (b9 gp (ah 2) (ah 11) (λ_ _=>rfl))) rfl (by decide+kernel) rfl (by decide+kernel) (jj (jT.mpr ⟨rfl,(jT.mpr ⟨rfl,(λp aQ=>bB aQ (eB))⟩)⟩)) rfl
    (.own (.iW rfl (.inl rfl) (.inl rfl) rfl (.iW rfl (.inl rfl) (.inl rfl) rfl .nil)))
    (λC s3 bD cu ey=>⟨(de (i:=0) (by show(["_law_other","_law_house","_law_turn"]:List Str).Nodup;decide+kernel) rfl (.inl rfl)),(tQ (kU.pt (Pu (gf l3 (b9 (n1 (K:=K) rfl) (ah 0) bl (λ_ _=>rfl)) (ah 1) (fu _)) (Qc (gf l3 (b9 (n1 (K:=K) rfl) (ah 0) bl (λ_ _=>rfl)) (ah 2) (fu _)))))),(b9 (n1 (K:=K) rfl) (ah 0) bl (λ_ _=>rfl))⟩))
   (bW (f5 (kU.pt (Cj (gf (acj aw.units) (ah 12) (k7 a8) (fu _)) (F9 (gf (acs (RQ (hJ aw))) (hu (aB (b9 gp (ah 12) bl (λ_ _=>rfl)) (aB (ah 11) a8))) (hu (aB (ah 7) (aB (ah 3) a8))) (fu _))))) (bW (dH jl)) f3))))))))
   (bW (dH jl)))),?_⟩
  refine⟨_,rfl,aO,_,rfl,b2.of ai9,rfl,_,_,rfl,_,_,rfl,_,_,rfl,rfl,?_⟩
  refine⟨_,rfl,_,rfl,s,l,rfl,⟨d6,dC,kf,nP⟩,?_⟩
  refine EP (lo:=s) (n:=(l-s).toNat) (λi σ a7=>aP H a7∧∃(mh v10 v11 sf:Option ai.V),σ=[some (.ref b),some (.ref t),some (.ref eX),some (.int (n:Int)),some (.ref aO),some (.int (k:Int)),some (.str h'),some (.int s),some (.int l),mh,v10,v11,sf]) ⟨aP.refl _,none,none,none,none,rfl⟩ ?_ ?_
  .rintro i σ a7 aj ⟨aC,mh,v10,v11,sf,rfl⟩
   obtain⟨cI,tA,dJ,aA,ms⟩:=full (s+(i:Int)) (by omega) (by omega)
   obtain⟨kvs,cw,aK⟩:=(Cc.same aC).ex
   obtain⟨c,j0,aF⟩:=aK cI tA
   rw[dJ]at j0
   refine⟨_,rfl,t,rfl,.inr ⟨_,.inl cw⟩,_,rfl,_,rfl,(by show 2≤sizeLine;decide),λr fL=>?_⟩
   have jw:=cH (o:=.tup [V.int (s+(i:Int)),V.int (k:Int)]) fL
   have qq:upd a7 r (.tup [V.int (s+(i:Int)),V.int (k:Int)]) r=some (.tup (([.inl (s+(i:Int)),.inl (k:Int)]:List bj).map cQ)):=a4
   have j8:=aC.trans jw
   have VK:=jw _ _ cw
   have U8:=jw _ _ aF
   generalize upd a7 r (.tup [V.int (s+(i:Int)),V.int (k:Int)])=H1 at jw qq j8 VK U8⊢
   refine⟨ea _,λakr MA=>?_⟩
   have s2:=cH (o:=.tup []) MA
   have i':=j8.trans s2
   have n4:=s2 _ _ U8
   have gt:=gP.t (k:=[.inl (s+(i:Int)),.inl (k:Int)]) (s2 _ _ VK) (s2 _ _ qq)
   generalize upd H1 akr (.tup [])=ak at s2 i' n4 gt⊢
   refine⟨_,gt,?_⟩
   rw[j0]
   obtain⟨fM,era⟩:∃fM,rs[k]?=some fM:=⟨_,cg (by rw[R.len];exact iL)⟩
   obtain⟨d,c',qG,qs⟩:=R.get era
   have vy:ai.e0 (aL rs) (k:Int)=some (.ref fM):=ho (by unfold aL;rw[b8,era];rfl)
   have aht:ir ds k=d.m:=by unfold ir;rw[k_ c']
   refine⟨_,rfl,c,_,rfl,.inr (b2.of n4),_,rfl,_,rfl,b,_,_,_,rfl,rfl,aR.of (i' _ _ U),vy,fM,_,_,_,rfl,rfl,b2.of (i' _ _ qs),rfl,rfl,_,rfl,?_⟩
   refine gh (by rw[bc,aA,aht];simp) ?_
   refine⟨_,rfl,c,rfl,⟨_,b2.of n4⟩,?_⟩
   refine OK (K:=K) (a:=c) (xs:=cI.2.map λn:Nat=>V.int n) (λj σ dk=>aP ak dk∧∃(v11 sf:Option ai.V),σ=[some (.ref b),some (.ref t),some (.ref eX),some (.int (n:Int)),some (.ref aO),some (.int (k:Int)),some (.str h'),some (.int s),some (.int l),some (.int (s+(i:Int))),some (.ref c),v11,sf]) ⟨aP.refl _,v11,sf,rfl⟩ (λj σ dk _ h=>b2.of (h.1 _ _ n4)) ?_ ?_
   .rintro j z σ dk cV ⟨cB,v11,sf,rfl⟩
    rw[b8]at cV
    obtain⟨m,em,rfl⟩:=eh.mp cV
    have Wh:=eI em
    obtain⟨s',n9,iG⟩:=ms m Wh
    have mN:=mem cI tA m Wh
    have lx:=i'.trans cB
    have bS:=iy each
    rw[bc,hi]at bS
    obtain⟨lm,eL⟩:∃x,ed[m]?=some x:=⟨_,cg (by omega)⟩
    obtain⟨xk,tp,ts,ar,tt⟩:=bZ.get each eL
    rw[b8,vh mN]at tp
    have tp:gz (aq m) (dD hs ds fR m)=xk:=gT tp
    rw[tp]at n9
    have yR:ai.e0 (aL ed) (m:Int)=some (.ref lm):=ho (by unfold aL;rw[b8,eL];rfl)
    have Wd:=tt.len
    rw[bc]at Wd
    obtain⟨x0,anN⟩:∃x0:Str×Int×Int,x0=(jW,0,0):=⟨_,rfl⟩
    obtain⟨A1,JW⟩:∃A1:Str×Int×Int→Bool,A1=λx=>decide (V.str x.1=V.str h')&&decide (V.int x.2.2=V.int (s+(i:Int))):=⟨_,rfl⟩
    have ajD:=fS ts
    have Av:xk.length≤100:=by
     have:∀(L:List Step)(s:Step),(gz s L).length=L.length:=λL=>by
      induction L with
      |nil=>intro s;rfl
      |cons y r ba=>intro s;show(gz y r).length+1=_;rw[ba y];rfl
     rw[←tp,this]
     exact cM m
    have hZ:=lx _ _ ar
    dsimp only[qQ,sk,gr]
    refine abJ (J:=jc K lm) (H1:=dk) (xs:=aL ts) (rest:=[some (.str h'),some (.int (s+(i:Int)))]) (λkd h=>⟨_,rfl,_,rfl,eX,_,_,_,rfl,rfl,aR.of (lx _ _ qj),yR,lm,rfl,⟨_,aR.of hZ⟩,h⟩) rfl (n0 (aR.of hZ)) (fh (by omega)) (λi=>A1 (xk.getD i x0)) (λi=>V.int (xk.getD i x0).2.1) (λajm v bD kd ev s3 c0=>?_) (λajm v bD kd ev aQ s3 c0=>?_) (λD bD qC cq s3=>?_)
    .unfold aL at ev
     rw[b8]at ev
     obtain⟨cm,JX,rfl⟩:=eh.mp ev
     obtain⟨nA,vK,ei⟩:=bZ.get tt JX
     rw[b8]at vK
     obtain⟨x,ex,rfl⟩:=eh.mp vK
     have ao:=s3 _ _ (lx _ _ ei)
     have k2:=c0 bD (aP.refl _)
     rw[k_ ex,JW]at k2
     dsimp only at k2
     refine⟨_,rfl,cm,_,_,_,rfl,rfl,b2.of ao,rfl,_,rfl,rfl,_,rfl,?_⟩
     by_cases y:V.str x.1=V.str h'
     .refine f6 (dp y) ⟨_,rfl,cm,_,_,_,rfl,rfl,b2.of ao,rfl,_,rfl,rfl,_,rfl,?_⟩
      rw[dp y]at k2
      exact k2
     .refine gh (eF y) ?_
      rw[eF y]at k2
      exact k2
    .unfold aL at ev
     rw[b8]at ev
     obtain⟨cm,JX,rfl⟩:=eh.mp ev
     obtain⟨nA,vK,ei⟩:=bZ.get tt JX
     rw[b8]at vK
     obtain⟨x,ex,rfl⟩:=eh.mp vK
     have ao:=s3 _ _ (lx _ _ ei)
     have k2:=c0 bD (aP.refl _)
     rw[k_ ex]at k2
     exact⟨_,rfl,cm,_,_,_,rfl,rfl,b2.of ao,rfl,k2⟩
    obtain⟨pe,JO⟩:∃pe:List Int,pe=(xk.filter A1).map (·.2.1):=⟨_,rfl⟩
    have Uy:bD D=some (.lst (pe.map V.int)):=by
     rw[cq,ajD,Wd,akJ A1 (λx=>V.int x.2.1) x0 xk,JO,gk]
     rfl
    have cin:∀y∈pe,y=s':=λy aT=>by
     rw[JO]at aT
     obtain⟨x,ao,rfl⟩:=bV.mp aT
     obtain⟨ag,af⟩:=d1.mp ao
     rw[JW]at af
     simp only[kK,decide_eq_true_eq,V.str.injEq,V.int.injEq]at af
     refine alY m _ _ h' (s+(i:Int)) ?_ (by rw[tp];exact n9)
     rw[tp,←af.1,←af.2]
     exact ag
    have p':pe≠[]:=λz=>by
     have:s'∈pe:=by
      rw[JO]
      refine bV.mpr ⟨_,d1.mpr ⟨n9,?_⟩,rfl⟩
      rw[JW]
      simp
     rw[z]at this
     exact bB this eB
    obtain⟨cr,Tq⟩:∃cr,pe=s'::cr:=by
     cases pe with
     |nil=>exact bB rfl p'
     |cons y r=>exact⟨r,by rw[cin y (.head _)]⟩
    refine⟨_,rfl,ea _,λakw ne=>?_⟩
    have fN:=cH (o:=.lst []) ne
    have agq:(Ae pe).canLay0=true:=aaf λx ao=>by obtain⟨y,_,rfl⟩:=bV.mp ao;rfl
    refine⟨Ae pe,.list [],aah (aR.of (fN _ _ Uy)),.lst (aR.of a4) .nil,EM agq (ô _) (by decide),rfl,_,rfl,gh (by rw[Tq];rfl) ?_⟩
    have UM:=fN _ _ Uy
    have r9:=(cB.trans s3).trans fN
    generalize upd bD akw (.lst [])=d0 at fN UM r9⊢
    refine⟨_,rfl,D,_,_,_,rfl,rfl,aR.of UM,(by rw[Tq];exact ho (j:=0) rfl),_,rfl,(by show 2≤sizeLine;decide),λt1 dY=>?_⟩
    have qO:=cH (o:=.tup [V.int s',V.int (m:Int)]) dY
    have g1:upd d0 t1 (.tup [V.int s',V.int (m:Int)]) t1=some (.tup [V.int s',V.int (m:Int)]):=a4
    generalize upd d0 t1 (.tup [V.int s',V.int (m:Int)])=bU at qO g1⊢
    refine⟨_,rfl,_,rfl,(by show 2≤sizeLine;decide),λdx eQ=>?_⟩
    have BF:=cH (o:=.tup [V.int s,V.int (n:Int)]) eQ
    refine⟨t1,dx,s',(m:Int),s,(n:Int),rfl,rfl,b2.of (BF _ _ g1),b2.of a4,_,rfl,gh ?_ ⟨r9.trans (qO.trans BF),_,_,rfl⟩⟩
    rcases iG with y|⟨nB,uF⟩
    .rw[aD (by omega)]
     exact eF (by omega)
    .rw[aI nB]
     exact eF (by omega)
   .rintro σ dk ⟨cB,v11,sf,rfl⟩
    exact⟨i'.trans cB,_,_,_,_,rfl⟩
  .rintro σ a7 ⟨aC,mh,v10,v11,sf,rfl⟩
   exact q a7 aC
unseal hj bE gn hT
end
open PySem ai cA a'
theorem Fp{x:Str×Int×Int}:∀{L:List Step}{s0:Step},x∈gz s0 L→∃y∈L,x.2.2=y.left
 |[],_,h=>nomatch h
 |y::r,s0,h=>by
  rcases fy.mp h with rfl|h
  .exact⟨y,.head _,rfl⟩
  .obtain⟨z,bQ,e⟩:=Fp h
   exact⟨z,.tail _ bQ,e⟩
theorem Y9:∀{L:List Step}{s0:Step},L.Pairwise (λa b=>a.left<b.left)→∀{x y:Str×Int×Int},x∈gz s0 L→y∈gz s0 L→x.2.2=y.2.2→x=y
 |[],_,_,_,_,h,_,_=>nomatch h
 |z::r,s0,i9,x,y,ao,aT,e=>by
  obtain⟨eS,f9⟩:=HK.mp i9
  rcases fy.mp ao with rfl|ao<;>rcases fy.mp aT with rfl|aT
  .rfl
  .obtain⟨u,cf,ay⟩:=Fp aT
   have:=eS u cf
   have e:z.left=y.2.2:=e
   omega
  .obtain⟨u,cf,ay⟩:=Fp ao
   have:=eS u cf
   have e:x.2.2=z.left:=e
   omega
  .exact Y9 f9 ao aT e
section
variable{hs:List (List Nat)}{ds:List a'.bz}{kvs:c9}{gs:List Str}{sss:List (List Step)}{go:List Nat}{rt:Nat→List Nat}{T:Int}
theorem Κ{m:Nat}{n:Nat}:∀y∈dD hs ds (hL hs ds kvs gs m T go sss) n,T<y.left:=λy aT=>by
 unfold dD at aT
 obtain⟨b,U,rfl⟩:=bV.mp aT
 exact(tU _ _ _ _ b (d1.mp U).1).2.1
theorem Y'(R:∀d∈ds,d.Ok hs.length)(dm:iA kvs ds.length):∀(m:Nat)(T:Int)(go:List Nat)(sss:List (List Step))(rt:Nat→List Nat),l7 hs ds kvs gs sss go rt→∀n,(dD hs ds (hL hs ds kvs gs m T go sss) n).Pairwise λa b=>a.left<b.left
 |0,T,go,sss,rt,O,n=>.nil
 |m+1,T,go,sss,rt,O,n=>by
  unfold hL
  by_cases bf:go=[]
  .rw[aI bf]
   exact .nil
  .rw[aD bf,Fo,Ya (O.rx dm).2]
   have ba:=Y' R dm m (nextT T go sss) _ _ _ (O.step (T:=nextT T go sss) R dm) n
   by_cases z:gW ds kvs gs (nextT T go sss) go sss n=true
   .rw[aI z]
    exact HK.mpr ⟨λy aT=>Κ y aT,ba⟩
   .rw[aD z]
    exact ba
theorem Q':∀(m:Nat)(T:Int)(go:List Nat)(sss:List (List Step)),go.Nodup→∀b∈hL hs ds kvs gs m T go sss,b.2.Nodup
 |0,_,_,_,_,b,U=>nomatch U
 |m+1,T,go,sss,aE,b,U=>by
  unfold hL at U
  by_cases bf:go=[]
  .rw[aI bf]at U
   exact bB U eB
  .rw[aD bf]at U
   rcases el.mp U with h|h
   .unfold hX m' at h
    obtain⟨r,_,rfl⟩:=bV.mp h
    exact Rn aE r
   .exact Q' m _ _ _ (aE.filter _) b h
theorem Y_:∀(m:Nat)(T:Int)(go:List Nat)(sss:List (List Step)),((hL hs ds kvs gs m T go sss).map (·.1)).Nodup
 |0,_,_,_=>mu
 |m+1,T,go,sss=>by
  unfold hL
  by_cases bf:go=[]
  .rw[aI bf]
   exact mu
  .rw[aD bf,ek]
   refine oW.mpr ⟨?_,Y_ m _ _ _,λx ao y aT e=>?_⟩
   .unfold hX m'
    rw[gk]
    refine lF.mpr (List.Pairwise.imp (λ{a b}h e=>?_) (HL.filter _))
    have:(nextT T go sss,a)=(nextT T go sss,b):=e
    have:=(yD this).2
    omega
   .obtain⟨b,U,rfl⟩:=bV.mp ao
    obtain⟨aZ,cJ,rfl⟩:=bV.mp aT
    have ag:=(tU _ _ _ _ aZ cJ).2.1
    unfold hX m' at U
    obtain⟨r,_,rfl⟩:=bV.mp U
    have:(hW ds (d7 sss) (d_ kvs gs sss) (nextT T go sss) go r).1.1=aZ.1.1:=by rw[e]
    have:nextT T go sss=aZ.1.1:=this
    omega
theorem Yc(R:∀d∈ds,d.Ok hs.length)(dm:iA kvs ds.length):∀(m:Nat)(T:Int)(go:List Nat)(sss:List (List Step))(rt:Nat→List Nat),l7 hs ds kvs gs sss go rt→∀M:Int,T≤M→(∀n∈go,d7 sss n≤M)→∀b∈hL hs ds kvs gs m T go sss,b.1.1≤M+10*m
 |0,_,_,_,_,_,_,_,_,b,U=>nomatch U
 |m+1,T,go,sss,rt,O,M,fV,hd,b,U=>by
  unfold hL at U
  by_cases bf:go=[]
  .rw[aI bf]at U
   exact bB U eB
  .rw[aD bf]at U
   have bN:=(O.rx dm).2
   have vw:nextT T go sss≤M+1:=by
    obtain⟨n,az,ag⟩:=Fm (T:=T) (sss:=sss) bf
    have aU:=(Gg (ns:=go.map (d7 sss)) (by intro z;rw[RG]at z;exact bf z)).2 (d7 sss n) (bV.mpr ⟨n,az,rfl⟩)
    have:=hd n az
    unfold nextT
    omega
   rcases el.mp U with h|h
   .unfold hX m' at h
    obtain⟨r,_,rfl⟩:=bV.mp h
    show nextT T go sss≤_
    omega
   .have:=Yc R dm m (nextT T go sss) _ _ _ (O.step (T:=nextT T go sss) R dm) (M+10) (by omega) (λn az=>?_) b h
    .omega
    .have j4:=(d1.mp az).1
     have ln:n<sss.length:=by rw[O.len];exact O.lt n j4
     have aq:=wA (hs:=hs) (T:=nextT T go sss) bN ln
     unfold d7
     rw[aq]
     split
     .show nextT T go sss+jv ds (d_ kvs gs sss n)≤_
      have k:=bN n j4
      have:jv ds (d_ kvs gs sss n)≤9:=by
       unfold jv
       rw[show ds.getD (d_ kvs gs sss n) lq=ds[d_ kvs gs sss n] by rw[cY,cg k];rfl]
       exact(R _ (eg k)).t.2
      omega
     .have:=hd n j4
      unfold d7 at this
      omega
theorem aaS(R:∀d∈ds,d.Ok hs.length)(dm:iA kvs ds.length)(cM:hs.length≤12){lds:List (Str×Int×Str)}(Av:lds.length≤100)(hZ:∀d∈lds,d.1∈hs.map S∧d.2.2∈hs.map S∧d.1≠d.2.2∧0≤d.2.1∧d.2.1≤2000000000):
  (∀b∈jt hs ds kvs lds,b.1.2<ds.length∧b.2.Nodup∧(∀n∈b.2,n<lds.length)∧0≤b.1.1∧b.1.1≤2000013000)∧((jt hs ds kvs lds).map (·.1)).Nodup∧(∀n,(dD hs ds (jt hs ds kvs lds) n).length≤100)∧∀n,(dD hs ds (jt hs ds kvs lds) n).Pairwise λa b=>a.left<b.left:=by
 obtain⟨rt,O,cw⟩:=Nn (kvs:=kvs) R dm cM Av λd hd=>⟨(hZ d hd).1,(hZ d hd).2.1,(hZ d hd).2.2.1⟩
 refine⟨λb U=>?_,Y_ _ _ _ _,λn=>?_,Y' R dm 1300 (-1) _ _ rt O⟩
 .obtain⟨ag,af,aU⟩:=tU _ _ _ _ b U
  refine⟨ag,Q' _ _ _ _ O.aE b U,λn az=>iR.mp (d1.mp (aU n az)).1,by omega,?_⟩
  have:=Yc R dm 1300 (-1) _ _ rt O 2000000000 (by decide) (λn az=>?_) b U
  .omega
  .have ar:=iR.mp (d1.mp az).1
   unfold d7 c7
   rw[rv (d:=eb) ar]
   exact(hZ _ (getD_mem' ar)).2.2.2.2
 .have jn:=OC R dm 1300 (-1) _ _ rt O cw n
  have e:(dD hs ds (jt hs ds kvs lds) n).length=(gone (jt hs ds kvs lds) n).length:=by unfold dD gone;rw[bc,bc]
  rw[e]
  have jn:gone (jt hs ds kvs lds) n=_:=jn
  rw[jn]
  split
  .have:=O.cM n
   omega
  .exact ea _
end
end fx
namespace cA
open PySem PySem.Spec PyProof.Rows ai
section
variable{X:bw}{K:a3}(fk:X.K=K)
include fk
end
open PySem PySem.Spec PyProof.Rows ai
section
variable{X:bw}{pos:Pos}
inductive ac1(K:a3)(n:Nat)(t:lJ)(v:ai.V)(σ:ai.St)(H:ae)(Q:(ai.St→ae→Prop)):Prop where
 |mk (a:_) (xs:_) (b4:v=.ref a) (bL:aR K H a xs) (cG:xs.length=n) (c2:t xs σ H Q)
noncomputable def aeI(K:a3)(n:Nat)(t:lJ):ic:=λv σ H Q=>ac1 K n t v σ H Q
theorem aaP{es:List Expr}{k:Nat}{t:lJ}{n:Nat}(aF:X.calm=true)(h:vn X es t)(az:(p9 es X.env).length=n:=by rfl)(kr:(p9 es X.env).findIdx? (·.1)=none:=by rfl):nM X (.Tuple es k pos) (aeI X.K n t):=by
 intro pins s σ H v u Q I r hw
 obtain⟨a,xs,av,bg,ar,hw⟩:=hw
 subst av
 cases r
 obtain⟨its,b7,p,bQ⟩:=I.list bg
 rw[assign_Tuple]
 refine aJ (BM ?_)
 unfold unpack
 have e:n=its.toArray.size:=by rw[←ar,b7.length];simp
 rw[az,kr,e]
 refine aJ (jQ (PySem.W.kun_itemsOf (I.ok.hd aF) p.isList λh' ao=>?_))
 have aS:Inv X pins σ H {s with heap:=h'}:=I.kept (t':=s.toks) λb o e=>ao b o (en (du e)) e
 exact h pins _ σ H xs _ Q aS (by simpa using b7) hw
end
end cA
namespace fx
open PySem ai cA a'
theorem ĝ{H:ae}{ts:List Addr}{rs:List Row}(di:dn H ts (rs.map mc)):∃gS,e3 V.bR (h3 (rs.map oF)) (aL ts)=aL gS∧dn H gS ((BZ rs).map mc):=by
 have ln:(aL ts).length=rs.length:=by
  have:=di.len
  rw[bc]at this
  rw[fS,this]
 unfold e3 BZ Hq
 rw[ln]
 have all:∀is:List Nat,(∀i∈is,i<rs.length)→∃gS,(is.map λi=>(aL ts).getD i .bR)=aL gS∧dn H gS ((is.map λi=>rs.getD i r0).map mc):=λis=>by
  induction is with
  |nil=>intro _;exact⟨[],rfl,.nil⟩
  |cons i q ba=>
   intro aj
   obtain⟨gS,av,Oq⟩:=ba λj aN=>aj j (.tail _ aN)
   have lt:=aj i (.head _)
   have Mp:i<ts.length:=by rw[fS]at ln;omega
   have ay:ts[i]?=some ts[i]:=cg Mp
   obtain⟨y,ag,af⟩:=bZ.get di ay
   rw[b8,cg lt]at ag
   cases ag
   refine⟨ts[i]::gS,?_,.cons ?_ Oq⟩
   .rw[fX,av]
    show(aL ts).getD i .bR::aL gS=V.ref ts[i]::aL gS
    congr 1
    show((aL ts)[i]?).getD .bR=_
    unfold aL
    rw[b8,ay]
    rfl
   .show H ts[i]=some (d4.tup (mc (rs.getD i r0)))
    rw[show rs.getD i r0=rs[i] by rw[cY,cg lt];rfl]
    exact af
 exact all _ λi aj=>wq aj
theorem Λ{κ:Type}[DecidableEq κ]{l lb:List (κ×ai.V)}(p:l.Perm lb)(aE:(l.map (·.1)).Nodup)(k:κ):cz l k=cz lb k:=by
 have MN:(lb.map (·.1)).Nodup:=(p.map _).nodup_iff.mp aE
 cases e:cz l k with
 |some v=>
  obtain⟨ck,ag,af⟩:=eh.mp e
  have aU:=RI ag
  have bP:=Ry ag
  obtain⟨j,aN,ay⟩:=jd (p.mem_iff.mp aU)
  have cv:ck=(k,v):=by
   obtain⟨a,b⟩:=ck
   have:a=k:=jM bP
   rw[this,←af]
  exact(Pn MN (by rw[cg aN,ay,cv])).symm
 |none=>
  cases b5:cz lb k with
  |none=>rfl
  |some v=>
   obtain⟨ck,ag,af⟩:=eh.mp b5
   have aU:=RI ag
   have bP:ck.1=k:=jM (Ry (p:=λck:κ×ai.V=>decide (ck.1=k)) ag)
   exact bB (bV.mpr ⟨ck,p.mem_iff.mpr aU,bP⟩) (YY e)
theorem Ğ{rs:List Row}(aE:(rs.map λr=>(r.1,r.2.1)).Nodup):((dU rs).map (·.1)).Nodup:=by
 unfold dU
 rw[gk]
 refine lF.mpr ((lF.mp aE).imp λ{a b}h z=>h ?_)
 have z:([.inr a.1,.inr a.2.1]:List bj)=[.inr b.1,.inr b.2.1]:=z
 simp at z
 rw[z.1,z.2]
theorem ğ{rs:List Row}(aE:(rs.map λr=>(r.1,r.2.1)).Nodup):(rs.map oF).Nodup:=by
 refine lF.mpr ((lF.mp aE).imp λ{a b}h z=>h ?_)
 unfold oF at z
 simp at z
 rw[z.1,z.2.1]
theorem ZX{rs qK:List Row}(p:rs.Perm qK)(aE:(rs.map λr=>(r.1,r.2.1)).Nodup)(h g:Str):hK (dU rs) h g=hK (dU qK) h g:=by
 have e:cz (dU rs) (dM h g)=cz (dU qK) (dM h g):=Λ (p.map _) (Ğ aE) (dM h g)
 unfold hK
 rw[e]
theorem XK{kvs hM:c9}(e:∀h g,hK kvs h g=hK hM h g)(hs:List (List Nat))(ds:List a'.bz)(g:Str):∀(n:Nat)(h:Str),md kvs hs ds g n h=md hM hs ds g n h
 |0,_=>rfl
 |n+1,h=>by
  unfold md
  rw[e]
  split
  .rfl
  .cases hK hM h g with
   |none=>rfl
   |some k=>exact XK e hs ds g n _
theorem Μ{rs:List Row}(aE:(rs.map λr=>(r.1,r.2.1)).Nodup){i:Nat}{r:Row}(e:rs[i]?=some r):ec (dU (rs.take i)) (dM r.1 r.2.1) (.int r.2.2)=dU (rs.take (i+1)):=by
 have a5:rs.take (i+1)=rs.take i++[r]:=by rw[kR,e];rfl
 rw[a5]
 have ew:(rs.take (i+1)).map (λr=>(r.1,r.2.1)) |>.Nodup:=by
  rw[vj]
  exact aE.sublist (oX _ _)
 rw[a5,ek]at ew
 have al4:cz (dU (rs.take i)) (dM r.1 r.2.1)=none:=by
  cases z:cz (dU (rs.take i)) (dM r.1 r.2.1)with
  |none=>rfl
  |some v=>
   have:=fx.OO z
   unfold dU at this
   rw[gk]at this
   obtain⟨q,bg,eq⟩:=bV.mp this
   have eq:([.inr q.1,.inr q.2.1]:List bj)=[.inr r.1,.inr r.2.1]:=eq
   simp at eq
   have:=(oW.mp ew).2.2 (q.1,q.2.1) (bV.mpr ⟨q,bg,rfl⟩) (r.1,r.2.1) (by simp)
   exact bB (by rw[eq.1,eq.2]) this
 rw[wm _ al4]
 unfold dU
 rw[ek]
 rfl
theorem ī{L:List Str}:∀{ps:List (Str×Str)},ps.Nodup→(∀p∈ps,p.1∈L∧p.2∈L)→ps.length≤L.length*L.length:=λ{ps}aE h=>by
 have sub:ps ⊆ L.flatMap λa=>L.map λb=>(a,b):=λp aQ=>by
  obtain⟨ag,af⟩:=h p aQ
  exact HJ.mpr ⟨p.1,ag,bV.mpr ⟨p.2,af,rfl⟩⟩
 have:=pg aE sub
 rw[ŋ]at this
 have e:(L.map λa=>(L.map λb=>(a,b)).length)=L.map λ_=>L.length:=sS λa _=>bc ..
 rw[e]at this
 have s:∀(M:List Str),((M.map λ_=>L.length).sum)=M.length*L.length:=λM=>by
  induction M with
  |nil=>simp
  |cons a r ba=>rw[fX,mv,ba,hS,aax];omega
 rw[s]at this
 exact this
theorem oJ.cM{hs:List (List Nat)}{ds:List a'.bz}{rs:List Row}(cM:hs.length≤12)(aE:(rs.map λr=>(r.1,r.2.1)).Nodup)(ok:∀r∈rs,Se hs ds r):rs.length≤144:=by
 have:=ī (L:=hs.map S) aE λp aQ=>by
  obtain⟨r,aw,rfl⟩:=bV.mp aQ
  exact⟨(ok r aw).h,(ok r aw).g⟩
 rw[bc,bc]at this
 exact gm this (aau cM cM)
theorem QA{hs:List (List Nat)}{ds:List a'.bz}{kvs:c9}{gs:List Str}:∀(m:Nat)(T:Int)(go:List Nat)(sss:List (List Step)),(hL hs ds kvs gs m T go sss).length≤m*ds.length
 |0,_,_,_=>ea _
 |m+1,T,go,sss=>by
  unfold hL
  by_cases bf:go=[]
  .rw[aI bf]
   exact ea _
  .rw[aD bf,ff]
   have ag:=QA (hs:=hs) (ds:=ds) (kvs:=kvs) (gs:=gs) m (nextT T go sss) (j2 gs go (d8 hs ds kvs gs (nextT T go sss) go sss)) (d8 hs ds kvs gs (nextT T go sss) go sss)
   have af:(hX ds kvs gs (nextT T go sss) go sss).length≤ds.length:=by
    unfold hX m' px
    rw[bc]
    exact gm (nH _ _) (by rw[hi];exact b1 _)
   rw[aax]
   omega
theorem aaQ{hs:List (List Nat)}{ds:List a'.bz}{P:List (fE×List Nat)}(R:∀d∈ds,d.Ok hs.length)(fH:∀b∈P,b.1.2<ds.length∧0≤b.1.1∧b.1.1≤2000013000){s0:Step}(h0:0≤s0.due∧s0.due≤2000000000){n:Nat}{h:Str}{s l:Int}(m:(h,s,l)∈gz s0 (dD hs ds P n)):
  -(2 ^ 62)≤s∧s<2 ^ 62∧-(2 ^ 62)≤l∧l<2 ^ 62:=by
 have at_:∀y∈dD hs ds P n,0≤y.left∧y.left≤2000013000∧0≤y.due∧y.due≤2000013009:=λy aT=>by
  obtain⟨b,U,rfl⟩:=bV.mp aT
  obtain⟨ag,af,aU⟩:=fH b (d1.mp U).1
  have e:ds.getD b.1.2 lq=ds[b.1.2]:=by rw[cY,cg ag];rfl
  have bP:=(R _ (eg ag)).t
  have av:(stepK hs ds b.1).left=b.1.1:=rfl
  have ay:(stepK hs ds b.1).due=b.1.1+jv ds b.1.2:=rfl
  unfold jv at ay
  rw[e]at ay
  rw[av,ay]
  omega
 obtain⟨y,aT,eL⟩:=Fp m
 have eL:l=y.left:=eL
 have ar:=at_ y aT
 have rJ:0≤s∧s≤2000013009:=by
  rcases EW m with⟨_,e⟩|⟨y,aT,_,e⟩
  .have e:s=s0.due:=e
   omega
  .have e:s=y.due:=e
   have:=at_ y aT
   omega
 omega
theorem sE.put{H:ae}{t c:Addr}{kvs:c9}{P:List (fE×List Nat)}{b:fE×List Nat}(cw:H t=some (.cE kvs))(h:∀b∈P,∃c,cz kvs [.inl b.1.1,.inl (b.1.2:Int)]=some (.ref c)∧H c=some (.tup (b.2.map λn:Nat=>V.int n)))(aF:H c=some (.tup (b.2.map λn:Nat=>V.int n)))(nb:b.1∉P.map (·.1)):
  ∀aZ∈P++[b],∃gq,cz (ec kvs [.inl b.1.1,.inl (b.1.2:Int)] (.ref c)) [.inl aZ.1.1,.inl (aZ.1.2:Int)]=some (.ref gq)∧upd H t (.cE (ec kvs [.inl b.1.1,.inl (b.1.2:Int)] (.ref c))) gq=some (.tup (aZ.2.map λn:Nat=>V.int n)):=λaZ cJ=>by
 rcases el.mp cJ with U|U
 .obtain⟨gq,av,ay⟩:=h aZ U
  refine⟨gq,?_,by rw[aG (λz=>by rw[z,cw]at ay;cases ay)];exact ay⟩
  rw[tO,aD]
  .exact av
  .intro z
   simp at z
   exact nb (bV.mpr ⟨aZ,U,vp z.1 (by have:=z.2;omega)⟩)
 .rw[e8.mp U]
  exact⟨c,by rw[tO,aI rfl],by rw[aG (λz=>by rw[z,cw]at aF;cases aF)];exact aF⟩
section
variable{P:bT}{w:bJ}{K:a3}{aa:Str→Option Value}{base:Heap}
noncomputable def ajG(hs:List (List Nat))(d:a'.Lt):Str×Int×Str:=(S (hs.getD d.a []),d.t,S (hs.getD d.b []))
theorem Ro{wi:TI}{cs:List (Option Nat)}{tt:TT}{bY:TE}{σ rest:ai.St}{H:ae}{Q:bk}{D0:Addr}{ts:List Addr}{dd:List (Str×Int×Str)}(hw:∀R:e7→ae→Prop,R (jc K D0) H→wi σ H R)(gx:gO cs σ=none::none::none::rest)(h0:H D0=some (.lst (aL ts)))(di:dn H ts (dd.map jJ))(ar:ts.length<sizeLine)(p:Str×Int×Str→Bool)(f:Str×Int×Str→Str×Int×Str)(test:∀d∈dd,∀(ak:ae)(R:Bool→ae→Prop),aP H ak→R (p d) ak→tt (some (.str d.1)::some (.int d.2.1)::some (.str d.2.2)::rest) ak R)(elt:∀d∈dd,∀(ak:ae)(R:bk),aP H ak→(∀r,ak r=none→R (.ref r) (upd ak r (.tup (jJ (f d)))))→bY (some (.str d.1)::some (.int d.2.1)::some (.str d.2.2)::rest) ak R)(fin:∀(D:Addr)(H':ae)(rs:List Addr),H' D=some (.lst (aL rs))→dn H' rs (((dd.filter p).map f).map jJ)→aP H H'→Q (.ref D) H'):
  kI wi cs (uG K 3 (m7 (gr 0) (m7 (gr 1) (m7 (gr 2) uP)))) tt bY σ H Q:=by
 refine hw _ λD cq=>?_
 have cS:=di.len
 rw[bc]at cS
 refine⟨λi m ys a6 H'=>m=ts.length-i∧i≤ts.length∧(∃rs,ys=aL rs∧dn H' rs ((((dd.take i).filter p).map f).map jJ))∧(∃i8 pM E9,a6=i8::pM::E9::rest)∧aP H H'∧H' D=some (.lst ys),⟨ts.length,by simp,ea _,⟨[],rfl,.nil⟩,⟨none,none,none,gx⟩,cH cq,a4⟩,?_⟩
 rintro i m ys a6 H' ⟨rfl,aj,⟨rs,rfl,BE⟩,⟨i8,pM,E9,rfl⟩,aC,et⟩
 obtain⟨fP,fD,hO⟩:=n0 (aR.of h0) H' aC
 rw[fS]at fP fD hO
 have ln:=BE.len
 rw[bc,bc]at ln
 have lf:=nH p (dd.take i)
 rw[gb]at lf
 refine⟨et,lG (by rw[fS];omega) ar,?_⟩
 by_cases bN:i<ts.length
 .refine .inr ⟨fD i bN,λx ak y=>?_⟩
  obtain⟨rfl,ex⟩:=hO i x ak bN y
  unfold aL at ex
  rw[b8]at ex
  obtain⟨r,dK,rfl⟩:=eh.mp ex
  obtain⟨anL,Ts,aim⟩:=bZ.get di dK
  rw[b8]at Ts
  obtain⟨d,za,rfl⟩:=eh.mp Ts
  have Vd:=eI za
  have a5:dd.take (i+1)=dd.take i++[d]:=by rw[kR,za];rfl
  refine⟨r,_,rfl,b2.of (aC _ _ aim),rfl,_,_,rfl,_,_,rfl,_,_,rfl,rfl,?_⟩
  refine test d Vd ak _ aC ?_
  by_cases aQ:p d=true
  .refine f6 aQ (elt d Vd ak _ aC λq WK=>?_)
   have s5:=cH (o:=.tup (jJ (f d))) WK
   have cZ:=s5 _ _ et
   refine⟨cZ,ts.length-(i+1),by omega,rfl,bN,⟨rs++[q],p_ rs q,?_⟩,⟨_,_,_,rfl⟩,hH cq (aC.trans s5),a4⟩
   rw[a5,lE,ek,ek]
   have av:ļ p [d]=[d]:=by simp[aQ]
   rw[av]
   exact dn.upd (Paired.snoc (F:=λr d=>(upd ak q (.tup (jJ (f _)))) r=some (.tup d)) a4 (BE.same s5)) cZ (by intro d z;cases z)
  .refine gh (by simpa using aQ) ⟨ts.length-(i+1),by omega,rfl,bN,⟨rs,rfl,?_⟩,⟨_,_,_,rfl⟩,aC,et⟩
   rw[a5,lE]
   have av:ļ p [d]=[]:=by simp[aQ]
   rw[av,jS]
   exact BE
 .have e:i=ts.length:=by omega
  subst e
  rw[cS,ka]at BE
  exact .inl ⟨fP,fin D H' rs et BE aC⟩
noncomputable abbrev ac5:List Str:=["_law_script","_law_names","_law_base","_law_lines","_law_letters","_law_net","_law_table_here","_law_told","_law_house","_law_goal","_law_road_here","_law_plan","_law_bags","_law_bag","_law_stays_here","_law_here","_law_number","_law_letter_here","_law_stay"]
noncomputable abbrev u9:Stmt:=top 45
theorem ij:dT ac5 ["_law_script"] (dh u9):=⟨rfl,rfl,rfl,by decide+kernel,rfl,by decide+kernel,by decide+kernel⟩
structure h2(hs:List (List Nat))(d:Str×Int×Str):Prop where
 a:d.1∈hs.map S
 b:d.2.2∈hs.map S
 ne:d.1≠d.2.2
 lo:0≤d.2.1
 aj:d.2.1≤2000000000
seal hj bE gn hT
theorem ac6{C eT bA f gN T_ fB Ug tr Uk cu fr fs J' T':Addr}{fd zC T2 T3 T4 zD T8 T6 T7 rr T1 TZ:cP}(F:b0 K "law" "law" u9 f fd)(B:g4 aa)(cx:oh K eT)(GX:aa "Net"=some (.ref bA))(g9:dS K aa "_law_cell_at" xe ["_law_script","_law_k"] gN zC)(rl:aY P w K aa base bu 1 gN zC ["_law_script","_law_k"] (CP K))(zf:dS K aa "_law_houses" AJ ["_law_cell","_law_many"] T_ T2)(alS:aY P w K aa base bu 1 T_ T2 ["_law_cell","_law_many"] Nu)(Ac:dS K aa "_law_road" ye ["_law_cell","_law_names"] fB T3)(amO:aY P w K aa base bu 1 fB T3 ["_law_cell","_law_names"] Hp)(zg:dS K aa "_law_letter" BP ["_law_cell","_law_names","_law_base"] Ug T4)(alT:aY P w K aa base bu 1 Ug T4 ["_law_cell","_law_names","_law_base"] GO)(Gq:oY K bA tr)(M5:sL K bA "Net.__init__" BV ["self","houses","roads"] tr zD)(M6:aY P w K aa base bu 5 tr zD ["self","houses","roads"] (GN K bA))(zH:dS K aa "_law_table" Bk ["_law_net","_law_names","_law_lines","_law_script"] Uk T8)(amt:aY P w K aa base bu 5 Uk T8 ["_law_net","_law_names","_law_lines","_law_script"] (H_ K eT bA))(Eo:eD K eT "pairs" "Ways.pairs" Bf ["self"] cu T6)(amu:aY P w K aa base bu 1 cu T6 ["self"] (Hw eT))(B4:dS K aa "run" yi ["net","letters","ways"] fr T7)(Hy:aY P w K aa base bu 6 fr T7 ["net","letters","ways"] (Hv C eT bA))(zI:dS K aa "_law_stays" Bj ["_law_lines","_law_letters","_law_plan"] fs rr)(amv:aY P w K aa base bu 1 fs rr ["_law_lines","_law_letters","_law_plan"] Ic)(y4:dS K aa "_law_has_route" Bd ["_law_lines","_law_told","_law_house","_law_goal"] J' T1)(akF:aY P w K aa base bu 1 J' T1 ["_law_lines","_law_told","_law_house","_law_goal"] Ia)(Ad:dS K aa "_law_full" Bb Fg T' TZ)(amP:aY P w K aa base bu 1 T' TZ Fg Ie):
  aY P w K aa base bu 8 f fd ["_law_script"] (Cp K):=by
 have jY:=cx.cl
 refine F.ok ij (λvs H Q E h=>?_) (λbC A outer s H vs Q E aw h=>?_)
 .obtain⟨a,ns,rfl,_⟩:=h
  rfl
 .obtain⟨a,ns,rfl,f7,K_,q⟩:=h
  obtain⟨m,hm⟩:∃m:Nat,2+ns.getD (1:Int).toNat 0%11=(m:Int):=⟨(2+ns.getD (1:Int).toNat 0%11).toNat,by omega⟩
  have Vt:2≤m∧m≤12:=by omega
  obtain⟨hs,JS⟩:∃hs,hs=qu (ns.getD (0:Int).toNat 0) m:=⟨_,rfl⟩
  have G:Good hs:=by rw[JS];exact ama Vt.2
  have ar:hs.length=m:=by rw[JS,Mh]
  refine⟨_,(bO (dB (i:=1) ij.aE rfl (kb rfl) (fT alS (aw.mono (by decide)) (by rfl) zf.at_ zf.fn.cN zf.bd .nil dI (aB (fT rl (aw.mono (by decide)) (by rfl) g9.at_ g9.fn.cN g9.bd .nil dI (aB (ah 0) (aB bl a8))) (aB (cK ie bl (cK ht (fT rl (aw.mono (by decide)) (by rfl) g9.at_ g9.fn.cN g9.bd .nil dI (aB (ah 0) (aB bl a8))) bl)) a8))))
   (bO (dB (i:=2) ij.aE rfl (kb rfl) (cK ht (fT rl (aw.mono (by decide)) (by rfl) g9.at_ g9.fn.cN g9.bd .nil dI (aB (ah 0) (aB bl a8))) (cK Gx (cK QC bl bl) bl)))
   (bO (qg (i:=3) ij.aE rfl rfl rfl (N':=["_law_cell","_law_names"]) (cs:=[none,some 1]) rfl (hn (Yd (ah 0) (AP bl) (AP bl) bl)) rfl (by decide+kernel) rfl (by decide+kernel) (jj (jT.mpr ⟨rfl,(λp aQ=>bB aQ (eB))⟩)) rfl
    (.own (.iW rfl (.inl rfl) (.inl rfl) rfl .nil))
    (λC s3 bD cu ey=>⟨(de (i:=0) (by show(["_law_cell","_law_names"]:List Str).Nodup;decide+kernel) rfl (.inl rfl)),nZ,(fT amO (aw.mono (by decide)) (by rfl) Ac.at_ Ac.fn.cN Ac.bd .nil dI (aB (ah 0) (aB (ah 1) a8)))⟩))
   (bO (dB (i:=4) ij.aE rfl (kb rfl) (qE (N':=["_law_cell","_law_names","_law_base"]) (cs:=[none,some 1,some 2]) rfl (hn (Yd (ah 0) (AP bl) (AP bl) bl)) rfl (by decide+kernel) rfl (by decide+kernel) (jj (jT.mpr ⟨rfl,(jT.mpr ⟨rfl,(λp aQ=>bB aQ (eB))⟩)⟩)) rfl
    (.own (.iW rfl (.inl rfl) (.inl rfl) rfl (.iW rfl (.inl rfl) (.inl rfl) rfl .nil)))
    (λC s3 bD cu ey=>⟨(de (i:=0) (by show(["_law_cell","_law_names","_law_base"]:List Str).Nodup;decide+kernel) rfl (.inl rfl)),nZ,(fT alT (aw.mono (by decide)) (by rfl) zg.at_ zg.fn.cN zg.bd .nil dI (aB (ah 0) (aB (ah 1) (aB (ah 2) a8))))⟩)))
   (bO (f5 (gf l3 (cK ht (cK lQ (fT rl (aw.mono (by decide)) (by rfl) g9.at_ g9.fn.cN g9.bd .nil dI (aB (ah 0) (aB bl a8))) bl) bl) bl (fu _)) (bW (dB (i:=4) ij.aE rfl (kb rfl) (qE (N':=["_law_house","_law_turn","_law_goal","_law_base"]) (cs:=[none,none,none,some 2]) rfl (hn (ah 4)) rfl (by decide+kernel) rfl (by decide+kernel) (jj (jT.mpr ⟨rfl,(λp aQ=>bB aQ (eB))⟩)) rfl
    (.own (.own (.own (.iW rfl (.inl rfl) (.inl rfl) rfl .nil))))
    (λC s3 bD cu ey=>⟨(wJ (K:=K) (n:=3) rfl rfl (fZ (de (i:=0) (by show(["_law_house","_law_turn","_law_goal","_law_base"]:List Str).Nodup;decide+kernel) rfl (.inl rfl)) (fZ (de (i:=1) (by show(["_law_house","_law_turn","_law_goal","_law_base"]:List Str).Nodup;decide+kernel) rfl (.inl rfl)) (fZ (de (i:=2) (by show(["_law_house","_law_turn","_law_goal","_law_base"]:List Str).Nodup;decide+kernel) rfl (.inl rfl)) lP)))),nZ,(hu (aB (ah 0) (aB (ah 3) (aB (ah 2) a8))))⟩)))) f3)
   (bO (f5 (gf l3 (cK ht (cK lQ (fT rl (aw.mono (by decide)) (by rfl) g9.at_ g9.fn.cN g9.bd .nil dI (aB (ah 0) (aB bl a8))) bl) bl) bl (fu _)) (bW (dB (i:=4) ij.aE rfl (kb rfl) (qE (N':=["_law_house","_law_turn","_law_goal","_law_letters"]) (cs:=[none,none,none,some 4]) rfl (hn (ah 4)) rfl (by decide+kernel) rfl (by decide+kernel) (jj (jT.mpr ⟨rfl,(λp aQ=>bB aQ (eB))⟩)) rfl
    (.own (.own (.own (.iW rfl (.inl rfl) (.inl rfl) rfl .nil))))
    (λC s3 bD cu ey=>⟨(wJ (K:=K) (n:=3) rfl rfl (fZ (de (i:=0) (by show(["_law_house","_law_turn","_law_goal","_law_letters"]:List Str).Nodup;decide+kernel) rfl (.inl rfl)) (fZ (de (i:=1) (by show(["_law_house","_law_turn","_law_goal","_law_letters"]:List Str).Nodup;decide+kernel) rfl (.inl rfl)) (fZ (de (i:=2) (by show(["_law_house","_law_turn","_law_goal","_law_letters"]:List Str).Nodup;decide+kernel) rfl (.inl rfl)) lP)))),(tQ (gf rY (ah 2) (b9 (n1 (K:=K) rfl) (b9 (E' (K:=K) rfl) (ah 3) bl (λ_ _=>rfl)) bl (λ_ _=>rfl)) (fu _))),(hu (aB (b9 (n1 (K:=K) rfl) (b9 (E' (K:=K) rfl) (ah 3) bl (λ_ _=>rfl)) bl (λ_ _=>rfl)) (aB (ah 1) (aB (ah 2) a8))))⟩)))) f3)
   (bO (dB (i:=5) ij.aE rfl (cC rfl) (FK Gq M6 (aw.mono (by decide)) (by rfl) GX M5.bd .nil dI (aB (ah 1) (aB (ah 3) a8))))
   (bO (dB (i:=6) ij.aE rfl (cC rfl) (fT amt (aw.mono (by decide)) (by rfl) zH.at_ zH.fn.cN zH.bd .nil dI (aB (ah 5) (aB (ah 1) (aB (ah 3) (aB (ah 0) a8))))))
   (bO (dB (i:=7) ij.aE rfl (cC rfl) NT)
   (bO (hV hF rfl (hn (Ax (ah 6) jY Eo.gI amu (aw.mono (by decide)) Eo.bd .nil dI)) (t4 rfl (fZ (de (i:=8) ij.aE rfl (cC rfl)) (fZ (de (i:=9) ij.aE rfl (cC rfl)) (fZ (de (i:=10) ij.aE rfl (cC rfl)) lP))))
    (bW (AO (hJ aw) (ah 7) (hu (aB (ah 8) (aB (ah 9) a8))) (ah 10) rfl)))
   (bO (dB (i:=11) ij.aE rfl (cC rfl) (fT Hy (aw.mono (by decide)) (by rfl) B4.at_ B4.fn.cN B4.bd .nil dI (aB (ah 5) (aB (ah 4) (aB (ah 6) a8)))))
   (bO (dB (i:=12) ij.aE rfl (cC rfl) NT)
   (bO (hV hF rfl (hn (ah 11)) (de (i:=13) ij.aE rfl (cC rfl))
    (bW (AO (hJ aw) (ah 12) (hu (aB (b9 d2 (ah 13) bl (λ_ _=>rfl)) (aB (b9 d2 (ah 13) bl (λ_ _=>rfl)) a8))) (b9 d2 (ah 13) bl (λ_ _=>rfl)) rfl)))
   (bO (Pw (fT amv (aw.mono (by decide)) (by rfl) zI.at_ zI.fn.cN zI.bd .nil dI (aB (ah 3) (aB (ah 4) (aB (ah 11) a8)))) (aaP rfl (fZ (de (i:=14) ij.aE rfl (cC rfl)) (fZ (de (i:=15) ij.aE rfl (cC rfl)) lP))))
   (bO (hV hF rfl (AV rfl B.enumerate (aB (ah 4) a8)) (t4 rfl (fZ (de (i:=16) ij.aE rfl (cC rfl)) (fZ (de (i:=17) ij.aE rfl (cC rfl)) lP)))
    (bW (f5 (mZ (fT akF (aw.mono (by decide)) (by rfl) y4.at_ y4.fn.cN y4.bd .nil dI (aB (ah 3) (aB (ah 7) (aB (b9 d2 (ah 17) bl (λ_ _=>rfl)) (aB (b9 d2 (ah 17) bl (λ_ _=>rfl)) a8)))))) (bO (f5 (gf rY (b9 d2 (b9 gp (ah 15) (ah 16) (λ_ _=>rfl)) bl (λ_ _=>rfl)) (b9 d2 (ah 17) bl (λ_ _=>rfl)) (fu _)) (bW (dH jl)) f3)
   (bW (hV hF rfl (hn (b9 gp (ah 14) (ah 16) (λ_ _=>rfl))) (de (i:=18) ij.aE rfl (cC rfl))
    (bW (f5 (pC (mZ (fT amP (aw.mono (by decide)) (by rfl) Ad.at_ Ad.fn.cN Ad.bd .nil dI (aB (ah 3) (aB (ah 12) (aB (ah 14) (aB (ah 16) (aB (ah 18) (aB (pw (hJ aw) (ah 7) (hu (aB (b9 d2 (ah 18) bl (λ_ _=>rfl)) (aB (b9 d2 (ah 17) bl (λ_ _=>rfl)) a8))) (λ_ _=>rfl)) a8))))))))) (bW (dH jl)) f3))))) f3)))
   (bW (dH jl))))))))))))))))),?_⟩
  refine⟨_,rfl,a,ns,0,rfl,f7,by decide,_,rfl,a,ns,1,rfl,f7,by decide,_,_,rfl,rfl,(by show(0:Int)<11;decide),_,_,rfl,rfl,ns.getD (0:Int).toNat 0,m,?_,Vt.2,λeS H1 MT s1 ag=>?_⟩
  .show[V.int _,V.int (2+ns.getD (1:Int).toNat 0%11)]=_
   rw[hm]
  rw[←JS]at ag
  have v8:=s1.seq f7
  refine⟨_,rfl,a,ns,2,rfl,v8,by decide,_,_,rfl,rfl,⟨by decide,by decide,by decide⟩,_,_,rfl,rfl,_,_,rfl,rfl,(by show(0:Int)<10 ^ (9:Int).toNat - 29;decide),?_⟩
  have U1:0≤ns.getD (2:Int).toNat 0%(10 ^ (9:Int).toNat - 29):=jR _ (by decide)
  have i2:ns.getD (2:Int).toNat 0%(10 ^ (9:Int).toNat - 29)<10 ^ (9:Int).toNat - 29:=j_ _ (by decide)
  have hY:ns.getD (2:Int).toNat 0%(10 ^ (9:Int).toNat - 29)<1000000000:=Int.lt_trans i2 (by decide)
  dsimp only
  generalize ns.getD (2:Int).toNat 0%(10 ^ (9:Int).toNat - 29)=bs at U1 hY⊢
  clear i2
  obtain⟨eR,Tz⟩:∃eR,eR=kH ns (some 3) (some 65) 2:=⟨_,rfl⟩
  have ajC:eR.length≤31:=by rw[Tz];exact XI ns 3 65
  obtain⟨ds,iX⟩:∃ds:List a'.bz,ds=eR.map λc=>EV hs.length c:=⟨_,rfl⟩
  have D_:∀d∈ds,d.Ok hs.length:=λd hd=>by
   rw[iX]at hd
   obtain⟨c,_,rfl⟩:=bV.mp hd
   exact acG (by omega) c
  have V8:ds.length≤31:=by rw[iX,bc];exact ajC
  dsimp only[qQ,sk,gr]
  refine YI (K:=K) (Hs:=H1) (xs:=eR.map V.int) (rest:=[some (.ref eS)]) (λR cL=>⟨_,rfl,_,rfl,_,rfl,a,_,_,rfl,rfl,(by decide),v8,λp np=>⟨p,rfl,⟨_,aR.of a4⟩,?_⟩⟩) rfl (fh (by rw[bc];omega)) (λv=>match v with|.int c=>ow hs (EV hs.length c)|_=>[]) (λi y ak R dV aC c0=>?_) (λh9 ak rs Uz di hc=>?_)
  .have:=cL p np
   rw[Tz]at this
   rw[XH]
   exact this
  .obtain⟨c,_,rfl⟩:=bV.mp (eI dV)
   exact⟨_,rfl,_,rfl,c,eS,hs,rfl,aC _ _ ag,by omega,by omega,λc8 AM=>c0 c8 _ (cH AM) a4⟩
  have BA:dn ak rs (ds.map (ow hs)):=by
   rw[iX,gk]
   rw[gk]at di
   exact di
  have cL:hp ak hs rs ds:=⟨BA,D_⟩
  have cM:rs.length≤31:=by rw[cL.len];exact V8
  have zQ:=hc.seq v8
  have v5:=hc _ _ ag
  clear di BA v8 ag s1 hc MT
  obtain⟨tY,Tx⟩:∃tY,tY=kH ns (some 4) (some 66) 2:=⟨_,rfl⟩
  have ajB:tY.length≤31:=by rw[Tx];exact XI ns 4 66
  obtain⟨qB,Dm⟩:∃qB:List (Str×Int×Str),qB=tY.map λc=>ajG hs (lt hs.length c bs):=⟨_,rfl⟩
  have M9:∀d∈qB,h2 hs d:=λd hd=>by
   rw[Dm]at hd
   obtain⟨c,_,rfl⟩:=bV.mp hd
   have ok:=adO (n:=hs.length) (by omega) c bs
   have av:hs.getD (lt hs.length c bs).a []=hs[(lt hs.length c bs).a]'ok.a:=by rw[cY,cg ok.a];rfl
   have ay:hs.getD (lt hs.length c bs).b []=hs[(lt hs.length c bs).b]'ok.b:=by rw[cY,cg ok.b];rfl
   refine⟨oa ok.a,oa ok.b,λz=>?_,?_,?_⟩
   .have z:S (hs.getD (lt hs.length c bs).a [])=S (hs.getD (lt hs.length c bs).b []):=z
    have z:=Hk z
    rw[av,ay]at z
    exact ok.ne ((vi G.aE).mp z)
   .have:=ok.lo
    show 0≤(lt hs.length c bs).t
    omega
   .have:=ok.aj
    show(lt hs.length c bs).t≤2000000000
    omega
  have Mm:qB.length≤31:=by rw[Dm,bc];exact ajB
  refine YI (K:=K) (Hs:=ak) (xs:=tY.map V.int) (rest:=[some (.ref eS),some (.int bs)]) (λR cL=>⟨_,rfl,_,rfl,_,rfl,a,_,_,rfl,rfl,(by decide),zQ,λp np=>⟨p,rfl,⟨_,aR.of a4⟩,?_⟩⟩) rfl (fh (by rw[bc];omega)) (λv=>match v with|.int c=>ltV hs (lt hs.length c bs)|_=>[]) (λi y bD R dV aC c0=>?_) (λG7 bD EK D1 di A8=>?_)
  .have:=cL p np
   rw[Tx]at this
   rw[XH]
   exact this
  .obtain⟨c,_,rfl⟩:=bV.mp (eI dV)
   exact⟨_,rfl,_,rfl,_,rfl,c,bs,eS,hs,rfl,aC _ _ v5,by omega,by omega,λc8 AM=>c0 c8 _ (cH AM) a4⟩
  have oH:dn bD EK (qB.map jJ):=by
   rw[Dm,gk]
   rw[gk]at di
   exact di
  have rP:EK.length=qB.length:=by have:=oH.len;rw[bc]at this;exact this
  have zR:=A8.seq zQ
  have Ut:=A8 _ _ v5
  have UD:=A8 _ _ Uz
  have zN:=cL.same A8
  clear di zQ v5 Uz cL A8
  refine OX (t:=CE _ _ _) (λeA=>∀(pV:Addr)(lC:ae)(fK:List Addr)(lds:List (Str×Int×Str)),aP bD lC→lC pV=some (.lst (aL fK))→dn lC fK (lds.map jJ)→(∀d∈lds,h2 hs d)→lds.length≤31→eA.b' [some (.ref a),some (.ref eS),some (.int bs),some (.ref h9),some (.ref pV),none,none,none,none,none,none,none,none,none,none,none,none,none,none] lC) ?_ λeA rest=>?_
  rotate_left
  .refine⟨_,rfl,a,ns,2,rfl,zR,by decide,_,_,rfl,rfl,⟨by decide,by decide⟩,_,_,rfl,rfl,(by show(0:Int)<3;decide),rfl,_,rfl,?_⟩
   by_cases z:ns.getD (2:Int).toNat 0/7%3=1
   .refine f6 (dp (eK V.int z)) ?_
    refine Ro (K:=K) (D0:=G7) (rest:=[some (.int bs)]) (λR h=>⟨_,rfl,G7,rfl,⟨_,aR.of D1⟩,h⟩) rfl D1 oH (fh (by omega)) (λ_=>true) (λd=>(d.1,bs,d.2.2)) (λd hd ak R s2 k=>k) (λd hd ak R s2 k=>⟨_,rfl,_,rfl,_,rfl,(by show 3≤sizeLine;decide),λr fL=>k r fL⟩) (λj9 eO Mn rC uy NQ=>rest j9 eO Mn _ NQ rC uy (λd hd=>?_) ?_)
    .obtain⟨c,aF,rfl⟩:=bV.mp hd
     have aF:=M9 c (d1.mp aF).1
     exact⟨aF.a,aF.b,aF.ne,U1,by show bs≤_;omega⟩
    .rw[bc]
     exact gm (nH _ _) Mm
   .refine gh (eF λy=>z (V.int.inj y)) (rest G7 bD EK qB (aP.refl _) D1 oH M9 Mm)
  intro pV d0 rQ pE A9 qk BB Fc Ml
  have Wb:=BB.len
  rw[bc]at Wb
  have Kw:=A9.seq zR
  have Uu:=A9 _ _ Ut
  have UE:=A9 _ _ UD
  have UT:=zN.same A9
  clear A9 zR Ut UD zN oH D1 M9 Mm Dm rP
  dsimp only[qQ]
  refine OX (t:=CE _ _ _) (λeA=>∀(j9:Addr)(lC:ae)(fK:List Addr)(lds:List (Str×Int×Str)),aP d0 lC→lC j9=some (.lst (aL fK))→dn lC fK (lds.map jJ)→(∀d∈lds,h2 hs d)→lds.length≤31→eA.b' [some (.ref a),some (.ref eS),some (.int bs),some (.ref h9),some (.ref j9),none,none,none,none,none,none,none,none,none,none,none,none,none,none] lC) ?_ λeA rest=>?_
  rotate_left
  .refine⟨_,rfl,a,ns,0,rfl,Kw,by decide,_,_,rfl,rfl,⟨by decide,by decide⟩,_,_,rfl,rfl,(by show(0:Int)<2;decide),rfl,_,rfl,?_⟩
   by_cases z:ns.getD (0:Int).toNat 0/7%2=1
   .refine f6 (dp (eK V.int z)) ?_
    have first:∀d∈pE,∃r,ai.e0 (aL rQ) 0=some (.ref r)∧d0 r=some (.tup (jJ (pE.getD 0 eb))):=λd hd=>by
     have wF:0<pE.length:=RD hd
     have av:rQ[0]?=some rQ[0]:=cg (by omega)
     obtain⟨d',ay,cv⟩:=bZ.get BB av
     rw[b8,cg wF]at ay
     cases ay
     refine⟨rQ[0],(ho (show(aL rQ)[0]?=some (.ref rQ[0]) by unfold aL;rw[b8,av];rfl):ai.e0 (aL rQ) ((0:Nat):Int)=_),?_⟩
     rw[k_ (cg wF)]
     exact cv
    have ajK:∀d∈pE,pE.getD 0 eb∈pE:=λd hd=>getD_mem' (RD hd)
    refine Ro (K:=K) (D0:=pV) (rest:=[some (.ref pV)]) (λR h=>⟨_,rfl,pV,rfl,⟨_,aR.of qk⟩,h⟩) rfl qk BB (fh (by omega)) (λd=>!decide (V.str d.2.2=V.str (pE.getD 0 eb).1)) (λd=>((pE.getD 0 eb).1,d.2.1,d.2.2)) (λd hd bU R s5 k=>?_) (λd hd bU R s5 k=>?_) (λj9 eO Mn rC uy NQ=>rest j9 eO Mn _ NQ rC uy (λd hd=>?_) ?_)
    .obtain⟨r,av,ay⟩:=first d hd
     exact⟨_,rfl,_,rfl,pV,_,_,_,rfl,rfl,aR.of (s5 _ _ qk),av,r,_,_,_,rfl,rfl,b2.of (s5 _ _ ay),rfl,rfl,_,rfl,k⟩
    .obtain⟨r,av,ay⟩:=first d hd
     exact⟨_,rfl,pV,_,_,_,rfl,rfl,aR.of (s5 _ _ qk),av,r,_,_,_,rfl,rfl,b2.of (s5 _ _ ay),rfl,_,rfl,_,rfl,(by show 3≤sizeLine;decide),λr fL=>k r fL⟩
    .obtain⟨c,aF,rfl⟩:=bV.mp hd
     obtain⟨aF,aQ⟩:=d1.mp aF
     have ag:=Fc c aF
     have af:=Fc _ (ajK c aF)
     refine⟨af.a,ag.b,λz=>?_,ag.lo,ag.aj⟩
     have z:(pE.getD 0 eb).1=c.2.2:=z
     rw[z]at aQ
     simp at aQ
    .rw[bc]
     exact gm (nH _ _) Ml
   .refine gh (eF λy=>z (V.int.inj y)) (rest pV d0 rQ pE (aP.refl _) qk BB Fc Ml)
  intro j9 eO fK lds A' rC uy lj aoh
  have rP:=uy.len
  rw[bc]at rP
  have zS:=A'.seq Kw
  have rA:=A' _ _ Uu
  have Km:=A' _ _ UE
  have ql:=UT.same A'
  clear A' Kw Uu UE UT BB qk Fc Ml Wb
  refine⟨_,rfl,_,rfl,λx au b' qD aE=>?_⟩
  have mk:∀{b:Addr}{v:d4},eO b=some v→upd (upd eO au (.own x)) x (.ins bA au []) b=some v:=λ{b v}e=>by
   rw[aG (dg e b'),aG (dg e qD)]
   exact e
  refine⟨x,au,eS,h9,hs,rs,ds,rfl,a4,mk rA,G,mk Km,ql.same (λb v e=>mk e),(by omega),λh_ bx aZ bX Ab UZ U2 na nb=>⟨rfl,?_⟩⟩
  have pP:aP eO h_:=XX b' qD bX
  have i7:ku bA h_ x bx aZ (dr hs) (aL rs):=⟨⟨au,Ab⟩,UZ,U2⟩
  have Kn:=pP _ _ Km
  have UJ:=pP _ _ rC
  have XB:=uy.same pP
  have Ku:=ql.same pP
  have Uv:=pP _ _ rA
  have UX:=pP.seq zS
  clear mk zS rA Km rC uy ql bX b' qD aE pP Ab UZ U2 na nb
  refine⟨_,rfl,_,rfl,_,rfl,_,rfl,x,eS,h9,a,bx,aZ,hs,rs,ds,ns,rfl,i7,Uv,Kn,UX,G,Ku,(by omega),λy t vb kvs MX eG A_ W X=>?_⟩
  obtain⟨rws,ahC,NL,W8⟩:=X.rows
  subst ahC
  have akR:=oJ.cM (by omega) NL W8
  obtain⟨dm,sC⟩:=X.ok
  have UG:=A_ _ _ Kn
  have UK:=A_ _ _ UJ
  have XC:=XB.same A_
  have UU:=Ku.same A_
  clear UX Uv Kn UJ XB Ku A_ MX eG i7
  refineλdQ AN=>?_
  have FO:=cH (o:=.cE []) AN
  have Oe:upd vb dQ (.cE []) dQ=some (.cE []):=a4
  generalize upd vb dQ (.cE [])=am6 at FO Oe⊢
  have Iz:=W.same FO
  obtain⟨y6,aT⟩:=Iz.ins
  obtain⟨nr,J0⟩:∃nr,nr=BZ rws:=⟨_,rfl⟩
  have sp:nr.Perm rws:=by rw[J0];exact Z6 rws
  have snd:(nr.map λr=>(r.1,r.2.1)).Nodup:=(sp.map _).nodup_iff.mpr NL
  have jg:oJ hs ds (dU nr):=⟨nr,rfl,snd,λr aw=>W8 r (sp.mem_iff.mp aw)⟩
  have O_:∀h g,hK (dU nr) h g=hK (dU rws) h g:=ZX sp snd
  have aoC:nr.length≤144:=by rw[sp.length_eq];exact akR
  refine⟨_,rfl,y,y6,_,rfl,aT,rfl,y,y6,x,t,rws,rfl,aT,Iz.told,ğ NL,by omega,λl Ì ts nl NN ar XD=>?_⟩
  obtain⟨gS,Dr,F3⟩:=ĝ XD
  rw[Dr]at ar
  rw[←J0]at F3
  have FY:=NN _ _ Oe
  have W':=FO.trans NN
  have Ow:=F3.len
  rw[bc]at Ow
  clear Dr XD FO NN Iz aT nl Oe
  refine⟨l,rfl,⟨_,aR.of ar⟩,?_⟩
  have t_:l≠dQ:=λz=>by rw[z,FY]at ar;cases ar
  refine nV (K:=K) (xs:=aL gS) (λi σ a7=>∃v1 v2 gK,σ=[some (.ref a),some (.ref eS),some (.int bs),some (.ref h9),some (.ref j9),some (.ref x),some (.ref y),some (.ref dQ),v1,v2,gK,none,none,none,none,none,none,none,none]∧(∀b v,b≠dQ→Ì b=some v→a7 b=some v)∧a7 dQ=some (.cE (dU (nr.take i)))) ⟨none,none,none,rfl,λ_ _ _ e=>e,FY⟩ (λi σ a7 _⟨_,_,_,_,cN,_⟩=>aR.of (cN _ _ t_ ar)) ?_ ?_
  .rintro i z σ a7 cV ⟨v1,v2,gK,rfl,cN,we⟩
   unfold aL at cV
   rw[b8]at cV
   obtain⟨r,dK,rfl⟩:=eh.mp cV
   obtain⟨b7,TG,lZ⟩:=bZ.get F3 dK
   rw[b8]at TG
   obtain⟨c4,ahG,rfl⟩:=eh.mp TG
   have ai6:a7 r=some (.tup (mc c4)):=cN r _ (λz=>by rw[z,FY]at lZ;cases lZ) lZ
   refine⟨r,_,rfl,b2.of ai6,rfl,_,_,rfl,_,_,rfl,_,_,rfl,rfl,?_⟩
   refine⟨_,rfl,_,rfl,_,rfl,_,rfl,(by show 2≤sizeLine;decide),λb nb=>?_⟩
   have t6:dQ≠b:=dg we nb
   refine⟨dQ,_,rfl,oA.t (k:=dM c4.1 c4.2.1) (by rw[aG t6];exact we) a4 (fh (by unfold dU;rw[bc,gb];omega)),_,_,_,rfl,λaZ v cJ e=>?_,?_⟩
   .rw[aG cJ,aG (dg (cN aZ v cJ e) nb)]
    exact cN aZ v cJ e
   .rw[a4,Μ snd ahG]
  rintro σ Í ⟨v1,v2,gK,rfl,cN,we⟩
  rw[fS,Ow,ka]at we
  have hc:aP vb Í:=λb v e=>cN b v (dg e AN) (W' _ _ e)
  have S4:=W.same hc
  have UA:=hc _ _ UG
  have Ko:=hc _ _ UK
  have Ot:=XC.same hc
  have Kr:=UU.same hc
  clear hc cN F3 FY ar W' t_ UG UK XC UU W AN Ow J0
  have hZ:∀d∈lds,d.1∈hs.map S∧d.2.2∈hs.map S∧d.1≠d.2.2:=λd hd=>⟨(lj d hd).a,(lj d hd).b,(lj d hd).ne⟩
  have VG:hs.length≤12:=by omega
  obtain⟨g0,fw,e5,qV⟩:=aaS (kvs:=dU rws) D_ dm VG (lds:=lds) (by omega) λd hd=>⟨(lj d hd).a,(lj d hd).b,(lj d hd).ne,(lj d hd).lo,(lj d hd).aj⟩
  refine⟨_,rfl,_,rfl,_,rfl,x,j9,y,t,bx,aZ,hs,rs,fK,ds,dU rws,lds,rfl,Ko,Ot,(by omega),S4,G,Kr,dm,hZ,λpl Hb as rV oy fm jX=>?_⟩
  have WX:(jt hs ds (dU rws) lds).length≤40300:=gm (QA _ _ _ _) (by have:=Nat.mul_le_mul_left 1300 V8;omega)
  have Us:=λn az aw=>ZW D_ X dm sC VG (lds:=lds) (by omega) (λd hd=>⟨(lj d hd).a,(lj d hd).b,(lj d hd).ne,(lj d hd).lo⟩) (n:=n) az aw
  generalize jt hs ds (dU rws) lds=fR at jX g0 fw e5 qV WX Us
  have aku:=iy jX
  have UB:=oy _ _ UA
  have UH:=oy _ _ Ko
  have XA:=Ot.same oy
  have UR:=Kr.same oy
  have VM:=oy _ _ we
  clear UA Ko Ot Kr we S4 oy rV
  refineλbd MM=>?_
  have FP:=cH (o:=.cE []) MM
  have Jv:upd Hb bd (.cE []) bd=some (.cE []):=a4
  generalize upd Hb bd (.cE [])=am7 at FP Jv⊢
  refine⟨_,rfl,pl,rfl,⟨_,aR.of (FP _ _ fm)⟩,?_⟩
  refine nV (K:=K) (xs:=aL as) (λi σ a7=>∃BG,σ=[some (.ref a),some (.ref eS),some (.int bs),some (.ref h9),some (.ref j9),some (.ref x),some (.ref y),some (.ref dQ),v1,v2,gK,some (.ref pl),some (.ref bd),BG,none,none,none,none,none]∧aP Hb a7∧∃m5:c9,a7 bd=some (.cE m5)∧m5.length≤i∧∀b∈fR.take i,∃c,cz m5 [.inl b.1.1,.inl (b.1.2:Int)]=some (.ref c)∧a7 c=some (.tup (b.2.map λn:Nat=>V.int n))) ⟨none,rfl,FP,[],Jv,b1 _,λ_ h=>by cases h⟩ (λi σ a7 _⟨_,_,aC,_⟩=>aR.of (aC _ _ fm)) ?_ ?_
  .rintro i z σ a7 cV ⟨BG,rfl,aC,m5,rG,lk,at_⟩
   unfold aL at cV
   rw[b8]at cV
   obtain⟨iU,vI,rfl⟩:=eh.mp cV
   obtain⟨cI,y',c,i2,hY⟩:=bZ.get jX vI
   have a5:fR.take (i+1)=fR.take i++[cI]:=by rw[kR,y'];rfl
   have aiB:=(fW.mp y').1
   have pL:cI.1∉(fR.take i).map (·.1):=λz=>by
    have ew:((fR.take (i+1)).map (·.1)).Nodup:=by
     rw[vj]
     exact fw.sublist (oX _ _)
    rw[a5,ek]at ew
    exact(oW.mp ew).2.2 _ z cI.1 (by simp) rfl
   have KG:=aC _ _ i2
   refine⟨_,rfl,iU,_,_,_,rfl,rfl,b2.of KG,rfl,_,rfl,_,rfl,iU,_,_,_,rfl,rfl,b2.of KG,rfl,_,rfl,iU,_,_,_,rfl,rfl,b2.of KG,rfl,(by show 2≤sizeLine;decide),λb nb=>?_⟩
   have bX:=cH (o:=.tup [V.int cI.1.1,V.int (cI.1.2:Int)]) nb
   have tA:upd a7 b (.tup [V.int cI.1.1,V.int (cI.1.2:Int)]) b=some (.tup (([.inl cI.1.1,.inl (cI.1.2:Int)]:List bj).map cQ)):=a4
   have N8:=aC.trans bX
   have K6:=bX _ _ rG
   have n4:=N8 _ _ hY
   have at2:∀aZ∈fR.take i,∃c,cz m5 [.inl aZ.1.1,.inl (aZ.1.2:Int)]=some (.ref c)∧upd a7 b (.tup [V.int cI.1.1,V.int (cI.1.2:Int)]) c=some (.tup (aZ.2.map λn:Nat=>V.int n)):=λaZ cJ=>by
    obtain⟨c,av,ay⟩:=at_ aZ cJ
    exact⟨c,av,bX _ _ ay⟩
   generalize upd a7 b (.tup [V.int cI.1.1,V.int (cI.1.2:Int)])=dk at bX tA N8 K6 n4 at2⊢
   refine⟨bd,_,rfl,oA.t K6 tA (lG (gm lk (gm (sW aiB) WX)) (by decide)),_,rfl,hH MM N8,_,a4,?_,?_⟩
   .have:=vS m5 ([.inl cI.1.1,.inl (cI.1.2:Int)]:List bj) (.ref c)
    omega
   .rw[a5]
    exact sE.put K6 at2 n4 pL
  rintro σ QF ⟨BG,rfl,r8,m5,rG,_,at_⟩
  rw[fS,aku,ka]at at_
  have Cc:sE QF bd fR:=⟨m5,rG,at_⟩
  clear rG at_ Jv FP
  have Kl:=r8 _ _ UB
  have Kp:=r8 _ _ UH
  have Ou:=XA.same r8
  have Ks:=UR.same r8
  have VN:=r8 _ _ VM
  have Vz:=r8 _ _ fm
  have S':bZ (iZ QF) as fR:=bZ.jL jX λ_ _ e=>e.same r8
  clear UB UH XA UR VM fm jX r8 MM
  refine⟨_,rfl,_,rfl,_,rfl,h9,j9,pl,hs,rs,fK,as,ds,lds,fR,rfl,Kl,Ks,Kp,Ou,(by omega),Vz,S',λb U=>⟨(g0 b U).1,(g0 b U).2.1,(g0 b U).2.2.1⟩,e5,λr D0 eX Hc ed gX uk VD qj gn zM SO=>?_⟩
  refine⟨r,_,rfl,aR.of VD,rfl,_,_,rfl,_,_,rfl,rfl,?_⟩
  have UC:=uk _ _ Kl
  have UI:=uk _ _ Kp
  have alH:=Ou.same uk
  have US:=Ks.same uk
  have VO:=uk _ _ VN
  have Zw:=Cc.same uk
  clear Kl Kp Ou Ks VN Vz S' Cc VD uk
  have SQ:=jg.ok.1
  have yR:∀{i:Nat}{v:ai.V},(aL fK)[i]?=some v→∃(r:Addr)(d:Str×Int×Str),v=.ref r∧lds[i]?=some d∧Hc r=some (.tup (jJ d)):=λ{i v}ev=>by
   unfold aL at ev
   rw[b8]at ev
   obtain⟨r,dK,rfl⟩:=eh.mp ev
   obtain⟨d',mK,kq⟩:=bZ.get alH dK
   rw[b8]at mK
   obtain⟨d,c',rfl⟩:=eh.mp mK
   exact⟨r,d,rfl,c',kq⟩
  refine⟨_,rfl,j9,rfl,⟨_,aR.of UI⟩,?_⟩
  refine Om (K:=K) (a:=j9) (xs:=aL fK) (λi σ a7=>∃OD OE sg,σ=[some (.ref a),some (.ref eS),some (.int bs),some (.ref h9),some (.ref j9),some (.ref x),some (.ref y),some (.ref dQ),v1,v2,gK,some (.ref pl),some (.ref bd),BG,some (.ref eX),some (.ref D0),OD,OE,sg]∧aP Hc a7) ⟨none,none,none,rfl,aP.refl _⟩ (λi σ a7⟨_,_,_,_,aC⟩=>aR.of (aC _ _ UI)) ?_ ?_
  rotate_left
  .rintro σ a7 ⟨OD,OE,sg,rfl,aC⟩
   exact q _
  rintro n z σ a7 p cV ⟨OD,OE,sg,rfl,aC⟩ np
  obtain⟨r,d,rfl,c',hd⟩:=yR cV
  have sp:=cH (o:=.tup [V.int (n:Int),V.ref r]) np
  refine⟨p,_,rfl,b2.of a4,rfl,_,_,rfl,_,_,rfl,rfl,?_⟩
  have aC:=aC.trans sp
  generalize upd a7 p (.tup [V.int (n:Int),V.ref r])=dk at aC sp⊢
  have KZ:=aC _ _ hd
  have nl:=(fW.mp c').1
  refine⟨_,rfl,_,rfl,_,rfl,r,_,_,_,rfl,rfl,b2.of KZ,rfl,_,rfl,r,_,_,_,rfl,rfl,b2.of KZ,rfl,h9,dQ,hs,rs,ds,dU nr,d.1,d.2.2,rfl,aC _ _ UC,aC _ _ VO,US.same aC,SQ,λkO fN=>?_⟩
  refine⟨_,rfl,?_⟩
  by_cases n2:md (dU nr) hs ds d.2.2 13 d.1=true
  .refine f6 n2 ?_
   have ah4:md (dU rws) hs ds (lds.getD n eb).2.2 13 (lds.getD n eb).1=true:=by
    rw[k_ c',←XK O_]
    exact n2
   obtain⟨fP,fD⟩:=Us n nl ah4
   rw[k_ c']at fP fD
   have r9:=aC.trans fN
   have aik:=fN _ _ KZ
   have aly:=SO.len
   rw[bc,hi]at aly
   have akA:=iy gn
   rw[bc,hi]at akA
   have W7:(c_ lds.length)[n]?=some n:=by rw[cg (by rw[hi];exact nl),yr]
   obtain⟨aw,zb⟩:∃aw,gX[n]?=some aw:=⟨_,cg (by omega)⟩
   obtain⟨bG,Tv,aiz⟩:=bZ.get SO zb
   rw[b8,W7]at Tv
   cases Tv
   obtain⟨bS,TH⟩:∃bS,ed[n]?=some bS:=⟨_,cg (by omega)⟩
   obtain⟨aoE,TK,alf,VH,alJ⟩:=bZ.get gn TH
   rw[b8,W7]at TK
   cases TK
   have afy:ai.e0 (aL gX) (n:Int)=some (.ref aw):=ho (by unfold aL;rw[b8,zb];rfl)
   have afz:ai.e0 (aL ed) (n:Int)=some (.ref bS):=ho (by unfold aL;rw[b8,TH];rfl)
   refine⟨_,rfl,_,rfl,D0,_,_,_,rfl,rfl,aR.of (r9 _ _ zM),afy,aw,_,_,_,rfl,rfl,b2.of (r9 _ _ aiz),rfl,_,rfl,r,_,_,_,rfl,rfl,b2.of aik,rfl,rfl,_,rfl,?_⟩
   refine gh (by rw[fP];simp) ?_
   refine⟨_,rfl,_,rfl,eX,_,_,_,rfl,rfl,aR.of (r9 _ _ qj),afz,bS,rfl,⟨_,aR.of (r9 _ _ VH)⟩,?_⟩
   refine nV (K:=K) (xs:=aL alf) (λj σ nF=>∃sg,σ=[some (.ref a),some (.ref eS),some (.int bs),some (.ref h9),some (.ref j9),some (.ref x),some (.ref y),some (.ref dQ),v1,v2,gK,some (.ref pl),some (.ref bd),BG,some (.ref eX),some (.ref D0),some (.int (n:Int)),some (.ref r),sg]∧aP Hc nF) ⟨sg,rfl,r9⟩ (λj σ nF _⟨_,_,s⟩=>aR.of (s _ _ VH)) ?_ ?_
   .rintro j z σ nF cV ⟨sg,rfl,Bo⟩
    unfold aL at cV
    rw[b8]at cV
    obtain⟨aO,ahI,rfl⟩:=eh.mp cV
    obtain⟨aoI,TL,VT⟩:=bZ.get alJ ahI
    rw[b8]at TL
    obtain⟨⟨h',s',lb⟩,ex,rfl⟩:=eh.mp TL
    have YG:=eI ex
    obtain⟨k,iO,iL,full⟩:=fD h' s' lb YG
    have al3:cz (dU nr) (dM h' d.2.2)=some (.int (k:Int)):=by
     rcases SQ.get h' d.2.2 with⟨_,e⟩|⟨i,av,ay,_⟩
     .rw[O_,iO]at e
      cases e
     .rw[O_,iO]at ay
      cases ay
      exact av
    refine⟨_,rfl,_,rfl,_,rfl,_,rfl,_,rfl,_,rfl,_,rfl,aO,_,_,_,rfl,rfl,b2.of (Bo _ _ VT),rfl,_,rfl,r,_,_,_,rfl,rfl,b2.of (Bo _ _ hd),rfl,(by show 2≤sizeLine;decide),λb nb=>?_⟩
    have bX:=cH (o:=.tup [V.str h',V.str d.2.2]) nb
    have U:upd nF b (.tup [V.str h',V.str d.2.2]) b=some (.tup ((dM h' d.2.2).map cQ)):=a4
    have df:=Bo.trans bX
    generalize upd nF b (.tup [V.str h',V.str d.2.2])=QO at bX U df⊢
    have Tg:=gP.t (df _ _ VO) U
    rw[al3]at Tg
    refine⟨dQ,_,rfl,Tg,h9,bd,eX,aO,n,k,lds.length,hs,rs,ed,ds,fR,c7 (lds.map gg),h',s',lb,rfl,df _ _ UC,US.same df,iL,Zw.same df,df _ _ qj,bZ.jL gn (λ_ _ e=>?_),df _ _ VT,λb U=>(g0 b U).2.2.1,e5,?_,full,λm s1 s2 h dX ag af=>?_,λH' mf=>⟨_,rfl,gh rfl ⟨_,rfl,df.trans mf⟩⟩⟩
    .obtain⟨ts,av,ay⟩:=e
     exact⟨ts,df _ _ av,ay.same df⟩
    .refine aaQ D_ (λb U=>⟨(g0 b U).1,(g0 b U).2.2.2⟩) ?_ YG
     unfold c7
     rw[rv (d:=eb) nl]
     exact⟨(lj _ (getD_mem' nl)).lo,(lj _ (getD_mem' nl)).aj⟩
    .have:=Y9 (qV m) ag af rfl
     exact(yD (yD this).2).1
   .rintro σ nF ⟨sg,rfl,Bo⟩
    exact⟨_,_,_,rfl,Bo⟩
  .refine gh (by simpa using n2) ⟨_,_,_,rfl,aC.trans fN⟩
unseal hj bE gn hT
end
end fx
namespace cA
open PySem PySem.Spec PyProof.Rows ai
end cA
namespace fx
open PySem ai cA a'
theorem r4{us:List Value}(h:us.length=1):∃a0,us=[a0]:=by
 rcases us with _|⟨a0,_|⟨b,r⟩⟩
 .simp at h
 .exact⟨a0,rfl⟩
 .simp at h
theorem i1{us:List Value}(h:us.length=2):∃a0 a1,us=[a0,a1]:=by
 rcases us with _|⟨a0,_|⟨a1,_|⟨b,r⟩⟩⟩
 .simp at h
 .simp at h
 .exact⟨a0,a1,rfl⟩
 .simp at h
theorem m_{us:List Value}(h:us.length=3):∃a0 a1 a2,us=[a0,a1,a2]:=by
 rcases us with _|⟨a0,_|⟨a1,_|⟨a2,_|⟨b,r⟩⟩⟩⟩
 .simp at h
 .simp at h
 .simp at h
 .exact⟨a0,a1,a2,rfl⟩
 .simp at h
theorem Cv{us:List Value}(h:us.length=4):∃a0 a1 a2 ft,us=[a0,a1,a2,ft]:=by
 rcases us with _|⟨a0,_|⟨a1,_|⟨a2,_|⟨ft,_|⟨b,r⟩⟩⟩⟩⟩
 .simp at h
 .simp at h
 .simp at h
 .simp at h
 .exact⟨a0,a1,a2,ft,rfl⟩
 .simp at h
theorem aeJ{us:List Value}(h:us.length=5):∃a0 a1 a2 ft hl,us=[a0,a1,a2,ft,hl]:=by
 rcases us with _|⟨a0,_|⟨a1,_|⟨a2,_|⟨ft,_|⟨hl,_|⟨b,r⟩⟩⟩⟩⟩⟩
 .simp at h
 .simp at h
 .simp at h
 .simp at h
 .simp at h
 .exact⟨a0,a1,a2,ft,hl,rfl⟩
 .simp at h
theorem aeK{us:List Value}(h:us.length=6):∃a0 a1 a2 ft hl yQ,us=[a0,a1,a2,ft,hl,yQ]:=by
 rcases us with _|⟨a0,_|⟨a1,_|⟨a2,_|⟨ft,_|⟨hl,_|⟨yQ,_|⟨b,r⟩⟩⟩⟩⟩⟩⟩
 .simp at h
 .simp at h
 .simp at h
 .simp at h
 .simp at h
 .simp at h
 .exact⟨a0,a1,a2,ft,hl,yQ,rfl⟩
 .simp at h
theorem all_mk{l:Si}{w:bJ}{K:a3}{h:Heap}{aa:Str→Option Value}{gN ez vO zi zl vP zk zj fc vR zx zy zw zv zu e6 vQ zt zr zm zp zq zo DO DP DN zz DK DD DL DE DM DQ DG DV DI DS DF DU Dv Dy DA Dz DC DB Dw Dx Ue qW iw oR uL Du:Addr}{agA agz agE agD agC agB agN agR agS agQ agP agO agI agM agL agG agJ agK agH ahh ahi ahg ag3 ahd ag1 ahe ag2 ahf ahl ag5 ahq ahb aho ag4 ahp agT agW agY agX ag0 agZ agU agV ahk agF:cP}(X:K.In h)(G:h.Ns c1 aa)(ais:aa "law"=some (.ref gN))(IC:dA K c1 "Net"=some (some (.ref ez)))(Nf:vt K ez jW=true)(KU:sZ K ez=true)(Ni:C4 K ez=true)(NY:c3 K (.ref ez) "__setattr__"=some (some (.builtin "object.__setattr__")))(Mv:C1 K ez=true)(L8:o1 K (.ref ez)=true)(MF:c3 K (.ref ez) "kept_houses"=some none)(MG:c3 K (.ref ez) "kept_roads"=some none)(IK:c3 K (.ref ez) "__init__"=some (some (.ref vO)))(LB:g8 K (.ref vO)=true)(xD:b0 K "__init__" "Net.__init__" BV vO agA)(IJ:c3 K (.ref ez) "houses"=some (some (.ref zi)))(LA:g8 K (.ref zi)=true)(uQ:b0 K "houses" "Net.houses" wo zi agz)(IQ:c3 K (.ref ez) "roads"=some (some (.ref zl)))(LG:g8 K (.ref zl)=true)(uT:b0 K "roads" "Net.roads" AW zl agE)(IP:c3 K (.ref ez) "road"=some (some (.ref vP)))(LF:g8 K (.ref vP)=true)(sH:b0 K "road" "Net.road" rS vP agD)(IM:c3 K (.ref ez) "out_of"=some (some (.ref zk)))(LD:g8 K (.ref zk)=true)(uS:b0 K "out_of" "Net.out_of" u_ zk agC)(IL:c3 K (.ref ez) "need_house"=some (some (.ref zj)))(LC:g8 K (.ref zj)=true)(uR:b0 K "need_house" "Net.need_house" xt zj agB)(II:dA K c1 "Ways"=some (some (.ref fc)))(Nh:vt K fc jW=true)(KW:sZ K fc=true)(Nk:C4 K fc=true)(N0:c3 K (.ref fc) "__setattr__"=some (some (.builtin "object.__setattr__")))(Mx:C1 K fc=true)(L':o1 K (.ref fc)=true)(MK:c3 K (.ref fc) "net"=some none)(ML:c3 K (.ref fc) "told"=some none)(I0:c3 K (.ref fc) "__init__"=some (some (.ref vR)))(LP:g8 K (.ref vR)=true)(xF:b0 K "__init__" "Ways.__init__" xh vR agN)(I4:c3 K (.ref fc) "set_way"=some (some (.ref zx)))(LU:g8 K (.ref zx)=true)(u4:b0 K "set_way" "Ways.set_way" xg zx agR)(I5:c3 K (.ref fc) "way"=some (some (.ref zy)))(LV:g8 K (.ref zy)=true)(u5:b0 K "way" "Ways.way" Bm zy agS)(I3:c3 K (.ref fc) "route"=some (some (.ref zw)))(LS:g8 K (.ref zw)=true)(u3:b0 K "route" "Ways.route" Bh zw agQ)(I2:c3 K (.ref fc) "pairs"=some (some (.ref zv)))(LR:g8 K (.ref zv)=true)(u2:b0 K "pairs" "Ways.pairs" Bf zv agP)(I1:c3 K (.ref fc) "need_pair"=some (some (.ref zu)))(LQ:g8 K (.ref zu)=true)(u1:b0 K "need_pair" "Ways.need_pair" xf zu agO)(IH:dA K c1 "Walk"=some (some (.ref e6)))(Ng:vt K e6 jW=true)(KV:sZ K e6=true)(Nj:C4 K e6=true)(NZ:c3 K (.ref e6) "__setattr__"=some (some (.builtin "object.__setattr__")))(Mw:C1 K e6=true)(L9:o1 K (.ref e6)=true)(MI:c3 K (.ref e6) "net"=some none)(MH:c3 K (.ref e6) "goals"=some none)(MJ:c3 K (.ref e6) "steps"=some none)(IV:c3 K (.ref e6) "__init__"=some (some (.ref vQ)))(LK:g8 K (.ref vQ)=true)(xE:b0 K "__init__" "Walk.__init__" yg vQ agI)(IZ:c3 K (.ref e6) "take_in"=some (some (.ref zt)))(LO:g8 K (.ref zt)=true)(u0:b0 K "take_in" "Walk.take_in" BW zt agM)(IY:c3 K (.ref e6) "send"=some (some (.ref zr)))(LN:g8 K (.ref zr)=true)(uZ:b0 K "send" "Walk.send" BX zr agL)(IT:c3 K (.ref e6) "goal"=some (some (.ref zm)))(LI:g8 K (.ref zm)=true)(uV:b0 K "goal" "Walk.goal" BY zm agG)(IW:c3 K (.ref e6) "last_house"=some (some (.ref zp)))(LL:g8 K (.ref zp)=true)(uX:b0 K "last_house" "Walk.last_house" xc zp agJ)(IX:c3 K (.ref e6) "last_turn"=some (some (.ref zq)))(LM:g8 K (.ref zq)=true)(uY:b0 K "last_turn" "Walk.last_turn" uc zq agK)(IU:c3 K (.ref e6) "home_turn"=some (some (.ref zo)))(LJ:g8 K (.ref zo)=true)(uW:b0 K "home_turn" "Walk.home_turn" Bx zo agH)(Jm:dA K c1 "is_whole"=some (some (.ref DO)))(xY:b0 K "is_whole" "is_whole" Bv DO ahh)(Jn:dA K c1 "is_whole_within"=some (some (.ref DP)))(xZ:b0 K "is_whole_within" "is_whole_within" A0 DP ahi)(Jl:dA K c1 "is_tuple_of"=some (some (.ref DN)))(xX:b0 K "is_tuple_of" "is_tuple_of" Bw DN ahg)(Je:dA K c1 "are_unlike_houses"=some (some (.ref zz)))(u6:b0 K "are_unlike_houses" "are_unlike_houses" tS zz ag3)(Ji:dA K c1 "is_name"=some (some (.ref DK)))(xU:b0 K "is_name" "is_name" BQ DK ahd)(Jc:dA K c1 "are_houses"=some (some (.ref DD)))(xP:b0 K "are_houses" "are_houses" BR DD ag1)(Jj:dA K c1 "is_road"=some (some (.ref DL)))(xV:b0 K "is_road" "is_road" BS DL ahe)(Jd:dA K c1 "are_roads"=some (some (.ref DE)))(xQ:b0 K "are_roads" "are_roads" BU DE ag2)(Jk:dA K c1 "is_shorter_by"=some (some (.ref DM)))(xW:b0 K "is_shorter_by" "is_shorter_by" By DM ahf)(Jq:dA K c1 "least_turns_from"=some (some (.ref DQ)))(x2:b0 K "least_turns_from" "least_turns_from" Bt DQ ahl)(Jg:dA K c1 "begins_shortest"=some (some (.ref DG)))(xS:b0 K "begins_shortest" "begins_shortest" yd DG ag5)(Ju:dA K c1 "shortest"=some (some (.ref DV)))(x5:b0 K "shortest" "shortest" Bi DV ahq)(Jh:dA K c1 "has_route"=some (some (.ref DI)))(xT:b0 K "has_route" "has_route" Bc DI ahb)(Js:dA K c1 "queues_at"=some (some (.ref DS)))(x3:b0 K "queues_at" "queues_at" Bg DS aho)(Jf:dA K c1 "bags_at"=some (some (.ref DF)))(xR:b0 K "bags_at" "bags_at" Ba DF ag4)(Jt:dA K c1 "run"=some (some (.ref DU)))(x4:b0 K "run" "run" yi DU ahp)(I6:dA K c1 "_law_cell_at"=some (some (.ref Dv)))(xG:b0 K "_law_cell_at" "_law_cell_at" xe Dv agT)(I9:dA K c1 "_law_houses"=some (some (.ref Dy)))(xJ:b0 K "_law_houses" "_law_houses" AJ Dy agW)(I_:dA K c1 "_law_road"=some (some (.ref DA)))(xM:b0 K "_law_road" "_law_road" ye DA agY)(I':dA K c1 "_law_letter"=some (some (.ref Dz)))(xK:b0 K "_law_letter" "_law_letter" BP Dz agX)(Jb:dA K c1 "_law_table"=some (some (.ref DC)))(xO:b0 K "_law_table" "_law_table" Bk DC ag0)(Ja:dA K c1 "_law_stays"=some (some (.ref DB)))(xN:b0 K "_law_stays" "_law_stays" Bj DB agZ)(I7:dA K c1 "_law_full"=some (some (.ref Dw)))(xH:b0 K "_law_full" "_law_full" Bb Dw agU)(I8:dA K c1 "_law_has_route"=some (some (.ref Dx)))(xI:b0 K "_law_has_route" "_law_has_route" Bd Dx agV)(Jp:dA K c1 "law"=some (some (.ref Ue)))(x1:b0 K "law" "law" u9 Ue ahk){aha:Option Addr}{Tc:sF}{alc:Array (Option Value)}(IG:dA K c1 "RoadError"=some (some (.ref qW)))(Mc:K.lookup qW=some ⟨.type "type",aha,.cls Tc,alc⟩){ag9:Option Addr}{Dd:sF}{N5:Array (Option Value)}(IF:dA K c1 "NoWay"=some (some (.ref iw)))(Ey:K.lookup iw=some ⟨.type "type",ag9,.cls Dd,N5⟩){ag7:Option Addr}{agr:sF}{ala:Array (Option Value)}(ID:dA K c1 "NoHouse"=some (some (.ref oR)))(V2:K.lookup oR=some ⟨.type "type",ag7,.cls agr,ala⟩){ag8:Option Addr}{ags:sF}{alb:Array (Option Value)}(IE:dA K c1 "NoRoad"=some (some (.ref uL)))(V3:K.lookup uL=some ⟨.type "type",ag8,.cls ags,alb⟩)(IS:c3 K (.ref iw) "__init__"=some (some (.ref Du)))(LH:g8 K (.ref Du)=true)(Cw:b0 K "__init__" "NoWay.__init__" NS Du agF)(Ph:yH K qW [.type "ValueError",.type "Exception",.type "BaseException",.type "object"] "ValueError.__new__"=true)(Pf:yH K oR [.type "ValueError",.type "Exception",.type "BaseException",.type "object"] "ValueError.__new__"=true)(Pg:yH K uL [.type "ValueError",.type "Exception",.type "BaseException",.type "object"] "ValueError.__new__"=true)(BO:Q0 Dd N5 iw iw=true){aln:Tok}(OF:dA K c1 "MOST_HOUSES"=some (some (.int 12 aln))){alo:Tok}(OG:dA K c1 "MOST_ROADS"=some (some (.int 40 alo))){alq:Tok}(OI:dA K c1 "MOST_SIGNS"=some (some (.int 8 alq))){alr:Tok}(OJ:dA K c1 "MOST_TURNS"=some (some (.int 9 alr))){alp:Tok}(OH:dA K c1 "MOST_ROOM"=some (some (.int 1000000000 alp)))(PE:dA K c1 "len"=some none)(PI:dA K c1 "range"=some none)(PD:dA K c1 "isinstance"=some none)(Px:dA K c1 "all"=some none)(PC:dA K c1 "int"=some none)(Pz:dA K c1 "bool"=some none)(PL:dA K c1 "str"=some none)(PF:dA K c1 "list"=some none)(PN:dA K c1 "tuple"=some none)(PJ:dA K c1 "set"=some none)(Pt:dA K c1 "ValueError"=some none)(PB:dA K c1 "enumerate"=some none)(PG:dA K c1 "max"=some none)(PH:dA K c1 "min"=some none)(PM:dA K c1 "sum"=some none)(Py:dA K c1 "any"=some none)(PA:dA K c1 "dict"=some none)(PK:dA K c1 "sorted"=some none)(PO:dA K c1 "zip"=some none)(Pj:Ga Dd Tc N5 iw "ValueError.__new__"=true)(Pc:Dd.hasDict=true)(Oc:c3 K (.ref iw) "__setattr__"=some (some (.builtin "object.__setattr__")))(M7:H2 K (.ref iw) (.type "object")=some true)(Lv:sZ K iw=true)(L_:o1 K (.ref iw)=true)(Ke:c3 K (.ref iw) "__getattribute__"=some (some (.builtin "BaseException.__getattribute__")))(MR:c3 K (.ref iw) "__getattr__"=some none)(KA:c3 K (.ref iw) "__class__"=some (some (.builtin "object.__class__")))(K':yK K (.builtin "object.__class__") "__get__"=some (some (.builtin "getset_descriptor.__get__")))(Ll:Sr K (.builtin "object.__class__")=some true)(K9:C3 K iw (.type "object")=some true)(KI:C3 K iw (.type "BaseException")=some true)(NI:Sp K qW (.type "type")=true)(J8:Sk K (.ref qW) (.type "type") "__init__"=some (.val (.builtin "ValueError.__init__")))(N3:yK K (.ref qW) "__getattribute__"=some (some (.builtin "type.__getattribute__")))(Lf:c3 K (.ref iw) "reason"=some none)(Li:c3 K (.ref iw) "seen"=some none):
  ∃fd:cP,(∀(s:ax)(v:Value),xA s fd ⟨[v],[]⟩ [("_law_script",v)])∧∀base:Heap,K.In base→base.Ns c1 aa→aY l.prog w K aa base bu 8 gN fd ["_law_script"] (Cp K):=by
 have e:=ais.symm.trans (fg X G Jp)
 cases e
 have gU:g5 K ez:=⟨Nf,KU,Ni,NY⟩
 have GX:=fg X G IC
 have afC:=xD.binds (ps:=["self","houses","roads"]) λ_ _ _ _ _ _ us ar=>by(obtain⟨_,_,_,rfl⟩:=m_ ar);rfl
 have Gq:oY K ez vO:=⟨Mv,IK,LB,L8⟩
 have M5:sL K ez "Net.__init__" BV ["self","houses","roads"] vO _:=⟨xD,Gq,afC⟩
 have afB:=uQ.binds (ps:=["self"]) λ_ _ _ _ _ _ us ar=>by(obtain⟨_,rfl⟩:=r4 ar);rfl
 have o9:eD K ez "houses" "Net.houses" wo ["self"] zi _:=⟨uQ,⟨IJ,LA,uQ.cN⟩,afB⟩
 have afG:=uT.binds (ps:=["self"]) λ_ _ _ _ _ _ us ar=>by(obtain⟨_,rfl⟩:=r4 ar);rfl
 have Er:eD K ez "roads" "Net.roads" AW ["self"] zl _:=⟨uT,⟨IQ,LG,uT.cN⟩,afG⟩
 have afF:=sH.binds (ps:=["self","number"]) λ_ _ _ _ _ _ us ar=>by(obtain⟨_,_,rfl⟩:=i1 ar);rfl
 have mH:eD K ez "road" "Net.road" rS ["self","number"] vP _:=⟨sH,⟨IP,LF,sH.cN⟩,afF⟩
 have afE:=uS.binds (ps:=["self","house"]) λ_ _ _ _ _ _ us ar=>by(obtain⟨_,_,rfl⟩:=i1 ar);rfl
 have rj:eD K ez "out_of" "Net.out_of" u_ ["self","house"] zk _:=⟨uS,⟨IM,LD,uS.cN⟩,afE⟩
 have afD:=uR.binds (ps:=["self","house"]) λ_ _ _ _ _ _ us ar=>by(obtain⟨_,_,rfl⟩:=i1 ar);rfl
 have o':eD K ez "need_house" "Net.need_house" xt ["self","house"] zj _:=⟨uR,⟨IL,LC,uR.cN⟩,afD⟩
 have jY:g5 K fc:=⟨Nh,KW,Nk,N0⟩
 have wN:=fg X G II
 have afP:=xF.binds (ps:=["self","net"]) λ_ _ _ _ _ _ us ar=>by(obtain⟨_,_,rfl⟩:=i1 ar);rfl
 have tV:oY K fc vR:=⟨Mx,I0,LP,L'⟩
 have vN:sL K fc "Ways.__init__" xh ["self","net"] vR _:=⟨xF,tV,afP⟩
 have afT:=u4.binds (ps:=["self","house","goal","road"]) λ_ _ _ _ _ _ us ar=>by(obtain⟨_,_,_,_,rfl⟩:=Cv ar);rfl
 have rk:eD K fc "set_way" "Ways.set_way" xg ["self","house","goal","road"] zx _:=⟨u4,⟨I4,LU,u4.cN⟩,afT⟩
 have afU:=u5.binds (ps:=["self","house","goal"]) λ_ _ _ _ _ _ us ar=>by(obtain⟨_,_,_,rfl⟩:=m_ ar);rfl
 have Ex:eD K fc "way" "Ways.way" Bm ["self","house","goal"] zy _:=⟨u5,⟨I5,LV,u5.cN⟩,afU⟩
 have afS:=u3.binds (ps:=["self","house","goal"]) λ_ _ _ _ _ _ us ar=>by(obtain⟨_,_,_,rfl⟩:=m_ ar);rfl
 have En:eD K fc "route" "Ways.route" Bh ["self","house","goal"] zw _:=⟨u3,⟨I3,LS,u3.cN⟩,afS⟩
 have afR:=u2.binds (ps:=["self"]) λ_ _ _ _ _ _ us ar=>by(obtain⟨_,rfl⟩:=r4 ar);rfl
 have Eo:eD K fc "pairs" "Ways.pairs" Bf ["self"] zv _:=⟨u2,⟨I2,LR,u2.cN⟩,afR⟩
 have afQ:=u1.binds (ps:=["self","house","goal"]) λ_ _ _ _ _ _ us ar=>by(obtain⟨_,_,_,rfl⟩:=m_ ar);rfl
 have rf:eD K fc "need_pair" "Ways.need_pair" xf ["self","house","goal"] zu _:=⟨u1,⟨I1,LQ,u1.cN⟩,afQ⟩
 have kY:g5 K e6:=⟨Ng,KV,Nj,NZ⟩
 have Pm:=fg X G IH
 have afK:=xE.binds (ps:=["self","net","letters"]) λ_ _ _ _ _ _ us ar=>by(obtain⟨_,_,_,rfl⟩:=m_ ar);rfl
 have FF:oY K e6 vQ:=⟨Mw,IV,LK,L9⟩
 have Ms:sL K e6 "Walk.__init__" yg ["self","net","letters"] vQ _:=⟨xE,FF,afK⟩
 have afO:=u0.binds (ps:=["self","letter"]) λ_ _ _ _ _ _ us ar=>by(obtain⟨_,_,rfl⟩:=i1 ar);rfl
 have DX:eD K e6 "take_in" "Walk.take_in" BW ["self","letter"] zt _:=⟨u0,⟨IZ,LO,u0.cN⟩,afO⟩
 have afN:=uZ.binds (ps:=["self","bag"]) λ_ _ _ _ _ _ us ar=>by(obtain⟨_,_,rfl⟩:=i1 ar);rfl
 have Et:eD K e6 "send" "Walk.send" BX ["self","bag"] zr _:=⟨uZ,⟨IY,LN,uZ.cN⟩,afN⟩
 have afI:=uV.binds (ps:=["self","number"]) λ_ _ _ _ _ _ us ar=>by(obtain⟨_,_,rfl⟩:=i1 ar);rfl
 have Es:eD K e6 "goal" "Walk.goal" BY ["self","number"] zm _:=⟨uV,⟨IT,LI,uV.cN⟩,afI⟩
 have afL:=uX.binds (ps:=["self","number"]) λ_ _ _ _ _ _ us ar=>by(obtain⟨_,_,rfl⟩:=i1 ar);rfl
 have rb:eD K e6 "last_house" "Walk.last_house" xc ["self","number"] zp _:=⟨uX,⟨IW,LL,uX.cN⟩,afL⟩
 have afM:=uY.binds (ps:=["self","number"]) λ_ _ _ _ _ _ us ar=>by(obtain⟨_,_,rfl⟩:=i1 ar);rfl
 have mF:eD K e6 "last_turn" "Walk.last_turn" uc ["self","number"] zq _:=⟨uY,⟨IX,LM,uY.cN⟩,afM⟩
 have afJ:=uW.binds (ps:=["self","number"]) λ_ _ _ _ _ _ us ar=>by(obtain⟨_,_,rfl⟩:=i1 ar);rfl
 have Di:eD K e6 "home_turn" "Walk.home_turn" Bx ["self","number"] zo _:=⟨uW,⟨IU,LJ,uW.cN⟩,afJ⟩
 have agf:=xY.binds (ps:=["thing"]) λ_ _ _ _ _ _ us ar=>by(obtain⟨_,rfl⟩:=r4 ar);rfl
 have Ao:dS K aa "is_whole" Bv ["thing"] DO _:=⟨xY,fg X G Jm,agf⟩
 have agg:=xZ.binds (ps:=["thing","least","greatest"]) λ_ _ _ _ _ _ us ar=>by(obtain⟨_,_,_,rfl⟩:=m_ ar);rfl
 have ra:dS K aa "is_whole_within" A0 ["thing","least","greatest"] DP _:=⟨xZ,fg X G Jn,agg⟩
 have age:=xX.binds (ps:=["thing","length"]) λ_ _ _ _ _ _ us ar=>by(obtain⟨_,_,rfl⟩:=i1 ar);rfl
 have ze:dS K aa "is_tuple_of" Bw ["thing","length"] DN _:=⟨xX,fg X G Jl,age⟩
 have af6:=u6.binds (ps:=["houses","one","other"]) λ_ _ _ _ _ _ us ar=>by(obtain⟨_,_,_,rfl⟩:=m_ ar);rfl
 have o8:dS K aa "are_unlike_houses" tS ["houses","one","other"] zz _:=⟨u6,fg X G Je,af6⟩
 have agb:=xU.binds (ps:=["thing"]) λ_ _ _ _ _ _ us ar=>by(obtain⟨_,rfl⟩:=r4 ar);rfl
 have Al:dS K aa "is_name" BQ ["thing"] DK _:=⟨xU,fg X G Ji,agb⟩
 have af4:=xP.binds (ps:=["things"]) λ_ _ _ _ _ _ us ar=>by(obtain⟨_,rfl⟩:=r4 ar);rfl
 have zG:dS K aa "are_houses" BR ["things"] DD _:=⟨xP,fg X G Jc,af4⟩
 have agc:=xV.binds (ps:=["houses","thing"]) λ_ _ _ _ _ _ us ar=>by(obtain⟨_,_,rfl⟩:=i1 ar);rfl
 have Am:dS K aa "is_road" BS ["houses","thing"] DL _:=⟨xV,fg X G Jj,agc⟩
 have af5:=xQ.binds (ps:=["houses","things"]) λ_ _ _ _ _ _ us ar=>by(obtain⟨_,_,rfl⟩:=i1 ar);rfl
 have Ag:dS K aa "are_roads" BU ["houses","things"] DE _:=⟨xQ,fg X G Jd,af5⟩
 have agd:=xW.binds (ps:=["road","found"]) λ_ _ _ _ _ _ us ar=>by(obtain⟨_,_,rfl⟩:=i1 ar);rfl
 have y1:dS K aa "is_shorter_by" By ["road","found"] DM _:=⟨xW,fg X G Jk,agd⟩
 have agh:=x2.binds (ps:=["roads","house"]) λ_ _ _ _ _ _ us ar=>by(obtain⟨_,_,rfl⟩:=i1 ar);rfl
 have yW:dS K aa "least_turns_from" Bt ["roads","house"] DQ _:=⟨x2,fg X G Jq,agh⟩
 have af8:=xS.binds (ps:=["road","far_from","goal"]) λ_ _ _ _ _ _ us ar=>by(obtain⟨_,_,_,rfl⟩:=m_ ar);rfl
 have yX:dS K aa "begins_shortest" yd ["road","far_from","goal"] DG _:=⟨xS,fg X G Jg,af8⟩
 have agm:=x5.binds (ps:=["net"]) λ_ _ _ _ _ _ us ar=>by(obtain⟨_,rfl⟩:=r4 ar);rfl
 have Ap:dS K aa "shortest" Bi ["net"] DV _:=⟨x5,fg X G Ju,agm⟩
 have aga:=xT.binds (ps:=["letter","ways"]) λ_ _ _ _ _ _ us ar=>by(obtain⟨_,_,rfl⟩:=i1 ar);rfl
 have Ai:dS K aa "has_route" Bc ["letter","ways"] DI _:=⟨xT,fg X G Jh,aga⟩
 have agj:=x3.binds (ps:=["walk","going","ways","turn"]) λ_ _ _ _ _ _ us ar=>by(obtain⟨_,_,_,_,rfl⟩:=Cv ar);rfl
 have Ah:dS K aa "queues_at" Bg ["walk","going","ways","turn"] DS _:=⟨x3,fg X G Js,agj⟩
 have af7:=xR.binds (ps:=["net","walk","going","ways","turn"]) λ_ _ _ _ _ _ us ar=>by(obtain⟨_,_,_,_,_,rfl⟩:=aeJ ar);rfl
 have Aj:dS K aa "bags_at" Ba ["net","walk","going","ways","turn"] DF _:=⟨xR,fg X G Jf,af7⟩
 have agk:=x4.binds (ps:=["net","letters","ways"]) λ_ _ _ _ _ _ us ar=>by(obtain⟨_,_,_,rfl⟩:=m_ ar);rfl
 have B4:dS K aa "run" yi ["net","letters","ways"] DU _:=⟨x4,fg X G Jt,agk⟩
 have afW:=xG.binds (ps:=["_law_script","_law_k"]) λ_ _ _ _ _ _ us ar=>by(obtain⟨_,_,rfl⟩:=i1 ar);rfl
 have g9:dS K aa "_law_cell_at" xe ["_law_script","_law_k"] Dv _:=⟨xG,fg X G I6,afW⟩
 have afZ:=xJ.binds (ps:=["_law_cell","_law_many"]) λ_ _ _ _ _ _ us ar=>by(obtain⟨_,_,rfl⟩:=i1 ar);rfl
 have zf:dS K aa "_law_houses" AJ ["_law_cell","_law_many"] Dy _:=⟨xJ,fg X G I9,afZ⟩
 have af1:=xM.binds (ps:=["_law_cell","_law_names"]) λ_ _ _ _ _ _ us ar=>by(obtain⟨_,_,rfl⟩:=i1 ar);rfl
 have Ac:dS K aa "_law_road" ye ["_law_cell","_law_names"] DA _:=⟨xM,fg X G I_,af1⟩
 have af0:=xK.binds (ps:=["_law_cell","_law_names","_law_base"]) λ_ _ _ _ _ _ us ar=>by(obtain⟨_,_,_,rfl⟩:=m_ ar);rfl
 have zg:dS K aa "_law_letter" BP ["_law_cell","_law_names","_law_base"] Dz _:=⟨xK,fg X G I',af0⟩
 have af3:=xO.binds (ps:=["_law_net","_law_names","_law_lines","_law_script"]) λ_ _ _ _ _ _ us ar=>by(obtain⟨_,_,_,_,rfl⟩:=Cv ar);rfl
 have zH:dS K aa "_law_table" Bk ["_law_net","_law_names","_law_lines","_law_script"] DC _:=⟨xO,fg X G Jb,af3⟩
 have af2:=xN.binds (ps:=["_law_lines","_law_letters","_law_plan"]) λ_ _ _ _ _ _ us ar=>by(obtain⟨_,_,_,rfl⟩:=m_ ar);rfl
 have zI:dS K aa "_law_stays" Bj ["_law_lines","_law_letters","_law_plan"] DB _:=⟨xN,fg X G Ja,af2⟩
 have afX:=xH.binds (ps:=["_law_lines","_law_bags","_law_stays_here","_law_number","_law_stay","_law_road_here"]) λ_ _ _ _ _ _ us ar=>by(obtain⟨_,_,_,_,_,_,rfl⟩:=aeK ar);rfl
 have Ad:dS K aa "_law_full" Bb ["_law_lines","_law_bags","_law_stays_here","_law_number","_law_stay","_law_road_here"] Dw _:=⟨xH,fg X G I7,afX⟩
 have afY:=xI.binds (ps:=["_law_lines","_law_told","_law_house","_law_goal"]) λ_ _ _ _ _ _ us ar=>by(obtain⟨_,_,_,_,rfl⟩:=Cv ar);rfl
 have y4:dS K aa "_law_has_route" Bd ["_law_lines","_law_told","_law_house","_law_goal"] Dx _:=⟨xI,fg X G I8,afY⟩
 have anI:=x1.binds (ps:=["_law_script"]) λ_ _ _ _ _ _ us ar=>by(obtain⟨_,rfl⟩:=r4 ar);rfl
 have El:=fg X G IG
 have tP:=fg X G IF
 have ZZ:=fg X G ID
 have Ν:=fg X G IE
 have afH:=Cw.binds (ps:=["self","reason","seen"]) λ_ _ _ _ _ _ us ar=>by(obtain⟨_,_,_,rfl⟩:=m_ ar);rfl
 have amw:Exc K aa "RoadError" qW _ _:=⟨El,Ph⟩
 have vT:Exc K aa "NoHouse" oR _ _:=⟨ZZ,Pf⟩
 have wj:Exc K aa "NoRoad" uL _ _:=⟨Ν,Pg⟩
 have BO:=θ Ey BO
 have lA:ya aa:=⟨⟨_,fg X G OF⟩,⟨_,fg X G OG⟩,⟨_,fg X G OI⟩,⟨_,fg X G OJ⟩,⟨_,fg X G OH⟩⟩
 have B:g4 aa:=⟨jf X G PE,jf X G PI,jf X G PD,jf X G Px,jf X G PC,jf X G Pz,jf X G PL,jf X G PF,jf X G PN,jf X G PJ,jf X G Pt,jf X G PB,jf X G PG,jf X G PH,jf X G PM,jf X G Py,jf X G PA,jf X G PK,jf X G PO⟩
 obtain⟨_,_,cQ,ag6,pm,an,cd,fA,_,rfl,_,_⟩:=id x1.ex
 refine⟨vr "law" "law" (AR u9) (rL u9) (dh u9) .none cQ ag6 pm an cd fA,λs v=>.of_eq rfl,λbase _ _=>?_⟩
 have fq:sq K ez:=⟨gU,MF,MG⟩
 have KT:Ri K:=⟨abW K⟩
 have M0:aY l.prog w K aa base bu 1 DO _ ["thing"] Pa:=Ď xY B KT
 have Df:aY l.prog w K aa base bu 2 DP _ ["thing","least","greatest"] NX:=ξ xZ Ao M0
 have L3:aY l.prog w K aa base bu 1 DN _ ["thing","length"] ww:=Đ xX B
 have yV:aY l.prog w K aa base bu 1 zz _ ["houses","one","other"] (Ox K):=ο u6
 have Nv:aY l.prog w K aa base bu 1 DK _ ["thing"] GG:=aaA xU B lA
 have L5:aY l.prog w K aa base bu 2 DD _ ["things"] GH:=aaB xP B lA Al Nv
 have Nw:aY l.prog w K aa base bu 3 DL _ ["houses","thing"] (GK K):=aaC xV lA ze L3 o8 yV ra Df
 have My:aY l.prog w K aa base bu 4 DE _ ["houses","things"] (GL K):=aaD xQ B lA Am Nw
 have M6:aY l.prog w K aa base bu 5 vO _ ["self","houses","roads"] (GN K ez):=aaE xD B fq zG L5 Ag My
 have Ç:aY l.prog w K aa base bu 1 zz _ ["houses","one","other"] NB:=ZA u6
 have AH:o7 K aa "RoadError" iw qW:=⟨amw,⟨_,_,_,_,_,_,Ey,Mc,Pj,Pc⟩,Oc,M7,NI,J8,N3,⟨Ke,MR,KA,K',Ll,K9,KI⟩,Lv⟩
 have mB:oh K fc:=⟨jY,MK,ML⟩
 have cx:pI K e6:=⟨kY,MI,MH,MJ⟩
 have th:aY l.prog w K aa base bu 1 zi _ ["self"] (ES ez):=ZM uQ B fq
 have Mr:aY l.prog w K aa base bu 1 zl _ ["self"] (Oi ez):=Ρ uT B fq
 have ta:aY l.prog w K aa base (gC l.prog w) 1 zj _ ["self","house"] (Gf ez oR):=aak uR fq yF vT
 have tq:aY l.prog w K aa base (gC l.prog w) 1 vP _ ["self","number"] (Pb ez uL):=Ę sH B fq yF wj
 have S1:aY l.prog w K aa base bu 1 vP _ ["self","number"] (Fy ez):=ÿ sH B fq
 have vH:aY l.prog w K aa base (gC l.prog w) 2 zk _ ["self","house"] (Ci ez oR (·.a)):=acM uS B fq o' ta
 have Lz:aY l.prog w K aa base bu 1 DM _ ["road","found"] OY:=Ą xW
 have J6:aY l.prog w K aa base bu 2 DQ _ ["roads","house"] (OZ K):=ą x2 y1 Lz
 have vX:aY l.prog w K aa base bu 1 vR _ ["self","net"] (CQ fc):=ad0 xF mB
 have vD:aY l.prog w K aa base (gC l.prog w) 2 zu _ ["self","house","goal"] (CR fc ez oR):=ad1 u1 mB gU yF vT o9 th o8 Ç
 have vG:aY l.prog w K aa base (gC l.prog w) 3 zx _ ["self","house","goal","road"] (CS fc ez oR uL):=ad2 u4 mB gU yF wj rj vH rf vD
 have M4:aY l.prog w K aa base (gC l.prog w) 3 zy _ ["self","house","goal"] (Im fc ez oR):=ad6 u5 mB rf vD
 have Em:aY l.prog w K aa base bu 1 Du _ ["self","reason","seen"] (CV iw):=aeu Cw B AH El Lf Li
 have Md:aY l.prog w K aa base (qX l.prog w) 3 zw _ ["self","house","goal"] (Il fc ez oR iw):=aev u3 mB gU o' ta mH tq AH tP L_ IS LH Em afH
 have aeL:aY l.prog w K aa base bu 1 DG _ ["road","far_from","goal"] Ho:=acQ xS
 have ae0:aY l.prog w K aa base bu 4 DV _ ["net"] (Io fc ez):=adJ x5 B mB gU wN o9 th Er Mr rj vH yW J6 yX aeL tV vN vX rk vG
 have ae1:aY l.prog w K aa base bu 1 zt _ ["self","letter"] (GQ e6):=aaL u0 cx
 have WP:aY l.prog w K aa base bu 2 vQ _ ["self","net","letters"] (Hr e6):=abM xE cx DX ae1
 have ae2:aY l.prog w K aa base bu 1 zm _ ["self","number"] (GP e6):=aao uV cx
 have S2:aY l.prog w K aa base bu 1 zp _ ["self","number"] (Fx e6):=Ĕ uX cx
 have Ip:aY l.prog w K aa base bu 1 zq _ ["self","number"] (AX e6):=ĕ uY cx
 have ae3:aY l.prog w K aa base bu 2 zo _ ["self","number"] (OU e6):=ė uW cx rb S2 mF Ip
 have ae4:aY l.prog w K aa base bu 2 zr _ ["self","bag"] (GI e6 ez):=aan uZ cx gU mH S1
 have ae5:aY l.prog w K aa base bu 4 DI _ ["letter","ways"] (Ii fc ez):=aey xT jY BO tP En Md
 have ae6:aY l.prog w K aa base bu 4 DS _ ["walk","going","ways","turn"] (Ig K e6 fc ez):=adG x3 cx mB mF Ip rb S2 Es ae2 Ex M4
 have aeQ:aY l.prog w K aa base bu 5 DF _ ["net","walk","going","ways","turn"] (CY K e6 fc ez):=aes (acy xR B gU Ah ae6 mH S1)
 have Hy:aY l.prog w K aa base bu 6 DU _ ["net","letters","ways"] (Hv e6 fc ez):=acD x4 B cx Pm FF Ms WP Ai ae5 mF Ip Aj aeQ Et ae4 Di ae3
 have S3:aY l.prog w K aa base bu 1 Dv _ ["_law_script","_law_k"] (CP K):=adR xG B.len
 have aeS:aY l.prog w K aa base bu 1 Dy _ ["_law_cell","_law_many"] Nu:=ZL xJ B
 have aeT:aY l.prog w K aa base bu 1 DA _ ["_law_cell","_law_names"] Hp:=acJ xM B
 have aeU:aY l.prog w K aa base bu 1 Dz _ ["_law_cell","_law_names","_law_base"] GO:=Ū xK B
 have aeV:aY l.prog w K aa base bu 1 zv _ ["self"] (Hw fc):=acF u2 B mB
 have aeW:aY l.prog w K aa base bu 5 DC _ ["_law_net","_law_names","_law_lines","_law_script"] (H_ K fc ez):=aeB xO B mB wN g9 S3 Ap ae0 tV vN vX rk vG
 have afs:aY l.prog w K aa base bu 1 DB _ ["_law_lines","_law_letters","_law_plan"] Ic:=aeF xN B
 have aft:aY l.prog w K aa base bu 1 Dw _ ["_law_lines","_law_bags","_law_stays_here","_law_number","_law_stay","_law_road_here"] Ie:=aeH xH B
 have afu:aY l.prog w K aa base bu 1 Dx _ ["_law_lines","_law_told","_law_house","_law_goal"] Ia:=aeD xI B
 exact ac6 x1 B mB GX g9 S3 zf aeS Ac aeT zg aeU Gq M5 M6 zH aeW Eo aeV B4 Hy zI afs y4 afu Ad aft
theorem walk{l:Si}{q:bT}{loose:List Str}{vx:(Str→Option Value)→Heap→Prop}{q':bJ→Heap→Prop}{d:DefRec}{K:Params→a3}(az:l.most=some 63)(zY:d.params.defaults=[])(Ky:∀(w:bJ)(h:Heap),q' w h→(K w.params).In h)(F:∀(w:bJ)(aa:Str→Option Value)(gN:Addr)(h:Heap),(K w.params).In h→h.Ns c1 aa→aa d.name=some (.ref gN)→
   ∃fd:cP,(∀(s:ax)(u:Value),xA s fd ⟨[u],[]⟩ [("_law_script",u)])∧∀base:Heap,(K w.params).In base→base.Ns c1 aa→aY l.prog w (K w.params) aa base bu 8 gN fd ["_law_script"] (Cp (K w.params))):
  abv q loose vx q' l.row.toRowW d [] (λf vs=>Su f vs):=
 ai.amd (n:=63) (k:=8) (x:="_law_script") (CX:=λ_=>bu) (sp:=λw=>Cp (K w.params)) az (by decide) zY ⟨rfl,by decide,by decide⟩ Ky F (λ_ _ a ns ar _ f7=>⟨a,ns,rfl,f7,ar,λ_=>rfl⟩) λ_ _ _ _ _ z=>z
end fx
noncomputable def PySem.W.Fast.tw5328691041584530094:Unit:=()
noncomputable def PySem.W.Fast.tw11862204001458165253:Unit:=()
noncomputable def PySem.W.Fast.tw8313378164845607254:Unit:=()
noncomputable def PySem.W.Fast.tw3969009424593854090:Unit:=()
noncomputable def PySem.W.Fast.tw8402651177921001422:Unit:=()
noncomputable def PySem.W.Fast.tw11989523647797673142:Unit:=()
noncomputable def PySem.W.Fast.tw7130170827098960638:Unit:=()
noncomputable def PySem.W.Fast.tw6420859992531870376:Unit:=()
noncomputable def PySem.W.Fast.tw15579244008180490030:Unit:=()
noncomputable def PySem.W.Fast.tw6169198496070544549:Unit:=()
noncomputable def PySem.W.Fast.tw7501023878295395343:Unit:=()
noncomputable def PySem.W.Fast.tw1596536190239028245:Unit:=()
noncomputable def PySem.W.Fast.tw6624653029156814102:Unit:=()
noncomputable def PySem.W.Fast.tw681362422459834386:Unit:=()
noncomputable def PySem.W.Fast.tw16452879451571520543:Unit:=()
noncomputable def PySem.W.Fast.tw5502715399902867832:Unit:=()
noncomputable def PySem.W.Fast.tw1343018831961809030:Unit:=()
noncomputable def PySem.W.Fast.tw16620078527871428556:Unit:=()
noncomputable def PySem.W.Fast.tw5240445550734824385:Unit:=()
noncomputable def PySem.W.Fast.tw17117936466117957493:Unit:=()
noncomputable def PySem.W.Fast.tw401121534945785775:Unit:=()
noncomputable def PySem.W.Fast.tw4283728683123645961:Unit:=()
noncomputable def PySem.W.Fast.tw4517368170981049903:Unit:=()
noncomputable def PySem.W.Fast.tw3631573792170192419:Unit:=()
noncomputable def PySem.W.Fast.tw17001754882832309896:Unit:=()
noncomputable def PySem.W.Fast.tw1292705111775309153:Unit:=()
noncomputable def PySem.W.Fast.tw9196312417045741208:Unit:=()
noncomputable def PySem.W.Fast.tw27202761457200817:Unit:=()
noncomputable def PySem.W.Fast.tw12966315849409541128:Unit:=()
noncomputable def PySem.W.Fast.tw11367494360831715523:Unit:=()
noncomputable def PySem.W.Fast.tw10267440816644314316:Unit:=()
noncomputable def PySem.W.Fast.tw5329353240785107743:Unit:=()
noncomputable def PySem.W.Fast.tw18253397723225730246:Unit:=()
noncomputable def PySem.W.Fast.tw8058670550338414783:Unit:=()
noncomputable def PySem.W.Fast.tw5918240352013772751:Unit:=()
noncomputable def PySem.W.Fast.tw3951160209692629765:Unit:=()
noncomputable def PySem.W.Fast.tw3356263224102115050:Unit:=()
noncomputable def PySem.W.Fast.tw11352519376512324820:Unit:=()
noncomputable def PySem.W.Fast.tw430082597762372396:Unit:=()
noncomputable def PySem.W.Fast.tw15151345979118834383:Unit:=()
noncomputable def PySem.W.Fast.tw12334310504778592446:Unit:=()
noncomputable def PySem.W.Fast.tw15569998909492542242:Unit:=()
noncomputable def PySem.W.Fast.tw2772799902691209040:Unit:=()
noncomputable def PySem.W.Fast.tw2130551136866278631:Unit:=()
noncomputable def PySem.W.Fast.tw5868908936996409950:Unit:=()
noncomputable def PySem.W.Fast.tw4679713278664638488:Unit:=()
noncomputable def PySem.W.Fast.tw1143362050850790662:Unit:=()
noncomputable def PySem.W.Fast.tw15390438811031227584:Unit:=()
noncomputable def PySem.W.Fast.tw12884894094305789654:Unit:=()
noncomputable def PySem.W.Fast.tw4797109485608003864:Unit:=()
noncomputable def PySem.W.Fast.tw3723315076060286681:Unit:=()
noncomputable def PySem.W.Fast.tw16920223960653950931:Unit:=()
noncomputable def PySem.W.Fast.tw4884942555022268308:Unit:=()
noncomputable def PySem.W.Fast.tw12724890987632278535:Unit:=()
noncomputable def PySem.W.Fast.tw2105135881419788256:Unit:=()
noncomputable def PySem.W.Fast.tw12899093920322178495:Unit:=()
noncomputable def PySem.W.Fast.tw18184179942868213258:Unit:=()
noncomputable def PySem.W.Fast.tw1026054158497684573:Unit:=()
noncomputable def PySem.W.Fast.tw10791578505622826695:Unit:=()
noncomputable def PySem.W.Fast.tw11870966695675402769:Unit:=()
noncomputable def PySem.W.Fast.tw2039203416251513631:Unit:=()
noncomputable def PySem.W.Fast.tw11197021055135669412:Unit:=()
noncomputable def PySem.W.Fast.tw9226744627039859389:Unit:=()
noncomputable def PySem.W.Fast.tw6618640719281134571:Unit:=()
noncomputable def PySem.W.Fast.tw17869017999295514066:Unit:=()
noncomputable def PySem.W.Fast.tw1698905041678830381:Unit:=()
noncomputable def PySem.W.Fast.tw482364204003484505:Unit:=()
noncomputable def PySem.W.Fast.tw6614669606585382114:Unit:=()
noncomputable def PySem.W.Fast.tw4211201016041621052:Unit:=()
noncomputable def PySem.W.Fast.tw10655985581135181664:Unit:=()
noncomputable def PySem.W.Fast.tw10900034694756462526:Unit:=()
noncomputable def PySem.W.Fast.tw2690991268879387220:Unit:=()
noncomputable def PySem.W.Fast.tw6385876117602680400:Unit:=()
noncomputable def PySem.W.Fast.tw16854410086605587924:Unit:=()
noncomputable def PySem.W.Fast.tw1455115100733476974:Unit:=()
noncomputable def PySem.W.Fast.tw2537673562681183235:Unit:=()
noncomputable def PySem.W.Fast.tw10221003149370107785:Unit:=()
noncomputable def PySem.W.Fast.tw4109502073640681603:Unit:=()
noncomputable def PySem.W.Fast.tw17237281844525523474:Unit:=()
noncomputable def PySem.W.Fast.tw1599808176457600154:Unit:=()
noncomputable def PySem.W.Fast.tw16572305199274412085:Unit:=()
noncomputable def PySem.W.Fast.tw13527664420673485706:Unit:=()
noncomputable def PySem.W.Fast.tw7100934740414107012:Unit:=()
noncomputable def PySem.W.Fast.tw17045564054079770942:Unit:=()
noncomputable def PySem.W.Fast.tw9777365186216427639:Unit:=()
noncomputable def PySem.W.Fast.tw12029206631278568939:Unit:=()
noncomputable def PySem.W.Fast.tw1159389875733124175:Unit:=()
noncomputable def PySem.W.Fast.tw16603789682149977652:Unit:=()
noncomputable def PySem.W.Fast.tw7552564957007799145:Unit:=()
noncomputable def PySem.W.Fast.tw3640270500091946270:Unit:=()
noncomputable def PySem.W.Fast.tw1331931945307281853:Unit:=()
noncomputable def PySem.W.Fast.tw10188670694464982293:Unit:=()
noncomputable def PySem.W.Fast.tw1758583632149456698:Unit:=()
noncomputable def PySem.W.Fast.tw9094945203177386223:Unit:=()
noncomputable def PySem.W.Fast.tw12337350723833137261:Unit:=()
noncomputable def PySem.W.Fast.tw16839040182686201631:Unit:=()
noncomputable def PySem.W.Fast.tw17001296593753005731:Unit:=()
noncomputable def PySem.W.Fast.tw9039844804734119791:Unit:=()
noncomputable def PySem.W.Fast.tw9270932651415062751:Unit:=()
noncomputable def PySem.W.Fast.tw7157093460498816534:Unit:=()
noncomputable def PySem.W.Fast.tw4733917828095278844:Unit:=()
noncomputable def PySem.W.Fast.tw11513848556792474111:Unit:=()
noncomputable def PySem.W.Fast.tw14737866284690432956:Unit:=()
noncomputable def PySem.W.Fast.tw2815218831291383052:Unit:=()
noncomputable def PySem.W.Fast.tw15633505663732742012:Unit:=()
noncomputable def PySem.W.Fast.tw1819115061585586590:Unit:=()
noncomputable def PySem.W.Fast.tw709086463032260378:Unit:=()
noncomputable def PySem.W.Fast.tw13498375581479687318:Unit:=()
noncomputable def PySem.W.Fast.tw5942593866348298427:Unit:=()
noncomputable def PySem.W.Fast.tw13204007210496343510:Unit:=()
noncomputable def PySem.W.Fast.tw1542378587167062118:Unit:=()
noncomputable def PySem.W.Fast.tw1488107212585592541:Unit:=()
noncomputable def PySem.W.Fast.tw12815174252759164070:Unit:=()
noncomputable def PySem.W.Fast.tw6191414073849369382:Unit:=()
noncomputable def PySem.W.Fast.tw16126710094803010478:Unit:=()
noncomputable def PySem.W.Fast.tw8539279325512885633:Unit:=()
noncomputable def PySem.W.Fast.tw5612357139879642688:Unit:=()
noncomputable def PySem.W.Fast.tw2669654080288761537:Unit:=()
noncomputable def PySem.W.Fast.tw12933992693466904448:Unit:=()
noncomputable def PySem.W.Fast.tw5766759131203404808:Unit:=()
noncomputable def PySem.W.Fast.tw542966143745371363:Unit:=()
noncomputable def PySem.W.Fast.tw14915288025151010396:Unit:=()
noncomputable def PySem.W.Fast.tw10944386671655628367:Unit:=()
noncomputable def PySem.W.Fast.tw2111377331910667505:Unit:=()
noncomputable def PySem.W.Fast.tw5394703583897108704:Unit:=()
noncomputable def PySem.W.Fast.tw2989029680195239728:Unit:=()
noncomputable def PySem.W.Fast.tw13391671568376386087:Unit:=()
noncomputable def PySem.W.Fast.tw12241798045063440134:Unit:=()
noncomputable def PySem.W.Fast.tw6136868137033955874:Unit:=()
noncomputable def PySem.W.Fast.tw2664573808386072170:Unit:=()
noncomputable def PySem.W.Fast.tw15483743755410069725:Unit:=()
noncomputable def PySem.W.Fast.tw14561161592288839395:Unit:=()
noncomputable def PySem.W.Fast.tw9215570821305113809:Unit:=()
noncomputable def PySem.W.Fast.tw1186053957265454746:Unit:=()
noncomputable def PySem.W.Fast.tw10437843585761917732:Unit:=()
noncomputable def PySem.W.Fast.tw14924561519834988239:Unit:=()
noncomputable def PySem.W.Fast.tw4178792907237433626:Unit:=()
noncomputable def PySem.W.Fast.tw7021085706176668255:Unit:=()
open PySem PySem.W PyProof.Rows
set_option maxRecDepth 100000 in
set_option maxHeartbeats 0 in
theorem PySem.Challenge.cw_postroad_k32_whole_no_waiting_holds : PySem.Challenge.rw_postroad_k32_whole_no_waiting.Holds := by
 w_on;o_law;k_head;(case hw=>w_witness2)
 k_fill
 refine fx.walk (l:=anf) rfl rfl (λw h Y=>PySem.W.kIn_of Y) ?F
 case F=>
  intro w aa gN h oU G z7
  refine' fx.all_mk oU G z7 ?IC ?Nf ?KU ?Ni ?NY ?Mv ?L8 ?MF ?MG ?IK ?LB ?xD ?IJ ?LA ?uQ ?IQ ?LG ?uT ?IP ?LF ?sH ?IM ?LD ?uS ?IL ?LC ?uR ?II ?Nh ?KW ?Nk ?N0 ?Mx ?L' ?MK ?ML ?I0 ?LP ?xF ?I4 ?LU ?u4 ?I5 ?LV ?u5 ?I3 ?LS ?u3 ?I2 ?LR ?u2 ?I1 ?LQ ?u1 ?IH ?Ng ?KV ?Nj ?NZ ?Mw ?L9 ?MI ?MH ?MJ ?IV ?LK ?xE ?IZ ?LO ?u0 ?IY ?LN ?uZ ?IT ?LI ?uV ?IW ?LL ?uX ?IX ?LM ?uY ?IU ?LJ ?uW ?Jm ?xY ?Jn ?xZ ?Jl ?xX ?Je ?u6 ?Ji ?xU ?Jc ?xP ?Jj ?xV ?Jd ?xQ ?Jk ?xW ?Jq ?x2 ?Jg ?xS ?Ju ?x5 ?Jh ?xT ?Js ?x3 ?Jf ?xR ?Jt ?x4 ?I6 ?xG ?I9 ?xJ ?I_ ?xM ?I' ?xK ?Jb ?xO ?Ja ?xN ?I7 ?xH ?I8 ?xI ?Jp ?x1 ?IG ?Mc ?IF ?Ey ?ID ?V2 ?IE ?V3 ?IS ?LH ?Cw ?Ph ?Pf ?Pg ?BO ?OF ?OG ?OI ?OJ ?OH ?PE ?PI ?PD ?Px ?PC ?Pz ?PL ?PF ?PN ?PJ ?Pt ?PB ?PG ?PH ?PM ?Py ?PA ?PK ?PO ?Pj ?Pc ?Oc ?M7 ?Lv ?L_ ?Ke ?MR ?KA ?K' ?Ll ?K9 ?KI ?NI ?J8 ?N3 ?Lf ?Li
  (case IC=>k_is)
  (case Nf=>k_is)
  (case KU=>k_is)
  (case Ni=>k_is)
  (case NY=>k_is)
  (case Mv=>k_is)
  (case L8=>k_is)
  (case MF=>k_is)
  (case MG=>k_is)
  (case IK=>k_is)
  (case LB=>k_is)
  (case xD=>refine' ai.ee ?z ?y ?x;(case z=>k_is);(case y=>k_is);(case x=>k_is))
  (case IJ=>k_is)
  (case LA=>k_is)
  (case uQ=>refine' ai.ee ?z ?y ?x;(case z=>k_is);(case y=>k_is);(case x=>k_is))
  (case IQ=>k_is)
  (case LG=>k_is)
  (case uT=>refine' ai.ee ?z ?y ?x;(case z=>k_is);(case y=>k_is);(case x=>k_is))
  (case IP=>k_is)
  (case LF=>k_is)
  (case sH=>refine' ai.ee ?z ?y ?x;(case z=>k_is);(case y=>k_is);(case x=>k_is))
  (case IM=>k_is)
  (case LD=>k_is)
  (case uS=>refine' ai.ee ?z ?y ?x;(case z=>k_is);(case y=>k_is);(case x=>k_is))
  (case IL=>k_is)
  (case LC=>k_is)
  (case uR=>refine' ai.ee ?z ?y ?x;(case z=>k_is);(case y=>k_is);(case x=>k_is))
  (case II=>k_is)
  (case Nh=>k_is)
  (case KW=>k_is)
  (case Nk=>k_is)
  (case N0=>k_is)
  (case Mx=>k_is)
  (case L'=>k_is)
  (case MK=>k_is)
  (case ML=>k_is)
  (case I0=>k_is)
  (case LP=>k_is)
  (case xF=>refine' ai.ee ?z ?y ?x;(case z=>k_is);(case y=>k_is);(case x=>k_is))
  (case I4=>k_is)
  (case LU=>k_is)
  (case u4=>refine' ai.ee ?z ?y ?x;(case z=>k_is);(case y=>k_is);(case x=>k_is))
  (case I5=>k_is)
  (case LV=>k_is)
  (case u5=>refine' ai.ee ?z ?y ?x;(case z=>k_is);(case y=>k_is);(case x=>k_is))
  (case I3=>k_is)
  (case LS=>k_is)
  (case u3=>refine' ai.ee ?z ?y ?x;(case z=>k_is);(case y=>k_is);(case x=>k_is))
  (case I2=>k_is)
  (case LR=>k_is)
  (case u2=>refine' ai.ee ?z ?y ?x;(case z=>k_is);(case y=>k_is);(case x=>k_is))
  (case I1=>k_is)
  (case LQ=>k_is)
  (case u1=>refine' ai.ee ?z ?y ?x;(case z=>k_is);(case y=>k_is);(case x=>k_is))
  (case IH=>k_is)
  (case Ng=>k_is)
  (case KV=>k_is)
  (case Nj=>k_is)
  (case NZ=>k_is)
  (case Mw=>k_is)
  (case L9=>k_is)
  (case MI=>k_is)
  (case MH=>k_is)
  (case MJ=>k_is)
  (case IV=>k_is)
  (case LK=>k_is)
  (case xE=>refine' ai.ee ?z ?y ?x;(case z=>k_is);(case y=>k_is);(case x=>k_is))
  (case IZ=>k_is)
  (case LO=>k_is)
  (case u0=>refine' ai.ee ?z ?y ?x;(case z=>k_is);(case y=>k_is);(case x=>k_is))
  (case IY=>k_is)
  (case LN=>k_is)
  (case uZ=>refine' ai.ee ?z ?y ?x;(case z=>k_is);(case y=>k_is);(case x=>k_is))
  (case IT=>k_is)
  (case LI=>k_is)
  (case uV=>refine' ai.ee ?z ?y ?x;(case z=>k_is);(case y=>k_is);(case x=>k_is))
  (case IW=>k_is)
  (case LL=>k_is)
  (case uX=>refine' ai.ee ?z ?y ?x;(case z=>k_is);(case y=>k_is);(case x=>k_is))
  (case IX=>k_is)
  (case LM=>k_is)
  (case uY=>refine' ai.ee ?z ?y ?x;(case z=>k_is);(case y=>k_is);(case x=>k_is))
  (case IU=>k_is)
  (case LJ=>k_is)
  (case uW=>refine' ai.ee ?z ?y ?x;(case z=>k_is);(case y=>k_is);(case x=>k_is))
  (case Jm=>k_is)
  (case xY=>refine' ai.ee ?z ?y ?x;(case z=>k_is);(case y=>k_is);(case x=>k_is))
  (case Jn=>k_is)
  (case xZ=>refine' ai.ee ?z ?y ?x;(case z=>k_is);(case y=>k_is);(case x=>k_is))
  (case Jl=>k_is)
  (case xX=>refine' ai.ee ?z ?y ?x;(case z=>k_is);(case y=>k_is);(case x=>k_is))
  (case Je=>k_is)
  (case u6=>refine' ai.ee ?z ?y ?x;(case z=>k_is);(case y=>k_is);(case x=>k_is))
  (case Ji=>k_is)
  (case xU=>refine' ai.ee ?z ?y ?x;(case z=>k_is);(case y=>k_is);(case x=>k_is))
  (case Jc=>k_is)
  (case xP=>refine' ai.ee ?z ?y ?x;(case z=>k_is);(case y=>k_is);(case x=>k_is))
  (case Jj=>k_is)
  (case xV=>refine' ai.ee ?z ?y ?x;(case z=>k_is);(case y=>k_is);(case x=>k_is))
  (case Jd=>k_is)
  (case xQ=>refine' ai.ee ?z ?y ?x;(case z=>k_is);(case y=>k_is);(case x=>k_is))
  (case Jk=>k_is)
  (case xW=>refine' ai.ee ?z ?y ?x;(case z=>k_is);(case y=>k_is);(case x=>k_is))
  (case Jq=>k_is)
  (case x2=>refine' ai.ee ?z ?y ?x;(case z=>k_is);(case y=>k_is);(case x=>k_is))
  (case Jg=>k_is)
  (case xS=>refine' ai.ee ?z ?y ?x;(case z=>k_is);(case y=>k_is);(case x=>k_is))
  (case Ju=>k_is)
  (case x5=>refine' ai.ee ?z ?y ?x;(case z=>k_is);(case y=>k_is);(case x=>k_is))
  (case Jh=>k_is)
  (case xT=>refine' ai.ee ?z ?y ?x;(case z=>k_is);(case y=>k_is);(case x=>k_is))
  (case Js=>k_is)
  (case x3=>refine' ai.ee ?z ?y ?x;(case z=>k_is);(case y=>k_is);(case x=>k_is))
  (case Jf=>k_is)
  (case xR=>refine' ai.ee ?z ?y ?x;(case z=>k_is);(case y=>k_is);(case x=>k_is))
  (case Jt=>k_is)
  (case x4=>refine' ai.ee ?z ?y ?x;(case z=>k_is);(case y=>k_is);(case x=>k_is))
  (case I6=>k_is)
  (case xG=>refine' ai.ee ?z ?y ?x;(case z=>k_is);(case y=>k_is);(case x=>k_is))
  (case I9=>k_is)
  (case xJ=>refine' ai.ee ?z ?y ?x;(case z=>k_is);(case y=>k_is);(case x=>k_is))
  (case I_=>k_is)
  (case xM=>refine' ai.ee ?z ?y ?x;(case z=>k_is);(case y=>k_is);(case x=>k_is))
  (case I'=>k_is)
  (case xK=>refine' ai.ee ?z ?y ?x;(case z=>k_is);(case y=>k_is);(case x=>k_is))
  (case Jb=>k_is)
  (case xO=>refine' ai.ee ?z ?y ?x;(case z=>k_is);(case y=>k_is);(case x=>k_is))
  (case Ja=>k_is)
  (case xN=>refine' ai.ee ?z ?y ?x;(case z=>k_is);(case y=>k_is);(case x=>k_is))
  (case I7=>k_is)
  (case xH=>refine' ai.ee ?z ?y ?x;(case z=>k_is);(case y=>k_is);(case x=>k_is))
  (case I8=>k_is)
  (case xI=>refine' ai.ee ?z ?y ?x;(case z=>k_is);(case y=>k_is);(case x=>k_is))
  (case Jp=>k_is)
  (case x1=>refine' ai.ee ?z ?y ?x;(case z=>k_is);(case y=>k_is);(case x=>k_is))
  (case IG=>k_is)
  (case Mc=>k_is)
  (case IF=>k_is)
  (case Ey=>k_is)
  (case ID=>k_is)
  (case V2=>k_is)
  (case IE=>k_is)
  (case V3=>k_is)
  (case IS=>k_is)
  (case LH=>k_is)
  (case Cw=>refine' ai.ee ?z ?y ?x;(case z=>k_is);(case y=>k_is);(case x=>k_is))
  (case Ph=>k_exc)
  (case Pf=>k_exc)
  (case Pg=>k_exc)
  (case BO=>decide+kernel)
  (case OF=>k_is)
  (case OG=>k_is)
  (case OI=>k_is)
  (case OJ=>k_is)
  (case OH=>k_is)
  (case PE=>k_is)
  (case PI=>k_is)
  (case PD=>k_is)
  (case Px=>k_is)
  (case PC=>k_is)
  (case Pz=>k_is)
  (case PL=>k_is)
  (case PF=>k_is)
  (case PN=>k_is)
  (case PJ=>k_is)
  (case Pt=>k_is)
  (case PB=>k_is)
  (case PG=>k_is)
  (case PH=>k_is)
  (case PM=>k_is)
  (case Py=>k_is)
  (case PA=>k_is)
  (case PK=>k_is)
  (case PO=>k_is)
  (case Pj=>decide+kernel)
  (case Pc=>decide+kernel)
  (case Oc=>k_is)
  (case M7=>k_is)
  (case Lv=>k_is)
  (case L_=>k_is)
  (case Ke=>k_is)
  (case MR=>k_is)
  (case KA=>k_is)
  (case K'=>k_is)
  (case Ll=>k_is)
  (case K9=>k_is)
  (case KI=>k_is)
  (case NI=>k_is)
  (case J8=>k_is)
  (case N3=>k_is)
  (case Lf=>k_is)
  (case Li=>k_is)
