import PyProof.Rows.All
import Wide.All
import OpenK.AllK
import Wide.FinOn
import Lean
import PyProof.EqAt
import PyProof.EqKinds
import PyProof.TupleCall
import PySem.Challenge.RW_postroad_k72_a_turns_bags
set_option Elab.async false
set_option linter.all false
set_option maxRecDepth 100000
set_option maxHeartbeats 4000000
abbrev bE:=@if_neg
abbrev bG:=@absurd
abbrev bM:=@if_pos
abbrev cu:=@decide_eq_true
abbrev dJ:=@decide_eq_false
abbrev ha:=@congrArg
abbrev ju:=@of_decide_eq_true
abbrev pG:=@beq_iff_eq
abbrev vk:=@beq_eq_false_iff_ne
open Array renaming getD->uI,getElem?_eq_none->Fp,getElem?_toList->Fq,getElem?_eq_getElem->J4,length_toList->J5,append_assoc->U6,Perm.refl->ž,all_eq_true_iff_forall_mem->aaa,toList->aab
open Bool renaming false_ne_true->fp,and_eq_true->jx,false_eq_true->uK,eq_false_iff->xd,eq_iff_iff->z_,not_eq_true'->Ve,or_true->Vf,true_and->Vg,and_false->aak,false_and->aal
open Classical renaming choose_spec->J',byContradiction->aaB,choose->aaC
open False renaming elim->hP
open ForInStep renaming yield->Ku
open Int renaming emod_nonneg->iu,emod_lt_of_pos->l3,toNat_natCast->mH,zero_add->qc,le_refl->sU,toNat_of_nonneg->uW,toNat->FN,ofNat.inj->KN,add_assoc->WJ,emod_eq_of_lt->WK,le_of_lt->abv,le_trans->abw
open List renaming length_map->bp,mem_map->b4,getElem?_map->c9,mem_cons->c',getElem?_eq_getElem->dv,not_mem_nil->dX,range->ek,mem_of_getElem?->eH,getD->eL,getElem?_eq_some_iff->eM,map_append->eU,mem_filter->gJ,size_toArray->g7,length_append->hi,mem_append->hj,mem_singleton->hr,map_cons->hQ,nodup_cons->iP,length_filter_le->jl,length_range->jz,map_map->jA,mem_range->lz,append_nil->l4,filter_cons->l5,length_cons->l6,getElem_of_mem->mJ,length_take->mK,mem_cons_of_mem->mL,filter_append->nq,forall_mem_cons->n',take_add_one->pk,take_length->pn,any_eq_true->qe,getElem_mem->qf,mem_append_right->rK,length->sW,lookup->sX,mem_cons_self->sY,nodup_nil->sZ,pairwise_map->s6,range_succ->s7,filter_nil->u0,getElem_inj->u1,getElem?_of_mem->x4,getElem_range->x5,length_eq_zero_iff->x6,nodup_append->x7,toArray->x8,filter_map->AZ,find?_cons->A0,getElem_map->A1,length_nil->A2,length_pos_iff->A3,map_congr_left->A4,replicate->A5,all_eq_true->FW,any_cons->FX,cons.injEq->FY,ext_getElem->FZ,filterMap_cons->F0,map_nil->F1,nodup_range->F2,take_zero->F3,ext_getElem?->KY,filter_eq_self->KZ,getElem?_cons_zero->K0,map_id'->K1,map_take->K2,mem_filterMap->K3,mem_flatMap->K4,mem_iff_getElem->K5,pairwise_iff_getElem->K6,contains_cons->W4,drop_eq_getElem_cons->W5,exists_mem_of_ne_nil->W6,filter->W7,filter_congr->W8,filter_filter->W9,getElem?_append_right->W',getElem?_set_ne->W_,getElem?_set_self->Xa,of_mem_zip->Xb,sum_cons->Xc,take_append_drop->Xd,take_of_length_le->Xe,take_sublist->Xf,Pairwise.imp_of_mem->acM,all_cons->acN,any_eq_false->acO,append_assoc->acP,countP_cons->acQ,countP_le_length->acR,countP_pos_iff->acS,find?_some->acT,getElem?_append_left->acU,getElem?_range->acV,getLastD_eq_getLast?->acW,length_flatMap->acX,mem_append_left->acY,mem_iff_getElem?->acZ,mem_of_find?_eq_some->ac0,mem_of_mem_take->ac1,pairwise_lt_range->ac2
open Nat renaming le_refl->cq,ne_of_lt->eN,le_trans->eQ,zero_le->e_,lt_of_lt_of_le->kl,le_of_lt->oc,lt_of_le_of_lt->od,le_succ->pq,lt_irrefl->qg,lt_or_ge->s8,ne_of_gt->x9,pos_of_ne_zero->A',lt_succ_self->F4,le_of_eq->K',lt_succ_of_lt->K_,lt_trans->La,not_lt_zero->Lb,succ_le_succ->Lc,succ_ne_self->Ld,min_le_right->Xz,add_le_add_left->adH,le_zero->adI,lt_of_succ_lt->adJ,min_eq_left->adK,mul_le_mul->adL,sub_self->adM
open Ne renaming symm->cR
open Option renaming map_eq_some_iff->fJ,some.inj->hF,isSome_iff_exists->rM,map_some->F5,some.injEq->Ln,getD_none->XJ,isSome_map->aed,none->aee
open Or renaming inl->cb,inr->rN
open Prod renaming ext->Bi
open PyProof.Rows renaming seqObj->jw,envOfC->ow,AllBare->rE,SortKind->ye,IntsAre->FO,keyKind'->Qg,oneType'->Rt,callWith_type1->XY,kmk_tree->XZ,Subscript_->Yj,subscriptTail->ģ,callWith_builtin1->aes,args_list_sort->akt,callWith_builtin_kwB->alG,entry_list_sort->am1,get?_update_seq->anm,slot_list_sort->arh,subscriptTail_builtinR->arj,setObjOf_fresh->as9
open PyProof.Rows.F renaming plain_set_update_loop->XX,entry_set_update_loop->aer
open PySem renaming wpAny_bind->ax,Shared->aF,wpAny->aQ,model->a9,Paired->bf,wpAny_pure->bj,World->bx,Program->bO,Value.ref->cE,FuncData->cF,Around->c0,mainGlobals->c8,Heap.lt_size->dG,Heap.get?_push_of_some->dM,starEach->dV,Str.ofString->eR,Value.none->fZ,argBest->gb,wpAny_mono->gn,Heap.get?_push_size->gq,Paired.length->gM,PyData.eqv->ht,backTo->hA,pyNext->ip,wpAny_holding->iL,bootBuiltins->i5,wpAny_loadPart_at->jj,compareOp->jF,Heap.get?_update_other->jT,codeAny->jX,Heap.SameBut->kI,PassesOwn.never->kM,backToKw->kO,keywordEach->k',sysModules->lr,Model->lA,holding->mm,tupleKind->mB,Str.empty->mQ,codeAny_builtin->mU,plainId_quiet->m7,wpAny_tryCatch->ng,Result->nu,wpAny_letGo->n2,Around.under_plainId->n7,Value.int->oh,rawInt->oV,wpAny_newObj_type->o9,wpAny_truthy_bool->o',DictEntry->pe,Heap.get?_update_self->pg,PyData.canLay0->pv,sizeLine_eq->p5,wpAny_call->p',PyData.canLayAll0->qj,wpAny_call_entry->rr,Obj.mapSeq->rL,codeAny_mono->rR,seqItems?->sx,standAt->sz,wpAny_execs_nil->sH,wpAny_seqItems->sI,CmpOp->sR,Heap.FlyingW->sT,Value.type->td,Walks->te,atKey->tg,binaryOp->ti,valueAt->uE,wpAny_updateSeq->uH,ClassData->uN,IsItemIter->uX,Keyword->uY,NameKind->u2,PyData.depthAll->u3,Value.builtin->vd,Value.str->ve,assignEach->vg,attributeBase->vh,behindInMarks->vj,bindC->vl,bindL->vm,codeAny_call_builtin->vq,getMethod->vI,storedH->wM,swapsWith->wN,wpAny_dictEntries->w7,wpAny_fieldsOf->w8,wpAny_of_eq->w9,ExcBaseFacts->xf,Heap.size_push->xN,OwnTail->x',Str->yb,Within->yd,argsOk->yj,assign->yk,callWith->yl,callerA->ym,excClassObj->yp,firstArgMember->yA,pyIter->zm,setField->zy,sliceBounds->zz,wpAny_Call_Name_kw->zO,wpAny_attempt->zP,wpAny_passesOwn->zQ,wpAny_pyIter_list->zR,BindsTo->z9,Value->Bl,mem_of_lookup->Bt,Shared.TypeIs->Bu,Walks.list->Bz,call_meetsIn->BI,entryOfKey->BX,getItem->CJ,instanceDict->Dj,setAttr->EL,unsetMember->EY,updateSeq->EZ,wpAny_dictEpoch->Fb,wpAny_isSubtype_exc->Fc,wpAny_rule->Fd,wpAny_standAt->Fe,PyData.int->F9,PyData.list->F',isInstance->HN,isTrue->HP,newExc->Ih,relabel->IZ,tupleKind_room_in1->Jh,wpAny_execs_cons->JF,wpAny_setField_rec->JG,Code.quiet_builtin->J_,Value.bool->LR,Value.isStrOf->LS,excMatches->NK,foldedSetIterable->NQ,getAttr->NW,getAttr?->NX,getAttrBy->NY,letOwnedTupleGo->Qu,noteFrame->Ra,refuseLoop->R3,setFlight->Sn,subscripted->SG,typeLookup->S',wpAny_Call_method->T3,wpAny_callSpecial?_slot->T4,wpAny_field->T5,wpAny_isInstance->T6,wpAny_isOneOf_itemiter->T7,wpAny_mkText->T8,wpAny_notOrdered_dict->T9,wpAny_typeNameOfWhole_itemiter->T',wpAny_typeNameOfWhole_keyiter->T_,wpAny_typeNameOf_itemiter->Ua,wpAny_typeNameOf_keyiter->Ub,Around.under->U5,Code.isFrame->Vy,Data.cell->VK,Data.fields->VL,Heap.HeldW->Wj,Heap.MadeExcOf->Wk,Heap.get?_none_of_le->Wl,Heap.get?_update_ne->Wm,IsItemIterOut->WL,PyData.strOk->XW,Within.cons->Yb,call->Yc,frameOf->Yd,Value.float->YC,builtinsNs->Zc,cellsFrom->Zf,closureFor->Zh,codeAny_handlers_test->Zi,entryPlaceOf->Zs,handedOut->θ,onTheHeap->ÿ,raiseStmt->ď,refuseLoop_ref->đ,richCompare->Ē,seqIndex_neg->ė,seqIndex_of->Ę,wpAny_Expr_any->Ŋ,wpAny_Name->ŋ,wpAny_handleBy_cons->Ō,wpAny_isOneOf_keyiter->ō,wpAny_newList->Ŏ,wpAny_pyIter_slot->ŏ,wpAny_setField->Ő,Heap.get?_push_at->abr,Heap.get?_some_iff->abt,Obj.data_mapDictKeys->ad4,Obj.data_mapFields->ad5,Addr->aet,Within.nil->aeT,Value.isInt_shape->aht,behindIsImport->alj,builtinLookup_eq_fast->alD,checkBuiltinCall->alI,codeAny_handlers_suite_as->alK,codeAny_of_tree->alL,fastBuiltinMro->ana,isSubtype_stop->ao0,pastItsLine_dict->aqv,plainObj_wpAny_Assign_Attribute->aqx,raiseAttrError->aqO,raiseErrorWords->aqP,size_of_entries->arc,slot_list_getitem->arf,typeLookup_type->arN,unbindBehindTheSuite->arS,wpAny_Compare1->arZ,wpAny_Dict_empty->ar0,wpAny_Try_except->ar1,wpAny_assign_Name->ar2,wpAny_isTrue_Compare1->ar3,wpAny_leaves_onW->ar4,wpAny_loadPart->ar5,wpAny_lookBehind->ar6,wpAny_looks_onW->ar7,wpAny_missedRemoval_other->ar8,wpAny_mroOf_exc->ar9,wpAny_nameGoes_keeps->asa,wpAny_newTuple->asb,wpAny_pyIter_enum->asd,wpAny_raiseNew_none->ase
open PySem.Builtin.Builtins renaming bindParams->Vk
open PySem.Builtin.Dict renaming showsAll->J7,takeOut->aao,updateFrom->aap,addKeywords->asL,dictSlotNone->asM,keyAndDefault->asN,noArgs->asO,pairItems->asP,selfAndRest->asQ
open PySem.Builtin.Dict_items renaming ownsTuple->Fu,ownedTupleFields->aaq,ownedTupleIsFree->aar,pairFromOwner->aas,dictOf->asR,newIterator->asS
open PySem.Builtin.Frozenset renaming updateFrom->asT
open PySem.Builtin.List renaming listTooLong->Vl,listUpdate->asU
open PySem.Builtin.ObjectAttr renaming storeInOwnDict->J8,find->Vm,attrName->aat,dataDescriptor?->aau,ownThenClass->aav,storeInDict->aaw,Found.value->asV,bindTo->asW,getOf->asX,inOwnDict->asY,newKeyGuard->asZ,ownDict->as0
open PySem.Builtin.Range renaming rangeSize->as1
open PySem.Calls renaming spliced_cons->uM,callWith_builtin->Ad,evalArgs_plain->Ae,spliced_nil->Fv,Name_function_global->aaz,call_function_entry->aaA
open PySem.Challenge renaming pw_postroad_k72_a_turns_bags->ata,rw_postroad_k72_a_turns_bags->atb
open PySem.EntryCells renaming newEntry->as3
open PySem.EqMixed renaming eq_bool_str->atc,eq_int_str->atd,eq_str_bool->ate,eq_str_int->atf,ne_bool_str->atg,ne_int_str->ath,ne_str_bool->ati,ne_str_int->atj
open PySem.EqNone renaming eq_bool_none->atk,eq_int_none->atl,eq_none_bool->atm,eq_none_int->atn,eq_none_none->ato,eq_none_str->atp,eq_str_none->atq,ne_bool_none->atr,ne_int_none->ats,ne_none_bool->att,ne_none_int->atu,ne_none_none->atv,ne_none_str->atw,ne_str_none->atx
open PySem.F renaming plain_min_loop->nr,plainAttrs_list->og,slot_list_append->pw,type_list_append->px,plain_max_loop->ya,entry_min_loop->Bj,excBase_ValueError->Bk,plainAttrs_dict->F_,slot_dict_pop->Lv,entry_max_loop->X0,slot_dict_get->X1,args_dict_get_2->aeu,args_dict_pop_3->aev,entry_dict_get->aew,entry_dict_pop->aex,entry_min->aey,kind_min->aez,plain_min->aeA,slot_dict_delitem->aeB,slot_dict_setdefault->aeC,store_ValueError->aeD,type_dict_pop->aeE
open PySem.Heap renaming SameBut.update->FG,ExtBut.push->KI,Ns1.of_empty->abp,SameBut.extBut->abq
open PySem.SeqAt renaming shaped->qn,EqAt->agn,EqAt.int_str->ago,EqAt.str_int->agp
open PySem.W renaming Frag->aV,findIn->b5,nsIn->dH,mg_of->e6,isFn->fX,kitOne->h8,mg_none_of->km,kia_one->mO,subIn->nt,hasDictIn->pz,keepIn->pA,Looks->qk,mroIn->ql,looks_findIn->rO,emptyDict->s_,specialIn->ta,hideAll->u4,instObj->u5,plainGet->u6,typeIn->u7,fnOf->yc,kas_place->yX,kas_sort->yY,callWith_K->Bm,excIn->Bn,makesIn->Bo,methodCall_KW->Bp,plainOver->Bq,takesIn->Br,kas_ask->DC,kas_desc->DD,kas_rev->DE,kas_tail3->DF,clsIn->Ga,isClsIn->Lw,kitMeta->Lx,lookIn->Ly,kas_bin->P_,kas_count->Qa,Looks.of_pure->Xh,Looks.ld->X2,OpenLaw->X3,codeIn->X4,findCls->X5,handedIn->X6,hideAll_get->X7,methodObj->X8,of_hideAll->X9,plainGet_of->X',readsIn->X_,takerIn->Ya,kas_descPart->Ð,WalkO->aeG,any_some->aeH,bind_fn->aeI,cellsFrom_some->aeJ,check_slot->aeK,funFrames_hide->aeL,hideAll_none->aeM,kitCls->aeN,kitx_dict->aeO,kitx_list->aeP,looks_clsIn->aeQ,looks_mroIn->aeR,looks_subIn->aeS
open PySem.W.KF renaming slot_gs->aeF,args_gs->aty,entry_class->atz,entry_gs->atA,owner_class->atB,type_class->atD
open Sum renaming inl->e7,inr->fK,inl.inj->Bw,inr.inj->LB
open True renaming intro->lC
section
abbrev bc:= List (List Nat)
abbrev cD:= Bl -> PySem.Shared -> Prop
abbrev cy:= List (aet×PySem.Obj)
abbrev cI:= yb -> Option Bl
abbrev dI:= List Nat
abbrev bS:= List aet
abbrev cC:= List Bl
abbrev b9:= List yb
abbrev gN:= Array Nat
abbrev hR:= Nat -> Nat -> Bool
abbrev lD:= List (Option Nat)
abbrev jV:= Array (Option Bl)
abbrev nx:= List (yb×Int×yb)
abbrev By:= yb×Int×yb
abbrev g8:= List Int
abbrev gO:= List PySem.Expr
abbrev fY:= List PySem.PyData
abbrev l_:= yb -> Option Int
abbrev kn:= Array Bl
abbrev yg:= Option Bl
end
namespace ao
open PySem PySem.Spec PyProof.Rows
noncomputable abbrev a':=Sum Int Str
noncomputable def wX:a'->Value->Bool
 |.inl k,v=>Value.isInt k v
 |.inr x,v=>LS x v
noncomputable def ajL(w:bx):a'->Int
 |.inl k=>hashInt k
 |.inr x=>hashStr w x
theorem qx:∀{k:a'}{v:Value},wX k v=true->(∃i t,k=e7 i/\v=oh i t)\/(∃x t,k=fK x/\v=ve x t)
 |.inl i,v,h=>by obtain⟨t,e⟩:=aht (k:=i) (v:=v) h;exact .inl ⟨i,t,rfl,e⟩
 |.inr x,v,h=>by obtain⟨t,e⟩:=Value.isStrOf_shape (x:=x) (v:=v) h;exact .inr ⟨x,t,rfl,e⟩
theorem abZ(i:Int)(t:Tok):wX (.inl i) (.int i t)=true:=by simp[wX,Value.isInt]
theorem ab0(x:Str)(t:Tok):wX (.inr x) (.str x t)=true:=by simp[wX,LS]
theorem agC(a b:Int):decide ((e7 a:a')=e7 b)=(a==b):=by
 by_cases e:a=b
 .subst e;simp
 .have h:¬(e7 a:a')=e7 b:=λq=>e (Bw q);rw[dJ h];exact(vk.mpr e).symm
theorem agD(a b:Str):decide ((fK a:a')=fK b)=decide (a=b):=by
 by_cases e:a=b
 .subst e;simp
 .have h:¬(fK a:a')=fK b:=λq=>e (LB q);rw[dJ h,dJ e]
theorem agE(a:Int)(b:Str):decide ((e7 a:a')=fK b)=false:=dJ (λq=>nomatch q)
theorem agx(a:Str)(b:Int):decide ((fK a:a')=e7 b)=false:=dJ (λq=>nomatch q)
noncomputable def gj(prog:bO)(w:bx):PySem.KeyKind prog w a' where
 is:=wX
 hash:=ajL w
 inj:=λv a b aK U=>by
  rcases qx aK with⟨i,t,rfl,rfl⟩|⟨x,t,rfl,rfl⟩
  .rcases qx U with⟨j,u,rfl,e⟩|⟨y,u,rfl,e⟩
   .injection e with aB _;rw[aB]
   .exact nomatch e
  .rcases qx U with⟨j,u,rfl,e⟩|⟨y,u,rfl,e⟩
   .exact nomatch e
   .injection e with aB _;rw[aB]
 byValue:=λk v h=>by rcases qx h with⟨i,t,rfl,rfl⟩|⟨x,t,rfl,rfl⟩<;>rfl
 pyHash:=λbz h=>by
  rcases qx bz with⟨i,t,rfl,rfl⟩|⟨x,t,rfl,rfl⟩
  .exact wpAny_pyHash_int h
  .exact wpAny_pyHash_str h
 eqBool:=λb7 bz h=>by
  rcases qx b7 with⟨i,t,rfl,rfl⟩|⟨x,t,rfl,rfl⟩
  .rcases qx bz with⟨j,u,rfl,rfl⟩|⟨y,u,rfl,rfl⟩
   .rw[agC]at h;exact wpAny_eqBool_int h
   .rw[agE]at h;exact ago i t y u _ _ _ _ h
  .rcases qx bz with⟨j,u,rfl,rfl⟩|⟨y,u,rfl,rfl⟩
   .rw[agx]at h;exact agp x t j u _ _ _ _ h
   .rw[agD]at h;exact wpAny_eqBool_str h
 «strs»:=λk x t v h=>by
  rcases qx h with⟨i,u,rfl,e⟩|⟨y,u,rfl,e⟩
  .exact nomatch e
  .injection e with aB _;subst aB;cases v<;>rfl
theorem aah(prog:bO)(w:bx)(i:Int)(t:Tok):(gj prog w).is (.inl i) (.int i t)=true:=abZ i t
theorem aai(prog:bO)(w:bx)(x:Str)(t:Tok):(gj prog w).is (.inr x) (.str x t)=true:=ab0 x t
inductive V where
 |bq|aM (b:Bool)|int (i:Int)|str (x:Str)|om (b:Array UInt8)|vE (b:UInt64)|ref (a:Addr)|ty (n:String)
 deriving DecidableEq
abbrev aZ:= List V
abbrev l':= Option V
noncomputable def RelV:V->Value->Prop
 |.bq,u=>u=fZ
 |.aM b,u=>u=LR b
 |.int i,u=>∃t,u=oh i t
 |.str x,u=>∃t,u=ve x t
 |.om b,u=>∃t,u=Value.bytes b t
 |.vE b,u=>∃t,u=YC b t
 |.ref a,u=>u=cE a
 |.ty n,u=>u=td n
noncomputable abbrev cO:List V->List Value->Prop:=bf RelV
theorem cO.length{xs:aZ}{us:cC}(r:cO xs us):xs.length=us.length:=gM r
theorem cO.get:∀{xs:aZ}{us:cC}{i:Nat}{x:V},cO xs us->xs[i]?=some x->∃u,us[i]?=some u/\RelV x u
 |_,_,_,_,.nil,e=>by simp at e
 |_,_,0,_,.cons r _,e=>by simp at e;subst e;exact⟨_,rfl,r⟩
 |_,_,i+1,x,.cons _ t,e=>by obtain⟨u,af,ai⟩:=cO.get (i:=i) (x:=x) t (by simpa using e);exact⟨u,by simpa using af,ai⟩
theorem cO.set{x:V}{u:Value}(r:RelV x u):∀{xs:aZ}{us:cC}(i:Nat),cO xs us->cO (xs.set i x) (us.set i u)
 |_,_,_,.nil=>.nil
 |_,_,0,.cons _ t=>.cons r t
 |_,_,i+1,.cons q t=>.cons q (cO.set r i t)
theorem cO.append:∀{xs ys:aZ}{us ws:cC},cO xs us->cO ys ws->cO (xs++ys) (us++ws)
 |_,_,_,_,.nil,s=>s
 |_,_,_,_,.cons r t,s=>.cons r (cO.append t s)
theorem cO.take:∀{xs:aZ}{us:cC}(n:Nat),cO xs us->cO (xs.take n) (us.take n)
 |_,_,0,_=>.nil
 |_,_,_+1,.nil=>.nil
 |_,_,n+1,.cons r t=>.cons r (cO.take n t)
theorem cO.drop:∀{xs:aZ}{us:cC}(n:Nat),cO xs us->cO (xs.drop n) (us.drop n)
 |_,_,0,r=>r
 |_,_,_+1,.nil=>.nil
 |_,_,n+1,.cons _ t=>cO.drop n t
noncomputable def iX:Option V->Option Value->Prop
 |some v,some u=>RelV v u
 |none,none=>True
 |_,_=>False
noncomputable def gC{κ:Type}:List (κ×V)->List (κ×Value)->Prop:=bf λ(p:κ×V)(q:κ×Value)=>p.1=q.1/\RelV p.2 q.2
noncomputable def dn:a'->V
 |.inl i=>.int i
 |.inr x=>.str x
inductive ee where
  |lst (xs:aZ)
  |tup (xs:aZ)
  |b0 (kvs:List (a'×V))|c3 (kvs:List (List a'×V))
  |set (S:Int->Bool) (n:Nat)
  |ins (C ah:Addr) (fs:List (Str×V))
  |own (x:Addr)
  |JJ (fs:List (Str×V))
  |met (f x:Addr)
  |I1 (lo ar:Int)
  |eO (o:Obj) (u:ee)
  |p6 (ps:kn)
  |ext (rB:Heap->Prop)
noncomputable abbrev ae:=Addr->Option ee
noncomputable def upd(H:ae)(a:Addr)(o:ee):ae:=λb=>if b=a then some o else H b
theorem aP{H:ae}{a:Addr}{o:ee}:upd H a o a=some o:=by unfold upd;rw[bM rfl]
theorem aA{H:ae}{a b:Addr}{o:ee}(h:b≠a):upd H a o b=H b:=by unfold upd;rw[bE h]
theorem V'{H:ae}{a:Addr}{o u:ee}:upd (upd H a o) a u=upd H a u:=by funext b;unfold upd;split<;>rfl
theorem h4{H:ae}{a b:Addr}{o u:ee}(h:H a=some o)(h':H b=some u)(d:o≠u):a≠b:=by intro e;subst e;rw[h]at h';exact d (hF h')
theorem bZ{H:ae}{a b:Addr}{o:ee}(h:H a=some o)(h':H b=none):a≠b:=by intro e;subst e;rw[h]at h';cases h'
section
variable(P:bO)(w:bx)
noncomputable def el(H:ae)(h:Heap)(a:Addr):ee->Prop
 |.lst xs=>xs.length<=sizeLine/\∃(its:cC)(n:Nat),cO xs its/\h.get? a=some {cls:=.type "list",data:=.seq its.toArray n}
 |.tup xs=>xs.length<=sizeLine/\∃its:List Value,cO xs its/\IsTup h a its.toArray
 |.b0 kvs=>kvs.length<=sizeLine/\(a==lr)=false/\∃vs,gC kvs vs/\h.DictOf (gj P w) a vs
 |.c3 kvs=>kvs.length<=sizeLine/\(a==lr)=false/\∃xs:List (List a'×Addr×Value),
   bf (λ(p:List a'×V)(q:List a'×Addr×Value)=>p.1=q.1/\H q.2.1=some (.tup (p.1.map dn))/\RelV p.2 q.2.2) kvs xs/\
   ∃o es ep,h.get? a=some o/\o.ExactDict/\o.data=.dict es ep/\es.toList=xs.map (BX (mB (gj P w)))/\(xs.map (·.1)).Nodup
 |.set S n=>h.SetOf (intKind P w) a S n
 |.ins C ah fs=>H ah=some (.own a)/\fs.length<=1000/\ah≠a/\h.get? a=some (u5 C ah)/\
   ∃mA,h.Ns1 ah mA/\(∀f,iX (fs.lookup f) (mA f))/\yd mA (fs.map (·.1))
 |.own _=>∃o,h.get? a=some o
 |.JJ fs=>∃mA,h.Ns1 a mA/\∀f,iX (fs.lookup f) (mA f)
 |.I1 lo ar=>∃t u v,h.get? a=some {cls:=.type "range",data:=.fields #[.int lo t,.int ar u,.int 1 v]}
 |.eO o u=>h.get? a=some o/\el H h a u
 |.p6 ps=>h.get? a=some {cls:=.none,data:=.fields ps}
 |.met f x=>h.get? a=some (X8 (.ref f) (.ref x))
 |.ext rB=>rB h/\(∃o,h.get? a=some o)/\∀af ai:Heap,rB af->(∀o,af.get? a=some o->ai.get? a=some o)->rB ai
noncomputable def fq(H:ae)(h:Heap):Prop:=∀a o,H a=some o->el P w H h a o
end
section
variable{P:bO}{w:bx}{H H':ae}{h h':Heap}{a:Addr}{o:ee}
theorem el.lt(x:el P w H h a o):a<h.objs.size:=by
 cases o with
 |lst xs=>obtain⟨_,_,_,_,e⟩:=x;exact dG e
 |tup xs=>obtain⟨_,_,_,p⟩:=x;exact p.lt
 |b0 kvs=>obtain⟨_,_,_,_,o,_,_,e,_⟩:=x;exact dG e
 |c3 kvs=>obtain⟨_,_,_,_,o,_,_,e,_⟩:=x;exact dG e
 |set S n=>obtain⟨o,_,_,_,e,_⟩:=x;exact dG e
 |ins C ah fs=>obtain⟨_,_,_,e,_⟩:=x;exact dG e
 |own y=>obtain⟨_,e⟩:=x;exact dG e
 |JJ fs=>obtain⟨_,⟨_,_,_,e,_⟩,_⟩:=x;exact dG e
 |I1 lo ar=>obtain⟨_,_,_,e⟩:=x;exact dG e
 |eO ob u=>obtain⟨e,_⟩:=x;exact dG e
 |p6 ps=>exact dG (show h.get? a=some _ from x)
 |met f y=>exact dG (show h.get? a=some _ from x)
 |ext rB=>obtain⟨_,⟨_,e⟩,_⟩:=x;exact dG e
theorem bf.eE{α β:Type}{F G:α->β->Prop}:∀{Þ:List α}{ß:List β},bf F Þ ß->(∀a b,F a b->G a b)->bf G Þ ß
 |_,_,.nil,_=>.nil
 |_,_,.cons r t,f=>.cons (f _ _ r) (bf.eE t f)
theorem el.nd(x:el P w H h a o)(k:∀b u,(b=a\/H b=some (.own a))->h.get? b=some u->h'.get? b=some u)(a3:∀b,H b=some (.own a)->H' b=some (.own a))(df:∀b xs,H b=some (.tup xs)->H' b=some (.tup xs)):el P w H' h' a o:=by
 induction o with
 |lst xs=>obtain⟨z,its,n,r,e⟩:=x;exact⟨z,its,n,r,k _ _ (.inl rfl) e⟩
 |tup xs=>obtain⟨z,its,r,ob,e,c⟩:=x;exact⟨z,its,r,ob,k _ _ (.inl rfl) e,c⟩
 |b0 kvs=>obtain⟨z,y,vs,r,ob,es,ep,e,c⟩:=x;exact⟨z,y,vs,r,ob,es,ep,k _ _ (.inl rfl) e,c⟩
 |c3 kvs=>
  obtain⟨z,y,xs,r,ob,es,ep,e,c⟩:=x;exact⟨z,y,xs,bf.eE r λp q z=>⟨z.1,df _ _ z.2.1,z.2.2⟩,ob,es,ep,k _ _ (.inl rfl) e,c⟩
 |set S n=>obtain⟨ob,es,ep,t,e,c⟩:=x;exact⟨ob,es,ep,t,k _ _ (.inl rfl) e,c⟩
 |ins C ah fs=>
  obtain⟨d,z,ne,e,mA,⟨ea,es,ep,aD,c⟩,r⟩:=x;exact⟨a3 _ d,z,ne,k _ _ (.inl rfl) e,mA,⟨ea,es,ep,k _ _ (.inr d) aD,c⟩,r⟩
 |own y=>obtain⟨ob,e⟩:=x;exact⟨ob,k _ _ (.inl rfl) e⟩
 |JJ fs=>obtain⟨mA,⟨ea,es,ep,e,c⟩,r⟩:=x;exact⟨mA,⟨ea,es,ep,k _ _ (.inl rfl) e,c⟩,r⟩
 |I1 lo ar=>obtain⟨t,u,v,e⟩:=x;exact⟨t,u,v,k _ _ (.inl rfl) e⟩
 |eO ob u a6=>obtain⟨e,q⟩:=x;exact⟨k _ _ (.inl rfl) e,a6 q⟩
 |p6 ps=>
  have e:h.get? a=some {cls:=.none,data:=.fields ps}:=x;show h'.get? a=some {cls:=.none,data:=.fields ps};exact k a _ (.inl rfl) e
 |met f y=>
  have e:h.get? a=some (X8 (.ref f) (.ref y)):=x;show h'.get? a=some (X8 (.ref f) (.ref y));exact k a _ (.inl rfl) e
 |ext rB=>obtain⟨p,⟨o,e⟩,st⟩:=x;exact⟨st _ _ p λo q=>k _ _ (.inl rfl) q,⟨o,k _ _ (.inl rfl) e⟩,st⟩
theorem fq.lt(x:fq P w H h)(e:H a=some o):a<h.objs.size:=(x a o e).lt
theorem fq.fresh(x:fq P w H h)(e:h.objs.size<=a):H a=none:=by
 cases q:H a with
 |none=>rfl
 |some u=>exact bG (kl (x.lt q) e) (qg _)
theorem fq.kept(x:fq P w H h)(k:∀b u,h.get? b=some u->h'.get? b=some u):fq P w H h':=λa o e=>
 (x a o e).nd (λb u _ q=>k b u q) (λ_ q=>q) λ_ _ q=>q
theorem fq.laid(x:fq P w H h)(k:∀b u,h.get? b=some u->h'.get? b=some u)(aO:h.objs.size<=a)(new:el P w (upd H a o) h' a o):fq P w (upd H a o) h':=λb u e=>by
 have aT:=x.fresh aO;by_cases U:b=a
 .subst U;rw[aP]at e;cases e;exact new
 .rw[aA U]at e;exact(x b u e).nd (λc v _ q=>k c v q) (λc q=>by rw[aA (bZ q aT)];exact q) λc xs q=>by rw[aA (bZ q aT)];exact q
end
noncomputable def gD(H:ae)(a:Addr)(u:ee):Prop:=H a=some u\/∃o,H a=some (.eO o u)
theorem gD.ok{P:bO}{w:bx}{H:ae}{h:Heap}{a:Addr}{u:ee}(r:gD H a u)(x:fq P w H h):el P w H h a u:=by
 rcases r with r|⟨o,r⟩
 .exact x a u r
 .obtain⟨_,q⟩:=x a _ r;exact q
noncomputable def A7:Option ee->Prop
 |some (.lst _)=>True
 |some (.b0 _)=>True
 |some (.c3 _)=>True
 |some (.set _ _)=>True
 |some (.ins _ _ _)=>True
 |some (.ext _)=>True
 |_=>False
section
variable{P:bO}{w:bx}{H:ae}{h h':Heap}{x e:Addr}{cL:ee}
theorem fq.write(ok:fq P w H h)(bH:A7 (H x))(he:e=x\/H e=some (.own x))(k:∀b u,b≠e->h.get? b=some u->h'.get? b=some u)(yI:∃u,h'.get? e=some u)(new:el P w (upd H x cL) h' x cL):fq P w (upd H x cL) h':=λb u q=>by
 have õ:∀c y,H c=some (.own y)->c≠x:=λc y r z=>by subst z;rw[r]at bH;exact bH
 have aqh:∀c xs,H c=some (.tup xs)->c≠x:=λc xs r z=>by subst z;rw[r]at bH;exact bH
 by_cases U:b=x
 .subst U;rw[aP]at q;cases q;exact new
 .rw[aA U]at q;by_cases qL:b=e
  .have fR:H b=some (.own x):=by
    rcases he with z|z
    .exact bG (qL.trans z) U
    .rw[qL];exact z
   rw[q]at fR;cases fR;obtain⟨v,bz⟩:=yI;exact⟨v,by rw[qL];exact bz⟩
  .refine(ok b u q).nd (λc v ay r=>k c v ?_ r) (λc r=>by rw[aA (õ c b r)];exact r) λc xs r=>by rw[aA (aqh c xs r)];exact r
   rcases ay with rfl|ay
   .exact qL
   .rintro rfl;rcases he with z|z
    .exact õ c b ay z
    .rw[ay]at z;cases z;exact U rfl
end
structure h9(fs ex:bS)(H H':ae)(h h':Heap):Prop where
 keep:∀b o,h.get? b=some o->H b=none->b∉fs->b∉ex->h'.get? b=some o
 slot:∀b o,h.get? b=some o->H b=none->b∈fs->b∉ex->∃bo,h'.get? b=some {o with slots:=bo}
 free:∀b o,h.get? b=some o->H b=none->b∉ex->H' b=none
 there:∀b o,h.get? b=some o->b∉ex->∃cL,h'.get? b=some cL
 hM:∀b xs,H b=some (.tup xs)->H' b=some (.tup xs)
 iT:∀b o u,H b=some (.eO o u)->H' b=some (.eO o u)
 ji:∀b ps,H b=some (.p6 ps)->∃more,H' b=some (.p6 (ps++more))
section
variable{fs anh ex atV:bS}{H H1 ag:ae}{h af ai h':Heap}{a x e:Addr}{o:ee}
theorem h9.any(u:h9 fs ex H H1 h af){b:Addr}{ob:Obj}(q:h.get? b=some ob)(n:H b=none)(av:b∉ex):∃bo,af.get? b=some {ob with slots:=bo}:=by
 by_cases U:b∈fs
 .exact u.slot b ob q n U av
 .exact⟨ob.slots,u.keep b ob q n U av⟩
theorem h9.kept(k:∀b u,h.get? b=some u->h'.get? b=some u):h9 fs ex H H h h':=
 ⟨λb ob q _ _ _=>k b ob q,λb ob q _ _ _=>⟨ob.slots,k b ob q⟩,λ_ _ _ n _=>n,λb ob q _=>⟨ob,k b ob q⟩,λ_ _ q=>q,λ_ _ _ q=>q,λ_ ps q=>⟨#[],by rw[q];simp⟩⟩
theorem h9.refl:h9 fs ex H H h h:=h9.kept λ_ _ q=>q
theorem h9.laid(k:∀b u,h.get? b=some u->h'.get? b=some u)(aO:h.objs.size<=a)(aT:H a=none):h9 fs ex H (upd H a o) h h' where
 keep:=λb u q _ _ _=>k b u q
 slot:=λb u q _ _ _=>⟨u.slots,k b u q⟩
 free:=λb u q n _=>by rw[aA (eN (kl (dG q) aO))];exact n
 there:=λb u q _=>⟨u,k b u q⟩
 hM:=λb xs q=>by rw[aA (bZ q aT)];exact q
 iT:=λb u xs q=>by rw[aA (bZ q aT)];exact q
 ji:=λb ps q=>⟨#[],by rw[aA (bZ q aT),q];simp⟩
theorem h9.write(bH:A7 (H x))(he:e=x\/H e=some (.own x))(k:∀b u,b≠e->h.get? b=some u->h'.get? b=some u)(yI:∃u,h'.get? e=some u):h9 fs ex H (upd H x o) h h':=by
 have av:∀b,H b=none->b≠x:=λb n z=>by subst z;rw[n]at bH;exact bH
 have U:∀b,H b=none->b≠e:=λb n z=>by
  subst z;rcases he with r|r
  .exact av b n r
  .rw[n]at r;cases r
 have hm:∀b u,H b=some u->¬A7 (some u)->b≠x:=λb u q nm z=>by subst z;rw[q]at bH;exact nm bH
 refine⟨λb u q n _ _=>k b u (U b n) q,λb u q n _ _=>⟨u.slots,k b u (U b n) q⟩,λb u q n _=>by rw[aA (av b n)];exact n,λb u q _=>?_,
  λb xs q=>by rw[aA (hm b _ q λz=>z)];exact q,λb u xs q=>by rw[aA (hm b _ q λz=>z)];exact q,λb ps q=>⟨#[],by rw[aA (hm b _ q λz=>z),q];simp⟩⟩
 by_cases qL:b=e
 .subst qL;exact yI
 .exact⟨u,k b u qL q⟩
end
noncomputable def Jg(h:Heap)(H:ae):List Addr:=(ek h.objs.size).filter λa=>(H a).isSome
noncomputable def sJ(h:Heap)(H:ae):Heap:=u4 h (Jg h H)
theorem ab1(h:Heap)(H:ae):(sJ h H).objs.size=h.objs.size:=PySem.W.hideAll_size _ _
theorem acD{h:Heap}{H:ae}{b:Addr}{o:Obj}(e:h.get? b=some o)(n:H b=none):(sJ h H).get? b=some o:=
 X7 _ e λhm=>by have q:(H b).isSome=true:=(gJ.mp hm).2;rw[n]at q;simp at q
theorem afn{h:Heap}{H:ae}{b:Addr}{o:Obj}(e:(sJ h H).get? b=some o):h.get? b=some o/\H b=none:=by
 have cm:h.get? b=some o:=X9 (Jg h H) e;refine⟨cm,?_⟩;cases q:H b with
 |none=>rfl
 |some x=>
  have hm:b∈Jg h H:=gJ.mpr ⟨lz.mpr (dG cm),by simp[q]⟩;have z:(sJ h H).get? b=none:=aeM (Jg h H) hm;rw[z]at e;cases e
structure Mod(K:aV)(mg:cI)(base:Heap):Prop where
 sf:K.In base
 glob:base.Ns c8 mg
 blt:∃oG,base.Ns Zc oG/\∀x:Str,x≠"__name__"->oG x=i5 x
 nolimit:base.NoLimit
structure bg where
 prog:bO
 w:bx
 K:aV
 mg:Str->Option Value
 base:Heap
 A:c0
 N:List Str
 iH:aF
 mG:ae
 env:Env
 outer:List Env
 stack:List Env
 ex:List Addr
 fn:Str->Bool
 calm:Bool
 fg:List (Addr×Obj)
 d0:Value->aF->Prop
noncomputable def fy(l:List Env):List Addr:=l.filterMap (·.frame)
noncomputable abbrev bg.fs(X:bg):List Addr:=fy X.outer
noncomputable def LU(sc:Scope)(x:Str):Prop:=sc.names.lookup x=some .local\/sc.names.lookup x=some .cell\/sc.names.lookup x=some .free
noncomputable def Loc(sc:Scope)(x:Str):Prop:=sc.names.lookup x=some .local\/sc.names.lookup x=some .cell
noncomputable def Look(env:Env)(h:Heap)(m:cI)(x:Str)(u:Value):Prop:=
 (env.kindOf x=some .local/\m x=some u)\/((env.kindOf x=some .cell\/env.kindOf x=some .free)/\∃c,env.cells.lookup x=some c/\h.IsCell c (some u))
structure bg.Ok(X:bg):Prop where
 mod:Mod X.K X.mg X.base
 kind:X.env.scope.kind=.function
 glob:X.env.globals=c8
 blt:X.env.builtins=Zc
 above:X.iH.heap.objs.size<=X.env.locals
 inj:∀x y c,X.env.cells.lookup x=some c->X.env.cells.lookup y=some c->x=y
 has:∀x,(X.env.kindOf x=some .cell\/X.env.kindOf x=some .free)->∃c,X.env.cells.lookup x=some c
 vo:∀x c,X.fn x=true->X.env.cells.lookup x=some c->X.iH.heap.objs.size<=c
 hd:X.calm=true->X.A.handled=none
 frames:X.A.frames=some X.stack
 rk:X.stack=X.outer\/(X.stack=X.env::X.outer/\X.env.frame=some X.env.locals)
 GG:∀b∈X.ex,b≠X.env.locals/\∀x c,X.env.cells.lookup x=some c->c≠b
 bs:∀b o,X.base.get? b=some o->X.iH.heap.get? b=some o/\X.mG b=none
 qr:X.base.objs.size<=X.iH.heap.objs.size
 wi:∀b o,X.base.get? b=some o->b∉X.ex
 yq:∀b∈X.ex,b∉X.fs
 kr:X.iH.heap.FunFrames X.base X.outer
 rW:∀b∈X.fs,X.mG b=none
structure Inv(X:bg)(pins:cy)(σ:List (Option V))(H:ae)(s:aF):Prop where
 ok:X.Ok
 os:s.os=X.iH.os
 bare:rE s.gens
 base:h9 X.fs X.ex X.mG H X.iH.heap s.heap
 loc:∃m,s.heap.Ns X.env.locals m/\∀(i:Nat)(x:Str)(v:V),X.N[i]?=some x->σ[i]?=some (some v)->LU X.env.scope x->∃u,RelV v u/\Look X.env s.heap m x u
 cell:∀x c,X.env.cells.lookup x=some c->∃v,s.heap.IsCell c v
 free:H X.env.locals=none
 mW:∀x c,X.env.cells.lookup x=some c->H c=none
 pin:∀p∈X.fg++pins,s.heap.get? p.1=some p.2/\H p.1=none/\p.1≠X.env.locals/\p.1∉X.fs/\∀v,p.2.data≠.cell v
 bb:fq X.prog X.w H s.heap
 len:σ.length=X.N.length
section
variable{X:bg}{pins:cy}{σ:List (Option V)}{H H':ae}{s:aF}{h':Heap}
theorem bg.Ok.ap3(ok:X.Ok){b:Addr}{o:Obj}(e:X.base.get? b=some o):b∉X.fs:=λU=>by have:=(ok.kr.mem U).1;rw[e]at this;cases this
theorem Inv.bs(I:Inv X pins σ H s):∀b o,X.base.get? b=some o->s.heap.get? b=some o/\H b=none:=λb o e=>
 ⟨I.base.keep b o (I.ok.bs b o e).1 (I.ok.bs b o e).2 (I.ok.ap3 e) (I.ok.wi b o e),I.base.free b o (I.ok.bs b o e).1 (I.ok.bs b o e).2 (I.ok.wi b o e)⟩
theorem Inv.gv(I:Inv X pins σ H s):∀b o,X.base.get? b=some o->s.heap.get? b=some o:=λb o e=>(I.bs b o e).1
theorem Inv.mod(I:Inv X pins σ H s):Mod X.K X.mg X.base:=I.ok.mod
theorem Inv.eD(I:Inv X pins σ H s):X.K.In s.heap:=I.ok.mod.sf.keeps I.gv
theorem Inv.lt(I:Inv X pins σ H s):X.env.locals<s.heap.objs.size:=let⟨_,aT,_⟩:=I.loc;aT.lt
theorem Inv.jh(I:Inv X pins σ H s):X.iH.heap.objs.size<=s.heap.objs.size:=eQ I.ok.above (oc I.lt)
theorem Inv.ap5(I:Inv X pins σ H s){a:Addr}(h:s.heap.objs.size<=a):a∉X.fs:=λU=>by obtain⟨_,o,a3,_⟩:=I.ok.kr.mem U;exact bG (kl (dG a3) (eQ I.jh h)) (qg _)
theorem Inv.pI(I:Inv X pins σ H s):∀x c,X.env.cells.lookup x=some c->c≠X.env.locals:=λx c e z=>by obtain⟨v,o,a3,hd⟩:=I.cell x c e;obtain⟨m,⟨cL,es,ep,kY,mZ,_⟩,_⟩:=I.loc;rw[z,kY]at a3;cases a3;rw[mZ]at hd;cases hd
theorem Inv.kr(I:Inv X pins σ H s):s.heap.FunFrames X.base X.outer:=by
 have all:∀(l:List Env),(∀b∈fy l,b∈X.fs)->X.iH.heap.FunFrames X.base l->s.heap.FunFrames X.base l:=by
  intro l
  induction l with
  |nil=>intro _ _;trivial
  |cons env r a6=>
   intro hs aj;obtain⟨aX,⟨L,o,hf,aT,a3,hd⟩,aq⟩:=aj;have iB:L∈X.fs:=hs L (by unfold fy;rw[F0,hf];exact sY);obtain⟨bo,e⟩:=I.base.slot L o a3 (I.ok.rW L iB) iB λz=>I.ok.yq L z iB;exact⟨aX,⟨L,_,hf,aT,e,hd⟩,a6 (λb U=>hs b (by unfold fy;rw[F0,hf];exact mL _ U)) aq⟩
 exact all X.outer (λ_ U=>U) I.ok.kr
theorem Inv.stack(I:Inv X pins σ H s):s.heap.FunFrames X.base X.stack:=by
 rcases I.ok.rk with e|⟨e,hf⟩
 .rw[e];exact I.kr
 .rw[e];obtain⟨m,aT,_⟩:=I.loc;refine .cons (by rw[I.ok.kind];decide) hf aT ?_ I.kr;exact Wl (eQ I.ok.qr I.ok.above)
theorem Inv.ER(I:Inv X pins σ H s):∀b∈fy X.stack,b∈X.env.locals::X.fs:=λb U=>by
 rcases I.ok.rk with e|⟨e,hf⟩
 .rw[e]at U;exact mL _ U
 .rw[e]at U;unfold fy at U;rw[F0,hf]at U;exact U
theorem Inv.Ja(I:Inv X pins σ H s):∀b∈fy X.stack,H b=none:=λb U=>by
 rcases c'.mp (I.ER b U)with e|U
 .rw[e];exact I.free
 .obtain⟨_,o,a3,_⟩:=I.ok.kr.mem U;exact I.base.free b o a3 (I.ok.rW b U) λz=>I.ok.yq b z U
theorem Inv.step{g':Array GenState}{t':Nat}{d':Drawn}{ch:bS}(I:Inv X pins σ H s)(ih:∀b∈ch,(b∈X.ex\/X.iH.heap.objs.size<=b)/\b≠X.env.locals/\(∀x c,X.env.cells.lookup x=some c->c≠b)/\∀p∈X.fg++pins,p.1≠b)(keep:∀b o,b≠X.env.locals->b∉X.fs->b∉ch->s.heap.get? b=some o->H b=none->h'.get? b=some o)(slot:∀b o,b≠X.env.locals->b∈X.fs->b∉ch->s.heap.get? b=some o->H b=none->∃bo,h'.get? b=some {o with slots:=bo})(free:∀b o,b∉ch->s.heap.get? b=some o->H b=none->H' b=none)(there:∀b o,b∉ch->s.heap.get? b=some o->∃cL,h'.get? b=some cL)(hM:∀b xs,H b=some (.tup xs)->H' b=some (.tup xs))(iT:∀b o u,H b=some (.eO o u)->H' b=some (.eO o u))(ji:∀b ps,H b=some (.p6 ps)->∃more,H' b=some (.p6 (ps++more)))(ns:∀m,s.heap.Ns X.env.locals m->h'.Ns X.env.locals m)(bb:fq X.prog X.w H' h')(bP:rE g'):
  Inv X pins σ H' {s with heap:=h',gens:=g',drawn:=d',toks:=t'}:=by
 have ï:∀b o,X.iH.heap.get? b=some o->b≠X.env.locals:=λb o e=>eN (kl (dG e) I.ok.above);have Ig:∀b o,X.iH.heap.get? b=some o->b∉X.ex->b∉ch:=λb o e av U=>by
  rcases(ih b U).1 with z|z
  .exact av z
  .exact bG (kl (dG e) z) (qg _)
 have cellK:∀x c,X.env.cells.lookup x=some c->∀v,s.heap.IsCell c v->h'.IsCell c v:=λx c e v⟨o,a3,hd⟩=>by
  have pW:c∉ch:=λz=>(ih c z).2.2.1 x c e rfl;by_cases ay:c∈X.fs
  .obtain⟨bo,q⟩:=slot c o (I.pI x c e) ay pW a3 (I.mW x c e);exact⟨_,q,hd⟩
  .exact⟨o,keep c o (I.pI x c e) ay pW a3 (I.mW x c e),hd⟩
 refine⟨I.ok,I.os,bP,⟨λb o e n U av=>?_,λb o e n U av=>?_,λb o e n av=>?_,λb o e av=>?_,λb xs e=>hM b xs (I.base.hM b xs e),λb o xs e=>iT b o xs (I.base.iT b o xs e),λb ps e=>?_⟩,?_,λx c e=>?_,?_,λx c e=>?_,λp aO=>?_,bb,I.len⟩
 .exact keep b o (ï b o e) U (Ig b o e av) (I.base.keep b o e n U av) (I.base.free b o e n av)
 .obtain⟨bo,aB⟩:=I.base.slot b o e n U av;obtain⟨lW,aD⟩:=slot b _ (ï b o e) U (Ig b o e av) aB (I.base.free b o e n av);exact⟨lW,aD⟩
 .obtain⟨cL,aB⟩:=I.base.there b o e av;exact free b cL (Ig b o e av) aB (I.base.free b o e n av)
 .obtain⟨cL,aB⟩:=I.base.there b o e av;exact there b cL (Ig b o e av) aB
 .obtain⟨gW,aB⟩:=I.base.ji b ps e;obtain⟨la,aD⟩:=ji b _ aB;exact⟨gW++la,by rw[aD,U6]⟩
 .obtain⟨m,aT,aj⟩:=I.loc;refine⟨m,ns m aT,λi x v aB aD cH=>?_⟩;obtain⟨u,r,l⟩:=aj i x v aB aD cH;refine⟨u,r,?_⟩;rcases l with l|⟨k,c,e,z⟩
  .exact .inl l
  .exact .inr ⟨k,c,e,cellK x c e _ z⟩
 .obtain⟨v,z⟩:=I.cell x c e;exact⟨v,cellK x c e v z⟩
 .obtain⟨m,⟨o,_,_,a3,_⟩,_⟩:=I.loc;exact free _ o (λz=>(ih _ z).2.1 rfl) a3 I.free
 .obtain⟨v,o,a3,hd⟩:=I.cell x c e;exact free c o (λz=>(ih c z).2.2.1 x c e rfl) a3 (I.mW x c e)
 .obtain⟨e,n,ne,gz,d⟩:=I.pin p aO;have pW:p.1∉ch:=λz=>(ih p.1 z).2.2.2 p aO rfl;exact⟨keep p.1 p.2 ne gz pW e n,free p.1 p.2 pW e n,ne,gz,d⟩
theorem Inv.un{t':Nat}(I:Inv X pins σ H s)(u:h9 X.fs [] H H' s.heap h')(bb:fq X.prog X.w H' h'):Inv X pins σ H' {s with heap:=h',toks:=t'}:=by
 obtain⟨m,⟨o,es,ep,a3,r⟩,_⟩:=id I.loc;obtain⟨bo,iB⟩:=u.any a3 I.free (by simp);exact I.step (g':=s.gens) (d':=s.drawn) (ch:=[]) (λ_ z=>nomatch z) (λb o _ U _ e n=>u.keep b o e n U (by simp)) (λb o _ U _ e n=>u.slot b o e n U (by simp)) (λb o _ e n=>u.free b o e n (by simp)) (λb o _ e=>u.there b o e (by simp)) u.hM u.iT u.ji (λcV hm=>by
  obtain⟨cL,lG,nD,kY,cw⟩:=hm;rw[a3]at kY;cases kY;exact⟨_,lG,nD,iB,cw⟩) bb I.bare
theorem Inv.call{g':Array GenState}{t':Nat}{d':Drawn}{ch:bS}(I:Inv X pins σ H s)(u:h9 (fy X.stack) ch H H' s.heap h')(bb:fq X.prog X.w H' h')(bP:rE g')(ih:∀b∈ch,(b∈X.ex\/X.iH.heap.objs.size<=b)/\b≠X.env.locals/\(∀x c,X.env.cells.lookup x=some c->c≠b)/\∀p∈X.fg++pins,p.1≠b):
  Inv X pins σ H' {s with heap:=h',gens:=g',drawn:=d',toks:=t'}:=by
 obtain⟨m,⟨o,es,ep,a3,r⟩,_⟩:=id I.loc;obtain⟨bo,iB⟩:=u.any a3 I.free λz=>(ih _ z).2.1 rfl;exact I.step (ch:=ch) ih (λb o iB U ay e n=>u.keep b o e n (λz=>(c'.mp (I.ER b z)).elim iB U) ay) (λb o _ _ ay e n=>u.any e n ay) (λb o ay e n=>u.free b o e n ay) (λb o ay e=>u.there b o e ay) u.hM u.iT u.ji (λcV hm=>by
  obtain⟨cL,lG,nD,kY,cw⟩:=hm;rw[a3]at kY;cases kY;exact⟨_,lG,nD,iB,cw⟩) bb bP
theorem Inv.turned{t':Nat}{it:Addr}(I:Inv X pins σ H s)(k:∀b o,b≠it->s.heap.get? b=some o->h'.get? b=some o)(aT:H it=none)(iB:it≠X.env.locals)(af:it∈X.ex\/X.iH.heap.objs.size<=it)(ai:∀x c,X.env.cells.lookup x=some c->c≠it)(bU:∀p∈X.fg++pins,p.1≠it):Inv X pins σ H {s with heap:=h',toks:=t'}:=by
 have ð:∀b u,H b=some u->b≠it:=λb u e z=>by rw[z,aT]at e;cases e
 refine I.step (g':=s.gens) (d':=s.drawn) (ch:=[it]) (λb U=>?_) (λb o _ _ ay e _=>k b o (λz=>ay (by simp[z])) e) (λb o _ _ ay e _=>⟨o.slots,k b o (λz=>ay (by simp[z])) e⟩) (λ_ _ _ _ n=>n)
  (λb o ay e=>⟨o,k b o (λz=>ay (by simp[z])) e⟩) (λ_ _ e=>e) (λ_ _ _ e=>e) (λb ps e=>⟨#[],by rw[e];simp⟩) (λm hm=>?_) (λb u e=>?_) I.bare
 .have e:b=it:=by simpa using U
  subst e;exact⟨af,iB,ai,bU⟩
 .obtain⟨o,es,ep,a3,r⟩:=hm;exact⟨o,es,ep,k _ o (cR iB) a3,r⟩
 .refine(I.bb b u e).nd (λc v ay q=>k c v ?_ q) (λ_ q=>q) λ_ _ q=>q;rcases ay with z|z
  .rw[z];exact ð b u e
  .exact ð c _ z
theorem Inv.tok(I:Inv X pins σ H s)(t:Nat):Inv X pins σ H {s with toks:=t}:=I.un (h':=s.heap) (t':=t) h9.refl I.bb
theorem Inv.kept{t':Nat}(I:Inv X pins σ H s)(k:∀b u,s.heap.get? b=some u->h'.get? b=some u):Inv X pins σ H {s with heap:=h',toks:=t'}:=I.un (h9.kept k) (I.bb.kept k)
theorem Inv.laid{a:Addr}{o:ee}{t':Nat}(I:Inv X pins σ H s)(k:∀b u,s.heap.get? b=some u->h'.get? b=some u)(aO:s.heap.objs.size<=a)(new:el X.prog X.w (upd H a o) h' a o):
  Inv X pins σ (upd H a o) {s with heap:=h',toks:=t'}:=I.un (h9.laid k aO (I.bb.fresh aO)) (I.bb.laid k aO new)
theorem Inv.write{x e:Addr}{o:ee}{t':Nat}(I:Inv X pins σ H s)(bH:A7 (H x))(he:e=x\/H e=some (.own x))(k:∀b u,b≠e->s.heap.get? b=some u->h'.get? b=some u)(yI:∃u,h'.get? e=some u)(new:el X.prog X.w (upd H x o) h' x o):Inv X pins σ (upd H x o) {s with heap:=h',toks:=t'}:=I.un (h9.write bH he k yI) (I.bb.write bH he k yI new)
theorem Inv.ă{Ă:cy}(I:Inv X pins σ H s)(h:∀p∈Ă,s.heap.get? p.1=some p.2/\H p.1=none/\p.1≠X.env.locals/\p.1∉X.fs/\∀v,p.2.data≠.cell v):Inv X Ă σ H s:=
 ⟨I.ok,I.os,I.bare,I.base,I.loc,I.cell,I.free,I.mW,λp aO=>(hj.mp aO).elim (λz=>I.pin p (acY _ z)) (h p),I.bb,I.len⟩
theorem Tq{N:b9}(eJ:N.Nodup){i j:Nat}{x:Str}(a:N[i]?=some x)(b:N[j]?=some x):i=j:=by obtain⟨af,aB⟩:=eM.mp a;obtain⟨ai,aD⟩:=eM.mp b;exact(u1 eJ).mp (aB.trans aD.symm)
theorem Ŕ{M:lA}{A:c0}{E:cD}{i:Nat}{x:Str}{v:V}{u:Value}{Q:Unit->aF->Prop}(I:Inv X pins σ H s)(eJ:X.N.Nodup)(ar:X.N[i]?=some x)(av:Loc X.env.scope x)(r:RelV v u)(h:∀s',Inv X pins (σ.set i (some v)) H s'->(∃a,kI a s.heap s'.heap/\(a=X.env.locals\/X.env.cells.lookup x=some a))->Q () s')(hf:X.fn x=true\/X.env.scope.names.lookup x=some .local:=by first|exact .inl rfl|exact .inr rfl|assumption):aQ M A (storeName X.env x u) Q E s:=by
 obtain⟨m,aT,aj⟩:=id I.loc;have CW:(X.env.scope.kind==.class||(X.env.scope.kind==.module&&X.env.locals !=X.env.globals))=false:=by rw[I.ok.kind];rfl
 have Hr:i<σ.length:=by rw[I.len];exact(eM.mp ar).1
 have pI:=I.pI;have tracked:∀{a:Addr}{h':Heap},(∃o,s.heap.get? a=some o/\H a=none)->kI a s.heap h'->fq X.prog X.w H h':=λ{a h'}aK hs b ob e=>by
  obtain⟨_,_,Hp⟩:=aK;refine(I.bb b ob e).nd (λc e5 ay q=>(hs.2 c ?_).trans q) (λ_ q=>q) λ_ _ q=>q;rintro rfl;rcases ay with rfl|ay
  .rw[Hp]at e;cases e
  .rw[Hp]at ay;cases ay
 rcases av with aX|aX
 .refine wpAny_storeName_local aX aT (λh' qP hs=>?_) CW;obtain⟨aqo,_,_,aon,_⟩:=id aT;refine h _ ⟨I.ok,I.os,I.bare,⟨λb o e n U av=>?_,λb o e n U av=>?_,I.base.free,λb o e av=>?_,I.base.hM,I.base.iT,I.base.ji⟩,⟨_,qP,λj y sF aB aD cH=>?_⟩,λy c e=>?_,I.free,I.mW,λp aO=>?_,tracked ⟨aqo,aon,I.free⟩ hs,by simpa using I.len⟩ ⟨_,hs,.inl rfl⟩
  .exact(hs.2 b (eN (kl (dG e) I.ok.above))).trans (I.base.keep b o e n U av)
  .obtain⟨bo,aB⟩:=I.base.slot b o e n U av;exact⟨bo,(hs.2 b (eN (kl (dG e) I.ok.above))).trans aB⟩
  .obtain⟨cL,aB⟩:=I.base.there b o e av;exact⟨cL,(hs.2 b (eN (kl (dG e) I.ok.above))).trans aB⟩
  .by_cases bL:j=i
   .subst bL;rw[ar]at aB;cases aB;rw[Xa Hr]at aD;cases aD;exact⟨u,r,.inl ⟨aX,by simp⟩⟩
   .rw[W_ (cR bL)]at aD;obtain⟨u',cw,q⟩:=aj j y sF aB aD cH;refine⟨u',cw,?_⟩;rcases q with⟨k,e⟩|⟨k,c,e,z⟩
    .refine .inl ⟨k,?_⟩;have:y≠x:=λe=>bL (Tq eJ aB (e▸ar));simp[this,e]
    .exact .inr ⟨k,c,e,z.sameBut hs (pI y c e)⟩
  .obtain⟨e5,z⟩:=I.cell y c e;exact⟨e5,z.sameBut hs (pI y c e)⟩
  .obtain⟨e,n,ne,gz,d⟩:=I.pin p aO;exact⟨(hs.2 p.1 ne).trans e,n,ne,gz,d⟩
 .have OD:X.fn x=true:=by
   rcases hf with z|z
   .exact z
   .rw[z]at aX;cases aX
  obtain⟨c,ay⟩:=I.ok.has x (.inl aX);obtain⟨e5,z⟩:=I.cell x c ay;refine wpAny_storeName_cell I.ok.kind aX ay z (λh' kx hs=>?_);obtain⟨mu,Ψ,aop⟩:=id z;refine h {s with heap:=h'} ⟨I.ok,I.os,I.bare,⟨λb o e n U av=>?_,λb o e n U av=>?_,I.base.free,λb o e av=>?_,I.base.hM,I.base.iT,I.base.ji⟩,⟨m,aT.sameBut hs (cR (pI x c ay)),λj y sF aB aD cH=>?_⟩,λy mb e=>?_,I.free,I.mW,λp aO=>?_,tracked ⟨mu,Ψ,I.mW x c ay⟩ hs,by simpa using I.len⟩ ⟨c,hs,.inr ay⟩
  .exact(hs.2 b (eN (kl (dG e) (I.ok.vo x c OD ay)))).trans (I.base.keep b o e n U av)
  .obtain⟨bo,aB⟩:=I.base.slot b o e n U av;exact⟨bo,(hs.2 b (eN (kl (dG e) (I.ok.vo x c OD ay)))).trans aB⟩
  .obtain⟨cL,aB⟩:=I.base.there b o e av;exact⟨cL,(hs.2 b (eN (kl (dG e) (I.ok.vo x c OD ay)))).trans aB⟩
  .by_cases bL:j=i
   .subst bL;rw[ar]at aB;cases aB;rw[Xa Hr]at aD;cases aD;exact⟨u,r,.inr ⟨.inl aX,c,ay,kx⟩⟩
   .rw[W_ (cR bL)]at aD;obtain⟨u',cw,q⟩:=aj j y sF aB aD cH;refine⟨u',cw,?_⟩;rcases q with q|⟨k,mb,e,dr⟩
    .exact .inl q
    .refine .inr ⟨k,mb,e,dr.sameBut hs ?_⟩;rintro rfl;exact bL (Tq eJ aB (I.ok.inj _ _ _ e ay▸ar))
  .by_cases φ:mb=c
   .subst φ;exact⟨_,kx⟩
   .obtain⟨fU,bA⟩:=I.cell y mb e;exact⟨fU,bA.sameBut hs φ⟩
  .obtain⟨e,n,ne,gz,d⟩:=I.pin p aO;refine⟨(hs.2 p.1 ?_).trans e,n,ne,gz,d⟩;intro q;rw[q,Ψ]at e;have fR:mu=p.2:=hF e;exact d e5 (by rw[<-fR];exact aop)
theorem IM{M:lA}{A:c0}{E:cD}{i:Nat}{x:Str}{v:V}{u:Value}{Q:Unit->aF->Prop}(I:Inv X pins σ H s)(eJ:X.N.Nodup)(ar:X.N[i]?=some x)(av:Loc X.env.scope x)(r:RelV v u)(h:∀s',Inv X pins (σ.set i (some v)) H s'->Q () s')(hf:X.fn x=true\/X.env.scope.names.lookup x=some .local:=by first|exact .inl rfl|exact .inr rfl|assumption):aQ M A (storeName X.env x u) Q E s:=
 Ŕ I eJ ar av r (λs' ph _=>h s' ph) hf
theorem Inv.BH{s':aF}{ch:bS}(I:Inv X pins σ H s)(a3:s'.os=s.os)(u:h9 (fy X.stack) ch H H' s.heap s'.heap)(bb:fq X.prog X.w H' s'.heap)(bP:rE s'.gens)(ih:∀b∈ch,(b∈X.ex\/X.iH.heap.objs.size<=b)/\b≠X.env.locals/\(∀x c,X.env.cells.lookup x=some c->c≠b)/\∀p∈X.fg++pins,p.1≠b):Inv X pins σ H' s':=by obtain⟨h',g',d',t',cL⟩:=s';have e:cL=s.os:=a3;subst e;exact I.call (g':=g') (t':=t') (d':=d') u bb bP ih
end
noncomputable abbrev b6:=Value->Option Addr->ae->Prop
noncomputable abbrev St:=List (Option V)
noncomputable abbrev ba:=V->ae->Prop
noncomputable abbrev TE:=St->ae->ba->Prop
noncomputable abbrev TT:=St->ae->(Bool->ae->Prop)->Prop
noncomputable abbrev gi:=St->ae->(List V->ae->Prop)->Prop
structure Ends where
 cj:St->ae->Prop
 my:ba
 gv:St->ae->Prop:=λ_ _=>False
 e':St->ae->Prop:=λ_ _=>False
noncomputable abbrev e8:=Ends->St->ae->Prop
noncomputable def ir(X:bg)(pins:cy)(σ:St)(Q:ba)(u:Value)(s':aF):Prop:=∃v H',Inv X pins σ H' s'/\RelV v u/\Q v H'
noncomputable def LF(X:bg)(pins:cy)(σ:St)(Q:Bool->ae->Prop)(b:Bool)(s':aF):Prop:=∃H',Inv X pins σ H' s'/\Q b H'
noncomputable def U4(X:bg)(pins:cy)(σ:St)(Q:List V->ae->Prop)(us:cC)(s':aF):Prop:=∃vs H',Inv X pins σ H' s'/\cO vs us/\Q vs H'
noncomputable def pC(X:bg)(pins:cy)(D:Ends)(f:Flow)(s':aF):Prop:=
 match f with
 |.next=>∃a4 H',Inv X pins a4 H' s'/\D.cj a4 H'
 |.brk=>∃a4 H',Inv X pins a4 H' s'/\D.gv a4 H'
 |.cont=>∃a4 H',Inv X pins a4 H' s'/\D.e' a4 H'
 |.ret u=>∃v a4 H',Inv X pins a4 H' s'/\RelV v u/\D.my v H'
noncomputable def bl(X:bg)(e:Expr)(t:TE):Prop:=
 ∀(pins:cy)(s:aF)(σ:St)(H:ae)(Q:ba),Inv X pins σ H s->t σ H Q->aQ (a9 X.prog X.w) X.A (eval e X.env) (ir X pins σ Q) X.d0 s
noncomputable def lB(X:bg)(e:Expr)(t:TT):Prop:=
 ∀(pins:cy)(s:aF)(σ:St)(H:ae)(Q:Bool->ae->Prop),Inv X pins σ H s->t σ H Q->aQ (a9 X.prog X.w) X.A (HP e X.env (eval e X.env)) (LF X pins σ Q) X.d0 s
noncomputable def iv(X:bg)(e:Expr)(t:TT):Prop:=
 ∀(whole:Sem Value)(pins:cy)(s:aF)(σ:St)(H:ae)(Q:Bool->ae->Prop),Inv X pins σ H s->t σ H Q->aQ (a9 X.prog X.w) X.A (HP e X.env whole) (LF X pins σ Q) X.d0 s
theorem iv.pt{X:bg}{e:Expr}{t:TT}(h:iv X e t):lB X e t:=h _
noncomputable def fV(X:bg)(es:gO)(t:gi):Prop:=
 ∀(pos:Pos)(pins:cy)(s:aF)(σ:St)(H:ae)(Q:List V->ae->Prop),Inv X pins σ H s->t σ H Q->aQ (a9 X.prog X.w) X.A (spliced (hA pos (dV es X.env))) (U4 X pins σ Q) X.d0 s
noncomputable def fW(X:bg)(st:Stmt)(t:e8):Prop:=
 ∀(pins:cy)(s:aF)(σ:St)(H:ae)(D:Ends),Inv X pins σ H s->t D σ H->aQ (a9 X.prog X.w) X.A (exec st X.env) (pC X pins D) X.d0 s
noncomputable def f_(X:bg)(st:List Stmt)(t:e8):Prop:=
 ∀(pins:cy)(s:aF)(σ:St)(H:ae)(D:Ends),Inv X pins σ H s->t D σ H->aQ (a9 X.prog X.w) X.A (execs st X.env) (pC X pins D) X.d0 s
theorem bF{α:Type}{t:Sem α}{Q mP:α->aF->Prop}{M:lA}{A:c0}{E:cD}{s:aF}(h:aQ M A t Q E s)(ff:∀a s,Q a s->mP a s):aQ M A t mP E s:=gn h ff λ_ _ x=>x
section
variable{X:bg}
theorem bin{a b:Expr}{b_ dc:TE}(aK:bl X a b_)(U:bl X b dc){pins:cy}{s:aF}{σ:St}{H:ae}{R:V->V->ae->Prop}(I:Inv X pins σ H s)(h:b_ σ H λx H1=>dc σ H1 λy ag=>R x y ag){α:Type}{Q:α->aF->Prop}{f:Value->Value->Sem α}(hf:∀v u s2 x y ag,Inv X pins σ ag s2->RelV x v->RelV y u->R x y ag->aQ (a9 X.prog X.w) X.A (f v u) Q X.d0 s2):
  aQ (a9 X.prog X.w) X.A (eval a X.env) (λv dU=>aQ (a9 X.prog X.w) X.A (eval b X.env) (λu rm=>aQ (a9 X.prog X.w) X.A (f v u) Q X.d0 rm) X.d0 dU) X.d0 s:=by refine bF (aK pins s σ H _ I h) λv s1⟨x,H1,aR,ck,bQ⟩=>?_;refine bF (U pins s1 σ H1 _ aR bQ) λu s2⟨y,ag,bD,dZ,cZ⟩=>?_;exact hf v u s2 x y ag bD ck dZ cZ
inductive ahX(i:Nat)(σ:ao.St)(H:ae)(Q:ba):Prop where
 |mk (v:_) (bV:σ[i]?=some (some v)) (bA:Q v H)
noncomputable def LC(i:Nat):TE:=λσ H Q=>ahX i σ H Q
noncomputable def sC(v:V):TE:=λ_ H Q=>Q v H
theorem agy{i:Nat}{x:Str}{pos:Pos}(eJ:X.N[i]?=some x)(bz:LU X.env.scope x)(hd:(x==("__debug__":Str))=false:=by decide)(j5:(x==("__classdict__":Str))=false:=by decide):bl X (.Name x pos) (LC i):=by
 intro pins s σ H Q I h;obtain⟨v,e,h⟩:=h;obtain⟨m,aT,aj⟩:=I.loc;obtain⟨u,r,l⟩:=aj i x v eJ e bz;have fin:ir X pins σ Q u s:=⟨v,H,I,r,h⟩
 rcases l with⟨aX,hm⟩|⟨aX,c,ay,tK⟩
 .exact ŋ (wpAny_loadName_local I.ok.kind aX aT hm fin) hd
 .rcases aX with aX|aX
  .exact ŋ (wpAny_loadName_cell I.ok.kind aX ay tK fin) hd
  .exact ŋ (wpAny_loadName_free I.ok.kind aX ay tK fin j5) hd
theorem aW{i j pos}:bl X (.Constant (.int i) j pos) (sC (.int i)):=λ_ _ _ H _ I h=>wpAny_Constant_int ⟨.int i,H,I.tok _,⟨_,rfl⟩,h⟩
theorem hW{b j pos}:bl X (.Constant (.bool b) j pos) (sC (.aM b)):=λ_ _ _ H _ I h=>Constant_bool ⟨.aM b,H,I,rfl,h⟩
theorem kU{j pos}:bl X (.Constant .none j pos) (sC .bq):=λ_ _ _ H _ I h=>Constant_none ⟨.bq,H,I,rfl,h⟩
theorem j2{x j pos}:bl X (.Constant (.str x) j pos) (sC (.str x)):=λ_ _ _ H _ I h=>Calls.Constant_str ⟨.str x,H,I.tok _,⟨_,rfl⟩,h⟩
noncomputable def i3(X:bg)(x:Str):Prop:=X.env.kindOf x=some .globalImplicit
theorem r_{E:cD}{pins:cy}{s:aF}{σ:St}{H:ae}{x:Str}{u:Value}{pos:Pos}{Q:cD}(I:Inv X pins σ H s)(bP:i3 X x)(hm:X.mg x=some u)(h:Q u s)(hd:(x==("__debug__":Str))=false:=by decide):aQ (a9 X.prog X.w) X.A (eval (.Name x pos) X.env) Q E s:=
 aaz I.ok.kind bP (Calls.loadGlobal_global (by rw[I.ok.glob];exact I.mod.glob.keeps I.gv) hm h) hd
theorem wz{E:cD}{pins:cy}{s:aF}{σ:St}{H:ae}{x:Str}{u:Value}{pos:Pos}{Q:cD}(I:Inv X pins σ H s)(bP:i3 X x)(hm:X.mg x=none)(bz:i5 x=some u)(h:Q u s)(aT:x≠"__name__":=by decide)(hd:(x==("__debug__":Str))=false:=by decide):aQ (a9 X.prog X.w) X.A (eval (.Name x pos) X.env) Q E s:=by obtain⟨oG,af,ai⟩:=I.mod.blt;exact aaz I.ok.kind bP (Calls.loadGlobal_builtin (by rw[I.ok.glob];exact I.mod.glob.keeps I.gv) hm (by rw[I.ok.blt];exact af.keeps I.gv) ((ai x aT).trans bz) h) hd
theorem V_{x:Str}{v:V}{u:Value}{pos:Pos}(bP:i3 X x)(hm:X.mg x=some u)(r:RelV v u)(hd:(x==("__debug__":Str))=false:=by decide):bl X (.Name x pos) (sC v):=
 λ_ _ _ H _ I h=>r_ I bP hm ⟨v,H,I,r,h⟩ hd
theorem afo{x:Str}{v:V}{u:Value}{pos:Pos}(bP:i3 X x)(hm:X.mg x=none)(bz:i5 x=some u)(r:RelV v u)(aT:x≠"__name__":=by decide)(hd:(x==("__debug__":Str))=false:=by decide):bl X (.Name x pos) (sC v):=
 λ_ _ _ H _ I h=>wz I bP hm bz ⟨v,H,I,r,h⟩ aT hd
variable{a b:Expr}{b_ dc:TE}{pos:Pos}
noncomputable def Lo(X:bg)(op:sR)(a b:Expr)(t:TE):Prop:=
 ∀(pins:cy)(s:aF)(σ:St)(H:ae)(Q:ba),Inv X pins σ H s->t σ H Q->
  aQ (a9 X.prog X.w) X.A (eval a X.env) (λv dU=>aQ (a9 X.prog X.w) X.A (eval b X.env) (λu rm=>aQ (a9 X.prog X.w) X.A (jF op v u) (ir X pins σ Q) X.d0 rm) X.d0 dU) X.d0 s
theorem Vb(b:Expr){op:sR}(h:op≠.In)(ai:op≠.NotIn):vj op b=false:=by
 have aB:(op==CmpOp.In)=false:=by cases op<;>first|rfl|exact bG rfl h
 have aD:(op==CmpOp.NotIn)=false:=by cases op<;>first|rfl|exact bG rfl ai
 cases b<;>simp[vj,aB,aD]
inductive WO(x:V)(H1:ae)(Q:Bool->ae->Prop):Prop where
 |mk (c:_) (bV:x=.aM c) (bA:Q c H1)
noncomputable def ĩ(t:TE):TT:=λσ H Q=>t σ H λx H1=>WO x H1 Q
theorem agz{op:sR}{t:TE}(h:Lo X op a b t)(af:vj op b=false:=by first|exact Vb _ (by decide) (by decide)|rfl):bl X (.Compare a [op] [b] pos) t:=λpins s σ H Q I hw=>arZ (h pins s σ H Q I hw) af
theorem Kd{op:sR}{t:TE}(h:Lo X op a b t)(af:vj op b=false:=by first|exact Vb _ (by decide) (by decide)|rfl):lB X (.Compare a [op] [b] pos) (ĩ t):=by intro pins s σ H Q I hw;refine ar3 (bF (h pins s σ H _ I hw) λv s1 af=>bF af λu s2 ai=>bF ai λc s3⟨x,H1,aR,ck,bQ⟩=>?_) af;obtain⟨d,rfl,q⟩:=bQ;cases ck;exact o' ⟨H1,aR,q⟩
theorem iR{e:Expr}{t:TE}(h:bl X e t)(he:∀whole,HP e X.env whole=(do let v <-whole;sz e.pos;mm [v] (truthy v)):=by intro _;rfl):lB X e (ĩ t):=by intro pins s σ H Q I hw;refine isTrue_plain (bF (h pins s σ H _ I hw) λv s1⟨x,H1,aR,ck,bQ⟩=>?_) (he _);obtain⟨d,rfl,q⟩:=bQ;cases ck;exact o' ⟨H1,aR,q⟩
variable{rn Jd:TT}{rest:gO}
noncomputable def LD(t u:TT):TT:=λσ H Q=>t σ H λc H1=>if c=true then u σ H1 Q else Q false H1
noncomputable def arC(t u:TT):TT:=λσ H Q=>t σ H λc H1=>if c=true then Q true H1 else u σ H1 Q
noncomputable def ajM(t:TT):TT:=λσ H Q=>t σ H λc H1=>Q (!c) H1
theorem Ea(aK:lB X a rn):iv X (.BoolOp .And [a] pos) rn:=by
 intro ki pins s σ H Q I h;refine isTrue_and (bF (aK pins s σ H Q I h) λc s1 e=>?_);cases c with
 |true=>exact isTrue_and_nil e
 |false=>exact e
theorem pR(aK:lB X a rn):iv X (.BoolOp .Or [a] pos) rn:=by
 intro ki pins s σ H Q I h;refine isTrue_or (bF (aK pins s σ H Q I h) λc s1 e=>?_);cases c with
 |false=>exact isTrue_or_nil e
 |true=>exact e
theorem t5(aK:lB X a rn)(U:iv X (.BoolOp .And (b::rest) pos) Jd):iv X (.BoolOp .And (a::b::rest) pos) (LD rn Jd):=by
 intro ki pins s σ H Q I h;refine isTrue_and (bF (aK pins s σ H _ I h) λc s1⟨H1,aR,bQ⟩=>?_);cases c with
 |true=>exact U ki pins s1 σ H1 Q aR bQ
 |false=>exact⟨H1,aR,bQ⟩
theorem oI(aK:lB X a rn)(U:iv X (.BoolOp .Or (b::rest) pos) Jd):iv X (.BoolOp .Or (a::b::rest) pos) (arC rn Jd):=by
 intro ki pins s σ H Q I h;refine isTrue_or (bF (aK pins s σ H _ I h) λc s1⟨H1,aR,bQ⟩=>?_);cases c with
 |true=>exact⟨H1,aR,bQ⟩
 |false=>exact U ki pins s1 σ H1 Q aR bQ
theorem i7(aK:lB X a rn):lB X (.UnaryOp .Not a pos) (ajM rn):=by intro pins s σ H Q I h;exact isTrue_not (aK pins s σ H (λc H1=>Q (!c) H1) I h)
noncomputable def Fy(b_ dc:TE):TE:=λσ H Q=>b_ σ H λx H1=>∃c,x=.aM c/\if c=true then dc σ H1 Q else Q (.aM false) H1
noncomputable def ajN(b_ dc:TE):TE:=λσ H Q=>b_ σ H λx H1=>∃c,x=.aM c/\if c=true then Q (.aM true) H1 else dc σ H1 Q
noncomputable def WP(b_:TE):TE:=λσ H Q=>b_ σ H λx H1=>∃c,x=.aM c/\Q (.aM (!c)) H1
theorem m3{op}{t:TE}(h:bl X a t):bl X (.BoolOp op [a] pos) t:=λpins s σ H Q I hw=>BoolOp_one (h pins s σ H Q I hw)
theorem jK(aK:bl X a b_)(U:bl X (.BoolOp .And (b::rest) pos) dc):bl X (.BoolOp .And (a::b::rest) pos) (Fy b_ dc):=by
 intro pins s σ H Q I h;refine BoolOp_and (bF (aK pins s σ H _ I h) λv s1⟨x,H1,aR,ck,bQ⟩=>?_);obtain⟨c,rfl,bQ⟩:=bQ;cases ck;refine o' ?_;cases c with
 |true=>exact U pins s1 σ H1 Q aR bQ
 |false=>exact⟨.aM false,H1,aR,rfl,bQ⟩
theorem ahY(aK:bl X a b_)(U:bl X (.BoolOp .Or (b::rest) pos) dc):bl X (.BoolOp .Or (a::b::rest) pos) (ajN b_ dc):=by
 intro pins s σ H Q I h;refine BoolOp_or (bF (aK pins s σ H _ I h) λv s1⟨x,H1,aR,ck,bQ⟩=>?_);obtain⟨c,rfl,bQ⟩:=bQ;cases ck;refine o' ?_;cases c with
 |false=>exact U pins s1 σ H1 Q aR bQ
 |true=>exact⟨.aM true,H1,aR,rfl,bQ⟩
theorem WY(aK:bl X a b_):bl X (.UnaryOp .Not a pos) (WP b_):=by intro pins s σ H Q I h;refine UnaryOp_ (bF (aK pins s σ H _ I h) λv s1⟨x,H1,aR,ck,bQ⟩=>?_);obtain⟨c,rfl,bQ⟩:=bQ;cases ck;exact not_of (o' ⟨.aM (!c),H1,aR,rfl,bQ⟩)
end
noncomputable def aJ(K:aV)(H:ae)(a:Addr)(xs:aZ):Prop:=
 gD H a (.lst xs)\/
  ∃(o:Obj)(its:kn)(n:Nat),K.lookup a=some o/\o.cls=.type "list"/\o.dict=none/\o.data=.seq its n/\its.size<=sizeLine/\cO xs its.toList
noncomputable def cN(K:aV)(H:ae)(a:Addr)(xs:aZ):Prop:=
 gD H a (.tup xs)\/
  ∃(o:Obj)(its:kn)(n:Nat),K.lookup a=some o/\o.cls=.type "tuple"/\o.data=.seq its n/\its.size<=sizeLine/\cO xs its.toList
noncomputable def ajO:Value->Option V
 |.none=>some .bq
 |.bool b=>some (.aM b)
 |.int i _=>some (.int i)
 |.str x _=>some (.str x)
 |.bytes b _=>some (.om b)
 |.float b _=>some (.vE b)
 |.ref a=>some (.ref a)
 |.type n=>some (.ty n)
 |_=>none
theorem RelV.abs{x:V}{u:Value}(r:RelV x u):ajO u=some x:=by
 cases x with
 |bq=>cases r;rfl
 |aM _=>cases r;rfl
 |int _=>obtain⟨t,rfl⟩:=r;rfl
 |str _=>obtain⟨t,rfl⟩:=r;rfl
 |om _=>obtain⟨t,rfl⟩:=r;rfl
 |vE _=>obtain⟨t,rfl⟩:=r;rfl
 |ref _=>cases r;rfl
 |ty _=>cases r;rfl
theorem RelV.inj{x y:V}{u:Value}(r:RelV x u)(q:RelV y u):x=y:=hF (r.abs.symm.trans q.abs)
theorem cO.inj:∀{xs ys:aZ}{us:cC},cO xs us->cO ys us->xs=ys
 |_,_,_,.nil,.nil=>rfl
 |_,_,_,.cons r t,.cons cw t'=>by rw[r.inj cw,cO.inj t t']
section
variable{X:bg}{pins:cy}{σ:St}{H:ae}{s:aF}{a:Addr}{xs ys:aZ}
theorem aJ.of{K:aV}(h:H a=some (.lst xs)):aJ K H a xs:=.inl (.inl h)
theorem cN.of{K:aV}(h:H a=some (.tup xs)):cN K H a xs:=.inl (.inl h)
theorem Inv.list(I:Inv X pins σ H s)(h:aJ X.K H a xs):∃its:List Value,cO xs its/\PlainL s.heap a its.toArray/\xs.length<=sizeLine:=by
 rcases h with h|⟨o,its,n,aX,ay,hd,hs,hz,r⟩
 .obtain⟨z,its,n,r,e⟩:=h.ok I.bb;exact⟨its,r,⟨_,n,e,rfl,rfl,rfl⟩,z⟩
 .refine⟨its.toList,r,⟨o,n,I.eD a o aX,ay,hd,by simpa using hs⟩,?_⟩;have e:=r.length;simp only[J5]at e;omega
theorem Inv.tuple(I:Inv X pins σ H s)(h:cN X.K H a xs):∃its:List Value,cO xs its/\IsTup s.heap a its.toArray/\xs.length<=sizeLine:=by
 rcases h with h|⟨o,its,n,aX,ay,hs,hz,r⟩
 .obtain⟨z,its,r,p⟩:=h.ok I.bb;exact⟨its,r,p,z⟩
 .refine⟨its.toList,r,⟨o,I.eD a o aX,ay,n,by simpa using hs⟩,?_⟩;have e:=r.length;simp only[J5]at e;omega
theorem Inv.Ö(I:Inv X pins σ H s)(h:aJ X.K H a xs)(h':aJ X.K H a ys):xs=ys:=by
 obtain⟨its,r,⟨o,n,e,_,_,d⟩,_⟩:=I.list h;obtain⟨its',cw,⟨cL,lQ,cm,_,_,d'⟩,_⟩:=I.list h';rw[e]at cm;cases cm;rw[d]at d';injection d' with jH _;have:its=its':=by simpa using ha aab jH
 subst this;exact r.inj cw
theorem Inv.arM(I:Inv X pins σ H s)(h:cN X.K H a xs)(h':cN X.K H a ys):xs=ys:=by
 obtain⟨its,r,⟨o,e,_,n,d⟩,_⟩:=I.tuple h;obtain⟨its',cw,⟨cL,cm,_,lQ,d'⟩,_⟩:=I.tuple h';rw[e]at cm;cases cm;rw[d]at d';injection d' with jH _;have:its=its':=by simpa using ha aab jH
 subst this;exact r.inj cw
end
noncomputable abbrev bg.kG(X:bg)(E:cD):bg:={X with d0:=E}
noncomputable abbrev bg.q7(X:bg):bg:=X.kG λ_ _=>False
theorem bg.Ok.kG{X:bg}(ok:X.Ok)(E:cD):(X.kG E).Ok:=
 ⟨ok.mod,ok.kind,ok.glob,ok.blt,ok.above,ok.inj,ok.has,ok.vo,ok.hd,ok.frames,ok.rk,ok.GG,ok.bs,ok.qr,ok.wi,ok.yq,ok.kr,ok.rW⟩
theorem bg.Ok.kF{X:bg}{E:cD}(ok:(X.kG E).Ok):X.Ok:=
 ⟨ok.mod,ok.kind,ok.glob,ok.blt,ok.above,ok.inj,ok.has,ok.vo,ok.hd,ok.frames,ok.rk,ok.GG,ok.bs,ok.qr,ok.wi,ok.yq,ok.kr,ok.rW⟩
section
variable{X:bg}{pins:cy}{σ:St}{H:ae}{s:aF}{E:cD}
theorem Inv.kG(I:Inv X pins σ H s)(E:cD):Inv (X.kG E) pins σ H s:=⟨I.ok.kG E,I.os,I.bare,I.base,I.loc,I.cell,I.free,I.mW,I.pin,I.bb,I.len⟩
theorem Inv.kF(I:Inv (X.kG E) pins σ H s):Inv X pins σ H s:=⟨I.ok.kF,I.os,I.bare,I.base,I.loc,I.cell,I.free,I.mW,I.pin,I.bb,I.len⟩
theorem pC.kF{D:Ends}{f:Flow}{s':aF}(h:pC (X.kG E) pins D f s'):pC X pins D f s':=by
 cases f with
 |next=>obtain⟨a4,H',I,q⟩:=h;exact⟨a4,H',I.kF,q⟩
 |brk=>obtain⟨a4,H',I,q⟩:=h;exact⟨a4,H',I.kF,q⟩
 |cont=>obtain⟨a4,H',I,q⟩:=h;exact⟨a4,H',I.kF,q⟩
 |ret u=>obtain⟨v,a4,H',I,r,q⟩:=h;exact⟨v,a4,H',I.kF,r,q⟩
theorem f_.q7{st:List Stmt}{t:e8}(h:f_ X.q7 st t):f_ X st t:=λpins s σ H D I hw=>
 gn (h pins s σ H D (I.kG _) hw) (λ_ _ q=>q.kF) λ_ _ z=>hP z
end
section
variable{X:bg}{st:Stmt}{rest:List Stmt}{t u:e8}{e:Expr}{b3:TE}{pos:Pos}
noncomputable def z8:e8:=λD σ H=>D.cj σ H
noncomputable def lR(t u:e8):e8:=λD σ H=>t {D with cj:=u D} σ H
theorem fv:f_ X [] z8:=λ_ _ σ H _ I h=>sH ⟨σ,H,I,h⟩
theorem bh(af:fW X st t)(ai:f_ X rest u):f_ X (st::rest) (lR t u):=by
 intro pins s σ H D I h;refine JF (bF (af pins s σ H {D with cj:=u D} I h) λf s1 q=>?_);cases f with
 |next=>
  obtain⟨a4,H',ph,q⟩:=q;exact ai pins s1 a4 H' D ph q
 |ret v=>exact q
 |brk=>exact q
 |cont=>exact q
theorem br(af:fW X st t):f_ X [st] t:=by
 intro pins s σ H D I h;refine JF (bF (af pins s σ H D I h) λf s1 q=>?_);cases f with
 |next=>exact sH q
 |ret v=>exact q
 |brk=>exact q
 |cont=>exact q
theorem Inv.quiet{pins:cy}{σ:St}{H:ae}{s:aF}(I:Inv X pins σ H s):interactive X.env=false:=by simp[interactive,I.ok.kind]
noncomputable def ahZ(b3:TE):e8:=λD σ H=>b3 σ H λ_ H1=>D.cj σ H1
theorem gQ(he:bl X e b3)(hs:wN e none pos.line X.env=pure false:=by rfl):fW X (.Expr e pos) (ahZ b3):=by intro pins s σ H D I h;exact Ŋ (bF (he pins s σ H _ I h) λv s1⟨x,H1,aR,ck,bQ⟩=>⟨σ,H1,aR,bQ⟩) I.quiet hs
noncomputable def AW(b3:TE):e8:=λD σ H=>b3 σ H D.my
theorem c_(he:bl X e b3):fW X (.Return (some e) pos) (AW b3):=by intro pins s σ H D I h;exact wpAny_Return_some (bF (he pins s σ H _ I h) λv s1⟨x,H1,aR,ck,bQ⟩=>⟨x,σ,H1,aR,ck,bQ⟩)
noncomputable def YH(c:TT)(t u:e8):e8:=λD σ H=>c σ H λb H1=>if b=true then t D σ H1 else u D σ H1
theorem eY{c:Expr}{a b:List Stmt}{ke:TT}(ay:lB X c ke)(aK:f_ X a t)(U:f_ X b u):fW X (.If c a b pos) (YH ke t u):=by
 intro pins s σ H D I h;refine wpAny_If (bF (ay pins s σ H _ I h) λd s1⟨H1,aR,bQ⟩=>?_);cases d with
 |true=>exact aK pins s1 σ H1 D aR bQ
 |false=>exact U pins s1 σ H1 D aR bQ
noncomputable def agS:e8:=λ_ _ _=>False
theorem Tr:fW X st agS:=λ_ _ _ _ _ _ h=>h.elim
noncomputable abbrev jB:=V->St->ae->(St->ae->Prop)->Prop
noncomputable abbrev qo:=List V->St->ae->(St->ae->Prop)->Prop
end
noncomputable def qi(X:bg)(target:Expr)(t:jB):Prop:=
 ∀(pins:cy)(s:aF)(σ:St)(H:ae)(v:V)(u:Value)(Q:St->ae->Prop),Inv X pins σ H s->RelV v u->t v σ H Q->
  aQ (a9 X.prog X.w) X.A (yk target X.env u) (λ_ s'=>∃a4 H',Inv X pins a4 H' s'/\Q a4 H') X.d0 s
noncomputable def Be(X:bg)(ts:gO)(t:qo):Prop:=
 ∀(pins:cy)(s:aF)(σ:St)(H:ae)(vs:aZ)(us:cC)(Q:St->ae->Prop),Inv X pins σ H s->cO vs us->t vs σ H Q->
  aQ (a9 X.prog X.w) X.A (assignInOrder ((vg ts X.env).map (·.2)) us) (λ_ s'=>∃a4 H',Inv X pins a4 H' s'/\Q a4 H') X.d0 s
noncomputable abbrev LH:=V->V->V->ae->(ae->Prop)->Prop
noncomputable def YI(X:bg)(t:LH):Prop:=
 ∀(pins:cy)(s:aF)(σ:St)(H:ae)(o i v:V)(eT js u:Value)(Q:ae->Prop),Inv X pins σ H s->RelV o eT->RelV i js->RelV v u->t o i v H Q->
  aQ (a9 X.prog X.w) X.A (setItem eT js u) (λ_ s'=>∃H',Inv X pins σ H' s'/\Q H') X.d0 s
section
variable{X:bg}{pos:Pos}
noncomputable def hX(i:Nat):jB:=λv σ H Q=>Q (σ.set i (some v)) H
theorem et{i:Nat}{x:Str}(eJ:X.N.Nodup)(ar:X.N[i]?=some x)(av:Loc X.env.scope x)(hf:X.fn x=true\/X.env.scope.names.lookup x=some .local:=by first|exact .inl rfl|exact .inr rfl|assumption):qi X (.Name x pos) (hX i):=by intro pins s σ H v u Q I r h;exact ar2 (IM I eJ ar av r (λs' ph=>⟨_,H,ph,h⟩) hf)
noncomputable def AX:qo:=λvs σ H Q=>vs=[]/\Q σ H
inductive agT(t:jB)(u:qo)(vs:aZ)(σ:ao.St)(H:ae)(Q:(ao.St->ae->Prop)):Prop where
 |mk (v:_) (r:_) (bV:vs=v::r) (bA:t v σ H λa4 H'=>u r a4 H' Q)
noncomputable def q9(t:jB)(u:qo):qo:=λvs σ H Q=>agT t u vs σ H Q
theorem pP:Be X [] AX:=by intro pins s σ H vs us Q I r h;obtain⟨e,h⟩:=h;subst e;cases r;exact assignInOrder_nil ⟨σ,H,I,h⟩
theorem ia{e:Expr}{es:gO}{t:jB}{u:qo}(af:qi X e t)(ai:Be X es u)(hs:(vg (e::es) X.env).map (·.2)=yk e X.env::(vg es X.env).map (·.2):=by rfl):Be X (e::es) (q9 t u):=by
 intro pins s σ H vs us Q I r h;obtain⟨v,JB,aB,h⟩:=h;subst aB;cases r with
 |cons r fS=>
  rw[hs];refine assignInOrder_cons (bF (af pins s σ H _ _ _ I r h) λ_ s1⟨n6,H1,aR,bQ⟩=>?_);exact ai pins s1 n6 H1 _ _ Q aR fS bQ
inductive ahR(K:aV)(n:Nat)(t:qo)(v:ao.V)(σ:ao.St)(H:ae)(Q:(ao.St->ae->Prop)):Prop where
 |mk (a:_) (xs:_) (bV:v=.ref a) (bA:cN K H a xs) (cn:xs.length=n) (di:t xs σ H Q)
noncomputable def xW(K:aV)(n:Nat)(t:qo):jB:=λv σ H Q=>ahR K n t v σ H Q
theorem wo{es:gO}{k:Nat}{t:qo}{n:Nat}(ay:X.calm=true)(h:Be X es t)(aT:(vg es X.env).length=n:=by rfl)(k7:(vg es X.env).findIdx? (·.1)=none:=by rfl):qi X (.Tuple es k pos) (xW X.K n t):=by intro pins s σ H v u Q I r hw;obtain⟨a,xs,aB,aU,aj,hw⟩:=hw;subst aB;cases r;obtain⟨its,cg,df,hz⟩:=I.tuple aU;refine assign_Tuple_tuple (I.ok.hd ay) df (by simp[aT,<-aj,cg.length]) k7 λh' av=>?_;have aR:Inv X pins σ H {s with heap:=h'}:=I.kept (t':=s.toks) λb o e=>av b o (eN (dG e)) e;exact h pins _ σ H xs _ Q aR (by simpa using cg) hw
noncomputable def ajP(to ET:TE)(t:LH):jB:=λv σ H Q=>to σ H λo H1=>ET σ H1 λi ag=>t o i v ag λa_=>Q σ a_
theorem agU{o i:Expr}{to ET:TE}{t:LH}(a3:bl X o to)(ar:bl X i ET)(hs:YI X t)(aK:∀v,yk (.Subscript o i pos) X.env v=(do
   let eT <-mm [v] (eval o X.env)
   let js <-mm [v,eT] (eval i X.env)
   sz pos
   mm [v,eT,js] (setItem eT js v)
   release [v,eT,js] []):=by intro _;rfl):qi X (.Subscript o i pos) (ajP to ET t):=by intro pins s σ H v u Q I r h;rw[aK];refine ax (iL (bF (a3 pins s σ H _ I h) λeT s1⟨x,H1,aR,ck,bQ⟩=>?_));refine ax (iL (bF (ar pins s1 σ H1 _ aR bQ) λjs s2⟨y,ag,bD,dZ,cZ⟩=>?_));refine ax (Fe (ax (iL (bF (hs pins s2 σ ag x y v eT js u _ bD ck dZ r cZ) λ_ s3⟨a_,c5,hE⟩=>?_))));exact wpAny_release ⟨σ,a_,c5,hE⟩
noncomputable def rv(b3:TE)(g:jB):e8:=λD σ H=>b3 σ H λx H1=>g x σ H1 D.cj
theorem Ke{dA e:Expr}{b3:TE}{g:jB}(he:bl X e b3)(bP:qi X dA g)(hs:swapsWithSole [dA] e pos.line X.env=pure false:=by rfl)(hw:swappedStores [dA] e X.env=pure none:=by rfl)(af:(vg [dA] X.env).map (·.2)=[yk dA X.env]:=by rfl):fW X (.Assign [dA] e pos) (rv b3 g):=by intro pins s σ H D I h;refine wpAny_Assign_stores (bF (he pins s σ H _ I h) λv s1⟨x,H1,aR,ck,bQ⟩=>?_) hs hw;rw[af];exact bF (bP pins s1 σ H1 x v _ aR ck bQ) λ_ s2 q=>q
theorem da{i:Nat}{x:Str}{e:Expr}{b3:TE}{pos':Pos}(eJ:X.N.Nodup)(ar:X.N[i]?=some x)(av:Loc X.env.scope x)(he:bl X e b3)(hs:wN e (some (.Name x pos')) pos.line X.env=pure false:=by rfl)(hf:X.fn x=true\/X.env.scope.names.lookup x=some .local:=by first|exact .inl rfl|exact .inr rfl|assumption):
  fW X (.Assign [.Name x pos'] e pos) (rv b3 (hX i)):=by intro pins s σ H D I h;refine wpAny_Assign_Name (bF (he pins s σ H _ I h) λv s1⟨y,H1,aR,ck,bQ⟩=>?_) hs;exact IM aR eJ ar av ck (λs2 bD=>⟨_,H1,bD,bQ⟩) hf
noncomputable def agV(c:TT)(dc:e8):e8:=λD σ H=>∃W:Nat->St->ae->Prop,(∃m,W m σ H)/\∀m σ H,W m σ H->
 c σ H λb H1=>if b=true then∃N:St->ae->Prop,(∀a4 H',N a4 H'->∃cV,cV<m/\W cV a4 H')/\dc {D with cj:=N,e':=N,gv:=D.cj} σ H1 else D.cj σ H1
theorem acE{c:Expr}{body:List Stmt}{ke:TT}{dc:e8}(aO:PassesOwn (a9 X.prog X.w) X.A X.env X.d0)(ay:lB X c ke)(U:f_ X body dc):fW X (.While c body [] pos) (agV ke dc):=by
 intro pins s σ H D I h;obtain⟨W,⟨m0,w4⟩,turn⟩:=h;refine wpAny_While (codeAny_whileLoop (λn s'=>∃a4 H',Inv X pins a4 H' s'/\W n a4 H') ?_ m0 ⟨σ,H,I,w4⟩);rintro n s1 ⟨n6,H1,aR,fo⟩;refine zQ aO (bF (ay pins s1 n6 H1 _ aR (turn n n6 H1 fo)) λb s2⟨ag,bD,cZ⟩=>?_);cases b with
 |true=>
  obtain⟨N,eJ,cZ⟩:=cZ;rw[bM rfl];refine zQ aO (bF (U pins s2 n6 ag _ bD cZ) λf s3 hE=>?_);cases f with
  |next=>
   obtain⟨g4,a_,c5,oH⟩:=hE;obtain⟨cV,hm,hN⟩:=eJ g4 a_ oH;exact⟨cV,hm,g4,a_,c5,hN⟩
  |cont=>
   obtain⟨g4,a_,c5,oH⟩:=hE;obtain⟨cV,hm,hN⟩:=eJ g4 a_ oH;exact⟨cV,hm,g4,a_,c5,hN⟩
  |brk=>exact hE
  |ret v=>exact hE
 |false=>
  rw[bE fp];exact sH ⟨n6,ag,bD,cZ⟩
structure f9 where
 go:Nat->ae->Prop
 n4:Nat->ae->V->ae->Prop
 stop:Nat->ae->Prop
end
noncomputable def sM(X:bg)(pins:cy)(H:ae)(b:Addr):Prop:=
 H b=none/\b≠X.env.locals/\b∉X.fs/\(b∈X.ex\/X.iH.heap.objs.size<=b)/\(∀x c,X.env.cells.lookup x=some c->c≠b)/\∀p∈X.fg++pins,p.1≠b
theorem Inv.rV{X:bg}{pins:cy}{σ:St}{H H':ae}{s:aF}{b:Addr}(I:Inv X pins σ H s)(U:s.heap.objs.size<=b)(aT:H' b=none):sM X pins H' b:=by
 refine⟨aT,x9 (kl I.lt U),I.ap5 U,.inr (eQ I.jh U),λx c e z=>?_,λp aO z=>?_⟩
 .obtain⟨v,q⟩:=I.cell x c e;exact bG (kl q.lt (by rw[z];exact U)) (qg _)
 .exact bG (kl (dG (I.pin p aO).1) (by rw[z];exact U)) (qg _)
structure Turn(P:bO)(w:bx)(K:aV)(dA:Expr)(J:f9)(cp:bS)(it:Addr)(gZ:Nat->Heap->Prop):Prop where
 mem:it∈cp
 obj:∀i h,gZ i h->∀b∈cp,∃o,h.get? b=some o/\∀v,o.data≠.cell v
 keep:∀i h h',gZ i h->(∀b∈cp,∀o,h.get? b=some o->h'.get? b=some o)->gZ i h'
 item:∀(X:bg),X.prog=P->X.w=w->X.K=K->X.calm=true->∀(i:Nat)(pins:cy)(s:aF)(σ:St)(H:ae)(E:cD),Inv X pins σ H s->(∀b∈cp,sM X pins H b)->gZ i s.heap->J.go i H->
  aQ (a9 P w) X.A (ip (.ref it)) (λr s1=>∃u,r=some u/\
   aQ (a9 P w) X.A (Qu dA (.ref it) u) (λ_ s2=>∃x H',Inv X pins σ H' s2/\RelV x u/\J.n4 i H x H'/\gZ (i+1) s2.heap/\∀b∈cp,H' b=none) E s1) E s
 done:∀(X:bg),X.prog=P->X.w=w->X.K=K->X.calm=true->∀(i:Nat)(pins:cy)(s:aF)(σ:St)(H:ae)(E:cD),Inv X pins σ H s->(∀b∈cp,sM X pins H b)->gZ i s.heap->J.stop i H->
  aQ (a9 P w) X.A (ip (.ref it)) (λr s1=>r=none/\Inv X pins σ H s1) E s
 self:∀(A:c0)(i:Nat)(s:aF)(Q:cD)(E:cD),gZ i s.heap->Q (.ref it) s->aQ (a9 P w) A (zm (.ref it)) Q E s
noncomputable abbrev TI:=St->ae->(f9->ae->Prop)->Prop
noncomputable def Lp(X:bg)(pins:cy)(σ:St)(dA:Expr)(R:f9->ae->Prop)(P0:Value)(s2:aF):Prop:=
 ∃(it:Addr)(cp:bS)(gZ:Nat->Heap->Prop)(J:f9)(H':ae),P0=.ref it/\Inv X pins σ H' s2/\Turn X.prog X.w X.K dA J cp it gZ/\gZ 0 s2.heap/\(∀b∈cp,sM X pins H' b)/\R J H'
noncomputable def oe(X:bg)(dA iter:Expr)(dh:TI):Prop:=
 ∀(pins:cy)(s:aF)(σ:St)(H:ae)(R:f9->ae->Prop),Inv X pins σ H s->dh σ H R->
  aQ (a9 X.prog X.w) X.A (eval iter X.env) (λv s1=>aQ (a9 X.prog X.w) X.A (zm v) (Lp X pins σ dA R) X.d0 s1) X.d0 s
theorem zV{M:lA}{A:c0}{E:cD}{s:aF}{dA:Expr}{it:Addr}{u:Value}{o:Obj}{n:String}{vs:kn}{Q:Unit->aF->Prop}(a3:s.heap.get? it=some o)(ay:o.cls=.type n)(hd:o.data=.fields vs)(aT:["enumerate","zip","dict_itemiterator","dict_reverseitemiterator","odict_iterator","itertools.zip_longest","itertools.pairwise"].contains n=false)(ff:Q () s):aQ M A (Qu dA (.ref it) u) Q E s:=by
  unfold Qu;cases dA<;>first
    |exact bj ff
    | (cases u<;>first
        |exact bj ff
        | (refine ax (wpAny_load a3 ?_)
           rw[ay,hd];show aQ M A (if(["enumerate","zip","dict_itemiterator","dict_reverseitemiterator","odict_iterator","itertools.zip_longest","itertools.pairwise"].contains n&&vs[0]?==some (oV _))=true then _ else _) Q E s;rw[bE (by intro h;rw[aT,aal]at h;cases h)];exact bj ff))
noncomputable def mI(K:aV)(a:Addr):f9:=
 ⟨λi H=>∃xs x,aJ K H a xs/\xs[i]?=some x,λi H x H'=>H'=H/\∀xs,aJ K H a xs->xs[i]?=some x,λi H=>∃xs,aJ K H a xs/\xs.length<=i⟩
noncomputable def AU(K:aV)(a:Addr):f9:=
 ⟨λi H=>∃xs x,cN K H a xs/\xs[i]?=some x,λi H x H'=>H'=H/\∀xs,cN K H a xs->xs[i]?=some x,λi H=>∃xs,cN K H a xs/\xs.length<=i⟩
noncomputable def n9(lo:Int)(n:Nat):f9:=⟨λi _=>i<n,λi H x H'=>H'=H/\x=.int (lo+i),λi _=>n<=i⟩
theorem ab2{P:bO}{w:bx}{K:aV}{dA:Expr}(a it:Addr):Turn P w K dA (mI K a) [it] it (λi h=>h.IsListIter it a i)where
 mem:=by simp
 obj:=λi h st b U=>by
  have e:b=it:=by simpa using U
  subst e;obtain⟨o,e,c,d⟩:=st;exact⟨o,e,λv z=>by rw[d]at z;cases z⟩
 keep:=λi h h' st k=>st.at λo e=>k it (by simp) o e
 item:=by intro X gy hw gd ay i pins s σ H E I hf st bP;subst gy hw gd;obtain⟨xs,x,aU,av⟩:=bP;obtain⟨its,cg,p,hz⟩:=I.list aU;obtain⟨u,b7,ez⟩:=cg.get av;obtain⟨f0,f1,f2,cz,f4,fx⟩:=hf it (by simp);refine wpAny_pyNext_list_item st p.isList (x:=u) (by simpa using b7) λh' fT b'=>?_;have aR:Inv X pins σ H {s with heap:=h'}:=I.turned (t':=s.toks) (λb o U e=>(b'.2 b U).trans e) f0 f1 cz f4 fx;obtain⟨o,e,c,d⟩:=id fT;exact⟨u,rfl,zV (s:={s with heap:=h'}) e c d (by decide) ⟨x,H,aR,ez,⟨rfl,λys cS=>by rw[I.Ö cS aU];exact av⟩,fT,λb U=>(hf b U).1⟩⟩
 done:=by intro X gy hw gd ay i pins s σ H E I hf st bP;subst gy hw gd;obtain⟨xs,aU,av⟩:=bP;obtain⟨its,cg,p,hz⟩:=I.list aU;obtain⟨f0,f1,f2,cz,f4,fx⟩:=hf it (by simp);have aj:=cg.length;exact wpAny_pyNext_list_end (I.ok.hd ay) st p.isList (by simp;omega) λh' ef=>⟨rfl,I.turned (t':=s.toks) (λb o U e=>ef b o U e) f0 f1 cz f4 fx⟩
 self:=λ_ _ _ _ _ st h=>wpAny_pyIter_listiter st h
theorem aaP{P:bO}{w:bx}{K:aV}{dA:Expr}(a it:Addr):Turn P w K dA (AU K a) [it] it (λi h=>h.IsTupleIter it a i)where
 mem:=by simp
 obj:=λi h st b U=>by
  have e:b=it:=by simpa using U
  subst e;obtain⟨o,e,c,d⟩:=st;exact⟨o,e,λv z=>by rw[d]at z;cases z⟩
 keep:=λi h h' st k=>st.at λo e=>k it (by simp) o e
 item:=by intro X gy hw gd ay i pins s σ H E I hf st bP;subst gy hw gd;obtain⟨xs,x,aU,av⟩:=bP;obtain⟨its,cg,p,hz⟩:=I.tuple aU;obtain⟨u,b7,ez⟩:=cg.get av;obtain⟨f0,f1,f2,cz,f4,fx⟩:=hf it (by simp);refine wpAny_pyNext_tuple_item st (show s.heap.IsTuple a its.toArray from p) (x:=u) (by simpa using b7) λh' fT b'=>?_;have aR:Inv X pins σ H {s with heap:=h'}:=I.turned (t':=s.toks) (λb o U e=>(b'.2 b U).trans e) f0 f1 cz f4 fx;obtain⟨o,e,c,d⟩:=id fT;exact⟨u,rfl,zV (s:={s with heap:=h'}) e c d (by decide) ⟨x,H,aR,ez,⟨rfl,λys cS=>by rw[I.arM cS aU];exact av⟩,fT,λb U=>(hf b U).1⟩⟩
 done:=by intro X gy hw gd ay i pins s σ H E I hf st bP;subst gy hw gd;obtain⟨xs,aU,av⟩:=bP;obtain⟨its,cg,p,hz⟩:=I.tuple aU;obtain⟨f0,f1,f2,cz,f4,fx⟩:=hf it (by simp);have aj:=cg.length;exact wpAny_pyNext_tuple_end (I.ok.hd ay) st (show s.heap.IsTuple a its.toArray from p) (by simp;omega) λh' ef=>⟨rfl,I.turned (t':=s.toks) (λb o U e=>ef b o U e) f0 f1 cz f4 fx⟩
 self:=λ_ _ _ _ _ st h=>wpAny_pyIter_tupleiter st h
theorem aaQ{P:bO}{w:bx}{K:aV}{dA:Expr}(it:Addr)(lo:Int)(n:Nat):Turn P w K dA (n9 lo n) [it] it (λi h=>IsRangeIter h it (lo+(i:Nat)*1) ((n:Int)-(i:Nat)) 1)where
 mem:=by simp
 obj:=λi h st b U=>by
  have e:b=it:=by simpa using U
  subst e;exact⟨_,st,λv z=>by
   have dr:VL _=VK v:=z;cases dr⟩
 keep:=λi h h' st k=>k it (by simp) _ st
 item:=by intro X gy hw gd ay i pins s σ H E I hf st bP;subst gy hw gd;obtain⟨f0,f1,f2,cz,f4,fx⟩:=hf it (by simp);have W:=Walks.range (prog:=X.prog) (w:=X.w) (I.ok.hd ay) it lo 1 n;refine W.item i s _ _ bP st λv h' a5 bz fT bY=>?_;obtain⟨t,rfl⟩:=bz;have aR:Inv X pins σ H {s with heap:=h',toks:=a5}:=I.turned (λb o U e=>bY b o (by simpa using U) e) f0 f1 cz f4 fx;refine⟨_,rfl,zV (s:={s with heap:=h',toks:=a5}) (n:="range_iterator") fT rfl rfl (by decide) ⟨.int (lo+i),H,aR,⟨t,?_⟩,⟨rfl,rfl⟩,fT,λb U=>(hf b U).1⟩⟩;rw[Int.mul_one]
 done:=by intro X gy hw gd ay i pins s σ H E I hf st bP;subst gy hw gd;obtain⟨f0,f1,f2,cz,f4,fx⟩:=hf it (by simp);exact wpAny_pyNext_range_end (I.ok.hd ay) st (by have:n<=i:=bP;omega) λh' ef=>⟨rfl,I.turned (t':=s.toks) (λb o U e=>ef b o U e) f0 f1 cz f4 fx⟩
 self:=λ_ _ _ _ _ st h=>wpAny_pyIter_rangeiter st h
section
variable{X:bg}{dA:Expr}
inductive ajQ(K:aV)(x:V)(H1:ae)(R:f9->ae->Prop):Prop where
 |mk (a:_) (bV:x=.ref a) (bA:(∃xs,aJ K H1 a xs)) (cn:R (mI K a) H1)
noncomputable def ahS(K:aV)(du:TE):TI:=λσ H R=>du σ H λx H1=>ajQ K x H1 R
noncomputable def ajR(K:aV)(du:TE):TI:=λσ H R=>du σ H λx H1=>∃a,x=.ref a/\(∃xs,cN K H1 a xs)/\R (AU K a) H1
theorem jY{l:Expr}{du:TE}(aj:bl X l du):oe X dA l (ahS X.K du):=by
 intro pins s σ H R I h;refine bF (aj pins s σ H _ I h) λv s1⟨x,H1,aR,ck,bQ⟩=>?_;obtain⟨a,e,⟨xs,aU⟩,q⟩:=bQ;subst e;cases ck;obtain⟨its,cg,p,hz⟩:=aR.list aU;refine zR p.isList ?_;refine⟨s1.heap.objs.size,[s1.heap.objs.size],_,_,H1,rfl,aR.kept (t':=s1.toks) λb o e=>dM _ e,ab2 a _,⟨_,gq _ rfl,rfl,rfl⟩,λb U=>?_,q⟩;have e:b=s1.heap.objs.size:=by simpa using U
 subst e;exact aR.rV (cq _) (aR.bb.fresh (cq _))
theorem WZ{l:Expr}{du:TE}(aj:bl X l du):oe X dA l (ajR X.K du):=by
 intro pins s σ H R I h;refine bF (aj pins s σ H _ I h) λv s1⟨x,H1,aR,ck,bQ⟩=>?_;obtain⟨a,e,⟨xs,aU⟩,q⟩:=bQ;subst e;cases ck;obtain⟨its,cg,p,hz⟩:=aR.tuple aU;refine wpAny_pyIter_tuple (show s1.heap.IsTuple a its.toArray from p) ?_;refine⟨s1.heap.objs.size,[s1.heap.objs.size],_,_,H1,rfl,aR.kept (t':=s1.toks) λb o e=>dM _ e,aaP a _,⟨_,gq _ rfl,rfl,rfl⟩,λb U=>?_,q⟩;have e:b=s1.heap.objs.size:=by simpa using U
 subst e;exact aR.rV (cq _) (aR.bb.fresh (cq _))
theorem acF{pins:cy}{σ:St}{H:ae}{s:aF}{R:f9->ae->Prop}{E:cD}{lo ar:Int}{t u v:Tok}{a5:Nat}(I:Inv X pins σ H s)(af:-(2 ^ 62)<=lo)(ai:lo<2 ^ 62)(bU:-(2 ^ 62)<=ar)(cX:ar<2 ^ 62)(q:R (n9 lo (ar-lo).toNat) H):aQ (a9 X.prog X.w) X.A (zm (.ref s.heap.objs.size)) (Lp X pins σ dA R) E {s with heap:=s.heap.push {cls:=.type "range",data:=.fields #[.int lo t,.int ar u,.int 1 v]},toks:=a5}:=by
 refine wpAny_pyIter_range (IsRange.new ..) (small_one af ai bU cX) ?_;have aR:Inv X pins σ H {s with heap:=s.heap.push {cls:=.type "range",data:=.fields #[.int lo t,.int ar u,.int 1 v]},toks:=a5}:=I.kept λb o e=>dM _ e;refine⟨(s.heap.push {cls:=.type "range",data:=.fields #[.int lo t,.int ar u,.int 1 v]}).objs.size,[(s.heap.push {cls:=.type "range",data:=.fields #[.int lo t,.int ar u,.int 1 v]}).objs.size],_,_,H,rfl,
  aR.kept (t':=a5) λb o e=>dM _ e,aaQ _ lo (ar-lo).toNat,?_,λb U=>?_,q⟩
 .have aB:lo+((0:Nat):Int)*1=lo:=by simp
  have aD:(((ar-lo).toNat:Nat):Int)-((0:Nat):Int)=as1 lo ar 1:=by rw[rangeSize_one];split<;>omega
  show IsRangeIter _ _ (lo+((0:Nat):Int)*1) ((((ar-lo).toNat:Nat):Int)-((0:Nat):Int)) 1;rw[aB,aD];exact gq _ rfl
 .have e:b=(s.heap.push {cls:=.type "range",data:=.fields #[.int lo t,.int ar u,.int 1 v]}).objs.size:=by simpa using U
  subst e;exact aR.rV (cq _) (aR.bb.fresh (cq _))
noncomputable def ahT(b_:gi):TI:=λσ H R=>b_ σ H λvs H1=>∃j:Int,vs=[.int j]/\-(2 ^ 62)<=j/\j<2 ^ 62/\R (n9 0 j.toNat) H1
theorem yR{a:Expr}{b_:gi}{p pos:Pos}(bP:i3 X "range")(hm:X.mg "range"=none)(aK:fV X [a] b_)(hs:dV [a] X.env=[(false,eval a X.env)]:=by rfl):oe X dA (.Call (.Name "range" p) [a] [] pos) (ahT b_):=by
 intro pins s σ H R I h;refine Call_ (wz I bP hm boot_range (XY (bF (aK pos pins s σ H _ I h) λus s1⟨vs,H1,aR,ck,bQ⟩=>?_) hs rfl));obtain⟨j,e,bQ,cZ,q⟩:=bQ;subst e;cases ck with
 |cons r fS=>
  cases fS;obtain⟨t,rfl⟩:=r;exact call_range_1 (acF aR (by omega) (by omega) bQ cZ (by simpa using q))
noncomputable def ajS(dh:TI)(g:jB)(dc:e8):e8:=λD σ H=>dh σ H λJ H1=>∃W:Nat->Nat->St->ae->Prop,(∃m,W 0 m σ H1)/\∀i m σ H,W i m σ H->
 (J.stop i H/\D.cj σ H)\/(J.go i H/\∃N:St->ae->Prop,(∀a4 H',N a4 H'->∃cV,cV<m/\W (i+1) cV a4 H')/\∀x H',J.n4 i H x H'->g x σ H' λeB ag=>dc {D with cj:=N,e':=N,gv:=D.cj} eB ag)
noncomputable def E0(cp:bS)(h:Heap):List (Addr×Obj):=cp.filterMap λb=>(h.get? b).map λo=>(b,o)
theorem H7{cp:bS}{h:Heap}{b:Addr}{o:Obj}(U:b∈cp)(e:h.get? b=some o):(b,o)∈E0 cp h:=K3.mpr ⟨b,U,by rw[e];rfl⟩
theorem ab3{cp:bS}{h:Heap}{p:Addr×Obj}(aO:p∈E0 cp h):p.1∈cp/\h.get? p.1=some p.2:=by
 obtain⟨b,U,e⟩:=K3.mp aO;cases q:h.get? b with
 |none=>rw[q]at e;cases e
 |some o=>
  rw[q]at e;have cm:(b,o)=p:=hF e;subst cm;exact⟨U,q⟩
theorem Inv.pinned{pins:cy}{σ:St}{H:ae}{s:aF}{cp:bS}(I:Inv X pins σ H s)(hf:∀b∈cp,sM X pins H b)(a3:∀b∈cp,∃o,s.heap.get? b=some o/\∀v,o.data≠.cell v):Inv X (pins++E0 cp s.heap) σ H s:=
 I.ă λp aO=>(hj.mp aO).elim (λz=>I.pin p (rK _ z)) λz=>by obtain⟨U,e⟩:=ab3 z;obtain⟨f0,f1,f2,_⟩:=hf p.1 U;obtain⟨o,cm,d⟩:=a3 p.1 U;rw[e]at cm;cases cm;exact⟨e,f0,f1,f2,d⟩
theorem Inv.Ju{pins pl:cy}{σ:St}{H:ae}{s:aF}(I:Inv X (pins++pl) σ H s):Inv X pins σ H s:=I.ă λp aO=>I.pin p (rK _ (acY _ aO))
theorem kq{iter:Expr}{body:List Stmt}{dh:TI}{g:jB}{dc:e8}{pos:Pos}(aO:PassesOwn (a9 X.prog X.w) X.A X.env X.d0)(ay:X.calm=true)(ar:oe X dA iter dh)(bP:qi X dA g)(U:f_ X body dc)(hs:∀x,NQ iter X.env x=pure x:=by intro _;rfl):fW X (.For dA iter body [] pos) (ajS dh g dc):=by
 intro pins s σ H D I h;refine wpAny_For (bF (ar pins s σ H _ I h) λv s1 af=>bF af λP0 s2 ai=>?_) hs;obtain⟨it,cp,gZ,J,ag,e,bD,T,I_,f2,W,⟨m0,w4⟩,turn⟩:=ai;subst e;have wL:∀{H':ae},(∀b∈cp,H' b=none)->∀b∈cp,sM X pins H' b:=λaT b U=>⟨aT b U,(f2 b U).2⟩
 refine codeAny_forLoop_any (λn s'=>∃i a4 H',Inv X pins a4 H' s'/\gZ i s'.heap/\(∀b∈cp,H' b=none)/\W i n a4 H') ?_ m0 ⟨0,σ,ag,bD,I_,λb U=>(f2 b U).1,w4⟩;rintro n s3 ⟨i,g4,a_,c5,Ġ,ZR,hN⟩;rcases turn i n g4 a_ hN with⟨stop,oU⟩|⟨go,N,eJ,step⟩
 .refine zQ aO (bF (T.done X rfl rfl rfl ay i pins s3 g4 a_ X.d0 c5 (wL ZR) Ġ stop) λr s4⟨aq,jU⟩=>?_);subst aq;exact sH ⟨g4,a_,jU,oU⟩
 .refine zQ aO (bF (T.item X rfl rfl rfl ay i pins s3 g4 a_ X.d0 c5 (wL ZR) Ġ go) λr s4⟨u,aq,cX⟩=>?_);subst aq;refine zQ aO (bF cX λ_ s5⟨x,bw,jy,wB,w_,wK,CG⟩=>?_);have KL:=jy.pinned (wL CG) (T.obj _ _ wK);refine zQ aO (bF (bP _ s5 g4 bw x u _ KL wB (step x bw w_)) λ_ f7⟨Fl,gh,rI,RN⟩=>?_);refine zQ aO (bF (U _ f7 Fl gh _ rI RN) λf gm nX=>?_);have again:∀{qa:St}{e1:ae},Inv X (pins++E0 cp s5.heap) qa e1 gm->N qa e1->∃m,m<n/\∃i a4 H',Inv X pins a4 H' gm/\gZ i gm.heap/\(∀b∈cp,H' b=none)/\W i m a4 H':=λ{qa e1}kk pV=>by obtain⟨cV,hm,TQ⟩:=eJ qa e1 pV;refine⟨cV,hm,i+1,qa,e1,kk.Ju,T.keep _ _ _ wK λb U o e=>(kk.pin (b,o) (rK _ (rK _ (H7 U e)))).1,λb U=>?_,TQ⟩;obtain⟨o,e,d⟩:=T.obj _ _ wK b U;exact(kk.pin (b,o) (rK _ (rK _ (H7 U e)))).2.1
  cases f with
  |next=>obtain⟨qa,e1,kk,pV⟩:=nX;exact again kk pV
  |cont=>obtain⟨qa,e1,kk,pV⟩:=nX;exact again kk pV
  |brk=>obtain⟨qa,e1,kk,nX⟩:=nX;exact⟨qa,e1,kk.Ju,nX⟩
  |ret v=>obtain⟨w',qa,e1,kk,aqL,nX⟩:=nX;exact⟨w',qa,e1,kk.Ju,aqL,nX⟩
theorem qC{K:aV}{a:Addr}{xs:aZ}{g:jB}{dc:e8}{D:Ends}{σ:St}{H:ae}(Pv:Nat->St->ae->Prop)(h0:Pv 0 σ H)(aj:∀i σ H,i<=xs.length->Pv i σ H->aJ K H a xs)(hs:∀i x σ H,xs[i]?=some x->Pv i σ H->g x σ H λeB ag=>dc {D with cj:=Pv (i+1),e':=Pv (i+1),gv:=D.cj} eB ag)(hd:∀σ H,Pv xs.length σ H->D.cj σ H):
  ∃W:Nat->Nat->St->ae->Prop,(∃m,W 0 m σ H)/\∀i m σ H,W i m σ H->
   ((mI K a).stop i H/\D.cj σ H)\/((mI K a).go i H/\∃N:St->ae->Prop,(∀a4 H',N a4 H'->∃cV,cV<m/\W (i+1) cV a4 H')/\∀x H',(mI K a).n4 i H x H'->g x σ H' λeB ag=>dc {D with cj:=N,e':=N,gv:=D.cj} eB ag):=by
 refine⟨λi m σ H=>m=xs.length-i/\i<=xs.length/\Pv i σ H,⟨xs.length,by simp,e_ _,h0⟩,?_⟩;rintro i m σ H ⟨rfl,ar,p⟩;have q:=aj i σ H ar p;by_cases cP:i<xs.length
 .refine .inr ⟨⟨xs,xs[i],q,by simp[cP]⟩,Pv (i+1),λa4 H' hL=>⟨xs.length-(i+1),by omega,rfl,cP,hL⟩,λx H' y=>?_⟩;obtain⟨e,y⟩:=y;subst e;exact hs i x σ _ (y xs q) p
 .have e:i=xs.length:=by omega
  subst e;exact .inl ⟨⟨xs,q,cq _⟩,hd σ H p⟩
theorem V0{K:aV}{a:Addr}{xs:aZ}{g:jB}{dc:e8}{D:Ends}{σ:St}{H:ae}(Pv:Nat->St->ae->Prop)(h0:Pv 0 σ H)(aj:∀i σ H,i<=xs.length->Pv i σ H->cN K H a xs)(hs:∀i x σ H,xs[i]?=some x->Pv i σ H->g x σ H λeB ag=>dc {D with cj:=Pv (i+1),e':=Pv (i+1),gv:=D.cj} eB ag)(hd:∀σ H,Pv xs.length σ H->D.cj σ H):
  ∃W:Nat->Nat->St->ae->Prop,(∃m,W 0 m σ H)/\∀i m σ H,W i m σ H->
   ((AU K a).stop i H/\D.cj σ H)\/((AU K a).go i H/\∃N:St->ae->Prop,(∀a4 H',N a4 H'->∃cV,cV<m/\W (i+1) cV a4 H')/\∀x H',(AU K a).n4 i H x H'->g x σ H' λeB ag=>dc {D with cj:=N,e':=N,gv:=D.cj} eB ag):=by
 refine⟨λi m σ H=>m=xs.length-i/\i<=xs.length/\Pv i σ H,⟨xs.length,by simp,e_ _,h0⟩,?_⟩;rintro i m σ H ⟨rfl,ar,p⟩;have q:=aj i σ H ar p;by_cases cP:i<xs.length
 .refine .inr ⟨⟨xs,xs[i],q,by simp[cP]⟩,Pv (i+1),λa4 H' hL=>⟨xs.length-(i+1),by omega,rfl,cP,hL⟩,λx H' y=>?_⟩;obtain⟨e,y⟩:=y;subst e;exact hs i x σ _ (y xs q) p
 .have e:i=xs.length:=by omega
  subst e;exact .inl ⟨⟨xs,q,cq _⟩,hd σ H p⟩
theorem ŕ{lo:Int}{n:Nat}{g:jB}{dc:e8}{D:Ends}{σ:St}{H:ae}(Pv:Nat->St->ae->Prop)(h0:Pv 0 σ H)(hs:∀i σ H,i<n->Pv i σ H->g (.int (lo+i)) σ H λeB ag=>dc {D with cj:=Pv (i+1),e':=Pv (i+1),gv:=D.cj} eB ag)(hd:∀σ H,Pv n σ H->D.cj σ H):
  ∃W:Nat->Nat->St->ae->Prop,(∃m,W 0 m σ H)/\∀i m σ H,W i m σ H->
   ((n9 lo n).stop i H/\D.cj σ H)\/((n9 lo n).go i H/\∃N:St->ae->Prop,(∀a4 H',N a4 H'->∃cV,cV<m/\W (i+1) cV a4 H')/\∀x H',(n9 lo n).n4 i H x H'->g x σ H' λeB ag=>dc {D with cj:=N,e':=N,gv:=D.cj} eB ag):=by
 refine⟨λi m σ H=>m=n-i/\i<=n/\Pv i σ H,⟨n,by simp,e_ _,h0⟩,?_⟩;rintro i m σ H ⟨rfl,ar,p⟩;by_cases cP:i<n
 .refine .inr ⟨cP,Pv (i+1),λa4 H' hL=>⟨n-(i+1),by omega,rfl,cP,hL⟩,λx H' y=>?_⟩;obtain⟨e,y⟩:=y;subst e y;exact hs i σ _ cP p
 .have e:i=n:=by omega
  subst e;exact .inl ⟨cq _,hd σ H p⟩
noncomputable abbrev hu:=V->V->ae->ba->Prop
end
noncomputable def gL(X:bg)(f:Value->Value->Sem Value)(r:hu):Prop:=
 ∀(pins:cy)(s:aF)(σ:St)(H:ae)(x y:V)(v u:Value)(Q:ba),Inv X pins σ H s->RelV x v->RelV y u->r x y H Q->
  aQ (a9 X.prog X.w) X.A (f v u) (ir X pins σ Q) X.d0 s
noncomputable def LL(X:bg)(f:Value->Sem Value)(r:V->ae->ba->Prop):Prop:=
 ∀(pins:cy)(s:aF)(σ:St)(H:ae)(x:V)(v:Value)(Q:ba),Inv X pins σ H s->RelV x v->r x H Q->
  aQ (a9 X.prog X.w) X.A (f v) (ir X pins σ Q) X.d0 s
noncomputable def j8(X:bg)(f:Value)(r:List V->ae->ba->Prop):Prop:=
 ∀(pins:cy)(s:aF)(σ:St)(H:ae)(xs:aZ)(us:cC)(Q:ba),Inv X pins σ H s->cO xs us->r xs H Q->
  aQ (a9 X.prog X.w) X.A (call f us) (ir X pins σ Q) X.d0 s
noncomputable def ES(r:hu)(b_ dc:TE):TE:=λσ H Q=>b_ σ H λx H1=>dc σ H1 λy ag=>r x y ag Q
noncomputable def arE(r:V->ae->ba->Prop)(b_:TE):TE:=λσ H Q=>b_ σ H λx H1=>r x H1 Q
inductive abR(C:Int->Int->Prop)(g:Int->Int->V)(x:ao.V)(y:ao.V)(H:ae)(Q:ba):Prop where
 |mk (i:_) (j:_) (bV:x=.int i) (bA:y=.int j) (cn:C i j) (di:Q (g i j) H)
noncomputable def Eh(C:Int->Int->Prop)(g:Int->Int->V):hu:=λx y H Q=>abR C g x y H Q
inductive ajT(g:Int->Int->V)(x:ao.V)(y:ao.V)(H:ae)(Q:ba):Prop where
 |mk (i:_) (j:_) (bV:x=.int i) (bA:y=.int j) (cn:Q (g i j) H)
noncomputable def wC(g:Int->Int->V):hu:=λx y H Q=>ajT g x y H Q
inductive abS(g:Int->V)(x:V)(H:ae)(Q:ba):Prop where
 |mk (i:_) (bV:x=.int i) (bA:Q (g i) H)
noncomputable def Ď(g:Int->V):V->ae->ba->Prop:=λx H Q=>abS g x H Q
section
variable{X:bg}{a b c:Expr}{b_ dc ke:TE}{pos:Pos}
theorem LI(aK:bl X a b_)(U:bl X b dc){pins:cy}{s:aF}{σ:St}{H:ae}{R:V->V->ae->Prop}(I:Inv X pins σ H s)(h:b_ σ H λx H1=>dc σ H1 λy ag=>R x y ag){Q:cD}{f:Value->Value->Sem Value}(hf:∀v u s2 x y ag,Inv X pins σ ag s2->RelV x v->RelV y u->R x y ag->aQ (a9 X.prog X.w) X.A (f v u) Q X.d0 s2):
  aQ (a9 X.prog X.w) X.A (eval a X.env) (λv dU=>aQ (a9 X.prog X.w) X.A (eval b X.env) (λu rm=>aQ (a9 X.prog X.w) X.A (f v u) Q X.d0 rm) X.d0 dU) X.d0 s:=by refine bF (aK pins s σ H _ I h) λv s1⟨x,H1,aR,ck,bQ⟩=>?_;refine bF (U pins s1 σ H1 _ aR bQ) λu s2⟨y,ag,bD,dZ,cZ⟩=>?_;exact hf v u s2 x y ag bD ck dZ cZ
theorem bK{op:Operator}{r:hu}(a3:gL X (ti op) r)(aK:bl X a b_)(U:bl X b dc):bl X (.BinOp a op b pos) (ES r b_ dc):=by intro pins s σ H Q I h;exact wpAny_BinOp (LI aK U I h λv u s2 x y ag bD bC bJ q=>a3 pins s2 σ ag x y v u Q bD bC bJ q)
theorem KQ{op:UnaryOp}{r:V->ae->ba->Prop}(a3:LL X (unaryOp op) r)(aK:bl X a b_):bl X (.UnaryOp op a pos) (arE r b_):=by intro pins s σ H Q I h;exact UnaryOp_ (bF (aK pins s σ H _ I h) λv s1⟨x,H1,aR,ck,bQ⟩=>a3 pins s1 σ H1 x v Q aR ck bQ)
theorem IC{f:Value->Value->Sem Value}{C:Int->Int->Prop}{g:Int->Int->Int}(rule:∀(i j:Int)(t u:Tok)(s:aF)(Q:cD)(E:cD),C i j->Q (.int (g i j) s.toks) {s with toks:=s.toks+1}->aQ (a9 X.prog X.w) X.A (f (.int i t) (.int j u)) Q E s):
  gL X f (Eh C λi j=>.int (g i j)):=by intro pins s σ H x y v u Q I bC bJ h;obtain⟨i,j,rfl,rfl,ay,q⟩:=h;obtain⟨t,rfl⟩:=bC;obtain⟨t',rfl⟩:=bJ;exact rule i j t t' s _ _ ay ⟨.int (g i j),H,I.tok _,⟨_,rfl⟩,q⟩
theorem YD{f:Value->Value->Sem Value}{g:Int->Int->Int}(rule:∀(i j:Int)(t u:Tok)(s:aF)(Q:cD)(E:cD),Q (.int (g i j) s.toks) {s with toks:=s.toks+1}->aQ (a9 X.prog X.w) X.A (f (.int i t) (.int j u)) Q E s):
  gL X f (wC λi j=>.int (g i j)):=by intro pins s σ H x y v u Q I bC bJ h;obtain⟨i,j,rfl,rfl,q⟩:=h;obtain⟨t,rfl⟩:=bC;obtain⟨t',rfl⟩:=bJ;exact rule i j t t' s _ _ ⟨.int (g i j),H,I.tok _,⟨_,rfl⟩,q⟩
theorem LJ{f:Value->Value->Sem Value}{g:Int->Int->Bool}(rule:∀(i j:Int)(t u:Tok)(s:aF)(Q:cD)(E:cD),Q (.bool (g i j)) s->aQ (a9 X.prog X.w) X.A (f (.int i t) (.int j u)) Q E s):
  gL X f (wC λi j=>.aM (g i j)):=by intro pins s σ H x y v u Q I bC bJ h;obtain⟨i,j,rfl,rfl,q⟩:=h;obtain⟨t,rfl⟩:=bC;obtain⟨t',rfl⟩:=bJ;exact rule i j t t' s _ _ ⟨.aM (g i j),H,I,rfl,q⟩
noncomputable def ajU(i j:Int):Prop:=0<j/\j<1073741824
noncomputable def ajV(i j:Int):Prop:=0<=j/\j<=1000000/\i.natAbs<2 ^ 64
noncomputable def LK(i j:Int):Prop:=(-(2 ^ 64)<i/\i<2 ^ 64)\/(-(2 ^ 64)<j/\j<2 ^ 64)
theorem LK.ok{i j:Int}(h:LK i j):IntMulOk i j:=by
 rcases h with⟨af,ai⟩|⟨af,ai⟩
 .exact .of_left (intBits_le_64 af ai)
 .exact .of_right (intBits_le_64 af ai)
theorem ib:gL X (ti .Add) (wC λi j=>.int (i+j)):=YD λ_ _ _ _ _ _ _ q=>add_int q
theorem sg:gL X (ti .Sub) (wC λi j=>.int (i-j)):=YD λ_ _ _ _ _ _ _ q=>sub_int q
theorem ui:gL X (ti .Mult) (Eh LK λi j=>.int (i*j)):=IC λ_ _ _ _ _ _ _ ay q=>mul_int q ay.ok
theorem g9:gL X (ti .FloorDiv) (Eh ajU λi j=>.int (i/j)):=IC λi j _ _ _ _ _ ay q=>by have af:(0:Int)<j:=ay.1;have ai:j<1073741824:=ay.2;exact floordiv_int (by omega) (by rw[Int.fdiv_eq_ediv_of_nonneg i (by omega)];exact q) (.inl (PyProof.noPylong_small (by omega)))
theorem e9:gL X (ti .Mod) (Eh (λ_ j=>0<j) λi j=>.int (i%j)):=IC λi j _ _ _ _ _ ay q=>by have af:(0:Int)<j:=ay;exact mod_int' (by omega) (by rw[Int.fmod_eq_emod_of_nonneg i (by omega)];exact q)
theorem JK:gL X (ti .Pow) (Eh ajV λi j=>.int (i ^ j.toNat)):=IC λ_ _ _ _ _ _ _ ay q=>pow_int_small ay.1 ay.2.1 ay.2.2 q
theorem arR{f:Value->Sem Value}{g:Int->Int}(rule:∀(i:Int)(t:Tok)(s:aF)(Q:cD)(E:cD),Q (.int (g i) s.toks) {s with toks:=s.toks+1}->aQ (a9 X.prog X.w) X.A (f (.int i t)) Q E s):
  LL X f (Ď λi=>.int (g i)):=by intro pins s σ H x v Q I bC h;obtain⟨i,rfl,q⟩:=h;obtain⟨t,rfl⟩:=bC;exact rule i t s _ _ ⟨.int (g i),H,I.tok _,⟨_,rfl⟩,q⟩
theorem Kf:LL X (unaryOp .USub) (Ď λi=>.int (-i)):=arR λ_ _ _ _ _ q=>neg_int q
noncomputable def YE:V->V->Bool
 |.bq,.bq=>true|.bq,.int _=>true|.int _,.bq=>true|.bq,.aM _=>true|.aM _,.bq=>true|.bq,.str _=>true|.str _,.bq=>true
 |.int _,.int _=>true|.aM _,.aM _=>true|.str _,.str _=>true|.om _,.om _=>true
 |.int _,.str _=>true|.str _,.int _=>true|.aM _,.str _=>true|.str _,.aM _=>true
 |_,_=>false
noncomputable def aqM:hu:=λx y H Q=>YE x y=true/\Q (.aM (decide (x=y))) H
noncomputable def aqN:hu:=λx y H Q=>YE x y=true/\Q (.aM (!decide (x=y))) H
theorem Jj{i j:Int}:decide (V.int i=V.int j)=(i==j):=by rw[z_];simp
theorem WU{i j:Bool}:decide (V.aM i=V.aM j)=(i==j):=by rw[z_];simp
theorem V1{i j:Str}:decide (V.str i=V.str j)=(i==j):=by rw[z_];simp
theorem V2{i j:Array UInt8}:decide (V.om i=V.om j)=(i.toList==j.toList):=by rw[z_];cases i;cases j;simp
theorem gu{pins:cy}{σ:St}{H:ae}{s:aF}{Q:ba}{k pT:Bool}(I:Inv X pins σ H s)(q:Q (.aM k) H)(e:k=pT):ir X pins σ Q (.bool pT) s:=by subst e;exact⟨.aM k,H,I,rfl,q⟩
theorem i9:gL X (jF .Eq) aqM:=by
 intro pins s σ H x y v u Q I bC bJ h;obtain⟨hs,q⟩:=h;cases x with
 |bq=>
  cases bC;cases y with
  |bq=>cases bJ;exact ato (gu I q (by simp))
  |aM j=>cases bJ;exact atm (gu I q (by simp))
  |int j=>obtain⟨t',rfl⟩:=bJ;exact atn (gu I q (by simp))
  |str j=>obtain⟨t',rfl⟩:=bJ;exact atp (gu I q (by simp))
  |_=>exact bG (show false=true from hs) fp
 |aM i=>
  cases bC;cases y with
  |bq=>cases bJ;exact atk (gu I q (by simp))
  |aM j=>cases bJ;exact eq_bool (gu I q WU)
  |str j=>obtain⟨t',rfl⟩:=bJ;exact atc (gu I q (by simp))
  |_=>exact bG (show false=true from hs) fp
 |int i=>
  obtain⟨t,rfl⟩:=bC;cases y with
  |bq=>cases bJ;exact atl (gu I q (by simp))
  |int j=>obtain⟨t',rfl⟩:=bJ;exact eq_int (gu I q Jj)
  |str j=>obtain⟨t',rfl⟩:=bJ;exact atd (gu I q (by simp))
  |_=>exact bG (show false=true from hs) fp
 |str i=>
  obtain⟨t,rfl⟩:=bC;cases y with
  |bq=>cases bJ;exact atq (gu I q (by simp))
  |aM j=>cases bJ;exact ate (gu I q (by simp))
  |int j=>obtain⟨t',rfl⟩:=bJ;exact atf (gu I q (by simp))
  |str j=>obtain⟨t',rfl⟩:=bJ;exact eq_str (gu I q V1)
  |_=>exact bG (show false=true from hs) fp
 |om i=>
  obtain⟨t,rfl⟩:=bC;cases y with
  |om j=>obtain⟨t',rfl⟩:=bJ;exact PySem.W.eq_bytes (gu I q V2)
  |_=>exact bG (show false=true from hs) fp
 |_=>cases y<;>exact bG (show false=true from hs) fp
theorem wY:gL X (jF .NotEq) aqN:=by
 intro pins s σ H x y v u Q I bC bJ h;obtain⟨hs,q⟩:=h;cases x with
 |bq=>
  cases bC;cases y with
  |bq=>cases bJ;exact atv (gu I q (by simp))
  |aM j=>cases bJ;exact att (gu I q (by simp))
  |int j=>obtain⟨t',rfl⟩:=bJ;exact atu (gu I q (by simp))
  |str j=>obtain⟨t',rfl⟩:=bJ;exact atw (gu I q (by simp))
  |_=>exact bG (show false=true from hs) fp
 |aM i=>
  cases bC;cases y with
  |bq=>cases bJ;exact atr (gu I q (by simp))
  |aM j=>cases bJ;exact ne_bool (gu I q (ha not WU))
  |str j=>obtain⟨t',rfl⟩:=bJ;exact atg (gu I q (by simp))
  |_=>exact bG (show false=true from hs) fp
 |int i=>
  obtain⟨t,rfl⟩:=bC;cases y with
  |bq=>cases bJ;exact ats (gu I q (by simp))
  |int j=>obtain⟨t',rfl⟩:=bJ;exact ne_int (gu I q (ha not Jj))
  |str j=>obtain⟨t',rfl⟩:=bJ;exact ath (gu I q (by simp))
  |_=>exact bG (show false=true from hs) fp
 |str i=>
  obtain⟨t,rfl⟩:=bC;cases y with
  |bq=>cases bJ;exact atx (gu I q (by simp))
  |aM j=>cases bJ;exact ati (gu I q (by simp))
  |int j=>obtain⟨t',rfl⟩:=bJ;exact atj (gu I q (by simp))
  |str j=>obtain⟨t',rfl⟩:=bJ;exact ne_str (gu I q (ha not V1))
  |_=>exact bG (show false=true from hs) fp
 |om i=>
  obtain⟨t,rfl⟩:=bC;cases y with
  |om j=>obtain⟨t',rfl⟩:=bJ;exact PySem.W.ne_bytes (gu I q (ha not V2))
  |_=>exact bG (show false=true from hs) fp
 |_=>cases y<;>exact bG (show false=true from hs) fp
theorem p2:gL X (jF .Lt) (wC λi j=>.aM (decide (i<j))):=LJ λ_ _ _ _ _ _ _ q=>lt_int q
theorem p0:gL X (jF .LtE) (wC λi j=>.aM (decide (i<=j))):=LJ λ_ _ _ _ _ _ _ q=>le_int q
theorem wZ:gL X (jF .Gt) (wC λi j=>.aM (decide (j<i))):=LJ λ_ _ _ _ _ _ _ q=>gt_int q
theorem WV:gL X (jF .Is) (λx y H Q=>y=.bq/\Q (.aM (decide (x=.bq))) H):=by
 intro pins s σ H x y v u Q I bC bJ h;obtain⟨rfl,q⟩:=h;cases bJ;refine is_none_gen (gu I q ?_);cases x<;>first
  | (cases bC;rfl)
  | (obtain⟨t,rfl⟩:=bC;rfl)
theorem Un:gL X (jF .IsNot) (λx y H Q=>y=.bq/\Q (.aM (!decide (x=.bq))) H):=by
 intro pins s σ H x y v u Q I bC bJ h;obtain⟨rfl,q⟩:=h;cases bJ;refine isnot_none_gen (gu I q ?_);cases x<;>first
  | (cases bC;rfl)
  | (obtain⟨t,rfl⟩:=bC;rfl)
theorem dz(b:Expr){op:sR}(h:op≠.In:=by decide)(ai:op≠.NotIn:=by decide):vj op b=false:=by
 have aB:(op==CmpOp.In)=false:=by cases op<;>first|rfl|exact bG rfl h
 have aD:(op==CmpOp.NotIn)=false:=by cases op<;>first|rfl|exact bG rfl ai
 cases b<;>simp[vj,aB,aD]
theorem i6{op:sR}{r:hu}(a3:gL X (jF op) r)(aK:bl X a b_)(U:bl X b dc)(hm:vj op b=false):bl X (.Compare a [op] [b] pos) (ES r b_ dc):=by intro pins s σ H Q I h;exact arZ (LI aK U I h λv u s2 x y ag bD bC bJ q=>a3 pins s2 σ ag x y v u Q bD bC bJ q) hm
noncomputable def Yn(t:TE):TT:=λσ H Q=>t σ H λx H'=>WO x H' Q
theorem eC{op:sR}{r:hu}(a3:gL X (jF op) r)(aK:bl X a b_)(U:bl X b dc)(hm:vj op b=false):lB X (.Compare a [op] [b] pos) (Yn (ES r b_ dc)):=by
 intro pins s σ H Q I h;refine ar3 (bF (aK pins s σ H _ I h) λv s1⟨x,H1,aR,ck,bQ⟩=>bF (U pins s1 σ H1 _ aR bQ) λu s2⟨y,ag,bD,dZ,cZ⟩=>
  bF (a3 pins s2 σ ag x y v u _ bD ck dZ cZ) λc s3⟨z,a_,c5,p3,k,e,hE⟩=>?_) hm
 subst e;cases p3;exact o' ⟨a_,c5,hE⟩
noncomputable def WW(r cw:hu)(b_ dc ke:TE):TE:=λσ H Q=>b_ σ H λx H1=>dc σ H1 λy ag=>r x y ag λz a_=>∃k,z=.aM k/\
 (if k=true then ke σ a_ λe5 dP=>cw y e5 dP Q else Q (.aM false) a_)
theorem Ts{op wk:sR}{r cw:hu}(a3:gL X (jF op) r)(kY:gL X (jF wk) cw)(aK:bl X a b_)(U:bl X b dc)(ay:bl X c ke)(hm:lastMarks [op,wk] [b,c]=false:=by with_unfolding_all rfl):bl X (.Compare a [op,wk] [b,c] pos) (WW r cw b_ dc ke):=by
 intro pins s σ H Q I h;refine Compare_chain (bF (aK pins s σ H _ I h) λv s1⟨x,H1,aR,ck,bQ⟩=>chain_link (bF (U pins s1 σ H1 _ aR bQ) λu s2⟨y,ag,bD,dZ,cZ⟩=>
  bF (a3 pins s2 σ ag x y v u _ bD ck dZ cZ) λd s3⟨z,a_,c5,p3,k,e,hE⟩=>?_)) hm
 subst e;cases p3;refine o' ?_;cases k with
 |false=>exact ite_ff ⟨.aM false,a_,c5,rfl,hE⟩
 |true=>exact ite_tt (chain_last (bF (ay pins s3 σ a_ _ c5 hE) λe5 s4⟨dr,dP,jU,wA,sl⟩=>kY pins s4 σ dP y dr u e5 Q jU dZ wA sl))
theorem Tt{op wk:sR}{r cw:hu}(a3:gL X (jF op) r)(kY:gL X (jF wk) cw)(aK:bl X a b_)(U:bl X b dc)(ay:bl X c ke)(hm:lastMarks [op,wk] [b,c]=false:=by with_unfolding_all rfl):lB X (.Compare a [op,wk] [b,c] pos) (Yn (WW r cw b_ dc ke)):=by
 intro pins s σ H Q I h;refine isTrue_chain (bF (aK pins s σ H _ I h) λv s1⟨x,H1,aR,ck,bQ⟩=>test_link (bF (U pins s1 σ H1 _ aR bQ) λu s2⟨y,ag,bD,dZ,cZ⟩=>
  bF (a3 pins s2 σ ag x y v u _ bD ck dZ cZ) λd s3⟨z,a_,c5,p3,k,e,hE⟩=>?_)) hm
 subst e;cases p3;refine o' ?_;cases k with
 |false=>
  obtain⟨pT,cm,fR⟩:=hE;cases cm;exact ite_ff ⟨a_,c5,fR⟩
 |true=>
  refine ite_tt (test_last (bF (ay pins s3 σ a_ _ c5 hE) λe5 s4⟨dr,dP,jU,wA,sl⟩=>bF (kY pins s4 σ dP y dr u e5 _ jU dZ wA sl) λd' s5⟨bA,bw,jy,wB,k2,aD,D_⟩=>?_));subst aD;cases wB;exact o' ⟨bw,jy,D_⟩
theorem zv:(sizeLine:Nat)<2 ^ 63:=by rw[p5];decide
theorem Dr:gL X (ti .Add) (λx y H Q=>∃i j,x=.str i/\y=.str j/\i.length+j.length<=sizeLine/\Q (.str (i++j)) H):=by intro pins s σ H x y v u Q I bC bJ h;obtain⟨i,j,rfl,rfl,hz,q⟩:=h;obtain⟨t,rfl⟩:=bC;obtain⟨t',rfl⟩:=bJ;exact add_str (λt' a5=>⟨.str (i++j),H,I.tok _,⟨_,rfl⟩,q⟩) hz
theorem vals1{x:V}{us:cC}(r:cO [x] us):∃u,us=[u]/\RelV x u:=by
 cases r with
 |cons ck dZ=>cases dZ;exact⟨_,rfl,ck⟩
theorem vals2{x y:V}{us:cC}(r:cO [x,y] us):∃u e5,us=[u,e5]/\RelV x u/\RelV y e5:=by
 cases r with
 |cons ck dZ=>
  cases dZ with
  |cons p3 wA=>cases wA;exact⟨_,_,rfl,ck,p3⟩
theorem Ŗ:j8 X (.type "int") (λxs H Q=>(∃i,xs=[.int i]/\Q (.int i) H)\/∃k,xs=[.aM k]/\Q (.int (if k then 1 else 0)) H):=by
 intro pins s σ H xs us Q I r h;rcases h with⟨i,rfl,q⟩|⟨k,rfl,q⟩
 .obtain⟨u,rfl,t,rfl⟩:=vals1 r;exact call_int_int ⟨.int i,H,I,⟨_,rfl⟩,q⟩
 .obtain⟨u,rfl,ck⟩:=vals1 r;cases ck;exact call_int_bool ⟨.int (if k then 1 else 0),H,I.tok _,⟨_,rfl⟩,q⟩
structure uO(h:Heap)(x ah C:Addr)(mA:cI):Prop where
 obj:h.get? x=some (u5 C ah)
 ns:h.Ns1 ah mA
 ne:ah≠x
end
theorem ab4{h:Heap}{ah:Addr}{mA:cI}(n:h.Ns1 ah mA):∃ea,h.get? ah=some ea/\∀name,Ly name ea=some (mA name):=by
 obtain⟨o,es,ep,a3,hd,aX,_,hm⟩:=n;refine⟨o,a3,λname=>?_⟩;have e:=hm name;unfold nsFind findBy at e;rw[<-Array.find?_toList]at e;unfold Ly;rw[hd];dsimp only;split
 .rename_i y q;rw[q]at e;exact ha some e
 .rename_i q;rw[q]at e;have a:es.toList.any (·.refKey)=false:=by rw[acO];intro y cS;obtain⟨z,t,yK⟩:=aX y (Array.mem_toList_iff.mp cS);simp[DictEntry.refKey,yK]
  have bt:¬es.toList.any (·.refKey)=true:=by rw[a];exact fp
  rw[bE bt];exact ha some e
theorem uO.look{h:Heap}{x ah C:Addr}{mA:cI}(I:uO h x ah C mA):∃ea,PySem.W.InstAt h x (u5 C ah) C (some ea)/\∀name,Ly name ea=some (mA name):=
 let⟨ea,a3,aj⟩:=ab4 I.ns
 ⟨ea,⟨I.obj,rfl,rfl,a3⟩,aj⟩
section
variable{prog:bO}{w:bx}{A:c0}{E:cD}{s:aF}{K:aV}{x ah C f:Addr}{mA:cI}{name:Str}{v:Value}
theorem afp{expr:Bool}{Q:cD}(X:K.In s.heap)(I:uO s.heap x ah C mA)(bP:u6 K C name=true)(dm:pz K C=true)(aK:b5 K (.ref C) name=some none)(bz:mA name=some v)(Pe:X6 v=true)(h:Q v {s with toks:=s.toks+1}):
  aQ (a9 prog w) A (NW (.ref x) name expr) Q E s:=by obtain⟨ea,J,aj⟩:=I.look;exact PySem.W.get_value X J (X' bP).1 (PySem.W.findObj_own dm aK rfl (by rw[aj,bz])) Pe h
theorem acr{pl:Sem Bool}{Q:Value×List Value->aF->Prop}(X:K.In s.heap)(I:uO s.heap x ah C mA)(bP:u6 K C name=true)(hf:b5 K (.ref C) name=some (some (.ref f)))(df:fX K (.ref f)=true)(bz:mA name=none)(h:Q (.ref f,[.ref x]) s):
  aQ (a9 prog w) A (vI (.ref x) name pl) Q E s:=by obtain⟨ea,J,aj⟩:=I.look;exact PySem.W.method_fn X J (X' bP).1 (X' bP).2 hf (pG.mp df) (by show(Ly name ea).map (·.isSome)=some false;rw[aj,bz];rfl) h
theorem afq{ns:b9}{Q:Unit->aF->Prop}(X:K.In s.heap)(I:uO s.heap x ah C mA)(hs:b5 K (.ref C) "__setattr__"=some (some (.builtin "object.__setattr__")))(aO:Bq K C=true)(df:Ya K C name=some none)(dm:pz K C=true)(hw:yd mA ns)(hsz:ns.length<=sizeLine)(h:∀h',uO h' x ah C (λy=>if y=name then some v else mA y)->kI ah s.heap h'->Q () {s with heap:=h',toks:=s.toks+2}):
  aQ (a9 prog w) A (EL (.ref x) name v) Q E s:=by obtain⟨ea,J,aj⟩:=I.look;refine PySem.W.set_plain X J hs (PySem.W.osa_open (s:={s with toks:=s.toks+1}) (r:=none) X J aO df λb=>?_);obtain⟨cd,ay,mZ⟩:=aeH dm;have av:s.heap.get? x=some ⟨.ref C,some ah,.plain,#[]⟩:=I.obj;refine ax (bj (ax (ax (ar5 av (ax (PySem.W.Looks.here (s:={s with toks:=s.toks+1}) (aeQ X ay) ?_))))));rw[mZ];refine bj (a:=some ah) (ax (bj (ax ?_)));refine wpAny_nsSet1 (s:={s with toks:=s.toks+1}) I.ns λh' Hu k4=>?_;obtain⟨aqn,am5,am3,OX,Ot,Oq⟩:=Hu.count (Yb name v hw);refine ax (ar6 OX (by rw[Ot];exact aqv (eQ Oq (by rw[l6];omega))) ?_);exact bj (h _ ⟨(k4.2 _ (cR I.ne)).trans I.obj,Hu,I.ne⟩ k4)
theorem acs{R:nu->aF->Prop}{vs:cC}{kw:List (Str×Value)}(X:K.In s.heap)(hm:Bo K C=true)(ar:b5 K (.ref C) "__init__"=some (some (.ref f)))(hf:u7 K (.ref f)=some (.type "function"))(h:jX (a9 prog w) (A.under (.builtin "type.__call__" ⟨.ref C::vs,kw⟩)) (.call (.ref f) ⟨.ref (s.heap.objs.size+1)::vs,kw⟩) (PySem.W.InitBack (s.heap.objs.size+1) R)
   {s with heap:=(s.heap.push s_).push (u5 C s.heap.objs.size)}):
  jX (a9 prog w) A (.call (.ref C) ⟨vs,kw⟩) R s:=by obtain⟨dm,g,d,t,os⟩:=s;exact PySem.W.make_core (PySem.W.makes_of X hm) (rO X ar) (λself=>aeI X self hf) (.inl rfl) h
end
noncomputable def j'(f:Str)(v:V):List (Str×V)->List (Str×V)
 |[]=>[(f,v)]
 | (g,x)::r=>if g=f then(g,v)::r else(g,x)::j' f v r
theorem Rk(f g:Str)(v:V):∀fs:List (Str×V),(j' f v fs).lookup g=if g=f then some v else fs.lookup g
 |[]=>by
  show sX g [(f,v)]=_;by_cases h:g=f
  .have U:(g==f)=true:=pG.mpr h;simp only[sX,U,bM h]
  .have U:(g==f)=false:=vk.mpr h;simp only[sX,U,bE h]
 | (k,x)::r=>by
  have a6:=Rk f g v r;rw[show j' f v ((k,x)::r)=(if k=f then(k,v)::r else(k,x)::j' f v r)from rfl];by_cases aX:k=f
  .rw[bM aX];by_cases h:g=k
   .have U:(g==k)=true:=pG.mpr h;simp only[sX,U,bM (h.trans aX)]
   .have U:(g==k)=false:=vk.mpr h;simp only[sX,U,bE (λe:g=f=>h (e.trans aX.symm))]
  .rw[bE aX];by_cases h:g=k
   .have U:(g==k)=true:=pG.mpr h;simp only[sX,U,bE (λe:g=f=>aX (h.symm.trans e))]
   .have U:(g==k)=false:=vk.mpr h;simp only[sX,U];exact a6
theorem DH(f:Str)(v:V):∀fs:List (Str×V),f∈(j' f v fs).map (·.1)/\∀g,g∈fs.map (·.1)->g∈(j' f v fs).map (·.1)
 |[]=>⟨by simp[j'],λg h=>by simp at h⟩
 | (k,x)::r=>by
  obtain⟨Pm,aoW⟩:=DH f v r;rw[show j' f v ((k,x)::r)=(if k=f then(k,v)::r else(k,x)::j' f v r)from rfl];by_cases aX:k=f
  .rw[bM aX];subst aX;exact⟨by simp,λg h=>by simpa using h⟩
  .rw[bE aX];refine⟨?_,λg h=>?_⟩
   .rw[hQ];exact mL _ Pm
   .rw[hQ]at h⊢;rcases c'.mp h with e|e
    .exact c'.mpr (.inl e)
    .exact mL _ (aoW g e)
theorem Rl(f:Str)(v:V):∀fs:List (Str×V),(j' f v fs).length<=fs.length+1
 |[]=>by simp[j']
 | (k,x)::r=>by
  have a6:=Rl f v r;rw[show j' f v ((k,x)::r)=(if k=f then(k,v)::r else(k,x)::j' f v r)from rfl];by_cases aX:k=f
  .rw[bM aX,l6,l6];omega
  .rw[bE aX,l6,l6];omega
theorem iX.some_of{v:V}{o:yg}(r:iX (some v) o):∃u,o=some u/\RelV v u:=by
 cases o with
 |none=>exact(show False from r).elim
 |some u=>exact⟨u,rfl,r⟩
theorem iX.none_of{o:yg}(r:iX none o):o=none:=by
 cases o with
 |none=>rfl
 |some u=>exact(show False from r).elim
theorem ŗ{v:V}{u:Value}(r:RelV v u):X6 u=true:=by
 cases v with
 |bq=>cases(show u=fZ from r);rfl
 |aM b=>cases(show u=LR b from r);rfl
 |int i=>obtain⟨t,e⟩:=(show∃t,u=oh i t from r);cases e;rfl
 |str x=>obtain⟨t,e⟩:=(show∃t,u=ve x t from r);cases e;rfl
 |om b=>obtain⟨t,e⟩:=(show∃t,u=Value.bytes b t from r);cases e;rfl
 |vE b=>obtain⟨t,e⟩:=(show∃t,u=YC b t from r);cases e;rfl
 |ref a=>cases(show u=cE a from r);rfl
 |ty n=>cases(show u=td n from r);rfl
section
variable{P:bO}{w:bx}{H H':ae}{h h':Heap}{a C ah:Addr}{fs anh:List (Str×V)}
theorem Jk(bb:fq P w H h)(e:H a=some (.ins C ah fs)):∃mA,uO h a ah C mA/\(∀f,iX (fs.lookup f) (mA f))/\yd mA (fs.map (·.1))/\fs.length<=1000/\H ah=some (.own a):=by
 obtain⟨d,z,ne,ob,mA,n,r,q⟩:=(show el P w H h a (.ins C ah fs)from bb a _ e)
 exact⟨mA,⟨ob,n,ne⟩,r,q,z,d⟩
end
structure fB(K:aV)(C:Addr):Prop where
 aqw:u6 K C mQ=true
 hd:pz K C=true
 po:Bq K C=true
 i0:b5 K (.ref C) "__setattr__"=some (some (.builtin "object.__setattr__"))
theorem fB.get{K:aV}{C:Addr}(c:fB K C)(f:Str):u6 K C f=true:=c.aqw
noncomputable def uf(K:aV)(C:Addr)(f:Str):Prop:=b5 K (.ref C) f=some none
theorem uf.arF{K:aV}{C:Addr}{f:Str}(n:uf K C f):Ya K C f=some none:=by unfold Ya;rw[show b5 K (.ref C) f=some none from n];rfl
structure Meth(K:aV)(C:Addr)(m:Str)(f:Addr):Prop where
 at_:b5 K (.ref C) m=some (some (.ref f))
 fn:fX K (.ref f)=true
 bI:pA K (.ref f)=true
section
variable{X:bg}{pins:cy}{σ:St}{H:ae}{s:aF}{a C ah:Addr}{fs:List (Str×V)}{f:Str}{v:V}{A:c0}{E:cD}
theorem aaR{b:Bool}{Q:cD}(I:Inv X pins σ H s)(e:H a=some (.ins C ah fs))(c:fB X.K C)(n:uf X.K C f)(l:fs.lookup f=some v)(h:∀u s',Inv X pins σ H s'->RelV v u->Q u s'):aQ (a9 X.prog X.w) A (NW (.ref a) f b) Q E s:=by obtain⟨mA,O,r,_,_,_⟩:=Jk I.bb e;obtain⟨u,b7,ez⟩:=iX.some_of (v:=v) (o:=mA f) (by rw[<-l];exact r f);exact afp I.eD O (c.get f) c.hd n b7 (ŗ ez) (h u _ (I.tok _) ez)
theorem Ds{m:Str}{g:Addr}{pl:Sem Bool}{Q:Value×List Value->aF->Prop}(I:Inv X pins σ H s)(e:H a=some (.ins C ah fs))(c:fB X.K C)(k:Meth X.K C m g)(l:fs.lookup m=none)(h:Q (.ref g,[.ref a]) s):aQ (a9 X.prog X.w) A (vI (.ref a) m pl) Q E s:=by obtain⟨mA,O,r,_,_,_⟩:=Jk I.bb e;have aT:mA m=none:=iX.none_of (by rw[<-l];exact r m);exact acr I.eD O (c.get m) k.at_ k.fn aT h
theorem aaS{y:V}{u:Value}{Q:Unit->aF->Prop}(I:Inv X pins σ H s)(e:H a=some (.ins C ah fs))(c:fB X.K C)(n:uf X.K C f)(aj:fs.length<1000)(bJ:RelV y u)(h:∀s',Inv X pins σ (upd H a (.ins C ah (j' f y fs))) s'->Q () s'):aQ (a9 X.prog X.w) A (EL (.ref a) f u) Q E s:=by
 obtain⟨mA,O,r,dh,_,a3⟩:=Jk I.bb e;have hz:(fs.map (·.1)).length<=sizeLine:=by rw[bp,p5];omega
 refine afq I.eD O c.i0 c.po n.arF c.hd dh hz λh' Lh b'=>h _ ?_;have hd:∃o,h'.get? ah=some o:=let⟨o,_,_,cm,_⟩:=Lh.ns;⟨o,cm⟩
 refine I.write (x:=a) (e:=ah) (by rw[e];exact lC) (.inr a3) (λb q U z=>(b'.2 b U).trans z) hd ?_;refine⟨by rw[aA O.ne];exact a3,?_,O.ne,Lh.obj,_,Lh.ns,λg=>?_,λg bP=>?_⟩
 .have:=Rl f y fs;omega
 .show iX ((j' f y fs).lookup g) (if g=f then some u else mA g);rw[Rk];by_cases q:g=f
  .rw[bM q,bM q];exact bJ
  .rw[bE q,bE q];exact r g
 .by_cases q:g=f
  .rw[q];exact(DH f y fs).1
  .refine(DH f y fs).2 g (dh g λz=>bP ?_);show(if g=f then some u else mA g)=none;rw[bE q];exact z
theorem Inv.made(I:Inv X pins σ H s):Inv X pins σ (upd (upd H s.heap.objs.size (.own (s.heap.objs.size+1))) (s.heap.objs.size+1) (.ins C s.heap.objs.size []))
  {s with heap:=(s.heap.push s_).push (u5 C s.heap.objs.size)}:=by
 have aB:(s.heap.push s_).get? s.heap.objs.size=some s_:=gq s.heap rfl;have aD:((s.heap.push s_).push (u5 C s.heap.objs.size)).get? (s.heap.objs.size+1)=some (u5 C s.heap.objs.size):=by
  have:=gq (s.heap.push s_) (o:=u5 C s.heap.objs.size) rfl
  rwa [xN]at this
 have cH:(s.heap.push s_).Ns s.heap.objs.size (λ_=>none):=⟨s_,#[],_,aB,rfl,(λe he=>bG he (by simp)),λ_=>rfl⟩
 have aR:=I.laid (a:=s.heap.objs.size) (o:=.own (s.heap.objs.size+1)) (h':=s.heap.push s_) (t':=s.toks) (λb u q=>dM _ q) (cq _) ⟨_,aB⟩;refine aR.laid (a:=s.heap.objs.size+1) (o:=.ins C s.heap.objs.size []) (t':=s.toks) (λb u q=>dM _ q) (K' (xN _ _)) ?_;have ne:s.heap.objs.size≠s.heap.objs.size+1:=eN (F4 _);refine⟨by rw[aA ne,aP],e_ _,ne,aD,λ_=>none,(abp cH).at λo q=>dM _ q,λ_=>lC,λy cS=>bG rfl cS⟩
theorem V3{prog:bO}{w:bx}{env:Env}{e:Expr}{f:Str}{pos:Pos}{s:aF}{Q:cD}(U:vh e f env (eval e env)=eval e env)(h:aQ (a9 prog w) A (eval e env) (λo dU=>aQ (a9 prog w) A (NW o f true) Q E dU) E s):aQ (a9 prog w) A (eval (.Attribute e f pos) env) Q E s:=
 Attribute_any_ h (by rw[arm_eval_Attribute,U])
end
inductive ajW(K:aV)(f:Str)(x:V)(H1:ae)(Q:ba):Prop where
 |mk (a:_) (C:_) (ah:_) (fs:_) (v:_) (bV:x=.ref a) (bA:H1 a=some (.ins C ah fs)) (cn:fB K C) (di:uf K C f) (d8:fs.lookup f=some v) (fI:Q v H1)
noncomputable def YF(K:aV)(b_:TE)(f:Str):TE:=λσ H Q=>b_ σ H λx H1=>ajW K f x H1 Q
noncomputable def YG(K:aV)(b_ kf:TE)(f:Str):e8:=λD σ H=>kf σ H λy H1=>b_ σ H1 λx ag=>∃a C ah fs,x=.ref a/\ag a=some (.ins C ah fs)/\fB K C/\uf K C f/\fs.length<1000/\
 D.cj σ (upd ag a (.ins C ah (j' f y fs)))
section
variable{X:bg}{o e value:Expr}{f:Str}{pos pos' EV:Pos}{b_ kf:TE}
theorem e2(he:bl X e b_)(U:vh e f X.env (eval e X.env)=eval e X.env):bl X (.Attribute e f pos) (YF X.K b_ f):=by intro pins s σ H Q I h;refine V3 U (bF (he pins s σ H _ I h) λu s1⟨x,H1,aR,bC,a,C,ah,fs,v,ex,au,c,n,l,q⟩=>?_);subst ex;obtain rfl:u=cE a:=bC;exact aaR aR au c n l λu' s2 bD ez=>⟨v,H1,bD,ez,q⟩
theorem lI(aK:bl X o b_)(bz:bl X value kf)(hs:wN value (some (.Attribute o f pos')) pos.line X.env=pure false):fW X (.Assign [.Attribute o f pos'] value pos) (YG X.K b_ kf f):=by intro pins s σ H D I h;refine aqx (bF (bz pins s σ H _ I h) λu s1⟨y,H1,aR,bJ,q⟩=>bF (aK pins s1 σ H1 _ aR q) λeT s2⟨x,ag,bD,bC,a,C,ah,fs,ex,au,c,n,l,cZ⟩=>?_) hs;subst ex;obtain rfl:eT=cE a:=bC;exact aaS bD au c n l bJ λs3 c5=>⟨σ,_,c5,cZ⟩
theorem atE{pl:Sem Bool}{m:Str}{eX:Pos}{args:gO}{pins:cy}{s:aF}{σ:St}{H:ae}{Q:cD}{b3:TE}(he:bl X e b3)(I:Inv X pins σ H s)(h:b3 σ H λx H1=>∃a C ah fs g,x=.ref a/\H1 a=some (.ins C ah fs)/\fB X.K C/\Meth X.K C m g/\fs.lookup m=none/\
   ∀s1,Inv X pins σ H1 s1->aQ (a9 X.prog X.w) X.A (yl pos (.ref g) [.ref a] (hA pos (dV args X.env)) (kO pos (k' [] X.env))) Q X.d0 s1)(df:eval (.Call (.Attribute e m eX) args [] pos) X.env=(do
   let eT <-eval e X.env
   sz eX.atName
   let(f,first) <-mm [eT] (vI eT m pl)
   yl pos f first (hA pos (dV args X.env)) (kO pos (k' [] X.env)))):
  aQ (a9 X.prog X.w) X.A (eval (.Call (.Attribute e m eX) args [] pos) X.env) Q X.d0 s:=by refine Bp (pl:=pl) (bF (he pins s σ H _ I h) λu s1⟨x,H1,aR,bC,a,C,ah,fs,g,ex,au,c,k,l,q⟩=>?_) df;subst ex;obtain rfl:u=cE a:=bC;exact Ds aR au c k l (q s1 aR)
end
section
variable{X:bg}{pins:cy}{σ:St}{H:ae}{s:aF}{A:c0}{E:cD}{Q:cD}{c:Value}{b:Bool}
inductive m9(K:aV)(H:ae):V->Value->Prop where
 |bq:m9 K H .bq (.type "NoneType")
 |aM (x:Bool):m9 K H (.aM x) (.type "bool")
 |int (i:Int):m9 K H (.int i) (.type "int")
 |str (x:Str):m9 K H (.str x) (.type "str")
 |vE (x:UInt64):m9 K H (.vE x) (.type "float")
 |lst {a:Addr} {xs:aZ} (e:H a=some (.lst xs)):m9 K H (.ref a) (.type "list")
 |eO {a:Addr} {o:Obj} {xs:aZ} (e:H a=some (.eO o (.lst xs))):m9 K H (.ref a) (.type "list")
 |tup {a:Addr} {xs:aZ} (e:H a=some (.tup xs)):m9 K H (.ref a) (.type "tuple")
 |b0 {a:Addr} {kvs:List (a'×V)} (e:H a=some (.b0 kvs)):m9 K H (.ref a) (.type "dict")
 |c3 {a:Addr} {kvs:List (List a'×V)} (e:H a=some (.c3 kvs)):m9 K H (.ref a) (.type "dict")
 |ins {a C ah:Addr} {fs:List (Str×V)} (e:H a=some (.ins C ah fs)) (cl:fB K C) (aK:b5 K (.ref C) "__class__"=some (some (.builtin "object.__class__")))
   (aT:ta K (.builtin "object.__class__") "__get__"=some (some (.builtin "getset_descriptor.__get__"))) (HF:Br K (.builtin "object.__class__")=some true)
   (hm:ql K C (.type "object")=some true):m9 K H (.ref a) (.ref C)
theorem ab5{x:V}{u t:Value}(I:Inv X pins σ H s)(bC:RelV x u)(ty:m9 X.K H x t)(e:h8 X.K t c=some b)(h:∀a5,Q (.bool b) {s with toks:=a5}):
  aQ (a9 X.prog X.w) A (call (.builtin "isinstance") [u,c]) Q E s:=by
 cases ty with
 |bq=>cases(show u=fZ from bC);exact mO PySem.W.kitx_none I.eD lC e (λz=>nomatch z) h
 |aM y=>cases(show u=LR y from bC);exact mO PySem.W.kitx_bool I.eD lC e (λz=>nomatch z) h
 |int i=>obtain⟨t,q⟩:=(show∃t,u=oh i t from bC);cases q;exact mO PySem.W.kitx_int I.eD lC e (λz=>nomatch z) h
 |str y=>obtain⟨t,q⟩:=(show∃t,u=ve y t from bC);cases q;exact mO PySem.W.kitx_str I.eD lC e (λz=>nomatch z) h
 |vE y=>obtain⟨t,q⟩:=(show∃t,u=YC y t from bC);cases q;exact mO PySem.W.kitx_float I.eD lC e (λz=>nomatch z) h
 |@lst a xs au=>
  cases(show u=cE a from bC);obtain⟨_,_,n,_,af⟩:=(show el X.prog X.w H s.heap a (.lst xs)from I.bb a _ au)
  exact mO aeP I.eD ⟨_,af,rfl⟩ e (λz=>nomatch z) h
 |@eO a ob xs au=>
  cases(show u=cE a from bC);obtain⟨_,_,_,n,_,af⟩:=(show el X.prog X.w H s.heap a (.eO ob (.lst xs))from I.bb a _ au)
  exact mO aeP I.eD ⟨_,af,rfl⟩ e (λz=>nomatch z) h
 |@tup a xs au=>
  cases(show u=cE a from bC);obtain⟨_,_,_,p⟩:=(show el X.prog X.w H s.heap a (.tup xs)from I.bb a _ au)
  obtain⟨o,af,ai,_⟩:=p;exact mO PySem.W.kitx_tuple I.eD ⟨o,af,ai⟩ e (λz=>nomatch z) h
 |@b0 a kvs au=>
  cases(show u=cE a from bC);obtain⟨_,_,vs,_,p⟩:=(show el X.prog X.w H s.heap a (.b0 kvs)from I.bb a _ au)
  obtain⟨o,es,ep,af,ai,_⟩:=p;exact mO aeO I.eD ⟨o,af,ai.1⟩ e (λz=>nomatch z) h
 |@c3 a kvs au=>
  cases(show u=cE a from bC);obtain⟨_,_,xs,_,o,es,ep,af,ai,_⟩:=(show el X.prog X.w H s.heap a (.c3 kvs)from I.bb a _ au)
  exact mO aeO I.eD ⟨o,af,ai.1⟩ e (λz=>nomatch z) h
 |@ins a C ah fs au cl aK aT HF hm=>
  cases(show u=cE a from bC);obtain⟨mA,O,_⟩:=Jk I.bb au;obtain⟨ea,J,_⟩:=O.look;exact mO (PySem.W.kitx_own (cl.get _) cl.hd aK aT HF hm) I.eD J e (λz=>nomatch z) h
end
structure gk(k:Nat)(A:c0):Prop where
 hd:A.handled=none
 GA:A.depth+3*k+5<recursionLimit
 un:A.units+16*k+200<cLine
theorem gk.mono{j k:Nat}{A:c0}(r:gk k A)(h:j<=k):gk j A:=⟨r.hd,by have:=r.GA;omega,by have:=r.un;omega⟩
theorem gk.deeper{k:Nat}{A:c0}(r:gk (k+1) A)(env:Env):gk k (A.deeper env):=
 ⟨r.hd,by have:=r.GA;show A.depth+1+3*k+5<_;omega,by have:=r.un;show A.units+3+16*k+200<_;omega⟩
theorem aaT{A:c0}{C:Addr}{us:cC}{kw:List (Str×Value)}:(A.under (.builtin "type.__call__" ⟨.ref C::us,kw⟩)).depth=A.depth+1:=by
 first|rfl|simp[U5,Code.weight,Code.isCreation,Code.isGuard,Code.isCaller,Code.frames,Vy,guardIds]
theorem aaU{A:c0}{C:Addr}{us:cC}{kw:List (Str×Value)}:(A.under (.builtin "type.__call__" ⟨.ref C::us,kw⟩)).units=A.units+1:=by
 first|rfl|simp[U5,Code.cUnits,Code.frames,Vy]
theorem gk.make{k:Nat}{A:c0}(r:gk (k+1) A)(C:Addr)(us:cC)(kw:List (Str×Value)):gk k (A.under (.builtin "type.__call__" ⟨.ref C::us,kw⟩)):=
 ⟨r.hd,by have:=r.GA;rw[aaT];omega,by have:=r.un;rw[aaU];omega⟩
theorem gk.depth{k:Nat}{A:c0}(r:gk k A):A.depth<recursionLimit:=by have:=r.GA;omega
theorem gk.units{k:Nat}{A:c0}(r:gk k A):A.units+64<cLine:=by have:=r.un;omega
noncomputable def AV:gi:=λ_ H Q=>Q [] H
noncomputable def sm(b_:TE)(wQ:gi):gi:=λσ H Q=>b_ σ H λx H1=>wQ σ H1 λxs ag=>Q (x::xs) ag
section
variable{X:bg}{e:Expr}{es:gO}{b3:TE}{t:gi}{pos:Pos}
theorem aI:fV X [] AV:=λ_ _ _ _ H Q I h=>Fv ⟨[],H,I,.nil,h⟩
theorem ak(aK:bl X e b3)(aq:fV X es t)(hs:dV (e::es) X.env=(false,eval e X.env)::dV es X.env:=by rfl):fV X (e::es) (sm b3 t):=by intro pos pins s σ H Q I h;rw[hs];show aQ _ _ (spliced ((false,eval e X.env)::hA pos (dV es X.env))) _ _ s;refine uM (bF (aK pins s σ H _ I h) λu s1⟨x,H1,aR,ck,bQ⟩=>?_);exact bF (aq pos pins s1 σ H1 _ aR bQ) λus s2⟨xs,ag,bD,dZ,cZ⟩=>⟨x::xs,ag,bD,.cons ck dZ,cZ⟩
noncomputable def ajX(t:gi):TE:=λσ H Q=>t σ H λxs H1=>xs.length<=sizeLine/\∀p,H1 p=none->Q (.ref p) (upd H1 p (.tup xs))
noncomputable def ajY(t:gi):TE:=λσ H Q=>t σ H λxs H1=>xs.length<=sizeLine/\∀p,H1 p=none->Q (.ref p) (upd H1 p (.lst xs))
theorem i8{e0}(h:fV X es t):bl X (.Tuple es e0 pos) (ajX t):=by intro pins s σ H Q I aU;refine wpAny_Tuple_spliced (bF (h pos pins s σ H _ I aU) λus s1⟨xs,H1,aR,r,z,q⟩=>⟨by rw[<-r.length];exact z,?_⟩);have hf:H1 s1.heap.objs.size=none:=aR.bb.fresh (cq _);refine⟨.ref s1.heap.objs.size,upd H1 s1.heap.objs.size (.tup xs),aR.laid (t':=s1.toks) (λb u e=>dM _ e) (cq _) ?_,rfl,q _ hf⟩;exact⟨z,us,r,⟨_,gq _ rfl,rfl,_,rfl⟩⟩
theorem gS(h:fV X es t):bl X (.List es pos) (ajY t):=by intro pins s σ H Q I aU;refine wpAny_List_spliced (bF (h pos pins s σ H _ I aU) λus s1⟨xs,H1,aR,r,z,q⟩=>⟨by rw[<-r.length];exact z,?_⟩);have hf:H1 s1.heap.objs.size=none:=aR.bb.fresh (cq _);refine⟨.ref s1.heap.objs.size,upd H1 s1.heap.objs.size (.lst xs),aR.laid (t':=s1.toks) (λb u e=>dM _ e) (cq _) ?_,rfl,q _ hf⟩;exact⟨z,us,0,r,gq _ rfl⟩
noncomputable abbrev cM:=List V->ae->ba->b6->Prop
noncomputable abbrev ni:=List Env->ae->aF->b6->Value->aF->Prop
structure uP(P:bO)(w:bx)(K:aV)(mg:cI)(base:Heap)(A:c0)(outer:List Env)(s:aF)(H:ae):Prop where
 frames:A.frames=some outer
 mod:Mod K mg base
 bs:∀b o,base.get? b=some o->s.heap.get? b=some o/\H b=none
 qr:base.objs.size<=s.heap.objs.size
 kr:s.heap.FunFrames base outer
 rW:∀b∈fy outer,H b=none
 bb:fq P w H s.heap
 bare:rE s.gens
noncomputable def J9(outer:List Env)(P:bO)(w:bx)(H:ae)(s:aF)(Q:ba)(u:Value)(s':aF):Prop:=
 ∃v H',s'.os=s.os/\rE s'.gens/\h9 (fy outer) [] H H' s.heap s'.heap/\fq P w H' s'.heap/\RelV v u/\Q v H'
end
noncomputable def aay(CX:ni)(outer:List Env)(P:bO)(w:bx)(H:ae)(s:aF)(Q:ba)(E:b6)(r:nu)(s':aF):Prop:=
 match r with
 |.ok (.ret u)=>J9 outer P w H s Q u s'
 |.ok _=>False
 |.error e=>CX outer H s E e s'
structure aL(P:bO)(w:bx)(K:aV)(mg:cI)(base:Heap)(CX:ni)(k:Nat)(f:Addr)(fd:cF)(ps:b9)(sp:cM):Prop where
 len:∀vs H Q E,sp vs H Q E->vs.length=ps.length
 run:∀(A:c0)(outer:List Env)(s:aF)(H:ae)(args:Args)(us:cC)(vs:aZ)(Q:ba)(E:b6),gk k A->uP P w K mg base A outer s H->z9 s fd args (ps.zip us)->cO vs us->sp vs H Q E->
  jX (a9 P w) A (.call (.ref f) args) (aay CX outer P w H s Q E) s
theorem uP.make{P:bO}{w:bx}{K:aV}{mg:cI}{base:Heap}{A:c0}{outer:List Env}{s:aF}{H:ae}(e:uP P w K mg base A outer s H)(C:Addr)(us:cC)(kw:List (Str×Value)):
  uP P w K mg base (A.under (.builtin "type.__call__" ⟨.ref C::us,kw⟩)) outer s H:=⟨by first|exact e.frames|(simpa[U5,Code.envs,Vy,pushEnvs]using e.frames),e.mod,e.bs,e.qr,e.kr,e.rW,e.bb,e.bare⟩
section
variable{X:bg}{pins:cy}{σ:St}{H:ae}{s s':aF}
theorem Inv.BY(I:Inv X pins σ H s):uP X.prog X.w X.K X.mg X.base X.A X.stack s H:=
 ⟨I.ok.frames,I.ok.mod,I.bs,eQ I.ok.qr I.jh,I.stack,I.Ja,I.bb,I.bare⟩
theorem Inv.after{Q:ba}{u:Value}(I:Inv X pins σ H s)(h:J9 X.stack X.prog X.w H s Q u s'):ir X pins σ Q u s':=by obtain⟨v,H',os,bare,un,bb,r,q⟩:=h;obtain⟨dm,g,d,t,aqq⟩:=s';obtain rfl:aqq=s.os:=os;exact⟨v,H',I.call (h':=dm) (g':=g) (d':=d) (t':=t) (ch:=[]) un bb bare (λb z=>bG z (by simp)),r,q⟩
end
noncomputable def ahU(sp:cM)(jo:aZ)(E:b6)(t:gi):TE:=λσ H Q=>t σ H λvs H1=>sp (vs++jo) H1 Q E
inductive ahV(C:Addr)(m:Str)(x:V)(H1:ae)(R:Prop):Prop where
 |mk (a:_) (ah:_) (fs:_) (bV:x=.ref a) (bA:H1 a=some (.ins C ah fs)) (cn:fs.lookup m=none) (di:R)
noncomputable def KR(C:Addr)(m:Str)(sp:cM)(jo:aZ)(E:b6)(b_:TE)(t:gi):TE:=λσ H Q=>b_ σ H λx H1=>ahV C m x H1 (t σ H1 λvs ag=>sp (x::(vs++jo)) ag Q E)
noncomputable def air(C:Addr)(sp:cM)(jo:aZ)(E:b6)(t:gi):TE:=λσ H Q=>t σ H λvs H1=>∀x ah,H1 x=none->H1 ah=none->ah≠x->
 sp (.ref x::(vs++jo)) (upd (upd H1 ah (.own x)) x (.ins C ah [])) (λv ag=>v=.bq/\Q (.ref x) ag) E
noncomputable def Binds(K:aV)(fd:cF)(ps:b9)(ds:cC):Prop:=
 ∀(s:aF)(us:cC),K.In s.heap->(us++ds).length=ps.length->z9 s fd ⟨us,[]⟩ (ps.zip (us++ds))
theorem Binds.all{K:aV}{fd:cF}{ps:b9}(h:∀us:List Value,us.length=ps.length->bindArgs fd ⟨us,[]⟩=pure (ps.zip us)):Binds K fd ps []:=λs us _ aj=>by rw[l4]at aj⊢;exact .of_eq (h us aj)
noncomputable def pS(CX:ni)(X:bg)(E:b6):Prop:=∀(pins:cy)(σ:St)(H:ae)(s:aF)(e:Value)(s':aF),Inv X pins σ H s->CX X.stack H s E e s'->X.d0 e s'
section
variable{X:bg}{CX:ni}{k:Nat}{f C:Addr}{fd:cF}{ps:b9}{sp:cM}{jo:aZ}{ds:cC}{E:b6}{x m:Str}{p pos eX:Pos}{e o:Expr}{es:gO}{b_:TE}{t:gi}
theorem Kg{pins:cy}{σ:St}{H:ae}{s:aF}{Q:ba}{us:cC}{vs:aZ}(F:aL X.prog X.w X.K X.mg X.base CX k f fd ps sp)(aq:gk k X.A)(U:Binds X.K fd ps ds)(hd:cO jo ds)(av:pS CX X E)(I:Inv X pins σ H s)(r:cO vs us)(h:sp (vs++jo) H Q E):aQ (a9 X.prog X.w) X.A (call (.ref f) us) (ir X pins σ Q) X.d0 s:=by
 have dZ:cO (vs++jo) (us++ds):=r.append hd;have aj:(us++ds).length=ps.length:=by rw[<-dZ.length];exact F.len _ _ _ _ h
 refine p' (rR (F.run X.A X.stack s H ⟨us,[]⟩ (us++ds) (vs++jo) Q E aq I.BY (U s us I.eD aj) dZ h) λr s' aU=>?_);cases r with
 |error e=>exact av pins σ H s e s' I aU
 |ok fl=>
  cases fl with
  |ret u=>exact I.after aU
  |next=>exact hP aU
  |brk=>exact hP aU
  |cont=>exact hP aU
theorem fw(F:aL X.prog X.w X.K X.mg X.base CX k f fd ps sp)(aq:gk k X.A)(bP:i3 X x)(hm:X.mg x=some (.ref f))(aX:pA X.K (.ref f)=true)(U:Binds X.K fd ps ds)(hd:cO jo ds)(av:pS CX X E)(aK:fV X (e::es) t)(kX:(x==("__debug__":Str))=false:=by decide)(he:dV (e::es) X.env=(false,eval e X.env)::dV es X.env:=by rfl)(fP:(hA pos (dV es X.env)).any (·.1)=false:=by rfl):
  bl X (.Call (.Name x p) (e::es) [] pos) (ahU sp jo E t):=by intro pins s σ H Q I h;refine zO (r_ I bP hm ?_ kX);refine Bm (h₀:=X.base) I.ok.mod.sf aX (bF (aK pos pins s σ H _ I h) λus s1⟨vs,H1,aR,r,q⟩=>⟨aR.eD,?_⟩) he fP;exact Kg F aq U hd av aR r q
theorem g_{pl:Sem Bool}(he:bl X o b_)(c:fB X.K C)(hm:Meth X.K C m f)(F:aL X.prog X.w X.K X.mg X.base CX k f fd ps sp)(aq:gk k X.A)(U:Binds X.K fd ps ds)(hd:cO jo ds)(av:pS CX X E)(aK:fV X (e::es) t)(k7:dV (e::es) X.env=(false,eval e X.env)::dV es X.env:=by rfl)(fP:(hA pos (dV es X.env)).any (·.1)=false:=by rfl)(df:eval (.Call (.Attribute o m eX) (e::es) [] pos) X.env=(do
   let eT <-eval o X.env
   sz eX.atName
   let(f,first) <-mm [eT] (vI eT m pl)
   yl pos f first (hA pos (dV (e::es) X.env)) (kO pos (k' [] X.env))):=by rfl):
  bl X (.Call (.Attribute o m eX) (e::es) [] pos) (KR C m sp jo E b_ t):=by intro pins s σ H Q I h;refine Bp (pl:=pl) (bF (he pins s σ H _ I h) λu s1⟨x,H1,aR,bC,a,ah,fs,ex,au,l,q⟩=>?_) df;subst ex;obtain rfl:u=cE a:=bC;refine Ds aR au c hm l ?_;refine Bm (first:=[.ref a]) (h₀:=X.base) I.ok.mod.sf hm.bI (bF (aK pos pins s1 σ H1 _ aR q) λus s2⟨vs,ag,bD,r,cZ⟩=>⟨bD.eD,?_⟩) k7 fP;exact Kg (us:=.ref a::us) (vs:=.ref a::vs) F aq U hd av bD (.cons rfl r) cZ
theorem mV{pl:Sem Bool}(he:bl X o b_)(c:fB X.K C)(hm:Meth X.K C m f)(F:aL X.prog X.w X.K X.mg X.base CX k f fd ps sp)(aq:gk k X.A)(U:Binds X.K fd ps ds)(hd:cO jo ds)(av:pS CX X E)(df:eval (.Call (.Attribute o m eX) [] [] pos) X.env=(do
   let eT <-eval o X.env
   sz eX.atName
   let(f,first) <-mm [eT] (vI eT m pl)
   yl pos f first (hA pos (dV [] X.env)) (kO pos (k' [] X.env))):=by rfl):
  bl X (.Call (.Attribute o m eX) [] [] pos) (KR C m sp jo E b_ AV):=by intro pins s σ H Q I h;refine Bp (pl:=pl) (bF (he pins s σ H _ I h) λu s1⟨x,H1,aR,bC,a,ah,fs,ex,au,l,q⟩=>?_) df;subst ex;obtain rfl:u=cE a:=bC;refine Ds aR au c hm l ?_;exact PySem.W.callWith_K0 (first:=[.ref a]) aR.eD hm.bI (Kg (us:=[.ref a]) (vs:=[.ref a]) F aq U hd av aR (.cons rfl .nil) q)
structure oa(K:aV)(C f:Addr):Prop where
 makes:Bo K C=true
 init:b5 K (.ref C) "__init__"=some (some (.ref f))
 fn:fX K (.ref f)=true
 bI:pA K (.ref C)=true
theorem acu{pins:cy}{σ:St}{H:ae}{s:aF}{Q:ba}{us:cC}{vs:aZ}(M:oa X.K C f)(F:aL X.prog X.w X.K X.mg X.base CX k f fd ps sp)(aq:gk (k+1) X.A)(U:Binds X.K fd ps ds)(hd:cO jo ds)(av:pS CX X E)(I:Inv X pins σ H s)(r:cO vs us)(h:∀x ah,H x=none->H ah=none->ah≠x->sp (.ref x::(vs++jo)) (upd (upd H ah (.own x)) x (.ins C ah [])) (λv ag=>v=.bq/\Q (.ref x) ag) E):
  aQ (a9 X.prog X.w) X.A (call (.ref C) us) (ir X pins σ Q) X.d0 s:=by
 have aU:=h (s.heap.objs.size+1) s.heap.objs.size (I.bb.fresh (pq _)) (I.bb.fresh (cq _)) (eN (F4 _));have bD:=Inv.made (C:=C) I;have dZ:cO (V.ref (s.heap.objs.size+1)::(vs++jo)) (cE (s.heap.objs.size+1)::(us++ds)):=.cons rfl (r.append hd);have aj:(cE (s.heap.objs.size+1)::us++ds).length=ps.length:=by have e:=dZ.length;rw[F.len _ _ _ _ aU]at e;exact e.symm
 refine p' (acs (f:=f) I.eD M.makes M.init (pG.mp M.fn) (rR (F.run _ X.stack _ _ ⟨cE (s.heap.objs.size+1)::us,[]⟩ (cE (s.heap.objs.size+1)::(us++ds)) _ _ E (aq.make C us [])
  (bD.BY.make C us []) (U _ (cE (s.heap.objs.size+1)::us) bD.eD aj) dZ aU) λr s' m2=>?_))
 cases r with
 |error e=>exact av pins σ _ _ e s' bD m2
 |ok fl=>
  cases fl with
  |ret u=>
   obtain⟨v,H',c5,cg,ev,hE⟩:=bD.after m2;subst ev;exact⟨cg,⟨V.ref (s.heap.objs.size+1),H',c5,rfl,hE⟩⟩
  |next=>exact hP m2
  |brk=>exact hP m2
  |cont=>exact hP m2
theorem Em(M:oa X.K C f)(F:aL X.prog X.w X.K X.mg X.base CX k f fd ps sp)(aq:gk (k+1) X.A)(bP:i3 X x)(hm:X.mg x=some (.ref C))(U:Binds X.K fd ps ds)(hd:cO jo ds)(av:pS CX X E)(aK:fV X (e::es) t)(kX:(x==("__debug__":Str))=false:=by decide)(he:dV (e::es) X.env=(false,eval e X.env)::dV es X.env:=by rfl)(fP:(hA pos (dV es X.env)).any (·.1)=false:=by rfl):
  bl X (.Call (.Name x p) (e::es) [] pos) (air C sp jo E t):=by intro pins s σ H Q I h;refine zO (r_ I bP hm ?_ kX);refine Bm (h₀:=X.base) I.ok.mod.sf M.bI (bF (aK pos pins s σ H _ I h) λus s1⟨vs,H1,aR,r,q⟩=>⟨aR.eD,?_⟩) he fP;exact acu M F aq U hd av aR r q
end
noncomputable def Lq(X:bg)(DG:List uY)(t:gi):Prop:=
 ∀(pos:Pos)(pins:cy)(s:aF)(σ:St)(H:ae)(Q:List V->ae->Prop),Inv X pins σ H s->t σ H Q->aQ (a9 X.prog X.w) X.A (evalAll ((kO pos (k' DG X.env)).map (·.2))) (U4 X pins σ Q) X.d0 s
section
variable{X:bg}{CX:ni}{k:Nat}{f C:Addr}{fd:cF}{ps hb:b9}{sp:cM}{E:b6}{x m:Str}{p pos eX ao9:Pos}{e o:Expr}{es:gO}{DG:List uY}{b3 b_:TE}{t a5:gi}{nm:Option Str}
theorem WS:Lq X [] AV:=λ_ _ _ _ H Q I h=>wpAny_evalAll_nil ⟨[],H,I,.nil,h⟩
theorem V4(aK:bl X e b3)(aq:Lq X DG t):Lq X (⟨nm,e,ao9⟩::DG) (sm b3 t):=by intro pos pins s σ H Q I h;show aQ _ _ (evalAll ((do let v <-eval e X.env;sz pos;pure v)::(kO pos (k' DG X.env)).map (·.2))) _ _ s;refine wpAny_evalAll_cons (ax (bF (aK pins s σ H _ I h) λu s1⟨x,H1,aR,ck,bQ⟩=>ax (Fe (bj ?_))));exact bF (aq pos pins s1 σ H1 _ aR bQ) λus s2⟨xs,ag,bD,dZ,cZ⟩=>⟨x::xs,ag,bD,.cons ck dZ,cZ⟩
end
structure dB(N P:b9)(sc:Scope):Prop where
 kind:sc.kind=.function
 co:sc.isCoroutine=false
 gen:sc.isGenerator=false
 aG:N.Nodup
 pre:N.take P.length=P
 par:∀x∈P,sc.names.lookup x=some .local\/sc.names.lookup x=some .cell
 ap4:∀y∈sc.names,y.2≠.free
theorem Ř{kindOf:Str->Option u2}{x:Str}:∀{binds:List (Str×Value)}{m:cI},(∀v,(x,v)∉binds)->vm kindOf binds m x=m x
 |[],_,_=>rfl
 | (n,v)::r,m,h=>by
  unfold vm;rw[Ř λw hw=>h w (mL _ hw)];split
  .have:x≠n:=by rintro rfl;exact h v sY
   simp[this]
  .rfl
theorem ř{kindOf:Str->Option u2}{x:Str}:∀{binds:List (Str×Value)}{m:cI},(∀v,(x,v)∉binds)->vl kindOf binds m x=m x
 |[],_,_=>rfl
 | (n,v)::r,m,h=>by
  unfold vl;rw[ř λw hw=>h w (mL _ hw)];split
  .rfl
  .have:x≠n:=by rintro rfl;exact h v sY
   simp[this]
theorem Ś{kindOf:Str->Option u2}{x:Str}{v:Value}:∀{P:b9}{vs:cC}{i:Nat}{m:cI},P.Nodup->P[i]?=some x->vs[i]?=some v->kindOf x=some .local->
  vm kindOf (P.zip vs) m x=some v
 |[],_,_,_,_,h,_,_=>by simp at h
 |_::_,[],_,_,_,_,h,_=>by simp at h
 |p::P,w::vs,0,m,aG,af,ai,aX=>by simp at af ai;subst af;subst ai;show vm kindOf ((p,w)::P.zip vs) m p=_;unfold vm;rw[Ř λv bz=>(iP.mp aG).1 (Xb bz).1,bM aX];simp
 |p::P,w::vs,i+1,m,aG,af,ai,aX=>by show vm kindOf ((p,w)::P.zip vs) m x=_;unfold vm;exact Ś (i:=i) (iP.mp aG).2 (by simpa using af) (by simpa using ai) aX
theorem Ū{kindOf:Str->Option u2}{x:Str}{v:Value}:∀{P:b9}{vs:cC}{i:Nat}{m:cI},P.Nodup->P[i]?=some x->vs[i]?=some v->kindOf x≠some .local->
  vl kindOf (P.zip vs) m x=some v
 |[],_,_,_,_,h,_,_=>by simp at h
 |_::_,[],_,_,_,_,h,_=>by simp at h
 |p::P,w::vs,0,m,aG,af,ai,aX=>by simp at af ai;subst af;subst ai;show vl kindOf ((p,w)::P.zip vs) m p=_;unfold vl;rw[ř λv bz=>(iP.mp aG).1 (Xb bz).1,bE aX];simp
 |p::P,w::vs,i+1,m,aG,af,ai,aX=>by show vl kindOf ((p,w)::P.zip vs) m x=_;unfold vl;exact Ū (i:=i) (iP.mp aG).2 (by simpa using af) (by simpa using ai) aX
noncomputable def start(N:b9)(vs:aZ):St:=vs.map some++A5 (N.length-vs.length) none
noncomputable def j_(CX:ni)(P:bO)(w:bx)(K:aV)(mg:cI)(base:Heap)(N:b9)(qual:Str)(scope:Scope)(f:Addr)(cd:Value)(A:c0)(outer:List Env)(s:aF)(H:ae)(E:b6):bg where
 prog:=P
 w:=w
 K:=K
 mg:=mg
 base:=base
 A:=A.deeper (ow qual scope s.heap.objs.size f cd)
 N:=N
 iH:=s
 mG:=H
 env:=ow qual scope s.heap.objs.size f cd
 outer:=outer
 stack:=ow qual scope s.heap.objs.size f cd::outer
 ex:=[]
 calm:=true
 fn:=λ_=>true
 fg:=[]
 d0:=λe s'=>aQ (a9 P w) (A.deeper (ow qual scope s.heap.objs.size f cd)) (leaving (ow qual scope s.heap.objs.size f cd) e) (λ_ R6=>CX outer H s E e R6) (λcm R6=>CX outer H s E cm R6) s'
theorem Vc{sc:Scope}{n:Nat}{x:Str}(h:sc.names.lookup x=some .cell):∃c,(Zf n sc.names []).lookup x=some c:=by have q:=aeJ sc.names n [] (.inl h);exact rM.mp q
theorem ab6{CX:ni}{P:bO}{w:bx}{K:aV}{mg:cI}{base:Heap}{N ps:b9}{qual:Str}{scope:Scope}{f:Addr}{cd:Value}{A:c0}{outer:List Env}{s s1:aF}{H:ae}{E:b6}{us:cC}{vs:aZ}(S:dB N ps scope)(hd:A.handled=none)(cJ:uP P w K mg base A outer s H)(aj:vs.length=ps.length)(r:cO vs us)(x:InCallC s s.heap.objs.size (vm (ow qual scope s.heap.objs.size f cd).kindOf (ps.zip us) λ_=>none) (Zf (s.heap.objs.size+1) scope.names []) (vl (ow qual scope s.heap.objs.size f cd).kindOf (ps.zip us) λ_=>none) s1):
  Inv (j_ CX P w K mg base N qual scope f cd A outer s H E) [] (start N vs) H s1:=by
 have fP:ps.length<=N.length:=by have:=ha sW S.pre;rw[mK]at this;omega
 obtain⟨af,a5,rfl,aX⟩:=x.done;have DV:∀b:Addr,b∉(j_ CX P w K mg base N qual scope f cd A outer s H E).ex:=λb z=>bG (show b∈([]:bS)from z) (by simp);refine⟨⟨cJ.mod,S.kind,rfl,rfl,cq _,λy z c af ai=>?_,λy cS=>?_,λy c _ h=>?_,λ_=>hd,Around.frames_deeper cJ.frames,.inr ⟨rfl,rfl⟩,λb z=>bG z (DV b),cJ.bs,cJ.qr,λb _ _=>DV b,λb z=>bG z (DV b),cJ.kr,cJ.rW⟩,
  rfl,cJ.bare,h9.kept aX,⟨_,x.toInCall.ns,λi y v af ai bU=>?_⟩,λy c h=>⟨_,x.cell y c h⟩,cJ.bb.fresh (cq _),λy c h=>?_,λp aO=>bG (show p∈([]:cy)from aO) (by simp),cJ.bb.kept aX,?_⟩
 .exact name_of_addr x.apart (Bt af) (Bt ai)
 .have cS:scope.names.lookup y=some .cell\/scope.names.lookup y=some .free:=cS;rcases cS with cS|cS
  .exact Vc cS
  .exact bG rfl (S.ap4 _ (Bt cS))
 .exact oc (x.above y c (Bt h))
 .have ar:i<vs.length:=by
   unfold start at ai;by_cases ar:i<vs.length
   .exact ar
   .rw[W' (by simpa using ar)]at ai;rw[List.getElem?_replicate]at ai;split at ai<;>cases ai
  have aK:vs[i]?=some v:=by
   unfold start at ai;rw[acU (by simpa using ar),c9]at ai;cases e:vs[i]? with
   |none=>rw[e]at ai;cases ai
   |some a=>rw[e]at ai;cases ai;rfl
  obtain⟨u,b7,cg⟩:=r.get aK;have aO:ps[i]?=some y:=by rw[<-S.pre,List.getElem?_take_of_lt (by omega)];exact af
  have ë:ps.Nodup:=by rw[<-S.pre];exact S.aG.sublist (Xf _ _)
  refine⟨u,cg,?_⟩;rcases S.par y (eH aO)with k|k
  .exact .inl ⟨k,Ś ë aO b7 k⟩
  .obtain⟨c,e⟩:=Vc (n:=s.heap.objs.size+1) k;refine .inr ⟨.inl k,c,e,?_⟩;have q:=x.cell y c e;rw[Ū ë aO b7 (by show scope.names.lookup y≠_;rw[k];decide)]at q;exact q
 .exact cJ.bb.fresh (oc (x.above y c (Bt h)))
 .unfold start;show _=N.length;rw[hi,bp,List.length_replicate];omega
theorem KP{CX:ni}{P:bO}{w:bx}{K:aV}{mg:cI}{base:Heap}{k:Nat}{f:Addr}{name qual:Str}{params:Arguments}{body:List Stmt}{scope:Scope}{Gx dn doc pm cdv e' mu:Value}{an ea:Option Addr}{oS:jV}{N ps:b9}{sp:cM}(lk:K.lookup f=some ⟨mu,ea,.func (yc name qual params body scope Gx dn doc pm an cdv e'),oS⟩)(j5:X4 K cdv qual=true)(S:dB N ps scope)(len:∀vs H Q E,sp vs H Q E->vs.length=ps.length)(vN:∀(A:c0)(outer:List Env)(s:aF)(H:ae)(vs:aZ)(Q:ba)(E:b6),gk k (A.deeper (ow qual scope s.heap.objs.size f cdv))->sp vs H Q E->
   ∃t,f_ (j_ CX P w K mg base N qual scope f cdv A outer s H E) body t/\t {cj:=λ_ H'=>Q .bq H',my:=Q} (start N vs) H):
  aL P w K mg base CX (k+1) f (yc name qual params body scope Gx dn doc pm an cdv e') ps sp:=by
 refine⟨len,λA outer s H args us vs Q E aq cJ U r oB=>?_⟩;have aj:=len _ _ _ _ oB;have qd:K.In s.heap:=cJ.mod.sf.keeps λb o e=>(cJ.bs b o e).1;have lim:s.heap.NoLimit:=cJ.mod.nolimit.keeps λb o e=>(cJ.bs b o e).1;have r2:∀y∈ps.zip us,scope.names.lookup y.1=some .local\/(scope.names.lookup y.1=some .cell/\((Zf (s.heap.objs.size+1) scope.names []).lookup y.1).isSome=true):=λ⟨n,v⟩cS=>by
  rcases S.par n (Xb cS).1 with q|q
  .exact .inl q
  .exact .inr ⟨q,aeJ _ _ _ (.inl q)⟩
 refine codeAny_call_function aq.depth (qd _ _ lk) rfl S.co S.gen rfl (PySem.W.codeRec_of qd j5) (U _ _ _ _ ?_);refine wpAny_newFunctionEnv_cells S.kind r2 λenv he s1 x=>?_;subst he;refine⟨lim.keeps x.toInCall.keep,codeAny_func ?_⟩;obtain⟨t,df,aU⟩:=vN A outer s H vs Q E (aq.deeper _) oB;have I:Inv (j_ CX P w K mg base N qual scope f cdv A outer s H E) [] (start N vs) H s1:=ab6 S aq.hd cJ aj r x;refine gn (df [] s1 (start N vs) H _ I aU) (λfl s' hs=>?_) λe s' hs=>hs;have fin:∀{a4:St}{H':ae}{v:V}{u:Value},Inv (j_ CX P w K mg base N qual scope f cdv A outer s H E) [] a4 H' s'->RelV v u->Q v H'->J9 outer P w H s Q u s':=
  λ{a4 H' v u}J cg q=>⟨v,H',J.os,J.bare,J.base,J.bb,cg,q⟩
 cases fl with
 |ret u=>
  obtain⟨v,a4,H',J,cg,q⟩:=hs;exact fin J cg q
 |next=>
  obtain⟨a4,H',J,q⟩:=hs;exact fin (v:=V.bq) (u:=fZ) J rfl q
 |brk=>
  obtain⟨_,_,_,q⟩:=hs;exact hP q
 |cont=>
  obtain⟨_,_,_,q⟩:=hs;exact hP q
section
variable{X:bg}{x:Str}{p pos:Pos}{e:Expr}{es:gO}{t:gi}{id T:String}{r:List V->ae->ba->Prop}
noncomputable def uw(r:List V->ae->ba->Prop)(t:gi):TE:=λσ H Q=>t σ H λvs H1=>r vs H1 Q
theorem dE(ay:j8 X (.builtin id) r)(bP:i3 X x)(hm:X.mg x=none)(bz:i5 x=some (.builtin id))(aK:fV X (e::es) t)(aT:x≠"__name__":=by decide)(kX:(x==("__debug__":Str))=false:=by decide)(he:dV (e::es) X.env=(false,eval e X.env)::dV es X.env:=by rfl)(fP:(hA pos (dV es X.env)).any (·.1)=false:=by rfl):bl X (.Call (.Name x p) (e::es) [] pos) (uw r t):=by intro pins s σ H Q I h;refine zO (wz I bP hm bz ?_ aT kX);exact aes (bF (aK pos pins s σ H _ I h) λus s1⟨vs,H1,aR,ck,bQ⟩=>ay pins s1 σ H1 vs us Q aR ck bQ) he fP
theorem nA(ay:j8 X (.type T) r)(bP:i3 X x)(hm:X.mg x=none)(bz:i5 x=some (.type T))(aK:fV X (e::es) t)(aT:x≠"__name__":=by decide)(kX:(x==("__debug__":Str))=false:=by decide)(he:dV (e::es) X.env=(false,eval e X.env)::dV es X.env:=by rfl)(fP:(hA pos (dV es X.env)).any (·.1)=false:=by rfl):bl X (.Call (.Name x p) (e::es) [] pos) (uw r t):=by intro pins s σ H Q I h;refine zO (wz I bP hm bz ?_ aT kX);exact XY (bF (aK pos pins s σ H _ I h) λus s1⟨vs,H1,aR,ck,bQ⟩=>ay pins s1 σ H1 vs us Q aR ck bQ) he fP
end
end ao
namespace iO
open PySem PyProof.Rows
noncomputable def lexLt:List Int->List Int->Bool
 |[],[]=>false
 |[],_::_=>true
 |_::_,[]=>false
 |x::xs,y::ys=>if x=y then lexLt xs ys else decide (x<y)
section
variable{prog:bO}{w:bx}{A:c0}{E:cD}{s:aF}
noncomputable def jR(n d:Nat):Option Int->Nat
 |none=>d
 |some v=>if v<0 then(v+(n:Int)).toNat else min v.toNat n
theorem Se(n d k:Nat):jR n d (some (k:Int))=min k n:=by show(if(k:Int)<0 then((k:Int)+(n:Int)).toNat else min (k:Int).toNat n)=min k n;rw[bE (by omega),mH]
end
end iO
namespace ao
open PySem PySem.Spec PyProof.Rows
noncomputable abbrev va:=St->ae->(Option Int->ae->Prop)->Prop
noncomputable def F6(X:bg)(e:Option Expr)(t:va):Prop:=
 ∀(pins:cy)(s:aF)(σ:St)(H:ae)(Q:Option Int->ae->Prop),Inv X pins σ H s->t σ H Q->
  aQ (a9 X.prog X.w) X.A (evalPart e X.env) (λu s'=>∃o H',Inv X pins σ H' s'/\IsPart u o/\Q o H') X.d0 s
noncomputable def afr:va:=λ_ H Q=>Q none H
noncomputable def ais(t:TE):va:=λσ H Q=>t σ H λx H1=>∃i,x=.int i/\Q (some i) H1
section
variable{X:bg}{e:Expr}{b3:TE}{lo ar:Option Expr}{du oZ:va}{pos gX:Pos}
theorem V5:F6 X none afr:=by intro pins s σ H Q I h;rw[evalPart_none];exact bj ⟨none,H,I,.none,h⟩
theorem Jl(h:bl X e b3):F6 X (some e) (ais b3):=by intro pins s σ H Q I hw;rw[evalPart_some];refine bF (h pins s σ H _ I hw) λu s1⟨x,H1,aR,ck,bQ⟩=>?_;obtain⟨i,rfl,q⟩:=bQ;obtain⟨t,rfl⟩:=ck;exact⟨some i,H1,aR,.int i t,q⟩
noncomputable def Yi(X:bg)(r:V->Option Int->Option Int->ae->ba->Prop):Prop:=
 ∀(pins:cy)(s:aF)(σ:St)(H:ae)(x:V)(v uF uG:Value)(lo ar:Option Int)(bo:Addr)(Q:ba),Inv X pins σ H s->RelV x v->s.heap.IsSliceOf bo uF uG .none->IsPart uF lo->IsPart uG ar->r x lo ar H Q->
  ∃T id,S' (.type T) "__getitem__"=pure (some (.builtin id))/\s.TypeIs v T/\aQ (a9 X.prog X.w) X.A (CJ v (.ref bo)) (ir X pins σ Q) X.d0 s
noncomputable def arD(r:V->Option Int->Option Int->ae->ba->Prop)(b3:TE)(du oZ:va):TE:=λσ H Q=>b3 σ H λx H1=>du σ H1 λl ag=>oZ σ ag λu a_=>r x l u a_ Q
theorem Tu{r:V->Option Int->Option Int->ae->ba->Prop}(aq:Yi X r)(he:bl X e b3)(aj:F6 X lo du)(b7:F6 X ar oZ):bl X (.Subscript e (.Slice lo ar none gX) pos) (arD r b3 du oZ):=by intro pins s σ H Q I h;refine Yj (bF (he pins s σ H _ I h) λv s1⟨x,H1,aR,ck,bQ⟩=>?_);refine wpAny_Slice (bF (aj pins s1 σ H1 _ aR bQ) λuF s2⟨l,ag,bD,pl,cZ⟩=>bF (b7 pins s2 σ ag _ bD cZ) λuG s3⟨u,a_,c5,pu,hE⟩=>?_);rw[evalPart_none];refine bj ?_;have jU:Inv X pins σ a_ {s3 with heap:=s3.heap.push {cls:=.type "slice",data:=.fields #[uF,uG,.none]}}:=c5.kept (t':=s3.toks) λb ob q=>dM _ q;obtain⟨T,id,j4,df,bP⟩:=aq pins {s3 with heap:=s3.heap.push {cls:=.type "slice",data:=.fields #[uF,uG,.none]}} σ a_ x v uF uG l u s3.heap.objs.size Q jU ck (Heap.IsSliceOf.new ..) pl pu hE;show aQ (a9 X.prog X.w) X.A (ģ e (.Slice lo ar none gX) v (.ref s3.heap.objs.size)) (ir X pins σ Q) X.d0 {s3 with heap:=s3.heap.push {cls:=.type "slice",data:=.fields #[uF,uG,.none]}};exact tail_any (ops:=[.ref s3.heap.objs.size,v]) df j4 bP (by with_unfolding_all rfl)
noncomputable def mv(xs:aZ)(lo ar:Option Int):List V:=(xs.drop (iO.jR xs.length 0 lo)).take (iO.jR xs.length xs.length ar-iO.jR xs.length 0 lo)
theorem aaj(xs:aZ)(lo ar:Option Int):(mv xs lo ar).length<=xs.length:=by unfold mv;rw[mK,List.length_drop];omega
noncomputable def qW(n:Nat)(i:Int):Option Nat:=if 0<=i then(if i<n then some i.toNat else none)else if -(n:Int)<=i then some (i+n).toNat else none
noncomputable def hx{α:Type}(xs:List α)(i:Int):Option α:=(qW xs.length i).bind λj=>xs[j]?
end
theorem V6{n:Nat}{i:Int}{j:Nat}(h:qW n i=some j):seqIndex? i n=some j/\j<n/\-(n:Int)<=i/\i<n:=by
 unfold qW at h;by_cases h0:0<=i
 .rw[bM h0]at h;by_cases af:i<n
  .rw[bM af]at h;have e:i.toNat=j:=hF h;exact⟨by rw[Ę h0 af,e],by omega,by omega,af⟩
  .rw[bE af]at h;cases h
 .rw[bE h0]at h;by_cases af:-(n:Int)<=i
  .rw[bM af]at h;have e:(i+n).toNat=j:=hF h;exact⟨by rw[ė (by omega) af,e],by omega,af,by omega⟩
  .rw[bE af]at h;cases h
theorem Uo{α:Type}{xs:List α}{i:Int}{v:α}(h:hx xs i=some v):∃j,seqIndex? i xs.length=some j/\xs[j]?=some v/\j<xs.length/\-(xs.length:Int)<=i/\i<xs.length:=by
 unfold hx at h;cases e:qW xs.length i with
 |none=>rw[e]at h;cases h
 |some j=>
  rw[e]at h;obtain⟨af,ai,bU,cX⟩:=V6 e;exact⟨j,af,h,ai,bU,cX⟩
theorem iQ{α:Type}{xs:List α}{j:Nat}{v:α}(h:xs[j]?=some v):hx xs (j:Int)=some v:=by
 have bL:j<xs.length:=(eM.mp h).1;have e:qW xs.length (j:Int)=some j:=by unfold qW;rw[bM (by omega),bM (by omega)];simp
 unfold hx;rw[e];exact h
noncomputable def afs(b:Expr):Prop:=∀o i,SG b false o i=operate [o,i] (CJ o i)
noncomputable def xQ(X:bg)(r:hu):Prop:=
 ∀(value slice:Expr)(pins:cy)(s:aF)(σ:St)(H:ae)(x y:V)(v u:Value)(Q:ba),Inv X pins σ H s->RelV x v->RelV y u->r x y H Q->
  SG slice false v u=operate [v,u] (CJ v u)->aQ (a9 X.prog X.w) X.A (ģ value slice v u) (ir X pins σ Q) X.d0 s
noncomputable def adB(X:bg)(id:String)(r:V->List V->ae->ba->Prop):Prop:=
 ∀(pins:cy)(s:aF)(σ:St)(H:ae)(x:V)(xs:aZ)(v:Value)(us:cC)(Q:ba),Inv X pins σ H s->RelV x v->cO xs us->r x xs H Q->
  aQ (a9 X.prog X.w) X.A (call (.builtin id) (v::us)) (ir X pins σ Q) X.d0 s
section
variable{X:bg}{a b:Expr}{b_ dc:TE}{pos:Pos}
theorem cv{r:hu}(aq:xQ X r)(aK:bl X a b_)(U:bl X b dc)(hs:afs b):bl X (.Subscript a b pos) (ES r b_ dc):=by intro pins s σ H Q I h;exact Yj (LI aK U I h λv u s2 x y ag bD bC bJ q=>aq a b pins s2 σ ag x y v u Q bD bC bJ q (hs _ _))
inductive ait(K:aV)(x:ao.V)(y:ao.V)(H:ae)(Q:ba):Prop where
 |mk (p:_) (xs:_) (i:_) (v:_) (bV:x=.ref p) (bA:y=.int i) (cn:aJ K H p xs) (di:hx xs i=some v) (d8:Q v H)
noncomputable def YK(K:aV):hu:=λx y H Q=>ait K x y H Q
inductive aiu(K:aV)(x:ao.V)(y:ao.V)(H:ae)(Q:ba):Prop where
 |mk (p:_) (xs:_) (i:_) (v:_) (bV:x=.ref p) (bA:y=.int i) (cn:cN K H p xs) (di:hx xs i=some v) (d8:Q v H)
noncomputable def YL(K:aV):hu:=λx y H Q=>aiu K x y H Q
inductive aiv(x:ao.V)(y:ao.V)(H:ae)(Q:ba):Prop where
 |mk (z:_) (i:_) (c:_) (bV:x=.str z) (bA:y=.int i) (cn:z.length<=sizeLine) (di:hx z.cps.toList i=some c) (d8:Q (.str ⟨#[c]⟩) H)
noncomputable def ajZ:hu:=λx y H Q=>aiv x y H Q
theorem fu:xQ X (YK X.K):=by
 intro value slice pins s σ H x y v u Q I bC bJ h hs;obtain⟨p,xs,i,z,rfl,rfl,aU,he,q⟩:=h;cases bC;obtain⟨t,rfl⟩:=bJ;obtain⟨its,r,pl,hz⟩:=I.list aU;obtain⟨j,af,ai,bU,cX,d3⟩:=Uo he;obtain⟨w,GF,gY⟩:=r.get ai;have aj:=r.length;have aT:=zv;have fin:ir X pins σ Q w s:=⟨z,H,I,gY,q⟩
 by_cases h0:0<=i
 .have bL:i.toNat=j:=by rw[Ę h0 d3]at af;exact hF af
  exact item_listR pl.isList h0 (by omega) (by rw[bL];simpa using GF) fin hs
 .have bL:(i+(its.toArray.size:Int)).toNat=j:=by rw[ė (by omega) cX]at af;rw[g7,<-aj];exact hF af
  exact arj (x:=w) pl.isList.typeIs arf.lookup
   (wpAny_getItem_list_neg (Q:=λr s'=>r=w/\ir X pins σ Q r s') pl.isList (by omega) (by rw[g7]<;>omega) (by omega) (by rw[bL];simpa using GF) ⟨rfl,fin⟩) hs
theorem fa:xQ X (YL X.K):=by
 intro value slice pins s σ H x y v u Q I bC bJ h hs;obtain⟨p,xs,i,z,rfl,rfl,aU,he,q⟩:=h;cases bC;obtain⟨t,rfl⟩:=bJ;obtain⟨its,r,pl,hz⟩:=I.tuple aU;obtain⟨j,af,ai,bU,cX,d3⟩:=Uo he;obtain⟨w,GF,gY⟩:=r.get ai;have aj:=r.length;have aT:=zv;have fin:ir X pins σ Q w s:=⟨z,H,I,gY,q⟩
 exact arj (x:=w) pl.typeIs slot_tuple_getitem.lookup
  (getItem_tuple (j:=j) (Q:=λr s'=>r=w/\ir X pins σ Q r s') pl (by omega) (by omega) (by rw[g7,<-aj];exact af) (by simpa using GF) ⟨rfl,fin⟩) hs
theorem agW:xQ X ajZ:=by
 intro value slice pins s σ H x y v u Q I bC bJ h hs;obtain⟨z,i,c,rfl,rfl,hz,he,q⟩:=h;obtain⟨t,rfl⟩:=bC;obtain⟨t',rfl⟩:=bJ;obtain⟨j,af,ai,bU,cX,d3⟩:=Uo he;have aj:z.cps.toList.length=z.length:=by simp[Str.length]
 rw[aj]at af cX d3;have aT:=zv;exact tail_any (typeIs_str s z t) slot_str_getitem.lookup (getItem_str (c:=c) (by
  have aB:decide (i < -(2 ^ 63:Int))=false:=dJ (by omega);have aD:decide (i≥2 ^ 63)=false:=dJ (by omega);rw[aB,aD,Bool.or_false]) (by rw[af];simpa using ai) ⟨.str ⟨#[c]⟩,H,I.tok _,⟨_,rfl⟩,q⟩) hs
theorem aaV(its:cC)(n j:Nat)(u:Value):rL (·.setIfInBounds j u) {cls:=.type "list",data:=.seq its.toArray n}={cls:=.type "list",data:=.seq (its.set j u).toArray n}:=by simp[rL]
theorem Inv.lst{pins:cy}{σ:St}{H:ae}{s:aF}{p:Addr}{xs:aZ}(I:Inv X pins σ H s)(h:H p=some (.lst xs)):
  ∃(its:cC)(n:Nat),cO xs its/\s.heap.get? p=some {cls:=.type "list",data:=.seq its.toArray n}/\xs.length<=sizeLine:=by obtain⟨z,its,n,r,e⟩:=I.bb p _ h;exact⟨its,n,r,e,z⟩
theorem Inv.apm{pins:cy}{σ:St}{H:ae}{s:aF}{p:Addr}{xs ys:aZ}{its its':cC}{n lQ:Nat}{f:Obj->Obj}(I:Inv X pins σ H s)(h:H p=some (.lst xs))(a3:s.heap.get? p=some {cls:=.type "list",data:=.seq its.toArray n})(hf:f {cls:=.type "list",data:=.seq its.toArray n}={cls:=.type "list",data:=.seq its'.toArray lQ})(r:cO ys its')(hz:ys.length<=sizeLine)(t:Nat):
  Inv X pins σ (upd H p (.lst ys)) {s with heap:=s.heap.update p f,toks:=t}:=by
 have e:(s.heap.update p f).get? p=some {cls:=.type "list",data:=.seq its'.toArray lQ}:=by rw[pg f a3 (by rw[hf]<;>rfl),hf]
 refine I.write (x:=p) (e:=p) (by rw[h];trivial) (.inl rfl) (λb u U q=>(jT _ _ (cR U)).trans q) ⟨_,e⟩ ?_;exact⟨hz,its',lQ,r,e⟩
inductive agX(o:V)(i:V)(v:V)(H:ae)(Q:((ae->Prop))):Prop where
 |mk (p:_) (xs:_) (k:_) (j:_) (bV:o=.ref p) (bA:i=.int k) (cn:H p=some (.lst xs)) (di:qW xs.length k=some j) (d8:Q (upd H p (.lst (xs.set j v))))
noncomputable def aiw:V->V->V->ae->(ae->Prop)->Prop:=λo i v H Q=>agX o i v H Q
theorem set_list:YI X aiw:=by
 intro pins s σ H o i v eT js u Q I aqV aqR cg h;obtain⟨p,xs,k,j,rfl,rfl,aO,bL,q⟩:=h;cases aqV;obtain⟨t,rfl⟩:=aqR;obtain⟨its,n,r,a3,hz⟩:=I.lst aO;obtain⟨af,ai,bU,cX⟩:=V6 bL;have aj:=r.length;have aT:=zv;have ph:Inv X pins σ (upd H p (.lst (xs.set j v))) {s with heap:=s.heap.update p (rL (·.setIfInBounds j u))}:=
  I.apm aO a3 (aaV its n j u) (r.set cg j) (by rw[List.length_set];exact hz) s.toks
 by_cases h0:0<=k
 .have aX:k.toNat=j:=by rw[Ę h0 cX]at af;exact hF af
  exact PySem.W.ki_setAt a3 h0 (by omega) (by rw[g7,<-aj];exact cX) (by rw[aX];exact⟨_,ph,q⟩)
 .have aX:(k+(its.toArray.size:Int)).toNat=j:=by rw[ė (by omega) bU]at af;rw[g7,<-aj];exact hF af
  exact PySem.W.ki_setBack a3 (by omega) (by rw[g7,<-aj];exact bU) (by omega) (by rw[aX];exact⟨_,ph,q⟩)
theorem asy(lo ar:Option Int)(n:Nat):(zz lo ar none n).1=((iO.jR n 0 lo:Nat):Int)/\(zz lo ar none n).2.1=((iO.jR n n ar:Nat):Int)/\(zz lo ar none n).2.2=1:=by
 refine⟨?_,?_,rfl⟩
 .cases lo with
  |none=>simp[zz,iO.jR]
  |some i=>
   simp only[zz,iO.jR,XJ,show(1:Int)>0 by decide,if_true];by_cases h:i<0
   .simp only[h,if_true]<;>omega
   .simp only[h,if_false]<;>omega
 .cases ar with
  |none=>simp[zz,iO.jR]
  |some i=>
   simp only[zz,iO.jR,XJ,show(1:Int)>0 by decide,if_true];by_cases h:i<0
   .simp only[h,if_true]<;>omega
   .simp only[h,if_false]<;>omega
theorem asr(its:cC)(lo ar:Option Int):slicePick its.toArray lo ar none=((its.drop (iO.jR its.length 0 lo)).take (iO.jR its.length its.length ar-iO.jR its.length 0 lo)).toArray:=by obtain⟨af,ai,bU⟩:=asy lo ar its.toArray.size;unfold slicePick;rw[af,ai,bU];simp only[sliceRange_one,pick_run,g7]<;>rfl
inductive aix(K:aV)(x:V)(lo:(Option Int))(ar:(Option Int))(H:ae)(Q:ba):Prop where
 |mk (a:_) (xs:_) (bV:x=.ref a) (bA:aJ K H a xs) (cn:∀p,H p=none->Q (.ref p) (upd H p (.lst (mv xs lo ar))))
noncomputable def aj0(K:aV):V->Option Int->Option Int->ae->ba->Prop:=λx lo ar H Q=>aix K x lo ar H Q
theorem UB:Yi X (aj0 X.K):=by intro pins s σ H x v uF uG lo ar bo Q I bC hs pl pu h;obtain⟨a,xs,rfl,av,q⟩:=h;cases bC;obtain⟨its,r,df,hz⟩:=I.list av;have hlen:=r.length;refine⟨"list",_,arf.lookup,df.isList.typeIs,?_⟩;refine wpAny_getItem_list_slice df.isList hs pl pu .none (by simp) ?_ (by rw[g7]<;>omega);rw[asr,<-hlen];refine⟨.ref s.heap.objs.size,_,I.laid (t':=s.toks) (o:=.lst (mv xs lo ar)) (λb ob q=>dM _ q) (cq _) ?_,rfl,q _ (I.bb.fresh (cq _))⟩;exact⟨eQ (aaj xs lo ar) hz,_,0,(r.drop (iO.jR xs.length 0 lo)).take (iO.jR xs.length xs.length ar-iO.jR xs.length 0 lo),gq _ rfl⟩
noncomputable def q':V->Bool
 |.bq=>true
 |.aM _=>true
 |.int _=>true
 |.str _=>true
 |_=>false
noncomputable def tD:V->V->Bool
 |.bq,.bq=>true
 |.aM a,.aM b=>a==b
 |.aM a,.int b=>(if a then 1 else 0)==b
 |.int a,.aM b=>a==(if b then 1 else 0)
 |.int a,.int b=>a==b
 |.str a,.str b=>a==b
 |_,_=>false
theorem agY{A:c0}{s:aF}{y x:V}{u v:Value}(bJ:RelV y u)(bC:RelV x v)(ani:q' y=true)(nI:q' x=true):agn A s u v (tD y x):=by
 cases y with
 |bq=>
  cases bJ;cases x with
  |bq=>cases bC;exact SeqAt.EqAt.same _
  |aM b=>cases bC;exact SeqAt.EqAt.none_bool b
  |int b=>obtain⟨t,rfl⟩:=bC;exact SeqAt.EqAt.none_int b t
  |str b=>obtain⟨t,rfl⟩:=bC;exact SeqAt.EqAt.none_str b t
  |_=>exact bG (show false=true from nI) fp
 |aM a=>
  cases bJ;cases x with
  |bq=>cases bC;exact SeqAt.EqAt.bool_none a
  |aM b=>cases bC;exact SeqAt.EqAt.bool_bool a b
  |int b=>obtain⟨t,rfl⟩:=bC;exact SeqAt.EqAt.bool_int a b t
  |str b=>obtain⟨t,rfl⟩:=bC;exact SeqAt.EqAt.bool_str a b t
  |_=>exact bG (show false=true from nI) fp
 |int a=>
  obtain⟨t',rfl⟩:=bJ;cases x with
  |bq=>cases bC;exact SeqAt.EqAt.int_none a t'
  |aM b=>cases bC;exact SeqAt.EqAt.int_bool a t' b
  |int b=>obtain⟨t,rfl⟩:=bC;exact SeqAt.EqAt.int_int a t' b t
  |str b=>obtain⟨t,rfl⟩:=bC;exact ago a t' b t
  |_=>exact bG (show false=true from nI) fp
 |str a=>
  obtain⟨t',rfl⟩:=bJ;cases x with
  |bq=>cases bC;exact SeqAt.EqAt.str_none a t'
  |aM b=>cases bC;exact SeqAt.EqAt.str_bool a t' b
  |int b=>obtain⟨t,rfl⟩:=bC;exact agp a t' b t
  |str b=>obtain⟨t,rfl⟩:=bC;exact SeqAt.EqAt.str_str a t' b t
  |_=>exact bG (show false=true from nI) fp
 |_=>exact bG (show false=true from ani) fp
noncomputable def mi(x:V)(u:Value):Bool:=match u with
 |.none=>tD .bq x
 |.bool b=>tD (.aM b) x
 |.int i _=>tD (.int i) x
 |.str z _=>tD (.str z) x
 |_=>false
theorem WT{x y:V}{u:Value}(r:RelV y u)(f:q' y=true):mi x u=tD y x:=by
 cases y with
 |bq=>cases r;rfl
 |aM b=>cases r;rfl
 |int i=>obtain⟨t,rfl⟩:=r;rfl
 |str z=>obtain⟨t,rfl⟩:=r;rfl
 |_=>exact bG (show false=true from f) fp
theorem Ed{x:V}:∀{xs:aZ}{us:cC},cO xs us->xs.all q'=true->us.any (mi x)=xs.any λy=>tD y x
 |_,_,.nil,_=>rfl
 |y::xs,u::us,.cons r t,f=>by rw[acN,jx]at f;rw[FX,FX,WT r f.1,Ed t f.2]
theorem DX{A:c0}{s:aF}{x:V}{v:Value}(bC:RelV x v)(nI:q' x=true):∀{xs:aZ}{us:cC},cO xs us->xs.all q'=true->∀u∈us,agn A s u v (mi x u)
 |_,_,.nil,_=>λu b7=>by cases b7
 |y::xs,u::us,.cons r t,f=>λu' b7=>by
  rw[acN,jx]at f;rcases c'.mp b7 with rfl|b7
  .rw[WT r f.1];exact agY r bC f.1 nI
  .exact DX bC nI t f.2 u' b7
noncomputable def qV(x:V)(xs:aZ):Bool:=xs.any λy=>tD y x
inductive aj1(K:aV)(neg:Bool)(x:ao.V)(y:ao.V)(H:ae)(Q:ba):Prop where
 |mk (p:_) (xs:_) (bV:y=.ref p) (bA:(aJ K H p xs\/cN K H p xs)) (cn:q' x=true) (di:xs.all q'=true) (d8:Q (.aM (if neg then !qV x xs else qV x xs)) H)
noncomputable def Č(K:aV)(neg:Bool):hu:=λx y H Q=>aj1 K neg x y H Q
theorem ū:gL X (jF .In) (Č X.K false):=by
 intro pins s σ H x y v u Q I bC bJ h;obtain⟨p,xs,rfl,aU,nI,fs,q⟩:=h;cases bJ;rcases aU with aU|aU
 .obtain⟨its,r,pl,hz⟩:=I.list aU;refine SeqAt.in_listAt (mi x) pl.isList (λw hw=>DX bC nI r fs w (by simpa using hw)) ⟨.aM _,H,I,rfl,?_⟩;rw[show its.toArray.any (mi x)=its.any (mi x) by simp,Ed r fs];exact q
 .obtain⟨its,r,pl,hz⟩:=I.tuple aU;refine SeqAt.in_tupleAt (mi x) pl (λw hw=>DX bC nI r fs w (by simpa using hw)) ⟨.aM _,H,I,rfl,?_⟩;rw[show its.toArray.any (mi x)=its.any (mi x) by simp,Ed r fs];exact q
theorem ċ:gL X (jF .NotIn) (Č X.K true):=by
 intro pins s σ H x y v u Q I bC bJ h;obtain⟨p,xs,rfl,aU,nI,fs,q⟩:=h;cases bJ;rcases aU with aU|aU
 .obtain⟨its,r,pl,hz⟩:=I.list aU;refine SeqAt.notIn_listAt (mi x) pl.isList (λw hw=>DX bC nI r fs w (by simpa using hw)) ⟨.aM _,H,I,rfl,?_⟩;rw[show its.toArray.any (mi x)=its.any (mi x) by simp,Ed r fs];exact q
 .obtain⟨its,r,pl,hz⟩:=I.tuple aU;refine SeqAt.notIn_tupleAt (mi x) pl (λw hw=>DX bC nI r fs w (by simpa using hw)) ⟨.aM _,H,I,rfl,?_⟩;rw[show its.toArray.any (mi x)=its.any (mi x) by simp,Ed r fs];exact q
inductive ajw(K:aV)(xs:aZ)(H:ae)(Q:ba):Prop where
 |mk (p:_) (ys:_) (bV:xs=[.ref p]) (bA:(aJ K H p ys\/cN K H p ys)) (cn:Q (.int ys.length) H)
theorem gP:j8 X (.builtin "len") (ajw X.K):=by
 intro pins s σ H xs us Q I r h;obtain⟨p,ys,rfl,aU,q⟩:=h;obtain⟨u,rfl,bC⟩:=vals1 r;cases bC;have aT:=zv;rcases aU with aU|aU
 .obtain⟨its,cw,pl,hz⟩:=I.list aU;have hlen:=cw.length;exact Calls.call_len_list pl.isList (by simp only[g7]<;>omega) ⟨.int ys.length,H,I.tok _,⟨s.toks+1,by rw[g7,hlen]⟩,q⟩
 .obtain⟨its,cw,pl,hz⟩:=I.tuple aU;have hlen:=cw.length;exact len_tuple pl (by simp only[g7]<;>omega) ⟨.int ys.length,H,I.tok _,⟨s.toks+1,by rw[g7,hlen]⟩,q⟩
theorem asH:j8 X (.builtin "len") (λxs H Q=>∃z,xs=[.str z]/\z.length<=sizeLine/\Q (.int z.length) H):=by intro pins s σ H xs us Q I r h;obtain⟨z,rfl,hz,q⟩:=h;obtain⟨u,rfl,t,rfl⟩:=vals1 r;have aT:=zv;exact len_str (by omega) ⟨.int z.length,H,I.tok _,⟨_,rfl⟩,q⟩
theorem vB:j8 X (.type "list") (λxs H Q=>∃p ys,xs=[.ref p]/\(aJ X.K H p ys\/cN X.K H p ys)/\∀l,H l=none->Q (.ref l) (upd H l (.lst ys))):=by
 intro pins s σ H xs us Q I r h;obtain⟨p,ys,rfl,aU,q⟩:=h;obtain⟨u,rfl,bC⟩:=vals1 r;cases bC;have fin:∀(its:cC),cO ys its->ys.length<=sizeLine->∀(h':Heap)(mb:Nat),(∀b cL,s.heap.get? b=some cL->h'.get? b=some cL)->
   h'.get? s.heap.objs.size=some {cls:=.type "list",dict:=none,data:=.seq its.toArray mb,slots:=#[]}->ir X pins σ Q (.ref s.heap.objs.size) {s with heap:=h'}:=λits cw hz h' mb bI e=>
  ⟨.ref s.heap.objs.size,_,I.laid (t':=s.toks) bI (cq _) (show el X.prog X.w _ h' _ (.lst ys)from⟨hz,its,mb,cw,e⟩),rfl,q _ (I.bb.fresh (cq _))⟩
 rcases aU with aU|aU
 .obtain⟨its,cw,pl,hz⟩:=I.list aU;have hlen:=cw.length;obtain⟨o,a3,ay,n,hd⟩:=pl.isList;exact call_list_seq p (.inl rfl) a3 ay hd (λh' mb bI e=>fin its cw hz h' mb bI e) (by simp only[g7]<;>omega)
 .obtain⟨its,cw,pl,hz⟩:=I.tuple aU;have hlen:=cw.length;obtain⟨o,a3,ay,n,hd⟩:=pl;exact call_list_seq p (.inr rfl) a3 ay hd (λh' mb bI e=>fin its cw hz h' mb bI e) (by simp only[g7]<;>omega)
theorem Ĉ:j8 X (.type "tuple") (λxs H Q=>∃p ys,xs=[.ref p]/\((aJ X.K H p ys/\∀l,H l=none->Q (.ref l) (upd H l (.tup ys)))\/(cN X.K H p ys/\Q (.ref p) H))):=by
 intro pins s σ H xs us Q I r h;obtain⟨p,ys,rfl,h⟩:=h;obtain⟨u,rfl,bC⟩:=vals1 r;cases bC;rcases h with⟨aU,q⟩|⟨aU,q⟩
 .obtain⟨its,cw,pl,hz⟩:=I.list aU;have hlen:=cw.length;refine call_tuple_list pl.isList (λh' bI=>?_) (by simp only[g7]<;>omega);have aR:Inv X pins σ H {s with heap:=h'}:=I.kept (t':=s.toks) bI;have bD:Inv X pins σ (upd H h'.objs.size (.tup ys)) {s with heap:=h'.push {cls:=.type "tuple",data:=.seq its.toArray}}:=
   aR.laid (t':=s.toks) (λb o e=>dM _ e) (cq _) (show el X.prog X.w _ _ _ (.tup ys)from⟨hz,its,cw,IsTup.new _ _⟩)
  exact⟨.ref h'.objs.size,_,bD,rfl,q _ (aR.bb.fresh (cq _))⟩
 .obtain⟨its,cw,pl,hz⟩:=I.tuple aU;exact call_tuple_same pl ⟨.ref p,H,I,rfl,q⟩
noncomputable def ĵ(K:aV)(T:String)(x:V)(H:ae):Prop:=match x with
 |.str _=>T="str"
 |.int _=>T="int"
 |.ref p=>(T="list"/\∃xs,aJ K H p xs)\/(T="tuple"/\∃o,K.lookup p=some o/\o.cls=.type "tuple"/\o.dict=none)\/
   (T="dict"/\((∃kvs,H p=some (.b0 kvs))\/∃kvs,H p=some (.c3 kvs)))\/(T="set"/\∃S n,H p=some (.set S n))
 |_=>False
theorem agZ{pins:cy}{σ:St}{H:ae}{s:aF}{T:String}{x:V}{v:Value}(I:Inv X pins σ H s)(r:RelV x v)(ty:ĵ X.K T x H):
  s.TypeIs v T/\∀a,v=.ref a->∃ob,s.heap.get? a=some ob/\ob.dict=none:=by
 cases x with
 |str z=>
  obtain⟨t,rfl⟩:=r;cases(show T="str" from ty);exact⟨typeIs_str s z t,λ_ e=>nomatch e⟩
 |int i=>
  obtain⟨t,rfl⟩:=r;cases(show T="int" from ty);exact⟨typeIs_int s i t,λ_ e=>nomatch e⟩
 |ref p=>
  cases r;rcases ty with⟨rfl,xs,aU⟩|⟨rfl,o,aX,ay,hd⟩|⟨rfl,aX⟩|⟨rfl,S,n,aX⟩
  .obtain⟨its,_,pl,_⟩:=I.list aU;refine⟨pl.isList.typeIs,λa e=>?_⟩;cases e;obtain⟨o,n,e,c,hd,_⟩:=pl;exact⟨o,e,hd⟩
  .refine⟨⟨o,I.eD p o aX,ay⟩,λa e=>?_⟩;cases e;exact⟨o,I.eD _ o aX,hd⟩
  .have z:∃o,s.heap.get? p=some o/\o.ExactDict:=by
    rcases aX with⟨kvs,aX⟩|⟨kvs,aX⟩
    .obtain⟨_,_,_,_,o,_,_,e,ex,_⟩:=I.bb p _ aX;exact⟨o,e,ex⟩
    .obtain⟨_,_,_,_,o,_,_,e,ex,_⟩:=I.bb p _ aX;exact⟨o,e,ex⟩
   obtain⟨o,e,ex⟩:=z;refine⟨⟨o,e,ex.1⟩,λa aD=>?_⟩;cases aD;exact⟨o,e,ex.2.1⟩
  .obtain⟨o,_,_,_,e,ex,_⟩:=I.bb p _ aX;refine⟨⟨o,e,ex.1⟩,λa aD=>?_⟩;cases aD;exact⟨o,e,ex.2.1⟩
 |_=>exact hP ty
noncomputable def ars(K:aV)(T:String)(r:V->List V->ae->ba->Prop)(to:TE)(t:gi):TE:=λσ H Q=>to σ H λx H1=>ĵ K T x H1/\t σ H1 λxs ag=>r x xs ag Q
variable{o e:Expr}{es:gO}{to:TE}{t:gi}{name:Str}{eX fb:Pos}{T id:String}{r:V->List V->ae->ba->Prop}
theorem nN(hC:PlainAttrs T)(slot:Slot T name id)(vV:typeOf (.builtin id)=pure (.type "method_descriptor"))(hm:adB X id r)(a3:bl X o to)(aK:fV X (e::es) t)(Oi:vh o name X.env (eval o X.env)=eval o X.env:=by rfl)(an5:((hA fb (dV (e::es) X.env)).all (λx=>!x.1)&&(kO fb (k' [] X.env)).all (λx=>x.1.isSome)
   && decide ((e::es).length+([]:List uY).length+(if([]:List uY).isEmpty then 0 else 1)<30))=true:=by rfl)(OR:(eX.endLine==fb.line)=true:=by rfl)(hs:dV (e::es) X.env=(false,eval e X.env)::dV es X.env:=by rfl)(aow:(hA fb (dV es X.env)).any (·.1)=false:=by rfl):
  bl X (.Call (.Attribute o name eX) (e::es) [] fb) (ars X.K T r to t):=by intro pins s σ H Q I h;refine wpAny_Call_method_late Oi an5 OR rfl (bF (a3 pins s σ H _ I h) λv s1⟨x,H1,aR,ck,ty,bQ⟩=>?_);obtain⟨af,ai⟩:=agZ aR ck ty;refine⟨T,id,hC,slot,vV,af,ai,?_⟩;have mX:=aK fb pins s1 σ H1 _ aR bQ;rw[hs]at mX⊢;refine Ad (by show(false||(hA fb (dV es X.env)).any (·.1))=false;rw[aow]<;>rfl) (Ae ?_);exact bF mX λus s2⟨vs,ag,bD,dZ,cZ⟩=>hm pins s2 σ ag x vs v us Q bD ck dZ cZ
end
noncomputable def Xt(X:bg)(id:String)(r:V->List V->ae->ba->Prop):Prop:=
 ∀(pins:cy)(s:aF)(σ:St)(H:ae)(x:V)(xs:aZ)(v:Value)(us:cC)(Q:ba),Inv X pins σ H s->RelV x v->cO xs us->r x xs H Q->
  aQ (a9 X.prog X.w) X.A (call (.builtin id) (v::us)) (ir X pins σ Q) X.d0 s
theorem cO.one:∀{x:V}{us:cC},cO [x] us->∃u,us=[u]/\RelV x u
 |_,_,.cons r .nil=>⟨_,rfl,r⟩
section
variable{X:bg}{pins:cy}{σ:St}{H:ae}{s:aF}{l b:Addr}{xs ys zs:aZ}
theorem Inv.Ü{its its':cC}{n:Nat}{f:Array Value->Array Value}{t':Nat}(I:Inv X pins σ H s)(kW:H l=some (.lst xs))(e:s.heap.get? l=some {cls:=.type "list",data:=.seq its.toArray n})(hf:f its.toArray=its'.toArray)(bz:cO ys its')(hz:ys.length<=sizeLine):
  Inv X pins σ (upd H l (.lst ys)) {s with heap:=s.heap.update l (rL f),toks:=t'}:=by have q:=PySem.IsL.update e f;rw[hf]at q;refine I.write (x:=l) (e:=l) (by rw[kW];exact trivial) (.inl rfl) (λbu u U b7=>(jT s.heap (rL f) (cR U)).trans b7) ⟨_,q⟩ ?_;exact⟨hz,its',_,bz,q⟩
theorem Inv.Ù{its:cC}{t':Nat}(I:Inv X pins σ H s)(bz:cO ys its)(hz:ys.length<=sizeLine):
  Inv X pins σ (upd H s.heap.objs.size (.lst ys)) {s with heap:=s.heap.push {cls:=.type "list",data:=.seq its.toArray},toks:=t'}:=
 I.laid (λ_ _ q=>dM _ q) (cq _) ⟨hz,its,0,bz,gq _ rfl⟩
theorem Inv.fresh(I:Inv X pins σ H s):H s.heap.objs.size=none:=I.bb.fresh (cq _)
theorem Inv.DL(I:Inv X pins σ H s)(kW:H l=some (.lst xs)):xs.length<=sizeLine/\∃(its:cC)(n:Nat),cO xs its/\xs.length=its.length/\s.heap.get? l=some {cls:=.type "list",data:=.seq its.toArray n}:=by obtain⟨z,its,n,r,e⟩:=I.bb l _ kW;exact⟨z,its,n,r,r.length,e⟩
theorem acn{n:Nat}(h:n<=sizeLine):Vl n=false:=by unfold Vl;exact dJ (by omega)
end
section
variable{X:bg}
inductive aco(x:V)(vs:aZ)(H:ae)(Q:ba):Prop where
 |mk (l:_) (xs:_) (y:_) (bV:x=.ref l) (bA:vs=[y]) (cn:H l=some (.lst xs)) (di:xs.length<sizeLine) (d8:Q .bq (upd H l (.lst (xs++[y]))))
noncomputable def aft:V->List V->ae->ba->Prop:=λx vs H Q=>aco x vs H Q
theorem nB:Xt X "list.append" aft:=by intro pins s σ H x vs v us Q I bC cg h;obtain⟨l,xs,y,rfl,rfl,kW,hz,q⟩:=h;cases bC;obtain⟨u,rfl,ez⟩:=cg.one;obtain⟨z,its,n,r,aj,e⟩:=I.DL kW;refine call_meets F.slot_list_append ⟨_,e,rfl⟩ F.entry_list_append (F.args_list_append_2 _ _) (PySem.list_append l its.toArray n u (by rw[g7];omega)) ⟨e,?_⟩;refine⟨.bq,_,I.Ü (its':=its++[u]) kW e (by simp) (r.append (.cons ez .nil)) ?_,rfl,q⟩;rw[hi,List.length_singleton];omega
inductive acp(x:V)(vs:aZ)(H:ae)(Q:ba):Prop where
 |mk (l:_) (b:_) (xs:_) (zs:_) (bV:x=.ref l) (bA:vs=[.ref b]) (cn:H l=some (.lst xs)) (di:H b=some (.lst zs)) (d8:xs.length+zs.length<=sizeLine) (fI:Q .bq (upd H l (.lst (xs++zs))))
noncomputable def afu:V->List V->ae->ba->Prop:=λx vs H Q=>acp x vs H Q
theorem ab7:Xt X "list.extend" afu:=by
 intro pins s σ H x vs v us Q I bC cg h;obtain⟨l,b,xs,zs,rfl,rfl,kW,N1,hz,q⟩:=h;cases bC;obtain⟨u,rfl,ez⟩:=cg.one;cases ez;obtain⟨z,its,n,r,aj,e⟩:=I.DL kW;obtain⟨bA,vX,dq,dZ,pO,aD⟩:=I.DL N1;have hsz:its.toArray.size+vX.toArray.size<=sizeLine:=by rw[g7,g7];omega
 have aoh:¬(!its.toArray.isEmpty&&Vl (its.toArray.size+vX.toArray.size))=true:=by rw[acn hsz,aak];exact fp
 refine call_meets F.slot_list_extend ⟨_,e,rfl⟩ F.entry_list_extend (F.args_list_extend_2 _ _)
  (AutoSeq1.list_extend_list_list_0 l its.toArray n b vX.toArray dq aoh (by rw[g7];omega) (by omega)) ⟨e,aD,?_⟩
 refine⟨.bq,_,I.Ü (its':=its++vX) kW e (by simp) (r.append dZ) ?_,rfl,q⟩;rw[hi];omega
inductive aiy(x:ao.V)(y:ao.V)(H:ae)(Q:ba):Prop where
 |mk (l:_) (b:_) (xs:_) (zs:_) (bV:x=.ref l) (bA:y=.ref b) (cn:H l=some (.lst xs)) (di:H b=some (.lst zs)) (d8:xs.length+zs.length<=sizeLine) (fI:∀p,H p=none->Q (.ref p) (upd H p (.lst (xs++zs))))
noncomputable def ajx:hu:=λx y H Q=>aiy x y H Q
theorem Kh:gL X (ti .Add) ajx:=by
 intro pins s σ H x y v u Q I bC bJ h;obtain⟨l,b,xs,zs,rfl,rfl,kW,N1,hz,q⟩:=h;cases bC;cases bJ;obtain⟨z,its,n,r,aj,e⟩:=I.DL kW;obtain⟨bA,vX,dq,dZ,pO,aD⟩:=I.DL N1;refine PySem.P.add_list e aD ?_ (by rw[g7,g7];omega);have au:its.toArray++vX.toArray=(its++vX).toArray:=by simp
 rw[au];exact⟨.ref _,_,I.Ù (t':=s.toks) (r.append dZ) (by rw[hi];omega),rfl,q _ I.fresh⟩
end
end ao
namespace U7
open PySem PySem.W PySem.Calls PyProof.Rows
theorem arO{P:Params}{h:Heap}:∀(ns:g8)(vs:cC),WellAll P h vs (ns.map WData.int)->FO vs ns:=by
 intro ns
 induction ns with
 |nil=>
  intro vs w;rw[F1]at w;cases w;exact .nil
 |cons n ns a6=>
  intro vs w;rw[hQ]at w;cases w with
  |cons a b=>
   cases a;exact .cons _ _ (a6 _ b)
theorem ab8{l:OpenLaw}{n:Nat}(aT:l.most=some n){P:Params}{h:Heap}{args:List WData}{vals:cC}(HA:l.row.toRowW.claim.pre args=true)(Pg:WellAll P h vals args):
  ∃a vs ns,vals=[cE a]/\args=[WData.list (ns.map WData.int)]/\h.get? a=some {cls:=.type "list",data:=.seq vs.toArray}/\FO vs ns/\ns.length<=n:=by
 have oA:WShape.hasAll [] args [.list .int]=true:=(pre_splitW HA).1;have ay:l.pre.holds [] {args:=args}=true:=(pre_splitW HA).2;obtain⟨d,r,rfl,af,ai⟩:=hasAllW_cons oA;obtain rfl:=hasAllW_nil ai;obtain⟨xs,rfl,bU⟩:=hasW_list af;obtain⟨ns,rfl⟩:=items_int bU;have hlen:ns.length<=n:=by
  unfold OpenLaw.pre at ay;have cX:(WTm.not (.lt (.lit (.int (n:Int))) (.len (.arg 0)))).holds [] {args:=[.list (ns.map .int)]}=true:=by have cX:=(holds_andW ay).1;rw[aT]at cX;exact cX
  have d3:=condW_of cX (w_not (w_lt w_lit (w_len_list (w_arg rfl))));rw[bp]at d3;refine Nat.le_of_not_lt λq=>?_;have fR:(n:Int)<((ns.length:Nat):Int):=by omega
  first
   | (rw[cu fR]at d3;exact bG d3 (by decide))
   | (simp at d3;omega)
 cases Pg with
 |cons fo fU=>
  cases fU;cases fo with
  |list a3 vM=>exact⟨_,_,ns,rfl,rfl,a3,arO ns _ vM,hlen⟩
theorem ab9(l:OpenLaw)(args:List WData):l.row.toRowW.claim.post args (.bool true) args=true:=
 postW_of (r:=l.row.toRowW) (X:=(true==true))
  (show WShape.has [] (.bool true) .bool=true by first|rfl|decide|simp[WShape.has,WShape.arms,WShape.armsAll])
  (show(WTm.eq .res (.lit (.bool true))).value [] {args:=args,res:=some (.bool true),after:=args}=some (.bool (true==true))from w_eq_bool (w_res rfl) w_lit) rfl
theorem akw{l:OpenLaw}{n:Nat}{q:bO}{loose:b9}{yi:cI->Heap->Prop}{tf:bx->Heap->Prop}{d:DefRec}(aT:l.most=some n)(qM:d.params.defaults=[])(call:∀(w:bx)(iH dU:aF)(mg oG:cI)(iz:Addr)(o:Obj)(pm cd doc:Value)(a:Addr)(vs:cC)(ns:g8),
   Ground q loose [] yi w iH mg oG dU.heap->tf w dU.heap->
   dU.heap.get? iz=some o->o.data=.func (docDef d.name d.params d.body d.scope pm cd doc)->dU.heap.CodeRec cd d.name->mg d.name=some (.ref iz)->
   dU.heap.get? a=some {cls:=.type "list",data:=.seq vs.toArray}->FO vs ns->ns.length<=n->dU.gens=#[]->
   jX (a9 l.prog w) ym (.call (.ref iz) ⟨[.ref a],[]⟩) (λr s'=>r=.ok (.ret (.bool true))/\OldK dU.heap s'.heap/\s'.os=dU.os/\rE s'.gens) dU):
  WalkO q loose yi tf l.row.toRowW d [] (λf vs=>Yc f vs):=by intro w iH dU mg oG G Y iz o pm cd doc Gx dn a3 hd j5 bR C0 bP args vals as HA at0 Á Pg at1;obtain rfl:Gx=.none:=Dflts.none bR qM;obtain rfl:dn=.none:=Dflts.noKw bR;obtain⟨a,vs,ns,rfl,rfl,OY,hints,hlen⟩:=ab8 aT HA Pg;refine enter_call (rR (call w iH dU mg oG iz o pm cd doc a vs ns G Y a3 (fd_plain hd) j5 C0 OY hints hlen bP) λr s' aU=>?_);obtain⟨rfl,ai,bU,cX⟩:=aU;exact⟨.inl ⟨.bool true,.bool true,[],rfl,λ_=>rfl,.bool true,ab9 l _,λ_=>⟨List.Pairwise.nil,λ_ hm=>(nomatch hm)⟩⟩,ai,bU,cX⟩
end U7
namespace ao
open PySem PySem.Spec PyProof.Rows
theorem Ŭ:∀{vs:cC}{ns:g8},FO vs ns->cO (ns.map V.int) vs
 |_,_,.nil=>.nil
 |_,_,.cons n t h=>.cons ⟨t,rfl⟩ (Ŭ h)
noncomputable def Ll(H:ae):Prop:=∀b,H b=none\/∃o xs,H b=some (.eO o (.lst xs))
theorem acq{P:bO}{w:bx}{K:aV}{mg oG:cI}{CX:ni}{k:Nat}{iz a:Addr}{fd:cF}{x:Str}{sp:cM}{dU:aF}{vs:cC}{ns:g8}(qd:K.In dU.heap)(C3:dU.heap.Ns c8 mg)(U:dU.heap.Ns Zc oG)(anN:∀x:Str,x≠"__name__"->oG x=i5 x)(aog:dU.heap.NoLimit)(bP:dU.gens=#[])(aK:dU.heap.get? a=some {cls:=.type "list",data:=.seq vs.toArray})(ar:FO vs ns)(aj:ns.length<=sizeLine)(aq:gk k ym)(F:∀base:Heap,K.In base->base.Ns c8 mg->aL P w K mg base CX k iz fd [x] sp)(anP:∀(s:aF)(u:Value),z9 s fd ⟨[u],[]⟩ [(x,u)])(oB:∀H:ae,Ll H->aJ K H a (ns.map V.int)->sp [.ref a] H (λv _=>v=.aM true) λ_ _ _=>False)(N4:∀H e s',CX [] H dU (λ_ _ _=>False) e s'->False):
  jX (a9 P w) ym (.call (.ref iz) ⟨[.ref a],[]⟩) (λr s'=>r=.ok (.ret (.bool true))/\OldK dU.heap s'.heap/\s'.os=dU.os/\rE s'.gens) dU:=by
 have cg:=Ŭ ar;have aph:=ar.length;have core:∀H:ae,Ll H->aJ K H a (ns.map V.int)->fq P w H dU.heap->(∀b,H b≠none->b=a)->(H a≠none->K.lookup a=none)->
   jX (a9 P w) ym (.call (.ref iz) ⟨[.ref a],[]⟩) (λr s'=>r=.ok (.ret (.bool true))/\OldK dU.heap s'.heap/\s'.os=dU.os/\rE s'.gens) dU:=by
  intro H Hi fO bb mX gd;have Y7:∀{b:Addr}{o:Obj},dU.heap.get? b=some o->H b=none->(sJ dU.heap H).get? b=some o:=λe n=>acD e n;have DV:∀{b:Addr}{o:Obj}{es:Array pe}{ep:Nat},dU.heap.get? b=some o->o.data=.dict es ep->H b=none:=λ{b o es ep}e d=>by
   cases q:H b with
   |none=>rfl
   |some u=>
    have cm:b=a:=mX b (by rw[q];simp);subst cm;rw[aK]at e;cases e;have d':Data.seq vs.toArray _=Data.dict es ep:=d;cases d'
  have It:∀{b:Addr}{m:cI},dU.heap.Ns b m->(sJ dU.heap H).Ns b m:=λ{b m}⟨o,es,ep,e,d,r⟩=>⟨o,es,ep,Y7 e (DV e d),d,r⟩
  have Z':K.In (sJ dU.heap H):=λb o e=>Y7 (qd b o e) (by
   cases q:H b with
   |none=>rfl
   |some u=>
    have cm:b=a:=mX b (by rw[q];simp);subst cm;rw[gd (by rw[q];simp)]at e;cases e)
  have anD:Mod K mg (sJ dU.heap H):=⟨Z',It C3,⟨oG,It U,anN⟩,let⟨apq,af,ai⟩:=aog;⟨apq,It af,ai⟩⟩
  have cJ:uP P w K mg (sJ dU.heap H) ym [] dU H:=⟨rfl,anD,λb o e=>afn e,K' (ab1 _ _),trivial,λb U=>bG (show b∈([]:bS)from U) (by simp),bb,.of_eq bP⟩
  refine rR ((F _ Z' (It C3)).run ym [] dU H ⟨[.ref a],[]⟩ [.ref a] [.ref a] _ _ aq cJ (anP dU (.ref a)) (.cons rfl .nil) (oB H Hi fO)) λr s' h=>?_;cases r with
  |error e=>exact(N4 H e s' h).elim
  |ok fl=>
   cases fl with
   |next=>exact hP h
   |brk=>exact hP h
   |cont=>exact hP h
   |ret u=>
    obtain⟨v,H',os,bare,un,aoq,cw,q⟩:=h;have fR:v=.aM true:=q;subst fR;obtain rfl:u=LR true:=cw;refine⟨rfl,OldK.of_keep λb o e=>?_,os,bare⟩;cases q:H b with
    |none=>exact un.keep b o e q (by intro z;exact bG (show b∈([]:bS)from z) (by simp)) (by simp)
    |some u=>
     rcases Hi b with z|⟨ob,xs,z⟩
     .rw[q]at z;cases z
     .have bA:=un.iT b ob _ z;obtain⟨aB,_⟩:=bb b _ z;obtain⟨aD,_⟩:=aoq b _ bA;rw[e]at aB;cases aB;exact aD
 cases aX:K.lookup a with
 |some o=>
  have e:=qd a o aX;rw[aK]at e;cases e;refine core (λ_=>none) (λ_=>.inl rfl) (.inr ⟨_,vs.toArray,_,aX,rfl,rfl,rfl,by rw[g7,aph];exact aj,by simpa using cg⟩) (λb u z=>by have dr:(none:Option ee)=some u:=z;cases dr) (λb z=>bG rfl z) λz=>bG rfl z
 |none=>
  refine core (λb=>if b=a then some (.eO {cls:=.type "list",data:=.seq vs.toArray} (.lst (ns.map V.int)))else none) (λb=>?_) (.inl (.inr ⟨{cls:=.type "list",data:=.seq vs.toArray},bM rfl⟩)) (λb u z=>?_) (λb z=>?_) λ_=>aX
  .by_cases U:b=a
   .exact .inr ⟨_,_,bM U⟩
   .exact .inl (bE U)
  .by_cases U:b=a
   .have dr:=(bM U).symm.trans z;cases dr;subst U;exact⟨aK,by rw[bp];exact aj,vs,_,cg,aK⟩
   .have dr:=(bE U).symm.trans z;cases dr
  .by_cases U:b=a
   .exact U
   .exact bG (bE U) z
noncomputable abbrev as6{K:aV}{h:Heap}(_:K.In h):aV:=K
theorem arY{l:X3}{n k:Nat}{q:bO}{loose:b9}{yi:cI->Heap->Prop}{tf:bx->Heap->Prop}{d:DefRec}{K:Params->aV}{CX:bx->ni}{sp:bx->cM}{x:Str}(aT:l.most=some n)(Hu:n<=sizeLine)(qM:d.params.defaults=[])(aq:gk k ym)(Oa:∀(w:bx)(h:Heap),tf w h->(K w.params).In h)(F:∀(w:bx)(mg:cI)(iz:Addr)(h:Heap),(K w.params).In h->h.Ns c8 mg->mg d.name=some (.ref iz)->
   ∃fd:cF,(∀(s:aF)(u:Value),z9 s fd ⟨[u],[]⟩ [(x,u)])/\
    ∀base:Heap,(K w.params).In base->base.Ns c8 mg->aL l.prog w (K w.params) mg base (CX w) k iz fd [x] (sp w))(oB:∀(w:bx)(H:ae)(a:Addr)(ns:g8),ns.length<=n->Ll H->aJ (K w.params) H a (ns.map V.int)->sp w [.ref a] H (λv _=>v=.aM true) λ_ _ _=>False)(N4:∀(w:bx)(H:ae)(s:aF)(e:Value)(s':aF),CX w [] H s (λ_ _ _=>False) e s'->False):
  aeG q loose yi tf l.row.toRowW d [] (λf vs=>Yc f vs):=by refine U7.akw aT qM λw iH dU mg oG iz o pm cd doc a vs ns G Y a3 hd j5 C0 OY hints hlen bP=>?_;have qd:=Oa w _ Y;obtain⟨fd,U,CL⟩:=F w mg iz _ qd G.T.g C0;exact acq qd G.T.g G.T.b G.T.builtins G.T.nolimit bP OY hints (eQ hlen Hu) aq CL U (λH Hi fO=>oB w H a ns hlen Hi fO) λH e s'=>N4 w H dU e s'
noncomputable def gU(s:Stmt)(j:Nat):Stmt:=match s with
 |.ClassDef _ _ _ body _ _ _ _ _ _ _=>body.getD j (.Pass ⟨0,0,0,0⟩)
 |_=>.Pass ⟨0,0,0,0⟩
noncomputable def Ee(s:Stmt):Arguments:=match s with
 |.FunctionDef _ a _ _ _ _ _ _ _ _=>a
 |_=>{posonlyargs:=[],args:=[],vararg:=none,kwonlyargs:=[],kw_defaults:=[],kwarg:=none,defaults:=[]}
noncomputable def tT(s:Stmt):List Stmt:=match s with
 |.FunctionDef _ _ b _ _ _ _ _ _ _=>b
 |_=>[]
noncomputable def c7(s:Stmt):Scope:=match s with
 |.FunctionDef _ _ _ _ _ _ sc _ _ _=>sc
 |_=>{kind:=.function,names:=[],isGenerator:=false,isCoroutine:=false}
noncomputable abbrev a8:ni:=λ_ _ _ _ _ _=>False
noncomputable abbrev rG:b6:=λ_ _ _=>False
theorem dt{X:bg}:pS a8 X rG:=λ_ _ _ _ _ _ _ h=>h.elim
structure bB(K:aV)(x qual:Str)(st:Stmt)(f:Addr)(fd:cF):Prop where
 ex:∃(mu:Value)(ea:Option Addr)(dn doc pm:Value)(an:Option Addr)(cdv e':Value)(oS:jV),
  fd=yc x qual (Ee st) (tT st) (c7 st) .none dn doc pm an cdv e'/\K.lookup f=some ⟨mu,ea,.func fd,oS⟩/\X4 K cdv qual=true
 bI:pA K (.ref f)=true
section
variable{P:bO}{w:bx}{K:aV}{mg:cI}{base:Heap}
theorem bB.ok{x qual:Str}{st:Stmt}{f:Addr}{fd:cF}{N ps:b9}{k:Nat}{sp:cM}(F:bB K x qual st f fd)(S:dB N ps (c7 st))(len:∀vs H Q E,sp vs H Q E->vs.length=ps.length)(vN:∀(cdv:Value)(A:c0)(outer:List Env)(s:aF)(H:ae)(vs:aZ)(Q:ba)(E:b6),gk k (A.deeper (ow qual (c7 st) s.heap.objs.size f cdv))->sp vs H Q E->
   ∃t,f_ (j_ a8 P w K mg base N qual (c7 st) f cdv A outer s H E).q7 (tT st) t/\t {cj:=λ_ H'=>Q .bq H',my:=Q} (start N vs) H):aL P w K mg base a8 (k+1) f fd ps sp:=by obtain⟨mu,ea,dn,doc,pm,an,cdv,e',oS,rfl,lk,j5⟩:=F.ex;refine KP lk j5 S len λA outer s H vs Q E aq oB=>?_;obtain⟨t,h,q⟩:=vN cdv A outer s H vs Q E aq oB;exact⟨t,h.q7,q⟩
theorem bB.binds{x qual:Str}{st:Stmt}{f:Addr}{fd:cF}{ps:b9}(F:bB K x qual st f fd)(h:∀(dn doc pm:Value)(an:Option Addr)(cdv e':Value)(us:cC),us.length=ps.length->bindArgs (yc x qual (Ee st) (tT st) (c7 st) .none dn doc pm an cdv e') ⟨us,[]⟩=pure (ps.zip us)):Binds K fd ps []:=by obtain⟨mu,ea,dn,doc,pm,an,cdv,e',oS,rfl,lk,j5⟩:=F.ex;exact .all (h dn doc pm an cdv e')
theorem dT{x qual:Str}{st:Stmt}{f:Addr}{mu:Value}{ea an:Option Addr}{oS:jV}{dn doc pm cdv e':Value}(l:K.lookup f=some ⟨mu,ea,.func (yc x qual (Ee st) (tT st) (c7 st) .none dn doc pm an cdv e'),oS⟩)(c:X4 K cdv qual=true)(k:pA K (.ref f)=true):bB K x qual st f (yc x qual (Ee st) (tT st) (c7 st) .none dn doc pm an cdv e'):=⟨⟨mu,ea,dn,doc,pm,an,cdv,e',oS,rfl,l,c⟩,k⟩
theorem iV{A:c0}{k:Nat}(aq:gk k A):A.units+1<cLine:=od (adH (by decide:1<=64) _) aq.units
theorem eW{n:Nat}(h:n<=1000):n<sizeLine:=od h (by decide)
end
section
variable{X:bg}
theorem aa(i:Nat){x:Str}{pos:Pos}(eJ:X.N[i]?=some x:=by rfl)(bz:LU X.env.scope x:=by first|exact cb rfl|exact rN (cb rfl)|exact rN (rN rfl))(hd:(x==("__debug__":Str))=false:=by decide)(j5:(x==("__classdict__":Str))=false:=by decide):bl X (.Name x pos) (LC i):=agy eJ bz hd j5
theorem gx{A B:Prop}(h:B):if false=true then A else B:=by rw[bE fp];exact h
theorem h3{A B:Prop}(h:A):if true=true then A else B:=by rw[bM rfl];exact h
theorem nZ{c A B:Prop}[Decidable c](af:c->A)(ai:¬c->B):if c then A else B:=by
 by_cases h:c
 .rw[bM h];exact af h
 .rw[bE h];exact ai h
theorem KV{c A B:Prop}[Decidable c](ay:c)(h:B):if(!decide c)=true then A else B:=by rw[cu ay];exact gx h
noncomputable def aN(H H':ae):Prop:=∀b o,H b=some o->H' b=some o
theorem aN.refl(H:ae):aN H H:=λ_ _ h=>h
theorem aN.trans{H H1 ag:ae}(a:aN H H1)(b:aN H1 ag):aN H ag:=λc o h=>b c o (a c o h)
theorem aN.free{H H':ae}(e:aN H H'){l:Addr}(h:H' l=aee):H l=aee:=by
 cases q:H l with
 |none=>rfl
 |some o=>
  rw[e l o q]at h;cases h
theorem aN.seq{K:aV}{H H':ae}{a:Addr}{xs:aZ}(e:aN H H')(h:aJ K H a xs):aJ K H' a xs:=by
 rcases h with(h|⟨o,h⟩)|h
 .exact .inl (.inl (e _ _ h))
 .exact .inl (.inr ⟨o,e _ _ h⟩)
 .exact .inr h
end
end ao
namespace ct
open PySem PySem.Spec PyProof.Rows ao
noncomputable abbrev St:=ao.St
noncomputable abbrev V:=ao.V
noncomputable abbrev qh:Value->aF->Prop:=λ_ _=>False
theorem afv{α:Type}{M:lA}{A:c0}{t:Sem α}{Q:α->aF->Prop}{E:cD}{s:aF}(h:aQ M A t Q qh s):aQ M A t Q E s:=
 gn h (λ_ _ q=>q) λ_ _ z=>hP z
theorem aaW{prog:bO}{w:bx}{A:c0}{R:nu->aF->Prop}{s:aF}{elt dA iter:Expr}{ifs:gO}{scope:Scope}{pos:Pos}{it acc:Value}{env:Env}(I:Nat->aF->Prop)(turn:∀n s,I n s->aQ (a9 prog w) A (ip it) (λr s1=>match r with
   |none=>R (.ok .next) s1
   |some v=>aQ (a9 prog w) A (Qu dA it v) (λ_ s2=>aQ (a9 prog w) A (yk dA env v) (λ_ s3=>
     aQ (a9 prog w) A (forIn ifs true λc r=>if r=true then do let ok <-HP c env (eval c env);pure (Ku ok)else pure (Ku r)) (λok s4=>
      if ok=true then aQ (a9 prog w) A (eval elt env) (λx s5=>aQ (a9 prog w) A (call (.builtin "list.append") [acc,x]) (λ_ f7=>∃m,m<n/\I m f7) qh s5) qh s4
      else∃m,m<n/\I m s4) qh s3) qh s2) qh s1) qh s)(n:Nat)(h:I n s):jX (a9 prog w) A (.compLoop (.ListComp elt [⟨dA,iter,ifs,0⟩] scope pos) 0 it acc env) R s:=by
 refine codeAny_loop rfl I (λn s anB=>?_) n h;show aQ _ A ((compTurn (.ListComp elt [⟨dA,iter,ifs,0⟩] scope pos) 0 it acc env).onRaise (λx=>do Ra x env;theTreesLotGoes x)) _ _ s;refine wpAny_noted (afv ?_);rw[compTurn_list];refine ax (Fe (ax (gn (turn n s anB) (λr s1 af=>?_) λ_ _ z=>z)));cases r with
 |none=>exact bj af
 |some v=>
  refine ax (gn af (λ_ s2 ai=>ax (gn ai (λ_ s3 bU=>ax (gn bU (λok s4 cX=>?_) λ_ _ z=>z)) λ_ _ z=>z)) λ_ _ z=>z);cases ok with
  |false=>exact bj ⟨rfl,cX⟩
  |true=>exact ax (ax (gn cX (λx s5 d3=>ax (gn d3 (λ_ f7 ku=>bj (bj ⟨rfl,ku⟩)) λ_ _ z=>z)) λ_ _ z=>z))
noncomputable def il(cs:lD)(σ:St):St:=cs.map λo=>o.bind λj=>(σ[j]?).bind id
noncomputable def oE(X:bg)(N':b9)(scope:Scope)(cl:List (Str×Addr))(C:Addr)(s3:aF)(a_:ae)(cp:bS)(fg:cy):bg:=
 {X with N:=N',iH:=s3,mG:=a_,env:=compEnvC scope cl C X.env,outer:=X.stack,stack:=X.stack,ex:=cp,fn:=λ_=>false,fg:=fg,d0:=λ_ _=>False}
noncomputable def z'(k:Option u2):Prop:=k=some .cell\/k=some .free
inductive o2(X:bg)(scope:Scope)(cl:List (Str×Addr)):List Str->List (Option Nat)->Prop
 |nil:o2 X scope cl [] []
 |own {x N cs}:o2 X scope cl N cs->o2 X scope cl (x::N) (none::cs)
 |md {x j N cs} (af:X.N[j]?=some x) (ai:z' (X.env.kindOf x)) (bU:z' ((IZ scope X.env).names.lookup x)) (cX:cl.lookup x=X.env.cells.lookup x):
   o2 X scope cl N cs->o2 X scope cl (x::N) (some j::cs)
theorem o2.len{X:bg}{scope:Scope}{cl:List (Str×Addr)}{N cs}(h:o2 X scope cl N cs):cs.length=N.length:=by
 induction h with
 |nil=>rfl
 |own _ a6=>simp[a6]
 |md _ _ _ _ _ a6=>simp[a6]
theorem o2.get{X:bg}{scope:Scope}{cl:List (Str×Addr)}{N cs}(h:o2 X scope cl N cs){σ:St}:∀{i:Nat}{x:Str}{v:V},N[i]?=some x->(il cs σ)[i]?=some (some v)->
  ∃j:Nat,X.N[j]?=some x/\σ[j]?=some (some v)/\z' (X.env.kindOf x)/\z' ((IZ scope X.env).names.lookup x)/\cl.lookup x=X.env.cells.lookup x:=by
 induction h with
 |nil=>intro i x v af ai;simp at af
 |own _ a6=>
  intro i x v af ai;cases i with
  |zero=>simp[il]at ai
  |succ i=>exact a6 (i:=i) (by simpa using af) (by simpa[il]using ai)
 |@md y j N cs a1 a2 hv jn _ a6=>
  intro i x v af ai;cases i with
  |zero=>
   simp at af;subst af;refine⟨j,a1,?_,a2,hv,jn⟩;simp[il]at ai;cases q:σ[j]? with
   |none=>rw[q]at ai;simp at ai
   |some o=>
    rw[q]at ai;simp at ai;rw[ai]
  |succ i=>exact a6 (i:=i) (by simpa using af) (by simpa[il]using ai)
noncomputable def Gb(cl:List (Str×Addr))(names:List (Str×u2)):Bool:=names.all λy=>(y.2 !=.cell&&y.2 !=.free)||(cl.lookup y.1).isSome
theorem acK{cl:List (Str×Addr)}{names:List (Str×u2)}(h:Gb cl names=true){x:Str}(k:z' (names.lookup x)):∃c,cl.lookup x=some c:=by
 have key:∀q:u2,names.lookup x=some q->(q=.cell\/q=.free)->∃c,cl.lookup x=some c:=λq e aU=>by
  have m:=FW.mp h (x,q) (Bt e);rcases aU with rfl|rfl
  .exact rM.mp (by simpa using m)
  .exact rM.mp (by simpa using m)
 rcases k with k|k
 .exact key _ k (.inl rfl)
 .exact key _ k (.inr rfl)
noncomputable def AY(X:bg)(ifs:gO)(t:TT):Prop:=
 ∀(pins:cy)(s:aF)(σ:St)(H:ae)(Q:Bool->ae->Prop),Inv X pins σ H s->t σ H Q->
  aQ (a9 X.prog X.w) X.A (forIn ifs true λc r=>if r=true then do let ok <-HP c X.env (eval c X.env);pure (Ku ok)else pure (Ku r)) (LF X pins σ Q) X.d0 s
noncomputable def sN:TT:=λ_ H Q=>Q true H
theorem qX{X:bg}:AY X [] sN:=λ_ _ _ H _ I h=>wpAny_tests_nil ⟨H,I,h⟩
theorem zf{X:bg}{c:Expr}{t:TT}(h:lB X c t):AY X [c] t:=λpins s σ H Q I q=>wpAny_tests_one (h pins s σ H Q I q)
noncomputable def n1(dh:TI)(cs:lD)(g:jB)(tt:TT)(b3:TE):TE:=λσ H Q=>dh σ H λJ H1=>∀D,H1 D=none->
 ∃W:Nat->Nat->List V->St->ae->Prop,(∃m,W 0 m [] (il cs σ) (upd H1 D (.lst [])))/\∀i m ys a4 H',W i m ys a4 H'->H' D=some (.lst ys)/\ys.length<sizeLine/\
  ((J.stop i H'/\Q (.ref D) H')\/(J.go i H'/\∀x ag,J.n4 i H' x ag->g x a4 ag λg4 a_=>tt g4 a_ λb dP=>
   if b=true then b3 g4 dP λy bw=>bw D=some (.lst ys)/\∃cV,cV<m/\W (i+1) cV (ys++[y]) g4 (upd bw D (.lst (ys++[y])))
   else∃cV,cV<m/\W (i+1) cV ys g4 dP))
section
variable{X:bg}{elt dA iter:Expr}{ifs:gO}{scope:Scope}{pos:Pos}{N':b9}{cs:lD}{cl:List (Str×Addr)}{dh:TI}{g:jB}{tt:TT}{b3:TE}
theorem afw{P:bO}{w:bx}{H:ae}{h h':Heap}{C:Addr}(ok:fq P w H h)(en:H C=none)(hs:kI C h h'):fq P w H h':=λb ob e=>by
 refine(ok b ob e).nd (λc u ay q=>(hs.2 c ?_).trans q) (λ_ q=>q) λ_ _ q=>q;rintro rfl;rcases ay with rfl|ay
 .rw[en]at e;cases e
 .rw[en]at ay;cases ay
theorem W2{use:Option (Value->Sem Unit)}{QQ:cD}{pins:cy}{s:aF}{σ:St}{H:ae}{Q:ba}{anf:Pos}(ay:X.calm=true)(ar:oe X dA iter dh)(CV:Zh scope X.env=pure cl)(tK:∀y∈scope.names,y.2≠.cell)(r2:scope.kind=.function)(C2:∀y∈scope.names,y.2=.local->scope.names.lookup y.1=some .local)(ky:∀x c,cl.lookup x=some c->X.env.cells.lookup x=some c)(bb:Gb cl (IZ scope X.env).names=true)(yF:o2 X scope cl N' cs)(U:∀(C:Addr)(s3:aF)(a_:ae)(cp:bS)(fg:cy),qi (oE X N' scope cl C s3 a_ cp fg) dA g/\AY (oE X N' scope cl C s3 a_ cp fg) ifs tt/\bl (oE X N' scope cl C s3 a_ cp fg) elt b3)(hs:∀x,NQ iter X.env x=pure x:=by intro _;rfl)(I:Inv X pins σ H s)(h:n1 dh cs g tt b3 σ H Q)(post:∀(D C:Addr)(s4:aF)(H':ae)(m:cI),Inv X pins σ H' s4->s4.heap.Ns C m->sM X pins H' C->Q (.ref D) H'->compPost (a9 X.prog X.w) X.A X.d0 use QQ (.ref D) C (.ok .next) s4):
  aQ (a9 X.prog X.w) X.A (comprehension (.ListComp elt [⟨dA,iter,ifs,0⟩] scope pos) scope X.env anf (newList []) false (eval iter X.env) use) QQ X.d0 s:=by
 refine wpAny_comprehension_free (use:=use) rfl hs CV r2 C2 (bF (ar pins s σ H _ I h) λv s1 af=>bF af λP0 s2 ai=>?_);obtain⟨it,cp,gZ,J,ag,rfl,bD,T,I_,f2,cZ⟩:=ai;refine o9 (wpAny_newFunctionEnv tK (by intro y cS;simp at cS) (λaf OW O5=>?_) r2);dsimp only at OW O5⊢;have c5:Inv X pins σ (upd ag s2.heap.objs.size (.lst [])) {s2 with heap:=s2.heap.push {cls:=.type "list",data:=.seq ([]:cC).toArray},toks:=s2.toks}:=bD.Ù (its:=[]) (ys:=[]) .nil (e_ _);have anz:ag s2.heap.objs.size=none:=bD.fresh;obtain⟨W,⟨m0,w4⟩,turn⟩:=cZ _ anz;generalize Z9:s2.heap.push {cls:=.type "list",dict:=none,data:=.seq ([]:cC).toArray}=bU at OW O5 c5⊢;have Ç:bU.objs.size=s2.heap.objs.size+1:=by rw[<-Z9,xN]
 generalize bR:s2.heap.objs.size=D at *;have kept:∀b o,bU.get? b=some o->af.get? b=some o:=λb o e=>O5.extBut b o (eN (dG e)) (dM _ e);have old:∀b o,s2.heap.get? b=some o->bU.get? b=some o:=λb o e=>by rw[<-Z9];exact dM _ e
 have G7:∀b∈cp,b<D:=λb de=>by obtain⟨o,e,_⟩:=T.obj 0 _ I_ b de;rw[<-bR];exact dG e
 have ZP:∀b∈cp,b∉fy X.stack:=λb de z=>by
  obtain⟨_,f1,cz,_⟩:=f2 b de;rcases c'.mp (bD.ER b z)with e|e
  .exact f1 e
  .exact cz e
 generalize kv:oE X N' scope cl bU.objs.size {s2 with heap:=bU,toks:=s2.toks} (upd ag D (.lst [])) cp (X.fg++pins)=lE;obtain⟨bP,Θ,he⟩:=U bU.objs.size {s2 with heap:=bU,toks:=s2.toks} (upd ag D (.lst [])) cp (X.fg++pins);rw[kv]at bP Θ he;have vu:lE.prog=X.prog:=by rw[<-kv];rfl
 have vv:lE.w=X.w:=by rw[<-kv];rfl
 have Zo:lE.K=X.K:=by rw[<-kv];rfl
 have Zn:lE.calm=X.calm:=by rw[<-kv];rfl
 have jU:Inv lE [] (il cs σ) (upd ag D (.lst [])) {s2 with heap:=af,toks:=s2.toks+0}:=by
  rw[<-kv];refine⟨⟨c5.ok.mod,r2,c5.ok.glob,c5.ok.blt,cq _,λx y c aB aD=>c5.ok.inj x y c (ky _ _ aB) (ky _ _ aD),λx av=>acK bb av,λx c z _=>bG (show false=true from z) fp,c5.ok.hd,c5.ok.frames,.inl rfl,
   λb de=>⟨λe=>?_,λx c e=>(f2 b de).2.2.2.2.1 x c (ky _ _ e)⟩,c5.bs,eQ c5.ok.qr c5.jh,λb o e de=>?_,ZP,c5.stack,c5.Ja⟩,rfl,c5.bare,h9.kept kept,⟨_,OW,λi x v aB aD cH=>?_⟩,λx c e=>?_,c5.bb.fresh (cq _),λx c e=>c5.mW x c (ky _ _ e),
   λp aO=>?_,c5.bb.kept kept,?_⟩
  .have l:=G7 b de;rw[show b=bU.objs.size from e,Ç]at l;exact qg _ (adJ l)
  .have l:=G7 b de;rcases(f2 b de).2.2.2.1 with z|z
   .exact bD.ok.wi b o e z
   .exact bG (kl (dG (bD.ok.bs b o e).1) z) (qg _)
  .obtain⟨j,a1,a2,hv,jn,BA⟩:=yF.get aB aD;obtain⟨m,aT,aj⟩:=c5.loc;obtain⟨u,ez,l⟩:=aj j x v a1 a2 (by rcases hv with z|z;exact .inr (.inl z);exact .inr (.inr z));refine⟨u,ez,.inr ⟨jn,?_⟩⟩;rcases l with⟨k,_⟩|⟨k,c,e,z⟩
   .rcases hv with q|q<;>(rw[k]at q;cases q)
   .obtain⟨o,a3,hd⟩:=z;exact⟨c,BA.trans e,o,kept c o a3,hd⟩
  .obtain⟨v,o,a3,hd⟩:=c5.cell x c (ky _ _ e);exact⟨v,o,kept c o a3,hd⟩
  .have OZ:p∈X.fg++pins:=by simpa[oE]using aO
   obtain⟨e,n,ne,gz,d⟩:=c5.pin p OZ;refine⟨kept _ _ e,n,eN (dG e),λz=>?_,d⟩;rcases c'.mp (c5.ER p.1 z)with q|q
   .exact ne q
   .exact gz q
  .show(il cs σ).length=N'.length;rw[il,bp];exact yF.len
 have ĭ:gZ 0 af:=T.keep 0 _ _ I_ λb de o e=>kept b o (old b o e);have wL:∀{H':ae},(∀b∈cp,H' b=none)->∀b∈cp,sM lE [] H' b:=λ{H'}aT b de=>by rw[<-kv];refine⟨aT b de,λe=>?_,ZP b de,.inl de,λx c e=>(f2 b de).2.2.2.2.1 x c (ky _ _ e),λp aO=>(f2 b de).2.2.2.2.2 p (by simpa[oE]using aO)⟩;have l:=G7 b de;rw[show b=bU.objs.size from e,Ç]at l;exact qg _ (adJ l)
 have NR:∀b∈cp,(upd ag D (.lst [])) b=none:=λb de=>by rw[aA (eN (G7 b de))];exact(f2 b de).1
 have zU:lE.A=X.A:=by rw[<-kv];rfl
 have JH:lE.env=compEnvC scope cl bU.objs.size X.env:=by rw[<-kv];rfl
 have JI:lE.d0=qh:=by rw[<-kv];rfl
 have loop:jX (a9 X.prog X.w) X.A (.compLoop (.ListComp elt [⟨dA,iter,ifs,0⟩] scope pos) 0 (.ref it) (.ref D) (compEnvC scope cl bU.objs.size X.env))
   (compPost (a9 X.prog X.w) X.A X.d0 use QQ (.ref D) bU.objs.size) {s2 with heap:=af,toks:=s2.toks+0}:=by
  refine aaW (λn s'=>∃i ys a4 H',Inv lE [] a4 H' s'/\gZ i s'.heap/\(∀b∈cp,H' b=none)/\W i n ys a4 H') ?_ m0 ⟨0,[],_,_,jU,ĭ,NR,w4⟩;rintro n s' ⟨i,ys,a4,H',ph,fT,ZQ,e5⟩;obtain⟨fe,aoR,j7⟩:=turn i n ys a4 H' e5;rcases j7 with⟨stop,q⟩|⟨go,step⟩
  .have hd:=T.done lE vu vv Zo (Zn.trans ay) i [] s' a4 H' qh ph (wL ZQ) fT stop;rw[zU]at hd;refine bF hd λr s4 aq=>?_;obtain⟨rfl,jy⟩:=aq;obtain⟨m,aT,_⟩:=id jy.loc;have tA:lE.env.locals=bU.objs.size:=by rw[JH];rfl
   have Hp:H' bU.objs.size=none:=by rw[<-tA];exact jy.free
   have tj:=jy.base;rw[<-kv]at tj;have aor:s4.os=s2.os:=by have z:=jy.os;rw[<-kv]at z;exact z
   have Λ:=jy.bb;rw[vu,vv]at Λ;have abx:Inv X pins σ H' s4:=c5.BH (s':=s4) (ch:=cp) aor ⟨tj.keep,tj.slot,tj.free,tj.there,tj.hM,tj.iT,tj.ji⟩ Λ jy.bare λb de=>by obtain⟨_,g1,_,g3,NS,NT⟩:=f2 b de;exact⟨g3,g1,NS,NT⟩
   exact post D bU.objs.size s4 H' m abx (by rw[tA]at aT;exact aT) (c5.rV (cq _) Hp) q
  .have hit:=T.item lE vu vv Zo (Zn.trans ay) i [] s' a4 H' qh ph (wL ZQ) fT go;rw[zU]at hit;refine bF hit λr s4 aq=>?_;obtain⟨u,rfl,cX⟩:=aq;refine bF cX λ_ s5 d3=>?_;obtain⟨x,bw,jy,wB,w_,wK,CG⟩:=d3;have KL:=jy.pinned (wL CG) (T.obj _ _ wK);have aK:=bP _ s5 a4 bw x u _ KL wB (step x bw w_);rw[zU,JH,JI,vu,vv]at aK;refine bF aK λ_ f7 ku=>?_;obtain⟨Fl,gh,rI,RN⟩:=ku;have df:=Θ _ f7 Fl gh _ rI RN;rw[zU,JH,JI,vu,vv]at df;refine bF df λok gm qH=>?_;obtain⟨e1,kk,nX⟩:=qH;have back:∀{jk:St}{dD:ae}{fh:aF}{Up:aZ}{cV:Nat},Inv lE ([]++E0 cp s5.heap) jk dD fh->cV<n->W (i+1) cV Up jk dD->
     ∃m,m<n/\∃i ys a4 H',Inv lE [] a4 H' fh/\gZ i fh.heap/\(∀b∈cp,H' b=none)/\W i m ys a4 H':=λ{jk dD fh Up cV}h7 hm E5=>by refine⟨cV,hm,i+1,Up,jk,dD,h7.Ju,T.keep _ _ _ wK λb de o e=>(h7.pin (b,o) (rK _ (rK _ (H7 de e)))).1,λb de=>?_,E5⟩;obtain⟨o,e,d⟩:=T.obj _ _ wK b de;exact(h7.pin (b,o) (rK _ (rK _ (H7 de e)))).2.1
   cases ok with
   |false=>
    rw[bE fp]at nX⊢;obtain⟨cV,hm,TQ⟩:=nX;exact back kk hm TQ
   |true=>
    rw[bM rfl]at nX⊢;have Β:=he _ gm Fl e1 _ kk nX;rw[zU,JH,JI,vu,vv]at Β;refine bF Β λasz fh kV=>?_;obtain⟨y,dD,h7,Ec,anw,cV,hm,E5⟩:=kV;have ι:=nB (X:=lE) _ fh Fl dD (.ref D) [y] (.ref D) [asz] (λ_ mF=>mF=upd dD D (.lst (ys++[y]))) h7 rfl (.cons Ec .nil) ⟨D,ys,y,rfl,rfl,anw,aoR,rfl⟩;rw[zU,JI,vu,vv]at ι;refine bF ι λ_ jv oz=>?_;obtain⟨_,mF,kJ,_,rfl⟩:=oz;exact back kJ hm E5
 exact codeAny_compStart_list loop (T.self _ 0 _ _ _ ĭ loop)
theorem uB(ay:X.calm=true)(ar:oe X dA iter dh)(CV:Zh scope X.env=pure cl)(tK:∀y∈scope.names,y.2≠.cell)(r2:scope.kind=.function)(C2:∀y∈scope.names,y.2=.local->scope.names.lookup y.1=some .local)(ky:∀x c,cl.lookup x=some c->X.env.cells.lookup x=some c)(bb:Gb cl (IZ scope X.env).names=true)(yF:o2 X scope cl N' cs)(U:∀(C:Addr)(s3:aF)(a_:ae)(cp:bS)(fg:cy),qi (oE X N' scope cl C s3 a_ cp fg) dA g/\AY (oE X N' scope cl C s3 a_ cp fg) ifs tt/\bl (oE X N' scope cl C s3 a_ cp fg) elt b3)(hs:∀x,NQ iter X.env x=pure x:=by intro _;rfl):bl X (.ListComp elt [⟨dA,iter,ifs,0⟩] scope pos) (n1 dh cs g tt b3):=by
 intro pins s σ H Q I h;rw[eval_ListComp];refine W2 ay ar CV tK r2 C2 ky bb yF U hs I h λD C s4 H' m jU aT NM q=>⟨m,aT,λh' r6=>⟨.ref D,H',?_,rfl,q⟩⟩
 obtain⟨f0,f1,f2,cz,f4,fx⟩:=NM;exact jU.turned (t':=s4.toks) (λb o U e=>(r6.2 b U).trans e) f0 f1 cz f4 fx
theorem tQ{i:Nat}{y:Str}{py Ğ:Pos}(eJ:X.N.Nodup)(aod:X.N[i]?=some y)(Ρ:X.env.scope.names.lookup y=some .local)(aoG:wN (.ListComp elt [⟨dA,iter,ifs,0⟩] scope pos) (some (.Name y py)) Ğ.line X.env=pure true)(ay:X.calm=true)(ar:oe X dA iter dh)(CV:Zh scope X.env=pure cl)(tK:∀y∈scope.names,y.2≠.cell)(r2:scope.kind=.function)(C2:∀y∈scope.names,y.2=.local->scope.names.lookup y.1=some .local)(ky:∀x c,cl.lookup x=some c->X.env.cells.lookup x=some c)(bb:Gb cl (IZ scope X.env).names=true)(yF:o2 X scope cl N' cs)(U:∀(C:Addr)(s3:aF)(a_:ae)(cp:bS)(fg:cy),qi (oE X N' scope cl C s3 a_ cp fg) dA g/\AY (oE X N' scope cl C s3 a_ cp fg) ifs tt/\bl (oE X N' scope cl C s3 a_ cp fg) elt b3)(hs:∀x,NQ iter X.env x=pure x:=by intro _;rfl):fW X (.Assign [.Name y py] (.ListComp elt [⟨dA,iter,ifs,0⟩] scope pos) Ğ) (rv (n1 dh cs g tt b3) (hX i)):=by
 intro pins s σ H D0 I h;rw[exec_Assign_Name_used _ _ _ _ aoG];refine ax (Fe (ax ?_));show aQ _ X.A (do let _ <-comprehension (.ListComp elt [⟨dA,iter,ifs,0⟩] scope pos) scope X.env _ (newList []) false (eval iter X.env) (some (yk (.Name y py) X.env))) _ _ s;refine ax (gn (W2 (use:=some (yk (.Name y py) X.env)) (QQ:=λ_ s'=>pC X pins D0 .next s') ay ar CV tK r2 C2 ky bb yF U hs I h ?_) (λ_ s' aU=>bj (bj aU)) λ_ _ e=>e);intro D C s4 H' m jU aT NM q;obtain⟨f0,f1,f2,cz,f4,fx⟩:=NM;refine ar2 (Ŕ jU eJ aod (.inl Ρ) (v:=.ref D) rfl (λf7 rI⟨a,b',aK⟩=>?_) (.inr Ρ));have anu:C≠a:=by
  rcases aK with rfl|aK
  .exact f1
  .exactλe=>f4 _ _ aK e.symm
 refine⟨m,aT.sameBut b' anu,λh' r6=>⟨_,H',?_,q⟩⟩;exact rI.turned (t':=f7.toks) (λb o U e=>(r6.2 b U).trans e) f0 f1 cz f4 fx
noncomputable def oi(J:f9)(H1:ae)(xs:aZ):Prop:=∀H',aN H1 H'->J.stop xs.length H'/\(∀i,i<xs.length->J.go i H')/\∀i x ag,i<xs.length->J.n4 i H' x ag->ag=H'/\xs[i]?=some x
end
theorem tZ{K:aV}{a:Addr}{xs:aZ}{H1:ae}(h:aJ K H1 a xs):oi (mI K a) H1 xs:=λH' aH=>
 ⟨⟨xs,aH.seq h,cq _⟩,λi ar=>⟨xs,xs[i],aH.seq h,by simp[ar]⟩,λi x ag _ y=>⟨y.1,y.2 xs (aH.seq h)⟩⟩
theorem IS{H1:ae}(lo:Int)(n:Nat):oi (n9 lo n) H1 ((ek n).map λi:Nat=>V.int (lo+i)):=λH' _=>
 ⟨by show n<=_;simp,λi ar=>(by simpa using ar:i<n),λi x ag ar y=>by
  obtain⟨aB,aD⟩:=y;have aob:i<n:=by simpa using ar
  refine⟨aB,?_⟩;rw[aD];simp[aob]⟩
theorem atH{J:f9}{xs:aZ}{g:jB}{dc:e8}{D:Ends}{σ:St}{H:ae}(Pv:Nat->St->ae->Prop)(dN:oi J H xs)(h0:Pv 0 σ H)(hm:∀i a4 H',Pv i a4 H'->aN H H')(hs:∀i x a4 H',xs[i]?=some x->Pv i a4 H'->g x a4 H' λeB ag=>dc {D with cj:=Pv (i+1),e':=Pv (i+1),gv:=D.cj} eB ag)(hd:∀a4 H',Pv xs.length a4 H'->D.cj a4 H'):
  ∃W:Nat->Nat->St->ae->Prop,(∃m,W 0 m σ H)/\∀i m σ H,W i m σ H->
   (J.stop i H/\D.cj σ H)\/(J.go i H/\∃N:St->ae->Prop,(∀a4 H',N a4 H'->∃cV,cV<m/\W (i+1) cV a4 H')/\∀x H',J.n4 i H x H'->g x σ H' λeB ag=>dc {D with cj:=N,e':=N,gv:=D.cj} eB ag):=by
 refine⟨λi m a4 H'=>m=xs.length-i/\i<=xs.length/\Pv i a4 H',⟨xs.length,by simp,e_ _,h0⟩,?_⟩;rintro i m a4 H' ⟨rfl,ar,p⟩;obtain⟨fo,fU,hN⟩:=dN H' (hm i a4 H' p);by_cases cP:i<xs.length
 .refine .inr ⟨fU i cP,Pv (i+1),λeB ag hL=>⟨xs.length-(i+1),by omega,rfl,cP,hL⟩,λx ag y=>?_⟩;obtain⟨rfl,ex⟩:=hN i x ag cP y;exact hs i x a4 _ ex p
 .have e:i=xs.length:=by omega
  subst e;exact .inl ⟨fo,hd a4 H' p⟩
theorem KX{J:f9}{xs:aZ}{cs:lD}{σ rest:St}{tt:TT}{b3:TE}{Q:ba}{H1:ae}(ij:il cs σ=none::rest)(dN:oi J H1 xs)(aj:xs.length<sizeLine)(p:V->Bool)(f:V->V)(test:∀(i:Nat)(x:V)(ag:ae)(R:Bool->ae->Prop),xs[i]?=some x->aN H1 ag->(∀bw,aN ag bw->R (p x) bw)->tt (some x::rest) ag R)(elt:∀(i:Nat)(x:V)(ag:ae)(R:ba),xs[i]?=some x->p x=true->aN H1 ag->(∀bw,aN ag bw->R (f x) bw)->b3 (some x::rest) ag R)(fin:∀(D:Addr)(H':ae),H1 D=none->H' D=some (.lst ((xs.filter p).map f))->aN H1 H'->Q (.ref D) H'):
  ∀D,H1 D=none->∃W:Nat->Nat->List V->St->ae->Prop,(∃m,W 0 m [] (il cs σ) (upd H1 D (.lst [])))/\∀i m ys a4 H',W i m ys a4 H'->H' D=some (.lst ys)/\ys.length<sizeLine/\
   ((J.stop i H'/\Q (.ref D) H')\/(J.go i H'/\∀x ag,J.n4 i H' x ag->hX 0 x a4 ag λg4 a_=>tt g4 a_ λb dP=>
    if b=true then b3 g4 dP λy bw=>bw D=some (.lst ys)/\∃cV,cV<m/\W (i+1) cV (ys++[y]) g4 (upd bw D (.lst (ys++[y])))
    else∃cV,cV<m/\W (i+1) cV ys g4 dP)):=by
 intro D bR;refine⟨λi m ys a4 H'=>m=xs.length-i/\i<=xs.length/\ys=((xs.take i).filter p).map f/\(∃o,a4=o::rest)/\aN H1 H'/\H' D=some (.lst ys),⟨xs.length,by simp,e_ _,by simp,⟨none,ij⟩,λb o e=>?_,aP⟩,?_⟩
 .rw[aA (bZ e bR)];exact e
 .rintro i m ys a4 H' ⟨rfl,ar,rfl,⟨o,rfl⟩,aH,fe⟩;obtain⟨fo,fU,hN⟩:=dN H' aH;refine⟨fe,od ?_ aj,?_⟩
  .rw[bp];refine eQ (jl _ _) ?_;rw[mK];exact Xz _ _
  by_cases cP:i<xs.length
  .refine .inr ⟨fU i cP,λx ag y=>?_⟩;obtain⟨rfl,ex⟩:=hN i x ag cP y;show tt (some x::rest) ag _;refine test i x ag _ ex aH λdP s4=>?_;have a5:xs.take (i+1)=xs.take i++[x]:=by rw[pk,ex];rfl
   cases aO:p x with
   |true=>
    refine h3 ?_;refine elt i x dP _ ex aO (aH.trans s4) λbw s5=>⟨s5 _ _ (s4 _ _ fe),xs.length-(i+1),by omega,rfl,cP,?_,⟨_,rfl⟩,λb ob e=>?_,aP⟩
    .rw[a5,nq,eU];simp[aO]
    .rw[aA (bZ e bR)];exact s5 _ _ (s4 _ _ (aH _ _ e))
   |false=>
    refine gx ⟨xs.length-(i+1),by omega,rfl,cP,?_,⟨_,rfl⟩,aH.trans s4,s4 _ _ fe⟩;rw[a5,nq,eU];simp[aO]
  .have e:i=xs.length:=by omega
   subst e;exact .inl ⟨fo,fin D H' bR (by rw[fe,pn]) aH⟩
theorem ag0{J:f9}{xs:aZ}{cs:lD}{σ rest:St}{b3:TE}{Q:ba}{H1:ae}(ij:il cs σ=none::rest)(dN:oi J H1 xs)(aj:xs.length<sizeLine)(f:V->V)(elt:∀(i:Nat)(x:V)(ag:ae)(R:ba),xs[i]?=some x->aN H1 ag->(∀bw,aN ag bw->R (f x) bw)->b3 (some x::rest) ag R)(fin:∀(D:Addr)(H':ae),H1 D=none->H' D=some (.lst (xs.map f))->aN H1 H'->Q (.ref D) H'):
  ∀D,H1 D=none->∃W:Nat->Nat->List V->St->ae->Prop,(∃m,W 0 m [] (il cs σ) (upd H1 D (.lst [])))/\∀i m ys a4 H',W i m ys a4 H'->H' D=some (.lst ys)/\ys.length<sizeLine/\
   ((J.stop i H'/\Q (.ref D) H')\/(J.go i H'/\∀x ag,J.n4 i H' x ag->hX 0 x a4 ag λg4 a_=>sN g4 a_ λb dP=>
    if b=true then b3 g4 dP λy bw=>bw D=some (.lst ys)/\∃cV,cV<m/\W (i+1) cV (ys++[y]) g4 (upd bw D (.lst (ys++[y])))
    else∃cV,cV<m/\W (i+1) cV ys g4 dP)):=
 KX ij dN aj (λ_=>true) f (λi x ag R _ _ h=>h ag (aN.refl _)) (λi x ag R ex _ aH h=>elt i x ag R ex aH h) λD H' af ai bU=>fin D H' af (by rw[ai,KZ.mpr λ_ _=>rfl]) bU
noncomputable def signs(x:Str):List V:=x.cps.toList.map λc=>V.str ⟨#[c]⟩
noncomputable def FT(x:Str):f9:=⟨λi _=>i<x.cps.size,λi H v H'=>H'=H/\∃c,x.cps[i]?=some c/\v=.str ⟨#[c]⟩,λi _=>i=x.cps.size⟩
theorem ag1{H1:ae}(x:Str):oi (FT x) H1 (signs x):=λH' _=>by
 have aj:(signs x).length=x.cps.size:=by simp[signs]
 refine⟨aj,λi ar=>by rw[aj]at ar;exact ar,λi v ag ar y=>?_⟩;obtain⟨aB,c,aD,cH⟩:=y;refine⟨aB,?_⟩;subst cH;have e3:x.cps.toList[i]?=some c:=by simpa using aD
 simp[signs,e3]
theorem acL{P:bO}{w:bx}{K:aV}{dA:Expr}(it:Addr)(x:Str)(t:Tok){ty:String}(vV:ty="str_ascii_iterator"\/ty="str_iterator"):Turn P w K dA (FT x) [it] it (λi h=>h.IsStrIter it ty x t i)where
 mem:=by simp
 obj:=λi h st b U=>by
  have e:b=it:=by simpa using U
  subst e;obtain⟨o,e,c,d⟩:=st;exact⟨o,e,λv z=>by rw[d]at z;cases z⟩
 keep:=λi h h' st k=>by obtain⟨o,e,r⟩:=st;exact⟨o,k it (by simp) o e,r⟩
 item:=by
  intro X gy hw gd ay i pins s σ H E I hf st bP;subst gy hw gd;obtain⟨f0,f1,f2,cz,f4,fx⟩:=hf it (by simp);have ar:i<x.cps.size:=bP;have ic:x.cps[i]?=some x.cps[i]:=by simp[ar]
  rcases vV with rfl|rfl
  .refine wpAny_pyNext_ascii_item st ic λh' fT b'=>?_;have aR:Inv X pins σ H {s with heap:=h',toks:=s.toks+1}:=I.turned (λb o U e=>(b'.2 b U).trans e) f0 f1 cz f4 fx;obtain⟨o,e,c,d⟩:=id fT;exact⟨_,rfl,zV (s:={s with heap:=h',toks:=s.toks+1}) e c d (by decide) ⟨.str ⟨#[x.cps[i]]⟩,H,aR,⟨_,rfl⟩,⟨rfl,_,ic,rfl⟩,fT,λb U=>(hf b U).1⟩⟩
  .refine wpAny_pyNext_wide_item st ic λh' fT b'=>?_;have aR:Inv X pins σ H {s with heap:=h',toks:=s.toks+1}:=I.turned (λb o U e=>(b'.2 b U).trans e) f0 f1 cz f4 fx;obtain⟨o,e,c,d⟩:=id fT;exact⟨_,rfl,zV (s:={s with heap:=h',toks:=s.toks+1}) e c d (by decide) ⟨.str ⟨#[x.cps[i]]⟩,H,aR,⟨_,rfl⟩,⟨rfl,_,ic,rfl⟩,fT,λb U=>(hf b U).1⟩⟩
 done:=by
  intro X gy hw gd ay i pins s σ H E I hf st bP;subst gy hw gd;obtain⟨f0,f1,f2,cz,f4,fx⟩:=hf it (by simp);have ic:x.cps[i]?=none:=by have e:i=x.cps.size:=bP;simp[e]
  rcases vV with rfl|rfl
  .exact wpAny_pyNext_ascii_end (I.ok.hd ay) st ic λh' ef=>⟨rfl,I.turned (t':=s.toks) (λb o U e=>ef b o U e) f0 f1 cz f4 fx⟩
  .exact wpAny_pyNext_wide_end (I.ok.hd ay) st ic λh' ef=>⟨rfl,I.turned (t':=s.toks) (λb o U e=>ef b o U e) f0 f1 cz f4 fx⟩
 self:=λ_ _ _ _ _ st h=>by
  rcases vV with rfl|rfl
  .exact wpAny_pyIter_striter_ascii st h
  .exact wpAny_pyIter_striter_wide st h
section
variable{X:bg}{dA:Expr}
noncomputable def ajy(du:TE):TI:=λσ H R=>du σ H λx H1=>∃z,x=.str z/\R (FT z) H1
theorem ag2{l:Expr}{du:TE}(aj:bl X l du):oe X dA l (ajy du):=by
 intro pins s σ H R I h;refine bF (aj pins s σ H _ I h) λv s1⟨x,H1,aR,ck,bQ⟩=>?_;obtain⟨z,e,q⟩:=bQ;subst e;obtain⟨t,rfl⟩:=ck;have fin:∀(ty:String)(_:ty="str_ascii_iterator"\/ty="str_iterator"),Lp X pins σ dA R (.ref s1.heap.objs.size) {s1 with heap:=s1.heap.push {cls:=.type ty,data:=.fields #[.str z t,.int 0 0]}}:=λty vV=>by
  refine⟨s1.heap.objs.size,[s1.heap.objs.size],_,_,H1,rfl,aR.kept (t':=s1.toks) λb o e=>dM _ e,acL _ z t vV,⟨_,gq _ rfl,rfl,rfl⟩,λb U=>?_,q⟩;have e:b=s1.heap.objs.size:=by simpa using U
  subst e;exact aR.rV (cq _) (aR.bb.fresh (cq _))
 cases aK:z.cps.all (·<128)with
 |true=>exact wpAny_pyIter_ascii aK (fin _ (.inl rfl))
 |false=>exact wpAny_pyIter_wide aK (fin _ (.inr rfl))
end
section
variable{X:bg}{e:Expr}{b3:TE}{lo ar:Option Expr}{du oZ:va}{pos gX:Pos}
theorem ŭ:gL X (jF .LtE) (λx y H Q=>∃i j,x=.str i/\y=.str j/\Q (.aM (!decide (j.cps.toList<i.cps.toList))) H):=by intro pins s σ H x y v u Q I bC bJ h;obtain⟨i,j,rfl,rfl,q⟩:=h;obtain⟨t,rfl⟩:=bC;obtain⟨t',rfl⟩:=bJ;exact PySem.P.le_str (gu I q rfl)
theorem Xg(c a:Nat):(!decide ((⟨#[c]⟩:Str).cps.toList<(⟨#[a]⟩:Str).cps.toList))=decide (a<=c):=by
 have h:((⟨#[c]⟩:Str).cps.toList<(⟨#[a]⟩:Str).cps.toList)↔c<a:=by show([c]:dI) < [a]↔c<a;simp[List.cons_lt_cons_iff]
 by_cases q:c<a
 .rw[cu (h.mpr q),dJ (by omega)];rfl
 .rw[dJ λz=>q (h.mp z),cu (by omega)];rfl
theorem Tv(ay:X.calm=true):j8 X (.builtin "all") (λxs H Q=>∃(p:Addr)(bs:List Bool),xs=[.ref p]/\aJ X.K H p (bs.map V.aM)/\Q (.aM (bs.all id)) H):=by
 intro pins s σ H xs us Q I r h;obtain⟨p,bs,rfl,aU,q⟩:=h;obtain⟨u,rfl,ez⟩:=vals1 r;cases ez;obtain⟨its,cg,pl,hz⟩:=I.list aU;have hlen:bs.length=its.length:=by have:=cg.length;rwa [bp]at this
 obtain⟨o,n,NF,_⟩:=id pl;have h2:p≠s.heap.objs.size:=eN (dG NF);have dm:X.A.in1.handled=none:=I.ok.hd ay;refine call_all_walk (zR pl.isList ?_);refine⟨s.heap.objs.size,[s.heap.objs.size,p],[s.heap.objs.size],its.toArray.size,_,_,λi=>bs.getD i false,rfl,Bz dm _ p h2 its.toArray,⟨⟨_,gq _ rfl,rfl,rfl⟩,pl.isList.push _⟩,?_,λh' a5 k=>?_⟩
 .intro i v s' mP as2 gy ff;have Z_:its[i]?=some v:=by simpa using gy
  have ar:i<its.length:=(eM.mp Z_).1;have U:(bs.map V.aM)[i]?=some (V.aM (bs.getD i false)):=by rw[c9,dv (by omega:i<bs.length)];simp[eL,hlen▸ar]
  obtain⟨u',cm,cw⟩:=cg.get U;rw[Z_]at cm;cases cm;cases cw;exact o' ff
 .have e:(ek its.toArray.size).all (λi=>bs.getD i false)=bs.all id:=by
   rw[g7,<-hlen,z_];simp only[FW,lz];constructor
   .intro a b U;obtain⟨i,ar,rfl⟩:=K5.mp U;have:=a i ar;simpa[eL,ar]using this
   .intro a i ar;have:=a bs[i] (qf ar);simpa[eL,ar]using this
  rw[e];exact⟨.aM (bs.all id),H,I.kept λb ob z=>k b ob (by simpa using eN (dG z)) (dM _ z),rfl,q⟩
inductive ajz(K:aV)(xs:aZ)(H:ae)(Q:ba):Prop where
 |mk (x c:V) (Nn:String) (t:Value) (b:Bool) (bV:xs=[x,c]) (bA:c=.ty Nn/\m9 K H x t/\h8 K t (.type Nn)=some b) (cn:Q (.aM b) H)
theorem mf:j8 X (.builtin "isinstance") (ajz X.K):=by intro pins s σ H xs us Q I r h;obtain⟨x,c,Nn,t,b,rfl,⟨rfl,ty,e⟩,q⟩:=h;obtain⟨u,e5,rfl,ez,gY⟩:=vals2 r;cases gY;exact ab5 I ez ty e λa5=>⟨.aM b,H,I.tok a5,rfl,q⟩
mutual
inductive mE(K:aV)(H:ae):V->PyData->Prop
 |bq:mE K H .bq .none
 |aM (b:Bool):mE K H (.aM b) (.bool b)
 |int (i:Int):mE K H (.int i) (.int i)
 |str (x:Str):mE K H (.str x) (.str x)
 |lst {a:Addr} {xs:aZ} {ds:fY}:aJ K H a xs->pf K H xs ds->mE K H (.ref a) (.list ds)
 |tup {a:Addr} {xs:aZ} {ds:fY}:cN K H a xs->pf K H xs ds->mE K H (.ref a) (.tuple ds)
inductive pf(K:aV)(H:ae):List V->List PyData->Prop
 |nil:pf K H [] []
 |cons {v:V} {d:PyData} {vs:aZ} {ds:fY}:mE K H v d->pf K H vs ds->pf K H (v::vs) (d::ds)
end
end
section
variable{X:bg}{pins:cy}{σ:St}{H:ae}{s:aF}
mutual
theorem vZ(I:Inv X pins σ H s):∀{v:V}{d:PyData}{u:Value},mE X.K H v d->RelV v u->∃as,Reads s.heap u d as
 |_,_,_,.bq,r=>by cases r;exact⟨_,.none⟩
 |_,_,_,.aM b,r=>by cases r;exact⟨_,.bool b⟩
 |_,_,_,.int i,r=>by obtain⟨t,rfl⟩:=r;exact⟨_,.int i t⟩
 |_,_,_,.str x,r=>by obtain⟨t,rfl⟩:=r;exact⟨_,.str x t⟩
 |_,_,_,.lst h ds,r=>by cases r;obtain⟨its,cg,⟨o,n,e,c,_,d⟩,_⟩:=I.list h;obtain⟨as,q⟩:=Sf I ds cg;exact⟨_,.list e c d (by simpa using q)⟩
 |_,_,_,.tup h ds,r=>by cases r;obtain⟨its,cg,⟨o,e,c,n,d⟩,_⟩:=I.tuple h;obtain⟨as,q⟩:=Sf I ds cg;exact⟨_,.tuple e c d (by simpa using q)⟩
theorem Sf(I:Inv X pins σ H s):∀{vs:aZ}{ds:fY}{us:cC},pf X.K H vs ds->cO vs us->∃as,ReadsAll s.heap us ds as
 |_,_,_,.nil,.nil=>⟨_,.nil⟩
 |_,_,_,.cons a b,.cons r t=>by obtain⟨as,q⟩:=vZ I a r;obtain⟨bs,fR⟩:=Sf I b t;exact⟨_,.cons q fR⟩
end
end
section
variable{X:bg}
inductive aiz(K:aV)(neg:Bool)(x:ao.V)(y:ao.V)(H:ae)(Q:ba):Prop where
 |mk (d:_) (e:_) (bV:mE K H x d) (bA:mE K H y e) (cn:qn d=true) (di:qn e=true) (d8:Q (.aM (if neg then !ht d e else ht d e)) H)
noncomputable def LM(K:aV)(neg:Bool):hu:=λx y H Q=>aiz K neg x y H Q
theorem zw(b7:X.A.units+64<cLine):gL X (jF .Eq) (LM X.K false):=by intro pins s σ H x y v u Q I bC bJ h;obtain⟨d,e,hd,he,dR,dk,q⟩:=h;obtain⟨as,gI⟩:=vZ I hd bC;obtain⟨bs,nY⟩:=vZ I he bJ;exact eq_dataH gI nY dR dk b7 ⟨.aM _,H,I,rfl,q⟩
theorem zG(b7:X.A.units+64<cLine):gL X (jF .NotEq) (LM X.K true):=by intro pins s σ H x y v u Q I bC bJ h;obtain⟨d,e,hd,he,dR,dk,q⟩:=h;obtain⟨as,gI⟩:=vZ I hd bC;obtain⟨bs,nY⟩:=vZ I he bJ;exact ne_dataH gI nY dR dk b7 ⟨.aM _,H,I,rfl,q⟩
mutual
theorem yZ:∀d:PyData,d.canLay0=true->ht d d=true
 |.none,_=>rfl
 |.bool b,_=>by simp[ht]
 |.int i,_=>by simp[ht]
 |.str x,_=>by simp[ht]
 |.list xs,h=>by simp only[ht];exact Rm xs h
 |.tuple xs,h=>by simp only[ht];exact Rm xs h
 |.dict _,h=>by cases h
theorem Rm:∀ds:List PyData,qj ds=true->PyData.eqvAll ds ds=true
 |[],_=>rfl
 |d::r,h=>by simp only[qj,jx]at h;simp only[PyData.eqvAll,yZ d h.1,Rm r h.2,Bool.and_self]
end
noncomputable def rx(val:Nat->Str):Nat->Str->Bool
 |0=>λ_=>false
 |i+1=>λk=>rx val i k||decide (k=val i)
noncomputable def n0(val:Nat->Str):Nat->Nat
 |0=>0
 |i+1=>if rx val i (val i)then n0 val i else n0 val i+1
theorem V7(val:Nat->Str):∀i,n0 val i<=i
 |0=>cq _
 |i+1=>by have:=V7 val i;unfold n0;split<;>omega
theorem Vd(val:Nat->Str)(k:Str):∀i,rx val i k=true↔∃j,j<i/\val j=k
 |0=>by simp[rx]
 |i+1=>by
  simp only[rx,Bool.or_eq_true,Vd val k i,decide_eq_true_eq];constructor
  .rintro(⟨j,bL,e⟩|e)
   .exact⟨j,by omega,e⟩
   .exact⟨i,by omega,e.symm⟩
  .rintro⟨j,bL,e⟩;by_cases h:j=i
   .subst h;exact .inr e.symm
   .exact .inl ⟨j,by omega,e⟩
theorem Vh(val:Nat->Str):∀n,(∀i j,i<j->j<n->val i≠val j)->n0 val n=n
 |0,_=>rfl
 |n+1,h=>by
  have a6:=Vh val n λi j a b=>h i j a (by omega);have hm:¬rx val n (val n)=true:=λz=>by obtain⟨j,bL,e⟩:=(Vd val (val n) n).mp z;exact h j n bL (by omega) e
  unfold n0;rw[bE hm,a6]
theorem Í(x:Str)(t:Tok):LS x (.str x t)=true:=by simp[LS]
theorem aca{prog:bO}{w:bx}{A:c0}{R:nu->aF->Prop}{I:Addr}{cp wr:bS}{n:Nat}{Pv:Nat->Value->Prop}{Bv:Nat->Heap->Prop}(W:te prog w A.in1 I cp wr n Pv Bv)(S:Addr)(ε:S∉cp)(val:Nat->Str)(C9:∀i v,Pv i v->∃t,v=.str (val i) t)(U:n+1<scanBound):∀(k i:Nat)(s:aF),n-i=k->i<=n->Bv i s.heap->s.heap.SetOf (strKind prog w) S (rx val i) (n0 val i)->
   (∀h' a5,(∀b o,b≠S->b∉wr->s.heap.get? b=some o->h'.get? b=some o)->h'.SetOf (strKind prog w) S (rx val n) (n0 val n)->R (.ok (.ret .none)) {s with heap:=h',toks:=a5})->
   jX (a9 prog w) A (.builtin "set.update.loop" ⟨[.ref S,.ref I],[]⟩) R s:=by
 have ζ:S∉wr:=λz=>ε (W.sub _ z);have stays:∀{h h':Heap}{Gi:Str->Bool}{m:Nat},(∀o,h.get? S=some o->h'.get? S=some o)->h.SetOf (strKind prog w) S Gi m->h'.SetOf (strKind prog w) S Gi m:=λbY⟨o,es,ep,t,a3,r⟩=>⟨o,es,ep,t,bY o a3,r⟩
 intro k
 induction k with
 |zero=>
  intro i s aX ar st fO cU;obtain rfl:i=n:=by omega
  refine mU aer ?_;rw[n7 XX _];show aQ _ A.in1 (ip (.ref I) >>=_) _ _ s;refine ax (W.done s _ _ st λh' a5 bY=>?_);show aQ _ A.in1 (ret fZ) _ _ _;exact bj (cU h' a5 (λb o _ U e=>bY b o U e) (stays (λo e=>bY S o ζ e) fO))
 |succ k a6=>
  intro i s aX ar st fO cU;have cP:i<n:=by omega
  refine mU aer ?_;rw[n7 XX _];show aQ _ A.in1 (ip (.ref I) >>=_) _ _ s;refine ax (W.item i s _ _ cP st λv af a5 gy Sw bY=>?_);obtain⟨t,rfl⟩:=C9 i v gy;have qJ:=stays (λo e=>bY S o ζ e) fO;show aQ _ A.in1 (mm [ve (val i) t] (setAdd S (.str (val i) t)) >>=_) _ _ _;refine ax (iL ?_);unfold setAdd;refine iL (ax ((strKind prog w).pyHash (k:=val i) (Í (val i) t) ?_));have aoB:n0 val i+1<scanBound:=by have:=V7 val i;omega
  refine wpAny_setAddHashed_of (knd:=strKind prog w) (Í (val i) t) rfl qJ aoB λai b' N9=>?_;refine bj ⟨m7 XX _,a6 (i+1) _ (by omega) cP (W.frame _ _ _ Sw λb de o e=>(b'.2 b λz=>ε (z▸de)).trans e) N9 λbU S1 Qh yE=>?_⟩;exact cU bU S1 (λb o jr h1 e=>Qh b o jr h1 ((b'.2 b jr).trans (bY b o h1 e))) yE
set_option maxHeartbeats 8000000 in
theorem asI{prog:bO}{w:bx}{A:c0}{E:cD}{s:aF}{l:Addr}{items:kn}{val:Nat->Str}{Q:cD}(dm:A.handled=none)(aj:s.heap.IsList l items)(C9:∀(i:Nat)(v:Value),items[i]?=some v->∃t,v=.str (val i) t)(U:items.size+1<scanBound)(h:∀(h':Heap)(a5:Nat),h'.SetOf (strKind prog w) s.heap.objs.size (rx val items.size) (n0 val items.size)->(∀b o,s.heap.get? b=some o->h'.get? b=some o)->Q (.ref s.heap.objs.size) {s with heap:=h',toks:=a5}):
  aQ (a9 prog w) A (call (.type "set") [.ref l]) Q E s:=by
 obtain⟨c,du,at3⟩:=F.called_set.mro;have gW:=F.called_set.made;have la:=F.called_set.sub;have H3:=F.called_set.notType;have H4:=F.called_set.canCreate;have H5:=F.typeCall_set_1 (.ref l);refine p' (alL ?_);show aQ _ _ (callAny (.type "set") _) _ _ _;refine bj ⟨J_ _ (by decide+kernel),mU F.entry_type_call ?_⟩;rw[Around.under_plain (weight_type_call_type "set" [.ref l] []) rfl]
 repeat (any_goals (first|assumption|wp_step))
 generalize CQ:s.heap.objs.size=S at *;refine rR (code_set_new_1 (.ref l) (E:=E) (Q₁:=λob s1=>∃led:Bool,ob=.ref S/\s1={s with heap:=s.heap.push {cls:=.type "set",dict:=none,data:=.set #[] 0 (.fresh 0 0 led)}}) λled=>⟨led,by rw[CQ],rfl⟩) λr s1 aq=>?_;cases r with
 |error e=>exact aq
 |ok fl=>
  cases fl with
  |ret ob=>
   obtain⟨led,rfl,rfl⟩:=aq;have vR:(s.heap.push {cls:=.type "set",dict:=none,data:=.set #[] 0 (.fresh 0 0 led)}).get? S=some {cls:=.type "set",dict:=none,data:=.set #[] 0 (.fresh 0 0 led)}:=by rw[<-CQ];exact gq _ rfl
   have j4:Bu {s with heap:=s.heap.push {cls:=.type "set",dict:=none,data:=.set #[] 0 (.fresh 0 0 led)}} (.ref S) "set":=⟨_,vR,rfl⟩
   have dp:=F.called_set.init.lookup;have dq:=F.called_set.init.bind (.ref S)
   repeat (any_goals (first|assumption|wp_step))
   refine rR (vq (R:=wants (λr s2=>r=.none/\∃h' a5,s2={s with heap:=h',toks:=a5}/\h'.SetOf (strKind prog w) S (rx val items.size) (n0 val items.size)/\(∀b o,s.heap.get? b=some o->h'.get? b=some o)) E)
    F.called_set.init.plain F.entry_set_init (check_set_init_1 j4 ?_)) λdZ s2 yO=>?_
   .obtain⟨⟨mu,ea,aqp,oS⟩,m1,vP,nl,yG⟩:=id aj;simp only at vP yG;subst vP yG;have at5:=dM (h:=s.heap) {cls:=.type "set",dict:=none,data:=.set #[] 0 (.fresh 0 0 led)} m1;have d6:=F.sub_list_set;have gX:=F.sub_list_frozenset;have uj:(td "list"==td "dict")=false:=by decide
    have j6:=aj.push (o:={cls:=.type "set",dict:=none,data:=.set #[] 0 (.fresh 0 0 led)});unfold Builtin.«set.__init__» noKeywords asT;generalize anE:zm=oe
    wp_walk
    subst anE;refine zR j6 (ax (wpAny_runValue ?_));have Ν:l<S:=by rw[<-CQ];exact dG m1
    have hsz:(s.heap.push {cls:=.type "set",dict:=none,data:=.set #[] 0 (.fresh 0 0 led)}).objs.size=S+1:=by rw[xN,CQ]
    refine aca (Bz (A:=A.in1.in1.in1) (by simp[dm]) _ l (by rw[hsz];exact eN (K_ Ν)) items) S ?_ val C9 U (items.size-0) 0 _ (by omega) (e_ _) ⟨⟨_,gq _ rfl,rfl,rfl⟩,j6.push _⟩ ?_ ?_
    .rw[hsz];simp only[c',dX,or_false,not_or];exact⟨eN (F4 _),x9 Ν⟩
    .have OG:=dM (h:=s.heap.push {cls:=.type "set",dict:=none,data:=.set #[] 0 (.fresh 0 0 led)}) {cls:=.type "list_iterator",data:=.fields #[.ref l,.int 0 0]} vR;exact(as9 (knd:=strKind prog w) led).setOf OG (by unfold scanBound;omega)
    .intro h' a5 bY CP;show aQ _ _ _ _ _ _;refine bj ?_;show aQ _ _ (ret fZ) _ _ _;refine bj ⟨rfl,h',a5,rfl,CP,λb o e=>?_⟩;have ig:b<S:=by rw[<-CQ];exact dG e
     exact bY b o (eN ig) (λz=>eN (K_ ig) (by rw[hsz]at z;simpa using z)) (dM _ (dM _ e))
   .cases dZ with
    |error e=>exact yO
    |ok ane=>
     cases ane with
     |ret r=>
      obtain⟨rfl,h',a5,rfl,CP,bY⟩:=yO
      repeat (any_goals (first|assumption|wp_step))
      exact h _ _ CP bY
     |_=>exact yO.elim
  |_=>exact aq.elim
noncomputable def Gd(P:bO)(w:bx)(a:Addr)(n:Nat):ee:=.ext λh=>∃S,h.SetOf (strKind P w) a S n
theorem ac3(ay:X.calm=true):j8 X (.type "set") (λxs H Q=>∃(p:Addr)(ys:b9),xs=[.ref p]/\aJ X.K H p (ys.map V.str)/\ys.length<1000/\∀q,H q=none->Q (.ref q) (upd H q (Gd X.prog X.w q (n0 (λi=>ys.getD i mQ) ys.length)))):=by
 intro pins s σ H xs us Q I r h;obtain⟨p,ys,rfl,aU,aj,q⟩:=h;obtain⟨u,rfl,ez⟩:=vals1 r;cases ez;obtain⟨its,cg,pl,hz⟩:=I.list aU;have hlen:ys.length=its.length:=by have:=cg.length;rwa [bp]at this
 have hsz:its.toArray.size=ys.length:=by rw[hlen];rfl
 refine asI (val:=λi=>ys.getD i mQ) (I.ok.hd ay) pl.isList (λi v e=>?_) (by rw[hsz];unfold scanBound;omega) λh' a5 fO bY=>?_
 .have cm:its[i]?=some v:=by simpa using e
  have ar:i<ys.length:=by rw[hlen];exact(eM.mp cm).1
  have U:(ys.map V.str)[i]?=some (V.str (ys.getD i mQ)):=by rw[c9,dv ar];simp[eL,ar]
  obtain⟨u',aD,cw⟩:=cg.get U;rw[cm]at aD;cases aD;exact cw
 .rw[hsz]at fO;refine⟨.ref s.heap.objs.size,_,I.laid bY (cq _) ?_,rfl,q _ (I.bb.fresh (cq _))⟩;obtain⟨o,es,ep,t,a3,cw⟩:=id fO;exact⟨⟨_,fO⟩,⟨o,a3⟩,λaf ai⟨Gi,cL,lG,nD,t',kY,dZ⟩ao8=>⟨Gi,cL,lG,nD,t',ao8 _ kY,dZ⟩⟩
theorem ass:j8 X (.builtin "len") (λxs H Q=>∃q n,xs=[.ref q]/\H q=some (Gd X.prog X.w q n)/\Q (.int n) H):=by
 intro pins s σ H xs us Q I r h;obtain⟨a,n,rfl,aU,q⟩:=h;obtain⟨u,rfl,ez⟩:=vals1 r;cases ez;obtain⟨⟨S,o,es,ep,t,a3,hex,hd,_,_,U,hf,aT⟩,_,_⟩:=(show el X.prog X.w H s.heap a (Gd X.prog X.w a n)from I.bb a _ aU)
 subst aT;have an6:(es.size:Int)<2 ^ 63:=by unfold scanBound at U;omega
 exact call_len_set a3 hex hd hf an6 ⟨.int es.size,H,I.tok _,⟨_,rfl⟩,q⟩
theorem ag3{P:bO}{w:bx}{H:ae}{h:Heap}{a:Addr}{o:ee}(x:el P w H h a o):∃ob,h.get? a=some ob:=by
 cases o with
 |lst xs=>obtain⟨_,_,_,_,e⟩:=x;exact⟨_,e⟩
 |tup xs=>obtain⟨_,_,_,ob,e,_⟩:=x;exact⟨ob,e⟩
 |b0 kvs=>obtain⟨_,_,_,_,ob,_,_,e,_⟩:=x;exact⟨ob,e⟩
 |c3 kvs=>obtain⟨_,_,_,_,ob,_,_,e,_⟩:=x;exact⟨ob,e⟩
 |set S n=>obtain⟨ob,_,_,_,e,_⟩:=x;exact⟨ob,e⟩
 |ins C ah fs=>obtain⟨_,_,_,e,_⟩:=x;exact⟨_,e⟩
 |own y=>obtain⟨ob,e⟩:=x;exact⟨ob,e⟩
 |JJ fs=>obtain⟨_,⟨ob,_,_,e,_⟩,_⟩:=x;exact⟨ob,e⟩
 |I1 lo ar=>obtain⟨_,_,_,e⟩:=x;exact⟨_,e⟩
 |eO ob u=>obtain⟨e,_⟩:=x;exact⟨_,e⟩
 |p6 ps=>exact⟨_,(show h.get? a=some _ from x)⟩
 |met f y=>exact⟨_,(show h.get? a=some _ from x)⟩
 |ext rB=>obtain⟨_,⟨ob,e⟩,_⟩:=x;exact⟨ob,e⟩
theorem ac4{P:bO}{w:bx}{H:ae}{h:Heap}{a:Addr}(ok:fq P w H h)(e:h.get? a=none):H a=none:=by
 cases q:H a with
 |none=>rfl
 |some o=>
  obtain⟨ob,z⟩:=ag3 (ok a o q);rw[e]at z;cases z
structure m4(P:bO)(w:bx)(fr:List Env)(H:ae)(s:aF)(au:Addr)(cls a0:Value)(H':ae)(B:Heap)(s':aF):Prop where
 fl:sT B fr au cls a0 s'.heap
 os:s'.os=s.os
 bare:rE s'.gens
 ok:fq P w H' B
 un:h9 (fy fr) [] H H' s.heap s'.heap
 k8:∀b o,s.heap.get? b=some o->b∉fy fr->∃cL,B.get? b=some cL/\(H b=none->cL=o)
noncomputable def ed(P:bO)(w:bx):ni:=λfr H s E e s'=>∃(au:Addr)(cls a0:Value)(H':ae)(B:Heap),e=.ref au/\m4 P w fr H s au cls a0 H' B s'/\E cls none H'
end
section
variable{P:bO}{w:bx}{fr:List Env}{H H':ae}{s s':aF}{au:Addr}{cls a0:Value}{B:Heap}
theorem m4.move(T:m4 P w fr H s au cls a0 H' B s'){ai:Heap}(fl:sT B fr au cls a0 ai)(up:s'.heap.UpToSlots ai):m4 P w fr H s au cls a0 H' B {s' with heap:=ai}:=by
 refine⟨fl,T.os,T.bare,T.ok,⟨λb o e n U av=>?_,λb o e n U av=>?_,T.un.free,λb o e av=>?_,T.un.hM,T.un.iT,T.un.ji⟩,T.k8⟩
 .obtain⟨cL,z,q⟩:=T.k8 b o e U;rw[q n]at z;exact fl.1 b o z
 .obtain⟨bo,z⟩:=T.un.slot b o e n U av;obtain⟨_,ob,cm,gz⟩:=T.fl.2.2.1.mem U;rw[z]at cm;cases cm;obtain⟨lW,dr⟩:=up b _ z gz;exact⟨lW,dr⟩
 .by_cases U:b∈fy fr
  .obtain⟨_,ob,cm,gz⟩:=T.fl.2.2.1.mem U;obtain⟨lW,dr⟩:=up b _ cm gz;exact⟨_,dr⟩
  .obtain⟨cL,z,_⟩:=T.k8 b o e U;exact⟨cL,fl.1 b cL z⟩
theorem m4.bb(T:m4 P w fr H s au cls a0 H' B s'):fq P w H' s'.heap:=T.ok.kept λb u e=>T.fl.1 b u e
theorem m4.new(T:m4 P w fr H s au cls a0 H' B s'):H' au=none:=ac4 T.ok T.fl.2.1
theorem m4.ô(T:m4 P w fr H s au cls a0 H' B s'){b:Addr}{o:Obj}(e:s.heap.get? b=some o):b≠au:=by
 rintro rfl;by_cases U:b∈fy fr
 .obtain⟨_,ob,cm,gz⟩:=T.fl.2.2.1.mem U;obtain⟨oQ,vs,he,_,hd,_⟩:=T.fl.first;rw[he]at cm;cases cm;exact gz vs hd
 .obtain⟨cL,z,_⟩:=T.k8 b o e U;rw[T.fl.2.1]at z;cases z
end
section
variable{P:bO}{w:bx}{K:aV}{mg:cI}{base:Heap}{N:b9}{qual:Str}{scope:Scope}{f:Addr}{cdv:Value}{A:c0}{outer:List Env}{s:aF}{H:ae}{E:b6}
noncomputable abbrev gc(P:bO)(w:bx)(K:aV)(mg:cI)(base:Heap)(N:b9)(qual:Str)(scope:Scope)(f:Addr)(cdv:Value)(A:c0)(outer:List Env)(s:aF)(H:ae)(E:b6):bg:=
 j_ (ed P w) P w K mg base N qual scope f cdv A outer s H E
theorem zg{pins:cy}{σ:St}{H1:ae}{s1:aF}(I:Inv (gc P w K mg base N qual scope f cdv A outer s H E) pins σ H1 s1){b:Addr}{o:Obj}(e:s.heap.get? b=some o)(U:b∉fy outer):
  b∉fy (gc P w K mg base N qual scope f cdv A outer s H E).stack:=λz=>by
 rcases c'.mp (I.ER b z)with q|q
 .have l:=dG e;have gG:s.heap.objs.size<=b:=by have:=I.ok.above;rw[<-q]at this;exact this
  exact qg _ (kl l gG)
 .exact U q
theorem aam{pins:cy}{σ:St}{H1:ae}{s1:aF}{h':Heap}{au:Addr}{cls:Value}{vs:cC}(I:Inv (gc P w K mg base N qual scope f cdv A outer s H E) pins σ H1 s1)(av:Wk s1.heap h' au cls vs)(fz:E cls none H1):(gc P w K mg base N qual scope f cdv A outer s H E).d0 (.ref au) {s1 with heap:=h'}:=by
 have vQ:=I.ok.frames;have nL:∀env∈(gc P w K mg base N qual scope f cdv A outer s H E).stack,∀b,env.frame=some b->b∈fy (gc P w K mg base N qual scope f cdv A outer s H E).stack:=λenv he b U=>K3.mpr ⟨env,he,U⟩;have C4:∀b o,H1 b=some o->b∉fy (gc P w K mg base N qual scope f cdv A outer s H E).stack:=λb o e z=>by rw[I.Ja b z]at e;cases e
 refine wpAny_leaves_madeW (base:=u4 s1.heap (fy (gc P w K mg base N qual scope f cdv A outer s H E).stack)) vQ rfl (λb o q=>X9 _ q) (aeL I.stack nL) av λai t e0 h5 o_ pa=>?_;have k8:∀b o,s1.heap.get? b=some o->b∉fy (gc P w K mg base N qual scope f cdv A outer s H E).stack->(u4 s1.heap (fy (gc P w K mg base N qual scope f cdv A outer s H E).stack)).get? b=some o:=λb o e n=>X7 _ e n;refine⟨au,cls,.ref t,H1,_,rfl,⟨e0,I.os,I.bare,λb ob e=>(I.bb b ob e).nd (λc u ay q=>k8 c u q ?_) (λ_ q=>q) λ_ _ q=>q,⟨λb o e n U f6=>?_,λb o e n U f6=>?_,I.base.free,λb o e f6=>?_,I.base.hM,I.base.iT,I.base.ji⟩,λb o e U=>?_⟩,fz⟩
 .rcases ay with rfl|ay
  .exact C4 c _ e
  .exact C4 c _ ay
 .exact e0.1 b o (k8 b o (I.base.keep b o e n U f6) (zg I e U))
 .obtain⟨bo,z⟩:=I.base.slot b o e n U f6;obtain⟨_,ob,cm,gz⟩:=I.kr.mem U;rw[z]at cm;cases cm;obtain⟨lW,dr⟩:=pa b _ (av.keeps _ _ z) gz;exact⟨lW,dr⟩
 .obtain⟨cL,z⟩:=I.base.there b o e f6;by_cases U:b∈fy outer
  .obtain⟨_,ob,cm,gz⟩:=I.kr.mem U;obtain⟨lW,dr⟩:=pa b _ (av.keeps _ _ cm) gz;exact⟨_,dr⟩
  .exact⟨cL,e0.1 b cL (k8 b cL z (zg I e U))⟩
 .obtain⟨cL,z⟩:=I.base.there b o e (by simp[gc,j_]);refine⟨cL,k8 b cL z (zg I e U),λn=>?_⟩;have bA:=I.base.keep b o e n U (by simp[gc,j_]);rw[z]at bA;exact hF bA
theorem qY:pS (ed P w) (gc P w K mg base N qual scope f cdv A outer s H E) E:=by
 rintro pins σ b2 sc e s' I ⟨au,cls,a0,H',B,rfl,T,fz⟩;refine ar4 I.ok.frames rfl T.fl λai e0 h5=>?_;have tc:h9 (fy (gc P w K mg base N qual scope f cdv A outer s H E).stack) [] b2 H' sc.heap s'.heap:=T.un;have wj:∀b o,s.heap.get? b=some o->b∉fy outer->∃cL,B.get? b=some cL/\(H b=none->cL=o):=λb o e U=>by obtain⟨hB,z⟩:=I.base.there b o e (by simp[gc,j_]);obtain⟨cL,dr,q⟩:=T.k8 b hB z (zg I e U);refine⟨cL,dr,λn=>?_⟩;have bA:=I.base.keep b o e n U (by simp[gc,j_]);rw[z]at bA;cases bA;exact q (I.base.free b _ e n (by simp[gc,j_]))
 refine⟨au,cls,a0,H',B,rfl,⟨e0,T.os.trans I.os,T.bare,T.ok,⟨λb o e n U f6=>?_,λb o e n U f6=>?_,λb o e n f6=>?_,λb o e f6=>?_,λb xs q=>T.un.hM b xs (I.base.hM b xs q),λb o u q=>T.un.iT b o u (I.base.iT b o u q),λb ps q=>?_⟩,wj⟩,fz⟩
 .obtain⟨cL,z,q⟩:=wj b o e U;rw[q n]at z;exact e0.1 b o z
 .obtain⟨bo,z⟩:=I.base.slot b o e n U f6;have de:b∈fy (gc P w K mg base N qual scope f cdv A outer s H E).stack:=by show b∈fy (_::outer);unfold fy;rw[F0];exact mL _ U
  obtain⟨sy,bA⟩:=tc.slot b _ z (I.base.free b o e n f6) de (by simp);obtain⟨_,ob,cm,gz⟩:=T.fl.2.2.1.mem de;rw[bA]at cm;cases cm;obtain⟨lW,dr⟩:=h5 b _ bA gz;exact⟨lW,dr⟩
 .obtain⟨hB,z⟩:=I.base.there b o e f6;exact tc.free b hB z (I.base.free b o e n f6) (by simp)
 .by_cases U:b∈fy outer
  .obtain⟨_,ob,cm,gz⟩:=e0.2.2.1.mem U;exact⟨ob,cm⟩
  .obtain⟨cL,z,_⟩:=wj b o e U;exact⟨cL,e0.1 b cL z⟩
 .obtain⟨gW,aB⟩:=I.base.ji b ps q;obtain⟨la,aD⟩:=T.un.ji b _ aB;exact⟨gW++la,by rw[aD,U6]⟩
structure Exc(K:aV)(mg:cI)(x:Str)(C:Addr)(bm:cC)(fQ:String):Prop where
 bound:mg x=some (.ref C)
 obj:Bn K C bm fQ=true
theorem Exc.own{x:Str}{C:Addr}{bm:cC}{fQ:String}{h:Heap}(e:Exc K mg x C bm fQ)(X:K.In h):OwnCls x C bm fQ mg h:=by
 refine⟨e.bound,?_⟩;have q:=e.obj;unfold Bn at q;split at q
 .rename_i dd cd bo a3;split at q
  .rename_i Aa BF k0 k1 k2 k3 n k5 hm hs;simp only[jx,pG,Ve]at q;obtain⟨⟨⟨⟨⟨rfl,rfl⟩,CY⟩,df⟩,bb⟩,yM⟩:=q;obtain⟨nm,bs,mro,ns,oU,hd,sn,sub,ab,col,del⟩:=cd;dsimp only at hm CY bb yM;subst hm CY;obtain⟨ě⟩:=bo;simp only at hs;subst hs;exact⟨BF,ns,nm,oU,bs,hd,sn,sub,ab,col,dd,k0,k1,k2,k3,k5,_,X _ _ a3,.of_isNs (PySem.W.isNs_of_in X bb),PySem.W.nsMap_none_of_in X bb yM,PySem.W.tail_of_in X df⟩
  .cases q
 .cases q
noncomputable def ag4(C:Addr)(E:b6)(b_:gi):e8:=λ_ σ H=>b_ σ H λvs H1=>vs.length<=sizeLine/\E (.ref C) none H1
theorem IT{x:Str}{C:Addr}{B fQ nM:String}{bm:cC}{np fb pos:Pos}{cJ:Expr}{es:gO}{b_:gi}(F:xf B fQ nM bm)(O:Exc K mg x C bm fQ)(bP:i3 (gc P w K mg base N qual scope f cdv A outer s H E) x)(aK:fV (gc P w K mg base N qual scope f cdv A outer s H E) (cJ::es) b_)(kX:(x==("__debug__":Str))=false:=by decide)(he:dV (cJ::es) (gc P w K mg base N qual scope f cdv A outer s H E).env=(false,eval cJ (gc P w K mg base N qual scope f cdv A outer s H E).env)::dV es (gc P w K mg base N qual scope f cdv A outer s H E).env:=by rfl)(fP:(hA fb (dV es (gc P w K mg base N qual scope f cdv A outer s H E).env)).any (·.1)=false:=by rfl):
  fW (gc P w K mg base N qual scope f cdv A outer s H E) (.Raise (some (.Call (.Name x np) (cJ::es) [] fb)) none pos) (ag4 C E b_):=by
 intro pins s1 σ H1 D I h;obtain⟨du,XC,nm,q,bs,hdct,sn,sub,ab,col,dd,k0,k1,k2,k3,k5,mN,en,eJ,yM,T⟩:=(O.own I.mod.sf).obj;have vP:Bn K C bm fQ=true:=O.obj;refine wpAny_Raise_call_subT (C:=C) (nm:=nm) (q:=q) (N:=XC) (bs:=bs) (bm:=du) (hdct:=hdct) (sn:=sn) (sub:=sub) (ab:=ab) (col:=col) (dd:=dd) (k0:=k0) (k1:=k1) (k2:=k2) (k3:=k3) (k5:=k5)
  F (mN:=mN) (T.hasType F.hasBase) (I.ok.hd rfl) ?_ yM (r_ I bP O.bound ⟨rfl,?_⟩ kX)
 .rw[he];show(false||(hA fb (dV es (gc P w K mg base N qual scope f cdv A outer s H E).env)).any (·.1))=false;rw[fP];rfl
 .have mX:=aK fb pins s1 σ H1 _ I h;rw[he]at mX⊢;refine Ae (bF mX λus s2⟨vs,ag,bD,dZ,z,fz⟩=>⟨rfl,by rw[<-dZ.length];exact z,bD.gv _ _ en,eJ.keeps bD.gv,T.keeps bD.gv,λh' au hm=>aam bD hm fz⟩)
theorem oR{x:Str}{st:Stmt}{fd:cF}{ps:b9}{k:Nat}{sp:cM}(F:bB K x qual st f fd)(S:dB N ps (c7 st))(len:∀vs H Q E,sp vs H Q E->vs.length=ps.length)(vN:∀(cdv:Value)(A:c0)(outer:List Env)(s:aF)(H:ae)(vs:aZ)(Q:ba)(E:b6),gk k (A.deeper (ow qual (c7 st) s.heap.objs.size f cdv))->sp vs H Q E->
   ∃t,f_ (gc P w K mg base N qual (c7 st) f cdv A outer s H E) (tT st) t/\t {cj:=λ_ H'=>Q .bq H',my:=Q} (start N vs) H):aL P w K mg base (ed P w) (k+1) f fd ps sp:=by obtain⟨mu,ea,dn,doc,pm,an,cdv,e',oS,rfl,lk,j5⟩:=F.ex;exact KP lk j5 S len λA outer s H vs Q E aq oB=>vN cdv A outer s H vs Q E aq oB
end
noncomputable def Gr(X:bg)(pins:cy)(σ:St)(E:b6)(e:Value)(s':aF):Prop:=
 ∃(b2:ae)(sc:aF)(au:Addr)(cls a0:Value)(H':ae)(B:Heap),e=.ref au/\Inv X pins σ b2 sc/\m4 X.prog X.w X.stack b2 sc au cls a0 H' B s'/\E cls none H'
noncomputable abbrev yf:=b6->TE
noncomputable abbrev nv:=Ends->(St->b6)->St->ae->Prop
noncomputable def XQ(X:bg)(e:Expr)(t:yf):Prop:=
 ∀(pins:cy)(s:aF)(σ:St)(H:ae)(Q:ba)(E:b6),Inv X pins σ H s->t E σ H Q->aQ (a9 X.prog X.w) X.A (eval e X.env) (ir X pins σ Q) (Gr X pins σ E) s
noncomputable def Lr(X:bg)(st:Stmt)(t:nv):Prop:=
 ∀(pins:cy)(s:aF)(σ:St)(H:ae)(D:Ends)(E:St->b6),Inv X pins σ H s->t D E σ H->aQ (a9 X.prog X.w) X.A (exec st X.env) (pC X pins D) (λe s'=>∃a4,Gr X pins a4 (E a4) e s') s
noncomputable def Ge(X:bg)(i1:List Stmt)(t:nv):Prop:=
 ∀(pins:cy)(s:aF)(σ:St)(H:ae)(D:Ends)(E:St->b6),Inv X pins σ H s->t D E σ H->aQ (a9 X.prog X.w) X.A (execs i1 X.env) (pC X pins D) (λe s'=>∃a4,Gr X pins a4 (E a4) e s') s
section
variable{X:bg}{e o:Expr}{es:gO}{pos eX p:Pos}{k:Nat}{f C:Addr}{fd:cF}{ps:b9}{sp:cM}{b_:TE}{t:gi}{m x:Str}
theorem afx{pins:cy}{σ:St}{H:ae}{s:aF}{Q:ba}{E:b6}{us:cC}{vs:aZ}(F:aL X.prog X.w X.K X.mg X.base (ed X.prog X.w) k f fd ps sp)(aq:gk k X.A)(U:Binds X.K fd ps [])(I:Inv X pins σ H s)(r:cO vs us)(h:sp vs H Q E):aQ (a9 X.prog X.w) X.A (call (.ref f) us) (ir X pins σ Q) (Gr X pins σ E) s:=by
 have aj:(us++[]).length=ps.length:=by rw[l4,<-r.length];exact F.len _ _ _ _ h
 have de:=U s us I.eD aj;rw[l4]at de;refine p' (rR (F.run X.A X.stack s H ⟨us,[]⟩ us vs Q E aq I.BY de r h) λr s' aU=>?_);cases r with
 |error e=>
  obtain⟨au,cls,a0,H',B,rfl,T,fz⟩:=aU;exact⟨H,s,au,cls,a0,H',B,rfl,I,T,fz⟩
 |ok fl=>
  cases fl with
  |ret u=>exact I.after aU
  |next=>exact hP aU
  |brk=>exact hP aU
  |cont=>exact hP aU
theorem y9{α:Type}{X:bg}{pins:cy}{M:lA}{A:c0}{c:Sem α}{Q:α->aF->Prop}{E:cD}{s:aF}(h:aQ M A c Q (λ_ _=>False) s):aQ M A c Q E s:=
 gn h (λ_ _ q=>q) λ_ _ z=>hP z
noncomputable def Xi(C:Addr)(m:Str)(sp:cM)(b_:TE)(t:gi):yf:=λE=>KR C m sp [] E b_ t
theorem Ef{pl:Sem Bool}(he:bl X.q7 o b_)(c:fB X.K C)(hm:Meth X.K C m f)(F:aL X.prog X.w X.K X.mg X.base (ed X.prog X.w) k f fd ps sp)(aq:gk k X.A)(U:Binds X.K fd ps [])(aK:fV X.q7 (e::es) t)(k7:dV (e::es) X.env=(false,eval e X.env)::dV es X.env:=by rfl)(fP:(hA pos (dV es X.env)).any (·.1)=false:=by rfl)(df:eval (.Call (.Attribute o m eX) (e::es) [] pos) X.env=(do
   let eT <-eval o X.env
   sz eX.atName
   let(f,first) <-mm [eT] (vI eT m pl)
   yl pos f first (hA pos (dV (e::es) X.env)) (kO pos (k' [] X.env))):=by rfl):
  XQ X (.Call (.Attribute o m eX) (e::es) [] pos) (Xi C m sp b_ t):=by intro pins s σ H Q E I h;refine Bp (pl:=pl) (y9 (X:=X) (pins:=pins) (bF (he pins s σ H _ (I.kG _) h) λu s1⟨x,H1,aR,bC,a,ah,fs,ex,au,l,q⟩=>?_)) df;subst ex;obtain rfl:u=cE a:=bC;have aR:=aR.kF;refine Ds aR au c hm l ?_;refine Bm (first:=[.ref a]) (h₀:=X.base) I.ok.mod.sf hm.bI (y9 (X:=X) (pins:=pins) (bF (aK pos pins s1 σ H1 _ (aR.kG _) q) λus s2⟨vs,ag,bD,r,cZ⟩=>⟨bD.kF.eD,?_⟩)) k7 fP;refine afx (us:=.ref a::us) (vs:=.ref a::vs) F aq U bD.kF (.cons rfl r) ?_;have D':sp (V.ref a::(vs++[])) ag Q E:=cZ;rw[l4]at D';exact D'
noncomputable def Xj(b3:yf):nv:=λD E σ H=>b3 (E σ) σ H λ_ H1=>D.cj σ H1
theorem DY{b3:yf}(he:XQ X e b3)(hs:wN e none pos.line X.env=pure false:=by rfl):Lr X (.Expr e pos) (Xj b3):=by intro pins s σ H D E I h;exact Ŋ (gn (he pins s σ H _ _ I h) (λv s1⟨x,H1,aR,ck,bQ⟩=>⟨σ,H1,aR,bQ⟩) λe s' q=>⟨σ,q⟩) I.quiet hs
theorem r9{st:Stmt}{t:nv}(af:Lr X st t):Ge X [st] t:=by
 intro pins s σ H D E I h;refine JF (bF (af pins s σ H D E I h) λf s1 q=>?_);cases f with
 |next=>exact sH q
 |ret v=>exact q
 |brk=>exact q
 |cont=>exact q
theorem JR{c:Expr}{a b:List Stmt}{ke:TT}{t u:nv}(ay:lB X.q7 c ke)(aK:Ge X a t)(U:Ge X b u):Lr X (.If c a b pos) (λD E σ H=>ke σ H λk H1=>if k=true then t D E σ H1 else u D E σ H1):=by
 intro pins s σ H D E I h;refine wpAny_If (y9 (X:=X) (pins:=pins) (bF (ay pins s σ H _ (I.kG _) h) λd s1⟨H1,aR,bQ⟩=>?_));cases d with
 |true=>exact aK pins s1 σ H1 D E aR.kF bQ
 |false=>exact U pins s1 σ H1 D E aR.kF bQ
end
noncomputable def kC(au C:Addr):ee:=.ext λh=>∃o,h.get? au=some o/\o.cls=.ref C
noncomputable def jL(K:aV)(C R:Addr):Bool:=match K.lookup C with
 |some ⟨.type "type",_,.cls cd,bo⟩=>(match cd.mro,bo.toList with
  |.ref Aa::bm,[_,_,_,_,some (.builtin _),_]=>Aa==C&&!cd.hasDel&&bm.contains (.type "BaseException")&&(cE C::bm).contains (.ref R)
  |_,_=>false)
 |_=>false
theorem H8{K:aV}{h:Heap}{C R:Addr}(X:K.In h)(q:jL K C R=true):∃nm oU N bs bm hdct sn sub ab col dd k0 k1 k2 k3 k5 fQ,
  h.get? C=some (yp nm oU C N bs bm hdct sn sub ab col dd k0 k1 k2 k3 k5 fQ)/\bm.contains (.type "BaseException")=true/\(cE C::bm).contains (.ref R)=true:=by
 unfold jL at q;split at q
 .rename_i dd cd bo a3;split at q
  .rename_i Aa bm k0 k1 k2 k3 n k5 hm hs;simp only[jx,Ve]at q;obtain⟨⟨⟨bQ,CY⟩,U⟩,aq⟩:=q;have bQ:=pG.mp bQ;subst bQ;obtain⟨nm,bs,mro,ns,oU,hd,sn,sub,ab,col,del⟩:=cd;dsimp only at hm CY;subst hm CY;obtain⟨ě⟩:=bo;simp only at hs;subst hs;exact⟨nm,oU,ns,bs,bm,hd,sn,sub,ab,col,dd,k0,k1,k2,k3,k5,n,X _ _ a3,U,aq⟩
  .cases q
 .cases q
theorem V8{M:lA}{A:c0}{E:cD}{K:aV}{C R au:Addr}{s:aF}{oQ:Obj}{Q:Bool->aF->Prop}(X:K.In s.heap)(ay:jL K C R=true)(aq:jL K R R=true)(he:s.heap.get? au=some oQ)(CW:oQ.cls=.ref C)(aU:Q true s):aQ M A (NK (.ref au) (.ref R)) Q E s:=by
 obtain⟨nm,oU,N,bs,bm,hdct,sn,sub,ab,col,dd,k0,k1,k2,k3,k5,fQ,en,U,N3⟩:=H8 X ay;obtain⟨ó,ć,N',Za,BF,anU,ĝ,Ģ,Y4,Zj,jI,ao3,ao4,ao5,ao6,ao7,apQ,cU,de,anG⟩:=H8 X aq;have CT:(cE R::BF).contains (.type "BaseException")=true:=by rw[W4,de,Vf]
 have f:=tc_notTuple;obtain⟨aO,g,d,t,os⟩:=s;unfold NK
 repeat (first|(with_reducible refine jj he ?_;rw[CW])|with_reducible refine jj cU ?_|(with_reducible refine Fc cU ?_;rw[CT])|(with_reducible refine Fc en ?_;rw[N3])|wp_step)
 exact aU
noncomputable abbrev nJ(X:bg)(au:Addr):bg:={X with A:=X.A.mark (some (.ref au)),calm:=false,d0:=λ_ _=>False}
section
variable{X:bg}{pins:cy}{σ:St}{H:ae}{s:aF}
theorem Inv.oY(I:Inv X pins σ H s)(au:Addr):Inv (nJ X au) pins σ H s:=
 ⟨⟨I.ok.mod,I.ok.kind,I.ok.glob,I.ok.blt,I.ok.above,I.ok.inj,I.ok.has,I.ok.vo,λz=>bG (show false=true from z) fp,I.ok.frames,I.ok.rk,I.ok.GG,I.ok.bs,I.ok.qr,I.ok.wi,I.ok.yq,I.ok.kr,I.ok.rW⟩,I.os,I.bare,I.base,I.loc,I.cell,I.free,I.mW,I.pin,I.bb,I.len⟩
theorem Inv.ĺ{au:Addr}(hd:X.calm=true->X.A.handled=none)(I:Inv (nJ X au) pins σ H s):Inv X pins σ H s:=
 ⟨⟨I.ok.mod,I.ok.kind,I.ok.glob,I.ok.blt,I.ok.above,I.ok.inj,I.ok.has,I.ok.vo,hd,I.ok.frames,I.ok.rk,I.ok.GG,I.ok.bs,I.ok.qr,I.ok.wi,I.ok.yq,I.ok.kr,I.ok.rW⟩,I.os,I.bare,I.base,I.loc,I.cell,I.free,I.mW,I.pin,I.bb,I.len⟩
theorem Inv.forget{h':Heap}{t':Nat}{i:Nat}{x:Str}(I:Inv X pins σ H s)(eJ:X.N.Nodup)(ar:X.N[i]?=some x)(hs:kI X.env.locals s.heap h')(C3:∀m,s.heap.Ns X.env.locals m->∃v,h'.Ns X.env.locals (λy=>if y=x then v else m y)):Inv X pins (σ.set i none) H {s with heap:=h',toks:=t'}:=by
 obtain⟨m,aT,aj⟩:=id I.loc;obtain⟨v,qP⟩:=C3 m aT;have pI:=I.pI;have Q4:∀b o,X.iH.heap.get? b=some o->b≠X.env.locals:=λb o e=>eN (kl (dG e) I.ok.above);have Hr:i<σ.length:=by rw[I.len];exact(eM.mp ar).1
 refine⟨I.ok,I.os,I.bare,⟨λb o e n U av=>(hs.2 b (Q4 b o e)).trans (I.base.keep b o e n U av),λb o e n U av=>?_,I.base.free,λb o e av=>?_,I.base.hM,I.base.iT,I.base.ji⟩,⟨_,qP,λj y u aB aD cH=>?_⟩,λy c e=>?_,I.free,I.mW,λp aO=>?_,afw I.bb I.free hs,by simpa using I.len⟩
 .obtain⟨bo,z⟩:=I.base.slot b o e n U av;exact⟨bo,(hs.2 b (Q4 b o e)).trans z⟩
 .obtain⟨cL,z⟩:=I.base.there b o e av;exact⟨cL,(hs.2 b (Q4 b o e)).trans z⟩
 .by_cases bL:j=i
  .subst bL;rw[Xa Hr]at aD;cases aD
  .rw[W_ (cR bL)]at aD;obtain⟨u',cw,q⟩:=aj j y u aB aD cH;refine⟨u',cw,?_⟩;rcases q with⟨k,e⟩|⟨k,c,e,z⟩
   .refine .inl ⟨k,?_⟩;have:y≠x:=λe=>bL (Tq eJ aB (e▸ar));simp[this,e]
   .exact .inr ⟨k,c,e,z.sameBut hs (pI y c e)⟩
 .obtain⟨e5,z⟩:=I.cell y c e;exact⟨e5,z.sameBut hs (pI y c e)⟩
 .obtain⟨e,n,ne,gz,d⟩:=I.pin p aO;exact⟨(hs.2 p.1 ne).trans e,n,ne,gz,d⟩
theorem asJ:i5 "enumerate"=some (.type "enumerate"):=by decide+kernel
end
noncomputable def sV(K:aV)(a:Addr):f9:=
 ⟨λi H=>∃xs x,aJ K H a xs/\xs[i]?=some x,λi H v H'=>∃p x,H p=none/\v=.ref p/\(∀xs,aJ K H a xs->xs[i]?=some x)/\H'=upd H p (.tup [.int i,x]),λi H=>∃xs,aJ K H a xs/\xs.length<=i⟩
theorem acb{P:bO}{w:bx}{K:aV}{elts:gO}{k:Nat}{pos:Pos}(a e it:Addr)(Α:e≠it):
  Turn P w K (.Tuple elts k pos) (sV K a) [e,it] e (λi h=>(∃old,IsEnum h e it ((i:Nat):Int) old)/\h.IsListIter it a i)where
 mem:=by simp
 obj:=λi h st b U=>by
  obtain⟨⟨old,he⟩,o,a3,c,d⟩:=st;rcases c'.mp U with rfl|U
  .exact⟨_,he,λv z=>by
    have dr:VL _=VK v:=z;cases dr⟩
  .have q:b=it:=by simpa using U
   subst q;exact⟨o,a3,λv z=>by rw[d]at z;cases z⟩
 keep:=λi h h' st bY=>by obtain⟨⟨old,he⟩,hit⟩:=st;exact⟨⟨old,bY e (by simp) _ he⟩,hit.at λo q=>bY it (by simp) o q⟩
 item:=by
  intro X gy hw gd ay i pins s σ H E I hf st bP;subst gy hw gd;obtain⟨⟨old,he⟩,hit⟩:=st;obtain⟨xs,x,aU,av⟩:=bP;obtain⟨its,cg,p,hz⟩:=I.list aU;obtain⟨u,b7,ez⟩:=cg.get av;obtain⟨cJ,aB,aD,cH,e3,gw⟩:=hf e (by simp);obtain⟨f0,f1,f2,cz,f4,fx⟩:=hf it (by simp);refine wpAny_pyNext_enum_item he hit p.isList (x:=u) (by simpa using b7) Α λaf a3 aoc j4 hsz aX=>⟨_,rfl,?_⟩
  refine wpAny_letOwnedTupleGo_enum a3 λai CZ k4=>?_;have k4:kI e af ai:=k4;have aT:H s.heap.objs.size=none:=I.fresh;have p1:∀b o,b∉[e,it]->s.heap.get? b=some o->ai.get? b=some o:=λb o U q=>by have qL:b≠e:=λz=>U (by simp[z]);have anO:b≠it:=λz=>U (by simp[z]);exact(k4.2 b qL).trans (aX b o qL anO q)
  have Γ:e<s.heap.objs.size:=dG he;have N_:ai.get? s.heap.objs.size=some {cls:=.type "tuple",data:=.seq #[.int i s.toks,u]}:=(k4.2 _ (x9 Γ)).trans j4;have pW:∀b q,H b=some q->b∉[e,it]:=λb q U z=>by
   rcases c'.mp z with rfl|z
   .rw[cJ]at U;cases U
   .have dr:b=it:=by simpa using z
    subst dr;rw[f0]at U;cases U
  refine⟨.ref s.heap.objs.size,upd H s.heap.objs.size (.tup [.int i,x]),?_,rfl,⟨s.heap.objs.size,x,aT,rfl,λys cS=>by rw[I.Ö cS aU];exact av,rfl⟩,⟨⟨u,?_⟩,aoc.at λo q=>(k4.2 it Α.symm).trans q⟩,λb U=>?_⟩
  .show Inv X pins σ (upd H s.heap.objs.size (.tup [.int i,x])) {s with heap:=ai,gens:=s.gens,drawn:=s.drawn,toks:=s.toks+1};refine I.step (g':=s.gens) (d':=s.drawn) (t':=s.toks+1) (h':=ai) (ch:=[e,it]) (λb U=>?_) (λb o _ _ ay q _=>p1 b o ay q) (λb o _ _ ay q _=>⟨o.slots,p1 b o ay q⟩) (λb o ay q n=>?_)
    (λb o ay q=>⟨o,p1 b o ay q⟩) (λb ys q=>?_) (λb o v q=>?_) (λb ps q=>⟨#[],?_⟩) (λm hm=>?_) (λb v q=>?_) I.bare
   .rcases c'.mp U with rfl|U
    .exact⟨cH,aB,e3,gw⟩
    .have dr:b=it:=by simpa using U
     subst dr;exact⟨cz,f1,f4,fx⟩
   .rw[aA (eN (dG q))];exact n
   .rw[aA (bZ q aT)];exact q
   .rw[aA (bZ q aT)];exact q
   .rw[aA (bZ q aT),q];simp
   .obtain⟨o,es,ep,kY,r⟩:=hm;refine⟨o,es,ep,p1 _ o (λz=>?_) kY,r⟩;rcases c'.mp z with z|z
    .exact aB z.symm
    .exact f1 (by simpa using z:X.env.locals=it).symm
   .by_cases U:b=s.heap.objs.size
    .subst U;rw[aP]at q;cases q;exact⟨(by show 2<=sizeLine;decide),[.int i s.toks,u],.cons ⟨_,rfl⟩ (.cons ez .nil),_,N_,rfl,_,rfl⟩
    .rw[aA U]at q;refine(I.bb b v q).nd (λc y ay z=>p1 c y ?_ z) (λc z=>by rw[aA (bZ z aT)];exact z) λc ys z=>by rw[aA (bZ z aT)];exact z
     rcases ay with rfl|ay
     .exact pW _ _ q
     .exact pW _ _ ay
  .have:(((i+1:Nat):Nat):Int)=(i:Int)+1:=by omega
   rw[this];exact CZ
  .rcases c'.mp U with rfl|U
   .rw[aA (eN Γ)];exact cJ
   .have dr:b=it:=by simpa using U
    subst dr;obtain⟨_,z,_⟩:=hit;rw[aA (eN (dG z))];exact f0
 done:=by intro X gy hw gd ay i pins s σ H E I hf st bP;subst gy hw gd;obtain⟨⟨old,he⟩,hit⟩:=st;obtain⟨xs,aU,av⟩:=bP;obtain⟨its,cg,p,hz⟩:=I.list aU;obtain⟨f0,f1,f2,cz,f4,fx⟩:=hf it (by simp);have aj:=cg.length;exact wpAny_pyNext_enum_end (I.ok.hd ay) he hit p.isList (by simp;omega) λh' ef=>⟨rfl,I.turned (t':=s.toks) (λb o U e=>ef b o U e) f0 f1 cz f4 fx⟩
 self:=λ_ _ _ _ _ st h=>by obtain⟨⟨old,he⟩,_⟩:=st;exact asd he h
section
variable{X:bg}{elts:gO}{k:Nat}{EV:Pos}
inductive aiA(K:aV)(vs:aZ)(H:ae)(R:f9->ae->Prop):Prop where
 |mk (a:Addr) (bV:vs=[.ref a]) (bA:∃xs,aJ K H a xs) (cn:R (sV K a) H)
noncomputable def aiB(K:aV)(b_:gi):TI:=λσ H R=>b_ σ H λvs H1=>aiA K vs H1 R
theorem Jm{l:Expr}{b_:gi}{p pos:Pos}(bP:i3 X "enumerate")(hm:X.mg "enumerate"=none)(aK:fV X [l] b_)(hs:dV [l] X.env=[(false,eval l X.env)]:=by rfl):oe X (.Tuple elts k EV) (.Call (.Name "enumerate" p) [l] [] pos) (aiB X.K b_):=by
 intro pins s σ H R I h;refine Call_ (wz I bP hm asJ (XY (bF (aK pos pins s σ H _ I h) λus s1⟨vs,H1,aR,ck,bQ⟩=>?_) hs rfl));obtain⟨a,e,⟨xs,aU⟩,q⟩:=bQ;subst e;cases ck with
 |cons r fS=>
  cases fS;cases r;obtain⟨its,cg,p,hz⟩:=aR.list aU;refine call_enumerate_list p.isList λh' he hit hsz bY=>?_;refine asd he ?_;have ne:s1.heap.objs.size+1≠s1.heap.objs.size:=Ld _;refine⟨s1.heap.objs.size+1,[s1.heap.objs.size+1,s1.heap.objs.size],_,_,H1,rfl,aR.kept (t':=s1.toks) λb o e=>bY b o e,acb a _ _ ne,⟨⟨_,he⟩,hit⟩,λb U=>?_,q⟩;rcases c'.mp U with rfl|U
  .exact aR.rV (pq _) (aR.bb.fresh (pq _))
  .have z:b=s1.heap.objs.size:=by simpa using U
   subst z;exact aR.rV (cq _) (aR.bb.fresh (cq _))
end
section
variable{X:bg}{K:aV}(gd:X.K=K)
include gd
theorem Tw:xQ X (YK K):=by subst gd;exact fu
theorem v':xQ X (YL K):=by subst gd;exact fa
theorem Eg{pos:Pos}{es:gO}{k:Nat}{t:qo}{n:Nat}(ay:X.calm=true)(h:Be X es t)(aT:(vg es X.env).length=n:=by rfl)(k7:(vg es X.env).findIdx? (·.1)=none:=by rfl):qi X (.Tuple es k pos) (xW K n t):=by subst gd;exact wo ay h aT k7
theorem VX{e:Expr}{b_:TE}{f:Str}{pos:Pos}(he:bl X e b_)(U:vh e f X.env (eval e X.env)=eval e X.env):bl X (.Attribute e f pos) (YF K b_ f):=by subst gd;exact e2 he U
end
theorem afy{K:aV}{a:Addr}{xs:aZ}{cs:lD}{σ rest:ao.St}{tt:TT}{b3:TE}{Q:ba}{H1:ae}(ij:il cs σ=none::none::rest)(aK:aJ K H1 a xs)(aj:xs.length<sizeLine)(p:Nat->V->Bool)(f:Nat->V->V)(test:∀(i:Nat)(x:V)(ag:ae)(R:Bool->ae->Prop),xs[i]?=some x->aN H1 ag->(∀bw,aN ag bw->R (p i x) bw)->tt (some (.int i)::some x::rest) ag R)(elt:∀(i:Nat)(x:V)(ag:ae)(R:ba),xs[i]?=some x->p i x=true->aN H1 ag->(∀bw,aN ag bw->R (f i x) bw)->b3 (some (.int i)::some x::rest) ag R)(fin:∀(D:Addr)(H':ae),H1 D=none->H' D=some (.lst ((xs.zipIdx.filter λz=>p z.2 z.1).map λz=>f z.2 z.1))->aN H1 H'->Q (.ref D) H'):
  ∀D,H1 D=none->∃W:Nat->Nat->List V->ao.St->ae->Prop,(∃m,W 0 m [] (il cs σ) (upd H1 D (.lst [])))/\∀i m ys a4 H',W i m ys a4 H'->H' D=some (.lst ys)/\ys.length<sizeLine/\
   (((sV K a).stop i H'/\Q (.ref D) H')\/((sV K a).go i H'/\∀x ag,(sV K a).n4 i H' x ag->xW K 2 (q9 (hX 0) (q9 (hX 1) AX)) x a4 ag λg4 a_=>tt g4 a_ λb dP=>
    if b=true then b3 g4 dP λy bw=>bw D=some (.lst ys)/\∃cV,cV<m/\W (i+1) cV (ys++[y]) g4 (upd bw D (.lst (ys++[y])))
    else∃cV,cV<m/\W (i+1) cV ys g4 dP)):=by
 intro D bR;have rA:xs.zipIdx.length=xs.length:=by simp
 refine⟨λi m ys a4 H'=>m=xs.length-i/\i<=xs.length/\ys=((xs.zipIdx.take i).filter λz=>p z.2 z.1).map (λz=>f z.2 z.1)/\(∃o cL,a4=o::cL::rest)/\aN H1 H'/\H' D=some (.lst ys),
  ⟨xs.length,by simp,e_ _,by simp,⟨none,none,ij⟩,λb o e=>?_,aP⟩,?_⟩
 .rw[aA (bZ e bR)];exact e
 .rintro i m ys a4 H' ⟨rfl,ar,rfl,⟨o,cL,rfl⟩,aH,fe⟩;have iB:aJ K H' a xs:=aH.seq aK;refine⟨fe,od ?_ aj,?_⟩
  .rw[bp];refine eQ (jl _ _) ?_;rw[mK,rA];exact Xz _ _
  by_cases cP:i<xs.length
  .have ex:xs[i]?=some xs[i]:=dv cP;refine .inr ⟨⟨xs,_,iB,ex⟩,λx ag y=>?_⟩;obtain⟨q,rt,aU,rfl,f6,rfl⟩:=y;have NL:=f6 xs iB;have EO:aN H' (upd H' q (.tup [.int i,rt])):=λb u e=>by rw[aA (bZ e aU)];exact e
   refine⟨q,_,rfl,cN.of aP,rfl,⟨_,_,rfl,⟨_,_,rfl,rfl,?_⟩⟩⟩;show tt (some (.int i)::some rt::rest) _ _;refine test i rt _ _ NL (aH.trans EO) λdP s4=>?_;have a5:xs.zipIdx.take (i+1)=xs.zipIdx.take i++[(rt,i)]:=by rw[pk,List.getElem?_zipIdx,NL];simp
   have Hf:=s4 _ _ (EO _ _ fe);cases aO:p i rt with
   |true=>
    refine h3 ?_;refine elt i rt dP _ NL aO ((aH.trans EO).trans s4) λbw s5=>⟨s5 _ _ Hf,xs.length-(i+1),by omega,rfl,cP,?_,⟨_,_,rfl⟩,λb ob e=>?_,aP⟩
    .rw[a5,nq,eU];simp[aO]
    .rw[aA (bZ e bR)];exact s5 _ _ (s4 _ _ (EO _ _ (aH _ _ e)))
   |false=>
    refine gx ⟨xs.length-(i+1),by omega,rfl,cP,?_,⟨_,_,rfl⟩,(aH.trans EO).trans s4,Hf⟩;rw[a5,nq,eU];simp[aO]
  .have e:i=xs.length:=by omega
   subst e;refine .inl ⟨⟨xs,iB,cq _⟩,fin D H' bR ?_ aH⟩;rw[fe,<-rA,pn]
end ct
namespace ao
open PySem PySem.Spec PyProof.Rows
section
variable{κ:Type}[DecidableEq κ]
noncomputable def b1(kvs:List (κ×V))(k:κ):Option V:=(kvs.find? λcf=>decide (cf.1=k)).map (·.2)
noncomputable def d7(kvs:List (κ×V))(k:κ)(v:V):List (κ×V):=
 if(kvs.any λcf=>decide (cf.1=k))=true then kvs.map (λcf=>if cf.1=k then(cf.1,v)else cf)else kvs++[(k,v)]
noncomputable def uC(kvs:List (κ×V))(k:κ):List (κ×V):=kvs.filter λcf=>decide (cf.1≠k)
theorem kP{p:κ×V}{r:List (κ×V)}{k:κ}(e:p.1=k):b1 (p::r) k=some p.2:=by simp[b1,A0,e]
theorem jW{p:κ×V}{r:List (κ×V)}{k:κ}(e:¬p.1=k):b1 (p::r) k=b1 r k:=by simp[b1,A0,e]
theorem oy(k:κ):∀kvs:List (κ×V),(kvs.any λcf=>decide (cf.1=k))=(b1 kvs k).isSome
 |[]=>rfl
 |p::r=>by
  rw[FX];by_cases e:p.1=k
  .simp only[kP e,cu e,Bool.true_or,Option.isSome_some]
  .rw[jW e,dJ e,Bool.false_or];exact oy k r
theorem Vi(k j:κ)(y:V):∀kvs:List (κ×V),b1 (kvs.map λcf=>if cf.1=k then(cf.1,y)else cf) j=(b1 kvs j).map λx=>if j=k then y else x
 |[]=>rfl
 |p::r=>by
  have a6:=Vi k j y r;rw[hQ];by_cases h:p.1=k
  .rw[bM h];by_cases e:p.1=j
   .rw[kP (p:=(p.1,y)) e,kP e,F5,bM (e.symm.trans h)]
   .rw[jW (p:=(p.1,y)) e,jW e,a6]
  .rw[bE h];by_cases e:p.1=j
   .rw[kP (p:=p) e,kP e,F5,bE (λz=>h (e.trans z))]
   .rw[jW (p:=p) e,jW e,a6]
theorem Ů(k j:κ)(y:V):∀kvs:List (κ×V),b1 kvs k=none->b1 (kvs++[(k,y)]) j=if j=k then some y else b1 kvs j
 |[],_=>by
  by_cases e:k=j
  .rw[bM e.symm];exact kP (p:=(k,y)) e
  .rw[bE (λz=>e z.symm)];exact jW (p:=(k,y)) e
 |p::r,aT=>by
  rw[List.cons_append];have aX:¬p.1=k:=λz=>by rw[kP z]at aT;cases aT
  rw[jW aX]at aT;have a6:=Ů k j y r aT;by_cases e:p.1=j
  .rw[kP e,kP e,bE (λz=>aX (e.trans z))]
  .rw[jW e,jW e,a6]
theorem qD(kvs:List (κ×V))(k j:κ)(y:V):b1 (d7 kvs k y) j=if j=k then some y else b1 kvs j:=by
 unfold d7;by_cases a:(kvs.any λcf=>decide (cf.1=k))=true
 .rw[bM a,Vi];rw[oy]at a;by_cases e:j=k
  .obtain⟨x,av⟩:=rM.mp a;rw[bM e,e,av,F5,bM rfl]
  .rw[bE e];cases b1 kvs j with
   |none=>rfl
   |some x=>rw[F5,bE e]
 .rw[bE a];refine Ů k j y kvs ?_;rw[oy]at a;cases q:b1 kvs k with
  |none=>rfl
  |some x=>rw[q]at a;exact(a rfl).elim
theorem Du(kvs:List (κ×V))(k:κ)(v:V):(d7 kvs k v).length<=kvs.length+1:=by
 unfold d7;split
 .rw[bp];omega
 .rw[hi,l6,A2];omega
theorem y0{kvs:List (κ×V)}{k:κ}(v:V)(h:b1 kvs k=none):d7 kvs k v=kvs++[(k,v)]:=by unfold d7;rw[oy,h];exact bE (by decide)
theorem iX.HO{o:Option V}{u:yg}(r:iX o u):o.isSome=u.isSome:=by
 cases o with
 |none=>cases u with
  |none=>rfl
  |some _=>exact(show False from r).elim
 |some _=>cases u with
  |none=>exact(show False from r).elim
  |some _=>rfl
theorem iX.getD{o:Option V}{u:yg}{d:V}{d':Value}(r:iX o u)(rd:RelV d d'):RelV (o.getD d) (u.getD d'):=by
 cases o with
 |none=>cases u with
  |none=>exact rd
  |some _=>exact(show False from r).elim
 |some _=>cases u with
  |none=>exact(show False from r).elim
  |some _=>exact r
theorem gC.val{kvs:List (κ×V)}{vs:List (κ×Value)}(r:gC kvs vs)(k:κ):iX (b1 kvs k) (uE vs k):=by
 unfold gC at r
 induction r with
 |nil=>exact lC
 |@cons p q ps dQ h t a6=>
  obtain⟨af,ai⟩:=h;by_cases e:p.1=k
  .have cm:q.1=k:=af.symm.trans e;have b:uE (q::dQ) k=some q.2:=by simp[uE,A0,cm]
   rw[kP e,b];exact ai
  .have cm:¬q.1=k:=λz=>e (af.trans z);have b:uE (q::dQ) k=uE dQ k:=by simp[uE,A0,cm]
   rw[jW e,b];exact a6
theorem gC.any{kvs:List (κ×V)}{vs:List (κ×Value)}(r:gC kvs vs)(k:κ):(kvs.any λcf=>decide (cf.1=k))=vs.any λcf=>decide (cf.1=k):=by
 unfold gC at r
 induction r with
 |nil=>rfl
 |cons h t a6=>rw[FX,FX,a6,h.1]
theorem gC.R4{kvs:List (κ×V)}{vs:List (κ×Value)}(r:gC kvs vs)(k:κ){y:V}{u:Value}(bJ:RelV y u):
  gC (kvs.map λcf=>if cf.1=k then(cf.1,y)else cf) (vs.map λcf=>if cf.1=k then(cf.1,u)else cf):=by
 unfold gC at r⊢
 induction r with
 |nil=>exact .nil
 |@cons p q ps dQ h t a6=>
  rw[hQ,hQ];refine .cons ?_ a6;obtain⟨af,ai⟩:=h;by_cases e:p.1=k
  .rw[bM e,bM (af.symm.trans e)];exact⟨af,bJ⟩
  .rw[bE e,bE (λz=>e (af.trans z))];exact⟨af,ai⟩
theorem gC.put{kvs:List (κ×V)}{vs:List (κ×Value)}(r:gC kvs vs)(k:κ){y:V}{u:Value}(bJ:RelV y u):gC (d7 kvs k y) (stored vs k u):=by
 unfold d7 stored;rw[r.any k];by_cases e:(vs.any λcf=>decide (cf.1=k))=true
 .rw[bM e,bM e];exact r.R4 k bJ
 .rw[bE e,bE e];exact Paired.snoc r ⟨rfl,bJ⟩
theorem gC.drop{kvs:List (κ×V)}{vs:List (κ×Value)}(r:gC kvs vs)(k:κ):gC (uC kvs k) (without vs k):=by
 unfold gC at r⊢;unfold uC without
 induction r with
 |nil=>exact .nil
 |@cons p q ps dQ h t a6=>
  obtain⟨af,ai⟩:=h;rw[l5,l5];by_cases e:p.1=k
  .have a:¬decide (p.1≠k)=true:=by simp[e]
   have b:¬decide (q.1≠k)=true:=by simp[af.symm.trans e]
   rw[bE a,bE b];exact a6
  .have cm:¬q.1=k:=λz=>e (af.trans z);have a:decide (p.1≠k)=true:=by simp[e]
   have b:decide (q.1≠k)=true:=by simp[cm]
   rw[bM a,bM b];exact .cons ⟨af,ai⟩ a6
theorem gC.length{kvs:List (κ×V)}{vs:List (κ×Value)}(r:gC kvs vs):kvs.length=vs.length:=gM r
theorem Vj(kvs:List (κ×V))(k:κ):(uC kvs k).length<=kvs.length:=jl _ _
theorem q_{P:bO}{w:bx}{k:a'}{u:Value}(r:RelV (dn k) u):(gj P w).is k u=true:=by
 cases k with
 |inl i=>obtain⟨t,e⟩:=(show∃t,u=oh i t from r);subst e;exact aah P w i t
 |inr x=>obtain⟨t,e⟩:=(show∃t,u=ve x t from r);subst e;exact aai P w x t
theorem ů{P:bO}{w:bx}:∀{hb:List a'}{us:cC},cO (hb.map dn) us->ItemsAre (gj P w) hb us
 |[],_,r=>by rw[F1]at r;cases r;exact .nil
 |k::hb,_,r=>by
  rw[hQ]at r;cases r with
  |cons h t=>exact .cons (q_ h) (ů t)
noncomputable abbrev KT(H:ae):List (List a'×V)->List (List a'×Addr×Value)->Prop:=bf λp q=>p.1=q.1/\H q.2.1=some (.tup (p.1.map dn))/\RelV p.2 q.2.2
theorem KT.val{H:ae}{kvs:List (List a'×V)}{xs:List (List a'×Addr×Value)}(r:KT H kvs xs)(k:List a'):iX (b1 kvs k) ((tg xs k).map (·.2)):=by
 induction r with
 |nil=>exact lC
 |@cons p q ps dQ h t a6=>
  obtain⟨af,_,ai⟩:=h;by_cases e:p.1=k
  .have cm:q.1=k:=af.symm.trans e;have b:tg (q::dQ) k=some q.2:=by simp[tg,A0,cm]
   rw[kP e,b];exact ai
  .have cm:¬q.1=k:=λz=>e (af.trans z);have b:tg (q::dQ) k=tg dQ k:=by simp[tg,A0,cm]
   rw[jW e,b];exact a6
theorem KT.R4{H:ae}{kvs:List (List a'×V)}{xs:List (List a'×Addr×Value)}(r:KT H kvs xs)(k:List a'){y:V}{u:Value}(bJ:RelV y u):
  KT H (kvs.map λcf=>if cf.1=k then(cf.1,y)else cf) (xs.map (putAt k u)):=by
 induction r with
 |nil=>exact .nil
 |@cons p q ps dQ h t a6=>
  rw[hQ,hQ];refine .cons ?_ a6;obtain⟨af,ai,bU⟩:=h;unfold putAt;by_cases e:p.1=k
  .rw[bM e,bM (af.symm.trans e)];exact⟨af,ai,bJ⟩
  .rw[bE e,bE (λz=>e (af.trans z))];exact⟨af,ai,bU⟩
theorem KT.put{H:ae}{kvs:List (List a'×V)}{xs:List (List a'×Addr×Value)}(r:KT H kvs xs)(k:List a'){b:Addr}{y:V}{u:Value}(U:H b=some (.tup (k.map dn)))(bJ:RelV y u):
  KT H (d7 kvs k y) (wM xs k b u):=by
 have e:(kvs.any λcf=>decide (cf.1=k))=(tg xs k).isSome:=by rw[oy,(r.val k).HO,aed]
 unfold d7 wM;rw[e];by_cases q:(tg xs k).isSome=true
 .rw[bM q,bM q];exact r.R4 k bJ
 .rw[bE q,bE q];exact Paired.snoc r ⟨rfl,U,bJ⟩
theorem KT.keeps{H H':ae}{kvs:List (List a'×V)}{xs:List (List a'×Addr×Value)}(r:KT H kvs xs)(df:∀b ys,H b=some (.tup ys)->H' b=some (.tup ys)):KT H' kvs xs:=
 bf.eE r λ_ _ z=>⟨z.1,df _ _ z.2.1,z.2.2⟩
end
section
variable{P:bO}{w:bx}{H:ae}{h:Heap}{a:Addr}
theorem Yo{u:ee}(ok:fq P w H h)(e:gD H a u):el P w H h a u:=e.ok ok
theorem z1{kvs:List (a'×V)}(ok:fq P w H h)(e:gD H a (.b0 kvs)):kvs.length<=sizeLine/\(a==lr)=false/\∃vs,gC kvs vs/\h.DictOf (gj P w) a vs:=
 show el P w H h a (.b0 kvs)from Yo ok e
theorem w0{kvs:List (a'×V)}(ok:fq P w H h)(e:H a=some (.b0 kvs)):kvs.length<=sizeLine/\(a==lr)=false/\∃vs,gC kvs vs/\h.DictOf (gj P w) a vs:=z1 ok (.inl e)
theorem wq{hb:List a'}(ok:fq P w H h)(e:H a=some (.tup (hb.map dn))):(mB (gj P w)).is h hb a:=by
 obtain⟨_,its,r,o,af,ai,n,bU⟩:=(show el P w H h a (.tup (hb.map dn))from ok a _ e)
 exact⟨o,its.toArray,n,af,ai,bU,by simpa using ů r⟩
theorem z2{kvs:List (List a'×V)}(ok:fq P w H h)(e:gD H a (.c3 kvs)):kvs.length<=sizeLine/\(a==lr)=false/\
  ∃xs,KT H kvs xs/\h.DictOfH (mB (gj P w)) a xs:=by
 obtain⟨z,y,xs,r,o,es,ep,af,ai,bU,cX,d3⟩:=(show el P w H h a (.c3 kvs)from Yo ok e)
 refine⟨z,y,xs,r,o,es,ep,af,ai,bU,cX,λx av=>?_,d3⟩;have all:∀{l:List (List a'×V)}{m:List (List a'×Addr×Value)},KT H l m->∀x∈m,(mB (gj P w)).is h x.1 x.2.1:=by
  intro l m q
  induction q with
  |nil=>intro x av;exact nomatch av
  |@cons p q ps dQ aU t a6=>
   intro x av;rcases c'.mp av with e|av
   .subst e;exact wq ok (by rw[<-aU.1];exact aU.2.1)
   .exact a6 x av
 exact all r x av
theorem Yp{kvs:List (List a'×V)}(ok:fq P w H h)(e:H a=some (.c3 kvs)):kvs.length<=sizeLine/\(a==lr)=false/\
  ∃xs,KT H kvs xs/\h.DictOfH (mB (gj P w)) a xs:=z2 ok (.inl e)
end
noncomputable def iY(H:ae)(a:Addr)(y:V)(r:Option V):Prop:=
 (∃kvs k,gD H a (.b0 kvs)/\y=dn k/\r=b1 kvs k)\/∃kvs k b,gD H a (.c3 kvs)/\y=.ref b/\H b=some (.tup (k.map dn))/\r=b1 kvs k
noncomputable def o3(H:ae)(a:Addr)(y v:V)(H':ae):Prop:=
 (∃kvs k,H a=some (.b0 kvs)/\y=dn k/\kvs.length<sizeLine/\H'=upd H a (.b0 (d7 kvs k v)))\/
 ∃kvs k b,H a=some (.c3 kvs)/\y=.ref b/\H b=some (.tup (k.map dn))/\kvs.length<sizeLine/\H'=upd H a (.c3 (d7 kvs k v))
theorem iY.k{H:ae}{a:Addr}{kvs:List (a'×V)}{k:a'}(e:H a=some (.b0 kvs)):iY H a (dn k) (b1 kvs k):=.inl ⟨kvs,k,.inl e,rfl,rfl⟩
theorem iY.t{H:ae}{a b:Addr}{kvs:List (List a'×V)}{k:List a'}(e:H a=some (.c3 kvs))(ef:H b=some (.tup (k.map dn))):iY H a (.ref b) (b1 kvs k):=.inr ⟨kvs,k,b,.inl e,rfl,ef,rfl⟩
theorem o3.k{H:ae}{a:Addr}{kvs:List (a'×V)}{k:a'}{v:V}(e:H a=some (.b0 kvs))(aj:kvs.length<sizeLine):o3 H a (dn k) v (upd H a (.b0 (d7 kvs k v))):=.inl ⟨kvs,k,e,rfl,aj,rfl⟩
theorem o3.t{H:ae}{a b:Addr}{kvs:List (List a'×V)}{k:List a'}{v:V}(e:H a=some (.c3 kvs))(ef:H b=some (.tup (k.map dn)))(aj:kvs.length<sizeLine):
  o3 H a (.ref b) v (upd H a (.c3 (d7 kvs k v))):=.inr ⟨kvs,k,b,e,rfl,ef,aj,rfl⟩
section
variable{X:bg}{pins:cy}{σ:St}{H:ae}{s:aF}{a:Addr}{y v:V}{u r:Value}{o:Option V}{A:c0}{E:cD}
theorem Inv.big(I:Inv X pins σ H s):lr<s.heap.objs.size:=by have h:c8<s.heap.objs.size:=(I.mod.glob.keeps I.gv).lt;exact La (by decide) h
theorem acd{Q:cD}(b7:A.units+1<cLine)(I:Inv X pins σ H s)(g:iY H a y (some v))(bJ:RelV y u)(h:∀e5 s',Inv X pins σ H s'->RelV v e5->Q e5 s'):
  aQ (a9 X.prog X.w) A (CJ (.ref a) u) Q E s:=by
 rcases g with⟨kvs,k,e,f5,l⟩|⟨kvs,k,b,e,f5,ef,l⟩
 .subst f5;obtain⟨z,hd,vs,rel,dd⟩:=z1 I.bb e;obtain⟨e5,hw,gY⟩:=iX.some_of (v:=v) (o:=uE vs k) (by rw[l];exact rel.val k);exact wpAny_getItem_of (q_ bJ) dd.mapOf hw (h e5 _ (I.tok _) gY)
 .subst f5;cases(show u=cE b from bJ);obtain⟨z,hd,xs,rel,dd⟩:=z2 I.bb e;obtain⟨e5,hw,gY⟩:=iX.some_of (v:=v) (o:=(tg xs k).map (·.2)) (by rw[l];exact rel.val k);obtain⟨p,aO,qS⟩:=fJ.mp hw;refine wpAny_getItem_heap (Jh b7) (wq I.bb ef) dd aO ?_;rw[qS];exact h e5 _ (I.tok _) gY
theorem afz{Q:cD}(b7:A.units+1<cLine)(I:Inv X pins σ H s)(g:iY H a y o)(bJ:RelV y u)(h:∀s',Inv X pins σ H s'->Q (.bool (!o.isSome)) s'):
  aQ (a9 X.prog X.w) A (jF .NotIn u (.ref a)) Q E s:=by
 rcases g with⟨kvs,k,e,f5,l⟩|⟨kvs,k,b,e,f5,ef,l⟩
 .subst f5;obtain⟨z,hd,vs,rel,dd⟩:=z1 I.bb e;refine wpAny_notIn_of (q_ bJ) hd dd.mapOf ?_;rw[<-(rel.val k).HO,<-l];exact h _ (I.tok _)
 .subst f5;cases(show u=cE b from bJ);obtain⟨z,hd,xs,rel,dd⟩:=z2 I.bb e;refine wpAny_notIn_heap (Jh b7) (wq I.bb ef) hd dd ?_;have q:=(rel.val k).HO;rw[aed]at q;rw[<-q,<-l];exact h _ (I.tok _)
theorem v_{h':Heap}{t':Nat}{ob:ee}(I:Inv X pins σ H s)(bH:A7 (H a))(hs:kI a s.heap h')(he:∃q,h'.get? a=some q)(new:el X.prog X.w (upd H a ob) h' a ob):
  Inv X pins σ (upd H a ob) {s with heap:=h',toks:=t'}:=
 I.write (x:=a) (e:=a) bH (.inl rfl) (λb q U z=>(hs.2 b U).trans z) he new
theorem E1{P:bO}{w:bx}{H':ae}{h':Heap}{kvs:List (a'×V)}{vs:List (a'×Value)}(z:kvs.length<=sizeLine)(hd:(a==lr)=false)(rel:gC kvs vs)(dd:h'.DictOf (gj P w) a vs):
  el P w H' h' a (.b0 kvs):=⟨z,hd,vs,rel,dd⟩
theorem ace{H':ae}{Q:Unit->aF->Prop}(b7:A.units+1<cLine)(I:Inv X pins σ H s)(g:o3 H a y v H')(bJ:RelV y u)(cg:RelV v r)(h:∀s',Inv X pins σ H' s'->Q () s'):
  aQ (a9 X.prog X.w) A (setItem (.ref a) u r) Q E s:=by
 rcases g with⟨kvs,k,e,f5,l,Nx⟩|⟨kvs,k,b,e,f5,ef,l,Nx⟩
 .subst f5 Nx;obtain⟨z,hd,vs,rel,dd⟩:=w0 I.bb e;have hz:vs.length<=sizeLine:=by rw[<-rel.length];exact z
  have aj:(d7 kvs k v).length<=sizeLine:=by have:=Du kvs k v;omega
  refine wpAny_setItem_pairs (hsz:=hz) (q_ bJ) dd λh' jI hs=>h _ ?_;have he:∃q,h'.get? a=some q:=let⟨q,_,_,aU,_⟩:=jI;⟨q,aU⟩
  exact v_ I (by rw[e];exact lC) hs he (E1 aj hd (rel.put k cg) jI)
 .subst f5 Nx;cases(show u=cE b from bJ);obtain⟨z,hd,xs,rel,dd⟩:=Yp I.bb e;have hz:xs.length<=sizeLine:=by rw[<-gM rel];exact z
  have aj:(d7 kvs k v).length<=sizeLine:=by have:=Du kvs k v;omega
  refine wpAny_setItem_heap (hsz:=hz) (Jh b7) (wq I.bb ef) dd λh' jI hs=>h _ ?_;obtain⟨q,es,ep,aU,ai,bU,cX,_,d3⟩:=jI;refine v_ I (by rw[e];exact lC) hs ⟨q,aU⟩ ⟨aj,hd,_,(rel.put k ef cg).keeps λc ys ic=>?_,q,es,ep,aU,ai,bU,cX,d3⟩;rw[aA (h4 ic e (λz=>nomatch z))];exact ic
end
section
variable{X:bg}{pins:cy}{σ:St}{H:ae}{s:aF}{a:Addr}{kvs:List (a'×V)}{k:a'}{u:Value}{A:c0}{E:cD}
theorem atF{Q:Unit->aF->Prop}(I:Inv X pins σ H s)(e:H a=some (.b0 kvs))(bJ:RelV (dn k) u)(l:(b1 kvs k).isSome=true)(h:∀s',Inv X pins σ (upd H a (.b0 (uC kvs k))) s'->Q () s'):
  aQ (a9 X.prog X.w) A (delItem (.ref a) u) Q E s:=by
 obtain⟨z,hd,vs,rel,dd⟩:=w0 I.bb e;refine wpAny_delItem_slot dd.typeIs (by decide) aeB
  (BI aeB dd.typeIs PySem.F.entry_dict_delitem (PySem.F.args_dict_delitem_2 _ _) (meets_dict_delitem_pairs (gj X.prog X.w) a (q_ bJ)) ⟨vs,dd,by rw[<-rel.length];exact z,by rw[<-(rel.val k).HO];exact l,λh' jI hs=>h _ ?_⟩)
 have he:∃q,h'.get? a=some q:=let⟨q,_,_,aU,_⟩:=jI;⟨q,aU⟩
 exact v_ I (by rw[e];exact lC) hs he (E1 (eQ (Vj kvs k) z) hd (rel.drop k) jI)
theorem aiC{v:V}{more:cC}{Q:cD}(I:Inv X pins σ H s)(e:H a=some (.b0 kvs))(bJ:RelV (dn k) u)(l:b1 kvs k=some v)(hm:more=[]\/∃x,more=[x])(h:∀e5 s',Inv X pins σ (upd H a (.b0 (uC kvs k))) s'->RelV v e5->Q e5 s'):aQ (a9 X.prog X.w) A (call (.builtin "dict.pop") (.ref a::u::more)) Q E s:=by
 obtain⟨z,hd,vs,rel,dd⟩:=w0 I.bb e;obtain⟨e5,hw,gY⟩:=iX.some_of (v:=v) (o:=uE vs k) (by rw[<-l];exact rel.val k);have aO:(keyPart u).isSome=true:=by
  cases k with
  |inl i=>obtain⟨t,q⟩:=(show∃t,u=oh i t from bJ);subst q;rfl
  |inr x=>obtain⟨t,q⟩:=(show∃t,u=ve x t from bJ);subst q;rfl
 have aK:yj "dict.pop" ⟨.ref a::u::more,[]⟩:=by
  rcases hm with q|⟨x,q⟩
  .subst q;exact PySem.F.args_dict_pop_2 _ _
  .subst q;exact aev _ _ _
 refine BI Lv dd.typeIs aex aK (meets_dict_pop_there (gj X.prog X.w) a (q_ bJ) more hm aO)
  ⟨vs,e5,dd,by rw[<-rel.length];exact z,hw,λh' jI hs=>h e5 _ ?_ gY⟩
 have he:∃q,h'.get? a=some q:=let⟨q,_,_,aU,_⟩:=jI;⟨q,aU⟩
 exact v_ I (by rw[e];exact lC) hs he (E1 (eQ (Vj kvs k) z) hd (rel.drop k) jI)
theorem ag5{r:Value}{Q:cD}(I:Inv X pins σ H s)(e:H a=some (.b0 kvs))(bJ:RelV (dn k) u)(l:b1 kvs k=none)(h:∀s',Inv X pins σ H s'->Q r s'):
  aQ (a9 X.prog X.w) A (call (.builtin "dict.pop") [.ref a,u,r]) Q E s:=by
 obtain⟨z,hd,vs,rel,dd⟩:=w0 I.bb e;have aT:uE vs k=none:=iX.none_of (by rw[<-l];exact rel.val k);have aO:(keyPart u).isSome=true:=by
  cases k with
  |inl i=>obtain⟨t,q⟩:=(show∃t,u=oh i t from bJ);subst q;rfl
  |inr x=>obtain⟨t,q⟩:=(show∃t,u=ve x t from bJ);subst q;rfl
 exact BI Lv dd.typeIs aex (aev _ _ _) (meets_dict_pop_default (gj X.prog X.w) a (q_ bJ) hd aO r) ⟨vs,dd,aT,h _ (I.tok _)⟩
noncomputable def YM(i:Expr):Prop:=∀eT js,SG i false eT js=operate [eT,js] (CJ eT js)
end
theorem ae3{prog:bO}{w:bx}{A:c0}{E:cD}{s:aF}{env:Env}{value slice:Expr}{pos:Pos}{T id:String}{Q:cD}(aj:S' (.type T) "__getitem__"=pure (some (.builtin id)))(hs:YM slice)(h:aQ (a9 prog w) A (eval value env) (λo dU=>aQ (a9 prog w) A (eval slice env) (λi rm=>rm.TypeIs o T/\aQ (a9 prog w) A (CJ o i) Q E rm) E dU) E s):
  aQ (a9 prog w) A (eval (.Subscript value slice pos) env) Q E s:=by
 refine Yj (gn h (λo dU Pk=>gn Pk (λi rm Pl=>?_) λ_ _ x=>x) λ_ _ x=>x);obtain⟨j4,Pl⟩:=Pl;unfold ģ;refine ax ?_;rw[getitemInPython_of_ne j4.not_modules];refine ax (wpAny_specialOf j4 aj ?_);have fin:aQ (a9 prog w) A (SG slice false o i) (λr Ħ=>aQ (a9 prog w) A (letTemporaryGo value o r >>=λ_=>pure r) Q E Ħ) E rm:=by rw[hs o i];exact wpAny_operating (gn Pl (λr Ħ aoU=>ax (wpAny_letTemporaryGo (bj aoU))) λ_ _ x=>x)
 first
  |exact bj (ax fin)
  |exact ax (bj (ax fin))
  |exact ax fin
theorem aan{X:bg}{pins:cy}{σ:St}{H:ae}{s:aF}{a:Addr}{y:V}{o:Option V}(I:Inv X pins σ H s)(g:iY H a y o):s.TypeIs (.ref a) "dict":=by
 rcases g with⟨kvs,k,e,_,_⟩|⟨kvs,k,b,e,_,_,_⟩
 .obtain⟨_,_,vs,_,dd⟩:=z1 I.bb e;exact dd.typeIs
 .obtain⟨_,_,xs,_,dd⟩:=z2 I.bb e;exact dd.typeIs
noncomputable def aiD(bk ty:TE):TE:=λσ H Q=>bk σ H λx H1=>ty σ H1 λy ag=>∃a v,x=.ref a/\iY ag a y (some v)/\Q v ag
noncomputable def ae4(ty bk:TE):TE:=λσ H Q=>ty σ H λy H1=>bk σ H1 λx ag=>∃a o,x=.ref a/\iY ag a y o/\Q (.aM (!o.isSome)) ag
noncomputable def aiE(bk ty kf:TE):e8:=λD σ H=>kf σ H λv H1=>bk σ H1 λx ag=>ty σ ag λy a_=>∃a dP,x=.ref a/\o3 a_ a y v dP/\D.cj σ dP
section
variable{X:bg}{o i e value:Expr}{pos pos' EV:Pos}{bk ty kf:TE}
theorem lw(b7:X.A.units+1<cLine)(a3:bl X o bk)(ar:bl X i ty)(hs:YM i):bl X (.Subscript o i pos) (aiD bk ty):=by intro pins s σ H Q I h;refine ae3 PySem.F.slot_dict_getitem.lookup hs (bF (a3 pins s σ H _ I h) λu s1⟨x,H1,aR,bC,bQ⟩=>bF (ar pins s1 σ H1 _ aR bQ) λjs s2⟨y,ag,bD,bJ,a,v,ex,g,cZ⟩=>?_);subst ex;obtain rfl:u=cE a:=bC;exact⟨aan bD g,acd b7 bD g bJ λe5 s3 c5 gY=>⟨v,ag,c5,gY,cZ⟩⟩
theorem IE(b7:X.A.units+1<cLine)(ar:bl X i ty)(a3:bl X o bk):Lo X .NotIn i o (ae4 ty bk):=by intro pins s σ H Q I h;refine bF (ar pins s σ H _ I h) λjs s1⟨y,H1,aR,bJ,bQ⟩=>bF (a3 pins s1 σ H1 _ aR bQ) λu s2⟨x,ag,bD,bC,a,eT,ex,g,cZ⟩=>?_;subst ex;obtain rfl:u=cE a:=bC;exact afz b7 bD g bJ λs3 c5=>⟨.aM (!eT.isSome),ag,c5,rfl,cZ⟩
theorem zi(b7:X.A.units+1<cLine)(a3:bl X o bk)(ar:bl X i ty)(bz:bl X value kf)(hs:wN value (some (.Subscript o i pos')) pos.line X.env=pure false):
  fW X (.Assign [.Subscript o i pos'] value pos) (aiE bk ty kf):=by intro pins s σ H D I h;refine wpAny_Assign_Subscript (bF (bz pins s σ H _ I h) λr s1⟨v,H1,aR,cg,bQ⟩=>bF (a3 pins s1 σ H1 _ aR bQ) λu s2⟨x,ag,bD,bC,cZ⟩=>bF (ar pins s2 σ ag _ bD cZ) λjs s3⟨y,a_,c5,bJ,a,dP,ex,g,hE⟩=>?_) hs;subst ex;obtain rfl:u=cE a:=bC;exact ace b7 c5 g bJ cg λs4 jU=>⟨σ,dP,jU,hE⟩
theorem Vn{P:bO}{w:bx}{H:ae}(h:Heap)(U:lr<h.objs.size):el P w H (h.push {cls:=.type "dict",data:=.dict #[]}) h.objs.size (.b0 []):=
 ⟨e_ _,vk.mpr (cR (eN U)),[],.nil,Heap.DictOf.new h⟩
theorem ac6{P:bO}{w:bx}{H:ae}(h:Heap)(U:lr<h.objs.size):el P w H (h.push {cls:=.type "dict",data:=.dict #[]}) h.objs.size (.c3 []):=
 ⟨e_ _,vk.mpr (cR (eN U)),[],.nil,_,#[],0,gq _ rfl,⟨rfl,rfl,rfl⟩,rfl,rfl,sZ⟩
noncomputable def ag6:TE:=λ_ H Q=>∀p,H p=none->Q (.ref p) (upd H p (.b0 []))
noncomputable def ag7:TE:=λ_ H Q=>∀p,H p=none->Q (.ref p) (upd H p (.c3 []))
end
section
variable{X:bg}{pos:Pos}
theorem IU:bl X (.Dict [] [] pos) ag6:=λpins s σ H Q I h=>
 ar0 ⟨.ref s.heap.objs.size,_,I.laid (a:=s.heap.objs.size) (o:=.b0 []) (t':=s.toks) (λ_ _ q=>dM _ q) (cq _) (Vn s.heap I.big),rfl,h _ (I.bb.fresh (cq _))⟩
theorem ac7:bl X (.Dict [] [] pos) ag7:=λpins s σ H Q I h=>
 ar0 ⟨.ref s.heap.objs.size,_,I.laid (a:=s.heap.objs.size) (o:=.c3 []) (t':=s.toks) (λ_ _ q=>dM _ q) (cq _) (ac6 s.heap I.big),rfl,h _ (I.bb.fresh (cq _))⟩
noncomputable def Ki:List (TE×TE)->St->ae->(List (V×V)->ae->Prop)->Prop
 |[],_,H,Q=>Q [] H
 | (a5,kf)::r,σ,H,Q=>a5 σ H λx H1=>kf σ H1 λy ag=>Ki r σ ag λps a_=>Q ((x,y)::ps) a_
noncomputable abbrev YB:List (V×V)->List (Value×Value)->Prop:=bf λp q=>RelV p.1 q.1/\RelV p.2 q.2
end
noncomputable def F7(X:bg)(pos:Pos)(keys:List (Option Expr))(values:gO)(sD:List (TE×TE)):Prop:=
 ∀(pins:cy)(s:aF)(σ:St)(H:ae)(Q:List (V×V)->ae->Prop),Inv X pins σ H s->Ki sD σ H Q->
  aQ (a9 X.prog X.w) X.A (evalPairs (pairTrees keys values X.env pos)) (λvs s'=>∃ps H',Inv X pins σ H' s'/\YB ps vs/\Q ps H') X.d0 s
theorem ae5{X:bg}{pos:Pos}:F7 X pos [] [] []:=λpins s σ H Q I h=>pairTrees_nil_walk ⟨[],H,I,.nil,h⟩
theorem ac8{X:bg}{pos:Pos}{k v:Expr}{hb:List (Option Expr)}{vs:gO}{a5 kf:TE}{sD:List (TE×TE)}(aX:bl X k a5)(bz:bl X v kf)(aq:F7 X pos hb vs sD):
  F7 X pos (some k::hb) (v::vs) ((a5,kf)::sD):=λpins s σ H Q I h=>
 pairTrees_cons_walk (bF (aX pins s σ H _ I h) λu s1⟨x,H1,aR,bC,bQ⟩=>bF (bz pins s1 σ H1 _ aR bQ) λfU s2⟨y,ag,bD,bJ,cZ⟩=>
  bF (aq pins s2 σ ag _ bD cZ) λws s3⟨ps,a_,c5,rel,hE⟩=>⟨(x,y)::ps,a_,c5,.cons ⟨bC,bJ⟩ rel,hE⟩)
noncomputable def zB(kvs more:List (a'×V)):List (a'×V):=more.foldl (λacc cf=>d7 acc cf.1 cf.2) kvs
theorem gC.merge:∀{more:List (a'×V)}{rs:List (a'×Value)}{kvs:List (a'×V)}{vs:List (a'×Value)},gC more rs->gC kvs vs->gC (zB kvs more) (merged vs rs):=by
 intro more rs kvs vs r;unfold gC at r
 induction r generalizing kvs vs with
 |nil=>intro q;exact q
 |@cons p q ps dQ h t a6=>
  intro r0;have e:gC (d7 kvs p.1 p.2) (stored vs q.1 q.2):=by have:=r0.put p.1 h.2;rw[<-h.1];exact this
  exact a6 e
theorem ĉ:∀(more kvs:List (a'×V)),(zB kvs more).length<=kvs.length+more.length
 |[],kvs=>by show kvs.length<=kvs.length+0;omega
 |p::r,kvs=>by have af:=ĉ r (d7 kvs p.1 p.2);have ai:=Du kvs p.1 p.2;show(zB (d7 kvs p.1 p.2) r).length<=_;rw[l6];omega
theorem Ľ{P:bO}{w:bx}:∀{kvs:List (a'×V)}{ws:List (Value×Value)},YB (kvs.map λcf=>(dn cf.1,cf.2)) ws->∃rs,Carries (gj P w) ws rs/\gC kvs rs
 |[],_,r=>by rw[F1]at r;cases r;exact⟨[],lC,.nil⟩
 |p::kvs,_,r=>by
  rw[hQ]at r;cases r with
  |@cons a b as bs h t=>
   obtain⟨rs,c,q⟩:=Ľ (P:=P) (w:=w) t;obtain⟨fD,fL⟩:=b;exact⟨(p.1,fL)::rs,⟨q_ h.1,rfl,c⟩,.cons ⟨rfl,h.2⟩ q⟩
noncomputable def aiF(sD:List (TE×TE)):TE:=λσ H Q=>∀p,H p=none->Ki sD σ (upd H p (.b0 [])) λps ag=>ag p=some (.b0 [])/\∃kvs:List (a'×V),ps=kvs.map (λcf=>(dn cf.1,cf.2))/\kvs.length<=15/\Q (.ref p) (upd ag p (.b0 (zB [] kvs)))
theorem ae6{X:bg}{pos:Pos}{keys:List (Option Expr)}{values:gO}{sD:List (TE×TE)}(h:F7 X pos keys values sD)(vM:keys.all (·.isSome)=true)(aj:keys.length=values.length)(h0:keys≠[])(anq:keys.length<=15):bl X (.Dict keys values pos) (aiF sD):=by
 intro pins s σ H Q I q;have aT:=I.bb.fresh (cq s.heap.objs.size);have aR:=I.laid (a:=s.heap.objs.size) (o:=.b0 []) (h':=s.heap.push {cls:=.type "dict",data:=.dict #[]}) (t':=s.toks) (λ_ _ q=>dM _ q) (cq _) (Vn s.heap I.big);refine wpAny_Dict_walk (knd:=gj X.prog X.w) vM aj h0 anq (bF (h pins _ σ _ _ aR (q _ aT)) λws s2⟨ps,ag,bD,rel,e,kvs,ep,lk,cZ⟩=>?_);subst ep;obtain⟨rs,c,uu⟩:=Ľ (P:=X.prog) (w:=X.w) rel;obtain⟨z,hd,auT,r0,dd⟩:=w0 bD.bb e;cases r0;refine⟨rs,c,dd,λh' jI hs=>⟨.ref s.heap.objs.size,_,?_,rfl,cZ⟩⟩;have hz:(zB [] kvs).length<=sizeLine:=by have af:=ĉ kvs [];rw[A2]at af;rw[p5];omega
 have he:∃q,h'.get? s.heap.objs.size=some q:=let⟨q,_,_,aU,_⟩:=jI;⟨q,aU⟩
 exact v_ bD (by rw[e];exact lC) hs he (E1 hz hd (uu.merge .nil) jI)
structure dx(X:bg)(o:Expr)(m:Str)(eX:Pos)(e:Expr)(fb:Pos):Prop where
 base:vh o m X.env (eval o X.env)=eval o X.env
 eh:((hA fb (dV [e] X.env)).all (λx=>!x.1)&&(kO fb (k' [] X.env)).all (λx=>x.1.isSome)
  && decide (([e]:gO).length+([]:List uY).length+(if([]:List uY).isEmpty then 0 else 1)<30))=true
 line:(eX.endLine==fb.line)=true
 trees:hA fb (dV [e] X.env)=[(false,eval e X.env)]
structure M2(X:bg)(o:Expr)(m:Str)(eX:Pos)(e f:Expr)(fb:Pos):Prop where
 base:vh o m X.env (eval o X.env)=eval o X.env
 eh:((hA fb (dV [e,f] X.env)).all (λx=>!x.1)&&(kO fb (k' [] X.env)).all (λx=>x.1.isSome)
  && decide (([e,f]:gO).length+([]:List uY).length+(if([]:List uY).isEmpty then 0 else 1)<30))=true
 line:(eX.endLine==fb.line)=true
 trees:hA fb (dV [e,f] X.env)=[(false,eval e X.env),(false,eval f X.env)]
noncomputable def xP(H:ae)(a:Addr):Prop:=(∃kvs,gD H a (.b0 kvs))\/∃kvs,gD H a (.c3 kvs)
theorem JS{X:bg}{pins:cy}{σ:St}{H:ae}{s:aF}{a:Addr}(I:Inv X pins σ H s)(d:xP H a):
  s.TypeIs (.ref a) "dict"/\(∀b,cE a=.ref b->∃ob,s.heap.get? b=some ob/\ob.dict=none)/\(a==lr)=false:=by
 rcases d with⟨kvs,e⟩|⟨kvs,e⟩
 .obtain⟨_,hd,vs,_,dd⟩:=z1 I.bb e;refine⟨dd.typeIs,λb q=>?_,hd⟩;cases q;obtain⟨ob,_,_,af,ai,_⟩:=dd;exact⟨ob,af,ai.2.1⟩
 .obtain⟨_,hd,xs,_,dd⟩:=z2 I.bb e;refine⟨dd.typeIs,λb q=>?_,hd⟩;cases q;obtain⟨ob,_,_,af,ai,_⟩:=dd;exact⟨ob,af,ai.2.1⟩
section
variable{X:bg}{pins:cy}{σ:St}{H:ae}{s:aF}{a:Addr}{y d:V}{u r:Value}{o:Option V}{A:c0}{E:cD}
theorem ag8{Q:cD}(b7:A.units+1<cLine)(I:Inv X pins σ H s)(g:iY H a y o)(bJ:RelV y u)(h:∀e5 s',Inv X pins σ H s'->RelV (o.getD .bq) e5->Q e5 s'):
  aQ (a9 X.prog X.w) A (call (.builtin "dict.get") [.ref a,u]) Q E s:=by
 rcases g with⟨kvs,k,e,f5,l⟩|⟨kvs,k,b,e,f5,ef,l⟩
 .subst f5;obtain⟨z,hd,vs,rel,dd⟩:=z1 I.bb e;refine BI X1 dd.typeIs aew (aeu _ _) (meets_dict_get (gj X.prog X.w) a (q_ bJ) hd) ⟨_,dd.mapOf,h _ _ (I.tok _) ?_⟩;rw[l];exact(rel.val k).getD rfl
 .subst f5;cases(show u=cE b from bJ);obtain⟨z,hd,xs,rel,dd⟩:=z2 I.bb e;refine BI X1 dd.typeIs aew (aeu _ _) (meetsH_dict_get (mB (gj X.prog X.w)) a b hd) ⟨Jh b7,k,xs,wq I.bb ef,dd,h _ _ (I.tok _) ?_⟩;rw[l];exact(rel.val k).getD rfl
end
noncomputable def ag9(bk ty:TE):TE:=λσ H Q=>bk σ H λx H1=>∃a,x=.ref a/\xP H1 a/\ty σ H1 λy ag=>∃o,iY ag a y o/\Q (o.getD .bq) ag
noncomputable def aha(bk ty kg:TE):TE:=λσ H Q=>bk σ H λx H1=>∃a,x=.ref a/\xP H1 a/\ty σ H1 λy ag=>kg σ ag λz a_=>∃kvs k,a_ a=some (.b0 kvs)/\y=dn k/\
 (∀v,b1 kvs k=some v->Q v (upd a_ a (.b0 (uC kvs k))))/\(b1 kvs k=none->Q z a_)
section
variable{X:bg}{o e f:Expr}{eX fb:Pos}{bk ty kg:TE}
theorem TJ(b7:X.A.units+1<cLine)(a3:bl X o bk)(he:bl X e ty)(m:dx X o "get" eX e fb):bl X (.Call (.Attribute o "get" eX) [e] [] fb) (ag9 bk ty):=by intro pins s σ H Q I h;refine T3 m.base m.eh m.line F_ X1 PySem.F.type_dict_get (bF (a3 pins s σ H _ I h) λu s1⟨x,H1,aR,bC,a,ex,d,bQ⟩=>?_);subst ex;obtain rfl:u=cE a:=bC;obtain⟨t1,eP,_⟩:=JS aR d;refine⟨t1,eP,?_⟩;rw[m.trees];refine Ad rfl (Ae (uM (bF (he pins s1 σ H1 _ aR bQ) λjs s2⟨y,ag,bD,bJ,eT,g,cZ⟩=>Fv ?_)));exact ag8 b7 bD g bJ λe5 s3 c5 gY=>⟨_,ag,c5,gY,cZ⟩
theorem Vo(a3:bl X o bk)(he:bl X e ty)(hf:bl X f kg)(m:M2 X o "pop" eX e f fb):bl X (.Call (.Attribute o "pop" eX) [e,f] [] fb) (aha bk ty kg):=by
 intro pins s σ H Q I h;refine T3 m.base m.eh m.line F_ Lv aeE (bF (a3 pins s σ H _ I h) λu s1⟨x,H1,aR,bC,a,ex,d,bQ⟩=>?_);subst ex;obtain rfl:u=cE a:=bC;obtain⟨t1,eP,_⟩:=JS aR d;refine⟨t1,eP,?_⟩;rw[m.trees];refine Ad rfl (Ae (uM (bF (he pins s1 σ H1 _ aR bQ) λjs s2⟨y,ag,bD,bJ,cZ⟩=>
  uM (bF (hf pins s2 σ ag _ bD cZ) λdK s3⟨z,a_,c5,rh,kvs,k,au,f5,hE,sl⟩=>Fv ?_))))
 subst f5;cases l:b1 kvs k with
 |some v=>exact aiC c5 au bJ l (.inr ⟨dK,rfl⟩) λe5 s4 jU gY=>⟨v,_,jU,gY,hE v l⟩
 |none=>exact ag5 c5 au bJ l λs4 jU=>⟨z,a_,jU,rh,sl l⟩
end
section
variable{κ:Type}[DecidableEq κ]
theorem Vp{kvs:List (κ×V)}{k:κ}(h:b1 kvs k=none):¬k∈kvs.map (·.1):=by intro m;obtain⟨p,aO,e⟩:=b4.mp m;have q:(kvs.any λcf=>decide (cf.1=k))=true:=qe.mpr ⟨p,aO,cu e⟩;rw[oy,h]at q;exact bG q (by simp)
theorem TO{kvs:List (κ×V)}{k:κ}{v:V}(h:b1 kvs k=some v):k∈kvs.map (·.1):=by
 have q:(kvs.any λcf=>decide (cf.1=k))=true:=by
  rw[oy,h]
  all_goals rfl
 obtain⟨p,aO,e⟩:=qe.mp q;exact b4.mpr ⟨p,aO,ju e⟩
theorem VY:∀{l:List κ}{k:κ},l.Nodup->¬k∈l->(l++[k]).Nodup
 |[],k,_,_=>by simp
 |a::r,k,h,aX=>by
  obtain⟨af,ai⟩:=iP.mp h;show(a::(r++[k])).Nodup;refine iP.mpr ⟨λm=>?_,VY ai λm=>aX (c'.mpr (rN m))⟩;rcases hj.mp m with q|q
  .exact af q
  .exact aX (c'.mpr (cb (hr.mp q).symm))
theorem ae7{kvs:List (κ×V)}{k:κ}(v:V)(aT:(kvs.map (·.1)).Nodup)(h:b1 kvs k=none):((d7 kvs k v).map (·.1)).Nodup:=by rw[y0 v h,eU];exact VY aT (Vp h)
end
end ao
namespace ct
section
open PySem PySem.Spec PyProof.Rows
open PySem.Builtin PySem.Builtin.Getset_descriptor
structure lj(K:aV)(C:Addr):Prop where
 ga:b5 K (.ref C) "__getattribute__"=some (some (.builtin "BaseException.__getattribute__"))
 no:b5 K (.ref C) "__getattr__"=some none
 aK:b5 K (.ref C) "__class__"=some (some (.builtin "object.__class__"))
 aT:ta K (.builtin "object.__class__") "__get__"=some (some (.builtin "getset_descriptor.__get__"))
 HF:Br K (.builtin "object.__class__")=some true
 hm:ql K C (.type "object")=some true
 U:ql K C (.type "BaseException")=some true
noncomputable def ry(h:Heap)(x C:Addr):Prop:=∃o,h.get? x=some o/\o.cls=.ref C
theorem ry.type{M:lA}{h:Heap}{x C:Addr}(I:ry h x C):qk M h (typeOf (.ref x)) (.ref C):=by obtain⟨o,e,c⟩:=I;rw[<-c];exact(X2 e).andThen .now
section
variable{prog:bO}{w:bx}{A:c0}{E:cD}{s:aF}{K:aV}{x C:Addr}{name:Str}
theorem Ű{M:lA}{ç:Value}{Q:Unit->aF->Prop}(X:K.In s.heap)(c:lj K C)(I:ry s.heap x C)(aU:Q () s):
  aQ M A (alI "BaseException.__getattribute__" ⟨[.ref x,ç],[]⟩) Q E s:=by
 have aX:builtinKind "BaseException.__getattribute__"=some .slot:=by decide+kernel
 have aoF:splitId "BaseException.__getattribute__"=some ("BaseException","__getattribute__"):=by decide+kernel
 have aK:=F.args_bexc_ga (.ref x) ç;have pj:qk M s.heap (HN (.ref x) (.type "BaseException")) true:=I.type.andThen (aeR X c.U);obtain⟨h,g,d,t,os⟩:=s;simp only[alI,aX,aoF];refine ax (pj.at ?_)
 repeat (first|assumption|wp_step)
theorem Xk{fill expr:Bool}{a5:Tok}{Q:cD}(X:K.In s.heap)(c:lj K C)(I:ry s.heap x C)(h:∀hg:c0,jX (a9 prog w) hg (.call (.builtin "BaseException.__getattribute__") ⟨[.ref x,.str name a5],[]⟩) (λr s'=>match r with|.ok (.ret v)=>aQ (a9 prog w) A (θ v) Q E s'|_=>False) s):
  aQ (a9 prog w) A (NY (.ref x) (.str name a5) fill expr) Q E s:=by
 have x2:=I.type (M:=a9 prog w);have uZ:=rO (M:=a9 prog w) X c.ga;have ao:=rO (M:=a9 prog w) X c.no;have cz:=F.excAttr_ValueError.ga.bind (.ref x);have aoO:(expr&&ÿ (vd "BaseException.__getattribute__"))=false:=by cases expr<;>rfl
 have aoP:(vd "BaseException.__getattribute__"==vd "object.__getattribute__")=false:=by decide+kernel
 have r8:(ÿ (cE C)&&vd "BaseException.__getattribute__"==vd "object.__getattribute__")=false:=by rw[aoP];rfl
 obtain⟨dm,g,d,t,os⟩:=s;unfold NY;refine iL (ax (x2.at (ax (uZ.at ?_))));dsimp only;rw[bE (by rw[r8];exact fp)];unfold getAttrByItsOwn hookBefore;rw[bM (show ÿ (cE C)=true from rfl)];refine ax (ao.at ?_);refine ax (zP (iL ?_));unfold callGetattribute;rw[bE (by rw[aoO];exact fp)];unfold boundAndCalled;rw[cz];refine ax (bj ?_);refine p' (rR (h _) λr s' aq=>?_);rcases r with e|(_|_|_|v)<;>first|exact aq|exact aq.elim
theorem ac9{R:nu->aF->Prop}{dg:Value}(X:K.In s.heap)(I:ry s.heap x C)(hm:ql K C (.type "object")=some true)(h:R (.ok (.ret (.ref C))) s):
  jX (a9 prog w) A (.call (.builtin "getset_descriptor.__get__") ⟨[.builtin "object.__class__",.ref x,dg],[]⟩) R s:=by
 have x2:=I.type (M:=a9 prog w);have as7:=aeR (M:=a9 prog w) X hm;obtain⟨h0,g,d,t,os⟩:=s;refine vq aeF.plain atA ?_;refine aeF.check _ _ _ _ _ _ _ _ atD (aty _ _ _) ?_;unfold Builtin.«getset_descriptor.__get__» descrGet;rw[PySem.W.dga_obj];refine ax (bj ?_);unfold descrGetter descrCheckInstance descrNameAndClass HN;simp only[atB]
 repeat lk
 refine⟨J_ _ (by decide+kernel),mU atz ?_⟩;unfold Builtin.«object.__class__» shownTypeOf
 repeat lk
 exact h
theorem acf{M:lA}{h:Heap}{a g:Value}(X:K.In h)(aK:b5 K (.ref C) name=some (some a))(bP:ta K a "__get__"=some (some g))(df:Br K a=some true):
  qk M h (Vm (.ref x) (.ref C) name) (.bind g a):=by
 have uZ:=rO (M:=M) X aK;have ao:qk M h (asX (some a)) (some g):=PySem.W.looks_specialIn X bP;have ct:=PySem.W.looks_takesIn (M:=M) X df;unfold Vm;refine uZ.andThen (ao.andThen ?_);have acH:qk M h (aau (some a) (some g)) (some (g,a)):=by unfold aau;refine ct.andThen ?_;exact .now
 exact acH.andThen (PySem.W.Looks.tag .now)
theorem lj.some(c:lj K C):(Ga K C).isSome=true:=by have h:=c.hm;unfold ql at h;obtain⟨cd,a,_⟩:=Option.bind_eq_some_iff.mp h;rw[a];rfl
theorem acg{fill expr:Bool}{a5:Tok}{Q:cD}(X:K.In s.heap)(c:lj K C)(I:ry s.heap x C)(h:Q (.ref C) s):
  aQ (a9 prog w) A (NY (.ref x) (.str "__class__" a5) fill expr) Q E s:=by refine Xk X c I λhg=>vq F.excAttr_ValueError.ga.plain F.entry_bexc_ga (Ű X c I ?_);have x2:=I.type (M:=a9 prog w);have uZ:=acf (M:=a9 prog w) (x:=x) X c.aK c.aT c.HF;obtain⟨dm,g,d,t,os⟩:=s;unfold Builtin.«object.__getattribute__»;have i0:slotArgs "__getattribute__" 1 ⟨[.ref x,.str (eR "__class__") a5],[]⟩=pure (.ref x,[.str (eR "__class__") a5]):=rfl;rw[i0];refine ax (bj ?_);dsimp only;have an:aat (.str (eR "__class__") a5)=pure (eR "__class__"):=rfl;rw[an];refine ax (bj (ax (x2.at (ax (uZ.at ?_)))));dsimp only;unfold asW;show aQ _ _ (mm [vd "object.__class__"] (call (vd "getset_descriptor.__get__") [vd "object.__class__",cE x,cE C]) >>=ret) _ _ _;refine ax (iL (p' (ac9 X I c.hm ?_)));refine bj ?_;show aQ _ _ (θ (.ref C)) _ _ _;exact bj h
theorem ae8{Q:Option Value->aF->Prop}(X:K.In s.heap)(c:lj K C)(I:ry s.heap x C)(h:Q (some (.ref C)) {s with toks:=s.toks+1}):aQ (a9 prog w) A (NX (.ref x) "__class__") Q E s:=by unfold NX getAttrBy?;refine ax (T8 (ax (zP ?_)));refine acg (s:={s with toks:=s.toks+1}) X c I ?_;exact bj h
end
end
open PySem PySem.Spec PyProof.Rows ao
theorem acI{K:aV}{C:Addr}{M:lA}{h:Heap}(c:lj K C)(X:K.In h):qk M h (isType (.ref C)) true:=by
 obtain⟨cd,ay⟩:=rM.mp c.some;unfold Ga at ay;split at ay
 .rename_i jH me Zk Np a3;intro A Q E s k q;unfold isType loadHead;exact ax (ar5 (k _ _ (X _ _ a3)) (bj q))
 .cases ay
theorem DZ{K:aV}{au C:Addr}(c:lj K C):PySem.W.KitX K (.ref au) (.ref C) (λh=>ry h au C)where
 ty:=λ_ _ _ I=>I.type
 it:=λ_ _ X _=>acI c X
 ne:=λh dg dd its n bo X aoI=>by
  refine xd.mpr λq=>?_;have e:C=dg:=Value.ref.inj (pG.mp q);subst e;obtain⟨cd,ay⟩:=rM.mp c.some;unfold Ga at ay;split at ay
  .rename_i jH me Zk Np a3;have z:=(X _ _ a3).symm.trans aoI;cases z
  .cases ay
 ca:=λX I k=>ae8 X c I k
section
variable{X:bg}
theorem atG:j8 X (.builtin "isinstance") (λxs H Q=>∃(au C p:Addr)(cs:bS)(b:Bool),xs=[.ref au,.ref p]/\H au=some (kC au C)/\H p=some (.tup (cs.map V.ref))/\lj X.K C/\PySem.W.kitAny X.K (.ref C) (cs.map cE)=some b/\Q (.aM b) H):=by
 intro pins s σ H xs us Q I r h;obtain⟨au,C,p,cs,b,rfl,ik,aO,c,qZ,q⟩:=h;obtain⟨u,e5,rfl,ez,gY⟩:=vals2 r;cases ez;cases gY;obtain⟨ty,_,_⟩:=(show el X.prog X.w H s.heap au (kC au C)from I.bb au _ ik)
 obtain⟨rA,its,cg,⟨mu,ea,aqp,oS⟩,a3,ay,n,hd⟩:=(show el X.prog X.w H s.heap p (.tup (cs.map V.ref))from I.bb p _ aO)
 simp only at ay hd;subst ay hd;have ey:its=cs.map cE:=by
  clear a3 aO qZ rA
  induction cs generalizing its with
  |nil=>cases cg;rfl
  |cons mb cw a6=>
   cases cg with
   |cons ck dZ=>
    cases ck;rw[a6 _ dZ];rfl
 rw[ey]at a3;exact PySem.W.kia_tup (DZ c) I.eD ty a3 qZ (λz=>nomatch z) λa5=>⟨.aM b,H,I.tok a5,rfl,q⟩
theorem IF:j8 X (.builtin "isinstance") (λxs H Q=>∃(au C:Addr)(b:Bool),H au=some (kC au C)/\lj X.K C/\((∃R,xs=[.ref au,.ref R]/\h8 X.K (.ref C) (.ref R)=some b)\/∃T,xs=[.ref au,.ty T]/\h8 X.K (.ref C) (.type T)=some b)/\Q (.aM b) H):=by
 intro pins s σ H xs us Q I r h;obtain⟨au,C,b,ik,c,j7,q⟩:=h;obtain⟨ty,_,_⟩:=(show el X.prog X.w H s.heap au (kC au C)from I.bb au _ ik)
 rcases j7 with⟨R,rfl,qZ⟩|⟨T,rfl,qZ⟩
 .obtain⟨u,e5,rfl,ez,gY⟩:=vals2 r;cases ez;cases gY;exact mO (DZ c) I.eD ty qZ (λz=>nomatch z) λa5=>⟨.aM b,H,I.tok a5,rfl,q⟩
 .obtain⟨u,e5,rfl,ez,gY⟩:=vals2 r;cases ez;cases gY;exact mO (DZ c) I.eD ty qZ (λz=>nomatch z) λa5=>⟨.aM b,H,I.tok a5,rfl,q⟩
theorem YN{k:Nat}{A:c0}(r:gk k A):A.units+65<cLine:=by have:=r.un;omega
inductive aiG(K:aV)(neg:Bool)(x:ao.V)(y:ao.V)(H:ae)(Q:ba):Prop where
 |mk (d:_) (ds:_) (bV:mE K H x d) (bA:mE K H y (.list ds)) (cn:qn d=true) (di:qj ds=true) (d8:Q (.aM (if neg then !(ds.any λz=>ht z d)else ds.any λz=>ht z d)) H)
noncomputable def ajA(K:aV)(neg:Bool):hu:=λx y H Q=>aiG K neg x y H Q
theorem acJ{A:c0}{ds:fY}{d:PyData}(dR:qn d=true)(b7:A.units+65<cLine):A.units+1+min (u3 ds) d.depth<cLine:=by have af:=SeqAt.depth_of_shaped dR;have ai:min (u3 ds) d.depth<=d.depth:=Xz _ _;omega
theorem W0(b7:X.A.units+65<cLine):gL X (jF .In) (ajA X.K false):=by intro pins s σ H x y v u Q I bC bJ h;obtain⟨d,ds,hd,he,dR,dk,q⟩:=h;obtain⟨as,gI⟩:=vZ I hd bC;obtain⟨bs,nY⟩:=vZ I he bJ;exact SeqAt.in_list_reads nY gI dk (SeqAt.canLay_of_shaped dR) (acJ dR b7) ⟨.aM _,H,I,rfl,q⟩
end
end ct
namespace dW
open PySem ao ct
theorem gF:i5 "len"=some (.builtin "len"):=by decide+kernel
theorem jD:i5 "isinstance"=some (.builtin "isinstance"):=by decide+kernel
theorem Kj:i5 "all"=some (.builtin "all"):=by decide+kernel
theorem JT:i5 "int"=some (.type "int"):=by decide+kernel
theorem UO:i5 "bool"=some (.type "bool"):=by decide+kernel
theorem agO:i5 "str"=some (.type "str"):=by decide+kernel
theorem oD:i5 "list"=some (.type "list"):=by decide+kernel
theorem y1:i5 "tuple"=some (.type "tuple"):=by decide+kernel
theorem agP:i5 "set"=some (.type "set"):=by decide+kernel
theorem asv:i5 "ValueError"=some (.type "ValueError"):=by decide+kernel
structure gp(mg:cI):Prop where
 len:mg "len"=none
 range:mg "range"=none
 isinstance:mg "isinstance"=none
 Nc:mg "all"=none
 int:mg "int"=none
 bool:mg "bool"=none
 str:mg "str"=none
 list:mg "list"=none
 tuple:mg "tuple"=none
 ara:mg "set"=none
 ValueError:mg "ValueError"=none
 enumerate:mg "enumerate"=none
 max:mg "max"=none
 min:mg "min"=none
 sum:mg "sum"=none
 atI:mg "any"=none
 dict:mg "dict"=none
 sorted:mg "sorted"=none
 zip:mg "zip"=none
structure dO(K:aV)(mg:cI)(x:Str)(st:Stmt)(ps:b9)(f:Addr)(fd:cF):Prop where
 fn:bB K x x st f fd
 at_:mg x=some (.ref f)
 bd:Binds K fd ps []
structure c6(K:aV)(C:Addr)(m qual:Str)(st:Stmt)(ps:b9)(f:Addr)(fd:cF):Prop where
 fn:bB K m qual st f fd
 eo:Meth K C m f
 bd:Binds K fd ps []
structure rJ(K:aV)(C:Addr)(qual:Str)(st:Stmt)(ps:b9)(f:Addr)(fd:cF):Prop where
 fn:bB K "__init__" qual st f fd
 made:oa K C f
 bd:Binds K fd ps []
noncomputable def rF(mg:cI)(x:Str)(i:Int):Prop:=∃t,mg x=some (.int i t)
theorem tR{X:bg}{x:Str}{i:Int}{pos:Pos}(bP:i3 X x)(h:rF X.mg x i)(hd:(x==("__debug__":Str))=false:=by decide):bl X (.Name x pos) (sC (.int i)):=by obtain⟨t,e⟩:=h;exact V_ bP e ⟨t,rfl⟩ hd
theorem lJ{X:bg}{x:Str}{T:String}{pos:Pos}(bP:i3 X x)(hm:X.mg x=none)(bz:i5 x=some (.type T))(aT:x≠"__name__":=by decide)(hd:(x==("__debug__":Str))=false:=by decide):bl X (.Name x pos) (sC (.ty T)):=
 afo (v:=.ty T) bP hm bz rfl aT hd
theorem JU{X:bg}{x:Str}{C:Addr}{pos:Pos}(bP:i3 X x)(hm:X.mg x=some (.ref C))(hd:(x==("__debug__":Str))=false:=by decide):bl X (.Name x pos) (sC (.ref C)):=
 V_ (v:=.ref C) bP hm rfl hd
theorem Jn{dh:TI}{cs:lD}{b3:TE}{σ rest:ao.St}{H H1:ae}{Q:ba}{J:f9}{xs:aZ}(hw:∀R:f9->ae->Prop,R J H1->dh σ H R)(ij:il cs σ=none::rest)(dN:oi J H1 xs)(aj:xs.length<sizeLine)(f:ao.V->ao.V)(elt:∀(i:Nat)(x:ao.V)(ag:ae)(R:ba),xs[i]?=some x->aN H1 ag->(∀bw,aN ag bw->R (f x) bw)->b3 (some x::rest) ag R)(fin:∀(D:Addr)(H':ae),H1 D=none->H' D=some (.lst (xs.map f))->aN H1 H'->Q (.ref D) H'):n1 dh cs (hX 0) sN b3 σ H Q:=hw _ (ag0 ij dN aj f elt fin)
theorem Xn{dh:TI}{cs:lD}{tt:TT}{b3:TE}{σ rest:ao.St}{H H1:ae}{Q:ba}{J:f9}{xs:aZ}(hw:∀R:f9->ae->Prop,R J H1->dh σ H R)(ij:il cs σ=none::rest)(dN:oi J H1 xs)(aj:xs.length<sizeLine)(p:ao.V->Bool)(f:ao.V->ao.V)(test:∀(i:Nat)(x:ao.V)(ag:ae)(R:Bool->ae->Prop),xs[i]?=some x->aN H1 ag->(∀bw,aN ag bw->R (p x) bw)->tt (some x::rest) ag R)(elt:∀(i:Nat)(x:ao.V)(ag:ae)(R:ba),xs[i]?=some x->p x=true->aN H1 ag->(∀bw,aN ag bw->R (f x) bw)->b3 (some x::rest) ag R)(fin:∀(D:Addr)(H':ae),H1 D=none->H' D=some (.lst ((xs.filter p).map f))->aN H1 H'->Q (.ref D) H'):n1 dh cs (hX 0) tt b3 σ H Q:=hw _ (KX ij dN aj p f test elt fin)
theorem E3(K:aV)(t:String):h8 K (.type t) (.type t)=some true:=by unfold h8;exact bM (by simp)
theorem w1{X:bg}:pS (ed X.prog X.w) X rG:=by rintro pins σ H s e s' I ⟨_,_,_,_,_,_,_,z⟩;exact z.elim
theorem lK{cl big:List (Str×Addr)}(h:∀p∈cl,big.lookup p.1=some p.2)(x:Str)(c:Addr)(e:cl.lookup x=some c):big.lookup x=some c:=by
 induction cl with
 |nil=>cases e
 |cons p r a6=>
  obtain⟨y,d⟩:=p;rw[List.lookup_cons]at e;by_cases U:(x==y)=true
  .rw[U]at e;cases e;have:=h (y,c) (sY ..);rw[show x=y from eq_of_beq U];exact this
  .rw[Bool.not_eq_true]at U;rw[U]at e;exact a6 (λp aO=>h p (mL _ aO)) e
end dW
namespace dx
open PySem
noncomputable def Ba(l:dI):Prop:=1<=l.length/\l.length<=8/\∀x∈l,97<=x/\x<=122
structure gD where
 a:Nat
 b:Nat
 t:Int
 m:Int
abbrev bT:= List gD
structure gD.Ok(r:gD)(n:Nat):Prop where
 a:r.a<n
 b:r.b<n
 ne:r.a≠r.b
 t:1<=r.t/\r.t<=9
 m:1<=r.m/\r.m<=1000000000
end dx
namespace dW
open PySem ao ct dx
section
variable{P:bO}{w:bx}{K:aV}{mg:cI}{base:Heap}
noncomputable abbrev S(l:dI):Str:=⟨l.toArray⟩
theorem ae9{ns:g8}{k:Int}(h0:0<=k)(af:k<(ns.map V.int).length):hx (ns.map V.int) k=some (V.int (ns.getD k.toNat 0)):=by
 have ai:k.toNat < ns.length:=by rw[bp]at af;omega
 have e:(ns.map V.int)[k.toNat]?=some (V.int (ns.getD k.toNat 0)):=by rw[c9,dv ai];simp[eL,ai]
 have:=iQ e
 rwa [uW h0]at this
inductive aiH(K:aV)(vs:aZ)(H:ae)(Q:ba)(bN:b6):Prop where
 |mk (a:Addr) (ns:g8) (k:Int) (bV:vs=[.ref a,.int k]) (bA:aJ K H a (ns.map V.int)) (cn:0<=k) (di:Q (.int (ns.getD k.toNat 0)) H)
noncomputable def LG(K:aV):cM:=λvs H Q bN=>aiH K vs H Q bN
theorem aax:(eR "abcdefghijklmnopqrstuvwxyz").cps.toList=(ek 26).map (97+·):=by decide+kernel
theorem adv{i:Int}(h0:0<=i)(af:i<26):hx (eR "abcdefghijklmnopqrstuvwxyz").cps.toList i=some (97+i.toNat):=by
 have e:(eR "abcdefghijklmnopqrstuvwxyz").cps.toList[i.toNat]?=some (97+i.toNat):=by rw[aax,c9,acV (by omega)];rfl
 have:=iQ e
 rwa [uW h0]at this
theorem w2(a b:dI):S a++S b=S (a++b):=by show Str.append _ _=_;simp[Str.append,S]
theorem ra(a:dI):(S a).length=a.length:=by simp[S,Str.length]
noncomputable def cK(hs:bc):List ao.V:=hs.map λl=>V.str (S l)
theorem UP(hs:bc):cK hs=(hs.map S).map V.str:=by simp[cK]
theorem VZ(l:dI):signs (S l)=l.map λc=>V.str (S [c]):=by simp[signs,S]
noncomputable def lU(hs:bc)(r:dx.gD):List ao.V:=[.str (S (hs.getD r.a [])),.str (S (hs.getD r.b [])),.int r.t,.int r.m]
noncomputable def d_(H:ae):List Addr->List aZ->Prop:=bf λr d=>H r=some (.tup d)
theorem d_.same{H H':ae}(aH:aN H H'){rs ds}(h:d_ H rs ds):d_ H' rs ds:=bf.eE h λ_ _ e=>aH _ _ e
noncomputable def aC(rs:bS):List ao.V:=rs.map V.ref
theorem Paired.snoc{α β:Type}{F:α->β->Prop}{x:α}{y:β}(q:F x y):∀{l:List α}{m:List β},bf F l m->bf F (l++[x]) (m++[y])
 |_,_,.nil=>.cons q .nil
 |_,_,.cons r t=>.cons r (Paired.snoc q t)
theorem Xo{hs:bc}{k:Int}(h0:0<=k)(af:k<hs.length):hx (cK hs) k=some (V.str (S (hs.getD k.toNat []))):=by
 have ai:k.toNat < hs.length:=by omega
 have e:(cK hs)[k.toNat]?=some (V.str (S (hs.getD k.toNat []))):=by unfold cK;rw[c9,dv ai];simp[eL,ai]
 have:=iQ e
 rwa [uW h0]at this
theorem Jo(hs:bc):(cK hs).length=hs.length:=bp ..
theorem kp{H H':ae}{p:Addr}{o:ee}(aO:H p=none)(aH:aN H H'):aN H (upd H' p o):=λb u e=>by rw[aA (bZ e aO)];exact aH b u e
theorem d_.upd{H:ae}{p:Addr}{o u:ee}{rs ds}(h:d_ H rs ds)(e:H p=some u)(b7:∀d,u≠.tup d):d_ (upd H p o) rs ds:=bf.eE h λr d q=>by
 rw[aA]
 .exact q
 .rintro rfl;rw[e]at q;exact b7 d (hF q)
theorem rX(rs:bS)(t:Addr):aC rs++[V.ref t]=aC (rs++[t]):=by simp[aC]
theorem eI(rs:bS):(aC rs).length=rs.length:=bp ..
theorem d_.len{H rs ds}(h:d_ H rs ds):rs.length=ds.length:=gM h
theorem bW{H:ae}{t:Addr}{o:ee}(df:H t=none):aN H (upd H t o):=λb u e=>by rw[aA (bZ e df)];exact e
theorem fH{b:Bool}{A B:Prop}(h:b=true)(q:A):if b=true then A else B:=by rw[bM h];exact q
theorem ew{b:Bool}{A B:Prop}(h:b=false)(q:B):if b=true then A else B:=by subst h;exact q
theorem nO{R:ba}{b:Bool}{H:ae}(e:b=true)(h:R (.aM true) H):R (.aM b) H:=by rw[e];exact h
theorem TK(xs:aZ):xs.map (λ_=>V.aM true)=(A5 xs.length true).map V.aM:=by
 induction xs with
 |nil=>rfl
 |cons x r a6=>simp[List.replicate_succ,a6]
theorem TL(n:Nat):(A5 n true).all id=true:=by rw[FW];intro x av;exact(List.mem_replicate.mp av).2
structure WX(K:aV):Prop where
 PX:h8 K (.type "int") (.type "bool")=some false
inductive adw(vs:aZ)(H:ae)(Q:ba)(bN:b6):Prop where
 |mk (i:Int) (bV:vs=[.int i]) (bA:Q (.aM true) H)
noncomputable def UX:cM:=λvs H Q bN=>adw vs H Q bN
inductive ach(vs:aZ)(H:ae)(Q:ba)(bN:b6):Prop where
 |mk (i a b:Int) (bV:vs=[.int i,.int a,.int b]) (bA:a<=i) (cn:i<=b) (di:Q (.aM true) H)
noncomputable def TM:cM:=λvs H Q bN=>ach vs H Q bN
inductive adx(vs:aZ)(H:ae)(Q:ba)(bN:b6):Prop where
 |mk (r:Addr) (xs:aZ) (n:Int) (bV:vs=[.ref r,.int n]) (bA:H r=some (.tup xs)) (cn:(xs.length:Int)=n) (di:Q (.aM true) H)
noncomputable def UY:cM:=λvs H Q bN=>adx vs H Q bN
theorem SO(ys:b9):(ys.map V.str).all q'=true:=by rw[FW];intro x av;obtain⟨y,_,rfl⟩:=b4.mp av;rfl
theorem UZ{ys:b9}{x:Str}(h:x∈ys):qV (.str x) (ys.map V.str)=true:=by unfold qV;rw[qe];exact⟨.str x,b4.mpr ⟨x,h,rfl⟩,by show(x==x)=true;exact beq_self_eq_true x⟩
inductive aci(K:aV)(vs:aZ)(H:ae)(Q:ba)(bN:b6):Prop where
 |mk (a:Addr) (ys:b9) (x y:Str) (bV:vs=[.ref a,.str x,.str y]) (bA:aJ K H a (ys.map V.str)) (cn:x∈ys) (di:y∈ys) (d8:x≠y) (fI:Q (.aM true) H)
noncomputable def TN(K:aV):cM:=λvs H Q bN=>aci K vs H Q bN
theorem aq3:eR "a"=⟨#[97]⟩:=by decide+kernel
theorem aq4:eR "z"=⟨#[122]⟩:=by decide+kernel
inductive afa(vs:aZ)(H:ae)(Q:ba)(bN:b6):Prop where
 |mk (l:dI) (bV:vs=[.str (S l)]) (bA:Ba l) (cn:∀H',aN H H'->Q (.aM true) H')
noncomputable def Kk:cM:=λvs H Q bN=>afa vs H Q bN
structure A6(mg:cI):Prop where
 adl:rF mg "MOST_HOUSES" 12
 adn:rF mg "MOST_ROADS" 40
 adp:rF mg "MOST_SIGNS" 8
 ads:rF mg "MOST_TURNS" 9
 ado:rF mg "MOST_ROOM" 1000000000
theorem uD{a b:dI}(h:S a=S b):a=b:=by have:=ha (λx=>x.cps.toList) h;simpa[S]using this
theorem afb{hs:bc}(h:hs.Nodup):∀i j,i<j->j<(hs.map S).length->(hs.map S).getD i mQ≠(hs.map S).getD j mQ:=by
 intro i j OI bL e;rw[bp]at bL;have ar:i<hs.length:=by omega
 rw[eL,eL,c9,c9,dv ar,dv bL]at e;have aD:=uD (show S hs[i]=S hs[j]from e);exact K6.mp h i j ar bL OI aD
structure Good(hs:bc):Prop where
 nm:∀x∈hs,Ba x
 aG:hs.Nodup
 eh:hs.length<=12
inductive afc(vs:aZ)(H:ae)(Q:ba)(bN:b6):Prop where
 |mk (a:Addr) (hs:bc) (bV:vs=[.ref a]) (bA:H a=some (.lst (cK hs))) (cn:Good hs) (di:∀H',aN H H'->Q (.aM true) H')
noncomputable def Kl:cM:=λvs H Q bN=>afc vs H Q bN
theorem bf.get{α β:Type}{F:α->β->Prop}:∀{l:List α}{m:List β}{i:Nat}{x:α},bf F l m->l[i]?=some x->∃y,m[i]?=some y/\F x y
 |_,_,_,_,.nil,e=>by simp at e
 |_,_,0,_,.cons r _,e=>by simp at e;subst e;exact⟨_,rfl,r⟩
 |_,_,i+1,x,.cons _ t,e=>by obtain⟨y,af,ai⟩:=bf.get (i:=i) (x:=x) t (by simpa using e);exact⟨y,by simpa using af,ai⟩
structure ix(H:ae)(hs:bc)(rs:bS)(ds:bT):Prop where
 hM:d_ H rs (ds.map (lU hs))
 ok:∀d∈ds,d.Ok hs.length
theorem ix.same{H H':ae}{hs rs ds}(r:ix H hs rs ds)(aH:aN H H'):ix H' hs rs ds:=⟨r.hM.same aH,r.ok⟩
theorem ix.get{H:ae}{hs rs ds}{i:Nat}{r:Addr}(q:ix H hs rs ds)(e:rs[i]?=some r):∃d,ds[i]?=some d/\d.Ok hs.length/\H r=some (.tup (lU hs d)):=by obtain⟨y,af,ai⟩:=bf.get q.hM e;rw[c9]at af;obtain⟨d,hd,rfl⟩:=fJ.mp af;exact⟨d,hd,q.ok d (eH hd),ai⟩
theorem ix.len{H:ae}{hs rs ds}(q:ix H hs rs ds):rs.length=ds.length:=by
 have:=q.hM.len
 rwa [bp]at this
theorem zC{hs:bc}{a:Nat}(h:a<hs.length):S (hs.getD a [])∈hs.map S:=by refine b4.mpr ⟨hs.getD a [],?_,rfl⟩;rw[eL,dv h];exact qf h
theorem aiI{hs:bc}{a b:Nat}(aG:hs.Nodup)(aK:a<hs.length)(U:b<hs.length)(ne:a≠b):S (hs.getD a [])≠S (hs.getD b []):=by
 intro e;have aD:=uD e;rw[eL,eL,dv aK,dv U]at aD;rcases Nat.lt_or_gt_of_ne ne with h|h
 .exact K6.mp aG a b aK U h aD
 .exact K6.mp aG b a U aK h aD.symm
inductive afd(K:aV)(vs:aZ)(H:ae)(Q:ba)(bN:b6):Prop where
 |mk (a r:Addr) (hs:bc) (d:dx.gD) (bV:vs=[.ref a,.ref r]) (bA:aJ K H a (cK hs)) (cn:hs.Nodup) (di:d.Ok hs.length) (d8:H r=some (.tup (lU hs d))) (fI:Q (.aM true) H)
noncomputable def Km(K:aV):cM:=λvs H Q bN=>afd K vs H Q bN
inductive afe(K:aV)(vs:aZ)(H:ae)(Q:ba)(bN:b6):Prop where
 |mk (a b:Addr) (hs:bc) (rs:bS) (ds:bT) (bV:vs=[.ref a,.ref b]) (bA:aJ K H a (cK hs)) (cn:hs.Nodup) (di:H b=some (.lst (aC rs))) (d8:ix H hs rs ds) (fI:rs.length<=40) (iM:∀H',aN H H'->Q (.aM true) H')
noncomputable def Kn(K:aV):cM:=λvs H Q bN=>afe K vs H Q bN
noncomputable def SameBut(x:Addr)(H H':ae):Prop:=∀b o,b≠x->H b=some o->H' b=some o
noncomputable def YO(a b:Addr):List (Str×ao.V):=[("kept_houses",.ref a),("kept_roads",.ref b)]
structure sL(K:aV)(C:Addr):Prop where
 cl:fB K C
 t8:uf K C "kept_houses"
 jt:uf K C "kept_roads"
inductive aff(K:aV)(C:Addr)(vs:aZ)(H:ae)(Q:ba)(bN:b6):Prop where
 |mk (x ah a b:Addr) (hs:bc) (rs:bS) (ds:bT) (bV:vs=[.ref x,.ref a,.ref b]) (bA:H x=some (.ins C ah [])) (cn:H a=some (.lst (cK hs))) (di:Good hs) (d8:H b=some (.lst (aC rs))) (fI:ix H hs rs ds) (iM:rs.length<=40) (lx:∀(H':ae)(bt bu:Addr),SameBut x H H'->H' x=some (.ins C ah (YO bt bu))->H' bt=some (.lst (cK hs))->H' bu=some (.lst (aC rs))->H bt=none->H bu=none->Q .bq H')
noncomputable def Ko(K:aV)(C:Addr):cM:=λvs H Q bN=>aff K C vs H Q bN
structure jO(C:Addr)(H:ae)(x bt bu:Addr)(xs ys:aZ):Prop where
 ins:∃ah,H x=some (.ins C ah (YO bt bu))
 qR:H bt=some (.lst xs)
 rg:H bu=some (.lst ys)
theorem jO.same{C:Addr}{H H':ae}{x bt bu:Addr}{xs ys:aZ}(n:jO C H x bt bu xs ys)(aH:aN H H'):jO C H' x bt bu xs ys:=
 let⟨ah,h⟩:=n.ins
 ⟨⟨ah,aH _ _ h⟩,aH _ _ n.qR,aH _ _ n.rg⟩
inductive aaO(C:Addr)(vs:aZ)(H:ae)(Q:ba)(bN:b6):Prop where
 |mk (x bt bu:Addr) (xs ys:aZ) (bV:vs=[.ref x]) (bA:jO C H x bt bu xs ys) (cn:∀l,H l=none->Q (.ref l) (upd H l (.lst xs)))
noncomputable def DI(C:Addr):cM:=λvs H Q bN=>aaO C vs H Q bN
inductive acj(C:Addr)(vs:aZ)(H:ae)(Q:ba)(bN:b6):Prop where
 |mk (x bt bu:Addr) (xs ys:aZ) (bV:vs=[.ref x]) (bA:jO C H x bt bu xs ys) (cn:∀l,H l=none->Q (.ref l) (upd H l (.lst ys)))
noncomputable def T2(C:Addr):cM:=λvs H Q bN=>acj C vs H Q bN
inductive ady(C R:Addr)(vs:aZ)(H:ae)(Q:ba)(E:b6):Prop where
 |mk (x bt bu:Addr) (xs ys:aZ) (k:Int) (bV:vs=[.ref x,.int k]) (bA:jO C H x bt bu xs ys) (cn:(0<=k/\k<ys.length->∃v,hx ys k=some v/\Q v H)) (di:(¬(0<=k/\k<ys.length)->E (.ref R) none H))
noncomputable def U0(C R:Addr):cM:=λvs H Q E=>ady C R vs H Q E
noncomputable def bR(hs:bc):List PyData:=(hs.map S).map PyData.str
theorem IV{l:dI}(h:Ba l):pv (.str (S l))=true:=by simp only[pv,XW,S];rw[aaa];intro x av;have:=h.2.2 x (by simpa using av);exact cu (by omega)
theorem Ei{ds:fY}(h:∀d∈ds,d.canLay0=true):qj ds=true:=by
 induction ds with
 |nil=>rfl
 |cons d r a6=>
  simp only[qj,jx];exact⟨h d (sY ..),a6 λe he=>h e (mL _ he)⟩
theorem IG{ds:fY}{n:Nat}(h:∀d∈ds,d.depth<=n):u3 ds<=n:=by
 induction ds with
 |nil=>exact e_ _
 |cons d r a6=>
  simp only[u3];exact Nat.max_le.mpr ⟨h d (sY ..),a6 λe he=>h e (mL _ he)⟩
theorem v3{d:PyData}{n:Nat}(af:d.canLay0=true)(ai:d.depth<=n)(bU:n<=64):qn d=true:=by unfold qn;rw[af,cu (eQ ai bU)];rfl
theorem Jp{d:PyData}(h:d.canLay0=true):(if true=true then !ht d d else ht d d)=false:=by rw[yZ d h];rfl
theorem Wn{rs:bS}{i:Nat}{r:Addr}(e:rs[i]?=some r):hx (aC rs) ((0:Int)+(i:Int))=some (V.ref r):=by rw[qc];refine iQ ?_;unfold aC;rw[c9,e];rfl
theorem SP{b2 dP:ae}{x ah:Addr}{o u:ee}(av:b2 x=none)(hd:b2 ah=none)(b':SameBut x (upd (upd b2 ah o) x u) dP):aN b2 dP:=λb v e=>by have dp:=bZ e av;have dq:=bZ e hd;refine b' b v dp ?_;rw[aA dp,aA dq];exact e
inductive agQ(K:aV)(vs:aZ)(H:ae)(Q:ba)(bN:b6):Prop where
 |mk (a:Addr) (ns:g8) (bV:vs=[.ref a]) (bA:aJ K H a (ns.map V.int)) (cn:ns.length<=63) (di:∀H',Q (.aM true) H')
noncomputable def FI(K:aV):cM:=λvs H Q bN=>agQ K vs H Q bN
noncomputable def JL(cd:uN)(bo:jV)(C R:Addr):Bool:=match cd.mro,bo.toList with
  |.ref Aa::bm,[_,_,_,_,some (.builtin _),_]=>Aa==C&&!cd.hasDel&&bm.contains (.type "BaseException")&&(cE C::bm).contains (.ref R)
  |_,_=>false
theorem SQ{K:aV}{C R:Addr}{dd:Option Addr}{cd:uN}{bo:jV}(l:K.lookup C=some ⟨.type "type",dd,.cls cd,bo⟩)(h:JL cd bo C R=true):jL K C R=true:=by unfold jL;rw[l];exact h
theorem UV(K:aV):h8 K (.type "int") (.type "bool")=some false:=by show(if(td "int"==td "bool")=true then some true else if Lx "bool"=true then(ana "int").map (·.contains (.type "bool"))else none)=some false;decide+kernel
noncomputable def tP(ns:g8):PyData:=.list (ns.map F9)
theorem Xp(ns:g8):(tP ns).canLay0=true:=Ei λd hd=>by obtain⟨x,_,rfl⟩:=b4.mp hd;rfl
theorem U8(ns:g8):(tP ns).depth<=1:=by
 unfold tP;simp only[PyData.depth];exact Lc (IG λe he=>by
  obtain⟨x,_,rfl⟩:=b4.mp he;exact cq _)
theorem U9{K:aV}{H:ae}:∀ns:List Int,pf K H (ns.map V.int) (ns.map F9)
 |[]=>.nil
 |x::r=>.cons (.int x) (U9 r)
theorem Wo{K:aV}{H:ae}{a:Addr}{ns:g8}(h:aJ K H a (ns.map V.int)):mE K H (.ref a) (tP ns):=.lst h (U9 ns)
theorem ne_int{i j:Int}(h:i≠j):decide (V.int i=V.int j)=false:=dJ λz=>h (V.int.inj z)
theorem Œ(n:Nat)(q:Nat->Bool):(((ek n).map λi:Nat=>V.int ((0:Int)+(i:Int))).filter λv=>match v with|.int k=>q k.toNat|_=>false).map (λv=>v)=(((ek n).filter q).map λi:Nat=>(i:Int)).map V.int:=by
 rw[K1,AZ,jA];have e:(λi:Nat=>V.int ((0:Int)+(i:Int)))=(V.int∘λi:Nat=>(i:Int)):=by funext i;show V.int (0+(i:Int))=V.int (i:Int);rw[qc]
 have aD:((λv:ao.V=>match v with|.int k=>q k.toNat|_=>false)∘λi:Nat=>V.int ((0:Int)+(i:Int)))=q:=by funext i;show q ((0:Int)+(i:Int)).toNat=q i;congr 1;omega
 rw[aD,e]
noncomputable def top(i:Nat):Stmt:=ata.main.body.getD i (.Pass ⟨0,0,0,0⟩)
mutual
inductive dw(H:ae):ao.V->PyData->Prop
 |bq:dw H .bq .none
 |aM (b:Bool):dw H (.aM b) (.bool b)
 |int (i:Int):dw H (.int i) (.int i)
 |str (x:Str) (z:x.length<=100) (ok:XW x=true):dw H (.str x) (.str x)
 |lst {a:Addr} {xs:aZ} {ds:fY}:H a=some (.lst xs)->xs.length<=100->eV H xs ds->dw H (.ref a) (.list ds)
 |tup {a:Addr} {xs:aZ} {ds:fY}:H a=some (.tup xs)->xs.length<=100->eV H xs ds->dw H (.ref a) (.tuple ds)
inductive eV(H:ae):List ao.V->List PyData->Prop
 |nil:eV H [] []
 |cons {v:ao.V} {d:PyData} {vs:aZ} {ds:fY}:dw H v d->eV H vs ds->eV H (v::vs) (d::ds)
end
mutual
theorem dw.same{H H':ae}(aH:aN H H'):∀{v:ao.V}{d:PyData},dw H v d->dw H' v d
 |_,_,.bq=>.bq
 |_,_,.aM b=>.aM b
 |_,_,.int i=>.int i
 |_,_,.str x z ok=>.str x z ok
 |_,_,.lst h z t=>.lst (aH _ _ h) z (eV.same aH t)
 |_,_,.tup h z t=>.tup (aH _ _ h) z (eV.same aH t)
theorem eV.same{H H':ae}(aH:aN H H'):∀{vs:aZ}{ds:fY},eV H vs ds->eV H' vs ds
 |_,_,.nil=>.nil
 |_,_,.cons a b=>.cons (dw.same aH a) (eV.same aH b)
end
end
mutual
theorem dw.lF{K:aV}{H:ae}:∀{v:ao.V}{d:PyData},dw H v d->mE K H v d
 |_,_,.bq=>.bq
 |_,_,.aM b=>.aM b
 |_,_,.int i=>.int i
 |_,_,.str x z ok=>.str x
 |_,_,.lst h z t=>.lst (aJ.of h) (eV.lF t)
 |_,_,.tup h z t=>.tup (cN.of h) (eV.lF t)
theorem eV.lF{K:aV}{H:ae}:∀{vs:aZ}{ds:fY},eV H vs ds->pf K H vs ds
 |_,_,.nil=>.nil
 |_,_,.cons a b=>.cons (dw.lF a) (eV.lF b)
end
mutual
theorem dw.nz{H:ae}:∀{v:ao.V}{d:PyData},dw H v d->d.canLay0=true
 |_,_,.bq=>rfl
 |_,_,.aM b=>rfl
 |_,_,.int i=>rfl
 |_,_,.str x z ok=>ok
 |_,_,.lst h z t=>eV.nz t
 |_,_,.tup h z t=>eV.nz t
theorem eV.nz{H:ae}:∀{vs:aZ}{ds:fY},eV H vs ds->qj ds=true
 |_,_,.nil=>rfl
 |_,_,.cons a b=>by simp only[qj,jx];exact⟨dw.nz a,eV.nz b⟩
end
mutual
theorem dw.inj{H:ae}:∀{v:ao.V}{d e:PyData},dw H v d->dw H v e->d=e
 |_,_,_,.bq,.bq=>rfl
 |_,_,_,.aM b,.aM _=>rfl
 |_,_,_,.int i,.int _=>rfl
 |_,_,_,.str x _ _,.str _ _ _=>rfl
 |_,_,_,.lst h _ t,.lst h' _ t'=>by rw[h]at h';cases h';rw[eV.inj t t']
 |_,_,_,.tup h _ t,.tup h' _ t'=>by rw[h]at h';cases h';rw[eV.inj t t']
 |_,_,_,.lst h _ _,.tup h' _ _=>by rw[h]at h';cases h'
 |_,_,_,.tup h _ _,.lst h' _ _=>by rw[h]at h';cases h'
theorem eV.inj{H:ae}:∀{vs:aZ}{ds es:fY},eV H vs ds->eV H vs es->ds=es
 |_,_,_,.nil,.nil=>rfl
 |_,_,_,.cons a b,.cons bt bu=>by rw[dw.inj a bt,eV.inj b bu]
end
theorem eV.len{H:ae}:∀{vs:aZ}{ds:fY},eV H vs ds->vs.length=ds.length
 |_,_,.nil=>rfl
 |_,_,.cons _ b=>by simp[eV.len b]
theorem eV.get{H:ae}:∀{vs:aZ}{ds:fY}{i:Nat}{v:ao.V},eV H vs ds->vs[i]?=some v->∃d,ds[i]?=some d/\dw H v d
 |_,_,_,_,.nil,e=>by simp at e
 |_,_,0,_,.cons a _,e=>by simp at e;subst e;exact⟨_,rfl,a⟩
 |_,_,i+1,v,.cons _ b,e=>by obtain⟨d,af,ai⟩:=eV.get (i:=i) (v:=v) b (by simpa using e);exact⟨d,by simpa using af,ai⟩
open Classical in
noncomputable def Gz(H:ae)(v:ao.V):PyData:=if h:∃d,dw H v d then aaC h else .none
theorem U'{H:ae}{v:ao.V}{d:PyData}(h:dw H v d):Gz H v=d:=by
 have q:∃d,dw H v d:=⟨d,h⟩
 unfold Gz;rw[dif_pos q];exact dw.inj (J' q) h
noncomputable def wV:PyData->String
 |.none=>"NoneType"
 |.bool _=>"bool"
 |.int _=>"int"
 |.str _=>"str"
 |.list _=>"list"
 |.tuple _=>"tuple"
 |.dict _=>"dict"
theorem dw.ty{K:aV}{H:ae}{v:ao.V}{d:PyData}(h:dw H v d):m9 K H v (.type (wV d)):=by
 cases h with
 |bq=>exact .bq
 |aM b=>exact .aM b
 |int i=>exact .int i
 |str x _ _=>exact .str x
 |lst h _ _=>exact .lst h
 |tup h _ _=>exact .tup h
noncomputable def uR(t c:String):Option Bool:=if(td t==td c)=true then some true else if Lx c=true then(ana t).map (·.contains (.type c))else none
theorem FJ(K:aV){t c:String}{b:Bool}(h:uR t c=some b):h8 K (.type t) (.type c)=some b:=h
noncomputable def isTup:PyData->Bool|.tuple _=>true|_=>false
noncomputable def isBool:PyData->Bool|.bool _=>true|_=>false
noncomputable def Xq:PyData->Bool|.int _=>true|.bool _=>true|_=>false
theorem adz(d:PyData):uR (wV d) "tuple"=some (isTup d):=by cases d<;>(show uR _ _=some _;simp only[wV,isTup];decide+kernel)
theorem Wq(d:PyData):uR (wV d) "bool"=some (isBool d):=by cases d<;>(show uR _ _=some _;simp only[wV,isBool];decide+kernel)
theorem agR(d:PyData):uR (wV d) "int"=some (Xq d):=by cases d<;>(show uR _ _=some _;simp only[wV,Xq];decide+kernel)
noncomputable def adA:PyData->Bool
 |.int _=>true
 |_=>false
noncomputable def Ej(lo ar:Int):PyData->Bool
 |.int i=>decide (lo<=i)&&decide (i<=ar)
 |_=>false
noncomputable def inD(d:PyData)(ds:fY):Bool:=ds.any λz=>ht z d
noncomputable def hy(hs:fY)(a b:PyData):Bool:=inD a hs&&inD b hs&&!ht a b
end dW
namespace dW
open PySem PySem.Spec PyProof.Rows ao ct dx
structure Ls where
 p:ae->ao.V->Prop
 up:∀{H H':ae}{v:ao.V},aN H H'->p H v->p H' v
noncomputable def amt(d:PyData):Ls:=⟨λH v=>dw H v d,λaH h=>h.same aH⟩
section
variable{X:bg}{e a b:Expr}{es:gO}{pos gX:Pos}{xc:List (Option Ls)}{A B R:Ls}
theorem agG{H v i}(h:dw H v (.int i)):v=.int i:=by cases h;rfl
theorem Kr{H v ds}(h:dw H v (.list ds)):∃a xs,v=.ref a/\H a=some (.lst xs)/\xs.length<=100/\eV H xs ds:=by cases h;exact⟨_,_,rfl,by assumption,by assumption,by assumption⟩
theorem Xr{H v ds}(h:dw H v (.tuple ds)):∃a xs,v=.ref a/\H a=some (.tup xs)/\xs.length<=100/\eV H xs ds:=by cases h;exact⟨_,_,rfl,by assumption,by assumption,by assumption⟩
noncomputable abbrev L(x:String):Str:=eR x
end
theorem JM{hs:bc}{y:Str}(h:y∉hs.map S):inD (.str y) (bR hs)=false:=by unfold inD;rw[xd];intro z;obtain⟨v,bz,e⟩:=qe.mp z;obtain⟨u,b7,rfl⟩:=b4.mp bz;have cm:(u==y)=true:=e;exact h (eq_of_beq cm▸b7)
theorem Xs{H:ae}:∀{hs:bc},(∀x∈hs,Ba x)->eV H (cK hs) (bR hs)
 |[],_=>.nil
 |l::hs,h=>.cons (.str (S l) (by rw[ra];have:=(h l (sY ..)).2.1;omega) (IV (h l (sY ..)))) (Xs λx av=>h x (mL _ av))
theorem Yq{H:ae}{a:Addr}{hs:bc}(G:Good hs)(h:H a=some (.lst (cK hs))):dw H (.ref a) (.list (bR hs)):=.lst h (by rw[Jo];have:=G.eh;omega) (Xs G.nm)
end dW
namespace dx
open PySem
noncomputable def hsz(c:Int):Nat:=(1+c%8).toNat
noncomputable def fP(c:Int):Nat:=(c/8%(1+c%8)).toNat
noncomputable def ih(c:Int)(k j:Nat):Nat:=97+((c/64+5*(j:Int)*(j:Int)+2*(k:Int)*(if j=fP c then 1 else 0))%26).toNat
noncomputable def r3(c:Int)(k:Nat):List Nat:=(ek (hsz c)).map (ih c k)
noncomputable def sa(c:Int)(m:Nat):List dI:=(ek m).map (r3 c)
theorem Xu(c:Int):1<=hsz c/\hsz c<=8:=by unfold hsz;omega
theorem afg(c:Int):(1+c%8)=(hsz c:Int):=by unfold hsz;omega
theorem agH(c:Int):fP c<hsz c:=by
 have af:0<1+c%8:=by omega
 have ai:=l3 (c/8) af;have bU:=iu (c/8) (by omega:1+c%8≠0);unfold fP hsz;omega
theorem afh(c:Int):c/8%(1+c%8)=(fP c:Int):=by have bU:=iu (c/8) (by omega:1+c%8≠0);unfold fP;omega
theorem agI(c:Int)(k j:Nat):97<=ih c k j/\ih c k j<=122:=by unfold ih;omega
theorem agJ(c:Int)(k:Nat):Ba (r3 c k):=by have h:=Xu c;refine⟨by simp[r3];omega,by simp[r3];omega,λx av=>?_⟩;obtain⟨j,_,rfl⟩:=b4.mp av;exact agI c k j
theorem afi{c:Int}{k l:Nat}(aX:k<13)(aj:l<13)(e:r3 c k=r3 c l):k=l:=by
 have h:=agH c;have aD:(r3 c k)[fP c]?=(r3 c l)[fP c]?:=by rw[e]
 unfold r3 at aD;rw[c9,c9,acV h]at aD;have cH:ih c k (fP c)=ih c l (fP c):=by simpa using aD
 unfold ih at cH;rw[bM rfl]at cH;generalize c/64+5*(fP c:Int)*(fP c:Int)=z at cH;omega
theorem asB{α:Type}{f:Nat->α}{m:Nat}(h:∀i j,i<m->j<m->f i=f j->i=j):((ek m).map f).Nodup:=by refine s6.mpr ?_;refine acM ?_ (F2 (n:=m));intro a b aK U qK e;exact qK (h a b (lz.mp aK) (lz.mp U) e)
theorem aa2{c:Int}{m:Nat}(h:m<=12):(sa c m).Nodup:=asB λi j ar bL e=>afi (by omega) (by omega) e
theorem Rn(c:Int)(m:Nat):(sa c m).length=m:=by simp[sa]
end dx
namespace ct
open PySem PySem.Spec PyProof.Rows ao
noncomputable def fi{α:Type}:Sem α->Prop
 |.pure _=>True
 |.raise _=>True
 |.unsupported _=>True
 |.finish _=>True
 |.register _ _=>True
 |.rule _ k=>fi (k ())
 |.at _ k=>fi (k ())
 |.load _ _ k=>∀o,fi (k o)
 |.update _ _ f k=>(∀o,(f o).dict=o.dict)/\fi (k ())
 |.alloc _ k=>∀a,fi (k a)
 |.loadIfAlive _ k=>∀o,fi (k o)
 |.point _ k=>fi (k ())
 |.fresh k=>∀t,fi (k t)
 |.ask k=>∀t,fi (k t)
 |.handled _ k=>∀t,fi (k t)
 |.stack k=>∀t,fi (k t)
 |.thread k=>∀n,fi (k n)
 |_=>False
noncomputable def ie(h h':Heap):Prop:=h.objs.size<=h'.objs.size/\∀e,e<h.objs.size->(h'.objs[e]?).map (·.dict)=(h.objs[e]?).map (·.dict)
theorem ie.refl(h:Heap):ie h h:=⟨cq _,λ_ _=>rfl⟩
theorem ie.trans{h af ai:Heap}(a:ie h af)(b:ie af ai):ie h ai:=⟨eQ a.1 b.1,λe he=>(b.2 e (kl he a.1)).trans (a.2 e he)⟩
theorem ie.push(h:Heap)(o:Obj):ie h (h.push o):=by
 obtain⟨objs,l⟩:=h;refine⟨?_,λe he=>?_⟩
 .show objs.size<=(objs.push o).size;simp
 .show((objs.push o)[e]?).map _=_;rw[Array.getElem?_push_lt he];simp[he]
theorem ie.update(h:Heap)(a:Addr){f:Obj->Obj}(hf:∀o,(f o).dict=o.dict):ie h (h.update a f):=by
 obtain⟨objs,l⟩:=h;refine⟨?_,λe he=>?_⟩
 .show objs.size<=(objs.modify a f).size;simp
 .show((objs.modify a f)[e]?).map _=_;rw[Array.getElem?_modify];split
  .cases objs[e]? with
   |none=>rfl
   |some o=>show some (f o).dict=_;rw[hf];rfl
  .rfl
theorem ie.dict{h h':Heap}(s:ie h h'){e:Addr}{o cL:Obj}(a:h.get? e=some o)(b:h'.get? e=some cL):cL.dict=o.dict:=by have af:=(abt.mp a).1;have ai:=(abt.mp b).1;have:=s.2 e (dG a);rw[af,ai]at this;exact hF this
theorem afj{α:Type}{M:lA}{xc:PySem.Ctx}{Q:α->Pos->aF->Prop}{E:Value->Pos->aF->Prop}(t:Sem α)(ay:fi t)(p:Pos)(s:aF)(h:Sem.wp M xc t Q E p s):
  Sem.wp M xc t (λa hL s'=>Q a hL s'/\ie s.heap s'.heap) (λa hL s'=>E a hL s'/\ie s.heap s'.heap) p s:=by
 have key:∀(t:Sem α),fi t->∀(p:Pos)(s:aF)(h0:Heap),ie h0 s.heap->Sem.wp M xc t Q E p s->Sem.wp M xc t (λa hL s'=>Q a hL s'/\ie h0 s'.heap) (λa hL s'=>E a hL s'/\ie h0 s'.heap) p s:=by
  intro t
  induction t with
  |pure a=>exactλ_ p s h0 dR h=>⟨h,dR⟩
  |raise e=>exactλ_ p s h0 dR h=>⟨h,dR⟩
  |unsupported=>exactλ_ p s h0 dR h=>h
  |finish=>exactλ_ p s h0 dR h=>h
  |register=>exactλ_ p s h0 dR h=>h
  |rule _ k a6=>exactλc p s h0 dR h=>a6 () c p s h0 dR h
  |«at» _ k a6=>exactλc p s h0 dR h=>a6 () c _ s h0 dR h
  |load a _ k a6=>exactλc p s h0 dR⟨o,e,h⟩=>⟨o,e,a6 o (c o) p s h0 dR h⟩
  |update a _ f k a6=>exactλc p s h0 dR⟨e,h⟩=>⟨e,a6 () c.2 p _ h0 (dR.trans (ie.update _ _ c.1)) h⟩
  |alloc o k a6=>exactλc p s h0 dR h=>a6 _ (c _) p _ h0 (dR.trans (ie.push _ _)) h
  |loadIfAlive a k a6=>exactλc p s h0 dR h=>a6 _ (c _) p s h0 dR h
  |point _ k a6=>exactλc p s h0 dR h=>a6 () c p s h0 dR h
  |fresh k a6=>exactλc p s h0 dR h=>a6 _ (c _) p _ h0 dR h
  |ask k a6=>exactλc p s h0 dR h=>a6 _ (c _) p s h0 dR h
  |handled _ k a6=>exactλc p s h0 dR h=>a6 _ (c _) p s h0 dR h
  |stack k a6=>exactλc p s h0 dR h=>a6 _ (c _) p s h0 dR h
  |thread k a6=>exactλc p s h0 dR h=>a6 _ (c _) p s h0 dR h
  |choose=>exactλc=>c.elim
  |os=>exactλc=>c.elim
  |call=>exactλc=>c.elim
  |newGen=>exactλc=>c.elim
  |genState=>exactλc=>c.elim
  |resume=>exactλc=>c.elim
  |yield=>exactλc=>c.elim
  |fork=>exactλc=>c.elim
  |await=>exactλc=>c.elim
 exact key t ay p s s.heap (ie.refl _) h
theorem D1{α:Type}{M:lA}{A:c0}{Q:α->aF->Prop}{E:cD}{t:Sem α}{s:aF}(ay:fi t)(h:aQ M A t Q E s):aQ M A t (λa s'=>Q a s'/\ie s.heap s'.heap) (λa s'=>E a s'/\ie s.heap s'.heap) s:=
 λxc p aoT=>afj t ay p s (h xc p aoT)
theorem h_{α β:Type}{t:Sem α}{f:α->Sem β}(h:fi t)(hf:∀a,fi (f a)):fi (t >>=f):=by
 show fi (t.bind f)
 induction t with
 |pure a=>exact hf a
 |raise e=>exact h
 |unsupported=>exact h
 |finish=>exact h
 |register=>exact h
 |rule _ k a6=>exact a6 () h
 |«at» _ k a6=>exact a6 () h
 |load a _ k a6=>exactλo=>a6 o (h o)
 |update a _ f k a6=>exact⟨h.1,a6 () h.2⟩
 |alloc o k a6=>exactλa=>a6 a (h a)
 |loadIfAlive a k a6=>exactλa=>a6 a (h a)
 |point _ k a6=>exact a6 () h
 |fresh k a6=>exactλa=>a6 a (h a)
 |ask k a6=>exactλa=>a6 a (h a)
 |handled _ k a6=>exactλa=>a6 a (h a)
 |stack k a6=>exactλa=>a6 a (h a)
 |thread k a6=>exactλa=>a6 a (h a)
 |choose=>exact h.elim
 |os=>exact h.elim
 |call=>exact h.elim
 |newGen=>exact h.elim
 |genState=>exact h.elim
 |resume=>exact h.elim
 |yield=>exact h.elim
 |fork=>exact h.elim
 |await=>exact h.elim
theorem ko{α:Type}{a:α}:fi (pure a:Sem α):=trivial
theorem qE{α:Type}{x:String}:fi (unsupported x:Sem α):=trivial
theorem r'{α:Type}{c:Prop}[Decidable c]{a b:Sem α}(aK:fi a)(U:fi b):fi (if c then a else b):=by split<;>assumption
theorem SR{a:Addr}:fi (load a):=λ_=>trivial
theorem ash{v:Value}:fi (fieldsOf v):=by
 unfold fieldsOf;cases v<;>first|exact qE|skip
 refine h_ SR λo=>?_;split<;>first|exact ko|exact qE
theorem H6{v:Value}{i:Nat}:fi (field v i):=by unfold field;refine h_ ash λo=>?_;split<;>first|exact ko|exact qE
theorem Qq{v:Value}{i:Nat}{x:Value}:fi (zy v i x):=by
 unfold zy;cases v<;>first|exact qE|skip
 refine h_ SR λo=>?_;split
 .refine r' ⟨λo=>?_,trivial⟩ qE;obtain⟨c,d,lF,bo⟩:=o;cases lF<;>rfl
 .exact qE
theorem P6{v:Value}{f:Option Addr}:fi (Sn v f):=by unfold Sn;refine h_ H6 λo=>r' Qq ko
theorem RO:fi stack:=λ_=>trivial
theorem ww{ty:String}{vs:cC}:fi (newFields ty vs):=by
 have as:fi (newObjAsIs (.type ty) (.fields vs.toArray)):=by unfold newObjAsIs;exact h_ (λ_=>trivial) λa=>ko
 unfold newFields newObj;exact r' (c:=vs.toArray.size>sizeLine+2) (h_ qE λ_=>as) as
theorem aa3{f:Addr}{b:Bool}:fi (Zs f b):=by unfold Zs;refine h_ RO λo=>?_;split<;>exact ko
theorem aag{env:Env}{outer:List Env}:fi (alj env outer):=by unfold alj;exact r' ko (r' ko (h_ H6 λ_=>ko))
theorem ack{env:Env}{b:Bool}{l:List Env}:fi (keptBack env b l):=by
 unfold keptBack;split
 .refine r' ko (h_ ?_ λ_=>ko);exact h_ RO λ_=>ko
 .exact ko
theorem œ:∀l:List Env,fi (readyFrames l)
 |[]=>trivial
 |env::outer=>by
  unfold readyFrames;split
  .exact h_ SR λo=>r' ko (h_ aag λ_=>h_ ack λ_=>h_ ⟨λ_=>rfl,trivial⟩ λ_=>œ outer)
  .exact qE
theorem asC{env:Env}:fi (Yd env):=by
 unfold Yd frameEnvs;refine h_ (h_ RO λ_=>ko) λl=>h_ ?_ λo=>?_
 .generalize List.dropWhile _ l=ho;cases ho with
  |nil=>exact ko
  |cons a b=>exact h_ (œ _) λ_=>ko
 .split<;>first|exact ko|exact qE
theorem ű{e:Value}{env:Env}:fi (Ra e env):=by
 unfold Ra;have last:∀(f:Addr)(head:Value),fi (do
   let a <-Yd env
   let b <-Zs f (head !=fZ)
   let c <-as3 head a fZ (oV f) fZ b
   zy e 1 c):=λf head=>h_ asC λ_=>h_ aa3 λ_=>h_ ww λ_=>Qq
 split
 .exact h_ H6 λhead=>r' (h_ H6 λ_=>r' ko (h_ Qq λ_=>last _ _)) (last _ _)
 .exact qE
theorem č{e:Value}{env:Env}:fi (leaving env e):=h_ ű λ_=>P6
noncomputable def JN(oo qu:uN)(su:jV)(C:Addr)(fQ:String):Bool:=
 (oo.mro==cE C::qu.mro)&&!oo.hasDel&&(match su.toList with|[_,_,_,_,some (.builtin n),_]=>n==fQ|_=>false)
theorem adC{K:aV}{mg:cI}{h:Heap}{y:Str}{C R:Addr}{bm:cC}{fQ:String}{kR Gw:Option Addr}{oo qu:uN}{su I5:jV}(X:K.In h)(O:Exc K mg y R bm fQ)(Qn:K.lookup C=some ⟨.type "type",kR,.cls oo,su⟩)(Qt:K.lookup R=some ⟨.type "type",Gw,.cls qu,I5⟩)(BJ:JN oo qu su C fQ=true):
  ∃nm q N bs du sn sub ab col k0 k1 k2 k3 k5,h.get? C=some (yp nm q C N bs du oo.hasDict sn sub ab col kR k0 k1 k2 k3 k5 fQ)/\x' h bm du:=by
 obtain⟨du,XC,nm,q,bs,hdct,sn,sub,ab,col,dd,k0,k1,k2,k3,k5,mN,cU,eJ,yM,T⟩:=(O.own X).obj;have CM:=X _ _ Qt;have aB:=CM.symm.trans cU;have aD:=hF aB;have hm:qu.mro=cE R::du:=by have cH:(Data.cls qu)=_:=ha Obj.data aD;injection cH with cH;rw[cH]
 unfold JN at BJ;simp only[jx,pG,Ve]at BJ;obtain⟨⟨c1,c2⟩,mc⟩:=BJ;split at mc
 .rename_i at9 aua aub auc n aud hs;have mc:=pG.mp mc;subst mc;obtain⟨ó,Za,aus,auF,ć,mZ,ĝ,Ģ,Y4,Zj,atO⟩:=oo;dsimp only at c1 c2;rw[hm]at c1;subst c1 c2;obtain⟨ě⟩:=su;simp only at hs;subst hs;exact⟨_,_,_,_,_,_,_,_,_,_,_,_,_,_,X _ _ Qn,.own cU eJ yM T⟩
 .cases mc
section
variable{prog:bO}{w:bx}{A:c0}{E:cD}{s:aF}{K:aV}
variable{nm q:Str}{C N ox:Addr}{bs bm du:cC}{hd:Bool}{sn:b9}{sub:cC}{ab:Bool}{col:Option Bool}{kR:Option Addr}{k0 k1 k2 k3 k5:yg}{B fQ nM:String}
theorem acm(F:xf B fQ nM bm){rest:cC}{Q:cD}(T:x' s.heap bm du)(X:K.In s.heap)(en:s.heap.get? C=some (yp nm q C N bs du hd sn sub ab col kR k0 k1 k2 k3 k5 fQ))(ar:b5 K (.ref C) "__init__"=some (some (.ref ox)))(hf:u7 K (.ref ox)=some (.type "function"))(Â:rest.length<=sizeLine)(aU:∀h' e,s.heap.objs.size<=e->Wk s.heap h' e (.ref C) rest->aQ (a9 prog w) (A.under (.builtin "type.__call__" ⟨.ref C::rest,[]⟩)) (call (.ref ox) (.ref e::rest)) (λr s'=>r=.none/\Q (.ref e) s') E {s with heap:=h'}):
  aQ (a9 prog w) A (call (.ref C) rest) Q E s:=by
 obtain⟨h,g,d,t,os⟩:=s;have f1:=tc_lookup;have f2:=tc_bind (.ref C);have j4:(⟨h,g,d,t,os⟩:aF).TypeIs (.ref C) "type":=⟨_,en,rfl⟩
 refine p' (alL (show aQ _ _ (callAny (.ref C) _) _ _ _ from ?_))
 repeat (any_goals (first|assumption|with_reducible refine jj en ?_|wp_step))
 refine⟨rfl,codeAny_call_builtin_at (J_ _ (by decide+kernel)) entry_typeCall (wpAny_check_type_call_sub en ?_)⟩
 repeat (first|with_reducible refine wpAny_madeBy_exc en ?_|with_reducible refine jj en ?_|wp_step)
 refine codeAny_call_builtin_code (J_ _ F.quiet) (wpAny_check_new_subT F T en (codeAny_exc_new_subT F T en (show aQ _ _ _ _ _ _ from ?_) Â));have vR:((h.push {cls:=.type "tuple",data:=.seq rest.toArray}).push {cls:=.ref C,data:=.fields #[.ref h.objs.size,.none,.none,.none,.bool false,.none]}).get? (h.objs.size+1)=some {cls:=.ref C,data:=.fields #[.ref h.objs.size,.none,.none,.none,.bool false,.none]}:=by heap_get
 have mk:Wk h ((h.push {cls:=.type "tuple",data:=.seq rest.toArray}).push {cls:=.ref C,data:=.fields #[.ref h.objs.size,.none,.none,.none,.bool false,.none]}) (h.objs.size+1) (.ref C) rest:=
  ⟨λb o U=>dM _ (dM _ U),Wl (pq _),h.objs.size,vR,Wl (cq _),dM _ (abr rfl rfl)⟩
 have O0:=aU _ _ (pq _) mk;have L':=X.keeps mk.keeps;have N2:=mk.keeps _ _ en;have anR:(cE C::du).contains (.ref C)=true:=by simp
 show aQ _ _ _ _ _ ⟨(h.push {cls:=.type "tuple",data:=.seq rest.toArray}).push {cls:=.ref C,data:=.fields #[.ref h.objs.size,.none,.none,.none,.bool false,.none]},g,d,t,os⟩;dsimp only;generalize(h.push {cls:=.type "tuple",data:=.seq rest.toArray}).push {cls:=.ref C,data:=.fields #[.ref h.objs.size,.none,.none,.none,.bool false,.none]}=ai at vR mk O0 L' N2⊢;generalize h.objs.size=a0 at vR mk O0 N2⊢;unfold HN
 repeat (first|with_reducible refine jj vR ?_|(with_reducible refine Fc N2 ?_;rw[anR])|wp_step)
 refine(rO L' ar).here ?_;refine iL (ax ((aeI L' _ hf).here ?_));show aQ _ _ (call (.ref ox) (.ref (a0+1)::rest) >>=λr=>pure (some r)) _ _ _;refine ax (gn O0 (λr s' aq=>?_) λ_ _ z=>z);obtain⟨rfl,ff⟩:=aq
 wp_walk
 exact ff
theorem abF(F:xf B fQ nM bm){R:nu->aF->Prop}{e t0:Addr}{ea:Option Addr}{bo:jV}{rest:cC}(T:x' s.heap bm du)(en:s.heap.get? C=some (yp nm q C N bs du hd sn sub ab col kR k0 k1 k2 k3 k5 fQ))(he:s.heap.get? e=some ⟨.ref C,ea,.fields #[.ref t0,.none,.none,.none,.bool false,.none],bo⟩)(Â:rest.length<=sizeLine)(aU:∀h' t,(∀b o,b≠e->s.heap.get? b=some o->h'.get? b=some o)->h'.get? e=some ⟨.ref C,ea,.fields #[.ref t,.none,.none,.none,.bool false,.none],bo⟩->R (.ok (.ret .none)) {s with heap:=h'}):
  jX (a9 prog w) A (.call (.builtin nM) ⟨.ref e::rest,[]⟩) R s:=by
 obtain⟨h,g,d,t,os⟩:=s;refine vq F.init.plain F.initEntry (wpAny_check_init_subT F T en he rfl ?_);dsimp only at he⊢
 wp_walk
 have an1:(h.push {cls:=.type "tuple",data:=.seq rest.toArray}).get? e=_:=dM _ he;refine aU _ h.objs.size (λb o U Hl=>?_) ?_
 .show((h.push _).update e _).get? b=some o;rw[jT _ _ (cR U)];exact dM _ Hl
 .show((h.push _).update e _).get? e=_;rw[pg _ an1 rfl];rfl
theorem ļ{h:Heap}(T:x' h bm du)(self:Value)(ň:Str):R3 self ň du=R3 self ň bm:=by
 induction T with
 |base=>rfl
 |own _ _ _ _ a6=>rw[đ,a6]
theorem Wr{M:lA}{d:Addr}{mA:cI}{name:Str}{a5:Tok}{v:Value}{ns:b9}{Q:Fin->aF->Prop}(aT:s.heap.Ns1 d mA)(hw:yd mA ns)(hz:ns.length<=1000)(aU:∀h' p7,h'.Ns1 d (λy=>if y=name then some v else mA y)->kI d s.heap h'->Q (.done (.ret .none)) {s with heap:=h',toks:=p7}):
  aQ M A (aaw d (.str name a5) name v) Q E s:=by unfold aaw asZ;refine ax (bj (ax (wpAny_nsSet1 aT λh' qP hs=>?_)));obtain⟨aqn,am5,am3,OX,Ot,Oq⟩:=qP.count (Yb name v hw);refine ax (ar6 OX (by rw[Ot];exact aqv (eQ Oq (by rw[l6,p5];omega))) ?_);exact bj (aU _ _ qP hs)
theorem aeV{x:Addr}{name:Str}{v:Value}{i0 owner:String}{vs:kn}{bo:jV}{Q:Unit->aF->Prop}(X:K.In s.heap)(l8:StoreFacts B bm i0 owner)(T:x' s.heap bm du)(en:s.heap.get? C=some (yp nm q C N bs du hd sn sub ab col kR k0 k1 k2 k3 k5 fQ))(hs:b5 K (.ref C) "__setattr__"=some (some (.builtin i0)))(aT:b5 K (.ref C) name=some none)(a3:nt K (.ref C) (.type owner)=some true)(av:s.heap.get? x=some ⟨.ref C,none,.fields vs,bo⟩)(Oy:hd=true)(aU:∀h' p7,h'.get? x=some ⟨.ref C,some s.heap.objs.size,.fields vs,bo⟩->h'.Ns1 s.heap.objs.size (λy=>if y=name then some v else none)->(∀b o,b≠x->s.heap.get? b=some o->h'.get? b=some o)->Q () {s with heap:=h',toks:=p7}):
  aQ (a9 prog w) A (EL (.ref x) name v) Q E s:=by
 obtain⟨h,g,d,t,os⟩:=s;dsimp only at X T en av;have ty:qk (a9 prog w) h (typeOf (.ref x)) (.ref C):=(X2 av).andThen .now;have ob:qk (a9 prog w) h (HN (.ref x) (.type owner)) true:=ty.andThen (aeS X a3);unfold EL callSpecial? specialOf;have cz:=l8.slot.bind (.ref x)
 repeat (any_goals (first|assumption|with_reducible refine jj av ?_|wp_step))
 refine(rO X hs).here (iL (ax (w9 cz (ax (p' (vq l8.slot.plain l8.entry (aeK l8.kind l8.split ob (l8.args _ _ _) ?_)))))));have aou:=l8.passes (.ref x);have qS:R3 (.ref x) "__setattr__" du=pure ():=(ļ T _ _).trans aou;unfold Builtin.«object.__setattr__»
 repeat (first|rw[refuse_eq]|(rw[đ,qS])|with_reducible refine jj av ?_|with_reducible refine ar9 en ?_|wp_step)
 refine(rO X aT).here (ax (bj ?_));show aQ _ _ (J8 _ _ _ _ _ _) _ _ _;unfold J8;refine ax (gn (Q:=λ_ s'=>s'=⟨h,g,d,t+1,os⟩) (E:=λ_ _=>False) ?_ (λ_ _ aB=>?_) (λ_ _ z=>z.elim))
 .repeat (first|with_reducible refine jj av ?_|with_reducible refine jj en ?_|wp_step)
  exact rfl
 .subst aB;have Ê:x≠h.objs.size:=eN (dG av);have r8:(h.push {cls:=.type "dict",data:=.dict #[]}).get? x=_:=dM _ av;refine ax (gn (Q:=λr s'=>r=some h.objs.size/\s'=⟨(h.push {cls:=.type "dict",data:=.dict #[]}).update x λo=>{o with dict:=some h.objs.size},g,d,t+1,os⟩) (E:=λ_ _=>False) ?_ (λ_ _ aB=>?_) (λ_ _ z=>z.elim))
  .show aQ _ _ (Dj x true) _ _ _;subst Oy;unfold Dj
   repeat (first|with_reducible refine jj av ?_|with_reducible refine jj en ?_|wp_step)
   exact⟨rfl,rfl⟩
  .obtain⟨rfl,rfl⟩:=aB;have an9:((h.push {cls:=.type "dict",data:=.dict #[]}).update x λo=>{o with dict:=some h.objs.size}).get? x=some ⟨.ref C,some h.objs.size,.fields vs,bo⟩:=by rw[pg _ r8 rfl]
   have OH:((h.push {cls:=.type "dict",data:=.dict #[]}).update x λo=>{o with dict:=some h.objs.size}).get? h.objs.size=some {cls:=.type "dict",data:=.dict #[]}:=
    (jT _ _ Ê).trans (abr rfl rfl)
   have aoi:((h.push {cls:=.type "dict",data:=.dict #[]}).update x λo=>{o with dict:=some h.objs.size}).Ns h.objs.size (λ_=>none):=⟨_,#[],_,OH,rfl,λe he=>bG he (by simp),λ_=>rfl⟩
   refine Wr (mA:=λ_=>none) (ns:=[]) (abp aoi) aeT (by decide) λh' p7 qP b'=>?_;refine bj (bj (aU h' p7 ?_ qP λb o U Hl=>?_))
   .exact(b'.2 x Ê).trans an9
   .refine(b'.2 b (eN (dG Hl))).trans ((jT _ _ (cR U)).trans (dM _ Hl))
theorem adD{x ah:Addr}{name:Str}{v:Value}{i0 owner:String}{vs:kn}{bo:jV}{mA:cI}{ns:b9}{Q:Unit->aF->Prop}(X:K.In s.heap)(l8:StoreFacts B bm i0 owner)(T:x' s.heap bm du)(en:s.heap.get? C=some (yp nm q C N bs du hd sn sub ab col kR k0 k1 k2 k3 k5 fQ))(hs:b5 K (.ref C) "__setattr__"=some (some (.builtin i0)))(aT:b5 K (.ref C) name=some none)(a3:nt K (.ref C) (.type owner)=some true)(av:s.heap.get? x=some ⟨.ref C,some ah,.fields vs,bo⟩)(Oy:hd=true)(eJ:s.heap.Ns1 ah mA)(hw:yd mA ns)(hz:ns.length<=1000)(aU:∀h' p7,h'.Ns1 ah (λy=>if y=name then some v else mA y)->kI ah s.heap h'->Q () {s with heap:=h',toks:=p7}):
  aQ (a9 prog w) A (EL (.ref x) name v) Q E s:=by
 obtain⟨h,g,d,t,os⟩:=s;dsimp only at X T en av eJ;have ty:qk (a9 prog w) h (typeOf (.ref x)) (.ref C):=(X2 av).andThen .now;have ob:qk (a9 prog w) h (HN (.ref x) (.type owner)) true:=ty.andThen (aeS X a3);unfold EL callSpecial? specialOf;have cz:=l8.slot.bind (.ref x)
 repeat (any_goals (first|assumption|with_reducible refine jj av ?_|wp_step))
 refine(rO X hs).here (iL (ax (w9 cz (ax (p' (vq l8.slot.plain l8.entry (aeK l8.kind l8.split ob (l8.args _ _ _) ?_)))))));have qS:R3 (.ref x) "__setattr__" du=pure ():=(ļ T _ _).trans (l8.passes (.ref x));unfold Builtin.«object.__setattr__»
 repeat (first|rw[refuse_eq]|(rw[đ,qS])|with_reducible refine jj av ?_|with_reducible refine ar9 en ?_|wp_step)
 refine(rO X aT).here (ax (bj ?_));show aQ _ _ (J8 _ _ _ _ _ _) _ _ _;unfold J8;refine ax (gn (Q:=λ_ s'=>s'=⟨h,g,d,t+1,os⟩) (E:=λ_ _=>False) ?_ (λ_ _ aB=>?_) (λ_ _ z=>z.elim))
 .repeat (first|with_reducible refine jj av ?_|with_reducible refine jj en ?_|wp_step)
  exact rfl
 .subst aB;refine ax (gn (Q:=λr s'=>r=some ah/\s'=⟨h,g,d,t+1,os⟩) (E:=λ_ _=>False) ?_ (λ_ _ aB=>?_) (λ_ _ z=>z.elim))
  .show aQ _ _ (Dj x true) _ _ _;subst Oy;unfold Dj
   repeat (first|with_reducible refine jj av ?_|with_reducible refine jj en ?_|wp_step)
   exact⟨rfl,rfl⟩
  .obtain⟨rfl,rfl⟩:=aB;refine Wr eJ hw hz λh' p7 qP b'=>?_;exact bj (bj (aU h' p7 qP b'))
theorem agK{x ah:Addr}{name:Str}{v:Value}{vs:kn}{bo:jV}{mA:cI}{b:Bool}{Q:cD}(X:K.In s.heap)(c:lj K C)(aT:b5 K (.ref C) name=some none)(hd:pz K C=true)(av:s.heap.get? x=some ⟨.ref C,some ah,.fields vs,bo⟩)(eJ:s.heap.Ns1 ah mA)(bz:mA name=some v)(dm:X6 v=true)(aU:Q v {s with toks:=s.toks+1}):aQ (a9 prog w) A (NW (.ref x) name b) Q E s:=by
 refine ax (T8 ?_);refine Xk (s:={s with toks:=s.toks+1}) X c ⟨_,av,rfl⟩ λhg=>vq F.excAttr_ValueError.ga.plain F.entry_bexc_ga (Ű (s:={s with toks:=s.toks+1}) X c ⟨_,av,rfl⟩ ?_);have x2:qk (a9 prog w) s.heap (typeOf (.ref x)) (.ref C):=ry.type ⟨_,av,rfl⟩;have uZ:=rO (M:=a9 prog w) X aT;obtain⟨cd,j5,mZ⟩:=aeH hd;have acG:=aeQ (M:=a9 prog w) X j5;obtain⟨aoa,g,d,t,os⟩:=s;unfold Builtin.«object.__getattribute__»;have i0:slotArgs "__getattribute__" 1 ⟨[.ref x,.str name t],[]⟩=pure (.ref x,[.str name t]):=rfl;rw[i0];refine ax (bj ?_);dsimp only;have an:aat (.str name t)=pure name:=rfl;rw[an];refine ax (bj (ax (x2.at (ax ?_))));unfold Vm;refine ax (uZ.at (ax (bj (ax (bj ?_)))));show aQ _ _ (aav _ _ _ _) _ _ _;unfold aav asY as0;refine ax (ax (ax (gn (Q:=λo s'=>o=⟨.ref C,some ah,.fields vs,bo⟩/\s'=⟨aoa,g,d,t+1,os⟩) (E:=λ_ _=>False) ?_ (λ_ _ aB=>?_) (λ_ _ z=>z.elim))))
 .repeat (first|with_reducible refine jj av ?_|wp_step)
  exact⟨rfl,rfl⟩
 .obtain⟨rfl,rfl⟩:=aB;show aQ _ _ (Dj x false) _ _ _;unfold Dj;refine ax (jj av ?_);dsimp only;refine ax (acG.at ?_);rw[mZ];refine bj ?_;show aQ _ _ (nsGet ah name) _ _ _;refine wpAny_nsGet eJ.ns ?_;rw[bz];show aQ _ _ (rule "getattr.instance-dict" >>=λ_=>pure (asV v)) _ _ _;refine ax (Fd (bj (bj ?_)));show aQ _ _ (θ v) _ _ _;rw[PySem.W.handedOut_of dm];exact bj aU
end
noncomputable def nG(e C:Addr):ee:=.ext λh=>∃t bo,h.get? e=some ⟨.ref C,none,.fields #[.ref t,.none,.none,.none,.bool false,.none],bo⟩
noncomputable def nF(e C ah:Addr):ee:=.ext λh=>∃t bo,h.get? e=some ⟨.ref C,some ah,.fields #[.ref t,.none,.none,.none,.bool false,.none],bo⟩
noncomputable def kS(e C ah:Addr):ee:=.ext λh=>∃vs bo,h.get? e=some ⟨.ref C,some ah,.fields vs,bo⟩
noncomputable def mC(d:Addr)(fs:List (Str×V)):ee:=.ext λh=>fs.length<=100/\∃mA,h.Ns1 d mA/\(∀f,iX (fs.lookup f) (mA f))/\yd mA (fs.map (·.1))
section
variable{P:bO}{w:bx}{H:ae}{h:Heap}{e C ah d:Addr}
theorem Xv{t:Addr}{bo:jV}(q:h.get? e=some ⟨.ref C,none,.fields #[.ref t,.none,.none,.none,.bool false,.none],bo⟩):el P w H h e (nG e C):=
 ⟨⟨t,bo,q⟩,⟨_,q⟩,λ_ _⟨t,bo,z⟩k=>⟨t,bo,k _ z⟩⟩
theorem agL{t:Addr}{bo:jV}(q:h.get? e=some ⟨.ref C,some ah,.fields #[.ref t,.none,.none,.none,.bool false,.none],bo⟩):el P w H h e (nF e C ah):=
 ⟨⟨t,bo,q⟩,⟨_,q⟩,λ_ _⟨t,bo,z⟩k=>⟨t,bo,k _ z⟩⟩
theorem agM{vs:kn}{bo:jV}(q:h.get? e=some ⟨.ref C,some ah,.fields vs,bo⟩):el P w H h e (kS e C ah):=
 ⟨⟨vs,bo,q⟩,⟨_,q⟩,λ_ _⟨t,bo,z⟩k=>⟨t,bo,k _ z⟩⟩
theorem Xm{fs:List (Str×V)}{mA:cI}(z:fs.length<=100)(n:h.Ns1 d mA)(r:∀f,iX (fs.lookup f) (mA f))(dh:yd mA (fs.map (·.1))):el P w H h d (mC d fs):=by
 obtain⟨o,q⟩:∃o,h.get? d=some o:=by obtain⟨o,_,_,q,_⟩:=n.ns;exact⟨o,q⟩
 exact⟨⟨z,mA,n,r,dh⟩,⟨o,q⟩,λ_ _⟨z,mA,n,r,dh⟩k=>⟨z,mA,n.at k,r,dh⟩⟩
end
section
variable{X:bg}{pins:cy}{σ:ao.St}{H:ae}{s:aF}
theorem Inv.put2{h':Heap}{t':Nat}{e d:Addr}{oQ ea:ee}{rB:Heap->Prop}(I:Inv X pins σ H s)(he:H e=some (.ext rB))(hd:s.heap.objs.size<=d)(k:∀b o,b≠e->s.heap.get? b=some o->h'.get? b=some o)(an3:∃o,h'.get? e=some o)(dp:el X.prog X.w (upd (upd H d ea) e oQ) h' e oQ)(dq:el X.prog X.w (upd (upd H d ea) e oQ) h' d ea):Inv X pins σ (upd (upd H d ea) e oQ) {s with heap:=h',toks:=t'}:=by
 have anW:H d=none:=I.bb.fresh hd;have OH:∀o,s.heap.get? d≠some o:=λo z=>qg _ (kl (dG z) hd);have ne1:∀b,H b=none->b≠e:=λb n z=>by rw[z,he]at n;cases n
 have old:∀{b:Addr}{u:ee},H b=some u->b≠e->upd (upd H d ea) e oQ b=some u:=λ{b u}q n=>by rw[aA n,aA (bZ q anW)];exact q
 have cj:∀{b:Addr}{u:ee},H b=some u->(∀mD,u≠.ext mD)->b≠e:=λ{b u}q n z=>by subst z;rw[he]at q;exact n rB (hF q).symm
 refine I.un ⟨λb o q n _ _=>k b o (ne1 b n) q,λb o q n _ _=>⟨o.slots,k b o (ne1 b n) q⟩,λb o q n _=>?_,λb o q _=>?_,λb xs q=>old q (cj q (by intro mD z;cases z)),λb o u q=>old q (cj q (by intro mD z;cases z)),λb ps q=>⟨#[],by rw[old q (cj q (by intro mD z;cases z))];simp⟩⟩ λb u q=>?_
 .rw[aA (ne1 b n),aA (show b≠d fromλz=>OH o (by rw[<-z];exact q))];exact n
 .by_cases U:b=e
  .subst U;exact an3
  .exact⟨o,k b o U q⟩
 .by_cases U:b=e
  .subst U;rw[aP]at q;cases q;exact dp
  .rw[aA U]at q;by_cases h1:b=d
   .subst h1;rw[aP]at q;cases q;exact dq
   .rw[aA h1]at q;refine(I.bb b u q).nd (λc v ay r=>k c v ?_ r) (λc r=>old r (cj r (by intro mD z;cases z))) λc xs r=>old r (cj r (by intro mD z;cases z));rcases ay with rfl|ay
    .exact U
    .exact cj ay (by intro mD z;cases z)
theorem agN{H:ae}{a:Addr}{o:ee}(h:H a=some o):upd H a o=H:=by
 funext b;by_cases U:b=a
 .subst U;rw[aP,h]
 .rw[aA U]
structure qp(K:aV)(mg:cI)(y:Str)(C R:Addr):Prop where
 base:Exc K mg y R [.type "ValueError",.type "Exception",.type "BaseException",.type "object"] "ValueError.__new__"
 lk:∃kR oo su Gw qu I5,K.lookup C=some ⟨.type "type",kR,.cls oo,su⟩/\K.lookup R=some ⟨.type "type",Gw,.cls qu,I5⟩/\JN oo qu su C "ValueError.__new__"=true/\oo.hasDict=true
 i0:b5 K (.ref C) "__setattr__"=some (some (.builtin "object.__setattr__"))
 ob:nt K (.ref C) (.type "object")=some true
 rd:X_ K R (.type "type")=true
 NN:X5 K (.ref R) (.type "type") "__init__"=some (.val (.builtin "ValueError.__init__"))
 So:ta K (.ref R) "__getattribute__"=some (some (.builtin "type.__getattribute__"))
 ic:lj K C
 hd:pz K C=true
end
theorem qp.obj{K:aV}{mg:cI}{y:Str}{C R:Addr}{h:Heap}(x:qp K mg y C R)(X:K.In h):
  ∃nm q N bs du sn sub ab col kR k0 k1 k2 k3 k5,h.get? C=some (yp nm q C N bs du true sn sub ab col kR k0 k1 k2 k3 k5 "ValueError.__new__")/\x' h [.type "ValueError",.type "Exception",.type "BaseException",.type "object"] du:=by obtain⟨kR,oo,su,Gw,qu,I5,Qn,Qt,BJ,hd⟩:=x.lk;obtain⟨nm,q,N,bs,du,sn,sub,ab,col,k0,k1,k2,k3,k5,en,T⟩:=adC X x.base Qn Qt BJ;rw[hd]at en;exact⟨nm,q,N,bs,du,sn,sub,ab,col,kR,k0,k1,k2,k3,k5,en,T⟩
section
variable{X:bg}{o e value:Expr}{es:gO}{f y:Str}{pos pos' eX np:Pos}{b_ kf:TE}{t:gi}{R:Addr}
noncomputable def arq(K:aV)(mg:cI)(y:Str)(R:Addr)(t:gi):TE:=λσ H Q=>t σ H λvs H1=>∃e C rest,vs=.ref e::rest/\H1 e=some (nG e C)/\qp K mg y C R/\rest.length<=sizeLine/\Q .bq H1
theorem adh{pl:Sem Bool}(bP:i3 X y)(hm:X.mg y=some (.ref R))(rd:X_ X.K R (.type "type")=true)(NN:X5 X.K (.ref R) (.type "type") "__init__"=some (.val (.builtin "ValueError.__init__")))(So:ta X.K (.ref R) "__getattribute__"=some (some (.builtin "type.__getattribute__")))(aK:fV X (e::es) t)(kX:(y==("__debug__":Str))=false:=by decide)(k7:dV (e::es) X.env=(false,eval e X.env)::dV es X.env:=by rfl)(fP:(hA pos (dV es X.env)).any (·.1)=false:=by rfl)(df:eval (.Call (.Attribute (.Name y np) "__init__" eX) (e::es) [] pos) X.env=(do
   let eT <-eval (.Name y np) X.env
   sz eX.atName
   let(f,first) <-mm [eT] (vI eT "__init__" pl)
   yl pos f first (hA pos (dV (e::es) X.env)) (kO pos (k' [] X.env))):=by rfl):
  bl X (.Call (.Attribute (.Name y np) "__init__" eX) (e::es) [] pos) (arq X.K X.mg y R t):=by
 intro pins s σ H Q I h;refine Bp (pl:=pl) (r_ I bP hm ?_ kX) df;refine PySem.W.method_cls I.eD So (PySem.W.cls_value I.eD rd NN (by decide+kernel) ?_);refine aes (bF (aK pos pins _ σ H _ (I.tok _) h) λus s1⟨vs,H1,aR,ck,ex,C,rest,ev,hex,jS,hz,q⟩=>?_) k7 fP;subst ev;cases ck with
 |cons gI fS=>
  cases gI;obtain⟨⟨t0,bo,he⟩,_,_⟩:=(show el X.prog X.w H1 s1.heap ex (nG ex C)from aR.bb ex _ hex)
  obtain⟨nm,fR,N,bs,du,sn,sub,ab,col,kR,k0,k1,k2,k3,k5,en,T⟩:=jS.obj aR.eD;refine p' (abF Bk T en he (by rw[<-fS.length];exact hz) λh' t1 bY ω=>?_);have bD:=aR.write (t':=s1.toks) (x:=ex) (e:=ex) (o:=nG ex C) (by rw[hex];exact trivial) (.inl rfl) (λb u U q=>bY b u U q) ⟨_,ω⟩ (Xv ω);rw[agN hex]at bD;exact⟨.bq,H1,bD,rfl,q⟩
noncomputable def aiJ(K:aV)(mg:cI)(y:Str)(R:Addr)(to kf:TE)(f:Str):e8:=λD σ H=>kf σ H λv H1=>to σ H1 λx ag=>∃e C,x=.ref e/\qp K mg y C R/\b5 K (.ref C) f=some none/\
 ((ag e=some (nG e C)/\∀ah,ag ah=none->ah≠e->D.cj σ (upd (upd ag ah (mC ah [(f,v)])) e (nF e C ah)))\/
 ∃ah fs,ag e=some (nF e C ah)/\ag ah=some (mC ah fs)/\fs.length<100/\D.cj σ (upd ag ah (mC ah (j' f v fs))))
theorem aeW(aK:bl X o b_)(bz:bl X value kf)(hs:wN value (some (.Attribute o f pos')) pos.line X.env=pure false):fW X (.Assign [.Attribute o f pos'] value pos) (aiJ X.K X.mg y R b_ kf f):=by
 intro pins s σ H D I h;refine aqx (bF (bz pins s σ H _ I h) λu s1⟨v,H1,aR,cg,q⟩=>bF (aK pins s1 σ H1 _ aR q) λeT s2⟨x,ag,bD,bC,e,C,ex,jS,aT,cZ⟩=>?_) hs;subst ex;obtain rfl:eT=cE e:=bC;obtain⟨nm,fR,N,bs,du,sn,sub,ab,col,kR,k0,k1,k2,k3,k5,en,T⟩:=jS.obj bD.eD;rcases cZ with⟨he,cZ⟩|⟨ah,fs,he,Hn,hz,cZ⟩
 .obtain⟨⟨t0,bo,pN⟩,_,_⟩:=(show el X.prog X.w ag s2.heap e (nG e C)from bD.bb e _ he)
  refine aeV bD.eD aeD T en jS.i0 aT jS.ob pN rfl λh' p7 f6 Hh bY=>?_;have Ie:s2.heap.objs.size≠e:=x9 (dG pN);refine⟨σ,_,Inv.put2 bD he (cq _) bY ⟨_,f6⟩ (agL f6) (Xm (fs:=[(f,v)]) (show 1<=100 by decide) Hh (λg=>?_) ?_),cZ _ (bD.bb.fresh (cq _)) Ie⟩
  .by_cases bP:g=f
   .subst bP;have U:(g==g)=true:=pG.mpr rfl;simp only[sX,U,bM];exact cg
   .have U:(g==f)=false:=vk.mpr bP;simp only[sX,U,bE bP];exact trivial
  .exact Yb f u aeT
 .obtain⟨⟨t0,bo,pN⟩,_,_⟩:=(show el X.prog X.w ag s2.heap e (nF e C ah)from bD.bb e _ he)
  obtain⟨⟨HI,mA,eJ,O1,Pf⟩,⟨ea,at4⟩,_⟩:=(show el X.prog X.w ag s2.heap ah (mC ah fs)from bD.bb ah _ Hn)
  refine adD bD.eD aeD T en jS.i0 aT jS.ob pN rfl eJ Pf (by rw[bp];omega) λh' p7 Hh b'=>?_;refine⟨σ,_,bD.write (x:=ah) (e:=ah) (o:=mC ah (j' f v fs)) (by rw[Hn];exact trivial) (.inl rfl) (λb z U q=>(b'.2 b U).trans q) (by obtain⟨cL,_,_,q,_⟩:=Hh.ns;exact⟨cL,q⟩) (Xm ?_ Hh (λg=>?_) ?_),cZ⟩
  .have:=Rl f v fs;omega
  .rw[Rk];by_cases q:g=f
   .rw[bM q,bM q];exact cg
   .rw[bE q,bE q];exact O1 g
  .intro g bP;by_cases q:g=f
   .rw[q];exact(DH f v fs).1
   .exact(DH f v fs).2 g (Pf g λz=>bP (by show(if g=f then some u else mA g)=none;rw[bE q];exact z))
noncomputable def aih(K:aV)(to:TE)(f:Str):TE:=λσ H Q=>to σ H λx H1=>∃e C ah fs v,x=.ref e/\H1 e=some (kS e C ah)/\H1 ah=some (mC ah fs)/\lj K C/\b5 K (.ref C) f=some none/\pz K C=true/\fs.lookup f=some v/\Q v H1
theorem aeX(he:bl X e b_)(U:vh e f X.env (eval e X.env)=eval e X.env):bl X (.Attribute e f pos) (aih X.K b_ f):=by
 intro pins s σ H Q I h;refine V3 U (bF (he pins s σ H _ I h) λu s1⟨x,H1,aR,bC,a,C,ah,fs,v,ex,au,Hn,ic,aT,hd,l,q⟩=>?_);subst ex;obtain rfl:u=cE a:=bC;obtain⟨⟨vs,bo,pN⟩,_,_⟩:=(show el X.prog X.w H1 s1.heap a (kS a C ah)from aR.bb a _ au)
 obtain⟨⟨HI,mA,eJ,O1,Pf⟩,_,_⟩:=(show el X.prog X.w H1 s1.heap ah (mC ah fs)from aR.bb ah _ Hn)
 obtain⟨sF,Pe,cg⟩:=iX.some_of (v:=v) (o:=mA f) (by rw[<-l];exact O1 f);exact agK aR.eD ic aT hd pN eJ Pe (ŗ cg) ⟨v,H1,aR.tok _,cg,q⟩
end
section
variable{X:bg}{k:Nat}{f C R:Addr}{fd:cF}{ps:b9}{sp:cM}{y:Str}
theorem adi{pins:cy}{σ:ao.St}{H:ae}{s:aF}{us:cC}{vs:aZ}{Rr:Addr->Addr->ae->Prop}(jS:qp X.K X.mg y C R)(ar:b5 X.K (.ref C) "__init__"=some (some (.ref f)))(hf:fX X.K (.ref f)=true)(F:aL X.prog X.w X.K X.mg X.base a8 k f fd ps sp)(aq:gk (k+1) X.A)(U:Binds X.K fd ps [])(I:Inv X pins σ H s)(r:cO vs us)(hz:vs.length<=sizeLine)(h:∀e,H e=none->sp (.ref e::vs) (upd H e (nG e C)) (λv ag=>v=.bq/\∃ah,ag e=some (nF e C ah)/\Rr e ah ag) rG):
  aQ (a9 X.prog X.w) X.A (call (.ref C) us) (λu s'=>∃e ah ag,u=.ref e/\s.heap.get? e=none/\Inv X pins σ ag s'/\ag e=some (nF e C ah)/\Rr e ah ag) X.d0 s:=by
 obtain⟨nm,fR,N,bs,du,sn,sub,ab,col,kR,k0,k1,k2,k3,k5,en,T⟩:=jS.obj I.eD;refine acm Bk T I.eD en ar (pG.mp hf) (by rw[<-r.length];exact hz) λh' e hle mk=>?_;obtain⟨t,he,at7,df⟩:=mk.there;have bD:Inv X pins σ (upd H e (nG e C)) {s with heap:=h'}:=I.laid (a:=e) (o:=nG e C) (t':=s.toks) mk.keeps hle (Xv he);have aU:=h e (I.bb.fresh hle);have dZ:cO (V.ref e::vs) (cE e::us):=.cons rfl r;have aj:(cE e::us++[]).length=ps.length:=by have aB:=dZ.length;rw[F.len _ _ _ _ aU]at aB;rw[l4];exact aB.symm
 have de:=U {s with heap:=h'} (cE e::us) bD.eD aj;rw[l4]at de;refine p' (rR (F.run _ X.stack _ _ ⟨cE e::us,[]⟩ (cE e::us) _ _ rG (aq.make C us []) (bD.BY.make C us []) de dZ aU) λfS s' m2=>?_);cases fS with
 |error x=>exact hP m2
 |ok fl=>
  cases fl with
  |ret u=>
   obtain⟨v,H',c5,cg,ev,ah,bU,cX⟩:=bD.after m2;subst ev;exact⟨cg,e,ah,H',rfl,mk.new,c5,bU,cX⟩
  |next=>exact hP m2
  |brk=>exact hP m2
  |cont=>exact hP m2
end
section
variable{prog:bO}{w:bx}{A:c0}{E:cD}{s:aF}{env:Env}{K:aV}{mg:cI}{y:Str}{C R:Addr}
theorem aeY{x:Sem Value}{Q:Flow->aF->Prop}(jS:qp K mg y C R)(dm:A.handled=none)(h:aQ (a9 prog w) A x (λv dU=>∃e ah t bo,v=.ref e/\K.In dU.heap/\dU.heap.get? e=some ⟨.ref C,some ah,.fields #[.ref t,.none,.none,.none,.bool false,.none],bo⟩/\E (.ref e) dU) E s):
  aQ (a9 prog w) A (ď env (some x) none) Q E s:=by
 unfold ď;refine ax (gn h (λv dU Pk=>?_) λ_ _ x=>x);obtain⟨e,ah,t,bo,rfl,X,he,fz⟩:=Pk;obtain⟨nm,fR,N,bs,du,sn,sub,ab,col,kR,k0,k1,k2,k3,k5,en,T⟩:=jS.obj X;have CT:(cE C::du).contains (.type "BaseException")=true:=by rw[W4,T.hasType (b:=true) (by decide),Vf]
 obtain⟨aO,g,d,a5,os⟩:=dU
 repeat (first|with_reducible refine jj he ?_|with_reducible refine jj en ?_|(with_reducible refine Fc en ?_;rw[CT])|wp_step)
 exact ase dm fz
noncomputable def W3(h:Heap)(au:Addr)(ea:Option Addr):Prop:=∀ah,ea=some ah->∃o,h.get? au=some o/\o.dict=some ah
end
noncomputable def nj(P:bO)(w:bx):ni:=λfr H s E e s'=>∃(au:Addr)(cls a0:Value)(H':ae)(B:Heap)(ea:Option Addr),e=.ref au/\m4 P w fr H s au cls a0 H' B s'/\W3 s'.heap au ea/\E cls ea H'
noncomputable def del(H:ae)(a:Addr):ae:=λb=>if b=a then none else H b
theorem U_{H:ae}{a:Addr}:del H a a=none:=by unfold del;rw[bM rfl]
theorem ug{H:ae}{a b:Addr}(h:b≠a):del H a b=H b:=by unfold del;rw[bE h]
section
variable{P:bO}{w:bx}{K:aV}{mg:cI}{base:Heap}{N:b9}{qual:Str}{scope:Scope}{f:Addr}{cdv:Value}{A:c0}{outer:List Env}{s:aF}{H:ae}{E:b6}
noncomputable abbrev jG(P:bO)(w:bx)(K:aV)(mg:cI)(base:Heap)(N:b9)(qual:Str)(scope:Scope)(f:Addr)(cdv:Value)(A:c0)(outer:List Env)(s:aF)(H:ae)(E:b6):bg:=
 j_ (nj P w) P w K mg base N qual scope f cdv A outer s H E
theorem arJ{pins:cy}{σ:ao.St}{H1:ae}{s1:aF}(I:Inv (jG P w K mg base N qual scope f cdv A outer s H E) pins σ H1 s1):Inv (gc P w K mg base N qual scope f cdv A outer s H E) pins σ H1 s1:=I.kG _
theorem asD{pins:cy}{σ:ao.St}{H1:ae}{s1:aF}{au C ah:Addr}(I:Inv (jG P w K mg base N qual scope f cdv A outer s H E) pins σ H1 s1)(av:H1 au=some (nF au C ah))(hold:s.heap.get? au=none)(fz:E (.ref C) (some ah) (del H1 au)):(jG P w K mg base N qual scope f cdv A outer s H E).d0 (.ref au) s1:=by
 obtain⟨⟨t,bo,pN⟩,_,_⟩:=(show el P w H1 s1.heap au (nF au C ah)from I.bb au _ av)
 obtain⟨S,fO⟩:∃S,S=fy (jG P w K mg base N qual scope f cdv A outer s H E).stack:=⟨_,rfl⟩
 have nL:∀env∈(jG P w K mg base N qual scope f cdv A outer s H E).stack,∀b,env.frame=some b->b∈au::S:=λenv he b U=>by rw[fO];exact mL _ (K3.mpr ⟨env,he,U⟩)
 have C4:∀b o,H1 b=some o->b∉S:=λb o e z=>by rw[fO]at z;rw[I.Ja b z]at e;cases e
 have k8:∀b o,s1.heap.get? b=some o->b≠au->b∉S->(u4 s1.heap (au::S)).get? b=some o:=λb o e n m=>X7 _ e λz=>by
  rcases c'.mp z with z|z
  .exact n z
  .exact m z
 have IB:∀b o,s.heap.get? b=some o->b≠au:=λb o e z=>by rw[z,hold]at e;cases e
 have rk:∀b o,s.heap.get? b=some o->b∉fy outer->b∉S:=λb o e U=>by rw[fO];exact zg (arJ I) e U
 have y':∀{b:Addr}{u:ee},H1 b=some u->(∀mD,u≠.ext mD)->b≠au:=λ{b u}q n z=>by subst z;rw[av]at q;exact n _ (hF q).symm
 have Δ:(u4 s1.heap (au::S)).get? au=none:=aeM _ (.head _);refine gn (D1 č (wpAny_leaving_firstW (base:=u4 s1.heap (au::S)) (a0:=.ref t) (Q:=λ_ s'=>∃h',s'={s1 with heap:=h'}/\Heap.LeftW (u4 s1.heap (au::S)) _ au (.ref C) (.ref t) s1.heap h') (E:=λ_ _=>False)
  I.ok.frames (aeL I.stack nL) rfl pN (λb o q=>X9 _ q) Δ rfl rfl rfl λh' iB=>⟨h',rfl,iB⟩)) (λ_ s'⟨⟨h',es,iB⟩,dR⟩=>?_) λ_ _ z=>z.1.elim
 subst es;obtain⟨k1,⟨_,_,k2⟩,k3,pa⟩:=iB;have e0:sT (u4 s1.heap (au::S)) outer au (.ref C) (.ref t) h':=⟨k1,Δ,k2,k3⟩
 refine⟨au,.ref C,.ref t,del H1 au,_,some ah,rfl,⟨e0,I.os,I.bare,λb ob e=>?_,⟨λb o e n U f6=>?_,λb o e n U f6=>?_,λb o e n f6=>?_,λb o e f6=>?_,λb xs q=>?_,λb o u q=>?_,λb ps q=>?_⟩,λb o e U=>?_⟩,?_,fz⟩
 .have U:b≠au:=λz=>by rw[z,U_]at e;cases e
  rw[ug U]at e;refine(I.bb b ob e).nd (λc u ay q=>?_) (λc r=>by rw[ug (y' r (by intro mD z;cases z))];exact r) λc xs r=>by rw[ug (y' r (by intro mD z;cases z))];exact r
  rcases ay with rfl|ay
  .exact k8 c u q U (C4 c _ e)
  .exact k8 c u q (y' ay (by intro mD z;cases z)) (C4 c _ ay)
 .exact e0.1 b o (k8 b o (I.base.keep b o e n U f6) (IB b o e) (rk b o e U))
 .obtain⟨lW,z⟩:=I.base.slot b o e n U f6;obtain⟨_,ob,cm,gz⟩:=I.kr.mem U;rw[z]at cm;cases cm;obtain⟨sy,dr⟩:=pa b _ z gz;exact⟨sy,dr⟩
 .rw[ug (IB b o e)];exact I.base.free b o e n f6
 .obtain⟨cL,z⟩:=I.base.there b o e f6;by_cases U:b∈fy outer
  .obtain⟨_,ob,cm,gz⟩:=I.kr.mem U;obtain⟨lW,dr⟩:=pa b _ cm gz;exact⟨_,dr⟩
  .exact⟨cL,e0.1 b cL (k8 b cL z (IB b o e) (rk b o e U))⟩
 .have r:=I.base.hM b xs q;rw[ug (y' r (by intro mD z;cases z))];exact r
 .have r:=I.base.iT b o u q;rw[ug (y' r (by intro mD z;cases z))];exact r
 .obtain⟨m,r⟩:=I.base.ji b ps q;exact⟨m,by rw[ug (y' r (by intro mD z;cases z))];exact r⟩
 .obtain⟨cL,z⟩:=I.base.there b o e (by simp[jG,j_]);refine⟨cL,k8 b cL z (IB b o e) (rk b o e U),λn=>?_⟩;have bA:=I.base.keep b o e n U (by simp[jG,j_]);rw[z]at bA;exact hF bA
 .intro atQ dY;cases dY;obtain⟨ob,qQ,_⟩:=e0.there;exact⟨ob,qQ,dR.dict pN qQ⟩
noncomputable def aeZ(C:Addr)(sp:cM)(E:b6)(b_:gi):e8:=λ_ σ H=>b_ σ H λvs H1=>vs.length<=sizeLine/\∀e,H1 e=none->sp (.ref e::vs) (upd H1 e (nG e C)) (λv ag=>v=.bq/\∃ah,ag e=some (nF e C ah)/\E (.ref C) (some ah) (del ag e)) rG
theorem Ų{x y:Str}{C R ox:Addr}{k:Nat}{fd:cF}{ps:b9}{sp:cM}{np fb pos:Pos}{cJ:Expr}{es:gO}{b_:gi}(jS:qp K mg y C R)(hm:mg x=some (.ref C))(aof:pA K (.ref C)=true)(ar:b5 K (.ref C) "__init__"=some (some (.ref ox)))(hf:fX K (.ref ox)=true)(F:aL P w K mg base a8 k ox fd ps sp)(aq:gk (k+1) (jG P w K mg base N qual scope f cdv A outer s H E).A)(U:Binds K fd ps [])(bP:i3 (jG P w K mg base N qual scope f cdv A outer s H E) x)(aK:fV (jG P w K mg base N qual scope f cdv A outer s H E) (cJ::es) b_)(kX:(x==("__debug__":Str))=false:=by decide)(he:dV (cJ::es) (jG P w K mg base N qual scope f cdv A outer s H E).env=(false,eval cJ (jG P w K mg base N qual scope f cdv A outer s H E).env)::dV es (jG P w K mg base N qual scope f cdv A outer s H E).env:=by rfl)(fP:(hA fb (dV es (jG P w K mg base N qual scope f cdv A outer s H E).env)).any (·.1)=false:=by rfl):
  fW (jG P w K mg base N qual scope f cdv A outer s H E) (.Raise (some (.Call (.Name x np) (cJ::es) [] fb)) none pos) (aeZ C sp E b_):=by
 intro pins s1 σ H1 D I h;rw[arm_exec_Raise];refine ax (Fe ?_);show aQ _ _ (ď _ (some (do
  let v <-eval (.Call (.Name x np) (cJ::es) [] fb) (jG P w K mg base N qual scope f cdv A outer s H E).env
  sz pos
  pure v)) none) _ _ _
 refine aeY jS (I.ok.hd rfl) (ax (zO (r_ I bP hm ?_ kX)));refine Bm (h₀:=base) I.ok.mod.sf aof (bF (aK fb pins s1 σ H1 _ I h) λus s2⟨vs,ag,bD,r,hz,q⟩=>⟨bD.eD,?_⟩) he fP;refine bF (adi (X:=jG P w K mg base N qual scope f cdv A outer s H E) (Rr:=λe ah ag=>E (.ref C) (some ah) (del ag e)) jS ar hf F aq U bD r hz q) λu s3⟨e,ah,a_,nE,Hw,c5,bU,fz⟩=>?_;subst nE;obtain⟨⟨t,bo,pN⟩,_,_⟩:=(show el P w a_ s3.heap e (nF e C ah)from c5.bb e _ bU)
 refine ax (Fe (bj ⟨e,ah,t,bo,rfl,c5.eD,pN,asD c5 bU ?_ fz⟩));cases oT:s.heap.get? e with
 |none=>rfl
 |some o=>
  obtain⟨cL,z⟩:=bD.base.there e o oT (by simp[jG,j_]);rw[Hw]at z;cases z
theorem þ{x:Str}{st:Stmt}{fd:cF}{ps:b9}{k:Nat}{sp:cM}(F:bB K x qual st f fd)(S:dB N ps (c7 st))(len:∀vs H Q E,sp vs H Q E->vs.length=ps.length)(vN:∀(cdv:Value)(A:c0)(outer:List Env)(s:aF)(H:ae)(vs:aZ)(Q:ba)(E:b6),gk k (A.deeper (ow qual (c7 st) s.heap.objs.size f cdv))->sp vs H Q E->
   ∃t,f_ (jG P w K mg base N qual (c7 st) f cdv A outer s H E) (tT st) t/\t {cj:=λ_ H'=>Q .bq H',my:=Q} (start N vs) H):aL P w K mg base (nj P w) (k+1) f fd ps sp:=by obtain⟨mu,ea,dn,doc,pm,an,cdv,e',oS,rfl,lk,j5⟩:=F.ex;exact KP lk j5 S len λA outer s H vs Q E aq oB=>vN cdv A outer s H vs Q E aq oB
end
noncomputable def Gq(X:bg)(pins:cy)(σ:ao.St)(E:b6)(e:Value)(s':aF):Prop:=
 ∃(b2:ae)(sc:aF)(au:Addr)(cls a0:Value)(H':ae)(B:Heap)(ea:Option Addr),e=.ref au/\Inv X pins σ b2 sc/\m4 X.prog X.w X.stack b2 sc au cls a0 H' B s'/\W3 s'.heap au ea/\E cls ea H'
noncomputable def XP(X:bg)(e:Expr)(t:yf):Prop:=
 ∀(pins:cy)(s:aF)(σ:ao.St)(H:ae)(Q:ba)(E:b6),Inv X pins σ H s->t E σ H Q->aQ (a9 X.prog X.w) X.A (eval e X.env) (ir X pins σ Q) (Gq X pins σ E) s
noncomputable def F8(X:bg)(st:Stmt)(t:nv):Prop:=
 ∀(pins:cy)(s:aF)(σ:ao.St)(H:ae)(D:Ends)(E:ao.St->b6),Inv X pins σ H s->t D E σ H->aQ (a9 X.prog X.w) X.A (exec st X.env) (pC X pins D) (λe s'=>∃a4,Gq X pins a4 (E a4) e s') s
section
variable{X:bg}{e o:Expr}{es:gO}{pos eX p:Pos}{k:Nat}{f C:Addr}{fd:cF}{ps:b9}{sp:cM}{b_:TE}{t:gi}{m x:Str}
theorem ae0{pins:cy}{σ:ao.St}{H:ae}{s:aF}{Q:ba}{E:b6}{us:cC}{vs:aZ}(F:aL X.prog X.w X.K X.mg X.base (nj X.prog X.w) k f fd ps sp)(aq:gk k X.A)(U:Binds X.K fd ps [])(I:Inv X pins σ H s)(r:cO vs us)(h:sp vs H Q E):aQ (a9 X.prog X.w) X.A (call (.ref f) us) (ir X pins σ Q) (Gq X pins σ E) s:=by
 have aj:(us++[]).length=ps.length:=by rw[l4,<-r.length];exact F.len _ _ _ _ h
 have de:=U s us I.eD aj;rw[l4]at de;refine p' (rR (F.run X.A X.stack s H ⟨us,[]⟩ us vs Q E aq I.BY de r h) λr s' aU=>?_);cases r with
 |error e=>
  obtain⟨au,cls,a0,H',B,ea,rfl,T,lk,fz⟩:=aU;exact⟨H,s,au,cls,a0,H',B,ea,rfl,I,T,lk,fz⟩
 |ok fl=>
  cases fl with
  |ret u=>exact I.after aU
  |next=>exact hP aU
  |brk=>exact hP aU
  |cont=>exact hP aU
theorem Va{b3:yf}(he:XP X e b3)(hs:wN e none pos.line X.env=pure false:=by rfl):F8 X (.Expr e pos) (Xj b3):=by intro pins s σ H D E I h;exact Ŋ (gn (he pins s σ H _ _ I h) (λv s1⟨x,H1,aR,ck,bQ⟩=>⟨σ,H1,aR,bQ⟩) λe s' q=>⟨σ,q⟩) I.quiet hs
end
section
variable{M:lA}{A:c0}{E:cD}{s:aF}{B:Heap}{e L:Addr}{cls a0:Value}{Q:Unit->aF->Prop}{env:Env}{outer l:List Env}
theorem ae1(vQ:A.frames=some (env::outer))(hf:env.frame=some L)(OC:sT B (env::outer) e cls a0 s.heap)(ff:∀h',Wj B (env::outer) e cls a0 L h'->s.heap.UpToSlots h'->ie s.heap h'->Q () {s with heap:=h'}):aQ M A (Ra (.ref e) env) Q E s:=
 gn (D1 ű (ar7 (Q:=λ_ s'=>∃h',s'={s with heap:=h'}/\Wj B (env::outer) e cls a0 L h'/\s.heap.UpToSlots h') (E:=λ_ _=>False) vQ hf OC λh' a b=>⟨h',rfl,a,b⟩)) (λ_ s'⟨⟨h',es,a,b⟩,dR⟩=>by subst es;exact ff h' a b dR) λ_ _ z=>z.1.elim
theorem ae2(dm:Wj B l e cls a0 L s.heap)(ff:∀h',sT B l e cls a0 h'->s.heap.UpToSlots h'->ie s.heap h'->Q () {s with heap:=h'}):aQ M A (Sn (.ref e) none) Q E s:=
 gn (D1 P6 (wpAny_landsW (Q:=λ_ s'=>∃h',s'={s with heap:=h'}/\sT B l e cls a0 h'/\s.heap.UpToSlots h') (E:=λ_ _=>False) dm λh' a b=>⟨h',rfl,a,b⟩)) (λ_ s'⟨⟨h',es,a,b⟩,dR⟩=>by subst es;exact ff h' a b dR) λ_ _ z=>z.1.elim
theorem afS(dm:sT B l e cls a0 s.heap)(ff:∀h',sT B l e cls a0 h'->s.heap.UpToSlots h'->ie s.heap h'->Q () {s with heap:=h'}):aQ M A (Sn (.ref e) none) Q E s:=
 gn (D1 P6 (lands_againW (Q:=λ_ s'=>∃h',s'={s with heap:=h'}/\sT B l e cls a0 h'/\s.heap.UpToSlots h') (E:=λ_ _=>False) dm λh' a b=>⟨h',rfl,a,b⟩)) (λ_ s'⟨⟨h',es,a,b⟩,dR⟩=>by subst es;exact ff h' a b dR) λ_ _ z=>z.1.elim
end
noncomputable def aii(K:aV)(dc:nv)(i:Nat)(R:Addr)(ts:e8):e8:=λD σ H=>dc D (λa4 cls ea H'=>∃C ah,cls=.ref C/\ea=some ah/\jL K C R=true/\∀au,H' au=none->
 ts {cj:=λeB ag=>D.cj (eB.set i none) ag,my:=D.my,gv:=λeB ag=>D.gv (eB.set i none) ag,e':=λeB ag=>D.e' (eB.set i none) ag} (a4.set i (some (.ref au))) (upd H' au (kS au C ah))) σ H
theorem afT{X:bg}{st kN:Stmt}{oY:List Stmt}{x n:Str}{np yN pos:Pos}{dc:nv}{ts:e8}{i:Nat}{R:Addr}(r7:X.stack=X.env::X.outer)(OF:X.env.frame=some X.env.locals)(U:F8 X st dc)(eJ:X.N.Nodup)(ar:X.N[i]?=some n)(aj:X.env.scope.names.lookup n=some .local)(bP:i3 X x)(hm:X.mg x=some (.ref R))(cU:jL X.K R R=true)(O8:∀au,f_ (nJ X au) (kN::oY) ts)(kX:(x==("__debug__":Str))=false:=by decide):fW X (.Try [st] [.ExceptHandler (some (.Name x np)) (some n) (kN::oY) yN] [] [] pos) (aii X.K dc i R ts):=by
 intro pins s σ H D I h;refine ar1 (JF (gn (U pins s σ H D _ I h) (λf s1 q=>?_) λe s1 q=>?_))
 .cases f with
  |next=>exact sH (sH q)
  |ret v=>exact q
  |brk=>exact q
  |cont=>exact q
 .obtain⟨n6,b2,sc,au,cls,a0,H',B,ea,rfl,AS,T,lk,C,ah,rfl,rfl,ky,k⟩:=q;obtain⟨o0,aol,anS⟩:=lk ah rfl;have vQ:X.A.frames=some (X.env::X.outer):=by rw[<-r7];exact I.ok.frames
  have CC:=T.fl;rw[r7]at CC;refine ae1 vQ OF CC λcX OA rq aq7=>ae2 OA λd3 vD Tf aq8=>?_;have CD:=vD;rw[<-r7]at CD;have pD:=T.move CD (rq.trans Tf);have jy:Inv X pins n6 H' {s1 with heap:=d3}:=AS.BH (s':={s1 with heap:=d3}) (ch:=[]) pD.os pD.un pD.bb pD.bare (λb z=>bG z (by simp));obtain⟨ob,qQ,Hz⟩:=vD.there;refine Ō (Zi (r_ (X:=nJ X au) (ct.Inv.oY jy au) bP hm (V8 jy.eD ky cU qQ Hz ?_) kX)) (by intro q;cases q);refine alK (afS vD λku CE Tg aq9=>?_);have CF:=CE;rw[<-r7]at CF;have jm:=pD.move CF Tg;obtain⟨Rj,v6,Φ,τ,Ε,_⟩:=CE.first;have Hm:Rj.dict=some ah:=(((aq7.trans aq8).trans aq9).dict aol Φ).trans anS;have OO:ku.get? au=some ⟨.ref C,some ah,.fields v6,Rj.slots⟩:=by rw[Φ];obtain⟨c,d,lF,bo⟩:=Rj;dsimp only at τ Ε Hm;rw[τ,Ε,Hm]
  have old:∀b o,sc.heap.get? b=some o->b≠au:=λb o e=>T.ô e;have gZ:=T.new;have rI:Inv X pins n6 (upd H' au (kS au C ah)) {s1 with heap:=ku}:=by
   refine AS.BH (s':={s1 with heap:=ku}) (ch:=[]) jm.os ⟨jm.un.keep,jm.un.slot,λb o e lQ av=>by rw[aA (old b o e)];exact jm.un.free b o e lQ av,jm.un.there,λb xs e=>?_,λb o u e=>?_,λb ps e=>?_⟩ ?_ jm.bare (λb z=>bG z (by simp))
   .have:=jm.un.hM b xs e;rw[aA (bZ this gZ)];exact this
   .have:=jm.un.iT b o u e;rw[aA (bZ this gZ)];exact this
   .obtain⟨m,this⟩:=jm.un.ji b ps e;exact⟨m,by rw[aA (bZ this gZ)];exact this⟩
   .intro b u e;by_cases de:b=au
    .subst de;rw[aP]at e;cases e;exact agM OO
    .rw[aA de]at e;exact(jm.bb b u e).nd (λc v _ q=>q) (λc q=>by rw[aA (bZ q gZ)];exact q) λc xs q=>by rw[aA (bZ q gZ)];exact q
  refine IM (X:=nJ X au) (ct.Inv.oY rI au) eJ ar (.inl aj) (v:=.ref au) rfl (λgm kk=>?_) (.inr aj);have aO:(X.env.scope.kind==.class||(X.env.scope.kind==.module&&X.env.locals !=X.env.globals))=false:=by rw[I.ok.kind];rfl
  have gone:∀{jk:ao.St}{dD:ae}{fh:aF}{mP:aF->Prop},Inv (nJ X au) pins jk dD fh->(∀jv,Inv X pins (jk.set i none) dD jv->mP jv)->
    aQ (a9 X.prog X.w) X.A (do bindName X.env n .none;arS X.env n yN) (λ_ jv=>mP jv) X.d0 fh:=λ{jk dD fh mP}h7 aU=>by
   have AR:Inv X pins jk dD fh:=Inv.ĺ I.ok.hd h7;obtain⟨m,aT,_⟩:=id AR.loc;refine asa aj aT aO λoz v C1 Sl=>aU _ (Inv.forget AR eJ ar Sl λcV yL=>?_);have em:cV=m:=by obtain⟨o,es,ep,aB,aD,_,cH⟩:=aT;obtain⟨cL,lG,nD,pJ,BN,_,Nu⟩:=yL;rw[aB]at pJ;cases pJ;rw[aD]at BN;cases BN;funext y;rw[<-cH y,<-Nu y]
   subst em;exact⟨v,C1⟩
  refine gn (O8 au pins gm _ _ _ kk (k au gZ)) (λNP fh m8=>?_) λ_ _ z=>hP z;cases NP with
  |next=>obtain⟨jk,dD,h7,q⟩:=m8;exact gone h7 λjv kJ=>⟨_,dD,kJ,q⟩
  |brk=>obtain⟨jk,dD,h7,q⟩:=m8;exact gone h7 λjv kJ=>⟨_,dD,kJ,q⟩
  |cont=>obtain⟨jk,dD,h7,q⟩:=m8;exact gone h7 λjv kJ=>⟨_,dD,kJ,q⟩
  |ret u=>obtain⟨iK,jk,dD,h7,Ec,q⟩:=m8;exact gone h7 λjv kJ=>⟨iK,_,dD,kJ,Ec,q⟩
section
variable{X:bg}
theorem abG:j8 X (.builtin "isinstance") (λxs H Q=>∃(au C ah:Addr)(b:Bool),H au=some (kS au C ah)/\lj X.K C/\((∃R,xs=[.ref au,.ref R]/\h8 X.K (.ref C) (.ref R)=some b)\/∃T,xs=[.ref au,.ty T]/\h8 X.K (.ref C) (.type T)=some b)/\Q (.aM b) H):=by
 intro pins s σ H xs us Q I r h;obtain⟨au,C,ah,b,ik,c,j7,q⟩:=h;obtain⟨⟨vs,bo,bP⟩,_,_⟩:=(show el X.prog X.w H s.heap au (kS au C ah)from I.bb au _ ik)
 have ty:ry s.heap au C:=⟨_,bP,rfl⟩
 rcases j7 with⟨R,rfl,qZ⟩|⟨T,rfl,qZ⟩
 .obtain⟨u,e5,rfl,ez,gY⟩:=vals2 r;cases ez;cases gY;exact mO (DZ c) I.eD ty qZ (λz=>nomatch z) λa5=>⟨.aM b,H,I.tok a5,rfl,q⟩
 .obtain⟨u,e5,rfl,ez,gY⟩:=vals2 r;cases ez;cases gY;exact mO (DZ c) I.eD ty qZ (λz=>nomatch z) λa5=>⟨.aM b,H,I.tok a5,rfl,q⟩
theorem TR{K:aV}{a:Addr}{xs:aZ}{g:jB}{dc:e8}{D:Ends}{σ:ao.St}{H:ae}(Pv:Nat->ao.St->ae->Prop)(h0:Pv 0 σ H)(aj:∀i σ H,Pv i σ H->aJ K H a xs)(hs:∀i x σ H p,xs[i]?=some x->Pv i σ H->H p=none->g (.ref p) σ (upd H p (.tup [.int i,x])) λeB ag=>dc {D with cj:=Pv (i+1),e':=Pv (i+1),gv:=D.cj} eB ag)(hd:∀σ H,Pv xs.length σ H->D.cj σ H):
  ∃W:Nat->Nat->ao.St->ae->Prop,(∃m,W 0 m σ H)/\∀i m σ H,W i m σ H->
   ((sV K a).stop i H/\D.cj σ H)\/((sV K a).go i H/\∃N:ao.St->ae->Prop,(∀a4 H',N a4 H'->∃cV,cV<m/\W (i+1) cV a4 H')/\∀x H',(sV K a).n4 i H x H'->g x σ H' λeB ag=>dc {D with cj:=N,e':=N,gv:=D.cj} eB ag):=by
 refine⟨λi m σ H=>m=xs.length-i/\i<=xs.length/\Pv i σ H,⟨xs.length,by simp,e_ _,h0⟩,?_⟩;rintro i m σ H ⟨rfl,ar,p⟩;have q:=aj i σ H p;by_cases cP:i<xs.length
 .refine .inr ⟨⟨xs,xs[i],q,by simp[cP]⟩,Pv (i+1),λa4 H' hL=>⟨xs.length-(i+1),by omega,rfl,cP,hL⟩,λv H' y=>?_⟩;obtain⟨r,x,aq,rfl,av,rfl⟩:=y;exact hs i x σ H r (av xs q) p aq
 .have e:i=xs.length:=by omega
  subst e;exact .inl ⟨⟨xs,q,cq _⟩,hd σ H p⟩
end
end ct
namespace dW
open PySem ao ct dx
inductive aa4(vs:aZ)(H:ae)(Q:ba)(bN:b6):Prop where
 |mk (c:Int) (m:Nat) (bV:vs=[.int c,.int m]) (bA:m<=12) (cn:∀(p:Addr)(H':ae),H p=none->aN H H'->H' p=some (.lst (cK (sa c m)))->Q (.ref p) H')
noncomputable def SS:cM:=λvs H Q bN=>aa4 vs H Q bN
theorem asE{c:Int}{m:Nat}(h:m<=12):Good (sa c m):=⟨λx av=>by
 obtain⟨k,_,rfl⟩:=b4.mp av;exact agJ c k,aa2 h,by rw[Rn];exact h⟩
noncomputable def xU(c:Int)(k j:Nat):Int:=c/64+5*(0+(j:Int))*(0+(j:Int))+2*(0+(k:Int))*(if decide (V.int (0+(j:Int))=V.int (c/8%(1+c%8)))=true then 1 else 0)
theorem aij(c:Int)(k j:Nat):97+(xU c k j%26).toNat=ih c k j:=by
 unfold xU ih;rw[afh c];by_cases h:j=fP c
 .subst h;rw[bM rfl,bM (cu (by rw[qc])),qc,qc]
 .rw[bE h,bE (by rw[dJ (λz=>h (by have:=V.int.inj z;omega))];exact fp),qc,qc]
theorem û{α:Type}(f:Nat->α)(n:Nat):(ek (n+1)).map f=(ek n).map f++[f n]:=by rw[s7,eU];rfl
section
variable{P:bO}{w:bx}{K:aV}{mg:cI}{base:Heap}
noncomputable abbrev Er:Stmt:=top 44
theorem ajB:dB ["_law_script","_law_k"] ["_law_script","_law_k"] (c7 Er):=⟨rfl,rfl,rfl,by decide+kernel,rfl,by decide+kernel,by decide+kernel⟩
theorem aik{f:Addr}{fd:cF}(F:bB K "_law_cell_at" "_law_cell_at" Er f fd)(len:mg "len"=none):aL P w K mg base a8 1 f fd ["_law_script","_law_k"] (LG K):=by
 refine F.ok ajB (λvs H Q E h=>?_) (λcdv A outer s H vs Q E aq h=>?_)
 .obtain⟨a,ns,k,rfl,_⟩:=h;rfl
 .obtain⟨a,ns,k,rfl,fO,h0,q⟩:=h;refine⟨_,bh (eY (eC p2 (aa 1) (dE gP (by rfl) len PySem.boot_len (ak (aa 0) aI)) (dz _)) (br (c_ (cv fu (aa 0) (aa 1) (λ_ _=>rfl)))) fv) (br (c_ aW)),?_⟩;refine⟨_,rfl,_,rfl,a,_,rfl,.inl fO,_,_,rfl,rfl,_,rfl,?_⟩;refine nZ (λh=>?_) (λh=>?_)
  .have af:=ju h;exact⟨_,rfl,_,rfl,a,_,k,_,rfl,rfl,fO,ae9 h0 af,q⟩
  .have af:¬k<((ns.map V.int).length:Int):=λz=>h (cu z);rw[bp]at af;have e:ns.getD k.toNat 0=0:=by rw[eL,List.getElem?_eq_none (by omega)];rfl
   rw[e]at q;exact q
noncomputable abbrev D2:Stmt:=top 45
noncomputable abbrev adj:List Str:=["_law_cell","_law_many","_law_letters","_law_size","_law_at","_law_names","_law_k","_law_name","_law_j","_law_place"]
theorem qB:dB adj ["_law_cell","_law_many"] (c7 D2):=⟨rfl,rfl,rfl,by decide+kernel,rfl,by decide+kernel,by decide+kernel⟩
theorem aa5{f:Addr}{fd:cF}(F:bB K "_law_houses" "_law_houses" D2 f fd)(B:gp mg):aL P w K mg base a8 1 f fd ["_law_cell","_law_many"] SS:=by
 refine F.ok qB (λvs H Q E h=>?_) (λcdv A outer s H vs Q E aq h=>?_)
 .obtain⟨c,m,rfl,_⟩:=h;rfl
 .obtain⟨c,m,rfl,hm,q⟩:=h;refine⟨_,(bh (da (i:=2) qB.aG rfl (cb rfl) j2)
   (bh (da (i:=3) qB.aG rfl (cb rfl) (bK ib aW (bK e9 (aa 0) aW)))
   (bh (da (i:=4) qB.aG rfl (cb rfl) (bK e9 (bK g9 (aa 0) aW) (aa 3)))
   (bh (da (i:=5) qB.aG rfl (cb rfl) (gS aI))
   (bh (kq kM rfl (yR rfl B.range (ak (aa 1) aI)) (et (i:=6) qB.aG rfl (cb rfl))
    (bh (da (i:=7) qB.aG rfl (cb rfl) j2)
   (bh (kq kM rfl (yR rfl B.range (ak (aa 3) aI)) (et (i:=8) qB.aG rfl (cb rfl))
    (bh (da (i:=9) qB.aG rfl (cb rfl) (bK ib (bK ib (bK g9 (aa 0) aW) (bK ui (bK ui aW (aa 8)) (aa 8))) (bK ui (bK ui aW (aa 6)) (nA Ŗ (by rfl) B.int JT (ak (i6 i9 (aa 8) (aa 4) (dz _)) aI)))))
   (br (da (i:=7) qB.aG rfl (cb rfl) (bK Dr (aa 7) (cv agW (aa 2) (bK e9 (aa 9) aW) (λ_ _=>rfl)))))))
   (br (gQ (nN og pw px nB (aa 5) (ak (aa 7) aI)))))))
   (br (c_ (aa 5)))))))),?_⟩
  have bV:=Xu c;have bA:=afg c;refine⟨_,rfl,_,_,rfl,rfl,(by show(0:Int)<8;decide),_,_,rfl,rfl,?_⟩;refine⟨_,rfl,_,_,rfl,rfl,⟨by decide,by decide⟩,_,rfl,_,_,rfl,rfl,(by show(0:Int)<1+c%8;omega),?_⟩;refine⟨e_ _,λp np=>⟨_,rfl,_,rfl,(by omega),(by omega),?_⟩⟩;refine ŕ (lo:=0) (n:=m) (λk σ ag=>ag=upd H p (.lst (cK (sa c k)))/\∃a1 a2 hv jn,σ=[some (.int c),some (.int m),some (.str (eR "abcdefghijklmnopqrstuvwxyz")),some (.int (1+c%8)),some (.int (c/8%(1+c%8))),some (.ref p),a1,a2,hv,jn]) ⟨rfl,none,none,none,none,rfl⟩ ?_ ?_
  .rintro k σ ag aX ⟨rfl,a1,a2,hv,jn,rfl⟩;refine⟨_,rfl,_,rfl,(by omega),(by omega),?_⟩;refine ŕ (lo:=0) (n:=hsz c) (λj σ a_=>a_=upd H p (.lst (cK (sa c k)))/\∃fD fL,σ=[some (.int c),some (.int m),some (.str (eR "abcdefghijklmnopqrstuvwxyz")),some (.int (1+c%8)),some (.int (c/8%(1+c%8))),some (.ref p),some (.int (0+(k:Int))),some (.str (S ((ek j).map (ih c k)))),fD,fL]) ⟨rfl,hv,jn,rfl⟩ ?_ ?_
   .rintro j σ a_ bL ⟨rfl,fD,fL,rfl⟩;refine⟨_,rfl,_,_,rfl,rfl,⟨by decide,by decide⟩,_,rfl,_,_,rfl,rfl,.inl ⟨by decide,by decide⟩,_,rfl,_,_,rfl,rfl,.inr ⟨by show -(2 ^ 64)<0+(j:Int);omega,by show 0+(j:Int)<2 ^ 64;omega⟩,_,_,rfl,rfl,_,rfl,_,_,rfl,rfl,.inl ⟨by decide,by decide⟩,_,rfl,_,rfl,rfl,.inr ⟨_,rfl,_,_,rfl,rfl,.inl ⟨by show -(2 ^ 64)<2*(0+(k:Int));omega,by show 2*(0+(k:Int))<2 ^ 64;omega⟩,_,_,rfl,rfl,?_⟩⟩;have k1:0<=xU c k j%26:=iu _ (by decide);have k2:xU c k j%26<26:=l3 _ (by decide);have hK:(⟨#[97+(xU c k j%26).toNat]⟩:Str).length=1:=rfl;refine⟨_,rfl,_,rfl,_,rfl,_,_,rfl,rfl,(by show(0:Int)<26;decide),_,_,_,rfl,rfl,(by decide+kernel),adv k1 k2,_,_,rfl,rfl,?_,rfl,some (.int (0+(j:Int))),some (.int (xU c k j)),?_⟩
    .rw[ra,bp,jz];show j+1<=sizeLine;exact oc (eW (by omega))
    .rw[û,<-w2,<-aij];rfl
   .rintro σ a_ ⟨rfl,fD,fL,rfl⟩;refine⟨_,rfl,.inl ⟨rfl,_,aJ.of aP⟩,_,rfl,p,_,_,rfl,rfl,aP,eW (by rw[Jo,Rn];omega),?_,_,_,_,_,rfl⟩;rw[V'];unfold sa;rw[û];unfold cK;rw[eU];rfl
  .rintro σ ag ⟨rfl,a1,a2,hv,jn,rfl⟩;exact⟨_,rfl,q p _ np (bW np) aP⟩
noncomputable abbrev wt:Stmt:=top 8
noncomputable abbrev v9:Stmt:=top 9
noncomputable abbrev wu:Stmt:=top 10
noncomputable abbrev t2:Stmt:=top 11
noncomputable abbrev z5:Stmt:=top 30
noncomputable abbrev z6:Stmt:=top 31
noncomputable abbrev Ac:Stmt:=top 32
noncomputable abbrev Af:Stmt:=top 33
theorem Ws:dB ["thing"] ["thing"] (c7 wt):=⟨rfl,rfl,rfl,by decide+kernel,rfl,by decide+kernel,by decide+kernel⟩
theorem adt{f:Addr}{fd:cF}(F:bB K "is_whole" "is_whole" wt f fd)(B:gp mg)(KT:WX K):aL P w K mg base a8 1 f fd ["thing"] UX:=by
 refine F.ok Ws (λvs H Q E h=>?_) (λcdv A outer s H vs Q E aq h=>?_)
 .obtain⟨i,rfl,_⟩:=h;rfl
 .obtain⟨i,rfl,q⟩:=h;refine⟨_,(br (c_ (jK (dE mf (by rfl) B.isinstance jD (ak (aa 0) (ak (lJ (by rfl) B.int JT) aI))) (m3 (WY (dE mf (by rfl) B.isinstance jD (ak (aa 0) (ak (lJ (by rfl) B.bool UO) aI)))))))),?_⟩;refine⟨_,rfl,_,_,_,_,_,rfl,⟨rfl,.int _,E3 _ _⟩,_,rfl,h3 ?_⟩;exact⟨_,rfl,_,_,_,_,_,rfl,⟨rfl,.int _,KT.PX⟩,_,rfl,q⟩
theorem Vv:dB ["thing","least","greatest"] ["thing","least","greatest"] (c7 v9):=⟨rfl,rfl,rfl,by decide+kernel,rfl,by decide+kernel,by decide+kernel⟩
theorem abH{f Cf:Addr}{fd Cx:cF}(F:bB K "is_whole_within" "is_whole_within" v9 f fd)(qy:dO K mg "is_whole" wt ["thing"] Cf Cx)(Dt:aL P w K mg base a8 1 Cf Cx ["thing"] UX):aL P w K mg base a8 2 f fd ["thing","least","greatest"] TM:=by
 refine F.ok Vv (λvs H Q E h=>?_) (λcdv A outer s H vs Q E aq h=>?_)
 .obtain⟨i,a,b,rfl,_⟩:=h;rfl
 .obtain⟨i,a,b,rfl,af,ai,q⟩:=h;refine⟨_,(br (c_ (jK (fw Dt (aq.mono (by decide)) (by rfl) qy.at_ qy.fn.bI qy.bd .nil dt (ak (aa 0) aI)) (m3 (Ts p0 p0 (aa 1) (aa 0) (aa 2)))))),?_⟩;refine⟨_,rfl,_,rfl,_,rfl,h3 ?_⟩;exact⟨_,rfl,_,rfl,_,_,rfl,rfl,_,rfl,fH (cu af) ⟨_,rfl,_,_,rfl,rfl,nO (cu ai) q⟩⟩
theorem Wt:dB ["thing","length"] ["thing","length"] (c7 wu):=⟨rfl,rfl,rfl,by decide+kernel,rfl,by decide+kernel,by decide+kernel⟩
theorem adu{f:Addr}{fd:cF}(F:bB K "is_tuple_of" "is_tuple_of" wu f fd)(B:gp mg):aL P w K mg base a8 1 f fd ["thing","length"] UY:=by
 refine F.ok Wt (λvs H Q E h=>?_) (λcdv A outer s H vs Q E aq h=>?_)
 .obtain⟨r,xs,n,rfl,_⟩:=h;rfl
 .obtain⟨r,xs,n,rfl,af,ai,q⟩:=h;refine⟨_,(br (c_ (jK (dE mf (by rfl) B.isinstance jD (ak (aa 0) (ak (lJ (by rfl) B.tuple y1) aI))) (m3 (i6 i9 (dE gP (by rfl) B.len gF (ak (aa 0) aI)) (aa 1) (dz _)))))),?_⟩;refine⟨_,rfl,_,_,_,_,_,rfl,⟨rfl,.tup af,E3 _ _⟩,_,rfl,h3 ?_⟩;exact⟨_,rfl,r,_,rfl,.inr (cN.of af),_,rfl,rfl,nO (cu (ha V.int ai)) q⟩
theorem Vw:dB ["houses","one","other"] ["houses","one","other"] (c7 t2):=⟨rfl,rfl,rfl,by decide+kernel,rfl,by decide+kernel,by decide+kernel⟩
theorem abI{f:Addr}{fd:cF}(F:bB K "are_unlike_houses" "are_unlike_houses" t2 f fd):aL P w K mg base a8 1 f fd ["houses","one","other"] (TN K):=by
 refine F.ok Vw (λvs H Q E h=>?_) (λcdv A outer s H vs Q E aq h=>?_)
 .obtain⟨a,ys,x,y,rfl,_⟩:=h;rfl
 .obtain⟨a,ys,x,y,rfl,fO,av,cS,ne,q⟩:=h;refine⟨_,(br (c_ (jK (i6 ū (aa 1) (aa 0) (by rfl)) (jK (i6 ū (aa 2) (aa 0) (by rfl)) (m3 (i6 wY (aa 1) (aa 2) (dz _))))))),?_⟩;refine⟨_,rfl,_,rfl,a,_,rfl,.inl fO,rfl,SO ys,_,rfl,fH (UZ av) ?_⟩;refine⟨_,rfl,_,rfl,a,_,rfl,.inl fO,rfl,SO ys,_,rfl,fH (UZ cS) ?_⟩;refine⟨_,rfl,_,rfl,rfl,nO ?_ q⟩;rw[dJ (λz=>ne (V.str.inj z))];rfl
theorem ahs:dB ["thing"] ["thing"] (c7 z5):=⟨rfl,rfl,rfl,by decide+kernel,rfl,by decide+kernel,by decide+kernel⟩
theorem afV{f:Addr}{fd:cF}(F:bB K "is_name" "is_name" z5 f fd)(B:gp mg)(nk:A6 mg):aL P w K mg base a8 1 f fd ["thing"] Kk:=by
 refine F.ok ahs (λvs H Q E h=>?_) (λcdv A outer s H vs Q E aq h=>?_)
 .obtain⟨l,rfl,_⟩:=h;rfl
 .obtain⟨l,rfl,eJ,q⟩:=h;refine⟨_,(bh (eY (iv.pt (oI (i7 (iR (dE mf (by rfl) B.isinstance jD (ak (aa 0) (ak (lJ (by rfl) B.str agO) aI))))) (pR (i7 (Tt p0 p0 aW (dE asH (by rfl) B.len gF (ak (aa 0) aI)) (tR (by rfl) nk.adp)))))) (br (c_ hW)) fv)
   (br (c_ (dE (Tv rfl) (by rfl) B.Nc Kj (ak (uB (N':=["sign"]) (cs:=[none]) rfl (ag2 (aa 0)) rfl (by decide+kernel) rfl (by decide+kernel) (lK (λp aO=>bG aO (dX))) rfl
    (.own .nil)
    (λC s3 a_ cp fg=>⟨(et (i:=0) (by show(["sign"]:b9).Nodup;decide+kernel) rfl (.inl rfl)),qX,(Ts ŭ ŭ j2 (aa 0) j2)⟩)) aI))))),?_⟩
  have aj:=ra l;have hz:(S l).length<=sizeLine:=oc (eW (by rw[aj];have:=eJ.2.1;omega));have af:(1:Int)<=((S l).length:Int):=by have:=eJ.1;omega
  have kV:((S l).length:Int)<=8:=by have:=eJ.2.1;omega
  refine⟨_,rfl,_,_,_,_,_,rfl,⟨rfl,.str _,E3 _ _⟩,_,rfl,gx ?_⟩;refine⟨_,rfl,_,rfl,hz,_,_,rfl,rfl,_,rfl,fH (cu af) ⟨_,_,rfl,rfl,_,rfl,KV kV ?_⟩⟩;dsimp only[z8,AW,Fy,uw,sm];refine Jn (J:=FT (S l)) (H1:=H) (xs:=signs (S l)) (rest:=[]) (λR h=>⟨_,rfl,_,rfl,h⟩) rfl (ag1 _) (eW ?_) (λ_=>.aM true) (λi x ag R ex aH cU=>?_) (λD H' af ai bU=>?_)
  .rw[VZ,bp];have:=eJ.2.1;omega
  .rw[VZ]at ex;obtain⟨k,aX,rfl⟩:=b4.mp (eH ex);have Κ:=eJ.2.2 k aX;have aB:(!decide ((S [k]).cps.toList<(eR "a").cps.toList))=true:=by rw[aq3];exact(Xg k 97).trans (cu Κ.1)
   have aD:(!decide ((eR "z").cps.toList<(S [k]).cps.toList))=true:=by rw[aq4];exact(Xg 122 k).trans (cu Κ.2)
   exact⟨_,rfl,_,_,rfl,rfl,_,rfl,fH aB ⟨_,_,rfl,rfl,nO aD (cU ag (aN.refl _))⟩⟩
  .exact⟨D,A5 (signs (S l)).length true,rfl,aJ.of (by rw[ai,TK]),nO (TL _) (q H' bU)⟩
theorem ahu:dB ["things"] ["things"] (c7 z6):=⟨rfl,rfl,rfl,by decide+kernel,rfl,by decide+kernel,by decide+kernel⟩
theorem afW{f B_:Addr}{fd Cw:cF}(F:bB K "are_houses" "are_houses" z6 f fd)(B:gp mg)(nk:A6 mg)(DP:dO K mg "is_name" z5 ["thing"] B_ Cw)(SU:aL P w K mg base a8 1 B_ Cw ["thing"] Kk):
  aL P w K mg base a8 2 f fd ["things"] Kl:=by
 refine F.ok ahu (λvs H Q E h=>?_) (λcdv A outer s H vs Q E aq h=>?_)
 .obtain⟨a,hs,rfl,_⟩:=h;rfl
 .obtain⟨a,hs,rfl,aK,rY,q⟩:=h;refine⟨_,(bh (eY (iv.pt (oI (i7 (iR (dE mf (by rfl) B.isinstance jD (ak (aa 0) (ak (lJ (by rfl) B.list oD) aI))))) (pR (eC wZ (dE gP (by rfl) B.len gF (ak (aa 0) aI)) (tR (by rfl) nk.adl) (dz _))))) (br (c_ hW)) fv)
   (br (c_ (jK (dE (Tv rfl) (by rfl) B.Nc Kj (ak (uB (N':=["thing"]) (cs:=[none]) rfl (jY (aa 0)) rfl (by decide+kernel) rfl (by decide+kernel) (lK (λp aO=>bG aO (dX))) rfl
    (.own .nil)
    (λC s3 a_ cp fg=>⟨(et (i:=0) (by show(["thing"]:b9).Nodup;decide+kernel) rfl (.inl rfl)),qX,(fw SU (aq.mono (by decide)) (by rfl) DP.at_ DP.fn.bI DP.bd .nil dt (ak (aa 0) aI))⟩)) aI)) (m3 (i6 i9 (dE ass (by rfl) B.len gF (ak (nA (ac3 rfl) (by rfl) B.ara agP (ak (aa 0) aI)) aI)) (dE gP (by rfl) B.len gF (ak (aa 0) aI)) (dz _))))))),?_⟩
  have aj:=Jo hs;have hf:=rY.eh;refine⟨_,rfl,_,_,_,_,_,rfl,⟨rfl,.lst aK,E3 _ _⟩,_,rfl,gx ?_⟩;refine⟨_,rfl,a,_,rfl,.inl (aJ.of aK),_,_,rfl,rfl,_,rfl,ew (dJ (by omega)) ?_⟩;dsimp only[z8,AW,Fy,uw,sm];refine Jn (J:=mI K a) (H1:=H) (xs:=cK hs) (rest:=[]) (λR h=>⟨_,rfl,a,rfl,⟨_,aJ.of aK⟩,h⟩) rfl (tZ (aJ.of aK)) (eW (by omega)) (λ_=>.aM true) (λi x ag R ex aH cU=>?_) (λD H' af ai bU=>?_)
  .obtain⟨l,vT,rfl⟩:=b4.mp (eH ex);exact⟨_,rfl,l,rfl,rY.nm l vT,λH' oX=>cU H' oX⟩
  .refine⟨D,A5 (cK hs).length true,rfl,aJ.of (by rw[ai,TK]),_,rfl,fH (TL _) ?_⟩;have tJ:=bU _ _ aK;refine⟨_,rfl,a,hs.map S,rfl,aJ.of (by rw[tJ,UP]),(by rw[bp];omega),λp aO=>?_⟩;have s2:aN H' (upd H' p (Gd P w p (n0 (λi=>(hs.map S).getD i mQ) (hs.map S).length))):=bW aO;refine⟨p,_,rfl,aP,_,rfl,a,_,rfl,.inl (aJ.of (s2 _ _ tJ)),rfl,nO (cu ?_) (q _ (bU.trans s2))⟩;rw[Vh _ _ (afb rY.aG),bp,aj]
theorem ahv:dB ["houses","thing"] ["houses","thing"] (c7 Ac):=⟨rfl,rfl,rfl,by decide+kernel,rfl,by decide+kernel,by decide+kernel⟩
theorem afX{f f1 f2 cz:Addr}{fd c4 ec hn:cF}(F:bB K "is_road" "is_road" Ac f fd)(nk:A6 mg)(qs:dO K mg "is_tuple_of" wu ["thing","length"] f1 c4)(CH:aL P w K mg base a8 1 f1 c4 ["thing","length"] UY)(ma:dO K mg "are_unlike_houses" t2 ["houses","one","other"] f2 ec)(vp:aL P w K mg base a8 1 f2 ec ["houses","one","other"] (TN K))(ny:dO K mg "is_whole_within" v9 ["thing","least","greatest"] cz hn)(yn:aL P w K mg base a8 2 cz hn ["thing","least","greatest"] TM):
  aL P w K mg base a8 3 f fd ["houses","thing"] (Km K):=by
 refine F.ok ahv (λvs H Q E h=>?_) (λcdv A outer s H vs Q E aq h=>?_)
 .obtain⟨a,r,hs,d,rfl,_⟩:=h;rfl
 .obtain⟨a,r,hs,d,rfl,fO,aG,ok,kZ,q⟩:=h;refine⟨_,(br (c_ (jK (fw CH (aq.mono (by decide)) (by rfl) qs.at_ qs.fn.bI qs.bd .nil dt (ak (aa 1) (ak aW aI))) (jK (fw vp (aq.mono (by decide)) (by rfl) ma.at_ ma.fn.bI ma.bd .nil dt (ak (aa 0) (ak (cv fa (aa 1) aW (λ_ _=>rfl)) (ak (cv fa (aa 1) aW (λ_ _=>rfl)) aI)))) (jK (fw yn (aq.mono (by decide)) (by rfl) ny.at_ ny.fn.bI ny.bd .nil dt (ak (cv fa (aa 1) aW (λ_ _=>rfl)) (ak aW (ak (tR (by rfl) nk.ads) aI)))) (m3 (fw yn (aq.mono (by decide)) (by rfl) ny.at_ ny.fn.bI ny.bd .nil dt (ak (cv fa (aa 1) aW (λ_ _=>rfl)) (ak aW (ak (tR (by rfl) nk.ado) aI)))))))))),?_⟩;have CP:aJ K H a ((hs.map S).map V.str):=by rw[<-UP];exact fO
  refine⟨_,rfl,r,_,_,rfl,kZ,rfl,_,rfl,h3 ?_⟩;refine⟨_,rfl,_,rfl,r,_,_,_,rfl,rfl,cN.of kZ,rfl,_,rfl,r,_,_,_,rfl,rfl,cN.of kZ,rfl,a,hs.map S,_,_,rfl,CP,zC ok.a,zC ok.b,aiI aG ok.a ok.b ok.ne,_,rfl,h3 ?_⟩;refine⟨_,rfl,r,_,_,_,rfl,rfl,cN.of kZ,rfl,_,_,_,rfl,ok.t.1,ok.t.2,_,rfl,h3 ?_⟩;exact⟨_,rfl,r,_,_,_,rfl,rfl,cN.of kZ,rfl,_,_,_,rfl,ok.m.1,ok.m.2,q⟩
theorem ahw:dB ["houses","things"] ["houses","things"] (c7 Af):=⟨rfl,rfl,rfl,by decide+kernel,rfl,by decide+kernel,by decide+kernel⟩
theorem afY{f B_:Addr}{fd Cw:cF}(F:bB K "are_roads" "are_roads" Af f fd)(B:gp mg)(nk:A6 mg)(DQ:dO K mg "is_road" Ac ["houses","thing"] B_ Cw)(SV:aL P w K mg base a8 3 B_ Cw ["houses","thing"] (Km K)):
  aL P w K mg base a8 4 f fd ["houses","things"] (Kn K):=by
 refine F.ok ahw (λvs H Q E h=>?_) (λcdv A outer s H vs Q E aq h=>?_)
 .obtain⟨a,b,hs,rs,ds,rfl,_⟩:=h;rfl
 .obtain⟨a,b,hs,rs,ds,rfl,aK,aG,U,cU,eh,q⟩:=h;refine⟨_,(bh (eY (iv.pt (oI (i7 (iR (dE mf (by rfl) B.isinstance jD (ak (aa 1) (ak (lJ (by rfl) B.list oD) aI))))) (pR (eC wZ (dE gP (by rfl) B.len gF (ak (aa 1) aI)) (tR (by rfl) nk.adn) (dz _))))) (br (c_ hW)) fv)
   (br (c_ (dE (Tv rfl) (by rfl) B.Nc Kj (ak (uB (N':=["thing","houses"]) (cs:=[none,some 0]) rfl (jY (aa 1)) rfl (by decide+kernel) rfl (by decide+kernel) (lK (n'.mpr ⟨rfl,(λp aO=>bG aO (dX))⟩)) rfl
    (.own (.md rfl (.inl rfl) (.inl rfl) rfl .nil))
    (λC s3 a_ cp fg=>⟨(et (i:=0) (by show(["thing","houses"]:b9).Nodup;decide+kernel) rfl (.inl rfl)),qX,(fw SV (aq.mono (by decide)) (by rfl) DQ.at_ DQ.fn.bI DQ.bd .nil dt (ak (aa 1) (ak (aa 0) aI)))⟩)) aI))))),?_⟩
  have aj:=eI rs;refine⟨_,rfl,_,_,_,_,_,rfl,⟨rfl,.lst U,E3 _ _⟩,_,rfl,gx ?_⟩;refine⟨_,rfl,b,_,rfl,.inl (aJ.of U),_,_,rfl,rfl,_,rfl,ew (dJ (by omega)) ?_⟩;dsimp only[z8,AW,Fy,uw,sm];refine Jn (J:=mI K b) (H1:=H) (xs:=aC rs) (rest:=[some (.ref a)]) (λR h=>⟨_,rfl,b,rfl,⟨_,aJ.of U⟩,h⟩) rfl (tZ (aJ.of U)) (eW (by omega)) (λ_=>.aM true) (λi x ag R ex aH yO=>?_) (λD H' af ai bU=>?_)
  .unfold aC at ex;rw[c9]at ex;obtain⟨r,f3,rfl⟩:=fJ.mp ex;obtain⟨d,_,ok,hd⟩:=cU.get f3;exact⟨_,rfl,_,rfl,a,r,hs,d,rfl,aH.seq aK,aG,ok,aH _ _ hd,yO ag (aN.refl _)⟩
  .exact⟨D,A5 (aC rs).length true,rfl,aJ.of (by rw[ai,TK]),nO (TL _) (q H' bU)⟩
noncomputable abbrev Ag:Stmt:=gU (top 36) 0
noncomputable abbrev vY:Stmt:=gU (top 36) 1
noncomputable abbrev Ek:Stmt:=gU (top 36) 2
theorem ahx:dB ["self","houses","roads"] ["self","houses","roads"] (c7 Ag):=⟨rfl,rfl,rfl,by decide+kernel,rfl,by decide+kernel,by decide+kernel⟩
theorem af0{C f Zx Zy:Addr}{fd ZE ZG:cF}(F:bB K "__init__" "Net.__init__" Ag f fd)(B:gp mg)(f':sL K C)(Dc:dO K mg "are_houses" z6 ["things"] Zx ZE)(Qy:aL P w K mg base a8 2 Zx ZE ["things"] Kl)(Dv:dO K mg "are_roads" Af ["houses","things"] Zy ZG)(Ro:aL P w K mg base a8 4 Zy ZG ["houses","things"] (Kn K)):
  aL P w K mg base a8 5 f fd ["self","houses","roads"] (Ko K C):=by
 refine F.ok ahx (λvs H Q E h=>?_) (λcdv A outer s H vs Q E aq h=>?_)
 .obtain⟨x,ah,a,b,hs,rs,ds,rfl,_⟩:=h;rfl
 .obtain⟨x,ah,a,b,hs,rs,ds,rfl,av,aK,rY,U,cU,eh,q⟩:=h;refine⟨_,(bh (eY (i7 (iR (fw Qy (aq.mono (by decide)) (by rfl) Dc.at_ Dc.fn.bI Dc.bd .nil dt (ak (aa 1) aI)))) (br Tr) fv)
   (bh (eY (i7 (iR (fw Ro (aq.mono (by decide)) (by rfl) Dv.at_ Dv.fn.bI Dv.bd .nil dt (ak (aa 1) (ak (aa 2) aI))))) (br Tr) fv)
   (bh (lI (aa 0) (nA vB (by rfl) B.list oD (ak (aa 1) aI)) rfl)
   (br (lI (aa 0) (nA vB (by rfl) B.list oD (ak (aa 2) aI)) rfl))))),?_⟩
  refine⟨_,rfl,a,hs,rfl,aK,rY,λH1 s1=>⟨_,rfl,gx ?_⟩⟩;refine⟨_,rfl,_,rfl,a,b,hs,rs,ds,rfl,aJ.of (s1 _ _ aK),rY.aG,s1 _ _ U,cU.same s1,eh,λag s2=>⟨_,rfl,gx ?_⟩⟩;have gA:=s1.trans s2;refine⟨_,rfl,a,_,rfl,.inl (aJ.of (gA _ _ aK)),λbt tJ=>?_⟩;have s3:aN ag (upd ag bt (.lst (cK hs))):=bW tJ;have kc:=gA.trans s3;have cj:x≠bt:=bZ (gA _ _ av) tJ;refine⟨_,rfl,x,C,ah,_,rfl,kc _ _ av,f'.cl,f'.t8,(by decide),?_⟩;have anQ:b≠x:=λe=>by rw[e,av]at U;cases U
  have Of:upd (upd ag bt (.lst (cK hs))) x (.ins C ah (j' "kept_houses" (.ref bt) [])) b=some (.lst (aC rs)):=by rw[aA anQ];exact kc _ _ U
  refine⟨_,rfl,b,_,rfl,.inl (aJ.of Of),λbu de=>?_⟩;have Rh:bu≠x:=λe=>by rw[e,aP]at de;cases de
  have nb:bu≠bt:=λe=>by rw[e,aA cj.symm,aP]at de;cases de
  refine⟨_,rfl,x,C,ah,_,rfl,(by rw[aA Rh.symm,aP]),f'.cl,f'.jt,(by show 1<1000;decide),?_⟩;refine q _ bt bu (λc o ay kW=>?_) (by rw[aP];rfl) ?_ ?_ ?_ ?_
  .rw[aA ay];have:c≠bu:=λe=>by rw[<-e,aA ay,kc _ _ kW]at de;cases de
   rw[aA this,aA ay];exact kc _ _ kW
  .rw[aA cj.symm,aA nb.symm,aA cj.symm,aP]
  .rw[aA Rh,aP]
  .exact gA.free tJ
  .rw[aA Rh,aA nb]at de;exact gA.free de
theorem abJ:dB ["self"] ["self"] (c7 vY):=⟨rfl,rfl,rfl,by decide+kernel,rfl,by decide+kernel,by decide+kernel⟩
theorem ada:dB ["self"] ["self"] (c7 Ek):=⟨rfl,rfl,rfl,by decide+kernel,rfl,by decide+kernel,by decide+kernel⟩
theorem aa6{C f:Addr}{fd:cF}(F:bB K "houses" "Net.houses" vY f fd)(B:gp mg)(f':sL K C):aL P w K mg base a8 1 f fd ["self"] (DI C):=by
 refine F.ok abJ (λvs H Q E h=>?_) (λcdv A outer s H vs Q E aq h=>?_)
 .obtain⟨x,bt,bu,xs,ys,rfl,_⟩:=h;rfl
 .obtain⟨x,bt,bu,xs,ys,rfl,n,q⟩:=h;obtain⟨ah,av⟩:=n.ins;refine⟨_,(br (c_ (nA vB (by rfl) B.list oD (ak (e2 (aa 0) (by rfl)) aI)))),?_⟩;exact⟨_,rfl,x,C,ah,_,_,rfl,av,f'.cl,f'.t8,rfl,bt,_,rfl,.inl (aJ.of n.qR),q⟩
theorem abK{C f:Addr}{fd:cF}(F:bB K "roads" "Net.roads" Ek f fd)(B:gp mg)(f':sL K C):aL P w K mg base a8 1 f fd ["self"] (T2 C):=by
 refine F.ok ada (λvs H Q E h=>?_) (λcdv A outer s H vs Q E aq h=>?_)
 .obtain⟨x,bt,bu,xs,ys,rfl,_⟩:=h;rfl
 .obtain⟨x,bt,bu,xs,ys,rfl,n,q⟩:=h;obtain⟨ah,av⟩:=n.ins;refine⟨_,(br (c_ (nA vB (by rfl) B.list oD (ak (e2 (aa 0) (by rfl)) aI)))),?_⟩;exact⟨_,rfl,x,C,ah,_,_,rfl,av,f'.cl,f'.jt,rfl,bu,_,rfl,.inl (aJ.of n.rg),q⟩
end
theorem Yr{P:bO}{w:bx}{X:bg}:pS (nj P w) X rG:=λ_ _ _ _ _ _ _ h=>by obtain⟨_,_,_,_,_,_,_,_,_,h⟩:=h;exact h.elim
theorem af1{dh:TI}{cs:lD}{b3:TE}{σ rest:ao.St}{H H1:ae}{Q:ba}{J:f9}{xs:aZ}(hw:∀R:f9->ae->Prop,R J H1->dh σ H R)(ij:il cs σ=none::rest)(dN:oi J H1 xs)(aj:xs.length<sizeLine)(f:ao.V->List ao.V)(elt:∀(i:Nat)(x:ao.V)(ag:ae)(R:ba),xs[i]?=some x->aN H1 ag->(∀r bw,aN ag bw->bw r=some (.tup (f x))->R (.ref r) bw)->b3 (some x::rest) ag R)(fin:∀(D:Addr)(H':ae)(rs:bS),H1 D=none->H' D=some (.lst (aC rs))->d_ H' rs (xs.map f)->aN H1 H'->Q (.ref D) H'):n1 dh cs (hX 0) sN b3 σ H Q:=by
 refine hw _ λD bR=>?_;refine⟨λi m ys a4 H'=>m=xs.length-i/\i<=xs.length/\(∃rs,ys=aC rs/\d_ H' rs ((xs.take i).map f))/\(∃o,a4=o::rest)/\aN H1 H'/\H' D=some (.lst ys),⟨xs.length,by simp,e_ _,⟨[],rfl,.nil⟩,⟨none,ij⟩,λb o e=>?_,aP⟩,?_⟩
 .rw[aA (bZ e bR)];exact e
 .rintro i m ys a4 H' ⟨rfl,ar,⟨rs,rfl,dg⟩,⟨o,rfl⟩,aH,fe⟩;obtain⟨fo,fU,hN⟩:=dN H' aH;have ln:=dg.len;rw[bp,mK,adK ar]at ln;refine⟨fe,od (by rw[eI];omega) aj,?_⟩;by_cases cP:i<xs.length
  .refine .inr ⟨fU i cP,λx ag y=>?_⟩;obtain⟨rfl,ex⟩:=hN i x ag cP y;have a5:xs.take (i+1)=xs.take i++[x]:=by rw[pk,ex];rfl
   show b3 (some x::rest) ag _;refine elt i x ag _ ex aH λr bw s5 aq=>⟨s5 _ _ fe,xs.length-(i+1),by omega,rfl,cP,⟨rs++[r],rX rs r,?_⟩,⟨_,rfl⟩,λb ob e=>?_,aP⟩
   .rw[a5,eU];exact d_.upd (Paired.snoc (F:=λr d=>bw r=some (.tup d)) aq (dg.same s5)) (s5 _ _ fe) (by intro d z;cases z)
   .rw[aA (bZ e bR)];exact s5 _ _ (aH _ _ e)
  .have e:i=xs.length:=by omega
   subst e;rw[pn]at dg;exact .inl ⟨fo,fin D H' rs bR fe dg aH⟩
theorem Uq(x y:Str):ht (.str x) (.str y)=decide (x=y):=by
 by_cases h:x=y
 .subst h;rw[cu rfl];simp[ht]
 .rw[dJ h];simp[ht,h]
theorem Ur{hs:bc}{k:Nat}(h:k<hs.length):inD (.str (S (hs.getD k []))) (bR hs)=true:=by
 unfold inD bR;rw[qe];have hm:hs.getD k []∈hs:=by rw[eL,dv h];exact qf h
 exact⟨_,b4.mpr ⟨_,b4.mpr ⟨_,hm,rfl⟩,rfl⟩,by rw[Uq];exact cu rfl⟩
theorem Ys{ds:fY}{n:Nat}(h:∀d∈ds,d.depth<=n):(F' ds).depth<=n+1:=Lc (IG h)
theorem af2{dh:TI}{cs:lD}{b3:TE}{σ rest:ao.St}{H H1:ae}{Q:ba}{J:f9}{xs:aZ}(hw:∀R:f9->ae->Prop,R J H1->dh σ H R)(ij:il cs σ=none::rest)(dN:oi J H1 xs)(aj:xs.length<sizeLine)(f:Nat->ao.V)(elt:∀(i:Nat)(x:ao.V)(ag:ae)(R:ba),xs[i]?=some x->aN H1 ag->(∀bw,aN ag bw->R (f i) bw)->b3 (some x::rest) ag R)(fin:∀(D:Addr)(H':ae),H1 D=none->H' D=some (.lst ((ek xs.length).map f))->aN H1 H'->Q (.ref D) H'):n1 dh cs (hX 0) sN b3 σ H Q:=by
 refine hw _ λD bR=>?_;refine⟨λi m ys a4 H'=>m=xs.length-i/\i<=xs.length/\ys=(ek i).map f/\(∃o,a4=o::rest)/\aN H1 H'/\H' D=some (.lst ys),⟨xs.length,by simp,e_ _,rfl,⟨none,by rw[ij]⟩,λb o e=>?_,aP⟩,?_⟩
 .rw[aA (bZ e bR)];exact e
 .rintro i m ys a4 H' ⟨rfl,ar,rfl,⟨o,rfl⟩,aH,fe⟩;obtain⟨fo,fU,hN⟩:=dN H' aH;refine⟨fe,od (by rw[bp,jz];omega) aj,?_⟩;by_cases cP:i<xs.length
  .refine .inr ⟨fU i cP,λx ag y=>?_⟩;obtain⟨rfl,ex⟩:=hN i x ag cP y;show b3 (some x::rest) ag _;refine elt i x ag _ ex aH λbw s5=>⟨s5 _ _ fe,xs.length-(i+1),by omega,rfl,cP,?_,⟨_,rfl⟩,λb ob e=>?_,aP⟩
   .rw[s7,eU];rfl
   .rw[aA (bZ e bR)];exact s5 _ _ (aH _ _ e)
  .have e:i=xs.length:=by omega
   subst e;exact .inl ⟨fo,fin D H' bR fe aH⟩
end dW
namespace ct
open PySem PySem.Spec PyProof.Rows ao
section
variable{X:bg}{e:Expr}{b3:TE}{pos gX:Pos}{lo ar:Option Expr}{du oZ:va}
theorem af3:i5 "dict"=some (.type "dict"):=by decide+kernel
theorem ail:i5 "min"=some (.builtin "min"):=by decide+kernel
end
end ct
namespace dW
open PySem ao ct dx
theorem ahy{dh:TI}{cs:lD}{tt:TT}{b3:TE}{σ rest:ao.St}{H H1:ae}{Q:ba}{J:f9}{xs:aZ}(hw:∀R:f9->ae->Prop,R J H1->dh σ H R)(ij:il cs σ=none::rest)(dN:oi J H1 xs)(aj:xs.length<sizeLine)(p:Nat->Bool)(f:Nat->ao.V)(test:∀(i:Nat)(x:ao.V)(ag:ae)(R:Bool->ae->Prop),xs[i]?=some x->aN H1 ag->(∀bw,aN ag bw->R (p i) bw)->tt (some x::rest) ag R)(elt:∀(i:Nat)(x:ao.V)(ag:ae)(R:ba),xs[i]?=some x->p i=true->aN H1 ag->(∀bw,aN ag bw->R (f i) bw)->b3 (some x::rest) ag R)(fin:∀(D:Addr)(H':ae),H1 D=none->H' D=some (.lst (((ek xs.length).filter p).map f))->aN H1 H'->Q (.ref D) H'):n1 dh cs (hX 0) tt b3 σ H Q:=by
 refine hw _ λD bR=>?_;refine⟨λi m ys a4 H'=>m=xs.length-i/\i<=xs.length/\ys=((ek i).filter p).map f/\(∃o,a4=o::rest)/\aN H1 H'/\H' D=some (.lst ys),⟨xs.length,by simp,e_ _,rfl,⟨none,by rw[ij]⟩,λb o e=>?_,aP⟩,?_⟩
 .rw[aA (bZ e bR)];exact e
 .rintro i m ys a4 H' ⟨rfl,ar,rfl,⟨o,rfl⟩,aH,fe⟩;obtain⟨fo,fU,hN⟩:=dN H' aH;refine⟨fe,od ?_ aj,?_⟩
  .rw[bp];refine eQ (jl _ _) ?_;rw[jz];exact ar
  by_cases cP:i<xs.length
  .refine .inr ⟨fU i cP,λx ag y=>?_⟩;obtain⟨rfl,ex⟩:=hN i x ag cP y;show tt (some x::rest) ag _;refine test i x ag _ ex aH λdP s4=>?_;cases aO:p i with
   |true=>
    refine h3 ?_;refine elt i x dP _ ex aO (aH.trans s4) λbw s5=>⟨s5 _ _ (s4 _ _ fe),xs.length-(i+1),by omega,rfl,cP,?_,⟨_,rfl⟩,λb ob e=>?_,aP⟩
    .rw[s7,nq,eU];simp[aO]
    .rw[aA (bZ e bR)];exact s5 _ _ (s4 _ _ (aH _ _ e))
   |false=>
    refine gx ⟨xs.length-(i+1),by omega,rfl,cP,?_,⟨_,rfl⟩,aH.trans s4,s4 _ _ fe⟩;rw[s7,nq,eU];simp[aO]
  .have e:i=xs.length:=by omega
   subst e;exact .inl ⟨fo,fin D H' bR fe aH⟩
theorem so{α:Type}{l:List α}{i:Nat}{x d:α}(e:l[i]?=some x):l.getD i d=x:=by rw[eL,e];rfl
theorem range_getD{α β:Type}(g:α->β)(fc:α)(ls:List α):((ek ls.length).map λi=>g (ls.getD i fc))=ls.map g:=by
 apply FZ
 .simp
 .intro i af ai;simp only[bp,jz]at af;simp[eL,af]
structure Step where
 left:Int
 alF:Option Int
 fA:Str
 due:Int
abbrev fj:= List (List Step)
noncomputable def alE:Option Int->ao.V
 |none=>.bq
 |some i=>.int i
noncomputable def EP(s:Step):List ao.V:=[.int s.left,alE s.alF,.str s.fA,.int s.due]
noncomputable def E6(n g st:Addr):List (Str×ao.V):=[("net",.ref n),("goals",.ref g),("steps",.ref st)]
noncomputable def hU(H:ae)(l:Addr)(ss:List Step):Prop:=∃ts,H l=some (.lst (aC ts))/\d_ H ts (ss.map EP)
structure WalkAt(C:Addr)(H:ae)(x n g st:Addr)(cc:b9)(ls:bS)(aE:fj):Prop where
 ins:∃ah,H x=some (.ins C ah (E6 n g st))
 goals:H g=some (.lst (cc.map V.str))
 steps:H st=some (.lst (aC ls))
 each:bf (hU H) ls aE
structure sq(K:aV)(C:Addr):Prop where
 cl:fB K C
 nn:b5 K (.ref C) "net"=some none
 mr:b5 K (.ref C) "goals"=some none
 ns:b5 K (.ref C) "steps"=some none
inductive af4(C:Addr)(vs:aZ)(H:ae)(Q:ba)(bN:b6):Prop where
 |mk (x n g st:Addr) (cc:b9) (ls:bS) (aE:fj) (k:Nat) (y:Str) (bV:vs=[.ref x,.int k]) (bA:WalkAt C H x n g st cc ls aE) (cn:cc[k]?=some y) (di:Q (.str y) H)
noncomputable def Ks(C:Addr):cM:=λvs H Q bN=>af4 C vs H Q bN
inductive adb(C:Addr)(vs:aZ)(H:ae)(Q:ba)(bN:b6):Prop where
 |mk (x n g st:Addr) (cc:b9) (ls:bS) (aE:fj) (k:Nat) (ss:List Step) (s:Step) (bV:vs=[.ref x,.int k]) (bA:WalkAt C H x n g st cc ls aE) (cn:aE[k]?=some (ss++[s])) (di:Q (.str s.fA) H)
noncomputable def Jq(C:Addr):cM:=λvs H Q bN=>adb C vs H Q bN
inductive ade(C:Addr)(vs:aZ)(H:ae)(Q:ba)(bN:b6):Prop where
 |mk (x n g st:Addr) (cc:b9) (ls:bS) (aE:fj) (k:Nat) (ss:List Step) (s:Step) (bV:vs=[.ref x,.int k]) (bA:WalkAt C H x n g st cc ls aE) (cn:aE[k]?=some (ss++[s])) (di:Q (.int s.due) H)
noncomputable def Jr(C:Addr):cM:=λvs H Q bN=>ade C vs H Q bN
theorem ų{xs:aZ}{v:ao.V}:ao.hx (xs++[v]) (-1)=some v:=by
 unfold ao.hx ao.qW;rw[hi,bE (by decide),bM (by show -((xs.length+1:Nat):Int)<=-1;omega)];show(xs++[v])[((-1:Int)+((xs.length+1:Nat):Int)).toNat]?=_;have e:((-1:Int)+((xs.length+1:Nat):Int)).toNat=xs.length:=by omega
 rw[e];simp
section
variable{P:bO}{w:bx}{K:aV}{mg:cI}{base:Heap}
noncomputable abbrev zD:Stmt:=gU (top 20) 4
theorem af5:dB ["self","number"] ["self","number"] (c7 zD):=⟨rfl,rfl,rfl,by decide+kernel,rfl,by decide+kernel,by decide+kernel⟩
theorem Wu{C:Addr}{H:ae}{x n g st:Addr}{cc:b9}{ls:bS}{aE:fj}{k:Nat}{ss:List Step}{s:Step}(W:WalkAt C H x n g st cc ls aE)(e:aE[k]?=some (ss++[s])):
  ∃l ts t,ls[k]?=some l/\H l=some (.lst (aC (ts++[t])))/\H t=some (.tup (EP s)):=by
 have ln:=gM W.each;obtain⟨aX,_⟩:=eM.mp e;obtain⟨l,hl⟩:∃l,ls[k]?=some l:=⟨_,dv (by omega)⟩
 obtain⟨I',es,ts,aj,dg⟩:=bf.get W.each hl;rw[e]at es;cases es;have lt:=dg.len;rw[bp,hi]at lt;simp only[l6,A2]at lt;obtain⟨t,vA⟩:∃t,ts[ss.length]?=some t:=⟨_,dv (by omega)⟩
 obtain⟨d,dY,hd⟩:=bf.get dg vA;rw[eU,W' (by rw[bp];omega),bp,adM]at dY;cases dY;refine⟨l,ts.take ss.length,t,hl,?_,hd⟩;have aD:ts=ts.take ss.length++[t]:=by
  have this:=(Xd ss.length ts).symm;have hd2:ts.drop ss.length=[t]:=by rw[W5 (by omega:ss.length<ts.length)];rw[dv (by omega:ss.length<ts.length)]at vA;cases vA;rw[List.drop_eq_nil_of_le (by omega)]
  rw[hd2]at this;exact this
 rw[<-aD];exact aj
theorem adf{C f:Addr}{fd:cF}(F:bB K "last_house" "Walk.last_house" zD f fd)(dj:sq K C):aL P w K mg base a8 1 f fd ["self","number"] (Jq C):=by
 refine F.ok af5 (λvs H Q E h=>?_) (λcdv A outer s H vs Q E aq h=>?_)
 .obtain⟨x,n,g,st,cc,ls,aE,k,ss,s',rfl,_⟩:=h;rfl
 .obtain⟨x,n,g,st,cc,ls,aE,k,ss,s',rfl,W,es,q⟩:=h;obtain⟨ah,av⟩:=W.ins;obtain⟨l,ts,t,hl,aj,df⟩:=Wu W es;refine⟨_,(br (c_ (cv fa (cv fu (cv fu (e2 (aa 0) (by rfl)) (aa 1) (λ_ _=>rfl)) (KQ Kf aW) (λ_ _=>rfl)) aW (λ_ _=>rfl)))),?_⟩;have af:ao.hx (aC (ts++[t])) (-1)=some (.ref t):=by unfold aC;rw[eU];exact ų
  exact⟨_,rfl,x,C,ah,_,_,rfl,av,dj.cl,dj.ns,rfl,_,rfl,st,_,_,_,rfl,rfl,aJ.of W.steps,iQ (by unfold aC;rw[c9,hl];rfl),_,rfl,l,_,_,_,rfl,rfl,aJ.of aj,af,t,_,_,_,rfl,rfl,cN.of df,rfl,q⟩
noncomputable abbrev zE:Stmt:=gU (top 20) 5
theorem af6:dB ["self","number"] ["self","number"] (c7 zE):=⟨rfl,rfl,rfl,by decide+kernel,rfl,by decide+kernel,by decide+kernel⟩
theorem adg{C f:Addr}{fd:cF}(F:bB K "last_turn" "Walk.last_turn" zE f fd)(dj:sq K C):aL P w K mg base a8 1 f fd ["self","number"] (Jr C):=by
 refine F.ok af6 (λvs H Q E h=>?_) (λcdv A outer s H vs Q E aq h=>?_)
 .obtain⟨x,n,g,st,cc,ls,aE,k,ss,s',rfl,_⟩:=h;rfl
 .obtain⟨x,n,g,st,cc,ls,aE,k,ss,s',rfl,W,es,q⟩:=h;obtain⟨ah,av⟩:=W.ins;obtain⟨l,ts,t,hl,aj,df⟩:=Wu W es;refine⟨_,(br (c_ (cv fa (cv fu (cv fu (e2 (aa 0) (by rfl)) (aa 1) (λ_ _=>rfl)) (KQ Kf aW) (λ_ _=>rfl)) aW (λ_ _=>rfl)))),?_⟩;have af:ao.hx (aC (ts++[t])) (-1)=some (.ref t):=by unfold aC;rw[eU];exact ų
  exact⟨_,rfl,x,C,ah,_,_,rfl,av,dj.cl,dj.ns,rfl,_,rfl,st,_,_,_,rfl,rfl,aJ.of W.steps,iQ (by unfold aC;rw[c9,hl];rfl),_,rfl,l,_,_,_,rfl,rfl,aJ.of aj,af,t,_,_,_,rfl,rfl,cN.of df,rfl,q⟩
noncomputable def K7(s:Step)(g:Str):ao.V:=if s.fA=g then .int s.due else .bq
inductive adN(C:Addr)(vs:aZ)(H:ae)(Q:ba)(bN:b6):Prop where
 |mk (x n g st:Addr) (cc:b9) (ls:bS) (aE:fj) (k:Nat) (ss:List Step) (s:Step) (y:Str) (bV:vs=[.ref x,.int k]) (bA:WalkAt C H x n g st cc ls aE) (cn:aE[k]?=some (ss++[s])) (di:cc[k]?=some y) (d8:Q (K7 s y) H)
noncomputable def Us(C:Addr):cM:=λvs H Q bN=>adN C vs H Q bN
noncomputable abbrev E7:Stmt:=gU (top 20) 6
theorem af7:dB ["self","number"] ["self","number"] (c7 E7):=⟨rfl,rfl,rfl,by decide+kernel,rfl,by decide+kernel,by decide+kernel⟩
theorem adO{C f f1 f2:Addr}{fd c4 ec:cF}(F:bB K "home_turn" "Walk.home_turn" E7 f fd)(dj:sq K C)(tq:c6 K C "last_house" "Walk.last_house" zD ["self","number"] f1 c4)(PW:aL P w K mg base a8 1 f1 c4 ["self","number"] (Jq C))(tl:c6 K C "last_turn" "Walk.last_turn" zE ["self","number"] f2 ec)(P7:aL P w K mg base a8 1 f2 ec ["self","number"] (Jr C)):aL P w K mg base a8 2 f fd ["self","number"] (Us C):=by
 have kQ:=dj.cl;refine F.ok af7 (λvs H Q E h=>?_) (λcdv A outer s H vs Q E aq h=>?_)
 .obtain⟨x,n,g,st,cc,ls,aE,k,ss,s',y,rfl,_⟩:=h;rfl
 .obtain⟨x,n,g,st,cc,ls,aE,k,ss,s',y,rfl,W,es,f5,q⟩:=h;obtain⟨ah,av⟩:=W.ins;refine⟨_,(bh (eY (eC wY (g_ (aa 0) kQ tq.eo PW (aq.mono (by decide)) tq.bd .nil dt (ak (aa 1) aI)) (cv fu (e2 (aa 0) (by rfl)) (aa 1) (λ_ _=>rfl)) (dz _)) (br (c_ kU)) fv)
   (br (c_ (g_ (aa 0) kQ tl.eo P7 (aq.mono (by decide)) tl.bd .nil dt (ak (aa 1) aI))))),?_⟩
  have M1:ao.hx (cc.map V.str) (k:Int)=some (.str y):=iQ (by rw[c9,f5];rfl);refine⟨_,rfl,x,ah,_,rfl,av,rfl,_,rfl,x,n,g,st,cc,ls,aE,k,ss,s',rfl,W,es,?_⟩;refine⟨_,rfl,x,C,ah,_,_,rfl,av,dj.cl,dj.mr,rfl,_,rfl,g,_,_,_,rfl,rfl,aJ.of W.goals,M1,rfl,_,rfl,?_⟩;unfold K7 at q;by_cases he:s'.fA=y
  .rw[bM he]at q;exact ew (by rw[he];simp) ⟨_,rfl,x,ah,_,rfl,av,rfl,_,rfl,x,n,g,st,cc,ls,aE,k,ss,s',rfl,W,es,q⟩
  .rw[bE he]at q;exact fH (by simp[he]) q
noncomputable def jd(d:By):List ao.V:=[.str d.1,.int d.2.1,.str d.2.2]
noncomputable def zF(d:By):List Step:=[⟨d.2.1,none,d.1,d.2.1⟩]
inductive ahz(C:Addr)(vs:aZ)(H:ae)(Q:ba)(bN:b6):Prop where
 |mk (x ah n b8:Addr) (rs:bS) (ds:nx) (bV:vs=[.ref x,.ref n,.ref b8]) (bA:H x=some (.ins C ah [])) (cn:H b8=some (.lst (aC rs))) (di:d_ H rs (ds.map jd)) (d8:rs.length<=100) (fI:∀(H':ae)(g st:Addr)(lO:bS),SameBut x H H'->WalkAt C H' x n g st (ds.map λd=>d.2.2) lO (ds.map zF)->H g=none->H st=none->lO.Nodup->(∀l∈lO,H l=none/\l≠st/\l≠g)->g≠st->Q .bq H')
noncomputable def Le(C:Addr):cM:=λvs H Q bN=>ahz C vs H Q bN
noncomputable abbrev A_:Stmt:=gU (top 20) 0
inductive af8(C:Addr)(vs:aZ)(H:ae)(Q:ba)(bN:b6):Prop where
 |mk (x ah n g st r:Addr) (cc:b9) (ls:bS) (d:By) (bV:vs=[.ref x,.ref r]) (bA:H x=some (.ins C ah (E6 n g st))) (cn:H g=some (.lst (cc.map V.str))) (di:H st=some (.lst (aC ls))) (d8:g≠st) (fI:H r=some (.tup (jd d))) (iM:cc.length<=100) (lx:ls.length<=100) (nh:∀(H':ae)(l t:Addr),(∀b o,b≠g->b≠st->H b=some o->H' b=some o)->H' g=some (.lst ((cc++[d.2.2]).map V.str))->H' st=some (.lst (aC (ls++[l])))->H l=none->H t=none->H' l=some (.lst [.ref t])->H' t=some (.tup (EP ⟨d.2.1,none,d.1,d.2.1⟩))->Q .bq H')
noncomputable def JO(C:Addr):cM:=λvs H Q bN=>af8 C vs H Q bN
noncomputable abbrev z3:Stmt:=gU (top 20) 1
theorem ahA:dB ["self","letter"] ["self","letter"] (c7 z3):=⟨rfl,rfl,rfl,by decide+kernel,rfl,by decide+kernel,by decide+kernel⟩
theorem af9{C f:Addr}{fd:cF}(F:bB K "take_in" "Walk.take_in" z3 f fd)(dj:sq K C):aL P w K mg base a8 1 f fd ["self","letter"] (JO C):=by
 refine F.ok ahA (λvs H Q E h=>?_) (λcdv A outer s H vs Q E aq h=>?_)
 .obtain⟨x,ah,n,g,st,r,cc,ls,d,rfl,_⟩:=h;rfl
 .obtain⟨x,ah,n,g,st,r,cc,ls,d,rfl,av,bP,k7,Ii,hd,yz,fl,q⟩:=h;refine⟨_,(bh (gQ (nN og pw px nB (e2 (aa 0) (by rfl)) (ak (cv fa (aa 1) aW (λ_ _=>rfl)) aI)))
   (br (gQ (nN og pw px nB (e2 (aa 0) (by rfl)) (ak (gS (ak (i8 (ak (cv fa (aa 1) aW (λ_ _=>rfl)) (ak kU (ak (cv fa (aa 1) aW (λ_ _=>rfl)) (ak (cv fa (aa 1) aW (λ_ _=>rfl)) aI))))) aI)) aI))))),?_⟩
  have wg:x≠g:=h4 av bP (by intro z;cases z);have y_:x≠st:=h4 av k7 (by intro z;cases z);have apT:r≠g:=h4 hd bP (by intro z;cases z);have auG:r≠st:=h4 hd k7 (by intro z;cases z);refine⟨_,rfl,x,C,ah,_,_,rfl,av,dj.cl,dj.mr,rfl,.inl ⟨rfl,_,aJ.of bP⟩,_,rfl,r,_,_,_,rfl,rfl,cN.of hd,rfl,g,_,_,rfl,rfl,bP,eW (by rw[bp];omega),?_⟩;have r8:upd H g (.lst (cc.map V.str++[V.str d.2.2])) x=_:=(aA wg).trans av;have lM:upd H g (.lst (cc.map V.str++[V.str d.2.2])) st=_:=(aA Ii.symm).trans k7;have tL:upd H g (.lst (cc.map V.str++[V.str d.2.2])) r=_:=(aA apT).trans hd;refine⟨_,rfl,x,C,ah,_,_,rfl,r8,dj.cl,dj.ns,rfl,.inl ⟨rfl,_,aJ.of lM⟩,?_⟩;refine⟨_,rfl,r,_,_,_,rfl,rfl,cN.of tL,rfl,_,rfl,r,_,_,_,rfl,rfl,cN.of tL,rfl,_,rfl,r,_,_,_,rfl,rfl,cN.of tL,rfl,(by show 4<=sizeLine;decide),λt cQ=>⟨(by show 1<=sizeLine;decide),λl nl=>?_⟩⟩;have G9:∀{b},upd H g (.lst (cc.map V.str++[V.str d.2.2])) b=none->H b=none/\b≠g:=λ{b}e=>by
   have nb:b≠g:=λz=>by rw[z,aP]at e;cases e
   rw[aA nb]at e;exact⟨e,nb⟩
  have Il:l≠t:=λz=>by rw[z,aP]at nl;cases nl
  have pX:=nl;rw[aA Il]at pX;have k4:=(bW (o:=.lst [.ref t]) nl) _ _ ((bW (o:=.tup (EP ⟨d.2.1,none,d.1,d.2.1⟩)) cQ) _ _ lM);have oP:t≠st:=λz=>by rw[z,lM]at cQ;cases cQ
  have je:l≠st:=λz=>by rw[z,lM]at pX;cases pX
  refine⟨st,_,_,rfl,rfl,k4,eW (by rw[eI];omega),?_⟩;refine q _ l t (λb o af ai e=>?_) ?_ ?_ (G9 pX).1 (G9 cQ).1 ?_ ?_
  .have aB:upd H g (.lst (cc.map V.str++[V.str d.2.2])) b=some o:=by rw[aA af];exact e
   rw[aA ai];exact(bW nl) _ _ ((bW cQ) _ _ aB)
  .rw[aA Ii,aA (G9 pX).2.symm,aA (G9 cQ).2.symm,aP,eU];rfl
  .rw[aP,rX]
  .rw[aA je,aP]
  .rw[aA oP,aA Il.symm,aP];rfl
theorem Yt:dB ["self","net","letters","letter"] ["self","net","letters"] (c7 A_):=⟨rfl,rfl,rfl,by decide+kernel,rfl,by decide+kernel,by decide+kernel⟩
theorem ahB{C f f1:Addr}{fd c4:cF}(F:bB K "__init__" "Walk.__init__" A_ f fd)(dj:sq K C)(tp:c6 K C "take_in" "Walk.take_in" z3 ["self","letter"] f1 c4)(P1:aL P w K mg base a8 1 f1 c4 ["self","letter"] (JO C)):aL P w K mg base a8 2 f fd ["self","net","letters"] (Le C):=by
 have kQ:=dj.cl;refine F.ok Yt (λvs H Q E h=>?_) (λcdv A outer s H vs Q E aq h=>?_)
 .obtain⟨x,ah,n,b8,rs,ds,rfl,_⟩:=h;rfl
 .obtain⟨x,ah,n,b8,rs,ds,rfl,av,tN,dg,eh,q⟩:=h;refine⟨_,(bh (lI (aa 0) (aa 1) rfl)
   (bh (lI (aa 0) (gS aI) rfl)
   (bh (lI (aa 0) (gS aI) rfl)
   (br (kq kM rfl (jY (aa 2)) (et (i:=3) Yt.aG rfl (cb rfl))
    (br (gQ (g_ (aa 0) kQ tp.eo P1 (aq.mono (by decide)) tp.bd .nil dt (ak (aa 3) aI))))))))),?_⟩
  refine⟨_,rfl,_,rfl,x,C,ah,_,rfl,av,dj.cl,dj.nn,(by show 0<1000;decide),?_⟩;have ua:b8≠x:=h4 tN av (by intro z;cases z);refine⟨(by show 0<=sizeLine;decide),λg mr=>?_⟩;have wg:g≠x:=λz=>by rw[z,aP]at mr;cases mr
  have DU:=mr;rw[aA wg]at DU;refine⟨_,rfl,x,C,ah,_,rfl,(by rw[aA wg.symm,aP]),dj.cl,dj.mr,(by show 1<1000;decide),(by show 0<=sizeLine;decide),λst oP=>?_⟩;have y_:st≠x:=λz=>by rw[z,aP]at oP;cases oP
  rw[aA y_]at oP;have Iu:st≠g:=λz=>by rw[z,aP]at oP;cases oP
  rw[aA Iu,aA y_]at oP;refine⟨_,rfl,x,C,ah,_,rfl,(by rw[aA y_.symm,aP]),dj.cl,dj.ns,(by show 2<1000;decide),?_⟩;refine⟨_,rfl,b8,rfl,⟨_,aJ.of (xs:=aC rs) ?_⟩,?_⟩
  .rw[aA ua,aA (bZ tN oP),aA ua,aA (bZ tN DU),aA ua];exact tN
  have ei:=eI rs;have apg:rs.length=ds.length:=by have:=gM dg;rw[bp]at this;exact this
  refine qC (K:=K) (a:=b8) (xs:=aC rs) (λj σ gr=>∃g0 lO,σ=[some (.ref x),some (.ref n),some (.ref b8),g0]/\(∀b o,b≠x->H b=some o->gr b=some o)/\gr x=some (.ins C ah (E6 n g st))/\gr g=some (.lst (((ds.take j).map λd=>d.2.2).map V.str))/\gr st=some (.lst (aC lO))/\bf (hU gr) lO ((ds.take j).map zF)/\lO.Nodup/\(∀l∈lO,H l=none/\l≠st/\l≠g))
   ⟨none,[],rfl,λb o nb e=>?_,aP,?_,?_,.nil,sZ,λl aj=>bG aj dX⟩ (λj σ gr _⟨_,_,_,h,_⟩=>aJ.of (h _ _ ua tN)) ?_ ?_
  .rw[aA nb,aA (bZ e oP),aA nb,aA (bZ e DU),aA nb];exact e
  .rw[aA wg,aA Iu.symm,aA wg,aP];rfl
  .rw[aA y_,aP];rfl
  .rintro j z σ gr dC ⟨g0,lO,rfl,iG,oC,vS,qT,eZ,aG,fr⟩;unfold aC at dC;rw[c9]at dC;obtain⟨r,f3,rfl⟩:=fJ.mp dC;obtain⟨y,f5,cS⟩:=bf.get dg f3;rw[c9]at f5;obtain⟨d,dY,rfl⟩:=fJ.mp f5;have aul:=(eM.mp dY).1;have tX:=gM eZ;rw[bp,mK]at tX;have a5:ds.take (j+1)=ds.take j++[d]:=by rw[pk,dY];rfl
   refine⟨_,rfl,x,ah,_,rfl,oC,rfl,_,rfl,x,ah,n,g,st,r,_,lO,d,rfl,oC,vS,qT,Iu.symm,iG _ _ (h4 cS av (by intro z;cases z)) cS,(by rw[bp,mK];omega),(by omega),?_⟩;intro H' l t b' an7 r5 nl cQ vT aoH;have apS:∀{o},gr l=some o->False:=λ{o}e=>by rw[nl]at e;cases e
   have free:∀{b},gr b=none->H b=none:=λ{b}e=>by
    by_cases U:b=x
    .rw[U,oC]at e;cases e
    .cases aD:H b with
     |none=>rfl
     |some o=>rw[iG _ _ U aD]at e;cases e
   refine⟨_,lO++[l],rfl,λb o nb e=>?_,b' _ _ wg.symm y_.symm oC,?_,r5,?_,?_,?_⟩
   .exact b' _ _ (λz=>by rw[z,DU]at e;cases e) (λz=>by rw[z,oP]at e;cases e) (iG _ _ nb e)
   .rw[an7,a5];simp only[eU,hQ,F1]
   .rw[a5,eU];refine Paired.snoc ⟨[t],vT,.cons aoH .nil⟩ ?_;have go:∀{ms:bS}{wU:fj},bf (hU gr) ms wU->(∀l∈ms,l≠st/\l≠g)->bf (hU H') ms wU:=λ{ms wU}p=>by
     induction p with
     |nil=>exactλ_=>.nil
     |cons r t a6=>
      refineλh=>.cons ?_ (a6 λl aj=>h l (.tail _ aj))
      obtain⟨ts,af,ai⟩:=r;refine⟨ts,b' _ _ (h _ (.head _)).2 (h _ (.head _)).1 af,bf.eE ai λa b e=>b' _ _ (h4 e vS (by intro z;cases z)) (h4 e qT (by intro z;cases z)) e⟩
    exact go eZ λl aj=>(fr l aj).2
   .rw[x7];refine⟨aG,iP.mpr ⟨dX,sZ⟩,λa aK b U=>?_⟩;rw[hr]at U;subst U;rintro rfl;obtain⟨i,ar,e⟩:=mJ aK;obtain⟨_,_,ts,af,_⟩:=bf.get eZ (eM.mpr ⟨ar,e⟩);exact apS af
   .intro gG pO;rw[hj,hr]at pO;rcases pO with h|rfl
    .exact fr _ h
    .exact⟨free nl,λz=>(by rw[z]at nl;rw[nl]at qT;cases qT),λz=>(by rw[z]at nl;rw[nl]at vS;cases vS)⟩
  .rintro σ gr ⟨g0,lO,rfl,iG,oC,vS,qT,eZ,aG,fr⟩;rw[ei,apg,pn]at vS eZ;exact q gr g st lO (λb o nb e=>iG b o nb e) ⟨⟨ah,oC⟩,vS,qT,eZ⟩ DU oP aG fr Iu.symm
noncomputable abbrev uh:Stmt:=gU (top 36) 3
theorem Wv:dB ["self","number"] ["self","number"] (c7 uh):=⟨rfl,rfl,rfl,by decide+kernel,rfl,by decide+kernel,by decide+kernel⟩
theorem adP{C R f:Addr}{fd:cF}{uJ fQ nM:String}{bm:cC}(F:bB K "road" "Net.road" uh f fd)(B:gp mg)(f':sL K C)(SW:xf uJ fQ nM bm)(yS:Exc K mg "NoRoad" R bm fQ):
  aL P w K mg base (ed P w) 1 f fd ["self","number"] (U0 C R):=by
 refine oR F Wv (λvs H Q E h=>?_) (λcdv A outer s H vs Q E aq h=>?_)
 .obtain⟨x,bt,bu,xs,ys,k,rfl,_⟩:=h;rfl
 .obtain⟨x,bt,bu,xs,ys,k,rfl,n,q,iD⟩:=h;obtain⟨ah,av⟩:=n.ins;refine⟨_,(bh (eY (i7 (Tt p0 p2 aW (aa 1) (dE gP (by rfl) B.len gF (ak (e2 (aa 0) (by rfl)) aI)))) (br (IT SW yS rfl (ak j2 aI))) fv)
   (br (c_ (cv fu (e2 (aa 0) (by rfl)) (aa 1) (λ_ _=>rfl))))),?_⟩
  refine⟨_,rfl,_,_,rfl,rfl,_,rfl,?_⟩;by_cases h0:0<=k
  .refine fH (cu h0) ⟨_,rfl,x,C,ah,_,_,rfl,av,f'.cl,f'.jt,rfl,bu,_,rfl,.inl (aJ.of n.rg),_,_,rfl,rfl,_,rfl,?_⟩;by_cases af:k<ys.length
   .obtain⟨v,bz,aqK⟩:=q ⟨h0,af⟩;refine KV af ?_;exact⟨_,rfl,x,C,ah,_,_,rfl,av,f'.cl,f'.jt,rfl,_,rfl,bu,_,_,_,rfl,rfl,aJ.of n.rg,bz,aqK⟩
   .refine fH (by rw[dJ af];rfl) ?_;exact⟨by show 1<=sizeLine;decide,iD λz=>af z.2⟩
  .refine ew (dJ h0) ⟨_,rfl,?_⟩;exact h3 ⟨by show 1<=sizeLine;decide,iD λz=>h0 z.1⟩
end
end dW
namespace ct
open PySem PySem.Spec PyProof.Rows ao PySem.W
noncomputable def hJ{α:Type}(lt:hR):KasT α->α
 |.ret a=>a
 |.ask i j k=>hJ lt (k (lt i j))
noncomputable def k9{α:Type}(n:Nat)(P:α->Prop):KasT α->Prop
 |.ret a=>P a
 |.ask i j k=>i<n/\j<n/\∀b,k9 n P (k b)
theorem zj{α β:Type}{n:Nat}{P:α->Prop}{R:β->Prop}{f:α->KasT β}(hf:∀a,P a->k9 n R (f a)):∀t:KasT α,k9 n P t->k9 n R (t.bind f)
 |.ret a,h=>hf a h
 |.ask i j k,h=>⟨h.1,h.2.1,λb=>zj hf (k b) (h.2.2 b)⟩
theorem pY{α:Type}{n:Nat}{P:α->Prop}{c:Prop}[Decidable c]{s t:KasT α}(af:c->k9 n P s)(ai:¬c->k9 n P t):k9 n P (if c then s else t):=by
 by_cases h:c
 .rw[bM h];exact af h
 .rw[bE h];exact ai h
theorem Ww{α:Type}{cmp:Nat->Nat->(Bool->aF->Prop)->aF->Prop}{lt:hR}{n:Nat}{P:α->Prop}{Q:α->aF->Prop}{s:aF}(ay:∀i j C,i<n->j<n->C (lt i j) s->cmp i j C s):
  ∀t:KasT α,k9 n P t->(P (hJ lt t)->Q (hJ lt t) s)->t.kasWp cmp Q s
 |.ret a,p,h=>h p
 |.ask i j k,p,h=>ay i j _ p.1 p.2.1 (Ww ay (k (lt i j)) (p.2.2 _) h)
theorem IW{α:Type}{lt:hR}{n:Nat}{P:α->Prop}:∀t:KasT α,k9 n P t->P (hJ lt t)
 |.ret _,p=>p
 |.ask i j k,p=>IW (k (lt i j)) (p.2.2 _)
noncomputable def eF(n:Nat)(p:gN):Prop:=p.Perm (x8 (ek n))
theorem eF.lt{n:Nat}{p:gN}(h:eF n p){x:Nat}(av:x∈p):x<n:=by
 have:=h.mem_iff.mp av;have:x∈ek n:=by simpa using this
 exact lz.mp this
theorem eF.list{n:Nat}{p:gN}(h:eF n p):p.toList.Perm (ek n):=by have:=Array.perm_iff_toList_perm.mp h;simpa using this
theorem eF.at{n:Nat}{p:gN}(h:eF n p)(h0:0<n)(k:Nat):p.getD k 0<n:=by
 by_cases aX:k<p.size
 .have e:p.getD k 0=p[k]:=by simp[uI,aX]
  rw[e];exact h.lt (Array.getElem_mem aX)
 .have e:p.getD k 0=0:=by simp[uI,aX]
  rw[e];exact h0
theorem eF.perm{n:Nat}{p q:gN}(h:eF n p)(e:q.Perm p):eF n q:=Array.Perm.trans e h
theorem eF.rev{n:Nat}{p:gN}(h:eF n p)(i j:Nat):eF n (DE p i j):=h.perm (mirror_perm ..)
theorem eF.Zb{n:Nat}{p:gN}(h:eF n p)(i j:Nat):eF n (bubble p i j):=h.perm (bubble_perm ..)
section
variable{n:Nat}
theorem Lf{p:gN}(h0:0<n)(h:eF n p):∀f k,k9 n (λ_=>True) (kas_asc p f k)
 |0,_=>trivial
 |f+1,k=>⟨h.at h0 _,h.at h0 _,λb=>pY (λ_=>trivial) λ_=>Lf h0 h f (k+1)⟩
theorem JP(h0:0<n):∀(f:Nat)(p:gN)(k q:Nat),eF n p->k9 n (λr=>eF n r.1) (DD f p k q)
 |0,p,k,q,h=>h
 |f+1,p,k,q,h=>⟨h.at h0 _,h.at h0 _,λb=>pY (λ_=>pY (λ_=>JP h0 f _ _ _ (h.rev _ _)) λ_=>JP h0 f _ _ _ h)
   λ_=>⟨h.at h0 _,h.at h0 _,λb=>pY (λ_=>h) λ_=>JP h0 f _ _ _ h⟩⟩
theorem Wb{p:gN}(h0:0<n)(h:eF n p)(k m:Nat):k9 n (λr=>eF n r.2) (DF k m p):=by unfold DF;refine zj (P:=λ_=>True) (λa _=>?_) _ (Lf h0 (h.rev _ _) _ _);exact h.rev _ _
theorem ł{p:gN}(h0:0<n)(h:eF n p)(k m:Nat):k9 n (λr=>eF n r.2) (Ð k m p):=
 zj (λr aq=>pY (λ_=>Wb h0 (eF.rev aq _ _) _ _) λ_=>Wb h0 aq _ _) _ (JP h0 _ _ _ _ h)
theorem aga{p:gN}(h0:0<n)(h:eF n p)(m:Nat):k9 n (λr=>eF n r.2) (Qa m p):=by unfold Qa;refine zj (P:=λ_=>True) (λk _=>?_) _ (Lf h0 h _ _);refine pY (λ_=>h) λ_=>pY (λ_=>⟨h.at h0 _,h.at h0 _,λb=>pY (λ_=>h) λ_=>ł h0 (h.rev _ _) _ _⟩) λ_=>ł h0 h _ _
theorem Ut{p:gN}(h0:0<n)(h:eF n p)(k:Nat):∀f l r,k9 n (λ_=>True) (yX p k f l r)
 |0,_,_=>trivial
 |f+1,l,r=>pY (λ_=>trivial) λ_=>⟨h.at h0 _,h.at h0 _,λb=>pY (λ_=>Ut h0 h k f _ _) λ_=>Ut h0 h k f _ _⟩
theorem Lg(h0:0<n):∀(f:Nat)(p:gN)(k:Nat),eF n p->k9 n (eF n) (P_ f p k)
 |0,p,k,h=>h
 |f+1,p,k,h=>zj (λl _=>Lg h0 f _ _ (h.Zb _ _)) _ (Ut h0 h k _ _ _)
theorem Kt(h0:0<n):k9 n (eF n) (yY n):=by have aq:eF n (x8 (ek n)):=ž _;unfold yY;refine zj (P:=λr=>eF n r.2) (λr ai=>?_) _ (aga h0 aq n);exact pY (λ_=>Lg h0 _ _ _ ai) λ_=>ai
end
noncomputable def pZ(lt:hR)(n:Nat):List Nat:=if n<2 then ek n else(hJ lt (yY n)).toList
noncomputable def gT{α:Type}(d:α)(lt:hR)(xs:List α):List α:=(pZ lt xs.length).map λi=>xs.getD i d
theorem IX{lt:hR}{n i:Nat}(h:i∈pZ lt n):i<n:=by
 unfold pZ at h;split at h
 .exact lz.mp h
 .rename_i ai;exact eF.lt (IW (lt:=lt) (yY n) (Kt (by omega))) (by simpa using h)
theorem RP(lt:hR)(n:Nat):(pZ lt n).Perm (ek n):=by
 unfold pZ;split
 .exact List.Perm.refl _
 .exact eF.list (IW (lt:=lt) (yY n) (Kt (by omega)))
theorem Ŵ{α:Type}(d:α)(lt:hR)(xs:List α):(gT d lt xs).Perm xs:=by
 have e:xs=(ek xs.length).map λi=>xs.getD i d:=by
  apply FZ
  .simp
  .intro i af ai;simp[eL,af]
 have p:=(RP lt xs.length).map λi=>xs.getD i d;rw[<-e]at p;exact p
theorem TS{α:Type}(d:α)(lt:hR)(xs:List α):(gT d lt xs).length=xs.length:=(Ŵ d lt xs).length_eq
theorem SX{lt:hR}{xs:aZ}{us:cC}(h:cO xs us):cO (gT .bq lt xs) (gT .none lt us):=by
 unfold gT;rw[h.length];have:∀is:List Nat,(∀i∈is,i<xs.length)->cO (is.map λi=>xs.getD i .bq) (is.map λi=>us.getD i .none):=λis=>by
  induction is with
  |nil=>intro _;exact .nil
  |cons i r a6=>
   intro ar;refine .cons ?_ (a6 λj bL=>ar j (.tail _ bL));have cP:i<xs.length:=ar i (.head _);have aB:xs[i]?=some xs[i]:=dv cP;obtain⟨u,aD,ez⟩:=h.get aB;show RelV (xs[i]?.getD .bq) (us[i]?.getD .none);rw[aB,aD];exact ez
 exact this _ λi ar=>by rw[h.length];exact IX ar
theorem adQ{α:Type}(d:α)(lt:hR){xs:List α}(h:xs.length<2):gT d lt xs=xs:=by
 unfold gT pZ;rw[bM h];apply FZ
 .simp
 .intro i af ai;simp[eL,ai]
noncomputable def sQ(a:Addr)(h h':Heap):Prop:=∀b o,b≠a->h.get? b=some o->h'.get? b=some o
section
variable{prog:bO}{w:bx}{A:c0}{E:cD}{s:aF}{vs:cC}{κ:ye}{lt:hR}
theorem Wc{a:Addr}{e:Nat}{R:PySem.Fin->aF->Prop}(a3:s.heap.get? a=some (jw "list" vs.toArray e))(qG:vs.length<64)(aX:2<=vs.length->∀s1:aF,sQ a s.heap s1.heap->∀Q:ye->aF->Prop,Q κ s1->aQ (a9 prog w) A (Qg vs.toArray) Q (λ_ _=>False) s1)(aj:2<=vs.length->∀s1:aF,sQ a s.heap s1.heap->∀i j C,i<vs.length->j<vs.length->C (lt i j) s1->DC prog w A κ vs i j C s1)(h:∀h' c,sQ a s.heap h'->h'.get? a=some (jw "list" (x8 (gT fZ lt vs)) c)->R (.done (.ret .none)) {s with heap:=h'}):
  aQ (a9 prog w) A (Builtin.«list.sort» ⟨[.ref a],[]⟩) R E s:=by
 have emptied:=anm a3 λ_=>(#[]:kn)
 obtain⟨aB,C5⟩:∃k,(s.heap.update a (rL λ_=>(#[]:kn))).get? a=some (jw "list" #[] k):=⟨_,emptied⟩
 have e0:sQ a s.heap (s.heap.update a (rL λ_=>(#[]:kn))):=λb o U q=>(Wm _ _ _ _ U).trans q;have big:∀k,k<64->k<=sizeLine:=λk aX=>by rw[p5];omega
 rw[list_sort_plain];refine ax (listItems_at a3 rfl (ax (listUpdate_at a3 rfl ?_ (by rw[g7];exact big _ qG) (e_ _))));refine ax (seqEpoch_at C5 rfl (ax (asb ?_ (big _ qG))));refine ax (Ŏ (iL ?_) (e_ _));dsimp only;generalize kW:((s.heap.update a (rL λ_=>(#[]:kn))).push (jw "tuple" vs.toArray 0)).push (jw "list" #[] 0)=ag;have C6:ag.get? a=some (jw "list" #[] aB):=by rw[<-kW];exact dM _ (dM _ C5)
 have h5:sQ a s.heap ag:=λb o U q=>by rw[<-kW];exact dM _ (dM _ (e0 b o U q))
 have tail:∀(x:Unit×SortSt)(out:cC),(arrOf x.2).map (·.2)=out.toArray->failedOf x.2=none->out.length<64->out=gT fZ lt vs->
   aQ (a9 prog w) A (do
    let now <-seqEpoch a
    asU (.ref a) λ_=>(arrOf x.2).map (·.2)
    match failedOf x.2 with
    |some f3=>do
     rule "list.sort.comparison-raised"
     throw f3
     if(now !=aB)=true then do
      rule "list.sort.modified"
      aqP "ValueError" "list modified during sort"
      ret fZ
     else ret fZ
    |_=>
     if(now !=aB)=true then do
      rule "list.sort.modified"
      aqP "ValueError" "list modified during sort"
      ret fZ
     else ret fZ) R E {s with heap:=ag}:=λx out aD cH Qm NF=>by
  refine ax (seqEpoch_at C6 rfl (ax (listUpdate_at C6 rfl ?_ (e_ _) ?_)))
  .rw[cH];dsimp only;rw[bE (by simp)];obtain⟨c,ay⟩:∃c,(ag.update a (rL λ_=>(arrOf x.2).map (·.2))).get? a=some (jw "list" ((arrOf x.2).map (·.2)) c):=⟨_,anm C6 λ_=>(arrOf x.2).map (·.2)⟩
   refine bj (h _ c (λb o U q=>(Wm _ _ _ _ U).trans (h5 b o U q)) ?_);rw[ay,aD,NF]
  .rw[aD,g7];have:=big _ Qm;omega
 by_cases ai:(vs.toArray.size<2)
 .rw[bM ai,bM ai];have qF:vs.length<2:=by rw[g7]at ai;exact ai
  refine ax (bj (ax (bj ?_)));refine tail ((),SortSt.mk' general' (vs.toArray.zip vs.toArray) #[] 7 none) vs ?_ rfl qG (adQ _ _ qF).symm;show(vs.toArray.zip vs.toArray).map (·.2)=vs.toArray;apply Array.toList_inj.mp;simp only[Array.toList_map,Array.toList_zip];exact List.map_snd_zip (cq _)
 .rw[bE ai,bE ai];have qF:2<=vs.length:=by rw[g7]at ai;omega
  refine ax (gn (aX qF {s with heap:=ag} h5 (λU2 s'=>U2=κ/\s'={s with heap:=ag}) ⟨rfl,rfl⟩) ?_ λ_ _ x=>x.elim);rintro U2 s' ⟨rfl,rfl⟩;refine ax (gn (kat_run (κ:=U2) (Q:=λst s'=>s'={s with heap:=ag}/\(arrOf st).map (·.2)=x8 (gT fZ lt vs)/\failedOf st=none/\(gT fZ lt vs).length=vs.length)
   (G:=λp s'=>s'={s with heap:=ag}/\p=hJ lt (yY vs.length)) rfl qF qG (λp st s' a1 a2 hv jn=>?_) (Ww (λi j C ar bL en=>aj qF _ h5 i j C ar bL en) _ (Kt (by omega)) λ_=>⟨rfl,rfl⟩)) ?_ λ_ _ x=>x)
  .obtain⟨fD,fL⟩:=jn;have e:gT fZ lt vs=p.toList.map λi=>vs.getD i fZ:=by unfold gT pZ;rw[bE (by omega),fL]
   refine⟨fD,?_,hv,?_⟩
   .rw[e];exact kat_snds rfl a2
   .rw[e,bp,J5,a1]
  .rintro⟨⟨⟩,st⟩ s' ⟨rfl,fL,rP,Ni⟩;exact tail ((),st) _ fL rP (by omega) rfl
noncomputable def m'(h h':Heap):Prop:=∀b o,h.get? b=some o->h'.get? b=some o
theorem ŵ{l:Addr}{Q:cD}(aj:s.heap.IsList l vs.toArray)(qG:vs.length<64)(aX:2<=vs.length->∀s1:aF,m' s.heap s1.heap->∀Q:ye->aF->Prop,Q κ s1->aQ (a9 prog w) A.in1.in1 (Qg vs.toArray) Q (λ_ _=>False) s1)(aK:2<=vs.length->∀s1:aF,m' s.heap s1.heap->∀i j C,i<vs.length->j<vs.length->C (lt i j) s1->DC prog w A.in1.in1 κ vs i j C s1)(h:∀D h' c,s.heap.objs.size<=D->m' s.heap h'->h'.get? D=some (jw "list" (x8 (gT fZ lt vs)) c)->Q (.ref D) {s with heap:=h'}):
  aQ (a9 prog w) A (call (.builtin "sorted") ([.ref l]:cC)) Q E s:=by
 have big:vs.length<=sizeLine:=by rw[p5];omega
 refine aaA kind_sorted plain_sorted entry_sorted (args_sorted1 (.ref l)) ?_;unfold Builtin.«sorted»;refine ax (m:=checkCount "sorted" 1 1 _) (bj (ax (collect_list aj ?_ big)));refine ax (Ŏ ?_ big);generalize rY:(s.heap.push (jw "list" #[] 0)).update s.heap.objs.size (rL (·++vs.toArray))=G;have cc:G.objs.size=s.heap.objs.size+1:=by rw[<-rY,Heap.size_update,size_push']
 have e0:m' s.heap G:=λb o q=>by have U:=eN (dG q);rw[<-rY,Wm _ _ _ _ U];exact dM _ q
 show aQ _ _ _ _ _ {s with heap:=G.push (jw "list" vs.toArray 0)};have bR:(G.push (jw "list" vs.toArray 0)).get? G.objs.size=some (jw "list" vs.toArray 0):=gq _ rfl;have h5:m' s.heap (G.push (jw "list" vs.toArray 0)):=λb o q=>dM _ (e0 b o q);have o_:∀h',sQ G.objs.size (G.push (jw "list" vs.toArray 0)) h'->m' s.heap h':=λh' x b o q=>x b o (eN (by rw[cc];exact K_ (dG q))) (h5 b o q);refine ax (iL (rr arh ⟨_,bR,rfl⟩ am1 ?_ (akt _)));refine Wc (s:={s with heap:=G.push (jw "list" vs.toArray 0)}) (κ:=κ) (lt:=lt) bR qG (λai s1 x=>aX ai s1 (o_ _ x)) (λai s1 x=>aK ai s1 (o_ _ x)) λh' c x ay=>?_;exact⟨_,rfl,bj ⟨_,rfl,h _ h' c (by rw[cc];exact pq _) (o_ _ x) ay⟩⟩
noncomputable def lexLt:List a'->List a'->Bool
 |.inl a::r,.inl b::q=>if a=b then lexLt r q else decide (a<b)
 |.inr a::r,.inr b::q=>if a=b then lexLt r q else decide (a.cps.toList<b.cps.toList)
 |_,_=>false
noncomputable def kB:List a'->List Bool:=List.map λk=>match k with
 |.inl _=>true
 |.inr _=>false
theorem adR(a b:Int):ht (.int a) (.int b)=decide (a=b):=by
 by_cases h:a=b
 .subst h;rw[cu rfl];simp[ht]
 .rw[dJ h];simp[ht,h]
theorem Vx(x y:Str):ht (.str x) (.str y)=decide (x=y):=by
 by_cases h:x=y
 .subst h;rw[cu rfl];simp[ht]
 .rw[dJ h];simp[ht,h]
end
section
variable{prog:bO}{w:bx}{A:c0}{E:cD}{s:aF}
theorem TU{Q:Bool->aF->Prop}:∀(d e:List a')(us ws:cC)(i:Nat),cO (d.map dn) us->cO (e.map dn) ws->kB d=kB e->Q (lexLt d e) s->KatLex prog w A true false Q (us.zip ws) i s
 |[],e,us,ws,i,v1,v2,hs,h=>by
  cases v1;have cJ:e=[]:=by
   cases e with
   |nil=>rfl
   |cons _ _=>cases hs
  subst cJ;exact kat_nil h
 |.inl a::r,[],_,_,_,_,_,hs,_=>by cases hs
 |.inr a::r,[],_,_,_,_,_,hs,_=>by cases hs
 |.inl a::r,.inr b::q,_,_,_,_,_,hs,_=>by simp[kB]at hs
 |.inr a::r,.inl b::q,_,_,_,_,_,hs,_=>by simp[kB]at hs
 |.inl a::r,.inl b::q,_,_,i,.cons ck t1,.cons dZ eP,hs,h=>by
  obtain⟨t,rfl⟩:=ck;obtain⟨u,rfl⟩:=dZ;have r5:kB r=kB q:=by simpa[kB]using hs
  unfold lexLt at h;refine kat_cons (keq_flat (d:=.int a) (e:=.int b) (λ_=>.int a t) (λ_=>.int b u) prog w _ _ ?_);rw[adR];by_cases e:a=b
  .rw[bM e]at h;rw[cu e];exact kat_yes (TU r q _ _ _ t1 eP r5 h)
  .rw[bE e]at h;rw[dJ e];refine kat_no ?_;cases i with
   |zero=>exact oneLt_int h
   |succ i=>exact kat_one _ _ (lt_int h)
 |.inr a::r,.inr b::q,_,_,i,.cons ck t1,.cons dZ eP,hs,h=>by
  obtain⟨t,rfl⟩:=ck;obtain⟨u,rfl⟩:=dZ;have r5:kB r=kB q:=by simpa[kB]using hs
  unfold lexLt at h;refine kat_cons (keq_flat (d:=.str a) (e:=.str b) (λ_=>.str a t) (λ_=>.str b u) prog w _ _ ?_);rw[Vx];by_cases e:a=b
  .rw[bM e]at h;rw[cu e];exact kat_yes (TU r q _ _ _ t1 eP r5 h)
  .rw[bE e]at h;rw[dJ e];refine kat_no ?_;cases i with
   |zero=>exact oneLt_str h
   |succ i=>exact kat_one _ _ (lt_str h)
noncomputable def mq(ds:List (List a'))(i j:Nat):Bool:=lexLt (ds.getD i []) (ds.getD j [])
theorem Ŷ:∀{ts:bS}{us:cC},cO (ts.map V.ref) us->us=ts.map cE
 |[],_,.nil=>rfl
 |t::ts,_,.cons r q=>by cases r;rw[Ŷ q];rfl
noncomputable def Ì:a'->Bool
 |.inl _=>true
 |.inr _=>false
noncomputable def Ĵ(b:Bool):Value:=if b=true then .type "int" else .type "str"
end
theorem XD{P:bO}{w:bx}{H:ae}{h af:Heap}(ok:fq P w H h)(x:m' h af){b:Bool}:∀{ts:bS}{ds:List (List a')},bf (λr d=>H r=some (.tup (d.map dn))) ts ds->(∀d∈ds,∃r,kB d=b::r)->
  ∃fs,KatTups af (ts.map cE) fs/\fs.length=ts.length/\∀v∈fs,∃k:a',Ì k=b/\RelV (dn k) v
 |[],[],_,_=>⟨[],KatTups.nil,rfl,λ_ h=>bG h dX⟩
 |t::ts,d::ds,.cons r q,hd=>by
  obtain⟨fs,k1,k2,k3⟩:=XD ok x q λd' h'=>hd d' (.tail _ h');obtain⟨ğ,hs⟩:=hd d (.head _);obtain⟨_,its,cg,o,a3,ay,n,i'⟩:=ok t _ r;cases d with
  |nil=>cases hs
  |cons k d=>
   cases cg with
   |cons uu fS=>
    rename_i f fr;refine⟨f::fs,KatTups.cons (x _ _ a3) ay i' (by simp) k1,by simp[k2],λv bz=>?_⟩;rcases c'.mp bz with rfl|aoL
    .refine⟨k,?_,uu⟩;have:kB (k::d)=Ì k::kB d:=by cases k<;>rfl
     rw[this]at hs;exact(List.cons.inj hs).1
    .exact k3 v aoL
 |[],d::ds,h,_=>nomatch h
 |t::ts,[],h,_=>nomatch h
section
variable{X:bg}
theorem yT:i5 "sorted"=some (.builtin "sorted"):=by decide+kernel
theorem Q7:j8 X (.builtin "sorted") (λxs H Q=>∃(p:Addr)(ts:bS)(ds:List (List a'))(b:Bool)(cY:List Bool),xs=[.ref p]/\aJ X.K H p (ts.map V.ref)/\bf (λr d=>H r=some (.tup (d.map dn))) ts ds/\ts.length<64/\(∀d∈ds,kB d=b::cY)/\
  ∀l,H l=none->Q (.ref l) (upd H l (.lst (gT .bq (mq ds) (ts.map V.ref))))):=by
 intro pins s σ H xs us Q I r h;obtain⟨p,ts,ds,b,cY,rfl,aU,dg,qG,oA,q⟩:=h;obtain⟨u,rfl,ez⟩:=vals1 r;cases ez;obtain⟨its,cg,pl,hz⟩:=I.list aU;have hlen:=cg.length;rw[bp]at hlen;obtain rfl:=Ŷ cg;have atP:ts.length=ds.length:=gM dg;have at_:∀i,i<ts.length->∃d its,(ts.map cE).getD i fZ=.ref ts[i]!/\ds.getD i []=d/\kB d=b::cY/\cO (d.map dn) its/\IsTup s.heap ts[i]! its.toArray:=λi ar=>by
  have aB:ts[i]?=some ts[i]:=dv ar;have aD:ds[i]?=some ds[i]:=dv (by omega);have cH:ts[i]! =ts[i]:=by simp[ar]
  have aO:H ts[i]=some (.tup (ds[i].map dn)):=by
   have:∀{l:bS}{m:List (List a')}{k:Nat}{x:Addr}{y:List a'},bf (λr d=>H r=some (.tup (d.map dn))) l m->l[k]?=some x->m[k]?=some y->H x=some (.tup (y.map dn)):=λ{l m k x y}P=>by
    induction P generalizing k with
    |nil=>intro h;simp at h
    |cons a t a6=>
     cases k with
     |zero=>intro af ai;simp at af ai;subst af;subst ai;exact a
     |succ k=>intro af ai;simp at af ai;exact a6 af ai
   exact this dg aB aD
  obtain⟨_,its,v1,t1⟩:=I.bb _ _ aO;refine⟨ds[i],its,?_,?_,oA _ (qf _),v1,?_⟩
  .rw[eL,c9,aB,cH];rfl
  .rw[eL,aD];rfl
  .rw[cH];exact t1
 refine ŵ (κ:=tuples' true) (lt:=mq ds) pl.isList (by rw[bp];exact qG) (λai s1 x mP ff=>?_) (λai s1 x i j C ar bL en=>?_) λD h' c hle x ay=>?_
 .obtain⟨fs,k1,k2,k3⟩:=XD I.bb x dg λd hd=>⟨cY,oA d hd⟩
  rw[bp]at ai;refine kat_kind (T:=Ĵ b) k1 (by omega) (λv bz=>?_) (by cases b<;>decide+kernel) ?_
  .obtain⟨k,eg,uu⟩:=k3 v bz;subst eg;cases k with
   |inl i=>obtain⟨t,rfl⟩:=uu;exact Xh rfl
   |inr i=>obtain⟨t,rfl⟩:=uu;exact Xh rfl
  .have e:(Ĵ b !=td "tuple")=true:=by cases b<;>decide+kernel
   rw[e];exact ff
 .rw[bp]at ar bL;obtain⟨d,its,a1,a2,hv,jn,o,a3,_,n,i'⟩:=at_ i ar;obtain⟨d',its',fD,fL,rP,Ni,cL,kY,_,lQ,anT⟩:=at_ j bL;unfold DC;rw[a1,fD];have hK:=jn.length;have gG:=Ni.length;rw[bp]at hK gG;have j9:d.length=d'.length:=by have e:=ha sW (hv.trans rP.symm);simpa[kB]using e
  refine kat_lt (b:=true) (x _ _ a3) i' (x _ _ kY) anT ?_;rw[dJ (by rw[g7,g7];omega)];refine TU d d' its its' 0 jn Ni (hv.trans rP.symm) ?_;have:mq ds i j=lexLt d d':=by unfold mq;rw[a2,fL]
  rw[<-this];exact en
 .refine⟨.ref D,_,I.laid (a:=D) (o:=.lst (gT .bq (mq ds) (ts.map V.ref))) (t':=s.toks) (λb o q=>x b o q) hle ?_,rfl,q D (I.bb.fresh hle)⟩;refine⟨?_,_,c,SX cg,ay⟩;rw[TS,bp,p5];omega
noncomputable def l2(h:Heap)(d:Addr)(es:Array pe)(ep:Nat):Prop:=∃o,h.get? d=some o/\o.ExactDict/\o.data=.dict es ep
end
section
variable{prog:bO}{w:bx}{A:c0}{E:cD}{s:aF}{it d:Addr}{i ep:Nat}{es:Array pe}{ok eT:Value}
theorem agb{Q:Option Value->aF->Prop}(hit:uX s.heap it d i es.size ep ok eT)(hd:l2 s.heap d es ep)(ar:i<es.size)(ff:∀h',WL h' it d (i+1) es.size ep es[i].key es[i].val s.heap.objs.size->h'.get? s.heap.objs.size=some {cls:=.type "tuple",data:=.seq #[es[i].key,es[i].val]}->
   (∀b o,b≠it->s.heap.get? b=some o->h'.get? b=some o)->Q (some (.ref s.heap.objs.size)) {s with heap:=h'}):aQ (a9 prog w) A (ip (.ref it)) Q E s:=by
 obtain⟨G,pM,jJ,a5,os⟩:=s;obtain⟨o,a3,_,i'⟩:=hd;have T0:Bu ⟨G,pM,jJ,a5,os⟩ (.ref it) "dict_itemiterator":=⟨_,hit,rfl⟩
 have ub:¬((cE d==fZ)=true):=fp;have own:Fu "dict_itemiterator"=true:=by decide
 have lit:it<G.objs.size:=dG hit;unfold ip;refine ax (zP (T4 (name:=eR "__next__") T0 F.slot_dict_itemiterator_next (rr F.slot_dict_itemiterator_next T0 F.entry_dict_itemiterator_next ?_ (F.args_dict_itemiterator_next_1 _))));refine ax (bj (ax (ax ?_)))
 first
 |refine ax (T' T0 (bj (ax (w8 hit rfl ?_))))
 |refine ax (Ua T0 (bj (ax (w8 hit rfl ?_))))
 simp only[own,if_true];change aQ _ _ (ite ((cE d==fZ)=true) _ _) _ _ _;rw[bE ub];refine ax (bj (ax (w7 a3 i' ?_)));rw[bE (by simp)];refine ax (bj (ax (Fb a3 i' ?_)));rw[bE (by simp)];refine bj ?_;simp only[show¬((i:Int)<0)from by omega,if_false,mH,J4 ar];refine ax ?_
 first
 |refine ax (T' T0 (bj (ax (T7 T0 ?_))))
 |refine ax (Ua T0 (bj (ax (T7 T0 ?_))))
 show aQ _ _ (zy (.ref it) 3 (oV ((i:Int)+1)) >>=_) _ _ ⟨G,pM,jJ,a5,os⟩;refine ax (JG hit (by simp) λqb aB gW=>?_);have gW:kI it G qb:=gW;have aB:uX qb it d (i+1) es.size ep ok eT:=by
  have z:((i+1:Nat):Int)=(i:Int)+1:=by omega
  unfold uX;rw[z];simpa[oV]using aB
 have Bx:Bu ⟨qb,pM,jJ,a5,os⟩ (.ref it) "dict_itemiterator":=⟨_,aB,rfl⟩
 refine ax (iL (ax (T7 Bx (ax (T7 Bx ?_)))));show aQ _ _ (aas (.ref it) 6 es[i].key es[i].val) _ _ ⟨qb,pM,jJ,a5,os⟩;simp only[aas];refine ax (asb ?_);have bV:qb.objs.size=G.objs.size:=gW.1;have aD:uX (qb.push {cls:=.type "tuple",data:=.seq #[es[i].key,es[i].val]}) it d (i+1) es.size ep ok eT:=dM _ aB;have eP:(qb.push {cls:=.type "tuple",data:=.seq #[es[i].key,es[i].val]}).get? G.objs.size=some {cls:=.type "tuple",data:=.seq #[es[i].key,es[i].val]}:=by rw[<-bV];exact gq _ rfl
 have k2:∀b u,b≠it->G.get? b=some u->(qb.push {cls:=.type "tuple",data:=.seq #[es[i].key,es[i].val]}).get? b=some u:=λb u U q=>dM _ (gW.extBut b u U q);show aQ _ _ (aar (.ref it) >>=_) _ _ ⟨qb.push {cls:=.type "tuple",data:=.seq #[es[i].key,es[i].val]},pM,jJ,a5,os⟩;rw[bV];generalize qb.push {cls:=.type "tuple",data:=.seq #[es[i].key,es[i].val]}=VW at aD eP k2⊢;refine ax ?_;unfold aar;refine ax (T5 aD rfl (x:=.none) rfl (bj ?_));simp only[if_true];refine ax (T5 aD rfl (x:=ok) rfl (ax (T5 aD rfl (x:=eT) rfl ?_)));refine ax (JG aD (by simp) λKx cH H3=>?_);have H3:kI it VW Kx:=H3;have cH:uX Kx it d (i+1) es.size ep es[i].key eT:=cH;refine ax (JG cH (by simp) λKy e3 H4=>?_);have H4:kI it Kx Ky:=H4;have e3:uX Ky it d (i+1) es.size ep es[i].key es[i].val:=e3;refine ax (JG e3 (by simp) λKz gw H5=>?_);have H5:kI it Ky Kz:=H5;have gw:WL Kz it d (i+1) es.size ep es[i].key es[i].val G.objs.size:=gw;refine ax (JG gw (by simp) λFx j0 Qx=>?_);have Qx:kI it Kz Fx:=Qx;have j0:WL Fx it d (i+1) es.size ep es[i].key es[i].val G.objs.size:=j0;have all:∀b u,b≠it->VW.get? b=some u->Fx.get? b=some u:=λb u U q=>Qx.extBut b u U (H5.extBut b u U (H4.extBut b u U (H3.extBut b u U q)));exact ax (n2 (bj (bj ⟨_,rfl,bj (ff Fx j0 (all _ _ (x9 lit) eP) λb u U q=>all b u U (k2 b u U q))⟩)))
theorem agc{Q:Option Value->aF->Prop}(dm:A.handled=none)(hit:uX s.heap it d i es.size ep ok eT)(hd:l2 s.heap d es ep)(ar:es.size<=i)(ff:∀h',Heap.ExtBut it s.heap h'->Q none {s with heap:=h'}):
  aQ (a9 prog w) A (ip (.ref it)) Q E s:=by
 obtain⟨o,a3,_,i'⟩:=hd;have T0:s.TypeIs (.ref it) "dict_itemiterator":=⟨_,hit,rfl⟩
 have ub:¬((cE d==fZ)=true):=fp;have own:Fu "dict_itemiterator"=true:=by decide
 unfold ip;refine ax (zP (T4 (name:=eR "__next__") T0 F.slot_dict_itemiterator_next (rr F.slot_dict_itemiterator_next T0 F.entry_dict_itemiterator_next ?_ (F.args_dict_itemiterator_next_1 _))));refine ax (bj (ax (ax ?_)))
 first
 |refine ax (T' T0 (bj (ax (w8 hit rfl ?_))))
 |refine ax (Ua T0 (bj (ax (w8 hit rfl ?_))))
 simp only[own,if_true];change aQ _ _ (ite ((cE d==fZ)=true) _ _) _ _ _;rw[bE ub];refine ax (bj (ax (w7 a3 i' ?_)));rw[bE (by simp)];refine ax (bj (ax (Fb a3 i' ?_)));rw[bE (by simp)];refine bj ?_;simp only[show¬((i:Int)<0)from by omega,if_false,mH,Fp ar];refine ax ?_
 first
 |refine ax (T' T0 (bj ?_))
 |refine ax (Ua T0 (bj ?_))
 change aQ _ _ (zy (.ref it) 2 fZ >>=_) _ _ s;refine ax (Ő hit rfl (by simp) ?_);change aQ _ _ (Ih (.type "StopIteration") [] >>=_) _ _ _;refine ax ?_;simp only[Ih,newTuple];refine ax (o9 ?_ (by size_fits));refine ax (m:=yA _ _) (w9 (a:=fZ) (by first|rfl|(simp only[yA];rfl)) (o9 ?_ (by size_fits)));have nL:A.in1.handled=none:=dm;simp only[raiseNew];refine ax (wpAny_handled ?_);rw[nL];refine ax (bj (wpAny_throw ?_));refine ax (T6 (b:=true) (T:="StopIteration") ⟨_,gq _ rfl,rfl⟩ ao0 ?_);exact bj (ff _ (KI (KI (abq (FG ..)) _) _))
theorem adS{v:Addr}{Q:cD}(bz:s.heap.IsItemsView v d)(hd:l2 s.heap d es ep)(ff:Q (.ref s.heap.objs.size) {s with heap:=s.heap.push {cls:=.type "dict_itemiterator",data:=.fields #[.none,.bool false,.ref d,.int 0 0,.int es.size 0,.int ep 0,.none,.none]}}):aQ (a9 prog w) A (zm (.ref v)) Q E s:=by
 obtain⟨hB,af,_,jH⟩:=id bz;obtain⟨o,a3,_,i'⟩:=hd;have ub:¬((cE d==fZ)=true):=fp;have own:Fu "dict_itemiterator"=true:=by decide
 have Bx:=bz.typeIs;refine ŏ Bx F.slot_dict_items_iter (rr F.slot_dict_items_iter Bx F.entry_dict_items_iter ?_ (F.args_dict_items_iter_1 _));unfold Builtin.«dict_items.__iter__» asR;refine ax (bj (ax ?_));refine ax (T5 af jH (x:=.ref d) rfl (bj (ax ?_)));unfold asS;refine ax (w7 a3 i' (ax (Fb a3 i' ?_)));simp only[own,if_true];refine o9 ?_ (by simp only[p5,sizeOk,aaq,hi,g7,l6,A2];omega);refine bj ⟨_,rfl,"dict_itemiterator",_,⟨_,gq _ rfl,rfl⟩,F.slot_dict_itemiterator_next.lookup,?_⟩;simpa[oV,aaq]using ff
theorem aa7{Q:cD}(hs:(d==lr)=false)(hd:l2 s.heap d es ep)(ff:Q (.ref s.heap.objs.size) {s with heap:=s.heap.push {cls:=.type "dict_items",data:=.fields #[.ref d]}}):
  aQ (a9 prog w) A (call (.builtin "dict.items") ([.ref d]:cC)) Q E s:=by
 obtain⟨o,a3,av,i'⟩:=hd;have T0:s.TypeIs (.ref d) "dict":=⟨o,a3,av.1⟩
 refine rr F.slot_dict_items T0 F.entry_dict_items ?_ (F.args_dict_items_1 _);unfold Builtin.«dict.items»;refine ax ?_;unfold asO;refine ax (T9 T0 ?_);show aQ _ _ (pure d) _ _ s;refine bj ?_;change aQ _ _ (J7 d >>=_) _ _ s;unfold J7;rw[bE (by rw[hs];exact fp)];exact ax (bj (ax (o9 (bj ⟨_,rfl,ff⟩))))
end
section
variable{X:bg}{pins:cy}{σ:ao.St}{H:ae}{s:aF}{a:Addr}{u u':ee}
theorem JQ(I:Inv X pins σ H s)(aK:H a=some u)(dp:∀xs,u≠.tup xs)(dq:∀y,u≠.own y)(new:el X.prog X.w (upd H a u') s.heap a u')(f1:∀xs,X.mG a≠some (.tup xs))(f2:∀o v,X.mG a≠some (.eO o v))(cz:∀ps,X.mG a≠some (.p6 ps)):Inv X pins σ (upd H a u') s:=by
 have other:∀{b:Addr},H b=none->upd H a u' b=none:=λ{b}e=>by rw[aA (λz=>by rw[z,aK]at e;cases e)];exact e
 refine⟨I.ok,I.os,I.bare,⟨I.base.keep,I.base.slot,λb o e n av=>other (I.base.free b o e n av),I.base.there,λb xs e=>?_,λb o v e=>?_,λb ps e=>?_⟩,I.loc,I.cell,other I.free,λx c e=>other (I.mW x c e),λp aO=>?_,λb o e=>?_,I.len⟩
 .rw[aA (λz=>by rw[z]at e;exact f1 xs e)];exact I.base.hM b xs e
 .rw[aA (λz=>by rw[z]at e;exact f2 o v e)];exact I.base.iT b o v e
 .rw[aA (λz=>by rw[z]at e;exact cz ps e)];exact I.base.ji b ps e
 .obtain⟨af,ai,bU,cX,d3⟩:=I.pin p aO;exact⟨af,other ai,bU,cX,d3⟩
 .by_cases U:b=a
  .subst U;rw[aP]at e;cases e;exact new
  .rw[aA U]at e;refine(I.bb b o e).nd (λc v _ q=>q) (λc q=>?_) λc xs q=>?_
   .rw[aA (λz=>by rw[z,aK]at q;exact dq _ (hF q))];exact q
   .rw[aA (λz=>by rw[z,aK]at q;exact dp _ (hF q))];exact q
inductive ajC(b3:TE)(σ:ao.St)(H:ae)(Q:ba):Prop where
 |mk (a:_) (kvs:_) (bV:H a=some (.c3 kvs)) (bA:∀o,b3 σ (upd H a (.eO o (.c3 kvs))) λv H'=>H' a=some (.eO o (.c3 kvs))/\Q v (upd H' a (.c3 kvs)))
noncomputable def art(b3:TE):TE:=λσ H Q=>ajC b3 σ H Q
theorem aim{e:Expr}{b3:TE}(he:bl X e b3):bl X e (art b3):=by
 intro pins s σ H Q I h;obtain⟨a,kvs,aK,h⟩:=h;have f1:∀xs,X.mG a≠some (.tup xs):=λxs z=>by have:=I.base.hM a xs z;rw[aK]at this;cases this
 have f2:∀o v,X.mG a≠some (.eO o v):=λo v z=>by have:=I.base.iT a o v z;rw[aK]at this;cases this
 have cz:∀ps,X.mG a≠some (.p6 ps):=λps z=>by obtain⟨m,e⟩:=I.base.ji a ps z;rw[aK]at e;cases e
 obtain⟨z,y,xs,r,o,es,ep,e,c⟩:=I.bb a _ aK;have Rg:∀{H':ae}{b:Addr}{ys:aZ},H b=some (.tup ys)->upd H a (.eO o (.c3 kvs)) b=some (.tup ys):=λ{H' b ys}q=>by rw[aA (λw=>by rw[w,aK]at q;cases q)];exact q
 have aR:Inv X pins σ (upd H a (.eO o (.c3 kvs))) s:=JQ I aK (by intro _ w;cases w) (by intro _ w;cases w) ⟨e,z,y,xs,bf.eE r λp q w=>⟨w.1,Rg (H':=H) w.2.1,w.2.2⟩,o,es,ep,e,c⟩ f1 f2 cz;refine bF (he pins s σ _ _ aR (h o)) λv s1⟨x,H1,bD,cg,mY,bQ⟩=>?_;obtain⟨aB,bV,pb,asu,ck,hB,NJ,NG,aD,c1⟩:=bD.bb a _ mY;refine⟨x,upd H1 a (.c3 kvs),JQ bD (u':=.c3 kvs) mY (by intro _ w;cases w) (by intro _ w;cases w) ⟨bV,pb,asu,bf.eE ck λp q w=>⟨w.1,?_,w.2.2⟩,hB,NJ,NG,aD,c1⟩ f1 f2 cz,cg,bQ⟩;have fo:=w.2.1;rw[aA (λt=>by rw[t,mY]at fo;cases fo)];exact fo
end
noncomputable def KO(a:Addr)(o:Obj)(kvs:List (List a'×V)):f9:=
 ⟨λi H=>H a=some (.eO o (.c3 kvs))/\i<kvs.length,λi H v H'=>∃p b k x,H p=none/\v=.ref p/\kvs[i]?=some (k,x)/\H b=some (.tup (k.map dn))/\H'=upd H p (.tup [.ref b,x]),λi H=>H a=some (.eO o (.c3 kvs))/\kvs.length<=i⟩
theorem Uu{P:bO}{w:bx}{H:ae}{h:Heap}{a:Addr}{o:Obj}{kvs:List (List a'×V)}(ok:fq P w H h)(aK:H a=some (.eO o (.c3 kvs))):h.get? a=some o/\(a==lr)=false/\o.ExactDict/\∃es ep,o.data=.dict es ep/\es.size=kvs.length/\
  ∀(i:Nat)(k:List a')(x:V),kvs[i]?=some (k,x)->∃b v,(∃ar:i<es.size,es[i].key=.ref b/\es[i].val=v)/\H b=some (.tup (k.map dn))/\RelV x v:=by
 obtain⟨cJ,_,y,xs,r,cL,es,ep,aB,av,hd,he,_⟩:=ok a _ aK;rw[cJ]at aB;cases aB;have hK:kvs.length=xs.length:=gM r;have gG:es.size=xs.length:=by have:=ha sW he;simpa using this
 refine⟨cJ,y,av,es,ep,hd,by omega,λi k x ar=>?_⟩;have lt:i<kvs.length:=(eM.mp ar).1;have pick:∀{l:List (List a'×V)}{m:List (List a'×Addr×Value)}{j:Nat}{p:List a'×V},bf (λ(p:List a'×V)(q:List a'×Addr×Value)=>p.1=q.1/\H q.2.1=some (.tup (p.1.map dn))/\RelV p.2 q.2.2) l m->l[j]?=some p->∃q,m[j]?=some q/\p.1=q.1/\H q.2.1=some (.tup (p.1.map dn))/\RelV p.2 q.2.2:=λ{l m j p}R=>by
  induction R generalizing j with
  |nil=>intro h;simp at h
  |cons a t a6=>
   cases j with
   |zero=>intro h;simp at h;subst h;exact⟨_,rfl,a⟩
   |succ j=>intro h;simp at h;simpa using a6 h
 obtain⟨q,aU,_,ai,bU⟩:=pick r ar;have tM:i<es.size:=by omega
 have cH:es[i]=BX (mB (gj P w)) q:=by
  have e3:es.toList[i]?=some (BX (mB (gj P w)) q):=by rw[he,c9,aU];rfl
  have gw:es.toList[i]?=some es[i]:=by simp[tM]
  rw[gw]at e3;exact hF e3
 exact⟨q.2.1,q.2.2,⟨tM,by rw[cH];rfl,by rw[cH];rfl⟩,ai,bU⟩
theorem aa8{P:bO}{w:bx}{K:aV}{elts:gO}{k:Nat}{pos:Pos}{o:Obj}{kvs:List (List a'×V)}{es:Array pe}{ep:Nat}(a it:Addr)(hd:o.data=.dict es ep):
  Turn P w K (.Tuple elts k pos) (KO a o kvs) [it] it (λi h=>∃x y,uX h it a i es.size ep x y)where
 mem:=by simp
 obj:=λi h st b U=>by
  obtain⟨x,y,he⟩:=st;have q:b=it:=by simpa using U
  subst q;exact⟨_,he,λv z=>by
   have dr:VL _=VK v:=z;cases dr⟩
 keep:=λi h h' st bY=>by obtain⟨x,y,he⟩:=st;exact⟨x,y,bY it (by simp) _ he⟩
 item:=by
  intro X gy hw gd ay i pins s σ H E I hf st bP;subst gy hw gd;obtain⟨x0,asw,he⟩:=st;obtain⟨aK,ar⟩:=bP;obtain⟨go,_,cW,lG,nD,ks,cc,ge⟩:=Uu I.bb aK;rw[hd]at ks;cases ks;obtain⟨jc,vy⟩:∃q,kvs[i]?=some q:=⟨_,dv ar⟩
  obtain⟨b,v,⟨tM,eg,ev⟩,U,cg⟩:=ge i jc.1 jc.2 vy;obtain⟨f0,f1,f2,cz,f4,fx⟩:=hf it (by simp);refine agb he ⟨o,go,cW,hd⟩ tM λaf a3 j4 aX=>⟨_,rfl,?_⟩
  refine wpAny_letOwnedTupleGo_items a3 λai CZ k4=>?_;have k4:kI it af ai:=k4;rw[eg,ev]at j4;have aT:H s.heap.objs.size=none:=I.fresh;have lit:it<s.heap.objs.size:=dG he;have p1:∀c u,c∉[it]->s.heap.get? c=some u->ai.get? c=some u:=λc u kx q=>by have CU:c≠it:=λz=>kx (by simp[z]);exact(k4.2 c CU).trans (aX c u CU q)
  have N_:ai.get? s.heap.objs.size=some {cls:=.type "tuple",data:=.seq #[.ref b,v]}:=(k4.2 _ (x9 lit)).trans j4;have pW:∀c q,H c=some q->c∉[it]:=λc q kx z=>by
   have dr:c=it:=by simpa using z
   subst dr;rw[f0]at kx;cases kx
  refine⟨.ref s.heap.objs.size,upd H s.heap.objs.size (.tup [.ref b,jc.2]),?_,rfl,⟨s.heap.objs.size,b,jc.1,jc.2,aT,rfl,vy,U,rfl⟩,⟨_,_,CZ⟩,λc kx=>?_⟩
  .show Inv X pins σ (upd H s.heap.objs.size (.tup [.ref b,jc.2])) {s with heap:=ai,gens:=s.gens,drawn:=s.drawn,toks:=s.toks};refine I.step (g':=s.gens) (d':=s.drawn) (t':=s.toks) (h':=ai) (ch:=[it]) (λc kx=>?_) (λc u _ _ kx q _=>p1 c u kx q) (λc u _ _ kx q _=>⟨u.slots,p1 c u kx q⟩) (λc u kx q n=>?_)
    (λc u kx q=>⟨u,p1 c u kx q⟩) (λc ys q=>?_) (λc u v q=>?_) (λc ps q=>⟨#[],?_⟩) (λm hm=>?_) (λc u q=>?_) I.bare
   .have dr:c=it:=by simpa using kx
    subst dr;exact⟨cz,f1,f4,fx⟩
   .rw[aA (eN (dG q))];exact n
   .rw[aA (bZ q aT)];exact q
   .rw[aA (bZ q aT)];exact q
   .rw[aA (bZ q aT),q];simp
   .obtain⟨u,GD,am2,b7,r⟩:=hm;refine⟨u,GD,am2,p1 _ u (λz=>?_) b7,r⟩;exact f1 (by simpa using z:X.env.locals=it).symm
   .by_cases υ:c=s.heap.objs.size
    .subst υ;rw[aP]at q;cases q;exact⟨(by show 2<=sizeLine;decide),[.ref b,v],.cons rfl (.cons cg .nil),_,N_,rfl,_,rfl⟩
    .rw[aA υ]at q;refine(I.bb c u q).nd (λc2 y vO z=>p1 c2 y ?_ z) (λc2 z=>by rw[aA (bZ z aT)];exact z) λc2 ys z=>by rw[aA (bZ z aT)];exact z
     rcases vO with rfl|vO
     .exact pW _ _ q
     .exact pW _ _ vO
  .have dr:c=it:=by simpa using kx
   subst dr;rw[aA (eN lit)];exact f0
 done:=by intro X gy hw gd ay i pins s σ H E I hf st bP;subst gy hw gd;obtain⟨x0,asw,he⟩:=st;obtain⟨aK,ar⟩:=bP;obtain⟨go,_,cW,lG,nD,ks,cc,ge⟩:=Uu I.bb aK;rw[hd]at ks;cases ks;obtain⟨f0,f1,f2,cz,f4,fx⟩:=hf it (by simp);exact agc (I.ok.hd ay) he ⟨o,go,cW,hd⟩ (by omega) λh' ef=>⟨rfl,I.turned (t':=s.toks) (λb o U e=>ef b o U e) f0 f1 cz f4 fx⟩
 self:=λ_ _ _ _ _ st h=>by obtain⟨x,y,he⟩:=st;exact PySem.W.kcp_self he h
section
variable{X:bg}{elts:gO}{k:Nat}{EV:Pos}
noncomputable def ahC(bk:TE):TI:=λσ H R=>bk σ H λx H1=>∃a o kvs,x=.ref a/\H1 a=some (.eO o (.c3 kvs))/\R (KO a o kvs) H1
theorem adT{o:Expr}{bk:TE}{eX fb:Pos}(a3:bl X o bk)(Oi:vh o "items" X.env (eval o X.env)=eval o X.env:=by rfl)(OR:(eX.endLine==fb.line)=true:=by rfl):
  oe X (.Tuple elts k EV) (.Call (.Attribute o "items" eX) [] [] fb) (ahC bk):=by
 intro pins s σ H R I h;refine wpAny_Call_method0_late Oi OR (bF (a3 pins s σ H _ I h) λv s1⟨x,H1,aR,ck,a,ob,kvs,ex,aK,bQ⟩=>?_);subst ex;cases ck;obtain⟨go,NZ,cW,es,ep,ks,cc,ge⟩:=Uu aR.bb aK;refine⟨"dict","dict.items",F_,PySem.F.slot_dict_items,PySem.F.type_dict_items,⟨ob,go,cW.1⟩,λb e=>?_,Ad rfl (PySem.evalArgs_none ?_)⟩
 .cases e;exact⟨ob,go,cW.2.1⟩
 .refine aa7 NZ ⟨ob,go,cW,ks⟩ ?_;have k1:∀b o,s1.heap.get? b=some o->(s1.heap.push {cls:=.type "dict_items",data:=.fields #[.ref a]}).get? b=some o:=λb o e=>dM _ e;refine adS (d:=a) (es:=es) (ep:=ep) ⟨_,gq _ rfl,rfl,rfl⟩ ⟨ob,k1 _ _ go,cW,ks⟩ ?_;have bD:Inv X pins σ H1 {s1 with heap:=s1.heap.push {cls:=.type "dict_items",data:=.fields #[.ref a]}}:=aR.kept (t':=s1.toks) k1;refine⟨(s1.heap.push {cls:=.type "dict_items",data:=.fields #[.ref a]}).objs.size,[(s1.heap.push {cls:=.type "dict_items",data:=.fields #[.ref a]}).objs.size],_,_,H1,rfl,bD.kept (t':=s1.toks) λb o e=>dM _ e,aa8 a _ ks,⟨.none,.none,gq _ rfl⟩,λb U=>?_,bQ⟩;have z:b=(s1.heap.push {cls:=.type "dict_items",data:=.fields #[.ref a]}).objs.size:=by simpa using U
  subst z;exact bD.rV (cq _) (bD.bb.fresh (cq _))
end
section
variable{prog:bO}{w:bx}{A:c0}{E:cD}{s:aF}{it d:Addr}{i ep:Nat}{es:Array pe}
theorem XE{Q:Option Value->aF->Prop}(hit:s.heap.IsKeyIter it d i es.size ep)(hd:l2 s.heap d es ep)(ar:i<es.size)(ff:∀h',h'.IsKeyIter it d (i+1) es.size ep->kI it s.heap h'->Q (some es[i].key) {s with heap:=h'}):aQ (a9 prog w) A (ip (.ref it)) Q E s:=by
 obtain⟨ý,tO,CU,r1⟩:=id hit;obtain⟨o,a3,_,i'⟩:=hd;have T0:=hit.typeIs;have ub:¬((cE d==fZ)=true):=fp;have own:Fu "dict_keyiterator"=false:=by decide
 unfold ip;refine ax (zP (T4 (name:=eR "__next__") T0 F.slot_dict_keyiterator_next (rr F.slot_dict_keyiterator_next T0 F.entry_dict_keyiterator_next ?_ (F.args_dict_keyiterator_next_1 _))));refine ax (bj (ax (ax ?_)))
 first
 |refine ax (T_ T0 (bj (ax (w8 tO r1 ?_))))
 |refine ax (Ub T0 (bj (ax (w8 tO r1 ?_))))
 simp only[own,uK,if_false];change aQ _ _ (ite ((cE d==fZ)=true) _ _) _ _ s;rw[bE ub];refine ax (bj (ax (w7 a3 i' ?_)));rw[bE (by simp)];refine ax (bj (ax (Fb a3 i' ?_)));rw[bE (by simp)];refine bj ?_;simp only[show¬((i:Int)<0)from by omega,if_false,mH,J4 ar];refine ax ?_
 first
 |refine ax (T_ T0 (bj (ax (ō T0 ?_))))
 |refine ax (Ub T0 (bj (ax (ō T0 ?_))))
 change aQ _ _ (zy (.ref it) 1 (oV ((i:Int)+1)) >>=_) _ _ s;refine ax (Ő tO r1 (by simp) ?_);have next:(s.heap.update it (Obj.mapFields (·.setIfInBounds 1 (oV ((i:Int)+1))))).IsKeyIter it d (i+1) es.size ep:=
  ⟨_,pg _ tO (Obj.isFreed_of_fields (ad5 r1 _)),(Obj.cls_mapFields ..).trans CU,by simp[ad5 r1,oV]⟩
 refine ax (iL (ax (ō (s:={s with heap:=s.heap.update it (Obj.mapFields (·.setIfInBounds 1 (oV ((i:Int)+1))))}) next.typeIs ?_)));exact bj (bj ⟨_,rfl,bj (ff _ next (FG ..))⟩)
theorem Wd{Q:Option Value->aF->Prop}(dm:A.handled=none)(hit:s.heap.IsKeyIter it d i es.size ep)(hd:l2 s.heap d es ep)(ar:es.size<=i)(ff:∀h',Heap.ExtBut it s.heap h'->Q none {s with heap:=h'}):
  aQ (a9 prog w) A (ip (cE it)) Q E s:=by
 obtain⟨ý,tO,CU,r1⟩:=id hit;obtain⟨o,a3,_,i'⟩:=hd;have T0:=hit.typeIs;have ub:¬((cE d==fZ)=true):=fp;have own:Fu "dict_keyiterator"=false:=by decide
 unfold ip;refine ax (zP (T4 (name:=eR "__next__") T0 F.slot_dict_keyiterator_next (rr F.slot_dict_keyiterator_next T0 F.entry_dict_keyiterator_next ?_ (F.args_dict_keyiterator_next_1 _))));refine ax (bj (ax (ax ?_)))
 first
 |refine ax (T_ T0 (bj (ax (w8 tO r1 ?_))))
 |refine ax (Ub T0 (bj (ax (w8 tO r1 ?_))))
 simp only[own,uK,if_false];change aQ _ _ (ite ((cE d==fZ)=true) _ _) _ _ s;rw[bE ub];refine ax (bj (ax (w7 a3 i' ?_)));rw[bE (by simp)];refine ax (bj (ax (Fb a3 i' ?_)));rw[bE (by simp)];refine bj ?_;simp only[show¬((i:Int)<0)from by omega,if_false,mH,Fp ar];refine ax ?_
 first
 |refine ax (T_ T0 (bj ?_))
 |refine ax (Ub T0 (bj ?_))
 change aQ _ _ (zy (.ref it) 0 fZ >>=_) _ _ s;refine ax (Ő tO r1 (by simp) ?_);change aQ _ _ (Ih (.type "StopIteration") [] >>=_) _ _ _;refine ax ?_;simp only[Ih,newTuple];refine ax (o9 ?_ (by size_fits));refine ax (m:=yA _ _) (w9 (a:=fZ) (by first|rfl|(simp only[yA];rfl)) (o9 ?_ (by size_fits)));have nL:A.in1.handled=none:=dm;simp only[raiseNew];refine ax (wpAny_handled ?_);rw[nL];refine ax (bj (wpAny_throw ?_));refine ax (T6 (b:=true) (T:="StopIteration") ⟨_,gq _ rfl,rfl⟩ ao0 ?_);exact bj (ff _ (KI (KI (abq (FG ..)) _) _))
theorem We{Q:cD}(hs:(d==lr)=false)(hd:l2 s.heap d es ep)(ff:Q (.ref s.heap.objs.size) {s with heap:=s.heap.push {cls:=.type "dict_keyiterator",data:=.fields #[.ref d,.int 0 0,.int es.size 0,.int ep 0]}}):aQ (a9 prog w) A (zm (.ref d)) Q E s:=by
 obtain⟨o,a3,av,i'⟩:=hd;have T0:s.TypeIs (.ref d) "dict":=⟨o,a3,av.1⟩
 refine ŏ T0 F.slot_dict_iter (rr F.slot_dict_iter T0 F.entry_dict_iter ?_ (F.args_dict_iter_1 _));unfold Builtin.«dict.__iter__» asM;refine ax (ax (T9 T0 ?_));change aQ _ _ (pure (cE d)) _ _ s;refine bj ?_;change aQ _ _ (J7 d >>=_) _ _ s;unfold J7;rw[bE (by rw[hs];exact fp)];refine ax (bj (ax (w7 a3 i' (ax (Fb a3 i' ?_)))));refine ax (o9 ?_);refine bj ⟨_,rfl,"dict_keyiterator",_,⟨_,gq _ rfl,rfl⟩,F.slot_dict_keyiterator_next.lookup,?_⟩;simpa[oV]using ff
noncomputable def o4{κ:Type}[DecidableEq κ](kvs:List (κ×V))(k:κ):List (κ×V):=kvs.filter λp=>decide (p.1≠k)
theorem ŷ{κ β:Type}[DecidableEq κ]{k:κ}:∀{l:List (κ×β)}{j:Nat}{v:β},(l.map (·.1)).Nodup->l[j]?=some (k,v)->l.eraseIdx j=l.filter λp=>decide (p.1≠k)
 |[],j,v,_,h=>by simp at h
 |p::r,0,v,aG,h=>by simp only[K0,Ln]at h;subst h;rw[hQ,iP]at aG;rw[List.eraseIdx_zero,List.tail_cons,l5];rw[bE (by simp)];symm;rw[KZ];intro q aU;have h2:q.1≠k:=λz=>aG.1 (b4.mpr ⟨q,aU,z⟩);exact cu h2
 |p::r,j+1,v,aG,h=>by
  rw[hQ,iP]at aG;have h':r[j]?=some (k,v):=by simpa using h
  rw[List.eraseIdx_cons_succ,l5,ŷ aG.2 h'];have h2:p.1≠k:=λz=>aG.1 (by rw[z];exact b4.mpr ⟨_,eH h',rfl⟩);rw[bM (cu h2)]
end
section
variable{prog:bO}{w:bx}{K:Type}[DecidableEq K]{knd:HeapKind prog w K}{A:c0}{E:cD}{s:aF}
theorem aaD{d a:Addr}{xs:List (K×Addr×Value)}{k:K}{Q:Option pe->aF->Prop}(b7:knd.room A)(yK:knd.is s.heap k a)(hm:s.heap.DictOfH knd d xs)(hz:xs.length<=sizeLine)(Hx:(∀(j:Nat)(p:Addr×Value),xs[j]?≠some (k,p))->Q none {s with toks:=s.toks+knd.draws k})(O7:∀(j:Nat)(p:Addr×Value),xs[j]?=some (k,p)->∀h',h'.DictOfH knd d (xs.eraseIdx j)->kI d s.heap h'->Q (some (BX knd (k,p))) {s with heap:=h',toks:=s.toks+knd.draws k}):
  aQ (a9 prog w) A (aao d (.ref a)) Q E s:=by
 obtain⟨o,es,ep,a3,ay,hd,he,OJ,aT⟩:=hm;have hsz:es.size=xs.length:=arc he;unfold aao
 try with_reducible refine iL ?_
 refine ax (knd.pyHash b7 yK (ax (wpAny_dictFind_heap (s:={s with toks:=s.toks+knd.draws k}) b7 yK a3 hd he OJ aT (λh0=>?_) λj p bL=>?_)))
 .exact bj (Hx h0)
 .have cP:j<xs.length:=(eM.mp bL).1;have pK:es[j]?=some (BX knd (k,p)):=by
   have aB:es.toList[j]?=some (BX knd (k,p)):=by rw[he,c9,bL];rfl
   simpa using aB
  refine ax (w7 (s:={s with toks:=s.toks+knd.draws k}) a3 hd ?_);rw[pK];refine ax (wpAny_updateDictKeys (hz:=by omega) (s:={s with toks:=s.toks+knd.draws k}) a3 hd (bj (O7 j p bL _ ⟨_,_,ep+1,pg _ a3 (Obj.isFreed_of_dict (ad4 hd _)),ay.mapDictKeys _,ad4 hd _,?_,?_,?_⟩ (FG ..))))
  .have aD:(es.eraseIdxIfInBounds j).toList=es.toList.eraseIdx j:=by obtain⟨l⟩:=es;simp
   rw[aD,he];apply KY;intro i;simp only[List.getElem?_eraseIdx,c9];split<;>rfl
  .intro x av;exact knd.keeps (OJ x (List.mem_of_mem_eraseIdx av)) a3 hd (FG ..)
  .exact List.Nodup.sublist ((List.eraseIdx_sublist xs j).map _) aT
theorem afH{d a:Addr}{xs:List (K×Addr×Value)}{k:K}{r:Value}{Q:cD}(hs:(d==lr)=false)(b7:knd.room A.in1)(yK:knd.is s.heap k a)(hm:s.heap.DictOfH knd d xs)(hz:xs.length<=sizeLine)(Hx:(∀(j:Nat)(p:Addr×Value),xs[j]?≠some (k,p))->∀t,Q r {s with toks:=t})(O7:∀(j:Nat)(p:Addr×Value),xs[j]?=some (k,p)->∀h' t,h'.DictOfH knd d (xs.eraseIdx j)->kI d s.heap h'->Q p.2 {s with heap:=h',toks:=t}):
  aQ (a9 prog w) A (call (.builtin "dict.pop") [.ref d,.ref a,r]) Q E s:=by
 obtain⟨o,es,ep,a3,ay,hd,he,OJ,aT⟩:=id hm;have T0:s.TypeIs (.ref d) "dict":=⟨o,a3,ay.1⟩
 refine rr F.slot_dict_pop T0 F.entry_dict_pop ?_ (F.args_dict_pop_3 _ _ _);unfold Builtin.«dict.pop» asN;refine ax (ax (T9 T0 ?_));change aQ _ _ (pure (d,cE a,some r)) _ _ s;refine bj ?_;dsimp only;rw[bE (by simp[keyPart])];refine ax (w7 a3 hd (ax (bj ?_)));have hsz:es.size=xs.length:=arc he;by_cases OB:es.isEmpty=true
 .rw[bM OB];have x0:xs=[]:=by
   have:es.size=0:=by simpa[Array.isEmpty]using OB
   exact x6.mp (by omega)
  refine ax (Fd (ax (bj ?_)));rw[bM (show(none:Option pe).isNone=true from rfl)];refine ax (ar8 hs (ax (Fd (bj ⟨_,rfl,?_⟩))));exact Hx (λj p=>by rw[x0];simp) s.toks
 .rw[bE OB];refine ax (aaD b7 yK hm hz (λh0=>?_) λj p bL h' dd r6=>?_)
  .rw[bM (show(none:Option pe).isNone=true from rfl)];exact ax (ar8 hs (ax (Fd (bj ⟨_,rfl,Hx h0 _⟩))))
  .rw[bE (by simp)];exact ax (n2 (bj ⟨_,rfl,O7 j p bL h' _ dd r6⟩))
end
section
variable{X:bg}{o e f:Expr}{bk ty kg:TE}{eX fb:Pos}
noncomputable def ahD(bk ty kg:TE):TE:=λσ H Q=>bk σ H λx H1=>∃a,x=.ref a/\xP H1 a/\ty σ H1 λy ag=>kg σ ag λz a_=>∃kvs k b,y=.ref b/\a_ a=some (.c3 kvs)/\a_ b=some (.tup (k.map dn))/\Q ((b1 kvs k).getD z) (upd a_ a (.c3 (o4 kvs k)))
theorem Vz(b7:X.A.units+1<cLine)(a3:bl X o bk)(he:bl X e ty)(hf:bl X f kg)(m:M2 X o "pop" eX e f fb):bl X (.Call (.Attribute o "pop" eX) [e,f] [] fb) (ahD bk ty kg):=by
 intro pins s σ H Q I h;refine T3 m.base m.eh m.line F_ Lv aeE (bF (a3 pins s σ H _ I h) λu s1⟨x,H1,aR,bC,a,ex,d,bQ⟩=>?_);subst ex;obtain rfl:u=cE a:=bC;obtain⟨t1,eP,_⟩:=JS aR d;refine⟨t1,eP,?_⟩;rw[m.trees];refine Ad rfl (Ae (uM (bF (he pins s1 σ H1 _ aR bQ) λjs s2⟨y,ag,bD,bJ,cZ⟩=>uM (bF (hf pins s2 σ ag _ bD cZ) λdK s3⟨z,a_,c5,rh,kvs,k,b,f5,au,ef,q⟩=>Fv ?_))));subst f5;obtain rfl:js=cE b:=bJ;obtain⟨rA,hs,xs,rel,dd⟩:=Yp c5.bb au;have aoS:xs.length<=sizeLine:=by rw[<-gM rel];exact rA
 have jc:kvs.map (·.1)=xs.map (·.1):=by
  have:∀{l:List (List a'×V)}{m:List (List a'×Addr×Value)},KT a_ l m->l.map (·.1)=m.map (·.1):=λ{l m}R=>by
   induction R with
   |nil=>rfl
   |cons a t a6=>rw[hQ,hQ,a6,a.1]
  exact this rel
 have aG:(kvs.map (·.1)).Nodup:=by obtain⟨_,_,_,_,_,_,_,_,aT⟩:=id dd;rw[jc];exact aT
 have pick:∀{l:List (List a'×V)}{m:List (List a'×Addr×Value)}{j:Nat}{q:List a'×Addr×Value},KT a_ l m->m[j]?=some q->∃p,l[j]?=some p/\p.1=q.1/\RelV p.2 q.2.2:=λ{l m j q}R=>by
  induction R generalizing j with
  |nil=>intro h;simp at h
  |cons a t a6=>
   cases j with
   |zero=>intro h;simp at h;subst h;exact⟨_,rfl,a.1,a.2.2⟩
   |succ j=>intro h;simp at h;simpa using a6 h
 refine afH (knd:=mB (gj X.prog X.w)) hs (Jh b7) (wq c5.bb ef) dd aoS (λh0 t=>?_) λj p bL h' t jI r6=>?_
 .have v0:b1 kvs k=none:=by
   have r0:=KT.val rel k;rw[atKey_none_of_get h0]at r0;cases ev:b1 kvs k with
   |none=>rfl
   |some v=>rw[ev]at r0;exact r0.elim
  have aqr:o4 kvs k=kvs:=by
   unfold o4;rw[KZ];intro p aO;have:(kvs.any λcf=>decide (cf.1=k))=false:=by rw[oy,v0];rfl
   have h2:p.1≠k:=λz=>by rw[acO]at this;exact this p aO (cu z)
   exact cu h2
  rw[v0,aqr]at q;have cJ:upd a_ a (.c3 kvs)=a_:=by
   funext c;by_cases ay:c=a
   .rw[ay,aP,au]
   .rw[aA ay]
  rw[cJ]at q;exact⟨z,a_,c5.tok t,rh,q⟩
 .obtain⟨hL,OZ,eg,auL⟩:=pick rel bL;have aT:(xs.map (·.1)).Nodup:=jc▸aG;have ck:=KT.val rel k;rw[atKey_of_get aT bL]at ck;obtain⟨v1,ev,cg⟩:∃v1,b1 kvs k=some v1/\RelV v1 p.2:=by
   cases ev:b1 kvs k with
   |none=>rw[ev]at ck;exact ck.elim
   |some v1=>rw[ev]at ck;exact⟨v1,rfl,ck⟩
  have ep:o4 kvs k=kvs.eraseIdx j:=(ŷ aG (v:=hL.2) (by rw[OZ,show hL=(k,hL.2)from Bi eg rfl])).symm;rw[ev,ep]at q;have f3:∀{l:List (List a'×V)}{m:List (List a'×Addr×Value)}(j:Nat),KT a_ l m->KT a_ (l.eraseIdx j) (m.eraseIdx j):=λ{l m}j R=>by
   induction R generalizing j with
   |nil=>exact .nil
   |cons a t a6=>
    cases j with
    |zero=>exact t
    |succ j=>exact .cons a (a6 j)
  obtain⟨ob,es,nD,af,ai,bU,cX,_,d3⟩:=jI;refine⟨v1,_,v_ (t':=t) (ob:=.c3 (kvs.eraseIdx j)) c5 (by rw[au];exact lC) r6 ⟨ob,af⟩ ⟨?_,hs,xs.eraseIdx j,bf.eE (f3 j rel) λp q w=>⟨w.1,?_,w.2.2⟩,ob,es,nD,af,ai,bU,cX,d3⟩,cg,q⟩
  .exact eQ (List.length_eraseIdx_le ..) rA
  .have fo:=w.2.1;rw[aA (λy=>by rw[y,au]at fo;cases fo)];exact fo
noncomputable def ahE(bk ty kg:TE):TE:=λσ H Q=>bk σ H λx H1=>∃a,x=.ref a/\xP H1 a/\ty σ H1 λy ag=>kg σ ag λz a_=>∃kvs k,y=dn k/\a_ a=some (.b0 kvs)/\kvs.length<sizeLine/\
 (∀v,b1 kvs k=some v->Q v a_)/\(b1 kvs k=none->Q z (upd a_ a (.b0 (d7 kvs k z))))
theorem adU(a3:bl X o bk)(he:bl X e ty)(hf:bl X f kg)(m:M2 X o "setdefault" eX e f fb):bl X (.Call (.Attribute o "setdefault" eX) [e,f] [] fb) (ahE bk ty kg):=by
 intro pins s σ H Q I h;refine T3 m.base m.eh m.line F_ aeC PySem.F.type_dict_setdefault (bF (a3 pins s σ H _ I h) λu s1⟨x,H1,aR,bC,a,ex,d,bQ⟩=>?_);subst ex;obtain rfl:u=cE a:=bC;obtain⟨t1,eP,_⟩:=JS aR d;refine⟨t1,eP,?_⟩;rw[m.trees];refine Ad rfl (Ae (uM (bF (he pins s1 σ H1 _ aR bQ) λjs s2⟨y,ag,bD,bJ,cZ⟩=>uM (bF (hf pins s2 σ ag _ bD cZ) λdK s3⟨z,a_,c5,rh,kvs,k,f5,au,lk,q,fR⟩=>Fv ?_))));subst f5;obtain⟨rA,hs,vs,rel,dd⟩:=w0 c5.bb au;have hz:vs.length<=sizeLine:=by rw[<-rel.length];exact rA
 have r0:=rel.val k;refine BI aeC dd.typeIs PySem.F.entry_dict_setdefault (PySem.F.args_dict_setdefault_3 _ _ _) (kt_meets_setdefault (gj X.prog X.w) a (q_ bJ) hs dK) ⟨vs,dd,hz,λv bz=>?_,λaT h' jI r6=>?_⟩
 .rw[bz]at r0;cases ev:b1 kvs k with
  |none=>rw[ev]at r0;exact r0.elim
  |some v1=>
   rw[ev]at r0;exact⟨v1,a_,c5.tok _,r0,q v1 ev⟩
 .have v0:b1 kvs k=none:=by
   rw[aT]at r0;cases ev:b1 kvs k with
   |none=>rfl
   |some v=>rw[ev]at r0;exact r0.elim
  have aj:(d7 kvs k z).length<=sizeLine:=by have:=Du kvs k z;omega
  have CZ:∃q,h'.get? a=some q:=let⟨q,_,_,aU,_⟩:=jI;⟨q,aU⟩
  exact⟨z,_,v_ (ob:=.b0 (d7 kvs k z)) c5 (by rw[au];exact lC) r6 CZ (E1 aj hs (rel.put k rh) jI),rh,fR v0⟩
end
section
variable{prog:bO}{w:bx}{A:c0}{E:cD}{s:aF}{d:Addr}{ep:Nat}{es:Array pe}
theorem l2.lt{h:Heap}(x:l2 h d es ep):d<h.objs.size:=let⟨_,a3,_⟩:=x;dG a3
theorem l2.at'{h h':Heap}(x:l2 h d es ep)(k:∀o,h.get? d=some o->h'.get? d=some o):l2 h' d es ep:=let⟨o,a3,r⟩:=x;⟨o,k o a3,r⟩
theorem aa9(dm:A.handled=none)(I:Addr)(h2:d≠I):te prog w A I [I,d] [I] es.size (λi v=>∃e,es[i]?=some e/\v=e.key) (λi h=>h.IsKeyIter I d i es.size ep/\l2 h d es ep)where
 sub:=λb U=>by simp at U;simp[U]
 frame:=λ_ _ _ st aX=>⟨st.1.at λo e=>aX I (by simp) o e,st.2.at' λo e=>aX d (by simp) o e⟩
 item:=λi s Q E ar st ff=>by refine XE st.1 st.2 ar λh' fT b'=>ff _ h' s.toks ⟨es[i],by simp[ar],rfl⟩ ⟨fT,st.2.at' λo e=>(b'.2 d h2).trans e⟩ λb o U e=>(b'.2 b (λz=>U (by simp[z]))).trans e
 done:=λs Q E st ff=>Wd dm st.1 st.2 (cq _) λh' ef=>ff h' s.toks λb o U e=>ef b o (λz=>U (by simp[z])) e
 self:=λ_ _ _ _ st ff=>wpAny_pyIter_keyiter st.1 ff
theorem adV(lo:(d==lr)=false):KdlSrc prog w "dict" d d es.size (λi v=>∃e,es[i]?=some e/\v=e.key) (λh=>l2 h d es ep)where
 type:=λ_ hm=>let⟨o,a3,av,_⟩:=hm;⟨o,a3,av.1⟩
 there:=λ_ hm=>⟨hm.lt,hm.lt⟩
 keep:=λ_ _ hm aX=>hm.at' λo e=>aX d (.inl rfl) o e
 notList:=by decide
 notTuple:=by decide
 hint:=λ_ _ _ _ hm aU=>kdl_hint_dict (let⟨o,a3,av,_⟩:=hm;⟨o,a3,av.1⟩) aU
 iter:=λ_ s dm hm=>⟨_,_,(λ_ _ aU=>We lo hm aU),aa9 dm _ (eN hm.lt),⟨⟨_,gq _ rfl,rfl,rfl⟩,hm.at' λo e=>dM _ e⟩⟩
theorem aba{vs:cC}{κ:ye}{lt:hR}{Q:cD}(lo:(d==lr)=false)(dm:A.handled=none)(hm:l2 s.heap d es ep)(bz:vs=es.toList.map (·.key))(qG:vs.length<64)(aX:2<=vs.length->∀s1:aF,m' s.heap s1.heap->∀Q:ye->aF->Prop,Q κ s1->aQ (a9 prog w) A.in1.in1 (Qg vs.toArray) Q (λ_ _=>False) s1)(aK:2<=vs.length->∀s1:aF,m' s.heap s1.heap->∀i j C,i<vs.length->j<vs.length->C (lt i j) s1->DC prog w A.in1.in1 κ vs i j C s1)(h:∀af D h' t c,m' s.heap af->af.objs.size<=D->m' af h'->h'.get? D=some (jw "list" (x8 (gT fZ lt vs)) c)->Q (.ref D) {s with heap:=h',toks:=t}):
  aQ (a9 prog w) A (call (.builtin "sorted") ([.ref d]:cC)) Q E s:=by
 have big:vs.length<=sizeLine:=by rw[p5];omega
 have tM:es.size=vs.length:=by rw[bz,bp,J5]
 refine aaA kind_sorted plain_sorted entry_sorted (args_sorted1 (.ref d)) ?_;unfold Builtin.«sorted»;refine ax (m:=checkCount "sorted" 1 1 _) (bj ?_);refine ax (kdu_collect (A:=A.in1) (adV (ep:=ep) (es:=es) lo) dm hm (by rw[tM];exact big) λaf a5 acc e0 Od=>?_);have au:acc.toList=vs:=by
  apply KY;intro j;rw[bz,c9];by_cases bL:j<es.size
  .have Ι:j<acc.size:=by rw[Od.1];exact bL
   obtain⟨e,aB,aD⟩:=Od.2 j acc[j] (by simp[Ι]);rw[Fq,Fq,aB,J4 Ι];exact ha some aD
  .rw[Fq,Fq,Fp (by rw[Od.1];omega),Fp (by omega)];rfl
 rw[au];refine ax (Ŏ ?_ big);have bR:(af.push (jw "list" vs.toArray 0)).get? af.objs.size=some (jw "list" vs.toArray 0):=gq _ rfl;have h5:m' s.heap (af.push (jw "list" vs.toArray 0)):=λb o q=>dM _ (e0 b o q);have o_:∀h',sQ af.objs.size (af.push (jw "list" vs.toArray 0)) h'->m' s.heap h':=λh' x b o q=>x b o (eN (dG (e0 b o q))) (h5 b o q);have pa:∀h',sQ af.objs.size (af.push (jw "list" vs.toArray 0)) h'->m' af h':=λh' x b o q=>x b o (eN (dG q)) (dM _ q);refine ax (iL (rr arh ⟨_,bR,rfl⟩ am1 ?_ (akt _)));refine Wc (s:={s with heap:=af.push (jw "list" vs.toArray 0),toks:=a5}) (κ:=κ) (lt:=lt) bR qG (λai s1 x=>aX ai s1 (o_ _ x)) (λai s1 x=>aK ai s1 (o_ _ x)) λh' c x ay=>?_;exact⟨_,rfl,bj ⟨_,rfl,h af _ h' _ c e0 (cq _) (pa _ x) ay⟩⟩
end
end ct
namespace dW
open PySem ao ct dx
noncomputable abbrev kK:=Int×Nat
abbrev l9:= List (kK×List Nat)
noncomputable def oW:dx.gD:=⟨0,0,0,0⟩
noncomputable def o5(hs:bc)(ds:bT)(r:Nat):Str:=S (hs.getD (ds.getD r oW).a [])
noncomputable def o6(hs:bc)(ds:bT)(r:Nat):Str:=S (hs.getD (ds.getD r oW).b [])
noncomputable def rf(ds:bT)(r:Nat):Int:=(ds.getD r oW).t
noncomputable def iE(ds:bT)(r:Nat):Int:=(ds.getD r oW).m
noncomputable def stepK(hs:bc)(ds:bT)(k:kK):Step:=⟨k.1,some k.2,o6 hs ds k.2,k.1+rf ds k.2⟩
noncomputable def mn(st:Step)(ns:dI)(aE:fj):List (List Step):=aE.mapIdx λi ss=>if i∈ns then ss++[st]else ss
theorem IH(st:Step)(ns:dI)(aE:fj):(mn st ns aE).length=aE.length:=by unfold mn;rw[List.length_mapIdx]
theorem DR(st:Step)(ns:dI)(aE:fj)(i:Nat):(mn st ns aE)[i]?=(aE[i]?).map λss=>if i∈ns then ss++[st]else ss:=by unfold mn;rw[List.getElem?_mapIdx]
theorem Ÿ(st:Step)(aE:fj):mn st [] aE=aE:=by apply KY;intro i;rw[DR];simp
theorem Ń(st:Step){ns:dI}{n:Nat}(h:n∉ns){aE:fj}{ss:List Step}(e:aE[n]?=some ss):mn st (ns++[n]) aE=(mn st ns aE).set n (ss++[st]):=by
 apply KY;intro i;rw[DR,List.getElem?_set,DR,IH];by_cases ar:n=i
 .subst ar;have aj:=(eM.mp e).1;rw[bM rfl,bM aj,e];simp
 .rw[bE ar];have:(i∈ns++[n])↔i∈ns:=by rw[hj,hr];exact⟨λz=>z.elim id λw=>bG w.symm ar,.inl⟩
  simp only[this]
noncomputable def mask(H:ae)(ts:bS):ae:=λb=>if b∈ts then none else H b
theorem mj{H:ae}{ts:bS}{b:Addr}{o:ee}(e:H b=some o)(n:b∉ts):mask H ts b=some o:=by unfold mask;rw[bE n];exact e
theorem El{H:ae}{ts:bS}{b:Addr}(h:b∈ts):mask H ts b=none:=bM h
theorem DS(H:ae)(ts:bS):aN (mask H ts) H:=λb o e=>by
 unfold mask at e;split at e
 .cases e
 .exact e
noncomputable def hk(H:ae)(a:Addr)(b:kK×List Nat):Prop:=∃c,H a=some (.tup [.int b.1.1,.int b.1.2,.ref c])/\H c=some (.tup (b.2.map λn:Nat=>V.int n))
theorem hk.same{H H':ae}{a:Addr}{b:kK×List Nat}(h:hk H a b)(aH:aN H H'):hk H' a b:=let⟨c,af,ai⟩:=h;⟨c,aH _ _ af,aH _ _ ai⟩
structure FC(C:Addr)(H:ae)(x n g st:Addr)(cc:b9)(ls:bS):Prop where
 ins:∃ah,H x=some (.ins C ah (E6 n g st))
 goals:H g=some (.lst (cc.map V.str))
 steps:H st=some (.lst (aC ls))
theorem FC.same{C:Addr}{H H':ae}{x n g st:Addr}{cc:b9}{ls:bS}(h:FC C H x n g st cc ls)(aH:aN H H'):FC C H' x n g st cc ls:=
 let⟨ah,e⟩:=h.ins;⟨⟨ah,aH _ _ e⟩,aH _ _ h.goals,aH _ _ h.steps⟩
theorem hU.same{H H':ae}{l:Addr}{ss:List Step}(h:hU H l ss)(aH:aN H H'):hU H' l ss:=let⟨ts,a,b⟩:=h;⟨ts,aH _ _ a,b.same aH⟩
theorem Ş{H H':ae}{ls:bS}{aE:fj}(h:bf (hU H) ls aE)(aH:aN H H'):bf (hU H') ls aE:=bf.eE h λ_ _ e=>e.same aH
theorem WalkAt.same{C:Addr}{H H':ae}{x n g st:Addr}{cc:b9}{ls:bS}{aE:fj}(h:WalkAt C H x n g st cc ls aE)(aH:aN H H'):WalkAt C H' x n g st cc ls aE:=
 let⟨ah,e⟩:=h.ins;⟨⟨ah,aH _ _ e⟩,aH _ _ h.goals,aH _ _ h.steps,Ş h.each aH⟩
theorem VA{H H':ae}{l:Addr}{I':List Step}(new:hU H' l I')(old:∀ho ss,ho≠l->hU H ho ss->hU H' ho ss):∀{ls:bS}{aE:fj}{n:Nat},bf (hU H) ls aE->ls.Nodup->ls[n]?=some l->bf (hU H') ls (aE.set n I')
 |_,_,n,.nil,_,e=>by simp at e
 |a::ls,s0::aE,0,.cons r t,aG,e=>by
  simp only[K0,Ln]at e;subst e;rw[iP]at aG;refine .cons new ?_;have:∀{ms:bS}{wU:fj},bf (hU H) ms wU->a∉ms->bf (hU H') ms wU:=λ{ms wU}p=>by
   induction p with
   |nil=>exactλ_=>.nil
   |cons r t a6=>exactλh=>.cons (old _ _ (λz=>h (by rw[z];exact .head _)) r) (a6 λz=>h (.tail _ z))
  exact this t aG.1
 |a::ls,s0::aE,n+1,.cons r t,aG,e=>by
  rw[iP]at aG;have cm:ls[n]?=some l:=by simpa using e
  exact .cons (old _ _ (λz=>aG.1 (by rw[z];exact eH cm)) r) (VA new old t aG.2 cm)
section
variable{P:bO}{w:bx}{K:aV}{mg:cI}{base:Heap}
inductive adW(C:Addr)(vs:aZ)(H:ae)(Q:ba)(bN:b6):Prop where
 |mk (x bt bu:Addr) (xs ys:aZ) (k:Int) (v:ao.V) (bV:vs=[.ref x,.int k]) (bA:jO C H x bt bu xs ys) (cn:0<=k) (di:k<ys.length) (d8:ao.hx ys k=some v) (fI:Q v H)
noncomputable def Js(C:Addr):cM:=λvs H Q bN=>adW C vs H Q bN
theorem adF{C f:Addr}{fd:cF}(F:bB K "road" "Net.road" uh f fd)(B:gp mg)(f':sL K C):aL P w K mg base a8 1 f fd ["self","number"] (Js C):=by
 refine F.ok Wv (λvs H Q E h=>?_) (λcdv A outer s H vs Q E aq h=>?_)
 .obtain⟨x,bt,bu,xs,ys,k,v,rfl,_⟩:=h;rfl
 .obtain⟨x,bt,bu,xs,ys,k,v,rfl,n,h0,af,bz,q⟩:=h;obtain⟨ah,av⟩:=n.ins;refine⟨_,(bh (eY (i7 (Tt p0 p2 aW (aa 1) (dE gP (by rfl) B.len gF (ak (e2 (aa 0) (by rfl)) aI)))) (br Tr) fv)
   (br (c_ (cv fu (e2 (aa 0) (by rfl)) (aa 1) (λ_ _=>rfl))))),?_⟩
  refine⟨_,rfl,_,_,rfl,rfl,_,rfl,?_⟩;refine fH (cu h0) ⟨_,rfl,x,C,ah,_,_,rfl,av,f'.cl,f'.jt,rfl,bu,_,rfl,.inl (aJ.of n.rg),_,_,rfl,rfl,_,rfl,?_⟩;refine KV af ?_;exact⟨_,rfl,x,C,ah,_,_,rfl,av,f'.cl,f'.jt,rfl,_,rfl,bu,_,_,_,rfl,rfl,aJ.of n.rg,bz,q⟩
inductive afI(C az:Addr)(vs:aZ)(H:ae)(Q:ba)(bN:b6):Prop where
 |mk (aY:ae) (x n g st bt bu hG:Addr) (cc:b9) (ls rs:bS) (aE:fj) (hs:bc) (ds:bT) (b:kK×List Nat) (bV:vs=[.ref x,.ref hG]) (bA:aN aY H) (cn:FC C aY x n g st cc ls) (di:bf (hU H) ls aE) (d8:ls.Nodup) (fI:(∀l∈ls,aY l=none)) (iM:jO az aY n bt bu (cK hs) (aC rs)) (lx:ix aY hs rs ds) (nh:hk aY hG b) (rz:b.1.2<ds.length) (xb:b.2.Nodup) (z4:(∀i∈b.2,i<aE.length)) (Ź:(∀ss∈aE,ss.length<=100)) (asA:∀H',aN aY H'->bf (hU H') ls (mn (stepK hs ds b.1) b.2 aE)->Q .bq H')
noncomputable def Kv(C az:Addr):cM:=λvs H Q bN=>afI C az vs H Q bN
noncomputable abbrev Ah:Stmt:=gU (top 20) 2
theorem Kw:dB ["self","bag","road","number"] ["self","bag"] (c7 Ah):=⟨rfl,rfl,rfl,by decide+kernel,rfl,by decide+kernel,by decide+kernel⟩
theorem afJ{C az f f1:Addr}{fd c4:cF}(F:bB K "send" "Walk.send" Ah f fd)(dj:sq K C)(hH:fB K az)(ou:c6 K az "road" "Net.road" uh ["self","number"] f1 c4)(Dn:aL P w K mg base a8 1 f1 c4 ["self","number"] (Js az)):
  aL P w K mg base a8 2 f fd ["self","bag"] (Kv C az):=by
 refine F.ok Kw (λvs H Q E h=>?_) (λcdv A outer s H vs Q E aq h=>?_)
 .obtain⟨aY,x,n,g,st,bt,bu,hG,cc,ls,rs,aE,hs,ds,b,rfl,_⟩:=h;rfl
 .obtain⟨aY,x,n,g,st,bt,bu,hG,cc,ls,rs,aE,hs,ds,b,rfl,b',W,each,aG,fr,N,R,Oj,yO,Ic,cP,eh,q⟩:=h;obtain⟨ah,av⟩:=W.ins;obtain⟨iS,aT⟩:=N.ins;obtain⟨c,jr,h1⟩:=Oj;have rl:=R.len;refine⟨_,(bh (da (i:=2) Kw.aG rfl (cb rfl) (g_ (e2 (aa 0) (by rfl)) hH ou.eo Dn (aq.mono (by decide)) ou.bd .nil dt (ak (cv fa (aa 1) aW (λ_ _=>rfl)) aI)))
   (br (kq kM rfl (WZ (cv fa (aa 1) aW (λ_ _=>rfl))) (et (i:=3) Kw.aG rfl (cb rfl))
    (br (gQ (nN og pw px nB (cv fu (e2 (aa 0) (by rfl)) (aa 3) (λ_ _=>rfl)) (ak (i8 (ak (cv fa (aa 1) aW (λ_ _=>rfl)) (ak (cv fa (aa 1) aW (λ_ _=>rfl)) (ak (cv fa (aa 2) aW (λ_ _=>rfl)) (ak (bK ib (cv fa (aa 1) aW (λ_ _=>rfl)) (cv fa (aa 2) aW (λ_ _=>rfl))) aI))))) aI))))))),?_⟩
  obtain⟨r,f3⟩:∃r,rs[b.1.2]?=some r:=⟨_,dv (by omega)⟩
  obtain⟨d,dY,_,hd⟩:=R.get f3;have cJ:ds.getD b.1.2 oW=d:=so dY;refine⟨_,rfl,x,C,ah,_,_,rfl,b' _ _ av,dj.cl,dj.nn,rfl,n,iS,_,rfl,b' _ _ aT,rfl,_,rfl,hG,_,_,_,rfl,rfl,cN.of (b' _ _ jr),rfl,n,bt,bu,_,_,_,_,rfl,N.same b',(by omega),(by have:=eI rs;omega),(iQ (by unfold aC;rw[c9,f3];rfl)),?_⟩;refine⟨_,rfl,hG,_,_,_,rfl,rfl,cN.of (b' _ _ jr),rfl,c,rfl,?_⟩;refine⟨⟨_,cN.of (b' _ _ h1)⟩,?_⟩;have BR:lU hs d=[.str (o5 hs ds b.1.2),.str (o6 hs ds b.1.2),.int (rf ds b.1.2),.int (iE ds b.1.2)]:=by unfold lU o5 o6 rf iE;rw[cJ]
  rw[BR]at hd;refine V0 (K:=K) (a:=c) (xs:=b.2.map λn:Nat=>V.int n) (λj σ gr=>∃g0,σ=[some (.ref x),some (.ref hG),some (.ref r),g0]/\aN aY gr/\bf (hU gr) ls (mn (stepK hs ds b.1) (b.2.take j) aE))
   ⟨none,rfl,b',by rw[F3,Ÿ];exact each⟩ (λj σ gr _⟨_,_,h,_⟩=>cN.of (h _ _ h1)) ?_ ?_
  .rintro j z σ gr dC ⟨g0,rfl,iG,eZ⟩;rw[c9]at dC;obtain⟨i,ey,rfl⟩:=fJ.mp dC;have ar:=cP i (eH ey);obtain⟨ss,es⟩:∃ss,aE[i]?=some ss:=⟨_,dv ar⟩
   have Ij:i∉b.2.take j:=λz=>by
    have bL:=(eM.mp ey).1;have aD:=Xd j b.2;rw[W5 bL]at aD;rw[<-aD,x7]at Ic;have cH:b.2[j]=i:=by rw[dv bL]at ey;exact hF ey
    exact Ic.2.2 i z i (by rw[cH];exact .head _) rfl
   have ga:(mn (stepK hs ds b.1) (b.2.take j) aE)[i]?=some ss:=by rw[DR,es];simp[Ij]
   have ln:=gM eZ;obtain⟨l,hl⟩:∃l,ls[i]?=some l:=⟨_,dv (by rw[IH]at ln;omega)⟩
   obtain⟨auN,GD,ts,aj,dg⟩:=bf.get eZ hl;rw[ga]at GD;cases GD;have Oe:=cN.of (K:=K) (iG _ _ jr);have ψ:=cN.of (K:=K) (iG _ _ hd);have du:=dg.len;rw[bp]at du;have fs:=eh ss (eH es);have fl:(aC ts).length<sizeLine:=eW (by rw[eI];omega);refine⟨_,rfl,x,C,ah,_,_,rfl,iG _ _ av,dj.cl,dj.ns,rfl,_,rfl,st,_,_,_,rfl,rfl,aJ.of (iG _ _ W.steps),(show ao.hx (aC ls) (i:Int)=some (.ref l)from iQ (by unfold aC;rw[c9,hl];rfl)),.inl ⟨rfl,_,aJ.of aj⟩,?_⟩;refine⟨_,rfl,hG,_,_,_,rfl,rfl,Oe,rfl,_,rfl,hG,_,_,_,rfl,rfl,Oe,rfl,_,rfl,r,_,_,_,rfl,rfl,ψ,rfl,_,rfl,hG,_,_,_,rfl,rfl,Oe,rfl,_,rfl,r,_,_,_,rfl,rfl,ψ,rfl,_,_,rfl,rfl,(by show 4<=sizeLine;decide),λt cQ=>?_⟩;have EM:=bW (o:=.tup [V.int b.1.1,V.int b.1.2,V.str (o6 hs ds b.1.2),V.int (b.1.1+rf ds b.1.2)]) cQ;have pO:=EM _ _ aj;refine⟨l,_,_,rfl,rfl,pO,fl,_,rfl,?_,?_⟩
   .exact kp (fr l (eH hl)) (iG.trans EM)
   .have a5:b.2.take (j+1)=b.2.take j++[i]:=by rw[pk,ey];rfl
    rw[a5,Ń _ Ij es];refine VA ?_ (λho I' nl h=>?_) eZ aG hl
    .refine⟨ts++[t],by rw[aP];unfold aC;rw[eU];rfl,?_⟩;rw[eU];refine Paired.snoc ?_ ((dg.same EM).upd pO (by intro d z;cases z));show upd _ l _ t=some (.tup (EP (stepK hs ds b.1)));rw[aA (bZ aj cQ).symm,aP];rfl
    .obtain⟨i2,af,ai⟩:=h;exact⟨i2,by rw[aA nl];exact EM _ _ af,(ai.same EM).upd pO (by intro d z;cases z)⟩
  .rintro σ gr ⟨g0,rfl,iG,eZ⟩;refine q gr iG ?_;rw[bp,pn]at eZ;exact eZ
noncomputable abbrev Ai:Stmt:=gU (top 20) 3
theorem ahF:dB ["self","number"] ["self","number"] (c7 Ai):=⟨rfl,rfl,rfl,by decide+kernel,rfl,by decide+kernel,by decide+kernel⟩
theorem afK{C f:Addr}{fd:cF}(F:bB K "goal" "Walk.goal" Ai f fd)(dj:sq K C):aL P w K mg base a8 1 f fd ["self","number"] (Ks C):=by
 refine F.ok ahF (λvs H Q E h=>?_) (λcdv A outer s H vs Q E aq h=>?_)
 .obtain⟨x,n,g,st,cc,ls,aE,k,y,rfl,_⟩:=h;rfl
 .obtain⟨x,n,g,st,cc,ls,aE,k,y,rfl,W,f5,q⟩:=h;obtain⟨ah,av⟩:=W.ins;refine⟨_,(br (c_ (cv fu (e2 (aa 0) (by rfl)) (aa 1) (λ_ _=>rfl)))),?_⟩;exact⟨_,rfl,x,C,ah,_,_,rfl,av,dj.cl,dj.mr,rfl,_,rfl,g,_,_,_,rfl,rfl,aJ.of W.goals,iQ (by rw[c9,f5];rfl),q⟩
end
end dW
namespace dx
noncomputable def kD(c:Int):Int:=c*1099087573%10000000000037
noncomputable def m_(n:Nat)(c:Int):Int:=kD c%n
noncomputable def q4(n:Nat)(c:Int):Int:=(m_ n c+1+kD c/n%((n:Int)-1))%n
noncomputable def sA(c:Int):Int:=if kD c/27000%5=0 then 1+kD c/135000%10 ^ 9 else 1+kD c/9000%3
noncomputable def H_(n:Nat)(c:Int):gD:=⟨(m_ n c).toNat,(q4 n c).toNat,1+kD c/1000%9,sA c⟩
theorem ahG{n:Nat}(h:1<n)(c:Int):(H_ n c).Ok n:=by
 have fD:0<=m_ n c:=iu _ (by omega);have fL:m_ n c<n:=l3 _ (by omega);have aB:0<=q4 n c:=iu _ (by omega);have aD:q4 n c<n:=l3 _ (by omega);have jH:0<=kD c/n%((n:Int)-1):=iu _ (by omega);have me:kD c/n%((n:Int)-1)<(n:Int)-1:=l3 _ (by omega);have ne:m_ n c≠q4 n c:=by
  intro z;have cH:q4 n c=(m_ n c+1+kD c/n%((n:Int)-1))%n:=rfl;generalize kD c/n%((n:Int)-1)=x at jH me cH;by_cases cP:m_ n c+1+x<n
  .rw[WK (by omega) cP]at cH;omega
  .have d3:(m_ n c+1+x)%(n:Int)=(m_ n c+1+x-n)%(n:Int):=by rw[Int.sub_emod_right]
   rw[d3,WK (by omega) (by omega)]at cH;omega
 have t1:0<=kD c/1000%9:=iu _ (by decide);have eP:kD c/1000%9<9:=l3 _ (by decide);have m:1<=sA c/\sA c<=1000000000:=by
  unfold sA;split
  .have aqt:(10:Int) ^ 9=1000000000:=by decide
   rw[aqt];omega
  .omega
 exact⟨by show(m_ n c).toNat < n;omega,by show(q4 n c).toNat < n;omega,by show(m_ n c).toNat≠(q4 n c).toNat;omega,by show 1<=1+_/\1+_<=9;omega,m⟩
end dx
namespace dW
open PySem ao ct dx
inductive ahH(vs:aZ)(H:ae)(Q:ba)(bN:b6):Prop where
 |mk (c:Int) (a:Addr) (hs:bc) (bV:vs=[.int c,.ref a]) (bA:H a=some (.lst (cK hs))) (cn:2<=hs.length) (di:hs.length<=12) (d8:∀r,H r=none->Q (.ref r) (upd H r (.tup (lU hs (H_ hs.length c)))))
noncomputable def K9:cM:=λvs H Q bN=>ahH vs H Q bN
theorem Wf{t:e8}{D:Ends}{σ:ao.St}{H:ae}(P:Ends->Prop)(af:P D)(ai:∀cA,P cA->t cA σ H):t D σ H:=ai D af
section
variable{P:bO}{w:bx}{K:aV}{mg:cI}{base:Heap}
noncomputable abbrev A8:Stmt:=top 46
noncomputable abbrev ajD:List Str:=["_law_cell","_law_names","_law_n","_law_many","_law_first","_law_last","_law_room"]
theorem w6:dB ajD ["_law_cell","_law_names"] (c7 A8):=⟨rfl,rfl,rfl,by decide+kernel,rfl,by decide+kernel,by decide+kernel⟩
theorem ahI{f:Addr}{fd:cF}(F:bB K "_law_road" "_law_road" A8 f fd)(B:gp mg):aL P w K mg base a8 1 f fd ["_law_cell","_law_names"] K9:=by
 refine F.ok w6 (λvs H Q E h=>?_) (λcdv A outer s H vs Q E aq h=>?_)
 .obtain⟨c,a,hs,rfl,_⟩:=h;rfl
 .obtain⟨c,a,hs,rfl,aK,ai,vL,q⟩:=h;refine⟨_,(bh (da (i:=2) w6.aG rfl (cb rfl) (bK e9 (bK ui (aa 0) aW) aW))
   (bh (da (i:=3) w6.aG rfl (cb rfl) (dE gP (by rfl) B.len gF (ak (aa 1) aI)))
   (bh (da (i:=4) w6.aG rfl (cb rfl) (bK e9 (aa 2) (aa 3)))
   (bh (da (i:=5) w6.aG rfl (cb rfl) (bK e9 (bK ib (bK ib (aa 4) aW) (bK e9 (bK g9 (aa 2) (aa 3)) (bK sg (aa 3) aW))) (aa 3)))
   (bh (da (i:=6) w6.aG rfl (cb rfl) (bK ib aW (bK e9 (bK g9 (aa 2) aW) aW)))
   (bh (eY (eC i9 (bK e9 (bK g9 (aa 2) aW) aW) aW (dz _)) (br (da (i:=6) w6.aG rfl (cb rfl) (bK ib aW (bK e9 (bK g9 (aa 2) aW) (bK JK aW aW))))) fv)
   (br (c_ (i8 (ak (cv fu (aa 1) (aa 4) (λ_ _=>rfl)) (ak (cv fu (aa 1) (aa 5) (λ_ _=>rfl)) (ak (bK ib aW (bK e9 (bK g9 (aa 2) aW) aW)) (ak (aa 6) aI))))))))))))),?_⟩
  have aj:=Jo hs;have fD:0<=m_ hs.length c:=iu _ (by omega);have fL:m_ hs.length c<hs.length:=l3 _ (by omega);have aB:0<=q4 hs.length c:=iu _ (by omega);have aD:q4 hs.length c<hs.length:=l3 _ (by omega);refine⟨_,rfl,_,_,rfl,rfl,.inr ⟨by decide,by decide⟩,_,_,rfl,rfl,(by show(0:Int)<10000000000037;decide),?_⟩;refine⟨_,rfl,a,_,rfl,.inl (aJ.of aK),?_⟩;rw[aj];refine⟨_,rfl,_,rfl,_,_,rfl,rfl,(by show(0:Int)<(hs.length:Int);omega),?_⟩;refine⟨_,rfl,_,_,rfl,rfl,_,rfl,_,rfl,_,_,rfl,rfl,⟨by show(0:Int)<(hs.length:Int);omega,by show(hs.length:Int)<1073741824;omega⟩,_,rfl,_,_,rfl,rfl,_,_,rfl,rfl,(by show(0:Int)<(hs.length:Int)-1;omega),_,_,rfl,rfl,_,rfl,_,_,rfl,rfl,(by show(0:Int)<(hs.length:Int);omega),?_⟩;refine⟨_,rfl,_,_,rfl,rfl,⟨by decide,by decide⟩,_,_,rfl,rfl,(by show(0:Int)<3;decide),_,_,rfl,rfl,?_⟩;dsimp only[hX,lR];refine Wf (t:=YH _ _ _) (λcA=>cA.cj [some (.int c),some (.ref a),some (.int (kD c)),some (.int hs.length),some (.int (m_ hs.length c)),some (.int (q4 hs.length c)),some (.int (sA c))] H) ?_ λcA rest=>?_
  .refine⟨_,rfl,_,rfl,a,_,_,_,rfl,rfl,aJ.of aK,Xo fD fL,_,rfl,_,rfl,a,_,_,_,rfl,rfl,aJ.of aK,Xo aB aD,_,rfl,_,_,rfl,rfl,⟨by decide,by decide⟩,_,_,rfl,rfl,(by show(0:Int)<9;decide),_,_,rfl,rfl,_,rfl,(by show 4<=sizeLine;decide),q⟩
  .refine⟨_,rfl,_,_,rfl,rfl,⟨by decide,by decide⟩,_,_,rfl,rfl,(by show(0:Int)<5;decide),rfl,_,rfl,?_⟩;by_cases d3:kD c/27000%5=0
   .refine fH (by show decide (V.int (kD c/27000%5)=V.int 0)=true;rw[d3];decide) ?_;refine⟨_,rfl,_,_,rfl,rfl,⟨by decide,by decide⟩,_,_,rfl,rfl,⟨by decide,by decide,by decide⟩,_,_,rfl,rfl,(by show(0:Int)<10 ^ (9:Int).toNat;decide),_,_,rfl,rfl,?_⟩;have j0:sA c=1+kD c/135000%10 ^ (9:Int).toNat:=by unfold sA;rw[bM d3];rfl
    rw[j0]at rest;exact rest
   .refine ew (by show decide (V.int (kD c/27000%5)=V.int 0)=false;exact dJ λz=>d3 (V.int.inj z)) ?_;have j0:sA c=1+kD c/9000%3:=by unfold sA;rw[bE d3]
    rw[j0]at rest;exact rest
theorem Jj(i j:Int):decide (V.int i=V.int j)=decide (i=j):=by
 by_cases h:i=j
 .rw[cu h,cu (ha V.int h)]
 .rw[dJ h,dJ λz=>h (V.int.inj z)]
noncomputable def ajE(n:Int):PyData->Bool
 |.tuple ds=>decide ((ds.length:Int)=n)
 |_=>false
inductive abL(vs:aZ)(H:ae)(Q:ba)(bN:b6):Prop where
 |mk (v:ao.V) (d:PyData) (bV:vs=[v]) (bA:dw H v d) (cn:Q (.aM (adA d)) H)
noncomputable def TV:cM:=λvs H Q bN=>abL vs H Q bN
inductive abb(vs:aZ)(H:ae)(Q:ba)(bN:b6):Prop where
 |mk (v:ao.V) (d:PyData) (lo ar:Int) (bV:vs=[v,.int lo,.int ar]) (bA:dw H v d) (cn:Q (.aM (Ej lo ar d)) H)
noncomputable def SY:cM:=λvs H Q bN=>abb vs H Q bN
inductive abM(vs:aZ)(H:ae)(Q:ba)(bN:b6):Prop where
 |mk (v:ao.V) (d:PyData) (n:Int) (bV:vs=[v,.int n]) (bA:dw H v d) (cn:Q (.aM (ajE n d)) H)
noncomputable def TX:cM:=λvs H Q bN=>abM vs H Q bN
inductive abc(vs:aZ)(H:ae)(Q:ba)(bN:b6):Prop where
 |mk (a:Addr) (hs:fY) (v u:ao.V) (d e:PyData) (bV:vs=[.ref a,v,u]) (bA:dw H (.ref a) (.list hs)) (cn:dw H v d) (di:dw H u e) (d8:d.depth<=60) (fI:e.depth<=60) (iM:Q (.aM (hy hs d e)) H)
noncomputable def II:cM:=λvs H Q bN=>abc vs H Q bN
theorem SM{ds:fY}{d:PyData}(h:d∈ds):d.depth<=u3 ds:=by
 induction ds with
 |nil=>cases h
 |cons x r a6=>
  simp only[u3];rcases c'.mp h with rfl|h
  .exact Nat.le_max_left _ _
  .exact eQ (a6 h) (Nat.le_max_right _ _)
theorem abN{f:Addr}{fd:cF}(F:bB K "is_whole" "is_whole" wt f fd)(B:gp mg):aL P w K mg base a8 1 f fd ["thing"] TV:=by
 refine F.ok Ws (λvs H Q E h=>?_) (λcdv A outer s H vs Q E aq h=>?_)
 .obtain⟨v,d,rfl,_⟩:=h;rfl
 .obtain⟨v,d,rfl,h,q⟩:=h;refine⟨_,(br (c_ (jK (dE mf (by rfl) B.isinstance jD (ak (aa 0) (ak (lJ (by rfl) B.int JT) aI))) (m3 (WY (dE mf (by rfl) B.isinstance jD (ak (aa 0) (ak (lJ (by rfl) B.bool UO) aI)))))))),?_⟩;refine⟨_,rfl,_,_,_,_,_,rfl,⟨rfl,h.ty,FJ K (agR d)⟩,_,rfl,?_⟩;cases d with
  |int i=>exact h3 ⟨_,rfl,_,_,_,_,_,rfl,⟨rfl,h.ty,FJ K (Wq _)⟩,_,rfl,q⟩
  |bool b=>exact h3 ⟨_,rfl,_,_,_,_,_,rfl,⟨rfl,h.ty,FJ K (Wq _)⟩,_,rfl,q⟩
  |_=>exact gx q
theorem aaX{f Cf:Addr}{fd Cx:cF}(F:bB K "is_whole_within" "is_whole_within" v9 f fd)(qy:dO K mg "is_whole" wt ["thing"] Cf Cx)(Dt:aL P w K mg base a8 1 Cf Cx ["thing"] TV):aL P w K mg base a8 2 f fd ["thing","least","greatest"] SY:=by
 refine F.ok Vv (λvs H Q E h=>?_) (λcdv A outer s H vs Q E aq h=>?_)
 .obtain⟨v,d,lo,ar,rfl,_⟩:=h;rfl
 .obtain⟨v,d,lo,ar,rfl,h,q⟩:=h;refine⟨_,(br (c_ (jK (fw Dt (aq.mono (by decide)) (by rfl) qy.at_ qy.fn.bI qy.bd .nil dt (ak (aa 0) aI)) (m3 (Ts p0 p0 (aa 1) (aa 0) (aa 2)))))),?_⟩;refine⟨_,rfl,v,d,rfl,h,_,rfl,?_⟩;cases h with
  |int i=>
   have q:Q (.aM (decide (lo<=i)&&decide (i<=ar))) H:=q;refine h3 ⟨_,rfl,_,rfl,_,_,rfl,rfl,_,rfl,?_⟩;by_cases af:lo<=i
   .rw[cu af,Vg]at q;exact fH (cu af) ⟨_,rfl,_,_,rfl,rfl,q⟩
   .rw[dJ af,aal]at q;exact ew (dJ af) q
  |_=>exact gx q
theorem abO{f:Addr}{fd:cF}(F:bB K "is_tuple_of" "is_tuple_of" wu f fd)(B:gp mg):aL P w K mg base a8 1 f fd ["thing","length"] TX:=by
 refine F.ok Wt (λvs H Q E h=>?_) (λcdv A outer s H vs Q E aq h=>?_)
 .obtain⟨v,d,n,rfl,_⟩:=h;rfl
 .obtain⟨v,d,n,rfl,h,q⟩:=h;refine⟨_,(br (c_ (jK (dE mf (by rfl) B.isinstance jD (ak (aa 0) (ak (lJ (by rfl) B.tuple y1) aI))) (m3 (i6 i9 (dE gP (by rfl) B.len gF (ak (aa 0) aI)) (aa 1) (dz _)))))),?_⟩;refine⟨_,rfl,_,_,_,_,_,rfl,⟨rfl,h.ty,FJ K (adz d)⟩,_,rfl,?_⟩;cases h with
  |@tup a xs ds aK z t=>
   refine h3 ⟨_,rfl,a,_,rfl,.inr (cN.of aK),_,rfl,rfl,?_⟩;show Q (.aM (decide (V.int (xs.length:Int)=V.int n))) H;rw[Jj,t.len];exact q
  |_=>exact gx q
theorem aaY{f:Addr}{fd:cF}(F:bB K "are_unlike_houses" "are_unlike_houses" t2 f fd):aL P w K mg base a8 1 f fd ["houses","one","other"] II:=by
 refine F.ok Vw (λvs H Q E h=>?_) (λcdv A outer s H vs Q E aq h=>?_)
 .obtain⟨a,hs,v,u,d,e,rfl,_⟩:=h;rfl
 .obtain⟨a,hs,v,u,d,e,rfl,aK,bz,b7,dd,Nq,q⟩:=h;refine⟨_,(br (c_ (jK (i6 (W0 (YN aq)) (aa 1) (aa 0) (by rfl)) (jK (i6 (W0 (YN aq)) (aa 2) (aa 0) (by rfl)) (m3 (i6 (zG aq.units) (aa 1) (aa 2) (dz _))))))),?_⟩;have nz:qj hs=true:=aK.nz;have dR:qn d=true:=v3 bz.nz dd (by decide);have dk:qn e=true:=v3 b7.nz Nq (by decide);have q:Q (.aM (inD d hs&&inD e hs&&!ht d e)) H:=q;refine⟨_,rfl,_,rfl,d,hs,bz.lF,aK.lF,dR,nz,_,rfl,?_⟩;show if inD d hs=true then _ else _
  cases af:inD d hs with
  |false=>
   rw[af]at q;exact gx q
  |true=>
   rw[af]at q;refine h3 ⟨_,rfl,_,rfl,e,hs,b7.lF,aK.lF,dk,nz,_,rfl,?_⟩;show if inD e hs=true then _ else _
   cases ai:inD e hs with
   |false=>
    rw[ai]at q;exact gx q
   |true=>
    rw[ai]at q;exact h3 ⟨_,rfl,_,rfl,d,e,bz.lF,b7.lF,dR,dk,q⟩
theorem aaZ{ys:b9}{x:Str}(h:x∉ys):qV (.str x) (ys.map V.str)=false:=by unfold qV;rw[xd];intro z;obtain⟨v,bz,e⟩:=qe.mp z;obtain⟨y,cS,rfl⟩:=b4.mp bz;have cm:(y==x)=true:=e;exact h (eq_of_beq cm▸cS)
theorem wd{α:Type}{l:List α}{i:Nat}{d x:α}(h:l[i]?=some x):l.getD i d=x:=by rw[eL,h];rfl
inductive afL(C R:Addr)(vs:aZ)(H:ae)(Q:ba)(E:b6):Prop where
 |mk (x bt bu:Addr) (hs:bc) (zs:aZ) (h:Str) (bV:vs=[.ref x,.str h]) (bA:jO C H x bt bu (cK hs) zs) (cn:(h∈hs.map S->Q .bq H)) (di:(h∉hs.map S->E (.ref R) none H))
noncomputable def Kp(C R:Addr):cM:=λvs H Q E=>afL C R vs H Q E
noncomputable abbrev Aj:Stmt:=gU (top 36) 7
theorem ahJ:dB ["self","house"] ["self","house"] (c7 Aj):=⟨rfl,rfl,rfl,by decide+kernel,rfl,by decide+kernel,by decide+kernel⟩
theorem afM{C R f:Addr}{fd:cF}{uJ fQ nM:String}{bm:cC}(F:bB K "need_house" "Net.need_house" Aj f fd)(f':sL K C)(RQ:xf uJ fQ nM bm)(yV:Exc K mg "NoHouse" R bm fQ):
  aL P w K mg base (ed P w) 1 f fd ["self","house"] (Kp C R):=by
 refine oR F ahJ (λvs H Q E h=>?_) (λcdv A outer s H vs Q E aq h=>?_)
 .obtain⟨x,bt,bu,hs,zs,h',rfl,_⟩:=h;rfl
 .obtain⟨x,bt,bu,hs,zs,h',rfl,n,q,iD⟩:=h;obtain⟨ah,av⟩:=n.ins;refine⟨_,(br (eY (eC ċ (aa 1) (e2 (aa 0) (by rfl)) (by rfl)) (br (IT RQ yV rfl (ak j2 aI))) fv)),?_⟩;have aj:aJ K H bt ((hs.map S).map V.str):=by rw[<-UP];exact aJ.of n.qR
  refine⟨_,rfl,_,rfl,x,C,ah,_,_,rfl,av,f'.cl,f'.t8,rfl,bt,_,rfl,.inl aj,rfl,SO _,_,rfl,?_⟩;by_cases hm:h'∈hs.map S
  .exact ew (by rw[UZ hm];rfl) (q hm)
  .exact fH (by rw[aaZ hm];rfl) ⟨by show 1<=sizeLine;decide,iD hm⟩
theorem abQ{α β:Type}(xs:List α)(q:Nat->Bool)(g:Nat->β):(xs.zipIdx.filter λz=>q z.2).map (λz=>g z.2)=((ek xs.length).filter q).map g:=by
 have e:xs.zipIdx.map (·.2)=ek xs.length:=by rw[List.zipIdx_map_snd,List.range_eq_range']
 rw[<-e,AZ,jA];rfl
noncomputable def fc:dx.gD:=⟨0,0,0,0⟩
noncomputable def zJ(hs:bc)(ds:bT)(sk:dx.gD->Nat)(h:Str):List Nat:=(ek ds.length).filter λi=>decide (V.str (S (hs.getD (sk (ds.getD i fc)) []))=V.str h)
noncomputable def iI(hs:bc)(ds:bT)(sk:dx.gD->Nat)(h:Str):List Int:=(zJ hs ds sk h).map λi:Nat=>(i:Int)
theorem ş(hs:bc)(ds:bT)(sk:dx.gD->Nat)(h:Str):(iI hs ds sk h).length<=ds.length:=by unfold iI zJ;rw[bp];exact eQ (jl _ _) (by rw[jz];exact cq _)
inductive ahK(C R:Addr)(sk:dx.gD->Nat)(vs:aZ)(H:ae)(Q:ba)(E:b6):Prop where
 |mk (x bt bu:Addr) (hs:bc) (rs:bS) (ds:bT) (h:Str) (bV:vs=[.ref x,.str h]) (bA:jO C H x bt bu (cK hs) (aC rs)) (cn:ix H hs rs ds) (di:rs.length<=40) (d8:(h∈hs.map S->∀(p:Addr)(H':ae),H p=none->aN H H'->H' p=some (.lst ((iI hs ds sk h).map V.int))->Q (.ref p) H')) (fI:(h∉hs.map S->E (.ref R) none H))
noncomputable def FD(C R:Addr)(sk:dx.gD->Nat):cM:=λvs H Q E=>ahK C R sk vs H Q E
noncomputable abbrev xV:Stmt:=gU (top 36) 4
theorem ain:dB ["self","house"] ["self","house"] (c7 xV):=⟨rfl,rfl,rfl,by decide+kernel,rfl,by decide+kernel,by decide+kernel⟩
theorem ahL{C R f fn:Addr}{fd ZK:cF}(F:bB K "out_of" "Net.out_of" xV f fd)(B:gp mg)(f':sL K C)(Ha:c6 K C "need_house" "Net.need_house" Aj ["self","house"] fn ZK)(P8:aL P w K mg base (ed P w) 1 fn ZK ["self","house"] (Kp C R)):
  aL P w K mg base (ed P w) 2 f fd ["self","house"] (FD C R (·.a)):=by
 have hH:=f'.cl;refine oR F ain (λvs H Q E h=>?_) (λcdv A outer s H vs Q E aq h=>?_)
 .obtain⟨x,bt,bu,hs,rs,ds,h',rfl,_⟩:=h;rfl
 .obtain⟨x,bt,bu,hs,rs,ds,h',rfl,n,cU,eh,q,iD⟩:=h;obtain⟨ah,av⟩:=n.ins;refine⟨_,(bh (gQ (g_ (aa 0) hH Ha.eo P8 (aq.mono (by decide)) Ha.bd .nil qY (ak (aa 1) aI)))
   (br (c_ (uB (N':=["number","road","house"]) (cs:=[none,none,some 1]) rfl (Jm rfl B.enumerate (ak (e2 (aa 0) (by rfl)) aI)) rfl (by decide+kernel) rfl (by decide+kernel) (lK (n'.mpr ⟨rfl,(λp aO=>bG aO (dX))⟩)) rfl
    (.own (.own (.md rfl (.inl rfl) (.inl rfl) rfl .nil)))
    (λC s3 a_ cp fg=>⟨(Eg (K:=K) (n:=2) rfl rfl (ia (et (i:=0) (by show(["number","road","house"]:b9).Nodup;decide+kernel) rfl (.inl rfl)) (ia (et (i:=1) (by show(["number","road","house"]:b9).Nodup;decide+kernel) rfl (.inl rfl)) pP))),(zf (eC i9 (cv (v' (K:=K) rfl) (aa 1) aW (λ_ _=>rfl)) (aa 2) (dz _))),(aa 0)⟩))))),?_⟩
  have aj:=eI rs;have yG:=cU.len;refine⟨_,rfl,x,ah,_,rfl,av,rfl,_,rfl,x,bt,bu,hs,_,h',rfl,n,λhm=>?_,iD⟩;refine⟨_,rfl,x,C,ah,_,_,rfl,av,f'.cl,f'.jt,rfl,bu,rfl,⟨_,aJ.of n.rg⟩,?_⟩;refine afy (rest:=[some (.str h')]) rfl (aJ.of n.rg) (eW (by omega)) (λi _=>decide (V.str (S (hs.getD (ds.getD i fc).a []))=V.str h')) (λi _=>.int i) (λi v ag R ev aH jN=>?_) (λi v ag R ev _ aH jN=>⟨_,rfl,jN ag (aN.refl _)⟩) (λD H' af ai bU=>q hm D H' af bU ?_)
  .unfold aC at ev;rw[c9]at ev;obtain⟨r,f3,rfl⟩:=fJ.mp ev;obtain⟨d,dY,ok,hd⟩:=cU.get f3;have cJ:ds.getD i fc=d:=wd dY;rw[cJ]at jN;exact⟨_,rfl,r,_,_,_,rfl,rfl,cN.of (aH _ _ hd),rfl,_,rfl,rfl,_,rfl,jN ag (aN.refl _)⟩
  .rw[ai,abQ (aC rs) (λi=>decide (V.str (S (hs.getD (ds.getD i fc).a []))=V.str h')) (λi=>V.int i),aj,yG];unfold iI;rw[jA];rfl
noncomputable abbrev er:=List (List a'×ao.V)
noncomputable def fm(h g:Str):List a':=[.inr h,.inr g]
noncomputable def oJ(n t:Addr):List (Str×ao.V):=[("net",.ref n),("told",.ref t)]
structure pQ(C az:Addr)(H:ae)(x n t bt bu:Addr)(xs ys:aZ)(kvs:er):Prop where
 ins:∃ah,H x=some (.ins C ah (oJ n t))
 hp:jO az H n bt bu xs ys
 told:H t=some (.c3 kvs)
theorem pQ.same{C az:Addr}{H H':ae}{x n t bt bu:Addr}{xs ys:aZ}{kvs:er}(W:pQ C az H x n t bt bu xs ys kvs)(aH:aN H H'):pQ C az H' x n t bt bu xs ys kvs:=
 let⟨ah,h⟩:=W.ins
 ⟨⟨ah,aH _ _ h⟩,W.hp.same aH,aH _ _ W.told⟩
end
structure rb(K:aV)(C:Addr):Prop where
 cl:fB K C
 nn:b5 K (.ref C) "net"=some none
 cQ:b5 K (.ref C) "told"=some none
inductive aio(C:Addr)(vs:aZ)(H:ae)(Q:ba)(bN:b6):Prop where
 |mk (x ah:Addr) (v:ao.V) (bV:vs=[.ref x,v]) (bA:H x=some (.ins C ah [])) (cn:∀t,H t=none->Q .bq (upd (upd H t (.c3 [])) x (.ins C ah [("net",v),("told",.ref t)])))
noncomputable def LV(C:Addr):cM:=λvs H Q bN=>aio C vs H Q bN
inductive aip(C az cT:Addr)(vs:aZ)(H:ae)(Q:ba)(E:b6):Prop where
 |mk (x n t bt bu:Addr) (hs:bc) (ys:aZ) (kvs:er) (v u:ao.V) (d e:PyData) (bV:vs=[.ref x,v,u]) (bA:pQ C az H x n t bt bu (cK hs) ys kvs) (cn:Good hs) (di:dw H v d) (d8:dw H u e) (fI:d.depth<=60) (iM:e.depth<=60) (lx:(hy (bR hs) d e=true->∀H',aN H H'->Q .bq H')) (nh:(hy (bR hs) d e=false->∀H',aN H H'->E (.ref cT) none H'))
noncomputable def A9(C az cT:Addr):cM:=λvs H Q E=>aip C az cT vs H Q E
inductive aiq(C az cT dy:Addr)(vs:aZ)(H:ae)(Q:ba)(E:b6):Prop where
 |mk (x n t bt bu:Addr) (hs:bc) (rs:bS) (ds:bT) (kvs:er) (h g:Str) (i:Int) (bV:vs=[.ref x,.str h,.str g,.int i]) (bA:pQ C az H x n t bt bu (cK hs) (aC rs) kvs) (cn:Good hs) (di:ix H hs rs ds) (d8:rs.length<=40) (fI:dw H (.str h) (.str h)) (iM:dw H (.str g) (.str g)) (lx:kvs.length<sizeLine) (nh:(hy (bR hs) (.str h) (.str g)=true->i∈iI hs ds (·.a) h->∀H',aN H H'->Q .bq (upd H' t (.c3 (d7 kvs (fm h g) (.int i)))))) (rz:(hy (bR hs) (.str h) (.str g)=false->∀H',aN H H'->E (.ref cT) none H')) (xb:(hy (bR hs) (.str h) (.str g)=true->i∉iI hs ds (·.a) h->∀H',aN H H'->E (.ref dy) none H'))
noncomputable def Gg(C az cT dy:Addr):cM:=λvs H Q E=>aiq C az cT dy vs H Q E
theorem abT(ys:g8):(ys.map V.int).all q'=true:=by rw[FW];intro x av;obtain⟨y,_,rfl⟩:=b4.mp av;rfl
theorem afN{ys:g8}{x:Int}(h:x∈ys):qV (.int x) (ys.map V.int)=true:=by unfold qV;rw[qe];exact⟨.int x,b4.mpr ⟨x,h,rfl⟩,by show(x==x)=true;exact beq_self_eq_true x⟩
theorem aa0{ys:g8}{x:Int}(h:x∉ys):qV (.int x) (ys.map V.int)=false:=by unfold qV;rw[xd];intro z;obtain⟨v,bz,e⟩:=qe.mp z;obtain⟨y,cS,rfl⟩:=b4.mp bz;have cm:(y==x)=true:=e;exact h (eq_of_beq cm▸cS)
theorem ń{hs:bc}{h g:Str}(c:hy (bR hs) (.str h) (.str g)=true):h∈hs.map S/\g∈hs.map S:=by unfold hy at c;simp only[jx]at c;exact⟨aaB λn=>by rw[JM n]at c;exact fp c.1.1,aaB λn=>by rw[JM n]at c;exact fp c.1.2⟩
section
variable{P:bO}{w:bx}{K:aV}{mg:cI}{base:Heap}
noncomputable abbrev EJ:Stmt:=gU (top 38) 0
theorem ajF:dB ["self","net"] ["self","net"] (c7 EJ):=⟨rfl,rfl,rfl,by decide+kernel,rfl,by decide+kernel,by decide+kernel⟩
theorem aib{C f:Addr}{fd:cF}(F:bB K "__init__" "Ways.__init__" EJ f fd)(dj:rb K C):aL P w K mg base a8 1 f fd ["self","net"] (LV C):=by
 refine F.ok ajF (λvs H Q E h=>?_) (λcdv A outer s H vs Q E aq h=>?_)
 .obtain⟨x,ah,v,rfl,_⟩:=h;rfl
 .obtain⟨x,ah,v,rfl,av,q⟩:=h;refine⟨_,(bh (lI (aa 0) (aa 1) rfl)
   (br (lI (aa 0) ac7 rfl))),?_⟩
  refine⟨_,rfl,_,rfl,x,C,ah,_,rfl,av,dj.cl,dj.nn,(by show 0<1000;decide),?_⟩;intro t cQ;have za:t≠x:=λe=>by rw[e,aP]at cQ;cases cQ
  rw[aA za]at cQ;refine⟨_,rfl,x,C,ah,_,rfl,(by rw[aA (cR za)];exact aP),dj.cl,dj.cQ,(by show 1<1000;decide),?_⟩;have aB:upd (upd (upd H x (.ins C ah [("net",v)])) t (.c3 [])) x (.ins C ah [("net",v),("told",.ref t)])=upd (upd H t (.c3 [])) x (.ins C ah [("net",v),("told",.ref t)]):=by
   funext b;by_cases U:b=x
   .rw[U,aP,aP]
   .rw[aA U,aA U];by_cases ay:b=t
    .rw[ay,aP,aP]
    .rw[aA ay,aA ay,aA U]
  show Q .bq (upd (upd (upd H x (.ins C ah [("net",v)])) t (.c3 [])) x (.ins C ah [("net",v),("told",.ref t)]));rw[aB];exact q t cQ
noncomputable abbrev wG:Stmt:=gU (top 38) 6
theorem ajG:dB ["self","house","goal"] ["self","house","goal"] (c7 wG):=⟨rfl,rfl,rfl,by decide+kernel,rfl,by decide+kernel,by decide+kernel⟩
theorem aic{C az cT f f1 f2:Addr}{fd c4 ec:cF}{uJ fQ nM:String}{bm:cC}(F:bB K "need_pair" "Ways.need_pair" wG f fd)(dj:rb K C)(hH:fB K az)(RQ:xf uJ fQ nM bm)(yV:Exc K mg "NoHouse" cT bm fQ)(mS:c6 K az "houses" "Net.houses" vY ["self"] f1 c4)(qv:aL P w K mg base a8 1 f1 c4 ["self"] (DI az))(ma:dO K mg "are_unlike_houses" t2 ["houses","one","other"] f2 ec)(vp:aL P w K mg base a8 1 f2 ec ["houses","one","other"] II):
  aL P w K mg base (ed P w) 2 f fd ["self","house","goal"] (A9 C az cT):=by
 refine oR F ajG (λvs H Q E h=>?_) (λcdv A outer s H vs Q E aq h=>?_)
 .obtain⟨x,n,t,bt,bu,hs,ys,kvs,v,u,d,e,rfl,_⟩:=h;rfl
 .obtain⟨x,n,t,bt,bu,hs,ys,kvs,v,u,d,e,rfl,W,G,bz,b7,dd,Nq,q,iD⟩:=h;obtain⟨ah,av⟩:=W.ins;refine⟨_,(br (eY (i7 (iR (fw vp (aq.mono (by decide)) (by rfl) ma.at_ ma.fn.bI ma.bd .nil dt (ak (mV (e2 (aa 0) (by rfl)) hH mS.eo qv (aq.mono (by decide)) mS.bd .nil dt) (ak (aa 1) (ak (aa 2) aI)))))) (br (IT RQ yV rfl (ak j2 aI))) fv)),?_⟩;obtain⟨iS,aT⟩:=W.hp.ins;refine⟨_,rfl,x,C,ah,_,_,rfl,av,dj.cl,dj.nn,rfl,n,iS,_,rfl,aT,rfl,n,bt,bu,_,_,rfl,W.hp,λl nl=>?_⟩;have bo:=bW (o:=.lst (cK hs)) nl;refine⟨_,rfl,_,rfl,l,bR hs,v,u,d,e,rfl,Yq G aP,bz.same bo,b7.same bo,dd,Nq,_,rfl,?_⟩;cases ay:hy (bR hs) d e with
  |true=>exact q ay _ bo
  |false=>exact⟨by show 1<=sizeLine;decide,iD ay _ bo⟩
noncomputable abbrev zt:Stmt:=gU (top 38) 1
theorem ajH:dB ["self","house","goal","road"] ["self","house","goal","road"] (c7 zt):=⟨rfl,rfl,rfl,by decide+kernel,rfl,by decide+kernel,by decide+kernel⟩
theorem aid{C az cT dy f f1 f2:Addr}{fd c4 ec:cF}{uJ fQ nM:String}{bm:cC}(F:bB K "set_way" "Ways.set_way" zt f fd)(dj:rb K C)(hH:fB K az)(SW:xf uJ fQ nM bm)(yS:Exc K mg "NoRoad" dy bm fQ)(tr:c6 K az "out_of" "Net.out_of" xV ["self","house"] f1 c4)(yC:aL P w K mg base (ed P w) 2 f1 c4 ["self","house"] (FD az cT (·.a)))(oj:c6 K C "need_pair" "Ways.need_pair" wG ["self","house","goal"] f2 ec)(rQ:aL P w K mg base (ed P w) 2 f2 ec ["self","house","goal"] (A9 C az cT)):
  aL P w K mg base (ed P w) 3 f fd ["self","house","goal","road"] (Gg C az cT dy):=by
 have jZ:=dj.cl;refine oR F ajH (λvs H Q E h=>?_) (λcdv A outer s H vs Q E aq h=>?_)
 .obtain⟨x,n,t,bt,bu,hs,rs,ds,kvs,h',g',i,rfl,_⟩:=h;rfl
 .obtain⟨x,n,t,bt,bu,hs,rs,ds,kvs,h',g',i,rfl,W,G,cU,eh,bz,b7,G0,q,iD,aqI⟩:=h;obtain⟨ah,av⟩:=W.ins;obtain⟨iS,aT⟩:=W.hp.ins;refine⟨_,(bh (gQ (g_ (aa 0) jZ oj.eo rQ (aq.mono (by decide)) oj.bd .nil qY (ak (aa 1) (ak (aa 2) aI))))
   (bh (eY (eC ċ (aa 3) (g_ (e2 (aa 0) (by rfl)) hH tr.eo yC (aq.mono (by decide)) tr.bd .nil qY (ak (aa 1) aI)) (by rfl)) (br (IT SW yS rfl (ak j2 aI))) fv)
   (br (zi (iV aq) (e2 (aa 0) (by rfl)) (i8 (ak (aa 1) (ak (aa 2) aI))) (aa 3) rfl)))),?_⟩
  refine⟨_,rfl,x,ah,_,rfl,av,rfl,_,rfl,_,rfl,x,n,t,bt,bu,hs,_,kvs,.str h',.str g',.str h',.str g',rfl,W,G,bz,b7,(by show 0<=60;decide),(by show 0<=60;decide),λay H1 s1=>?_,iD⟩;have hm:=ń ay;refine⟨_,rfl,_,rfl,x,C,ah,_,_,rfl,s1 _ _ av,dj.cl,dj.nn,rfl,n,iS,_,rfl,s1 _ _ aT,rfl,_,rfl,n,bt,bu,hs,rs,ds,h',rfl,W.hp.same s1,cU.same s1,eh,λ_ p ag np s2 aO=>?_,λvU=>bG hm.1 vU⟩;have gA:=s1.trans s2;refine⟨p,_,rfl,.inl (aJ.of aO),rfl,abT _,_,rfl,?_⟩;by_cases ar:i∈iI hs ds (·.a) h'
  .refine ew (by rw[afN ar];rfl) ?_;refine⟨_,rfl,_,rfl,x,C,ah,_,_,rfl,gA _ _ av,dj.cl,dj.cQ,rfl,_,rfl,_,rfl,(by show 2<=sizeLine;decide),λr jt=>?_⟩;have s3:=bW (o:=.tup [V.str h',V.str g']) jt;exact⟨t,_,rfl,o3.t (k:=fm h' g') ((gA.trans s3) _ _ W.told) aP G0,q ay ar _ (gA.trans s3)⟩
  .refine fH (by rw[aa0 ar];rfl) ⟨by show 1<=sizeLine;decide,aqI ay ar _ gA⟩
noncomputable def iy(kvs:er)(h g:Str):Option Nat:=match b1 kvs (fm h g)with|some (.int k)=>some k.toNat|_=>none
structure pE(kvs:er)(m:Nat):Prop where
 val:∀k v,b1 kvs k=some v->∃i:Nat,v=.int (i:Int)/\i<m
theorem pE.get{kvs:er}{m:Nat}(t:pE kvs m)(h g:Str):(b1 kvs (fm h g)=none/\iy kvs h g=none)\/∃i:Nat,b1 kvs (fm h g)=some (.int (i:Int))/\iy kvs h g=some i/\i<m:=by
 cases e:b1 kvs (fm h g)with
 |none=>exact .inl ⟨rfl,by unfold iy;rw[e]⟩
 |some v=>
  obtain⟨i,rfl,ar⟩:=t.val _ _ e;exact .inr ⟨i,rfl,by unfold iy;rw[e];simp,ar⟩
theorem IJ{α:Type}[DecidableEq α]:∀{sn L:List α},sn.Nodup->(∀y∈sn,y∈L)->sn.length<=L.length
 |[],_,_,_=>e_ _
 |x::r,L,aG,h=>by have av:=h x (.head _);have a6:=IJ (sn:=r) (L:=L.erase x) (iP.mp aG).2 (λy cS=>(List.mem_erase_of_ne (show y≠x fromλe=>(iP.mp aG).1 (by rw[<-e];exact cS))).mpr (h y (.tail _ cS)));rw[List.length_erase_of_mem av]at a6;have:=List.length_pos_of_mem av;rw[l6];omega
theorem Ņ{α:Type}{l:List α}{x:α}(aG:l.Nodup)(h:x∉l):(l++[x]).Nodup:=by rw[x7];exact⟨aG,iP.mpr ⟨dX,sZ⟩,λa aK b U e=>h (by rw[<-hr.mp U,<-e];exact aK)⟩
end
end dW
namespace ct
open PySem PySem.Spec PyProof.Rows ao
noncomputable def Kq(K:aV)(C R:Addr):Prop:=∃dd cd bo,K.lookup C=some ⟨.type "type",dd,.cls cd,bo⟩/\cd.mro.contains (.ref R)=false
theorem adG{M:lA}{A:c0}{E:cD}{K:aV}{C R au:Addr}{s:aF}{oQ:Obj}{Q:Bool->aF->Prop}(X:K.In s.heap)(ay:jL K C C=true)(aT:Kq K C R)(aq:jL K R R=true)(he:s.heap.get? au=some oQ)(CW:oQ.cls=.ref C)(aU:Q false s):aQ M A (NK (.ref au) (.ref R)) Q E s:=by
 obtain⟨nm,oU,N,bs,bm,hdct,sn,sub,ab,col,dd,k0,k1,k2,k3,k5,fQ,en,U,_⟩:=H8 X ay;obtain⟨ó,ć,N',Za,BF,anU,ĝ,Ģ,Y4,Zj,jI,ao3,ao4,ao5,ao6,ao7,apQ,cU,de,anG⟩:=H8 X aq;obtain⟨me,cd,bo,lk,vU⟩:=aT;have N3:(cE C::bm).contains (.ref R)=false:=by have e:=X _ _ lk;rw[en]at e;have aD:=hF e;have cH:=ha Obj.data aD;have e3:Data.cls _=Data.cls cd:=cH;cases e3;exact vU
 have CT:(cE R::BF).contains (.type "BaseException")=true:=by rw[W4,de,Vf]
 have f:=tc_notTuple;obtain⟨aO,g,d,t,os⟩:=s;unfold NK
 repeat (first|(with_reducible refine jj he ?_;rw[CW])|with_reducible refine jj cU ?_|(with_reducible refine Fc cU ?_;rw[CT])|(with_reducible refine Fc en ?_;rw[N3])|wp_step)
 exact aU
noncomputable def Yu(K:aV)(dc:nv)(i:Nat)(u_ hu:Addr)(t1 eP:e8):e8:=λD σ H=>dc D (λa4 cls _ H'=>∃C,cls=.ref C/\jL K C C=true/\
 ((jL K C u_=true/\∀au,H' au=none->t1 {cj:=λeB ag=>D.cj (eB.set i none) ag,my:=D.my,gv:=λeB ag=>D.gv (eB.set i none) ag,e':=λeB ag=>D.e' (eB.set i none) ag} (a4.set i (some (.ref au))) (upd H' au (kC au C)))\/
 (Kq K C u_/\jL K C hu=true/\∀au,H' au=none->eP {cj:=λeB ag=>D.cj (eB.set i none) ag,my:=D.my,gv:=λeB ag=>D.gv (eB.set i none) ag,e':=λeB ag=>D.e' (eB.set i none) ag} (a4.set i (some (.ref au))) (upd H' au (kC au C))))) σ H
theorem afO{X:bg}{body:List Stmt}{fD fL:Stmt}{Ĥ ĥ:List Stmt}{e0 h5 n:Str}{Io Ip aox aoy pos:Pos}{dc:nv}{t1 eP:e8}{i:Nat}{u_ hu:Addr}(r7:X.stack=X.env::X.outer)(OF:X.env.frame=some X.env.locals)(U:Ge X body dc)(eJ:X.N.Nodup)(ar:X.N[i]?=some n)(aj:X.env.scope.names.lookup n=some .local)(Ζ:i3 X e0)(Τ:X.mg e0=some (.ref u_))(γ:jL X.K u_ u_=true)(lM:∀au,f_ (nJ X au) (fD::Ĥ) t1)(OG:i3 X h5)(Υ:X.mg h5=some (.ref hu))(jN:jL X.K hu hu=true)(k4:∀au,f_ (nJ X au) (fL::ĥ) eP)(tL:(e0==("__debug__":Str))=false:=by decide)(hd2:(h5==("__debug__":Str))=false:=by decide):
  fW X (.Try body [.ExceptHandler (some (.Name e0 Io)) (some n) (fD::Ĥ) aox,.ExceptHandler (some (.Name h5 Ip)) (some n) (fL::ĥ) aoy] [] [] pos) (Yu X.K dc i u_ hu t1 eP):=by
 intro pins s σ H D I h;refine ar1 (gn (U pins s σ H D _ I h) (λf s1 q=>?_) λe s1 q=>?_)
 .cases f with
  |next=>exact sH q
  |ret v=>exact q
  |brk=>exact q
  |cont=>exact q
 .obtain⟨n6,b2,sc,au,cls,a0,H',B,rfl,AS,T,C,rfl,j7⟩:=q;have vQ:X.A.frames=some (X.env::X.outer):=by rw[<-r7];exact I.ok.frames
  have CC:=T.fl;rw[r7]at CC;refine ar7 vQ OF CC λcX OA rq=>?_;refine wpAny_landsW OA λd3 vD Tf=>?_;have CD:=vD;rw[<-r7]at CD;have pD:=T.move CD (rq.trans Tf);have jy:Inv X pins n6 H' {s1 with heap:=d3}:=AS.BH (s':={s1 with heap:=d3}) (ch:=[]) pD.os pD.un pD.bb pD.bare (λb z=>bG z (by simp));obtain⟨ob,qQ,Hz⟩:=vD.there;have hit:∀{x:Str}{np yN:Pos}{kN:Stmt}{oY:List Stmt}{rest:List ExceptHandler}{ts:e8}{R:Addr},i3 X x->X.mg x=some (.ref R)->jL X.K R R=true->(∀au,f_ (nJ X au) (kN::oY) ts)->(x==("__debug__":Str))=false->jL X.K C R=true->
    (∀au,H' au=none->ts {cj:=λeB ag=>D.cj (eB.set i none) ag,my:=D.my,gv:=λeB ag=>D.gv (eB.set i none) ag,e':=λeB ag=>D.e' (eB.set i none) ag} (n6.set i (some (.ref au))) (upd H' au (kC au C)))->
    aQ (a9 X.prog X.w) X.A (handleBy (.ref au) X.env (.ExceptHandler (some (.Name x np)) (some n) (kN::oY) yN::rest)) (pC X pins D) X.d0 {s1 with heap:=d3}:=λ{x np yN kN oY rest ts R}bP hm cU O8 kX ky k=>by
   refine Ō (Zi (r_ (X:=nJ X au) (ct.Inv.oY jy au) bP hm ?_ kX)) (by intro q;cases q);refine V8 jy.eD ky cU qQ Hz ?_;refine alK (lands_againW vD λku CE Tg=>?_);have CF:=CE;rw[<-r7]at CF;have jm:=pD.move CF Tg;obtain⟨ü,Χ,aoo⟩:=CE.there;have old:∀b o,sc.heap.get? b=some o->b≠au:=λb o e=>T.ô e;have gZ:=T.new;have rI:Inv X pins n6 (upd H' au (kC au C)) {s1 with heap:=ku}:=by
    refine AS.BH (s':={s1 with heap:=ku}) (ch:=[]) jm.os ⟨jm.un.keep,jm.un.slot,λb o e lQ av=>by rw[aA (old b o e)];exact jm.un.free b o e lQ av,jm.un.there,λb xs e=>?_,λb o u e=>?_,λb ps e=>?_⟩ ?_ jm.bare (λb z=>bG z (by simp))
    .have:=jm.un.hM b xs e;rw[aA (bZ this gZ)];exact this
    .have:=jm.un.iT b o u e;rw[aA (bZ this gZ)];exact this
    .obtain⟨m,this⟩:=jm.un.ji b ps e;exact⟨m,by rw[aA (bZ this gZ)];exact this⟩
    .intro b u e;by_cases de:b=au
     .subst de;rw[aP]at e;cases e;exact⟨⟨ü,Χ,aoo⟩,⟨ü,Χ⟩,λaf ai⟨o,aB,aD⟩bY=>⟨o,bY o aB,aD⟩⟩
     .rw[aA de]at e;exact(jm.bb b u e).nd (λc v _ q=>q) (λc q=>by rw[aA (bZ q gZ)];exact q) λc xs q=>by rw[aA (bZ q gZ)];exact q
   refine IM (X:=nJ X au) (ct.Inv.oY rI au) eJ ar (.inl aj) (v:=.ref au) rfl (λgm kk=>?_) (.inr aj);have aO:(X.env.scope.kind==.class||(X.env.scope.kind==.module&&X.env.locals !=X.env.globals))=false:=by rw[I.ok.kind];rfl
   have gone:∀{jk:St}{dD:ae}{fh:aF}{mP:aF->Prop},Inv (nJ X au) pins jk dD fh->(∀jv,Inv X pins (jk.set i none) dD jv->mP jv)->
     aQ (a9 X.prog X.w) X.A (do bindName X.env n .none;arS X.env n yN) (λ_ jv=>mP jv) X.d0 fh:=λ{jk dD fh mP}h7 aU=>by
    have AR:Inv X pins jk dD fh:=Inv.ĺ I.ok.hd h7;obtain⟨m,aT,_⟩:=id AR.loc;refine asa aj aT aO λoz v C1 Sl=>aU _ (Inv.forget AR eJ ar Sl λcV yL=>?_);have em:cV=m:=by obtain⟨o,es,ep,aB,aD,_,cH⟩:=aT;obtain⟨cL,lG,nD,pJ,BN,_,Nu⟩:=yL;rw[aB]at pJ;cases pJ;rw[aD]at BN;cases BN;funext y;rw[<-cH y,<-Nu y]
    subst em;exact⟨v,C1⟩
   refine gn (O8 au pins gm _ _ _ kk (k au gZ)) (λNP fh m8=>?_) λ_ _ z=>hP z;cases NP with
   |next=>obtain⟨jk,dD,h7,q⟩:=m8;exact gone h7 λjv kJ=>⟨_,dD,kJ,q⟩
   |brk=>obtain⟨jk,dD,h7,q⟩:=m8;exact gone h7 λjv kJ=>⟨_,dD,kJ,q⟩
   |cont=>obtain⟨jk,dD,h7,q⟩:=m8;exact gone h7 λjv kJ=>⟨_,dD,kJ,q⟩
   |ret u=>obtain⟨iK,jk,dD,h7,Ec,q⟩:=m8;exact gone h7 λjv kJ=>⟨iK,_,dD,kJ,Ec,q⟩
  obtain⟨aoE,⟨ky,k⟩|⟨vU,ky,k⟩⟩:=j7
  .exact hit Ζ Τ γ lM tL ky k
  .refine Ō (Zi (r_ (X:=nJ X au) (ct.Inv.oY jy au) Ζ Τ ?_ tL)) (by intro q;cases q);refine adG jy.eD aoE vU γ qQ Hz ?_;exact hit OG Υ jN k4 hd2 ky k
end ct
namespace dW
open PySem ao ct dx
theorem abU{K:aV}{dh:TI}{cs:lD}{b3:TE}{σ rest:ao.St}{H H1:ae}{Q:ba}{a:Addr}{o:Obj}{kvs:List (List a'×ao.V)}(hw:∀R:f9->ae->Prop,R (KO a o kvs) H1->dh σ H R)(ij:il cs σ=none::none::rest)(aK:H1 a=some (.eO o (.c3 kvs)))(aj:kvs.length<sizeLine)(f:Nat->List ao.V)(elt:∀(i:Nat)(k:List a')(x:ao.V)(b:Addr)(ag:ae)(R:ba),kvs[i]?=some (k,x)->aN H1 ag->ag b=some (.tup (k.map dn))->(∀r bw,aN ag bw->bw r=some (.tup (f i))->R (.ref r) bw)->b3 (some (.ref b)::some x::rest) ag R)(fin:∀(D:Addr)(H':ae)(rs:bS),H1 D=none->H' D=some (.lst (aC rs))->d_ H' rs ((ek kvs.length).map f)->aN H1 H'->Q (.ref D) H'):
  n1 dh cs (xW K 2 (q9 (hX 0) (q9 (hX 1) AX))) sN b3 σ H Q:=by
 refine hw _ λD bR=>?_;refine⟨λi m ys a4 H'=>m=kvs.length-i/\i<=kvs.length/\(∃rs,ys=aC rs/\d_ H' rs ((ek i).map f))/\(∃hB lh,a4=hB::lh::rest)/\aN H1 H'/\H' D=some (.lst ys),⟨kvs.length,by simp,e_ _,⟨[],rfl,.nil⟩,⟨none,none,ij⟩,λb o e=>?_,aP⟩,?_⟩
 .rw[aA (bZ e bR)];exact e
 .rintro i m ys a4 H' ⟨rfl,ar,⟨rs,rfl,dg⟩,⟨hB,lh,rfl⟩,aH,fe⟩;have ln:=dg.len;rw[bp,jz]at ln;refine⟨fe,od (by rw[eI];omega) aj,?_⟩;by_cases cP:i<kvs.length
  .refine .inr ⟨⟨aH _ _ aK,cP⟩,λx ag y=>?_⟩;obtain⟨p,b,k,rt,aO,rfl,vy,U,rfl⟩:=y;have s2:=bW (o:=.tup [V.ref b,rt]) aO;refine⟨p,_,rfl,cN.of aP,rfl,_,_,rfl,_,_,rfl,rfl,?_⟩;refine elt i k rt b _ _ vy (aH.trans s2) (s2 _ _ U) λr bw s5 aq=>⟨s5 _ _ (s2 _ _ fe),kvs.length-(i+1),by omega,rfl,cP,⟨rs++[r],rX rs r,?_⟩,⟨_,_,rfl⟩,λc ob e=>?_,aP⟩
   .rw[s7,eU];exact d_.upd (Paired.snoc (F:=λr d=>bw r=some (.tup d)) aq ((dg.same s2).same s5)) (s5 _ _ (s2 _ _ fe)) (by intro d z;cases z)
   .rw[aA (bZ e bR)];exact s5 _ _ (s2 _ _ (aH _ _ e))
  .have e:i=kvs.length:=by omega
   subst e;exact .inl ⟨⟨aH _ _ aK,cq _⟩,fin D H' rs bR fe dg aH⟩
noncomputable abbrev Row:=Str×Str×Int
noncomputable def sS(r:Row):List a':=[.inr r.1,.inr r.2.1,.inl r.2.2]
noncomputable def lS(r:Row):List ao.V:=[.str r.1,.str r.2.1,.int r.2.2]
noncomputable def fk(rs:List Row):List (List a'×ao.V):=rs.map λr=>([.inr r.1,.inr r.2.1],.int r.2.2)
noncomputable def K8(rs:List Row):List Nat:=pZ (mq (rs.map sS)) rs.length
noncomputable def r0:Row:=(mQ,mQ,0)
noncomputable def Ak(rs:List Row):List Row:=(K8 rs).map λi=>rs.getD i r0
theorem row_shape(rs:List Row):∀d∈rs.map sS,kB d=false::[false,true]:=λd hd=>by obtain⟨r,_,rfl⟩:=b4.mp hd;rfl
theorem abV{H:ae}{ts:bS}{rs:List Row}(h:d_ H ts (rs.map lS)):bf (λr d=>H r=some (.tup (d.map dn))) ts (rs.map sS):=by
 have:∀{ts:bS}{rs:List Row},d_ H ts (rs.map lS)->bf (λr d=>H r=some (.tup (d.map dn))) ts (rs.map sS):=λ{ts rs}=>by
  induction rs generalizing ts with
  |nil=>intro h;cases h;exact .nil
  |cons r q a6=>intro h;cases h with|cons a t=>exact .cons a (a6 t)
 exact this h
inductive aie(C az cT:Addr)(vs:aZ)(H:ae)(Q:ba)(E:b6):Prop where
 |mk (x n t bt bu:Addr) (hs:bc) (ys:aZ) (kvs:er) (h g:Str) (bV:vs=[.ref x,.str h,.str g]) (bA:pQ C az H x n t bt bu (cK hs) ys kvs) (cn:Good hs) (di:dw H (.str h) (.str h)) (d8:dw H (.str g) (.str g)) (fI:(hy (bR hs) (.str h) (.str g)=true->∀H',aN H H'->Q ((b1 kvs (fm h g)).getD .bq) H')) (iM:(hy (bR hs) (.str h) (.str g)=false->∀H',aN H H'->E (.ref cT) none H'))
noncomputable def LW(C az cT:Addr):cM:=λvs H Q E=>aie C az cT vs H Q E
section
variable{P:bO}{w:bx}{K:aV}{mg:cI}{base:Heap}
noncomputable abbrev EK:Stmt:=gU (top 38) 3
theorem ajI:dB ["self","house","goal"] ["self","house","goal"] (c7 EK):=⟨rfl,rfl,rfl,by decide+kernel,rfl,by decide+kernel,by decide+kernel⟩
theorem aif{C az cT f f2:Addr}{fd ec:cF}(F:bB K "way" "Ways.way" EK f fd)(dj:rb K C)(oj:c6 K C "need_pair" "Ways.need_pair" wG ["self","house","goal"] f2 ec)(rQ:aL P w K mg base (ed P w) 2 f2 ec ["self","house","goal"] (A9 C az cT)):
  aL P w K mg base (ed P w) 3 f fd ["self","house","goal"] (LW C az cT):=by
 have jZ:=dj.cl;refine oR F ajI (λvs H Q E h=>?_) (λcdv A outer s H vs Q E aq h=>?_)
 .obtain⟨x,n,t,bt,bu,hs,ys,kvs,h',g',rfl,_⟩:=h;rfl
 .obtain⟨x,n,t,bt,bu,hs,ys,kvs,h',g',rfl,W,G,bz,b7,q,iD⟩:=h;obtain⟨ah,av⟩:=W.ins;refine⟨_,(bh (gQ (g_ (aa 0) jZ oj.eo rQ (aq.mono (by decide)) oj.bd .nil qY (ak (aa 1) (ak (aa 2) aI))))
   (br (c_ (TJ (iV aq) (e2 (aa 0) (by rfl)) (i8 (ak (aa 1) (ak (aa 2) aI))) ⟨rfl,rfl,rfl,rfl⟩)))),?_⟩
  refine⟨_,rfl,x,ah,_,rfl,av,rfl,_,rfl,_,rfl,x,n,t,bt,bu,hs,_,kvs,.str h',.str g',.str h',.str g',rfl,W,G,bz,b7,(by show 0<=60;decide),(by show 0<=60;decide),λay H1 s1=>?_,iD⟩;refine⟨_,rfl,x,C,ah,_,_,rfl,s1 _ _ av,dj.cl,dj.cQ,rfl,t,rfl,.inr ⟨_,.inl (s1 _ _ W.told)⟩,_,rfl,_,rfl,(by show 2<=sizeLine;decide),λr jt=>?_⟩;have s3:=bW (o:=.tup [V.str h',V.str g']) jt;exact⟨_,iY.t (k:=fm h' g') (s3 _ _ (s1 _ _ W.told)) aP,q ay _ (s1.trans s3)⟩
end
end dW
namespace d5
variable{κ:Type}[DecidableEq κ]
structure h6(κ:Type)where
 a:κ
 b:κ
 t:Int
inductive Path(rs:List (h6 κ))(s:κ):κ->Int->Prop
 |nil:Path rs s s 0
 |snoc {v:Int} (e:h6 κ):Path rs s e.a v->e∈rs->Path rs s e.b (v+e.t)
theorem Path.cons{rs:List (h6 κ)}(e:h6 κ)(he:e∈rs){g:κ}{w:Int}(p:Path rs e.b g w):Path rs e.a g (e.t+w):=by
 induction p with
 |nil=>
  have:=Path.snoc e (Path.nil (rs:=rs) (s:=e.a)) he
  rwa [qc,<-Int.add_zero e.t]at this
 |snoc f _ hf a6=>
  rw[<-WJ];exact Path.snoc f a6 hf
theorem Path.first{rs:List (h6 κ)}{s g:κ}{w:Int}(p:Path rs s g w):(s=g/\w=0)\/∃e∈rs,∃u,e.a=s/\Path rs e.b g u/\w=e.t+u:=by
 induction p with
 |nil=>exact .inl ⟨rfl,rfl⟩
 |@snoc v f _ hf a6=>
  refine .inr ?_;rcases a6 with⟨rfl,rfl⟩|⟨e,he,u,aB,p,rfl⟩
  .exact⟨f,hf,0,rfl,.nil,by omega⟩
  .exact⟨e,he,u+f.t,aB,.snoc f p hf,by omega⟩
theorem Path.nonneg{rs:List (h6 κ)}(aO:∀e∈rs,1<=e.t){s g:κ}{w:Int}(p:Path rs s g w):0<=w:=by
 induction p with
 |nil=>exact sU _
 |snoc e _ he a6=>have:=aO e he;omega
structure KW(rs:List (h6 κ))(s:κ)(d:κ->Option Int):Prop where
 path:∀k v,d k=some v->Path rs s k v
 least:∀k w,Path rs s k w->∃v,d k=some v/\v<=w
structure n_(rs:List (h6 κ))(s:κ)(ns:List κ)(d:κ->Option Int):Prop where
 start:d s=some 0
 path:∀k v,d k=some v->Path rs s k v
 eh:∀k v,d k=some v->v<9*(ns.countP λk=>(d k).isSome)
noncomputable def ok(d:κ->Option Int)(e:h6 κ):Prop:=∀v,d e.a=some v->∃u,d e.b=some u/\u<=v+e.t
theorem n_.done{rs:List (h6 κ)}{s:κ}{ns:List κ}{d:κ->Option Int}(m:n_ rs s ns d)(h:∀e∈rs,ok d e):KW rs s d:=by
 refine⟨m.path,λk w p=>?_⟩
 induction p with
 |nil=>exact⟨0,m.start,sU _⟩
 |snoc e _ he a6=>
  obtain⟨v,af,ai⟩:=a6;obtain⟨u,bU,cX⟩:=h e he v af;exact⟨u,bU,by omega⟩
noncomputable def put(d:κ->Option Int)(b:κ)(v:Int):κ->Option Int:=λk=>if k=b then some v else d k
theorem count_le{p q:κ->Bool}(h:∀k,p k=true->q k=true):∀ns:List κ,ns.countP p<=ns.countP q
 |[]=>by simp
 |k::r=>by have a6:=count_le h r;simp only[acQ];have:=h k;split<;>split<;>simp_all<;>omega
theorem Nm{p q:κ->Bool}(h:∀k,p k=true->q k=true){b:κ}(af:p b=false)(ai:q b=true):∀{ns:List κ},b∈ns->ns.countP p<ns.countP q
 |[],z=>by simp at z
 |k::r,z=>by
  simp only[acQ];by_cases e:k=b
  .subst e;have:=count_le h r;simp[af,ai];omega
  .have a6:=Nm h af ai (ns:=r) (by rcases c'.mp z with z|z;exact bG z.symm e;exact z);have:=h k;split<;>split<;>simp_all<;>omega
theorem Xw{f g:κ->Nat}(h:∀k,f k<=g k):∀ns:List κ,(ns.map f).sum<=(ns.map g).sum
 |[]=>by simp
 |k::r=>by have:=Xw h r;have:=h k;simp only[hQ,Xc];omega
theorem Xx{f g:κ->Nat}(h:∀k,f k<=g k){b:κ}(af:f b<g b):∀{ns:List κ},b∈ns->(ns.map f).sum<(ns.map g).sum
 |[],z=>by simp at z
 |k::r,z=>by
  simp only[hQ,Xc];by_cases e:k=b
  .subst e;have:=Xw h r;omega
  .have a6:=Xx h af (ns:=r) (by rcases c'.mp z with z|z;exact bG z.symm e;exact z);have:=h k;omega
noncomputable def val(n:Nat):Option Int->Nat
 |none=>n
 |some v=>v.toNat
noncomputable def bH(ns:List κ)(d:κ->Option Int):Nat:=(ns.map λk=>val (9*ns.length) (d k)).sum
theorem n_.put{rs:List (h6 κ)}{s:κ}{ns:List κ}{d:κ->Option Int}(m:n_ rs s ns d)(aO:∀e∈rs,1<=e.t/\e.t<=9){e:h6 κ}(he:e∈rs)(U:e.b∈ns){v:Int}(aK:d e.a=some v)(hs:∀u,d e.b=some u->v+e.t<u):
  n_ rs s ns (put d e.b (v+e.t))/\bH ns (d5.put d e.b (v+e.t))<bH ns d:=by
 have bz:0<=v:=(m.path _ _ aK).nonneg λe he=>(aO e he).1;have df:=aO e he;have aqF:∀k w,d5.put d e.b (v+e.t) k=some w->Path rs s k w:=λk w h=>by
  unfold d5.put at h;split at h
  .rename_i q;cases h;rw[q];exact .snoc e (m.path _ _ aK) he
  .exact m.path k w h
 have hm:∀k,(d k).isSome=true->(d5.put d e.b (v+e.t) k).isSome=true:=λk h=>by
  unfold d5.put;split
  .rfl
  .exact h
 have eh:∀k w,d5.put d e.b (v+e.t) k=some w->w<9*(ns.countP λk=>(d5.put d e.b (v+e.t) k).isSome):=λk w h=>by
  have hle:=count_le hm ns;by_cases q:k=e.b
  .have h':w=v+e.t:=by unfold d5.put at h;rw[bM q]at h;exact(hF h).symm
   have at8:=m.eh _ _ aK;cases hd:d e.b with
   |some u=>
    have:=hs u hd;have:=m.eh _ _ hd;omega
   |none=>
    have cP:ns.countP (λk=>(d k).isSome)<ns.countP λk=>(d5.put d e.b (v+e.t) k).isSome:=Nm hm (b:=e.b) (by rw[hd];rfl) (by unfold d5.put;rw[bM rfl];rfl) U;omega
  .have h':d k=some w:=by
    unfold d5.put at h
    rwa [bE q]at h
   have:=m.eh k w h';omega
 refine⟨⟨?_,aqF,eh⟩,?_⟩
 .unfold d5.put;split
  .rename_i q;rw[<-q]at hs;have:=hs 0 m.start;omega
  .exact m.start
 .have ay:ns.countP (λk=>(d5.put d e.b (v+e.t) k).isSome)<=ns.length:=acR;have aT:=eh e.b (v+e.t) (by unfold d5.put;rw[bM rfl]);have lt:val (9*ns.length) (d5.put d e.b (v+e.t) e.b)<val (9*ns.length) (d e.b):=by
   have aB:d5.put d e.b (v+e.t) e.b=some (v+e.t):=by unfold d5.put;rw[bM rfl]
   have hz:((v+e.t).toNat:Int)=v+e.t:=uW (by omega);rw[aB];cases hd:d e.b with
   |some u=>
    have:=hs u hd;show(v+e.t).toNat < u.toNat
    omega
   |none=>
    show(v+e.t).toNat < 9*ns.length;omega
  refine Xx (λk=>?_) (b:=e.b) lt U;by_cases q:k=e.b
  .subst q;exact oc lt
  .have aD:d5.put d e.b (v+e.t) k=d k:=by unfold d5.put;rw[bE q]
   rw[aD];exact cq _
theorem n_.begin{rs:List (h6 κ)}{s:κ}{ns:List κ}(hs:s∈ns):n_ rs s ns (λk=>if k=s then some 0 else none):=by
 refine⟨by simp,λk v h=>?_,λk v h=>?_⟩
 .split at h
  .rename_i q;cases h;rw[q];exact .nil
  .cases h
 .split at h
  .cases h;have:0<ns.countP λk=>((if k=s then some (0:Int)else none).isSome):=acS.mpr ⟨s,hs,by simp⟩;omega
  .cases h
structure Gh(rs:List (h6 κ))(f:κ->Option Int)(g:κ):Prop where
 path:∀k v,f k=some v->Path rs k g v
 least:∀k w,Path rs k g w->∃v,f k=some v/\v<=w
section
variable{rs:List (h6 κ)}{f:κ->Option Int}{g:κ}(F:Gh rs f g)(aO:∀e∈rs,1<=e.t)
include F
theorem Gh.back{e:h6 κ}(he:e∈rs){u:Int}(h:f e.b=some u):∃v,f e.a=some v/\v<=u+e.t:=by obtain⟨v,af,ai⟩:=F.least _ _ (Path.cons e he (F.path _ _ h));exact⟨v,af,by omega⟩
include aO in
theorem Gh.other{k:κ}{v:Int}(aX:k≠g)(h:f k=some v):1<=v/\∃e∈rs,∃u,e.a=k/\f e.b=some u/\v=u+e.t:=by
 rcases(F.path _ _ h).first with⟨e,_⟩|⟨e,he,u,rfl,p,rfl⟩
 .exact bG e aX
 .have af:=p.nonneg aO;have ai:=aO e he;obtain⟨u',bU,cX⟩:=F.least _ _ p;obtain⟨sF,d3,ku⟩:=F.back he bU;rw[h]at d3;cases d3;exact⟨by omega,e,he,u',rfl,bU,by omega⟩
end
theorem Path.min{rs:List (h6 κ)}(aO:∀e∈rs,1<=e.t){s g:κ}:∀(n:Nat)(w:Int),w.toNat=n->Path rs s g w->∃v,Path rs s g v/\(∀u,Path rs s g u->v<=u):=by
 intro n
 induction n using Nat.strongRecOn with
 |_ n a6=>
  intro w hw p;by_cases h:∃u,Path rs s g u/\u<w
  .obtain⟨u,pu,b7⟩:=h;have af:=pu.nonneg aO;exact a6 u.toNat (by omega) u rfl pu
  .refine⟨w,p,λu pu=>?_⟩;by_cases q:w<=u
   .exact q
   .exact bG ⟨u,pu,by omega⟩ h
open Classical in
noncomputable def dist(rs:List (h6 κ))(s g:κ):Option Int:=if h:∃v,Path rs s g v/\∀u,Path rs s g u->v<=u then some (aaC h)else none
theorem amL{rs:List (h6 κ)}{s:κ}{d:κ->Option Int}(L:KW rs s d)(g:κ):d g=dist rs s g:=by
 unfold dist;cases hd:d g with
 |some v=>
  have p:=L.path g v hd;have H9:∀u,Path rs s g u->v<=u:=λu pu=>by obtain⟨sF,af,ai⟩:=L.least g u pu;rw[hd]at af;cases af;exact ai
  have h:∃v,Path rs s g v/\∀u,Path rs s g u->v<=u:=⟨v,p,H9⟩
  rw[dif_pos h];have c:=J' h;congr 1;have a:=H9 _ c.1;have b:=c.2 _ p;omega
 |none=>
  have h:¬∃v,Path rs s g v/\∀u,Path rs s g u->v<=u:=λ⟨v,p,_⟩=>by obtain⟨sF,af,_⟩:=L.least g v p;rw[hd]at af;cases af
  rw[dif_neg h]
theorem Zz{rs:List (h6 κ)}(aO:∀e∈rs,1<=e.t)(g:κ):Gh rs (λk=>dist rs k g) g:=by
 refine⟨λk v h=>?_,λk w p=>?_⟩
 .unfold dist at h;split at h
  .rename_i q;cases h;exact(J' q).1
  .cases h
 .have q:=p.min aO _ _ rfl;show∃v,dist rs k g=some v/\v<=w;unfold dist;rw[dif_pos q];exact⟨_,rfl,(J' q).2 _ p⟩
end d5
namespace dW
open PySem ao ct dx
noncomputable def dY(hs:bc)(d:dx.gD):d5.h6 Str:=⟨S (hs.getD d.a []),S (hs.getD d.b []),d.t⟩
noncomputable def j1(hs:bc)(ds:bT):List (d5.h6 Str):=ds.map (dY hs)
structure Tab(kvs:List (a'×ao.V))(D:l_):Prop where
 at_:∀k:Str,b1 kvs (fK k:a')=(D k).map V.int
 hb:∀cf∈kvs,∃k:Str,cf.1=(fK k:a')
theorem afP{kvs:List (a'×ao.V)}(h:∀cf∈kvs,∃k:Str,cf.1=(fK k:a'))(b:Str)(v:ao.V):∀cf∈d7 kvs (fK b:a') v,∃k:Str,cf.1=(fK k:a'):=by
 intro cf aX;unfold d7 at aX;split at aX
 .obtain⟨q,aU,e⟩:=b4.mp aX;obtain⟨k,eg⟩:=h q aU;split at e
  .exact⟨k,by rw[<-e];exact eg⟩
  .exact⟨k,by rw[<-e];exact eg⟩
 .rcases hj.mp aX with z|z
  .exact h cf z
  .exact⟨b,by rw[hr.mp z]⟩
theorem Tab.put{kvs:List (a'×ao.V)}{D:l_}(T:Tab kvs D)(b:Str)(v:Int):Tab (d7 kvs (fK b:a') (.int v)) (d5.put D b v):=⟨λk=>by
 rw[qD];unfold d5.put;by_cases h:k=b
 .rw[bM h,bM (ha fK h)];rfl
 .rw[bE h,bE λz=>h (LB z)];exact T.at_ k,afP T.hb b _⟩
theorem VB{κ:Type}[DecidableEq κ]{kvs:List (κ×ao.V)}{k:κ}{u:ao.V}(v:ao.V)(h:b1 kvs k=some u):(d7 kvs k v).length=kvs.length:=by unfold d7;rw[bM (by rw[oy,h];rfl),bp]
noncomputable def wH(D:l_)(e:d5.h6 Str):Bool:=match D e.a with
 |none=>false
 |some v=>match D e.b with
  |none=>true
  |some u=>decide (v+e.t<u)
theorem asF{D:l_}{e:d5.h6 Str}(h:wH D e=true):∃v,D e.a=some v/\∀u,D e.b=some u->v+e.t<u:=by
 unfold wH at h;cases aK:D e.a with
 |none=>rw[aK]at h;cases h
 |some v=>
  rw[aK]at h;refine⟨v,rfl,λu b7=>?_⟩;rw[b7]at h;exact ju h
theorem asi{D:l_}{e:d5.h6 Str}(h:wH D e=false):d5.ok D e:=by
 intro v aK;unfold wH at h;rw[aK]at h;cases U:D e.b with
 |none=>rw[U]at h;cases h
 |some u=>
  rw[U]at h;exact⟨u,rfl,by have:=of_decide_eq_false h;omega⟩
inductive adE(vs:aZ)(H:ae)(Q:ba)(bN:b6):Prop where
 |mk (r f:Addr) (hs:bc) (d:dx.gD) (kvs:List (a'×ao.V)) (D:l_) (bV:vs=[.ref r,.ref f]) (bA:H r=some (.tup (lU hs d))) (cn:H f=some (.b0 kvs)) (di:Tab kvs D) (d8:Q (.aM (wH D (dY hs d))) H)
noncomputable def Uv:cM:=λvs H Q bN=>adE vs H Q bN
inductive ad2(K:aV)(vs:aZ)(H:ae)(Q:ba)(bN:b6):Prop where
 |mk (b:Addr) (hs:bc) (rs:bS) (ds:bT) (h:Str) (bV:vs=[.ref b,.str h]) (bA:aJ K H b (aC rs)) (cn:ix H hs rs ds) (di:hs.length<=12) (d8:h∈hs.map S) (fI:∀(p:Addr)(H':ae)(kvs:List (a'×ao.V))(D:l_),H p=none->aN H H'->H' p=some (.b0 kvs)->Tab kvs D->d5.KW (j1 hs ds) h D->Q (.ref p) H')
noncomputable def Uw(K:aV):cM:=λvs H Q bN=>ad2 K vs H Q bN
section
variable{P:bO}{w:bx}{K:aV}{mg:cI}{base:Heap}
noncomputable abbrev E8:Stmt:=top 34
noncomputable abbrev E9:Stmt:=top 35
theorem afQ:dB ["road","found"] ["road","found"] (c7 E8):=⟨rfl,rfl,rfl,by decide+kernel,rfl,by decide+kernel,by decide+kernel⟩
theorem zk:dB ["roads","house","found","changed","road"] ["roads","house"] (c7 E9):=⟨rfl,rfl,rfl,by decide+kernel,rfl,by decide+kernel,by decide+kernel⟩
theorem ad3{f:Addr}{fd:cF}(F:bB K "is_shorter_by" "is_shorter_by" E8 f fd):aL P w K mg base a8 1 f fd ["road","found"] Uv:=by
 refine F.ok afQ (λvs H Q E h=>?_) (λcdv A outer s H vs Q E aq h=>?_)
 .obtain⟨r,rU,hs,d,kvs,D,rfl,_⟩:=h;rfl
 .obtain⟨r,rU,hs,d,kvs,D,rfl,cU,hf,T,q⟩:=h;refine⟨_,(bh (eY (Kd (IE (iV aq) (cv fa (aa 0) aW (λ_ _=>rfl)) (aa 1))) (br (c_ hW)) fv)
   (br (c_ (ahY (agz (IE (iV aq) (cv fa (aa 0) aW (λ_ _=>rfl)) (aa 1))) (m3 (i6 p2 (bK ib (lw (iV aq) (aa 1) (cv fa (aa 0) aW (λ_ _=>rfl)) (λ_ _=>rfl)) (cv fa (aa 0) aW (λ_ _=>rfl))) (lw (iV aq) (aa 1) (cv fa (aa 0) aW (λ_ _=>rfl)) (λ_ _=>rfl)) (dz _))))))),?_⟩
  have gI:=T.at_ (S (hs.getD d.a []));have nY:=T.at_ (S (hs.getD d.b []));have ga:=iY.k (k:=fK (S (hs.getD d.a []))) hf;have vH:=iY.k (k:=fK (S (hs.getD d.b []))) hf;rw[gI]at ga;rw[nY]at vH;unfold wH at q;have au:(dY hs d).a=S (hs.getD d.a []):=rfl;have ef:(dY hs d).b=S (hs.getD d.b []):=rfl;rw[au,ef]at q;refine⟨_,rfl,r,_,_,_,rfl,rfl,cN.of cU,rfl,_,rfl,rU,_,rfl,ga,_,rfl,?_⟩;cases aK:D (S (hs.getD d.a []))with
  |none=>
   rw[aK]at q;exact h3 q
  |some v=>
   rw[aK]at q ga;refine gx ?_;refine⟨_,rfl,r,_,_,_,rfl,rfl,cN.of cU,rfl,_,rfl,rU,_,rfl,vH,_,rfl,?_⟩;cases U:D (S (hs.getD d.b []))with
   |none=>
    rw[U]at q;exact h3 q
   |some u=>
    rw[U]at q vH;refine gx ?_;exact⟨_,rfl,_,rfl,r,_,_,_,rfl,rfl,cN.of cU,rfl,rU,_,rfl,ga,_,rfl,r,_,_,_,rfl,rfl,cN.of cU,rfl,_,_,rfl,rfl,_,rfl,_,rfl,r,_,_,_,rfl,rfl,cN.of cU,rfl,rU,_,rfl,vH,_,_,rfl,rfl,q⟩
inductive ajJ(b p:Addr)(h':Str)(hs:bc)(ds:bT)(H:ae)(m:Nat)(σ:ao.St)(b2:ae):Prop where
 |mk (kvs:List (a'×ao.V)) (D:l_) (ch:Bool) (JB:l') (bV:σ=[some (.ref b),some (.str h'),some (.ref p),some (.aM ch),JB]) (bA:aN H b2) (cn:b2 p=some (.b0 kvs)) (di:Tab kvs D) (d8:kvs.length<=(hs.map S).countP (λk=>(D k).isSome)) (fI:d5.n_ (j1 hs ds) h' (hs.map S) D) (iM:ch=false->∀e∈j1 hs ds,d5.ok D e) (lx:m=2*d5.bH (hs.map S) D+(if ch=true then 1 else 0))
inductive ajK(b p:Addr)(h':Str)(hs:bc)(ds:bT)(H:ae)(D:l_)(i:Nat)(σ:ao.St)(ft:ae):Prop where
 |mk (gV:List (a'×ao.V)) (cA:l_) (mT:Bool) (sG:l') (bV:σ=[some (.ref b),some (.str h'),some (.ref p),some (.aM mT),sG]) (bA:aN H ft) (cn:ft p=some (.b0 gV)) (di:Tab gV cA) (d8:gV.length<=(hs.map S).countP (λk=>(cA k).isSome)) (fI:d5.n_ (j1 hs ds) h' (hs.map S) cA) (iM:(mT=false/\cA=D/\∀j d,j<i->ds[j]?=some d->d5.ok cA (dY hs d))\/(mT=true/\d5.bH (hs.map S) cA<d5.bH (hs.map S) D))
theorem ad6{f fs:Addr}{fd ZL:cF}(F:bB K "least_turns_from" "least_turns_from" E9 f fd)(Ce:dO K mg "is_shorter_by" E8 ["road","found"] fs ZL)(P2:aL P w K mg base a8 1 fs ZL ["road","found"] Uv):
  aL P w K mg base a8 2 f fd ["roads","house"] (Uw K):=by
 refine F.ok zk (λvs H Q E h=>?_) (λcdv A outer s H vs Q E aq h=>?_)
 .obtain⟨b,hs,rs,ds,h',rfl,_⟩:=h;rfl
 .obtain⟨b,hs,rs,ds,h',rfl,U,cU,eh,hm,q⟩:=h;refine⟨_,(bh (da (i:=2) zk.aG rfl (cb rfl) (ae6 (ac8 (aa 1) aW ae5) rfl rfl (by intro z;cases z) (by decide)))
   (bh (da (i:=3) zk.aG rfl (cb rfl) hW)
   (bh (acE kM (iR (aa 3))
    (bh (da (i:=3) zk.aG rfl (cb rfl) hW)
   (br (kq kM rfl (jY (aa 0)) (et (i:=4) zk.aG rfl (cb rfl))
    (br (eY (iR (fw P2 (aq.mono (by decide)) (by rfl) Ce.at_ Ce.fn.bI Ce.bd .nil dt (ak (aa 4) (ak (aa 2) aI)))) (bh (zi (iV aq) (aa 2) (cv fa (aa 4) aW (λ_ _=>rfl)) (bK ib (lw (iV aq) (aa 2) (cv fa (aa 4) aW (λ_ _=>rfl)) (λ_ _=>rfl)) (cv fa (aa 4) aW (λ_ _=>rfl))) rfl)
   (br (da (i:=3) zk.aG rfl (cb rfl) hW))) fv))))))
   (br (c_ (aa 2)))))),?_⟩
  have an2:∀e∈j1 hs ds,1<=e.t/\e.t<=9:=λe he=>by obtain⟨d,hd,rfl⟩:=b4.mp he;exact(cU.ok d hd).t
  refineλp aO=>⟨_,rfl,aP,[(fK h',.int 0)],rfl,(by show 1<=15;decide),?_⟩
  have cJ:upd (upd H p (.b0 [])) p (.b0 (zB [] [((fK h':a'),V.int 0)]))=upd H p (.b0 [((fK h':a'),V.int 0)]):=by rw[V'];rfl
  rw[cJ];have s0:aN H (upd H p (.b0 [((fK h':a'),V.int 0)])):=bW aO;have T0:Tab [((fK h':a'),V.int 0)] (λk=>if k=h' then some 0 else none):=⟨λk=>by
   by_cases z:k=h'
   .rw[kP (ha fK z.symm),bM z];rfl
   .rw[jW λy=>z (LB y).symm,bE z];rfl,λcf aX=>⟨h',by rw[hr.mp aX]⟩⟩
  have m0:d5.n_ (j1 hs ds) h' (hs.map S) (λk=>if k=h' then some 0 else none):=d5.n_.begin hm;have vn:0<(hs.map S).countP λk=>((if k=h' then some (0:Int)else none).isSome):=acS.mpr ⟨h',hm,by simp⟩;refine⟨ajJ b p h' hs ds H,
   ⟨_,_,_,true,none,rfl,s0,aP,T0,vn,m0,λz=>(nomatch z),rfl⟩,?_⟩
  rintro m σ b2 ⟨kvs,D,ch,JB,rfl,aH,aX,T,len,mid,bb,rfl⟩;refine⟨_,rfl,_,rfl,?_⟩;cases ch with
  |false=>exact gx ⟨_,rfl,q p b2 kvs D aO aH aX T (mid.done (bb rfl))⟩
  |true=>
   refine h3 ⟨λa4 ft=>∃(gV:List (a'×ao.V))(cA:l_)(mT:Bool)(sG:l'),a4=[some (.ref b),some (.str h'),some (.ref p),some (.aM mT),sG]/\aN H ft/\ft p=some (.b0 gV)/\Tab gV cA/\
    gV.length<=(hs.map S).countP (λk=>(cA k).isSome)/\d5.n_ (j1 hs ds) h' (hs.map S) cA/\((mT=false/\cA=D/\∀e∈j1 hs ds,d5.ok cA e)\/(mT=true/\d5.bH (hs.map S) cA<d5.bH (hs.map S) D)),?_,?_⟩
   .rintro a4 ft ⟨gV,cA,mT,sG,rfl,oX,qN,mR,DJ,y4,j7⟩;refine⟨_,?_,gV,cA,mT,sG,rfl,oX,qN,mR,DJ,y4,?_,rfl⟩
    .rcases j7 with⟨rfl,rfl,_⟩|⟨rfl,cP⟩
     .simp
     .simp;omega
    .rintro rfl;rcases j7 with⟨_,_,a3⟩|⟨z,_⟩
     .exact a3
     .cases z
   .refine⟨_,rfl,b,rfl,⟨_,aH.seq U⟩,?_⟩;refine qC (xs:=aC rs) (ajK b p h' hs ds H D)
     ⟨kvs,D,false,JB,rfl,aH,aX,T,len,mid,.inl ⟨rfl,rfl,λj d bL _=>bG bL (Lb _)⟩⟩ ?_ ?_ ?_
    .rintro i a4 ft ar ⟨gV,cA,mT,sG,rfl,oX,_⟩;exact oX.seq U
    .rintro i z a4 ft dC ⟨gV,cA,mT,sG,rfl,oX,qN,mR,DJ,y4,j7⟩;unfold aC at dC;rw[c9]at dC;obtain⟨r,f3,rfl⟩:=fJ.mp dC;obtain⟨d,BU,sj,hd⟩:=cU.get f3;have Ht:dY hs d∈j1 hs ds:=b4.mpr ⟨d,eH BU,rfl⟩;refine⟨_,rfl,_,rfl,r,p,hs,d,gV,cA,rfl,oX _ _ hd,qN,mR,_,rfl,?_⟩;cases oA:wH cA (dY hs d)with
     |false=>
      refine gx ⟨gV,cA,mT,_,rfl,oX,qN,mR,DJ,y4,?_⟩;rcases j7 with⟨rfl,rfl,a3⟩|j7
      .refine .inl ⟨rfl,rfl,λj d' bL eZ=>?_⟩;by_cases OK:j=i
       .subst OK;rw[BU]at eZ;cases eZ;exact asi oA
       .exact a3 j d' (by omega) eZ
      .exact .inr j7
     |true=>
      obtain⟨v,aK,r5⟩:=asF oA;have tJ:cA (S (hs.getD d.a []))=some v:=aK;obtain⟨apt,cP⟩:=y4.put an2 Ht (zC sj.b) aK r5;have ga:=iY.k (k:=fK (S (hs.getD d.a []))) qN;rw[mR.at_,tJ]at ga;have vP:(hs.map S).countP (λk=>(cA k).isSome)<=(hs.map S).length:=acR;rw[bp]at vP;have O2:=oX _ _ hd;refine h3 ?_;refine⟨_,rfl,_,rfl,r,_,_,_,rfl,rfl,cN.of O2,rfl,p,_,rfl,ga,_,rfl,r,_,_,_,rfl,rfl,cN.of O2,rfl,_,_,rfl,rfl,_,rfl,_,rfl,r,_,_,_,rfl,rfl,cN.of O2,rfl,p,_,rfl,o3.k (k:=fK (S (hs.getD d.b []))) qN (eW (by omega)),?_⟩;refine⟨_,d5.put cA (dY hs d).b (v+(dY hs d).t),true,_,rfl,kp aO oX,aP,mR.put _ _,?_,apt,.inr ⟨rfl,?_⟩⟩
      .cases de:cA (S (hs.getD d.b []))with
       |none=>
        have aB:(d7 gV (fK (S (hs.getD d.b [])):a') (V.int (v+d.t))).length=gV.length+1:=by rw[y0 _ (by rw[mR.at_,de];rfl),hi];rfl
        have aD:(hs.map S).countP (λk=>(cA k).isSome)<(hs.map S).countP (λk=>(d5.put cA (dY hs d).b (v+(dY hs d).t) k).isSome):=
         d5.Nm (b:=S (hs.getD d.b [])) (λk aX=>by unfold d5.put;split;rfl;exact aX) (by rw[de];rfl) (by unfold d5.put;rw[bM (show S (hs.getD d.b [])=(dY hs d).b from rfl)];rfl) (zC sj.b)
        exact eQ (K' aB) (by omega)
       |some u=>
        have aB:(d7 gV (fK (S (hs.getD d.b [])):a') (V.int (v+d.t))).length=gV.length:=VB _ (by rw[mR.at_,de];rfl);have aD:(hs.map S).countP (λk=>(cA k).isSome)<=(hs.map S).countP (λk=>(d5.put cA (dY hs d).b (v+(dY hs d).t) k).isSome):=
         d5.count_le (λk aX=>by unfold d5.put;split;rfl;exact aX) _
        exact eQ (K' aB) (by omega)
      .rcases j7 with⟨_,rfl,_⟩|⟨_,ai⟩
       .exact cP
       .exact La cP ai
    .rintro a4 ft ⟨gV,cA,mT,sG,rfl,oX,qN,mR,DJ,y4,j7⟩;refine⟨gV,cA,mT,sG,rfl,oX,qN,mR,DJ,y4,?_⟩;rcases j7 with⟨rfl,rfl,a3⟩|j7
     .refine .inl ⟨rfl,rfl,λe he=>?_⟩;obtain⟨d,hd,rfl⟩:=b4.mp he;obtain⟨j,bL⟩:=x4 hd;refine a3 j d ?_ bL;have af:=(eM.mp bL).1;have ai:=cU.len;rw[eI];omega
     .exact .inr j7
end
end dW
namespace ct
open PySem PySem.Spec PyProof.Rows ao
section
variable{X:bg}
noncomputable def ajm(ts:e8):e8:=λD σ H=>∃a kvs,H a=some (.b0 kvs)/\∀o,ts ⟨λa4 H'=>H' a=some (.eO o (.b0 kvs))/\D.cj a4 (upd H' a (.b0 kvs)),λv H'=>H' a=some (.eO o (.b0 kvs))/\D.my v (upd H' a (.b0 kvs)),λa4 H'=>H' a=some (.eO o (.b0 kvs))/\D.gv a4 (upd H' a (.b0 kvs)),λa4 H'=>H' a=some (.eO o (.b0 kvs))/\D.e' a4 (upd H' a (.b0 kvs))⟩ σ (upd H a (.eO o (.b0 kvs)))
theorem ahM{st:Stmt}{ts:e8}(hs:fW X st ts):fW X st (ajm ts):=by
 intro pins s σ H D I h;obtain⟨a,kvs,aK,h⟩:=h;have f1:∀xs,X.mG a≠some (.tup xs):=λxs z=>by have:=I.base.hM a xs z;rw[aK]at this;cases this
 have f2:∀o v,X.mG a≠some (.eO o v):=λo v z=>by have:=I.base.iT a o v z;rw[aK]at this;cases this
 have cz:∀ps,X.mG a≠some (.p6 ps):=λps z=>by obtain⟨m,e⟩:=I.base.ji a ps z;rw[aK]at e;cases e
 have ok:=I.bb a _ aK;obtain⟨z,y,vs,rel,o,es,ep,e,c⟩:=id ok;have aR:Inv X pins σ (upd H a (.eO o (.b0 kvs))) s:=JQ I aK (by intro _ w;cases w) (by intro _ w;cases w) ⟨e,z,y,vs,rel,o,es,ep,e,c⟩ f1 f2 cz;have back:∀{a4:ao.St}{H':ae}{s':aF},Inv X pins a4 H' s'->H' a=some (.eO o (.b0 kvs))->Inv X pins a4 (upd H' a (.b0 kvs)) s':=λ{a4 H' s'}bD mY=>by obtain⟨aB,bV,pb,arW,aqQ,hB,NJ,NG,aD,c1⟩:=bD.bb a _ mY;exact JQ bD (u':=.b0 kvs) mY (by intro _ w;cases w) (by intro _ w;cases w) ⟨bV,pb,arW,aqQ,hB,NJ,NG,aD,c1⟩ f1 f2 cz
 refine bF (hs pins s σ _ _ aR (h o)) λf s1 q=>?_;cases f with
 |next=>
  obtain⟨a4,H',bD,mY,q⟩:=q;exact⟨a4,_,back bD mY,q⟩
 |brk=>
  obtain⟨a4,H',bD,mY,q⟩:=q;exact⟨a4,_,back bD mY,q⟩
 |cont=>
  obtain⟨a4,H',bD,mY,q⟩:=q;exact⟨a4,_,back bD mY,q⟩
 |ret v=>
  obtain⟨a4,x,H',bD,cg,mY,q⟩:=q;exact⟨a4,x,_,back bD mY,cg,q⟩
noncomputable def Bc(a:Addr)(o:Obj)(kvs:List (a'×V)):f9:=
 ⟨λi H=>H a=some (.eO o (.b0 kvs))/\i<kvs.length,λi H v H'=>H'=H/\∃k x,v=dn k/\kvs[i]?=some (k,x),λi H=>H a=some (.eO o (.b0 kvs))/\kvs.length<=i⟩
theorem Uy{P:bO}{w:bx}{H:ae}{h:Heap}{a:Addr}{o:Obj}{kvs:List (a'×V)}(ok:fq P w H h)(aK:H a=some (.eO o (.b0 kvs))):h.get? a=some o/\(a==lr)=false/\o.ExactDict/\∃es ep,o.data=.dict es ep/\es.size=kvs.length/\
  ∀(i:Nat)(k:a')(x:V),kvs[i]?=some (k,x)->∃ar:i<es.size,RelV (dn k) es[i].key:=by
 obtain⟨cJ,_,y,vs,rel,cL,es,ep,aB,av,hd,_,pr,_⟩:=ok a _ aK;rw[cJ]at aB;cases aB;have gen:∀{kvs:List (a'×V)}{ys:List (a'×Value)}{hl:List pe},gC kvs ys->Pairs (gj P w) hl ys->hl.length=kvs.length/\∀(i:Nat)(k:a')(x:V),kvs[i]?=some (k,x)->∃e,hl[i]?=some e/\RelV (dn k) e.key:=by
  intro kvs ys hl rel pr
  induction pr generalizing kvs with
  |nil=>
   cases rel;exact⟨rfl,λi k x e=>by simp at e⟩
  |@cons e cf hl ys af ai t a6=>
   cases rel with
   |@cons p q ps dQ a b=>
    obtain⟨l,f⟩:=a6 b;refine⟨by rw[l6,l6,l],λi k x ey=>?_⟩;cases i with
    |zero=>
     simp only[K0,Ln]at ey;refine⟨e,rfl,?_⟩;have aB:cf.1=k:=by rw[<-a.1,ey]
     rw[aB]at af;rcases qx (show wX k e.key=true from af)with⟨n,t,rfl,eg⟩|⟨n,t,rfl,eg⟩
     .exact⟨t,eg⟩
     .exact⟨t,eg⟩
    |succ i=>exact f i k x (by simpa using ey)
 obtain⟨l,f⟩:=gen rel pr;refine⟨cJ,y,av,es,ep,hd,by simpa using l,λi k x ar=>?_⟩;obtain⟨e,pK,r⟩:=f i k x ar;obtain⟨af,ai⟩:=eM.mp pK;have yD:i<es.size:=by simpa using af
 refine⟨yD,?_⟩;have:es[i]=e:=by simpa using ai
 rw[this];exact r
end
theorem aa1{P:bO}{w:bx}{K:aV}{dA:Expr}{o:Obj}{kvs:List (a'×V)}{es:Array pe}{ep:Nat}(a it:Addr)(hd:o.data=.dict es ep):
  Turn P w K dA (Bc a o kvs) [it] it (λi h=>h.IsKeyIter it a i es.size ep)where
 mem:=by simp
 obj:=λi h st b U=>by
  obtain rfl:b=it:=by simpa using U
  obtain⟨o,e,c,d⟩:=st;exact⟨o,e,λv z=>by rw[d]at z;cases z⟩
 keep:=λi h h' st k=>by obtain⟨o,e,r⟩:=st;exact⟨o,k it (by simp) o e,r⟩
 item:=by
  intro X gy hw gd ay i pins s σ H E I hf st bP;subst gy hw gd;obtain⟨aK,ar⟩:=bP;obtain⟨go,_,cW,lG,nD,ks,cc,ge⟩:=Uy I.bb aK;rw[hd]at ks;cases ks;obtain⟨jc,vy⟩:∃q,kvs[i]?=some q:=⟨_,dv ar⟩
  obtain⟨tM,uu⟩:=ge i jc.1 jc.2 vy;obtain⟨f0,f1,f2,cz,f4,fx⟩:=hf it (by simp);refine XE st ⟨o,go,cW,hd⟩ tM λh' fT b'=>?_;have aR:Inv X pins σ H {s with heap:=h'}:=I.turned (t':=s.toks) (λb o U e=>(b'.2 b U).trans e) f0 f1 cz f4 fx;obtain⟨ý,e,c,d⟩:=id fT;exact⟨_,rfl,zV (s:={s with heap:=h'}) e c d (by decide) ⟨dn jc.1,H,aR,uu,⟨rfl,jc.1,jc.2,rfl,vy⟩,fT,λb U=>(hf b U).1⟩⟩
 done:=by intro X gy hw gd ay i pins s σ H E I hf st bP;subst gy hw gd;obtain⟨aK,ar⟩:=bP;obtain⟨go,_,cW,lG,nD,ks,cc,ge⟩:=Uy I.bb aK;rw[hd]at ks;cases ks;obtain⟨f0,f1,f2,cz,f4,fx⟩:=hf it (by simp);exact Wd (I.ok.hd ay) st ⟨o,go,cW,hd⟩ (by omega) λh' ef=>⟨rfl,I.turned (t':=s.toks) (λb o U e=>ef b o U e) f0 f1 cz f4 fx⟩
 self:=λA i s Q E st h=>by have T0:=st.typeIs;refine ŏ T0 F.slot_dict_keyiterator_iter (rr F.slot_dict_keyiterator_iter T0 F.entry_dict_keyiterator_iter ?_ (F.args_dict_keyiterator_iter_1 _));exact bj ⟨_,rfl,"dict_keyiterator",_,T0,F.slot_dict_keyiterator_next.lookup,h⟩
section
variable{X:bg}{dA:Expr}
noncomputable def ahN(bk:TE):TI:=λσ H R=>bk σ H λx H1=>∃a o kvs,x=.ref a/\H1 a=some (.eO o (.b0 kvs))/\R (Bc a o kvs) H1
theorem ad7{o:Expr}{bk:TE}(a3:bl X o bk):oe X dA o (ahN bk):=by
 intro pins s σ H R I h;refine bF (a3 pins s σ H _ I h) λv s1⟨x,H1,aR,ck,a,ob,kvs,ex,aK,bQ⟩=>?_;subst ex;cases ck;obtain⟨go,NZ,cW,es,ep,ks,cc,ge⟩:=Uy aR.bb aK;refine We NZ ⟨ob,go,cW,ks⟩ ?_;refine⟨s1.heap.objs.size,[s1.heap.objs.size],_,_,H1,rfl,aR.kept (t':=s1.toks) λb o e=>dM _ e,aa1 a _ ks,⟨_,gq _ rfl,rfl,rfl⟩,λb U=>?_,bQ⟩;obtain rfl:b=s1.heap.objs.size:=by simpa using U
 exact aR.rV (cq _) (aR.bb.fresh (cq _))
theorem abW{a:Addr}{o:Obj}{kvs:List (a'×V)}{g:jB}{dc:e8}{D:Ends}{σ:ao.St}{H:ae}(Pv:Nat->ao.St->ae->Prop)(h0:Pv 0 σ H)(aj:∀i σ H,Pv i σ H->H a=some (.eO o (.b0 kvs)))(hs:∀i k x σ H,kvs[i]?=some (k,x)->Pv i σ H->g (dn k) σ H λeB ag=>dc {D with cj:=Pv (i+1),e':=Pv (i+1),gv:=D.cj} eB ag)(hd:∀σ H,Pv kvs.length σ H->D.cj σ H):
  ∃W:Nat->Nat->ao.St->ae->Prop,(∃m,W 0 m σ H)/\∀i m σ H,W i m σ H->
   ((Bc a o kvs).stop i H/\D.cj σ H)\/((Bc a o kvs).go i H/\∃N:ao.St->ae->Prop,(∀a4 H',N a4 H'->∃cV,cV<m/\W (i+1) cV a4 H')/\∀x H',(Bc a o kvs).n4 i H x H'->g x σ H' λeB ag=>dc {D with cj:=N,e':=N,gv:=D.cj} eB ag):=by
 refine⟨λi m σ H=>m=kvs.length-i/\i<=kvs.length/\Pv i σ H,⟨kvs.length,by simp,e_ _,h0⟩,?_⟩;rintro i m σ H ⟨rfl,ar,p⟩;have q:=aj i σ H p;by_cases cP:i<kvs.length
 .refine .inr ⟨⟨q,cP⟩,Pv (i+1),λa4 H' hL=>⟨kvs.length-(i+1),by omega,rfl,cP,hL⟩,λv H' y=>?_⟩;obtain⟨rfl,k,x,rfl,eg⟩:=y;exact hs i k x σ H' eg p
 .have e:i=kvs.length:=by omega
  subst e;exact .inl ⟨⟨q,cq _⟩,hd σ H p⟩
theorem gE{α β:Type}{M:lA}{A:c0}{E:cD}{s:aF}(c:Sem α){k:α->Sem β}{Q:β->aF->Prop}(h:aQ M A c (λa s'=>aQ M A (k a) Q E s') E s):aQ M A (c >>=k) Q E s:=ax h
theorem Ab{h:Heap}{b:Addr}{o:Obj}(e:h.get? b=some o):b≠h.objs.size:=eN (dG e)
theorem ue{h:Heap}{b:Addr}{o:Obj}(e:h.get? b=some o):b≠h.objs.size+1:=eN (K_ (dG e))
theorem ad8{prog:bO}{w:bx}{A:c0}{R:nu->aF->Prop}{I:Addr}{cp wr:bS}{n:Nat}{P:Nat->Value->Prop}{St:Nat->Heap->Prop}{d:Value}(W:te prog w A.in1 I cp wr n P St)(eu:hR)(ay:CmpOf prog w A.in1 .Gt P eu)(S:Addr)(jQ:S∉cp):
  ∀(k j:Nat)(s:aF)(gB:Value)(c:Nat),n-(j+1)=k->j+1<=n->St (j+1) s.heap->P (gb eu j) gB->s.heap.get? S=some ⟨.type "list",none,.seq #[gB,gB] c,#[]⟩->
   (∀v h' a5,P (gb eu (n-1)) v->(∀b o,b∉wr->b≠S->s.heap.get? b=some o->h'.get? b=some o)->R (.ok (.ret v)) {s with heap:=h',toks:=a5})->
   jX (a9 prog w) A (.builtin "max.loop" ⟨[.ref I,.none,.ref S],[(eR "default",d)]⟩) R s:=by
 have wS:S∉wr:=λh=>jQ (W.sub _ h);have nm:(toString "max"++toString ".loop":String)="max.loop":=by decide
 intro k
 induction k with
 |zero=>
  intro j s gB c aX bL st hD hZ cU;have qA:j+1=n:=by omega
  refine mU X0 ?_;rw[n7 ya _];refine gE (sx (.ref S)) (sI hZ rfl (gE (tryCatch (ip (.ref I)) _) (ng (W.done s _ _ (qA▸st) λh' a5 bY=>?_))));refine gE (EZ S (λ_=>#[])) (uH (bY S _ wS hZ) rfl (ax (n2 (bj ?_))));exact cU gB _ a5 (by rw[<-qA];exact hD) λb o dp dq e=>(jT _ _ (cR dq)).trans (bY b o dp e)
 |succ k a6=>
  intro j s gB c aX bL st hD hZ cU;have lt:j+1<n:=by omega
  refine mU X0 ?_;rw[n7 ya _];refine gE (sx (.ref S)) (sI hZ rfl (gE (tryCatch (ip (.ref I)) _) (ng (W.item (j+1) s _ _ lt st λv h' a5 aa fT bY=>?_))));have jM:=bY S _ wS hZ;refine gE (tryCatch (mm [v,v] (Ē .Gt v gB >>=_)) _) (ng (iL (ax (ay (j+1) (gb eu j) v gB _ _ _ aa hD (ax (iL (o' (ax (n2 (bj ?_))))))))));cases U:eu (j+1) (gb eu j)with
  |true=>
   simp only[if_true];refine ax (uH jM rfl (ax (n2 ?_)));rw[nm];refine bj ⟨m7 ya _,a6 (j+1) _ v _ (by omega) lt (W.frame _ _ _ fT λb pH o e=>(jT _ _ (λh:S=b=>jQ (by rw[h];exact pH))).trans e) (by simp only[gb,U,if_true];exact aa) (pg _ jM rfl) λv2 ai lu lp k_=>?_⟩;exact cU v2 ai lu lp λb o dp dq e=>k_ b o dp dq ((jT _ _ (cR dq)).trans (bY b o dp e))
  |false=>
   simp only[uK,if_false];refine ax (n2 ?_);rw[nm];exact bj ⟨m7 ya _,a6 (j+1) _ gB c (by omega) lt fT (by simp only[gb,U,uK,if_false];exact hD) jM λv2 ai lu lp k_=>cU v2 ai lu lp λb o dp dq e=>k_ b o dp dq (bY b o dp e)⟩
theorem abX{prog:bO}{w:bx}{A:c0}{R:nu->aF->Prop}{I:Addr}{cp wr:bS}{n:Nat}{P:Nat->Value->Prop}{St:Nat->Heap->Prop}{d:Value}(W:te prog w A.in1 I cp wr n P St)(eu:hR)(ay:CmpOf prog w A.in1 .Gt P eu)(S:Addr)(jQ:S∉cp){s:aF}{c:Nat}(st:St 0 s.heap)(hZ:s.heap.get? S=some ⟨.type "list",none,.seq #[] c,#[]⟩)(h0:n=0->∀h' a5,(∀b o,b∉wr->b≠S->s.heap.get? b=some o->h'.get? b=some o)->R (.ok (.ret d)) {s with heap:=h',toks:=a5})(af:0<n->∀v h' a5,P (gb eu (n-1)) v->(∀b o,b∉wr->b≠S->s.heap.get? b=some o->h'.get? b=some o)->R (.ok (.ret v)) {s with heap:=h',toks:=a5}):
  jX (a9 prog w) A (.builtin "max.loop" ⟨[.ref I,.none,.ref S],[(eR "default",d)]⟩) R s:=by
 have wS:S∉wr:=λh=>jQ (W.sub _ h);have nm:(toString "max"++toString ".loop":String)="max.loop":=by decide
 refine mU X0 ?_;rw[n7 ya _];refine gE (sx (.ref S)) (sI hZ rfl ?_);by_cases hz:n=0
 .refine gE (tryCatch (ip (.ref I)) _) (ng (W.done s _ _ (hz▸st) λh' a5 bY=>?_));refine ax (Fd (bj ?_));exact h0 hz h' a5 λb o dp _ e=>bY b o dp e
 .refine gE (tryCatch (ip (.ref I)) _) (ng (W.item 0 s _ _ (A' hz) st λv h' a5 aa fT bY=>?_));have jM:=bY S _ wS hZ;refine gE (EZ S (λ_=>#[v,v])) (uH jM rfl ?_);rw[nm];refine bj ⟨m7 ya _,ad8 W eu ay S jQ _ 0 _ v _ rfl (A' hz) (W.frame _ _ _ fT λb pH o e=>(jT _ _ (λh:S=b=>jQ (by rw[h];exact pH))).trans e) aa (pg _ jM rfl) λv2 ai lu lp k_=>?_⟩;exact af (A' hz) v2 ai lu lp λb o dp dq e=>k_ b o dp dq ((jT _ _ (cR dq)).trans (bY b o dp e))
theorem abY(a v:Value):yj "max" ⟨[a],[(eR "default",v)]⟩:=by unfold yj;kernel_rfl
theorem ad9{prog:bO}{w:bx}{A:c0}{E:cD}{s:aF}{l:Addr}{items:kn}{val:Nat->Int}{d:Value}{Q:cD}(dm:A.in1.handled=none)(aj:s.heap.IsList l items)(bz:∀i v,items[i]?=some v->∃t,v=oh (val i) t)(h0:items.size=0->∀h' a5,(∀b o,s.heap.get? b=some o->h'.get? b=some o)->Q d {s with heap:=h',toks:=a5})(af:0<items.size->∀t h' a5,(∀b o,s.heap.get? b=some o->h'.get? b=some o)->Q (oh (val (gb (λi j=>decide (val i>val j)) (items.size-1))) t) {s with heap:=h',toks:=a5}):
  aQ (a9 prog w) A (call (.builtin "max") [.ref l] [(eR "default",d)]) Q E s:=by
 have nm:(toString "max"++toString ".loop":String)="max.loop":=by decide
 obtain⟨ol,m1,_⟩:=id aj;have h2:l≠s.heap.objs.size:=eN (dG m1);refine XZ PySem.F.kind_max PySem.F.plain_max PySem.F.entry_max (abY _ _) ?_;refine gE (Vk "max" ["key","default"] 0 ⟨[],[(eR "default",d)]⟩) (w9 (show _=pure [none,some d]from rfl) ?_);refine ax (bj ?_);refine ax (zR aj ?_);refine ax (o9 ?_);rw[nm];have W:=Bz (prog:=prog) (w:=w) (A:=A.in1) dm s.heap.objs.size l h2 items;have jh:(s.heap.push {cls:=.type "list_iterator",data:=.fields #[.ref l,.int 0 0]}).objs.size=s.heap.objs.size+1:=xN ..;have cP:=dG m1;have tG:(s.heap.push {cls:=.type "list_iterator",data:=.fields #[.ref l,.int 0 0]}).get? s.heap.objs.size=some {cls:=.type "list_iterator",data:=.fields #[.ref l,.int 0 0]}:=gq _ rfl;have j6:=aj.push {cls:=.type "list_iterator",data:=.fields #[.ref l,.int 0 0]};have k1:∀b o,s.heap.get? b=some o->(s.heap.push {cls:=.type "list_iterator",data:=.fields #[.ref l,.int 0 0]}).get? b=some o:=λb o e=>dM _ e;dsimp only;generalize s.heap.push {cls:=.type "list_iterator",data:=.fields #[.ref l,.int 0 0]}=r4 at jh tG j6 k1⊢;refine bj ⟨m7 ya _,abX W _ (CmpOf.ints_gt val bz) r4.objs.size (by rw[jh];simp only[c',dX,or_false,not_or];exact⟨Ld _,cR (ue m1)⟩) ⟨⟨_,dM _ tG,rfl,rfl⟩,j6.push _⟩ (gq _ rfl) (λhz h' a5 bY=>?_) λhz v h' a5 aa bY=>?_⟩
 .exact h0 hz h' a5 λb o e=>bY b o (by simp only[c',dX,or_false];exact Ab e) (by rw[jh];exact ue e) (dM _ (k1 b o e))
 .obtain⟨eP,rfl⟩:=bz _ v aa;exact af hz eP h' a5 λb o e=>bY b o (by simp only[c',dX,or_false];exact Ab e) (by rw[jh];exact ue e) (dM _ (k1 b o e))
theorem aea{prog:bO}{w:bx}{A:c0}{R:nu->aF->Prop}{I:Addr}{cp wr:bS}{n:Nat}{P:Nat->Value->Prop}{St:Nat->Heap->Prop}{d:Value}(W:te prog w A.in1 I cp wr n P St)(eu:hR)(ay:CmpOf prog w A.in1 .Lt P eu)(S:Addr)(jQ:S∉cp):
  ∀(k j:Nat)(s:aF)(gB:Value)(c:Nat),n-(j+1)=k->j+1<=n->St (j+1) s.heap->P (gb eu j) gB->s.heap.get? S=some ⟨.type "list",none,.seq #[gB,gB] c,#[]⟩->
   (∀v h' a5,P (gb eu (n-1)) v->(∀b o,b∉wr->b≠S->s.heap.get? b=some o->h'.get? b=some o)->R (.ok (.ret v)) {s with heap:=h',toks:=a5})->
   jX (a9 prog w) A (.builtin "min.loop" ⟨[.ref I,.none,.ref S],[(eR "default",d)]⟩) R s:=by
 have wS:S∉wr:=λh=>jQ (W.sub _ h);have nm:(toString "min"++toString ".loop":String)="min.loop":=by decide
 intro k
 induction k with
 |zero=>
  intro j s gB c aX bL st hD hZ cU;have qA:j+1=n:=by omega
  refine mU Bj ?_;rw[n7 nr _];refine gE (sx (.ref S)) (sI hZ rfl (gE (tryCatch (ip (.ref I)) _) (ng (W.done s _ _ (qA▸st) λh' a5 bY=>?_))));refine gE (EZ S (λ_=>#[])) (uH (bY S _ wS hZ) rfl (ax (n2 (bj ?_))));exact cU gB _ a5 (by rw[<-qA];exact hD) λb o dp dq e=>(jT _ _ (cR dq)).trans (bY b o dp e)
 |succ k a6=>
  intro j s gB c aX bL st hD hZ cU;have lt:j+1<n:=by omega
  refine mU Bj ?_;rw[n7 nr _];refine gE (sx (.ref S)) (sI hZ rfl (gE (tryCatch (ip (.ref I)) _) (ng (W.item (j+1) s _ _ lt st λv h' a5 aa fT bY=>?_))));have jM:=bY S _ wS hZ;refine gE (tryCatch (mm [v,v] (Ē .Lt v gB >>=_)) _) (ng (iL (ax (ay (j+1) (gb eu j) v gB _ _ _ aa hD (ax (iL (o' (ax (n2 (bj ?_))))))))));cases U:eu (j+1) (gb eu j)with
  |true=>
   simp only[if_true];refine ax (uH jM rfl (ax (n2 ?_)));rw[nm];refine bj ⟨m7 nr _,a6 (j+1) _ v _ (by omega) lt (W.frame _ _ _ fT λb pH o e=>(jT _ _ (λh:S=b=>jQ (by rw[h];exact pH))).trans e) (by simp only[gb,U,if_true];exact aa) (pg _ jM rfl) λv2 ai lu lp k_=>?_⟩;exact cU v2 ai lu lp λb o dp dq e=>k_ b o dp dq ((jT _ _ (cR dq)).trans (bY b o dp e))
  |false=>
   simp only[uK,if_false];refine ax (n2 ?_);rw[nm];exact bj ⟨m7 nr _,a6 (j+1) _ gB c (by omega) lt fT (by simp only[gb,U,uK,if_false];exact hD) jM λv2 ai lu lp k_=>cU v2 ai lu lp λb o dp dq e=>k_ b o dp dq (bY b o dp e)⟩
theorem aby{prog:bO}{w:bx}{A:c0}{R:nu->aF->Prop}{I:Addr}{cp wr:bS}{n:Nat}{P:Nat->Value->Prop}{St:Nat->Heap->Prop}{d:Value}(W:te prog w A.in1 I cp wr n P St)(eu:hR)(ay:CmpOf prog w A.in1 .Lt P eu)(S:Addr)(jQ:S∉cp){s:aF}{c:Nat}(st:St 0 s.heap)(hZ:s.heap.get? S=some ⟨.type "list",none,.seq #[] c,#[]⟩)(h0:n=0->∀h' a5,(∀b o,b∉wr->b≠S->s.heap.get? b=some o->h'.get? b=some o)->R (.ok (.ret d)) {s with heap:=h',toks:=a5})(af:0<n->∀v h' a5,P (gb eu (n-1)) v->(∀b o,b∉wr->b≠S->s.heap.get? b=some o->h'.get? b=some o)->R (.ok (.ret v)) {s with heap:=h',toks:=a5}):
  jX (a9 prog w) A (.builtin "min.loop" ⟨[.ref I,.none,.ref S],[(eR "default",d)]⟩) R s:=by
 have wS:S∉wr:=λh=>jQ (W.sub _ h);have nm:(toString "min"++toString ".loop":String)="min.loop":=by decide
 refine mU Bj ?_;rw[n7 nr _];refine gE (sx (.ref S)) (sI hZ rfl ?_);by_cases hz:n=0
 .refine gE (tryCatch (ip (.ref I)) _) (ng (W.done s _ _ (hz▸st) λh' a5 bY=>?_));refine ax (Fd (bj ?_));exact h0 hz h' a5 λb o dp _ e=>bY b o dp e
 .refine gE (tryCatch (ip (.ref I)) _) (ng (W.item 0 s _ _ (A' hz) st λv h' a5 aa fT bY=>?_));have jM:=bY S _ wS hZ;refine gE (EZ S (λ_=>#[v,v])) (uH jM rfl ?_);rw[nm];refine bj ⟨m7 nr _,aea W eu ay S jQ _ 0 _ v _ rfl (A' hz) (W.frame _ _ _ fT λb pH o e=>(jT _ _ (λh:S=b=>jQ (by rw[h];exact pH))).trans e) aa (pg _ jM rfl) λv2 ai lu lp k_=>?_⟩;exact af (A' hz) v2 ai lu lp λb o dp dq e=>k_ b o dp dq ((jT _ _ (cR dq)).trans (bY b o dp e))
theorem abz(a v:Value):yj "min" ⟨[a],[(eR "default",v)]⟩:=by unfold yj;kernel_rfl
theorem aeb{prog:bO}{w:bx}{A:c0}{E:cD}{s:aF}{l:Addr}{items:kn}{val:Nat->Int}{d:Value}{Q:cD}(dm:A.in1.handled=none)(aj:s.heap.IsList l items)(bz:∀i v,items[i]?=some v->∃t,v=oh (val i) t)(h0:items.size=0->∀h' a5,(∀b o,s.heap.get? b=some o->h'.get? b=some o)->Q d {s with heap:=h',toks:=a5})(af:0<items.size->∀t h' a5,(∀b o,s.heap.get? b=some o->h'.get? b=some o)->Q (oh (val (gb (λi j=>decide (val i<val j)) (items.size-1))) t) {s with heap:=h',toks:=a5}):
  aQ (a9 prog w) A (call (.builtin "min") [.ref l] [(eR "default",d)]) Q E s:=by
 have nm:(toString "min"++toString ".loop":String)="min.loop":=by decide
 obtain⟨ol,m1,_⟩:=id aj;have h2:l≠s.heap.objs.size:=eN (dG m1);refine XZ aez aeA aey (abz _ _) ?_;refine gE (Vk "min" ["key","default"] 0 ⟨[],[(eR "default",d)]⟩) (w9 (show _=pure [none,some d]from rfl) ?_);refine ax (bj ?_);refine ax (zR aj ?_);refine ax (o9 ?_);rw[nm];have W:=Bz (prog:=prog) (w:=w) (A:=A.in1) dm s.heap.objs.size l h2 items;have jh:(s.heap.push {cls:=.type "list_iterator",data:=.fields #[.ref l,.int 0 0]}).objs.size=s.heap.objs.size+1:=xN ..;have cP:=dG m1;have tG:(s.heap.push {cls:=.type "list_iterator",data:=.fields #[.ref l,.int 0 0]}).get? s.heap.objs.size=some {cls:=.type "list_iterator",data:=.fields #[.ref l,.int 0 0]}:=gq _ rfl;have j6:=aj.push {cls:=.type "list_iterator",data:=.fields #[.ref l,.int 0 0]};have k1:∀b o,s.heap.get? b=some o->(s.heap.push {cls:=.type "list_iterator",data:=.fields #[.ref l,.int 0 0]}).get? b=some o:=λb o e=>dM _ e;dsimp only;generalize s.heap.push {cls:=.type "list_iterator",data:=.fields #[.ref l,.int 0 0]}=r4 at jh tG j6 k1⊢;refine bj ⟨m7 nr _,aby W _ (CmpOf.ints_lt val bz) r4.objs.size (by rw[jh];simp only[c',dX,or_false,not_or];exact⟨Ld _,cR (ue m1)⟩) ⟨⟨_,dM _ tG,rfl,rfl⟩,j6.push _⟩ (gq _ rfl) (λhz h' a5 bY=>?_) λhz v h' a5 aa bY=>?_⟩
 .exact h0 hz h' a5 λb o e=>bY b o (by simp only[c',dX,or_false];exact Ab e) (by rw[jh];exact ue e) (dM _ (k1 b o e))
 .obtain⟨eP,rfl⟩:=bz _ v aa;exact af hz eP h' a5 λb o e=>bY b o (by simp only[c',dX,or_false];exact Ab e) (by rw[jh];exact ue e) (dM _ (k1 b o e))
noncomputable def Ī(K:aV)(f:List Int->Int)(t:gi)(bk:TE):TE:=λσ H Q=>t σ H λvs H1=>sm bk AV σ H1 λzs ag=>∃tw a ns,zs=[tw]/\vs=[.ref a]/\aJ K ag a (ns.map V.int)/\(ns=[]->Q tw ag)/\(ns≠[]->Q (.int (f ns)) ag)
theorem Wg{val:Nat->Int}:∀k,gb (λi j=>decide (val i>val j)) k<=k/\∀j,j<=k->val j<=val (gb (λi j=>decide (val i>val j)) k)
 |0=>⟨cq _,λj h=>by rw[adI.mp h];exact sU _⟩
 |k+1=>by
  obtain⟨a,b⟩:=Wg (val:=val) k;simp only[gb];by_cases h:val (k+1)>val (gb (λi j=>decide (val i>val j)) k)
  .rw[bM (cu h)];refine⟨cq _,λj bL=>?_⟩;rcases s8 j (k+1)with af|af
   .exact abw (b j (by omega)) (abv h)
   .rw[show j=k+1 by omega];exact sU _
  .rw[bE (by rw[dJ h];exact fp)];refine⟨by omega,λj bL=>?_⟩;rcases s8 j (k+1)with af|af
   .exact b j (by omega)
   .rw[show j=k+1 by omega];omega
theorem Vq{val:Nat->Int}:∀k,gb (λi j=>decide (val i<val j)) k<=k/\∀j,j<=k->val (gb (λi j=>decide (val i<val j)) k)<=val j
 |0=>⟨cq _,λj h=>by rw[adI.mp h];exact sU _⟩
 |k+1=>by
  obtain⟨a,b⟩:=Vq (val:=val) k;simp only[gb];by_cases h:val (k+1)<val (gb (λi j=>decide (val i<val j)) k)
  .rw[bM (cu h)];refine⟨cq _,λj bL=>?_⟩;rcases s8 j (k+1)with af|af
   .exact abw (abv h) (b j (by omega))
   .rw[show j=k+1 by omega];exact sU _
  .rw[bE (by rw[dJ h];exact fp)];refine⟨by omega,λj bL=>?_⟩;rcases s8 j (k+1)with af|af
   .exact b j (by omega)
   .rw[show j=k+1 by omega];omega
noncomputable def uy(ns:g8):Int:=ns.getD (gb (λi j=>decide (ns.getD i 0>ns.getD j 0)) (ns.length-1)) 0
theorem ahO:i5 "max"=some (.builtin "max"):=by decide+kernel
end
theorem afR{X:bg}{e aD:Expr}{p bI pos:Pos}{t:gi}{bk:TE}(ay:X.calm=true)(bP:i3 X "max")(hm:X.mg "max"=none)(aK:fV X [e] t)(hd:bl X aD bk)(vM:(kO pos (k' [⟨some "default",aD,bI⟩] X.env)).all (·.1.isSome)=true:=by rfl)(OM:(kO pos (k' [⟨some "default",aD,bI⟩] X.env)).filterMap (·.1)=[eR "default"]:=by rfl)(he:dV [e] X.env=(false,eval e X.env)::dV [] X.env:=by rfl)(fP:(hA pos (dV [e] X.env)).any (·.1)=false:=by rfl)(ON:(kO pos (k' [⟨some "default",aD,bI⟩] X.env)).any (·.1.isNone)=false:=by rfl):
  bl X (.Call (.Name "max" p) [e] [⟨some "default",aD,bI⟩] pos) (Ī X.K uy t bk):=by
 intro pins s σ H Q I h;refine zO (wz I bP hm ahO ?_ (by decide) (by decide));refine alG fP ON (evalArgs_kw2 vM (bF (aK pos pins s σ H _ I h) λus s1⟨vs,H1,aR,r,q⟩=>bF ((V4 hd WS) pos pins s1 σ H1 _ aR q) λws s2⟨zs,ag,bD,rh,cZ⟩=>?_) he);obtain⟨tw,a,ns,rfl,rfl,aU,oT,bQ⟩:=cZ;obtain⟨u,rfl,ez⟩:=vals1 r;obtain⟨e5,rfl,gY⟩:=vals1 rh;cases ez;rw[OM];obtain⟨its,cg,pl,hz⟩:=bD.list aU;have hlen:ns.length=its.length:=by have:=cg.length;rwa [bp]at this
 refine ad9 (val:=λi=>ns.getD i 0) (items:=its.toArray) (bD.ok.hd ay) pl.isList (λi v ev=>?_) (λz h' a5 bY=>?_) λz t h' a5 bY=>?_
 .have rT:its[i]?=some v:=by simpa using ev
  have ar:i<ns.length:=by rw[hlen];exact(eM.mp rT).1
  obtain⟨u',cm,cw⟩:=cg.get (x:=V.int (ns.getD i 0)) (i:=i) (by rw[c9,dv ar];simp[eL,ar]);rw[rT]at cm;cases cm;exact cw
 .have dr:ns=[]:=x6.mp (by rw[hlen];simpa using z);exact⟨tw,ag,bD.kept bY,gY,oT dr⟩
 .have dr:ns≠[]:=λe=>by rw[e]at hlen;have:its=[]:=x6.mp hlen.symm;rw[this]at z;simp at z
  refine⟨.int (uy ns),ag,bD.kept bY,⟨t,?_⟩,bQ dr⟩;unfold uy;rw[hlen];simp
noncomputable def oK(ns:g8):Int:=ns.getD (gb (λi j=>decide (ns.getD i 0<ns.getD j 0)) (ns.length-1)) 0
theorem ahP:i5 "min"=some (.builtin "min"):=by decide+kernel
theorem afA{X:bg}{e aD:Expr}{p bI pos:Pos}{t:gi}{bk:TE}(ay:X.calm=true)(bP:i3 X "min")(hm:X.mg "min"=none)(aK:fV X [e] t)(hd:bl X aD bk)(vM:(kO pos (k' [⟨some "default",aD,bI⟩] X.env)).all (·.1.isSome)=true:=by rfl)(OM:(kO pos (k' [⟨some "default",aD,bI⟩] X.env)).filterMap (·.1)=[eR "default"]:=by rfl)(he:dV [e] X.env=(false,eval e X.env)::dV [] X.env:=by rfl)(fP:(hA pos (dV [e] X.env)).any (·.1)=false:=by rfl)(ON:(kO pos (k' [⟨some "default",aD,bI⟩] X.env)).any (·.1.isNone)=false:=by rfl):
  bl X (.Call (.Name "min" p) [e] [⟨some "default",aD,bI⟩] pos) (Ī X.K oK t bk):=by
 intro pins s σ H Q I h;refine zO (wz I bP hm ahP ?_ (by decide) (by decide));refine alG fP ON (evalArgs_kw2 vM (bF (aK pos pins s σ H _ I h) λus s1⟨vs,H1,aR,r,q⟩=>bF ((V4 hd WS) pos pins s1 σ H1 _ aR q) λws s2⟨zs,ag,bD,rh,cZ⟩=>?_) he);obtain⟨tw,a,ns,rfl,rfl,aU,oT,bQ⟩:=cZ;obtain⟨u,rfl,ez⟩:=vals1 r;obtain⟨e5,rfl,gY⟩:=vals1 rh;cases ez;rw[OM];obtain⟨its,cg,pl,hz⟩:=bD.list aU;have hlen:ns.length=its.length:=by have:=cg.length;rwa [bp]at this
 refine aeb (val:=λi=>ns.getD i 0) (items:=its.toArray) (bD.ok.hd ay) pl.isList (λi v ev=>?_) (λz h' a5 bY=>?_) λz t h' a5 bY=>?_
 .have rT:its[i]?=some v:=by simpa using ev
  have ar:i<ns.length:=by rw[hlen];exact(eM.mp rT).1
  obtain⟨u',cm,cw⟩:=cg.get (x:=V.int (ns.getD i 0)) (i:=i) (by rw[c9,dv ar];simp[eL,ar]);rw[rT]at cm;cases cm;exact cw
 .have dr:ns=[]:=x6.mp (by rw[hlen];simpa using z);exact⟨tw,ag,bD.kept bY,gY,oT dr⟩
 .have dr:ns≠[]:=λe=>by rw[e]at hlen;have:its=[]:=x6.mp hlen.symm;rw[this]at z;simp at z
  refine⟨.int (oK ns),ag,bD.kept bY,⟨t,?_⟩,bQ dr⟩;unfold oK;rw[hlen];simp
theorem ahQ{ns:g8}(h:ns≠[]):uy ns∈ns/\∀x∈ns,x<=uy ns:=by
 have aO:0<ns.length:=A3.mpr h;obtain⟨a,b⟩:=Wg (val:=λi=>ns.getD i 0) (ns.length-1);have ar:gb (λi j=>decide (ns.getD i 0>ns.getD j 0)) (ns.length-1)<ns.length:=by omega
 refine⟨?_,λx av=>?_⟩
 .unfold uy;rw[eL,dv ar];exact qf ar
 .obtain⟨j,bL,rfl⟩:=K5.mp av;have:=b j (by omega);have e:ns.getD j 0=ns[j]:=by rw[eL,dv bL];rfl
  rw[<-e];exact this
theorem XI{ns:g8}(h:ns≠[]):oK ns∈ns/\∀x∈ns,oK ns<=x:=by
 have aO:0<ns.length:=A3.mpr h;obtain⟨a,b⟩:=Vq (val:=λi=>ns.getD i 0) (ns.length-1);have ar:gb (λi j=>decide (ns.getD i 0<ns.getD j 0)) (ns.length-1)<ns.length:=by omega
 refine⟨?_,λx av=>?_⟩
 .unfold oK;rw[eL,dv ar];exact qf ar
 .obtain⟨j,bL,rfl⟩:=K5.mp av;have:=b j (by omega);have e:ns.getD j 0=ns[j]:=by rw[eL,dv bL];rfl
  rw[<-e];exact this
theorem abA{prog:bO}{w:bx}{A:c0}{R:nu->aF->Prop}{I:Addr}{cp wr:bS}{n:Nat}{P:Nat->Value->Prop}{St:Nat->Heap->Prop}(W:te prog w A.in1 I cp wr n P St)(eu:hR)(ay:CmpOf prog w A.in1 .Lt P eu)(S:Addr)(jQ:S∉cp):
  ∀(k j:Nat)(s:aF)(gB:Value)(c:Nat),n-(j+1)=k->j+1<=n->St (j+1) s.heap->P (gb eu j) gB->s.heap.get? S=some ⟨.type "list",none,.seq #[gB,gB] c,#[]⟩->
   (∀v h' a5,P (gb eu (n-1)) v->(∀b o,b∉wr->b≠S->s.heap.get? b=some o->h'.get? b=some o)->R (.ok (.ret v)) {s with heap:=h',toks:=a5})->
   jX (a9 prog w) A (.builtin "min.loop" ⟨[.ref I,.none,.ref S],[]⟩) R s:=by
 have wS:S∉wr:=λh=>jQ (W.sub _ h);have nm:(toString "min"++toString ".loop":String)="min.loop":=by decide
 intro k
 induction k with
 |zero=>
  intro j s gB c aX bL st hD hZ cU;have qA:j+1=n:=by omega
  refine mU Bj ?_;rw[n7 nr _];refine gE (sx (.ref S)) (sI hZ rfl (gE (tryCatch (ip (.ref I)) _) (ng (W.done s _ _ (qA▸st) λh' a5 bY=>?_))));refine gE (EZ S (λ_=>#[])) (uH (bY S _ wS hZ) rfl (ax (n2 (bj ?_))));exact cU gB _ a5 (by rw[<-qA];exact hD) λb o dp dq e=>(jT _ _ (cR dq)).trans (bY b o dp e)
 |succ k a6=>
  intro j s gB c aX bL st hD hZ cU;have lt:j+1<n:=by omega
  refine mU Bj ?_;rw[n7 nr _];refine gE (sx (.ref S)) (sI hZ rfl (gE (tryCatch (ip (.ref I)) _) (ng (W.item (j+1) s _ _ lt st λv h' a5 aa fT bY=>?_))));have jM:=bY S _ wS hZ;refine gE (tryCatch (mm [v,v] (Ē .Lt v gB >>=_)) _) (ng (iL (ax (ay (j+1) (gb eu j) v gB _ _ _ aa hD (ax (iL (o' (ax (n2 (bj ?_))))))))));cases U:eu (j+1) (gb eu j)with
  |true=>
   simp only[if_true];refine ax (uH jM rfl (ax (n2 ?_)));rw[nm];refine bj ⟨m7 nr _,a6 (j+1) _ v _ (by omega) lt (W.frame _ _ _ fT λb pH o e=>(jT _ _ (λh:S=b=>jQ (by rw[h];exact pH))).trans e) (by simp only[gb,U,if_true];exact aa) (pg _ jM rfl) λv2 ai lu lp k_=>?_⟩;exact cU v2 ai lu lp λb o dp dq e=>k_ b o dp dq ((jT _ _ (cR dq)).trans (bY b o dp e))
  |false=>
   simp only[uK,if_false];refine ax (n2 ?_);rw[nm];exact bj ⟨m7 nr _,a6 (j+1) _ gB c (by omega) lt fT (by simp only[gb,U,uK,if_false];exact hD) jM λv2 ai lu lp k_=>cU v2 ai lu lp λb o dp dq e=>k_ b o dp dq (bY b o dp e)⟩
theorem abd{prog:bO}{w:bx}{A:c0}{R:nu->aF->Prop}{I:Addr}{cp wr:bS}{n:Nat}{P:Nat->Value->Prop}{St:Nat->Heap->Prop}(W:te prog w A.in1 I cp wr n P St)(eu:hR)(ay:CmpOf prog w A.in1 .Lt P eu)(S:Addr)(jQ:S∉cp){s:aF}{c:Nat}(st:St 0 s.heap)(hZ:s.heap.get? S=some ⟨.type "list",none,.seq #[] c,#[]⟩)(hz:0<n)(af:∀v h' a5,P (gb eu (n-1)) v->(∀b o,b∉wr->b≠S->s.heap.get? b=some o->h'.get? b=some o)->R (.ok (.ret v)) {s with heap:=h',toks:=a5}):
  jX (a9 prog w) A (.builtin "min.loop" ⟨[.ref I,.none,.ref S],[]⟩) R s:=by
 have wS:S∉wr:=λh=>jQ (W.sub _ h);have nm:(toString "min"++toString ".loop":String)="min.loop":=by decide
 refine mU Bj ?_;rw[n7 nr _];refine gE (sx (.ref S)) (sI hZ rfl ?_);refine gE (tryCatch (ip (.ref I)) _) (ng (W.item 0 s _ _ hz st λv h' a5 aa fT bY=>?_));have jM:=bY S _ wS hZ;refine gE (EZ S (λ_=>#[v,v])) (uH jM rfl ?_);rw[nm];refine bj ⟨m7 nr _,abA W eu ay S jQ _ 0 _ v _ rfl hz (W.frame _ _ _ fT λb pH o e=>(jT _ _ (λh:S=b=>jQ (by rw[h];exact pH))).trans e) aa (pg _ jM rfl) λv2 ai lu lp k_=>?_⟩;exact af v2 ai lu lp λb o dp dq e=>k_ b o dp dq ((jT _ _ (cR dq)).trans (bY b o dp e))
theorem abB(a:Value):yj "min" ⟨[a],[]⟩:=by unfold yj;kernel_rfl
theorem aec{prog:bO}{w:bx}{A:c0}{E:cD}{s:aF}{l:Addr}{items:kn}{val:Nat->Int}{Q:cD}(dm:A.in1.handled=none)(aj:s.heap.IsList l items)(bz:∀i v,items[i]?=some v->∃t,v=oh (val i) t)(hz:0<items.size)(af:∀t h' a5,(∀b o,s.heap.get? b=some o->h'.get? b=some o)->Q (oh (val (gb (λi j=>decide (val i<val j)) (items.size-1))) t) {s with heap:=h',toks:=a5}):
  aQ (a9 prog w) A (call (.builtin "min") [.ref l] []) Q E s:=by
 have nm:(toString "min"++toString ".loop":String)="min.loop":=by decide
 obtain⟨ol,m1,_⟩:=id aj;have h2:l≠s.heap.objs.size:=eN (dG m1);refine XZ aez aeA aey (abB _) ?_;refine gE (Vk "min" ["key","default"] 0 ⟨[],[]⟩) (w9 (show _=pure [none,none]from rfl) ?_);refine ax (bj ?_);refine ax (zR aj ?_);refine ax (o9 ?_);rw[nm];have W:=Bz (prog:=prog) (w:=w) (A:=A.in1) dm s.heap.objs.size l h2 items;have jh:(s.heap.push {cls:=.type "list_iterator",data:=.fields #[.ref l,.int 0 0]}).objs.size=s.heap.objs.size+1:=xN ..;have cP:=dG m1;have tG:(s.heap.push {cls:=.type "list_iterator",data:=.fields #[.ref l,.int 0 0]}).get? s.heap.objs.size=some {cls:=.type "list_iterator",data:=.fields #[.ref l,.int 0 0]}:=gq _ rfl;have j6:=aj.push {cls:=.type "list_iterator",data:=.fields #[.ref l,.int 0 0]};have k1:∀b o,s.heap.get? b=some o->(s.heap.push {cls:=.type "list_iterator",data:=.fields #[.ref l,.int 0 0]}).get? b=some o:=λb o e=>dM _ e;dsimp only;generalize s.heap.push {cls:=.type "list_iterator",data:=.fields #[.ref l,.int 0 0]}=r4 at jh tG j6 k1⊢;refine bj ⟨m7 nr _,abd W _ (CmpOf.ints_lt val bz) r4.objs.size (by rw[jh];simp only[c',dX,or_false,not_or];exact⟨Ld _,cR (ue m1)⟩) ⟨⟨_,dM _ tG,rfl,rfl⟩,j6.push _⟩ (gq _ rfl) hz λv h' a5 aa bY=>?_⟩;obtain⟨eP,rfl⟩:=bz _ v aa;exact af eP h' a5 λb o e=>bY b o (by simp only[c',dX,or_false];exact Ab e) (by rw[jh];exact ue e) (dM _ (k1 b o e))
theorem abC{X:bg}(ay:X.calm=true):j8 X (.builtin "min") (λxs H Q=>∃a ns,xs=[.ref a]/\aJ X.K H a (ns.map V.int)/\ns≠[]/\Q (.int (oK ns)) H):=by
 intro pins s σ H xs us Q I r h;obtain⟨a,ns,rfl,aU,dr,q⟩:=h;obtain⟨u,rfl,ez⟩:=vals1 r;cases ez;obtain⟨its,cg,pl,hz⟩:=I.list aU;have hlen:ns.length=its.length:=by have:=cg.length;rwa [bp]at this
 refine aec (val:=λi=>ns.getD i 0) (items:=its.toArray) (I.ok.hd ay) pl.isList (λi v ev=>?_) (by rw[g7,<-hlen];exact A3.mpr dr) λt h' a5 bY=>?_
 .have rT:its[i]?=some v:=by simpa using ev
  have ar:i<ns.length:=by rw[hlen];exact(eM.mp rT).1
  obtain⟨u',cm,cw⟩:=cg.get (x:=V.int (ns.getD i 0)) (i:=i) (by rw[c9,dv ar];simp[eL,ar]);rw[rT]at cm;cases cm;exact cw
 .refine⟨.int (oK ns),H,I.kept bY,⟨t,?_⟩,q⟩;unfold oK;rw[hlen];simp
end ct
namespace dW
open PySem ao ct dx
noncomputable def TabAt(H:ae)(p:Addr)(D:l_):Prop:=∃kvs,gD H p (.b0 kvs)/\Tab kvs D
theorem TabAt.get{H:ae}{p:Addr}{D:l_}(T:TabAt H p D)(g:Str):iY H p (.str g) ((D g).map V.int):=by obtain⟨kvs,r,t⟩:=T;exact .inl ⟨kvs,fK g,r,rfl,(t.at_ g).symm⟩
noncomputable def th(Da Db:l_)(g:Str)(t:Int):Bool:=match Db g with
 |none=>false
 |some u=>decide (some (t+u)=Da g)
inductive ahk(vs:aZ)(H:ae)(Q:ba)(bN:b6):Prop where
 |mk (r f hC hD:Addr) (hs:bc) (d:dx.gD) (kvs:List (a'×ao.V)) (g:Str) (Da Db:l_) (bV:vs=[.ref r,.ref f,.str g]) (bA:H r=some (.tup (lU hs d))) (cn:H f=some (.b0 kvs)) (di:b1 kvs (fK (S (hs.getD d.a [])):a')=some (.ref hC)) (d8:b1 kvs (fK (S (hs.getD d.b [])):a')=some (.ref hD)) (fI:TabAt H hC Da) (iM:TabAt H hD Db) (lx:(∀u,Db g=some u->∃v,Da g=some v)) (nh:Q (.aM (th Da Db g d.t)) H)
noncomputable def Lm:cM:=λvs H Q bN=>ahk vs H Q bN
noncomputable abbrev i_(hs:bc)(ds:bT)(h:Str):Str->Option Int:=λg=>d5.dist (j1 hs ds) h g
noncomputable def Je(hs:bc)(ds:bT)(i:Int):Str:=S (hs.getD (ds.getD i.toNat fc).b [])
noncomputable def sO(hs:bc)(ds:bT)(h g:Str)(i:Int):Bool:=th (i_ hs ds h) (i_ hs ds (Je hs ds i)) g (ds.getD i.toNat fc).t
noncomputable def fit(hs:bc)(ds:bT)(h g:Str):List Int:=(iI hs ds (·.a) h).filter (sO hs ds h g)
noncomputable def best(hs:bc)(ds:bT)(h g:Str):Int:=oK (fit hs ds h g)
theorem XK{hs:bc}{ds:bT}(oz:∀e∈j1 hs ds,1<=e.t){h g:Str}{v:Int}(bz:i_ hs ds h g=some v)(aT:h≠g):fit hs ds h g≠[]:=by
 obtain⟨_,e,he,u,au,nE,ev⟩:=(d5.Zz oz g).other oz aT bz;obtain⟨d,hd,rfl⟩:=b4.mp he;obtain⟨i,ar⟩:=x4 hd;have aj:=(eM.mp ar).1;have cJ:ds.getD i fc=d:=wd ar;refine List.ne_nil_of_mem (a:=(i:Int)) (gJ.mpr ⟨?_,?_⟩)
 .unfold iI zJ;refine b4.mpr ⟨i,gJ.mpr ⟨lz.mpr aj,?_⟩,rfl⟩;have Zp:S (hs.getD d.a [])=h:=au;rw[cJ,Zp];exact cu rfl
 .unfold sO th Je;rw[mH,cJ];have am8:i_ hs ds (S (hs.getD d.b [])) g=some u:=nE;have rT:v=u+d.t:=ev;rw[am8,bz];refine cu ?_;congr 1;omega
theorem Vr{hs:bc}{ds:bT}(oz:∀e∈j1 hs ds,1<=e.t){h g:Str}{v:Int}(bz:i_ hs ds h g=some v)(aT:h≠g):best hs ds h g∈iI hs ds (·.a) h/\sO hs ds h g (best hs ds h g)=true:=
 gJ.mp (XI (XK oz bz aT)).1
structure pd(jE:Str->Str->Int)(L:b9)(kvs:er)(M:Str->Str->Prop):Prop where
 yes:∀h g,M h g->b1 kvs (fm h g)=some (.int (jE h g))
 no:∀h g,¬M h g->b1 kvs (fm h g)=none
 key:∀k∈kvs.map (·.1),∃h g,k=fm h g/\h∈L/\g∈L
 aG:(kvs.map (·.1)).Nodup
theorem zK{h g h' g':Str}(e:fm h g=fm h' g'):h=h'/\g=g':=by unfold fm at e;simp only[FY,Sum.inr.injEq,and_true]at e;exact e
theorem Vs{κ:Type}[DecidableEq κ]{kvs:List (κ×ao.V)}{k:κ}{u:ao.V}(v:ao.V)(h:b1 kvs k=some u):(d7 kvs k v).map (·.1)=kvs.map (·.1):=by unfold d7;rw[bM (by rw[oy,h];rfl),jA];refine A4 λq _=>?_;show(if q.1=k then(q.1,v)else q).1=q.1;split<;>rfl
theorem pd.put{jE:Str->Str->Int}{L:b9}{kvs:er}{M:Str->Str->Prop}(B:pd jE L kvs M){h g:Str}(dm:h∈L)(bP:g∈L):pd jE L (d7 kvs (fm h g) (.int (jE h g))) (λh' g'=>M h' g'\/(h'=h/\g'=g)):=by
 refine⟨λh' g' m=>?_,λh' g' m=>?_,?_,?_⟩
 .rw[qD];by_cases e:fm h' g'=fm h g
  .obtain⟨rfl,rfl⟩:=zK e;rw[bM rfl]
  .rw[bE e];refine B.yes h' g' (m.resolve_right λz=>e ?_);rw[z.1,z.2]
 .rw[qD,bE λe=>m (.inr (zK e))];exact B.no h' g' λz=>m (.inl z)
 .intro k aX;cases bz:b1 kvs (fm h g)with
  |none=>
   rw[y0 _ bz,eU]at aX;rcases hj.mp aX with z|z
   .exact B.key k z
   .exact⟨h,g,hr.mp z,dm,bP⟩
  |some u=>
   rw[Vs _ bz]at aX;exact B.key k aX
 .cases bz:b1 kvs (fm h g)with
  |none=>exact ae7 _ B.aG bz
  |some u=>rw[Vs _ bz];exact B.aG
theorem pd.iff{jE:Str->Str->Int}{L:b9}{kvs:er}{M mM:Str->Str->Prop}(B:pd jE L kvs M)(e:∀h g,M h g↔mM h g):pd jE L kvs mM:=
 ⟨λh g m=>B.yes h g ((e h g).mpr m),λh g m=>B.no h g λz=>m ((e h g).mp z),B.key,B.aG⟩
theorem pd.eh{jE:Str->Str->Int}{L:b9}{kvs:er}{M:Str->Str->Prop}(B:pd jE L kvs M)(aj:L.length<=12):kvs.length<=144:=by
 have af:=IJ (L:=L.flatMap λh=>L.map (fm h)) B.aG λk aX=>by obtain⟨h,g,rfl,dm,bP⟩:=B.key k aX;exact K4.mpr ⟨h,dm,b4.mpr ⟨g,bP,rfl⟩⟩
 have ai:(L.flatMap λh=>L.map (fm h)).length=L.length*L.length:=by simp[acX,List.map_const']
 rw[ai,bp]at af;exact eQ af (adL aj aj)
theorem afB{H H':ae}{a:Addr}(aH:aN H H')(z:ee):aN (upd H a z) (upd H' a z):=λb o e=>by
 by_cases U:b=a
 .rw[U,aP]at e⊢;exact e
 .rw[aA U]at e⊢;exact aH b o e
theorem aef{H H':ae}{a:Addr}{u z:ee}(aK:H a=some u)(aH:aN (upd H a z) H'):aN H (upd H' a u):=λb o e=>by
 by_cases U:b=a
 .rw[U,aP];rw[U,aK]at e;exact e
 .rw[aA U];exact aH b o (by rw[aA U];exact e)
section
variable{P:bO}{w:bx}{K:aV}{mg:cI}{base:Heap}
noncomputable abbrev Bd:Stmt:=top 39
theorem Yv:dB ["road","far_from","goal","behind"] ["road","far_from","goal"] (c7 Bd):=⟨rfl,rfl,rfl,by decide+kernel,rfl,by decide+kernel,by decide+kernel⟩
theorem ahl{f:Addr}{fd:cF}(F:bB K "begins_shortest" "begins_shortest" Bd f fd):aL P w K mg base a8 1 f fd ["road","far_from","goal"] Lm:=by
 refine F.ok Yv (λvs H Q E h=>?_) (λcdv A outer s H vs Q E aq h=>?_)
 .obtain⟨r,rU,hC,hD,hs,d,kvs,g,Da,Db,rfl,_⟩:=h;rfl
 .obtain⟨r,rU,hC,hD,hs,d,kvs,g,Da,Db,rfl,cU,hf,Jv,gB,vb,vc,bz,q⟩:=h;refine⟨_,(bh (da (i:=3) Yv.aG rfl (cb rfl) (TJ (iV aq) (lw (iV aq) (aa 1) (cv fa (aa 0) aW (λ_ _=>rfl)) (λ_ _=>rfl)) (aa 2) ⟨rfl,rfl,rfl,rfl⟩))
   (br (c_ (jK (i6 Un (aa 3) kU (dz _)) (m3 (i6 i9 (bK ib (cv fa (aa 0) aW (λ_ _=>rfl)) (aa 3)) (lw (iV aq) (lw (iV aq) (aa 1) (cv fa (aa 0) aW (λ_ _=>rfl)) (λ_ _=>rfl)) (aa 2) (λ_ _=>rfl)) (dz _))))))),?_⟩
  have ga:=iY.k (k:=fK (S (hs.getD d.a []))) hf;have vH:=iY.k (k:=fK (S (hs.getD d.b []))) hf;rw[Jv]at ga;rw[gB]at vH;have b_:=vb.get g;have dc:=vc.get g;unfold th at q;have PX:xP H hD:=by obtain⟨Qb,r0,_⟩:=vc;exact .inl ⟨Qb,r0⟩
  refine⟨_,rfl,_,rfl,r,_,_,_,rfl,rfl,cN.of cU,rfl,rU,_,rfl,vH,hD,rfl,PX,_,rfl,_,dc,_,rfl,?_⟩;cases U:Db g with
  |none=>
   rw[U]at q;exact⟨rfl,_,rfl,ew (by decide) q⟩
  |some u=>
   rw[U]at q;obtain⟨v,bz⟩:=bz u U;have ZZ:=b_;rw[bz]at ZZ q;refine⟨rfl,_,rfl,fH (by simp) ⟨_,rfl,r,_,_,_,rfl,rfl,cN.of cU,rfl,_,rfl,_,_,rfl,rfl,_,rfl,_,rfl,r,_,_,_,rfl,rfl,cN.of cU,rfl,rU,_,rfl,ga,_,rfl,hC,_,rfl,ZZ,rfl,?_⟩⟩;have pK:decide (V.int (d.t+u)=V.int v)=decide (some ((d.t:Int)+u)=some v):=by simp
   rw[pK];exact q
theorem Vt{hs:bc}{y:Str}(h:y∈hs.map S):inD (.str y) (bR hs)=true:=by
 obtain⟨x,av,rfl⟩:=b4.mp h;obtain⟨k,aX,eg⟩:=mJ av;have e:hs.getD k []=x:=by rw[eL,dv aX,eg];rfl
 have:=Ur aX
 rwa [e]at this
theorem Jt{hs:bc}{h g:Str}(a:h∈hs.map S)(b:g∈hs.map S)(n:h≠g):hy (bR hs) (.str h) (.str g)=true:=by unfold hy;rw[Vt a,Vt b,Vx,dJ n];rfl
theorem uq{H:ae}{hs:bc}(G:Good hs){c:Str}(h:c∈hs.map S):dw H (.str c) (.str c):=by obtain⟨x,av,rfl⟩:=b4.mp h;have n:=G.nm x av;exact .str _ (by rw[ra];have:=n.2.1;omega) (IV n)
noncomputable def Yw(H1 H:ae)(q:Addr)(nH:List (a'×ao.V))(hs:bc)(ds:bT)(h:Str):Prop:=∃(p:Addr)(cf:List (a'×ao.V)),b1 nH (fK h:a')=some (.ref p)/\p≠q/\H1 p=none/\H p=some (.b0 cf)/\Tab cf (i_ hs ds h)
theorem nQ{H H':ae}{p:Addr}(aH:aN H H')(aO:H' p=none):H p=none:=by
 cases e:H p with
 |none=>rfl
 |some o=>rw[aH _ _ e]at aO;cases aO
theorem h4{H:ae}{a b:Addr}{o:ee}(aK:H a=some o)(U:H b=none):a≠b:=λe=>by rw[e,U]at aK;cases aK
theorem YJ{hs:bc}{i:Nat}{v:ao.V}(e:(cK hs)[i]?=some v):∃h,v=.str h/\(hs.map S)[i]?=some h:=by unfold cK at e;rw[c9]at e;obtain⟨x,av,rfl⟩:=fJ.mp e;exact⟨S x,rfl,by rw[c9,av];rfl⟩
theorem Š{κ:Type}[DecidableEq κ]{k:κ}{x:ao.V}:∀{kvs:List (κ×ao.V)},(k,x)∈kvs->(b1 kvs k).isSome=true:=λ{kvs}h=>by rw[<-oy];exact qe.mpr ⟨_,h,cu rfl⟩
theorem ul{κ:Type}[DecidableEq κ]{k:κ}{kvs:List (κ×ao.V)}(h:(b1 kvs k).isSome=true):∃(j:Nat)(x:ao.V),kvs[j]?=some (k,x):=by rw[<-oy]at h;obtain⟨⟨pT,x⟩,hm,e⟩:=qe.mp h;obtain⟨j,bL⟩:=x4 hm;exact⟨j,x,by rw[bL,show pT=k from ju e]⟩
theorem afC{hs:bc}{ds:bT}(R:∀d∈ds,d.Ok hs.length){h g:Str}{u:Int}(p:d5.Path (j1 hs ds) h g u)(hm:h∈hs.map S):g∈hs.map S:=by
 cases p with
 |nil=>exact hm
 |snoc e _ he=>
  obtain⟨d,hd,rfl⟩:=b4.mp he;exact zC (R d hd).b
theorem Vu{hs:bc}{ds:bT}{h:Str}{i:Nat}{v:ao.V}(e:((iI hs ds (·.a) h).map V.int)[i]?=some v):∃(k:Nat)(d:dx.gD),v=.int (k:Int)/\ds[k]?=some d/\S (hs.getD d.a [])=h:=by obtain⟨z,hz,rfl⟩:=b4.mp (eH e);unfold iI zJ at hz;obtain⟨k,aX,rfl⟩:=b4.mp hz;obtain⟨af,ai⟩:=gJ.mp aX;have aj:=lz.mp af;have aB:ds[k]?=some ds[k]:=dv aj;refine⟨k,ds[k],rfl,aB,?_⟩;rw[wd aB]at ai;have:=ju ai;cases this;rfl
theorem Ji{b3:TE}{g:jB}{u:e8}{D:Ends}{σ:ao.St}{H:ae}(h:b3 σ H λv H1=>g v σ H1 (u D)):lR (rv b3 g) u D σ H:=h
end
theorem afD{K:aV}{dh:TI}{cs:lD}{tt:TT}{b3:TE}{σ rest:ao.St}{H:ae}{Q:ba}{xs:aZ}(hw:∀R:f9->ae->Prop,(∀p H1,H p=none->aN H H1->H1 p=some (.lst xs)->R (mI K p) H1)->dh σ H R)(ij:il cs σ=none::rest)(aj:xs.length<sizeLine)(p:ao.V->Bool)(f:ao.V->ao.V)(test:∀(i:Nat)(x:ao.V)(ag:ae)(R:Bool->ae->Prop),xs[i]?=some x->aN H ag->(∀bw,aN ag bw->R (p x) bw)->tt (some x::rest) ag R)(elt:∀(i:Nat)(x:ao.V)(ag:ae)(R:ba),xs[i]?=some x->p x=true->aN H ag->(∀bw,aN ag bw->R (f x) bw)->b3 (some x::rest) ag R)(fin:∀(D:Addr)(H':ae),H D=none->H' D=some (.lst ((xs.filter p).map f))->aN H H'->Q (.ref D) H'):n1 dh cs (hX 0) tt b3 σ H Q:=
 hw _ λq H1 auE s1 aU=>KX ij (tZ (aJ.of aU)) aj p f (λi x ag R ex aH h=>test i x ag R ex (s1.trans aH) h) (λi x ag R ex aqG aH h=>elt i x ag R ex aqG (s1.trans aH) h) λD H' q6 bR aH=>fin D H' (nQ s1 q6) bR (s1.trans aH)
noncomputable def Told(hs:bc)(ds:bT)(i:Nat)(h g:Str):Prop:=(∃j,j<i/\(hs.map S)[j]?=some h)/\h≠g/\(i_ hs ds h g).isSome=true
structure nC(hs:bc)(ds:bT)(kvs:er):Prop where
 jE:pd (best hs ds) (hs.map S) kvs (λh g=>h∈hs.map S/\h≠g/\(i_ hs ds h g).isSome=true)
section
variable{P:bO}{w:bx}{K:aV}{mg:cI}{base:Heap}
noncomputable abbrev zu:Stmt:=top 40
theorem sP:dB ["net","roads","far_from","house","ways","goal","fitting"] ["net"] (c7 zu):=⟨rfl,rfl,rfl,by decide+kernel,rfl,by decide+kernel,by decide+kernel⟩
inductive aiZ(C az:Addr)(vs:aZ)(H:ae)(Q:ba)(bN:b6):Prop where
 |mk (n bt bu:Addr) (hs:bc) (rs:bS) (ds:bT) (bV:vs=[.ref n]) (bA:jO az H n bt bu (cK hs) (aC rs)) (cn:Good hs) (di:ix H hs rs ds) (d8:rs.length<=40) (fI:∀(x t:Addr)(H':ae)(kvs:er),H x=none->H t=none->aN H H'->pQ C az H' x n t bt bu (cK hs) (aC rs) kvs->nC hs ds kvs->Q (.ref x) H')
noncomputable def Gf(C az:Addr):cM:=λvs H Q bN=>aiZ C az vs H Q bN
inductive ajn(n d6 gX uj:Addr)(hs:bc)(ds:bT)(H1:ae)(i:Nat)(σ:ao.St)(b2:ae):Prop where
 |mk (nH:List (a'×ao.V)) (w3:l') (bV:σ=[some (.ref n),some (.ref d6),some (.ref gX),w3,none,none,none]) (bA:aN H1 b2) (cn:b2 uj=some (.lst (cK hs))) (di:b2 gX=some (.b0 nH)) (d8:nH.length<=i) (fI:∀j h,j<i->(hs.map S)[j]?=some h->Yw H1 b2 gX nH hs ds h)
inductive ajo(C ah n d6 gX x t kb:Addr)(hs:bc)(ds:bT)(b2:ae)(i:Nat)(σ:ao.St)(ft:ae):Prop where
 |mk (kvs:er) (w3 p8 o8:l') (bV:σ=[some (.ref n),some (.ref d6),some (.ref gX),w3,some (.ref x),p8,o8]) (bA:aN b2 ft) (cn:ft kb=some (.lst (cK hs))) (di:ft x=some (.ins C ah (oJ n t))) (d8:ft t=some (.c3 kvs)) (fI:pd (best hs ds) (hs.map S) kvs (Told hs ds i))
theorem ai0{C az cT dy f f1 f2 cz f4 fx B0 vC:Addr}{fd c4 ec hn kT Cu Cv Cy:cF}(F:bB K "shortest" "shortest" zu f fd)(B:gp mg)(dj:rb K C)(hH:fB K az)(Uz:mg "Ways"=some (.ref C))(mS:c6 K az "houses" "Net.houses" vY ["self"] f1 c4)(qv:aL P w K mg base a8 1 f1 c4 ["self"] (DI az))(HX:c6 K az "roads" "Net.roads" Ek ["self"] f2 ec)(Rv:aL P w K mg base a8 1 f2 ec ["self"] (T2 az))(tr:c6 K az "out_of" "Net.out_of" xV ["self","house"] cz hn)(yC:aL P w K mg base (ed P w) 2 cz hn ["self","house"] (FD az cT (·.a)))(BL:dO K mg "least_turns_from" E9 ["roads","house"] f4 kT)(PA:aL P w K mg base a8 2 f4 kT ["roads","house"] (Uw K))(BP:dO K mg "begins_shortest" Bd ["road","far_from","goal"] fx Cu)(arl:aL P w K mg base a8 1 fx Cu ["road","far_from","goal"] Lm)(Jw:oa K C vC)(Rw:rJ K C "Ways.__init__" EJ ["self","net"] vC Cy)(Rx:aL P w K mg base a8 1 vC Cy ["self","net"] (LV C))(tk:c6 K C "set_way" "Ways.set_way" zt ["self","house","goal","road"] B0 Cv)(yo:aL P w K mg base (ed P w) 3 B0 Cv ["self","house","goal","road"] (Gg C az cT dy)):
  aL P w K mg base a8 4 f fd ["net"] (Gf C az):=by
 have jZ:=dj.cl;refine F.ok sP (λvs H Q E h=>?_) (λcdv A outer s H vs Q E aq h=>?_)
 .obtain⟨n,bt,bu,hs,rs,ds,rfl,_⟩:=h;rfl
 .obtain⟨n,bt,bu,hs,rs,ds,rfl,N,G,cU,eh,q⟩:=h;refine⟨_,(bh (da (i:=1) sP.aG rfl (rN rfl) (mV (aa 0) hH HX.eo Rv (aq.mono (by decide)) HX.bd .nil dt))
   (bh (da (i:=2) sP.aG rfl (rN rfl) IU)
   (bh (kq kM rfl (jY (mV (aa 0) hH mS.eo qv (aq.mono (by decide)) mS.bd .nil dt)) (et (i:=3) sP.aG rfl (cb rfl))
    (br (zi (iV aq) (aa 2) (aa 3) (fw PA (aq.mono (by decide)) (by rfl) BL.at_ BL.fn.bI BL.bd .nil dt (ak (aa 1) (ak (aa 3) aI))) rfl)))
   (bh (da (i:=4) sP.aG rfl (cb rfl) (Em Jw Rx (aq.mono (by decide)) (by rfl) Uz Rw.bd .nil dt (ak (aa 0) aI)))
   (bh (kq kM rfl (jY (mV (aa 0) hH mS.eo qv (aq.mono (by decide)) mS.bd .nil dt)) (et (i:=3) sP.aG rfl (cb rfl))
    (br (ahM (kq kM rfl (ad7 (lw (iV aq) (aa 2) (aa 3) (λ_ _=>rfl))) (et (i:=5) sP.aG rfl (rN rfl))
    (br (eY (eC wY (aa 5) (aa 3) (dz _)) (bh (tQ (i:=6) sP.aG rfl rfl rfl (N':=["number","far_from","goal","roads"]) (cs:=[none,some 2,some 5,some 1]) rfl (jY (g_ (aa 0) hH tr.eo yC (aq.mono (by decide)) tr.bd .nil w1 (ak (aa 3) aI))) rfl (by decide+kernel) rfl (by decide+kernel) (lK (n'.mpr ⟨rfl,(n'.mpr ⟨rfl,(n'.mpr ⟨rfl,(λp aO=>bG aO (dX))⟩)⟩)⟩)) rfl
    (.own (.md rfl (.inl rfl) (.inl rfl) rfl (.md rfl (.inl rfl) (.inl rfl) rfl (.md rfl (.inl rfl) (.inl rfl) rfl .nil))))
    (λC s3 a_ cp fg=>⟨(et (i:=0) (by show(["number","far_from","goal","roads"]:b9).Nodup;decide+kernel) rfl (.inl rfl)),(zf (iR (fw arl (aq.mono (by decide)) (by rfl) BP.at_ BP.fn.bI BP.bd .nil dt (ak (cv (Tw (K:=K) rfl) (aa 3) (aa 0) (λ_ _=>rfl)) (ak (aa 1) (ak (aa 2) aI)))))),(aa 0)⟩))
   (br (gQ (g_ (aa 4) jZ tk.eo yo (aq.mono (by decide)) tk.bd .nil w1 (ak (aa 3) (ak (aa 5) (ak (dE (abC rfl) (by rfl) B.min ail (ak (aa 6) aI)) aI))))))) fv))))))
   (br (c_ (aa 4)))))))),?_⟩
  obtain⟨iS,aT⟩:=N.ins;have hlen:=cU.len;have ZM:=G.eh;refine⟨_,rfl,n,iS,_,rfl,aT,rfl,n,bt,bu,_,_,rfl,N,λd6 Io=>?_⟩;have s1:aN H (upd H d6 (.lst (aC rs))):=bW Io;have af:upd H d6 (.lst (aC rs)) d6=some (.lst (aC rs)):=aP;generalize upd H d6 (.lst (aC rs))=H1 at s1 af⊢
  refineλgX Ip=>?_
  have s2:aN H1 (upd H1 gX (.b0 [])):=bW Ip;have ai:upd H1 gX (.b0 []) gX=some (.b0 []):=aP;generalize upd H1 gX (.b0 [])=ag at s2 ai⊢;refine⟨_,rfl,n,iS,_,rfl,s2 _ _ (s1 _ _ aT),rfl,n,bt,bu,_,_,rfl,(N.same s1).same s2,λuj ö=>⟨uj,rfl,⟨_,aJ.of aP⟩,?_⟩⟩;have á:gX≠uj:=h4 ai ö;refine qC (xs:=cK hs) (ajn n d6 gX uj hs ds H1)
   ⟨[],none,rfl,s2.trans (bW ö),aP,by rw[aA á];exact ai,cq _,λj h bL _=>bG bL (Lb _)⟩ ?_ ?_ ?_
  .rintro i σ b2 ar ⟨nH,w3,rfl,aH,bU,_⟩;exact aJ.of bU
  .rintro i v σ b2 ev ⟨nH,w3,rfl,aH,bU,hf,OC,CL⟩;obtain⟨h,rfl,vx⟩:=YJ ev;have aoX:i<hs.length:=by have:=(eM.mp vx).1;rwa [bp]at this
   refine⟨_,rfl,_,rfl,d6,hs,rs,ds,h,rfl,aJ.of (aH _ _ af),(cU.same s1).same aH,ZM,eH vx,λp H' cf D np kE aX T L=>?_⟩;refine⟨_,rfl,_,rfl,gX,_,rfl,o3.k (k:=fK h) (kE _ _ hf) (eW (by omega)),?_⟩;have ap6:H1 p=none:=nQ aH np;have ne2:p≠gX:=cR (h4 hf np);have BO:D=i_ hs ds h:=funext λg=>d5.amL L g;subst BO;refine⟨_,_,rfl,kp Ip (aH.trans kE),by rw[aA (cR á)];exact kE _ _ bU,aP,?_,λj h' bL NB=>?_⟩
   .cases bz:b1 nH (fK h:a')with
    |none=>rw[y0 _ bz,hi];simp only[l6,A2];omega
    |some u=>rw[VB _ bz];omega
   .by_cases e:h'=h
    .subst e;exact⟨p,cf,by rw[qD,bM rfl],ne2,ap6,by rw[aA ne2];exact aX,T⟩
    .have OK:j<i:=by
      rcases s8 j i with z|z
      .exact z
      .have:j=i:=by omega
       subst this;rw[vx]at NB;cases NB;exact bG rfl e
     obtain⟨hL,apa,sF,ne',ap1,qN,mR⟩:=CL j h' OK NB;exact⟨hL,apa,by rw[qD,bE λz=>e (LB z)];exact sF,ne',ap1,by rw[aA ne'];exact kE _ _ qN,mR⟩
  .rintro σ b2 ⟨nH,w3,rfl,aH,bU,hf,OC,CL⟩;have Z8:∀h∈hs.map S,Yw H1 b2 gX nH hs ds h:=λh hm=>by obtain⟨j,bL⟩:=x4 hm;exact CL j h (by have:=(eM.mp bL).1;rw[bp]at this;unfold cK;rw[bp];exact this) bL
   refine⟨_,rfl,λx ah cj t7 auJ=>⟨x,ah,_,rfl,aP,λt cQ=>⟨rfl,?_⟩⟩⟩;have Iw:b2 t=none:=by refine nQ (kp (o:=.ins C ah []) cj (bW (o:=.own x) t7)) cQ
   have kg:x≠t:=h4 (H:=upd (upd b2 ah (.own x)) x (.ins C ah [])) aP cQ;have Ez:aN b2 (upd (upd (upd (upd b2 ah (.own x)) x (.ins C ah [])) t (.c3 [])) x (.ins C ah (oJ n t))):=kp cj (kp Iw (kp cj (bW t7)));have Ph:upd (upd (upd (upd b2 ah (.own x)) x (.ins C ah [])) t (.c3 [])) x (.ins C ah (oJ n t)) x=some (.ins C ah (oJ n t)):=aP;have O':upd (upd (upd (upd b2 ah (.own x)) x (.ins C ah [])) t (.c3 [])) x (.ins C ah (oJ n t)) t=some (.c3 []):=by rw[aA (cR kg),aP]
   show lR _ _ _ _ (upd (upd (upd (upd b2 ah (.own x)) x (.ins C ah [])) t (.c3 [])) x (.ins C ah (oJ n t)));generalize upd (upd (upd (upd b2 ah (.own x)) x (.ins C ah [])) t (.c3 [])) x (.ins C ah (oJ n t))=as5 at Ez Ph O'⊢;have XA:jO az b2 n bt bu (cK hs) (aC rs):=(N.same s1).same aH;refine⟨_,rfl,n,iS,_,rfl,Ez _ _ (aH _ _ (s1 _ _ aT)),rfl,n,bt,bu,_,_,rfl,XA.same Ez,λkb Iq=>⟨kb,rfl,⟨_,aJ.of aP⟩,?_⟩⟩;have ap7:b2 kb=none:=nQ Ez Iq;have apv:x≠kb:=h4 Ph Iq;have ã:t≠kb:=h4 O' Iq;refine qC (xs:=cK hs) (ajo C ah n d6 gX x t kb hs ds b2)
    ⟨[],w3,none,none,rfl,Ez.trans (bW Iq),aP,by rw[aA apv];exact Ph,by rw[aA ã];exact O',⟨λh g m=>?_,λh g _=>rfl,λk aX=>(nomatch aX),sZ⟩⟩ ?_ ?_ ?_
   .obtain⟨⟨j,bL,_⟩,_⟩:=m;exact bG bL (Lb _)
   .rintro i σ ft ar ⟨kvs,ľ,p8,o8,rfl,dR,cX,_⟩;exact aJ.of cX
   .rintro i v σ ft ev ⟨kvs,ľ,p8,o8,rfl,dR,cX,av,df,BT⟩;obtain⟨h,rfl,vx⟩:=YJ ev;have hm:h∈hs.map S:=eH vx;obtain⟨hC,cf,Jv,æ,å,yJ,vb⟩:=Z8 h hm;have ú:x≠hC:=cR (h4 yJ cj);have Rf:t≠hC:=cR (h4 yJ Iw);have â:kb≠hC:=cR (h4 yJ ap7);refine⟨hC,cf,dR _ _ yJ,λo=>?_⟩;have ZX:=iY.k (k:=fK h) (show upd ft hC (.eO o (.b0 cf)) gX=some (.b0 nH) by rw[aA (cR æ)];exact dR _ _ hf);rw[Jv]at ZX;refine⟨_,rfl,_,rfl,gX,_,rfl,ZX,hC,o,cf,rfl,aP,?_⟩;refine abW (λj σ kj=>∃(kvs:er)(p8 o8:l'),σ=[some (.ref n),some (.ref d6),some (.ref gX),some (.str h),some (.ref x),p8,o8]/\aN (upd b2 hC (.eO o (.b0 cf))) kj/\kj kb=some (.lst (cK hs))/\kj x=some (.ins C ah (oJ n t))/\kj t=some (.c3 kvs)/\
      pd (best hs ds) (hs.map S) kvs (λh' g=>Told hs ds i h' g\/(h'=h/\h≠g/\∃kz z,kz<j/\cf[kz]?=some (fK g,z))))
     ⟨kvs,p8,o8,rfl,afB dR _,by rw[aA â];exact cX,by rw[aA ú];exact av,by rw[aA Rf];exact df,BT.iff λh' g=>⟨.inl,λz=>z.resolve_right λ⟨_,_,kz,_,y,_⟩=>bG y (Lb _)⟩⟩ ?_ ?_ ?_
    .rintro j σ kj ⟨kvs,p8,o8,rfl,dk,_⟩;exact dk _ _ aP
    .rintro j k z σ kj eg ⟨kvs,p8,o8,rfl,dk,He,yQ,HE,z7⟩;obtain⟨g,amY⟩:=vb.hb _ (eH eg);have amZ:k=fK g:=amY;subst amZ;have oz:∀e∈j1 hs ds,1<=e.t:=λe he=>by obtain⟨d,hd,rfl⟩:=b4.mp he;exact(cU.ok d hd).t.1
     have aoK:(i_ hs ds h g).isSome=true:=by have:=Š (eH eg);rw[vb.at_]at this;simpa using this
     obtain⟨v,bz⟩:=rM.mp aoK;have bP:g∈hs.map S:=afC cU.ok ((d5.Zz oz g).path h v bz) hm;refine⟨_,rfl,_,rfl,rfl,_,rfl,?_⟩;by_cases e:g=h
     .subst e;refine ew (show(!decide (V.str g=V.str g))=false by simp) ⟨kvs,_,o8,rfl,dk,He,yQ,HE,z7.iff λh' g'=>?_⟩;constructor
      .rintro(y|⟨a,b,kz,dr,bL,dC⟩)
       .exact .inl y
       .exact .inr ⟨a,b,kz,dr,by omega,dC⟩
      .rintro(y|⟨a,b,kz,dr,bL,dC⟩)
       .exact .inl y
       .refine .inr ⟨a,b,kz,dr,?_,dC⟩;rcases s8 kz j with y|y
        .exact y
        .have:kz=j:=by omega
         subst this;rw[eg]at dC;cases dC;exact bG rfl b
     .refine fH (show(!decide (V.str g=V.str h))=true by simp[e]) ?_;have h2:h≠g:=cR e;have Sb:aN H (upd b2 hC (.eO o (.b0 cf))):=s1.trans (kp å aH);have XB:=N.same (Sb.trans dk);have N8:=cU.same (Sb.trans dk);have aos:=dk _ _ ((kp (o:=.eO o (.b0 cf)) å aH) _ _ af);have aot:=dk _ _ (show upd b2 hC (.eO o (.b0 cf)) gX=some (.b0 nH) by rw[aA (cR æ)];exact hf);refine Ji ?_;refine afD (K:=K) (rest:=[some (.ref gX),some (.str g),some (.ref d6)]) (xs:=(iI hs ds (·.a) h).map V.int) (λR anF=>?_) rfl (by rw[bp];have:=ş hs ds (·.a) h;exact eW (by omega)) (λy=>match y with|.int i=>sO hs ds h g i|_=>false) id (λi y gh R f5 kd N7=>?_) (λi y gh R f5 _ f7 N7=>⟨_,rfl,N7 gh (aN.refl _)⟩) (λD gh q6 bR kd=>?_)
      .exact⟨_,rfl,n,iS,_,rfl,(Sb.trans dk) _ _ aT,rfl,_,rfl,n,bt,bu,hs,rs,ds,h,rfl,XB,N8,eh,λ_ wm bw ap8 s5 d3=>⟨wm,rfl,⟨_,aJ.of d3⟩,anF wm bw ap8 s5 d3⟩,λy=>bG hm y⟩
      .obtain⟨k,d,rfl,vw,au⟩:=Vu f5;obtain⟨r,f3⟩:∃r,rs[k]?=some r:=⟨_,dv (by rw[hlen];exact(eM.mp vw).1)⟩
       obtain⟨d',Zr,sj,Á⟩:=N8.get f3;rw[vw]at Zr;cases Zr;obtain⟨hD,Qb,gB,auA,auz,OL,vc⟩:=Z8 _ (zC sj.b);have agA:TabAt gh hC (i_ hs ds h):=⟨cf,.inr ⟨o,kd _ _ (dk _ _ aP)⟩,vb⟩
       have agB:TabAt gh hD (i_ hs ds (S (hs.getD d.b []))):=by
        by_cases ef:hD=hC
        .subst ef;rw[yJ]at OL;cases OL;exact⟨cf,.inr ⟨o,kd _ _ (dk _ _ aP)⟩,vc⟩
        .exact⟨Qb,.inl (kd _ _ (dk _ _ (by rw[aA ef];exact OL))),vc⟩
       have am4:ao.hx (aC rs) (k:Int)=some (.ref r):=iQ (by unfold aC;rw[c9,f3];rfl);refine⟨_,rfl,_,rfl,d6,_,_,_,rfl,rfl,aJ.of (kd _ _ aos),am4,_,rfl,_,rfl,r,gX,hC,hD,hs,d,nH,g,_,_,rfl,kd _ _ Á,kd _ _ aot,by rw[au];exact Jv,gB,agA,agB,λu b7=>⟨v,bz⟩,_,rfl,?_⟩;have ep:sO hs ds h g (k:Int)=th (i_ hs ds h) (i_ hs ds (S (hs.getD d.b []))) g d.t:=by unfold sO Je;rw[mH,wd vw]
       rw[<-ep];exact N7 gh (aN.refl _)
      .have amX:(((iI hs ds (·.a) h).map V.int).filter λy=>match y with|.int i=>sO hs ds h g i|_=>false).map id=(fit hs ds h g).map V.int:=by rw[List.map_id,AZ];rfl
       rw[amX]at bR;refine⟨_,rfl,x,ah,_,rfl,kd _ _ yQ,rfl,_,rfl,_,rfl,_,rfl,D,_,rfl,aJ.of bR,XK oz bz h2,x,n,t,bt,bu,hs,rs,ds,kvs,h,g,_,rfl,⟨⟨ah,kd _ _ yQ⟩,XB.same kd,kd _ _ HE⟩,G,N8.same kd,eh,uq G hm,uq G bP,eW (by have:=z7.eh (by rw[bp];exact ZM);omega),λ_ _ e1 gm=>?_,λy=>bG (Jt hm bP h2) (by rw[y];decide),λ_ y=>bG (Vr oz bz h2).1 y⟩;have wF:=kd.trans gm;refine⟨_,_,_,rfl,kp (by rw[aA Rf];exact Iw) (dk.trans wF),by rw[aA (cR ã)];exact wF _ _ He,by rw[aA kg];exact wF _ _ yQ,aP,(z7.put hm bP).iff λh' g'=>?_⟩;constructor
       .rintro((y|⟨a,b,kz,dr,bL,dC⟩)|⟨rfl,rfl⟩)
        .exact .inl y
        .exact .inr ⟨a,b,kz,dr,by omega,dC⟩
        .exact .inr ⟨rfl,h2,j,z,F4 _,eg⟩
       .rintro(y|⟨a,b,kz,dr,bL,dC⟩)
        .exact .inl (.inl y)
        .rcases s8 kz j with y|y
         .exact .inl (.inr ⟨a,b,kz,dr,y,dC⟩)
         .have:kz=j:=by omega
          subst this;rw[eg]at dC;cases dC;exact .inr ⟨a,rfl⟩
    .rintro σ kj ⟨kvs,p8,o8,rfl,dk,He,yQ,HE,z7⟩;refine⟨dk _ _ aP,kvs,_,p8,o8,rfl,aef yJ dk,by rw[aA â];exact He,by rw[aA ú];exact yQ,by rw[aA Rf];exact HE,z7.iff λh' g=>?_⟩;constructor
     .rintro(⟨⟨j,bL,eZ⟩,b,c⟩|⟨rfl,b,kz,z,_,dC⟩)
      .exact⟨⟨j,by omega,eZ⟩,b,c⟩
      .refine⟨⟨i,F4 _,vx⟩,b,?_⟩;have:=Š (eH dC);rw[vb.at_]at this;simpa using this
     .rintro⟨⟨j,bL,eZ⟩,b,c⟩;by_cases e:h'=h
      .subst e;have:(b1 cf (fK g:a')).isSome=true:=by rw[vb.at_];simpa using c
       obtain⟨kz,z,dC⟩:=ul this;exact .inr ⟨rfl,b,kz,z,(eM.mp dC).1,dC⟩
      .refine .inl ⟨⟨j,?_,eZ⟩,b,c⟩;rcases s8 j i with y|y
       .exact y
       .have:j=i:=by omega
        subst this;rw[vx]at eZ;cases eZ;exact bG rfl e
   .rintro σ ft ⟨kvs,ľ,p8,o8,rfl,dR,cX,av,df,BT⟩;refine⟨_,rfl,q x t ft kvs (nQ (s1.trans aH) cj) (nQ (s1.trans aH) Iw) ((s1.trans aH).trans dR) ⟨⟨ah,av⟩,XA.same dR,df⟩ ⟨BT.iff λh g=>⟨λ⟨⟨j,_,eZ⟩,b,c⟩=>⟨eH eZ,b,c⟩,λ⟨m,b,c⟩=>⟨?_,b,c⟩⟩⟩⟩;obtain⟨j,bL⟩:=x4 m;exact⟨j,by have:=(eM.mp bL).1;rw[bp]at this;unfold cK;rw[bp];exact this,bL⟩
end
end dW
namespace ct
open PySem PySem.Spec PyProof.Rows ao PySem.W
structure p9(n:Nat)(lt:hR):Prop where
 wQ:∀i j k,lt i j=true->lt j k=true->lt i k=true
 to:∀i j,i<n->j<n->i≠j->lt i j=true\/lt j i=true
 aoY:∀i,lt i i=false
noncomputable abbrev cW(p:gN)(a:Nat):Nat:=p.getD a 0
noncomputable def nR(lt:hR)(p:gN)(k:Nat):Prop:=∀a b,a<b->b<k->lt (cW p a) (cW p b)=true
theorem yU{α β:Type}(lt:hR)(f:α->KasT β):∀t:KasT α,hJ lt (t.bind f)=hJ lt (f (hJ lt t))
 |.ret _=>rfl
 |.ask i j k=>yU lt f (k (lt i j))
theorem Wh{α:Type}(lt:hR){c:Prop}[Decidable c](s t:KasT α):hJ lt (if c then s else t)=if c then hJ lt s else hJ lt t:=by split<;>rfl
theorem eF.size{n:Nat}{p:gN}(h:eF n p):p.size=n:=by have:=h.list.length_eq;simpa using this
theorem eF.inj{n:Nat}{p:gN}(h:eF n p){a b:Nat}(aK:a<n)(U:b<n)(e:cW p a=cW p b):a=b:=by
 have aG:p.toList.Nodup:=h.list.nodup_iff.mpr F2;have jh:=h.size;have aB:cW p a=p.toList[a]'(by simp;omega):=by simp[cW,uI,show a<p.size by omega]
 have aD:cW p b=p.toList[b]'(by simp;omega):=by simp[cW,uI,show b<p.size by omega]
 rw[aB,aD]at e;exact(u1 aG).mp e
section
variable{n:Nat}{lt:hR}
theorem p9.or(o:p9 n lt){p:gN}(h:eF n p){a b:Nat}(aK:a<n)(U:b<n)(ne:a≠b)(f:lt (cW p a) (cW p b)=false):lt (cW p b) (cW p a)=true:=by
 have h0:0<n:=by omega
 rcases o.to (cW p a) (cW p b) (h.at h0 a) (h.at h0 b) (λe=>ne (h.inj aK U e))with z|z
 .rw[z]at f;cases f
 .exact z
theorem nR.succ(o:p9 n lt){p:gN}{k:Nat}(s:nR lt p k)(af:1<=k)(h:lt (cW p (k-1)) (cW p k)=true):nR lt p (k+1):=λa b qK U=>by
 by_cases e:b=k
 .subst e;by_cases aD:a=b-1
  .rw[aD];exact h
  .exact o.wQ _ _ _ (s a (b-1) (by omega) (by omega)) h
 .exact s a b qK (by omega)
theorem KA(o:p9 n lt){p:gN}(h:eF n p):∀f k,1<=k->k+f<=n->nR lt p k->∃m,hJ lt (kas_asc p f k)=m/\k<=m/\m<=k+f/\nR lt p m/\(m<k+f->lt (cW p m) (cW p (m-1))=true)
 |0,k,af,ai,s=>⟨k,rfl,cq _,cq _,s,λz=>bG z (by omega)⟩
 |f+1,k,af,ai,s=>by
  show∃m,hJ lt (if lt (cW p k) (cW p (k-1))=true then .ret k else kas_asc p f (k+1))=m/\_;cases e:lt (cW p k) (cW p (k-1))with
  |true=>
   rw[bM rfl];exact⟨k,rfl,cq _,by omega,s,λ_=>e⟩
  |false=>
   rw[bE (by decide)];have up:=o.or h (a:=k) (b:=k-1) (by omega) (by omega) (by omega) e;obtain⟨m,aB,aD,cH,e3,gw⟩:=KA o h f (k+1) (by omega) (by omega) (s.succ o af up);exact⟨m,aB,by omega,by omega,e3,λz=>gw (by omega)⟩
noncomputable def FE(lt:hR)(p:gN)(k:Nat):Prop:=∀a b,a<b->b<k->lt (cW p b) (cW p a)=true
theorem Wi(o:p9 n lt){p:gN}(h:eF n p):∀f k,1<=k->k+f<=n->FE lt p k->∃m,hJ lt (DD f p k 0)=(p,m,0)/\k<=m/\m<=k+f/\FE lt p m
 |0,k,af,ai,s=>⟨k,rfl,cq _,cq _,s⟩
 |f+1,k,af,ai,s=>by
  show∃m,hJ lt (if lt (cW p k) (cW p (k-1))=true then(if 0>0 then DD f (DE p (k-(0+1)) k) (k+1) 0 else DD f p (k+1) 0)else .ask (cW p (k-1)) (cW p k) λd=>if d=true then .ret (p,k,0)else DD f p (k+1) (0+1))=(p,m,0)/\_;cases e:lt (cW p k) (cW p (k-1))with
  |true=>
   rw[bM rfl,bE (by omega)];have s2:FE lt p (k+1):=λa b qK U=>by
    by_cases ef:b=k
    .subst ef;by_cases aD:a=b-1
     .rw[aD];exact e
     .exact o.wQ _ _ _ e (s a (b-1) (by omega) (by omega))
    .exact s a b qK (by omega)
   obtain⟨m,aB,aD,cH,e3⟩:=Wi o h f (k+1) (by omega) (by omega) s2;exact⟨m,aB,by omega,by omega,e3⟩
  |false=>
   rw[bE (by decide)];have up:=o.or h (a:=k) (b:=k-1) (by omega) (by omega) (by omega) e;show∃m,hJ lt (if lt (cW p (k-1)) (cW p k)=true then .ret (p,k,0)else DD f p (k+1) (0+1))=(p,m,0)/\_;rw[bM up];exact⟨k,rfl,cq _,by omega,s⟩
theorem FF{p q:gN}{a b:Nat}(e:p[a]?=q[b]?):cW p a=cW q b:=by
 have f:∀(r:gN)(c:Nat),cW r c=(r[c]?).getD 0:=λr c=>by
  show r.getD c 0=_;by_cases ay:c<r.size
  .rw[J4 ay];simp[uI,ay]
  .rw[Fp (by omega)];simp[uI,ay]
 rw[f,f,e]
theorem XM{p:gN}{r i:Nat}(aq:r<=p.size)(ar:i<r):cW (DE p 0 r) i=cW p (r-1-i):=by have h:=getElem?_mirror_all (xs:=p) (i:=0) (j:=r) aq i;rw[bM ⟨e_ _,ar⟩,show 0+r-1-i=r-1-i by omega]at h;exact FF h
theorem aeg(o:p9 n lt){p:gN}(h:eF n p){k:Nat}(af:1<=k)(ai:k<=n)(s:FE lt p k):∃m q,hJ lt (DF k n p)=(m,q)/\1<=m/\m<=n/\nR lt q m/\eF n q:=by
 unfold DF;rw[yU];have aq:=h.rev 0 k;have ğ:nR lt (DE p 0 k) k:=λa b qK U=>by rw[XM (by rw[h.size];exact ai) (by omega),XM (by rw[h.size];exact ai) U];exact s _ _ (by omega) (by omega)
 obtain⟨m,aB,aD,cH,e3,_⟩:=KA o aq (n-k) k af (by omega) ğ;rw[aB];exact⟨m,_,rfl,by omega,by omega,e3,aq⟩
theorem aeh(o:p9 n lt){p:gN}(h:eF n p)(h0:2<=n):∃m q,hJ lt (Qa n p)=(m,q)/\1<=m/\m<=n/\nR lt q m/\eF n q:=by
 unfold Qa;rw[yU];obtain⟨m,aB,aD,cH,e3,gw⟩:=KA o h (n-1) 1 (cq _) (by omega) (λa b qK U=>by omega);rw[aB,Wh];by_cases c1:m=n
 .rw[bM (by simpa using c1)];exact⟨m,p,rfl,aD,by omega,e3,h⟩
 .rw[bE (by simpa using c1),Wh];have apn:=gw (by omega);by_cases c2:m>1
  .rw[bM c2];show∃cV q,hJ lt (if lt (cW p 0) (cW p (m-1))=true then .ret (m,p)else Ð m n (DE p 0 m))=(cV,q)/\_;rw[bM (e3 0 (m-1) (by omega) (by omega))];exact⟨m,p,rfl,aD,by omega,e3,h⟩
  .rw[bE c2];have gW:m=1:=by omega
   subst gW;unfold Ð;rw[yU];obtain⟨k,jH,me,Zk,Np⟩:=Wi o h (n-(1+1)) (1+1) (by omega) (by omega) (λa b qK U=>by
    have:a=0/\b=1:=by omega
    rw[this.1,this.2];exact apn)
   rw[jH];show∃cV q,hJ lt (if 0>0 then DF k n (DE p (k-(0+1)) k)else DF k n p)=(cV,q)/\_;rw[bE (by omega)];exact aeg o h (by omega) (by omega) Np
theorem TY(o:p9 n lt){p:gN}(h:eF n p){k:Nat}(aX:k<n)(s:nR lt p k):∀f l r,l<=r->r<=k->r-l<=f->(∀a,a<l->lt (cW p a) (cW p k)=true)->(∀a,r<=a->a<k->lt (cW p k) (cW p a)=true)->
  ∃m,hJ lt (yX p k f l r)=m/\m<=k/\(∀a,a<m->lt (cW p a) (cW p k)=true)/\∀a,m<=a->a<k->lt (cW p k) (cW p a)=true
 |0,l,r,af,ai,bU,aj,aq=>⟨l,rfl,by omega,aj,λa aK=>aq a (by omega)⟩
 |f+1,l,r,af,ai,bU,aj,aq=>by
  show∃m,hJ lt (if l≥r then .ret l else .ask (cW p k) (cW p ((l+r)/2)) λc=>if c=true then yX p k f l ((l+r)/2)else yX p k f ((l+r)/2+1) r)=m/\_;by_cases c:l≥r
  .rw[bM c];exact⟨l,rfl,by omega,aj,λa aK=>aq a (by omega)⟩
  .rw[bE c];show∃m,hJ lt (if lt (cW p k) (cW p ((l+r)/2))=true then yX p k f l ((l+r)/2)else yX p k f ((l+r)/2+1) r)=m/\_;have apr:l<=(l+r)/2/\(l+r)/2<r:=by omega
   cases e:lt (cW p k) (cW p ((l+r)/2))with
   |true=>
    rw[bM rfl];refine TY o h aX s f l ((l+r)/2) apr.1 (by omega) (by omega) aj λa aK anM=>?_;by_cases au:a=(l+r)/2
    .rw[au];exact e
    .exact o.wQ _ _ _ e (s _ _ (by omega) anM)
   |false=>
    rw[bE (by decide)];have up:=o.or h (a:=k) (b:=(l+r)/2) aX (by omega) (by omega) e;refine TY o h aX s f ((l+r)/2+1) r (by omega) ai (by omega) (λa aK=>?_) aq;by_cases au:a=(l+r)/2
    .rw[au];exact up
    .exact o.wQ _ _ _ (s a _ (by omega) (by omega)) up
theorem XN{p:gN}{k l i:Nat}(aX:k<p.size)(aj:l<=k):cW (bubble p k (k-l)) i=if i=l then cW p k else if l<i/\i<=k then cW p (i-1)else cW p i:=by
 have h:=getElem?_bubble (xs:=p) aX (k-l) (by omega) i;rw[show k-(k-l)=l by omega]at h;by_cases c:i=l
 .rw[bM c]at h⊢;exact FF h
 .rw[bE c]at h⊢;by_cases c2:l<i/\i<=k
  .rw[bM c2]at h⊢;exact FF h
  .rw[bE c2]at h⊢;exact FF h
theorem XH(o:p9 n lt):∀(f:Nat)(p:gN)(k:Nat),eF n p->nR lt p k->k+f=n->nR lt (hJ lt (P_ f p k)) n
 |0,p,k,h,s,e=>by
  have:k=n:=by omega
  subst this;exact s
 |f+1,p,k,h,s,e=>by
  show nR lt (hJ lt ((yX p k k 0 k).bind λl=>P_ f (bubble p k (k-l)) (k+1))) n;rw[yU];obtain⟨m,aB,aD,cH,e3⟩:=TY o h (k:=k) (by omega) s k 0 k (e_ _) (cq _) (by omega) (λa aK=>bG aK (by omega)) (λa af ai=>bG ai (by omega));rw[aB];refine XH o f _ _ (h.Zb _ _) (λa b qK U=>?_) (by omega);have aX:k<p.size:=by rw[h.size];omega
  rw[XN aX aD,XN aX aD];by_cases a1:a=m
  .rw[bM a1,bE (by omega),bM ⟨by omega,by omega⟩];exact e3 (b-1) (by omega) (by omega)
  .rw[bE a1];by_cases fD:b=m
   .rw[bM fD,bE (by omega)];exact cH a (by omega)
   .rw[bE fD];by_cases a2:m<a/\a<=k
    .rw[bM a2,bM ⟨by omega,by omega⟩];exact s _ _ (by omega) (by omega)
    .rw[bE a2];by_cases fL:m<b/\b<=k
     .rw[bM fL];exact s _ _ (by omega) (by omega)
     .rw[bE fL];exact s _ _ qK (by omega)
theorem asG(o:p9 n lt):(pZ lt n).Pairwise λi j=>lt i j=true:=by
 unfold pZ;by_cases ai:n<2
 .rw[bM ai];have:n=0\/n=1:=by omega
  rcases this with e|e<;>subst e<;>simp[s7]
 .rw[bE ai];have aq:eF n (x8 (ek n)):=ž _;unfold yY;rw[yU];obtain⟨m,q,aB,aD,cH,e3,gw⟩:=aeh o aq (by omega);rw[aB];show((hJ lt (if m<n then P_ (n-max m 1) q (max m 1)else .ret q)).toList).Pairwise _;have q5:max m 1=m:=by omega
  rw[q5];have fin:∀fR:Array Nat,eF n fR->nR lt fR n->fR.toList.Pairwise λi j=>lt i j=true:=λfR a s=>by
   rw[K6];intro i j ar bL OI;have aoe:j<n:=by rw[<-a.size];simpa using bL
   have:=s i j OI aoe;have arb:i<fR.size:=by rw[a.size];omega
   have iG:j<fR.size:=by rw[a.size];omega
   have f1:cW fR i=fR[i]:=by simp[cW,uI,arb]
   have f2:cW fR j=fR[j]:=by simp[cW,uI,iG]
   rw[f1,f2]at this;simpa using this
  by_cases c:m<n
  .rw[bM c];refine fin _ ?_ (XH o _ _ _ gw e3 (by omega));exact IW (lt:=lt) _ (Lg (by omega) _ _ _ gw)
  .rw[bE c];have:m=n:=by omega
   subst this;exact fin q gw e3
end
section
variable{X:bg}
noncomputable def ltI(ns:g8)(i j:Nat):Bool:=decide (i<ns.length/\j<ns.length/\ns.getD i 0<ns.getD j 0)
theorem ahm{ns:g8}(aG:ns.Nodup):p9 ns.length (ltI ns)where
 wQ:=λi j k af ai=>by have af:=ju af;have ai:=ju ai;exact cu ⟨af.1,ai.2.1,by omega⟩
 to:=λi j ar bL ne=>by
  have aB:ns.getD i 0=ns[i]:=by rw[eL,dv ar];rfl
  have aD:ns.getD j 0=ns[j]:=by rw[eL,dv bL];rfl
  have iS:ns.getD i 0≠ns.getD j 0:=λz=>ne ((u1 aG).mp (by rw[<-aB,<-aD];exact z));rcases Int.lt_or_lt_of_ne iS with z|z
  .exact .inl (cu ⟨ar,bL,z⟩)
  .exact .inr (cu ⟨bL,ar,z⟩)
 aoY:=λi=>dJ λz=>by omega
noncomputable def sortI(ns:g8):List Int:=gT 0 (ltI ns) ns
theorem sortI_perm(ns:g8):(sortI ns).Perm ns:=Ŵ _ _ _
theorem ad1{ns:g8}(aG:ns.Nodup):(sortI ns).Pairwise (· < ·):=by unfold sortI gT;rw[s6];exact(asG (ahm aG)).imp λz=>(ju z).2.2
theorem Wz(ns:g8):gT V.bq (ltI ns) (ns.map V.int)=(sortI ns).map V.int:=by unfold sortI gT;rw[jA,bp];refine A4 λi ar=>?_;have:=IX ar;show(ns.map V.int).getD i .bq=V.int (ns.getD i 0);rw[eL,c9,dv this,eL,dv this];rfl
section
variable{prog:bO}{w:bx}{A:c0}{s:aF}{ns:g8}{us:cC}
theorem UA(r:cO (ns.map V.int) us){i:Nat}(ar:i<us.length):∃t,us.getD i fZ=.int (ns.getD i 0) t:=by have aj:=r.length;rw[bp]at aj;obtain⟨u,b7,t,rfl⟩:=r.get (x:=V.int (ns.getD i 0)) (i:=i) (by rw[c9,dv (by omega),eL,dv (by omega)];rfl);exact⟨t,by rw[eL,b7];rfl⟩
theorem š(r:cO (ns.map V.int) us)(ai:2<=us.length){Q:ye->aF->Prop}(h:Q Rt s):aQ (a9 prog w) A (Qg us.toArray) Q (λ_ _=>False) s:=by refine kas_kind (T:=.type "int") ai (λv bz=>?_) (by decide+kernel) (by decide+kernel) h;obtain⟨i,ar,rfl⟩:=mJ bz;obtain⟨t,e⟩:=UA r ar;rw[eL,dv ar]at e;have e:us[i]=.int (ns.getD i 0) t:=e;rw[e];exact Xh rfl
theorem VM(r:cO (ns.map V.int) us){i j:Nat}(ar:i<us.length)(bL:j<us.length){C:Bool->aF->Prop}(h:C (ltI ns i j) s):DC prog w A Rt us i j C s:=by have aj:=r.length;rw[bp]at aj;obtain⟨t,aB⟩:=UA r ar;obtain⟨u,aD⟩:=UA r bL;unfold DC;rw[aB,aD];refine kat_lt_int ?_;have e:ltI ns i j=decide (ns.getD i 0<ns.getD j 0):=decide_eq_decide.mpr ⟨λz=>z.2.2,λz=>⟨by omega,by omega,z⟩⟩;rw[<-e];exact h
end
theorem afE{P:bO}{w:bx}{n:Int}{v:Value}(h:(gj P w).is (.inl n) v=true):RelV (V.int n) v:=by obtain⟨t,e⟩:=aht h;exact⟨t,e⟩
end
end ct
namespace dW
open PySem ao ct dx
theorem WA{α:Type}{R:α->α->Prop}(as:∀a b,R a b->R b a->False):∀{a b:List α},a.Perm b->a.Pairwise R->b.Pairwise R->a=b
 |[],b,p,_,_=>p.nil_eq
 |x::a,[],p,_,_=>bG p.length_eq (by simp)
 |x::a,y::b,p,i0,b'=>by
  rw[List.pairwise_cons]at i0 b';have am9:x=y:=by
   rcases c'.mp (p.mem_iff.mp (.head _):x∈y::b)with e|e
   .exact e
   .rcases c'.mp (p.mem_iff.mpr (.head _):y∈x::a)with aD|aD
    .exact aD.symm
    .exact(as _ _ (i0.1 y aD) (b'.1 x e)).elim
  subst am9;rw[WA as (List.Perm.cons_inv p) i0.2 b'.2]
theorem abe(rs:List Row):(Ak rs).Perm rs:=by unfold Ak K8;refine((RP _ _).map _).trans ?_;rw[show(ek rs.length).map (λi=>rs.getD i r0)=rs from ?_];refine FZ (by simp) λi af ai=>?_;rw[A1,x5,eL,dv ai];rfl
theorem WB:∀{kvs:List (List a'×ao.V)},(∀p∈kvs,∃r:Row,p=([.inr r.1,.inr r.2.1],.int r.2.2))->∃rs,kvs=fk rs
 |[],_=>⟨[],rfl⟩
 |p::q,h=>by obtain⟨r,rfl⟩:=h p (.head _);obtain⟨rs,rfl⟩:=WB (kvs:=q) λp aO=>h p (.tail _ aO);exact⟨r::rs,rfl⟩
noncomputable def jf(c:Int×Nat):List ao.V:=[.int c.1,.int (c.2:Int)]
noncomputable def q8(c:Int×Nat):List a':=[.inl c.1,.inl (c.2:Int)]
theorem VN(cs:List (Int×Nat)):∀d∈cs.map q8,kB d=true::[true]:=λd hd=>by obtain⟨r,_,rfl⟩:=b4.mp hd;rfl
noncomputable def jq(cs:List (Int×Nat)):List (Int×Nat):=(pZ (mq (cs.map q8)) cs.length).map λi=>cs.getD i (0,0)
theorem vJ(cs:List (Int×Nat)):(jq cs).Perm cs:=by unfold jq;refine((RP _ _).map _).trans ?_;rw[show(ek cs.length).map (λi=>cs.getD i (0,0))=cs from ?_];refine FZ (by simp) λi af ai=>?_;rw[A1,x5,eL,dv ai];rfl
theorem RR{H:ae}:∀{ts:bS}{cs:List (Int×Nat)},d_ H ts (cs.map jf)->bf (λr d=>H r=some (.tup (d.map dn))) ts (cs.map q8)
 |_,[],h=>by cases h;exact .nil
 |_,c::cs,h=>by cases h with|cons a t=>exact .cons a (RR t)
theorem Ţ{H:ae}{ts:bS}{cs:List (Int×Nat)}(dg:d_ H ts (cs.map jf)):∃i2,gT V.bq (mq (cs.map q8)) (aC ts)=aC i2/\d_ H i2 ((jq cs).map jf):=by
 have ln:(aC ts).length=cs.length:=by have:=dg.len;rw[bp]at this;rw[eI,this]
 unfold gT jq;rw[ln];have all:∀is:List Nat,(∀i∈is,i<cs.length)->∃i2,(is.map λi=>(aC ts).getD i .bq)=aC i2/\d_ H i2 ((is.map λi=>cs.getD i (0,0)).map jf):=λis=>by
  induction is with
  |nil=>intro _;exact⟨[],rfl,.nil⟩
  |cons i q a6=>
   intro ar;obtain⟨i2,aB,S3⟩:=a6 λj bL=>ar j (.tail _ bL);have lt:=ar i (.head _);have v8:i<ts.length:=by rw[eI]at ln;omega
   have aD:ts[i]?=some ts[i]:=dv v8;obtain⟨y,af,ai⟩:=bf.get dg aD;rw[c9,dv lt]at af;cases af;refine⟨ts[i]::i2,?_,.cons ?_ S3⟩
   .rw[hQ,aB];show(aC ts).getD i .bq::aC i2=V.ref ts[i]::aC i2;congr 1;show((aC ts)[i]?).getD .bq=_;unfold aC;rw[c9,aD];rfl
   .show H ts[i]=some (ee.tup (jf (cs.getD i (0,0))));rw[show cs.getD i (0,0)=cs[i] by rw[eL,dv lt];rfl];exact ai
 exact all _ λi ar=>IX ar
noncomputable def ja(ns:dI):List Int:=ns.map λn:Nat=>(n:Int)
noncomputable def fM(ns:dI):List Nat:=(sortI (ja ns)).map FN
theorem afF{ns:dI}(aG:ns.Nodup):(ja ns).Nodup:=s6.mpr (aG.imp λh z=>h (by omega))
theorem Ey(ns:dI):ja (fM ns)=sortI (ja ns):=by
 unfold fM ja;rw[jA];have:∀x∈sortI (ns.map λn:Nat=>(n:Int)),((λn:Nat=>(n:Int))∘FN) x=x:=λx av=>by obtain⟨n,_,rfl⟩:=b4.mp ((sortI_perm _).mem_iff.mp av);rfl
 rw[A4 this,K1]
theorem vW(ns:dI):(fM ns).Perm ns:=by
 have h:=(sortI_perm (ja ns)).map FN;have e:(ja ns).map FN=ns:=by unfold ja;rw[jA];have:∀x∈ns,(FN∘λn:Nat=>(n:Int)) x=x:=λx _=>mH x;rw[A4 this,K1]
 rw[e]at h;exact h
theorem adZ{ns:dI}(aG:ns.Nodup):(fM ns).Pairwise (· < ·):=by have h:=ad1 (afF aG);rw[<-Ey]at h;unfold ja at h;exact(s6.mp h).imp λz=>by omega
noncomputable def ru(room:Int)(q:List (Int×Nat)):List Nat:=fM (((jq q).take room.toNat).map (·.2))
noncomputable def mh(E:List (Nat×Addr)):List (a'×ao.V):=E.map λe=>(e7 (e.1:Int),.ref e.2)
structure pB(ly H:ae)(p:Addr)(E:List (Nat×Addr))(q:Nat->List (Int×Nat)):Prop where
 tab:H p=some (.b0 (mh E))
 t9:(E.map (·.1)).Nodup
 na:(E.map (·.2)).Nodup
 each:∀e∈E,ly e.2=none/\e.2≠p/\∃ts,H e.2=some (.lst (aC ts))/\d_ H ts ((q e.1).map jf)
theorem pB.same{ly H H':ae}{p:Addr}{E:List (Nat×Addr)}{q:Nat->List (Int×Nat)}(h:pB ly H p E q)(aH:aN H H'):pB ly H' p E q:=
 ⟨aH _ _ h.tab,h.t9,h.na,λe he=>let⟨a,b,ts,c,d⟩:=h.each e he;⟨a,b,ts,aH _ _ c,d.same aH⟩⟩
theorem I3:∀{E:List (Nat×Addr)},(E.map (·.1)).Nodup->∀{r:Nat}{l:Addr},(r,l)∈E->b1 (mh E) (e7 (r:Int):a')=some (.ref l)
 |[],_,_,_,h=>nomatch h
 | (r0,Qj)::E,aG,r,l,h=>by
  rw[hQ,iP]at aG;rcases c'.mp h with e|e
  .cases e;exact kP rfl
  .show b1 ((e7 (r0:Int),V.ref Qj)::mh E) _=_;rw[jW (λz=>aG.1 (by
    have dr:(r0:Int)=(r:Int):=Bw z;have:r0=r:=by omega
    rw[this];exact b4.mpr ⟨_,e,rfl⟩))]
   exact I3 aG.2 e
theorem JV:∀{E:List (Nat×Addr)}{r:Nat},r∉E.map (·.1)->b1 (mh E) (e7 (r:Int):a')=none
 |[],_,_=>rfl
 | (r0,Qj)::E,r,h=>by
  show b1 ((e7 (r0:Int),V.ref Qj)::mh E) _=_;rw[jW (λz=>h (by
   have dr:(r0:Int)=(r:Int):=Bw z;have:r0=r:=by omega
   rw[this];exact .head _))]
  exact JV λz=>h (.tail _ z)
theorem pB.new{ly H:ae}{p jg:Addr}{E:List (Nat×Addr)}{q:Nat->List (Int×Nat)}(h:pB ly H p E q){r:Nat}(aq:r∉E.map (·.1))(oT:q r=[])(Ri:ly jg=none)(hz:H jg=some (.lst []))(QR:∀e∈E,e.2≠jg):
  pB ly (upd H p (.b0 (d7 (mh E) (e7 (r:Int)) (.ref jg)))) p (E++[(r,jg)]) q:=by
 have np:jg≠p:=λz=>by rw[z,h.tab]at hz;cases hz
 refine⟨?_,?_,?_,λe he=>?_⟩
 .rw[aP,y0 _ (JV aq)];unfold mh;rw[eU];rfl
 .rw[eU];exact Ņ h.t9 aq
 .rw[eU];refine Ņ h.na λz=>?_;obtain⟨e,he,aD⟩:=b4.mp z;exact QR e he aD
 .rcases hj.mp he with z|z
  .obtain⟨a,b,ts,c,d⟩:=h.each e z;exact⟨a,b,ts,by rw[aA b];exact c,d.upd h.tab (by intro d z;cases z)⟩
  .rw[hr.mp z];refine⟨Ri,np,[],by rw[aA np];exact hz,?_⟩;show d_ _ [] ((q r).map jf);rw[oT];exact .nil
theorem pB.add{ly H:ae}{p l t:Addr}{E:List (Nat×Addr)}{q:Nat->List (Int×Nat)}{ts:bS}(h:pB ly H p E q){r:Nat}(aq:(r,l)∈E){c:Int×Nat}(aj:H l=some (.lst (aC ts)))(dg:d_ H ts ((q r).map jf))(df:H t=some (.tup (jf c)))(aT:ly t=none):
  pB ly (upd H l (.lst (aC ts++[V.ref t]))) p E (λcw=>if cw=r then q r++[c]else q cw):=by
 obtain⟨a0,kN,_⟩:=h.each _ aq;have kN:l≠p:=kN;have uniq:∀e∈E,e.2=l->e=(r,l):=λe he z=>by
  obtain⟨i,ar,ey⟩:=mJ he;obtain⟨j,bL,eZ⟩:=mJ aq;have aB:(E.map (·.2))[i]'(by rw[bp];exact ar)=(E.map (·.2))[j]'(by rw[bp];exact bL):=by rw[A1,A1,ey,eZ,z]
  have:=(u1 h.na).mp aB;subst this;rw[<-ey,eZ]
 refine⟨by rw[aA (cR kN)];exact h.tab,h.t9,h.na,λe he=>?_⟩;obtain⟨a,b,i2,mb,d⟩:=h.each e he;refine⟨a,b,?_⟩;by_cases z:e.2=l
 .obtain rfl:=uniq e he z;refine⟨ts++[t],by rw[aP,rX],?_⟩;show d_ _ _ ((if r=r then q r++[c]else q r).map jf);rw[bM rfl,eU];exact d_.upd (Paired.snoc (F:=λr d=>H r=some (.tup d)) df dg) aj (by intro d z;cases z)
 .refine⟨i2,by rw[aA z];exact mb,?_⟩;have jt:e.1≠r:=λy=>z (by
   obtain⟨i,ar,ey⟩:=mJ he;obtain⟨j,bL,eZ⟩:=mJ aq;have aB:(E.map (·.1))[i]'(by rw[bp];exact ar)=(E.map (·.1))[j]'(by rw[bp];exact bL):=by rw[A1,A1,ey,eZ,y]
   have:=(u1 h.t9).mp aB;subst this;rw[<-ey,eZ])
  show d_ _ _ ((if e.1=r then q r++[c]else q e.1).map jf);rw[bE jt];exact d.upd aj (by intro d z;cases z)
noncomputable def e4(due:Nat->Int)(rd:Nat->Nat)(T:Int)(go:dI)(r:Nat):List (Int×Nat):=(go.filter λn=>decide (due n<=T)&&decide (rd n=r)).map λn=>(due n,n)
theorem XF{due:Nat->Int}{rd:Nat->Nat}{T:Int}{go:dI}{n:Nat}(h:¬due n<=T):e4 due rd T (go++[n])=e4 due rd T go:=by funext r;unfold e4;rw[nq,eU];simp[l5,h]
theorem Jx{due:Nat->Int}{rd:Nat->Nat}{T:Int}{go:dI}{n:Nat}(h:due n<=T):e4 due rd T (go++[n])=λcw=>if cw=rd n then e4 due rd T go (rd n)++[(due n,n)]else e4 due rd T go cw:=by
 funext r;unfold e4;rw[nq,eU];by_cases e:r=rd n
 .subst e;simp[l5,h]
 .simp[l5,h,e,cR e]
theorem WC(due:Nat->Int)(rd:Nat->Nat)(T:Int)(go:dI)(r:Nat):(e4 due rd T go r).length<=go.length:=by unfold e4;rw[bp];exact jl _ _
noncomputable def ahn(hs:bc)(kvs:er)(cc:b9)(aE:fj)(due:Nat->Int)(rd:Nat->Nat)(n:Nat):Prop:=∃(ss:List Step)(s:Step)(y:Str),aE[n]?=some (ss++[s])/\s.due=due n/\cc[n]?=some y/\s.fA∈hs.map S/\y∈hs.map S/\s.fA≠y/\b1 kvs (fm s.fA y)=some (.int (rd n:Int))
noncomputable def fN(go:dI):List ao.V:=go.map λn:Nat=>V.int (n:Int)
noncomputable def afG(hs:bc)(kvs:er)(cc:b9)(aE:fj)(due:Nat->Int)(n:Nat):Prop:=∃(ss:List Step)(s:Step)(y:Str),aE[n]?=some (ss++[s])/\s.due=due n/\cc[n]?=some y/\s.fA∈hs.map S/\y∈hs.map S/\s.fA≠y/\b1 kvs (fm s.fA y)=none
noncomputable def JW(hw:Nat->Bool)(hs:bc)(kvs:er)(cc:b9)(aE:fj)(due:Nat->Int)(rd:Nat->Nat)(n:Nat):Prop:=(hw n=true/\ahn hs kvs cc aE due rd n)\/(hw n=false/\afG hs kvs cc aE due n)
inductive ai1(K:aV)(C aS az:Addr)(vs:aZ)(H:ae)(Q:ba)(bN:b6):Prop where
 |mk (x n g st gl y lQ t bt bu:Addr) (cc:b9) (ls:bS) (aE:fj) (hs:bc) (ys:aZ) (kvs:er) (go:dI) (hw:Nat->Bool) (due:Nat->Int) (rd:Nat->Nat) (T:Int) (bV:vs=[.ref x,.ref gl,.ref y,.int T]) (bA:WalkAt C H x n g st cc ls aE) (cn:aJ K H gl (fN go)) (di:pQ aS az H y lQ t bt bu (cK hs) ys kvs) (d8:Good hs) (fI:go.length<=100) (iM:(∀k∈go,JW hw hs kvs cc aE due rd k)) (lx:∀(p:Addr)(H':ae)(E:List (Nat×Addr)),H p=none->aN H H'->pB H H' p E (e4 due rd T (go.filter hw))->(∀r,r∈E.map (·.1)↔e4 due rd T (go.filter hw) r≠[])->Q (.ref p) H')
noncomputable def LO(K:aV)(C aS az:Addr):cM:=λvs H Q bN=>ai1 K C aS az vs H Q bN
section
variable{P:bO}{w:bx}{K:aV}{mg:cI}{base:Heap}
noncomputable abbrev EF:Stmt:=top 22
theorem Bb:dB ["walk","going","ways","turn","queues","number","came","road"] ["walk","going","ways","turn"] (c7 EF):=⟨rfl,rfl,rfl,by decide+kernel,rfl,by decide+kernel,by decide+kernel⟩
inductive ajp(x gl y p:Addr)(T:Int)(due:Nat->Int)(rd:Nat->Nat)(go:dI)(hw:Nat->Bool)(H:ae)(i:Nat)(σ:ao.St)(b2:ae):Prop where
 |mk (E:List (Nat×Addr)) (v1 v2 g0:l') (bV:σ=[some (.ref x),some (.ref gl),some (.ref y),some (.int T),some (.ref p),v1,v2,g0]) (bA:aN H b2) (cn:pB H b2 p E (e4 due rd T ((go.take i).filter hw))) (di:∀r,r∈E.map (·.1)↔e4 due rd T ((go.take i).filter hw) r≠[]) (d8:E.length<=i)
theorem ai2{C aS az cT f f1 f2 cz f4:Addr}{fd c4 ec hn kT:cF}(F:bB K "queues_at" "queues_at" EF f fd)(dj:sq K C)(pF:rb K aS)(tl:c6 K C "last_turn" "Walk.last_turn" zE ["self","number"] f1 c4)(P7:aL P w K mg base a8 1 f1 c4 ["self","number"] (Jr C))(tq:c6 K C "last_house" "Walk.last_house" zD ["self","number"] f2 ec)(PW:aL P w K mg base a8 1 f2 ec ["self","number"] (Jq C))(HY:c6 K C "goal" "Walk.goal" Ai ["self","number"] cz hn)(aaK:aL P w K mg base a8 1 cz hn ["self","number"] (Ks C))(Ib:c6 K aS "way" "Ways.way" EK ["self","house","goal"] f4 kT)(RS:aL P w K mg base (ed P w) 3 f4 kT ["self","house","goal"] (LW aS az cT)):
  aL P w K mg base a8 4 f fd ["walk","going","ways","turn"] (LO K C aS az):=by
 have kQ:=dj.cl;have jZ:=pF.cl;refine F.ok Bb (λvs H Q E h=>?_) (λcdv A outer s H vs Q E aq h=>?_)
 .obtain⟨x,n,g,st,gl,y,lQ,t,bt,bu,cc,ls,aE,hs,ys,kvs,go,hw,due,rd,T,rfl,_⟩:=h;rfl
 .obtain⟨x,n,g,st,gl,y,lQ,t,bt,bu,cc,ls,aE,hs,ys,kvs,go,hw,due,rd,T,rfl,W,Hq,vf,G,eh,ok,q⟩:=h;obtain⟨ah,av⟩:=W.ins;obtain⟨hV,cS⟩:=vf.ins;refine⟨_,(bh (da (i:=4) Bb.aG rfl (cb rfl) IU)
   (bh (kq kM rfl (jY (aa 1)) (et (i:=5) Bb.aG rfl (cb rfl))
    (bh (da (i:=6) Bb.aG rfl (cb rfl) (g_ (aa 0) kQ tl.eo P7 (aq.mono (by decide)) tl.bd .nil dt (ak (aa 5) aI)))
   (br (eY (eC p0 (aa 6) (aa 3) (dz _)) (bh (da (i:=7) Bb.aG rfl (cb rfl) (g_ (aa 2) jZ Ib.eo RS (aq.mono (by decide)) Ib.bd .nil w1 (ak (g_ (aa 0) kQ tq.eo PW (aq.mono (by decide)) tq.bd .nil dt (ak (aa 5) aI)) (ak (g_ (aa 0) kQ HY.eo aaK (aq.mono (by decide)) HY.bd .nil dt (ak (aa 5) aI)) aI))))
   (br (eY (eC Un (aa 7) kU (dz _)) (br (gQ (nN og pw px nB (adU (aa 4) (aa 7) (gS aI) ⟨rfl,rfl,rfl,rfl⟩) (ak (i8 (ak (aa 6) (ak (aa 5) aI))) aI)))) fv))) fv))))
   (br (c_ (aa 4))))),?_⟩
  refineλp aO=>?_
  have s0:aN H (upd H p (.b0 [])):=bW aO;refine⟨_,rfl,gl,rfl,⟨_,s0.seq Hq⟩,?_⟩;refine qC (xs:=fN go) (ajp x gl y p T due rd go hw H)
   ⟨[],none,none,none,rfl,s0,⟨aP,sZ,sZ,λe he=>nomatch he⟩,λr=>⟨λz=>(nomatch z),λz=>bG rfl z⟩,cq _⟩ (λi σ b2 _⟨_,_,_,_,_,h,_,_,_⟩=>h.seq Hq) ?_ ?_
  .rintro i z σ b2 dC ⟨E,v1,v2,g0,rfl,aH,mw,mem,le⟩;unfold fN at dC;rw[c9]at dC;obtain⟨k,eg,rfl⟩:=fJ.mp dC;have aoX:i<go.length:=(eM.mp eg).1;have a5:go.take (i+1)=go.take i++[k]:=by rw[pk,eg];rfl
   have yh:=W.same aH;rcases ok k (eH eg)with⟨C',ss,s1,pb,aB,aD,cH,e3,gw,j0,vr⟩|⟨C',ss,s1,pb,aB,aD,cH,e3,gw,j0,vr⟩
   .have a5:(go.take (i+1)).filter hw=(go.take i).filter hw++[k]:=by rw[a5,nq,l5,bM C',u0]
    refine⟨_,rfl,x,ah,_,rfl,aH _ _ av,rfl,_,rfl,x,n,g,st,cc,ls,aE,k,ss,s1,rfl,yh,aB,?_⟩;refine⟨_,rfl,_,rfl,_,_,rfl,rfl,_,rfl,?_⟩;by_cases hd:due k<=T
    .refine fH (cu (by rw[aD];exact hd)) ?_;refine⟨_,rfl,y,hV,_,rfl,aH _ _ cS,rfl,_,rfl,x,ah,_,rfl,aH _ _ av,rfl,_,rfl,x,n,g,st,cc,ls,aE,k,ss,s1,rfl,yh,aB,_,rfl,x,ah,_,rfl,aH _ _ av,rfl,_,rfl,x,n,g,st,cc,ls,aE,k,pb,rfl,yh,cH,?_⟩;refine⟨y,lQ,t,bt,bu,hs,_,kvs,s1.fA,pb,rfl,vf.same aH,G,uq G e3,uq G gw,λ_ ag s2=>?_,λz=>bG (Jt e3 gw j0) (by rw[z];decide)⟩;rw[vr];refine⟨_,rfl,rfl,_,rfl,fH (by simp) ?_⟩;have kE:=aH.trans s2;have RY:=mw.same s2;refine⟨_,rfl,p,rfl,.inl ⟨_,.inl RY.tab⟩,_,rfl,e_ _,λjg Rc=>?_⟩;have s3:=bW (o:=.lst []) Rc;have ur:=RY.same s3;have I7:=kE.trans s3;have hz:upd ag jg (.lst []) jg=some (.lst []):=aP;have ø:=nQ kE Rc;have QR:∀e∈E,e.2≠jg:=λe he z=>by obtain⟨_,_,ts,c,_⟩:=RY.each e he;rw[z,Rc]at c;cases c
     generalize upd ag jg (.lst [])=a_ at s3 ur I7 hz⊢;have hl:(mh E).length=E.length:=bp _;refine⟨mh E,e7 (rd k:Int),rfl,ur.tab,eW (by omega),λv bz=>?_,λh0=>?_⟩
     .have nL:rd k∈E.map (·.1):=by
       by_cases z:rd k∈E.map (·.1)
       .exact z
       .rw[JV z]at bz;cases bz
      obtain⟨⟨r0,l⟩,he,cJ⟩:=b4.mp nL;have cJ:r0=rd k:=cJ;subst cJ;rw[I3 ur.t9 he]at bz;cases bz;obtain⟨nl,_,ts,aj,dg⟩:=ur.each _ he;refine⟨.inl ⟨rfl,_,aJ.of aj⟩,_,rfl,_,rfl,(by show 2<=sizeLine;decide),λr jt=>?_⟩;have s4:=bW (o:=.tup [V.int s1.due,V.int (k:Int)]) jt;have RZ:=ur.same s4;have aq:upd a_ r (.tup [V.int s1.due,V.int (k:Int)]) r=some (.tup (jf (due k,k))):=by rw[aP,aD];rfl
      have du:=dg.len;refine⟨l,_,_,rfl,rfl,s4 _ _ aj,eW (by rw[eI];rw[bp]at du;have:=WC due rd T ((go.take i).filter hw) (rd k);have gG:=jl hw (go.take i);rw[mK]at gG;have auQ:ts.length=(e4 due rd T ((go.take i).filter hw) (rd k)).length:=du;omega),?_⟩;refine⟨E,_,_,_,rfl,kp nl (I7.trans s4),?_,?_,by omega⟩
      .rw[a5,Jx hd];exact RZ.add he (s4 _ _ aj) (dg.same s4) aq (nQ I7 jt)
      .intro cw;rw[a5,Jx hd,mem cw];dsimp only;by_cases z:cw=rd k
       .subst z;rw[bM rfl];exact⟨λ_=>by simp,λ_=>(mem _).mp nL⟩
       .rw[bE z]
     .have nL:rd k∉E.map (·.1):=λz=>by obtain⟨⟨r0,l⟩,he,cJ⟩:=b4.mp z;have cJ:r0=rd k:=cJ;subst cJ;rw[I3 ur.t9 he]at h0;cases h0
      have oT:e4 due rd T ((go.take i).filter hw) (rd k)=[]:=by
       by_cases z:e4 due rd T ((go.take i).filter hw) (rd k)=[]
       .exact z
       .exact bG ((mem _).mpr z) nL
      have oU:=ur.new nL oT ø hz QR;have Ss:aN H (upd a_ p (.b0 (d7 (mh E) (e7 (rd k:Int)) (.ref jg)))):=kp aO I7;have np:jg≠p:=λz=>by rw[z,ur.tab]at hz;cases hz
      have HJ:upd a_ p (.b0 (d7 (mh E) (e7 (rd k:Int)) (.ref jg))) jg=some (.lst (aC [])):=by rw[aA np];exact hz
      generalize upd a_ p (.b0 (d7 (mh E) (e7 (rd k:Int)) (.ref jg)))=dP at oU Ss HJ⊢;have he:(rd k,jg)∈E++[(rd k,jg)]:=hj.mpr (.inr (.head _));refine⟨.inl ⟨rfl,_,aJ.of HJ⟩,_,rfl,_,rfl,(by show 2<=sizeLine;decide),λr jt=>?_⟩;have s4:=bW (o:=.tup [V.int s1.due,V.int (k:Int)]) jt;have RZ:=oU.same s4;have aq:upd dP r (.tup [V.int s1.due,V.int (k:Int)]) r=some (.tup (jf (due k,k))):=by rw[aP,aD];rfl
      refine⟨jg,_,_,rfl,rfl,s4 _ _ HJ,(by show 0<sizeLine;decide),?_⟩;refine⟨E++[(rd k,jg)],_,_,_,rfl,kp ø (Ss.trans s4),?_,?_,by rw[hi];show E.length+1<=i+1;omega⟩
      .rw[a5,Jx hd];exact RZ.add (ts:=[]) he (s4 _ _ HJ) (by rw[oT];exact .nil) aq (nQ Ss jt)
      .intro cw;rw[a5,Jx hd,eU,hj,mem cw];dsimp only;by_cases z:cw=rd k
       .subst z;rw[bM rfl];exact⟨λ_=>by simp,λ_=>.inr (.head _)⟩
       .rw[bE z];exact⟨λy=>y.elim id λy=>bG (hr.mp y) z,.inl⟩
    .refine ew (dJ (by rw[aD];exact hd)) ?_;exact⟨E,_,_,g0,rfl,aH,by rw[a5,XF hd];exact mw,by rw[a5,XF hd];exact mem,by omega⟩
   .have a5:(go.take (i+1)).filter hw=(go.take i).filter hw:=by rw[a5,nq,l5,bE (by rw[C'];decide),u0,l4]
    refine⟨_,rfl,x,ah,_,rfl,aH _ _ av,rfl,_,rfl,x,n,g,st,cc,ls,aE,k,ss,s1,rfl,yh,aB,?_⟩;refine⟨_,rfl,_,rfl,_,_,rfl,rfl,_,rfl,?_⟩;by_cases hd:due k<=T
    .refine fH (cu (by rw[aD];exact hd)) ?_;refine⟨_,rfl,y,hV,_,rfl,aH _ _ cS,rfl,_,rfl,x,ah,_,rfl,aH _ _ av,rfl,_,rfl,x,n,g,st,cc,ls,aE,k,ss,s1,rfl,yh,aB,_,rfl,x,ah,_,rfl,aH _ _ av,rfl,_,rfl,x,n,g,st,cc,ls,aE,k,pb,rfl,yh,cH,?_⟩;refine⟨y,lQ,t,bt,bu,hs,_,kvs,s1.fA,pb,rfl,vf.same aH,G,uq G e3,uq G gw,λ_ ag s2=>?_,λz=>bG (Jt e3 gw j0) (by rw[z];decide)⟩;rw[vr];refine⟨_,rfl,rfl,_,rfl,ew (by simp) ?_⟩;exact⟨E,_,_,_,rfl,aH.trans s2,by rw[a5];exact mw.same s2,by rw[a5];exact mem,by omega⟩
    .refine ew (dJ (by rw[aD];exact hd)) ?_;exact⟨E,_,_,g0,rfl,aH,by rw[a5];exact mw,by rw[a5];exact mem,by omega⟩
  .rintro σ b2 ⟨E,v1,v2,g0,rfl,aH,mw,mem,le⟩;unfold fN at mw mem;rw[bp,pn]at mw mem;exact⟨_,rfl,q p b2 E aO aH mw mem⟩
end
end dW
namespace ct
open PySem PySem.Spec PyProof.Rows ao
section
variable{X:bg}
theorem Ċ:j8 X (.builtin "sorted") (λxs H Q=>∃(p:Addr)(ns:g8),xs=[.ref p]/\aJ X.K H p (ns.map V.int)/\ns.length<64/\∀l,H l=none->Q (.ref l) (upd H l (.lst ((sortI ns).map V.int)))):=by intro pins s σ H xs us Q I r h;obtain⟨p,ns,rfl,aU,Qm,q⟩:=h;obtain⟨u,rfl,ez⟩:=vals1 r;cases ez;obtain⟨its,cg,pl,hz⟩:=I.list aU;have hlen:=cg.length;rw[bp]at hlen;refine ŵ (κ:=Rt) (lt:=ltI ns) pl.isList (by omega) (λai s1 x mP ff=>š cg ai ff) (λai s1 x i j C ar bL en=>VM cg ar bL en) λD h' c hle x ay=>?_;refine⟨.ref D,_,I.laid (a:=D) (o:=.lst ((sortI ns).map V.int)) (t':=s.toks) (λb o q=>x b o q) hle ?_,rfl,q D (I.bb.fresh hle)⟩;rw[<-Wz];refine⟨?_,_,c,SX cg,ay⟩;rw[TS];exact hz
theorem arX(ay:X.calm=true):j8 X (.builtin "sorted") (λxs H Q=>∃(p:Addr)(kvs:List (a'×V))(ns:g8),xs=[.ref p]/\H p=some (.b0 kvs)/\kvs.map (·.1)=ns.map e7/\ns.length<64/\∀l,H l=none->Q (.ref l) (upd H l (.lst ((sortI ns).map V.int)))):=by
 intro pins s σ H xs us Q I r h;obtain⟨p,kvs,ns,rfl,aO,eg,Qm,q⟩:=h;obtain⟨u,rfl,ez⟩:=vals1 r;cases ez;have dm:X.A.handled=none:=I.ok.hd ay;obtain⟨rA,lo,ys,rel,o,es,ep,a3,av,hd,_,qS,aT⟩:=w0 I.bb aO;have cg:cO (ns.map V.int) (es.toList.map (·.key)):=by
  have gen:∀{kvs:List (a'×V)}{ys:List (a'×Value)}{hl:List pe}{ns:g8},gC kvs ys->Pairs (gj X.prog X.w) hl ys->kvs.map (·.1)=ns.map e7->cO (ns.map V.int) (hl.map (·.key)):=by
   intro kvs ys hl ns rel pr
   induction pr generalizing kvs ns with
   |nil=>
    intro e;cases rel;cases ns with
    |nil=>exact .nil
    |cons _ _=>cases e
   |cons af ai t a6=>
    intro e;cases rel with
    |cons a b=>
     cases ns with
     |nil=>cases e
     |cons n ns=>
      rw[hQ,hQ,FY]at e;refine .cons ?_ (a6 b e.2);rw[<-a.1,e.1]at af;exact afE af
  exact gen rel qS eg
 have aj:=cg.length;rw[bp]at aj;have lN:kvs.length=ns.length:=by have:=ha sW eg;simpa using this
 refine aba (κ:=Rt) (lt:=ltI ns) lo dm ⟨o,a3,av,hd⟩ rfl (by omega) (λai s1 x mP ff=>š cg ai ff) (λai s1 x i j C ar bL en=>VM cg ar bL en) λaf D h' t c e0 hle x ay=>?_;have aR:Inv X pins σ H {s with heap:=af,toks:=t}:=I.kept (t':=t) λb o e=>e0 b o e;refine⟨.ref D,_,aR.laid (a:=D) (o:=.lst ((sortI ns).map V.int)) (t':=t) (λb o q=>x b o q) hle ?_,rfl,q D (aR.bb.fresh hle)⟩;rw[<-Wz];refine⟨?_,_,c,SX cg,ay⟩;rw[TS,bp];omega
end
end ct
namespace dW
open PySem ao ct dx
theorem WD{K:aV}{dh:TI}{cs:lD}{b3:TE}{σ rest:ao.St}{H:ae}{Q:ba}{ds:List aZ}(hw:∀R:f9->ae->Prop,(∀p H1 ts,H p=none->aN H H1->H1 p=some (.lst (aC ts))->d_ H1 ts ds->R (mI K p) H1)->dh σ H R)(ij:il cs σ=none::none::rest)(aj:ds.length<sizeLine)(f:Nat->ao.V)(two:∀d∈ds,∃u v,d=[u,v])(elt:∀(i:Nat)(u v:ao.V)(ag:ae)(R:ba),ds[i]?=some [u,v]->aN H ag->(∀bw,aN ag bw->R (f i) bw)->b3 (some u::some v::rest) ag R)(fin:∀(D:Addr)(H':ae),H D=none->H' D=some (.lst ((ek ds.length).map f))->aN H H'->Q (.ref D) H'):n1 dh cs (xW K 2 (q9 (hX 0) (q9 (hX 1) AX))) sN b3 σ H Q:=by
 refine hw _ λp H1 ts np s1 aO dg D bR=>?_;have ln:=dg.len;refine⟨λi m ys a4 H'=>m=ds.length-i/\i<=ds.length/\ys=(ek i).map f/\(∃hB lh,a4=hB::lh::rest)/\aN H1 H'/\H' D=some (.lst ys),⟨ds.length,by simp,e_ _,rfl,⟨none,none,by rw[ij]⟩,λb o e=>?_,aP⟩,?_⟩
 .rw[aA (bZ e bR)];exact e
 .rintro i m ys a4 H' ⟨rfl,ar,rfl,⟨hB,lh,rfl⟩,aH,fe⟩;obtain⟨fo,fU,hN⟩:=tZ (aJ.of (K:=K) aO) H' aH;refine⟨fe,od (by rw[bp,jz];omega) aj,?_⟩;rw[eI]at fo fU hN;by_cases cP:i<ds.length
  .refine .inr ⟨fU i (by omega),λx ag y=>?_⟩;obtain⟨rfl,ex⟩:=hN i x ag (by omega) y;unfold aC at ex;rw[c9]at ex;obtain⟨t,vA,rfl⟩:=fJ.mp ex;obtain⟨d,dY,hd⟩:=bf.get dg vA;have hd:=aH _ _ hd;obtain⟨u,v,rfl⟩:=two d (eH dY);refine⟨t,_,rfl,cN.of hd,rfl,_,_,rfl,_,_,rfl,rfl,?_⟩;show b3 (some u::some v::rest) ag _;refine elt i u v ag _ dY (s1.trans aH) λbw s5=>⟨s5 _ _ fe,ds.length-(i+1),by omega,rfl,cP,?_,⟨_,_,rfl⟩,λb ob e=>?_,aP⟩
   .rw[s7,eU];rfl
   .rw[aA (bZ e bR)];exact s5 _ _ (aH _ _ e)
  .have e:i=ds.length:=by omega
   subst e;rw[ln]at fo;exact .inl ⟨fo,fin D H' (nQ s1 bR) fe (s1.trans aH)⟩
theorem FL{i:Nat}{v:ao.V}{σ:ao.St}{H:ae}{Q:ao.St->ae->Prop}(h:Q (σ.set i (some v)) H):hX i v σ H Q:=h
theorem hk.upd{H:ae}{a l:Addr}{b:kK×List Nat}{xs ys:aZ}(h:hk H a b)(aj:H l=some (.lst xs)):hk (ao.upd H l (.lst ys)) a b:=by obtain⟨c,af,ai⟩:=h;exact⟨c,by rw[aA λz=>by rw[z,aj]at af;cases af];exact af,by rw[aA λz=>by rw[z,aj]at ai;cases ai];exact ai⟩
theorem VO(ts:bS){m:Int}(h:0<=m):mv (aC ts) none (some m)=aC (ts.take m.toNat):=by
 obtain⟨k,rfl⟩:∃k:Nat,m=(k:Int):=⟨m.toNat,by omega⟩
 unfold mv;have f1:iO.jR (aC ts).length 0 none=0:=rfl;have f2:iO.jR (aC ts).length (aC ts).length (some (k:Int))=min k (aC ts).length:=iO.Se (aC ts).length (aC ts).length k;rw[f1,f2,Nat.sub_zero,List.drop_zero,mH];unfold aC;rw[bp,K2];by_cases z:k<=ts.length
 .rw[adK z]
 .rw[Nat.min_eq_right (by omega),Xe (by rw[bp];exact cq _),Xe (by rw[bp];omega)]
theorem Td{H:ae}:∀{ts:bS}{ds:List aZ}(k:Nat),d_ H ts ds->d_ H (ts.take k) (ds.take k)
 |_,_,0,_=>by rw[F3,F3];exact .nil
 |_,_,k+1,.nil=>.nil
 |_,_,k+1,.cons a t=>.cons a (Td k t)
noncomputable def hY(ds:bT)(due:Nat->Int)(rd:Nat->Nat)(T:Int)(go:dI)(r:Nat):kK×List Nat:=((T,r),ru (iE ds r) (e4 due rd T go r))
theorem WE(due:Nat->Int)(rd:Nat->Nat)(T:Int)(go:dI)(r:Nat):(e4 due rd T go r).map (·.2)=go.filter λn=>decide (due n<=T)&&decide (rd n=r):=by unfold e4;rw[jA];exact K1 _
theorem aho{due:Nat->Int}{rd:Nat->Nat}{T:Int}{go:dI}{r:Nat}(aG:go.Nodup):(e4 due rd T go r).Nodup:=by
 have h:((e4 due rd T go r).map (·.2)).Nodup:=by rw[WE];exact aG.filter _
 exact(s6.mp h).imp λh z=>h (by rw[z])
theorem WG{due:Nat->Int}{rd:Nat->Nat}{T:Int}{go:dI}{r:Nat}(aG:go.Nodup)(k:Nat):(((jq (e4 due rd T go r)).take k).map (·.2)).Nodup:=by
 have h:((jq (e4 due rd T go r)).map (·.2)).Nodup:=by refine(((vJ _).map _).nodup_iff).mpr ?_;rw[WE];exact aG.filter _
 rw[K2];exact h.sublist (Xf _ _)
theorem um(ns:dI):fN ns=(ja ns).map V.int:=by unfold fN ja;rw[jA];rfl
inductive ahp(K:aV)(C aS az:Addr)(vs:aZ)(H:ae)(Q:ba)(bN:b6):Prop where
 |mk (x n g st gl y t bt bu:Addr) (cc:b9) (ls rs:bS) (aE:fj) (hs:bc) (ds:bT) (kvs:er) (tI:dI) (hw:Nat->Bool) (go:dI) (due:Nat->Int) (rd:Nat->Nat) (T:Int) (bV:vs=[.ref n,.ref x,.ref gl,.ref y,.int T]) (bA:go=tI.filter hw) (cn:WalkAt C H x n g st cc ls aE) (di:aJ K H gl (fN tI)) (d8:pQ aS az H y n t bt bu (cK hs) (aC rs) kvs) (fI:ix H hs rs ds) (iM:Good hs) (lx:tI.length<=60) (nh:tI.Nodup) (rz:(∀k∈tI,JW hw hs kvs cc aE due rd k)) (xb:(∀k∈go,rd k<ds.length)) (z4:∀(l:Addr)(H':ae)(as:bS)(rl:dI),H l=none->aN H H'->H' l=some (.lst (aC as))->bf (hk H') as (rl.map (hY ds due rd T go))->rl.Pairwise (· < ·)->(∀r,r∈rl↔e4 due rd T go r≠[])->Q (.ref l) H')
noncomputable def Li(K:aV)(C aS az:Addr):cM:=λvs H Q bN=>ahp K C aS az vs H Q bN
section
variable{P:bO}{w:bx}{K:aV}{mg:cI}{base:Heap}
noncomputable abbrev Es:Stmt:=top 23
theorem xR:dB ["net","walk","going","ways","turn","queues","bags","road","room","chosen"] ["net","walk","going","ways","turn"] (c7 Es):=⟨rfl,rfl,rfl,by decide+kernel,rfl,by decide+kernel,by decide+kernel⟩
inductive ajq(n x gl y p aM bo:Addr)(T:Int)(rl:dI)(ds:bT)(due:Nat->Int)(rd:Nat->Nat)(go:dI)(H1:ae)(j:Nat)(σ:ao.St)(b2:ae):Prop where
 |mk (as:bS) (v1 v2 g0:l') (bV:σ=[some (.ref n),some (.ref x),some (.ref gl),some (.ref y),some (.int T),some (.ref p),some (.ref aM),v1,v2,g0]) (bA:aN H1 b2) (cn:b2 bo=some (.lst (fN rl))) (di:b2 aM=some (.lst (aC as))) (d8:bf (hk b2) as ((rl.take j).map (hY ds due rd T go)))
theorem ahq{C aS az f f1 f2:Addr}{fd c4 ec:cF}(F:bB K "bags_at" "bags_at" Es f fd)(B:gp mg)(hH:fB K az)(Dw:dO K mg "queues_at" EF ["walk","going","ways","turn"] f1 c4)(aaL:aL P w K mg base a8 4 f1 c4 ["walk","going","ways","turn"] (LO K C aS az))(ou:c6 K az "road" "Net.road" uh ["self","number"] f2 ec)(Dn:aL P w K mg base a8 1 f2 ec ["self","number"] (Js az)):
  aL P w K mg base a8 5 f fd ["net","walk","going","ways","turn"] (Li K C aS az):=by
 refine F.ok xR (λvs H Q E h=>?_) (λcdv A outer s H vs Q E aq h=>?_)
 .obtain⟨x,n,g,st,gl,y,t,bt,bu,cc,ls,rs,aE,hs,ds,kvs,tI,hw,go,due,rd,T,rfl,_⟩:=h;rfl
 .obtain⟨x,n,g,st,gl,y,t,bt,bu,cc,ls,rs,aE,hs,ds,kvs,tI,hw,go,due,rd,T,rfl,NA,W,Hq,vf,R,G,anb,apO,ok,I0,q⟩:=h;have eh:go.length<=60:=by rw[NA];exact eQ (jl _ _) anb
  have Q2:go.Nodup:=by rw[NA];exact apO.filter _
  obtain⟨iS,aT⟩:=vf.hp.ins;refine⟨_,(bh (da (i:=5) xR.aG rfl (cb rfl) (fw aaL (aq.mono (by decide)) (by rfl) Dw.at_ Dw.fn.bI Dw.bd .nil dt (ak (aa 1) (ak (aa 2) (ak (aa 3) (ak (aa 4) aI))))))
   (bh (da (i:=6) xR.aG rfl (cb rfl) (gS aI))
   (bh (kq kM rfl (jY (dE (arX rfl) (by rfl) B.sorted yT (ak (aa 5) aI))) (et (i:=7) xR.aG rfl (cb rfl))
    (bh (da (i:=8) xR.aG rfl (cb rfl) (cv fa (g_ (aa 0) hH ou.eo Dn (aq.mono (by decide)) ou.bd .nil dt (ak (aa 7) aI)) aW (λ_ _=>rfl)))
   (bh (tQ (i:=9) xR.aG rfl rfl rfl (N':=["came","number"]) (cs:=[none,none]) rfl (jY (Tu UB (dE Q7 (by rfl) B.sorted yT (ak (lw (iV aq) (aa 5) (aa 7) (λ_ _=>rfl)) aI)) V5 (Jl (aa 8)))) rfl (by decide+kernel) rfl (by decide+kernel) (lK (λp aO=>bG aO (dX))) rfl
    (.own (.own .nil))
    (λC s3 a_ cp fg=>⟨(Eg (K:=K) (n:=2) rfl rfl (ia (et (i:=0) (by show(["came","number"]:b9).Nodup;decide+kernel) rfl (.inl rfl)) (ia (et (i:=1) (by show(["came","number"]:b9).Nodup;decide+kernel) rfl (.inl rfl)) pP))),qX,(aa 1)⟩))
   (br (gQ (nN og pw px nB (aa 6) (ak (i8 (ak (aa 4) (ak (aa 7) (ak (nA Ĉ (by rfl) B.tuple y1 (ak (dE Ċ (by rfl) B.sorted yT (ak (aa 9) aI)) aI)) aI)))) aI)))))))
   (br (c_ (aa 6)))))),?_⟩
  refine⟨_,rfl,_,rfl,_,rfl,_,rfl,x,n,g,st,gl,y,n,t,bt,bu,cc,ls,aE,hs,_,kvs,tI,hw,due,rd,T,rfl,W,Hq,vf,G,(by omega),ok,λp H1 E np s1 mw mem=>?_⟩;rw[<-NA]at mw mem;refine⟨e_ _,λaM ka=>?_⟩;have s2:=bW (o:=.lst []) ka;have Ol:upd H1 aM (.lst []) aM=some (.lst []):=aP;generalize upd H1 aM (.lst [])=ag at s2 Ol⊢;obtain⟨hb,GC⟩:∃hb,hb=E.map (·.1):=⟨_,rfl⟩
  have ì:hb.Nodup:=by rw[GC];exact mw.t9
  have eg:(mh E).map (·.1)=(ja hb).map e7:=by rw[GC];unfold mh ja;rw[jA,jA,jA];rfl
  have auh:hb.length<=go.length:=by
   have ai:=IJ (sn:=hb) (L:=go.map rd) ì λr aq=>by rw[GC]at aq;obtain⟨c,ay⟩:=W6 _ ((mem r).mp aq);unfold e4 at ay;obtain⟨k,aX,_⟩:=b4.mp ay;obtain⟨bU,cX⟩:=gJ.mp aX;simp only[jx,decide_eq_true_eq]at cX;exact b4.mpr ⟨k,bU,cX.2⟩
   rwa [bp]at ai
  refine⟨_,rfl,p,mh E,ja hb,rfl,s2 _ _ mw.tab,eg,(by unfold ja;rw[bp];omega),λbo je=>⟨bo,rfl,⟨_,aJ.of aP⟩,?_⟩⟩;rw[<-Ey,<-um];have s3:=bW (o:=.lst (fN (fM hb))) je;have O6:upd ag bo (.lst (fN (fM hb))) bo=some (.lst (fN (fM hb))):=aP;have ο:=s3 _ _ Ol;have aq6:bo≠aM:=cR (h4 Ol je);generalize upd ag bo (.lst (fN (fM hb)))=a_ at s3 O6 ο⊢;obtain⟨rl,vz⟩:∃rl,rl=fM hb:=⟨_,rfl⟩
  rw[<-vz]at O6;have Qz:∀r,r∈rl↔e4 due rd T go r≠[]:=λr=>by rw[vz,(vW hb).mem_iff,GC];exact mem r
  have lN:rl.length<=100:=by rw[vz,(vW hb).length_eq];omega
  refine qC (xs:=fN (fM hb)) (ajq n x gl y p aM bo T rl ds due rd go H1)
   ⟨[],none,none,none,rfl,s2.trans s3,O6,ο,.nil⟩ (λi σ b2 _⟨_,_,_,_,_,_,h,_,_⟩=>by rw[<-vz];exact aJ.of h) ?_ ?_
  .rintro j z σ b2 dC ⟨as,v1,v2,g0,rfl,aH,Æ,Oo,gR⟩;rw[<-vz]at dC;unfold fN at dC;rw[c9]at dC;obtain⟨r,f3,rfl⟩:=fJ.mp dC;have Ã:=eH f3;obtain⟨vn,ς⟩:=W6 _ ((Qz r).mp Ã);have auK:r<ds.length:=by unfold e4 at ς;obtain⟨k,aX,_⟩:=b4.mp ς;obtain⟨bU,cX⟩:=gJ.mp aX;simp only[jx,decide_eq_true_eq]at cX;rw[<-cX.2];exact I0 k bU
   have R8:=s1.trans aH;have afU:=R.same R8;have aqS:=R.len;obtain⟨gI,era⟩:∃gI,rs[r]?=some gI:=⟨_,dv (by omega)⟩
   obtain⟨d,dY,sj,hd⟩:=afU.get era;have cJ:ds.getD r oW=d:=so dY;refine⟨_,rfl,n,iS,_,rfl,R8 _ _ aT,rfl,_,rfl,n,bt,bu,_,_,_,_,rfl,vf.hp.same R8,(by omega),(by have:=eI rs;omega),(iQ (by unfold aC;rw[c9,era];rfl)),gI,_,_,_,rfl,rfl,cN.of hd,rfl,?_⟩;have em:(d.m:Int)=iE ds r:=by unfold iE;rw[cJ]
   have m0:0<=iE ds r:=by rw[<-em];have:=sj.m.1;omega
   obtain⟨cs,ov⟩:∃cs,cs=e4 due rd T go r:=⟨_,rfl⟩
   have auB:cs.Nodup:=by rw[ov];exact aho Q2
   have lcs:cs.length<=60:=by rw[ov];have:=WC due rd T go r;omega
   have aoz:r∈E.map (·.1):=(mem r).mpr ((Qz r).mp Ã);obtain⟨⟨r0,jP⟩,he,aB⟩:=b4.mp aoz;have aB:r0=r:=aB;subst aB;obtain⟨_,_,ts,OP,EU⟩:=(mw.same aH).each _ he;have EU:d_ b2 ts (cs.map jf):=by rw[ov];exact EU
   have aov:=(mw.same aH).tab;have ZY:=iY.k (k:=e7 (r0:Int)) aov;rw[I3 mw.t9 he]at ZY;have S2:=EU.len;rw[bp]at S2;obtain⟨k,BW⟩:∃k,k=(iE ds r0).toNat:=⟨_,rfl⟩
   obtain⟨ch,tC⟩:∃ch,ch=((jq cs).take k).map (·.2):=⟨_,rfl⟩
   have auC:ch.Nodup:=by rw[tC,ov];exact WG Q2 k
   have b8:((jq cs).take k).length<=60:=by rw[mK];have:=(vJ cs).length_eq;omega
   refine FL ?_;dsimp only;refine Ji ?_;refine WD (K:=K) (rest:=[]) (ds:=((jq cs).take k).map jf) (λLA CM=>?_) rfl (eW (by rw[bp];omega)) (λi=>V.int ((((jq cs).take k).getD i (0,0)).2:Int)) (λd' mZ=>?_) (λi u v bw LA ey s5 bY=>?_) (λD bw q6 bR s5=>?_)
   .refine⟨_,rfl,_,rfl,p,_,rfl,ZY,jP,ts,cs.map q8,true,[true],rfl,aJ.of OP,RR EU,(by omega),VN cs,λhK pX=>?_⟩;obtain⟨wR,BZ,S4⟩:=Ţ EU;have s4:=bW (o:=.lst (gT V.bq (mq (cs.map q8)) (ts.map V.ref))) pX;have j6:upd b2 hK (.lst (gT V.bq (mq (cs.map q8)) (ts.map V.ref))) hK=some (.lst (aC wR)):=by rw[aP];rw[show ts.map V.ref=aC ts from rfl,BZ]
    refine⟨_,rfl,_,rfl,hK,_,rfl,aJ.of j6,λgG lg=>⟨gG,rfl,⟨_,aJ.of aP⟩,?_⟩⟩;rw[em,VO wR m0,<-BW];refine CM gG _ (wR.take k) (nQ s4 lg) (s4.trans (bW lg)) aP ?_;rw[K2];exact(Td k (S4.same s4)).same (bW lg)
   .obtain⟨c,_,rfl⟩:=b4.mp mZ;exact⟨_,_,rfl⟩
   .rw[c9]at ey;obtain⟨c,ic,aD⟩:=fJ.mp ey;have cH:V.int (c.2:Int)=v:=by unfold jf at aD;simp only[FY]at aD;exact aD.2.1
    refine⟨_,rfl,?_⟩;rw[<-cH];have:=bY bw (aN.refl _);rw[so ic]at this;exact this
   have BO:(ek (((jq cs).take k).map jf).length).map (λi=>V.int ((((jq cs).take k).getD i (0,0)).2:Int))=fN ch:=by rw[bp,range_getD (λc:Int×Nat=>V.int (c.2:Int)) (0,0) ((jq cs).take k),tC];unfold fN;rw[jA];rfl
   rw[BO,um]at bR;have Om:=s5 _ _ Oo;have eS:=gM gR;rw[bp,mK]at eS;refine⟨_,rfl,.inl ⟨rfl,_,aJ.of Om⟩,_,rfl,_,rfl,_,rfl,D,ja ch,rfl,aJ.of bR,(by unfold ja;rw[bp,tC,bp];omega),λj9 t_=>⟨j9,_,rfl,.inl ⟨aJ.of aP,λc hc=>⟨(by show 3<=sizeLine;decide),λeu oO=>⟨aM,aC as,_,rfl,rfl,bW oO _ _ (bW hc _ _ (bW t_ _ _ Om)),eW (by rw[eI];omega),?_⟩⟩⟩⟩⟩;rw[<-Ey,<-um];have f7:=bW (o:=.lst (fN (fM ch))) t_;have ku:∀b o,bw b=some o->upd bw j9 (.lst (fN (fM ch))) b=some o:=f7;rw[<-Ey,<-um]at hc oO;generalize upd bw j9 (.lst (fN (fM ch)))=gh at f7 hc oO⊢;have gm:=bW (o:=.tup (fN (fM ch))) hc;have CR:upd gh c (.tup (fN (fM ch))) c=some (.tup (fN (fM ch))):=aP;generalize upd gh c (.tup (fN (fM ch)))=e1 at gm CR oO⊢;have fh:=bW (o:=.tup [V.int T,V.int (r0:Int),V.ref c]) oO;have ρ:upd e1 eu (.tup [V.int T,V.int (r0:Int),V.ref c]) eu=some (.tup [V.int T,V.int (r0:Int),V.ref c]):=aP;have CS:=fh _ _ CR;generalize upd e1 eu (.tup [V.int T,V.int (r0:Int),V.ref c])=dD at fh ρ CS⊢;have p4:=f7.trans (gm.trans fh);have rZ:=p4 _ _ Om;have nb:hk dD eu (hY ds due rd T go r0):=by
    refine⟨c,ρ,?_⟩;have vt:(hY ds due rd T go r0).2=fM ch:=by unfold hY ru;rw[<-ov,<-BW,<-tC]
    rw[vt];exact CS
   refine⟨as++[eu],_,_,_,rfl,kp ka (aH.trans (s5.trans p4)),by rw[aA aq6];exact p4 _ _ (s5 _ _ Æ),by rw[aP,rX],?_⟩;rw[show rl.take (j+1)=rl.take j++[r0] by rw[pk,f3];rfl,eU];refine Paired.snoc (nb.upd rZ) (bf.eE gR λa b h=>((h.same s5).same p4).upd rZ)
  .rintro σ b2 ⟨as,v1,v2,g0,rfl,aH,Æ,Oo,gR⟩;rw[<-vz]at gR;unfold fN at gR;rw[bp,pn]at gR;exact⟨_,rfl,q aM b2 as rl (nQ s1 ka) (s1.trans aH) Oo gR (by rw[vz];exact adZ ì) Qz⟩
noncomputable def aqZ:Step:=⟨0,none,mQ,0⟩
noncomputable def oL(ss:List Step):Step:=ss.getLastD aqZ
noncomputable def gf(aE:fj)(n:Nat):Step:=oL (aE.getD n [])
noncomputable def iZ(aE:fj)(n:Nat):Int:=(gf aE n).due
noncomputable def j3(cc:b9)(n:Nat):Str:=cc.getD n mQ
noncomputable def iF(kvs:er)(cc:b9)(aE:fj)(n:Nat):Nat:=(iy kvs (gf aE n).fA (j3 cc n)).getD 0
theorem ņ(ss:List Step)(s:Step):oL (ss++[s])=s:=by unfold oL;rw[acW,List.getLast?_append];rfl
theorem abf{ss:List Step}(h:ss≠[]):∃i,ss=i++[oL ss]:=by refine⟨ss.dropLast,?_⟩;unfold oL;rw[acW,List.getLast?_eq_getLast h];exact(List.dropLast_concat_getLast h).symm
theorem WH{α:Type}{l:List α}{i:Nat}{d:α}(h:i<l.length):l[i]?=some (l.getD i d):=by rw[eL,dv h];rfl
noncomputable def ml(m:Nat)(due:Nat->Int)(rd:Nat->Nat)(T:Int)(go:dI):List Nat:=(ek m).filter λr=>!(e4 due rd T go r).isEmpty
noncomputable def m5(ds:bT)(due:Nat->Int)(rd:Nat->Nat)(T:Int)(go:dI):List (kK×List Nat):=(ml ds.length due rd T go).map (hY ds due rd T go)
theorem VP{m:Nat}{due:Nat->Int}{rd:Nat->Nat}{T:Int}{go:dI}(cP:∀k∈go,rd k<m){rl:dI}(up:rl.Pairwise (· < ·))(mem:∀r,r∈rl↔e4 due rd T go r≠[]):rl=ml m due rd T go:=by
 have Ļ:(ml m due rd T go).Pairwise (· < ·):=ac2.filter _;have aps:∀r,r∈ml m due rd T go↔e4 due rd T go r≠[]:=λr=>by
  unfold ml;rw[gJ];constructor
  .rintro⟨_,h⟩ e;rw[e]at h;cases h
  .intro h;obtain⟨c,ay⟩:=W6 _ h;refine⟨lz.mpr ?_,?_⟩
   .unfold e4 at ay;obtain⟨k,aX,_⟩:=b4.mp ay;obtain⟨bU,cX⟩:=gJ.mp aX;simp only[jx,decide_eq_true_eq]at cX;rw[<-cX.2];exact cP k bU
   .cases e:e4 due rd T go r with
    |nil=>exact bG e h
    |cons _ _=>rfl
 refine WA (R:=(· < ·)) (λa b af ai=>by omega) ((List.perm_ext_iff_of_nodup (up.imp λh=>eN h) (Ļ.imp λh=>eN h)).mpr λr=>?_) up Ļ;rw[mem r,aps r]
theorem Jy{ds:bT}{due:Nat->Int}{rd:Nat->Nat}{T:Int}{go:dI}{r i:Nat}(h:i∈(hY ds due rd T go r).2):i∈go/\due i<=T/\rd i=r:=by unfold hY ru at h;have af:=(vW _).mem_iff.mp h;obtain⟨c,ay,rfl⟩:=b4.mp af;have ai:=(vJ _).mem_iff.mp (ac1 ay);unfold e4 at ai;obtain⟨k,aX,rfl⟩:=b4.mp ai;obtain⟨bU,cX⟩:=gJ.mp aX;simp only[jx,decide_eq_true_eq]at cX;exact⟨bU,cX.1,cX.2⟩
theorem XG{ds:bT}{due:Nat->Int}{rd:Nat->Nat}{T:Int}{go:dI}(aG:go.Nodup)(r:Nat):(hY ds due rd T go r).2.Nodup:=((vW _).nodup_iff).mpr (WG aG _)
theorem ahr{ds:bT}{due:Nat->Int}{rd:Nat->Nat}{T:Int}{go:dI}{r:Nat}(hm:1<=iE ds r)(h:e4 due rd T go r≠[]):(hY ds due rd T go r).2≠[]:=λe=>by have hK:=ha sW e;unfold hY ru at hK;rw[(vW _).length_eq,bp,mK,(vJ _).length_eq]at hK;have gG:=A3.mpr h;simp only[A2]at hK;omega
noncomputable def nK(hs:bc)(ds:bT)(bs:l9)(aE:fj):List (List Step):=bs.foldl (λs b=>mn (stepK hs ds b.1) b.2 s) aE
theorem I4(hs:bc)(ds:bT):∀(bs:l9)(aE:fj),(nK hs ds bs aE).length=aE.length
 |[],_=>rfl
 |b::bs,aE=>by show(nK hs ds bs (mn (stepK hs ds b.1) b.2 aE)).length=_;rw[I4 hs ds bs,IH]
theorem TZ(hs:bc)(ds:bT):∀(bs:l9)(aE:fj)(i:Nat),(nK hs ds bs aE)[i]?=(aE[i]?).map λss=>ss++((bs.filter λb=>decide (i∈b.2)).map λb=>stepK hs ds b.1)
 |[],aE,i=>by show aE[i]?=_;cases aE[i]?<;>simp
 |b::bs,aE,i=>by
  show(nK hs ds bs (mn (stepK hs ds b.1) b.2 aE))[i]?=_;rw[TZ hs ds bs,DR,Option.map_map];congr 1;funext ss;show(if i∈b.2 then ss++[stepK hs ds b.1]else ss)++_=_;rw[l5];by_cases z:i∈b.2
  .rw[bM z,bM (cu z),hQ,acP];rfl
  .rw[bE z,bE (by rw[dJ z];decide)]
theorem ţ(hs:bc)(ds:bT)(bs:l9)(b:kK×List Nat)(aE:fj):nK hs ds (bs++[b]) aE=mn (stepK hs ds b.1) b.2 (nK hs ds bs aE):=by unfold nK;rw[List.foldl_append];rfl
theorem abg{L:dI}(aG:L.Nodup){p:Nat->Bool}{r0:Nat}(h:∀r∈L,p r=true->r=r0)(h0:p r0=true->r0∈L):L.filter p=if p r0=true then[r0]else[]:=by
 by_cases z:p r0=true
 .rw[bM z];have gz:=aG.filter p;have all:∀r∈L.filter p,r=r0:=λr aq=>h r (gJ.mp aq).1 (gJ.mp aq).2;have m0:r0∈L.filter p:=gJ.mpr ⟨h0 z,z⟩
  match e:L.filter p with
  |[]=>rw[e]at m0;exact bG m0 dX
  |[a]=>rw[e]at all;rw[all a (.head _)]
  |a::b::l=>
   rw[e]at all gz;have:=(iP.mp gz).1;exact bG (by rw[all a (.head _),all b (.tail _ (.head _))];exact .head _) this
 .rw[bE z];refine List.filter_eq_nil_iff.mpr λr aq aO=>z ?_;rw[<-h r aq aO];exact aO
noncomputable def Lj(ds:bT)(due:Nat->Int)(rd:Nat->Nat)(T:Int)(go:dI)(i:Nat):Bool:=decide (i∈(hY ds due rd T go (rd i)).2)
theorem agm{ds:bT}{due:Nat->Int}{rd:Nat->Nat}{T:Int}{go:dI}(cP:∀k∈go,rd k<ds.length)(i:Nat):(m5 ds due rd T go).filter (λb=>decide (i∈b.2))=if Lj ds due rd T go i=true then[hY ds due rd T go (rd i)]else[]:=by
 unfold m5;rw[AZ];have aG:(ml ds.length due rd T go).Nodup:=(ac2.filter _).imp λh=>eN h;rw[abg (r0:=rd i) aG (p:=(λb:kK×List Nat=>decide (i∈b.2))∘hY ds due rd T go) (λr _ aO=>((Jy (ju aO)).2.2).symm) (λaO=>?_)]
 .show List.map _ (if Lj ds due rd T go i=true then[rd i]else[])=_;cases Lj ds due rd T go i<;>rfl
 .have m:=Jy (ju aO);unfold ml;refine gJ.mpr ⟨lz.mpr (cP i m.1),?_⟩;have hm:(due i,i)∈e4 due rd T go (rd i):=by unfold e4;refine b4.mpr ⟨i,gJ.mpr ⟨m.1,?_⟩,rfl⟩;rw[cu m.2.1,cu rfl];rfl
  cases e:e4 due rd T go (rd i)with
  |nil=>rw[e]at hm;exact bG hm dX
  |cons _ _=>rfl
end
structure LP(mg:cI):Prop where
 adm:rF mg "MOST_LETTERS" 40
 adq:rF mg "MOST_TURN" 1000000000
 adk:rF mg "MOST_APART" 30
noncomputable def hS(hs:fY):PyData->Bool
 |.tuple [a,t,g]=>hy hs a g&&Ej 0 1000000000 t
 |_=>false
theorem ź{hs ds:fY}(h:ds.length≠3):hS hs (.tuple ds)=false:=by rcases ds with _|⟨a,_|⟨b,_|⟨c,_|⟨e,r⟩⟩⟩⟩<;>first|rfl|(simp at h)
noncomputable def nS:PyData->Int
 |.tuple [_,.int t,_]=>t
 |_=>0
theorem Ż{hs:fY}{d:PyData}(h:hS hs d=true):∃a t g,d=.tuple [a,.int t,g]/\0<=t/\t<=1000000000:=by
 unfold hS at h;split at h
 .rename_i a t g;rw[jx]at h;cases t with
  |int i=>
   have ai:(decide (0<=i)&&decide (i<=1000000000))=true:=h.2;rw[jx]at ai;exact⟨a,i,g,rfl,ju ai.1,ju ai.2⟩
  |_=>cases h.2
 .cases h
noncomputable def zL(ns:g8):Int:=if ns=[]then 0 else uy ns-oK ns
inductive agq(vs:aZ)(H:ae)(Q:ba)(bN:b6):Prop where
 |mk (a:Addr) (hs:fY) (v:ao.V) (d:PyData) (bV:vs=[.ref a,v]) (bA:dw H (.ref a) (.list hs)) (cn:dw H v d) (di:d.depth<=61) (d8:Q (.aM (hS hs d)) H)
noncomputable def KC:cM:=λvs H Q bN=>agq vs H Q bN
inductive ad0(vs:aZ)(H:ae)(Q:ba)(bN:b6):Prop where
 |mk (v:ao.V) (hs ds:fY) (bV:vs=[v]) (bA:dw H v (.list ds)) (cn:(∀d∈ds,hS hs d=true)) (di:∀H',aN H H'->Q (.int (zL (ds.map nS))) H')
noncomputable def JX:cM:=λvs H Q bN=>ad0 vs H Q bN
inductive ai3(C:Addr)(vs:aZ)(H:ae)(Q:ba)(bN:b6):Prop where
 |mk (e:Addr) (v:ao.V) (bV:vs=[.ref e,v]) (bA:H e=some (nG e C)) (cn:∀ah,H ah=none->ah≠e->Q .bq (upd (upd H ah (mC ah [("number",v)])) e (nF e C ah)))
noncomputable def Gm(C:Addr):cM:=λvs H Q bN=>ai3 C vs H Q bN
noncomputable def lH(hs:fY):List PyData->Option Nat
 |[]=>none
 |d::r=>if hS hs d=true then(lH hs r).map (·+1)else some 0
noncomputable def LQ:Option Nat->ao.V
 |some i=>.int i
 |none=>.bq
noncomputable def rD(hs ds:fY):Prop:=lH hs ds=none/\ds.length<=40/\zL (ds.map nS)<=30
inductive ahb(C eb:Addr)(vs:aZ)(H:ae)(Q:ba)(E:b6):Prop where
 |mk (x bt bu:Addr) (hs:bc) (zs:aZ) (v:ao.V) (ds:fY) (bV:vs=[.ref x,v]) (bA:jO C H x bt bu (cK hs) zs) (cn:Good hs) (di:dw H v (.list ds)) (d8:(F' ds).depth<=62) (fI:(rD (bR hs) ds->∀l H',H l=none->aN H H'->dw H' (.ref l) (.list ds)->Q (.ref l) H')) (iM:(¬rD (bR hs) ds->∀ah H',H ah=none->aN H H'->H' ah=some (mC ah [("number",LQ (lH (bR hs) ds))])->E (.ref eb) (some ah) H'))
noncomputable def Lk(C eb:Addr):cM:=λvs H Q E=>ahb C eb vs H Q E
section
variable{P:bO}{w:bx}{K:aV}{mg:cI}{base:Heap}
noncomputable abbrev Sd:Stmt:=gU (top 6) 0
theorem ajr:dB ["self","number"] ["self","number"] (c7 Sd):=⟨rfl,rfl,rfl,by decide+kernel,rfl,by decide+kernel,by decide+kernel⟩
theorem ai4{C R f:Addr}{fd:cF}(F:bB K "__init__" "NoLetter.__init__" Sd f fd)(jS:qp K mg "RoadError" C R)(qw:mg "RoadError"=some (.ref R))(aT:b5 K (.ref C) "number"=some none):aL P w K mg base a8 1 f fd ["self","number"] (Gm C):=by
 refine F.ok ajr (λvs H Q E h=>?_) (λcdv A outer s H vs Q E aq h=>?_)
 .obtain⟨e,v,rfl,_⟩:=h;rfl
 .obtain⟨e,v,rfl,he,q⟩:=h;refine⟨_,(bh (gQ (adh (by rfl) qw jS.rd jS.NN jS.So (ak (aa 0) (ak j2 aI))))
   (br (aeW (y:="RoadError") (R:=R) (aa 0) (aa 1) rfl))),?_⟩
  refine⟨_,rfl,e,C,_,rfl,he,jS,(by show 1<=sizeLine;decide),?_⟩;exact⟨_,rfl,_,rfl,e,C,rfl,jS,aT,.inl ⟨he,q⟩⟩
noncomputable abbrev Bf:Stmt:=top 16
theorem ai5:dB ["houses","thing"] ["houses","thing"] (c7 Bf):=⟨rfl,rfl,rfl,by decide+kernel,rfl,by decide+kernel,by decide+kernel⟩
theorem ahc{f f1 f2 cz:Addr}{fd c4 ec hn:cF}(F:bB K "is_letter" "is_letter" Bf f fd)(uL:LP mg)(qs:dO K mg "is_tuple_of" wu ["thing","length"] f1 c4)(CH:aL P w K mg base a8 1 f1 c4 ["thing","length"] TX)(ma:dO K mg "are_unlike_houses" t2 ["houses","one","other"] f2 ec)(vp:aL P w K mg base a8 1 f2 ec ["houses","one","other"] II)(ny:dO K mg "is_whole_within" v9 ["thing","least","greatest"] cz hn)(yn:aL P w K mg base a8 2 cz hn ["thing","least","greatest"] SY):
  aL P w K mg base a8 3 f fd ["houses","thing"] KC:=by
 refine F.ok ai5 (λvs H Q E h=>?_) (λcdv A outer s H vs Q E aq h=>?_)
 .obtain⟨a,hs,v,d,rfl,_⟩:=h;rfl
 .obtain⟨a,hs,v,d,rfl,aK,h,dd,q⟩:=h;refine⟨_,(br (c_ (jK (fw CH (aq.mono (by decide)) (by rfl) qs.at_ qs.fn.bI qs.bd .nil dt (ak (aa 1) (ak aW aI))) (jK (fw vp (aq.mono (by decide)) (by rfl) ma.at_ ma.fn.bI ma.bd .nil dt (ak (aa 0) (ak (cv fa (aa 1) aW (λ_ _=>rfl)) (ak (cv fa (aa 1) aW (λ_ _=>rfl)) aI)))) (m3 (fw yn (aq.mono (by decide)) (by rfl) ny.at_ ny.fn.bI ny.bd .nil dt (ak (cv fa (aa 1) aW (λ_ _=>rfl)) (ak aW (ak (tR (by rfl) uL.adq) aI))))))))),?_⟩;refine⟨_,rfl,v,d,_,rfl,h,_,rfl,?_⟩;cases h with
  |@tup r xs ds kZ z t=>
   show if decide ((ds.length:Int)=3)=true then _ else _
   by_cases cX:ds.length=3
   .refine fH (cu (by omega)) ?_;have C_:xs.length=3:=by rw[t.len];exact cX
    obtain⟨x0,e0,h5,rfl⟩:∃x0 e0 h5,xs=[x0,e0,h5]:=by rcases xs with _|⟨a,_|⟨b,_|⟨c,_|⟨d,r⟩⟩⟩⟩<;>first|exact⟨_,_,_,rfl⟩|(simp at C_)
    cases t with
    |cons t0 t=>
     cases t with
     |cons t1 t=>
      cases t with
      |cons eP t=>
       cases t;rename_i fc jH me;have q:Q (.aM (hy hs fc me&&Ej 0 1000000000 jH)) H:=q;have anY:u3 [fc,jH,me]+1<=61:=dd;have kN:fc.depth<=60:=eQ (SM (by simp:fc∈[fc,jH,me])) (by omega);have fD:me.depth<=60:=eQ (SM (by simp:me∈[fc,jH,me])) (by omega);refine⟨_,rfl,_,rfl,r,_,_,_,rfl,rfl,cN.of kZ,rfl,_,rfl,r,_,_,_,rfl,rfl,cN.of kZ,rfl,a,hs,x0,h5,fc,me,rfl,aK,t0,eP,kN,fD,_,rfl,?_⟩;cases af:hy hs fc me with
       |false=>
        rw[af]at q;exact gx q
       |true=>
        rw[af,Vg]at q;exact h3 ⟨_,rfl,r,_,_,_,rfl,rfl,cN.of kZ,rfl,e0,jH,_,_,rfl,t1,q⟩
   .refine ew (dJ (by omega)) ?_;rw[ź cX]at q;exact q
  |_=>exact gx q
noncomputable abbrev E':Stmt:=top 17
theorem WI:dB ["letters","turns"] ["letters"] (c7 E'):=⟨rfl,rfl,rfl,by decide+kernel,rfl,by decide+kernel,by decide+kernel⟩
theorem Ť{H:ae}{hs:fY}:∀{vs:aZ}{ds:fY},eV H vs ds->(∀d∈ds,hS hs d=true)->vs.map (λv=>V.int (nS (Gz H v)))=(ds.map nS).map V.int
 |_,_,.nil,_=>rfl
 |_,_,.cons a b,h=>by simp only[hQ];rw[U' a,Ť b λd hd=>h d (mL _ hd)]
theorem aen{f:Addr}{fd:cF}(F:bB K "turns_apart" "turns_apart" E' f fd)(B:gp mg):aL P w K mg base a8 1 f fd ["letters"] JX:=by
 refine F.ok WI (λvs H Q E h=>?_) (λcdv A outer s H vs Q E aq h=>?_)
 .obtain⟨v,hs,ds,rfl,_⟩:=h;rfl
 .obtain⟨v,hs,ds,rfl,bz,aj,q⟩:=h;obtain⟨a,xs,rfl,aK,hz,t⟩:=Kr bz;refine⟨_,(bh (tQ (i:=1) WI.aG rfl rfl rfl (N':=["letter"]) (cs:=[none]) rfl (jY (aa 0)) rfl (by decide+kernel) rfl (by decide+kernel) (lK (λp aO=>bG aO (dX))) rfl
    (.own .nil)
    (λC s3 a_ cp fg=>⟨(et (i:=0) (by show(["letter"]:b9).Nodup;decide+kernel) rfl (.inl rfl)),qX,(cv (v' (K:=K) rfl) (aa 0) aW (λ_ _=>rfl))⟩))
   (br (c_ (bK sg (afR rfl (by rfl) B.max (ak (aa 1) aI) aW) (afA rfl (by rfl) B.min (ak (aa 1) aI) aW))))),?_⟩
  dsimp only[lR,rv];refine Jn (J:=mI K a) (H1:=H) (xs:=xs) (rest:=[]) (λR h=>⟨_,rfl,a,rfl,⟨_,aJ.of aK⟩,h⟩) rfl (tZ (aJ.of aK)) (eW (by omega)) (λv=>.int (nS (Gz H v))) (λi x ag R ex aH cU=>?_) (λD H' af ai bU=>?_)
  .obtain⟨d,dY,hd⟩:=t.get ex;obtain⟨amt,ET,Nr,rfl,_,_⟩:=Ż (aj d (eH dY));have jN:=cU ag (aN.refl _);rw[U' hd]at jN;clear cU;obtain⟨r,ys,rfl,kZ,_,ty⟩:=Xr (hd.same aH);cases ty with
   |cons t0 ty=>
    cases ty with
    |cons t1 ty=>
     cases ty with
     |cons eP ty=>
      cases ty;obtain rfl:=agG t1;exact⟨_,rfl,r,_,_,_,rfl,rfl,cN.of kZ,rfl,jN⟩
  .rw[Ť t aj]at ai;have q:=q H' bU;unfold zL at q;by_cases hz:ds.map nS=[]
   .rw[bM hz]at q;refine⟨_,rfl,.int 0,D,ds.map nS,rfl,rfl,aJ.of ai,λ_=>?_,λz=>bG hz z⟩;exact⟨_,rfl,.int 0,D,ds.map nS,rfl,rfl,aJ.of ai,λ_=>⟨_,_,rfl,rfl,q⟩,λz=>bG hz z⟩
   .rw[bE hz]at q;refine⟨_,rfl,.int 0,D,ds.map nS,rfl,rfl,aJ.of ai,λz=>bG z hz,λ_=>?_⟩;exact⟨_,rfl,.int 0,D,ds.map nS,rfl,rfl,aJ.of ai,λz=>bG z hz,λ_=>⟨_,_,rfl,rfl,q⟩⟩
noncomputable abbrev Bg:Stmt:=top 18
theorem FP:dB ["net","some","houses","number","thing"] ["net","some"] (c7 Bg):=⟨rfl,rfl,rfl,by decide+kernel,rfl,by decide+kernel,by decide+kernel⟩
theorem Ry{hs:fY}:∀{ds:fY}{i:Nat},(∀j,j<i->∀d,ds[j]?=some d->hS hs d=true)->(∃d,ds[i]?=some d/\hS hs d=false)->lH hs ds=some i
 |[],i,_,⟨d,e,_⟩=>by simp at e
 |x::r,0,_,⟨d,e,h⟩=>by simp at e;subst e;unfold lH;rw[bE (by rw[h];exact fp)]
 |x::r,i+1,h0,⟨d,e,h⟩=>by unfold lH;rw[bM (h0 0 (by omega) x rfl),Ry (ds:=r) (i:=i) (λj bL d dY=>h0 (j+1) (by omega) d (by simpa using dY)) ⟨d,by simpa using e,h⟩];rfl
theorem HR{hs:fY}:∀{ds:fY},(∀d∈ds,hS hs d=true)↔lH hs ds=none
 |[]=>by simp[lH]
 |x::r=>by
  unfold lH;by_cases h:hS hs x=true
  .rw[bM h];constructor
   .intro q;rw[HR.mp λd hd=>q d (mL _ hd)];rfl
   .intro q;have cZ:lH hs r=none:=by
     cases e:lH hs r with
     |none=>rfl
     |some k=>rw[e]at q;cases q
    intro d hd;rcases c'.mp hd with rfl|hd
    .exact h
    .exact HR.mpr cZ d hd
  .rw[bE h];constructor
   .intro q;exact bG (q x (sY ..)) h
   .intro q;cases q
theorem ahd{C eb f f1 f2 cz ox:Addr}{R:Addr}{fd c4 ec hn ZF:cF}(F:bB K "letters_of" "letters_of" Bg f fd)(B:gp mg)(uL:LP mg)(hH:fB K C)(mS:c6 K C "houses" "Net.houses" vY ["self"] f1 c4)(qv:aL P w K mg base a8 1 f1 c4 ["self"] (DI C))(Dx:dO K mg "is_letter" Bf ["houses","thing"] f2 ec)(Rz:aL P w K mg base a8 3 f2 ec ["houses","thing"] KC)(Df:dO K mg "turns_apart" E' ["letters"] cz hn)(Qr:aL P w K mg base a8 1 cz hn ["letters"] JX)(Dy:qp K mg "RoadError" eb R)(vK:mg "NoLetter"=some (.ref eb))(Ķ:pA K (.ref eb)=true)(ķ:b5 K (.ref eb) "__init__"=some (some (.ref ox)))(ĸ:fX K (.ref ox)=true)(HK:aL P w K mg base a8 1 ox ZF ["self","number"] (Gm eb))(Ĺ:Binds K ZF ["self","number"] []):
  aL P w K mg base (nj P w) 4 f fd ["net","some"] (Lk C eb):=by
 refine þ F FP (λvs H Q E h=>?_) (λcdv A outer s H vs Q E aq h=>?_)
 .obtain⟨x,bt,bu,hs,zs,v,ds,rfl,_⟩:=h;rfl
 .obtain⟨x,bt,bu,hs,zs,v,ds,rfl,n,G,bz,dd,q,iD⟩:=h;obtain⟨ah,av⟩:=n.ins;obtain⟨a,xs,rfl,aK,hz,t⟩:=Kr bz;refine⟨_,(bh (da (i:=2) FP.aG rfl (cb rfl) (mV (aa 0) hH mS.eo qv (aq.mono (by decide)) mS.bd .nil dt))
   (bh (kq PassesOwn.leaving rfl (Jm rfl B.enumerate (ak (aa 1) aI)) (wo rfl (ia (et (i:=3) FP.aG rfl (cb rfl)) (ia (et (i:=4) FP.aG rfl (cb rfl)) pP)))
    (br (eY (i7 (iR (fw Rz (aq.mono (by decide)) (by rfl) Dx.at_ Dx.fn.bI Dx.bd .nil dt (ak (aa 2) (ak (aa 4) aI))))) (br (Ų Dy vK Ķ ķ ĸ HK (aq.mono (by decide)) Ĺ rfl (ak (aa 3) aI))) fv)))
   (bh (eY (iv.pt (oI (eC wZ (dE gP (by rfl) B.len gF (ak (aa 1) aI)) (tR (by rfl) uL.adm) (dz _)) (pR (eC wZ (fw Qr (aq.mono (by decide)) (by rfl) Df.at_ Df.fn.bI Df.bd .nil dt (ak (aa 1) aI)) (tR (by rfl) uL.adk) (dz _))))) (br (Ų Dy vK Ķ ķ ĸ HK (aq.mono (by decide)) Ĺ rfl (ak kU aI))) fv)
   (br (c_ (nA vB (by rfl) B.list oD (ak (aa 1) aI))))))),?_⟩
  refine⟨_,rfl,x,ah,_,rfl,av,rfl,x,bt,bu,_,_,rfl,n,λl nl=>?_⟩;have s1:aN H (upd H l (.lst (cK hs))):=bW nl;have j6:=Yq (H:=upd H l (.lst (cK hs))) G aP;generalize upd H l (.lst (cK hs))=H1 at s1 j6⊢;have go:∀(ag:ae)(v:ao.V),aN H ag->v=LQ (lH (bR hs) ds)->¬rD (bR hs) ds->∀e,ag e=none->Gm eb (V.ref e::[v]) (upd ag e (nG e eb)) (λu a_=>u=.bq/\∃ah,a_ e=some (nF e eb ah)/\E (.ref eb) (some ah) (del a_ e)) rG:=λag v s2 ev vU e ne=>by
   refine⟨e,v,rfl,aP,λah aG Ie=>⟨rfl,ah,aP,?_⟩⟩;have t6:ag ah=none:=by rw[aA Ie]at aG;exact aG
   have aB:del (upd (upd (upd ag e (nG e eb)) ah (mC ah [("number",v)])) e (nF e eb ah)) e=upd ag ah (mC ah [("number",v)]):=by
    funext b;by_cases U:b=e
    .subst U;rw[U_,aA (cR Ie)];exact ne.symm
    .rw[ug U,aA U];by_cases h1:b=ah
     .subst h1;rw[aP,aP]
     .rw[aA h1,aA h1,aA U]
   rw[aB];refine iD vU ah _ (s2.free t6) (s2.trans (bW t6)) ?_;rw[aP,ev]
  refine⟨_,rfl,a,rfl,⟨_,aJ.of (s1 _ _ aK)⟩,?_⟩;refine TR (K:=K) (a:=a) (xs:=xs) (λi σ ag=>aN H1 ag/\(∀j,j<i->∀d,ds[j]?=some d->hS (bR hs) d=true)/\∃u v,σ=[some (.ref x),some (.ref a),some (.ref l),u,v]) ⟨aN.refl _,λj bL=>bG bL (by omega),none,none,rfl⟩ (λi σ ag h=>aJ.of (h.1 _ _ (s1 _ _ aK))) ?_ ?_
  .rintro i z σ ag p dC ⟨s2,U,u,v,rfl⟩ np;obtain⟨d,dY,hd⟩:=t.get dC;have s3:=bW (o:=.tup [V.int (i:Int),z]) np;have kc:=s1.trans (s2.trans s3);have anY:u3 ds+1<=62:=dd;have kN:d.depth<=61:=eQ (SM (eH dY)) (by omega);refine⟨p,_,rfl,cN.of aP,rfl,_,_,rfl,_,_,rfl,rfl,?_⟩;refine⟨_,rfl,_,rfl,l,bR hs,z,d,rfl,j6.same (s2.trans s3),hd.same kc,kN,_,rfl,?_⟩;cases ar:hS (bR hs) d with
   |true=>exact gx ⟨s2.trans s3,λj bL d' vw=>by
     rcases s8 j i with h|h
     .exact U j h d' vw
     .rw[show j=i by omega,dY]at vw;cases vw;exact ar,some (.int (i:Int)),some z,rfl⟩
   |false=>
    have yy:=Ry (hs:=bR hs) U ⟨d,dY,ar⟩;refine h3 ⟨_,rfl,(by show 1<=sizeLine;decide),go _ _ kc (by rw[yy];rfl) λmX=>?_⟩;have:=mX.1;rw[yy]at this;cases this
  .rintro σ ag ⟨s2,U,u,v,rfl⟩;have gA:=s1.trans s2;have Η:∀d∈ds,hS (bR hs) d=true:=λd hd=>by obtain⟨j,bL,rfl⟩:=K5.mp hd;exact U j (by rw[t.len];exact bL) _ (dv bL)
   have yy:=HR.mp Η;have anK:=gA _ _ aK;have hlen:=t.len;refine⟨_,rfl,a,xs,rfl,.inl (aJ.of anK),_,_,rfl,rfl,_,rfl,?_⟩;by_cases Z4:ds.length<=40
   .refine ew (dJ (by omega)) ⟨_,rfl,.ref a,bR hs,ds,rfl,bz.same gA,Η,λa_ s3=>?_⟩;have kc:=gA.trans s3;refine⟨_,_,rfl,rfl,_,rfl,?_⟩;by_cases Z2:zL (ds.map nS)<=30
    .refine ew (dJ (by omega)) ?_;refine⟨_,rfl,a,xs,rfl,.inl (aJ.of (kc _ _ aK)),λgG lg=>?_⟩;have s4:=bW (o:=.lst xs) lg;exact q ⟨yy,Z4,Z2⟩ gG _ (kc.free lg) (kc.trans s4) (.lst aP hz (t.same (kc.trans s4)))
    .refine fH (cu (by omega)) ⟨(by show 1<=sizeLine;decide),go _ _ kc (by rw[yy];rfl) λmX=>Z2 mX.2.2⟩
   .refine fH (cu (by omega)) ?_;exact h3 ⟨(by show 1<=sizeLine;decide),go _ _ gA (by rw[yy];rfl) λmX=>Z4 mX.2.1⟩
noncomputable def sv(n pl y cY dN dk:Addr)(pr:Int):List (Str×ao.V):=[("net",.ref n),("present",.int pr),("posted",.ref pl),("ways",.ref y),("shut_roads",.ref cY),("walk",.ref dN),("sent",.ref dk)]
end
structure o7(K:aV)(C:Addr):Prop where
 cl:fB K C
 nn:b5 K (.ref C) "net"=some none
 np:b5 K (.ref C) "present"=some none
 no:b5 K (.ref C) "posted"=some none
 ud:b5 K (.ref C) "ways"=some none
 t8:b5 K (.ref C) "shut_roads"=some none
 nw:b5 K (.ref C) "walk"=some none
 ns:b5 K (.ref C) "sent"=some none
structure d4 where
 (ah n pl y cY dN jJ dk g bo t bt bu:Addr)
 (rs ll ls fF:bS)
noncomputable def d4.bH(A:d4)(x:Addr):List Addr:=x::A.pl::A.y::A.t::A.cY::A.dN::A.g::A.bo::A.dk::A.ls
structure cG where
 pr:Int
 a7:List By
 aE:List (List Step)
 hq:List (kK×List Nat)
 kvs:er
 eA:List Nat
noncomputable def iq(l:dI):List (a'×ao.V):=l.map λr:Nat=>(e7 (r:Int),.aM true)
noncomputable def d2(a7:nx):List Str:=a7.map λd=>d.2.2
structure dS(aw C aS az:Addr)(aY H:ae)(x:Addr)(A:d4)(hs:bc)(ds:bT)(s:cG):Prop where
 b':aN aY H
 hp:jO az aY A.n A.bt A.bu (cK hs) (aC A.rs)
 lV:ix aY hs A.rs ds
 ins:H x=some (.ins aw A.ah (sv A.n A.pl A.y A.cY A.dN A.dk s.pr))
 po:H A.pl=some (.lst (aC A.ll))
 pt:d_ H A.ll (s.a7.map jd)
 lZ:∃hV,H A.y=some (.ins aS hV (oJ A.n A.t))
 n3:H A.t=some (.c3 s.kvs)
 cY:H A.cY=some (.b0 (iq s.eA))
 dh:H A.dN=some (.ins C A.jJ (E6 A.n A.g A.bo))
 lY:H A.g=some (.lst ((d2 s.a7).map V.str))
 ws:H A.bo=some (.lst (aC A.ls))
 lX:bf (hU H) A.ls s.aE
 dk:H A.dk=some (.lst (aC A.fF))
 sp:bf (hk H) A.fF s.hq
 aG:(A.bH x).Nodup
 fr:∀b∈A.bH x,aY b=none
structure gK(M mM:bS)(H H':ae):Prop where
 keep:∀b o,b∉M->H b=some o->H' b=some o
 own:∀b∈mM,b∈M\/H b=none
theorem gK.refl{M:bS}{H H':ae}(aH:aN H H'):gK M M H H':=⟨λb o _ e=>aH b o e,λ_ h=>.inl h⟩
theorem gK.trans{M mM Xl:bS}{H H' Fz:ae}(a:gK M mM H H')(b:gK mM Xl H' Fz):gK M Xl H Fz:=by
 refine⟨λc o hc e=>b.keep c o (λz=>?_) (a.keep c o hc e),λc ay=>?_⟩
 .rcases a.own c z with h|h
  .exact hc h
  .rw[h]at e;cases e
 .rcases b.own c ay with h|h
  .exact a.own c h
  .by_cases hm:c∈M
   .exact .inl hm
   .right;cases e:H c with
    |none=>rfl
    |some o=>rw[a.keep c o hm e]at h;cases h
theorem dS.same{aw C aS az:Addr}{aY H H':ae}{x:Addr}{A:d4}{hs:bc}{ds:bT}{s:cG}(D:dS aw C aS az aY H x A hs ds s)(aH:aN H H'):dS aw C aS az aY H' x A hs ds s:=
 let⟨hV,h⟩:=D.lZ
 ⟨D.b'.trans aH,D.hp,D.lV,aH _ _ D.ins,aH _ _ D.po,D.pt.same aH,⟨hV,aH _ _ h⟩,aH _ _ D.n3,aH _ _ D.cY,aH _ _ D.dh,aH _ _ D.lY,aH _ _ D.ws,Ş D.lX aH,aH _ _ D.dk,bf.eE D.sp λ_ _ h=>h.same aH,D.aG,D.fr⟩
theorem dS.uc{aw C aS az:Addr}{aY H:ae}{x:Addr}{A:d4}{hs:bc}{ds:bT}{s:cG}(D:dS aw C aS az aY H x A hs ds s){b:Addr}(U:b∈A.bH x){v:aZ}:H b≠some (.tup v):=λe=>by
 obtain⟨hV,cS⟩:=D.lZ;unfold d4.bH at U;simp only[c']at U;rcases U with rfl|rfl|rfl|rfl|rfl|rfl|rfl|rfl|rfl|U
 .rw[D.ins]at e;cases e
 .rw[D.po]at e;cases e
 .rw[cS]at e;cases e
 .rw[D.n3]at e;cases e
 .rw[D.cY]at e;cases e
 .rw[D.dh]at e;cases e
 .rw[D.lY]at e;cases e
 .rw[D.ws]at e;cases e
 .rw[D.dk]at e;cases e
 .obtain⟨i,ar,ey⟩:=mJ U;obtain⟨_,_,ts,af,_⟩:=bf.get D.lX (eM.mpr ⟨ar,ey⟩);rw[af]at e;cases e
theorem dS.frame{aw C aS az:Addr}{aY H H':ae}{x:Addr}{A:d4}{hs:bc}{ds:bT}{s:cG}(D:dS aw C aS az aY H x A hs ds s){M:bS}(aq5:aN aY H')(k:∀b o,b∉M->H b=some o->H' b=some o)(amM:∀b∈A.bH x,b∉M)(cQ:∀b∈M,∀v,H b≠some (.tup v)):dS aw C aS az aY H' x A hs ds s:=by
 have q1:∀b o,b∈A.bH x->H b=some o->H' b=some o:=λb o U e=>k b o (amM b U) e;have kt:∀b v,H b=some (.tup v)->H' b=some (.tup v):=λb v e=>k b _ (λz=>cQ b z v e) e;have mem:∀b,b∈A.bH x↔b=x\/b=A.pl\/b=A.y\/b=A.t\/b=A.cY\/b=A.dN\/b=A.g\/b=A.bo\/b=A.dk\/b∈A.ls:=λb=>by unfold d4.bH;simp only[c']
 obtain⟨hV,cS⟩:=D.lZ;refine⟨aq5,D.hp,D.lV,q1 _ _ ((mem _).mpr (by simp)) D.ins,q1 _ _ ((mem _).mpr (by simp)) D.po,bf.eE D.pt λ_ _ e=>kt _ _ e,⟨hV,q1 _ _ ((mem _).mpr (by simp)) cS⟩,q1 _ _ ((mem _).mpr (by simp)) D.n3,q1 _ _ ((mem _).mpr (by simp)) D.cY,q1 _ _ ((mem _).mpr (by simp)) D.dh,q1 _ _ ((mem _).mpr (by simp)) D.lY,q1 _ _ ((mem _).mpr (by simp)) D.ws,?_,q1 _ _ ((mem _).mpr (by simp)) D.dk,bf.eE D.sp λ_ _⟨c,af,ai⟩=>⟨c,kt _ _ af,kt _ _ ai⟩,D.aG,D.fr⟩;have go:∀{ls:bS}{aE:fj},bf (hU H) ls aE->(∀l∈ls,l∈A.ls)->bf (hU H') ls aE:=λ{ls aE}p=>by
  induction p with
  |nil=>exactλ_=>.nil
  |cons r t a6=>
   refineλh=>.cons ?_ (a6 λl aj=>h l (.tail _ aj))
   obtain⟨ts,af,ai⟩:=r;exact⟨ts,q1 _ _ ((mem _).mpr (by simp[h _ (.head _)])) af,bf.eE ai λ_ _ e=>kt _ _ e⟩
 exact go D.lX λ_ h=>h
theorem dS.walk{aw C aS az:Addr}{aY H:ae}{x:Addr}{A:d4}{hs:bc}{ds:bT}{s:cG}(D:dS aw C aS az aY H x A hs ds s):WalkAt C H A.dN A.n A.g A.bo (d2 s.a7) A.ls s.aE:=⟨⟨_,D.dh⟩,D.lY,D.ws,D.lX⟩
theorem dS.T1{aw C aS az:Addr}{aY H:ae}{x:Addr}{A:d4}{hs:bc}{ds:bT}{s:cG}(D:dS aw C aS az aY H x A hs ds s):pQ aS az H A.y A.n A.t A.bt A.bu (cK hs) (aC A.rs) s.kvs:=⟨D.lZ,D.hp.same D.b',D.n3⟩
section
variable{P:bO}{w:bx}{K:aV}{mg:cI}{base:Heap}
inductive ahe(aw C aS az:Addr)(vs:aZ)(H:ae)(Q:ba)(bN:b6):Prop where
 |mk (aY:ae) (x:Addr) (A:d4) (hs:bc) (ds:bT) (s:cG) (bV:vs=[.ref x]) (bA:dS aw C aS az aY H x A hs ds s) (cn:Q (.int s.pr) H)
noncomputable def Lu(aw C aS az:Addr):cM:=λvs H Q bN=>ahe aw C aS az vs H Q bN
noncomputable abbrev Bh:Stmt:=gU (top 42) 1
theorem ai6:dB ["self"] ["self"] (c7 Bh):=⟨rfl,rfl,rfl,by decide+kernel,rfl,by decide+kernel,by decide+kernel⟩
theorem ahf{aw C aS az f:Addr}{fd:cF}(F:bB K "now" "Day.now" Bh f fd)(cx:o7 K aw):aL P w K mg base a8 1 f fd ["self"] (Lu aw C aS az):=by
 refine F.ok ai6 (λvs H Q E h=>?_) (λcdv A outer s H vs Q E aq h=>?_)
 .obtain⟨aY,x,A,hs,ds,s,rfl,_⟩:=h;rfl
 .obtain⟨aY,x,A,hs,ds,s,rfl,D,q⟩:=h;refine⟨_,(br (c_ (e2 (aa 0) (by rfl)))),?_⟩;exact⟨_,rfl,x,aw,_,_,_,rfl,D.ins,cx.cl,cx.np,rfl,q⟩
inductive ahg(aw C aS az:Addr)(vs:aZ)(H:ae)(Q:ba)(bN:b6):Prop where
 |mk (aY:ae) (x:Addr) (A:d4) (hs:bc) (ds:bT) (s:cG) (bV:vs=[.ref x]) (bA:dS aw C aS az aY H x A hs ds s) (cn:∀l,H l=none->Q (.ref l) (upd H l (.lst (aC A.ll))))
noncomputable def FQ(aw C aS az:Addr):cM:=λvs H Q bN=>ahg aw C aS az vs H Q bN
noncomputable abbrev xS:Stmt:=gU (top 42) 9
theorem ai7:dB ["self"] ["self"] (c7 xS):=⟨rfl,rfl,rfl,by decide+kernel,rfl,by decide+kernel,by decide+kernel⟩
theorem ahh{aw C aS az f:Addr}{fd:cF}(F:bB K "letters" "Day.letters" xS f fd)(B:gp mg)(cx:o7 K aw):aL P w K mg base a8 1 f fd ["self"] (FQ aw C aS az):=by
 refine F.ok ai7 (λvs H Q E h=>?_) (λcdv A outer s H vs Q E aq h=>?_)
 .obtain⟨aY,x,A,hs,ds,s,rfl,_⟩:=h;rfl
 .obtain⟨aY,x,A,hs,ds,s,rfl,D,q⟩:=h;refine⟨_,(br (c_ (nA vB (by rfl) B.list oD (ak (e2 (aa 0) (by rfl)) aI)))),?_⟩;exact⟨_,rfl,x,aw,_,_,_,rfl,D.ins,cx.cl,cx.no,rfl,A.pl,_,rfl,.inl (aJ.of D.po),q⟩
theorem ne_objs{H:ae}{a b:Addr}{o u:ee}(aK:H a=some o)(U:H b=some u)(h:o≠u):a≠b:=λz=>by rw[z,U]at aK;exact h (hF aK).symm
inductive ahi(aw C aS az:Addr)(vs:aZ)(H:ae)(Q:ba)(bN:b6):Prop where
 |mk (x ah n bt bu:Addr) (hs:bc) (rs:bS) (ds:bT) (pr:Int) (bV:vs=[.ref x,.ref n,.int pr]) (bA:H x=some (.ins aw ah [])) (cn:jO az H n bt bu (cK hs) (aC rs)) (di:Good hs) (d8:ix H hs rs ds) (fI:rs.length<=40) (iM:∀(H':ae)(A:d4)(kvs:er),SameBut x H H'->dS aw C aS az (mask H [x]) H' x A hs ds ⟨pr,[],[],[],kvs,[]⟩->A.n=n->A.rs=rs->nC hs ds kvs->(∀b∈A.bH x,b=x\/H b=none)->Q .bq H')
noncomputable def FR(aw C aS az:Addr):cM:=λvs H Q bN=>ahi aw C aS az vs H Q bN
noncomputable abbrev xT:Stmt:=gU (top 42) 0
theorem ai8:dB ["self","net","first"] ["self","net","first"] (c7 xT):=⟨rfl,rfl,rfl,by decide+kernel,rfl,by decide+kernel,by decide+kernel⟩
theorem ahj{aw C aS az f f1 pL:Addr}{fd c4 tE:cF}(F:bB K "__init__" "Day.__init__" xT f fd)(cx:o7 K aw)(JY:mg "Walk"=some (.ref C))(qz:dO K mg "shortest" zu ["net"] f1 c4)(RT:aL P w K mg base a8 4 f1 c4 ["net"] (Gf aS az))(Jz:oa K C pL)(RA:rJ K C "Walk.__init__" A_ ["self","net","letters"] pL tE)(aaM:aL P w K mg base a8 2 pL tE ["self","net","letters"] (Le C)):aL P w K mg base a8 5 f fd ["self","net","first"] (FR aw C aS az):=by
 refine F.ok ai8 (λvs H Q E h=>?_) (λcdv A outer s H vs Q E aq h=>?_)
 .obtain⟨x,ah,n,bt,bu,hs,rs,ds,pr,rfl,_⟩:=h;rfl
 .obtain⟨x,ah,n,bt,bu,hs,rs,ds,pr,rfl,av,N,G,R,R1,q⟩:=h;refine⟨_,(bh (lI (aa 0) (aa 1) rfl)
   (bh (lI (aa 0) (aa 2) rfl)
   (bh (lI (aa 0) (gS aI) rfl)
   (bh (lI (aa 0) (fw RT (aq.mono (by decide)) (by rfl) qz.at_ qz.fn.bI qz.bd .nil dt (ak (aa 1) aI)) rfl)
   (bh (lI (aa 0) IU rfl)
   (bh (lI (aa 0) (Em Jz aaM (aq.mono (by decide)) (by rfl) JY RA.bd .nil dt (ak (aa 1) (ak (gS aI) aI))) rfl)
   (br (lI (aa 0) (gS aI) rfl)))))))),?_⟩
  have q5:∀b o,b≠x->H b=some o->mask H [x] b=some o:=λb o nb e=>mj e (by simpa using nb);obtain⟨iS,aT⟩:=N.ins;have ap2:n≠x:=λz=>by rw[z,av]at aT;cases aT
  have apG:bt≠x:=ne_objs N.qR av (by intro z;cases z);have apJ:bu≠x:=ne_objs N.rg av (by intro z;cases z);have Xy:jO az (mask H [x]) n bt bu (cK hs) (aC rs):=⟨⟨iS,q5 _ _ ap2 aT⟩,q5 _ _ apG N.qR,q5 _ _ apJ N.rg⟩
  have Yh:ix (mask H [x]) hs rs ds:=⟨bf.eE R.hM λa d e=>q5 _ _ (ne_objs e av (by intro z;cases z)) e,R.ok⟩
  have up:∀{n8:ae}{o:ee},aN (mask H [x]) n8->aN (mask H [x]) (upd n8 x o):=λ{n8 o}Sq=>kp (El (by simp)) Sq;have s0:=DS H [x];have tF:∀{n8:ae}{o:ee},aN (mask H [x]) n8->n8 x=some o->∀{b},n8 b=none->H b=none/\b≠x:=λ{n8 o}Sq ex{b}e=>by
   have nb:b≠x:=λz=>by rw[z,ex]at e;cases e
   refine⟨?_,nb⟩;cases aD:H b with
   |none=>rfl
   |some u=>rw[Sq _ _ (q5 b u nb aD)]at e;cases e
  refine⟨_,rfl,_,rfl,x,aw,ah,_,rfl,av,cx.cl,cx.nn,(by show 0<1000;decide),?_⟩;refine⟨_,rfl,_,rfl,x,aw,ah,_,rfl,aP,cx.cl,cx.np,(by show 1<1000;decide),?_⟩;have s2:aN (mask H [x]) (upd (upd H x (.ins aw ah [("net",.ref n)])) x (.ins aw ah [("net",.ref n),("present",.int pr)])):=up (up s0);have ai:upd (upd H x (.ins aw ah [("net",.ref n)])) x (.ins aw ah [("net",.ref n),("present",.int pr)]) x=_:=aP;show lR _ _ _ _ (upd (upd H x (.ins aw ah [("net",.ref n)])) x (.ins aw ah [("net",.ref n),("present",.int pr)]));generalize upd (upd H x (.ins aw ah [("net",.ref n)])) x (.ins aw ah [("net",.ref n),("present",.int pr)])=ag at s2 ai⊢;refine⟨(by show 0<=sizeLine;decide),λpl Ir=>?_⟩;have f1:=tF s2 ai Ir;have s3:=s2.trans (bW (o:=.lst []) Ir);refine⟨_,rfl,x,aw,ah,_,rfl,(aA f1.2.symm).trans ai,cx.cl,cx.no,(by show 2<1000;decide),?_⟩;have s4:=up (o:=.ins aw ah [("net",.ref n),("present",.int pr),("posted",.ref pl)]) s3;have cX:upd (upd ag pl (.lst [])) x (.ins aw ah [("net",.ref n),("present",.int pr),("posted",.ref pl)]) x=_:=aP;have kb:upd (upd ag pl (.lst [])) x (.ins aw ah [("net",.ref n),("present",.int pr),("posted",.ref pl)]) pl=some (.lst (aC [])):=(aA f1.2).trans aP;show lR _ _ _ _ (upd (upd ag pl (.lst [])) x (.ins aw ah [("net",.ref n),("present",.int pr),("posted",.ref pl)]));generalize upd (upd ag pl (.lst [])) x (.ins aw ah [("net",.ref n),("present",.int pr),("posted",.ref pl)])=dP at s4 cX kb⊢;refine⟨_,rfl,n,bt,bu,hs,rs,ds,rfl,Xy.same s4,G,Yh.same s4,R1,λy t bw kvs ud cQ wD LY ST=>?_⟩;have f2:=tF s4 cX ud;have cz:=tF s4 cX cQ;obtain⟨hV,cS⟩:=LY.ins;have aqk:y≠t:=ao.h4 cS LY.told (by intro z;cases z);have aqa:pl≠y:=bZ kb ud;have Rb:pl≠t:=bZ kb cQ;have s5:=s4.trans wD;refine⟨_,rfl,x,aw,ah,_,rfl,wD _ _ cX,cx.cl,cx.ud,(by show 3<1000;decide),?_⟩;have f7:=up (o:=.ins aw ah [("net",.ref n),("present",.int pr),("posted",.ref pl),("ways",.ref y)]) s5;have ku:upd bw x (.ins aw ah [("net",.ref n),("present",.int pr),("posted",.ref pl),("ways",.ref y)]) x=_:=aP;have uk:upd bw x (.ins aw ah [("net",.ref n),("present",.int pr),("posted",.ref pl),("ways",.ref y)]) pl=_:=(aA f1.2).trans (wD _ _ kb);have xa:upd bw x (.ins aw ah [("net",.ref n),("present",.int pr),("posted",.ref pl),("ways",.ref y)]) y=_:=(aA f2.2).trans cS;have wO:upd bw x (.ins aw ah [("net",.ref n),("present",.int pr),("posted",.ref pl),("ways",.ref y)]) t=_:=(aA cz.2).trans LY.told;show lR _ _ _ _ (upd bw x (.ins aw ah [("net",.ref n),("present",.int pr),("posted",.ref pl),("ways",.ref y)]));generalize upd bw x (.ins aw ah [("net",.ref n),("present",.int pr),("posted",.ref pl),("ways",.ref y)])=gh at f7 ku uk xa wO⊢
  refineλcY DW=>?_
  have f4:=tF f7 ku DW;have Tc:=bW (o:=.b0 []) DW;refine⟨_,rfl,x,aw,ah,_,rfl,Tc _ _ ku,cx.cl,cx.t8,(by show 4<1000;decide),?_⟩;have fh:=up (o:=.ins aw ah [("net",.ref n),("present",.int pr),("posted",.ref pl),("ways",.ref y),("shut_roads",.ref cY)]) (f7.trans Tc);have kV:upd (upd gh cY (.b0 [])) x (.ins aw ah [("net",.ref n),("present",.int pr),("posted",.ref pl),("ways",.ref y),("shut_roads",.ref cY)]) x=_:=aP;have HT:∀b o,b≠x->gh b=some o->upd (upd gh cY (.b0 [])) x (.ins aw ah [("net",.ref n),("present",.int pr),("posted",.ref pl),("ways",.ref y),("shut_roads",.ref cY)]) b=some o:=λb o nb e=>(aA nb).trans (Tc _ _ e);have m8:upd (upd gh cY (.b0 [])) x (.ins aw ah [("net",.ref n),("present",.int pr),("posted",.ref pl),("ways",.ref y),("shut_roads",.ref cY)]) cY=some (.b0 []):=(aA f4.2).trans aP;show lR _ _ _ _ (upd (upd gh cY (.b0 [])) x (.ins aw ah [("net",.ref n),("present",.int pr),("posted",.ref pl),("ways",.ref y),("shut_roads",.ref cY)]));generalize upd (upd gh cY (.b0 [])) x (.ins aw ah [("net",.ref n),("present",.int pr),("posted",.ref pl),("ways",.ref y),("shut_roads",.ref cY)])=dD at fh kV HT m8⊢;have ze:=HT _ _ f1.2 uk;have Um:=HT _ _ f2.2 xa;have SN:=HT _ _ cz.2 wO;have ap9:pl≠cY:=bZ uk DW;have aqj:y≠cY:=bZ xa DW;have aqg:t≠cY:=bZ wO DW;refine⟨_,rfl,(by show 0<=sizeLine;decide),λH2 ap0=>λdN jJ IA î auI=>?_⟩;have o1:=bW (o:=.lst []) ap0;have tU:upd dD H2 (.lst []) H2=some (.lst (aC [])):=aP;generalize upd dD H2 (.lst [])=mF at o1 tU IA î⊢;have Ta:aN mF (upd (upd mF jJ (.own dN)) dN (.ins C jJ [])):=λb u e=>by rw[aA (bZ e IA),aA (bZ e î)];exact e
  have JE:upd (upd mF jJ (.own dN)) dN (.ins C jJ []) dN=some (.ins C jJ []):=aP;generalize upd (upd mF jJ (.own dN)) dN (.ins C jJ [])=FA at Ta JE⊢;have zq:=o1.trans Ta;have ri:=fh.trans zq;have N0:=zq _ _ kV;have vG:=tF (fh.trans o1) (o1 _ _ kV) IA;have old:∀{b o},dD b=some o->b≠dN:=λ{b o}e=>bZ (o1 _ _ e) IA;have Ru:=zq _ _ ze;have Uj:=zq _ _ Um;have SI:=zq _ _ SN;have RM:=zq _ _ m8;refine⟨dN,jJ,n,H2,[],[],rfl,JE,Ta _ _ tU,.nil,e_ _,λxM g bo lO b' Gp mr je _ _ Ii=>⟨rfl,?_⟩⟩;have nl:lO=[]:=by have:=gM Gp.each;exact x6.mp this
  subst nl;obtain⟨amU,C'⟩:=Gp.ins;have yz:=tF ri N0 mr;have fs:=tF ri N0 je;have asf:=b' _ _ vG.2.symm N0;have aqs:=b' _ _ (old ze) Ru;have asx:=b' _ _ (old Um) Uj;have arn:=b' _ _ (old SN) SI;have aqH:=b' _ _ (old m8) RM;have Eo:aN (mask H [x]) xM:=λb o e=>by refine b' b o (λz=>?_) (ri b o e);have:=(DS H [x]) _ _ e;rw[z,vG.1]at this;cases this
  refine⟨_,rfl,x,aw,ah,_,rfl,asf,cx.cl,cx.nw,(by show 5<1000;decide),?_⟩;have gA:=up (o:=.ins aw ah [("net",.ref n),("present",.int pr),("posted",.ref pl),("ways",.ref y),("shut_roads",.ref cY),("walk",.ref dN)]) Eo;have vL:upd xM x (.ins aw ah [("net",.ref n),("present",.int pr),("posted",.ref pl),("ways",.ref y),("shut_roads",.ref cY),("walk",.ref dN)]) x=_:=aP;have tS:∀b o,b≠x->xM b=some o->upd xM x (.ins aw ah [("net",.ref n),("present",.int pr),("posted",.ref pl),("ways",.ref y),("shut_roads",.ref cY),("walk",.ref dN)]) b=some o:=λb o nb e=>(aA nb).trans e;dsimp only;show YG _ _ _ _ _ _ (upd xM x (.ins aw ah [("net",.ref n),("present",.int pr),("posted",.ref pl),("ways",.ref y),("shut_roads",.ref cY),("walk",.ref dN)]));generalize upd xM x (.ins aw ah [("net",.ref n),("present",.int pr),("posted",.ref pl),("ways",.ref y),("shut_roads",.ref cY),("walk",.ref dN)])=Wa at gA vL tS⊢;have Ā:=tS _ _ f1.2 aqs;have ś:=tS _ _ f2.2 asx;have Ĩ:=tS _ _ cz.2 arn;have ą:=tS _ _ f4.2 aqH;have Ł:=tS _ _ vG.2 C';have ZS:=tS _ _ yz.2 Gp.goals;have Ò:=tS _ _ fs.2 Gp.steps;refine⟨(by show 0<=sizeLine;decide),λdk si=>?_⟩;have GZ:=tF gA vL si;have Tb:=bW (o:=.lst []) si;refine⟨_,rfl,x,aw,ah,_,rfl,Tb _ _ vL,cx.cl,cx.ns,(by show 6<1000;decide),?_⟩;have ē:=up (o:=.ins aw ah [("net",.ref n),("present",.int pr),("posted",.ref pl),("ways",.ref y),("shut_roads",.ref cY),("walk",.ref dN),("sent",.ref dk)]) (gA.trans Tb);have v5:∀b o,b≠x->Wa b=some o->upd (upd Wa dk (.lst [])) x (.ins aw ah [("net",.ref n),("present",.int pr),("posted",.ref pl),("ways",.ref y),("shut_roads",.ref cY),("walk",.ref dN),("sent",.ref dk)]) b=some o:=λb o nb e=>(aA nb).trans (Tb _ _ e);have aB:=bZ Ā si;have aD:=bZ ś si;have cH:=bZ Ĩ si;have e3:=bZ ą si;have gw:=bZ Ł si;have j0:=bZ ZS si;have vr:=bZ Ò si;refine q _ ⟨ah,n,pl,y,cY,dN,amU,dk,g,bo,t,bt,bu,rs,[],[],[]⟩ kvs (λb o nb e=>ē _ _ (q5 b o nb e)) ⟨ē,Xy,Yh,aP,v5 _ _ f1.2 Ā,.nil,⟨hV,v5 _ _ f2.2 ś⟩,v5 _ _ cz.2 Ĩ,v5 _ _ f4.2 ą,v5 _ _ vG.2 Ł,v5 _ _ yz.2 ZS,v5 _ _ fs.2 Ò,.nil,(aA GZ.2).trans aP,.nil,?_,?_⟩ rfl rfl ST ?_
  .have hB:=old ze;have lh:=old Um;have zb:=old SN;have aqm:=old m8;have g1:=bZ Ru mr;have g2:=bZ Uj mr;have g3:=bZ SI mr;have NS:=bZ RM mr;have NT:=bZ JE mr;have hK:=bZ Ru je;have gG:=bZ Uj je;have j9:=bZ SI je;have Qk:=bZ RM je;have Ql:=bZ JE je;unfold d4.bH;simp only[iP,c',dX,or_false,not_or];exact⟨⟨f1.2.symm,f2.2.symm,cz.2.symm,f4.2.symm,vG.2.symm,yz.2.symm,fs.2.symm,GZ.2.symm⟩,⟨aqa,Rb,ap9,hB,g1,hK,aB⟩,⟨aqk,aqj,lh,g2,gG,aD⟩,⟨aqg,zb,g3,j9,cH⟩,⟨aqm,NS,Qk,e3⟩,⟨NT,Ql,gw⟩,⟨Ii,j0⟩,vr,not_false,sZ⟩
  all_goals
   intro b U;unfold d4.bH at U;simp only[c',dX,or_false]at U
  .have H9:∀b,H b=none->mask H [x] b=none:=λb e=>by
    cases aD:mask H [x] b with
    |none=>rfl
    |some o=>rw[(DS H [x]) _ _ aD]at e;cases e
   rcases U with rfl|rfl|rfl|rfl|rfl|rfl|rfl|rfl|rfl
   .exact El (by simp)
   all_goals (apply H9)
   .exact f1.1
   .exact f2.1
   .exact cz.1
   .exact f4.1
   .exact vG.1
   .exact yz.1
   .exact fs.1
   .exact GZ.1
  .rcases U with rfl|rfl|rfl|rfl|rfl|rfl|rfl|rfl|rfl
   .exact .inl rfl
   .exact .inr f1.1
   .exact .inr f2.1
   .exact .inr cz.1
   .exact .inr f4.1
   .exact .inr vG.1
   .exact .inr yz.1
   .exact .inr fs.1
   .exact .inr GZ.1
end
end dW
namespace ct
open PySem PySem.Spec PyProof.Rows ao
section
variable{P:bO}{w:bx}{K:aV}{mg:cI}{base:Heap}{N:b9}{qual:Str}{scope:Scope}{f:Addr}{cdv:Value}{A:c0}{outer:List Env}{s:aF}{H:ae}{E:b6}
theorem aeo{E2:cD}{pins:cy}{σ:ao.St}{b2 H':ae}{sc s':aF}{au:Addr}{cls a0:Value}{B:Heap}(I:Inv (gc P w K mg base N qual scope f cdv A outer s H E) pins σ b2 sc)(T:m4 P w (gc P w K mg base N qual scope f cdv A outer s H E).stack b2 sc au cls a0 H' B s')(fz:E cls none H'):
  aQ (a9 P w) (A.deeper (ow qual scope s.heap.objs.size f cdv)) (leaving (ow qual scope s.heap.objs.size f cdv) (.ref au)) (λ_ s2=>ed P w outer H s E (.ref au) s2) E2 s':=by
 refine ar4 I.ok.frames rfl T.fl λai e0 h5=>?_;have tc:h9 (fy (gc P w K mg base N qual scope f cdv A outer s H E).stack) [] b2 H' sc.heap s'.heap:=T.un;have wj:∀b o,s.heap.get? b=some o->b∉fy outer->∃cL,B.get? b=some cL/\(H b=none->cL=o):=λb o e U=>by obtain⟨hB,z⟩:=I.base.there b o e (by simp[gc,j_]);obtain⟨cL,dr,q⟩:=T.k8 b hB z (zg I e U);refine⟨cL,dr,λn=>?_⟩;have bA:=I.base.keep b o e n U (by simp[gc,j_]);rw[z]at bA;cases bA;exact q (I.base.free b _ e n (by simp[gc,j_]))
 refine⟨au,cls,a0,H',B,rfl,⟨e0,T.os.trans I.os,T.bare,T.ok,⟨λb o e n U f6=>?_,λb o e n U f6=>?_,λb o e n f6=>?_,λb o e f6=>?_,λb xs q=>T.un.hM b xs (I.base.hM b xs q),λb o u q=>T.un.iT b o u (I.base.iT b o u q),λb ps q=>?_⟩,wj⟩,fz⟩
 .obtain⟨cL,z,q⟩:=wj b o e U;rw[q n]at z;exact e0.1 b o z
 .obtain⟨bo,z⟩:=I.base.slot b o e n U f6;have de:b∈fy (gc P w K mg base N qual scope f cdv A outer s H E).stack:=by show b∈fy (_::outer);unfold fy;rw[F0];exact mL _ U
  obtain⟨sy,bA⟩:=tc.slot b _ z (I.base.free b o e n f6) de (by simp);obtain⟨_,ob,cm,gz⟩:=T.fl.2.2.1.mem de;rw[bA]at cm;cases cm;obtain⟨lW,dr⟩:=h5 b _ bA gz;exact⟨lW,dr⟩
 .obtain⟨hB,z⟩:=I.base.there b o e f6;exact tc.free b hB z (I.base.free b o e n f6) (by simp)
 .by_cases U:b∈fy outer
  .obtain⟨_,ob,cm,gz⟩:=e0.2.2.1.mem U;exact⟨ob,cm⟩
  .obtain⟨cL,z,_⟩:=wj b o e U;exact⟨cL,e0.1 b cL z⟩
 .obtain⟨gW,aB⟩:=I.base.ji b ps q;obtain⟨la,aD⟩:=T.un.ji b _ aB;exact⟨gW++la,by rw[aD,U6]⟩
theorem abD:pS (nj P w) (jG P w K mg base N qual scope f cdv A outer s H E) E:=by rintro pins σ b2 sc e s' I ⟨au,cls,a0,H',B,ea,rfl,T,L,fz⟩;have h0:=aeo (K:=K) (mg:=mg) (base:=base) (N:=N) (qual:=qual) (scope:=scope) (f:=f) (cdv:=cdv) (A:=A) (outer:=outer) (s:=s) (H:=H) (E:=λc _ Fz=>c=cls/\Fz=H') (E2:=λ_ _=>False) (I.kG _) T ⟨rfl,rfl⟩;refine gn (D1 č h0) (λ_ s2 ai=>?_) λ_ _ z=>z.1.elim;obtain⟨⟨Zp,alJ,aj2,ag,aaf,aB,tc,aD,cH⟩,dR⟩:=ai;cases aB;subst aD cH;refine⟨au,alJ,aj2,ag,aaf,ea,rfl,tc,λah hd=>?_,fz⟩;obtain⟨o,a3,hd2⟩:=L ah hd;obtain⟨ob,qQ,_⟩:=tc.fl.there;exact⟨ob,qQ,(dR.dict a3 qQ).trans hd2⟩
end
end ct
namespace dW
open PySem ao ct dx
noncomputable def gH(d:By):PyData:=.tuple [.str d.1,.int d.2.1,.str d.2.2]
theorem JZ{H:ae}:∀{rs:bS}{a7:nx},d_ H rs (a7.map jd)->(∀d∈a7,dw H (.str d.1) (.str d.1)/\dw H (.str d.2.2) (.str d.2.2))->eV H (aC rs) (a7.map gH)
 |[],[],_,_=>.nil
 |_::_,d::_,.cons h t,g=>.cons (.tup h (by show 3<=100;decide) (.cons (g d (.head _)).1 (.cons (.int _) (.cons (g d (.head _)).2 .nil)))) (JZ t λe he=>g e (.tail _ he))
theorem WM{H:ae}:∀{a7:nx}{vs:aZ},eV H vs (a7.map gH)->∃rs,vs=aC rs/\d_ H rs (a7.map jd)
 |[],_,.nil=>⟨[],rfl,.nil⟩
 |d::a7,_,.cons (v:=v) (vs:=vs) h t=>by
  obtain⟨a,xs,rfl,aK,_,av⟩:=Xr h;obtain⟨rs,rfl,dg⟩:=WM t;refine⟨a::rs,rfl,.cons ?_ dg⟩;cases av with
  |cons af ck=>cases ck with
   |cons ai dZ=>cases dZ with
    |cons bU p3=>
     cases p3;cases af;cases ai;cases bU;exact aK
theorem ť(a7:nx):(F' (a7.map gH)).depth<=62:=by refine eQ (Lc (IG (n:=1) λy cS=>?_)) (by decide);obtain⟨d,_,rfl⟩:=b4.mp cS;exact cq _
theorem Th{H H':ae}{M:bS}(k:∀b o,b∉M->H b=some o->H' b=some o)(cQ:∀b∈M,∀v,H b≠some (.tup v)):∀{ls:bS}{aE:fj},bf (hU H) ls aE->(∀l∈ls,l∉M)->bf (hU H') ls aE
 |_,_,.nil,_=>.nil
 |_,_,.cons ⟨ts,af,ai⟩ t,h=>.cons ⟨ts,k _ _ (h _ (.head _)) af,bf.eE ai λ_ _ e=>k _ _ (λz=>cQ _ z _ e) e⟩ (Th k cQ t λl aj=>h l (.tail _ aj))
noncomputable def Fm(hs:bc)(a7:nx):Prop:=∀d∈a7,d.1∈hs.map S/\d.2.2∈hs.map S
noncomputable def nT(s:cG)(h g:Str):cG:={s with a7:=s.a7++[(h,s.pr,g)],aE:=s.aE++[zF (h,s.pr,g)]}
inductive WN(aw C aS az eb:Addr)(vs:aZ)(H:ae)(Q:ba)(E:b6):Prop where
 |mk (aY:ae) (x:Addr) (A:d4) (hs:bc) (ds:bT) (s:cG) (h g:Str) (bV:vs=[.ref x,.str h,.str g]) (bA:dS aw C aS az aY H x A hs ds s) (cn:Good hs) (di:Fm hs s.a7) (d8:s.a7.length<=40) (fI:s.aE.length=s.a7.length) (iM:(∀H,dw H (.str h) (.str h))) (lx:(∀H,dw H (.str g) (.str g))) (nh:(rD (bR hs) ((s.a7++[(h,s.pr,g)]).map gH)->∀H' hg,gK (A.bH x) (hg.bH x) H H'->dS aw C aS az aY H' x hg hs ds (nT s h g)->Q (.int (s.a7.length:Int)) H')) (rz:(¬rD (bR hs) ((s.a7++[(h,s.pr,g)]).map gH)->∀ah H',H ah=none->aN H H'->H' ah=some (mC ah [("number",LQ (lH (bR hs) ((s.a7++[(h,s.pr,g)]).map gH)))])->E (.ref eb) (some ah) H'))
noncomputable def Fn(aw C aS az eb:Addr):cM:=λvs H Q E=>WN aw C aS az eb vs H Q E
section
variable{P:bO}{w:bx}{K:aV}{mg:cI}{base:Heap}
noncomputable abbrev zW:Stmt:=gU (top 42) 2
theorem XS:dB ["self","house","goal","letter"] ["self","house","goal"] (c7 zW):=⟨rfl,rfl,rfl,by decide+kernel,rfl,by decide+kernel,by decide+kernel⟩
theorem agr{aw C aS az eb f f1 f2:Addr}{fd c4 ec:cF}(F:bB K "post" "Day.post" zW f fd)(B:gp mg)(cx:o7 K aw)(kQ:fB K C)(Dd:dO K mg "letters_of" Bg ["net","some"] f1 c4)(ż:aL P w K mg base (nj P w) 4 f1 c4 ["net","some"] (Lk az eb))(tp:c6 K C "take_in" "Walk.take_in" z3 ["self","letter"] f2 ec)(P1:aL P w K mg base a8 1 f2 ec ["self","letter"] (JO C)):aL P w K mg base (nj P w) 5 f fd ["self","house","goal"] (Fn aw C aS az eb):=by
 refine þ F XS (λvs H Q E h=>?_) (λcdv A outer s H vs Q E aq h=>?_)
 .obtain⟨aY,x,A,hs,ds,s,h',g',rfl,_⟩:=h;rfl
 .obtain⟨aY,x,A,hs,ds,s,h',g',rfl,D,G,pj,pU,DK,oZ,dA,q,iD⟩:=h;refine⟨_,(bh (da (i:=3) XS.aG rfl (cb rfl) (i8 (ak (aa 1) (ak (e2 (aa 0) (by rfl)) (ak (aa 2) aI)))))
   (bh (lI (aa 0) (fw ż (aq.mono (by decide)) (by rfl) Dd.at_ Dd.fn.bI Dd.bd .nil abD (ak (e2 (aa 0) (by rfl)) (ak (bK Kh (e2 (aa 0) (by rfl)) (gS (ak (aa 3) aI))) aI))) rfl)
   (bh (gQ (g_ (e2 (aa 0) (by rfl)) kQ tp.eo P1 (aq.mono (by decide)) tp.bd .nil dt (ak (aa 3) aI)))
   (br (c_ (bK sg (dE gP (by rfl) B.len gF (ak (e2 (aa 0) (by rfl)) aI)) aW)))))),?_⟩
  refine⟨_,rfl,_,rfl,x,aw,_,_,_,rfl,D.ins,cx.cl,cx.np,rfl,_,rfl,(by show 3<=sizeLine;decide),λdg Rg=>?_⟩;have ux:=bW (o:=.tup (jd (h',s.pr,g'))) Rg;have t1:upd H dg (.tup (jd (h',s.pr,g'))) dg=some (.tup (jd (h',s.pr,g'))):=aP;show lR _ _ _ _ (upd H dg (.tup (jd (h',s.pr,g'))));generalize upd H dg (.tup (jd (h',s.pr,g')))=H1 at ux t1⊢;have l1:=D.same ux;have Ú:A.ll.length=s.a7.length:=by have:=gM D.pt;rw[bp]at this;exact this
  refine⟨_,rfl,x,aw,_,_,_,rfl,l1.ins,cx.cl,cx.nn,rfl,_,rfl,x,aw,_,_,_,rfl,l1.ins,cx.cl,cx.no,rfl,_,rfl,(by show 1<=sizeLine;decide),λhK dp=>?_⟩;have zH:=bW (o:=.lst [V.ref dg]) dp;have ai:upd H1 hK (.lst [V.ref dg]) hK=some (.lst [V.ref dg]):=aP;generalize upd H1 hK (.lst [V.ref dg])=ag at zH ai⊢;have cB:=l1.same zH;refine⟨A.pl,hK,_,_,rfl,rfl,cB.po,ai,(by rw[eI];show _+1<=sizeLine;exact oc (eW (by omega))),λgG dq=>?_⟩;rw[rX];have zI:=bW (o:=.lst (aC (A.ll++[dg]))) dq;have bU:upd ag gG (.lst (aC (A.ll++[dg]))) gG=some (.lst (aC (A.ll++[dg]))):=aP;generalize upd ag gG (.lst (aC (A.ll++[dg])))=a_ at zI bU⊢;have fC:=cB.same zI;have zo:=ux.trans (zH.trans zI);have nf:d_ a_ (A.ll++[dg]) ((s.a7++[(h',s.pr,g')]).map jd):=by rw[eU];exact Paired.snoc (F:=λr d=>a_ r=some (.tup d)) (zI _ _ (zH _ _ t1)) fC.pt
  have arH:dw a_ (.ref gG) (.list ((s.a7++[(h',s.pr,g')]).map gH)):=by
   refine .lst bU (by rw[eI,hi];show _+1<=100;omega) (JZ nf λd hd=>?_);rcases hj.mp hd with z|z
   .exact⟨uq G (pj d z).1,uq G (pj d z).2⟩
   .rw[hr.mp z];exact⟨oZ _,dA _⟩
  refine⟨A.n,A.bt,A.bu,hs,_,.ref gG,_,rfl,fC.hp.same fC.b',G,arH,ť _,λqq l dP nl s4 arG=>?_,λna ah dP aG s4 hd=>?_⟩
  .obtain⟨_,xs,hl,Μ,_,C_⟩:=Kr arG;cases hl;obtain⟨ll,rfl,Į⟩:=WM C_;have gg:=fC.same s4;obtain⟨hV,Ë⟩:=gg.lZ;have rj:=zo.trans s4;have y7:H l=none:=by
    cases e:H l with
    |none=>rfl
    |some o=>rw[zo _ _ e]at nl;cases nl
   have aG:=D.aG;unfold d4.bH at aG;simp only[iP,c',not_or]at aG;obtain⟨⟨e0,h5,o_,pa,zS,Ff,w',Fg,zT⟩,⟨d6,gX,uj,kb,wm,uk,ā,ze⟩,⟨pb,Ŝ,ŝ,Uk,w_,xa,Ul⟩,⟨ħ,eP,t3,SJ,SK,wO⟩,⟨bQ,cZ,hE,sl,D_⟩,⟨fo,fU,hN,E4⟩,⟨g1,g2,g3⟩,⟨I6,sy⟩,aB,Q3⟩:=aG;refine⟨_,rfl,x,aw,A.ah,_,rfl,gg.ins,cx.cl,cx.no,(by show 7<1000;decide),?_⟩;have d3:upd dP x (.ins aw A.ah (sv A.n l A.y A.cY A.dN A.dk s.pr)) x=_:=aP;have k5:∀b o,b≠x->dP b=some o->upd dP x (.ins aw A.ah (sv A.n l A.y A.cY A.dN A.dk s.pr)) b=some o:=λb o nb e=>(aA nb).trans e;have y6:∀b,upd dP x (.ins aw A.ah (sv A.n l A.y A.cY A.dN A.dk s.pr)) b=none->dP b=none:=λb e=>by
    have nb:b≠x:=λz=>by rw[z,aP]at e;cases e
    rw[aA nb]at e;exact e
   show lR _ _ _ _ (upd dP x (.ins aw A.ah (sv A.n l A.y A.cY A.dN A.dk s.pr)));generalize upd dP x (.ins aw A.ah (sv A.n l A.y A.cY A.dN A.dk s.pr))=bw at d3 k5 y6⊢;have dF:(d2 s.a7).length=s.a7.length:=bp _;have lO:A.ls.length=s.a7.length:=(gM D.lX).trans DK;refine⟨_,rfl,x,aw,_,_,_,rfl,d3,cx.cl,cx.nw,rfl,A.dN,A.jJ,_,rfl,k5 _ _ (cR zS) gg.dh,rfl,_,rfl,A.dN,A.jJ,A.n,A.g,A.bo,dg,d2 s.a7,A.ls,(h',s.pr,g'),rfl,k5 _ _ (cR zS) gg.dh,k5 _ _ (cR Ff) gg.lY,k5 _ _ (cR w') gg.ws,g1,k5 _ _ (ao.h4 (s4 _ _ (zI _ _ (zH _ _ t1))) gg.ins (by intro z;cases z)) (s4 _ _ (zI _ _ (zH _ _ t1))),(by omega),(by omega),λgh HU arp se an8 aoD apW auH OO O9=>?_⟩;have bY:∀b o,b∉[x,A.g,A.bo]->dP b=some o->gh b=some o:=λb o nb e=>by simp only[c',dX,or_false,not_or]at nb;exact se b o nb.2.1 nb.2.2 (k5 b o nb.1 e)
   have k2:∀{b o},b≠x->b≠A.g->b≠A.bo->dP b=some o->gh b=some o:=λ{b o}dp dq oH e=>bY b o (by simp[dp,dq,oH]) e;have kt:∀b v,dP b=some (.tup v)->gh b=some (.tup v):=λb v e=>k2 (ao.h4 e gg.ins (by intro z;cases z)) (ao.h4 e gg.lY (by intro z;cases z)) (ao.h4 e gg.ws (by intro z;cases z)) e;have nm:∀b o,dP b=some o->b≠HU:=λb o e z=>by rw[z,y6 _ apW]at e;cases e
   have y2:l≠x:=cR (bZ fC.ins nl);have Õ:l≠A.g:=cR (bZ fC.lY nl);have Ý:l≠A.bo:=cR (bZ fC.ws nl);have apl:l∉A.ls:=λz=>by obtain⟨i,ar,ey⟩:=mJ z;obtain⟨_,_,ts,e,_⟩:=bf.get fC.lX (eM.mpr ⟨ar,ey⟩);rw[nl]at e;cases e
   have Z6:=se x _ Ff w' d3;have Z5:=k2 y2 Õ Ý Μ;have apj:ll.length=s.a7.length+1:=by have:=gM Į;rw[bp,hi]at this;exact this
   refine⟨_,rfl,x,aw,_,_,_,rfl,Z6,cx.cl,cx.no,rfl,l,_,rfl,.inl (aJ.of Z5),_,_,rfl,rfl,?_⟩;rw[eI,apj];show Q (.int (((s.a7.length+1:Nat):Int)-1)) gh;rw[show(((s.a7.length+1:Nat):Int)-1)=(s.a7.length:Int) by omega];have NR:∀b o,aY b=some o->b≠x/\b≠A.g/\b≠A.bo:=λb o e=>by
    refine⟨λz=>?_,λz=>?_,λz=>?_⟩
    .rw[z,D.fr x (by unfold d4.bH;simp)]at e;cases e
    .rw[z,D.fr A.g (by unfold d4.bH;simp)]at e;cases e
    .rw[z,D.fr A.bo (by unfold d4.bH;simp)]at e;cases e
   have ñ:H HU=none:=by
    cases e:H HU with
    |none=>rfl
    |some o=>exact bG rfl (nm _ _ (rj _ _ e))
   refine q qq gh {A with pl:=l,ll:=ll,ls:=A.ls++[HU]} ⟨λb o nb e=>?_,λb U=>?_⟩ ⟨λb o e=>?_,D.hp,D.lV,Z6,Z5,bf.eE Į λ_ _ e=>kt _ _ e,⟨hV,k2 (cR h5) Uk w_ Ë⟩,k2 (cR o_) t3 SJ gg.n3,k2 (cR pa) cZ hE gg.cY,k2 (cR zS) fo fU gg.dh,?_,aoD,?_,k2 (cR Fg) (cR g2) (cR I6) gg.dk,bf.eE gg.sp λ_ _⟨c,af,ai⟩=>⟨c,kt _ _ af,kt _ _ ai⟩,?_,λb U=>?_⟩
   .unfold d4.bH at nb;simp only[c',not_or]at nb;exact k2 nb.1 nb.2.2.2.2.2.2.1 nb.2.2.2.2.2.2.2.1 (rj _ _ e)
   .unfold d4.bH at U⊢;simp only[c',hj,dX,or_false]at U⊢;rcases U with h|h|h|h|h|h|h|h|h|h|h
    .exact .inl (.inl h)
    .exact .inr (by rw[h];exact y7)
    .exact .inl (by simp[h])
    .exact .inl (by simp[h])
    .exact .inl (by simp[h])
    .exact .inl (by simp[h])
    .exact .inl (by simp[h])
    .exact .inl (by simp[h])
    .exact .inl (by simp[h])
    .exact .inl (by simp[h])
    .exact .inr (by rw[h];exact ñ)
   .obtain⟨bV,bA,cn⟩:=NR b o e;exact k2 bV bA cn (rj _ _ (D.b' _ _ e))
   .rw[an8];show _=some (ee.lst ((d2 (s.a7++[(h',s.pr,g')])).map V.str));unfold d2;simp only[eU,hQ,F1]
   .refine Paired.snoc ⟨[arp],OO,.cons O9 .nil⟩ (Th bY (λb U v e=>?_) gg.lX λho vT z=>?_)
    .simp only[c',dX,or_false]at U;rcases U with rfl|rfl|rfl
     .rw[gg.ins]at e;cases e
     .rw[gg.lY]at e;cases e
     .rw[gg.ws]at e;cases e
    .simp only[c',dX,or_false]at z;rcases z with rfl|rfl|rfl
     .exact zT vT
     .exact g3 vT
     .exact sy vT
   .unfold d4.bH;simp only[iP,c',hj,dX,or_false,not_or];obtain⟨atR,Pj⟩:=fC.lZ;refine⟨⟨cR y2,h5,o_,pa,zS,Ff,w',Fg,zT,nm _ _ gg.ins⟩,⟨cR (bZ Pj nl),cR (bZ fC.n3 nl),cR (bZ fC.cY nl),cR (bZ fC.dh nl),Õ,Ý,cR (bZ fC.dk nl),apl,nm _ _ Μ⟩,⟨pb,Ŝ,ŝ,Uk,w_,xa,Ul,nm _ _ Ë⟩,⟨ħ,eP,t3,SJ,SK,wO,nm _ _ gg.n3⟩,⟨bQ,cZ,hE,sl,D_,nm _ _ gg.cY⟩,⟨fo,fU,hN,E4,nm _ _ gg.dh⟩,⟨g1,g2,g3,nm _ _ gg.lY⟩,⟨I6,sy,nm _ _ gg.ws⟩,⟨aB,nm _ _ gg.dk⟩,?_⟩;rw[x7];refine⟨Q3,iP.mpr ⟨dX,sZ⟩,λa aK b U=>?_⟩;rw[hr]at U;subst U;obtain⟨i,ar,ey⟩:=mJ aK;obtain⟨_,_,ts,e,_⟩:=bf.get gg.lX (eM.mpr ⟨ar,ey⟩);exact nm _ _ e
   .unfold d4.bH at U;simp only[c',hj,dX,or_false]at U;have old:b∈A.bH x->aY b=none:=D.fr b;have new:H b=none->aY b=none:=λe=>by
     cases aD:aY b with
     |none=>rfl
     |some o=>rw[D.b' _ _ aD]at e;cases e
    unfold d4.bH at old;simp only[c']at old;rcases U with h|h|h|h|h|h|h|h|h|h|h
    .exact old (by simp[h])
    .exact new (by rw[h];exact y7)
    .exact old (by simp[h])
    .exact old (by simp[h])
    .exact old (by simp[h])
    .exact old (by simp[h])
    .exact old (by simp[h])
    .exact old (by simp[h])
    .exact old (by simp[h])
    .exact old (by simp[h])
    .exact new (by rw[h];exact ñ)
  .have rj:=zo.trans s4;have apK:H ah=none:=by
    cases e:H ah with
    |none=>rfl
    |some o=>rw[zo _ _ e]at aG;cases aG
   exact iD na ah dP apK rj hd
noncomputable def hI(s:cG):List Nat:=(ek s.a7.length).filter λn=>decide ((gf s.aE n).fA≠j3 (d2 s.a7) n)
noncomputable def iC(s:cG)(n:Nat):Bool:=(iy s.kvs (gf s.aE n).fA (j3 (d2 s.a7) n)).isSome
noncomputable def fG(ds:bT)(s:cG):List (kK×List Nat):=(m5 ds (iZ s.aE) (iF s.kvs (d2 s.a7) s.aE) s.pr ((hI s).filter (iC s))).filter λb=>decide (b.1.2∉s.eA)
noncomputable def oM(hs:bc)(ds:bT)(s:cG):cG:={s with pr:=s.pr+1,aE:=nK hs ds (fG ds s) s.aE,hq:=s.hq++fG ds s}
structure iW(hs:bc)(ds:bT)(k:Nat)(s:cG):Prop where
 len:s.aE.length=s.a7.length
 pU:s.a7.length<=40
 BK:ds.length<=40
 lets:Fm hs s.a7
 tab:pE s.kvs ds.length
 ne:∀ss∈s.aE,ss≠[]
 qR:∀ss∈s.aE,(oL ss).fA∈hs.map S
 eh:∀ss∈s.aE,ss.length<=k+1
 wJ:s.hq.length<=50*k
theorem iW.last{hs:bc}{ds:bT}{k:Nat}{s:cG}(O:iW hs ds k s){n:Nat}(h:n<s.a7.length):∃i,s.aE[n]?=some (i++[gf s.aE n])/\(gf s.aE n).fA∈hs.map S:=by have aB:s.aE[n]?=some (s.aE.getD n []):=WH (by rw[O.len];exact h);have hm:=eH aB;obtain⟨i,ey⟩:=abf (O.ne _ hm);refine⟨i,?_,O.qR _ hm⟩;rw[aB];congr 1
theorem JA{s:cG}{n:Nat}(h:n<s.a7.length):(d2 s.a7)[n]?=some (j3 (d2 s.a7) n):=WH (by unfold d2;rw[bp];exact h)
theorem iW.goal{hs:bc}{ds:bT}{k:Nat}{s:cG}(O:iW hs ds k s){n:Nat}(h:n<s.a7.length):j3 (d2 s.a7) n∈hs.map S:=by have e:=JA h;unfold d2 at e;rw[c9]at e;obtain⟨d,hd,aD⟩:=fJ.mp e;have:=(O.lets d (eH hd)).2;unfold d2;rw[<-aD];exact this
theorem J0{s:cG}{n:Nat}:n∈hI s↔n<s.a7.length/\(gf s.aE n).fA≠j3 (d2 s.a7) n:=by unfold hI;rw[gJ,lz,decide_eq_true_eq]
end
theorem iW.on{hs:bc}{ds:bT}{k:Nat}{s:cG}(O:iW hs ds k s){n:Nat}(h:n∈hI s):JW (iC s) hs s.kvs (d2 s.a7) s.aE (iZ s.aE) (iF s.kvs (d2 s.a7) s.aE) n:=by
 obtain⟨aT,dm⟩:=J0.mp h;obtain⟨i,ey,hm⟩:=O.last aT;rcases O.tab.get (gf s.aE n).fA (j3 (d2 s.a7) n)with⟨v,w⟩|⟨r,v,w,_⟩
 .exact .inr ⟨by unfold iC;rw[w];rfl,i,_,_,ey,rfl,JA aT,hm,O.goal aT,dm,v⟩
 .exact .inl ⟨by unfold iC;rw[w];rfl,i,_,_,ey,rfl,JA aT,hm,O.goal aT,dm,by unfold iF;rw[w];exact v⟩
theorem iW.rd{hs:bc}{ds:bT}{k:Nat}{s:cG}(O:iW hs ds k s){n:Nat}(h:n∈(hI s).filter (iC s)):iF s.kvs (d2 s.a7) s.aE n<ds.length:=by
 obtain⟨_,ai⟩:=gJ.mp h;unfold iC at ai;rcases O.tab.get (gf s.aE n).fA (j3 (d2 s.a7) n)with⟨v,w⟩|⟨r,v,w,aq⟩
 .rw[w]at ai;cases ai
 .unfold iF;rw[w];exact aq
theorem ags{α:Type}{F:Addr->α->Prop}{dh:TI}{cs:lD}{tt:TT}{σ rest:ao.St}{H H1:ae}{Q:ba}{J:f9}{as:bS}{Bs:List α}(hw:∀R:f9->ae->Prop,R J H1->dh σ H R)(ij:il cs σ=none::rest)(dN:oi J H1 (aC as))(aj:as.length<sizeLine)(pr:bf F as Bs)(q:α->Bool)(test:∀(i:Nat)(a:Addr)(b:α)(ag:ae)(R:Bool->ae->Prop),as[i]?=some a->Bs[i]?=some b->aN H1 ag->R (q b) ag->tt (some (.ref a)::rest) ag R)(fin:∀(D:Addr)(H':ae)(i4:bS),H1 D=none->H' D=some (.lst (aC i4))->bf F i4 (Bs.filter q)->aN H1 H'->Q (.ref D) H'):n1 dh cs (hX 0) tt (LC 0) σ H Q:=by
 have apf:=gM pr;have Qv:=eI as;refine hw _ λD bR=>?_;refine⟨λi m ys a4 H'=>m=as.length-i/\i<=as.length/\(∃i4,ys=aC i4/\i4.length<=i/\bf F i4 ((Bs.take i).filter q))/\(∃o,a4=o::rest)/\aN H1 H'/\H' D=some (.lst ys),⟨as.length,by simp,e_ _,⟨[],rfl,cq _,.nil⟩,⟨none,by rw[ij]⟩,λb o e=>?_,aP⟩,?_⟩
 .rw[aA (bZ e bR)];exact e
 .rintro i m ys a4 H' ⟨rfl,ar,⟨i4,rfl,jP,hC⟩,⟨o,rfl⟩,aH,fe⟩;obtain⟨fo,fU,hN⟩:=dN H' aH;refine⟨fe,by rw[eI];omega,?_⟩;by_cases cP:i<as.length
  .refine .inr ⟨fU i (by omega),λx ag y=>?_⟩;obtain⟨rfl,ex⟩:=hN i x ag (by omega) y;unfold aC at ex;rw[c9]at ex;obtain⟨a,au,rfl⟩:=fJ.mp ex;obtain⟨b,ef,U⟩:=bf.get pr au;have a5:Bs.take (i+1)=Bs.take i++[b]:=by rw[pk,ef];rfl
   show tt (some (.ref a)::rest) ag _;refine test i a b ag _ au ef aH ?_;cases aU:q b with
   |true=>
    refine h3 ⟨_,rfl,fe,as.length-(i+1),by omega,rfl,cP,⟨i4++[a],rX i4 a,by rw[hi];show i4.length+1<=i+1;omega,?_⟩,⟨_,rfl⟩,λc ob e=>?_,aP⟩
    .rw[a5,nq,l5,bM aU,u0];exact Paired.snoc U hC
    .rw[aA (bZ e bR)];exact aH _ _ e
   |false=>
    refine gx ⟨as.length-(i+1),by omega,rfl,cP,⟨i4,rfl,by omega,?_⟩,⟨_,rfl⟩,aH,fe⟩;rw[a5,nq,l5,bE (by rw[aU];decide),u0,l4];exact hC
  .have e:i=as.length:=by omega
   subst e;rw[apf,pn]at hC;rw[Qv]at fo;exact .inl ⟨fo,fin D H' i4 bR fe hC aH⟩
theorem J1(l:dI)(r:Nat):(!(b1 (iq l) (e7 (r:Int):a')).isSome)=decide (r∉l):=by
 induction l with
 |nil=>rfl
 |cons a l a6=>
  show(!(b1 ((e7 (a:Int),V.aM true)::iq l) (e7 (r:Int):a')).isSome)=_;by_cases h:a=r
  .subst h;rw[kP rfl];simp
  .rw[jW (λz=>h (by have:=Bw z;omega)),a6];simp[cR h]
theorem agt{hs:bc}{ds:bT}{k:Nat}{s:cG}(O:iW hs ds k s){bs:l9}(h:bs.Sublist (fG ds s))(i:Nat):(bs.filter λb=>decide (i∈b.2)).length<=1:=by have af:(bs.filter λb=>decide (i∈b.2)).Sublist ((m5 ds (iZ s.aE) (iF s.kvs (d2 s.a7) s.aE) s.pr ((hI s).filter (iC s))).filter λb=>decide (i∈b.2)):=(h.trans List.filter_sublist).filter _;have ai:=af.length_le;rw[agm (λn aT=>O.rd aT) i]at ai;refine eQ ai ?_;split<;>simp
theorem VQ{hs:bc}{ds:bT}{k:Nat}{s:cG}(O:iW hs ds k s){bs:l9}(h:bs.Sublist (fG ds s)):∀ss∈nK hs ds bs s.aE,ss.length<=k+2:=λss k6=>by obtain⟨i,ar⟩:=acZ.mp k6;rw[TZ]at ar;obtain⟨s0,cJ,rfl⟩:=fJ.mp ar;have:=O.eh s0 (eH cJ);have:=agt O h i;rw[hi,bp];omega
inductive agu(K:aV)(aw C aS az:Addr)(vs:aZ)(H:ae)(Q:ba)(bN:b6):Prop where
 |mk (aY:ae) (x:Addr) (A:d4) (hs:bc) (ds:bT) (s:cG) (k:Nat) (bV:vs=[.ref x]) (bA:dS aw C aS az aY H x A hs ds s) (cn:Good hs) (di:iW hs ds k s) (d8:k<=98) (fI:∀H' hg aM fF,gK (A.bH x) (hg.bH x) H H'->dS aw C aS az aY H' x hg hs ds (oM hs ds s)->H aM=none->aM∉hg.bH x->H' aM=some (.lst (aC fF))->bf (hk H') fF (fG ds s)->Q (.ref aM) H')
noncomputable def Fo(K:aV)(aw C aS az:Addr):cM:=λvs H Q bN=>agu K aw C aS az vs H Q bN
section
variable{P:bO}{w:bx}{K:aV}{mg:cI}{base:Heap}
noncomputable abbrev zX:Stmt:=gU (top 42) 7
theorem E_:dB ["self","going","ready","bags","bag"] ["self"] (c7 zX):=⟨rfl,rfl,rfl,by decide+kernel,rfl,by decide+kernel,by decide+kernel⟩
theorem agv{aw C aS az f f1 f2 cz:Addr}{fd c4 ec hn:cF}(F:bB K "pass_turn" "Day.pass_turn" zX f fd)(B:gp mg)(cx:o7 K aw)(kQ:fB K C)(Hb:c6 K C "home_turn" "Walk.home_turn" E7 ["self","number"] f1 c4)(arT:aL P w K mg base a8 2 f1 c4 ["self","number"] (Us C))(DM:dO K mg "bags_at" Es ["net","walk","going","ways","turn"] f2 ec)(abE:aL P w K mg base a8 5 f2 ec ["net","walk","going","ways","turn"] (Li K C aS az))(HZ:c6 K C "send" "Walk.send" Ah ["self","bag"] cz hn)(aaN:aL P w K mg base a8 2 cz hn ["self","bag"] (Kv C az)):aL P w K mg base a8 6 f fd ["self"] (Fo K aw C aS az):=by
 refine F.ok E_ (λvs H Q E h=>?_) (λcdv A outer s H vs Q E aq h=>?_)
 .obtain⟨aY,x,A,hs,ds,s,k,rfl,_⟩:=h;rfl
 .obtain⟨aY,x,A,hs,ds,s,k,rfl,D,G,O,Ï,q⟩:=h;refine⟨_,(bh (tQ (i:=1) E_.aG rfl rfl rfl (N':=["number","self"]) (cs:=[none,some 0]) rfl (yR rfl B.range (ak (dE gP (by rfl) B.len gF (ak (e2 (aa 0) (by rfl)) aI)) aI)) rfl (by decide+kernel) rfl (by decide+kernel) (lK (n'.mpr ⟨rfl,(λp aO=>bG aO (dX))⟩)) rfl
    (.own (.md rfl (.inl rfl) (.inl rfl) rfl .nil))
    (λC s3 a_ cp fg=>⟨(et (i:=0) (by show(["number","self"]:b9).Nodup;decide+kernel) rfl (.inl rfl)),(zf (eC WV (g_ (VX (K:=K) rfl (aa 1) (by rfl)) kQ Hb.eo arT (aq.mono (by decide)) Hb.bd .nil dt (ak (aa 0) aI)) kU (dz _))),(aa 0)⟩))
   (bh (da (i:=2) E_.aG rfl (cb rfl) (fw abE (aq.mono (by decide)) (by rfl) DM.at_ DM.fn.bI DM.bd .nil dt (ak (e2 (aa 0) (by rfl)) (ak (e2 (aa 0) (by rfl)) (ak (aa 1) (ak (e2 (aa 0) (by rfl)) (ak (e2 (aa 0) (by rfl)) aI)))))))
   (bh (tQ (i:=3) E_.aG rfl rfl rfl (N':=["bag","self"]) (cs:=[none,some 0]) rfl (jY (aa 2)) rfl (by decide+kernel) rfl (by decide+kernel) (lK (n'.mpr ⟨rfl,(λp aO=>bG aO (dX))⟩)) rfl
    (.own (.md rfl (.inl rfl) (.inl rfl) rfl .nil))
    (λC s3 a_ cp fg=>⟨(et (i:=0) (by show(["bag","self"]:b9).Nodup;decide+kernel) rfl (.inl rfl)),(zf (Kd (IE (iV aq) (cv (v' (K:=K) rfl) (aa 0) aW (λ_ _=>rfl)) (VX (K:=K) rfl (aa 1) (by rfl))))),(aa 0)⟩))
   (bh (kq kM rfl (jY (aa 3)) (et (i:=4) E_.aG rfl (cb rfl))
    (br (gQ (g_ (e2 (aa 0) (by rfl)) kQ HZ.eo aaN (aq.mono (by decide)) HZ.bd .nil dt (ak (aa 4) aI)))))
   (bh (gQ (nN og PySem.F.slot_list_extend PySem.F.type_list_extend ab7 (e2 (aa 0) (by rfl)) (ak (aa 3) aI)))
   (bh (lI (aa 0) (bK ib (e2 (aa 0) (by rfl)) aW) rfl)
   (br (c_ (aa 3))))))))),?_⟩
  have Ú:A.ll.length=s.a7.length:=by have:=gM D.pt;rw[bp]at this;exact this
  have pU:=O.pU;dsimp only[lR,rv];refine ahy (J:=n9 0 s.a7.length) (H1:=H) (xs:=(ek s.a7.length).map λi:Nat=>V.int (0+i)) (rest:=[some (.ref x)]) (λR h=>⟨_,rfl,x,aw,_,_,_,rfl,D.ins,cx.cl,cx.no,rfl,A.pl,_,rfl,.inl (aJ.of D.po),_,rfl,?_,?_,?_⟩) rfl (IS 0 s.a7.length) (eW (by simp;omega)) (λn=>decide ((gf s.aE n).fA≠j3 (d2 s.a7) n)) (λn=>.int (n:Int)) (λn v ag R ev aH k=>?_) (λn v ag R ev _ aH k=>?_) (λl1 H1 q6 bR s1=>?_)
  .rw[eI];omega
  .rw[eI];omega
  .rw[eI,Ú,mH];exact h
  .have aT:n<s.a7.length/\v=.int (n:Int):=by rw[c9]at ev;obtain⟨i,ey,rfl⟩:=fJ.mp ev;obtain⟨af,ai⟩:=eM.mp ey;rw[x5]at ai;subst ai;rw[jz]at af;exact⟨af,by rw[qc]⟩
   obtain⟨aT,rfl⟩:=aT;obtain⟨i,ey,_⟩:=O.last aT;have cB:=D.same aH;refine⟨_,rfl,x,aw,_,_,_,rfl,cB.ins,cx.cl,cx.nw,rfl,A.dN,A.jJ,_,rfl,cB.dh,rfl,_,rfl,A.dN,A.n,A.g,A.bo,_,_,_,n,i,_,_,rfl,cB.walk,ey,JA aT,rfl,_,rfl,?_⟩;have:=k ag (aN.refl _);unfold K7;by_cases z:(gf s.aE n).fA=j3 (d2 s.a7) n
   .rw[bM z];rw[dJ (λw=>w z)]at this;exact this
   .rw[bE z];rw[cu z]at this;exact this
  .obtain rfl:v=.int (n:Int):=by rw[c9]at ev;obtain⟨i,ey,rfl⟩:=fJ.mp ev;obtain⟨af,ai⟩:=eM.mp ey;rw[x5]at ai;subst ai;rw[qc]
   exact⟨_,rfl,k ag (aN.refl _)⟩
  have y2:((ek s.a7.length).map λi:Nat=>V.int (0+i)).length=s.a7.length:=by simp
  rw[y2]at bR;have anv:H1 l1=some (.lst (fN (hI s))):=bR;have Da:=D.same s1;have gl:(hI s).length<=40:=by unfold hI;refine eQ (jl _ _) ?_;rw[jz];exact pU
  have ZW:(hI s).Nodup:=F2.filter _;refine⟨_,rfl,x,aw,_,_,_,rfl,Da.ins,cx.cl,cx.nn,rfl,_,rfl,x,aw,_,_,_,rfl,Da.ins,cx.cl,cx.nw,rfl,_,rfl,_,rfl,x,aw,_,_,_,rfl,Da.ins,cx.cl,cx.ud,rfl,_,rfl,x,aw,_,_,_,rfl,Da.ins,cx.cl,cx.np,rfl,A.dN,A.n,A.g,A.bo,l1,A.y,A.t,A.bt,A.bu,_,A.ls,A.rs,s.aE,hs,ds,s.kvs,hI s,iC s,_,iZ s.aE,iF s.kvs (d2 s.a7) s.aE,s.pr,rfl,rfl,Da.walk,aJ.of anv,Da.T1,Da.lV.same Da.b',G,by omega,ZW,λn aT=>O.on aT,λn aT=>O.rd aT,λaM ag as rl ka s2 ig gR up mem=>?_⟩;obtain rfl:=VP (λn aT=>O.rd aT) up mem;obtain⟨Bs,Nv⟩:∃Bs,Bs=m5 ds (iZ s.aE) (iF s.kvs (d2 s.a7) s.aE) s.pr ((hI s).filter (iC s)):=⟨_,rfl⟩
  have gR:bf (hk ag) as Bs:=by rw[Nv];exact gR
  have Db:=Da.same s2;have apd:Bs.length<=40:=by rw[Nv];unfold m5 ml;rw[bp];refine eQ (jl _ _) ?_;rw[jz];exact O.BK
  have eS:=gM gR;refine FL ?_;dsimp only;refine Ji ?_;refine ags (F:=hk ag) (J:=mI K aM) (H1:=ag) (as:=as) (Bs:=Bs) (rest:=[some (.ref x)]) (λR h=>⟨_,rfl,aM,rfl,⟨_,aJ.of ig⟩,h⟩) rfl (tZ (aJ.of ig)) (eW (by omega)) gR (λb=>decide (b.1.2∉s.eA)) (λi a b a_ R au ef aH cU=>?_) (λfC a_ i4 nW N5 vi s3=>?_)
  .obtain⟨fL,Zq,c,jr,h1⟩:=bf.get gR au;rw[ef]at Zq;cases Zq;have fC:=Db.same aH;refine⟨_,rfl,a,_,_,_,rfl,rfl,cN.of (aH _ _ jr),rfl,_,rfl,x,aw,_,_,_,rfl,fC.ins,cx.cl,cx.t8,rfl,A.cY,_,rfl,iY.k (k:=e7 (b.1.2:Int)) fC.cY,_,rfl,?_⟩;rw[J1];exact cU
  have Zm:Bs.filter (λb=>decide (b.1.2∉s.eA))=fG ds s:=by rw[Nv];rfl
  rw[Zm]at vi;have g6:=Db.same s3;have auk:(fG ds s).length<=40:=by rw[<-Zm];exact eQ (jl _ _) apd
  have ape:=gM vi;have vi:=bf.eE vi λa b h=>h.same s3;have bin:∀b∈fG ds s,b.1.2<ds.length/\b.2.Nodup/\∀i∈b.2,i<s.aE.length:=λb U=>by
   unfold fG m5 at U;obtain⟨r,aq,nY⟩:=b4.mp (gJ.mp U).1;subst nY;refine⟨?_,XG (ZW.filter _) r,λi ar=>?_⟩
   .unfold ml at aq;exact lz.mp (gJ.mp aq).1
   .have:=(J0.mp (gJ.mp (Jy ar).1).1).1;rw[O.len];exact this
  have aG:=D.aG;unfold d4.bH at aG;simp only[iP,c',not_or]at aG;obtain⟨⟨e0,h5,o_,pa,zS,Ff,w',Fg,zT⟩,⟨d6,gX,uj,kb,wm,uk,ā,ze⟩,⟨pb,Ŝ,ŝ,Uk,w_,xa,Ul⟩,⟨ħ,eP,t3,SJ,SK,wO⟩,⟨bQ,cZ,hE,sl,D_⟩,⟨fo,fU,hN,E4⟩,⟨g1,g2,g3⟩,⟨I6,sy⟩,aB,Q3⟩:=aG;have ang:∀l∈A.ls,aY l=none:=λl aj=>D.fr l (by unfold d4.bH;simp[aj]);have Qw:∀{KJ:ae}{jh:fj},bf (hU KJ) A.ls jh->∀l∈A.ls,∃ts,KJ l=some (.lst ts):=λ{KJ jh}jg l aj=>by obtain⟨i,ar,ey⟩:=mJ aj;obtain⟨_,_,ts,e,_⟩:=bf.get jg (eM.mpr ⟨ar,ey⟩);exact⟨_,e⟩
  have QH:fC∉A.ls:=λz=>by obtain⟨ts,e⟩:=Qw Db.lX _ z;rw[nW]at e;cases e
  refine⟨_,rfl,fC,rfl,⟨_,aJ.of N5⟩,?_⟩;refine qC (K:=K) (a:=fC) (xs:=aC i4) (λj σ gr=>∃v4,σ=[some (.ref x),some (.ref l1),some (.ref aM),some (.ref fC),v4]/\aN (mask a_ A.ls) gr/\bf (hU gr) A.ls (nK hs ds ((fG ds s).take j) s.aE))
   ⟨none,rfl,DS _ _,g6.lX⟩ (λj σ gr _⟨_,_,h,_⟩=>aJ.of (h _ _ (mj N5 QH))) ?_ ?_
  .rintro j z σ gr dC ⟨v4,rfl,iG,eZ⟩;unfold aC at dC;rw[c9]at dC;obtain⟨hG,BS,rfl⟩:=fJ.mp dC;obtain⟨b,ef,c,jr,h1⟩:=bf.get vi BS;obtain⟨fD,fL,rP⟩:=bin b (eH ef);have cQ:∀{c:Addr}{v:aZ},a_ c=some (.tup v)->c∉A.ls:=λ{c v}e z=>by obtain⟨ts,aD⟩:=Qw g6.lX _ z;rw[e]at aD;cases aD
   have a5:(fG ds s).take (j+1)=(fG ds s).take j++[b]:=by rw[pk,ef];rfl
   have oC:=iG _ _ (mj g6.ins zT);have aoN:=iG _ _ (mj g6.dh E4);have Ė:aN aY (mask a_ A.ls):=λb o e=>mj (g6.b' _ _ e) λz=>by rw[ang b z]at e;cases e
   refine⟨_,rfl,x,aw,_,_,_,rfl,oC,cx.cl,cx.nw,rfl,A.dN,A.jJ,_,rfl,aoN,rfl,_,rfl,mask a_ A.ls,A.dN,A.n,A.g,A.bo,A.bt,A.bu,hG,d2 s.a7,A.ls,A.rs,_,hs,ds,b,rfl,iG,⟨⟨_,mj g6.dh E4⟩,mj g6.lY g3,mj g6.ws sy⟩,eZ,Q3,(λl aj=>El aj),D.hp.same Ė,D.lV.same Ė,⟨c,mj jr (cQ jr),mj h1 (cQ h1)⟩,fD,fL,?_,?_,λH' s' cm=>⟨_,rfl,s',?_⟩⟩
   .intro i ar;rw[I4];exact rP i ar
   .intro ss k6;have:=VQ O (Xf j (fG ds s)) ss k6;omega
   .rw[a5,ţ];exact cm
  .rintro σ gr ⟨v4,rfl,iG,eZ⟩;rw[eI,ape,pn]at eZ;have oC:=iG _ _ (mj g6.ins zT);have qT:=iG _ _ (mj g6.dk aB);have Hg:=iG _ _ (mj N5 QH);have auq:=gM D.sp;have wJ:=O.wJ;refine⟨_,rfl,x,aw,_,_,_,rfl,oC,cx.cl,cx.ns,rfl,.inl ⟨rfl,_,aJ.of qT⟩,_,rfl,A.dk,fC,_,_,rfl,rfl,qT,Hg,?_,?_⟩
   .rw[eI,eI];exact eQ (show _<=10000 by omega) (by decide)
   rw[show aC A.fF++aC i4=aC (A.fF++i4) by unfold aC;rw[eU]];have k1:∀b o,b≠A.dk->gr b=some o->upd gr A.dk (.lst (aC (A.fF++i4))) b=some o:=λb o nb e=>(aA nb).trans e;have pJ:upd gr A.dk (.lst (aC (A.fF++i4))) A.dk=some (.lst (aC (A.fF++i4))):=aP;dsimp only;generalize upd gr A.dk (.lst (aC (A.fF++i4)))=n8 at k1 pJ⊢;have É:=k1 _ _ Fg oC;refine⟨_,rfl,x,aw,_,_,_,rfl,É,cx.cl,cx.np,rfl,_,_,rfl,rfl,_,rfl,x,aw,A.ah,_,rfl,É,cx.cl,cx.np,(by show 7<1000;decide),_,rfl,?_⟩;have jc:∀b o,b∉[x,A.dk]->gr b=some o->upd n8 x (.ins aw A.ah (sv A.n A.pl A.y A.cY A.dN A.dk (s.pr+1))) b=some o:=λb o nb e=>by simp only[c',dX,or_false,not_or]at nb;exact(aA nb.1).trans (k1 _ _ nb.2 e)
   have q0:∀{b o},b≠x->b≠A.dk->b∉A.ls->a_ b=some o->upd n8 x (.ins aw A.ah (sv A.n A.pl A.y A.cY A.dN A.dk (s.pr+1))) b=some o:=λ{b o}dp dq oH e=>jc b o (by simp[dp,dq]) (iG _ _ (mj e oH));have cQ:∀{c:Addr}{v:aZ},a_ c=some (.tup v)->c∉A.ls:=λ{c v}e z=>by obtain⟨ts,aD⟩:=Qw g6.lX _ z;rw[e]at aD;cases aD
   have kt:∀b v,a_ b=some (.tup v)->upd n8 x (.ins aw A.ah (sv A.n A.pl A.y A.cY A.dN A.dk (s.pr+1))) b=some (.tup v):=λb v e=>q0 (ao.h4 e g6.ins (by intro z;cases z)) (ao.h4 e g6.dk (by intro z;cases z)) (cQ e) e;have zo:=s1.trans (s2.trans s3);have aq0:=s1.trans s2;have apz:H fC=none:=by
    cases e:H fC with
    |none=>rfl
    |some o=>rw[aq0 _ _ e]at nW;cases nW
   obtain⟨hV,Pj⟩:=g6.lZ;have old:∀{b o},a_ b=some o->ag b=some o->b≠fC:=λ{b o}_ e z=>by rw[z,nW]at e;cases e
   obtain⟨atU,aoQ⟩:=Db.lZ;have QP:fC∉A.bH x:=λz=>by
    unfold d4.bH at z;simp only[c']at z;rcases z with h|h|h|h|h|h|h|h|h|h
    .exact bZ Db.ins nW h.symm
    .exact bZ Db.po nW h.symm
    .exact bZ aoQ nW h.symm
    .exact bZ Db.n3 nW h.symm
    .exact bZ Db.cY nW h.symm
    .exact bZ Db.dh nW h.symm
    .exact bZ Db.lY nW h.symm
    .exact bZ Db.ws nW h.symm
    .exact bZ Db.dk nW h.symm
    .exact QH h
   have apB:fC≠x:=λz=>QP (by unfold d4.bH;simp[z]);have apA:fC≠A.dk:=λz=>QP (by unfold d4.bH;simp[z]);have aqu:∀{l ho:bS}{m cV:l9}{F:Addr->kK×List Nat->Prop},bf F l m->bf F ho cV->bf F (l++ho) (m++cV):=λ{l ho m cV F}p hL=>by
    induction p with
    |nil=>exact hL
    |cons r t a6=>exact .cons r a6
   refine q _ {A with fF:=A.fF++i4} fC i4 ⟨λb o nb e=>?_,λb U=>.inl U⟩ ⟨λb o e=>?_,D.hp,D.lV,aP,q0 (cR e0) ā ze g6.po,bf.eE g6.pt λ_ _ e=>kt _ _ e,⟨hV,q0 (cR h5) xa Ul Pj⟩,q0 (cR o_) SK wO g6.n3,q0 (cR pa) sl D_ g6.cY,q0 (cR zS) hN E4 g6.dh,q0 (cR Ff) g2 g3 g6.lY,q0 (cR w') I6 sy g6.ws,Th jc ?_ eZ ?_,(aA (cR Fg)).trans pJ,aqu (bf.eE g6.sp λ_ _⟨c,af,ai⟩=>⟨c,kt _ _ af,kt _ _ ai⟩) (bf.eE vi λ_ _⟨c,af,ai⟩=>⟨c,kt _ _ af,kt _ _ ai⟩),D.aG,D.fr⟩ apz QP (jc _ _ (by simp[apB,apA]) Hg) (bf.eE vi λ_ _⟨c,af,ai⟩=>⟨c,kt _ _ af,kt _ _ ai⟩)
   .unfold d4.bH at nb;simp only[c',not_or]at nb;exact q0 nb.1 nb.2.2.2.2.2.2.2.2.1 nb.2.2.2.2.2.2.2.2.2 (zo _ _ e)
   .have f0:∀c∈A.bH x,b≠c:=λc ay z=>by rw[z,D.fr c ay]at e;cases e
    exact q0 (f0 x (by unfold d4.bH;simp)) (f0 A.dk (by unfold d4.bH;simp)) (λz=>f0 b (by unfold d4.bH;simp[z]) rfl) (g6.b' _ _ e)
   .intro b U v e;simp only[c',dX,or_false]at U;rcases U with rfl|rfl
    .rw[oC]at e;cases e
    .rw[qT]at e;cases e
   .intro l aj z;simp only[c',dX,or_false]at z;rcases z with rfl|rfl
    .exact zT aj
    .exact aB aj
theorem acv(ss:List Step):∀l:List Step,l=[]/\oL (ss++l)=oL ss\/∃st∈l,oL (ss++l)=st:=λl=>by
 rcases List.eq_nil_or_concat l with rfl|⟨i,st,rfl⟩
 .exact .inl ⟨rfl,by rw[l4]⟩
 .refine .inr ⟨st,by simp,?_⟩;rw[List.concat_eq_append,<-acP];exact ņ _ _
theorem aep{hs:bc}{ds:bT}(R:∀d∈ds,d.Ok hs.length){r:Nat}(h:r<ds.length):o6 hs ds r∈hs.map S:=by
 unfold o6;have e:ds.getD r oW∈ds:=by rw[eL,dv h];exact qf h
 have U:=(R _ e).b;refine b4.mpr ⟨hs.getD (ds.getD r oW).b [],?_,rfl⟩;rw[eL,dv U];exact qf U
theorem iW.pass{hs:bc}{ds:bT}{k:Nat}{s:cG}(R:∀d∈ds,d.Ok hs.length)(O:iW hs ds k s):iW hs ds (k+1) (oM hs ds s):=by
 have hl:∀ss∈nK hs ds (fG ds s) s.aE,∃s0∈s.aE,∃bs:List (kK×List Nat),(∀b∈bs,b∈fG ds s)/\ss=s0++bs.map λb=>stepK hs ds b.1:=λss k6=>by obtain⟨i,ar⟩:=acZ.mp k6;rw[TZ]at ar;obtain⟨s0,cJ,rfl⟩:=fJ.mp ar;exact⟨s0,eH cJ,_,λb U=>(gJ.mp U).1,rfl⟩
 refine⟨(I4 _ _ _ _).trans O.len,O.pU,O.BK,O.lets,O.tab,λss k6=>?_,λss k6=>?_,λss k6=>?_,?_⟩
 .obtain⟨s0,h0,bs,_,rfl⟩:=hl ss k6;intro z;exact O.ne s0 h0 (List.append_eq_nil_iff.mp z).1
 .obtain⟨s0,h0,bs,U,rfl⟩:=hl ss k6;rcases acv s0 (bs.map λb=>stepK hs ds b.1)with⟨_,e⟩|⟨st,k7,e⟩
  .rw[e];exact O.qR s0 h0
  .obtain⟨b,de,rfl⟩:=b4.mp k7;rw[e];have:=U b de;unfold fG m5 at this;obtain⟨r,aq,nY⟩:=b4.mp (gJ.mp this).1;subst nY;unfold ml at aq;exact aep R (lz.mp (gJ.mp aq).1)
 .exact VQ O (List.Sublist.refl _) ss k6
 .show(s.hq++fG ds s).length<=_;rw[hi];have af:=O.wJ;have ai:(fG ds s).length<=40:=by unfold fG m5 ml;refine eQ (jl _ _) ?_;rw[bp];refine eQ (jl _ _) ?_;rw[jz];exact O.BK
  omega
theorem iW.post{hs:bc}{ds:bT}{k:Nat}{s:cG}(O:iW hs ds k s){h g:Str}(dm:h∈hs.map S)(bP:g∈hs.map S)(l:s.a7.length+1<=40):iW hs ds k (nT s h g):=by
 have mem:∀ss∈s.aE++[zF (h,s.pr,g)],ss∈s.aE\/ss=zF (h,s.pr,g):=λss r5=>by
  rcases hj.mp r5 with z|z
  .exact .inl z
  .exact .inr (hr.mp z)
 refine⟨?_,?_,O.BK,λd hd=>?_,O.tab,λss k6=>?_,λss k6=>?_,λss k6=>?_,O.wJ⟩
 .show(s.aE++[_]).length=(s.a7++[_]).length;rw[hi,hi,O.len];rfl
 .show(s.a7++[_]).length<=40;rw[hi];exact l
 .rcases hj.mp hd with z|z
  .exact O.lets d z
  .rw[hr.mp z];exact⟨dm,bP⟩
 .rcases mem ss k6 with z|rfl
  .exact O.ne ss z
  .unfold zF;simp
 .rcases mem ss k6 with z|rfl
  .exact O.qR ss z
  .exact dm
 .rcases mem ss k6 with z|rfl
  .exact O.eh ss z
  .show 1<=k+1;omega
end
theorem JC{hs:bc}{h g:Str}{t:Int}:hS (bR hs) (gH (h,t,g))=true↔h∈hs.map S/\g∈hs.map S/\h≠g/\0<=t/\t<=1000000000:=by
 show(hy (bR hs) (.str h) (.str g)&&Ej 0 1000000000 (.int t))=true↔_;rw[jx];have w:Ej 0 1000000000 (.int t)=(decide (0<=t)&&decide (t<=1000000000)):=rfl;rw[w,jx,decide_eq_true_eq,decide_eq_true_eq];constructor
 .rintro⟨u,t0,t1⟩;unfold hy at u;rw[jx,jx]at u;refine⟨?_,?_,?_,t0,t1⟩
  .by_cases z:h∈hs.map S
   .exact z
   .rw[JM z]at u;cases u.1.1
  .by_cases z:g∈hs.map S
   .exact z
   .rw[JM z]at u;cases u.1.2
  .rintro rfl;have:=u.2;simp[ht]at this
 .rintro⟨a,b,c,t0,t1⟩;exact⟨Jt a b c,t0,t1⟩
structure lL(hs:bc)(s:cG):Prop where
 is:∀d∈s.a7,hS (bR hs) (gH d)=true
 lo:∀d∈s.a7,∀fc,s.a7.head?=some fc->fc.2.1<=d.2.1
 ar:∀d∈s.a7,d.2.1<=s.pr
theorem aeq{hs:bc}{s:cG}(iw:lL hs s){h g:Str}(b:hS (bR hs) (gH (h,s.pr,g))=false):lH (bR hs) ((s.a7++[(h,s.pr,g)]).map gH)=some s.a7.length:=by
 refine Ry (λj bL d dY=>?_) ⟨gH (h,s.pr,g),?_,b⟩
 .rw[c9,acU bL]at dY;obtain⟨e,he,rfl⟩:=fJ.mp dY;exact iw.is e (eH he)
 .rw[c9,W' (cq _),adM];rfl
theorem VR{hs:bc}{s:cG}(iw:lL hs s){h g:Str}(b:hS (bR hs) (gH (h,s.pr,g))=true):lH (bR hs) ((s.a7++[(h,s.pr,g)]).map gH)=none:=by
 refine HR.mp λd hd=>?_;obtain⟨e,he,rfl⟩:=b4.mp hd;rcases hj.mp he with z|z
 .exact iw.is e z
 .rw[hr.mp z];exact b
theorem Ň{hs:bc}{s:cG}(iw:lL hs s)(h g:Str):zL (((s.a7++[(h,s.pr,g)]).map gH).map nS)=s.pr-((s.a7.head?.map λd=>d.2.1).getD s.pr):=by
 have e:((s.a7++[(h,s.pr,g)]).map gH).map nS=(s.a7++[(h,s.pr,g)]).map λd=>d.2.1:=by rw[jA];rfl
 rw[e];have ne:(s.a7++[(h,s.pr,g)]).map (λd=>d.2.1)≠[]:=by simp
 unfold zL;rw[bE ne];obtain⟨gW,la⟩:=ahQ ne;obtain⟨dp,dq⟩:=XI ne;have q5:uy ((s.a7++[(h,s.pr,g)]).map λd=>d.2.1)=s.pr:=by
  have a1:=la s.pr (b4.mpr ⟨(h,s.pr,g),by simp,rfl⟩);obtain⟨d,hd,aB⟩:=b4.mp gW;rcases hj.mp hd with z|z
  .have:=iw.ar d z;omega
  .rw[hr.mp z]at aB;exact aB.symm
 rw[q5];cases aj:s.a7 with
 |nil=>
  rw[aj]at dp;obtain⟨d,hd,aB⟩:=b4.mp dp;have:d=(h,s.pr,g):=by simpa using hd
  rw[this]at aB;simp only[List.head?_nil,Option.map_none,XJ];have aB:s.pr=oK ((([]:nx)++[(h,s.pr,g)]).map λd=>d.2.1):=aB;rw[<-aB]
 |cons fc r=>
  rw[aj]at dp dq;have fD:=dq fc.2.1 (b4.mpr ⟨fc,by simp,rfl⟩);obtain⟨d,hd,aB⟩:=b4.mp dp;have fL:fc.2.1<=d.2.1:=by
   rcases hj.mp hd with z|z
   .exact iw.lo d (by rw[aj];exact z) fc (by rw[aj];rfl)
   .rw[hr.mp z];exact iw.ar fc (by rw[aj];exact .head _)
  simp only[List.head?_cons,F5,Option.getD_some];omega
theorem lL.pass{hs:bc}{ds:bT}{s:cG}(iw:lL hs s):lL hs (oM hs ds s):=⟨iw.is,iw.lo,λd hd=>by have:=iw.ar d hd;show d.2.1<=s.pr+1;omega⟩
theorem lL.post{hs:bc}{s:cG}(iw:lL hs s){h g:Str}(b:hS (bR hs) (gH (h,s.pr,g))=true):lL hs (nT s h g):=by
 have mem:∀d∈s.a7++[(h,s.pr,g)],d∈s.a7\/d=(h,s.pr,g):=λd hd=>by
  rcases hj.mp hd with z|z
  .exact .inl z
  .exact .inr (hr.mp z)
 refine⟨λd hd=>?_,λd hd fc cJ=>?_,λd hd=>?_⟩
 .rcases mem d hd with z|rfl
  .exact iw.is d z
  .exact b
 .have cJ:(s.a7++[(h,s.pr,g)]).head?=some fc:=cJ;cases aj:s.a7 with
  |nil=>
   rw[aj]at cJ;cases cJ;rcases mem d hd with z|rfl
   .rw[aj]at z;cases z
   .exact sU _
  |cons c r=>
   rw[aj]at cJ;cases cJ;rcases mem d hd with z|rfl
   .exact iw.lo d z fc (by rw[aj];rfl)
   .exact iw.ar fc (by rw[aj];exact .head _)
 .rcases mem d hd with z|rfl
  .exact iw.ar d z
  .exact sU _
inductive ai9(C az cT:Addr)(vs:aZ)(H:ae)(Q:ba)(E:b6):Prop where
 |mk (x n t bt bu:Addr) (hs:bc) (ys:aZ) (kvs:er) (h g:Str) (bV:vs=[.ref x,.str h,.str g]) (bA:pQ C az H x n t bt bu (cK hs) ys kvs) (cn:Good hs) (di:dw H (.str h) (.str h)) (d8:dw H (.str g) (.str g)) (fI:(hy (bR hs) (.str h) (.str g)=true->∀H',aN H H'->Q .bq (upd H' t (.c3 (o4 kvs (fm h g)))))) (iM:(hy (bR hs) (.str h) (.str g)=false->∀H',aN H H'->E (.ref cT) none H'))
noncomputable def LN(C az cT:Addr):cM:=λvs H Q E=>ai9 C az cT vs H Q E
section
variable{P:bO}{w:bx}{K:aV}{mg:cI}{base:Heap}
noncomputable abbrev Ex:Stmt:=gU (top 38) 2
theorem ajs:dB ["self","house","goal"] ["self","house","goal"] (c7 Ex):=⟨rfl,rfl,rfl,by decide+kernel,rfl,by decide+kernel,by decide+kernel⟩
theorem aja{C az cT f f2:Addr}{fd ec:cF}(F:bB K "drop_way" "Ways.drop_way" Ex f fd)(dj:rb K C)(oj:c6 K C "need_pair" "Ways.need_pair" wG ["self","house","goal"] f2 ec)(rQ:aL P w K mg base (ed P w) 2 f2 ec ["self","house","goal"] (A9 C az cT)):
  aL P w K mg base (ed P w) 3 f fd ["self","house","goal"] (LN C az cT):=by
 have jZ:=dj.cl;refine oR F ajs (λvs H Q E h=>?_) (λcdv A outer s H vs Q E aq h=>?_)
 .obtain⟨x,n,t,bt,bu,hs,ys,kvs,h',g',rfl,_⟩:=h;rfl
 .obtain⟨x,n,t,bt,bu,hs,ys,kvs,h',g',rfl,W,G,bz,b7,q,iD⟩:=h;obtain⟨ah,av⟩:=W.ins;refine⟨_,(bh (gQ (g_ (aa 0) jZ oj.eo rQ (aq.mono (by decide)) oj.bd .nil qY (ak (aa 1) (ak (aa 2) aI))))
   (br (gQ (Vz (iV aq) (e2 (aa 0) (by rfl)) (i8 (ak (aa 1) (ak (aa 2) aI))) kU ⟨rfl,rfl,rfl,rfl⟩)))),?_⟩
  refine⟨_,rfl,x,ah,_,rfl,av,rfl,_,rfl,_,rfl,x,n,t,bt,bu,hs,_,kvs,.str h',.str g',.str h',.str g',rfl,W,G,bz,b7,(by show 0<=60;decide),(by show 0<=60;decide),λay H1 s1=>?_,iD⟩;refine⟨_,rfl,x,C,ah,_,_,rfl,s1 _ _ av,dj.cl,dj.cQ,rfl,t,rfl,.inr ⟨_,.inl (s1 _ _ W.told)⟩,_,rfl,_,rfl,(by show 2<=sizeLine;decide),λr jt=>?_⟩;have s3:=bW (o:=.tup [V.str h',V.str g']) jt;exact⟨kvs,fm h' g',r,rfl,s3 _ _ (s1 _ _ W.told),aP,q ay _ (s1.trans s3)⟩
noncomputable def YX(s:cG)(h g:Str)(i:Int):cG:={s with kvs:=d7 s.kvs (fm h g) (.int i)}
noncomputable def Yx(s:cG)(h g:Str):cG:={s with kvs:=o4 s.kvs (fm h g)}
noncomputable def w5(l:dI)(r:Nat):List Nat:=if r∈l then l else l++[r]
noncomputable def Al(s:cG)(r:Nat):cG:={s with eA:=w5 s.eA r}
noncomputable def we(s:cG)(r:Nat):cG:={s with eA:=s.eA.filter λk=>decide (k≠r)}
theorem VS(l:dI)(r:Nat):d7 (iq l) (e7 (r:Int)) (.aM true)=iq (w5 l r):=by
 unfold d7 w5;have aK:((iq l).any λcf=>decide (cf.1=(e7 (r:Int):a')))=decide (r∈l):=by
  unfold iq;rw[List.any_map,z_,qe,decide_eq_true_iff];constructor
  .rintro⟨k,aX,e⟩;have e:=ju e;have e:(k:Int)=(r:Int):=Bw e;rw[<-KN e];exact aX
  .exactλh=>⟨r,h,cu rfl⟩
 rw[aK];by_cases h:r∈l
 .rw[bM (cu h),bM h];unfold iq;rw[jA];refine A4 λk _=>?_;show(if(e7 (k:Int):a')=e7 (r:Int)then((e7 (k:Int):a'),V.aM true)else(e7 (k:Int),V.aM true))=_;split<;>rfl
 .rw[bE (by simp[h]),bE h];unfold iq;rw[eU];rfl
theorem Ŧ(l:dI)(r:Nat):uC (iq l) (e7 (r:Int))=iq (l.filter λk=>decide (k≠r)):=by
 unfold uC iq;rw[AZ];congr 1;refine W8 λk _=>?_;show decide ((e7 (k:Int):a')≠e7 (r:Int))=decide (k≠r);by_cases e:k=r
 .subst e;rw[dJ (by simp),dJ (by simp)]
 .rw[cu e,cu (show(e7 (k:Int):a')≠e7 (r:Int) fromλz=>e (KN (Bw z)))]
theorem ŧ(l:dI)(r:Nat)(h:b1 (iq l) (e7 (r:Int):a')=none):(l.filter λk=>decide (k≠r))=l:=by have:=J1 l r;rw[h]at this;have aT:r∉l:=ju this.symm;exact KZ.mpr λk aX=>cu λz=>aT (z▸aX)
end
section
variable{P:bO}{w:bx}{K:aV}{mg:cI}{base:Heap}{aw C aS az:Addr}{aY H:ae}{x:Addr}{A:d4}{hs:bc}{ds:bT}{s:cG}
theorem dS.Ia(D:dS aw C aS az aY H x A hs ds s):A.t∈A.bH x/\A.cY∈A.bH x:=by unfold d4.bH;simp
theorem J2{α β:Type}{F G:α->β->Prop}:∀{xs:List α}{ys:List β},bf F xs ys->(∀x∈xs,∀y,F x y->G x y)->bf G xs ys
 |_,_,.nil,_=>.nil
 |_,_,.cons h r,k=>.cons (k _ (by simp) _ h) (J2 r λx av=>k x (by simp[av]))
theorem dS.IL(D:dS aw C aS az aY H x A hs ds s){H':ae}(aH:aN H H')(kvs:er):dS aw C aS az aY (upd H' A.t (.c3 kvs)) x A hs ds {s with kvs:=kvs}/\gK (A.bH x) (A.bH x) H (upd H' A.t (.c3 kvs)):=by
 have cA:=D.same aH;have cQ:∀{b v},H' b=some (.tup v)->b≠A.t:=λ{b v}e z=>by rw[z,cA.n3]at e;cases e
 have aG:=D.aG;unfold d4.bH at aG;simp only[iP,c',not_or]at aG;obtain⟨⟨_,_,dp,_⟩,⟨_,dq,_⟩,⟨oH,_⟩,⟨QE,y6,QF,pV,QG,t4⟩,_⟩:=aG;obtain⟨hV,cS⟩:=cA.lZ;refine⟨⟨λb o e=>?_,D.hp,D.lV,?_,?_,bf.eE cA.pt λa v e=>?_,⟨hV,?_⟩,aP,?_,?_,?_,?_,?_,?_,bf.eE cA.sp λa v e=>?_,D.aG,D.fr⟩,⟨λb o nb e=>?_,λb U=>.inl U⟩⟩
 .rw[aA (λz=>by rw[z,D.fr _ D.Ia.1]at e;cases e)];exact cA.b' _ _ e
 .rw[aA dp];exact cA.ins
 .rw[aA dq];exact cA.po
 .rw[aA (cQ e)];exact e
 .rw[aA oH];exact cS
 .rw[aA (cR QE)];exact cA.cY
 .rw[aA (cR y6)];exact cA.dh
 .rw[aA (cR QF)];exact cA.lY
 .rw[aA (cR pV)];exact cA.ws
 .exact J2 cA.lX λl aj ss⟨ts,aB,aD⟩=>⟨ts,by rw[aA (λz=>t4 (by rw[<-z];exact aj))];exact aB,bf.eE aD λa v e=>by rw[aA (cQ e)];exact e⟩
 .rw[aA (cR QG)];exact cA.dk
 .obtain⟨c,aB,aD⟩:=e;exact⟨c,by rw[aA (cQ aB)];exact aB,by rw[aA (cQ aD)];exact aD⟩
 .rw[aA (λz=>nb (by rw[z];exact D.Ia.1))];exact aH _ _ e
theorem dS.Ą(D:dS aw C aS az aY H x A hs ds s){H':ae}(aH:aN H H')(l:dI):dS aw C aS az aY (upd H' A.cY (.b0 (iq l))) x A hs ds {s with eA:=l}/\gK (A.bH x) (A.bH x) H (upd H' A.cY (.b0 (iq l))):=by
 have cA:=D.same aH;have cQ:∀{b v},H' b=some (.tup v)->b≠A.cY:=λ{b v}e z=>by rw[z,cA.cY]at e;cases e
 have aG:=D.aG;unfold d4.bH at aG;simp only[iP,c',not_or]at aG;obtain⟨⟨_,_,_,dp,_⟩,⟨_,_,dq,_⟩,⟨_,oH,_⟩,⟨QE,_⟩,⟨y6,QF,pV,QG,t4⟩,_⟩:=aG;obtain⟨hV,cS⟩:=cA.lZ;refine⟨⟨λb o e=>?_,D.hp,D.lV,?_,?_,bf.eE cA.pt λa v e=>?_,⟨hV,?_⟩,?_,aP,?_,?_,?_,?_,?_,bf.eE cA.sp λa v e=>?_,D.aG,D.fr⟩,⟨λb o nb e=>?_,λb U=>.inl U⟩⟩
 .rw[aA (λz=>by rw[z,D.fr _ D.Ia.2]at e;cases e)];exact cA.b' _ _ e
 .rw[aA dp];exact cA.ins
 .rw[aA dq];exact cA.po
 .rw[aA (cQ e)];exact e
 .rw[aA oH];exact cS
 .rw[aA QE];exact cA.n3
 .rw[aA (cR y6)];exact cA.dh
 .rw[aA (cR QF)];exact cA.lY
 .rw[aA (cR pV)];exact cA.ws
 .exact J2 cA.lX λl aj ss⟨ts,aB,aD⟩=>⟨ts,by rw[aA (λz=>t4 (by rw[<-z];exact aj))];exact aB,bf.eE aD λa v e=>by rw[aA (cQ e)];exact e⟩
 .rw[aA (cR QG)];exact cA.dk
 .obtain⟨c,aB,aD⟩:=e;exact⟨c,by rw[aA (cQ aB)];exact aB,by rw[aA (cQ aD)];exact aD⟩
 .rw[aA (λz=>nb (by rw[z];exact D.Ia.2))];exact aH _ _ e
end
section
variable{P:bO}{w:bx}{K:aV}{mg:cI}{base:Heap}
inductive ah0(aw C aS az cT dy:Addr)(vs:aZ)(H:ae)(Q:ba)(E:b6):Prop where
 |mk (aY:ae) (x:Addr) (A:d4) (hs:bc) (ds:bT) (s:cG) (h g:Str) (i:Int) (bV:vs=[.ref x,.str h,.str g,.int i]) (bA:dS aw C aS az aY H x A hs ds s) (cn:Good hs) (di:A.rs.length<=40) (d8:∀H,dw H (.str h) (.str h)) (fI:∀H,dw H (.str g) (.str g)) (iM:s.kvs.length<sizeLine)
   (lx:hy (bR hs) (.str h) (.str g)=true->i∈iI hs ds (·.a) h->∀H',gK (A.bH x) (A.bH x) H H'->dS aw C aS az aY H' x A hs ds (YX s h g i)->Q .bq H') (nh:hy (bR hs) (.str h) (.str g)=false->∀H',aN H H'->E (.ref cT) none H') (rz:hy (bR hs) (.str h) (.str g)=true->i∉iI hs ds (·.a) h->∀H',aN H H'->E (.ref dy) none H')
noncomputable def FU(aw C aS az cT dy:Addr):cM:=λvs H Q E=>ah0 aw C aS az cT dy vs H Q E
noncomputable abbrev xX:Stmt:=gU (top 42) 3
theorem ajb:dB ["self","house","goal","road"] ["self","house","goal","road"] (c7 xX):=⟨rfl,rfl,rfl,by decide+kernel,rfl,by decide+kernel,by decide+kernel⟩
theorem ah1{aw C aS az cT dy f f1:Addr}{fd c4:cF}(F:bB K "set_way" "Day.set_way" xX f fd)(cx:o7 K aw)(jZ:fB K aS)(tk:c6 K aS "set_way" "Ways.set_way" zt ["self","house","goal","road"] f1 c4)(yo:aL P w K mg base (ed P w) 3 f1 c4 ["self","house","goal","road"] (Gg aS az cT dy)):
  aL P w K mg base (ed P w) 4 f fd ["self","house","goal","road"] (FU aw C aS az cT dy):=by
 refine oR F ajb (λvs H Q E h=>?_) (λcdv rC outer s0 H vs Q E aq h=>?_)
 .obtain⟨aY,x,A,hs,ds,s,h',g',i,rfl,_⟩:=h;rfl
 .obtain⟨aY,x,A,hs,ds,s,h',g',i,rfl,D,G,eh,oZ,dA,lN,q,R0,aqJ⟩:=h;refine⟨_,(br (gQ (g_ (e2 (aa 0) (by rfl)) jZ tk.eo yo (aq.mono (by decide)) tk.bd .nil qY (ak (aa 1) (ak (aa 2) (ak (aa 3) aI)))))),?_⟩;obtain⟨hV,cS⟩:=D.lZ;exact⟨_,rfl,x,aw,_,_,_,rfl,D.ins,cx.cl,cx.ud,rfl,A.y,hV,_,rfl,cS,rfl,_,rfl,_,rfl,_,rfl,A.y,A.n,A.t,A.bt,A.bu,hs,A.rs,ds,s.kvs,h',g',i,rfl,D.T1,G,D.lV.same D.b',eh,oZ _,dA _,lN,λu m H' aH=>q u m _ (D.IL aH _).2 (D.IL aH _).1,R0,aqJ⟩
inductive XT(aw C aS az cT:Addr)(vs:aZ)(H:ae)(Q:ba)(E:b6):Prop where
 |mk (aY:ae) (x:Addr) (A:d4) (hs:bc) (ds:bT) (s:cG) (h g:Str) (bV:vs=[.ref x,.str h,.str g]) (bA:dS aw C aS az aY H x A hs ds s) (cn:Good hs) (d8:∀H,dw H (.str h) (.str h)) (fI:∀H,dw H (.str g) (.str g))
   (lx:hy (bR hs) (.str h) (.str g)=true->∀H',gK (A.bH x) (A.bH x) H H'->dS aw C aS az aY H' x A hs ds (Yx s h g)->Q .bq H') (nh:hy (bR hs) (.str h) (.str g)=false->∀H',aN H H'->E (.ref cT) none H')
noncomputable def FV(aw C aS az cT:Addr):cM:=λvs H Q E=>XT aw C aS az cT vs H Q E
noncomputable abbrev xY:Stmt:=gU (top 42) 4
theorem ajc:dB ["self","house","goal"] ["self","house","goal"] (c7 xY):=⟨rfl,rfl,rfl,by decide+kernel,rfl,by decide+kernel,by decide+kernel⟩
theorem ah2{aw C aS az cT f f1:Addr}{fd c4:cF}(F:bB K "drop_way" "Day.drop_way" xY f fd)(cx:o7 K aw)(jZ:fB K aS)(HL:c6 K aS "drop_way" "Ways.drop_way" Ex ["self","house","goal"] f1 c4)(arP:aL P w K mg base (ed P w) 3 f1 c4 ["self","house","goal"] (LN aS az cT)):
  aL P w K mg base (ed P w) 4 f fd ["self","house","goal"] (FV aw C aS az cT):=by
 refine oR F ajc (λvs H Q E h=>?_) (λcdv rC outer s0 H vs Q E aq h=>?_)
 .obtain⟨aY,x,A,hs,ds,s,h',g',rfl,_⟩:=h;rfl
 .obtain⟨aY,x,A,hs,ds,s,h',g',rfl,D,G,oZ,dA,q,R0⟩:=h;refine⟨_,(br (gQ (g_ (e2 (aa 0) (by rfl)) jZ HL.eo arP (aq.mono (by decide)) HL.bd .nil qY (ak (aa 1) (ak (aa 2) aI))))),?_⟩;obtain⟨hV,cS⟩:=D.lZ;exact⟨_,rfl,x,aw,_,_,_,rfl,D.ins,cx.cl,cx.ud,rfl,A.y,hV,_,rfl,cS,rfl,_,rfl,_,rfl,A.y,A.n,A.t,A.bt,A.bu,hs,_,s.kvs,h',g',rfl,D.T1,G,oZ _,dA _,λu H' aH=>q u _ (D.IL aH _).2 (D.IL aH _).1,R0⟩
inductive ajd(aw C aS az dy:Addr)(vs:aZ)(H:ae)(Q:ba)(E:b6):Prop where
 |mk (aY:ae) (x:Addr) (A:d4) (hs:bc) (ds:bT) (s:cG) (i:Int) (bV:vs=[.ref x,.int i]) (bA:dS aw C aS az aY H x A hs ds s) (cn:0<=i/\i<ds.length->Q .bq H) (di:¬(0<=i/\i<ds.length)->∀H',aN H H'->E (.ref dy) none H')
noncomputable def Gn(aw C aS az dy:Addr):cM:=λvs H Q E=>ajd aw C aS az dy vs H Q E
noncomputable abbrev zr:Stmt:=gU (top 42) 11
theorem ajt:dB ["self","number"] ["self","number"] (c7 zr):=⟨rfl,rfl,rfl,by decide+kernel,rfl,by decide+kernel,by decide+kernel⟩
theorem aje{aw C aS az dy f f1:Addr}{fd c4:cF}(F:bB K "need_road" "Day.need_road" zr f fd)(cx:o7 K aw)(hH:fB K az)(ou:c6 K az "road" "Net.road" uh ["self","number"] f1 c4)(Dn:aL P w K mg base (ed P w) 1 f1 c4 ["self","number"] (U0 az dy)):
  aL P w K mg base (ed P w) 2 f fd ["self","number"] (Gn aw C aS az dy):=by
 refine oR F ajt (λvs H Q E h=>?_) (λcdv rC outer s0 H vs Q E aq h=>?_)
 .obtain⟨aY,x,A,hs,ds,s,i,rfl,_⟩:=h;rfl
 .obtain⟨aY,x,A,hs,ds,s,i,rfl,D,q,iD⟩:=h;refine⟨_,(br (gQ (g_ (e2 (aa 0) (by rfl)) hH ou.eo Dn (aq.mono (by decide)) ou.bd .nil qY (ak (aa 1) aI)))),?_⟩;have hp:=D.hp.same D.b';obtain⟨iS,aT⟩:=hp.ins;have aB:((aC A.rs).length:Int)=ds.length:=by rw[eI,D.lV.len]
  refine⟨_,rfl,x,aw,_,_,_,rfl,D.ins,cx.cl,cx.nn,rfl,A.n,iS,_,rfl,aT,rfl,_,rfl,A.n,A.bt,A.bu,_,_,i,rfl,hp,λar=>?_,λar=>iD (λz=>ar (by rw[aB];exact z)) H (aN.refl _)⟩;rw[aB]at ar;obtain⟨v,bz⟩:∃v,ao.hx (aC A.rs) i=some v:=by
   have ai:i.toNat < (aC A.rs).length:=by omega
   refine⟨(aC A.rs)[i.toNat],?_⟩;have:=iQ (xs:=aC A.rs) (dv ai)
   rwa [uW ar.1]at this
  exact⟨v,bz,q ar⟩
inductive ah3(aw C aS az dy:Addr)(up:cG->Nat->cG)(vs:aZ)(H:ae)(Q:ba)(E:b6):Prop where
 |mk (aY:ae) (x:Addr) (A:d4) (hs:bc) (ds:bT) (s:cG) (i:Int) (bV:vs=[.ref x,.int i]) (bA:dS aw C aS az aY H x A hs ds s) (d8:s.eA.length<=900) (cn:∀r:Nat,i=r->r<ds.length->∀H',gK (A.bH x) (A.bH x) H H'->dS aw C aS az aY H' x A hs ds (up s r)->Q .bq H') (di:¬(0<=i/\i<ds.length)->∀H',aN H H'->E (.ref dy) none H')
noncomputable def uz(aw C aS az dy:Addr)(up:cG->Nat->cG):cM:=λvs H Q E=>ah3 aw C aS az dy up vs H Q E
noncomputable abbrev zY:Stmt:=gU (top 42) 5
theorem ah4:dB ["self","road"] ["self","road"] (c7 zY):=⟨rfl,rfl,rfl,by decide+kernel,rfl,by decide+kernel,by decide+kernel⟩
theorem agw{aw C aS az dy f f1:Addr}{fd c4:cF}(F:bB K "shut" "Day.shut" zY f fd)(cx:o7 K aw)(tm:c6 K aw "need_road" "Day.need_road" zr ["self","number"] f1 c4)(P4:aL P w K mg base (ed P w) 2 f1 c4 ["self","number"] (Gn aw C aS az dy)):
  aL P w K mg base (ed P w) 3 f fd ["self","road"] (uz aw C aS az dy Al):=by
 have fE:=cx.cl;refine oR F ah4 (λvs H Q E h=>?_) (λcdv rC outer s0 H vs Q E aq h=>?_)
 .obtain⟨aY,x,A,hs,ds,s,i,rfl,_⟩:=h;rfl
 .obtain⟨aY,x,A,hs,ds,s,i,rfl,D,apb,q,iD⟩:=h;refine⟨_,(bh (gQ (g_ (aa 0) fE tm.eo P4 (aq.mono (by decide)) tm.bd .nil qY (ak (aa 1) aI)))
   (br (zi (iV aq) (e2 (aa 0) (by rfl)) (aa 1) hW rfl))),?_⟩
  refine⟨_,rfl,x,A.ah,_,rfl,D.ins,rfl,_,rfl,aY,x,A,hs,ds,s,i,rfl,D,λar=>?_,iD⟩;obtain⟨r,rfl⟩:∃r:Nat,i=(r:Int):=⟨i.toNat,by omega⟩
  have cB:=D.Ą (aN.refl H) (w5 s.eA r);rw[<-VS]at cB;exact⟨_,rfl,x,aw,_,_,_,rfl,D.ins,cx.cl,cx.t8,rfl,_,rfl,A.cY,_,rfl,o3.k (k:=e7 (r:Int)) D.cY (eW (by unfold iq;rw[bp];omega)),q r rfl (by omega) _ cB.2 cB.1⟩
noncomputable abbrev xZ:Stmt:=gU (top 42) 6
theorem ajf:dB ["self","road"] ["self","road"] (c7 xZ):=⟨rfl,rfl,rfl,by decide+kernel,rfl,by decide+kernel,by decide+kernel⟩
theorem ah5{aw C aS az dy f f1:Addr}{fd c4:cF}(F:bB K "reopen" "Day.reopen" xZ f fd)(cx:o7 K aw)(tm:c6 K aw "need_road" "Day.need_road" zr ["self","number"] f1 c4)(P4:aL P w K mg base (ed P w) 2 f1 c4 ["self","number"] (Gn aw C aS az dy)):
  aL P w K mg base (ed P w) 3 f fd ["self","road"] (uz aw C aS az dy we):=by
 have fE:=cx.cl;refine oR F ajf (λvs H Q E h=>?_) (λcdv rC outer s0 H vs Q E aq h=>?_)
 .obtain⟨aY,x,A,hs,ds,s,i,rfl,_⟩:=h;rfl
 .obtain⟨aY,x,A,hs,ds,s,i,rfl,D,apb,q,iD⟩:=h;refine⟨_,(bh (gQ (g_ (aa 0) fE tm.eo P4 (aq.mono (by decide)) tm.bd .nil qY (ak (aa 1) aI)))
   (br (gQ (Vo (e2 (aa 0) (by rfl)) (aa 1) kU ⟨rfl,rfl,rfl,rfl⟩)))),?_⟩
  refine⟨_,rfl,x,A.ah,_,rfl,D.ins,rfl,_,rfl,aY,x,A,hs,ds,s,i,rfl,D,λar=>?_,iD⟩;obtain⟨r,rfl⟩:∃r:Nat,i=(r:Int):=⟨i.toNat,by omega⟩
  have cB:=D.Ą (aN.refl H) (s.eA.filter λk=>decide (k≠r));rw[<-Ŧ]at cB;refine⟨_,rfl,x,aw,_,_,_,rfl,D.ins,cx.cl,cx.t8,rfl,A.cY,rfl,.inl ⟨_,.inl D.cY⟩,_,rfl,_,e7 (r:Int),D.cY,rfl,λv ev=>q r rfl (by omega) _ cB.2 cB.1,λev=>?_⟩;refine q r rfl (by omega) H (gK.refl (aN.refl _)) ?_;have e:we s r=s:=by unfold we;rw[ŧ _ _ ev]
  rw[e];exact D
inductive ah6(aw C aS az:Addr)(vs:aZ)(H:ae)(Q:ba)(E:b6):Prop where
 |mk (aY:ae) (x:Addr) (A:d4) (hs:bc) (ds:bT) (s:cG) (bV:vs=[.ref x]) (bA:dS aw C aS az aY H x A hs ds s) (cn:∀l,H l=none->Q (.ref l) (upd H l (.lst (aC A.fF))))
noncomputable def Am(aw C aS az:Addr):cM:=λvs H Q E=>ah6 aw C aS az vs H Q E
noncomputable abbrev uS:Stmt:=gU (top 42) 8
theorem ajg:dB ["self"] ["self"] (c7 uS):=⟨rfl,rfl,rfl,by decide+kernel,rfl,by decide+kernel,by decide+kernel⟩
theorem ah7{aw C aS az f:Addr}{fd:cF}(F:bB K "log" "Day.log" uS f fd)(B:gp mg)(cx:o7 K aw):aL P w K mg base a8 1 f fd ["self"] (Am aw C aS az):=by
 refine F.ok ajg (λvs H Q E h=>?_) (λcdv A outer s H vs Q E aq h=>?_)
 .obtain⟨aY,x,A,hs,ds,s,rfl,_⟩:=h;rfl
 .obtain⟨aY,x,A,hs,ds,s,rfl,D,q⟩:=h;refine⟨_,(br (c_ (nA vB (by rfl) B.list oD (ak (e2 (aa 0) (by rfl)) aI)))),?_⟩;exact⟨_,rfl,x,aw,_,_,_,rfl,D.ins,cx.cl,cx.ns,rfl,A.dk,_,rfl,.inl (aJ.of D.dk),q⟩
inductive jb where
 |mz (r:Nat)
 |mx (r:Nat)
 |drop (h g:Str)
 |set (h g:Str) (r:Nat)
noncomputable def jb.act(s:cG):jb->cG
 |.mz r=>Al s r
 |.mx r=>we s r
 |.drop h g=>Yx s h g
 |.set h g r=>YX s h g (r:Int)
inductive wx(H:ae)(l:Addr):jb->Prop
 |mz {r:Nat}:H l=some (.lst [.str "shut",.int (r:Int),.bq])->wx H l (.mz r)
 |mx {r:Nat}:H l=some (.lst [.str "reopen",.int (r:Int),.bq])->wx H l (.mx r)
 |drop {h g:Str} {c:Addr}:H l=some (.lst [.str "way",.ref c,.bq,.bq])->H c=some (.tup [.str h,.str g])->wx H l (.drop h g)
 |set {h g:Str} {r:Nat} {c:Addr}:H l=some (.lst [.str "way",.ref c,.int (r:Int),.bq])->H c=some (.tup [.str h,.str g])->wx H l (.set h g r)
inductive q2(hs:bc)(ds:bT):jb->Prop
 |mz {r:Nat}:r<ds.length->q2 hs ds (.mz r)
 |mx {r:Nat}:r<ds.length->q2 hs ds (.mx r)
 |drop {h g:Str}:h∈hs.map S->g∈hs.map S->h≠g->q2 hs ds (.drop h g)
 |set {h g:Str} {r:Nat}:h∈hs.map S->g∈hs.map S->h≠g->r<ds.length->o5 hs ds r=h->q2 hs ds (.set h g r)
theorem dS.live{aw C aS az:Addr}{aY H:ae}{x:Addr}{A:d4}{hs:bc}{ds:bT}{s:cG}(D:dS aw C aS az aY H x A hs ds s){l:Addr}(nl:H l=none):l∉A.bH x:=λU=>by
 obtain⟨hV,cS⟩:=D.lZ;unfold d4.bH at U;simp only[c']at U;rcases U with rfl|rfl|rfl|rfl|rfl|rfl|rfl|rfl|rfl|U
 .rw[D.ins]at nl;cases nl
 .rw[D.po]at nl;cases nl
 .rw[cS]at nl;cases nl
 .rw[D.n3]at nl;cases nl
 .rw[D.cY]at nl;cases nl
 .rw[D.dh]at nl;cases nl
 .rw[D.lY]at nl;cases nl
 .rw[D.ws]at nl;cases nl
 .rw[D.dk]at nl;cases nl
 .obtain⟨i,ar,ey⟩:=mJ U;obtain⟨_,_,ts,af,_⟩:=bf.get D.lX (eM.mpr ⟨ar,ey⟩);rw[af]at nl;cases nl
theorem kA{H:ae}{hs:bc}(G:Good hs){c:Str}(h:c∈hs.map S):dw H (.str c) (.str c):=by obtain⟨x,av,rfl⟩:=b4.mp h;have n:=G.nm x av;exact .str _ (by rw[ra];have:=n.2.1;omega) (IV n)
end
theorem Ũ{hs:bc}{h g:Str}(lP:h∈hs.map S)(mg:g∈hs.map S)(ne:h≠g):hy (bR hs) (.str h) (.str g)=true:=by
 obtain⟨u,b7,rfl⟩:=b4.mp lP;obtain⟨v,bz,rfl⟩:=b4.mp mg;obtain⟨i,ar,rfl⟩:=mJ b7;obtain⟨j,bL,rfl⟩:=mJ bz;have aB:hs.getD i []=hs[i]:=by rw[eL,dv ar];rfl
 have aD:hs.getD j []=hs[j]:=by rw[eL,dv bL];rfl
 have a:=Ur ar;have b:=Ur bL;rw[aB]at a;rw[aD]at b;show(inD _ _&&inD _ _&&!ht _ _)=true;rw[a,b,Uq,dJ ne];rfl
theorem sh{α:Type}(f:α->ao.V){L:List α}(h:0<L.length)(z:Int):∃y,ao.hx (L.map f) (z%((L.map f).length:Int))=some (f y)/\L[(z%(L.length:Int)).toNat]?=some y:=by
 have tX:(L.map f).length=L.length:=bp _;rw[tX];have h0:0<=z%(L.length:Int):=iu _ (by omega);have af:z%(L.length:Int)<(L.length:Int):=l3 _ (by omega);have cP:(z%(L.length:Int)).toNat < L.length:=by omega
 refine⟨L[(z%(L.length:Int)).toNat],?_,dv cP⟩;have e:=iQ (show(L.map f)[(z%(L.length:Int)).toNat]?=some (f L[(z%(L.length:Int)).toNat]) by rw[c9,dv cP];rfl)
 rwa [uW h0]at e
theorem KD{x c m:Int}(h0:0<c)(af:c<m):(x+c)%m≠x%m:=λh=>by have e:=Int.sub_emod (x+c) x m;rw[h,Int.sub_self,Int.zero_emod,show x+c-x=c by omega,WK (by omega) af]at e;omega
theorem gK.new{M mM:bS}{H H':ae}(eK:gK M mM H H'){l:Addr}(apC:l∉M)(nl:H' l=none):H l=none:=by
 cases e:H l with
 |none=>rfl
 |some o=>rw[eK.keep l o apC e]at nl;cases nl
section
variable{P:bO}{w:bx}{K:aV}{mg:cI}{base:Heap}
noncomputable abbrev Ew:Stmt:=top 48
noncomputable abbrev apy:List Str:=["_law_day","_law_names","_law_lines","_law_n","_law_house","_law_goal","_law_road_here","_law_what","_law_mine"]
noncomputable abbrev D5:List Str:=["_law_day","_law_names","_law_lines","_law_n"]
theorem uT:dB apy D5 (c7 Ew):=⟨rfl,rfl,rfl,by decide+kernel,rfl,by decide+kernel,by decide+kernel⟩
inductive ajh(aw C aS az:Addr)(vs:aZ)(H:ae)(Q:ba)(E:b6):Prop where
 |mk (aY:ae) (x:Addr) (A:d4) (hs:bc) (ds:bT) (s:cG) (d6 cB:Addr) (rs:bS) (n:Int) (bV:vs=[.ref x,.ref d6,.ref cB,.int n]) (bA:dS aw C aS az aY H x A hs ds s) (cn:Good hs) (di:2<=hs.length) (d8:1<=ds.length) (fI:A.rs.length<=40) (iM:s.kvs.length<=900) (lx:s.eA.length<=900) (nh:aY d6=some (.lst (cK hs))) (rz:aY cB=some (.lst (aC rs))) (z4:ix aY hs rs ds)
   (xb:∀d H' l,q2 hs ds d->gK (A.bH x) (A.bH x) H H'->dS aw C aS az aY H' x A hs ds (d.act s)->H l=none->l∉A.bH x->wx H' l d->Q (.ref l) H')
noncomputable def LZ(aw C aS az:Addr):cM:=λvs H Q E=>ajh aw C aS az vs H Q E
seal fV bl fW f_
theorem aji{aw C aS az cT dy f f1 f2 cz f4:Addr}{fd c4 ec hn kT:cF}(F:bB K "_law_change" "_law_change" Ew f fd)(B:gp mg)(fE:fB K aw)(tH:c6 K aw "shut" "Day.shut" zY ["self","road"] f1 c4)(RU:aL P w K mg base (ed P w) 3 f1 c4 ["self","road"] (uz aw C aS az dy Al))(tx:c6 K aw "reopen" "Day.reopen" xZ ["self","road"] f2 ec)(QS:aL P w K mg base (ed P w) 3 f2 ec ["self","road"] (uz aw C aS az dy we))(tv:c6 K aw "drop_way" "Day.drop_way" xY ["self","house","goal"] cz hn)(P':aL P w K mg base (ed P w) 4 cz hn ["self","house","goal"] (FV aw C aS az cT))(qt:c6 K aw "set_way" "Day.set_way" xX ["self","house","goal","road"] f4 kT)(HS:aL P w K mg base (ed P w) 4 f4 kT ["self","house","goal","road"] (FU aw C aS az cT dy)):
  aL P w K mg base a8 5 f fd D5 (LZ aw C aS az):=by
 refine F.ok uT (λvs H Q E h=>?_) (λcdv rC outer s0 H vs Q E aq h=>?_)
 .obtain⟨aY,x,A,hs,ds,s,d6,cB,rs,n,rfl,_⟩:=h;rfl
 .obtain⟨aY,x,A,hs,ds,s,d6,cB,rs,n,rfl,D,G,ai,jH,eh,lN,bo,r4,qI,Rr,q⟩:=h;have G0:rs.length<=40:=by have:=D.lV.len;have:=Rr.len;omega
  refine⟨_,(bh (da (i:=4) uT.aG rfl (rN rfl) (cv fu (aa 1) (bK e9 (bK g9 (aa 3) aW) (dE gP (by rfl) B.len gF (ak (aa 1) aI))) (λ_ _=>rfl)))
   (bh (da (i:=5) uT.aG rfl (cb rfl) (cv fu (aa 1) (bK e9 (bK ib (bK ib (bK g9 (aa 3) aW) aW) (bK e9 (bK g9 (aa 3) aW) (bK sg (dE gP (by rfl) B.len gF (ak (aa 1) aI)) aW))) (dE gP (by rfl) B.len gF (ak (aa 1) aI))) (λ_ _=>rfl)))
   (bh (da (i:=6) uT.aG rfl (cb rfl) (bK e9 (bK g9 (aa 3) aW) (dE gP (by rfl) B.len gF (ak (aa 2) aI))))
   (bh (da (i:=7) uT.aG rfl (cb rfl) (bK e9 (bK g9 (aa 3) aW) aW))
   (bh (eY (eC i9 (aa 7) aW (dz _)) (br (c_ (gS (ak j2 (ak (aa 6) (ak (g_ (aa 0) fE tH.eo RU (aq.mono (by decide)) tH.bd .nil w1 (ak (aa 6) aI)) aI)))))) fv)
   (bh (eY (eC i9 (aa 7) aW (dz _)) (br (c_ (gS (ak j2 (ak (aa 6) (ak (g_ (aa 0) fE tx.eo QS (aq.mono (by decide)) tx.bd .nil w1 (ak (aa 6) aI)) aI)))))) fv)
   (bh (tQ (i:=8) uT.aG rfl rfl rfl (N':=["_law_k","_law_house","_law_lines"]) (cs:=[none,some 4,some 2]) rfl (yR rfl B.range (ak (dE gP (by rfl) B.len gF (ak (aa 2) aI)) aI)) rfl (by decide+kernel) rfl (by decide+kernel) (lK (n'.mpr ⟨rfl,(n'.mpr ⟨rfl,(λp aO=>bG aO (dX))⟩)⟩)) rfl
    (.own (.md rfl (.inl rfl) (.inl rfl) rfl (.md rfl (.inl rfl) (.inl rfl) rfl .nil)))
    (λC s3 a_ cp fg=>⟨(et (i:=0) (by show(["_law_k","_law_house","_law_lines"]:b9).Nodup;decide+kernel) rfl (.inl rfl)),(zf (eC i9 (cv (v' (K:=K) rfl) (cv (Tw (K:=K) rfl) (aa 2) (aa 0) (λ_ _=>rfl)) aW (λ_ _=>rfl)) (aa 1) (dz _))),(aa 0)⟩))
   (bh (eY (iv.pt (oI (eC i9 (aa 7) aW (dz _)) (pR (eC (zw aq.units) (aa 8) (gS aI) (dz _))))) (br (c_ (gS (ak j2 (ak (i8 (ak (aa 4) (ak (aa 5) aI))) (ak kU (ak (g_ (aa 0) fE tv.eo P' (aq.mono (by decide)) tv.bd .nil w1 (ak (aa 4) (ak (aa 5) aI))) aI))))))) fv)
   (bh (da (i:=6) uT.aG rfl (cb rfl) (cv fu (aa 8) (bK e9 (bK g9 (aa 3) aW) (dE gP (by rfl) B.len gF (ak (aa 8) aI))) (λ_ _=>rfl)))
   (br (c_ (gS (ak j2 (ak (i8 (ak (aa 4) (ak (aa 5) aI))) (ak (aa 6) (ak (g_ (aa 0) fE qt.eo HS (aq.mono (by decide)) qt.bd .nil w1 (ak (aa 4) (ak (aa 5) (ak (aa 6) aI)))) aI)))))))))))))))),?_⟩
  have aO:=D.b' _ _ r4;have hd:=D.b' _ _ qI;have du:(cK hs).length=hs.length:=by unfold cK;rw[bp]
  obtain⟨u,BB,nE⟩:=sh (λy=>V.str (S y)) (L:=hs) (by omega) (n/8);obtain⟨v,BC,ev⟩:=sh (λy=>V.str (S y)) (L:=hs) (by omega) (n/8+1+n/96%((cK hs).length-1));have bH:S u∈hs.map S:=b4.mpr ⟨u,eH nE,rfl⟩;have eK:S v∈hs.map S:=b4.mpr ⟨v,eH ev,rfl⟩;have ne:S u≠S v:=λz=>by have e:=uD z;subst e;obtain⟨af,aB⟩:=eM.mp nE;obtain⟨bU,cH⟩:=eM.mp ev;have:=(u1 G.aG).mp (aB.trans cH.symm);have h0:0<=n/96%((cK hs).length-1:Int):=iu _ (by omega);have d3:n/96%((cK hs).length-1:Int)<((cK hs).length-1:Int):=l3 _ (by omega);have a1:0<=n/8%(hs.length:Int):=iu _ (by omega);have a2:0<=(n/8+1+n/96%((cK hs).length-1))%(hs.length:Int):=iu _ (by omega);have:=KD (x:=n/8) (c:=1+n/96%((cK hs).length-1)) (m:=hs.length) (by omega) (by omega);rw[<-WJ]at this;omega
  have un:=Ũ bH eK ne;have pos:(0:Int)<((cK hs).length:Int):=by omega
  have RJ:(0:Int)<((cK hs).length:Int)-1:=by omega
  have rl:(aC rs).length=ds.length:=by rw[eI,Rr.len]
  have RK:(0:Int)<((aC rs).length:Int):=by omega
  refine⟨_,rfl,_,rfl,_,_,rfl,rfl,⟨by decide,by decide⟩,_,rfl,d6,_,rfl,.inl (aJ.of aO),_,_,rfl,rfl,pos,d6,_,_,_,rfl,rfl,aJ.of aO,BB,?_⟩;refine⟨_,rfl,_,rfl,_,_,rfl,rfl,⟨by decide,by decide⟩,_,_,rfl,rfl,_,rfl,_,_,rfl,rfl,⟨by decide,by decide⟩,_,rfl,d6,_,rfl,.inl (aJ.of aO),_,_,rfl,rfl,_,_,rfl,rfl,RJ,_,_,rfl,rfl,_,rfl,d6,_,rfl,.inl (aJ.of aO),_,_,rfl,rfl,pos,d6,_,_,_,rfl,rfl,aJ.of aO,BC,?_⟩;refine⟨_,rfl,_,_,rfl,rfl,⟨by decide,by decide⟩,_,rfl,cB,_,rfl,.inl (aJ.of hd),_,_,rfl,rfl,RK,?_⟩;have r0:0<=n/4096%((aC rs).length:Int):=iu _ (by omega);have ck:n/4096%((aC rs).length:Int)<((aC rs).length:Int):=l3 _ (by omega);obtain⟨r,f3⟩:∃r:Nat,n/4096%((aC rs).length:Int)=(r:Int):=⟨_,(uW r0).symm⟩
  have I0:r<ds.length:=by omega
  rw[f3];refine⟨_,rfl,_,_,rfl,rfl,⟨by decide,by decide⟩,_,_,rfl,rfl,(by show(0:Int)<6;decide),?_⟩;refine⟨_,rfl,rfl,_,rfl,nZ (λ_=>?_) (λ_=>?_)⟩
  .refine⟨_,rfl,_,rfl,x,A.ah,_,rfl,D.ins,rfl,_,rfl,aY,x,A,hs,ds,s,(r:Int),rfl,D,bo,λcw e kZ H' eK cA=>⟨by show 3<=sizeLine;decide,λl nl=>?_⟩,λno=>bG ⟨by omega,by omega⟩ no⟩;have e:cw=r:=by omega
   subst e;have lm:=cA.live nl;exact q (.mz cw) _ l (.mz kZ) (eK.trans (gK.refl (bW nl))) (cA.same (bW nl)) (eK.new lm nl) lm (.mz aP)
  refine⟨_,rfl,rfl,_,rfl,nZ (λ_=>?_) (λ_=>?_)⟩
  .refine⟨_,rfl,_,rfl,x,A.ah,_,rfl,D.ins,rfl,_,rfl,aY,x,A,hs,ds,s,(r:Int),rfl,D,bo,λcw e kZ H' eK cA=>⟨by show 3<=sizeLine;decide,λl nl=>?_⟩,λno=>bG ⟨by omega,by omega⟩ no⟩;have e:cw=r:=by omega
   subst e;have lm:=cA.live nl;exact q (.mx cw) _ l (.mx kZ) (eK.trans (gK.refl (bW nl))) (cA.same (bW nl)) (eK.new lm nl) lm (.mx aP)
  dsimp only[z8];refine Ji ?_;have CO:=Rr.same D.b';have yG:=CO.len;have item:∀(i:Nat)(v:ao.V),((ek (aC rs).length).map λi:Nat=>V.int ((0:Int)+(i:Int)))[i]?=some v->∃r d,v=.int ((0:Int)+(i:Int))/\rs[i]?=some r/\ds[i]?=some d/\H r=some (.tup (lU hs d)):=λi v ev=>by rw[c9]at ev;obtain⟨j,eZ,rfl⟩:=fJ.mp ev;obtain⟨ar,e⟩:=eM.mp eZ;rw[jz]at ar;rw[x5]at e;subst e;have f3:rs[i]?=some rs[i]:=dv (by omega);obtain⟨d,dY,_,hd⟩:=CO.get f3;exact⟨_,d,rfl,f3,dY,hd⟩
  refine Xn (J:=n9 0 (aC rs).length) (H1:=H) (xs:=(ek (aC rs).length).map λi:Nat=>V.int ((0:Int)+(i:Int))) (rest:=[some (.str (S u)),some (.ref cB)]) (λR h=>⟨_,rfl,cB,_,rfl,.inl (aJ.of hd),_,rfl,(by show -(2 ^ 62)<=((aC rs).length:Int);omega),(by show((aC rs).length:Int)<2 ^ 62;omega),h⟩) rfl (IS 0 _) (eW (by rw[bp,jz];omega))
   (λv=>match v with|.int k=>decide (V.str (S (hs.getD (ds.getD k.toNat fc).a []))=V.str (S u))|_=>false) (λv=>v) (λi v ag R ev aH jN=>?_) (λi v ag R ev _ aH jN=>⟨_,rfl,jN ag (aN.refl _)⟩) (λzc uV pV qH zx=>?_)
  .obtain⟨cw,d,rfl,NH,dY,mZ⟩:=item i v ev;have cJ:ds.getD ((0:Int)+(i:Int)).toNat fc=d:=by rw[show((0:Int)+(i:Int)).toNat=i by omega];exact wd dY
   have CN:∀bw,aN ag bw->R (decide (V.str (S (hs.getD (ds.getD ((0:Int)+(i:Int)).toNat fc).a []))=V.str (S u))) bw:=jN;rw[cJ]at CN;exact⟨_,rfl,_,rfl,cB,_,_,_,rfl,rfl,aJ.of (aH _ _ hd),Wn NH,cw,_,_,_,rfl,rfl,cN.of (aH _ _ mZ),rfl,_,rfl,rfl,_,rfl,CN ag (aN.refl _)⟩
  have ans:uV zc=some (.lst ((iI hs ds (·.a) (S u)).map V.int)):=by rw[qH];congr 2;have:=Œ (aC rs).length λi=>decide (V.str (S (hs.getD (ds.getD i fc).a []))=V.str (S u));rw[rl]at this⊢;exact this
  have arI:=ş hs ds (·.a) (S u);have ī:∀k∈iI hs ds (·.a) (S u),∃n:Nat,k=(n:Int)/\n<ds.length/\o5 hs ds n=S u:=λk aX=>by unfold iI zJ at aX;obtain⟨n,aT,rfl⟩:=b4.mp aX;obtain⟨af,ai⟩:=gJ.mp aT;exact⟨n,rfl,lz.mp af,V.str.inj (ju ai)⟩
  have Do:=D.same zx;have zp:∀{bw:ae}{c:Addr},aN H bw->bw c=none->aN H (upd bw c (.tup [.str (S u),.str (S v)])):=λs5 hc=>s5.trans (bW hc);have fin:∀{bw H':ae}{c l:Addr}{d:jb}{o:ee},aN H bw->bw c=none->gK (A.bH x) (A.bH x) (upd bw c (.tup [.str (S u),.str (S v)])) H'->dS aw C aS az aY H' x A hs ds (d.act s)->H' l=none->q2 hs ds d->(upd H' l o c=some (.tup [.str (S u),.str (S v)])->wx (upd H' l o) l d)->Q (.ref l) (upd H' l o):=λ{bw H' c l d o}s5 hc wb cA nl ok k=>by
   have f7:=zp s5 hc;have lm:=cA.live nl;have ò:=wb.new lm nl;have ay:H' c=some (.tup [.str (S u),.str (S v)]):=wb.keep c _ (λz=>(D.same s5).live hc z) aP;have y7:H l=none:=by
    cases e:H l with
    |none=>rfl
    |some o=>rw[f7 _ _ e]at ò;cases ò
   exact q d _ l ok ((gK.refl f7).trans (wb.trans (gK.refl (bW nl)))) (cA.same (bW nl)) y7 lm (k (by rw[aA (bZ ay nl)];exact ay))
  have drop:∀(bw:ae)(c:Addr),aN H bw->bw c=none->∀u9:ba,(∀H',(∀l,H' l=none->Q (.ref l) (upd H' l (.lst [.str "way",.ref c,.bq,.bq])))->u9 .bq H')->XT aw C aS az cT [.ref x,.str (S u),.str (S v)] (upd bw c (.tup [.str (S u),.str (S v)])) u9 rG:=λbw c s5 hc u9 k=>
   ⟨aY,x,A,hs,ds,s,S u,S v,rfl,D.same (zp s5 hc),G,λ_=>kA G bH,λ_=>kA G eK,λ_ H' wb cA=>k H' λl nl=>fin (d:=.drop (S u) (S v)) s5 hc wb cA nl (.drop bH eK ne) λay=>.drop aP ay,λno=>bG (un.symm.trans no) (by decide)⟩
  refine⟨_,rfl,rfl,_,rfl,?_⟩;refine nZ (λ_=>?_) (λ_=>?_)
  .refine⟨_,rfl,_,rfl,(by show 2<=sizeLine;decide),λc hc=>?_⟩;exact⟨_,rfl,x,A.ah,_,rfl,(D.same (zp zx hc)).ins,rfl,_,rfl,_,rfl,drop uV c zx hc _ λH' k=>⟨by show 4<=sizeLine;decide,k⟩⟩
  refine⟨_,rfl,e_ _,λl nl=>?_⟩;have lW:=bW (o:=.lst []) nl;have kV:=lW _ _ ans;have bX:=zx.trans lW;refine⟨tP (iI hs ds (·.a) (S u)),.list [],Wo (aJ.of kV),.lst (aJ.of aP) .nil,v3 (n:=1) (Xp _) (U8 _) (by decide),rfl,_,rfl,?_⟩;generalize upd uV l (.lst [])=FH at kV bX⊢;generalize tA:iI hs ds (·.a) (S u)=L at kV ī arI⊢;have tB:ht (tP L) (.list [])=L.isEmpty:=by cases L<;>rfl
  by_cases iB:L=[]
  .refine fH (by rw[tB,iB];rfl) ?_;refine⟨_,rfl,_,rfl,(by show 2<=sizeLine;decide),λc hc=>?_⟩;exact⟨_,rfl,x,A.ah,_,rfl,(D.same (zp bX hc)).ins,rfl,_,rfl,_,rfl,drop FH c bX hc _ λH' k=>⟨by show 4<=sizeLine;decide,k⟩⟩
  refine ew (by rw[tB];cases L with|nil=>exact bG rfl iB|cons x r=>rfl) ?_;have anC:0<L.length:=A3.mpr iB;have atX:(L.map V.int).length=L.length:=bp _;obtain⟨bY,M',eg⟩:=sh V.int (L:=L) anC (n/4096);have Ht:=eH eg;obtain⟨t4,rfl,C1,Oj⟩:=ī _ Ht;have aqy:(0:Int)<((L.map V.int).length:Int):=by omega
  refine⟨_,rfl,_,rfl,_,_,rfl,rfl,⟨by decide,by decide⟩,_,rfl,zc,_,rfl,.inl (aJ.of kV),_,_,rfl,rfl,aqy,zc,_,_,_,rfl,rfl,aJ.of kV,M',?_⟩;refine⟨_,rfl,_,rfl,(by show 2<=sizeLine;decide),λc hc=>?_⟩;exact⟨_,rfl,_,rfl,x,A.ah,_,rfl,(D.same (zp bX hc)).ins,rfl,_,rfl,_,rfl,_,rfl,aY,x,A,hs,ds,s,S u,S v,(t4:Int),rfl,D.same (zp bX hc),G,eh,λ_=>kA G bH,λ_=>kA G eK,eW (by omega),λ_ _ H' wb cA=>⟨by show 4<=sizeLine;decide,λl nl=>fin (d:=.set (S u) (S v) t4) bX hc wb cA nl (.set bH eK ne C1 Oj) λay=>.set aP ay⟩,λno=>bG (un.symm.trans no) (by decide),λ_ no=>bG (by rw[tA];exact Ht) no⟩
unseal fV bl fW f_
noncomputable def m6(kvs:er):jb->er
 |.drop h g=>o4 kvs (fm h g)
 |.set h g r=>d7 kvs (fm h g) (.int (r:Int))
 |_=>kvs
noncomputable def FK(l:dI):jb->List Nat
 |.mz r=>w5 l r
 |.mx r=>l.filter λk=>decide (k≠r)
 |_=>l
noncomputable abbrev EA:Stmt:=top 51
noncomputable abbrev zh:List Str:=["_law_deed","_law_told","_law_closed"]
theorem aju:dB zh zh (c7 EA):=⟨rfl,rfl,rfl,by decide+kernel,rfl,by decide+kernel,by decide+kernel⟩
inductive ajj(vs:aZ)(H:ae)(Q:ba)(E:b6):Prop where
 |mk (l bk cl:Addr) (d:jb) (kvs:er) (eA:dI) (bV:vs=[.ref l,.ref bk,.ref cl]) (bA:wx H l d) (cn:H bk=some (.c3 kvs)) (di:H cl=some (.b0 (iq eA))) (d8:kvs.length<=900) (fI:eA.length<=900)
   (iM:∀H',(∀b o,b≠bk->b≠cl->H b=some o->H' b=some o)->H' bk=some (.c3 (m6 kvs d))->H' cl=some (.b0 (iq (FK eA d)))->Q (.aM true) H')
noncomputable def L0:cM:=λvs H Q E=>ajj vs H Q E
seal fV bl fW f_
theorem ajk{f:Addr}{fd:cF}(F:bB K "_law_made" "_law_made" EA f fd)(B:gp mg):aL P w K mg base a8 1 f fd zh L0:=by
 refine F.ok aju (λvs H Q E h=>?_) (λcdv A outer s H vs Q E aq h=>?_)
 .obtain⟨l,bk,cl,d,kvs,eA,rfl,_⟩:=h;rfl
 .obtain⟨l,bk,cl,d,kvs,eA,rfl,aj,df,ay,auf,jv,q⟩:=h;refine⟨_,(bh (eY (eC Un (cv fu (aa 0) (bK sg (dE gP (by rfl) B.len gF (ak (aa 0) aI)) aW) (λ_ _=>rfl)) kU (dz _)) (br (c_ hW)) fv)
   (bh (eY (eC i9 (cv fu (aa 0) aW (λ_ _=>rfl)) j2 (dz _)) (br (zi (iV aq) (aa 2) (cv fu (aa 0) aW (λ_ _=>rfl)) hW rfl)) (br (eY (eC i9 (cv fu (aa 0) aW (λ_ _=>rfl)) j2 (dz _)) (br (gQ (Vo (aa 2) (cv fu (aa 0) aW (λ_ _=>rfl)) kU ⟨rfl,rfl,rfl,rfl⟩))) (br (eY (eC WV (cv fu (aa 0) aW (λ_ _=>rfl)) kU (dz _)) (br (gQ (Vz (iV aq) (aa 1) (cv fu (aa 0) aW (λ_ _=>rfl)) kU ⟨rfl,rfl,rfl,rfl⟩))) (br (zi (iV aq) (aa 1) (cv fu (aa 0) aW (λ_ _=>rfl)) (cv fu (aa 0) aW (λ_ _=>rfl)) rfl)))))))
   (br (c_ hW)))),?_⟩
  have Iy:bk≠cl:=λz=>by rw[z,ay]at df;cases df
  have bo:(iq eA).length<sizeLine:=eW (by unfold iq;rw[bp];omega);cases aj with
  |@mz r aj=>
   refine⟨_,rfl,_,rfl,l,_,rfl,.inl (aJ.of aj),_,_,rfl,rfl,l,_,_,_,rfl,rfl,aJ.of aj,rfl,rfl,_,rfl,ew rfl ?_⟩;refine⟨_,rfl,l,_,_,_,rfl,rfl,aJ.of aj,rfl,rfl,_,rfl,fH (cu rfl) ?_⟩;refine⟨_,rfl,_,rfl,l,_,_,_,rfl,rfl,aJ.of aj,rfl,cl,_,rfl,o3.k (k:=e7 (r:Int)) ay bo,?_⟩;rw[VS];exact q _ (λb o _ n e=>by rw[aA n];exact e) (by rw[aA Iy];exact df) aP
  |@mx r aj=>
   refine⟨_,rfl,_,rfl,l,_,rfl,.inl (aJ.of aj),_,_,rfl,rfl,l,_,_,_,rfl,rfl,aJ.of aj,rfl,rfl,_,rfl,ew rfl ?_⟩;refine⟨_,rfl,l,_,_,_,rfl,rfl,aJ.of aj,rfl,rfl,_,rfl,ew (dJ (λz=>by cases z)) ?_⟩;refine⟨_,rfl,l,_,_,_,rfl,rfl,aJ.of aj,rfl,rfl,_,rfl,fH (cu rfl) ?_⟩;refine⟨_,rfl,cl,rfl,.inl ⟨_,.inl ay⟩,_,rfl,l,_,_,_,rfl,rfl,aJ.of aj,rfl,_,e7 (r:Int),ay,rfl,λv ev=>?_,λev=>?_⟩
   .rw[Ŧ];exact q _ (λb o _ n e=>by rw[aA n];exact e) (by rw[aA Iy];exact df) aP
   .exact q H (λb o _ _ e=>e) df (by show _=some (ee.b0 (iq (eA.filter λk=>decide (k≠r))));rw[ŧ _ _ ev];exact ay)
  |@drop h g c aj vO=>
   refine⟨_,rfl,_,rfl,l,_,rfl,.inl (aJ.of aj),_,_,rfl,rfl,l,_,_,_,rfl,rfl,aJ.of aj,rfl,rfl,_,rfl,ew rfl ?_⟩;refine⟨_,rfl,l,_,_,_,rfl,rfl,aJ.of aj,rfl,rfl,_,rfl,ew (dJ (λz=>by cases z)) ?_⟩;refine⟨_,rfl,l,_,_,_,rfl,rfl,aJ.of aj,rfl,rfl,_,rfl,ew (dJ (λz=>by cases z)) ?_⟩;refine⟨_,rfl,l,_,_,_,rfl,rfl,aJ.of aj,rfl,rfl,_,rfl,fH (cu rfl) ?_⟩;refine⟨_,rfl,bk,rfl,.inr ⟨_,.inl df⟩,_,rfl,l,_,_,_,rfl,rfl,aJ.of aj,rfl,kvs,fm h g,c,rfl,df,vO,?_⟩;exact q _ (λb o n _ e=>by rw[aA n];exact e) aP (by rw[aA (cR Iy)];exact ay)
  |@set h g r c aj vO=>
   refine⟨_,rfl,_,rfl,l,_,rfl,.inl (aJ.of aj),_,_,rfl,rfl,l,_,_,_,rfl,rfl,aJ.of aj,rfl,rfl,_,rfl,ew rfl ?_⟩;refine⟨_,rfl,l,_,_,_,rfl,rfl,aJ.of aj,rfl,rfl,_,rfl,ew (dJ (λz=>by cases z)) ?_⟩;refine⟨_,rfl,l,_,_,_,rfl,rfl,aJ.of aj,rfl,rfl,_,rfl,ew (dJ (λz=>by cases z)) ?_⟩;refine⟨_,rfl,l,_,_,_,rfl,rfl,aJ.of aj,rfl,rfl,_,rfl,ew (dJ (λz=>by cases z)) ?_⟩;refine⟨_,rfl,l,_,_,_,rfl,rfl,aJ.of aj,rfl,_,rfl,_,rfl,l,_,_,_,rfl,rfl,aJ.of aj,rfl,bk,_,rfl,o3.t (k:=fm h g) df vO (eW (by omega)),?_⟩;exact q _ (λb o n _ e=>by rw[aA n];exact e) aP (by rw[aA (cR Iy)];exact ay)
unseal fV bl fW f_
noncomputable def zl(hs:bc)(ds:bT)(kvs:er):Prop:=∀h g k,iy kvs h g=some k->o5 hs ds k=h
noncomputable def oF(hs:bc)(ds:bT)(kvs:er)(cc:b9)(aE:fj)(T:Int)(r n:Nat):Bool:=decide ((gf aE n).fA=o5 hs ds r)&&(decide ((gf aE n).fA≠j3 cc n)&&(decide ((gf aE n).due<=T)&&decide (iy kvs (gf aE n).fA (j3 cc n)=some r)))
noncomputable def tY(hs:bc)(ds:bT)(kvs:er)(cc:b9)(aE:fj)(T:Int)(r m:Nat):List (Int×Nat):=((ek m).filter (oF hs ds kvs cc aE T r)).map λn=>(iZ aE n,n)
end
theorem Yy{hs:bc}{ds:bT}{s:cG}(Ft:zl hs ds s.kvs)(r:Nat):tY hs ds s.kvs (d2 s.a7) s.aE s.pr r s.a7.length=e4 (iZ s.aE) (iF s.kvs (d2 s.a7) s.aE) s.pr ((hI s).filter (iC s)) r:=by
 unfold tY e4 hI;rw[W9,W9];congr 1;refine W8 λn _=>?_;unfold oF iC iF iZ;cases w:iy s.kvs (gf s.aE n).fA (j3 (d2 s.a7) n)with
 |none=>simp
 |some k=>
  have b:=Ft _ _ _ w;by_cases e:k=r
  .subst e;rw[b];simp;cases decide ((gf s.aE n).due<=s.pr)<;>simp
  .simp[e]
theorem XU(hs:bc)(ds:bT)(kvs:er)(cc:b9)(aE:fj)(T:Int)(r m:Nat):(tY hs ds kvs cc aE T r m).length<=m:=by unfold tY;rw[bp];exact eQ (jl _ _) (by rw[jz];exact cq _)
theorem agj(hs:bc)(ds:bT)(kvs:er)(cc:b9)(aE:fj)(T:Int)(r m:Nat):tY hs ds kvs cc aE T r (m+1)=tY hs ds kvs cc aE T r m++(if oF hs ds kvs cc aE T r m=true then[(iZ aE m,m)]else[]):=by
 unfold tY;rw[s7,nq,eU];congr 1;by_cases h:oF hs ds kvs cc aE T r m=true
 .rw[bM h];simp[h]
 .rw[bE h];simp[h]
noncomputable def q3(ds:bT)(s:cG)(m:Nat):List (kK×List Nat):=((ek m).filter λr=>!(hY ds (iZ s.aE) (iF s.kvs (d2 s.a7) s.aE) s.pr ((hI s).filter (iC s)) r).2.isEmpty&&decide (r∉s.eA)).map (hY ds (iZ s.aE) (iF s.kvs (d2 s.a7) s.aE) s.pr ((hI s).filter (iC s)))
theorem agk(ds:bT)(s:cG)(m:Nat):q3 ds s (m+1)=q3 ds s m++(if(!(hY ds (iZ s.aE) (iF s.kvs (d2 s.a7) s.aE) s.pr ((hI s).filter (iC s)) m).2.isEmpty&&decide (m∉s.eA))=true then[hY ds (iZ s.aE) (iF s.kvs (d2 s.a7) s.aE) s.pr ((hI s).filter (iC s)) m]else[]):=by
 unfold q3;rw[s7,nq,eU];congr 1;split
 .rename_i h;simp only[l5,h,u0];rfl
 .rename_i h;simp only[l5,h,u0];rfl
theorem ah8{hs:bc}{ds:bT}{s:cG}(R:∀d∈ds,d.Ok hs.length):q3 ds s ds.length=fG ds s:=by
 unfold q3 fG m5 ml;rw[AZ,W9];congr 1;refine W8 λr aq=>?_;have aq:=lz.mp aq;rw[Bool.and_comm];show(decide (r∉s.eA)&&_)=(decide (r∉s.eA)&&_);congr 1;have gW:1<=iE ds r:=by unfold iE;rw[show ds.getD r oW=ds[r] by rw[eL,dv aq];rfl];exact(R _ (qf aq)).m.1
 cases e:e4 (iZ s.aE) (iF s.kvs (d2 s.a7) s.aE) s.pr ((hI s).filter (iC s)) r with
 |nil=>
  unfold hY;rw[e];show(!(ru (iE ds r) []).isEmpty)=(!([]:List (Int×Nat)).isEmpty);have:ru (iE ds r) []=[]:=by
   have:(ru (iE ds r) []).length=0:=by unfold ru;rw[(vW _).length_eq,bp,mK,(vJ _).length_eq];simp
   exact x6.mp this
  rw[this];rfl
 |cons a l=>
  have h:=ahr (ds:=ds) (due:=iZ s.aE) (rd:=iF s.kvs (d2 s.a7) s.aE) (T:=s.pr) (go:=(hI s).filter (iC s)) (r:=r) gW (by rw[e];simp);cases aD:(hY ds (iZ s.aE) (iF s.kvs (d2 s.a7) s.aE) s.pr ((hI s).filter (iC s)) r).2 with
  |nil=>exact bG aD h
  |cons _ _=>rfl
noncomputable def sb(H:ae)(bX:Addr)(aE:fj):Prop:=∃i1:List Addr,H bX=some (.lst (aC i1))/\bf (λa ss=>H a=some (.tup [.str (oL ss).fA,.int (oL ss).due])) i1 aE
theorem VT{α β:Type}{F:α->β->Prop}{a:α}{b:β}(q:F a b):∀{xs:List α}{ys:List β}(n:Nat),bf F xs ys->bf F (xs.set n a) (ys.set n b)
 |_,_,_,.nil=>.nil
 |_,_,0,.cons _ r=>.cons q r
 |_,_,n+1,.cons h r=>.cons h (VT q n r)
theorem ao2{L:aZ}{i:Nat}(h:i<L.length):ao.qW L.length (i:Int)=some i:=by unfold ao.qW;rw[bM (by omega),bM (by omega),mH]
theorem agl{hs:bc}{ds:bT}{s:cG}{b:kK×List Nat}(h:b∈fG ds s):b.1.1=s.pr/\b.1.2<ds.length/\b.2.Nodup/\∀n∈b.2,n<s.a7.length:=by unfold fG m5 ml at h;obtain⟨af,_⟩:=gJ.mp h;obtain⟨r,aq,rfl⟩:=b4.mp af;refine⟨rfl,lz.mp (gJ.mp aq).1,XG ((F2.filter _).filter _) r,λn aT=>?_⟩;have:=(Jy aT).1;exact(J0.mp (gJ.mp this).1).1
section
variable{P:bO}{w:bx}{K:aV}{mg:cI}{base:Heap}
noncomputable abbrev Et:Stmt:=top 49
noncomputable abbrev apw:List Str:=["_law_letters","_law_stood","_law_told","_law_closed","_law_lines","_law_now","_law_bags_here","_law_road_here","_law_line","_law_some","_law_n","_law_letter_here","_law_house","_law_since","_law_chosen","_law_turn","_law_numbers"]
noncomputable abbrev D3:List Str:=["_law_letters","_law_stood","_law_told","_law_closed","_law_lines","_law_now"]
theorem nc:dB apw D3 (c7 Et):=⟨rfl,rfl,rfl,by decide+kernel,rfl,by decide+kernel,by decide+kernel⟩
inductive ajl(vs:aZ)(H:ae)(Q:ba)(E:b6):Prop where
 |mk (b8 bX bk cl cB:Addr) (ei rs:bS) (hs:bc) (ds:bT) (s:cG) (kvs:er) (bV:vs=[.ref b8,.ref bX,.ref bk,.ref cl,.ref cB,.int s.pr]) (bA:H b8=some (.lst (aC ei))) (cn:d_ H ei (s.a7.map jd)) (di:sb H bX s.aE) (d8:H bk=some (.c3 kvs)) (fI:pE kvs ds.length) (iM:∀h g,iy kvs h g=iy s.kvs h g) (lx:H cl=some (.b0 (iq s.eA))) (nh:H cB=some (.lst (aC rs))) (rz:ix H hs rs ds) (xb:s.aE.length=s.a7.length) (z4:s.a7.length<=40) (Ź:zl hs ds s.kvs) (asA:rs.length<=40) (auU:cB≠bX/\b8≠bX)
   (auV:∀aM H' as,H aM=none->(∀b o,b≠bX->H b=some o->H' b=some o)->H' aM=some (.lst (aC as))->bf (hk H') as (fG ds s)->sb H' bX (oM hs ds s).aE->Q (.ref aM) H')
noncomputable def L1:cM:=λvs H Q E=>ajl vs H Q E
inductive ajv(b8 bX bk cl cB aM:Addr)(ds:bT)(s:cG)(H:ae)(i:Nat)(σ:ao.St)(b2:ae):Prop where
 |mk (as:bS) (v1 v2 g0 v4 iJ v6 kh iK:l') (bV:σ=[some (.ref b8),some (.ref bX),some (.ref bk),some (.ref cl),some (.ref cB),some (.int s.pr),some (.ref aM),v1,v2,g0,v4,iJ,v6,kh,iK,none,none]) (bA:aN H b2) (cn:b2 aM=some (.lst (aC as))) (di:bf (hk b2) as (q3 ds s i))
inductive YT(b8 bX bk cl cB aM aH:Addr)(Qv:ao.V)(r:Nat)(hs:bc)(ds:bT)(s:cG)(ft:ae)(i:Nat)(σ:ao.St)(kj:ae):Prop where
 |mk (ts:bS) (v4 iJ v6 kh iK:l') (bV:σ=[some (.ref b8),some (.ref bX),some (.ref bk),some (.ref cl),some (.ref cB),some (.int s.pr),some (.ref aM),some (.int (r:Int)),some Qv,some (.ref aH),v4,iJ,v6,kh,iK,none,none]) (bA:aN ft kj) (cn:kj aH=some (.lst (aC ts))) (di:d_ kj ts ((tY hs ds s.kvs (d2 s.a7) s.aE s.pr r i).map jf))
inductive aj3(b8 bX bk cl cB aM:Addr)(hs:bc)(ds:bT)(s:cG)(Bs:l9)(b2:ae)(j:Nat)(σ:ao.St)(ft:ae):Prop where
 |mk (v1 v2 g0 v4 iJ v6 kh iK zN v10:l') (bV:σ=[some (.ref b8),some (.ref bX),some (.ref bk),some (.ref cl),some (.ref cB),some (.int s.pr),some (.ref aM),v1,v2,g0,v4,iJ,v6,kh,iK,zN,v10]) (bA:∀b o,b≠bX->b2 b=some o->ft b=some o) (cn:sb ft bX (nK hs ds (Bs.take j) s.aE))
inductive aj4(b8 bX bk cl cB aM:Addr)(r:Nat)(v2 g0 iJ v6 kh iK zN v10:l')(s:cG)(st:Step)(ns:dI)(cur:fj)(b2:ae)(m:Nat)(σ:ao.St)(ft:ae):Prop where
 |mk (v4:l') (bV:σ=[some (.ref b8),some (.ref bX),some (.ref bk),some (.ref cl),some (.ref cB),some (.int s.pr),some (.ref aM),some (.int (r:Int)),v2,g0,v4,iJ,v6,kh,iK,zN,v10]) (bA:∀b o,b≠bX->b2 b=some o->ft b=some o) (cn:sb ft bX (mn st (ns.take m) cur))
seal fV bl fW f_
theorem aiN{f:Addr}{fd:cF}(F:bB K "_law_bags" "_law_bags" Et f fd)(B:gp mg):aL P w K mg base a8 1 f fd D3 L1:=by
 refine F.ok nc (λvs H Q E h=>?_) (λcdv A outer s0 H vs Q E aq h=>?_)
 .obtain⟨b8,bX,bk,cl,cB,ei,rs,hs,ds,s,kvs,rfl,_⟩:=h;rfl
 .obtain⟨b8,bX,bk,cl,cB,ei,rs,hs,ds,s,kvs,rfl,tN,į,⟨i1,qU,RL⟩,È,vc,ő,vP,qI,R,ln,pU,Ft,R1,⟨q6,ua⟩,q⟩:=h;refine⟨_,(bh (da (i:=6) nc.aG rfl (cb rfl) (gS aI))
   (bh (kq kM rfl (Jm rfl B.enumerate (ak (aa 4) aI)) (wo rfl (ia (et (i:=7) nc.aG rfl (cb rfl)) (ia (et (i:=8) nc.aG rfl (cb rfl)) pP)))
    (bh (da (i:=9) nc.aG rfl (cb rfl) (gS aI))
   (bh (kq kM rfl (Jm rfl B.enumerate (ak (aa 0) aI)) (wo rfl (ia (et (i:=10) nc.aG rfl (cb rfl)) (ia (et (i:=11) nc.aG rfl (cb rfl)) pP)))
    (bh (Ke (cv fu (aa 1) (aa 10) (λ_ _=>rfl)) (wo rfl (ia (et (i:=12) nc.aG rfl (cb rfl)) (ia (et (i:=13) nc.aG rfl (cb rfl)) pP))))
   (br (eY (iv.pt (t5 (eC i9 (aa 12) (cv fa (aa 8) aW (λ_ _=>rfl)) (dz _)) (t5 (eC wY (aa 12) (cv fa (aa 11) aW (λ_ _=>rfl)) (dz _)) (t5 (eC p0 (aa 13) (aa 5) (dz _)) (Ea (eC i9 (TJ (iV aq) (aa 2) (i8 (ak (aa 12) (ak (cv fa (aa 11) aW (λ_ _=>rfl)) aI))) ⟨rfl,rfl,rfl,rfl⟩) (aa 7) (dz _))))))) (br (gQ (nN og pw px nB (aa 9) (ak (i8 (ak (aa 13) (ak (aa 10) aI))) aI)))) fv))))
   (bh (da (i:=14) nc.aG rfl (cb rfl) (dE Ċ (by rfl) B.sorted yT (ak (uB (N':=["_law_since","_law_n"]) (cs:=[none,none]) rfl (jY (Tu UB (dE Q7 (by rfl) B.sorted yT (ak (aa 9) aI)) V5 (Jl (cv fa (aa 8) aW (λ_ _=>rfl))))) rfl (by decide+kernel) rfl (by decide+kernel) (lK (λp aO=>bG aO (dX))) rfl
    (.own (.own .nil))
    (λC s3 a_ cp fg=>⟨(Eg (K:=K) (n:=2) rfl rfl (ia (et (i:=0) (by show(["_law_since","_law_n"]:b9).Nodup;decide+kernel) rfl (.inl rfl)) (ia (et (i:=1) (by show(["_law_since","_law_n"]:b9).Nodup;decide+kernel) rfl (.inl rfl)) pP))),qX,(aa 1)⟩)) aI)))
   (br (eY (iv.pt (t5 (eC (zG aq.units) (aa 14) (gS aI) (dz _)) (Ea (Kd (IE (iV aq) (aa 7) (aa 3)))))) (br (gQ (nN og pw px nB (aa 6) (ak (i8 (ak (aa 5) (ak (aa 7) (ak (nA Ĉ (by rfl) B.tuple y1 (ak (aa 14) aI)) aI)))) aI)))) fv))))))
   (bh (kq kM rfl (jY (aa 6)) (wo rfl (ia (et (i:=15) nc.aG rfl (cb rfl)) (ia (et (i:=7) nc.aG rfl (cb rfl)) (ia (et (i:=16) nc.aG rfl (cb rfl)) pP))))
    (br (kq kM rfl (WZ (aa 16)) (et (i:=10) nc.aG rfl (cb rfl))
    (br (Ke (i8 (ak (cv fa (cv fu (aa 4) (aa 7) (λ_ _=>rfl)) aW (λ_ _=>rfl)) (ak (bK ib (aa 5) (cv fa (cv fu (aa 4) (aa 7) (λ_ _=>rfl)) aW (λ_ _=>rfl))) aI))) (agU (aa 1) (aa 10) set_list))))))
   (br (c_ (aa 6)))))),?_⟩
  have gl:(d2 s.a7).length=s.a7.length:=by unfold d2;rw[bp]
  have apk:ei.length=s.a7.length:=by have:=į.len;rwa [bp]at this
  refine⟨e_ _,λaM ka=>?_⟩;have R7:=bW (o:=.lst []) ka;have μ:upd H aM (.lst []) aM=some (.lst []):=aP;generalize upd H aM (.lst [])=ly at R7 μ⊢;refine⟨_,rfl,cB,rfl,⟨_,aJ.of (R7 _ _ qI)⟩,?_⟩;refine TR (K:=K) (a:=cB) (xs:=aC rs) (ajv b8 bX bk cl cB aM ds s H) ⟨[],none,none,none,none,none,none,none,none,rfl,R7,μ,.nil⟩ (λi σ b2 h=>by obtain⟨as,v1,v2,g0,v4,iJ,v6,kh,iK,rfl,aH,_⟩:=h;exact aJ.of (aH _ _ qI)) ?_ ?_
  .rintro r z σ b2 p dC ⟨as,v1,v2,g0,v4,iJ,v6,kh,iK,rfl,aH,ig,gR⟩ np;unfold aC at dC;rw[c9]at dC;obtain⟨gI,era,rfl⟩:=fJ.mp dC;obtain⟨d,dY,sj,hd⟩:=R.get era;have cJ:ds.getD r oW=d:=so dY;have BR:lU hs d=[.str (o5 hs ds r),.str (o6 hs ds r),.int (rf ds r),.int (iE ds r)]:=by unfold lU o5 o6 rf iE;rw[cJ]
   rw[BR]at hd;refine⟨p,_,rfl,cN.of aP,rfl,_,_,rfl,_,_,rfl,rfl,?_⟩;have sp:=bW (o:=.tup [V.int (r:Int),V.ref gI]) np;have zA:=aH.trans sp;have ν:=sp _ _ ig;have Y6:bf (hk _) as (q3 ds s r):=bf.eE gR λ_ _ e=>e.same sp;generalize upd b2 p (.tup [V.int (r:Int),V.ref gI])=ft at zA ν Y6⊢;refine⟨e_ _,λuv ù=>?_⟩;have s2:=bW (o:=.lst []) ù;have Z1:upd ft uv (.lst []) uv=some (.lst []):=aP;have kE:=zA.trans s2;generalize upd ft uv (.lst [])=kj at s2 Z1 kE⊢;refine⟨_,rfl,b8,rfl,⟨_,aJ.of (kE _ _ tN)⟩,?_⟩;refine TR (K:=K) (a:=b8) (xs:=aC ei) (YT b8 bX bk cl cB aM uv (.ref gI) r hs ds s ft) ⟨[],v4,iJ,v6,kh,iK,rfl,s2,Z1,.nil⟩ (λi σ rH h=>by obtain⟨ts,v4,iJ,v6,kh,iK,rfl,aH,_⟩:=h;exact aJ.of (aH _ _ (zA _ _ tN))) ?_ ?_
   .rintro n z σ rH pt dC ⟨ts,v4,iJ,v6,kh,iK,rfl,I8,yP,nf⟩ Rb;unfold aC at dC;rw[c9]at dC;obtain⟨jP,am0,rfl⟩:=fJ.mp dC;obtain⟨tw,BV,OP⟩:=bf.get į am0;rw[c9]at BV;obtain⟨lt,elt,rfl⟩:=fJ.mp BV;have nl:=(eM.mp elt).1;have auO:=gM RL;obtain⟨i0,Zu⟩:∃i0,i1[n]?=some i0:=⟨_,dv (by omega)⟩
    obtain⟨ss,am6,Å⟩:=bf.get RL Zu;have eS:gf s.aE n=oL ss:=by unfold gf;rw[so am6]
    rw[<-eS]at Å;have pM:j3 (d2 s.a7) n=lt.2.2:=by unfold j3 d2;rw[eL,c9,elt];rfl
    refine⟨pt,_,rfl,cN.of aP,rfl,_,_,rfl,_,_,rfl,rfl,?_⟩;have Sv:=bW (o:=.tup [V.int (n:Int),V.ref jP]) Rb;have I9:=I8.trans Sv;have wI:=zA.trans I9;have Pb:=Sv _ _ yP;have S6:=nf.same Sv;generalize upd rH pt (.tup [V.int (n:Int),V.ref jP])=FH at I9 wI Pb S6⊢;have aku:ao.hx (aC i1) (n:Int)=some (.ref i0):=iQ (by unfold aC;rw[c9,Zu];rfl);refine⟨_,rfl,_,rfl,bX,_,_,_,rfl,rfl,aJ.of (wI _ _ qU),aku,i0,_,rfl,cN.of (wI _ _ Å),rfl,_,_,rfl,_,_,rfl,rfl,?_⟩;have Û:=agj hs ds s.kvs (d2 s.a7) s.aE s.pr r n;have no:∀{xO:ae},oF hs ds s.kvs (d2 s.a7) s.aE s.pr r n=false->aN FH xO->YT b8 bX bk cl cB aM uv (.ref gI) r hs ds s ft (n+1) [some (.ref b8),some (.ref bX),some (.ref bk),some (.ref cl),some (.ref cB),some (.int s.pr),some (.ref aM),some (.int (r:Int)),some (.ref gI),some (.ref uv),some (.int (n:Int)),some (.ref jP),some (.str (gf s.aE n).fA),some (.int (gf s.aE n).due),iK,none,none] xO:=λ{xO}e cY=>by refine⟨ts,_,_,_,_,_,rfl,I9.trans cY,cY _ _ Pb,?_⟩;rw[Û,e];show d_ xO ts ((_++[]).map jf);rw[l4];exact S6.same cY
    have anV:=wI _ _ hd;have Ξ:=wI _ _ OP;refine⟨_,rfl,_,rfl,gI,_,_,_,rfl,rfl,cN.of anV,rfl,rfl,_,rfl,?_⟩;by_cases c1:(gf s.aE n).fA=o5 hs ds r
    rotate_left
    .exact ew (dJ λz=>c1 (V.str.inj z)) (no (by unfold oF;rw[dJ c1];rfl) (aN.refl _))
    refine fH (cu (ha V.str c1)) ?_;refine⟨_,rfl,_,rfl,jP,_,_,_,rfl,rfl,cN.of Ξ,rfl,rfl,_,rfl,?_⟩;by_cases c2:(gf s.aE n).fA=j3 (d2 s.a7) n
    .exact ew (by rw[cu (show V.str (gf s.aE n).fA=V.str lt.2.2 from by rw[c2,pM])];rfl) (no (by unfold oF;rw[dJ (show¬(gf s.aE n).fA≠j3 (d2 s.a7) n fromλz=>z c2),cu c1];rfl) (aN.refl _))
    refine fH (by rw[dJ (show¬V.str (gf s.aE n).fA=V.str lt.2.2 fromλz=>c2 (by rw[pM];exact V.str.inj z))];rfl) ?_;refine⟨_,rfl,_,rfl,_,_,rfl,rfl,_,rfl,?_⟩;by_cases mc:(gf s.aE n).due<=s.pr
    rotate_left
    .exact ew (dJ mc) (no (by unfold oF;rw[dJ mc,cu c1,cu c2];rfl) (aN.refl _))
    refine fH (cu mc) ?_;refine⟨_,rfl,bk,rfl,.inr ⟨kvs,.inl (wI _ _ È)⟩,_,rfl,_,rfl,jP,_,_,_,rfl,rfl,cN.of Ξ,rfl,(by show 2<=sizeLine;decide),λb nb=>?_⟩;have b':=bW (o:=.tup [V.str (gf s.aE n).fA,V.str lt.2.2]) nb;have Nr:=iY.t (k:=fm (gf s.aE n).fA lt.2.2) (b' _ _ (wI _ _ È)) aP;have HG:=b' _ _ Pb;have S7:=S6.same b';have Ĝ:=I9.trans b';generalize upd FH b (.tup [V.str (gf s.aE n).fA,V.str lt.2.2])=xO at b' Nr HG S7 Ĝ⊢;refine⟨_,Nr,_,rfl,?_⟩;rcases vc.get (gf s.aE n).fA lt.2.2 with⟨aB,aD⟩|⟨k,aB,aD,aX⟩
    .rw[aB];rw[ő]at aD;exact⟨rfl,_,rfl,ew (dJ (λz=>by cases z)) (no (by unfold oF;rw[pM,aD,cu c1,cu mc];simp) b')⟩
    .rw[aB];rw[ő]at aD;refine⟨rfl,_,rfl,?_⟩;by_cases BG:k=r
     rotate_left
     .exact ew (dJ λz=>BG (KN (V.int.inj z))) (no (by unfold oF;rw[pM,aD];simp[BG]) b')
     subst BG;refine fH (cu rfl) ?_;have yes:oF hs ds s.kvs (d2 s.a7) s.aE s.pr k n=true:=by unfold oF;rw[cu c1,cu c2,cu mc,pM,aD];simp
     have apo:=S7.len;rw[bp]at apo;have aup:=XU hs ds s.kvs (d2 s.a7) s.aE s.pr k n;refine⟨_,rfl,.inl ⟨rfl,_,aJ.of HG⟩,_,rfl,_,rfl,(by show 2<=sizeLine;decide),λt cQ=>?_⟩;have Jc:=bW (o:=.tup [V.int (gf s.aE n).due,V.int (n:Int)]) cQ;refine⟨uv,_,_,rfl,rfl,Jc _ _ HG,eW (by rw[eI];omega),?_⟩;rw[rX];refine⟨ts++[t],_,_,_,_,_,rfl,kp ù (Ĝ.trans Jc),aP,?_⟩;rw[Û,bM yes,eU];exact d_.upd (Paired.snoc (F:=λr d=>(upd xO t (.tup [V.int (gf s.aE n).due,V.int (n:Int)])) r=some (.tup d)) aP (S7.same Jc)) (Jc _ _ HG) (by intro d z;cases z)
   .rintro σ rH ⟨ts,v4,iJ,v6,kh,iK,rfl,I8,yP,nf⟩;rw[eI,apk,Yy Ft]at nf;obtain⟨cs,ov⟩:∃cs,cs=e4 (iZ s.aE) (iF s.kvs (d2 s.a7) s.aE) s.pr ((hI s).filter (iC s)) r:=⟨_,rfl⟩
    have Q2:((hI s).filter (iC s)).Nodup:=(F2.filter _).filter _;have m0:0<=iE ds r:=by
     have:(d.m:Int)=iE ds r:=by unfold iE;rw[cJ]
     rw[<-this];have:=sj.m.1;omega
    obtain⟨k,BW⟩:∃k,k=(iE ds r).toNat:=⟨_,rfl⟩
    obtain⟨ch,tC⟩:∃ch,ch=((jq cs).take k).map (·.2):=⟨_,rfl⟩
    have lcs:cs.length<=40:=by rw[ov,<-Yy Ft];exact eQ (XU _ _ _ _ _ _ _ _) pU
    rw[<-ov]at nf;have ari:=zA.trans I8;have qM:=ari _ _ hd;have auo:((jq cs).take k).length<=40:=by rw[mK];have:=(vJ cs).length_eq;omega
    have S2:=nf.len;rw[bp]at S2;dsimp only[lR,rv,uw,sm,AV];refine WD (K:=K) (rest:=[]) (ds:=((jq cs).take k).map jf) (λLA CM=>?_) rfl (eW (by rw[bp];omega)) (λi=>V.int ((((jq cs).take k).getD i (0,0)).2:Int)) (λd' mZ=>?_) (λi u v bw LA ey s5 bY=>?_) (λD bw q6 bR s5=>?_)
    .refine⟨_,rfl,uv,ts,cs.map q8,true,[true],rfl,aJ.of yP,RR nf,(by omega),VN cs,λhK pX=>?_⟩;obtain⟨wR,BZ,S4⟩:=Ţ nf;have s4:=bW (o:=.lst (gT V.bq (mq (cs.map q8)) (ts.map V.ref))) pX;have j6:upd rH hK (.lst (gT V.bq (mq (cs.map q8)) (ts.map V.ref))) hK=some (.lst (aC wR)):=by rw[aP];rw[show ts.map V.ref=aC ts from rfl,BZ]
     refine⟨_,rfl,gI,_,_,_,rfl,rfl,cN.of (s4 _ _ qM),rfl,_,rfl,hK,_,rfl,aJ.of j6,λgG lg=>⟨gG,rfl,⟨_,aJ.of aP⟩,?_⟩⟩;rw[VO wR m0,<-BW];refine CM gG _ (wR.take k) (nQ s4 lg) (s4.trans (bW lg)) aP ?_;rw[K2];exact(Td k (S4.same s4)).same (bW lg)
    .obtain⟨c,_,rfl⟩:=b4.mp mZ;exact⟨_,_,rfl⟩
    .rw[c9]at ey;obtain⟨c,ic,aD⟩:=fJ.mp ey;have cH:V.int (c.2:Int)=v:=by unfold jf at aD;simp only[FY]at aD;exact aD.2.1
     refine⟨_,rfl,?_⟩;rw[<-cH];have:=bY bw (aN.refl _);rw[so ic]at this;exact this
    have BO:(ek (((jq cs).take k).map jf).length).map (λi=>V.int ((((jq cs).take k).getD i (0,0)).2:Int))=fN ch:=by rw[bp,range_getD (λc:Int×Nat=>V.int (c.2:Int)) (0,0) ((jq cs).take k),tC];unfold fN;rw[jA];rfl
    rw[BO,um]at bR;refine⟨D,ja ch,rfl,aJ.of bR,(by unfold ja;rw[bp,tC,bp];omega),λj9 t_=>?_⟩;have j0:(sortI (ja ch)).map V.int=fN (fM ch):=by rw[<-Ey,<-um]
    rw[j0];have f7:=bW (o:=.lst (fN (fM ch))) t_;have Z3:upd bw j9 (.lst (fN (fM ch))) j9=some (.lst (fN (fM ch))):=aP;generalize upd bw j9 (.lst (fN (fM ch)))=gh at f7 Z3⊢;have vt:(hY ds (iZ s.aE) (iF s.kvs (d2 s.a7) s.aE) s.pr ((hI s).filter (iC s)) r).2=fM ch:=by unfold hY ru;rw[<-ov,<-BW,<-tC]
    have H0:=agk ds s r;rw[vt]at H0;have aq2:aN rH gh:=s5.trans f7;refine⟨_,rfl,e_ _,λhl apP=>?_⟩;have fh:=bW (o:=.lst []) apP;have Hd:=fh _ _ Z3;rw[um]at Hd;refine⟨tP (ja (fM ch)),.list [],Wo (aJ.of Hd),.lst (aJ.of aP) .nil,v3 (n:=1) (Xp _) (U8 _) (by decide),rfl,_,rfl,?_⟩;have Sa:=I8.trans (aq2.trans fh);have EN:=zA.trans Sa;have rZ:=Sa _ _ ν;have BE:bf (hk _) as (q3 ds s r):=bf.eE Y6 λ_ _ e=>e.same Sa;generalize upd gh hl (.lst [])=dD at Hd EN rZ BE⊢;have tB:ht (tP (ja (fM ch))) (.list [])=(fM ch).isEmpty:=by cases fM ch<;>rfl
    by_cases ih:fM ch=[]
    .refine ew (by rw[tB,ih];rfl) ⟨as,_,_,_,_,_,_,_,_,rfl,EN,rZ,?_⟩;rw[H0,ih];show bf _ as (_++[]);rw[l4];exact BE
    have h2:(fM ch).isEmpty=false:=by cases h:fM ch with|nil=>exact bG h ih|cons _ _=>rfl
    refine fH (by rw[tB,h2];rfl) ?_;refine⟨_,rfl,_,rfl,cl,_,rfl,iY.k (k:=e7 (r:Int)) (EN _ _ vP),_,rfl,?_⟩;rw[J1];by_cases oA:r∈s.eA
    .refine ew (dJ (λz=>z oA)) ⟨as,_,_,_,_,_,_,_,_,rfl,EN,rZ,?_⟩;rw[H0,dJ (show¬r∉s.eA fromλz=>z oA),aak];show bf _ as (_++[]);rw[l4];exact BE
    refine fH (cu oA) ?_;have eS:=gM BE;have aun:(q3 ds s r).length<=r:=by unfold q3;rw[bp];exact eQ (jl _ _) (by rw[jz];exact cq _)
    have rl:=(eM.mp era).1;refine⟨_,rfl,.inl ⟨rfl,_,aJ.of rZ⟩,_,rfl,_,rfl,_,rfl,j9,_,rfl,.inl ⟨aJ.of Hd,λc hc=>⟨(by show 3<=sizeLine;decide),λeu oO=>⟨aM,aC as,_,rfl,rfl,bW oO _ _ (bW hc _ _ rZ),eW (by rw[eI];omega),?_⟩⟩⟩⟩;rw[<-um]at oO⊢;have gm:=bW (o:=.tup (fN (fM ch))) hc;have CR:upd dD c (.tup (fN (fM ch))) c=some (.tup (fN (fM ch))):=aP;generalize upd dD c (.tup (fN (fM ch)))=mF at gm CR oO⊢;have ri:=bW (o:=.tup [V.int s.pr,V.int (r:Int),V.ref c]) oO;have π:upd mF eu (.tup [V.int s.pr,V.int (r:Int),V.ref c]) eu=some (.tup [V.int s.pr,V.int (r:Int),V.ref c]):=aP;have CS:=ri _ _ CR;generalize upd mF eu (.tup [V.int s.pr,V.int (r:Int),V.ref c])=FA at ri π CS⊢;have R':=gm.trans ri;have ξ:=R' _ _ rZ;have nb:hk FA eu (hY ds (iZ s.aE) (iF s.kvs (d2 s.a7) s.aE) s.pr ((hI s).filter (iC s)) r):=⟨c,π,by rw[vt];exact CS⟩
    refine⟨as++[eu],_,_,_,_,_,_,_,_,rfl,kp ka (EN.trans R'),by rw[aP,rX],?_⟩;rw[H0,h2,cu oA];show bf _ (as++[eu]) (_++[_]);exact Paired.snoc (nb.upd ξ) (bf.eE BE λa b h=>(h.same R').upd ξ)
  .rintro σ b2 ⟨as,v1,v2,g0,v4,iJ,v6,kh,iK,rfl,aH,ig,gR⟩;rw[eI,R.len,ah8 R.ok]at gR;refine⟨_,rfl,aM,rfl,⟨_,aJ.of ig⟩,?_⟩;have Y_:aM≠bX:=λz=>by rw[z,qU]at ka;cases ka
   refine qC (K:=K) (xs:=aC as) (aj3 b8 bX bk cl cB aM hs ds s (fG ds s) b2) ⟨v1,v2,g0,v4,iJ,v6,kh,iK,none,none,rfl,λ_ _ _ e=>e,?_⟩ (λj σ ft _ h=>by obtain⟨v1,v2,g0,v4,iJ,v6,kh,iK,zN,v10,rfl,bI,_⟩:=h;exact aJ.of (bI _ _ Y_ ig)) ?_ ?_
   .rw[F3];exact⟨i1,aH _ _ qU,bf.eE RL λ_ _ e=>aH _ _ e⟩
   .rintro j z σ ft dC ⟨v1,v2,g0,v4,iJ,v6,kh,iK,zN,v10,rfl,bI,st⟩;unfold aC at dC;rw[c9]at dC;obtain⟨hG,BS,rfl⟩:=fJ.mp dC;obtain⟨hT,Ny,c,jr,h1⟩:=bf.get gR BS;obtain⟨vA,I0,Ic,Il⟩:=agl (hs:=hs) (eH Ny);have a5:(fG ds s).take (j+1)=(fG ds s).take j++[hT]:=by rw[pk,Ny];rfl
    have cQ:∀{b:Addr}{v:aZ},H b=some (.tup v)\/b2 b=some (.tup v)->b≠bX:=λ{b v}e z=>by
     rcases e with e|e
     .rw[z,qU]at e;cases e
     .rw[z,aH _ _ qU]at e;cases e
    refine⟨hG,_,rfl,cN.of (bI _ _ (cQ (.inr jr)) jr),rfl,_,_,rfl,_,_,rfl,_,_,rfl,rfl,?_⟩;obtain⟨gI,era⟩:∃gI,rs[hT.1.2]?=some gI:=⟨_,dv (by rw[R.len];exact I0)⟩
    obtain⟨d,dY,sj,hd⟩:=R.get era;have cJ:ds.getD hT.1.2 oW=d:=so dY;have BR:lU hs d=[.str (o5 hs ds hT.1.2),.str (o6 hs ds hT.1.2),.int (rf ds hT.1.2),.int (iE ds hT.1.2)]:=by unfold lU o5 o6 rf iE;rw[cJ]
    rw[BR]at hd;have qq:ao.hx (aC rs) (hT.1.2:Int)=some (.ref gI):=iQ (by unfold aC;rw[c9,era];rfl);have j5:=bI c _ (cQ (.inr h1)) h1;refine⟨_,rfl,c,rfl,⟨_,cN.of j5⟩,?_⟩;obtain⟨cur,Nz⟩:∃cur,cur=nK hs ds ((fG ds s).take j) s.aE:=⟨_,rfl⟩
    rw[<-Nz]at st;have atN:cur.length=s.a7.length:=by rw[Nz,I4];exact ln
    refine V0 (K:=K) (a:=c) (xs:=hT.2.map λn:Nat=>V.int n) (aj4 b8 bX bk cl cB aM hT.1.2 v2 g0 iJ v6 kh iK (some (.int hT.1.1)) (some (.ref c)) s (stepK hs ds hT.1) hT.2 cur b2) ⟨v4,rfl,bI,by rw[F3,Ÿ];exact st⟩ (λm σ kj _ h=>by obtain⟨v4,rfl,bI,_⟩:=h;exact cN.of (bI c _ (cQ (.inr h1)) h1)) ?_ ?_
    .rintro m z σ kj dC ⟨v4,rfl,bI,Jb,O4,Ä⟩;rw[c9]at dC;obtain⟨i,ey,rfl⟩:=fJ.mp dC;have ar:=Il i (eH ey);obtain⟨ss,es⟩:∃ss,cur[i]?=some ss:=⟨_,dv (by omega)⟩
     have Ĭ:hT.2.take (m+1)=hT.2.take m++[i]:=by rw[pk,ey];rfl
     have Ij:i∉hT.2.take m:=λz=>by have:=Ic;rw[<-Xd (m+1) hT.2,Ĭ]at this;exact(x7.mp (x7.mp this).1).2.2 i z i (.head _) rfl
     have gG:=gM Ä;rw[IH]at gG;have Z7:=bI cB _ q6 (aH _ _ qI);have χ:=bI gI _ (cQ (.inl hd)) (aH _ _ hd);refine⟨_,rfl,_,rfl,cB,_,_,_,rfl,rfl,aJ.of Z7,qq,gI,_,_,_,rfl,rfl,cN.of χ,rfl,_,rfl,_,rfl,_,rfl,cB,_,_,_,rfl,rfl,aJ.of Z7,qq,gI,_,_,_,rfl,rfl,cN.of χ,rfl,_,_,rfl,rfl,(by show 2<=sizeLine;decide),λp np=>?_⟩;have sp:=bW (o:=.tup [V.str (o6 hs ds hT.1.2),V.int (s.pr+rf ds hT.1.2)]) np;refine⟨_,rfl,_,rfl,bX,_,_,i,rfl,rfl,sp _ _ O4,ao2 (by rw[eI];omega),?_⟩;refine⟨_,rfl,λx v e0 e=>?_,?_⟩
     .rw[aA e0];exact sp _ _ (bI x v e0 e)
     .rw[Ĭ,Ń _ Ij es];refine⟨Jb.set i p,?_,?_⟩
      .rw[aP];unfold aC;rw[List.map_set]
      .refine VT ?_ i (bf.eE Ä λx y e=>?_)
       .rw[aA (cR (bZ O4 np)),aP,ņ];show _=some (ee.tup [V.str (o6 hs ds hT.1.2),V.int (hT.1.1+rf ds hT.1.2)]);rw[vA]
       .rw[aA (λz=>by rw[z,O4]at e;cases e)];exact sp _ _ e
    .rintro σ kj ⟨v4,rfl,bI,st⟩;rw[bp,pn,Nz,<-ţ,<-a5]at st;exact⟨_,_,_,_,_,_,_,_,_,_,rfl,bI,st⟩
   .rintro σ ft ⟨v1,v2,g0,v4,iJ,v6,kh,iK,zN,v10,rfl,bI,st⟩;have al:=gM gR;rw[eI,al,pn]at st;refine⟨_,rfl,q aM ft as ka (λb o nb e=>bI b o nb (aH _ _ e)) (bI _ _ Y_ ig) (bf.eE gR λa b⟨c,af,ai⟩=>⟨c,?_,?_⟩) st⟩
    .exact bI a _ (λz=>by rw[z,aH _ _ qU]at af;cases af) af
    .exact bI c _ (λz=>by rw[z,aH _ _ qU]at ai;cases ai) ai
unseal fV bl fW f_
noncomputable def ut(b:kK×List Nat):PyData:=.tuple [.int b.1.1,.int b.1.2,.tuple (b.2.map λn:Nat=>F9 n)]
end
theorem VU{K:aV}{H:ae}:∀ns:List Nat,pf K H (fN ns) (ns.map λn:Nat=>F9 n)
 |[]=>.nil
 |n::ns=>.cons (.int _) (VU ns)
theorem sd{K:aV}{H:ae}:∀{as:bS}{bs:l9},bf (hk H) as bs->pf K H (aC as) (bs.map ut)
 |_,[],h=>by cases h;exact .nil
 |_,b::bs,h=>by
  cases h with
  |cons r t=>
   obtain⟨c,af,ai⟩:=r;exact .cons (.tup (cN.of af) (.cons (.int _) (.cons (.int _) (.cons (.tup (cN.of ai) (VU _)) .nil)))) (sd t)
theorem D6(bs:l9):(F' (bs.map ut)).canLay0=true:=Ei λd hd=>by
 obtain⟨b,_,rfl⟩:=b4.mp hd;have:qj (b.2.map λn:Nat=>F9 n)=true:=Ei λd hd=>by obtain⟨n,_,rfl⟩:=b4.mp hd;rfl
 unfold ut;simp only[pv,qj,Bool.and_true,Vg];exact this
theorem YU{ds:fY}{n:Nat}(h:∀d∈ds,d.depth<=n):(PyData.tuple ds).depth<=n+1:=Lc (IG h)
theorem tV(bs:l9):qn (.list (bs.map ut))=true:=
 v3 (D6 bs) (n:=4) (Ys (n:=3) λd hd=>by
  obtain⟨b,_,rfl⟩:=b4.mp hd;unfold ut;refine YU (n:=2) λd hd=>?_;simp only[c',dX,or_false]at hd;rcases hd with rfl|rfl|rfl
  .exact e_ _
  .exact e_ _
  .exact YU (n:=1) λd hd=>by
    obtain⟨n,_,rfl⟩:=b4.mp hd;exact e_ _) (by decide)
section
variable{aw C aS az:Addr}{aY H H':ae}{x:Addr}{A:d4}{hs:bc}{ds:bT}{s:cG}
theorem dS.Ñ(D:dS aw C aS az aY H x A hs ds s){mM:bS}(eK:gK (A.bH x) mM H H'){as:bS}{bs:l9}(p:bf (hk H) as bs):bf (hk H') as bs:=
 bf.eE p λa b⟨c,af,ai⟩=>⟨c,eK.keep _ _ (λz=>D.uc z af) af,eK.keep _ _ (λz=>D.uc z ai) ai⟩
theorem dS.Gu(D:dS aw C aS az aY H x A hs ds s){l:Addr}(nl:l∉A.bH x)(nb:aY l=none){xs ys:aZ}(aj:H l=some (.lst xs)):dS aw C aS az aY (upd H l (.lst ys)) x A hs ds s:=
 D.frame (M:=[l]) (λb o e=>by rw[aA (bZ e nb)];exact D.b' _ _ e) (λb o nb e=>by rw[aA (λz=>nb (by rw[z];simp))];exact e) (λb U z=>by rw[hr]at z;exact nl (z▸U)) (λb U v e=>by rw[hr]at U;rw[U,aj]at e;cases e)
end
section
variable{P:bO}{w:bx}{K:aV}{mg:cI}{base:Heap}
noncomputable abbrev EC:Stmt:=top 50
noncomputable abbrev apD:List Str:=["_law_day","_law_due","_law_log","_law_n","_law_found","_law_bag"]
noncomputable abbrev D7:List Str:=["_law_day","_law_due","_law_log","_law_n"]
theorem Gk:dB apD D7 (c7 EC):=⟨rfl,rfl,rfl,by decide+kernel,rfl,by decide+kernel,by decide+kernel⟩
inductive aiO(aw C aS az:Addr)(vs:aZ)(H:ae)(Q:ba)(E:b6):Prop where
 |mk (aY:ae) (x:Addr) (A:d4) (hs:bc) (ds:bT) (s:cG) (k:Nat) (rS dF:Addr) (Gy eS:bS) (n:Int) (bV:vs=[.ref x,.ref rS,.ref dF,.int n]) (bA:dS aw C aS az aY H x A hs ds s) (cn:Good hs) (di:iW hs ds k s) (d8:k<=98) (fI:H rS=some (.lst (aC Gy))) (iM:bf (hk H) Gy (fG ds s)) (lx:H dF=some (.lst (aC eS))) (nh:bf (hk H) eS (s.hq++fG ds s)) (rz:rS∉A.bH x) (xb:dF∉A.bH x) (Ź:A.rs.length<=40)
   (z4:∀H' hg,gK (A.bH x) (hg.bH x) H H'->dS aw C aS az aY H' x hg hs ds (oM hs ds s)->Q (.aM true) H')
noncomputable def L2(aw C aS az:Addr):cM:=λvs H Q E=>aiO aw C aS az vs H Q E
inductive abP(x rS dF aM:Addr)(n:Int)(H1:ae)(i:Nat)(σ:ao.St)(b2:ae):Prop where
 |mk (iJ:l') (bV:σ=[some (.ref x),some (.ref rS),some (.ref dF),some (.int n),some (.ref aM),iJ]) (bA:b2=H1)
seal fV bl fW f_
theorem aiP{aw C aS az f f1 f2:Addr}{fd c4 ec:cF}(F:bB K "_law_passed" "_law_passed" EC f fd)(B:gp mg)(fE:fB K aw)(tn:c6 K aw "pass_turn" "Day.pass_turn" zX ["self"] f1 c4)(P5:aL P w K mg base a8 6 f1 c4 ["self"] (Fo K aw C aS az))(ot:c6 K aw "log" "Day.log" uS ["self"] f2 ec)(DN:aL P w K mg base a8 1 f2 ec ["self"] (Am aw C aS az)):
  aL P w K mg base a8 7 f fd D7 (L2 aw C aS az):=by
 refine F.ok Gk (λvs H Q E h=>?_) (λcdv rC outer s0 H vs Q E aq h=>?_)
 .obtain⟨aY,x,A,hs,ds,s,k,rS,dF,Gy,eS,n,rfl,_⟩:=h;rfl
 .obtain⟨aY,x,A,hs,ds,s,k,rS,dF,Gy,eS,n,rfl,D,G,O,Ï,Oz,ali,OQ,alv,apM,y8,R1,q⟩:=h;refine⟨_,(bh (da (i:=4) Gk.aG rfl (cb rfl) (mV (aa 0) fE tn.eo P5 (aq.mono (by decide)) tn.bd .nil dt))
   (bh (eY (iv.pt (oI (i7 (iR (dE mf (by rfl) B.isinstance jD (ak (aa 4) (ak (lJ (by rfl) B.list oD) aI))))) (pR (eC (zG aq.units) (aa 4) (aa 1) (dz _))))) (br (c_ hW)) fv)
   (bh (kq kM rfl (jY (aa 4)) (et (i:=5) Gk.aG rfl (cb rfl))
    (br (eY (iv.pt (oI (i7 (iR (dE mf (by rfl) B.isinstance jD (ak (aa 5) (ak (lJ (by rfl) B.tuple y1) aI))))) (oI (i7 (iR (dE mf (by rfl) B.isinstance jD (ak (cv fa (aa 5) aW (λ_ _=>rfl)) (ak (lJ (by rfl) B.tuple y1) aI))))) (pR (iR (dE mf (by rfl) B.isinstance jD (ak (cv fa (aa 5) aW (λ_ _=>rfl)) (ak (lJ (by rfl) B.bool UO) aI)))))))) (br (c_ hW)) fv)))
   (bh (gQ (nN og pw px nB (aa 4) (ak kU aI)))
   (bh (eY (eC wZ (bK e9 (bK g9 (aa 3) aW) aW) aW (dz _)) (br (c_ hW)) fv)
   (bh (da (i:=4) Gk.aG rfl (cb rfl) (mV (aa 0) fE ot.eo DN (aq.mono (by decide)) ot.bd .nil dt))
   (bh (eY (iv.pt (oI (i7 (iR (dE mf (by rfl) B.isinstance jD (ak (aa 4) (ak (lJ (by rfl) B.list oD) aI))))) (pR (eC (zG aq.units) (aa 4) (aa 2) (dz _))))) (br (c_ hW)) fv)
   (bh (gQ (nN og pw px nB (aa 4) (ak kU aI)))
   (br (c_ hW)))))))))),?_⟩
  refine⟨_,rfl,x,A.ah,_,rfl,D.ins,rfl,aY,x,A,hs,ds,s,k,rfl,D,G,O,Ï,λH1 g5 aM fF eK l1 ka è ig gR=>?_⟩;have apN:=eK.keep _ _ apM Oz;have apZ:=eK.keep _ _ y8 OQ;have Y8:=D.Ñ eK ali;have Y9:=D.Ñ eK alv;obtain⟨Bs,Nw⟩:∃Bs,Bs=fG ds s:=⟨_,rfl⟩
  rw[<-Nw]at gR Y8 Y9;refine⟨_,rfl,_,_,_,_,_,rfl,⟨rfl,.lst ig,rfl⟩,_,rfl,ew rfl ?_⟩;refine⟨_,rfl,_,rfl,.list (Bs.map ut),.list (Bs.map ut),.lst (aJ.of ig) (sd gR),.lst (aJ.of apN) (sd Y8),tV Bs,tV Bs,_,rfl,ew (Jp (D6 Bs)) ?_⟩;refine⟨_,rfl,aM,rfl,⟨_,aJ.of ig⟩,?_⟩;refine qC (K:=K) (xs:=aC fF) (abP x rS dF aM n H1) ⟨none,rfl,rfl⟩ (λi σ b2 _ h=>by obtain⟨iJ,rfl,rfl⟩:=h;exact aJ.of ig) ?_ ?_
  .rintro i z σ b2 dC ⟨iJ,rfl,rfl⟩;unfold aC at dC;rw[c9]at dC;obtain⟨hG,BS,rfl⟩:=fJ.mp dC;obtain⟨hT,Ny,c,jr,h1⟩:=bf.get gR BS;refine⟨_,rfl,_,_,_,_,_,rfl,⟨rfl,.tup jr,rfl⟩,_,rfl,ew rfl ?_⟩;refine⟨_,rfl,hG,_,_,_,rfl,rfl,cN.of jr,rfl,_,_,_,_,_,rfl,⟨rfl,.tup h1,rfl⟩,_,rfl,ew rfl ?_⟩;exact⟨_,rfl,hG,_,_,_,rfl,rfl,cN.of jr,rfl,_,_,_,_,_,rfl,⟨rfl,.int _,rfl⟩,_,rfl,ew rfl ⟨_,rfl,rfl⟩⟩
  rintro σ b2 ⟨iJ,rfl,rfl⟩;have atL:fF.length<=40:=by
   have af:=gM gR;have ai:Bs.length<=ds.length:=by rw[Nw];unfold fG m5 ml;refine eQ (jl _ _) ?_;rw[bp];exact eQ (jl _ _) (by rw[jz];exact cq _)
   have bU:=D.lV.len;omega
  have apH:aY aM=none:=by
   cases e:aY aM with
   |none=>rfl
   |some o=>rw[D.b' _ _ e]at ka;cases ka
  have dl:rS≠aM:=λz=>by rw[z,ka]at Oz;cases Oz
  have tX:dF≠aM:=λz=>by rw[z,ka]at OQ;cases OQ
  refine⟨_,rfl,.inl ⟨rfl,_,aJ.of ig⟩,aM,_,_,rfl,rfl,ig,eW (by rw[eI];omega),?_⟩;have cB:=l1.Gu è apH ig (ys:=aC fF++[V.bq]);have wc:gK (A.bH x) (g5.bH x) H (upd b2 aM (.lst (aC fF++[V.bq]))):=⟨λb o nb e=>by rw[aA (bZ e ka)];exact eK.keep b o nb e,eK.own⟩
  have Ο:upd b2 aM (.lst (aC fF++[V.bq])) dF=some (.lst (aC eS)):=by rw[aA tX];exact apZ
  have Y':bf (hk (upd b2 aM (.lst (aC fF++[V.bq])))) eS (s.hq++Bs):=bf.eE Y9 λ_ _ e=>e.upd ig;generalize upd b2 aM (.lst (aC fF++[V.bq]))=ag at cB wc Ο Y'⊢;refine⟨_,rfl,_,_,rfl,rfl,⟨by decide,by decide⟩,_,_,rfl,rfl,(by show(0:Int)<3;decide),_,_,rfl,rfl,_,rfl,?_⟩;refine nZ (λ_=>q ag g5 wc cB) (λ_=>?_);refine⟨_,rfl,x,g5.ah,_,rfl,cB.ins,rfl,aY,x,g5,hs,ds,_,rfl,cB,λl nl=>?_⟩;have s3:=bW (o:=.lst (aC g5.fF)) nl;have qO:upd ag l (.lst (aC g5.fF)) l=some (.lst (aC g5.fF)):=aP;have apc:=cB.live nl;have fC:=cB.same s3;have apY:aY l=none:=by
   cases e:aY l with
   |none=>rfl
   |some o=>rw[cB.b' _ _ e]at nl;cases nl
  generalize upd ag l (.lst (aC g5.fF))=a_ at s3 qO fC⊢;have hq:(oM hs ds s).hq=s.hq++Bs:=by rw[Nw];rfl
  have Su:=fC.sp;rw[hq]at Su;refine⟨_,rfl,_,_,_,_,_,rfl,⟨rfl,.lst qO,rfl⟩,_,rfl,ew rfl ?_⟩;refine⟨_,rfl,_,rfl,.list ((s.hq++Bs).map ut),.list ((s.hq++Bs).map ut),.lst (aJ.of qO) (sd Su),.lst (aJ.of (s3 _ _ Ο)) (sd (bf.eE Y' λ_ _ e=>e.same s3)),tV _,tV _,_,rfl,ew (Jp (D6 _)) ?_⟩;have bo:(aC g5.fF).length<=6000:=by have af:=gM Su;have ai:=O.wJ;have bU:=gM gR;rw[hi]at af;rw[eI];omega
  refine⟨_,rfl,.inl ⟨rfl,_,aJ.of qO⟩,l,_,_,rfl,rfl,qO,od bo (by decide),?_⟩;have gg:=fC.Gu apc apY qO (ys:=aC g5.fF++[V.bq]);have y7:l∈A.bH x\/H l=none:=by
   by_cases hm:l∈A.bH x
   .exact .inl hm
   .exact .inr (wc.new hm nl)
  have apI:∀b o,b∉A.bH x->H b=some o->b≠l:=λb o nb e z=>by
   rcases y7 with y|y
   .exact nb (z▸y)
   .rw[z,y]at e;cases e
  exact q _ g5 ⟨λb o nb e=>by rw[aA (apI b o nb e)];exact s3 _ _ (wc.keep b o nb e),eK.own⟩ gg
unseal fV bl fW f_
end
end dW
namespace ct
open PySem PySem.Spec PyProof.Rows ao
section
variable{X:bg}
theorem EB{K:aV}{C D:Addr}{b:Bool}(ay:Lw K D=true)(df:u7 K (.ref D)=some (.type "type"))(hs:nt K (.ref C) (.ref D)=some b)(aT:(cE C==cE D)=true->b=true):
  h8 K (.ref C) (.ref D)=some b:=by
 unfold h8;by_cases h:(cE C==cE D)=true
 .rw[bM h,aT h]
 .rw[bE h];unfold aeN;have af:(Ga K D).isSome=true:=ay;have ai:(u7 K (.ref D)==some (.type "type"))=true:=by rw[df];decide
  show(if((Ga K D).isSome&&u7 K (.ref D)==some (.type "type"))=true then _ else _)=_;rw[af,ai];exact(bM rfl).trans hs
end
section
variable{X:bg}{e o:Expr}{es:gO}{pos eX p:Pos}{k:Nat}{f C:Addr}{fd:cF}{ps:b9}{sp:cM}{b_:TE}{t:gi}{m x:Str}
theorem Wx{pl:Sem Bool}(he:bl X.q7 o b_)(c:fB X.K C)(hm:Meth X.K C m f)(F:aL X.prog X.w X.K X.mg X.base (nj X.prog X.w) k f fd ps sp)(aq:gk k X.A)(U:Binds X.K fd ps [])(aK:fV X.q7 (e::es) t)(k7:dV (e::es) X.env=(false,eval e X.env)::dV es X.env:=by rfl)(fP:(hA pos (dV es X.env)).any (·.1)=false:=by rfl)(df:eval (.Call (.Attribute o m eX) (e::es) [] pos) X.env=(do
   let eT <-eval o X.env
   sz eX.atName
   let(f,first) <-mm [eT] (vI eT m pl)
   yl pos f first (hA pos (dV (e::es) X.env)) (kO pos (k' [] X.env))):=by rfl):
  XP X (.Call (.Attribute o m eX) (e::es) [] pos) (Xi C m sp b_ t):=by intro pins s σ H Q E I h;refine Bp (pl:=pl) (y9 (X:=X) (pins:=pins) (bF (he pins s σ H _ (I.kG _) h) λu s1⟨x,H1,aR,bC,a,ah,fs,ex,au,l,q⟩=>?_)) df;subst ex;obtain rfl:u=cE a:=bC;have aR:=aR.kF;refine Ds aR au c hm l ?_;refine Bm (first:=[.ref a]) (h₀:=X.base) I.ok.mod.sf hm.bI (y9 (X:=X) (pins:=pins) (bF (aK pos pins s1 σ H1 _ (aR.kG _) q) λus s2⟨vs,ag,bD,r,cZ⟩=>⟨bD.kF.eD,?_⟩)) k7 fP;refine ae0 (us:=.ref a::us) (vs:=.ref a::vs) F aq U bD.kF (.cons rfl r) ?_;have D':sp (V.ref a::(vs++[])) ag Q E:=cZ;rw[l4]at D';exact D'
end
noncomputable def Gl(X:bg)(i1:List Stmt)(t:nv):Prop:=
 ∀(pins:cy)(s:aF)(σ:St)(H:ae)(D:Ends)(E:St->b6),Inv X pins σ H s->t D E σ H->aQ (a9 X.prog X.w) X.A (execs i1 X.env) (pC X pins D) (λe s'=>∃a4,Gq X pins a4 (E a4) e s') s
section
variable{X:bg}{pos:Pos}
theorem aeU:Gl X [] (λD _ σ H=>D.cj σ H):=λ_ _ σ H _ _ I h=>sH ⟨σ,H,I,h⟩
theorem TP{st:Stmt}{t:nv}(af:F8 X st t):Gl X [st] t:=by
 intro pins s σ H D E I h;refine JF (bF (af pins s σ H D E I h) λf s1 q=>?_);cases f with
 |next=>exact sH q
 |ret v=>exact q
 |brk=>exact q
 |cont=>exact q
theorem XO{c:Expr}{a b:List Stmt}{ke:TT}{t u:nv}(ay:lB X.q7 c ke)(aK:Gl X a t)(U:Gl X b u):F8 X (.If c a b pos) (λD E σ H=>ke σ H λk H1=>if k=true then t D E σ H1 else u D E σ H1):=by
 intro pins s σ H D E I h;refine wpAny_If (y9 (X:=X) (pins:=pins) (bF (ay pins s σ H _ (I.kG _) h) λd s1⟨H1,aR,bQ⟩=>?_));cases d with
 |true=>exact aK pins s1 σ H1 D E aR.kF bQ
 |false=>exact U pins s1 σ H1 D E aR.kF bQ
end
end ct
namespace dW
open PySem ao ct dx
structure YV(K:aV)(eb qm:Addr):Prop where
 sub:jL K eb eb=true
 re:h8 K (.ref eb) (.ref qm)=some true
 ic:lj K eb
 aT:b5 K (.ref eb) "number"=some none
 hd:pz K eb=true
theorem agf{l:dI}(h:∀x∈l,x<128):pv (.str (S l))=true:=by simp only[pv,XW,S];rw[aaa];intro x av;have:=h x (by simpa using av);exact cu (by omega)
theorem L3{l:dI}(h:∀x∈l,x<128)(z:l.length<=50)(H:ae):dw H (.str (S l)) (.str (S l)):=.str _ (by rw[ra];omega) (agf h)
theorem Yz{hs:bc}(G:Good hs){h:Str}(m:h∈hs.map S):h++eR "A"∉hs.map S/\(∀H,dw H (.str (h++eR "A")) (.str (h++eR "A")))/\h.length<=8:=by
 obtain⟨l,aj,rfl⟩:=b4.mp m;have n:=G.nm l aj;have amV:eR "A"=S [65]:=by decide+kernel
 rw[amV,w2];refine⟨λz=>?_,L3 (λx av=>?_) (by rw[hi];have:=n.2.1;show _+1<=50;omega),by rw[ra];exact n.2.1⟩
 .obtain⟨y,cS,e⟩:=b4.mp z;have:=(G.nm y cS).2.2 65 (by rw[uD e];simp);omega
 .rcases hj.mp av with av|av
  .have:=n.2.2 x av;omega
  .rw[hr.mp av];decide
section
variable{P:bO}{w:bx}{K:aV}{mg:cI}{base:Heap}
noncomputable abbrev ED:Stmt:=top 53
noncomputable abbrev apE:List Str:=["_law_day","_law_house","_law_goal","_law_number","_law_n","_law_error","e"]
noncomputable abbrev D8:List Str:=["_law_day","_law_house","_law_goal","_law_number","_law_n"]
theorem Gj:dB apE D8 (c7 ED):=⟨rfl,rfl,rfl,by decide+kernel,rfl,by decide+kernel,by decide+kernel⟩
inductive aiQ(aw C aS az:Addr)(vs:aZ)(H:ae)(Q:ba)(E:b6):Prop where
 |mk (aY:ae) (x:Addr) (A:d4) (hs:bc) (ds:bT) (s:cG) (h g:Str) (n:Int) (bV:vs=[.ref x,.str h,.str g,.int (s.a7.length:Int),.int n]) (bA:dS aw C aS az aY H x A hs ds s) (cn:Good hs) (di:Fm hs s.a7) (d8:s.a7.length<=39) (fI:s.aE.length=s.a7.length) (iM:h∈hs.map S) (lx:g∈hs.map S) (nh:lL hs s) (rz:rD (bR hs) ((s.a7++[(h,s.pr,g)]).map gH))
   (xb:∀H' hg,gK (A.bH x) (hg.bH x) H H'->dS aw C aS az aY H' x hg hs ds (nT s h g)->Q (.aM true) H')
noncomputable def L4(aw C aS az:Addr):cM:=λvs H Q E=>aiQ aw C aS az vs H Q E
seal fV bl fW f_
theorem aiR{aw C aS az eb qm f f1:Addr}{fd c4:cF}(F:bB K "_law_posted" "_law_posted" ED f fd)(B:gp mg)(fE:fB K aw)(l7:YV K eb qm)(qw:mg "RoadError"=some (.ref qm))(vK:mg "NoLetter"=some (.ref eb))(oq:c6 K aw "post" "Day.post" zW ["self","house","goal"] f1 c4)(DA:aL P w K mg base (nj P w) 5 f1 c4 ["self","house","goal"] (Fn aw C aS az eb)):aL P w K mg base a8 6 f fd D8 (L4 aw C aS az):=by
 refine F.ok Gj (λvs H Q E h=>?_) (λcdv rC outer s0 H vs Q E aq h=>?_)
 .obtain⟨aY,x,A,hs,ds,s,h',g',n,rfl,_⟩:=h;rfl
 .obtain⟨aY,x,A,hs,ds,s,h',g',n,rfl,D,G,pj,aui,DK,lP,à,iw,qq,q⟩:=h;have anI:=l7.sub;refine⟨_,(bh (da (i:=5) Gj.aG rfl (cb rfl) kU)
   (bh (afT (i:=6) rfl rfl (XO (eC i9 (bK e9 (aa 4) aW) aW (dz _)) (TP (Va (Wx (aa 0) fE oq.eo DA (aq.mono (by decide)) oq.bd (ak (aa 1) (ak (aa 1) aI))))) (TP (XO (eC i9 (bK e9 (aa 4) aW) aW (dz _)) (TP (Va (Wx (aa 0) fE oq.eo DA (aq.mono (by decide)) oq.bd (ak (bK Dr (aa 1) j2) (ak (aa 2) aI))))) aeU))) Gj.aG rfl rfl rfl vK anI (λau=>(br (da (i:=5) Gj.aG rfl (cb rfl) (aa 6)))))
   (bh (eY (iv.pt (t5 (eC p2 (bK e9 (aa 4) aW) aW (dz _)) (Ea (iv.pt (oI (i7 (iR (dE abG (by rfl) B.isinstance jD (ak (aa 5) (ak (JU (by rfl) qw) aI))))) (pR (eC wY (aeX (aa 5) (by rfl)) (aa 3) (dz _)))))))) (br (c_ hW)) fv)
   (br (c_ (i6 i9 (g_ (aa 0) fE oq.eo DA (aq.mono (by decide)) oq.bd .nil Yr (ak (aa 1) (ak (aa 2) aI))) (aa 3) (dz _))))))),?_⟩
  have fin:∀ag,aN H ag->∀u9:ba,(∀H',Q (.aM true) H'->u9 (.int (s.a7.length:Int)) H')->WN aw C aS az eb [.ref x,.str h',.str g'] ag u9 rG:=λag s2 u9 k=>
   ⟨aY,x,A,hs,ds,s,h',g',rfl,D.same s2,G,pj,by omega,DK,λ_=>kA G lP,λ_=>kA G à,λ_ H' hg eK cA=>k H' (q H' hg ((gK.refl s2).trans eK) cA),λna=>bG qq na⟩
  have bad:∀{h g:Str},hS (bR hs) (gH (h,s.pr,g))=false->lH (bR hs) ((s.a7++[(h,s.pr,g)]).map gH)=some s.a7.length/\¬rD (bR hs) ((s.a7++[(h,s.pr,g)]).map gH):=λ{h g}b=>by have e:=aeq iw b;refine⟨e,λz=>?_⟩;rw[z.1]at e;cases e
  have kN:hS (bR hs) (gH (h',s.pr,h'))=false:=xd.mpr λz=>(JC.mp z).2.2.1 rfl;have zd:=Yz G lP;have fD:hS (bR hs) (gH (h'++eR "A",s.pr,g'))=false:=xd.mpr λz=>zd.1 (JC.mp z).1;refine⟨_,rfl,_,_,rfl,rfl,(by show(0:Int)<4;decide),rfl,_,rfl,nZ (λvn=>?_) (λvn=>?_)⟩
  .refine⟨_,rfl,x,_,_,rfl,D.ins,rfl,_,rfl,_,rfl,aY,x,A,hs,ds,s,h',h',rfl,D,G,pj,by omega,DK,λ_=>kA G lP,λ_=>kA G lP,λz=>bG z (bad kN).2,λ_ ah H1 aG s1 hd=>⟨eb,ah,rfl,rfl,l7.sub,λau ik=>?_⟩⟩;rw[(bad kN).1]at hd;have v8:n%4<2:=by have:=V.int.inj (ju vn);omega
   refine⟨_,rfl,?_⟩;have kE:aN H (upd H1 au (kS au eb ah)):=s1.trans (bW ik);have fz:upd H1 au (kS au eb ah) au=some (kS au eb ah):=aP;have kv:upd H1 au (kS au eb ah) ah=some (mC ah [("number",V.int (s.a7.length:Int))]):=bW ik _ _ hd;generalize upd H1 au (kS au eb ah)=ag at kE fz kv⊢;refine⟨_,rfl,_,_,rfl,rfl,(by show(0:Int)<4;decide),_,_,rfl,rfl,_,rfl,fH (cu v8) ?_⟩;refine⟨_,rfl,au,eb,ah,_,fz,l7.ic,.inl ⟨_,rfl,l7.re⟩,_,rfl,ew rfl ?_⟩;refine⟨_,rfl,au,eb,ah,_,_,rfl,fz,kv,l7.ic,l7.aT,l7.hd,rfl,_,rfl,rfl,_,rfl,ew (by rw[cu rfl];rfl) ?_⟩;exact⟨_,rfl,x,_,_,rfl,(D.same kE).ins,rfl,_,rfl,_,rfl,fin ag kE _ λH' Eb=>⟨_,rfl,rfl,nO (cu rfl) Eb⟩⟩
  refine⟨_,rfl,_,_,rfl,rfl,(by show(0:Int)<4;decide),rfl,_,rfl,nZ (λc1=>?_) (λc1=>?_)⟩
  .refine⟨_,rfl,x,_,_,rfl,D.ins,rfl,_,rfl,_,_,rfl,rfl,?_,_,rfl,aY,x,A,hs,ds,s,h'++eR "A",g',rfl,D,G,pj,by omega,DK,zd.2.1,λ_=>kA G à,λz=>bG z (bad fD).2,λ_ ah H1 aG s1 hd=>⟨eb,ah,rfl,rfl,l7.sub,λau ik=>?_⟩⟩
   .have:=zd.2.2;exact oc (eW (by show _+1<=1000;omega))
   rw[(bad fD).1]at hd;have v8:n%4<2:=by have:=V.int.inj (ju c1);omega
   refine⟨_,rfl,?_⟩;have kE:aN H (upd H1 au (kS au eb ah)):=s1.trans (bW ik);have fz:upd H1 au (kS au eb ah) au=some (kS au eb ah):=aP;have kv:upd H1 au (kS au eb ah) ah=some (mC ah [("number",V.int (s.a7.length:Int))]):=bW ik _ _ hd;generalize upd H1 au (kS au eb ah)=ag at kE fz kv⊢;refine⟨_,rfl,_,_,rfl,rfl,(by show(0:Int)<4;decide),_,_,rfl,rfl,_,rfl,fH (cu v8) ?_⟩;refine⟨_,rfl,au,eb,ah,_,fz,l7.ic,.inl ⟨_,rfl,l7.re⟩,_,rfl,ew rfl ?_⟩;refine⟨_,rfl,au,eb,ah,_,_,rfl,fz,kv,l7.ic,l7.aT,l7.hd,rfl,_,rfl,rfl,_,rfl,ew (by rw[cu rfl];rfl) ?_⟩;exact⟨_,rfl,x,_,_,rfl,(D.same kE).ins,rfl,_,rfl,_,rfl,fin ag kE _ λH' Eb=>⟨_,rfl,rfl,nO (cu rfl) Eb⟩⟩
  have anl:¬n%4<2:=by have h0:=iu n (show(4:Int)≠0 by decide);have vn:n%4≠0:=λz=>vn (cu (ha V.int z));have c1:n%4≠1:=λz=>c1 (cu (ha V.int z));omega
  refine⟨_,rfl,_,_,rfl,rfl,(by show(0:Int)<4;decide),_,_,rfl,rfl,_,rfl,ew (dJ anl) ?_⟩;exact⟨_,rfl,x,_,_,rfl,D.ins,rfl,_,rfl,_,rfl,fin H (aN.refl _) _ λH' Eb=>⟨_,rfl,rfl,nO (cu rfl) Eb⟩⟩
unseal fV bl fW f_
end
structure YW(K:aV)(qm cT dy:Addr):Prop where
 dm:jL K cT cT=true
 Ho:lj K cT
 aoA:h8 K (.ref cT) (.ref qm)=some true
 aoM:h8 K (.ref cT) (.type "ValueError")=some true
 aoj:h8 K (.ref cT) (.ref cT)=some true
 aok:h8 K (.ref cT) (.ref dy)=some false
 fS:jL K dy dy=true
 R5:Kq K dy cT
 IY:lj K dy
 aqX:h8 K (.ref dy) (.ref qm)=some true
 aqY:h8 K (.ref dy) (.type "ValueError")=some true
 aqT:h8 K (.ref dy) (.ref cT)=some false
 aqU:h8 K (.ref dy) (.ref dy)=some true
section
variable{P:bO}{w:bx}{K:aV}{mg:cI}{base:Heap}
noncomputable abbrev EG:Stmt:=top 52
noncomputable abbrev apF:List Str:=["_law_day","_law_names","_law_lines","_law_n","_law_house","_law_goal","_law_road_here","_law_other","_law_foreign","_law_error","_law_what","e"]
noncomputable abbrev D9:List Str:=["_law_day","_law_names","_law_lines","_law_n"]
theorem p_:dB apF D9 (c7 EG):=⟨rfl,rfl,rfl,by decide+kernel,rfl,by decide+kernel,by decide+kernel⟩
inductive aiS(aw C aS az:Addr)(vs:aZ)(H:ae)(Q:ba)(E:b6):Prop where
 |mk (aY:ae) (x:Addr) (A:d4) (hs:bc) (ds:bT) (s:cG) (d6 cB:Addr) (rs:bS) (n:Int) (bV:vs=[.ref x,.ref d6,.ref cB,.int n]) (bA:dS aw C aS az aY H x A hs ds s) (cn:Good hs) (di:2<=hs.length) (d8:1<=ds.length) (fI:A.rs.length<=40) (iM:s.kvs.length<=900) (lx:s.eA.length<=900) (nh:aY d6=some (.lst (cK hs))) (rz:aY cB=some (.lst (aC rs))) (z4:ix aY hs rs ds)
   (xb:∀H',aN H H'->Q (.aM true) H')
noncomputable def L5(aw C aS az:Addr):cM:=λvs H Q E=>aiS aw C aS az vs H Q E
seal fV bl fW f_
theorem aiT{aw C aS az qm cT dy f f1 f2 cz f4:Addr}{fd c4 ec hn kT:cF}(F:bB K "_law_refused" "_law_refused" EG f fd)(B:gp mg)(fE:fB K aw)(gs:YW K qm cT dy)(qw:mg "RoadError"=some (.ref qm))(DB:mg "NoHouse"=some (.ref cT))(DO:mg "NoRoad"=some (.ref dy))(tH:c6 K aw "shut" "Day.shut" zY ["self","road"] f1 c4)(RU:aL P w K mg base (ed P w) 3 f1 c4 ["self","road"] (uz aw C aS az dy Al))(tx:c6 K aw "reopen" "Day.reopen" xZ ["self","road"] f2 ec)(QS:aL P w K mg base (ed P w) 3 f2 ec ["self","road"] (uz aw C aS az dy we))(tv:c6 K aw "drop_way" "Day.drop_way" xY ["self","house","goal"] cz hn)(P':aL P w K mg base (ed P w) 4 cz hn ["self","house","goal"] (FV aw C aS az cT))(qt:c6 K aw "set_way" "Day.set_way" xX ["self","house","goal","road"] f4 kT)(HS:aL P w K mg base (ed P w) 4 f4 kT ["self","house","goal","road"] (FU aw C aS az cT dy)):
  aL P w K mg base a8 5 f fd D9 (L5 aw C aS az):=by
 refine F.ok p_ (λvs H Q E h=>?_) (λcdv rC outer s0 H vs Q E aq h=>?_)
 .obtain⟨aY,x,A,hs,ds,s,d6,cB,rs,n,rfl,_⟩:=h;rfl
 .obtain⟨aY,x,A,hs,ds,s,d6,cB,rs,n,rfl,D,G,ai,jH,eh,lN,bo,r4,qI,Rr,q⟩:=h;have G0:rs.length<=40:=by have:=D.lV.len;have:=Rr.len;omega
  have anH:=gs.dm;have anJ:=gs.fS;refine⟨_,(bh (da (i:=4) p_.aG rfl (rN rfl) (cv fu (aa 1) (bK e9 (bK g9 (aa 3) aW) (dE gP (by rfl) B.len gF (ak (aa 1) aI))) (λ_ _=>rfl)))
   (bh (da (i:=5) p_.aG rfl (cb rfl) (cv fu (gS (ak (aa 4) (ak j2 (ak (bK Dr (aa 4) j2) (ak (bK Dr (bK Dr (cv fu (aa 1) aW (λ_ _=>rfl)) (cv fu (aa 1) aW (λ_ _=>rfl))) j2) aI))))) (bK e9 (bK g9 (aa 3) aW) aW) (λ_ _=>rfl)))
   (bh (da (i:=6) p_.aG rfl (cb rfl) (cv fu (gS (ak (bK ib (dE gP (by rfl) B.len gF (ak (aa 2) aI)) (bK e9 (bK g9 (aa 3) aW) (bK JK aW aW))) (ak (bK sg (KQ Kf aW) (bK e9 (bK g9 (aa 3) aW) (bK JK aW aW))) aI))) (bK e9 (bK g9 (aa 3) aW) aW) (λ_ _=>rfl)))
   (bh (da (i:=7) p_.aG rfl (cb rfl) (cv fu (aa 1) (bK e9 (bK ib (bK g9 (aa 3) aW) aW) (dE gP (by rfl) B.len gF (ak (aa 1) aI))) (λ_ _=>rfl)))
   (bh (da (i:=8) p_.aG rfl (cb rfl) (bK Kh (uB (N':=["_law_k","_law_house","_law_lines"]) (cs:=[none,some 4,some 2]) rfl (yR rfl B.range (ak (dE gP (by rfl) B.len gF (ak (aa 2) aI)) aI)) rfl (by decide+kernel) rfl (by decide+kernel) (lK (n'.mpr ⟨rfl,(n'.mpr ⟨rfl,(λp aO=>bG aO (dX))⟩)⟩)) rfl
    (.own (.md rfl (.inl rfl) (.inl rfl) rfl (.md rfl (.inl rfl) (.inl rfl) rfl .nil)))
    (λC s3 a_ cp fg=>⟨(et (i:=0) (by show(["_law_k","_law_house","_law_lines"]:b9).Nodup;decide+kernel) rfl (.inl rfl)),(zf (eC wY (cv (v' (K:=K) rfl) (cv (Tw (K:=K) rfl) (aa 2) (aa 0) (λ_ _=>rfl)) aW (λ_ _=>rfl)) (aa 1) (dz _))),(aa 0)⟩)) (gS (ak (aa 6) aI))))
   (bh (da (i:=9) p_.aG rfl (cb rfl) kU)
   (bh (da (i:=10) p_.aG rfl (cb rfl) (bK e9 (aa 3) aW))
   (bh (afO (i:=11) rfl rfl (r9 (JR (eC p2 (aa 10) aW (dz _)) (r9 (DY (Ef (aa 0) fE qt.eo HS (aq.mono (by decide)) qt.bd (ak (aa 4) (ak (aa 5) (ak (bK e9 (bK g9 (aa 3) aW) (dE gP (by rfl) B.len gF (ak (aa 2) aI))) aI)))))) (r9 (JR (eC i9 (aa 10) aW (dz _)) (r9 (DY (Ef (aa 0) fE tv.eo P' (aq.mono (by decide)) tv.bd (ak (aa 4) (ak (aa 5) aI))))) (r9 (JR (eC p2 (aa 10) aW (dz _)) (r9 (DY (Ef (aa 0) fE qt.eo HS (aq.mono (by decide)) qt.bd (ak (aa 4) (ak (aa 7) (ak (cv fu (aa 8) (bK e9 (bK g9 (aa 3) aW) (dE gP (by rfl) B.len gF (ak (aa 8) aI))) (λ_ _=>rfl)) aI)))))) (r9 (JR (eC i9 (aa 10) aW (dz _)) (r9 (DY (Ef (aa 0) fE tH.eo RU (aq.mono (by decide)) tH.bd (ak (aa 6) aI)))) (r9 (DY (Ef (aa 0) fE tx.eo QS (aq.mono (by decide)) tx.bd (ak (aa 6) aI)))))))))))) p_.aG rfl rfl rfl DB anH (λau=>(br (da (i:=9) p_.aG rfl (cb rfl) (aa 11)))) rfl DO anJ (λau=>(br (da (i:=9) p_.aG rfl (cb rfl) (aa 11)))))
   (bh (eY (iv.pt (oI (i7 (iR (dE IF (by rfl) B.isinstance jD (ak (aa 9) (ak (JU (by rfl) qw) aI))))) (pR (i7 (iR (dE IF (by rfl) B.isinstance jD (ak (aa 9) (ak (lJ (by rfl) B.ValueError asv) aI)))))))) (br (c_ hW)) fv)
   (br (c_ (i6 (zw aq.units) (gS (ak (dE IF (by rfl) B.isinstance jD (ak (aa 9) (ak (JU (by rfl) DB) aI))) (ak (dE IF (by rfl) B.isinstance jD (ak (aa 9) (ak (JU (by rfl) DO) aI))) aI))) (gS (ak (i6 p2 (aa 10) aW (dz _)) (ak (i6 wZ (aa 10) aW (dz _)) aI))) (dz _))))))))))))),?_⟩
  have aO:=D.b' _ _ r4;have hd:=D.b' _ _ qI;have du:(cK hs).length=hs.length:=by unfold cK;rw[bp]
  have pos:(0:Int)<((cK hs).length:Int):=by omega
  have rl:(aC rs).length=ds.length:=by rw[eI,Rr.len]
  obtain⟨u,BB,nE⟩:=sh (λy=>V.str (S y)) (L:=hs) (by omega) (n/8);obtain⟨v,BC,ev⟩:=sh (λy=>V.str (S y)) (L:=hs) (by omega) (n/8+1);have bH:S u∈hs.map S:=b4.mpr ⟨u,eH nE,rfl⟩;have eK:S v∈hs.map S:=b4.mpr ⟨v,eH ev,rfl⟩;have ne:S u≠S v:=λz=>by have e:=uD z;subst e;obtain⟨af,aB⟩:=eM.mp nE;obtain⟨bU,cH⟩:=eM.mp ev;have:=(u1 G.aG).mp (aB.trans cH.symm);have a1:0<=n/8%(hs.length:Int):=iu _ (by omega);have a2:0<=(n/8+1)%(hs.length:Int):=iu _ (by omega);have:=KD (x:=n/8) (c:=1) (m:=hs.length) (by omega) (by omega);omega
  have un:=Ũ bH eK ne;have zd:=Yz G bH;have cJ:hs.getD 0 []=hs[0]'(by omega):=by rw[eL,dv (by omega)];rfl
  have y5:=G.nm (hs[0]'(by omega)) (qf _);have aqi:=G.nm u (eH nE);have Ng:ao.hx (cK hs) 0=some (V.str (S (hs[0]'(by omega)))):=by have:=iQ (show(cK hs)[0]?=some (V.str (S (hs[0]'(by omega)))) by unfold cK;rw[c9,dv (by omega)];rfl);exact this
  generalize hs[0]'(by omega)=n5 at y5 Ng;refine⟨_,rfl,_,rfl,_,_,rfl,rfl,⟨by decide,by decide⟩,_,rfl,d6,_,rfl,.inl (aJ.of aO),_,_,rfl,rfl,pos,d6,_,_,_,rfl,rfl,aJ.of aO,BB,?_⟩;refine⟨_,rfl,_,rfl,_,_,rfl,rfl,?_,_,rfl,d6,_,_,_,rfl,rfl,aJ.of aO,Ng,_,rfl,d6,_,_,_,rfl,rfl,aJ.of aO,Ng,_,_,rfl,rfl,?_,_,_,rfl,rfl,?_,(by show 4<=sizeLine;decide),λhK pX=>?_⟩
  .have:=aqi.2.1;rw[ra];exact oc (eW (by show _+1<=1000;omega))
  .have:=y5.2.1;rw[ra];exact oc (eW (by omega))
  .have:=y5.2.1;rw[w2,ra,hi];exact oc (eW (by show _+8<=1000;omega))
  obtain⟨g,M1,dA,hG⟩:∃g:Str,ao.hx [V.str (S u),V.str (eR ""),V.str (S u++eR "A"),V.str (S n5++S n5++eR "aaaaaaaa")] (n/64%4)=some (.str g)/\(∀H,dw H (.str g) (.str g))/\(g∈hs.map S->g=S u):=by
   have aoV:0<=n/64%4:=iu _ (by decide);have Pm:n/64%4<4:=l3 _ (by decide);have:n/64%4=0\/n/64%4=1\/n/64%4=2\/n/64%4=3:=by omega
   have pK:eR ""=S []:=by decide+kernel
   have au:eR "aaaaaaaa"=S [97,97,97,97,97,97,97,97]:=by decide+kernel
   rcases this with e|e|e|e
   .exact⟨_,by rw[e];exact iQ (j:=0) rfl,λ_=>kA G bH,λ_=>rfl⟩
   .refine⟨_,by rw[e];exact iQ (j:=1) rfl,by rw[pK];exact L3 (by simp) (by decide),λz=>?_⟩;obtain⟨y,cS,aD⟩:=b4.mp z;rw[pK]at aD;have:=(G.nm y cS).1;rw[uD aD]at this;simp at this
   .exact⟨_,by rw[e];exact iQ (j:=2) rfl,zd.2.1,λz=>bG z zd.1⟩
   .refine⟨_,by rw[e];exact iQ (j:=3) rfl,?_,λz=>?_⟩
    .rw[au,w2,w2];refine L3 (λy cS=>?_) (by rw[hi,hi];have:=y5.2.1;show _+_+8<=50;omega);rcases hj.mp cS with cS|cS
     .rcases hj.mp cS with cS|cS<;>(have:=y5.2.2 y cS;omega)
     .have:∀x∈[97,97,97,97,97,97,97,97],x<128:=by decide
      exact this y cS
    .obtain⟨y,cS,aD⟩:=b4.mp z;rw[au,w2,w2]at aD;have kV:=(G.nm y cS).2.1;rw[uD aD,hi,hi]at kV;have:=y5.1;have kV:n5.length+n5.length+8<=8:=kV;omega
  have Te:hy (bR hs) (.str (S u)) (.str g)=false:=xd.mpr λz=>by obtain⟨bV,bA⟩:=ń z;have:=hG bA;rw[this]at z;unfold hy at z;rw[Uq,cu rfl]at z;simp at z
  have s1:=bW (o:=.lst [V.str (S u),V.str (eR ""),V.str (S u++eR "A"),V.str (S n5++S n5++eR "aaaaaaaa")]) pX;refine⟨_,rfl,_,_,rfl,rfl,⟨by decide,by decide⟩,_,_,rfl,rfl,(by show(0:Int)<4;decide),hK,_,_,_,rfl,rfl,aJ.of aP,M1,?_⟩;generalize upd H hK (.lst [V.str (S u),V.str (eR ""),V.str (S u++eR "A"),V.str (S n5++S n5++eR "aaaaaaaa")])=H1 at s1⊢;have tL:=s1 _ _ hd;have at6:=s1 _ _ aO;have uk:(0:Int)<10 ^ (6:Int).toNat:=by decide
  refine⟨_,rfl,cB,_,rfl,.inl (aJ.of tL),_,rfl,_,_,rfl,rfl,⟨by decide,by decide⟩,_,_,rfl,rfl,⟨by decide,by decide,by decide⟩,_,_,rfl,rfl,uk,_,_,rfl,rfl,_,rfl,_,rfl,_,_,rfl,rfl,⟨by decide,by decide⟩,_,_,rfl,rfl,⟨by decide,by decide,by decide⟩,_,_,rfl,rfl,uk,_,_,rfl,rfl,(by show 2<=sizeLine;decide),λgG lg=>?_⟩;have oT:0<=n/512%10 ^ (6:Int).toNat:=iu _ (by decide);generalize n/512%10 ^ (6:Int).toNat=yx at oT lg⊢;obtain⟨fS,arr,Nk⟩:∃fS:Int,ao.hx [V.int (((aC rs).length:Int)+yx),V.int (-1-yx)] (n/256%2)=some (.int fS)/\¬(0<=fS/\fS<ds.length):=by
   have aoV:0<=n/256%2:=iu _ (by decide);have Pm:n/256%2<2:=l3 _ (by decide);have:n/256%2=0\/n/256%2=1:=by omega
   rcases this with e|e
   .exact⟨_,by rw[e];exact iQ (j:=0) rfl,by omega⟩
   .exact⟨_,by rw[e];exact iQ (j:=1) rfl,by omega⟩
  have s2:=bW (o:=.lst [V.int (((aC rs).length:Int)+yx),V.int (-1-yx)]) lg;refine⟨_,rfl,_,_,rfl,rfl,⟨by decide,by decide⟩,_,_,rfl,rfl,(by show(0:Int)<2;decide),gG,_,_,_,rfl,rfl,aJ.of aP,arr,?_⟩;have gA:=s1.trans s2;generalize upd H1 gG (.lst [V.int (((aC rs).length:Int)+yx),V.int (-1-yx)])=ag at gA⊢;have qS:=gA _ _ aO;have hd2:=gA _ _ hd;refine⟨_,rfl,_,rfl,_,_,rfl,rfl,⟨by decide,by decide⟩,_,_,rfl,rfl,_,rfl,d6,_,rfl,.inl (aJ.of qS),_,_,rfl,rfl,pos,d6,_,_,_,rfl,rfl,aJ.of qS,BC,?_⟩;dsimp only[lR,rv,ES,hX];have CO:=Rr.same (D.b'.trans gA);have yG:=CO.len;have item:∀(i:Nat)(v:ao.V),((ek (aC rs).length).map λi:Nat=>V.int ((0:Int)+(i:Int)))[i]?=some v->∃r d,v=.int ((0:Int)+(i:Int))/\rs[i]?=some r/\ds[i]?=some d/\ag r=some (.tup (lU hs d)):=λi v ev=>by rw[c9]at ev;obtain⟨j,eZ,rfl⟩:=fJ.mp ev;obtain⟨ar,e⟩:=eM.mp eZ;rw[jz]at ar;rw[x5]at e;subst e;have f3:rs[i]?=some rs[i]:=dv (by omega);obtain⟨d,dY,_,hd⟩:=CO.get f3;exact⟨_,d,rfl,f3,dY,hd⟩
  refine Xn (J:=n9 0 (aC rs).length) (H1:=ag) (xs:=(ek (aC rs).length).map λi:Nat=>V.int ((0:Int)+(i:Int))) (rest:=[some (.str (S u)),some (.ref cB)]) (λR h=>⟨_,rfl,cB,_,rfl,.inl (aJ.of hd2),_,rfl,(by show -(2 ^ 62)<=((aC rs).length:Int);omega),(by show((aC rs).length:Int)<2 ^ 62;omega),h⟩) rfl (IS 0 _) (eW (by rw[bp,jz];omega))
   (λv=>match v with|.int k=>!decide (V.str (S (hs.getD (ds.getD k.toNat fc).a []))=V.str (S u))|_=>false) (λv=>v) (λi v a_ R ev aH jN=>?_) (λi v a_ R ev _ aH jN=>⟨_,rfl,jN a_ (aN.refl _)⟩) (λzc uV pV qH zx=>?_)
  .obtain⟨cw,d,rfl,NH,dY,mZ⟩:=item i v ev;have cJ:ds.getD ((0:Int)+(i:Int)).toNat fc=d:=by rw[show((0:Int)+(i:Int)).toNat=i by omega];exact wd dY
   have CN:∀bw,aN a_ bw->R (!decide (V.str (S (hs.getD (ds.getD ((0:Int)+(i:Int)).toNat fc).a []))=V.str (S u))) bw:=jN;rw[cJ]at CN;exact⟨_,rfl,_,rfl,cB,_,_,_,rfl,rfl,aJ.of (aH _ _ hd2),Wn NH,cw,_,_,_,rfl,rfl,cN.of (aH _ _ mZ),rfl,_,rfl,rfl,_,rfl,CN a_ (aN.refl _)⟩
  have anc:=Œ (aC rs).length λi=>!decide (V.str (S (hs.getD (ds.getD i fc).a []))=V.str (S u));have qH:uV zc=some (.lst ((((ek (aC rs).length).filter λi=>!decide (V.str (S (hs.getD (ds.getD i fc).a []))=V.str (S u))).map λi:Nat=>(i:Int)).map V.int)):=by rw[qH];congr 2
  obtain⟨L,tA⟩:∃L,L=((ek (aC rs).length).filter λi=>!decide (V.str (S (hs.getD (ds.getD i fc).a []))=V.str (S u))).map λi:Nat=>(i:Int):=⟨_,rfl⟩
  rw[<-tA]at qH;have ac5:∀k∈L++[fS],k∉iI hs ds (·.a) (S u):=λk aX hm=>by
   unfold iI zJ at hm;obtain⟨i,ar,rfl⟩:=b4.mp hm;obtain⟨af,ai⟩:=gJ.mp ar;rcases hj.mp aX with y|y
   .rw[tA]at y;obtain⟨j,bL,e⟩:=b4.mp y;have:=KN e;subst this;have:=(gJ.mp bL).2;rw[ai]at this;cases this
   .have e:=hr.mp y;have:=lz.mp af;exact Nk ⟨by omega,by omega⟩
  have as8:L.length<=40:=by rw[tA,bp];exact eQ (jl _ _) (by rw[jz,eI];exact G0)
  clear anc item;refine⟨_,rfl,(by show 1<=sizeLine;decide),λj9 t_=>?_⟩;have s4:=bW (o:=.lst [V.int fS]) t_;refine⟨zc,j9,_,_,rfl,rfl,s4 _ _ qH,aP,oc (eW (by rw[bp];show _+1<=1000;omega)),λvF apR=>?_⟩;have s5:=bW (o:=.lst (L.map V.int++[V.int fS])) apR;have OE:upd (upd uV j9 (.lst [V.int fS])) vF (.lst (L.map V.int++[V.int fS])) vF=some (.lst ((L++[fS]).map V.int)):=by rw[aP,eU];rfl
  have f7:=gA.trans (zx.trans (s4.trans s5));generalize upd (upd uV j9 (.lst [V.int fS])) vF (.lst (L.map V.int++[V.int fS]))=gh at OE f7⊢;refine⟨_,rfl,_,_,rfl,rfl,(by show(0:Int)<8;decide),?_⟩;have w4:0<=n%8:=iu _ (by decide);have E5:n%8<8:=l3 _ (by decide);generalize n%8=ki at w4 E5⊢;have kH:=D.same f7;have Hm:=f7 _ _ hd;have RK:(0:Int)<((aC rs).length:Int):=by omega
  refine Wf (t:=Yu _ _ _ _ _ _ _) (λcA=>(ki<3->∀(e1:ae)(au:Addr),aN H e1->e1 au=none->cA.cj [some (.ref x),some (.ref d6),some (.ref cB),some (.int n),some (.str (S u)),some (.str g),some (.int fS),some (.str (S v)),some (.ref vF),some (.ref au),some (.int ki),none] (upd e1 au (kC au cT)))/\(2<ki->∀(e1:ae)(au:Addr),aN H e1->e1 au=none->cA.cj [some (.ref x),some (.ref d6),some (.ref cB),some (.int n),some (.str (S u)),some (.str g),some (.int fS),some (.str (S v)),some (.ref vF),some (.ref au),some (.int ki),none] (upd e1 au (kC au dy)))) ?_ λcA rest=>?_
  .have ends:∀(l ho:Addr)(dD:ae)(fD fL:Bool),aN H dD->dD l=none->upd dD l (.lst [.aM fD,.aM fL]) ho=none->LM K false (.ref l) (.ref ho) (upd (upd dD l (.lst [.aM fD,.aM fL])) ho (.lst [.aM fD,.aM fL])) Q:=λl ho dD fD fL fh nl wh=>by have jv:=bW (o:=.lst [.aM fD,.aM fL]) nl;have ri:=bW (o:=.lst [.aM fD,.aM fL]) wh;refine⟨.list [.bool fD,.bool fL],.list [.bool fD,.bool fL],.lst (aJ.of (ri _ _ aP)) (.cons (.aM _) (.cons (.aM _) .nil)),.lst (aJ.of aP) (.cons (.aM _) (.cons (.aM _) .nil)),rfl,rfl,?_⟩;refine nO (yZ _ rfl) (q _ (fh.trans (jv.trans ri)))
   refine⟨λc e1 au gm ik=>?_,λc e1 au gm ik=>?_⟩
   .have fz:upd e1 au (kC au cT) au=some (kC au cT):=aP;have fh:=gm.trans (bW (o:=kC au cT) ik);generalize upd e1 au (kC au cT)=dD at fz fh⊢;refine⟨_,rfl,au,cT,_,fz,gs.Ho,.inl ⟨_,rfl,gs.aoA⟩,_,rfl,gx ?_⟩;refine⟨_,rfl,au,cT,_,fz,gs.Ho,.inr ⟨_,rfl,gs.aoM⟩,_,rfl,gx ?_⟩;refine⟨_,rfl,au,cT,_,fz,gs.Ho,.inl ⟨_,rfl,gs.aoj⟩,_,rfl,au,cT,_,fz,gs.Ho,.inl ⟨_,rfl,gs.aok⟩,(by show 2<=sizeLine;decide),λl nl=>⟨_,rfl,_,_,rfl,rfl,_,rfl,_,_,rfl,rfl,(by show 2<=sizeLine;decide),λho wh=>?_⟩⟩;rw[show decide (ki<3)=true from cu c,show decide (ki>2)=false from dJ (by omega)];exact ends l ho dD _ _ fh nl wh
   .have fz:upd e1 au (kC au dy) au=some (kC au dy):=aP;have fh:=gm.trans (bW (o:=kC au dy) ik);generalize upd e1 au (kC au dy)=dD at fz fh⊢;refine⟨_,rfl,au,dy,_,fz,gs.IY,.inl ⟨_,rfl,gs.aqX⟩,_,rfl,gx ?_⟩;refine⟨_,rfl,au,dy,_,fz,gs.IY,.inr ⟨_,rfl,gs.aqY⟩,_,rfl,gx ?_⟩;refine⟨_,rfl,au,dy,_,fz,gs.IY,.inl ⟨_,rfl,gs.aqT⟩,_,rfl,au,dy,_,fz,gs.IY,.inl ⟨_,rfl,gs.aqU⟩,(by show 2<=sizeLine;decide),λl nl=>⟨_,rfl,_,_,rfl,rfl,_,rfl,_,_,rfl,rfl,(by show 2<=sizeLine;decide),λho wh=>?_⟩⟩;rw[show decide (ki<3)=false from dJ (by omega),show decide (ki>2)=true from cu c];exact ends l ho dD _ _ fh nl wh
  .refine⟨_,rfl,_,_,rfl,rfl,_,rfl,nZ (λc=>?_) (λc=>?_)⟩
   .have lt:ki<3:=by have:=ju c;omega
    exact⟨_,rfl,x,A.ah,_,rfl,kH.ins,rfl,_,rfl,_,rfl,_,rfl,_,_,rfl,rfl,⟨by decide,by decide⟩,_,rfl,cB,_,rfl,.inl (aJ.of Hm),_,_,rfl,rfl,RK,aY,x,A,hs,ds,s,S u,g,_,rfl,kH,G,eh,λ_=>kA G bH,dA,eW (by omega),λz=>bG (Te.symm.trans z) (by decide),λ_ e1 gm=>⟨cT,rfl,gs.dm,.inl ⟨gs.dm,λau ik=>⟨_,rfl,rest.1 lt e1 au (f7.trans gm) ik⟩⟩⟩,λz=>bG (Te.symm.trans z) (by decide)⟩
   refine⟨_,rfl,rfl,_,rfl,nZ (λc2=>?_) (λc2=>?_)⟩
   .have lt:ki<3:=by have:=V.int.inj (ju c2);omega
    exact⟨_,rfl,x,A.ah,_,rfl,kH.ins,rfl,_,rfl,_,rfl,aY,x,A,hs,ds,s,S u,g,rfl,kH,G,λ_=>kA G bH,dA,λz=>bG (Te.symm.trans z) (by decide),λ_ e1 gm=>⟨cT,rfl,gs.dm,.inl ⟨gs.dm,λau ik=>⟨_,rfl,rest.1 lt e1 au (f7.trans gm) ik⟩⟩⟩⟩
   have gt:2<ki:=by have c1:¬ki<2:=λz=>c (cu z);have c2:ki≠2:=λz=>c2 (cu (ha V.int z));omega
   refine⟨_,rfl,_,_,rfl,rfl,_,rfl,nZ (λmc=>?_) (λmc=>?_)⟩
   .obtain⟨bY,M',eg⟩:=sh V.int (L:=L++[fS]) (by simp) (n/512);have no:=ac5 bY (eH eg);have aqz:(0:Int)<(((L++[fS]).map V.int).length:Int):=by rw[bp,hi];show(0:Int)<((L.length+1:Nat):Int);omega
    exact⟨_,rfl,x,A.ah,_,rfl,kH.ins,rfl,_,rfl,_,rfl,_,rfl,_,rfl,_,_,rfl,rfl,⟨by decide,by decide⟩,_,rfl,vF,_,rfl,.inl (aJ.of OE),_,_,rfl,rfl,aqz,vF,_,_,_,rfl,rfl,aJ.of OE,M',aY,x,A,hs,ds,s,S u,S v,bY,rfl,kH,G,eh,λ_=>kA G bH,λ_=>kA G eK,eW (by omega),λ_ z=>bG z no,λz=>bG (un.symm.trans z) (by decide),λ_ _ e1 gm=>⟨dy,rfl,gs.fS,.inr ⟨gs.R5,gs.fS,λau ik=>⟨_,rfl,rest.2 gt e1 au (f7.trans gm) ik⟩⟩⟩⟩
   refine⟨_,rfl,rfl,_,rfl,nZ (λBG=>?_) (λBG=>?_)⟩
   .exact⟨_,rfl,x,A.ah,_,rfl,kH.ins,rfl,_,rfl,aY,x,A,hs,ds,s,fS,rfl,kH,bo,λr e aq=>bG ⟨by omega,by omega⟩ Nk,λ_ e1 gm=>⟨dy,rfl,gs.fS,.inr ⟨gs.R5,gs.fS,λau ik=>⟨_,rfl,rest.2 gt e1 au (f7.trans gm) ik⟩⟩⟩⟩
   .exact⟨_,rfl,x,A.ah,_,rfl,kH.ins,rfl,_,rfl,aY,x,A,hs,ds,s,fS,rfl,kH,bo,λr e aq=>bG ⟨by omega,by omega⟩ Nk,λ_ e1 gm=>⟨dy,rfl,gs.fS,.inr ⟨gs.R5,gs.fS,λau ik=>⟨_,rfl,rest.2 gt e1 au (f7.trans gm) ik⟩⟩⟩⟩
unseal fV bl fW f_
inductive aiU(C:Addr)(vs:aZ)(H:ae)(Q:ba)(bN:b6):Prop where
 |mk (x ah n t:Addr) (rs:List Row) (bV:vs=[.ref x]) (bA:H x=some (.ins C ah (oJ n t))) (cn:H t=some (.c3 (fk rs))) (di:rs.length<64) (d8:∀(l:Addr)(H':ae)(ts:bS),H l=none->aN H H'->H' l=some (.lst (gT .bq (mq (rs.map sS)) (aC ts)))->d_ H' ts (rs.map lS)->Q (.ref l) H')
noncomputable def L6(C:Addr):cM:=λvs H Q bN=>aiU C vs H Q bN
noncomputable abbrev EE:Stmt:=gU (top 38) 5
theorem aj5:dB ["self"] ["self"] (c7 EE):=⟨rfl,rfl,rfl,by decide+kernel,rfl,by decide+kernel,by decide+kernel⟩
theorem aiV{C f:Addr}{fd:cF}(F:bB K "pairs" "Ways.pairs" EE f fd)(B:gp mg)(dj:rb K C):aL P w K mg base a8 1 f fd ["self"] (L6 C):=by
 refine F.ok aj5 (λvs H Q E h=>?_) (λcdv A outer s H vs Q E aq h=>?_)
 .obtain⟨x,ah,n,t,rs,rfl,_⟩:=h;rfl
 .obtain⟨x,ah,n,t,rs,rfl,av,df,eh,q⟩:=h;refine⟨_,(br (c_ (dE Q7 (by rfl) B.sorted yT (ak (aim (uB (N':=["pair","road"]) (cs:=[none,none]) rfl (adT (e2 (aa 0) (by rfl))) rfl (by decide+kernel) rfl (by decide+kernel) (lK (λp aO=>bG aO (dX))) rfl
    (.own (.own .nil))
    (λC s3 a_ cp fg=>⟨(Eg (K:=K) (n:=2) rfl rfl (ia (et (i:=0) (by show(["pair","road"]:b9).Nodup;decide+kernel) rfl (.inl rfl)) (ia (et (i:=1) (by show(["pair","road"]:b9).Nodup;decide+kernel) rfl (.inl rfl)) pP))),qX,(i8 (ak (cv (v' (K:=K) rfl) (aa 0) aW (λ_ _=>rfl)) (ak (cv (v' (K:=K) rfl) (aa 0) aW (λ_ _=>rfl)) (ak (aa 1) aI))))⟩))) aI)))),?_⟩
  have rl:(fk rs).length=rs.length:=by unfold fk;rw[bp]
  have za:x≠t:=λz=>by rw[z,df]at av;cases av
  dsimp only[AW,uw,sm];refine⟨t,fk rs,df,λo=>?_⟩;have f6:upd H t (.eO o (.c3 (fk rs))) x=some (.ins C ah (oJ n t)):=by rw[aA za];exact av
  refine abU (H1:=upd H t (.eO o (.c3 (fk rs)))) (a:=t) (o:=o) (kvs:=fk rs) (rest:=[]) (λR h=>⟨_,rfl,x,C,ah,_,_,rfl,f6,dj.cl,dj.cQ,rfl,t,o,_,rfl,aP,h⟩) rfl aP (eW (by omega)) (λi=>lS (rs.getD i r0)) (λi k rt b ag R eg aH U jN=>?_) (λD H1 ts q6 bR dg ĕ=>?_)
  .unfold fk at eg;rw[c9]at eg;obtain⟨r,f3,aD⟩:=fJ.mp eg;cases aD;rw[so f3]at jN;exact⟨_,rfl,b,_,_,_,rfl,rfl,cN.of U,rfl,_,rfl,b,_,_,_,rfl,rfl,cN.of U,rfl,_,rfl,(by show 3<=sizeLine;decide),λz Ri=>jN z _ (bW Ri) aP⟩
  .have arL:(ek (fk rs).length).map (λi=>lS (rs.getD i r0))=rs.map lS:=by rw[rl];exact range_getD lS r0 rs
   rw[arL]at dg;have anA:D≠t:=λz=>by rw[z,aP]at q6;cases q6
   have yP:=ĕ _ _ (aP (H:=H) (a:=t) (o:=.eO o (.c3 (fk rs))));have sB:aN H (upd H1 t (.c3 (fk rs))):=λb v e=>by
    by_cases U:b=t
    .rw[U]at e⊢;rw[aP,<-e,df]
    .rw[aA U];exact ĕ _ _ (by rw[aA U];exact e)
   have Jf:d_ (upd H1 t (.c3 (fk rs))) ts (rs.map lS):=dg.upd yP (by intro d z;cases z);have du:=dg.len;rw[bp]at du;refine⟨yP,D,ts,rs.map sS,false,[false,true],rfl,aJ.of (by rw[aA anA];exact bR),abV Jf,by omega,row_shape rs,λl nl=>?_⟩;have bo:=bW (o:=.lst (gT V.bq (mq (rs.map sS)) (ts.map V.ref))) nl;refine q l _ ts ?_ (sB.trans bo) aP (Jf.same bo);cases e:H l with
   |none=>rfl
   |some u=>rw[sB _ _ e]at nl;cases nl
theorem aiW{hs:bc}{ds:bT}(R:∀d∈ds,d.Ok hs.length):∀e∈j1 hs ds,1<=e.t:=λe he=>by obtain⟨d,hd,rfl⟩:=b4.mp he;exact(R d hd).t.1
theorem J3{hs:bc}{ds:bT}(R:∀d∈ds,d.Ok hs.length){h g:Str}{v:Int}(bz:i_ hs ds h g=some v)(aT:h≠g):
  ∃(k:Nat)(d:dx.gD)(u:Int),best hs ds h g=(k:Int)/\ds[k]?=some d/\S (hs.getD d.a [])=h/\i_ hs ds (S (hs.getD d.b [])) g=some u/\(d.t:Int)+u=v:=by
 obtain⟨m,f⟩:=Vr (aiW R) bz aT;obtain⟨i,ar⟩:=x4 (b4.mpr ⟨_,m,rfl⟩:V.int (best hs ds h g)∈(iI hs ds (·.a) h).map V.int);obtain⟨k,d,aB,aD,cH⟩:=Vu ar;have pJ:best hs ds h g=(k:Int):=V.int.inj aB;rw[pJ]at f;unfold sO th Je at f;rw[mH,wd aD]at f;cases b7:i_ hs ds (S (hs.getD d.b [])) g with
 |none=>rw[b7]at f;cases f
 |some u=>
  rw[b7,bz]at f;have:=ju f;exact⟨k,d,u,pJ,aD,cH,b7,hF this⟩
theorem TO{κ:Type}[DecidableEq κ]{kvs:List (κ×ao.V)}{k:κ}{v:ao.V}(h:b1 kvs k=some v):k∈kvs.map (·.1):=by obtain⟨j,x,e⟩:=ul (show(b1 kvs k).isSome=true by rw[h];rfl);exact b4.mpr ⟨_,eH e,rfl⟩
end
theorem nC.get{hs:bc}{ds:bT}{kvs:er}(T:nC hs ds kvs){k:List a'}{v:ao.V}(e:b1 kvs k=some v):∃h g,k=fm h g/\h∈hs.map S/\g∈hs.map S/\h≠g/\(i_ hs ds h g).isSome=true/\v=.int (best hs ds h g):=by
 obtain⟨h,g,rfl,lP,mg⟩:=T.jE.key k (TO e);by_cases m:h∈hs.map S/\h≠g/\(i_ hs ds h g).isSome=true
 .have:=T.jE.yes h g m;rw[e]at this;exact⟨h,g,rfl,lP,mg,m.2.1,m.2.2,hF this⟩
 .rw[T.jE.no h g m]at e;cases e
theorem nC.ok{hs:bc}{ds:bT}{kvs:er}(T:nC hs ds kvs)(R:∀d∈ds,d.Ok hs.length):pE kvs ds.length:=⟨λk v e=>by
 obtain⟨h,g,rfl,lP,mg,ne,is,rfl⟩:=T.get e;obtain⟨u,b7⟩:=rM.mp is;obtain⟨i,d,_,aB,aD,_⟩:=J3 R b7 ne;exact⟨i,by rw[aB],(eM.mp aD).1⟩⟩
theorem VV{α:Type}{l:List α}{a:α}(p:l.Perm [a]):l=[a]:=List.perm_singleton.mp p
theorem agg{ds:bT}{s:cG}{r:Nat}(aq:r<ds.length)(gW:1<=iE ds r)(ano:(hI s).filter (iC s)=[0])(due:iZ s.aE 0<=s.pr)(rd:iF s.kvs (d2 s.a7) s.aE 0=r)(cY:s.eA=[]):fG ds s=[((s.pr,r),[0])]:=by
 have q:∀cw,e4 (iZ s.aE) (iF s.kvs (d2 s.a7) s.aE) s.pr [0] cw=if cw=r then[(iZ s.aE 0,0)]else[]:=λcw=>by
  unfold e4;by_cases e:cw=r
  .rw[bM e,e];simp[due,rd]
  .rw[bE e];have cm:¬r=cw:=λz=>e z.symm;simp[rd,cm]
 unfold fG m5;rw[ano,cY,<-VP (m:=ds.length) (rl:=[r]) (λk aX=>by rw[hr.mp aX,rd];exact aq) (by simp) (λcw=>by rw[q];by_cases e:cw=r<;>simp[e])];have b:hY ds (iZ s.aE) (iF s.kvs (d2 s.a7) s.aE) s.pr [0] r=((s.pr,r),[0]):=by unfold hY ru;rw[q,bM rfl,VV (vJ _),Xe (by simp;omega)];show((s.pr,r),fM [0])=_;rw[VV (vW _)]
 show W7 _ [hY ds _ _ _ _ r]=_;rw[b];simp
theorem dS.Đ{aw C aS az:Addr}{aY b2 H:ae}{x n bt bu:Addr}{rs:bS}{A:d4}{hs:bc}{ds:bT}{s:cG}(D:dS aw C aS az aY H x A hs ds s)(sc:aN b2 H)(qA:A.n=n)(f3:A.rs=rs)(N:jO az b2 n bt bu (cK hs) (aC rs))(R:ix b2 hs rs ds)(fr:∀b∈A.bH x,b2 b=none):dS aw C aS az b2 H x A hs ds s:=by subst qA f3;obtain⟨jH,af⟩:=D.hp.ins;obtain⟨me,ai⟩:=N.ins;have aB:=D.b' _ _ af;rw[sc _ _ ai]at aB;cases aB;exact⟨sc,N,R,D.ins,D.po,D.pt,D.lZ,D.n3,D.cY,D.dh,D.lY,D.ws,D.lX,D.dk,D.sp,D.aG,fr⟩
noncomputable def zZ(r:Row):PyData:=.tuple [.str r.1,.str r.2.1,.int r.2.2]
theorem VF{K:aV}{H:ae}:∀{ts:bS}{rs:List Row},d_ H ts (rs.map lS)->pf K H (aC ts) (rs.map zZ)
 |[],[],_=>.nil
 |_::_,_::_,.cons h t=>.cons (.tup (cN.of h) (.cons (.str _) (.cons (.str _) (.cons (.int _) .nil)))) (VF t)
theorem aej{rs:List Row}(h:∀r∈rs,pv (.str r.1)=true/\pv (.str r.2.1)=true):(F' (rs.map zZ)).canLay0=true:=Ei λx av=>by
 obtain⟨r,aq,rfl⟩:=b4.mp av;show qj [.str r.1,.str r.2.1,.int r.2.2]=true;refine Ei λy cS=>?_;simp only[c',dX,or_false]at cS;rcases cS with rfl|rfl|rfl
 .exact(h r aq).1
 .exact(h r aq).2
 .rfl
theorem aek{rs:List Row}(h:∀r∈rs,pv (.str r.1)=true/\pv (.str r.2.1)=true):qn (.list (rs.map zZ))=true:=v3 (n:=2) (aej h) (Ys λx av=>by
 obtain⟨r,_,rfl⟩:=b4.mp av;exact(show(zZ r).depth<=1 from cq _)) (by decide)
theorem XR{hs:bc}(G:Good hs){c:Str}(h:c∈hs.map S):pv (.str c)=true:=by obtain⟨x,av,rfl⟩:=b4.mp h;exact IV (G.nm x av)
structure L7(hs:bc)(ds:bT)(r:Row):Prop where
 h:r.1∈hs.map S
 g:r.2.1∈hs.map S
 ne:r.1≠r.2.1
 k:∃n:Nat,r.2.2=(n:Int)/\n<ds.length
 w:∀kvs,nC hs ds kvs->b1 kvs (fm r.1 r.2.1)=some (.int r.2.2)
section
variable{P:bO}{w:bx}{K:aV}{mg:cI}{base:Heap}
noncomputable abbrev Eu:Stmt:=top 54
noncomputable abbrev apx:List Str:=["_law_net","_law_lines","_law_pairs","_law_first","_law_n","_law_beside_here","_law_house","_law_goal","_law_road_here"]
noncomputable abbrev D4:List Str:=["_law_net","_law_lines","_law_pairs","_law_first","_law_n"]
theorem PP:dB apx D4 (c7 Eu):=⟨rfl,rfl,rfl,by decide+kernel,rfl,by decide+kernel,by decide+kernel⟩
inductive aiX(az:Addr)(vs:aZ)(H:ae)(Q:ba)(E:b6):Prop where
 |mk (n cB pr bt bu:Addr) (ts:bS) (hs:bc) (rs:bS) (ds:bT) (rws:List Row) (dK nn:Int) (bV:vs=[.ref n,.ref cB,.ref pr,.int dK,.int nn]) (bA:jO az H n bt bu (cK hs) (aC rs)) (cn:Good hs) (di:ix H hs rs ds) (d8:rs.length<=40) (fI:H pr=some (.lst (aC ts))) (iM:d_ H ts (rws.map lS)) (lx:∀r∈rws,L7 hs ds r) (nh:0<=dK/\dK<=1000000000) (z4:ts.length<=900)
   (rz:∀H',aN H H'->Q (.aM true) H')
noncomputable def L8(az:Addr):cM:=λvs H Q E=>aiX az vs H Q E
seal fV bl fW f_
theorem aiY{aw C aS az eb f pL f1 f2 cz f4:Addr}{fd tE c4 ec hn kT:cF}(F:bB K "_law_beside" "_law_beside" Eu f fd)(B:gp mg)(fE:fB K aw)(zM:mg "Day"=some (.ref aw))(wy:oa K aw pL)(yW:rJ K aw "Day.__init__" xT ["self","net","first"] pL tE)(RV:aL P w K mg base a8 5 pL tE ["self","net","first"] (FR aw C aS az))(ot:c6 K aw "log" "Day.log" uS ["self"] f1 c4)(DN:aL P w K mg base a8 1 f1 c4 ["self"] (Am aw C aS az))(tu:c6 K aw "letters" "Day.letters" xS ["self"] f2 ec)(Qs:aL P w K mg base a8 1 f2 ec ["self"] (FQ aw C aS az))(oq:c6 K aw "post" "Day.post" zW ["self","house","goal"] cz hn)(DA:aL P w K mg base (nj P w) 5 cz hn ["self","house","goal"] (Fn aw C aS az eb))(tn:c6 K aw "pass_turn" "Day.pass_turn" zX ["self"] f4 kT)(P5:aL P w K mg base a8 6 f4 kT ["self"] (Fo K aw C aS az)):
  aL P w K mg base a8 7 f fd D4 (L8 az):=by
 refine F.ok PP (λvs H Q E h=>?_) (λcdv rC outer s0 H vs Q E aq h=>?_)
 .obtain⟨n,cB,pr,bt,bu,ts,hs,rs,ds,rws,dK,nn,rfl,_⟩:=h;rfl
 .obtain⟨n,cB,pr,bt,bu,ts,hs,rs,ds,rws,dK,nn,rfl,hp,G,R,eh,Ω,dg,En,⟨f0,f1⟩,auP,q⟩:=h;refine⟨_,(bh (da (i:=5) PP.aG rfl (cb rfl) (Em wy RV (aq.mono (by decide)) (by rfl) zM yW.bd .nil dt (ak (aa 0) (ak (aa 3) aI))))
   (bh (eY (iv.pt (oI (eC (zG aq.units) (mV (aa 5) fE ot.eo DN (aq.mono (by decide)) ot.bd .nil dt) (gS aI) (dz _)) (pR (eC (zG aq.units) (mV (aa 5) fE tu.eo Qs (aq.mono (by decide)) tu.bd .nil dt) (gS aI) (dz _))))) (br (c_ hW)) fv)
   (bh (eY (eC (zw aq.units) (aa 2) (gS aI) (dz _)) (br (c_ hW)) fv)
   (bh (Ke (cv fu (aa 2) (bK e9 (aa 4) (dE gP (by rfl) B.len gF (ak (aa 2) aI))) (λ_ _=>rfl)) (wo rfl (ia (et (i:=6) PP.aG rfl (cb rfl)) (ia (et (i:=7) PP.aG rfl (cb rfl)) (ia (et (i:=8) PP.aG rfl (cb rfl)) pP)))))
   (bh (eY (eC wY (g_ (aa 5) fE oq.eo DA (aq.mono (by decide)) oq.bd .nil Yr (ak (aa 6) (ak (aa 7) aI))) aW (dz _)) (br (c_ hW)) fv)
   (br (c_ (i6 (zw aq.units) (mV (aa 5) fE tn.eo P5 (aq.mono (by decide)) tn.bd .nil dt) (gS (ak (i8 (ak (aa 3) (ak (aa 8) (ak (i8 (ak aW aI)) aI)))) aI)) (dz _))))))))),?_⟩
  refine⟨_,rfl,_,rfl,λx ah cj t7 _=>?_⟩;have wa:aN H (upd (upd H ah (.own x)) x (.ins aw ah [])):=λb v e=>by rw[aA (bZ e cj),aA (bZ e t7)];exact e
  refine⟨x,ah,n,bt,bu,hs,rs,ds,dK,rfl,aP,hp.same wa,G,R.same wa,eh,λbw g5 k1 Sk l1 ND NI tb ID=>⟨rfl,?_⟩⟩;have s5:aN H bw:=SP cj t7 Sk;have CG:∀b∈g5.bH x,H b=none:=λb U=>by
   rcases ID b U with rfl|h
   .exact cj
   .cases aD:H b with
    |none=>rfl
    |some o=>rw[wa _ _ aD]at h;cases h
  have D:=l1.Đ s5 ND NI hp R CG;have ef:g5.fF=[]:=by have:=D.sp;cases h:g5.fF with|nil=>rfl|cons a l=>rw[h]at this;cases this
  have ep:g5.ll=[]:=by have:=D.pt;cases h:g5.ll with|nil=>rfl|cons a l=>rw[h]at this;cases this
  refine FL ?_;refine⟨_,rfl,x,g5.ah,_,rfl,D.ins,rfl,H,x,g5,hs,ds,_,rfl,D,λl nl=>⟨e_ _,λgG lg=>?_⟩⟩;rw[ef]at lg⊢;have f7:=(bW (o:=.lst (aC [])) nl).trans (bW (o:=.lst []) lg);have anr:=bW (o:=.lst []) lg _ _ (aP (H:=bw) (a:=l) (o:=.lst (aC [])));refine⟨.list [],.list [],.lst (aJ.of anr) .nil,.lst (aJ.of aP) .nil,rfl,rfl,_,rfl,ew (Jp rfl) ?_⟩;have kH:=D.same f7;generalize upd (upd bw l (.lst (aC []))) gG (.lst [])=gh at f7 kH⊢;refine⟨_,rfl,x,g5.ah,_,rfl,kH.ins,rfl,H,x,g5,hs,ds,_,rfl,kH,λj9 t_=>⟨e_ _,λQk Q8=>?_⟩⟩;rw[ep]at Q8⊢;have gm:=(bW (o:=.lst (aC [])) t_).trans (bW (o:=.lst []) Q8);have ant:=bW (o:=.lst []) Q8 _ _ (aP (H:=gh) (a:=j9) (o:=.lst (aC [])));refine⟨.list [],.list [],.lst (aJ.of ant) .nil,.lst (aJ.of aP) .nil,rfl,rfl,_,rfl,ew (Jp rfl) ?_⟩;have VD:=kH.same gm;have wF:=(s5.trans f7).trans gm;generalize upd (upd gh j9 (.lst (aC []))) Qk (.lst [])=e1 at wF VD⊢;have alH:∀r∈rws,pv (.str r.1)=true/\pv (.str r.2.1)=true:=λr aq=>⟨XR G (En r aq).h,XR G (En r aq).g⟩
  refine⟨_,rfl,e_ _,λQl apV=>?_⟩;have fh:=bW (o:=.lst []) apV;have S5:=(dg.same wF).same fh;have p4:=wF.trans fh;have Kb:=VD.same fh;refine⟨.list (rws.map zZ),.list [],.lst (aJ.of (p4 _ _ Ω)) (VF S5),.lst (aJ.of aP) .nil,aek alH,rfl,_,rfl,?_⟩;generalize upd e1 Ql (.lst [])=dD at p4 Kb S5⊢;have tB:ht (.list (rws.map zZ)) (.list [])=rws.isEmpty:=by cases rws<;>rfl
  by_cases O3:rws=[]
  .exact fH (by rw[tB,O3];rfl) (q _ p4)
  refine ew (by rw[tB];cases rws with|nil=>exact bG rfl O3|cons _ _=>rfl) ?_;have du:=dg.len;rw[bp]at du;have t0:0<ts.length:=by have:=A3.mpr O3;omega
  obtain⟨tt,akv,am7⟩:=sh V.ref (L:=ts) t0 nn;obtain⟨cg,Zt,aoJ⟩:=bf.get S5 am7;rw[c9]at Zt;obtain⟨r,f3,rfl⟩:=fJ.mp Zt;have ok:=En r (eH f3);obtain⟨k,eg,lN⟩:=ok.k;have aqA:(0:Int)<((aC ts).length:Int):=by rw[eI];omega
  have À:=p4 _ _ Ω;refine⟨_,rfl,_,rfl,_,rfl,pr,_,rfl,.inl (aJ.of À),_,_,rfl,rfl,aqA,pr,_,_,_,rfl,rfl,aJ.of À,akv,tt,_,rfl,cN.of aoJ,rfl,_,_,rfl,_,_,rfl,_,_,rfl,rfl,?_⟩;have iw:lL hs ⟨dK,[],[],[],k1,[]⟩:=⟨(λ_ h=>nomatch h),(λ_ h=>nomatch h),(λ_ h=>nomatch h)⟩
  have aoZ:hS (bR hs) (gH (r.1,dK,r.2.1))=true:=JC.mpr ⟨ok.h,ok.g,ok.ne,f0,f1⟩;have qq:rD (bR hs) ((([]:nx)++[(r.1,dK,r.2.1)]).map gH):=⟨VR iw aoZ,by show 1<=40;decide,by
   have:=Ň iw r.1 r.2.1;rw[show(([]:nx)++[(r.1,dK,r.2.1)])=(⟨dK,[],[],[],k1,[]⟩:cG).a7++[(r.1,(⟨dK,[],[],[],k1,[]⟩:cG).pr,r.2.1)]from rfl,this];show dK-dK<=30;omega⟩
  have rl:=R.len;have adX:iW hs ds 0 ⟨dK,[],[],[],k1,[]⟩:=⟨rfl,by show 0<=40;decide,by omega,(λ_ h=>nomatch h),tb.ok R.ok,(λ_ h=>nomatch h),(λ_ h=>nomatch h),(λ_ h=>nomatch h),cq _⟩
  refine⟨_,rfl,x,g5.ah,_,rfl,Kb.ins,rfl,_,rfl,_,rfl,H,x,g5,hs,ds,_,r.1,r.2.1,rfl,Kb,G,(λ_ h=>nomatch h),(by show 0<=40;decide),rfl,λ_=>kA G ok.h,λ_=>kA G ok.g,λ_ mF U3 auu VE=>⟨rfl,_,rfl,ew rfl ?_⟩,λna=>bG qq na⟩;have adY:=adX.post ok.h ok.g (by show 0+1<=40;decide);refine⟨_,rfl,x,U3.ah,_,rfl,VE.ins,rfl,H,x,U3,hs,ds,_,0,rfl,VE,G,adY,(by decide),λFA asK aM fF aut aaE ka è ig gR=>?_⟩;have gW:1<=iE ds k:=by unfold iE;rw[show ds.getD k oW=ds[k] by rw[eL,dv lN];rfl];exact(R.ok _ (qf lN)).m.1
  have dN:iy k1 r.1 r.2.1=some k:=by have:=ok.w k1 tb;unfold iy;rw[this,eg];rfl
  have alw:fG ds (nT ⟨dK,[],[],[],k1,[]⟩ r.1 r.2.1)=[((dK,k),[0])]:=by
   refine agg lN gW ?_ (sU _) ?_ rfl
   .unfold hI iC;show W7 _ (W7 _ [0])=[0];have aB:decide ((gf (nT ⟨dK,[],[],[],k1,[]⟩ r.1 r.2.1).aE 0).fA≠j3 (d2 (nT ⟨dK,[],[],[],k1,[]⟩ r.1 r.2.1).a7) 0)=true:=cu ok.ne;have aD:(iy (nT ⟨dK,[],[],[],k1,[]⟩ r.1 r.2.1).kvs (gf (nT ⟨dK,[],[],[],k1,[]⟩ r.1 r.2.1).aE 0).fA (j3 (d2 (nT ⟨dK,[],[],[],k1,[]⟩ r.1 r.2.1).a7) 0)).isSome=true:=by show(iy k1 r.1 r.2.1).isSome=true;rw[dN];rfl
    rw[l5,bM aB,u0,l5,bM aD,u0]
   .unfold iF;show(iy k1 r.1 r.2.1).getD 0=k;rw[dN];rfl
  rw[alw]at gR;refine⟨_,rfl,_,rfl,(by show 1<=sizeLine;decide),λc hc=>⟨(by show 3<=sizeLine;decide),λeu oO=>⟨(by show 1<=sizeLine;decide),λtU apX=>?_⟩⟩⟩;have Eo:=bW (o:=.tup [V.int 0]) hc;have gA:=bW (o:=.tup [V.int dK,V.int r.2.2,V.ref c]) oO;have kc:=bW (o:=.lst [V.ref eu]) apX;have alc:bf (hk (upd (upd (upd FA c (.tup [V.int 0])) eu (.tup [V.int dK,V.int r.2.2,V.ref c])) tU (.lst [V.ref eu]))) [eu] [((dK,k),[0])]:=.cons ⟨c,by rw[<-eg];exact kc _ _ aP,kc _ _ (gA _ _ aP)⟩ .nil;refine⟨.list ([((dK,k),[0])].map ut),.list ([((dK,k),[0])].map ut),.lst (aJ.of (kc _ _ (gA _ _ (Eo _ _ ig)))) (sd (bf.eE gR λ_ _ e=>((e.same Eo).same gA).same kc)),.lst (aJ.of aP) (sd alc),tV _,tV _,?_⟩;refine nO (yZ _ (D6 _)) (q _ λb o e=>?_);exact kc _ _ (gA _ _ (Eo _ _ (aaE.b' _ _ e)))
unseal fV bl fW f_
end
end dW
namespace ct
open PySem PySem.Spec PyProof.Rows ao
theorem Ž:S' (.type "list") "keys"=pure none:=by rw[arN,alD];kernel_rfl
theorem aac:S' (.type "list") "__getattr__"=pure none:=by rw[arN,alD];kernel_rfl
theorem Ud:isSubtype (.type "AttributeError") (.type "AttributeError")=pure true:=by rw[isSubtype_type];kernel_rfl
theorem abi(args:cC):yA (.type "AttributeError") args=pure .none:=by
 have:((Manifest.find? "AttributeError").elim false λt=>t.mro.contains "StopIteration"||t.mro.contains "SystemExit")=false:=by decide+kernel
 simp only[yA,this];rfl
section
variable{prog:bO}{w:bx}{A:c0}{E:cD}{h:Heap}{g:Array GenState}{d:Drawn}{t:Nat}{os:OsState}{a:Addr}
theorem abj{α:Type}{Q:α->aF->Prop}{o:Value}{name msg:Str}(dm:A.handled=none)(hm:msg.length<=sizeLine)(aU:∀h' t' e,(∀b u,h.get? b=some u->h'.get? b=some u)->(∃u,h'.get? e=some u/\u.cls=.type "AttributeError")->E (.ref e) ⟨h',g,d,t',os⟩):
  aQ (a9 prog w) A (aqO o name msg:Sem α) Q E ⟨h,g,d,t,os⟩:=by
 unfold aqO;refine ax (wpAny_mkStr (ax ?_) hm);unfold Ih newTuple;refine ax (o9 ?_);refine ax (m:=yA _ _) (w9 (abi _) ?_);refine o9 ?_;have sub:=Ud;generalize j4:h.push {cls:=.type "tuple",data:=.seq #[.str msg t]}=af;have k1:∀b u,h.get? b=some u->af.get? b=some u:=λb u e=>by rw[<-j4];exact dM _ e
 have he:(af.push {cls:=.type "AttributeError",data:=.fields #[.ref h.objs.size,.none,.none,.none,.bool false,.none,EY,EY]}).get? af.objs.size=some {cls:=.type "AttributeError",data:=.fields #[.ref h.objs.size,.none,.none,.none,.bool false,.none,EY,EY]}:=gq _ rfl;dsimp only;have η:∀a5,Bu ⟨af.push {cls:=.type "AttributeError",data:=.fields #[.ref h.objs.size,.none,.none,.none,.bool false,.none,EY,EY]},g,d,a5,os⟩ (.ref af.objs.size) "AttributeError":=λa5=>⟨_,he,rfl⟩
 refine ax (T8 ?_);dsimp only;refine ax ?_;unfold noteAttr;refine ax ?_;unfold lacksNameAndObj;refine ax (T6 (η _) sub ?_);refine ax (wpAny_load he ?_);change aQ (a9 prog w) A (pure true) _ _ _;refine bj ?_;have atZ:=η (t+1+1)
 repeat (any_goals (first|assumption|wp_step))
 refine ase dm (aU _ _ _ (λb u e=>?_) ⟨_,pg _ he rfl,rfl⟩);refine Heap.get?_update_of_ne _ (λz=>?_) (dM _ (k1 b u e));have:=dG (k1 b u e);rw[z]at this;exact qg _ this
variable{items:kn}{n:Nat}{bo:jV}
theorem abk{a5:Tok}{Q:Fin->aF->Prop}(dm:A.handled=none)(av:h.get? a=some ⟨.type "list",none,.seq items n,bo⟩)(aU:∀h' t' e,(∀b u,h.get? b=some u->h'.get? b=some u)->(∃u,h'.get? e=some u/\u.cls=.type "AttributeError")->E (.ref e) ⟨h',g,d,t',os⟩):
  aQ (a9 prog w) A (Builtin.«object.__getattribute__» ⟨[.ref a,.str "keys" a5],[]⟩) Q E ⟨h,g,d,t,os⟩:=by
 have j4:(⟨h,g,d,t,os⟩:aF).TypeIs (.ref a) "list":=⟨_,av,rfl⟩
 have f4:=Ž
 repeat (any_goals (first|assumption|wp_step))
 refine abj dm ?_ aU;exact oc (od (show _<=100 by decide+kernel) (by rw[p5];decide))
theorem acw{a5:Tok}{R:nu->aF->Prop}(dm:A.handled=none)(av:h.get? a=some ⟨.type "list",none,.seq items n,bo⟩)(aU:∀h' t' e,(∀b u,h.get? b=some u->h'.get? b=some u)->(∃u,h'.get? e=some u/\u.cls=.type "AttributeError")->R (.error (.ref e)) ⟨h',g,d,t',os⟩):
  jX (a9 prog w) A (.call (.builtin "list.__getattribute__") ⟨[.ref a,.str "keys" a5],[]⟩) R ⟨h,g,d,t,os⟩:=
 vq F.slot_list_getattribute.plain F.entry_list_ga (F.slot_list_getattribute.check _ _ _ _ _ _ _ _ (show(⟨h,g,d,t,os⟩:aF).TypeIs (.ref a) "list" from⟨_,av,rfl⟩) (F.args_list_getattribute_2 _ _) (abk (by simp[dm]) av aU))
theorem agh{a5:Tok}{Q:cD}(dm:A.handled=none)(av:h.get? a=some ⟨.type "list",none,.seq items n,bo⟩)(aU:∀h' t' e,(∀b u,h.get? b=some u->h'.get? b=some u)->(∃u,h'.get? e=some u/\u.cls=.type "AttributeError")->E (.ref e) ⟨h',g,d,t',os⟩):aQ (a9 prog w) A (NY (.ref a) (.str "keys" a5) false) Q E ⟨h,g,d,t,os⟩:=by
 have j4:(⟨h,g,d,t,os⟩:aF).TypeIs (.ref a) "list":=⟨_,av,rfl⟩
 have f2:=F.slot_list_getattribute.lookup;have cz:=F.slot_list_getattribute.bind (.ref a)
 repeat (any_goals (first|assumption|wp_step))
 refine acw dm av λh' t' e k b7=>?_;obtain⟨u,Pc,Pd⟩:=id b7;have atY:(⟨h',g,d,t',os⟩:aF).TypeIs (.ref e) "AttributeError":=⟨_,Pc,Pd⟩
 have sub:=Ud;have lk:=aac
 repeat (any_goals (first|assumption|wp_step))
 exact aU h' t' e k b7
theorem acx{Q:Option Value->aF->Prop}(dm:A.handled=none)(av:h.get? a=some ⟨.type "list",none,.seq items n,bo⟩)(aU:∀h' t',(∀b u,h.get? b=some u->h'.get? b=some u)->Q none ⟨h',g,d,t',os⟩):aQ (a9 prog w) A (NX (.ref a) "keys") Q E ⟨h,g,d,t,os⟩:=by unfold NX getAttrBy?;refine ax (T8 (ax (zP ?_)));refine agh dm av λh' t' e k b7=>?_;obtain⟨u,Pc,Pd⟩:=b7;refine ax (T6 (⟨_,Pc,Pd⟩:Bu ⟨h',g,d,t',os⟩ (.ref e) "AttributeError") Ud ?_);exact bj (aU h' t' k)
theorem ä:entryFor table "dict.update.loop"=some Builtin.«dict.update.loop»:=entryFor_of_tree (by kernel_rfl)
theorem HM:plainId "dict.update.loop"=true:=by decide+kernel
noncomputable abbrev x_:=Addr×List a'×Addr×Value
end
noncomputable def uo(P:bO)(w:bx)(h:Heap)(q:x_):Prop:=(∃o nn,h.get? q.1=some o/\o.cls=.type "tuple"/\o.data=.seq #[.ref q.2.2.1,q.2.2.2] nn)/\(mB (gj P w)).is h q.2.1 q.2.2.1
noncomputable def stH(xs:List (List a'×Addr×Value))(ps:List x_):List (List a'×Addr×Value):=ps.foldl (λxs q=>wM xs q.2.1 q.2.2.1 q.2.2.2) xs
theorem acy(xs:List (List a'×Addr×Value))(k:List a')(a:Addr)(v:Value):(wM xs k a v).length<=xs.length+1:=by
 unfold wM;split
 .rw[bp];omega
 .rw[hi];exact cq _
theorem acz{xs:List (List a'×Addr×Value)}{k:List a'}{a:Addr}{v:Value}{x:List a'×Addr×Value}(h:x∈wM xs k a v):x.2.1=a\/∃y∈xs,x.2.1=y.2.1:=by
 unfold wM at h;split at h
 .obtain⟨y,cS,rfl⟩:=b4.mp h;refine .inr ⟨y,cS,?_⟩;unfold putAt;split<;>rfl
 .rcases hj.mp h with y|y
  .exact .inr ⟨x,y,rfl⟩
  .rw[hr.mp y];exact .inl rfl
theorem uo.keep{P:bO}{w:bx}{h h':Heap}{q:x_}(p:uo P w h q)(k:∀b u,b=q.1\/b=q.2.2.1->h.get? b=some u->h'.get? b=some u):uo P w h' q:=by obtain⟨⟨o,nn,af,ai,bU⟩,lh,its,dq,cX,d3,ku,qH⟩:=p;exact⟨⟨o,nn,k _ _ (.inl rfl) af,ai,bU⟩,lh,its,dq,k _ _ (.inr rfl) cX,d3,ku,qH⟩
theorem abl{prog:bO}{w:bx}{A:c0}{R:nu->aF->Prop}{I:Addr}{cp wr:bS}{n:Nat}{Pv:Nat->Value->Prop}{Bv:Nat->Heap->Prop}(W:te prog w A.in1 I cp wr n Pv Bv)(d:Addr)(qM:d∉cp)(b7:A.in1.units<cLine)(ps:List x_)(aT:ps.length=n)(C9:∀i v,Pv i v->∃q,ps[i]?=some q/\v=.ref q.1)(h2:∀q∈ps,(q.1≠d/\q.1∉wr)/\q.2.2.1≠d/\q.2.2.1∉wr):∀(k i:Nat)(s:aF)(xs:List (List a'×Addr×Value)),n-i=k->i<=n->Bv i s.heap->s.heap.DictOfH (mB (gj prog w)) d xs->xs.length+k<=sizeLine->(∀x∈xs,x.2.1∉wr)->
   (∀q∈ps,uo prog w s.heap q)->
   (∀h' a5,(∀b o,b≠d->b∉wr->s.heap.get? b=some o->h'.get? b=some o)->h'.DictOfH (mB (gj prog w)) d (stH xs (ps.drop i))->R (.ok (.ret .none)) {s with heap:=h',toks:=a5})->
   jX (a9 prog w) A (.builtin "dict.update.loop" ⟨[.ref d,.ref I,oV (i:Int),.none],[]⟩) R s:=by
 have an0:d∉wr:=λz=>qM (W.sub _ z);have stays:∀{h h':Heap}{xs:List (List a'×Addr×Value)},(∀b o,b∉wr->h.get? b=some o->h'.get? b=some o)->h.DictOfH (mB (gj prog w)) d xs->(∀x∈xs,x.2.1∉wr)->h'.DictOfH (mB (gj prog w)) d xs:=λ{h h' xs}bY⟨o,es,ep,a3,ck,dZ,p3,wA,wB⟩av=>⟨o,es,ep,bY d o an0 a3,ck,dZ,p3,λx m=>by
  obtain⟨lh,its,dq,cX,d3⟩:=wA x m;exact⟨lh,its,dq,bY _ _ (av x m) cX,d3⟩,wB⟩
 intro k
 induction k with
 |zero=>
  intro i s xs aX ar st fO hz av aO cU;obtain rfl:i=n:=by omega
  refine mU ä ?_;rw[n7 HM _];show aQ _ A.in1 (ip (.ref I) >>=_) _ _ s;refine ax (W.done s _ _ st λh' a5 bY=>?_);show aQ _ A.in1 (asL d [] >>=_) _ _ _;refine ax (bj ?_);show aQ _ A.in1 (ret fZ) _ _ _;refine bj (cU h' a5 (λb o _ U e=>bY b o U e) ?_);rw[List.drop_of_length_le (by omega)];exact stays bY fO av
 |succ k a6=>
  intro i s xs aX ar st fO hz av aO cU;have cP:i<n:=by omega
  refine mU ä ?_;rw[n7 HM _];show aQ _ A.in1 (ip (.ref I) >>=_) _ _ s;refine ax (W.item i s _ _ cP st λv af a5 gy Sw bY=>?_);obtain⟨q,eq,rfl⟩:=C9 i v gy;have aU:=h2 q (eH eq);have aqB:uo prog w af q:=(aO q (eH eq)).keep λb u U e=>bY b u (by rcases U with rfl|rfl;exact aU.1.2;exact aU.2.2) e;obtain⟨⟨o,nn,C5,C6,aom⟩,key⟩:=id aqB;have qJ:=stays bY fO av;refine ax (iL ?_);refine ax (ng ?_);unfold asP;refine ax (wpAny_typeOf (T:="tuple") ⟨o,C5,C6⟩ ?_);show aQ _ A.in1 (sx (.ref q.1) >>=_) _ _ _;refine ax (sI C5 aom ?_);refine bj ?_;show aQ _ A.in1 (mm [.ref q.2.2.1,q.2.2.2] (dictSet d (.ref q.2.2.1) q.2.2.2)) _ _ _;refine iL (wpAny_dictSet_heap (hsz:=by omega) b7 key qJ λai N9 b'=>?_);have ey:(i:Int)+1=((i+1:Nat):Int):=by omega
  rw[ey];have BM:ps.drop i=q::ps.drop (i+1):=by obtain⟨af,ai⟩:=eM.mp eq;rw[W5 af,ai]
  refine bj ⟨m7 HM _,a6 (i+1) _ (wM xs q.2.1 q.2.2.1 q.2.2.2) (by omega) cP (W.frame _ _ _ Sw λb de o e=>(b'.2 b λz=>qM (z▸de)).trans e) N9 ?_ (λx m=>?_) (λfR m=>?_) λbU S1 Qh yE=>?_⟩
  .have:=acy xs q.2.1 q.2.2.1 q.2.2.2;omega
  .rcases acz m with e|⟨y,cS,e⟩
   .rw[e];exact aU.2.2
   .rw[e];exact av y cS
  .have m2:=h2 fR m;refine((aO fR m).keep λb u U e=>?_:uo prog w ai fR);have nb:b≠d/\b∉wr:=by
    rcases U with rfl|rfl
    .exact m2.1
    .exact m2.2
   exact(b'.2 b nb.1).trans (bY b u nb.2 e)
  .refine cU bU S1 (λb o jr h1 e=>Qh b o jr h1 ((b'.2 b jr).trans (bY b o h1 e))) ?_;rw[BM];exact yE
theorem asj{prog:bO}{w:bx}{A:c0}{E:cD}{s:aF}{l:Addr}{items:kn}{nn:Nat}{ps:List x_}{Q:cD}(dm:A.handled=none)(b7:A.in1.in1.units<cLine)(av:s.heap.get? l=some {cls:=.type "list",data:=.seq items nn})(ar:items.toList=ps.map λq=>cE q.1)(hz:ps.length<=sizeLine)(hC:∀q∈ps,uo prog w s.heap q)(h:∀(h':Heap)(a5:Nat),h'.DictOfH (mB (gj prog w)) s.heap.objs.size (stH [] ps)->(∀b o,s.heap.get? b=some o->h'.get? b=some o)->Q (.ref s.heap.objs.size) {s with heap:=h',toks:=a5}):
  aQ (a9 prog w) A (call (.type "dict") [.ref l]) Q E s:=by
 obtain⟨aO,g,BM,S0,os⟩:=s;refine callType_codes (Q₁:=λobj dU=>obj=.ref aO.objs.size/\dU=⟨aO.push {cls:=.type "dict",data:=.dict #[]},g,BM,S0,os⟩) F.kt_called_dict (F.kt_typeCall_dict_1 _) F.entry_dict_init (kt_code_dict_new _ ⟨rfl,rfl⟩) ?_;rintro obj dU ⟨rfl,rfl⟩;have Hw:(aO.push {cls:=.type "dict",data:=.dict #[]}).DictOfH (mB (gj prog w)) aO.objs.size []:=Heap.DictOfH.new aO;have j4:Bu ⟨aO.push {cls:=.type "dict",data:=.dict #[]},g,BM,S0,os⟩ (.ref aO.objs.size) "dict":=Hw.typeIs (s:=⟨_,g,BM,S0,os⟩);refine⟨j4,F.args_dict_init_2 _ _,?_⟩;have aj:aO.IsList l items:=⟨_,av,rfl,nn,rfl⟩
 have r8:=dM {cls:=.type "dict",data:=.dict #[]} av;have j6:=aj.push (o:={cls:=.type "dict",data:=.dict #[]});unfold Builtin.«dict.__init__»;refine ax ?_;unfold asQ;refine ax (T9 j4 ?_);show aQ _ _ (pure (aO.objs.size,[cE l])) _ _ _;refine bj ?_;show aQ _ _ (aap "dict.__init__" aO.objs.size (.ref l) [] .none) _ _ _;unfold aap;refine ax (wpAny_typeOf (T:="list") ⟨_,r8,rfl⟩ ?_);rw[bM (by decide)];refine ax (acx (by simp[dm]) r8 λaf t1 k1=>?_);rw[bM (show(none:yg).isNone=true from rfl)];show aQ _ _ (zm (.ref l) >>=_) _ _ _;have pO:af.IsList l items:=⟨_,k1 _ _ r8,rfl,nn,rfl⟩
 refine ax (zR pO ?_);dsimp only;have Nt:aO.objs.size<af.objs.size:=dG (k1 _ _ (gq _ rfl));have Ø:l<aO.objs.size:=dG av;refine bj ⟨m7 HM _,?_⟩;have cJ:oV 0=oV ((0:Nat):Int):=rfl;rw[cJ];have bI:∀b u,aO.get? b=some u->(af.push {cls:=.type "list_iterator",data:=.fields #[.ref l,.int 0 0]}).get? b=some u:=λb u e=>dM _ (k1 _ _ (dM _ e));have ao1:items.size=ps.length:=by have:=ha sW ar;simpa using this
 have Iv:∀{b u},aO.get? b=some u->b≠aO.objs.size/\b∉[af.objs.size]:=λ{b u}e=>by have:=dG e;refine⟨eN this,λz=>?_⟩;rw[hr]at z;exact eN (La this Nt) z
 refine abl (Bz (A:=A.in1.in1) (by simp[dm]) af.objs.size l (eN (La Ø Nt)) items) aO.objs.size (λz=>?_) b7 ps ao1.symm (λi v e=>?_) (λq aU=>?_) (items.size-0) 0 _ [] rfl (e_ _) ⟨⟨_,gq _ rfl,rfl,rfl⟩,pO.push _⟩ ?_ ?_ (λx av=>nomatch av) (λq aU=>?_) (λh' a5 bY fO=>?_)
 .simp only[c',dX,or_false]at z;rcases z with z|z
  .exact eN Nt z
  .exact x9 Ø z
 .have:items.toList[i]?=some v:=by rw[Fq];exact e
  rw[ar,c9]at this;obtain⟨q,eq,rfl⟩:=fJ.mp this;exact⟨q,eq,rfl⟩
 .obtain⟨⟨o,dq,yD,_⟩,lh,its,oH,qF,_⟩:=hC q aU;exact⟨Iv yD,Iv qF⟩
 .obtain⟨o,es,ep,aB,aD,cH,e3,gw,j0⟩:=Hw;exact⟨o,es,ep,dM _ (k1 _ _ aB),aD,cH,e3,(λx av=>by cases av),j0⟩
 .show 0+_<=_;omega
 .exact(hC q aU).keep λb u _ e=>bI b u e
 .refine⟨rfl,h h' a5 fO λb o e=>bY b o (Iv e).1 (Iv e).2 (bI b o e)⟩
noncomputable abbrev s9:=Addr×List a'×Addr×V
noncomputable def dictOf(dQ:List s9):List (List a'×V):=dQ.foldl (λkvs q=>d7 kvs q.2.1 q.2.2.2) []
inductive ah9(K:aV)(xs:aZ)(H:ae)(Q:ba):Prop where
 |mk (l:Addr) (dQ:List s9) (bV:xs=[.ref l]) (bA:H l=some (.lst (dQ.map λq=>V.ref q.1))) (cn:dQ.length<=1000) (di:∀q∈dQ,H q.1=some (.tup [.ref q.2.2.1,q.2.2.2])/\H q.2.2.1=some (.tup (q.2.1.map dn))) (d8:∀p,H p=none->Q (.ref p) (upd H p (.c3 (dictOf dQ))))
section
variable{X:bg}
theorem VG{P:bO}{w:bx}{H:ae}{h:Heap}(ok:fq P w H h):∀(dQ:List s9),(∀q∈dQ,H q.1=some (.tup [.ref q.2.2.1,q.2.2.2])/\H q.2.2.1=some (.tup (q.2.1.map dn)))->
  ∃ps:List x_,(ps.map λq=>cE q.1)=(dQ.map λq=>cE q.1)/\(∀q∈ps,uo P w h q)/\∀{kvs:List (List a'×V)}{xs:List (List a'×Addr×Value)},KT H kvs xs->KT H (dQ.foldl (λkvs q=>d7 kvs q.2.1 q.2.2.2) kvs) (stH xs ps)
 |[],_=>⟨[],rfl,(λq aU=>nomatch aU),λr=>r⟩
 |q::dQ,aU=>by
  obtain⟨ps,aB,aD,cH⟩:=VG ok dQ λfR m=>aU fR (.tail _ m);obtain⟨af,ai⟩:=aU q (.head _);obtain⟨_,its,r,o,hB,lh,nn,zb⟩:=(show el P w H h q.1 (.tup [.ref q.2.2.1,q.2.2.2])from ok _ _ af)
  cases r with
  |cons gI r=>
   cases r with
   |cons nY r=>
    cases r;rename_i sE arQ;obtain rfl:sE=cE q.2.2.1:=gI;refine⟨(q.1,q.2.1,q.2.2.1,arQ)::ps,by simp[aB],λfR m=>?_,λr=>?_⟩
    .rcases c'.mp m with rfl|m
     .exact⟨⟨o,nn,hB,lh,zb⟩,wq ok ai⟩
     .exact aD fR m
    .exact cH (r.put q.2.1 ai nY)
theorem abm(ay:X.calm=true)(b7:X.A.units+2<cLine):j8 X (.type "dict") (ah9 X.K):=by
 intro pins s σ H xs us Q I r h;obtain⟨l,dQ,rfl,aj,eh,each,q⟩:=h;obtain⟨u,rfl,ez⟩:=vals1 r;cases ez;obtain⟨z,its,n,cg,e⟩:=(show el X.prog X.w H s.heap l (.lst (dQ.map λq=>V.ref q.1))from I.bb _ _ aj)
 obtain⟨ps,aB,aD,cH⟩:=VG I.bb dQ each;have ey:its=dQ.map λq=>cE q.1:=by
  have all:∀(L:List s9)(its:cC),cO (L.map λq=>V.ref q.1) its->its=L.map λq=>cE q.1:=λL=>by
   induction L with
   |nil=>intro its r;cases r;rfl
   |cons q L a6=>
    intro its r;cases r with
    |cons gI r=>
     rw[a6 _ r];obtain rfl:=(show _=cE q.1 from gI)
     rfl
  exact all dQ its cg
 have pl:ps.length=dQ.length:=by have:=ha sW aB;simpa using this
 refine asj (ps:=ps) (I.ok.hd ay) b7 e (by simp[ey,aB]) (by rw[pl,p5];omega) aD λh' a5 fO bY=>?_;refine⟨.ref s.heap.objs.size,_,I.laid bY (cq _) ?_,rfl,q _ (I.bb.fresh (cq _))⟩;obtain⟨o,es,ep,af,ai,bU,cX,_,d3⟩:=fO;have rel:KT H (dictOf dQ) (stH [] ps):=cH .nil;have fr:=I.bb.fresh (cq s.heap.objs.size);have len:(dictOf dQ).length<=dQ.length:=by
  have all:∀(L:List s9)(kvs:List (List a'×V)),(L.foldl (λkvs q=>d7 kvs q.2.1 q.2.2.2) kvs).length<=kvs.length+L.length:=λL=>by
   induction L with
   |nil=>intro kvs;exact cq _
   |cons q L a6=>
    intro kvs;have af:=a6 (d7 kvs q.2.1 q.2.2.2);have ai:=Du kvs q.2.1 q.2.2.2;show(L.foldl _ (d7 kvs q.2.1 q.2.2.2)).length<=_;rw[l6];omega
  have:=all dQ [];simpa[dictOf]using this
 refine⟨by rw[p5];omega,vk.mpr (cR (eN I.big)),stH [] ps,rel.keeps λb ys ef=>?_,o,es,ep,af,ai,bU,cX,d3⟩;rw[aA (bZ ef fr)];exact ef
end
end ct
namespace dW
open PySem ao ct dx
noncomputable def Rq(hs:bc)(ds:bT)(g h:Str):Bool:=decide (h≠g)&&(i_ hs ds h g).isSome
noncomputable def aj6(hs:bc)(ds:bT)(g:Str)(L:b9):List Row:=(L.filter (Rq hs ds g)).map λh=>(h,g,best hs ds h g)
noncomputable def L9(hs:bc)(ds:bT)(L:b9):List Row:=L.flatMap λg=>aj6 hs ds g (hs.map S)
theorem EH{hs:bc}{ds:bT}{L:b9}{r:Row}(h:r∈L9 hs ds L):r.1∈hs.map S/\r.2.1∈L/\r.1≠r.2.1/\(i_ hs ds r.1 r.2.1).isSome=true/\r.2.2=best hs ds r.1 r.2.1:=by obtain⟨g,bP,aq⟩:=K4.mp h;obtain⟨k,aX,rfl⟩:=b4.mp aq;obtain⟨af,ai⟩:=gJ.mp aX;unfold Rq at ai;simp only[jx,decide_eq_true_eq]at ai;exact⟨af,bP,ai.1,ai.2,rfl⟩
theorem agi{hs:bc}{ds:bT}{L:b9}{h g:Str}(dm:h∈hs.map S)(bP:g∈L)(ne:h≠g)(is:(i_ hs ds h g).isSome=true):(h,g,best hs ds h g)∈L9 hs ds L:=by refine K4.mpr ⟨g,bP,b4.mpr ⟨h,gJ.mpr ⟨dm,?_⟩,rfl⟩⟩;unfold Rq;rw[cu ne,is];rfl
theorem J6{κ:Type}[DecidableEq κ]{k:κ}{v:ao.V}:∀{l:List (κ×ao.V)}{j:Nat},(l.map (·.1)).Nodup->l[j]?=some (k,v)->b1 l k=some v
 |[],j,_,h=>by simp at h
 |p::r,0,aG,h=>by simp only[K0,Ln]at h;subst h;exact kP rfl
 |p::r,j+1,aG,h=>by
  rw[hQ,iP]at aG;have h':r[j]?=some (k,v):=by simpa using h
  rw[jW (λz=>aG.1 (by rw[z];exact b4.mpr ⟨_,eH h',rfl⟩))];exact J6 aG.2 h'
theorem nC.rows{hs:bc}{ds:bT}{kvs:er}(T:nC hs ds kvs):∃rs:List Row,kvs=fk rs/\rs.Nodup/\∀r,r∈rs↔r∈L9 hs ds (hs.map S):=by
 have val:∀p∈kvs,b1 kvs p.1=some p.2:=λp aO=>by obtain⟨j,bL⟩:=x4 aO;exact J6 T.jE.aG (show kvs[j]?=some (p.1,p.2)from bL)
 obtain⟨rs,e⟩:=WB (kvs:=kvs) λp aO=>by obtain⟨h,g,aB,_,_,_,_,aD⟩:=T.get (val p aO);exact⟨(h,g,best hs ds h g),Bi aB aD⟩
 subst e;refine⟨rs,rfl,?_,λr=>⟨λaq=>?_,λaq=>?_⟩⟩
 .have aG:=T.jE.aG;unfold fk at aG;rw[jA]at aG;exact(s6.mp aG).imp λh z=>h (by rw[z])
 .have aO:(([.inr r.1,.inr r.2.1],.int r.2.2):List a'×ao.V)∈fk rs:=b4.mpr ⟨r,aq,rfl⟩;obtain⟨h,g,aB,gW,la,ne,is,aD⟩:=T.get (val _ aO);obtain⟨cH,e3⟩:=zK (h:=r.1) (g:=r.2.1) aB;have gw:r=(h,g,best hs ds h g):=Bi cH (Bi e3 (V.int.inj aD));rw[gw];exact agi gW la ne is
 .obtain⟨gW,la,ne,is,e⟩:=EH aq;have bz:=T.jE.yes r.1 r.2.1 ⟨gW,ne,is⟩;obtain⟨j,y,eZ⟩:=ul (show(b1 (fk rs) (fm r.1 r.2.1)).isSome=true by rw[bz];rfl);have f5:=val _ (eH eZ);rw[bz]at f5;obtain⟨cw,kZ,cm⟩:=b4.mp (eH eZ);obtain⟨cH,e3⟩:=zK (h:=cw.1) (g:=cw.2.1) (ha Prod.fst cm);have j0:V.int cw.2.2=y:=ha Prod.snd cm;have vr:cw.2.2=best hs ds r.1 r.2.1:=by have:=hF f5;rw[<-j0]at this;exact(V.int.inj this).symm
  have gw:r=cw:=Bi cH.symm (Bi e3.symm (by rw[e,vr]));rw[gw];exact kZ
theorem ael{H:ae}{ts:bS}{rs:List Row}(dg:d_ H ts (rs.map lS)):∃i2,gT V.bq (mq (rs.map sS)) (aC ts)=aC i2/\d_ H i2 ((Ak rs).map lS):=by
 have ln:(aC ts).length=rs.length:=by have:=dg.len;rw[bp]at this;rw[eI,this]
 unfold gT Ak K8;rw[ln];have all:∀is:List Nat,(∀i∈is,i<rs.length)->∃i2,(is.map λi=>(aC ts).getD i .bq)=aC i2/\d_ H i2 ((is.map λi=>rs.getD i r0).map lS):=λis=>by
  induction is with
  |nil=>intro _;exact⟨[],rfl,.nil⟩
  |cons i q a6=>
   intro ar;obtain⟨i2,aB,S3⟩:=a6 λj bL=>ar j (.tail _ bL);have lt:=ar i (.head _);have v8:i<ts.length:=by rw[eI]at ln;omega
   have aD:ts[i]?=some ts[i]:=dv v8;obtain⟨y,af,ai⟩:=bf.get dg aD;rw[c9,dv lt]at af;cases af;refine⟨ts[i]::i2,?_,.cons ?_ S3⟩
   .rw[hQ,aB];show(aC ts).getD i .bq::aC i2=V.ref ts[i]::aC i2;congr 1;show((aC ts)[i]?).getD .bq=_;unfold aC;rw[c9,aD];rfl
   .show H ts[i]=some (ee.tup (lS (rs.getD i r0)));rw[show rs.getD i r0=rs[i] by rw[eL,dv lt];rfl];exact ai
 exact all _ λi ar=>IX ar
theorem acA{κ:Type}[DecidableEq κ]{l ho:List (κ×ao.V)}(p:l.Perm ho)(aG:(l.map (·.1)).Nodup)(k:κ):b1 l k=b1 ho k:=by
 have DT:(ho.map (·.1)).Nodup:=(p.map _).nodup_iff.mp aG;cases e:b1 l k with
 |some v=>
  obtain⟨cf,af,ai⟩:=fJ.mp e;have bU:=ac0 af;have cX:=acT af;obtain⟨j,bL,aD⟩:=mJ (p.mem_iff.mp bU);have cH:cf=(k,v):=by obtain⟨a,b⟩:=cf;have:a=k:=ju cX;rw[this,<-ai]
  exact(J6 DT (by rw[dv bL,aD,cH])).symm
 |none=>
  cases cm:b1 ho k with
  |none=>rfl
  |some v=>
   obtain⟨cf,af,ai⟩:=fJ.mp cm;have bU:=ac0 af;have cX:cf.1=k:=ju (acT (p:=λcf:κ×ao.V=>decide (cf.1=k)) af);exact bG (b4.mpr ⟨cf,p.mem_iff.mpr bU,cX⟩) (Vp e)
theorem VH{rs:List Row}(aG:(rs.map λr=>(r.1,r.2.1)).Nodup):((fk rs).map (·.1)).Nodup:=by unfold fk;rw[jA];refine s6.mpr ((s6.mp aG).imp λ{a b}h z=>h ?_);have z:([.inr a.1,.inr a.2.1]:List a')=[.inr b.1,.inr b.2.1]:=z;simp at z;rw[z.1,z.2]
theorem aem{L:b9}:∀{ps:List (Str×Str)},ps.Nodup->(∀p∈ps,p.1∈L/\p.2∈L)->ps.length<=L.length*L.length:=λ{ps}aG h=>by
 have sub:ps ⊆ L.flatMap λa=>L.map λb=>(a,b):=λp aO=>by obtain⟨af,ai⟩:=h p aO;exact K4.mpr ⟨p.1,af,b4.mpr ⟨p.2,ai,rfl⟩⟩
 have:=IJ aG sub;rw[acX]at this;have e:(L.map λa=>(L.map λb=>(a,b)).length)=L.map λ_=>L.length:=A4 λa _=>bp ..;rw[e]at this;have s:∀(M:b9),((M.map λ_=>L.length).sum)=M.length*L.length:=λM=>by
  induction M with
  |nil=>simp
  |cons a r a6=>rw[hQ,Xc,a6,l6,Nat.succ_mul];omega
 rw[s]at this;exact this
theorem Wy:∀(dQ:List s9)(kvs:List (List a'×ao.V)),((kvs++dQ.map λq=>(q.2.1,q.2.2.2)).map (·.1)).Nodup->dQ.foldl (λkvs q=>d7 kvs q.2.1 q.2.2.2) kvs=kvs++dQ.map λq=>(q.2.1,q.2.2.2)
 |[],kvs,_=>(l4 _).symm
 |q::dQ,kvs,aG=>by
  have arV:b1 kvs q.2.1=none:=by
   cases z:b1 kvs q.2.1 with
   |none=>rfl
   |some v=>
    rw[eU,x7]at aG;exact bG rfl (aG.2.2 q.2.1 (dW.TO z) q.2.1 (by simp))
  show dQ.foldl _ (d7 kvs q.2.1 q.2.2.2)=_;rw[y0 _ arV,Wy dQ _ (by simpa using aG)];simp
theorem aei{K:aV}{dh:TI}{cs:lD}{b3:TE}{σ rest:ao.St}{H:ae}{Q:ba}{D0:Addr}{ts:bS}{rws:List Row}(hw:∀R:f9->ae->Prop,R (mI K D0) H->dh σ H R)(ij:il cs σ=none::none::none::rest)(h0:H D0=some (.lst (aC ts)))(dg:d_ H ts (rws.map lS))(aj:ts.length<sizeLine)(elt:∀r∈rws,∀(ag:ae)(R:ba),aN H ag->(∀t k bw,aN ag bw->bw t=some (.tup [.ref k,.int r.2.2])->bw k=some (.tup [.str r.1,.str r.2.1])->R (.ref t) bw)->b3 (some (.str r.1)::some (.str r.2.1)::some (.int r.2.2)::rest) ag R)(fin:∀(D:Addr)(H':ae)(dQ:List s9),H D=none->H' D=some (.lst (dQ.map λq=>V.ref q.1))->(∀q∈dQ,H' q.1=some (.tup [.ref q.2.2.1,q.2.2.2])/\H' q.2.2.1=some (.tup (q.2.1.map dn)))->(dQ.map λq=>(q.2.1,q.2.2.2))=fk rws->aN H H'->Q (.ref D) H'):
  n1 dh cs (xW K 3 (q9 (hX 0) (q9 (hX 1) (q9 (hX 2) AX)))) sN b3 σ H Q:=by
 refine hw _ λD bR=>?_;have du:=dg.len;rw[bp]at du;refine⟨λi m ys a4 H'=>m=ts.length-i/\i<=ts.length/\(∃dQ:List s9,ys=(dQ.map λq=>V.ref q.1)/\(∀q∈dQ,H' q.1=some (.tup [.ref q.2.2.1,q.2.2.2])/\H' q.2.2.1=some (.tup (q.2.1.map dn)))/\(dQ.map λq=>(q.2.1,q.2.2.2))=fk (rws.take i))/\(∃hB lh zb,a4=hB::lh::zb::rest)/\aN H H'/\H' D=some (.lst ys),⟨ts.length,by simp,e_ _,⟨[],rfl,(λq aU=>nomatch aU),rfl⟩,⟨none,none,none,ij⟩,bW bR,aP⟩,?_⟩;rintro i m ys a4 H' ⟨rfl,ar,⟨dQ,rfl,each,eg⟩,⟨hB,lh,zb,rfl⟩,aH,fe⟩;obtain⟨fo,fU,hN⟩:=tZ (aJ.of h0) H' aH;rw[eI]at fo fU hN;have Ć:dQ.length<=i:=by have:=ha sW eg;unfold fk at this;rw[bp,bp,mK]at this;omega
 refine⟨fe,od (by rw[bp];omega) aj,?_⟩;by_cases cP:i<ts.length
 .refine .inr ⟨fU i cP,λx ag y=>?_⟩;obtain⟨rfl,ex⟩:=hN i x ag cP y;unfold aC at ex;rw[c9]at ex;obtain⟨r,f3,rfl⟩:=fJ.mp ex;obtain⟨tw,BV,anZ⟩:=bf.get dg f3;rw[c9]at BV;obtain⟨d,BU,rfl⟩:=fJ.mp BV;have a5:rws.take (i+1)=rws.take i++[d]:=by rw[pk,BU];rfl
  refine⟨r,_,rfl,cN.of (aH _ _ anZ),rfl,_,_,rfl,_,_,rfl,_,_,rfl,rfl,?_⟩;refine elt d (eH BU) ag _ aH λt k bw s5 df aX=>?_;have d3:=s5 _ _ fe;have cQ:∀{b:Addr}{v:aZ},bw b=some (.tup v)->b≠D:=λ{b v}e z=>by rw[z,d3]at e;cases e
  refine⟨d3,ts.length-(i+1),by omega,rfl,cP,⟨dQ++[(t,fm d.1 d.2.1,k,.int d.2.2)],by rw[eU];rfl,λq aU=>?_,?_⟩,⟨_,_,_,rfl⟩,kp bR (aH.trans s5),aP⟩
  .rcases hj.mp aU with aU|aU
   .obtain⟨bQ,cZ⟩:=each q aU;have bQ:=s5 _ _ bQ;have cZ:=s5 _ _ cZ;exact⟨by rw[aA (cQ bQ)];exact bQ,by rw[aA (cQ cZ)];exact cZ⟩
   .rw[hr.mp aU];exact⟨by rw[aA (cQ df)];exact df,by rw[aA (cQ aX)];exact aX⟩
  .rw[eU,eg,a5];unfold fk;rw[eU];rfl
 .have e:i=ts.length:=by omega
  subst e;rw[du,pn]at eg;exact .inl ⟨fo,fin D H' dQ bR fe each eg aH⟩
theorem y3{κ:Type}[DecidableEq κ](k pT:κ):∀kvs:List (κ×ao.V),b1 (o4 kvs k) pT=if pT=k then none else b1 kvs pT
 |[]=>by split<;>rfl
 |p::r=>by
  have a6:=y3 k pT r;unfold o4 at a6⊢;by_cases h:p.1=k
  .rw[List.filter_cons_of_neg (by simp[h]),a6];split
   .rfl
   .rename_i n;rw[jW (λz=>n (z.symm.trans h))]
  .rw[List.filter_cons_of_pos (by simp[h])];by_cases e:p.1=pT
   .rw[kP e,bE (λz=>h (e.trans z)),kP e]
   .rw[jW e,a6,jW e]
theorem JD(s:cG)(d:jb):(d.act s).kvs=m6 s.kvs d:=by cases d<;>rfl
theorem WQ(s:cG)(d:jb):(d.act s).eA=FK s.eA d:=by cases d<;>rfl
theorem KG(s:cG)(d:jb):(d.act s).pr=s.pr:=by cases d<;>rfl
theorem tW(s:cG)(d:jb):(d.act s).a7=s.a7:=by cases d<;>rfl
theorem EI(s:cG)(d:jb):(d.act s).aE=s.aE:=by cases d<;>rfl
theorem WR(s:cG)(d:jb):(d.act s).hq=s.hq:=by cases d<;>rfl
theorem acB{kvs gV:er}(e:∀key,b1 kvs key=b1 gV key)(d:jb):∀key,b1 (m6 kvs d) key=b1 (m6 gV d) key:=λkey=>by
 cases d with
 |mz r=>exact e key
 |mx r=>exact e key
 |drop h g=>show b1 (o4 kvs _) key=b1 (o4 gV _) key;rw[y3,y3,e]
 |set h g r=>show b1 (d7 kvs _ _) key=b1 (d7 gV _ _) key;rw[qD,qD,e]
theorem pE.told{hs:bc}{ds:bT}{kvs:er}(T:pE kvs ds.length){d:jb}(O:q2 hs ds d):pE (m6 kvs d) ds.length:=⟨λk v e=>by
 cases O with
 |mz _=>exact T.val k v e
 |mx _=>exact T.val k v e
 |drop _ _ _=>
  have e:b1 (o4 kvs _) k=some v:=e;rw[y3]at e;split at e
  .cases e
  .exact T.val k v e
 |set _ _ _ aq _=>
  have e:b1 (d7 kvs _ _) k=some v:=e;rw[qD]at e;split at e
  .cases e;exact⟨_,rfl,aq⟩
  .exact T.val k v e⟩
theorem pE.api{kvs gV:er}{m:Nat}(T:pE gV m)(e:∀key,b1 kvs key=b1 gV key):pE kvs m:=⟨λk v h=>T.val k v (by rw[<-e];exact h)⟩
theorem afk{kvs gV:er}(e:∀key,b1 kvs key=b1 gV key)(h g:Str):iy kvs h g=iy gV h g:=by unfold iy;rw[e]
theorem aaF{hs:bc}{ds:bT}{kvs:er}(B:zl hs ds kvs){d:jb}(O:q2 hs ds d):zl hs ds (m6 kvs d):=λh' g' k e=>by
 cases O with
 |mz _=>exact B h' g' k e
 |mx _=>exact B h' g' k e
 |@drop h g _ _ _=>
  by_cases z:fm h' g'=fm h g
  .unfold m6 iy at e;rw[y3,bM z]at e;cases e
  .refine B h' g' k ?_;rw[<-e];unfold m6 iy;rw[y3,bE z]
 |@set h g r _ _ _ aq U=>
  by_cases z:fm h' g'=fm h g
  .unfold m6 iy at e;rw[qD,bM z]at e;have e:some ((r:Int).toNat)=some k:=e;rw[mH]at e;cases e;rw[U,(zK z).1]
  .refine B h' g' k ?_;rw[<-e];unfold m6 iy;rw[qD,bE z]
theorem aia{κ:Type}[DecidableEq κ](kvs:List (κ×ao.V))(k:κ)(v:ao.V):(d7 kvs k v).length<=kvs.length+1:=by
 unfold d7;split
 .rw[bp];omega
 .rw[hi];exact cq _
theorem VI(kvs:er)(d:jb):(m6 kvs d).length<=kvs.length+1:=by
 cases d with
 |mz r=>exact pq _
 |mx r=>exact pq _
 |drop h g=>exact eQ (jl _ _) (pq _)
 |set h g r=>exact aia _ _ _
theorem afl(l:dI)(d:jb):(FK l d).length<=l.length+1:=by
 cases d with
 |mz r=>
  show(w5 l r).length<=_;unfold w5;split
  .omega
  .simp
 |mx r=>exact eQ (jl _ _) (pq _)
 |drop h g=>exact pq _
 |set h g r=>exact pq _
theorem iW.act{hs:bc}{ds:bT}{k:Nat}{s:cG}(O:iW hs ds k s){d:jb}(xe:q2 hs ds d):iW hs ds k (d.act s):=by
 have t:=O.tab.told xe;rw[<-JD]at t;refine⟨?_,?_,O.BK,?_,t,?_,?_,?_,?_⟩
 .rw[EI,tW];exact O.len
 .rw[tW];exact O.pU
 .rw[tW];exact O.lets
 .rw[EI];exact O.ne
 .rw[EI];exact O.qR
 .rw[EI];exact O.eh
 .rw[WR];exact O.wJ
theorem lL.act{hs:bc}{s:cG}(P:lL hs s)(d:jb):lL hs (d.act s):=by
 refine⟨?_,?_,?_⟩
 .rw[tW];exact P.is
 .rw[tW];exact P.lo
 .rw[tW,KG];exact P.ar
theorem nC.th{hs:bc}{ds:bT}{kvs:er}(T:nC hs ds kvs)(R:∀d∈ds,d.Ok hs.length):zl hs ds kvs:=λh g k e=>by
 unfold iy at e;split at e
 .rename_i i bz;obtain⟨h',g',eg,lP,mg,ne,is,ev⟩:=T.get bz;obtain⟨rfl,rfl⟩:=zK eg;cases ev;obtain⟨u,b7⟩:=rM.mp is;obtain⟨i,d,_,fD,fL,rP,_⟩:=J3 R b7 ne;rw[fD,mH]at e;cases e;unfold o5;rw[so fL];exact rP
 .cases e
theorem nC.told{hs:bc}{ds:bT}{kvs:er}(T:nC hs ds kvs)(R:∀d∈ds,d.Ok hs.length)(eh:hs.length<=6):∃rs:List Row,kvs=fk rs/\(rs.map λr=>(r.1,r.2.1)).Nodup/\rs.length<=36/\∀r∈rs,L7 hs ds r:=by
 obtain⟨rows,e,aG,mem⟩:=T.rows;have t6:(rows.map λr=>(r.1,r.2.1)).Nodup:=by refine s6.mpr (acM (λ{ck dZ}gW la ne z=>ne ?_) aG);obtain⟨_,_,_,_,aB⟩:=EH ((mem ck).mp gW);obtain⟨_,_,_,_,aD⟩:=EH ((mem dZ).mp la);obtain⟨a1,a2,hv⟩:=ck;obtain⟨c1,c2,mc⟩:=dZ;obtain⟨bV,bA⟩:=Prod.mk.inj z;have bV:a1=c1:=bV;have bA:a2=c2:=bA;have aB:hv=best hs ds a1 a2:=aB;have aD:mc=best hs ds c1 c2:=aD;rw[aB,aD,bV,bA]
 refine⟨rows,e,t6,?_,λr aq=>?_⟩
 .have h:=aem (L:=hs.map S) t6 λp aO=>by obtain⟨r,aq,rfl⟩:=b4.mp aO;obtain⟨gW,la,_⟩:=EH ((mem r).mp aq);exact⟨gW,la⟩
  rw[bp,bp]at h;exact eQ h (adL eh eh)
 .obtain⟨gW,la,ne,is,aB⟩:=EH ((mem r).mp aq);obtain⟨u,b7⟩:=rM.mp is;obtain⟨i,d,_,fD,fL,rP,_⟩:=J3 R b7 ne;refine⟨gW,la,ne,⟨i,aB.trans fD,(eM.mp fL).1⟩,λgV mR=>?_⟩;rw[mR.jE.yes r.1 r.2.1 ⟨gW,ne,is⟩,aB]
theorem afm{hs:bc}{s:cG}(iw:lL hs s){h g:Str}(b:hS (bR hs) (gH (h,s.pr,g))=true)(l:s.a7.length<40){dK:Int}(lo:∀d∈s.a7,dK<=d.2.1)(ar:s.pr-dK<=30):rD (bR hs) ((s.a7++[(h,s.pr,g)]).map gH):=by
 refine⟨VR iw b,by rw[bp,hi];exact l,?_⟩;rw[Ň iw];cases e:s.a7 with
 |nil=>show s.pr-s.pr<=30;omega
 |cons d r=>
  have:=lo d (by rw[e];exact .head _);show s.pr-d.2.1<=30;omega
theorem bf.app{α β:Type}{F:α->β->Prop}:∀{l ho:List α}{m cV:List β},bf F l m->bf F ho cV->bf F (l++ho) (m++cV)
 |_,_,_,_,.nil,q=>q
 |_,_,_,_,.cons h r,q=>.cons h (bf.app r q)
theorem ũ:∀{l m:bS},aC l=aC m->l=m
 |[],[],_=>rfl
 |[],_::_,h=>nomatch h
 |_::_,[],h=>nomatch h
 |a::l,b::m,h=>by have h:V.ref a::aC l=V.ref b::aC m:=h;simp only[FY,V.ref.injEq]at h;rw[h.1,ũ h.2]
structure nU(H:ae)(bk cl b8 bX dF:Addr)(kvs:er)(eA:dI)(ei:bS)(a7:nx)(aE:fj)(hq:l9)(eS:bS):Prop where
 bk:H bk=some (.c3 kvs)
 cl:H cl=some (.b0 (iq eA))
 li:H b8=some (.lst (aC ei))
 lt:d_ H ei (a7.map jd)
 st:sb H bX aE
 dF:H dF=some (.lst (aC eS))
 jP:bf (hk H) eS hq
section
variable{aw C aS az:Addr}{aY H H':ae}{x:Addr}{A hg:d4}{hs:bc}{ds:bT}{s s':cG}{bk cl b8 bX dF:Addr}{kvs:er}{eA:dI}{ei:bS}{a7:nx}{aE:fj}{hq:l9}{eS:bS}
theorem sb.keep{M:bS}(h:sb H bX aE)(k:∀b o,b∉M->H b=some o->H' b=some o)(nm:bX∉M)(cQ:∀b∈M,∀v,H b≠some (.tup v)):sb H' bX aE:=by obtain⟨i1,af,ai⟩:=h;exact⟨i1,k _ _ nm af,bf.eE ai λ_ _ e=>k _ _ (λz=>cQ _ z _ e) e⟩
theorem IP{M:bS}{bs:l9}{as:bS}(p:bf (hk H) as bs)(k:∀b o,b∉M->H b=some o->H' b=some o)(cQ:∀b∈M,∀v,H b≠some (.tup v)):bf (hk H') as bs:=
 bf.eE p λ_ _⟨c,af,ai⟩=>⟨c,k _ _ (λz=>cQ _ z _ af) af,k _ _ (λz=>cQ _ z _ ai) ai⟩
theorem nU.keep{M:bS}(L:nU H bk cl b8 bX dF kvs eA ei a7 aE hq eS)(k:∀b o,b∉M->H b=some o->H' b=some o)(nm:∀b∈[bk,cl,b8,bX,dF],b∉M)(cQ:∀b∈M,∀v,H b≠some (.tup v)):nU H' bk cl b8 bX dF kvs eA ei a7 aE hq eS:=
 ⟨k _ _ (nm _ (by simp)) L.bk,k _ _ (nm _ (by simp)) L.cl,k _ _ (nm _ (by simp)) L.li,bf.eE L.lt λ_ _ e=>k _ _ (λz=>cQ _ z _ e) e,L.st.keep k (nm _ (by simp)) cQ,k _ _ (nm _ (by simp)) L.dF,IP L.jP k cQ⟩
theorem nU.same(L:nU H bk cl b8 bX dF kvs eA ei a7 aE hq eS)(aH:aN H H'):nU H' bk cl b8 bX dF kvs eA ei a7 aE hq eS:=L.keep (M:=[]) (λb o _ e=>aH b o e) (λ_ _ h=>nomatch h) (λ_ h=>nomatch h)
theorem nU.has(L:nU H bk cl b8 bX dF kvs eA ei a7 aE hq eS):∀b∈[bk,cl,b8,bX,dF],H b≠none:=λb U e=>by
 simp only[c',dX,or_false]at U;rcases U with rfl|rfl|rfl|rfl|rfl
 .rw[L.bk]at e;cases e
 .rw[L.cl]at e;cases e
 .rw[L.li]at e;cases e
 .obtain⟨_,h,_⟩:=L.st;rw[h]at e;cases e
 .rw[L.dF]at e;cases e
theorem nU.out(L:nU H bk cl b8 bX dF kvs eA ei a7 aE hq eS){M mM:bS}(eK:gK M mM H H')(nm:∀b∈[bk,cl,b8,bX,dF],b∉M):∀b∈[bk,cl,b8,bX,dF],b∉mM:=λb U z=>by
 rcases eK.own b z with h|h
 .exact nm b U h
 .exact L.has b U h
structure lT(aw C aS az:Addr)(aY H:ae)(hs:bc)(ds:bT)(x bk cl b8 bX:Addr)(dK:Int)(j:Nat)(A:d4)(s:cG)(k:Nat)(kvs:er)(dF:Addr)(ei eS:bS):Prop where
 d:dS aw C aS az aY H x A hs ds s
 l:nU H bk cl b8 bX dF kvs s.eA ei s.a7 s.aE s.hq eS
 ok:iW hs ds k s
 po:lL hs s
 hG:zl hs ds s.kvs
 cf:∀key,b1 kvs key=b1 s.kvs key
 nm:∀b∈[bk,cl,b8,bX,dF],b∉A.bH x
 nb:∀b∈[bk,cl,b8,bX],aY b=none
 ne:b8≠bX/\dF≠b8/\dF≠bX
 lN:kvs.length<=36+j/\s.kvs.length<=36+j/\s.eA.length<=j
 lo:∀d∈s.a7,dK<=d.2.1
 pr:s.pr=dK+(k:Int)
 v7:k<=j
variable{dK:Int}{j k:Nat}
theorem lT.same(S:lT aw C aS az aY H hs ds x bk cl b8 bX dK j A s k kvs dF ei eS)(aH:aN H H'):lT aw C aS az aY H' hs ds x bk cl b8 bX dK j A s k kvs dF ei eS:={S with d:=S.d.same aH,l:=S.l.same aH}
theorem VJ{t u:TT}{σ:ao.St}{H:ae}{Q:Bool->ae->Prop}{c1 c2:Bool}(af:∀Q:Bool->ae->Prop,Q c1 H->t σ H Q)(ai:∀Q:Bool->ae->Prop,Q c2 H->u σ H Q)(q:Q (c1&&c2) H):LD t u σ H Q:=by
 refine af _ ?_;cases c1 with
 |false=>exact gx q
 |true=>exact h3 (ai _ q)
theorem agF{t u:TT}{σ:ao.St}{H:ae}{Q:Bool->ae->Prop}{c1:Bool}(af:∀Q:Bool->ae->Prop,Q c1 H->t σ H Q)(ai:∀Q:Bool->ae->Prop,(∀H',aN H H'->Q false H')->u σ H Q)(q:∀H',aN H H'->Q false H'):LD t u σ H Q:=by
 refine af _ ?_;cases c1 with
 |false=>exact gx (q H (aN.refl _))
 |true=>exact h3 (ai _ q)
theorem Ye{H:ae}{hs:bc}(G:Good hs){rs:bS}{a7:nx}(dg:d_ H rs (a7.map jd))(pj:Fm hs a7):eV H (aC rs) (a7.map gH):=JZ dg λd hd=>⟨kA G (pj d hd).1,kA G (pj d hd).2⟩
theorem abn{H:ae}{vs:aZ}{a7:nx}(h:eV H vs (a7.map gH)):qn (.list (a7.map gH))=true:=v3 (n:=62) (eV.nz h) (ť _) (by decide)
inductive aj7(aw C aS az:Addr)(aY:ae)(hs:bc)(ds:bT)(a d6:Addr)(lb:Nat)(g6 cB:Addr)(dK:Int)(n x pl bk cl b8 bX:Addr)(j:Nat)(σ:ao.St)(H:ae):Prop where
 |mk (A:d4) (s:cG) (k:Nat) (kvs:er) (dF:Addr) (ei eS:bS) (Ti Tj Tn To Tp:l') (bV:σ=[some (.ref a),some (.ref d6),some (.int (lb:Int)),some (.ref g6),some (.ref cB),some (.int dK),some (.ref n),some (.ref x),some (.ref pl),some (.ref bk),some (.ref cl),some (.ref b8),some (.ref bX),some (.ref dF),some (.int s.pr),Ti,Tj,Tn,To,Tp,none]) (bA:lT aw C aS az aY H hs ds x bk cl b8 bX dK j A s k kvs dF ei eS)
theorem lT.gR(S:lT aw C aS az aY H hs ds x bk cl b8 bX dK j A s k kvs dF ei eS)(bI:∀b o,b≠bX->H b=some o->H' b=some o)(st:sb H' bX (oM hs ds s).aE):
  dS aw C aS az aY H' x A hs ds s/\nU H' bk cl b8 bX dF kvs s.eA ei s.a7 (oM hs ds s).aE s.hq eS:=by
 have qU:∀v,H bX≠some (.tup v):=λv e=>by obtain⟨_,h,_⟩:=S.l.st;rw[h]at e;cases e
 have k1:∀b o,b∉[bX]->H b=some o->H' b=some o:=λb o nb e=>bI b o (by simpa using nb) e;have cQ:∀b∈[bX],∀v,H b≠some (.tup v):=λb U v=>by rw[hr.mp U];exact qU v
 have dp:bk≠bX:=λz=>by obtain⟨_,h,_⟩:=S.l.st;rw[<-z,S.l.bk]at h;cases h
 have dq:cl≠bX:=λz=>by obtain⟨_,h,_⟩:=S.l.st;rw[<-z,S.l.cl]at h;cases h
 refine⟨S.d.frame (M:=[bX]) (λb o e=>bI b o (bZ e (S.nb bX (by simp))) (S.d.b' _ _ e)) k1 (λb U z=>S.nm bX (by simp) (by rw[hr]at z;exact z▸U)) cQ,?_⟩;exact⟨bI _ _ dp S.l.bk,bI _ _ dq S.l.cl,bI _ _ S.ne.1 S.l.li,bf.eE S.l.lt λ_ _ e=>bI _ _ (λz=>qU _ (z▸e)) e,st,bI _ _ S.ne.2.2 S.l.dF,IP S.l.jP k1 cQ⟩
theorem lT.pass(R:∀d∈ds,d.Ok hs.length)(S:lT aw C aS az aY H hs ds x bk cl b8 bX dK j A s k kvs dF ei eS){nP:Addr}{Ô:bS}{ag:ae}(D:dS aw C aS az aY ag x A hs ds s)(L:nU ag bk cl b8 bX nP kvs s.eA ei s.a7 (oM hs ds s).aE (s.hq++fG ds s) Ô)(nl:nP∉A.bH x)(ne:nP≠b8/\nP≠bX)(eK:gK (A.bH x) (hg.bH x) ag H')(cA:dS aw C aS az aY H' x hg hs ds (oM hs ds s)):lT aw C aS az aY H' hs ds x bk cl b8 bX dK (j+1) hg (oM hs ds s) (k+1) kvs nP ei Ô:=by
 have nm:∀b∈[bk,cl,b8,bX,nP],b∉A.bH x:=λb U=>by
  simp only[c',dX,or_false]at U;rcases U with rfl|rfl|rfl|rfl|rfl
  .exact S.nm _ (by simp)
  .exact S.nm _ (by simp)
  .exact S.nm _ (by simp)
  .exact S.nm _ (by simp)
  .exact nl
 refine⟨cA,L.keep eK.keep nm (λb U v=>D.uc U),S.ok.pass R,S.po.pass,S.hG,S.cf,L.out eK nm,S.nb,⟨S.ne.1,ne⟩,?_,S.lo,?_,?_⟩
 .have:=S.lN;show _<=_/\s.kvs.length<=_/\s.eA.length<=_;omega
 .show s.pr+1=_;rw[S.pr];omega
 .have:=S.v7;omega
theorem lT.Zl(S:lT aw C aS az aY H hs ds x bk cl b8 bX dK j A s k kvs dF ei eS){ag a_:ae}{d:jb}(xe:q2 hs ds d)(eK:gK (A.bH x) (A.bH x) H ag)(cB:dS aw C aS az aY ag x A hs ds (d.act s))(bI:∀b o,b≠bk->b≠cl->ag b=some o->a_ b=some o)(df:a_ bk=some (.c3 (m6 kvs d)))(ay:a_ cl=some (.b0 (iq (FK s.eA d)))):lT aw C aS az aY a_ hs ds x bk cl b8 bX dK (j+1) A (d.act s) k (m6 kvs d) dF ei eS:=by
 have kL:=S.l.keep eK.keep S.nm (λb U v=>S.d.uc U);have k1:∀b o,b∉[bk,cl]->ag b=some o->a_ b=some o:=λb o nb e=>by simp at nb;exact bI b o nb.1 nb.2 e
 have cQ:∀b∈[bk,cl],∀v,ag b≠some (.tup v):=λb U v e=>by
  simp only[c',dX,or_false]at U;rcases U with rfl|rfl
  .rw[kL.bk]at e;cases e
  .rw[kL.cl]at e;cases e
 have nl:∀{b:Addr}{v:aZ},ag b=some (.lst v)->b∉[bk,cl]:=λ{b v}e U=>by
  simp only[c',dX,or_false]at U;rcases U with rfl|rfl
  .rw[kL.bk]at e;cases e
  .rw[kL.cl]at e;cases e
 have fC:=cB.frame (M:=[bk,cl]) (λb o e=>bI b o (bZ e (S.nb bk (by simp))) (bZ e (S.nb cl (by simp))) (cB.b' _ _ e)) k1 (λb U z=>by
  simp only[c',dX,or_false]at z;rcases z with rfl|rfl
  .exact S.nm _ (by simp) U
  .exact S.nm _ (by simp) U) cQ
 have hG:=aaF S.hG xe;rw[<-JD]at hG;have hK:=VI kvs d;have gG:=VI s.kvs d;have j9:=afl s.eA d;have lN:=S.lN;refine⟨fC,?_,S.ok.act xe,S.po.act d,hG,?_,S.nm,S.nb,S.ne,?_,?_,?_,?_⟩
 .rw[WQ,tW,EI,WR];refine⟨df,ay,k1 _ _ (nl kL.li) kL.li,bf.eE kL.lt λ_ _ e=>k1 _ _ (λz=>cQ _ z _ e) e,kL.st.keep k1 ?_ cQ,k1 _ _ (nl kL.dF) kL.dF,IP kL.jP k1 cQ⟩;obtain⟨_,h,_⟩:=kL.st;exact nl h
 .rw[JD];exact acB S.cf d
 .rw[JD,WQ];omega
 .rw[tW];exact S.lo
 .rw[KG];exact S.pr
 .have:=S.v7;omega
theorem lT.post(S:lT aw C aS az aY H hs ds x bk cl b8 bX dK j A s k kvs dF ei eS){ag:ae}{h g:Str}(b:hS (bR hs) (gH (h,s.pr,g))=true)(lP:h∈hs.map dW.S)(mg:g∈hs.map dW.S)(pU:s.a7.length+1<=40)(eK:gK (A.bH x) (hg.bH x) H ag)(cB:dS aw C aS az aY ag x hg hs ds (nT s h g)){t1 eP:Addr}{i1:bS}(dp:ag t1=none)(HB:ag bX=some (.lst (aC i1)))(dq:upd (upd ag t1 (.tup (jd (h,s.pr,g)))) b8 (.lst (aC ei++[.ref t1])) eP=none):lT aw C aS az aY (upd (upd (upd (upd ag t1 (.tup (jd (h,s.pr,g)))) b8 (.lst (aC ei++[.ref t1]))) eP (.tup [.str h,.int s.pr])) bX (.lst (aC i1++[.ref eP]))) hs ds x bk cl b8 bX dK (j+1) hg (nT s h g) k kvs dF (ei++[t1]) eS:=by
 have kL:=S.l.keep eK.keep S.nm (λb U v=>S.d.uc U);have nm:=S.l.out eK S.nm;have ux:=bW (o:=.tup (jd (h,s.pr,g))) dp;have aB:upd ag t1 (.tup (jd (h,s.pr,g))) t1=some (.tup (jd (h,s.pr,g))):=aP;have ct:=kL.same ux;have fC:=cB.same ux;have lM:=ux _ _ HB;generalize upd ag t1 (.tup (jd (h,s.pr,g)))=a_ at ux aB ct fC dq lM⊢;have gg:=fC.Gu (l:=b8) (nm b8 (by simp)) (S.nb b8 (by simp)) ct.li (ys:=aC ei++[.ref t1]);have apu:t1≠b8:=λz=>by rw[z,ct.li]at aB;cases aB
 have e3:upd a_ b8 (.lst (aC ei++[.ref t1])) t1=some (.tup (jd (h,s.pr,g))):=by rw[aA apu];exact aB
 have P9:∀b o,b≠b8->a_ b=some o->upd a_ b8 (.lst (aC ei++[.ref t1])) b=some o:=λb o nb e=>by rw[aA nb];exact e
 have kb:upd a_ b8 (.lst (aC ei++[.ref t1])) b8=some (.lst (aC (ei++[t1]))):=by rw[aP];unfold aC;rw[eU];rfl
 generalize upd a_ b8 (.lst (aC ei++[.ref t1]))=dP at gg e3 P9 kb dq⊢;have aoC:=P9 _ _ S.ne.1.symm lM;have EX:=bW (o:=.tup [V.str h,V.int s.pr]) dq;have gw:upd dP eP (.tup [V.str h,V.int s.pr]) eP=some (.tup [V.str h,V.int s.pr]):=aP;have VC:=gg.same EX;have HC:=EX _ _ aoC;have k5:∀b o,b≠b8->a_ b=some o->upd dP eP (.tup [V.str h,V.int s.pr]) b=some o:=λb o nb e=>EX _ _ (P9 b o nb e);have wm:=EX _ _ kb;have GB:=EX _ _ e3;generalize upd dP eP (.tup [V.str h,V.int s.pr])=bw at VC HC k5 wm GB gw⊢;have kH:=VC.Gu (l:=bX) (nm bX (by simp)) (S.nb bX (by simp)) HC (ys:=aC i1++[.ref eP]);have aro:eP≠bX:=λz=>by rw[z,HC]at gw;cases gw
 have se:∀b o,b∉[b8,bX]->a_ b=some o->upd bw bX (.lst (aC i1++[.ref eP])) b=some o:=λb o nb e=>by simp at nb;rw[aA nb.2];exact k5 b o nb.1 e
 have cQ:∀b∈[b8,bX],∀v,a_ b≠some (.tup v):=λb U v e=>by
  simp only[c',dX,or_false]at U;rcases U with rfl|rfl
  .rw[ct.li]at e;cases e
  .rw[lM]at e;cases e
 have aqd:bk∉[b8,bX]:=λU=>by
  simp only[c',dX,or_false]at U;have e:=ct.bk;rcases U with rfl|rfl
  .rw[ct.li]at e;cases e
  .rw[lM]at e;cases e
 have aqe:cl∉[b8,bX]:=λU=>by
  simp only[c',dX,or_false]at U;have e:=ct.cl;rcases U with rfl|rfl
  .rw[ct.li]at e;cases e
  .rw[lM]at e;cases e
 have aqf:dF∉[b8,bX]:=λU=>by simp only[c',dX,or_false]at U;exact U.elim S.ne.2.1 S.ne.2.2
 obtain⟨Jb,lG,aqD⟩:=ct.st;rw[lM]at lG;have lG:aC i1=aC Jb:=ee.lst.inj (hF lG);have:i1=Jb:=ũ lG;subst this;refine⟨kH,⟨se _ _ aqd ct.bk,se _ _ aqe ct.cl,?_,?_,⟨i1++[eP],?_,?_⟩,se _ _ aqf ct.dF,IP ct.jP se cQ⟩,S.ok.post lP mg pU,S.po.post b,S.hG,S.cf,nm,S.nb,S.ne,?_,?_,S.pr,?_⟩
 .rw[aA S.ne.1];exact wm
 .show d_ _ (ei++[t1]) ((s.a7++[(h,s.pr,g)]).map jd);rw[eU];exact Paired.snoc (by rw[aA (λz=>by rw[z,HC]at GB;cases GB)];exact GB) (bf.eE ct.lt λ_ _ e=>se _ _ (λz=>cQ _ z _ e) e)
 .rw[aP];unfold aC;rw[eU];rfl
 .exact Paired.snoc (by rw[aA aro];exact gw) (bf.eE aqD λ_ _ e=>se _ _ (λz=>cQ _ z _ e) e)
 .have:=S.lN;show _<=_/\s.kvs.length<=_/\s.eA.length<=_;omega
 .intro d hd;rcases hj.mp hd with hd|hd
  .exact S.lo d hd
  .rw[hr.mp hd];show dK<=s.pr;rw[S.pr];omega
 .have:=S.v7;omega
set_option maxHeartbeats 8000000
end
section
variable{P:bO}{w:bx}{K:aV}{mg:cI}{base:Heap}
noncomputable abbrev x1:Stmt:=top 55
noncomputable abbrev ahW:List Str:=["_law_script","_law_names","_law_many","_law_cells","_law_lines","_law_first","_law_net","_law_day","_law_pairs","_law_told","_law_closed","_law_letters","_law_stood","_law_log","_law_now","_law_cell","_law_n","_law_due","_law_house","_law_goal","_law_found"]
theorem iU:dB ahW ["_law_script"] (c7 x1):=⟨rfl,rfl,rfl,by decide+kernel,rfl,by decide+kernel,by decide+kernel⟩
seal fV bl fW f_
theorem WF{aw C aS az f iz ZN fl pL vC f1 f2 cz f4 fx B0 Zw f8 GH g1 g2 g3:Addr}{fd ZH ZI ZJ tE Cy c4 ec hn kT Cu Cv ZA ZC ZD ZT ZU ZV:cF}(F:bB K "law" "law" x1 f fd)(B:gp mg)(dj:rb K aS)(KH:mg "Net"=some (.ref az))(zM:mg "Day"=some (.ref aw))(fE:fB K aw)(jC:dO K mg "_law_cell_at" Er ["_law_script","_law_k"] iz ZH)(yB:aL P w K mg base a8 1 iz ZH ["_law_script","_law_k"] (LG K))(Dg:dO K mg "_law_houses" D2 ["_law_cell","_law_many"] ZN ZI)(asl:aL P w K mg base a8 1 ZN ZI ["_law_cell","_law_many"] SS)(Dz:dO K mg "_law_road" A8 ["_law_cell","_law_names"] fl ZJ)(aaG:aL P w K mg base a8 1 fl ZJ ["_law_cell","_law_names"] K9)(Fs:oa K az pL)(RW:rJ K az "Net.__init__" Ag ["self","houses","roads"] pL tE)(RX:aL P w K mg base a8 5 pL tE ["self","houses","roads"] (Ko K az))(wy:oa K aw vC)(yW:rJ K aw "Day.__init__" xT ["self","net","first"] vC Cy)(RV:aL P w K mg base a8 5 vC Cy ["self","net","first"] (FR aw C aS az))(qz:dO K mg "shortest" zu ["net"] f1 c4)(RT:aL P w K mg base a8 4 f1 c4 ["net"] (Gf aS az))(HQ:c6 K aS "pairs" "Ways.pairs" EE ["self"] f2 ec)(aad:aL P w K mg base a8 1 f2 ec ["self"] (L6 aS))(Dp:dO K mg "_law_bags" Et D3 cz hn)(aaH:aL P w K mg base a8 1 cz hn D3 L1)(Dh:dO K mg "_law_passed" EC D7 f4 kT)(asm:aL P w K mg base a8 7 f4 kT D7 (L2 aw C aS az))(Dk:dO K mg "_law_posted" ED D8 fx Cu)(asn:aL P w K mg base a8 6 fx Cu D8 (L4 aw C aS az))(CI:dO K mg "_law_refused" EG D9 B0 Cv)(asq:aL P w K mg base a8 5 B0 Cv D9 (L5 aw C aS az))(Dl:dO K mg "_law_change" Ew D5 Zw ZA)(aso:aL P w K mg base a8 5 Zw ZA D5 (LZ aw C aS az))(Dq:dO K mg "_law_made" EA zh f8 ZC)(aaI:aL P w K mg base a8 1 f8 ZC zh L0)(Dm:dO K mg "_law_beside" Eu D4 GH ZD)(asp:aL P w K mg base a8 7 GH ZD D4 (L8 az))(ot:c6 K aw "log" "Day.log" uS ["self"] g1 ZT)(DN:aL P w K mg base a8 1 g1 ZT ["self"] (Am aw C aS az))(IQ:c6 K aw "now" "Day.now" Bh ["self"] g2 ZU)(acC:aL P w K mg base a8 1 g2 ZU ["self"] (Lu aw C aS az))(tu:c6 K aw "letters" "Day.letters" xS ["self"] g3 ZV)(Qs:aL P w K mg base a8 1 g3 ZV ["self"] (FQ aw C aS az)):
  aL P w K mg base a8 8 f fd ["_law_script"] (FI K):=by
 have jZ:=dj.cl;refine F.ok iU (λvs H Q E h=>?_) (λcdv A outer s H vs Q E aq h=>?_)
 .obtain⟨a,ns,rfl,_⟩:=h;rfl
 .obtain⟨a,ns,rfl,fO,C3,q⟩:=h;obtain⟨m,hm⟩:∃m:Nat,2+ns.getD (1:Int).toNat 0%5=(m:Int):=⟨(2+ns.getD (1:Int).toNat 0%5).toNat,by omega⟩
  have Υ:2<=m/\m<=6:=by omega
  obtain⟨hs,NC⟩:∃hs,hs=sa (ns.getD (0:Int).toNat 0) m:=⟨_,rfl⟩
  have G:Good hs:=by rw[NC];exact asE (by omega)
  have aj:hs.length=m:=by rw[NC,Rn]
  refine⟨_,(bh (da (i:=1) iU.aG rfl (rN rfl) (fw asl (aq.mono (by decide)) (by rfl) Dg.at_ Dg.fn.bI Dg.bd .nil dt (ak (fw yB (aq.mono (by decide)) (by rfl) jC.at_ jC.fn.bI jC.bd .nil dt (ak (aa 0) (ak aW aI))) (ak (bK ib aW (bK e9 (fw yB (aq.mono (by decide)) (by rfl) jC.at_ jC.fn.bI jC.bd .nil dt (ak (aa 0) (ak aW aI))) aW)) aI))))
   (bh (da (i:=2) iU.aG rfl (cb rfl) (cv fu (gS (ak aW (ak (bK ib aW (bK e9 (bK g9 (fw yB (aq.mono (by decide)) (by rfl) jC.at_ jC.fn.bI jC.bd .nil dt (ak (aa 0) (ak aW aI))) aW) aW)) aI))) (nA Ŗ (by rfl) B.int JT (ak (i6 wZ (bK e9 (bK g9 (fw yB (aq.mono (by decide)) (by rfl) jC.at_ jC.fn.bI jC.bd .nil dt (ak (aa 0) (ak aW aI))) aW) aW) aW (dz _)) aI)) (λ_ _=>rfl)))
   (bh (tQ (i:=3) iU.aG rfl rfl rfl (N':=["_law_k","_law_script"]) (cs:=[none,some 0]) rfl (yR rfl B.range (ak (aa 2) aI)) rfl (by decide+kernel) rfl (by decide+kernel) (lK (n'.mpr ⟨rfl,(λp aO=>bG aO (dX))⟩)) rfl
    (.own (.md rfl (.inl rfl) (.inl rfl) rfl .nil))
    (λC s3 a_ cp fg=>⟨(et (i:=0) (by show(["_law_k","_law_script"]:b9).Nodup;decide+kernel) rfl (.inl rfl)),qX,(bK ib (fw yB (aq.mono (by decide)) (by rfl) jC.at_ jC.fn.bI jC.bd .nil dt (ak (aa 1) (ak (bK ib aW (aa 0)) aI))) (bK ui (bK ui aW (aa 0)) (aa 0)))⟩))
   (bh (tQ (i:=4) iU.aG rfl rfl rfl (N':=["_law_cell","_law_names"]) (cs:=[none,some 1]) rfl (jY (aa 3)) rfl (by decide+kernel) rfl (by decide+kernel) (lK (n'.mpr ⟨rfl,(λp aO=>bG aO (dX))⟩)) rfl
    (.own (.md rfl (.inl rfl) (.inl rfl) rfl .nil))
    (λC s3 a_ cp fg=>⟨(et (i:=0) (by show(["_law_cell","_law_names"]:b9).Nodup;decide+kernel) rfl (.inl rfl)),qX,(fw aaG (aq.mono (by decide)) (by rfl) Dz.at_ Dz.fn.bI Dz.bd .nil dt (ak (aa 0) (ak (aa 1) aI)))⟩))
   (bh (da (i:=5) iU.aG rfl (cb rfl) (bK e9 (fw yB (aq.mono (by decide)) (by rfl) jC.at_ jC.fn.bI jC.bd .nil dt (ak (aa 0) (ak aW aI))) (bK sg (bK JK aW aW) aW)))
   (bh (da (i:=6) iU.aG rfl (cb rfl) (Em Fs RX (aq.mono (by decide)) (by rfl) KH RW.bd .nil dt (ak (aa 1) (ak (aa 4) aI))))
   (bh (da (i:=7) iU.aG rfl (cb rfl) (Em wy RV (aq.mono (by decide)) (by rfl) zM yW.bd .nil dt (ak (aa 6) (ak (aa 5) aI))))
   (bh (da (i:=8) iU.aG rfl (cb rfl) (mV (fw RT (aq.mono (by decide)) (by rfl) qz.at_ qz.fn.bI qz.bd .nil dt (ak (aa 6) aI)) jZ HQ.eo aad (aq.mono (by decide)) HQ.bd .nil dt))
   (bh (da (i:=9) iU.aG rfl (cb rfl) (nA (abm rfl (od (adH (by decide:2<=64) _) aq.units)) (by rfl) B.dict af3 (ak (uB (N':=["_law_house","_law_goal","_law_road_here"]) (cs:=[none,none,none]) rfl (jY (aa 8)) rfl (by decide+kernel) rfl (by decide+kernel) (lK (λp aO=>bG aO (dX))) rfl
    (.own (.own (.own .nil)))
    (λC s3 a_ cp fg=>⟨(Eg (K:=K) (n:=3) rfl rfl (ia (et (i:=0) (by show(["_law_house","_law_goal","_law_road_here"]:b9).Nodup;decide+kernel) rfl (.inl rfl)) (ia (et (i:=1) (by show(["_law_house","_law_goal","_law_road_here"]:b9).Nodup;decide+kernel) rfl (.inl rfl)) (ia (et (i:=2) (by show(["_law_house","_law_goal","_law_road_here"]:b9).Nodup;decide+kernel) rfl (.inl rfl)) pP)))),qX,(i8 (ak (i8 (ak (aa 0) (ak (aa 1) aI))) (ak (aa 2) aI)))⟩)) aI)))
   (bh (da (i:=10) iU.aG rfl (cb rfl) IU)
   (bh (da (i:=11) iU.aG rfl (cb rfl) (gS aI))
   (bh (da (i:=12) iU.aG rfl (cb rfl) (gS aI))
   (bh (da (i:=13) iU.aG rfl (cb rfl) (gS aI))
   (bh (da (i:=14) iU.aG rfl (cb rfl) (aa 5))
   (bh (kq kM rfl (jY (Tu UB (aa 0) (Jl aW) (Jl aW))) (et (i:=15) iU.aG rfl (cb rfl))
    (bh (da (i:=16) iU.aG rfl (cb rfl) (bK e9 (bK ui (aa 15) aW) aW))
   (br (eY (eC p2 (bK e9 (aa 16) aW) aW (dz _)) (bh (da (i:=17) iU.aG rfl (cb rfl) (fw aaH (aq.mono (by decide)) (by rfl) Dp.at_ Dp.fn.bI Dp.bd .nil dt (ak (aa 11) (ak (aa 12) (ak (aa 9) (ak (aa 10) (ak (aa 4) (ak (aa 14) aI))))))))
   (bh (da (i:=13) iU.aG rfl (cb rfl) (bK Kh (aa 13) (aa 17)))
   (bh (da (i:=14) iU.aG rfl (cb rfl) (bK ib (aa 14) aW))
   (br (eY (i7 (iR (fw asm (aq.mono (by decide)) (by rfl) Dh.at_ Dh.fn.bI Dh.bd .nil dt (ak (aa 7) (ak (aa 17) (ak (aa 13) (ak (aa 16) aI))))))) (br (c_ hW)) fv))))) (br (eY (iv.pt (t5 (eC p2 (bK e9 (aa 16) aW) aW (dz _)) (t5 (eC p2 (dE gP (by rfl) B.len gF (ak (aa 11) aI)) aW (dz _)) (Ea (eC p0 (bK sg (aa 14) (aa 5)) aW (dz _)))))) (bh (da (i:=18) iU.aG rfl (cb rfl) (cv fu (aa 1) (bK e9 (bK g9 (aa 16) aW) (dE gP (by rfl) B.len gF (ak (aa 1) aI))) (λ_ _=>rfl)))
   (bh (da (i:=19) iU.aG rfl (cb rfl) (cv fu (aa 1) (bK e9 (bK ib (bK ib (bK g9 (aa 16) aW) aW) (bK e9 (bK g9 (aa 16) aW) (bK sg (dE gP (by rfl) B.len gF (ak (aa 1) aI)) aW))) (dE gP (by rfl) B.len gF (ak (aa 1) aI))) (λ_ _=>rfl)))
   (bh (eY (i7 (iR (fw asn (aq.mono (by decide)) (by rfl) Dk.at_ Dk.fn.bI Dk.bd .nil dt (ak (aa 7) (ak (aa 18) (ak (aa 19) (ak (dE gP (by rfl) B.len gF (ak (aa 11) aI)) (ak (bK g9 (aa 16) aW) aI)))))))) (br (c_ hW)) fv)
   (bh (gQ (nN og pw px nB (aa 11) (ak (i8 (ak (aa 18) (ak (aa 14) (ak (aa 19) aI)))) aI)))
   (br (gQ (nN og pw px nB (aa 12) (ak (i8 (ak (aa 18) (ak (aa 14) aI))) aI)))))))) (br (eY (iv.pt (t5 (eC i9 (bK e9 (aa 16) aW) aW (dz _)) (Ea (i7 (iR (fw asq (aq.mono (by decide)) (by rfl) CI.at_ CI.fn.bI CI.bd .nil dt (ak (aa 7) (ak (aa 1) (ak (aa 4) (ak (bK g9 (aa 16) aW) aI)))))))))) (br (c_ hW)) (br (eY (i7 (iR (fw aaI (aq.mono (by decide)) (by rfl) Dq.at_ Dq.fn.bI Dq.bd .nil dt (ak (fw aso (aq.mono (by decide)) (by rfl) Dl.at_ Dl.fn.bI Dl.bd .nil dt (ak (aa 7) (ak (aa 1) (ak (aa 4) (ak (bK g9 (aa 16) aW) aI))))) (ak (aa 9) (ak (aa 10) aI)))))) (br (c_ hW)) fv))))))))))
   (bh (eY (i7 (iR (fw asp (aq.mono (by decide)) (by rfl) Dm.at_ Dm.fn.bI Dm.bd .nil dt (ak (aa 6) (ak (aa 4) (ak (aa 8) (ak (aa 5) (ak (aa 14) aI)))))))) (br (c_ hW)) fv)
   (bh (da (i:=20) iU.aG rfl (cb rfl) (mV (aa 7) fE ot.eo DN (aq.mono (by decide)) ot.bd .nil dt))
   (br (c_ (jK (dE mf (by rfl) B.isinstance jD (ak (aa 20) (ak (lJ (by rfl) B.list oD) aI))) (jK (i6 (zw aq.units) (aa 20) (aa 13) (dz _)) (jK (i6 i9 (mV (aa 7) fE IQ.eo acC (aq.mono (by decide)) IQ.bd .nil dt) (aa 14) (dz _)) (m3 (i6 (zw aq.units) (mV (aa 7) fE tu.eo Qs (aq.mono (by decide)) tu.bd .nil dt) (aa 11) (dz _))))))))))))))))))))))))),?_⟩
  refine⟨_,rfl,a,ns,0,rfl,fO,by decide,_,rfl,a,ns,1,rfl,fO,by decide,_,_,rfl,rfl,(by show(0:Int)<5;decide),_,_,rfl,rfl,ns.getD (0:Int).toNat 0,m,?_,by omega,λd6 H1 Io s1 af=>?_⟩
  .show[V.int _,V.int (2+ns.getD (1:Int).toNat 0%5)]=_;rw[hm]
  rw[<-NC]at af;have qJ:=s1.seq fO;refine⟨_,rfl,a,ns,1,rfl,qJ,by decide,_,_,rfl,rfl,⟨by decide,by decide⟩,_,_,rfl,rfl,(by show(0:Int)<8;decide),_,_,rfl,rfl,(by show 2<=sizeLine;decide),λn5 aql=>?_⟩;have S_:=bW (o:=.lst [V.int 12,V.int (1+ns.getD (1:Int).toNat 0/20%8)]) aql;have HI:upd H1 n5 (.lst [V.int 12,V.int (1+ns.getD (1:Int).toNat 0/20%8)]) n5=some (.lst [V.int 12,V.int (1+ns.getD (1:Int).toNat 0/20%8)]):=aP;generalize upd H1 n5 (.lst [V.int 12,V.int (1+ns.getD (1:Int).toNat 0/20%8)])=ly at S_ HI⊢;have af:=S_ _ _ af;have qJ:=S_.seq qJ;obtain⟨lb,aks,aur⟩:∃lb:Nat,ao.hx [V.int 12,V.int (1+ns.getD (1:Int).toNat 0/20%8)] (if decide (0<ns.getD (1:Int).toNat 0/5%4)=true then 1 else 0)=some (.int (lb:Int))/\1<=lb/\lb<=12:=by
   by_cases h:0<ns.getD (1:Int).toNat 0/5%4
   .refine⟨(1+ns.getD (1:Int).toNat 0/20%8).toNat,?_,by omega,by omega⟩;rw[cu h,bM rfl,uW (by omega)];rfl
   .refine⟨12,?_,by omega,by omega⟩;rw[dJ h,bE (by simp)];rfl
  refine⟨_,rfl,a,ns,1,rfl,qJ,by decide,_,_,rfl,rfl,⟨by decide,by decide⟩,_,_,rfl,rfl,(by show(0:Int)<4;decide),_,_,rfl,rfl,.inr ⟨_,rfl,n5,_,_,_,rfl,rfl,aJ.of HI,aks,?_⟩⟩;obtain⟨Zg,amW⟩:∃cl:Nat->Int,cl=λi:Nat=>ns.getD (3+(i:Int)).toNat 0+31*(i:Int)*(i:Int):=⟨_,rfl⟩
  dsimp only[lR,rv,hX];refine af2 (J:=n9 0 lb) (H1:=ly) (xs:=(ek lb).map λi:Nat=>V.int (0+(i:Int))) (rest:=[some (.ref a)]) (λR h=>⟨_,rfl,_,rfl,by omega,by omega,?_⟩) rfl (IS 0 lb) (eW (by simp;omega)) (λi=>.int (Zg i)) (λi v ag R ev aH k=>?_) (λg6 ag auw CK gA=>?_)
  .show R (n9 0 ((lb:Int)).toNat) ly;rw[mH];exact h
  .have ar:i<lb/\v=.int (0+(i:Int)):=by rw[c9]at ev;obtain⟨j,eZ,rfl⟩:=fJ.mp ev;obtain⟨yD,qF⟩:=eM.mp eZ;rw[x5]at qF;subst qF;rw[jz]at yD;exact⟨yD,rfl⟩
   obtain⟨ar,rfl⟩:=ar;refine⟨_,rfl,_,rfl,_,_,rfl,rfl,a,ns,3+(0+(i:Int)),rfl,aH.seq qJ,by omega,_,rfl,_,_,rfl,rfl,.inl ⟨by decide,by decide⟩,_,rfl,_,_,rfl,rfl,.inr ⟨by show -(2 ^ 64)<0+(i:Int);omega,by show 0+(i:Int)<2 ^ 64;omega⟩,_,_,rfl,rfl,?_⟩;have:=k ag (aN.refl _);rw[amW]at this;simp only[qc];exact this
  have y2:((ek lb).map λi:Nat=>V.int (0+(i:Int))).length=lb:=by simp
  rw[y2]at CK;obtain⟨cs,ov⟩:∃cs:List Int,cs=(ek lb).map Zg:=⟨_,rfl⟩
  have CK:ag g6=some (.lst (cs.map V.int)):=by rw[CK,ov,jA];rfl
  have lcs:cs.length=lb:=by rw[ov];simp
  obtain⟨ds,j1⟩:∃ds:List dx.gD,ds=cs.map λc=>H_ hs.length c:=⟨_,rfl⟩
  have yH:∀d∈ds,d.Ok hs.length:=λd hd=>by rw[j1]at hd;obtain⟨c,_,rfl⟩:=b4.mp hd;exact ahG (by omega) c
  have a7:ds.length=lb:=by rw[j1,bp,lcs]
  have vL:=gA _ _ af;refine af1 (J:=mI K g6) (H1:=ag) (xs:=cs.map V.int) (rest:=[some (.ref d6)]) (λR h=>⟨_,rfl,g6,rfl,⟨_,aJ.of CK⟩,h⟩) rfl (tZ (aJ.of CK)) (eW (by rw[bp];omega)) (λv=>match v with|.int c=>lU hs (H_ hs.length c)|_=>[]) (λi y a_ R f5 aH bY=>?_) (λcB a_ rs auv qI dg Ĕ=>?_)
  .obtain⟨c,_,rfl⟩:=b4.mp (eH f5);exact⟨_,rfl,_,rfl,c,d6,hs,rfl,aH _ _ vL,by omega,by omega,λdZ aqb=>bY dZ _ (bW aqb) aP⟩
  have Jf:d_ a_ rs (ds.map (lU hs)):=by rw[j1,jA];rw[jA]at dg;exact dg
  have cU:ix a_ hs rs ds:=⟨Jf,yH⟩
  have eh:rs.length<=12:=by rw[cU.len,a7];omega
  have Z0:=Ĕ _ _ vL;have yE:=Ĕ.seq (gA.seq qJ);refine⟨_,rfl,a,ns,2,rfl,yE,by decide,_,_,rfl,rfl,⟨by decide,by decide,by decide⟩,_,_,rfl,rfl,_,_,rfl,rfl,(by show(0:Int)<10 ^ (9:Int).toNat - 99;decide),?_⟩;have f0:0<=ns.getD (2:Int).toNat 0%(10 ^ (9:Int).toNat - 99):=iu _ (by decide);have Zv:ns.getD (2:Int).toNat 0%(10 ^ (9:Int).toNat - 99)<10 ^ (9:Int).toNat - 99:=l3 _ (by decide);have GH:ns.getD (2:Int).toNat 0%(10 ^ (9:Int).toNat - 99)<=999999900:=by
   have e:(10:Int) ^ (9:Int).toNat - 99=999999901:=by decide
   rw[e]at Zv⊢;omega
  generalize ns.getD (2:Int).toNat 0%(10 ^ (9:Int).toNat - 99)=dK at f0 GH⊢;clear Zv;refine⟨_,rfl,_,rfl,λn iS nn í _=>?_⟩;have mk:∀{b:Addr}{v:ee},a_ b=some v->upd (upd a_ iS (.own n)) n (.ins az iS []) b=some v:=λ{b v}e=>by rw[aA (bZ e nn),aA (bZ e í)];exact e
  refine⟨n,iS,d6,cB,hs,rs,ds,rfl,aP,mk Z0,G,mk qI,cU.same (λb v e=>mk e),(by omega),λdP bt bu b' C_ anL Of na nb=>⟨rfl,?_⟩⟩;have rj:aN a_ dP:=SP nn í b';have hp:jO az dP n bt bu (cK hs) (aC rs):=⟨⟨iS,C_⟩,anL,Of⟩
  have N6:=cU.same rj;have δ:=rj.seq yE;have anp:=rj _ _ Z0;have Hf:=rj _ _ qI;refine⟨_,rfl,_,rfl,λx ah cj t7 _=>?_⟩;have wa:aN dP (upd (upd dP ah (.own x)) x (.ins aw ah [])):=λb v e=>by rw[aA (bZ e cj),aA (bZ e t7)];exact e
  refine⟨x,ah,n,bt,bu,hs,rs,ds,dK,rfl,aP,hp.same wa,G,N6.same wa,(by omega),λbw g5 k1 Sk l1 ND NI tb ID=>⟨rfl,?_⟩⟩;have wD:aN dP bw:=SP cj t7 Sk;have bq:∀{uU b2:ae}{b:Addr},aN uU b2->b2 b=none->uU b=none:=λ{uU b2 b}aH e=>by
   cases aD:uU b with
   |none=>rfl
   |some o=>rw[aH _ _ aD]at e;cases e
  have hB:∀b∈g5.bH x,dP b=none:=λb U=>by
   rcases ID b U with rfl|h
   .exact cj
   .exact bq wa h
  refine⟨_,rfl,n,bt,bu,hs,rs,ds,rfl,hp.same wD,G,N6.same wD,(by omega),λy t gh kvs ud cQ kd lZ ST=>?_⟩;obtain⟨rws,rfl,apL,rl,En⟩:=ST.told yH (by omega);obtain⟨⟨hV,cS⟩,_,O9⟩:=lZ;refine⟨y,_,_,rfl,cS,rfl,y,hV,n,t,rws,rfl,cS,O9,(by omega),λpl e1 auR Ir I2 C8 arK=>?_⟩;obtain⟨ts,BZ,nf⟩:=ael arK;rw[BZ]at C8;obtain⟨lq,erw⟩:∃lq,lq=Ak rws:=⟨_,rfl⟩
  rw[<-erw]at nf;have IK:lq.Perm rws:=by rw[erw];exact abe _
  have t6:(lq.map λr=>(r.1,r.2.1)).Nodup:=(IK.map _).nodup_iff.mpr apL;have aqS:lq.length<=36:=by rw[IK.length_eq];exact rl
  have aqW:∀r∈lq,L7 hs ds r:=λr aq=>En r (IK.mem_iff.mp aq);have auS:ts.length=lq.length:=by have:=nf.len;rw[bp]at this;exact this
  have vals:∀key,b1 (fk lq) key=b1 (fk rws) key:=λkey=>acA (IK.map _) (VH t6) key;dsimp only[lR,rv,hX,uw,sm];refine aei (K:=K) (D0:=pl) (ts:=ts) (rws:=lq) (rest:=[]) (λR h=>⟨_,rfl,pl,rfl,⟨_,aJ.of C8⟩,h⟩) rfl C8 nf (eW (by omega)) (λr aq abu R aH bY=>⟨_,rfl,_,rfl,(by show 2<=sizeLine;decide),λjc apU=>⟨_,rfl,(by show 2<=sizeLine;decide),λkg za=>?_⟩⟩) (λaaJ dD dQ auy anx each eg sr=>?_)
  .have fo:=bW (o:=.tup [V.str r.1,V.str r.2.1]) apU;have fU:=bW (o:=.tup [V.ref jc,V.int r.2.2]) za;exact bY kg jc _ (fo.trans fU) aP (fU _ _ aP)
  have amQ:dictOf dQ=fk lq:=by have ê:=VH t6;rw[<-eg]at ê⊢;exact Wy dQ [] ê
  have Ć:dQ.length<=1000:=by have:=ha sW eg;unfold fk at this;rw[bp,bp]at this;omega
  refine⟨aaJ,dQ,rfl,anx,Ć,each,λbk Iz=>?_⟩;rw[amQ];have o1:=bW (o:=.c3 (fk lq)) Iz;have tU:upd dD bk (.c3 (fk lq)) bk=some (.c3 (fk lq)):=aP;generalize upd dD bk (.c3 (fk lq))=mF at o1 tU⊢
  refineλcl é=>?_
  have sE:=bW (o:=.b0 []) é;have jP:upd mF cl (.b0 []) cl=some (.b0 (iq [])):=aP;generalize upd mF cl (.b0 [])=uU at sE jP⊢;refine⟨(by show 0<=sizeLine;decide),λb8 ua=>?_⟩;have uA:=bW (o:=.lst []) ua;have lc:upd uU b8 (.lst []) b8=some (.lst (aC [])):=aP;generalize upd uU b8 (.lst [])=b2 at uA lc⊢;refine⟨(by show 0<=sizeLine;decide),λbX Rd=>?_⟩;have ro:=bW (o:=.lst []) Rd;have ld:upd b2 bX (.lst []) bX=some (.lst (aC [])):=aP;generalize upd b2 bX (.lst [])=ft at ro ld⊢;refine⟨(by show 0<=sizeLine;decide),λdF y8=>?_⟩;have rp:=bW (o:=.lst []) y8;have le:upd ft dF (.lst []) dF=some (.lst (aC [])):=aP;generalize upd ft dF (.lst [])=kj at rp le⊢;refine⟨_,rfl,?_⟩;have R9:=wD.trans (kd.trans (I2.trans sr));have R_:=o1.trans (sE.trans (uA.trans (ro.trans rp)));refine⟨_,rfl,_,rfl,_,rfl,a,_,rfl,(R9.trans R_).seq δ,λbo je=>⟨bo,rfl,⟨_,aJ.of aP⟩,?_⟩⟩;have wW:=bW (o:=.lst (mv (ns.map V.int) (some 3) (some 63))) je;have lf:upd kj bo (.lst (mv (ns.map V.int) (some 3) (some 63))) bo=some (.lst (mv (ns.map V.int) (some 3) (some 63))):=aP;generalize upd kj bo (.lst (mv (ns.map V.int) (some 3) (some 63)))=rH at wW lf⊢;have Ep:=R_.trans wW;have auj:(mv (ns.map V.int) (some 3) (some 63)).length<=60:=by unfold mv;have anj:iO.jR (ns.map V.int).length 0 (some ((3:Nat):Int))=min 3 (ns.map V.int).length:=iO.Se _ _ 3;have ank:iO.jR (ns.map V.int).length (ns.map V.int).length (some ((63:Nat):Int))=min 63 (ns.map V.int).length:=iO.Se _ _ 63;rw[show(some (3:Int))=some ((3:Nat):Int)from rfl,show(some (63:Int))=some ((63:Nat):Int)from rfl,anj,ank,mK];omega
  have aq1:=kd.trans (I2.trans (sr.trans Ep));have Kc:=l1.same aq1;have vt:=(sE.trans (uA.trans (ro.trans (rp.trans wW)))) _ _ tU;have au:=(uA.trans (ro.trans (rp.trans wW))) _ _ jP;have ic:=(ro.trans (rp.trans wW)) _ _ lc;have dY:=(rp.trans wW) _ _ ld;have pK:=wW _ _ le;have t4:bw bk=none:=bq (kd.trans (I2.trans sr)) Iz;have Q0:dD cl=none:=bq o1 é;have Q1:dD b8=none:=bq (o1.trans sE) ua;have DT:dD bX=none:=bq (o1.trans (sE.trans uA)) Rd;have ne':dD dF=none:=bq (o1.trans (sE.trans (uA.trans ro))) y8;have p4:=kd.trans (I2.trans sr);have lv:∀{b:Addr},dD b=none->b∉g5.bH x:=λ{b}e=>l1.live (bq p4 e);obtain⟨aY,BQ⟩:∃aY,aY=mask rH ([bk,cl,b8,bX]++g5.bH x):=⟨_,rfl⟩
  have Di:∀b o,rH b=some o->b∉[bk,cl,b8,bX]->b∉g5.bH x->aY b=some o:=λb o e af ai=>by rw[BQ];exact mj e λz=>(hj.mp z).elim af ai
  have old:∀b o,dD b=some o->b∉[bk,cl,b8,bX]:=λb o e z=>by
   simp only[c',dX,or_false]at z;rcases z with rfl|rfl|rfl|rfl
   .rw[Iz]at e;cases e
   .rw[Q0]at e;cases e
   .rw[Q1]at e;cases e
   .rw[DT]at e;cases e
  have rq:aN dP aY:=λb o e=>Di b o (Ep _ _ (R9 _ _ e)) (old b o (R9 _ _ e)) λz=>by rw[hB b z]at e;cases e
  have alx:aY pl=some (.lst (aC ts)):=Di pl _ (Ep _ _ (sr _ _ C8)) (old pl _ (sr _ _ C8)) (l1.live (bq kd Ir));have alB:d_ aY ts (lq.map lS):=bf.eE nf λb v e=>Di b _ (Ep _ _ (sr _ _ e)) (old b _ (sr _ _ e)) λz=>Kc.uc z (Ep _ _ (sr _ _ e));have aqc:dD bo=none:=bq R_ je;have alA:aY bo=some (.lst (mv (ns.map V.int) (some 3) (some 63))):=Di bo _ lf (λz=>by
   simp only[c',dX,or_false]at z;rcases z with rfl|rfl|rfl|rfl
   .rw[(sE.trans (uA.trans (ro.trans rp))) _ _ tU]at je;cases je
   .rw[(uA.trans (ro.trans rp)) _ _ jP]at je;cases je
   .rw[(ro.trans rp) _ _ lc]at je;cases je
   .rw[rp _ _ ld]at je;cases je) (lv aqc)
  have Gs:aY cB=some (.lst (aC rs)):=rq _ _ Hf;have Nj:aY d6=some (.lst (cK hs)):=rq _ _ anp;have BD:=N6.same rq;have Y5:=hp.same rq;have agd:lT aw C aS az aY rH hs ds x bk cl b8 bX dK 0 g5 ⟨dK,[],[],[],k1,[]⟩ 0 (fk lq) dF [] []:=by
   obtain⟨ck,rfl,dp,hK,_⟩:=tb.told yH (by omega);have arU:∀key,b1 (fk rws) key=b1 (fk ck) key:=λkey=>by
    cases e:b1 (fk rws) key with
    |some v=>
     obtain⟨h,g,rfl,lP,mg,ne,is,rfl⟩:=ST.get e;exact(tb.jE.yes h g ⟨lP,ne,is⟩).symm
    |none=>
     cases aB:b1 (fk ck) key with
     |none=>rfl
     |some v=>
      obtain⟨h,g,rfl,lP,mg,ne,is,rfl⟩:=tb.get aB;rw[ST.jE.yes h g ⟨lP,ne,is⟩]at e;cases e
   have Ó:∀r:List Row,(fk r).length=r.length:=λr=>by unfold fk;rw[bp]
   refine⟨Kc.Đ (by rw[BQ];exact DS _ _) ND NI Y5 BD (λb U=>by rw[BQ];exact El (hj.mpr (.inr U))),⟨vt,au,ic,.nil,⟨[],dY,.nil⟩,pK,.nil⟩,⟨rfl,by show 0<=40;decide,by omega,(λ_ h=>nomatch h),tb.ok yH,(λ_ h=>nomatch h),(λ_ h=>nomatch h),(λ_ h=>nomatch h),cq _⟩,⟨(λ_ h=>nomatch h),(λ_ h=>nomatch h),(λ_ h=>nomatch h)⟩,tb.th yH,λkey=>(vals key).trans (arU key),λb U=>?_,λb U=>by rw[BQ];exact El (hj.mpr (.inl U)),⟨λz=>?_,λz=>?_,λz=>?_⟩,⟨by rw[Ó];omega,by show(fk ck).length<=_;rw[Ó];omega,cq _⟩,(λ_ h=>nomatch h),by show dK=dK+0;omega,cq _⟩
   .simp only[c',dX,or_false]at U;rcases U with rfl|rfl|rfl|rfl|rfl
    .exact lv Iz
    .exact lv Q0
    .exact lv Q1
    .exact lv DT
    .exact lv ne'
   .rw[z,Rd]at lc;cases lc
   .rw[<-z,bq ro y8]at lc;cases lc
   .rw[<-z,y8]at ld;cases ld
  have atJ:aJ K aY a (ns.map V.int):=rq.seq δ;clear BQ Di old rq lv vt au ic dY pK t4 Q0 Q1 DT ne' Kc ID hB;refine qC (K:=K) (a:=bo) (xs:=mv (ns.map V.int) (some 3) (some 63)) (aj7 aw C aS az aY hs ds a d6 lb g6 cB dK n x pl bk cl b8 bX)
   ⟨g5,_,0,_,dF,[],[],none,none,none,none,none,rfl,agd⟩ (λj σ gr _⟨_,_,_,_,_,_,_,_,_,_,_,_,_,h⟩=>aJ.of (h.d.b' _ _ alA)) ?_ ?_
  .rintro j z σ gr dC ⟨A,s,k,kvs,dF,ei,eS,Ti,Tj,Tn,To,Tp,rfl,S⟩;have aue:=(eM.mp dC).1;obtain⟨c,rfl⟩:∃c:Int,z=.int c:=by have yL:=eH dC;unfold mv at yL;obtain⟨c,_,rfl⟩:=b4.mp (List.mem_of_mem_drop (ac1 yL));exact⟨c,rfl⟩
   have v7:=S.v7;have lN:=S.lN;refine FL ?_;refine⟨_,rfl,_,_,rfl,rfl,.inr ⟨by decide,by decide⟩,_,_,rfl,rfl,(by show(0:Int)<10000000000037;decide),?_⟩;generalize c*1099087573%10000000000037=nn;have Sm:=S.d.b';have Hg:=Sm _ _ Gs;have C7:=Sm _ _ Nj;have afZ:=BD.same Sm;refine⟨_,rfl,_,_,rfl,rfl,(by show(0:Int)<8;decide),_,_,rfl,rfl,_,rfl,nZ (λ_=>?_) (λ_=>?_)⟩
   .-- a turn
    refine⟨_,rfl,_,rfl,_,rfl,_,rfl,_,rfl,_,rfl,b8,bX,bk,cl,cB,ei,rs,hs,ds,s,kvs,rfl,S.l.li,S.l.lt,S.l.st,S.l.bk,S.ok.tab.api S.cf,afk S.cf,S.l.cl,Hg,afZ,S.ok.len,S.ok.pU,S.hG,(by omega),⟨bZ Gs (S.nb bX (by simp)),S.ne.1⟩,λaM H1 as ka bI ig fF st=>?_⟩;obtain⟨Da,KU⟩:=S.gR bI st;have al:as.length<=40:=by
     have af:=gM fF;have ai:(fG ds s).length<=ds.length:=by unfold fG m5 ml;refine eQ (jl _ _) ?_;rw[bp];exact eQ (jl _ _) (by rw[jz];exact cq _)
     omega
    have tX:eS.length<=3000:=by have af:=gM S.l.jP;have ai:=S.ok.wJ;omega
    refine⟨_,rfl,_,rfl,dF,aM,_,_,rfl,rfl,KU.dF,ig,eQ (by rw[eI,eI];omega:_<=4000) (by decide),λnP Ik=>?_⟩;have fU:=bW (o:=.lst (aC eS++aC as)) Ik;have g2:upd H1 nP (.lst (aC eS++aC as)) nP=some (.lst (aC (eS++as))):=by rw[aP];unfold aC;rw[eU]
    generalize upd H1 nP (.lst (aC eS++aC as))=as4 at fU g2⊢;refine⟨_,rfl,_,_,rfl,rfl,?_⟩;have Db:=Da.same fU;have x3:=KU.same fU;have hT:=bf.eE fF λ_ _ e=>e.same fU;have hD:=bf.app x3.jP hT;have dp:aM∉A.bH x:=S.d.live ka;have dq:nP∉A.bH x:=Da.live Ik;refine⟨_,rfl,_,rfl,_,rfl,_,rfl,aY,x,A,hs,ds,s,k,aM,nP,as,eS++as,nn,rfl,Db,G,S.ok,(by omega),fU _ _ ig,hT,g2,hD,dp,dq,(by have:=S.d.lV.len;omega),λH' hg eK cA=>⟨_,rfl,gx ?_⟩⟩;refine⟨hg,oM hs ds s,k+1,kvs,nP,ei,eS++as,_,_,_,_,_,rfl,S.pass yH Db ⟨x3.bk,x3.cl,x3.li,x3.lt,x3.st,g2,hD⟩ dq ⟨λz=>?_,λz=>?_⟩ eK cA⟩
    .have e:=KU.li;rw[<-z,Ik]at e;cases e
    .obtain⟨_,h,_⟩:=st;rw[<-z,Ik]at h;cases h
   .have tX:ei.length=s.a7.length:=by have:=gM S.l.lt;rw[bp]at this;exact this
    refine VJ (c1:=decide (nn%8<6)) (c2:=decide (((aC ei).length:Int)<20)&&decide (s.pr-dK<=30)) (λQ q=>⟨_,rfl,_,_,rfl,rfl,(by show(0:Int)<8;decide),_,_,rfl,rfl,_,rfl,q⟩) (λQ q=>VJ (c1:=decide (((aC ei).length:Int)<20)) (c2:=decide (s.pr-dK<=30)) (λQ q=>⟨_,rfl,b8,_,rfl,.inl (aJ.of S.l.li),_,_,rfl,rfl,_,rfl,q⟩) (λQ q=>⟨_,rfl,_,rfl,_,_,rfl,rfl,_,_,rfl,rfl,_,rfl,q⟩) q) (nZ (λay=>?_) (λ_=>?_))
    .-- a aum
     simp only[jx,decide_eq_true_eq,eI]at ay;have du:(cK hs).length=hs.length:=by unfold cK;rw[bp]
     obtain⟨u,BB,nE⟩:=sh (λy=>V.str (dW.S y)) (L:=hs) (by omega) (nn/8);obtain⟨v,BC,ev⟩:=sh (λy=>V.str (dW.S y)) (L:=hs) (by omega) (nn/8+1+nn/96%((cK hs).length-1));have bH:dW.S u∈hs.map dW.S:=b4.mpr ⟨u,eH nE,rfl⟩;have eK:dW.S v∈hs.map dW.S:=b4.mpr ⟨v,eH ev,rfl⟩;have ne:dW.S u≠dW.S v:=λz=>by have e:=uD z;subst e;obtain⟨af,aB⟩:=eM.mp nE;obtain⟨bU,cH⟩:=eM.mp ev;have:=(u1 G.aG).mp (aB.trans cH.symm);have h0:0<=nn/96%((cK hs).length-1:Int):=iu _ (by omega);have d3:nn/96%((cK hs).length-1:Int)<((cK hs).length-1:Int):=l3 _ (by omega);have a1:0<=nn/8%(hs.length:Int):=iu _ (by omega);have a2:0<=(nn/8+1+nn/96%((cK hs).length-1))%(hs.length:Int):=iu _ (by omega);have:=KD (x:=nn/8) (c:=1+nn/96%((cK hs).length-1)) (m:=hs.length) (by omega) (by omega);rw[<-WJ]at this;omega
     have pos:(0:Int)<((cK hs).length:Int):=by omega
     have RJ:(0:Int)<((cK hs).length:Int)-1:=by omega
     have aqC:=S.pr;have Î:hS (bR hs) (gH (dW.S u,s.pr,dW.S v))=true:=JC.mpr ⟨bH,eK,ne,by omega,by omega⟩;have qq:=afm S.po Î (by omega) S.lo ay.2.2;refine⟨_,rfl,_,rfl,_,_,rfl,rfl,⟨by decide,by decide⟩,_,rfl,d6,_,rfl,.inl (aJ.of C7),_,_,rfl,rfl,pos,d6,_,_,_,rfl,rfl,aJ.of C7,BB,?_⟩;refine⟨_,rfl,_,rfl,_,_,rfl,rfl,⟨by decide,by decide⟩,_,_,rfl,rfl,_,rfl,_,_,rfl,rfl,⟨by decide,by decide⟩,_,rfl,d6,_,rfl,.inl (aJ.of C7),_,_,rfl,rfl,_,_,rfl,rfl,RJ,_,_,rfl,rfl,_,rfl,d6,_,rfl,.inl (aJ.of C7),_,_,rfl,rfl,pos,d6,_,_,_,rfl,rfl,aJ.of C7,BC,?_⟩;refine⟨_,rfl,_,rfl,_,rfl,_,rfl,b8,_,rfl,.inl (aJ.of S.l.li),_,rfl,_,_,rfl,rfl,⟨by decide,by decide⟩,aY,x,A,hs,ds,s,dW.S u,dW.S v,nn/9600,(by rw[eI,tX];rfl),S.d,G,S.ok.lets,(by omega),S.ok.len,bH,eK,S.po,qq,λag hg wc Ka=>⟨_,rfl,gx ?_⟩⟩;have KS:=S.l.keep wc.keep S.nm (λb U v=>S.d.uc U);obtain⟨i1,HB,aqE⟩:=KS.st;have auM:i1.length<=40:=by have:=gM aqE;have:=S.ok.len;omega
     refine⟨_,rfl,.inl ⟨rfl,_,aJ.of KS.li⟩,_,rfl,_,rfl,_,rfl,(by show 3<=sizeLine;decide),λt1 dp=>?_⟩;have fo:=bW (o:=.tup [V.str (dW.S u),V.int s.pr,V.str (dW.S v)]) dp;refine⟨b8,_,_,rfl,rfl,fo _ _ KS.li,eW (by rw[eI];omega),?_⟩;have lM:upd (upd ag t1 (.tup [V.str (dW.S u),V.int s.pr,V.str (dW.S v)])) b8 (.lst (aC ei++[.ref t1])) bX=some (.lst (aC i1)):=by rw[aA S.ne.1.symm];exact fo _ _ HB
     refine⟨_,rfl,.inl ⟨rfl,_,aJ.of lM⟩,_,rfl,_,rfl,(by show 2<=sizeLine;decide),λeP dq=>?_⟩;have fU:=bW (o:=.tup [V.str (dW.S u),V.int s.pr]) dq;refine⟨bX,_,_,rfl,rfl,fU _ _ lM,eW (by rw[eI];omega),?_⟩;exact⟨hg,nT s (dW.S u) (dW.S v),k,kvs,dF,ei++[t1],eS,_,_,_,_,_,rfl,S.post Î bH eK (by omega) wc Ka dp HB dq⟩
    .-- a Zl
     refine agF (c1:=decide (V.int (nn%8)=V.int 7)) (λQ q=>⟨_,rfl,_,_,rfl,rfl,(by show(0:Int)<8;decide),rfl,_,rfl,q⟩) (λQ q=>⟨_,rfl,_,rfl,_,rfl,_,rfl,_,_,rfl,rfl,⟨by decide,by decide⟩,aY,x,A,hs,ds,s,d6,cB,rs,_,rfl,S.d,G,(by omega),(by omega),(by have:=S.d.lV.len;omega),(by omega),(by omega),Nj,Gs,BD,λH' s'=>⟨_,rfl,q H' s'⟩⟩) (λabu ark=>gx ?_);have S:=S.same ark;refine⟨_,rfl,_,rfl,_,rfl,_,rfl,_,_,rfl,rfl,⟨by decide,by decide⟩,aY,x,A,hs,ds,s,d6,cB,rs,_,rfl,S.d,G,(by omega),(by omega),(by have:=S.d.lV.len;omega),(by omega),(by omega),Nj,Gs,BD,λd ag l xe eK Ka nl auD alM=>?_⟩;have kL:=S.l.keep eK.keep S.nm (λb U v=>S.d.uc U);refine⟨_,rfl,_,rfl,l,bk,cl,d,kvs,s.eA,rfl,alM,kL.bk,kL.cl,(by omega),(by omega),λa_ bI df ay=>⟨_,rfl,gx ?_⟩⟩;have age:=S.Zl xe eK Ka bI df ay;exact⟨A,d.act s,k,m6 kvs d,dF,ei,eS,_,_,_,_,_,by rw[KG];rfl,age⟩
  .rintro σ gr ⟨A,s,k,kvs,dF,ei,eS,Ti,Tj,Tn,To,Tp,rfl,S⟩;have v7:=S.v7;have aqC:=S.pr;refine⟨_,rfl,_,rfl,_,rfl,_,rfl,_,rfl,n,cB,pl,bt,bu,ts,hs,rs,ds,lq,dK,s.pr,rfl,Y5.same S.d.b',G,BD.same S.d.b',(by omega),S.d.b' _ _ alx,alB.same S.d.b',aqW,⟨f0,by omega⟩,(by omega),λH1 s1=>⟨_,rfl,gx ?_⟩⟩;have S:=S.same s1;refine⟨_,rfl,x,A.ah,_,rfl,S.d.ins,rfl,aY,x,A,hs,ds,s,rfl,S.d,λl nl=>?_⟩;have s3:=bW (o:=.lst (aC A.fF)) nl;have qO:upd H1 l (.lst (aC A.fF)) l=some (.lst (aC A.fF)):=aP;generalize upd H1 l (.lst (aC A.fF))=a_ at s3 qO⊢;have S:=S.same s3;refine⟨_,rfl,_,_,_,_,_,rfl,⟨rfl,.lst qO,rfl⟩,_,rfl,fH rfl ?_⟩;refine⟨_,rfl,_,rfl,.list (s.hq.map ut),.list (s.hq.map ut),.lst (aJ.of qO) (sd S.d.sp),.lst (aJ.of S.l.dF) (sd S.l.jP),tV _,tV _,_,rfl,fH (yZ _ (D6 _)) ?_⟩;refine⟨_,rfl,x,A.ah,_,rfl,S.d.ins,rfl,aY,x,A,hs,ds,s,rfl,S.d,_,rfl,rfl,_,rfl,fH (cu rfl) ?_⟩;refine⟨_,rfl,x,A.ah,_,rfl,S.d.ins,rfl,aY,x,A,hs,ds,s,rfl,S.d,λho wh=>?_⟩;have s4:=bW (o:=.lst (aC A.ll)) wh;have gg:=S.d.same s4;have t1:=Ye G gg.pt S.ok.lets;have eP:=Ye G (S.l.lt.same s4) S.ok.lets;have cY:=abn t1;exact⟨_,rfl,_,_,.lst (aJ.of aP) (eV.lF t1),.lst (aJ.of (s4 _ _ S.l.li)) (eV.lF eP),cY,cY,nO (yZ _ (eV.nz t1)) (q _)⟩
unseal fV bl fW f_
end
theorem Yf{K:aV}{C:Addr}{T:String}{b:Bool}(hm:Lx T=true)(hs:nt K (.ref C) (.type T)=some b):h8 K (.ref C) (.type T)=some b:=by unfold h8;rw[bE (by intro z;cases z)];unfold aeN;show(if Lx T=true then _ else _)=_;rw[bM hm,hs]
theorem Yg(K:aV)(C:Addr):h8 K (.ref C) (.ref C)=some true:=by unfold h8;exact bM (by simp)
theorem nV{us:cC}(h:us.length=1):∃a0,us=[a0]:=by
 rcases us with _|⟨a0,_|⟨b,r⟩⟩
 .simp at h
 .exact⟨a0,rfl⟩
 .simp at h
theorem iA{us:cC}(h:us.length=2):∃a0 a1,us=[a0,a1]:=by
 rcases us with _|⟨a0,_|⟨a1,_|⟨b,r⟩⟩⟩
 .simp at h
 .simp at h
 .exact⟨a0,a1,rfl⟩
 .simp at h
theorem oN{us:cC}(h:us.length=3):∃a0 a1 a2,us=[a0,a1,a2]:=by
 rcases us with _|⟨a0,_|⟨a1,_|⟨a2,_|⟨b,r⟩⟩⟩⟩
 .simp at h
 .simp at h
 .simp at h
 .exact⟨a0,a1,a2,rfl⟩
 .simp at h
theorem z0{us:cC}(h:us.length=4):∃a0 a1 a2 hv,us=[a0,a1,a2,hv]:=by
 rcases us with _|⟨a0,_|⟨a1,_|⟨a2,_|⟨hv,_|⟨b,r⟩⟩⟩⟩⟩
 .simp at h
 .simp at h
 .simp at h
 .simp at h
 .exact⟨a0,a1,a2,hv,rfl⟩
 .simp at h
theorem Lz{us:cC}(h:us.length=5):∃a0 a1 a2 hv jn,us=[a0,a1,a2,hv,jn]:=by
 rcases us with _|⟨a0,_|⟨a1,_|⟨a2,_|⟨hv,_|⟨jn,_|⟨b,r⟩⟩⟩⟩⟩⟩
 .simp at h
 .simp at h
 .simp at h
 .simp at h
 .simp at h
 .exact⟨a0,a1,a2,hv,jn,rfl⟩
 .simp at h
theorem aiK{us:cC}(h:us.length=6):∃a0 a1 a2 hv jn BA,us=[a0,a1,a2,hv,jn,BA]:=by
 rcases us with _|⟨a0,_|⟨a1,_|⟨a2,_|⟨hv,_|⟨jn,_|⟨BA,_|⟨b,r⟩⟩⟩⟩⟩⟩⟩
 .simp at h
 .simp at h
 .simp at h
 .simp at h
 .simp at h
 .simp at h
 .exact⟨a0,a1,a2,hv,jn,BA,rfl⟩
 .simp at h
theorem all_mk{l:X3}{w:bx}{K:aV}{h:Heap}{mg:cI}{iz d1 yt Ca Cd yu Cc Cb eG yw Cr Co Cs Cq Cp ej yv Cn Cm Cg Cj Ck Ci d9 yr B5 B7 B9 B1 B' B8 B6 B3 B2 B4 CA CB Cz Ct G2 GV G3 GW G1 G_ G6 G4 G5 GY G' G8 GX GL GO GU GN GJ GQ GP GS GR GK ZO l0 iN hh hO GI:Addr}{alZ alY al3 al2 al1 al0 amd amg amc amh amf ame al7 amb ama al5 al8 al9 al6 alO alS alU alW alN alX alV alT alQ alP alR amJ amK amI amw amF amu amG amv amE amT amP amH amO amy amS amR amx amk amm ams aml ami amo amn amr amq amj amN al4:cF}(X:K.In h)(G:h.Ns c8 mg)(an4:mg "law"=some (.ref iz))(Ma:dH K c8 "Net"=some (some (.ref d1)))(RC:u6 K d1 mQ=true)(Ov:pz K d1=true)(RG:Bq K d1=true)(Sh:b5 K (.ref d1) "__setattr__"=some (some (.builtin "object.__setattr__")))(QB:Bo K d1=true)(Qd:pA K (.ref d1)=true)(QT:b5 K (.ref d1) "kept_houses"=some none)(QU:b5 K (.ref d1) "kept_roads"=some none)(Mt:b5 K (.ref d1) "__init__"=some (some (.ref yt)))(PC:fX K (.ref yt)=true)(Ao:bB K "__init__" "Net.__init__" Ag yt alZ)(Ms:b5 K (.ref d1) "houses"=some (some (.ref Ca)))(PB:fX K (.ref Ca)=true)(xq:bB K "houses" "Net.houses" vY Ca alY)(Mx:b5 K (.ref d1) "roads"=some (some (.ref Cd)))(PG:fX K (.ref Cd)=true)(xu:bB K "roads" "Net.roads" Ek Cd al3)(Mw:b5 K (.ref d1) "road"=some (some (.ref yu)))(PF:fX K (.ref yu)=true)(uQ:bB K "road" "Net.road" uh yu al2)(Mv:b5 K (.ref d1) "out_of"=some (some (.ref Cc)))(PE:fX K (.ref Cc)=true)(xt:bB K "out_of" "Net.out_of" xV Cc al1)(Mu:b5 K (.ref d1) "need_house"=some (some (.ref Cb)))(PD:fX K (.ref Cb)=true)(xr:bB K "need_house" "Net.need_house" Aj Cb al0)(Mg:dH K c8 "Ways"=some (some (.ref eG)))(RE:u6 K eG mQ=true)(Ox:pz K eG=true)(RI:Bq K eG=true)(Sj:b5 K (.ref eG) "__setattr__"=some (some (.builtin "object.__setattr__")))(QD:Bo K eG=true)(Qf:pA K (.ref eG)=true)(QY:b5 K (.ref eG) "net"=some none)(QZ:b5 K (.ref eG) "told"=some none)(MH:b5 K (.ref eG) "__init__"=some (some (.ref yw)))(PR:fX K (.ref yw)=true)(Aq:bB K "__init__" "Ways.__init__" EJ yw amd)(MK:b5 K (.ref eG) "set_way"=some (some (.ref Cr)))(PU:fX K (.ref Cr)=true)(xF:bB K "set_way" "Ways.set_way" zt Cr amg)(MG:b5 K (.ref eG) "drop_way"=some (some (.ref Co)))(PQ:fX K (.ref Co)=true)(xC:bB K "drop_way" "Ways.drop_way" Ex Co amc)(ML:b5 K (.ref eG) "way"=some (some (.ref Cs)))(PV:fX K (.ref Cs)=true)(xG:bB K "way" "Ways.way" EK Cs amh)(MJ:b5 K (.ref eG) "pairs"=some (some (.ref Cq)))(PT:fX K (.ref Cq)=true)(xE:bB K "pairs" "Ways.pairs" EE Cq amf)(MI:b5 K (.ref eG) "need_pair"=some (some (.ref Cp)))(PS:fX K (.ref Cp)=true)(xD:bB K "need_pair" "Ways.need_pair" wG Cp ame)(Mf:dH K c8 "Walk"=some (some (.ref ej)))(RD:u6 K ej mQ=true)(Ow:pz K ej=true)(RH:Bq K ej=true)(Si:b5 K (.ref ej) "__setattr__"=some (some (.builtin "object.__setattr__")))(QC:Bo K ej=true)(Qe:pA K (.ref ej)=true)(QW:b5 K (.ref ej) "net"=some none)(QV:b5 K (.ref ej) "goals"=some none)(QX:b5 K (.ref ej) "steps"=some none)(MB:b5 K (.ref ej) "__init__"=some (some (.ref yv)))(PK:fX K (.ref yv)=true)(Ap:bB K "__init__" "Walk.__init__" A_ yv al7)(MF:b5 K (.ref ej) "take_in"=some (some (.ref Cn)))(PO:fX K (.ref Cn)=true)(xB:bB K "take_in" "Walk.take_in" z3 Cn amb)(ME:b5 K (.ref ej) "send"=some (some (.ref Cm)))(PN:fX K (.ref Cm)=true)(xA:bB K "send" "Walk.send" Ah Cm ama)(Mz:b5 K (.ref ej) "goal"=some (some (.ref Cg)))(PI:fX K (.ref Cg)=true)(xv:bB K "goal" "Walk.goal" Ai Cg al5)(MC:b5 K (.ref ej) "last_house"=some (some (.ref Cj)))(PL:fX K (.ref Cj)=true)(xx:bB K "last_house" "Walk.last_house" zD Cj al8)(MD:b5 K (.ref ej) "last_turn"=some (some (.ref Ck)))(PM:fX K (.ref Ck)=true)(xy:bB K "last_turn" "Walk.last_turn" zE Ck al9)(MA:b5 K (.ref ej) "home_turn"=some (some (.ref Ci)))(PJ:fX K (.ref Ci)=true)(xw:bB K "home_turn" "Walk.home_turn" E7 Ci al6)(L_:dH K c8 "Day"=some (some (.ref d9)))(RB:u6 K d9 mQ=true)(Ou:pz K d9=true)(RF:Bq K d9=true)(Sg:b5 K (.ref d9) "__setattr__"=some (some (.builtin "object.__setattr__")))(QA:Bo K d9=true)(Qc:pA K (.ref d9)=true)(QI:b5 K (.ref d9) "net"=some none)(QK:b5 K (.ref d9) "present"=some none)(QJ:b5 K (.ref d9) "posted"=some none)(QO:b5 K (.ref d9) "ways"=some none)(QM:b5 K (.ref d9) "shut_roads"=some none)(QN:b5 K (.ref d9) "walk"=some none)(QL:b5 K (.ref d9) "sent"=some none)(Mi:b5 K (.ref d9) "__init__"=some (some (.ref yr)))(Po:fX K (.ref yr)=true)(An:bB K "__init__" "Day.__init__" xT yr alO)(Mm:b5 K (.ref d9) "now"=some (some (.ref B5)))(Pt:fX K (.ref B5)=true)(xk:bB K "now" "Day.now" Bh B5 alS)(Mo:b5 K (.ref d9) "post"=some (some (.ref B7)))(Pw:fX K (.ref B7)=true)(xm:bB K "post" "Day.post" zW B7 alU)(Mq:b5 K (.ref d9) "set_way"=some (some (.ref B9)))(Py:fX K (.ref B9)=true)(xo:bB K "set_way" "Day.set_way" xX B9 alW)(Mh:b5 K (.ref d9) "drop_way"=some (some (.ref B1)))(Pn:fX K (.ref B1)=true)(xg:bB K "drop_way" "Day.drop_way" xY B1 alN)(Mr:b5 K (.ref d9) "shut"=some (some (.ref B')))(Pz:fX K (.ref B')=true)(xp:bB K "shut" "Day.shut" zY B' alX)(Mp:b5 K (.ref d9) "reopen"=some (some (.ref B8)))(Px:fX K (.ref B8)=true)(xn:bB K "reopen" "Day.reopen" xZ B8 alV)(Mn:b5 K (.ref d9) "pass_turn"=some (some (.ref B6)))(Pu:fX K (.ref B6)=true)(xl:bB K "pass_turn" "Day.pass_turn" zX B6 alT)(Mk:b5 K (.ref d9) "log"=some (some (.ref B3)))(Pq:fX K (.ref B3)=true)(xi:bB K "log" "Day.log" uS B3 alQ)(Mj:b5 K (.ref d9) "letters"=some (some (.ref B2)))(Pp:fX K (.ref B2)=true)(xh:bB K "letters" "Day.letters" xS B2 alP)(Ml:b5 K (.ref d9) "need_road"=some (some (.ref B4)))(Pr:fX K (.ref B4)=true)(xj:bB K "need_road" "Day.need_road" zr B4 alR)(M8:dH K c8 "is_whole"=some (some (.ref CA)))(xJ:bB K "is_whole" "is_whole" wt CA amJ)(M9:dH K c8 "is_whole_within"=some (some (.ref CB)))(xK:bB K "is_whole_within" "is_whole_within" v9 CB amK)(M7:dH K c8 "is_tuple_of"=some (some (.ref Cz)))(xI:bB K "is_tuple_of" "is_tuple_of" wu Cz amI)(MY:dH K c8 "are_unlike_houses"=some (some (.ref Ct)))(xH:bB K "are_unlike_houses" "are_unlike_houses" t2 Ct amw)(M4:dH K c8 "is_name"=some (some (.ref G2)))(AI:bB K "is_name" "is_name" z5 G2 amF)(MW:dH K c8 "are_houses"=some (some (.ref GV)))(AD:bB K "are_houses" "are_houses" z6 GV amu)(M5:dH K c8 "is_road"=some (some (.ref G3)))(AJ:bB K "is_road" "is_road" Ac G3 amG)(MX:dH K c8 "are_roads"=some (some (.ref GW)))(AE:bB K "are_roads" "are_roads" Af GW amv)(M3:dH K c8 "is_letter"=some (some (.ref G1)))(AH:bB K "is_letter" "is_letter" Bf G1 amE)(Nh:dH K c8 "turns_apart"=some (some (.ref G_)))(AQ:bB K "turns_apart" "turns_apart" E' G_ amT)(Nb:dH K c8 "letters_of"=some (some (.ref G6)))(AN:bB K "letters_of" "letters_of" Bg G6 amP)(M6:dH K c8 "is_shorter_by"=some (some (.ref G4)))(AK:bB K "is_shorter_by" "is_shorter_by" E8 G4 amH)(Na:dH K c8 "least_turns_from"=some (some (.ref G5)))(AM:bB K "least_turns_from" "least_turns_from" E9 G5 amO)(M0:dH K c8 "begins_shortest"=some (some (.ref GY)))(AG:bB K "begins_shortest" "begins_shortest" Bd GY amy)(Nf:dH K c8 "shortest"=some (some (.ref G')))(AP:bB K "shortest" "shortest" zu G' amS)(Nd:dH K c8 "queues_at"=some (some (.ref G8)))(AO:bB K "queues_at" "queues_at" EF G8 amR)(MZ:dH K c8 "bags_at"=some (some (.ref GX)))(AF:bB K "bags_at" "bags_at" Es GX amx)(MO:dH K c8 "_law_cell_at"=some (some (.ref GL)))(Au:bB K "_law_cell_at" "_law_cell_at" Er GL amk)(MQ:dH K c8 "_law_houses"=some (some (.ref GO)))(Aw:bB K "_law_houses" "_law_houses" D2 GO amm)(MV:dH K c8 "_law_road"=some (some (.ref GU)))(AB:bB K "_law_road" "_law_road" A8 GU ams)(MP:dH K c8 "_law_change"=some (some (.ref GN)))(Av:bB K "_law_change" "_law_change" Ew GN aml)(MM:dH K c8 "_law_bags"=some (some (.ref GJ)))(Ar:bB K "_law_bags" "_law_bags" Et GJ ami)(MS:dH K c8 "_law_passed"=some (some (.ref GQ)))(Ay:bB K "_law_passed" "_law_passed" EC GQ amo)(MR:dH K c8 "_law_made"=some (some (.ref GP)))(Ax:bB K "_law_made" "_law_made" EA GP amn)(MU:dH K c8 "_law_refused"=some (some (.ref GS)))(AA:bB K "_law_refused" "_law_refused" EG GS amr)(MT:dH K c8 "_law_posted"=some (some (.ref GR)))(Az:bB K "_law_posted" "_law_posted" ED GR amq)(MN:dH K c8 "_law_beside"=some (some (.ref GK)))(As:bB K "_law_beside" "_law_beside" Eu GK amj)(M_:dH K c8 "law"=some (some (.ref ZO)))(AL:bB K "law" "law" x1 ZO amN){amD:Option Addr}{Ze:uN}{ard:jV}(Me:dH K c8 "RoadError"=some (some (.ref l0)))(Qp:K.lookup l0=some ⟨.type "type",amD,.cls Ze,ard⟩){amB:Option Addr}{Gv:uN}{Sr:jV}(Mc:dH K c8 "NoLetter"=some (some (.ref iN)))(HV:K.lookup iN=some ⟨.type "type",amB,.cls Gv,Sr⟩){amA:Option Addr}{Zd:uN}{ę:jV}(Mb:dH K c8 "NoHouse"=some (some (.ref hh)))(Qo:K.lookup hh=some ⟨.type "type",amA,.cls Zd,ę⟩){amC:Option Addr}{Nl:uN}{Ě:jV}(Md:dH K c8 "NoRoad"=some (some (.ref hO)))(HW:K.lookup hO=some ⟨.type "type",amC,.cls Nl,Ě⟩)(My:b5 K (.ref iN) "__init__"=some (some (.ref GI)))(PH:fX K (.ref GI)=true)(Fw:bB K "__init__" "NoLetter.__init__" Sd GI al4)(Uh:Bn K l0 [.type "ValueError",.type "Exception",.type "BaseException",.type "object"] "ValueError.__new__"=true)(Ue:Bn K hh [.type "ValueError",.type "Exception",.type "BaseException",.type "object"] "ValueError.__new__"=true)(Ug:Bn K hO [.type "ValueError",.type "Exception",.type "BaseException",.type "object"] "ValueError.__new__"=true)(Fi:JL Gv Sr iN iN=true)(Fh:JL Zd ę hh hh=true)(Fj:JL Nl Ě hO hO=true){arv:Tok}(Tz:dH K c8 "MOST_HOUSES"=some (some (.int 12 arv))){arx:Tok}(TB:dH K c8 "MOST_ROADS"=some (some (.int 40 arx))){arz:Tok}(TF:dH K c8 "MOST_SIGNS"=some (some (.int 8 arz))){arB:Tok}(TH:dH K c8 "MOST_TURNS"=some (some (.int 9 arB))){ary:Tok}(TC:dH K c8 "MOST_ROOM"=some (some (.int 1000000000 ary))){arw:Tok}(TA:dH K c8 "MOST_LETTERS"=some (some (.int 40 arw))){arA:Tok}(TG:dH K c8 "MOST_TURN"=some (some (.int 1000000000 arA))){aru:Tok}(Tx:dH K c8 "MOST_APART"=some (some (.int 30 aru)))(UK:dH K c8 "len"=some none)(UQ:dH K c8 "range"=some none)(UJ:dH K c8 "isinstance"=some none)(UC:dH K c8 "all"=some none)(UI:dH K c8 "int"=some none)(UE:dH K c8 "bool"=some none)(UT:dH K c8 "str"=some none)(UL:dH K c8 "list"=some none)(UW:dH K c8 "tuple"=some none)(UR:dH K c8 "set"=some none)(Ux:dH K c8 "ValueError"=some none)(UH:dH K c8 "enumerate"=some none)(UM:dH K c8 "max"=some none)(UN:dH K c8 "min"=some none)(UU:dH K c8 "sum"=some none)(UD:dH K c8 "any"=some none)(UG:dH K c8 "dict"=some none)(US:dH K c8 "sorted"=some none)(U1:dH K c8 "zip"=some none)(Ui:JN Gv Ze Sr iN "ValueError.__new__"=true)(Uc:Gv.hasDict=true)(SH:b5 K (.ref iN) "__setattr__"=some (some (.builtin "object.__setattr__")))(Rp:nt K (.ref iN) (.type "object")=some true)(HH:pz K iN=true)(Qi:pA K (.ref iN)=true)(Hc:b5 K (.ref iN) "__getattribute__"=some (some (.builtin "BaseException.__getattribute__")))(Im:b5 K (.ref iN) "__getattr__"=some none)(Hj:b5 K (.ref iN) "__class__"=some (some (.builtin "object.__class__")))(Hv:ta K (.builtin "object.__class__") "__get__"=some (some (.builtin "getset_descriptor.__get__")))(HD:Br K (.builtin "object.__class__")=some true)(Hs:ql K iN (.type "object")=some true)(Hk:ql K iN (.type "BaseException")=some true)(R2:X_ K l0 (.type "type")=true)(NO:X5 K (.ref l0) (.type "type") "__init__"=some (.val (.builtin "ValueError.__init__")))(Sp:ta K (.ref l0) "__getattribute__"=some (some (.builtin "type.__getattribute__")))(Hy:b5 K (.ref iN) "number"=some none)(Q9:Nl.mro.contains (.ref hh)=false)(NU:b5 K (.ref hh) "__getattribute__"=some (some (.builtin "BaseException.__getattribute__")))(Q':b5 K (.ref hh) "__getattr__"=some none)(Ob:b5 K (.ref hh) "__class__"=some (some (.builtin "object.__class__")))(OU:ta K (.builtin "object.__class__") "__get__"=some (some (.builtin "getset_descriptor.__get__")))(O_:Br K (.builtin "object.__class__")=some true)(OS:ql K hh (.type "object")=some true)(Og:ql K hh (.type "BaseException")=some true)(NV:b5 K (.ref hO) "__getattribute__"=some (some (.builtin "BaseException.__getattribute__")))(Q_:b5 K (.ref hO) "__getattr__"=some none)(Oc:b5 K (.ref hO) "__class__"=some (some (.builtin "object.__class__")))(OV:ta K (.builtin "object.__class__") "__get__"=some (some (.builtin "getset_descriptor.__get__")))(Pa:Br K (.builtin "object.__class__")=some true)(OT:ql K hO (.type "object")=some true)(Oh:ql K hO (.type "BaseException")=some true)(De:Lw K l0=true)(EW:u7 K (.ref l0)=some (.type "type"))(PY:Lw K hh=true)(S8:u7 K (.ref hh)=some (.type "type"))(PZ:Lw K hO=true)(S9:u7 K (.ref hO)=some (.type "type"))(ġ:nt K (.ref iN) (.type "ValueError")=some true)(SA:nt K (.ref iN) (.ref l0)=some true)(Sz:nt K (.ref hh) (.type "ValueError")=some true)(Sy:nt K (.ref hh) (.ref l0)=some true)(Sx:nt K (.ref hh) (.ref hO)=some false)(Q5:(cE hh==cE hO)=false)(SF:nt K (.ref hO) (.type "ValueError")=some true)(SE:nt K (.ref hO) (.ref l0)=some true)(SD:nt K (.ref hO) (.ref hh)=some false)(Q6:(cE hO==cE hh)=false):
  ∃fd:cF,(∀(s:aF)(v:Value),z9 s fd ⟨[v],[]⟩ [("_law_script",v)])/\∀base:Heap,K.In base->base.Ns c8 mg->aL l.prog w K mg base a8 8 iz fd ["_law_script"] (FI K):=by
 have e:=an4.symm.trans (e6 X G M_);cases e;have hH:fB K d1:=⟨RC,Ov,RG,Sh⟩
 have KH:=e6 X G Ma;have akJ:=Ao.binds (ps:=["self","houses","roads"]) λ_ _ _ _ _ _ us aj=>by(obtain⟨_,_,_,rfl⟩:=oN aj);rfl
 have Fs:oa K d1 yt:=⟨QB,Mt,PC,Qd⟩
 have RW:rJ K d1 "Net.__init__" Ag ["self","houses","roads"] yt _:=⟨Ao,Fs,akJ⟩
 have akI:=xq.binds (ps:=["self"]) λ_ _ _ _ _ _ us aj=>by(obtain⟨_,rfl⟩:=nV aj);rfl
 have mS:c6 K d1 "houses" "Net.houses" vY ["self"] Ca _:=⟨xq,⟨Ms,PB,xq.bI⟩,akI⟩
 have akN:=xu.binds (ps:=["self"]) λ_ _ _ _ _ _ us aj=>by(obtain⟨_,rfl⟩:=nV aj);rfl
 have HX:c6 K d1 "roads" "Net.roads" Ek ["self"] Cd _:=⟨xu,⟨Mx,PG,xu.bI⟩,akN⟩
 have akM:=uQ.binds (ps:=["self","number"]) λ_ _ _ _ _ _ us aj=>by(obtain⟨_,_,rfl⟩:=iA aj);rfl
 have ou:c6 K d1 "road" "Net.road" uh ["self","number"] yu _:=⟨uQ,⟨Mw,PF,uQ.bI⟩,akM⟩
 have akL:=xt.binds (ps:=["self","house"]) λ_ _ _ _ _ _ us aj=>by(obtain⟨_,_,rfl⟩:=iA aj);rfl
 have tr:c6 K d1 "out_of" "Net.out_of" xV ["self","house"] Cc _:=⟨xt,⟨Mv,PE,xt.bI⟩,akL⟩
 have akK:=xr.binds (ps:=["self","house"]) λ_ _ _ _ _ _ us aj=>by(obtain⟨_,_,rfl⟩:=iA aj);rfl
 have Ha:c6 K d1 "need_house" "Net.need_house" Aj ["self","house"] Cb _:=⟨xr,⟨Mu,PD,xr.bI⟩,akK⟩
 have jZ:fB K eG:=⟨RE,Ox,RI,Sj⟩
 have Uz:=e6 X G Mg;have akX:=Aq.binds (ps:=["self","net"]) λ_ _ _ _ _ _ us aj=>by(obtain⟨_,_,rfl⟩:=iA aj);rfl
 have Jw:oa K eG yw:=⟨QD,MH,PR,Qf⟩
 have Rw:rJ K eG "Ways.__init__" EJ ["self","net"] yw _:=⟨Aq,Jw,akX⟩
 have ak0:=xF.binds (ps:=["self","house","goal","road"]) λ_ _ _ _ _ _ us aj=>by(obtain⟨_,_,_,_,rfl⟩:=z0 aj);rfl
 have tk:c6 K eG "set_way" "Ways.set_way" zt ["self","house","goal","road"] Cr _:=⟨xF,⟨MK,PU,xF.bI⟩,ak0⟩
 have akW:=xC.binds (ps:=["self","house","goal"]) λ_ _ _ _ _ _ us aj=>by(obtain⟨_,_,_,rfl⟩:=oN aj);rfl
 have HL:c6 K eG "drop_way" "Ways.drop_way" Ex ["self","house","goal"] Co _:=⟨xC,⟨MG,PQ,xC.bI⟩,akW⟩
 have ak1:=xG.binds (ps:=["self","house","goal"]) λ_ _ _ _ _ _ us aj=>by(obtain⟨_,_,_,rfl⟩:=oN aj);rfl
 have Ib:c6 K eG "way" "Ways.way" EK ["self","house","goal"] Cs _:=⟨xG,⟨ML,PV,xG.bI⟩,ak1⟩
 have akZ:=xE.binds (ps:=["self"]) λ_ _ _ _ _ _ us aj=>by(obtain⟨_,rfl⟩:=nV aj);rfl
 have HQ:c6 K eG "pairs" "Ways.pairs" EE ["self"] Cq _:=⟨xE,⟨MJ,PT,xE.bI⟩,akZ⟩
 have akY:=xD.binds (ps:=["self","house","goal"]) λ_ _ _ _ _ _ us aj=>by(obtain⟨_,_,_,rfl⟩:=oN aj);rfl
 have oj:c6 K eG "need_pair" "Ways.need_pair" wG ["self","house","goal"] Cp _:=⟨xD,⟨MI,PS,xD.bI⟩,akY⟩
 have kQ:fB K ej:=⟨RD,Ow,RH,Si⟩
 have JY:=e6 X G Mf;have akR:=Ap.binds (ps:=["self","net","letters"]) λ_ _ _ _ _ _ us aj=>by(obtain⟨_,_,_,rfl⟩:=oN aj);rfl
 have Jz:oa K ej yv:=⟨QC,MB,PK,Qe⟩
 have RA:rJ K ej "Walk.__init__" A_ ["self","net","letters"] yv _:=⟨Ap,Jz,akR⟩
 have akV:=xB.binds (ps:=["self","letter"]) λ_ _ _ _ _ _ us aj=>by(obtain⟨_,_,rfl⟩:=iA aj);rfl
 have tp:c6 K ej "take_in" "Walk.take_in" z3 ["self","letter"] Cn _:=⟨xB,⟨MF,PO,xB.bI⟩,akV⟩
 have akU:=xA.binds (ps:=["self","bag"]) λ_ _ _ _ _ _ us aj=>by(obtain⟨_,_,rfl⟩:=iA aj);rfl
 have HZ:c6 K ej "send" "Walk.send" Ah ["self","bag"] Cm _:=⟨xA,⟨ME,PN,xA.bI⟩,akU⟩
 have akP:=xv.binds (ps:=["self","number"]) λ_ _ _ _ _ _ us aj=>by(obtain⟨_,_,rfl⟩:=iA aj);rfl
 have HY:c6 K ej "goal" "Walk.goal" Ai ["self","number"] Cg _:=⟨xv,⟨Mz,PI,xv.bI⟩,akP⟩
 have akS:=xx.binds (ps:=["self","number"]) λ_ _ _ _ _ _ us aj=>by(obtain⟨_,_,rfl⟩:=iA aj);rfl
 have tq:c6 K ej "last_house" "Walk.last_house" zD ["self","number"] Cj _:=⟨xx,⟨MC,PL,xx.bI⟩,akS⟩
 have akT:=xy.binds (ps:=["self","number"]) λ_ _ _ _ _ _ us aj=>by(obtain⟨_,_,rfl⟩:=iA aj);rfl
 have tl:c6 K ej "last_turn" "Walk.last_turn" zE ["self","number"] Ck _:=⟨xy,⟨MD,PM,xy.bI⟩,akT⟩
 have akQ:=xw.binds (ps:=["self","number"]) λ_ _ _ _ _ _ us aj=>by(obtain⟨_,_,rfl⟩:=iA aj);rfl
 have Hb:c6 K ej "home_turn" "Walk.home_turn" E7 ["self","number"] Ci _:=⟨xw,⟨MA,PJ,xw.bI⟩,akQ⟩
 have fE:fB K d9:=⟨RB,Ou,RF,Sg⟩
 have zM:=e6 X G L_;have aky:=An.binds (ps:=["self","net","first"]) λ_ _ _ _ _ _ us aj=>by(obtain⟨_,_,_,rfl⟩:=oN aj);rfl
 have wy:oa K d9 yr:=⟨QA,Mi,Po,Qc⟩
 have yW:rJ K d9 "Day.__init__" xT ["self","net","first"] yr _:=⟨An,wy,aky⟩
 have akC:=xk.binds (ps:=["self"]) λ_ _ _ _ _ _ us aj=>by(obtain⟨_,rfl⟩:=nV aj);rfl
 have IQ:c6 K d9 "now" "Day.now" Bh ["self"] B5 _:=⟨xk,⟨Mm,Pt,xk.bI⟩,akC⟩
 have akE:=xm.binds (ps:=["self","house","goal"]) λ_ _ _ _ _ _ us aj=>by(obtain⟨_,_,_,rfl⟩:=oN aj);rfl
 have oq:c6 K d9 "post" "Day.post" zW ["self","house","goal"] B7 _:=⟨xm,⟨Mo,Pw,xm.bI⟩,akE⟩
 have akG:=xo.binds (ps:=["self","house","goal","road"]) λ_ _ _ _ _ _ us aj=>by(obtain⟨_,_,_,_,rfl⟩:=z0 aj);rfl
 have qt:c6 K d9 "set_way" "Day.set_way" xX ["self","house","goal","road"] B9 _:=⟨xo,⟨Mq,Py,xo.bI⟩,akG⟩
 have akx:=xg.binds (ps:=["self","house","goal"]) λ_ _ _ _ _ _ us aj=>by(obtain⟨_,_,_,rfl⟩:=oN aj);rfl
 have tv:c6 K d9 "drop_way" "Day.drop_way" xY ["self","house","goal"] B1 _:=⟨xg,⟨Mh,Pn,xg.bI⟩,akx⟩
 have akH:=xp.binds (ps:=["self","road"]) λ_ _ _ _ _ _ us aj=>by(obtain⟨_,_,rfl⟩:=iA aj);rfl
 have tH:c6 K d9 "shut" "Day.shut" zY ["self","road"] B' _:=⟨xp,⟨Mr,Pz,xp.bI⟩,akH⟩
 have akF:=xn.binds (ps:=["self","road"]) λ_ _ _ _ _ _ us aj=>by(obtain⟨_,_,rfl⟩:=iA aj);rfl
 have tx:c6 K d9 "reopen" "Day.reopen" xZ ["self","road"] B8 _:=⟨xn,⟨Mp,Px,xn.bI⟩,akF⟩
 have akD:=xl.binds (ps:=["self"]) λ_ _ _ _ _ _ us aj=>by(obtain⟨_,rfl⟩:=nV aj);rfl
 have tn:c6 K d9 "pass_turn" "Day.pass_turn" zX ["self"] B6 _:=⟨xl,⟨Mn,Pu,xl.bI⟩,akD⟩
 have akA:=xi.binds (ps:=["self"]) λ_ _ _ _ _ _ us aj=>by(obtain⟨_,rfl⟩:=nV aj);rfl
 have ot:c6 K d9 "log" "Day.log" uS ["self"] B3 _:=⟨xi,⟨Mk,Pq,xi.bI⟩,akA⟩
 have akz:=xh.binds (ps:=["self"]) λ_ _ _ _ _ _ us aj=>by(obtain⟨_,rfl⟩:=nV aj);rfl
 have tu:c6 K d9 "letters" "Day.letters" xS ["self"] B2 _:=⟨xh,⟨Mj,Pp,xh.bI⟩,akz⟩
 have akB:=xj.binds (ps:=["self","number"]) λ_ _ _ _ _ _ us aj=>by(obtain⟨_,_,rfl⟩:=iA aj);rfl
 have tm:c6 K d9 "need_road" "Day.need_road" zr ["self","number"] B4 _:=⟨xj,⟨Ml,Pr,xj.bI⟩,akB⟩
 have alq:=xJ.binds (ps:=["thing"]) λ_ _ _ _ _ _ us aj=>by(obtain⟨_,rfl⟩:=nV aj);rfl
 have qy:dO K mg "is_whole" wt ["thing"] CA _:=⟨xJ,e6 X G M8,alq⟩
 have alr:=xK.binds (ps:=["thing","least","greatest"]) λ_ _ _ _ _ _ us aj=>by(obtain⟨_,_,_,rfl⟩:=oN aj);rfl
 have ny:dO K mg "is_whole_within" v9 ["thing","least","greatest"] CB _:=⟨xK,e6 X G M9,alr⟩
 have alp:=xI.binds (ps:=["thing","length"]) λ_ _ _ _ _ _ us aj=>by(obtain⟨_,_,rfl⟩:=iA aj);rfl
 have qs:dO K mg "is_tuple_of" wu ["thing","length"] Cz _:=⟨xI,e6 X G M7,alp⟩
 have alf:=xH.binds (ps:=["houses","one","other"]) λ_ _ _ _ _ _ us aj=>by(obtain⟨_,_,_,rfl⟩:=oN aj);rfl
 have ma:dO K mg "are_unlike_houses" t2 ["houses","one","other"] Ct _:=⟨xH,e6 X G MY,alf⟩
 have alm:=AI.binds (ps:=["thing"]) λ_ _ _ _ _ _ us aj=>by(obtain⟨_,rfl⟩:=nV aj);rfl
 have DP:dO K mg "is_name" z5 ["thing"] G2 _:=⟨AI,e6 X G M4,alm⟩
 have ald:=AD.binds (ps:=["things"]) λ_ _ _ _ _ _ us aj=>by(obtain⟨_,rfl⟩:=nV aj);rfl
 have Dc:dO K mg "are_houses" z6 ["things"] GV _:=⟨AD,e6 X G MW,ald⟩
 have aln:=AJ.binds (ps:=["houses","thing"]) λ_ _ _ _ _ _ us aj=>by(obtain⟨_,_,rfl⟩:=iA aj);rfl
 have DQ:dO K mg "is_road" Ac ["houses","thing"] G3 _:=⟨AJ,e6 X G M5,aln⟩
 have ale:=AE.binds (ps:=["houses","things"]) λ_ _ _ _ _ _ us aj=>by(obtain⟨_,_,rfl⟩:=iA aj);rfl
 have Dv:dO K mg "are_roads" Af ["houses","things"] GW _:=⟨AE,e6 X G MX,ale⟩
 have alk:=AH.binds (ps:=["houses","thing"]) λ_ _ _ _ _ _ us aj=>by(obtain⟨_,_,rfl⟩:=iA aj);rfl
 have Dx:dO K mg "is_letter" Bf ["houses","thing"] G1 _:=⟨AH,e6 X G M3,alk⟩
 have alC:=AQ.binds (ps:=["letters"]) λ_ _ _ _ _ _ us aj=>by(obtain⟨_,rfl⟩:=nV aj);rfl
 have Df:dO K mg "turns_apart" E' ["letters"] G_ _:=⟨AQ,e6 X G Nh,alC⟩
 have alu:=AN.binds (ps:=["net","some"]) λ_ _ _ _ _ _ us aj=>by(obtain⟨_,_,rfl⟩:=iA aj);rfl
 have Dd:dO K mg "letters_of" Bg ["net","some"] G6 _:=⟨AN,e6 X G Nb,alu⟩
 have alo:=AK.binds (ps:=["road","found"]) λ_ _ _ _ _ _ us aj=>by(obtain⟨_,_,rfl⟩:=iA aj);rfl
 have Ce:dO K mg "is_shorter_by" E8 ["road","found"] G4 _:=⟨AK,e6 X G M6,alo⟩
 have als:=AM.binds (ps:=["roads","house"]) λ_ _ _ _ _ _ us aj=>by(obtain⟨_,_,rfl⟩:=iA aj);rfl
 have BL:dO K mg "least_turns_from" E9 ["roads","house"] G5 _:=⟨AM,e6 X G Na,als⟩
 have alh:=AG.binds (ps:=["road","far_from","goal"]) λ_ _ _ _ _ _ us aj=>by(obtain⟨_,_,_,rfl⟩:=oN aj);rfl
 have BP:dO K mg "begins_shortest" Bd ["road","far_from","goal"] GY _:=⟨AG,e6 X G M0,alh⟩
 have alz:=AP.binds (ps:=["net"]) λ_ _ _ _ _ _ us aj=>by(obtain⟨_,rfl⟩:=nV aj);rfl
 have qz:dO K mg "shortest" zu ["net"] G' _:=⟨AP,e6 X G Nf,alz⟩
 have aly:=AO.binds (ps:=["walk","going","ways","turn"]) λ_ _ _ _ _ _ us aj=>by(obtain⟨_,_,_,_,rfl⟩:=z0 aj);rfl
 have Dw:dO K mg "queues_at" EF ["walk","going","ways","turn"] G8 _:=⟨AO,e6 X G Nd,aly⟩
 have alg:=AF.binds (ps:=["net","walk","going","ways","turn"]) λ_ _ _ _ _ _ us aj=>by(obtain⟨_,_,_,_,_,rfl⟩:=Lz aj);rfl
 have DM:dO K mg "bags_at" Es ["net","walk","going","ways","turn"] GX _:=⟨AF,e6 X G MZ,alg⟩
 have ak4:=Au.binds (ps:=["_law_script","_law_k"]) λ_ _ _ _ _ _ us aj=>by(obtain⟨_,_,rfl⟩:=iA aj);rfl
 have jC:dO K mg "_law_cell_at" Er ["_law_script","_law_k"] GL _:=⟨Au,e6 X G MO,ak4⟩
 have ak6:=Aw.binds (ps:=["_law_cell","_law_many"]) λ_ _ _ _ _ _ us aj=>by(obtain⟨_,_,rfl⟩:=iA aj);rfl
 have Dg:dO K mg "_law_houses" D2 ["_law_cell","_law_many"] GO _:=⟨Aw,e6 X G MQ,ak6⟩
 have alb:=AB.binds (ps:=["_law_cell","_law_names"]) λ_ _ _ _ _ _ us aj=>by(obtain⟨_,_,rfl⟩:=iA aj);rfl
 have Dz:dO K mg "_law_road" A8 ["_law_cell","_law_names"] GU _:=⟨AB,e6 X G MV,alb⟩
 have ak5:=Av.binds (ps:=["_law_day","_law_names","_law_lines","_law_n"]) λ_ _ _ _ _ _ us aj=>by(obtain⟨_,_,_,_,rfl⟩:=z0 aj);rfl
 have Dl:dO K mg "_law_change" Ew ["_law_day","_law_names","_law_lines","_law_n"] GN _:=⟨Av,e6 X G MP,ak5⟩
 have ak2:=Ar.binds (ps:=["_law_letters","_law_stood","_law_told","_law_closed","_law_lines","_law_now"]) λ_ _ _ _ _ _ us aj=>by(obtain⟨_,_,_,_,_,_,rfl⟩:=aiK aj);rfl
 have Dp:dO K mg "_law_bags" Et ["_law_letters","_law_stood","_law_told","_law_closed","_law_lines","_law_now"] GJ _:=⟨Ar,e6 X G MM,ak2⟩
 have ak8:=Ay.binds (ps:=["_law_day","_law_due","_law_log","_law_n"]) λ_ _ _ _ _ _ us aj=>by(obtain⟨_,_,_,_,rfl⟩:=z0 aj);rfl
 have Dh:dO K mg "_law_passed" EC ["_law_day","_law_due","_law_log","_law_n"] GQ _:=⟨Ay,e6 X G MS,ak8⟩
 have ak7:=Ax.binds (ps:=["_law_deed","_law_told","_law_closed"]) λ_ _ _ _ _ _ us aj=>by(obtain⟨_,_,_,rfl⟩:=oN aj);rfl
 have Dq:dO K mg "_law_made" EA ["_law_deed","_law_told","_law_closed"] GP _:=⟨Ax,e6 X G MR,ak7⟩
 have ala:=AA.binds (ps:=["_law_day","_law_names","_law_lines","_law_n"]) λ_ _ _ _ _ _ us aj=>by(obtain⟨_,_,_,_,rfl⟩:=z0 aj);rfl
 have CI:dO K mg "_law_refused" EG ["_law_day","_law_names","_law_lines","_law_n"] GS _:=⟨AA,e6 X G MU,ala⟩
 have ak9:=Az.binds (ps:=["_law_day","_law_house","_law_goal","_law_number","_law_n"]) λ_ _ _ _ _ _ us aj=>by(obtain⟨_,_,_,_,_,rfl⟩:=Lz aj);rfl
 have Dk:dO K mg "_law_posted" ED ["_law_day","_law_house","_law_goal","_law_number","_law_n"] GR _:=⟨Az,e6 X G MT,ak9⟩
 have ak3:=As.binds (ps:=["_law_net","_law_lines","_law_pairs","_law_first","_law_n"]) λ_ _ _ _ _ _ us aj=>by(obtain⟨_,_,_,_,_,rfl⟩:=Lz aj);rfl
 have Dm:dO K mg "_law_beside" Eu ["_law_net","_law_lines","_law_pairs","_law_first","_law_n"] GK _:=⟨As,e6 X G MN,ak3⟩
 have atM:=AL.binds (ps:=["_law_script"]) λ_ _ _ _ _ _ us aj=>by(obtain⟨_,rfl⟩:=nV aj);rfl
 have qw:=e6 X G Me;have vK:=e6 X G Mc;have DB:=e6 X G Mb;have DO:=e6 X G Md;have akO:=Fw.binds (ps:=["self","number"]) λ_ _ _ _ _ _ us aj=>by(obtain⟨_,_,rfl⟩:=iA aj);rfl
 have aae:Exc K mg "RoadError" l0 _ _:=⟨qw,Uh⟩
 have yV:Exc K mg "NoHouse" hh _ _:=⟨DB,Ue⟩
 have yS:Exc K mg "NoRoad" hO _ _:=⟨DO,Ug⟩
 have Fi:=SQ HV Fi;have Fh:=SQ Qo Fh;have Fj:=SQ HW Fj;have nk:A6 mg:=⟨⟨_,e6 X G Tz⟩,⟨_,e6 X G TB⟩,⟨_,e6 X G TF⟩,⟨_,e6 X G TH⟩,⟨_,e6 X G TC⟩⟩
 have uL:LP mg:=⟨⟨_,e6 X G TA⟩,⟨_,e6 X G TG⟩,⟨_,e6 X G Tx⟩⟩
 have B:gp mg:=⟨km X G UK,km X G UQ,km X G UJ,km X G UC,km X G UI,km X G UE,km X G UT,km X G UL,km X G UW,km X G UR,km X G Ux,km X G UH,km X G UM,km X G UN,km X G UU,km X G UD,km X G UG,km X G US,km X G U1⟩
 obtain⟨_,_,dn,amz,pm,an,cd,e',_,rfl,_,_⟩:=id AL.ex;refine⟨yc "law" "law" (Ee x1) (tT x1) (c7 x1) .none dn amz pm an cd e',λs v=>.of_eq rfl,λbase _ _=>?_⟩;have f':sL K d1:=⟨hH,QT,QU⟩
 have KT:WX K:=⟨UV K⟩
 have Dt:aL l.prog w K mg base a8 1 CA _ ["thing"] UX:=adt xJ B KT;have yn:aL l.prog w K mg base a8 2 CB _ ["thing","least","greatest"] TM:=abH xK qy Dt;have CH:aL l.prog w K mg base a8 1 Cz _ ["thing","length"] UY:=adu xI B;have vp:aL l.prog w K mg base a8 1 Ct _ ["houses","one","other"] (TN K):=abI xH;have SU:aL l.prog w K mg base a8 1 G2 _ ["thing"] Kk:=afV AI B nk;have Qy:aL l.prog w K mg base a8 2 GV _ ["things"] Kl:=afW AD B nk DP SU;have SV:aL l.prog w K mg base a8 3 G3 _ ["houses","thing"] (Km K):=afX AJ nk qs CH ma vp ny yn;have Ro:aL l.prog w K mg base a8 4 GW _ ["houses","things"] (Kn K):=afY AE B nk DQ SV;have RX:aL l.prog w K mg base a8 5 yt _ ["self","houses","roads"] (Ko K d1):=af0 Ao B f' Dc Qy Dv Ro;have abo:aL l.prog w K mg base a8 1 CA _ ["thing"] TV:=abN xJ B;have abh:aL l.prog w K mg base a8 2 CB _ ["thing","least","greatest"] SY:=aaX xK qy abo;have Gt:aL l.prog w K mg base a8 1 Cz _ ["thing","length"] TX:=abO xI B;have V9:aL l.prog w K mg base a8 1 Ct _ ["houses","one","other"] II:=aaY xH;have Dy:qp K mg "RoadError" iN l0:=⟨aae,⟨_,_,_,_,_,_,HV,Qp,Ui,Uc⟩,SH,Rp,R2,NO,Sp,⟨Hc,Im,Hj,Hv,HD,Hs,Hk⟩,HH⟩
 have l7:YV K iN l0:=⟨Fi,(EB De EW SA (λ_=>rfl)),⟨Hc,Im,Hj,Hv,HD,Hs,Hk⟩,Hy,HH⟩
 have gs:YW K l0 hh hO:=⟨Fh,⟨NU,Q',Ob,OU,O_,OS,Og⟩,(EB De EW Sy (λ_=>rfl)),(Yf (by decide+kernel) Sz),Yg _ _,(EB PZ S9 Sx (λh=>bG (h.symm.trans Q5) (by decide))),Fj,⟨_,_,_,HW,Q9⟩,⟨NV,Q_,Oc,OV,Pa,OT,Oh⟩,(EB De EW SE (λ_=>rfl)),(Yf (by decide+kernel) SF),(EB PY S8 SD (λh=>bG (h.symm.trans Q6) (by decide))),Yg _ _⟩
 have pF:rb K eG:=⟨jZ,QY,QZ⟩
 have dj:sq K ej:=⟨kQ,QW,QV,QX⟩
 have cx:o7 K d9:=⟨fE,QI,QK,QJ,QO,QM,QN,QL⟩
 have HK:aL l.prog w K mg base a8 1 GI _ ["self","number"] (Gm iN):=ai4 Fw Dy qw Hy;have qv:aL l.prog w K mg base a8 1 Ca _ ["self"] (DI d1):=aa6 xq B f';have Rz:aL l.prog w K mg base a8 3 G1 _ ["houses","thing"] KC:=ahc AH uL qs Gt ma V9 ny abh;have Qr:aL l.prog w K mg base a8 1 G_ _ ["letters"] JX:=aen AQ B;have aiL:aL l.prog w K mg base (nj l.prog w) 4 G6 _ ["net","some"] (Lk d1 iN):=ahd AN B uL hH mS qv Dx Rz Df Qr Dy vK Qi My PH HK akO;have Rv:aL l.prog w K mg base a8 1 Cd _ ["self"] (T2 d1):=abK xu B f';have P8:aL l.prog w K mg base (ed l.prog w) 1 Cb _ ["self","house"] (Kp d1 hh):=afM xr f' Bk yV;have YP:aL l.prog w K mg base a8 1 yu _ ["self","number"] (Js d1):=adF uQ B f';have aj8:aL l.prog w K mg base (ed l.prog w) 1 yu _ ["self","number"] (U0 d1 hO):=adP uQ B f' Bk yS;have yC:aL l.prog w K mg base (ed l.prog w) 2 Cc _ ["self","house"] (FD d1 hh (·.a)):=ahL xt B f' Ha P8;have P2:aL l.prog w K mg base a8 1 G4 _ ["road","found"] Uv:=ad3 AK;have PA:aL l.prog w K mg base a8 2 G5 _ ["roads","house"] (Uw K):=ad6 AM Ce P2;have Rx:aL l.prog w K mg base a8 1 yw _ ["self","net"] (LV eG):=aib Aq pF;have rQ:aL l.prog w K mg base (ed l.prog w) 2 Cp _ ["self","house","goal"] (A9 eG d1 hh):=aic xD pF hH Bk yV mS qv ma V9;have yo:aL l.prog w K mg base (ed l.prog w) 3 Cr _ ["self","house","goal","road"] (Gg eG d1 hh hO):=aid xF pF hH Bk yS tr yC oj rQ;have RS:aL l.prog w K mg base (ed l.prog w) 3 Cs _ ["self","house","goal"] (LW eG d1 hh):=aif xG pF oj rQ;have aj9:aL l.prog w K mg base (ed l.prog w) 3 Co _ ["self","house","goal"] (LN eG d1 hh):=aja xC pF oj rQ;have aka:aL l.prog w K mg base a8 1 Cq _ ["self"] (L6 eG):=aiV xE B pF;have aiM:aL l.prog w K mg base a8 1 GY _ ["road","far_from","goal"] Lm:=ahl AG;have YQ:aL l.prog w K mg base a8 4 G' _ ["net"] (Gf eG d1):=ai0 AP B pF hH Uz mS qv HX Rv tr yC BL PA BP aiM Jw Rw Rx tk yo;have YR:aL l.prog w K mg base a8 1 Cn _ ["self","letter"] (JO ej):=af9 xB dj;have akb:aL l.prog w K mg base a8 2 yv _ ["self","net","letters"] (Le ej):=ahB Ap dj tp YR;have akc:aL l.prog w K mg base a8 1 Cg _ ["self","number"] (Ks ej):=afK xv dj;have YS:aL l.prog w K mg base a8 1 Cj _ ["self","number"] (Jq ej):=adf xx dj;have YY:aL l.prog w K mg base a8 1 Ck _ ["self","number"] (Jr ej):=adg xy dj;have akd:aL l.prog w K mg base a8 2 Ci _ ["self","number"] (Us ej):=adO xw dj tq YS tl YY;have ake:aL l.prog w K mg base a8 2 Cm _ ["self","bag"] (Kv ej d1):=afJ xA dj hH ou YP;have akf:aL l.prog w K mg base a8 4 G8 _ ["walk","going","ways","turn"] (LO K ej eG d1):=ai2 AO dj pF tl YY tq YS HY akc Ib RS;have akg:aL l.prog w K mg base a8 5 GX _ ["net","walk","going","ways","turn"] (Li K ej eG d1):=ahq AF B hH Dw akf ou YP;have YZ:aL l.prog w K mg base a8 5 yr _ ["self","net","first"] (FR d9 ej eG d1):=ahj An cx JY qz YQ Jz RA akb;have akh:aL l.prog w K mg base a8 1 B5 _ ["self"] (Lu d9 ej eG d1):=ahf xk cx;have Y0:aL l.prog w K mg base a8 1 B2 _ ["self"] (FQ d9 ej eG d1):=ahh xh B cx;have Y1:aL l.prog w K mg base (nj l.prog w) 5 B7 _ ["self","house","goal"] (Fn d9 ej eG d1 iN):=agr xm B cx kQ Dd aiL tp YR;have Y2:aL l.prog w K mg base a8 6 B6 _ ["self"] (Fo K d9 ej eG d1):=agv xl B cx kQ Hb akd DM akg HZ ake;have aki:aL l.prog w K mg base a8 1 GL _ ["_law_script","_law_k"] (LG K):=aik Au B.len;have akj:aL l.prog w K mg base a8 1 GO _ ["_law_cell","_law_many"] SS:=aa5 Aw B;have akk:aL l.prog w K mg base a8 1 GU _ ["_law_cell","_law_names"] K9:=ahI AB B;have YA:aL l.prog w K mg base (ed l.prog w) 4 B9 _ ["self","house","goal","road"] (FU d9 ej eG d1 hh hO):=ah1 xo cx jZ tk yo;have Yk:aL l.prog w K mg base (ed l.prog w) 4 B1 _ ["self","house","goal"] (FV d9 ej eG d1 hh):=ah2 xg cx jZ HL aj9;have Y3:aL l.prog w K mg base (ed l.prog w) 2 B4 _ ["self","number"] (Gn d9 ej eG d1 hO):=aje xj cx hH ou aj8;have Yl:aL l.prog w K mg base (ed l.prog w) 3 B' _ ["self","road"] (uz d9 ej eG d1 hO Al):=agw xp cx tm Y3;have Ym:aL l.prog w K mg base (ed l.prog w) 3 B8 _ ["self","road"] (uz d9 ej eG d1 hO we):=ah5 xn cx tm Y3;have LX:aL l.prog w K mg base a8 1 B3 _ ["self"] (Am d9 ej eG d1):=ah7 xi B cx;have akl:aL l.prog w K mg base a8 5 GN _ D5 (LZ d9 ej eG d1):=aji Av B fE tH Yl tx Ym tv Yk qt YA;have akm:aL l.prog w K mg base a8 1 GJ _ D3 L1:=aiN Ar B;have akn:aL l.prog w K mg base a8 7 GQ _ D7 (L2 d9 ej eG d1):=aiP Ay B fE tn Y2 ot LX;have ako:aL l.prog w K mg base a8 1 GP _ zh L0:=ajk Ax B;have akp:aL l.prog w K mg base a8 5 GS _ D9 (L5 d9 ej eG d1):=aiT AA B fE gs qw DB DO tH Yl tx Ym tv Yk qt YA;have akq:aL l.prog w K mg base a8 6 GR _ D8 (L4 d9 ej eG d1):=aiR Az B fE l7 qw vK oq Y1;have akr:aL l.prog w K mg base a8 7 GK _ D4 (L8 d1):=aiY As B fE zM wy yW YZ ot LX tu Y0 oq Y1 tn Y2;exact WF AL B pF KH zM fE jC aki Dg akj Dz akk Fs RW RX wy yW YZ qz YQ HQ aka Dp akm Dh akn Dk akq CI akp Dl akl Dq ako Dm akr ot LX IQ akh tu Y0
theorem walk{l:X3}{q:bO}{loose:b9}{yi:cI->Heap->Prop}{tf:bx->Heap->Prop}{d:DefRec}{K:Params->aV}(aT:l.most=some 63)(qM:d.params.defaults=[])(Oa:∀(w:bx)(h:Heap),tf w h->(K w.params).In h)(F:∀(w:bx)(mg:cI)(iz:Addr)(h:Heap),(K w.params).In h->h.Ns c8 mg->mg d.name=some (.ref iz)->
   ∃fd:cF,(∀(s:aF)(u:Value),z9 s fd ⟨[u],[]⟩ [("_law_script",u)])/\∀base:Heap,(K w.params).In base->base.Ns c8 mg->aL l.prog w (K w.params) mg base a8 8 iz fd ["_law_script"] (FI (K w.params))):
  aeG q loose yi tf l.row.toRowW d [] (λf vs=>Yc f vs):=
 ao.arY (n:=63) (k:=8) (x:="_law_script") (CX:=λ_=>a8) (sp:=λw=>FI (K w.params)) aT (by decide) qM ⟨rfl,by decide,by decide⟩ Oa F (λ_ _ a ns aj _ fO=>⟨a,ns,rfl,fO,aj,λ_=>rfl⟩) λ_ _ _ _ _ z=>z
end dW
noncomputable def PySem.W.Fast.tw9789765055586844105:Unit:=()
noncomputable def PySem.W.Fast.tw1510889613691962231:Unit:=()
noncomputable def PySem.W.Fast.tw12618381650228764099:Unit:=()
noncomputable def PySem.W.Fast.tw3554272326462767836:Unit:=()
noncomputable def PySem.W.Fast.tw16728220854990189159:Unit:=()
noncomputable def PySem.W.Fast.tw6535453594093378878:Unit:=()
noncomputable def PySem.W.Fast.tw13180325639674067098:Unit:=()
noncomputable def PySem.W.Fast.tw16949754842922991017:Unit:=()
noncomputable def PySem.W.Fast.tw14011649105054903778:Unit:=()
noncomputable def PySem.W.Fast.tw17219331358284397676:Unit:=()
noncomputable def PySem.W.Fast.tw17015916298109022674:Unit:=()
noncomputable def PySem.W.Fast.tw3102830403176326499:Unit:=()
noncomputable def PySem.W.Fast.tw82689314927563112:Unit:=()
noncomputable def PySem.W.Fast.tw7807467501654037530:Unit:=()
noncomputable def PySem.W.Fast.tw14585981387896435580:Unit:=()
noncomputable def PySem.W.Fast.tw9147242991836450205:Unit:=()
noncomputable def PySem.W.Fast.tw327607526988772942:Unit:=()
noncomputable def PySem.W.Fast.tw5064319080011177658:Unit:=()
noncomputable def PySem.W.Fast.tw2375864139763896371:Unit:=()
noncomputable def PySem.W.Fast.tw8870371654586705752:Unit:=()
noncomputable def PySem.W.Fast.tw9815450237018939788:Unit:=()
noncomputable def PySem.W.Fast.tw8014306633673355344:Unit:=()
noncomputable def PySem.W.Fast.tw15992926189498013245:Unit:=()
noncomputable def PySem.W.Fast.tw16079882446690847585:Unit:=()
noncomputable def PySem.W.Fast.tw12656337479505665592:Unit:=()
noncomputable def PySem.W.Fast.tw14079848438546226608:Unit:=()
noncomputable def PySem.W.Fast.tw9599752968661041386:Unit:=()
noncomputable def PySem.W.Fast.tw13228402915407261840:Unit:=()
noncomputable def PySem.W.Fast.tw10485970323351135470:Unit:=()
noncomputable def PySem.W.Fast.tw10682341915939878520:Unit:=()
noncomputable def PySem.W.Fast.tw133150751447037810:Unit:=()
noncomputable def PySem.W.Fast.tw13330484093512933037:Unit:=()
noncomputable def PySem.W.Fast.tw3191274937980835604:Unit:=()
noncomputable def PySem.W.Fast.tw9325472012736090212:Unit:=()
noncomputable def PySem.W.Fast.tw3615549721023013019:Unit:=()
noncomputable def PySem.W.Fast.tw1173990640021847097:Unit:=()
noncomputable def PySem.W.Fast.tw10365875319188329993:Unit:=()
noncomputable def PySem.W.Fast.tw10131697623202699659:Unit:=()
noncomputable def PySem.W.Fast.tw1693899468666659447:Unit:=()
noncomputable def PySem.W.Fast.tw6240207457315944786:Unit:=()
noncomputable def PySem.W.Fast.tw57085781522757162:Unit:=()
noncomputable def PySem.W.Fast.tw12268668679929581151:Unit:=()
noncomputable def PySem.W.Fast.tw2964087793375774336:Unit:=()
noncomputable def PySem.W.Fast.tw13391623230554155662:Unit:=()
noncomputable def PySem.W.Fast.tw1093800383485907356:Unit:=()
noncomputable def PySem.W.Fast.tw11458638705460551141:Unit:=()
noncomputable def PySem.W.Fast.tw5628284431829954152:Unit:=()
noncomputable def PySem.W.Fast.tw17965870672579498394:Unit:=()
noncomputable def PySem.W.Fast.tw9515367422698262874:Unit:=()
noncomputable def PySem.W.Fast.tw15938999373844750626:Unit:=()
noncomputable def PySem.W.Fast.tw1308470437025747070:Unit:=()
noncomputable def PySem.W.Fast.tw6454361809792798739:Unit:=()
noncomputable def PySem.W.Fast.tw4197036740219952027:Unit:=()
noncomputable def PySem.W.Fast.tw16988955803028574685:Unit:=()
noncomputable def PySem.W.Fast.tw7371716822574044431:Unit:=()
noncomputable def PySem.W.Fast.tw10300809705098753434:Unit:=()
noncomputable def PySem.W.Fast.tw10358485792046926281:Unit:=()
noncomputable def PySem.W.Fast.tw11480217912597159212:Unit:=()
noncomputable def PySem.W.Fast.tw16370234857236867161:Unit:=()
noncomputable def PySem.W.Fast.tw11914166117604871605:Unit:=()
noncomputable def PySem.W.Fast.tw6239904739237615090:Unit:=()
noncomputable def PySem.W.Fast.tw15529450366963377625:Unit:=()
noncomputable def PySem.W.Fast.tw9258701516254048326:Unit:=()
noncomputable def PySem.W.Fast.tw7177599905654853372:Unit:=()
noncomputable def PySem.W.Fast.tw13098900288033009725:Unit:=()
open PySem PySem.W PyProof.Rows
set_option maxRecDepth 100000 in
set_option maxHeartbeats 0 in
theorem PySem.Challenge.cw_postroad_k72_a_turns_bags_holds : PySem.Challenge.rw_postroad_k72_a_turns_bags.Holds := by
 w_on;o_law;k_head;(case hw=>w_witness2)
 k_fill
 refine dW.walk (l:=atb) rfl rfl (λw h Y=>PySem.W.kIn_of Y) ?F
 case F=>
  intro w mg iz h qd G C0
  refine' dW.all_mk qd G C0 ?Ma ?RC ?Ov ?RG ?Sh ?QB ?Qd ?QT ?QU ?Mt ?PC ?Ao ?Ms ?PB ?xq ?Mx ?PG ?xu ?Mw ?PF ?uQ ?Mv ?PE ?xt ?Mu ?PD ?xr ?Mg ?RE ?Ox ?RI ?Sj ?QD ?Qf ?QY ?QZ ?MH ?PR ?Aq ?MK ?PU ?xF ?MG ?PQ ?xC ?ML ?PV ?xG ?MJ ?PT ?xE ?MI ?PS ?xD ?Mf ?RD ?Ow ?RH ?Si ?QC ?Qe ?QW ?QV ?QX ?MB ?PK ?Ap ?MF ?PO ?xB ?ME ?PN ?xA ?Mz ?PI ?xv ?MC ?PL ?xx ?MD ?PM ?xy ?MA ?PJ ?xw ?L_ ?RB ?Ou ?RF ?Sg ?QA ?Qc ?QI ?QK ?QJ ?QO ?QM ?QN ?QL ?Mi ?Po ?An ?Mm ?Pt ?xk ?Mo ?Pw ?xm ?Mq ?Py ?xo ?Mh ?Pn ?xg ?Mr ?Pz ?xp ?Mp ?Px ?xn ?Mn ?Pu ?xl ?Mk ?Pq ?xi ?Mj ?Pp ?xh ?Ml ?Pr ?xj ?M8 ?xJ ?M9 ?xK ?M7 ?xI ?MY ?xH ?M4 ?AI ?MW ?AD ?M5 ?AJ ?MX ?AE ?M3 ?AH ?Nh ?AQ ?Nb ?AN ?M6 ?AK ?Na ?AM ?M0 ?AG ?Nf ?AP ?Nd ?AO ?MZ ?AF ?MO ?Au ?MQ ?Aw ?MV ?AB ?MP ?Av ?MM ?Ar ?MS ?Ay ?MR ?Ax ?MU ?AA ?MT ?Az ?MN ?As ?M_ ?AL ?Me ?Qp ?Mc ?HV ?Mb ?Qo ?Md ?HW ?My ?PH ?Fw ?Uh ?Ue ?Ug ?Fi ?Fh ?Fj ?Tz ?TB ?TF ?TH ?TC ?TA ?TG ?Tx ?UK ?UQ ?UJ ?UC ?UI ?UE ?UT ?UL ?UW ?UR ?Ux ?UH ?UM ?UN ?UU ?UD ?UG ?US ?U1 ?Ui ?Uc ?SH ?Rp ?HH ?Qi ?Hc ?Im ?Hj ?Hv ?HD ?Hs ?Hk ?R2 ?NO ?Sp ?Hy ?Q9 ?NU ?Q' ?Ob ?OU ?O_ ?OS ?Og ?NV ?Q_ ?Oc ?OV ?Pa ?OT ?Oh ?De ?EW ?PY ?S8 ?PZ ?S9 ?ġ ?SA ?Sz ?Sy ?Sx ?Q5 ?SF ?SE ?SD ?Q6
  (case Ma=>k_is)
  (case RC=>k_is)
  (case Ov=>k_is)
  (case RG=>k_is)
  (case Sh=>k_is)
  (case QB=>k_is)
  (case Qd=>k_is)
  (case QT=>k_is)
  (case QU=>k_is)
  (case Mt=>k_is)
  (case PC=>k_is)
  (case Ao=>refine' ao.dT ?z ?y ?x;(case z=>k_is);(case y=>k_is);(case x=>k_is))
  (case Ms=>k_is)
  (case PB=>k_is)
  (case xq=>refine' ao.dT ?z ?y ?x;(case z=>k_is);(case y=>k_is);(case x=>k_is))
  (case Mx=>k_is)
  (case PG=>k_is)
  (case xu=>refine' ao.dT ?z ?y ?x;(case z=>k_is);(case y=>k_is);(case x=>k_is))
  (case Mw=>k_is)
  (case PF=>k_is)
  (case uQ=>refine' ao.dT ?z ?y ?x;(case z=>k_is);(case y=>k_is);(case x=>k_is))
  (case Mv=>k_is)
  (case PE=>k_is)
  (case xt=>refine' ao.dT ?z ?y ?x;(case z=>k_is);(case y=>k_is);(case x=>k_is))
  (case Mu=>k_is)
  (case PD=>k_is)
  (case xr=>refine' ao.dT ?z ?y ?x;(case z=>k_is);(case y=>k_is);(case x=>k_is))
  (case Mg=>k_is)
  (case RE=>k_is)
  (case Ox=>k_is)
  (case RI=>k_is)
  (case Sj=>k_is)
  (case QD=>k_is)
  (case Qf=>k_is)
  (case QY=>k_is)
  (case QZ=>k_is)
  (case MH=>k_is)
  (case PR=>k_is)
  (case Aq=>refine' ao.dT ?z ?y ?x;(case z=>k_is);(case y=>k_is);(case x=>k_is))
  (case MK=>k_is)
  (case PU=>k_is)
  (case xF=>refine' ao.dT ?z ?y ?x;(case z=>k_is);(case y=>k_is);(case x=>k_is))
  (case MG=>k_is)
  (case PQ=>k_is)
  (case xC=>refine' ao.dT ?z ?y ?x;(case z=>k_is);(case y=>k_is);(case x=>k_is))
  (case ML=>k_is)
  (case PV=>k_is)
  (case xG=>refine' ao.dT ?z ?y ?x;(case z=>k_is);(case y=>k_is);(case x=>k_is))
  (case MJ=>k_is)
  (case PT=>k_is)
  (case xE=>refine' ao.dT ?z ?y ?x;(case z=>k_is);(case y=>k_is);(case x=>k_is))
  (case MI=>k_is)
  (case PS=>k_is)
  (case xD=>refine' ao.dT ?z ?y ?x;(case z=>k_is);(case y=>k_is);(case x=>k_is))
  (case Mf=>k_is)
  (case RD=>k_is)
  (case Ow=>k_is)
  (case RH=>k_is)
  (case Si=>k_is)
  (case QC=>k_is)
  (case Qe=>k_is)
  (case QW=>k_is)
  (case QV=>k_is)
  (case QX=>k_is)
  (case MB=>k_is)
  (case PK=>k_is)
  (case Ap=>refine' ao.dT ?z ?y ?x;(case z=>k_is);(case y=>k_is);(case x=>k_is))
  (case MF=>k_is)
  (case PO=>k_is)
  (case xB=>refine' ao.dT ?z ?y ?x;(case z=>k_is);(case y=>k_is);(case x=>k_is))
  (case ME=>k_is)
  (case PN=>k_is)
  (case xA=>refine' ao.dT ?z ?y ?x;(case z=>k_is);(case y=>k_is);(case x=>k_is))
  (case Mz=>k_is)
  (case PI=>k_is)
  (case xv=>refine' ao.dT ?z ?y ?x;(case z=>k_is);(case y=>k_is);(case x=>k_is))
  (case MC=>k_is)
  (case PL=>k_is)
  (case xx=>refine' ao.dT ?z ?y ?x;(case z=>k_is);(case y=>k_is);(case x=>k_is))
  (case MD=>k_is)
  (case PM=>k_is)
  (case xy=>refine' ao.dT ?z ?y ?x;(case z=>k_is);(case y=>k_is);(case x=>k_is))
  (case MA=>k_is)
  (case PJ=>k_is)
  (case xw=>refine' ao.dT ?z ?y ?x;(case z=>k_is);(case y=>k_is);(case x=>k_is))
  (case L_=>k_is)
  (case RB=>k_is)
  (case Ou=>k_is)
  (case RF=>k_is)
  (case Sg=>k_is)
  (case QA=>k_is)
  (case Qc=>k_is)
  (case QI=>k_is)
  (case QK=>k_is)
  (case QJ=>k_is)
  (case QO=>k_is)
  (case QM=>k_is)
  (case QN=>k_is)
  (case QL=>k_is)
  (case Mi=>k_is)
  (case Po=>k_is)
  (case An=>refine' ao.dT ?z ?y ?x;(case z=>k_is);(case y=>k_is);(case x=>k_is))
  (case Mm=>k_is)
  (case Pt=>k_is)
  (case xk=>refine' ao.dT ?z ?y ?x;(case z=>k_is);(case y=>k_is);(case x=>k_is))
  (case Mo=>k_is)
  (case Pw=>k_is)
  (case xm=>refine' ao.dT ?z ?y ?x;(case z=>k_is);(case y=>k_is);(case x=>k_is))
  (case Mq=>k_is)
  (case Py=>k_is)
  (case xo=>refine' ao.dT ?z ?y ?x;(case z=>k_is);(case y=>k_is);(case x=>k_is))
  (case Mh=>k_is)
  (case Pn=>k_is)
  (case xg=>refine' ao.dT ?z ?y ?x;(case z=>k_is);(case y=>k_is);(case x=>k_is))
  (case Mr=>k_is)
  (case Pz=>k_is)
  (case xp=>refine' ao.dT ?z ?y ?x;(case z=>k_is);(case y=>k_is);(case x=>k_is))
  (case Mp=>k_is)
  (case Px=>k_is)
  (case xn=>refine' ao.dT ?z ?y ?x;(case z=>k_is);(case y=>k_is);(case x=>k_is))
  (case Mn=>k_is)
  (case Pu=>k_is)
  (case xl=>refine' ao.dT ?z ?y ?x;(case z=>k_is);(case y=>k_is);(case x=>k_is))
  (case Mk=>k_is)
  (case Pq=>k_is)
  (case xi=>refine' ao.dT ?z ?y ?x;(case z=>k_is);(case y=>k_is);(case x=>k_is))
  (case Mj=>k_is)
  (case Pp=>k_is)
  (case xh=>refine' ao.dT ?z ?y ?x;(case z=>k_is);(case y=>k_is);(case x=>k_is))
  (case Ml=>k_is)
  (case Pr=>k_is)
  (case xj=>refine' ao.dT ?z ?y ?x;(case z=>k_is);(case y=>k_is);(case x=>k_is))
  (case M8=>k_is)
  (case xJ=>refine' ao.dT ?z ?y ?x;(case z=>k_is);(case y=>k_is);(case x=>k_is))
  (case M9=>k_is)
  (case xK=>refine' ao.dT ?z ?y ?x;(case z=>k_is);(case y=>k_is);(case x=>k_is))
  (case M7=>k_is)
  (case xI=>refine' ao.dT ?z ?y ?x;(case z=>k_is);(case y=>k_is);(case x=>k_is))
  (case MY=>k_is)
  (case xH=>refine' ao.dT ?z ?y ?x;(case z=>k_is);(case y=>k_is);(case x=>k_is))
  (case M4=>k_is)
  (case AI=>refine' ao.dT ?z ?y ?x;(case z=>k_is);(case y=>k_is);(case x=>k_is))
  (case MW=>k_is)
  (case AD=>refine' ao.dT ?z ?y ?x;(case z=>k_is);(case y=>k_is);(case x=>k_is))
  (case M5=>k_is)
  (case AJ=>refine' ao.dT ?z ?y ?x;(case z=>k_is);(case y=>k_is);(case x=>k_is))
  (case MX=>k_is)
  (case AE=>refine' ao.dT ?z ?y ?x;(case z=>k_is);(case y=>k_is);(case x=>k_is))
  (case M3=>k_is)
  (case AH=>refine' ao.dT ?z ?y ?x;(case z=>k_is);(case y=>k_is);(case x=>k_is))
  (case Nh=>k_is)
  (case AQ=>refine' ao.dT ?z ?y ?x;(case z=>k_is);(case y=>k_is);(case x=>k_is))
  (case Nb=>k_is)
  (case AN=>refine' ao.dT ?z ?y ?x;(case z=>k_is);(case y=>k_is);(case x=>k_is))
  (case M6=>k_is)
  (case AK=>refine' ao.dT ?z ?y ?x;(case z=>k_is);(case y=>k_is);(case x=>k_is))
  (case Na=>k_is)
  (case AM=>refine' ao.dT ?z ?y ?x;(case z=>k_is);(case y=>k_is);(case x=>k_is))
  (case M0=>k_is)
  (case AG=>refine' ao.dT ?z ?y ?x;(case z=>k_is);(case y=>k_is);(case x=>k_is))
  (case Nf=>k_is)
  (case AP=>refine' ao.dT ?z ?y ?x;(case z=>k_is);(case y=>k_is);(case x=>k_is))
  (case Nd=>k_is)
  (case AO=>refine' ao.dT ?z ?y ?x;(case z=>k_is);(case y=>k_is);(case x=>k_is))
  (case MZ=>k_is)
  (case AF=>refine' ao.dT ?z ?y ?x;(case z=>k_is);(case y=>k_is);(case x=>k_is))
  (case MO=>k_is)
  (case Au=>refine' ao.dT ?z ?y ?x;(case z=>k_is);(case y=>k_is);(case x=>k_is))
  (case MQ=>k_is)
  (case Aw=>refine' ao.dT ?z ?y ?x;(case z=>k_is);(case y=>k_is);(case x=>k_is))
  (case MV=>k_is)
  (case AB=>refine' ao.dT ?z ?y ?x;(case z=>k_is);(case y=>k_is);(case x=>k_is))
  (case MP=>k_is)
  (case Av=>refine' ao.dT ?z ?y ?x;(case z=>k_is);(case y=>k_is);(case x=>k_is))
  (case MM=>k_is)
  (case Ar=>refine' ao.dT ?z ?y ?x;(case z=>k_is);(case y=>k_is);(case x=>k_is))
  (case MS=>k_is)
  (case Ay=>refine' ao.dT ?z ?y ?x;(case z=>k_is);(case y=>k_is);(case x=>k_is))
  (case MR=>k_is)
  (case Ax=>refine' ao.dT ?z ?y ?x;(case z=>k_is);(case y=>k_is);(case x=>k_is))
  (case MU=>k_is)
  (case AA=>refine' ao.dT ?z ?y ?x;(case z=>k_is);(case y=>k_is);(case x=>k_is))
  (case MT=>k_is)
  (case Az=>refine' ao.dT ?z ?y ?x;(case z=>k_is);(case y=>k_is);(case x=>k_is))
  (case MN=>k_is)
  (case As=>refine' ao.dT ?z ?y ?x;(case z=>k_is);(case y=>k_is);(case x=>k_is))
  (case M_=>k_is)
  (case AL=>refine' ao.dT ?z ?y ?x;(case z=>k_is);(case y=>k_is);(case x=>k_is))
  (case Me=>k_is)
  (case Qp=>k_is)
  (case Mc=>k_is)
  (case HV=>k_is)
  (case Mb=>k_is)
  (case Qo=>k_is)
  (case Md=>k_is)
  (case HW=>k_is)
  (case My=>k_is)
  (case PH=>k_is)
  (case Fw=>refine' ao.dT ?z ?y ?x;(case z=>k_is);(case y=>k_is);(case x=>k_is))
  (case Uh=>k_exc)
  (case Ue=>k_exc)
  (case Ug=>k_exc)
  (case Fi=>decide+kernel)
  (case Fh=>decide+kernel)
  (case Fj=>decide+kernel)
  (case Tz=>k_is)
  (case TB=>k_is)
  (case TF=>k_is)
  (case TH=>k_is)
  (case TC=>k_is)
  (case TA=>k_is)
  (case TG=>k_is)
  (case Tx=>k_is)
  (case UK=>k_is)
  (case UQ=>k_is)
  (case UJ=>k_is)
  (case UC=>k_is)
  (case UI=>k_is)
  (case UE=>k_is)
  (case UT=>k_is)
  (case UL=>k_is)
  (case UW=>k_is)
  (case UR=>k_is)
  (case Ux=>k_is)
  (case UH=>k_is)
  (case UM=>k_is)
  (case UN=>k_is)
  (case UU=>k_is)
  (case UD=>k_is)
  (case UG=>k_is)
  (case US=>k_is)
  (case U1=>k_is)
  (case Ui=>decide+kernel)
  (case Uc=>decide+kernel)
  (case SH=>k_is)
  (case Rp=>k_is)
  (case HH=>k_is)
  (case Qi=>k_is)
  (case Hc=>k_is)
  (case Im=>k_is)
  (case Hj=>k_is)
  (case Hv=>k_is)
  (case HD=>k_is)
  (case Hs=>k_is)
  (case Hk=>k_is)
  (case R2=>k_is)
  (case NO=>k_is)
  (case Sp=>k_is)
  (case Hy=>k_is)
  (case Q9=>decide+kernel)
  (case NU=>k_is)
  (case Q'=>k_is)
  (case Ob=>k_is)
  (case OU=>k_is)
  (case O_=>k_is)
  (case OS=>k_is)
  (case Og=>k_is)
  (case NV=>k_is)
  (case Q_=>k_is)
  (case Oc=>k_is)
  (case OV=>k_is)
  (case Pa=>k_is)
  (case OT=>k_is)
  (case Oh=>k_is)
  (case De=>k_is)
  (case EW=>k_is)
  (case PY=>k_is)
  (case S8=>k_is)
  (case PZ=>k_is)
  (case S9=>k_is)
  (case ġ=>k_is)
  (case SA=>k_is)
  (case Sz=>k_is)
  (case Sy=>k_is)
  (case Sx=>k_is)
  (case Q5=>decide+kernel)
  (case SF=>k_is)
  (case SE=>k_is)
  (case SD=>k_is)
  (case Q6=>decide+kernel)
