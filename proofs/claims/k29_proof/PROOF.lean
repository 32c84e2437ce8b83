import PyProof.Rows.All
import Wide.All
import OpenK.AllK
import Wide.FinOn
import Lean
import PyProof.EqAt
import PyProof.EqKinds
import PyProof.TupleCall
import PySem.Syntax
import KE.KNestM
import KE.KLam
import PyProof.NeKinds
import PyProof.IsRules
import PyProof.Rows.StrRev
import KE.KSortTup
import PyProof.Rows.ZipGen
import KE.KRevIter
import KE.KDictList
import KE.KIntText
import PyProof.Rows.StrNews
import PyProof.Rows.StrJoin2
import PyProof.Rows.FStr
import PyProof.StrWalks
import PyProof.StrLawsTight
import KE.KSort
import PyProof.Rows.SetFrom
import KE.KDictSum
import PyProof.ExcInit
import PyProof.ExcClass3
import PyProof.ExcBaseAll.ValueError
import PyProof.ExcAttrAll.ValueError
import PyProof.ExcArgsOwn
import PySem.SetOps
import PyProof.TupleOfGen
import PyProof.MinMaxWalk
import PyProof.FactsAll.tuple_2
import KE.KMinBuiltin
import PyProof.Rows.CallKwBuiltin
import PyProof.DictUpdate
import KE.KDictOf
import PyProof.DictItems
import KE.KPairComp
import KE.KEqDict
import PySem.Challenge.RW_pactboards_k29_whole_numbers_of_stands
local macro_rules|`(tactic| nofun)=>`(tactic| decide +kernel)
local macro_rules|`(tactic| ext)=>`(tactic| first|lia|omega)
set_option compiler.extract_closed false
set_option genSizeOf false
set_option Elab.async false
set_option linter.all false
set_option maxRecDepth 100000
set_option maxHeartbeats 4000000
open And renaming intro->aB
open Array renaming forIn_toList->gB,getElem?_eq_getElem->sw,getElem?_eq_none->iZ,getElem?_toList->eR,length_toList->cP,toList->BD
open Bool renaming and_eq_true->bu,and_false->zN,decide_and->m_,eq_iff_iff->yY,false_and->si,false_eq_true->aL,false_ne_true->aY,false_or->BI,not_eq_true'->pO,not_false->h9,not_true->cU,or_eq_false_iff->nU,or_eq_true->ra
open Classical renaming byContradiction->qv,choose->iX,propDecidable->rb
open False renaming elim->dW
open ForInStep renaming yield->ml
open Int renaming emod_lt_of_pos->iQ,emod_nonneg->kY,le_antisymm->zM,le_trans->Fj,toNat_natCast->ba,toNat_of_nonneg->gi
open List renaming all_cons->cB,all_eq_true->d7,all_map->Co,any_cons->eD,any_eq_true->xS,append_assoc->bQ,append_nil->bI,concat_eq_append->uS,cons_append->ij,count_append->pS,dropLast_eq_take->uJ,drop_drop->zQ,drop_eq_getElem_cons->dJ,drop_length->xJ,drop_zero->sq,eq_nil_of_length_eq_zero->qW,eq_nil_or_concat->uR,ext_getElem?->fL,filterMap_cons->ou,filter_append->iH,filter_cons_of_neg->gp,filter_cons_of_pos->iR,filter_eq_nil_iff->ud,filter_map->zn,find?_cons->cE,find?_isSome->xo,flatMap_append->v4,flatMap_cons->md,flatten_cons->xh,foldl_append->pP,forIn_cons->kK,forIn_nil->nR,getD_eq_getElem?_getD->lK,getElem?_append_left->ax,getElem?_append_right->aS,getElem?_cons_zero->mO,getElem?_eq_getElem->ai,getElem?_eq_none->dh,getElem?_eq_some_iff->ac,getElem?_inj->fM,getElem?_map->ar,getElem?_of_mem->kE,getElem?_range->ip,getElem?_replicate->gh,getElem?_set_ne->af,getElem?_set_self->au,getElem?_take_of_lt->cZ,getElem?_zipWith->fC,getElem_mem->bY,getElem_toArray->kF,idxOf_cons->rh,idxOf_lt_length_iff->ce,isEmpty_iff->xO,length->eM,length_append->aH,length_cons->bC,length_drop->mJ,length_dropLast->vd,length_eq_zero_iff->mQ,length_erase_of_mem->tj,length_filter_le->kj,length_map->ae,length_nil->gI,length_range->xn,length_replicate->fB,length_set->cY,length_singleton->uH,length_take->bX,length_zipWith->kX,lookup->Fh,lookup_cons->xI,map->vh,map_append->bc,map_congr_left->dg,map_cons->aK,map_eq_nil_iff->vZ,map_map->dD,map_nil->mT,map_set->pQ,mem_append->aX,mem_append_left->cH,mem_append_right->bo,mem_cons->aP,mem_cons_of_mem->bw,mem_cons_self->cK,mem_filter->iC,mem_filterMap->lJ,mem_flatMap->mP,mem_iff_getElem?->bp,mem_map->bU,mem_map_of_mem->oA,mem_of_getElem?->aA,mem_of_mem_take->fN,mem_range->hV,mem_singleton->aJ,nil_append->rg,nodup_append->dN,nodup_cons->eL,nodup_nil->lM,not_mem_nil->cF,of_mem_zip->m8,range->cg,range'->Fk,range_succ->gJ,range_succ_eq_map->mW,replicate->bq,replicate_succ->kU,reverse_cons->fK,set_append_right->uM,set_getElem_self->uO,set_set->Ct,size_toArray->aF,sum_append->kL,sum_cons->gL,sum_nil->pR,take_append_of_le_length->gC,take_length->cT,take_of_length_le->mX,take_sublist->w9,take_succ->dQ,take_succ_eq_append_getElem->i9,zipIdx_cons->xM,zipIdx_nil->y_
open List.cons renaming inj->lD
open Nat renaming add_assoc->o9,add_zero->Fi,div_eq_of_lt->io,le_max_left->zO,le_max_right->zk,le_of_eq->Fe,le_of_lt->lw,le_of_not_lt->qQ,le_refl->av,le_succ->vU,le_succ_of_le->xK,le_trans->cS,lt_irrefl->cq,lt_of_le_of_lt->xl,lt_of_lt_of_le->a_,lt_of_sub_eq_succ->vg,lt_or_ge->Fl,lt_succ_of_lt->mn,lt_succ_self->kz,lt_trans->p0,mul_add_div->iF,mul_comm->im,mul_le_mul_right->oj,ne_of_gt->dj,ne_of_lt->bb,not_lt_zero->rV,pow_succ->ni,sub_self->fv,succ_mul->uN,testBit->rj,zero_add->uQ,zero_le->bx
open Nat.succ renaming inj->oz
open Ne renaming symm->bG
open Option renaming bind_eq_some_iff->mv,getD_none->pM,getD_some->fq,isNone_none->vk,isSome_iff_exists->sj,isSome_map->lR,isSome_some->oy,map_eq_some_iff->dC,map_some->du
open Option.some renaming inj->aE,injEq->sW
open PyProof.Rows renaming AllBare->lY,IntsAre->kZ,IsTup->yW,Subscript_->BG,callWith_type1->cW,envOfC->m9,kmb_tree->qV,slot_tuple_getitem->nw,subscriptTail->vO,subscriptTail_builtinR->xc,tail_any->yX,wpAny_notIn_heap->Ff
open PyProof.Rows.IntsAre renaming length->xk
open PySem renaming Addr->ao,Arguments->mj,Around->bv,BindsTo->rL,CmpOp->sX,DictEntry->fm,Expr->vR,FuncData->dG,Heap->bA,HeapKind->nC,IsItemIter->iu,IsItemIterOut->vX,IsPair->eS,IsPart->sO,IsTupleKey->BK,IsZip->lC,Keyword->kr,MeetsIn->xi,NameKind->fA,Operator->rK,Paired->kf,PassesOwn->sM,Result->BF,Scope->dR,Shared->am,Spec->eY,Stmt->fH,TriplesOk->sP,Value->ag,Within->BB,World->bE,ZipApart->mG,argBest->mV,assign->n8,assignEach->dE,atKey->iW,atKey_none_of_get->Cm,atKey_of_get->rR,attributeBase->dI,attributeErrorLeaves->zm,backToKw->rP,behindInMarks->iV,binaryOp->eZ,bindArgs->lA,bindC->wc,bindL->wa,bindSpecial->tm,bootBuiltins->cM,builtinLookup_eq_fast->o6,builtinsNs->n6,cLine->cA,call->vQ,callType_codes->uP,call_meets->uG,call_meetsIn->oi,callerA->k_,cellsFrom->dB,closureFor->oh,codeAmong->nE,codeAny->i6,codeAny_builtin->fW,codeAny_mono->n_,compareOp->cX,concat_meets->w_,defaultsOf->BO,dictSet->Ck,dictSetDefault->uL,entryOfKey->n5,entry_at->zc,eqIsQuiet->pN,eqIsQuiet_byValue->Cj,evalArgs_none->og,evalPart_none->vN,field->pz,firstArgMember->kA,foldedSetIterable->fk,getAttr?->zl,getItem->pL,getattributeRaised->mH,holding->kq,intItems->uI,intItems_at->yZ,intKind->pK,isInstance->BL,isSubtype_stop->mF,isSubtype_tuple_tuple->o0,keywordEach->mU,kt_code_dict_new->sS,letOwnedTupleGo->ox,mainGlobals->cC,mem_of_lookup->eI,model->aT,newExc->xj,noFill_tuple_add->sN,not_mem_keys_of_get->zL,numAt->nF,numAt_eq->y0,plainId_quiet->gz,pushCells->we,pushCells_keeps->tY,putAt->s_,pyIter->BE,pyNext->gD,rawInt->dF,relabel->i8,release->Cf,seqIndex_neg->rM,seqIndex_of->sY,seqItems?->kW,seq_tuple_add->vL,setField->zi,setItem->n9,sizeLine_eq->lx,size_of_entries->g9,sliceBounds->fD,slicePick->wd,slot_list_getitem->rN,spliced->Cd,standAt->wY,storedH->lc,swapsWith->ki,sysModules->bO,tupleKind->sL,tupleKind_room_in1->qR,typeLookup->kT,typeLookup_type->t6,typeOf->BH,unaryOp->Cg,valueAt->rQ,wpAny->aD,wpAny_Call_Name_kw->fJ,wpAny_Call_method0_late->nA,wpAny_Call_method_late->xg,wpAny_Dict_empty->Fg,wpAny_Name->BC,wpAny_assign_Name->Ce,wpAny_attempt->gw,wpAny_bind->ab,wpAny_callSpecial?_slot->bz,wpAny_call_entry->bR,wpAny_dictEntries->b_,wpAny_dictEpoch->fV,wpAny_dictFind_heap->p9,wpAny_eqBool_int->sK,wpAny_execs_nil->tX,wpAny_field->b8,wpAny_fieldsOf->pC,wpAny_forIn_list->iD,wpAny_getItem_heap->BJ,wpAny_getItem_list_neg->xf,wpAny_getItem_list_slice->vP,wpAny_handled->vT,wpAny_holding->bH,wpAny_isInstance->dk,wpAny_isOneOf_itemiter->om,wpAny_isOneOf_keyiter->xN,wpAny_letGo->gO,wpAny_loadPart'->g8,wpAny_mono->fI,wpAny_newFunctionEnv_cells->uF,wpAny_newObj_type->b9,wpAny_newTuple->uK,wpAny_nextOf_list_end->xR,wpAny_nextOf_list_item->oo,wpAny_notOrdered_dict->dY,wpAny_of_eq->pA,wpAny_onRaise->qp,wpAny_passesOwn->gZ,wpAny_pure->ah,wpAny_pyHash_int->Fd,wpAny_pyIter_enum->Cp,wpAny_pyIter_keyiter->zj,wpAny_pyIter_list->ig,wpAny_pyIter_slot->Cq,wpAny_pyIter_tuple->kg,wpAny_pyIter_zip->sR,wpAny_pyNext_list_end->xG,wpAny_pyNext_list_item->wZ,wpAny_ret_mkInt->Gd,wpAny_richCompare_same_room->t_,wpAny_rule->gu,wpAny_seqItems->cN,wpAny_sequenceKey->Ch,wpAny_setField->mE,wpAny_setField_rec->cQ,wpAny_specialOf->i7,wpAny_standAt->vJ,wpAny_throw->y8,wpAny_truthy_bool->fj,wpAny_tryCatch->iw,wpAny_tupleItemsOf->qS,wpAny_typeNameOfWhole_itemiter->gF,wpAny_typeNameOfWhole_keyiter->gP,wpAny_typeNameOf_itemiter->iG,wpAny_typeNameOf_keyiter->iY,wpAny_typeOf->ky,wpAny_updateDictKeys->py,wpAny_updateSeq->t5,wpAny_updateSeq_pair->pB
open PySem.Around renaming under_plainId->dZ
open PySem.Builtin.Builtins renaming bindParams->fT
open PySem.Builtin.Dict renaming dictSlotArgs->pD,entriesForEmpty->oB,keyAndDefault->o_,noArgs->rW,pairItems->qt,samePairs->qu,showsAll->e8,updateFrom->qc
open PySem.Builtin.Dict_items renaming ownedTupleFields->lT,ownedTupleIsFree->lU,ownsTuple->eJ,pairFromOwner->mr
open PySem.Builtin.Slice renaming sliceAdjust->kt,sliceApplied->oY,slicePlaces->gH
open PySem.Builtin.SmallTypes renaming nextOf->bj,ownedTupleHandOut->lL,ownedTupleIsFree->bM
open PySem.Builtin.Tuple renaming tupleExact->gU,tupleHashOf->dq,tupleItemsOf->oZ
open PySem.Calls renaming Name_function_global->rJ,callWith_builtin->gA,evalArgs_plain->nB,spliced_cons->oX,spliced_nil->pv
open PySem.Challenge renaming pw_pactboards_k29_whole_numbers_of_stands->iz
open PySem.F renaming args_dict_init_2->p_,args_dict_itemiterator_next_1->rf,args_dict_keyiterator_next_1->rS,args_tuple_add_2->lQ,args_tuple_iterator_next_1->sQ,args_zip_next_1->mN,entry_dict_init->qU,entry_dict_itemiterator_next->rX,entry_dict_keyiterator_next->su,entry_max->vn,entry_max_loop->iP,entry_tuple_add->lZ,entry_tuple_iterator_next->tf,entry_zip_next->ng,kind_max->vY,kt_called_dict->rY,plainAttrs_dict->qT,plainAttrs_list->so,plain_max->vm,plain_max_loop->cV,slot_dict_clear->zR,slot_dict_eq->t7,slot_dict_get->Cs,slot_dict_itemiterator_next->gK,slot_dict_items->zP,slot_dict_items_iter->vW,slot_dict_iter->BM,slot_dict_keyiterator_next->gW,slot_dict_len->Cn,slot_dict_setdefault->vV,slot_dict_setitem->xH,slot_enumerate_next->wg,slot_tuple_add->mD,slot_tuple_eq->lB,slot_tuple_hash->mK,slot_tuple_iterator_next->il,slot_zip_next->fP
open PySem.Heap renaming ExtBut->nQ,IsTuple->ua,SameBut->cz,get?_push_of_some->ak,get?_push_size->ay,get?_update_other->cI,get?_update_self->bJ,lt_size->aI,size_push->cu
open PySem.Heap.DictOfH renaming new->nS
open PySem.Heap.IsSliceOf renaming new->q_
open PySem.Heap.SameBut renaming update->bV
open PySem.NameKind renaming cell->ii,free->bK
open PySem.Obj renaming cls_mapFields->xL,data_mapDict->mR,data_mapDictKeys->cj,data_mapFields->lS,isFreed_of_dict->dM,isFreed_of_fields->ve,mapFields->Cr,mapSeq->px
open PySem.Paired renaming length->bZ,snoc->nt
open PySem.PassesOwn renaming never->mq
open PySem.ScopeKind renaming function->tZ
open PySem.SeqAt renaming EqAt->rO
open PySem.SeqAt.EqAt renaming int_int->sZ,int_str->sU,str_int->sV
open PySem.SetTable renaming below->qr
open PySem.Shared renaming TypeIs->gE,heap->ub
open PySem.Str renaming ofString->az
open PySem.Value renaming bool->df,builtin->l_,float->Cc,int->fZ,isInt->qo,isStrOf->zK,none->bF,ref->aV,str->iE,type->rH
open PySem.Value.type renaming inj->vf
open PySem.W renaming Frag->aj,KasT->y9,KatTups->wk,OpenLaw->wl,WalkO->xQ,cellsFrom_some->iO,codeHdIn->dX,codeHd_of_K->uc,codeIn->fR,findIn->w8,fnOf->cD,instObj->pZ,kas_sort->ma,kat_nil->wj,keepIn->dm,kia_one->cO,kitOne->fQ,kitx_dict->oW,kitx_list->oV,kitx_tuple->uE,kla_fn->xm,kla_obj->mM,lookIn->qO,methodObj->oU,mg_none_of->ck,mg_of->rT,nsIn->fG,plainGet->vK,tabObj->fS
open PySem.W.WData renaming int->Gc
open PySem.W.WShape renaming has->Ci
open PySem.Walks renaming list->vS
open Sum renaming inl->lm,inr->mh
open True renaming intro->eE
noncomputable section
noncomputable def aG:=@if_pos
noncomputable def aC:=@if_neg
noncomputable def aR:=@decide_eq_false
noncomputable def bB:=@decide_eq_true
noncomputable def bn:=@absurd
noncomputable def cR:=@congrArg
namespace L2
open PySem PySem.Spec PyProof.Rows
noncomputable abbrev Key:=Sum Int Str
def r_:Key->ag->Bool
 | .inl k,v=>qo k v
 | .inr x,v=>zK x v
def J4(w:bE):Key->Int
 | .inl k=>hashInt k
 | .inr x=>hashStr w x
theorem fF:∀{k:Key}{v:ag},r_ k v=true->(∃i t,k=lm i/\v=fZ i t)\/(∃x t,k=mh x/\v=iE x t)
 | .inl i,v,h=>by obtain⟨t,e⟩:=ag.isInt_shape (k:=i) (v:=v) h;exact .inl ⟨i,t,rfl,e⟩
 | .inr x,v,h=>by obtain⟨t,e⟩:=ag.isStrOf_shape (x:=x) (v:=v) h;exact .inr ⟨x,t,rfl,e⟩
theorem TJ(i:Int)(t:Tok):r_ (.inl i) (.int i t)=true:=by simp[r_,qo]
theorem QL(x:Str)(t:Tok):r_ (.inr x) (.str x t)=true:=by simp[r_,zK]
theorem OG(a b:Int):decide ((lm a:Key)=lm b)=(a == b):=by
 by_cases e:a=b
 ·subst e;simp
 ·have h:¬ (lm a:Key)=lm b:=λq=>e (lm.inj q);rw[aR h];exact (beq_eq_false_iff_ne.mpr e).symm
theorem We(a b:Str):decide ((mh a:Key)=mh b)=decide (a=b):=by
 by_cases e:a=b
 ·subst e;simp
 ·have h:¬ (mh a:Key)=mh b:=λq=>e (mh.inj q);rw[aR h,aR e]
theorem V6(a:Int)(b:Str):decide ((lm a:Key)=mh b)=false:=aR nofun
theorem QP(a:Str)(b:Int):decide ((mh a:Key)=lm b)=false:=aR nofun
def gG(prog:Program)(w:bE):PySem.KeyKind prog w Key where
 is:=r_
 hash:=J4 w
 inj:=λv a b l g=>by
  rcases fF l with ⟨i,t,rfl,rfl⟩|⟨x,t,rfl,rfl⟩
  ·rcases fF g with ⟨j,u,rfl,e⟩|⟨y,u,rfl,e⟩
   ·injection e with e1 _;rw[e1]
   ·exact nomatch e
  ·rcases fF g with ⟨j,u,rfl,e⟩|⟨y,u,rfl,e⟩
   ·exact nomatch e
   ·injection e with e1 _;rw[e1]
 byValue:=λk v h=>by rcases fF h with ⟨i,t,rfl,rfl⟩|⟨x,t,rfl,rfl⟩<;>rfl
 pyHash:=λc h=>by
  rcases fF c with ⟨i,t,rfl,rfl⟩|⟨x,t,rfl,rfl⟩
  ·exact Fd h
  ·exact wpAny_pyHash_str h
 eqBool:=λhu c h=>by
  rcases fF hu with ⟨i,t,rfl,rfl⟩|⟨x,t,rfl,rfl⟩
  ·rcases fF c with ⟨j,u,rfl,rfl⟩|⟨y,u,rfl,rfl⟩
   ·rw[OG]at h;exact sK h
   ·rw[V6]at h;exact sU i t y u _ _ _ _ h
  ·rcases fF c with ⟨j,u,rfl,rfl⟩|⟨y,u,rfl,rfl⟩
   ·rw[QP]at h;exact sV x t j u _ _ _ _ h
   ·rw[We]at h;exact wpAny_eqBool_str h
 «strs»:=λk x t v h=>by
  rcases fF h with ⟨i,u,rfl,e⟩|⟨y,u,rfl,e⟩
  ·exact nomatch e
  ·injection e with e1 _
   subst e1;cases v<;>rfl
theorem Sx(prog:Program)(w:bE)(i:Int)(t:Tok):(gG prog w).is (.inl i) (.int i t)=true:=TJ i t
theorem VY(prog:Program)(w:bE)(x:Str)(t:Tok):(gG prog w).is (.inr x) (.str x t)=true:=QL x t
inductive V where
 |non|bl (b:Bool)|int (i:Int)|str (x:Str)|byt (b:Array UInt8)|flt (b:UInt64)|ref (a:ao)|ty (n:String)
 deriving DecidableEq
noncomputable def RelV:V->ag->Prop
 | .non,u=>u=bF
 | .bl b,u=>u=df b
 | .int i,u=>∃t,u=fZ i t
 | .str x,u=>∃t,u=iE x t
 | .byt b,u=>∃t,u=ag.bytes b t
 | .flt b,u=>∃t,u=Cc b t
 | .ref a,u=>u=aV a
 | .ty n,u=>u=rH n
abbrev b7:List V->List ag->Prop:=kf RelV
theorem b7.length{xs:List V}{c:List ag}(r:b7 xs c):xs.length=c.length:=bZ r
theorem b7.get:∀{xs:List V}{c:List ag}{i:Nat}{x:V},b7 xs c->xs[i]?=some x->∃u,c[i]?=some u/\RelV x u
 |_,_,_,_,.nil,e=>by simp at e
 |_,_,0,_,.cons r _,e=>by simp at e;subst e;exact⟨_,rfl,r⟩
 |_,_,i+1,x,.cons _ t,e=>by obtain⟨u,h,g⟩:=b7.get (i:=i) (x:=x) t (by simpa using e);exact⟨u,by simpa using h,g⟩
theorem b7.set{x:V}{u:ag}(r:RelV x u):∀{xs:List V}{c:List ag}(i:Nat),b7 xs c->b7 (xs.set i x) (c.set i u)
 |_,_,_,.nil=>.nil
 |_,_,0,.cons _ t=>.cons r t
 |_,_,i+1,.cons q t=>.cons q (b7.set r i t)
theorem b7.append:∀{xs ys:List V}{c ws:List ag},b7 xs c->b7 ys ws->b7 (xs++ys) (c++ws)
 |_,_,_,_,.nil,s=>s
 |_,_,_,_,.cons r t,s=>.cons r (b7.append t s)
theorem b7.take:∀{xs:List V}{c:List ag}(n:Nat),b7 xs c->b7 (xs.take n) (c.take n)
 |_,_,0,_=>.nil
 |_,_,_+1,.nil=>.nil
 |_,_,n+1,.cons r t=>.cons r (b7.take n t)
theorem b7.drop:∀{xs:List V}{c:List ag}(n:Nat),b7 xs c->b7 (xs.drop n) (c.drop n)
 |_,_,0,r=>r
 |_,_,_+1,.nil=>.nil
 |_,_,n+1,.cons _ t=>b7.drop n t
def pi:Option V->Option ag->Prop
 |some v,some u=>RelV v u
 |none,none=>True
 |_,_=>False
def KV{κ:Type}:List (κ×V)->List (κ×ag)->Prop:=kf λ(p:κ×V)(q:κ×ag)=>p.1=q.1/\RelV p.2 q.2
def kV:Key->V
 | .inl i=>.int i
 | .inr x=>.str x
inductive HO where
 |lst (xs:List V)
 |tup (xs:List V)
 |dK (cx:List (Key×V))|dT (cx:List (List Key×V))
 |set (S:Int->Bool) (n:Nat)
 |ins (C dx:ao) (fs:List (Str×V))
 |own (x:ao)
 |xd (fs:List (Str×V))
 |met (f x:ao)
 |rng (lo hi:Int)
 |frz (o:Obj) (u:HO)
 |tbl (ps:Array ag)
 |ext (φ:bA->Prop)
noncomputable abbrev Hp:=ao->Option HO
noncomputable def ff(H:Hp)(a:ao)(o:HO):Hp:=λb=>if b=a then some o else H b
theorem kh{H:Hp}{a:ao}{o:HO}:ff H a o a=some o:=by unfold ff;rw[aG rfl]
theorem fO{H:Hp}{a b:ao}{o:HO}(h:b≠a):ff H a o b=H b:=by unfold ff;rw[aC h]
theorem R0{H:Hp}{a b:ao}{o u:HO}(h:H a=some o)(h':H b=some u)(d:o≠u):a≠b:=by intro e;subst e;rw[h]at h';exact d (aE h')
theorem mI{H:Hp}{a b:ao}{o:HO}(h:H a=some o)(h':H b=none):a≠b:=by intro e;subst e;rw[h]at h';cases h'
noncomputable def km(h:bA)(a:ao)(its:Array ag):Prop:=∃o,h.get? a=some o/\o.cls=.type "tuple"/\(∃n,o.data=.seq its n)/\o.dict=none
theorem km.is{h:bA}{a:ao}{its:Array ag}(p:km h a its):yW h a its:=let ⟨o,e,c,d,_⟩:=p;⟨o,e,c,d⟩
theorem km.lt{h:bA}{a:ao}{its:Array ag}(p:km h a its):a < h.objs.size:=p.is.lt
theorem km.new(h:bA)(its:Array ag):km (h.push { cls:=.type "tuple",data:=.seq its }) h.objs.size its:=⟨_,ay _ rfl,rfl,⟨_,rfl⟩,rfl⟩
section
variable(P:Program)(w:bE)
def eU(H:Hp)(h:bA)(a:ao):HO->Prop
 | .lst xs=>xs.length<=sizeLine/\∃(its:List ag)(n:Nat),b7 xs its/\h.get? a=some { cls:=.type "list",data:=.seq its.toArray n }
 | .tup xs=>xs.length<=sizeLine/\∃its:List ag,b7 xs its/\km h a its.toArray
 | .dK cx=>cx.length<=sizeLine/\(a == bO)=false/\∃g,KV cx g/\h.DictOf (gG P w) a g
 | .dT cx => cx.length <= sizeLine /\ (a == bO) = false /\ ∃xs : List (List Key×ao×ag),
   kf (λ(p:List Key×V)(q:List Key×ao×ag)=>p.1=q.1/\H q.2.1=some (.tup (p.1.map kV))/\RelV p.2 q.2.2) cx xs /\
   ∃o E ep,h.get? a=some o/\o.ExactDict/\o.data=.dict E ep/\E.toList=xs.map (n5 (sL (gG P w)))/\(xs.map (·.1)).Nodup
 | .set S n=>h.SetOf (pK P w) a S n
 | .ins C dx fs => H dx = some (.own a) /\ fs.length <= 1000 /\ dx ≠ a /\ h.get? a = some (pZ C dx) /\
   ∃c,h.Ns1 dx c/\(∀f,pi (fs.lookup f) (c f))/\BB c (fs.map (·.1))
 | .own _=>∃o,h.get? a=some o
 | .xd fs=>∃c,h.Ns1 a c/\∀f,pi (fs.lookup f) (c f)
 | .rng lo hi=>∃t u v,h.get? a=some { cls:=.type "range",data:=.fields #[.int lo t,.int hi u,.int 1 v] }
 | .frz o u=>h.get? a=some o/\eU H h a u
 | .tbl ps=>h.get? a=some { cls:=.none,data:=.fields ps }
 | .met f x=>h.get? a=some (oU (.ref f) (.ref x))
 | .ext φ=>φ h/\(∃o,h.get? a=some o)/\∀B l:bA,φ B->(∀o,B.get? a=some o->l.get? a=some o)->φ l
def nI(H:Hp)(h:bA):Prop:=∀a o,H a=some o->eU P w H h a o
end
section
variable{P:Program}{w:bE}{H H':Hp}{h h':bA}{a:ao}{o:HO}
theorem eU.lt(x:eU P w H h a o):a < h.objs.size:=by
 cases o with
 |lst xs=>obtain⟨_,_,_,_,e⟩:=x;exact aI e
 |tup xs=>obtain⟨_,_,_,p⟩:=x;exact p.lt
 |dK cx=>obtain⟨_,_,_,_,o,_,_,e,_⟩:=x;exact aI e
 |dT cx=>obtain⟨_,_,_,_,o,_,_,e,_⟩:=x;exact aI e
 |set S n=>obtain⟨o,_,_,_,e,_⟩:=x;exact aI e
 |ins C dx fs=>obtain⟨_,_,_,e,_⟩:=x;exact aI e
 |own y=>obtain⟨_,e⟩:=x;exact aI e
 |xd fs=>obtain⟨_,⟨_,_,_,e,_⟩,_⟩:=x;exact aI e
 |rng lo hi=>obtain⟨_,_,_,e⟩:=x;exact aI e
 |frz ob u=>obtain⟨e,_⟩:=x;exact aI e
 |tbl ps=>exact aI (show h.get? a=some _ from x)
 |met f y=>exact aI (show h.get? a=some _ from x)
 |ext φ=>obtain⟨_,⟨_,e⟩,_⟩:=x;exact aI e
theorem kf.mapP{α β:Type}{F G:α->β->Prop}:∀{l₁:List α}{l₂:List β},kf F l₁ l₂->(∀a b,F a b->G a b)->kf G l₁ l₂
 |_,_,.nil,_=>.nil
 |_,_,.cons r t,f=>.cons (f _ _ r) (kf.mapP t f)
theorem eU.stay(x:eU P w H h a o)(k:∀b u,(b=a\/H b=some (.own a))->h.get? b=some u->h'.get? b=some u)
  (L:∀b,H b=some (.own a)->H' b=some (.own a)) (J:∀b xs,H b=some (.tup xs)->H' b=some (.tup xs)):eU P w H' h' a o:=by
 induction o with
 |lst xs=>obtain⟨z,its,n,r,e⟩:=x;exact⟨z,its,n,r,k _ _ (.inl rfl) e⟩
 |tup xs=>obtain⟨z,its,r,g,e,c⟩:=x;exact⟨z,its,r,g,k _ _ (.inl rfl) e,c⟩
 |dK cx=>obtain⟨z,y,G,r,g,l,ep,e,c⟩:=x;exact⟨z,y,G,r,g,l,ep,k _ _ (.inl rfl) e,c⟩
 |dT cx=>
  obtain⟨z,y,xs,r,g,l,ep,e,c⟩:=x;exact⟨z,y,xs,kf.mapP r λp q z=>⟨z.1,J _ _ z.2.1,z.2.2⟩,g,l,ep,k _ _ (.inl rfl) e,c⟩
 |set S n=>obtain⟨g,l,ep,t,e,c⟩:=x;exact⟨g,l,ep,t,k _ _ (.inl rfl) e,c⟩
 |ins C dx fs=>
  obtain⟨d,z,I,e,E,⟨B,l,ep,O,c⟩,r⟩:=x;exact⟨L _ d,z,I,k _ _ (.inl rfl) e,E,⟨B,l,ep,k _ _ (.inr d) O,c⟩,r⟩
 |own y=>obtain⟨g,e⟩:=x;exact⟨g,k _ _ (.inl rfl) e⟩
 |xd fs=>obtain⟨E,⟨B,l,ep,e,c⟩,r⟩:=x;exact⟨E,⟨B,l,ep,k _ _ (.inl rfl) e,c⟩,r⟩
 |rng lo hi=>obtain⟨t,u,v,e⟩:=x;exact⟨t,u,v,k _ _ (.inl rfl) e⟩
 |frz g u ih=>obtain⟨e,q⟩:=x;exact⟨k _ _ (.inl rfl) e,ih q⟩
 |tbl ps=>
  have e:h.get? a=some { cls:=.none,data:=.fields ps }:=x
  show h'.get? a=some { cls:=.none,data:=.fields ps };exact k a _ (.inl rfl) e
 |met f y=>
  have e:h.get? a=some (oU (.ref f) (.ref y)):=x
  show h'.get? a=some (oU (.ref f) (.ref y));exact k a _ (.inl rfl) e
 |ext φ=>obtain⟨p,⟨o,e⟩,st⟩:=x;exact⟨st _ _ p λo q=>k _ _ (.inl rfl) q,⟨o,k _ _ (.inl rfl) e⟩,st⟩
theorem nI.lt(x:nI P w H h)(e:H a=some o):a < h.objs.size:=(x a o e).lt
theorem nI.fresh(x:nI P w H h)(e:h.objs.size<=a):H a=none:=by
 cases q:H a with
 |none=>rfl
 |some u=>exact bn (a_ (x.lt q) e) (cq _)
theorem nI.kept(x:nI P w H h)(k:∀b u,h.get? b=some u->h'.get? b=some u):nI P w H h':=λa o e=>
 (x a o e).stay (λb u _ q=>k b u q) (λ_ q=>q) λ_ _ q=>q
theorem nI.laid(x:nI P w H h)(k:∀b u,h.get? b=some u->h'.get? b=some u)(B:h.objs.size<=a)(new:eU P w (ff H a o) h' a o):nI P w (ff H a o) h':=λb u e=>by
 have g:=x.fresh B;by_cases l:b=a
 ·subst l;rw[kh]at e;cases e;exact new
 ·rw[fO l]at e;exact (x b u e).stay (λc v _ q=>k c v q) (λc q=>by rw[fO (mI q g)];exact q) λc xs q=>by rw[fO (mI q g)];exact q
end
noncomputable def Rd(H:Hp)(a:ao)(u:HO):Prop:=H a=some u\/∃o,H a=some (.frz o u)
theorem Rd.ok{P:Program}{w:bE}{H:Hp}{h:bA}{a:ao}{u:HO}(r:Rd H a u)(x:nI P w H h):eU P w H h a u:=by
 rcases r with r|⟨o,r⟩
 ·exact x a u r
 ·obtain⟨_,q⟩:=x a _ r;exact q
noncomputable def DV:Option HO->Prop
 |some (.lst _)=>True
 |some (.dK _)=>True
 |some (.dT _)=>True
 |some (.set _ _)=>True
 |some (.ins _ _ _)=>True
 |some (.ext _)=>True
 |_=>False
section
variable{P:Program}{w:bE}{H:Hp}{h h':bA}{x e:ao}{o':HO}
theorem nI.write(ok:nI P w H h)(B:DV (H x))(J:e=x\/H e=some (.own x))(k:∀b u,b≠e->h.get? b=some u->h'.get? b=some u)(G:∃u,h'.get? e=some u)
  (new:eU P w (ff H x o') h' x o'):nI P w (ff H x o') h':=λb u q=>by
 have l:∀c y,H c=some (.own y)->c≠x:=λc y r z=>by subst z;rw[r]at B;exact B
 have o:∀c xs,H c=some (.tup xs)->c≠x:=λc xs r z=>by subst z;rw[r]at B;exact B
 by_cases E:b=x
 ·subst E;rw[kh]at q;cases q;exact new
 ·rw[fO E]at q;by_cases g:b=e
  ·have I : H b = some (.own x) := by
     rcases J with z|z
     ·exact bn (g.trans z) E
     ·rw[g];exact z
   rw[q]at I;cases I;obtain⟨v,L⟩:=G;exact⟨v,by rw[g];exact L⟩
  ·refine (ok b u q).stay (λc v C r=>k c v ?_ r) (λc r=>by rw[fO (l c b r)];exact r) λc xs r=>by rw[fO (o c xs r)];exact r
   rcases C with rfl|C
   ·exact g
   ·rintro rfl
    rcases J with z|z
    ·exact l c b C z
    ·rw[C]at z;cases z;exact E rfl
end
structure Un(fs ex:List ao)(H H':Hp)(h h':bA):Prop where
 keep:∀b o,h.get? b=some o->H b=none->b∉fs->b∉ex->h'.get? b=some o
 slot:∀b o,h.get? b=some o->H b=none->b∈fs->b∉ex->∃sl,h'.get? b=some { o with slots:=sl }
 free:∀b o,h.get? b=some o->H b=none->b∉ex->H' b=none
 there:∀b o,h.get? b=some o->b∉ex->∃o',h'.get? b=some o'
 tups:∀b xs,H b=some (.tup xs)->H' b=some (.tup xs)
 frzs:∀b o u,H b=some (.frz o u)->H' b=some (.frz o u)
 tbls:∀b ps,H b=some (.tbl ps)->∃more,H' b=some (.tbl (ps++more))
section
variable{fs e7 ex ft:List ao}{H H1 H2:Hp}{h h1 h2 h':bA}{a x e:ao}{o:HO}
theorem Un.any(u:Un fs ex H H1 h h1){b:ao}{c:Obj}(q:h.get? b=some c)(n:H b=none)(g:b∉ex):∃v,h1.get? b=some { c with slots:=v }:=by
 by_cases l:b∈fs
 ·exact u.slot b c q n l g
 ·exact⟨c.slots,u.keep b c q n l g⟩
theorem Un.kept(k:∀b u,h.get? b=some u->h'.get? b=some u):Un fs ex H H h h':=
 ⟨λb c q _ _ _=>k b c q,λb c q _ _ _=>⟨c.slots,k b c q⟩,λ_ _ _ n _=>n,λb c q _=>⟨c,k b c q⟩,λ_ _ q=>q,λ_ _ _ q=>q,λ_ g q=>⟨#[],by rw[q];simp⟩⟩
theorem Un.refl:Un fs ex H H h h:=Un.kept λ_ _ q=>q
theorem Un.laid(k:∀b u,h.get? b=some u->h'.get? b=some u)(g:h.objs.size<=a)(c:H a=none):Un fs ex H (ff H a o) h h' where
 keep:=λb u q _ _ _=>k b u q
 slot:=λb u q _ _ _=>⟨u.slots,k b u q⟩
 free:=λb u q n _=>by rw[fO (bb (a_ (aI q) g))];exact n
 there:=λb u q _=>⟨u,k b u q⟩
 tups:=λb xs q=>by rw[fO (mI q c)];exact q
 frzs:=λb u xs q=>by rw[fO (mI q c)];exact q
 tbls:=λb l q=>⟨#[],by rw[fO (mI q c),q];simp⟩
theorem Un.write(g:DV (H x))(E:e=x\/H e=some (.own x))(k:∀b u,b≠e->h.get? b=some u->h'.get? b=some u)(v:∃u,h'.get? e=some u):Un fs ex H (ff H x o) h h':=by
 have B:∀b,H b=none->b≠x:=λb n z=>by subst z;rw[n]at g;exact g
 have C:∀b,H b=none->b≠e:=λb n z=>by
  subst z;rcases E with r|r
  ·exact B b n r
  ·rw[n]at r;cases r
 have l:∀b u,H b=some u->¬ DV (some u)->b≠x:=λb u q nm z=>by subst z;rw[q]at g;exact nm g
 refine⟨λb u q n _ _=>k b u (C b n) q,λb u q n _ _=>⟨u.slots,k b u (C b n) q⟩,λb u q n _=>by rw[fO (B b n)];exact n,λb u q _=>?_,
  λb xs q=>by rw[fO (l b _ q λz=>z)];exact q,λb u xs q=>by rw[fO (l b _ q λz=>z)];exact q,λb G q=>⟨#[],by rw[fO (l b _ q λz=>z),q];simp⟩⟩
 by_cases c:b=e
 ·subst c;exact v
 ·exact⟨u,k b u c q⟩
end
noncomputable def trk(h:bA)(H:Hp):List ao:=(cg h.objs.size).filter λa=>(H a).isSome
def nZ(h:bA)(H:Hp):bA:=PySem.W.hideAll h (trk h H)
theorem M9(h:bA)(H:Hp):(nZ h H).objs.size=h.objs.size:=PySem.W.hideAll_size _ _
theorem L5{h:bA}{H:Hp}{b:ao}{o:Obj}(e:h.get? b=some o)(n:H b=none):(nZ h H).get? b=some o:=
 PySem.W.hideAll_get _ e λc=>by have q:(H b).isSome=true:=(iC.mp c).2;rw[n]at q;simp at q
theorem Lv{h:bA}{H:Hp}{b:ao}{o:Obj}(e:(nZ h H).get? b=some o):h.get? b=some o/\H b=none:=by
 have c:h.get? b=some o:=PySem.W.of_hideAll (trk h H) e;refine⟨c,?_⟩;cases q:H b with
 |none=>rfl
 |some x=>
  have g:b∈trk h H:=iC.mpr ⟨hV.mpr (aI c),by simp[q]⟩;have z:(nZ h H).get? b=none:=PySem.W.hideAll_none (trk h H) g;rw[z]at e;cases e
noncomputable def lF(g h:bA)(L:ao):List (ao×Obj):=(cg h.objs.size).filterMap λa=>if a=L\/(g.get? a).isSome=true then none else (h.get? a).map λo=>(a,o)
theorem LQ{g h:bA}{L a:ao}{o:Obj}(q:a≠L)(l:g.get? a=none)(c:h.get? a=some o):(a,o)∈lF g h L:=
 lJ.mpr ⟨a,hV.mpr (aI c),by simp[q,l,c]⟩
theorem Sy{g h:bA}{L:ao}{p:ao×Obj}(l:p∈lF g h L):p.1≠L/\g.get? p.1=none/\h.get? p.1=some p.2:=by
 obtain⟨b,_,e⟩:=lJ.mp l;split at e
 ·cases e
 ·rename_i c;cases q:h.get? b with
  |none=>rw[q]at e;simp at e
  |some u=>
   rw[q]at e;simp only[du,sW]at e;subst e;refine⟨λz=>c (.inl z),?_,q⟩
   show g.get? b=none;cases r:g.get? b with
   |none=>rfl
   |some v=>exact (c (.inr (by simp[r]))).elim
def rest(g h:bA)(L d:ao):List (ao×Obj):=(lF g h L).filter λp=>decide (p.1≠d)
theorem OF{g h:bA}{L:ao}:News g L h (lF g h L):=λp l=>let ⟨a,b,c⟩:=Sy l;⟨c,a,b⟩
structure Mod(K:aj)(mg:Str->Option ag)(base:bA):Prop where
 kin:K.In base
 glob:base.Ns cC mg
 blt:∃mb,base.Ns n6 mb/\∀x:Str,x≠"__name__"->mb x=cM x
 nolimit:base.NoLimit
structure Cx where
 prog:Program
 w:bE
 K:aj
 mg:Str->Option ag
 base:bA
 A:bv
 N:List Str
 s₀:am
 H₀:Hp
 env:Env
 outer:List Env
 stack:List Env
 ex:List ao
 fn:Str->Bool
 calm:Bool
 pn:List (ao×Obj)
 xe:ag->am->Prop
noncomputable def fY(l:List Env):List ao:=l.filterMap (·.frame)
abbrev Cx.fs(X:Cx):List ao:=fY X.outer
noncomputable def JB(sc:dR)(x:Str):Prop:=sc.names.lookup x=some .local\/sc.names.lookup x=some .cell\/sc.names.lookup x=some .free
noncomputable def Loc(sc:dR)(x:Str):Prop:=sc.names.lookup x=some .local\/sc.names.lookup x=some .cell
noncomputable def Look(env:Env)(h:bA)(m:Str->Option ag)(x:Str)(u:ag):Prop:=
 (env.kindOf x=some .local/\m x=some u)\/((env.kindOf x=some .cell\/env.kindOf x=some .free)/\∃c,env.cells.lookup x=some c/\h.IsCell c (some u))
structure Cx.Ok(X:Cx):Prop where
 mod:Mod X.K X.mg X.base
 kind:X.env.scope.kind=.function
 glob:X.env.globals=cC
 blt:X.env.builtins=n6
 above:X.s₀.heap.objs.size<=X.env.locals
 inj:∀x y c,X.env.cells.lookup x=some c->X.env.cells.lookup y=some c->x=y
 has:∀x,(X.env.kindOf x=some .cell\/X.env.kindOf x=some .free)->∃c,X.env.cells.lookup x=some c
 cab:∀x c,X.fn x=true->X.env.cells.lookup x=some c->X.s₀.heap.objs.size<=c
 hd:X.calm=true->X.A.handled=none
 frames:X.A.frames=some X.stack
 stk:X.stack=X.outer\/(X.stack=X.env::X.outer/\X.env.frame=some X.env.locals)
 exf:∀b∈X.ex,b≠X.env.locals/\∀x c,X.env.cells.lookup x=some c->c≠b
 bs:∀b o,X.base.get? b=some o->X.s₀.heap.get? b=some o/\X.H₀ b=none
 bsz:X.base.objs.size<=X.s₀.heap.objs.size
 noex:∀b o,X.base.get? b=some o->b∉X.ex
 exfs:∀b∈X.ex,b∉X.fs
 funs:X.s₀.heap.FunFrames X.base X.outer
 frf:∀b∈X.fs,X.H₀ b=none
structure Inv(X:Cx)(cp:List (ao×Obj))(σ:List (Option V))(H:Hp)(s:am):Prop where
 ok:X.Ok
 os:s.os=X.s₀.os
 bare:lY s.gens
 base:Un X.fs X.ex X.H₀ H X.s₀.heap s.heap
 loc:∃m,s.heap.Ns X.env.locals m/\∀(i:Nat)(x:Str)(v:V),X.N[i]?=some x->σ[i]?=some (some v)->JB X.env.scope x->∃u,RelV v u/\Look X.env s.heap m x u
 cell:∀x c,X.env.cells.lookup x=some c->∃v,s.heap.IsCell c v
 free:H X.env.locals=none
 freeC:∀x c,X.env.cells.lookup x=some c->H c=none
 pin:∀p∈X.pn++cp,s.heap.get? p.1=some p.2/\H p.1=none/\p.1≠X.env.locals/\p.1∉X.fs/\∀v,p.2.data≠.cell v
 hok:nI X.prog X.w H s.heap
 len:σ.length=X.N.length
section
variable{X:Cx}{cp:List (ao×Obj)}{σ:List (Option V)}{H H':Hp}{s:am}{h':bA}
theorem Cx.Ok.nofr(ok:X.Ok){b:ao}{o:Obj}(e:X.base.get? b=some o):b∉X.fs:=λc=>by have:=(ok.funs.mem c).1;rw[e]at this;cases this
theorem Inv.bs(I:Inv X cp σ H s):∀b o,X.base.get? b=some o->s.heap.get? b=some o/\H b=none:=λb o e=>
 ⟨I.base.keep b o (I.ok.bs b o e).1 (I.ok.bs b o e).2 (I.ok.nofr e) (I.ok.noex b o e),I.base.free b o (I.ok.bs b o e).1 (I.ok.bs b o e).2 (I.ok.noex b o e)⟩
theorem Inv.bk(I:Inv X cp σ H s):∀b o,X.base.get? b=some o->s.heap.get? b=some o:=λb o e=>(I.bs b o e).1
theorem Inv.mod(I:Inv X cp σ H s):Mod X.K X.mg X.base:=I.ok.mod
theorem Inv.kIn(I:Inv X cp σ H s):X.K.In s.heap:=I.ok.mod.kin.keeps I.bk
theorem Inv.fr(I:Inv X cp σ H s):∃m,Fr X.base X.env.locals s.heap m:=
 let ⟨m,hn,_⟩:=I.loc
 ⟨m,hn,I.bk,cS I.ok.bsz I.ok.above⟩
theorem Inv.lt(I:Inv X cp σ H s):X.env.locals < s.heap.objs.size:=let ⟨_,hn,_⟩:=I.loc;hn.lt
theorem Inv.sz(I:Inv X cp σ H s):X.s₀.heap.objs.size<=s.heap.objs.size:=cS I.ok.above (lw I.lt)
theorem Inv.nofs(I:Inv X cp σ H s){a:ao}(h:s.heap.objs.size<=a):a∉X.fs:=λg=>by obtain⟨_,o,c,_⟩:=I.ok.funs.mem g;exact bn (a_ (aI c) (cS I.sz h)) (cq _)
theorem Inv.cne(I:Inv X cp σ H s):∀x c,X.env.cells.lookup x=some c->c≠X.env.locals:=λx c e z=>by obtain⟨v,o,l,hd⟩:=I.cell x c e;obtain⟨m,⟨o',q,ep,g,h,_⟩,_⟩:=I.loc;rw[z,g]at l;cases l;rw[h]at hd;cases hd
theorem Inv.funs(I:Inv X cp σ H s):s.heap.FunFrames X.base X.outer:=by
 have all:∀(l:List Env),(∀b∈fY l,b∈X.fs)->X.s₀.heap.FunFrames X.base l->s.heap.FunFrames X.base l:=by
  intro l
  induction l with
  |nil=>intro _ _;trivial
  |cons env r ih=>
   intro q C;obtain⟨E,⟨L,o,c,B,v,hd⟩,u⟩:=C;have h:L∈X.fs:=q L (by unfold fY;rw[ou,c];exact cK);obtain⟨G,e⟩:=I.base.slot L o v (I.ok.frf L h) h λz=>I.ok.exfs L z h;exact⟨E,⟨L,_,c,B,e,hd⟩,ih (λb g=>q b (by unfold fY;rw[ou,c];exact bw _ g)) u⟩
 exact all X.outer (λ_ g=>g) I.ok.funs
theorem Inv.stack(I:Inv X cp σ H s):s.heap.FunFrames X.base X.stack:=by
 rcases I.ok.stk with e|⟨e,g⟩
 ·rw[e];exact I.funs
 ·rw[e];obtain⟨m,c,_⟩:=I.loc;refine .cons (by rw[I.ok.kind];decide) g c ?_ I.funs;exact bA.get?_none_of_le (cS I.ok.bsz I.ok.above)
theorem Inv.stkSub(I:Inv X cp σ H s):∀b∈fY X.stack,b∈X.env.locals::X.fs:=λb c=>by
 rcases I.ok.stk with e|⟨e,g⟩
 ·rw[e]at c;exact bw _ c
 ·rw[e]at c;unfold fY at c;rw[ou,g]at c;exact c
theorem Inv.stkFree(I:Inv X cp σ H s):∀b∈fY X.stack,H b=none:=λb c=>by
 rcases aP.mp (I.stkSub b c) with e|c
 ·rw[e];exact I.free
 ·obtain⟨_,o,g,_⟩:=I.ok.funs.mem c;exact I.base.free b o g (I.ok.frf b c) λz=>I.ok.exfs b z c
theorem Inv.step{g':Array GenState}{t':Nat}{d':Drawn}{ch:List ao}(I:Inv X cp σ H s)
  (B:∀b∈ch,(b∈X.ex\/X.s₀.heap.objs.size<=b)/\b≠X.env.locals/\(∀x c,X.env.cells.lookup x=some c->c≠b)/\∀p∈X.pn++cp,p.1≠b)
  (keep:∀b o,b≠X.env.locals->b∉X.fs->b∉ch->s.heap.get? b=some o->H b=none->h'.get? b=some o)
  (slot:∀b o,b≠X.env.locals->b∈X.fs->b∉ch->s.heap.get? b=some o->H b=none->∃sl,h'.get? b=some { o with slots:=sl }) (free:∀b o,b∉ch->s.heap.get? b=some o->H b=none->H' b=none)
  (there:∀b o,b∉ch->s.heap.get? b=some o->∃o',h'.get? b=some o')
  (tups:∀b xs,H b=some (.tup xs)->H' b=some (.tup xs)) (frzs:∀b o u,H b=some (.frz o u)->H' b=some (.frz o u)) (tbls:∀b U,H b=some (.tbl U)->∃more,H' b=some (.tbl (U++more)))
  (ns:∀m,s.heap.Ns X.env.locals m->h'.Ns X.env.locals m) (hok:nI X.prog X.w H' h') (hg:lY g'):
  Inv X cp σ H' { s with heap:=h',gens:=g',drawn:=d',toks:=t' }:=by
 have O:∀b o,X.s₀.heap.get? b=some o->b≠X.env.locals:=λb o e=>bb (a_ (aI e) I.ok.above);have E:∀b o,X.s₀.heap.get? b=some o->b∉X.ex->b∉ch:=λb o e g J=>by
  rcases (B b J).1 with z|z
  ·exact g z
  ·exact bn (a_ (aI e) z) (cq _)
 have C:∀x c,X.env.cells.lookup x=some c->∀v,s.heap.IsCell c v->h'.IsCell c v:=λx c e v pq1=>by
  obtain⟨o,L,hd⟩:=pq1;have h:c∉ch:=λz=>(B c z).2.2.1 x c e rfl;by_cases hc:c∈X.fs
  ·obtain⟨sl,q⟩:=slot c o (I.cne x c e) hc h L (I.freeC x c e);exact⟨_,q,hd⟩
  ·exact⟨o,keep c o (I.cne x c e) hc h L (I.freeC x c e),hd⟩
 refine⟨I.ok,I.os,hg,⟨λb o e n J g=>?_,λb o e n J g=>?_,λb o e n g=>?_,λb o e g=>?_,λb xs e=>tups b xs (I.base.tups b xs e),λb o xs e=>frzs b o xs (I.base.frzs b o xs e),λb U e=>?_⟩,?_,λx c e=>?_,?_,λx c e=>?_,λp hp=>?_,hok,I.len⟩
 ·exact keep b o (O b o e) J (E b o e g) (I.base.keep b o e n J g) (I.base.free b o e n g)
 ·obtain⟨sl,G⟩:=I.base.slot b o e n J g;obtain⟨Y,Q⟩:=slot b _ (O b o e) J (E b o e g) G (I.base.free b o e n g);exact⟨Y,Q⟩
 ·obtain⟨o',G⟩:=I.base.there b o e g;exact free b o' (E b o e g) G (I.base.free b o e n g)
 ·obtain⟨o',G⟩:=I.base.there b o e g;exact there b o' (E b o e g) G
 ·obtain⟨g,G⟩:=I.base.tbls b U e;obtain⟨c,Q⟩:=tbls b _ G;exact⟨g++c,by rw[Q,Array.append_assoc]⟩
 ·obtain⟨m,g,h⟩:=I.loc;refine⟨m,ns m g,λi x v G Q o=>?_⟩;obtain⟨u,r,l⟩:=h i x v G Q o;refine⟨u,r,?_⟩;rcases l with l|⟨k,c,e,z⟩
  ·exact .inl l
  ·exact .inr ⟨k,c,e,C x c e _ z⟩
 ·obtain⟨v,z⟩:=I.cell x c e;exact⟨v,C x c e v z⟩
 ·obtain⟨m,⟨o,_,_,L,_⟩,_⟩:=I.loc;exact free _ o (λz=>(B _ z).2.1 rfl) L I.free
 ·obtain⟨v,o,L,hd⟩:=I.cell x c e;exact free c o (λz=>(B c z).2.2.1 x c e rfl) L (I.freeC x c e)
 ·obtain⟨e,n,g,c,d⟩:=I.pin p hp;have h:p.1∉ch:=λz=>(B p.1 z).2.2.2 p hp rfl;exact⟨keep p.1 p.2 g c h e n,free p.1 p.2 h e n,g,c,d⟩
theorem Inv.un{t':Nat}(I:Inv X cp σ H s)(u:Un X.fs [] H H' s.heap h')(g:nI X.prog X.w H' h'):Inv X cp σ H' { s with heap:=h',toks:=t' }:=by
 obtain⟨m,⟨o,L,ep,v,r⟩,_⟩:=id I.loc;obtain⟨G,E⟩:=u.any v I.free (by simp);exact I.step (g':=s.gens) (d':=s.drawn) (ch:=[]) (λ_ z=>nomatch z) (λb o _ h _ e n=>u.keep b o e n h (by simp)) (λb o _ h _ e n=>u.slot b o e n h (by simp)) (λb o _ e n=>u.free b o e n (by simp)) (λb o _ e=>u.there b o e (by simp)) u.tups u.frzs u.tbls (λJ C=>by obtain⟨o',l,q,c,B⟩:=C;rw[v]at c;cases c;exact⟨_,l,q,E,B⟩) g I.bare
theorem Inv.call{g':Array GenState}{t':Nat}{d':Drawn}{ch:List ao}(I:Inv X cp σ H s)(u:Un (fY X.stack) ch H H' s.heap h')(q:nI X.prog X.w H' h')(L:lY g')
  (l:∀b∈ch,(b∈X.ex\/X.s₀.heap.objs.size<=b)/\b≠X.env.locals/\(∀x c,X.env.cells.lookup x=some c->c≠b)/\∀p∈X.pn++cp,p.1≠b):
  Inv X cp σ H' { s with heap:=h',gens:=g',drawn:=d',toks:=t' }:=by
 obtain⟨m,⟨o,Y,ep,E,r⟩,_⟩:=id I.loc;obtain⟨Q,v⟩:=u.any E I.free λz=>(l _ z).2.1 rfl;exact I.step (ch:=ch) l (λb o v O g e n=>u.keep b o e n (λz=>(aP.mp (I.stkSub b z)).elim v O) g) (λb o _ _ g e n=>u.any e n g) (λb o g e n=>u.free b o e n g) (λb o g e=>u.there b o e g) u.tups u.frzs u.tbls (λU J=>by obtain⟨o',B,C,h,G⟩:=J;rw[E]at h;cases h;exact⟨_,B,C,v,G⟩) q L
theorem Inv.turned{t':Nat}{g:ao}(I:Inv X cp σ H s)(k:∀b o,b≠g->s.heap.get? b=some o->h'.get? b=some o)(E:H g=none)(B:g≠X.env.locals)
  (Q:g∈X.ex\/X.s₀.heap.objs.size<=g) (O:∀x c,X.env.cells.lookup x=some c->c≠g) (L:∀p∈X.pn++cp,p.1≠g):Inv X cp σ H { s with heap:=h',toks:=t' }:=by
 have l:∀b u,H b=some u->b≠g:=λb u e z=>by rw[z,E]at e;cases e
 refine I.step (g':=s.gens) (d':=s.drawn) (ch:=[g]) (λb J=>?_) (λb o _ _ h e _=>k b o (λz=>h (by simp[z])) e) (λb o _ _ h e _=>⟨o.slots,k b o (λz=>h (by simp[z])) e⟩) (λ_ _ _ _ n=>n)
  (λb o h e=>⟨o,k b o (λz=>h (by simp[z])) e⟩) (λ_ _ e=>e) (λ_ _ _ e=>e) (λb Y e=>⟨#[],by rw[e];simp⟩) (λm G=>?_) (λb u e=>?_) I.bare
 ·have e:b=g:=by simpa using J
  subst e;exact⟨Q,B,O,L⟩
 ·obtain⟨o,U,ep,C,r⟩:=G;exact⟨o,U,ep,k _ o (bG B) C,r⟩
 ·refine (I.hok b u e).stay (λc v h q=>k c v ?_ q) (λ_ q=>q) λ_ _ q=>q;rcases h with z|z
  ·rw[z];exact l b u e
  ·exact l c _ z
theorem Inv.tok(I:Inv X cp σ H s)(t:Nat):Inv X cp σ H { s with toks:=t }:=I.un (h':=s.heap) (t':=t) Un.refl I.hok
theorem Inv.kept{t':Nat}(I:Inv X cp σ H s)(k:∀b u,s.heap.get? b=some u->h'.get? b=some u):Inv X cp σ H { s with heap:=h',toks:=t' }:=I.un (Un.kept k) (I.hok.kept k)
theorem Inv.laid{a:ao}{o:HO}{t':Nat}(I:Inv X cp σ H s)(k:∀b u,s.heap.get? b=some u->h'.get? b=some u)(c:s.heap.objs.size<=a)(new:eU X.prog X.w (ff H a o) h' a o):
  Inv X cp σ (ff H a o) { s with heap:=h',toks:=t' }:=I.un (Un.laid k c (I.hok.fresh c)) (I.hok.laid k c new)
theorem Inv.write{x e:ao}{o:HO}{t':Nat}(I:Inv X cp σ H s)(g:DV (H x))(h:e=x\/H e=some (.own x))(k:∀b u,b≠e->s.heap.get? b=some u->h'.get? b=some u)(c:∃u,h'.get? e=some u)
  (new:eU X.prog X.w (ff H x o) h' x o):Inv X cp σ (ff H x o) { s with heap:=h',toks:=t' }:=I.un (Un.write g h k c) (I.hok.write g h k c new)
theorem Inv.pins_of{c:List (ao×Obj)}(I:Inv X cp σ H s)(h:∀p∈c,s.heap.get? p.1=some p.2/\H p.1=none/\p.1≠X.env.locals/\p.1∉X.fs/\∀v,p.2.data≠.cell v):Inv X c σ H s:=
 ⟨I.ok,I.os,I.bare,I.base,I.loc,I.cell,I.free,I.freeC,λp g=>(aX.mp g).elim (λz=>I.pin p (cH _ z)) (h p),I.hok,I.len⟩
theorem Ko{N:List Str}(hN:N.Nodup){i j:Nat}{x:Str}(a:N[i]?=some x)(b:N[j]?=some x):i=j:=by obtain⟨l,g⟩:=ac.mp a;obtain⟨h,c⟩:=ac.mp b;exact (List.getElem_inj hN).mp (g.trans c.symm)
theorem Kx{M:Model}{A:bv}{E:ag->am->Prop}{i:Nat}{x:Str}{v:V}{u:ag}{Q:Unit->am->Prop}(I:Inv X cp σ H s)(hN:X.N.Nodup)(hi:X.N[i]?=some x)(G:Loc X.env.scope x)(r:RelV v u)
  (h:∀s',Inv X cp (σ.set i (some v)) H s'->(∃a,cz a s.heap s'.heap/\(a=X.env.locals\/X.env.cells.lookup x=some a))->Q () s') (hf:X.fn x=true\/X.env.scope.names.lookup x=some .local:=by first|exact .inl rfl|exact .inr rfl|assumption):aD M A (storeName X.env x u) Q E s:=by
 obtain⟨m,hn,hl⟩:=id I.loc;have hcls:(X.env.scope.kind == .class||(X.env.scope.kind == .module&&X.env.locals != X.env.globals))=false:=by rw[I.ok.kind];rfl
 have hiσ:i < σ.length:=by rw[I.len];exact (ac.mp hi).1
 have cne:=I.cne;have l:∀{a:ao}{h':bA},(∃o,s.heap.get? a=some o/\H a=none)->cz a s.heap h'->nI X.prog X.w H h':=λ{a h'}ha g b ob e=>by
  obtain⟨_,_,J⟩:=ha;refine (I.hok b ob e).stay (λc w' C q=>(g.2 c ?_).trans q) (λ_ q=>q) λ_ _ q=>q
  rintro rfl
  rcases C with rfl|C
  ·rw[J]at e;cases e
  ·rw[J]at C;cases C
 rcases G with O|O
 ·refine wpAny_storeName_local O hn (λh' C g=>?_) hcls;obtain⟨E,_,_,v,_⟩:=id hn;refine h _ ⟨I.ok,I.os,I.bare,⟨λb o e n hb G=>?_,λb o e n hb G=>?_,I.base.free,λb o e G=>?_,I.base.tups,I.base.frzs,I.base.tbls⟩,⟨_,C,λj y v' B L e3=>?_⟩,λy c e=>?_,I.free,I.freeC,λp hp=>?_,l ⟨E,v,I.free⟩ g,by simpa using I.len⟩ ⟨_,g,.inl rfl⟩
  ·exact (g.2 b (bb (a_ (aI e) I.ok.above))).trans (I.base.keep b o e n hb G)
  ·obtain⟨sl,B⟩:=I.base.slot b o e n hb G;exact⟨sl,(g.2 b (bb (a_ (aI e) I.ok.above))).trans B⟩
  ·obtain⟨o',B⟩:=I.base.there b o e G;exact⟨o',(g.2 b (bb (a_ (aI e) I.ok.above))).trans B⟩
  ·by_cases U:j=i
   ·subst U;rw[hi]at B;cases B;rw[au hiσ]at L;cases L;exact⟨u,r,.inl ⟨O,by simp⟩⟩
   ·rw[af (bG U)]at L;obtain⟨u',r',q⟩:=hl j y v' B L e3;refine⟨u',r',?_⟩;rcases q with ⟨k,e⟩|⟨k,c,e,z⟩
    ·refine .inl ⟨k,?_⟩;have:y≠x:=λe=>U (Ko hN B (e ▸ hi));simp[this,e]
    ·exact .inr ⟨k,c,e,z.sameBut g (cne y c e)⟩
  ·obtain⟨w',z⟩:=I.cell y c e;exact⟨w',z.sameBut g (cne y c e)⟩
  ·obtain⟨e,n,ne,nf,d⟩:=I.pin p hp;exact⟨(g.2 p.1 ne).trans e,n,ne,nf,d⟩
 ·have Y : X.fn x = true := by
    rcases hf with z|z
    ·exact z
    ·rw[z]at O;cases O
  obtain⟨c,C⟩:=I.ok.has x (.inl O);obtain⟨w',z⟩:=I.cell x c C;refine wpAny_storeName_cell I.ok.kind O C z (λh' J g=>?_);obtain⟨oc,E,v⟩:=id z;refine h { s with heap:=h' } ⟨I.ok,I.os,I.bare,⟨λb o e n hb G=>?_,λb o e n hb G=>?_,I.base.free,λb o e G=>?_,I.base.tups,I.base.frzs,I.base.tbls⟩,⟨m,hn.sameBut g (bG (cne x c C)),λj y v' B L e3=>?_⟩,λy Q e=>?_,I.free,I.freeC,λp hp=>?_,l ⟨oc,E,I.freeC x c C⟩ g,by simpa using I.len⟩ ⟨c,g,.inr C⟩
  ·exact (g.2 b (bb (a_ (aI e) (I.ok.cab x c Y C)))).trans (I.base.keep b o e n hb G)
  ·obtain⟨sl,B⟩:=I.base.slot b o e n hb G;exact⟨sl,(g.2 b (bb (a_ (aI e) (I.ok.cab x c Y C)))).trans B⟩
  ·obtain⟨o',B⟩:=I.base.there b o e G;exact⟨o',(g.2 b (bb (a_ (aI e) (I.ok.cab x c Y C)))).trans B⟩
  ·by_cases U:j=i
   ·subst U;rw[hi]at B;cases B;rw[au hiσ]at L;cases L;exact⟨u,r,.inr ⟨.inl O,c,C,J⟩⟩
   ·rw[af (bG U)]at L;obtain⟨u',r',q⟩:=hl j y v' B L e3;refine⟨u',r',?_⟩;rcases q with q|⟨k,Q,e,h⟩
    ·exact .inl q
    ·refine .inr ⟨k,Q,e,h.sameBut g ?_⟩
     rintro rfl
     exact U (Ko hN B (I.ok.inj _ _ _ e C ▸ hi))
  ·by_cases H:Q=c
   ·subst H;exact⟨_,J⟩
   ·obtain⟨l,h⟩:=I.cell y Q e;exact⟨l,h.sameBut g H⟩
  ·obtain⟨e,n,ne,nf,d⟩:=I.pin p hp;refine⟨(g.2 p.1 ?_).trans e,n,ne,nf,d⟩;intro q;rw[q,E]at e;have c:oc=p.2:=aE e;exact d w' (by rw[<- c];exact v)
theorem ND{M:Model}{A:bv}{E:ag->am->Prop}{i:Nat}{x:Str}{v:V}{u:ag}{Q:Unit->am->Prop}(I:Inv X cp σ H s)(hN:X.N.Nodup)(l:X.N[i]?=some x)(g:Loc X.env.scope x)(r:RelV v u)
  (h:∀c,Inv X cp (σ.set i (some v)) H c->Q () c) (o:X.fn x=true\/X.env.scope.names.lookup x=some .local:=by first|exact .inl rfl|exact .inr rfl|assumption):aD M A (storeName X.env x u) Q E s:=
 Kx I hN l g r (λc q _=>h c q) o
theorem Inv.call'{g:am}{ch:List ao}(I:Inv X cp σ H s)(o:g.os=s.os)(u:Un (fY X.stack) ch H H' s.heap g.heap)(h:nI X.prog X.w H' g.heap)(q:lY g.gens)
  (l:∀b∈ch,(b∈X.ex\/X.s₀.heap.objs.size<=b)/\b≠X.env.locals/\(∀x c,X.env.cells.lookup x=some c->c≠b)/\∀p∈X.pn++cp,p.1≠b):Inv X cp σ H' g:=by
 obtain⟨h',g',d',t',o'⟩:=g;have e:o'=s.os:=o;subst e;exact I.call (g':=g') (t':=t') (d':=d') u h q l
end
abbrev XK:=ag->Option ao->Hp->Prop
noncomputable abbrev St:=List (Option V)
abbrev VK:=V->Hp->Prop
abbrev TE:=St->Hp->VK->Prop
abbrev TT:=St->Hp->(Bool->Hp->Prop)->Prop
abbrev TA:=St->Hp->(List V->Hp->Prop)->Prop
structure Ends where
 nx:St->Hp->Prop
 rt:VK
 bk:St->Hp->Prop:=λ_ _=>False
 ct:St->Hp->Prop:=λ_ _=>False
abbrev TS:=Ends->St->Hp->Prop
def EP(X:Cx)(c:List (ao×Obj))(σ:St)(Q:VK)(u:ag)(h:am):Prop:=∃v g,Inv X c σ g h/\RelV v u/\Q v g
noncomputable def TP(X:Cx)(c:List (ao×Obj))(σ:St)(Q:Bool->Hp->Prop)(b:Bool)(h:am):Prop:=∃g,Inv X c σ g h/\Q b g
def AP(X:Cx)(c:List (ao×Obj))(σ:St)(Q:List V->Hp->Prop)(l:List ag)(o:am):Prop:=∃g h,Inv X c σ h o/\b7 g l/\Q g h
def SP(X:Cx)(c:List (ao×Obj))(D:Ends)(f:Flow)(h:am):Prop:=
 match f with
 | .next=>∃σ' g,Inv X c σ' g h/\D.nx σ' g
 | .brk=>∃σ' g,Inv X c σ' g h/\D.bk σ' g
 | .cont=>∃σ' g,Inv X c σ' g h/\D.ct σ' g
 | .ret u=>∃v σ' g,Inv X c σ' g h/\RelV v u/\D.rt v g
def PE(X:Cx)(e:Expr)(t:TE):Prop:=
 ∀(cp:List (ao×Obj))(s:am)(σ:St)(H:Hp)(Q:VK),Inv X cp σ H s->t σ H Q->aD (aT X.prog X.w) X.A (eval e X.env) (EP X cp σ Q) X.xe s
def PT(X:Cx)(e:Expr)(t:TT):Prop:=
 ∀(cp:List (ao×Obj))(s:am)(σ:St)(H:Hp)(Q:Bool->Hp->Prop),Inv X cp σ H s->t σ H Q->aD (aT X.prog X.w) X.A (isTrue e X.env (eval e X.env)) (TP X cp σ Q) X.xe s
def PW(X:Cx)(e:Expr)(t:TT):Prop:=
 ∀(whole:Sem ag)(cp:List (ao×Obj))(s:am)(σ:St)(H:Hp)(Q:Bool->Hp->Prop),Inv X cp σ H s->t σ H Q->aD (aT X.prog X.w) X.A (isTrue e X.env whole) (TP X cp σ Q) X.xe s
theorem PW.pt{X:Cx}{e:Expr}{t:TT}(h:PW X e t):PT X e t:=h _
def PA(X:Cx)(c:List Expr)(t:TA):Prop:=
 ∀(pos:Pos)(cp:List (ao×Obj))(s:am)(σ:St)(H:Hp)(Q:List V->Hp->Prop),Inv X cp σ H s->t σ H Q->aD (aT X.prog X.w) X.A (Cd (backTo pos (starEach c X.env))) (AP X cp σ Q) X.xe s
def PS(X:Cx)(st:fH)(t:TS):Prop:=
 ∀(cp:List (ao×Obj))(s:am)(σ:St)(H:Hp)(D:Ends),Inv X cp σ H s->t D σ H->aD (aT X.prog X.w) X.A (exec st X.env) (SP X cp D) X.xe s
def PSs(X:Cx)(st:List fH)(t:TS):Prop:=
 ∀(cp:List (ao×Obj))(s:am)(σ:St)(H:Hp)(D:Ends),Inv X cp σ H s->t D σ H->aD (aT X.prog X.w) X.A (execs st X.env) (SP X cp D) X.xe s
theorem fU{α:Type}{t:Sem α}{Q c:α->am->Prop}{M:Model}{A:bv}{E:ag->am->Prop}{s:am}(h:aD M A t Q E s)(g:∀a s,Q a s->c a s):aD M A t c E s:=fI h g λ_ _ x=>x
section
variable{X:Cx}
noncomputable def C9(i:Nat):TE:=λσ H Q=>∃v,σ[i]?=some (some v)/\Q v H
noncomputable def tC(v:V):TE:=λ_ H Q=>Q v H
theorem QO{i:Nat}{x:Str}{pos:Pos}(hN:X.N[i]?=some x)(E:JB X.env.scope x)(hd:(x == ("__debug__":Str))=false:=by decide)(B:(x == ("__classdict__":Str))=false:=by decide):PE X (.Name x pos) (C9 i):=by
 intro q s σ H Q I h;obtain⟨v,e,h⟩:=h;obtain⟨m,G,L⟩:=I.loc;obtain⟨u,r,l⟩:=L i x v hN e E;have fin:EP X q σ Q u s:=⟨v,H,I,r,h⟩
 rcases l with ⟨o,J⟩|⟨o,c,C,g⟩
 ·exact BC (wpAny_loadName_local I.ok.kind o G J fin) hd
 ·rcases o with o|o
  ·exact BC (wpAny_loadName_cell I.ok.kind o C g fin) hd
  ·exact BC (wpAny_loadName_free I.ok.kind o C g fin B) hd
theorem NF{i j pos}:PE X (.Constant (.int i) j pos) (tC (.int i)):=λ_ _ _ H _ I h=>wpAny_Constant_int ⟨.int i,H,I.tok _,⟨_,rfl⟩,h⟩
theorem Uh{b j pos}:PE X (.Constant (.bool b) j pos) (tC (.bl b)):=λ_ _ _ H _ I h=>Constant_bool ⟨.bl b,H,I,rfl,h⟩
theorem O4{j pos}:PE X (.Constant .none j pos) (tC .non):=λ_ _ _ H _ I h=>Constant_none ⟨.non,H,I,rfl,h⟩
theorem Qa{x j pos}:PE X (.Constant (.str x) j pos) (tC (.str x)):=λ_ _ _ H _ I h=>Calls.Constant_str ⟨.str x,H,I.tok _,⟨_,rfl⟩,h⟩
noncomputable def Gl(X:Cx)(x:Str):Prop:=X.env.kindOf x=some .globalImplicit
theorem SH{E:ag->am->Prop}{c:List (ao×Obj)}{s:am}{σ:St}{H:Hp}{x:Str}{u:ag}{pos:Pos}{Q:ag->am->Prop}(I:Inv X c σ H s)(l:Gl X x)(g:X.mg x=some u)(h:Q u s)
  (hd:(x == ("__debug__":Str))=false:=by decide):aD (aT X.prog X.w) X.A (eval (.Name x pos) X.env) Q E s:=
 rJ I.ok.kind l (Calls.loadGlobal_global (by rw[I.ok.glob];exact I.mod.glob.keeps I.bk) g h) hd
theorem xw{E:ag->am->Prop}{c:List (ao×Obj)}{s:am}{σ:St}{H:Hp}{x:Str}{u:ag}{pos:Pos}{Q:ag->am->Prop}(I:Inv X c σ H s)(q:Gl X x)(o:X.mg x=none)(g:cM x=some u)(h:Q u s)
  (l:x≠"__name__":=by decide) (hd:(x == ("__debug__":Str))=false:=by decide):aD (aT X.prog X.w) X.A (eval (.Name x pos) X.env) Q E s:=by
 obtain⟨C,B,v⟩:=I.mod.blt;exact rJ I.ok.kind q (Calls.loadGlobal_builtin (by rw[I.ok.glob];exact I.mod.glob.keeps I.bk) o (by rw[I.ok.blt];exact B.keeps I.bk) ((v x l).trans g) h) hd
theorem NN{x:Str}{v:V}{u:ag}{pos:Pos}(o:Gl X x)(l:X.mg x=none)(c:cM x=some u)(r:RelV v u)(g:x≠"__name__":=by decide)(hd:(x == ("__debug__":Str))=false:=by decide):PE X (.Name x pos) (tC v):=
 λ_ _ _ H _ I h=>xw I o l c ⟨v,H,I,r,h⟩ g hd
variable{a b:Expr}{ta tb:TE}{pos:Pos}
variable{tA eB:TT}{rest:List Expr}
noncomputable def AD(t u:TT):TT:=λσ H Q=>t σ H λc g=>if c=true then u σ g Q else Q false g
noncomputable def Vh(t u:TT):TT:=λσ H Q=>t σ H λc g=>if c=true then Q true g else u σ g Q
noncomputable def AN(t:TT):TT:=λσ H Q=>t σ H λc g=>Q (!c) g
theorem Sl(l:PT X a tA):PW X (.BoolOp .And [a] pos) tA:=by
 intro wh g s σ H Q I h;refine isTrue_and (fU (l g s σ H Q I h) λc o e=>?_);cases c with
 |true=>exact isTrue_and_nil e
 |false=>exact e
theorem V1(l:PT X a tA):PW X (.BoolOp .Or [a] pos) tA:=by
 intro wh g s σ H Q I h;refine isTrue_or (fU (l g s σ H Q I h) λc o e=>?_);cases c with
 |false=>exact isTrue_or_nil e
 |true=>exact e
theorem Tn(C:PT X a tA)(B:PW X (.BoolOp .And (b::rest) pos) eB):PW X (.BoolOp .And (a::b::rest) pos) (AD tA eB):=by
 intro wh g s σ H Q I h;refine isTrue_and (fU (C g s σ H _ I h) λc v l=>?_);obtain⟨u,q,o⟩:=l;cases c with
 |true=>exact B wh g v σ u Q q o
 |false=>exact⟨u,q,o⟩
theorem QY(C:PT X a tA)(B:PW X (.BoolOp .Or (b::rest) pos) eB):PW X (.BoolOp .Or (a::b::rest) pos) (Vh tA eB):=by
 intro wh g s σ H Q I h;refine isTrue_or (fU (C g s σ H _ I h) λc v l=>?_);obtain⟨u,q,o⟩:=l;cases c with
 |true=>exact⟨u,q,o⟩
 |false=>exact B wh g v σ u Q q o
theorem P0(l:PT X a tA):PT X (.UnaryOp .Not a pos) (AN tA):=by intro g s σ H Q I h;exact isTrue_not (l g s σ H (λc o=>Q (!c) o) I h)
noncomputable def EE(ta tb:TE):TE:=λσ H Q=>ta σ H λx g=>∃c,x=.bl c/\if c=true then tb σ g Q else Q (.bl false) g
noncomputable def HS(ta tb:TE):TE:=λσ H Q=>ta σ H λx g=>∃c,x=.bl c/\if c=true then Q (.bl true) g else tb σ g Q
noncomputable def CK(ta:TE):TE:=λσ H Q=>ta σ H λx g=>∃c,x=.bl c/\Q (.bl (!c)) g
theorem UW{op}{t:TE}(h:PE X a t):PE X (.BoolOp op [a] pos) t:=λc s σ H Q I g=>BoolOp_one (h c s σ H Q I g)
theorem OK(G:PE X a ta)(E:PE X (.BoolOp .And (b::rest) pos) tb):PE X (.BoolOp .And (a::b::rest) pos) (EE ta tb):=by
 intro g s σ H Q I h;refine BoolOp_and (fU (G g s σ H _ I h) λv B o=>?_);obtain⟨x,u,q,C,l⟩:=o;obtain⟨c,rfl,l⟩:=l;cases C;refine fj ?_;cases c with
 |true=>exact E g B σ u Q q l
 |false=>exact⟨.bl false,u,q,rfl,l⟩
theorem PU(G:PE X a ta)(E:PE X (.BoolOp .Or (b::rest) pos) tb):PE X (.BoolOp .Or (a::b::rest) pos) (HS ta tb):=by
 intro g s σ H Q I h;refine BoolOp_or (fU (G g s σ H _ I h) λv B o=>?_);obtain⟨x,u,q,C,l⟩:=o;obtain⟨c,rfl,l⟩:=l;cases C;refine fj ?_;cases c with
 |false=>exact E g B σ u Q q l
 |true=>exact⟨.bl true,u,q,rfl,l⟩
theorem UK(u:PE X a ta):PE X (.UnaryOp .Not a pos) (CK ta):=by intro g s σ H Q I h;refine UnaryOp_ (fU (u g s σ H _ I h) λv E o=>?_);obtain⟨x,C,B,q,l⟩:=o;obtain⟨c,rfl,l⟩:=l;cases q;exact not_of (fj ⟨.bl (!c),C,B,rfl,l⟩)
noncomputable def Qw(t:TT)(ta tb:TE):TE:=λσ H Q=>t σ H λc g=>if c=true then ta σ g Q else tb σ g Q
theorem TH{c:Expr}(B:PT X c tA)(E:PE X a ta)(C:PE X b tb):PE X (.IfExp c a b pos) (Qw tA ta tb):=by
 intro g s σ H Q I h;refine wpAny_IfExp (fU (B g s σ H _ I h) λd o l=>?_);obtain⟨v,u,q⟩:=l;cases d with
 |true=>exact E g o σ v Q u q
 |false=>exact C g o σ v Q u q
end
def gY(K:aj)(H:Hp)(a:ao)(xs:List V):Prop:=
 Rd H a (.lst xs) \/
  ∃(o:Obj)(its:Array ag)(n:Nat),K.lookup a=some o/\o.cls=.type "list"/\o.dict=none/\o.data=.seq its n/\its.size<=sizeLine/\b7 xs its.toList
def iT(K:aj)(H:Hp)(a:ao)(xs:List V):Prop:=
 Rd H a (.tup xs) \/
  ∃(o:Obj)(its:Array ag)(n:Nat),K.lookup a=some o/\o.cls=.type "tuple"/\o.dict=none/\o.data=.seq its n/\its.size<=sizeLine/\b7 xs its.toList
noncomputable def Hu:ag->Option V
 | .none=>some .non
 | .bool b=>some (.bl b)
 | .int i _=>some (.int i)
 | .str x _=>some (.str x)
 | .bytes b _=>some (.byt b)
 | .float b _=>some (.flt b)
 | .ref a=>some (.ref a)
 | .type n=>some (.ty n)
 |_=>none
theorem RelV.abs{x:V}{u:ag}(r:RelV x u):Hu u=some x:=by
 cases x with
 |non=>cases r;rfl
 |bl _=>cases r;rfl
 |int _=>obtain⟨t,rfl⟩:=r;rfl
 |str _=>obtain⟨t,rfl⟩:=r;rfl
 |byt _=>obtain⟨t,rfl⟩:=r;rfl
 |flt _=>obtain⟨t,rfl⟩:=r;rfl
 |ref _=>cases r;rfl
 |ty _=>cases r;rfl
theorem RelV.inj{x y:V}{u:ag}(r:RelV x u)(q:RelV y u):x=y:=aE (r.abs.symm.trans q.abs)
theorem b7.inj:∀{xs ys:List V}{c:List ag},b7 xs c->b7 ys c->xs=ys
 |_,_,_,.nil,.nil=>rfl
 |_,_,_,.cons r t,.cons r' t'=>by rw[r.inj r',b7.inj t t']
section
variable{X:Cx}{cp:List (ao×Obj)}{σ:St}{H:Hp}{s:am}{a:ao}{xs ys:List V}
theorem gY.of{K:aj}(h:H a=some (.lst xs)):gY K H a xs:=.inl (.inl h)
theorem iT.of{K:aj}(h:H a=some (.tup xs)):iT K H a xs:=.inl (.inl h)
theorem Inv.list(I:Inv X cp σ H s)(h:gY X.K H a xs):∃its:List ag,b7 xs its/\PlainL s.heap a its.toArray/\xs.length<=sizeLine:=by
 rcases h with h|⟨o,its,n,g,l,hd,c,hz,r⟩
 ·obtain⟨z,its,n,r,e⟩:=h.ok I.hok;exact⟨its,r,⟨_,n,e,rfl,rfl,rfl⟩,z⟩
 ·refine⟨its.toList,r,⟨o,n,I.kIn a o g,l,hd,by simpa using c⟩,?_⟩;have e:=r.length;simp only[cP]at e;ext
theorem Inv.tupleD(I:Inv X cp σ H s)(h:iT X.K H a xs):∃its:List ag,b7 xs its/\km s.heap a its.toArray/\xs.length<=sizeLine:=by
 rcases h with h|⟨o,its,n,g,l,hd,c,hz,r⟩
 ·obtain⟨z,its,r,p⟩:=h.ok I.hok;exact⟨its,r,p,z⟩
 ·refine⟨its.toList,r,⟨o,I.kIn a o g,l,⟨n,by simpa using c⟩,hd⟩,?_⟩;have e:=r.length;simp only[cP]at e;ext
theorem Inv.tuple(I:Inv X cp σ H s)(h:iT X.K H a xs):∃its:List ag,b7 xs its/\yW s.heap a its.toArray/\xs.length<=sizeLine:=let ⟨its,r,p,z⟩:=I.tupleD h;⟨its,r,p.is,z⟩
theorem Inv.list_inj(I:Inv X cp σ H s)(h:gY X.K H a xs)(h':gY X.K H a ys):xs=ys:=by
 obtain⟨its,r,⟨o,n,e,_,_,d⟩,_⟩:=I.list h;obtain⟨its',g,⟨o',l,c,_,_,d'⟩,_⟩:=I.list h';rw[e]at c;cases c;rw[d]at d';injection d' with d1 _
 have:its=its':=by simpa using cR BD d1
 subst this;exact r.inj g
theorem Inv.tuple_inj(I:Inv X cp σ H s)(h:iT X.K H a xs)(h':iT X.K H a ys):xs=ys:=by
 obtain⟨its,r,⟨o,e,_,n,d⟩,_⟩:=I.tuple h;obtain⟨its',g,⟨o',c,_,l,d'⟩,_⟩:=I.tuple h';rw[e]at c;cases c;rw[d]at d';injection d' with d1 _
 have:its=its':=by simpa using cR BD d1
 subst this;exact r.inj g
end
noncomputable abbrev Cx.wish(X:Cx)(E:ag->am->Prop):Cx:={ X with xe:=E }
abbrev Cx.nox(X:Cx):Cx:=X.wish λ_ _=>False
theorem Cx.Ok.wish{X:Cx}(ok:X.Ok)(E:ag->am->Prop):(X.wish E).Ok:=
 ⟨ok.mod,ok.kind,ok.glob,ok.blt,ok.above,ok.inj,ok.has,ok.cab,ok.hd,ok.frames,ok.stk,ok.exf,ok.bs,ok.bsz,ok.noex,ok.exfs,ok.funs,ok.frf⟩
theorem Cx.Ok.unwish{X:Cx}{E:ag->am->Prop}(ok:(X.wish E).Ok):X.Ok:=
 ⟨ok.mod,ok.kind,ok.glob,ok.blt,ok.above,ok.inj,ok.has,ok.cab,ok.hd,ok.frames,ok.stk,ok.exf,ok.bs,ok.bsz,ok.noex,ok.exfs,ok.funs,ok.frf⟩
section
variable{X:Cx}{cp:List (ao×Obj)}{σ:St}{H:Hp}{s:am}{E:ag->am->Prop}
theorem Inv.wish(I:Inv X cp σ H s)(E:ag->am->Prop):Inv (X.wish E) cp σ H s:=⟨I.ok.wish E,I.os,I.bare,I.base,I.loc,I.cell,I.free,I.freeC,I.pin,I.hok,I.len⟩
theorem Inv.unwish(I:Inv (X.wish E) cp σ H s):Inv X cp σ H s:=⟨I.ok.unwish,I.os,I.bare,I.base,I.loc,I.cell,I.free,I.freeC,I.pin,I.hok,I.len⟩
theorem SP.unwish{D:Ends}{f:Flow}{g:am}(h:SP (X.wish E) cp D f g):SP X cp D f g:=by
 cases f with
 |next=>obtain⟨σ',c,I,q⟩:=h;exact⟨σ',c,I.unwish,q⟩
 |brk=>obtain⟨σ',c,I,q⟩:=h;exact⟨σ',c,I.unwish,q⟩
 |cont=>obtain⟨σ',c,I,q⟩:=h;exact⟨σ',c,I.unwish,q⟩
 |ret u=>obtain⟨v,σ',c,I,r,q⟩:=h;exact⟨v,σ',c,I.unwish,r,q⟩
theorem PE.nox{e:Expr}{t:TE}(h:PE X.nox e t):PE X e t:=λcp s σ H Q I g=>
 fI (h cp s σ H Q (I.wish _) g) (λ_ _ c=>by obtain⟨v,o,l,r,q⟩:=c;exact⟨v,o,l.unwish,r,q⟩) λ_ _ z=>dW z
theorem PSs.nox{st:List fH}{t:TS}(h:PSs X.nox st t):PSs X st t:=λcp s σ H D I c=>
 fI (h cp s σ H D (I.wish _) c) (λ_ _ q=>q.unwish) λ_ _ z=>dW z
end
section
variable{X:Cx}{st:fH}{rest:List fH}{t u:TS}{e:Expr}{te:TE}{pos:Pos}
noncomputable def EY:TS:=λD σ H=>D.nx σ H
noncomputable def Jr(t u:TS):TS:=λD σ H=>t { D with nx:=u D } σ H
theorem VU:PSs X [] EY:=λ_ _ σ H _ I h=>tX ⟨σ,H,I,h⟩
theorem Sa(o:PS X st t)(l:PSs X rest u):PSs X (st::rest) (Jr t u):=by
 intro c s σ H D I h;refine wpAny_execs_cons (fU (o c s σ H { D with nx:=u D } I h) λf g q=>?_);cases f with
 |next=>
  obtain⟨σ',C,B,q⟩:=q;exact l c g σ' C D B q
 |ret v=>exact q
 |brk=>exact q
 |cont=>exact q
theorem Inv.quiet{c:List (ao×Obj)}{σ:St}{H:Hp}{s:am}(I:Inv X c σ H s):interactive X.env=false:=by simp[interactive,I.ok.kind]
noncomputable def Dm(te:TE):TS:=λD σ H=>te σ H λ_ c=>D.nx σ c
theorem VC(q:PE X e te)(o:ki e none pos.line X.env=pure false:=by rfl):PS X (.Expr e pos) (Dm te):=by intro g s σ H D I h;exact wpAny_Expr_any (fU (q g s σ H _ I h) λv E c=>by obtain⟨x,C,B,G,l⟩:=c;exact⟨σ,C,B,l⟩) I.quiet o
noncomputable def Ii(te:TE):TS:=λD σ H=>te σ H D.rt
theorem Pa(q:PE X e te):PS X (.Return (some e) pos) (Ii te):=by intro g s σ H D I h;exact wpAny_Return_some (fU (q g s σ H _ I h) λv E c=>by obtain⟨x,C,B,l,o⟩:=c;exact⟨x,σ,C,B,l,o⟩)
noncomputable def Hx(c:TT)(t u:TS):TS:=λD σ H=>c σ H λb g=>if b=true then t D σ g else u D σ g
theorem P4{c:Expr}{a b:List fH}{o:TT}(E:PT X c o)(J:PSs X a t)(G:PSs X b u):PS X (.If c a b pos) (Hx o t u):=by
 intro g s σ H D I h;refine wpAny_If (fU (E g s σ H _ I h) λd q l=>?_);obtain⟨C,B,v⟩:=l;cases d with
 |true=>exact J g q σ C D B v
 |false=>exact G g q σ C D B v
noncomputable def Bg:TS:=λ_ _ _=>False
theorem SU:PS X st Bg:=λ_ _ _ _ _ _ h=>h.elim
end
abbrev TG:=V->St->Hp->(St->Hp->Prop)->Prop
abbrev yR:=List V->St->Hp->(St->Hp->Prop)->Prop
def PG(X:Cx)(c:Expr)(t:TG):Prop:=
 ∀(cp:List (ao×Obj))(s:am)(σ:St)(H:Hp)(v:V)(u:ag)(Q:St->Hp->Prop),Inv X cp σ H s->RelV v u->t v σ H Q ->
  aD (aT X.prog X.w) X.A (n8 c X.env u) (λ_ g=>∃σ' H',Inv X cp σ' H' g/\Q σ' H') X.xe s
def PGs(X:Cx)(c:List Expr)(t:yR):Prop:=
 ∀(cp:List (ao×Obj))(s:am)(σ:St)(H:Hp)(vs:List V)(us:List ag)(Q:St->Hp->Prop),Inv X cp σ H s->b7 vs us->t vs σ H Q ->
  aD (aT X.prog X.w) X.A (assignInOrder ((dE c X.env).map (·.2)) us) (λ_ g=>∃σ' H',Inv X cp σ' H' g/\Q σ' H') X.xe s
abbrev vv:=V->V->V->Hp->(Hp->Prop)->Prop
def PSet(X:Cx)(t:vv):Prop:=
 ∀(cp:List (ao×Obj))(s:am)(σ:St)(H:Hp)(o i v:V)(ov iv u:ag)(Q:Hp->Prop),Inv X cp σ H s->RelV o ov->RelV i iv->RelV v u->t o i v H Q ->
  aD (aT X.prog X.w) X.A (n9 ov iv u) (λ_ g=>∃c,Inv X cp σ c g/\Q c) X.xe s
abbrev Fz:=V->V->Hp->VK->Prop
def Mv(X:Cx)(op:rK)(t:Fz):Prop:=
 ∀(cp:List (ao×Obj))(s:am)(σ:St)(H:Hp)(x y:V)(v u:ag)(Q:VK),Inv X cp σ H s->RelV x v->RelV y u->t x y H Q ->
  aD (aT X.prog X.w) X.A (inplaceOp op v u) (EP X cp σ Q) X.xe s
section
variable{X:Cx}{pos:Pos}
noncomputable def tP(i:Nat):TG:=λv σ H Q=>Q (σ.set i (some v)) H
theorem Wd{i:Nat}{x:Str}(hN:X.N.Nodup)(l:X.N[i]?=some x)(g:Loc X.env.scope x)(o:X.fn x=true\/X.env.scope.names.lookup x=some .local:=by first|exact .inl rfl|exact .inr rfl|assumption):PG X (.Name x pos) (tP i):=by intro c s σ H v u Q I r h;exact Ce (ND I hN l g r (λB q=>⟨_,H,q,h⟩) o)
noncomputable def Ie:yR:=λc σ H Q=>c=[]/\Q σ H
noncomputable def C0(t:TG)(u:yR):yR:=λc σ H Q=>∃v r,c=v::r/\t v σ H λσ' g=>u r σ' g Q
theorem PP:PGs X [] Ie:=by intro c s σ H g l Q I r h;obtain⟨e,h⟩:=h;subst e;cases r;exact assignInOrder_nil ⟨σ,H,I,h⟩
theorem QF{e:Expr}{l:List Expr}{t:TG}{u:yR}(E:PG X e t)(C:PGs X l u)
  (B:(dE (e::l) X.env).map (·.2)=n8 e X.env::(dE l X.env).map (·.2):=by rfl):PGs X (e::l) (C0 t u):=by
 intro c s σ H O Y Q I r h;obtain⟨v,U,G,h⟩:=h;subst G;cases r with
 |cons r rr=>
  rw[B];refine assignInOrder_cons (fU (E c s σ H _ _ _ I r h) λ_ o g=>?_);obtain⟨σ1,L,J,q⟩:=g;exact C c o σ1 L _ _ Q J rr q
def HL(K:aj)(n:Nat)(t:yR):TG:=λv σ H Q=>∃a xs,v=.ref a/\iT K H a xs/\xs.length=n/\t xs σ H Q
theorem OA{g:List Expr}{k:Nat}{t:yR}{n:Nat}(O:X.calm=true)(h:PGs X g t)
  (J:(dE g X.env).length=n:=by rfl) (q:(dE g X.env).findIdx? (·.1)=none:=by rfl):PG X (.Tuple g k pos) (HL X.K n t):=by
 intro c s σ H v u Q I r l;obtain⟨a,xs,U,G,L,l⟩:=l;subst U;cases r;obtain⟨its,B,E,hz⟩:=I.tuple G;refine assign_Tuple_tuple (I.ok.hd O) E (by simp[J,<- L,B.length]) q λh' C=>?_;have Y:Inv X c σ H { s with heap:=h' }:=I.kept (t':=s.toks) λb o e=>C b o (bb (aI e)) e;exact h c _ σ H xs _ Q Y (by simpa using B) l
noncomputable def IW(to c:TE)(t:vv):TG:=λv σ H Q=>to σ H λo l=>c σ l λi h=>t o i v h λg=>Q σ g
theorem Rb{o i:Expr}{to E:TE}{t:vv}(ho:PE X o to)(hi:PE X i E)(hs:PSet X t)
  (ha:∀v,n8 (.Subscript o i pos) X.env v=(do
   let g <- kq [v] (eval o X.env)
   let C <- kq [v,g] (eval i X.env)
   wY pos
   kq [v,g,C] (n9 g C v)
   Cf [v,g,C] []):=by intro _;rfl):PG X (.Subscript o i pos) (IW to E t):=by
 intro c s σ H v u Q I r h;rw[ha];refine ab (bH (fU (ho c s σ H _ I h) λg J B=>?_));obtain⟨x,H1,I1,O,q1⟩:=B;refine ab (bH (fU (hi c J σ H1 _ I1 q1) λC G q=>?_));obtain⟨y,H2,I2,L,Y⟩:=q;refine ab (vJ (ab (bH (fU (hs c G σ H2 x y v g C u _ I2 O L r Y) λ_ s3 l=>?_))));obtain⟨H3,I3,U⟩:=l;exact wpAny_release ⟨σ,H3,I3,U⟩
noncomputable def yO(c:TE)(g:TG):TS:=λD σ H=>c σ H λx h=>g x σ h D.nx
theorem Tq{tg e : Expr}{l : TE}{g : TG}(J : PE X e l)(G : PG X tg g)(E : swapsWithSole [tg] e pos.line X.env = pure false := by rfl)(C : swappedStores [tg] e X.env = pure none := by rfl)
  (L:(dE [tg] X.env).map (·.2)=[n8 tg X.env]:=by rfl):PS X (.Assign [tg] e pos) (yO l g):=by
 intro c s σ H D I h;refine wpAny_Assign_stores (fU (J c s σ H _ I h) λv o ⟨x,Q,O,u,B⟩=>?_) E C;rw[L];exact fU (G c o σ Q x v _ O u B) λ_ U q=>q
theorem Qq{i : Nat}{x : Str}{e : Expr}{l : TE}{c : Pos}(hN : X.N.Nodup)(C : X.N[i]? = some x)(u : Loc X.env.scope x)(G : PE X e l)(B : ki e (some (.Name x c)) pos.line X.env = pure false := by rfl)(E : X.fn x = true \/ X.env.scope.names.lookup x = some .local := by first|exact .inl rfl|exact .inr rfl|assumption):
  PS X (.Assign [.Name x c] e pos) (yO l (tP i)):=by
 intro g s σ H D I h;refine wpAny_Assign_Name (fU (G g s σ H _ I h) λv U ⟨y,O,L,o,q⟩=>?_) B;exact ND L hN C u o (λQ J=>⟨_,O,J,q⟩) E
noncomputable def C2(to l q:TE)(g:V->V->Hp->VK->Prop)(h:Fz)(c:vv):TS:=λD σ H=>to σ H λo G=>l σ G λi E=>g o i E λx C=>q σ C λy B=>h x y B λz v=>c o i z v λu=>D.nx σ u
def C3(X:Cx)(t:V->V->Hp->VK->Prop):Prop:=
 ∀(cp:List (ao×Obj))(s:am)(σ:St)(H:Hp)(o i:V)(ov iv:ag)(Q:VK),Inv X cp σ H s->RelV o ov->RelV i iv->t o i H Q ->
  aD (aT X.prog X.w) X.A (pL ov iv) (EP X cp σ Q) X.xe s
theorem VT{o i e:Expr}{to Y te:TE}{l:V->V->Hp->VK->Prop}{C:Fz}{g:vv}{op:rK}{B:Pos}(ho:PE X o to)(hi:PE X i Y)(hg:C3 X l)(he:PE X e te)(hp:Mv X op C)(hs:PSet X g)
  (ha:∀q u new,augStore i q u new=(do kq [new,q,u] (n9 q u new);Cf [new,q,u] [];pure .next):=by intros;rfl):PS X (.AugAssign (.Subscript o i B) op e pos) (C2 to Y te l C g):=by
 intro c s σ H D I h;refine wpAny_AugAssign_SubscriptAny (fU (ho c s σ H _ I h) λq s1 ⟨U,H1,I1,r1,q1⟩=>?_) ha;refine fU (hi c s1 σ H1 _ I1 q1) λu s2 O=>?_;obtain⟨Q,H2,I2,r2,q2⟩:=O;refine fU (hg c s2 σ H2 U Q q u _ I2 r1 r2 q2) λold s3 L=>?_;obtain⟨x3,H3,I3,r3,q3⟩:=L;refine fU (he c s3 σ H3 _ I3 q3) λv s4 J=>?_;obtain⟨x4,H4,I4,r4,q4⟩:=J;refine fU (hp c s4 σ H4 x3 x4 old v _ I4 r3 r4 q4) λnew s5 G=>?_;obtain⟨x5,H5,I5,r5,q5⟩:=G;exact fU (hs c s5 σ H5 U Q x5 q u new _ I5 r1 r2 r5 q5) λ_ s6 E=>by obtain⟨H6,I6,q6⟩:=E;exact⟨σ,H6,I6,q6⟩
noncomputable def P_(f:Int->Int->Int):Fz:=λx y H Q=>∃i j,x=.int i/\y=.int j/\Q (.int (f i j)) H
theorem Td:Mv X .Add (P_ λi j=>i+j):=by intro c s σ H x y v u Q I l g h;obtain⟨i,j,B,o,q⟩:=h;subst B;subst o;obtain⟨t,rfl⟩:=l;obtain⟨t',rfl⟩:=g;exact iadd_int ⟨.int _,H,I.tok _,⟨_,rfl⟩,q⟩
end
section
variable{X:Cx}{pos:Pos}
def zW(c:TT)(tb:TS):TS:=λD σ H=>∃W:Nat->St->Hp->Prop,(∃m,W m σ H)/\∀m σ H,W m σ H ->
 c σ H λb h=>if b=true then ∃N:St->Hp->Prop,(∀σ' H',N σ' H'->∃g,g < m/\W g σ' H')/\tb { D with nx:=N,ct:=N,bk:=D.nx } σ h else D.nx σ h
theorem U_{c:Expr}{l:List fH}{Q:TT}{tb:TS}(U:sM (aT X.prog X.w) X.A X.env X.xe)(hc:PT X c Q)(hb:PSs X l tb):PS X (.While c l [] pos) (zW Q tb):=by
 intro g s σ H D I h;obtain⟨W,⟨m0,w0⟩,o⟩:=h;refine wpAny_While (codeAny_whileLoop (λn s'=>∃σ' H',Inv X g σ' H' s'/\W n σ' H') ?_ m0 ⟨σ,H,I,w0⟩)
 rintro n s1 ⟨σ1,H1,I1,w1⟩
 refine gZ U (fU (hc g s1 σ1 H1 _ I1 (o n σ1 H1 w1)) λb s2 q=>?_);obtain⟨H2,Y,C⟩:=q;cases b with
 |true=>
  obtain⟨N,hN,C⟩:=C;rw[aG rfl];refine gZ U (fU (hb g s2 σ1 H2 _ Y C) λf s3 B=>?_);cases f with
  |next=>
   obtain⟨σ3,u,O,G⟩:=B;obtain⟨J,L,E⟩:=hN σ3 u G;exact⟨J,L,σ3,u,O,E⟩
  |cont=>
   obtain⟨σ3,u,O,G⟩:=B;obtain⟨J,L,E⟩:=hN σ3 u G;exact⟨J,L,σ3,u,O,E⟩
  |brk=>exact B
  |ret v=>exact B
 |false=>
  rw[aC aY];exact tX ⟨σ1,H2,Y,C⟩
end
structure It where
 go:Nat->Hp->Prop
 yld:Nat->Hp->V->Hp->Prop
 stop:Nat->Hp->Prop
def nW(X:Cx)(g:List (ao×Obj))(H:Hp)(b:ao):Prop:=
 H b=none/\b≠X.env.locals/\b∉X.fs/\(b∈X.ex\/X.s₀.heap.objs.size<=b)/\(∀x c,X.env.cells.lookup x=some c->c≠b)/\∀p∈X.pn++g,p.1≠b
theorem Inv.fpOk{X:Cx}{g:List (ao×Obj)}{σ:St}{H l:Hp}{s:am}{b:ao}(I:Inv X g σ H s)(h:s.heap.objs.size<=b)(u:l b=none):nW X g l b:=by
 refine⟨u,dj (a_ I.lt h),I.nofs h,.inr (cS I.sz h),λx c e z=>?_,λp o z=>?_⟩
 ·obtain⟨v,q⟩:=I.cell x c e;exact bn (a_ q.lt (by rw[z];exact h)) (cq _)
 ·exact bn (a_ (aI (I.pin p o).1) (by rw[z];exact h)) (cq _)
structure tR(P:Program)(w:bE)(K:aj)(tg:Expr)(J:It)(fp:List ao)(it:ao)(tn:Nat->bA->Prop):Prop where
 mem:it∈fp
 obj:∀i h,tn i h->∀b∈fp,∃o,h.get? b=some o/\∀v,o.data≠.cell v
 keep:∀i h h',tn i h->(∀b∈fp,∀o,h.get? b=some o->h'.get? b=some o)->tn i h'
 item:∀(X:Cx),X.prog=P->X.w=w->X.K=K->X.calm=true->∀(i:Nat)(cp:List (ao×Obj))(s:am)(σ:St)(H:Hp)(E:ag->am->Prop),Inv X cp σ H s->(∀b∈fp,nW X cp H b)->tn i s.heap->J.go i H ->
  aD (aT P w) X.A (gD (.ref it)) (λr s1=>∃u,r=some u /\
   aD (aT P w) X.A (ox tg (.ref it) u) (λ_ s2=>∃x H',Inv X cp σ H' s2/\RelV x u/\J.yld i H x H'/\tn (i+1) s2.heap/\∀b∈fp,H' b=none) E s1) E s
 done:∀(X:Cx),X.prog=P->X.w=w->X.K=K->X.calm=true->∀(i:Nat)(cp:List (ao×Obj))(s:am)(σ:St)(H:Hp)(E:ag->am->Prop),Inv X cp σ H s->(∀b∈fp,nW X cp H b)->tn i s.heap->J.stop i H ->
  aD (aT P w) X.A (gD (.ref it)) (λr s1=>r=none/\Inv X cp σ H s1) E s
 self:∀(A:bv)(i:Nat)(s:am)(Q:ag->am->Prop)(E:ag->am->Prop),tn i s.heap->Q (.ref it) s->aD (aT P w) A (BE (.ref it)) Q E s
abbrev TI:=St->Hp->(It->Hp->Prop)->Prop
def Lx(X:Cx)(c:List (ao×Obj))(σ:St)(tg:Expr)(R:It->Hp->Prop)(g:ag)(o:am):Prop:=
 ∃(q:ao)(fp:List ao)(l:Nat->bA->Prop)(J:It)(h:Hp),g=.ref q/\Inv X c σ h o/\tR X.prog X.w X.K tg J fp q l/\l 0 o.heap/\(∀b∈fp,nW X c h b)/\R J h
def PI(X:Cx)(tg iter:Expr)(c:TI):Prop:=
 ∀(cp:List (ao×Obj))(s:am)(σ:St)(H:Hp)(R:It->Hp->Prop),Inv X cp σ H s->c σ H R ->
  aD (aT X.prog X.w) X.A (eval iter X.env) (λv g=>aD (aT X.prog X.w) X.A (BE v) (Lx X cp σ tg R) X.xe g) X.xe s
theorem FI{M:Model}{A:bv}{E:ag->am->Prop}{s:am}{tg:Expr}{l:ao}{u:ag}{o:Obj}{n:String}{g:Array ag}{Q:Unit->am->Prop}(q:s.heap.get? l=some o)(B:o.cls=.type n)(hd:o.data=.fields g)
  (v:["enumerate","zip","dict_itemiterator","dict_reverseitemiterator","odict_iterator","itertools.zip_longest","itertools.pairwise"].contains n=false) (c:Q () s):aD M A (ox tg (.ref l) u) Q E s:=by
 unfold ox;cases tg<;>first
  |exact ah c
  | (cases u <;> first
    |exact ah c
    | (refine ab (wpAny_load q ?_)
       rw[B,hd]
       show aD M A (if (["enumerate","zip","dict_itemiterator","dict_reverseitemiterator","odict_iterator","itertools.zip_longest","itertools.pairwise"].contains n&&g[0]? == some (dF _))=true then _ else _) Q E s;rw[aC (by intro h;rw[v,si]at h;cases h)];exact ah c))
def D8(K:aj)(a:ao):It:=
 ⟨λi H=>∃xs x,gY K H a xs/\xs[i]?=some x,λi H x c=>c=H/\∀xs,gY K H a xs->xs[i]?=some x,λi H=>∃xs,gY K H a xs/\xs.length<=i⟩
def Ig(K:aj)(a:ao):It:=
 ⟨λi H=>∃xs x,iT K H a xs/\xs[i]?=some x,λi H x c=>c=H/\∀xs,iT K H a xs->xs[i]?=some x,λi H=>∃xs,iT K H a xs/\xs.length<=i⟩
noncomputable def CP(lo:Int)(n:Nat):It:=⟨λi _=>i < n,λi H x c=>c=H/\x=.int (lo+i),λi _=>n<=i⟩
theorem Ny{P:Program}{w:bE}{K:aj}{tg:Expr}(a l:ao):tR P w K tg (D8 K a) [l] l (λi h=>h.IsListIter l a i) where
 mem:=by simp
 obj:=λi h st b q=>by
  have e:b=l:=by simpa using q
  subst e;obtain⟨o,e,c,d⟩:=st;exact⟨o,e,λv z=>by rw[d]at z;cases z⟩
 keep:=λi h h' st k=>st.at λo e=>k l (by simp) o e
 item:=by intro X U O Y hc i g s σ H E I G st Q;subst U O Y;obtain⟨xs,x,C,L⟩:=Q;obtain⟨its,J,p,hz⟩:=I.list C;obtain⟨u,hu,ru⟩:=J.get L;obtain⟨f0,f1,f2,f3,f4,f5⟩:=G l (by simp);refine wZ st p.isList (x:=u) (by simpa using hu) λh' B sb=>?_;have I1:Inv X g σ H { s with heap:=h' }:=I.turned (t':=s.toks) (λb o q e=>(sb.2 b q).trans e) f0 f1 f3 f4 f5;obtain⟨o,e,c,d⟩:=id B;exact⟨u,rfl,FI (s:={ s with heap:=h' }) e c d (by decide) ⟨x,H,I1,ru,⟨rfl,λys hy=>by rw[I.list_inj hy C];exact L⟩,B,λb q=>(G b q).1⟩⟩
 done:=by intro X U O Y hc i g s σ H E I G st Q;subst U O Y;obtain⟨xs,C,L⟩:=Q;obtain⟨its,J,p,hz⟩:=I.list C;obtain⟨f0,f1,f2,f3,f4,f5⟩:=G l (by simp);have hl:=J.length;exact xG (I.ok.hd hc) st p.isList (by simp;ext) λh' eb=>⟨rfl,I.turned (t':=s.toks) (λb o q e=>eb b o q e) f0 f1 f3 f4 f5⟩
 self:=λ_ _ _ _ _ st h=>wpAny_pyIter_listiter st h
theorem O2{P:Program}{w:bE}{K:aj}{tg:Expr}(a l:ao):tR P w K tg (Ig K a) [l] l (λi h=>h.IsTupleIter l a i) where
 mem:=by simp
 obj:=λi h st b q=>by
  have e:b=l:=by simpa using q
  subst e;obtain⟨o,e,c,d⟩:=st;exact⟨o,e,λv z=>by rw[d]at z;cases z⟩
 keep:=λi h h' st k=>st.at λo e=>k l (by simp) o e
 item:=by intro X U O Y hc i g s σ H E I G st Q;subst U O Y;obtain⟨xs,x,C,L⟩:=Q;obtain⟨its,J,p,hz⟩:=I.tuple C;obtain⟨u,hu,ru⟩:=J.get L;obtain⟨f0,f1,f2,f3,f4,f5⟩:=G l (by simp);refine wpAny_pyNext_tuple_item st (show s.heap.IsTuple a its.toArray from p) (x:=u) (by simpa using hu) λh' B sb=>?_;have I1:Inv X g σ H { s with heap:=h' }:=I.turned (t':=s.toks) (λb o q e=>(sb.2 b q).trans e) f0 f1 f3 f4 f5;obtain⟨o,e,c,d⟩:=id B;exact⟨u,rfl,FI (s:={ s with heap:=h' }) e c d (by decide) ⟨x,H,I1,ru,⟨rfl,λys hy=>by rw[I.tuple_inj hy C];exact L⟩,B,λb q=>(G b q).1⟩⟩
 done:=by intro X U O Y hc i g s σ H E I G st Q;subst U O Y;obtain⟨xs,C,L⟩:=Q;obtain⟨its,J,p,hz⟩:=I.tuple C;obtain⟨f0,f1,f2,f3,f4,f5⟩:=G l (by simp);have hl:=J.length;exact wpAny_pyNext_tuple_end (I.ok.hd hc) st (show s.heap.IsTuple a its.toArray from p) (by simp;ext) λh' eb=>⟨rfl,I.turned (t':=s.toks) (λb o q e=>eb b o q e) f0 f1 f3 f4 f5⟩
 self:=λ_ _ _ _ _ st h=>wpAny_pyIter_tupleiter st h
theorem Ol{P:Program}{w:bE}{K:aj}{tg:Expr}(g:ao)(lo:Int)(n:Nat):tR P w K tg (CP lo n) [g] g (λi h=>IsRangeIter h g (lo+(i:Nat)*1) ((n:Int)-(i:Nat)) 1) where
 mem:=by simp
 obj:=λi h st b l=>by
  have e:b=g:=by simpa using l
  subst e;exact⟨_,st,λv z=>by have z':Data.fields _=Data.cell v:=z;cases z'⟩
 keep:=λi h h' st k=>k g (by simp) _ st
 item:=by intro X J B L G i c s σ H E I u st C;subst J B L;obtain⟨f0,Y,f2,U,Q,O⟩:=u g (by simp);have W:=Walks.range (prog:=X.prog) (w:=X.w) (I.ok.hd G) g lo 1 n;refine W.item i s _ _ C st λv h' tk hv q kk=>?_;obtain⟨t,rfl⟩:=hv;have I1:Inv X c σ H { s with heap:=h',toks:=tk }:=I.turned (λb o l e=>kk b o (by simpa using l) e) f0 Y U Q O;refine⟨_,rfl,FI (s:={ s with heap:=h',toks:=tk }) (n:="range_iterator") q rfl rfl (by decide) ⟨.int (lo+i),H,I1,⟨t,?_⟩,⟨rfl,rfl⟩,q,λb l=>(u b l).1⟩⟩;rw[Int.mul_one]
 done:=by intro X J B L G i c s σ H E I u st C;subst J B L;obtain⟨f0,Y,f2,U,Q,O⟩:=u g (by simp);exact wpAny_pyNext_range_end (I.ok.hd G) st (by have:n<=i:=C;ext) λh' eb=>⟨rfl,I.turned (t':=s.toks) (λb o l e=>eb b o l e) f0 Y U Q O⟩
 self:=λ_ _ _ _ _ st h=>wpAny_pyIter_rangeiter st h
section
variable{X:Cx}{tg:Expr}
def Ej(K:aj)(g:TE):TI:=λσ H R=>g σ H λx c=>∃a,x=.ref a/\(∃xs,gY K c a xs)/\R (D8 K a) c
theorem PZ{l:Expr}{C:TE}(L:PE X l C):PI X tg l (Ej X.K C):=by
 intro g s σ H R I h;refine fU (L g s σ H _ I h) λv u c=>?_;obtain⟨x,Q,B,E,G⟩:=c;obtain⟨a,e,⟨xs,J⟩,q⟩:=G;subst e;cases E;obtain⟨its,U,p,hz⟩:=B.list J;refine ig p.isList ?_;refine⟨u.heap.objs.size,[u.heap.objs.size],_,_,Q,rfl,B.kept (t':=u.toks) λb o e=>ak _ e,Ny a _,⟨_,ay _ rfl,rfl,rfl⟩,λb O=>?_,q⟩;have e:b=u.heap.objs.size:=by simpa using O
 subst e;exact B.fpOk (av _) (B.hok.fresh (av _))
theorem Mm{g:List (ao×Obj)}{σ:St}{H:Hp}{s:am}{R:It->Hp->Prop}{E:ag->am->Prop}{lo c:Int}{t u v:Tok}{h:Nat}(I:Inv X g σ H s)(L : -(2^62)<=lo)(J:lo < 2^62)(G : -(2^62)<=c)(C:c < 2^62)
  (q:R (CP lo (c-lo).toNat) H):aD (aT X.prog X.w) X.A (BE (.ref s.heap.objs.size)) (Lx X g σ tg R) E { s with heap:=s.heap.push { cls:=.type "range",data:=.fields #[.int lo t,.int c u,.int 1 v] },toks:=h }:=by
 refine wpAny_pyIter_range (IsRange.new ..) (small_one L J G C) ?_;have l:Inv X g σ H { s with heap:=s.heap.push { cls:=.type "range",data:=.fields #[.int lo t,.int c u,.int 1 v] },toks:=h }:=I.kept λb o e=>ak _ e;refine⟨(s.heap.push { cls:=.type "range",data:=.fields #[.int lo t,.int c u,.int 1 v] }).objs.size,[(s.heap.push { cls:=.type "range",data:=.fields #[.int lo t,.int c u,.int 1 v] }).objs.size],_,_,H,rfl,
  l.kept (t':=h) λb o e=>ak _ e,Ol _ lo (c-lo).toNat,?_,λb B=>?_,q⟩
 ·have Q:lo+((0:Nat):Int)*1=lo:=by simp
  have O:(((c-lo).toNat:Nat):Int)-((0:Nat):Int)=Builtin.Range.rangeSize lo c 1:=by rw[rangeSize_one];split<;>ext
  show IsRangeIter _ _ (lo+((0:Nat):Int)*1) ((((c-lo).toNat:Nat):Int)-((0:Nat):Int)) 1;rw[Q,O];exact ay _ rfl
 ·have e:b=(s.heap.push { cls:=.type "range",data:=.fields #[.int lo t,.int c u,.int 1 v] }).objs.size:=by simpa using B
  subst e;exact l.fpOk (av _) (l.hok.fresh (av _))
def f_(g:TA):TI:=λσ H R=>g σ H λc h=>∃j:Int,c=[.int j] /\ -(2^62)<=j/\j < 2^62/\R (CP 0 j.toNat) h
def mY(g:TA):TI:=λσ H R=>g σ H λc h=>∃i j:Int,c=[.int i,.int j]/\(-(2^62)<=i/\i < 2^62 /\ -(2^62)<=j/\j < 2^62)/\R (CP i (j-i).toNat) h
theorem PK{a:Expr}{l:TA}{p pos:Pos}(C:Gl X "range")(B:X.mg "range"=none)(E:PA X [a] l)(v:starEach [a] X.env=[(false,eval a X.env)]:=by rfl):PI X tg (.Call (.Name "range" p) [a] [] pos) (f_ l):=by
 intro c s σ H R I h;refine Call_ (xw I C B boot_range (cW (fU (E pos c s σ H _ I h) λL O ⟨J,Q,G,o,g⟩=>?_) v rfl));obtain⟨j,e,g,u,q⟩:=g;subst e;cases o with
 |cons r rr=>
  cases rr;obtain⟨t,rfl⟩:=r;exact call_range_1 (Mm G (by ext) (by ext) g u (by simpa using q))
theorem WS{a b : Expr}{o : TA}{p pos : Pos}(J : Gl X "range")(G : X.mg "range" = none)(L : PA X [a, b] o)(E : starEach [a, b] X.env = [(false, eval a X.env), (false, eval b X.env)] := by rfl)(g : starEach [b] X.env = [(false, eval b X.env)] := by rfl):
  PI X tg (.Call (.Name "range" p) [a,b] [] pos) (mY o):=by
 intro c s σ H R I h;refine Call_ (xw I J G boot_range (cW (fU (L pos c s σ H _ I h) λU Y ⟨Q,H1,O,u,l⟩=>?_) (by rw[E,g]) (by rw[g];rfl)));obtain⟨i,j,e,⟨l,C,B,v⟩,q⟩:=l;subst e;cases u with
 |cons r rr=>
  cases rr with
  |cons r' rr=>
   cases rr;obtain⟨t,rfl⟩:=r;obtain⟨t',rfl⟩:=r';exact call_range_2 (Mm O l C B v q)
def GA(l:TI)(g:TG)(tb:TS):TS:=λD σ H=>l σ H λJ q=>∃W:Nat->Nat->St->Hp->Prop,(∃m,W 0 m σ q)/\∀i m σ H,W i m σ H ->
 (J.stop i H/\D.nx σ H)\/(J.go i H/\∃N:St->Hp->Prop,(∀σ' c,N σ' c->∃h,h < m/\W (i+1) h σ' c)/\∀x c,J.yld i H x c->g x σ c λσ2 o=>tb { D with nx:=N,ct:=N,bk:=D.nx } σ2 o)
noncomputable def lO(fp:List ao)(h:bA):List (ao×Obj):=fp.filterMap λb=>(h.get? b).map λo=>(b,o)
theorem CL{fp:List ao}{h:bA}{b:ao}{o:Obj}(c:b∈fp)(e:h.get? b=some o):(b,o)∈lO fp h:=lJ.mpr ⟨b,c,by rw[e];rfl⟩
theorem W7{fp:List ao}{h:bA}{p:ao×Obj}(c:p∈lO fp h):p.1∈fp/\h.get? p.1=some p.2:=by
 obtain⟨b,g,e⟩:=lJ.mp c;cases q:h.get? b with
 |none=>rw[q]at e;cases e
 |some o=>
  rw[q]at e;have l:(b,o)=p:=aE e;subst l;exact⟨g,q⟩
theorem Inv.pinned{c:List (ao×Obj)}{σ:St}{H:Hp}{s:am}{fp:List ao}(I:Inv X c σ H s)(u:∀b∈fp,nW X c H b)(q:∀b∈fp,∃o,s.heap.get? b=some o/\∀v,o.data≠.cell v):Inv X (c++lO fp s.heap) σ H s:=
 I.pins_of λp l=>(aX.mp l).elim (λz=>I.pin p (bo _ z)) λz=>by obtain⟨g,e⟩:=W7 z;obtain⟨E,C,B,_⟩:=u p.1 g;obtain⟨o,h,d⟩:=q p.1 g;rw[e]at h;cases h;exact⟨e,E,C,B,d⟩
theorem Inv.unpinned{c g:List (ao×Obj)}{σ:St}{H:Hp}{s:am}(I:Inv X (c++g) σ H s):Inv X c σ H s:=I.pins_of λp h=>I.pin p (bo _ (cH _ h))
theorem SN{iter:Expr}{L:List fH}{wi:TI}{g:TG}{tb:TS}{pos:Pos}(hp:sM (aT X.prog X.w) X.A X.env X.xe)(hc:X.calm=true)(hi:PI X tg iter wi)(hg:PG X tg g)(q:PSs X L tb)
  (hs:∀x,fk iter X.env x=pure x:=by intro _;rfl):PS X (.For tg iter L [] pos) (GA wi g tb):=by
 intro c s σ H D I h;refine wpAny_For (fU (hi c s σ H _ I h) λv s1 h1=>fU h1 λitv s2 h2=>?_) hs;obtain⟨it,fp,tn,J,H2,e,I2,T,st2,f2,W,⟨m0,w0⟩,Q⟩:=h2;subst e;have l:∀{E:Hp},(∀b∈fp,E b=none)->∀b∈fp,nW X c E b:=λhn b q=>⟨hn b q,(f2 b q).2⟩
 refine codeAny_forLoop_any (λn s'=>∃i σ' E,Inv X c σ' E s'/\tn i s'.heap/\(∀b∈fp,E b=none)/\W i n σ' E) ?_ m0 ⟨0,σ,H2,I2,st2,λb q=>(f2 b q).1,w0⟩
 rintro n s3 ⟨i,σ3,H3,I3,st3,fr3,w3⟩
 rcases Q i n σ3 H3 w3 with ⟨U,qn⟩|⟨go,N,hN,step⟩
 ·refine gZ hp (fU (T.done X rfl rfl rfl hc i c s3 σ3 H3 X.xe I3 (l fr3) st3 U) λr s4 g=>?_);obtain⟨hr,h⟩:=g;subst hr;exact tX ⟨σ3,H3,h,qn⟩
 ·refine gZ hp (fU (T.item X rfl rfl rfl hc i c s3 σ3 H3 X.xe I3 (l fr3) st3 go) λr s4 h=>?_);obtain⟨u,hr,h4⟩:=h;subst hr;refine gZ hp (fU h4 λ_ Q g=>?_);obtain⟨x,U,I5,r5,y5,O,J⟩:=g;have L:=I5.pinned (l J) (T.obj _ _ O);refine gZ hp (fU (hg _ Q σ3 U x u _ L r5 (step x U y5)) λ_ s6 Y=>?_);obtain⟨σ6,H6,I6,q6⟩:=Y;refine gZ hp (fU (q _ s6 σ6 H6 _ I6 q6) λf I G=>?_);have again:∀{σ7:St}{C:Hp},Inv X (c++lO fp Q.heap) σ7 C I->N σ7 C->∃m,m < n/\∃i σ' E,Inv X c σ' E I/\tn i I.heap/\(∀b∈fp,E b=none)/\W i m σ' E:=λ{σ7 C}B H=>by obtain⟨m',hm,w7⟩:=hN σ7 C H;refine⟨m',hm,i+1,σ7,C,B.unpinned,T.keep _ _ _ O λb q o e=>(B.pin (b,o) (bo _ (bo _ (CL q e)))).1,λb q=>?_,w7⟩;obtain⟨o,e,d⟩:=T.obj _ _ O b q;exact (B.pin (b,o) (bo _ (bo _ (CL q e)))).2.1
  cases f with
  |next=>obtain⟨σ7,C,B,H⟩:=G;exact again B H
  |cont=>obtain⟨σ7,C,B,H⟩:=G;exact again B H
  |brk=>obtain⟨σ7,C,B,G⟩:=G;exact⟨σ7,C,B.unpinned,G⟩
  |ret v=>obtain⟨x7,σ7,C,B,r7,G⟩:=G;exact⟨x7,σ7,C,B.unpinned,r7,G⟩
end
abbrev R2:=V->V->Hp->VK->Prop
def OpR(X:Cx)(f:ag->ag->Sem ag)(r:R2):Prop:=
 ∀(cp:List (ao×Obj))(s:am)(σ:St)(H:Hp)(x y:V)(v u:ag)(Q:VK),Inv X cp σ H s->RelV x v->RelV y u->r x y H Q ->
  aD (aT X.prog X.w) X.A (f v u) (EP X cp σ Q) X.xe s
def EU(X:Cx)(f:ag->Sem ag)(r:V->Hp->VK->Prop):Prop:=
 ∀(cp:List (ao×Obj))(s:am)(σ:St)(H:Hp)(x:V)(v:ag)(Q:VK),Inv X cp σ H s->RelV x v->r x H Q ->
  aD (aT X.prog X.w) X.A (f v) (EP X cp σ Q) X.xe s
def CallR(X:Cx)(f:ag)(r:List V->Hp->VK->Prop):Prop:=
 ∀(cp:List (ao×Obj))(s:am)(σ:St)(H:Hp)(xs:List V)(us:List ag)(Q:VK),Inv X cp σ H s->b7 xs us->r xs H Q ->
  aD (aT X.prog X.w) X.A (call f us) (EP X cp σ Q) X.xe s
def G1(X:Cx)(r:V->Hp->(Bool->Hp->Prop)->Prop):Prop:=
 ∀(cp:List (ao×Obj))(s:am)(σ:St)(H:Hp)(x:V)(v:ag)(Q:Bool->Hp->Prop),Inv X cp σ H s->RelV x v->r x H Q ->
  aD (aT X.prog X.w) X.A (truthy v) (TP X cp σ Q) X.xe s
noncomputable def Fc(r:R2)(c tb:TE):TE:=λσ H Q=>c σ H λx h=>tb σ h λy g=>r x y g Q
noncomputable def Mn(r:V->Hp->VK->Prop)(c:TE):TE:=λσ H Q=>c σ H λx g=>r x g Q
noncomputable def rI(C:Int->Int->Prop)(g:Int->Int->V):R2:=λx y H Q=>∃i j,x=.int i/\y=.int j/\C i j/\Q (g i j) H
noncomputable def Bn(g:Int->Int->V):R2:=λx y H Q=>∃i j,x=.int i/\y=.int j/\Q (g i j) H
noncomputable def rU(g:Int->V):V->Hp->VK->Prop:=λx H Q=>∃i,x=.int i/\Q (g i) H
section
variable{X:Cx}{a b c:Expr}{ta tb tc:TE}{pos:Pos}
theorem Ap(c:PE X a ta)(Y:PE X b tb){g:List (ao×Obj)}{s:am}{σ:St}{H:Hp}{R:V->V->Hp->Prop}(I:Inv X g σ H s)
  (h:ta σ H λx C=>tb σ C λy l=>R x y l) {Q:ag->am->Prop}{f:ag->ag->Sem ag}
  (U:∀v u B x y l,Inv X g σ l B->RelV x v->RelV y u->R x y l->aD (aT X.prog X.w) X.A (f v u) Q X.xe B):
  aD (aT X.prog X.w) X.A (eval a X.env) (λv s₁=>aD (aT X.prog X.w) X.A (eval b X.env) (λu s₂=>aD (aT X.prog X.w) X.A (f v u) Q X.xe s₂) X.xe s₁) X.xe s:=by
 refine fU (c g s σ H _ I h) λv E q=>?_;obtain⟨x,C,I1,J,O⟩:=q;refine fU (Y g E σ C _ I1 O) λu B o=>?_;obtain⟨y,l,I2,G,L⟩:=o;exact U v u B x y l I2 J G L
theorem T9{op:rK}{r:R2}(C:OpR X (eZ op) r)(G:PE X a ta)(E:PE X b tb):PE X (.BinOp a op b pos) (Fc r ta tb):=by intro g s σ H Q I h;exact wpAny_BinOp (Ap G E I h λv u l x y L J B o q=>C g l σ L x y v u Q J B o q)
theorem LS{op:UnaryOp}{r:V->Hp->VK->Prop}(B:EU X (Cg op) r)(C:PE X a ta):PE X (.UnaryOp op a pos) (Mn r ta):=by intro g s σ H Q I h;exact UnaryOp_ (fU (C g s σ H _ I h) λv o l=>by obtain⟨x,G,E,q,u⟩:=l;exact B g o σ G x v Q E q u)
theorem Fv{f:ag->ag->Sem ag}{C:Int->Int->Prop}{g:Int->Int->Int}
  (rule:∀(i j:Int)(t u:Tok)(s:am)(Q:ag->am->Prop)(E:ag->am->Prop),C i j->Q (.int (g i j) s.toks) { s with toks:=s.toks+1 }->aD (aT X.prog X.w) X.A (f (.int i t) (.int j u)) Q E s):
  OpR X f (rI C λi j=>.int (g i j)):=by
 intro l s σ H x y v u Q I B o h;obtain⟨i,j,rfl,rfl,G,q⟩:=h;obtain⟨t,rfl⟩:=B;obtain⟨t',rfl⟩:=o;exact rule i j t t' s _ _ G ⟨.int (g i j),H,I.tok _,⟨_,rfl⟩,q⟩
theorem Ey{f:ag->ag->Sem ag}{g:Int->Int->Int}
  (rule:∀(i j:Int)(t u:Tok)(s:am)(Q:ag->am->Prop)(E:ag->am->Prop),Q (.int (g i j) s.toks) { s with toks:=s.toks+1 }->aD (aT X.prog X.w) X.A (f (.int i t) (.int j u)) Q E s):
  OpR X f (Bn λi j=>.int (g i j)):=by
 intro l s σ H x y v u Q I B o h;obtain⟨i,j,rfl,rfl,q⟩:=h;obtain⟨t,rfl⟩:=B;obtain⟨t',rfl⟩:=o;exact rule i j t t' s _ _ ⟨.int (g i j),H,I.tok _,⟨_,rfl⟩,q⟩
theorem zZ{f:ag->ag->Sem ag}{g:Int->Int->Bool}
  (rule:∀(i j:Int)(t u:Tok)(s:am)(Q:ag->am->Prop)(E:ag->am->Prop),Q (.bool (g i j)) s->aD (aT X.prog X.w) X.A (f (.int i t) (.int j u)) Q E s):
  OpR X f (Bn λi j=>.bl (g i j)):=by
 intro l s σ H x y v u Q I B o h;obtain⟨i,j,rfl,rfl,q⟩:=h;obtain⟨t,rfl⟩:=B;obtain⟨t',rfl⟩:=o;exact rule i j t t' s _ _ ⟨.bl (g i j),H,I,rfl,q⟩
noncomputable def GD(i j:Int):Prop:=0 < j/\j < 1073741824
noncomputable def Jw(i j:Int):Prop:=0<=j/\j<=1000000/\i.natAbs < 2^64
noncomputable def Bp(i j:Int):Prop:=(-(2^64) < i/\i < 2^64)\/(-(2^64) < j/\j < 2^64)
theorem Bp.ok{i j:Int}(h:Bp i j):IntMulOk i j:=by
 rcases h with ⟨l,g⟩|⟨l,g⟩
 ·exact .of_left (intBits_le_64 l g)
 ·exact .of_right (intBits_le_64 l g)
theorem Rv:OpR X (eZ .Add) (Bn λi j=>.int (i+j)):=Ey λ_ _ _ _ _ _ _ q=>add_int q
theorem UR:OpR X (eZ .Sub) (Bn λi j=>.int (i-j)):=Ey λ_ _ _ _ _ _ _ q=>sub_int q
theorem Sv:OpR X (eZ .Mult) (rI Bp λi j=>.int (i*j)):=Fv λ_ _ _ _ _ _ _ g q=>mul_int q g.ok
theorem Qz:OpR X (eZ .FloorDiv) (rI GD λi j=>.int (i / j)):=Fv λi j _ _ _ _ _ g q=>by have l:(0:Int) < j:=g.1;have h:j < 1073741824:=g.2;exact floordiv_int (by ext) (by rw[Int.fdiv_eq_ediv_of_nonneg i (by ext)];exact q) (.inl (PyProof.noPylong_small (by ext)))
theorem Pb:OpR X (eZ .Mod) (rI (λ_ j=>0 < j) λi j=>.int (i % j)):=Fv λi j _ _ _ _ _ g q=>by have h:(0:Int) < j:=g;exact mod_int' (by ext) (by rw[Int.fmod_eq_emod_of_nonneg i (by ext)];exact q)
theorem RN:OpR X (eZ .Pow) (rI Jw λi j=>.int (i^j.toNat)):=Fv λ_ _ _ _ _ _ _ g q=>pow_int_small g.1 g.2.1 g.2.2 q
theorem TZ{f:ag->Sem ag}{g:Int->Int}
  (rule:∀(i:Int)(t:Tok)(s:am)(Q:ag->am->Prop)(E:ag->am->Prop),Q (.int (g i) s.toks) { s with toks:=s.toks+1 }->aD (aT X.prog X.w) X.A (f (.int i t)) Q E s):
  EU X f (rU λi=>.int (g i)):=by
 intro l s σ H x v Q I o h;obtain⟨i,rfl,q⟩:=h;obtain⟨t,rfl⟩:=o;exact rule i t s _ _ ⟨.int (g i),H,I.tok _,⟨_,rfl⟩,q⟩
theorem MP:EU X (Cg .USub) (rU λi=>.int (-i)):=TZ λ_ _ _ _ _ q=>neg_int q
end
section
variable{X:Cx}{a b c:Expr}{ta tb tc:TE}{pos:Pos}
theorem Kr{g:List (ao×Obj)}{σ:St}{H:Hp}{s:am}{Q:VK}{k h:Bool}(I:Inv X g σ H s)(q:Q (.bl k) H)(e:k=h):EP X g σ Q (.bool h) s:=by subst e;exact⟨.bl k,H,I,rfl,q⟩
theorem Ss:OpR X (cX .Lt) (Bn λi j=>.bl (decide (i < j))):=zZ λ_ _ _ _ _ _ _ q=>lt_int q
theorem Pn:OpR X (cX .Gt) (Bn λi j=>.bl (decide (j < i))):=zZ λ_ _ _ _ _ _ _ q=>gt_int q
theorem Vn:OpR X (cX .GtE) (Bn λi j=>.bl (decide (j<=i))):=zZ λ_ _ _ _ _ _ _ q=>ge_int q
theorem T1:OpR X (cX .Is) (λx y H Q=>y=.non/\Q (.bl (decide (x=.non))) H):=by
 intro l s σ H x y v u Q I g o h;obtain⟨rfl,q⟩:=h;cases o;refine is_none_gen (Kr I q ?_);cases x<;>first
  | (cases g;rfl)
  | (obtain⟨t,rfl⟩:=g;rfl)
theorem T4:OpR X (cX .IsNot) (λx y H Q=>y=.non/\Q (.bl (!decide (x=.non))) H):=by
 intro l s σ H x y v u Q I g o h;obtain⟨rfl,q⟩:=h;cases o;refine isnot_none_gen (Kr I q ?_);cases x<;>first
  | (cases g;rfl)
  | (obtain⟨t,rfl⟩:=g;rfl)
theorem Xa(b:Expr){op:sX}(h:op≠.In:=by decide)(g:op≠.NotIn:=by decide):iV op b=false:=by
 have o:(op == sX.In)=false:=by cases op<;>first|rfl|exact bn rfl h
 have l:(op == sX.NotIn)=false:=by cases op<;>first|rfl|exact bn rfl g
 cases b<;>simp[iV,o,l]
theorem Qc{op:sX}{r:R2}(C:OpR X (cX op) r)(J:PE X a ta)(G:PE X b tb)(E:iV op b=false):PE X (.Compare a [op] [b] pos) (Fc r ta tb):=by intro g s σ H Q I h;exact wpAny_Compare1 (Ap J G I h λv u l x y O L B o q=>C g l σ O x y v u Q L B o q) E
noncomputable def D0(t:TE):TT:=λσ H Q=>t σ H λx g=>∃k,x=.bl k/\Q k g
theorem UO{op:sX}{r:R2}(L:OpR X (cX op) r)(Y:PE X a ta)(U:PE X b tb)(O:iV op b=false):PT X (.Compare a [op] [b] pos) (D0 (Fc r ta tb)):=by
 intro g s σ H Q I h;refine wpAny_isTrue_Compare1 (fU (Y g s σ H _ I h) λv o ⟨x,H1,I1,C,J⟩=>fU (U g o σ H1 _ I1 J) λu l ⟨y,H2,I2,B,G⟩=>
  fU (L g l σ H2 x y v u _ I2 C B G) λc s3 ⟨z,H3,I3,q,k,e,E⟩=>?_) O
 subst e;cases q;exact fj ⟨H3,I3,E⟩
def Bj(K:aj)(x:V)(H:Hp)(k:Bool):Prop:=
 match x with
 | .non=>k=false
 | .bl b=>k=b
 | .int i=>k=(i != 0)
 | .str y=>y.length<=sizeLine/\k=((y.length:Int) != 0)
 | .byt y=>y.size<=sizeLine/\k=((y.size:Int) != 0)
 | .ref p=>(∃xs,gY K H p xs/\k = !xs.isEmpty)\/(∃xs,iT K H p xs/\k = !xs.isEmpty)\/∃g,H p=some (.dK g)/\k = !g.isEmpty
 |_=>False
theorem OD{κ:Type}{g:List (κ×V)}{h:List (κ×ag)}(r:KV g h):(!h.isEmpty) = !g.isEmpty:=by cases r<;>rfl
theorem Kw{xs:List V}{its:List ag}(r:b7 xs its):(!its.toArray.isEmpty) = !xs.isEmpty:=by cases r<;>simp
theorem zt:(sizeLine:Nat) < 2^63:=by rw[lx];decide
theorem RT:G1 X (λx H Q=>∃k,Bj X.K x H k/\Q k H):=by
 intro G s σ H x v Q I u h;obtain⟨k,e,q⟩:=h;have U:=zt;have O:sizeLine=16777216:=lx;cases x with
 |non=>
  cases u;have g:k=false:=e;subst g;exact truthy_none ⟨H,I,q⟩
 |bl b=>
  cases u;have g:k=b:=e;subst g;exact fj ⟨H,I,q⟩
 |int i=>
  obtain⟨t,rfl⟩:=u;have g:k=(i != 0):=e;subst g;exact PySem.P.truthy_int ⟨H,I,q⟩
 |str y=>
  obtain⟨t,rfl⟩:=u;obtain⟨J,g⟩:y.length<=sizeLine/\k=((y.length:Int) != 0):=e;subst g;exact PySem.P.truthy_str (by ext) ⟨H,I.tok _,q⟩
 |byt y=>
  obtain⟨t,rfl⟩:=u;obtain⟨J,g⟩:y.size<=sizeLine/\k=((y.size:Int) != 0):=e;subst g;exact PySem.W.truthy_bytes (by ext) ⟨H,I.tok _,q⟩
 |ref p=>
  cases u;have g:(∃xs,gY X.K H p xs/\k = !xs.isEmpty)\/(∃xs,iT X.K H p xs/\k = !xs.isEmpty)\/∃l,H p=some (.dK l)/\k = !l.isEmpty:=e;rcases g with ⟨xs,B,g⟩|⟨xs,B,g⟩|⟨l,B,g⟩
  ·subst g;obtain⟨its,r,E,hz⟩:=I.list B;have o:=r.length;exact wpAny_truthy_list E.isList (by simp only[aF];ext) ⟨H,I.tok _,by rw[Kw r];exact q⟩
  ·subst g;obtain⟨its,r,E,hz⟩:=I.tuple B;have o:=r.length;exact truthy_tuple E (by simp only[aF];ext) ⟨H,I.tok _,by rw[Kw r];exact q⟩
  ·subst g;obtain⟨hz,L,C,r,m⟩:l.length<=sizeLine/\(p == bO)=false/\∃C,KV l C/\s.heap.DictOf (gG X.prog X.w) p C:=I.hok p _ B;have o:l.length=C.length:=bZ r;exact wpAny_truthy_dict L m (by ext) ⟨H,I.tok _,by rw[OD r];exact q⟩
 |_=>exact (show False from e).elim
theorem QJ(E:PE X a ta)(C:∀whole,isTrue a X.env whole=(do let v <- whole; wY a.pos; kq [v] (truthy v))):
  PT X a (λσ H Q=>ta σ H λx o=>∃k,Bj X.K x o k/\Q k o):=by
 intro g s σ H Q I h;exact isTrue_plain (fU (E g s σ H _ I h) λv q l=>by obtain⟨x,J,G,u,B⟩:=l;exact RT g q σ J x v Q G u B) (C _)
theorem OB:OpR X (eZ .Add) (λx y H Q=>∃i j,x=.str i/\y=.str j/\i.length+j.length<=sizeLine/\Q (.str (i++j)) H):=by intro g s σ H x y v u Q I o l h;obtain⟨i,j,rfl,rfl,hz,q⟩:=h;obtain⟨t,rfl⟩:=o;obtain⟨t',rfl⟩:=l;exact add_str (λt' B=>⟨.str (i++j),H,I.tok _,⟨_,rfl⟩,q⟩) hz
theorem uV{x:V}{g:List ag}(r:b7 [x] g):∃u,g=[u]/\RelV x u:=by
 cases r with
 |cons r1 r2=>cases r2;exact⟨_,rfl,r1⟩
theorem GL{x y:V}{h:List ag}(r:b7 [x,y] h):∃u g,h=[u,g]/\RelV x u/\RelV y g:=by
 cases r with
 |cons r1 r2=>
  cases r2 with
  |cons r3 r4=>cases r4;exact⟨_,_,rfl,r1,r3⟩
theorem W0(o:X.calm=true):CallR X (.builtin "min") (λxs H Q=>∃i j,xs=[.int i,.int j]/\Q (.int (if j < i then j else i)) H):=by
 intro l s σ H xs B Q I r h;obtain⟨i,j,rfl,q⟩:=h;obtain⟨u,v,rfl,⟨t,rfl⟩,⟨t',rfl⟩⟩:=GL r;refine min_two_ints (I.ok.hd o) λh' C k=>⟨_,H,I.kept k,?_,q⟩
 by_cases g:j < i
 ·rw[aG g,aG g];exact⟨_,rfl⟩
 ·rw[aC g,aC g];exact⟨_,rfl⟩
theorem Tx:CallR X (.type "int") (λxs H Q=>(∃i,xs=[.int i]/\Q (.int i) H)\/∃k,xs=[.bl k]/\Q (.int (if k then 1 else 0)) H):=by
 intro g s σ H xs o Q I r h;rcases h with ⟨i,rfl,q⟩|⟨k,rfl,q⟩
 ·obtain⟨u,rfl,t,rfl⟩:=uV r;exact call_int_int ⟨.int i,H,I,⟨_,rfl⟩,q⟩
 ·obtain⟨u,rfl,l⟩:=uV r;cases l;exact call_int_bool ⟨.int (if k then 1 else 0),H,I.tok _,⟨_,rfl⟩,q⟩
end
structure Ai(h:bA)(x dx C:ao)(mA:Str->Option ag):Prop where
 obj:h.get? x=some (pZ C dx)
 ns:h.Ns1 dx mA
 ne:dx≠x
theorem Ur{h:bA}{v:ao}{l:Str->Option ag}(n:h.Ns1 v l):∃g,h.get? v=some g/\∀name,qO name g=some (l name):=by
 obtain⟨o,u,ep,C,hd,G,_,E⟩:=n;refine⟨o,C,λname=>?_⟩;have e:=E name;unfold nsFind findBy at e;rw[<- Array.find?_toList]at e;unfold qO;rw[hd];dsimp only;split
 ·rename_i y q;rw[q]at e;exact cR some e
 ·rename_i q;rw[q]at e;have a:u.toList.any (·.refKey)=false:=by rw[List.any_eq_false];intro y B;obtain⟨z,t,c⟩:=G y (Array.mem_toList_iff.mp B);simp[fm.refKey,c]
  have H:¬ u.toList.any (·.refKey)=true:=by rw[a];exact aY
  rw[aC H];exact cR some e
theorem Ai.look{h:bA}{x l C:ao}{g:Str->Option ag}(I:Ai h x l C g):∃c,PySem.W.InstAt h x (pZ C l) C (some c)/\∀name,qO name c=some (g name):=
 let ⟨c,ho,hl⟩:=Ur I.ns
 ⟨c,⟨I.obj,rfl,rfl,ho⟩,hl⟩
theorem pi.some_of{v:V}{o:Option ag}(r:pi (some v) o):∃u,o=some u/\RelV v u:=by
 cases o with
 |none=>exact (show False from r).elim
 |some u=>exact⟨u,rfl,r⟩
section
variable{P:Program}{w:bE}{H H':Hp}{h h':bA}{a C dx:ao}{fs e7:List (Str×V)}
theorem SX(g:nI P w H h)(e:H a=some (.ins C dx fs)):∃c,Ai h a dx C c/\(∀f,pi (fs.lookup f) (c f))/\BB c (fs.map (·.1))/\fs.length<=1000/\H dx=some (.own a):=by
 obtain⟨d,z,o,l,c,n,r,q⟩:=(show eU P w H h a (.ins C dx fs) from g a _ e)
 exact⟨c,⟨l,n,o⟩,r,q,z,d⟩
end
structure Je(K:aj)(C:ao):Prop where
 pg:vK K C Str.empty=true
 hd:PySem.W.hasDictIn K C=true
 po:PySem.W.plainOver K C=true
 sa:w8 K (.ref C) "__setattr__"=some (some (.builtin "object.__setattr__"))
theorem Je.get{K:aj}{C:ao}(c:Je K C)(f:Str):vK K C f=true:=c.pg
section
variable{X:Cx}{o e value:Expr}{f:Str}{pos eh em:Pos}{ta tv:TE}
noncomputable def CV:V->V->Hp->VK->Prop:=λx y H Q=>∃i j,x=.int i/\y=.int j/\Q (.int (i-j)) H
end
section
variable{X:Cx}{cp:List (ao×Obj)}{σ:St}{H:Hp}{s:am}{A:bv}{E:ag->am->Prop}{Q:ag->am->Prop}{c:ag}{b:Bool}
inductive pV(K:aj)(H:Hp):V->ag->Prop where
 |non:pV K H .non (.type "NoneType")
 |bl (x:Bool):pV K H (.bl x) (.type "bool")
 |int (i:Int):pV K H (.int i) (.type "int")
 |str (x:Str):pV K H (.str x) (.type "str")
 |flt (x:UInt64):pV K H (.flt x) (.type "float")
 |lst {a:ao}{xs:List V} (e:H a=some (.lst xs)):pV K H (.ref a) (.type "list")
 |frz {a:ao}{o:Obj}{xs:List V} (e:H a=some (.frz o (.lst xs))):pV K H (.ref a) (.type "list")
 |tup {a:ao}{xs:List V} (e:H a=some (.tup xs)):pV K H (.ref a) (.type "tuple")
 |dK {a:ao}{cx:List (Key×V)} (e:H a=some (.dK cx)):pV K H (.ref a) (.type "dict")
 |dT {a:ao}{cx:List (List Key×V)} (e:H a=some (.dT cx)):pV K H (.ref a) (.type "dict")
 |ins {a C dx : ao} {fs : List (Str×V)} (e : H a = some (.ins C dx fs)) (cl : Je K C) (ha : w8 K (.ref C) "__class__" = some (some (.builtin "object.__class__")))
   (hn:PySem.W.specialIn K (.builtin "object.__class__") "__get__"=some (some (.builtin "getset_descriptor.__get__"))) (htk:PySem.W.takesIn K (.builtin "object.__class__")=some true)
   (hm:PySem.W.mroIn K C (.type "object")=some true):pV K H (.ref a) (.ref C)
theorem F_{x:V}{u t:ag}(I:Inv X cp σ H s)(g:RelV x u)(ty:pV X.K H x t)(e:fQ X.K t c=some b)(h:∀B,Q (.bool b) { s with toks:=B }):
  aD (aT X.prog X.w) A (call (.builtin "isinstance") [u,c]) Q E s:=by
 cases ty with
 |non=>cases (show u=bF from g);exact cO PySem.W.kitx_none I.kIn eE e nofun h
 |bl y=>cases (show u=df y from g);exact cO PySem.W.kitx_bool I.kIn eE e nofun h
 |int i=>obtain⟨t,q⟩:=(show ∃t,u=fZ i t from g);cases q;exact cO PySem.W.kitx_int I.kIn eE e nofun h
 |str y=>obtain⟨t,q⟩:=(show ∃t,u=iE y t from g);cases q;exact cO PySem.W.kitx_str I.kIn eE e nofun h
 |flt y=>obtain⟨t,q⟩:=(show ∃t,u=Cc y t from g);cases q;exact cO PySem.W.kitx_float I.kIn eE e nofun h
 |@lst a xs ea=>
  cases (show u=aV a from g);obtain⟨_,_,n,_,l⟩:=(show eU X.prog X.w H s.heap a (.lst xs) from I.hok a _ ea)
  exact cO oV I.kIn ⟨_,l,rfl⟩ e nofun h
 |@frz a ob xs ea=>
  cases (show u=aV a from g);obtain⟨_,_,_,n,_,l⟩:=(show eU X.prog X.w H s.heap a (.frz ob (.lst xs)) from I.hok a _ ea)
  exact cO oV I.kIn ⟨_,l,rfl⟩ e nofun h
 |@tup a xs ea=>
  cases (show u=aV a from g);obtain⟨_,_,_,p⟩:=(show eU X.prog X.w H s.heap a (.tup xs) from I.hok a _ ea)
  obtain⟨o,l,v,_⟩:=p;exact cO uE I.kIn ⟨o,l,v⟩ e nofun h
 |@dK a cx ea=>
  cases (show u=aV a from g);obtain⟨_,_,L,_,p⟩:=(show eU X.prog X.w H s.heap a (.dK cx) from I.hok a _ ea)
  obtain⟨o,G,ep,l,v,_⟩:=p;exact cO oW I.kIn ⟨o,l,v.1⟩ e nofun h
 |@dT a cx ea=>
  cases (show u=aV a from g);obtain⟨_,_,xs,_,o,G,ep,l,v,_⟩:=(show eU X.prog X.w H s.heap a (.dT cx) from I.hok a _ ea)
  exact cO oW I.kIn ⟨o,l,v.1⟩ e nofun h
 |@ins a C dx fs ea cl ha hn htk hm=>
  cases (show u=aV a from g);obtain⟨Y,O,_⟩:=SX I.hok ea;obtain⟨U,J,_⟩:=O.look;exact cO (PySem.W.kitx_own (cl.get _) cl.hd ha hn htk hm) I.kIn J e nofun h
end
structure iU(k:Nat)(A:bv):Prop where
 hd:A.handled=none
 dp:A.depth+3*k+5 < recursionLimit
 un:A.units+16*k+200 < cA
theorem iU.mono{j k:Nat}{A:bv}(r:iU k A)(h:j<=k):iU j A:=⟨r.hd,by have:=r.dp;ext,by have:=r.un;ext⟩
theorem iU.deeper{k:Nat}{A:bv}(r:iU (k+1) A)(env:Env):iU k (A.deeper env):=
 ⟨r.hd,by have:=r.dp;show A.depth+1+3*k+5 < _;ext,by have:=r.un;show A.units+3+16*k+200 < _;ext⟩
theorem iU.depth{k:Nat}{A:bv}(r:iU k A):A.depth < recursionLimit:=by have:=r.dp;ext
theorem iU.units{k:Nat}{A:bv}(r:iU k A):A.units+64 < cA:=by have:=r.un;ext
noncomputable def Ij:TA:=λ_ H Q=>Q [] H
noncomputable def Cv(g:TE)(c:TA):TA:=λσ H Q=>g σ H λx l=>c σ l λxs h=>Q (x::xs) h
section
variable{X:Cx}{e:Expr}{es:List Expr}{te:TE}{t:TA}{pos:Pos}
theorem uz:PA X [] Ij:=λ_ _ _ _ H Q I h=>pv ⟨[],H,I,.nil,h⟩
theorem qA(J:PE X e te)(G:PA X es t)(E:starEach (e::es) X.env=(false,eval e X.env)::starEach es X.env:=by rfl):PA X (e::es) (Cv te t):=by
 intro pos c s σ H Q I h;rw[E]
 show aD _ _ (Cd ((false,eval e X.env)::backTo pos (starEach es X.env))) _ _ s;refine oX (fU (J c s σ H _ I h) λu o l=>?_);obtain⟨x,Y,O,v,C⟩:=l;exact fU (G pos c o σ Y _ O C) λus s2 g=>by obtain⟨xs,U,L,q,B⟩:=g;exact⟨x::xs,U,L,.cons v q,B⟩
def Jc(t:TA):TE:=λσ H Q=>t σ H λxs c=>xs.length<=sizeLine/\∀p,c p=none->Q (.ref p) (ff c p (.tup xs))
def JH(t:TA):TE:=λσ H Q=>t σ H λxs c=>xs.length<=sizeLine/\∀p,c p=none->Q (.ref p) (ff c p (.lst xs))
theorem U5{v}(h:PA X es t):PE X (.Tuple es v pos) (Jc t):=by intro c s σ H Q I C;refine wpAny_Tuple_spliced (fU (h pos c s σ H _ I C) λB g ⟨xs,o,l,r,z,q⟩=>⟨by rw[<- r.length];exact z,?_⟩);have E:o g.heap.objs.size=none:=l.hok.fresh (av _);refine⟨.ref g.heap.objs.size,ff o g.heap.objs.size (.tup xs),l.laid (t':=g.toks) (λb u e=>ak _ e) (av _) ?_,rfl,q _ E⟩;exact⟨z,B,r,⟨_,ay _ rfl,rfl,⟨_,rfl⟩,rfl⟩⟩
theorem Qe(h:PA X es t):PE X (.List es pos) (JH t):=by intro c s σ H Q I B;refine wpAny_List_spliced (fU (h pos c s σ H _ I B) λv g ⟨xs,o,l,r,z,q⟩=>⟨by rw[<- r.length];exact z,?_⟩);have C:o g.heap.objs.size=none:=l.hok.fresh (av _);refine⟨.ref g.heap.objs.size,ff o g.heap.objs.size (.lst xs),l.laid (t':=g.toks) (λb u e=>ak _ e) (av _) ?_,rfl,q _ C⟩;exact⟨z,v,0,r,ay _ rfl⟩
end
abbrev Sp:=List V->Hp->VK->XK->Prop
abbrev wn:=List Env->Hp->am->XK->ag->am->Prop
structure vB(P:Program)(w:bE)(K:aj)(mg:Str->Option ag)(base:bA)(A:bv)(outer:List Env)(s:am)(H:Hp):Prop where
 frames:A.frames=some outer
 mod:Mod K mg base
 bs:∀b o,base.get? b=some o->s.heap.get? b=some o/\H b=none
 bsz:base.objs.size<=s.heap.objs.size
 funs:s.heap.FunFrames base outer
 frf:∀b∈fY outer,H b=none
 hok:nI P w H s.heap
 bare:lY s.gens
def CE(outer:List Env)(P:Program)(w:bE)(H:Hp)(s:am)(Q:VK)(u:ag)(c:am):Prop:=
 ∃v g,c.os=s.os/\lY c.gens/\Un (fY outer) [] H g s.heap c.heap/\nI P w g c.heap/\RelV v u/\Q v g
def CR(g:wn)(outer:List Env)(P:Program)(w:bE)(H:Hp)(s:am)(Q:VK)(E:XK)(r:BF)(c:am):Prop:=
 match r with
 | .ok (.ret u)=>CE outer P w H s Q u c
 | .ok _=>False
 | .error e=>g outer H s E e c
structure m7(P:Program)(w:bE)(K:aj)(mg:Str->Option ag)(base:bA)(CX:wn)(k:Nat)(f:ao)(fd:dG)(ps:List Str)(sp:Sp):Prop where
 len:∀vs H Q E,sp vs H Q E->vs.length=ps.length
 run:∀(A:bv)(outer:List Env)(s:am)(H:Hp)(args:Args)(us:List ag)(vs:List V)(Q:VK)(E:XK),iU k A->vB P w K mg base A outer s H->rL s fd args (ps.zip us)->b7 vs us->sp vs H Q E ->
  i6 (aT P w) A (.call (.ref f) args) (CR CX outer P w H s Q E) s
section
variable{X:Cx}{cp:List (ao×Obj)}{σ:St}{H:Hp}{s s':am}
theorem Inv.env0(I:Inv X cp σ H s):vB X.prog X.w X.K X.mg X.base X.A X.stack s H:=
 ⟨I.ok.frames,I.ok.mod,I.bs,cS I.ok.bsz I.sz,I.stack,I.stkFree,I.hok,I.bare⟩
theorem Inv.after{Q:VK}{u:ag}(I:Inv X cp σ H s)(h:CE X.stack X.prog X.w H s Q u s'):EP X cp σ Q u s':=by obtain⟨v,B,os,c,un,o,r,q⟩:=h;obtain⟨hh,g,d,t,l⟩:=s';obtain rfl:l=s.os:=os;exact⟨v,B,I.call (h':=hh) (g':=g) (d':=d) (t':=t) (ch:=[]) un o c (λb z=>bn z (by simp)),r,q⟩
end
noncomputable def De(h:Sp)(c:List V)(E:XK)(t:TA):TE:=λσ H Q=>t σ H λg l=>h (g++c) l Q E
noncomputable def Binds(K:aj)(h:dG)(g:List Str)(ds:List ag):Prop:=
 ∀(s:am)(c:List ag),K.In s.heap->(c++ds).length=g.length->rL s h ⟨c,[]⟩ (g.zip (c++ds))
theorem Binds.all{K:aj}{o:dG}{g:List Str}(h:∀c:List ag,c.length=g.length->lA o ⟨c,[]⟩=pure (g.zip c)):Binds K o g []:=λs c _ l=>by rw[bI]at l ⊢;exact .of_eq (h c l)
def sD(c:wn)(X:Cx)(E:XK):Prop:=∀(cp:List (ao×Obj))(σ:St)(H:Hp)(s:am)(e:ag)(s':am),Inv X cp σ H s->c X.stack H s E e s'->X.xe e s'
section
variable{X:Cx}{CX:wn}{k:Nat}{f C:ao}{fd:dG}{ps:List Str}{sp:Sp}{ez:List V}{ds:List ag}{E:XK}{x m:Str}{p pos ec:Pos}{e o:Expr}{es:List Expr}{ta:TE}{t:TA}
theorem Wh{c:List (ao×Obj)}{σ:St}{H:Hp}{s:am}{Q:VK}{g:List ag}{q:List V}(F:m7 X.prog X.w X.K X.mg X.base CX k f fd ps sp)(J:iU k X.A)(O:Binds X.K fd ps ds)(hd:b7 ez ds)(G:sD CX X E)
  (I:Inv X c σ H s) (r:b7 q g) (h:sp (q++ez) H Q E):aD (aT X.prog X.w) X.A (call (.ref f) g) (EP X c σ Q) X.xe s:=by
 have v:b7 (q++ez) (g++ds):=r.append hd;have L:(g++ds).length=ps.length:=by rw[<- v.length];exact F.len _ _ _ _ h
 refine wpAny_call (n_ (F.run X.A X.stack s H ⟨g,[]⟩ (g++ds) (q++ez) Q E J I.env0 (O s g I.kIn L) v h) λr B l=>?_);cases r with
 |error e=>exact G c σ H s e B I l
 |ok fl=>
  cases fl with
  |ret u=>exact I.after l
  |next=>exact dW l
  |brk=>exact dW l
  |cont=>exact dW l
theorem Kv(F:m7 X.prog X.w X.K X.mg X.base CX k f fd ps sp)(B:iU k X.A)(L:Gl X x)(G:X.mg x=some (.ref f))(J:dm X.K (.ref f)=true)(U:Binds X.K fd ps ds)(hd:b7 ez ds)(v:sD CX X E)
  (Y:PA X (e::es) t) (l:(x == ("__debug__":Str))=false:=by decide) (O:starEach (e::es) X.env=(false,eval e X.env)::starEach es X.env:=by rfl) (g:(backTo pos (starEach es X.env)).any (·.1)=false:=by rfl):
  PE X (.Call (.Name x p) (e::es) [] pos) (De sp ez E t):=by
 intro c s σ H Q I h;refine fJ (SH I L G ?_ l);refine PySem.W.callWith_K (h₀:=X.base) I.ok.mod.kin J (fU (Y pos c s σ H _ I h) λC s1 ⟨o,H1,u,r,q⟩=>⟨u.kIn,?_⟩) O g;exact Wh F B U hd v u r q
end
section
variable{X:Cx}{CX:wn}{k:Nat}{f C:ao}{fd:dG}{ps ks:List Str}{sp:Sp}{E:XK}{x m:Str}{p pos ec e6:Pos}{e o:Expr}{es:List Expr}{kws:List kr}{te ta:TE}{t tk:TA}{nm:Option Str}
variable{g:List ag->List ag->List ag}{gV:List V->List V->List V}
end
structure lI(N P:List Str)(sc:dR):Prop where
 kind:sc.kind=.function
 co:sc.isCoroutine=false
 gen:sc.isGenerator=false
 nd:N.Nodup
 pre:N.take P.length=P
 par:∀x∈P,sc.names.lookup x=some .local\/sc.names.lookup x=some .cell
 nofree:∀y∈sc.names,y.2≠.free
theorem NG{kindOf:Str->Option fA}{x:Str}:∀{binds:List (Str×ag)}{m:Str->Option ag},(∀v,(x,v)∉binds)->wa kindOf binds m x=m x
 |[],_,_=>rfl
 | (n,v)::r,m,h=>by
  unfold wa;rw[NG λw c=>h w (bw _ c)];split
  ·have:x≠n:=by rintro rfl;exact h v cK
   simp[this]
  ·rfl
theorem KY{kindOf:Str->Option fA}{x:Str}:∀{binds:List (Str×ag)}{m:Str->Option ag},(∀v,(x,v)∉binds)->wc kindOf binds m x=m x
 |[],_,_=>rfl
 | (n,v)::r,m,h=>by
  unfold wc;rw[KY λw c=>h w (bw _ c)];split
  ·rfl
  ·have:x≠n:=by rintro rfl;exact h v cK
   simp[this]
theorem La{kindOf:Str->Option fA}{x:Str}{v:ag}: ∀{P:List Str}{c:List ag}{i:Nat}{m:Str->Option ag},P.Nodup->P[i]?=some x->c[i]?=some v->kindOf x=some .local ->
  wa kindOf (P.zip c) m x=some v
 |[],_,_,_,_,h,_,_=>by simp at h
 |_::_,[],_,_,_,_,h,_=>by simp at h
 |p::P,w::c,0,m,nd,h1,h2,hk=>by
  simp at h1 h2;subst h1;subst h2
  show wa kindOf ((p,w)::P.zip c) m p=_;unfold wa;rw[NG λv g=>(eL.mp nd).1 (m8 g).1,aG hk];simp
 |p::P,w::c,i+1,m,nd,h1,h2,hk=>by show wa kindOf ((p,w)::P.zip c) m x=_;unfold wa;exact La (i:=i) (eL.mp nd).2 (by simpa using h1) (by simpa using h2) hk
theorem Mu{kindOf:Str->Option fA}{x:Str}{v:ag}: ∀{P:List Str}{c:List ag}{i:Nat}{m:Str->Option ag},P.Nodup->P[i]?=some x->c[i]?=some v->kindOf x≠some .local ->
  wc kindOf (P.zip c) m x=some v
 |[],_,_,_,_,h,_,_=>by simp at h
 |_::_,[],_,_,_,_,h,_=>by simp at h
 |p::P,w::c,0,m,nd,h1,h2,hk=>by
  simp at h1 h2;subst h1;subst h2
  show wc kindOf ((p,w)::P.zip c) m p=_;unfold wc;rw[KY λv g=>(eL.mp nd).1 (m8 g).1,aC hk];simp
 |p::P,w::c,i+1,m,nd,h1,h2,hk=>by show wc kindOf ((p,w)::P.zip c) m x=_;unfold wc;exact Mu (i:=i) (eL.mp nd).2 (by simpa using h1) (by simpa using h2) hk
noncomputable def start(N:List Str)(c:List V):St:=c.map some++bq (N.length-c.length) none
noncomputable def qK(h:wn)(P:Program)(w:bE)(K:aj)(mg:Str->Option ag)(base:bA)(N:List Str)(qual:Str)(scope:dR)(f:ao)(g:ag)(A:bv)(outer:List Env)(s:am)(H:Hp)(E:XK):Cx where
 prog:=P
 w:=w
 K:=K
 mg:=mg
 base:=base
 A:=A.deeper (m9 qual scope s.heap.objs.size f g)
 N:=N
 s₀:=s
 H₀:=H
 env:=m9 qual scope s.heap.objs.size f g
 outer:=outer
 stack:=m9 qual scope s.heap.objs.size f g::outer
 ex:=[]
 calm:=true
 fn:=λ_=>true
 pn:=[]
 xe:=λe l=>aD (aT P w) (A.deeper (m9 qual scope s.heap.objs.size f g)) (leaving (m9 qual scope s.heap.objs.size f g) e) (λ_ c=>h outer H s E e c) (λo c=>h outer H s E o c) l
theorem Nu{sc:dR}{n:Nat}{x:Str}(h:sc.names.lookup x=some .cell):∃c,(dB n sc.names []).lookup x=some c:=by have q:=iO sc.names n [] (.inl h);exact sj.mp q
theorem L8{CX:wn}{P:Program}{w:bE}{K:aj}{mg:Str->Option ag}{base:bA}{N B:List Str}{qual:Str}{scope:dR}{f:ao}{Q:ag}{A:bv}{outer:List Env}{s Y:am}{H:Hp}{E:XK}{U:List ag}{o:List V}
  (S:lI N B scope) (hd:A.handled=none) (l:vB P w K mg base A outer s H) (hl:o.length=B.length) (r:b7 o U)
  (x:InCallC s s.heap.objs.size (wa (m9 qual scope s.heap.objs.size f Q).kindOf (B.zip U) λ_=>none) (dB (s.heap.objs.size+1) scope.names []) (wc (m9 qual scope s.heap.objs.size f Q).kindOf (B.zip U) λ_=>none) Y):
  Inv (qK CX P w K mg base N qual scope f Q A outer s H E) [] (start N o) H Y:=by
 have hpl:B.length<=N.length:=by have:=cR eM S.pre;rw[bX]at this;ext
 obtain⟨O,tk,rfl,hk⟩:=x.done;have C:∀b:ao,b∉(qK CX P w K mg base N qual scope f Q A outer s H E).ex:=λb z=>bn (show b∈([]:List ao) from z) (by simp);refine⟨⟨l.mod,S.kind,rfl,rfl,av _,λy z c O g=>?_,λy G=>?_,λy c _ h=>?_,λ_=>hd,bv.frames_deeper l.frames,.inr ⟨rfl,rfl⟩,λb z=>bn z (C b),l.bs,l.bsz,λb _ _=>C b,λb z=>bn z (C b),l.funs,l.frf⟩,
  rfl,l.bare,Un.kept hk,⟨_,x.toInCall.ns,λi y v O g h3=>?_⟩,λy c h=>⟨_,x.cell y c h⟩,l.hok.fresh (av _),λy c h=>?_,λp J=>bn (show p∈([]:List (ao×Obj)) from J) (by simp),l.hok.kept hk,?_⟩
 ·exact name_of_addr x.apart (eI O) (eI g)
 ·have G:scope.names.lookup y=some .cell\/scope.names.lookup y=some .free:=G;rcases G with G|G
  ·exact Nu G
  ·exact bn rfl (S.nofree _ (eI G))
 ·exact lw (x.above y c (eI h))
 ·have L : i < o.length := by
    unfold start at g;by_cases L:i < o.length
    ·exact L
    ·rw[aS (by simpa using L)]at g;rw[gh]at g;split at g<;>cases g
  have l:o[i]?=some v:=by
   unfold start at g;rw[ax (by simpa using L),ar]at g;cases e:o[i]? with
   |none=>rw[e]at g;cases g
   |some a=>rw[e]at g;cases g;rfl
  obtain⟨u,hu,h⟩:=r.get l;have J:B[i]?=some y:=by rw[<- S.pre,cZ (by ext)];exact O
  have I:B.Nodup:=by rw[<- S.pre];exact S.nd.sublist (w9 _ _)
  refine⟨u,h,?_⟩;rcases S.par y (aA J) with k|k
  ·exact .inl ⟨k,La I J hu k⟩
  ·obtain⟨c,e⟩:=Nu (n:=s.heap.objs.size+1) k;refine .inr ⟨.inl k,c,e,?_⟩;have q:=x.cell y c e;rw[Mu I J hu (by show scope.names.lookup y≠_;rw[k];decide)]at q;exact q
 ·exact l.hok.fresh (lw (x.above y c (eI h)))
 ·unfold start
  show _=N.length;rw[aH,ae,fB];ext
theorem Kd{CX:wn}{P:Program}{w:bE}{K:aj}{mg:Str->Option ag}{base:bA}{k:Nat}{f:ao}{name qual:Str}{g:mj}{h:List fH}{scope:dR}{dV kV doc pm c ct oc:ag}{an od:Option ao}
  {osl:Array (Option ag)}{N ps:List Str}{sp:Sp} (lk:K.lookup f=some ⟨oc,od,.func (cD name qual g h scope dV kV doc pm an c ct),osl⟩) (hcd:fR K c qual=true) (S:lI N ps scope)
  (len:∀l H Q E,sp l H Q E->l.length=ps.length)
  (G:∀(A:bv)(outer:List Env)(s:am)(H:Hp)(l:List V)(Q:VK)(E:XK),iU k (A.deeper (m9 qual scope s.heap.objs.size f c))->sp l H Q E ->
   ∃t,PSs (qK CX P w K mg base N qual scope f c A outer s H E) h t/\t { nx:=λ_ B=>Q .non B,rt:=Q } (start N l) H):
  m7 P w K mg base CX (k+1) f (cD name qual g h scope dV kV doc pm an c ct) ps sp:=by
 refine⟨len,λA outer s H args us l Q E hr Y hb r U=>?_⟩;have hl:=len _ _ _ _ U;have KX:K.In s.heap:=Y.mod.kin.keeps λb o e=>(Y.bs b o e).1;have fu:s.heap.NoLimit:=Y.mod.nolimit.keeps λb o e=>(Y.bs b o e).1;have C:∀y∈ps.zip us,scope.names.lookup y.1=some .local\/(scope.names.lookup y.1=some .cell/\((dB (s.heap.objs.size+1) scope.names []).lookup y.1).isSome=true):=λO hy=>by
  obtain⟨n,v⟩:=O;rcases S.par n (m8 hy).1 with q|q
  ·exact .inl q
  ·exact .inr ⟨q,iO _ _ _ (.inl q)⟩
 refine codeAny_call_function hr.depth (KX _ _ lk) rfl S.co S.gen rfl (PySem.W.codeRec_of KX hcd) (hb _ _ _ _ ?_);refine uF S.kind C λenv he s1 x=>?_;subst he;refine⟨fu.keeps x.toInCall.keep,codeAny_func ?_⟩;obtain⟨t,ht,hq⟩:=G A outer s H l Q E (hr.deeper _) U;have I:Inv (qK CX P w K mg base N qual scope f c A outer s H E) [] (start N l) H s1:=L8 S hr.hd Y hl r x;refine fI (ht [] s1 (start N l) H _ I hq) (λfl s' L=>?_) λe s' L=>L;have fin:∀{σ':St}{B:Hp}{v:V}{u:ag},Inv (qK CX P w K mg base N qual scope f c A outer s H E) [] σ' B s'->RelV v u->Q v B->CE outer P w H s Q u s':=
  λ{σ' B v u}J rv q=>⟨v,B,J.os,J.bare,J.base,J.hok,rv,q⟩
 cases fl with
 |ret u=>
  obtain⟨v,σ',B,J,rv,q⟩:=L;exact fin J rv q
 |next=>
  obtain⟨σ',B,J,q⟩:=L;exact fin (v:=V.non) (u:=bF) J rfl q
 |brk=>
  obtain⟨_,_,_,q⟩:=L;exact dW q
 |cont=>
  obtain⟨_,_,_,q⟩:=L;exact dW q
section
variable{X:Cx}{x:Str}{p pos:Pos}{e:Expr}{es:List Expr}{t:TA}{id T:String}{r:List V->Hp->VK->Prop}
noncomputable def Nd(r:List V->Hp->VK->Prop)(t:TA):TE:=λσ H Q=>t σ H λc g=>r c g Q
theorem DE(U : CallR X (.builtin id) r)(L : Gl X x)(J : X.mg x = none)(E : cM x = some (.builtin id))(Y : PA X (e :: es) t)(G : x ≠ "__name__" := by decide)(o : (x == ("__debug__" : Str)) = false := by decide)
  (O:starEach (e::es) X.env=(false,eval e X.env)::starEach es X.env:=by rfl) (l:(backTo pos (starEach es X.env)).any (·.1)=false:=by rfl):PE X (.Call (.Name x p) (e::es) [] pos) (Nd r t):=by
 intro c s σ H Q I h;refine fJ (xw I L J E ?_ G o);exact PyProof.Rows.callWith_builtin1 (fU (Y pos c s σ H _ I h) λu v g=>by obtain⟨q,H1,I1,B,C⟩:=g;exact U c v σ H1 q u Q I1 B C) O l
theorem Hz(U : CallR X (.type T) r)(L : Gl X x)(J : X.mg x = none)(E : cM x = some (.type T))(Y : PA X (e :: es) t)(G : x ≠ "__name__" := by decide)(o : (x == ("__debug__" : Str)) = false := by decide)
  (O:starEach (e::es) X.env=(false,eval e X.env)::starEach es X.env:=by rfl) (l:(backTo pos (starEach es X.env)).any (·.1)=false:=by rfl):PE X (.Call (.Name x p) (e::es) [] pos) (Nd r t):=by
 intro c s σ H Q I h;refine fJ (xw I L J E ?_ G o);exact cW (fU (Y pos c s σ H _ I h) λu v g=>by obtain⟨q,H1,I1,B,C⟩:=g;exact U c v σ H1 q u Q I1 B C) O l
end
end L2
namespace HT
open PySem PyProof.Rows
section
open PySem.SeqAt
open PySem.AutoSeq1 (wpAny_loadPart')
open PySem.MeetsSeq PySem.MeetsSeq2 PySem.MeetsSeq3
end
section
variable{prog:Program}{w:bE}{A:bv}{E:ag->am->Prop}{s:am}
theorem yu{t b:ao}{g ws:List ag}{Q:ag->am->Prop}(L:yW s.heap t g.toArray)(O:yW s.heap b ws.toArray)(G:g≠[])
  (Y:ws=[]->Q (.ref t) s) (U:ws≠[]->Q (.ref s.heap.objs.size) { s with heap:=s.heap.push { cls:=.type "tuple",data:=.seq (g++ws).toArray } })
  (hsz:g.length+ws.length<=sizeLine):aD (aT prog w) A (eZ .Add (.ref t) (.ref b)) Q E s:=by
 obtain⟨⟨cls,I,data,B⟩,v,H,n,hd⟩:=id L;obtain⟨⟨J,q,data2,h⟩,c,o,C,l⟩:=id O;simp only at H hd o l;subst H hd o l;have e:g.toArray++ws.toArray=(g++ws).toArray:=by simp
 by_cases u:ws=[]
 ·exact w_ ⟨_, v, rfl⟩ ⟨_, c, rfl⟩ sN vL mD lZ (lQ _ _)
    (tuple_addW1 t b g.toArray ws.toArray n C I q B h (by simpa using G) (by simp[u])) ⟨v,c,Y u⟩
 ·refine w_ ⟨_, v, rfl⟩ ⟨_, c, rfl⟩ sN vL mD lZ (lQ _ _)
    (tuple_addW2 t b g.toArray ws.toArray n C I q B h (by simpa using G) (by simpa using u) (by rw[aF,aF];exact hsz)) ⟨v,c,?_⟩
  rw[e];exact U u
noncomputable def gM(n d:Nat):Option Int->Nat
 |none=>d
 |some v=>if v < 0 then (v+(n:Int)).toNat else min v.toNat n
theorem Rm(n d:Nat)(hd:d<=n)(o:Option Int):gM n d o<=n:=by
 cases o with
 |none=>exact hd
 |some v=>
  show (if v < 0 then (v+(n:Int)).toNat else min v.toNat n)<=n;by_cases c:v < 0
  ·rw[aG c];ext
  ·rw[aC c];exact Nat.min_le_right _ _
theorem NU(v:Int)(n d:Nat):(if v < 0 then max (v+(n:Int)) 0 else min v (n:Int))=((gM n d (some v):Nat):Int):=by
 show (if v < 0 then max (v+(n:Int)) 0 else min v (n:Int))=(((if v < 0 then (v+(n:Int)).toNat else min v.toNat n):Nat):Int)
 by_cases c:v < 0
 ·simp only[aG c];ext
 ·simp only[aC c];ext
theorem S_(lo c:Option Int)(n:Nat):kt lo c 1 (n:Int)=(((gM n 0 lo:Nat):Int),((gM n n c:Nat):Int)):=by
 have g:¬ ((1:Int) < 0):=by ext
 unfold kt;simp only[g,if_false];refine Prod.ext ?_ ?_
 ·cases lo with
  |none=>rfl
  |some v=>exact NU v n 0
 ·cases c with
  |none=>rfl
  |some v=>exact NU v n n
theorem Pd(i j:Nat):gH (i:Int) (j:Int) 1=j-i:=by
 unfold gH;have c:(1:Int) > 0:=by ext
 simp only[c,if_true,Int.ediv_one];split<;>ext
theorem Lk{v:ag}{o:Option Int}{Q:Option Int->am->Prop}(p:sO v o)(h:Q o s):aD (aT prog w) A (Builtin.Slice.slicePartIndex v) Q E s:=by
 cases p with
 |none=>exact slicePart_none h
 |int i t=>exact slicePart_int h
theorem Vw{u:ao}{q o:ag}{lo g:Option Int}{n:Nat}{Q:Int×Int×Nat->am->Prop}(C:s.heap.IsSliceOf u q o .none)(B:sO q lo)(v:sO o g)
  (h:Q (((gM n 0 lo:Nat):Int),1,gM n n g-gM n 0 lo) s):aD (aT prog w) A (oY (.ref u) (pure (n:Int))) Q E s:=by
 obtain⟨os,c,G,l⟩:=id C;unfold oY Builtin.Slice.sliceFields;refine ab (ab (b8 c l (x:=q) rfl (ab (b8 c l (x:=o) rfl (ab (b8 c l (x:=.none) rfl (ah ?_)))))));refine ab (slicePart_none ?_)
 show aD _ _ (if ((1:Int) == 0)=true then _ else _) _ _ s;rw[aC (by decide)];refine ab (Lk B (ab (Lk v (ab (ah ?_)))))
 show aD _ _ (match kt lo g 1 (n:Int) with|(lo,g)=>pure (lo,(1:Int),gH lo g 1)) _ _ s;rw[S_ lo g n]
 show aD _ _ (pure (((gM n 0 lo:Nat):Int),(1:Int),gH ((gM n 0 lo:Nat):Int) ((gM n n g:Nat):Int) 1)) _ _ s;rw[Pd];exact ah h
theorem Q5(xs:Array ag)(i k:Nat):((cg k).filterMap λ(m:Nat)=>xs[((i:Int)+(m:Int)*1).toNat]?).toArray=((xs.toList.drop i).take k).toArray:=by
 have e:(λ(m:Nat)=>xs[((i:Int)+(m:Int)*1).toNat]?)=λm=>xs[i+m]?:=by
  funext m;have:((i:Int)+(m:Int)*1).toNat=i+m:=by ext
  rw[this]
 rw[e];have:=pick_run xs i k;rw[List.filterMap_map]at this;have c:((λx=>xs[x]?) ∘ λx=>i+x)=λm=>xs[i+m]?:=rfl;rw[c]at this;rw[this]
theorem oH{t o:ao}{items:Array ag}{H G:ag}{lo g:Option Int}{Q:ag->am->Prop}(l:yW s.heap t items)(I:s.heap.IsSliceOf o H G .none)(L:sO H lo)(J:sO G g)
  (O:¬ (gM items.size 0 lo=0/\gM items.size items.size g=items.size))
  (h:Q (.ref s.heap.objs.size) { s with heap:=s.heap.push { cls:=.type "tuple",data:=.seq ((items.toList.drop (gM items.size 0 lo)).take (gM items.size items.size g-gM items.size 0 lo)).toArray } })
  (hsz:items.size<=sizeLine):aD (aT prog w) A (pL (.ref t) (.ref o)) Q E s:=by
 have c:sizeOk (.seq ((items.toList.drop (gM items.size 0 lo)).take (gM items.size items.size g-gM items.size 0 lo)).toArray):=by show ((items.toList.drop (gM items.size 0 lo)).take (gM items.size items.size g-gM items.size 0 lo)).toArray.size<=sizeLine;rw[aF,bX,mJ,cP];ext
 have hj:gM items.size items.size g<=items.size:=Rm _ _ (av _) g;obtain⟨os,u,B,U⟩:=id I;have C:s.TypeIs (.ref o) "slice":=⟨os,u,B⟩
 unfold pL
 try with_reducible refine bH ?_
 first|refine ab (ah ?_)|skip
 refine ab (Ch l.typeIs (by decide) ?_);refine ab (bz (name:=az "__getitem__") l.typeIs nw
  (bR nw l.typeIs entry_tuple_getitem ?_ (args_tuple_getitem _ _)))
 show aD _ _ (oZ (.ref t) >>= _) _ _ s;refine ab (tupleItemsOf_ l ?_);refine ab (ky C ?_);rw[aG (by decide)];refine ab (Vw I L J ?_);have v:¬ ((((gM items.size 0 lo:Nat):Int) == 0&&(1:Int) == 1&&(gM items.size items.size g-gM items.size 0 lo) == items.size)=true):=by intro q;rw[bu,bu]at q;have q1:((gM items.size 0 lo:Nat):Int)=0:=eq_of_beq q.1.1;have Y:gM items.size items.size g-gM items.size 0 lo=items.size:=eq_of_beq q.2;exact O ⟨by ext,by ext⟩
 show aD _ _ (if (((gM items.size 0 lo:Nat):Int) == 0&&(1:Int) == 1&&(gM items.size items.size g-gM items.size 0 lo) == items.size)=true then _ else _) _ _ s;rw[aC v,Q5]
 first
  |exact ab (m:=gU _) (b9 (ah ⟨_,rfl,ah h⟩) c)
  |exact ab (m:=gU _) (b9 (ab (ah (ah ⟨_,rfl,ah h⟩))) c)
  |exact ab (ab (m:=gU _) (b9 (ah (ah ⟨_,rfl,ah h⟩)) c))
  |exact ab (ab (m:=gU _) (b9 (ah ⟨_,rfl,ah h⟩) c))
end
end HT
namespace L2
open PySem PySem.Spec PyProof.Rows
abbrev TO:=St->Hp->(Option Int->Hp->Prop)->Prop
def PO(X:Cx)(e:Option Expr)(t:TO):Prop:=
 ∀(cp:List (ao×Obj))(s:am)(σ:St)(H:Hp)(Q:Option Int->Hp->Prop),Inv X cp σ H s->t σ H Q ->
  aD (aT X.prog X.w) X.A (evalPart e X.env) (λu g=>∃o c,Inv X cp σ c g/\sO u o/\Q o c) X.xe s
noncomputable def yn:TO:=λ_ H Q=>Q none H
noncomputable def D6(t:TE):TO:=λσ H Q=>t σ H λx c=>∃i,x=.int i/\Q (some i) c
theorem Hl{g:List Int}:∀{c:List ag},b7 (g.map V.int) c->kZ c g:=by
 induction g with
 |nil=>intro c r;rw[mT]at r;cases r;exact .nil
 |cons n g ih=>
  intro c r;rw[aK]at r;cases r with
  |cons r1 r2=>
   obtain⟨t,e⟩:=r1;subst e;exact .cons n t (ih r2)
section
variable{X:Cx}{e:Expr}{te:TE}{lo hi:Option Expr}{tl th:TO}{pos p2:Pos}
theorem T_:PO X none yn:=by intro c s σ H Q I h;rw[vN];exact ah ⟨none,H,I,.none,h⟩
theorem LI(h:PE X e te):PO X (some e) (D6 te):=by intro g s σ H Q I v;rw[evalPart_some];refine fU (h g s σ H _ I v) λu E c=>?_;obtain⟨x,C,B,l,o⟩:=c;obtain⟨i,rfl,q⟩:=o;obtain⟨t,rfl⟩:=l;exact⟨some i,C,B,.int i t,q⟩
def JN(X:Cx)(r:V->Option Int->Option Int->Hp->VK->Prop):Prop:=
 ∀(cp:List (ao×Obj))(s:am)(σ:St)(H:Hp)(x:V)(v vl vu:ag)(lo hi:Option Int)(sl:ao)(Q:VK),Inv X cp σ H s->RelV x v->s.heap.IsSliceOf sl vl vu .none->sO vl lo->sO vu hi->r x lo hi H Q ->
  ∃T id,kT (.type T) "__getitem__"=pure (some (.builtin id))/\s.TypeIs v T/\aD (aT X.prog X.w) X.A (pL v (.ref sl)) (EP X cp σ Q) X.xe s
noncomputable def Q7(r:V->Option Int->Option Int->Hp->VK->Prop)(te:TE)(tl th:TO):TE:=λσ H Q=>te σ H λx h=>tl σ h λl g=>th σ g λu c=>r x l u c Q
theorem KN{r:V->Option Int->Option Int->Hp->VK->Prop}(hr:JN X r)(he:PE X e te)(hl:PO X lo tl)(hu:PO X hi th):PE X (.Subscript e (.Slice lo hi none p2) pos) (Q7 r te tl th):=by
 intro c s σ H Q I h;refine BG (fU (he c s σ H _ I h) λv L B=>?_);obtain⟨x,H1,I1,O,q1⟩:=B;refine wpAny_Slice (fU (hl c L σ H1 _ I1 q1) λE J ⟨l,H2,I2,pl,Y⟩=>fU (hu c J σ H2 _ I2 Y) λC g o=>?_);obtain⟨u,G,I3,pu,U⟩:=o;rw[vN];refine ah ?_;have I4:Inv X c σ G { g with heap:=g.heap.push { cls:=.type "slice",data:=.fields #[E,C,.none] } }:=I3.kept (t':=g.toks) λb ob q=>ak _ q;obtain⟨T,id,hT,ht,hg⟩:=hr c { g with heap:=g.heap.push { cls:=.type "slice",data:=.fields #[E,C,.none] } } σ G x v E C l u g.heap.objs.size Q I4 O (q_ ..) pl pu U
 show aD (aT X.prog X.w) X.A (vO e (.Slice lo hi none p2) v (.ref g.heap.objs.size)) (EP X c σ Q) X.xe { g with heap:=g.heap.push { cls:=.type "slice",data:=.fields #[E,C,.none] } };exact yX (ops:=[.ref g.heap.objs.size,v]) ht hT hg (by with_unfolding_all rfl)
def tM(xs:List V)(lo hi:Option Int):List V:=(xs.drop (HT.gM xs.length 0 lo)).take (HT.gM xs.length xs.length hi-HT.gM xs.length 0 lo)
theorem M2(xs:List V)(lo hi:Option Int):(tM xs lo hi).length<=xs.length:=by unfold tM;rw[bX,mJ];ext
def Gp(K:aj):V->Option Int->Option Int->Hp->VK->Prop:=λx lo hi H Q=>∃a xs,x=.ref a/\iT K H a xs /\
 ¬ (HT.gM xs.length 0 lo=0/\HT.gM xs.length xs.length hi=xs.length)/\∀p,H p=none->Q (.ref p) (ff H p (.tup (tM xs lo hi)))
theorem RS:JN X (Gp X.K):=by
 intro g s σ H x v O L lo hi U Q I u J C B h;obtain⟨a,xs,rfl,E,G,q⟩:=h;cases u;obtain⟨its,r,l,hz⟩:=I.tuple E;have c:its.toArray.size=xs.length:=by rw[aF];exact r.length.symm
 refine⟨"tuple",_,nw.lookup,l.typeIs,?_⟩;refine HT.oH l J C B (by rw[c];exact G) ?_ (by rw[c];exact hz);rw[c];refine⟨.ref s.heap.objs.size,_,I.laid (t':=s.toks) (o:=.tup (tM xs lo hi)) (λb Y q=>ak _ q) (av _) ?_,rfl,q _ (I.hok.fresh (av _))⟩;exact⟨cS (M2 xs lo hi) hz,_,(r.drop (HT.gM xs.length 0 lo)).take (HT.gM xs.length xs.length hi-HT.gM xs.length 0 lo),km.new _ _⟩
def DJ(K:aj):R2:=λx y H Q=>∃a b xs ys,x=.ref a/\y=.ref b/\iT K H a xs/\iT K H b ys/\xs≠[]/\xs.length+ys.length<=sizeLine /\
 (ys=[]->Q (.ref a) H)/\(ys≠[]->∀p,H p=none->Q (.ref p) (ff H p (.tup (xs++ys))))
theorem b7.nil_iff{xs:List V}{c:List ag}(r:b7 xs c):c=[]↔xs=[]:=by
 cases r with
 |nil=>simp
 |cons _ _=>simp
theorem Pp:OpR X (eZ .Add) (DJ X.K):=by intro l s σ H x y v u Q I E C h;obtain⟨a,b,xs,ys,rfl,rfl,Y,U,O,hz,J,G⟩:=h;cases E;cases C;obtain⟨its,g,L,_⟩:=I.tuple Y;obtain⟨B,c,p2,_⟩:=I.tuple U;refine HT.yu L p2 (λz=>O (g.nil_iff.mp z)) (λz=>⟨.ref a,H,I,rfl,J (c.nil_iff.mp z)⟩) (λz=>?_) (by rw[<- g.length,<- c.length];exact hz);refine⟨.ref s.heap.objs.size,_,I.laid (t':=s.toks) (o:=.tup (xs++ys)) (λb ob q=>ak _ q) (av _) ?_,rfl,G (λw=>z (c.nil_iff.mpr w)) _ (I.hok.fresh (av _))⟩;exact⟨by rw[aH];exact hz,_,g.append c,km.new _ _⟩
end
noncomputable def my(n:Nat)(i:Int):Option Nat:=if 0<=i then (if i < n then some i.toNat else none) else if -(n:Int)<=i then some (i+n).toNat else none
def vw{α:Type}(xs:List α)(i:Int):Option α:=(my xs.length i).bind λj=>xs[j]?
theorem Mx{n:Nat}{i:Int}{j:Nat}(h:my n i=some j):seqIndex? i n=some j/\j < n /\ -(n:Int)<=i/\i < n:=by
 unfold my at h;by_cases g:0<=i
 ·rw[aG g]at h;by_cases c:i < n
  ·rw[aG c]at h;have e:i.toNat=j:=aE h;exact⟨by rw[sY g c,e],by ext,by ext,c⟩
  ·rw[aC c]at h;cases h
 ·rw[aC g]at h;by_cases c : -(n:Int)<=i
  ·rw[aG c]at h;have e:(i+n).toNat=j:=aE h;exact⟨by rw[rM (by ext) c,e],by ext,c,by ext⟩
  ·rw[aC c]at h;cases h
theorem Fu{α:Type}{xs:List α}{i:Int}{v:α}(h:vw xs i=some v):∃j,seqIndex? i xs.length=some j/\xs[j]?=some v/\j < xs.length /\ -(xs.length:Int)<=i/\i < xs.length:=by
 unfold vw at h;cases e:my xs.length i with
 |none=>rw[e]at h;cases h
 |some j=>
  rw[e]at h;obtain⟨o,l,g,c⟩:=Mx e;exact⟨j,o,h,l,g,c⟩
noncomputable def qh(b:Expr):Prop:=∀o i,subscripted b false o i=operate [o,i] (pL o i)
def IxR(X:Cx)(r:R2):Prop:=
 ∀(g c:Expr)(cp:List (ao×Obj))(s:am)(σ:St)(H:Hp)(x y:V)(v u:ag)(Q:VK),Inv X cp σ H s->RelV x v->RelV y u->r x y H Q ->
  subscripted c false v u=operate [v,u] (pL v u)->aD (aT X.prog X.w) X.A (vO g c v u) (EP X cp σ Q) X.xe s
def Ec(X:Cx)(id:String)(r:V->List V->Hp->VK->Prop):Prop:=
 ∀(cp:List (ao×Obj))(s:am)(σ:St)(H:Hp)(x:V)(xs:List V)(v:ag)(us:List ag)(Q:VK),Inv X cp σ H s->RelV x v->b7 xs us->r x xs H Q ->
  aD (aT X.prog X.w) X.A (call (.builtin id) (v::us)) (EP X cp σ Q) X.xe s
section
variable{X:Cx}{a b:Expr}{ta tb:TE}{pos:Pos}
theorem IxR.or{r C:R2}(h:IxR X r)(h':IxR X C):IxR X (λx y H Q=>r x y H Q\/C x y H Q):=by
 intro c g l s σ H x y v u Q I B o q E;rcases q with q|q
 ·exact h c g l s σ H x y v u Q I B o q E
 ·exact h' c g l s σ H x y v u Q I B o q E
theorem K6{r:R2}(C:IxR X r)(G:PE X a ta)(E:PE X b tb)(B:qh b):PE X (.Subscript a b pos) (Fc r ta tb):=by intro c s σ H Q I h;exact BG (Ap G E I h λv u g x y L J o l q=>C a b c g σ L x y v u Q J o l q (B _ _))
def AL(K:aj):R2:=λx y H Q=>∃p xs i v,x=.ref p/\y=.int i/\gY K H p xs/\vw xs i=some v/\Q v H
def EI(K:aj):R2:=λx y H Q=>∃p xs i v,x=.ref p/\y=.int i/\iT K H p xs/\vw xs i=some v/\Q v H
def D1:R2:=λx y H Q=>∃z i c,x=.str z/\y=.int i/\z.length<=sizeLine/\vw z.cps.toList i=some c/\Q (.str ⟨#[c]⟩) H
theorem Md:IxR X (AL X.K):=by
 intro l o c s σ H x y v u Q I Y U h G;obtain⟨p,xs,i,z,rfl,rfl,hq,he,q⟩:=h;cases Y;obtain⟨t,rfl⟩:=U;obtain⟨its,r,C,hz⟩:=I.list hq;obtain⟨j,g,h2,h3,h4,h5⟩:=Fu he;obtain⟨w,L,B⟩:=r.get h2;have hl:=r.length;have hn:=zt;have fin:EP X c σ Q w s:=⟨z,H,I,B,q⟩
 by_cases J:0<=i
 ·have E : i.toNat = j := by rw[sY J h5]at g;exact aE g
  exact item_listR C.isList J (by ext) (by rw[E];simpa using L) fin G
 ·have E : (i+(its.toArray.size : Int)).toNat = j := by rw[rM (by ext) h4]at g;rw[aF,<- hl];exact aE g
  exact xc (x:=w) C.isList.typeIs rN.lookup
   (xf (Q:=λr O=>r=w/\EP X c σ Q r O) C.isList (by ext) (by rw[aF]<;>ext) (by ext) (by rw[E];simpa using L) ⟨rfl,fin⟩) G
theorem Wz:IxR X (EI X.K):=by
 intro g l c s σ H x y v u Q I G E h J;obtain⟨p,xs,i,z,rfl,rfl,L,U,q⟩:=h;cases G;obtain⟨t,rfl⟩:=E;obtain⟨its,r,B,hz⟩:=I.tuple L;obtain⟨j,h1,Y,h3,h4,h5⟩:=Fu U;obtain⟨w,ew,o⟩:=r.get Y;have O:=r.length;have hn:=zt;have fin:EP X c σ Q w s:=⟨z,H,I,o,q⟩
 exact xc (x:=w) B.typeIs slot_tuple_getitem.lookup
  (getItem_tuple (j:=j) (Q:=λr C=>r=w/\EP X c σ Q r C) B (by ext) (by ext) (by rw[aF,<- O];exact h1) (by simpa using ew) ⟨rfl,fin⟩) J
theorem Vp:IxR X D1:=by
 intro g l o s σ H x y v u Q I E C h G;obtain⟨z,i,c,rfl,rfl,hz,L,q⟩:=h;obtain⟨t,rfl⟩:=E;obtain⟨t',rfl⟩:=C;obtain⟨j,B,Y,h3,U,O⟩:=Fu L;have J:z.cps.toList.length=z.length:=by simp[Str.length]
 rw[J]at B U O;have hn:=zt;exact yX (typeIs_str s z t) slot_str_getitem.lookup (getItem_str (c:=c) (by have e1:decide (i < -(2^63:Int))=false:=aR (by ext);have e2:decide (i ≥ 2^63)=false:=aR (by ext);rw[e1,e2,Bool.or_false]) (by rw[B];simpa using Y) ⟨.str ⟨#[c]⟩,H,I.tok _,⟨_,rfl⟩,q⟩) G
def KH(K:aj):R2:=λx y H Q=>AL K x y H Q\/EI K x y H Q\/D1 x y H Q
theorem WJ:IxR X (KH X.K):=Md.or (Wz.or Vp)
theorem RG(its:List ag)(n j:Nat)(u:ag):px (·.setIfInBounds j u) { cls:=.type "list",data:=.seq its.toArray n }={ cls:=.type "list",data:=.seq (its.set j u).toArray n }:=by simp[px]
theorem Inv.lst{c:List (ao×Obj)}{σ:St}{H:Hp}{s:am}{p:ao}{xs:List V}(I:Inv X c σ H s)(h:H p=some (.lst xs)):
  ∃(its:List ag)(n:Nat),b7 xs its/\s.heap.get? p=some { cls:=.type "list",data:=.seq its.toArray n }/\xs.length<=sizeLine:=by
 obtain⟨z,its,n,r,e⟩:=I.hok p _ h;exact⟨its,n,r,e,z⟩
theorem Inv.lstUpd{c:List (ao×Obj)}{σ:St}{H:Hp}{s:am}{p:ao}{xs ys:List V}{its its':List ag}{n g:Nat}{f:Obj->Obj}(I:Inv X c σ H s)(h:H p=some (.lst xs))
  (o:s.heap.get? p=some { cls:=.type "list",data:=.seq its.toArray n }) (l:f { cls:=.type "list",data:=.seq its.toArray n }={ cls:=.type "list",data:=.seq its'.toArray g }) (r:b7 ys its') (hz:ys.length<=sizeLine) (t:Nat):
  Inv X c σ (ff H p (.lst ys)) { s with heap:=s.heap.update p f,toks:=t }:=by
 have e:(s.heap.update p f).get? p=some { cls:=.type "list",data:=.seq its'.toArray g }:=by rw[bJ f o (by rw[l]<;>rfl),l]
 refine I.write (x:=p) (e:=p) (by rw[h];trivial) (.inl rfl) (λb u v q=>(cI _ _ (bG v)).trans q) ⟨_,e⟩ ?_;exact⟨hz,its',g,r,e⟩
def Cy:V->V->V->Hp->(Hp->Prop)->Prop:=λo i v H Q=>∃p xs k j,o=.ref p/\i=.int k/\H p=some (.lst xs)/\my xs.length k=some j/\Q (ff H p (.lst (xs.set j v)))
theorem KA:PSet X Cy:=by
 intro c s σ H o i v ov iv u Q I Y ri U h;obtain⟨p,xs,k,j,rfl,rfl,E,hj,q⟩:=h;cases Y;obtain⟨t,rfl⟩:=ri;obtain⟨its,n,r,l,hz⟩:=I.lst E;obtain⟨g,h2,J,G⟩:=Mx hj;have B:=r.length;have hn:=zt;have O:Inv X c σ (ff H p (.lst (xs.set j v))) { s with heap:=s.heap.update p (px (·.setIfInBounds j u)) }:=
  I.lstUpd E l (RG its n j u) (r.set U j) (by rw[cY];exact hz) s.toks
 by_cases L:0<=k
 ·have C : k.toNat = j := by rw[sY L G]at g;exact aE g
  exact PySem.W.ki_setAt l L (by ext) (by rw[aF,<- B];exact G) (by rw[C];exact⟨_,O,q⟩)
 ·have C : (k+(its.toArray.size : Int)).toNat = j := by rw[rM (by ext) J]at g;rw[aF,<- B];exact aE g
  exact PySem.W.ki_setBack l (by ext) (by rw[aF,<- B];exact J) (by ext) (by rw[C];exact⟨_,O,q⟩)
theorem Ue(lo c:Option Int)(n:Nat):(fD lo c none n).1=((HT.gM n 0 lo:Nat):Int)/\(fD lo c none n).2.1=((HT.gM n n c:Nat):Int)/\(fD lo c none n).2.2=1:=by
 refine⟨?_,?_,rfl⟩
 ·cases lo with
  |none=>simp[fD,HT.gM]
  |some i=>
   simp only[fD,HT.gM,pM,show (1:Int) > 0 by decide,if_true];by_cases h:i < 0
   ·simp only[h,if_true]<;>ext
   ·simp only[h,if_false]<;>ext
 ·cases c with
  |none=>simp[fD,HT.gM]
  |some i=>
   simp only[fD,HT.gM,pM,show (1:Int) > 0 by decide,if_true];by_cases h:i < 0
   ·simp only[h,if_true]<;>ext
   ·simp only[h,if_false]<;>ext
theorem RH(its:List ag)(lo c:Option Int):wd its.toArray lo c none=((its.drop (HT.gM its.length 0 lo)).take (HT.gM its.length its.length c-HT.gM its.length 0 lo)).toArray:=by obtain⟨l,h,g⟩:=Ue lo c its.toArray.size;unfold wd;rw[l,h,g];simp only[sliceRange_one,pick_run,aF]<;>rfl
def CZ(K:aj):V->Option Int->Option Int->Hp->VK->Prop:=λx lo c H Q=>∃a xs,x=.ref a/\gY K H a xs/\∀p,H p=none->Q (.ref p) (ff H p (.lst (tM xs lo c)))
theorem W9:JN X (CZ X.K):=by intro l s σ H x v O L lo g U Q I B J E C h;obtain⟨a,xs,rfl,G,q⟩:=h;cases B;obtain⟨its,r,u,hz⟩:=I.list G;have c:=r.length;refine⟨"list",_,rN.lookup,u.isList.typeIs,?_⟩;refine vP u.isList J E C .none (by simp) ?_ (by rw[aF]<;>ext);rw[RH,<- c];refine⟨.ref s.heap.objs.size,_,I.laid (t':=s.toks) (o:=.lst (tM xs lo g)) (λb Y q=>ak _ q) (av _) ?_,rfl,q _ (I.hok.fresh (av _))⟩;exact⟨cS (M2 xs lo g) hz,_,0,(r.drop (HT.gM xs.length 0 lo)).take (HT.gM xs.length xs.length g-HT.gM xs.length 0 lo),ay _ rfl⟩
noncomputable def nO:V->Bool
 | .non=>true
 | .bl _=>true
 | .int _=>true
 | .str _=>true
 |_=>false
noncomputable def yV:V->V->Bool
 | .non,.non=>true
 | .bl a,.bl b=>a == b
 | .bl a,.int b=>(if a then 1 else 0) == b
 | .int a,.bl b=>a == (if b then 1 else 0)
 | .int a,.int b=>a == b
 | .str a,.str b=>a == b
 |_,_=>false
theorem Pm{A:bv}{s:am}{y x:V}{u v:ag}(g:RelV y u)(c:RelV x v)(l:nO y=true)(h:nO x=true):rO A s u v (yV y x):=by
 cases y with
 |non=>
  cases g;cases x with
  |non=>cases c;exact rO.same _
  |bl b=>cases c;exact rO.none_bool b
  |int b=>obtain⟨t,rfl⟩:=c;exact rO.none_int b t
  |str b=>obtain⟨t,rfl⟩:=c;exact rO.none_str b t
  |_=>exact bn (show false=true from h) aY
 |bl a=>
  cases g;cases x with
  |non=>cases c;exact rO.bool_none a
  |bl b=>cases c;exact rO.bool_bool a b
  |int b=>obtain⟨t,rfl⟩:=c;exact rO.bool_int a b t
  |str b=>obtain⟨t,rfl⟩:=c;exact rO.bool_str a b t
  |_=>exact bn (show false=true from h) aY
 |int a=>
  obtain⟨t',rfl⟩:=g;cases x with
  |non=>cases c;exact rO.int_none a t'
  |bl b=>cases c;exact rO.int_bool a t' b
  |int b=>obtain⟨t,rfl⟩:=c;exact sZ a t' b t
  |str b=>obtain⟨t,rfl⟩:=c;exact sU a t' b t
  |_=>exact bn (show false=true from h) aY
 |str a=>
  obtain⟨t',rfl⟩:=g;cases x with
  |non=>cases c;exact rO.str_none a t'
  |bl b=>cases c;exact rO.str_bool a t' b
  |int b=>obtain⟨t,rfl⟩:=c;exact sV a t' b t
  |str b=>obtain⟨t,rfl⟩:=c;exact rO.str_str a t' b t
  |_=>exact bn (show false=true from h) aY
 |_=>exact bn (show false=true from l) aY
def yv(x:V)(u:ag):Bool:=match u with
 | .none=>yV .non x
 | .bool b=>yV (.bl b) x
 | .int i _=>yV (.int i) x
 | .str z _=>yV (.str z) x
 |_=>false
theorem MY{x y:V}{u:ag}(r:RelV y u)(f:nO y=true):yv x u=yV y x:=by
 cases y with
 |non=>cases r;rfl
 |bl b=>cases r;rfl
 |int i=>obtain⟨t,rfl⟩:=r;rfl
 |str z=>obtain⟨t,rfl⟩:=r;rfl
 |_=>exact bn (show false=true from f) aY
theorem Jv{x:V}:∀{xs:List V}{c:List ag},b7 xs c->xs.all nO=true->c.any (yv x)=xs.any λy=>yV y x
 |_,_,.nil,_=>rfl
 |y::xs,u::c,.cons r t,f=>by rw[cB,bu]at f;rw[eD,eD,MY r f.1,Jv t f.2]
theorem GK{A:bv}{s:am}{x:V}{v:ag}(g:RelV x v)(h:nO x=true):∀{xs:List V}{c:List ag},b7 xs c->xs.all nO=true->∀u∈c,rO A s u v (yv x u)
 |_,_,.nil,_=>λu hu=>by cases hu
 |y::xs,u::c,.cons r t,f=>λu' hu=>by
  rw[cB,bu]at f;rcases aP.mp hu with rfl|hu
  ·rw[MY r f.1];exact Pm r g f.1 h
  ·exact GK g h t f.2 u' hu
def Fo(x:V)(xs:List V):Bool:=xs.any λy=>yV y x
def LC(K:aj)(c:Bool):R2:=λx y H Q=>∃p xs,y=.ref p/\(gY K H p xs\/iT K H p xs)/\nO x=true/\xs.all nO=true/\Q (.bl (if c then !Fo x xs else Fo x xs)) H
theorem RU:OpR X (cX .NotIn) (LC X.K true):=by
 intro B s σ H x y v u Q I o E h;obtain⟨p,xs,rfl,c,C,fs,q⟩:=h;cases E;rcases c with c|c
 ·obtain⟨its,r,g,hz⟩:=I.list c;refine SeqAt.notIn_listAt (yv x) g.isList (λw l=>GK o C r fs w (by simpa using l)) ⟨.bl _,H,I,rfl,?_⟩;rw[show its.toArray.any (yv x)=its.any (yv x) by simp,Jv r fs];exact q
 ·obtain⟨its,r,g,hz⟩:=I.tuple c;refine SeqAt.notIn_tupleAt (yv x) g (λw l=>GK o C r fs w (by simpa using l)) ⟨.bl _,H,I,rfl,?_⟩;rw[show its.toArray.any (yv x)=its.any (yv x) by simp,Jv r fs];exact q
theorem WZ:CallR X (.builtin "len") (λxs H Q=>∃p ys,xs=[.ref p]/\(gY X.K H p ys\/iT X.K H p ys)/\Q (.int ys.length) H):=by
 intro v s σ H xs C Q I r h;obtain⟨p,ys,rfl,g,q⟩:=h;obtain⟨u,rfl,B⟩:=uV r;cases B;have E:=zt;rcases g with g|g
 ·obtain⟨its,l,o,hz⟩:=I.list g;have c:=l.length;exact Calls.call_len_list o.isList (by simp only[aF]<;>ext) ⟨.int ys.length,H,I.tok _,⟨s.toks+1,by rw[aF,c]⟩,q⟩
 ·obtain⟨its,l,o,hz⟩:=I.tuple g;have c:=l.length;exact len_tuple o (by simp only[aF]<;>ext) ⟨.int ys.length,H,I.tok _,⟨s.toks+1,by rw[aF,c]⟩,q⟩
theorem Qr:CallR X (.builtin "len") (λxs H Q=>∃z,xs=[.str z]/\z.length<=sizeLine/\Q (.int z.length) H):=by intro c s σ H xs g Q I r h;obtain⟨z,rfl,hz,q⟩:=h;obtain⟨u,rfl,t,rfl⟩:=uV r;have l:=zt;exact len_str (by ext) ⟨.int z.length,H,I.tok _,⟨_,rfl⟩,q⟩
theorem CallR.or{f:ag}{r l:List V->Hp->VK->Prop}(h:CallR X f r)(h':CallR X f l):CallR X f (λxs H Q=>r xs H Q\/l xs H Q):=by
 intro c s σ H xs g Q I rs q;rcases q with q|q
 ·exact h c s σ H xs g Q I rs q
 ·exact h' c s σ H xs g Q I rs q
theorem NW:CallR X (.type "list") (λxs H Q=>∃p ys,xs=[.ref p]/\(gY X.K H p ys\/iT X.K H p ys)/\∀l,H l=none->Q (.ref l) (ff H l (.lst ys))):=by
 intro v s σ H xs U Q I r h;obtain⟨p,ys,rfl,C,q⟩:=h;obtain⟨u,rfl,O⟩:=uV r;cases O;have fin : ∀(its : List ag), b7 ys its -> ys.length <= sizeLine -> ∀(h' : bA)(g : Nat), (∀b o', s.heap.get? b = some o' -> h'.get? b = some o') ->
   h'.get? s.heap.objs.size=some { cls:=.type "list",dict:=none,data:=.seq its.toArray g,slots:=#[] }->EP X v σ Q (.ref s.heap.objs.size) { s with heap:=h' }:=λits c hz h' g B e=>
  ⟨.ref s.heap.objs.size,_,I.laid (t':=s.toks) B (av _) (show eU X.prog X.w _ h' _ (.lst ys) from ⟨hz,its,g,c,e⟩),rfl,q _ (I.hok.fresh (av _))⟩
 rcases C with C|C
 ·obtain⟨its,c,G,hz⟩:=I.list C;have E:=c.length;obtain⟨o,J,L,n,hd⟩:=G.isList;exact call_list_seq p (.inl rfl) J L hd (λh' g B e=>fin its c hz h' g B e) (by simp only[aF]<;>ext)
 ·obtain⟨its,c,G,hz⟩:=I.tuple C;have E:=c.length;obtain⟨o,J,L,n,hd⟩:=G;exact call_list_seq p (.inr rfl) J L hd (λh' g B e=>fin its c hz h' g B e) (by simp only[aF]<;>ext)
theorem M7:CallR X (.type "tuple") (λxs H Q=>∃p ys,xs=[.ref p]/\((gY X.K H p ys/\∀l,H l=none->Q (.ref l) (ff H l (.tup ys)))\/(iT X.K H p ys/\Q (.ref p) H))):=by
 intro c s σ H xs O Q I r h;obtain⟨p,ys,rfl,h⟩:=h;obtain⟨u,rfl,G⟩:=uV r;cases G;rcases h with ⟨B,q⟩|⟨B,q⟩
 ·obtain⟨its,g,v,hz⟩:=I.list B;have C:=g.length;refine call_tuple_list v.isList (λh' J=>?_) (by simp only[aF]<;>ext);have E:Inv X c σ H { s with heap:=h' }:=I.kept (t':=s.toks) J;have L:Inv X c σ (ff H h'.objs.size (.tup ys)) { s with heap:=h'.push { cls:=.type "tuple",data:=.seq its.toArray } }:=
   E.laid (t':=s.toks) (λb o e=>ak _ e) (av _) (show eU X.prog X.w _ _ _ (.tup ys) from ⟨hz,its,g,km.new _ _⟩)
  exact⟨.ref h'.objs.size,_,L,rfl,q _ (E.hok.fresh (av _))⟩
 ·obtain⟨its,g,v,hz⟩:=I.tuple B;exact call_tuple_same v ⟨.ref p,H,I,rfl,q⟩
def GZ(K:aj)(T:String)(x:V)(H:Hp):Prop:=match x with
 | .str _=>T="str"
 | .int _=>T="int"
 | .ref p => (T = "list" /\ ∃xs, gY K H p xs) \/ (T = "tuple" /\ ∃o, K.lookup p = some o /\ o.cls = .type "tuple" /\ o.dict = none) \/
   (T="dict"/\((∃c,H p=some (.dK c))\/∃c,H p=some (.dT c)))\/(T="set"/\∃S n,H p=some (.set S n))
 |_=>False
theorem L3{h:List (ao×Obj)}{σ:St}{H:Hp}{s:am}{T:String}{x:V}{v:ag}(I:Inv X h σ H s)(r:RelV x v)(ty:GZ X.K T x H):
  s.TypeIs v T/\∀a,v=.ref a->∃B,s.heap.get? a=some B/\B.dict=none:=by
 cases x with
 |str z=>
  obtain⟨t,rfl⟩:=r;cases (show T="str" from ty);exact⟨typeIs_str s z t,λ_ e=>nomatch e⟩
 |int i=>
  obtain⟨t,rfl⟩:=r;cases (show T="int" from ty);exact⟨typeIs_int s i t,λ_ e=>nomatch e⟩
 |ref p=>
  cases r;rcases ty with ⟨rfl,xs,C⟩|⟨rfl,o,g,E,hd⟩|⟨rfl,g⟩|⟨rfl,S,n,g⟩
  ·obtain⟨its,_,u,_⟩:=I.list C;refine⟨u.isList.typeIs,λa e=>?_⟩;cases e;obtain⟨o,n,e,c,hd,_⟩:=u;exact⟨o,e,hd⟩
  ·refine⟨⟨o,I.kIn p o g,E⟩,λa e=>?_⟩;cases e;exact⟨o,I.kIn _ o g,hd⟩
  ·have z : ∃o, s.heap.get? p = some o /\ o.ExactDict := by
     rcases g with ⟨l,g⟩|⟨l,g⟩
     ·obtain⟨_,_,_,_,o,_,_,e,ex,_⟩:=I.hok p _ g;exact⟨o,e,ex⟩
     ·obtain⟨_,_,_,_,o,_,_,e,ex,_⟩:=I.hok p _ g;exact⟨o,e,ex⟩
   obtain⟨o,e,ex⟩:=z;refine⟨⟨o,e,ex.1⟩,λa q=>?_⟩;cases q;exact⟨o,e,ex.2.1⟩
  ·obtain⟨o,_,_,_,e,ex,_⟩:=I.hok p _ g;refine⟨⟨o,e,ex.1⟩,λa q=>?_⟩;cases q;exact⟨o,e,ex.2.1⟩
 |_=>exact dW ty
def Kb(K:aj)(T:String)(r:V->List V->Hp->VK->Prop)(to:TE):TE:=λσ H Q=>to σ H λx c=>GZ K T x c/\r x [] c Q
def QU(K:aj)(T:String)(r:V->List V->Hp->VK->Prop)(to:TE)(t:TA):TE:=λσ H Q=>to σ H λx c=>GZ K T x c/\t σ c λxs g=>r x xs g Q
variable{o e:Expr}{es:List Expr}{to:TE}{t:TA}{name:Str}{ec dc:Pos}{T id:String}{r:V->List V->Hp->VK->Prop}
theorem T0(J:PlainAttrs T)(slot:Slot T name id)(u:BH (.builtin id)=pure (.type "method_descriptor"))(O:Ec X id r)(L:PE X o to)
  (l:dI o name X.env (eval o X.env)=eval o X.env:=by rfl) (g:(ec.endLine == dc.line)=true:=by rfl):PE X (.Call (.Attribute o name ec) [] [] dc) (Kb X.K T r to):=by
 intro c s σ H Q I h;refine nA l g (fU (L c s σ H _ I h) λv E q=>?_);obtain⟨x,H1,C,B,ty,G⟩:=q;obtain⟨Y,U⟩:=L3 C B ty;exact⟨T,id,J,slot,u,Y,U,gA rfl (og (O c E σ H1 x [] v [] Q C B .nil G))⟩
theorem WU(pa:PlainAttrs T)(slot:Slot T name id)(E:BH (.builtin id)=pure (.type "method_descriptor"))(hm:Ec X id r)(ho:PE X o to)(ha:PA X (e::es) t)
  (q:dI o name X.env (eval o X.env)=eval o X.env:=by rfl)
  (C:((backTo dc (starEach (e::es) X.env)).all (λx => !x.1)&&(rP dc (mU [] X.env)).all (λx=>x.1.isSome)
   && decide ((e::es).length+([]:List kr).length+(if ([]:List kr).isEmpty then 0 else 1) < 30))=true:=by rfl)
  (l:(ec.endLine == dc.line)=true:=by rfl) (hs:starEach (e::es) X.env=(false,eval e X.env)::starEach es X.env:=by rfl) (g:(backTo dc (starEach es X.env)).any (·.1)=false:=by rfl):
  PE X (.Call (.Attribute o name ec) (e::es) [] dc) (QU X.K T r to t):=by
 intro c s σ H Q I h;refine xg q C l rfl (fU (ho c s σ H _ I h) λv s1 B=>?_);obtain⟨x,H1,L,G,ty,q1⟩:=B;obtain⟨h1,h2⟩:=L3 L G ty;refine⟨T,id,pa,slot,E,h1,h2,?_⟩;have J:=ha dc c s1 σ H1 _ L q1;rw[hs]at J ⊢;refine gA (by show (false||(backTo dc (starEach es X.env)).any (·.1))=false;rw[g]<;>rfl) (nB ?_);exact fU J λU Y u=>by obtain⟨O,H2,I2,r2,q2⟩:=u;exact hm c Y σ H2 x O v U Q I2 G r2 q2
end
def Nr(X:Cx)(id:String)(r:V->List V->Hp->VK->Prop):Prop:=
 ∀(cp:List (ao×Obj))(s:am)(σ:St)(H:Hp)(x:V)(xs:List V)(v:ag)(us:List ag)(Q:VK),Inv X cp σ H s->RelV x v->b7 xs us->r x xs H Q ->
  aD (aT X.prog X.w) X.A (call (.builtin id) (v::us)) (EP X cp σ Q) X.xe s
theorem b7.one{x:V}{c:List ag}(h:b7 [x] c):∃u,c=[u]/\RelV x u:=by
 cases h with
 |cons r h=>cases h;exact⟨_,rfl,r⟩
theorem b7.two{x y:V}{c:List ag}(h:b7 [x,y] c):∃u v,c=[u,v]/\RelV x u/\RelV y v:=by
 cases h with
 |cons r h=>cases h with
  |cons q h=>cases h;exact⟨_,_,rfl,r,q⟩
theorem b7.zero:∀{c:List ag},b7 [] c->c=[]
 |_,.nil=>rfl
theorem b7.dropLast{xs:List V}{c:List ag}(h:b7 xs c):b7 xs.dropLast c.dropLast:=by
 induction h with
 |nil=>exact .nil
 |cons r t ih=>
  cases t with
  |nil=>exact .nil
  |cons q t'=>exact .cons r ih
theorem b7.reverse{xs:List V}{c:List ag}(h:b7 xs c):b7 xs.reverse c.reverse:=by
 induction h with
 |nil=>exact .nil
 |cons r t ih=>rw[fK,fK];exact b7.append ih (.cons r .nil)
theorem b7.rep{xs:List V}{c:List ag}(h:b7 xs c):∀k:Nat,b7 (bq k xs).flatten (bq k c).flatten
 |0=>.nil
 |k+1=>by rw[kU,kU,xh,xh];exact b7.append h (b7.rep h k)
theorem S9{α:Type}(l:List α):l.eraseIdx (l.length-1)=l.dropLast:=by
 induction l with
 |nil=>rfl
 |cons a r ih=>
  cases r with
  |nil=>rfl
  |cons b r=>
   have e:(a::b::r).length-1=((b::r).length-1)+1:=by have g:(a::b::r).length=r.length+2:=rfl;have c:(b::r).length=r.length+1:=rfl;ext
   rw[e,List.eraseIdx_cons_succ,ih]
   all_goals rfl
section
variable{X:Cx}{cp:List (ao×Obj)}{σ:St}{H:Hp}{s:am}{l b:ao}{xs ys zs:List V}
theorem Inv.lset{its its':List ag}{n:Nat}{f:Array ag->Array ag}{t':Nat}(I:Inv X cp σ H s)(o:H l=some (.lst xs))
  (e:s.heap.get? l=some { cls:=.type "list",data:=.seq its.toArray n }) (g:f its.toArray=its'.toArray) (c:b7 ys its') (hz:ys.length<=sizeLine):
  Inv X cp σ (ff H l (.lst ys)) { s with heap:=s.heap.update l (px f),toks:=t' }:=by
 have q:=PySem.IsL.update e f;rw[g]at q;refine I.write (x:=l) (e:=l) (by rw[o];exact trivial) (.inl rfl) (λv u h hu=>(cI s.heap (px f) (bG h)).trans hu) ⟨_,q⟩ ?_;exact⟨hz,its',_,c,q⟩
theorem Inv.lnew{its:List ag}{t':Nat}(I:Inv X cp σ H s)(c:b7 ys its)(hz:ys.length<=sizeLine):
  Inv X cp σ (ff H s.heap.objs.size (.lst ys)) { s with heap:=s.heap.push { cls:=.type "list",data:=.seq its.toArray },toks:=t' }:=
 I.laid (λ_ _ q=>ak _ q) (av _) ⟨hz,its,0,c,ay _ rfl⟩
theorem Inv.fresh(I:Inv X cp σ H s):H s.heap.objs.size=none:=I.hok.fresh (av _)
theorem Inv.lstM(I:Inv X cp σ H s)(c:H l=some (.lst xs)):xs.length<=sizeLine/\∃(its:List ag)(n:Nat),b7 xs its/\xs.length=its.length/\s.heap.get? l=some { cls:=.type "list",data:=.seq its.toArray n }:=by obtain⟨z,its,n,r,e⟩:=I.hok l _ c;exact⟨z,its,n,r,r.length,e⟩
end
section
variable{X:Cx}
def yJ:V->List V->Hp->VK->Prop:=λx c H Q=>∃l xs y,x=.ref l/\c=[y]/\H l=some (.lst xs)/\xs.length < sizeLine/\Q .non (ff H l (.lst (xs++[y])))
theorem Mk:Nr X "list.append" yJ:=by intro c s σ H x E v G Q I o B h;obtain⟨l,xs,y,rfl,rfl,g,hz,q⟩:=h;cases o;obtain⟨u,rfl,C⟩:=B.one;obtain⟨z,its,n,r,J,e⟩:=I.lstM g;refine uG F.slot_list_append ⟨_,e,rfl⟩ F.entry_list_append (F.args_list_append_2 _ _) (PySem.list_append l its.toArray n u (by rw[aF];ext)) ⟨e,?_⟩;refine⟨.non,_,I.lset (its':=its++[u]) g e (by simp) (r.append (.cons C .nil)) ?_,rfl,q⟩;rw[aH,uH];ext
def HI:V->List V->Hp->VK->Prop:=λx c H Q=>∃l xs y,x=.ref l/\c=[]/\H l=some (.lst xs)/\xs[xs.length-1]?=some y/\Q y (ff H l (.lst xs.dropLast))
theorem Rh:Nr X "list.pop" HI:=by
 intro o s σ H x O v U Q I C E h;obtain⟨l,xs,y,rfl,rfl,B,J,q⟩:=h;cases C;have g:=E.zero;subst g;obtain⟨z,its,n,r,L,e⟩:=I.lstM B;obtain⟨u,hu,G⟩:=r.get J;have c:its.toArray[its.toArray.size-1]?=some u:=by show its.toArray[its.length-1]?=some u;rw[<- eR,<- L];exact hu
 refine uG F.slot_list_pop ⟨_,e,rfl⟩ F.entry_list_pop (F.args_list_pop_1 _) (MeetsSeq.list_pop_last l its.toArray n u c (by rw[aF];ext)) ⟨e,?_⟩;refine⟨y,_,I.lset (its':=its.dropLast) B e ?_ r.dropLast ?_,G,q⟩
 ·show its.toArray.eraseIdxIfInBounds (its.toArray.size-1)=its.dropLast.toArray;rw[aF,List.eraseIdxIfInBounds_toArray,S9]
 ·rw[vd];ext
def J9:R2:=λx y H Q=>∃l b xs zs,x=.ref l/\y=.ref b/\H l=some (.lst xs)/\H b=some (.lst zs)/\xs.length+zs.length<=sizeLine/\∀p,H p=none->Q (.ref p) (ff H p (.lst (xs++zs)))
theorem Oa:OpR X (eZ .Add) J9:=by
 intro g s σ H x y v u Q I B o h;obtain⟨l,b,xs,zs,rfl,rfl,G,J,hz,q⟩:=h;cases B;cases o;obtain⟨z,its,n,r,hl,e⟩:=I.lstM G;obtain⟨U,c,Y,C,E,O⟩:=I.lstM J;refine PySem.P.add_list e O ?_ (by rw[aF,aF];ext);have L:its.toArray++c.toArray=(its++c).toArray:=by simp
 rw[L];exact⟨.ref _,_,I.lnew (t':=s.toks) (r.append C) (by rw[aH];ext),rfl,q _ I.fresh⟩
end
section
variable{prog:Program}{w:bE}{A:bv}{E:ag->am->Prop}{s:am}
theorem W_{a c n:Nat}(g:a<=c)(o:c<=n):fD (some (a:Int)) (some (c:Int)) none n=((a:Int),(c:Int),1):=by
 simp only[fD,pM];have l:¬ ((a:Int) < 0):=by ext
 have h:¬ ((c:Int) < 0):=by ext
 simp only[l,h,if_false,show (1:Int) > 0 by decide,if_true];congr 1
 ·ext
 ·congr 1;ext
end
end L2
namespace Att
open PySem PySem.W PySem.Calls PyProof.Rows
theorem WC{P:Params}{h:bA}:∀(c:List Int)(g:List ag),WellAll P h g (c.map Gc)->kZ g c:=by
 intro c
 induction c with
 |nil=>
  intro g w;rw[mT]at w;cases w;exact .nil
 |cons n c ih=>
  intro g w;rw[aK]at w;cases w with
  |cons a b=>
   cases a;exact .cons _ _ (ih _ b)
theorem Pr{l:OpenLaw}{n:Nat}(I:l.most=some n){P:Params}{h:bA}{args:List WData}{g:List ag}
  (o:l.row.toRowW.claim.pre args=true) (C:WellAll P h g args):
  ∃a E c,g=[aV a]/\args=[WData.list (c.map Gc)]/\h.get? a=some { cls:=.type "list",data:=.seq E.toArray }/\kZ E c/\c.length<=n:=by
 have DL:WShape.hasAll [] args [.list .int]=true:=(pre_splitW o).1;have G:l.pre.holds [] { args:=args }=true:=(pre_splitW o).2;obtain⟨d,r,rfl,O,L⟩:=hasAllW_cons DL;obtain rfl:=hasAllW_nil L;obtain⟨xs,rfl,J⟩:=hasW_list O;obtain⟨c,rfl⟩:=items_int J;have u:c.length<=n:=by
  unfold OpenLaw.pre at G;have B:(WTm.not (.lt (.lit (.int (n:Int))) (.len (.arg 0)))).holds [] { args:=[.list (c.map .int)] }=true:=by have B:=(holds_andW G).1;rw[I]at B;exact B
  have v:=condW_of B (w_not (w_lt w_lit (w_len_list (w_arg rfl))));rw[ae]at v;refine qQ λq=>?_;have H:(n:Int) < ((c.length:Nat):Int):=by ext
  first
   | (rw[bB H]at v;exact bn v (by decide))
   | (simp at v;ext)
 cases C with
 |cons w1 w2=>
  cases w2;cases w1 with
  |list ho hall=>exact⟨_,_,c,rfl,rfl,ho,WC c _ hall,u⟩
theorem Qd(l:OpenLaw)(args:List WData):l.row.toRowW.claim.post args (.bool true) args=true:=
 postW_of (r:=l.row.toRowW) (X:=(true == true))
  (show Ci [] (.bool true) .bool=true by first|rfl|decide|simp[Ci,WShape.arms,WShape.armsAll])
  (show (WTm.eq .res (.lit (.bool true))).value [] { args:=args,res:=some (.bool true),after:=args }=some (.bool (true == true)) from w_eq_bool (w_res rfl) w_lit) rfl
theorem tK{l:OpenLaw}{n:Nat}{q:Program}{c:List Str}{XP:(Str->Option ag)->bA->Prop}{YP:bE->bA->Prop}{d:DefRec}
  (hn:l.most=some n) (hdf:d.params.defaults=[])
  (call:∀(w:bE)(s₀ s₁:am)(mg O:Str->Option ag)(E:ao)(o:Obj)(L J h:ag)(a:ao)(u:List ag)(I:List Int),
   Ground q c [] XP w s₀ mg O s₁.heap->YP w s₁.heap ->
   s₁.heap.get? E=some o->o.data=.func (docDef d.name d.params d.body d.scope L J h)->s₁.heap.CodeRec J d.name->mg d.name=some (.ref E) ->
   s₁.heap.get? a=some { cls:=.type "list",data:=.seq u.toArray }->kZ u I->I.length<=n->s₁.gens=#[] ->
   i6 (aT l.prog w) k_ (.call (.ref E) ⟨[.ref a],[]⟩) (λr H=>r=.ok (.ret (.bool true))/\OldK s₁.heap H.heap/\H.os=s₁.os/\lY H.gens) s₁):
  WalkO q c XP YP l.row.toRowW d [] (λf u=>vQ f u):=by
 intro w s₀ s₁ mg O G Y E o L J h dV kV ho hd hcd hD U hg args vals as v hlay hrd Q hlo;obtain rfl:dV=.none:=Dflts.none hD hdf;obtain rfl:kV=.none:=Dflts.noKw hD;obtain⟨a,u,I,rfl,rfl,B,g,C⟩:=Pr hn v Q;refine enter_call (n_ (call w s₀ s₁ mg O E o L J h a u I G Y ho (fd_plain hd) hcd U B g C hg) λr H hq=>?_);obtain⟨rfl,h2,h3,h4⟩:=hq;exact⟨.inl ⟨.bool true,.bool true,[],rfl,λ_=>rfl,.bool true,Qd l _,λ_=>⟨List.Pairwise.nil,λ_ hm=>(nomatch hm)⟩⟩,h2,h3,h4⟩
end Att
namespace L2
open PySem PySem.Spec PyProof.Rows
theorem Jn:∀{c:List ag}{g:List Int},kZ c g->b7 (g.map V.int) c
 |_,_,.nil=>.nil
 |_,_,.cons n t h=>.cons ⟨t,rfl⟩ (Jn h)
noncomputable def EA(H:Hp):Prop:=∀b,H b=none\/∃o xs,H b=some (.frz o (.lst xs))
theorem Xc{P:Program}{w:bE}{K:aj}{mg mb:Str->Option ag}{CX:wn}{k:Nat}{fa a:ao}{fd:dG}{x:Str}{sp:Sp}{s₁:am}{E:List ag}{L:List Int}
  (KX:K.In s₁.heap) (Y:s₁.heap.Ns cC mg) (g:s₁.heap.Ns n6 mb) (hbb:∀x:Str,x≠"__name__"->mb x=cM x) (hlim:s₁.heap.NoLimit) (hg:s₁.gens=#[])
  (ha:s₁.heap.get? a=some { cls:=.type "list",data:=.seq E.toArray }) (hi:kZ E L) (hl:L.length<=sizeLine) (hr:iU k k_)
  (F:∀base:bA,K.In base->base.Ns cC mg->m7 P w K mg base CX k fa fd [x] sp) (G:∀(s:am)(u:ag),rL s fd ⟨[u],[]⟩ [(x,u)])
  (hsp:∀H:Hp,EA H->gY K H a (L.map V.int)->sp [.ref a] H (λv _=>v=.bl true) λ_ _ _=>False)
  (hCX:∀H e l,CX [] H s₁ (λ_ _ _=>False) e l->False):
  i6 (aT P w) k_ (.call (.ref fa) ⟨[.ref a],[]⟩) (λr l=>r=.ok (.ret (.bool true))/\OldK s₁.heap l.heap/\l.os=s₁.os/\lY l.gens) s₁:=by
 have rv:=Jn hi;have O:=hi.length;have C : ∀H : Hp, EA H -> gY K H a (L.map V.int) -> nI P w H s₁.heap -> (∀b, H b ≠ none -> b = a) -> (H a ≠ none -> K.lookup a = none) ->
   i6 (aT P w) k_ (.call (.ref fa) ⟨[.ref a],[]⟩) (λr l=>r=.ok (.ret (.bool true))/\OldK s₁.heap l.heap/\l.os=s₁.os/\lY l.gens) s₁:=by
  intro H hO hS U hA hK;have c:∀{b:ao}{o:Obj},s₁.heap.get? b=some o->H b=none->(nZ s₁.heap H).get? b=some o:=λe n=>L5 e n;have noA:∀{b:ao}{o:Obj}{es:Array fm}{ep:Nat},s₁.heap.get? b=some o->o.data=.dict es ep->H b=none:=λ{b o es ep}e d=>by
   cases q:H b with
   |none=>rfl
   |some u=>
    have e':b=a:=hA b (by rw[q];simp);subst e';rw[ha]at e;cases e;have d':Data.seq E.toArray _=Data.dict es ep:=d;cases d'
  have B:∀{b:ao}{m:Str->Option ag},s₁.heap.Ns b m->(nZ s₁.heap H).Ns b m:=λ{b m}J=>by obtain⟨o,es,ep,e,d,r⟩:=J;exact⟨o,es,ep,c e (noA e d),d,r⟩
  have hKb:K.In (nZ s₁.heap H):=λb o e=>c (KX b o e) (by
   cases q:H b with
   |none=>rfl
   |some u=>
    have e':b=a:=hA b (by rw[q];simp);subst e';rw[hK (by rw[q];simp)]at e;cases e)
  have hM:Mod K mg (nZ s₁.heap H):=⟨hKb,B Y,⟨mb,B g,hbb⟩,let ⟨mc,h1,h2⟩:=hlim;⟨mc,B h1,h2⟩⟩
  have e0:vB P w K mg (nZ s₁.heap H) k_ [] s₁ H:=⟨rfl,hM,λb o e=>Lv e,Fe (M9 _ _),trivial,λb g=>bn (show b∈([]:List ao) from g) (by simp),U,.of_eq hg⟩
  refine n_ ((F _ hKb (B Y)).run k_ [] s₁ H ⟨[.ref a],[]⟩ [.ref a] [.ref a] _ _ hr e0 (G s₁ (.ref a)) (.cons rfl .nil) (hsp H hO hS)) λr l h=>?_;cases r with
  |error e=>exact (hCX H e l h).elim
  |ok fl=>
   cases fl with
   |next=>exact dW h
   |brk=>exact dW h
   |cont=>exact dW h
   |ret u=>
    obtain⟨v,H',os,bare,un,Q,r',q⟩:=h;have q':v=.bl true:=q;subst q';obtain rfl:u=df true:=r';refine⟨rfl,OldK.of_keep λb o e=>?_,os,bare⟩;cases q:H b with
    |none=>exact un.keep b o e q (by intro z;exact bn (show b∈([]:List ao) from z) (by simp)) (by simp)
    |some u=>
     rcases hO b with z|⟨ob,xs,z⟩
     ·rw[q]at z;cases z
     ·have g:=un.frzs b ob _ z;obtain⟨c,_⟩:=U b _ z;obtain⟨h,_⟩:=Q b _ g;rw[e]at c;cases c;exact h
 cases hk:K.lookup a with
 |some o=>
  have e:=KX a o hk;rw[ha]at e;cases e;refine C (λ_=>none) (λ_=>.inl rfl) (.inr ⟨_,E.toArray,_,hk,rfl,rfl,rfl,by rw[aF,O];exact hl,by simpa using rv⟩) (λb u z=>by have I:(none:Option HO)=some u:=z;cases I) (λb z=>bn rfl z) λz=>bn rfl z
 |none=>
  refine C (λb=>if b=a then some (.frz { cls:=.type "list",data:=.seq E.toArray } (.lst (L.map V.int))) else none) (λb=>?_) (.inl (.inr ⟨{ cls:=.type "list",data:=.seq E.toArray },aG rfl⟩)) (λb u z=>?_) (λb z=>?_) λ_=>hk
  ·by_cases g:b=a
   ·exact .inr ⟨_,_,aG g⟩
   ·exact .inl (aC g)
  ·by_cases g:b=a
   ·have I:=(aG g).symm.trans z;cases I;subst g;exact⟨ha,by rw[ae];exact hl,E,_,rv,ha⟩
   ·have I:=(aC g).symm.trans z;cases I
  ·by_cases g:b=a
   ·exact g
   ·exact bn (aC g) z
noncomputable def fE(s:fH):mj:=match s with
 | .FunctionDef _ a _ _ _ _ _ _ _ _=>a
 |_=>{ posonlyargs:=[],args:=[],vararg:=none,kwonlyargs:=[],kw_defaults:=[],kwarg:=none,defaults:=[] }
noncomputable def dw(s:fH):List fH:=match s with
 | .FunctionDef _ _ b _ _ _ _ _ _ _=>b
 |_=>[]
noncomputable def bD(s:fH):dR:=match s with
 | .FunctionDef _ _ _ _ _ _ sc _ _ _=>sc
 |_=>{ kind:=.function,names:=[],isGenerator:=false,isCoroutine:=false }
noncomputable abbrev sf:wn:=λ_ _ _ _ _ _=>False
noncomputable abbrev E0:XK:=λ_ _ _=>False
theorem MB{X:Cx}:sD sf X E0:=λ_ _ _ _ _ _ _ h=>h.elim
structure xB(K:aj)(x qual:Str)(st:fH)(f:ao)(fd:dG):Prop where
 ex:∃(oc:ag)(od:Option ao)(kV doc pm:ag)(an:Option ao)(cdv ct:ag)(osl:Array (Option ag)),
  fd=cD x qual (fE st) (dw st) (bD st) .none kV doc pm an cdv ct/\K.lookup f=some ⟨oc,od,.func fd,osl⟩/\fR K cdv qual=true
 kp:dm K (.ref f)=true
section
variable{P:Program}{w:bE}{K:aj}{mg:Str->Option ag}{base:bA}
theorem xB.binds{x qual:Str}{st:fH}{f:ao}{v:dG}{o:List Str}(F:xB K x qual st f v)
  (h:∀(kV c q:ag)(u:Option ao)(g ct:ag)(l:List ag),l.length=o.length->lA (cD x qual (fE st) (dw st) (bD st) .none kV c q u g ct) ⟨l,[]⟩=pure (o.zip l)):Binds K v o []:=by
 obtain⟨G,E,kV,c,q,u,g,ct,B,rfl,H,C⟩:=F.ex;exact .all (h kV c q u g ct)
theorem Mg{x qual:Str}{st:fH}{f:ao}{B:ag}{v u:Option ao}{o:Array (Option ag)}{kV h q g ct:ag}(l:K.lookup f=some ⟨B,v,.func (cD x qual (fE st) (dw st) (bD st) .none kV h q u g ct),o⟩)
  (c:fR K g qual=true) (k:dm K (.ref f)=true):xB K x qual st f (cD x qual (fE st) (dw st) (bD st) .none kV h q u g ct):=⟨⟨B,v,kV,h,q,u,g,ct,o,rfl,l,c⟩,k⟩
end
section
variable{κ:Type}[DecidableEq κ]
noncomputable def pU(c:List (κ×V))(k:κ):Option V:=(c.find? λg=>decide (g.1=k)).map (·.2)
noncomputable def oC(c:List (κ×V))(k:κ)(v:V):List (κ×V):=
 if (c.any λg=>decide (g.1=k))=true then c.map (λg=>if g.1=k then (g.1,v) else g) else c++[(k,v)]
theorem Fs{p:κ×V}{r:List (κ×V)}{k:κ}(e:p.1=k):pU (p::r) k=some p.2:=by simp[pU,cE,e]
theorem FV{p:κ×V}{r:List (κ×V)}{k:κ}(e:¬ p.1=k):pU (p::r) k=pU r k:=by simp[pU,cE,e]
theorem LX(k:κ):∀c:List (κ×V),(c.any λg=>decide (g.1=k))=(pU c k).isSome
 |[]=>rfl
 |p::r=>by
  rw[eD];by_cases e:p.1=k
  ·simp only[Fs e,bB e,Bool.true_or,oy]
  ·rw[FV e,aR e,BI];exact LX k r
theorem Nw(c:List (κ×V))(k:κ)(v:V):(oC c k v).length<=c.length+1:=by
 unfold oC;split
 ·rw[ae];ext
 ·rw[aH,bC,gI];ext
theorem pi.isSome_eq{o:Option V}{u:Option ag}(r:pi o u):o.isSome=u.isSome:=by
 cases o with
 |none=>cases u with
  |none=>rfl
  |some _=>exact (show False from r).elim
 |some _=>cases u with
  |none=>exact (show False from r).elim
  |some _=>rfl
theorem KV.val{c:List (κ×V)}{l:List (κ×ag)}(r:KV c l)(k:κ):pi (pU c k) (rQ l k):=by
 unfold KV at r
 induction r with
 |nil=>exact eE
 |@cons p q ps qs h t ih=>
  obtain⟨o,u⟩:=h;by_cases e:p.1=k
  ·have g:q.1=k:=o.symm.trans e;have b:rQ (q::qs) k=some q.2:=by simp[rQ,cE,g]
   rw[Fs e,b];exact u
  ·have g:¬ q.1=k:=λz=>e (o.trans z);have b:rQ (q::qs) k=rQ qs k:=by simp[rQ,cE,g]
   rw[FV e,b];exact ih
theorem KV.any{c:List (κ×V)}{l:List (κ×ag)}(r:KV c l)(k:κ):(c.any λg=>decide (g.1=k))=l.any λg=>decide (g.1=k):=by
 unfold KV at r
 induction r with
 |nil=>rfl
 |cons h t ih=>rw[eD,eD,ih,h.1]
theorem KV.repl{g:List (κ×V)}{o:List (κ×ag)}(r:KV g o)(k:κ){y:V}{u:ag}(v:RelV y u):
  KV (g.map λc=>if c.1=k then (c.1,y) else c) (o.map λc=>if c.1=k then (c.1,u) else c):=by
 unfold KV at r ⊢
 induction r with
 |nil=>exact .nil
 |@cons p q ps qs h t ih=>
  rw[aK,aK];refine .cons ?_ ih;obtain⟨l,B⟩:=h;by_cases e:p.1=k
  ·rw[aG e,aG (l.symm.trans e)];exact⟨l,v⟩
  ·rw[aC e,aC (λz=>e (l.trans z))];exact⟨l,B⟩
theorem KV.put{c:List (κ×V)}{g:List (κ×ag)}(r:KV c g)(k:κ){y:V}{u:ag}(h:RelV y u):KV (oC c k y) (stored g k u):=by
 unfold oC stored;rw[r.any k];by_cases e:(g.any λl=>decide (l.1=k))=true
 ·rw[aG e,aG e];exact r.repl k h
 ·rw[aC e,aC e];exact nt r ⟨rfl,h⟩
theorem KV.length{c:List (κ×V)}{g:List (κ×ag)}(r:KV c g):c.length=g.length:=bZ r
end
theorem Fw{P:Program}{w:bE}{k:Key}{u:ag}(r:RelV (kV k) u):(gG P w).is k u=true:=by
 cases k with
 |inl i=>obtain⟨t,e⟩:=(show ∃t,u=fZ i t from r);subst e;exact Sx P w i t
 |inr x=>obtain⟨t,e⟩:=(show ∃t,u=iE x t from r);subst e;exact VY P w x t
theorem MK{P:Program}{w:bE}:∀{ks:List Key}{c:List ag},b7 (ks.map kV) c->ItemsAre (gG P w) ks c
 |[],_,r=>by rw[mT]at r;cases r;exact .nil
 |k::ks,_,r=>by
  rw[aK]at r;cases r with
  |cons h t=>exact .cons (Fw h) (MK t)
abbrev KT(H:Hp):List (List Key×V)->List (List Key×ao×ag)->Prop:=kf λp q=>p.1=q.1/\H q.2.1=some (.tup (p.1.map kV))/\RelV p.2 q.2.2
theorem KT.val{H:Hp}{c:List (List Key×V)}{xs:List (List Key×ao×ag)}(r:KT H c xs)(k:List Key):pi (pU c k) ((iW xs k).map (·.2)):=by
 induction r with
 |nil=>exact eE
 |@cons p q ps qs h t ih=>
  obtain⟨l,_,o⟩:=h;by_cases e:p.1=k
  ·have g:q.1=k:=l.symm.trans e;have b:iW (q::qs) k=some q.2:=by simp[iW,cE,g]
   rw[Fs e,b];exact o
  ·have g:¬ q.1=k:=λz=>e (l.trans z);have b:iW (q::qs) k=iW qs k:=by simp[iW,cE,g]
   rw[FV e,b];exact ih
theorem KT.repl{H:Hp}{c:List (List Key×V)}{xs:List (List Key×ao×ag)}(r:KT H c xs)(k:List Key){y:V}{u:ag}(v:RelV y u):
  KT H (c.map λl=>if l.1=k then (l.1,y) else l) (xs.map (s_ k u)):=by
 induction r with
 |nil=>exact .nil
 |@cons p q ps qs h t ih=>
  rw[aK,aK];refine .cons ?_ ih;obtain⟨g,o,B⟩:=h;unfold s_;by_cases e:p.1=k
  ·rw[aG e,aG (g.symm.trans e)];exact⟨g,o,v⟩
  ·rw[aC e,aC (λz=>e (g.trans z))];exact⟨g,o,B⟩
theorem KT.put{H:Hp}{c:List (List Key×V)}{xs:List (List Key×ao×ag)}(r:KT H c xs)(k:List Key){b:ao}{y:V}{u:ag}(l:H b=some (.tup (k.map kV)))(g:RelV y u):
  KT H (oC c k y) (lc xs k b u):=by
 have e:(c.any λh=>decide (h.1=k))=(iW xs k).isSome:=by rw[LX,(r.val k).isSome_eq,lR]
 unfold oC lc;rw[e];by_cases q:(iW xs k).isSome=true
 ·rw[aG q,aG q];exact r.repl k g
 ·rw[aC q,aC q];exact nt r ⟨rfl,l,g⟩
theorem KT.keeps{H g:Hp}{c:List (List Key×V)}{xs:List (List Key×ao×ag)}(r:KT H c xs)(h:∀b ys,H b=some (.tup ys)->g b=some (.tup ys)):KT g c xs:=
 kf.mapP r λ_ _ z=>⟨z.1,h _ _ z.2.1,z.2.2⟩
section
variable{P:Program}{w:bE}{H:Hp}{h:bA}{a:ao}
theorem Lj{u:HO}(ok:nI P w H h)(e:Rd H a u):eU P w H h a u:=e.ok ok
theorem FC{c:List (Key×V)}(ok:nI P w H h)(e:Rd H a (.dK c)):c.length<=sizeLine/\(a == bO)=false/\∃g,KV c g/\h.DictOf (gG P w) a g:=
 show eU P w H h a (.dK c) from Lj ok e
theorem MR{c:List (Key×V)}(ok:nI P w H h)(e:H a=some (.dK c)):c.length<=sizeLine/\(a == bO)=false/\∃g,KV c g/\h.DictOf (gG P w) a g:=FC ok (.inl e)
theorem FL{ks:List Key}(ok:nI P w H h)(e:H a=some (.tup (ks.map kV))):(sL (gG P w)).is h ks a:=by
 obtain⟨_,its,r,o,l,g,⟨n,c⟩,_⟩:=(show eU P w H h a (.tup (ks.map kV)) from ok a _ e)
 exact⟨o,its.toArray,n,l,g,c,by simpa using MK r⟩
theorem Hk{c:List (List Key×V)}(ok:nI P w H h)(e:Rd H a (.dT c)): c.length<=sizeLine/\(a == bO)=false /\
  ∃xs,KT H c xs/\h.DictOfH (sL (gG P w)) a xs:=by
 obtain⟨z,y,xs,r,o,G,ep,E,C,B,v,u⟩:=(show eU P w H h a (.dT c) from Lj ok e)
 refine⟨z,y,xs,r,o,G,ep,E,C,B,v,λx g=>?_,u⟩;have all:∀{l:List (List Key×V)}{m:List (List Key×ao×ag)},KT H l m->∀x∈m,(sL (gG P w)).is h x.1 x.2.1:=by
  intro l m q
  induction q with
  |nil=>intro x g;exact nomatch g
  |@cons p q ps qs hq t ih=>
   intro x g;rcases aP.mp g with e|g
   ·subst e;exact FL ok (by rw[<- hq.1];exact hq.2.1)
   ·exact ih x g
 exact all r x g
theorem Vl{c:List (List Key×V)}(ok:nI P w H h)(e:H a=some (.dT c)): c.length<=sizeLine/\(a == bO)=false /\
  ∃xs,KT H c xs/\h.DictOfH (sL (gG P w)) a xs:=Hk ok (.inl e)
end
def vp(H:Hp)(a:ao)(y:V)(r:Option V):Prop:=
 (∃c k,Rd H a (.dK c)/\y=kV k/\r=pU c k)\/∃c k b,Rd H a (.dT c)/\y=.ref b/\H b=some (.tup (k.map kV))/\r=pU c k
def xZ(H:Hp)(a:ao)(y v:V)(g:Hp):Prop:=
 (∃c k,H a=some (.dK c)/\y=kV k/\c.length < sizeLine/\g=ff H a (.dK (oC c k v))) \/
 ∃c k b,H a=some (.dT c)/\y=.ref b/\H b=some (.tup (k.map kV))/\c.length < sizeLine/\g=ff H a (.dT (oC c k v))
theorem vp.k{H:Hp}{a:ao}{c:List (Key×V)}{k:Key}(e:H a=some (.dK c)):vp H a (kV k) (pU c k):=.inl ⟨c,k,.inl e,rfl,rfl⟩
theorem xZ.k{H:Hp}{a:ao}{c:List (Key×V)}{k:Key}{v:V}(e:H a=some (.dK c))(g:c.length < sizeLine):xZ H a (kV k) v (ff H a (.dK (oC c k v))):=.inl ⟨c,k,e,rfl,g,rfl⟩
section
variable{X:Cx}{cp:List (ao×Obj)}{σ:St}{H:Hp}{s:am}{a:ao}{y v:V}{u r:ag}{o:Option V}{A:bv}{E:ag->am->Prop}
theorem Inv.big(I:Inv X cp σ H s):bO < s.heap.objs.size:=by have h:cC < s.heap.objs.size:=(I.mod.glob.keeps I.bk).lt;exact p0 (by decide) h
theorem OC{Q:ag->am->Prop}(hu:A.units+1 < cA)(I:Inv X cp σ H s)(g:vp H a y (some v))(Y:RelV y u)(h:∀B U,Inv X cp σ H U->RelV v B->Q B U):
  aD (aT X.prog X.w) A (pL (.ref a) u) Q E s:=by
 rcases g with ⟨C,k,e,L,l⟩|⟨C,k,b,e,L,eb,l⟩
 ·subst L;obtain⟨z,hd,g,q,O⟩:=FC I.hok e;obtain⟨B,G,c⟩:=pi.some_of (v:=v) (o:=rQ g k) (by rw[l];exact q.val k);exact wpAny_getItem_of (Fw Y) O.mapOf G (h B _ (I.tok _) c)
 ·subst L;cases (show u=aV b from Y);obtain⟨z,hd,xs,q,O⟩:=Hk I.hok e;obtain⟨B,G,c⟩:=pi.some_of (v:=v) (o:=(iW xs k).map (·.2)) (by rw[l];exact q.val k);obtain⟨p,g,J⟩:=dC.mp G;refine BJ (qR hu) (FL I.hok eb) O g ?_;rw[J];exact h B _ (I.tok _) c
theorem Uo{Q:ag->am->Prop}(hu:A.units+1 < cA)(I:Inv X cp σ H s)(g:vp H a y o)(L:RelV y u)(h:∀J,Inv X cp σ H J->Q (.bool (!o.isSome)) J):
  aD (aT X.prog X.w) A (cX .NotIn u (.ref a)) Q E s:=by
 rcases g with ⟨B,k,e,C,l⟩|⟨B,k,b,e,C,O,l⟩
 ·subst C;obtain⟨z,hd,U,c,G⟩:=FC I.hok e;refine wpAny_notIn_of (Fw L) hd G.mapOf ?_;rw[<- (c.val k).isSome_eq,<- l];exact h _ (I.tok _)
 ·subst C;cases (show u=aV b from L);obtain⟨z,hd,xs,c,G⟩:=Hk I.hok e;refine Ff (qR hu) (FL I.hok O) hd G ?_;have q:=(c.val k).isSome_eq;rw[lR]at q;rw[<- q,<- l];exact h _ (I.tok _)
theorem Cb{h':bA}{t':Nat}{c:HO}(I:Inv X cp σ H s)(g:DV (H a))(h:cz a s.heap h')(l:∃q,h'.get? a=some q)(new:eU X.prog X.w (ff H a c) h' a c):
  Inv X cp σ (ff H a c) { s with heap:=h',toks:=t' }:=
 I.write (x:=a) (e:=a) g (.inl rfl) (λb q B z=>(h.2 b B).trans z) l new
theorem TQ{P:Program}{w:bE}{q:Hp}{h':bA}{c:List (Key×V)}{g:List (Key×ag)}(z:c.length<=sizeLine)(hd:(a == bO)=false)(h:KV c g)(l:h'.DictOf (gG P w) a g):
  eU P w q h' a (.dK c):=⟨z,hd,g,h,l⟩
theorem VJ{H':Hp}{Q:Unit->am->Prop}(hu:A.units+1 < cA)(I:Inv X cp σ H s)(g:xZ H a y v H')(ry:RelV y u)(rv:RelV v r)(h:∀s',Inv X cp σ H' s'->Q () s'):
  aD (aT X.prog X.w) A (n9 (.ref a) u r) Q E s:=by
 rcases g with ⟨C,k,e,U,l,Y⟩|⟨C,k,b,e,U,eb,l,Y⟩
 ·subst U Y;obtain⟨z,hd,c,B,o⟩:=MR I.hok e;have hz:c.length<=sizeLine:=by rw[<- B.length];exact z
  have O:(oC C k v).length<=sizeLine:=by have:=Nw C k v;ext
  refine wpAny_setItem_pairs (hsz:=hz) (Fw ry) o λh' G L=>h _ ?_;have g:∃q,h'.get? a=some q:=let ⟨q,_,_,J,_⟩:=G;⟨q,J⟩
  exact Cb I (by rw[e];exact eE) L g (TQ O hd (B.put k rv) G)
 ·subst U Y;cases (show u=aV b from ry);obtain⟨z,hd,xs,B,o⟩:=Vl I.hok e;have hz:xs.length<=sizeLine:=by rw[<- bZ B];exact z
  have O:(oC C k v).length<=sizeLine:=by have:=Nw C k v;ext
  refine wpAny_setItem_heap (hsz:=hz) (qR hu) (FL I.hok eb) o λh' G L=>h _ ?_;obtain⟨q,es,ep,J,Q,H,E,_,l⟩:=G;refine Cb I (by rw[e];exact eE) L ⟨q,J⟩ ⟨O,hd,_,(B.put k eb rv).keeps λc ys g=>?_,q,es,ep,J,Q,H,E,l⟩;rw[fO (R0 g e nofun)];exact g
end
section
variable{X:Cx}{cp:List (ao×Obj)}{σ:St}{H:Hp}{s:am}{a:ao}{cx:List (Key×V)}{k:Key}{u:ag}{A:bv}{E:ag->am->Prop}
theorem QC{Q:ag->am->Prop}(I:Inv X cp σ H s)(e:Rd H a (.dK cx))(h:∀t g,Inv X cp σ H g->Q (.int cx.length t) g):aD (aT X.prog X.w) A (call (.builtin "len") [.ref a]) Q E s:=by obtain⟨z,hd,o,c,l⟩:=FC I.hok e;refine call_len_dict hd l (by rw[<- c.length];rw[lx]at z;ext) ?_;rw[<- c.length];exact h _ _ (I.tok _)
end
theorem OI{P:Program}{w:bE}{H:Hp}(h:bA)(c:bO < h.objs.size):eU P w H (h.push { cls:=.type "dict",data:=.dict #[] }) h.objs.size (.dK []):=
 ⟨bx _,beq_eq_false_iff_ne.mpr (bG (bb c)),[],.nil,bA.DictOf.new h⟩
def A0:TE:=λ_ H Q=>∀p,H p=none->Q (.ref p) (ff H p (.dK []))
section
variable{X:Cx}{pos:Pos}
theorem Tv:PE X (.Dict [] [] pos) A0:=λc s σ H Q I h=>
 Fg ⟨.ref s.heap.objs.size,_,I.laid (a:=s.heap.objs.size) (o:=.dK []) (t':=s.toks) (λ_ _ q=>ak _ q) (av _) (OI s.heap I.big),rfl,h _ (I.hok.fresh (av _))⟩
end
end L2
namespace MM
open PySem PySem.Spec PyProof.Rows L2
noncomputable abbrev KI:=Int ⊕ List Int
section
variable{prog:Program}{w:bE}
variable(prog w) in
inductive vo(h:bA):KI->ag->Prop
 |one (i:Int) (t:Tok):vo h (.inl i) (.int i t)
 |row {k:List Int}{b:ao}:BK (pK prog w) h k b->vo h (.inr k) (.ref b)
variable(prog w) in
inductive nu(h:bA):List KI->List ag->Prop
 |nil:nu h [] []
 |cons {k:KI}{v:ag}{ks:List KI}{vs:List ag}:vo prog w h k v->nu h ks vs->nu h (k::ks) (v::vs)
variable(prog w) in
noncomputable def eQ(h:bA)(ks:List KI)(a:ao):Prop:=∃o items n,h.get? a=some o/\o.cls=.type "tuple"/\o.data=.seq items n/\nu prog w h ks items.toList
theorem vo.inj{h:bA}{x y:KI}{v:ag}(a:vo prog w h x v)(b:vo prog w h y v):x=y:=by
 cases a with
 |one i t=>cases b;rfl
 |row a=>cases b with
  |row b=>rw[a.inj b]
theorem nu.inj{h:bA}{x y:List KI}{c:List ag}(a:nu prog w h x c)(b:nu prog w h y c):x=y:=by
 induction a generalizing y with
 |nil=>cases b;rfl
 |cons a t ih=>cases b with
  |cons b u=>rw[a.inj b,ih u]
theorem eQ.typeIs{s:am}{ks:List KI}{a:ao}(x:eQ prog w s.heap ks a):s.TypeIs (.ref a) "tuple":=let ⟨o,_,_,ho,hc,_⟩:=x;⟨o,ho,hc⟩
theorem eQ.inj{h:bA}{a:ao}{x y:List KI}(v:eQ prog w h x a)(u:eQ prog w h y a):x=y:=by
 obtain⟨o,items,n,B,_,hd,C⟩:=v;obtain⟨o',g,E,l,_,c,q⟩:=u;cases B.symm.trans l;rw[hd]at c;injection c with h1 _
 subst h1;exact C.inj q
theorem vo.keeps{h h':bA}{d:ao}{o:Obj}{l ep}(g:h.get? d=some o)(hd:o.data=.dict l ep)(c:cz d h h'):∀{x:KI}{v:ag},vo prog w h x v->vo prog w h' x v
 |_,_,.one i t=>.one i t
 |_,_,.row a=>.row (a.keeps g hd c)
theorem nu.keeps{h h':bA}{d:ao}{o:Obj}{q ep}(l:h.get? d=some o)(hd:o.data=.dict q ep)(g:cz d h h'):∀{x:List KI}{c:List ag},nu prog w h x c->nu prog w h' x c
 |_,_,.nil=>.nil
 |_,_,.cons a t=>.cons (a.keeps l hd g) (nu.keeps l hd g t)
theorem eQ.keeps{h h':bA}{ks:List KI}{a d:ao}{o:Obj}{C ep}(x:eQ prog w h ks a)(u:h.get? d=some o)(hd:o.data=.dict C ep)(q:cz d h h'):
  eQ prog w h' ks a:=by
 obtain⟨o',items,n,g,B,c,v⟩:=x;have l:a≠d:=by
  rintro rfl
  obtain rfl:o'=o:=aE (g.symm.trans u);rw[hd]at c;exact nomatch c
 exact⟨o',items,n,(q.2 a l).trans g,B,c,v.keeps u hd q⟩
def As:KI->Int
 | .inl i=>hashInt i
 | .inr r=>reduceHash (dq (r.map hashInt))
def iK(ks:List KI):Int:=reduceHash (dq (ks.map As))
def GP:KI->Nat
 | .inl _=>1
 | .inr r=>r.length+1
def iy:List KI->Nat
 |[]=>0
 |k::ks=>GP k+iy ks
variable{A:bv}{E:ag->am->Prop}{s:am}
theorem HC(k:KI):∀(l:List KI),iy (l++[k])=iy l+GP k
 |[]=>by simp[iy]
 |x::l=>by simp[iy,HC k l];ext
theorem Uu{k:KI}{v:ag}{Q:Int->am->Prop}(hu:A.units < cA)(c:vo prog w s.heap k v)(h:Q (As k) { s with toks:=s.toks+GP k }):aD (aT prog w) A (pyHash v) Q E s:=by
 cases c with
 |one i t=>exact Fd h
 |row c=>exact wpAny_pyHash_tuple (knd:=pK prog w) hu c h
theorem Tc{x y:KI}{u v:ag}{Q:Bool->am->Prop}(hu:A.units < cA)(C:vo prog w s.heap x u)(l:vo prog w s.heap y v)(h:Q (decide (x=y)) s):aD (aT prog w) A (eqBool u v) Q E s:=by
 cases C with
 |one i t=>
  cases l with
  |one j t'=>
   refine sK ?_;have e:(i == j)=decide ((lm i:KI)=lm j):=by
    by_cases z:i=j
    ·subst z;simp
    ·have B:¬ ((lm i:KI)=lm j):=λq=>z (by injection q);rw[aR B];exact beq_eq_false_iff_ne.mpr z
   first|(rw[e];exact h)|(simpa [e] using h)
  |row h2=>
   obtain⟨o,items,n,c,g,hd,_⟩:=h2;rw[aR (by simp)]at h;exact rO.int_tuple i t ⟨o,c,g,n,hd⟩ hu prog w E Q h
 |row h1=>
  cases l with
  |one j t'=>
   obtain⟨o,items,n,c,g,hd,_⟩:=h1;rw[aR (by simp)]at h;exact rO.tuple_int j t' ⟨o,c,g,n,hd⟩ hu prog w E Q h
  |@row k2 b h2=>
   refine wpAny_eqBool_tuple (knd:=pK prog w) hu h1 h2 ?_;simpa using h
theorem Oz{ks:List KI}{a:ao}{Q:Int->am->Prop}(hu:A.units+1 < cA)(q:eQ prog w s.heap ks a)(h:Q (iK ks) { s with toks:=s.toks+(iy ks+1) }):
  aD (aT prog w) A (pyHash (.ref a)) Q E s:=by
 have g:=q.typeIs;obtain⟨o,items,n,u,_,hd,v⟩:=q;unfold pyHash
 first|unfold pyHashByItsType|skip
 first|refine ab (wpAny_cRoomFor_or (.inr (by ext)) ?_)|skip
 refine ab (i7 g mK.lookup ?_)
 show aD _ _ (if (some (l_ "tuple.__hash__") == some bF)=true then _ else _) Q E s;rw[aC (by rw[beq_builtin_none];exact aY)];refine ab (i7 g mK.lookup ?_)
 show aD _ _ (callSpecialIfBoundUnlessNone? (.ref a) "__hash__" _ >>= _) Q E s;refine ab (wpAny_callSpecialIfBoundUnlessNone?_slot g mK (bR mK g F.entry_tuple_hash ?_ (F.args_tuple_hash_1 _)))
 show aD _ _ (oZ (.ref a) >>= _) _ _ s;refine ab (qS u hd ?_);refine ab ?_;rw[<- gB];refine iD _
  (λrest(b:Array Int)l=>∃done left,ks=done++left/\nu prog w s.heap left rest/\b.toList=done.map (As)/\l={ s with toks:=s.toks+iy done })
  _ ?_ ?_ _ _ ⟨[],ks,rfl,v,rfl,rfl⟩
 ·rintro x rest b l ⟨done,left,rfl,hl,hb,rfl⟩
  cases hl with
  |@cons k b' ks' _ h1 hl'=>
   refine ab (Uu (k:=k) hu h1 ?_)
   first
    |exact ah ⟨done++[k],ks',by simp,hl',by simp[hb],by simp[HC,o9]⟩
    |exact ab (ah (ah ⟨done++[k],ks',by simp,hl',by simp[hb],by simp[HC,o9]⟩))
 ·rintro b l ⟨done,left,rfl,hl,hb,rfl⟩
  cases hl;rw[bI]at h
  show aD _ _ (retInt (dq b.toList)) _ _ _;rw[hb];refine Gd ?_
  show aD _ _ (if (decide (-(2:Int)^63<=dq (done.map (As)))&&decide (dq (done.map (As)) < 2^63))=true then _ else _) Q E _;unfold iK reduceHash at h;by_cases c:(decide (-(2:Int)^63<=dq (done.map (As)))&&decide (dq (done.map (As)) < 2^63))=true
  ·rw[aG c];rw[aG c]at h;exact ah (by simpa [o9] using h)
  ·rw[aC c];rw[aC c]at h;exact ab (gu (ah (by simpa [o9] using h)))
theorem RX{x y:List KI}{a b:ao}{P:Fin->am->Prop}(hu:A.units < cA)(hx:eQ prog w s.heap x a)(Y:eQ prog w s.heap y b)(h:P (.done (.ret (.bool (decide (x=y))))) s):
  aD (aT prog w) A (Builtin.«tuple.__eq__» ⟨[.ref a,.ref b],[]⟩) P E s:=by
 have U:=Y.typeIs;obtain⟨oa,xs,na,H,_,Q,L⟩:=hx;obtain⟨ob,ys,nb,G,_,O,J⟩:=Y
 show aD _ _ (BL (.ref b) (.type "tuple") >>= _) _ _ s;refine ab (dk U o0 ?_);simp only[cU,aL,if_false];refine ab (qS H Q ?_);refine ab (qS G O ?_);refine ab ?_;refine iD _
  (λrest r C=>r.1=none/\C=s/\∃B q g c,rest=List.zip g c/\nu prog w s.heap B g/\nu prog w s.heap q c/\decide (B=q)=decide (x=y)/\(g.length == c.length)=(xs.size == ys.size))
  _ ?_ ?_ _ _ ⟨rfl,rfl,x,y,xs.toList,ys.toList,rfl,L,J,rfl,by simp⟩
 ·rintro ⟨u,v⟩ rest r C ⟨hr,rfl,B,q,g,c,hz,hx',hy',hdec,hlen⟩
  cases hx' with
  |nil=>simp at hz
  |@cons k1 u' x'' xs'' h1 hx''=>
   cases hy' with
   |nil=>simp at hz
   |@cons k2 v' y'' ys'' h2 hy''=>
    simp only[List.zip_cons_cons,List.cons.injEq,Prod.mk.injEq]at hz;obtain⟨⟨rfl,rfl⟩,rfl⟩:=hz;refine ab (Tc (x:=k1) (y:=k2) hu h1 h2 ?_);by_cases I:k1=k2
    ·subst I;rw[bB rfl];simp only[cU,aL,if_false];refine ah ⟨rfl,rfl,x'',y'',xs'',ys'',rfl,hx'',hy'',?_,by simpa using hlen⟩;rw[<- hdec];by_cases l:x''=y''
     ·simp[l]
     ·simp[l]
    ·rw[aR I];simp only[h9,if_true];have o:decide (x=y)=false:=by rw[<- hdec];simp[I]
     rw[o]at h;exact ab (ah (ah (ah h)))
 ·rintro ⟨r1,r2⟩ C ⟨hr,rfl,B,q,g,c,hz,hx',hy',hdec,hlen⟩
  simp only at hr;subst hr;refine ah ?_;have o:(xs.size == ys.size)=decide (x=y):=by
   rw[<- hdec,<- hlen];cases hx' with
   |nil=>
    cases hy' with
    |nil=>simp
    |cons _ _=>simp
   |cons _ _=>
    cases hy' with
    |nil=>simp
    |cons _ _=>simp at hz
  show P (.done (.ret (.bool (xs.size == ys.size)))) C;rw[o];exact h
theorem VP{x y:List KI}{a b:ao}{Q:Bool->am->Prop}(hu:A.units+1 < cA)(g:eQ prog w s.heap x a)(l:eQ prog w s.heap y b)(h:Q (decide (x=y)) s):
  aD (aT prog w) A (eqBool (.ref a) (.ref b)) Q E s:=by
 unfold eqBool
 try with_reducible refine bH ?_
 show aD _ _ (if (aV a == aV b)=true then _ else _) Q E s;by_cases c:(aV a == aV b)=true
 ·rw[aG c];have e:a=b:=by have:=eq_of_beq c;injection this
  subst e;obtain rfl:=g.inj l;exact ab (gu (ah (by simpa using h)))
 ·rw[aC c];exact ab (t_ (op:=.Eq) g.typeIs l.typeIs lB
   (bR lB g.typeIs F.entry_tuple_eq (RX (by exact hu) g l ⟨_,rfl,nofun,fj h⟩) (F.args_tuple_eq_2 _ _)) (by ext))
theorem WN{n:Nat}{ks:List Int}{a:ao}{Q:Bool->am->Prop}(l:BK (pK prog w) s.heap ks a)(h:Q true s):aD (aT prog w) A (pN (n+1) (.ref a)) Q E s:=by
 have q:=l.typeIs;obtain⟨o,items,n,B,_,hd,C⟩:=l;unfold pN;refine ab (i7 q lB.lookup ?_)
 show aD _ _ (BL (.ref a) (.type "tuple") >>= _) _ _ s;refine ab (dk q o0 ?_);simp only[cU,aL,if_false];refine ab (cN B hd ?_);refine ab ?_
 show aD _ _ (forIn items _ _) _ _ s;rw[<- gB];refine iD _ (λrest r c=>r.1=none/\c=s/\∀v∈rest,carriedByValue v=true) _ ?_ ?_ _ _ ⟨rfl,rfl,C.byValue⟩
 ·rintro v rest r c ⟨hr,rfl,hall⟩
  rw[Cj _ (hall v cK)];refine ab (ah ?_);simp only[cU,aL,if_false];exact ah ⟨rfl,rfl,λu g=>hall u (bw _ g)⟩
 ·rintro ⟨r1,r2⟩ c ⟨hr,rfl,_⟩
  simp only at hr;subst hr;exact ah h
theorem Vz{n:Nat}{k:KI}{v:ag}{Q:Bool->am->Prop}(c:vo prog w s.heap k v)(h:Q true s):aD (aT prog w) A (pN (n+1) v) Q E s:=by
 cases c with
 |one i t=>rw[Cj _ (show carriedByValue (fZ i t)=true from rfl)];exact ah h
 |row c=>exact WN c h
theorem Q8{ks:List KI}{a:ao}{Q:Bool->am->Prop}(g:eQ prog w s.heap ks a)(h:Q true s):aD (aT prog w) A (pN 8 (.ref a)) Q E s:=by
 have l:=g.typeIs;obtain⟨o,items,n,q,_,hd,u⟩:=g;unfold pN;refine ab (i7 l lB.lookup ?_)
 show aD _ _ (BL (.ref a) (.type "tuple") >>= _) _ _ s;refine ab (dk l o0 ?_);simp only[cU,aL,if_false];refine ab (cN q hd ?_);refine ab ?_
 show aD _ _ (forIn items _ _) _ _ s;rw[<- gB];refine iD _ (λrest r c=>r.1=none/\c=s/\∃left,nu prog w s.heap left rest) _ ?_ ?_ _ _ ⟨rfl,rfl,ks,u⟩
 ·rintro v rest r c ⟨hr,rfl,left,hall⟩
  cases hall with
  |cons h1 hl=>
   refine ab (Vz (n:=6) h1 ?_);simp only[cU,aL,if_false];exact ah ⟨rfl,rfl,_,hl⟩
 ·rintro ⟨r1,r2⟩ c ⟨hr,rfl,_⟩
  simp only at hr;subst hr;exact ah h
end
def tD(prog:Program)(w:bE):nC prog w (List KI) where
 is:=eQ prog w
 hash:=iK
 draws:=λks=>iy ks+1
 room:=λA=>A.units+1 < cA
 inj:=λg c=>g.inj c
 keeps:=λx q hd o=>x.keeps q hd o
 pyHash:=λhu l h=>Oz hu l h
 eqBool:=λhu g c h=>VP hu g c h
 quiet:=λl h=>Q8 l h
end MM
namespace MM
open PySem PyProof.Rows
noncomputable def rE(h:bA)(d:ao)(n:Nat):Prop:=∃o c,h.get? d=some o/\o.data=.dict c n
section
variable{prog:Program}{w:bE}{K:Type}[DecidableEq K]{knd:nC prog w K}{A:bv}{E:ag->am->Prop}{s:am}{d a:ao}{k:K}{xs:List (K×ao×ag)}
theorem KW{v:ag}{Q:Unit->am->Prop}(hu:knd.room A)(l:knd.is s.heap k a)(hm:s.heap.DictOfH knd d xs)(hp:rE s.heap d xs.length)(hsz:xs.length<=sizeLine)
  (h:∀h',h'.DictOfH knd d (lc xs k a v)->rE h' d (lc xs k a v).length->cz d s.heap h'->Q () { s with heap:=h',toks:=s.toks+knd.draws k }):
  aD (aT prog w) A (Ck d (.ref a) v) Q E s:=by
 obtain⟨o,es,ep,g,hc,hd,L,B,I⟩:=id hm;obtain⟨o',es',C,O⟩:=hp;rw[g]at C;cases C;rw[hd]at O;cases O;unfold Ck;refine bH (ab (knd.pyHash hu l ?_));unfold dictSetHashed;refine bH (ab (p9 (s:={ s with toks:=s.toks+knd.draws k }) hu l g hd L B I (λH=>?_) λj p J=>?_))
 ·have G:k∉xs.map (·.1):=zL H;have e0:=Cm H;have u:=storedH_new (a:=a) (v:=v) e0;have o:=g9 L;refine ab (gu (py (hz:=by ext) (s:={ s with toks:=s.toks+knd.draws k }) g hd
   (h _ ⟨_,_,_,bJ _ g (dM (cj hd _)),hc.mapDictKeys _,cj hd _,?_,?_,?_⟩ ?_ (bV ..))))
  ·rw[u];simp[L,n5]
  ·rw[u];intro x c;rcases aX.mp c with c|c
   ·exact knd.keeps (B x c) g hd (bV ..)
   ·cases aJ.mp c;exact knd.keeps l g hd (bV ..)
  ·rw[u,bc,dN];refine⟨I,by simp,λx c y U=>?_⟩;cases aJ.mp U;exact λe=>G ((show x=k from e) ▸ c)
  ·rw[u,aH];exact⟨_,_,bJ _ g (dM (cj hd _)),cj hd _⟩
 ·have e0:=rR I J;have u:=storedH_old e0 a v;have G:j < es.size:=by rw[g9 L];exact (ac.mp J).1
  have Y:(es.modify j λe=>{ hash:=e.hash,key:=e.key,val:=v }).toList=(xs.map (s_ k v)).map (n5 knd):=by
   apply fL;intro i;rw[eR,Array.getElem?_modify,ar,ar];have o:es[i]?=(xs[i]?).map (n5 knd):=by rw[<- eR,L,ar]
   rw[o];by_cases z:j=i
   ·subst z;rw[aG rfl,J];simp[s_,n5]
   ·rw[aC z];cases c:xs[i]? with
    |none=>rfl
    |some x=>
     have l:x.1≠k:=λq=>by
      have E:(xs.map (·.1))[i]?=some k:=by rw[ar,c,<- q];rfl
      have C:(xs.map (·.1))[j]?=some k:=by rw[ar,J];rfl
      exact z ((fM (by rw[ae];exact (ac.mp J).1) I).mp (C.trans E.symm))
     simp[s_,l]
  refine ab (gu (ab (wpAny_updateDict (s:={ s with toks:=s.toks+knd.draws k }) g hd (wpAny_point
   (h _ ⟨_,_,_,bJ _ g (dM (mR hd _)),hc.mapDict _,mR hd _,?_,?_,?_⟩ ?_ (bV ..))))))
  ·rw[u];exact Y
  ·rw[u];intro x c;obtain⟨y,U,e⟩:=bU.mp c;have q:=knd.keeps (B y U) g hd (bV s.heap d (Obj.mapDict λx=>x.modify j λe=>{ hash:=e.hash,key:=e.key,val:=v }));rw[<- e];unfold s_;split
   ·exact q
   ·exact q
  ·rw[u,dD];have:(xs.map ((λx=>x.1)∘s_ k v))=xs.map (·.1):=dg λx _=>by show (s_ k v x).1=x.1;unfold s_;split<;>rfl
   rw[this];exact I
  ·rw[u,ae];exact⟨_,_,bJ _ g (dM (mR hd _)),mR hd _⟩
theorem Qn{v:ag}{Q:Unit->am->Prop}(hu:knd.room A.in1)(c:knd.is s.heap k a)(g:s.heap.DictOfH knd d xs)(l:rE s.heap d xs.length)(hsz:xs.length<=sizeLine)
  (h:∀h',h'.DictOfH knd d (lc xs k a v)->rE h' d (lc xs k a v).length->cz d s.heap h'->Q () { s with heap:=h',toks:=s.toks+knd.draws k }):
  aD (aT prog w) A (n9 (.ref d) (.ref a) v) Q E s:=by
 have T:=g.typeIs;unfold n9;refine bH (ab (Ch T (by decide) (ab (bz T xH (bR xH T F.entry_dict_setitem ?_ (F.args_dict_setitem_3 _ _ _))))));unfold Builtin.«dict.__setitem__»;refine ab (dY T ?_);rw[aC (by simp)]
 show aD _ _ (Ck d (.ref a) v >>= _) _ _ s;refine ab (KW hu c g l hsz λh' u q o=>ah ⟨_,rfl,ah (h h' u q o)⟩)
end
end MM
namespace MM
open PySem
inductive D where
 |non|bl (b:Bool)|int (i:Int)|str (x:Str)|tup (ds:List D)|lit (ds:List D)|ref (n:Nat)|dic (n:Nat)|exn (x:Str) (ds:List D)|fn (n:Nat)
inductive MO where
 |lst (ds:List D)|dct (b:Bool) (cx:List (D×D))|lam (e:vR)|tbl (x:Str)|dcf (cx:List (D×D))
noncomputable abbrev aZ:=List MO
noncomputable abbrev Qy:=D
inductive Rs(α:Type) where
 |ok (a:α) (s:aZ)|exc (x:Qy) (s:aZ)|bad
def M(α:Type):=aZ->Rs α
section
variable{α β:Type}
noncomputable def ret(a:α):M α:=λs=>.ok a s
noncomputable def bnd(m:M α)(f:α->M β):M β:=λs=>match m s with
 | .ok a s'=>f a s'
 | .exc x s'=>.exc x s'
 | .bad=>.bad
noncomputable def bad:M α:=λ_=>.bad
@[irreducible] def chk(c:Prop)[Decidable c](m:M α):M α:=if c then m else bad
end
noncomputable abbrev Loc:=List (Option D)
abbrev CE:=Loc->M D
abbrev CT:=Loc->M Bool
abbrev CA:=Loc->M (List D)
inductive r9 where
 |next (l:Loc)|ret (d:D)|brk (l:Loc)|cnt (l:Loc)
abbrev CS:=Loc->M r9
noncomputable def fu:Nat:=2^24
noncomputable def alloc(o:MO):M D:=λs=>.ok (.ref s.length) (s++[o])
def getL(n:Nat):M (List D):=λs=>match s[n]? with
 |some (.lst ds)=>.ok ds s
 |_=>.bad
def putL(n:Nat)(ds:List D):M Unit:=λs=>match s[n]? with
 |some (.lst _)=>.ok () (s.set n (.lst ds))
 |_=>.bad
def getDc(n:Nat):M (Bool×List (D×D)):=λs=>match s[n]? with
 |some (.dct b cx)=>.ok (b,cx) s
 |_=>.bad
def rZ(n:Nat)(b:Bool)(g:List (D×D)):M Unit:=λs=>match s[n]? with
 |some (.dct c _)=>if b=c then .ok () (s.set n (.dct b g)) else .bad
 |_=>.bad
mutual
noncomputable def oJ:D->D->Bool
 | .int i,.int j=>decide (i=j)
 | .str x,.str y=>decide (x=y)
 | .tup xs,.tup ys=>lX xs ys
 |_,_=>false
noncomputable def lX:List D->List D->Bool
 |[],[]=>true
 |x::xs,y::ys=>oJ x y&&lX xs ys
 |_,_=>false
end
noncomputable def kB:List D->Option (List Int)
 |[]=>some []
 | .int i::ds=>(kB ds).map (i::·)
 |_=>none
def i0:List D->Option (List (Int ⊕ List Int))
 |[]=>some []
 | .tup xs::ds=>match kB xs,i0 ds with
  |some r,some rs=>some (.inr r::rs)
  |_,_=>none
 | .int i::ds=>(i0 ds).map (.inl i::·)
 |_=>none
def stK:D->Option (List (Int ⊕ List Int))
 | .tup ds=>i0 ds
 |_=>none
def m5:Bool->D->Bool
 |false,.int _=>true
 |false,.str _=>true
 |true,d=>(stK d).isSome
 |_,_=>false
def lV(c:List (D×D))(k:D):Option D:=(c.find? λp=>oJ p.1 k).map (·.2)
def lG(c:List (D×D))(k v:D):List (D×D):=if (c.any λp=>oJ p.1 k)=true then c.map λp=>if oJ p.1 k=true then (p.1,v) else p else c++[(k,v)]
def t8(c more:List (D×D)):List (D×D):=more.foldl (λg p=>lG g p.1 p.2) c
def itemK(n:Nat)(k:D):M D:=bnd (getDc n) λp=>chk (m5 p.1 k=true) (match lV p.2 k with
 |some d=>ret d
 |none=>bad)
def storeK(n:Nat)(k v:D):M Unit:=bnd (getDc n) λp=>chk (m5 p.1 k=true/\p.2.length < fu) (rZ n p.1 (lG p.2 k v))
def hasK(n:Nat)(k:D):M Bool:=bnd (getDc n) λp=>chk (m5 p.1 k=true) (ret (lV p.2 k).isSome)
def wv:D->M (List D)
 | .tup ds=>ret ds
 | .lit ds=>ret ds
 | .ref n=>getL n
 |_=>bad
noncomputable def my(n:Nat)(i:Int):Option Nat:=if 0<=i then (if i < n then some i.toNat else none) else (if -(n:Int)<=i then some (i+n).toNat else none)
def fw:D->D->M D
 | .int i,.int j=>ret (.int (i+j))
 | .str x,.str y=>chk (x.length+y.length<=fu) (ret (.str (x++y)))
 | .tup x,.tup y=>chk (x.length+y.length<=fu) (ret (.tup (x++y)))
 | .ref a,.ref b=>bnd (getL a) λx=>bnd (getL b) λy=>chk (x.length+y.length<=fu) (alloc (.lst (x++y)))
 |_,_=>bad
def sC:D->D->M D
 | .int i,.int j=>ret (.int (i-j))
 |_,_=>bad
noncomputable def pF(i j:Int):Prop:=(-(2^64) < i/\i < 2^64)\/(-(2^64) < j/\j < 2^64)
instance(i j:Int):Decidable (pF i j):=by unfold pF;infer_instance
def rD:D->D->M D
 | .int i,.int j=>chk (pF i j) (ret (.int (i*j)))
 |_,_=>bad
def r6:D->D->M D
 | .int i,.int j=>chk (0 < j/\j < 1073741824) (ret (.int (i / j)))
 |_,_=>bad
def oT:D->D->M D
 | .int i,.int j=>chk (0 < j) (ret (.int (i % j)))
 |_,_=>bad
def wW:D->D->M D
 | .int i,.int j=>chk (0<=j/\j<=1000000/\i.natAbs < 2^64) (ret (.int (i^j.toNat)))
 |_,_=>bad
def rC:D->M D
 | .int i=>ret (.int (-i))
 |_=>bad
def Bf(p:Int->Int->Bool):D->D->M D
 | .int i,.int j=>ret (.bl (p i j))
 |_,_=>bad
def yD:=Bf λi j=>decide (i < j)
def xD:=Bf λi j=>decide (j < i)
def FT:=Bf λi j=>decide (j<=i)
noncomputable def oD(f:D->D->Option Bool):List D->List D->Option Bool
 |[],[]=>some true
 |x::xs,y::ys=>match f x y with
  |some true=>oD f xs ys
  |some false=>(oD f xs ys).map λ_=>false
  |none=>none
 |_::_,[]=>some false
 |[],_::_=>some false
noncomputable def Fq(g:List D->List D->Option Bool):D->D->Option Bool
 | .non,.non=>some true
 | .non,.bl _=>some false
 | .non,.int _=>some false
 | .non,.str _=>some false
 | .non,.tup _=>some false
 | .bl _,.non=>some false
 | .bl a,.bl b=>some (a == b)
 | .bl a,.int b=>some ((if a then 1 else 0) == b)
 | .bl _,.str _=>some false
 | .bl _,.tup _=>some false
 | .int _,.non=>some false
 | .int a,.bl b=>some (a == (if b then 1 else 0))
 | .int a,.int b=>some (a == b)
 | .int _,.str _=>some false
 | .int _,.tup _=>some false
 | .str _,.non=>some false
 | .str _,.bl _=>some false
 | .str _,.int _=>some false
 | .str a,.str b=>some (a == b)
 | .str _,.tup _=>some false
 | .tup _,.non=>some false
 | .tup _,.bl _=>some false
 | .tup _,.int _=>some false
 | .tup _,.str _=>some false
 | .tup xs,.tup ys=>g xs ys
 |_,_=>none
def v6:Nat->D->D->Option Bool
 |0,d,e=>Fq (λ_ _=>none) d e
 |n+1,d,e=>Fq (oD (v6 n)) d e
def HZ(d e:D):M Bool:=match d,e with
 | .ref a,.ref b=>bnd (getL a) λx=>bnd (getL b) λy=>match (if x.length=y.length then oD (v6 50) x y else some false) with
  |some r=>ret r
  |none=>bad
 | .ref a,.non=>bnd (getL a) λ_=>ret false
 | .non,.ref a=>bnd (getL a) λ_=>ret false
 |d,e=>match v6 50 d e with
  |some r=>ret r
  |none=>bad
def o8(d e:D):M D:=bnd (HZ d e) λb=>ret (.bl b)
def DX(d e:D):M D:=bnd (HZ d e) λb=>ret (.bl !b)
def D2:D->M D
 | .non=>ret (.bl true)
 |_=>ret (.bl false)
def E_:D->M D
 | .non=>ret (.bl false)
 |_=>ret (.bl true)
def cG(ds:List D)(i:Int):M D:=match my ds.length i with
 |some k=>match ds[k]? with
  |some d=>ret d
  |none=>bad
 |none=>bad
def aU:D->D->M D
 | .tup ds,.int i=>cG ds i
 | .lit ds,.int i=>cG ds i
 | .ref n,.int i=>bnd (getL n) λds=>cG ds i
 | .dic n,k=>itemK n k
 | .str x,.int i=>chk (x.length<=fu) (match my x.length i with
  |some k=>match x.cps.toList[k]? with
   |some c=>ret (.str ⟨#[c]⟩)
   |none=>bad
  |none=>bad)
 |_,_=>bad
def yF:D->M Bool
 | .non=>ret false
 | .bl b=>ret b
 | .int i=>ret (i != 0)
 | .str x=>chk (x.length<=fu) (ret ((x.length:Int) != 0))
 | .tup ds=>ret (!ds.isEmpty)
 | .lit ds=>ret (!ds.isEmpty)
 | .ref n=>bnd (getL n) λds=>ret (!ds.isEmpty)
 | .dic _=>bad
 | .exn _ _=>bad
 | .fn _=>bad
def aq(i:Nat):CE:=λl=>match l[i]? with
 |some (some d)=>ret d
 |_=>bad
def aM(d:D):CE:=λ_=>ret d
def c1(g:D->M D)(a:CE):CE:=λl=>bnd (a l) g
def c2(g:D->D->M D)(a b:CE):CE:=λl=>bnd (a l) λx=>bnd (b l) λy=>g x y
def bh:CA:=λ_=>ret []
def aw(a:CE)(r:CA):CA:=λl=>bnd (a l) λx=>bnd (r l) λxs=>ret (x::xs)
def dU(a:CA):CE:=λl=>bnd (a l) λxs=>chk (xs.length<=fu) (ret (.tup xs))
def JE(f g:D->D->M D)(a b c:CE):CE:=λl=>bnd (a l) λx=>bnd (b l) λy=>bnd (f x y) λz=>match z with
 | .bl true=>bnd (c l) λw=>g y w
 | .bl false=>ret (.bl false)
 |_=>bad
def sI(a b:CE):CE:=λl=>bnd (a l) λx=>match x with
 | .bl true=>b l
 | .bl false=>ret (.bl false)
 |_=>bad
def BU(a b:CE):CE:=λl=>bnd (a l) λx=>match x with
 | .bl true=>ret (.bl true)
 | .bl false=>b l
 |_=>bad
def wo(a:CE):CE:=λl=>bnd (a l) λx=>match x with
 | .bl b=>ret (.bl !b)
 |_=>bad
def wt(t:CT)(a b:CE):CE:=λl=>bnd (t l) λc=>if c=true then a l else b l
def bW(g:List D->M D)(a:CA):CE:=λl=>bnd (a l) g
def pd(a:CE):CT:=λl=>bnd (a l) yF
def di(a:CE):CT:=λl=>bnd (a l) λx=>match x with
 | .bl b=>ret b
 |_=>bad
def oK(a b:CT):CT:=λl=>bnd (a l) λc=>if c=true then b l else ret false
def rm(a b:CT):CT:=λl=>bnd (a l) λc=>if c=true then ret true else b l
def nM(a:CT):CT:=λl=>bnd (a l) λc=>ret !c
structure Wk where
 ds:List D
 same:aZ->Prop
abbrev CI:=Loc->M Wk
open Classical in
def chkS(p:aZ->Prop):M Unit:=λs=>if p s then .ok () s else .bad
noncomputable def dP:aZ->Prop:=λ_=>True
noncomputable def i5(n:Nat)(ds:List D):aZ->Prop:=λs=>s[n]?=some (.lst ds)
def iN(a:CE):CI:=λl=>bnd (a l) λx=>match x with
 | .tup ds=>ret ⟨ds,dP⟩
 | .lit ds=>ret ⟨ds,dP⟩
 | .ref n=>bnd (getL n) λds=>ret ⟨ds,i5 n ds⟩
 |_=>bad
noncomputable def kN(lo:Int)(n:Nat):List D:=(cg n).map λk=>.int (lo+(k:Nat))
def f_(a:CE):CI:=λl=>bnd (a l) λx=>match x with
 | .int j=>chk (-(2^62)<=j/\j < 2^62) (ret ⟨kN 0 j.toNat,dP⟩)
 |_=>bad
def mY(a b:CE):CI:=λl=>bnd (a l) λx=>bnd (b l) λy=>match x,y with
 | .int i,.int j=>chk ((-(2^62)<=i/\i < 2^62)/\(-(2^62)<=j/\j < 2^62)) (ret ⟨kN i (j-i).toNat,dP⟩)
 |_,_=>bad
def wz(a:CA):CI:=λl=>bnd (a l) λds=>ret ⟨ds,dP⟩
def tN(a:CE):CI:=λl=>bnd (a l) λx=>match x with
 | .tup ds=>ret ⟨(kN 0 ds.length).zipWith (λi d=>.tup [i,d]) ds,dP⟩
 |_=>bad
abbrev CG:=D->Loc->M Loc
def aQ(i:Nat):CG:=λd l=>ret (l.set i (some d))
def hU:List D->Loc->M Loc
 |[],l=>ret l
 |_,_=>bad
def cJ(g:CG)(r:List D->Loc->M Loc):List D->Loc->M Loc
 |d::ds,l=>bnd (g d l) λc=>r ds c
 |_,_=>bad
def gQ(n:Nat)(r:List D->Loc->M Loc):CG:=λd l=>match d with
 | .tup ds=>chk (ds.length=n) (r ds l)
 |_=>bad
noncomputable def ib(n:Nat)(caps:List Nat)(l:Loc):Loc:=bq n none++caps.map λi=>(l[i]?).join
def collect(g:CG)(t:CT)(e:CE)(same:aZ->Prop):List D->Loc->M (List D)
 |[],_=>bnd (chkS same) λ_=>ret []
 |d::ds,l=>bnd (chkS same) λ_=>bnd (g d l) λc=>bnd (t c) λb=>if b=true then bnd (e c) λx=>bnd (collect g t e same ds c) λxs=>ret (x::xs) else collect g t e same ds c
def dL(n:Nat)(caps:List Nat)(i:CI)(g:CG)(t:CT)(e:CE):CA:=λl=>bnd (i l) λw=>chk (w.ds.length<=fu) (collect g t e w.same w.ds (ib n caps l))
noncomputable def gM(n d:Nat):Option Int->Nat
 |none=>d
 |some v=>if v < 0 then (v+(n:Int)).toNat else min v.toNat n
def cutD(xs:List D)(lo c:Option Int):List D:=(xs.drop (gM xs.length 0 lo)).take (gM xs.length xs.length c-gM xs.length 0 lo)
abbrev CO:=Loc->M (Option Int)
def tW:CO:=λ_=>ret none
def pJ(a:CE):CO:=λl=>bnd (a l) λx=>match x with
 | .int i=>ret (some i)
 |_=>bad
def qL(a:CE)(lo c:CO):CA:=λl=>bnd (a l) λx=>bnd (lo l) λi=>bnd (c l) λj=>match x with
 | .lit ds=>ret (cutD ds i j)
 | .ref n=>bnd (getL n) λds=>ret (cutD ds i j)
 |_=>bad
def nj(a:CE)(lo c:CO):CE:=λl=>bnd (a l) λx=>bnd (lo l) λi=>bnd (c l) λj=>match x with
 | .tup ds=>chk (¬(gM ds.length 0 i=0/\gM ds.length ds.length j=ds.length)) (ret (.tup (cutD ds i j)))
 |_=>bad
def bN:CT:=λ_=>ret true
def eK(a:CA):CE:=λl=>bnd (a l) λds=>alloc (.lst ds)
def gg(a:CA):CA:=λl=>bnd (a l) λxs=>chk (xs.length<=fu) (ret xs)
def mz(a:CA)(b:CE):CE:=λl=>bnd (a l) λds=>bnd (b l) λi=>match i with
 | .int k=>cG ds k
 |_=>bad
def ir(g:List D->M D)(a:CA):CE:=λl=>bnd (a l) g
def aW:CS:=λl=>ret (.next l)
def aO(a b:CS):CS:=λl=>bnd (a l) λf=>match f with
 | .next l'=>b l'
 |f=>ret f
def cf(g:CG)(a:CE):CS:=λl=>bnd (a l) λd=>bnd (g d l) λc=>ret (.next c)
def eV(a:CE):CS:=λl=>bnd (a l) λd=>ret (.ret d)
def iA(a:CE):CS:=λl=>bnd (a l) λ_=>ret (.next l)
def np(t:CT)(a b:CS):CS:=λl=>bnd (t l) λc=>if c=true then a l else b l
def AY:CS:=λ_=>bad
def nv(g:CG)(b:CS)(same:aZ->Prop):List D->CS
 |[],l=>bnd (chkS same) λ_=>ret (.next l)
 |d::ds,l=>bnd (chkS same) λ_=>bnd (g d l) λc=>bnd (b c) λf=>match f with
  | .next l2=>nv g b same ds l2
  | .cnt l2=>nv g b same ds l2
  | .brk l2=>ret (.next l2)
  | .ret d=>ret (.ret d)
def kI(i:CI)(g:CG)(b:CS):CS:=λl=>bnd (i l) λw=>nv g b w.same w.ds l
def wS:r9->M D
 | .ret d=>ret d
 | .next _=>ret .non
 |_=>bad
def cm(n:Nat)(c:CS)(ds:List D):M D:=bnd (c (ds.map some++bq (n-ds.length) none)) wS
def iI(o i v:D):M Unit:=match o,i with
 | .ref n,.int k=>bnd (getL n) λds=>match my ds.length k with
  |some j=>putL n (ds.set j v)
  |none=>bad
 | .dic n,k=>storeK n k v
 |_,_=>bad
def g_(o i:CE):CG:=λv l=>bnd (o l) λy=>bnd (i l) λz=>bnd (iI y z v) λ_=>ret l
def fX:D->M D
 | .tup ds=>ret (.int ds.length)
 | .lit ds=>ret (.int ds.length)
 | .ref n=>bnd (getL n) λds=>ret (.int ds.length)
 | .str x=>chk (x.length<=fu) (ret (.int x.length))
 | .dic n=>bnd (getDc n) λp=>ret (.int p.2.length)
 |_=>bad
def uX(n:Nat)(v:D):M D:=bnd (getL n) λds=>chk (ds.length < fu) (bnd (putL n (ds++[v])) λ_=>ret .non)
def dO(a b:CE):CE:=λl=>bnd (a l) λx=>match x with
 | .ref n=>bnd (b l) λv=>uX n v
 |_=>bad
def intD:D->M D
 | .int i=>ret (.int i)
 | .bl b=>ret (.int (if b then 1 else 0))
 |_=>bad
def tupleD:D->M D
 | .tup ds=>ret (.tup ds)
 | .lit ds=>ret (.tup ds)
 | .ref n=>bnd (getL n) λds=>ret (.tup ds)
 |_=>bad
noncomputable def tG:D->Option (List String)
 | .non=>some ["NoneType"]
 | .bl _=>some ["bool","int"]
 | .int _=>some ["int"]
 | .str _=>some ["str"]
 | .tup _=>some ["tuple"]
 | .lit _=>some ["list"]
 | .ref _=>some ["list"]
 |_=>none
noncomputable def mZ:List D->Option (List Int)
 |[]=>some []
 | .int i::ds=>(mZ ds).map (i::·)
 |_=>none
noncomputable def mB:List D->Option (List Bool)
 |[]=>some []
 | .bl b::ds=>(mB ds).map (b::·)
 |_=>none
def oF(ds:List D):M D:=match mZ ds with
 |some (n::ns)=>ret (.int (ns.foldl max n))
 |_=>bad
def vD(ds:List D):M D:=match mB ds with
 |some bs=>ret (.bl (bs.all id))
 |_=>bad
def kH(ds:List D):M D:=ret (.tup ds)
def iM(c:List String)(d:D):M D:=match tG d with
 |some us=>ret (.bl (c.any λt=>us.contains t))
 |none=>bad
def wU:D->D->M D
 | .bl a,.bl b=>ret (.bl (a == b))
 |x,.non=>D2 x
 |_,_=>bad
def u8:D->D->M D
 | .bl a,.bl b=>ret (.bl !(a == b))
 |x,.non=>E_ x
 |_,_=>bad
noncomputable def nJ:D->Bool
 | .non=>true
 | .bl _=>true
 | .int _=>true
 | .str _=>true
 |_=>false
noncomputable def yT:D->D->Bool
 | .non,.non=>true
 | .bl a,.bl b=>a == b
 | .bl a,.int b=>(if a then 1 else 0) == b
 | .int a,.bl b=>a == (if b then 1 else 0)
 | .int a,.int b=>a == b
 | .str a,.str b=>a == b
 |_,_=>false
def TV(x:D)(ds:List D):M D:=chk (nJ x=true/\ds.all nJ=true) (ret (.bl (ds.any λd=>yT d x)))
def EZ(x:D)(ds:List D):M D:=chk (nJ x=true/\ds.all nJ=true) (ret (.bl !(ds.any λd=>yT d x)))
def Xb(x y:D):M D:=match y with
 | .dic n=>bnd (hasK n x) λb=>ret (.bl b)
 |y=>bnd (wv y) (TV x)
def rG(x y:D):M D:=match y with
 | .dic n=>bnd (hasK n x) λb=>ret (.bl !b)
 |y=>bnd (wv y) (EZ x)
noncomputable def uC(b:Bool)(c:List (D×D)):M D:=λs=>.ok (.dic s.length) (s++[.dct b c])
def oP(b:Bool):CE:=λ_=>uC b []
def uZ:D->D->M D
 | .int i,.int j=>ret (.int (min i j))
 |_,_=>bad
def tU(d:D):M D:=bnd (wv d) λds=>alloc (.lst ds)
def ut(a:CE):CE:=λl=>bnd (a l) λx=>match x with
 | .ref n=>bnd (getL n) λds=>match ds.getLast? with
  |some d=>bnd (putL n ds.dropLast) λ_=>ret d
  |none=>bad
 |_=>bad
def tE(a:CE):CA:=λl=>bnd (a l) λx=>match x with
 | .ref n=>getL n |> λm=>bnd m λds=>ret ds.reverse
 |_=>bad
def eW(t:CT)(b:CS):Nat->CS
 |0=>λ_=>bad
 |n+1 => λl => bnd (t l) λc => if c = true then bnd (b l) λf => match f with
   | .next l2=>eW t b n l2
   | .cnt l2=>eW t b n l2
   | .brk l2=>ret (.next l2)
   | .ret d=>ret (.ret d) else ret (.next l)
open Classical in
def kM(t:CT)(b:CS):CS:=λl s=>if h:∃n,(∀r,eW t b n l s=r->r≠.bad) then eW t b (choose h) l s else .bad
end MM
namespace MM
open PySem PySem.Spec PyProof.Rows L2
abbrev St:=L2.St
def xC(K:aj)(H:Hp)(a:ao)(xs:List V):Prop:=
 (∃o,H a=some (.frz o (.lst xs))) \/
  ∃(o:Obj)(its:Array ag)(n:Nat),K.lookup a=some o/\o.cls=.type "list"/\o.dict=none/\o.data=.seq its n/\its.size<=sizeLine/\b7 xs its.toList
theorem xC.seq{K:aj}{H:Hp}{a:ao}{xs:List V}(h:xC K H a xs):gY K H a xs:=by
 rcases h with ⟨o,h⟩|h
 ·exact .inl (.inr ⟨o,h⟩)
 ·exact .inr h
noncomputable def kO:HO->Nat
 | .lst _=>0
 | .dK _=>1
 | .ext _=>2
 | .tbl _=>4
 |_=>3
abbrev NK:=List KI
def nH(k:NK):Int:=iK k
def wT(x:NK×ao×ag):fm:=⟨nH x.1,.ref x.2.1,x.2.2⟩
def Uk(a:ao)(g:List (NK×ao×V))(h:bA):Prop:=g.length<=sizeLine/\(a == bO)=false/\∃xs:List (NK×ao×ag),kf (λ(p:NK×ao×V)(q:NK×ao×ag)=>p.1=q.1/\p.2.1=q.2.1/\RelV p.2.2 q.2.2) g xs /\
 ∃o c ep,h.get? a=some o/\o.ExactDict/\o.data=.dict c ep/\c.toList=xs.map wT/\(xs.map (·.1)).Nodup/\ep=xs.length
def ic(a:ao)(c:List (NK×ao×V)):HO:=.ext (Uk a c)
def RE(a:ao)(g:List (NK×ao×V))(h:bA):Prop:=g.length<=sizeLine/\(a == bO)=false/\∃xs:List (NK×ao×ag),kf (λ(p:NK×ao×V)(q:NK×ao×ag)=>p.1=q.1/\p.2.1=q.2.1/\RelV p.2.2 q.2.2) g xs /\
 ∃o c ep,h.get? a=some o/\o.ExactDict/\o.data=.dict c ep/\c.toList=xs.map wT/\(xs.map (·.1)).Nodup
def zX(a:ao)(c:List (NK×ao×V)):HO:=.ext (RE a c)
noncomputable def EG(r:List Int):D:=.tup (r.map .int)
def gR:KI->D
 | .inl i=>.int i
 | .inr r=>EG r
def oG(k:NK):D:=.tup (k.map gR)
def pT:Key->D
 | .inl i=>.int i
 | .inr x=>.str x
noncomputable def ED(x:Str)(c:Array ag):Prop:=x=az "NoText"\/c[2]?=some bF
mutual
inductive dA(K:aj)(ρ:List ao)(H:Hp):V->D->Prop
 |non:dA K ρ H .non .non
 |bl (b:Bool):dA K ρ H (.bl b) (.bl b)
 |int (i:Int):dA K ρ H (.int i) (.int i)
 |str (x:Str):dA K ρ H (.str x) (.str x)
 |tup {a:ao}{vs:List V}{ds:List D} (h:iT K H a vs) (r:bT K ρ H vs ds):dA K ρ H (.ref a) (.tup ds)
 |lit {a:ao}{vs:List V}{ds:List D} (h:xC K H a vs) (r:bT K ρ H vs ds):dA K ρ H (.ref a) (.lit ds)
 |ref {a:ao}{n:Nat} (k:∃o,H a=some o/\kO o=0) (h:ρ[n]?=some a):dA K ρ H (.ref a) (.ref n)
 |dic {a:ao}{n:Nat} (k:∃o,H a=some o/\(kO o=1\/kO o=2)) (h:ρ[n]?=some a):dA K ρ H (.ref a) (.dic n)
 |exn0 {a C:ao}{x:Str} (g:fG K cC x=some (some (.ref C))) (h:∃o,H a=some (.frz o (.own a))/\o.cls=.ref C):dA K ρ H (.ref a) (.exn x [])
 |exn {a C dx:ao}{x f:Str}{v:V}{d:D} (g:fG K cC x=some (some (.ref C))) (h:∃o,H a=some (.frz o (.own a))/\o.cls=.ref C/\o.dict=some dx/\∃vs,o.data=.fields vs/\ED x vs) (h2:H dx=some (.xd [(f,v)])) (r:dA K ρ H v d):dA K ρ H (.ref a) (.exn x [.str f,d])
 |fn {a:ao}{n:Nat} (h:ρ[n]?=some a):dA K ρ H (.ref a) (.fn n)
inductive bT(K:aj)(ρ:List ao)(H:Hp):List V->List D->Prop
 |nil:bT K ρ H [] []
 |cons {v:V}{d:D}{vs:List V}{ds:List D} (r:dA K ρ H v d) (t:bT K ρ H vs ds):bT K ρ H (v::vs) (d::ds)
end
def Hv(K:aj)(ρ:List ao)(H:Hp)(v:V):D->Prop
 | .non=>v=.non
 | .bl b=>v=.bl b
 | .int i=>v=.int i
 | .str x=>v=.str x
 | .tup ds=>∃a c,v=.ref a/\iT K H a c/\bT K ρ H c ds
 | .lit ds=>∃a c,v=.ref a/\xC K H a c/\bT K ρ H c ds
 | .ref n=>∃a,v=.ref a/\(∃o,H a=some o/\kO o=0)/\ρ[n]?=some a
 | .dic n=>∃a,v=.ref a/\(∃o,H a=some o/\(kO o=1\/kO o=2))/\ρ[n]?=some a
 | .fn n=>∃a,v=.ref a/\ρ[n]?=some a
 |_=>True
theorem dA.inv{K:aj}{ρ:List ao}{H:Hp}{v:V}{d:D}(r:dA K ρ H v d):Hv K ρ H v d:=by
 cases r with
 |non=>rfl
 |bl=>rfl
 |int=>rfl
 |str=>rfl
 |tup h q=>exact⟨_,_,rfl,h,q⟩
 |lit h q=>exact⟨_,_,rfl,h,q⟩
 |ref k h=>exact⟨_,rfl,k,h⟩
 |dic k h=>exact⟨_,rfl,k,h⟩
 |exn0=>trivial
 |exn=>trivial
 |fn h=>exact⟨_,rfl,h⟩
noncomputable def ur(H:Hp)(c:ao)(q:Str):Prop:=∃g h t,H c=some (.frz g (.frz g (.own c)))/\g.data=.fields h/\h[1]?=some (.str q t)
def Dj(H:Hp)(a:ao)(e:Expr):Prop:=∃g b sc p q c h ct,e=.Lambda g b sc p/\H a=some (.frz (mM "<lambda>" q g b sc [] h c ct) (.own a))/\ur H c q
noncomputable def TabOf(K:aj)(x:Str)(a:ao):Prop:=∃f o g c,fG K cC x=some (some (.ref f))/\K.lookup f=some o/\o.data=.func g/\g.code=.ref c/\dX K c a=true
noncomputable def CB(x:Str):Str:=x++".<locals>."++"<lambda>"
def HV(K:aj)(H:Hp)(a:ao)(x:Str):Prop:=TabOf K x a/\∃g,H a=some (.tbl g)/\sP g.toList/\∀p v,nE p g.toList=some v->∃c,v=.ref c/\ur H c (CB x)
def rA(K:aj)(ρ:List ao)(H:Hp)(a:ao):MO->Prop
 | .lst ds=>∃g,H a=some (.lst g)/\bT K ρ H g ds
 | .dct false cx=>∃c,H a=some (.dK c)/\kf (λ(p:Key×V)(q:D×D)=>pT p.1=q.1/\dA K ρ H p.2 q.2) c cx
 | .lam e=>Dj H a e
 | .tbl x=>HV K H a x
 | .dcf cx=>∃c,H a=some (zX a c)/\kf (λ(p:NK×ao×V)(q:D×D)=>oG p.1=q.1/\dA K ρ H (.ref p.2.1) q.1/\dA K ρ H p.2.2 q.2) c cx
 | .dct true cx=>∃c,H a=some (ic a c)/\kf (λ(p:NK×ao×V)(q:D×D)=>oG p.1=q.1/\dA K ρ H (.ref p.2.1) q.1/\dA K ρ H p.2.2 q.2) c cx
structure SR(K:aj)(ρ:List ao)(H:Hp)(st:aZ):Prop where
 len:ρ.length=st.length
 nd:ρ.Nodup
 ob:∀(n:Nat)(a:ao)(o:MO),ρ[n]?=some a->st[n]?=some o->rA K ρ H a o
noncomputable def LR(K:aj)(ρ:List ao)(H:Hp)(σ:St)(l:Loc):Prop:=
 σ.length=l.length/\∀(i:Nat)(d:D),l[i]?=some (some d)->∃v,σ[i]?=some (some v)/\dA K ρ H v d
structure Ex(ρ:List ao)(H:Hp)(ρ':List ao)(H':Hp):Prop where
 pre:∃τ,ρ'=ρ++τ/\∀a∈τ,H a=none
 fix:∀a o,kO o=3->H a=some o->H' a=some o
 oth:∀a o,a∉ρ->H a=some o->H' a=some o
 knd:∀a o,H a=some o->∃o',H' a=some o'/\kO o'=kO o
structure Up(ρ:List ao)(H:Hp)(ρ':List ao)(H':Hp):Prop where
 pre:∃τ,ρ'=ρ++τ
 fix:∀a o,kO o=3->H a=some o->H' a=some o
 knd:∀a o,H a=some o->∃o',H' a=some o'/\kO o'=kO o
section
variable{K:aj}{ρ ρ1 ρ2:List ao}{H H1 H2:Hp}{st eg:aZ}{v:V}{d:D}{vs:List V}{ds:List D}{a:ao}
theorem Ex.lst(x:Ex ρ H ρ1 H1)(a:ao)(xs:List V)(c:a∉ρ)(h:H a=some (.lst xs)):H1 a=some (.lst xs):=x.oth a _ c h
theorem Ex.trk(x:Ex ρ H ρ1 H1)(a:ao)(o:HO)(h:H a=some o):H1 a≠none:=by obtain⟨o',e,_⟩:=x.knd a o h;rw[e];exact λz=>nomatch z
theorem Ex.up(x:Ex ρ H ρ1 H1):Up ρ H ρ1 H1:=⟨let ⟨τ,e,_⟩:=x.pre;⟨τ,e⟩,x.fix,x.knd⟩
theorem Up.grow{τ:List ao}:Up ρ H (ρ++τ) H:=⟨⟨τ,rfl⟩,λ_ _ _ e=>e,λ_ o e=>⟨o,e,rfl⟩⟩
theorem Ex.refl:Ex ρ H ρ H:=⟨⟨[],by simp,by simp⟩,λ_ _ _ e=>e,λ_ _ _ e=>e,λ_ o e=>⟨o,e,rfl⟩⟩
theorem Ex.trans(x:Ex ρ H ρ1 H1)(y:Ex ρ1 H1 ρ2 H2):Ex ρ H ρ2 H2:=by
 obtain⟨τ1,rfl,l⟩:=x.pre;obtain⟨τ2,rfl,G⟩:=y.pre;refine⟨⟨τ1++τ2,by simp,λa c=>?_⟩,λa o g e=>y.fix a o g (x.fix a o g e),λa o h e=>?_,λa o e=>?_⟩
 ·rcases aX.mp c with c|c
  ·exact l a c
  ·cases q:H a with
   |none=>rfl
   |some o=>exact bn (G a c) (x.trk a o q)
 ·refine y.oth a o (λz=>?_) (x.oth a o h e);rcases aX.mp z with z|z
  ·exact h z
  ·rw[l a z]at e;cases e
 ·obtain⟨B,J,E⟩:=x.knd a o e;obtain⟨u,I,C⟩:=y.knd a B J;exact⟨u,I,C.trans E⟩
theorem Ex.new{o:HO}(h:H a=none):Ex ρ H ρ (ff H a o):=
 ⟨⟨[],by simp,by simp⟩,λb u _ e=>by rw[fO (mI e h)];exact e,λb u _ e=>by rw[fO (mI e h)];exact e,
  λb u e=>⟨u,by rw[fO (mI e h)];exact e,rfl⟩⟩
theorem Ex.newO{o:HO}(h:H a=none):Ex ρ H (ρ++[a]) (ff H a o):=
 ⟨⟨[a],rfl,λb c=>by rw[aJ]at c;rw[c];exact h⟩,(Ex.new (ρ:=ρ) h).fix,(Ex.new (ρ:=ρ) h).oth,(Ex.new (ρ:=ρ) h).knd⟩
theorem Ex.newL{vs:List V}(h:H a=none):Ex ρ H (ρ++[a]) (ff H a (.lst vs)):=Ex.newO h
theorem iT.mono(x:Up ρ H ρ1 H1)(h:iT K H a vs):iT K H1 a vs:=by
 rcases h with h|h
 ·rcases h with h|⟨o,h⟩
  ·exact .inl (.inl (x.fix a _ rfl h))
  ·exact .inl (.inr ⟨o,x.fix a _ rfl h⟩)
 ·exact .inr h
theorem xC.mono(x:Up ρ H ρ1 H1)(h:xC K H a vs):xC K H1 a vs:=by
 rcases h with ⟨o,h⟩|h
 ·exact .inl ⟨o,x.fix a _ rfl h⟩
 ·exact .inr h
theorem wP{α:Type}{l τ:List α}{n:Nat}{a:α}(h:l[n]?=some a):(l++τ)[n]?=some a:=by rw[ax (ac.mp h).1];exact h
mutual
theorem dA.up(x:Up ρ H ρ1 H1):∀{v:V}{d:D},dA K ρ H v d->dA K ρ1 H1 v d
 |_,_,.non=>.non
 |_,_,.bl b=>.bl b
 |_,_,.int i=>.int i
 |_,_,.str y=>.str y
 |_,_,.tup h r=>.tup (iT.mono x h) (bT.up x r)
 |_,_,.lit h r=>.lit (xC.mono x h) (bT.up x r)
 |_,_,.ref ⟨o,ho,hk⟩ h=>by obtain⟨τ,e⟩:=x.pre;obtain⟨o',c,l⟩:=x.knd _ o ho;exact .ref ⟨o',c,l.trans hk⟩ (by rw[e];exact wP h)
 |_,_,.dic ⟨o,ho,hk⟩ h=>by obtain⟨τ,e⟩:=x.pre;obtain⟨o',c,l⟩:=x.knd _ o ho;exact .dic ⟨o',c,by rw[l];exact hk⟩ (by rw[e];exact wP h)
 |_,_,.fn h=>by obtain⟨τ,e⟩:=x.pre;exact .fn (by rw[e];exact wP h)
 |_,_,.exn0 g ⟨o,ho,hc⟩=>.exn0 g ⟨o,x.fix _ _ rfl ho,hc⟩
 |_,_,.exn g ⟨o,ho,hc⟩ h2 r=>.exn g ⟨o,x.fix _ _ rfl ho,hc⟩ (x.fix _ _ rfl h2) (dA.up x r)
theorem bT.up(x:Up ρ H ρ1 H1):∀{vs:List V}{ds:List D},bT K ρ H vs ds->bT K ρ1 H1 vs ds
 |_,_,.nil=>.nil
 |_,_,.cons r t=>.cons (dA.up x r) (bT.up x t)
end
theorem dA.mono(r:dA K ρ H v d)(x:Ex ρ H ρ1 H1):dA K ρ1 H1 v d:=r.up x.up
theorem bT.mono(r:bT K ρ H vs ds)(x:Ex ρ H ρ1 H1):bT K ρ1 H1 vs ds:=r.up x.up
theorem bT.length:∀{vs:List V}{ds:List D},bT K ρ H vs ds->vs.length=ds.length
 |_,_,.nil=>rfl
 |_,_,.cons _ t=>by simp[bT.length t]
theorem bT.get:∀{vs:List V}{ds:List D}{i:Nat}{d:D},bT K ρ H vs ds->ds[i]?=some d->∃v,vs[i]?=some v/\dA K ρ H v d
 |_,_,_,_,.nil,e=>by simp at e
 |_,_,0,_,.cons r _,e=>by simp at e;subst e;exact⟨_,rfl,r⟩
 |_,_,i+1,_,.cons _ t,e=>by obtain⟨v,g,c⟩:=bT.get (i:=i) t (by simpa using e);exact⟨v,by simpa using g,c⟩
theorem bT.app:∀{vs ws:List V}{ds c:List D},bT K ρ H vs ds->bT K ρ H ws c->bT K ρ H (vs++ws) (ds++c)
 |_,_,_,_,.nil,s=>s
 |_,_,_,_,.cons r t,s=>.cons r (bT.app t s)
theorem bT.set:∀{vs:List V}{ds:List D}{v:V}{d:D}(i:Nat),bT K ρ H vs ds->dA K ρ H v d->bT K ρ H (vs.set i v) (ds.set i d)
 |_,_,_,_,_,.nil,_=>.nil
 |_,_,_,_,0,.cons _ t,r=>.cons r t
 |_,_,_,_,i+1,.cons q t,r=>.cons q (bT.set i t r)
theorem bT.take:∀{vs:List V}{ds:List D}(n:Nat),bT K ρ H vs ds->bT K ρ H (vs.take n) (ds.take n)
 |_,_,0,_=>.nil
 |_,_,_+1,.nil=>.nil
 |_,_,n+1,.cons r t=>.cons r (bT.take n t)
theorem bT.drop:∀{vs:List V}{ds:List D}(n:Nat),bT K ρ H vs ds->bT K ρ H (vs.drop n) (ds.drop n)
 |_,_,0,r=>r
 |_,_,_+1,.nil=>.nil
 |_,_,n+1,.cons _ t=>bT.drop n t
theorem LR.mono{σ:St}{l:Loc}(x:Ex ρ H ρ1 H1)(h:LR K ρ H σ l):LR K ρ1 H1 σ l:=
 ⟨h.1,λi d e=>let ⟨v,e1,r⟩:=h.2 i d e;⟨v,e1,r.mono x⟩⟩
theorem SR.at(s:SR K ρ H st){n:Nat}{o:MO}(e:st[n]?=some o):∃a,ρ[n]?=some a/\rA K ρ H a o:=by
 have c:n < ρ.length:=by rw[s.len];exact (ac.mp e).1
 have q:ρ[n]?=some ρ[n]:=ai c;exact⟨_,q,s.ob n _ o q e⟩
theorem SR.seq(s:SR K ρ H st){n:Nat}(e:st[n]?=some (.lst ds)):∃a vs,ρ[n]?=some a/\H a=some (.lst vs)/\bT K ρ H vs ds:=by obtain⟨a,h,vs,q,r⟩:=s.at e;exact⟨a,vs,h,q,r⟩
theorem rA.ex{o:MO}(h:rA K ρ H a o):∃u,H a=some u:=by
 cases o with
 |lam e=>obtain⟨_,_,_,_,_,_,_,_,_,q,_⟩:=h;exact⟨_,q⟩
 |tbl x=>obtain⟨_,_,q,_⟩:=h;exact⟨_,q⟩
 |dcf cx=>obtain⟨_,q,_⟩:=h;exact⟨_,q⟩
 |lst ds=>obtain⟨vs,q,_⟩:=h;exact⟨_,q⟩
 |dct b cx=>cases b<;>(obtain⟨vs,q,_⟩:=h;exact⟨_,q⟩)
theorem SR.fresh(s:SR K ρ H st)(h:H a=none):a∉ρ:=λz=>by
 obtain⟨n,c⟩:=kE z;have g:n < st.length:=by rw[<- s.len];exact (ac.mp c).1
 obtain⟨u,q⟩:=rA.ex (s.ob n a _ c (ai g));rw[h]at q;cases q
theorem S4{n:Nat}{xs:List D}{c:aZ}(h:getL n st=.ok xs c):c=st/\st[n]?=some (.lst xs):=by
 unfold getL at h;cases e:st[n]? with
 |none=>rw[e]at h;cases h
 |some o=>
  rw[e]at h;cases o with
  |lst ds=>cases h;exact⟨rfl,rfl⟩
  |_=>cases h
theorem kf.mapS{α β:Type}{F G:α->β->Prop}:∀{l₁:List α}{l₂:List β},kf F l₁ l₂->(∀a b,F a b->G a b)->kf G l₁ l₂
 |_,_,.nil,_=>.nil
 |_,_,.cons r t,f=>.cons (f _ _ r) (kf.mapS t f)
theorem ur.up{c:ao}{q:Str}(x:Up ρ H ρ1 H1)(h:ur H c q):ur H1 c q:=let ⟨oc,vs,t,e,r⟩:=h;⟨oc,vs,t,x.fix _ _ rfl e,r⟩
theorem rA.mono{o:MO}(x:Up ρ H ρ1 H1)(h:rA K ρ H a o)(g:∀u,H a=some u->H1 a=some u):rA K ρ1 H1 a o:=by
 cases o with
 |lam e=>
  obtain⟨B,b,sc,p,q,c,I,ct,G,E,C⟩:=h;exact⟨B,b,sc,p,q,c,I,ct,G,g _ E,C.up x⟩
 |tbl y=>
  obtain⟨t,B,G,E,C⟩:=h;exact⟨t,B,g _ G,E,λp v z=>let ⟨c,a,b⟩:=C p v z;⟨c,a,b.up x⟩⟩
 |dcf cx=>
  obtain⟨l,q,r⟩:=h;exact⟨l,g _ q,kf.mapS r λp q z=>⟨z.1,z.2.1.up x,z.2.2.up x⟩⟩
 |lst ds=>
  obtain⟨vs,q,r⟩:=h;exact⟨vs,g _ q,r.up x⟩
 |dct b cx=>
  cases b with
  |false=>
   obtain⟨l,q,r⟩:=h;exact⟨l,g _ q,kf.mapS r λp q z=>⟨z.1,z.2.up x⟩⟩
  |true=>
   obtain⟨l,q,r⟩:=h;exact⟨l,g _ q,kf.mapS r λp q z=>⟨z.1,z.2.1.up x,z.2.2.up x⟩⟩
theorem SR.new{o:HO}(s:SR K ρ H st)(h:H a=none):SR K ρ (ff H a o) st:=
 ⟨s.len,s.nd,λn b c l g=>rA.mono (o:=c) (Ex.new (ρ:=ρ) h).up (s.ob n b c l g) λvs q=>by rw[fO (mI q h)];exact q⟩
theorem SR.keepO{o':MO}(s:SR K ρ H st)(B:a∉ρ)(r:rA K ρ H a o'):SR K (ρ++[a]) H (st++[o']):=by
 have u:=s.len;have old:∀(n:Nat)(b:ao),(ρ++[a])[n]?=some b->(n < ρ.length/\ρ[n]?=some b)\/(n=ρ.length/\b=a):=λn b e=>by
  by_cases c:n < ρ.length
  ·rw[ax c]at e;exact .inl ⟨c,e⟩
  ·rw[aS (by ext)]at e;have hz:n - ρ.length=0:=by
    cases q:n - ρ.length with
    |zero=>rfl
    |succ k=>rw[q]at e;simp at e
   rw[hz]at e;simp at e;exact .inr ⟨by ext,e.symm⟩
 refine⟨by simp[u],dN.mpr ⟨s.nd,by simp,λx C y l=>?_⟩,λn b o E g=>?_⟩
 ·rw[aJ]at l;subst l;exact λz=>B (z ▸ C)
 ·rcases old n b E with ⟨c,h⟩|⟨c,h⟩
  ·rw[ax (by ext)]at g;exact rA.mono (o:=o) Up.grow (s.ob n b o h g) λ_ q=>q
  ·subst h;have:o=o':=by rw[c,u,aS (av _)]at g;simp at g;exact g.symm
   subst this;exact rA.mono (o:=o) Up.grow r λ_ q=>q
theorem SR.keep(s:SR K ρ H st)(h:H a=some (.lst vs))(c:a∉ρ)(r:bT K ρ H vs ds):SR K (ρ++[a]) H (st++[.lst ds]):=s.keepO c ⟨vs,h,r⟩
theorem SR.putO(s:SR K ρ H st){n:Nat}{o':MO}{u u':HO}(E:n < st.length)(h:ρ[n]?=some a)(hu:H a=some u)(C:kO u≠3)(G:kO u'=kO u)(r:rA K ρ (ff H a u') a o'):
  SR K ρ (ff H a u') (st.set n o')/\Ex ρ H ρ (ff H a u'):=by
 have x:Ex ρ H ρ (ff H a u'):=by
  refine⟨⟨[],by simp,by simp⟩,λb o l q=>?_,λb xs B q=>?_,λb o q=>?_⟩
  ·have:b≠a:=λz=>by subst z;rw[hu]at q;cases q;exact C l
   rw[fO this];exact q
  ·have:b≠a:=λz=>by subst z;exact B (aA h)
   rw[fO this];exact q
  ·by_cases z:b=a
   ·subst z;rw[hu]at q;cases q;exact⟨u',kh,G⟩
   ·exact⟨o,by rw[fO z];exact q,rfl⟩
 refine⟨⟨by simp[s.len],s.nd,λm b o c g=>?_⟩,x⟩;by_cases z:m=n
 ·subst z;rw[h]at c;cases c;rw[au E]at g;cases g;exact r
 ·rw[af (bG z)]at g;refine rA.mono (o:=o) x.up (s.ob m b o c g) λI q=>?_;have:b≠a:=λw=>by subst w;exact z ((fM (ac.mp c).1 s.nd).mp (c.trans h.symm))
  rw[fO this];exact q
theorem SR.put(s:SR K ρ H st){n:Nat}{ws:List V}(h:n < st.length)(l:ρ[n]?=some a)(c:H a=some (.lst ws))(r:bT K ρ H vs ds):
  SR K ρ (ff H a (.lst vs)) (st.set n (.lst ds))/\Ex ρ H ρ (ff H a (.lst vs)):=by
 have u:Up ρ H ρ (ff H a (.lst vs)):=by
  refine⟨⟨[],by simp⟩,λb o g q=>?_,λb o q=>?_⟩
  ·have:b≠a:=λz=>by subst z;rw[c]at q;cases q;exact nomatch g
   rw[fO this];exact q
  ·by_cases z:b=a
   ·subst z;rw[c]at q;cases q;exact⟨_,kh,rfl⟩
   ·exact⟨o,by rw[fO z];exact q,rfl⟩
 exact s.putO h l c (by show (0:Nat)≠3;decide) rfl ⟨vs,kh,r.up u⟩
theorem Le(k:∃o,H a=some o/\kO o=0):∃vs,H a=some (.lst vs):=by
 obtain⟨o,e,c⟩:=k;cases o with
 |lst vs=>exact⟨vs,e⟩
 |_=>exact nomatch c
noncomputable def aN{α:Type}(K:aj)(ρ:List ao)(H:Hp)(r:Rs α)(R:α->aZ->List ao->Hp->Prop):Prop:=match r with
 | .ok a st=>∀ρ' H',Ex ρ H ρ' H'->SR K ρ' H' st->R a st ρ' H'
 |_=>False
theorem aN.left{α:Type}{r:Rs α}{R:α->aZ->List ao->Hp->Prop}(x:Ex ρ H ρ1 H1)(h:aN K ρ H r R):aN K ρ1 H1 r R:=by
 cases r with
 |ok a st=>exact λρ' c y s=>h ρ' c (x.trans y) s
 |exc _ _=>exact h
 |bad=>exact h
theorem aN.imp{α:Type}{r:Rs α}{R g:α->aZ->List ao->Hp->Prop}(h:aN K ρ H r R)(f:∀a st ρ' c,Ex ρ H ρ' c->SR K ρ' c st->R a st ρ' c->g a st ρ' c):aN K ρ H r g:=by
 cases r with
 |ok a st=>exact λρ' c y s=>f a st ρ' c y s (h ρ' c y s)
 |exc _ _=>exact h
 |bad=>exact h
theorem aN.bnd{α β:Type}{m:M α}{f:α->M β}{R:β->aZ->List ao->Hp->Prop}(h:aN K ρ H (bnd m f st) R):aN K ρ H (m st) λa c ρ' g=>aN K ρ' g (f a c) R:=by
 unfold MM.bnd at h;cases e:m st with
 |ok a s'=>
  rw[e]at h;exact λρ' g y s=>h.left y
 |exc _ _=>rw[e]at h;exact h
 |bad=>rw[e]at h;exact h
theorem aN.ret{α:Type}{a:α}{R:α->aZ->List ao->Hp->Prop}(h:aN K ρ H (MM.ret a st) R)(s:SR K ρ H st):R a st ρ H:=h ρ H Ex.refl s
theorem aN.chk{α:Type}{c:Prop}[Decidable c]{m:M α}{R:α->aZ->List ao->Hp->Prop}(h:aN K ρ H (MM.chk c m st) R):c/\aN K ρ H (m st) R:=by
 unfold MM.chk at h;by_cases g:c
 ·rw[aG g]at h;exact⟨g,h⟩
 ·rw[aC g]at h;exact h.elim
theorem aN.getL{n:Nat}{R:List D->aZ->List ao->Hp->Prop}(h:aN K ρ H (MM.getL n st) R)(s:SR K ρ H st):∃xs,st[n]?=some (.lst xs)/\R xs st ρ H:=by
 cases e:MM.getL n st with
 |ok xs s'=>
  obtain⟨rfl,q⟩:=S4 e;rw[e]at h;exact⟨xs,q,h ρ H Ex.refl s⟩
 |exc _ _=>rw[e]at h;exact h.elim
 |bad=>rw[e]at h;exact h.elim
def zG(K:aj)(f:CE):TE:=λσ H Q=>∃ρ l st,LR K ρ H σ l/\SR K ρ H st/\aN K ρ H (f l st) λd _ ρ' c=>∀v,dA K ρ' c v d->Q v c
def pX(K:aj)(f:CT):TT:=λσ H Q=>∃ρ l st,LR K ρ H σ l/\SR K ρ H st/\aN K ρ H (f l st) λb _ _ c=>Q b c
def Jd(K:aj)(f:CA):TA:=λσ H Q=>∃ρ l st,LR K ρ H σ l/\SR K ρ H st/\aN K ρ H (f l st) λds _ ρ' c=>∀vs,bT K ρ' c vs ds->Q vs c
def EQ(K:aj)(f:CA):TE:=λσ H Q=>∃ρ l st,LR K ρ H σ l/\SR K ρ H st/\aN K ρ H (f l st) λds _ ρ' c=>∀a vs,H a=none->a∉ρ'->c a=some (.lst vs)->bT K ρ' c vs ds->Q (.ref a) c
def wR(K:aj)(c:CS):TS:=λG σ H=>∃ρ l st,LR K ρ H σ l/\SR K ρ H st/\aN K ρ H (c l st) λf _ ρ' g=>match f with
 | .next l'=>∀σ',LR K ρ' g σ' l'->G.nx σ' g
 | .ret d=>∀v,dA K ρ' g v d->G.rt v g
 | .brk l'=>∀σ',LR K ρ' g σ' l'->G.bk σ' g
 | .cnt l'=>∀σ',LR K ρ' g σ' l'->G.ct σ' g
def yH(K:aj)(g:CG):TG:=λv σ H Q=>∃ρ l st d,LR K ρ H σ l/\SR K ρ H st/\dA K ρ H v d/\aN K ρ H (g d l st) λh _ ρ' c=>∀σ',LR K ρ' c σ' h->Q σ' c
def Cw(K:aj)(g:List D->Loc->M Loc):yR:=λvs σ H Q=>∃ρ l st ds,LR K ρ H σ l/\SR K ρ H st/\bT K ρ H vs ds/\aN K ρ H (g ds l st) λh _ ρ' c=>∀σ',LR K ρ' c σ' h->Q σ' c
def pW(K:aj)(g:D->D->M D):R2:=λx y H Q=>∃ρ st d e,SR K ρ H st/\dA K ρ H x d/\dA K ρ H y e/\aN K ρ H (g d e st) λr _ ρ' c=>∀v,dA K ρ' c v r->Q v c
def vx(K:aj)(g:D->M D):V->Hp->VK->Prop:=λx H Q=>∃ρ st d,SR K ρ H st/\dA K ρ H x d/\aN K ρ H (g d st) λr _ ρ' c=>∀v,dA K ρ' c v r->Q v c
def RZ(K:aj)(g:List D->M D):List V->Hp->VK->Prop:=λxs H Q=>∃ρ st ds,SR K ρ H st/\bT K ρ H xs ds/\aN K ρ H (g ds st) λr _ ρ' c=>∀v,dA K ρ' c v r->Q v c
def n0(K:aj)(n:Nat)(g:List D->M D):Sp:=λvs H Q _=>vs.length=n/\RZ K g vs H Q
end
section
variable{X:Cx}{a b c:Expr}{pos:Pos}
abbrev SE(X:Cx)(e:Expr)(f:CE):Prop:=PE X e (zG X.K f)
abbrev SL(X:Cx)(e:Expr)(f:CA):Prop:=PE X e (EQ X.K f)
abbrev ST(X:Cx)(e:Expr)(f:CT):Prop:=PT X e (pX X.K f)
abbrev SA(X:Cx)(g:List Expr)(f:CA):Prop:=PA X g (Jd X.K f)
abbrev SS(X:Cx)(s:fH)(f:CS):Prop:=PS X s (wR X.K f)
abbrev ww(X:Cx)(s:List fH)(f:CS):Prop:=PSs X s (wR X.K f)
theorem _root_.L2.PE.of{e:Expr}{t t':TE}(h:PE X e t)(f:∀σ H Q,t' σ H Q->t σ H Q):PE X e t':=λg s σ H Q I q=>h g s σ H Q I (f σ H Q q)
theorem _root_.L2.PT.of{e:Expr}{t t':TT}(h:PT X e t)(f:∀σ H Q,t' σ H Q->t σ H Q):PT X e t':=λg s σ H Q I q=>h g s σ H Q I (f σ H Q q)
theorem _root_.L2.PA.of{e:List Expr}{t t':TA}(h:PA X e t)(f:∀σ H Q,t' σ H Q->t σ H Q):PA X e t':=λpos g s σ H Q I q=>h pos g s σ H Q I (f σ H Q q)
theorem _root_.L2.PS.of{e:fH}{t t':TS}(h:PS X e t)(f:∀D σ H,t' D σ H->t D σ H):PS X e t':=λg s σ H D I q=>h g s σ H D I (f D σ H q)
theorem _root_.L2.PSs.of{e:List fH}{t t':TS}(h:PSs X e t)(f:∀D σ H,t' D σ H->t D σ H):PSs X e t':=λg s σ H D I q=>h g s σ H D I (f D σ H q)
theorem _root_.L2.PG.of{e:Expr}{t t':TG}(h:PG X e t)(f:∀v σ H Q,t' v σ H Q->t v σ H Q):PG X e t':=λg s σ H v u Q I r q=>h g s σ H v u Q I r (f v σ H Q q)
theorem _root_.L2.PGs.of{e:List Expr}{t t':yR}(h:PGs X e t)(f:∀v σ H Q,t' v σ H Q->t v σ H Q):PGs X e t':=λg s σ H v u Q I r q=>h g s σ H v u Q I r (f v σ H Q q)
theorem _root_.L2.OpR.of{f:ag->ag->Sem ag}{r o:R2}(h:OpR X f r)(g:∀x y H Q,o x y H Q->r x y H Q):OpR X f o:=λl s σ H x y v u Q I C B q=>h l s σ H x y v u Q I C B (g x y H Q q)
theorem _root_.L2.CallR.of{f:ag}{r o:List V->Hp->VK->Prop}(h:CallR X f r)(g:∀x H Q,o x H Q->r x H Q):CallR X f o:=λl s σ H x u Q I v q=>h l s σ H x u Q I v (g x H Q q)
variable{fa fb fc:CE}
theorem Vg(i:Nat){x:Str}(h:PE X (.Name x pos) (C9 i)):SE X (.Name x pos) (aq i):=h.of λσ H Q g=>by
 obtain⟨ρ,l,st,u,q,p⟩:=g;unfold aq at p;cases e:l[i]? with
 |none=>rw[e]at p;exact p.elim
 |some o=>
  rw[e]at p;cases o with
  |none=>exact p.elim
  |some d=>
   obtain⟨v,B,r⟩:=u.2 i d e;exact⟨v,B,p.ret q v r⟩
theorem Uw{i:Int}{j:Nat}:SE X (.Constant (.int i) j pos) (aM (.int i)):=(NF (i:=i) (j:=j) (pos:=pos)).of λσ H Q g=>by obtain⟨ρ,l,st,o,h,p⟩:=g;exact p.ret h _ (.int i)
theorem V2{i:Bool}{j:Nat}:SE X (.Constant (.bool i) j pos) (aM (.bl i)):=(Uh (b:=i) (j:=j) (pos:=pos)).of λσ H Q g=>by obtain⟨ρ,l,st,o,h,p⟩:=g;exact p.ret h _ (.bl i)
theorem N9{j:Nat}:SE X (.Constant .none j pos) (aM .non):=(O4 (j:=j) (pos:=pos)).of λσ H Q g=>by obtain⟨ρ,l,st,o,h,p⟩:=g;exact p.ret h _ .non
theorem P7{i:Str}{j:Nat}:SE X (.Constant (.str i) j pos) (aM (.str i)):=(Qa (x:=i) (j:=j) (pos:=pos)).of λσ H Q g=>by obtain⟨ρ,l,st,o,h,p⟩:=g;exact p.ret h _ (.str i)
theorem F2{g:D->D->M D}{r:R2}(c:∀x y H Q,pW X.K g x y H Q->r x y H Q):∀σ H Q,zG X.K (c2 g fa fb) σ H Q->Fc r (zG X.K fa) (zG X.K fb) σ H Q:=λσ H Q h=>
 by obtain⟨ρ,l,st,B,G,p⟩:=h;exact⟨ρ,l,st,B,G,p.bnd.imp λd q ρ1 H1 E J Y v L=>⟨ρ1,l,q,B.mono E,J,Y.bnd.imp λe o ρ2 H2 C I U u O=>c _ _ _ _ ⟨ρ2,o,d,e,I,L.mono C,O,U⟩⟩⟩
theorem U7{op:rK}{g:D->D->M D}(l:OpR X (eZ op) (pW X.K g))(q:SE X a fa)(o:SE X b fb):SE X (.BinOp a op b pos) (c2 g fa fb):=
 (T9 l q o).of (F2 λ_ _ _ _ h=>h)
theorem U8{op:sX}{g:D->D->M D}(l:OpR X (cX op) (pW X.K g))(u:SE X a fa)(q:SE X b fb)(o:iV op b=false):SE X (.Compare a [op] [b] pos) (c2 g fa fb):=
 (Qc l u q o).of (F2 λ_ _ _ _ h=>h)
end
theorem _root_.Exists.el{α β γ:Type}{A B C:α->β->γ->Prop}{G:Prop}(h:∃a b c,A a b c/\B a b c/\C a b c)(k:∀a b c,A a b c->B a b c->C a b c->G):G:=by obtain⟨ρ,l,st,a,b,c⟩:=h;exact k ρ l st a b c
theorem zG.el{K:aj}{f:CE}{σ:St}{H:Hp}{Q:VK}{C:Prop}(h:zG K f σ H Q)(k:∀ρ l st,LR K ρ H σ l->SR K ρ H st->aN K ρ H (f l st) (λd _ ρ' g=>∀v,dA K ρ' g v d->Q v g)->C):C:=by obtain⟨ρ,l,st,a,b,c⟩:=h;exact k ρ l st a b c
theorem pX.el{K:aj}{f:CT}{σ:St}{H:Hp}{Q:Bool->Hp->Prop}{C:Prop}(h:pX K f σ H Q)(k:∀ρ l st,LR K ρ H σ l->SR K ρ H st->aN K ρ H (f l st) (λb _ _ g=>Q b g)->C):C:=by obtain⟨ρ,l,st,a,b,c⟩:=h;exact k ρ l st a b c
theorem wR.el{K:aj}{c:CS}{σ:St}{H:Hp}{G:Ends}{C:Prop}(h:wR K c G σ H) (k:∀ρ l st,LR K ρ H σ l->SR K ρ H st->aN K ρ H (c l st) (λf _ ρ' g=>match f with
 | .next l'=>∀σ',LR K ρ' g σ' l'->G.nx σ' g
 | .ret d=>∀v,dA K ρ' g v d->G.rt v g
 | .brk l'=>∀σ',LR K ρ' g σ' l'->G.bk σ' g
 | .cnt l'=>∀σ',LR K ρ' g σ' l'->G.ct σ' g)->C):C:=by
 obtain⟨ρ,l,st,a,b,c⟩:=h;exact k ρ l st a b c
end MM
namespace MM
open PySem PySem.Spec PyProof.Rows L2
theorem LN:∀(a b:List Int),lX (a.map .int) (b.map .int)=decide (a=b)
 |[],[]=>by simp[lX]
 |[],_::_=>by simp[lX]
 |_::_,[]=>by simp[lX]
 |x::xs,y::ys=>by
  rw[aK,aK]
  show (oJ (.int x) (.int y)&&lX _ _)=_;rw[LN xs ys]
  show (decide (x=y)&&_)=_;simp[m_]
theorem WF:∀(a b:KI),oJ (gR a) (gR b)=decide (a=b)
 | .inl i,.inl j=>by
  show decide (i=j)=_;by_cases z:i=j
  ·subst z;simp
  ·rw[aR z,aR (λq=>z (by injection q))]
 | .inl i,.inr r=>by rw[aR (by simp)];rfl
 | .inr r,.inl i=>by rw[aR (by simp)];rfl
 | .inr r,.inr q=>by
  show lX (r.map .int) (q.map .int)=_;rw[LN];by_cases z:r=q
  ·subst z;simp
  ·rw[aR z,aR (λq=>z (by injection q))]
theorem No:∀(a b:List KI),lX (a.map gR) (b.map gR)=decide (a=b)
 |[],[]=>by simp[lX]
 |[],_::_=>by simp[lX]
 |_::_,[]=>by simp[lX]
 |x::xs,y::ys=>by
  rw[aK,aK]
  show (oJ (gR x) (gR y)&&lX _ _)=_;rw[No xs ys,WF];simp[m_]
theorem zw(a b:NK):oJ (oG a) (oG b)=decide (a=b):=No a b
theorem Ka(a b:Key):oJ (pT a) (pT b)=decide (a=b):=by cases a<;>cases b<;>simp[pT,oJ]
theorem Kl:∀{ds:List D}{r:List Int},kB ds=some r->ds=r.map .int
 |[],r,h=>by simp[kB]at h;subst h;rfl
 |d::ds,r,h=>by
  cases d with
  |int i=>
   unfold kB at h;cases e:kB ds with
   |none=>rw[e]at h;cases h
   |some q=>
    rw[e]at h;cases h;rw[aK,Kl e]
  |_=>cases h
theorem GS:∀{ds:List D}{r:NK},i0 ds=some r->ds=r.map gR
 |[],r,h=>by simp[i0]at h;subst h;rfl
 |d::ds,r,h=>by
  cases d with
  |tup xs=>
   unfold i0 at h;cases e:kB xs with
   |none=>rw[e]at h;cases h
   |some q=>
    cases c:i0 ds with
    |none=>rw[e,c]at h;cases h
    |some q2=>
     rw[e,c]at h;cases h;rw[aK,<- GS c]
     show _=D.tup (q.map .int)::ds;rw[<- Kl e]
  |int i=>
   unfold i0 at h;cases c:i0 ds with
   |none=>rw[c]at h;cases h
   |some q2=>
    rw[c]at h;cases h;rw[aK,<- GS c];rfl
  |_=>cases h
theorem LB{d:D}{r:NK}(h:stK d=some r):d=oG r:=by
 cases d with
 |tup ds=>show D.tup ds=D.tup _;rw[GS h]
 |_=>cases h
theorem B5{d:D}(h:m5 true d=true):∃k,d=oG k:=by
 cases e:stK d with
 |none=>
  have:m5 true d=(stK d).isSome:=by cases d<;>rfl
  rw[this,e]at h;cases h
 |some k=>exact⟨k,LB e⟩
theorem JP{d:D}(h:m5 false d=true):∃k,d=pT k:=by
 cases d with
 |int i=>exact⟨.inl i,rfl⟩
 |str x=>exact⟨.inr x,rfl⟩
 |_=>cases h
section
variable{X:Cx}{K:aj}{ρ:List ao}{H:Hp}{st:aZ}{cp:List (ao×Obj)}{σ:St}{s:am}{a b:ao}
theorem HM{k:Key}{v:V}(r:dA K ρ H v (pT k)):v=kV k:=by
 cases k with
 |inl i=>cases r;rfl
 |inr x=>cases r;rfl
abbrev KR(K:aj)(ρ:List ao)(H:Hp):List (Key×V)->List (D×D)->Prop:=kf λ(p:Key×V)(q:D×D)=>pT p.1=q.1/\dA K ρ H p.2 q.2
def RO(K:aj)(ρ:List ao)(H:Hp):Option V->Option D->Prop
 |some v,some d=>dA K ρ H v d
 |none,none=>True
 |_,_=>False
theorem RO.some_of{o:Option V}{d:D}(h:RO K ρ H o (some d)):∃v,o=some v/\dA K ρ H v d:=by
 cases o with
 |none=>exact h.elim
 |some v=>exact⟨v,rfl,h⟩
theorem RO.isSome_eq{o:Option V}{d:Option D}(h:RO K ρ H o d):o.isSome=d.isSome:=by cases o<;>cases d<;>first|rfl|exact h.elim
theorem KR.val{g:List (Key×V)}{c:List (D×D)}(r:KR K ρ H g c)(k:Key):RO K ρ H (pU g k) (lV c (pT k)):=by
 induction r with
 |nil=>exact eE
 |@cons p q ps qs h t ih=>
  obtain⟨o,l⟩:=h;unfold lV;rw[cE,<- o,Ka];by_cases e:p.1=k
  ·rw[Fs e,bB e];exact l
  ·rw[FV e,aR e];exact ih
theorem KR.any{g:List (Key×V)}{c:List (D×D)}(r:KR K ρ H g c)(k:Key):(g.any λl=>decide (l.1=k))=c.any λp=>oJ p.1 (pT k):=by
 induction r with
 |nil=>rfl
 |@cons p q ps qs h t ih=>rw[eD,eD,ih,<- h.1,Ka]
theorem KR.put{l:List (Key×V)}{c:List (D×D)}(r:KR K ρ H l c)(k:Key){v:V}{d:D}(g:dA K ρ H v d):KR K ρ H (L2.oC l k v) (lG c (pT k) d):=by
 unfold L2.oC lG;rw[r.any k];by_cases e:(c.any λp=>oJ p.1 (pT k))=true
 ·rw[aG e,aG e];clear e
  induction r with
  |nil=>exact .nil
  |@cons p q ps qs h t ih=>
   rw[aK,aK];refine .cons ?_ ih;rw[<- h.1,Ka];by_cases e:p.1=k
   ·rw[aG e,aG (bB e)];exact⟨rfl,g⟩
   ·rw[aC e,aC (by rw[aR e];exact aY)];exact h
 ·rw[aC e,aC e];exact nt r ⟨rfl,g⟩
theorem KR.up{ρ1:List ao}{h:Hp}(x:Up ρ H ρ1 h){g:List (Key×V)}{c:List (D×D)}(r:KR K ρ H g c):KR K ρ1 h g c:=kf.mapS r λ_ _ z=>⟨z.1,z.2.up x⟩
theorem KR.length{g:List (Key×V)}{c:List (D×D)}(r:KR K ρ H g c):g.length=c.length:=bZ r
abbrev NR(K:aj)(ρ:List ao)(H:Hp):List (NK×ao×V)->List (D×D)->Prop:=kf λ(p:NK×ao×V)(q:D×D)=>oG p.1=q.1/\dA K ρ H (.ref p.2.1) q.1/\dA K ρ H p.2.2 q.2
abbrev NX:List (NK×ao×V)->List (NK×ao×ag)->Prop:=kf λ(p:NK×ao×V)(q:NK×ao×ag)=>p.1=q.1/\p.2.1=q.2.1/\RelV p.2.2 q.2.2
abbrev xF(X:Cx):nC X.prog X.w NK:=tD X.prog X.w
theorem Lw{P:Program}{w:bE}:∀{r:List Int}{c:List V}{l:List ag},bT K ρ H c (r.map .int)->b7 c l->ItemsAre (pK P w) r l
 |[],_,_,h,g=>by cases h;cases g;exact .nil
 |i::r,_,_,h,g=>by
  cases h with
  |cons h1 ht=>
   cases h1;cases g with
   |cons g1 gt=>
    obtain⟨t,e⟩:=g1;subst e;exact .cons (by show qo i (fZ i t)=true;simp[qo]) (Lw ht gt)
theorem Sq{r:List Int}{v:V}{u:ag}(I:Inv X cp σ H s)(h:dA X.K ρ H v (EG r))(g:RelV v u):∃b,u=.ref b/\BK (pK X.prog X.w) s.heap r b:=by
 cases h with
 |@tup b vs ds h q=>
  have e:u=aV b:=g;subst e;obtain⟨its,c,⟨o,C,B,n,l⟩,_⟩:=I.tuple h;exact⟨b,rfl,o,its.toArray,n,C,B,l,by simpa using Lw q c⟩
theorem K2(I:Inv X cp σ H s):∀{k:NK}{c:List V}{l:List ag},bT X.K ρ H c (k.map gR)->b7 c l->nu X.prog X.w s.heap k l
 |[],_,_,h,g=>by cases h;cases g;exact .nil
 |r::k,_,_,h,g=>by
  cases h with
  |cons h1 ht=>
   cases g with
   |cons g1 gt=>
    refine .cons ?_ (K2 I ht gt);cases r with
    |inl i=>
     cases (show dA X.K ρ H _ (.int i) from h1);obtain⟨t,e⟩:=g1;subst e;exact .one i t
    |inr r=>
     obtain⟨b,e,o⟩:=Sq I h1 g1;subst e;exact .row o
theorem zv{k:NK}{v:V}{u:ag}(I:Inv X cp σ H s)(h:dA X.K ρ H v (oG k))(g:RelV v u):∃b,v=.ref b/\u=.ref b/\(xF X).is s.heap k b:=by
 cases h with
 |@tup b vs ds h q=>
  have e:u=aV b:=g;subst e;obtain⟨its,c,⟨o,C,B,n,l⟩,_⟩:=I.tuple h;exact⟨b,rfl,rfl,o,its.toArray,n,C,B,l,by simpa using K2 I q c⟩
theorem v9{v:List (NK×ao×V)}{c:List (D×D)}(I:Inv X cp σ H s)(e:H a=some (ic a v))(r:NR X.K ρ H v c):
  v.length<=sizeLine/\(a == bO)=false/\∃xs,NX v xs/\s.heap.DictOfH (xF X) a xs/\rE s.heap a xs.length:=by
 obtain⟨⟨z,y,xs,E,o,u,ep,C,L,B,J,G,Y⟩,Q,O⟩:=(show eU X.prog X.w H s.heap a (ic a v) from I.hok a _ e)
 subst Y;refine⟨z,y,xs,E,⟨o,u,_,C,L,B,J,?_,G⟩,⟨o,u,C,B⟩⟩;clear C L B J G e z y Q O
 induction E generalizing c with
 |nil=>intro x l;exact nomatch l
 |@cons p q ps qs h t ih=>
  cases r with
  |cons g gt=>
   intro x l;rcases aP.mp l with e|l
   ·subst e;obtain⟨b,c,_,U⟩:=zv I (by rw[g.1];exact g.2.1) (show RelV (.ref p.2.1) (.ref p.2.1) from rfl);cases c;rw[<- h.1,<- h.2.1];exact U
   ·exact ih gt x l
theorem B8{J:Hp}{h':bA}{P:Program}{w:bE}{q:List (NK×ao×V)}{xs:List (NK×ao×ag)}(z:q.length<=sizeLine)(y:(a == bO)=false)(r:NX q xs)(I:h'.DictOfH (tD P w) a xs)(G:rE h' a xs.length):
  eU P w J h' a (ic a q):=by
 obtain⟨o,c,ep,g,h,u,C,_,B⟩:=I;obtain⟨L,E,l,v⟩:=G;rw[g]at l;cases l;rw[u]at v;cases v;refine⟨⟨z,y,xs,r,o,c,_,g,h,u,C,B,rfl⟩,⟨o,g⟩,?_⟩
 rintro l g2 ⟨z,y,xs,r,o,c,ep,g,h⟩ k
 exact⟨z,y,xs,r,o,c,ep,k o g,h⟩
noncomputable def valN(c:List (NK×ao×V))(k:NK):Option V:=(c.find? λp=>decide (p.1=k)).map (·.2.2)
noncomputable def putN(c:List (NK×ao×V))(k:NK)(b:ao)(v:V):List (NK×ao×V):=if (c.any λp=>decide (p.1=k))=true then c.map (λp=>if p.1=k then (p.1,p.2.1,v) else p) else c++[(k,b,v)]
theorem NR.val{g:List (NK×ao×V)}{c:List (D×D)}(r:NR K ρ H g c)(k:NK):RO K ρ H (valN g k) (lV c (oG k)):=by
 induction r with
 |nil=>exact eE
 |@cons p q ps qs h t ih=>
  obtain⟨o,_,l⟩:=h;unfold lV valN;rw[cE,cE,<- o,zw];by_cases e:p.1=k
  ·rw[bB e];exact l
  ·rw[aR e];exact ih
theorem NX.val{c:List (NK×ao×V)}{xs:List (NK×ao×ag)}(r:NX c xs)(k:NK):pi (valN c k) ((iW xs k).map (·.2)):=by
 induction r with
 |nil=>exact eE
 |@cons p q ps qs h t ih=>
  obtain⟨l,_,g⟩:=h;unfold iW valN;rw[cE,cE,<- l];by_cases e:p.1=k
  ·rw[bB e];exact g
  ·rw[aR e];exact ih
theorem NX.put{g:List (NK×ao×V)}{xs:List (NK×ao×ag)}(r:NX g xs)(k:NK)(b:ao){v:V}{u:ag}(c:RelV v u):NX (putN g k b v) (lc xs k b u):=by
 have e:(g.any λp=>decide (p.1=k))=(iW xs k).isSome:=by
  clear c
  induction r with
  |nil=>rfl
  |@cons p q ps qs h t ih=>
   rw[eD,ih];unfold iW;rw[cE,<- h.1];by_cases e:p.1=k
   ·rw[bB e];rfl
   ·rw[aR e];rfl
 unfold putN lc;rw[e];by_cases q:(iW xs k).isSome=true
 ·rw[aG q,aG q];clear q e
  induction r with
  |nil=>exact .nil
  |@cons p q ps qs h t ih=>
   rw[aK,aK];refine .cons ?_ ih;unfold s_;by_cases e:p.1=k
   ·rw[aG e,aG (h.1.symm.trans e)];exact⟨h.1,h.2.1,c⟩
   ·rw[aC e,aC (λz=>e (h.1.trans z))];exact h
 ·rw[aC q,aC q];exact nt r ⟨rfl,rfl,c⟩
theorem NR.put{l:List (NK×ao×V)}{c:List (D×D)}(r:NR K ρ H l c)(k:NK)(b:ao){v:V}{d:D}(o:dA K ρ H (.ref b) (oG k))(g:dA K ρ H v d):NR K ρ H (putN l k b v) (lG c (oG k) d):=by
 have e:(l.any λp=>decide (p.1=k))=c.any λp=>oJ p.1 (oG k):=by
  clear o g
  induction r with
  |nil=>rfl
  |@cons p q ps qs h t ih=>rw[eD,eD,ih,<- h.1,zw]
 unfold putN lG;rw[e];clear e;by_cases e:(c.any λp=>oJ p.1 (oG k))=true
 ·rw[aG e,aG e];clear e
  induction r with
  |nil=>exact .nil
  |@cons p q ps qs h t ih=>
   rw[aK,aK];refine .cons ?_ ih;by_cases e:p.1=k
   ·have z:oJ q.1 (oG k)=true:=by rw[<- h.1,zw];exact bB e
    rw[aG e,aG z];exact⟨h.1,h.2.1,g⟩
   ·have z:¬ oJ q.1 (oG k)=true:=by rw[<- h.1,zw,aR e];exact aY
    rw[aC e,aC z];exact h
 ·rw[aC e,aC e];exact nt r ⟨rfl,o,g⟩
theorem NR.up{ρ1:List ao}{h:Hp}(x:Up ρ H ρ1 h){g:List (NK×ao×V)}{c:List (D×D)}(r:NR K ρ H g c):NR K ρ1 h g c:=kf.mapS r λ_ _ z=>⟨z.1,z.2.1.up x,z.2.2.up x⟩
theorem NR.length{g:List (NK×ao×V)}{c:List (D×D)}(r:NR K ρ H g c):g.length=c.length:=bZ r
theorem Hy(c:List (NK×ao×V))(k:NK)(b:ao)(v:V):(putN c k b v).length<=c.length+1:=by
 unfold putN;split
 ·rw[ae];ext
 ·rw[aH,bC,gI];ext
theorem VM{n:Nat}{p:Bool×List (D×D)}{c:aZ}(h:getDc n st=.ok p c):c=st/\st[n]?=some (.dct p.1 p.2):=by
 unfold getDc at h;cases e:st[n]? with
 |none=>rw[e]at h;cases h
 |some o=>
  rw[e]at h;cases o with
  |dct b cx=>cases h;exact⟨rfl,rfl⟩
  |_=>cases h
theorem aN.getDc{n:Nat}{R:Bool×List (D×D)->aZ->List ao->Hp->Prop}(h:aN K ρ H (MM.getDc n st) R)(s:SR K ρ H st):∃b c,st[n]?=some (.dct b c)/\R (b,c) st ρ H:=by
 cases e:MM.getDc n st with
 |ok xs s'=>
  obtain⟨rfl,q⟩:=VM e;rw[e]at h;exact⟨xs.1,xs.2,q,h ρ H Ex.refl s⟩
 |exc _ _=>rw[e]at h;exact h.elim
 |bad=>rw[e]at h;exact h.elim
theorem Wu{b:Bool}{C:List (D×D)}{k d:D}{y:V}{u:ag}{Q:ag->am->Prop}{E:ag->am->Prop}{A:bv}(hu:A.units+2 < cA)(I:Inv X cp σ H s)(g:rA X.K ρ H a (.dct b C))(Y:dA X.K ρ H y k)(hk:m5 b k=true)(hl:lV C k=some d)(U:RelV y u)
  (h:∀v B G,Inv X cp σ H G->dA X.K ρ H v d->RelV v B->Q B G):aD (aT X.prog X.w) A (pL (.ref a) u) Q E s:=by
 cases b with
 |false=>
  obtain⟨es,e,r⟩:=g;obtain⟨k,rfl⟩:=JP hk;cases HM Y;have q:=KR.val r k;rw[hl]at q;obtain⟨v,O,J⟩:=q.some_of;exact OC (by ext) I (by have:=vp.k (k:=k) e;rw[O]at this;exact this) U λB G I' l=>h v B G I' J l
 |true=>
  obtain⟨es,e,r⟩:=g;obtain⟨k,rfl⟩:=B5 hk;have q:=NR.val r k;rw[hl]at q;obtain⟨v,O,J⟩:=q.some_of;obtain⟨_,hd,xs,rx,dd,de⟩:=v9 I e r;obtain⟨c,e2,e3,hc⟩:=zv I Y U;subst e3;obtain⟨B,hw,l⟩:=pi.some_of (v:=v) (o:=(iW xs k).map (·.2)) (by rw[<- O];exact NX.val rx k);obtain⟨p,hp,L⟩:=dC.mp hw;refine BJ (knd:=xF X) (show A.in1.units+1 < cA from hu) hc dd hp ?_;rw[L];exact h v B _ (I.tok _) J l
theorem Tg{b:Bool}{l:List (D×D)}{k:D}{y:V}{u:ag}{Q:ag->am->Prop}{E:ag->am->Prop}{A:bv}(hu:A.units+2 < cA)(I:Inv X cp σ H s)(g:rA X.K ρ H a (.dct b l))(B:dA X.K ρ H y k)(C:m5 b k=true)(v:RelV y u)
  (h:∀o,Inv X cp σ H o->Q (.bool (!(lV l k).isSome)) o):aD (aT X.prog X.w) A (cX .NotIn u (.ref a)) Q E s:=by
 cases b with
 |false=>
  obtain⟨L,e,r⟩:=g;obtain⟨k,rfl⟩:=JP C;cases HM B;rw[<- (KR.val r k).isSome_eq]at h;exact Uo (by ext) I (vp.k (k:=k) e) v h
 |true=>
  obtain⟨L,e,r⟩:=g;obtain⟨k,rfl⟩:=B5 C;rw[<- (NR.val r k).isSome_eq]at h;obtain⟨_,hd,xs,G,U,de⟩:=v9 I e r;obtain⟨c,Y,O,J⟩:=zv I B v;subst O;refine Ff (knd:=xF X) (show A.in1.units+1 < cA from hu) J hd U ?_;have q:=(NX.val G k).isSome_eq;rw[lR]at q;rw[<- q];exact h _ (I.tok _)
theorem Vy{n:Nat}{b:Bool}{l:List (D×D)}{k d:D}{y v:V}{u r':ag}{Q:Unit->am->Prop}{E:ag->am->Prop}{A:bv}(hu:A.units+2 < cA)(I:Inv X cp σ H s)(L:SR X.K ρ H st)(Y:ρ[n]?=some a)(hn:st[n]?=some (.dct b l))
  (O:dA X.K ρ H y k) (hk:m5 b k=true) (hl:l.length < sizeLine) (rv:dA X.K ρ H v d) (ry:RelV y u) (rr:RelV v r')
  (h:∀H' G,Inv X cp σ H' G->SR X.K ρ H' (st.set n (.dct b (lG l k d)))->Ex ρ H ρ H'->Q () G):aD (aT X.prog X.w) A (n9 (.ref a) u r') Q E s:=by
 have B:=(ac.mp hn).1;have g:=L.ob n a _ Y hn;cases b with
 |false=>
  obtain⟨J,e,r⟩:=g;obtain⟨k,rfl⟩:=JP hk;cases HM O;have w:=L.putO (o':=.dct false (lG l (pT k) d)) (u':=.dK (L2.oC J k v)) B Y e (by show (1:Nat)≠3;decide) rfl ⟨_,kh,(KR.put r k rv).up ?_⟩
  ·exact VJ (by ext) I (xZ.k (k:=k) e (by rw[KR.length r];exact hl)) ry rr λG c=>h _ G c w.1 w.2
  ·refine⟨⟨[],by simp⟩,λc o U q=>?_,λc o q=>?_⟩
   ·rw[fO λz=>by subst z;rw[e]at q;cases q;exact nomatch U];exact q
   ·by_cases z:c=a
    ·subst z;rw[e]at q;cases q;exact⟨_,kh,rfl⟩
    ·exact⟨o,by rw[fO z];exact q,rfl⟩
 |true=>
  obtain⟨J,e,r⟩:=g;obtain⟨k,rfl⟩:=B5 hk;obtain⟨_,hd,xs,rx,dd,de⟩:=v9 I e r;obtain⟨c,e2,e3,hc⟩:=zv I O ry;subst e2 e3;have w:=L.putO (o':=.dct true (lG l (oG k) d)) (u':=ic a (putN J k c v)) B Y e (by show (2:Nat)≠3;decide) rfl ⟨_,kh,(NR.put r k c O rv).up ?_⟩
  ·have hz : xs.length <= sizeLine := by rw[<- bZ rx,NR.length r];ext
   refine Qn (knd:=xF X) (show A.in1.units+1 < cA from hu) hc dd de hz λh' C g l=>h _ _ ?_ w.1 w.2;have o:∃q,h'.get? a=some q:=let ⟨q,_,_,hq,_⟩:=C;⟨q,hq⟩
   refine Cb I (by rw[e];exact eE) l o (B8 ?_ hd (NX.put rx k c rr) C g);have:=Hy J k c v;rw[NR.length r]at this;ext
  ·refine⟨⟨[],by simp⟩,λc o U q=>?_,λc o q=>?_⟩
   ·rw[fO λz=>by subst z;rw[e]at q;cases q;exact nomatch U];exact q
   ·by_cases z:c=a
    ·subst z;rw[e]at q;cases q;exact⟨_,kh,rfl⟩
    ·exact⟨o,by rw[fO z];exact q,rfl⟩
end
noncomputable abbrev yr:ag->am->Prop:=λ_ _=>False
noncomputable def zF(g:List Expr)(env:Env):Sem Bool:=forIn g true λc r=>if r=true then do let ok <- isTrue c env (eval c env);pure (ml ok) else pure (ml r)
section
variable{prog:Program}{w:bE}{A:bv}{R:BF->am->Prop}{s:am}
theorem Sj{l c iter:Expr}{g:List Expr}{scope:dR}{pos:Pos}{u o:ag}{env:Env}(I:Nat->am->Prop)
  (q:∀n s,I n s->aD (aT prog w) A (gD u) (λr s₁=>match r with
   |none=>R (.ok .next) s₁
   |some v => aD (aT prog w) A (ox c u v) (λ_ s₁' => aD (aT prog w) A (n8 c env v) (λ_ s₂ =>
     aD (aT prog w) A (zF g env) (λok s₃=>
      if ok=true then aD (aT prog w) A (eval l env) (λx s₄=>
       aD (aT prog w) A (call (.builtin "list.append") [o,x]) (λ_ s₅=>∃m,m < n/\I m s₅) yr s₄) yr s₃
      else ∃m,m < n/\I m s₃) yr s₂) yr s₁') yr s₁) yr s)
  (n:Nat) (h:I n s):i6 (aT prog w) A (.compLoop (.ListComp l [⟨c,iter,g,0⟩] scope pos) 0 u o env) R s:=by
 refine codeAny_loop rfl I (λn s B=>?_) n h
 show aD _ A ((compTurn (.ListComp l [⟨c,iter,g,0⟩] scope pos) 0 u o env).onRaise (λx=>do noteFrame x env;theTreesLotGoes x)) _ _ s;refine wpAny_noted ?_;rw[compTurn_list];refine ab (vJ (ab (fI (q n s B) (λr s₁ h₁=>?_) λ_ _ h'=>h'.elim)));cases r with
 |none=>exact ah h₁
 |some v=>
  refine ab (fI h₁ (λ_ s₁' h₁'=>?_) λ_ _ h'=>h'.elim);refine ab (fI h₁' (λ_ s₂ h₂=>ab (fI h₂ (λok s₃ h₃=>?_) λ_ _ h'=>h'.elim)) λ_ _ h'=>h'.elim);cases ok with
  |false=>exact ah ⟨rfl,h₃⟩
  |true=>
   exact ab (ab (fI h₃ (λx s₄ h₄=>ab (fI h₄ (λ_ s₅ h₅=>ah (ah ⟨rfl,h₅⟩)) λ_ _ h'=>h'.elim)) λ_ _ h'=>h'.elim))
end
noncomputable def ko:List (Str×fA)->List (Str×ao)->List (Str×ao)->List (Str×ao)
 |[],_,acc=>acc
 | (n,k)::r,cells,acc=>ko r cells (if k == .free then (match cells.lookup n with|some c=>(n,c)::acc|none=>acc) else acc)
theorem Ip{env:Env}: ∀(names:List (Str×fA))(acc:List (Str×ao)),(∀x,(x,bK)∈names->∃c,env.cells.lookup x=some c) ->
  (forIn names acc λ(x:Str×fA)r=>if (x.2 == bK)=true then (do let a <- cellOf env x.1;pure (ml ((x.1,a)::r)):Sem _) else pure (ml r))=(pure (ko names env.cells acc):Sem _)
 |[],acc,_=>rfl
 | (n,k)::r,acc,h=>by
  rw[kK];by_cases l:(k == bK)=true
  ·have e:k=.free:=by simpa using l
   subst e;obtain⟨c,o⟩:=h n cK;have q:cellOf env n=pure c:=by unfold cellOf;rw[o]
   simp only[beq_self_eq_true,if_true,q];unfold ko;simp only[beq_self_eq_true,if_true,o];exact Ip r ((n,c)::acc) λx g=>h x (bw _ g)
  ·simp only[l,if_false];unfold ko;simp only[l,if_false];exact Ip r acc λx g=>h x (bw _ g)
theorem LP{scope:dR}{env:Env}(h:∀x,(x,bK)∈scope.names->∃c,env.cells.lookup x=some c):oh scope env=pure (ko scope.names env.cells []):=by have q:=Ip (env:=env) scope.names [] h;simp only[oh];exact cR (λm=>m >>= λg=>pure g) q
theorem vA{α:Type}{x y:Str}{v:α}{r:List (Str × α)}(h:x≠y):Fh x ((y,v)::r)=r.lookup x:=by rw[xI];have:(x == y)=false:=beq_eq_false_iff_ne.mpr h;rw[this]
theorem lookup_cons_self{α:Type}{x:Str}{v:α}{r:List (Str × α)}:Fh x ((x,v)::r)=some v:=by rw[xI,beq_self_eq_true]
theorem vc{cells:List (Str×ao)}{x:Str}{c:ao}:∀(names:List (Str×fA))(acc:List (Str×ao)),(ko names cells acc).lookup x=some c->cells.lookup x=some c\/acc.lookup x=some c
 |[],acc,h=>.inr h
 | (n,k)::r,acc,h=>by
  unfold ko at h;rcases vc r _ h with q|q
  ·exact .inl q
  ·split at q
   ·split at q
    ·rename_i o l;by_cases g:x=n
     ·subst g;rw[lookup_cons_self]at q;cases q;exact .inl l
     ·rw[vA g]at q;exact .inr q
    ·exact .inr q
   ·exact .inr q
theorem EM{cells:List (Str×ao)}{x:Str}{c:ao}(l:cells.lookup x=some c):∀(names:List (Str×fA))(acc:List (Str×ao)),((x,bK)∈names\/acc.lookup x=some c)->(∀d,acc.lookup x=some d->d=c)->(ko names cells acc).lookup x=some c
 |[],acc,h,_=>by
  rcases h with h|h
  ·cases h
  ·exact h
 | (n,k)::r,acc,h,ha=>by
  unfold ko;by_cases o:x=n
  ·subst o;by_cases q:(k == bK)=true
   ·rw[aG q,l];exact EM l r _ (.inr lookup_cons_self) λd hd=>by rw[lookup_cons_self]at hd;cases hd;rfl
   ·rw[aC q];refine EM l r _ ?_ ha;rcases h with h|h
    ·rcases aP.mp h with e|e
     ·cases e;exact bn rfl q
     ·exact .inl e
    ·exact .inr h
  ·have step : ∀g, g.lookup x = acc.lookup x -> (ko r cells g).lookup x = some c := λg e => by
     refine EM l r g ?_ (by rw[e];exact ha);rcases h with h|h
     ·rcases aP.mp h with z|z
      ·cases z;exact bn rfl o
      ·exact .inl z
     ·exact .inr (by rw[e];exact h)
   refine step _ ?_;split
   ·split
    ·exact vA o
    ·rfl
   ·rfl
theorem kG{x:Str}{c:ao}:∀(names:List (Str×fA))(n:Nat)(acc:List (Str×ao)),(dB n names acc).lookup x=some c->n<=c\/acc.lookup x=some c
 |[],_,_,h=>.inr h
 | (y,k)::r,n,acc,h=>by
  unfold dB at h;split at h
  ·rcases kG r (n+1) _ h with q|q
   ·exact .inl (by ext)
   ·by_cases g:x=y
    ·subst g;rw[lookup_cons_self]at q;cases q;exact .inl (av _)
    ·rw[vA g]at q;exact .inr q
  ·exact kG r n acc h
theorem Hf: ∀(names:List (Str×fA))(n:Nat)(acc:List (Str×ao)),(∀x y c,acc.lookup x=some c->acc.lookup y=some c->x=y)->(∀x c,acc.lookup x=some c->c < n) ->
  ∀x y c,(dB n names acc).lookup x=some c->(dB n names acc).lookup y=some c->x=y
 |[],_,_,hi,_=>hi
 | (z,k)::r,n,acc,hi,hb=>by
  unfold dB;split
  ·refine Hf r (n+1) _ (λx y c q g=>?_) (λx c h=>?_)
   ·by_cases o:x=z
    ·subst o;rw[lookup_cons_self]at q;cases q;by_cases l:y=x
     ·exact l.symm
     ·rw[vA l]at g;exact bn (hb y _ g) (cq _)
    ·rw[vA o]at q;by_cases l:y=z
     ·subst l;rw[lookup_cons_self]at g;cases g;exact bn (hb x _ q) (cq _)
     ·rw[vA l]at g;exact hi x y c q g
   ·by_cases o:x=z
    ·subst o;rw[lookup_cons_self]at h;cases h;exact kz _
    ·rw[vA o]at h;exact mn (hb x c h)
  ·exact Hf r n acc hi hb
theorem kR{x:Str}{c:ao}:∀(names:List (Str×fA))(h:bA)(acc:List (Str×ao)),(dB h.objs.size names acc).lookup x=some c->acc.lookup x=some c\/((we h names).IsCell c none/\h.objs.size<=c)
 |[],_,_,q=>.inl q
 | (y,k)::r,h,acc,q=>by
  unfold dB at q;unfold we;split at q
  ·rename_i g;rw[aG g];rw[<- cu h { cls:=.type "cell",data:=.cell none }]at q;rcases kR r _ _ q with z|z
   ·by_cases l:x=y
    ·subst l;rw[lookup_cons_self]at z;cases z;refine .inr ⟨?_,av _⟩;refine⟨{ cls:=.type "cell",data:=.cell none },tY r _ _ _ (ay _ rfl),rfl⟩
    ·rw[vA l]at z;exact .inl z
   ·refine .inr ⟨z.1,?_⟩;have:=z.2;rw[cu]at this;ext
  ·rename_i g;rw[aC g];exact kR r h acc q
theorem Hw{x:Str}:∀(names:List (Str×fA))(n:Nat)(acc:List (Str×ao)),(x,ii)∉names->(dB n names acc).lookup x=acc.lookup x
 |[],_,_,_=>rfl
 | (y,k)::r,n,acc,h=>by
  unfold dB;split
  ·rename_i g;have e:k=.cell:=by simpa using g
   subst e;have c:x≠y:=λz=>h (by rw[z];exact cK);rw[Hw r (n+1) _ λz=>h (bw _ z),vA c]
  ·exact Hw r n acc λz=>h (bw _ z)
theorem LW{α β:Type}(f:Str->α->β)(x:Str):∀(l:List (Str × α)),(l.map λp=>(p.1,f p.1 p.2)).lookup x=(l.lookup x).map (f x)
 |[]=>rfl
 | (y,v)::r=>by
  by_cases c:x=y
  ·subst c;rw[aK,lookup_cons_self,lookup_cons_self];rfl
  ·rw[aK,vA c,vA c];exact LW f x r
theorem B4(scope:dR)(env:Env)(x:Str):
  (i8 scope env).names.lookup x=(scope.names.lookup x).map λk=>if (k == bK&&env.scope.kind == .function&&env.kindOf x == some .cell)=true then .cell else k:=by
 have e:(i8 scope env).names=scope.names.map λp=>(p.1,(λ(n:Str)k=>if (k == bK&&env.scope.kind == .function&&env.kindOf n == some .cell)=true then ii else k) p.1 p.2):=by show scope.names.map _=_;congr 1;funext p;obtain⟨n,k⟩:=p;dsimp only;split<;>rfl
 rw[e];exact LW (λ(n:Str)k=>if (k == bK&&env.scope.kind == .function&&env.kindOf n == some .cell)=true then ii else k) x scope.names
theorem Qi{M:Model}{A:bv}{E:ag->am->Prop}{s:am}{scope:dR}{globals:ao}{g:List (Str×ao)}{qual:Str}{env:Env}{Q:Env->am->Prop}
  (h:Q { scope:=scope,locals:=s.heap.objs.size,globals:=globals,cells:=dB (s.heap.objs.size+1) scope.names g,qual:=qual,func:=none,code:=env.code,frame:=env.frame,builtins:=env.builtins }
   { s with heap:=we (s.heap.push { cls:=.type "dict",data:=.dict #[] }) scope.names }):aD M A (newFunctionEnv scope globals g [] qual none .none (some env)) Q E s:=by
 simp only[newFunctionEnv,oy,if_true];refine ab (wpAny_alloc ?_);refine ab (wpAny_layCells _ (λname kind cells=>by cases c:kind == ii<;>simp[c]) _ _ _ _ ?_);rw[show ({ s with heap:=s.heap.push { cls:=.type "dict",data:=.dict #[] } }:am).heap.objs.size=s.heap.objs.size+1 from cu ..];exact ab (ah (ah h))
def oq(X:Cx)(N:List Str)(scope:dR)(fp:List ao)(s:am)(H:Hp):Cx where
 prog:=X.prog
 w:=X.w
 K:=X.K
 mg:=X.mg
 base:=X.base
 A:=X.A
 N:=N
 s₀:=s
 H₀:=H
 env:=compEnvC scope (dB (s.heap.objs.size+1) scope.names (ko scope.names X.env.cells [])) s.heap.objs.size X.env
 outer:=X.stack
 stack:=X.stack
 ex:=fp
 fn:=λx=>decide (scope.names.lookup x=some .local\/scope.names.lookup x=some .cell)
 calm:=X.calm
 pn:=[]
 xe:=yr
structure gX(X:Cx)(scope:dR):Prop where
 kind:scope.kind=.function
 names:∀x∈scope.names,x.2=.local->scope.names.lookup x.1=some .local
 free:∀x,(x,bK)∈scope.names->X.env.kindOf x=some .cell\/X.env.kindOf x=some .free
 once:∀x,(x,bK)∈scope.names->(x,ii)∉scope.names
 own:∀x,(x,bK)∈scope.names->scope.names.lookup x≠some .local
noncomputable def yN(n:Nat)(ix:List Nat)(σ:St):St:=bq n none++ix.map λi=>(σ[i]?).join
structure ke(X:Cx)(scope:dR)(N:List Str)(n:Nat)(ix:List Nat):Prop where
 len:N.length=n+ix.length
 cap:∀(j i:Nat)(x:Str),ix[j]?=some i->N[n+j]?=some x->X.N[i]?=some x/\scope.names.lookup x=some .free
theorem tH{cells:List (Str×ao)}{x:Str}{c:ao}:∀(names:List (Str×fA))(acc:List (Str×ao)),(ko names cells acc).lookup x=some c->(x,bK)∈names\/acc.lookup x=some c
 |[],acc,h=>.inr h
 | (n,k)::r,acc,h=>by
  unfold ko at h;rcases tH r _ h with q|q
  ·exact .inl (bw _ q)
  ·split at q
   ·rename_i l;have e:k=.free:=by simpa using l
    subst e;split at q
    ·by_cases g:x=n
     ·subst g;exact .inl cK
     ·rw[vA g]at q;exact .inr q
    ·exact .inr q
   ·exact .inr q
theorem Ug{X:Cx}{scope:dR}{cells:List (Str×ao)}{x:Str}{c:ao}(h:(ko scope.names cells []).lookup x=some c)(g:scope.names.lookup x=some .local\/scope.names.lookup x=some .cell)(S:gX X scope):False:=by
 rcases tH _ _ h with q|q
 ·rcases g with z|z
  ·exact S.own x q z
  ·exact S.once x q (eI z)
 ·cases q
section
variable{X:Cx}{cp:List (ao×Obj)}{σ:St}{H:Hp}{s:am}{scope:dR}{N:List Str}{fp:List ao}
theorem Ez(I:Inv X cp σ H s){x:Str}{c:ao}(h:(ko scope.names X.env.cells []).lookup x=some c):X.env.cells.lookup x=some c/\c < s.heap.objs.size/\(∃v,s.heap.IsCell c v)/\H c=none:=by
 rcases vc _ _ h with q|q
 ·obtain⟨v,z⟩:=I.cell x c q;exact⟨q,z.lt,⟨v,z⟩,I.freeC x c q⟩
 ·cases q
theorem Qs(I:Inv X cp σ H s)(S:gX X scope)(l:∀b∈fp,nW X cp H b)(B:∀b∈fp,b < s.heap.objs.size):(oq X N scope fp s H).Ok:=by
 have inj:∀x y c,(dB (s.heap.objs.size+1) scope.names (ko scope.names X.env.cells [])).lookup x=some c->(dB (s.heap.objs.size+1) scope.names (ko scope.names X.env.cells [])).lookup y=some c->x=y:=
  Hf scope.names _ _ (λx y c h1 h2=>I.ok.inj x y c (Ez I h1).1 (Ez I h2).1) λx c h=>mn (Ez I h).2.1
 refine⟨I.ok.mod,S.kind,I.ok.glob,I.ok.blt,av _,inj,λx hx=>?_,λx c hf C=>?_,I.ok.hd,I.ok.frames,.inl rfl,λb v=>?_,I.bs,cS I.ok.bsz I.sz,λb o e v=>?_,λb v z=>?_,I.stack,I.stkFree⟩
 ·have g:(i8 scope X.env).names.lookup x=some .cell\/(i8 scope X.env).names.lookup x=some .free:=hx;rw[B4]at g;cases e:scope.names.lookup x with
  |none=>rw[e]at g;rcases g with z|z<;>cases z
  |some k=>
   refine sj.mp (iO scope.names _ _ ?_);cases k with
   |cell=>exact .inl e
   |free=>
    have Q:=eI e;obtain⟨c,C⟩:=I.ok.has x (S.free x Q);exact .inr (by rw[EM C scope.names [] (.inl Q) λd hd=>by cases hd];rfl)
   |_=>
    rw[e]at g;rcases g with z|z<;>(simp at z)
 ·have u:(dB (s.heap.objs.size+1) scope.names (ko scope.names X.env.cells [])).lookup x=some c:=C;rcases kG _ _ _ u with q|q
  ·exact Nat.le_of_succ_le q
  ·exfalso
   have E:scope.names.lookup x=some .local\/scope.names.lookup x=some .cell:=of_decide_eq_true hf;exact Ug q E S
 ·obtain⟨Y,O,L,J,G,U⟩:=l b v;refine⟨bb (B b v),λx c C z=>?_⟩;have u:(dB (s.heap.objs.size+1) scope.names (ko scope.names X.env.cells [])).lookup x=some c:=C;rcases kG _ _ _ u with q|q
  ·rw[z]at q;exact bn (a_ (mn (B b v)) q) (cq _)
  ·exact G x c (Ez I q).1 z
 ·obtain⟨Y,O,L,J,G,U⟩:=l b v;rcases J with z|z
  ·exact I.ok.noex b o e z
  ·exact bn (a_ (a_ (aI e) I.ok.bsz) z) (cq _)
 ·obtain⟨Y,O,L,J,G,U⟩:=l b v;rcases aP.mp (I.stkSub b z) with q|q
  ·exact O q
  ·exact L q
noncomputable abbrev qz(h:bA)(scope:dR):bA:=we (h.push { cls:=.type "dict",data:=.dict #[] }) scope.names
theorem Ma(h:bA)(scope:dR):∀b o,h.get? b=some o->(qz h scope).get? b=some o:=λb o e=>tY _ _ b o (ak _ e)
theorem Wg{n:Nat}{ix:List Nat}(I:Inv X cp σ H s)(S:gX X scope)(T:ke X scope N n ix)(O:∀b∈fp,nW X cp H b)(L:∀b∈fp,b < s.heap.objs.size):
  Inv (oq X N scope fp s H) [] (yN n ix σ) H { s with heap:=qz s.heap scope }:=by
 have B:=Ma s.heap scope;have G:(qz s.heap scope).Ns s.heap.objs.size λ_=>none:=(bA.Ns.new s.heap (.type "dict")).keeps (tY _ _);have cells : ∀x c, (dB (s.heap.objs.size+1) scope.names (ko scope.names X.env.cells [])).lookup x = some c ->
   (∃v,(qz s.heap scope).IsCell c v)/\H c=none:=λx c h=>by
  have h':(dB (s.heap.push { cls:=.type "dict",data:=.dict #[] }).objs.size scope.names (ko scope.names X.env.cells [])).lookup x=some c:=by rw[cu];exact h
  rcases kR _ _ _ h' with q|⟨q,z⟩
  ·obtain⟨_,_,⟨v,c⟩,hn⟩:=Ez I q;exact⟨⟨v,c.keeps B⟩,hn⟩
  ·refine⟨⟨none,q⟩,I.hok.fresh ?_⟩;rw[cu]at z;ext
 refine⟨Qs I S O L,rfl,I.bare,Un.kept B,⟨_,G,λi x v h1 h2 h3=>?_⟩,λx c h=>(cells x c h).1,I.hok.fresh (av _),λx c h=>(cells x c h).2,λp hp=>bn (show p∈([]:List (ao×Obj)) from hp) (by simp),I.hok.kept B,?_⟩
 ·have U:N[i]?=some x:=h1;have g:(bq n none++ix.map λi=>(σ[i]?).join)[i]?=some (some v):=h2;have hi:n<=i:=qQ λz=>by rw[ax (by simpa using z),gh]at g;split at g<;>cases g
  rw[aS (by simpa using hi),fB,ar]at g;cases e:ix[i-n]? with
  |none=>rw[e]at g;cases g
  |some k=>
   rw[e]at g;have C:(σ[k]?).join=some v:=aE g;have O:σ[k]?=some (some v):=by
    cases q:σ[k]? with
    |none=>rw[q]at C;cases C
    |some o=>rw[q]at C;exact cR some C
   obtain⟨hN,l⟩:=T.cap (i-n) k x e (by rw[show n+(i-n)=i by ext];exact U);have J:=eI l;have Y:=S.free x J;obtain⟨m,hn,L⟩:=I.loc;obtain⟨u,G,H⟩:=L k x v hN O (by
    rcases Y with z|z
    ·exact .inr (.inl z)
    ·exact .inr (.inr z))
   have E:∃c,X.env.cells.lookup x=some c/\s.heap.IsCell c (some u):=by
    rcases H with ⟨z,_⟩|⟨_,c,Q,q⟩
    ·rcases Y with y|y<;>(rw[y]at z;cases z)
    ·exact⟨c,Q,q⟩
   obtain⟨c,Q,q⟩:=E;refine⟨u,G,.inr ⟨?_,c,?_,q.keeps B⟩⟩
   ·show (i8 scope X.env).names.lookup x=some .cell\/(i8 scope X.env).names.lookup x=some .free;rw[B4,l,du];by_cases h:(bK == bK&&X.env.scope.kind == .function&&X.env.kindOf x == some .cell)=true
    ·rw[aG h];exact .inl rfl
    ·rw[aC h];exact .inr rfl
   ·show (dB (s.heap.objs.size+1) scope.names (ko scope.names X.env.cells [])).lookup x=some c;rw[Hw _ _ _ (S.once x J)];exact EM Q scope.names [] (.inl J) λd hd=>by cases hd
 ·show (bq n none++ix.map λi=>(σ[i]?).join).length=N.length;rw[aH,fB,ae,T.len]
def va(C:TI)(n:Nat)(ix:List Nat)(g:TG)(E:TT)(G:TE):TE:=λσ H Q=>C σ H λJ B=>∀l,B l=none->∃W:Nat->Nat->St->Hp->Prop,(∃m,W 0 m (yN n ix σ) (ff B l (.lst []))) /\
 ∀i m σ' h,W i m σ' h->(J.stop i h/\Q (.ref l) h)\/(J.go i h/\∀x u,J.yld i h x u->g x σ' u λσ2 I=>E σ2 I λb q=>
  if b=true then G σ2 q λv o=>∃ys,o l=some (.lst ys)/\ys.length < sizeLine/\∃c,c < m/\W (i+1) c σ2 (ff o l (.lst (ys++[v]))) else ∃c,c < m/\W (i+1) c σ2 q)
def vq(X:Cx)(c:List Expr)(g:TT):Prop:=
 ∀(cp:List (ao×Obj))(s:am)(σ:St)(H:Hp)(Q:Bool->Hp->Prop),Inv X cp σ H s->g σ H Q->aD (aT X.prog X.w) X.A (zF c X.env) (TP X cp σ Q) X.xe s
theorem OV:vq X [] (λ_ H Q=>Q true H):=λcp s σ H Q I h=>wpAny_tests_nil ⟨H,I,h⟩
theorem Ux{c:Expr}{g:TT}(h:PT X c g):vq X [c] g:=λcp s σ H Q I q=>wpAny_tests_one (h cp s σ H Q I q)
structure u9(X:Cx)(cp:List (ao×Obj))(C:ao)(H:Hp)(s:am):Prop where
 ns:∃m,s.heap.Ns C m
 free:H C=none
 loc:C≠X.env.locals
 cell:∀x c,X.env.cells.lookup x=some c->c≠C
 sz:X.s₀.heap.objs.size<=C
 pin:∀p∈X.pn++cp,p.1≠C
theorem u9.go{C:ao}{h':bA}(c:u9 X cp C H s)(I:Inv X cp σ H s)(g:cz C s.heap h'):Inv X cp σ H { s with heap:=h' }:=
 I.turned (t':=s.toks) (λb o h e=>(g.2 b h).trans e) c.free c.loc (.inr c.sz) c.cell c.pin
theorem NH{elt B iter:Expr}{ifs:List Expr}{pos:Pos}{n:Nat}{ix:List Nat}{wi:TI}{g:TG}{tt:TT}{te:TE}{use:Option (ag->Sem Unit)}{Q:ag->am->Prop}{QH:VK}
  (hc:X.calm=true) (S:gX X scope) (T:ke X scope N n ix) (hi:PI X B iter wi)
  (blk:∀(fp:List ao)(s:am)(H:Hp),PG (oq X N scope fp s H) B g/\vq (oq X N scope fp s H) ifs tt/\PE (oq X N scope fp s H) elt te)
  (hs:∀x,fk iter X.env x=pure x) (I:Inv X cp σ H s) (h:va wi n ix g tt te σ H QH)
  (fin:∀(l C:ao)(G:Hp)(Y:am),Inv X cp σ G Y->QH (.ref l) G->u9 X cp C G Y->compPost (aT X.prog X.w) X.A X.xe use Q (.ref l) C (.ok .next) Y):
  aD (aT X.prog X.w) X.A (comprehension (.ListComp elt [⟨B,iter,ifs,0⟩] scope pos) scope X.env (firstIterPos [⟨B,iter,ifs,0⟩] pos) (newList []) false (eval iter X.env) use) Q X.xe s:=by
 have hclos:oh scope X.env=pure (ko scope.names X.env.cells []):=LP λx hx=>I.ok.has x (S.free x hx);refine wpAny_comprehension_free rfl hs hclos S.kind S.names ?_;refine fU (hi cp s σ H _ I h) λv s1 h1=>fU h1 λitv U h2=>?_;obtain⟨it,fp,tn,J,H2,rfl,I2,TT,st2,f2,rest⟩:=h2;refine b9 (hd:=by size_fits) ?_;have hf2:H2 U.heap.objs.size=none:=I2.hok.fresh (av _);obtain⟨W,⟨m0,w0⟩,turn⟩:=rest _ hf2;have fl:∀b∈fp,b < U.heap.objs.size:=λb E=>by obtain⟨o,e,_⟩:=TT.obj _ _ st2 b E;exact aI e
 have f3:∀b∈fp,nW X cp (ff H2 U.heap.objs.size (.lst [])) b:=λb E=>by obtain⟨f0,fr⟩:=f2 b E;refine⟨?_,fr⟩;rw[fO (bb (fl b E))];exact f0
 have I3:Inv X cp σ (ff H2 U.heap.objs.size (.lst [])) { U with heap:=U.heap.push { cls:=.type "list",dict:=none,data:=.seq ([]:List ag).toArray } }:=
  I2.laid (t':=U.toks) (λb o e=>ak _ e) (av _) ⟨bx _,[],0,.nil,ay _ rfl⟩
 have tn3:tn 0 (U.heap.push { cls:=.type "list",dict:=none,data:=.seq ([]:List ag).toArray }):=TT.keep _ _ _ st2 λb E o e=>ak _ e;have fl3:∀b∈fp,b < (U.heap.push { cls:=.type "list",dict:=none,data:=.seq ([]:List ag).toArray }).objs.size:=λb E=>by rw[cu];exact mn (fl b E)
 generalize U.heap.objs.size=l at *;generalize hs3:({ U with heap:=U.heap.push { cls:=.type "list",dict:=none,data:=.seq ([]:List ag).toArray } }:am)=L at *;have e3:U.heap.push { cls:=.type "list",dict:=none,data:=.seq ([]:List ag).toArray }=L.heap:=by rw[<- hs3]
 rw[e3]at tn3 fl3;generalize ff H2 l (.lst [])=O at *;refine Qi ?_;have I4:=Wg (N:=N) (n:=n) (ix:=ix) I3 S T f3 fl3;obtain⟨bg,bt,be⟩:=blk fp L O;have tn4:tn 0 (qz L.heap scope):=TT.keep _ _ _ tn3 λb E o e=>Ma _ _ _ _ e;have fr4:∀b∈fp,O b=none:=λb E=>(f3 b E).1
 show i6 (aT X.prog X.w) X.A (.compStart (.ListComp elt [⟨B,iter,ifs,0⟩] scope pos) 0 (.ref it) (.ref l) (oq X N scope fp L O).env) (compPost (aT X.prog X.w) X.A X.xe use Q (.ref l) L.heap.objs.size) { L with heap:=qz L.heap scope };have fpx:∀{σ':St}{G:Hp}{Y:am},Inv (oq X N scope fp L O) [] σ' G Y->(∀b∈fp,G b=none)->∀b∈fp,nW (oq X N scope fp L O) [] G b:=λI' hn b E=>by have q:=I'.ok.exf b E;exact⟨hn b E,q.1,I'.ok.exfs b E,.inl E,q.2,λp hp=>bn (show p∈([]:List (ao×Obj)) from hp) (by simp)⟩
 have hc':(oq X N scope fp L O).calm=true:=hc;have loop:i6 (aT X.prog X.w) X.A (.compLoop (.ListComp elt [⟨B,iter,ifs,0⟩] scope pos) 0 (.ref it) (.ref l) (oq X N scope fp L O).env) (compPost (aT X.prog X.w) X.A X.xe use Q (.ref l) L.heap.objs.size) { L with heap:=qz L.heap scope }:=by
  refine Sj (λk Y=>∃i σ' G,Inv (oq X N scope fp L O) [] σ' G Y/\tn i Y.heap/\(∀b∈fp,G b=none)/\W i k σ' G) ?_ m0 ⟨0,_,O,I4,tn4,fr4,w0⟩
  rintro k s5 ⟨i,σ5,H5,I5,tn5,fr5,w5⟩
  rcases turn i k σ5 H5 w5 with ⟨stop,q⟩|⟨go,step⟩
  ·refine fU (TT.done (oq X N scope fp L O) rfl rfl rfl hc' i [] s5 σ5 H5 yr I5 (fpx I5 fr5) tn5 stop) λr s6 h=>?_;obtain⟨hr,g⟩:=h;subst hr;have G:Inv X cp σ H5 s6:=I3.call' g.os g.base g.hok g.bare λb E=>by obtain⟨I,C,H,B,u,o⟩:=f3 b E;exact⟨B,C,u,o⟩
   obtain⟨m,hn,_⟩:=g.loc;refine fin l L.heap.objs.size H5 s6 G q ⟨⟨m,hn⟩,g.free,dj I3.lt,λx c e=>?_,I3.sz,λp hp=>?_⟩
   ·obtain⟨v,z⟩:=I3.cell x c e;exact bb z.lt
   ·exact bb (aI (I3.pin p hp).1)
  ·refine fU (TT.item (oq X N scope fp L O) rfl rfl rfl hc' i [] s5 σ5 H5 yr I5 (fpx I5 fr5) tn5 go) λr s6 I=>?_;obtain⟨u,hr,h6⟩:=I;subst hr;refine fU h6 λ_ s7 H=>?_;obtain⟨x,H7,I7,r7,y7,c,fr7⟩:=H;have I7':=I7.pinned (fpx I7 fr7) (TT.obj _ _ c);refine fU (bg _ s7 σ5 H7 x u _ I7' r7 (step x H7 y7)) λ_ s8 C=>?_;obtain⟨σ8,H8,I8,q8⟩:=C;refine fU (bt _ s8 σ8 H8 _ I8 q8) λok s9 B=>?_;obtain⟨H9,I9,q9⟩:=B;have again : ∀{Y : am}{G : Hp}, Inv (oq X N scope fp L O) ([] ++ lO fp s7.heap) σ8 G Y -> (∃Q, Q < k /\ W (i+1) Q σ8 G) ->
     ∃m,m < k/\∃i σ' G,Inv (oq X N scope fp L O) [] σ' G Y/\tn i Y.heap/\(∀b∈fp,G b=none)/\W i m σ' G:=λ{Y G}I' q=>by
    obtain⟨Q,hm,w'⟩:=q;refine⟨Q,hm,i+1,σ8,G,I'.unpinned,TT.keep _ _ _ c λb E o e=>(I'.pin (b,o) (bo _ (bo _ (CL E e)))).1,λb E=>?_,w'⟩;obtain⟨o,e,d⟩:=TT.obj _ _ c b E;exact (I'.pin (b,o) (bo _ (bo _ (CL E e)))).2.1
   cases ok with
   |false=>exact again I9 q9
   |true=>
    refine fU (be _ s9 σ8 H9 _ I9 q9) λxv U h=>?_;obtain⟨v,J,I10,r10,ys,hy,hz,q10⟩:=h;refine fU (Mk (X:=oq X N scope fp L O) _ U σ8 J (.ref l) [v] (.ref l) [xv] (λ_ G=>G=ff J l (.lst (ys++[v]))) I10 rfl (.cons r10 .nil) ⟨l,ys,v,rfl,rfl,hy,hz,rfl⟩) λ_ s11 g=>?_;obtain⟨_,H11,I11,_,e⟩:=g;subst e;exact again I11 q10
 exact codeAny_compStart_list loop (TT.self _ 0 _ _ _ tn4 loop)
theorem VF{v o iter:Expr}{u:List Expr}{pos:Pos}{n:Nat}{ix:List Nat}{G:TI}{g:TG}{J:TT}{L:TE}
  (hc:X.calm=true) (S:gX X scope) (T:ke X scope N n ix) (Y:PI X o iter G)
  (E:∀(fp:List ao)(s:am)(H:Hp),PG (oq X N scope fp s H) o g/\vq (oq X N scope fp s H) u J/\PE (oq X N scope fp s H) v L)
  (O:∀x,fk iter X.env x=pure x:=by intro _;rfl):PE X (.ListComp v [⟨o,iter,u,0⟩] scope pos) (va G n ix g J L):=by
 intro cp s σ H Q I h;rw[eval_ListComp];refine NH (use:=none) hc S T Y E O I h λl C H' s' I' q c=>?_;obtain⟨m,U⟩:=c.ns;exact⟨m,U,λh' B=>⟨.ref l,H',c.go I' B,rfl,q⟩⟩
theorem UV{E o iter:Expr}{B:List Expr}{pos u G:Pos}{n i:Nat}{ix:List Nat}{wi:TI}{g:TG}{tt:TT}{te:TE}{x:Str}
  (hN:X.N.Nodup) (Y:X.N[i]?=some x) (hx:L2.Loc X.env.scope x) (hf:X.fn x=true\/X.env.scope.names.lookup x=some .local)
  (hc:X.calm=true) (S:gX X scope) (T:ke X scope N n ix) (hi:PI X o iter wi)
  (blk:∀(fp:List ao)(s:am)(H:Hp),PG (oq X N scope fp s H) o g/\vq (oq X N scope fp s H) B tt/\PE (oq X N scope fp s H) E te)
  (O:ki (.ListComp E [⟨o,iter,B,0⟩] scope pos) (some (.Name x u)) G.line X.env=pure true)
  (hs:∀x,fk iter X.env x=pure x:=by intro _;rfl):PS X (.Assign [.Name x u] (.ListComp E [⟨o,iter,B,0⟩] scope pos) G) (yO (va wi n ix g tt te) (tP i)):=by
 intro cp s σ H D I h;rw[exec_Assign_Name_used _ _ _ _ O];refine ab (vJ (ab ?_))
 show aD _ _ (comprehension (.ListComp E [⟨o,iter,B,0⟩] scope pos) scope X.env _ (newList []) false (eval iter X.env) (some (n8 (.Name x u) X.env)) >>= λ_=>pure ()) _ _ s;refine ab (fI (NH (use:=some (n8 (.Name x u) X.env)) (Q:=λ_ L=>SP X cp D .next L) hc S T hi blk hs I h λl C H' L I' q c=>?_) (λ_ L hq=>ah (ah hq)) λ_ _ e=>e);obtain⟨m,hn⟩:=c.ns;refine Ce (Kx I' hN Y hx (v:=.ref l) rfl (λs2 I2 ⟨b,hb,hb2⟩=>?_) hf);have J:b≠C:=by
  rcases hb2 with z|z
  ·rw[z];exact c.loc.symm
  ·exact c.cell x b z
 refine⟨m,hn.sameBut hb J.symm,λh' U=>⟨_,H',?_,q⟩⟩;exact u9.go ⟨⟨m,hn.sameBut hb J.symm⟩,c.free,c.loc,c.cell,c.sz,c.pin⟩ I2 U
end
section
variable{X:Cx}{a b c e:Expr}{es:List Expr}{pos:Pos}{fa fb fc:CE}{ca cb:CA}{K:aj}{ρ:List ao}{H:Hp}{st:aZ}
theorem zu{K:aj}{g:D->D->M D}{x y:V}{H:Hp}{Q:VK}(B:∀d e,(∃i j,d=D.int i/\e=D.int j)\/g d e=bad)(h:pW K g x y H Q):
  ∃(i j:Int)(ρ:List ao)(st:aZ),x=.int i/\y=.int j/\SR K ρ H st/\aN K ρ H (g (.int i) (.int j) st) (λr _ ρ' l=>∀v,dA K ρ' l v r->Q v l):=by
 obtain⟨ρ,st,d,e,o,u,q,p⟩:=h;rcases B d e with ⟨i,j,G,E⟩|C
 ·subst G E;cases u;cases q;exact⟨_,_,ρ,st,rfl,rfl,o,p⟩
 ·rw[C]at p;exact p.elim
theorem Uf:OpR X (eZ .Sub) (pW X.K sC):=UR.of λx y H Q h=>by obtain⟨i,j,ρ,st,rfl,rfl,g,p⟩:=zu (by intro d e;cases d<;>cases e<;>first|exact .inl ⟨_,_,rfl,rfl⟩|exact .inr rfl) h;exact⟨_,_,rfl,rfl,p.ret g _ (.int _)⟩
theorem Pu:OpR X (eZ .Mult) (pW X.K rD):=Sv.of λx y H Q h=>by obtain⟨i,j,ρ,st,rfl,rfl,g,p⟩:=zu (by intro d e;cases d<;>cases e<;>first|exact .inl ⟨_,_,rfl,rfl⟩|exact .inr rfl) h;exact⟨_,_,rfl,rfl,p.chk.1,p.chk.2.ret g _ (.int _)⟩
theorem Ve:OpR X (eZ .FloorDiv) (pW X.K r6):=Qz.of λx y H Q h=>by obtain⟨i,j,ρ,st,rfl,rfl,g,p⟩:=zu (by intro d e;cases d<;>cases e<;>first|exact .inl ⟨_,_,rfl,rfl⟩|exact .inr rfl) h;exact⟨_,_,rfl,rfl,p.chk.1,p.chk.2.ret g _ (.int _)⟩
theorem O5:OpR X (eZ .Mod) (pW X.K oT):=Pb.of λx y H Q h=>by obtain⟨i,j,ρ,st,rfl,rfl,g,p⟩:=zu (by intro d e;cases d<;>cases e<;>first|exact .inl ⟨_,_,rfl,rfl⟩|exact .inr rfl) h;exact⟨_,_,rfl,rfl,p.chk.1,p.chk.2.ret g _ (.int _)⟩
theorem Wn:OpR X (eZ .Pow) (pW X.K wW):=RN.of λx y H Q h=>by obtain⟨i,j,ρ,st,rfl,rfl,g,p⟩:=zu (by intro d e;cases d<;>cases e<;>first|exact .inl ⟨_,_,rfl,rfl⟩|exact .inr rfl) h;exact⟨_,_,rfl,rfl,p.chk.1,p.chk.2.ret g _ (.int _)⟩
theorem W8:OpR X (cX .Lt) (pW X.K yD):=Ss.of λx y H Q h=>by obtain⟨i,j,ρ,st,rfl,rfl,g,p⟩:=zu (by intro d e;cases d<;>cases e<;>first|exact .inl ⟨_,_,rfl,rfl⟩|exact .inr rfl) h;exact⟨_,_,rfl,rfl,p.ret g _ (.bl _)⟩
theorem Wl:OpR X (cX .Gt) (pW X.K xD):=Pn.of λx y H Q h=>by obtain⟨i,j,ρ,st,rfl,rfl,g,p⟩:=zu (by intro d e;cases d<;>cases e<;>first|exact .inl ⟨_,_,rfl,rfl⟩|exact .inr rfl) h;exact⟨_,_,rfl,rfl,p.ret g _ (.bl _)⟩
theorem Wm:OpR X (cX .GtE) (pW X.K FT):=Vn.of λx y H Q h=>by obtain⟨i,j,ρ,st,rfl,rfl,g,p⟩:=zu (by intro d e;cases d<;>cases e<;>first|exact .inl ⟨_,_,rfl,rfl⟩|exact .inr rfl) h;exact⟨_,_,rfl,rfl,p.ret g _ (.bl _)⟩
theorem GY:SA X [] bh:=uz.of λσ H Q h=>h.el λρ l st o g p=>p.ret g [] .nil
theorem GU(Y:SE X e fa)(U:SA X es ca)(O:starEach (e::es) X.env=(false,eval e X.env)::starEach es X.env:=by rfl):SA X (e::es) (aw fa ca):=
 (qA Y U O).of λσ H Q c=>c.el λρ l st o C p=>⟨ρ,l,st,o,C,p.bnd.imp λd g ρ1 H1 u G L v I=>⟨ρ1,l,g,o.mono u,G,L.bnd.imp λds B ρ2 H2 q E J vs h=>J.ret E _ (.cons (I.mono q) h)⟩⟩
theorem T2{k:Nat}(h:SA X es ca):SE X (.Tuple es k pos) (dU ca):=(U5 h).of λσ H Q J=>J.el λρ l st G v p=>⟨ρ,l,st,G,v,p.bnd.imp λds u ρ1 U L B E O g=>by obtain⟨I,C⟩:=E.chk;refine⟨by rw[g.length];exact I,λq o=>?_⟩;exact C ρ1 _ (Ex.new o) (B.new o) _ (.tup (iT.of kh) (g.mono (Ex.new o)))⟩
theorem RW(h:SA X es ca):SL X (.List es pos) (gg ca):=(Qe h).of λσ H Q Y=>Y.el λρ l st L G p=>⟨ρ,l,st,L,G,p.bnd.imp λds E ρ1 c B v J C g=>by
 obtain⟨U,I⟩:=J.chk;refine⟨by rw[g.length];exact U,λq u=>?_⟩;have O:H q=none:=by
  cases z:H q with
  |none=>rfl
  |some o=>exact bn u (B.trk q o z)
 exact I ρ1 _ (Ex.new u) (v.new u) q C O (v.fresh u) kh (g.mono (Ex.new u))⟩
theorem aN.bnd0{α β:Type}{m:M α}{f:α->M β}{R:β->aZ->List ao->Hp->Prop}(h:aN K ρ H (MM.bnd m f st) R):aN K ρ H (m st) λa g _ _=>aN K ρ H (f a g) R:=by
 unfold MM.bnd at h;cases e:m st with
 |ok a s'=>
  rw[e]at h;exact λρ' l y s=>h
 |exc _ _=>rw[e]at h;exact h
 |bad=>rw[e]at h;exact h
theorem VW(h:SL X e ca):SE X e (eK ca):=h.of λσ H Q O=>O.el λρ l st J E p=>⟨ρ,l,st,J,E,p.bnd0.imp λds C ρ1 B o u G a U L I v q=>by
 have x:Ex ρ H (ρ1++[a]) B:=by
  obtain⟨τ,e,f⟩:=o.pre;refine⟨⟨τ++[a],by rw[e,bQ],λb g=>?_⟩,o.fix,o.oth,o.knd⟩;rcases aX.mp g with g|g
  ·exact f b g
  ·rw[aJ]at g;rw[g];exact L
 refine G (ρ1++[a]) B x (u.keep v I q) _ (.ref ⟨_,v,rfl⟩ ?_);rw[<- u.len];simp⟩
theorem _root_.L2.IxR.of{r C:R2}(h:IxR X r)(g:∀x y H Q,C x y H Q->r x y H Q):IxR X C:=λl o B s σ H x y v u Q I G E q J=>h l o B s σ H x y v u Q I G E (g x y H Q q) J
theorem aN.item{ds:List D}{i:Int}{R:D->aZ->List ao->Hp->Prop}(h:aN K ρ H (cG ds i st) R)(s:SR K ρ H st):∃k d,L2.my ds.length i=some k/\ds[k]?=some d/\R d st ρ H:=by
 unfold cG at h;cases e:MM.my ds.length i with
 |none=>rw[e]at h;exact h.elim
 |some k=>
  rw[e]at h;cases g:ds[k]? with
  |none=>dsimp only at h;rw[g]at h;exact h.elim
  |some d=>dsimp only at h;rw[g]at h;exact⟨k,d,e,g,h.ret s⟩
theorem Et{g:List V}{ds:List D}{i:Int}{k:Nat}{d:D}(r:bT K ρ H g ds)(o:L2.my ds.length i=some k)(l:ds[k]?=some d):∃v,vw g i=some v/\dA K ρ H v d:=by obtain⟨v,e,h⟩:=r.get l;refine⟨v,?_,h⟩;unfold vw;rw[r.length,o];exact e
theorem aN.itemK{n:Nat}{k:D}{R:D->aZ->List ao->Hp->Prop}(h:aN K ρ H (MM.itemK n k st) R)(s:SR K ρ H st):∃b g d,st[n]?=some (.dct b g)/\m5 b k=true/\lV g k=some d/\R d st ρ H:=by
 obtain⟨b,g,e,q⟩:=aN.getDc (aN.bnd h) s;obtain⟨u,l⟩:=aN.chk q;cases o:lV g k with
 |none=>dsimp only at l;rw[o]at l;exact l.elim
 |some d=>dsimp only at l;rw[o]at l;exact⟨b,g,d,e,u,o,l.ret s⟩
theorem rA.dictIs{X:Cx}{h:List (ao×Obj)}{σ:St}{s:am}{a:ao}{b:Bool}{l:List (D×D)}(I:Inv X h σ H s)(g:rA X.K ρ H a (.dct b l)):s.TypeIs (.ref a) "dict":=by
 cases b with
 |false=>
  obtain⟨es,e,r⟩:=g;obtain⟨_,_,q,_,o⟩:=MR I.hok e;exact o.typeIs
 |true=>
  obtain⟨es,e,r⟩:=g;obtain⟨_,_,xs,_,o,_⟩:=v9 I e r;exact o.typeIs
theorem Sg(hu:X.A.units+60 < cA):IxR X (λx y H Q=>∃(ρ:List ao)(st:aZ)(n:Nat)(a:ao)(b:Bool)(l:List (D×D))(k d:D),x=.ref a/\SR X.K ρ H st/\ρ[n]?=some a/\st[n]?=some (.dct b l)/\dA X.K ρ H y k/\m5 b k=true/\lV l k=some d/\∀v,dA X.K ρ H v d->Q v H):=by intro o B E s σ H x y v u Q I L J h Y;obtain⟨ρ,st,n,a,b,l,k,d,ex,G,ha,c,U,hk,hl,q⟩:=h;subst ex;cases L;have g:=G.ob n a _ ha c;exact yX (rA.dictIs I g) PySem.F.slot_dict_getitem.lookup (Wu (by ext) I g U hk hl J λv w' s' I' O C=>⟨v,H,I',C,q v O⟩) Y
theorem So{x y:V}{d e:D}{Q:VK}(l:SR K ρ H st)(L:dA K ρ H x d)(J:dA K ρ H y e)(hd:∀n,d≠.dic n)(p:aN K ρ H (aU d e st) λr _ ρ' I=>∀v,dA K ρ' I v r->Q v I):KH K x y H Q:=by
 cases J with
 |int i=>
  cases L with
  |dic _ _=>exact bn rfl (hd _)
  |tup h r=>
   obtain⟨k,d,C,B,q⟩:=aN.item p l;obtain⟨v,u,o⟩:=Et r C B;exact .inr (.inl ⟨_,_,i,v,rfl,rfl,h,u,q v o⟩)
  |lit h r=>
   obtain⟨k,d,C,B,q⟩:=aN.item p l;obtain⟨v,u,o⟩:=Et r C B;exact .inl ⟨_,_,i,v,rfl,rfl,h.seq,u,q v o⟩
  |ref _ h=>
   obtain⟨xs,e,g⟩:=aN.getL (aN.bnd p) l;obtain⟨a,U,G,O,r⟩:=l.seq e;rw[h]at G;cases G;obtain⟨k,d,C,B,q⟩:=aN.item g l;obtain⟨v,u,o⟩:=Et r C B;exact .inl ⟨_,_,i,v,rfl,rfl,gY.of O,u,q v o⟩
  |str z=>
   obtain⟨hz,g⟩:=aN.chk p;cases e:MM.my z.length i with
   |none=>rw[e]at g;exact g.elim
   |some k=>
    rw[e]at g;cases E:z.cps.toList[k]? with
    |none=>dsimp only at g;rw[E]at g;exact g.elim
    |some c=>
     dsimp only at g;rw[E]at g;refine .inr (.inr ⟨z,i,c,rfl,rfl,hz,?_,g.ret l _ (.str _)⟩);unfold vw;rw[show z.cps.toList.length=z.length by simp[Str.length]]
     show (L2.my z.length i).bind _=_;rw[show L2.my z.length i=some k from e];exact E
  |_=>exact p.elim
 |_=>cases d<;>first|exact bn rfl (hd _)|exact p.elim
theorem Qp(hu:X.A.units+60 < cA):IxR X (pW X.K aU):=(WJ.or (Sg hu)).of λx y H Q g=>by
 obtain⟨ρ,st,d,e,l,B,o,p⟩:=g;by_cases hd:∃n,d=.dic n
 ·obtain⟨n,rfl⟩:=hd;cases B with
  |@dic a n _ h=>
   have E:aN X.K ρ H (itemK n e st) λr _ ρ' C=>∀(v:V),dA X.K ρ' C v r->Q v C:=by cases o<;>exact p
   obtain⟨b,u,d,J,I,G,q⟩:=aN.itemK E l;exact .inr ⟨ρ,st,n,a,b,u,e,d,rfl,l,h,J,o,I,G,q⟩
 ·exact .inl (So l B o (λn z=>hd ⟨n,z⟩) p)
theorem VX(hu:X.A.units+60 < cA)(o:SE X a fa)(l:SE X b fb)(g:qh b):SE X (.Subscript a b pos) (c2 aU fa fb):=(K6 (Qp hu) o l g).of (F2 λ_ _ _ _ h=>h)
theorem VV(G:SL X a ca)(hb:SE X b fb)(hs:qh b):SE X (.Subscript a b pos) (mz ca fb):=(K6 Md G hb hs).of λσ H Q h_=>h_.el λρ l st E L p=>
 ⟨ρ,l,st,E,L,p.bnd.imp λds g ρ1 H1 I U p1 a B G na hv h=>⟨ρ1,l,g,E.mono I,U,p1.bnd.imp λe J ρ2 H2 o O C u c=>by
  cases c with
  |int i=>
   obtain⟨k,d,h1,h2,q⟩:=aN.item C O;obtain⟨v,h3,Y⟩:=Et (h.mono o) h1 h2;exact⟨a,B,i,v,rfl,rfl,gY.of (o.lst a B na hv),h3,q v Y⟩
  |_=>exact C.elim⟩⟩
theorem T3{E:wn}{k n:Nat}{f:ao}{C:dG}{B:List Str}{g:List D->M D}{x:Str}{p:Pos}(F:m7 X.prog X.w X.K X.mg X.base E k f C B (n0 X.K n g))(L:iU k X.A)(c:Gl X x)(U:X.mg x=some (.ref f))
  (Y:dm X.K (.ref f)=true) (hb:Binds X.K C B []) (J:sD E X E0) (ha:SA X (e::es) ca) (O:∀l st ds o,ca l st=.ok ds o->ds.length=n) (v:(x == ("__debug__":Str))=false:=by decide)
  (he:starEach (e::es) X.env=(false,eval e X.env)::starEach es X.env:=by rfl) (u:(backTo pos (starEach es X.env)).any (·.1)=false:=by rfl):SE X (.Call (.Name x p) (e::es) [] pos) (bW g ca):=
 (Kv F L c U Y hb .nil J ha v he u).of λσ H Q h_=>h_.el λρ l st I G p=>⟨ρ,l,st,I,G,by
  have q:=aN.bnd p;cases h:ca l st with
  |bad=>rw[h]at q;exact q
  |exc _ _=>rw[h]at q;exact q
  |ok ds eg=>
   rw[h]at q;intro ρ1 H1 x1 s1 vs rvs;refine⟨by rw[bI,rvs.length];exact O l st ds eg h,ρ1,eg,ds,s1,by rw[bI];exact rvs,q ρ1 H1 x1 s1⟩⟩
variable{ta tb:CT}
theorem Ta{d:D}{v:V}{R:Bool->aZ->List ao->Hp->Prop}(p:aN K ρ H (yF d st) R)(l:SR K ρ H st)(q:dA K ρ H v d):∃k,Bj K v H k/\R k st ρ H:=by
 cases q with
 |non=>exact⟨false,rfl,p.ret l⟩
 |bl b=>exact⟨b,rfl,p.ret l⟩
 |int i=>exact⟨_,rfl,p.ret l⟩
 |str x=>exact⟨_,⟨(aN.chk p).1,rfl⟩,(aN.chk p).2.ret l⟩
 |@tup a g ds h r=>
  refine⟨!g.isEmpty,.inr (.inl ⟨g,h,rfl⟩),?_⟩;have:g.isEmpty=ds.isEmpty:=by have:=r.length;cases g<;>cases ds<;>simp_all
  rw[this];exact p.ret l
 |@lit a g ds h r=>
  refine⟨!g.isEmpty,.inl ⟨g,h.seq,rfl⟩,?_⟩;have:g.isEmpty=ds.isEmpty:=by have:=r.length;cases g<;>cases ds<;>simp_all
  rw[this];exact p.ret l
 |ref _ h=>
  obtain⟨ds,e,u⟩:=aN.getL (aN.bnd p) l;obtain⟨a,g,o,B,r⟩:=l.seq e;rw[h]at o;cases o;refine⟨!g.isEmpty,.inl ⟨g,gY.of B,rfl⟩,?_⟩;have:g.isEmpty=ds.isEmpty:=by have:=r.length;cases g<;>cases ds<;>simp_all
  rw[this];exact u.ret l
 |_=>exact p.elim
theorem Ph(E:SE X a fa)(C:∀whole,isTrue a X.env whole=(do let v <- whole;wY a.pos;kq [v] (truthy v)):=by intro _;rfl):ST X a (pd fa):=
 (QJ E C).of λσ H Q G=>G.el λρ l st B h p=>⟨ρ,l,st,B,h,p.bnd.imp λd g ρ1 J I o u v q=>Ta u o q⟩
theorem Vr{op:sX}{g:D->D->M D}(G:OpR X (cX op) (pW X.K g))(L:SE X a fa)(J:SE X b fb)(I:iV op b=false):ST X (.Compare a [op] [b] pos) (di (c2 g fa fb)):=
 (UO G L J I).of λσ H Q O=>O.el λρ l st E u p=>F2 (X:=X) (λ_ _ _ _ h=>h) _ _ _ ⟨ρ,l,st,E,u,p.bnd.imp λd q ρ1 Y U B o v C=>by
  cases C with
  |bl k=>exact⟨k,rfl,o.ret B⟩
  |_=>exact o.elim⟩
theorem Oq(g:ST X a ta):PW X (.BoolOp .And [a] pos) (pX X.K ta):=Sl g
theorem Uy(g:ST X a ta):PW X (.BoolOp .Or [a] pos) (pX X.K ta):=V1 g
theorem _root_.L2.PW.of{e:Expr}{t t':TT}(h:PW X e t)(f:∀σ H Q,t' σ H Q->t σ H Q):PW X e t':=λwhole g s σ H Q I q=>h whole g s σ H Q I (f σ H Q q)
theorem Ou{rest:List Expr}(C:ST X a ta)(B:PW X (.BoolOp .And (b::rest) pos) (pX X.K tb)):PW X (.BoolOp .And (a::b::rest) pos) (pX X.K (oK ta tb)):=
 (Tn C B).of λσ H Q E=>E.el λρ l st q v p=>⟨ρ,l,st,q,v,p.bnd.imp λc g ρ1 G u h o=>by
  cases c with
  |true=>exact⟨ρ1,l,g,q.mono u,h,o⟩
  |false=>exact o.ret h⟩
theorem Wt{rest:List Expr}(C:ST X a ta)(B:PW X (.BoolOp .Or (b::rest) pos) (pX X.K tb)):PW X (.BoolOp .Or (a::b::rest) pos) (pX X.K (rm ta tb)):=
 (QY C B).of λσ H Q E=>E.el λρ l st q v p=>⟨ρ,l,st,q,v,p.bnd.imp λc g ρ1 G u h o=>by
  cases c with
  |true=>exact o.ret h
  |false=>exact⟨ρ1,l,g,q.mono u,h,o⟩⟩
theorem Wj(v:ST X a ta):ST X (.UnaryOp .Not a pos) (nM ta):=(P0 v).of λσ H Q B=>B.el λρ l st u h p=>⟨ρ,l,st,u,h,p.bnd.imp λc g ρ1 E C o q=>q.ret o⟩
theorem LH{op:BoolOp}(h:SE X a fa):SE X (.BoolOp op [a] pos) fa:=UW h
theorem O6{rest:List Expr}(G:SE X a fa)(E:SE X (.BoolOp .And (b::rest) pos) fb):SE X (.BoolOp .And (a::b::rest) pos) (sI fa fb):=
 (OK G E).of λσ H Q I=>I.el λρ l st q B p=>⟨ρ,l,st,q,B,p.bnd.imp λd g ρ1 J u o h v C=>by
  cases C with
  |bl c=>
   refine⟨c,rfl,?_⟩;cases c with
   |true=>exact⟨ρ1,l,g,q.mono u,o,h⟩
   |false=>exact h.ret o _ (.bl false)
  |_=>exact h.elim⟩
theorem WB{rest:List Expr}(G:SE X a fa)(E:SE X (.BoolOp .Or (b::rest) pos) fb):SE X (.BoolOp .Or (a::b::rest) pos) (BU fa fb):=
 (PU G E).of λσ H Q I=>I.el λρ l st q B p=>⟨ρ,l,st,q,B,p.bnd.imp λd g ρ1 J u o h v C=>by
  cases C with
  |bl c=>
   refine⟨c,rfl,?_⟩;cases c with
   |true=>exact h.ret o _ (.bl true)
   |false=>exact⟨ρ1,l,g,q.mono u,o,h⟩
  |_=>exact h.elim⟩
theorem UJ(C : SE X a fa): SE X (.UnaryOp .Not a pos) (wo fa) := (UK C).of λσ H Q E => E.el λρ l st B o p => ⟨ρ, l, st, B, o, p.bnd.imp λd h ρ1 I G q g v u => by
  cases u with
  |bl c=>exact⟨c,rfl,g.ret q _ (.bl _)⟩
  |_=>exact g.elim⟩
theorem UC(B : ST X c ta)(E : SE X a fa)(C : SE X b fb): SE X (.IfExp c a b pos) (wt ta fa fb) := (TH B E C).of λσ H Q G => G.el λρ l st h v p => ⟨ρ, l, st, h, v, p.bnd.imp λk g ρ1 I o q u => by
  cases k with
  |true=>exact⟨ρ1,l,g,h.mono o,q,u⟩
  |false=>exact⟨ρ1,l,g,h.mono o,q,u⟩⟩
end
theorem LR.set{K:aj}{ρ:List ao}{H:Hp}{σ:St}{l:Loc}{v:V}{d:D}(h:LR K ρ H σ l)(i:Nat)(r:dA K ρ H v d):LR K ρ H (σ.set i (some v)) (l.set i (some d)):=by
 refine⟨by simp[h.1],λj e q=>?_⟩;by_cases z:i=j
 ·subst z;by_cases c:i < l.length
  ·rw[au c]at q;cases q;exact⟨v,by rw[au (by rw[h.1];exact c)],r⟩
  ·rw[dh (by simp;ext)]at q;cases q
 ·rw[af z]at q;obtain⟨w,o,g⟩:=h.2 j e q;exact⟨w,by rw[af z];exact o,g⟩
theorem LR.start{K:aj}{ρ:List ao}{H:Hp}{N:List Str}{c:List V}{ds:List D}(r:bT K ρ H c ds):LR K ρ H (L2.start N c) (ds.map some++bq (N.length-ds.length) none):=by
 have o:=r.length;unfold L2.start;refine⟨by simp[o],λi d e=>?_⟩;by_cases g:i < ds.length
 ·rw[ax (by simpa using g),ar]at e;cases q:ds[i]? with
  |none=>rw[q]at e;cases e
  |some d'=>
   rw[q]at e;have u:d'=d:=aE (aE e);subst u;obtain⟨v,l,h⟩:=r.get q;refine⟨v,?_,h⟩;rw[ax (by simp;ext),ar,l];rfl
 ·rw[aS (by simpa using g),gh]at e;split at e<;>cases e
section
variable{X:Cx}{a b c e tg:Expr}{es:List Expr}{s:fH}{ss:List fH}{pos:Pos}{fa fb fc:CE}{ca cb:CA}{ta tb:CT}{cs cr:CS}{K:aj}{ρ:List ao}{H:Hp}{st:aZ}
abbrev SG(X:Cx)(e:Expr)(g:CG):Prop:=PG X e (yH X.K g)
abbrev Ac(X:Cx)(e:List Expr)(g:List D->Loc->M Loc):Prop:=PGs X e (Cw X.K g)
theorem R9{i:Nat}{x:Str}(h:PG X (.Name x pos) (tP i)):SG X (.Name x pos) (aQ i):=h.of λv σ H Q g=>by obtain⟨ρ,l,st,d,u,o,q,p⟩:=g;exact p.ret o _ (u.set i q)
theorem Va:Ac X [] hU:=PP.of λu σ H Q g=>by
 obtain⟨ρ,l,st,ds,q,o,h,p⟩:=g;cases h with
 |nil=>exact⟨rfl,p.ret o σ q⟩
 |cons _ _=>exact p.elim
theorem Pq{g:CG}{r:List D->Loc->M Loc}(O:SG X e g)(L:Ac X es r)(J:(dE (e::es) X.env).map (·.2)=n8 e X.env::(dE es X.env).map (·.2):=by rfl):Ac X (e::es) (cJ g r):=
 (QF O L J).of λU σ H Q h=>by
  obtain⟨ρ,l,st,ds,G,B,q,p⟩:=h;cases q with
  |nil=>exact p.elim
  |cons rv rt=>exact⟨_,_,rfl,ρ,l,st,_,G,B,rv,(aN.bnd p).imp λI o ρ1 Y v C E σ1 u=>⟨ρ1,I,o,_,u,C,rt.mono v,E⟩⟩
theorem Ww{k n:Nat}{r:List D->Loc->M Loc}(E:X.calm=true)(h:Ac X es r)(C:(dE es X.env).length=n:=by rfl)(o:(dE es X.env).findIdx? (·.1)=none:=by rfl):SG X (.Tuple es k pos) (gQ n r):=
 (OA E h C o).of λv σ H Q g=>by
  obtain⟨ρ,l,st,d,B,q,u,p⟩:=g;cases u with
  |tup h r=>exact⟨_,_,rfl,h,by rw[r.length];exact (aN.chk p).1,ρ,l,st,_,B,q,r,(aN.chk p).2⟩
  |_=>exact p.elim
theorem SQ:ww X [] aW:=VU.of λG σ H o=>o.el λρ l st h g p=>p.ret g σ h
theorem Ro(E:SS X s cs)(C:ww X ss cr):ww X (s::ss) (aO cs cr):=(Sa E C).of λG σ H B=>B.el λρ l st v u p=>⟨ρ,l,st,v,u,p.bnd.imp λf o ρ1 J I g h=>by
 cases f with
 |next l'=>exact λσ' q=>⟨ρ1,l',o,q,g,h⟩
 |ret d=>exact h.ret g
 |brk l'=>exact h.ret g
 |cnt l'=>exact h.ret g⟩
theorem WH:SS X s AY:=SU.of λG σ H g=>g.el λρ l st o h p=>p.elim
theorem PR(h:SE X e fa):SS X (.Return (some e) pos) (eV fa):=(Pa h).of λG σ H E=>E.el λρ l st C o p=>⟨ρ,l,st,C,o,p.bnd.imp λd g ρ1 J I q B v u=>B.ret q v u⟩
theorem Oi(h:SE X e fa)(E:ki e none pos.line X.env=pure false:=by rfl):SS X (.Expr e pos) (iA fa):=(VC h E).of λG σ H I=>I.el λρ l st g u p=>
 ⟨ρ,l,st,g,u,p.bnd.imp λd q ρ1 L o B C v J=>C.ret B σ (g.mono o)⟩
theorem Te(B:ST X c ta)(E:ww X ss cs){h:List fH}(C:ww X h cr):SS X (.If c ss h pos) (np ta cs cr):=(P4 B E C).of λG σ H I=>I.el λρ l st o h p=>
 ⟨ρ,l,st,o,h,p.bnd.imp λk g ρ1 J q u v=>by
  cases k with
  |true=>exact⟨ρ1,l,g,o.mono q,u,v⟩
  |false=>exact⟨ρ1,l,g,o.mono q,u,v⟩⟩
theorem HH{g:CG}{q:TE}{tg:TG}(c:∀σ H Q,zG X.K fa σ H Q->q σ H Q)(Y:∀v σ H Q,yH X.K g v σ H Q->tg v σ H Q):∀G σ H,wR X.K (cf g fa) G σ H->yO q tg G σ H:=λG σ H h_=>h_.el λρ l st u E p=>
 c _ _ _ ⟨ρ,l,st,u,E,p.bnd.imp λd h ρ1 H1 B J U v L=>Y _ _ _ _ ⟨ρ1,l,h,d,u.mono B,J,L,U.bnd.imp λl2 C ρ2 H2 x2 I O σ2 o=>O.ret I σ2 o⟩⟩
theorem Kz{i:Nat}:∀v σ H Q,yH X.K (aQ i) v σ H Q->tP i v σ H Q:=λv σ H Q g=>by obtain⟨ρ,l,st,d,q,h,o,p⟩:=g;exact p.ret h _ (q.set i o)
theorem PX{i : Nat}{x : Str}{g : Pos}(hN : X.N.Nodup)(q : X.N[i]? = some x)(l : L2.Loc X.env.scope x)(v : SE X e fa)(o : ki e (some (.Name x g)) pos.line X.env = pure false := by rfl)
  (u:X.fn x=true\/X.env.scope.names.lookup x=some .local:=by first|exact .inl rfl|exact .inr rfl|assumption):SS X (.Assign [.Name x g] e pos) (cf (aQ i) fa):=
 (Qq hN q l v o u).of (HH (λ_ _ _ h=>h) Kz)
theorem Lf{g : CG}(u : SE X e fa)(q : SG X tg g)(o : swapsWithSole [tg] e pos.line X.env = pure false := by rfl)(l : swappedStores [tg] e X.env = pure none := by rfl)
  (v:(dE [tg] X.env).map (·.2)=[n8 tg X.env]:=by rfl):SS X (.Assign [tg] e pos) (cf g fa):=(Tq u q o l v).of (HH (λ_ _ _ h=>h) λ_ _ _ _ h=>h)
theorem aN.storeK{n:Nat}{k v:D}{R:Unit->aZ->List ao->Hp->Prop}(h:aN K ρ H (MM.storeK n k v st) R)(s:SR K ρ H st):∃b g,st[n]?=some (.dct b g)/\m5 b k=true/\g.length < fu/\aN K ρ H (.ok () (st.set n (.dct b (lG g k v)))) R:=by obtain⟨b,g,e,o⟩:=aN.getDc (aN.bnd h) s;obtain⟨⟨u,q⟩,l⟩:=aN.chk o;refine⟨b,g,e,u,q,?_⟩;unfold rZ at l;rw[e]at l;simpa using l
def Dl(X:Cx):V->V->V->Hp->(Hp->Prop)->Prop:=λo i v H Q=>∃(ρ:List ao)(st:aZ)(n:Nat)(a:ao)(b:Bool)(cx:List (D×D))(k d:D),o=.ref a/\SR X.K ρ H st/\ρ[n]?=some a/\st[n]?=some (.dct b cx)/\dA X.K ρ H i k/\m5 b k=true/\cx.length < sizeLine/\dA X.K ρ H v d /\
 ∀g,SR X.K ρ g (st.set n (.dct b (lG cx k d)))->Ex ρ H ρ g->Q g
theorem VG(hu:X.A.units+60 < cA):PSet X (Dl X):=by intro h s σ H o i v ov iv u Q I J O G g;obtain⟨ρ,st,n,a,b,Y,k,d,eo,C,ha,c,L,hk,hl,U,q⟩:=g;subst eo;cases J;exact Vy (by ext) I C ha c L hk hl U O G λl s' I' E B=>⟨l,I',q l E B⟩
theorem _root_.L2.PSet.or{t t':vv}(h:PSet X t)(h':PSet X t'):PSet X (λo i v H Q=>t o i v H Q\/t' o i v H Q):=by
 intro g s σ H o i v E G u Q I B C l q;rcases q with q|q
 ·exact h g s σ H o i v E G u Q I B C l q
 ·exact h' g s σ H o i v E G u Q I B C l q
theorem OP{to ti:CE}{o i:Expr}(hu:X.A.units+60 < cA)(ho:SE X o to)(hi:SE X i ti)
  (c:∀v,n8 (.Subscript o i pos) X.env v=(do
   let ov <- kq [v] (eval o X.env)
   let iv <- kq [v,ov] (eval i X.env)
   wY pos
   kq [v,ov,iv] (n9 ov iv v)
   Cf [v,ov,iv] []):=by intro _;rfl):SG X (.Subscript o i pos) (g_ to ti):=
 (Rb ho hi (KA.or (VG hu)) c).of λv σ H Q I=>by obtain⟨ρ,l,st,d,Y,sr,rv,p⟩:=I;exact⟨ρ,l,st,Y,sr,p.bnd.imp λy eg ρ1 H1 L s1 p1 u ru=>⟨ρ1,l,eg,Y.mono L,s1,p1.bnd.imp λz g ρ2 H2 J G U w B=>by
  have ru2:=ru.mono J;have rd:dA X.K ρ2 H2 v d:=(rv.mono L).mono J;cases ru2 with
  |ref _ h=>
   cases B with
   |int k=>
    obtain⟨ds,e,O⟩:=aN.getL (aN.bnd (aN.bnd U)) G;obtain⟨a,vs,c,hv,r⟩:=G.seq e;rw[h]at c;cases c;cases e2:MM.my ds.length k with
    |none=>rw[e2]at O;exact O.elim
    |some j=>
     rw[e2]at O;have hl:=(ac.mp e).1;obtain⟨E,C⟩:=G.put hl h hv (r.set j rd);refine .inl ⟨_,vs,k,j,rfl,rfl,hv,by rw[r.length];exact e2,?_⟩;have p4:aN X.K ρ2 H2 (putL _ (ds.set j d) g) _:=O;unfold putL at p4;rw[e]at p4;exact (p4 ρ2 _ C E).ret E σ (((Y.mono L).mono J).mono C)
   |_=>exact (aN.bnd U).elim
  |@dic a n _ h=>
   have p':aN X.K ρ2 H2 (storeK n z d g) λa st' ρ' H'=>aN X.K ρ' H' (MM.ret l st') λl' _ ρ' H'=>∀σ',LR X.K ρ' H' σ' l'->Q σ' H':=by cases B<;>exact aN.bnd U
   obtain⟨b,cx,e1,hk,hl,q⟩:=aN.storeK p' G;exact .inr ⟨ρ2,g,n,a,b,cx,z,d,rfl,G,h,e1,B,hk,hl,rd,λH3 E C=>(q ρ2 H3 C E).ret E σ (((Y.mono L).mono J).mono C)⟩
  |_=>exact (aN.bnd U).elim⟩⟩
theorem N_{P:Program}{w:bE}{K:aj}{mg:Str->Option ag}{base:bA}{x qual:Str}{u:fH}{f:ao}{J:dG}{N G:List Str}{k:Nat}{o:CS}(F:xB K x qual u f J)(S:lI N G (bD u))
  (q:∀(g:ag)(A:bv)(outer:List Env)(s:am)(H:Hp)(E:XK),J.code=g->iU k (A.deeper (m9 qual (bD u) s.heap.objs.size f g))->ww (qK sf P w K mg base N qual (bD u) f g A outer s H E).nox (dw u) o):
  m7 P w K mg base sf (k+1) f J G (n0 K G.length (cm N.length o)):=by
 obtain⟨oc,od,kV,doc,pm,an,g,ct,osl,rfl,lk,I⟩:=F.ex;refine Kd lk I S (λO H Q E h=>h.1) λA outer s H O Q E hr h=>⟨_,(q g A outer s H E rfl hr).nox,?_⟩
 obtain⟨hl,ρ,st,ds,Y,C,p⟩:=h;refine⟨ρ,_,st,LR.start C,Y,?_⟩;unfold cm at p;exact p.bnd.imp λf U ρ1 H1 x1 L B=>by
  cases f with
  |next l=>exact λσ' _=>B.ret L _ .non
  |ret d=>exact λv c=>B.ret L v c
  |brk l=>exact B.elim
  |cnt l=>exact B.elim
noncomputable def FF(K:aj)(ρ0:List ao)(h:Hp)(w:Wk)(J:It):Prop:=∀ρ H st,Ex ρ0 h ρ H->SR K ρ H st->w.same st->J.stop w.ds.length H/\∀(i:Nat)(d:D),w.ds[i]?=some d->J.go i H/\∀x g,J.yld i H x g->Ex ρ H ρ g/\SR K ρ g st/\dA K ρ g x d
def CC(K:aj)(f:CI):TI:=λσ H R=>∃ρ l st,LR K ρ H σ l/\SR K ρ H st/\aN K ρ H (f l st) λw _ ρ' g=>∀J,FF K ρ' g w J->R J g
abbrev SI(X:Cx)(tg e:Expr)(f:CI):Prop:=PI X tg e (CC X.K f)
theorem _root_.L2.PI.of{tg e:Expr}{t t':TI}(h:PI X tg e t)(f:∀σ H R,t' σ H R->t σ H R):PI X tg e t':=λg s σ H R I q=>h g s σ H R I (f σ H R q)
theorem Jp{ρ0:List ao}{B:Hp}{ds:List D}{p:aZ->Prop}{a:ao}(h:∀ρ H st,Ex ρ0 B ρ H->SR K ρ H st->p st->∃g,gY K H a g/\bT K ρ H g ds):FF K ρ0 B ⟨ds,p⟩ (D8 K a):=λρ H st x s q=>by obtain⟨g,o,r⟩:=h ρ H st x s q;refine⟨⟨g,o,by rw[r.length];exact av _⟩,λi d e=>?_⟩;obtain⟨v,u,C⟩:=r.get e;refine⟨⟨g,v,o,u⟩,λy I l=>?_⟩;obtain⟨G,E⟩:=l;subst G;have:=E g o;rw[u]at this;cases this;exact⟨Ex.refl,s,C⟩
theorem Ut{ρ0:List ao}{B:Hp}{ds:List D}{p:aZ->Prop}{a:ao}(h:∀ρ H st,Ex ρ0 B ρ H->SR K ρ H st->p st->∃g,iT K H a g/\bT K ρ H g ds):FF K ρ0 B ⟨ds,p⟩ (Ig K a):=λρ H st x s q=>by obtain⟨g,o,r⟩:=h ρ H st x s q;refine⟨⟨g,o,by rw[r.length];exact av _⟩,λi d e=>?_⟩;obtain⟨v,u,C⟩:=r.get e;refine⟨⟨g,v,o,u⟩,λy I l=>?_⟩;obtain⟨G,E⟩:=l;subst G;have:=E g o;rw[u]at this;cases this;exact⟨Ex.refl,s,C⟩
theorem MA{ρ0:List ao}{q:Hp}{lo:Int}{n:Nat}:FF K ρ0 q ⟨kN lo n,dP⟩ (CP lo n):=λρ H st x s _=>by
 refine⟨by show n<=(kN lo n).length;unfold kN;simp,λi d e=>?_⟩;have h:i < n:=by have:=(ac.mp e).1;simpa [kN] using this
 refine⟨h,λy u g=>?_⟩;obtain⟨o,l⟩:=g;subst o l;have:d=.int (lo+(i:Nat)):=by unfold kN at e;rw[ar,ip h]at e;exact (aE e).symm
 subst this;exact⟨Ex.refl,s,.int _⟩
theorem Rl{l:Expr}{L:TE}(U:PE X l L):PI X tg l (λσ H R=>L σ H λx B=>∃a,x=.ref a/\((∃xs,gY X.K B a xs)/\R (D8 X.K a) B\/(∃xs,iT X.K B a xs)/\R (Ig X.K a) B)):=by
 intro E s σ H R I h;refine fU (U E s σ H _ I h) λv g C=>?_;obtain⟨x,B,u,Q,a,e,q⟩:=C;subst e;cases Q;rcases q with ⟨⟨xs,G⟩,q⟩|⟨⟨xs,G⟩,q⟩
 ·obtain⟨its,O,p,hz⟩:=u.list G;refine ig p.isList ?_;refine⟨g.heap.objs.size,[g.heap.objs.size],_,_,B,rfl,u.kept (t':=g.toks) λb o e=>ak _ e,Ny a _,⟨_,ay _ rfl,rfl,rfl⟩,λb J=>?_,q⟩;have e:b=g.heap.objs.size:=by simpa using J
  subst e;exact u.fpOk (av _) (u.hok.fresh (av _))
 ·obtain⟨its,O,p,hz⟩:=u.tuple G;refine kg (show g.heap.IsTuple a its.toArray from p) ?_;refine⟨g.heap.objs.size,[g.heap.objs.size],_,_,B,rfl,u.kept (t':=g.toks) λb o e=>ak _ e,O2 a _,⟨_,ay _ rfl,rfl,rfl⟩,λb J=>?_,q⟩;have e:b=g.heap.objs.size:=by simpa using J
  subst e;exact u.fpOk (av _) (u.hok.fresh (av _))
theorem Tr(h:SE X e fa):SI X tg e (iN fa):=(Rl h).of λσ H R Y=>Y.el λρ l st O I p=>⟨ρ,l,st,O,I,p.bnd.imp λd G ρ1 H1 c o B v J=>by
 cases J with
 |@tup a g ds h r=>exact⟨a,rfl,.inr ⟨⟨g,h⟩,B.ret o _ (Ut λρ H st x s _=>⟨g,iT.mono x.up h,r.mono x⟩)⟩⟩
 |@lit a g ds h r=>exact⟨a,rfl,.inl ⟨⟨g,h.seq⟩,B.ret o _ (Jp λρ H st x s _=>⟨g,(xC.mono x.up h).seq,r.mono x⟩)⟩⟩
 |@ref a n _ h=>
  obtain⟨ds,e,L⟩:=aN.getL (aN.bnd B) o;obtain⟨a',g,E,U,r⟩:=o.seq e;rw[h]at E;cases E;refine⟨a,rfl,.inl ⟨⟨g,gY.of U⟩,L.ret o _ (Jp λρ H st x s q=>?_)⟩⟩;obtain⟨a2,ws,u,Q,C⟩:=s.seq q;obtain⟨τ,eτ,_⟩:=x.pre;rw[eτ,wP h]at u;cases u;exact⟨ws,gY.of Q,C⟩
 |_=>exact B.elim⟩
theorem Pz(h:SL X e ca):SI X tg e (wz ca):=(PZ h).of λσ H R I=>I.el λρ l st G v p=>⟨ρ,l,st,G,v,p.bnd.imp λds u ρ1 O J B C a g L E q o=>
 ⟨a,rfl,⟨g,gY.of q⟩,C.ret B _ (Jp λρ H st x s _=>⟨g,gY.of (x.lst a g E q),o.mono x⟩)⟩⟩
theorem N1{p:Pos}(E:Gl X "range")(C:X.mg "range"=none)(h:SE X a fa)(o:starEach [a] X.env=[(false,eval a X.env)]:=by rfl):SI X tg (.Call (.Name "range" p) [a] [] pos) (MM.f_ fa):=
 (PK (tg:=tg) (p:=p) (pos:=pos) E C (GU h GY o) o).of λσ H R G=>G.el λρ l st B u p=>⟨ρ,l,st,B,u,by
  have q:=aN.bnd p;unfold aw
  show aN X.K ρ H (bnd (fa l) _ st) _;unfold MM.bnd;cases e:fa l st with
  |bad=>rw[e]at q;exact q
  |exc _ _=>rw[e]at q;exact q
  |ok d eg=>
   rw[e]at q
   show ∀ρ' H',Ex ρ H ρ' H'->SR X.K ρ' H' eg->_;intro ρ1 H1 x1 s1 vs rvs;have g:=q ρ1 H1 x1 s1;cases rvs with
   |cons rv rt=>
    cases rt;cases rv with
    |int j=>
     obtain⟨⟨J,I⟩,v⟩:=aN.chk g;exact⟨j,rfl,J,I,v.ret s1 _ MA⟩
    |_=>exact g.elim⟩
theorem aN.chkS{p:aZ->Prop}{R:Unit->aZ->List ao->Hp->Prop}(h:aN K ρ H (MM.chkS p st) R)(s:SR K ρ H st):p st/\R () st ρ H:=by
 unfold MM.chkS at h;by_cases g:p st
 ·rw[aG g]at h;exact⟨g,h ρ H Ex.refl s⟩
 ·rw[aC g]at h;exact h.elim
theorem P5{iter:Expr}{u:List fH}{ci:CI}{g:CG}{cb:CS}(hp:sM (aT X.prog X.w) X.A X.env X.xe)(hc:X.calm=true)(hi:SI X tg iter ci)(hg:SG X tg g)(hb:ww X u cb)
  (hs:∀x,fk iter X.env x=pure x:=by intro _;rfl):SS X (.For tg iter u [] pos) (kI ci g cb):=(SN hp hc hi hg hb hs).of λG σ H h_=>h_.el λρ l st lr sr p=>
 ⟨ρ,l,st,lr,sr,p.bnd.imp λw Y ρ1 H1 x1 s1 p1 J hJ=>by
  refine⟨λi m σ' h=>m=w.ds.length-i/\i<=w.ds.length/\∃ρ' l' st',Ex ρ1 H1 ρ' h/\LR X.K ρ' h σ' l'/\SR X.K ρ' h st'/\aN X.K ρ' h (nv g cb w.same (w.ds.drop i) l' st') λf _ ρ' h=>match f with
   | .next l'=>∀σ',LR X.K ρ' h σ' l'->G.nx σ' h
   | .ret d=>∀v,dA X.K ρ' h v d->G.rt v h
   | .brk l'=>∀σ',LR X.K ρ' h σ' l'->G.bk σ' h
   | .cnt l'=>∀σ',LR X.K ρ' h σ' l'->G.ct σ' h,⟨w.ds.length,by simp,bx _,ρ1,l,Y,Ex.refl,lr.mono x1,s1,p1⟩,?_⟩
  rintro i m σ2 H2 ⟨rfl,hi,ρ2,l2,st2,x2,lr2,s2,p2⟩
  by_cases B:i < w.ds.length
  ·have ed:w.ds.drop i=w.ds[i]::w.ds.drop (i+1):=dJ B;rw[ed]at p2;unfold nv at p2;obtain⟨c,p3⟩:=aN.chkS (aN.bnd p2) s2;obtain⟨_,go⟩:=hJ ρ2 H2 st2 x2 s2 c;obtain⟨g1,g2⟩:=go i w.ds[i] (ai B);refine .inr ⟨g1,λσ3 C=>∃ρ3 l3 st3,Ex ρ1 H1 ρ3 C/\LR X.K ρ3 C σ3 l3/\SR X.K ρ3 C st3/\aN X.K ρ3 C (nv g cb w.same (w.ds.drop (i+1)) l3 st3) λf _ ρ' h=>match f with
    | .next l'=>∀σ',LR X.K ρ' h σ' l'->G.nx σ' h
    | .ret d=>∀v,dA X.K ρ' h v d->G.rt v h
    | .brk l'=>∀σ',LR X.K ρ' h σ' l'->G.bk σ' h
    | .cnt l'=>∀σ',LR X.K ρ' h σ' l'->G.ct σ' h,λσ3 C q=>⟨_,by ext,rfl,B,q⟩,λy C hy=>?_⟩
   obtain⟨Q,s3,l⟩:=g2 y C hy;refine⟨ρ2,l2,st2,_,lr2.mono Q,s3,l,(aN.left Q (aN.bnd p3)).imp λl4 U ρ4 H4 J Y p4 σ4 u=>⟨ρ4,l4,U,u,Y,(aN.bnd p4).imp λf I ρ5 H5 H L O=>?_⟩⟩;have E:Ex ρ1 H1 ρ5 H5:=(x2.trans Q).trans (J.trans H);cases f with
   |next l5=>exact λσ5 o=>⟨ρ5,l5,I,E,o,L,O⟩
   |cnt l5=>exact λσ5 o=>⟨ρ5,l5,I,E,o,L,O⟩
   |brk l5=>exact λσ5 o=>O.ret L σ5 o
   |ret d=>exact λv l=>O.ret L v l
  ·have e:i=w.ds.length:=by ext
   subst e;rw[xJ]at p2;unfold nv at p2;obtain⟨c,p3⟩:=aN.chkS (aN.bnd p2) s2;obtain⟨g1,_⟩:=hJ ρ2 H2 st2 x2 s2 c;exact .inl ⟨g1,p3.ret s2 σ2 lr2⟩⟩
end
section
variable{X:Cx}{a b c e tg:Expr}{es:List Expr}{pos:Pos}{fa fb fc:CE}{ca cb:CA}{ta tb:CT}{K:aj}{ρ:List ao}{H:Hp}{st:aZ}{x:Str}{p:Pos}{id T:String}
theorem S7{n:Nat}{ix:List Nat}{σ:St}{l:Loc}(h:LR K ρ H σ l):LR K ρ H (yN n ix σ) (ib n ix l):=by
 unfold yN ib;refine⟨by simp,λi d e=>?_⟩;have u:n<=i:=qQ λz=>by rw[ax (by simpa using z),gh]at e;split at e<;>cases e
 rw[aS (by simpa using u),fB,ar]at e;cases q:ix[i-n]? with
 |none=>rw[q]at e;cases e
 |some k=>
  rw[q]at e;have g:(l[k]?).join=some d:=aE e;have E:l[k]?=some (some d):=by
   cases z:l[k]? with
   |none=>rw[z]at g;cases g
   |some o=>rw[z]at g;exact cR some g
  obtain⟨v,C,B⟩:=h.2 k d E;refine⟨v,?_,B⟩;rw[aS (by simpa using u),fB,ar,q]
  show some ((σ[k]?).join)=some (some v);rw[C];rfl
abbrev wD(X:Cx)(g:List Expr)(t:CT):Prop:=vq X g (pX X.K t)
theorem Rx:wD X [] bN:=λg s σ H Q I o=>o.el λρ l st q h p=>OV g s σ H Q I (p.ret h)
theorem W2(h:ST X c ta):wD X [c] ta:=Ux h
theorem Ex.own{ρ':List ao}{l:Hp}{q:ao}{ws:List V}(x:Ex ρ H ρ' l)(h:H q=none):Ex ρ H ρ' (ff l q (.lst ws)):=by
 have g:∀b o,H b=some o->b≠q:=λb o e z=>by rw[z,h]at e;cases e
 exact⟨x.pre,λb o u e=>by rw[fO (g b o e)];exact x.fix b o u e,λb xs v e=>by rw[fO (g b _ e)];exact x.oth b xs v e,λb o e=>by rw[fO (g b o e)];exact x.knd b o e⟩
theorem Up.own{ρ':List ao}{g:Hp}{q:ao}{l ws:List V}(h:g q=some (.lst l)):Up ρ' g ρ' (ff g q (.lst ws)):=
 ⟨⟨[],by simp⟩,λb o u e=>by rw[fO λz=>by subst z;rw[h]at e;cases e;exact nomatch u];exact e,
  λb o e=>by
   by_cases z:b=q
   ·subst z;rw[h]at e;cases e;exact⟨_,kh,rfl⟩
   ·exact⟨o,by rw[fO z];exact e,rfl⟩⟩
theorem LR.up{ρ':List ao}{g:Hp}{σ:St}{l:Loc}(x:Up ρ H ρ' g)(h:LR K ρ H σ l):LR K ρ' g σ l:=⟨h.1,λi d e=>let ⟨v,e1,r⟩:=h.2 i d e;⟨v,e1,r.up x⟩⟩
theorem SR.own{q:ao}{l ws:List V}(s:SR K ρ H st)(h:H q=some (.lst l))(u:q∉ρ):SR K ρ (ff H q (.lst ws)) st:=
 ⟨s.len,s.nd,λn b o g v=>rA.mono (o:=o) (Up.own h) (s.ob n b o g v) λB e=>by rw[fO (λ(z:b=q)=>u (by rw[<- z];exact aA g))];exact e⟩
theorem Nk{ci:CI}{g:CG}{n:Nat}{ix:List Nat}:∀σ H Q,EQ K (dL n ix ci g ta fa) σ H Q->va (CC K ci) n ix (yH K g) (pX K ta) (zG K fa) σ H Q:=λσ H Q h_=>h_.el λρ l st lr sr p=>
 ⟨ρ,l,st,lr,sr,p.bnd0.imp λw eg ρ1 H1 x1 s1 p1 J hJ q hq=>by
  obtain⟨hz,p2⟩:=aN.chk p1;have hn:H q=none:=by
   cases z:H q with
   |none=>rfl
   |some o=>exact bn hq (x1.trk q o z)
  obtain⟨J0,I⟩:∃J0:Nat->Nat->St->Hp->Prop,J0=λi m σ' O=>m=w.ds.length-i/\i<=w.ds.length/\∃ρ' l' st' done h,Ex ρ H ρ' O/\Ex ρ1 H1 ρ' O/\LR K ρ' O σ' l'/\SR K ρ' O st'/\q∉ρ'/\O q=some (.lst h)/\bT K ρ' O h done/\done.length<=i /\
   aN K ρ H (collect g ta fa w.same (w.ds.drop i) l' st') (λrest B ρ2 u=>∀a ws,H a=none->a∉ρ2->u a=some (.lst ws)->bT K ρ2 u ws (done++rest)->Q (.ref a) u):=⟨_,rfl⟩
  refine⟨J0,
   ⟨w.ds.length,by rw[I];exact⟨by simp,bx _,ρ1,ib n ix l,eg,[],[],x1.trans (Ex.new hq),Ex.new hq,S7 ((lr.mono x1).mono (Ex.new hq)),s1.new hq,s1.fresh hq,kh,.nil,bx _,p2⟩⟩,?_⟩
  intro i m σ2 u hj;rw[I]at hj;obtain⟨rfl,hi,ρ2,l2,B,done,h,L,y2,lr2,s2,nq,hv,C,hd,p3⟩:=hj;by_cases G:i < w.ds.length
  ·have ed:w.ds.drop i=w.ds[i]::w.ds.drop (i+1):=dJ G;rw[ed]at p3;unfold collect at p3;obtain⟨sm,p4⟩:=aN.chkS (p3.bnd0.left L) s2;obtain⟨_,go⟩:=hJ ρ2 u B y2 s2 sm;obtain⟨g1,g2⟩:=go i w.ds[i] (ai G);refine .inr ⟨g1,λy H3 hy=>?_⟩;obtain⟨J,s3,rv⟩:=g2 y H3 hy;refine⟨ρ2,l2,B,_,lr2.mono J,s3,rv,(p4.bnd0.left (L.trans J)).imp λQ st4 ρ4 H4 x4 s4 p5 σ4 E=>⟨ρ4,Q,st4,E,s4,(p5.bnd0.left (L.trans (J.trans x4))).imp λb o ρ5 H5 H s5 p6=>?_⟩⟩;have U:Ex ρ2 u ρ5 H5:=J.trans (x4.trans H);have Y:∀{ρ':List ao}{O:Hp},Ex ρ2 u ρ' O->q∉ρ':=λz l=>by
    obtain⟨τ,e,f⟩:=z.pre;rw[e]at l;rcases aX.mp l with l|l
    ·exact nq l
    ·rw[f q l]at hv;cases hv
   cases b with
   |false=>exact⟨w.ds.length-(i+1),by ext,by rw[I];exact⟨rfl,G,ρ5,Q,o,done,h,L.trans U,y2.trans U,E.mono H,s5,Y U,U.lst q h nq hv,C.mono U,xK hd,p6⟩⟩
   |true=>
    refine⟨ρ5,Q,o,E.mono H,s5,(p6.bnd0.left (L.trans U)).imp λd st6 ρ6 H6 x6 s6 p7 v rv6=>?_⟩;have g:Ex ρ2 u ρ6 H6:=U.trans x6;have c:=g.lst q h nq hv;have u6:Up ρ6 H6 ρ6 (ff H6 q (.lst (h++[v]))):=Up.own c;refine⟨h,c,?_,w.ds.length-(i+1),by ext,?_⟩
    ·have g:=C.length;have c:w.ds.length<=sizeLine:=hz;ext
    ·rw[I];refine⟨rfl,G,ρ6,Q,st6,done++[d],h++[v],(L.trans g).own hn,(y2.trans g).own hq,LR.up u6 ((E.mono H).mono x6),s6.own c (Y g),Y g,kh,
     bT.app ((C.mono g).up u6) (.cons (rv6.up u6) .nil),by simp;ext,?_⟩
     refine p7.bnd0.imp λrest q ρ8 H8 o u B a ws U J O l=>?_;exact B ρ8 H8 o u a ws U J O (by rw[List.append_cons];exact l)
  ·have e:i=w.ds.length:=by ext
   subst e;rw[xJ]at p3;unfold collect at p3;obtain⟨sm,p4⟩:=aN.chkS (p3.bnd0.left L) s2;obtain⟨g1,_⟩:=hJ ρ2 u B y2 s2 sm;refine .inl ⟨g1,p4 ρ2 u L s2 q h hn nq hv (by rw[bI];exact C)⟩⟩
theorem Su{scope:dR}{N:List Str}{h:List Expr}{n:Nat}{ix:List Nat}{o:CI}{g:CG}(v:X.calm=true)(S:gX X scope)(T:ke X scope N n ix)(u:SI X tg b o)
  (l:∀(fp:List ao)(s:am)(H:Hp),SG (oq X N scope fp s H) tg g/\wD (oq X N scope fp s H) h ta/\SE (oq X N scope fp s H) e fa)
  (q:∀x,fk b X.env x=pure x:=by intro _;rfl):SL X (.ListComp e [⟨tg,b,h,0⟩] scope pos) (dL n ix o g ta fa):=(VF v S T u l q).of Nk
theorem SM{scope:dR}{N:List Str}{q:List Expr}{n i:Nat}{ix:List Nat}{L:CI}{g:CG}{y:Str}{o h:Pos}
  (hN:X.N.Nodup) (E:X.N[i]?=some y) (hy:L2.Loc X.env.scope y) (hf:X.fn y=true\/X.env.scope.names.lookup y=some .local)
  (hc:X.calm=true) (S:gX X scope) (T:ke X scope N n ix) (hi:SI X tg b L)
  (G:∀(fp:List ao)(s:am)(H:Hp),SG (oq X N scope fp s H) tg g/\wD (oq X N scope fp s H) q ta/\SE (oq X N scope fp s H) e fa)
  (C:ki (.ListComp e [⟨tg,b,q,0⟩] scope pos) (some (.Name y o)) h.line X.env=pure true)
  (hs:∀x,fk b X.env x=pure x:=by intro _;rfl):SS X (.Assign [.Name y o] (.ListComp e [⟨tg,b,q,0⟩] scope pos) h) (cf (aQ i) (eK (dL n ix L g ta fa))):=
 (UV hN E hy hf hc S T hi G C hs).of (HH (λσ H Q h_=>h_.el λρ l st lr Y p=>Nk _ _ _ ⟨ρ,l,st,lr,Y,p.bnd0.imp λds U ρ1 O v I c a vs ha na J B=>by
  have x:Ex ρ H (ρ1++[a]) O:=by
   obtain⟨τ,e,f⟩:=v.pre;refine⟨⟨τ++[a],by rw[e,bQ],λb u=>?_⟩,v.fix,v.oth,v.knd⟩;rcases aX.mp u with u|u
   ·exact f b u
   ·rw[aJ]at u;rw[u];exact ha
  refine c (ρ1++[a]) O x (I.keep J na B) _ (.ref ⟨_,J,rfl⟩ ?_);rw[<- I.len];simp⟩) Kz)
theorem NE{g : D -> M D}(U : CallR X (.builtin id) (λxs H Q => ∃v, xs = [v] /\ vx X.K g v H Q))(O : Gl X x)(L : X.mg x = none)(I : cM x = some (.builtin id))(Y : SE X e fa)(J : x ≠ "__name__" := by decide)(o : (x == ("__debug__" : Str)) = false := by decide)
  (q:starEach [e] X.env=[(false,eval e X.env)]:=by rfl):SE X (.Call (.Name x p) [e] [] pos) (c1 g fa):=
 (DE U O L I (qA Y uz q) J o q rfl).of λσ H Q c=>c.el λρ l st G u p=>⟨ρ,l,st,G,u,p.bnd.imp λd h ρ1 H1 x1 B E v C=>⟨v,rfl,ρ1,h,d,B,C,E⟩⟩
theorem Ea{g : D -> M D}(U : CallR X (.type T) (λxs H Q => ∃v, xs = [v] /\ vx X.K g v H Q))(O : Gl X x)(L : X.mg x = none)(I : cM x = some (.type T))(Y : SE X e fa)(J : x ≠ "__name__" := by decide)(o : (x == ("__debug__" : Str)) = false := by decide)
  (q:starEach [e] X.env=[(false,eval e X.env)]:=by rfl):SE X (.Call (.Name x p) [e] [] pos) (c1 g fa):=
 (Hz U O L I (qA Y uz q) J o q rfl).of λσ H Q c=>c.el λρ l st G u p=>⟨ρ,l,st,G,u,p.bnd.imp λd h ρ1 H1 x1 B E v C=>⟨v,rfl,ρ1,h,d,B,C,E⟩⟩
def C7(K:aj)(g:List D->M D):List V->Hp->VK->Prop:=λxs H Q=>∃a h ρ st ds,xs=[.ref a]/\gY K H a h/\SR K ρ H st/\bT K ρ H h ds/\aN K ρ H (g ds st) λr _ ρ' l=>∀v,dA K ρ' l v r->Q v l
theorem Km{g : List D -> M D}(Y : CallR X (.builtin id) (C7 X.K g))(U : Gl X x)(O : X.mg x = none)(q : cM x = some (.builtin id))(B : SL X e ca)(L : x ≠ "__name__" := by decide)(u : (x == ("__debug__" : Str)) = false := by decide)
  (v:starEach [e] X.env=[(false,eval e X.env)]:=by rfl):SE X (.Call (.Name x p) [e] [] pos) (ir g ca):=
 (DE Y U O q (qA B uz v) L u v rfl).of λσ H Q c=>c.el λρ l st J E p=>⟨ρ,l,st,J,E,p.bnd.imp λds h ρ1 H1 x1 G I a C B na q o=>⟨a,C,ρ1,h,ds,rfl,gY.of q,G,o,I⟩⟩
theorem Ri{g : List D -> M D}(Y : CallR X (.type T) (C7 X.K g))(U : Gl X x)(O : X.mg x = none)(q : cM x = some (.type T))(B : SL X e ca)(L : x ≠ "__name__" := by decide)(u : (x == ("__debug__" : Str)) = false := by decide)
  (v:starEach [e] X.env=[(false,eval e X.env)]:=by rfl):SE X (.Call (.Name x p) [e] [] pos) (ir g ca):=
 (Hz Y U O q (qA B uz v) L u v rfl).of λσ H Q c=>c.el λρ l st J E p=>⟨ρ,l,st,J,E,p.bnd.imp λds h ρ1 H1 x1 G I a C B na q o=>⟨a,C,ρ1,h,ds,rfl,gY.of q,G,o,I⟩⟩
theorem PN{prog:Program}{w:bE}{A:bv}{E:ag->am->Prop}{s:am}{K:Type}[DecidableEq K]{knd:nC prog w K}{d:ao}{xs:List (K×ao×ag)}{Q:ag->am->Prop}(hd:(d == bO)=false)(q:s.heap.DictOfH knd d xs)(hfit:(xs.length:Int) < 2^63)
  (h:Q (.int xs.length (s.toks+1)) { s with toks:=s.toks+1+1 }):aD (aT prog w) A (call (.builtin "len") [.ref d]) Q E s:=by
 refine Calls.call_function_entry kind_len plain_len entry_len (args_len1 _) ?_;unfold Builtin.«len»;have l:xi prog w (Builtin.«dict.__len__» ⟨[.ref d],[]⟩) (λ_ R s=>∃xs,s.heap.DictOfH knd d xs/\R (.ok (.ret (.int xs.length s.toks))) { s with toks:=s.toks+1 }):=.of_wp λA R s g=>by
  obtain⟨xs,q,h⟩:=g;obtain⟨o,es,ep,v,G,u,B,_,C⟩:=q
  show aD _ _ (dictSize d >>= _) _ _ s;unfold dictSize;refine ab (ab (b_ v u (ah ?_)))
  show aD _ _ (Builtin.Dict.pendingCount d >>= _) _ _ s;refine ab (wpAny_pendingCount_other hd ?_);refine Gd ?_;rw[Fi,g9 B];exact h
 refine ab (m:=oneArg "len" _) (ah ?_);refine ab (m:=callSpecial? (.ref d) (az "__len__")) (bz (name:=az "__len__") q.typeIs Cn
  (oi Cn q.typeIs F.entry_dict_len (F.args_dict_len_1 _) l ⟨xs,q,?_⟩))
 show aD _ _ _ _ _ { s with toks:=s.toks+1 };refine ab (bH (ah ?_));refine ab (gO ?_)
 show aD _ _ (if ((xs.length:Nat):Int) < 0 then _ else _) _ _ _;rw[aC (by ext)]
 show aD _ _ (if ((xs.length:Nat):Int) ≥ 2^63 then _ else _) _ _ _;rw[aC (by ext)];exact ab (wpAny_mkInt (ah ⟨_,rfl,h⟩))
theorem Qg:CallR X (.builtin "len") (λxs H Q=>∃(ρ:List ao)(st:aZ)(n:Nat)(a:ao)(b:Bool)(l:List (D×D)),xs=[.ref a]/\SR X.K ρ H st/\ρ[n]?=some a/\st[n]?=some (.dct b l)/\Q (.int l.length) H):=by
 intro v s σ H xs O Q I r h;obtain⟨ρ,st,n,a,b,l,e,B,G,E,q⟩:=h;subst e;obtain⟨u,rfl,C⟩:=uV r;cases C;have g:=B.ob n a _ G E;cases b with
 |false=>
  obtain⟨es,e,r⟩:=g;rw[<- KR.length r]at q;exact QC I (.inl e) λt U L=>⟨.int es.length,H,L,⟨t,rfl⟩,q⟩
 |true=>
  obtain⟨es,e,r⟩:=g;obtain⟨z,hd,xs,o,J,_⟩:=v9 I e r;rw[<- NR.length r,bZ o]at q;have hz:xs.length<=sizeLine:=by rw[<- bZ o];exact z
  exact PN hd J (by rw[lx]at hz;ext) ⟨.int xs.length,H,I.tok _,⟨_,rfl⟩,q⟩
theorem TC:CallR X (.builtin "len") (λxs H Q=>∃v,xs=[v]/\vx X.K fX v H Q):=((WZ.or Qr).or Qg).of λxs H Q o=>by
 obtain⟨v,e,ρ,st,d,g,E,p⟩:=o;cases E with
 |@tup a l ds h r=>exact .inl (.inl ⟨a,l,e,.inr h,by rw[r.length];exact p.ret g _ (.int _)⟩)
 |@lit a l ds h r=>exact .inl (.inl ⟨a,l,e,.inl h.seq,by rw[r.length];exact p.ret g _ (.int _)⟩)
 |@ref a n _ h=>
  obtain⟨ds,B,q⟩:=aN.getL (aN.bnd p) g;obtain⟨I,l,C,G,r⟩:=g.seq B;rw[h]at C;cases C;exact .inl (.inl ⟨a,l,e,.inl (gY.of G),by rw[r.length];exact q.ret g _ (.int _)⟩)
 |str z=>exact .inl (.inr ⟨z,e,(aN.chk p).1,(aN.chk p).2.ret g _ (.int _)⟩)
 |@dic a n _ h=>
  obtain⟨b,u,B,q⟩:=aN.getDc (aN.bnd p) g;exact .inr ⟨ρ,st,n,a,b,u,e,g,h,B,q.ret g _ (.int _)⟩
 |_=>exact p.elim
theorem Tw:CallR X (.type "int") (λxs H Q=>∃v,xs=[v]/\vx X.K intD v H Q):=Tx.of λxs H Q g=>by
 obtain⟨v,e,ρ,st,d,h,l,p⟩:=g;cases l with
 |int i=>exact .inl ⟨i,e,p.ret h _ (.int _)⟩
 |bl k=>exact .inr ⟨k,e,p.ret h _ (.int _)⟩
 |_=>exact p.elim
theorem WV:CallR X (.type "tuple") (λxs H Q=>∃v,xs=[v]/\vx X.K tupleD v H Q):=M7.of λxs H Q u=>by
 obtain⟨v,e,ρ,st,d,q,C,p⟩:=u;cases C with
 |@tup a o ds h r=>exact⟨a,o,e,.inr ⟨h,p.ret q _ (.tup h r)⟩⟩
 |@lit a o ds h r=>exact⟨a,o,e,.inl ⟨h.seq,λl g=>p ρ _ (Ex.new g) (q.new g) _ (.tup (iT.of kh) (r.mono (Ex.new g)))⟩⟩
 |@ref a n _ h=>
  obtain⟨ds,I,E⟩:=aN.getL (aN.bnd p) q;obtain⟨J,o,B,G,r⟩:=q.seq I;rw[h]at B;cases B;exact⟨a,o,e,.inl ⟨gY.of G,λl g=>E ρ _ (Ex.new g) (q.new g) _ (.tup (iT.of kh) (r.mono (Ex.new g)))⟩⟩
 |_=>exact p.elim
theorem Rt:CallR X (.type "tuple") (C7 X.K kH):=M7.of λxs H Q g=>
 by obtain⟨a,o,ρ,st,ds,e,u,q,r,p⟩:=g;exact⟨a,o,e,.inl ⟨u,λl h=>p ρ _ (Ex.new h) (q.new h) _ (.tup (iT.of kh) (r.mono (Ex.new h)))⟩⟩
end
section
variable{X:Cx}{a b c e tg:Expr}{es:List Expr}{pos:Pos}{fa fb fc:CE}{ca cb:CA}{ta tb:CT}{K:aj}{ρ:List ao}{H:Hp}{st:aZ}{x:Str}{p:Pos}{T:String}
theorem G5{ds:List D}{o:List Int}{l:List V}(h:mZ ds=some o)(g:bT K ρ H l ds):l=o.map V.int:=by
 induction ds generalizing o l with
 |nil=>cases g;cases h;rfl
 |cons d ds ih=>
  cases g with
  |cons r t=>
   cases r with
   |int i=>
    unfold mZ at h;cases q:mZ ds with
    |none=>rw[q]at h;cases h
    |some ms=>
     rw[q]at h;have h':i::ms=_:=aE h;subst h';rw[ih q t];rfl
   |_=>cases h
theorem NS:∀{ds:List D}{l:List Bool}{g:List V},mB ds=some l->bT K ρ H g ds->g=l.map V.bl
 |[],_,_,h,.nil=>by cases h;rfl
 | .bl i::ds,_,_,h,.cons r t=>by
  unfold mB at h;cases q:mB ds with
  |none=>rw[q]at h;cases h
  |some ms=>
   rw[q]at h;have h':i::ms=_:=aE h;subst h';cases r;rw[NS q t];rfl
 | .non::_,_,_,h,_=>by cases h
 | .int _::_,_,_,h,_=>by cases h
 | .str _::_,_,_,h,_=>by cases h
 | .tup _::_,_,_,h,_=>by cases h
 | .lit _::_,_,_,h,_=>by cases h
 | .ref _::_,_,_,h,_=>by cases h
theorem KP:∀{bs:List Bool}{g:List ag},b7 (bs.map V.bl) g->g=bs.map df
 |[],_,.nil=>rfl
 |_::_,_,.cons r t=>by cases r;rw[KP t];rfl
theorem QI(hc:X.calm=true):CallR X (.builtin "all") (λxs H Q=>∃(l:ao)(bs:List Bool),xs=[.ref l]/\gY X.K H l (bs.map V.bl)/\Q (.bl (bs.all id)) H):=by
 intro O s σ H xs us Q I r h;obtain⟨l,bs,rfl,hq,q⟩:=h;obtain⟨u,rfl,rx⟩:=uV r;cases rx;obtain⟨its,rv,C,hz⟩:=I.list hq;have ei:=KP rv;subst ei;refine call_all_walk (ig C.isList ?_);have G:l < s.heap.objs.size:=by obtain⟨o,E,_⟩:=C.isList;exact aI E
 refine⟨s.heap.objs.size,_,_,_,_,_,λi=>(bs[i]?).getD true,rfl,vS (A:=X.A.in1) (I.ok.hd hc) s.heap.objs.size l (bb G) (bs.map df).toArray,⟨⟨_,ay _ rfl,rfl,rfl⟩,?_⟩,?_,λh' c J=>?_⟩
 ·obtain⟨o,E,c⟩:=C.isList;exact⟨o,ak _ E,c⟩
 ·intro i v h l o c L;have g:(bs.map df)[i]?=some v:=by simpa using c
  rw[ar]at g;dsimp only at L;cases e:bs[i]? with
  |none=>rw[e]at g;cases g
  |some k=>
   rw[e]at g L;have:v=df k:=(aE g).symm;subst this;exact fj L
 ·have e : (cg (bs.map df).toArray.size).all (λi => (bs[i]?).getD true) = bs.all id := by
    have g:(bs.map df).toArray.size=bs.length:=by simp
    rw[g,yY,d7,d7];constructor
    ·intro hh k J;obtain⟨i,B⟩:=kE J;have:=hh i (hV.mpr (ac.mp B).1);rw[B]at this;exact this
    ·intro hh i B;have U:=hV.mp B;rw[ai U];exact hh _ (bY U)
  rw[e];exact⟨.bl _,H,I.kept (t':=c) λb o Y=>J b o (by simp;exact bb (aI Y)) (ak _ Y),rfl,q⟩
theorem Ge:∀(g:List Int)(n:Int),g.foldl max n∈n::g/\∀a∈n::g,a<=g.foldl max n
 |[],n=>⟨by simp,by simp⟩
 |m::g,n=>by
  obtain⟨u,l⟩:=Ge g (max n m);rw[List.foldl_cons];refine⟨?_,λa q=>?_⟩
  ·rcases aP.mp u with e|e
   ·rw[e];by_cases o:n<=m
    ·rw[Int.max_eq_right o];simp
    ·rw[Int.max_eq_left (by ext)];simp
   ·exact bw _ (bw _ e)
  ·have h:=l (max n m) cK;rcases aP.mp q with e|e
   ·subst e;exact Fj (Int.le_max_left ..) h
   ·rcases aP.mp e with e|e
    ·subst e;exact Fj (Int.le_max_right ..) h
    ·exact l a (bw _ e)
theorem Mb{g:List ag}{h:List Int}(l:kZ g h):∃xs,g.toArray=uI xs/\h=xs.toList.map (·.1):=by obtain⟨xs,e⟩:=l.allInts.items;exact⟨xs,e,by rw[<- l.numsOf,<- nums_intItems,<- e]⟩
theorem Si(hc:X.calm=true):CallR X (.builtin "max") (λxs H Q=>∃(l:ao)(n:Int)(g:List Int),xs=[.ref l]/\gY X.K H l ((n::g).map V.int)/\Q (.int (g.foldl max n)) H):=by
 intro E s σ H xs us Q I r h;obtain⟨l,n,g,rfl,hq,q⟩:=h;obtain⟨u,rfl,Y⟩:=uV r;cases Y;obtain⟨its,c,pl,hz⟩:=I.list hq;obtain⟨ys,e,o⟩:=Mb (Hl c);have G:=pl.isList;rw[e]at G;have hsz:ys.size=g.length+1:=by have:=cR eM o;simpa using this.symm
 refine max_intList (I.ok.hd hc) G (by ext) λv h' U hv hk=>?_;obtain⟨t,rfl⟩:=yZ hv;obtain⟨b1,O⟩:=argBest_gt (nF ys) (ys.size-1);obtain⟨L,f2⟩:=Ge g n;generalize mV (λi j=>decide (nF ys i > nF ys j)) (ys.size-1)=k at b1 O ⊢;have B:nF ys k∈n::g:=by rw[o,y0];exact getD_mem (by rw[<- o];simp;ext)
 have C:g.foldl max n<=nF ys k:=by rw[o]at L;obtain⟨j,J,ej⟩:=mem_getD L;rw[<- ej,<- y0];exact O j (by rw[<- o]at J;simp at J;ext)
 have hM:nF ys k=g.foldl max n:=zM (f2 _ B) C;rw[hM];exact⟨.int _,H,I.kept (t':=U) hk,⟨t,rfl⟩,q⟩
theorem Ov(o:X.calm=true):CallR X (.builtin "all") (C7 X.K vD):=(QI o).of λxs H Q g=>by
 obtain⟨a,u,ρ,st,ds,e,l,h,r,p⟩:=g;unfold vD at p;cases q:mB ds with
 |none=>rw[q]at p;exact p.elim
 |some bs=>
  rw[q]at p;have:=NS q r;subst this;exact⟨a,bs,e,l,p.ret h _ (.bl _)⟩
theorem Vv(o:X.calm=true):CallR X (.builtin "max") (C7 X.K oF):=(Si o).of λxs H Q g=>by
 obtain⟨a,u,ρ,st,ds,e,l,h,r,p⟩:=g;unfold oF at p;cases q:mZ ds with
 |none=>rw[q]at p;exact p.elim
 |some ns=>
  rw[q]at p;have:=G5 q r;subst this;cases ns with
  |nil=>exact p.elim
  |cons n ns=>exact⟨a,n,ns,e,l,p.ret h _ (.int _)⟩
structure tL(T:String):Prop where
 non:∀K,fQ K (.type "NoneType") (.type T)=some (["NoneType"].contains T)
 bl:∀K,fQ K (.type "bool") (.type T)=some (["bool","int"].contains T)
 int:∀K,fQ K (.type "int") (.type T)=some (["int"].contains T)
 str:∀K,fQ K (.type "str") (.type T)=some (["str"].contains T)
 tup:∀K,fQ K (.type "tuple") (.type T)=some (["tuple"].contains T)
 lst:∀K,fQ K (.type "list") (.type T)=some (["list"].contains T)
theorem WM:tL "int":=⟨λ_=>rfl,λ_=>rfl,λ_=>rfl,λ_=>rfl,λ_=>rfl,λ_=>rfl⟩
theorem TR:tL "bool":=⟨λ_=>rfl,λ_=>rfl,λ_=>rfl,λ_=>rfl,λ_=>rfl,λ_=>rfl⟩
theorem Jg{g:List (ao×Obj)}{σ:St}{s:am}{Q:ag->am->Prop}{t:String}{u:ao}{k:Bool}(I:Inv X g σ H s)(l:∃o,s.heap.get? u=some o/\o.cls=.type t)(v:t="tuple"\/t="list")(e:fQ X.K (.type t) (.type T)=some k)
  (h:∀q,Q (.bool k) { s with toks:=q }):aD (aT X.prog X.w) X.A (call (.builtin "isinstance") [.ref u,.type T]) Q X.xe s:=by
 rcases v with rfl|rfl
 ·exact cO uE I.kIn l e nofun h
 ·exact cO oV I.kIn l e nofun h
theorem Tl(B:tL T):CallR X (.builtin "isinstance") (λxs H Q=>∃v,xs=[v,.ty T]/\vx X.K (iM [T]) v H Q):=by
 intro E s σ H xs us Q I r C;obtain⟨v,e,ρ,st,d,g,rv,p⟩:=C;subst e;obtain⟨u,c,rfl,l,U⟩:=GL r;have ew:c=rH T:=U;subst ew;have fin:∀k:Bool,Q (.bl k) H->∀O,EP X E σ Q (.bool k) { s with toks:=O }:=λk q O=>⟨.bl k,H,I.tok O,rfl,q⟩
 cases rv with
 |non=>
  refine F_ I l .non (B.non _) (fin _ ?_);simpa [iM,tG] using p.ret g _ (.bl _)
 |bl k=>
  refine F_ I l (.bl k) (B.bl _) (fin _ ?_);simpa [iM,tG] using p.ret g _ (.bl _)
 |int k=>
  refine F_ I l (.int k) (B.int _) (fin _ ?_);simpa [iM,tG] using p.ret g _ (.bl _)
 |str k=>
  refine F_ I l (.str k) (B.str _) (fin _ ?_);simpa [iM,tG] using p.ret g _ (.bl _)
 |tup h r=>
  have L:u=aV _:=l;subst L;obtain⟨its,_,⟨o,J,G,_⟩,_⟩:=I.tuple h;refine Jg I ⟨o,J,G⟩ (.inl rfl) (B.tup _) (fin _ ?_);simpa [iM,tG] using p.ret g _ (.bl _)
 |lit h r=>
  have L:u=aV _:=l;subst L;obtain⟨its,_,Y,_⟩:=I.list h.seq;obtain⟨o,J,G,_⟩:=Y.isList;refine Jg I ⟨o,J,G⟩ (.inr rfl) (B.lst _) (fin _ ?_);simpa [iM,tG] using p.ret g _ (.bl _)
 |@ref a n kk h=>
  have L:u=aV _:=l;subst L;obtain⟨vs,hv⟩:=Le kk;obtain⟨its,_,Y,_⟩:=I.list (gY.of hv);obtain⟨o,J,G,_⟩:=Y.isList;refine Jg I ⟨o,J,G⟩ (.inr rfl) (B.lst _) (fin _ ?_);simpa [iM,tG] using p.ret g _ (.bl _)
 |_=>exact p.elim
theorem T7{y:Str}{g:Pos}(B:tL T)(hg:Gl X "isinstance")(hm:X.mg "isinstance"=none)(E:Gl X y)(C:X.mg y=none)(o:cM y=some (.type T))(ha:SE X e fa)(c:cM "isinstance"=some (.builtin "isinstance"))
  (u:y≠"__name__":=by decide) (I:(y == ("__debug__":Str))=false:=by decide)
  (J:starEach [e,.Name y g] X.env=(false,eval e X.env)::starEach [.Name y g] X.env:=by rfl) (G:starEach [.Name y g] X.env=(false,eval (.Name y g) X.env)::starEach [] X.env:=by rfl) (q:(backTo pos (starEach [.Name y g] X.env)).any (·.1)=false:=by rfl):
  SE X (.Call (.Name "isinstance" p) [e,.Name y g] [] pos) (c1 (iM [T]) fa):=
 (DE (Tl B) hg hm c (qA ha (qA (NN (v:=.ty T) E C o rfl u I) uz G) J) (by decide) (by decide) J q).of λσ H Q h_=>h_.el λρ l st Y L p=>⟨ρ,l,st,Y,L,p.bnd.imp λd h ρ1 H1 x1 O g v U=>⟨v,rfl,ρ1,h,d,O,U,g⟩⟩
end
section
variable{X:Cx}{K:aj}{ρ:List ao}{H:Hp}{st:aZ}{cp:List (ao×Obj)}{σ:St}{s:am}
theorem IB{f:D->D->Option Bool}:∀{xs ys:List D}{r:Bool},oD f xs ys=some r->∀(j:Nat)(x y:D),xs[j]?=some x->ys[j]?=some y->∃k,f x y=some k
 |[],_,_,_,j,x,y,h,_=>by cases j<;>cases h
 |_::_,[],_,_,j,x,y,_,h=>by cases j<;>cases h
 |a::xs,b::ys,r,h,j,x,y,hx,hy=>by
  unfold oD at h;cases e:f a b with
  |none=>rw[e]at h;cases h
  |some k=>
   cases j with
   |zero=>cases hx;cases hy;exact⟨k,e⟩
   |succ j=>
    rw[e]at h;have g:xs[j]?=some x:=hx;have c:ys[j]?=some y:=hy;cases k with
    |true=>exact IB h j x y g c
    |false=>
     cases l:oD f xs ys with
     |none=>rw[l]at h;cases h
     |some r'=>exact IB l j x y g c
noncomputable def B_(f:D->D->Option Bool)(xs ys:List D)(j:Nat):Bool:=match xs[j]?,ys[j]? with
 |some x,some y=>(f x y).getD false
 |_,_=>true
theorem Nt{f:D->D->Option Bool}:∀{xs ys:List D}{r:Bool},oD f xs ys=some r->r=((cg (min xs.length ys.length)).all (B_ f xs ys)&&xs.length == ys.length)
 |[],[],_,h=>by cases h;rfl
 |_::_,[],_,h=>by cases h;simp
 |[],_::_,_,h=>by cases h;simp
 |a::xs,b::ys,r,h=>by
  have step:(cg (min (a::xs).length (b::ys).length)).all (B_ f (a::xs) (b::ys))=((f a b).getD false&&(cg (min xs.length ys.length)).all (B_ f xs ys)):=by
   have e:min (a::xs).length (b::ys).length=min xs.length ys.length+1:=by simp only[bC];ext
   rw[e,mW,cB,Co];rfl
  rw[step];unfold oD at h;cases e:f a b with
  |none=>rw[e]at h;cases h
  |some k=>
   rw[e]at h;cases k with
   |true=>
    have:=Nt h;simp only[fq,Bool.true_and,bC];rw[this];congr 1;rw[yY];simp
   |false=>
    simp only[fq,si];cases c:oD f xs ys with
    |none=>rw[c]at h;cases h
    |some r'=>rw[c]at h;cases h;rfl
theorem b7.at{c:List V}{g:List ag}{j:Nat}{u:ag}(r:b7 c g)(h:g[j]?=some u):∃v,c[j]?=some v/\RelV v u:=by
 have q:=r.length;have l:j < c.length:=by rw[q];exact (ac.mp h).1
 obtain⟨u',e,o⟩:=r.get (ai l);rw[h]at e;cases e;exact⟨_,ai l,o⟩
theorem bT.at{c:List V}{ds:List D}{j:Nat}{v:V}(r:bT K ρ H c ds)(h:c[j]?=some v):∃d,ds[j]?=some d/\dA K ρ H v d:=by
 have o:=r.length;have g:j < ds.length:=by rw[<- o];exact (ac.mp h).1
 obtain⟨q,e,l⟩:=r.get (ai g);rw[h]at e;cases e;exact⟨_,ai g,l⟩
theorem Mo{g:List D->List D->Option Bool}{v:V}{d e:D}{r:Bool}(I:Inv X cp σ H s)(q:∀xs ys l k,bT X.K ρ H l xs->bT X.K ρ H l ys->g xs ys=some k->k=true)(h:Fq g d e=some r)(o:dA X.K ρ H v d)(c:dA X.K ρ H v e):r=true:=by
 cases o with
 |non=>cases c;cases h;rfl
 |bl b=>cases c;cases h;simp
 |int b=>cases c;cases h;simp
 |str b=>cases c;cases h;simp
 |tup h1 q1=>
  cases c with
  |tup h2 q2=>
   have:=I.tuple_inj h1 h2;subst this;exact q _ _ _ _ q1 q2 h
  |_=>cases h
 |_=>cases e<;>cases h
theorem Nc{f:D->D->Option Bool}(q:∀v d e k,dA K ρ H v d->dA K ρ H v e->f d e=some k->k=true){xs ys:List D}{g:List V}{k:Bool}(o:bT K ρ H g xs)(l:bT K ρ H g ys)(h:oD f xs ys=some k):k=true:=by
 induction xs generalizing ys g k with
 |nil=>cases o;cases l;cases h;rfl
 |cons x xs ih=>
  cases o with
  |cons a b=>cases l with
   |cons c d=>
    unfold oD at h;cases e:f _ _ with
    |none=>rw[e]at h;cases h
    |some k=>
     rw[e]at h;have:=q _ _ _ _ a c e;subst this;exact ih b d h
theorem LJ(I:Inv X cp σ H s):∀(n:Nat){v:V}{d e:D}{r:Bool},v6 n d e=some r->dA X.K ρ H v d->dA X.K ρ H v e->r=true
 |0,_,_,_,_,h,r1,r2=>Mo I (λ_ _ _ _ _ _ z=>by cases z) h r1 r2
 |n+1,_,_,_,_,h,r1,r2=>Mo I (λxs ys o k l g z=>Nc (λv d e k a b c=>LJ I n c a b) l g z) h r1 r2
open SeqAt in
noncomputable abbrev SD(A:bv)(s:am)(g c:ag)(r:Bool):Prop:=RcAt A s g c r/\RcNeAt A s g c (!r)/\EqAt A s g c r
open SeqAt in
theorem L0{g:List D->List D->Option Bool}{A:bv}{v w:V}{u l:ag}{d e:D}{r:Bool}(I:Inv X cp σ H s)(hu:A.units < cA)
  (hg:∀xs ys k,g xs ys=some k->∀q ws its o,bT X.K ρ H q xs->bT X.K ρ H ws ys->b7 q its->b7 ws o ->
   ∃e:Nat->Bool,k=((cg (min its.length o.length)).all e&&its.length == o.length)/\∀(j:Nat)x y,its[j]?=some x->o[j]?=some y->EqAt A.in1 s x y (e j))
  (hs:∀xs ys q k,bT X.K ρ H q xs->bT X.K ρ H q ys->g xs ys=some k->k=true)
  (h:Fq g d e=some r) (r1:dA X.K ρ H v d) (B:dA X.K ρ H w e) (v1:RelV v u) (v2:RelV w l):SD A s u l r:=by
 cases r1 with
 |lit _ _=>cases e<;>cases h
 |ref _ _=>cases e<;>cases h
 |dic _ _=>cases e<;>cases h
 |exn0 _ _=>cases e<;>cases h
 |exn _ _ _ _=>cases e<;>cases h
 |fn _=>cases e<;>cases h
 |non=>
  cases (show u=bF from v1);cases B with
  |non=>cases (show l=bF from v2);cases h;exact⟨.none_none,.none_none,.same _⟩
  |bl b=>cases (show l=df b from v2);cases h;exact⟨.none_bool b,.none_bool b,.none_bool b⟩
  |int b=>obtain⟨t,rfl⟩:=(show ∃t,l=fZ b t from v2);cases h;exact⟨.none_int b t,.none_int b t,.none_int b t⟩
  |str b=>obtain⟨t,rfl⟩:=(show ∃t,l=iE b t from v2);cases h;exact⟨.none_str b t,.none_str b t,.none_str b t⟩
  |tup h2 q2=>cases (show l=aV _ from v2);cases h;obtain⟨_,_,p,_⟩:=I.tuple h2;exact⟨.none_tuple p hu,.none_tuple p hu,.none_tuple p hu⟩
  |_=>cases h
 |bl a=>
  cases (show u=df a from v1);cases B with
  |non=>cases (show l=bF from v2);cases h;exact⟨.bool_none a,.bool_none a,.bool_none a⟩
  |bl b=>cases (show l=df b from v2);cases h;exact⟨.bool_bool a b,.bool_bool a b,.bool_bool a b⟩
  |int b=>obtain⟨t,rfl⟩:=(show ∃t,l=fZ b t from v2);cases h;exact⟨.bool_int a b t,.bool_int a b t,.bool_int a b t⟩
  |str b=>obtain⟨t,rfl⟩:=(show ∃t,l=iE b t from v2);cases h;exact⟨.bool_str a b t,.bool_str a b t,.bool_str a b t⟩
  |tup h2 q2=>cases (show l=aV _ from v2);cases h;obtain⟨_,_,p,_⟩:=I.tuple h2;exact⟨.bool_tuple a p hu,.bool_tuple a p hu,.bool_tuple a p hu⟩
  |_=>cases h
 |int a=>
  obtain⟨c,rfl⟩:=(show ∃t,u=fZ a t from v1)
  cases B with
  |non=>cases (show l=bF from v2);cases h;exact⟨.int_none a c,.int_none a c,.int_none a c⟩
  |bl b=>cases (show l=df b from v2);cases h;exact⟨.int_bool a c b,.int_bool a c b,.int_bool a c b⟩
  |int b=>obtain⟨t,rfl⟩:=(show ∃t,l=fZ b t from v2);cases h;exact⟨.int_int a c b t,.int_int a c b t,.int_int a c b t⟩
  |str b=>obtain⟨t,rfl⟩:=(show ∃t,l=iE b t from v2);cases h;exact⟨.int_str a c b t,.int_str a c b t,.int_str a c b t⟩
  |tup h2 q2=>cases (show l=aV _ from v2);cases h;obtain⟨_,_,p,_⟩:=I.tuple h2;exact⟨.int_tuple a c p hu,.int_tuple a c p hu,.int_tuple a c p hu⟩
  |_=>cases h
 |str a=>
  obtain⟨c,rfl⟩:=(show ∃t,u=iE a t from v1)
  cases B with
  |non=>cases (show l=bF from v2);cases h;exact⟨.str_none a c,.str_none a c,.str_none a c⟩
  |bl b=>cases (show l=df b from v2);cases h;exact⟨.str_bool a c b,.str_bool a c b,.str_bool a c b⟩
  |int b=>obtain⟨t,rfl⟩:=(show ∃t,l=fZ b t from v2);cases h;exact⟨.str_int a c b t,.str_int a c b t,.str_int a c b t⟩
  |str b=>obtain⟨t,rfl⟩:=(show ∃t,l=iE b t from v2);cases h;exact⟨.str_str a c b t,.str_str a c b t,.str_str a c b t⟩
  |tup h2 q2=>cases (show l=aV _ from v2);cases h;obtain⟨_,_,p,_⟩:=I.tuple h2;exact⟨.str_tuple a c p hu,.str_tuple a c p hu,.str_tuple a c p hu⟩
  |_=>cases h
 |@tup l1 q xs h1 q1=>
  cases (show u=aV _ from v1);obtain⟨its,Y,p,_⟩:=I.tuple h1;cases B with
  |non=>cases (show l=bF from v2);cases h;exact⟨.tuple_none p hu,.tuple_none p hu,.tuple_none p hu⟩
  |bl b=>cases (show l=df b from v2);cases h;exact⟨.tuple_bool b p hu,.tuple_bool b p hu,.tuple_bool b p hu⟩
  |int b=>obtain⟨t,rfl⟩:=(show ∃t,l=fZ b t from v2);cases h;exact⟨.tuple_int b t p hu,.tuple_int b t p hu,.tuple_int b t p hu⟩
  |str b=>obtain⟨t,rfl⟩:=(show ∃t,l=iE b t from v2);cases h;exact⟨.tuple_str b t p hu,.tuple_str b t p hu,.tuple_str b t p hu⟩
  |@tup l2 ws ys h2 q2=>
   cases (show l=aV _ from v2);obtain⟨o,G,L,_⟩:=I.tuple h2;obtain⟨ef,ek,he⟩:=hg xs ys r h q ws its o q1 q2 Y G;have C:∀j(U:j < its.toArray.size)(Q:j < o.toArray.size),EqAt A.in1 s its.toArray[j] o.toArray[j] (ef j):=λj U Q=>
    he j _ _ (by rw[kF];exact ai (by simpa using U)) (by rw[kF];exact ai (by simpa using Q))
   have E:=RcAt.tuples (A:=A) (s:=s) p L hu C;have J:=RcNeAt.tuples (A:=A) (s:=s) p L hu C;simp only[aF]at E J;rw[<- ek]at E J;refine⟨E,J,?_⟩;by_cases O:l1=l2
   ·subst O;have:=I.tuple_inj h1 h2;subst this;rw[hs xs ys q r q1 q2 h];exact .same _
   ·exact .of_refs O E
  |_=>cases h
open SeqAt in
theorem Ku{n:Nat}{A:bv}(I:Inv X cp σ H s)
  (ih:∀{v w:V}{u q:ag}{d e:D}{r:Bool},v6 n d e=some r->dA X.K ρ H v d->dA X.K ρ H w e->RelV v u->RelV w q->EqAt A s u q r)
  {xs ys:List D}{k:Bool} (h:oD (v6 n) xs ys=some k) {o ws:List V}{its c:List ag} (E:bT X.K ρ H o xs) (C:bT X.K ρ H ws ys) (B:b7 o its) (g:b7 ws c):
  ∃e:Nat->Bool,k=((cg (min its.length c.length)).all e&&its.length == c.length)/\∀(j:Nat)x y,its[j]?=some x->c[j]?=some y->EqAt A s x y (e j):=by
 refine⟨B_ (v6 n) xs ys,?_,λj x y hx hy=>?_⟩
 ·have l:=B.length;have c:=g.length;have Y:=E.length;have U:=C.length;rw[<- l,<- c,Y,U];exact Nt h
 ·obtain⟨v,o,L⟩:=b7.at B hx;obtain⟨w,c,l⟩:=b7.at g hy;obtain⟨d,hd,Q⟩:=bT.at E o;obtain⟨e,J,O⟩:=bT.at C c;obtain⟨r,G⟩:=IB h j d e hd J;have:B_ (v6 n) xs ys j=r:=by unfold B_;rw[hd,J];dsimp only;rw[G];rfl
  rw[this];exact ih G Q O L l
open SeqAt in
theorem G9(I:Inv X cp σ H s):∀(n:Nat){A:bv}{v w:V}{q o:ag}{d e:D}{r:Bool},A.units+n < cA->v6 n d e=some r->dA X.K ρ H v d->dA X.K ρ H w e->RelV v q->RelV w o->RcAt A s q o r/\RcNeAt A s q o (!r)/\EqAt A s q o r
 |0,_,_,_,_,_,_,_,_,hu,h,l,g,v1,v2=>L0 I hu (λ_ _ _ z=>by cases z) (λ_ _ _ _ _ _ z=>by cases z) h l g v1 v2
 | n+1, A, _, _, _, _, _, _, _, hu, h, l, g, v1, v2 => L0 I (by ext)
   (λxs ys k z G ws its E C B J u=>Ku I (λh l g v1 v2=>(G9 I n (A:=A.in1) (by show A.units+1+n < cA;ext) h l g v1 v2).2.2) z C B J u)
   (λxs ys G k C B z=>Nc (λv d e k a b c=>LJ I n c a b) C B z) h l g v1 v2
end
section
variable{X:Cx}{K:aj}{ρ:List ao}{H:Hp}{st:aZ}{cp:List (ao×Obj)}{σ:St}{s:am}
open SeqAt in
theorem ME(hu:X.A.units+60 < cA)(I:Inv X cp σ H s)(l:SR X.K ρ H st){d e:D}{x y:V}{v u:ag}{R:Bool->aZ->List ao->Hp->Prop}(r1:dA X.K ρ H x d)(L:dA X.K ρ H y e)(rx:RelV x v)(ry:RelV y u)
  (p:aN X.K ρ H (HZ d e st) R):∃r,R r st ρ H/\RcAt X.A s v u r/\RcNeAt X.A s v u (!r):=by
 have g:X.A.units < cA:=by ext
 have G:aN X.K ρ H ((match v6 50 d e with|some r=>ret r|none=>bad:M Bool) st) R->∃r,R r st ρ H/\RcAt X.A s v u r/\RcNeAt X.A s v u (!r):=λq=>by
  cases h:v6 50 d e with
  |none=>rw[h]at q;exact q.elim
  |some r=>
   rw[h]at q;obtain⟨k1,k2,_⟩:=G9 I 50 (A:=X.A) (by ext) h r1 L rx ry;exact⟨r,q.ret l,k1,k2⟩
 cases r1 with
 |non=>
  cases L with
  |@ref a n _ h=>
   obtain⟨ds,e2,O⟩:=aN.getL (aN.bnd p) l;obtain⟨a',vs,C,Q,r⟩:=l.seq e2;rw[h]at C;cases C;cases (show v=bF from rx);cases (show u=aV a from ry);obtain⟨_,_,o,_⟩:=I.list (gY.of Q);exact⟨false,O.ret l,.none_list o.isList g,.none_list o.isList g⟩
  |_=>exact G p
 |@ref a n _ h=>
  cases L with
  |non=>
   obtain⟨ds,e2,O⟩:=aN.getL (aN.bnd p) l;obtain⟨a',vs,C,Q,r⟩:=l.seq e2;rw[h]at C;cases C;cases (show u=bF from ry);cases (show v=aV a from rx);obtain⟨_,_,o,_⟩:=I.list (gY.of Q);exact⟨false,O.ret l,.list_none o.isList g,.list_none o.isList g⟩
  |@ref b m _ h'=>
   obtain⟨xs,e2,O⟩:=aN.getL (aN.bnd p) l;obtain⟨ys,e3,E⟩:=aN.getL (aN.bnd O) l;obtain⟨a',vs,C,Q,q1⟩:=l.seq e2;obtain⟨b',ws,hb,hw,q2⟩:=l.seq e3;rw[h]at C;cases C;rw[h']at hb;cases hb;cases (show v=aV a from rx);cases (show u=aV b from ry);obtain⟨its,rv,o,_⟩:=I.list (gY.of Q);obtain⟨c,J,B,_⟩:=I.list (gY.of hw);have l1:=rv.length;have l2:=J.length;have l3:=q1.length;have l4:=q2.length;by_cases hl:xs.length=ys.length
   ·rw[aG hl]at E;cases q:oD (v6 50) xs ys with
    |none=>rw[q]at E;exact E.elim
    |some r=>
     rw[q]at E;obtain⟨v,O,H⟩:=Ku (A:=X.A.in1) I (λh r1 L v1 v2=>(G9 I 50 (A:=X.A.in1) (by show X.A.units+1+50 < cA;ext) h r1 L v1 v2).2.2) q q1 q2 rv J;have hsz:its.toArray.size=c.toArray.size:=by rw[aF,aF];ext
     have Y:∀j(G:j < its.toArray.size)(C:j < c.toArray.size),EqAt X.A.in1 s its.toArray[j] c.toArray[j] (v j):=λj G C=>
      H j _ _ (by rw[kF];exact ai (by simpa using G)) (by rw[kF];exact ai (by simpa using C))
     have u:(cg its.toArray.size).all v=r:=by
      rw[O,aF];have:its.length=c.length:=by ext
      rw[this];simp
     have k1:=RcAt.lists (A:=X.A) (s:=s) o.isList B.isList hsz g Y;have k2:=RcNeAt.lists (A:=X.A) (s:=s) o.isList B.isList hsz g Y;rw[u]at k1 k2;exact⟨r,E.ret l,k1,k2⟩
   ·rw[aC hl]at E;have U:(its.toArray.size != c.toArray.size)=true:=by rw[aF,aF];simp;ext
    exact⟨false,E.ret l,.lists_lengths o.isList B.isList U g,.lists_lengths o.isList B.isList U g⟩
  |_=>exact G p
 |_=>cases e<;>exact G p
theorem Tz(hu:X.A.units+60 < cA):OpR X (cX .Eq) (pW X.K o8):=by intro cp s σ H x y v u Q I l h c;obtain⟨ρ,st,d,e,g,B,o,p⟩:=c;obtain⟨r,q,C,_⟩:=ME hu I g B o l h p.bnd;exact C _ _ _ _ ⟨.bl r,H,I,rfl,q.ret g _ (.bl _)⟩
theorem Q3(hu:X.A.units+60 < cA):OpR X (cX .NotEq) (pW X.K DX):=by intro cp s σ H x y v u Q I l h c;obtain⟨ρ,st,d,e,g,B,o,p⟩:=c;obtain⟨r,q,_,C⟩:=ME hu I g B o l h p.bnd;exact C _ _ _ _ ⟨.bl (!r),H,I,rfl,q.ret g _ (.bl _)⟩
end
section
variable{X:Cx}{a b c e o tg:Expr}{es:List Expr}{pos ec dc:Pos}{fa fb fc:CE}{ca cb:CA}{ta tb:CT}{K:aj}{ρ:List ao}{H:Hp}{st:aZ}{x:Str}{p:Pos}{T:String}
theorem VR(ho : SE X o fa)(E : SE X e fb)(u : dI o "append" X.env (eval o X.env) = eval o X.env := by rfl)
  (C:((backTo dc (starEach [e] X.env)).all (λx => !x.1)&&(rP dc (mU [] X.env)).all (λx=>x.1.isSome)
   && decide ([e].length+([]:List kr).length+(if ([]:List kr).isEmpty then 0 else 1) < 30))=true:=by rfl)
  (q:(ec.endLine == dc.line)=true:=by rfl) (hs:starEach [e] X.env=(false,eval e X.env)::starEach [] X.env:=by rfl) (g:(backTo dc (starEach [] X.env)).any (·.1)=false:=by rfl):
  SE X (.Call (.Attribute o "append" ec) [e] [] dc) (dO fa fb):=
 (WU so PySem.F.slot_list_append PySem.F.type_list_append Mk ho (qA E uz hs) u C q hs g).of λσ H Q h_=>h_.el λρ l st lr sr p=>⟨ρ,l,st,lr,sr,p.bnd.imp λd B ρ1 H1 x1 c p1 v rv=>by
  cases rv with
  |@ref a n kk h=>
   have hl:n < B.length:=by rw[<- c.len];exact (ac.mp h).1
   obtain⟨G,O⟩:=Le kk;refine⟨.inl ⟨rfl,G,gY.of O⟩,ρ1,l,B,lr.mono x1,c,(aN.bnd p1).imp λy st2 ρ2 H2 x2 I p2 w J=>?_⟩;have h2:ρ2[n]?=some a:=by obtain⟨τ,e,_⟩:=x2.pre;rw[e];exact wP h
   obtain⟨ds,U,p3⟩:=aN.getL (aN.bnd p2) I;obtain⟨a',vs,E,hv,r⟩:=I.seq U;rw[h2]at E;cases E;obtain⟨hz,p4⟩:=aN.chk p3;obtain⟨Y,x3⟩:=I.put (ac.mp U).1 h2 hv (bT.app r (.cons J .nil));have L:=aN.bnd p4;unfold putL at L;rw[U]at L;exact⟨a,vs,w,rfl,rfl,hv,by rw[r.length];exact hz,(L ρ2 _ x3 Y).ret Y _ .non⟩
  |_=>exact p1.elim⟩
theorem VN:OpR X (eZ .Add) (pW X.K fw):=by
 intro g s σ H x y v u Q I Y U J;obtain⟨ρ,st,d,e,l,r1,r2,p⟩:=J;cases d with
 |int i=>
  cases e with
  |int j=>
   cases r1.inv;cases r2.inv;exact Rv g s σ H _ _ v u Q I Y U ⟨i,j,rfl,rfl,p.ret l _ (.int _)⟩
  |_=>exact p.elim
 |str i=>
  cases e with
  |str j=>
   cases r1.inv;cases r2.inv;exact OB g s σ H _ _ v u Q I Y U ⟨i,j,rfl,rfl,(aN.chk p).1,(aN.chk p).2.ret l _ (.str _)⟩
  |_=>exact p.elim
 |ref _=>
  cases e with
  |ref _=>
   obtain⟨_,rfl,_,h⟩:=r1.inv;obtain⟨_,rfl,_,h'⟩:=r2.inv;obtain⟨xs,e2,p1⟩:=aN.getL (aN.bnd p) l;obtain⟨ys,e3,L⟩:=aN.getL (aN.bnd p1) l;obtain⟨a',O,ha,hv,G⟩:=l.seq e2;obtain⟨b',ws,hb,hw,C⟩:=l.seq e3;rw[h]at ha;cases ha;rw[h']at hb;cases hb;obtain⟨hz,p3⟩:=aN.chk L;refine Oa g s σ H _ _ v u Q I Y U ⟨_,_,O,ws,rfl,rfl,hv,hw,by rw[G.length,C.length];exact hz,λq B=>?_⟩;have nq:=l.fresh B;have x1:Ex ρ H (ρ++[q]) (ff H q (.lst (O++ws))):=Ex.newL B;refine p3 _ _ x1 ((l.new B).keep kh nq ((bT.app G C).mono (Ex.new B))) _ (.ref ⟨_,kh,rfl⟩ ?_);rw[<- l.len];simp
  |_=>exact p.elim
 |tup xs=>
  cases e with
  |tup ys=>
   obtain⟨a1,O,rfl,h1,G⟩:=r1.inv;obtain⟨b1,ws,rfl,h2,C⟩:=r2.inv;obtain⟨hz,L⟩:=aN.chk p;by_cases hx:O=[]
   ·subst hx;cases G;obtain⟨its,v1,ht,_⟩:=I.tuple h1;obtain⟨B,v2,hb,_⟩:=I.tuple h2;cases v1;have ev:v=aV a1:=Y;have eu:u=aV b1:=U;subst ev eu;obtain⟨⟨cls,dd,data,sl⟩,J,O,n,hd⟩:=ht;obtain⟨⟨Q,q,data2,h⟩,c,g,n2,o⟩:=hb;simp only at O hd g o;subst O hd g o;refine w_ (E:=X.xe) ⟨_,J,rfl⟩ ⟨_,c,rfl⟩ sN vL mD lZ (lQ _ _) (tuple_addW0 a1 b1 _ _ n n2 dd q sl h (by simp)) ⟨J,c,?_⟩;exact⟨.ref b1,H,I,rfl,L.ret l _ (.tup h2 C)⟩
   ·refine Pp g s σ H _ _ v u Q I Y U ⟨_,_,O,ws,rfl,rfl,h1,h2,hx,by rw[G.length,C.length];exact hz,λc=>?_,λ_ q B=>?_⟩
    ·subst c;cases C;rw[bI]at L;exact L.ret l _ (.tup h1 G)
    ·exact L _ _ (Ex.new B) (l.new B) _ (.tup (iT.of kh) ((bT.app G C).mono (Ex.new B)))
  |_=>exact p.elim
 |_=>cases e<;>exact p.elim
def GV(K:aj)(f:CO):TO:=λσ H Q=>∃ρ l st,LR K ρ H σ l/\SR K ρ H st/\aN K ρ H (f l st) λo _ _ g=>Q o g
abbrev SO(X:Cx)(e:Option Expr)(f:CO):Prop:=PO X e (GV X.K f)
theorem Sw:SO X none tW:=λg s σ H Q I q=>q.el λρ l st u h p=>T_ g s σ H Q I (p.ret h)
theorem TF(h:SE X e fa):SO X (some e) (pJ fa):=λg s σ H Q I J=>J.el λρ l st G B p=>LI h g s σ H Q I ⟨ρ,l,st,G,B,p.bnd.imp λd u ρ1 O L C q v E=>by
 cases E with
 |int i=>exact⟨i,rfl,q.ret C⟩
 |_=>exact q.elim⟩
theorem bT.cut{g:List V}{ds:List D}(r:bT K ρ H g ds)(lo h:Option Int):bT K ρ H (tM g lo h) (cutD ds lo h):=by
 unfold tM cutD;have e:∀n d o,HT.gM n d o=MM.gM n d o:=λn d o=>by cases o<;>rfl
 rw[e,e,r.length];exact (r.drop _).take _
theorem Ts{lo hi:Option Expr}{fl fh:CO}{c:Pos}(h:SE X e fa)(hl:SO X lo fl)(hh:SO X hi fh):SL X (.Subscript e (.Slice lo hi none c) pos) (qL fa fl fh):=
 (KN W9 h hl hh).of λσ H Q h_=>h_.el λρ l st lr sr p=>⟨ρ,l,st,lr,sr,p.bnd0.imp λd O ρ1 H1 C s1 p1 v rv=>⟨ρ1,l,O,lr.mono C,s1,(p1.bnd0.left C).imp λi L ρ2 H2 E s2 c=>⟨ρ2,l,L,(lr.mono C).mono E,s2,(c.bnd0.left (C.trans E)).imp λj J ρ3 H3 x3 G Y=>by
  have U:=(rv.mono E).mono x3;have B:=C.trans (E.trans x3);have fin:∀{a:ao}{u:List V}{ds:List D},gY X.K H3 a u->bT X.K ρ3 H3 u ds->aN X.K ρ H (ret (cutD ds i j) J) (λds _ ρ' H'=>∀a u,H a=none->a∉ρ'->H' a=some (.lst u)->bT X.K ρ' H' u ds->Q (.ref a) H')->CZ X.K (.ref a) i j H3 Q:=λ{a u ds}hs r q=>
   ⟨a,u,rfl,hs,λI g=>by
    have hn:H I=none:=by
     cases z:H I with
     |none=>rfl
     |some o=>exact bn g (B.trk I o z)
    exact q ρ3 _ (B.trans (Ex.new g)) (G.new g) I _ hn (G.fresh g) kh ((bT.cut r i j).mono (Ex.new g))⟩
  cases U with
  |lit h r=>exact fin h.seq r Y
  |ref _ h=>
   obtain⟨ds,e2,p4⟩:=aN.getL (Y.bnd0.left B) G;obtain⟨a',u,ha,hv,r⟩:=G.seq e2;rw[h]at ha;cases ha;exact fin (gY.of hv) r p4
  |_=>exact Y.elim⟩⟩⟩
end
open PySem.AutoSeq1 (wpAny_loadPart')
theorem Ud(l:ao)(items:Array ag)(n:Nat)(dct:Option ao)(B:Array (Option ag)):
  Meets (Builtin.«enumerate.__new__» ⟨[.type "enumerate",.ref l],[]⟩) (λ_ R s=>s.heap.get? l=some { cls:=.type "tuple",dict:=dct,data:=.seq items n,slots:=B } /\
   R (.ok (.ret (.ref (s.heap.push { cls:=.type "tuple_iterator",data:=.fields #[.ref l,.int 0 0] }).objs.size)))
    { s with heap:=(s.heap.push { cls:=.type "tuple_iterator",data:=.fields #[.ref l,.int 0 0] }).push { cls:=.type "enumerate",data:=.fields #[.none,.bool false,.ref s.heap.objs.size,dF 0,.none,.none] } }):=
 .of_wp λprog w A R s h=>by
  obtain⟨C,g,d,v,os⟩:=s;obtain⟨o,h⟩:=h;have q:=sub_enumerate;have u:ua (ub ⟨C,g,d,v,os⟩) l items:=⟨_,o,rfl,n,rfl⟩
  wp_walk using g8 o;refine wpAny_stack_any λst=>ah ?_;split
  ·rename_i c _ _ _ _ _;cases (c == rH "enumerate")<;>(wp_walk using g8 o,kg u;exact⟨_,rfl,h⟩)
  ·wp_walk using g8 o,kg u;exact⟨_,rfl,h⟩
section
variable{prog:Program}{w:bE}{A:bv}{E:ag->am->Prop}{s:am}
theorem QD{l:ao}{items:Array ag}{Q:ag->am->Prop}(C:s.heap.IsTuple l items)
  (h:∀h',IsEnum h' (s.heap.objs.size+1) s.heap.objs.size 0 .none->h'.IsTupleIter s.heap.objs.size l 0->h'.objs.size=s.heap.objs.size+2->(∀b o,s.heap.get? b=some o->h'.get? b=some o)->Q (.ref (s.heap.objs.size+1)) { s with heap:=h' }):
  aD (aT prog w) A (call (.type "enumerate") [.ref l]) Q E s:=by
 obtain⟨⟨c,dct,G,v⟩,B,g,n,hd⟩:=C
 replace g:c=.type "tuple":=g
 replace hd:G=.seq items n:=hd
 subst g hd;refine callType_new F.called_enumerate (by decide) (F.typeCall_enumerate_1 _) (F.newCall_enumerate_1 _) (λobj=>F.args_object_init_2 obj _) F.entry_enumerate_new (Ud l items n dct v) ⟨B,?_⟩;have hz:(s.heap.push { cls:=.type "tuple_iterator",data:=.fields #[.ref l,.int 0 0] }).objs.size=s.heap.objs.size+1:=cu ..
 show _/\_;rw[hz];have u:IsEnum ((s.heap.push { cls:=.type "tuple_iterator",data:=.fields #[.ref l,.int 0 0] }).push { cls:=.type "enumerate",data:=.fields #[.none,.bool false,.ref s.heap.objs.size,dF 0,.none,.none] }) (s.heap.objs.size+1) s.heap.objs.size 0 .none:=by have q:=ay (s.heap.push { cls:=.type "tuple_iterator",data:=.fields #[.ref l,.int 0 0] }) (o:={ cls:=.type "enumerate",data:=.fields #[.none,.bool false,.ref s.heap.objs.size,dF 0,.none,.none] }) rfl;rw[hz]at q;exact q
 exact⟨⟨_,u,rfl⟩,h _ u ⟨_,ak _ (ay _ rfl),rfl,rfl⟩ (by rw[cu,hz]) λb o x=>ak _ (ak _ x)⟩
theorem Ll{g l:ao}{i:Nat}{items}{x:ag}{Q:ag->am->Prop}(c:s.heap.IsTupleIter g l i)(B:s.heap.IsTuple l items)(v:items[i]?=some x)
  (G:∀h',h'.IsTupleIter g l (i+1)->cz g s.heap h'->Q x { s with heap:=h' }):aD (aT prog w) A (bj (.ref g)) Q E s:=by
 obtain⟨o,h,C,hd⟩:=id c;obtain⟨H,q,_,I,u⟩:=B;unfold bj;refine ab (bz (name:=az "__next__") c.typeIs il (bR il c.typeIs tf ?_ (sQ _)))
 show aD _ _ (pz (.ref g) 0 >>= _) _ _ s;refine ab (b8 h hd (x:=.ref l) rfl ?_)
 show aD _ _ (if (aV l == bF)=true then _ else _) _ _ s;rw[aC (show ¬ ((aV l == bF)=true) from aY)]
 show aD _ _ (pz (.ref g) 1 >>= _) _ _ s;refine ab (b8 h hd (x:=.int i 0) rfl ?_)
 show aD _ _ (kW (.ref l) >>= _) _ _ s;refine ab (cN q u ?_);simp only[ba,v];refine ab (mE h hd (by simp) (ah ⟨x,rfl,ah (G _ ⟨_,bJ _ h (ve (lS hd _)),(xL ..).trans C,?_⟩ (bV ..))⟩));rw[lS hd];simp[dF]
theorem Gi{g l:ao}{i:Nat}{items}{Q:ag->am->Prop}(hh:A.handled=none)(c:s.heap.IsTupleIter g l i)(B:s.heap.IsTuple l items)(v:items[i]?=none)
  (C:∀h' e,nQ g s.heap h'->(∃o,h'.get? e=some o/\o.cls=.type "StopIteration")->E (.ref e) { s with heap:=h' }):aD (aT prog w) A (bj (.ref g)) Q E s:=by
 obtain⟨o,q,I,hd⟩:=id c;obtain⟨G,h,_,H,u⟩:=B;unfold bj;refine ab (bz (name:=az "__next__") c.typeIs il (bR il c.typeIs tf ?_ (sQ _)))
 show aD _ _ (pz (.ref g) 0 >>= _) _ _ s;refine ab (b8 q hd (x:=.ref l) rfl ?_)
 show aD _ _ (if (aV l == bF)=true then _ else _) _ _ s;rw[aC (show ¬ ((aV l == bF)=true) from aY)]
 show aD _ _ (pz (.ref g) 1 >>= _) _ _ s;refine ab (b8 q hd (x:=.int i 0) rfl ?_)
 show aD _ _ (kW (.ref l) >>= _) _ _ s;refine ab (cN h u ?_);simp only[ba,v];refine ab (gu (ab (mE q hd (by simp) ?_)));show aD _ _ (xj (.type "StopIteration") [] >>= _) _ _ _;refine ab ?_;simp only[xj,newTuple];refine ab (b9 ?_ (by size_fits));refine ab (m:=kA _ _) (pA (a:=bF) (by first|rfl|(simp only[kA];rfl)) (b9 ?_ (by size_fits)));simp only[raiseNew];refine ab (vT ?_);first|rw[show A.in1.handled=none from hh]|rw[hh]
 exact ab (ah (y8 (C _ _ (((bV ..).extBut.push _).push _) ⟨_,ay _ rfl,rfl⟩)))
end
theorem RA{prog:Program}{w:bE}{A:bv}(hh:A.handled=none)(c l:ao)(u:l≠c)(items:Array ag):
  Draws prog w A c [c,l] items.size (λi v=>items[i]?=some v) (λi h=>h.IsTupleIter c l i/\h.IsTuple l items) where
 live:=λ_ _ st=>let ⟨o,ho,_⟩:=st.1;⟨o,ho⟩
 frame:=λ_ _ _ st B=>⟨let ⟨o,e,r⟩:=st.1;⟨o,B c (by simp) o e,r⟩,let ⟨o,e,r⟩:=st.2;⟨o,B l (by simp) o e,r⟩⟩
 item:=λi s Q E C st G=>Ll st.1 st.2 (x:=items[i]) (by simp[C]) λh' q g=>G _ h' s.toks (by simp[C]) ⟨q,st.2.extBut g.extBut u⟩ g
 done:=λs Q E st H=>Gi hh st.1 st.2 (by simp) H
def IK(K:aj)(a:ao):It:=
 ⟨λi H=>∃xs x,iT K H a xs/\xs[i]?=some x,λi H x c=>∃T v,x=.ref T/\H T=none/\(∀xs,iT K H a xs->xs[i]?=some v)/\c=ff H T (.tup [.int i,v]),λi H=>∃xs,iT K H a xs/\xs.length<=i⟩
section
variable{X:Cx}{tg:Expr}{es:List Expr}{pos:Pos}{fa:CE}{K:aj}{ρ:List ao}{H:Hp}{st:aZ}
theorem VD{P:Program}{w:bE}{k:Nat}(a e B:ao)(hei:e≠B):tR P w K (.Tuple es k pos) (IK K a) [e,B] e (λi h=>(∃old,IsEnum h e B i old)/\h.IsTupleIter B a i) where
 mem:=by simp
 obj:=λi h pq86 b L=>by
  obtain⟨⟨old,J⟩,l⟩:=pq86;rcases aP.mp L with z|z
  ·subst z;exact⟨_,J,λv q=>by cases q⟩
  ·have z':b=B:=by simpa using z
   subst z';obtain⟨o,e,c,d⟩:=l;exact⟨o,e,λv q=>by rw[d]at q;cases q⟩
 keep:=λi h h' pq87 kp=>by obtain⟨⟨old,J⟩,l⟩:=pq87;exact⟨⟨old,kp e (by simp) _ J⟩,let ⟨o,x,r⟩:=l;⟨o,kp B (by simp) o x,r⟩⟩
 item:=by
  intro X hP hw hK hc i O s σ H E I hf pq145 hg;obtain⟨⟨old,J⟩,l⟩:=pq145;subst hP hw hK;obtain⟨xs,x,hq,hx⟩:=hg;obtain⟨its,rv,p,hz⟩:=I.tuple hq;obtain⟨u,hu,ru⟩:=rv.get hx;have hlt:i < its.toArray.size:=by rw[aF];exact (ac.mp hu).1
  obtain⟨f0,f1,f2,f3,f4,f5⟩:=hf e (by simp);obtain⟨g0,g1,g2,g3,g4,g5⟩:=hf B (by simp);have hai:a≠B:=λz=>by obtain⟨o,G,c,_⟩:=l;obtain⟨o',e2,c',_⟩:=p;rw[z,G]at e2;cases e2;rw[c]at c';exact bn (vf c') (by decide)
  have hae:a≠e:=λz=>by obtain⟨o',e2,c',_⟩:=p;rw[z,J]at e2;cases e2;exact bn (vf c') (by decide)
  have D:=RA (prog:=X.prog) (w:=X.w) (A:=X.A.in1) (I.ok.hd hc) B a hai its.toArray;refine wpAny_pyNext_enum_itemD D J ⟨l,p⟩ hlt hei (by simp;exact⟨hei,hae.symm⟩) λy h' tk hP ho hst hT hsz hk=>?_;have ey:y=u:=by
   have:its.toArray[i]?=some u:=by simpa using hu
   rw[this]at hP;cases hP;rfl
  subst ey;refine⟨_,rfl,wpAny_letOwnedTupleGo_enum ho λh2 he2 hs2=>?_⟩;have Q:e < s.heap.objs.size:=aI J;have C:H s.heap.objs.size=none:=I.hok.fresh (av _);have keep:∀b o,b≠e->b≠B->s.heap.get? b=some o->h2.get? b=some o:=λb o hb1 hb2 G=>(hs2.2 b hb1).trans (hk b o hb1 hb2 G);have hT2:h2.get? s.heap.objs.size=some { cls:=.type "tuple",data:=.seq #[.int i tk,y] }:=(hs2.2 _ (dj Q)).trans hT;have I2:Inv X O σ (ff H s.heap.objs.size (.tup [.int i,x])) { s with heap:=h2,toks:=tk+1 }:=by
   have ne:∀b o,H b=some o->b≠e/\b≠B:=λb o q=>⟨λz=>(by rw[z,f0]at q;cases q),λz=>(by rw[z,g0]at q;cases q)⟩
   refine I.step (g':=s.gens) (d':=s.drawn) (ch:=[e,B]) (λb L=>?_) (λb o _ _ g G _=>keep b o (λz=>g (by simp[z])) (λz=>g (by simp[z])) G)
    (λb o _ _ g G _=>⟨o.slots,keep b o (λz=>g (by simp[z])) (λz=>g (by simp[z])) G⟩) (λb o g G n1=>by rw[fO (bb (aI G))];exact n1) (λb o g G=>⟨o,keep b o (λz=>g (by simp[z])) (λz=>g (by simp[z])) G⟩)
    (λb ys q=>by rw[fO (mI q C)];exact q) (λb o ys q=>by rw[fO (mI q C)];exact q) (λb ps q=>⟨#[],by rw[fO (mI q C),q];simp⟩) (λm hm=>?_) ?_ I.bare
   ·rcases aP.mp L with z|z
    ·subst z;exact⟨f3,f1,f4,f5⟩
    ·have z':b=B:=by simpa using z
     subst z';exact⟨g3,g1,g4,g5⟩
   ·obtain⟨o,c,ep,G,r⟩:=hm;exact⟨o,c,ep,keep _ o f1.symm g1.symm G,r⟩
   ·intro b o q;by_cases L:b=s.heap.objs.size
    ·subst L;rw[kh]at q;cases q;exact⟨by show 2<=sizeLine;decide,[.int i tk,y],.cons ⟨tk,rfl⟩ (.cons ru .nil),⟨_,hT2,rfl,⟨_,rfl⟩,rfl⟩⟩
    ·rw[fO L]at q;have:=ne b o q;refine (I.hok b o q).stay (λc v g r=>keep c v ?_ ?_ r) (λc U=>by rw[fO (mI U C)];exact U) λc ys U=>by rw[fO (mI U C)];exact U
     ·rcases g with z|z
      ·rw[z];exact this.1
      ·exact (ne c _ z).1
     ·rcases g with z|z
      ·rw[z];exact this.2
      ·exact (ne c _ z).2
  refine⟨.ref s.heap.objs.size,_,I2,rfl,⟨_,x,rfl,C,λys hy=>by rw[I.tuple_inj hy hq];exact hx,rfl⟩,⟨⟨y,by simpa using he2⟩,let ⟨o,x1,r⟩:=hst.1;⟨o,(hs2.2 B hei.symm).trans x1,r⟩⟩,λb L=>?_⟩;rw[fO]
  ·exact (hf b L).1
  ·intro z;have:b < s.heap.objs.size:=by
    rcases aP.mp L with q|q
    ·rw[q];exact Q
    ·have U:b=B:=by simpa using q
     rw[U];obtain⟨o,x1,_⟩:=l;exact aI x1
   exact bn this (by rw[z];exact cq _)
 done:=by
  intro X hP hw hK hc i O s σ H E I hf Y hg;obtain⟨⟨old,J⟩,l⟩:=Y;subst hP hw hK;obtain⟨xs,hq,hx⟩:=hg;obtain⟨its,rv,p,hz⟩:=I.tuple hq;obtain⟨g0,g1,g2,g3,g4,g5⟩:=hf B (by simp);have hl:=rv.length;have hT:s.TypeIs (.ref e) "enumerate":=⟨_,J,rfl⟩
  unfold gD;refine ab (gw (bz (name:=az "__next__") hT wg (bR wg hT F.entry_enumerate_next ?_ (F.args_enumerate_next_1 _))))
  show aD _ _ (pz (.ref e) 2 >>= _) _ _ _;refine ab (b8 J rfl (x:=.ref B) rfl ?_);refine ab (Gi (A:=X.A.in1) (I.ok.hd hc) l p (by simp;ext) λh' x he' pq88=>?_);obtain⟨o,ho,g⟩:=pq88;exact ab (dk (T:="StopIteration") (b:=true) ⟨o,ho,g⟩ mF (ah ⟨rfl,I.turned (t':=s.toks) (λb o L e=>he' b o L e) g0 g1 g3 g4 g5⟩))
 self:=λ_ _ _ _ _ pq89 h=>by obtain⟨⟨old,J⟩,_⟩:=pq89;exact Cp J h
theorem Pf{b : Expr}{p G : Pos}{k : Nat}(hg : Gl X "enumerate")(hm : X.mg "enumerate" = none)(h : SE X b fa)(hs : starEach [b] X.env = [(false, eval b X.env)] := by rfl):
  SI X (.Tuple es k G) (.Call (.Name "enumerate" p) [b] [] pos) (tN fa):=by
 intro g s σ H R I o;obtain⟨ρ,l,st,lr,sr,q⟩:=o;refine Call_ (xw I hg hm boot_enumerate (cW (fU (GU h GY hs pos g s σ H (λY C=>∃a xs,Y=[.ref a]/\iT X.K C a xs/\R (IK X.K a) C) I ⟨ρ,l,st,lr,sr,?_⟩) λus c ⟨Y,C,U,r1,q1⟩=>?_) hs rfl))
 ·have E:=aN.bnd q
  show aN X.K ρ H (MM.bnd (fa l) _ st) _;unfold MM.bnd;cases e:fa l st with
  |bad=>rw[e]at E;exact E
  |exc _ _=>rw[e]at E;exact E
  |ok d eg=>
   rw[e]at E
   show ∀ρ' H',Ex ρ H ρ' H'->SR X.K ρ' H' eg->_;intro ρ1 C x1 c Y rvs;have Q:=E ρ1 C x1 c;cases rvs with
   |cons O rt=>
    cases rt;cases O with
    |@tup a ws ds ht r=>
     refine⟨a,ws,rfl,ht,Q.ret c _ ?_⟩;intro ρ2 H2 st2 x2 s2 _;have U:=r.length;have B:iT X.K H2 a ws:=iT.mono x2.up ht;have len:((kN 0 ds.length).zipWith (λi d=>D.tup [i,d]) ds).length=ds.length:=by simp[kN]
     refine⟨⟨ws,B,by rw[len,U];exact av _⟩,λi d h=>?_⟩;have g:i < ds.length:=by rw[<- len];exact (ac.mp h).1
     have ed:d=.tup [.int i,ds[i]]:=by rw[fC,kN,ar,ip g,ai g]at h;have:=aE h;rw[<- this];simp
     subst ed;obtain⟨v,u,O⟩:=(r.mono x2).get (ai g);refine⟨⟨ws,v,B,u⟩,λy H3 J=>?_⟩;obtain⟨T,w,ey,G,L,eH⟩:=J;subst ey eH;have I:=L ws B;rw[u]at I;cases I;have o:Ex ρ2 H2 ρ2 (ff H2 T (.tup [.int i,v])):=Ex.new G;exact⟨o,s2.new G,.tup (iT.of kh) (.cons (.int _) (.cons (O.mono o) .nil))⟩
    |_=>exact Q.elim
 ·obtain⟨a,xs,e,B,G⟩:=q1;subst e;obtain⟨u,rfl,q⟩:=uV r1;cases q;obtain⟨its,O,Q,hz⟩:=U.tuple B;refine QD Q λh' l h hsz v=>Cp l ?_;have H:Inv X g σ C { c with heap:=h' }:=U.kept (t':=c.toks) v;refine⟨c.heap.objs.size+1,[c.heap.objs.size+1,c.heap.objs.size],_,IK X.K a,C,rfl,H,VD a (c.heap.objs.size+1) c.heap.objs.size (Nat.succ_ne_self _),⟨⟨_,l⟩,h⟩,λb E=>?_,G⟩;have L:c.heap.objs.size<=b:=by
   rcases aP.mp E with z|z
   ·rw[z];exact vU _
   ·have o:b=c.heap.objs.size:=by simpa using z
    rw[o];exact av _
  exact U.fpOk L (U.hok.fresh L)
end
section
variable{X:Cx}{K:aj}{ρ:List ao}{H:Hp}{st:aZ}
theorem OL:OpR X (cX .Is) (pW X.K wU):=by
 intro g s σ H x y v u Q I o l c;obtain⟨ρ,st,d,e,h,B,q,p⟩:=c;cases e with
 |non=>
  cases q.inv;refine T1 g s σ H x .non v u Q I o l ⟨rfl,?_⟩;cases B with
  |non=>exact p.ret h _ (.bl true)
  |_=>exact p.ret h _ (.bl false)
 |bl b=>
  cases d with
  |bl a=>
   cases B.inv;cases q.inv;cases (show v=df a from o);cases (show u=df b from l);refine wpAny_is_plain rfl ⟨.bl (a == b),H,I,?_,p.ret h _ (.bl _)⟩;cases a<;>cases b<;>rfl
  |_=>exact p.elim
 |_=>cases d<;>exact p.elim
theorem Tk:OpR X (cX .IsNot) (pW X.K u8):=by
 intro g s σ H x y v u Q I o l c;obtain⟨ρ,st,d,e,h,B,q,p⟩:=c;cases e with
 |non=>
  cases q.inv;refine T4 g s σ H x .non v u Q I o l ⟨rfl,?_⟩;cases B with
  |non=>exact p.ret h _ (.bl false)
  |_=>exact p.ret h _ (.bl true)
 |bl b=>
  cases d with
  |bl a=>
   cases B.inv;cases q.inv;cases (show v=df a from o);cases (show u=df b from l);refine wpAny_isNot_plain rfl ⟨.bl (!(a == b)),H,I,?_,p.ret h _ (.bl _)⟩;cases a<;>cases b<;>rfl
  |_=>exact p.elim
 |_=>cases d<;>exact p.elim
theorem NJ{v:V}{d:D}(r:dA K ρ H v d)(h:nJ d=true):nO v=true:=by cases r<;>first|rfl|cases h
theorem K9:∀{c:List V}{ds:List D},bT K ρ H c ds->ds.all nJ=true->c.all nO=true
 |_,_,.nil,_=>rfl
 |_,_,.cons r t,h=>by rw[cB,bu]at h;rw[cB,bu];exact⟨NJ r h.1,K9 t h.2⟩
theorem V9{v w:V}{d e:D}(r:dA K ρ H v d)(q:dA K ρ H w e)(h:nJ d=true)(h':nJ e=true):yV v w=yT d e:=by cases r<;>first|(cases q<;>first|rfl|cases h')|cases h
theorem Nl{w:V}{e:D}(q:dA K ρ H w e)(h':nJ e=true):∀{c:List V}{ds:List D},bT K ρ H c ds->ds.all nJ=true->Fo w c=ds.any λd=>yT d e
 |_,_,.nil,_=>rfl
 |_,_,.cons r t,h=>by rw[cB,bu]at h;have:=Nl q h' t h.2;unfold Fo at this ⊢;rw[eD,eD,this,V9 r q h.1 h']
theorem aN.hasK{n:Nat}{k:D}{R:Bool->aZ->List ao->Hp->Prop}(h:aN K ρ H (MM.hasK n k st) R)(s:SR K ρ H st):∃b c,st[n]?=some (.dct b c)/\m5 b k=true/\R (lV c k).isSome st ρ H:=by obtain⟨b,c,e,l⟩:=aN.getDc (aN.bnd h) s;obtain⟨o,g⟩:=aN.chk l;exact⟨b,c,e,o,g.ret s⟩
theorem _root_.L2.OpR.orO{f:ag->ag->Sem ag}{r o:R2}(h:OpR X f r)(h':OpR X f o):OpR X f (λx y H Q=>r x y H Q\/o x y H Q):=by
 intro c s σ H x y v u Q I l g q;rcases q with q|q
 ·exact h c s σ H x y v u Q I l g q
 ·exact h' c s σ H x y v u Q I l g q
theorem ON(hu:X.A.units+60 < cA):OpR X (cX .NotIn) (λx y H Q=>∃(ρ:List ao)(st:aZ)(n:Nat)(a:ao)(b:Bool)(g:List (D×D))(k:D),y=.ref a/\SR X.K ρ H st/\ρ[n]?=some a/\st[n]?=some (.dct b g)/\dA X.K ρ H x k/\m5 b k=true/\Q (.bl (!(lV g k).isSome)) H):=by intro h s σ H x y v u Q I B o c;obtain⟨ρ,st,n,a,b,g,k,e,l,J,E,C,G,q⟩:=c;subst e;cases o;exact Tg (by ext) I (l.ob n a _ J E) C G B λO L=>⟨.bl _,H,L,rfl,q⟩
theorem Rn(hu:X.A.units+60 < cA):OpR X (cX .NotIn) (pW X.K rG):=(RU.orO (ON hu)).of λx y H Q g=>by
 obtain⟨ρ,st,d,e,c,u,L,p⟩:=g;have fin:∀{a:ao}{l:List V}{ds:List D}(C:gY X.K H a l\/iT X.K H a l)(r:bT X.K ρ H l ds)(o:aN X.K ρ H (EZ d ds st) λr _ ρ' J=>∀v,dA X.K ρ' J v r->Q v J),LC X.K true x (.ref a) H Q:=λC r o=>by obtain⟨⟨I,G⟩,O⟩:=aN.chk o;refine⟨_,_,rfl,C,NJ u I,K9 r G,?_⟩;rw[aG rfl,Nl u I r G];exact O.ret c _ (.bl _)
 cases L with
 |tup h r=>exact .inl (fin (.inr h) r ((aN.bnd p).ret c))
 |lit h r=>exact .inl (fin (.inl h.seq) r ((aN.bnd p).ret c))
 |ref _ h=>
  obtain⟨ds,e2,o⟩:=aN.getL (aN.bnd p) c;obtain⟨a',l,E,U,r⟩:=c.seq e2;rw[h]at E;cases E;exact .inl (fin (.inl (gY.of U)) r o)
 |@dic a n _ h=>
  obtain⟨b,B,e1,Y,q⟩:=aN.hasK (aN.bnd p) c;exact .inr ⟨ρ,st,n,a,b,B,d,rfl,c,h,e1,u,Y,(q.ret c) _ (.bl _)⟩
 |_=>exact (show False from p).elim
theorem OR:EU X (Cg .USub) (vx X.K rC):=by
 intro g s σ H x v Q I l c;obtain⟨ρ,st,d,h,o,p⟩:=c;cases o with
 |int i=>exact MP g s σ H _ v Q I l ⟨i,rfl,p.ret h _ (.int _)⟩
 |_=>exact p.elim
end
section
variable{X:Cx}{a b c e o tg:Expr}{es:List Expr}{pos ec dc:Pos}{fa fb fc:CE}{ca cb:CA}{ta tb:CT}{K:aj}{ρ:List ao}{H:Hp}{st:aZ}{x:Str}{p:Pos}{T id:String}{body:List fH}{cs:CS}
theorem Wy{op:UnaryOp}{g:D->M D}(G:EU X (Cg op) (vx X.K g))(I:SE X a fa):SE X (.UnaryOp op a pos) (c1 g fa):=
 (LS G I).of λσ H Q J=>J.el λρ l st E q p=>⟨ρ,l,st,E,q,p.bnd.imp λd h ρ1 O L u C v B=>⟨ρ1,h,d,u,B,C⟩⟩
theorem Py:CallR X (.type "list") (λxs H Q=>∃v,xs=[v]/\vx X.K tU v H Q):=NW.of λxs H Q B=>by
 obtain⟨v,e,ρ,st,d,u,J,p⟩:=B;have fin:∀{ds:List D}{q:List V}{l:ao}(r:bT X.K ρ H q ds)(g:H l=none)(C:aN X.K ρ H (alloc (.lst ds) st) λr _ ρ' G=>∀v,dA X.K ρ' G v r->Q v G),Q (.ref l) (ff H l (.lst q)):=λ{ds q l}r g C=>by have L:=u.fresh g;have I:SR X.K (ρ++[l]) (ff H l (.lst q)) (st++[.lst ds]):=(u.new g).keep kh L (r.mono (Ex.new g));refine C _ _ (Ex.newL g) I _ (.ref ⟨_,kh,rfl⟩ ?_);rw[<- u.len];simp
 cases J with
 |@tup a q ds h r=>exact⟨a,q,e,.inr h,λl g=>fin r g ((aN.bnd p).ret u)⟩
 |@lit a q ds h r=>exact⟨a,q,e,.inl h.seq,λl g=>fin r g ((aN.bnd p).ret u)⟩
 |@ref a n _ h=>
  obtain⟨ds,U,C⟩:=aN.getL (aN.bnd p) u;obtain⟨Y,q,E,O,r⟩:=u.seq U;rw[h]at E;cases E;exact⟨a,q,e,.inl (gY.of O),λl g=>fin r g C⟩
 |_=>exact (aN.bnd p).elim
theorem QN{g : D -> D -> M D}(hc : CallR X (.builtin id) (λxs H Q => ∃v w, xs = [v, w] /\ pW X.K g v w H Q))(hg : Gl X x)(hm : X.mg x = none)(hv : cM x = some (.builtin id))(ha : SE X a fa)(hb : SE X b fb)(hn : x ≠ "__name__" := by decide)(G : (x == ("__debug__" : Str)) = false := by decide)
  (h:starEach [a,b] X.env=(false,eval a X.env)::starEach [b] X.env:=by rfl) (E:starEach [b] X.env=(false,eval b X.env)::starEach [] X.env:=by rfl) (C:(backTo pos (starEach [b] X.env)).any (λx=>x.fst)=false:=by rfl):SE X (.Call (.Name x p) [a,b] [] pos) (c2 g fa fb):=
 (DE hc hg hm hv (qA ha (qA hb uz E) h) hn G h C).of λσ H Q h_=>h_.el λρ l st I O p=>⟨ρ,l,st,I,O,p.bnd.imp λd u ρ1 H1 L Y p1 v c=>⟨ρ1,l,u,I.mono L,Y,p1.bnd.imp λe q ρ2 H2 J U o w B=>⟨v,w,rfl,ρ2,q,d,e,U,c.mono J,B,o⟩⟩⟩
theorem WI(u:X.calm=true):CallR X (.builtin "min") (λxs H Q=>∃v w,xs=[v,w]/\pW X.K uZ v w H Q):=(W0 u).of λxs H Q g=>by
 obtain⟨v,w,e,ρ,st,C,B,h,q,l,p⟩:=g;cases q with
 |int i=>
  cases l with
  |int j=>
   refine⟨i,j,e,?_⟩;have:(if j < i then j else i)=min i j:=by ext
   rw[this];exact p.ret h _ (.int _)
  |_=>exact p.elim
 |_=>exact p.elim
theorem Oh(ho:SE X o fa)(q:dI o "pop" X.env (eval o X.env)=eval o X.env:=by rfl)(g:(ec.endLine == dc.line)=true:=by rfl):SE X (.Call (.Attribute o "pop" ec) [] [] dc) (ut fa):=
 (T0 so PySem.F.slot_list_pop PySem.F.type_list_pop Rh ho q g).of λσ H Q h_=>h_.el λρ l st lr sr p=>⟨ρ,l,st,lr,sr,p.bnd.imp λd c ρ1 H1 x1 C U v rv=>by
  cases rv with
  |@ref a n _ h=>
   obtain⟨ds,J,u⟩:=aN.getL (aN.bnd U) C;obtain⟨a',B,Y,G,r⟩:=C.seq J;rw[h]at Y;cases Y;cases I:ds.getLast? with
   |none=>rw[I]at u;exact u.elim
   |some d=>
    rw[I]at u;have hl:=(ac.mp J).1;have e4:ds[ds.length-1]?=some d:=by rw[<- List.getLast?_eq_getElem?];exact I
    obtain⟨y,hy,ry⟩:=r.get e4;have rd:bT X.K ρ1 H1 B.dropLast ds.dropLast:=by rw[uJ,uJ,r.length];exact r.take _
    obtain⟨O,L⟩:=C.put hl h G rd;refine⟨.inl ⟨rfl,B,gY.of G⟩,a,B,y,rfl,rfl,G,by rw[r.length];exact hy,?_⟩;have E:=aN.bnd u;unfold putL at E;rw[J]at E;exact (E ρ1 _ L O).ret O _ (ry.mono L)
  |_=>exact U.elim⟩
theorem bT.rev:∀{g:List V}{ds:List D},bT K ρ H g ds->bT K ρ H g.reverse ds.reverse
 |_,_,.nil=>.nil
 |_,_,.cons r t=>by rw[fK,fK];exact bT.app (bT.rev t) (.cons r .nil)
theorem UB{p : Pos}(hg : Gl X "range")(hm : X.mg "range" = none)(h : SE X a fa)(h' : SE X b fb)(G : starEach [a, b] X.env = (false, eval a X.env) :: starEach [b] X.env := by rfl)(E : starEach [b] X.env = (false, eval b X.env) :: starEach [] X.env := by rfl)
  (hs:starEach [a,b] X.env=[(false,eval a X.env),(false,eval b X.env)]:=by rfl) (C:starEach [b] X.env=[(false,eval b X.env)]:=by rfl):SI X tg (.Call (.Name "range" p) [a,b] [] pos) (MM.mY fa fb):=
 (WS (tg:=tg) (p:=p) (pos:=pos) hg hm (qA h (qA h' uz E) G) hs C).of λσ H R h_=>h_.el λρ l st I Q p=>⟨ρ,l,st,I,Q,p.bnd.imp λd q ρ1 H1 L Y p1 v c=>⟨ρ1,l,q,I.mono L,Y,p1.bnd.imp λe O ρ2 H2 J U B w g=>by
  have u:=c.mono J;cases u with
  |int i=>
   cases g with
   |int j=>
    obtain⟨⟨⟨h1,h2⟩,h3,h4⟩,o⟩:=aN.chk B;exact⟨i,j,rfl,⟨h1,h2,h3,h4⟩,o.ret U _ MA⟩
   |_=>exact B.elim
  |_=>cases g<;>exact B.elim⟩⟩
theorem Vx(hp:sM (aT X.prog X.w) X.A X.env X.xe)(hc:ST X c ta)(hb:ww X body cs):SS X (.While c body [] pos) (kM ta cs):=(U_ hp hc hb).of λG σ H h_=>h_.el λρ l st lr sr p=>by
 unfold kM at p;by_cases h:∃n,∀r,eW ta cs n l st=r->r≠.bad
 ·rw[dif_pos h]at p;generalize iX h=n at p;refine⟨λm σ H=>∃ρ l st,LR X.K ρ H σ l/\SR X.K ρ H st/\aN X.K ρ H (eW ta cs m l st) λf _ ρ' g=>match f with
   | .next l'=>∀σ',LR X.K ρ' g σ' l'->G.nx σ' g
   | .ret d=>∀v,dA X.K ρ' g v d->G.rt v g
   | .brk l'=>∀σ',LR X.K ρ' g σ' l'->G.bk σ' g
   | .cnt l'=>∀σ',LR X.K ρ' g σ' l'->G.ct σ' g,⟨n,ρ,l,st,lr,sr,p⟩,?_⟩
  intro m σ1 H1 u;obtain⟨ρ1,l1,O,B,Q,c⟩:=u;cases m with
  |zero=>exact c.elim
  |succ m=>
   refine⟨ρ1,l1,O,B,Q,(aN.bnd c).imp λk L ρ2 H2 U Y o=>?_⟩;cases k with
   |false=>exact o.ret Y _ (B.mono U)
   |true=>
    refine⟨λσ' g=>∃ρ l st,LR X.K ρ g σ' l/\SR X.K ρ g st/\aN X.K ρ g (eW ta cs m l st) _,λσ' g q=>⟨m,kz m,q⟩,ρ2,l1,L,B.mono U,Y,(aN.bnd o).imp λf E ρ3 H3 x3 I J=>?_⟩;cases f with
    |next l'=>exact λσ' C=>⟨ρ3,l',E,C,I,J⟩
    |ret d=>exact J.ret I
    |brk l'=>exact J.ret I
    |cnt l'=>exact λσ' C=>⟨ρ3,l',E,C,I,J⟩
 ·rw[dif_neg h]at p;exact p.elim
end
theorem PD(its:List ag):wd its.toArray none none (some (-1))=its.reverse.toArray:=by
 unfold wd;have e:sliceRange (fD none none (some (-1)) its.toArray.size).1 (fD none none (some (-1)) its.toArray.size).2.1 (fD none none (some (-1)) its.toArray.size).2.2=(cg its.toArray.size).map λk=>its.toArray.size-1-k:=picked_rev its.toArray.size;rw[e];congr 1;rw[aF];have key:∀n,n<=its.length->((cg n).map λk=>its.length-1-k).filterMap (λi=>its.toArray[i]?)=(its.drop (its.length-n)).reverse:=by
  intro n
  induction n with
  |zero=>intro _;simp
  |succ n ih=>
   intro l;rw[gJ,bc,List.filterMap_append,ih (by ext)];have c:its.length-1-n < its.length:=by ext
   have:its.drop (its.length-(n+1))=its[its.length-1-n]::its.drop (its.length-n):=by
    have h:its.length-(n+1)=its.length-1-n:=by ext
    have g:its.length-n=its.length-1-n+1:=by ext
    rw[h,g];exact dJ c
   rw[this,fK];congr 1;simp[c]
 have:=key its.length (av _);rw[fv,sq]at this;exact this
section
variable{X:Cx}{e st:Expr}{pos p2 p3 p4:Pos}{fa:CE}{te:TE}{j:Nat}
def Dt(K:aj):V->Hp->VK->Prop:=λx H Q=>∃a xs,x=.ref a/\gY K H a xs/\∀p,H p=none->Q (.ref p) (ff H p (.lst xs.reverse))
theorem R4(he:PE X e te):PE X (.Subscript e (.Slice none none (some (.UnaryOp .USub (.Constant (.int 1) j p3) p4)) p2) pos) (λσ H Q=>te σ H λx B=>Dt X.K x B Q):=by
 intro c s σ H Q I h;refine BG (fU (he c s σ H _ I h) λv O u=>?_);obtain⟨x,B,I1,U,Y⟩:=u;refine wpAny_Slice ?_;rw[vN];refine ah (ah ?_);have C:PE X (.UnaryOp .USub (.Constant (.int 1) j p3) p4) (Mn (rU λi=>.int (-i)) (tC (.int 1))):=LS MP NF;refine fU (LI C c O σ B (λo H'=>o=some (-1)/\H'=B) I1 ⟨1,rfl,-1,rfl,rfl,rfl⟩) λG g l=>?_;obtain⟨o,H2,I2,ps,eo,eH⟩:=l;subst eo eH;obtain⟨a,xs,rfl,hx,q⟩:=Y;cases U;have E:Inv X c σ H2 { g with heap:=g.heap.push { cls:=.type "slice",data:=.fields #[.none,.none,G] } }:=I2.kept (t':=g.toks) λb ob q=>ak _ q;obtain⟨its,r,J,hz⟩:=E.list hx;have L:=r.length
 show aD (aT X.prog X.w) X.A (vO e _ (.ref a) (.ref g.heap.objs.size)) (EP X c σ Q) X.xe { g with heap:=g.heap.push { cls:=.type "slice",data:=.fields #[.none,.none,G] } };refine yX (ops:=[.ref a,.ref g.heap.objs.size]) J.isList.typeIs rN.lookup ?_ (by with_unfolding_all rfl);refine vP J.isList (q_ ..) .none .none ps (by simp) ?_ (by rw[aF]<;>ext);rw[PD];refine⟨.ref _,_,E.laid (t':=g.toks) (o:=.lst xs.reverse) (λb ob q=>ak _ q) (av _) ?_,rfl,q _ (E.hok.fresh (av _))⟩;exact⟨by rw[List.length_reverse];exact hz,_,0,r.reverse,ay _ rfl⟩
theorem UX(h:SE X e fa):SL X (.Subscript e (.Slice none none (some (.UnaryOp .USub (.Constant (.int 1) j p3) p4)) p2) pos) (tE fa):=
 (R4 h).of λσ H Q Y=>Y.el λρ l st L I p=>⟨ρ,l,st,L,I,p.bnd0.imp λd G ρ1 H1 u g B v J=>by
  cases J with
  |@ref a n _ h=>
   obtain⟨ds,e2,p2⟩:=aN.getL (B.bnd0.left u) g;obtain⟨a',E,C,O,r⟩:=g.seq e2;rw[h]at C;cases C;refine⟨a,E,rfl,gY.of O,λq c=>?_⟩;have U:H q=none:=by
    cases z:H q with
    |none=>rfl
    |some o=>exact bn c (u.trk q o z)
   exact p2 ρ1 _ (u.trans (Ex.new c)) (g.new c) q _ U (g.fresh c) kh ((bT.rev r).mono (Ex.new c))
  |_=>exact B.elim⟩
theorem OW{lo I:Option Expr}{J L:CO}{p2:Pos}(h:SE X e fa)(hl:SO X lo J)(hh:SO X I L):SE X (.Subscript e (.Slice lo I none p2) pos) (nj fa J L):=
 (KN RS h hl hh).of λσ H Q h_=>h_.el λρ l st B Y p=>⟨ρ,l,st,B,Y,p.bnd.imp λd g ρ1 H1 G s1 p1 v rv=>⟨ρ1,l,g,B.mono G,s1,p1.bnd.imp λi c ρ2 H2 E s2 p2=>⟨ρ2,l,c,(B.mono G).mono E,s2,p2.bnd.imp λj U ρ3 H3 O s3 p3=>by
  have u:=(rv.mono E).mono O;have e:∀n d o,HT.gM n d o=MM.gM n d o:=λn d o=>by cases o<;>rfl
  cases u with
  |@tup a vs ds h r=>
   obtain⟨hw,p4⟩:=aN.chk p3;exact⟨a,vs,rfl,h,by rw[e,e,r.length];exact hw,λq C=>p4 ρ3 _ (Ex.new C) (s3.new C) _ (.tup (iT.of kh) ((bT.cut r i j).mono (Ex.new C)))⟩
  |_=>exact p3.elim⟩⟩⟩
end
end MM
namespace MM
open PySem
def r8{α:Type}(n:Nat)(f:Nat->Nat->Bool):y9 α->Option α
 | .ret a=>some a
 | .ask i j k=>if i < n/\j < n then r8 n f (k (f i j)) else none
def qJ:List D->Option (List (List Int))
 |[]=>some []
 | .tup xs::ds=>match mZ xs,qJ ds with
  |some ns,some rs=>some (ns::rs)
  |_,_=>none
 |_=>none
noncomputable def uf:List Int->List Int->Bool
 |[],[]=>false
 |[],_::_=>true
 |_::_,[]=>false
 |a::as,b::bs=>if (a == b)=true then uf as bs else decide (a < b)
def tQ(ds:List D):Option (List D):=match qJ ds with
 |some rows => if (rows.all λr => decide (0 < r.length)) = true /\ 2 <= ds.length /\ ds.length < 64 then (match r8 ds.length (λi j => uf (rows.getD i []) (rows.getD j [])) (ma ds.length) with
   |some p=>if p.size<=1000 then some (p.toList.map λi=>ds.getD i .non) else none
   |none=>none) else none
 |none=>none
def oE:D->M D
 | .ref n=>bnd (getL n) λds=>match tQ ds with
  |some es=>alloc (.lst es)
  |none=>bad
 |_=>bad
open PySem.Spec PyProof.Rows L2
theorem Nm{α:Type}{n:Nat}{f:Nat->Nat->Bool}{l:Nat->Nat->(Bool->am->Prop)->am->Prop}{G:α->am->Prop}{s:am}(o:∀i j C,i < n->j < n->C (f i j) s->l i j C s):
  ∀(t:y9 α){a:α},r8 n f t=some a->G a s->t.kasWp l G s
 | .ret b,a,h,g=>by cases h;exact g
 | .ask i j k,a,h,g=>by
  unfold r8 at h;by_cases c:i < n/\j < n
  ·rw[aG c]at h;exact o i j _ c.1 c.2 (Nm o (k (f i j)) h g)
  ·rw[aC c]at h;cases h
section
variable{prog:Program}{w:bE}{A:bv}{s:am}{Q:Bool->am->Prop}
theorem V8{as bs:List Int}{g ws:List ag}(i:Nat){fin:Bool}(o:kZ g as)(l:kZ ws bs)(c:fin=decide (as.length < bs.length))(h:Q (uf as bs) s):PySem.W.KatLex prog w A true fin Q (g.zip ws) i s:=by
 induction as generalizing bs g ws i fin with
 |nil=>
  cases o;refine wj ?_;cases l with
  |nil=>rw[c];exact h
  |@cons b u vs bs r'=>
   rw[c];have:decide (([]:List Int).length < (b::bs).length)=true:=by simp
   rw[this];exact h
 |cons a as ih=>
  cases o with
  |cons _ t r=>cases l with
   |nil=>
    refine wj ?_;rw[c];have:decide ((a::as).length < ([]:List Int).length)=false:=by simp
    rw[this];exact h
   |@cons b u vs bs r'=>
    refine PySem.W.kat_cons (sK ?_);unfold uf at h;by_cases e:(a == b)=true
    ·rw[e];rw[aG e]at h;exact PySem.W.kat_yes (ih (i+1) r r' (by rw[c];simp) h)
    ·have q:(a == b)=false:=by simpa using e
     rw[q];rw[aC e]at h;refine PySem.W.kat_no ?_;cases i with
     |zero=>exact oneLt_int h
     |succ i=>exact PySem.W.kat_one _ _ (lt_int h)
end
section
variable{X:Cx}{K:aj}{ρ:List ao}{H:Hp}{st:aZ}
theorem L4{c:List (ao×Obj)}{σ:St}{s:am}(I:Inv X c σ H s): ∀{q:List V}{ds:List D}{its:List ag}{rows:List (List Int)},bT X.K ρ H q ds->b7 q its->qJ ds=some rows ->
  rows.length=ds.length/\∀(i:Nat)(h:i < ds.length),∃a xs,its[i]?=some (.ref a)/\yW s.heap a xs/\kZ xs.toList (rows.getD i [])
 |_,_,_,rows,.nil,.nil,e=>by cases e;exact⟨rfl,λi h=>by simp at h⟩
 |_,_,_,rows,.cons (d:=d) (ds:=ds) r t,.cons ru tu,e=>by
  cases r with
  |@tup a vs' xs hq rr=>
   unfold qJ at e;cases g:mZ xs with
   |none=>rw[g]at e;cases e
   |some ns=>
    cases o:qJ ds with
    |none=>rw[g,o]at e;cases e
    |some rs=>
     rw[g,o]at e;cases e;obtain⟨E,J⟩:=L4 I t tu o;refine⟨by simp[E],λi G=>?_⟩;cases i with
     |succ i=>
      obtain⟨L,l,C,B,v⟩:=J i (by simpa using G);exact⟨L,l,by simpa using C,B,by simpa using v⟩
     |zero=>
      obtain⟨its',u,p,_⟩:=I.tuple hq;cases (show _=aV a from ru);have:=G5 g rr;subst this;exact⟨a,_,rfl,p,by simpa using Hl u⟩
  |_=>cases e
theorem Ui{h:bA}{a:ao}{m c:Str->Option ag}(x:h.Ns a m)(y:h.Ns a c):m=c:=by obtain⟨o,G,ep,E,C,_,B⟩:=x;obtain⟨o',u,v,l,g,_,q⟩:=y;rw[E]at l;cases l;rw[C]at g;cases g;funext n;rw[<- B n,q n]
theorem bT.pick:∀{c:List V}{ds:List D}(i:Nat),bT K ρ H c ds->dA K ρ H (c.getD i .non) (ds.getD i .non)
 |_,_,_,.nil=>by simp;exact .non
 |_,_,0,.cons r t=>by simpa using r
 |_,_,i+1,.cons r t=>by simpa using bT.pick i t
theorem b7.pick:∀{c:List V}{g:List ag}(i:Nat),b7 c g->RelV (c.getD i .non) (g.getD i .none)
 |_,_,_,.nil=>by simp;rfl
 |_,_,0,.cons r t=>by simpa using r
 |_,_,i+1,.cons r t=>by simpa using b7.pick i t
theorem bT.picks{c:List V}{ds:List D}(r:bT K ρ H c ds):∀(p:List Nat),bT K ρ H (p.map λi=>c.getD i .non) (p.map λi=>ds.getD i .non)
 |[]=>.nil
 |i::p=>.cons (bT.pick i r) (bT.picks r p)
theorem b7.picks{c:List V}{g:List ag}(r:b7 c g):∀(p:List Nat),b7 (p.map λi=>c.getD i .non) (p.map λi=>g.getD i .none)
 |[]=>.nil
 |i::p=>.cons (b7.pick i r) (b7.picks r p)
theorem UN{P:Program}{w:bE}{H:Hp}{h:bA}{a:ao}{o:HO}(x:eU P w H h a o):∃c,h.get? a=some c:=by
 cases o with
 |lst _=>obtain⟨_,_,_,_,e⟩:=x;exact⟨_,e⟩
 |tup _=>obtain⟨_,_,_,c,e,_⟩:=x;exact⟨_,e⟩
 |dK _=>obtain⟨_,_,_,_,c,_,_,e,_⟩:=x;exact⟨_,e⟩
 |dT _=>obtain⟨_,_,_,_,c,_,_,e,_⟩:=x;exact⟨_,e⟩
 |set _ _=>obtain⟨c,_,_,_,e,_⟩:=x;exact⟨_,e⟩
 |ins _ _ _=>obtain⟨_,_,_,e,_⟩:=x;exact⟨_,e⟩
 |own _=>obtain⟨_,e⟩:=x;exact⟨_,e⟩
 |xd _=>obtain⟨_,⟨_,_,_,e,_⟩,_⟩:=x;exact⟨_,e⟩
 |rng _ _=>obtain⟨_,_,_,e⟩:=x;exact⟨_,e⟩
 |frz _ _=>obtain⟨e,_⟩:=x;exact⟨_,e⟩
 |tbl _=>exact⟨_,(show h.get? a=some _ from x)⟩
 |met _ _=>exact⟨_,(show h.get? a=some _ from x)⟩
 |ext _=>obtain⟨_,⟨_,e⟩,_⟩:=x;exact⟨_,e⟩
theorem Pg: CallR X (.builtin "sorted") (λxs H Q=>∃(l:ao)(vs:List V)(ρ:List ao)(ds:List D)(rows:List (List Int))(p:Array Nat),xs=[.ref l]/\gY X.K H l vs/\bT X.K ρ H vs ds/\qJ ds=some rows/\(rows.all λr=>decide (0 < r.length))=true/\2<=ds.length/\ds.length < 64 /\
  r8 ds.length (λi j=>uf (rows.getD i []) (rows.getD j [])) (ma ds.length)=some p/\p.size<=1000/\∀q,H q=none->Q (.ref q) (ff H q (.lst (p.toList.map λi=>vs.getD i .non)))):=by
 intro cp s σ H xs us Q I r h;obtain⟨l,vs,ρ,ds,rows,p,rfl,hq,rr,hrows,hall,h2,h64,hev,hps,q⟩:=h;obtain⟨u,rfl,rx⟩:=uV r;cases rx;obtain⟨its,rv,pl,hz⟩:=I.list hq;have l1:=rv.length;have l2:=rr.length;have hil:its.length=ds.length:=by ext
 obtain⟨hrl,hit⟩:=L4 I rr rv hrows;obtain⟨m,F⟩:=I.fr;have N:News X.base X.env.locals s.heap (lF X.base s.heap X.env.locals):=OF;have neL:∀a xs,yW s.heap a xs->a≠X.env.locals:=λa xs ht e=>by obtain⟨o,L,hc,n,hd⟩:=ht;obtain⟨o',es,ep,E,hd',_⟩:=F.ns;rw[e,E]at L;cases L;rw[hd']at hd;cases hd
 have kept:∀h',Fr X.base X.env.locals h' m->News X.base X.env.locals h' (lF X.base s.heap X.env.locals)->∀b o,b≠X.env.locals->s.heap.get? b=some o->h'.get? b=some o:=λh' F' N' b o hb e=>by
  cases z:X.base.get? b with
  |some u=>
   have:=F.keep b u z;rw[e]at this;cases this;exact F'.keep b _ z
  |none=>exact (N' (b,o) (LQ hb z e)).1
 refine PySem.W.kat_sorted F N pl.isList (by ext) (by ext) λD Y h' F' N' hD=>?_;have N'':News X.base X.env.locals h' (lF X.base s.heap X.env.locals):=λz hz=>N' z (bw _ hz);have hDL:=(N' _ (cK ..)).2.1;have hDb:=(N' _ (cK ..)).2.2;have hDs:s.heap.get? D=none:=by
  cases z:s.heap.get? D with
  |none=>rfl
  |some o=>exact bn (hD _ (LQ hDL hDb z)) (cq _)
 have g:H D=none:=by
  cases z:H D with
  |none=>rfl
  |some o=>
   obtain⟨ob,e⟩:=UN (I.hok D o z);rw[hDs]at e;cases e
 have G:∀(i:Nat),i < ds.length->∃a xs o n,its[i]?=some (.ref a)/\h'.get? a=some o/\o.cls=.type "tuple"/\o.data=.seq xs n/\kZ xs.toList (rows.getD i []):=λi hi=>by obtain⟨a,xs,e,ht,B⟩:=hit i hi;have hn:=neL a xs ht;obtain⟨o,L,hc,n,hd⟩:=ht;exact⟨a,xs,o,n,e,kept h' F' N'' a o hn L,hc,hd,B⟩
 have tups:∃fs:List ag,wk h' its fs/\fs.length=its.length/\∀v∈fs,∃(k:Int)(t:Tok),v=.int k t:=by
  have gen:∀(ys:List ag),(∀v∈ys,∃a xs o n,v=.ref a/\h'.get? a=some o/\o.cls=.type "tuple"/\o.data=.seq xs n/\∃(k:Int)(t:Tok),xs[0]?=some (.int k t))->∃fs:List ag,wk h' ys fs/\fs.length=ys.length/\∀v∈fs,∃(k:Int)(t:Tok),v=.int k t:=by
   intro ys
   induction ys with
   |nil=>exact λ_=>⟨[],trivial,rfl,by simp⟩
   |cons y ys ih=>
    intro hy;obtain⟨fs,k1,k2,k3⟩:=ih λv hv=>hy v (by simp[hv]);obtain⟨a,xs,o,n,e,L,hc,hd,k,t,B⟩:=hy y (by simp);subst e;exact⟨.int k t::fs,wk.cons L hc hd B k1,by simp[k2],λv hv=>by
     rcases aP.mp hv with z|z
     ·exact⟨k,t,z⟩
     ·exact k3 v z⟩
  refine gen its λv hv=>?_;obtain⟨i,hi⟩:=kE hv;have hlt:i < ds.length:=by rw[<- hil];exact (ac.mp hi).1
  obtain⟨a,xs,o,n,e,L,hc,hd,B⟩:=G i hlt;rw[hi]at e;cases e;refine⟨a,xs,o,n,rfl,L,hc,hd,?_⟩;have U:0 < (rows.getD i []).length:=by
   have hr:i < rows.length:=by ext
   have:rows.getD i []=rows[i]:=by simp[hr]
   rw[this];have:=d7.mp hall rows[i] (bY hr);simpa using this
  cases O:rows.getD i [] with
  |nil=>rw[O]at U;simp at U
  |cons k ks=>
   rw[O]at B;cases hxs:xs.toList with
   |nil=>rw[hxs]at B;cases B
   |cons y ys=>
    rw[hxs]at B;cases B with
    |cons _ t r=>exact⟨k,t,by rw[<- eR,hxs];rfl⟩
 obtain⟨fs,t1,t2,t3⟩:=tups;refine PySem.W.kat_kind (T:=.type "int") t1 (by ext) (λv hv=>?_) (by decide) ?_
 ·obtain⟨k,t,e⟩:=t3 v hv;subst e;exact PySem.W.Looks.of_pure rfl
 refine Nm (n:=ds.length) (f:=λi j=>uf (rows.getD i []) (rows.getD j [])) (λi j C hi hj hC=>?_) (ma its.length) (a:=p) (by rw[hil];exact hev) ?_
 ·obtain⟨a,xs,o,n,e,L,hc,hd,B⟩:=G i hi;obtain⟨b,ys,o',v,u,E,q,hd',hy⟩:=G j hj
  show aD _ _ (keyLt' _ (its.getD i bF) (its.getD j bF)) _ _ _;have g:its.getD i bF=.ref a:=by rw[lK,e];rfl
  have c:its.getD j bF=.ref b:=by rw[lK,u];rfl
  rw[g,c];refine PySem.W.kat_lt L hd E hd' (V8 0 B hy ?_ hC);have l:=xk B;have h:=xk hy;rw[<- l,<- h,cP,cP]
 ·refine PySem.W.KasFin.intro F' N' (PySem.W.UpdF.head (λz hz=>bb (hD z hz))) λB c G L=>?_;have U:News X.base X.env.locals B (lF X.base s.heap X.env.locals):=λz hz=>L z (bw _ hz);have v:=(L _ (cK ..)).1;have h:=kept B G U;have hsz:(p.toList.map λi=>vs.getD i V.non).length<=sizeLine:=by
   rw[ae,cP];have:1000<=sizeLine:=by decide
   ext
  have J:=I.free
  suffices I3:Inv X cp σ (ff H D (.lst (p.toList.map λi=>vs.getD i V.non))) { s with heap:=B,gens:=s.gens,drawn:=s.drawn,toks:=s.toks } by exact⟨.ref D,ff H D (.lst (p.toList.map λi=>vs.getD i V.non)),I3,rfl,q D g⟩
  refine I.step (g':=s.gens) (d':=s.drawn) (t':=s.toks) (ch:=[]) (λb hb=>by cases hb) (λb o C _ _ e _=>h b o C e) (λb o C _ _ e _=>⟨o.slots,h b o C e⟩)
   (λb o _ e O=>by rw[fO (λz=>by rw[z,hDs]at e;cases e)];exact O)
   (λb o _ e=>by
    by_cases z:b=X.env.locals
    ·obtain⟨o',_,_,E,_⟩:=G.ns;exact⟨o',by rw[z];exact E⟩
    ·exact⟨o,h b o z e⟩)
   (λb ys e=>by rw[fO (mI e g)];exact e) (λb o ys e=>by rw[fO (mI e g)];exact e) (λb ps e=>⟨#[],by rw[fO (mI e g),e];simp⟩)
   (λm' Q=>by rw[<- Ui F.ns Q];exact G.ns) ?_ I.bare
  intro a o e;by_cases z:a=D
  ·subst z;rw[kh]at e;cases e;exact⟨hsz,_,c,b7.picks rv p.toList,v⟩
  ·rw[fO z]at e;refine (I.hok a o e).stay (λb u hb Y=>h b u (λl=>?_) Y) (λb Y=>by rw[fO (mI Y g)];exact Y) (λb ys Y=>by rw[fO (mI Y g)];exact Y);rcases hb with y|y
   ·rw[y]at l;rw[l,J]at e;cases e
   ·rw[l,J]at y;cases y
theorem N5:CallR X (.builtin "sorted") (λxs H Q=>∃v,xs=[v]/\vx X.K oE v H Q):=Pg.of λxs H Q l=>by
 obtain⟨v,e,ρ,st,d,g,J,p⟩:=l;cases J with
 |@ref a n _ h=>
  obtain⟨ds,U,c⟩:=aN.getL (aN.bnd p) g;obtain⟨Y,E,G,O,r⟩:=g.seq U;rw[h]at G;cases G;unfold tQ at c;cases B:qJ ds with
  |none=>rw[B]at c;exact c.elim
  |some rows=>
   rw[B]at c;by_cases o:(rows.all λr=>decide (0 < r.length))=true/\2<=ds.length/\ds.length < 64
   ·simp only[aG o]at c;cases C:r8 ds.length (λi j=>uf (rows.getD i []) (rows.getD j [])) (ma ds.length) with
    |none=>rw[C]at c;exact c.elim
    |some pp=>
     rw[C]at c;by_cases hz:pp.size<=1000
     ·simp only[aG hz]at c;refine⟨a,E,ρ,ds,rows,pp,e,gY.of O,r,B,o.1,o.2.1,o.2.2,C,hz,λq u=>?_⟩;have L:=g.fresh u;have I:SR X.K (ρ++[q]) (ff H q (.lst (pp.toList.map λi=>E.getD i V.non))) (st++[.lst (pp.toList.map λi=>ds.getD i D.non)]):=(g.new u).keep kh L ((bT.picks r pp.toList).mono (Ex.new u));refine c _ _ (Ex.newL u) I _ (.ref ⟨_,kh,rfl⟩ ?_);rw[<- g.len];simp
     ·simp only[aC hz]at c;exact c.elim
   ·simp only[aC o]at c;exact c.elim
 |_=>exact p.elim
end
section
variable{X:Cx}{cp:List (ao×Obj)}{σ:St}{H:Hp}{s:am}{h':bA}{ch:List ao}
theorem Nq{t':Nat}(I:Inv X cp σ H s)(h:∀b∈ch,nW X cp H b)(keep:∀b o,b∉ch->s.heap.get? b=some o->h'.get? b=some o):Inv X cp σ H { s with heap:=h',toks:=t' }:=by
 have q:∀b o,H b=some o->b∉ch:=λb o e z=>by rw[(h b z).1]at e;cases e
 have B:X.env.locals∉ch:=λz=>(h _ z).2.1 rfl;refine I.step (g':=s.gens) (d':=s.drawn) (ch:=ch) (λb l=>?_) (λb o _ _ c e _=>keep b o c e) (λb o _ _ c e _=>⟨o.slots,keep b o c e⟩) (λb o _ _ e=>e) (λb o c e=>⟨o,keep b o c e⟩)
  (λb ys e=>e) (λb o ys e=>e) (λb O e=>⟨#[],by rw[e];simp⟩) (λm v=>?_) ?_ I.bare
 ·obtain⟨U,J,Q,G,E,C⟩:=h b l;exact⟨G,J,E,C⟩
 ·obtain⟨o,L,ep,e,r⟩:=v;exact⟨o,L,ep,keep _ o B e,r⟩
 ·intro a o e;refine (I.hok a o e).stay (λb u l g=>keep b u ?_ g) (λb g=>g) (λb ys g=>g);rcases l with y|y
  ·rw[y];exact q a o e
  ·exact q b _ y
theorem L_{t':Nat}{T:ao}{l:List V}{its:List ag}(I:Inv X cp σ H s)(q:∀b∈ch,nW X cp H b)(keep:∀b o,b∉ch->s.heap.get? b=some o->h'.get? b=some o)(C:s.heap.objs.size<=T)
  (hz:l.length<=sizeLine) (E:b7 l its) (G:km h' T its.toArray):Inv X cp σ (ff H T (.tup l)) { s with heap:=h',toks:=t' }:=by
 have c:H T=none:=I.hok.fresh C;have B:∀b o,H b=some o->b∉ch:=λb o e z=>by rw[(q b z).1]at e;cases e
 have L:X.env.locals∉ch:=λz=>(q _ z).2.1 rfl;refine I.step (g':=s.gens) (d':=s.drawn) (ch:=ch) (λb v=>?_) (λb o _ _ h e _=>keep b o h e) (λb o _ _ h e _=>⟨o.slots,keep b o h e⟩) (λb o _ e n=>by rw[fO (bb (a_ (aI e) C))];exact n) (λb o h e=>⟨o,keep b o h e⟩)
  (λb ys e=>by rw[fO (mI e c)];exact e) (λb o ys e=>by rw[fO (mI e c)];exact e) (λb ps e=>⟨#[],by rw[fO (mI e c),e];simp⟩) (λm J=>?_) ?_ I.bare
 ·obtain⟨g,Y,c,U,Q,O⟩:=q b v;exact⟨U,Y,Q,O⟩
 ·obtain⟨o,c,ep,e,r⟩:=J;exact⟨o,c,ep,keep _ o L e,r⟩
 ·intro a o e;by_cases z:a=T
  ·subst z;rw[kh]at e;cases e;exact⟨hz,its,E,G⟩
  ·rw[fO z]at e;refine (I.hok a o e).stay (λb u v g=>keep b u ?_ g) (λb g=>by rw[fO (mI g c)];exact g) (λb ys g=>by rw[fO (mI g c)];exact g);rcases v with y|y
   ·rw[y];exact B a o e
   ·exact B b _ y
end
structure BS(prog:Program)(w:bE)(A:bv)(it src:ao)(val:Nat->Option ag)(P:Nat->bA->Prop):Prop where
 there:∀k h,P k h->∃o,h.get? it=some o
 keep:∀k h h',P k h->(∀b,b=it\/b=src->∀o,h.get? b=some o->h'.get? b=some o)->P k h'
 item:∀k x(s:am)(Q:ag->am->Prop)(E:ag->am->Prop),P k s.heap->val k=some x->(∀h',P (k+1) h'->cz it s.heap h'->Q x { s with heap:=h' })->aD (aT prog w) A (bj (.ref it)) Q E s
 done:∀k(s:am)(Q:ag->am->Prop)(E:ag->am->Prop),P k s.heap->val k=none->(∀h' e,nQ it s.heap h'->(∃o,h'.get? e=some o/\o.cls=.type "StopIteration")->E (.ref e) { s with heap:=h' })->aD (aT prog w) A (bj (.ref it)) Q E s
section
variable{prog:Program}{w:bE}{A:bv}{E:ag->am->Prop}{s:am}{z tI tO i1 i2 l1 l2:ao}{v1 v2:Nat->Option ag}{P1 P2:Nat->bA->Prop}{k:Nat}{u v:ag}
theorem v_{l g b:ao}{val:Nat->Option ag}{P:Nat->bA->Prop}{h h':bA}(S:BS prog w A l g val P)(x:P k h)(e:nQ b h h')(H:l≠b)(G:g≠b):P k h':=
 S.keep k h h' x λc C o B=>e c o (by rcases C with q|q<;>rw[q]<;>assumption) B
theorem F6{a G:ao}{items:Array ag}(hh:A.handled=none)(J:a≠G):BS prog w A G a (λi=>items[i]?) (λi h=>h.IsTupleIter G a i/\h.IsTuple a items) where
 there:=λk h B=>by obtain⟨⟨o,e,_⟩,_⟩:=B;exact⟨o,e⟩
 keep:=λk h h' l L=>by obtain⟨⟨o,e,r⟩,⟨o',v,U⟩⟩:=l;exact⟨⟨o,L G (.inl rfl) o e,r⟩,⟨o',L a (.inr rfl) o' v,U⟩⟩
 item:=λk x s Q E g I Y=>by obtain⟨H,C⟩:=g;exact Ll H C I λh' q O=>Y h' ⟨q,C.extBut O.extBut J⟩ O
 done:=λk s Q E c I u=>by obtain⟨H,C⟩:=c;exact Gi hh H C I u
theorem Qj{Q:ag->am->Prop}(D:mG z tI tO i1 i2 l1 l2)(G:BS prog w A i1 l1 v1 P1)(C:BS prog w A i2 l2 v2 P2)(hz:lC s.heap z tI tO .none)(hi:eS s.heap tI (.ref i1) (.ref i2))(ho:eS s.heap tO u v)
  (p1:P1 k s.heap) (p2:P2 k s.heap) {x y:ag} (hx:v1 k=some x) (hy:v2 k=some y)
  (hQ:∀h',lC h' z tI tO (dF s.heap.objs.size)->eS h' tO x y->P1 (k+1) h'->P2 (k+1) h'->eS h' s.heap.objs.size x y ->
   (∀c o,c≠z->c≠tO->c≠i1->c≠i2->s.heap.get? c=some o->h'.get? c=some o)->Q (.ref s.heap.objs.size) { s with heap:=h' }):
  aD (aT prog w) A (Builtin.«zip.__next__» ⟨[.ref z],[]⟩) (λf s'=>∃r,f=.done (.ret r)/\Q r s') E s:=by
 show aD _ _ (pz (.ref z) 2 >>= _) _ _ _;refine ab (b8 hz rfl (x:=.bool false) rfl ?_);show aD _ _ (pz (.ref z) 3 >>= _) _ _ _;refine ab (b8 hz rfl (x:=.ref tI) rfl (ab (cN hi rfl ?_)));show aD _ _ (bM (.ref z) >>= _) _ _ _;refine ab ?_;unfold bM;refine ab (b8 hz rfl (x:=.none) rfl (ah ?_));simp only[if_true];refine ab (gu (ab (b8 hz rfl (x:=.ref tO) rfl (ab (cQ hz (by simp) λha za U=>?_)))));have za':lC ha z tI tO .ellipsis:=za;refine ab ?_;simp only[xM,y_,kK,nR];refine ab (ab (qp ?_));show aD _ _ (bj (.ref i1) >>= _) _ _ _;refine ab (G.item k x _ _ _ (v_ G p1 U.extBut D.i1z D.l1z) hx λhb q1 O=>ah ?_);have ob:eS hb tO u v:=O.extBut _ _ D.TOi1 (U.extBut _ _ D.TOz ho);refine ab (cN ob rfl (ab (pB ob λB oc sc=>?_)));have oc':eS B tO x v:=oc;refine ab (gO (ah ?_));refine ab (ab (qp ?_));show aD _ _ (bj (.ref i2) >>= _) _ _ _;have p2c:P2 k B:=v_ C (v_ C (v_ C p2 U.extBut D.i2z D.l2z) O.extBut D.i12.symm D.l2i1) sc.extBut D.TOi2.symm D.l2TO;refine ab (C.item k y _ _ _ p2c hy λhd q2 L=>ah ?_);have od:eS hd tO x v:=L.extBut _ _ D.TOi2 oc';refine ab (cN od rfl (ab (pB od λg oe J=>?_)));have Y:eS g tO x y:=oe;refine ab (gO (ah (ah ?_)));refine ab (cN Y rfl (ab (uK ?_)));have h:g.objs.size=s.heap.objs.size:=by rw[J.1,L.1,sc.1,O.1,U.1]
 have ze:lC g z tI tO .ellipsis:=J.extBut _ _ D.TOz.symm (L.extBut _ _ D.i2z.symm (sc.extBut _ _ D.TOz.symm (O.extBut _ _ D.i1z.symm za')));have all:∀c o,c≠z->c≠tO->c≠i1->c≠i2->s.heap.get? c=some o->g.get? c=some o:=λc o l n2 n3 n4 e=>J.extBut _ _ n2 (L.extBut _ _ n4 (sc.extBut _ _ n2 (O.extBut _ _ n3 (U.extBut _ _ l e))));have q1e:P1 (k+1) g:=v_ G (v_ G (v_ G q1 sc.extBut D.TOi1.symm D.l1TO) L.extBut D.i12 D.l1i2) J.extBut D.TOi1.symm D.l1TO;have q2e:P2 (k+1) g:=v_ C q2 J.extBut D.TOi2.symm D.l2TO;have H:z < g.objs.size:=aI ze
 show aD _ _ (lL (.ref z) (.ref g.objs.size) >>= _) _ _ _;refine ab ?_;unfold lL;have zf:lC (g.push { cls:=.type "tuple",data:=.seq #[x,y] }) z tI tO .ellipsis:=ak _ ze;refine ab (cQ zf (by simp) λhg zg sg=>?_);have zg':lC hg z tI tO (dF g.objs.size):=zg;refine cQ zg' (by simp) λhh zh sh=>?_;have I:lC hh z tI tO (dF g.objs.size):=zh;have up:∀c o,c≠z->g.get? c=some o->hh.get? c=some o:=λc o l e=>sh.extBut _ _ l (sg.extBut _ _ l (ak _ e));have new:eS hh g.objs.size x y:=sh.extBut _ _ (dj H) (sg.extBut _ _ (dj H) (ay _ rfl));rw[h]at I new;refine ah ⟨_,rfl,?_⟩;show Q (.ref g.objs.size) _;rw[h];exact hQ hh I (up _ _ D.TOz Y) (G.keep _ _ _ q1e λc B o e=>up c o (B.elim (λq=>by rw[q];exact D.i1z) (λq=>by rw[q];exact D.l1z)) e) (C.keep _ _ _ q2e λc B o e=>up c o (B.elim (λq=>by rw[q];exact D.i2z) (λq=>by rw[q];exact D.l2z)) e) new λc o l n2 n3 n4 e=>up c o l (all c o l n2 n3 n4 e)
theorem WE{Q:PySem.Fin->am->Prop}(D:mG z tI tO i1 i2 l1 l2)(S1:BS prog w A i1 l1 v1 P1)(O:BS prog w A i2 l2 v2 P2)(hz:lC s.heap z tI tO .none)(hi:eS s.heap tI (.ref i1) (.ref i2))(ho:eS s.heap tO u v)
  (p1:P1 k s.heap) (p2:P2 k s.heap) (J:v1 k=none\/v2 k=none)
  (hE:∀h' e,(∀c o,c≠z->c≠tO->c≠i1->c≠i2->s.heap.get? c=some o->h'.get? c=some o)->(∃o,h'.get? e=some o/\o.cls=.type "StopIteration")->E (.ref e) { s with heap:=h' }):
  aD (aT prog w) A (Builtin.«zip.__next__» ⟨[.ref z],[]⟩) Q E s:=by
 show aD _ _ (pz (.ref z) 2 >>= _) _ _ _;refine ab (b8 hz rfl (x:=.bool false) rfl ?_);show aD _ _ (pz (.ref z) 3 >>= _) _ _ _;refine ab (b8 hz rfl (x:=.ref tI) rfl (ab (cN hi rfl ?_)));show aD _ _ (bM (.ref z) >>= _) _ _ _;refine ab ?_;unfold bM;refine ab (b8 hz rfl (x:=.none) rfl (ah ?_));simp only[if_true];refine ab (gu (ab (b8 hz rfl (x:=.ref tO) rfl (ab (cQ hz (by simp) λha za G=>?_)))));have C:lC ha z tI tO .ellipsis:=za;refine ab ?_;simp only[xM,y_,kK,nR];refine ab (ab (qp ?_));show aD _ _ (bj (.ref i1) >>= _) _ _ _;have H:P1 k ha:=v_ S1 p1 G.extBut D.i1z D.l1z;cases hx:v1 k with
 |none=>
  refine ab (S1.done k _ _ _ H hx λhb e g l=>?_);obtain⟨Y,B,L⟩:=l;have zb:lC hb z tI tO .ellipsis:=g _ _ D.i1z.symm C;have ne:e≠z:=λq=>by rw[q,zb]at B;cases B;simp at L
  exact cQ zb (by simp) λhc _ sc=>hE hc e (λc o I _ n3 _ q=>sc.extBut _ _ I (g _ _ n3 (G.extBut _ _ I q))) ⟨Y,sc.extBut _ _ ne B,L⟩
 |some x=>
  have hy:v2 k=none:=J.resolve_left (by rw[hx];simp);refine ab (S1.item k x _ _ _ H hx λhb q1 g=>ah ?_);have ob:eS hb tO u v:=g.extBut _ _ D.TOi1 (G.extBut _ _ D.TOz ho);refine ab (cN ob rfl (ab (pB ob λhc oc sc=>?_)));refine ab (gO (ah ?_));refine ab (ab (qp ?_));show aD _ _ (bj (.ref i2) >>= _) _ _ _;have U:P2 k hc:=v_ O (v_ O (v_ O p2 G.extBut D.i2z D.l2z) g.extBut D.i12.symm D.l2i1) sc.extBut D.TOi2.symm D.l2TO;refine ab (O.done k _ _ _ U hy λhd e sd h=>?_);obtain⟨Y,B,L⟩:=h;have zd:lC hd z tI tO .ellipsis:=sd _ _ D.i2z.symm (sc.extBut _ _ D.TOz.symm (g.extBut _ _ D.i1z.symm C));have ne:e≠z:=λq=>by rw[q,zd]at B;cases B;simp at L
  exact cQ zd (by simp) λhe _ se=>hE he e (λc o I n2 n3 n4 q=>se.extBut _ _ I (sd _ _ n4 (sc.extBut _ _ n2 (g.extBut _ _ n3 (G.extBut _ _ I q))))) ⟨Y,se.extBut _ _ ne B,L⟩
end
noncomputable abbrev tT(a:ao):Obj:={ cls:=.type "tuple_iterator",data:=.fields #[.ref a,.int 0 0] }
abbrev BP(h:bA)(a:ao):bA:=h.push (tT a)
abbrev BQ(h:bA)(a b:ao):bA:=(BP h a).push (tT b)
abbrev BW(h:bA)(a b:ao):bA:=(BQ h a b).push { cls:=.type "tuple",data:=.seq #[.ref h.objs.size,.ref (BP h a).objs.size] }
abbrev D_(h:bA)(a b:ao):bA:=(BW h a b).push { cls:=.type "tuple",data:=.seq #[.none,.none] }
abbrev xy(h:bA)(a b:ao):bA:=(D_ h a b).push { cls:=.type "zip",data:=.fields #[.none,.bool false,.bool false,.ref (BQ h a b).objs.size,.ref (BW h a b).objs.size] }
theorem Rq(a b:ao)(xs ys:Array ag):
  Meets (Builtin.«zip.__new__» ⟨[.type "zip",.ref a,.ref b],[]⟩) (λ_ R s=>s.heap.IsTuple a xs/\s.heap.IsTuple b ys/\R (.ok (.ret (.ref (D_ s.heap a b).objs.size))) { s with heap:=xy s.heap a b }):=
 .of_wp λprog w A R s h=>by
  obtain⟨q,g,d,c,os⟩:=s;obtain⟨C,B,h⟩:=h;have l:=sub_zip;have v:ua (ub ⟨q,g,d,c,os⟩) a xs:=C;have u:ua (ub ⟨q.push (tT a),g,d,c,os⟩) b ys:=let ⟨o,e,r⟩:=B;⟨o,ak _ e,r⟩
  wp_walk using kg v,kg u
  exact⟨_,rfl,h⟩
section
variable{prog:Program}{w:bE}{A:bv}{E:ag->am->Prop}{s:am}
theorem R6{a b:ao}{xs ys:Array ag}{Q:ag->am->Prop}(U:s.heap.IsTuple a xs)(O:s.heap.IsTuple b ys)
  (h:∀h',lC h' (s.heap.objs.size+4) (s.heap.objs.size+2) (s.heap.objs.size+3) .none->eS h' (s.heap.objs.size+2) (.ref s.heap.objs.size) (.ref (s.heap.objs.size+1))->eS h' (s.heap.objs.size+3) .none .none ->
   h'.IsTupleIter s.heap.objs.size a 0->h'.IsTupleIter (s.heap.objs.size+1) b 0->(∀c o,s.heap.get? c=some o->h'.get? c=some o)->Q (.ref (s.heap.objs.size+4)) { s with heap:=h' }):
  aD (aT prog w) A (call (.type "zip") [.ref a,.ref b]) Q E s:=by
 refine callType_new F.called_zip (by decide) (F.typeCall_zip_2 _ _) (F.newCall_zip_2 _ _) (λobj=>F.args_object_init_3 obj _ _) F.entry_zip_new (Rq a b xs ys) ⟨U,O,?_⟩;have C:(BP s.heap a).objs.size=s.heap.objs.size+1:=cu ..;have B:(BQ s.heap a b).objs.size=s.heap.objs.size+2:=by rw[cu,C]
 have v:(BW s.heap a b).objs.size=s.heap.objs.size+3:=by rw[cu,B]
 have J:(D_ s.heap a b).objs.size=s.heap.objs.size+4:=by rw[cu,v]
 have g:∀c o,(D_ s.heap a b).get? c=some o->(xy s.heap a b).get? c=some o:=λc o e=>ak _ e;have l:∀c o,(BW s.heap a b).get? c=some o->(xy s.heap a b).get? c=some o:=λc o e=>g c o (ak _ e);have q:∀c o,(BQ s.heap a b).get? c=some o->(xy s.heap a b).get? c=some o:=λc o e=>l c o (ak _ e);have up1:∀c o,(BP s.heap a).get? c=some o->(xy s.heap a b).get? c=some o:=λc o e=>q c o (ak _ e);have u:lC (xy s.heap a b) (D_ s.heap a b).objs.size (BQ s.heap a b).objs.size (BW s.heap a b).objs.size .none:=ay _ rfl;have G:eS (xy s.heap a b) (BW s.heap a b).objs.size .none .none:=g _ _ (ay _ rfl);have H:eS (xy s.heap a b) (BQ s.heap a b).objs.size (.ref s.heap.objs.size) (.ref (BP s.heap a).objs.size):=l _ _ (ay _ rfl);have I:(xy s.heap a b).get? (BP s.heap a).objs.size=some (tT b):=q _ _ (ay _ rfl);have L:(xy s.heap a b).get? s.heap.objs.size=some (tT a):=up1 _ _ (ay _ rfl)
 show _/\_;rw[B,v,J]at u;rw[v]at G;rw[C,B]at H;rw[C]at I;rw[J];exact⟨⟨_,u,rfl⟩,h _ u H G ⟨_,L,rfl,rfl⟩ ⟨_,I,rfl,rfl⟩ λc o e=>up1 c o (ak _ e)⟩
end
def AV(K:aj)(a b:ao):It:=
 ⟨λi H=>∃xs ys x y,iT K H a xs/\iT K H b ys/\xs[i]?=some x/\ys[i]?=some y,
  λi H r c=>∃T x y,r=.ref T/\H T=none/\(∀xs,iT K H a xs->xs[i]?=some x)/\(∀ys,iT K H b ys->ys[i]?=some y)/\c=ff H T (.tup [x,y]),
  λi H=>∃xs ys,iT K H a xs/\iT K H b ys/\(xs.length<=i\/ys.length<=i)⟩
section
variable{X:Cx}{tg:Expr}{es:List Expr}{pos:Pos}{fa fb:CE}{K:aj}{ρ:List ao}{H:Hp}{st:aZ}
noncomputable def H_(z g c o l a b:ao)(i:Nat)(h:bA):Prop:=lC h z g c .none/\eS h g (.ref o) (.ref l)/\(∃u v,eS h c u v)/\h.IsTupleIter o a i/\h.IsTupleIter l b i
theorem vw{h h':bA}{c l:ao}{k:Nat}(x:h.IsTupleIter c l k)(e:∀o,h.get? c=some o->h'.get? c=some o):h'.IsTupleIter c l k:=let ⟨o,e1,r⟩:=x;⟨o,e o e1,r⟩
theorem T5{P:Program}{w:bE}{k:Nat}{z U tO i1 i2 a b:ao}(D:mG z U tO i1 i2 a b):tR P w K (.Tuple es k pos) (AV K a b) [z,U,tO,i1,i2] z (H_ z U tO i1 i2 a b) where
 mem:=by simp
 obj:=λi h pq104 c l=>by
  obtain⟨B,G,⟨u,v,Q⟩,⟨o4,O,c4,d4⟩,⟨o5,L,c5,d5⟩⟩:=pq104;simp only[aP,cF,or_false]at l;rcases l with e|e|e|e|e<;>subst e
  ·exact⟨_,B,λv q=>by cases q⟩
  ·exact⟨_,G,λv q=>by cases q⟩
  ·exact⟨_,Q,λv q=>by cases q⟩
  ·exact⟨_,O,λv q=>by rw[d4]at q;cases q⟩
  ·exact⟨_,L,λv q=>by rw[d5]at q;cases q⟩
 keep:=λi h h' pq105 kp=>by obtain⟨B,G,⟨u,v,Q⟩,O,L⟩:=pq105;exact⟨kp z (by simp) _ B,kp U (by simp) _ G,⟨u,v,kp tO (by simp) _ Q⟩,vw O λo e=>kp i1 (by simp) o e,vw L λo e=>kp i2 (by simp) o e⟩
 item:=by
  intro X hP hw hK l i J s σ H E I hf pq153 hg;obtain⟨B,G,⟨u,v,Q⟩,O,L⟩:=pq153;subst hP hw hK;obtain⟨xs,ys,x,y,qa,qb,hx,hy⟩:=hg;obtain⟨its,rv,p,hz⟩:=I.tuple qa;obtain⟨C,Y,p2,hz2⟩:=I.tuple qb;obtain⟨ux,hux,rux⟩:=rv.get hx;obtain⟨uy,huy,ruy⟩:=Y.get hy;have hT:s.TypeIs (.ref z) "zip":=⟨_,B,rfl⟩
  have S1:=F6 (prog:=X.prog) (w:=X.w) (A:=X.A.in1) (items:=its.toArray) (I.ok.hd l) D.l1i1;have S2:=F6 (prog:=X.prog) (w:=X.w) (A:=X.A.in1) (items:=C.toArray) (I.ok.hd l) D.l2i2;unfold gD;refine ab (gw (bz (name:=az "__next__") hT fP (bR fP hT ng (Qj D S1 S2 B G Q ⟨O,p⟩ ⟨L,p2⟩ (x:=ux) (y:=uy) (by simpa using hux) (by simpa using huy) λh' g1 g2 g3 g4 g5 g7=>ah ?_) (mN _))));refine⟨_,rfl,wpAny_letOwnedTupleGo_zip g1 λh'' k1 k2=>?_⟩;have zlt:z < s.heap.objs.size:=aI B;have keep:∀c o,c∉[z,U,tO,i1,i2]->s.heap.get? c=some o->h''.get? c=some o:=λc o l e=>by simp only[aP,cF,or_false,not_or]at l;exact (k2.2 c l.1).trans (g7 c o l.1 l.2.2.1 l.2.2.2.1 l.2.2.2.2 e)
  have hT:eS h'' s.heap.objs.size ux uy:=(k2.2 _ (dj zlt)).trans g5;have I2:Inv X J σ (ff H s.heap.objs.size (.tup [x,y])) { s with heap:=h'',toks:=s.toks }:=
   L_ (its:=[ux,uy]) I hf keep (av _) (by show 2<=sizeLine;decide) (.cons rux (.cons ruy .nil)) ⟨_,hT,rfl,⟨_,rfl⟩,rfl⟩
  have hTn:H s.heap.objs.size=none:=I.hok.fresh (av _);refine⟨.ref s.heap.objs.size,_,I2,rfl,⟨_,x,y,rfl,hTn,λzs hzs=>by rw[I.tuple_inj hzs qa];exact hx,λzs hzs=>by rw[I.tuple_inj hzs qb];exact hy,rfl⟩,
   ⟨k1,(k2.2 U D.TIz).trans (g7 U _ D.TIz D.TITO D.TIi1 D.TIi2 G),⟨_,_,(k2.2 tO D.TOz).trans g2⟩,vw g3.1 λo e=>(k2.2 i1 D.i1z).trans e,vw g4.1 λo e=>(k2.2 i2 D.i2z).trans e⟩,λc l=>?_⟩
  rw[fO]
  ·exact (hf c l).1
  ·intro e;have:∃o,s.heap.get? c=some o:=by
    simp only[aP,cF,or_false]at l;rcases l with q|q|q|q|q<;>subst q
    ·exact⟨_,B⟩
    ·exact⟨_,G⟩
    ·exact⟨_,Q⟩
    ·obtain⟨o,e,_⟩:=O;exact⟨o,e⟩
    ·obtain⟨o,e,_⟩:=L;exact⟨o,e⟩
   obtain⟨o,g⟩:=this;have:=aI g;rw[e]at this;exact bn this (cq _)
 done:=by
  intro X hP hw hK l i J s σ H E I hf pq154 hg;obtain⟨B,G,⟨u,v,Q⟩,O,L⟩:=pq154;subst hP hw hK;obtain⟨xs,ys,qa,qb,hl⟩:=hg;obtain⟨its,rv,p,hz⟩:=I.tuple qa;obtain⟨C,Y,p2,hz2⟩:=I.tuple qb;have l1:=rv.length;have l2:=Y.length;have hT:s.TypeIs (.ref z) "zip":=⟨_,B,rfl⟩
  have S1:=F6 (prog:=X.prog) (w:=X.w) (A:=X.A.in1) (items:=its.toArray) (I.ok.hd l) D.l1i1;have S2:=F6 (prog:=X.prog) (w:=X.w) (A:=X.A.in1) (items:=C.toArray) (I.ok.hd l) D.l2i2;unfold gD;refine ab (gw (bz (name:=az "__next__") hT fP (bR fP hT ng (WE D S1 S2 B G Q ⟨O,p⟩ ⟨L,p2⟩ ?_ λh' e g ⟨o,q1,q2⟩=>?_) (mN _))))
  ·rcases hl with hl|hl
   ·exact .inl (by simp;ext)
   ·exact .inr (by simp;ext)
  ·refine ab (dk (T:="StopIteration") (b:=true) ⟨o,q1,q2⟩ mF (ah ⟨rfl,Nq (t':=s.toks) I hf λc o l e=>?_⟩));simp only[aP,cF,or_false,not_or]at l;exact g c o l.1 l.2.2.1 l.2.2.2.1 l.2.2.2.2 e
 self:=λ_ _ _ _ _ pq107 h=>by obtain⟨B,_⟩:=pq107;exact sR B h
theorem OE{a b:Expr}{Q:TA}{p B:Pos}{k:Nat}(hg:Gl X "zip")(hm:X.mg "zip"=none)(ha:PA X [a,b] Q)(hs:starEach [a,b] X.env=[(false,eval a X.env),(false,eval b X.env)])(C:starEach [b] X.env=[(false,eval b X.env)]):
  PI X (.Tuple es k B) (.Call (.Name "zip" p) [a,b] [] pos) (λσ H R=>Q σ H λO v=>∃u l xs ys,O=[.ref u,.ref l]/\iT X.K v u xs/\iT X.K v l ys/\R (AV X.K u l) v):=by
 intro g s σ H R I h;refine Call_ (xw I hg hm boot_zip (cW (fU (ha pos g s σ H _ I h) λus c ⟨O,v,G,r1,q1⟩=>?_) (by rw[hs,C]) (by rw[C];rfl)));obtain⟨u,l,xs,ys,e,hx,hy,q⟩:=q1;subst e;cases r1 with
 |cons r rr=>
  cases rr with
  |cons r' rr=>
   cases rr;cases r;cases r';obtain⟨its,rv,Y,hz⟩:=G.tuple hx;obtain⟨its2,rv2,U,hz2⟩:=G.tuple hy;have L:u < c.heap.objs.size:=by obtain⟨o,e,_⟩:=id Y;exact aI e
   have J:l < c.heap.objs.size:=by obtain⟨o,e,_⟩:=id U;exact aI e
   refine R6 Y U λh' g1 g2 g3 g4 g5 g7=>sR g1 ?_;have I2:Inv X g σ v { c with heap:=h' }:=G.kept (t':=c.toks) g7;refine⟨c.heap.objs.size+4,[c.heap.objs.size+4,c.heap.objs.size+2,c.heap.objs.size+3,c.heap.objs.size,c.heap.objs.size+1],_,AV X.K u l,v,rfl,I2,T5 (zipApart_new L J),⟨g1,g2,⟨_,_,g3⟩,g4,g5⟩,λb hb=>?_,q⟩;have E:c.heap.objs.size<=b:=by simp only[aP,cF,or_false]at hb;rcases hb with e|e|e|e|e<;>rw[e]<;>ext
   exact G.fpOk E (G.hok.fresh E)
def tw(a b:CE):CI:=λl=>bnd (a l) λx=>bnd (b l) λy=>match x,y with
 | .tup ds,.tup es=>ret ⟨ds.zipWith (λp q=>.tup [p,q]) es,dP⟩
 |_,_=>bad
theorem Rp{a b : Expr}{p u : Pos}{k : Nat}(hg : Gl X "zip")(hm : X.mg "zip" = none)(h : SE X a fa)(h' : SE X b fb)(U : starEach [a, b] X.env = (false, eval a X.env) :: starEach [b] X.env := by rfl)(Q : starEach [b] X.env = (false, eval b X.env) :: starEach [] X.env := by rfl)
  (hs:starEach [a,b] X.env=[(false,eval a X.env),(false,eval b X.env)]:=by rfl) (O:starEach [b] X.env=[(false,eval b X.env)]:=by rfl):SI X (.Tuple es k u) (.Call (.Name "zip" p) [a,b] [] pos) (tw fa fb):=
 (OE hg hm (qA h (qA h' uz Q) U) hs O).of λσ H R h_=>h_.el λρ l st lr sr p=>⟨ρ,l,st,lr,sr,p.bnd.imp λd I ρ1 H1 x1 s1 p1 v rv=>⟨ρ1,l,I,lr.mono x1,s1,p1.bnd.imp λe st2 ρ2 H2 x2 s2 L w B=>by
  have c:=rv.mono x2;cases c with
  |@tup a1 vs ds ha r=>
   cases B with
   |@tup a2 ws es' hb r'=>
    refine⟨a1,a2,vs,ws,rfl,ha,hb,L.ret s2 _ ?_⟩;intro ρ3 H3 st3 x3 s3 _;have q:iT X.K H3 a1 vs:=iT.mono x3.up ha;have o:iT X.K H3 a2 ws:=iT.mono x3.up hb;have r3:=r.mono x3;have C:=r'.mono x3;have l1:=r3.length;have l2:=C.length;refine⟨⟨vs,ws,q,o,?_⟩,λi d hd=>?_⟩
    ·show vs.length<=(ds.zipWith _ es').length\/ws.length<=(ds.zipWith _ es').length;rw[kX];ext
    ·rw[fC]at hd;cases E:ds[i]? with
     |none=>rw[E]at hd;cases hd
     |some d1=>
      cases Y:es'[i]? with
      |none=>rw[E,Y]at hd;cases hd
      |some d2=>
       rw[E,Y]at hd;have O:d=.tup [d1,d2]:=(aE hd).symm;subst O;obtain⟨v1,v,J⟩:=r3.get E;obtain⟨v2,u,c⟩:=C.get Y;refine⟨⟨vs,ws,v1,v2,q,o,v,u⟩,λy H4 g=>?_⟩;obtain⟨T,x,U,L,B,I,H,Q⟩:=g;subst L Q;have l:=I vs q;have h:=H ws o;rw[v]at l;cases l;rw[u]at h;cases h;have G:Ex ρ3 H3 ρ3 (ff H3 T (.tup [v1,v2])):=Ex.new B;exact⟨G,s3.new B,.tup (iT.of kh) (.cons (J.mono G) (.cons (c.mono G) .nil))⟩
   |_=>exact L.elim
  |_=>cases B<;>exact L.elim⟩⟩
end
theorem b7.reverse:∀{xs:List V}{c:List ag},b7 xs c->b7 xs.reverse c.reverse
 |_,_,.nil=>.nil
 |_,_,.cons r t=>by rw[fK,fK];exact L2.b7.append (b7.reverse t) (.cons r .nil)
section
variable{X:Cx}{a b c e o tg:Expr}{es:List Expr}{pos eh ec dc p p':Pos}{fa fb fc:CE}{ca cb:CA}{K:aj}{ρ:List ao}{H:Hp}{st:aZ}{te:TE}
theorem Vq:SE X (.Dict [] [] pos) (oP false):=Tv.of λσ H Q g q u=>by obtain⟨ρ,l,st,B,h,p⟩:=g;have p':∀ρ' H',Ex ρ H ρ' H'->SR X.K ρ' H' (st++[.dct false []])->∀v,dA X.K ρ' H' v (.dic st.length)->Q v H':=p;refine p' (ρ++[q]) _ (Ex.newO u) ((h.new u).keepO (h.fresh u) ⟨[],kh,.nil⟩) _ (.dic ⟨_,kh,.inl rfl⟩ ?_);rw[<- h.len];simp
def Bv(X:Cx):TE:=λ_ H Q=>∀p,H p=none->Q (.ref p) (ff H p (ic p []))
theorem Vt:PE X (.Dict [] [] pos) (Bv X):=λg s σ H Q I h=>
 Fg ⟨.ref s.heap.objs.size,_,I.laid (a:=s.heap.objs.size) (o:=ic s.heap.objs.size []) (t':=s.toks) (λ_ _ q=>ak _ q) (av _)
  (B8 (P:=X.prog) (w:=X.w) (xs:=[]) (bx _) (beq_eq_false_iff_ne.mpr (bG (bb I.big))) .nil (nS s.heap) ⟨_,_,ay _ rfl,rfl⟩),rfl,h _ (I.hok.fresh (av _))⟩
theorem V0:SE X (.Dict [] [] pos) (oP true):=Vt.of λσ H Q g q u=>by obtain⟨ρ,l,st,B,h,p⟩:=g;have p':∀ρ' H',Ex ρ H ρ' H'->SR X.K ρ' H' (st++[.dct true []])->∀v,dA X.K ρ' H' v (.dic st.length)->Q v H':=p;refine p' (ρ++[q]) _ (Ex.newO u) ((h.new u).keepO (h.fresh u) ⟨[],kh,.nil⟩) _ (.dic ⟨_,kh,.inr rfl⟩ ?_);rw[<- h.len];simp
end



































end MM
namespace MM
open PySem PyProof.Rows L2
section
variable{prog:Program}{w:bE}{K:Type}[DecidableEq K]{knd:nC prog w K}{A:bv}{E:ag->am->Prop}{s:am}{d a:ao}{k:K}{xs:List (K×ao×ag)}
theorem SK{dflt:ag}{Q:ag->am->Prop}(hu:knd.room A)
  (c:knd.is s.heap k a) (Y:s.heap.DictOfH knd d xs) (U:rE s.heap d xs.length) (hsz:xs.length<=sizeLine)
  (h1:∀p,iW xs k=some p->Q p.2 { s with toks:=s.toks+knd.draws k })
  (h2:iW xs k=none->∀h',h'.DictOfH knd d (lc xs k a dflt)->rE h' d (lc xs k a dflt).length->cz d s.heap h'->Q dflt { s with heap:=h',toks:=s.toks+knd.draws k }):
  aD (aT prog w) A (uL d (.ref a) dflt) Q E s:=by
 obtain⟨o,es,ep,g,hc,hd,G,B,I⟩:=Y;obtain⟨o',es',l,C⟩:=U;rw[g]at l;cases l;rw[hd]at C;cases C;unfold uL;refine bH ?_;refine ab (knd.pyHash hu c ?_);refine ab (p9 (s:={ s with toks:=s.toks+knd.draws k }) hu c g hd G B I (λu=>?_) λj p J=>?_)
 ·have q:k∉xs.map (·.1):=zL u;have L:=Cm u;have H:=storedH_new (a:=a) (v:=dflt) L;have l:=g9 G;refine ab (gu (ab (py (hz:=by ext) (s:={ s with toks:=s.toks+knd.draws k }) g hd (ah
   (h2 L _ ⟨_,_,_,bJ _ g (dM (cj hd _)),hc.mapDictKeys _,cj hd _,?_,?_,?_⟩ ?_ (bV ..))))))
  ·rw[H];simp[G,n5]
  ·rw[H];intro x h;rcases aX.mp h with h|h
   ·exact knd.keeps (B x h) g hd (bV ..)
   ·cases aJ.mp h;exact knd.keeps c g hd (bV ..)
  ·rw[H,bc,dN];refine⟨I,by simp,λx h y O=>?_⟩;cases aJ.mp O;exact λe=>q ((show x=k from e) ▸ h)
  ·rw[H,aH];exact⟨_,_,bJ _ g (dM (cj hd _)),cj hd _⟩
 ·refine ab (b_ (s:={ s with toks:=s.toks+knd.draws k }) g hd ?_);rw[zc G j,J];exact ab (gu (ah (h1 p (rR I J))))
theorem Vi(hd:(d == bO)=false)(dflt:ag):
  xi prog w (Builtin.«dict.setdefault» ⟨[.ref d,.ref a,dflt],[]⟩) (λA R s=>knd.room A.in1/\∃k xs,knd.is s.heap k a/\s.heap.DictOfH knd d xs/\rE s.heap d xs.length/\xs.length<=sizeLine /\
   (∀p,iW xs k=some p->R (.ok (.ret p.2)) { s with toks:=s.toks+knd.draws k }) /\
   (iW xs k=none->∀h',h'.DictOfH knd d (lc xs k a dflt)->rE h' d (lc xs k a dflt).length->cz d s.heap h'->R (.ok (.ret dflt)) { s with heap:=h',toks:=s.toks+knd.draws k })):=
 .of_wp λA R s z=>by
  obtain⟨hu,k,xs,c,q,l,hz,B,v⟩:=z;unfold Builtin.«dict.setdefault»;refine ab ?_;unfold o_;refine ab (dY q.typeIs ?_)
  show aD _ _ (pure (d,aV a,some dflt)) _ _ s;refine ah ?_
  show aD _ _ (if (d == bO)=true then _ else (uL d (.ref a) dflt >>= _)) _ _ s;rw[aC (by rw[hd];exact aY)];exact ab (SK hu c q l hz (λp l=>ah ⟨p.2,rfl,B p l⟩) λu h' o h g=>ah ⟨dflt,rfl,v u h' o h g⟩)
end
section
variable{X:Cx}{cp:List (ao×Obj)}{σ:St}{H:Hp}{s:am}{ρ:List ao}{st:aZ}{a:ao}
theorem WR{n:Nat}{g:List (D×D)}{k d:D}{y v:V}{u L:ag}{Q:ag->am->Prop}{E:ag->am->Prop}{A:bv}(hu:A.units+2 < cA)(I:Inv X cp σ H s)(sr:SR X.K ρ H st)(ha:ρ[n]?=some a)(hn:st[n]?=some (.dct true g))
  (rk:dA X.K ρ H y k) (hk:m5 true k=true) (hl:g.length < sizeLine) (rv:dA X.K ρ H v d) (ry:RelV y u) (rr:RelV v L)
  (h1:∀d',lV g k=some d'->∀B w' C,Inv X cp σ H C->dA X.K ρ H B d'->RelV B w'->Q w' C)
  (h2:lV g k=none->∀H' C,Inv X cp σ H' C->SR X.K ρ H' (st.set n (.dct true (lG g k d)))->Ex ρ H ρ H'->Q L C):
  aD (aT X.prog X.w) A (call (.builtin "dict.setdefault") [.ref a,u,L]) Q E s:=by
 have hlt:=(ac.mp hn).1;obtain⟨O,e,r⟩:=sr.ob n a _ ha hn;obtain⟨k,rfl⟩:=B5 hk;obtain⟨_,hd,xs,U,dd,de⟩:=v9 I e r;obtain⟨c,e2,e3,hc⟩:=zv I rk ry;subst e2 e3;have w:=sr.putO (o':=.dct true (lG g (oG k) d)) (u':=ic a (putN O k c v)) hlt ha e (by show (2:Nat)≠3;decide) rfl ⟨_,kh,(NR.put r k c rk rv).up ?_⟩
 ·have hz : xs.length <= sizeLine := by rw[<- bZ U,NR.length r];ext
  have l:=NR.val r k;have h:=NX.val U k;refine oi vV dd.typeIs F.entry_dict_setdefault (F.args_dict_setdefault_3 _ _ _) (Vi (knd:=xF X) hd L) ⟨show A.in1.units+1 < cA from hu,k,xs,hc,dd,de,hz,λp Y=>?_,λY h' J o u=>?_⟩
  ·rw[Y]at h;cases G:valN O k with
   |none=>rw[G]at h;exact h.elim
   |some B=>
    rw[G]at l h;cases el:lV g (oG k) with
    |none=>rw[el]at l;exact l.elim
    |some d'=>
     rw[el]at l;exact h1 d' el B p.2 _ (I.tok _) l h
  ·rw[Y]at h;cases G:valN O k with
   |some B=>rw[G]at h;exact h.elim
   |none=>
    rw[G]at l;cases el:lV g (oG k) with
    |some d'=>rw[el]at l;exact l.elim
    |none=>
     refine h2 el _ _ ?_ w.1 w.2;have C:∃q,h'.get? a=some q:=let ⟨q,_,_,hq,_⟩:=J;⟨q,hq⟩
     refine Cb I (by rw[e];exact eE) u C (B8 ?_ hd (NX.put U k c rr) J o);have:=Hy O k c v;rw[NR.length r]at this;ext
 ·refine⟨⟨[],by simp⟩,λc o g q=>?_,λc o q=>?_⟩
  ·rw[fO λz=>by subst z;rw[e]at q;cases q;exact nomatch g];exact q
  ·by_cases z:c=a
   ·subst z;rw[e]at q;cases q;exact⟨_,kh,rfl⟩
   ·exact⟨o,by rw[fO z];exact q,rfl⟩
end
open PySem.W
section
variable{prog:Program}{w:bE}{A:bv}{E:ag->am->Prop}{s:am}{d it:ao}{es:Array fm}{ep i:Nat}
noncomputable def mw(h:bA)(d:ao)(es:Array fm)(ep:Nat):Prop:=∃o,h.get? d=some o/\o.ExactDict/\o.data=.dict es ep
theorem mw.typeIs(x:mw s.heap d es ep):s.TypeIs (.ref d) "dict":=by obtain⟨o,g,c,_⟩:=x;exact⟨o,g,c.1⟩
theorem mw.keep{h h':bA}(x:mw h d es ep)(k:∀o,h.get? d=some o->h'.get? d=some o):mw h' d es ep:=by obtain⟨o,g,r⟩:=x;exact⟨o,k o g,r⟩
theorem mw.lt{h:bA}(x:mw h d es ep):d < h.objs.size:=by obtain⟨o,g,_⟩:=x;exact aI g
theorem Ng{Q:ag->am->Prop}(hd:(d == bO)=false)(x:mw s.heap d es ep)
  (q:Q (.ref s.heap.objs.size) { s with heap:=s.heap.push { cls:=.type "dict_keyiterator",data:=.fields #[.ref d,.int 0 0,.int es.size 0,.int ep 0] } }):
  aD (aT prog w) A (BE (.ref d)) Q E s:=by
 have T:=x.typeIs;obtain⟨o,g,c,h⟩:=x;refine Cq T BM (bR BM T F.entry_dict_iter ?_ (F.args_dict_iter_1 _));unfold Builtin.«dict.__iter__» Builtin.Dict.dictSlotNone;refine ab (ab (dY T ?_))
 show aD _ _ (pure (aV d)) _ _ s;refine ah ?_
 show aD _ _ (e8 d >>= _) _ _ s;unfold e8;rw[aC (by rw[hd];exact aY)];refine ab (ah (ab (b_ g h (ab (fV g h ?_)))));refine ab (b9 (ah ⟨_,rfl,"dict_keyiterator",_,⟨_,ay _ rfl,rfl⟩,gW.lookup,?_⟩));simpa [dF] using q
theorem Lm{e:fm}{Q:Option ag->am->Prop}(z:s.heap.IsKeyIter it d i es.size ep)(x:mw s.heap d es ep)(C:es[i]?=some e)
  (q:∀h',h'.IsKeyIter it d (i+1) es.size ep->cz it s.heap h'->Q (some e.key) { s with heap:=h' }):aD (aT prog w) A (gD (.ref it)) Q E s:=by
 have T:=z.typeIs;obtain⟨o,g,c,h⟩:=id z;obtain⟨G,u,H,v⟩:=x;unfold gD;refine ab (gw (bz (name:=az "__next__") T gW (bR gW T su ?_ (rS _))));refine ab (ah (ab (ab ?_)))
 first|refine ab (gP T (ah ?_))|refine ab (iY T (ah ?_))
 refine ab (pC g h ?_);have B:eJ "dict_keyiterator"=false:=by decide
 simp only[B,aL,if_false]
 show aD _ _ (if (aV d == bF)=true then _ else _) _ _ s;rw[aC (show ¬ ((aV d == bF)=true) from aY)];refine ab (ah (ab (b_ u v ?_)));rw[aC (by simp)];refine ab (ah (ab (fV u v ?_)));rw[aC (by simp)];refine ah ?_;simp only[show ¬ ((i:Int) < 0) from by ext,if_false,ba,C];refine ab ?_
 first|refine ab (gP T (ah ?_))|refine ab (iY T (ah ?_))
 refine ab (xN T ?_)
 show aD _ _ (zi (.ref it) 1 (dF ((i:Int)+1)) >>= _) _ _ s;refine ab (mE g h (by simp) ?_);have l:(s.heap.update it (Cr (·.setIfInBounds 1 (dF ((i:Int)+1))))).IsKeyIter it d (i+1) es.size ep:=
  ⟨_,bJ _ g (ve (lS h _)),(xL ..).trans c,by rw[lS h];simp[dF]⟩
 refine ab (bH (ab (xN (s:={ s with heap:=s.heap.update it (Cr (·.setIfInBounds 1 (dF ((i:Int)+1)))) }) l.typeIs ?_)))
 show aD _ _ (pure e.key) _ _ _;exact ah (ah ⟨_,rfl,ah (q _ l (bV ..))⟩)
theorem Mi{Q:Option ag->am->Prop}(hh:A.handled=none)(z:s.heap.IsKeyIter it d i es.size ep)(x:mw s.heap d es ep)(B:es[i]?=none)
  (q:∀h',nQ it s.heap h'->Q none { s with heap:=h' }):aD (aT prog w) A (gD (.ref it)) Q E s:=by
 have T:=z.typeIs;obtain⟨o,g,c,l⟩:=id z;obtain⟨C,h,G,u⟩:=x;unfold gD;refine ab (gw (bz (name:=az "__next__") T gW (bR gW T su ?_ (rS _))));refine ab (ah (ab (ab ?_)))
 first|refine ab (gP T (ah ?_))|refine ab (iY T (ah ?_))
 refine ab (pC g l ?_);have v:eJ "dict_keyiterator"=false:=by decide
 simp only[v,aL,if_false]
 show aD _ _ (if (aV d == bF)=true then _ else _) _ _ s;rw[aC (show ¬ ((aV d == bF)=true) from aY)];refine ab (ah (ab (b_ h u ?_)));rw[aC (by simp)];refine ab (ah (ab (fV h u ?_)));rw[aC (by simp)];refine ah ?_;simp only[show ¬ ((i:Int) < 0) from by ext,if_false,ba,B];refine ab ?_
 first|refine ab (gP T (ah ?_))|refine ab (iY T (ah ?_))
 show aD _ _ (zi (.ref it) 0 .none >>= _) _ _ s;refine ab (mE g l (by simp) ?_)
 show aD _ _ (xj (.type "StopIteration") [] >>= _) _ _ _;refine ab ?_;simp only[xj,newTuple];refine ab (b9 ?_ (by size_fits));refine ab (m:=kA _ _) (pA (a:=bF) (by first|rfl|(simp only[kA];rfl)) (b9 ?_ (by size_fits)));simp only[raiseNew];refine ab (vT ?_);rw[show A.in1.handled=none from hh];refine ab (ah (y8 ?_));refine ab (dk (T:="StopIteration") (b:=true) ⟨_,ay _ rfl,rfl⟩ mF ?_);exact ah (q _ (((bV ..).extBut.push _).push _))
theorem Q6(hh:A.handled=none)(I d:ao)(B:d≠I)(es:Array fm)(ep:Nat):
  Walks prog w A I [I,d] [I] es.size (λi v=>∃e,es[i]?=some e/\v=e.key) (λi h=>h.IsKeyIter I d i es.size ep/\mw h d es ep) where
 sub:=λb c=>by simp at c;simp[c]
 frame:=λ_ _ _ z k=>⟨z.1.at λo e=>k I (by simp) o e,z.2.keep λo e=>k d (by simp) o e⟩
 item:=λi s Q E C z q=>by
  have g:es[i]?=some es[i]:=by simp[C]
  refine Lm z.1 z.2 g λh' u l=>?_;exact q _ h' s.toks ⟨_,g,rfl⟩ ⟨u,z.2.keep λo e=>l.extBut d o B e⟩ λb o c e=>l.extBut b o (λh=>c (by simp[h])) e
 done:=λs Q E z q=>Mi hh z.1 z.2 (by simp) λh' G=>q h' s.toks λb o c e=>G b o (λh=>c (by simp[h])) e
 self:=λ_ _ _ _ z q=>zj z.1 q
theorem S5(lo:(d == bO)=false):KdlSrc prog w "dict" d d es.size (λi v=>∃e,es[i]?=some e/\v=e.key) (λh=>mw h d es ep) where
 type:=λ_ x=>x.typeIs
 there:=λ_ x=>⟨x.lt,x.lt⟩
 keep:=λ_ _ x k=>x.keep λo e=>k d (.inl rfl) o e
 notList:=by decide
 notTuple:=by decide
 hint:=λ_ _ _ _ x q=>kdl_hint_dict x.typeIs q
 iter:=λ_ _ hh x=>⟨_,_,(λ_ _ q=>Ng lo x q),Q6 hh _ d (bb x.lt) es ep,⟨⟨_,ay _ rfl,rfl,rfl⟩,x.keep λo e=>ak _ e⟩⟩
end
end MM
namespace MM
open PySem
def ph:D->M D
 | .dic n=>bnd (getDc n) λp=>chk (p.1=true) (alloc (.lst (p.2.map (·.1))))
 |_=>bad
def lH(n:Nat)(k v:D):M D:=bnd (getDc n) λp=>chk (p.1=true/\m5 true k=true/\p.2.length < fu) (match lV p.2 k with
 |some d=>ret d
 |none=>bnd (rZ n true (lG p.2 k v)) λ_=>ret v)
def oM(a b c:CE):CE:=λl=>bnd (a l) λx=>match x with
 | .dic n=>bnd (getDc n) λp=>chk (p.1=true) (bnd (b l) λy=>bnd (c l) λz=>lH n y z)
 |_=>bad
def pb(g:List D->M D)(a:CA)(d:D):CE:=λl=>bnd (a l) λds=>g (ds++[d])
open PySem.W PyProof.Rows L2
section
variable{X:Cx}
theorem NX.refs{c:List (NK×ao×V)}{xs:List (NK×ao×ag)}(r:NX c xs):L2.b7 (c.map λp=>V.ref p.2.1) (xs.map λx=>aV x.2.1):=by
 induction r with
 |nil=>exact .nil
 |cons h t ih=>exact .cons (by dsimp only;rw[h.2.1];rfl) ih
theorem U0(hc:X.calm=true):CallR X (.type "list") (λU H Q=>∃a C ρ E,U=[.ref a]/\H a=some (ic a C)/\NR X.K ρ H C E/\∀l,H l=none->Q (.ref l) (ff H l (.lst (C.map λp=>V.ref p.2.1)))):=by
 intro Y s σ H U us Q I r h;obtain⟨a,C,ρ,E,rfl,e,nr,q⟩:=h;obtain⟨u,rfl,J⟩:=uV r;cases J;obtain⟨hz,hd,xs,J,dd,_⟩:=v9 I e nr;obtain⟨o,O,ep,g,c,gd,he,_⟩:=id dd;have hn:O.size=xs.length:=g9 he;have hl:C.length=xs.length:=bZ J;refine kdl_call (S5 (ep:=ep) hd) (I.ok.hd hc) ⟨o,g,c,gd⟩ (by ext) λh' tk B c' kp hS v=>?_;have ea:B=(xs.map λx=>aV x.2.1).toArray:=by
  apply Array.ext';apply fL;intro i;rw[eR,ar];cases L:xs[i]? with
  |none=>
   have:=List.getElem?_eq_none_iff.mp L;rw[iZ (by rw[v.1];ext)];rfl
  |some x=>
   have hi:=(ac.mp L).1;have G:i < B.size:=by rw[v.1];ext
   rw[sw G];obtain⟨en,e1,e2⟩:=v.2 i B[i] (sw G);rw[zc he i,L]at e1;cases e1;rw[e2];rfl
 rw[ea]at hS;exact⟨.ref s.heap.objs.size,_,I.laid (t':=tk) kp (av _) (show eU X.prog X.w _ h' _ (.lst (C.map λp=>V.ref p.2.1)) from ⟨by rw[ae];exact hz,_,c',J.refs,hS⟩),rfl,q _ (I.hok.fresh (av _))⟩
theorem NR.keys{K:aj}{ρ:List ao}{H:Hp}{g:List (NK×ao×V)}{c:List (D×D)}(r:NR K ρ H g c):bT K ρ H (g.map λp=>V.ref p.2.1) (c.map (·.1)):=by
 induction r with
 |nil=>exact .nil
 |cons h t ih=>exact .cons h.2.1 ih
theorem Tt(I:X.calm=true):CallR X (.type "list") (λxs H Q=>∃v,xs=[v]/\vx X.K ph v H Q):=(U0 I).of λxs H Q z=>by
 obtain⟨v,e,ρ,st,d,c,B,p⟩:=z;cases B with
 |@dic a n _ h=>
  obtain⟨b,g,O,E⟩:=aN.getDc (aN.bnd p) c;obtain⟨J,C⟩:=aN.chk E;cases (show b=true from J);obtain⟨q,L,r⟩:=c.ob n a _ h O;refine⟨a,q,ρ,g,e,L,r,λl o=>?_⟩;have G:=c.fresh o;have u:SR X.K (ρ++[l]) (ff H l (.lst (q.map λp=>V.ref p.2.1))) (st++[.lst (g.map (·.1))]):=(c.new o).keep kh G ((NR.keys r).mono (Ex.new o));refine C _ _ (Ex.newL o) u _ (.ref ⟨_,kh,rfl⟩ ?_);rw[<- c.len];simp
 |_=>exact p.elim
theorem M8{o e:Expr}{u:List Expr}{to:TE}{t:TA}{name:Str}{C l:Pos}{id:String}{r:V->List V->Hp->VK->Prop}(slot:Slot "dict" name id)(U:BH (.builtin id)=pure (.type "method_descriptor"))(hm:Ec X id r)(ho:PE X o to)(ha:PA X (e::u) t)
  (G:dI o name X.env (eval o X.env)=eval o X.env)
  (L:((backTo l (starEach (e::u) X.env)).all (λx => !x.1)&&(rP l (mU [] X.env)).all (λx=>x.1.isSome)&&decide ((e::u).length+([]:List kr).length+(if ([]:List kr).isEmpty then 0 else 1) < 30))=true)
  (E:(C.endLine == l.line)=true) (hs:starEach (e::u) X.env=(false,eval e X.env)::starEach u X.env) (B:(backTo l (starEach u X.env)).any (·.1)=false):
  PE X (.Call (.Attribute o name C) (e::u) [] l) (λσ H Q=>to σ H λx O=>(∃a u ρ J,x=.ref a/\O a=some (ic a u)/\NR X.K ρ O u J)/\t σ O λxs H2=>r x xs H2 Q):=by
 intro q s σ H Q I h;refine xg G L E rfl (fU (ho q s σ H _ I h) λv s1 z=>?_);obtain⟨x,O,I1,r1,⟨a,es',ρ,J,rfl,e1,nr⟩,q1⟩:=z;cases r1;obtain⟨_,_,_,_,dd,_⟩:=v9 I1 e1 nr;have dd':=dd;obtain⟨ob,_,_,g,c,_⟩:=dd';refine⟨"dict",id,qT,slot,U,dd.typeIs,λb Y=>by injection Y with Y;subst Y;exact⟨ob,g,c.2.1⟩,?_⟩;have hA:=ha l q s1 σ O _ I1 q1;rw[hs]at hA ⊢;refine gA (by show (false||(backTo l (starEach u X.env)).any (·.1))=false;rw[B]<;>rfl) (nB (fU hA λus s2 z=>?_));obtain⟨vs,H2,I2,r2,q2⟩:=z;exact hm q s2 σ H2 (.ref a) vs _ us Q I2 rfl r2 q2
def u7(X:Cx):V->List V->Hp->VK->Prop:=λx h H Q=>∃(a:ao)(ρ:List ao)(st:aZ)(n:Nat)(cx:List (D×D))(k d:D)(y v:V),x=.ref a/\h=[y,v]/\SR X.K ρ H st/\ρ[n]?=some a/\st[n]?=some (.dct true cx)/\dA X.K ρ H y k/\m5 true k=true/\cx.length < sizeLine/\dA X.K ρ H v d /\
 (∀d',lV cx k=some d'->∀g,dA X.K ρ H g d'->Q g H)/\(lV cx k=none->∀c,SR X.K ρ c (st.set n (.dct true (lG cx k d)))->Ex ρ H ρ c->Q v c)
theorem O1(hu:X.A.units+60 < cA):Ec X "dict.setdefault" (u7 X):=by intro q s σ H x vs u us Q I L O h;obtain⟨a,ρ,st,n,cx,k,d,y,v,rfl,rfl,E,ha,hn,U,hk,hl,Y,h1,h2⟩:=h;cases L;obtain⟨u1,u2,rfl,r1,o⟩:=O.two;exact WR (by ext) I E ha hn U hk hl Y r1 o (λd' e l w' J g r' c=>⟨l,H,g,c,h1 d' e l r'⟩) λe B J g G C=>⟨v,B,g,o,h2 e B G C⟩
theorem Rz{o G q : Expr}{fa fb fc : CE}{u c : Pos}(hu : X.A.units+60 < cA)(ho : SE X o fa)(ha : SE X G fb)(hb : SE X q fc)(C : dI o "setdefault" X.env (eval o X.env) = eval o X.env := by rfl)
  (J:((backTo c (starEach [G,q] X.env)).all (λx => !x.1)&&(rP c (mU [] X.env)).all (λx=>x.1.isSome)&&decide ([G,q].length+([]:List kr).length+(if ([]:List kr).isEmpty then 0 else 1) < 30))=true:=by rfl)
  (B:(u.endLine == c.line)=true:=by rfl) (hs:starEach [G,q] X.env=(false,eval G X.env)::starEach [q] X.env:=by rfl) (hs2:starEach [q] X.env=(false,eval q X.env)::starEach [] X.env:=by rfl) (g:(backTo c (starEach [q] X.env)).any (·.1)=false:=by rfl):
  SE X (.Call (.Attribute o "setdefault" u) [G,q] [] c) (oM fa fb fc):=
 (M8 vV F.type_dict_setdefault (O1 hu) ho (qA ha (qA hb uz hs2) hs) C J B hs g).of λσ H Q h_=>h_.el λρ l st lr sr p=>⟨ρ,l,st,lr,sr,p.bnd.imp λd U ρ1 H1 x1 s1 p1 v rv=>by
  cases rv with
  |@dic a n kk h=>
   obtain⟨b,I,e0,p2⟩:=aN.getDc (aN.bnd p1) s1;obtain⟨hb0,p3⟩:=aN.chk p2;cases (show b=true from hb0);obtain⟨es0,e3,r0⟩:=s1.ob n a _ h e0;refine⟨⟨a,es0,ρ1,I,rfl,e3,r0⟩,?_⟩;refine⟨ρ1,l,U,lr.mono x1,s1,(aN.bnd p3).imp λdy O ρ2 H2 x2 s2 p4 y ry=>⟨ρ2,l,O,(lr.mono x1).mono x2,s2,(aN.bnd p4).imp λdz L ρ3 H3 x3 Y p5 z rz=>?_⟩⟩
   show u7 X (.ref a) [y,z] H3 Q;obtain⟨b,cx,e5,p6⟩:=aN.getDc (aN.bnd p5) Y;obtain⟨⟨hb5,hk,hl⟩,E⟩:=aN.chk p6;cases (show b=true from hb5);have h3:ρ3[n]?=some a:=by obtain⟨τ,e,_⟩:=(x2.trans x3).pre;rw[e];exact wP h
   refine⟨a,ρ3,L,n,cx,dy,dz,y,z,rfl,rfl,Y,h3,e5,ry.mono x3,hk,hl,rz,λd' e v' rv'=>?_,λe H' s4 x4=>?_⟩
   ·dsimp only at E;rw[e]at E;exact E.ret Y v' rv'
   ·dsimp only at E;rw[e]at E;have c:=aN.bnd E;unfold rZ at c;rw[e5]at c;exact (c ρ3 _ x4 s4).ret s4 _ (rz.mono x4)
  |_=>exact p1.elim⟩
end
end MM
namespace MM
open PySem
noncomputable def uY(n:Nat)(ks:List D):aZ->Prop:=λs=>∃c,s[n]?=some (.dct true c)/\c.map (·.1)=ks
def vt(a:CE):CI:=λl=>bnd (a l) λx=>match x with
 | .dic n=>bnd (getDc n) λp=>chk (p.1=true) (ret ⟨p.2.map (·.1),uY n (p.2.map (·.1))⟩)
 |_=>bad
open PySem.W PyProof.Rows L2
theorem yp{α β:Type}{F:α->β->Prop}:∀{l₁:List α}{l₂:List β}{i:Nat}{x:α},kf F l₁ l₂->l₁[i]?=some x->∃y,l₂[i]?=some y/\F x y
 |_,_,_,_,.nil,e=>by simp at e
 |_,_,0,_,.cons r _,e=>by simp at e;subst e;exact⟨_,rfl,r⟩
 |_,_,i+1,_,.cons _ t,e=>by obtain⟨v,g,c⟩:=yp (i:=i) t (by simpa using e);exact⟨v,by simpa using g,c⟩
def Me(a:ao)(n:Nat):It:=
 ⟨λi H=>∃c p,H a=some (ic a c)/\c.length=n/\c[i]?=some p,λi H x g=>g=H/\∀c,H a=some (ic a c)->∃p,c[i]?=some p/\x=.ref p.2.1,λi H=>∃c,H a=some (ic a c)/\c.length=n/\n<=i⟩
section
variable{X:Cx}{cp:List (ao×Obj)}{σ:St}{H:Hp}{s:am}{ρ:List ao}{st:aZ}{a:ao}
theorem FK{g:List (NK×ao×V)}(I:Inv X cp σ H s)(e:H a=some (ic a g)):
  g.length<=sizeLine/\(a == bO)=false/\∃c,mw s.heap a c g.length/\c.size=g.length/\∀(i:Nat)(p:NK×ao×V),g[i]?=some p->∃v:fm,c[i]?=some v/\v.key=.ref p.2.1:=by
 obtain⟨⟨z,y,xs,h,o,c,ep,L,J,G,u,U,E⟩,Q,O⟩:=(show eU X.prog X.w H s.heap a (ic a g) from I.hok a _ e)
 have l:g.length=xs.length:=bZ h;subst E;refine⟨z,y,c,⟨o,L,J,by rw[l];exact G⟩,?_,λi p C=>?_⟩
 ·rw[l,<- cP,u,ae]
 ·obtain⟨q,B,r⟩:=yp h C;refine⟨wT q,by rw[<- eR,u,ar,B];rfl,?_⟩;rw[r.2.1];rfl
end
theorem RJ{P:Program}{w:bE}{K:aj}{tg:Expr}(a g:ao)(n:Nat):tR P w K tg (Me a n) [g] g (λi h=>h.IsKeyIter g a i n n) where
 mem:=by simp
 obj:=λi h st b C=>by
  have e:b=g:=by simpa using C
  subst e;obtain⟨o,e,c,d⟩:=st;exact⟨o,e,λv z=>by rw[d]at z;cases z⟩
 keep:=λi h h' st k=>st.at λo e=>k g (by simp) o e
 item:=by
  intro X hP Y hK hc i l s σ H E I L st hg;subst hP Y hK;obtain⟨es,p,hq,hn,U⟩:=hg;obtain⟨_,_,G,O,hz,hk⟩:=FK I hq;obtain⟨u,hu,ku⟩:=hk i p U;obtain⟨f0,f1,f2,f3,f4,f5⟩:=L g (by simp);subst hn;have q:s.heap.IsKeyIter g a i G.size es.length:=by rw[hz];exact st
  refine Lm q O hu λh' B sb=>?_;rw[hz]at B;have I1:Inv X l σ H { s with heap:=h' }:=I.turned (t':=s.toks) (λb o C e=>(sb.2 b C).trans e) f0 f1 f3 f4 f5;obtain⟨o,e,c,d⟩:=id B;exact⟨u.key,rfl,FI (s:={ s with heap:=h' }) e c d (by decide) ⟨.ref p.2.1,H,I1,ku,⟨rfl,λys hy=>by
   obtain⟨_,_,es2,en2,hz2,hk2⟩:=FK I hy;obtain⟨o1,g1,_,d1⟩:=O;obtain⟨o2,g2,_,Q⟩:=en2;rw[g1]at g2;cases g2;rw[d1]at Q;injection Q with Q d3
   subst Q;have hi:i < ys.length:=by rw[<- d3];exact (ac.mp U).1
   obtain⟨v,hv,J⟩:=hk2 i _ (ai hi);rw[hu]at hv;cases hv;rw[ku]at J;injection J with J
   exact⟨_,ai hi,by rw[J]⟩⟩,B,λb C=>(L b C).1⟩⟩
 done:=by
  intro X hP Y hK hc i l s σ H E I L st hg;subst hP Y hK;obtain⟨es,hq,hn,U⟩:=hg;obtain⟨_,_,G,O,hz,hk⟩:=FK I hq;obtain⟨f0,f1,f2,f3,f4,f5⟩:=L g (by simp);subst hn;have q:s.heap.IsKeyIter g a i G.size es.length:=by rw[hz];exact st
  exact Mi (I.ok.hd hc) q O (by simp;ext) λh' eb=>⟨rfl,I.turned (t':=s.toks) (λb o C e=>eb b o C e) f0 f1 f3 f4 f5⟩
 self:=λ_ _ _ _ _ st h=>zj st h
section
variable{X:Cx}{tg e:Expr}{fa:CE}
theorem NY{l:Expr}{E:TE}(L:PE X l E):PI X tg l (λσ H R=>E σ H λx C=>∃a u,x=.ref a/\C a=some (ic a u)/\R (Me a u.length) C):=by
 intro c s σ H R I h;refine fU (L c s σ H _ I h) λv g z=>?_;obtain⟨x,C,B,G,a,u,e,J,q⟩:=z;subst e;cases G;obtain⟨hz,hd,Q,U,sz,_⟩:=FK B J;refine Ng hd U ?_;refine⟨g.heap.objs.size,[g.heap.objs.size],_,_,C,rfl,B.kept (t':=g.toks) λb o e=>ak _ e,RJ a _ u.length,⟨_,ay _ rfl,rfl,by rw[sz];rfl⟩,λb O=>?_,q⟩;have e:b=g.heap.objs.size:=by simpa using O
 subst e;exact B.fpOk (av _) (B.hok.fresh (av _))
theorem Qo(h:SE X e fa):SI X tg e (vt fa):=(NY h).of λσ H R h_=>h_.el λρ l st lr Q p=>⟨ρ,l,st,lr,Q,p.bnd.imp λd O ρ1 H1 x1 u I v U=>by
 cases U with
 |@dic a n _ h=>
  obtain⟨b,C,e,p2⟩:=aN.getDc (aN.bnd I) u;obtain⟨hb,p3⟩:=aN.chk p2;cases (show b=true from hb);obtain⟨E,e3,r⟩:=u.ob n a _ h e;refine⟨a,E,rfl,e3,p3.ret u _ λρ H st x s q=>?_⟩;obtain⟨c,e4,L⟩:=q;have ha:ρ[n]?=some a:=by obtain⟨τ,eτ,_⟩:=x.pre;rw[eτ];exact wP h
  obtain⟨g,G,B⟩:=s.ob n a _ ha e4;have J:g.length=E.length:=by rw[NR.length B,NR.length r,<- ae (f:=(·.1)) (as:=c),L,ae]
  refine⟨⟨g,G,J,by show E.length<=(C.map (·.1)).length;rw[ae,NR.length r];exact av _⟩,λi d hd=>?_⟩;have o:(c.map (·.1))[i]?=some d:=by rw[L];exact hd
  have hi:i < g.length:=by rw[NR.length B,<- ae (f:=(·.1)) (as:=c)];exact (ac.mp o).1
  refine⟨⟨g,_,G,J,ai hi⟩,λy H' z=>?_⟩;obtain⟨rfl,z⟩:=z;obtain⟨p,hp,rfl⟩:=z g G;refine⟨Ex.refl,s,?_⟩;obtain⟨q,hq,Y⟩:=yp B hp;rw[ar,hq]at o;cases o;exact Y.2.1
 |_=>exact I.elim⟩
end
end MM
namespace MM
open PySem
def vI(a b c:CE):CE:=λl=>bnd (a l) λx=>match x with
 | .dic n=>bnd (getDc n) λp=>chk (p.1=true) (bnd (b l) λy=>bnd (c l) λz=>bnd (getDc n) λp=>chk (p.1=true/\m5 true y=true) (ret ((lV p.2 y).getD z)))
 |_=>bad
open PySem.W PyProof.Rows L2
section
variable{prog:Program}{w:bE}{K:Type}[DecidableEq K]{knd:nC prog w K}{A:bv}{E:ag->am->Prop}{s:am}{d a:ao}{k:K}{xs:List (K×ao×ag)}
theorem WD(hd:(d == bO)=false)(dflt:ag):
  xi prog w (Builtin.«dict.get» ⟨[.ref d,.ref a,dflt],[]⟩) (λA R s=>knd.room A.in1/\∃k xs,knd.is s.heap k a/\s.heap.DictOfH knd d xs/\R (.ok (.ret (((iW xs k).map (·.2)).getD dflt))) { s with toks:=s.toks+knd.draws k }):=
 .of_wp λA R s z=>by
  obtain⟨hu,k,xs,c,g,h⟩:=z;unfold Builtin.«dict.get»;refine ab ?_;unfold o_;refine ab (dY g.typeIs ?_)
  show aD _ _ (pure (d,aV a,some dflt)) _ _ s;refine ah ?_;dsimp only;refine ab (wpAny_dictGet_heap hu c g ?_);cases e:(iW xs k) with
  |some p=>
   rw[e]at h;exact ah ⟨_,rfl,h⟩
  |none=>
   rw[e]at h;dsimp only[Option.map];unfold Builtin.Dict.missed;rw[aC (by rw[hd];exact aY)];exact ab (ah (ah ⟨_,rfl,h⟩))
end
section
variable{X:Cx}{cp:List (ao×Obj)}{σ:St}{H:Hp}{s:am}{ρ:List ao}{st:aZ}{a:ao}
def DU(X:Cx):V->List V->Hp->VK->Prop:=λx g H Q=>∃(a:ao)(ρ:List ao)(st:aZ)(n:Nat)(cx:List (D×D))(k d:D)(y v:V),x=.ref a/\g=[y,v]/\SR X.K ρ H st/\ρ[n]?=some a/\st[n]?=some (.dct true cx)/\dA X.K ρ H y k/\m5 true k=true/\dA X.K ρ H v d/\∀c,dA X.K ρ H c ((lV cx k).getD d)->Q c H
theorem S8(hu:X.A.units+60 < cA):Ec X "dict.get" (DU X):=by
 intro cp s σ H x vs u us Q I C O h;obtain⟨a,ρ,st,n,o,k,d,y,v,rfl,rfl,L,ha,hn,U,hk,Y,q⟩:=h;cases C;obtain⟨u1,J,rfl,r1,r2⟩:=O.two;obtain⟨es,e,r⟩:=L.ob n a _ ha hn;obtain⟨k,rfl⟩:=B5 hk;obtain⟨_,hd,xs,C,G,_⟩:=v9 I e r;obtain⟨c,e2,e3,hc⟩:=zv I U r1;subst e2 e3;have l:=NR.val r k;have g:=NX.val C k;refine oi Cs G.typeIs F.entry_dict_get (F.args_dict_get_3 _ _ _) (WD (knd:=xF X) hd J) ⟨show X.A.in1.units+1 < cA from (by show X.A.units+1+1 < cA;ext),k,xs,hc,G,?_⟩;cases E:valN es k with
 |none=>
  rw[E]at l g;cases el:lV o (oG k) with
  |some d'=>rw[el]at l;exact l.elim
  |none=>
   rw[el]at q;cases B:iW xs k with
   |some p=>rw[B]at g;exact g.elim
   |none=>exact⟨v,H,I.tok _,r2,q v Y⟩
 |some v'=>
  rw[E]at l g;cases el:lV o (oG k) with
  |none=>rw[el]at l;exact l.elim
  |some d'=>
   rw[el]at l q;cases B:iW xs k with
   |none=>rw[B]at g;exact g.elim
   |some p=>
    rw[B]at g;exact⟨v',H,I.tok _,g,q v' l⟩
theorem QQ{o E q : Expr}{fa fb fc : CE}{u c : Pos}(hu : X.A.units+60 < cA)(ho : SE X o fa)(ha : SE X E fb)(hb : SE X q fc)(C : dI o "get" X.env (eval o X.env) = eval o X.env := by rfl)
  (I:((backTo c (starEach [E,q] X.env)).all (λx => !x.1)&&(rP c (mU [] X.env)).all (λx=>x.1.isSome)&&decide ([E,q].length+([]:List kr).length+(if ([]:List kr).isEmpty then 0 else 1) < 30))=true:=by rfl)
  (B:(u.endLine == c.line)=true:=by rfl) (hs:starEach [E,q] X.env=(false,eval E X.env)::starEach [q] X.env:=by rfl) (hs2:starEach [q] X.env=(false,eval q X.env)::starEach [] X.env:=by rfl) (g:(backTo c (starEach [q] X.env)).any (·.1)=false:=by rfl):
  SE X (.Call (.Attribute o "get" u) [E,q] [] c) (vI fa fb fc):=
 (M8 Cs F.type_dict_get (S8 hu) ho (qA ha (qA hb uz hs2) hs) C I B hs g).of λσ H Q h_=>h_.el λρ l st lr sr p=>⟨ρ,l,st,lr,sr,p.bnd.imp λd O ρ1 H1 x1 Y p1 v rv=>by
  cases rv with
  |@dic a n kk h=>
   obtain⟨b,G,e0,p2⟩:=aN.getDc (aN.bnd p1) Y;obtain⟨hb0,p3⟩:=aN.chk p2;cases (show b=true from hb0);obtain⟨es0,e3,r0⟩:=Y.ob n a _ h e0;refine⟨⟨a,es0,ρ1,G,rfl,e3,r0⟩,?_⟩;refine⟨ρ1,l,O,lr.mono x1,Y,(aN.bnd p3).imp λdy L ρ2 H2 x2 s2 p4 y ry=>⟨ρ2,l,L,(lr.mono x1).mono x2,s2,(aN.bnd p4).imp λdz J ρ3 H3 x3 U p5 z rz=>?_⟩⟩
   show DU X (.ref a) [y,z] H3 Q;obtain⟨b,cx,e5,p6⟩:=aN.getDc (aN.bnd p5) U;obtain⟨⟨hb5,hk⟩,p7⟩:=aN.chk p6;cases (show b=true from hb5);have h3:ρ3[n]?=some a:=by obtain⟨τ,e,_⟩:=(x2.trans x3).pre;rw[e];exact wP h
   exact⟨a,ρ3,J,n,cx,dy,dz,y,z,rfl,rfl,U,h3,e5,ry.mono x3,hk,rz,λv' rv'=>p7.ret U v' rv'⟩
  |_=>exact p1.elim⟩
end
end MM
namespace MM
open PySem PyProof.Rows L2
section
open PySem.Builtin.Str
variable{prog:Program}{w:bE}{A:bv}{E:ag->am->Prop}{s:am}
end
abbrev CF:=Str->Loc->M D
end MM
namespace MM
noncomputable def sv(m:Nat):List Nat:=(cg 4).filter λi=>m.testBit i
open PySem PySem.W PyProof.Rows L2
def tb(c:Bool)(m:Nat):SetTable:=⟨7,(sv m).toArray,#[],0,c,0,true⟩
theorem u5:∀c:Bool,∀m:Nat,m < 16->∀v:Nat,v < 4->m.testBit v=false->(tb c m).freeSlot (v:Int)=some (v,false):=by nofun
theorem uD:∀c:Bool,∀m:Nat,m < 16->∀v:Nat,v < 4->m.testBit v=false->(tb c m).put v=(tb c (m ||| 1 <<< v),qr (tb c m).place v)/\(sv (m ||| 1 <<< v))=(sv m).take (qr (tb c m).place v)++v::(sv m).drop (qr (tb c m).place v)/\(m ||| 1 <<< v) < 16:=by nofun
end MM
namespace MM
open PySem PySem.Spec PyProof.Rows L2
structure qx(x:Str):Prop where
 d:(x == ("__debug__":Str))=false
 c:(x == ("__classdict__":Str))=false
 n:x≠"__name__"
theorem QZ{x:Str}(h:((x == ("__debug__":Str))||(x == ("__classdict__":Str))||decide (x=("__name__":Str)))=false):qx x:=by rw[nU,nU]at h;exact⟨h.1.1,h.1.2,of_decide_eq_false h.2⟩
structure Sc(X:Cx)(sc:dR):Prop where
 vis:∀x k,sc.names.lookup x=some k->(k=.local\/k=.cell\/k=.free)->JB X.env.scope x
 cel:∀x,(sc.names.lookup x=some .cell\/sc.names.lookup x=some .free)->(X.env.kindOf x=some .cell\/X.env.kindOf x=some .free)
 glo:∀x,sc.names.lookup x=some .globalImplicit->Gl X x
 loc:∀x k,sc.names.lookup x=some k->(k=.local\/k=.cell)->L2.Loc X.env.scope x/\(X.fn x=true\/X.env.scope.names.lookup x=some .local)
 calm:X.calm=true
theorem JF{P:Program}{w:bE}{K:aj}{mg:Str->Option ag}{base:bA}{N:List Str}{qual:Str}{sc:dR}{f:ao}{g:ag}{A:bv}{outer:List Env}{s:am}{H:Hp}{E:XK}:
  Sc (qK sf P w K mg base N qual sc f g A outer s H E).nox sc where
 vis:=λx k h c=>by
  rcases c with z|z|z<;>subst z
  ·exact .inl h
  ·exact .inr (.inl h)
  ·exact .inr (.inr h)
 cel:=λx h=>h
 glo:=λx h=>h
 loc:=λx k h c=>⟨by rcases c with z|z<;>subst z;exact .inl h;exact .inr h,.inl rfl⟩
 calm:=rfl
theorem Ql{X:Cx}{N:List Str}{scope:dR}{fp:List ao}{s:am}{H:Hp}(l:X.calm=true):Sc (oq X N scope fp s H) scope where
 vis:=λx k h g=>by
  show (i8 scope X.env).names.lookup x=_\/(i8 scope X.env).names.lookup x=_\/(i8 scope X.env).names.lookup x=_;rw[B4,h,du];rcases g with z|z|z<;>subst z
  ·exact .inl rfl
  ·exact .inr (.inl rfl)
  ·by_cases c:(bK == bK&&X.env.scope.kind == .function&&X.env.kindOf x == some .cell)=true
   ·rw[aG c];exact .inr (.inl rfl)
   ·rw[aC c];exact .inr (.inr rfl)
 cel:=λx h=>by
  show (i8 scope X.env).names.lookup x=_\/(i8 scope X.env).names.lookup x=_;rcases h with h|h<;>rw[B4,h,du]
  ·exact .inl rfl
  ·by_cases c:(bK == bK&&X.env.scope.kind == .function&&X.env.kindOf x == some .cell)=true
   ·rw[aG c];exact .inl rfl
   ·rw[aC c];exact .inr rfl
 glo:=λx h=>by show (i8 scope X.env).names.lookup x=_;rw[B4,h,du];rfl
 loc:=λx k h g=>by
  refine⟨?_,.inl ?_⟩
  ·show (i8 scope X.env).names.lookup x=_\/(i8 scope X.env).names.lookup x=_;rw[B4,h,du];rcases g with z|z<;>subst z
   ·exact .inl rfl
   ·exact .inr rfl
  ·show decide (scope.names.lookup x=some .local\/scope.names.lookup x=some .cell)=true;rw[h];rcases g with z|z<;>subst z<;>decide
 calm:=l
noncomputable def sx(sc scope:dR):Bool:=
 (scope.kind == .function)&&scope.names.all (λp=>p.2 != .local||scope.names.lookup p.1 == some .local) &&
 scope.names.all (λp=>p.2 != .free||((sc.names.lookup p.1 == some .cell||sc.names.lookup p.1 == some .free) && !scope.names.contains (p.1,.cell)&&scope.names.lookup p.1 != some .local))
theorem LM{X:Cx}{sc scope:dR}(S:Sc X sc)(h:sx sc scope=true):gX X scope:=by
 unfold sx at h;rw[bu,bu]at h;obtain⟨⟨E,o⟩,l⟩:=h;rw[d7]at o l;have fr:∀x,(x,bK)∈scope.names->(sc.names.lookup x=some .cell\/sc.names.lookup x=some .free)/\(x,ii)∉scope.names/\scope.names.lookup x≠some .local:=λx c=>by have q:=l _ c;simp only[bne_self_eq_false,BI,bu,ra,beq_iff_eq,pO,bne_iff_ne,ne_eq]at q;obtain⟨⟨v,g⟩,u⟩:=q;refine⟨v,λz=>?_,u⟩;have:scope.names.contains (x,ii)=true:=List.contains_iff_mem.mpr z;rw[this]at g;cases g
 refine⟨by simpa using E,λp B C=>?_,λx c=>S.cel x (fr x c).1,λx c=>(fr x c).2.1,λx c=>(fr x c).2.2⟩;have q:=o p B;rw[C]at q;simpa using q
noncomputable def qB(c:List Str)(scope:dR)(N:List Str)(n:Nat)(ix:List Nat):Bool:=
 N.length == n+ix.length&&(cg ix.length).all λj=>match ix[j]?,N[n+j]? with
  |some i,some x=>c[i]? == some x&&scope.names.lookup x == some .free
  |_,_=>false
theorem Lo{X:Cx}{g:List Str}{scope:dR}{N:List Str}{n:Nat}{ix:List Nat}(o:X.N=g)(h:qB g scope N n ix=true):ke X scope N n ix:=by unfold qB at h;rw[bu,d7]at h;refine⟨by simpa using h.1,λj i x c l=>?_⟩;have q:=h.2 j (hV.mpr (ac.mp c).1);rw[c,l]at q;simp only[bu,beq_iff_eq]at q;rw[o];exact q
section
variable{X:Cx}{sc:dR}{a b c e o tg:Expr}{es:List Expr}{pos p:Pos}{fa fb fc:CE}{ca cb:CA}{x:Str}{T id:String}
theorem Jb(S:Sc X sc)(i:Nat)(hN:X.N[i]?=some x){k:fA}(h:sc.names.lookup x=some k)(n:qx x)(g:k=.local\/k=.cell\/k=.free:=by decide):SE X (.Name x pos) (aq i):=Vg i (QO hN (S.vis x k h g) n.d n.c)
theorem Ti(S:Sc X sc)(i:Nat)(l:X.N.Nodup)(hN:X.N[i]?=some x){k:fA}(h:sc.names.lookup x=some k)(g:k=.local\/k=.cell:=by decide):SG X (.Name x pos) (aQ i):=
 R9 (Wd l hN (S.loc x k h g).1 (S.loc x k h g).2)
theorem SY(S : Sc X sc)(i : Nat)(q : X.N.Nodup)(hN : X.N[i]? = some x){k : fA}(h : sc.names.lookup x = some k){g : Pos}(v : SE X e fa)(l : k = .local \/ k = .cell := by decide)(u : ki e (some (.Name x g)) pos.line X.env = pure false := by rfl):
  SS X (.Assign [.Name x g] e pos) (cf (aQ i) fa):=PX q hN (S.loc x k h l).1 v u (S.loc x k h l).2
theorem Pj{n:Nat}(h:∀l st ds g,ca l st=.ok ds g->ds.length=n):∀l st ds g,aw fa ca l st=.ok ds g->ds.length=n+1:=λl st ds g e=>by
 unfold aw bnd at e;cases q:fa l st with
 |ok d s1=>
  rw[q]at e;dsimp only at e;cases u:ca l s1 with
  |ok es s2=>
   rw[u]at e;have:=h l s1 es s2 u;cases e;simp[this]
  |exc _ _=>rw[u]at e;cases e
  |bad=>rw[u]at e;cases e
 |exc _ _=>rw[q]at e;cases e
 |bad=>rw[q]at e;cases e
theorem P6:∀l st ds g,bh l st=.ok ds g->ds.length=0:=λl st ds g e=>by cases e;rfl
noncomputable def yj(K:aj)(h:dG)(g:List Str):Prop:=∀(s:am)(ws:List ag),ws.length=g.length->rL s h ⟨[],g.zip ws⟩ (g.zip ws)
theorem TW{k n:Nat}{f:ao}{B:dG}{v:List Str}{g:List D->M D}(S:Sc X sc)(h:sc.names.lookup x=some .globalImplicit)(F:m7 X.prog X.w X.K X.mg X.base sf k f B v (n0 X.K n g))(E:iU k X.A)(H:X.mg x=some (.ref f))
  (I:dm X.K (.ref f)=true) (L:Binds X.K B v []) (C:qx x) (O:SA X (e::es) ca) (G:∀l st ds q,ca l st=.ok ds q->ds.length=n)
  (J:starEach (e::es) X.env=(false,eval e X.env)::starEach es X.env:=by rfl) (u:(backTo pos (starEach es X.env)).any (·.1)=false:=by rfl):SE X (.Call (.Name x p) (e::es) [] pos) (bW g ca):=
 T3 F E (S.glo x h) H I L MB O G C.d J u
end
theorem OO{k:Nat}{X:Cx}(h:iU k X.A):X.A.units+60 < cA:=by have:=h.units;ext
theorem N6{P:Program}{w:bE}{K:aj}{mg:Str->Option ag}{base:bA}{x qual:Str}{l:fH}{f:ao}{q:dG}{N o:List Str}{k n m:Nat}{c:CS}(F:xB K x qual l f q)(S:lI N o (bD l))(u:o.length=n)(v:N.length=m)
  (g:∀(h:ag)(A:bv)(outer:List Env)(s:am)(H:Hp)(E:XK),q.code=h->iU k (A.deeper (m9 qual (bD l) s.heap.objs.size f h))->ww (qK sf P w K mg base N qual (bD l) f h A outer s H E).nox (dw l) c):
  m7 P w K mg base sf (k+1) f q o (n0 K n (cm m c)):=by
 subst u v;exact N_ F S g
theorem M6{K:aj}{ρ:List ao}{H:Hp}:∀(c:List Int),bT K ρ H (c.map V.int) (c.map D.int)
 |[]=>.nil
 |n::c=>.cons (.int n) (M6 c)
@[elab_as_elim] theorem v5{A:Type}{P:List A->Prop}(h:∀a,P [a])(c:List A)(g:c.length=1):P c:=by
 cases c with
 |nil=>cases g
 |cons a t=>cases t with
  |nil=>exact h a
  |cons b u=>simp at g
@[elab_as_elim] theorem uW{A:Type}{P:List A->Prop}(h:∀o l,P [o,l])(c:List A)(g:c.length=2):P c:=by
 cases c with
 |nil=>cases g
 |cons a t=>exact v5 (P:=λt=>P (a::t)) (h a) t (oz g)
@[elab_as_elim] theorem xt{A:Type}{P:List A->Prop}(h:∀q o l,P [q,o,l])(c:List A)(g:c.length=3):P c:=by
 cases c with
 |nil=>cases g
 |cons a t=>exact uW (P:=λt=>P (a::t)) (h a) t (oz g)
@[elab_as_elim] theorem xp{A:Type}{P:List A->Prop}(h:∀u q o l,P [u,q,o,l])(c:List A)(g:c.length=4):P c:=by
 cases c with
 |nil=>cases g
 |cons a t=>exact xt (P:=λt=>P (a::t)) (h a) t (oz g)
@[elab_as_elim] theorem Uz{A:Type}{P:List A->Prop}(h:∀v u q o l,P [v,u,q,o,l])(c:List A)(g:c.length=5):P c:=by
 cases c with
 |nil=>cases g
 |cons a t=>exact xp (P:=λt=>P (a::t)) (h a) t (oz g)
structure wX(K:aj)(x qual:Str)(st:fH)(f:ao)(fd:dG)(u:ag):Prop where
 ex:∃(oc:ag)(od:Option ao)(kV doc pm:ag)(an:Option ao)(cdv ct:ag)(osl:Array (Option ag))(T:ao)(o:Obj)(n:Nat),
  fd=cD x qual (fE st) (dw st) (bD st) (.ref T) kV doc pm an cdv ct/\K.lookup f=some ⟨oc,od,.func fd,osl⟩/\fR K cdv qual=true/\K.lookup T=some o/\o.data=.seq #[u] n
 kp:dm K (.ref f)=true
section
variable{P:Program}{w:bE}{K:aj}{mg:Str->Option ag}{base:bA}{x qual:Str}{st:fH}{f:ao}{fd:dG}{u:ag}{ps:List Str}
theorem wX.binds{ds:List ag}(F:wX K x qual st f fd u)
  (h:∀(T:ao)(kV c q:ag)(v:Option ao)(g ct:ag)(l:List ag),(l++ds).length=ps.length->∃k:Option (Array ag)->Sem (List (Str×ag)),lA (cD x qual (fE st) (dw st) (bD st) (.ref T) kV c q v g ct) ⟨l,[]⟩=kW (.ref T) >>= k/\k (some #[u])=pure (ps.zip (l++ds))):Binds K fd ps ds:=by
 obtain⟨O,L,kV,c,q,v,g,ct,B,T,o,n,rfl,Q,G,lt,C⟩:=F.ex;intro s l J E;obtain⟨k,I,H⟩:=h T kV c q v g ct l E;exact rL.of_defaults (T:=T) rfl (J T o lt) C I H
theorem QS{E:ag}{C B:Option ao}{q:Array (Option ag)}{kV h v g ct:ag}{T:ao}{o:Obj}{n:Nat}(l:K.lookup f=some ⟨E,C,.func (cD x qual (fE st) (dw st) (bD st) (.ref T) kV h v B g ct),q⟩)
  (c:fR K g qual=true) (k:dm K (.ref f)=true) (lt:K.lookup T=some o) (G:o.data=.seq #[u] n):wX K x qual st f (cD x qual (fE st) (dw st) (bD st) (.ref T) kV h v B g ct) u:=
 ⟨⟨E,C,kV,h,v,B,g,ct,q,T,o,n,rfl,l,c,lt,G⟩,k⟩
theorem Wa{N:List Str}{k n m:Nat}{g:CS}(F:wX K x qual st f fd u)(S:lI N ps (bD st))(hn:ps.length=n)(hm:N.length=m)
  (q:∀(c:ag)(A:bv)(outer:List Env)(s:am)(H:Hp)(E:XK),iU k (A.deeper (m9 qual (bD st) s.heap.objs.size f c))->ww (qK sf P w K mg base N qual (bD st) f c A outer s H E).nox (dw st) g):
  m7 P w K mg base sf (k+1) f fd ps (n0 K n (cm m g)):=by
 subst hn hm;obtain⟨oc,od,kV,doc,pm,an,c,ct,Y,T,o,n,rfl,lk,G,lt,ht⟩:=F.ex;refine Kd lk G S (λJ H Q E h=>h.1) λA outer s H J Q E hr h=>⟨_,(q c A outer s H E hr).nox,?_⟩
 obtain⟨hl,ρ,st,ds,O,C,p⟩:=h;refine⟨ρ,_,st,LR.start C,O,?_⟩;unfold cm at p;exact p.bnd.imp λf L ρ1 H1 x1 I B=>by
  cases f with
  |next l=>exact λσ' _=>B.ret I _ .non
  |ret d=>exact λv U=>B.ret I v U
  |brk l=>exact B.elim
  |cnt l=>exact B.elim
end
section
variable{X:Cx}{sc:dR}{e:Expr}{es:List Expr}{pos p:Pos}{ca:CA}{x:Str}
theorem Q0{k n:Nat}{i:Int}{u:ag}{f:ao}{C:dG}{B:List Str}{g:List D->M D}(S:Sc X sc)(h:sc.names.lookup x=some .globalImplicit)(F:m7 X.prog X.w X.K X.mg X.base sf k f C B (n0 X.K n g))(J:iU k X.A)(O:X.mg x=some (.ref f))
  (Y:dm X.K (.ref f)=true) (hb:Binds X.K C B [u]) (hu:RelV (.int i) u) (G:qx x) (ha:SA X (e::es) ca) (L:∀l st ds o,ca l st=.ok ds o->ds.length+1=n)
  (he:starEach (e::es) X.env=(false,eval e X.env)::starEach es X.env:=by rfl) (v:(backTo pos (starEach es X.env)).any (·.1)=false:=by rfl):SE X (.Call (.Name x p) (e::es) [] pos) (pb g ca (.int i)):=
 (Kv F J (S.glo x h) O Y hb (.cons hu .nil) MB ha G.d he v).of λσ H Q h_=>h_.el λρ l st I E p=>⟨ρ,l,st,I,E,by
  have q:=aN.bnd p;cases c:ca l st with
  |bad=>rw[c]at q;exact q
  |exc _ _=>rw[c]at q;exact q
  |ok ds eg=>
   rw[c]at q;intro ρ1 H1 x1 s1 vs rvs;have U:=L l st ds eg c;exact⟨by rw[aH,rvs.length];exact U,ρ1,eg,ds++[.int i],s1,bT.app rvs (.cons (.int i) .nil),q ρ1 H1 x1 s1⟩⟩
end
noncomputable def Kt(h h':bA):Prop:=∀c o,h.get? c=some o->o.cls=.type "tuple"->h'.get? c=some o
structure OS(prog:Program)(w:bE)(K:Type)[DecidableEq K] where
 is:bA->K->ao->Prop
 hash:K->Int
 draws:K->Nat
 keep:∀{h h':bA}{k:K}{b:ao},Kt h h'->is h k b->is h' k b
 hashes:∀{A:bv}{E:ag->am->Prop}{s:am}{k:K}{b:ao}{Q:Int->am->Prop},A.units+1 < cA->is s.heap k b->Q (hash k) { s with toks:=s.toks+draws k }->aD (aT prog w) A (pyHash (.ref b)) Q E s
 eqs:∀{A:bv}{E:ag->am->Prop}{s:am}{x y:K}{a b:ao}{Q:Bool->am->Prop},A.units+1 < cA->is s.heap x a->is s.heap y b->Q (decide (x=y)) s->aD (aT prog w) A (eqBool (.ref a) (.ref b)) Q E s
 quiet:∀{A:bv}{E:ag->am->Prop}{s:am}{k:K}{b:ao}{Q:Bool->am->Prop},is s.heap k b->Q true s->aD (aT prog w) A (pN 8 (.ref b)) Q E s
 cls:∀{A:bv}{E:ag->am->Prop}{s:am}{k:K}{b:ao}{Q:Bool->am->Prop},is s.heap k b->Q false s->aD (aT prog w) A (ofAClassStatement 8 (.ref b)) Q E s
 byv:∀{A:bv}{E:ag->am->Prop}{s:am}{k:K}{b:ao}{Q:Bool->am->Prop},is s.heap k b->Q true s->aD (aT prog w) A (hashByValue 8 (.ref b)) Q E s
section
variable{prog:Program}{w:bE}{K:Type}[DecidableEq K](T:OS prog w K)
variable{T}
variable{A:bv}{E:ag->am->Prop}{s:am}{a:ao}{fg:Bool}{m:Nat}{key:Nat->K}{es:Array (Int×ag)}
end
section
variable{prog:Program}{w:bE}{A:bv}{E:ag->am->Prop}{s:am}
theorem items_int{k:List Int}{c:List ag}(h:ItemsAre (pK prog w) k c):∀v∈c,∃i t,v=fZ i t:=by
 induction h with
 |nil=>simp
 |cons h1 h2 ih=>
  intro v g;rcases aP.mp g with z|z
  ·subst z;cases v with
   |int i t=>exact⟨i,t,rfl⟩
   |_=>exact nomatch h1
  ·exact ih v z
end
end MM
namespace MM
def A2(x y:D):M D:=match x,y with
 | .int a,.int b=>ret (.int (a+b))
 |_,_=>bad
open PySem
def ug(j:Nat)(x:Str)(e:Expr):CE:=λ_ s=>match s[j]? with
 |some (.tbl y)=>if y=x then .ok (.fn s.length) (s++[.lam e]) else .bad
 |_=>.bad
structure RL where
 n:Nat
 k:Nat
 g:List D->M D
open Classical in
def qI:List (Expr×RL)->Expr->List D->M D
 |[],_=>λ_=>bad
 | (e,r)::l,x=>if x=e then λds=>chk (ds.length=r.n) (r.g ds) else qI l x
def qH(W:List (Expr×RL))(d:D)(ds:List D):M D:=λs=>match d with
 | .fn n=>match s[n]? with
  |some (.lam e)=>qI W e ds s
  |_=>.bad
 |_=>.bad
def pe(W:List (Expr×RL))(a:CE)(r:CA):CE:=λl=>bnd (a l) λd=>bnd (r l) λds=>qH W d ds
noncomputable def uB(m:Nat)(f:CE)(ds:List D):M D:=f (ds.map some++bq (m-ds.length) none)
open PySem.Spec PyProof.Rows L2
def Fa(H:Hp)(P:ao)(q:Str):Prop:=∃tb,H P=some (.tbl tb)/\sP tb.toList/\∀p v,nE p tb.toList=some v->∃c,v=.ref c/\ur H c q
structure Ew(H H':Hp)(P:ao)(q:Str)(a:ao)(e:Expr):Prop where
 fresh:H a=none
 lam:Dj H' a e
 tab:Fa H' P q
 keep:∀b o,b≠P->H b=some o->H' b=some o
def Io(P:ao)(q:Str)(e:Expr):TE:=λσ H Q=>Fa H P q/\∀a c,Ew H c P q a e->Q (.ref a) c
noncomputable def BMod(base:bA)(mg:Str->Option ag):Prop:=∃g c,mg "__builtins__"=some (.ref g)/\g≠n6/\base.get? g=some c/\c.cls=.type "module"/\c.dict=some n6/\c.data=.plain
theorem Qf{l m:Nat}{c:ag}:∀(xs:List ag),sP xs->sP (xs++[dF l,dF m,c])/\∀p v,nE p (xs++[dF l,dF m,c])=some v->nE p xs=some v\/v=c:=by
 intro xs h
 fun_induction sP xs with
 |case1=>
  refine⟨trivial,λp v z=>?_⟩;have g:(if ((l:Int) == p.line&&(m:Int) == p.col)=true then some c else none)=some v:=z;split at g
  ·exact .inr (aE g).symm
  ·cases g
 |case2 a t b u x rest ih=>
  obtain⟨q,o⟩:=ih h;refine⟨q,λp v z=>?_⟩;have g:(if (a == p.line&&b == p.col)=true then some x else nE p (rest++[dF l,dF m,c]))=some v:=z
  show (if (a == p.line&&b == p.col)=true then some x else nE p rest)=some v\/v=c;split at g
  ·rename_i w;rw[aG w];exact .inl g
  ·rename_i w;rw[aC w];exact o p v g
 |case3=>exact h.elim
section
variable{X:Cx}
theorem UU{c P:ao}{q:Str}{U:mj}{b:Expr}{sc:dR}{pos:Pos}(E:X.env.code=.ref c)(hc:dX X.K c P=true)(hB:BMod X.base X.mg)(hq:X.env.qual++"<lambda>"=q)(hd:BO U X.env=([],[]))
  (hcl:oh sc X.env=pure []):PE X (.Lambda U b sc pos) (Io P q (.Lambda U b sc pos)):=by
 intro cp s σ H Q I pq155;obtain⟨⟨tb,hP,ht,hco⟩,hQ⟩:=pq155;refine PySem.W.kla_eval hd ?_;rw[hq];have hPo:s.heap.get? P=some (fS tb):=I.hok P _ hP;have hgl:=I.mod.glob.keeps I.bk;have nP:∀b o,X.base.get? b=some o->b≠P:=λb o e z=>by have:=(I.bs b o e).2;rw[z,hP]at this;cases this
 have hgP:cC≠P:=by obtain⟨o,_,_,e,_⟩:=I.mod.glob;exact nP _ o e
 have hb:s.heap.BuiltinsAt X.mg P:=by obtain⟨bm,ob,G,h2,h3,h4,h5,h6⟩:=hB;refine⟨bm,ob,G,h2,λz=>?_,nP _ _ h3,I.bk _ _ h3,h4,h5,h6⟩;obtain⟨o,_,_,e,d,_⟩:=I.mod.glob;rw[<- z,h3]at e;cases e;rw[h6]at d;cases d
 have hC:=uc I.kIn hc;cases hf:nE pos tb.toList with
 |some cv=>
  obtain⟨B,rfl,hcr⟩:=hco _ _ hf;refine PySem.W.kla_makeFunctionHit hcl I.ok.glob hgl E hC hPo ht hf hb λJ h' tk hk hsz=>?_;have h:H h'.objs.size=none:=I.hok.fresh hsz;refine⟨.ref h'.objs.size,ff H h'.objs.size (.frz _ (.own h'.objs.size)),I.laid (t':=tk) (λb u e=>ak _ (hk b u e)) hsz ⟨ay _ rfl,_,ay _ rfl⟩,rfl,hQ _ _ ⟨h,?_,?_,λb o _ e=>?_⟩⟩
  ·obtain⟨L,vs,t,e,r⟩:=hcr;exact⟨U,b,sc,pos,q,B,_,J,rfl,kh,L,vs,t,by rw[fO (mI e h)];exact e,r⟩
  ·refine⟨tb,by rw[fO (mI hP h)];exact hP,ht,λp v z=>?_⟩;obtain⟨c2,e2,L,vs,t,e,r⟩:=hco p v z;exact⟨c2,e2,L,vs,t,by rw[fO (mI e h)];exact e,r⟩
  ·rw[fO (mI e h)];exact e
 |none=>
  refine PySem.W.kla_makeFunction hcl I.ok.glob hgl E hC hPo ht hf hgP hb λB J h' tk hx hge hlt hrec htb=>?_;obtain⟨c2,L,vs,t,e2,hoc,hdc,hv⟩:=hrec;cases e2;have hsz:s.heap.objs.size<=h'.objs.size:=lw (xl hge hlt);have h:H h'.objs.size=none:=I.hok.fresh hsz;have hfc:H B=none:=I.hok.fresh hge;have hcf:B≠h'.objs.size:=bb hlt;have hfr:(mM "<lambda>" q U b sc [] ((X.mg "__name__").getD .none) B J).isFreed=false:=rfl;generalize hfo:mM "<lambda>" q U b sc [] ((X.mg "__name__").getD .none) B J=fo at hfr;generalize htb':tb++#[dF pos.line,dF pos.col,.ref B]=O at htb;have ePc:P≠B:=mI hP hfc;have ePa:P≠h'.objs.size:=mI hP h;obtain⟨H',eH⟩:∃H',H'=ff (ff (ff H P (.tbl O)) B (.frz L (.frz L (.own B)))) h'.objs.size (.frz fo (.own h'.objs.size)):=⟨_,rfl⟩
  have eP:H' P=some (.tbl O):=by rw[eH,fO ePa,fO ePc,kh]
  have eC:H' B=some (.frz L (.frz L (.own B))):=by rw[eH,fO hcf,kh]
  have eA:H' h'.objs.size=some (.frz fo (.own h'.objs.size)):=by rw[eH,kh]
  have eO:∀b,b≠P->b≠B->b≠h'.objs.size->H' b=H b:=λb G h2 h3=>by rw[eH,fO h3,fO h2,fO G]
  have old:∀b o,b≠P->H b=some o->H' b=some o:=λb o G e=>by rw[eO b G (mI e hfc) (mI e h)];exact e
  have kp:∀b o,b≠P->s.heap.get? b=some o->(h'.push fo).get? b=some o:=λb o G e=>ak _ (hx b o G e);have Y:∀{b:ao},H b=none->b≠P:=λn z=>by rw[z,hP]at n;cases n
  have C:∀{b:ao}{u:HO},H b=some u->(∀U,u≠.tbl U)->b≠P:=λe n z=>by rw[z,hP]at e;exact n _ (aE e).symm
  have lt:∀b o,s.heap.get? b=some o->b≠B/\b≠h'.objs.size:=λb o e=>⟨bb (a_ (aI e) hge),bb (a_ (aI e) hsz)⟩
  have hok:nI X.prog X.w H' (h'.push fo):=λb u e=>by
   by_cases G:b=P
   ·subst G;rw[eP]at e;cases e;exact ak _ htb
   by_cases h2:b=B
   ·subst h2;rw[eC]at e;cases e;exact⟨ak _ hoc,ak _ hoc,_,ak _ hoc⟩
   by_cases h3:b=h'.objs.size
   ·subst h3;rw[eA]at e;cases e;exact⟨ay _ hfr,_,ay _ hfr⟩
   rw[eO b G h2 h3]at e;refine (I.hok b u e).stay (λb' v hb' g=>kp b' v ?_ g) (λb' g=>old _ _ (C g λ_ z=>nomatch z) g) λb' xs g=>old _ _ (C g λ_ z=>nomatch z) g;rcases hb' with z|z
   ·rw[z];exact G
   ·exact C z λ_ w=>nomatch w
  refine⟨.ref h'.objs.size,H',I.step (g':=s.gens) (d':=s.drawn) (ch:=[]) (λ_ z=>nomatch z) (λb o _ _ _ e n=>kp b o (Y n) e) (λb o _ _ _ e n=>⟨o.slots,kp b o (Y n) e⟩)
   (λb o _ e n=>by rw[eO b (Y n) (lt b o e).1 (lt b o e).2];exact n) (λb o _ e=>?_) (λb xs e=>old _ _ (C e λ_ z=>nomatch z) e) (λb o u e=>old _ _ (C e λ_ z=>nomatch z) e) (λb ps' e=>?_) (λm hn=>?_) hok I.bare,rfl,hQ _ _ ⟨h,?_,?_,old⟩⟩
  ·by_cases z:b=P
   ·subst z;exact⟨_,ak _ htb⟩
   ·exact⟨o,kp b o z e⟩
  ·by_cases z:b=P
   ·subst z;rw[hP]at e;cases e;exact⟨_,by rw[eP,<- htb']⟩
   ·exact⟨#[],by rw[old _ _ z e];simp⟩
  ·exact (hn.extBut hx (Y I.free)).push _
  ·subst hfo;exact⟨U,b,sc,pos,q,B,_,J,rfl,eA,L,vs,t,eC,hdc,hv⟩
  ·have el:O.toList=tb.toList++[dF pos.line,dF pos.col,.ref B]:=by rw[<- htb',Array.toList_append]
   obtain⟨u,q⟩:=Qf tb.toList ht (l:=pos.line) (m:=pos.col) (c:=.ref B);refine⟨O,eP,el ▸ u,λp v z=>?_⟩;rcases q p v (el ▸ z) with z|z
   ·obtain⟨c2,e2,h,g,o,e,r⟩:=hco p v z;exact⟨c2,e2,h,g,o,old _ _ (C e λ_ w=>nomatch w) e,r⟩
   ·exact⟨B,z,L,vs,t,eC,hdc,hv⟩
theorem Q_{K:aj}{c a b:ao}(h:dX K c a=true)(h':dX K c b=true):a=b:=by
 unfold dX at h h';split at h
 ·rename_i o _ l;rw[l]at h';simp only[bu]at h h';obtain⟨⟨⟨⟨⟨e,_⟩,_⟩,_⟩,_⟩,_⟩:=h;obtain⟨⟨⟨⟨⟨g,_⟩,_⟩,_⟩,_⟩,_⟩:=h';split at e
  ·rename_i u q;rw[q]at g;exact (beq_iff_eq.mp e).symm.trans (beq_iff_eq.mp g)
  ·cases e
 ·cases h
theorem TabOf.uniq{K:aj}{x:Str}{a b:ao}(h:TabOf K x a)(h':TabOf K x b):a=b:=by obtain⟨f,o,J,c,H,G,E,C,B⟩:=h;obtain⟨L,o',v,O,u,q,l,g,I⟩:=h';rw[H]at u;cases u;rw[G]at q;cases q;rw[E]at l;cases l;rw[C]at g;cases g;exact Q_ B I
def EN(X:Cx)(x:Str):Prop:=∃f o g c P,fG X.K cC x=some (some (.ref f))/\X.K.lookup f=some o/\o.data=.func g/\g.code=.ref c/\dX X.K c P=true/\X.env.code=.ref c/\X.env.qual=x++".<locals>."/\BMod X.base X.mg
theorem To{j:Nat}{x:Str}{B:mj}{b:Expr}{sc:dR}{pos:Pos}(L:EN X x)(hd:BO B X.env=([],[]))(J:oh sc X.env=pure []):SE X (.Lambda B b sc pos) (ug j x (.Lambda B b sc pos)):=by
 obtain⟨f,o,fd,c,P,l1,l2,l3,l4,l5,l6,l7,l8⟩:=L;refine (UU (q:=CB x) l6 l5 l8 (by rw[l7];rfl) hd J).of λσ H Q h_=>h_.el λρ l st lr h p=>?_;unfold ug at p;cases e:st[j]? with
 |none=>rw[e]at p;exact p.elim
 |some ob=>
  rw[e]at p;cases ob with
  |tbl y=>
   replace p:aN X.K ρ H (if y=x then Rs.ok (D.fn st.length) (st++[MO.lam (.Lambda B b sc pos)]) else Rs.bad) _:=p
   by_cases hy:y=x
   ·subst hy;obtain⟨Y,C,L,tb,G,t2,t3⟩:=h.at e;obtain rfl:Y=P:=L.uniq ⟨f,o,fd,c,l1,l2,l3,l4,l5⟩;refine⟨⟨tb,G,t2,t3⟩,λa g T=>?_⟩;have p':∀ρ' g,Ex ρ H ρ' g->SR X.K ρ' g (st++[.lam (.Lambda B b sc pos)])->∀v,dA X.K ρ' g v (.fn st.length)->Q v g:=by rw[aG rfl]at p;exact p
    obtain⟨E,l,u2,u3⟩:=T.tab;have up:Up ρ H ρ g:=⟨⟨[],by simp⟩,λb o k e=>T.keep b o (λz=>by rw[z,G]at e;cases e;cases k) e,λb o e=>by
     by_cases z:b=Y
     ·subst z;rw[G]at e;cases e;exact⟨_,l,rfl⟩
     ·exact⟨o,T.keep b o z e,rfl⟩⟩
    have I:SR X.K ρ g st:=⟨h.len,h.nd,λn b o U O=>by
     by_cases z:b=Y
     ·subst z;have:n=j:=(fM (ac.mp U).1 h.nd).mp (U.trans C.symm);subst this;rw[e]at O;cases O;exact⟨L,E,l,u2,u3⟩
     ·exact rA.mono (o:=o) up (h.ob n b o U O) λu q=>T.keep b u z q⟩
    have na:=h.fresh T.fresh;refine p' (ρ++[a]) g ⟨⟨[a],rfl,λb J=>by rw[aJ]at J;rw[J];exact T.fresh⟩,up.fix,λb o nb e=>T.keep b o (λz=>nb (z ▸ aA C)) e,up.knd⟩
     (I.keepO na T.lam) _ (.fn ?_)
    rw[<- h.len];simp
   ·rw[aC hy]at p;exact p.elim
  |_=>exact p.elim
def pI(P:Program)(w:bE)(K:aj)(mg:Str->Option ag)(base:bA)(k n:Nat)(e:Expr)(g:List D->M D):Prop:=
 ∀(o:mj)(b:Expr)(sc:dR)(pos:Pos)(q:Str)(c:ao)(u ct:ag),e=.Lambda o b sc pos->∀(A:bv)(outer:List Env)(s:am)(H:Hp)(a:ao)(l:List ag)(h:List V)(Q:VK),iU k A->vB P w K mg base A outer s H ->
  H a=some (.frz (mM "<lambda>" q o b sc [] u c ct) (.own a))->ur H c q->b7 h l->n0 K n g h H Q E0->i6 (aT P w) A (.call (.ref a) ⟨l,[]⟩) (CR sf outer P w H s Q E0) s
theorem Qk{P:Program}{w:bE}{K:aj}{mg:Str->Option ag}{base:bA}{k m:Nat}{ps:mj}{b:Expr}{sc:dR}{pos:Pos}{N nm:List Str}{f:CE}(S:lI N nm sc)(hm:N.length=m)
  (hb:∀(q:Str)(L g ct:ag)(C:List ag),C.length=nm.length->lA (xm "<lambda>" q ps b sc [] L g ct) ⟨C,[]⟩=pure (nm.zip C))
  (E:∀(q:Str)(a:ao)(g:ag)(A:bv)(outer:List Env)(s:am)(H:Hp),iU k (A.deeper (m9 q sc s.heap.objs.size a g))->SE (qK sf P w K mg base N q sc a g A outer s H E0).nox b f):
  pI P w K mg base (k+1) nm.length (.Lambda ps b sc pos) (uB m f):=by
 subst hm;intro ps' b' sc' eh q c L ct he A outer s H a C G Q Y B ha hc hv O;cases he;obtain⟨hl,ρ,st,ds,sr,rs,p⟩:=O;have KX:K.In s.heap:=B.mod.kin.keeps λb o e=>(B.bs b o e).1;have fu:s.heap.NoLimit:=B.mod.nolimit.keeps λb o e=>(B.bs b o e).1;obtain⟨oc,cvs,t,hc1,hc2,hc3⟩:=hc;have l:∀y∈nm.zip C,sc.names.lookup y.1=some .local\/(sc.names.lookup y.1=some .cell/\((dB (s.heap.objs.size+1) sc.names []).lookup y.1).isSome=true):=λh hy=>by
  obtain⟨n,v⟩:=h;rcases S.par n (m8 hy).1 with q|q
  ·exact .inl q
  ·exact .inr ⟨q,iO _ _ _ (.inl q)⟩
 refine PySem.W.kla_callFunE Y.depth (B.hok a _ ha).1 rfl S.co S.gen rfl ⟨c,oc,cvs,t,rfl,(B.hok c _ hc1).1,hc2,hc3⟩ ?_;rw[hb q L (.ref c) ct C (by rw[<- hv.length];exact hl)];refine ah (uF S.kind l λenv he s1 x=>?_);subst he;refine⟨fu.keeps x.toInCall.keep,PySem.W.kla_codeExpr ?_⟩;have I:Inv (qK sf P w K mg base N q sc a (.ref c) A outer s H E0) [] (start N G) H s1:=L8 S Y.hd B hl hv x;have lr:LR K ρ H (start N G) (ds.map some++bq (N.length-ds.length) none):=LR.start rs;refine fI ((E q a (.ref c) A outer s H (Y.deeper _)).nox [] s1 (start N G) H Q I ⟨ρ,_,st,lr,sr,p⟩) (λu s' U=>?_) λe s' U=>U;obtain⟨v,H',J,rv,qq⟩:=U;exact⟨v,H',J.os,J.bare,J.base,J.hok,rv,qq⟩
end
section
variable{X:Cx}
theorem Ky{K:aj}{ρ:List ao}{H:Hp}{st:aZ}{e:Expr}{ds:List D}{R:D->aZ->List ao->Hp->Prop}:∀{W:List (Expr×RL)},aN K ρ H (qI W e ds st) R->∃r,(e,r)∈W/\ds.length=r.n/\aN K ρ H (r.g ds st) R
 |[],h=>h.elim
 | (e',r)::W,h=>by
  unfold qI at h;by_cases z:e=e'
  ·rw[aG z]at h;obtain⟨g,c⟩:=aN.chk h;exact⟨r,z ▸ .head _,g,c⟩
  ·rw[aC z]at h;obtain⟨r,a,b⟩:=Ky h;exact⟨r,.tail _ a,b⟩
theorem PM{W:List (Expr×RL)}{x:Str}{p pos:Pos}{e:Expr}{O:List Expr}{fa:CE}{ca:CA}(hW:∀e r,(e,r)∈W->pI X.prog X.w X.K X.mg X.base r.k r.n e r.g/\iU r.k X.A)(hx:SE X (.Name x p) fa)(ha:SA X (e::O) ca)
  (he:starEach (e::O) X.env=(false,eval e X.env)::starEach O X.env:=by rfl) (hpl:(backTo pos (starEach O X.env)).any (·.1)=false:=by rfl):SE X (.Call (.Name x p) (e::O) [] pos) (pe W fa ca):=by
 intro E s σ H Q I G;obtain⟨ρ,l,st,lr,sr,p⟩:=G;refine fJ (fU (hx E s σ H (λv L=>∃ρ1 B d,LR X.K ρ1 L σ l/\SR X.K ρ1 L B/\dA X.K ρ1 L v d/\aN X.K ρ1 L (bnd (ca l) (λds=>qH W d ds) B) λd _ ρ' H'=>∀v,dA X.K ρ' H' v d->Q v H') I
  ⟨ρ,l,st,lr,sr,p.bnd.imp λd B ρ1 L x1 s1 p1 v rv=>⟨ρ1,B,d,lr.mono x1,s1,rv,p1⟩⟩) λu s1 ⟨v,L,I1,r,ρ1,B,d,lr1,sr1,rv,p1⟩=>?_)
 have hA:=ha pos E s1 σ L (λvs J=>∃ρ2 g ds,SR X.K ρ2 J g/\dA X.K ρ2 J v d/\bT X.K ρ2 J vs ds/\aN X.K ρ2 J (qH W d ds g) λd _ ρ' H'=>∀v,dA X.K ρ' H' v d->Q v H') I1
  ⟨ρ1,l,B,lr1,sr1,p1.bnd.imp λds g ρ2 J x2 s2 C vs rvs=>⟨ρ2,g,ds,s2,rv.mono x2,rvs,C⟩⟩
 rw[he]at hA ⊢;refine PySem.W.callWith_of (P:=λh=>∃a o fd,u=.ref a/\h.get? a=some o/\o.data=.func fd) (by show ((false||(backTo pos (starEach O X.env)).any (·.1))||false)=false;rw[hpl];rfl)
  (λh ⟨a,o,fd,eu,e1,e2⟩=>?_) (nB (fU hA λus s2 ⟨vs,J,I2,rv2,ρ2,g,ds,U,rd,Y,C⟩=>?_))
 ·subst eu;refine⟨.frame,.inl rfl,(PySem.W.Looks.ld (part:=none) e1).andThen ?_⟩;simp only[e2];exact .now
 ·unfold qH at C;cases d with
  |fn n=>
   obtain⟨a,rfl,I⟩:=rd.inv;cases v:g[n]? with
   |none=>simp only[v]at C;exact C.elim
   |some ob=>
    simp only[v]at C;cases ob with
    |lam e'=>
     obtain⟨r',L,O,G⟩:=Ky C;obtain⟨ok,H⟩:=hW _ _ L;obtain⟨a',o,B,b,sc,h,q,c,E,ct,e1,e2,e3⟩:=U.at v;rw[I]at o;cases o;cases (show u=aV a from r);refine⟨⟨a,_,_,rfl,(I2.hok a _ e2).1,rfl⟩,?_⟩;refine wpAny_call (n_ (ok B b sc h q c E ct e1 X.A X.stack s2 J a us vs Q H I2.env0 e2 e3 rv2 ⟨by rw[Y.length];exact O,ρ2,g,ds,U,Y,G⟩) λr s' l=>?_);cases r with
     |error e=>exact l.elim
     |ok fl=>
      cases fl with
      |ret u=>exact I2.after l
      |next=>exact dW l
      |brk=>exact dW l
      |cont=>exact dW l
    |_=>exact C.elim
  |_=>exact C.elim
end
set_option genInjectivity false in
structure RF where
 n:Nat
 k:Nat
 ps:List Str
 kw:Bool
 g:List D->M D
set_option genInjectivity false in
structure RC where
 sc:dR
 N:List Str
 k:Nat
 G:List (Str×RF)
 Z:List Str
 C:List (Str×D)
 H:List (Nat×Nat×Nat)
 top:Bool
 W:List (Expr×RL)
 T:Option (Nat×Str)
noncomputable def RC.tag(c:RC)(p:Pos)(t:Nat):Bool:=c.H.contains (p.line,p.col,t)
noncomputable def RC.glo(c:RC)(x:Str):Bool:=c.sc.names.lookup x == some .globalImplicit
noncomputable def uw(x:Str):Bool := !((x == ("__debug__":Str))||(x == ("__classdict__":Str))||decide (x=("__name__":Str)))
theorem B0{x:Str}(h:uw x=true):qx x:=QZ (by unfold uw at h;simpa only[pO] using h)
def Ek(K:aj)(g:dG)(c:List Str):Prop:=if c.getLast?=some (az "most") then ∃u,RelV (.int 500) u/\Binds K g c [u] else yj K g c
structure GF(P:Program)(w:bE)(K:aj)(mg:Str->Option ag)(base:bA)(x:Str)(r:RF):Prop where
 ex:∃f fd,mg x=some (.ref f)/\m7 P w K mg base sf r.k f fd r.ps (n0 K r.n r.g)/\dm K (.ref f)=true/\Binds K fd r.ps []/\(r.kw=true->Ek K fd r.ps)
structure Good(X:Cx)(c:RC):Prop where
 S:Sc X c.sc
 N:X.N=c.N
 nd:X.N.Nodup
 hr:iU c.k X.A
 G:∀x r,c.G.lookup x=some r->GF X.prog X.w X.K X.mg X.base x r
 Z:∀x,c.Z.contains x=true->X.mg x=none
 C:∀x d,c.C.lookup x=some d->∃v u,X.mg x=some u/\RelV v u/\∀ρ H,dA X.K ρ H v d
 ps:sM (aT X.prog X.w) X.A X.env X.xe
 kd:c.top=true->X.env.blockKind=.function/\∀x,X.env.kindOf x=c.sc.names.lookup x
 W:∀e r,(e,r)∈c.W->pI X.prog X.w X.K X.mg X.base r.k r.n e r.g
 T:∀t,c.T=some t->EN X t.2
theorem Good.hu{X:Cx}{c:RC}(g:Good X c):X.A.units+60 < cA:=OO g.hr
noncomputable def qy:Expr->Bool
 | .Starred .. => false
 |_=>true
theorem qw{e:Expr}{c:List Expr}{env:Env}(h:qy e=true):starEach (e::c) env=(false,eval e env)::starEach c env:=by cases e<;>first|rfl|exact nomatch h
theorem BV{env:Env}{pos:Pos}:∀{c:List Expr},c.all qy=true->(backTo pos (starEach c env)).any (·.1)=false
 |[],_=>rfl
 |e::c,h=>by rw[cB,bu]at h;rw[qw h.1];exact BV h.2
theorem NL{env:Env}{pos:Pos}:∀{c:List Expr},c.all qy=true->(backTo pos (starEach c env)).all (λx => !x.1)=true
 |[],_=>rfl
 |e::c,h=>by rw[cB,bu]at h;rw[qw h.1];exact NL h.2
noncomputable def Gz:Expr->Bool
 | .ListComp .. => false
 | .SetComp .. => false
 | .DictComp .. => false
 |_=>true
theorem L7{e:Expr}{t:Option Expr}{n:Nat}{env:Env}(h:Gz e=true):ki e t n env=pure false:=by cases e<;>first|rfl|exact nomatch h
noncomputable def DC:Expr->Bool
 | .Set .. => false
 |_=>true
theorem JJ{e:Expr}{env:Env}(h:DC e=true)(x:ag):fk e env x=pure x:=by cases e<;>first|rfl|exact nomatch h
theorem K3{op:sX}{e:Expr}(h:DC e=true):iV op e=false:=by cases e<;>first|rfl|exact nomatch h
noncomputable def Ev:Expr->Bool
 | .Call _ [] _ _=>false
 |_=>true
theorem FD{e:Expr}{x:Str}{env:Env}{w:Sem ag}(h:Ev e=true):dI e x env w=w:=by
 cases e with
 |Call f as ks p=>
  cases as with
  |nil=>exact nomatch h
  |cons a as=>unfold dI;cases f<;>rfl
 |_=>rfl
noncomputable def FQ:Expr->Bool
 | .Slice .. => false
 |_=>true
theorem Cz{e:Expr}(h:FQ e=true):qh e:=by intro o i;cases e<;>first|rfl|exact nomatch h
noncomputable def M5:Expr->Bool
 | .Compare .. => false
 | .BoolOp .. => false
 | .UnaryOp .. => false
 | .IfExp .. => false
 |_=>true
theorem O7{e:Expr}{env:Env}(h:M5 e=true)(w:Sem ag):PySem.isTrue e env w=(do let v <- w;wY e.pos;kq [v] (truthy v)):=by cases e<;>first|rfl|exact nomatch h
abbrev DW(c:RC)(x:Expr):={r:CE // ∀{X:Cx},Good X c->SE X x r}
abbrev NB(c:RC)(x:Expr):={r:CA // ∀{X:Cx},Good X c->SL X x r}
abbrev M0(c:RC)(x:Expr):={r:CT // ∀{X:Cx},Good X c->ST X x r}
abbrev Hg(c:RC)(tg x:Expr):={r:CI // ∀{X:Cx},Good X c->SI X tg x r}
abbrev Ix(c:RC)(x:Expr):={r:CG // ∀{X:Cx},Good X c->SG X x r}
abbrev LU(c:RC)(x:fH):={r:CS // ∀{X:Cx},Good X c->SS X x r}
set_option genInjectivity false in
structure sT where
 e:∀(c:RC)(x:Expr),Option (DW c x)
 l:∀(c:RC)(x:Expr),Option (NB c x)
 t:∀(c:RC)(x:Expr),Option (M0 c x)
 i:∀(c:RC)(tg x:Expr),Option (Hg c tg x)
 g:∀(c:RC)(x:Expr),Option (Ix c x)
 s:∀(c:RC)(x:fH),Option (LU c x)
abbrev kJ:=sT->∀(c:RC)(x:Expr),Option (DW c x)
abbrev CH:=sT->∀(c:RC)(x:Expr),Option (NB c x)
abbrev Em:=sT->∀(c:RC)(x:Expr),Option (M0 c x)
abbrev wH:=sT->∀(c:RC)(tg x:Expr),Option (Hg c tg x)
abbrev F0:=sT->∀(c:RC)(x:Expr),Option (Ix c x)
abbrev v7:=sT->∀(c:RC)(x:fH),Option (LU c x)
set_option genInjectivity false in
structure oQ where
 e:List kJ
 l:List CH
 t:List Em
 i:List wH
 g:List F0
 s:List v7
noncomputable def uA{α β:Type}(f:α->Option β):List α->Option β
 |[]=>none
 |a::as=>match f a with
  |some b=>some b
  |none=>uA f as
def pc(R:oQ):Nat->sT
 |0=>⟨λ_ _=>none,λ_ _=>none,λ_ _=>none,λ_ _ _=>none,λ_ _=>none,λ_ _=>none⟩
 |n+1 => ⟨λc x => uA (λr => r (pc R n) c x) R.e, λc x => uA (λr => r (pc R n) c x) R.l, λc x => uA (λr => r (pc R n) c x) R.t,
   λc tg x=>uA (λr=>r (pc R n) c tg x) R.i,λc x=>uA (λr=>r (pc R n) c x) R.g,λc x=>uA (λr=>r (pc R n) c x) R.s⟩
noncomputable def wh{α:Type}(C:Prop)[Decidable C](k:C->Option α):Option α:=if h:C then k h else none
section
variable{β:Type}
section
variable{α:Type}(e:List α)
noncomputable def v0(k:e=[]->Option β):Option β:=match e,k with
 |[],k=>k rfl
 |_,_=>none
noncomputable def vC(k:∀a as,e=a::as->Option β):Option β:=match e,k with
 |a::as,k=>k a as rfl
 |_,_=>none
def v1(k:∀a,e=[a]->Option β):Option β:=vC e λa as h=>v0 as λc=>k a (c ▸ h)
def v2(k:∀a b,e=[a,b]->Option β):Option β:=vC e λa as h=>v1 as λb c=>k a b (c ▸ h)
end
section
variable{α:Type}(e:Option α)
noncomputable def oN(k:e=none->Option β):Option β:=match e,k with
 |none,k=>k rfl
 |_,_=>none
noncomputable def oS(k:∀a,e=some a->Option β):Option β:=match e,k with
 |some a,k=>k a rfl
 |_,_=>none
end
section
variable(e:Expr)
noncomputable def zr(k:∀x p,e=.Name x p->Option β):Option β:=match e,k with
 | .Name x p,k=>k x p rfl
 |_,_=>none
noncomputable def IM(k:∀f as ks p,e=.Call f as ks p->Option β):Option β:=match e,k with
 | .Call f as ks p,k=>k f as ks p rfl
 |_,_=>none
noncomputable def Tu(k:∀o x p,e=.Attribute o x p->Option β):Option β:=match e,k with
 | .Attribute o x p,k=>k o x p rfl
 |_,_=>none
noncomputable def z_(k:∀a b p,e=.Subscript a b p->Option β):Option β:=match e,k with
 | .Subscript a b p,k=>k a b p rfl
 |_,_=>none
noncomputable def M1(k:∀v n p,e=.Constant v n p->Option β):Option β:=match e,k with
 | .Constant v n p,k=>k v n p rfl
 |_,_=>none
noncomputable def Px(k:∀a o b p,e=.BinOp a o b p->Option β):Option β:=match e,k with
 | .BinOp a o b p,k=>k a o b p rfl
 |_,_=>none
noncomputable def Uq(k:∀a os bs p,e=.Compare a os bs p->Option β):Option β:=match e,k with
 | .Compare a os bs p,k=>k a os bs p rfl
 |_,_=>none
noncomputable def MZ(k:∀o c p,e=.BoolOp o c p->Option β):Option β:=match e,k with
 | .BoolOp o c p,k=>k o c p rfl
 |_,_=>none
noncomputable def ER(k:∀o a p,e=.UnaryOp o a p->Option β):Option β:=match e,k with
 | .UnaryOp o a p,k=>k o a p rfl
 |_,_=>none
noncomputable def SW(k:∀t a b p,e=.IfExp t a b p->Option β):Option β:=match e,k with
 | .IfExp t a b p,k=>k t a b p rfl
 |_,_=>none
noncomputable def F9(k:∀c n p,e=.Tuple c n p->Option β):Option β:=match e,k with
 | .Tuple c n p,k=>k c n p rfl
 |_,_=>none
noncomputable def Um(k:∀c p,e=.List c p->Option β):Option β:=match e,k with
 | .List c p,k=>k c p rfl
 |_,_=>none
noncomputable def PF(k:∀ks c p,e=.Dict ks c p->Option β):Option β:=match e,k with
 | .Dict ks c p,k=>k ks c p rfl
 |_,_=>none
noncomputable def K8(k:∀a b s p,e=.Slice a b s p->Option β):Option β:=match e,k with
 | .Slice a b s p,k=>k a b s p rfl
 |_,_=>none
noncomputable def VS(k:∀x c sc p,e=.ListComp x c sc p->Option β):Option β:=match e,k with
 | .ListComp x c sc p,k=>k x c sc p rfl
 |_,_=>none
def Dx(k:∀x p as q,e=.Call (.Name x p) as [] q->Option β):Option β:=IM e λf as ks q h=>zr f λx p g=>v0 ks λc=>k x p as q (g ▸ c ▸ h)
def Ga(k:∀x p a q,e=.Call (.Name x p) [a] [] q->Option β):Option β:=Dx e λx p as q h=>v1 as λa c=>k x p a q (c ▸ h)
def DN(k:∀x p a b q,e=.Call (.Name x p) [a,b] [] q->Option β):Option β:=Dx e λx p as q h=>v2 as λa b c=>k x p a b q (c ▸ h)
def vM(k:∀o x p as q,e=.Call (.Attribute o x p) as [] q->Option β):Option β:=IM e λf as ks q h=>Tu f λo x p g=>v0 ks λc=>k o x p as q (g ▸ c ▸ h)
def Ru(k:∀a o b p,e=.Compare a [o] [b] p->Option β):Option β:=Uq e λa os bs p h=>v1 os λo g=>v1 bs λb c=>k a o b p (g ▸ c ▸ h)
def Dd(k:∀a lo c p q,e=.Subscript a (.Slice lo c none p) q->Option β):Option β:=z_ e λa b q h=>K8 b λlo c s p l=>oN s λg=>k a lo c p q (g ▸ l ▸ h)
end
section
variable(e:fH)
noncomputable def Wr(k:∀c a p,e=.Assign c a p->Option β):Option β:=match e,k with
 | .Assign c a p,k=>k c a p rfl
 |_,_=>none
noncomputable def Q9(k:∀t o a p,e=.AugAssign t o a p->Option β):Option β:=match e,k with
 | .AugAssign t o a p,k=>k t o a p rfl
 |_,_=>none
noncomputable def R_(k:∀o p,e=.Return o p->Option β):Option β:=match e,k with
 | .Return o p,k=>k o p rfl
 |_,_=>none
noncomputable def TD(k:∀a p,e=.Expr a p->Option β):Option β:=match e,k with
 | .Expr a p,k=>k a p rfl
 |_,_=>none
noncomputable def Ul(k:∀t a b p,e=.If t a b p->Option β):Option β:=match e,k with
 | .If t a b p,k=>k t a b p rfl
 |_,_=>none
noncomputable def U3(k:∀t a b p,e=.While t a b p->Option β):Option β:=match e,k with
 | .While t a b p,k=>k t a b p rfl
 |_,_=>none
noncomputable def Qm(k:∀t i a b p,e=.For t i a b p->Option β):Option β:=match e,k with
 | .For t i a b p,k=>k t i a b p rfl
 |_,_=>none
noncomputable def R5(k:∀a b p,e=.Raise a b p->Option β):Option β:=match e,k with
 | .Raise a b p,k=>k a b p rfl
 |_,_=>none
def F4(k:∀t a p,e=.Assign [t] a p->Option β):Option β:=Wr e λc a p h=>v1 c λt g=>k t a p (g ▸ h)
end
end
abbrev UI(c:RC)(h:List Expr):={r:CA // (∀{X:Cx},Good X c->SA X h r)/\h.all qy=true/\∀l st ds g,r l st=.ok ds g->ds.length=h.length}
def vG(q:sT)(c:RC):∀h:List Expr,Option (UI c h)
 |[]=>some ⟨bh,λ_=>GY,rfl,P6⟩
 |e::h=>wh (qy e=true) λl=>(q.e c e).bind λf=>(vG q c h).bind λr=>some ⟨aw f.1 r.1,λg=>GU (f.2 g) (r.2.1 g) (qw l),by rw[cB,l,r.2.2.1];rfl,Pj r.2.2.2⟩
abbrev WY(c:RC)(e:Option Expr):={r:CO // ∀{X:Cx},Good X c->SO X e r}
def yy(q:sT)(c:RC):∀e:Option Expr,Option (WY c e)
 |none=>some ⟨tW,λ_=>Sw⟩
 |some e=>(q.e c e).bind λf=>some ⟨pJ f.1,λg=>TF (f.2 g)⟩
abbrev G7(c:RC)(g:List fH):={r:CS // ∀{X:Cx},Good X c->ww X g r}
def qN(q:sT)(c:RC):∀h:List fH,Option (G7 c h)
 |[]=>some ⟨aW,λ_=>SQ⟩
 |s::h=>(q.s c s).bind λa=>(qN q c h).bind λb=>some ⟨aO a.1 b.1,λg=>Ro (a.2 g) (b.2 g)⟩
def Eg(c:RC)(x:Str):Option {i:Nat // c.N[i]?=some x/\(c.sc.names.lookup x=some .local\/c.sc.names.lookup x=some .cell\/c.sc.names.lookup x=some .free)/\uw x=true}:=wh _ λh=>some ⟨c.N.idxOf x,h⟩
theorem Mw{X:Cx}{c:RC}{x:Str}{i:Nat}{p:Pos}(g:Good X c)(h:c.N[i]?=some x/\(c.sc.names.lookup x=some .local\/c.sc.names.lookup x=some .cell\/c.sc.names.lookup x=some .free)/\uw x=true):SE X (.Name x p) (aq i):=by
 obtain⟨o,l,q⟩:=h;rw[<- g.N]at o;rcases l with l|l|l
 ·exact Jb g.S _ o l (B0 q) (.inl rfl)
 ·exact Jb g.S _ o l (B0 q) (.inr (.inl rfl))
 ·exact Jb g.S _ o l (B0 q) (.inr (.inr rfl))
def IJ:kJ:=λ_ c e=>zr e λx _ h=>(Eg c x).bind λi=>some ⟨aq i.1,λg=>h ▸ Mw g i.2⟩
def MU{α:Type}(l:List (Str × α))(x:Str):Option {a:α // l.lookup x=some a}:=oS (l.lookup x) λa h=>some ⟨a,h⟩
noncomputable def EL:Const->Option D
 | .int i=>some (.int i)
 | .str i=>some (.str i)
 | .bool i=>some (.bl i)
 | .none=>some .non
 |_=>none
theorem Q2{X:Cx}{v:Const}{n:Nat}{p:Pos}{d:D}(h:EL v=some d):SE X (.Constant v n p) (aM d):=by
 cases v<;>cases h
 ·exact N9
 ·exact V2
 ·exact Uw
 ·exact P7
def Wq{α:Type}(o:Option α):Option {a:α // o=some a}:=oS o λa h=>some ⟨a,h⟩
def JI:kJ:=λ_ _ e=>M1 e λv _ _ h=>(Wq (EL v)).bind λd=>some ⟨aM d.1,λ_=>h ▸ Q2 d.2⟩
def E8:kJ:=λq c e=>(q.l c e).bind λa=>some ⟨eK a.1,λg=>VW (a.2 g)⟩
abbrev Ua(op:rK)(f:D->D->M D):Prop:=∀{X:Cx},X.A.units+60 < cA->OpR X (eZ op) (pW X.K f)
abbrev Mr(op:sX)(f:D->D->M D):Prop:=∀{X:Cx},X.A.units+60 < cA->OpR X (cX op) (pW X.K f)
def B9(o:rK)(f:D->D->M D)(h:Ua o f):kJ:=λq c e=>Px e λa op b _ v=>wh (op=o) λz=>(q.e c a).bind λu=>(q.e c b).bind λl=>some ⟨c2 f u.1 l.1,λg=>v ▸ z ▸ U7 (h g.hu) (u.2 g) (l.2 g)⟩
abbrev UZ(c:RC)(x:Expr):={r:CE // ∀{X:Cx},Good X c->SE X x r/\ST X x (di r)}
abbrev uj:=sT->∀(c:RC)(x:Expr),Option (UZ c x)
noncomputable def uj.e(r:uj):kJ:=λq c x=>(r q c x).bind λf=>some ⟨f.1,λg=>(f.2 g).1⟩
def uj.t(r:uj):Em:=λq c x=>(r q c x).bind λf=>some ⟨di f.1,λg=>(f.2 g).2⟩
def sH(o:sX)(f:D->D->M D)(h:Mr o f):uj:=λq c e=>Ru e λa op b _ v=>wh (op=o/\DC b=true) λz=>(q.e c a).bind λu=>(q.e c b).bind λl=>some ⟨c2 f u.1 l.1,λg=>v ▸ z.1 ▸ ⟨U8 (h g.hu) (u.2 g) (l.2 g) (K3 z.2),Vr (h g.hu) (u.2 g) (l.2 g) (K3 z.2)⟩⟩
def Es(t:Nat)(o:sX)(f:D->D->M D)(h:Mr o f):uj:=λq c e=>wh (c.tag e.pos t=true) λ_=>sH o f h q c e
def DA(q:sT)(c:RC)(p:Pos):∀o:List Expr,Option (DW c (.BoolOp .And o p))
 |[a]=>(q.e c a).bind λh=>some ⟨h.1,λg=>LH (h.2 g)⟩
 |a::b::r=>(q.e c a).bind λh=>(DA q c p (b::r)).bind λl=>some ⟨sI h.1 l.1,λg=>O6 (h.2 g) (l.2 g)⟩
 |_=>none
def Ld(q:sT)(c:RC)(p:Pos):∀o:List Expr,Option (DW c (.BoolOp .Or o p))
 |[a]=>(q.e c a).bind λh=>some ⟨h.1,λg=>LH (h.2 g)⟩
 |a::b::r=>(q.e c a).bind λh=>(Ld q c p (b::r)).bind λl=>some ⟨BU h.1 l.1,λg=>WB (h.2 g) (l.2 g)⟩
 |_=>none
def IR:kJ:=λq c e=>MZ e λo l p h=>match o,h with
 | .And,h=>(DA q c p l).bind λf=>some ⟨f.1,λg=>h ▸ f.2 g⟩
 | .Or,h=>(Ld q c p l).bind λf=>some ⟨f.1,λg=>h ▸ f.2 g⟩
def IL:kJ:=λq c e=>ER e λo a _ h=>wh (o=.Not) λz=>(q.e c a).bind λl=>some ⟨wo l.1,λg=>h ▸ z ▸ UJ (l.2 g)⟩
def HK:kJ:=λq c e=>ER e λo a _ h=>wh (o=.USub) λz=>(q.e c a).bind λl=>some ⟨c1 rC l.1,λg=>h ▸ z ▸ Wy OR (l.2 g)⟩
def Ih:kJ:=λq c e=>SW e λt a b _ h=>(q.t c t).bind λl=>(q.e c a).bind λu=>(q.e c b).bind λo=>some ⟨wt l.1 u.1 o.1,λg=>h ▸ UC (l.2 g) (u.2 g) (o.2 g)⟩
def JZ:kJ:=λq c e=>F9 e λo _ _ h=>(vG q c o).bind λl=>some ⟨dU l.1,λg=>h ▸ T2 (l.2.1 g)⟩
def yC:kJ:=λq c e=>Dd e λa lo v _ p h=>wh (c.tag p 1=true) λ_=>(q.e c a).bind λu=>(yy q c lo).bind λl=>(yy q c v).bind λo=>some ⟨nj u.1 l.1 o.1,λg=>h ▸ OW (u.2 g) (l.2 g) (o.2 g)⟩
def yq:kJ:=λq c e=>z_ e λa b _ h=>wh (FQ b=true) λz=>(q.l c a).bind λo=>(q.e c b).bind λl=>some ⟨mz o.1 l.1,λg=>h ▸ VV (o.2 g) (l.2 g) (Cz z)⟩
def CV:kJ:=λq c e=>z_ e λa b _ h=>wh (FQ b=true) λz=>(q.e c a).bind λo=>(q.e c b).bind λl=>some ⟨c2 aU o.1 l.1,λg=>h ▸ VX g.hu (o.2 g) (l.2 g) (Cz z)⟩
theorem QX{X:Cx}{p:Pos}:∀{b:Bool},SE X (.Dict [] [] p) (oP b)
 |false=>Vq
 |true=>V0
def E5:kJ:=λ_ c e=>PF e λks g p h=>v0 ks λo=>v0 g λl=>some ⟨oP (c.tag p 2),λ_=>h ▸ o ▸ l ▸ QX⟩
def zD(x:String)(f:CE->CE)(h:∀{X:Cx}{o:Expr}{v:CE}{u l:Pos},SE X o v->dI o (az x) X.env (eval o X.env)=eval o X.env->(u.endLine == l.line)=true->SE X (.Call (.Attribute o (az x) u) [] [] l) (f v)):kJ:=
 λq c e=>vM e λo y G as E C=>v0 as λB=>wh (y=az x/\Ev o=true/\(G.endLine == E.line)=true) λz=>(q.e c o).bind λv=>some ⟨f v.1,λg=>by subst C B;exact z.1 ▸ h (v.2 g) (FD z.2.1) z.2.2⟩
noncomputable abbrev Gb(X:Cx)(c:Pos)(g:List Expr):Prop:=((backTo c (starEach g X.env)).all (λx => !x.1)&&(rP c (mU [] X.env)).all (λx=>x.1.isSome)&&decide (g.length+([]:List kr).length+(if ([]:List kr).isEmpty then 0 else 1) < 30))=true
theorem C1{X:Cx}{c:Pos}{g:List Expr}(h:g.all qy=true)(l:g.length < 30):Gb X c g:=by unfold Gb;rw[NL h];exact (bu _ _).mpr ⟨rfl,bB l⟩
def E9(x:String)(f:CE->CE->CE)(ok:RC->Pos->Bool) (h:∀{X:Cx}{o e:Expr}{B v:CE}{u l:Pos},X.A.units+60 < cA->SE X o B->SE X e v->dI o (az x) X.env (eval o X.env)=eval o X.env->Gb X l [e]->(u.endLine == l.line)=true ->
  starEach [e] X.env=(false,eval e X.env)::starEach [] X.env->(backTo l (starEach [] X.env)).any (·.1)=false->SE X (.Call (.Attribute o (az x) u) [e] [] l) (f B v)):kJ:=
 λq c e=>vM e λo y L as E J=>v1 as λa I=>wh (y=az x/\Ev o=true/\qy a=true/\ok c E=true/\(L.endLine == E.line)=true) λz=>(q.e c o).bind λB=>(q.e c a).bind λv=>some ⟨f B.1 v.1,λg=>by subst J I;obtain⟨rfl,H,C,_,G⟩:=z;exact h g.hu (B.2 g) (v.2 g) (FD H) (C1 (by rw[cB,C];rfl) (vg rfl)) G (qw C) rfl⟩
def zA(x:String)(f:CE->CE->CE->CE) (h:∀{X:Cx}{o H u:Expr}{G E C:CE}{v l:Pos},X.A.units+60 < cA->SE X o G->SE X H E->SE X u C->dI o (az x) X.env (eval o X.env)=eval o X.env->Gb X l [H,u]->(v.endLine == l.line)=true ->
  starEach [H,u] X.env=(false,eval H X.env)::starEach [u] X.env->starEach [u] X.env=(false,eval u X.env)::starEach [] X.env->(backTo l (starEach [u] X.env)).any (·.1)=false->SE X (.Call (.Attribute o (az x) v) [H,u] [] l) (f G E C)):kJ:=
 λq c e=>vM e λo y Y as U Q=>v2 as λa b O=>wh (y=az x/\Ev o=true/\qy a=true/\qy b=true/\(Y.endLine == U.line)=true) λz=>(q.e c o).bind λG=>(q.e c a).bind λE=>(q.e c b).bind λC=>some ⟨f G.1 E.1 C.1,λg=>by subst Q O;obtain⟨rfl,L,I,B,J⟩:=z;exact h g.hu (G.2 g) (E.2 g) (C.2 g) (FD L) (C1 (by rw[cB,I,cB,B];rfl) (vg rfl)) J (qw I) (qw B) (BV (by rw[cB,B];rfl))⟩
def CJ:kJ:=λq c e=>Dx e λx _ as _ H=>vC as λa as G=>(MU c.G x).bind λr=>wh (c.glo x=true/\uw x=true/\r.1.k<=c.k/\r.1.n=(a::as).length) λz=>(vG q c (a::as)).bind λh=>some ⟨bW r.1.g h.1,λg=>by subst H G;obtain⟨E,C,v,u⟩:=z;obtain⟨f,I,m,F,o,B,_⟩:=(g.G _ _ r.2).ex;obtain⟨x,y,l⟩:=h.2;rw[cB,bu]at y;exact TW g.S (beq_iff_eq.mp E) F (g.hr.mono v) m o B (B0 C) (x g) (by rw[u];exact l) (qw y.1) (BV y.2)⟩
def RC.bl(c:RC)(x:Str):Bool:=c.glo x&&c.Z.contains x
theorem Good.gl{X:Cx}{c:RC}(g:Good X c){x:Str}(h:c.bl x=true):Gl X x/\X.mg x=none:=by unfold RC.bl at h;rw[bu]at h;exact⟨g.S.glo _ (beq_iff_eq.mp h.1),g.Z _ h.2⟩
def sB(x:String)(ok:RC->Pos->Bool)(f:List D->M D)(h:∀{X:Cx}{e:Expr}{u:CA}{p pos:Pos},X.calm=true->X.A.units+60 < cA->Gl X (az x)->X.mg (az x)=none->SL X e u->starEach [e] X.env=[(false,eval e X.env)]->SE X (.Call (.Name (az x) p) [e] [] pos) (ir f u)):kJ:=
 λq c e=>Ga e λy _ a p e=>wh (y=az x/\c.bl y=true/\qy a=true/\ok c p=true) λz=>(q.l c a).bind λo=>some ⟨ir f o.1,λg=>by subst e;obtain⟨rfl,l,v,_⟩:=z;exact h g.S.calm g.hu (g.gl l).1 (g.gl l).2 (o.2 g) (qw v)⟩
def uv(x:String)(ok:RC->Pos->Bool)(f:D->M D)(h:∀{X:Cx}{e:Expr}{l:CE}{p pos:Pos},X.calm=true->X.A.units+60 < cA->Gl X (az x)->X.mg (az x)=none->SE X e l->starEach [e] X.env=[(false,eval e X.env)]->SE X (.Call (.Name (az x) p) [e] [] pos) (c1 f l)):kJ:=
 λq c e=>Ga e λy _ a p e=>wh (y=az x/\c.bl y=true/\qy a=true/\ok c p=true) λz=>(q.e c a).bind λl=>some ⟨c1 f l.1,λg=>by subst e;obtain⟨rfl,o,u,_⟩:=z;exact h g.S.calm g.hu (g.gl o).1 (g.gl o).2 (l.2 g) (qw u)⟩
def G6(x:String)(ok:RC->Pos->Bool)(f:D->D->M D) (h:∀{X:Cx}{a b:Expr}{u o:CE}{p pos:Pos},X.calm=true->X.A.units+60 < cA->Gl X (az x)->X.mg (az x)=none->SE X a u->SE X b o->starEach [a,b] X.env=(false,eval a X.env)::starEach [b] X.env->starEach [b] X.env=(false,eval b X.env)::starEach [] X.env ->
  (backTo pos (starEach [b] X.env)).any (·.1)=false->SE X (.Call (.Name (az x) p) [a,b] [] pos) (c2 f u o)):kJ:=
 λq c e=>DN e λy _ a b p e=>wh (y=az x/\c.bl y=true/\qy a=true/\qy b=true/\ok c p=true) λz=>(q.e c a).bind λu=>(q.e c b).bind λo=>some ⟨c2 f u.1 o.1,λg=>by subst e;obtain⟨rfl,v,B,l,_⟩:=z;exact h g.S.calm g.hu (g.gl v).1 (g.gl v).2 (u.2 g) (o.2 g) (qw B) (qw l) (BV (by rw[cB,l];rfl))⟩
def CN(y:String)(T:tL y)(h:cM (az y)=some (.type y))(B:az y≠az "__name__")(v:(az y == az "__debug__")=false):kJ:=
 λq c e=>DN e λz _ a b _ G=>zr b λx _ E=>wh (z=az "isinstance"/\x=az y/\c.bl z=true/\c.bl x=true/\qy a=true) λz=>(q.e c a).bind λu=>some ⟨c1 (iM [y]) u.1,λg=>by subst G E;obtain⟨rfl,rfl,o,l,C⟩:=z;exact T7 T (g.gl o).1 (g.gl o).2 (g.gl l).1 (g.gl l).2 h (u.2 g) (by nofun) B v (qw C) rfl rfl⟩
section
def Ha:CH:=λq c e=>Um e λo _ h=>(vG q c o).bind λl=>some ⟨gg l.1,λg=>h ▸ RW (l.2.1 g)⟩
def DF:CH:=λq c e=>z_ e λa b _ h=>K8 b λlo u s _ I=>oN lo λH=>oN u λG=>oS s λs E=>ER s λo s _ C=>M1 s λv _ _ B=>wh (o=.USub/\v=.int 1) λz=>(q.e c a).bind λl=>some ⟨tE l.1,λg=>by subst h I H G E C B;exact z.1 ▸ z.2 ▸ UX (l.2 g)⟩
def AB:CH:=λq c e=>Dd e λa lo v _ p h=>wh (c.tag p 1=false) λ_=>(q.e c a).bind λu=>(yy q c lo).bind λl=>(yy q c v).bind λo=>some ⟨qL u.1 l.1 o.1,λg=>h ▸ Ts (u.2 g) (l.2 g) (o.2 g)⟩
noncomputable def xq:Nat->Expr->List Str
 |_,.Name x _=>[x]
 |n+1,.Tuple es _ _=>es.flatMap (xq n)
 |_,_=>[]
abbrev EH(c:RC)(g:List Expr):={r:CT // ∀{X:Cx},Good X c->wD X g r}
def J8(q:sT)(c:RC):∀h:List Expr,Option (EH c h)
 |[]=>some ⟨bN,λ_=>Rx⟩
 |[t]=>(q.t c t).bind λf=>some ⟨f.1,λg=>W2 (f.2 g)⟩
 |_=>none
noncomputable def RC.inn(c:RC)(sc:dR)(own:List Str):RC:={ c with sc:=sc,N:=own++c.N.filter λx=>sc.names.lookup x == some .free,top:=false,T:=none }
noncomputable def RC.ix(c:RC)(sc:dR):List Nat:=(c.N.filter λx=>sc.names.lookup x == some .free).map c.N.idxOf
def RC.cok(c:RC)(sc:dR)(own:List Str)(b:Expr):Prop:=sx c.sc sc=true/\qB c.N sc (c.inn sc own).N own.length (c.ix sc)=true/\(c.inn sc own).N.Nodup/\DC b=true
instance(c:RC)(sc:dR)(own:List Str)(b:Expr):Decidable (c.cok sc own b):=by unfold RC.cok;infer_instance
theorem Good.inn{X:Cx}{c:RC}(g:Good X c){sc:dR}{own:List Str}{b:Expr}(h:c.cok sc own b)(fp:List ao)(s:am)(H:Hp):Good (oq X (c.inn sc own).N sc fp s H) (c.inn sc own):=
 ⟨Ql g.S.calm,rfl,h.2.2.1,g.hr,λx r z=>⟨(g.G x r z).ex⟩,g.Z,g.C,mq,nofun,g.W,λ_ z=>nomatch z⟩
set_option genInjectivity false in
structure IC(c:RC)(e:Expr) where
 x:Expr
 tg:Expr
 b:Expr
 ifs:List Expr
 sc:dR
 p:Pos
 eq:e=.ListComp x [⟨tg,b,ifs,0⟩] sc p
 ok:c.cok sc (xq 8 tg).eraseDups b
 i:Hg c tg b
 g:Ix (c.inn sc (xq 8 tg).eraseDups) tg
 t:EH (c.inn sc (xq 8 tg).eraseDups) ifs
 f:DW (c.inn sc (xq 8 tg).eraseDups) x
def IC.r{c:RC}{e:Expr}(m:IC c e):CA:=dL (xq 8 m.tg).eraseDups.length (c.ix m.sc) m.i.1 m.g.1 m.t.1 m.f.1
theorem Oo{a:Comprehension}(h:a.is_async=0):a=⟨a.target,a.iter,a.ifs,0⟩:=by cases a;exact cR _ h
def D7(q:sT)(c:RC)(e:Expr):Option (IC c e):=VS e λx o sc p h=>v1 o λa l=>wh (a.is_async=0/\c.cok sc (xq 8 a.target).eraseDups a.iter) λz=>
 (q.i c a.target a.iter).bind λu=>(q.g (c.inn sc (xq 8 a.target).eraseDups) a.target).bind λg=>(J8 q (c.inn sc (xq 8 a.target).eraseDups) a.ifs).bind λt=>(q.e (c.inn sc (xq 8 a.target).eraseDups) x).bind λf=>
  some ⟨x,a.target,a.iter,a.ifs,sc,p,by rw[h,l,<- Oo z.1],z.2,u,g,t,f⟩
def Dh:CH:=λq c e=>(D7 q c e).bind λm=>some ⟨m.r,λg=>by obtain⟨x,tg,b,o,sc,p,rfl,ok,h,mg,mt,l⟩:=m;exact Su g.S.calm (LM g.S ok.1) (Lo g.N ok.2.1) (h.2 g) (λfp s H=>⟨mg.2 (g.inn ok fp s H),mt.2 (g.inn ok fp s H),l.2 (g.inn ok fp s H)⟩) (JJ ok.2.2.2)⟩
abbrev L6(c:RC)(o:BoolOp)(g:List Expr):={r:CT // ∀{X:Cx}{p:Pos},Good X c->PW X (.BoolOp o g p) (pX X.K r)}
def zC(q:sT)(c:RC):∀o:List Expr,Option (L6 c .And o)
 |[]=>none
 |[a]=>(q.t c a).bind λh=>some ⟨h.1,λg=>Oq (h.2 g)⟩
 |a::b::r=>(q.t c a).bind λh=>(zC q c (b::r)).bind λl=>some ⟨oK h.1 l.1,λg=>Ou (h.2 g) (l.2 g)⟩
def En(q:sT)(c:RC):∀o:List Expr,Option (L6 c .Or o)
 |[]=>none
 |[a]=>(q.t c a).bind λh=>some ⟨h.1,λg=>Uy (h.2 g)⟩
 |a::b::r=>(q.t c a).bind λh=>(En q c (b::r)).bind λl=>some ⟨rm h.1 l.1,λg=>Wt (h.2 g) (l.2 g)⟩
def AD:Em:=λq c e=>MZ e λo l p h=>match o,h with
 | .And,h=>(zC q c l).bind λf=>some ⟨f.1,λg=>h ▸ L2.PW.pt (f.2 g)⟩
 | .Or,h=>(En q c l).bind λf=>some ⟨f.1,λg=>h ▸ L2.PW.pt (f.2 g)⟩
def AN:Em:=λq c e=>ER e λo a _ h=>wh (o=.Not) λz=>(q.t c a).bind λf=>some ⟨nM f.1,λg=>h ▸ z ▸ Wj (f.2 g)⟩
def Wf:Em:=λq c e=>wh (M5 e=true) λz=>(q.e c e).bind λf=>some ⟨pd f.1,λg=>Ph (f.2 g) (O7 z)⟩
noncomputable def Gg:Expr->Bool
 | .Tuple .. => true
 |_=>false
noncomputable def O9(tg:Expr):Prop:=∃c n p,tg=.Tuple c n p
theorem MH{tg:Expr}(h:Gg tg=true):O9 tg:=by cases tg<;>first|exact⟨_,_,_,rfl⟩|exact nomatch h
def MS(t:Expr->Bool)(x:String)(ok:RC->Pos->Bool)(f:CE->CI)(h:∀{X:Cx}{tg e:Expr}{l:CE}{p pos:Pos},t tg=true->Gl X (az x)->X.mg (az x)=none->SE X e l->starEach [e] X.env=[(false,eval e X.env)]->SI X tg (.Call (.Name (az x) p) [e] [] pos) (f l)):wH:=
 λq c tg e=>Ga e λy _ a p e=>wh (y=az x/\c.bl y=true/\qy a=true/\t tg=true/\ok c p=true) λz=>(q.e c a).bind λl=>some ⟨f l.1,λg=>by subst e;obtain⟨rfl,o,v,u,_⟩:=z;exact h u (g.gl o).1 (g.gl o).2 (l.2 g) (qw v)⟩
def Nb(t:Expr->Bool)(x:String)(ok:RC->Pos->Bool)(f:CE->CE->CI) (h:∀{X:Cx}{tg a b:Expr}{u o:CE}{p pos:Pos},t tg=true->Gl X (az x)->X.mg (az x)=none->SE X a u->SE X b o->starEach [a,b] X.env=(false,eval a X.env)::starEach [b] X.env->starEach [b] X.env=(false,eval b X.env)::starEach [] X.env ->
  starEach [a,b] X.env=[(false,eval a X.env),(false,eval b X.env)]->SI X tg (.Call (.Name (az x) p) [a,b] [] pos) (f u o)):wH:=
 λq c tg e=>DN e λy _ a b p e=>wh (y=az x/\c.bl y=true/\qy a=true/\qy b=true/\t tg=true/\ok c p=true) λz=>(q.e c a).bind λu=>(q.e c b).bind λo=>some ⟨f u.1 o.1,λg=>by subst e;obtain⟨rfl,B,v,l,C,_⟩:=z;exact h C (g.gl B).1 (g.gl B).2 (u.2 g) (o.2 g) (qw v) (qw l) (by rw[qw v,qw l];rfl)⟩
noncomputable abbrev Eo:Expr->Bool:=λ_=>true
noncomputable abbrev lW:RC->Pos->Bool:=λ_ _=>true
def xV:wH:=MS Eo "range" lW MM.f_ λ_ g m a s=>N1 g m a s
def yx:wH:=Nb Eo "range" lW MM.mY λ_ g m a b s t u=>UB g m a b s t u t
def Af(t:Bool):wH:=Nb Gg "zip" (λc p=>c.tag p 7 == t) tw λh g m a b s t u=>by obtain⟨_,_,_,rfl⟩:=MH h;exact Rp g m a b s t u t
def Bh:wH:=MS Gg "enumerate" lW tN λh g m a s=>by obtain⟨_,_,_,rfl⟩:=MH h;exact Pf g m a s
def C4:wH:=λq c _ e=>(q.l c e).bind λf=>some ⟨wz f.1,λg=>Pz (f.2 g)⟩
def DQ:wH:=λq c _ e=>(q.e c e).bind λf=>some ⟨iN f.1,λg=>Tr (f.2 g)⟩
noncomputable abbrev Mq(c:RC)(x:Str)(i:Nat):Prop:=c.N[i]?=some x/\(c.sc.names.lookup x=some .local\/c.sc.names.lookup x=some .cell)
def HW(c:RC)(x:Str):Option {i:Nat // Mq c x i}:=wh _ λh=>some ⟨c.N.idxOf x,h⟩
theorem Jj{X:Cx}{c:RC}(g:Good X c){x:Str}{i:Nat}(h:Mq c x i):X.N[i]?=some x/\∃k,c.sc.names.lookup x=some k/\(k=.local\/k=.cell):=by
 refine⟨by rw[g.N];exact h.1,?_⟩;rcases h.2 with l|l
 ·exact⟨_,l,.inl rfl⟩
 ·exact⟨_,l,.inr rfl⟩
def Rg:F0:=λ_ c e=>zr e λx _ h=>(HW c x).bind λi=>some ⟨aQ i.1,λg=>by obtain⟨q,k,o,l⟩:=Jj g i.2;exact h ▸ Ti g.S _ g.nd q o l⟩
abbrev HN(c:RC)(g:List Expr):={r:List D->Loc->M Loc // ∀{X:Cx},Good X c->Ac X g r/\(dE g X.env).length=g.length/\(dE g X.env).findIdx? (·.1)=none}
theorem V4{X:Cx}{e:Expr}{c:List Expr}{a:CG}{b:List D->Loc->M Loc}(l:qy e=true)(o:SG X e a)(h:Ac X c b/\(dE c X.env).length=c.length/\(dE c X.env).findIdx? (·.1)=none):Ac X (e::c) (cJ a b)/\(dE (e::c) X.env).length=(e::c).length/\(dE (e::c) X.env).findIdx? (·.1)=none:=by
 obtain⟨u,q,d⟩:=h;have g:dE (e::c) X.env=(false,n8 e X.env)::dE c X.env:=by cases e<;>first|rfl|exact nomatch l
 refine⟨Pq o u (by rw[g];rfl),by rw[g];exact cR (· + 1) q,?_⟩;rw[g,List.findIdx?_cons,d];rfl
def Lr(q:sT)(c:RC):∀h:List Expr,Option (HN c h)
 |[]=>some ⟨hU,λ_=>⟨Va,rfl,rfl⟩⟩
 |e::h=>wh (qy e=true) λl=>(q.g c e).bind λa=>(Lr q c h).bind λb=>some ⟨cJ a.1 b.1,λg=>V4 l (a.2 g) (b.2 g)⟩
def E3:F0:=λq c e=>F9 e λl _ _ h=>(Lr q c l).bind λf=>some ⟨gQ l.length f.1,λg=>h ▸ Ww g.S.calm (f.2 g).1 (f.2 g).2.1 (f.2 g).2.2⟩
def EO:F0:=λq c e=>z_ e λo i _ h=>wh (FQ i=true) λz=>(q.e c o).bind λf=>(q.e c i).bind λk=>some ⟨g_ f.1 k.1,λg=>h ▸ OP g.hu (f.2 g) (k.2 g) (λv=>by cases i<;>first|rfl|exact nomatch z)⟩
def Di:v7:=λq c e=>R_ e λo _ h=>oS o λa l=>(q.e c a).bind λf=>some ⟨eV f.1,λg=>h ▸ l ▸ PR (f.2 g)⟩
def E7:v7:=λq c e=>TD e λa _ h=>wh (Gz a=true) λz=>(q.e c a).bind λf=>some ⟨iA f.1,λg=>h ▸ Oi (f.2 g) (L7 z)⟩
def yA:v7:=λ_ _ e=>R5 e λ_ _ _ h=>some ⟨AY,λ_=>h ▸ WH⟩
def Kc:v7:=λq c e=>Ul e λt a b _ h=>(q.t c t).bind λl=>(qN q c a).bind λu=>(qN q c b).bind λo=>some ⟨np l.1 u.1 o.1,λg=>h ▸ Te (l.2 g) (u.2 g) (o.2 g)⟩
def xX:v7:=λq c e=>U3 e λt a b _ h=>v0 b λu=>(q.t c t).bind λl=>(qN q c a).bind λo=>some ⟨kM l.1 o.1,λg=>h ▸ u ▸ Vx g.ps (l.2 g) (o.2 g)⟩
def D9:v7:=λq c e=>Qm e λtg l a b _ h=>v0 b λB=>wh (DC l=true) λz=>(q.i c tg l).bind λo=>(q.g c tg).bind λu=>(qN q c a).bind λv=>some ⟨kI o.1 u.1 v.1,λg=>h ▸ B ▸ P5 g.ps g.S.calm (o.2 g) (u.2 g) (v.2 g) (JJ z)⟩
def Iw:v7:=λq c e=>F4 e λt a _ h=>zr t λx _ l=>wh (Gz a=true\/(c.top=true/\c.sc.names.lookup x=some .cell)) λz=>(HW c x).bind λi=>(q.e c a).bind λf=>some ⟨cf (aQ i.1) f.1,λ{X}g=>by
 subst h l;obtain⟨l,k,C,B⟩:=Jj g i.2;refine SY g.S _ g.nd l C (f.2 g) B ?_;rcases z with u|⟨o,v⟩
 ·exact L7 u
 ·have e:(X.env.kindOf x == some fA.local)=false:=by rw[(g.kd o).2 x,v];rfl
  cases a<;>first|rfl|(unfold ki;simp only[e,zN,si])⟩
theorem Oe{X:Cx}{c:RC}(g:Good X c){e:Expr}{v:List Comprehension}{sc:dR}{p h:Pos}{y:Str}{n:Nat}(l:c.top=true)(q:c.sc.names.lookup y=some .local)(o:(h.line == p.line)=true)(u:(sc.names.any λz=>z.1 == y&&(z.2 == .local||z.2 == .cell))=false):
  ki (.ListComp e v sc p) (some (.Name y h)) n X.env=pure true:=by
 have C:(X.env.kindOf y == some fA.local)=true:=by rw[(g.kd l).2 y,q];rfl
 have B:(X.env.blockKind == tZ)=true:=by rw[(g.kd l).1];rfl
 show (pure (X.env.blockKind == tZ&&X.env.kindOf y == some fA.local&&h.line == p.line && !(sc.names.any λz=>z.1 == y&&(z.2 == .local||z.2 == .cell))):Sem Bool)=pure true;rw[C,B,o,u];rfl
def By:v7:=λq c s=>F4 s λt a _ h=>zr t λy v l=>(D7 q c a).bind λm=>wh (c.top=true/\c.sc.names.lookup y=some .local/\(v.line == m.p.line)=true/\(m.sc.names.any λz=>z.1 == y&&(z.2 == .local||z.2 == .cell))=false) λz=>(HW c y).bind λi=>some ⟨cf (aQ i.1) (eK m.r),λg=>by subst h l;obtain⟨l,k,u,o⟩:=Jj g i.2;obtain⟨x,tg,b,E,sc,p,rfl,ok,B,mg,mt,C⟩:=m;exact SM g.nd l (g.S.loc _ _ u o).1 (g.S.loc _ _ u o).2 g.S.calm (LM g.S ok.1) (Lo g.N ok.2.1) (B.2 g) (λfp s H=>⟨mg.2 (g.inn ok fp s H),mt.2 (g.inn ok fp s H),C.2 (g.inn ok fp s H)⟩) (Oe g z.1 z.2.1 z.2.2.1 z.2.2.2) (JJ ok.2.2.2)⟩
def E1:v7:=λq c s=>F4 s λt a _ h=>z_ t λo i p l=>(q.e c a).bind λf=>(q.g c (.Subscript o i p)).bind λk=>some ⟨cf k.1 f.1,λg=>by subst h l;exact Lf (f.2 g) (k.2 g) (by cases a<;>rfl) (by cases a<;>rfl) rfl⟩
noncomputable def RD:Expr->Bool
 | .Tuple _ _ _=>false
 |_=>true
def Ep:v7:=λq c s=>F4 s λt a _ h=>F9 t λo n p l=>wh (RD a=true) λz=>(q.e c a).bind λf=>(q.g c (.Tuple o n p)).bind λk=>some ⟨cf k.1 f.1,λg=>by subst h l;exact Lf (f.2 g) (k.2 g) (by cases a<;>rfl) (by cases a<;>first|rfl|exact nomatch z) rfl⟩
section
variable{P:Program}{w:bE}{K:aj}{mg:Str->Option ag}{base:bA}
variable(P w K mg base) in
def c_(l:List (Str×RF)):Prop:=∀x r,l.lookup x=some r->GF P w K mg base x r
theorem V_:c_ P w K mg base []:=λ_ _ h=>nomatch h
theorem FR{l:List (Str×RF)}{x:Str}{r:RF}{f:ao}{c:dG}(m:mg x=some (.ref f))(F:m7 P w K mg base sf r.k f c r.ps (n0 K r.n r.g))(g:dm K (.ref f)=true)(b:Binds K c r.ps [])(o:r.kw=true->Ek K c r.ps)(h:c_ P w K mg base l):
  c_ P w K mg base ((x,r)::l):=λy s z=>by
 by_cases e:y=x
 ·subst e;rw[List.lookup_cons_self]at z;cases z;exact⟨f,c,m,F,g,b,o⟩
 ·rw[vA e]at z;exact h y s z
def G2(K:aj)(mg:Str->Option ag)(base:bA)(x:Str)(f:ao)(g:dG):Prop:=∃c P,fG K cC x=some (some (.ref f))/\g.code=.ref c/\dX K c P=true/\BMod base mg
theorem G_(R:oQ)(j:Nat){x:Str}{h:fH}{f:ao}{l:dG}{N o:List Str}{k n m:Nat}{g:CS}{G:List (Str×RF)}{Z:List Str}{C:List (Str×D)}{H:List (Nat×Nat×Nat)}{W:List (Expr×RL)}{T:Option (Nat×Str)}(F:xB K x x h f l)(S:lI N o (bD h))(hn:o.length=n)(hm:N.length=m)
  (hG:c_ P w K mg base G) (hZ:∀x,Z.contains x=true->mg x=none) (hC:∀x d,C.lookup x=some d->∃v u,mg x=some u/\RelV v u/\∀ρ H,dA K ρ H v d)
  (hb:(qN (pc R j) ⟨bD h,N,k,G,Z,C,H,true,W,T⟩ (dw h)).map (·.1)=some g) (hW:∀e r,(e,r)∈W->pI P w K mg base r.k r.n e r.g) (hT:∀t,T=some t->t.2=x/\G2 K mg base x f l):m7 P w K mg base sf (k+1) f l o (n0 K n (cm m g)):=
 have ⟨v,_,e⟩:=dC.mp hb
 N6 F S hn hm λcdv A outer s Hp E q hr=>e ▸ v.2 ⟨JF,rfl,S.nd,hr,hG,hZ,hC,mq,λ_=>⟨by show (if (bD h).kind.isAnnotationScope=true then _ else (bD h).kind)=_;rw[S.kind];rfl,λ_=>rfl⟩,hW,λt z=>by obtain⟨J,c,P,Q,B,O,L⟩:=hT t z;obtain⟨oc,od,kV,doc,pm,an,I,ct,U,e1,Y,_⟩:=F.ex;rw[J];exact⟨f,_,l,c,P,Q,Y,rfl,B,O,by rw[<- B,q];rfl,rfl,L⟩⟩
end
end
section
variable{K:aj}{mg:Str->Option ag}
noncomputable def xE(mg:Str->Option ag)(Z:List Str):Prop:=∀x,Z.contains x=true->mg x=none
theorem E4:xE mg []:=λ_ h=>nomatch h
theorem iL{a:Str}{l:List Str}(h:mg a=none)(t:xE mg l):xE mg (a::l):=λx z=>by
 rw[List.contains_cons,ra]at z;rcases z with z|z
 ·rw[beq_iff_eq.mp z];exact h
 ·exact t x z
def zJ(K:aj)(mg:Str->Option ag)(C:List (Str×D)):Prop:=∀x d,C.lookup x=some d->∃v u,mg x=some u/\RelV v u/\∀ρ H,dA K ρ H v d
theorem DP:zJ K mg []:=λ_ _ h=>nomatch h
end
section
theorem uU{x:Str}(h:uw x=true):x≠"__name__":=(B0 h).n
def CU:kJ:=sB "max" lW oF λc _ g m a s=>Km (Vv c) g m (by nofun) a (uU (by nofun)) (by nofun) s
def Dg:kJ:=sB "all" lW vD λc _ g m a s=>Km (Ov c) g m (by nofun) a (uU (by nofun)) (by nofun) s
def CM:kJ:=sB "tuple" lW kH λ_ _ g m a s=>Ri Rt g m (by nofun) a (uU (by nofun)) (by nofun) s
def yk:kJ:=uv "sorted" lW oE λ_ _ g m a s=>NE N5 g m (by nofun) a (uU (by nofun)) (by nofun) s
def IY:kJ:=uv "len" lW fX λ_ _ g m a s=>NE TC g m (by nofun) a (uU (by nofun)) (by nofun) s
def Im:kJ:=uv "int" lW intD λ_ _ g m a s=>Ea Tw g m (by nofun) a (uU (by nofun)) (by nofun) s
def AF:kJ:=uv "tuple" lW tupleD λ_ _ g m a s=>Ea WV g m (by nofun) a (uU (by nofun)) (by nofun) s
def DH:kJ:=uv "list" lW tU λ_ _ g m a s=>Ea Py g m (by nofun) a (uU (by nofun)) (by nofun) s
def A9:kJ:=uv "list" (λc p=>c.tag p 5) ph λc _ g m a s=>Ea (Tt c) g m (by nofun) a (uU (by nofun)) (by nofun) s
def Cu:kJ:=G6 "min" lW uZ λc _ g m a b o l h=>QN (WI c) g m (by nofun) a b (uU (by nofun)) (by nofun) o l h
def yz:kJ:=CN "int" WM (by nofun) (uU (by nofun)) (by nofun)
def wN:kJ:=CN "bool" TR (by nofun) (uU (by nofun)) (by nofun)
def xY:kJ:=E9 "append" dO lW λ_ o a b f l s p=>VR o a b f l s p
def GC:kJ:=zD "pop" ut λo b l=>Oh o b l
def IN:kJ:=zA "get" vI λu o a b bs f l g c p=>QQ u o a b bs f l g c p
def yE:kJ:=zA "setdefault" oM λu o a b bs f l g c p=>Rz u o a b bs f l g c p
def DS:wH:=λq c _ e=>wh (c.tag e.pos 6=true) λ_=>(q.e c e).bind λf=>some ⟨vt f.1,λg=>Qo (f.2 g)⟩
end
section
variable{P:Program}{w:bE}{K:aj}{mg:Str->Option ag}{base:bA}
noncomputable def FnAt(K:aj)(mg:Str->Option ag)(x:Str)(c:fH):Prop:=∃a g,xB K x x c a g/\mg x=some (.ref a)
theorem ia{h:bA}{x:Str}{g:fH}{f:ao}{v E:Option ao}{q:Array (Option ag)}{B kV C u o ct:ag}(X:K.In h)(G:h.Ns cC mg)(a:fG K cC x=some (some (.ref f)))
  (l:K.lookup f=some ⟨B,v,.func (cD x x (fE g) (dw g) (bD g) .none kV C u E o ct),q⟩) (c:fR K o x=true) (k:dm K (.ref f)=true):FnAt K mg x g:=
 ⟨f,_,Mg (st:=g) l c k,rT X G a⟩
noncomputable def tp(N P:List Str)(sc:dR):Bool:=(sc.kind == .function)&&(sc.isCoroutine == false)&&(sc.isGenerator == false)&&decide N.Nodup&&(N.take P.length == P)&&(P.all λx=>sc.names.lookup x == some .local||sc.names.lookup x == some .cell)&&(sc.names.all λy=>y.2 != .free)
theorem DT{N P:List Str}{sc:dR}(h:tp N P sc=true):lI N P sc:=by unfold tp at h;simp only[bu,beq_iff_eq,decide_eq_true_eq,d7,ra,bne_iff_ne,ne_eq]at h;obtain⟨⟨⟨⟨⟨⟨v,u⟩,q⟩,o⟩,l⟩,g⟩,c⟩:=h;exact⟨v,u,q,o,l,g,c⟩
theorem MG(R:oQ){r:List Str}{x:Str}{h:fH}{f:ao}{l:dG}{g:List Str}{k n m:Nat}{c:CS}{G:List (Str×RF)}{Z:List Str}{C:List (Str×D)}{H:List (Nat×Nat×Nat)}(F:xB K x x h f l)(S:tp (g++r) g (bD h)=true)
  (u:(qN (pc R 40) ⟨bD h,g++r,k,G,Z,C,H,true,[],none⟩ (dw h)).map (·.1)=some c) (B:c_ P w K mg base G) (v:xE mg Z) (E:zJ K mg C) (o:g.length=n) (q:(g++r).length=m):m7 P w K mg base sf (k+1) f l g (n0 K n (cm m c)):=
 G_ R 40 F (DT S) o q B v E u (λ_ _ z=>nomatch z) λ_ z=>nomatch z
theorem nV(R:oQ){r:List Str}{x:Str}{l:fH}{c:List Str}{k n m:Nat}{B:Bool}{o:CS}{G:List (Str×RF)}{Z:List Str}{C:List (Str×D)}{H:List (Nat×Nat×Nat)}(F:FnAt K mg x l)(S:tp (c++r) c (bD l)=true)
  (b:∀(kV g q:ag)(u:Option ao)(h ct:ag)(v:List ag),v.length=c.length->lA (cD x x (fE l) (dw l) (bD l) .none kV g q u h ct) { pos:=v }=pure (c.zip v))
  (L:B=true->∀(kV g q:ag)(u:Option ao)(h ct:ag)(s:am)(ws:List ag),ws.length=c.length->rL s (cD x x (fE l) (dw l) (bD l) .none kV g q u h ct) ⟨[],c.zip ws⟩ (c.zip ws))
  (hb:(qN (pc R 40) ⟨bD l,c++r,k,G,Z,C,H,true,[],none⟩ (dw l)).map (·.1)=some o) (I:c_ P w K mg base G) (hZ:xE mg Z) (hC:zJ K mg C) (Q:c.length=n:=by rfl) (U:(c++r).length=m:=by rfl) (O:B=true->¬ c.getLast?=some (az "most"):=by first|exact λz=>nomatch z|exact λ_=>by decide):c_ P w K mg base ((x,⟨n,k+1,c,B,cm m o⟩)::G):=by
 obtain⟨f,fd,F,E⟩:=F;refine FR E (MG R F S hb I hZ hC Q U) F.kp (F.binds b) (λz=>?_) I;obtain⟨oc,od,kV,g,q,u,h,ct,J,e,lk,hcd⟩:=F.ex;unfold Ek;rw[aC (O z)];intro s ws Y;rw[e];exact L z kV g q u h ct s ws Y
end
end MM
namespace PySem.SeqAt
open AutoSeq1 (wpAny_loadPart')
open MeetsSeq MeetsSeq2 MeetsSeq3 SeqRoads2
end PySem.SeqAt
namespace MM
open PySem PySem.Spec PyProof.Rows L2
noncomputable def AZ(prog:Program)(w:bE)(A:bv)(op:sX)(P:Nat->ag->Prop)(Kp:bA->Prop)(c:Nat->Nat->Bool):Prop:=
 ∀i j vi vj(s:am)(Q:ag->am->Prop)(E:ag->am->Prop),Kp s.heap->P i vi->P j vj->Q (.bool (c i j)) s->aD (aT prog w) A (richCompare op vi vj) Q E s
section
variable{X:Cx}{cp:List (ao×Obj)}{σ:St}{s:am}{a:ao}{K:aj}{ρ:List ao}{H:Hp}{st:aZ}
theorem KJ{n:Nat}{g:List (D×D)}{k d:D}{y v:V}{u r':ag}{Q:Unit->am->Prop}{E:ag->am->Prop}{A:bv}(hu:A.units+2 < cA)(I:Inv X cp σ H s)(L:SR X.K ρ H st)(ha:ρ[n]?=some a)(hn:st[n]?=some (.dct true g))
  (Y:dA X.K ρ H y k) (hk:m5 true k=true) (hl:g.length < sizeLine) (rv:dA X.K ρ H v d) (ry:RelV y u) (rr:RelV v r')
  (h:∀J O,Inv X cp σ J O->SR X.K ρ J (st.set n (.dct true (lG g k d)))->Ex ρ H ρ J->Q () O):aD (aT X.prog X.w) A (Ck a u r') Q E s:=by
 have B:=(ac.mp hn).1;obtain⟨C,e,r⟩:=L.ob n a _ ha hn;obtain⟨k,rfl⟩:=B5 hk;obtain⟨_,hd,xs,U,dd,de⟩:=v9 I e r;obtain⟨c,e2,e3,hc⟩:=zv I Y ry;subst e2 e3;have up:Up ρ H ρ (ff H a (ic a (putN C k c v))):=by
  refine⟨⟨[],by simp⟩,λc o no q=>?_,λc o q=>?_⟩
  ·rw[fO λz=>by subst z;rw[e]at q;cases q;exact nomatch no];exact q
  ·by_cases z:c=a
   ·subst z;rw[e]at q;cases q;exact⟨_,kh,rfl⟩
   ·exact⟨o,by rw[fO z];exact q,rfl⟩
 have w:=L.putO (o':=.dct true (lG g (oG k) d)) (u':=ic a (putN C k c v)) B ha e (by show (2:Nat)≠3;decide) rfl ⟨_,kh,(NR.put r k c Y rv).up up⟩;have hz:xs.length<=sizeLine:=by rw[<- bZ U,NR.length r];ext
 refine KW (knd:=xF X) (show A.units+1 < cA by ext) hc dd de hz λh' l G hs=>h _ _ ?_ w.1 w.2;have he:∃q,h'.get? a=some q:=let ⟨q,_,_,hq,_⟩:=l;⟨q,hq⟩
 refine Cb I (by rw[e];exact eE) hs he (B8 ?_ hd (NX.put U k c rr) l G);have:=Hy C k c v;rw[NR.length r]at this;ext
end
section
def PJ{β:Type}(e:Expr)(k:∀a b s p,e=.Lambda a b s p->Option β):Option β:=match e,k with
 | .Lambda a b s p,k=>k a b s p rfl
 |_,_=>none
theorem W5{a:mj}{env:Env}(h:a.defaults.isEmpty=true/\a.kw_defaults.isEmpty=true):BO a env=([],[]):=by obtain⟨B,v,u,q,c,o,d⟩:=a;obtain⟨l,g⟩:=h;obtain rfl:d=[]:=xO.mp l;obtain rfl:c=[]:=xO.mp g;rfl
theorem Us{sc:dR}{env:Env}(h:sc.names.all (λy=>y.2 != .free)=true):oh sc env=pure []:=by
 have z:∀x,(x,bK)∈sc.names->False:=λx g=>by have:=d7.mp h _ g;simp at this
 rw[LP λx g=>(z x g).elim];congr 1;have:∀(l:List (Str×fA))(c:List (Str×ao)),(∀x,(x,bK)∉l)->ko l env.cells c=c:=λl=>by
  induction l with
  |nil=>exact λ_ _=>rfl
  |cons y l ih=>
   intro c o;obtain⟨n,k⟩:=y;unfold ko;have q:(k == bK)=false:=by
    rw[beq_eq_false_iff_ne]
    rintro rfl
    exact o n (.head _)
   simp only[q,aL,if_false];exact ih c λx g=>o x (.tail _ g)
 exact this _ _ λx g=>z x g
def Hc:kJ:=λ_ c e=>PJ e λa b s p h=>oS c.T λt l=>wh ((a.defaults.isEmpty=true/\a.kw_defaults.isEmpty=true)/\s.names.all (λy=>y.2 != .free)=true) λz=>some ⟨ug t.1 t.2 (.Lambda a b s p),λg=>h ▸ To (g.T t l) (W5 z.1) (Us z.2)⟩
def Al:kJ:=λq c e=>Dx e λx p as _ h=>vC as λa as v=>(Eg c x).bind λi=>wh ((c.W.all λr=>decide (r.2.k<=c.k))=true) λz=>(vG q c (a::as)).bind λu=>some ⟨pe c.W (aq i.1) u.1,λg=>by subst h v;obtain⟨x,y,l⟩:=u.2;rw[cB,bu]at y;exact PM (λe r o=>⟨g.W e r o,g.hr.mono (of_decide_eq_true (d7.mp z _ o))⟩) (Mw g i.2) (x g) (qw y.1) (BV y.2)⟩
end
def GI(e:Expr):mj:=match e with
 | .Lambda a _ _ _=>a
 |_=>{ posonlyargs:=[],args:=[],vararg:=none,kwonlyargs:=[],kw_defaults:=[],kwarg:=none,defaults:=[] }
def CY(e:Expr):Expr:=match e with
 | .Lambda _ b _ _=>b
 |e=>e
def An(e:Expr):dR:=match e with
 | .Lambda _ _ s _=>s
 |_=>{ kind:=.function,names:=[],isGenerator:=false,isCoroutine:=false }
noncomputable def RM:Expr->Bool
 | .Lambda .. => true
 |_=>false
def GW(s:fH):Expr:=match s with
 | .Return (some e) _=>e
 | .Assign _ e _=>e
 |_=>.Name "" ⟨0,0,0,0⟩
def AW(n:Nat)(e:Expr):Expr:=match e with
 | .Call _ as _ _=>as.getD n e
 | .BinOp a _ b _=>if n=0 then a else b
 |_=>e
section
variable{P:Program}{w:bE}{K:aj}{mg:Str->Option ag}{base:bA}
variable(P w K mg base) in
def B3(W:List (Expr×RL)):Prop:=∀e r,(e,r)∈W->pI P w K mg base r.k r.n e r.g
theorem Gq:B3 P w K mg base []:=λ_ _ z=>nomatch z
theorem Pc{e:Expr}{r:RL}{W:List (Expr×RL)}(h:pI P w K mg base r.k r.n e r.g)(t:B3 P w K mg base W):B3 P w K mg base ((e,r)::W):=λg c z=>by
 rcases aP.mp z with z|z
 ·cases z;exact h
 ·exact t g c z
theorem TL(R:oQ){r nm:List Str}{e:Expr}{k n m:Nat}{f:CE}{G:List (Str×RF)}{Z:List Str}{C:List (Str×D)}{H:List (Nat×Nat×Nat)}{W:List (Expr×RL)}(I:RM e=true)(S:tp (nm++r) nm (An e)=true)
  (J:∀(q:Str)(l c ct:ag)(g:List ag),g.length=nm.length->lA (xm "<lambda>" q (GI e) (CY e) (An e) [] l c ct) ⟨g,[]⟩=pure (nm.zip g))
  (E:((pc R 40).e ⟨An e,nm++r,k,G,Z,C,H,true,W,none⟩ (CY e)).map (·.1)=some f) (Q:c_ P w K mg base G) (L:xE mg Z) (U:zJ K mg C) (O:B3 P w K mg base W) (u:nm.length=n:=by rfl) (B:(nm++r).length=m:=by rfl):
  pI P w K mg base (k+1) n e (uB m f):=by
 subst u;have h:=DT S;obtain⟨v,_,Y⟩:=dC.mp E;cases e with
 |Lambda a b s p=>exact Qk h B J λq a' c A outer s' Hp o=>Y ▸ v.2 ⟨JF,rfl,h.nd,o,Q,L,U,mq,λ_=>⟨by show (if s.kind.isAnnotationScope=true then _ else s.kind)=_;rw[show s.kind=_ from h.kind];rfl,λ_=>rfl⟩,O,λ_ z=>nomatch z⟩
 |_=>cases I
theorem VH(R:oQ){r:List Str}{x:Str}{h:fH}{c:List Str}{k n m:Nat}{g:CS}{G:List (Str×RF)}{Z:List Str}{C:List (Str×D)}{H:List (Nat×Nat×Nat)}{W:List (Expr×RL)}(F:FnAt K mg x h)(S:tp (c++r) c (bD h)=true)
  (b:∀(kV q B:ag)(U:Option ao)(u ct:ag)(l:List ag),l.length=c.length->lA (cD x x (fE h) (dw h) (bD h) .none kV q B U u ct) { pos:=l }=pure (c.zip l))
  (J:(qN (pc R 40) ⟨bD h,c++r,k,G,Z,C,H,true,W,none⟩ (dw h)).map (·.1)=some g) (v:c_ P w K mg base G) (L:xE mg Z) (Q:zJ K mg C) (O:B3 P w K mg base W) (E:c.length=n:=by rfl) (I:(c++r).length=m:=by rfl):c_ P w K mg base ((x,⟨n,k+1,c,false,cm m g⟩)::G):=by
 obtain⟨f,Y,F,o⟩:=F;exact FR o (G_ R 40 F (DT S) E I v L Q J O λ_ z=>nomatch z) F.kp (F.binds b) nofun v
noncomputable def wV(K:aj)(mg:Str->Option ag)(x:Str)(h:fH):Prop:=∃a g c P,xB K x x h a g/\mg x=some (.ref a)/\fG K cC x=some (some (.ref a))/\g.code=.ref c/\dX K c P=true
theorem PH(R:oQ){r:List Str}{x:Str}{l:fH}{g:List Str}{j k n m:Nat}{h:CS}{G:List (Str×RF)}{Z:List Str}{C:List (Str×D)}{H:List (Nat×Nat×Nat)}(F:wV K mg x l)(S:tp (g++r) g (bD l)=true)
  (b:∀(kV u E:ag)(an:Option ao)(v ct:ag)(o:List ag),o.length=g.length->lA (cD x x (fE l) (dw l) (bD l) .none kV u E an v ct) { pos:=o }=pure (g.zip o))
  (L:(qN (pc R 40) ⟨bD l,g++r,k,G,Z,C,H,true,[],some (j,x)⟩ (dw l)).map (·.1)=some h) (B:c_ P w K mg base G) (O:xE mg Z) (Q:zJ K mg C) (U:BMod base mg) (I:g.length=n:=by rfl) (J:(g++r).length=m:=by rfl):c_ P w K mg base ((x,⟨n,k+1,g,false,cm m h⟩)::G):=by
 obtain⟨f,fd,c,P',F,q,h1,h2,Y⟩:=F;exact FR q (G_ R 40 F (DT S) I J B O Q L Gq λt z=>by cases z;exact⟨rfl,c,P',h1,h2,Y,U⟩) F.kp (F.binds b) nofun B
end
theorem Db{K:aj}{mg:Str->Option ag}{h:bA}{x:Str}{g:fH}{f c P:ao}{u H:Option ao}{o:Array (Option ag)}{v kV E q ct:ag}(X:K.In h)(G:h.Ns cC mg)(a:fG K cC x=some (some (.ref f)))
  (l:K.lookup f=some ⟨v,u,.func (cD x x (fE g) (dw g) (bD g) .none kV E q H (.ref c) ct),o⟩) (C:fR K (.ref c) x=true) (k:dm K (.ref f)=true) (B:dX K c P=true):wV K mg x g:=
 ⟨f,_,c,P,Mg (st:=g) l C k,rT X G a,a,rfl,B⟩
theorem zY{K:aj}{x:Str}{f c P:ao}{v:ag}{u:Option ao}{o:dG}{q:Array (Option ag)}(g:fG K cC x=some (some (.ref f)))(l:K.lookup f=some ⟨v,u,.func o,q⟩)(B:o.code=.ref c)(h:dX K c P=true)(n:K.lookup P=none):TabOf K x P/\K.lookup P=none:=
 ⟨⟨f,_,o,c,g,l,rfl,B,h⟩,n⟩
theorem W6{P:Program}{w:bE}{K:aj}{mg mb:Str->Option ag}{k:Nat}{fa a:ao}{fd:dG}{x:Str}{g:List D->M D}{s₁:am}{Q:List ag}{ns:List Int}{C:List (ao×Str)}
  (KX:K.In s₁.heap) (hns:s₁.heap.Ns cC mg) (L:s₁.heap.Ns n6 mb) (hbb:∀x:Str,x≠"__name__"->mb x=cM x) (hlim:s₁.heap.NoLimit) (hg:s₁.gens=#[]) (hB:BMod s₁.heap mg)
  (hnd:(C.map (·.1)).Nodup) (I:∀p∈C,s₁.heap.get? p.1=some (fS #[])/\TabOf K p.2 p.1/\K.lookup p.1=none)
  (ha:s₁.heap.get? a=some { cls:=.type "list",data:=.seq Q.toArray }) (hi:kZ Q ns) (hl:ns.length<=sizeLine) (hr:iU k k_)
  (F:∀base:bA,BMod base mg->m7 P w K mg base sf k fa fd [x] (n0 K 1 g)) (hbind:∀(s:am)(u:ag),rL s fd ⟨[u],[]⟩ [(x,u)])
  (hsp:∃st',g [.lit (ns.map D.int)] (C.map λp=>.tbl p.2)=.ok (.bl true) st'):
  i6 (aT P w) k_ (.call (.ref fa) ⟨[.ref a],[]⟩) (λr G=>r=.ok (.ret (.bool true))/\OldK s₁.heap G.heap/\G.os=s₁.os/\lY G.gens) s₁:=by
 have rv:=Jn hi;have lenV:=hi.length;have nT:∀b∈C.map (·.1),s₁.heap.get? b=some (fS #[])/\K.lookup b=none:=λb L=>by obtain⟨p,hp,rfl⟩:=bU.mp L;exact⟨(I p hp).1,(I p hp).2.2⟩
 have naT:a∉C.map (·.1):=λz=>by have:=(nT a z).1;rw[ha]at this;cases this
 have O : ∀S : Option HO, (S = none \/ ∃o, S = some (.frz o (.lst (ns.map V.int))) /\ o = { cls := .type "list", data := .seq Q.toArray }) -> (S ≠ none -> K.lookup a = none) -> ∀H : Hp, (H = λb => if b = a then S else if b ∈ C.map (·.1) then some (.tbl #[]) else none) -> xC K H a (ns.map V.int) ->
   i6 (aT P w) k_ (.call (.ref fa) ⟨[.ref a],[]⟩) (λr G=>r=.ok (.ret (.bool true))/\OldK s₁.heap G.heap/\G.os=s₁.os/\lY G.gens) s₁:=by
  intro S hS hK H eH fz;have eA:H a=S:=by rw[eH];exact aG rfl
  have eT:∀b∈C.map (·.1),H b=some (.tbl #[]):=λb L=>by
   rw[eH]
   show (if b=a then S else if b∈C.map (·.1) then some (.tbl #[]) else none)=_;have nz:¬ b=a:=λz=>naT (z ▸ L);rw[aC nz,aG L]
  have eN:∀b,b≠a->b∉C.map (·.1)->H b=none:=λb E B=>by
   rw[eH]
   show (if b=a then S else if b∈C.map (·.1) then some (.tbl #[]) else none)=_;rw[aC E,aC B]
  have hok:nI P w H s₁.heap:=λb u e=>by
   by_cases E:b=a
   ·subst E;rw[eA]at e;rcases hS with z|⟨o,z,zo⟩
    ·rw[z]at e;cases e
    ·rw[z]at e;cases e;subst zo;exact⟨ha,by rw[ae];exact hl,Q,_,rv,ha⟩
   ·by_cases B:b∈C.map (·.1)
    ·rw[eT b B]at e;cases e;exact (nT b B).1
    ·rw[eN b E B]at e;cases e
  have no:∀{b:ao}{o:Obj},s₁.heap.get? b=some o->o≠{ cls:=.type "list",data:=.seq Q.toArray }->o≠fS #[]->H b=none:=λ{b o}e n1 n2=>eN b (λz=>by subst z;rw[ha]at e;exact n1 (aE e).symm) λz=>by have:=(nT b z).1;rw[e]at this;exact n2 (aE this)
  have noD:∀{b:ao}{o:Obj}{es:Array fm}{ep:Nat},s₁.heap.get? b=some o->o.data=.dict es ep->H b=none:=λe d=>no e (λz=>by subst z;cases d) λz=>by subst z;cases d
  have l:∀{b:ao}{o:Obj},s₁.heap.get? b=some o->H b=none->(nZ s₁.heap H).get? b=some o:=λe n=>L5 e n;have Y:∀{b:ao}{m:Str->Option ag},s₁.heap.Ns b m->(nZ s₁.heap H).Ns b m:=λ{b m}U=>by obtain⟨o,es,ep,e,d,r⟩:=U;exact⟨o,es,ep,l e (noD e d),d,r⟩
  have hKb:K.In (nZ s₁.heap H):=λb o e=>l (KX b o e) (by
   by_cases E:b=a
   ·subst E;rw[eA];rcases hS with z|⟨o',z,_⟩
    ·exact z
    ·rw[hK (by rw[z];simp)]at e;cases e
   ·exact eN b E λB=>by rw[(nT b B).2]at e;cases e)
  have hM:Mod K mg (nZ s₁.heap H):=⟨hKb,Y hns,⟨mb,Y L,hbb⟩,let ⟨mc,E,B⟩:=hlim;⟨mc,Y E,B⟩⟩
  have hBb:BMod (nZ s₁.heap H) mg:=by obtain⟨bm,ob,E,B,h3,h4,h5,h6⟩:=hB;exact⟨bm,ob,E,B,l h3 (no h3 (λz=>by subst z;cases h6) λz=>by subst z;cases h6),h4,h5,h6⟩
  have e0:vB P w K mg (nZ s₁.heap H) k_ [] s₁ H:=⟨rfl,hM,λb o e=>Lv e,Fe (M9 _ _),trivial,λb L=>bn (show b∈([]:List ao) from L) (by simp),hok,.of_eq hg⟩
  have sr:SR K (C.map (·.1)) H (C.map λp=>.tbl p.2):=⟨by simp,hnd,λn b o e1 e2=>by
   rw[ar]at e1 e2;cases e:C[n]? with
   |none=>rw[e]at e1;cases e1
   |some p=>
    rw[e]at e1 e2;cases e1;cases e2;have hp:=aA e;exact⟨(I p hp).2.1,#[],eT _ (oA hp),trivial,λ_ _ z=>by cases z⟩⟩
  obtain⟨st',est⟩:=hsp;have sp:n0 K 1 g [.ref a] H (λv _=>v=.bl true) E0:=⟨rfl,_,_,_,sr,.cons (.lit fz (M6 ns)) .nil,by rw[est];intro ρ' H' _ _ v rv;cases rv;rfl⟩
  refine n_ ((F _ hBb).run k_ [] s₁ H ⟨[.ref a],[]⟩ [.ref a] [.ref a] _ _ hr e0 (hbind s₁ (.ref a)) (.cons rfl .nil) sp) λr G h=>?_;cases r with
  |error e=>exact h.elim
  |ok fl=>
   cases fl with
   |next=>exact dW h
   |brk=>exact dW h
   |cont=>exact dW h
   |ret u=>
    obtain⟨v,H',os,bare,un,J,r',q⟩:=h;have q':v=.bl true:=q;subst q';obtain rfl:u=df true:=r';have all:∀b o,s₁.heap.get? b=some o->G.heap.get? b=some o\/(b∈C.map (·.1)/\o=fS #[]/\∃more,G.heap.get? b=some (fS more)):=λb o e=>by
     by_cases E:b=a
     ·subst E;rcases hS with z|⟨o',z,zo⟩
      ·exact .inl (un.keep b o e (eA.trans z) (by intro z;exact bn (show b∈([]:List ao) from z) (by simp)) (by simp))
      ·have z2:=un.frzs b o' _ (eA.trans z);obtain⟨e2,_⟩:=J b _ z2;rw[ha]at e;cases e;subst zo;exact .inl e2
     ·by_cases B:b∈C.map (·.1)
      ·obtain⟨more,z2⟩:=un.tbls b #[] (eT b B);have:=(nT b B).1;rw[e]at this;exact .inr ⟨B,aE this,_,J b _ z2⟩
      ·exact .inl (un.keep b o e (eN b E B) (by intro z;exact bn (show b∈([]:List ao) from z) (by simp)) (by simp))
    refine⟨rfl,⟨λb o e=>?_,λb o e=>?_⟩,os,bare⟩
    ·rcases all b o e with z|⟨B,rfl,more,z⟩
     ·exact .inl z
     ·obtain⟨p,hp,rfl⟩:=bU.mp B;obtain⟨l,o',h,c,_,_,_,_,g⟩:=(I p hp).2.1;exact .inr (.inl ⟨((uc KX g).tab e).isCodeTable,rfl,#[],more,rfl,by rw[z];simp⟩)
    ·rcases all b o e with z|⟨_,_,more,z⟩
     ·exact⟨_,z⟩
     ·exact⟨_,z⟩
 cases hk:K.lookup a with
 |some o=>
  have e:=KX a o hk;rw[ha]at e;cases e;exact O none (.inl rfl) (λz=>bn rfl z) _ rfl (.inr ⟨_,Q.toArray,_,hk,rfl,rfl,rfl,by rw[aF,lenV];exact hl,by simpa using rv⟩)
 |none=>exact O (some (.frz { cls:=.type "list",data:=.seq Q.toArray } (.lst (ns.map V.int)))) (.inr ⟨_,rfl,rfl⟩) (λ_=>hk) _ rfl (.inl ⟨_,aG rfl⟩)
theorem OZ{l:wl}{n k:Nat}{q:Program}{v:List Str}{XP:(Str->Option ag)->bA->Prop}{YP:bE->bA->Prop}{d:DefRec}{K:Params->aj}{g:List D->M D}{x:Str}(E:List (ao×Str))
  (hn:l.most=some n) (U:n<=sizeLine) (hdf:d.params.defaults=[]) (hr:iU k k_) (hY:∀(w:bE)(h:bA),YP w h->(K w.params).In h/\∀P∈E.map (·.1),h.get? P=some (fS #[])) (Q:(E.map (·.1)).Nodup)
  (L:∀(w:bE),∀p∈E,TabOf (K w.params) p.2 p.1/\(K w.params).lookup p.1=none)
  (F:∀(w:bE)(mg:Str->Option ag)(I:ao)(h:bA),(K w.params).In h->h.Ns cC mg->mg d.name=some (.ref I)->∃fd:dG,(∀(s:am)(u:ag),rL s fd ⟨[u],[]⟩ [(x,u)])/\∀base:bA,BMod base mg->m7 l.prog w (K w.params) mg base sf k I fd [x] (n0 (K w.params) 1 g))
  (O:∀H:List Int,H.length<=n->∃J,g [.lit (H.map D.int)] (E.map λp=>.tbl p.2)=.ok (.bl true) J):xQ q v XP YP l.row.toRowW d [] (λf vs=>vQ f vs):=by
 refine Att.tK hn hdf λw s₀ s₁ mg mb I o pm cd doc a vs H G Y ho hd hcd hmg C B c hg=>?_;obtain⟨KX,KT⟩:=hY w _ Y;obtain⟨fd,hb,hF⟩:=F w mg I _ KX G.T.g hmg;obtain⟨bm,ob,b1,b2,b3,b4,b5,b6⟩:=G.T.bmain;exact W6 KX G.T.g G.T.b G.T.builtins G.T.nolimit hg ⟨bm,ob,b1,b2,b3,b4,b5,b6⟩ Q (λp hp=>⟨KT _ (oA hp),L w p hp⟩) C B (cS c U) hr hF hb (O H c)
end MM
namespace MM
open PySem
abbrev At{α:Type}(_:α->aZ->Prop):Type:=aZ
inductive wp{α:Type}(m:M α)(Q:α->aZ->Prop)(s:At Q):Prop
 |intro (a:α) (s':aZ) (h:m s=.ok a s') (q:Q a s'):wp m Q s
theorem sF{α:Type}{m:M α}{Q:α->aZ->Prop}{s:aZ}:wp m Q s=(match m s with
 | .ok a s'=>Q a s'
 |_=>False):=by
 apply propext;constructor
 ·rintro ⟨a,s',h,q⟩;rw[h];exact q
 ·intro h;cases e:m s with
  |ok a s'=>rw[e]at h;exact⟨a,s',e,h⟩
  |exc _ _=>rw[e]at h;exact h.elim
  |bad=>rw[e]at h;exact h.elim
section
variable{α β:Type}{Q:α->aZ->Prop}{s:aZ}
theorem dH{m:M α}{a:α}{c:aZ}(h:m s=.ok a c):wp m Q s=Q a c:=by rw[sF,h]
theorem tJ{m:M α}(h:m s=.bad):wp m Q s=False:=by rw[sF,h]
theorem kC{m:M β}{Q c:β->aZ->Prop}{s:aZ}(h:∀a g,Q a g=c a g):wp m Q s=wp m c s:=by rw[show Q=c from funext λa=>funext λt=>h a t]
theorem cL{a:α}:wp (ret a) Q s=Q a s:=dH rfl
theorem iJ:wp (bad:M α) Q s=False:=tJ rfl
theorem d0{m:M β}{f:β->M α}:wp (bnd m f) Q s=wp m (λa c=>wp (f a) Q c) s:=by simp only[sF];unfold bnd;cases m s<;>rfl
theorem d9{c:Prop}[Decidable c]{m:M α}:wp (chk c m) Q s=(c/\wp m Q s):=by
 unfold chk;by_cases h:c
 ·simp[h]
 ·simp[h,iJ]
theorem gS{o:MO}{Q:D->aZ->Prop}:wp (alloc o) Q s=Q (.ref s.length) (s++[o]):=dH rfl
theorem e_{n:Nat}{ds:List D}{Q:List D->aZ->Prop}(h:s[n]?=some (.lst ds)):wp (getL n) Q s=Q ds s:=by rw[sF];unfold getL;rw[h]
theorem nK{n:Nat}{ds c:List D}{Q:Unit->aZ->Prop}(h:s[n]?=some (.lst ds)):wp (putL n c) Q s=Q () (s.set n (.lst c)):=by rw[sF];unfold putL;rw[h]
theorem vE{m:M α}{g:α->aZ->Prop}(h:wp m Q s)(f:∀a c,Q a c->g a c):wp m g s:=by
 simp only[sF]at *;cases e:m s with
 |ok a c=>rw[e]at h;exact f a c h
 |exc _ _=>rw[e]at h;exact h
 |bad=>rw[e]at h;exact h
theorem F1{c:Prop}[Decidable c]{m n:M α}:wp (if c then m else n) Q s=if c then wp m Q s else wp n Q s:=by split<;>rfl
end
theorem Er{ds:List D}{i:Int}{d:D}(c:0<=i)(h:ds[i.toNat]?=some d):cG ds i=ret d:=by have g:i.toNat < ds.length:=(ac.mp h).1;unfold cG MM.my;rw[aG c,aG (by ext)];dsimp only;rw[h]
theorem wq{n:Nat}{b:CS}{ds:List D}{Q:D->aZ->Prop}{s:aZ}:wp (cm n b ds) Q s=wp (b (ds.map some++bq (n-ds.length) none)) (λf c=>wp (wS f) Q c) s:=by unfold cm;rw[d0]
theorem RQ{g:CG}{b:CS}{same:aZ->Prop}{Q:r9->aZ->Prop}(W:List D->Loc->aZ->Prop)
  (u:∀l s,W [] l s->wp (chkS same) (λ_ C=>Q (.next l) C) s)
  (o:∀d ds l s,W (d::ds) l s->wp (chkS same) (λ_ B=>wp (g d l) (λE v=>wp (b E) (λf c=>match f with
   | .next l2=>W ds l2 c
   | .cnt l2=>W ds l2 c
   | .brk l2=>Q (.next l2) c
   | .ret d=>Q (.ret d) c) v) B) s):∀ds l s,W ds l s->wp (nv g b same ds l) Q s:=by
 intro ds
 induction ds with
 |nil=>
  intro l s h;unfold nv;rw[d0];exact vE (u l s h) λ_ C q=>by rw[cL];exact q
 |cons d ds ih=>
  intro l s h;unfold nv;rw[d0];refine vE (o d ds l s h) λ_ B q=>?_;rw[d0];refine vE q λE v q=>?_;rw[d0];refine vE q λf c q=>?_;cases f with
  |next l2=>exact ih l2 c q
  |cnt l2=>exact ih l2 c q
  |brk l2=>show wp (ret _) _ _;rw[cL];exact q
  |ret d=>show wp (ret _) _ _;rw[cL];exact q
theorem GR{g:CG}{t:CT}{e:CE}{same:aZ->Prop}{Q:List D->aZ->Prop}(W:List D->List D->Loc->aZ->Prop)
  (B:∀c l s,W c [] l s->wp (chkS same) (λ_ C=>Q c C) s)
  (u:∀c d ds l s,W c (d::ds) l s->wp (chkS same) (λ_ H=>wp (g d l) (λo G=>wp (t o) (λb v=>if b=true then wp (e o) (λx E=>W (c++[x]) ds o E) v else W c ds o v) G) H) s):
  ∀ds c l s,W c ds l s->wp (collect g t e same ds l) (λxs C=>Q (c++xs) C) s:=by
 intro ds
 induction ds with
 |nil=>
  intro c l s h;unfold collect;rw[d0];exact vE (B c l s h) λ_ C q=>by rw[cL,bI];exact q
 |cons d ds ih=>
  intro c l s h;unfold collect;rw[d0];refine vE (u c d ds l s h) λ_ H q=>?_;rw[d0];refine vE q λo G q=>?_;rw[d0];refine vE q λb v q=>?_;cases b with
  |false=>exact ih c o v q
  |true=>
   show wp (bnd (e o) _) _ v;rw[d0];refine vE q λx E q=>?_;rw[d0];refine vE (ih (c++[x]) o E q) λxs I q=>?_;rw[cL];rw[bQ]at q;exact q
theorem Hi{e:CE}{xs:List D}{same:aZ->Prop}{caps:Loc}{s:aZ}{Q:List D->aZ->Prop}(W:Nat->List D->aZ->Prop)(E:∀i c s,W i c s->same s)(H:W 0 [] s)
  (g:∀(i:Nat)d c s,xs[i]?=some d->W i c s->wp (e (some d::caps)) (λx C=>W (i+1) (c++[x]) C) s) (u:∀c s,W xs.length c s->Q c s):
  wp (collect (aQ 0) bN e same xs (none::caps)) Q s:=by
 have chk:∀{s:aZ}{R:Unit->aZ->Prop},same s->R () s->wp (chkS same) R s:=λh r=>by rw[sF];unfold chkS;rw[aG h];exact r
 refine GR (Q:=Q) (λc ds l s=>∃i B,ds=xs.drop i/\i<=xs.length/\l=B::caps/\W i c s) (λc l s ⟨i,B,v,G,_,w⟩=>?_) (λc d ds l s ⟨i,B,v,G,el,w⟩=>?_) xs [] _ s ⟨0,none,by simp,bx _,rfl,H⟩
 ·have : i = xs.length := by have:=cR eM v;simp at this;ext
  subst this;exact chk (E _ _ _ w) (u c s w)
 ·subst el;have o:i < xs.length:=by have:=cR eM v;simp at this;ext
  rw[dJ o]at v;obtain⟨J,I⟩:=lD v;refine chk (E _ _ _ w) ?_
  show wp (ret _) _ s;rw[cL]
  show wp (ret true) _ s;rw[cL]
  show wp (e (some d::caps)) _ s;exact vE (g i d c s (by rw[J];exact ai o) w) λx C q=>⟨i+1,some d,I,o,rfl,q⟩
theorem UY{n i:Nat}(h:i < n):(kN 0 n)[i]?=some (.int i):=by unfold kN;rw[ar,ip h];simp
theorem iB{n:Nat}(h:n<=1000):n<=fu:=cS h (by decide)
theorem qM{n:Nat}(h:n<=1000):n < fu:=xl h (by decide)
theorem NI{g:CG}{b:CS}{same:aZ->Prop}{xs:List D}{l:Loc}{s:aZ}{Q:r9->aZ->Prop}(W:Nat->Loc->aZ->Prop)(G:∀i l s,W i l s->same s)(J:W 0 l s)
  (o:∀(i:Nat)d l s,xs[i]?=some d->W i l s->wp (g d l) (λE C=>wp (b E) (λf u=>match f with
   | .next l2=>W (i+1) l2 u
   | .cnt l2=>W (i+1) l2 u
   | .brk l2=>Q (.next l2) u
   | .ret d=>Q (.ret d) u) C) s) (v:∀l s,W xs.length l s->Q (.next l) s):wp (nv g b same xs l) Q s:=by
 have chk:∀{s:aZ}{R:Unit->aZ->Prop},same s->R () s->wp (chkS same) R s:=λh r=>by rw[sF];unfold chkS;rw[aG h];exact r
 refine RQ (λds l s=>∃i,ds=xs.drop i/\i<=xs.length/\W i l s) (λl s ⟨i,B,I,w⟩=>?_) (λd ds l s ⟨i,B,I,w⟩=>?_) xs l s ⟨0,by simp,bx _,J⟩
 ·have : i = xs.length := by have:=cR eM B;simp at this;ext
  subst this;exact chk (G _ _ _ w) (v l s w)
 ·have c : i < xs.length := by have:=cR eM B;simp at this;ext
  rw[dJ c]at B;obtain⟨L,H⟩:=lD B;refine chk (G _ _ _ w) ?_;refine vE (o i d l s (by rw[L];exact ai c) w) λE C q=>vE q λf u q=>?_;cases f with
  |next l2=>exact⟨i+1,H,c,q⟩
  |cnt l2=>exact⟨i+1,H,c,q⟩
  |brk l2=>exact q
  |ret d=>exact q
end MM
local macro_rules|`(tactic| bv_omega)=>`(tactic| first|rfl|exact MM.dH rfl|exact MM.tJ rfl)
local macro_rules|`(tactic| ac_rfl)=>`(tactic| first|rfl|simp only[MM.cL,MM.gS,MM.iJ]|(refine MM.kC λ_ _=>?_;simp only[MM.cL,MM.gS,MM.iJ]))
namespace MM
open PySem
theorem nr{α:Sort u}{a b:α}(h:a=b):a=b:=h
section
variable{Q:D->aZ->Prop}{R:r9->aZ->Prop}{T:Bool->aZ->Prop}{A:List D->aZ->Prop}{G:Loc->aZ->Prop}{I:Wk->aZ->Prop}{s:aZ}{l:Loc}
theorem qE{a b:CS}: wp (aO a b l) R s=wp (a l) (λf c=>match f with
  | .next l'=>wp (b l') R c
  | .ret d=>R (.ret d) c
  | .brk l'=>R (.brk l') c
  | .cnt l'=>R (.cnt l') c) s:=by
 unfold aO;rw[d0];congr 1;funext f c;cases f<;>first|bv_omega
theorem Bi:wp (aW l) R s=R (.next l) s:=dH rfl
theorem wF{g:CG}{a:CE}:wp (cf g a l) R s=wp (a l) (λd h=>wp (g d l) (λo c=>R (.next o) c) h) s:=by unfold cf;rw[d0];congr 1;funext d h;rw[d0];ac_rfl
theorem DM{a:CE}:wp (eV a l) R s=wp (a l) (λd c=>R (.ret d) c) s:=by unfold eV;rw[d0];ac_rfl
theorem EV{a:CE}:wp (iA a l) R s=wp (a l) (λd c=>R (.next l) c) s:=by unfold iA;rw[d0];ac_rfl
theorem Dk{t:CT}{a b:CS}:wp (np t a b l) R s=wp (t l) (λc g=>if c=true then wp (a l) R g else wp (b l) R g) s:=by unfold np;rw[d0];congr 1;funext c g;rw[F1]
theorem zp{a:CE}: wp (di a l) T s=wp (a l) (λx c=>match x with
  | .bl b=>T b c
  |_=>False) s:=by
 unfold di;rw[d0];congr 1;funext x c;cases x<;>first|bv_omega
theorem EX{a:CE}:wp (pd a l) T s=wp (a l) (λx c=>wp (yF x) T c) s:=by unfold pd;rw[d0]
theorem Eu{a:CT}:wp (nM a l) T s=wp (a l) (λx c=>T (!x) c) s:=by unfold nM;rw[d0];ac_rfl
theorem E6{a b:CT}:wp (oK a b l) T s=wp (a l) (λc g=>if c=true then wp (b l) T g else T false g) s:=by unfold oK;rw[d0];congr 1;funext c g;rw[F1];ac_rfl
theorem IU{a b:CT}:wp (rm a b l) T s=wp (a l) (λc g=>if c=true then T true g else wp (b l) T g) s:=by unfold rm;rw[d0];congr 1;funext c g;rw[F1];ac_rfl
theorem gq{i:Nat}{d:D}:wp (aQ i d l) G s=G (l.set i (some d)) s:=dH rfl
theorem Gr{d:D}{b:Option D}{r:Loc}{Q:Loc->aZ->Prop}:wp (aQ 0 d (b::r)) Q s=Q (some d::r) s:=gq
theorem Gj{c:Option D}{d:D}{b:Option D}{r:Loc}{Q:Loc->aZ->Prop}:wp (aQ 1 d (c::b::r)) Q s=Q (c::some d::r) s:=gq
theorem GQ{g c:Option D}{d:D}{b:Option D}{r:Loc}{Q:Loc->aZ->Prop}:wp (aQ 2 d (g::c::b::r)) Q s=Q (g::c::some d::r) s:=gq
theorem Hn{h g c:Option D}{d:D}{b:Option D}{r:Loc}{Q:Loc->aZ->Prop}:wp (aQ 3 d (h::g::c::b::r)) Q s=Q (h::g::c::some d::r) s:=gq
theorem Ad{o h g c:Option D}{d:D}{b:Option D}{r:Loc}{Q:Loc->aZ->Prop}:wp (aQ 4 d (o::h::g::c::b::r)) Q s=Q (o::h::g::c::some d::r) s:=gq
theorem Ef{q o h g c:Option D}{d:D}{b:Option D}{r:Loc}{Q:Loc->aZ->Prop}:wp (aQ 5 d (q::o::h::g::c::b::r)) Q s=Q (q::o::h::g::c::some d::r) s:=gq
theorem EF{u q o h g c:Option D}{d:D}{b:Option D}{r:Loc}{Q:Loc->aZ->Prop}:wp (aQ 6 d (u::q::o::h::g::c::b::r)) Q s=Q (u::q::o::h::g::c::some d::r) s:=gq
theorem Jo{v u q o h g c:Option D}{d:D}{b:Option D}{r:Loc}{Q:Loc->aZ->Prop}:wp (aQ 7 d (v::u::q::o::h::g::c::b::r)) Q s=Q (v::u::q::o::h::g::c::some d::r) s:=gq
theorem JK{B v u q o h g c:Option D}{d:D}{b:Option D}{r:Loc}{Q:Loc->aZ->Prop}:wp (aQ 8 d (B::v::u::q::o::h::g::c::b::r)) Q s=Q (B::v::u::q::o::h::g::c::some d::r) s:=gq
theorem DO{C B v u q o h g c:Option D}{d:D}{b:Option D}{r:Loc}{Q:Loc->aZ->Prop}:wp (aQ 9 d (C::B::v::u::q::o::h::g::c::b::r)) Q s=Q (C::B::v::u::q::o::h::g::c::some d::r) s:=gq
theorem Dn{E C B v u q o h g c:Option D}{d:D}{b:Option D}{r:Loc}{Q:Loc->aZ->Prop}:wp (aQ 10 d (E::C::B::v::u::q::o::h::g::c::b::r)) Q s=Q (E::C::B::v::u::q::o::h::g::c::some d::r) s:=gq
theorem EB{H E C B v u q o h g c:Option D}{d:D}{b:Option D}{r:Loc}{Q:Loc->aZ->Prop}:wp (aQ 11 d (H::E::C::B::v::u::q::o::h::g::c::b::r)) Q s=Q (H::E::C::B::v::u::q::o::h::g::c::some d::r) s:=gq
theorem D5{J H E C B v u q o h g c:Option D}{d:D}{b:Option D}{r:Loc}{Q:Loc->aZ->Prop}:wp (aQ 12 d (J::H::E::C::B::v::u::q::o::h::g::c::b::r)) Q s=Q (J::H::E::C::B::v::u::q::o::h::g::c::some d::r) s:=gq
theorem AJ{o i:CE}{d:D}:wp (g_ o i d l) G s=wp (o l) (λy g=>wp (i l) (λz c=>wp (iI y z d) (λ_ h=>G l h) c) g) s:=by unfold g_;rw[d0];congr 1;funext y g;rw[d0];congr 1;funext z c;rw[d0];ac_rfl
theorem kS{i:Nat}: wp (aq i l) Q s=match l[i]? with
  |some (some d)=>Q d s
  |_=>False:=by
 unfold aq;rcases l[i]? with _|_|d<;>first|bv_omega
theorem ET{d:D}{r:Loc}:wp (aq 0 (some d::r)) Q s=Q d s:=kS
theorem C8{c:Option D}{d:D}{r:Loc}:wp (aq 1 (c::some d::r)) Q s=Q d s:=kS
theorem Hb{g c:Option D}{d:D}{r:Loc}:wp (aq 2 (g::c::some d::r)) Q s=Q d s:=kS
theorem GO{h g c:Option D}{d:D}{r:Loc}:wp (aq 3 (h::g::c::some d::r)) Q s=Q d s:=kS
theorem Jx{o h g c:Option D}{d:D}{r:Loc}:wp (aq 4 (o::h::g::c::some d::r)) Q s=Q d s:=kS
theorem Fb{q o h g c:Option D}{d:D}{r:Loc}:wp (aq 5 (q::o::h::g::c::some d::r)) Q s=Q d s:=kS
theorem Jh{u q o h g c:Option D}{d:D}{r:Loc}:wp (aq 6 (u::q::o::h::g::c::some d::r)) Q s=Q d s:=kS
theorem IF{v u q o h g c:Option D}{d:D}{r:Loc}:wp (aq 7 (v::u::q::o::h::g::c::some d::r)) Q s=Q d s:=kS
theorem Gh{B v u q o h g c:Option D}{d:D}{r:Loc}:wp (aq 8 (B::v::u::q::o::h::g::c::some d::r)) Q s=Q d s:=kS
theorem Ic{C B v u q o h g c:Option D}{d:D}{r:Loc}:wp (aq 9 (C::B::v::u::q::o::h::g::c::some d::r)) Q s=Q d s:=kS
theorem Dw{H E C B v u q o h g c:Option D}{d:D}{r:Loc}:wp (aq 11 (H::E::C::B::v::u::q::o::h::g::c::some d::r)) Q s=Q d s:=kS
theorem Du{J H E C B v u q o h g c:Option D}{d:D}{r:Loc}:wp (aq 12 (J::H::E::C::B::v::u::q::o::h::g::c::some d::r)) Q s=Q d s:=kS
theorem zH{d:D}:wp (aM d l) Q s=Q d s:=dH rfl
theorem Js{g:D->M D}{a:CE}:wp (c1 g a l) Q s=wp (a l) (λx c=>wp (g x) Q c) s:=by unfold c1;rw[d0]
theorem EC{g:D->D->M D}{a b:CE}:wp (c2 g a b l) Q s=wp (a l) (λx h=>wp (b l) (λy c=>wp (g x y) Q c) h) s:=by unfold c2;rw[d0];congr 1;funext x h;rw[d0]
theorem wA{g:List D->M D}{a:CA}:wp (bW g a l) Q s=wp (a l) (λx c=>wp (g x) Q c) s:=by unfold bW;rw[d0]
theorem zI:wp (bh l) A s=A [] s:=dH rfl
theorem wB{a:CE}{r:CA}:wp (aw a r l) A s=wp (a l) (λx g=>wp (r l) (λxs c=>A (x::xs) c) g) s:=by unfold aw;rw[d0];congr 1;funext x g;rw[d0];ac_rfl
theorem Ee{a:CA}:wp (dU a l) Q s=wp (a l) (λxs c=>xs.length<=fu/\Q (.tup xs) c) s:=by unfold dU;rw[d0];congr 1;funext x c;rw[d9];ac_rfl
theorem Ak{a:CA}:wp (gg a l) A s=wp (a l) (λxs c=>xs.length<=fu/\A xs c) s:=by unfold gg;rw[d0];congr 1;funext x c;rw[d9];ac_rfl
theorem Bw{a:CA}:wp (eK a l) Q s=wp (a l) (λxs c=>Q (.ref c.length) (c++[.lst xs])) s:=by unfold eK;rw[d0];ac_rfl
theorem DB{g:List D->M D}{a:CA}:wp (ir g a l) Q s=wp (a l) (λx c=>wp (g x) Q c) s:=by unfold ir;rw[d0]
theorem AM{n:Nat}{caps:List Nat}{i:CI}{g:CG}{t:CT}{e:CE}:wp (dL n caps i g t e l) A s=wp (i l) (λw c=>w.ds.length<=fu/\wp (collect g t e w.same w.ds (ib n caps l)) A c) s:=by unfold dL;rw[d0];congr 1;funext x c;rw[d9]
theorem DG{i:CI}{g:CG}{b:CS}:wp (kI i g b l) R s=wp (i l) (λw c=>wp (nv g b w.same w.ds l) R c) s:=by unfold kI;rw[d0]
theorem Ed{a:CE}: wp (MM.f_ a l) I s=wp (a l) (λx c=>match x with
  | .int j=>(-(2^62)<=j/\j < 2^62)/\I ⟨kN 0 j.toNat,dP⟩ c
  |_=>False) s:=by
 unfold MM.f_;rw[d0];congr 1;funext x c;cases x<;>first|bv_omega|(dsimp only;rw[d9];ac_rfl)
theorem Bt{a:CE}: wp (iN a l) I s=wp (a l) (λx c=>match x with
  | .tup ds=>I ⟨ds,dP⟩ c
  | .lit ds=>I ⟨ds,dP⟩ c
  | .ref n=>wp (getL n) (λds g=>I ⟨ds,i5 n ds⟩ g) c
  |_=>False) s:=by
 unfold iN;rw[d0];congr 1;funext x c;cases x<;>first|bv_omega|(dsimp only;rw[d0];ac_rfl)
theorem zE{i j:Int}:wp (fw (.int i) (.int j)) Q s=Q (.int (i+j)) s:=dH rfl
theorem D3{i j:Int}:wp (sC (.int i) (.int j)) Q s=Q (.int (i-j)) s:=dH rfl
theorem C5{i j:Int}:wp (rD (.int i) (.int j)) Q s=(pF i j/\Q (.int (i*j)) s):=by unfold rD;rw[d9];ac_rfl
theorem Dc{i j:Int}:wp (r6 (.int i) (.int j)) Q s=((0 < j/\j < 1073741824)/\Q (.int (i / j)) s):=by unfold r6;rw[d9];ac_rfl
theorem EJ{i j:Int}:wp (oT (.int i) (.int j)) Q s=(0 < j/\Q (.int (i % j)) s):=by unfold oT;rw[d9];ac_rfl
theorem I0{i j:Int}:wp (yD (.int i) (.int j)) Q s=Q (.bl (decide (i < j))) s:=dH rfl
theorem HA{i j:Int}:wp (xD (.int i) (.int j)) Q s=Q (.bl (decide (j < i))) s:=dH rfl
theorem JA{i j:Int}:wp (FT (.int i) (.int j)) Q s=Q (.bl (decide (j<=i))) s:=dH rfl
theorem G0{i j:Int}:wp (o8 (.int i) (.int j)) Q s=Q (.bl (i == j)) s:=dH rfl
theorem Jk{i j:Int}:wp (DX (.int i) (.int j)) Q s=Q (.bl !(i == j)) s:=dH rfl
theorem qd{ds:List D}{i:Int}:wp (aU (.tup ds) (.int i)) Q s=wp (cG ds i) Q s:=nr rfl
theorem yK{n:Nat}{i:Int}:wp (aU (.ref n) (.int i)) Q s=wp (getL n) (λds c=>wp (cG ds i) Q c) s:=by unfold aU;rw[d0]
theorem wu{ds:List D}:wp (fX (.tup ds)) Q s=Q (.int ds.length) s:=dH rfl
theorem Bq{n:Nat}:wp (fX (.ref n)) Q s=wp (getL n) (λds c=>Q (.int ds.length) c) s:=by unfold fX;rw[d0];ac_rfl
theorem AS{b:Bool}:wp (intD (.bl b)) Q s=Q (.int (if b then 1 else 0)) s:=dH rfl
theorem qC{n:Nat}{i:Int}{v:D}{U:Unit->aZ->Prop}: wp (iI (.ref n) (.int i) v) U s=wp (getL n) (λds c=>wp (match MM.my ds.length i with
  |some j=>putL n (ds.set j v)
  |none=>bad) U c) s:=by
 unfold iI;rw[d0]<;>congr 1
theorem AI{d:D}:wp (wS (.ret d)) Q s=Q d s:=dH rfl
theorem ym:wp (wS (.next l)) Q s=Q .non s:=dH rfl
end
theorem yo{a:CE}{lo o:CO}{A:List D->aZ->Prop}{s:aZ}{l:Loc}: wp (qL a lo o l) A s=wp (a l) (λx h=>wp (lo l) (λi g=>wp (o l) (λj c=>match x with
  | .lit ds=>A (cutD ds i j) c
  | .ref n=>wp (getL n) (λds q=>A (cutD ds i j) q) c
  |_=>False) g) h) s:=by
 unfold qL;rw[d0];congr 1;funext x h;rw[d0];congr 1;funext i g;rw[d0];congr 1;funext j c;cases x<;>first|bv_omega|(dsimp only;rw[d0];ac_rfl)
theorem Bo{A:Option Int->aZ->Prop}{s:aZ}{l:Loc}:wp (tW l) A s=A none s:=dH rfl
theorem Bm{a:CE}{A:Option Int->aZ->Prop}{s:aZ}{l:Loc}: wp (pJ a l) A s=wp (a l) (λx c=>match x with
  | .int i=>A (some i) c
  |_=>False) s:=by
 unfold pJ;rw[d0];congr 1;funext x c;cases x<;>first|bv_omega
theorem Au{a:CE}{I:Wk->aZ->Prop}{s:aZ}{l:Loc}: wp (tN a l) I s=wp (a l) (λx c=>match x with
  | .tup ds=>I ⟨(kN 0 ds.length).zipWith (λi d=>.tup [i,d]) ds,dP⟩ c
  |_=>False) s:=by
 unfold tN;rw[d0];congr 1;funext x c;cases x<;>first|bv_omega
theorem uh{n:Nat}{r:List D->Loc->M Loc}{ds:List D}{G:Loc->aZ->Prop}{s:aZ}{l:Loc}:wp (gQ n r (.tup ds) l) G s=(ds.length=n/\wp (r ds l) G s):=by unfold gQ;rw[d9]
theorem oI{g:CG}{r:List D->Loc->M Loc}{d:D}{ds:List D}{G:Loc->aZ->Prop}{s:aZ}{l:Loc}:wp (cJ g r (d::ds) l) G s=wp (g d l) (λh c=>wp (r ds h) G c) s:=by unfold cJ;rw[d0]
theorem uo{G:Loc->aZ->Prop}{s:aZ}{l:Loc}:wp (hU [] l) G s=G l s:=dH rfl
def eX(s c:aZ):Prop:=∃t,c=s++t
theorem eX.refl(s:aZ):eX s s:=⟨[],by simp⟩
theorem eX.snoc{s c:aZ}(h:eX s c)(o:MO):eX s (c++[o]):=by obtain⟨t,e⟩:=h;exact⟨t++[o],by rw[e];simp⟩
theorem eX.trans{s g c:aZ}(h:eX s g)(k:eX g c):eX s c:=by obtain⟨t,e⟩:=h;obtain⟨u,f⟩:=k;exact⟨t++u,by rw[f,e];simp⟩
theorem eX.at_{s c:aZ}{n:Nat}{o:MO}(h:eX s c)(k:s[n]?=some o):c[n]?=some o:=by obtain⟨t,e⟩:=h;rw[e,ax (ac.mp k).1];exact k
theorem VZ{α:Type}(f:α->Int)(xs:List α):mZ (xs.map λx=>.int (f x))=some (xs.map f):=by
 induction xs with
 |nil=>rfl
 |cons x xs ih=>simp only[aK,mZ,ih];ac_rfl
theorem Lq{α:Type}{m:M α}{v:α}{s:aZ}{Q:α->aZ->Prop}(h:wp m (λa c=>a=v/\c=s) s):wp m Q s=Q v s:=by
 simp only[sF]at *;cases e:m s with
 |ok a c=>rw[e]at h;obtain⟨l,g⟩:=h;subst l;subst g;ac_rfl
 |exc _ _=>rw[e]at h;exact h.elim
 |bad=>rw[e]at h;exact h.elim
theorem Wi{a b:Nat}{x y:List D}{Q:D->aZ->Prop}{s:aZ}(g:s[a]?=some (.lst x))(c:s[b]?=some (.lst y)):wp (fw (.ref a) (.ref b)) Q s=(x.length+y.length<=fu/\Q (.ref s.length) (s++[.lst (x++y)])):=by unfold fw;rw[d0,e_ g,d0,e_ c,d9];ac_rfl
def yl(x:D)(p q:Prop):Prop:=match x with
 | .bl true=>p
 | .bl false=>q
 |_=>False
theorem ui{p q:Prop}:yl (.bl true) p q=p:=nr rfl
theorem ue{p q:Prop}:yl (.bl false) p q=q:=nr rfl
section
variable{Q:D->aZ->Prop}{T:Bool->aZ->Prop}{R:r9->aZ->Prop}{s:aZ}{l:Loc}
theorem Bk{a b:CE}:wp (sI a b l) Q s=wp (a l) (λx c=>yl x (wp (b l) Q c) (Q (.bl false) c)) s:=by unfold sI;rw[d0];congr 1;funext x c;rcases x with _|b|_|_|_|_|_|_<;>first|bv_omega|(cases b<;>first|bv_omega)
theorem DY{a b:CE}:wp (BU a b l) Q s=wp (a l) (λx c=>yl x (Q (.bl true) c) (wp (b l) Q c)) s:=by unfold BU;rw[d0];congr 1;funext x c;rcases x with _|b|_|_|_|_|_|_<;>first|bv_omega|(cases b<;>first|bv_omega)
theorem AH{a:CE}: wp (wo a l) Q s=wp (a l) (λx c=>match x with
  | .bl b=>Q (.bl !b) c
  |_=>False) s:=by
 unfold wo;rw[d0];congr 1;funext x c;cases x<;>first|bv_omega
theorem ES{t:CT}{a b:CE}:wp (wt t a b l) Q s=wp (t l) (λc g=>if c=true then wp (a l) Q g else wp (b l) Q g) s:=by unfold wt;rw[d0];congr 1;funext c g;rw[F1]
theorem zS{b:Bool}:wp (yF (.bl b)) T s=T b s:=dH rfl
theorem zV{ds:List D}:wp (kH ds) Q s=Q (.tup ds) s:=dH rfl
theorem sG{d:D}{ds:List D}:wp (cG (d::ds) 0) Q s=Q d s:=by rw[Er (d:=d) (by ext) rfl,cL]
theorem sE{d e:D}{ds:List D}:wp (cG (d::e::ds) 1) Q s=Q e s:=by rw[Er (d:=e) (by ext) rfl,cL]
theorem xT{d e f:D}{ds:List D}:wp (cG (d::e::f::ds) 2) Q s=Q f s:=by rw[Er (d:=f) (by ext) rfl,cL]
theorem x_{d e f g:D}{ds:List D}:wp (cG (d::e::f::g::ds) 3) Q s=Q g s:=by rw[Er (d:=g) (by ext) rfl,cL]
theorem qY{ds:List D}{i:Nat}{d:D}(h:ds[i]?=some d):wp (cG ds i) Q s=Q d s:=by rw[Er (d:=d) (by ext) (by simpa using h),cL]
theorem Ab{a:CA}{I:Wk->aZ->Prop}:wp (wz a l) I s=wp (a l) (λds c=>I ⟨ds,dP⟩ c) s:=by unfold wz;rw[d0];ac_rfl
end
noncomputable def bP(p:Prop):Bool:=@decide p (rb p)
theorem J_{p:Prop}:bP p=true↔p:=by unfold bP;exact @decide_eq_true_iff p (rb p)
theorem J3{p:Prop}(h:p):bP p=true:=J_.mpr h
theorem ID{p:Prop}(h:¬p):bP p=false:=by
 cases e:bP p with
 |false=>rfl
 |true=>exact (h (J_.mp e)).elim
theorem Wb{b:Bool}{p:Prop}(h:b=true↔p):b=bP p:=by
 cases b with
 |true=>exact (J3 (h.mp rfl)).symm
 |false=>exact (ID λk=>by cases h.mpr k).symm
noncomputable def br{α:Type}(n:Nat)(f:Nat->α):List α:=(cg n).map f
theorem wQ{α:Type}{n i:Nat}{f:Nat->α}(h:i < n):(br n f)[i]?=some (f i):=by unfold br;rw[ar,ip h];ac_rfl
theorem BZ{α:Type}{n i:Nat}{f:Nat->α}{x:α}(h:(br n f)[i]?=some x):i < n/\x=f i:=by
 have c:i < n:=by have:=(ac.mp h).1;simpa [br] using this
 rw[wQ c]at h;cases h;exact⟨c,rfl⟩
theorem m6{α:Type}{n:Nat}{f:Nat->α}:(br n f).length=n:=by simp[br]
theorem JY{α:Type}{n:Nat}{f:Nat->α}:br (n+1) f=br n f++[f n]:=by unfold br;rw[gJ,bc];ac_rfl
theorem FZ{α:Type}{n:Nat}{xs:List α}{f:Nat->α}(g:xs.length=n)(h:∀i,i < n->xs[i]?=some (f i)):xs=br n f:=by
 apply fL;intro i;by_cases c:i < n
 ·rw[h i c,wQ c]
 ·rw[dh (by ext),dh (by rw[m6];ext)]
theorem yU{α:Type}{n:Nat}{f g:Nat->α}(h:∀i,i < n->f i=g i):br n f=br n g:=
 FZ m6 λi c=>by rw[wQ c,h i c]
theorem FU{α β:Type}{n:Nat}{f:Nat->α}{g:α->β}:(br n f).map g=br n λi=>g (f i):=by unfold br;rw[dD];ac_rfl
theorem uu{n:Nat}:kN 0 n=br n λi=>.int i:=by unfold kN br;congr 1;funext k;simp
theorem RK{n:Nat}{f:Nat->Bool}:mB (br n λi=>.bl (f i))=some (br n f):=by
 have:∀(xs:List Nat),mB (xs.map λi=>.bl (f i))=some (xs.map f):=by
  intro xs
  induction xs with
  |nil=>rfl
  |cons x xs ih=>simp only[aK,mB,ih];ac_rfl
 exact this _
theorem Oy{n:Nat}{p:Nat->Prop}{Q:D->aZ->Prop}{s:aZ}:wp (vD (br n λi=>.bl (bP (p i)))) Q s=Q (.bl (bP (∀i,i < n->p i))) s:=by unfold vD;rw[RK];have:(br n λi=>bP (p i)).all id=bP (∀i,i < n->p i):=Wb (by simp[br,Co,J_]);dsimp only;rw[this,cL]
theorem KL{g:CG}{e:CE}{same:aZ->Prop}{ds:List D}{E:Loc}{f:Nat->D}{Q:List D->aZ->Prop}{s:aZ}(I:Loc->Prop)(O:same s)(h0:I E)
  (h:∀i d l,ds[i]?=some d->I l->∃u,(∀G,wp (g d l) G s=G u s)/\I u/\∀Q,wp (e u) Q s=Q (f i) s):
  wp (collect g bN e same ds E) Q s=Q (br ds.length f) s:=by
 have chk:∀{R:Unit->aZ->Prop},R () s->wp (chkS same) R s:=λr=>by rw[sF];unfold chkS;rw[aG O];exact r
 apply Lq;refine GR (Q:=λc o=>c=br ds.length f/\o=s) (λc xs l o=>∃i,xs=ds.drop i/\i<=ds.length/\I l/\c=br i f/\o=s) (λc l o ⟨i,v,U,_,C,B⟩=>?_) (λc d xs l o ⟨i,v,U,Y,C,B⟩=>?_) ds [] _ s ⟨0,by simp,bx _,h0,rfl,rfl⟩
 ·have : i = ds.length := by have:=cR eM v;simp at this;ext
  subst this;subst B;exact chk ⟨C,rfl⟩
 ·have q : i < ds.length := by have:=cR eM v;simp at this;ext
  rw[dJ q]at v;obtain⟨g,c⟩:=lD v;obtain⟨u,L,J,H⟩:=h i d l (by rw[g];exact ai q) Y;subst B;refine chk ?_;rw[L]
  show wp (ret true) _ o;rw[cL]
  show wp (e u) _ o;rw[H];exact⟨i+1,c,q,J,by rw[C,JY],rfl⟩
theorem Ba{e:CE}{same:aZ->Prop}{ds:List D}{caps:Loc}{f:Nat->D}{Q:List D->aZ->Prop}{s:aZ}(g:same s)(h:∀i d,ds[i]?=some d->∀Q,wp (e (some d::caps)) Q s=Q (f i) s):
  wp (collect (aQ 0) bN e same ds (none::caps)) Q s=Q (br ds.length f) s:=
 KL (λl=>∃x,l=x::caps) g ⟨none,rfl⟩ λi d l hd c=>by obtain⟨x,el⟩:=c;exact⟨some d::caps,λG=>by rw[el,gq];rfl,⟨_,rfl⟩,h i d hd⟩
theorem Do{e:CE}{same:aZ->Prop}{ds:List D}{caps:Loc}{f:Nat->D}{Q:List D->aZ->Prop}{s:aZ}(g:same s)(h:∀i d,ds[i]?=some d->∃a b,d=.tup [a,b]/\∀Q,wp (e (some a::some b::caps)) Q s=Q (f i) s):
  wp (collect (gQ 2 (cJ (aQ 0) (cJ (aQ 1) hU))) bN e same ds (none::none::caps)) Q s=Q (br ds.length f) s:=
 KL (λl=>∃x y,l=x::y::caps) g ⟨none,none,rfl⟩ λi d l hd c=>by obtain⟨x,y,el⟩:=c;obtain⟨a,b,o,q⟩:=h i d hd;refine⟨some a::some b::caps,λG=>?_,⟨_,_,rfl⟩,q⟩;rw[o,el,uh,oI,gq,oI,gq,uo];exact propext ⟨λh=>h.2,λh=>⟨rfl,h⟩⟩
section
variable{n:Nat}{f:Nat->D}{Q:D->aZ->Prop}{s:aZ}
theorem xW{i:Nat}(h:i < n):wp (cG (br n f) (i:Int)) Q s=Q (f i) s:=qY (wQ h)
theorem UP(h:0 < n):wp (cG (br n f) 0) Q s=Q (f 0) s:=by have:=@qY Q s (br n f) 0 (f 0) (wQ h);simpa using this
end
theorem t9{s:aZ}:dP s:=trivial
theorem NQ{g:CG}{b:CS}{same:aZ->Prop}{n:Nat}{f:Nat->D}{l:Loc}{s:aZ}{Q:r9->aZ->Prop}(W:Nat->Loc->aZ->Prop)(v:∀i l s,W i l s->same s)(C:W 0 l s)
  (c:∀(i:Nat)l s,i < n->W i l s->wp (g (f i) l) (λu q=>wp (b u) (λf o=>match f with
   | .next l2=>W (i+1) l2 o
   | .cnt l2=>W (i+1) l2 o
   | .brk l2=>Q (.next l2) o
   | .ret d=>Q (.ret d) o) q) s) (h:∀l s,W n l s->Q (.next l) s):wp (nv g b same (br n f) l) Q s:=
 NI W v C (λi d l s hd w=>by obtain⟨B,e⟩:=BZ hd;subst e;exact c i l s B w) (λl s w=>h l s (by rw[m6]at w;exact w))
theorem OX{e:CE}{n:Nat}{f:Nat->D}{same:aZ->Prop}{caps:Loc}{s:aZ}{Q:List D->aZ->Prop}(W:Nat->List D->aZ->Prop)(o:∀i c s,W i c s->same s)(u:W 0 [] s)
  (g:∀(i:Nat)c s,i < n->W i c s->wp (e (some (f i)::caps)) (λx l=>W (i+1) (c++[x]) l) s) (h:∀c s,W n c s->Q c s):
  wp (collect (aQ 0) bN e same (br n f) (none::caps)) Q s:=
 Hi W o u (λi d c s hd w=>by obtain⟨q,e⟩:=BZ hd;subst e;exact g i c s q w) (λc s w=>h c s (by rw[m6]at w;exact w))
theorem wI{e:CE}{same:aZ->Prop}{n:Nat}{g:Nat->D}{caps:Loc}{f:Nat->D}{Q:List D->aZ->Prop}{s:aZ}(c:same s)(h:∀i,i < n->∀Q,wp (e (some (g i)::caps)) Q s=Q (f i) s):
  wp (collect (aQ 0) bN e same (br n g) (none::caps)) Q s=Q (br n f) s:=by
 rw[Ba (f:=f) c (λi d hd=>by obtain⟨l,e⟩:=BZ hd;subst e;exact h i l),m6]
theorem P8{n:Nat}{f:Nat->D}:(kN 0 n).zipWith (λi d=>D.tup [i,d]) (br n f)=br n λi=>.tup [.int i,f i]:=by
 apply FZ
 ·simp[kN,br]
 ·intro i c;rw[fC,UY c,wQ c]
section
variable{Q:D->aZ->Prop}{T:Bool->aZ->Prop}{R:r9->aZ->Prop}{A:List D->aZ->Prop}{s:aZ}{l:Loc}
theorem wC{a b:CE}: wp (dO a b l) Q s=wp (a l) (λx h=>match x with
  | .ref n=>wp (b l) (λv g=>wp (getL n) (λds c=>ds.length < fu/\wp (putL n (ds++[v])) (λ_ o=>Q .non o) c) g) h
  |_=>False) s:=by
 unfold dO;rw[d0];congr 1;funext x h;cases x<;>first|bv_omega|(dsimp only;rw[d0];congr 1;funext v g;unfold uX;rw[d0];congr 1;funext ds c;rw[d9,d0];first|ac_rfl|(refine cR _ ?_;refine kC λ_ _=>?_;simp only[cL,gS,iJ]))
theorem Dq{a:CE}: wp (ut a l) Q s=wp (a l) (λx g=>match x with
  | .ref n=>wp (getL n) (λds c=>match ds.getLast? with
   |some d=>wp (putL n ds.dropLast) (λ_ h=>Q d h) c
   |none=>False) g
  |_=>False) s:=by
 unfold ut;rw[d0];congr 1;funext x g;cases x<;>first|bv_omega|(dsimp only;rw[d0];congr 1;funext ds c;cases ds.getLast?<;>first|bv_omega|(dsimp only;rw[d0];first|ac_rfl|(refine cR _ ?_;refine kC λ_ _=>?_;simp only[cL,gS,iJ])))
theorem Am{a:CE}: wp (tE a l) A s=wp (a l) (λx c=>match x with
  | .ref n=>wp (getL n) (λds g=>A ds.reverse g) c
  |_=>False) s:=by
 unfold tE;rw[d0];congr 1;funext x c;cases x<;>first|bv_omega|(dsimp only;rw[d0];first|ac_rfl|(refine cR _ ?_;refine kC λ_ _=>?_;simp only[cL,gS,iJ]))
theorem yM{ds:List D}:wp (tU (.tup ds)) Q s=Q (.ref s.length) (s++[.lst ds]):=dH rfl
theorem wK{n:Nat}:wp (tupleD (.ref n)) Q s=wp (getL n) (λds c=>Q (.tup ds) c) s:=by unfold tupleD;rw[d0];(try dsimp only);(try rw[d0]);refine kC λ_ _=>?_;simp only[cL,gS,iJ]
theorem yt{a b:Str}:wp (o8 (.str a) (.str b)) Q s=Q (.bl (a == b)) s:=dH rfl
theorem Aa{i:Int}:wp (iM ["int"] (.int i)) Q s=Q (.bl true) s:=dH rfl
theorem Ar{i:Int}:wp (iM ["bool"] (.int i)) Q s=Q (.bl false) s:=dH rfl
theorem EK{i:Int}:wp (rC (.int i)) Q s=Q (.int (-i)) s:=dH rfl
theorem Aq{i j:Int}:wp (uZ (.int i) (.int j)) Q s=Q (.int (min i j)) s:=dH rfl
theorem AO{a b:CE}{I:Wk->aZ->Prop}: wp (MM.mY a b l) I s=wp (a l) (λx g=>wp (b l) (λy c=>match x,y with
  | .int i,.int j=>((-(2^62)<=i/\i < 2^62)/\(-(2^62)<=j/\j < 2^62))/\I ⟨kN i (j-i).toNat,dP⟩ c
  |_,_=>False) g) s:=by
 unfold MM.mY;rw[d0];congr 1;funext x g;rw[d0];congr 1;funext y c;cases x<;>cases y<;>first|bv_omega|(dsimp only;rw[d9];first|ac_rfl|(refine cR _ ?_;refine kC λ_ _=>?_;simp only[cL,gS,iJ]))
theorem AU{x y:List D}:wp (fw (.tup x) (.tup y)) Q s=(x.length+y.length<=fu/\Q (.tup (x++y)) s):=by unfold fw;rw[d9];first|ac_rfl|(refine cR _ ?_;refine kC λ_ _=>?_;simp only[cL,gS,iJ])
theorem wG{a:CA}{b:CE}: wp (mz a b l) Q s=wp (a l) (λds g=>wp (b l) (λi c=>match i with
  | .int k=>wp (cG ds k) Q c
  |_=>False) g) s:=by
 unfold mz;rw[d0];congr 1;funext ds g;rw[d0];congr 1;funext i c;cases i<;>first|bv_omega
end
theorem Eb{p q:Prop}:(if false=true then p else q)=q:=aC (by simp)
noncomputable def mx(f:Nat->Nat):Nat->Nat
 |0=>0
 |n+1=>max (mx f n) (f n)
theorem OM{f:Nat->Nat}{n m:Nat}(h:∀i,i < n->f i<=m):mx f n<=m:=by
 induction n with
 |zero=>exact bx _
 |succ n ih=>unfold mx;exact Nat.max_le.mpr ⟨ih λi c=>h i (by ext),h n (by ext)⟩
theorem WL{f:Nat->Nat}{n i:Nat}(h:i < n):f i<=mx f n:=by
 induction n with
 |zero=>ext
 |succ n ih=>
  unfold mx;by_cases e:i=n
  ·subst e;exact zk _ _
  ·exact cS (ih (by ext)) (zO _ _)
theorem Mj{f:Nat->Nat}{n:Nat}{Q:D->aZ->Prop}{s:aZ}(g:0 < n):wp (oF (br n λi=>.int (f i:Nat))) Q s=Q (.int (mx f n:Nat)) s:=by
 obtain⟨k,rfl⟩:∃k,n=k+1:=⟨n-1,by ext⟩
 have c:∀(k:Nat),(((cg k).map (· + 1)).map λ(i:Nat)=>((f i:Nat):Int)).foldl max ((f 0:Nat):Int)=((mx f (k+1):Nat):Int):=by
  intro k
  induction k with
  |zero=>show ((f 0:Nat):Int)=((max 0 (f 0):Nat):Int);ext
  |succ k ih=>
   rw[gJ,bc,bc,pP,ih]
   show max ((mx f (k+1):Nat):Int) ((f (k+1):Nat):Int)=((max (mx f (k+1)) (f (k+1)):Nat):Int)
   ext
 unfold oF br;rw[VZ (λi=>((f i:Nat):Int)),mW,aK];dsimp only;rw[cL,<- c k]
theorem eX.put{s c:aZ}{n:Nat}{o:MO}(h:eX s c)(g:s.length<=n):eX s (c.set n o):=by obtain⟨t,e⟩:=h;exact⟨t.set (n-s.length) o,by rw[e,uM _ _ g]⟩
theorem eX.le{s c:aZ}(h:eX s c):s.length<=c.length:=by obtain⟨t,e⟩:=h;rw[e];simp
theorem GJ{t:CT}{b:CS}:∀(n:Nat)(l:Loc)(s:aZ),eW t b n l s≠.bad->eW t b (n+1) l s=eW t b n l s
 |0,l,s,h=>(h rfl).elim
 |n+1,l,s,h=>by
  have g:∀k,eW t b (k+1) l s=(match t l s with
   | .ok true s1=>(match b l s1 with
    | .ok (.next l2) s2=>eW t b k l2 s2
    | .ok (.cnt l2) s2=>eW t b k l2 s2
    | .ok (.brk l2) s2=>.ok (.next l2) s2
    | .ok (.ret d) s2=>.ok (.ret d) s2
    | .exc x s2=>.exc x s2
    | .bad=>.bad)
   | .ok false s1=>.ok (.next l) s1
   | .exc x s1=>.exc x s1
   | .bad=>.bad):=λk=>by
   show bnd (t l) _ s=_;unfold bnd;cases t l s with
   |exc x s1=>rfl
   |bad=>rfl
   |ok c s1=>
    cases c with
    |false=>rfl
    |true=>
     show (bnd (b l) _) s1=_;unfold bnd;dsimp only;cases b l s1 with
     |exc x s2=>rfl
     |bad=>rfl
     |ok f s2=>cases f<;>first|bv_omega
  rw[g (n+1),g n];rw[g n]at h;cases o:t l s with
  |exc x s1=>rfl
  |bad=>rfl
  |ok c s1=>
   rw[o]at h;cases c with
   |false=>rfl
   |true=>
    dsimp only at h ⊢;cases q:b l s1 with
    |exc x s2=>rfl
    |bad=>rfl
    |ok f s2=>
     rw[q]at h;cases f with
     |next l2=>exact GJ n l2 s2 h
     |cnt l2=>exact GJ n l2 s2 h
     |brk l2=>rfl
     |ret d=>rfl
theorem KS{t:CT}{b:CS}{n m:Nat}{l:Loc}{s:aZ}(h:eW t b n l s≠.bad)(c:n<=m):eW t b m l s=eW t b n l s:=by
 induction m with
 | zero => have : n = 0 := by ext
           subst this;ac_rfl
 |succ m ih=>
  by_cases e:n=m+1
  ·subst e;ac_rfl
  ·have:=ih (by ext);rw[GJ m l s (by rw[this];exact h),this]
theorem Ra{t:CT}{b:CS}{Q:r9->aZ->Prop}{l:Loc}{s:aZ}(W:Loc->aZ->Prop)(μ:Loc->aZ->Nat)(J:W l s)
  (H:∀l s,W l s->wp (t l) (λc B=>if c=true then wp (b l) (λf o=>match f with
   | .next l2=>W l2 o/\μ l2 o < μ l s
   | .cnt l2=>W l2 o/\μ l2 o < μ l s
   | .brk l2=>Q (.next l2) o
   | .ret d=>Q (.ret d) o) B else Q (.next l) B) s):wp (kM t b l) Q s:=by
 have key:∀(k:Nat)(l:Loc)(s:aZ),μ l s < k->W l s->∃n,wp (eW t b n l) Q s:=by
  intro k
  induction k with
  |zero=>intro l s h;ext
  |succ k ih=>
   intro l s L w;have v:=H l s w;rw[sF]at v;cases C:t l s with
   |exc x B=>rw[C]at v;exact v.elim
   |bad=>rw[C]at v;exact v.elim
   |ok c B=>
    rw[C]at v;cases c with
    |false=>
     refine⟨1,?_⟩
     show wp (bnd (t l) _) Q s;rw[d0,dH C]
     show wp (ret _) _ _;rw[cL];exact v
    |true=>
     have g:wp (b l) _ B:=v;rw[sF]at g;cases E:b l B with
     |exc x o=>rw[E]at g;exact g.elim
     |bad=>rw[E]at g;exact g.elim
     |ok f o=>
      rw[E]at g;have go:∀(n:Nat),wp (match f with
       | .next l2=>eW t b n l2
       | .cnt l2=>eW t b n l2
       | .brk l2=>ret (.next l2)
       | .ret d=>ret (.ret d)) Q o->wp (eW t b (n+1) l) Q s:=λn q=>by
       show wp (bnd (t l) _) Q s;rw[d0,dH C,aG rfl,d0,dH E];exact q
      cases f with
      |next l2=>obtain⟨n,u⟩:=ih l2 o (by have:=g.2;ext) g.1;exact⟨n+1,go n u⟩
      |cnt l2=>obtain⟨n,u⟩:=ih l2 o (by have:=g.2;ext) g.1;exact⟨n+1,go n u⟩
      |brk l2=>exact⟨1,go 0 (by show wp (ret _) _ _;rw[cL];exact g)⟩
      |ret d=>exact⟨1,go 0 (by show wp (ret _) _ _;rw[cL];exact g)⟩
 obtain⟨n,u⟩:=key (μ l s+1) l s (kz _) J;have G:eW t b n l s≠.bad:=λe=>by rw[sF]at u;rw[e]at u;exact u
 have ex:∃n,∀r,eW t b n l s=r->r≠.bad:=⟨n,λr e=>e ▸ G⟩
 rw[sF];unfold kM;rw[dif_pos ex];have I:eW t b (iX ex) l s≠.bad:=Classical.choose_spec ex _ rfl;have e:eW t b (iX ex) l s=eW t b n l s:=by rw[<- KS I (zO (iX ex) n),<- KS G (zk (iX ex) n)]
 rw[e];rw[sF]at u;exact u
section
variable{Q:D->aZ->Prop}{s:aZ}{l:Loc}
theorem wM{a:CE}{lo o:CO}: wp (nj a lo o l) Q s=wp (a l) (λx h=>wp (lo l) (λi g=>wp (o l) (λj c=>match x with
  | .tup ds=>¬(gM ds.length 0 i=0/\gM ds.length ds.length j=ds.length)/\Q (.tup (cutD ds i j)) c
  |_=>False) g) h) s:=by
 unfold nj;rw[d0];congr 1;funext x h;rw[d0];congr 1;funext i g;rw[d0];congr 1;funext j c;cases x<;>first|bv_omega|(dsimp only;rw[d9];ac_rfl)
end
theorem MT{α:Type}{n:Nat}{x:α}{f:Nat->α}: x::br n f=br (n+1) λd=>match d with
  |0=>x
  |d+1=>f d:=by
 unfold br;rw[mW,aK,dD];ac_rfl
theorem M3{lo:Int}{n:Nat}:kN lo n=br n λi=>.int (lo+i):=rfl
section
variable{α β:Type}{γ:Sort _}
theorem El{p:Prop}[Decidable p]:(decide p=true)=p:=_root_.decide_eq_true_eq
theorem Jz{n:Nat}{a:α}:bq (n+1) a=a::bq n a:=nr rfl
theorem Iq{a:α}:bq 0 a=[]:=nr rfl
theorem HG{x:Option α}:(some x).join=x:=nr rfl
theorem HF{f:α->β}{a:α}{l:List α}:vh f (a::l)=f a::vh f l:=nr rfl
theorem Iy{f:α->β}:vh f []=[]:=nr rfl
theorem Hq{a:α}{l k:List α}:(a::l)++k=a::(l++k):=nr rfl
theorem JW{l:List α}:[]++l=l:=nr rfl
theorem JO{a:α}{l:List α}:(a::l)[0]?=some a:=nr rfl
theorem IS{a:α}{l:List α}{i:Nat}:(a::l)[i+1]?=l[i]?:=by simp
theorem Ju{a b:α}{l:List α}:(a::l).set 0 b=b::l:=nr rfl
theorem IE{a b:α}{l:List α}{i:Nat}:(a::l).set (i+1) b=a::l.set i b:=nr rfl
theorem Ib{a:α}{l:List α}:(a::l).length=l.length+1:=nr rfl
theorem JC:([]:List α).length=0:=nr rfl
theorem JL{c d:γ}:(if True then c else d)=c:=aG trivial
theorem JG{c d:γ}:(if False then c else d)=d:=aC (λh=>h)
theorem IZ{p:Prop}:(p/\True)=p:=and_true p
theorem HJ{p:Prop}:(True/\p)=p:=true_and p
theorem IT:(!true)=false:=nr rfl
theorem GX:(!false)=true:=nr rfl
end
section
variable{Q:D->aZ->Prop}{U:Unit->aZ->Prop}{A:List D->aZ->Prop}{s:aZ}{l:Loc}
theorem uT{n:Nat}{b:Bool}{c:List (D×D)}{Q:Bool×List (D×D)->aZ->Prop}(h:s[n]?=some (.dct b c)):wp (getDc n) Q s=Q (b,c) s:=by rw[sF];unfold getDc;rw[h]
theorem LD{n:Nat}{b:Bool}{g c:List (D×D)}{Q:Unit->aZ->Prop}(h:s[n]?=some (.dct b g)):wp (rZ n b c) Q s=Q () (s.set n (.dct b c)):=by rw[sF];unfold rZ;rw[h];simp
theorem A5{n:Nat}{b:Bool}{c:List (D×D)}{k d:D}(h:s[n]?=some (.dct b c))(o:m5 b k=true)(g:lV c k=some d):wp (itemK n k) Q s=Q d s:=by unfold itemK;rw[d0,uT h,d9];dsimp only;rw[g,cL];exact propext ⟨λh=>h.2,λh=>⟨o,h⟩⟩
theorem Df{n:Nat}{b:Bool}{c:List (D×D)}{k v:D}(h:s[n]?=some (.dct b c))(o:m5 b k=true)(g:c.length < fu):wp (storeK n k v) U s=U () (s.set n (.dct b (lG c k v))):=by unfold storeK;rw[d0,uT h,d9];dsimp only;rw[LD h];exact propext ⟨λh=>h.2,λh=>⟨⟨o,g⟩,h⟩⟩
theorem Gk{n:Nat}{b:Bool}{c:List (D×D)}{k:D}{Q:Bool->aZ->Prop}(h:s[n]?=some (.dct b c))(g:m5 b k=true):wp (hasK n k) Q s=Q (lV c k).isSome s:=by unfold hasK;rw[d0,uT h,d9,cL];exact propext ⟨λh=>h.2,λh=>⟨g,h⟩⟩
theorem yQ{n:Nat}{k:D}:wp (aU (.dic n) k) Q s=wp (itemK n k) Q s:=by cases k<;>first|bv_omega
theorem A3{n:Nat}{k v:D}:wp (iI (.dic n) k v) U s=wp (storeK n k v) U s:=by cases k<;>first|bv_omega
theorem yL{n:Nat}{k:D}:wp (rG k (.dic n)) Q s=wp (hasK n k) (λb c=>Q (.bl !b) c) s:=by unfold rG;rw[d0];ac_rfl
theorem FJ{n:Nat}{b:Bool}{c:List (D×D)}(h:s[n]?=some (.dct b c)):wp (fX (.dic n)) Q s=Q (.int c.length) s:=by unfold fX;rw[d0,uT h];ac_rfl
theorem Be{b:Bool}:wp (oP b l) Q s=Q (.dic s.length) (s++[.dct b []]):=dH rfl
end
theorem pE{α:Type}{l:List α}{a:α}:(l++[a])[l.length]?=some a:=by rw[aS (av _),fv];ac_rfl
theorem pk{α:Type}{l:List α}{a b:α}{n:Nat}(h:l[n]?=some a):(l++[b])[n]?=some a:=by rw[ax (ac.mp h).1];exact h
end MM
noncomputable def MM.xP:=aB @MM.qE<|aB @MM.Bi<|aB @MM.wF<|aB @MM.DM<|aB @MM.EV<|aB @MM.Dk<|aB @MM.zp<|aB @MM.Bk<|aB @MM.DY<|aB @MM.AH<|aB @MM.ES<|aB @MM.zS<|aB @MM.zV<|aB @MM.sG<|aB @MM.sE<|aB @MM.xT<|aB @MM.x_<|aB @MM.Ab<|aB @MM.Au<|aB @MM.uh<|aB @MM.oI<|aB @MM.uo<|aB @MM.yo<|aB @MM.Bo<|aB @MM.Bm<|aB @MM.EX<|aB @MM.Eu<|aB @MM.E6<|aB @MM.IU<|aB @MM.Gr<|aB @MM.Gj<|aB @MM.GQ<|aB @MM.Hn<|aB @MM.Ad<|aB @MM.Ef<|aB @MM.EF<|aB @MM.Jo<|aB @MM.JK<|aB @MM.DO<|aB @MM.Dn<|aB @MM.EB<|aB @MM.D5<|aB @MM.AJ<|aB @MM.ET<|aB @MM.C8<|aB @MM.Hb<|aB @MM.GO<|aB @MM.Jx<|aB @MM.Fb<|aB @MM.Jh<|aB @MM.IF<|aB @MM.Gh<|aB @MM.Ic<|aB @MM.Dw<|aB @MM.Du<|aB @MM.zH<|aB @MM.Js<|aB @MM.EC<|aB @MM.wA<|aB @MM.zI<|aB @MM.wB<|aB @MM.Ee<|aB @MM.Ak<|aB @MM.Bw<|aB @MM.DB<|aB @MM.AM<|aB @MM.DG<|aB @MM.Ed<|aB @MM.Bt<|aB @MM.zE<|aB @MM.D3<|aB @MM.C5<|aB @MM.Dc<|aB @MM.EJ<|aB @MM.I0<|aB @MM.HA<|aB @MM.JA<|aB @MM.G0<|aB @MM.Jk<|aB @MM.qd<|aB @MM.yK<|aB @MM.wu<|aB @MM.Bq<|aB @MM.AS<|aB @MM.qC<|aB @MM.AI<|aB @MM.ym<|aB @MM.wq<|aB @MM.cL<|aB @MM.d9<|aB @MM.gS<|aB @MM.wC<|aB @MM.Dq<|aB @MM.Am<|aB @MM.yM<|aB @MM.wK<|aB @MM.yt<|aB @MM.Aa<|aB @MM.Ar<|aB @MM.EK<|aB @MM.Aq<|aB @MM.AO<|aB @MM.AU<|aB @MM.wG<|aB @MM.wM<|aB @MM.yQ<|aB @MM.A3<|aB @MM.yL<|@MM.Be
local macro_rules
 | `(tactic| simp![$a,*])=>`(tactic| simp only[↓MM.xP,MM.gq,MM.kS,MM.ui,MM.ue,MM.El,MM.Jz,MM.Iq,MM.HG,MM.HF,MM.Iy,MM.Hq,MM.JW,MM.JO,MM.IS,MM.Ju,MM.IE,MM.Ib,MM.JC,Nat.reduceAdd,Nat.reduceSub,Int.reduceLE,Int.reduceLT,MM.JL,MM.JG,MM.IZ,MM.HJ,beq_iff_eq,MM.Eb,MM.IT,MM.GX,Nat.reduceLT,Nat.reduceLeDiff,$a,*])
namespace MM
open PySem
theorem D4:∀(N:Nat)(l:List Nat),l.Nodup->(∀x∈l,x < N)->l.length<=N
 |0,l,_,h=>by
  cases l with
  |nil=>exact av _
  |cons x xs=>exact bn (h x (by simp)) (rV _)
 |N+1,l,hn,h=>by
  by_cases o:N∈l
  ·have q := D4 N (l.erase N) (hn.erase N) (λx g => by have c:=(hn.mem_erase_iff).mp g;have:=h x c.2;have:=c.1;ext)
   rw[tj o]at q;ext
  ·have q := D4 N l hn (λx g => by have:=h x g;have:x≠N:=λe=>o (e ▸ g);ext)
   ext
noncomputable def qX(B:Nat):List Nat->Nat
 |[]=>0
 |x::xs=>x*B^xs.length+qX B xs
theorem FH{B:Nat}:∀{xs:List Nat},(∀x∈xs,x < B)->qX B xs < B^xs.length
 |[],_=>by simp[qX]
 |x::xs,h=>by
  have l:=FH (B:=B) (xs:=xs) λy c=>h y (by simp[c]);have g:=h x (by simp)
  show x*B^xs.length+qX B xs < B^(xs.length+1);rw[ni,im (B^xs.length) B];have:(x+1)*B^xs.length<=B*B^xs.length:=oj _ g;rw[uN]at this;ext
theorem M4{B:Nat}:∀{xs ys:List Nat},xs.length=ys.length->(∀x∈xs,x < B)->(∀x∈ys,x < B)->qX B xs=qX B ys->xs=ys
 |[],[],_,_,_,_=>rfl
 |x::xs,y::ys,hl,hx,hy,e=>by
  have c:xs.length=ys.length:=by simpa using hl
  have u:=FH (B:=B) (xs:=xs) λz hz=>hx z (by simp[hz]);have g:=FH (B:=B) (xs:=ys) λz hz=>hy z (by simp[hz]);have l:x*B^xs.length+qX B xs=y*B^ys.length+qX B ys:=e;rw[<- c]at l g;have q:x=y/\qX B xs=qX B ys:=by
   generalize B^xs.length=p at l u g;have o:0 < p:=by ext
   have C:(x*p+qX B xs) / p=x:=by rw[im,iF o,io u];simp
   have v:(y*p+qX B ys) / p=y:=by rw[im,iF o,io g];simp
   have h:x=y:=by rw[<- C,<- v,l]
   subst h;exact⟨rfl,by ext⟩
  rw[q.1,M4 c (λz hz=>hx z (by simp[hz])) (λz hz=>hy z (by simp[hz])) q.2]
noncomputable def pr:List Nat->Nat
 |[]=>1
 |b::bs=>b*pr bs
def m4:List Nat->List Nat->Nat
 |b::bs,x::xs=>x*pr bs+m4 bs xs
 |_,_=>0
theorem BX:∀{bs xs:List Nat},xs.length=bs.length->(∀(i b x:Nat),bs[i]?=some b->xs[i]?=some x->x < b)->m4 bs xs < pr bs
 |[],[],_,_=>by simp[m4,pr]
 |b::bs,x::xs,hl,h=>by
  have o:=BX (bs:=bs) (xs:=xs) (by simpa using hl) λi b x g c=>h (i+1) b x (by simpa using g) (by simpa using c);have l:=h 0 b x rfl rfl
  show x*pr bs+m4 bs xs < b*pr bs;have:(x+1)*pr bs<=b*pr bs:=oj _ l;rw[uN]at this;ext
theorem Ml:∀{bs xs ys:List Nat},xs.length=bs.length->ys.length=bs.length->(∀(i b x:Nat),bs[i]?=some b->xs[i]?=some x->x < b)->(∀(i b x:Nat),bs[i]?=some b->ys[i]?=some x->x < b)->m4 bs xs=m4 bs ys->xs=ys
 |[],[],[],_,_,_,_,_=>rfl
 |b::bs,x::xs,y::ys,hl,hl2,hx,hy,e=>by
  have g:∀(i b x:Nat),bs[i]?=some b->xs[i]?=some x->x < b:=λi b x l h=>hx (i+1) b x (by simpa using l) (by simpa using h);have c:∀(i b x:Nat),bs[i]?=some b->ys[i]?=some x->x < b:=λi b x l h=>hy (i+1) b x (by simpa using l) (by simpa using h);have B:=BX (bs:=bs) (xs:=xs) (by simpa using hl) g;have v:=BX (bs:=bs) (xs:=ys) (by simpa using hl2) c;have C:x*pr bs+m4 bs xs=y*pr bs+m4 bs ys:=e;have q:x=y/\m4 bs xs=m4 bs ys:=by
   generalize pr bs=p at C B v;have u:0 < p:=by ext
   have G:(x*p+m4 bs xs) / p=x:=by rw[im,iF u,io B];simp
   have E:(y*p+m4 bs ys) / p=y:=by rw[im,iF u,io v];simp
   have o:x=y:=by rw[<- G,<- E,C]
   subst o;exact⟨rfl,by ext⟩
  rw[q.1,Ml (by simpa using hl) (by simpa using hl2) g c q.2]
theorem Ir:∀(a b:List Nat),lX (a.map λn:Nat=>.int n) (b.map λn:Nat=>.int n)=decide (a=b)
 |[],[]=>by simp[lX]
 |[],_::_=>by simp[lX]
 |_::_,[]=>by simp[lX]
 |x::xs,y::ys=>by
  rw[aK,aK]
  show (oJ (.int x) (.int y)&&lX _ _)=_;rw[Ir xs ys]
  show (decide ((x:Int)=y)&&_)=_;have:decide ((x:Int)=y)=decide (x=y):=decide_eq_decide.mpr (by ext);rw[this];simp[m_]
theorem Na:∀(a:List Nat),kB (a.map λn:Nat=>.int n)=some (a.map λn:Nat=>(n:Int))
 |[]=>rfl
 |x::xs=>by rw[aK,aK];unfold kB;rw[Na xs];rfl
theorem US(a b:List Nat):m5 true (.tup [.tup (a.map λn:Nat=>.int n),.tup (b.map λn:Nat=>.int n)])=true:=by show (i0 [.tup (a.map λn:Nat=>.int n),.tup (b.map λn:Nat=>.int n)]).isSome=true;simp only[i0,Na];rfl
theorem TY(a b c d:List Nat):oJ (.tup [.tup (a.map λn:Nat=>.int n),.tup (b.map λn:Nat=>.int n)]) (.tup [.tup (c.map λn:Nat=>.int n),.tup (d.map λn:Nat=>.int n)])=(decide (a=c)&&decide (b=d)):=by show (lX (a.map _) (c.map _)&&(lX (b.map _) (d.map _)&&true))=_;rw[Ir,Ir,Bool.and_true]
end MM
namespace MM
theorem ul{g:CG}{b:CS}{same:aZ->Prop}{xs:List D}{l:Loc}{s:aZ}{Q:r9->aZ->Prop}(W:Nat->Loc->aZ->Prop)(B:∀i l s,W i l s->same s)(C:W 0 l s)
  (c:∀(R:r9->aZ->Prop)(i:Nat)d l s,(∀{q h},W (i+1) q h->R (.next q) h)->(∀{d h},Q (.ret d) h->R (.ret d) h)->xs[i]?=some d->W i l s->wp (g d l) (λv u=>wp (b v) R u) s) (o:∀l s,W xs.length l s->Q (.next l) s):wp (nv g b same xs l) Q s:=
 NI W B C (λi d l s hd w=>c _ i d l s (λz=>z) (λz=>z) hd w) o
theorem CQ{t:CT}{b:CS}{Q:r9->aZ->Prop}{l:Loc}{s:aZ}(W:Loc->aZ->Prop)(μ:Loc->aZ->Nat)(v:W l s)
  (u:∀(R:r9->aZ->Prop)l s,(∀{g h},W g h->μ g h < μ l s->R (.next g) h)->(∀{d o},Q (.ret d) o->R (.ret d) o)->W l s->wp (t l) (λc q=>if c=true then wp (b l) R q else Q (.next l) q) s):wp (kM t b l) Q s:=
 Ra W μ v λl s w => u (λf h => match f with
   | .next g=>W g h/\μ g h < μ l s
   | .cnt g=>W g h/\μ g h < μ l s
   | .brk g=>Q (.next g) h
   | .ret d=>Q (.ret d) h) l s (λa b=>⟨a,b⟩) (λz=>z) w
theorem F5{g:CG}{b:CS}{same:aZ->Prop}{n:Nat}{f:Nat->D}{l:Loc}{s:aZ}{Q:r9->aZ->Prop}(W:Nat->Loc->aZ->Prop)(B:∀i l s,W i l s->same s)(E:W 0 l s)
  (c:∀(R:r9->aZ->Prop)(i:Nat)l s,(∀{q o},W (i+1) q o->R (.next q) o)->i < n->W i l s->wp (g (f i) l) (λv u=>wp (b v) R u) s) (h:∀l s,W n l s->Q (.next l) s):wp (nv g b same (br n f) l) Q s:=
 NQ W B E (λi l s C w=>c _ i l s (λz=>z) C w) h
theorem Ja{e:CE}{n:Nat}{f:Nat->D}{same:aZ->Prop}{caps:Loc}{s:aZ}{Q:List D->aZ->Prop}(W:Nat->List D->aZ->Prop)(o:∀i c s,W i c s->same s)(u:W 0 [] s)
  (g:∀(R:D->aZ->Prop)(i:Nat)c s,(∀{x l},W (i+1) (c++[x]) l->R x l)->i < n->W i c s->wp (e (some (f i)::caps)) R s) (h:∀c s,W n c s->Q c s):
  wp (collect (aQ 0) bN e same (br n f) (none::caps)) Q s:=OX W o u (λi c s q w=>g _ i c s (λz=>z) q w) h
def tx(c g h:CE):CS:=λl=>bnd (c l) λo=>bnd (g l) λi=>match o,i with
 | .ref n,.int k=>bnd (getL n) λds=>bnd (cG ds k) λx=>bnd (h l) λy=>bnd (A2 x y) λz=>bnd (iI (.ref n) (.int k) z) λ_=>ret (.next l)
 |_,_=>bad
def pq(a:CE):CI:=λl=>bnd (a l) λx=>match x with
 | .dic n=>bnd (getDc n) λp=>chk (p.1=true) (ret ⟨p.2.map λq=>.tup [q.1,q.2],λs=>s[n]?=some (.dct true p.2)⟩)
 |_=>bad
def Fy:D->Option (D×D)
 | .tup [k,v]=>if m5 true k=true then some (k,v) else none
 |_=>none
def pj:List D->Option (List (D×D))
 |[]=>some []
 |d::ds=>(Fy d).bind λp=>(pj ds).map (p::·)
def lN(ds:List D):M D:=match pj ds with
 |some ps=>chk (ps.length<=1000) (uC true (t8 [] ps))
 |none=>bad
open PySem
def qD(g:CA)(c:CE):CE:=λl=>bnd (g l) λds=>bnd (c l) λd=>if ds.length=0 then ret d else oF ds
def qF(d e:D):M D:=match d,e with
 | .ref m,.ref n=>bnd (getL m) λks=>bnd (getL n) λc=>lN (ks.zipWith (λp q=>.tup [p,q]) c)
 |_,_=>bad
def getDf(n:Nat):M (List (D×D)):=λs=>match s[n]? with
 |some (.dct true cx)=>.ok cx s
 |some (.dcf cx)=>.ok cx s
 |_=>.bad
def tV(n:Nat):M D:=λs=>match s[n]? with
 |some (.dct true _)=>.ok .non (s.set n (.dcf []))
 |_=>.bad
def oR(a:CE):CE:=λl=>bnd (a l) λx=>match x with
 | .dic n=>tV n
 |_=>bad
noncomputable def wm(c:List (D×D)):M D:=λs=>.ok (.dic s.length) (s++[.dcf c])
def sA(c:List (D×D)):Prop:=c≠[]/\(c.map λp=>(stK p.1).map iK).Nodup
open Classical in
def pf:D->M D
 | .dic n=>bnd (getDf n) λc=>chk (sA c) (wm c)
 |_=>bad
noncomputable def uk:D->Prop
 | .int _=>True
 |_=>False
open Classical in
def um(d e:D):M D:=match d,e with
 | .dic m,.dic n=>bnd (getDf m) λa=>bnd (getDf n) λb=>chk (a=b/\∀p∈a,uk p.2) (ret (.bl true))
 |_,_=>bad
end MM
namespace MM
def nX:D->M D
 | .dic n=>bnd (getDf n) λ_=>ret (.bl true)
 |_=>bad
open PySem PySem.Spec PyProof.Rows L2
open PySem.AutoSeq1 (wpAny_loadPart')
def D8(K:aj)(a:ao):It:=
 ⟨λi H=>∃xs x,gY K H a xs/\xs[i]?=some x,λi H x c=>∃T v,x=.ref T/\H T=none/\(∀xs,gY K H a xs->xs[i]?=some v)/\c=ff H T (.tup [.int i,v]),λi H=>∃xs,gY K H a xs/\xs.length<=i⟩
section
theorem bs{prog:Program}{w:bE}{A:bv}{E:ag->am->Prop}{s:am}{l:ao}{Q:ag×List ag->am->Prop}(h:Q (.builtin "list.__getattribute__",[.ref l]) s):aD (aT prog w) A (tm (.builtin "list.__getattribute__") (.ref l)) Q E s:=by
 unfold tm;have c:BH (.builtin "list.__getattribute__")=pure (.type "wrapper_descriptor"):=by rfl
 rw[c];refine ab (ah ?_);exact ah h
theorem T6{prog:Program}{w:bE}{A:bv}{E:ag->am->Prop}{s:am}{l:ao}{its:Array ag}{n:Nat}{g:Array (Option ag)}{Q:Option ag->am->Prop}(hh:A.handled=none)(o:s.heap.get? l=some { cls:=.type "list",data:=.seq its n,slots:=g })(h:∀h' c,(∀b u,s.heap.get? b=some u->h'.get? b=some u)->Q none { s with heap:=h',toks:=c }):
  aD (aT prog w) A (zl (.ref l) (az "keys")) Q E s:=by
 have H:s.TypeIs (.ref l) "list":=⟨_,o,rfl⟩
 have O:kT (.type "list") (az "__getattribute__")=pure (some (l_ "list.__getattribute__")):=by rfl
 have B:kT (.type "list") (az "__getattr__")=pure none:=by rfl
 have v:kT (.type "list") (az "keys")=pure none:=by rfl
 unfold zl
 wp_walk using ky H
 refine bs ?_;refine uG F.slot_list_getattribute ⟨_,o,rfl⟩ am_entry_list_getattribute (F.args_list_getattribute_2 _ _) (meets_getattribute_miss_list l its n g (az "keys") _ v rfl) ⟨o,?_⟩;refine⟨hh,λh' c e q=>?_⟩;obtain⟨L,J,C⟩:=q.there;have I:gE { s with heap:=h',toks:=c } (.ref e) "AttributeError":=⟨_,C,rfl⟩
 have G:isSubtype (.type "AttributeError") (.type "AttributeError")=pure true:=by rw[isSubtype_type];kernel_rfl
 show aD (aT prog w) A (mH (.ref l) (.str (az "keys") s.toks) (.type "list") (.ref e) none false false) _ _ { s with heap:=h',toks:=c };unfold mH;refine ab (dk I G ?_);rw[aG rfl];unfold hookBehind;rw[aC (by decide),B];refine ab (ah ?_);unfold hookOrError zm
 wp_walk
 exact h h' c λb u z=>q.keeps b u z
theorem zy:plainId "dict.update.loop"=true:=by nofun
variable{prog:Program}{w:bE}
theorem K5{A:bv}{E:ag->am->Prop}{s:am}{a:ao}{c v:ag}{Q:List ag->am->Prop}(q:s.heap.IsTuple a #[c,v])(h:Q [c,v] s):aD (aT prog w) A (qt (.ref a)) Q E s:=by
 obtain⟨⟨C,B,o,l⟩,e,g,n,hd⟩:=q;simp only at g hd;subst g hd;unfold qt;have u:s.TypeIs (.ref a) "tuple":=⟨_,e,rfl⟩
 wp_walk using ky u
 exact h
end
section
variable{X:Cx}{o i e:Expr}{fo fi fe:CE}{pos em:Pos}
theorem OJ:C3 X (AL X.K):=by
 intro c s σ H x y v u Q I L J h;obtain⟨p,xs,i,z,rfl,rfl,O,Y,q⟩:=h;cases L;obtain⟨t,rfl⟩:=J;obtain⟨its,r,C,hz⟩:=I.list O;obtain⟨j,g,h2,h3,h4,o⟩:=Fu Y;obtain⟨w,G,l⟩:=r.get h2;have U:=r.length;have hn:=zt;have fin:EP X c σ Q w s:=⟨z,H,I,l,q⟩
 by_cases E:0<=i
 ·have B : i.toNat = j := by rw[sY E o]at g;exact aE g
  exact wpAny_getItem_list C.isList E (by ext) (by rw[B];simpa using G) fin
 ·have B : (i+(its.toArray.size : Int)).toNat = j := by rw[rM (by ext) h4]at g;rw[aF,<- U];exact aE g
  exact xf C.isList (by ext) (by rw[aF]<;>ext) (by ext) (by rw[B];simpa using G) fin
theorem dA.intI{K:aj}{ρ:List ao}{H:Hp}{v:V}{k:Int}(r:dA K ρ H v (.int k)):v=.int k:=by cases r;rfl
theorem dA.refI{K:aj}{ρ:List ao}{H:Hp}{v:V}{n:Nat}(r:dA K ρ H v (.ref n)):∃a,v=.ref a/\ρ[n]?=some a:=by cases r with|ref _ h=>exact⟨_,rfl,h⟩
theorem QG(ho:SE X o fo)(hi:SE X i fi)(he:SE X e fe)(ha:∀ov iv new,augStore i ov iv new=(do kq [new,ov,iv] (n9 ov iv new); Cf [new,ov,iv] []; pure .next)):
  SS X (.AugAssign (.Subscript o i em) .Add e pos) (tx fo fi fe):=
 (VT ho hi OJ he Td KA ha).of λG σ H h_=>h_.el λρ l st lr sr p=>⟨ρ,l,st,lr,sr,p.bnd.imp λd eg ρ1 H1 x1 s1 p1 u ru=>⟨ρ1,l,eg,lr.mono x1,s1,p1.bnd.imp λz st2 ρ2 H2 x2 U p2 w B=>by
  have c:=ru.mono x2;have E:∀{ρ3 H3},Ex ρ2 H2 ρ3 H3->dA X.K ρ3 H3 u d:=λx=>c.mono x;have sh:∃I k,d=.ref I/\z=.int k:=by
   clear E c B ru;cases d with
   |ref I=>
    cases z with
    |int k=>exact⟨I,k,rfl,rfl⟩
    |_=>exact p2.elim
   |_=>exact p2.elim
  obtain⟨I,k,rfl,rfl⟩:=sh;obtain⟨aa,rfl,h⟩:=c.refI;cases B.intI;obtain⟨ds,e,p3⟩:=aN.getL (aN.bnd p2) U;obtain⟨a,vs,ha,hv,r⟩:=U.seq e;rw[h]at ha;cases ha;obtain⟨j,dx,h1,h2,q⟩:=aN.item (aN.bnd p3) U;obtain⟨v,h3,rv⟩:=Et r h1 h2;refine⟨_,vs,k,v,rfl,rfl,gY.of hv,h3,ρ2,l,st2,(lr.mono x1).mono x2,U,(aN.bnd q).imp λy st3 ρ3 H3 x3 Q p4 w g=>?_⟩;have C:=rv.mono x3;have sh2:∃i j,dx=.int i/\y=.int j:=by
   clear C g rv h2;cases dx with
   |int i=>
    cases y with
    |int j=>exact⟨i,j,rfl,rfl⟩
    |_=>exact p4.elim
   |_=>exact p4.elim
  obtain⟨i,j',rfl,rfl⟩:=sh2;cases C.intI;cases g.intI;refine⟨i,j',rfl,rfl,?_⟩;have p5:=(aN.bnd p4).ret Q;obtain⟨O,e',Y⟩:=aN.getL (aN.bnd (aN.bnd p5)) Q;obtain⟨a',vs',L,J,r'⟩:=Q.seq e';have h':ρ3[I]?=some aa:=by obtain⟨b,eb,h'⟩:=(E x3).refI;cases eb;exact h'
  rw[h']at L;cases L;cases e2:MM.my O.length k with
  |none=>rw[e2]at Y;exact Y.elim
  |some m=>
   rw[e2]at Y;have hl:=(ac.mp e').1;obtain⟨s4,x4⟩:=Q.put hl h' J (r'.set m (.int (i+j')));refine⟨_,vs',k,m,rfl,rfl,J,by rw[r'.length];exact e2,?_⟩;have p7:aN X.K ρ3 H3 (putL _ (O.set m (.int (i+j'))) st3) _:=Y;unfold putL at p7;rw[e']at p7;exact (p7 ρ3 _ x4 s4).ret s4 σ ((((lr.mono x1).mono x2).mono x3).mono x4)⟩⟩
end
def Ao:v7:=λq c e=>Q9 e λt o a _ h=>z_ t λx i p v=>ER i λn j l u=>wh (o=.Add/\n=.USub) λz=>(q.e c x).bind λf=>(q.e c (.UnaryOp n j l)).bind λk=>(q.e c a).bind λm=>some ⟨tx f.1 k.1 m.1,λg=>by subst h v u;obtain⟨rfl,rfl⟩:=z;exact QG (f.2 g) (k.2 g) (m.2 g) (by intros;rfl)⟩
def zU:kJ:=λq c e=>Dx e λx _ as _ U=>vC as λa as Q=>(MU c.G x).bind λr=>wh (c.glo x=true/\uw x=true/\r.1.k<=c.k/\r.1.n=(a::as).length+1/\r.1.kw=true/\r.1.ps.getLast?=some (az "most")) λz=>(vG q c (a::as)).bind λv=>some ⟨pb r.1.g v.1 (.int 500),λg=>by
 subst U Q;obtain⟨O,L,J,I,H,G⟩:=z;obtain⟨f,fd,m,F,E,B,h⟩:=(g.G _ _ r.2).ex;obtain⟨x,y,l⟩:=v.2;rw[cB,bu]at y
 replace h:=h H
 unfold Ek at h;rw[aG G]at h;obtain⟨u,hu,Y⟩:=h;exact Q0 g.S (beq_iff_eq.mp O) F (g.hr.mono J) m E Y hu (B0 L) (x g) (λC st ds o z=>by rw[I,l C st ds o z]) (qw y.1) (BV y.2)⟩
section
variable{P:Program}{w:bE}{K:aj}{mg:Str->Option ag}{base:bA}
def wy(K:aj)(mg:Str->Option ag)(x:Str)(c:fH):Prop:=∃a g u,wX K x x c a g u/\mg x=some (.ref a)/\RelV (.int 500) u
theorem Dv{h:bA}{x:Str}{g:fH}{f T:ao}{H L B:Option ao}{C u:Array (Option ag)}{I kV J E o ct to:ag}{q:Tok}{v:Nat}(X:K.In h)(G:h.Ns cC mg)(a:fG K cC x=some (some (.ref f)))
  (l:K.lookup f=some ⟨I,H,.func (cD x x (fE g) (dw g) (bD g) (.ref T) kV J E L o ct),C⟩) (c:fR K o x=true) (k:dm K (.ref f)=true) (t:K.lookup T=some ⟨to,B,.seq #[.int 500 q] v,u⟩):wy K mg x g:=
 ⟨f,_,_,QS (st:=g) l c k t rfl,rT X G a,⟨_,rfl⟩⟩
theorem OT(R:oQ){r:List Str}{x:Str}{h:fH}{o:List Str}{k n m:Nat}{q:CS}{G:List (Str×RF)}{Z:List Str}{C:List (Str×D)}{H:List (Nat×Nat×Nat)}(F:wy K mg x h)(S:tp (o++r) o (bD h)=true)
  (b0:∀(u:ag)(T:ao)(kV g B:ag)(I:Option ao)(c ct:ag)(l:List ag),l.length=n->∃k:Option (Array ag)->Sem (List (Str×ag)),lA (cD x x (fE h) (dw h) (bD h) (.ref T) kV g B I c ct) ⟨l,[]⟩=kW (.ref T) >>= k/\k (some #[u])=pure (o.zip l))
  (b1:∀(u:ag)(T:ao)(kV g B:ag)(I:Option ao)(c ct:ag)(l:List ag),l.length+1=n->∃k:Option (Array ag)->Sem (List (Str×ag)),lA (cD x x (fE h) (dw h) (bD h) (.ref T) kV g B I c ct) ⟨l,[]⟩=kW (.ref T) >>= k/\k (some #[u])=pure (o.zip (l++[u])))
  (hb:(qN (pc R 40) ⟨bD h,o++r,k,G,Z,C,H,true,[],none⟩ (dw h)).map (·.1)=some q) (U:c_ P w K mg base G) (hZ:xE mg Z) (hC:zJ K mg C) (hq:o.getLast?=some (az "most")) (L:o.length=n:=by rfl) (hm:(o++r).length=m:=by rfl):c_ P w K mg base ((x,⟨n,k+1,o,true,cm m q⟩)::G):=by
 obtain⟨f,fd,u,F,O,hu⟩:=F;have Q:=DT S;obtain⟨v,_,e⟩:=dC.mp hb;refine FR O (Wa F Q L hm λc A outer s Hp E Y=>e ▸ v.2 ⟨JF,rfl,Q.nd,Y,U,hZ,hC,mq,λ_=>⟨by show (if (bD h).kind.isAnnotationScope=true then _ else (bD h).kind)=_;rw[Q.kind];rfl,λ_=>rfl⟩,(λ_ _ z=>nomatch z),λ_ z=>nomatch z⟩) F.kp
  (F.binds λT kV g B I c ct l J=>?_) (λ_=>?_) U
 ·rw[bI]at J ⊢;exact b0 u T kV g B I c ct l (J.trans L)
 ·unfold Ek;rw[aG hq];exact⟨u,hu,F.binds λT kV g B I c ct l J=>b1 u T kV g B I c ct l (by rw[<- L,<- J,aH];rfl)⟩
end
end MM
namespace MM
open PySem PySem.W PyProof.Rows L2
section
variable{prog:Program}{w:bE}{A:bv}{E:ag->am->Prop}{s:am}{d it:ao}{es:Array fm}{ep i:Nat}
theorem Vs(hd:(d == bO)=false):
  xi prog w (Builtin.«dict.items» ⟨[.ref d],[]⟩) (λ_ R s=>(∃es ep,mw s.heap d es ep)/\R (.ok (.ret (.ref s.heap.objs.size))) { s with heap:=s.heap.push { cls:=.type "dict_items",data:=.fields #[.ref d] } }):=
 .of_wp λA R s c=>by
  obtain⟨⟨es,ep,g⟩,h⟩:=c;unfold Builtin.«dict.items»;refine ab ?_;unfold rW;refine ab (dY g.typeIs ?_)
  show aD _ _ (pure d) _ _ s;refine ah ?_
  show aD _ _ (e8 d >>= _) _ _ s;unfold e8;rw[aC (by rw[hd];exact aY)];exact ab (ah (ab (b9 (ah ⟨_,rfl,h⟩))))
theorem Wx{v:ao}{Q:ag->am->Prop}(h:s.heap.IsItemsView v d)(B:mw s.heap d es ep)
  (G:Q (.ref s.heap.objs.size) { s with heap:=s.heap.push { cls:=.type "dict_itemiterator",data:=.fields #[.none,.bool false,.ref d,.int 0 0,.int es.size 0,.int ep 0,.none,.none] } }):
  aD (aT prog w) A (BE (.ref v)) Q E s:=by
 obtain⟨H,l,C,q⟩:=id h;obtain⟨o,u,I,c⟩:=id B;refine Cq h.typeIs vW (bR vW h.typeIs F.entry_dict_items_iter ?_ (F.args_dict_items_iter_1 _));unfold Builtin.«dict_items.__iter__»;refine ab (ah (ab ?_));unfold Builtin.Dict_items.dictOf;refine ab (b8 l q (x:=.ref d) rfl (ah (ab ?_)));unfold Builtin.Dict_items.newIterator;refine ab (b_ u c (ab (fV u c ?_)));have g:eJ "dict_itemiterator"=true:=by decide
 simp only[g,if_true];refine b9 (ah ⟨_,rfl,"dict_itemiterator",_,⟨_,ay _ rfl,rfl⟩,gK.lookup,?_⟩)
  (by simp only[sizeOk,lT,aF,aH,bC,gI,lx];ext)
 simpa [dF,lT] using G
theorem Wc{c:fm}{ok C:ag}{Q:Option ag->am->Prop}(l:iu s.heap it d i es.size ep ok C)(O:mw s.heap d es ep)(L:es[i]?=some c)
  (Y:∀h',vX h' it d (i+1) es.size ep c.key c.val s.heap.objs.size->h'.get? s.heap.objs.size=some { cls:=.type "tuple",data:=.seq #[c.key,c.val] }->h'.objs.size=s.heap.objs.size+1 ->
   (∀b o,b≠it->s.heap.get? b=some o->h'.get? b=some o)->Q (some (.ref s.heap.objs.size)) { s with heap:=h' }):
  aD (aT prog w) A (gD (.ref it)) Q E s:=by
 obtain⟨h,g,J,B,os⟩:=s;obtain⟨od,H,U,I⟩:=id O;have v:gE ⟨h,g,J,B,os⟩ (.ref it) "dict_itemiterator":=⟨_,l,rfl⟩
 unfold gD;refine ab (gw (bz (name:=az "__next__") v gK
  (bR gK v rX ?_ (rf _))))
 refine ab (ah (ab (ab ?_)))
 first|refine ab (gF v (ah ?_))|refine ab (iG v (ah ?_))
 refine ab (pC l rfl ?_);have G:eJ "dict_itemiterator"=true:=by decide
 simp only[G,if_true]
 show aD _ _ (if (aV d == bF)=true then _ else _) _ _ _;rw[aC (show ¬ ((aV d == bF)=true) from aY)];refine ab (ah (ab (b_ H I ?_)));rw[aC (by simp)];refine ab (ah (ab (fV H I ?_)));rw[aC (by simp)];refine ah ?_;simp only[show ¬ ((i:Int) < 0) from by ext,if_false,ba,L];refine ab ?_
 first|refine ab (gF v (ah ?_))|refine ab (iG v (ah ?_))
 refine ab (om v ?_)
 show aD _ _ (zi (.ref it) 3 (dF ((i:Int)+1)) >>= _) _ _ ⟨h,g,J,B,os⟩;refine ab (cQ l (by simp) λh₁ he₁ hs₁=>?_)
 replace hs₁:cz it h h₁:=hs₁
 replace he₁:iu h₁ it d (i+1) es.size ep ok C:=by
  have e:((i+1:Nat):Int)=(i:Int)+1:=by ext
  unfold iu;rw[e];simpa [dF] using he₁
 have hT₁:gE ⟨h₁,g,J,B,os⟩ (.ref it) "dict_itemiterator":=⟨_,he₁,rfl⟩
 refine ab (bH (ab (om hT₁ (ab (om hT₁ ?_)))))
 show aD _ _ (mr (.ref it) 6 c.key c.val) _ _ ⟨h₁,g,J,B,os⟩;unfold mr;refine ab (uK ?_);have he₂:iu (h₁.push { cls:=.type "tuple",data:=.seq #[c.key,c.val] }) it d (i+1) es.size ep ok C:=ak _ he₁;generalize hh₂:h₁.push { cls:=.type "tuple",data:=.seq #[c.key,c.val] }=h₂ at he₂;have hz₁:h₁.objs.size=h.objs.size:=hs₁.1;have q:it < h.objs.size:=aI l;have ht₂:h₂.get? h.objs.size=some { cls:=.type "tuple",data:=.seq #[c.key,c.val] }:=by rw[<- hh₂,<- hz₁];exact ay _ rfl
 have hz₂:h₂.objs.size=h.objs.size+1:=by rw[<- hh₂,cu,hz₁]
 have hk₂:∀b o,b≠it->h.get? b=some o->h₂.get? b=some o:=λb o u e=>by rw[<- hh₂];exact ak _ (hs₁.extBut b o u e)
 show aD _ _ (lU (.ref it) >>= _) _ _ ⟨h₂,g,J,B,os⟩;rw[hz₁];clear hh₂ he₁ hs₁ hT₁ hz₁ h₁;refine ab ?_;unfold lU;refine ab (b8 he₂ rfl (x:=.none) rfl (ah ?_));simp only[if_true];refine ab (b8 he₂ rfl (x:=ok) rfl (ab (b8 he₂ rfl (x:=C) rfl ?_)));refine ab (cQ he₂ (by simp) λh₃ he₃ hs₃=>?_)
 replace hs₃:cz it h₂ h₃:=hs₃
 replace he₃:iu h₃ it d (i+1) es.size ep c.key C:=he₃
 refine ab (cQ he₃ (by simp) λh₄ he₄ hs₄=>?_)
 replace hs₄:cz it h₃ h₄:=hs₄
 replace he₄:iu h₄ it d (i+1) es.size ep c.key c.val:=he₄
 refine ab (cQ he₄ (by simp) λh₅ he₅ hs₅=>?_)
 replace hs₅:cz it h₄ h₅:=hs₅
 replace he₅:vX h₅ it d (i+1) es.size ep c.key c.val h.objs.size:=he₅
 refine ab (cQ he₅ (by simp) λh₆ he₆ hs₆=>?_)
 replace hs₆:cz it h₅ h₆:=hs₆
 replace he₆:vX h₆ it d (i+1) es.size ep c.key c.val h.objs.size:=he₆
 refine ab (gO (ah (ah ⟨_,rfl,ah (Y h₆ he₆ ?_ ?_ ?_)⟩)))
 ·exact hs₆.extBut _ _ (dj q) (hs₅.extBut _ _ (dj q) (hs₄.extBut _ _ (dj q) (hs₃.extBut _ _ (dj q) ht₂)))
 ·show h₆.objs.size=h.objs.size+1;rw[hs₆.1,hs₅.1,hs₄.1,hs₃.1,hz₂]
 ·exact λb o u e=>hs₆.extBut b o u (hs₅.extBut b o u (hs₄.extBut b o u (hs₃.extBut b o u (hk₂ b o u e))))
theorem Pl{ok q:ag}{Q:Option ag->am->Prop}(hh:A.handled=none)(c:iu s.heap it d i es.size ep ok q)(v:mw s.heap d es ep)(u:es[i]?=none)
  (C:∀h',nQ it s.heap h'->Q none { s with heap:=h' }):aD (aT prog w) A (gD (.ref it)) Q E s:=by
 obtain⟨G,l,B,o⟩:=id v;have g:s.TypeIs (.ref it) "dict_itemiterator":=⟨_,c,rfl⟩
 unfold gD;refine ab (gw (bz (name:=az "__next__") g gK
  (bR gK g rX ?_ (rf _))))
 refine ab (ah (ab (ab ?_)))
 first|refine ab (gF g (ah ?_))|refine ab (iG g (ah ?_))
 refine ab (pC c rfl ?_);have h:eJ "dict_itemiterator"=true:=by decide
 simp only[h,if_true]
 show aD _ _ (if (aV d == bF)=true then _ else _) _ _ s;rw[aC (show ¬ ((aV d == bF)=true) from aY)];refine ab (ah (ab (b_ l o ?_)));rw[aC (by simp)];refine ab (ah (ab (fV l o ?_)));rw[aC (by simp)];refine ah ?_;simp only[show ¬ ((i:Int) < 0) from by ext,if_false,ba,u];refine ab ?_
 first|refine ab (gF g (ah ?_))|refine ab (iG g (ah ?_))
 show aD _ _ (zi (.ref it) 2 .none >>= _) _ _ s;refine ab (mE c rfl (by simp) ?_)
 show aD _ _ (xj (.type "StopIteration") [] >>= _) _ _ _;refine ab ?_;simp only[xj,newTuple];refine ab (b9 ?_ (by size_fits));refine ab (m:=kA _ _) (pA (a:=bF) (by first|rfl|(simp only[kA];rfl)) ?_);refine b9 ?_ (by size_fits);simp only[raiseNew];refine ab (vT ?_);rw[show A.in1.handled=none from hh];refine ab (ah (y8 ?_));refine ab (dk (T:="StopIteration") (b:=true) ⟨_,ay _ rfl,rfl⟩ mF ?_);exact ah (C _ (((bV ..).extBut.push _).push _))
end
def IG(a:ao)(n:Nat):It:=
 ⟨λi H=>∃c p,H a=some (ic a c)/\c.length=n/\c[i]?=some p,λi H x g=>∃T k v,x=.ref T/\H T=none/\(∀c,H a=some (ic a c)->∃p,c[i]?=some p/\p.2.1=k/\p.2.2=v)/\g=ff H T (.tup [.ref k,v]),λi H=>∃c,H a=some (ic a c)/\c.length=n/\n<=i⟩
section
variable{X:Cx}{cp:List (ao×Obj)}{σ:St}{H:Hp}{s:am}{a:ao}
theorem Eh{g:List (NK×ao×V)}(I:Inv X cp σ H s)(e:H a=some (ic a g)):
  (a == bO)=false/\∃c,mw s.heap a c g.length/\c.size=g.length/\∀(i:Nat)(p:NK×ao×V),g[i]?=some p->∃h:fm,c[i]?=some h/\h.key=.ref p.2.1/\RelV p.2.2 h.val:=by
 obtain⟨⟨z,y,xs,l,o,c,ep,L,J,G,v,U,E⟩,Q,O⟩:=(show eU X.prog X.w H s.heap a (ic a g) from I.hok a _ e)
 have u:g.length=xs.length:=bZ l;subst E;refine⟨y,c,⟨o,L,J,by rw[u];exact G⟩,?_,λi p C=>?_⟩
 ·rw[u,<- cP,v,ae]
 ·obtain⟨q,B,r⟩:=yp l C;refine⟨wT q,by rw[<- eR,v,ar,B];rfl,?_,r.2.2⟩;rw[r.2.1];rfl
theorem Op{G ys:List (NK×ao×V)}(I:Inv X cp σ H s)(e:H a=some (ic a G))(e':H a=some (ic a ys)){i:Nat}{p:NK×ao×V}(h:G[i]?=some p):∃q,ys[i]?=some q/\q.2.1=p.2.1/\q.2.2=p.2.2:=by
 obtain⟨_,x1,o,z1,U⟩:=Eh I e;obtain⟨_,x2,l,z2,Q⟩:=Eh I e';obtain⟨o1,Y,_,d1⟩:=o;obtain⟨o2,E,_,g⟩:=l;rw[Y]at E;cases E;rw[d1]at g;injection g with g d3
 subst g;have C:i < ys.length:=by rw[<- d3];exact (ac.mp h).1
 obtain⟨u,hu,O,L⟩:=U i p h;obtain⟨v,B,c,J⟩:=Q i _ (ai C);rw[hu]at B;cases B;rw[O]at c;injection c with c
 exact⟨_,ai C,c.symm,RelV.inj J L⟩
end
theorem Qb{P:Program}{w:bE}{K:aj}{ts:List Expr}{k:Nat}{pos:Pos}(a l:ao)(n:Nat):tR P w K (.Tuple ts k pos) (IG a n) [l] l (λi h=>∃ok L,iu h l a i n n ok L) where
 mem:=by simp
 obj:=λi h pq127 b B=>by
  obtain⟨ok,L,st⟩:=pq127;have e:b=l:=by simpa using B
  subst e;exact⟨_,st,λv z=>by cases z⟩
 keep:=λi h h' pq128 k=>by obtain⟨ok,L,st⟩:=pq128;exact⟨ok,L,k l (by simp) _ st⟩
 item:=by
  intro X hP hw hK hc i O s σ H E I hf pq157 hg;obtain⟨ok,L,st⟩:=pq157;subst hP hw hK;obtain⟨es,p,hq,hn,hx⟩:=hg;obtain⟨_,G,en,hz,hk⟩:=Eh I hq;obtain⟨u,hu,ku,ru⟩:=hk i p hx;obtain⟨f0,f1,f2,f3,f4,f5⟩:=hf l (by simp);subst hn;have U:iu s.heap l a i G.size es.length ok L:=by rw[hz];exact st
  refine Wc U en hu λh' ho hT hsz hk'=>?_;refine⟨_,rfl,wpAny_letOwnedTupleGo_items ho λh2 he2 hs2=>?_⟩;have hit:l < s.heap.objs.size:=aI st;have C:H s.heap.objs.size=none:=I.hok.fresh (av _);have keep:∀b o,b≠l->s.heap.get? b=some o->h2.get? b=some o:=λb o B J=>(hs2.2 b B).trans (hk' b o B J);have hT2:h2.get? s.heap.objs.size=some { cls:=.type "tuple",data:=.seq #[u.key,u.val] }:=(hs2.2 _ (dj hit)).trans hT;have ne:∀b o,H b=some o->b≠l:=λb o q z=>by rw[z,f0]at q;cases q
  have I2:Inv X O σ (ff H s.heap.objs.size (.tup [.ref p.2.1,p.2.2])) { s with heap:=h2,toks:=s.toks }:=by
   refine I.step (g':=s.gens) (d':=s.drawn) (ch:=[l]) (λb B=>?_) (λb o _ _ g J _=>keep b o (λz=>g (by simp[z])) J)
    (λb o _ _ g J _=>⟨o.slots,keep b o (λz=>g (by simp[z])) J⟩) (λb o g J n1=>by rw[fO (bb (aI J))];exact n1) (λb o g J=>⟨o,keep b o (λz=>g (by simp[z])) J⟩)
    (λb ys q=>by rw[fO (mI q C)];exact q) (λb o ys q=>by rw[fO (mI q C)];exact q) (λb ps q=>⟨#[],by rw[fO (mI q C),q];simp⟩) (λm hm=>?_) ?_ I.bare
   ·have c:b=l:=by simpa using B
    subst c;exact⟨f3,f1,f4,f5⟩
   ·obtain⟨o,G,ep,J,r⟩:=hm;exact⟨o,G,ep,keep _ o f1.symm J,r⟩
   ·intro b o q;by_cases B:b=s.heap.objs.size
    ·subst B;rw[kh]at q;cases q;exact⟨by show 2<=sizeLine;decide,[u.key,u.val],.cons ku (.cons ru .nil),⟨_,hT2,rfl,⟨_,rfl⟩,rfl⟩⟩
    ·rw[fO B]at q;have:=ne b o q;refine (I.hok b o q).stay (λc v g r=>keep c v ?_ r) (λc Y=>by rw[fO (mI Y C)];exact Y) λc ys Y=>by rw[fO (mI Y C)];exact Y
     rcases g with z|z
     ·rw[z];exact this
     ·exact ne c _ z
  refine⟨.ref s.heap.objs.size,_,I2,rfl,⟨_,p.2.1,p.2.2,rfl,C,λys hy=>Op I hq hy hx,rfl⟩,⟨_,_,by rw[hz]at he2;exact he2⟩,λb B=>?_⟩;rw[fO]
  ·exact (hf b B).1
  ·intro z;have Y:b=l:=by simpa using B
   rw[<- z,Y]at hit;exact bn hit (cq _)
 done:=by
  intro X hP hw hK hc i O s σ H E I hf pq158 hg;obtain⟨ok,L,st⟩:=pq158;subst hP hw hK;obtain⟨es,hq,hn,hx⟩:=hg;obtain⟨_,G,en,hz,hk⟩:=Eh I hq;obtain⟨f0,f1,f2,f3,f4,f5⟩:=hf l (by simp);subst hn;have U:iu s.heap l a i G.size es.length ok L:=by rw[hz];exact st
  exact Pl (I.ok.hd hc) U en (by simp;ext) λh' eb=>⟨rfl,I.turned (t':=s.toks) (λb o B e=>eb b o B e) f0 f1 f3 f4 f5⟩
 self:=λA i s Q E pq129 h=>by obtain⟨ok,L,st⟩:=pq129;exact kcp_self st h
section
variable{X:Cx}{o:Expr}{fa:CE}{ts:List Expr}{k:Nat}{em ec dc:Pos}
theorem Qx(ho:SE X o fa)(J:dI o "items" X.env (eval o X.env)=eval o X.env)(G:(ec.endLine == dc.line)=true):
  SI X (.Tuple ts k em) (.Call (.Attribute o "items" ec) [] [] dc) (pq fa):=by
 intro L s σ H R I E;obtain⟨ρ,l,st,lr,sr,q⟩:=E;refine nA J G (fU (ho L s σ H (λx Y=>∃a C,x=.ref a/\Y a=some (ic a C)/\R (IG a C.length) Y) I ⟨ρ,l,st,lr,sr,(aN.bnd q).imp λd eg ρ1 Y x1 B p1 v rv=>?_⟩) λv B z=>?_)
 ·cases rv with
  |@dic a n _ h=>
   obtain⟨b,O,e,J⟩:=aN.getDc (aN.bnd p1) B;obtain⟨hb,I⟩:=aN.chk J;cases (show b=true from hb);obtain⟨C,e3,r⟩:=B.ob n a _ h e;refine⟨a,C,rfl,e3,I.ret B _ λρ H st x s q=>?_⟩;have Y:ρ[n]?=some a:=by obtain⟨τ,eτ,_⟩:=x.pre;rw[eτ];exact wP h
   obtain⟨u,l,g⟩:=s.ob n a _ Y q;have G:u.length=C.length:=by rw[NR.length g,NR.length r]
   refine⟨⟨u,l,G,by show C.length<=(O.map _).length;rw[ae,NR.length r];exact av _⟩,λi d hd=>?_⟩;have U:i < u.length:=by rw[NR.length g];have:=(ac.mp hd).1;rw[ae]at this;exact this
   refine⟨⟨u,_,l,G,ai U⟩,λy H' z=>?_⟩;obtain⟨T,k,v,rfl,E,z,rfl⟩:=z;obtain⟨p,Q,rfl,rfl⟩:=z u l;obtain⟨q,L,o⟩:=yp g Q
   change (O.map _)[i]?=some d at hd
   rw[ar,L]at hd;cases hd;have c:Ex ρ H ρ (ff H T (.tup [.ref p.2.1,p.2.2])):=Ex.new E;exact⟨c,s.new E,.tup (iT.of kh) (.cons (o.2.1.mono c) (.cons (o.2.2.mono c) .nil))⟩
  |_=>exact p1.elim
 ·obtain⟨x,Y,h,G,a,C,rfl,J,H⟩:=z;cases G;obtain⟨hd,u,U,sz,_⟩:=Eh h J;have q:=U;obtain⟨E,g,c,_⟩:=q;refine⟨"dict","dict.items",qT,zP,F.type_dict_items,U.typeIs,λb v=>by injection v with v;subst v;exact⟨E,g,c.2.1⟩,?_⟩;refine gA rfl (og (oi zP U.typeIs F.entry_dict_items (F.args_dict_items_1 _) (Vs hd) ⟨⟨u,_,U⟩,?_⟩));have l:mw (B.heap.push { cls:=.type "dict_items",data:=.fields #[.ref a] }) a u C.length:=⟨E,ak _ g,c,by obtain⟨o',g',_,d'⟩:=U;rw[g]at g';cases g';exact d'⟩
  refine Wx (s:={ B with heap:=B.heap.push { cls:=.type "dict_items",data:=.fields #[.ref a] } }) ⟨_,ay _ rfl,rfl,rfl⟩ l ?_;have I:∀b o,B.heap.get? b=some o->((B.heap.push { cls:=.type "dict_items",data:=.fields #[.ref a] }).push { cls:=.type "dict_itemiterator",data:=.fields #[.none,.bool false,.ref a,.int 0 0,.int u.size 0,.int C.length 0,.none,.none] }).get? b=some o:=λb o e=>ak _ (ak _ e);have Q:B.heap.objs.size<=(B.heap.push { cls:=.type "dict_items",data:=.fields #[.ref a] }).objs.size:=by rw[cu];exact vU _
  refine⟨_,[(B.heap.push { cls:=.type "dict_items",data:=.fields #[.ref a] }).objs.size],_,IG a C.length,Y,rfl,h.kept (t':=B.toks) I,Qb a _ C.length,⟨.none,.none,by rw[<- sz];rw[sz];exact (by rw[<- sz];exact ay _ rfl)⟩,λb hb=>?_,H⟩;have e:b=(B.heap.push { cls:=.type "dict_items",data:=.fields #[.ref a] }).objs.size:=by simpa using hb
  subst e;exact h.fpOk Q (h.hok.fresh Q)
end
def yI:wH:=λq c tg e=>vM e λo m p as v h=>v0 as λu=>F9 tg λ_ _ _ l=>wh (m=az "items"/\(p.endLine == v.line)=true/\Ev o=true) λz=>(q.e c o).bind λf=>some ⟨pq f.1,λg=>by subst h u l;obtain⟨rfl,u,l⟩:=z;exact Qx (f.2 g) (FD l) u⟩
end MM
namespace MM
open PySem PySem.Spec PyProof.Rows L2
theorem Ki(c:List (D×D))(k v:D):(lG c k v).length<=c.length+1:=by
 unfold lG;split
 ·rw[ae];exact vU _
 ·rw[aH];exact av _
section
variable{X:Cx}{cp:List (ao×Obj)}{σ:St}{ρ:List ao}
theorem PL{H:Hp}{v:V}{d:D}{p:D×D}(r:dA X.K ρ H v d)(h:Fy d=some p):∃(a:ao)(x y:V),v=.ref a/\iT X.K H a [x,y]/\dA X.K ρ H x p.1/\dA X.K ρ H y p.2/\m5 true p.1=true:=by
 unfold Fy at h;split at h
 ·split at h
  ·rename_i c;cases h;cases r with
   |tup hq rs=>
    cases rs with
    |cons r1 rs=>
     cases rs with
     |cons r2 rs=>
      cases rs;exact⟨_,_,_,rfl,hq,r1,r2,c⟩
  ·cases h
 ·cases h
theorem Lh(hc:X.calm=true){A:bv}(hh:A.handled=none)(hu:A.units+10 < cA){R:BF->am->Prop}(d g L:ao)(n:Nat)(ha:ρ[n]?=some d)(nL:L∉ρ)(O:List V)(all:List D):
  ∀(ds:List D)(B:List (D×D))(j:Nat)(i:Int)(tok:Tok)(s:am)(H:Hp)(st:aZ)(cx:List (D×D)),all.drop j=ds->pj ds=some B->Inv X cp σ H s->SR X.K ρ H st->st[n]?=some (.dct true cx)->H L=some (.lst O)->bT X.K ρ H O all ->
  nW X cp H g->s.heap.IsListIter g L j->cx.length+ds.length < sizeLine ->
  (∀C G,Inv X cp σ C G->SR X.K ρ C (st.set n (.dct true (t8 cx B)))->Ex ρ H ρ C->R (.ok (.ret .none)) G) ->
  i6 (aT X.prog X.w) A (.builtin "dict.update.loop" ⟨[.ref d,.ref g,.int i tok,.none],[]⟩) R s
 |[],B,j,i,tok,s,H,st,cx,hd,h,I,sr,hn,hL,rs,hf,hi,hz,hR=>by
  cases h;obtain⟨f0,f1,f2,Y,U,Q⟩:=hf;obtain⟨its,rv,pl,_⟩:=I.list (gY.of hL);refine fW (b:=Builtin.«dict.update.loop») rfl ?_;rw[dZ zy _];unfold Builtin.«dict.update.loop»;simp only[];have hj:all.length<=j:=by have:=cR eM hd;simp at this;ext
  refine ab (xG (A:=A.in1) hh hi pl.isList (by rw[iZ];rw[aF,<- rv.length,rs.length];exact hj) λh' hx=>?_)
  wp_walk
  refine hR H _ (I.turned (t':=s.toks) (λb o q e=>hx b o q e) f0 f1 Y U Q) ?_ Ex.refl;have:st.set n (.dct true (t8 cx []))=st:=by show st.set n (.dct true cx)=st;obtain⟨h1,h2⟩:=ac.mp hn;rw[<- h2];exact uO h1
  rw[this];exact sr
 |e::ds,B,j,i,tok,s,H,st,cx,hd,h,I,sr,hn,hL,rs,hf,hi,hz,hR=>by
  have hf':=hf;obtain⟨f0,f1,f2,Y,U,Q⟩:=hf;unfold pj at h;rw[mv]at h;obtain⟨p,hp1,h⟩:=h;rw[dC]at h;obtain⟨B,hps,rfl⟩:=h;obtain⟨its,rv,pl,_⟩:=I.list (gY.of hL);have hej:all[j]?=some e:=by have:=cR (·[0]?) hd;simpa using this
  obtain⟨v,hv,rve⟩:=rs.get hej;obtain⟨a,x,y,rfl,hq,rx,ry,hk⟩:=PL rve hp1;obtain⟨u,hu',ru⟩:=rv.get hv;cases ru;refine fW (b:=Builtin.«dict.update.loop») rfl ?_;rw[dZ zy _];unfold Builtin.«dict.update.loop»;simp only[];refine ab (wZ (A:=A.in1) hi pl.isList (by simpa using hu') λh' l hs=>?_);have I1:Inv X cp σ H { s with heap:=h' }:=I.turned (t':=s.toks) (λb o q e=>(hs.2 b q).trans e) f0 f1 Y U Q;obtain⟨us,rus,pt,_⟩:=I1.tuple hq;obtain⟨ux,uy,rfl,r1,r2⟩:∃ux uy,us=[ux,uy]/\RelV x ux/\RelV y uy:=by
   cases rus with
   |cons r1 t=>
    cases t with
    |cons r2 t=>cases t;exact⟨_,_,rfl,r1,r2⟩
  refine ab (bH (ab (iw (K5 (s:={ s with heap:=h' }) pt ?_))));have I2:=I1.pinned (fp:=[g]) (λb q=>by rw[aJ.mp q];exact hf') (λb q=>by rw[aJ.mp q];obtain⟨o,J,c,dt⟩:=l;exact⟨o,J,λv z=>by rw[dt]at z;cases z⟩)
  refine bH (KJ (A:=A.in1) (by show A.units+1+2 < cA;ext) I2 sr ha hn rx hk (by simp at hz;ext) ry r1 r2 λC G I' sr' x'=>?_);refine ah ⟨gz zy _,?_⟩;have hlt:=(ac.mp hn).1;have hi2:G.heap.IsListIter g L (j+1):=by
   obtain⟨o,J,r⟩:=l;refine⟨o,?_,r⟩;have hm:(g,o)∈cp++lO [g] h':=by refine bo _ ?_;simp[lO,J]
   exact (I'.pin (g,o) (bo _ hm)).1
  have hit:C g=none:=by
   obtain⟨o,J,r⟩:=l;have hm:(g,o)∈cp++lO [g] h':=by refine bo _ ?_;simp[lO,J]
   exact (I'.pin (g,o) (bo _ hm)).2.1
  refine Lh hc hh hu d g L n ha nL O all ds B (j+1) (i+1) _ G C _ (lG cx p.1 p.2) (by rw[<- zQ,hd];rfl) hps I'.unpinned sr' (au hlt) (x'.lst L O nL hL) (rs.mono x') ⟨hit,f1,f2,Y,U,Q⟩ hi2 (by have:=Ki cx p.1 p.2;simp at hz;ext) λH3 s3 I3 E x3=>?_;rw[Ct]at E;exact hR H3 s3 I3 E (x'.trans x3)
end
section
variable{X:Cx}
theorem Gv:∀{ds:List D}{ps:List (D×D)},pj ds=some ps->ps.length=ds.length
 |[],_,h=>by cases h;rfl
 |d::ds,ps,h=>by unfold pj at h;rw[mv]at h;obtain⟨p,_,h⟩:=h;rw[dC]at h;obtain⟨g,c,rfl⟩:=h;simp[Gv c]
def Dr(K:aj)(g:List D->M D):List V->Hp->VK->Prop:=λxs H Q=>∃a c ρ st ds,xs=[.ref a]/\H a=some (.lst c)/\a∉ρ/\SR K ρ H st/\bT K ρ H c ds/\aN K ρ H (g ds st) λr _ ρ' h=>∀v,dA K ρ' h v r->Q v h
theorem SF(hc:X.calm=true)(hu:X.A.units+60 < cA):CallR X (.type "dict") (Dr X.K lN):=by
 intro l s σ H xs us Q I r h;obtain⟨L,vs,ρ,st,ds,rfl,hv,nL,Y,rs,p⟩:=h;obtain⟨u,rfl,rx⟩:=uV r;cases rx;unfold lN at p;cases c:pj ds with
 |none=>rw[c]at p;exact p.elim
 |some ps=>
  rw[c]at p;obtain⟨hk,p2⟩:=aN.chk p;have hlen:=Gv c;obtain⟨its,rv,⟨⟨oc,od,odt,J⟩,n,g,c1,c2,c3⟩,hz⟩:=I.list (gY.of hv);simp only at c1 c2 c3;subst c1 c2 c3;have hh:=I.ok.hd hc;have hLd:L < s.heap.objs.size:=aI g;refine uP (Q₁:=λobj s₁=>obj=.ref s.heap.objs.size/\s₁={ s with heap:=s.heap.push { cls:=.type "dict",data:=.dict #[] } }) rY rfl qU (sS _ ⟨rfl,rfl⟩) λobj s₁ h₁=>?_;obtain⟨rfl,rfl⟩:=h₁;refine⟨⟨_,ay _ rfl,rfl⟩,p_ _ _,?_⟩;have hn:=I.hok.fresh (av s.heap.objs.size);have I1:=I.laid (a:=s.heap.objs.size) (o:=ic s.heap.objs.size []) (h':=s.heap.push { cls:=.type "dict",data:=.dict #[] }) (t':=s.toks) (λ_ _ q=>ak _ q) (av _)
   (B8 (P:=X.prog) (w:=X.w) (xs:=[]) (bx _) (beq_eq_false_iff_ne.mpr (bG (bb I.big))) .nil (nS s.heap) ⟨_,_,ay _ rfl,rfl⟩)
  have x0:Ex ρ H (ρ++[s.heap.objs.size]) (ff H s.heap.objs.size (ic s.heap.objs.size [])):=Ex.newO hn;have s0:SR X.K (ρ++[s.heap.objs.size]) (ff H s.heap.objs.size (ic s.heap.objs.size [])) (st++[.dct true []]):=(Y.new hn).keepO (Y.fresh hn) ⟨[],kh,.nil⟩;have C:(ρ++[s.heap.objs.size])[st.length]?=some s.heap.objs.size:=by rw[<- Y.len];simp
  have O:L≠s.heap.objs.size:=bb hLd;have hv1:ff H s.heap.objs.size (ic s.heap.objs.size []) L=some (.lst vs):=by rw[fO O];exact hv
  have nL1:L∉ρ++[s.heap.objs.size]:=by simp only[aX,aJ,not_or];exact⟨nL,O⟩
  have rs1:=rs.mono x0;have E:(s.heap.push { cls:=.type "dict",data:=.dict #[] }).get? L=some { cls:=.type "list",data:=.seq its.toArray n,slots:=J }:=ak _ g;have hT:gE { s with heap:=s.heap.push { cls:=.type "dict",data:=.dict #[] } } (.ref L) "list":=⟨_,E,rfl⟩
  unfold Builtin.«dict.__init__»
  wp_walk using ky hT,T6 (A:=X.A.in1.in1) hh E
  intro h' U kp;have I2:Inv X l σ _ { s with heap:=h',toks:=U }:=I1.kept (t':=U) kp;simp only[vk,if_true];refine ab (gu ?_);have hL2:h'.get? L=some { cls:=.type "list",data:=.seq its.toArray n,slots:=J }:=kp _ _ E;refine ab (ig ⟨_,hL2,rfl,n,rfl⟩ ?_);refine ah ⟨gz zy _,?_⟩;have I3:Inv X l σ _ { s with heap:=h'.push { cls:=.type "list_iterator",data:=.fields #[.ref L,.int 0 0] },toks:=U }:=I2.kept (t':=U) λb o e=>ak _ e;refine Lh (X:=X) (A:=X.A.in1) hc hh (by show X.A.units+1+10 < cA;ext) s.heap.objs.size h'.objs.size L st.length C nL1 vs ds ds ps 0 0 0 _ _ _ [] rfl c I3 s0 (by simp) hv1 rs1 (I2.fpOk (av _) (I2.hok.fresh (av _))) ⟨_,ay _ rfl,rfl,rfl⟩ (by rw[lx];simp;ext) λG s' I' B x'=>?_;refine⟨rfl,.ref s.heap.objs.size,G,I',rfl,?_⟩;have e1:(st++[MO.dct true []]).set st.length (.dct true (t8 [] ps))=st++[.dct true (t8 [] ps)]:=by simp
  rw[e1]at B;have p3:∀ρ' G,Ex ρ H ρ' G->SR X.K ρ' G (st++[.dct true (t8 [] ps)])->∀v,dA X.K ρ' G v (.dic st.length)->Q v G:=p2;obtain⟨es,ee,_⟩:=B.ob st.length _ (.dct true (t8 [] ps)) C (by simp);exact p3 _ G (x0.trans x') B _ (.dic ⟨_,ee,.inr rfl⟩ C)
theorem TM{e:Expr}{v:CA}{x:Str}{p pos:Pos}(Y:CallR X (.type "dict") (Dr X.K lN))(U:Gl X x)(O:X.mg x=none)(h:cM x=some (.type "dict"))(u:SL X e v)(L:x≠"__name__")(o:(x == ("__debug__":Str))=false)
  (q:starEach [e] X.env=[(false,eval e X.env)]):SE X (.Call (.Name x p) [e] [] pos) (ir lN v):=
 (Hz Y U O h (qA u uz q) L o q rfl).of λσ H Q h_=>h_.el λρ l st J C p=>⟨ρ,l,st,J,C,p.bnd.imp λds c ρ1 H1 x1 E G a B u I h g=>⟨a,B,ρ1,c,ds,rfl,h,I,E,g,G⟩⟩
end
def A4:kJ:=sB "dict" (λc p=>c.tag p 21) lN λc u g m a s=>TM (SF c u) g m (by nofun) a (uU (by nofun)) (by nofun) s
section
variable{prog:Program}{w:bE}{A:bv}{R:BF->am->Prop}{I:ao}{fp wr:List ao}{n:Nat}{P:Nat->ag->Prop}{St:Nat->bA->Prop}{kw:List (Str×ag)}{Kp:bA->Prop}
theorem QE(W:Walks prog w A.in1 I fp wr n P St)(bt:Nat->Nat->Bool)(hcmp:AZ prog w A.in1 .Gt P Kp bt)(S:ao)(hSf:S∉fp)
  (kp:∀h h':bA,Kp h->(∀b o,b∉wr->b≠S->h.get? b=some o->h'.get? b=some o)->Kp h'):
  ∀(k j:Nat)(s:am)(G:ag)(c:Nat),n-(j+1)=k->j+1<=n->St (j+1) s.heap->P (mV bt j) G->Kp s.heap ->
  s.heap.get? S=some { cls:=.type "list",dict:=none,data:=.seq #[G,G] c,slots:=#[] } ->
  (∀v h' tk,P (mV bt (n-1)) v->(∀b o,b∉wr->b≠S->s.heap.get? b=some o->h'.get? b=some o)->R (.ok (.ret v)) { s with heap:=h',toks:=tk }) ->
  i6 (aT prog w) A (.builtin "max.loop" ⟨[.ref I,.none,.ref S],kw⟩) R s:=by
 have hSw:S∉wr:=λh=>hSf (W.sub _ h);have B:(toString "max"++toString ".loop":String)="max.loop":=by decide
 intro k
 induction k with
 |zero=>
  intro j s G c hk hj L H hK hS hR;have hin:j+1=n:=by ext
  refine fW iP ?_;rw[dZ cV _]
  show aD _ A.in1 (kW (.ref S) >>= _) _ _ s;refine ab (cN hS rfl ?_)
  show aD _ A.in1 (tryCatch (gD (.ref I)) _ >>= _) _ _ s;refine ab (iw (W.done s _ _ (hin ▸ L) λh' tk l=>?_));have E:=l S _ hSw hS
  show aD _ A.in1 (updateSeq S (λ_=>#[]) >>= _) _ _ _;refine ab ?_;refine t5 E rfl (ab (gO (ah ?_)));refine hR G _ tk (by rw[<- hin];exact H) λb o q g e=>(cI _ _ (bG g)).trans (l b o q e)
 |succ k ih=>
  intro j s G c hk hj L H hK hS hR;have O:j+1 < n:=by ext
  refine fW iP ?_;rw[dZ cV _]
  show aD _ A.in1 (kW (.ref S) >>= _) _ _ s;refine ab (cN hS rfl ?_)
  show aD _ A.in1 (tryCatch (gD (.ref I)) _ >>= _) _ _ s;refine ab (iw (W.item (j+1) s _ _ O L λv h' tk hP J l=>?_));have E:=l S _ hSw hS;have U:Kp h':=kp _ _ hK λb o hb _ e=>l b o hb e
  show aD _ A.in1 (tryCatch (kq [v,v] (richCompare .Gt v G >>= _)) _ >>= _) _ _ _;refine ab (iw (bH (ab (hcmp (j+1) (mV bt j) v G _ _ _ U hP H ?_))));refine ab (bH (fj ?_));refine ab (gO (ah ?_));cases hb:bt (j+1) (mV bt j) with
  |true=>
   simp only[if_true];refine ab ?_;refine t5 E rfl (ab (gO ?_));rw[B];refine ah ⟨gz cV _,ih (j+1) _ v _ (by ext) O (W.frame _ _ _ J λb hbf o e=>?_) (by simp only[mV,hb,if_true];exact hP) (kp _ _ U λb o _ g e=>(cI _ _ (bG g)).trans e) (bJ _ E rfl)
    λv' Y u Q C=>?_⟩
   ·exact (cI _ _ (λh:S=b=>hSf (by rw[h];exact hbf))).trans e
   ·exact hR v' Y u Q λb o q g e=>C b o q g ((cI _ _ (bG g)).trans (l b o q e))
  |false=>
   simp only[aL,if_false];refine ab (gO ?_);rw[B];refine ah ⟨gz cV _,ih (j+1) _ G c (by ext) O J (by simp only[mV,hb,aL,if_false];exact H) U E λv' Y u Q C=>?_⟩;exact hR v' Y u Q λb o q g e=>C b o q g (l b o q e)
theorem Wo(W:Walks prog w A.in1 I fp wr n P St)(bt:Nat->Nat->Bool)(G:AZ prog w A.in1 .Gt P Kp bt)(S:ao)(u:S∉fp)
  (L:∀h h':bA,Kp h->(∀b o,b∉wr->b≠S->h.get? b=some o->h'.get? b=some o)->Kp h') (hn:0 < n) {s:am}{c:Nat} (O:St 0 s.heap) (hK:Kp s.heap)
  (hS:s.heap.get? S=some { cls:=.type "list",dict:=none,data:=.seq #[] c,slots:=#[] })
  (hR:∀v h' tk,P (mV bt (n-1)) v->(∀b o,b∉wr->b≠S->s.heap.get? b=some o->h'.get? b=some o)->R (.ok (.ret v)) { s with heap:=h',toks:=tk }):
  i6 (aT prog w) A (.builtin "max.loop" ⟨[.ref I,.none,.ref S],kw⟩) R s:=by
 have U:S∉wr:=λh=>u (W.sub _ h);have l:(toString "max"++toString ".loop":String)="max.loop":=by decide
 refine fW iP ?_;rw[dZ cV _]
 show aD _ A.in1 (kW (.ref S) >>= _) _ _ s;refine ab (cN hS rfl ?_)
 show aD _ A.in1 (tryCatch (gD (.ref I)) _ >>= _) _ _ s;refine ab (iw (W.item 0 s _ _ hn O λv h' tk hP C q=>?_));have J:=q S _ U hS;have hK':Kp h':=L _ _ hK λb o hb _ e=>q b o hb e
 show aD _ A.in1 (updateSeq S (λ_=>#[v,v]) >>= _) _ _ _;refine ab ?_;refine t5 J rfl ?_;rw[l];refine ah ⟨gz cV _,QE W bt G S u L _ 0 _ v _ rfl hn (W.frame _ _ _ C λb Q o e=>?_) hP (L _ _ hK' λb o _ g e=>(cI _ _ (bG g)).trans e) (bJ _ J rfl) λv' h'' B Y E=>?_⟩
 ·exact (cI _ _ (λh:S=b=>u (by rw[h];exact Q))).trans e
 ·exact hR v' h'' B Y λb o H g e=>E b o H g ((cI _ _ (bG g)).trans (q b o H e))
end
section
variable{prog:Program}{w:bE}{A:bv}{E:ag->am->Prop}{s:am}
theorem NA(a v:ag):argsOk "max" ⟨[a],[(az "default",v)]⟩:=by unfold argsOk;kernel_rfl
theorem U4{l:ao}{items:Array ag}{dv:Option ag}{Q:ag->am->Prop}(hh:A.handled=none)(G:s.heap.IsList l items)(O:0 < items.size)(L:Nat->Nat->Bool)
  (u:AZ prog w A.in1 .Gt (λi v=>items[i]?=some v) (λh=>∀b o,s.heap.get? b=some o->h.get? b=some o) L)
  (U:∀v h' C,items[mV L (items.size-1)]?=some v->(∀b o,s.heap.get? b=some o->h'.get? b=some o)->Q v { s with heap:=h',toks:=C }):
  aD (aT prog w) A (call (.builtin "max") [.ref l] (dv.toList.map λd=>(az "default",d))) Q E s:=by
 have c:(toString "max"++toString ".loop":String)="max.loop":=by decide
 have q:l < s.heap.objs.size:=by obtain⟨_,e,_⟩:=G;exact aI e
 refine qV vY vm vn (by cases dv with|none=>exact PySem.F.args_max1 _|some d=>exact NA _ _) ?_;have I:fT "max" ["key","default"] 0 ⟨[],dv.toList.map λd=>(az "default",d)⟩=pure [none,dv]:=by cases dv<;>rfl
 show aD _ A.in1 (fT "max" ["key","default"] 0 ⟨[],dv.toList.map λd=>(az "default",d)⟩ >>= _) _ _ s;refine ab (pA I ?_);refine ab (ah ?_);refine ab (ig G ?_);refine ab (b9 ?_);have B:s.heap.objs.size < (s.heap.push { cls:=.type "list_iterator",data:=.fields #[.ref l,.int 0 0] }).objs.size:=by rw[cu];exact kz _
 have J:(s.heap.push { cls:=.type "list_iterator",data:=.fields #[.ref l,.int 0 0] }).objs.size∉[s.heap.objs.size,l]:=λg=>by
  rcases aP.mp g with e|g
  ·exact dj B e
  ·rw[aJ.mp g]at B;exact bn (p0 q B) (cq _)
 rw[c];refine ah ⟨gz cV _,Wo (Kp:=λh=>∀b o,s.heap.get? b=some o->h.get? b=some o) (vS (A:=A.in1) hh s.heap.objs.size l (bb q) items) L u _ J (λh h' hK H b o e=>H b o (λg=>?_) (λz=>?_) (hK b o e)) O ?_ ?_ (ay _ rfl) λv h' C Y H=>?_⟩
 ·exact bn (aI e) (by rw[aJ.mp g];exact cq _)
 ·subst z;exact bn (p0 (aI e) B) (cq _)
 ·exact⟨⟨_,ak _ (ay _ rfl),rfl,rfl⟩,(G.push _).push _⟩
 ·exact λb o e=>ak _ (ak _ e)
 ·refine U v h' C Y λb o e=>H b o (λg=>?_) (λz=>?_) (ak _ (ak _ e))
  ·exact bn (aI e) (by rw[aJ.mp g];exact cq _)
  ·subst z;exact bn (p0 (aI e) B) (cq _)
theorem UG{l:ao}{items:Array ag}{dv:ag}{Q:ag->am->Prop}(hh:A.handled=none)(q:s.heap.IsList l items)(B:items.size=0)
  (G:∀(h':bA)(g:Nat),(∀b o,s.heap.get? b=some o->h'.get? b=some o)->Q dv { s with heap:=h',toks:=g }):
  aD (aT prog w) A (call (.builtin "max") [.ref l] [(az "default",dv)]) Q E s:=by
 have c:(toString "max"++toString ".loop":String)="max.loop":=by decide
 have h:l < s.heap.objs.size:=by obtain⟨_,e,_⟩:=q;exact aI e
 refine qV vY vm vn (NA _ _) ?_;have v:fT "max" ["key","default"] 0 ⟨[],[(az "default",dv)]⟩=pure [none,some dv]:=rfl
 show aD _ A.in1 (fT "max" ["key","default"] 0 ⟨[],[(az "default",dv)]⟩ >>= _) _ _ s;refine ab (pA v ?_);refine ab (ah ?_);refine ab (ig q ?_);refine ab (b9 ?_);have H:s.heap.objs.size < (s.heap.push { cls:=.type "list_iterator",data:=.fields #[.ref l,.int 0 0] }).objs.size:=by rw[cu];exact kz _
 rw[c];have W:=vS (prog:=prog) (w:=w) (A:=A.in1) hh s.heap.objs.size l (bb h) items;refine ah ⟨gz cV _,fW iP ?_⟩;rw[dZ cV _]
 show aD _ A.in1 (kW (.ref (s.heap.push { cls:=.type "list_iterator",data:=.fields #[.ref l,.int 0 0] }).objs.size) >>= _) _ _ _;refine ab (cN (ay _ rfl) rfl ?_)
 show aD _ A.in1 (tryCatch (gD (.ref s.heap.objs.size)) _ >>= _) _ _ _;refine ab (iw (W.done _ _ _ ?_ λh' g u=>?_))
 ·rw[B];exact⟨⟨_,ak _ (ay _ rfl),rfl,rfl⟩,(q.push _).push _⟩
 ·show aD _ A.in1 (PySem.rule _ >>= _) _ _ _;refine ab (gu (ah ?_));refine G h' g λb o e=>u b o (λC=>?_) (ak _ (ak _ e));exact bn (aI e) (by rw[aJ.mp C];exact cq _)
end
section
variable{X:Cx}{cp:List (ao×Obj)}{σ:St}{H:Hp}{s:am}
theorem U6(hc:X.calm=true)(I:Inv X cp σ H s){l:ao}{n:Int}{c:List Int}{dv:ag}{Q:VK}(h:gY X.K H l ((n::c).map V.int))(q:Q (.int (c.foldl max n)) H):aD (aT X.prog X.w) X.A (call (.builtin "max") [.ref l] [(az "default",dv)]) (EP X cp σ Q) X.xe s:=by
 obtain⟨its,rv,pl,hz⟩:=I.list h;obtain⟨ys,e,g⟩:=Mb (Hl rv);have C:=pl.isList;rw[e]at C;have hsz:ys.size=c.length+1:=by have:=cR eM g;simpa using this.symm
 refine U4 (dv:=some dv) (I.ok.hd hc) C (by simp[uI];ext) (λi j=>decide (nF ys i > nF ys j)) (λi j U O s' Q E _ h1 h2 h=>CmpOf.ints_gt (P:=λi v=>(uI ys)[i]?=some v) (nF ys) (λ_ _=>yZ) i j U O s' Q E h1 h2 h) λv h' Y B hk=>?_;have e2:(uI ys).size=ys.size:=by simp[uI]
 rw[e2]at B;obtain⟨t,rfl⟩:=yZ B;obtain⟨b1,L⟩:=argBest_gt (nF ys) (ys.size-1);obtain⟨J,f2⟩:=Ge c n;generalize mV (λi j=>decide (nF ys i > nF ys j)) (ys.size-1)=k at b1 L ⊢;have o:nF ys k∈n::c:=by rw[g,y0];exact getD_mem (by rw[<- g];simp;ext)
 have u:c.foldl max n<=nF ys k:=by rw[g]at J;obtain⟨j,G,ej⟩:=mem_getD J;rw[<- ej,<- y0];exact L j (by rw[<- g]at G;simp at G;ext)
 have:nF ys k=c.foldl max n:=zM (f2 _ o) u;rw[this];exact⟨.int (c.foldl max n),H,I.kept (t':=Y) hk,⟨t,rfl⟩,q⟩
end
section
variable{X:Cx}{e d:Expr}{ca:CA}{fd:CE}{p pos kp:Pos}
theorem Of(hc:X.calm=true)(hg:Gl X "max")(hm:X.mg "max"=none)(hv:cM "max"=some (.builtin "max"))(ha:SL X e ca)(hd:SE X d fd)
  (he:starEach [e] X.env=[(false,eval e X.env)]:=by rfl):SE X (.Call (.Name "max" p) [e] [⟨some "default",d,kp⟩] pos) (qD ca fd):=by
 intro E s σ H Q I h;obtain⟨ρ,l,st,lr,sr,q⟩:=h;have O:backTo pos (starEach [e] X.env)=(false,eval e X.env)::backTo pos (starEach [] X.env):=by rw[he];rfl
 refine fJ (xw I hg hm hv ?_ (by decide) (by decide));refine PyProof.Rows.callWith_kw (e:=e) (rest:=[]) (kws:=[⟨some "default",d,kp⟩]) ?_ O (by rw[O];rfl) rfl rfl;rw[O]
 show aD _ _ (Cd [(false,eval e X.env)]) _ _ s;unfold qD at q;refine oX (fU (ha E s σ H (λx J=>∃a B ρ1 c ds,x=.ref a/\J a=some (.lst B)/\a∉ρ1/\SR X.K ρ1 J c/\bT X.K ρ1 J B ds/\LR X.K ρ1 J σ l/\aN X.K ρ1 J (bnd (fd l) (λd=>if ds.length=0 then ret d else oF ds) c) λd x ρ' H'=>∀(v:V),dA X.K ρ' H' v d->Q v H') I
  ⟨ρ,l,st,lr,sr,q.bnd.imp λds c ρ1 J x1 s1 q1 a B na0 na hl L=>⟨a,B,ρ1,c,ds,rfl,hl,na,s1,L,lr.mono x1,q1⟩⟩) λu s1 ⟨x,J,I1,r1,a,B,ρ1,c,ds,ex,hl,na,sr1,L,lr1,q1⟩=>pv ?_)
 subst ex;cases r1;refine PyProof.Rows.kws_cons (fU (hd E s1 σ J (λy G=>∃ρ2 g dd,SR X.K ρ2 G g/\G a=some (.lst B)/\bT X.K ρ2 G B ds/\dA X.K ρ2 G y dd/\aN X.K ρ2 G ((if ds.length=0 then ret dd else oF ds) g) λd x ρ' H'=>∀(v:V),dA X.K ρ' H' v d->Q v H') I1
  ⟨ρ1,l,c,lr1,sr1,q1.bnd.imp λdd g ρ2 G x2 s2 o v rv=>⟨ρ2,g,dd,s2,x2.lst a B na hl,L.mono x2,rv,o⟩⟩) λw s2 ⟨y,G,I2,r2,ρ2,g,dd,U,Y,C,ry,o⟩=>PyProof.Rows.kws_nil ?_)
 show aD _ _ (call (.builtin "max") [.ref a] [(az "default",w)]) _ _ s2;by_cases h0:ds.length=0
 ·rw[aG h0]at o;obtain⟨its,rv,g,hz⟩:=I2.list (gY.of Y);have q:=rv.length;have l:=C.length;exact UG (I2.ok.hd hc) g.isList (by rw[aF];ext) λh' c h=>⟨y,G,I2.kept (t':=c) h,r2,o.ret U y ry⟩
 ·rw[aC h0]at o;unfold oF at o;cases e:mZ ds with
  |none=>rw[e]at o;exact o.elim
  |some ps=>
   rw[e]at o;have:=G5 e C;subst this;cases ps with
   |nil=>exact o.elim
   |cons n ns=>exact U6 hc I2 (gY.of Y) (o.ret U _ (.int _))
end
def Ei:kJ:=λq c e=>IM e λf as ks _ h=>zr f λy _ E=>v1 as λa C=>v1 ks λk B=>wh (y=az "max"/\k.arg=some (az "default")/\c.bl y=true/\qy a=true) λz=>(q.l c a).bind λu=>(q.e c k.value).bind λo=>some ⟨qD u.1 o.1,λg=>by obtain⟨H,d,G⟩:=k;subst h E C B;obtain⟨rfl,rfl,l,v⟩:=z;exact Of g.S.calm (g.gl l).1 (g.gl l).2 (by nofun) (u.2 g) (o.2 g) (qw v)⟩
abbrev v8(h:bA)(z TI TO:ao)(g c:ag):Prop:=h.get? z=some { cls:=.type "zip",dict:=none,data:=.fields #[g,c,.bool false,.ref TI,.ref TO],slots:=#[] }
section
variable{prog:Program}{w:bE}{A:bv}{E:ag->am->Prop}{s:am}
theorem Tp{a:ao}{o:Obj}{Q:Option Obj->am->Prop}(h:s.heap.get? a=some o)(g:Q (some o) s):aD (aT prog w) A (loadIfAlive a) Q E s:=by show aD (aT prog w) A (.loadIfAlive a .pure) Q E s;intro p q c;rw[Sem.wp_loadIfAlive,h];exact ah (M:=aT prog w) (A:=A) (E:=E) g p q c
theorem WQ:entryFor table "zip.__getattribute__"=some Builtin.«object.__getattribute__»:=
 entryFor_alias (id':="object.__getattribute__") (by kernel_rfl) (by nofun) (by nofun) (by kernel_rfl)
theorem Og(z TI TO : ao)(name : Str)(u : Tok)(l : kT (.type "zip") name = pure none)(c : (["__module__", "__name__", "__qualname__", "__doc__", "__annotations__"] : List Str).contains name = false)(hsz : name.length+100 <= sizeLine := by size_fits):
  Meets (Builtin.«object.__getattribute__» ⟨[.ref z,.str name u],[]⟩) (λA R s=>lC s.heap z TI TO .none/\raisesAttr (.ref z) name A R s):=
 Meets.of_wp λprog w A R s h=>by
  obtain⟨v,g,d,o,os⟩:=s;obtain⟨q,h⟩:=h;have B:(⟨v,g,d,o,os⟩:am).TypeIs (.ref z) "zip":=⟨_,q,rfl⟩
  unfold Builtin.«object.__getattribute__»
  repeat (any_goals (first|assumption|wp_step))
  simp only[c,aL,if_false]
  repeat (any_goals (first|assumption|wp_step))
  exact wpAny_raiseAttrError h.1 h.2 (attrMsg_fits (by nofun) hsz)
theorem Ws{l:ao}{Q:ag×List ag->am->Prop}(h:Q (.builtin "zip.__getattribute__",[.ref l]) s):aD (aT prog w) A (tm (.builtin "zip.__getattribute__") (.ref l)) Q E s:=by
 unfold tm;have c:BH (.builtin "zip.__getattribute__")=pure (.type "wrapper_descriptor"):=by rfl
 rw[c];refine ab (ah ?_);exact ah h
theorem S3{z TI TO:ao}{Q:Option ag->am->Prop}(hh:A.handled=none)(g:lC s.heap z TI TO .none)(h:∀h' c,(∀b u,s.heap.get? b=some u->h'.get? b=some u)->Q none { s with heap:=h',toks:=c }):
  aD (aT prog w) A (zl (.ref z) (az "keys")) Q E s:=by
 have C:s.TypeIs (.ref z) "zip":=⟨_,g,rfl⟩
 have J:kT (.type "zip") (az "__getattribute__")=pure (some (l_ "zip.__getattribute__")):=by rw[t6,o6];kernel_rfl
 have q:kT (.type "zip") (az "__getattr__")=pure none:=by rw[t6,o6];kernel_rfl
 have o:kT (.type "zip") (az "keys")=pure none:=by rw[t6,o6];kernel_rfl
 unfold zl
 wp_walk using ky C
 refine Ws ?_;refine uG F.slot_zip_getattribute ⟨_,g,rfl⟩ WQ (F.args_zip_getattribute_2 _ _) (Og z TI TO (az "keys") _ o rfl) ⟨g,?_⟩;refine⟨hh,λh' c e l=>?_⟩;obtain⟨I,H,v⟩:=l.there;have G:gE { s with heap:=h',toks:=c } (.ref e) "AttributeError":=⟨_,v,rfl⟩
 have B:isSubtype (.type "AttributeError") (.type "AttributeError")=pure true:=by rw[isSubtype_type];kernel_rfl
 show aD (aT prog w) A (mH (.ref z) (.str (az "keys") s.toks) (.type "zip") (.ref e) none false false) _ _ { s with heap:=h',toks:=c };unfold mH;refine ab (dk G B ?_);rw[aG rfl];unfold hookBehind;rw[aC (by decide),q];refine ab (ah ?_);unfold hookOrError zm
 wp_walk
 exact h h' c λb u z=>l.keeps b u z
def Jf(h:bA)(z TI TO:ao):Prop:=lC h z TI TO .none\/∃(T:ao)(o:Obj)(c:Bool),v8 h z TI TO (dF T) (.bool c)/\h.get? T=some o
theorem K1{z TI TO T:ao}{g:Bool}{o:Obj}{Q:Bool->am->Prop}(hz:v8 s.heap z TI TO (dF T) (.bool g))(l:s.heap.get? T=some o)
  (h:∀h',v8 h' z TI TO (dF T) (.bool true)->cz z s.heap h'->Q false { s with heap:=h' }):aD (aT prog w) A (bM (.ref z)) Q E s:=by
 unfold bM;refine ab (b8 hz rfl (x:=dF T) rfl ?_);refine ab (Tp (a:=(T:Int).toNat) (by rw[ba];exact l) ?_);simp only[Option.isNone_some,aL,if_false];refine ab (b8 hz rfl (x:=.bool g) rfl ?_);cases g with
 |true=>
  rw[aC (by decide)];exact ah (h _ hz ⟨rfl,λ_ _=>rfl⟩)
 |false=>
  rw[aG (by decide)];exact ab (cQ hz (by simp) λh' hz' c=>ah (h h' hz' c))
theorem S6{z TI TO h g q l T:ao}{f1:Bool}{o:Obj}{B u:Nat}{xs ys:Array ag}{x y:ag}{Q:ag->am->Prop}(D:mG z TI TO h g q l)
  (hz:v8 s.heap z TI TO (dF T) (.bool f1)) (O:s.heap.get? T=some o) (H:eS s.heap TI (.ref h) (.ref g))
  (h1:s.heap.IsListIter h q B) (Y:s.heap.IsListIter g l u) (G:s.heap.IsList q xs) (C:s.heap.IsList l ys) (L:xs[B]?=some x) (J:ys[u]?=some y)
  (U:∀h',v8 h' z TI TO (dF T) (.bool true)->h'.IsListIter h q (B+1)->h'.IsListIter g l (u+1)->eS h' s.heap.objs.size x y->h'.objs.size=s.heap.objs.size+1 ->
   (∀c o,c≠z->c≠h->c≠g->s.heap.get? c=some o->h'.get? c=some o)->Q (.ref s.heap.objs.size) { s with heap:=h' }):
  aD (aT prog w) A (Builtin.«zip.__next__» ⟨[.ref z],[]⟩) (λfin I=>∃v,fin=.done (.ret v)/\Q v I) E s:=by
 show aD _ _ (pz (.ref z) 2 >>= _) _ _ _;refine ab (b8 hz rfl (x:=.bool false) rfl ?_)
 show aD _ _ (pz (.ref z) 3 >>= _) _ _ _;refine ab (b8 hz rfl (x:=.ref TI) rfl ?_);refine ab (cN H rfl ?_)
 show aD _ _ (bM (.ref z) >>= _) _ _ _;refine ab (K1 hz O λh₁ hz₁ hs₁=>?_);simp only[aL,if_false];refine ab ?_;rw[<- gB];simp only[kK,nR];refine ab (ab (bH ?_))
 show aD _ _ (bj (.ref h) >>= _) _ _ _;refine ab (oo (h1.extBut hs₁.extBut D.i1z) (G.extBut hs₁.extBut D.l1z) L λh₂ h1₂ hs₂=>ah (ah ?_));refine ab (ab (bH ?_))
 show aD _ _ (bj (.ref g) >>= _) _ _ _;refine ab (oo ((Y.extBut hs₁.extBut D.i2z).extBut hs₂.extBut D.i12.symm) ((C.extBut hs₁.extBut D.l2z).extBut hs₂.extBut D.l2i1) J λh₄ h2₄ hs₄=>ah (ah (ah ?_)));have hsz:h₄.objs.size=s.heap.objs.size:=by rw[hs₄.1,hs₂.1,hs₁.1]
 refine ab (uK (hsz:=by show 2<=sizeLine;decide) (ah ⟨_,rfl,?_⟩))
 show Q (.ref h₄.objs.size) { s with heap:=h₄.push { cls:=.type "tuple",data:=.seq #[x,y] } };have up:∀c o,h₄.get? c=some o->(h₄.push { cls:=.type "tuple",data:=.seq #[x,y] }).get? c=some o:=λc o e=>ak _ e;rw[hsz];refine U _ (up _ _ (hs₄.extBut _ _ D.i2z.symm (hs₂.extBut _ _ D.i1z.symm hz₁))) ((h1₂.extBut hs₄.extBut D.i12).at λo e=>up _ o e) (h2₄.at λo e=>up _ o e) ?_ (by rw[cu,hsz]) λc o c1 c2 c3 e=>up _ _ (hs₄.extBut _ _ c3 (hs₂.extBut _ _ c2 (hs₁.extBut _ _ c1 e)));rw[<- hsz];exact ay _ rfl
theorem VL{z TI TO l g B v T:ao}{f1:Bool}{o:Obj}{G C:Nat}{xs ys:Array ag}{Q:Fin->am->Prop}(hh:A.handled=none)(D:mG z TI TO l g B v)
  (hz:v8 s.heap z TI TO (dF T) (.bool f1)) (hT:s.heap.get? T=some o) (L:eS s.heap TI (.ref l) (.ref g))
  (Y:s.heap.IsListIter l B G) (h2:s.heap.IsListIter g v C) (q:s.heap.IsList B xs) (I:s.heap.IsList v ys) (u:xs[G]?=none\/ys[C]?=none)
  (U:∀h' e,(∀c o,c≠z->c≠TO->c≠l->c≠g->s.heap.get? c=some o->h'.get? c=some o)->(∃o,h'.get? e=some o/\o.cls=.type "StopIteration")->E (.ref e) { s with heap:=h' }):
  aD (aT prog w) A (Builtin.«zip.__next__» ⟨[.ref z],[]⟩) Q E s:=by
 show aD _ _ (pz (.ref z) 2 >>= _) _ _ _;refine ab (b8 hz rfl (x:=.bool false) rfl ?_)
 show aD _ _ (pz (.ref z) 3 >>= _) _ _ _;refine ab (b8 hz rfl (x:=.ref TI) rfl ?_);refine ab (cN L rfl ?_)
 show aD _ _ (bM (.ref z) >>= _) _ _ _;refine ab (K1 hz hT λh₁ hz₁ hs₁=>?_);simp only[aL,if_false];refine ab ?_;rw[<- gB];simp only[kK,nR];refine ab (ab (bH ?_))
 show aD _ _ (bj (.ref l) >>= _) _ _ _;cases H:xs[G]? with
 |none=>
  exact ab (xR hh (Y.extBut hs₁.extBut D.i1z) (q.extBut hs₁.extBut D.l1z) H λh₂ e hs₂ J=>U h₂ e (λc o c1 _ O _ x=>hs₂ _ _ O (hs₁.extBut _ _ c1 x)) J)
 |some x=>
  have hy:ys[C]?=none:=by rcases u with h|h;rw[H]at h;cases h;exact h
  refine ab (oo (Y.extBut hs₁.extBut D.i1z) (q.extBut hs₁.extBut D.l1z) H λh₂ h1₂ hs₂=>ah (ah ?_));refine ab (ab (bH ?_))
  show aD _ _ (bj (.ref g) >>= _) _ _ _;exact ab (xR hh ((h2.extBut hs₁.extBut D.i2z).extBut hs₂.extBut D.i12.symm) ((I.extBut hs₁.extBut D.l2z).extBut hs₂.extBut D.l2i1) hy λh₄ e hs₄ J=>U h₄ e (λc o c1 c2 O c4 x=>hs₄ _ _ c4 (hs₂.extBut _ _ O (hs₁.extBut _ _ c1 x))) J)
theorem RB{z TI TO h g G C:ao}{J I:Nat}{xs ys:Array ag}{x y a b:ag}{Q:Option ag->am->Prop}(D:mG z TI TO h g G C)
  (hz:Jf s.heap z TI TO) (B:eS s.heap TI (.ref h) (.ref g)) (v:eS s.heap TO a b)
  (h1:s.heap.IsListIter h G J) (h2:s.heap.IsListIter g C I) (q:s.heap.IsList G xs) (l:s.heap.IsList C ys) (hx:xs[J]?=some x) (hy:ys[I]?=some y)
  (hQ:∀(h':bA)(T:ao)(L:Bool),v8 h' z TI TO (dF T) (.bool L)->(T=s.heap.objs.size\/(v8 s.heap z TI TO (dF T) (.bool true)\/v8 s.heap z TI TO (dF T) (.bool false)))->(∃a b,eS h' TO a b)->h'.IsListIter h G (J+1)->h'.IsListIter g C (I+1)->eS h' s.heap.objs.size x y->h'.objs.size=s.heap.objs.size+1 ->
   (∀c o,c≠z->c≠TO->c≠h->c≠g->s.heap.get? c=some o->h'.get? c=some o)->Q (some (.ref s.heap.objs.size)) { s with heap:=h' }):
  aD (aT prog w) A (gD (.ref z)) Q E s:=by
 rcases hz with hz|⟨T,o,L,hz,hT⟩
 ·exact wpAny_pyNext_zip_item D hz B v h1 h2 q l hx hy λh' a1 c a3 Y U O H=>hQ h' _ _ a1 (.inl rfl) ⟨_,_,c⟩ a3 Y U O H
 ·have u:s.TypeIs (.ref z) "zip":=⟨_,hz,rfl⟩
  unfold gD;exact ab (gw (bz (name:=az "__next__") u fP
   (bR fP u ng
    (S6 D hz hT B h1 h2 q l hx hy λh' a1 a3 Y U O H=>ah (hQ h' T true a1 (.inr (by cases L;exact .inr hz;exact .inl hz)) ⟨_,_,H TO _ D.TOz D.TOi1 D.TOi2 v⟩ a3 Y U O λc o c1 _ h g e=>H c o c1 h g e)) (mN _))))
theorem Hj{z TI TO B v G C:ao}{J I:Nat}{xs ys:Array ag}{a b:ag}{Q:Option ag->am->Prop}(hh:A.handled=none)(D:mG z TI TO B v G C)
  (hz:Jf s.heap z TI TO) (u:eS s.heap TI (.ref B) (.ref v)) (H:eS s.heap TO a b)
  (U:s.heap.IsListIter B G J) (O:s.heap.IsListIter v C I) (l:s.heap.IsList G xs) (h:s.heap.IsList C ys) (g:xs[J]?=none\/ys[I]?=none)
  (L:∀h',(∀c o,c≠z->c≠TO->c≠B->c≠v->s.heap.get? c=some o->h'.get? c=some o)->Q none { s with heap:=h' }):aD (aT prog w) A (gD (.ref z)) Q E s:=by
 rcases hz with hz|⟨T,o,f1,hz,hT⟩
 ·exact wpAny_pyNext_zip_end hh D hz u H U O l h g L
 ·have q:s.TypeIs (.ref z) "zip":=⟨_,hz,rfl⟩
  unfold gD;refine ab (gw (bz (name:=az "__next__") q fP
   (bR fP q ng (VL hh D hz hT u U O l h g λh' e c v=>?_) (mN _))))
  obtain⟨o,Y,B⟩:=v;refine ab (dk (T:="StopIteration") (b:=true) ⟨o,Y,B⟩ mF ?_);exact ah (L _ c)
end
section
variable{X:Cx}{cp:List (ao×Obj)}{σ:St}{ρ:List ao}
theorem Ow{ks g:List D}{j:Nat}{e:D}{ds:List D}(h:(ks.zipWith (λp q=>D.tup [p,q]) g).drop j=e::ds):∃k v,ks[j]?=some k/\g[j]?=some v/\e=.tup [k,v]:=by
 have:=cR (·[0]?) h;simp only[List.getElem?_drop,mO,Fi,fC]at this;cases c:ks[j]? with
 |none=>rw[c]at this;cases this
 |some k=>
  cases l:g[j]? with
  |none=>rw[c,l]at this;cases this
  |some v=>rw[c,l]at this;exact⟨k,v,rfl,rfl,(aE this).symm⟩
noncomputable def ZW(z o l g c a b:ao)(i:Nat)(h:bA):Prop:=eS h o (.ref g) (.ref c)/\(∃u v,eS h l u v)/\h.IsListIter g a i/\h.IsListIter c b i
def ZF(H:Hp)(z g c:ao)(h:bA):Prop:=lC h z g c .none\/∃(T:ao)(o:Bool)(l:List V),v8 h z g c (dF T) (.bool o)/\H T=some (.tup l)
theorem ZF.st{H:Hp}{s:am}{z g c:ao}(h:ZF H z g c s.heap)(I:Inv X cp σ H s):Jf s.heap z g c:=by
 rcases h with h|⟨T,q,u,h,l⟩
 ·exact .inl h
 ·obtain⟨_,_,_,o,e,_⟩:=I.hok T _ l;exact .inr ⟨T,o,q,h,e⟩
theorem K7{h:bA}{z g c:ao}{o v l u:ag}(a:v8 h z g c o v)(b:v8 h z g c l u):o=l:=by
 have:=aE (Eq.trans (Eq.symm a) b);injection this with _ _ q
 injection q with q
 simp at q;exact q.1
theorem Mh(l:X.calm=true){A:bv}(hh:A.handled=none)(hu:A.units+10 < cA){R:BF->am->Prop}{z C G Q O L1 L2:ao}(Dz:mG z C G Q O L1 L2)(d:ao)(n m1 m2:Nat)(ha:ρ[n]?=some d)(a1:ρ[m1]?=some L1)(a2:ρ[m2]?=some L2)(n1:n≠m1)(n2:n≠m2)(ks es:List D):
  ∀(ds:List D)(ps:List (D×D))(j:Nat)(i:Int)(tok:Tok)(s:am)(H:Hp)(st:aZ)(cx:List (D×D)),(ks.zipWith (λp q=>D.tup [p,q]) es).drop j=ds->pj ds=some ps->Inv X cp σ H s->SR X.K ρ H st->st[n]?=some (.dct true cx)->st[m1]?=some (.lst ks)->st[m2]?=some (.lst es) ->
  (∀b∈[z,C,G,Q,O],nW X cp H b)->ZW z C G Q O L1 L2 j s.heap->ZF H z C G s.heap->cx.length+ds.length < sizeLine ->
  (∀H' s',Inv X cp σ H' s'->SR X.K ρ H' (st.set n (.dct true (t8 cx ps)))->Ex ρ H ρ H'->R (.ok (.ret .none)) s') ->
  i6 (aT X.prog X.w) A (.builtin "dict.update.loop" ⟨[.ref d,.ref z,.int i tok,.none],[]⟩) R s
 |[],ps,j,i,tok,s,H,st,cx,hd,hp,I,sr,hn,L,e2,hf,⟨w1,⟨u,v,w2⟩,w3,w4⟩,zf,hz,hR=>by
  cases hp;obtain⟨b1,vs,Y,hv,r⟩:=sr.seq L;obtain⟨b2,ws,U,hw,r'⟩:=sr.seq e2;rw[a1]at Y;cases Y;rw[a2]at U;cases U;obtain⟨its,rv,pl,_⟩:=I.list (gY.of hv);obtain⟨its2,rv2,pl2,_⟩:=I.list (gY.of hw);refine fW (b:=Builtin.«dict.update.loop») rfl ?_;rw[dZ zy _];unfold Builtin.«dict.update.loop»;simp only[];have hj:(ks.zipWith (λp q=>D.tup [p,q]) es).length<=j:=by have:=cR eM hd;simp at this;simp;ext
  rw[kX]at hj;have l1:=rv.length;have l2:=rv2.length;have l3:=r.length;have l4:=r'.length;refine ab (Hj (A:=A.in1) hh Dz (zf.st I) w1 w2 w3 w4 pl.isList pl2.isList (by
   rcases Nat.le_total ks.length es.length with q|q
   ·exact .inl (iZ (by rw[aF];ext))
   ·exact .inr (iZ (by rw[aF];ext))) λh' g=>?_)
  wp_walk
  refine hR H _ (Nq (t':=s.toks) I hf λc o l e=>?_) ?_ Ex.refl
  ·simp only[aP,cF,or_false,not_or]at l;exact g c o l.1 l.2.2.1 l.2.2.2.1 l.2.2.2.2 e
  ·have : st.set n (.dct true (t8 cx [])) = st := by show st.set n (.dct true cx)=st;obtain⟨g,c⟩:=ac.mp hn;rw[<- c];exact uO g
   rw[this];exact sr
 |e::ds,ps,j,i,tok,s,H,st,cx,hd,hp,I,sr,hn,L,e2,hf,⟨w1,⟨u0,v0,w2⟩,w3,w4⟩,zf,hz,hR=>by
  unfold pj at hp;rw[mv]at hp;obtain⟨p,E,hp⟩:=hp;rw[dC]at hp;obtain⟨ps,hps,rfl⟩:=hp;obtain⟨k,v,hk0,hv0,rfl⟩:=Ow hd;obtain⟨hkk,ep⟩:m5 true k=true/\(k,v)=p:=by
   replace E:(if m5 true k=true then some (k,v) else none)=some p:=E
   by_cases q:m5 true k=true
   ·rw[aG q]at E;exact⟨q,aE E⟩
   ·rw[aC q]at E;cases E
  subst ep;obtain⟨b1,vs,Y,hv,r⟩:=sr.seq L;obtain⟨b2,ws,U,hw,r'⟩:=sr.seq e2;rw[a1]at Y;cases Y;rw[a2]at U;cases U;obtain⟨its,rv,pl,_⟩:=I.list (gY.of hv);obtain⟨its2,rv2,pl2,_⟩:=I.list (gY.of hw);obtain⟨x,hx,rx⟩:=r.get hk0;obtain⟨y,hy,ry⟩:=r'.get hv0;obtain⟨ux,hux,rux⟩:=rv.get hx;obtain⟨uy,huy,ruy⟩:=rv2.get hy;refine fW (b:=Builtin.«dict.update.loop») rfl ?_;rw[dZ zy _];unfold Builtin.«dict.update.loop»;simp only[];refine ab (RB (A:=A.in1) Dz (zf.st I) w1 w2 w3 w4 pl.isList pl2.isList (x:=ux) (y:=uy) (by simpa using hux) (by simpa using huy) λh' T f1 g1 gT g2 g3 g4 g5 g6 g7=>?_);have keep:∀c o,c∉[z,C,G,Q,O]->s.heap.get? c=some o->h'.get? c=some o:=λc o l e=>by simp only[aP,cF,or_false,not_or]at l;exact g7 c o l.1 l.2.2.1 l.2.2.2.1 l.2.2.2.2 e
  have hTn:H s.heap.objs.size=none:=I.hok.fresh (av _);have I1:Inv X cp σ (ff H s.heap.objs.size (.tup [x,y])) { s with heap:=h',toks:=s.toks }:=
   L_ (its:=[ux,uy]) I hf keep (av _) (by show 2<=sizeLine;decide) (.cons rux (.cons ruy .nil)) ⟨_,g5,rfl,⟨_,rfl⟩,rfl⟩
  have x4:Ex ρ H ρ (ff H s.heap.objs.size (.tup [x,y])):=Ex.new hTn;have s4:=sr.new (o:=.tup [x,y]) hTn;have lt:∀c∈[z,C,G,Q,O],∃o,s.heap.get? c=some o:=λc l=>by
   simp only[aP,cF,or_false]at l;rcases l with q|q|q|q|q<;>subst q
   ·rcases zf with h|⟨T,f1,vs,h,hT⟩
    ·exact⟨_,h⟩
    ·exact⟨_,h⟩
   ·exact⟨_,w1⟩
   ·exact⟨_,w2⟩
   ·obtain⟨o,e,_⟩:=w3;exact⟨o,e⟩
   ·obtain⟨o,e,_⟩:=w4;exact⟨o,e⟩
  have hf1:∀b∈[z,C,G,Q,O],nW X cp (ff H s.heap.objs.size (.tup [x,y])) b:=λb J=>by obtain⟨f0,fr⟩:=hf b J;obtain⟨o,eo⟩:=lt b J;exact⟨by rw[fO (bb (aI eo))];exact f0,fr⟩
  have zf1:ZF (ff H s.heap.objs.size (.tup [x,y])) z C G h':=by
   rcases gT with q|q
   ·subst q;exact .inr ⟨_,f1,_,g1,kh⟩
   ·rcases zf with h|⟨l,o,g,h,c⟩
    ·rcases q with q|q<;>cases K7 h q
    ·have : (T : Int) = l := by rcases q with q|q<;>· have:=K7 q h;injection this
     have:T=l:=by exact_mod_cast this
     subst this;exact .inr ⟨T,f1,g,g1,by rw[fO (mI c hTn)];exact c⟩
  have tI1:eS h' C (.ref Q) (.ref O):=g7 C _ Dz.TIz Dz.TITO Dz.TIi1 Dz.TIi2 w1;refine ab (bH (ab (iw (K5 (s:={ s with heap:=h' }) ⟨_,g5,rfl,_,rfl⟩ ?_))));have I2:=I1.pinned (fp:=[z,C,G,Q,O]) hf1 (λb J=>by
   simp only[aP,cF,or_false]at J;rcases J with q|q|q|q|q<;>subst q
   ·exact⟨_,g1,λv z=>by cases z⟩
   ·exact⟨_,tI1,λv z=>by cases z⟩
   ·obtain⟨a,b,g2⟩:=g2;exact⟨_,g2,λv z=>by cases z⟩
   ·obtain⟨o,L,c,dt⟩:=g3;exact⟨o,L,λv z=>by rw[dt]at z;cases z⟩
   ·obtain⟨o,L,c,dt⟩:=g4;exact⟨o,L,λv z=>by rw[dt]at z;cases z⟩)
  refine bH (KJ (A:=A.in1) (by show A.units+1+2 < cA;ext) I2 s4 ha hn (rx.mono x4) hkk (by simp at hz;ext) (ry.mono x4) rux ruy λH' s' I' sr' x'=>?_);refine ah ⟨gz zy _,?_⟩;have hlt:=(ac.mp hn).1;have B:∀b o,b∈[z,C,G,Q,O]->h'.get? b=some o->s'.heap.get? b=some o/\H' b=none:=λb o J e=>by have hm:(b,o)∈cp++lO [z,C,G,Q,O] h':=bo _ (CL J e);have:=I'.pin (b,o) (bo _ hm);exact⟨this.1,this.2.1⟩
  have x5:=x4.trans x';refine Mh l hh hu Dz d n m1 m2 ha a1 a2 n1 n2 ks es ds ps (j+1) (i+1) _ s' H' _ (lG cx k v) (by rw[<- zQ,hd];rfl) hps I'.unpinned sr' (au hlt) (by rw[af n1];exact L) (by rw[af n2];exact e2) (λb J=>?_) ?_ ?_ (by have:=Ki cx k v;simp at hz;ext) λH3 s3 I3 sr3 x3=>?_
  ·obtain⟨f0,fr⟩:=hf b J;obtain⟨o,eo⟩:∃o,h'.get? b=some o:=by
    simp only[aP,cF,or_false]at J;rcases J with q|q|q|q|q<;>subst q
    ·exact⟨_,g1⟩
    ·exact⟨_,tI1⟩
    ·obtain⟨a,b,g2⟩:=g2;exact⟨_,g2⟩
    ·obtain⟨o,L,_⟩:=g3;exact⟨o,L⟩
    ·obtain⟨o,L,_⟩:=g4;exact⟨o,L⟩
   exact⟨(B b o J eo).2,fr⟩
  ·obtain⟨a,b,g2⟩:=g2;exact⟨(B C _ (by simp) tI1).1,⟨a,b,(B G _ (by simp) g2).1⟩,g3.at λo e=>(B Q o (by simp) e).1,g4.at λo e=>(B O o (by simp) e).1⟩
  ·rcases zf1 with q|⟨T,f1,vs,q,hT⟩
   ·exact .inl (B z _ (by simp) q).1
   ·exact .inr ⟨T,f1,vs,(B z _ (by simp) q).1,x'.fix T _ rfl hT⟩
  ·rw[Ct]at sr3;exact hR H3 s3 I3 sr3 (x5.trans x3)
end
section
variable{X:Cx}{a b:Expr}{fa fb:CE}{p p' pos eh:Pos}
theorem WP(hc:X.calm=true)(hu:X.A.units+60 < cA){g:List (ao×Obj)}{σ:St}{H:Hp}{s:am}{ρ:List ao}{st:aZ}{Q:VK}{m1 m2:Nat}{O L2:ao}{ks Y:List D}{l:List (D×D)}{vs ws:List V}(I:Inv X g σ H s)(sr:SR X.K ρ H st)(a1:ρ[m1]?=some O)(a2:ρ[m2]?=some L2)(e1:st[m1]?=some (.lst ks))(e2:st[m2]?=some (.lst Y))
  (hv:H O=some (.lst vs)) (hw:H L2=some (.lst ws)) (J:pj (ks.zipWith (λp q=>D.tup [p,q]) Y)=some l) (hk:l.length<=1000) (p2:∀ρ' E,Ex ρ H ρ' E->SR X.K ρ' E (st++[.dct true (t8 [] l)])->∀v,dA X.K ρ' E v (.dic st.length)->Q v E):
  aD (aT X.prog X.w) X.A (call (.type "zip") [.ref O,.ref L2]) (λu s1=>aD (aT X.prog X.w) X.A (call (.type "dict") [u]) (EP X g σ Q) X.xe s1) X.xe s:=by
 have hh:=I.ok.hd hc;obtain⟨its,rv,pl,_⟩:=I.list (gY.of hv);obtain⟨its2,rv2,G,_⟩:=I.list (gY.of hw);have lt1:O < s.heap.objs.size:=by obtain⟨o,e,_⟩:=pl.isList;exact aI e
 have lt2:L2 < s.heap.objs.size:=by obtain⟨o,e,_⟩:=G.isList;exact aI e
 refine call_zip_2 pl.isList G.isList λh' U g2 g3 g4 g5 g6 g7=>?_;have I1:Inv X g σ H { s with heap:=h' }:=I.kept (t':=s.toks) g7;generalize hZ:s.heap.objs.size+4=z at U ⊢;refine uP (Q₁:=λobj s₁=>obj=.ref h'.objs.size/\s₁={ s with heap:=h'.push { cls:=.type "dict",data:=.dict #[] } }) rY rfl qU (sS _ ⟨rfl,rfl⟩) λobj s₁ h₁=>?_;obtain⟨rfl,rfl⟩:=h₁;refine⟨⟨_,ay _ rfl,rfl⟩,p_ _ _,?_⟩;have hn:=I1.hok.fresh (av h'.objs.size);have I2:=I1.laid (a:=h'.objs.size) (o:=ic h'.objs.size []) (h':=h'.push { cls:=.type "dict",data:=.dict #[] }) (t':=s.toks) (λ_ _ q=>ak _ q) (av _)
  (B8 (P:=X.prog) (w:=X.w) (xs:=[]) (bx _) (beq_eq_false_iff_ne.mpr (bG (bb I1.big))) .nil (nS h') ⟨_,_,ay _ rfl,rfl⟩)
 have x0:Ex ρ H (ρ++[h'.objs.size]) (ff H h'.objs.size (ic h'.objs.size [])):=Ex.newO hn;have s0:SR X.K (ρ++[h'.objs.size]) (ff H h'.objs.size (ic h'.objs.size [])) (st++[.dct true []]):=(sr.new hn).keepO (sr.fresh hn) ⟨[],kh,.nil⟩;have B:(ρ++[h'.objs.size])[st.length]?=some h'.objs.size:=by rw[<- sr.len];simp
 have z1:lC (h'.push { cls:=.type "dict",data:=.dict #[] }) z (s.heap.objs.size+2) (s.heap.objs.size+3) .none:=ak _ U;have hT:gE { s with heap:=h'.push { cls:=.type "dict",data:=.dict #[] } } (.ref z) "zip":=⟨_,z1,rfl⟩
 unfold Builtin.«dict.__init__»
 wp_walk using ky hT,S3 (A:=X.A.in1.in1) hh z1
 intro h3 tk kp;have I3:Inv X g σ _ { s with heap:=h3,toks:=tk }:=I2.kept (t':=tk) kp;simp only[vk,if_true];refine ab (gu ?_);have up:∀c o,h'.get? c=some o->h3.get? c=some o:=λc o e=>kp _ _ (ak _ e);refine ab (sR (up _ _ U) ?_);refine ah ⟨gz zy _,?_⟩;have l1:=(ac.mp e1).1;have l2:=(ac.mp e2).1;have L:=Gv J;have Dz:mG z (s.heap.objs.size+2) (s.heap.objs.size+3) s.heap.objs.size (s.heap.objs.size+1) O L2:=by rw[<- hZ];exact zipApart_new lt1 lt2
 refine Mh (X:=X) (A:=X.A.in1) hc hh (by show X.A.units+1+10 < cA;ext) Dz h'.objs.size st.length m1 m2 B (wP a1) (wP a2) (dj l1) (dj l2) ks Y _ l 0 0 0 _ _ _ [] rfl J I3 s0 (by simp) (by rw[ax l1];exact e1) (by rw[ax l2];exact e2) (λb hb=>?_) ⟨up _ _ g2,⟨_,_,up _ _ g3⟩,g4.at λo e=>up _ o e,g5.at λo e=>up _ o e⟩ (.inl (up _ _ U)) (by rw[lx,gI,sq,<- L];ext) λE s' I' h x'=>?_
 ·have C : s.heap.objs.size <= b /\ h'.objs.size > b := by simp only[aP,cF,or_false]at hb;rcases hb with e|e|e|e|e<;>rw[e]<;>constructor<;>ext
  refine I.fpOk C.1 ?_;rw[fO (bb C.2)];exact I.hok.fresh C.1
 ·refine⟨rfl,.ref h'.objs.size,E,I',rfl,?_⟩;have e1:(st++[MO.dct true []]).set st.length (.dct true (t8 [] l))=st++[.dct true (t8 [] l)]:=by simp
  rw[e1]at h;obtain⟨Y,c,_⟩:=h.ob st.length _ (.dct true (t8 [] l)) B (by simp);exact p2 _ E (x0.trans x') h _ (.dic ⟨_,c,.inr rfl⟩ B)
theorem PB(hc:X.calm=true)(hu:X.A.units+60 < cA)(hg:Gl X "dict")(hm:X.mg "dict"=none)(hg2:Gl X "zip")(hm2:X.mg "zip"=none)(ha:SE X a fa)(hb:SE X b fb)
  (hs:starEach [a,b] X.env=(false,eval a X.env)::starEach [b] X.env) (E:starEach [b] X.env=(false,eval b X.env)::starEach [] X.env):
  SE X (.Call (.Name "dict" p) [.Call (.Name "zip" p') [a,b] [] eh] [] pos) (c2 qF fa fb):=by
 intro C s σ H Q I h;have G:starEach [.Call (.Name "zip" p') [a,b] [] eh] X.env=[(false,eval (.Call (.Name "zip" p') [a,b] [] eh) X.env)]:=rfl;refine fJ (xw I hg hm (show cM "dict"=some (.type "dict") by nofun) ?_ (by decide) (by decide));refine cW ?_ G rfl;rw[G]
 show aD _ _ (Cd [(false,eval (.Call (.Name "zip" p') [a,b] [] eh) X.env)]) _ _ s;refine oX ?_;refine fJ (xw I hg2 hm2 boot_zip ?_ (by decide) (by decide));refine cW (fU ((qA ha (qA hb uz E) hs) eh C s σ H (λO u=>∃v w d e ρ st,O=[v,w]/\SR X.K ρ u st/\dA X.K ρ u v d/\dA X.K ρ u w e/\aN X.K ρ u (qF d e st) λd x ρ' H'=>∀(v:V),dA X.K ρ' H' v d->Q v H') I ?_) λus s1 ⟨O,u,I1,r1,v,w,d,e,ρ,st,ev,c,rv,g,q⟩=>?_) hs (by rw[E];rfl)
 ·exact h.el λρ l st o c p=>⟨ρ,l,st,o,c,p.bnd.imp λd Y ρ1 u B s1 G v rv=>⟨ρ1,l,Y,o.mono B,s1,G.bnd.imp λe U ρ2 H q C E w g=>⟨v,w,d,e,ρ2,U,rfl,C,rv.mono q,g,E⟩⟩⟩
 ·subst ev;obtain⟨E,C,rfl,Q,I⟩:=r1.two;unfold qF at q;cases d with
  |ref m=>
   cases e with
   |ref n=>
    obtain⟨Y,rfl,_,v⟩:=rv.inv;obtain⟨U,rfl,_,u⟩:=g.inv;cases (show E=aV Y from Q);cases (show C=aV U from I);obtain⟨ks,l,H⟩:=aN.getL (aN.bnd q) c;obtain⟨es,h,B⟩:=aN.getL (aN.bnd H) c;obtain⟨c1,O,L,hv,_⟩:=c.seq l;obtain⟨c2,ws,J,hw,_⟩:=c.seq h;rw[v]at L;cases L;rw[u]at J;cases J;unfold lN at B;cases o:pj (ks.zipWith (λp q=>D.tup [p,q]) es) with
    |none=>rw[o]at B;exact B.elim
    |some ps=>
     rw[o]at B;obtain⟨hk,G⟩:=aN.chk B;exact fI (WP hc hu I1 c v u l h hv hw o hk G) (λ_ _ z=>pv z) λ_ _ z=>z
   |_=>exact q.elim
  |_=>exact q.elim
end
def AG:kJ:=λr c e=>Ga e λx _ z _ h=>DN z λy _ a b _ C=>wh (x=az "dict"/\y=az "zip"/\c.bl x=true/\c.bl y=true/\qy a=true/\qy b=true) λw=>(r.e c a).bind λv=>(r.e c b).bind λu=>some ⟨c2 qF v.1 u.1,λg=>by subst h C;obtain⟨rfl,rfl,q,l,B,o⟩:=w;exact PB g.S.calm g.hu (g.gl q).1 (g.gl q).2 (g.gl l).1 (g.gl l).2 (v.2 g) (u.2 g) (qw B) (qw o)⟩
open PySem.W
section
variable{prog:Program}{w:bE}{A:bv}{E:ag->am->Prop}{s:am}
theorem C_{h:Int}:∀{l:List fm},(l.map (·.hash)).Nodup->(l.filter (·.hash == h)).length<=1
 |[],_=>by simp
 |e::l,hn=>by
  rw[aK,eL]at hn;rw[List.filter_cons];by_cases q:(e.hash == h)=true
  ·rw[aG q];have:l.filter (·.hash == h)=[]:=ud.mpr λx c z=>hn.1 (by rw[beq_iff_eq]at q z;rw[q,<- z];exact oA c)
   rw[this];simp
  ·rw[aC q];exact C_ hn.2
theorem IX{c:Array fm}{h:Int}(g:(c.toList.map (·.hash)).Nodup):¬ (c.filter (·.hash == h)).size > 1:=by
 have:=C_ (h:=h) g;have e:(c.filter (·.hash == h)).size=(c.toList.filter (·.hash == h)).length:=by rw[<- cP,Array.toList_filter]
 ext
theorem NZ{id:String}{d:ao}{o:Obj}{c:Array fm}{ep:Nat}{Q:Array fm->am->Prop}(l:s.heap.get? d=some o)(hd:o.data=.dict c ep)(B:∀e∈c.toList,∃a,e.key=.ref a/\s.TypeIs (.ref a) "tuple")(u:(c.toList.map (·.hash)).Nodup)(h:Q c s):
  aD (aT prog w) A (oB id d) Q E s:=by
 unfold oB;refine ab (b_ l hd ?_);refine ab ?_;rw[<- gB];refine iD _ (λrest _ g=>g=s/\∀e∈rest,e∈c.toList) _ ?_ ?_ _ _ ⟨rfl,λ_ z=>z⟩
 ·rintro e rest q g ⟨rfl,hr⟩
  obtain⟨a,H,G⟩:=B e (hr e (.head _));rw[H]
  show aD _ _ ((specialOf (.ref a) "__eq__" >>= λv=>pure (v == some (.builtin "object.__eq__"))) >>= _) _ _ _;refine ab (ab (i7 G lB.lookup (ah ?_)));have I:(some (l_ "tuple.__eq__") == some (l_ "object.__eq__"))=false:=by nofun
  rw[I];rw[aG (by decide),aC (IX u)];exact ah ⟨rfl,λe C=>hr e (.tail _ C)⟩
 ·rintro q g ⟨rfl,_⟩
  exact ah h
theorem TB{d:ao}{o:Obj}{c:Array fm}{ep:Nat}{Q:ag->am->Prop}(U:(d == bO)=false)(h:s.heap.get? d=some o)(O:o.ExactDict)(hd:o.data=.dict c ep)(H:∀e∈c.toList,∃a,e.key=.ref a/\s.TypeIs (.ref a) "tuple")(J:(c.toList.map (·.hash)).Nodup)(I:c.toList≠[])(hz:c.size<=sizeLine)
  (Y:∀h' o',h'.get? s.heap.objs.size=some o'->o'.ExactDict->o'.data=.dict c 1->(∀b o,s.heap.get? b=some o->h'.get? b=some o)->Q (.ref s.heap.objs.size) { s with heap:=h' }):aD (aT prog w) A (call (.type "dict") [.ref d]) Q E s:=by
 have v:d < s.heap.objs.size:=aI h;refine uP (Q₁:=λobj s₁=>obj=.ref s.heap.objs.size/\s₁={ s with heap:=s.heap.push { cls:=.type "dict",data:=.dict #[] } }) rY rfl qU (sS _ ⟨rfl,rfl⟩) λobj s₁ h₁=>?_;obtain⟨rfl,rfl⟩:=h₁;refine⟨⟨_,ay _ rfl,rfl⟩,p_ _ _,?_⟩;have up:∀b o,s.heap.get? b=some o->(s.heap.push { cls:=.type "dict",data:=.dict #[] }).get? b=some o:=λb o e=>ak _ e;have C:gE { s with heap:=s.heap.push { cls:=.type "dict",data:=.dict #[] } } (.ref d) "dict":=⟨_,up _ _ h,O.1⟩
 have B:gE { s with heap:=s.heap.push { cls:=.type "dict",data:=.dict #[] } } (.ref s.heap.objs.size) "dict":=⟨_,ay _ rfl,rfl⟩
 unfold Builtin.«dict.__init__»;refine ab ?_;unfold Builtin.Dict.selfAndRest;refine ab (dY B ?_)
 show aD _ _ (pure (s.heap.objs.size,[aV d])) _ _ _;refine ah ?_
 show aD _ _ (qc "dict.__init__" s.heap.objs.size (.ref d) [] .none) _ _ _;unfold qc;refine ab (ky C ?_);rw[aC (by decide)];refine ab ?_;unfold Builtin.Dict.merge;refine ab ?_;unfold Builtin.Dict.readDirectly;refine ab (dk C isSubtype_dict_dict ?_);simp only[cU,aL,if_false];refine ab (i7 C BM.lookup (ah ?_));simp only[beq_self_eq_true,if_true];refine ab (ah ?_);unfold Builtin.Dict.mergeDict;rw[aC (by rw[beq_iff_eq];exact dj v)];unfold e8;rw[aC (by rw[U];exact aY)];refine ab (ah ?_);refine ab (b_ (s:={ s with heap:=s.heap.push { cls:=.type "dict",data:=.dict #[] } }) (up _ _ h) hd ?_);have g:(c.all λe=>(keyPart e.key).isSome)=false:=by
  rw[<- Array.all_toList];cases q:c.toList with
  |nil=>exact bn q I
  |cons e l=>
   obtain⟨a,G,_⟩:=H e (by rw[q];exact .head _);rw[cB,G];rfl
 simp only[g,zN,h9,if_true];refine ab (b_ (s:={ s with heap:=s.heap.push { cls:=.type "dict",data:=.dict #[] } }) (ay _ rfl) rfl ?_);rw[aG (by rfl)];refine ab (NZ (s:={ s with heap:=s.heap.push { cls:=.type "dict",data:=.dict #[] } }) (up _ _ h) hd (λe L=>?_) J ?_)
 ·obtain⟨a,G,o',g,c⟩:=H e L;exact⟨a,G,o',up _ _ g,c⟩
 have u:¬ c.isEmpty=true:=λz=>I (by rw[Array.isEmpty_iff.mp z]);rw[aG (by rw[pO];exact Bool.eq_false_iff.mpr u)];refine ab (wpAny_updateDictKeysTo (hz':=xK hz) (s:={ s with heap:=s.heap.push { cls:=.type "dict",data:=.dict #[] } }) (ay _ rfl) rfl ?_);refine ah ?_
 show aD _ _ (Builtin.Dict.addKeywords s.heap.objs.size [] >>= _) _ _ _;refine ab (ah (ah ⟨rfl,?_⟩));refine Y _ _ (bJ _ (ay _ rfl) (dM (cj (o:={ cls:=.type "dict",data:=.dict #[] }) rfl _))) (Obj.ExactDict.mapDictKeys ⟨rfl,rfl,rfl⟩ _) (cj rfl _) λb o e=>?_;rw[cI _ _ (dj (aI e))];exact up b o e
theorem Ot{K:Type}[DecidableEq K]{knd:nC prog w K}{nm:String}{a b:ao}{xs ys:List (K×ao×ag)}{Q:Bool->am->Prop}(hu:knd.room A)(ha:(a == bO)=false)(hb:(b == bO)=false)
  (da:s.heap.DictOfH knd a xs) (db:s.heap.DictOfH knd b ys) (hl:xs.length=ys.length) (he:∀(i:Nat)(x:K×ao×ag),xs[i]?=some x->∃y:K×ao×ag,ys[i]?=some y/\y.1=x.1/\rO A s x.2.2 y.2.2 true) (h:Q true s):
  aD (aT prog w) A (qu nm a b) Q E s:=by
 obtain⟨oa,H,ep,g,_,l,J,hia,hna⟩:=da;obtain⟨ob,es',ep',u,_,G,C,hib,B⟩:=db;have la:=g9 J;have lb:=g9 C;unfold qu e8;rw[aC (show ¬ (a == bO)=true by rw[ha];exact aY),aC (show ¬ (b == bO)=true by rw[hb];exact aY)];refine ab (ah (ab (ah ?_)));refine ab (b_ g l ?_);dsimp only;refine ab (b_ u G ?_);rw[aC (by rw[la,lb,hl];simp)];refine ab (fV g l ?_);refine ab ?_;rw[Std.Legacy.Range.forIn_eq_forIn_range'];simp only[Std.Legacy.Range.size,Nat.sub_zero,Nat.add_sub_cancel,Nat.div_one];refine iD _ (λrest q U=>U=s/\q=(none,())/\∃i,rest=Fk i (H.size-i)/\i<=H.size) _ ?_ ?_ _ _ ⟨rfl,rfl,0,by simp,bx _⟩
 ·rintro x rest q U ⟨rfl,rfl,i,hr,hi⟩
  have E:i < H.size:=by
   rcases Fl i H.size with h|h
   ·exact h
   ·rw[Nat.sub_eq_zero_of_le h]at hr;simp at hr
  obtain⟨rfl,o⟩:x=i/\rest=Fk (i+1) (H.size-(i+1)):=by
   have e:H.size-i=(H.size-(i+1))+1:=by ext
   rw[e,List.range'_succ]at hr;injection hr with h1 O
   exact⟨h1,O⟩
  refine ab (b_ g l ?_);have hx:x < xs.length:=by ext
  obtain⟨k,c,v,Q⟩:∃k c v,xs[x]=(k,c,v):=⟨_,_,_,rfl⟩
  have hx?:xs[x]?=some (k,c,v):=by rw[ai hx,Q]
  obtain⟨⟨k',c',v'⟩,hy?,L,I⟩:=he x _ hx?;simp only at L I;subst L;rw[zc J x,hx?]
  show aD _ _ (kq [.ref c,v] _ >>= _) _ _ _;refine ab (bH (ab (p9 (k:=k') hu (hia _ (aA hx?)) u G C hib B (λY=>bn hy? (Y x _)) λj p hj=>?_)));refine ab (b_ u G ?_);have ep:p=(c',v'):=by have h1:=rR B hj;have O:=rR B hy?;rw[h1]at O;exact aE O
  subst ep;rw[zc C j,hj];refine bH (I prog w _ _ ?_)
  show aD _ _ (if (!true)=true then _ else _) _ _ _;rw[aC (by decide)];refine ab (fV g l ?_);rw[aC (by simp)];exact ah ⟨rfl,rfl,x+1,o,E⟩
 ·rintro q U ⟨rfl,rfl,i,hr,hi⟩
  exact ah h
theorem UL{K:Type}[DecidableEq K]{knd:nC prog w K}{a b:ao}{xs ys:List (K×ao×ag)}{Q:ag->am->Prop}(hr:knd.room A.in1)(hu:A.units < cA)(ha:(a == bO)=false)(hb:(b == bO)=false)
  (da:s.heap.DictOfH knd a xs) (db:s.heap.DictOfH knd b ys) (hl:xs.length=ys.length) (he:∀(i:Nat)(x:K×ao×ag),xs[i]?=some x->∃y:K×ao×ag,ys[i]?=some y/\y.1=x.1/\rO A.in1 s x.2.2 y.2.2 true) (h:Q (.bool true) s):
  aD (aT prog w) A (cX .Eq (.ref a) (.ref b)) Q E s:=by
 refine t_ (op:=.Eq) da.typeIs db.typeIs t7 (bR t7 da.typeIs PySem.F.entry_dict_eq ?_ (PySem.F.args_dict_eq_2 _ _)) hu
 show aD _ _ (pD "__eq__" ⟨[.ref a,.ref b],[]⟩ >>= _) _ _ s;refine ab ?_;unfold pD;refine ab (dY da.typeIs ?_)
 show aD _ _ (pure (aV a,aV b)) _ _ s;refine ah ?_;refine ab (dk (T:="dict") db.typeIs PySem.F.sub_dict_dict ?_);simp only[cU,aL,if_false];refine ab (ah (ab (ah ?_)));refine ab (Ot hr ha hb da db hl he ?_);refine ah ⟨_,rfl,?_,?_⟩
 ·exact λx=>nomatch x
 ·simpa using h
end
section
variable{X:Cx}{K:aj}{ρ:List ao}{H:Hp}{st:aZ}{cp:List (ao×Obj)}{σ:St}{s:am}{a:ao}
theorem aN.getDf{n:Nat}{R:List (D×D)->aZ->List ao->Hp->Prop}(h:aN K ρ H (MM.getDf n st) R)(s:SR K ρ H st):∃c,(st[n]?=some (.dct true c)\/st[n]?=some (.dcf c))/\R c st ρ H:=by
 unfold MM.getDf at h;cases e:st[n]? with
 |none=>rw[e]at h;exact h.elim
 |some o=>
  rw[e]at h;cases o with
  |dct b c=>
   cases b with
   |false=>exact h.elim
   |true=>exact⟨c,.inl rfl,h ρ H Ex.refl s⟩
  |dcf c=>exact⟨c,.inr rfl,h ρ H Ex.refl s⟩
  |_=>exact h.elim
theorem F8{n:Nat}{c:List (D×D)}(I:Inv X cp σ H s)(O:SR X.K ρ H st)(U:ρ[n]?=some a)(e:st[n]?=some (.dct true c)\/st[n]?=some (.dcf c)):
  ∃l xs,NR X.K ρ H l c/\NX l xs/\l.length<=sizeLine/\(a == bO)=false/\s.heap.DictOfH (xF X) a xs/\∃u,H a=some u/\kO u=2:=by
 rcases e with e|e
 ·obtain⟨l,v,r⟩:=O.ob n a _ U e;obtain⟨J,G,xs,E,C,_⟩:=v9 I v r;exact⟨l,xs,r,E,J,G,C,_,v,rfl⟩
 ·obtain⟨l,v,r⟩:=O.ob n a _ U e;obtain⟨⟨z,y,xs,Q,o,L,ep,J,G,E,C,Y⟩,w1,u⟩:=(show eU X.prog X.w H s.heap a (zX a l) from I.hok a _ v)
  refine⟨l,xs,r,Q,z,y,⟨o,L,ep,J,G,E,C,?_,Y⟩,_,v,rfl⟩;clear J G E C Y e v z y w1 u
  induction Q generalizing c with
  |nil=>intro x B;exact nomatch B
  |@cons p q ps qs h t ih=>
   cases r with
   |cons g gt=>
    intro x B;rcases aP.mp B with e|B
    ·subst e;obtain⟨b,v,_,c⟩:=zv I (by rw[g.1];exact g.2.1) (show RelV (.ref p.2.1) (.ref p.2.1) from rfl);cases v;rw[<- h.1,<- h.2.1];exact c
    ·exact ih gt x B
theorem Ly{u:Hp}{h':bA}{P:Program}{w:bE}{l:List (NK×ao×V)}{xs:List (NK×ao×ag)}(z:l.length<=sizeLine)(y:(a == bO)=false)(r:NX l xs)(q:∃o c ep,h'.get? a=some o/\o.ExactDict/\o.data=.dict c ep/\c.toList=xs.map wT/\(xs.map (·.1)).Nodup):
  eU P w u h' a (zX a l):=by
 obtain⟨o,c,ep,g,h⟩:=q;refine⟨⟨z,y,xs,r,o,c,ep,g,h⟩,⟨o,g⟩,?_⟩
 rintro g1 g2 ⟨z,y,xs,r,o,c,ep,g,h⟩ k
 exact⟨z,y,xs,r,o,c,ep,k o g,h⟩
open Classical in
theorem WK(hu:X.A.units+60 < cA):OpR X (cX .Eq) (pW X.K um):=by
 intro cp s σ H x y v u Q I rx ry h;obtain⟨ρ,st,d,e,g,r1,r2,p⟩:=h;unfold um at p;cases d with
 |dic m=>
  cases e with
  |dic n=>
   obtain⟨a,rfl,_,ha⟩:=r1.inv;obtain⟨b,rfl,_,hb⟩:=r2.inv;cases (show v=aV a from rx);cases (show u=aV b from ry);obtain⟨k1,e1,p1⟩:=aN.getDf (aN.bnd p) g;obtain⟨k2,e2,p2⟩:=aN.getDf (aN.bnd p1) g;obtain⟨⟨G,hi⟩,p3⟩:=aN.chk p2;have G:k1=k2:=G;subst G;obtain⟨C,xs,n1,L,z1,y1,d1,_⟩:=F8 I g ha e1;obtain⟨c,xs2,Y,J,z2,y2,d2,_⟩:=F8 I g hb e2;have l1:=bZ n1;have l2:=bZ Y;have l3:=bZ L;have l4:=bZ J;refine UL (knd:=xF X) (show X.A.in1.units+1 < cA by show X.A.units+1+1 < cA;ext) (by ext) y1 y2 d1 d2 (by ext) (λi x hx=>?_) ⟨.bl true,H,I,rfl,p3.ret g _ (.bl true)⟩;have q:i < C.length:=by rw[l3];exact (ac.mp hx).1
   have o:i < c.length:=by ext
   obtain⟨q1,g1,f1⟩:=yp L (ai q);obtain⟨q2,g2,f2⟩:=yp J (ai o);obtain⟨c1,U,E⟩:=yp n1 (ai q);obtain⟨c2,O,B⟩:=yp Y (ai o);rw[hx]at g1;cases g1;rw[U]at O;cases O;refine⟨q2,g2,?_,?_⟩
   ·have:oG C[i].1=oG c[i].1:=E.1.trans B.1.symm;have:=zw C[i].1 c[i].1;rw[E.1,B.1,<- B.1,zw,bB rfl]at this;rw[<- f2.1,<- f1.1];exact (of_decide_eq_true this.symm).symm
   ·have l:=hi _ (aA U);cases o:c1.2 with
    |int j=>
     have u:=E.2.2;have q:=B.2.2;rw[o]at u q;have L:=u.inv;have J:=q.inv;have h:=f1.2.2;have g:=f2.2.2;rw[show C[i].2.2=V.int j from L]at h;rw[show c[i].2.2=V.int j from J]at g;obtain⟨G,I⟩:=h;obtain⟨v,H⟩:=g;rw[I,H];have:=sZ (A:=X.A.in1) (s:=s) j G j v;rw[beq_self_eq_true]at this;exact this
    |_=>rw[o]at l;exact l.elim
  |_=>exact p.elim
 |_=>exact p.elim
open Classical in
theorem Vk:CallR X (.type "dict") (λxs H Q=>∃v,xs=[v]/\vx X.K pf v H Q):=by
 intro cp s σ H xs us Q I r h;obtain⟨v,rfl,ρ,st,d,E,rv,p⟩:=h;obtain⟨u,rfl,rx⟩:=uV r;unfold pf at p;cases d with
 |dic n=>
  obtain⟨a,rfl,_,ha⟩:=rv.inv;cases (show u=aV a from rx);obtain⟨l,e1,p1⟩:=aN.getDf (aN.bnd p) E;obtain⟨⟨hk,hi⟩,p2⟩:=aN.chk p1;obtain⟨Y,xs,G,x1,z1,y1,d1,_⟩:=F8 I E ha e1;have l1:=bZ G;have J:=bZ x1;obtain⟨o,B,ep,h1,U,h3,C,h5,h6⟩:=d1;have hh:xs.map (λx=>iK x.1)=B.toList.map (·.hash):=by rw[C,dD];rfl
  have hks:l.map (λp=>(stK p.1).map iK)=(xs.map (λx=>iK x.1)).map some:=by
   have c:∀k:NK,stK (oG k)=some k:=λk=>by
    have h:m5 true (oG k)=(stK (oG k)).isSome:=by rfl
    cases e:stK (oG k) with
    |none=>
     exfalso
     have:∀k:NK,∃r,i0 (k.map gR)=some r:=λk=>by
      induction k with
      |nil=>exact⟨[],rfl⟩
      |cons i k ih=>
       obtain⟨r,L⟩:=ih;cases i with
       |inl i=>exact⟨_,by rw[aK];show (i0 (k.map gR)).map _=_;rw[L];rfl⟩
       |inr q=>
        have iq:∀q:List Int,kB (q.map .int)=some q:=λq=>by
         induction q with
         |nil=>rfl
         |cons i q ih=>rw[aK];show (kB (q.map .int)).map _=_;rw[ih];rfl
        refine⟨.inr q::r,?_⟩;rw[aK]
        show (match kB (q.map .int),i0 (k.map gR) with|some r,some rs=>some (mh r::rs)|_,_=>none)=_;rw[iq,L]
     obtain⟨r,L⟩:=this k;rw[show stK (oG k)=i0 (k.map gR) from rfl,L]at e;cases e
    |some k'=>
     have:=LB e;have U:=zw k k';rw[this,zw,bB rfl]at U;rw[of_decide_eq_true U.symm]
   clear C hh h5 h6 hk hi p1 p2 e1 z1 l1 J
   induction x1 generalizing l with
   |nil=>cases G;rfl
   |@cons p q ps qs h t ih=>
    cases G with
    |cons g gt=>rw[aK,aK,aK,ih _ gt,<- g.1,c,<- h.1];rfl
  rw[hks]at hi;have hnd:(B.toList.map (·.hash)).Nodup:=by rw[<- hh];exact (List.pairwise_map.mp hi).imp λh z=>h (by rw[z])
  have hz:B.size=xs.length:=by rw[<- cP,C,ae]
  refine TB y1 h1 U h3 (λe he=>?_) hnd (λz=>?_) (by rw[hz,<- J];exact z1) λh' o' g1 g2 g3 g4=>?_
  ·rw[C]at he;obtain⟨x,c,rfl⟩:=bU.mp he;exact⟨x.2.1,rfl,(h5 x c).typeIs⟩
  ·rw[C]at z;have:xs=[]:=vZ.mp z;rw[this]at J;exact hk (qW (by simpa [J] using l1.symm))
  ·have O:=I.hok.fresh (av s.heap.objs.size);have J:=I.laid (a:=s.heap.objs.size) (o:=zX s.heap.objs.size Y) (h':=h') (t':=s.toks) (λ_ _ q=>g4 _ _ q) (av _)
    (Ly (P:=X.prog) (w:=X.w) (xs:=xs) z1 (beq_eq_false_iff_ne.mpr (bG (bb I.big))) x1 ⟨o',B,1,g1,g2,g3,C,h6⟩)
   have g:Ex ρ H (ρ++[s.heap.objs.size]) (ff H s.heap.objs.size (zX s.heap.objs.size Y)):=Ex.newO O;have h:SR X.K (ρ++[s.heap.objs.size]) (ff H s.heap.objs.size (zX s.heap.objs.size Y)) (st++[.dcf l]):=(E.new O).keepO (E.fresh O) ⟨Y,kh,NR.up (Ex.new (ρ:=ρ) O).up G⟩;have c:(ρ++[s.heap.objs.size])[st.length]?=some s.heap.objs.size:=by rw[<- E.len];simp
   have u:∀ρ' H',Ex ρ H ρ' H'->SR X.K ρ' H' (st++[.dcf l])->∀v,dA X.K ρ' H' v (.dic st.length)->Q v H':=p2;exact⟨.ref s.heap.objs.size,_,J,rfl,u _ _ g h _ (.dic ⟨_,kh,.inr rfl⟩ c)⟩
 |_=>exact p.elim
theorem Ob(hg:True):CallR X (.builtin "isinstance") (λxs H Q=>∃v,xs=[v,.ty "dict"]/\vx X.K nX v H Q):=by
 intro cp s σ H xs us Q I r c;obtain⟨v,e,ρ,st,d,g,q,p⟩:=c;subst e;obtain⟨u,l,rfl,B,h⟩:=GL r;have J:l=rH "dict":=h;subst J;unfold nX at p;cases d with
 |dic n=>
  obtain⟨a,rfl,_,G⟩:=q.inv;cases (show u=aV a from B);obtain⟨E,L,C⟩:=aN.getDf (aN.bnd p) g;obtain⟨es,xs,n1,x1,U,Y,O,_⟩:=F8 I g G L;exact cO oW I.kIn O.typeIs (by rfl) nofun λo=>⟨.bl true,H,I.tok o,rfl,C.ret g _ (.bl true)⟩
 |_=>exact p.elim
end
section
variable{X:Cx}{o e:Expr}{fa:CE}{ec dc p p1 pos:Pos}
theorem QV(I:Gl X "isinstance")(G:X.mg "isinstance"=none)(h:Gl X "dict")(g:X.mg "dict"=none)(J:SE X e fa)
  (q:starEach [e,.Name "dict" p1] X.env=(false,eval e X.env)::starEach [.Name "dict" p1] X.env):SE X (.Call (.Name "isinstance" p) [e,.Name "dict" p1] [] pos) (c1 nX fa):=
 (DE (Ob trivial) I G (show cM "isinstance"=some (.builtin "isinstance") by nofun) (qA J (qA (NN (v:=.ty "dict") h g (by nofun) rfl (by decide) (by decide)) uz rfl) q) (by decide) (by decide) q rfl).of λσ H Q L=>L.el λρ l st E u p=>⟨ρ,l,st,E,u,p.bnd.imp λd c ρ1 U O B p1 v C=>⟨v,rfl,ρ1,c,d,B,C,p1⟩⟩
theorem Ub(ho:SE X o fa)(E:dI o "clear" X.env (eval o X.env)=eval o X.env)(C:(ec.endLine == dc.line)=true):
  SE X (.Call (.Attribute o "clear" ec) [] [] dc) (oR fa):=by
 intro J s σ H Q I u;obtain⟨ρ,l,st,lr,sr,q⟩:=u;refine nA E C (fU (ho J s σ H (λx H1=>∃a n ρ1 c g,x=.ref a/\SR X.K ρ1 H1 c/\ρ1[n]?=some a/\c[n]?=some (.dct true g)/\∀ρ' U,Ex ρ1 H1 ρ' U->SR X.K ρ' U (c.set n (.dcf []))->Q .non U) I ⟨ρ,l,st,lr,sr,(aN.bnd q).imp λd c ρ1 H1 x1 s1 p1 v rv=>?_⟩) λv s1 z=>?_)
 ·cases d with
  |dic n=>
   obtain⟨a,rfl,_,ha⟩:=rv.inv;dsimp only at p1;unfold tV at p1;cases e:c[n]? with
   |none=>rw[e]at p1;exact p1.elim
   |some L=>
    rw[e]at p1;cases L with
    |dct b g=>
     cases b with
     |false=>exact p1.elim
     |true=>exact⟨a,n,ρ1,c,g,rfl,s1,ha,e,λρ' U l h=>p1 ρ' U l h _ .non⟩
    |_=>exact p1.elim
  |_=>exact p1.elim
 ·obtain⟨x,H1,J,r1,a,n,ρ1,c,g,rfl,G,ha,e,q1⟩:=z;cases r1;obtain⟨es,E,r⟩:=G.ob n a _ ha e;obtain⟨Q,hd,xs,U,I,_⟩:=v9 J E r;have H:=I.typeIs;obtain⟨L,v,ep,l,u,O,g4,g5,g6⟩:=I;have hz:v.size=xs.length:=by rw[<- cP,g4,ae]
  have l3:=bZ U;refine⟨"dict","dict.clear",qT,zR,F.type_dict_clear,H,λb C=>by injection C with C;subst C;exact⟨L,l,u.2.1⟩,?_⟩;have M:xi X.prog X.w (Builtin.«dict.clear» ⟨[.ref a],[]⟩) (λ_ R s=>s.heap.get? a=some L/\R (.ok (.ret .none)) { s with heap:=s.heap.update a (Obj.mapDictKeys λ_=>#[]) }):=.of_wp λA R s B=>by
   obtain⟨Y,h⟩:=B;have q:s.TypeIs (.ref a) "dict":=⟨L,Y,u.1⟩
   unfold Builtin.«dict.clear»;refine ab ?_;unfold rW;refine ab (dY q ?_)
   show aD _ _ (pure a) _ _ s;refine ah ?_;refine ab (b_ Y O ?_);refine ab ?_;unfold bearsInstanceDictMark;refine ab (wpAny_load Y (ah ?_));refine ab (py (hz:=by rw[hz,<- l3];exact Q) Y O ?_);split
   ·exact ab (gO (ah ⟨.none,rfl,h⟩))
   ·exact ab (ah (ah ⟨.none,rfl,h⟩))
  refine gA rfl (og (oi zR H F.entry_dict_clear (F.args_dict_clear_1 _) M ⟨l,?_⟩));have o:=(ac.mp e).1;have w:=G.putO (o':=.dcf []) (u':=zX a []) o ha E (by show (2:Nat)≠3;decide) rfl ⟨[],kh,.nil⟩;refine⟨.non,_,Cb (t':=s1.toks) J (by rw[E];exact eE) (bV ..) ⟨_,bJ _ l (dM (cj O _))⟩ (Ly (xs:=[]) (bx _) hd .nil ⟨_,#[],ep+1,bJ _ l (dM (cj O _)),u.mapDictKeys _,cj O _,rfl,lM⟩),rfl,q1 _ _ w.2 w.1⟩
end
def yP:kJ:=λq c e=>wh (c.tag e.pos 25=true) λ_=>zD "clear" oR (λo b l=>Ub o b l) q c e
def Aj:kJ:=uv "dict" (λc p=>c.tag p 26) pf λ_ _ g m a s=>Ea Vk g m (by nofun) a (uU (by nofun)) (by nofun) s
def yw: kJ := λq c e => DN e λz _ a b _ B => zr b λx _ v => wh (z = az "isinstance" /\ x = az "dict" /\ c.bl z = true /\ c.bl x = true /\ qy a = true) λz => (q.e c a).bind λo => some ⟨c1 nX o.1, λg => by subst B v;obtain⟨rfl,rfl,l,h,u⟩:=z;exact QV (g.gl l).1 (g.gl l).2 (g.gl h).1 (g.gl h).2 (o.2 g) (qw u)⟩
end MM
namespace My
open PySem MM
noncomputable def top(i:Nat):fH:=iz.main.body.getD i (.Pass ⟨0,0,0,0⟩)
noncomputable def tS:aZ:=[.tbl "graph_numbers"]
def jR: CS :=
  (aO (eV (c2 aU (c2 aU (c2 aU (aq 0) (aq 1)) (aq 2)) (aM (.int 0))))
  aW)
@[irreducible] def jj:List D->M D:=cm 3 jR
def yd: CS :=
  (aO (eV (c2 aU (c2 aU (c2 aU (aq 0) (aq 1)) (aq 2)) (aM (.int 1))))
  aW)
@[irreducible] def jF:List D->M D:=cm 3 yd
def j0: CS :=
  (aO (cf (aQ 1) (eK (gg (aw (dU bh) bh))))
  (aO (kI (iN (c2 aU (aq 0) (aM (.int 1)))) (aQ 2)
   (aO (cf (aQ 3) (eK (gg bh)))
   (aO (kI (iN (aq 1)) (aQ 4)
    (aO (iA (dO (aq 3) (c2 fw (aq 4) (dU (aw (aM (.int 0)) bh)))))
    (aO (iA (dO (aq 3) (c2 fw (aq 4) (dU (aw (aM (.int 1)) bh)))))
    aW)))
   (aO (cf (aQ 1) (aq 3))
   aW))))
  (aO (eV (aq 1))
  aW)))
@[irreducible] def ju:List D->M D:=cm 5 j0
def yf: CS :=
  (aO (cf (aQ 2) (ir kH (dL 2 [] (tw (c2 aU (aq 0) (aM (.int 1))) (aq 1)) (gQ 2 (cJ (aQ 0) (cJ (aQ 1) hU))) bN (c2 aU (c2 aU (aq 0) (aM (.int 0))) (aq 1)))))
  (aO (eV (dU (aw (aq 2) (aw (ir kH (dL 2 [] (iN (c2 aU (aq 0) (aM (.int 0)))) (gQ 2 (cJ (aQ 0) (cJ (aQ 1) hU))) bN (aq 1))) bh))))
  aW))
@[irreducible] def jE:List D->M D:=cm 3 yf
def yc: CS :=
  (aO (eV (c2 aU (c2 aU (c2 aU (c2 aU (aq 0) (aM (.int 1))) (aq 2)) (aM (.int 1))) (c2 aU (c2 aU (aq 1) (aM (.int 0))) (aq 2))))
  aW)
@[irreducible] def jg:List D->M D:=cm 3 yc
def j8: CS :=
  (aO (eV (c2 fw (c2 fw (nj (aq 0) tW (pJ (aq 1))) (dU (aw (aq 2) bh))) (nj (aq 0) (pJ (c2 fw (aq 1) (aM (.int 1)))) tW)))
  aW)
@[irreducible] def jd:List D->M D:=cm 3 j8
def jO: CS :=
  (aO (eV (wt (di (c2 o8 (c2 aU (aq 0) (aM (.int 0))) (aM (.str "settle")))) (c2 aU (aq 0) (aM (.int 1))) (aM .non)))
  aW)
@[irreducible] def jf:List D->M D:=cm 1 jO
def jP: CS :=
  (aO (cf (g_ (aq 2) (aq 1)) (aM (.bl true)))
  (aO (cf (aQ 4) (eK (gg (aw (aq 1) bh))))
  (aO (cf (aQ 5) (eK (gg (aw (aM (.int 0)) bh))))
  (aO (kM (di (c2 xD (c1 fX (aq 4)) (aM (.int 0))))
   (aO (cf (aQ 6) (c2 aU (aq 4) (c1 rC (aM (.int 1)))))
   (aO (np (di (c2 o8 (c2 aU (aq 5) (c1 rC (aM (.int 1)))) (c1 fX (c2 aU (aq 0) (aq 6)))))
    (aO (iA (dO (aq 3) (aq 6)))
    (aO (iA (ut (aq 4)))
    (aO (iA (ut (aq 5)))
    aW)))
    (aO (cf (aQ 7) (c2 aU (c2 aU (c2 aU (aq 0) (aq 6)) (c2 aU (aq 5) (c1 rC (aM (.int 1))))) (aM (.int 1))))
    (aO (tx (aq 5) (c1 rC (aM (.int 1))) (aM (.int 1)))
    (aO (np (nM (pd (c2 aU (aq 2) (aq 7))))
     (aO (cf (g_ (aq 2) (aq 7)) (aM (.bl true)))
     (aO (iA (dO (aq 4) (aq 7)))
     (aO (iA (dO (aq 5) (aM (.int 0))))
     aW)))
     aW)
    aW))))
   aW)))
  aW))))
@[irreducible] def jl:List D->M D:=cm 8 jP
@[irreducible] def kP:vR:=AW 2 (AW 1 (AW 0 (GW ((L2.dw (top 26)).getD 3 (.Pass ⟨0,0,0,0⟩)))))
def tq:List D->M D:=uB 2 (aM (.int 1))
def sy:List (vR×RL):=[(kP,⟨2,1,tq⟩)]
def jW: CS :=
  (aO (cf (aQ 3) (eK (dL 1 [] (iN (aq 0)) (aQ 0) bN (aM (.int 0)))))
  (aO (kI (iN (aq 1)) (aQ 4)
   (aO (cf (g_ (aq 3) (aq 4)) (qD (dL 2 [2,3,4] (iN (c2 aU (aq 0) (aq 4))) (gQ 2 (cJ (aQ 0) (cJ (aQ 1) hU))) bN (c2 fw (pe sy (aq 2) (aw (aq 4) (aw (aq 0) bh))) (c2 aU (aq 3) (aq 1)))) (aM (.int 0))))
   aW))
  (aO (eV (aq 3))
  aW)))
@[irreducible] def jz:List D->M D:=cm 5 jW
def ya: CS :=
  (aO (cf (aQ 2) (c2 fw (c2 rD (aM (.int 7919)) (aq 1)) (aM (.int 104729))))
  (aO (cf (aQ 3) (eK (gg bh)))
  (aO (kI (wz (qL (aq 0) (pJ (aq 1)) (pJ (aM (.int 63))))) (aQ 4)
   (aO (cf (aQ 2) (c2 oT (c2 fw (c2 fw (c2 rD (aq 2) (aM (.int 48271))) (c2 oT (aq 4) (aM (.int 2147483629)))) (aM (.int 1))) (aM (.int 2147483647))))
   (aO (np (di (c2 FT (aq 4) (c2 wW (aM (.int 10)) (aM (.int 18)))))
    (aO (iA (dO (aq 3) (aq 4)))
    aW)
    aW)
   aW)))
  (aO (eV (eK (gg (aw (aq 2) (aw (aM (.int 0)) (aw (eK (tE (aq 3))) bh))))))
  aW))))
@[irreducible] def jG:List D->M D:=cm 5 ya
def j6: CS :=
  (aO (kM (oK (di (c2 o8 (c2 aU (aq 0) (aM (.int 1))) (aM (.int 0)))) (di (c2 xD (c1 fX (c2 aU (aq 0) (aM (.int 2)))) (aM (.int 0)))))
   (aO (cf (g_ (aq 0) (aM (.int 1))) (ut (c2 aU (aq 0) (aM (.int 2)))))
   aW))
  (aO (np (di (c2 xD (c2 aU (aq 0) (aM (.int 1))) (aM (.int 0))))
   (aO (cf (aQ 2) (c2 oT (c2 aU (aq 0) (aM (.int 1))) (aq 1)))
   (aO (cf (g_ (aq 0) (aM (.int 1))) (c2 r6 (c2 aU (aq 0) (aM (.int 1))) (aq 1)))
   (aO (eV (aq 2))
   aW)))
   aW)
  (aO (cf (aQ 3) (c2 oT (c2 fw (c2 rD (c2 aU (aq 0) (aM (.int 0))) (aM (.int 48271))) (aM (.int 7919))) (aM (.int 2147483647))))
  (aO (cf (g_ (aq 0) (aM (.int 0))) (c2 fw (c2 oT (c2 fw (c2 rD (aq 3) (aM (.int 40692))) (aM (.int 12345))) (aM (.int 2147483399))) (aM (.int 1))))
  (aO (eV (c2 oT (c2 r6 (c2 fw (c2 rD (c2 oT (c2 rD (aq 3) (aq 3)) (aM (.int 2147483629))) (aM (.int 31))) (c2 aU (aq 0) (aM (.int 0)))) (aM (.int 64))) (aq 1)))
  aW)))))
@[irreducible] def ja:List D->M D:=cm 4 j6
def j1: CS :=
  (aO (cf (aQ 2) (bW ja (aw (aq 0) (aw (aM (.int 6)) bh))))
  (aO (cf (aQ 3) (c2 fw (aM (.int 1)) (bW ja (aw (aq 0) (aw (aq 1) bh)))))
  (aO (np (di (c2 o8 (aq 2) (aM (.int 0))))
   (aO (cf (aQ 3) (c2 uZ (aq 3) (aM (.int 3))))
   (aO (eV (ir kH (dL 1 [3] (MM.f_ (aq 3)) (aQ 0) bN (c2 fw (dU (aw (dU (aw (aq 0) (aw (aq 0) bh))) bh)) (ir kH (dL 1 [] (MM.f_ (aq 1)) (aQ 0) bN (dU (aw (aq 0) (aw (aM (.int 0)) bh)))))))))
   aW))
   aW)
  (aO (np (di (c2 o8 (aq 2) (aM (.int 1))))
   (aO (eV (ir kH (dL 1 [3] (MM.f_ (aq 3)) (aQ 0) bN (ir kH (dL 1 [0] (MM.f_ (aq 1)) (aQ 0) bN (dU (aw (aq 0) (aw (aq 1) bh))))))))
   aW)
   aW)
  (aO (np (di (c2 o8 (aq 2) (aM (.int 2))))
   (aO (eV (ir kH (dL 1 [3] (MM.f_ (aq 3)) (aQ 0) bN (dU (aw (dU (aw (c2 oT (c2 fw (aq 0) (aM (.int 1))) (aq 1)) (aw (aq 0) bh))) bh)))))
   aW)
   aW)
  (aO (np (oK (di (c2 o8 (aq 2) (aM (.int 3)))) (di (c2 xD (aq 3) (aM (.int 1)))))
   (aO (cf (aQ 4) (eK (dL 1 [3] (MM.mY (aM (.int 1)) (aq 3)) (aQ 0) bN (ir kH (dL 1 [0] (MM.mY (aM (.int 1)) (aq 1)) (aQ 0) bN (dU (aw (aq 1) (aw (aq 1) bh))))))))
   (aO (eV (c2 fw (dU (aw (ir kH (dL 1 [] (MM.mY (aM (.int 1)) (aq 3)) (aQ 0) bN (dU (aw (aq 0) (aw (aq 0) bh))))) bh)) (c1 tupleD (aq 4))))
   aW))
   aW)
  (aO (cf (aQ 5) (c2 fw (aM (.int 1)) (bW ja (aw (aq 0) (aw (aM (.int 4)) bh)))))
  (aO (eV (ir kH (dL 1 [0,3,5] (MM.f_ (aq 3)) (aQ 0) bN (ir kH (dL 1 [1,2] (MM.f_ (aq 3)) (aQ 0) bN (dU (aw (bW ja (aw (aq 1) (aw (aq 2) bh))) (aw (bW ja (aw (aq 1) (aw (aM (.int 4)) bh))) bh))))))))
  aW))))))))
@[irreducible] def jv:List D->M D:=cm 6 j1
def j5: CS :=
  (aO (np (rm (di (c2 o8 (c1 fX (aq 1)) (aM (.int 0)))) (rm (oK (pd (aq 4)) (di (c2 o8 (aq 3) (c2 sC (aq 2) (aM (.int 1)))))) (di (c2 o8 (bW ja (aw (aq 0) (aw (aM (.int 5)) bh))) (aM (.int 0))))))
   (aO (eV (dU (aw (aM (.str "settle")) (aw (bW ja (aw (aq 0) (aw (aM (.int 2)) bh))) bh))))
   aW)
   aW)
  (aO (cf (aQ 5) (bW ja (aw (aq 0) (aw (c1 fX (aq 1)) bh))))
  (aO (cf (aQ 6) (c2 aU (c2 aU (aq 1) (aq 5)) (aM (.int 0))))
  (aO (cf (aQ 7) (bW ja (aw (aq 0) (aw (c1 fX (c2 aU (aq 6) (aM (.int 0)))) bh))))
  (aO (cf (aQ 8) (eK (gg bh)))
  (aO (kI (MM.f_ (c2 fw (aM (.int 1)) (ir oF (dL 1 [7] (iN (aq 6)) (aQ 0) bN (c2 aU (c2 aU (aq 0) (aq 1)) (aM (.int 1))))))) (aQ 9)
   (aO (np (pd (aq 4))
    (aO (iA (dO (aq 8) (c2 fw (c2 fw (aq 3) (aM (.int 1))) (bW ja (aw (aq 0) (aw (c2 sC (c2 sC (aq 2) (aq 3)) (aM (.int 1))) bh))))))
    aW)
    (aO (iA (dO (aq 8) (bW ja (aw (aq 0) (aw (aq 2) bh)))))
    aW))
   aW))
  (aO (eV (dU (aw (aM (.str "do")) (aw (aq 5) (aw (aq 7) (aw (c1 tupleD (aq 8)) bh))))))
  aW)))))))
@[irreducible] def jt:List D->M D:=cm 10 j5
def jZ: CS :=
  (aO (cf (aQ 1) (eK (gg bh)))
  (aO (cf (aQ 2) (mz (gg (aw (aM (.int 0)) (aw (aM (.int 1)) (aw (aM (.int 1)) (aw (aM (.int 2)) (aw (aM (.int 2)) (aw (aM (.int 3)) (aw (aM (.int 1)) (aw (aM (.int 4)) bh))))))))) (bW ja (aw (aq 0) (aw (aM (.int 8)) bh)))))
  (aO (kI (MM.f_ (aq 2)) (aQ 3)
   (aO (cf (aQ 4) (bW jv (aw (aq 0) (aw (mz (gg (aw (aM (.int 4)) (aw (aM (.int 4)) (aw (aM (.int 3)) (aw (aM (.int 2)) (aw (aM (.int 2)) bh)))))) (aq 2)) bh))))
   (aO (iA (dO (aq 1) (dU (aw (aq 4) (aw (bW ja (aw (aq 0) (aw (c1 fX (aq 4)) bh))) bh)))))
   aW)))
  (aO (cf (aQ 5) (eK (gg bh)))
  (aO (cf (aQ 6) (c2 fw (aM (.int 2)) (c1 intD (c2 o8 (bW ja (aw (aq 0) (aw (aM (.int 3)) bh))) (aM (.int 0))))))
  (aO (cf (aQ 7) (c2 aU (mz (gg (aw (eK (gg (aw (aM (.int 8)) (aw (aM (.int 8)) (aw (aM (.int 6)) (aw (aM (.int 6)) (aw (aM (.int 4)) bh))))))) (aw (eK (gg (aw (aM (.int 4)) (aw (aM (.int 4)) (aw (aM (.int 3)) (aw (aM (.int 3)) (aw (aM (.int 2)) bh))))))) bh))) (c2 sC (aq 6) (aM (.int 2)))) (aq 2)))
  (aO (cf (aQ 8) (bW ja (aw (aq 0) (aw (aM (.int 4)) bh))))
  (aO (kI (MM.f_ (aq 6)) (aQ 3)
   (aO (cf (aQ 9) (c2 fw (aM (.int 1)) (bW ja (aw (aq 0) (aw (aq 7) bh)))))
   (aO (cf (aQ 10) (BU (c2 yD (aq 8) (aM (.int 2))) (sI (c2 o8 (aq 8) (aM (.int 2))) (c2 xD (aq 3) (aM (.int 0))))))
   (aO (cf (aQ 11) (ir kH (dL 1 [0,1,9,10] (MM.f_ (aq 9)) (aQ 0) bN (bW jt (aw (aq 1) (aw (aq 2) (aw (aq 3) (aw (aq 0) (aw (aq 4) bh)))))))))
   (aO (cf (aQ 12) (dU (aw (aM (.int 0)) (aw (bW ja (aw (aq 0) (aw (aq 9) bh))) bh))))
   (aO (np (di (c2 o8 (bW ja (aw (aq 0) (aw (aM (.int 2)) bh))) (aM (.int 1))))
    (aO (cf (aQ 12) (dU (aw (bW ja (aw (aq 0) (aw (aq 9) bh))) (aw (bW ja (aw (aq 0) (aw (aq 9) bh))) bh))))
    aW)
    aW)
   (aO (iA (dO (aq 5) (dU (aw (aq 12) (aw (aq 11) bh)))))
   aW)))))))
  (aO (np (di (c2 o8 (bW ja (aw (aq 0) (aw (aM (.int 4)) bh))) (aM (.int 0))))
   (aO (cf (g_ (aq 5) (c1 rC (aM (.int 1)))) (c2 aU (aq 5) (aM (.int 0))))
   aW)
   aW)
  (aO (eV (dU (aw (c1 tupleD (aq 1)) (aw (c1 tupleD (aq 5)) bh))))
  aW))))))))))
@[irreducible] def jA:List D->M D:=cm 13 jZ
def jV: CS :=
  (aO (cf (aQ 1) (eK (gg (aw (dU bh) bh))))
  (aO (kI (iN (c2 aU (aq 0) (aM (.int 1)))) (aQ 2)
   (aO (cf (aQ 1) (c2 fw (eK (dL 1 [] (iN (aq 1)) (aQ 0) bN (c2 fw (aq 0) (dU (aw (aM (.int 0)) bh))))) (eK (dL 1 [] (iN (aq 1)) (aQ 0) bN (c2 fw (aq 0) (dU (aw (aM (.int 1)) bh)))))))
   aW))
  (aO (eV (c1 oE (aq 1)))
  aW)))
@[irreducible] def jp:List D->M D:=cm 3 jV
def j2: CS :=
  (aO (cf (aQ 2) (eK (dL 1 [0,1] (MM.f_ (c1 fX (aq 1))) (aQ 0) bN (c2 aU (c2 aU (c2 aU (c2 aU (aq 1) (aM (.int 1))) (aq 0)) (aM (.int 0))) (c2 aU (aq 2) (aq 0))))))
  (aO (eV (dU (aw (c1 tupleD (aq 2)) (aw (ir kH (dL 1 [] (iN (c2 aU (aq 0) (aM (.int 0)))) (aQ 0) bN (c2 aU (aq 0) (aM (.int 1))))) bh))))
  aW))
@[irreducible] def jw:List D->M D:=cm 3 j2
def ye: CS :=
  (aO (eV (c2 aU (c2 aU (c2 aU (c2 aU (aq 0) (aM (.int 1))) (aq 2)) (aM (.int 1))) (c2 aU (c2 aU (aq 1) (aM (.int 0))) (aq 2))))
  aW)
@[irreducible] def jr:List D->M D:=cm 3 ye
def jH: CS :=
  (aO (cf (aQ 3) (bW jr (aw (aq 0) (aw (aq 1) (aw (aq 2) bh)))))
  (aO (np (di (c2 o8 (c2 aU (aq 3) (aM (.int 0))) (aM (.str "settle"))))
   (aO (eV (aq 1))
   aW)
   aW)
  (aO (cf (aQ 4) (c1 tU (c2 aU (aq 1) (aM (.int 0)))))
  (aO (cf (aQ 5) (c1 tU (c2 aU (aq 1) (aM (.int 1)))))
  (aO (cf (aQ 6) (c2 aU (aq 3) (aM (.int 1))))
  (aO (cf (gQ 2 (cJ (aQ 7) (cJ (aQ 8) hU))) (c2 aU (c2 aU (c2 aU (c2 aU (c2 aU (aq 0) (aM (.int 0))) (aq 6)) (aM (.int 0))) (c2 aU (aq 5) (aq 6))) (c2 aU (aq 3) (aM (.int 2)))))
  (aO (cf (g_ (aq 4) (aq 2)) (c2 aU (c2 aU (aq 3) (aM (.int 3))) (aq 8)))
  (aO (cf (g_ (aq 5) (aq 6)) (aq 7))
  (aO (eV (dU (aw (c1 tupleD (aq 4)) (aw (c1 tupleD (aq 5)) bh))))
  aW)))))))))
@[irreducible] def jc:List D->M D:=cm 9 jH
def j7: CS :=
  (aO (cf (aQ 2) (eK (gg bh)))
  (aO (kI (MM.f_ (c1 fX (c2 aU (aq 0) (aM (.int 1))))) (aQ 3)
   (aO (np (di (c2 o8 (c2 aU (bW jr (aw (aq 0) (aw (aq 1) (aw (aq 3) bh)))) (aM (.int 0))) (aM (.str "do"))))
    (aO (iA (dO (aq 2) (aq 3)))
    aW)
    aW)
   aW))
  (aO (eV (aq 2))
  aW)))
@[irreducible] def js:List D->M D:=cm 4 j7
def jU: CS :=
  (aO (cf (aQ 1) (eK (gg bh)))
  (aO (cf (aQ 2) (oP true))
  (aO (kI (iN (bW jp (aw (aq 0) bh))) (aQ 3)
   (aO (cf (aQ 4) (bW jw (aw (aq 0) (aw (aq 3) bh))))
   (aO (np (di (c2 rG (aq 4) (aq 2)))
    (aO (cf (g_ (aq 2) (aq 4)) (aM (.bl true)))
    (aO (iA (dO (aq 1) (aq 4)))
    aW))
    aW)
   aW)))
  (aO (cf (aQ 5) (aM (.int 0)))
  (aO (kM (di (c2 yD (aq 5) (c1 fX (aq 1))))
   (aO (kI (iN (bW js (aw (aq 0) (aw (c2 aU (aq 1) (aq 5)) bh)))) (aQ 6)
    (aO (cf (aQ 4) (bW jc (aw (aq 0) (aw (c2 aU (aq 1) (aq 5)) (aw (aq 6) bh)))))
    (aO (np (di (c2 rG (aq 4) (aq 2)))
     (aO (cf (g_ (aq 2) (aq 4)) (aM (.bl true)))
     (aO (iA (dO (aq 1) (aq 4)))
     aW))
     aW)
    aW)))
   (aO (cf (aQ 5) (c2 fw (aq 5) (aM (.int 1))))
   aW)))
  (aO (eV (aq 1))
  aW))))))
@[irreducible] def jq:List D->M D:=cm 7 jU
def jX: CS :=
  (aO (cf (aQ 2) (oP true))
  (aO (kI (iN (aq 1)) (aQ 3)
   (aO (cf (g_ (aq 2) (aq 3)) (eK (dL 1 [0,3] (iN (bW js (aw (aq 0) (aw (aq 3) bh)))) (aQ 0) bN (dU (aw (aq 0) (aw (bW jc (aw (aq 1) (aw (aq 2) (aw (aq 0) bh)))) bh))))))
   aW))
  (aO (eV (aq 2))
  aW)))
@[irreducible] def jx:List D->M D:=cm 4 jX
def jM: CS :=
  (aO (cf (aQ 1) (ir lN (dL 1 [] (vt (aq 0)) (aQ 0) bN (dU (aw (aq 0) (aw (eK (gg bh)) bh))))))
  (aO (cf (aQ 2) (oP true))
  (aO (kI (pq (aq 0)) (gQ 2 (cJ (aQ 3) (cJ (aQ 4) hU)))
   (aO (cf (g_ (aq 2) (aq 3)) (c1 fX (aq 4)))
   (aO (kI (iN (aq 4)) (gQ 2 (cJ (aQ 5) (cJ (aQ 6) hU)))
    (aO (iA (dO (c2 aU (aq 1) (aq 6)) (aq 3)))
    aW))
   aW)))
  (aO (cf (aQ 7) (eK (dL 1 [2] (vt (aq 0)) (aQ 0) (di (c2 o8 (c2 aU (aq 1) (aq 0)) (aM (.int 0)))) (aq 0))))
  (aO (cf (aQ 8) (aM (.int 0)))
  (aO (kM (di (c2 yD (aq 8) (c1 fX (aq 7))))
   (aO (kI (iN (c2 aU (aq 1) (c2 aU (aq 7) (aq 8)))) (aQ 3)
    (aO (cf (g_ (aq 2) (aq 3)) (c2 sC (c2 aU (aq 2) (aq 3)) (aM (.int 1))))
    (aO (np (di (c2 o8 (c2 aU (aq 2) (aq 3)) (aM (.int 0))))
     (aO (iA (dO (aq 7) (aq 3)))
     aW)
     aW)
    aW)))
   (aO (cf (aQ 8) (c2 fw (aq 8) (aM (.int 1))))
   aW)))
  (aO (eV (aq 7))
  aW)))))))
@[irreducible] def ji:List D->M D:=cm 9 jM
def j3: CS :=
  (aO (eV (sI (c1 (iM ["int"]) (aq 0)) (wo (c1 (iM ["bool"]) (aq 0)))))
  aW)
@[irreducible] def jm:List D->M D:=cm 1 j3
def jY: CS :=
  (aO (np (rm (nM (pd (c1 nX (aq 0)))) (di (c2 DX (c1 fX (aq 0)) (c1 fX (aq 1)))))
   (aO (eV (aM (.bl false)))
   aW)
   aW)
  (aO (kI (pq (aq 1)) (gQ 2 (cJ (aQ 2) (cJ (aQ 3) hU)))
   (aO (np (rm (di (c2 rG (aq 2) (aq 0))) (nM (pd (bW jm (aw (c2 aU (aq 0) (aq 2)) bh)))))
    (aO (eV (aM (.bl false)))
    aW)
    aW)
   (aO (np (di (c2 DX (c2 aU (aq 0) (aq 2)) (qD (dL 2 [0] (iN (aq 3)) (gQ 2 (cJ (aQ 0) (cJ (aQ 1) hU))) bN (c2 fw (aM (.int 1)) (vI (aq 2) (aq 1) (c1 rC (aM (.int 9)))))) (aM (.int 0)))))
    (aO (eV (aM (.bl false)))
    aW)
    aW)
   aW)))
  (aO (eV (aM (.bl true)))
  aW)))
@[irreducible] def jy:List D->M D:=cm 4 jY
def j4: CS :=
  (aO (cf (aQ 3) (bW jg (aw (aq 0) (aw (aq 1) (aw (aq 2) bh)))))
  (aO (np (di (c2 o8 (c2 aU (aq 3) (aM (.int 0))) (aM (.str "settle"))))
   (aO (eV (aq 1))
   aW)
   aW)
  (aO (cf (aQ 4) (c2 aU (aq 3) (aM (.int 1))))
  (aO (cf (aQ 5) (c2 aU (aq 3) (aM (.int 2))))
  (aO (cf (aQ 6) (c2 aU (c2 aU (c2 aU (aq 0) (aM (.int 0))) (aq 4)) (aM (.int 0))))
  (aO (cf (aQ 7) (c2 aU (c2 aU (aq 1) (aM (.int 1))) (aq 4)))
  (aO (cf (aQ 8) (c2 aU (c2 aU (aq 3) (aM (.int 3))) (bW jF (aw (aq 6) (aw (aq 7) (aw (aq 5) bh))))))
  (aO (eV (dU (aw (bW jd (aw (c2 aU (aq 1) (aM (.int 0))) (aw (aq 2) (aw (aq 8) bh)))) (aw (bW jd (aw (c2 aU (aq 1) (aM (.int 1))) (aw (aq 4) (aw (bW jj (aw (aq 6) (aw (aq 7) (aw (aq 5) bh)))) bh)))) bh))))
  aW))))))))
@[irreducible] def jB:List D->M D:=cm 9 j4
def yb: CS :=
  (aO (eV (ir kH (dL 1 [0,1] (MM.f_ (c1 fX (c2 aU (aq 0) (aM (.int 1))))) (aQ 0) bN (bW jf (aw (bW jg (aw (aq 1) (aw (aq 2) (aw (aq 0) bh)))) bh)))))
  aW)
@[irreducible] def jC:List D->M D:=cm 2 yb
def yg: CS :=
  (aO (eV (eK (dL 2 [] (tN (bW jC (aw (aq 0) (aw (aq 1) bh)))) (gQ 2 (cJ (aQ 0) (cJ (aQ 1) hU))) (di (c2 wU (aq 1) (aM .non))) (aq 0))))
  aW)
@[irreducible] def jL:List D->M D:=cm 2 yg
def jS: CS :=
  (aO (cf (aQ 4) (eK (gg bh)))
  (aO (kI (iN (bW jL (aw (aq 0) (aw (aq 1) bh)))) (aQ 5)
   (aO (cf (aQ 6) (bW jB (aw (aq 0) (aw (aq 1) (aw (aq 5) bh)))))
   (aO (np (di (c2 rG (aq 6) (aq 3)))
    (aO (cf (g_ (aq 3) (aq 6)) (c1 fX (aq 2)))
    (aO (iA (dO (aq 2) (aq 6)))
    aW))
    aW)
   (aO (iA (dO (aq 4) (dU (aw (aq 5) (aw (c2 aU (aq 3) (aq 6)) bh)))))
   aW))))
  (aO (eV (aq 4))
  aW)))
@[irreducible] def jn:List D->M D:=cm 7 jS
def jK: CS :=
  (aO (cf (aQ 1) (eK (gg bh)))
  (aO (cf (aQ 2) (eK (dL 1 [] (iN (aq 0)) (aQ 0) bN (aM (.bl false)))))
  (aO (kI (MM.f_ (c1 fX (aq 0))) (aQ 3)
   (aO (np (nM (pd (c2 aU (aq 2) (aq 3))))
    (aO (iA (bW jl (aw (aq 0) (aw (aq 3) (aw (aq 2) (aw (aq 1) bh))))))
    aW)
    aW)
   aW))
  (aO (eV (aq 1))
  aW))))
@[irreducible] def jk:List D->M D:=cm 4 jK
def jI: CS :=
  (aO (cf (aQ 1) (bW jk (aw (aq 0) bh)))
  (aO (cf (aQ 2) (eK (dL 1 [] (iN (aq 0)) (aQ 0) bN (aM (.bl false)))))
  (aO (kI (iN (aq 1)) (aQ 3)
   (aO (np (nM (pd (ir vD (dL 2 [2] (iN (c2 aU (aq 0) (aq 3))) (gQ 2 (cJ (aQ 0) (cJ (aQ 1) hU))) bN (c2 aU (aq 2) (aq 1))))))
    (aO (eV (aM .non))
    aW)
    aW)
   (aO (cf (g_ (aq 2) (aq 3)) (aM (.bl true)))
   aW)))
  (aO (eV (aq 1))
  aW))))
@[irreducible] def jh:List D->M D:=cm 4 jI
def jJ: CS :=
  (aO (cf (aQ 1) (c2 aU (aq 0) (aM (.int 1))))
  (aO (cf (aQ 2) (bW jh (aw (aq 1) bh)))
  (aO (np (di (c2 wU (aq 2) (aM .non)))
   (aO (eV (aM .non))
   aW)
   aW)
  (aO (eV (c2 qF (c2 aU (aq 0) (aM (.int 0))) (bW jz (aw (aq 1) (aw (aq 2) (aw (ug 0 "graph_numbers" kP) bh))))))
  aW))))
@[irreducible] def je:List D->M D:=cm 3 jJ
def jQ: CS :=
  (aO (cf (aQ 3) (oP true))
  (aO (kI (iN (aq 1)) (aQ 4)
   (aO (iA (oM (aq 3) (aq 4) (c1 fX (aq 3))))
   aW))
  (aO (cf (aQ 5) (c1 ph (aq 3)))
  (aO (cf (aQ 6) (eK (gg bh)))
  (aO (kM (di (c2 yD (c1 fX (aq 6)) (c1 fX (aq 5))))
   (aO (np (oK (di (c2 u8 (aq 2) (aM .non))) (di (c2 xD (c1 fX (aq 5)) (aq 2))))
    (aO AY
    aW)
    aW)
   (aO (iA (dO (aq 6) (bW jn (aw (aq 0) (aw (c2 aU (aq 5) (c1 fX (aq 6))) (aw (aq 5) (aw (aq 3) bh)))))))
   aW)))
  (aO (eV (dU (aw (aq 5) (aw (aq 6) bh))))
  aW))))))
@[irreducible] def jo:List D->M D:=cm 7 jQ
def j9: CS :=
  (aO (cf (aQ 2) (eK (dL 1 [0] (iN (bW ju (aw (aq 0) bh))) (aQ 0) bN (bW jE (aw (aq 1) (aw (aq 0) bh))))))
  (aO (eV (bW jo (aw (aq 0) (aw (aq 2) (aw (aq 1) bh)))))
  aW))
@[irreducible] def jD:List D->M D:=cm 3 j9
def jT: CS :=
  (aO (eV (bW je (aw (bW jD (aw (aq 0) (aw (aq 1) bh))) bh)))
  aW)
@[irreducible] def jb:List D->M D:=cm 2 jT
def yh: CS :=
  (aO (cf (aQ 1) (bW jA (aw (bW jG (aw (aq 0) (aw (aM (.int 0)) bh))) bh)))
  (aO (cf (aQ 2) (bW jx (aw (aq 1) (aw (bW jq (aw (aq 1) bh)) bh))))
  (aO (cf (aQ 3) (pb jb (aw (aq 1) bh) (.int 500)))
  (aO (np (di (c2 yD (c1 fX (bW ji (aw (aq 2) bh))) (c1 fX (aq 2))))
   (aO (eV (sI (c2 wU (aq 3) (aM .non)) (c2 wU (bW jb (aw (aq 1) (aw (c1 fX (aq 2)) bh))) (aM .non))))
   aW)
   aW)
  (aO (np (nM (pd (bW jy (aw (aq 3) (aw (aq 2) bh)))))
   (aO (eV (aM (.bl false)))
   aW)
   aW)
  (aO (cf (aQ 4) (c1 pf (aq 3)))
  (aO (iA (oR (aq 3)))
  (aO (eV (sI (c2 um (pb jb (aw (aq 1) bh) (.int 500)) (aq 4)) (c2 um (bW jb (aw (aq 1) (aw (c1 fX (aq 2)) bh))) (aq 4))))
  aW))))))))
@[irreducible] def jN:List D->M D:=cm 5 yh
open PySem.Spec PyProof.Rows L2
set_option genInjectivity false in
structure Txt(K:aj)(mg:Str->Option ag):Prop where
 f0:FnAt K mg "next_state" (top 4)
 f1:FnAt K mg "answer" (top 5)
 f2:FnAt K mg "inputs_of" (top 7)
 f3:FnAt K mg "begin" (top 9)
 f4:FnAt K mg "line_at" (top 10)
 f5:FnAt K mg "replaced" (top 12)
 f6:FnAt K mg "value_at" (top 14)
 f7:FnAt K mg "finish_from" (top 22)
 f8:FnAt K mg "most_from" (top 27)
 f9:FnAt K mg "_law_pot" (top 29)
 f10:FnAt K mg "_law_draw" (top 30)
 f11:FnAt K mg "_law_table" (top 31)
 f12:FnAt K mg "_law_line" (top 32)
 f13:FnAt K mg "_law_house" (top 33)
 f14:FnAt K mg "_law_inputs" (top 34)
 f15:FnAt K mg "_law_begin" (top 35)
 f16:FnAt K mg "_law_at" (top 36)
 f17:FnAt K mg "_law_behind" (top 37)
 f18:FnAt K mg "_law_free" (top 38)
 f19:FnAt K mg "_law_stands" (top 39)
 f20:FnAt K mg "_law_nexts" (top 40)
 f21:FnAt K mg "_law_downward" (top 41)
 f22:FnAt K mg "_law_whole" (top 42)
 f23:FnAt K mg "_law_right" (top 43)
 f24:FnAt K mg "behind" (top 11)
 f25:FnAt K mg "settled" (top 13)
 f26:FnAt K mg "free" (top 15)
 f27:FnAt K mg "steps_from" (top 19)
 f28:FnAt K mg "finish_order" (top 21)
 f29:FnAt K mg "falling_order" (top 23)
 f30:wV K mg "graph_numbers" (top 26)
 f31:FnAt K mg "graph_from" (top 18)
 f32:FnAt K mg "graph_of" (top 17)
 f33:wy K mg "numbers_of" (top 25)
 f34:FnAt K mg "law" (top 44)
 z:xE mg ["all","bool","dict","enumerate","int","isinstance","len","list","max","min","range","sorted","tuple","zip"]
 c:zJ K mg []
section
variable{P:Program}{w:bE}{K:aj}{mg:Str->Option ag}{base:bA}
def LV:uj:=Es 27 .Eq um (λh=>WK h)
def KG:uj:=sH .Lt yD (λ_=>W8)
def MF:uj:=sH .Gt xD (λ_=>Wl)
def Nj:uj:=sH .GtE FT (λ_=>Wm)
def Kf:uj:=sH .Eq o8 (λh=>Tz h)
def NV:uj:=sH .NotEq DX (λh=>Q3 h)
def Lc:uj:=sH .Is wU (λ_=>OL)
def Kn:uj:=sH .IsNot u8 (λ_=>Tk)
def Kq:uj:=sH .NotIn rG (λh=>Rn h)
def RR:oQ:=⟨[IJ,JI,CJ,zU,yq,MM.CV,JZ,Ei,AG,Aj,yw,yP,Hc,Al,A4,CU,Dg,CM,A9,yk,IY,Im,AF,DH,Cu,yz,wN,xY,GC,IN,yE,yC,E8,B9 .Add fw (λ_=>VN),B9 .Sub sC (λ_=>Uf),B9 .Mult rD (λ_=>Pu),B9 .FloorDiv r6 (λ_=>Ve),B9 .Mod oT (λ_=>O5),B9 .Pow wW (λ_=>Wn),LV.e,KG.e,MF.e,Nj.e,Kf.e,NV.e,Lc.e,Kn.e,Kq.e,IR,IL,HK,Ih,E5],[Ha,Dh,DF,AB],[LV.t,KG.t,MF.t,Nj.t,Kf.t,NV.t,Lc.t,Kn.t,Kq.t,AD,AN,Wf],[xV,yx,Bh,Af true,DS,yI,C4,DQ],[Rg,E3,EO],[Iw,Di,Kc,E7,D9,xX,By,yA,Ao,E1,Ep]⟩
noncomputable abbrev hh:List (Nat×Nat×Nat):=[(25,53,7),(40,11,1),(40,41,1),(52,14,2),(55,13,5),(215,15,2),(231,17,2),(236,16,21),(236,57,6),(237,16,2),(242,45,6),(270,16,26),(271,4,25),(272,11,27),(272,56,27)]
noncomputable def Nn:List (Str×RF):=[]
theorem WG(T:Txt K mg)(c:BMod base mg):c_ P w K mg base Nn:=V_
def I_:List (Str×RF):=("next_state",⟨3,1,["table","state","deed"],false,jj⟩)::Nn
theorem Tb(T:Txt K mg)(c:BMod base mg):c_ P w K mg base I_:=by unfold I_ jj;exact nV RR (r:=[]) (H:=hh) T.f0 (by nofun) (λ_ _ _ _ _ _=>xt λ_ _ _=>rfl) nofun (by kernel_rfl) (WG T c) T.z T.c
def HE:List (Str×RF):=("answer",⟨3,1,["table","state","deed"],false,jF⟩)::I_
theorem VA(T:Txt K mg)(c:BMod base mg):c_ P w K mg base HE:=by unfold HE jF;exact nV RR (r:=[]) (H:=hh) T.f1 (by nofun) (λ_ _ _ _ _ _=>xt λ_ _ _=>rfl) nofun (by kernel_rfl) (Tb T c) T.z T.c
def Ht:List (Str×RF):=("inputs_of",⟨1,1,["house"],false,ju⟩)::HE
theorem Od(T:Txt K mg)(c:BMod base mg):c_ P w K mg base Ht:=by unfold Ht ju;exact nV RR (r:=["told","hand","longer","inputs"]) (H:=hh) T.f2 (by nofun) (λ_ _ _ _ _ _=>v5 λ_=>rfl) nofun (by kernel_rfl) (VA T c) T.z T.c
def G3:List (Str×RF):=("begin",⟨2,1,["house","inputs"],false,jE⟩)::Ht
theorem Wv(T:Txt K mg)(c:BMod base mg):c_ P w K mg base G3:=by unfold G3 jE;exact nV RR (r:=["lines"]) (H:=hh) T.f3 (by nofun) (λ_ _ _ _ _ _=>uW λ_ _=>rfl) nofun (by kernel_rfl) (Od T c) T.z T.c
def IA:List (Str×RF):=("line_at",⟨3,1,["house","stand","hand"],false,jg⟩)::G3
theorem Pk(T:Txt K mg)(c:BMod base mg):c_ P w K mg base IA:=by unfold IA jg;exact nV RR (r:=[]) (H:=hh) T.f4 (by nofun) (λ_ _ _ _ _ _=>xt λ_ _ _=>rfl) nofun (by kernel_rfl) (Wv T c) T.z T.c
def IV:List (Str×RF):=("replaced",⟨3,1,["numbers","place","number"],false,jd⟩)::IA
theorem SV(T:Txt K mg)(c:BMod base mg):c_ P w K mg base IV:=by unfold IV jd;exact nV RR (r:=[]) (H:=hh) T.f5 (by nofun) (λ_ _ _ _ _ _=>xt λ_ _ _=>rfl) nofun (by kernel_rfl) (Pk T c) T.z T.c
def Hm:List (Str×RF):=("value_at",⟨1,1,["line"],false,jf⟩)::IV
theorem V3(T:Txt K mg)(c:BMod base mg):c_ P w K mg base Hm:=by unfold Hm jf;exact nV RR (r:=[]) (H:=hh) T.f6 (by nofun) (λ_ _ _ _ _ _=>v5 λ_=>rfl) nofun (by kernel_rfl) (SV T c) T.z T.c
def Jl:List (Str×RF):=("finish_from",⟨4,1,["steps","root","seen","order"],false,jl⟩)::Hm
theorem Dy(T:Txt K mg)(c:BMod base mg):c_ P w K mg base Jl:=by unfold Jl jl;exact nV RR (r:=["path","gone","here","there"]) (H:=hh) T.f7 (by nofun) (λ_ _ _ _ _ _=>xp λ_ _ _ _=>rfl) nofun (by kernel_rfl) (V3 T c) T.z T.c
theorem TK(T:Txt K mg)(c:BMod base mg):pI P w K mg base 1 2 kP tq:=by unfold tq;exact TL RR (r:=[]) (nm:=["here","hand"]) (k:=0) (H:=hh) (by kernel_rfl) (by kernel_rfl) (λ_ _ _ _=>uW λ_ _=>by kernel_rfl) (by kernel_rfl) (Dy T c) T.z T.c Gq
theorem J5(T:Txt K mg)(c:BMod base mg):B3 P w K mg base sy:=(Pc (TK T c) Gq)
def HQ:List (Str×RF):=("most_from",⟨3,2,["steps","order","worth"],false,jz⟩)::Jl
theorem Vj(T:Txt K mg)(c:BMod base mg):c_ P w K mg base HQ:=by unfold HQ jz;exact VH RR (r:=["told","here"]) (W:=sy) (H:=hh) T.f8 (by nofun) (λ_ _ _ _ _ _=>xt λ_ _ _=>rfl) (by kernel_rfl) (Dy T c) T.z T.c (J5 T c)
def AT:List (Str×RF):=("_law_pot",⟨2,1,["_law_script","_law_base"],false,jG⟩)::HQ
theorem Jq(T:Txt K mg)(c:BMod base mg):c_ P w K mg base AT:=by unfold AT jG;exact nV RR (r:=["_law_seed","_law_left","_law_cell"]) (H:=hh) T.f9 (by nofun) (λ_ _ _ _ _ _=>uW λ_ _=>rfl) nofun (by kernel_rfl) (Vj T c) T.z T.c
def Az:List (Str×RF):=("_law_draw",⟨2,1,["_law_pot_here","_law_many"],false,ja⟩)::AT
theorem Gm(T:Txt K mg)(c:BMod base mg):c_ P w K mg base Az:=by unfold Az ja;exact nV RR (r:=["_law_digit","_law_one"]) (H:=hh) T.f10 (by nofun) (λ_ _ _ _ _ _=>uW λ_ _=>rfl) nofun (by kernel_rfl) (Jq T c) T.z T.c
def Bl:List (Str×RF):=("_law_table",⟨2,2,["_law_pot_here","_law_most"],false,jv⟩)::Az
theorem Iz(T:Txt K mg)(c:BMod base mg):c_ P w K mg base Bl:=by unfold Bl jv;exact nV RR (r:=["_law_kind","_law_many","_law_kept","_law_deeds"]) (H:=hh) T.f11 (by nofun) (λ_ _ _ _ _ _=>uW λ_ _=>rfl) nofun (by kernel_rfl) (Gm T c) T.z T.c
def AA:List (Str×RF):=("_law_line",⟨5,2,["_law_pot_here","_law_boards","_law_many","_law_k","_law_onward"],false,jt⟩)::Bl
theorem JX(T:Txt K mg)(c:BMod base mg):c_ P w K mg base AA:=by unfold AA jt;exact nV RR (r:=["_law_b","_law_table_here","_law_d","_law_goals","_law_answer_told"]) (H:=hh) T.f12 (by nofun) (λ_ _ _ _ _ _=>Uz λ_ _ _ _ _=>rfl) nofun (by kernel_rfl) (Iz T c) T.z T.c
def AX:List (Str×RF):=("_law_house",⟨1,3,["_law_pot_here"],false,jA⟩)::AA
theorem JT(T:Txt K mg)(c:BMod base mg):c_ P w K mg base AX:=by unfold AX jA;exact nV RR (r:=["_law_boards","_law_count","_law_k","_law_table_here","_law_hands","_law_hands_many","_law_most","_law_way","_law_many","_law_onward","_law_lines","_law_begins"]) (H:=hh) T.f13 (by nofun) (λ_ _ _ _ _ _=>v5 λ_=>rfl) nofun (by kernel_rfl) (JX T c) T.z T.c
def Aw:List (Str×RF):=("_law_inputs",⟨1,1,["_law_house_here"],false,jp⟩)::AX
theorem HP(T:Txt K mg)(c:BMod base mg):c_ P w K mg base Aw:=by unfold Aw jp;exact nV RR (r:=["_law_found","_law_hand"]) (H:=hh) T.f14 (by nofun) (λ_ _ _ _ _ _=>v5 λ_=>rfl) nofun (by kernel_rfl) (JT T c) T.z T.c
def Ah:List (Str×RF):=("_law_begin",⟨2,1,["_law_house_here","_law_inputs_here"],false,jw⟩)::Aw
theorem JD(T:Txt K mg)(c:BMod base mg):c_ P w K mg base Ah:=by unfold Ah jw;exact nV RR (r:=["_law_lines"]) (H:=hh) T.f15 (by nofun) (λ_ _ _ _ _ _=>uW λ_ _=>rfl) nofun (by kernel_rfl) (HP T c) T.z T.c
def Av:List (Str×RF):=("_law_at",⟨3,1,["_law_house_here","_law_stand","_law_hand"],false,jr⟩)::Ah
theorem II(T:Txt K mg)(c:BMod base mg):c_ P w K mg base Av:=by unfold Av jr;exact nV RR (r:=[]) (H:=hh) T.f16 (by nofun) (λ_ _ _ _ _ _=>xt λ_ _ _=>rfl) nofun (by kernel_rfl) (JD T c) T.z T.c
def A_:List (Str×RF):=("_law_behind",⟨3,2,["_law_house_here","_law_stand","_law_hand"],false,jc⟩)::Av
theorem G8(T:Txt K mg)(c:BMod base mg):c_ P w K mg base A_:=by unfold A_ jc;exact nV RR (r:=["_law_line_here","_law_lines","_law_states","_law_b","_law_after","_law_told_so"]) (H:=hh) T.f17 (by nofun) (λ_ _ _ _ _ _=>xt λ_ _ _=>rfl) nofun (by kernel_rfl) (II T c) T.z T.c
def Ag:List (Str×RF):=("_law_free",⟨2,2,["_law_house_here","_law_stand"],false,js⟩)::A_
theorem HD(T:Txt K mg)(c:BMod base mg):c_ P w K mg base Ag:=by unfold Ag js;exact nV RR (r:=["_law_found","_law_k"]) (H:=hh) T.f18 (by nofun) (λ_ _ _ _ _ _=>uW λ_ _=>rfl) nofun (by kernel_rfl) (G8 T c) T.z T.c
def Ax:List (Str×RF):=("_law_stands",⟨1,3,["_law_house_here"],false,jq⟩)::Ag
theorem Gs(T:Txt K mg)(c:BMod base mg):c_ P w K mg base Ax:=by unfold Ax jq;exact nV RR (r:=["_law_found","_law_met","_law_inputs_here","_law_stand","_law_at_here","_law_hand"]) (H:=hh) T.f19 (by nofun) (λ_ _ _ _ _ _=>v5 λ_=>rfl) nofun (by kernel_rfl) (HD T c) T.z T.c
def AK:List (Str×RF):=("_law_nexts",⟨2,3,["_law_house_here","_law_stands_here"],false,jx⟩)::Ax
theorem HX(T:Txt K mg)(c:BMod base mg):c_ P w K mg base AK:=by unfold AK jx;exact nV RR (r:=["_law_found","_law_stand"]) (H:=hh) T.f20 (by nofun) (λ_ _ _ _ _ _=>uW λ_ _=>rfl) nofun (by kernel_rfl) (Gs T c) T.z T.c
def Bx:List (Str×RF):=("_law_downward",⟨1,1,["_law_nexts_here"],false,ji⟩)::AK
theorem Gx(T:Txt K mg)(c:BMod base mg):c_ P w K mg base Bx:=by unfold Bx ji;exact nV RR (r:=["_law_back","_law_left","_law_stand","_law_ways","_law_hand","_law_after","_law_row","_law_at_here"]) (H:=hh) T.f21 (by nofun) (λ_ _ _ _ _ _=>v5 λ_=>rfl) nofun (by kernel_rfl) (HX T c) T.z T.c
def A1:List (Str×RF):=("_law_whole",⟨1,1,["_law_found"],false,jm⟩)::Bx
theorem Iv(T:Txt K mg)(c:BMod base mg):c_ P w K mg base A1:=by unfold A1 jm;exact nV RR (r:=[]) (H:=hh) T.f22 (by nofun) (λ_ _ _ _ _ _=>v5 λ_=>rfl) nofun (by kernel_rfl) (Gx T c) T.z T.c
def AQ:List (Str×RF):=("_law_right",⟨2,2,["_law_numbers","_law_nexts_here"],false,jy⟩)::A1
theorem Jy(T:Txt K mg)(c:BMod base mg):c_ P w K mg base AQ:=by unfold AQ jy;exact nV RR (r:=["_law_stand","_law_ways"]) (H:=hh) T.f23 (by nofun) (λ_ _ _ _ _ _=>uW λ_ _=>rfl) nofun (by kernel_rfl) (Iv T c) T.z T.c
def Bb:List (Str×RF):=("behind",⟨3,2,["house","stand","hand"],false,jB⟩)::AQ
theorem GH(T:Txt K mg)(c:BMod base mg):c_ P w K mg base Bb:=by unfold Bb jB;exact nV RR (r:=["line","board","deed","table","state","goal"]) (H:=hh) T.f24 (by nofun) (λ_ _ _ _ _ _=>xt λ_ _ _=>rfl) nofun (by kernel_rfl) (Jy T c) T.z T.c
def Ae:List (Str×RF):=("settled",⟨2,2,["house","stand"],false,jC⟩)::Bb
theorem Ji(T:Txt K mg)(c:BMod base mg):c_ P w K mg base Ae:=by unfold Ae jC;exact nV RR (r:=[]) (H:=hh) T.f25 (by nofun) (λ_ _ _ _ _ _=>uW λ_ _=>rfl) nofun (by kernel_rfl) (GH T c) T.z T.c
def Ay:List (Str×RF):=("free",⟨2,3,["house","stand"],false,jL⟩)::Ae
theorem JS(T:Txt K mg)(c:BMod base mg):c_ P w K mg base Ay:=by unfold Ay jL;exact nV RR (r:=[]) (H:=hh) T.f26 (by nofun) (λ_ _ _ _ _ _=>uW λ_ _=>rfl) nofun (by kernel_rfl) (Ji T c) T.z T.c
def Br:List (Str×RF):=("steps_from",⟨4,4,["house","stand","stands","numbers"],false,jn⟩)::Ay
theorem Gw(T:Txt K mg)(c:BMod base mg):c_ P w K mg base Br:=by unfold Br jn;exact nV RR (r:=["steps","hand","there"]) (H:=hh) T.f27 (by nofun) (λ_ _ _ _ _ _=>xp λ_ _ _ _=>rfl) nofun (by kernel_rfl) (JS T c) T.z T.c
def A7:List (Str×RF):=("finish_order",⟨1,2,["steps"],false,jk⟩)::Br
theorem Jm(T:Txt K mg)(c:BMod base mg):c_ P w K mg base A7:=by unfold A7 jk;exact nV RR (r:=["order","seen","root"]) (H:=hh) T.f28 (by nofun) (λ_ _ _ _ _ _=>v5 λ_=>rfl) nofun (by kernel_rfl) (Gw T c) T.z T.c
def Bs:List (Str×RF):=("falling_order",⟨1,3,["steps"],false,jh⟩)::A7
theorem Gy(T:Txt K mg)(c:BMod base mg):c_ P w K mg base Bs:=by unfold Bs jh;exact nV RR (r:=["order","ended","here"]) (H:=hh) T.f29 (by nofun) (λ_ _ _ _ _ _=>v5 λ_=>rfl) nofun (by kernel_rfl) (Jm T c) T.z T.c
def Bc:List (Str×RF):=("graph_numbers",⟨1,4,["graph"],false,je⟩)::Bs
theorem JQ(T:Txt K mg)(c:BMod base mg):c_ P w K mg base Bc:=by unfold Bc je;exact PH RR (r:=["steps","order"]) (j:=0) (H:=hh) T.f30 (by nofun) (λ_ _ _ _ _ _=>v5 λ_=>rfl) (by kernel_rfl) (Gy T c) T.z T.c c
def Bz:List (Str×RF):=("graph_from",⟨3,5,["house","firsts","most"],false,jo⟩)::Bc
theorem Hr(T:Txt K mg)(c:BMod base mg):c_ P w K mg base Bz:=by unfold Bz jo;exact nV RR (r:=["numbers","stand","stands","steps"]) (H:=hh) T.f31 (by nofun) (λ_ _ _ _ _ _=>xt λ_ _ _=>rfl) nofun (by kernel_rfl) (JQ T c) T.z T.c
def AR:List (Str×RF):=("graph_of",⟨2,6,["house","most"],false,jD⟩)::Bz
theorem HY(T:Txt K mg)(c:BMod base mg):c_ P w K mg base AR:=by unfold AR jD;exact nV RR (r:=["begins"]) (H:=hh) T.f32 (by nofun) (λ_ _ _ _ _ _=>uW λ_ _=>rfl) nofun (by kernel_rfl) (Hr T c) T.z T.c
def DK:List (Str×RF):=("numbers_of",⟨2,7,["house","most"],true,jb⟩)::AR
theorem J7(T:Txt K mg)(h:BMod base mg):c_ P w K mg base DK:=by unfold DK jb;exact OT RR (r:=[]) (H:=hh) T.f33 (by nofun) (λ_ _ _ _ _ _ _ _ c g=>uW (λ_ _=>⟨_,rfl,rfl⟩) c (by simpa using g)) (λ_ _ _ _ _ _ _ _ c g=>v5 (λ_=>⟨_,rfl,rfl⟩) c (by simpa using g)) (by kernel_rfl) (HY T h) T.z T.c rfl
theorem yi{a:ao}{c:dG}(F:xB K "law" "law" (top 44) a c)(T:Txt K mg)(g:BMod base mg):m7 P w K mg base sf 8 a c ["_law_script"] (n0 K 1 jN):=by unfold jN;exact MG RR (r:=["_law_house_here","_law_nexts_here","_law_found","_law_kept"]) (H:=hh) F (by nofun) (by kernel_rfl) (J7 T g) T.z T.c rfl rfl
end
end My
namespace My
open MM
open PySem (Str)
theorem ik{s:aZ}{n:Nat}{o:MO}(h:s[n]?=some o):n < s.length:=(ac.mp h).1
structure dS(s:aZ)(p q:Nat):Prop where
 ne:p≠q
 ex:∃(x c:Int)(cs:List D),s[p]?=some (.lst [.int x,.int c,.ref q])/\s[q]?=some (.lst cs)/\0<=x/\x < 2147483648/\∀d∈cs,∃i:Int,d=.int i
structure Kept(p q:Nat)(s s':aZ):Prop where
 le:s.length<=s'.length
 at_:∀n,n < s.length->n≠p->n≠q->s'[n]?=s[n]?
section
variable{p q:Nat}{s s1 s2:aZ}{Q:D->aZ->Prop}
theorem Kept.refl:Kept p q s s:=⟨av _,λ_ _ _ _=>rfl⟩
theorem Kept.trans(h:Kept p q s s1)(k:Kept p q s1 s2):Kept p q s s2:=⟨cS h.le k.le,λn l g c=>(k.at_ n (a_ l h.le) g c).trans (h.at_ n l g c)⟩
theorem Kept.same{n:Nat}{o:MO}(h:Kept p q s s1)(l:n≠p)(c:n≠q)(g:s[n]?=some o):s1[n]?=some o:=(h.at_ n (ik g) l c).trans g
theorem Kept.snoc{o:MO}(h:Kept p q s s1):Kept p q s (s1++[o]):=h.trans ⟨by simp,λn c _ _=>ax c⟩
theorem Kept.put{n:Nat}{o:MO}(h:Kept p q s s1)(u:s.length<=n):Kept p q s (s1.set n o):=
 ⟨by simp;exact h.le,λm l g c=>by rw[af (by ext)];exact h.at_ m l g c⟩
theorem dS.lt(h:dS s p q):p < s.length/\q < s.length:=by obtain⟨x,c,g,a,b,_⟩:=h.ex;exact⟨ik a,ik b⟩
theorem dS.snoc{o:MO}(h:dS s p q):dS (s++[o]) p q:=by obtain⟨x,c,g,a,b,r⟩:=h.ex;exact⟨h.ne,x,c,g,by rw[ax (ik a)];exact a,by rw[ax (ik b)];exact b,r⟩
theorem dS.put{n:Nat}{o:MO}(h:dS s p q)(l:n≠p)(g:n≠q):dS (s.set n o) p q:=by obtain⟨x,c,u,a,b,r⟩:=h.ex;exact⟨h.ne,x,c,u,by rw[af l];exact a,by rw[af g];exact b,r⟩
noncomputable def E2(s:aZ)(p q:Nat)(x c:Int)(g:List D):Prop:=s[p]?=some (.lst [.int x,.int c,.ref q])/\s[q]?=some (.lst g)
theorem qZ{k:Int}(hp:dS s p q)(O:0 < k)(hk2:k < 1073741824)(h:∀r u,0<=r->r < k->dS u p q->Kept p q s u->Q (.int r) u):wp (ja [.ref p,.int k]) Q s:=by
 obtain⟨x,c,g,I,J,hx0,hx1,C⟩:=hp.ex;have G:=hp.ne;have i3:MM.my [D.int x,D.int c,D.ref q].length 1=some 1:=rfl
 (simp![ja];simp![j6])
 refine CQ (λl u=>l=[some (.ref p),some (.int k),none,none]/\∃c g,E2 u p q x c g/\(∀d∈g,∃i:Int,d=.int i)/\Kept p q s u)
  (λl u=>match u[q]? with
   |some (.lst g)=>g.length
   |_=>0) ⟨rfl,c,g,⟨I,J⟩,C,Kept.refl⟩ (λRw l u up rt hW=>?_)
 obtain⟨el,c,g,⟨I,J⟩,C,H⟩:=hW;subst el;simp![↓e_ I,↓e_ J];by_cases hc:c=0/\0 < g.length
 ·obtain⟨c,U⟩:=hc;subst c;have O:decide ((0:Int) < (g.length:Nat))=true:=bB (by ext);rw[aG rfl,aG (by ext)];obtain⟨d,hd⟩:∃d,g.getLast?=some d:=⟨_,List.getLast?_eq_some_getLast (by intro e;rw[e]at U;simp at U)⟩
  obtain⟨i,o⟩:=C d (List.mem_of_getLast? hd);subst o;have h:(u.set q (.lst g.dropLast))[p]?=some (.lst [.int x,.int 0,.ref q]):=by rw[af (bG G)];exact I
  have L:(u.set q (.lst g.dropLast))[q]?=some (.lst g.dropLast):=au (ik J);have i3:MM.my 3 1=some 1:=rfl;simp![↓e_ I,↓e_ J,hd,↓nK J,↓qC,↓e_ h,i3,↓nK h];have B:((u.set q (.lst g.dropLast)).set p (.lst [.int x,.int i,.ref q]))[p]?=some (.lst [.int x,.int i,.ref q]):=au (ik h);have l:((u.set q (.lst g.dropLast)).set p (.lst [.int x,.int i,.ref q]))[q]?=some (.lst g.dropLast):=by rw[af G];exact L
  refine up ⟨rfl,i,g.dropLast,⟨B,l⟩,λd hd=>C d (List.dropLast_subset _ hd),⟨by simp;exact H.le,λn hn v E=>?_⟩⟩ ?_
  ·rw[af (bG v),af (bG E)];exact H.at_ n hn v E
  ·rw[l,J];simp only[vd];ext
 ·have fin : ∀(A B : Prop), (if c = 0 then (if 0 < (g.length : Int) then A else B) else B) = B := λA B => by
    by_cases Y:c=0
    ·rw[aG Y,aC (by ext)]
    ·rw[aC Y]
  rw[fin];have i3:MM.my 3 1=some 1:=rfl;have i4:MM.my 3 0=some 0:=rfl;have kp:∀o,Kept p q s (u.set p o):=λo=>⟨by simp;exact H.le,λn hn v E=>by rw[af (bG v)];exact H.at_ n hn v E⟩
  have pt:∀(L c':Int),0<=L->L < 2147483648->dS (u.set p (.lst [.int L,.int c',.ref q])) p q:=λL c' l Y=>⟨G,L,c',g,au (ik I),by rw[af G];exact J,l,Y,C⟩
  have Q:∀a b:Int,0<=b->b < 10000000->pF a b:=λa b Y h2=>.inr ⟨by ext,by ext⟩;by_cases l:0 < c
  ·rw[aG l];simp![i3,↓nK I];exact⟨O,⟨O,hk2⟩,h _ _ (kY _ (by ext)) (iQ _ O) (pt _ _ hx0 hx1) (kp _)⟩
  ·rw[aC l];have q:0<=(x*48271+7919) % 2147483647:=kY _ (by ext);have o:(x*48271+7919) % 2147483647 < 2147483647:=iQ _ (by ext);generalize (x*48271+7919) % 2147483647=one at q o ⊢;have g:0<=(one*40692+12345) % 2147483399+1:=by have:=kY (one*40692+12345) (show (2147483399:Int)≠0 by ext);ext
   have c:(one*40692+12345) % 2147483399+1 < 2147483648:=by have:=iQ (one*40692+12345) (show (0:Int) < 2147483399 by ext);ext
   generalize (one*40692+12345) % 2147483399+1=L at g c ⊢;have U:((0:Int) < 64/\(64:Int) < 1073741824):=by ext
   simp![i4,↓nK I,↓e_ (au (ik I)),U];exact⟨Q _ _ (by ext) (by ext),Q _ _ (by ext) (by ext),.inl ⟨by ext,by ext⟩,Q _ _ (by ext) (by ext),O,h _ _ (kY _ (by ext)) (iQ _ O) (pt _ _ g c) (kp _)⟩
theorem Pe{E:List Int}(h:∀p q o,dS o p q->s.length<=p->s.length<=q->eX s o->Q (.ref p) o):wp (jG [.lit (E.map D.int),.int 0]) Q s:=by
 have l0:0<=fu:=bx _;have l3:3<=fu:=iB (by ext);have m0:pF 7919 0:=.inl ⟨by ext,by ext⟩;have m2:∀a b:Int,0<=b->b < 10000000->pF a b:=λa b h1 h2=>.inr ⟨by ext,by ext⟩;have U:∀Q s,wp (wW (.int 10) (.int 18)) Q s=Q (.int 1000000000000000000) s:=λQ s=>by unfold wW;rw[d9,cL];exact propext ⟨λh=>h.2,λh=>⟨by decide,h⟩⟩
 generalize (1000000000000000000:Int)=big at U
 (simp![jG];simp![ya,l0,m0])
 have B:∀d∈cutD (E.map D.int) (some 0) (some 63),∃i:Int,d=.int i:=λd hd=>by unfold cutD at hd;obtain⟨i,_,e⟩:=bU.mp (List.mem_of_mem_drop (fN hd));exact⟨i,e.symm⟩
 have I:(cutD (E.map D.int) (some 0) (some 63)).length<=63:=by unfold cutD gM;simp;ext
 generalize cutD (E.map D.int) (some 0) (some 63)=cells at B I;refine ul (λi l o=>∃x J C,l=[some (.lit (E.map D.int)),some (.int 0),some (.int x),some (.ref s.length),J]/\(i=0\/(0<=x/\x < 2147483648))/\(i=0->x=104729)/\o[s.length]?=some (.lst C)/\(o.length=s.length+1/\eX s o)/\C.length<=i/\∀d∈C,∃i:Int,d=.int i) (λ_ _ _ _=>trivial) ⟨_,_,[],rfl,.inl rfl,λ_=>rfl,by simp,⟨by simp,(eX.refl _).snoc _⟩,av _,by simp⟩ (λRw i d l o up rt hd O=>?_) (λl o O=>?_)
 ·obtain⟨x,J,C,el,Y,H,g,c,hl,u⟩:=O;subst el;obtain⟨v,G⟩:=B d (aA hd);subst G;have Q:=(ac.mp hd).1;have c1:(0:Int) < 2147483629:=by ext
  have c2:(0:Int) < 2147483647:=by ext
  have L:0<=(x*48271+v % 2147483629+1) % 2147483647:=kY _ (by ext);have o:(x*48271+v % 2147483629+1) % 2147483647 < 2147483647:=iQ _ (by ext);have q:pF x 48271:=m2 _ _ (by ext) (by ext);have E:C.length < fu:=qM (by ext);simp![↓U,↓e_ g,↓nK g,q,c1,c2,E];generalize (x*48271+v % 2147483629+1) % 2147483647=I at L o ⊢;by_cases l:big<=v
  ·rw[aG l];refine up ⟨_,_,_,rfl,.inr ⟨L,by ext⟩,λh=>by ext,au (ik g),⟨by simp[c.1],c.2.put (av _)⟩,by simp;ext,λd hd=>?_⟩;rcases aX.mp hd with hd|hd
   ·exact u d hd
   ·exact⟨v,aJ.mp hd⟩
  ·rw[aC l];exact up ⟨_,_,_,rfl,.inr ⟨L,by ext⟩,λh=>by ext,g,c,by ext,u⟩
 ·obtain⟨x,J,C,el,Y,H,g,c,hl,u⟩:=O;subst el;simp![↓e_ g,l3];have G:0<=x/\x < 2147483648:=by
   rcases Y with h|h
   ·have:=H h;ext
   ·exact h
  obtain⟨c,hex⟩:=c;refine h _ o.length _ ⟨by simp,x,0,C.reverse,by simp,by simp,G.1,G.2,λd hd=>u d (List.mem_reverse.mp hd)⟩ (by simp;ext) (by ext) ((hex.snoc _).snoc _)
end
open PySem (Str)
def lj(S c:Nat)(nx un:Nat->Nat->Nat):D:=.tup (br S λs=>.tup (br c λd=>.tup [.int (nx s d:Nat),.int (un s d:Nat)]))
noncomputable def tF(S c:Nat)(nx un:Nat->Nat->Nat):Prop:=1<=S/\S<=4/\1<=c/\c<=4/\∀s d,s < S->d < c->nx s d < S/\un s d < 4
section
variable{p q:Nat}{s s1 s2:aZ}{Q:D->aZ->Prop}
theorem vF{m:Nat}(h:m<=100):(-(2^62)<=(m:Int)/\(m:Int) < 2^62):=by ext
theorem Rj{m n:Nat}{A:List D->aZ->Prop}(O:dS s p q)(h1:1<=m)(h2:m<=4)(h:∀(f g:Nat->Nat)v,(∀i,i < n->f i < m/\g i < 4)->dS v p q->Kept p q s v->A (br n λi=>.tup [.int (f i:Nat),.int (g i:Nat)]) v):
  wp (collect (aQ 0) bN (dU (aw (bW ja (aw (aq 1) (aw (aq 2) bh))) (aw (bW ja (aw (aq 1) (aw (aM (.int 4)) bh))) bh))) dP (br n λi=>.int i) [none,some (.ref p),some (.int m)]) A s:=by
 refine Ja (λi l v=>∃f g:Nat->Nat,l=(br i λi=>.tup [.int (f i:Nat),.int (g i:Nat)])/\(∀j,j < i->f j < m/\g j < 4)/\dS v p q/\Kept p q s v) (λ_ _ _ _=>trivial) ⟨λ_=>0,λ_=>0,rfl,λj G=>bn G (rV _),O,Kept.refl⟩ (λRr i l s1 up hi U=>?_) (λl s1 c=>by obtain⟨f,g,H,u,o,B⟩:=c;rw[H];exact h f g s1 u o B);obtain⟨f,g,H,u,o,B⟩:=U;have I:2<=fu:=iB (by ext);simp![I];refine qZ o (by ext) (by ext) λa s2 Q a1 E L=>?_
 try simp![]
 refine qZ E (by ext) (by ext) λb s3 Y b1 C J=>?_
 try simp![I]
 refine up ⟨λj=>if j=i then a.toNat else f j,λj=>if j=i then b.toNat else g j,?_,λj G=>?_,C,(B.trans L).trans J⟩
 ·rw[JY,H];congr 1
  ·exact yU λj G=>by dsimp only;rw[aC (by ext),aC (by ext)]
  ·dsimp only;rw[aG rfl,aG rfl,gi Q,gi Y]
 ·dsimp only;by_cases e:j=i
  ·rw[aG e,aG e];ext
  ·rw[aC e,aC e];exact u j (by ext)
theorem MJ{m n:Nat}{A:List D->aZ->Prop}(L:dS s p q)(I:1<=m)(H:m<=4)(h3:1<=n)(h4:n<=4)(h:∀(nx un:Nat->Nat->Nat)v,tF m n nx un->dS v p q->Kept p q s v->A (br m λs=>.tup (br n λd=>.tup [.int (nx s d:Nat),.int (un s d:Nat)])) v):
  wp (collect (aQ 0) bN (ir kH (dL 1 [1,2] (MM.f_ (aq 3)) (aQ 0) bN (dU (aw (bW ja (aw (aq 1) (aw (aq 2) bh))) (aw (bW ja (aw (aq 1) (aw (aM (.int 4)) bh))) bh))))) dP (br m λi=>.int i) [none,some (.ref p),some (.int m),some (.int n)]) A s:=by
 refine Ja (λi l v=>∃nx un:Nat->Nat->Nat,l=(br i λs=>.tup (br n λd=>.tup [.int (nx s d:Nat),.int (un s d:Nat)]))/\(∀s d,s < i->d < n->nx s d < m/\un s d < 4)/\dS v p q/\Kept p q s v) (λ_ _ _ _=>trivial) ⟨λ_ _=>0,λ_ _=>0,rfl,λj d E=>bn E (rV _),L,Kept.refl⟩ (λRr i l s1 up hi Q=>?_) (λl s1 c=>by obtain⟨nx,un,G,u,o,B⟩:=c;rw[G];exact h nx un s1 ⟨I,H,h3,h4,u⟩ o B);obtain⟨nx,un,G,u,o,B⟩:=Q;have Y:=vF (show n<=100 by ext);have O:n<=fu:=iB (by ext);simp![Y,ib,ba,uu,m6,O];refine Rj o I H λf g s2 U C J=>?_
 try simp![]
 refine up ⟨λj d=>if j=i then f d else nx j d,λj d=>if j=i then g d else un j d,?_,λj d E hd=>?_,C,B.trans J⟩
 ·rw[JY,G];congr 1
  ·exact yU λj E => by congr 1;exact yU λd hd=>by dsimp only;rw[aC (by ext),aC (by ext)]
  ·congr 2;exact yU λd hd=>by dsimp only;rw[aG rfl,aG rfl]
 ·dsimp only;by_cases e:j=i
  ·rw[aG e,aG e];exact U d hd
  ·rw[aC e,aC e];exact u j d (by ext) hd
theorem OU{k:Nat}{A:List D->aZ->Prop}(B:k<=3):wp (collect (aQ 0) bN (c2 fw (dU (aw (dU (aw (aq 0) (aw (aq 0) bh))) bh)) (ir kH (dL 1 [] (MM.f_ (aq 1)) (aQ 0) bN (dU (aw (aq 0) (aw (aM (.int 0)) bh)))))) dP (br k λi=>.int i) [none,some (.int k)]) A s=A (br k λv=>.tup (.tup [.int (v:Nat),.int (v:Nat)]::br k λv=>.tup [.int (v:Nat),.int 0])) s:=wI t9 λv o Q=>by
 have l:1<=fu:=iB (by ext);have g:2<=fu:=iB (by ext);have C:=vF (show k<=100 by ext);have u:k<=fu:=iB (by ext);have c:1+k<=fu:=iB (by ext);have h:∀Q s,wp (collect (aQ 0) bN (dU (aw (aq 0) (aw (aM (.int 0)) bh))) dP (br k λi=>.int i) [none]) Q s=Q (br k λv=>.tup [.int (v:Nat),.int 0]) s:=λQ s=>wI t9 λv o Q=>by simp![g]
 simp![l,g,C,ib,ba,uu,m6,u,↓h,c]
theorem QW{k:Nat}: D.tup (br k λv=>.tup (.tup [.int (v:Nat),.int (v:Nat)]::br k λv=>.tup [.int (v:Nat),.int 0]))=lj k (k+1) (λs d=>match d with
    |0=>s
    |d+1=>d) (λs d=>match d with
    |0=>s
    |_+1=>0):=by
 unfold lj;congr 1;exact yU λv c=>by rw[MT];congr 1;exact yU λd hd=>by cases d<;>rfl
theorem U1{m:Nat}{A:List D->aZ->Prop}(B:m<=4):wp (collect (aQ 0) bN (ir kH (dL 1 [0] (MM.f_ (aq 1)) (aQ 0) bN (dU (aw (aq 0) (aw (aq 1) bh))))) dP (br m λi=>.int i) [none,some (.int m)]) A s=A (br m λs=>.tup (br m λv=>.tup [.int (v:Nat),.int (s:Nat)])) s:=wI t9 λv o Q=>by
 have g:2<=fu:=iB (by ext);have l:=vF (show m<=100 by ext);have h:m<=fu:=iB (by ext);have c:∀Q s,wp (collect (aQ 0) bN (dU (aw (aq 0) (aw (aq 1) bh))) dP (br m λi=>.int i) [none,some (.int v)]) Q s=Q (br m λu=>.tup [.int (u:Nat),.int (v:Nat)]) s:=λQ s=>wI t9 λu hu Q=>by simp![g]
 simp![l,ib,ba,uu,m6,h,↓c]
theorem Sk{m:Nat}{A:List D->aZ->Prop}(l:1<=m):wp (collect (aQ 0) bN (dU (aw (dU (aw (c2 oT (c2 fw (aq 0) (aM (.int 1))) (aq 1)) (aw (aq 0) bh))) bh)) dP (br m λi=>.int i) [none,some (.int m)]) A s=A (br m λs=>.tup [.tup [.int (((s+1) % m:Nat):Int),.int (s:Nat)]]) s:=wI t9 λv u Q=>by
 have h:1<=fu:=iB (by ext);have g:2<=fu:=iB (by ext);have c:(0:Int) < (m:Nat):=by ext
 have o:((v:Int)+1) % (m:Int)=(((v+1) % m:Nat):Int):=by simp
 simp![h,g,c,o]
theorem Wp{m:Nat}{A:List D->aZ->Prop}(E:m<=4):wp (collect (aQ 0) bN (ir kH (dL 1 [0] (MM.mY (aM (.int 1)) (aq 1)) (aQ 0) bN (dU (aw (aq 1) (aw (aq 1) bh))))) dP (br (m-1) λi=>.int (1+(i:Int))) [none,some (.int m)]) A s=A (br (m-1) λs=>.tup (br (m-1) λv=>.tup [.int (1+(s:Int)),.int (1+(s:Int))])) s:=wI t9 λv C Q=>by
 have h:2<=fu:=iB (by ext);have l:=vF (show m<=100 by ext);have o:((m:Int)-1).toNat=m-1:=by ext
 have c:m-1<=fu:=iB (by ext);have B:(-(2^62)<=(1:Int)/\(1:Int) < 2^62):=by ext
 have g:∀Q s,wp (collect (aQ 0) bN (dU (aw (aq 1) (aw (aq 1) bh))) dP (br (m-1) λi=>.int (1+(i:Int))) [none,some (.int (1+(v:Int)))]) Q s=Q (br (m-1) λu=>.tup [.int (1+(v:Int)),.int (1+(v:Int))]) s:=λQ s=>wI t9 λu hu Q=>by simp![h]
 simp![B,l,ib,o,M3,m6,c,↓g]
theorem Om{m:Nat}{A:List D->aZ->Prop}:wp (collect (aQ 0) bN (dU (aw (aq 0) (aw (aq 0) bh))) dP (br (m-1) λi=>.int (1+(i:Int))) [none]) A s=A (br (m-1) λv=>.tup [.int (1+(v:Int)),.int (1+(v:Int))]) s:=wI t9 λu hu Q=>by have c:2<=fu:=iB (by ext);simp![c]
theorem Ps{n:Nat}: D.tup (.tup (br n λv=>.tup [.int (1+(v:Int)),.int (1+(v:Int))])::br n λs=>.tup (br n λv=>.tup [.int (1+(s:Int)),.int (1+(s:Int))]))=lj (n+1) n (λs d=>match s with
     |0=>d+1
     |s+1=>s+1) (λs d=>match s with
     |0=>d+1
     |s+1=>s+1):=by
 unfold lj;rw[MT];congr 1;exact yU λs c=>by
  cases s with
  |zero=>
   dsimp only;congr 1;exact yU λd hd=>by rw[show (1+(d:Int))=((d+1:Nat):Int) by ext]
  |succ s=>
   dsimp only;congr 1;exact yU λd hd=>by rw[show (1+(s:Int))=((s+1:Nat):Int) by ext]
theorem RY{mo:Int}(mo1:1<=mo)(mo4:mo<=4)(hp:dS s p q)(h:∀S dn nx un s',tF S dn nx un->(S:Int)<=mo->dS s' p q->Kept p q s s'->Q (lj S dn nx un) s'):wp (jv [.ref p,.int mo]) Q s:=by
 (simp![jv];simp![j1])
 refine qZ hp (by ext) (by ext) λkind s1 kd0 kd1 hp1 k1=>?_
 try simp![]
 refine qZ hp1 (by ext) (by ext) λr s2 O r1 u k2=>?_;have o:=k1.trans k2;have C:r=((r.toNat:Nat):Int):=(gi O).symm;generalize r.toNat=B at C;subst C;have E:(1+(B:Int))=((1+B:Nat):Int):=by ext
 have l:1<=1+B:=by ext
 have c:1+B<=4:=by ext
 have hmo:((1+B:Nat):Int)<=mo:=by ext
 simp![E]
 try rw[E]
 generalize 1+B=m at l c hmo;have l1:1<=fu:=iB (by ext);by_cases c0:kind=0
 ·rw[aG c0];have g:min (m:Int) 3=((min m 3:Nat):Int):=by ext
  have Y:1<=min m 3:=by ext
  have U:min m 3<=3:=by ext
  have c:min m 3<=m:=by ext
  rw[g];generalize min m 3=k at Y U c;have J:=vF (show k<=100 by ext);have L:k<=fu:=iB (by ext);have G:∀A s,wp (collect (aQ 0) bN (c2 fw (dU (aw (dU (aw (aq 0) (aw (aq 0) bh))) bh)) (ir kH (dL 1 [] (MM.f_ (aq 1)) (aQ 0) bN (dU (aw (aq 0) (aw (aM (.int 0)) bh)))))) dP (br k λi=>.int i) [none,some (.int k)]) A s=A (br k λv=>.tup (.tup [.int (v:Nat),.int (v:Nat)]::br k λv=>.tup [.int (v:Nat),.int 0])) s:=λA s=>OU U;simp![J,ib,ba,uu,m6,L,↓G];rw[QW];refine h _ _ _ _ _ ⟨Y,by ext,by ext,by ext,λs d hs hd=>?_⟩ (by ext) u o;cases d with
  |zero=>exact⟨hs,by dsimp only;ext⟩
  |succ d=>exact⟨by dsimp only;ext,by dsimp only;ext⟩
 rw[aC c0];have J:=vF (show m<=100 by ext);have L:m<=fu:=iB (by ext);by_cases c1:kind=1
 ·rw[aG c1];have G:∀A s,wp (collect (aQ 0) bN (ir kH (dL 1 [0] (MM.f_ (aq 1)) (aQ 0) bN (dU (aw (aq 0) (aw (aq 1) bh))))) dP (br m λi=>.int i) [none,some (.int m)]) A s=A (br m λs=>.tup (br m λv=>.tup [.int (v:Nat),.int (s:Nat)])) s:=λA s=>U1 c;simp![J,ib,ba,uu,m6,L,↓G];exact h m m (λs d=>d) (λs d=>s) _ ⟨l,c,l,c,λs d hs hd=>⟨hd,by dsimp only;ext⟩⟩ (by ext) u o
 rw[aC c1];by_cases c2':kind=2
 ·rw[aG c2'];have G:∀A s,wp (collect (aQ 0) bN (dU (aw (dU (aw (c2 oT (c2 fw (aq 0) (aM (.int 1))) (aq 1)) (aw (aq 0) bh))) bh)) dP (br m λi=>.int i) [none,some (.int m)]) A s=A (br m λs=>.tup [.tup [.int (((s+1) % m:Nat):Int),.int (s:Nat)]]) s:=λA s=>Sk l;simp![J,ib,ba,uu,m6,L,↓G];exact h m 1 (λs d=>(s+1) % m) (λs d=>s) _ ⟨l,c,by ext,by ext,λs d hs hd=>⟨Nat.mod_lt _ (by ext),by dsimp only;ext⟩⟩ (by ext) u o
 rw[aC c2'];by_cases c3:kind=3
 ·rw[aG c3];by_cases Y:(1:Int) < (m:Nat)
  ·rw[aG Y];have B:((m:Int)-1).toNat=m-1:=by ext
   have U:m-1<=fu:=iB (by ext);have q:1+(m-1)<=fu:=iB (by ext);have C:(-(2^62)<=(1:Int)/\(1:Int) < 2^62):=by ext
   have G:∀A s,wp (collect (aQ 0) bN (ir kH (dL 1 [0] (MM.mY (aM (.int 1)) (aq 1)) (aQ 0) bN (dU (aw (aq 1) (aw (aq 1) bh))))) dP (br (m-1) λi=>.int (1+(i:Int))) [none,some (.int m)]) A s=A (br (m-1) λs=>.tup (br (m-1) λv=>.tup [.int (1+(s:Int)),.int (1+(s:Int))])) s:=λA s=>Wp c;have l:∀A s,wp (collect (aQ 0) bN (dU (aw (aq 0) (aw (aq 0) bh))) dP (br (m-1) λi=>.int (1+(i:Int))) [none]) A s=A (br (m-1) λv=>.tup [.int (1+(v:Int)),.int (1+(v:Int))]) s:=λA s=>Om;have g:∀(ds:List D)Q,wp (getL s2.length) Q (s2++[MO.lst ds])=Q ds (s2++[MO.lst ds]):=λds Q=>e_ (by simp);simp![C,J,ib,B,M3,m6,U,↓G,↓l,↓g,l1,q];rw[Ps];refine h _ _ _ _ _ ⟨by ext,by ext,by ext,by ext,λs d hs hd=>?_⟩ (by ext) u.snoc o.snoc;cases s with
   |zero=>dsimp only;ext
   |succ s=>dsimp only;ext
  ·rw[aC Y];refine qZ u (by ext) (by ext) λr s3 O r1 I k3=>?_;have C:r=((r.toNat:Nat):Int):=(gi O).symm;generalize r.toNat=B at C;subst C;have E:(1+(B:Int))=((1+B:Nat):Int):=by ext
   simp![E,J,ib,ba,uu,m6,L]
   try rw[E]
   refine MJ I l c (by ext) (by ext) λnx un s4 ok H k4=>?_;simp![];exact h _ _ _ _ _ ok (by ext) H ((o.trans k3).trans k4)
 ·rw[aC c3];refine qZ u (by ext) (by ext) λr s3 O r1 I k3=>?_;have C:r=((r.toNat:Nat):Int):=(gi O).symm;generalize r.toNat=B at C;subst C;have E:(1+(B:Int))=((1+B:Nat):Int):=by ext
  simp![E,J,ib,ba,uu,m6,L]
  try rw[E]
  refine MJ I l c (by ext) (by ext) λnx un s4 ok H k4=>?_;simp![];exact h _ _ _ _ _ ok (by ext) H ((o.trans k3).trans k4)
end
open PySem (Str)
structure Bd where
 S:Nat
 dn:Nat
 nx:Nat->Nat->Nat
 un:Nat->Nat->Nat
 st:Nat
inductive Ln where
 |settle (v:Nat)
 |act (b d:Nat) (gs:List Nat)
structure Hd where
 b0:Nat
 b1:Nat
 lines:List Ln
structure Hs where
 boards:List Bd
 hands:List Hd
structure Sd where
 ls:List Nat
 ss:List Nat
 deriving DecidableEq
noncomputable def cn(n:Nat):D:=.int (n:Int)
def pY(b:Bd):D:=.tup [lj b.S b.dn b.nx b.un,cn b.st]
def nY:Ln->D
 | .settle v=>.tup [.str "settle",cn v]
 | .act b d gs=>.tup [.str "do",cn b,cn d,.tup (gs.map cn)]
def nN(h:Hd):D:=.tup [.tup [cn h.b0,cn h.b1],.tup (h.lines.map nY)]
def kD(h:Hs):D:=.tup [.tup (h.boards.map pY),.tup (h.hands.map nN)]
def cw(s:Sd):D:=.tup [.tup (s.ls.map cn),.tup (s.ss.map cn)]
def wO(b:Bd):Prop:=tF b.S b.dn b.nx b.un/\b.st < b.S
def uq(bs:List Bd)(m:Nat):Ln->Prop
 | .settle v=>v < 2
 | .act b d gs=>∃c,bs[b]?=some c/\d < c.dn/\gs.length=1+mx (c.un · d) c.S/\∀g∈gs,g < m
def yS(bs:List Bd)(h:Hd):Prop:=h.b0 < h.lines.length/\h.b1 < h.lines.length/\h.lines.length<=12/\∀l∈h.lines,uq bs h.lines.length l
def j_(h:Hs):Prop:=h.boards.length<=7/\(∀b∈h.boards,wO b)/\2<=h.hands.length/\h.hands.length<=3/\∀x∈h.hands,yS h.boards x
noncomputable def i_(h:Hs)(s:Sd):Prop:=s.ls.length=h.hands.length/\s.ss.length=h.boards.length/\(∀(k:Nat)hd l,h.hands[k]?=some hd->s.ls[k]?=some l->l < hd.lines.length)/\∀(b:Nat)bd x,h.boards[b]?=some bd->s.ss[b]?=some x->x < bd.S
theorem wL{r:Int}(h:0<=r):∃n:Nat,r=(n:Int):=⟨r.toNat,(gi h).symm⟩
section
variable{p q:Nat}{s s1 s2:aZ}{Q:D->aZ->Prop}
theorem VE{b:Bd}{d:Nat}{Q:D->aZ->Prop}{s:aZ}(h:tF b.S b.dn b.nx b.un)(hd:d < b.dn):wp (collect (aQ 0) bN (c2 aU (c2 aU (aq 0) (aq 1)) (aM (.int 1))) dP (br b.S λs=>.tup (br b.dn λd=>D.tup [.int (b.nx s d:Nat),.int (b.un s d:Nat)])) [none,some (.int d)]) (λx c=>wp (oF x) Q c) s=Q (.int (mx (b.un · d) b.S:Nat)) s:=by rw[wI (f:=λi=>.int (b.un i d:Nat)) t9 (λi g Q=>by simp![↓xW hd])];exact Mj (f:=(b.un · d)) (by have:=h.1;ext)
theorem Q1{C:Nat}{bs:List Bd}{m k:Nat}{o:Bool}{T:Bool->aZ->Prop}(u:dS s p q)(I:s[C]?=some (.lst (bs.map pY)))(U:k < m)(B:∀s1,dS s1 p q->Kept p q s s1->T true s1)(J:∀s1,(o=true->k+1 < m)->0 < bs.length->dS s1 p q->Kept p q s s1->T false s1):
  wp (rm (di (c2 o8 (c1 fX (aq 1)) (aM (.int 0)))) (rm (oK (pd (aq 4)) (di (c2 o8 (aq 3) (c2 sC (aq 2) (aM (.int 1)))))) (di (c2 o8 (bW ja (aw (aq 0) (aw (aM (.int 5)) bh))) (aM (.int 0))))) [some (.ref p),some (.ref C),some (.int m),some (.int k),some (.bl o),none,none,none,none,none]) T s:=by
 simp![↓e_ I,ae];by_cases hz:bs.length=0
 ·rw[aG (by ext)];exact B s u Kept.refl
 rw[aC (by ext)];have go:∀(g:o=true->k+1 < m)(R:D->aZ->Prop)(H:∀(r:Int) l,R (.int r) l=T (r == 0) l),wp (ja [.ref p,.int 5]) R s:=λg R H=>by
  refine qZ u (by ext) (by ext) λr s1 O L c E=>?_;rw[H];by_cases G:r=0
  ·have:(r == 0)=true:=by simp[G]
   rw[this];exact B s1 c E
  ·have:(r == 0)=false:=by simp[G]
   rw[this];exact J s1 g (by ext) c E
 cases o with
 |false=>
  simp only[aL,if_false];exact go (λh=>by cases h) _ λr l=>by simp![]
 |true=>
  simp only[if_true];by_cases v:k+1 < m
  ·rw[aC (by ext)];exact go (λ_=>v) _ λr l=>by simp![]
  ·rw[aG (by ext)];exact B s u Kept.refl
theorem Po{nb:Nat}{bs:List Bd}{m k:Nat}{on:Bool}(hp:dS s p q)(hg:s[nb]?=some (.lst (bs.map pY)))(hnp:nb≠p)(hnq:nb≠q)(hbl:bs.length<=7)(hbd:∀x∈bs,wO x)(hk:k < m)(hm:m<=12)
  (h:∀ln E,uq bs m ln->dS E p q->Kept p q s E->Q (nY ln) E):wp (jt [.ref p,.ref nb,.int m,.int k,.bl on]) Q s:=by
 have l0:0<=fu:=bx _;have l2:2<=fu:=iB (by ext);have l4:4<=fu:=iB (by ext);simp only[jt,j5,↓wq,↓qE,↓Dk,aK,mT,ij,rg,bC,gI,Nat.reduceAdd,Nat.reduceSub,kU,List.replicate_zero];refine Q1 hp hg hk (λs1 L k1=>?_) (λs1 hon hz L k1=>?_)
 ·simp![l2];refine qZ L (by ext) (by ext) λv s2 v0 v1 c k2=>?_;obtain⟨n,e⟩:=wL v0;subst e;simp![l2];exact h (.settle n) _ (by show n < 2;ext) c (k1.trans k2)
 ·have q2:∀Q,wp (getL nb) Q s1=Q (bs.map pY) s1:=λQ=>e_ (k1.same hnp hnq hg);simp![↓q2,ae,aL,if_false];refine qZ L (by ext) (by ext) λbi s2 bi0 bi1 hp2 k2=>?_;obtain⟨b,eb⟩:=wL bi0;subst eb;have hb:b < bs.length:=by ext
  have Y:bs[b]?=some bs[b]:=ai hb;obtain⟨ok,hst⟩:=hbd bs[b] (bY hb);generalize bs[b]=c at Y ok hst;have q4:∀Q s,wp (cG (bs.map pY) (b:Int)) Q s=Q (.tup [lj c.S c.dn c.nx c.un,cn c.st]) s:=λQ s=>qY (by rw[ar,Y];rfl);have ok0:=ok;obtain⟨o1,o2,o3,o4,o5⟩:=ok;have tb:wp (aU (lj c.S c.dn c.nx c.un) (.int 0))=λQ s=>Q (D.tup (br c.dn λd=>D.tup [.int (c.nx 0 d:Nat),.int (c.un 0 d:Nat)])) s:=by funext Q s;unfold lj;rw[qd,UP (by ext)]
  simp![↓e_ ((k1.trans k2).same hnp hnq hg),↓q4,↓tb,m6];refine qZ hp2 (by ext) (by ext) λdd o dd0 dd1 hp3 k3=>?_;obtain⟨d,ed⟩:=wL dd0;subst ed;have hd:d < c.dn:=by ext
  have hS:c.S<=fu:=iB (by ext);have mu:∀Q s,wp (collect (aQ 0) bN (c2 aU (c2 aU (aq 0) (aq 1)) (aM (.int 1))) dP (br c.S λs=>.tup (br c.dn λd=>D.tup [.int (c.nx s d:Nat),.int (c.un s d:Nat)])) [none,some (.int d)]) (λx E=>wp (oF x) Q E) s=Q (.int (mx (c.un · d) c.S:Nat)) s:=λQ s=>VE ok0 hd;have hmx:mx (c.un · d) c.S<=3:=OM λi hi=>by have:=(o5 i d hi hd).2;ext
  have hm1:(1+((mx (c.un · d) c.S:Nat):Int))=((1+mx (c.un · d) c.S:Nat):Int):=by ext
  have hb1:=vF (show 1+mx (c.un · d) c.S<=100 by ext);simp![l0,lj,ib,m6,hS,↓mu,hm1,hb1,ba,uu];have J:=(k1.trans k2).trans k3;have hp4:dS (o++[.lst []]) p q:=hp3.snoc;have k4:Kept p q s (o++[.lst []]):=J.snoc;have g4:(o++[MO.lst []])[o.length]?=some (.lst []):=by simp
  have hlp:=hp3.lt;have hs3:s.length<=o.length:=J.le;generalize o++[MO.lst []]=s4 at hp4 k4 g4;refine F5 (n:=1+mx (c.un · d) c.S) (λi l E=>∃x9 B,l=[some (.ref p),some (.ref nb),some (.int m),some (.int k),some (.bl on),some (.int b),some (.tup (br c.S λs=>.tup (br c.dn λd=>D.tup [.int (c.nx s d:Nat),.int (c.un s d:Nat)]))),some (.int d),some (.ref o.length),x9]/\E[o.length]?=some (.lst (B.map cn))/\B.length=i/\(∀g∈B,g < m)/\dS E p q/\Kept p q s E) (λ_ _ _ _=>trivial) ⟨_,[],rfl,g4,rfl,by simp,hp4,k4⟩ (λRr i l E up hi hW=>?_) (λl E hW=>?_)
  ·obtain⟨x9,B,el,g,hl,U,H,O⟩:=hW;subst el;have app:∀v C,v < m->dS C p q->Kept p q E C->∃u:List Nat,(C.set o.length (.lst (B.map cn++[cn v])))[o.length]?=some (.lst (u.map cn))/\u.length=i+1/\(∀g∈u,g < m)/\dS (C.set o.length (.lst (B.map cn++[cn v]))) p q/\Kept p q s (C.set o.length (.lst (B.map cn++[cn v]))):=λv C Y G I=>by
    have c:C[o.length]?=some (.lst (B.map cn)):=I.same (by ext) (by ext) g;refine⟨B++[v],by rw[au (ik c)];simp,by simp[hl],λx h=>?_,G.put (by ext) (by ext),(O.trans I).put hs3⟩;rcases aX.mp h with h|h
    ·exact U x h
    ·rw[aJ]at h;rw[h];exact Y
   have L:B.length < fu:=qM (by ext);cases on with
   |true=>
    have hkm:=hon rfl;simp![if_true];refine qZ H (by ext) (by ext) λr C J Q G I=>?_;obtain⟨v,l⟩:=wL J;subst l;have c:C[o.length]?=some (.lst (B.map cn)):=I.same (by ext) (by ext) g;have l:D.int ((k:Int)+1+(v:Int))=cn (k+1+v):=by unfold cn;congr 1
    simp![↓e_ c,↓nK c,ae,L,l];obtain⟨u,z⟩:=app (k+1+v) C (by ext) G I;exact up ⟨_,u,rfl,z⟩
   |false=>
    simp![aL,if_false];refine qZ H (by ext) (by ext) λr C J Q G I=>?_;obtain⟨v,l⟩:=wL J;subst l;have c:C[o.length]?=some (.lst (B.map cn)):=I.same (by ext) (by ext) g;simp![↓e_ c,↓nK c,ae,L];obtain⟨u,z⟩:=app v C (by ext) G I;exact up ⟨_,u,rfl,z⟩
  ·obtain⟨x9,B,el,g,hl,U,H,O⟩:=hW;subst el;simp![↓e_ g,l4];exact h (.act b d B) _ ⟨c,Y,hd,hl,U⟩ H O
end
open PySem (Str)
section
variable{p q:Nat}{s s1 s2:aZ}{Q:D->aZ->Prop}
theorem R7{H:Nat}{bs:List Bd}{m:Nat}{on:Bool}{A:List D->aZ->Prop}(hp:dS s p q)(hg:s[H]?=some (.lst (bs.map pY)))(G:H≠p)(E:H≠q)(U:bs.length<=7)(Y:∀x∈bs,wO x)(hm:m<=12)
  (h:∀(g:List Ln)C,g.length=m->(∀l∈g,uq bs m l)->dS C p q->Kept p q s C->A (g.map nY) C):
  wp (collect (aQ 0) bN (bW jt (aw (aq 1) (aw (aq 2) (aw (aq 3) (aw (aq 0) (aw (aq 4) bh)))))) dP (br m λi=>.int i) [none,some (.ref p),some (.ref H),some (.int m),some (.bl on)]) A s:=by
 refine Ja (λi u C=>∃g:List Ln,u=g.map nY/\g.length=i/\(∀l∈g,uq bs m l)/\dS C p q/\Kept p q s C) (λ_ _ _ _=>trivial) ⟨[],rfl,rfl,by simp,hp,Kept.refl⟩ (λRr i u s1 up hi hW=>?_) (λu s1 o=>by obtain⟨g,Q,O,B,v,I⟩:=o;rw[Q];exact h g s1 O B v I);obtain⟨g,Q,O,B,v,I⟩:=hW;simp![];refine Po v (I.same G E hg) G E U Y hi hm λln s2 L J k2=>?_;refine up ⟨g++[ln],by rw[Q];simp,by simp[O],λl c=>?_,J,I.trans k2⟩;rcases aX.mp c with c|c
 ·exact B l c
 ·rw[aJ]at c;rw[c];exact L
theorem QT{r:Nat}(h:r < 8){Q:D->aZ->Prop}{s:aZ}(c:∀n:Nat,n<=4->Q (.int n) s):wp (cG [.int 0,.int 1,.int 1,.int 2,.int 2,.int 3,.int 1,.int 4] (r:Int)) Q s:=by have:r=0\/r=1\/r=2\/r=3\/r=4\/r=5\/r=6\/r=7:=(by decide:∀r,r < 8->(r=0\/r=1\/r=2\/r=3\/r=4\/r=5\/r=6\/r=7)) r h;rcases this with e|e|e|e|e|e|e|e<;>subst e<;>rw[qY (i:=_) rfl]<;>first|exact c 0 (by ext)|exact c 1 (by ext)|exact c 2 (by ext)|exact c 3 (by ext)|exact c 4 (by ext)
noncomputable def mS:Nat->Nat
 |0=>4
 |1=>4
 |2=>3
 |_=>2
noncomputable def MN:Nat->Nat
 |0=>8
 |1=>8
 |2=>6
 |3=>6
 |_=>4
noncomputable def Lz:Nat->Nat
 |0=>4
 |1=>4
 |2=>3
 |3=>3
 |_=>2
def mL(n c:Nat):Nat:=if n=2 then MN c else Lz c
theorem xp{r:Nat}(h:r<=4):r=0\/r=1\/r=2\/r=3\/r=4:=(by decide:∀r,r < 5->(r=0\/r=1\/r=2\/r=3\/r=4)) r (Nat.lt_succ_of_le h)
theorem OY{r:Nat}(h:r<=4){Q:D->aZ->Prop}{s:aZ}:wp (cG [.int 4,.int 4,.int 3,.int 2,.int 2] (r:Int)) Q s=Q (.int (mS r)) s:=by rcases xp h with e|e|e|e|e<;>subst e<;>rw[qY (i:=_) rfl]<;>rfl
theorem S0{r:Nat}(h:r<=4){Q:D->aZ->Prop}{s:aZ}:wp (cG [.int 8,.int 8,.int 6,.int 6,.int 4] (r:Int)) Q s=Q (.int (MN r)) s:=by rcases xp h with e|e|e|e|e<;>subst e<;>rw[qY (i:=_) rfl]<;>rfl
theorem OQ{r:Nat}(h:r<=4){Q:D->aZ->Prop}{s:aZ}:wp (cG [.int 4,.int 4,.int 3,.int 3,.int 2] (r:Int)) Q s=Q (.int (Lz r)) s:=by rcases xp h with e|e|e|e|e<;>subst e<;>rw[qY (i:=_) rfl]<;>rfl
theorem Gu{r:Nat}(h:r<=4):1<=mS r/\mS r<=4:=by rcases xp h with e|e|e|e|e<;>subst e<;>decide
theorem JU{n r:Nat}(h:r<=4):1<=mL n r/\mL n r<=8:=by unfold mL;split<;>(rcases xp h with e|e|e|e|e<;>subst e<;>decide)
def vH(x:Hs):Prop:=j_ x/\x.boards.length<=4/\(∀b∈x.boards,b.S<=mS x.boards.length)/\∀y∈x.hands,y.lines.length<=mL x.hands.length x.boards.length
theorem Rf{w k:Int}{l:Loc}{Q:D->aZ->Prop}{s:aZ}(c:l[8]?=some (some (.int w)))(g:l[3]?=some (some (.int k)))(h:∀b,Q (.bl b) s):wp (BU (c2 yD (aq 8) (aM (.int 2))) (sI (c2 o8 (aq 8) (aM (.int 2))) (c2 xD (aq 3) (aM (.int 0)))) l) Q s:=by
 simp![c,g];by_cases a:w < 2
 ·have:decide (w < 2)=true:=bB a;rw[this];simp only[ui];exact h _
 ·have:decide (w < 2)=false:=aR a;rw[this];simp only[ue];by_cases b:w=2
  ·have:(w == 2)=true:=by simp[b]
   rw[this];simp only[ui];exact h _
  ·have:(w == 2)=false:=by simp[b]
   rw[this];simp only[ue];exact h _
theorem UE(hp:dS s p q)(h:∀x o,vH x->dS o p q->Kept p q s o->Q (kD x) o):wp (jA [.ref p]) Q s:=by
 have l0:0<=fu:=bx _;have l2:2<=fu:=iB (by ext);have l8:8<=fu:=iB (by ext);have l5:5<=fu:=iB (by ext)
 (simp![jA];simp![jZ,l0,l8])
 have hp1:dS (s++[.lst []]) p q:=hp.snoc;have k1:Kept p q s (s++[.lst []]):=Kept.refl.snoc;have g1:(s++[MO.lst []])[s.length]?=some (.lst []):=by simp
 have hlt:=hp.lt;generalize s++[MO.lst []]=s1 at hp1 k1 g1;refine qZ hp1 (by ext) (by ext) λr s2 r0 r1 hp2 k2=>?_;obtain⟨rn,er⟩:=wL r0;subst er;have g2:s2[s.length]?=some (.lst []):=k2.same (by ext) (by ext) g1;have k12:=k1.trans k2;simp![];refine QT (by ext) λcnt B=>?_;have iS:∀(Q:D->aZ->Prop)s,wp (cG [.int 4,.int 4,.int 3,.int 2,.int 2] (cnt:Int)) Q s=Q (.int (mS cnt)) s:=λQ s=>OY B;have bS:=Gu B;have hb:=vF (show cnt<=100 by ext);simp![hb,ba,uu];refine F5 (n:=cnt) (λi l o=>∃x3 x4 bs,l=[some (.ref p),some (.ref s.length),some (.int cnt),x3,x4,none,none,none,none,none,none,none,none]/\o[s.length]?=some (.lst (bs.map pY))/\bs.length=i/\(∀x∈bs,wO x/\x.S<=mS cnt)/\dS o p q/\Kept p q s o) (λ_ _ _ _=>trivial) ⟨_,_,[],rfl,g2,rfl,by simp,hp2,k12⟩ (λRr i l o up hi hW=>?_) (λl o hW=>?_)
 ·obtain⟨x3,x4,bs,el,g,hl,L,hp',hk'⟩:=hW;subst el;simp![l5,↓iS];refine RY (mo:=(mS cnt:Int)) (by ext) (by ext) hp' λS q nx un s3 ok B hp3 k3=>?_;have w1:wp (fX (lj S q nx un))=λQ s=>Q (.int S) s:=by funext Q s;unfold lj;rw[wu,m6]
  simp![↓w1];have E:=ok.1;have C:=ok.2.1;refine qZ hp3 (by ext) (by ext) λst s4 h v hp4 k4=>?_;obtain⟨c,o⟩:=wL h;subst o;have l:s4[s.length]?=some (.lst (bs.map pY)):=(k3.trans k4).same (by ext) (by ext) g;have l3:bs.length < fu:=qM (by ext);simp![↓e_ l,↓nK l,l2,l3,ae];refine up ⟨_,_,bs++[⟨S,q,nx,un,c⟩],rfl,by rw[au (ik l)];simp[pY,cn],by simp[hl],λx u=>?_,hp4.put (by ext) (by ext),((hk'.trans k3).trans k4).put (av _)⟩;rcases aX.mp u with u|u
  ·exact L x u
  ·rw[aJ]at u;rw[u];exact⟨⟨ok,by show c < S;ext⟩,by show S<=mS cnt;ext⟩
 ·obtain⟨x3,x4,bs,el,g,hl,L,hp',hk'⟩:=hW;subst el;simp![l0];have hp3:dS (o++[.lst []]) p q:=hp'.snoc;have k3:Kept p q s (o++[.lst []]):=hk'.snoc;have g3:(o++[MO.lst []])[o.length]?=some (.lst []):=by simp
  have g3':(o++[MO.lst []])[s.length]?=some (.lst (bs.map pY)):=by rw[ax (ik g)];exact g
  have hlt':=hp'.lt;have v:=hk'.le;have hgl:=ik g;generalize o++[MO.lst []]=s3 at hp3 k3 g3 g3';refine qZ hp3 (by ext) (by ext) λr3 s4 r30 r31 hp4 k4=>?_;have hn:∃n:Nat,(n=2\/n=3)/\(2+(if r3=0 then (1:Int) else 0))=(n:Int):=by
   by_cases e:r3=0
   ·exact⟨3,.inr rfl,by simp[e]⟩
   ·exact⟨2,.inl rfl,by simp[e]⟩
  obtain⟨n,hn23,en⟩:=hn;have hb:=vF (show n<=100 by ext);obtain⟨mm,LL,gm,hit,hLL⟩:∃(mm:Nat)(LL:List D),(s4++[MO.lst [.int 8,.int 8,.int 6,.int 6,.int 4]]++[MO.lst [.int 4,.int 4,.int 3,.int 3,.int 2]])[mm]?=some (.lst LL)/\(∀(Q:D->aZ->Prop)s,wp (cG [.ref s4.length,.ref (s4++[MO.lst [.int 8,.int 8,.int 6,.int 6,.int 4]]).length] ((n:Int)-2)) Q s=Q (.ref mm) s)/\∀(Q:D->aZ->Prop)s,wp (cG LL (cnt:Int)) Q s=Q (.int (mL n cnt)) s:=by
   rcases hn23 with rfl|rfl
   ·exact⟨_,_,pk pE,λQ s=>by rw[show ((2:Nat):Int)-2=0 from rfl,sG],λQ s=>S0 B⟩
   ·exact⟨_,_,pE,λQ s=>by rw[show ((3:Nat):Int)-2=1 from rfl,sE],λQ s=>OQ B⟩
  have qm:∀Q,wp (getL mm) Q (s4++[MO.lst [.int 8,.int 8,.int 6,.int 6,.int 4]]++[MO.lst [.int 4,.int 4,.int 3,.int 3,.int 2]])=Q LL _:=λQ=>e_ gm;have bL:=JU (n:=n) B;simp![en,l2,l5,↓hit,↓qm,↓hLL];have hp4':dS (s4++[MO.lst [.int 8,.int 8,.int 6,.int 6,.int 4]]++[MO.lst [.int 4,.int 4,.int 3,.int 3,.int 2]]) p q:=hp4.snoc.snoc;have k4':Kept p q s3 (s4++[MO.lst [.int 8,.int 8,.int 6,.int 6,.int 4]]++[MO.lst [.int 4,.int 4,.int 3,.int 3,.int 2]]):=k4.snoc.snoc;clear gm hit qm;generalize s4++[MO.lst [.int 8,.int 8,.int 6,.int 6,.int 4]]++[MO.lst [.int 4,.int 4,.int 3,.int 3,.int 2]]=s4' at hp4' k4'
  replace k4:=k4'
  have en':(2+(if (r3 == 0)=true then (1:Int) else 0))=(n:Int):=by rw[<- en];simp
  rw[en'];refine qZ hp4' (by ext) (by ext) λway s5 w0 w1 hp5 k5=>?_;simp![en,hb,ba,uu];have g5:s5[o.length]?=some (.lst []):=(k4.trans k5).same (by ext) (by ext) g3;have g5':s5[s.length]?=some (.lst (bs.map pY)):=(k4.trans k5).same (by ext) (by ext) g3';have k35:=(k3.trans k4).trans k5;have J:∀x∈bs,wO x:=λx u=>(L x u).1;refine F5 (n:=n) (λi l s''=>∃x3 x8 x9 x10 x11 c,l=[some (.ref p),some (.ref s.length),some (.int cnt),x3,x4,some (.ref o.length),some (.int n),some (.int (mL n cnt)),some (.int way),x8,x9,x10,x11]/\s''[o.length]?=some (.lst (c.map nN))/\s''[s.length]?=some (.lst (bs.map pY))/\c.length=i/\(∀x∈c,yS bs x/\x.lines.length<=mL n cnt)/\dS s'' p q/\Kept p q s s'') (λ_ _ _ _=>trivial) ⟨_,_,_,_,_,[],rfl,g5,g5',rfl,by simp,hp5,k35⟩ (λRr i l s6 up hi hW=>?_) (λl s6 hW=>?_)
  ·obtain⟨x3,x8,x9,x10,x11,c,el,ga,gb,hl2,G,hp6,k6⟩:=hW;subst el
   try simp![]
   refine qZ hp6 (by ext) (by ext) λr Y r0 r1 hp7 k7=>?_;obtain⟨rn,er⟩:=wL r0;subst er;have hm:(1+(rn:Int))=((1+rn:Nat):Int):=by ext
   simp only[↓zE,↓DO,↓qE,↓wF,hm];have hm1:1<=1+rn:=by ext
   have hm8:1+rn<=8:=by ext
   have hmm:1+rn<=mL n cnt:=by ext
   try rw[hm]
   generalize 1+rn=m at hm1 hm8 hmm;refine Rf rfl rfl λon=>?_;have hbm:=vF (show m<=100 by ext);have hlm:m<=fu:=iB (by ext);simp![hbm,ba,uu,m6,hlm,ib];refine R7 hp7 (k7.same (by ext) (by ext) gb) (by ext) (by ext) (by ext) J (by ext) λI s8 hll hls hp8 k8=>?_
   try simp![]
   refine qZ hp8 (by ext) (by ext) λv1 s9 v10 v11 hp9 k9=>?_;obtain⟨O,eb1⟩:=wL v10;subst eb1;simp![l2];refine qZ hp9 (by ext) (by ext) λt sa t0 t1 L ka=>?_;have l3:c.length < fu:=qM (by ext);have app:∀(h O:Nat)U,h < m->O < m->dS U p q->Kept p q s6 U->∃v:List Hd,(U.set o.length (.lst (c.map nN++[.tup [.tup [.int h,.int O],.tup (I.map nY)]])))[o.length]?=some (.lst (v.map nN))/\(U.set o.length (.lst (c.map nN++[.tup [.tup [.int h,.int O],.tup (I.map nY)]])))[s.length]?=some (.lst (bs.map pY))/\v.length=i+1/\(∀x∈v,yS bs x/\x.lines.length<=mL n cnt)/\dS (U.set o.length (.lst (c.map nN++[.tup [.tup [.int h,.int O],.tup (I.map nY)]]))) p q/\Kept p q s (U.set o.length (.lst (c.map nN++[.tup [.tup [.int h,.int O],.tup (I.map nY)]]))):=λh O U E h1 B C=>by
    have H:U[o.length]?=some (.lst (c.map nN)):=C.same (by ext) (by ext) ga;refine⟨c++[⟨h,O,I⟩],by rw[au (ik H)];simp[nN,cn],by rw[af (by ext)];exact C.same (by ext) (by ext) gb,by simp[hl2],λx u=>?_,B.put (by ext) (by ext),(k6.trans C).put v⟩;rcases aX.mp u with u|u
    ·exact G x u
    ·rw[aJ]at u;rw[u];exact⟨⟨by show h < I.length;ext,by show O < I.length;ext,by show I.length<=12;ext,by show ∀l∈I,uq bs I.length l;rw[hll];exact hls⟩,by show I.length<=mL n cnt;ext⟩
   have g:=((k7.trans k8).trans k9).trans ka;by_cases ht:t=1
   ·subst ht;simp![l2,if_true];refine qZ L (by ext) (by ext) λv2 U h I B C=>?_;obtain⟨O,u⟩:=wL h;subst u
    try simp![l2]
    refine qZ B (by ext) (by ext) λY sc Q G l E=>?_;obtain⟨J,q⟩:=wL Q;subst q;have H:sc[o.length]?=some (.lst (c.map nN)):=((g.trans C).trans E).same (by ext) (by ext) ga;simp![l2,↓e_ H,↓nK H,ae,l3];obtain⟨v,z⟩:=app O J sc (by ext) (by ext) l ((g.trans C).trans E);exact up ⟨_,_,_,_,_,v,rfl,z⟩
   ·have H:sa[o.length]?=some (.lst (c.map nN)):=g.same (by ext) (by ext) ga;simp![l2,↓e_ H,↓nK H,ae,l3];rw[aC ht];obtain⟨v,z⟩:=app 0 O sa (by ext) (by ext) L g;exact up ⟨_,_,_,_,_,v,rfl,z⟩
  ·obtain⟨x3,x8,x9,x10,x11,c,el,ga,gb,hl2,G,hp6,k6⟩:=hW;subst el
   try simp![]
   refine qZ hp6 (by ext) (by ext) λt Y t0 t1 hp7 k7=>?_;have H:Y[o.length]?=some (.lst (c.map nN)):=k7.same (by ext) (by ext) ga;have v:Y[s.length]?=some (.lst (bs.map pY)):=k7.same (by ext) (by ext) gb;by_cases ht:t=0
   ·subst ht;obtain⟨E,g,B⟩:∃E g,c=E::g:=by
     cases c with
     |nil=>simp at hl2;ext
     |cons a b=>exact⟨a,b,rfl⟩
    have U:∀Q s,wp (cG (c.map nN) 0) Q s=Q (nN E) s:=λQ s=>by rw[B,aK,sG]
    have ix:MM.my (c.map nN).length (-1)=some (c.length-1):=by unfold MM.my;rw[ae,aC (by ext),aG (by ext)];congr 1;ext
    have e9:(c.map nN).set (c.length-1) (nN E)=(c.set (c.length-1) E).map nN:=by rw[pQ]
    have ge:∀C,(Y.set o.length (MO.lst C))[s.length]?=some (.lst (bs.map pY)):=λC=>by rw[af (by ext)];exact v
    have gf:∀C,(Y.set o.length (MO.lst C))[o.length]?=some (.lst C):=λC=>au (ik H);have O:∀C Q,wp (getL s.length) Q (Y.set o.length (MO.lst C))=Q (bs.map pY) (Y.set o.length (MO.lst C)):=λC Q=>e_ (ge C);have I:∀C Q,wp (getL o.length) Q (Y.set o.length (MO.lst C))=Q C (Y.set o.length (MO.lst C)):=λC Q=>e_ (gf C);simp![if_true,↓e_ H,↓U,↓qC,ix,↓nK H,e9,↓O,↓I,l2];have q:(c.set (c.length-1) E).length=n:=by rw[cY];ext
    have mem:∀x∈c.set (c.length-1) E,yS bs x/\x.lines.length<=mL n cnt:=λx u=>by
     rcases List.mem_or_eq_of_mem_set u with u|u
     ·exact G x u
     ·rw[u];exact G E (by rw[B];simp)
    exact h ⟨bs,c.set (c.length-1) E⟩ _ ⟨⟨by show bs.length<=7;ext,J,by show 2<=(c.set (c.length-1) E).length;ext,by show (c.set (c.length-1) E).length<=3;ext,λx u=>(mem x u).1⟩,by show bs.length<=4;ext,by show ∀b∈bs,b.S<=mS bs.length;rw[hl];exact λb hb=>(L b hb).2,by show ∀y∈c.set (c.length-1) E,y.lines.length<=mL (c.set (c.length-1) E).length bs.length;rw[q,hl];exact λy l=>(mem y l).2⟩ (hp7.put (by ext) (by ext)) ((k6.trans k7).put (by ext))
   ·simp![↓e_ H,↓e_ v,l2];rw[aC ht];exact h ⟨bs,c⟩ _ ⟨⟨by show bs.length<=7;ext,J,by show 2<=c.length;ext,by show c.length<=3;ext,λx u=>(G x u).1⟩,by show bs.length<=4;ext,by show ∀b∈bs,b.S<=mS bs.length;rw[hl];exact λb hb=>(L b hb).2,by show ∀y∈c,y.lines.length<=mL c.length bs.length;rw[hl2,hl];exact λy l=>(G y l).2⟩ hp7 (k6.trans k7)
end
open PySem (Str)
theorem JM:((("settle":Str)) == "settle")=true:=by nofun
theorem Hh:((("do":Str)) == "settle")=false:=by nofun
noncomputable def d_(h:Hs)(s:Sd)(k:Nat):Ln:=((h.hands[k]?.bind λhd=>s.ls[k]?.bind λl=>hd.lines[l]?)).getD (.settle 0)
def kn(h:Hs)(s:Sd)(k:Nat):Sd:=match d_ h s k with
 | .settle _=>s
 | .act b d gs=>match h.boards[b]?,s.ss[b]? with
  |some bd,some x=>⟨s.ls.set k ((gs[bd.un x d]?).getD 0),s.ss.set b (bd.nx x d)⟩
  |_,_=>s
section
variable{p q:Nat}{s s1 s2:aZ}{Q:D->aZ->Prop}{h:Hs}{st:Sd}
theorem Ca{xs:List Nat}{i x:Nat}{Q:D->aZ->Prop}{s:aZ}(h:xs[i]?=some x):wp (cG (xs.map cn) (i:Int)) Q s=Q (.int (x:Nat)) s:=qY (by rw[ar,h];rfl)
theorem Dp{k:Nat}(hh:j_ h)(v:i_ h st)(B:k < h.hands.length):∃hd l,h.hands[k]?=some hd/\st.ls[k]?=some l/\l < hd.lines.length/\hd.lines[l]?=some (d_ h st k)/\uq h.boards hd.lines.length (d_ h st k):=by
 have c:h.hands[k]?=some h.hands[k]:=ai B;have o:k < st.ls.length:=by rw[v.1];exact B
 have u:st.ls[k]?=some st.ls[k]:=ai o;have g:=v.2.2.1 k _ _ c u;have E:h.hands[k].lines[st.ls[k]]?=some (h.hands[k].lines[st.ls[k]]):=ai g;have C:d_ h st k=h.hands[k].lines[st.ls[k]]:=by unfold d_;rw[c,u];simp only[Option.bind_some,E,fq]
 refine⟨_,_,c,u,g,by rw[E,C],?_⟩;rw[C];exact (hh.2.2.2.2 _ (aA c)).2.2.2 _ (bY g)
theorem Kk{k:Nat}(hh:j_ h)(u:i_ h st)(v:k < h.hands.length):wp (jg [kD h,cw st,.int k]) Q s=Q (nY (d_ h st k)) s:=by
 obtain⟨hd,l,E,C,G,B,_⟩:=Dp hh u v;have o:∀Q s,wp (cG (h.hands.map nN) (k:Int)) Q s=Q (.tup [.tup [cn hd.b0,cn hd.b1],.tup (hd.lines.map nY)]) s:=λQ s=>qY (by rw[ar,E];rfl);have g:∀Q s,wp (cG (st.ls.map cn) (k:Int)) Q s=Q (.int (l:Nat)) s:=λQ s=>Ca C;have c:∀Q s,wp (cG (hd.lines.map nY) (l:Int)) Q s=Q (nY (d_ h st k)) s:=λQ s=>qY (by rw[ar,B];rfl)
 (simp![jg];simp![yc,kD,cw,↓o,↓g,↓c])
theorem Ke{k:Nat}(hh:j_ h)(u:i_ h st)(v:k < h.hands.length):wp (jr [kD h,cw st,.int k]) Q s=Q (nY (d_ h st k)) s:=by
 obtain⟨hd,l,E,C,G,B,_⟩:=Dp hh u v;have o:∀Q s,wp (cG (h.hands.map nN) (k:Int)) Q s=Q (.tup [.tup [cn hd.b0,cn hd.b1],.tup (hd.lines.map nY)]) s:=λQ s=>qY (by rw[ar,E];rfl);have g:∀Q s,wp (cG (st.ls.map cn) (k:Int)) Q s=Q (.int (l:Nat)) s:=λQ s=>Ca C;have c:∀Q s,wp (cG (hd.lines.map nY) (l:Int)) Q s=Q (nY (d_ h st k)) s:=λQ s=>qY (by rw[ar,B];rfl)
 (simp![jr];simp![ye,kD,cw,↓o,↓g,↓c])
theorem Go{b d:Nat}{B:List Nat}{m:Nat}(hh:j_ h)(C:i_ h st)(G:uq h.boards m (.act b d B)):∃c x g,h.boards[b]?=some c/\st.ss[b]?=some x/\x < c.S/\d < c.dn/\B[c.un x d]?=some g/\g < m/\c.nx x d < c.S/\tF c.S c.dn c.nx c.un:=by
 obtain⟨c,l,hd,H,u⟩:=G;have I:=(ac.mp l).1;have v:b < st.ss.length:=by rw[C.2.1];exact I
 have E:st.ss[b]?=some st.ss[b]:=ai v;have o:=C.2.2.2 b c _ l E;obtain⟨ok,_⟩:=hh.2.1 c (aA l);have hu:c.un st.ss[b] d < B.length:=by rw[H];have:c.un st.ss[b] d<=mx (c.un · d) c.S:=WL (f:=(c.un · d)) o;ext
 exact⟨c,_,_,l,E,o,hd,ai hu,u _ (bY hu),(ok.2.2.2.2 _ _ o hd).1,ok⟩
theorem Mp{xs:List D}{i:Nat}{v:D}(u:i < xs.length)(E:xs.length<=100):wp (jd [.tup xs,.int i,v]) Q s=Q (.tup (xs.set i v)) s:=by
 have c1:¬(gM xs.length 0 none=0/\gM xs.length xs.length (some (i:Int))=xs.length):=by unfold gM;simp only[ba];rw[aC (by ext)];ext
 have c:¬(gM xs.length 0 (some ((i:Int)+1))=0/\gM xs.length xs.length none=xs.length):=by unfold gM;dsimp only;rw[aC (by ext)];ext
 have C:cutD xs none (some (i:Int))=xs.take i:=by unfold cutD gM;simp only[ba];rw[aC (by ext),sq];congr 1;ext
 have B:cutD xs (some ((i:Int)+1)) none=xs.drop (i+1):=by
  unfold cutD gM;have:(if (i:Int)+1 < 0 then ((i:Int)+1+(xs.length:Int)).toNat else min ((i:Int)+1).toNat xs.length)=i+1:=by rw[aC (by ext)];ext
  simp only[this];exact mX (by rw[mJ];exact av _)
 have o:1<=fu:=iB (by ext);have l:(xs.take i).length+1<=fu:=iB (by rw[bX];ext);have g:(xs.take i++[v]).length+(xs.drop (i+1)).length<=fu:=iB (by rw[aH,bX,mJ];simp;ext)
 (simp![jd];simp![j8,c1,c,not_false_eq_true,C,B,o,l])
 rw[List.set_eq_take_append_cons_drop,aG u];have:xs.take i++[v]++xs.drop (i+1)=xs.take i++v::xs.drop (i+1):=by simp
 rw[this];exact propext ⟨λz=>z.2,λz=>⟨g,z⟩⟩
theorem Ik{b d k:Nat}{l:List Nat}{c:Bd}{x g:Nat}(e:d_ h st k=.act b d l)(v:h.boards[b]?=some c)(u:st.ss[b]?=some x)(o:l[c.un x d]?=some g):kn h st k=⟨st.ls.set k g,st.ss.set b (c.nx x d)⟩:=by unfold kn;rw[e];dsimp only;rw[v,u];dsimp only;rw[o];rfl
theorem He{v k:Nat}(e:d_ h st k=.settle v):kn h st k=st:=by unfold kn;rw[e]
theorem RI{k:Nat}(hh:j_ h)(o:i_ h st)(U:k < h.hands.length):i_ h (kn h st k):=by
 obtain⟨hd,l,e1,e2,hl,e3,ok⟩:=Dp hh o U;cases el:d_ h st k with
 |settle v=>rw[He el];exact o
 |act b d gs=>
  rw[el]at ok;obtain⟨bd,x,g,O,L,f3,f4,Q,q,Y,f8⟩:=Go hh o ok;rw[Ik el O L Q];refine⟨by show (st.ls.set k g).length=_;rw[cY];exact o.1,by show (st.ss.set b _).length=_;rw[cY];exact o.2.1,λB C J u H=>?_,λG E I u H=>?_⟩
  ·have c:(st.ls.set k g)[B]?=some J:=H;by_cases e:k=B
   ·subst e;rw[e1]at u;cases u;rw[au (ac.mp e2).1]at c;cases c;exact q
   ·rw[af e]at c;exact o.2.2.1 B C J u c
  ·have c:(st.ss.set b (bd.nx x d))[G]?=some I:=H;by_cases e:b=G
   ·subst e;rw[O]at u;cases u;rw[au (ac.mp L).1]at c;cases c;exact Y
   ·rw[af e]at c;exact o.2.2.2 G E I u c
theorem VB{c:Bd}{x d:Nat}(g:x < c.S)(hd:d < c.dn):wp (jj [lj c.S c.dn c.nx c.un,.int x,.int d]) Q s=Q (.int (c.nx x d:Nat)) s:=by (simp![jj];simp![jR,lj,↓xW g,↓xW hd])
theorem WW{c:Bd}{x d:Nat}(g:x < c.S)(hd:d < c.dn):wp (jF [lj c.S c.dn c.nx c.un,.int x,.int d]) Q s=Q (.int (c.un x d:Nat)) s:=by (simp![jF];simp![yd,lj,↓xW g,↓xW hd])
theorem MD{xs:List Nat}{i v:Nat}:(xs.map cn).set i (.int (v:Nat))=(xs.set i v).map cn:=by rw[pQ];rfl
theorem Th{k:Nat}(hh:j_ h)(o:i_ h st)(B:k < h.hands.length):wp (jB [kD h,cw st,.int k]) Q s=Q (cw (kn h st k)) s:=by
 obtain⟨hd,l,e1,e2,hl,e3,ok⟩:=Dp hh o B;have w:∀Q s,wp (jg [kD h,cw st,.int k]) Q s=Q (nY (d_ h st k)) s:=λQ s=>Kk hh o B;cases el:d_ h st k with
 |settle v=>
  rw[He el];rw[el]at w;simp only[nY]at w
  (simp![jB];simp![j4,↓w,JM])
 |act b d gs=>
  rw[el]at ok w;obtain⟨c,x,g,Y,E,U,O,L,f6,f7,f8⟩:=Go hh o ok;rw[Ik el Y E L];simp only[nY]at w;have u:k < (st.ls.map cn).length:=by rw[ae,o.1];exact B
  have C:b < (st.ss.map cn).length:=by rw[ae];exact (ac.mp E).1
  have z1:=o.1;have z2:=o.2.1;have z3:=hh.1;have z4:=hh.2.2.2.1;have w1:∀Q s,wp (cG (h.boards.map pY) (b:Int)) Q s=Q (.tup [lj c.S c.dn c.nx c.un,cn c.st]) s:=λQ s=>qY (by rw[ar,Y];rfl);have J:∀Q s,wp (cG (st.ss.map cn) (b:Int)) Q s=Q (.int (x:Nat)) s:=λQ s=>Ca E;have I:∀Q s,wp (cG (gs.map cn) ((c.un x d:Nat):Int)) Q s=Q (.int (g:Nat)) s:=λQ s=>Ca L;have w4:∀Q s,wp (jF [lj c.S c.dn c.nx c.un,.int x,.int d]) Q s=Q (.int (c.un x d:Nat)) s:=λQ s=>WW U O;have q:∀Q s,wp (jj [lj c.S c.dn c.nx c.un,.int x,.int d]) Q s=Q (.int (c.nx x d:Nat)) s:=λQ s=>VB U O;have H:∀Q s,wp (jd [.tup (st.ls.map cn),.int k,.int g]) Q s=Q (.tup ((st.ls.map cn).set k (.int g))) s:=λQ s=>Mp u (by rw[ae];ext);have G:∀Q s,wp (jd [.tup (st.ss.map cn),.int b,.int (c.nx x d:Nat)]) Q s=Q (.tup ((st.ss.map cn).set b (.int (c.nx x d:Nat)))) s:=λQ s=>Mp C (by rw[ae];ext);have l2:2<=fu:=iB (by ext);unfold cn at w;have nd:∀n:Nat,D.int (n:Int)=cn n:=λ_=>rfl
  (simp![jB];simp![j4,↓w,Hh,aL,if_false])
  unfold kD cw;unfold cn at J I H G ⊢;simp![↓w1,↓J,↓I,↓w4,↓q,↓H,↓G,l2];rw[pQ,pQ]
theorem LK{k:Nat}(hh:j_ h)(B:i_ h st)(G:k < h.hands.length)(C:∀U,eX s U->Q (cw (kn h st k)) U):wp (jc [kD h,cw st,.int k]) Q s:=by
 obtain⟨hd,l,e1,e2,hl,e3,ok⟩:=Dp hh B G;have w:∀Q s,wp (jr [kD h,cw st,.int k]) Q s=Q (nY (d_ h st k)) s:=λQ s=>Ke hh B G;cases el:d_ h st k with
 |settle v=>
  rw[He el]at C;rw[el]at w;simp only[nY]at w
  (simp![jc];simp![jH,↓w,JM])
  exact C s (eX.refl _)
 |act b d gs=>
  rw[el]at ok w;obtain⟨o,x,g,f1,J,f3,f4,q,f6,f7,f8⟩:=Go hh B ok;rw[Ik el f1 J q]at C;simp only[nY]at w;have hkl:k < st.ls.length:=by rw[B.1];exact G
  have hbl:b < st.ss.length:=(ac.mp J).1;have l2:2<=fu:=iB (by ext);unfold cn at w
  (simp![jc];simp![jH,↓w,Hh,aL,if_false])
  unfold kD cw;simp![];have O:eX s (s++[.lst (st.ls.map cn)]):=(eX.refl _).snoc _;have Y:(s++[MO.lst (st.ls.map cn)])[s.length]?=some (.lst (st.ls.map cn)):=by simp
  have n1:(s++[MO.lst (st.ls.map cn)]).length=s.length+1:=by simp
  generalize s++[MO.lst (st.ls.map cn)]=s1 at O Y n1;have L:eX s (s1++[.lst (st.ss.map cn)]):=O.snoc _;have I:(s1++[MO.lst (st.ss.map cn)])[s1.length]?=some (.lst (st.ss.map cn)):=by simp
  have E:(s1++[MO.lst (st.ss.map cn)])[s.length]?=some (.lst (st.ls.map cn)):=(eX.snoc (eX.refl _) _).at_ Y;generalize s1++[MO.lst (st.ss.map cn)]=s2 at L I E;have w1:∀Q s,wp (cG (h.boards.map pY) (b:Int)) Q s=Q (.tup [lj o.S o.dn o.nx o.un,cn o.st]) s:=λQ s=>qY (by rw[ar,f1];rfl);have w2:∀Q s,wp (cG (st.ss.map cn) (b:Int)) Q s=Q (.int (x:Nat)) s:=λQ s=>Ca J;have w3:∀Q s,wp (cG (gs.map cn) ((o.un x d:Nat):Int)) Q s=Q (.int (g:Nat)) s:=λQ s=>Ca q;have H:∀c,(s2.set s.length (MO.lst c))[s1.length]?=some (.lst (st.ss.map cn)):=λc=>by rw[af (by ext)];exact I
  have q4:∀c Q,wp (getL s1.length) Q (s2.set s.length (MO.lst c))=Q (st.ss.map cn) (s2.set s.length (MO.lst c)):=λc Q=>e_ (H c);have q5:∀c fs Q,wp (putL s1.length fs) Q (s2.set s.length (MO.lst c))=Q () ((s2.set s.length (MO.lst c)).set s1.length (.lst fs)):=λc fs Q=>nK (H c);have g6:∀c fs,((s2.set s.length (MO.lst c)).set s1.length (MO.lst fs))[s1.length]?=some (.lst fs):=λc fs=>au (ik (H c));have g7:∀c fs,((s2.set s.length (MO.lst c)).set s1.length (MO.lst fs))[s.length]?=some (.lst c):=λc fs=>by rw[af (by ext),au (ik E)]
  have q6:∀c fs Q,wp (getL s1.length) Q ((s2.set s.length (MO.lst c)).set s1.length (MO.lst fs))=Q fs ((s2.set s.length (MO.lst c)).set s1.length (MO.lst fs)):=λc fs Q=>e_ (g6 c fs);have q7:∀c fs Q,wp (getL s.length) Q ((s2.set s.length (MO.lst c)).set s1.length (MO.lst fs))=Q c ((s2.set s.length (MO.lst c)).set s1.length (MO.lst fs)):=λc fs Q=>e_ (g7 c fs);have i1:MM.my (st.ls.map cn).length (k:Int)=some k:=by unfold MM.my;rw[aG (by ext),aG (by rw[ae];ext)];rfl
  have i2:MM.my (st.ss.map cn).length (b:Int)=some b:=by unfold MM.my;rw[aG (by ext),aG (by rw[ae];ext)];rfl
  have tb:∀Q s,wp (aU (lj o.S o.dn o.nx o.un) (.int (x:Nat))) Q s=Q (.tup (br o.dn λd=>D.tup [.int (o.nx x d:Nat),.int (o.un x d:Nat)])) s:=λQ s=>by unfold lj;rw[qd,xW f3]
  have u:=w3;unfold cn at u;simp![↓w1,↓e_ I,↓w2,↓tb,↓xW f4,↓u,↓e_ E,↓qC,i1,↓nK E,↓q4,i2,↓q5,↓q6,↓q7,l2];have fin:=C ((s2.set s.length (MO.lst ((st.ls.map cn).set k (.int (g:Nat))))).set s1.length (MO.lst ((st.ss.map cn).set b (.int (o.nx x d:Nat))))) ((L.put (av _)).put (by ext));unfold cw at fin;dsimp only at fin;rw[<- MD,<- MD]at fin;exact fin
theorem Vd{i:Int}:wp (jm [.int i]) Q s=Q (.bl true) s:=by (simp![jm];simp![j3])
end
open PySem (Str)
noncomputable def oO:Nat->List (List D)
 |0=>[[]]
 |n+1=>((oO n).map λx=>x++[.int 0])++((oO n).map λx=>x++[.int 1])
noncomputable def lP:Nat->List (List D)
 |0=>[[]]
 |n+1=>((lP n).map λx=>.int 0::x)++((lP n).map λx=>.int 1::x)
theorem LY:∀n,∀x∈oO n,x.length=n
 |0,x,h=>by simp[oO]at h;simp[h]
 |n+1,x,h=>by simp only[oO,aX,bU]at h;rcases h with ⟨y,c,e⟩|⟨y,c,e⟩<;>rw[<- e]<;>simp[LY n y c]
theorem MW:∀n,(oO n).length=2^n
 |0=>rfl
 |n+1=>by simp only[oO,aH,ae,MW n,ni];ext
theorem JR:∀n,(lP n).length=2^n
 |0=>rfl
 |n+1=>by simp only[lP,aH,ae,JR n,ni];ext
theorem A8:∀n,∀x∈lP n,x.length=n/\∀(k:Nat)d,x[k]?=some d->d=.int 0\/d=.int 1
 |0,x,h=>by simp[lP]at h;simp[h]
 |n+1,x,h=>by
  simp only[lP,aX,bU]at h;rcases h with ⟨y,c,e⟩|⟨y,c,e⟩
  ·obtain⟨a,b⟩:=A8 n y c;rw[<- e];refine⟨by simp[a],λk d hd=>?_⟩;cases k with
   |zero=>exact .inl (by simpa using hd.symm)
   |succ k=>exact b k d (by simpa using hd)
  ·obtain⟨a,b⟩:=A8 n y c;rw[<- e];refine⟨by simp[a],λk d hd=>?_⟩;cases k with
   |zero=>exact .inr (by simpa using hd.symm)
   |succ k=>exact b k d (by simpa using hd)
theorem Vb:tQ ((oO 2).map D.tup)=some ((lP 2).map D.tup):=by rfl
theorem R8:tQ ((oO 3).map D.tup)=some ((lP 3).map D.tup):=by rfl
section
variable{s:aZ}{Q:D->aZ->Prop}{h:Hs}
theorem LO{xs:List (List D)}{v:Int}{n:Nat}{A:List D->aZ->Prop}(g:s[n]?=some (.lst (xs.map D.tup)))(q:∀x∈xs,x.length<=100):wp (collect (aQ 0) bN (c2 fw (aq 0) (dU (aw (aM (.int v)) bh))) (i5 n (xs.map D.tup)) (xs.map D.tup) [none]) A s=A ((xs.map λx=>x++[.int v]).map D.tup) s:=by
 have o:1<=fu:=iB (by ext);have:=@Ba (c2 fw (aq 0) (dU (aw (aM (.int v)) bh))) (i5 n (xs.map D.tup)) (xs.map D.tup) [] (λi=>.tup ((xs.getD i [])++[.int v])) A s g (λi d hd Q=>by
  rw[ar]at hd;cases ex:xs[i]? with
  |none=>rw[ex]at hd;cases hd
  |some x=>
   rw[ex]at hd;have B:d=.tup x:=(aE hd).symm;subst B;have l:x.length+1<=fu:=iB (by have:=q x (aA ex);ext);have u:xs.getD i []=x:=by rw[lK,ex];rfl
   simp![o,l,u])
 rw[this,ae];congr 1;symm;apply FZ
 ·simp
 ·intro i c;rw[ar,ar,ai c];simp[c]
theorem UD(Y:h.hands.length=2\/h.hands.length=3)(U:∀r c,s.length<=r->c[r]?=some (.lst ((lP h.hands.length).map D.tup))->eX s c->Q (.ref r) c):wp (jp [kD h]) Q s:=by
 have L:0<=fu:=bx _;have J:1<=fu:=iB (by ext)
 (simp![jp];simp![jV,kD,L,J])
 refine ul (λi l c=>∃n B,l=[some (.tup [.tup (h.boards.map pY),.tup (h.hands.map nN)]),some (.ref n),B]/\c[n]?=some (.lst ((oO i).map D.tup))/\eX s c) (λ_ _ _ _=>trivial) ⟨_,_,rfl,by simp[oO],(eX.refl _).snoc _⟩ (λRw i d l c up rt hd C=>?_) (λl c C=>?_)
 ·obtain⟨n,B,el,g,ex⟩:=C;subst el;have h:=(ac.mp hd).1;rw[ae]at h;have L:=MW i;have Q:2^i<=8:=by
   have:i<=3:=by ext
   calc 2^i<=2^3:=Nat.pow_le_pow_right (by ext) this
    _=8:=rfl
  have o:∀x∈oO i,x.length<=100:=λx O=>by have:=LY i x O;ext
  have G:(oO i).length<=fu:=iB (by ext);have l:∀A,wp (collect (aQ 0) bN (c2 fw (aq 0) (dU (aw (aM (.int 0)) bh))) (i5 n ((oO i).map D.tup)) ((oO i).map D.tup) [none]) A c=A (((oO i).map λx=>x++[.int 0]).map D.tup) c:=λA=>LO g o;simp![↓e_ g,ib,ae,G,↓l];have u:eX c (c++[.lst (((oO i).map λx=>x++[.int 0]).map D.tup)]):=(eX.refl _).snoc _;have I:(c++[MO.lst (((oO i).map λx=>x++[.int 0]).map D.tup)])[c.length]?=some (.lst (((oO i).map λx=>x++[.int 0]).map D.tup)):=by simp
  generalize c++[MO.lst (((oO i).map λx=>x++[.int 0]).map D.tup)]=q at u I;have E:∀A,wp (collect (aQ 0) bN (c2 fw (aq 0) (dU (aw (aM (.int 1)) bh))) (i5 n ((oO i).map D.tup)) ((oO i).map D.tup) [none]) A q=A (((oO i).map λx=>x++[.int 1]).map D.tup) q:=λA=>LO (u.at_ g) o;simp![↓e_ (u.at_ g),ib,ae,G,↓E];have v:eX q (q++[.lst (((oO i).map λx=>x++[.int 1]).map D.tup)]):=(eX.refl _).snoc _;have H:(q++[MO.lst (((oO i).map λx=>x++[.int 1]).map D.tup)])[q.length]?=some (.lst (((oO i).map λx=>x++[.int 1]).map D.tup)):=by simp
  generalize q++[MO.lst (((oO i).map λx=>x++[.int 1]).map D.tup)]=J at v H;rw[Wi (v.at_ I) H];refine⟨iB (by simp;ext),?_⟩;simp![];refine up ⟨_,_,rfl,?_,((ex.trans u).trans v).snoc _⟩;simp[oO]
 ·obtain⟨n,B,el,g,ex⟩:=C;subst el;rw[ae]at g;have ks:tQ ((oO h.hands.length).map D.tup)=some ((lP h.hands.length).map D.tup):=by
   rcases Y with e|e<;>rw[e]
   ·exact Vb
   ·exact R8
  have ws:∀Q,wp (oE (.ref n)) Q c=Q (.ref c.length) (c++[.lst ((lP h.hands.length).map D.tup)]):=λQ=>by unfold oE;rw[d0,e_ g,ks];dsimp only;rw[gS]
  simp![↓ws];exact U _ _ ex.le (by simp) (ex.snoc _)
noncomputable def bf(h:Hs)(row:List D)(k:Nat):Nat:=match h.hands[k]?,row[k]? with
 |some hd,some (.int v)=>if v=0 then hd.b0 else hd.b1
 |_,_=>0
noncomputable def xA(h:Hs)(k:Nat):Nat:=(h.boards[k]?.map (·.st)).getD 0
def lg(h:Hs)(row:List D):Sd:=⟨br h.hands.length (bf h row),br h.boards.length (xA h)⟩
theorem WX{row:List D}(hh:j_ h)(E:row∈lP h.hands.length):i_ h (lg h row):=by
 obtain⟨C,c⟩:=A8 _ row E;refine⟨m6,m6,λk hd l g u=>?_,λb H x g u=>?_⟩
 ·obtain⟨G,el⟩:=BZ u;obtain⟨B,o,_⟩:=hh.2.2.2.2 hd (aA g);have q:k < row.length:=by ext
  have v:row[k]?=some row[k]:=ai q;rw[el];unfold bf;rcases c k _ v with e|e<;>rw[g,v,e]
  ·exact B
  ·exact o
 ·obtain⟨G,el⟩:=BZ u;obtain⟨_,o⟩:=hh.2.1 H (aA g);rw[el];unfold xA;rw[g];exact o
theorem MI{row:List D}{k:Nat}{Q:D->aZ->Prop}(u:row∈lP h.hands.length)(B:k < h.hands.length):∃(hd:Hd)(v:Int),h.hands[k]?=some hd/\row[k]?=some (.int v)/\(v=0/\bf h row k=hd.b0\/v=1/\bf h row k=hd.b1):=by
 obtain⟨q,g⟩:=A8 _ row u;have l:h.hands[k]?=some h.hands[k]:=ai B;have o:k < row.length:=by ext
 have c:row[k]?=some row[k]:=ai o;rcases g k _ c with e|e<;>rw[e]at c
 ·exact⟨_,0,l,c,.inl ⟨rfl,by unfold bf;rw[l,c];rfl⟩⟩
 ·exact⟨_,1,l,c,.inr ⟨rfl,by unfold bf;rw[l,c];rfl⟩⟩
theorem WA{row:List D}(hh:j_ h)(q:row∈lP h.hands.length)(J:∀l,eX s l->Q (cw (lg h row)) l):wp (jw [kD h,.tup row]) Q s:=by
 obtain⟨c,o⟩:=A8 _ row q;have z1:=hh.1;have z4:=hh.2.2.2.1;have O:=vF (show h.hands.length<=100 by ext);have I:h.hands.length<=fu:=iB (by ext);have G:h.boards.length<=fu:=iB (by ext);have H:2<=fu:=iB (by ext);have w:∀A s,wp (collect (aQ 0) bN (c2 aU (c2 aU (c2 aU (c2 aU (aq 1) (aM (.int 1))) (aq 0)) (aM (.int 0))) (c2 aU (aq 2) (aq 0))) dP (br h.hands.length λi=>.int i) [none,some (.tup [.tup (h.boards.map pY),.tup (h.hands.map nN)]),some (.tup row)]) A s=A (br h.hands.length λk=>cn (bf h row k)) s:=λA s=>wI t9 λk L Q=>by obtain⟨hd,v,e1,e2,U⟩:=MI (Q:=Q) q L;have E:∀Q s,wp (cG (h.hands.map nN) (k:Int)) Q s=Q (.tup [.tup [cn hd.b0,cn hd.b1],.tup (hd.lines.map nY)]) s:=λQ s=>qY (by rw[ar,e1];rfl);have C:∀Q s,wp (cG row (k:Int)) Q s=Q (.int v) s:=λQ s=>qY e2;rcases U with ⟨e,u⟩|⟨e,u⟩<;>subst e<;>rw[u]<;>simp![↓E,↓C]
 have B:∀A s,wp (collect (aQ 0) bN (c2 aU (aq 0) (aM (.int 1))) dP (h.boards.map pY) [none]) A s=A (br h.boards.length λk=>cn (xA h k)) s:=λA s=>by
  have:=@Ba (c2 aU (aq 0) (aM (.int 1))) dP (h.boards.map pY) [] (λk=>cn (xA h k)) A s t9 (λi d hd Q=>by
   rw[ar]at hd;cases ex:h.boards[i]? with
   |none=>rw[ex]at hd;cases hd
   |some x=>
    rw[ex]at hd;have Y:d=pY x:=(aE hd).symm;subst Y;have eb:xA h i=x.st:=by unfold xA;rw[ex];rfl
    simp![pY,eb])
  rw[this,ae]
 have g:∀(ds:List D)Q,wp (getL s.length) Q (s++[MO.lst ds])=Q ds (s++[MO.lst ds]):=λds Q=>e_ (by simp)
 (simp![jw];simp![j2,kD,c,O,ib,ba,uu,m6,I,↓w,↓g,ae,G,↓B,H])
 have fin:=J (s++[MO.lst (br h.hands.length λk=>cn (bf h row k))]) ((eX.refl _).snoc _);unfold cw lg at fin;dsimp only at fin;rw[FU,FU]at fin;exact fin
end
open PySem (Str)
theorem V7:((("do":Str)) == "do")=true:=by nofun
theorem Uc:((("settle":Str)) == "do")=false:=by nofun
theorem KD{g:CG}{t:CT}{e:CE}{same:aZ->Prop}{ds:List D}{J:Loc}{f:Nat->D}{p:Nat->Bool}{Q:List D->aZ->Prop}{s:aZ}(I:Loc->Prop)(hs:same s)(h0:I J)
  (h:∀i d l,ds[i]?=some d->I l->∃u,(∀G,wp (g d l) G s=G u s)/\I u/\(∀T,wp (t u) T s=T (p i) s)/\∀Q,wp (e u) Q s=Q (f i) s):
  wp (collect g t e same ds J) Q s=Q (((cg ds.length).filter p).map f) s:=by
 have chk:∀{R:Unit->aZ->Prop},R () s->wp (chkS same) R s:=λr=>by rw[sF];unfold chkS;rw[aG hs];exact r
 apply Lq;refine GR (Q:=λc q=>c=((cg ds.length).filter p).map f/\q=s) (λc xs l q=>∃i,xs=ds.drop i/\i<=ds.length/\I l/\c=((cg i).filter p).map f/\q=s) (λc l q C=>?_) (λc d xs l q C=>?_) ds [] _ s ⟨0,by simp,bx _,h0,rfl,rfl⟩
 ·obtain⟨i,v,hi,_,B,E⟩:=C;have:i=ds.length:=by have:=cR eM v;simp at this;ext
  subst this;subst E;exact chk ⟨B,rfl⟩
 ·obtain⟨i,v,hi,g,B,E⟩:=C;have o:i < ds.length:=by have:=cR eM v;simp at this;ext
  rw[dJ o]at v;obtain⟨q,O⟩:=lD v;obtain⟨u,c,H,U,Y⟩:=h i d l (by rw[q];exact ai o) g;subst E;refine chk ?_;rw[c,U];cases L:p i with
  |true=>
   rw[aG rfl,Y];exact⟨i+1,O,o,H,by rw[B,gJ,iH,bc];simp[L],rfl⟩
  |false=>
   rw[aC (by simp)];exact⟨i+1,O,o,H,by rw[B,gJ,iH,bc];simp[L],rfl⟩
def rl:Ln->D
 | .settle v=>cn v
 | .act _ _ _=>.non
noncomputable def pH:Ln->Bool
 | .settle _=>false
 | .act _ _ _=>true
def C6(h:Hs)(st:Sd):List D:=br h.hands.length λk=>rl (d_ h st k)
def lE(h:Hs)(st:Sd)(n:Nat):List D:=((cg n).filter λk=>pH (d_ h st k)).map λk=>.int (k:Nat)
section
variable{s:aZ}{Q:D->aZ->Prop}{h:Hs}{st:Sd}
theorem N7{c:Ln}:wp (jf [nY c]) Q s=Q (rl c) s:=by
 cases c with
 |settle v=>(simp![jf];simp![jO,nY,rl,JM,if_true])
 |act b d gs=>(simp![jf];simp![jO,nY,rl,Hh,aL,if_false])
theorem Ho{Q:D->aZ->Prop}{s:aZ}:wp (aU (kD h) (.int 1)) Q s=Q (.tup (h.hands.map nN)) s:=by unfold kD;rw[qd,sE]
theorem SJ(hh:j_ h)(q:i_ h st):wp (jC [kD h,cw st]) Q s=Q (.tup (C6 h st)) s:=by
 have B:=hh.2.2.2.1;have v:=vF (show h.hands.length<=100 by ext);have o:h.hands.length<=fu:=iB (by ext);have l:∀Q s,wp (aU (kD h) (.int 1)) Q s=Q (.tup (h.hands.map nN)) s:=λQ s=>Ho;have w:∀A s,wp (collect (aQ 0) bN (bW jf (aw (bW jg (aw (aq 1) (aw (aq 2) (aw (aq 0) bh)))) bh)) dP (br h.hands.length λi=>.int i) [none,some (kD h),some (cw st)]) A s=A (C6 h st) s:=λA s=>wI t9 λk u Q=>by have g:∀Q s,wp (jg [kD h,cw st,.int k]) Q s=Q (nY (d_ h st k)) s:=λQ s=>Kk hh q u;have c:∀Q s,wp (jf [nY (d_ h st k)]) Q s=Q (rl (d_ h st k)) s:=λQ s=>N7;simp![↓g,↓c]
 (simp![jC];simp![yb,↓l,ae,v,ib,ba,uu,m6,o,↓w])
theorem Pt{c:Ln}{T:Bool->aZ->Prop}: wp (wU (rl c) .non) (λx g=>match x with
  | .bl b=>T b g
  |_=>False) s=T (pH c) s:=by
 cases c<;>(unfold rl pH cn wU D2;rw[cL])
theorem u5(hh:j_ h)(o:i_ h st):wp (jL [kD h,cw st]) Q s=Q (.ref s.length) (s++[.lst (lE h st h.hands.length)]):=by
 have u:=hh.2.2.2.1;have g:h.hands.length<=fu:=iB (by ext);have ws:∀Q s,wp (jC [kD h,cw st]) Q s=Q (.tup (br h.hands.length λk=>rl (d_ h st k))) s:=λQ s=>SJ hh o;have w:∀A s,wp (collect (gQ 2 (cJ (aQ 0) (cJ (aQ 1) hU))) (di (c2 wU (aq 1) (aM .non))) (aq 0) dP (br h.hands.length λi=>.tup [.int i,rl (d_ h st i)]) [none,none]) A s=A (lE h st h.hands.length) s:=λA s=>by
  rw[KD (f:=λk=>.int (k:Nat)) (p:=λk=>pH (d_ h st k)) (λl=>∃x y,l=[x,y]) t9 ⟨_,_,rfl⟩ (λi d l hd c=>by
   obtain⟨x,y,el⟩:=c;obtain⟨v,q⟩:=BZ hd;refine⟨[some (.int i),some (rl (d_ h st i))],λG=>?_,⟨_,_,rfl⟩,λT=>?_,λQ=>?_⟩
   ·rw[q,el,uh,oI,gq,oI,gq,uo];exact propext ⟨λh=>h.2,λh=>⟨rfl,h⟩⟩
   ·simp only[↓zp,↓EC,↓kS,↓zH,mO,List.getElem?_cons_succ];exact Pt
   ·simp only[↓kS,mO]),m6]
  rfl
 (simp![jL];simp![yg,↓ws,m6,P8,ib,g,↓w])
theorem Nh(hh:j_ h)(H:i_ h st)(I:∀r c,s.length<=r->c[r]?=some (.lst (lE h st h.hands.length))->eX s c->Q (.ref r) c):wp (js [kD h,cw st]) Q s:=by
 have O:=hh.2.2.2.1;have G:0<=fu:=bx _;have L:=vF (show h.hands.length<=100 by ext);have E:∀Q s,wp (aU (kD h) (.int 1)) Q s=Q (.tup (h.hands.map nN)) s:=λQ s=>Ho
 (simp![js];simp![j7,G,↓E,ae,L,ba,uu])
 refine F5 (n:=h.hands.length) (λi l c=>∃q,l=[some (kD h),some (cw st),some (.ref s.length),q]/\c[s.length]?=some (.lst (lE h st i))/\eX s c) (λ_ _ _ _=>trivial) ⟨_,rfl,by simp[lE],(eX.refl _).snoc _⟩ (λU i l c up J u=>?_) (λl c u=>?_)
 ·obtain⟨q,el,g,ex⟩:=u;subst el;have o:∀Q s,wp (jr [kD h,cw st,.int i]) Q s=Q (nY (d_ h st i)) s:=λQ s=>Ke hh H J;have C:(lE h st i).length < fu:=qM (by unfold lE;rw[ae];exact cS (kj _ _) (by rw[xn];ext));cases el:d_ h st i with
  |settle v=>
   rw[el]at o;simp only[nY]at o;have B:lE h st (i+1)=lE h st i:=by unfold lE;rw[gJ,iH];simp[el,pH]
   simp![↓o,Uc,aL,if_false];exact up ⟨_,rfl,by rw[B];exact g,ex⟩
  |act b d gs=>
   rw[el]at o;simp only[nY]at o;have B:lE h st (i+1)=lE h st i++[.int (i:Nat)]:=by unfold lE;rw[gJ,iH];simp[el,pH]
   simp![↓o,V7,if_true,↓e_ g,↓nK g,C];exact up ⟨_,rfl,by rw[au (ik g),B],ex.put (av _)⟩
 ·obtain⟨q,el,g,ex⟩:=u;subst el;simp![];exact I _ _ (av _) g ex
theorem R1{row:List D}{A:List D->aZ->Prop}(l:row∈lP h.hands.length):wp (collect (gQ 2 (cJ (aQ 0) (cJ (aQ 1) hU))) bN (c2 aU (c2 aU (aq 0) (aM (.int 0))) (aq 1)) dP ((h.hands.map nN).zipWith (λp q=>D.tup [p,q]) row) [none,none]) A s=A (br h.hands.length λk=>cn (bf h row k)) s:=by
 obtain⟨u,g⟩:=A8 _ row l;have c:((h.hands.map nN).zipWith (λp q=>D.tup [p,q]) row).length=h.hands.length:=by rw[kX,ae];ext
 rw[Do (f:=λk=>cn (bf h row k)) (caps:=[]) t9 (λi d hd=>by
  have B:i < h.hands.length:=by rw[<- c];exact (ac.mp hd).1
  obtain⟨C,v,H,G,E⟩:=MI (Q:=λ_ _=>True) l B;rw[fC,ar,H,G]at hd;refine⟨_,_,(aE hd).symm,λQ=>?_⟩;rcases E with ⟨e,o⟩|⟨e,o⟩<;>subst e<;>rw[o]<;>simp![nN]),c]
theorem Q4{row:List D}(hh:j_ h)(v:row∈lP h.hands.length):wp (jE [kD h,.tup row]) Q s=Q (cw (lg h row)) s:=by
 obtain⟨J,u⟩:=A8 _ row v;have U:=hh.1;have O:=hh.2.2.2.1;have H:2<=fu:=iB (by ext);have G:h.boards.length<=fu:=iB (by ext);have E:((h.hands.map nN).zipWith (λp q=>D.tup [p,q]) row).length<=fu:=iB (by rw[kX,ae];ext);have c : ∀{a b : CE}{I : Wk -> aZ -> Prop}{l : Loc}{s : aZ}, wp (tw a b l) I s = wp (a l) (λx o => wp (b l) (λy g => match x, y with
   | .tup ds,.tup es=>I ⟨ds.zipWith (λp q=>.tup [p,q]) es,dP⟩ g
   |_,_=>False) o) s:=λ{a b I l s}=>by
  unfold tw;rw[d0];congr 1;funext x o;rw[d0];congr 1;funext y g;cases x<;>cases y<;>first|exact cL|exact iJ|exact tJ rfl|exact dH rfl
 have C:∀A s,wp (collect (gQ 2 (cJ (aQ 0) (cJ (aQ 1) hU))) bN (c2 aU (c2 aU (aq 0) (aM (.int 0))) (aq 1)) dP ((h.hands.map nN).zipWith (λp q=>D.tup [p,q]) row) [none,none]) A s=A (br h.hands.length λk=>cn (bf h row k)) s:=λA s=>R1 v;have B:∀A s,wp (collect (gQ 2 (cJ (aQ 0) (cJ (aQ 1) hU))) bN (aq 1) dP (h.boards.map pY) [none,none]) A s=A (br h.boards.length λk=>cn (xA h k)) s:=λA s=>by
  rw[Do (f:=λk=>cn (xA h k)) (caps:=[]) t9 (λi d hd=>by
   rw[ar]at hd;cases ex:h.boards[i]? with
   |none=>rw[ex]at hd;cases hd
   |some x=>
    rw[ex]at hd;have L:xA h i=x.st:=by unfold xA;rw[ex];rfl
    refine⟨_,_,(aE hd).symm,λQ=>?_⟩;rw[L];simp![]),ae]
 (simp![jE];simp![yf,kD,↓c,ib,E,↓C,ae,G,↓B,H])
 unfold cw lg;dsimp only;rw[FU,FU]
end
open PySem (Str)
noncomputable def yG:List Bd->Nat
 |[]=>1
 |b::bs=>b.S*yG bs
section
variable{s:aZ}{Q:D->aZ->Prop}{h:Hs}
def vz(h:Hs)(st:Sd):Nat:=qX (mL h.hands.length h.boards.length) st.ls*yG h.boards+m4 (h.boards.map (·.S)) st.ss
theorem Gf:∀bs:List Bd,pr (bs.map (·.S))=yG bs
 |[]=>rfl
 |b::bs=>by show b.S*pr (bs.map (·.S))=b.S*yG bs;rw[Gf bs]
theorem GG{B:Nat}{st:Sd}(l:i_ h st)(u:∀x∈h.hands,x.lines.length<=B):∀x∈st.ls,x < B:=λx q=>by
 obtain⟨k,o⟩:=kE q;have g:=(ac.mp o).1;have c:k < h.hands.length:=by rw[<- l.1];exact g
 have e:=ai c;have C:=l.2.2.1 k _ _ e o;have v:=u _ (bY c);ext
theorem DZ{st:Sd}(l:i_ h st):∀(i b x:Nat),(h.boards.map (·.S))[i]?=some b->st.ss[i]?=some x->x < b:=λi b x c g=>by
 rw[ar]at c;cases e:h.boards[i]? with
 |none=>rw[e]at c;cases c
 |some bd=>
  rw[e]at c;cases c;exact l.2.2.2 i bd x e g
theorem Kj{K:Nat}:∀{bs:List Bd},(∀b∈bs,b.S<=K)->yG bs<=K^bs.length
 |[],_=>av _
 |b::bs,hb=>by have l:=Kj (bs:=bs) λx c=>hb x (by simp[c]);have g:=hb b (by simp);rw[bC,ni,im];exact Nat.mul_le_mul g l
theorem Qt{n c:Nat}(g:n=2\/n=3)(l:c<=4):mL n c^n*mS c^c<=324:=by rcases g with rfl|rfl<;>rcases xp l with rfl|rfl|rfl|rfl|rfl<;>decide
theorem Nx(g:vH h):∃B:Nat,(mL h.hands.length h.boards.length)=B/\(∀x∈h.hands,x.lines.length<=B)/\B^h.hands.length*yG h.boards<=324:=by obtain⟨hh,o,l,c⟩:=g;refine⟨_,rfl,c,cS (Nat.mul_le_mul_left _ (Kj l)) (Qt ?_ o)⟩;have:=hh.2.2.1;have:=hh.2.2.2.1;ext
theorem TU{st:Sd}(o:vH h)(c:i_ h st):vz h st < 324:=by obtain⟨B,e,l,u⟩:=Nx o;have g:=FH (GG c l);have q:=BX (by rw[ae];exact c.2.1) (DZ c);rw[Gf]at q;unfold vz;rw[e];rw[c.1]at g;have:(qX B st.ls+1)*yG h.boards<=B^h.hands.length*yG h.boards:=oj _ g;rw[uN]at this;ext
theorem QB{a b:Sd}(I:vH h)(g:i_ h a)(c:i_ h b)(e:vz h a=vz h b):a=b:=by
 obtain⟨B,J,v,L⟩:=Nx I;have o:=BX (by rw[ae];exact g.2.1) (DZ g);have l:=BX (by rw[ae];exact c.2.1) (DZ c);rw[Gf]at o l;unfold vz at e;rw[J]at e;have q:qX B a.ls=qX B b.ls/\m4 (h.boards.map (·.S)) a.ss=m4 (h.boards.map (·.S)) b.ss:=by
  generalize yG h.boards=p at e o l;have u:0 < p:=by ext
  have H:(qX B a.ls*p+m4 (h.boards.map (·.S)) a.ss) / p=qX B a.ls:=by rw[im,iF u,io o];simp
  have G:(qX B b.ls*p+m4 (h.boards.map (·.S)) b.ss) / p=qX B b.ls:=by rw[im,iF u,io l];simp
  have:qX B a.ls=qX B b.ls:=by rw[<- H,<- G,e]
  rw[this]at e;exact⟨this,by ext⟩
 have E:=M4 (by rw[g.1,c.1]) (GG g v) (GG c v) q.1;have C:=Ml (by rw[ae];exact g.2.1) (by rw[ae];exact c.2.1) (DZ g) (DZ c) q.2;cases a;cases b;simp only at E C;rw[E,C]
theorem ML{α β:Type}{f:α->β}:∀{l:List α},l.Nodup->(∀a∈l,∀b∈l,f a=f b->a=b)->(l.map f).Nodup
 |[],_,_=>lM
 |x::xs,hn,hi=>by obtain⟨v,u⟩:=eL.mp hn;rw[aK];refine eL.mpr ⟨λg=>?_,ML u λa q b o=>hi a (by simp[q]) b (by simp[o])⟩;obtain⟨y,c,e⟩:=bU.mp g;have:=hi y (by simp[c]) x (by simp) e;exact v (this ▸ c)
theorem few{l:List Sd}(o:vH h)(u:l.Nodup)(c:∀x∈l,i_ h x):l.length<=324:=by
 have:=D4 324 (l.map (vz h)) (ML u λa g b v e=>QB o (c a g) (c b v) e) (λx q=>by obtain⟨a,g,e⟩:=bU.mp q;rw[<- e];exact TU o (c a g))
 rwa [ae]at this
theorem sJ(st:Sd):m5 true (cw st)=true:=US st.ls st.ss
theorem B7(a b:Sd):oJ (cw a) (cw b)=decide (a=b):=by
 have:=TY a.ls a.ss b.ls b.ss
 show oJ (cw a) (cw b)=_;unfold cw;refine this.trans ?_;cases a;cases b;simp only[Sd.mk.injEq,m_]
theorem MX{order:List Sd}:∀{c:List (D×D)},c.map (·.1)=order.map cw->∀st,(lV c (cw st)).isSome=decide (st∈order):=by
 induction order with
 |nil=>
  intro c g st;cases c with
  |nil=>rfl
  |cons p ps=>cases g
 |cons x xs ih=>
  intro c g st;cases c with
  |nil=>cases g
  |cons p ps=>
   rw[aK,aK]at g;obtain⟨o,l⟩:=lD g;unfold lV;rw[cE,o,B7];by_cases e:x=st
   ·rw[bB e];simp[e]
   ·rw[aR e];have:=ih l st;unfold lV at this;rw[this];have q:¬ st=x:=λz=>e z.symm;simp[q]
theorem UA{c:List (D×D)}{order:List Sd}{st:Sd}{v:D}(w:c.map (·.1)=order.map cw)(q:st∉order):(lG c (cw st) v).map (·.1)=(order++[st]).map cw:=by
 have g:=MX w st;rw[aR q]at g;have u:(c.any λp=>oJ p.1 (cw st))=false:=by
  cases e:c.any λp=>oJ p.1 (cw st) with
  |false=>rfl
  |true=>
   obtain⟨p,o,l⟩:=xS.mp e;have:(c.find? λp=>oJ p.1 (cw st)).isSome=true:=xo.mpr ⟨p,o,l⟩;unfold lV at g;rw[lR,this]at g;cases g
 unfold lG;rw[u,aC (by simp),bc,bc,w];rfl
end
noncomputable def ie(xs:List Sd)(x:Sd):List Sd:=if x∈xs then xs else xs++[x]
def fY(h:Hs)(st:Sd):List Nat:=(cg h.hands.length).filter λk=>pH (d_ h st k)
def o7(h:Hs)(x:Sd)(ks:List Nat)(xs:List Sd):List Sd:=ks.foldl (λys k=>ie ys (kn h x k)) xs
def kQ(h:Hs)(rows:List (List D)):List Sd:=rows.foldl (λys row=>ie ys (lg h row)) []
def d8(h:Hs):Nat->List Sd
 |0=>kQ h (lP h.hands.length)
 |i+1=>match (d8 h i)[i]? with
  |some x=>o7 h x (fY h x) (d8 h i)
  |none=>d8 h i
def Good(h:Hs)(xs:List Sd):Prop:=xs.Nodup/\∀x∈xs,i_ h x
section
variable{h:Hs}
theorem M_{xs:List Sd}{x:Sd}(g:Good h xs)(l:i_ h x):Good h (ie xs x):=by
 unfold ie;by_cases e:x∈xs
 ·rw[aG e];exact g
 ·rw[aC e];refine⟨dN.mpr ⟨g.1,by simp,λa q b o=>?_⟩,λy c=>?_⟩
  ·rw[aJ.mp o];exact λz=>e (z ▸ q)
  ·rcases aX.mp c with c|c
   ·exact g.2 y c
   ·rw[aJ.mp c];exact l
theorem FN(hh:j_ h){x:Sd}(c:i_ h x):∀{ks:List Nat}{xs:List Sd},(∀k∈ks,k < h.hands.length)->Good h xs->Good h (o7 h x ks xs)
 |[],_,_,g=>g
 |k::ks,xs,hk,g=>FN hh c (ks:=ks) (λy l=>hk y (by simp[l])) (M_ g (RI hh c (hk k (by simp))))
theorem F7(hh:j_ h):∀{rows:List (List D)}{xs:List Sd},(∀r∈rows,r∈lP h.hands.length)->Good h xs->Good h (rows.foldl (λys row=>ie ys (lg h row)) xs)
 |[],_,_,g=>g
 |r::rows,xs,hr,g=>F7 hh (rows:=rows) (λy c=>hr y (by simp[c])) (M_ g (WX hh (hr r (by simp))))
theorem BR{st:Sd}{k:Nat}(c:k∈fY h st):k < h.hands.length:=hV.mp (iC.mp c).1
theorem xz(hh:j_ h):∀i,Good h (d8 h i)
 |0=>F7 hh (λr c=>c) ⟨lM,by simp⟩
 |i+1=>by
  have g:=xz hh i;unfold d8;cases e:(d8 h i)[i]? with
  |none=>exact g
  |some x=>exact FN hh (g.2 x (aA e)) (λk l=>BR l) g
theorem Lg(xs:List Sd)(x:Sd):∃t,ie xs x=xs++t:=by
 unfold ie;by_cases e:x∈xs
 ·exact⟨[],by rw[aG e];simp⟩
 ·exact⟨[x],by rw[aC e]⟩
theorem FM{x:Sd}:∀(ks:List Nat)(xs:List Sd),∃t,o7 h x ks xs=xs++t
 |[],xs=>⟨[],by simp[o7]⟩
 |k::ks,xs=>by
  obtain⟨t,e⟩:=Lg xs (kn h x k);obtain⟨u,f⟩:=FM (x:=x) ks (ie xs (kn h x k));refine⟨t++u,?_⟩
  show o7 h x ks (ie xs (kn h x k))=_;rw[f,e,bQ]
theorem Il(i:Nat):∃t,d8 h (i+1)=d8 h i++t:=by
 show ∃t,(match (d8 h i)[i]? with
  |some x=>o7 h x (fY h x) (d8 h i)
  |none=>d8 h i)=_
 cases (d8 h i)[i]? with
 |none=>exact⟨[],by simp⟩
 |some x=>exact FM _ _
theorem FW{i j:Nat}(c:i<=j):(d8 h i).length<=(d8 h j).length:=by
 induction j with
 |zero=>cases Nat.le_zero.mp c;exact av _
 |succ j ih=>
  by_cases e:i=j+1
  ·subst e;exact av _
  ·obtain⟨t,g⟩:=Il (h:=h) j;rw[g,aH];have:=ih (by ext);ext
def rp(h:Hs)(i:Nat):Prop:=∀j,j < i->j < (d8 h j).length
def rB(h:Hs)(i:Nat):Prop:=rp h i/\(d8 h i).length<=i
theorem rB.uniq{i j:Nat}(a:rB h i)(b:rB h j):i=j:=by
 rcases Nat.lt_trichotomy i j with e|e|e
 ·have:=b.1 i e;have:=a.2;ext
 ·exact e
 ·have:=a.1 j e;have:=b.2;ext
theorem DR(c:vH h){i:Nat}(g:rp h i):(d8 h i).length<=324/\i<=324:=by
 have l:=few c (xz c.1 i).1 (xz c.1 i).2;refine⟨l,?_⟩;cases i with
 |zero=>ext
 |succ i=>
  have:=g i (by ext);have:=FW (h:=h) (show i<=i+1 by ext);ext
end
open PySem (Str)
section
variable{s u:aZ}{Q:D->aZ->Prop}{h:Hs}{no nd:Nat}{xs:List Sd}
def yB(s:aZ)(no nd:Nat)(xs:List Sd)(u:aZ):Prop:=∃c,u[nd]?=some (.dct true c)/\u[no]?=some (.lst (xs.map cw))/\c.map (·.1)=xs.map cw/\eX s u
theorem yB.ext{u':aZ}(f:yB s no nd xs u)(x:eX u u'):yB s no nd xs u':=by obtain⟨g,a,b,c,d⟩:=f;exact⟨g,x.at_ a,x.at_ b,c,d.trans x⟩
theorem Vu{c:List (D×D)}(w:c.map (·.1)=xs.map cw):c.length=xs.length:=by have:=cR eM w;simpa using this
theorem uD{st:Sd}{a J H G:Option D}{R:r9->aZ->Prop}(B:no≠nd)(o:s.length<=no)(q:s.length<=nd)(I:yB s no nd xs u)(hl:xs.length<=400)
  (O:∀u',yB s no nd (ie xs st) u'->(∀n,n≠no->n≠nd->u'[n]?=u[n]?)->R (.next [a,some (.ref no),some (.dic nd),J,some (cw st),H,G]) u'):
  wp (np (di (c2 rG (aq 4) (aq 2))) (aO (cf (g_ (aq 2) (aq 4)) (aM (.bl true))) (aO (iA (dO (aq 1) (aq 4))) aW)) aW [a,some (.ref no),some (.dic nd),J,some (cw st),H,G]) R u:=by
 obtain⟨c,l,C,w,L⟩:=I;have kl:=Vu w;have q1:∀Q,wp (hasK nd (cw st)) Q u=Q (lV c (cw st)).isSome u:=λQ=>Gk l (sJ st);simp![↓q1,MX w];by_cases g:st∈xs
 ·rw[bB g];simp![cU,aL,if_false];refine O u ⟨c,l,?_,?_,L⟩ λ_ _ _=>rfl
  ·unfold ie;rw[aG g];exact C
  ·unfold ie;rw[aG g];exact w
 ·rw[aR g];have G:∀v Q,wp (storeK nd (cw st) v) Q u=Q () (u.set nd (.dct true (lG c (cw st) v))):=λv Q=>Df l (sJ st) (qM (by ext));have U:∀v,(u.set nd (MO.dct true (lG c (cw st) v)))[no]?=some (.lst (xs.map cw)):=λv=>by rw[af (by ext)];exact C
  have h:∀v Q,wp (getL no) Q (u.set nd (MO.dct true (lG c (cw st) v)))=Q (xs.map cw) (u.set nd (MO.dct true (lG c (cw st) v))):=λv Q=>e_ (U v);have Y:∀v E Q,wp (putL no E) Q (u.set nd (MO.dct true (lG c (cw st) v)))=Q () ((u.set nd (MO.dct true (lG c (cw st) v))).set no (.lst E)):=λv E Q=>nK (U v);simp![h9,if_true,↓G,↓h,↓Y,ae];refine⟨qM (by ext),O _ ⟨_,by rw[af B,au (ik l)],?_,?_,(L.put q).put o⟩ λn I H=>by rw[af (bG I),af (bG H)]⟩
  ·unfold ie;rw[aC g,au (by rw[cY];exact ik C),bc];rfl
  ·unfold ie;rw[aC g];exact UA w g
theorem O8{st:Sd}:lE h st h.hands.length=(fY h st).map λk=>.int (k:Nat):=rfl
theorem Kg{x:Sd}{ks:List Nat}{j k:Nat}(e:ks[j]?=some k):o7 h x (ks.take (j+1)) xs=ie (o7 h x (ks.take j) xs) (kn h x k):=by obtain⟨c,g⟩:=ac.mp e;rw[i9 c,g];unfold o7;rw[pP];rfl
theorem Nf{rows:List (List D)}{j:Nat}{r:List D}(e:rows[j]?=some r):kQ h (rows.take (j+1))=ie (kQ h (rows.take j)) (lg h r):=by obtain⟨c,g⟩:=ac.mp e;rw[i9 c,g];unfold kQ;rw[pP];rfl
theorem Se(L:vH h)(hq:∀i r u,rB h i->u[r]?=some (.lst ((d8 h i).map cw))->s.length<=r->eX s u->Q (.ref r) u):wp (jq [kD h]) Q s:=by
 have hh:=L.1;have hn:h.hands.length=2\/h.hands.length=3:=by have:=hh.2.2.1;have:=hh.2.2.2.1;ext
 (simp![jq];simp![jU,bx])
 refine UD hn λr s1 hr gr x1=>?_;simp![↓e_ gr];have f0:yB s s.length (s++[MO.lst []]).length [] s1:=⟨[],x1.at_ pE,x1.at_ (pk pE),rfl,(((eX.refl s).snoc _).snoc _).trans x1⟩
 have hr':(s++[MO.lst []]).length < r:=by
  have:(s++[MO.lst []]++[MO.dct true []]).length=(s++[MO.lst []]).length+1:=by simp
  ext
 have hne:s.length < (s++[MO.lst []]).length:=by simp
 generalize (s++[MO.lst []]).length=nd at f0 hr' hne ⊢;refine ul (λi l u=>∃B c,l=[some (kD h),some (.ref s.length),some (.dic nd),B,c,none,none]/\u[r]?=some (.lst ((lP h.hands.length).map D.tup))/\yB s s.length nd (kQ h ((lP h.hands.length).take i)) u) (λ_ _ _ w=>by obtain⟨_,_,_,g,_⟩:=w;exact g)
  ⟨_,_,rfl,gr,f0⟩ (λRw1 i d l u up1 rt1 hd q=>?_) (λl u q=>?_)
 ·obtain⟨B,c,el,g,f⟩:=q;subst el;rw[ar]at hd;cases O:(lP h.hands.length)[i]? with
  |none=>rw[O]at hd;cases hd
  |some row=>
   rw[O]at hd;have ed:d=.tup row:=(aE hd).symm;subst ed;have H:=aA O;simp![];refine WA hh H λu1 Y=>?_;simp only[↓Ad,↓qE];have I:Good h (kQ h ((lP h.hands.length).take i)):=F7 hh (λr hr=>fN hr) ⟨lM,by simp⟩;have hl:=few L I.1 I.2;refine uD (by ext) (av _) (by ext) (f.ext Y) (by ext) λo E l=>?_;simp![];refine up1 ⟨_,_,rfl,?_,?_⟩
   ·rw[l r (by ext) (by ext)];exact Y.at_ g
   ·rw[Nf O];exact E
 ·obtain⟨B,c,el,g,f⟩:=q;subst el;rw[ae,cT]at f;simp![];refine CQ (λl u=>∃(i:Nat)(B c G:Option D),l=[some (kD h),some (.ref s.length),some (.dic nd),B,c,some (.int i),G]/\rp h i/\yB s s.length nd (d8 h i) u)
   (λ(l:Loc)(_:aZ)=>match (l[5]?:Option (Option D)) with
    |some (some (D.int i))=>(1000-i).toNat
    |_=>0) ⟨0,_,_,_,rfl,λj hj=>bn hj (by ext),f⟩ (λRw2 l u O rt2 q=>?_)
  clear f g;obtain⟨i,B,c,G,el,go,f⟩:=q;subst el;obtain⟨hl,hi⟩:=DR L go;have gl:u[s.length]?=some (.lst ((d8 h i).map cw)):=by obtain⟨_,_,b,_⟩:=f;exact b
  simp![↓e_ gl,ae];by_cases o:i < (d8 h i).length
  ·rw[aG (by ext)];have ex:(d8 h i)[i]?=some (d8 h i)[i]:=ai o;have J:=(xz hh i).2 _ (bY o);have ew:d8 h (i+1)=o7 h (d8 h i)[i] (fY h (d8 h i)[i]) (d8 h i):=by
    show (match (d8 h i)[i]? with
     |some x=>o7 h x (fY h x) (d8 h i)
     |none=>d8 h i)=_
    rw[ex]
   generalize (d8 h i)[i]=x at ex J ew;have q2:∀(Q:D->aZ->Prop)s,wp (cG ((d8 h i).map cw) (i:Int)) Q s=Q (cw x) s:=λQ s=>qY (by rw[ar,ex];rfl);simp![↓q2];refine Nh hh J λr1 u1 hr1 C Y=>?_;rw[O8]at C;simp![↓e_ C];have lu:nd < u.length:=by obtain⟨_,a,_⟩:=f;exact ik a
   refine ul (λj l u=>∃c G,l=[some (kD h),some (.ref s.length),some (.dic nd),B,c,some (.int i),G]/\u[r1]?=some (.lst ((fY h x).map λk=>.int (k:Nat)))/\yB s s.length nd (o7 h x ((fY h x).take j) (d8 h i)) u) (λ_ _ _ w=>by obtain⟨_,_,_,g,_⟩:=w;exact g)
    ⟨_,_,rfl,C,f.ext Y⟩ (λRw3 j d l v H rt3 hd q=>?_) (λl v q=>?_)
   ·obtain⟨c,G,el,g2,E⟩:=q;subst el;rw[ar]at hd;cases U:(fY h x)[j]? with
    |none=>rw[U]at hd;cases hd
    |some k=>
     rw[U]at hd;have ed:d=.int (k:Nat):=(aE hd).symm;subst ed;have g:=BR (aA U);obtain⟨t,et⟩:=FM (h:=h) (x:=x) ((fY h x).take j) (d8 h i);have O:v[s.length]?=some (.lst ((o7 h x ((fY h x).take j) (d8 h i)).map cw)):=by obtain⟨_,_,b,_⟩:=E;exact b
     have u:∀(Q:D->aZ->Prop)s,wp (cG ((o7 h x ((fY h x).take j) (d8 h i)).map cw) (i:Int)) Q s=Q (cw x) s:=λQ s=>qY (by rw[et,ar,ax o,ex];rfl);have I:=FN hh J (λk g=>BR (fN g)) (xz hh i) (ks:=(fY h x).take j);have C:=few L I.1 I.2;simp![↓e_ O,↓u];refine LK hh J g λv1 l=>?_;simp only[↓Ad,↓qE];refine uD (by ext) (av _) (by ext) (E.ext l) (by ext) λv2 Y B=>?_;simp![];refine H ⟨_,_,rfl,?_,?_⟩
     ·rw[B r1 (by ext) (by ext)];exact l.at_ g2
     ·rw[Kg U];exact Y
   ·obtain⟨c,G,el,g2,E⟩:=q;subst el;rw[ae,cT,<- ew]at E;simp![];refine O ⟨i+1,_,_,_,rfl,λj hj=>?_,E⟩ ?_
    ·by_cases e:j=i
     ·subst e;exact o
     ·exact go j (by ext)
    ·show (1000-((i:Int)+1)).toNat < (1000-(i:Int)).toNat;ext
  ·rw[aC (by ext)]
   try simp![]
   obtain⟨_,_,_,_,ex⟩:=f;exact hq i _ _ ⟨go,by ext⟩ gl (av _) ex
end
open PySem (Str)
section
variable{s u:aZ}{Q:D->aZ->Prop}{h:Hs}{no nd:Nat}{xs:List Sd}{l:Loc}
theorem K_{a b c:CE}: wp (oM a b c l) Q s=wp (a l) (λx q=>match x with
  | .dic n=>wp (getDc n) (λp o=>p.1=true/\wp (b l) (λy g=>wp (c l) (λz v=>wp (lH n y z) Q v) g) o) q
  |_=>False) s:=by
 unfold oM;rw[d0];refine kC λx q=>?_;cases x with
 |dic n=>
  dsimp only;rw[d0];refine kC λp o=>?_;rw[d9,d0];refine cR _ (kC λy g=>?_);rw[d0]
 |_=>exact tJ rfl
theorem VQ{n:Nat}{c:List (D×D)}{k v d:D}(g:s[n]?=some (.dct true c))(q:m5 true k=true)(o:c.length < fu)(e:lV c k=some d):wp (lH n k v) Q s=Q d s:=by unfold lH;rw[d0,uT g,d9];dsimp only;rw[e];dsimp only;rw[cL];exact propext ⟨λz=>z.2,λz=>⟨⟨rfl,q,o⟩,z⟩⟩
theorem QK{n:Nat}{c:List (D×D)}{k v:D}(g:s[n]?=some (.dct true c))(q:m5 true k=true)(o:c.length < fu)(e:lV c k=none):wp (lH n k v) Q s=Q v (s.set n (.dct true (lG c k v))):=by unfold lH;rw[d0,uT g,d9];dsimp only;rw[e];dsimp only;rw[d0,LD g,cL];exact propext ⟨λz=>z.2,λz=>⟨⟨rfl,q,o⟩,z⟩⟩
theorem W3{n:Nat}{c:List (D×D)}(g:s[n]?=some (.dct true c)):wp (ph (.dic n)) Q s=Q (.ref s.length) (s++[.lst (c.map (·.1))]):=by unfold ph;dsimp only;rw[d0,uT g,d9,gS];exact propext ⟨λz=>z.2,λz=>⟨rfl,z⟩⟩
noncomputable def u4:Nat->List (List D)
 |0=>[[]]
 |n+1=>(u4 n).flatMap λx=>[x++[.int 0],x++[.int 1]]
theorem Tf{n:Nat}(c:n=2\/n=3):u4 n=lP n:=by rcases c with rfl|rfl<;>rfl
theorem Ks:∀n,∀x∈u4 n,x.length=n
 |0,x,h=>by simp[u4]at h;simp[h]
 |n+1,x,h=>by obtain⟨y,c,e⟩:=mP.mp h;have:=Ks n y c;simp at e;rcases e with e|e<;>rw[e]<;>simp[this]
theorem MQ:∀n,(u4 n).length=2^n
 |0=>rfl
 |n+1=>by
  have:∀l:List (List D),(l.flatMap λx=>[x++[D.int 0],x++[D.int 1]]).length=2*l.length:=by
   intro l
   induction l with
   |nil=>rfl
   |cons a t ih=>rw[md,aH,ih,bC];simp;ext
  show ((u4 n).flatMap _).length=_;rw[this,MQ n,ni];ext
theorem Sh(hh:j_ h)(hq:∀r u,s.length<=r->u[r]?=some (.lst ((lP h.hands.length).map D.tup))->eX s u->Q (.ref r) u):wp (ju [kD h]) Q s:=by
 have hn:h.hands.length=2\/h.hands.length=3:=by have:=hh.2.2.1;have:=hh.2.2.2.1;ext
 have Y:1<=fu:=iB (by ext);have wh:∀(Q:D->aZ->Prop)s,wp (aU (kD h) (.int 1)) Q s=Q (.tup (h.hands.map nN)) s:=λQ s=>Ho
 (simp![ju];simp![j0,bx,Y,↓wh])
 refine ul (λi l u=>∃(n:Nat)(O L q:Option D),l=[some (kD h),some (.ref n),O,L,q]/\s.length<=n/\u[n]?=some (.lst ((u4 i).map D.tup))/\eX s u) (λ_ _ _ _=>trivial)
  ⟨_,_,_,_,rfl,av _,pE,(eX.refl _).snoc _⟩ (λRw1 i d l u up1 rt1 hd B=>?_) (λl u B=>?_)
 ·obtain⟨n,O,L,q,el,H,g,ex⟩:=B;subst el;have hi:=(ac.mp hd).1;rw[ae]at hi;have hi3:i < 3:=by ext
  have hcn:=MQ i;have hp:2^i<=8:=by rcases (show i=0\/i=1\/i=2 by ext) with rfl|rfl|rfl<;>decide
  have gn:(u++[MO.lst []])[n]?=some (.lst ((u4 i).map D.tup)):=pk g;have lnn:=ik g;simp![bx,↓e_ gn];refine ul (λj l v=>∃q,l=[some (kD h),some (.ref n),some d,some (.ref u.length),q]/\v[n]?=some (.lst ((u4 i).map D.tup))/\v[u.length]?=some (.lst ((((u4 i).take j).flatMap λx=>[x++[.int 0],x++[.int 1]]).map D.tup))/\eX s v) (λ_ _ _ w=>by obtain⟨_,_,g,_⟩:=w;exact g)
   ⟨_,rfl,gn,pE,ex.snoc _⟩ (λRw2 j e l v U rt2 I B=>?_) (λl v B=>?_)
  ·obtain⟨q,el,g1,o,C⟩:=B;subst el;rw[ar]at I;cases J:(u4 i)[j]? with
   |none=>rw[J]at I;cases I
   |some row=>
    rw[J]at I;have ed:e=.tup row:=(aE I).symm;subst ed;obtain⟨hj,e2⟩:=ac.mp J;have hrl:=Ks i row (aA J);have h:(u4 i).take (j+1)=(u4 i).take j++[row]:=by rw[i9 hj,e2]
    generalize G:((u4 i).take j).flatMap (λx=>[x++[D.int 0],x++[D.int 1]])=ys at o;have hyl:ys.length<=16:=by
     have:∀l:List (List D),(l.flatMap λx=>[x++[D.int 0],x++[D.int 1]]).length=2*l.length:=by
      intro l
      induction l with
      |nil=>rfl
      |cons a t ih=>rw[md,aH,ih,bC];simp;ext
     rw[<- G,this,bX];ext
    have g:∀c,(v.set u.length (MO.lst c))[u.length]?=some (.lst c):=λc=>au (ik o);have L:∀c Q,wp (getL u.length) Q (v.set u.length (MO.lst c))=Q c (v.set u.length (MO.lst c)):=λc Q=>e_ (g c);have H:∀c E Q,wp (putL u.length E) Q (v.set u.length (MO.lst c))=Q () ((v.set u.length (MO.lst c)).set u.length (.lst E)):=λc E Q=>nK (g c);have O:row.length+1<=fu:=iB (by ext);simp![Y,O,↓e_ o,↓nK o,↓L,↓H,aH,ae,bC,gI];have hu:=ex.le;refine⟨qM (by ext),qM (by ext),U ⟨_,rfl,?_,?_,(C.put hu).put hu⟩⟩
    ·rw[af (by ext),af (by ext)];exact g1
    ·rw[au (by rw[cY];exact ik o),h,v4,G];simp
  ·obtain⟨q,el,g1,o,C⟩:=B;subst el;rw[ae,cT]at o;simp![];exact up1 ⟨_,_,_,_,rfl,by have:=ex.le;ext,o,C⟩
 ·obtain⟨n,O,L,q,el,H,g,ex⟩:=B;subst el;rw[ae,Tf hn]at g;simp![];exact hq n u H g ex
def pG:List Sd->Nat->List (D×D)
 |[],_=>[]
 |x::xs,i=>(cw x,cn i)::pG xs (i+1)
theorem CW{y:Sd}:∀(xs:List Sd)(i:Nat),lV (pG xs i) (cw y)=if y∈xs then some (cn (i+xs.idxOf y)) else none
 |[],i=>rfl
 |x::xs,i=>by
  have c:=CW (y:=y) xs (i+1);unfold lV at c ⊢;rw[pG,cE];dsimp only;rw[B7];by_cases e:x=y
  ·subst e;simp
  ·have o:¬ y=x:=λz=>e z.symm;simp only[aR e];rw[c,rh];have:(x == y)=false:=by simp[e]
   rw[this];simp only[aP,o,false_or,cond_false];by_cases g:y∈xs
   ·simp only[g,if_true];congr 2;ext
   ·simp only[g,if_false]
theorem Ni{y:Sd}:∀(xs:List Sd)(i:Nat),pG (xs++[y]) i=pG xs i++[(cw y,cn (i+xs.length))]
 |[],i=>rfl
 |x::xs,i=>by rw[ij,pG,pG,Ni xs (i+1),ij,bC,show i+1+xs.length=i+(xs.length+1) by ext]
theorem Iu:∀(xs:List Sd)(i:Nat),(pG xs i).length=xs.length
 |[],i=>rfl
 |x::xs,i=>by rw[pG,bC,Iu xs,bC]
theorem MV:∀(xs:List Sd)(i:Nat),(pG xs i).map (·.1)=xs.map cw
 |[],i=>rfl
 |x::xs,i=>by rw[pG,aK,MV xs,aK]
theorem Lp{y:Sd}(q:y∉xs):lG (pG xs 0) (cw y) (cn xs.length)=pG (xs++[y]) 0:=by
 have c:=CW (y:=y) xs 0;rw[aC q]at c;have v:((pG xs 0).any λp=>oJ p.1 (cw y))=false:=by
  cases e:(pG xs 0).any λp=>oJ p.1 (cw y) with
  |false=>rfl
  |true=>
   obtain⟨p,o,g⟩:=xS.mp e;have:((pG xs 0).find? λp=>oJ p.1 (cw y)).isSome=true:=xo.mpr ⟨p,o,g⟩;unfold lV at c;rw[Option.map_eq_none_iff]at c;rw[c]at this;cases this
 unfold lG;rw[v,aC (by simp),Ni,uQ]
theorem HR{y:Sd}:∀{xs t:List Sd},y∈xs->(xs++t).idxOf y=xs.idxOf y
 |x::xs,t,hy=>by
  rw[ij,rh,rh];by_cases e:x=y
  ·subst e;simp
  ·have:(x == y)=false:=by simp[e]
   rw[this];simp only[cond_false];rw[HR (by rcases aP.mp hy with z|z;exact bn z.symm e;exact z)]
def row(h:Hs)(x:Sd)(ks:List Nat)(xs:List Sd):List D:=ks.map λk=>.tup [cn k,cn (xs.idxOf (kn h x k))]
theorem Qu{x:Sd}{ks:List Nat}{t:List Sd}(g:∀k∈ks,kn h x k∈xs):row h x ks (xs++t)=row h x ks xs:=by unfold row;refine dg λk c=>?_;rw[HR (g k c)]
def Fn(s:aZ)(no nd:Nat)(xs:List Sd)(u:aZ):Prop:=u[nd]?=some (.dct true (pG xs 0))/\u[no]?=some (.lst (xs.map cw))/\eX s u
theorem Fn.ext{u':aZ}(f:Fn s no nd xs u)(x:eX u u'):Fn s no nd xs u':=⟨x.at_ f.1,x.at_ f.2.1,f.2.2.trans x⟩
theorem KZ{x:Sd}:x∈ie xs x:=by
 unfold ie;by_cases e:x∈xs
 ·rw[aG e];exact e
 ·rw[aC e];simp
theorem Vf{x y:Sd}{ks:List Nat}(c:y∈xs):y∈o7 h x ks xs:=by obtain⟨t,e⟩:=FM (h:=h) (x:=x) ks xs;rw[e];exact cH _ c
theorem Fp{x:Sd}{k:Nat}:∀{ks:List Nat}{xs:List Sd},k∈ks->kn h x k∈o7 h x ks xs
 |j::ks,xs,c=>by
  show _∈o7 h x ks (ie xs (kn h x j));rcases aP.mp c with e|c
  ·subst e;exact Vf KZ
  ·exact Fp c
theorem Pw{st:Sd}{a b H G:Option D}{R:r9->aZ->Prop}(C:no≠nd)(q:s.length<=no)(B:s.length<=nd)(I:Fn s no nd xs u)(hl:xs.length<=400)
  (L:∀u',Fn s no nd (ie xs st) u'->(∀n,n≠no->n≠nd->u'[n]?=u[n]?)->R (.next [a,b,some (.ref no),some (.dic nd),H,G,some (cw st)]) u'):
  wp (np (di (c2 rG (aq 6) (aq 3))) (aO (cf (g_ (aq 3) (aq 6)) (c1 fX (aq 2))) (aO (iA (dO (aq 2) (aq 6))) aW)) aW [a,b,some (.ref no),some (.dic nd),H,G,some (cw st)]) R u:=by
 obtain⟨o,g,J⟩:=I;have l:∀Q,wp (hasK nd (cw st)) Q u=Q (lV (pG xs 0) (cw st)).isSome u:=λQ=>Gk o (sJ st);simp![↓l,CW];by_cases c:st∈xs
 ·rw[aG c];simp![oy,cU,aL,if_false];refine L u ?_ λ_ _ _=>rfl;unfold ie;rw[aG c];exact⟨o,g,J⟩
 ·rw[aC c];have h:∀v Q,wp (storeK nd (cw st) v) Q u=Q () (u.set nd (.dct true (lG (pG xs 0) (cw st) v))):=λv Q=>Df o (sJ st) (qM (by rw[Iu];ext));have O:∀v,(u.set nd (MO.dct true (lG (pG xs 0) (cw st) v)))[no]?=some (.lst (xs.map cw)):=λv=>by rw[af (by ext)];exact g
  have Y:∀v Q,wp (getL no) Q (u.set nd (MO.dct true (lG (pG xs 0) (cw st) v)))=Q (xs.map cw) (u.set nd (MO.dct true (lG (pG xs 0) (cw st) v))):=λv Q=>e_ (O v);have U:∀v E Q,wp (putL no E) Q (u.set nd (MO.dct true (lG (pG xs 0) (cw st) v)))=Q () ((u.set nd (MO.dct true (lG (pG xs 0) (cw st) v))).set no (.lst E)):=λv E Q=>nK (O v);simp![Option.isSome_none,h9,if_true,↓e_ g,↓h,↓Y,↓U,ae];refine⟨qM (by ext),L _ ?_ λn G l=>by rw[af (bG G),af (bG l)]⟩;unfold ie;rw[aC c];refine⟨?_,?_,(J.put B).put q⟩
  ·rw[af C,au (ik o)];have:=Lp c;unfold cn at this;rw[this]
  ·rw[au (by rw[cY];exact ik g),bc];rfl
theorem EW(hh:j_ h){x:Sd}:(fY h x).length<=3:=by have c:=hh.2.2.2.1;have:=kj (λk=>pH (d_ h x k)) (cg h.hands.length);rw[xn]at this;unfold fY;ext
theorem OH{x:Sd}(hc:vH h)(Y:i_ h x)(gx:Good h xs)(hne:no≠nd)(hso:s.length<=no)(hsd:s.length<=nd)(I:Fn s no nd xs u)
  (hq:∀u',Fn s no nd (o7 h x (fY h x) xs) u'->u'[u.length]?=some (.lst (row h x (fY h x) (o7 h x (fY h x) xs)))->(∀n,n < u.length->n≠no->n≠nd->u'[n]?=u[n]?)->Q (.ref u.length) u'):wp (jn [kD h,cw x,.ref no,.dic nd]) Q u:=by
 have hh:=hc.1;have l2:2<=fu:=iB (by ext);have wf:∀(Q:D->aZ->Prop)s,wp (jL [kD h,cw x]) Q s=Q (.ref s.length) (s++[.lst ((fY h x).map λk=>.int (k:Nat))]):=λQ s=>u5 hh Y;have G:(u++[MO.lst []]++[MO.lst ((fY h x).map λk=>.int (k:Nat))])[(u++[MO.lst []]).length]?=some (.lst ((fY h x).map λk=>.int (k:Nat))):=pE;have qf:∀Q,wp (getL (u++[MO.lst []]).length) Q (u++[MO.lst []]++[MO.lst ((fY h x).map λk=>.int (k:Nat))])=Q ((fY h x).map λk=>.int (k:Nat)) (u++[MO.lst []]++[MO.lst ((fY h x).map λk=>.int (k:Nat))]):=λQ=>e_ G
 (simp![jn];simp![jS,bx,↓wf,↓qf])
 have xu:eX u (u++[MO.lst []]++[MO.lst ((fY h x).map λk=>.int (k:Nat))]):=((eX.refl _).snoc _).snoc _;have gs:(u++[MO.lst []]++[MO.lst ((fY h x).map λk=>.int (k:Nat))])[u.length]?=some (.lst []):=pk pE;have lf:u.length < (u++[MO.lst []]).length:=by simp
 have lnd:nd < u.length:=ik I.1;have lno:no < u.length:=ik I.2.1;have f0:=I.ext xu;have k0:∀n,n < u.length->n≠no->n≠nd->(u++[MO.lst []]++[MO.lst ((fY h x).map λk=>.int (k:Nat))])[n]?=u[n]?:=λn hn _ _=>by rw[ax (by rw[aH];ext),ax hn]
 clear qf wf;generalize (u++[MO.lst []]).length=nr at G lf;generalize u++[MO.lst []]++[MO.lst ((fY h x).map λk=>.int (k:Nat))]=u0 at G gs f0 k0;refine ul (λj l v=>∃(L J:Option D),l=[some (kD h),some (cw x),some (.ref no),some (.dic nd),some (.ref u.length),L,J]/\v[nr]?=some (.lst ((fY h x).map λk=>.int (k:Nat)))/\v[u.length]?=some (.lst (row h x ((fY h x).take j) (o7 h x ((fY h x).take j) xs)))/\Fn s no nd (o7 h x ((fY h x).take j) xs) v/\∀n,n < u.length->n≠no->n≠nd->v[n]?=u[n]?) (λ_ _ _ w=>by obtain⟨_,_,_,g,_⟩:=w;exact g)
  ⟨_,_,rfl,G,gs,f0,k0⟩ (λRw3 j d l v O rt3 hd hW=>?_) (λl v hW=>?_)
 ·obtain⟨L,J,el,g1,H,f,U⟩:=hW;subst el;rw[ar]at hd;cases B:(fY h x)[j]? with
  |none=>rw[B]at hd;cases hd
  |some k=>
   rw[B]at hd;have ed:d=.int (k:Nat):=(aE hd).symm;subst ed;have g:=BR (aA B);have hj:=(ac.mp B).1;have hj3:=EW hh (x:=x);have wb:∀(Q:D->aZ->Prop)s,wp (jB [kD h,cw x,.int k]) Q s=Q (cw (kn h x k)) s:=λQ s=>Th hh Y g;have gd:=FN hh Y (λk g=>BR (fN g)) gx (ks:=(fY h x).take j);have hl2:=few hc gd.1 gd.2;have l:∀E∈(fY h x).take j,kn h x E∈o7 h x ((fY h x).take j) xs:=λE o=>Fp o;have v:=Kg (h:=h) (xs:=xs) (x:=x) B;have tk:(fY h x).take (j+1)=(fY h x).take j++[k]:=by rw[dQ,B];rfl
   have G:(row h x ((fY h x).take j) (o7 h x ((fY h x).take j) xs)).length<=3:=by unfold row;rw[ae,bX];ext
   generalize o7 h x ((fY h x).take j) xs=ys at *;simp only[↓Ef];rw[qE];simp only[↓wF,↓wA,↓wB,↓zI,↓ET,↓C8,↓Fb,↓wb,↓EF];rw[qE];refine Pw hne hso hsd f (by ext) λv2 f2 c=>?_;have q:v2[u.length]?=some (.lst (row h x ((fY h x).take j) ys)):=by rw[c _ (by ext) (by ext)];exact H
   obtain⟨b1,b2,b4⟩:=id f2;have C:=CW (y:=kn h x k) (ie ys (kn h x k)) 0;rw[aG KZ,uQ]at C;have q1:∀Q,wp (itemK nd (cw (kn h x k))) Q v2=Q (cn ((ie ys (kn h x k)).idxOf (kn h x k))) v2:=λQ=>A5 b1 (sJ _) C;simp![l2,↓q1,↓e_ q,↓nK q];obtain⟨t,et⟩:=Lg ys (kn h x k);have er:row h x ((fY h x).take j) ys++[.tup [.int (k:Nat),cn ((ie ys (kn h x k)).idxOf (kn h x k))]]=row h x ((fY h x).take (j+1)) (ie ys (kn h x k)):=by rw[tk];unfold row;rw[bc];congr 1;refine dg λE o=>?_;rw[et,HR (l E o)]
   refine⟨qM (by ext),O ⟨_,_,rfl,?_,?_,?_,λn hn h1 I=>?_⟩⟩
   ·rw[af (by ext),c _ (by ext) (by ext)];exact g1
   ·rw[au (ik q),er,v]
   ·rw[v];have c:s.length<=u.length:=by ext
    exact⟨by rw[af (by ext)];exact b1,by rw[af (by ext)];exact b2,b4.put c⟩
   ·rw[af (by ext),c n h1 I];exact U n hn h1 I
 ·obtain⟨L,J,el,g1,H,f,U⟩:=hW;subst el;rw[ae,cT]at f H;simp![];exact hq v f H U
end
open PySem (Str)
section
variable{s u:aZ}{Q:D->aZ->Prop}{h:Hs}{no nd:Nat}{xs:List Sd}{l:Loc}
theorem Uv{i:Int}:wp (u8 (.int i) .non) Q s=Q (.bl true) s:=dH rfl
def Fx(h:Hs)(lo no nd c:Nat)(ys:List Sd)(rs:List D)(u:aZ):Prop:=∀(j:Nat)(d:D),rs[j]?=some d->∃(r:Nat)(x:Sd),d=.ref r/\lo<=r/\r≠no/\r≠nd/\r≠c/\ys[j]?=some x/\u[r]?=some (.lst (row h x (fY h x) ys))/\∀k∈fY h x,kn h x k∈ys
theorem Tj{J most:Nat}(Y:vH h)(gf:s[J]?=some (.lst (((lP h.hands.length).map (lg h)).map cw)))(hm:∀i,rp h i->(d8 h i).length<=most)
  (hq:∀i no nd q rs u,rB h i->u[no]?=some (.lst ((d8 h i).map cw))->s.length<=no->u[q]?=some (.lst rs)->rs.length=i->s.length<=q->Fx h s.length no nd q (d8 h i) rs u->eX s u->Q (.tup [.ref no,.ref q]) u):wp (jo [kD h,.ref J,.int most]) Q s:=by
 have hh:=Y.1;have hn:h.hands.length=2\/h.hands.length=3:=by have:=hh.2.2.1;have:=hh.2.2.2.1;ext
 have l2:2<=fu:=iB (by ext);have lnf:=ik gf
 (simp![jo];simp![jQ,↓e_ (pk gf)])
 refine ul (λi l u=>∃(O:Option D),l=[some (kD h),some (.ref J),some (.int most),some (.dic s.length),O,none,none]/\u[J]?=some (.lst (((lP h.hands.length).map (lg h)).map cw))/\u[s.length]?=some (.dct true (pG (kQ h ((lP h.hands.length).take i)) 0))/\eX s u) (λ_ _ _ w=>by obtain⟨_,_,g,_⟩:=w;exact g)
  ⟨_,rfl,pk gf,pE,(eX.refl _).snoc _⟩ (λRw1 i d l u up1 rt1 hd L=>?_) (λl u L=>?_)
 ·obtain⟨O,el,g1,o,ex⟩:=L;subst el;rw[ar,ar]at hd;cases l:(lP h.hands.length)[i]? with
  |none=>rw[l]at hd;cases hd
  |some row=>
   rw[l]at hd;have ed:d=cw (lg h row):=(aE hd).symm;subst ed;have E:Good h (kQ h ((lP h.hands.length).take i)):=F7 hh (λr I=>fN I) ⟨lM,by simp⟩;have hl:=few Y E.1 E.2;have q:=Nf (h:=h) l;generalize kQ h ((lP h.hands.length).take i)=fs at *;have G:=Iu fs 0;have C:∀(Q:D->aZ->Prop),wp (fX (.dic s.length)) Q u=Q (cn fs.length) u:=λQ=>by rw[FJ o,G];rfl
   have B:=CW (y:=lg h row) fs 0;by_cases c:lg h row∈fs
   ·rw[aG c]at B;have g:∀v Q,wp (lH s.length (cw (lg h row)) v) Q u=Q _ u:=λv Q=>VQ o (sJ _) (qM (by ext)) B;simp![↓K_,↓uT o,↓C,↓g];refine up1 ⟨_,rfl,g1,?_,ex⟩;rw[q];unfold ie;rw[aG c];exact o
   ·rw[aC c]at B;have g:∀v Q,wp (lH s.length (cw (lg h row)) v) Q u=Q v (u.set s.length (.dct true (lG (pG fs 0) (cw (lg h row)) v))):=λv Q=>QK o (sJ _) (qM (by ext)) B;simp![↓K_,↓uT o,↓C,↓g,Lp c];refine up1 ⟨_,rfl,by rw[af (by ext)];exact g1,?_,ex.put (av _)⟩;rw[au (ik o),q];unfold ie;rw[aC c]
 ·obtain⟨O,el,g1,o,ex⟩:=L;subst el;rw[ae,ae,cT]at o;have qk:∀(Q:D->aZ->Prop),wp (ph (.dic s.length)) Q u=Q (.ref u.length) (u++[.lst ((d8 h 0).map cw)]):=λQ=>by rw[W3 o,MV];rfl
  simp![bx,↓qk];have lu:=ex.le;have f0:Fn s u.length s.length (d8 h 0) (u++[MO.lst ((d8 h 0).map cw)]++[MO.lst []]):=⟨pk (pk o),pk pE,(ex.snoc _).snoc _⟩
  have g3:(u++[MO.lst ((d8 h 0).map cw)]++[MO.lst []])[(u++[MO.lst ((d8 h 0).map cw)]).length]?=some (.lst []):=pE;have l3:u.length < (u++[MO.lst ((d8 h 0).map cw)]).length:=by simp
  have l4:=ik o;clear qk;generalize (u++[MO.lst ((d8 h 0).map cw)]).length=q at g3 l3;generalize u++[MO.lst ((d8 h 0).map cw)]++[MO.lst []]=u0 at g3 f0;generalize u.length=no at *;refine CQ (λl v=>∃(i:Nat)(rs:List D),l=[some (kD h),some (.ref J),some (.int most),some (.dic s.length),O,some (.ref no),some (.ref q)]/\rp h i/\Fn s no s.length (d8 h i) v/\v[q]?=some (.lst rs)/\rs.length=i/\Fx h s.length no s.length q (d8 h i) rs v)
   (λ(_:Loc)(v:aZ)=>match (v[q]?:Option MO) with
    |some (.lst rs)=>1000-rs.length
    |_=>0) ⟨0,[],rfl,λj U=>bn U (by ext),f0,g3,rfl,λj d hd=>by simp at hd⟩ (λRw2 l v B rt2 L=>?_)
  obtain⟨i,rs,el,go,f,H,I,st⟩:=L;subst el;obtain⟨hl,hi⟩:=DR Y go;have hmo:=hm i go;have gl:v[no]?=some (.lst ((d8 h i).map cw)):=f.2.1;simp![↓e_ gl,↓e_ H,ae];by_cases G:i < (d8 h i).length
  ·rw[aG (by ext)];have E:(d8 h i)[i]?=some (d8 h i)[i]:=ai G;have O:=(xz hh i).2 _ (bY G);have c:d8 h (i+1)=o7 h (d8 h i)[i] (fY h (d8 h i)[i]) (d8 h i):=by
    show (match (d8 h i)[i]? with
     |some x=>o7 h x (fY h x) (d8 h i)
     |none=>d8 h i)=_
    rw[E]
   obtain⟨t,g⟩:=Il (h:=h) i;generalize (d8 h i)[i]=x at E O c;have J:∀(Q:D->aZ->Prop)s,wp (cG ((d8 h i).map cw) (rs.length:Nat)) Q s=Q (cw x) s:=λQ s=>qY (by rw[ar,I,E];rfl);simp![↓Uv,↓e_ gl,↓e_ H,↓J,ae];rw[aC (by ext)]
   try simp![↓e_ gl,↓e_ H,↓J,ae]
   refine OH Y O (xz hh i) (by ext) (by ext) (av _) f λv2 f2 gv L=>?_;have l:=ik H;have C:v2[q]?=some (.lst rs):=by rw[L q l (by ext) (by ext)];exact H
   simp![↓e_ C,↓nK C];have lvo:=ik gl;have lvd:=ik f.1;refine⟨qM (by ext),B ⟨i+1,_,rfl,λj U=>?_,?_,au (ik C),by simp[I],λj d hd=>?_⟩ ?_⟩
   ·by_cases e:j=i
    ·subst e;exact G
    ·exact go j (by ext)
   ·rw[c];obtain⟨l,h,g⟩:=f2;exact⟨by rw[af (by ext)];exact l,by rw[af (by ext)];exact h,g.put (by ext)⟩
   ·by_cases U:j < rs.length
    ·rw[ax U]at hd;obtain⟨r,y,ed,H,G,C,B,q,l,h⟩:=st j d hd;refine⟨r,y,ed,H,G,C,B,?_,?_,λk o=>?_⟩
     ·rw[g,ax (ac.mp q).1];exact q
     ·rw[af (bG B),L r (ik l) G C,g,Qu h];exact l
     ·rw[g];exact cH _ (h k o)
    ·have u : j = rs.length := by have:=(ac.mp hd).1;rw[aH]at this;simp at this;ext
     subst u;rw[aS (av _),fv]at hd;cases hd;refine⟨v.length,x,rfl,by ext,by ext,by ext,by ext,?_,?_,λk o=>?_⟩
     ·rw[g,ax (by ext),I];exact E
     ·rw[af (by ext),c];exact gv
     ·rw[c];exact Fp o
   ·rw[au (ik C),H];simp only[aH,uH];ext
  ·rw[aC (by ext)];simp![l2];exact hq i _ _ _ _ _ ⟨go,by ext⟩ gl (by ext) H I (by ext) st f.2.2
theorem UF{r:Nat}(hh:j_ h)(g:u[r]?=some (.lst ((lP h.hands.length).map D.tup)))(A:List D->aZ->Prop):wp (collect (aQ 0) bN (bW jE (aw (aq 1) (aw (aq 0) bh))) (i5 r ((lP h.hands.length).map D.tup)) ((lP h.hands.length).map D.tup) [none,some (kD h)]) A u=A (((lP h.hands.length).map (lg h)).map cw) u:=by
 rw[Ba (f:=λk=>((((lP h.hands.length).map (lg h)).map cw)[k]?).getD .non) (show i5 r _ u from g) (λk d hd Q=>by
  rw[ar]at hd;cases c:(lP h.hands.length)[k]? with
  |none=>rw[c]at hd;cases hd
  |some row=>
   rw[c]at hd;have v:d=.tup row:=(aE hd).symm;subst v;have q:∀(Q:D->aZ->Prop)s,wp (jE [kD h,.tup row]) Q s=Q (cw (lg h row)) s:=λQ s=>Q4 hh (aA c);rw[ar,ar,c];simp![↓q,du,fq])]
 congr 1;rw[ae];apply fL;intro k;by_cases o:k < (lP h.hands.length).length
 ·rw[wQ o,ar,ar,ai o];rfl
 ·rw[dh (by rw[m6];ext),dh (by rw[ae,ae];ext)]
theorem O0{most:Nat}(q:vH h)(I:∀i,rp h i->(d8 h i).length<=most)
  (E:∀i no nd c rs u,rB h i->u[no]?=some (.lst ((d8 h i).map cw))->s.length<=no->u[c]?=some (.lst rs)->rs.length=i->s.length<=c->Fx h s.length no nd c (d8 h i) rs u->eX s u->Q (.tup [.ref no,.ref c]) u):wp (jD [kD h,.int most]) Q s:=by
 have hh:=q.1
 (simp![jD];simp![j9])
 refine Sh hh λr u hr g ex=>?_;have w:=λA=>UF hh g A;have C:(lP h.hands.length).length<=fu:=iB (by rw[JR];have l:=hh.2.2.1;have Y:=hh.2.2.2.1;rcases (show h.hands.length=2\/h.hands.length=3 by ext) with e|e<;>rw[e]<;>decide)
 simp![↓e_ g,ib,↓w,ae,C];refine Tj q pE I λi no nd c rs v st L H J o G B O=>?_;simp![];have l1:=ex.le;have l2:=(ex.snoc (.lst (((lP h.hands.length).map (lg h)).map cw))).le;refine E i no nd c rs v st L (by ext) J o (by ext) (λj d hd=>?_) ((ex.snoc _).trans O);obtain⟨r,x,U,e1,e⟩:=B j d hd;exact⟨r,x,U,by ext,e⟩
end
open PySem (Str)
inductive Rc(E:Nat->List (Nat×Nat)):Nat->Nat->Prop
 |refl (x:Nat):Rc E x x
 |step {x y:Nat}{p:Nat×Nat} (h:p∈E x) (r:Rc E p.2 y):Rc E x y
section
variable{E:Nat->List (Nat×Nat)}{n:Nat}{F P G:List Nat}{x y z:Nat}
theorem Rc.trans(a:Rc E x y)(b:Rc E y z):Rc E x z:=by
 induction a with
 |refl=>exact b
 |step h _ ih=>exact .step h (ih b)
theorem Rc.snoc{p:Nat×Nat}(a:Rc E x y)(h:p∈E y):Rc E x p.2:=a.trans (.step h (.refl _))
noncomputable def FO(E:Nat->List (Nat×Nat))(F:List Nat):Prop:=∀(i x:Nat),F[i]?=some x->∀a∈F.take (i+1),∀p∈E a,p.2∈F.take (i+1)\/Rc E p.2 x
structure DI(n:Nat)(E:Nat->List (Nat×Nat))(F P G:List Nat):Prop where
 nd:(F++P).Nodup
 lt:∀x∈F++P,x < n
 len:G.length=P.length
 cl:∀a∈F,∀p∈E a,p.2∈F++P
 pg:∀(j x g:Nat),P[j]?=some x->G[j]?=some g->g<=(E x).length/\∀p∈(E x).take g,p.2∈F++P
 ch:∀(i j x y:Nat),i<=j->P[i]?=some x->P[j]?=some y->Rc E x y
 fo:FO E F
theorem IQ:(F++(P++[x])).Perm (F++[x]++P):=by rw[bQ];exact List.Perm.append_left F (List.perm_append_comm)
theorem DI.fin(I:DI n E F (P++[x]) (G++[(E x).length])):DI n E (F++[x]) P G:=by
 have v:=IQ (F:=F) (P:=P) (x:=x);have u:∀y,y∈F++(P++[x])->y∈F++[x]++P:=λy l=>v.mem_iff.mp l;have H:G.length=P.length:=by have:=I.len;simp at this;exact this
 have top:(P++[x])[P.length]?=some x:=by simp
 have tg:(G++[(E x).length])[P.length]?=some (E x).length:=by rw[<- H];simp
 obtain⟨_,h⟩:=I.pg P.length x _ top tg;rw[cT]at h;have at_:∀{j y:Nat},P[j]?=some y->(P++[x])[j]?=some y:=λe=>by rw[ax (ac.mp e).1];exact e
 refine⟨v.nodup_iff.mp I.nd,λy l=>I.lt y (v.mem_iff.mpr l),H,λa c p o=>?_,λj y g l L=>?_,λi j a b B c U=>I.ch i j a b B (at_ c) (at_ U),λi y l a c p o=>?_⟩
 ·rcases aX.mp c with c|c
  ·exact u _ (I.cl a c p o)
  ·rw[aJ.mp c]at o;exact u _ (h p o)
 ·obtain⟨q,Y⟩:=I.pg j y g (at_ l) (by rw[ax (ac.mp L).1];exact L);exact⟨q,λp o=>u _ (Y p o)⟩
 ·by_cases Q:i < F.length
  ·rw[ax Q]at l;rw[gC (by ext)]at c ⊢;exact I.fo i y l a c p o
  ·have C : i = F.length := by have:=(ac.mp l).1;rw[aH]at this;simp at this;ext
   subst C;rw[aS (av _),fv]at l;cases l;rw[mX (by simp)]at c ⊢;have O:p.2∈F++(P++[x]):=by
    rcases aX.mp c with c|c
    ·exact I.cl a c p o
    ·rw[aJ.mp c]at o;exact h p o
   rcases aX.mp (u _ O) with q|q
   ·exact .inl q
   ·obtain⟨j,J⟩:=bp.mp q;exact .inr (I.ch j P.length _ x (lw (ac.mp J).1) (at_ J) top)
theorem NM{g:Nat}{p:Nat×Nat}(h:(E x)[g]?=some p):(E x).take (g+1)=(E x).take g++[p]:=by rw[dQ,h];rfl
theorem DI.old{g:Nat}{p:Nat×Nat}(I:DI n E F (P++[x]) (G++[g]))(v:(E x)[g]?=some p)(C:p.2∈F++(P++[x])):DI n E F (P++[x]) (G++[g+1]):=by
 have o:G.length=P.length:=by have:=I.len;simp at this;exact this
 refine⟨I.nd,I.lt,by simp[o],I.cl,λj y k l h=>?_,I.ch,I.fo⟩;by_cases B:j < G.length
 ·rw[ax B]at h;exact I.pg j y k l (by rw[ax B];exact h)
 ·have u : j = G.length := by have:=(ac.mp h).1;rw[aH]at this;simp at this;ext
  subst u;rw[aS (av _),fv]at h;cases h;rw[o,aS (av _),fv]at l;cases l;obtain⟨J,H⟩:=I.pg G.length x g (by rw[o];simp) (by simp);refine⟨(ac.mp v).1,λq c=>?_⟩;rw[NM v]at c;rcases aX.mp c with c|c
  ·exact H q c
  ·rw[aJ.mp c];exact C
theorem DI.new{g:Nat}{p:Nat×Nat}(I:DI n E F (P++[x]) (G++[g]))(U:(E x)[g]?=some p)(hs:p.2∉F++(P++[x]))(hn:p.2 < n):DI n E F (P++[x]++[p.2]) (G++[g+1]++[0]):=by
 have H:G.length=P.length:=by have:=I.len;simp at this;exact this
 have mo:∀{y},y∈F++(P++[x])->y∈F++(P++[x]++[p.2]):=λh=>by rw[<- bQ];exact cH _ h
 have Q:p∈E x:=aA U;have O:(P++[x])[P.length]?=some x:=by simp
 have u:(P++[x]).length=P.length+1:=by simp
 refine⟨?_,λy c=>?_,by simp[H],λa v q l=>mo (I.cl a v q l),λj y k c B=>?_,λi j a b Y v C=>?_,I.fo⟩
 ·rw[<- bQ,dN];refine⟨I.nd,by simp,λa v b C e=>?_⟩;rw[aJ]at C;subst C e;exact hs v
 ·rw[<- bQ]at c;rcases aX.mp c with c|c
  ·exact I.lt y c
  ·rw[aJ.mp c];exact hn
 ·by_cases L:j < P.length+1
  ·rw[ax (by rw[u];exact L)]at c;rw[ax (by simp[H];exact L)]at B;by_cases J:j < G.length
   ·rw[ax J]at B;obtain⟨v,h⟩:=I.pg j y k c (by rw[ax J];exact B);exact⟨v,λq l=>mo (h q l)⟩
   ·have o:j=G.length:=by ext
    subst o;rw[aS (av _),fv]at B;cases B;rw[H,O]at c;cases c;obtain⟨v,h⟩:=I.pg G.length x g (by rw[H];exact O) (by simp);refine⟨(ac.mp U).1,λq l=>?_⟩;rw[NM U]at l;rcases aX.mp l with l|l
    ·exact mo (h q l)
    ·rw[aJ.mp l];simp
  ·have o : j = P.length+1 := by have:=(ac.mp c).1;rw[aH,u]at this;simp at this;ext
   subst o;rw[aS (by simp[H])]at B;simp[H]at B;subst B;exact⟨bx _,λq l=>by simp at l⟩
 ·by_cases L:j < P.length+1
  ·rw[ax (by rw[u];ext)]at v;rw[ax (by rw[u];exact L)]at C;exact I.ch i j a b Y v C
  ·have o : j = P.length+1 := by have:=(ac.mp C).1;rw[aH,u]at this;simp at this;ext
   subst o;rw[aS (by rw[u];exact av _),u,fv]at C;cases C;by_cases g:i < P.length+1
   ·rw[ax (by rw[u];exact g)]at v;exact (I.ch i P.length a x (by ext) v O).snoc Q
   ·have c:i=P.length+1:=by ext
    subst c;rw[aS (by rw[u];exact av _),u,fv]at v;cases v;exact .refl _
theorem DI.root{r:Nat}(I:DI n E F [] [])(v:r∉F)(B:r < n):DI n E F [r] [0]:=by
 have mo:∀{y},y∈F++[]->y∈F++[r]:=λh=>by rw[bI]at h;exact cH _ h
 refine⟨?_,λy c=>?_,rfl,λa g q o=>mo (I.cl a g q o),λj y k c u=>?_,λi j a b C g l=>?_,I.fo⟩
 ·rw[dN];refine⟨by have:=I.nd;rwa [bI]at this,by simp,λa g b l e=>?_⟩;rw[aJ]at l;subst l e;exact v g
 ·rcases aX.mp c with c|c
  ·exact I.lt y (cH _ c)
  ·rw[aJ.mp c];exact B
 ·match j,c,u with
  |0,c,u=>cases u;exact⟨bx _,λq o=>by simp at o⟩
  |j+1,c,_=>simp at c
 ·match i,j,g,l with
  |0,0,g,l=>cases g;cases l;exact .refl _
  |0,j+1,_,l=>simp at l
  |i+1,_,g,_=>simp at g
theorem DI.nil:DI n E [] [] []:=⟨by simp,by simp,rfl,by simp,by simp,by simp,λi x h=>by simp at h⟩
noncomputable def xr(E:Nat->List (Nat×Nat))(F G:List Nat):Nat:=F.length+(F.map λa=>(E a).length).sum+G.sum
theorem Nz{f:Nat->Nat}:∀{F:List Nat},(∀a∈F,f a<=3)->(F.map f).sum<=3*F.length
 |[],_=>by simp
 |a::F,h=>by have l:=h a (by simp);have g:=Nz (F:=F) λb c=>h b (by simp[c]);simp only[aK,gL,bC];ext
theorem Mz:∀{G:List Nat},(∀g∈G,g<=3)->G.sum<=3*G.length
 |[],_=>by simp
 |a::G,h=>by have o:=h a (by simp);have l:=Mz (G:=G) λb c=>h b (by simp[c]);simp only[gL,bC];ext
theorem DI.prg_le(I:DI n E F P G)(few:∀i,i < n->(E i).length<=3):xr E F G<=7*n:=by
 have q:=D4 n (F++P) I.nd I.lt;rw[aH]at q;have v:=Nz (F:=F) (f:=λa=>(E a).length) λa o=>few a (I.lt a (cH _ o));have u:=Mz (G:=G) λg l=>by
  obtain⟨j,h⟩:=bp.mp l;have c:j < P.length:=by rw[<- I.len];exact (ac.mp h).1
  have:=(I.pg j _ g (ai c) h).1;have:=few P[j] (I.lt _ (bo _ (bY c)));ext
 have:=I.len;unfold xr;ext
end
open PySem (Str)
section
variable{s u s0:aZ}{Q:D->aZ->Prop}{l:Loc}{E:Nat->List (Nat×Nat)}{n ns dr no root:Nat}{F P G:List Nat}
noncomputable def zT(p:Nat×Nat):D:=.tup [.int (p.1:Nat),.int (p.2:Nat)]
noncomputable def gR(x:Nat):D:=.int (x:Nat)
structure wE(n:Nat)(E:Nat->List (Nat×Nat))(ns:Nat)(u:aZ):Prop where
 at_:∃rs:List Nat,u[ns]?=some (.lst (rs.map .ref))/\rs.length=n/\∀(i r:Nat),rs[i]?=some r->u[r]?=some (.lst ((E i).map zT))
 wf:∀i,i < n->∀p∈E i,p.2 < n
 few:∀i,i < n->(E i).length<=3
theorem wE.ext(g:wE n E ns s)(x:eX s u):wE n E ns u:=by obtain⟨⟨rs,B,v,q⟩,o,h⟩:=g;exact⟨⟨rs,x.at_ B,v,λi r c=>x.at_ (q i r c)⟩,o,h⟩
theorem wE.row(g:wE n E ns u){i:Nat}(v:i < n):∃(rs:List Nat)(r:Nat),(∀Q,wp (getL ns) Q u=Q (rs.map .ref) u)/\(∀(Q:D->aZ->Prop)s,wp (cG (rs.map D.ref) ((i:Nat):Int)) Q s=Q (.ref r) s)/\u[r]?=some (.lst ((E i).map zT))/\rs.length=n:=by
 obtain⟨⟨rs,q,o,h⟩,C,B⟩:=g;have c:i < rs.length:=by ext
 exact⟨rs,rs[i],λQ=>e_ q,λQ s=>qY (by rw[ar,ai c];rfl),h i _ (ai c),o⟩
theorem IH{ds:List D}{d:D}:wp (cG (ds++[d]) (-1)) Q s=Q d s:=by
 have e:cG (ds++[d]) (-1)=ret d:=by
  unfold cG;have:MM.my (ds++[d]).length (-1)=some ds.length:=by unfold MM.my;rw[aC (by ext),aG (by simp;ext)];simp;ext
  rw[this];dsimp only;rw[aS (av _),fv];rfl
 rw[e,cL]
theorem Sn{k:Nat}:MM.my (k+1) (-1)=some k:=by unfold MM.my;rw[aC (by ext),aG (by simp;ext)];simp;ext
theorem UM{ds:List D}{d e:D}:(ds++[d]).set ds.length e=ds++[e]:=by rw[uM _ _ (av _),fv];rfl
theorem RV{H I J:CE}{R:r9->aZ->Prop}: wp (tx H I J l) R s=wp (H l) (λo C=>wp (I l) (λi B=>match o,i with
  | .ref n,.int k=>wp (getL n) (λds v=>wp (cG ds k) (λx q=>wp (J l) (λy h=>wp (A2 x y) (λz g=>wp (iI (.ref n) (.int k) z) (λ_ c=>R (.next l) c) g) h) q) v) B
  |_,_=>False) C) s:=by
 unfold tx;rw[d0];congr 1;funext o C;rw[d0];congr 1;funext i B;cases o with
 |ref n=>
  cases i with
  |int k=>
   rw[d0];congr 1;funext ds v;rw[d0];congr 1;funext x q;rw[d0];congr 1;funext y h;rw[d0];congr 1;funext z g;rw[d0];congr 1;funext z c;rw[cL]
  |_=>exact iJ
 |_=>exact iJ
theorem PQ{i j:Int}:wp (A2 (.int i) (.int j)) Q s=Q (.int (i+j)) s:=dH rfl
theorem KU{f:Nat->D}{i:Nat}{v:D}(g:i < n):(br n f).set i v=br n λj=>if j=i then v else f j:=by
 apply fL;intro k;by_cases c:k < n
 ·rw[wQ c];by_cases e:k=i
  ·subst e;rw[au (by rw[m6];exact c),aG rfl]
  ·rw[af (bG e),wQ c,aC e]
 ·rw[dh (by rw[cY,m6];ext),dh (by rw[m6];ext)]
theorem FX{k i:Nat}(h:i < k):MM.my k ((i:Nat):Int)=some i:=by unfold MM.my;rw[aG (by ext),aG (by ext)];simp
def seen(n:Nat)(S:List Nat):List D:=br n λi=>.bl (decide (i∈S))
theorem Gn{S:List Nat}{i:Nat}(c:i < n):(seen n S).set i (.bl true)=seen n (S++[i]):=by
 unfold seen;rw[KU c];congr 1;funext j;by_cases e:j=i
 ·subst e;simp
 ·simp[e]
theorem UQ{S T:List Nat}(h:∀i,i∈S↔i∈T):seen n S=seen n T:=by unfold seen;congr 1;funext j;simp[h j]
theorem Jt{S:List Nat}{i:Nat}(c:i < n):wp (cG (seen n S) ((i:Nat):Int)) Q s=Q (.bl (decide (i∈S))) s:=xW c
noncomputable def A6(E:Nat->List (Nat×Nat)):D->Nat
 | .int i=>(E i.toNat).length
 |_=>0
noncomputable def Bu:D->Nat
 | .int i=>i.toNat
 |_=>0
theorem BY:(F.map gR).length+((F.map gR).map (A6 E)).sum+((G.map gR).map Bu).sum=xr E F G:=by
 have g:(F.map gR).map (A6 E)=F.map λa=>(E a).length:=by rw[dD];exact dg λa _=>rfl
 have c:(G.map gR).map Bu=G:=by rw[dD];exact (dg λa _=>rfl).trans (List.map_id G)
 unfold xr;rw[g,c,ae]
theorem W1(g:wE n E ns s0)(x0:eX s0 s)(hs:s[dr]?=some (.lst (seen n F)))(ho:s[no]?=some (.lst (F.map gR)))(l1:s0.length<=dr)(l2:s0.length<=no)(hne:dr≠no)(I:DI n E F [] [])(hr:root < n)(hrF:root∉F)(hn:n<=400)
  (hq:∀c u,DI n E c [] []->(∀x∈F,x∈c)->root∈c->u[dr]?=some (.lst (seen n c))->u[no]?=some (.lst (c.map gR))->eX s0 u->(∀k,k < s.length->k≠dr->k≠no->u[k]?=s[k]?)->Q .non u):
  wp (jl [.ref ns,.int (root:Nat),.ref dr,.ref no]) Q s:=by
 have c1:1<=fu:=iB (by ext);have ls:=ik hs;have lo:=ik ho;have q0:∀Q,wp (getL dr) Q s=Q (seen n F) s:=λQ=>e_ hs;have ix:MM.my (seen n F).length ((root:Nat):Int)=some root:=by unfold seen;rw[m6];exact FX hr
 have q1:∀es Q,wp (putL dr es) Q s=Q () (s.set dr (.lst es)):=λes Q=>nK hs
 (simp![jl];simp![jP,↓q0,ix,↓q1,c1,Gn hr])
 have e0:(s.set dr (MO.lst (seen n (F++[root])))).length=s.length:=cY;rw[e0];have a1:(s.set dr (MO.lst (seen n (F++[root])))++[MO.lst [.int (root:Nat)]]++[MO.lst [.int 0]])[dr]?=some (.lst (seen n (F++[root]))):=pk (pk (au ls));have a2:(s.set dr (MO.lst (seen n (F++[root])))++[MO.lst [.int (root:Nat)]]++[MO.lst [.int 0]])[no]?=some (.lst (F.map gR)):=pk (pk (by rw[af hne];exact ho));have a3:(s.set dr (MO.lst (seen n (F++[root])))++[MO.lst [.int (root:Nat)]]++[MO.lst [.int 0]])[s.length]?=some (.lst [.int (root:Nat)]):=pk (by rw[<- e0];exact pE);have a4:(s.set dr (MO.lst (seen n (F++[root])))++[MO.lst [.int (root:Nat)]]++[MO.lst [.int 0]])[s.length+1]?=some (.lst [.int 0]):=by
  have:s.length+1=(s.set dr (MO.lst (seen n (F++[root])))++[MO.lst [.int (root:Nat)]]).length:=by rw[aH,e0];rfl
  rw[this];exact pE
 have a5:eX s0 (s.set dr (MO.lst (seen n (F++[root])))++[MO.lst [.int (root:Nat)]]++[MO.lst [.int 0]]):=((x0.put l1).snoc _).snoc _;have a6:∀k,k < s.length->k≠dr->k≠no->(s.set dr (MO.lst (seen n (F++[root])))++[MO.lst [.int (root:Nat)]]++[MO.lst [.int 0]])[k]?=s[k]?:=λk L B _=>by rw[ax (by rw[aH,e0];ext),ax (by rw[e0];exact L),af (bG B)]
 have e1:(s.set dr (MO.lst (seen n (F++[root])))++[MO.lst [.int (root:Nat)]]).length=s.length+1:=by rw[aH,e0];rfl
 try rw[e1]
 clear q0 q1;generalize s.set dr (MO.lst (seen n (F++[root])))++[MO.lst [.int (root:Nat)]]++[MO.lst [.int 0]]=s1 at *;refine CQ (λl v=>∃(c P G:List Nat)(y6 y7:Option D),l=[some (.ref ns),some (.int (root:Nat)),some (.ref dr),some (.ref no),some (.ref s.length),some (.ref (s.length+1)),y6,y7]/\DI n E c P G/\(∀x∈F++[root],x∈c++P)/\v[dr]?=some (.lst (seen n (c++P)))/\v[no]?=some (.lst (c.map gR))/\v[s.length]?=some (.lst (P.map gR))/\v[s.length+1]?=some (.lst (G.map gR))/\eX s0 v/\∀k,k < s.length->k≠dr->k≠no->v[k]?=s[k]?)
  (λ(_:Loc)(v:aZ)=>match (v[no]?:Option MO),(v[s.length+1]?:Option MO) with
   |some (.lst os),some (.lst gs)=>10000-(os.length+(os.map (A6 E)).sum+(gs.map Bu).sum)
   |_,_=>0) ⟨F,[root],[0],_,_,rfl,I.root hrF hr,λx U=>U,a1,a2,a3,a4,a5,a6⟩ (λRw1 l v up1 rt1 hW=>?_)
 obtain⟨c,P,G,y6,y7,el,J,hin,b1,b2,b3,b4,b5,b6⟩:=hW;subst el;simp![↓e_ b3,ae];have C:=D4 n (c++P) J.nd J.lt;rw[aH]at C;rcases uR P with e|⟨q,x,e⟩
 ·subst e;have eG:G=[]:=mQ.mp J.len;subst eG;rw[aC (by simp)];rw[bI]at b1;have g:∀x∈F++[root],x∈c:=λx U=>by have:=hin x U;rwa [bI]at this
  exact hq c v J (λx U=>g x (cH _ U)) (g root (by simp)) b1 b2 b5 b6
 ·rw[uS]at e;subst e;obtain⟨h,gl,eG⟩:∃h gl,G=h++[gl]:=by
   rcases uR G with z|⟨h,gl,z⟩
   ·have:=J.len;rw[z]at this;simp at this
   ·exact⟨h,gl,by rw[z,uS]⟩
  subst eG;have hl:h.length=q.length:=by have:=J.len;simp at this;exact this
  have U:x < n:=J.lt x (by simp);rw[aG (by simp)];obtain⟨rs,r,qg,qi,gr,hrs⟩:=(g.ext b5).row U;have pm:(q++[x]).map gR=q.map gR++[.int (x:Nat)]:=by rw[bc];rfl
  have gm:(h++[gl]).map gR=h.map gR++[.int (gl:Nat)]:=by rw[bc];rfl
  have qG:∀Q,wp (getL (s.length+1)) Q v=Q (h.map gR++[.int (gl:Nat)]) v:=λQ=>by rw[<- gm];exact e_ b4
  have qP:∀Q,wp (getL s.length) Q v=Q (q.map gR++[.int (x:Nat)]) v:=λQ=>by rw[<- pm];exact e_ b3
  have few:=(g.few x U)
  obtain⟨pg1,pg2⟩:=J.pg q.length x gl (by simp) (by rw[<- hl];simp);have hF:c.length<=400:=by ext
  have pr:=J.prg_le g.few;rw[pm,IH];simp![↓qP,↓IH,↓qG,↓qg,↓qi,↓e_ gr,ae];have nP:no≠s.length:=by ext
  have nG:no≠s.length+1:=by ext
  have eP:dr≠s.length:=by ext
  have l:dr≠s.length+1:=by ext
  have kk:s.length≠s.length+1:=by ext
  have ls0:=x0.le;by_cases hg:gl=(E x).length
  ·rw[aG (by ext),e_ b2];rw[nK b2];refine⟨qM (by rw[ae];ext),?_⟩;have d3:(v.set no (MO.lst (c.map gR++[.int (x:Nat)])))[s.length]?=some (.lst (q.map gR++[.int (x:Nat)])):=by rw[af nP,<- pm];exact b3
   have u:(v.set no (MO.lst (c.map gR++[.int (x:Nat)])))[s.length+1]?=some (.lst (h.map gR++[.int (gl:Nat)])):=by rw[af nG,<- gm];exact b4
   have I:(v.set no (MO.lst (c.map gR++[.int (x:Nat)])))[dr]?=some (.lst (seen n (c++(q++[x])))):=by rw[af (bG hne)];exact b1
   have d2:(v.set no (MO.lst (c.map gR++[.int (x:Nat)])))[no]?=some (.lst ((c++[x]).map gR)):=by rw[au (ik b2),bc];rfl
   have d5:eX s0 (v.set no (MO.lst (c.map gR++[.int (x:Nat)]))):=b5.put l2;have d6:∀k,k < s.length->k≠dr->k≠no->(v.set no (MO.lst (c.map gR++[.int (x:Nat)])))[k]?=s[k]?:=λk L B O=>by rw[af (bG O)];exact b6 k L B O
   generalize v.set no (MO.lst (c.map gR++[.int (x:Nat)]))=v1 at *;have o:(v1.set s.length (MO.lst (q.map gR)))[s.length+1]?=some (.lst (h.map gR++[.int (gl:Nat)])):=by rw[af kk];exact u
   simp![↓e_ d3,↓nK d3,↓e_ o,↓nK o,List.getLast?_concat,List.dropLast_concat];rw[hg]at J;have J2:=J.fin;refine up1 ⟨c++[x],q,h,_,_,rfl,J2,λy hy=>?_,?_,?_,?_,au (by rw[cY];exact ik u),(d5.put (by ext)).put (by ext),λk L B O=>?_⟩ ?_
   ·exact IQ.mem_iff.mp (hin y hy)
   ·rw[af (bG l),af (bG eP),I,UQ λi=>IQ.mem_iff]
   ·rw[af (bG nG),af (bG nP)];exact d2
   ·rw[af (bG kk),au (ik d3)]
   ·rw[af (by ext),af (by ext)];exact d6 k L B O
   ·rw[af (bG nG),af (bG nP),d2,au (by rw[cY];exact ik u),b2,b4];dsimp only;rw[BY,BY];have B:=J2.prg_le g.few;have O:xr E (c++[x]) h=xr E c (h++[gl])+1:=by unfold xr;simp only[aH,bc,kL,aK,mT,gL,pR,bC,gI];ext
    ext
  ·rw[aC (by ext)];have hgl:gl < (E x).length:=by ext
   obtain⟨p,hp⟩:∃p,(E x)[gl]?=some p:=⟨_,ai hgl⟩
   have Y:p.2 < n:=g.wf x U p (aA hp);have qe:∀(Q:D->aZ->Prop)s,wp (cG ((E x).map zT) ((gl:Nat):Int)) Q s=Q (.tup [.int (p.1:Nat),.int (p.2:Nat)]) s:=λQ s=>qY (by rw[ar,hp];rfl);have ixG:MM.my (h.map gR++[D.int (gl:Nat)]).length (-1)=some h.length:=by rw[aH,ae];exact Sn
   simp![↓RV,↓PQ,↓qg,↓qi,↓e_ gr,↓qG,↓IH,↓qe,↓nK b4,ixG];have G:(h.map gR++[D.int (gl:Nat)]).set h.length (.int ((gl:Nat)+1))=(h++[gl+1]).map gR:=by
    rw[bc];have:h.length=(h.map gR).length:=by rw[ae]
    rw[this,UM];rfl
   rw[G];have I:(v.set (s.length+1) (MO.lst ((h++[gl+1]).map gR)))[dr]?=some (.lst (seen n (c++(q++[x])))):=by rw[af (bG l)];exact b1
   have d2:(v.set (s.length+1) (MO.lst ((h++[gl+1]).map gR)))[no]?=some (.lst (c.map gR)):=by rw[af (bG nG)];exact b2
   have d3:(v.set (s.length+1) (MO.lst ((h++[gl+1]).map gR)))[s.length]?=some (.lst ((q++[x]).map gR)):=by rw[af (bG kk)];exact b3
   have u:(v.set (s.length+1) (MO.lst ((h++[gl+1]).map gR)))[s.length+1]?=some (.lst ((h++[gl+1]).map gR)):=au (ik b4);have d5:eX s0 (v.set (s.length+1) (MO.lst ((h++[gl+1]).map gR))):=b5.put (by ext);have d6:∀k,k < s.length->k≠dr->k≠no->(v.set (s.length+1) (MO.lst ((h++[gl+1]).map gR)))[k]?=s[k]?:=λk L B O=>by rw[af (by ext)];exact b6 k L B O
   have mu:∀H:List Nat,H.sum=gl+1+h.sum->xr E c H=xr E c (h++[gl])+1:=λH hH=>by unfold xr;rw[hH];simp only[kL,gL,pR];ext
   generalize v.set (s.length+1) (MO.lst ((h++[gl+1]).map gR))=v1 at *;have q2:∀(Q:D->aZ->Prop)s,wp (cG (seen n (c++(q++[x]))) ((p.2:Nat):Int)) Q s=Q (.bl (decide (p.2∈c++(q++[x])))) s:=λQ s=>Jt Y;simp![↓e_ I,↓q2];by_cases hm:p.2∈c++(q++[x])
   ·rw[bB hm];simp![cU,aL,if_false];refine up1 ⟨c,q++[x],h++[gl+1],_,_,rfl,J.old hp hm,hin,I,d2,d3,u,d5,d6⟩ ?_;rw[d2,u,b2,b4];dsimp only;rw[BY,BY];have B:=(J.old hp hm).prg_le g.few;have:=mu (h++[gl+1]) (by simp only[kL,gL,pR];ext);ext
   ·rw[aR hm];have G:MM.my (seen n (c++(q++[x]))).length ((p.2:Nat):Int)=some p.2:=by unfold seen;rw[m6];exact FX Y
    simp![h9,if_true,↓e_ I,G,↓nK I,Gn Y];have f1:(v1.set dr (MO.lst (seen n (c++(q++[x])++[p.2]))))[dr]?=some (.lst (seen n (c++(q++[x]++[p.2])))):=by rw[au (ik I),bQ]
    have f2:(v1.set dr (MO.lst (seen n (c++(q++[x])++[p.2]))))[no]?=some (.lst (c.map gR)):=by rw[af hne];exact d2
    have U:(v1.set dr (MO.lst (seen n (c++(q++[x])++[p.2]))))[s.length]?=some (.lst ((q++[x]).map gR)):=by rw[af eP];exact d3
    have H:(v1.set dr (MO.lst (seen n (c++(q++[x])++[p.2]))))[s.length+1]?=some (.lst ((h++[gl+1]).map gR)):=by rw[af l];exact u
    have f5:eX s0 (v1.set dr (MO.lst (seen n (c++(q++[x])++[p.2])))):=d5.put l1;have f6:∀k,k < s.length->k≠dr->k≠no->(v1.set dr (MO.lst (seen n (c++(q++[x])++[p.2]))))[k]?=s[k]?:=λk L B O=>by rw[af (bG B)];exact d6 k L B O
    generalize v1.set dr (MO.lst (seen n (c++(q++[x])++[p.2])))=v2 at *;have E:∀o,(v2.set s.length o)[s.length+1]?=some (.lst ((h++[gl+1]).map gR)):=λo=>by rw[af kk];exact H
    have r3:∀o Q,wp (getL (s.length+1)) Q (v2.set s.length o)=Q ((h++[gl+1]).map gR) (v2.set s.length o):=λo Q=>e_ (E o);have r4:∀o es Q,wp (putL (s.length+1) es) Q (v2.set s.length o)=Q () ((v2.set s.length o).set (s.length+1) (.lst es)):=λo es Q=>nK (E o);simp![↓e_ U,↓nK U,↓r3,↓r4];have J2:=J.new hp hm Y;have v:(q++[x]).length<=400:=by rw[aH]at C ⊢;simp at C ⊢;ext
    have hl3:(h++[gl+1]).length<=400:=by rw[aH]at v ⊢;simp at v ⊢;ext
    have eP2:(q++[x]).map gR++[D.int (p.2:Nat)]=(q++[x]++[p.2]).map gR:=by rw[bc (l₂:=[p.2])];rfl
    have eG3:(h++[gl+1]).map gR++[D.int 0]=(h++[gl+1]++[0]).map gR:=by rw[bc (l₂:=[0])];rfl
    rw[eP2,eG3];refine⟨qM (by rw[ae];ext),qM (by rw[ae];ext),up1 ⟨c,q++[x]++[p.2],h++[gl+1]++[0],_,_,rfl,J2,λy hy=>?_,?_,?_,?_,au (by rw[cY];exact ik H),(f5.put (by ext)).put (by ext),λk L B O=>?_⟩ ?_⟩
    ·have:=hin y hy;rw[<- bQ];exact cH _ this
    ·rw[af (bG l),af (bG eP)];exact f1
    ·rw[af (bG nG),af (bG nP)];exact f2
    ·rw[af (bG kk),au (ik U)]
    ·rw[af (by ext),af (by ext)];exact f6 k L B O
    ·rw[af (bG nG),af (bG nP),f2,au (by rw[cY];exact ik H),b2,b4];dsimp only;rw[BY,BY];have B:=J2.prg_le g.few;have:=mu (h++[gl+1]++[0]) (by simp only[kL,gL,pR];ext);ext
end
open PySem (Str)
section
variable{s u s0:aZ}{Q:D->aZ->Prop}{l:Loc}{E:Nat->List (Nat×Nat)}{n ns dr no root:Nat}{F P G:List Nat}
theorem LF:(br n λ_=>D.bl false)=seen n []:=by unfold seen;congr 1
theorem WT:kN 0 n=br n λk=>.int (k:Nat):=by unfold kN br;exact dg λk _=>by rw[Int.zero_add]
theorem TX(g:wE n E ns s)(hn:n<=400)(hq:∀F r u,DI n E F [] []->(∀x,x < n->x∈F)->u[r]?=some (.lst (F.map gR))->s.length<=r->eX s u->Q (.ref r) u):wp (jk [.ref ns]) Q s:=by
 obtain⟨rs,h,c,h3⟩:=id g.at_;have q0:∀o Q,wp (getL ns) Q (s++[o])=Q (rs.map .ref) (s++[o]):=λo Q=>e_ (pk h);have w:∀o(A:List D->aZ->Prop),wp (collect (aQ 0) bN (aM (.bl false)) (i5 ns (rs.map D.ref)) (rs.map D.ref) [none]) A (s++[o])=A (seen n []) (s++[o]):=λo A=>by rw[Ba (f:=λ_=>.bl false) (show i5 ns _ _ from pk h) (λk d hd Q=>by simp![]),ae,c,LF]
 have c1:n<=fu:=iB (by ext)
 (simp![jk];simp![jK,bx,↓q0,ib,↓w,ae,c,c1])
 have q1:∀o o' Q,wp (getL ns) Q (s++[o]++[o'])=Q (rs.map .ref) (s++[o]++[o']):=λo o' Q=>e_ (pk (pk h));rw[q1];have en:((rs.map D.ref).length:Int).toNat=n:=by rw[ae,c];simp
 refine⟨by rw[ae,c];exact⟨by ext,by ext⟩,?_⟩;rw[en,WT];have G:(s++[MO.lst []]).length=s.length+1:=by simp
 rw[G];have a1:(s++[MO.lst []]++[MO.lst (seen n [])])[s.length+1]?=some (.lst (seen n [])):=by rw[<- G];exact pE
 have a2:(s++[MO.lst []]++[MO.lst (seen n [])])[s.length]?=some (.lst (([]:List Nat).map gR)):=pk pE;have a3:eX s (s++[MO.lst []]++[MO.lst (seen n [])]):=((eX.refl _).snoc _).snoc _;generalize s++[MO.lst []]++[MO.lst (seen n [])]=s1 at *;refine NQ (λi l v=>∃(F:List Nat)(L:Option D),l=[some (.ref ns),some (.ref s.length),some (.ref (s.length+1)),L]/\DI n E F [] []/\(∀x,x < i->x∈F)/\v[s.length+1]?=some (.lst (seen n F))/\v[s.length]?=some (.lst (F.map gR))/\eX s v) (λ_ _ _ _=>t9)
  ⟨[],_,rfl,DI.nil,λx O=>bn O (by ext),a1,a2,a3⟩ (λi l v Y U=>?_) (λl v U=>?_)
 ·obtain⟨F,L,el,J,B,I,H,C⟩:=U;subst el;have l:∀(Q:D->aZ->Prop)s,wp (cG (seen n F) ((i:Nat):Int)) Q s=Q (.bl (decide (i∈F))) s:=λQ s=>Jt Y;simp![↓e_ I,↓l];by_cases q:i∈F
  ·rw[bB q];simp![cU,aL,if_false];refine⟨F,_,rfl,J,λx O=>?_,I,H,C⟩;by_cases e:x=i
   ·subst e;exact q
   ·exact B x (by ext)
  ·rw[aR q];simp![h9,if_true];refine W1 g C I H (by ext) (av _) (by ext) J Y q hn λE u v h c c1 c2 o G=>?_;simp![];refine⟨E,_,rfl,v,λx O=>?_,c1,c2,o⟩;by_cases e:x=i
   ·subst e;exact c
   ·exact h x (B x (by ext))
 ·obtain⟨F,L,el,J,B,I,H,C⟩:=U;subst el;simp![];exact hq F _ v J B H (av _) C
end
open PySem (Str)
section
variable{s u s0:aZ}{Q:D->aZ->Prop}{l:Loc}{E:Nat->List (Nat×Nat)}{n ns no nd lo:Nat}{h:Hs}{ys:List Sd}{rs:List D}
def eF(h:Hs)(ys:List Sd)(i:Nat):List (Nat×Nat):=match ys[i]? with
 |some x=>(fY h x).map λk=>(k,ys.idxOf (kn h x k))
 |none=>[]
theorem Mf:∀{rs:List D},(∀d∈rs,∃r,d=.ref r)->∃c:List Nat,rs=c.map .ref
 |[],_=>⟨[],rfl⟩
 |d::rs,hh=>by obtain⟨r,rfl⟩:=hh d (by simp);obtain⟨c,rfl⟩:=Mf (rs:=rs) λd hd=>hh d (by simp[hd]);exact⟨r::c,rfl⟩
theorem QM(hh:j_ h)(L:u[ns]?=some (.lst rs))(G:rs.length=ys.length)(B:Fx h lo no nd ns ys rs u):wE ys.length (eF h ys) ns u:=by
 obtain⟨C,rfl⟩:=Mf (rs:=rs) λd hd=>by obtain⟨j,J⟩:=bp.mp hd;obtain⟨r,_,e,_⟩:=B j d J;exact⟨r,e⟩
 rw[ae]at G;have at_:∀(i r:Nat),C[i]?=some r->∃x,ys[i]?=some x/\u[r]?=some (.lst (row h x (fY h x) ys))/\∀k∈fY h x,kn h x k∈ys:=λi r g=>by obtain⟨O,x,e,_,_,_,_,c,v,q⟩:=B i (.ref r) (by rw[ar,g];rfl);cases e;exact⟨x,c,v,q⟩
 refine⟨⟨C,L,G,λi r g=>?_⟩,λi H p o=>?_,λi H=>?_⟩
 ·obtain⟨x,c,v,_⟩:=at_ i r g;rw[v];unfold eF row;rw[c,dD];rfl
 ·obtain⟨x,c,_,q⟩:=at_ i _ (ai (by ext));unfold eF at o;rw[c]at o;obtain⟨k,I,rfl⟩:=bU.mp o;exact ce.mpr (q k I)
 ·unfold eF;rw[ai H];dsimp only;rw[ae];exact EW hh
theorem LA{i:Nat}(st:rB h i):(d8 h i).length=i:=by
 have c:=st.2;refine Nat.le_antisymm c ?_;rcases Nat.eq_zero_or_pos i with e|e
 ·ext
 ·have o:=st.1 (i-1) (by ext);have g:=FW (h:=h) (i:=i-1) (j:=i) (by ext);ext
end
open PySem (Str)
def gN(R:List Sd)(f:Sd->D):List (D×D):=R.map λx=>(cw x,f x)
noncomputable def u_(f:Sd->D)(x:Sd)(v:D):Sd->D:=λy=>if y=x then v else f y
theorem B6{R:List Sd}{f:Sd->D}{x:Sd}:lV (gN R f) (cw x)=if x∈R then some (f x) else none:=by
 unfold lV gN
 induction R with
 |nil=>rfl
 |cons y R ih=>
  rw[aK,cE];dsimp only;rw[B7];by_cases e:y=x
  ·subst e;rw[bB rfl,aG cK];rfl
  ·rw[aR e];dsimp only;rw[ih];by_cases c:x∈R
   ·rw[aG c,aG (bw _ c)]
   ·rw[aC c,aC λh=>c ((aP.mp h).resolve_left (bG e))]
theorem FS{R:List Sd}{f:Sd->D}{x:Sd}{v:D}:lG (gN R f) (cw x) v=gN (if x∈R then R else R++[x]) (u_ f x v):=by
 have g:((gN R f).any λp=>oJ p.1 (cw x))=decide (x∈R):=by
  unfold gN;rw[List.any_map];apply yY.mpr;rw[xS,decide_eq_true_iff];constructor
  ·rintro ⟨y,c,e⟩
   have e:decide (y=x)=true:=by rw[<- B7];exact e
   rw[<- of_decide_eq_true e];exact c
  ·intro h;exact⟨x,h,by show oJ (cw x) (cw x)=true;rw[B7,bB rfl]⟩
 unfold lG;rw[g];by_cases h:x∈R
 ·rw[aG (bB h),aG h];unfold gN;rw[dD];apply dg;intro y c
  show (if oJ (cw y) (cw x)=true then (cw y,v) else (cw y,f y))=_;rw[B7];unfold u_;by_cases e:y=x
  ·rw[aG (bB e),aG e]
  ·rw[aC (by rw[aR e];simp),aC e]
 ·rw[aC (by rw[aR h];simp),aC h];unfold gN;rw[bc];congr 1
  ·apply dg;intro y c;unfold u_;rw[aC (λe:y=x=>h (by rw[<- e];exact c))]
  ·show [(cw x,v)]=[(cw x,u_ f x v x)]
   unfold u_;rw[aG rfl]
theorem FA{ys:List Sd}{x:Sd}{i k:Nat}(l:ys.Nodup)(h:ys[i]?=some x)(o:x∈ys.take k):i < k:=by
 obtain⟨j,g⟩:=bp.mp o;have c:j < k:=by have:=(ac.mp g).1;rw[bX]at this;ext
 rw[cZ c]at g;have:=(fM (ac.mp h).1 l).mp (h.trans g.symm);ext
theorem BA{R:List Sd}{f:Sd->D}:(gN R f).length=R.length:=by unfold gN;rw[ae]
section
variable{s u:aZ}{Q:D->aZ->Prop}{l:Loc}{h:Hs}{ys zs:List Sd}
theorem NO(hh:j_ h):∀(m:Nat),rp h m->∀(j:Nat)(x:Sd),j < m->(d8 h m)[j]?=some x->∀k∈fY h x,kn h x k∈d8 h m
 |0,_,j,x,v,_,k,_=>by ext
 |m+1,go,j,x,v,hx,k,hk=>by
  obtain⟨t,B⟩:=Il (h:=h) m;have o:=go m (by ext);have g:(d8 h m)[m]?=some (d8 h m)[m]:=ai o;have C:d8 h (m+1)=o7 h (d8 h m)[m] (fY h (d8 h m)[m]) (d8 h m):=by
   show (match (d8 h m)[m]? with
    |some x=>o7 h x (fY h x) (d8 h m)
    |none=>d8 h m)=_
   rw[g]
  have q:j < (d8 h m).length:=by ext
  have c:(d8 h m)[j]?=some x:=by rw[B,ax q]at hx;exact hx
  by_cases e:j=m
  ·subst e;have:x=(d8 h j)[j]:=aE (c.symm.trans g);subst this;rw[C];exact Fp hk
  ·rw[B];exact cH _ (NO hh m (λj v=>go j (by ext)) j x (by ext) c k hk)
theorem KC{i:Nat}(hh:j_ h)(st:rB h i){x:Sd}(g:x∈d8 h i){k:Nat}(o:k∈fY h x):kn h x k∈d8 h i:=by obtain⟨j,c⟩:=bp.mp g;have:=(ac.mp c).1;have:=LA st;exact NO hh i st.1 j x (by ext) c k o
def zx(h:Hs)(x:Sd):List D:=(fY h x).map λk=>.tup [.int (k:Nat),cw (kn h x k)]
def HU(h:Hs)(lo:Nat)(zs:List Sd)(g:Nat)(u:aZ):Prop:=∃c:Sd->Nat,u[g]?=some (.dct true (gN zs λx=>.ref (c x)))/\∀x∈zs,lo<=c x/\c x≠g/\u[c x]?=some (.lst (zx h x))
theorem Sz{B:Nat}(hh:j_ h)(J:s[B]?=some (.lst (ys.map cw)))(nd:ys.Nodup)(ok:∀x∈ys,i_ h x)(hl:ys.length<=324)
  (hq:∀u,HU h s.length ys s.length u->eX s u->Q (.dic s.length) u):wp (jx [kD h,.ref B]) Q s:=by
 have l2:2<=fu:=iB (by ext);have ly:=ik J;have q0:∀Q,wp (getL B) Q (s++[MO.dct true []])=Q (ys.map cw) (s++[MO.dct true []]):=λQ=>e_ (pk J)
 (simp![jx];simp![jX,↓q0])
 refine ul (λi l v=>∃(E:Option D),l=[some (kD h),some (.ref B),some (.dic s.length),E]/\HU h s.length (ys.take i) s.length v/\eX s v) (λ_ _ _ w=>by obtain⟨_,_,_,e⟩:=w;exact e.at_ J)
  ⟨_,rfl,⟨λ_=>0,pE,by simp⟩,(eX.refl _).snoc _⟩ (λRw1 i d l v up1 rt1 hd I=>?_) (λl v I=>?_)
 ·obtain⟨E,el,N,ex⟩:=I;subst el;rw[ar]at hd;cases o:ys[i]? with
  |none=>rw[o]at hd;cases hd
  |some x=>
   rw[o]at hd;cases hd;have u:=ok x (aA o);obtain⟨U,g1,g2⟩:=N;have O:ys.take (i+1)=ys.take i++[x]:=by rw[dQ,o];rfl
   have H:x∉ys.take i:=λz=>by have:=FA nd o z;ext
   simp![];refine Nh hh u λr v1 hr B L=>?_;have lv:s.length < v.length:=ik g1;have f3:(fY h x).length<=3:=EW hh;have q1:∀Q,wp (getL r) Q v1=Q ((fY h x).map λk=>.int (k:Nat)) v1:=λQ=>e_ B;simp![↓q1,ib,ae];refine⟨iB (by ext),?_⟩;refine Hi (λj c v2=>c=((fY h x).take j).map (λk=>.tup [.int (k:Nat),cw (kn h x k)])/\eX v1 v2) (λj c v2 w=>w.2.at_ B) ⟨rfl,eX.refl _⟩ (λj d c v2 hd w=>?_) (λc v2 w=>?_)
   ·obtain⟨rfl,q⟩:=w;rw[ar]at hd;cases C:(fY h x)[j]? with
    |none=>rw[C]at hd;cases hd
    |some k=>
     rw[C]at hd;cases hd;simp![];refine LK hh u (BR (aA C)) λc g=>?_;simp![l2];refine⟨?_,q.trans g⟩;rw[dQ,C,bc];rfl
   ·obtain⟨rfl,q⟩:=w;rw[ae,cT];have g:eX v (v2++[MO.lst (zx h x)]):=(L.trans q).snoc _;have J:=g.at_ g1;have o:v.length<=v2.length:=(L.trans q).le;have C:(v2++[MO.lst (zx h x)])[v2.length]?=some (.lst (zx h x)):=pE;have c:∀w Q,wp (storeK s.length (cw x) w) Q (v2++[MO.lst (zx h x)])=Q () ((v2++[MO.lst (zx h x)]).set s.length (.dct true (gN (ys.take i++[x]) (u_ (λx=>.ref (U x)) x w)))):=λw Q=>by rw[Df J (sJ x) (qM (by rw[BA,bX];ext)),FS,aC H]
    show wp _ _ (v2++[MO.lst (zx h x)]);simp![↓c];refine up1 ⟨_,rfl,⟨λy=>if y=x then v2.length else U y,?_,λy l=>?_⟩,(ex.trans g).put (av _)⟩
    ·rw[au (ik J),O];congr 2;unfold gN u_;refine dg λy _=>?_;dsimp only;split<;>rfl
    ·dsimp only;rw[O]at l;by_cases e:y=x
     ·subst e;rw[aG rfl];exact⟨by ext,by ext,by rw[af (by ext)];exact C⟩
     ·rw[aC e];have G:y∈ys.take i:=by
       rcases aX.mp l with z|z
       ·exact z
       ·exact bn (aJ.mp z) e
      obtain⟨B,Y,u⟩:=g2 y G;exact⟨B,Y,by rw[af (bG Y)];exact g.at_ u⟩
 ·obtain⟨E,el,N,ex⟩:=I;subst el;rw[ae,cT]at N;simp![];exact hq v N ex
end
open PySem (Str)
section
variable{S:Sd->Sd->Prop}{x y z:Sd}{row:List Sd}{h:Hs}{ys:List Sd}
inductive TS(S:Sd->Sd->Prop):Sd->Sd->Prop
 |one {x y:Sd} (h:S x y):TS S x y
 |more {x y z:Sd} (h:S x y) (r:TS S y z):TS S x z
def Rk(S:Sd->Sd->Prop)(row:List Sd):Prop:=∀(i:Nat)z,row[i]?=some z->∀y,S z y->y∈row.take i
theorem VI(q:Rk S row):∀{x y:Sd},TS S x y->∀m:Nat,row[m]?=some x->∃l:Nat,l < m/\row[l]?=some y:=by
 intro x y a
 induction a with
 |@one x y h=>
  intro m o;obtain⟨j,g⟩:=bp.mp (q m x o y h);have c:j < m:=by have:=(ac.mp g).1;rw[bX]at this;ext
  rw[cZ c]at g;exact⟨j,c,g⟩
 |@more x y z h _ ih=>
  intro m o;obtain⟨j,g⟩:=bp.mp (q m x o y h);have c:j < m:=by have:=(ac.mp g).1;rw[bX]at this;ext
  rw[cZ c]at g;obtain⟨l,v,u⟩:=ih j g;exact⟨l,by ext,u⟩
theorem FE(g:Rk S row)(hz:z∈row):¬ TS S z z:=λa=>by
 have key:∀m:Nat,row[m]?=some z->False:=by
  intro m
  induction m using Nat.strongRecOn with
  |ind m ih=>
   intro c;obtain⟨l,q,o⟩:=VI g a m c;exact ih l q o
 obtain⟨m,c⟩:=bp.mp hz;exact key m c
def AC(h:Hs)(x y:Sd):Prop:=∃k∈fY h x,kn h x k=y
theorem IP{i k j:Nat}(c:ys[i]?=some x):(k,j)∈eF h ys i↔k∈fY h x/\ys.idxOf (kn h x k)=j:=by
 unfold eF;rw[c];dsimp only;rw[bU];constructor
 ·rintro ⟨k',hk,e⟩
  cases e;exact⟨hk,rfl⟩
 ·rintro ⟨hk,e⟩
  exact⟨k,hk,by rw[e]⟩
theorem xU(c:y∈ys):ys[ys.idxOf y]?=some y:=by have:=ce.mpr c;rw[ai this,List.getElem_idxOf this]
theorem DD(u:∀x∈ys,∀k∈fY h x,kn h x k∈ys){i j:Nat}(a:Rc (eF h ys) i j):∀{x y:Sd},ys[i]?=some x->ys[j]?=some y->x=y\/TS (AC h) x y:=by
 induction a with
 |refl=>intro x y g c;rw[g]at c;cases c;exact .inl rfl
 |@step i j p hp _ ih=>
  intro x y g c;obtain⟨k,t⟩:=p;obtain⟨l,e⟩:=(IP g).mp hp;have o:=u x (aA g) k l;have q:ys[t]?=some (kn h x k):=by rw[<- e];exact xU o
  rcases ih q c with z|z
  ·exact .inr (.one ⟨k,l,z⟩)
  ·exact .inr (.more ⟨k,l,rfl⟩ z)
end
section
variable{ys R:List Sd}{N:Sd->List (Nat×Sd)}{x y z:Sd}
noncomputable def tB(N:Sd->List (Nat×Sd))(R:List Sd)(z:Sd):Nat:=((N z).filter λp=>decide (p.2∉R)).length
theorem O_(h:tB N R z=0):∀p∈N z,p.2∈R:=λp c=>qv λg=>by have:p∈(N z).filter λp=>decide (p.2∉R):=iC.mpr ⟨c,bB g⟩;rw[mQ.mp h]at this;cases this
noncomputable def Fm(N:Sd->List (Nat×Sd))(x z:Sd):Nat:=((N z).filter λp=>decide (p.2=x)).length
theorem LZ(g:x∉R):tB N R z=tB N (R++[x]) z+Fm N x z:=by
 unfold tB Fm;generalize N z=l
 induction l with
 |nil=>rfl
 |cons p l ih=>
  by_cases e:p.2=x
  ·have c:p.2∉R:=by rw[e];exact g
   have h:¬ p.2∉R++[x]:=by rw[e];simp
   rw[iR (by simpa using c),gp (by simpa using h),iR (by simpa using e)];simp only[bC];ext
  ·by_cases c:p.2∈R
   ·rw[gp (by simpa using c),gp (by simp[c]),gp (by simpa using e)];exact ih
   ·rw[iR (by simpa using c),iR (by simp[c,e]),gp (by simpa using e)];simp only[bC];ext
noncomputable def ot(ys:List Sd)(N:Sd->List (Nat×Sd))(x:Sd):List Sd:=ys.flatMap λz=>((N z).filter λp=>decide (p.2=x)).map λ_=>z
theorem K4(g:ys.Nodup):(ot ys N x).count z=if z∈ys then Fm N x z else 0:=by
 unfold ot
 induction ys with
 |nil=>rfl
 |cons y ys ih=>
  rw[eL]at g;rw[md,pS,ih g.2];have h:∀(l:List (Nat×Sd)),(l.map λ_=>y).count z=if z=y then l.length else 0:=λl=>by
   induction l with
   |nil=>simp
   |cons p l ihl=>
    rw[aK,List.count_cons,ihl];by_cases e:z=y
    ·subst e;simp
    ·have:(y == z)=false:=by simp;exact λq=>e q.symm
     simp[e,this]
  rw[h];by_cases e:z=y
  ·subst e;rw[aG rfl,aC g.1,aG (by simp)];rfl
  ·rw[aC e];by_cases c:z∈ys
   ·rw[aG c,aG (by simp[c]),uQ]
   ·rw[aC c,aC (by simp[c,e])]
end
open PySem (Str)
section
variable{s u:aZ}{Q:D->aZ->Prop}{l:Loc}{ys zs:List Sd}{N:Sd->List (Nat×Sd)}{F:Sd->D}{nd:Nat}
theorem Mt{a:CE}{I:Wk->aZ->Prop}: wp (vt a l) I s=wp (a l) (λx g=>match x with
  | .dic n=>wp (getDc n) (λp c=>p.1=true/\I ⟨p.2.map (·.1),uY n (p.2.map (·.1))⟩ c) g
  |_=>False) s:=by
 unfold vt;rw[d0];congr 1;funext x s1;cases x<;>first|exact iJ|(dsimp only;rw[d0];congr 1;funext p c;rw[d9,cL])
theorem MC{a:CE}{I:Wk->aZ->Prop}: wp (pq a l) I s=wp (a l) (λx g=>match x with
  | .dic n=>wp (getDc n) (λp c=>p.1=true/\I ⟨p.2.map λq=>.tup [q.1,q.2],λs=>s[n]?=some (.dct true p.2)⟩ c) g
  |_=>False) s:=by
 unfold pq;rw[d0];congr 1;funext x s1;cases x<;>first|exact iJ|(dsimp only;rw[d0];congr 1;funext p c;rw[d9,cL])
theorem FP:(gN ys F).map (·.1)=ys.map cw:=by unfold gN;rw[dD];rfl
theorem Kh:∀{ws zs:List Sd},(zs++ws).Nodup->t8 (gN zs F) (ws.map λx=>(cw x,F x))=gN (zs++ws) F
 |[],zs,_=>by rw[bI];rfl
 |w::ws,zs,hn=>by
  have g:w∉zs:=λz=>by rw[dN]at hn;exact hn.2.2 w z w (by simp) rfl
  have e:lG (gN zs F) (cw w) (F w)=gN (zs++[w]) F:=by
   rw[FS,aC g];congr 1;funext y;unfold u_;split
   ·rename_i h;rw[h]
   ·rfl
  have c:(zs++[w]++ws).Nodup:=by rw[bQ];exact hn
  have:=Kh (ws:=ws) (zs:=zs++[w]) c;rw[bQ]at this
  show t8 (lG (gN zs F) (cw w) (F w)) (ws.map λx=>(cw x,F x))=_;rw[e,this];rfl
theorem Lb:∀ws:List Sd,pj (ws.map λx=>D.tup [cw x,F x])=some (ws.map λx=>(cw x,F x))
 |[]=>rfl
 |w::ws=>by rw[aK,pj,Lb ws];unfold Fy;dsimp only;rw[aG (sJ w)];rfl
theorem Ms(c:ys.Nodup)(g:ys.length<=1000):wp (lN (ys.map λx=>D.tup [cw x,F x])) Q s=Q (.dic s.length) (s++[.dct true (gN ys F)]):=by unfold lN;rw[Lb];dsimp only;have e:t8 [] (ys.map λx=>(cw x,F x))=gN ys F:=Kh (zs:=[]) c;rw[d9,e,ae];have:wp (uC true (gN ys F)) Q s=Q (.dic s.length) (s++[.dct true (gN ys F)]):=dH rfl;rw[this];exact propext ⟨λz=>z.2,λz=>⟨g,z⟩⟩
theorem PV{A:List D->aZ->Prop}(B:ys.Nodup)(g:s[nd]?=some (.dct true (gN ys F)))(q:A (ys.map λx=>D.tup [cw x,.ref (s.length+ys.idxOf x)]) (s++bq ys.length (MO.lst []))):
  wp (collect (aQ 0) bN (dU (aw (aq 0) (aw (eK (gg bh)) bh))) (uY nd (ys.map cw)) (ys.map cw) [none]) A s:=by
 have o:2<=fu:=iB (by ext);refine Hi (λi c v=>v=s++bq i (MO.lst [])/\c=(ys.take i).map λx=>D.tup [cw x,.ref (s.length+ys.idxOf x)]) (λi c v w=>?_) ⟨by simp,rfl⟩ (λi d c v hd w=>?_) (λc v w=>?_)
 ·rw[w.1];exact⟨gN ys F,by rw[ax (ik g)];exact g,FP⟩
 ·obtain⟨rfl,rfl⟩:=w;rw[ar]at hd;cases h:ys[i]? with
  |none=>rw[h]at hd;cases hd
  |some x=>
   rw[h]at hd;cases hd;simp![bx,o];refine⟨by rw[bQ,<- List.replicate_succ',kU],?_⟩;have E:ys.idxOf x=i:=by have:=xU (aA h);have C:=ce.mpr (aA h);exact (fM C B).mp (this.trans h.symm)
   rw[dQ,h,bc,aH,fB]
   show _=_++[D.tup [cw x,.ref (s.length+ys.idxOf x)]]
   rw[E]
 ·obtain⟨rfl,rfl⟩:=w;rw[ae,cT];exact q
end
open PySem (Str)
section
variable{s u:aZ}{Q:D->aZ->Prop}{R:r9->aZ->Prop}{l:Loc}{ys zs:List Sd}{N:Sd->List (Nat×Sd)}{nd nb nl bs:Nat}{x y:Sd}
def nD(p:Nat×Sd):D:=.tup [.int (p.1:Nat),cw p.2]
def GN(ys:List Sd)(N:Sd->List (Nat×Sd))(nd:Nat)(u:aZ):Prop:=∃c:Sd->Nat,u[nd]?=some (.dct true (gN ys λx=>.ref (c x)))/\∀x∈ys,u[c x]?=some (.lst ((N x).map nD))
def BN(ys:List Sd)(B:Sd->List Sd)(bs nb:Nat)(u:aZ):Prop:=u[nb]?=some (.dct true (gN ys λx=>.ref (bs+ys.idxOf x)))/\∀y∈ys,u[bs+ys.idxOf y]?=some (.lst ((B y).map cw))
def wx(zs:List Sd)(N:Sd->List (Nat×Sd))(x:Sd)(q:Nat)(y:Sd):List Sd:=ot zs N y++(((N x).take q).filter λp=>decide (p.2=y)).map λ_=>x
theorem Ls{q:Nat}{p:Nat×Sd}(c:(N x)[q]?=some p):wx zs N x (q+1) y=wx zs N x q y++(if p.2=y then [x] else []):=by
 unfold wx;rw[dQ,c]
 show ot zs N y++vh _ (List.filter _ ((N x).take q++[p]))=_;rw[iH,bc,<- bQ];congr 1;by_cases e:p.2=y
 ·simp[e]
 ·simp[e]
theorem Qh:wx zs N x (N x).length y=ot (zs++[x]) N y:=by unfold wx ot;rw[cT,v4];simp
theorem PC(o:x∈ys)(g:y∈ys)(h:x≠y):ys.idxOf x≠ys.idxOf y:=λe=>by have c:=xU o;have q:=xU g;rw[e,q]at c;exact h (aE c).symm
noncomputable def mC(ys:List Sd)(N:Sd->List (Nat×Sd)):Nat:=(ys.map λx=>(N x).length).sum
theorem KO(y:Sd):∀zs:List Sd,(ot zs N y).length<=mC zs N
 |[]=>by simp[ot,mC]
 |z::zs=>by have c:=KO y zs;unfold ot mC at c ⊢;rw[md,aH,ae,aK,gL];have:=kj (λp:Nat×Sd=>decide (p.2=y)) (N z);ext
theorem WO:mC (zs++[x]) N=mC zs N+(N x).length:=by unfold mC;simp
theorem O3{i:Nat}:∀{ys:List Sd},mC (ys.take i) N<=mC ys N:=by
 intro ys;have:ys=ys.take i++ys.drop i:=(List.take_append_drop i ys).symm;have c:mC ys N=mC (ys.take i) N+mC (ys.drop i) N:=by
  conv=>lhs;rw[this]
  unfold mC;rw[bc,kL]
 ext
theorem W4{r:Nat}{I H g c:Option D}(hx:x∈ys)(cl:∀p∈N x,p.2∈ys)(ht:mC zs N+(N x).length<=1000)(hnb:bs+ys.length<=nb)(gr:s[r]?=some (.lst ((N x).map nD)))(hr:r < bs)(Y:eX s u)(hb0:s.length<=bs)(B:BN ys (ot zs N) bs nb u)
  (hq:∀g c v,BN ys (ot (zs++[x]) N) bs nb v->eX s v->(∀k,(k < bs\/nb < k)->v[k]?=u[k]?)->R (.next [I,some (.dic nb),H,some (cw x),some (.ref r),g,c,none,none]) v):
  wp (nv (gQ 2 (cJ (aQ 5) (cJ (aQ 6) hU))) (aO (iA (dO (c2 aU (aq 1) (aq 6)) (aq 3))) aW) (i5 r ((N x).map nD)) ((N x).map nD) [I,some (.dic nb),H,some (cw x),some (.ref r),g,c,none,none]) R u:=by
 refine ul (λq l v=>∃(g c:Option D),l=[I,some (.dic nb),H,some (cw x),some (.ref r),g,c,none,none]/\BN ys (wx zs N x q) bs nb v/\eX s v/\∀k,(k < bs\/nb < k)->v[k]?=u[k]?) (λ_ _ _ w=>by obtain⟨_,_,_,_,e,_⟩:=w;exact e.at_ gr)
  ⟨_,_,rfl,by have e:wx zs N x 0=ot zs N:=by { funext y;unfold wx;simp };rw[e];exact B,Y,λ_ _=>rfl⟩ (λRw1 q d l v up1 rt1 hd G=>?_) (λl v G=>?_)
 ·obtain⟨g,c,el,⟨U,o⟩,C,E⟩:=G;subst el;rw[ar]at hd;cases ep:(N x)[q]? with
  |none=>rw[ep]at hd;cases hd
  |some p=>
   rw[ep]at hd;cases hd;have h:=cl p (aA ep);have H:=ce.mpr h;have l:∀Q,wp (itemK nb (cw p.2)) Q v=Q (.ref (bs+ys.idxOf p.2)) v:=λQ=>A5 U (sJ _) (by rw[B6,aG h]);unfold nD;simp![↓l,↓e_ (o p.2 h),↓nK (o p.2 h)];have u:=(ac.mp ep).1;have O:(wx zs N x q p.2).length < 1000:=by unfold wx;rw[aH,ae];have J:=KO (N:=N) p.2 zs;have I:=kj (λt:Nat×Sd=>decide (t.2=p.2)) ((N x).take q);rw[bX]at I;ext
   refine⟨qM (by rw[ae];ext),up1 ⟨_,_,rfl,⟨by rw[af (by ext)];exact U,λy L=>?_⟩,C.put (by ext),λk B=>by rw[af (by ext)];exact E k B⟩⟩;by_cases e:p.2=y
   ·subst e;rw[au (ik (o p.2 h)),Ls ep,aG rfl,bc];rfl
   ·rw[af (by have:=PC h L e;ext),Ls ep,aC e,bI];exact o y L
 ·obtain⟨g,c,el,J,C,E⟩:=G;subst el;rw[ae]at J;have e:wx zs N x (N x).length=ot (zs++[x]) N:=funext λy=>Qh;rw[e]at J;exact hq _ _ v J C E
end
open PySem (Str)
section
variable{s u:aZ}{Q:D->aZ->Prop}{R:r9->aZ->Prop}{l:Loc}{ys zs:List Sd}{N:Sd->List (Nat×Sd)}{nd nb nl bs:Nat}{x y:Sd}
theorem QR:(cg ys.length).map (λi=>ys[i]?)=ys.map some:=by
 apply fL;intro k;rw[ar,ar];by_cases c:k < ys.length
 ·rw[ip c,ai c];simp[c]
 ·rw[dh (by simp;ext),dh (l:=ys) (by ext)];rfl
theorem Ox{P:Sd->Bool}:((cg ys.length).filter λi=>(ys[i]?.map P).getD false).map (λi=>(ys[i]?.map cw).getD .non)=(ys.filter P).map cw:=by
 have e:((cg ys.length).filter λi=>(ys[i]?.map P).getD false).map (λi=>(ys[i]?.map cw).getD .non)=(((cg ys.length).map (λi=>ys[i]?)).filter λo=>(o.map P).getD false).map λo=>(o.map cw).getD .non:=by rw[zn,dD];rfl
 rw[e,QR,zn,dD];rfl
theorem CD:∀{R U:List Sd},R.Nodup->(∀x∈R,x∈U)->R.length<=U.length
 |[],_,_,_=>bx _
 |x::R,U,hn,h=>by rw[eL]at hn;have g:=h x (by simp);have:=CD (R:=R) (U:=U.erase x) hn.2 λy c=>(List.mem_erase_of_ne (λe:y=x=>hn.1 (by rw[<- e];exact c))).mpr (h y (by simp[c]));rw[tj g]at this;have:=List.length_pos_of_mem g;simp only[bC];ext
structure KI(ys:List Sd)(N:Sd->List (Nat×Sd))(R:List Sd)(t:Nat)(L:Sd->Nat):Prop where
 nd:R.Nodup
 inn:∀z∈R,z∈ys
 lft:∀z∈ys,L z=tB N (R.take t) z
 zer:∀z∈ys,(L z=0↔z∈R)
 rk:∀(i:Nat)(z:Sd),R[i]?=some z->∀p∈N z,p.2∈R.take i
structure KQ(ys:List Sd)(N:Sd->List (Nat×Sd))(R:List Sd)(t:Nat)(x:Sd)(q:Nat)(A:List Sd)(L:Sd->Nat):Prop where
 nd:(R++A).Nodup
 inn:∀z∈R++A,z∈ys
 lft:∀z∈ys,L z+((ot ys N x).take q).count z=tB N (R.take t) z
 zer:∀z∈ys,(L z=0↔z∈R++A)
 new:∀z∈A,∀p∈N z,p.2∈R.take (t+1)
theorem KI.go{R:List Sd}{t:Nat}{L:Sd->Nat}(K:KI ys N R t L):KQ ys N R t x 0 [] L:=
 ⟨by rw[bI];exact K.nd,by rw[bI];exact K.inn,λz hz=>by rw[K.lft z hz];simp,λz hz=>by rw[bI];exact K.zer z hz,by simp⟩
theorem KQ.end_{R A:List Sd}{t:Nat}{L:Sd->Nat}(G:ys.Nodup)(E:∀(i:Nat)(z:Sd),R[i]?=some z->∀p∈N z,p.2∈R.take i)(v:R[t]?=some x)(K:KQ ys N R t x (ot ys N x).length A L):KI ys N (R++A) (t+1) L:=by
 have I:=(ac.mp v).1;have C:(R++A).take (t+1)=R.take t++[x]:=by rw[gC (by ext),dQ,v];rfl
 have o:R.Nodup:=(dN.mp K.nd).1;have q:x∉R.take t:=λz=>by have:=FA o v z;ext
 refine⟨K.nd,K.inn,λz hz=>?_,K.zer,λi z c p B=>?_⟩
 ·have g:=K.lft z hz;rw[cT,K4 G,aG hz,LZ q]at g;rw[C];ext
 ·by_cases h:i < R.length
  ·rw[ax h]at c;rw[gC (by ext)];exact E i z c p B
  ·rw[aS (by ext)]at c;have g:=K.new z (aA c) p B;have H:R.take (t+1)=(R++A).take (t+1):=by rw[gC (by ext)]
   rw[H]at g;exact (List.take_subset_take_left _ (by ext)) g
theorem KQ.step{R A:List Sd}{t q:Nat}{L:Sd->Nat}{z:Sd}(O:ys.Nodup)(G:R[t]?=some x)(K:KQ ys N R t x q A L)(hz:(ot ys N x)[q]?=some z)(g:z∈ys):
  1<=L z/\KQ ys N R t x (q+1) (if L z-1=0 then A++[z] else A) (λy=>if y=z then L z-1 else L y):=by
 have Q:=(ac.mp G).1;have C:R.Nodup:=(dN.mp K.nd).1;have E:x∉R.take t:=λy=>by have:=FA C G y;ext
 have H:(ot ys N x).take (q+1)=(ot ys N x).take q++[z]:=by rw[dQ,hz];rfl
 have cl:((ot ys N x).take (q+1)).count z<=Fm N x z:=by have J:=K4 (N:=N) (x:=x) (z:=z) O;rw[aG g]at J;rw[<- J];exact List.Sublist.count_le z (w9 _ _)
 have c1:((ot ys N x).take (q+1)).count z=((ot ys N x).take q).count z+1:=by rw[H,pS];simp
 have l:=LZ (N:=N) (z:=z) E;have u:=K.lft z g;have Y:1<=L z:=by ext
 have o:z∉R++A:=λy=>by have:=(K.zer z g).mpr y;ext
 have mem:∀y,(y∈R++(if L z-1=0 then A++[z] else A))↔(y∈R++A\/(L z-1=0/\y=z)):=λy=>by
  split
  ·rename_i e;rw[<- bQ,aX,aJ];simp[e]
  ·rename_i e;simp[e]
 refine⟨Y,?_,λy c=>?_,λy c=>?_,λy c=>?_,λy c p v=>?_⟩
 ·split
  ·rw[<- bQ,dN];exact⟨K.nd,by simp,λa U b I e=>by rw[aJ]at I;subst I e;exact o U⟩
  ·exact K.nd
 ·rcases (mem y).mp c with h|⟨_,rfl⟩
  ·exact K.inn y h
  ·exact g
 ·by_cases e:y=z
  ·subst e;rw[aG rfl,c1];ext
  ·rw[aC e,H,pS];have:[z].count y=0:=by rw[List.count_eq_zero];simp;exact e
   rw[this];exact K.lft y c
 ·rw[mem y];by_cases e:y=z
  ·subst e;rw[aG rfl];exact⟨λh=>.inr ⟨h,rfl⟩,λh=>h.elim (λw=>bn w o) λw=>w.1⟩
  ·rw[aC e,K.zer y c];exact⟨.inl,λh=>h.elim id λw=>bn w.2 e⟩
 ·by_cases e:L z-1=0
  ·rw[aG e]at c;rcases aX.mp c with h|h
   ·exact K.new y h p v
   ·rw[aJ.mp h]at v;have B:R.take (t+1)=R.take t++[x]:=by rw[dQ,G];rfl
    rw[B];exact O_ (by ext) p v
  ·rw[aC e]at c;exact K.new y c p v
theorem Vc{i k:Nat}{o:MO}(c:k < i):(s++bq i o)[s.length+k]?=some o:=by rw[aS (by ext),show s.length+k-s.length=k by ext,gh,aG c]
theorem Li(hn:ys.Nodup)(hl:ys.length<=324)(cl:∀x∈ys,∀p∈N x,p.2∈ys)(ht:mC ys N<=1000)(g:GN ys N nd s)
  (hq:∀(row:List Sd)(r:Nat)(u:aZ),row.Nodup->(∀(i:Nat)(z:Sd),row[i]?=some z->∀p∈N z,p.2∈row.take i)->(∀z∈row,z∈ys)->(∀z∈ys,(∀p∈N z,p.2∈row)->z∈row)->u[r]?=some (.lst (row.map cw))->s.length<=r->eX s u->Q (.ref r) u):wp (ji [.dic nd]) Q s:=by
 obtain⟨rF,Y,g2⟩:=g;have lnd:=ik Y
 (simp![ji];simp![jM,↓Mt,↓uT Y,ib,FP,ae])
 refine⟨iB (by ext),?_⟩;refine PV hn Y ?_;rw[Ms hn (by ext)];simp![];have e1:(s++bq ys.length (MO.lst [])).length=s.length+ys.length:=by simp
 have e2:(s++bq ys.length (MO.lst [])++[MO.dct true (gN ys λx=>D.ref (s.length+ys.idxOf x))]).length=s.length+ys.length+1:=by simp;ext
 rw[e1,e2];have a1:(s++bq ys.length (MO.lst [])++[MO.dct true (gN ys λx=>D.ref (s.length+ys.idxOf x))]++[MO.dct true []])[s.length+ys.length+1]?=some (.dct true (gN (ys.take 0) λx=>.int ((N x).length:Nat))):=by rw[<- e2];exact pE
 have a2:BN ys (ot (ys.take 0) N) s.length (s.length+ys.length) (s++bq ys.length (MO.lst [])++[MO.dct true (gN ys λx=>D.ref (s.length+ys.idxOf x))]++[MO.dct true []]):=
  ⟨pk (by rw[<- e1];exact pE),λy c=>pk (pk (Vc (ce.mpr c)))⟩
 have a3:eX s (s++bq ys.length (MO.lst [])++[MO.dct true (gN ys λx=>D.ref (s.length+ys.idxOf x))]++[MO.dct true []]):=⟨bq ys.length (MO.lst [])++[MO.dct true (gN ys λx=>D.ref (s.length+ys.idxOf x))]++[MO.dct true []],by simp⟩
 generalize s++bq ys.length (MO.lst [])++[MO.dct true (gN ys λx=>D.ref (s.length+ys.idxOf x))]++[MO.dct true []]=s1 at *;simp![↓MC,↓uT (a3.at_ Y)];refine ul (λi l v=>∃(h O H E:Option D),l=[some (.dic nd),some (.dic (s.length+ys.length)),some (.dic (s.length+ys.length+1)),h,O,H,E,none,none]/\v[s.length+ys.length+1]?=some (.dct true (gN (ys.take i) λx=>.int ((N x).length:Nat)))/\BN ys (ot (ys.take i) N) s.length (s.length+ys.length) v/\eX s v) (λ_ _ _ w=>by obtain⟨_,_,_,_,_,_,_,e⟩:=w;exact e.at_ Y)
  ⟨_,_,_,_,rfl,a1,a2,a3⟩ (λRr i d l v up rt hd C=>?_) (λl v C=>?_)
 ·obtain⟨h,O,H,E,el,b1,b2,b3⟩:=C;subst el;unfold gN at hd;rw[dD,ar]at hd;cases o:ys[i]? with
  |none=>rw[o]at hd;cases hd
  |some x=>
   rw[o]at hd;have U:d=D.tup [cw x,.ref (rF x)]:=(aE hd).symm;subst U;have I:=aA o;have l:ys.take (i+1)=ys.take i++[x]:=by rw[dQ,o];rfl
   have q:x∉ys.take i:=λz=>by have:=FA hn o z;ext
   have g:=g2 x I;have J:=ik g;have hi:=(ac.mp o).1;have G:∀w Q,wp (storeK (s.length+ys.length+1) (cw x) w) Q v=Q () (v.set (s.length+ys.length+1) (.dct true (gN (ys.take i++[x]) (u_ (λx=>.int ((N x).length:Nat)) x w)))):=λw Q=>by rw[Df b1 (sJ x) (qM (by rw[BA,bX];ext)),FS,aC q]
   simp![↓e_ (b3.at_ g),↓G,ae];have es:u_ (λx=>D.int ((N x).length:Nat)) x (.int ((N x).length:Nat))=λx=>.int ((N x).length:Nat):=by
    funext y;unfold u_;split
    ·rename_i z;rw[z]
    ·rfl
   rw[es];have c1:(v.set (s.length+ys.length+1) (MO.dct true (gN (ys.take i++[x]) λx=>.int ((N x).length:Nat))))[s.length+ys.length+1]?=some (.dct true (gN (ys.take i++[x]) λx=>.int ((N x).length:Nat))):=au (ik b1);have c2:BN ys (ot (ys.take i) N) s.length (s.length+ys.length) (v.set (s.length+ys.length+1) (MO.dct true (gN (ys.take i++[x]) λx=>.int ((N x).length:Nat)))):=
    ⟨by rw[af (by ext)];exact b2.1,λy c=>by rw[af (by have:=ce.mpr c;ext)];exact b2.2 y c⟩
   have u:eX s (v.set (s.length+ys.length+1) (MO.dct true (gN (ys.take i++[x]) λx=>.int ((N x).length:Nat)))):=b3.put (by ext);generalize v.set (s.length+ys.length+1) (MO.dct true (gN (ys.take i++[x]) λx=>.int ((N x).length:Nat)))=v1 at *;rw[e_ (u.at_ g)];have t1:mC (ys.take i) N+(N x).length<=1000:=by have:=O3 (N:=N) (i:=i+1) (ys:=ys);rw[l,WO]at this;ext
   refine W4 I (cl x I) t1 (av _) g J u (av _) c2 λH E v2 Y B L=>?_;simp![];refine up ⟨_,_,_,_,rfl,?_,by rw[l];exact Y,B⟩;rw[L _ (.inr (by ext)),l];exact c1
 ·obtain⟨h,O,H,E,el,b1,b2,b3⟩:=C;subst el;have en:((gN ys λx=>D.ref (rF x)).map λq=>D.tup [q.1,q.2]).length=ys.length:=by rw[ae,BA]
  rw[en,cT]at b1 b2;simp![↓Mt,↓uT (b3.at_ Y),ib,FP,ae];refine⟨iB (by ext),?_⟩;have u:∀(A:List D->aZ->Prop),wp (collect (aQ 0) (di (c2 o8 (c2 aU (aq 1) (aq 0)) (aM (D.int 0)))) (aq 0) (uY nd (ys.map cw)) (ys.map cw) [none,some (.dic (s.length+ys.length+1))]) A v=A ((ys.filter λx=>decide ((N x).length=0)).map cw) v:=λA=>by
   rw[KD (p:=λi=>(ys[i]?.map λx=>decide ((N x).length=0)).getD false) (f:=λi=>(ys[i]?.map cw).getD .non) (λl=>∃y,l=[y,some (.dic (s.length+ys.length+1))]) ⟨_,b3.at_ Y,FP⟩ ⟨_,rfl⟩ (λi d l hd hI=>?_),ae,Ox];obtain⟨y,rfl⟩:=hI;rw[ar]at hd;cases o:ys[i]? with
   |none=>rw[o]at hd;cases hd
   |some x=>
    rw[o]at hd;cases hd;have q6:∀Q,wp (itemK (s.length+ys.length+1) (cw x)) Q v=Q (.int ((N x).length:Nat)) v:=λQ=>A5 b1 (sJ x) (by rw[B6,aG (aA o)]);refine⟨[some (cw x),some (.dic (s.length+ys.length+1))],λG=>by simp![],⟨_,rfl⟩,λT=>?_,λQ=>by simp![du,fq]⟩;simp![↓q6,du,fq];have eb:(((N x).length:Int) == 0)=decide ((N x).length=0):=by
     by_cases e:(N x).length=0
     ·rw[e];rfl
     ·rw[aR e,beq_eq_false_iff_ne];ext
    rw[eb]
  rw[u];simp![];have lv:=ik b1;have w1:(v++[MO.lst ((ys.filter λx=>decide ((N x).length=0)).map cw)])[v.length]?=some (.lst ((ys.filter λx=>decide ((N x).length=0)).map cw)):=pE;have w2:=pk (b:=MO.lst ((ys.filter λx=>decide ((N x).length=0)).map cw)) b1;have w3:BN ys (ot ys N) s.length (s.length+ys.length) (v++[MO.lst ((ys.filter λx=>decide ((N x).length=0)).map cw)]):=⟨pk b2.1,λy c=>pk (b2.2 y c)⟩
  have w4:eX s (v++[MO.lst ((ys.filter λx=>decide ((N x).length=0)).map cw)]):=b3.snoc _;have K0:KI ys N (ys.filter λx=>decide ((N x).length=0)) 0 (λx=>(N x).length):=by
   refine⟨hn.filter _,λz hz=>(iC.mp hz).1,λz _=>?_,λz hz=>?_,λi z hi p hp=>?_⟩
   ·unfold tB;rw[List.filter_eq_self.mpr λp _=>by simp]
   ·rw[iC];simp[hz]
   ·have:=of_decide_eq_true (iC.mp (aA hi)).2;rw[mQ.mp this]at hp;cases hp
  generalize hnr:v.length=nr at *;generalize v++[MO.lst ((ys.filter λx=>decide ((N x).length=0)).map cw)]=v1 at *;refine CQ (λl v=>∃(R:List Sd)(t:Nat)(L:Sd->Nat)(h O H E:Option D),l=[some (.dic nd),some (.dic (s.length+ys.length)),some (.dic (s.length+ys.length+1)),h,O,H,E,some (.ref nr),some (.int (t:Nat))]/\KI ys N R t L/\v[nr]?=some (.lst (R.map cw))/\v[s.length+ys.length+1]?=some (.dct true (gN ys λx=>.int (L x:Nat)))/\BN ys (ot ys N) s.length (s.length+ys.length) v/\eX s v)
   (λ(l:Loc)(_:aZ)=>match (l[8]?:Option (Option D)) with
    |some (some (D.int i))=>(1000-i).toNat
    |_=>0) ⟨_,0,_,_,_,_,_,rfl,K0,w1,w2,w3,w4⟩ (λRw l v upw rtw C=>?_)
  obtain⟨R,t,L,h,O,H,E,el,K,d1,d2,d3,d4⟩:=C;subst el;have hR:R.length<=324:=cS (CD K.nd K.inn) hl;simp![↓e_ d1,ae];by_cases ht':t < R.length
  ·rw[aG (by ext)];obtain⟨x,I⟩:∃x,R[t]?=some x:=⟨_,ai ht'⟩
   have U:=K.inn x (aA I);have r2:∀(Q:D->aZ->Prop)s,wp (cG (R.map cw) ((t:Nat):Int)) Q s=Q (cw x) s:=λQ s=>qY (by rw[ar,I];rfl);have r3:∀Q,wp (itemK (s.length+ys.length) (cw x)) Q v=Q (.ref (s.length+ys.idxOf x)) v:=λQ=>A5 d3.1 (sJ x) (by rw[B6,aG U]);simp![↓e_ d1,↓r2,↓r3,↓e_ (d3.2 x U)];refine ul (λq l v=>∃(A:List Sd)(L:Sd->Nat)(h:Option D),l=[some (.dic nd),some (.dic (s.length+ys.length)),some (.dic (s.length+ys.length+1)),h,O,H,E,some (.ref nr),some (.int (t:Nat))]/\KQ ys N R t x q A L/\v[nr]?=some (.lst ((R++A).map cw))/\v[s.length+ys.length+1]?=some (.dct true (gN ys λx=>.int (L x:Nat)))/\BN ys (ot ys N) s.length (s.length+ys.length) v/\eX s v) (λ_ _ _ w=>by obtain⟨_,_,_,_,_,_,_,e,_⟩:=w;exact e.2 x U)
    ⟨[],L,_,rfl,K.go,by rw[bI];exact d1,d2,d3,d4⟩ (λRr q d l v up rt hd C=>?_) (λl v C=>?_)
   ·obtain⟨A,L,h,el,J,f1,o,G,f4⟩:=C;subst el;rw[ar]at hd;cases Y:(ot ys N x)[q]? with
    |none=>rw[Y]at hd;cases hd
    |some z=>
     rw[Y]at hd;cases hd;have B:z∈ys:=by have:=aA Y;unfold ot at this;obtain⟨w,hw,hm⟩:=mP.mp this;obtain⟨_,_,rfl⟩:=bU.mp hm;exact hw
     obtain⟨hL,l⟩:=J.step hn I Y B;have hRA:(R++A).length<=324:=cS (CD J.nd J.inn) hl;have t1:∀Q,wp (itemK (s.length+ys.length+1) (cw z)) Q v=Q (.int (L z:Nat)) v:=λQ=>A5 o (sJ z) (by rw[B6,aG B]);have t2:∀w Q,wp (storeK (s.length+ys.length+1) (cw z) w) Q v=Q () (v.set (s.length+ys.length+1) (.dct true (gN ys (u_ (λx=>.int (L x:Nat)) z w)))):=λw Q=>by rw[Df o (sJ z) (qM (by rw[BA];ext)),FS,aG B]
     simp![↓t1,↓t2];have es:u_ (λx=>D.int (L x:Nat)) z (.int ((L z:Nat)-1))=λy=>D.int ((if y=z then L z-1 else L y:Nat):Int):=by
      funext y;unfold u_;split
      ·congr 1;ext
      ·rfl
     rw[es];have H:(v.set (s.length+ys.length+1) (MO.dct true (gN ys λy=>D.int ((if y=z then L z-1 else L y:Nat):Int))))[s.length+ys.length+1]?=some (.dct true (gN ys λy=>D.int ((if y=z then L z-1 else L y:Nat):Int))):=au (ik o);have g:s.length+ys.length+1≠nr:=by ext
     have u:(v.set (s.length+ys.length+1) (MO.dct true (gN ys λy=>D.int ((if y=z then L z-1 else L y:Nat):Int))))[nr]?=some (.lst ((R++A).map cw)):=by rw[af g];exact f1
     have E:BN ys (ot ys N) s.length (s.length+ys.length) (v.set (s.length+ys.length+1) (MO.dct true (gN ys λy=>D.int ((if y=z then L z-1 else L y:Nat):Int)))):=
      ⟨by rw[af (by ext)];exact G.1,λy c=>by rw[af (by have:=ce.mpr c;ext)];exact G.2 y c⟩
     have O:eX s (v.set (s.length+ys.length+1) (MO.dct true (gN ys λy=>D.int ((if y=z then L z-1 else L y:Nat):Int)))):=f4.put (by ext);generalize v.set (s.length+ys.length+1) (MO.dct true (gN ys λy=>D.int ((if y=z then L z-1 else L y:Nat):Int)))=v2 at *;have t3:∀Q,wp (itemK (s.length+ys.length+1) (cw z)) Q v2=Q (.int ((L z-1:Nat):Int)) v2:=λQ=>A5 H (sJ z) (by rw[B6,aG B,aG rfl]);simp![↓t3];by_cases U:L z-1=0
     ·rw[aG U]at l;rw[aG (by ext)];simp![↓e_ u,↓nK u,ae];refine⟨qM (by ext),up ⟨A++[z],_,_,rfl,l,?_,by rw[af (bG g)];exact H,⟨by rw[af (by ext)];exact E.1,λy c=>by rw[af (by have:=ce.mpr c;ext)];exact E.2 y c⟩,O.put (by ext)⟩⟩;rw[au (ik u),<- bQ,bc (l₂:=[z])];rfl
     ·rw[aC U]at l;rw[aC (by ext)];exact up ⟨A,_,_,rfl,l,u,H,E,O⟩
   ·obtain⟨A,L,h,el,J,f1,o,G,f4⟩:=C;subst el;rw[ae]at J;simp![];refine upw ⟨R++A,t+1,L,_,_,_,_,rfl,J.end_ hn K.rk I,f1,o,G,f4⟩ ?_
    show (1000-((t:Int)+1)).toNat < (1000-(t:Int)).toNat;ext
  ·rw[aC (by ext)];exact hq R nr v K.nd K.rk K.inn (λz hz hp=>(K.zer z hz).mp (by rw[K.lft z hz,mX (by ext)];unfold tB;rw[ud.mpr λp c=>by simpa using hp p c];rfl)) d1 (by ext) d4
end
open PySem (Str)
def tups:Nat->Nat->List (List Nat)
 |0,_=>[[]]
 |n+1,m=>(tups n m).flatMap λt=>(cg m).map λi=>i::t
theorem Ia{m:Nat}:∀{n:Nat}{t:List Nat},t.length=n->(∀x∈t,x < m)->t∈tups n m
 |0,[],_,_=>by simp[tups]
 |n+1,x::t,hl,hx=>by unfold tups;exact mP.mpr ⟨t,Ia (by simpa using hl) (λy c=>hx y (by simp[c])),bU.mpr ⟨x,hV.mpr (hx x (by simp)),rfl⟩⟩
def DL(p:List Nat×List Nat):Int:=iK [.inr (p.1.map λ(n:Nat)=>(n:Int)),.inr (p.2.map λ(n:Nat)=>(n:Int))]
def zB(g c:Nat):List (List Nat×List Nat):=(tups g (mL g c)).flatMap λa=>(tups c (mS c)).map λb=>(a,b)
def hN(p:List Nat×List Nat):Nat:=(DL p+9223372036854775808).toNat % 20546
def FY{α:Type}(hN:α->Nat):Nat->List α->Bool
 |_,[]=>true
 |a,p::l=>match rj a (hN p) with
  |true=>false
  |false=>FY hN (a ||| 1 <<< hN p) l
theorem NT{α:Type}{hN:α->Nat}:∀{l:List α}{a:Nat},FY hN a l=true->∀p∈l,rj a (hN p)=false/\∀q∈l,hN p=hN q->p=q
 |[],a,_,p,hp=>nomatch hp
 |x::l,a,h,p,hp=>by
  unfold FY at h;cases e:rj a (hN x) with
  |true=>rw[e]at h;cases h
  |false=>
   rw[e]at h;have v:=NT h;have key:∀z∈l,rj a (hN z)=false/\hN z≠hN x:=λz hz=>by have:=(v z hz).1;rw[Nat.testBit_or,nU]at this;refine⟨this.1,λq=>?_⟩;have B:=this.2;rw[q,Nat.testBit_shiftLeft]at B;simp at B
   rcases aP.mp hp with C|g
   ·rw[C];refine⟨e,λq u hh=>?_⟩;rcases aP.mp u with o|c
    ·exact o.symm
    ·exact bn hh.symm (key q c).2
   ·refine⟨(key p g).1,λq u hh=>?_⟩;rcases aP.mp u with o|c
    ·rw[o]at hh;exact bn hh (key p g).2
    ·exact (v p g).2 q c hh
theorem Uj:([2,3].all λc=>[0,1,2,3,4].all λg=>FY hN 0 (zB c g))=true:=by nofun
section
variable{h:Hs}{x y:Sd}{ys:List Sd}
theorem UH(E:vH h)(B:i_ h x)(u:i_ h y)(e:DL (x.ls,x.ss)=DL (y.ls,y.ss)):x=y:=by
 obtain⟨hh,I,G,H⟩:=E;have mem:∀z,i_ h z->(z.ls,z.ss)∈zB h.hands.length h.boards.length:=λz hz=>by
  refine mP.mpr ⟨z.ls,Ia hz.1 λv o=>?_,bU.mpr ⟨z.ss,Ia hz.2.1 λv o=>?_,rfl⟩⟩
  ·obtain⟨k,l⟩:=bp.mp o;have g:=(ac.mp l).1;have:=hz.2.2.1 k _ v (ai (by rw[<- hz.1];exact g)) l;exact a_ this (H _ (bY _))
  ·obtain⟨k,l⟩:=bp.mp o;have g:=(ac.mp l).1;have:=hz.2.2.2 k _ v (ai (by rw[<- hz.2.1];exact g)) l;exact a_ this (G _ (bY _))
 have C:h.hands.length∈[2,3]:=by have L:=hh.2.2.1;have J:=hh.2.2.2.1;simp only[aP,cF,or_false];ext
 have q:h.boards.length∈[0,1,2,3,4]:=by simp only[aP,cF,or_false];ext
 have:=d7.mp (d7.mp Uj _ C) _ q;have:=(NT this _ (mem x B)).2 _ (mem y u) (by unfold hN;rw[e]);obtain⟨a,b⟩:=x;obtain⟨c,d⟩:=y;injection this with e1 e2
 simp only at e1 e2;rw[e1,e2]
theorem Qv{F:Sd->D}(u:vH h)(o:ys.Nodup)(ok:∀x∈ys,i_ h x)(C:ys≠[]):sA (gN ys F):=by
 have g:∀q:List Nat,kB (q.map cn)=some (q.map λ(n:Nat)=>(n:Int)):=λq=>by
  induction q with
  |nil=>rfl
  |cons i q ih=>rw[aK];show (kB (q.map cn)).map _=_;rw[ih];rfl
 have l:∀x:Sd,stK (cw x)=some [.inr (x.ls.map λ(n:Nat)=>(n:Int)),.inr (x.ss.map λ(n:Nat)=>(n:Int))]:=λx=>by
  show (match kB (x.ls.map cn),i0 [.tup (x.ss.map cn)] with|some r,some rs=>some (mh r::rs)|_,_=>none)=_;have:i0 [.tup (x.ss.map cn)]=some [.inr (x.ss.map λ(n:Nat)=>(n:Int))]:=by show (match kB (x.ss.map cn),i0 [] with|some r,some rs=>some (mh r::rs)|_,_=>none)=_;rw[g];rfl
  rw[g,this]
 refine⟨λz=>C (by unfold gN at z;exact vZ.mp z),?_⟩;unfold gN;rw[dD];refine List.pairwise_map.mpr (List.Pairwise.imp_of_mem (λ{a b}B v c z=>c ?_) o);simp only[Function.comp,l,du,sW]at z;exact UH u (ok a B) (ok b v) z
end
open PySem (Str)
theorem JV{f g:Nat->Nat}:∀{n:Nat},(∀i,i < n->f i=g i)->mx f n=mx g n
 |0,_=>rfl
 |n+1,h=>by unfold mx;rw[JV λi c=>h i (by ext),h n (by ext)]
def vy{α:Type}(N:α->Nat)(L:List α):Nat:=mx (λi=>((L[i]?).map λx=>N x+1).getD 0) L.length
theorem Np{α:Type}{N c:α->Nat}{L:List α}(h:∀x∈L,N x=c x):vy N L=vy c L:=JV λi g=>by
 rw[ai g]
 show N L[i]+1=c L[i]+1;rw[h _ (bY g)]
theorem NC{α β:Type}{N:β->Nat}{g:α->β}{L:List α}:vy N (L.map g)=vy (λx=>N (g x)) L:=by unfold vy;rw[ae];exact JV λi c=>by rw[ar,ai c];rfl
section
variable{s u s0:aZ}{Q:D->aZ->Prop}{l:Loc}{E:Nat->List (Nat×Nat)}{n ns nf no:Nat}{F:List Nat}
theorem Nv{c:CA}{d:D}:wp (qD c (aM d) l) Q s=wp (c l) (λds g=>wp (if ds.length=0 then ret d else oF ds) Q g) s:=by unfold qD;rw[d0];refine kC λds h=>?_;rw[d0];exact dH rfl
theorem Ds{f:Nat->Nat}{k:Nat}:wp (if (br k λi=>D.int (f i:Nat)).length=0 then ret (.int 0) else oF (br k λi=>D.int (f i:Nat))) Q s=Q (.int (mx f k:Nat)) s:=by
 rw[m6];by_cases h:k=0
 ·subst h;rw[aG rfl,cL];rfl
 ·rw[aC h,Mj (by ext)]
theorem T8{f:CE}{a:CA}:wp (pe sy f a l) Q s=wp (f l) (λd c=>wp (a l) (λds g=>wp (qH sy d ds) Q g) c) s:=by unfold pe;rw[d0];congr 1;funext d c;rw[d0]
theorem TN{a b:D}(g:s[nf]?=some (.lam kP)):wp (qH sy (.fn nf) [a,b]) Q s=Q (.int 1) s:=by
 refine dH ?_
 show (match s[nf]? with|some (.lam e)=>qI sy e [a,b] s|_=>.bad)=_;rw[g]
 show qI [(kP,⟨2,1,tq⟩)] kP [a,b] s=_;unfold qI;rw[aG rfl]
 show chk (2=2) (tq [a,b]) s=_;unfold chk;rw[aG rfl];rfl
theorem GB{v:aZ}{k i:Nat}{ds:List D}{x:D}{R:Unit->aZ->Prop}(g:v[k]?=some (.lst ds))(c:i < ds.length):wp (iI (.ref k) (.int ((i:Nat):Int)) x) R v=R () (v.set k (.lst (ds.set i x))):=by rw[qC,e_ g,FX c];exact nK g
noncomputable def L9(E:Nat->List (Nat×Nat))(F:List Nat):Prop:=∀(i x:Nat),F[i]?=some x->∀p∈E x,p.2∈F.take i
theorem Sf(g:wE n E ns s)(hn:n<=400)(go:s[no]?=some (.lst (F.map gR)))(nd:F.Nodup)(lt:∀x∈F,x < n)(al:∀x,x < n->x∈F)(G:L9 E F)(gl:s[nf]?=some (.lam kP))
  (hq:∀(N:Nat->Nat)(u:aZ),(∀x,x < n->N x=vy (λp=>N p.2) (E x))->u[s.length]?=some (.lst (br n λi=>.int (N i:Nat)))->eX s u->Q (.ref s.length) u):wp (jz [.ref ns,.ref no,.fn nf]) Q s:=by
 obtain⟨rs,h1,Y,h3⟩:=id g.at_;have c1:n<=fu:=iB (by ext);have w:∀(A:List D->aZ->Prop),wp (collect (aQ 0) bN (aM (.int 0)) (i5 ns (rs.map D.ref)) (rs.map D.ref) [none]) A s=A (br n λ_=>.int 0) s:=λA=>by rw[Ba (f:=λ_=>.int 0) (show i5 ns _ _ from h1) (λk d hd Q=>by simp![]),ae,Y]
 (simp![jz];simp![jW,↓e_ h1,ib,↓w,ae,Y,c1])
 have a1:(s++[MO.lst (br n λ_=>D.int 0)])[s.length]?=some (.lst (br n λi=>.int ((λ_=>0:Nat->Nat) i:Nat))):=pE;have a3:eX s (s++[MO.lst (br n λ_=>D.int 0)]):=(eX.refl _).snoc _;generalize s++[MO.lst (br n λ_=>D.int 0)]=s1 at *;rw[e_ (a3.at_ go)];refine ul (λi l v=>∃(N:Nat->Nat)(J:Option D),l=[some (.ref ns),some (.ref no),some (.fn nf),some (.ref s.length),J]/\(∀x∈F.take i,N x=vy (λp=>N p.2) (E x))/\v[s.length]?=some (.lst (br n λi=>.int (N i:Nat)))/\eX s v) (λ_ _ _ w=>by obtain⟨_,_,_,_,_,e⟩:=w;exact e.at_ go)
  ⟨λ_=>0,_,rfl,by simp,a1,a3⟩ (λR i d l v up rt hd O=>?_) (λl v O=>?_)
 ·obtain⟨N,J,el,hN,I,H⟩:=O;subst el;rw[ar]at hd;cases ex:F[i]? with
  |none=>rw[ex]at hd;cases hd
  |some x=>
   rw[ex]at hd;have ed:d=.int (x:Nat):=(aE hd).symm;subst ed;have B:=lt x (aA ex);obtain⟨u,r,k1,k2,U,k4⟩:=(g.ext H).row B;have l:F.take (i+1)=F.take i++[x]:=by rw[dQ,ex];rfl
   have L:x∉F.take i:=λz=>by
    obtain⟨j,h⟩:=bp.mp z;have c:j < i:=by have:=(ac.mp h).1;rw[bX]at this;ext
    rw[cZ c]at h;exact bn ((fM (ac.mp h).1 nd).mp (h.trans ex.symm)) (bb c)
   have few:=g.few x B;have cc:∀(A:List D->aZ->Prop),wp (collect (gQ 2 (cJ (aQ 0) (cJ (aQ 1) hU))) bN (c2 fw (pe sy (aq 2) (aw (aq 4) (aw (aq 0) bh))) (c2 aU (aq 3) (aq 1))) (i5 r ((E x).map zT)) ((E x).map zT) [none,none,some (.fn nf),some (.ref s.length),some (.int (x:Nat))]) A v=A (br (E x).length λi=>D.int ((((E x)[i]?.map λp=>N p.2+1).getD 0:Nat):Int)) v:=λA=>by
    rw[Do (caps:=[some (.fn nf),some (.ref s.length),some (.int (x:Nat))]) (f:=λi=>D.int ((((E x)[i]?.map λp=>N p.2+1).getD 0:Nat):Int)) U (λj d hd=>?_),ae];rw[ar]at hd;cases ep:(E x)[j]? with
    |none=>rw[ep]at hd;cases hd
    |some p=>
     rw[ep]at hd;have C:=g.wf x B p (aA ep);refine⟨_,_,(aE hd).symm,λQ=>?_⟩;have q3:∀(Q:D->aZ->Prop)s,wp (cG (br n λi=>D.int (N i:Nat)) ((p.2:Nat):Int)) Q s=Q (.int (N p.2:Nat)) s:=λQ s=>xW C;have Y:∀a b Q,wp (qH sy (.fn nf) [a,b]) Q v=Q (.int 1) v:=λa b Q=>TN (H.at_ gl);simp![↓T8,↓Y,↓e_ I,↓q3,du,fq];rw[show (1+(N p.2:Int))=((N p.2+1:Nat):Int) by ext]
   have cl:(E x).length<=fu:=iB (by ext);have mm:=λQ=>@Ds v Q (λi=>((E x)[i]?.map λp=>N p.2+1).getD 0) (E x).length;have ln:s.length < v.length:=ik I;have gs:∀y R,wp (iI (.ref s.length) (.int ((x:Nat):Int)) y) R v=R () (v.set s.length (.lst ((br n λi=>D.int (N i:Nat)).set x y))):=λy R=>GB I (by rw[m6];exact B);simp![↓Nv,↓k1,↓k2,↓e_ U,ib,↓cc,ae,cl,↓mm,↓gs];refine up ⟨λy=>if y=x then vy (λp=>N p.2) (E x) else N y,_,rfl,λy o=>?_,?_,H.put (av _)⟩
   ·have same:∀z,(∀p∈E z,p.2∈F.take i)->vy (λp:Nat×Nat=>if p.2=x then vy (λp=>N p.2) (E x) else N p.2) (E z)=vy (λp=>N p.2) (E z):=λz hz=>Np λp C=>aC λ(q:p.2=x)=>L (by rw[<- q];exact hz p C);rw[l]at o;dsimp only;by_cases e:y=x
    ·subst e;rw[aG rfl,same y (G i y ex)]
    ·rw[aC e];rcases aX.mp o with o|o
     ·obtain⟨j,h⟩:=bp.mp o;have c:j < i:=by have:=(ac.mp h).1;rw[bX]at this;ext
      rw[cZ c]at h;rw[same y λp C=>fN (by rw[List.take_take,Nat.min_eq_left (lw c)];exact G j y h p C),hN y o]
     ·exact bn (aJ.mp o) e
   ·rw[au ln,KU B];congr 3;funext j;dsimp only;by_cases e:j=x
    ·subst e;rw[aG rfl,aG rfl];rfl
    ·rw[aC e,aC e]
 ·obtain⟨N,J,el,hN,I,H⟩:=O;subst el;simp![];rw[ae,cT]at hN;exact hq N v (λx B=>hN x (al x B)) I H
noncomputable def Oc(E:Nat->List (Nat×Nat))(x:Nat):Prop:=∃p∈E x,Rc E p.2 x
theorem V5(g:wE n E ns s)(hn:n<=400)(h1:∀F r u,F.Nodup->(∀x∈F,x < n)->(∀x,x < n->x∈F)->L9 E F->u[r]?=some (.lst (F.map gR))->s.length<=r->eX s u->Q (.ref r) u)
  (h2:∀x u,x < n->Oc E x->eX s u->Q .non u):wp (jh [.ref ns]) Q s:=by
 (simp![jh];simp![jI])
 refine TX g hn λF no c I al go lo O=>?_;have g1:=g.ext O;obtain⟨rs,r1,r2,r3⟩:=id g1.at_;have c1:n<=fu:=iB (by ext);have nd:F.Nodup:=by have:=I.nd;rwa [bI]at this
 have lt:∀x∈F,x < n:=λx h=>I.lt x (by rw[bI];exact h);have w:∀(A:List D->aZ->Prop),wp (collect (aQ 0) bN (aM (.bl false)) (i5 ns (rs.map D.ref)) (rs.map D.ref) [none]) A c=A (seen n []) c:=λA=>by rw[Ba (f:=λ_=>.bl false) (show i5 ns _ _ from r1) (λk d hd Q=>by simp![]),ae,r2,LF]
 simp![↓e_ r1,ib,↓w,ae,r2,c1];have a1:(c++[MO.lst (seen n [])])[c.length]?=some (.lst (seen n (F.take 0))):=pE;have a3:eX c (c++[MO.lst (seen n [])]):=(eX.refl _).snoc _;generalize c++[MO.lst (seen n [])]=s2 at *;rw[e_ (a3.at_ go)];refine ul (λi l v=>∃(L:Option D),l=[some (.ref ns),some (.ref no),some (.ref c.length),L]/\(∀(j x:Nat),j < i->F[j]?=some x->∀p∈E x,p.2∈F.take j)/\v[c.length]?=some (.lst (seen n (F.take i)))/\eX c v) (λ_ _ _ w=>by obtain⟨_,_,_,_,e⟩:=w;exact e.at_ go)
  ⟨_,rfl,λj x C=>bn C (by ext),a1,a3⟩ (λR i d l v up rt hd hW=>?_) (λl v hW=>?_)
 ·obtain⟨L,el,hF,H,G⟩:=hW;subst el;rw[ar]at hd;cases ex:F[i]? with
  |none=>rw[ex]at hd;cases hd
  |some x=>
   rw[ex]at hd;have ed:d=.int (x:Nat):=(aE hd).symm;subst ed;have h:=lt x (aA ex);obtain⟨rs',r,k1,k2,k3,k4⟩:=(g1.ext G).row h;have U:F.take (i+1)=F.take i++[x]:=by rw[dQ,ex];rfl
   have few:=g.few x h;have cc:∀(A:List D->aZ->Prop),wp (collect (gQ 2 (cJ (aQ 0) (cJ (aQ 1) hU))) bN (c2 aU (aq 2) (aq 1)) (i5 r ((E x).map zT)) ((E x).map zT) [none,none,some (.ref c.length)]) A v=A (br (E x).length λj=>D.bl (bP (∀p,(E x)[j]?=some p->p.2∈F.take i))) v:=λA=>by
    rw[Do (caps:=[some (.ref c.length)]) (f:=λj=>D.bl (bP (∀p,(E x)[j]?=some p->p.2∈F.take i))) k3 (λj d hd=>?_),ae];rw[ar]at hd;cases ep:(E x)[j]? with
    |none=>rw[ep]at hd;cases hd
    |some p=>
     rw[ep]at hd;have o:=g.wf x h p (aA ep);refine⟨_,_,(aE hd).symm,λQ=>?_⟩;have q3:∀(Q:D->aZ->Prop)s,wp (cG (seen n (F.take i)) ((p.2:Nat):Int)) Q s=Q (.bl (decide (p.2∈F.take i))) s:=λQ s=>Jt o;simp![↓e_ H,↓q3];congr 2;by_cases e:p.2∈F.take i
     ·rw[bB e,J3 λq c=>by cases c;exact e]
     ·rw[aR e,ID λz=>e (z p rfl)]
   have cl:(E x).length<=fu:=iB (by ext);simp![↓k1,↓k2,↓e_ k3,ib,↓cc,ae,cl,↓Oy];by_cases J:∀j,j < (E x).length->∀p,(E x)[j]?=some p->p.2∈F.take i
   ·rw[J3 J];have q:c.length < v.length:=ik H;have Y:MM.my (seen n (F.take i)).length ((x:Nat):Int)=some x:=FX (by unfold seen;rw[m6];exact h);simp![cU,aL,if_false,↓e_ H,Y,↓nK H];refine up ⟨_,rfl,λj y C l p o=>?_,?_,G.put (av _)⟩
    ·by_cases e:j=i
     ·subst e;rw[ex]at l;cases l;obtain⟨m,g⟩:=bp.mp o;exact J m (ac.mp g).1 p g
     ·exact hF j y (by ext) l p o
    ·rw[au q,Gn h,<- U]
   ·rw[ID J];simp![h9,if_true];refine rt ?_
    show wp (wS (.ret .non)) Q v;simp![];refine h2 x v h ?_ (O.trans G);refine qv λu=>J λj C p o=>?_;have B:=aA o;rcases I.fo i x ex x (by rw[U];simp) p B with z|z
    ·rw[U]at z;rcases aX.mp z with z|z
     ·exact z
     ·exact bn ⟨p,B,by rw[aJ.mp z];exact .refl _⟩ u
    ·exact bn ⟨p,B,z⟩ u
 ·obtain⟨L,el,hF,H,G⟩:=hW;subst el;simp![];refine h1 F no v nd lt al (λj x C p o=>hF j x ?_ C p o) (G.at_ go) lo (O.trans G);rw[ae];exact (ac.mp C).1
end
open PySem (Str)
section
variable{s u s0:aZ}{Q:D->aZ->Prop}{l:Loc}{h:Hs}{ys:List Sd}{no ns nd nn:Nat}{N:Sd->Nat}
def tz(h:Hs)(ys:List Sd)(N:Sd->Nat):Prop:=∀x∈ys,N x=vy (λk=>N (kn h x k)) (fY h x)
def AE(h:Hs)(ys R:List Sd):Prop:=(∀x∈ys,x∈R)/\∀(i:Nat)(z:Sd),R[i]?=some z->∀k∈fY h z,kn h z k∈R.take i
theorem tz.uniq{R:List Sd}{N v:Sd->Nat}(B:AE h ys R)(G:∀x∈R,x∈ys)(a:tz h ys N)(b:tz h ys v):∀x∈ys,N x=v x:=by
 have key:∀(m i:Nat)(z:Sd),i < m->R[i]?=some z->N z=v z:=λm=>by
  induction m with
  |zero=>intro i z q;ext
  |succ m ih=>
   intro i z q hz;have c:=G z (aA hz);rw[a z c,b z c];refine Np λk E=>?_;obtain⟨j,o⟩:=bp.mp (B.2 i z hz k E);have g:j < i:=by have:=(ac.mp o).1;rw[bX]at this;ext
   rw[cZ g]at o;exact ih j _ (by ext) o
 intro x C;obtain⟨i,q⟩:=bp.mp (B.1 x C);exact key (i+1) i x (by ext) q
theorem UT{n:Nat}:wp (wU (.ref n) .non) Q s=Q (.bl false) s:=dH rfl
theorem HB:wp (wU .non .non) Q s=Q (.bl true) s:=dH rfl
theorem Oj(t:s[0]?=some (.tbl "graph_numbers")):wp (ug 0 "graph_numbers" kP l) Q s=Q (.fn s.length) (s++[.lam kP]):=by refine dH ?_;unfold ug;rw[t];exact aG rfl
theorem P9{F:Sd->D}(c:ys.Nodup):(ys.map cw).zipWith (λp q=>D.tup [p,q]) (br ys.length λi=>((ys[i]?).map F).getD .non)=ys.map λx=>D.tup [cw x,F x]:=by
 apply fL;intro i;rw[fC,ar,ar];cases e:ys[i]? with
 |none=>rfl
 |some x=>rw[wQ (ac.mp e).1,e];rfl
theorem U2{F:Sd->D}{r:Nat}(c:ys.Nodup)(g:ys.length<=1000)(q:s[no]?=some (.lst (ys.map cw)))(o:s[r]?=some (.lst (br ys.length λi=>((ys[i]?).map F).getD .non))):wp (qF (.ref no) (.ref r)) Q s=Q (.dic s.length) (s++[.dct true (gN ys F)]):=by unfold qF;rw[d0,e_ q,d0,e_ o,P9 c];exact Ms c g
theorem Vm(Y:ys.Nodup)(hl:ys.length<=324)(v:∀x∈ys,∀k∈fY h x,kn h x k∈ys)(t0:s[0]?=some (.tbl "graph_numbers"))(gy:s[no]?=some (.lst (ys.map cw)))(g:wE ys.length (eF h ys) ns s)
  (h1:∀N R d u,tz h ys N->AE h ys R->(∀x∈R,x∈ys)->u[d]?=some (.dct true (gN ys λx=>.int (N x:Nat)))->s.length<=d->eX s u->Q (.dic d) u)
  (h2:∀x u,x∈ys->TS (AC h) x x->eX s u->Q .non u):wp (je [.tup [.ref no,.ref ns]]) Q s:=by
 (simp![je];simp![jJ])
 refine V5 g (by ext) (λF r o nd lt al E go lr H=>?_) (λx o c cy H=>?_)
 ·have q0:∀Q,wp (ug 0 "graph_numbers" kP [some (.tup [.ref no,.ref ns]),some (.ref ns),some (.ref r)]) Q o=Q (.fn o.length) (o++[.lam kP]):=λQ=>Oj (H.at_ t0);simp![↓UT,aL,if_false,↓q0];have U:eX o (o++[MO.lam kP]):=(eX.refl _).snoc _;have gl:(o++[MO.lam kP])[o.length]?=some (.lam kP):=pE;generalize o++[MO.lam kP]=s2 at *;have G:=H.trans U;refine Sf (g.ext G) (by ext) (U.at_ go) nd lt al E gl λM s3 hM l L=>?_;have ge:(br ys.length λi=>D.int (M i:Nat))=br ys.length λi=>((ys[i]?).map λx=>D.int (M (ys.idxOf x):Nat)).getD .non:=by
   refine FZ m6 λi q=>?_;rw[wQ q,ai q]
   show some (D.int (M i:Nat))=some (D.int (M (ys.idxOf ys[i]):Nat));have:=(fM (ce.mpr (bY q)) Y).mp ((xU (bY q)).trans (ai q).symm);rw[this]
  rw[ge]at l;have u:=λQ=>@U2 s3 Q ys no (λx=>D.int (M (ys.idxOf x):Nat)) s2.length Y (by ext) ((G.trans L).at_ gy) l;simp![↓u];refine h1 (λx=>M (ys.idxOf x)) (F.map λi=>(ys[i]?).getD ⟨[],[]⟩) _ _ (λx c=>?_) ⟨λx c=>?_,λi z hz k B=>?_⟩ (λx c=>?_) pE (by have:=(G.trans L).le;ext) ((G.trans L).snoc _)
  ·have q:=ce.mpr c
   show M (ys.idxOf x)=_;rw[hM _ q];unfold eF;rw[xU c];exact NC
  ·have q:=ce.mpr c;exact bU.mpr ⟨ys.idxOf x,al _ q,by rw[xU c];rfl⟩
  ·rw[ar]at hz;cases J:F[i]? with
   |none=>rw[J]at hz;cases hz
   |some j=>
    rw[J]at hz;have I:=lt j (aA J);have c:z=ys[j]:=by have:=(aE hz).symm;dsimp only at this;rw[ai I]at this;exact this
    have C:ys[j]?=some z:=by rw[c];exact ai I
    have O:=v z (aA C) k B;have:=E i j J (k,ys.idxOf (kn h z k)) ((IP C).mpr ⟨B,rfl⟩);rw[<- List.map_take];exact bU.mpr ⟨_,this,by rw[xU O];rfl⟩
  ·obtain⟨j,I,rfl⟩:=bU.mp c;rw[ai (lt j I)];exact bY _
 ·simp![↓HB,if_true];obtain⟨⟨k,t⟩,l,g⟩:=cy;have C:=ai c;obtain⟨B,e⟩:=(IP C).mp l;have O:=v ys[x] (bY c) k B;have q:ys[t]?=some (kn h ys[x] k):=by rw[<- e];exact xU O
  refine h2 ys[x] o (bY c) ?_ H;rcases DD v g q C with z|z
  ·exact .one ⟨k,B,z⟩
  ·exact .more ⟨k,B,rfl⟩ z
theorem FG{most:Nat}(o:vH h)(I:∀i,rp h i->(d8 h i).length<=most)(q:s[0]?=some (.tbl "graph_numbers"))
  (U:∀i N R d u,rB h i->tz h (d8 h i) N->AE h (d8 h i) R->(∀x∈R,x∈d8 h i)->u[d]?=some (.dct true (gN (d8 h i) λx=>.int (N x:Nat)))->s.length<=d->eX s u->Q (.dic d) u)
  (O:∀i x u,rB h i->x∈d8 h i->TS (AC h) x x->eX s u->Q .non u):wp (jb [kD h,.int (most:Nat)]) Q s:=by
 have hh:=o.1
 (simp![jb];simp![jT])
 refine O0 o I λi no nd ns rs u st gl H Y E G B ex=>?_;have len:=LA st;have g:=QM (h:=h) (ys:=d8 h i) hh Y (by ext) B;have J:(d8 h i).length<=324:=(DR o st.1).1;simp![];refine Vm (xz hh i).1 J (λx C k L=>KC hh st C L) (ex.at_ q) gl g (λN R d v a b c e f x=>?_) (λx v a b c=>?_)
 ·simp![];exact U i N R d v st a b c e (by have:=ex.le;ext) (ex.trans x)
 ·simp![];exact O i x v st a b (ex.trans c)
end
open PySem (Str)
section
variable{s u:aZ}{Q:D->aZ->Prop}{l:Loc}{h:Hs}{ys:List Sd}{nd nn:Nat}{N:Sd->Nat}
def qj(h:Hs)(x:Sd):List (Nat×Sd):=(fY h x).map λk=>(k,kn h x k)
theorem Sm{lo:Nat}(g:HU h lo ys nd u):GN ys (qj h) nd u:=by obtain⟨c,v,q⟩:=g;refine⟨c,v,λx o=>?_⟩;rw[(q x o).2.2];unfold zx nD qj;rw[dD];rfl
theorem LG(hh:j_ h):∀zs:List Sd,mC zs (qj h)<=3*zs.length
 |[]=>by simp[mC]
 |z::zs=>by have c:=LG hh zs;unfold mC qj at c ⊢;rw[aK,gL,ae,bC];have:=EW hh (x:=z);ext
theorem U9{A B C:CE}: wp (vI A B C l) Q s=wp (A l) (λx v=>match x with
  | .dic n=>wp (getDc n) (λp q=>p.1=true/\wp (B l) (λy o=>wp (C l) (λz g=>wp (getDc n) (λp c=>(p.1=true/\m5 true y=true)/\Q ((lV p.2 y).getD z) c) g) o) q) v
  |_=>False) s:=by
 unfold vI;rw[d0];refine kC λx v=>?_;cases x<;>first|exact tJ rfl|skip
 dsimp only;rw[d0];refine kC λp q=>?_;rw[d9,d0];congr 1;refine kC λy o=>?_;rw[d0];refine kC λz g=>?_;rw[d0];refine kC λp c=>?_;rw[d9,cL]
theorem Ft{c:List (D×D)}{R:List (D×D)->aZ->Prop}(g:s[nn]?=some (.dct true c)\/s[nn]?=some (.dcf c)):wp (getDf nn) R s=R c s:=by refine dH ?_;unfold getDf;rcases g with g|g<;>rw[g]
theorem QA{c:List (D×D)}(g:s[nn]?=some (.dct true c)):wp (nX (.dic nn)) Q s=Q (.bl true) s:=by show wp (bnd (getDf nn) λ_=>ret (.bl true)) Q s=_;rw[d0,Ft (.inl g),cL]
theorem PY(hh:j_ h)(hn:ys.Nodup)(hl:ys.length<=324)(E:∀x∈ys,∀k∈fY h x,kn h x k∈ys)(hN:tz h ys N)(g:GN ys (qj h) nd s)(o:s[nn]?=some (.dct true (gN ys λx=>.int (N x:Nat))))(hq:Q (.bl true) s):wp (jy [.dic nn,.dic nd]) Q s:=by
 obtain⟨L,H,g2⟩:=g;have q0:∀Q,wp (nX (.dic nn)) Q s=Q (.bl true) s:=λQ=>QA o;have q1:∀Q,wp (fX (.dic nn)) Q s=Q (.int (ys.length:Nat)) s:=λQ=>by rw[FJ o,BA]
 have q2:∀Q,wp (fX (.dic nd)) Q s=Q (.int (ys.length:Nat)) s:=λQ=>by rw[FJ H,BA]
 (simp![jy];simp![jY,↓q0,↓q1,↓q2,beq_self_eq_true,cU,aL,if_false,↓MC,↓uT H])
 refine ul (λi l v=>∃(B q:Option D),l=[some (.dic nn),some (.dic nd),B,q]/\v=s) (λ_ _ _ w=>by obtain⟨_,_,_,rfl⟩:=w;exact H)
  ⟨_,_,rfl,rfl⟩ (λR i d l v up rt hd G=>?_) (λl v G=>?_)
 ·obtain⟨B,q,el,J⟩:=G;subst el J;unfold gN at hd;rw[dD,ar]at hd;cases I:ys[i]? with
  |none=>rw[I]at hd;cases hd
  |some x=>
   rw[I]at hd;have ed:d=D.tup [cw x,.ref (L x)]:=(aE hd).symm;subst ed;have c:=aA I;have C:∀y∈ys,lV (gN ys λx=>D.int (N x:Nat)) (cw y)=some (.int (N y:Nat)):=λy l=>by rw[B6,aG l]
   have g:∀Q,wp (hasK nn (cw x)) Q v=Q true v:=λQ=>by rw[Gk o (sJ x),C x c];rfl
   have u:∀Q,wp (itemK nn (cw x)) Q v=Q (.int (N x:Nat)) v:=λQ=>A5 o (sJ x) (C x c);have Y:∀i(Q:D->aZ->Prop),wp (jm [.int i]) Q v=Q (.bl true) v:=λi Q=>Vd;have U:=g2 x c;have few:(qj h x).length<=3:=by unfold qj;rw[ae];exact EW hh
   have cc:∀(A:List D->aZ->Prop),wp (collect (gQ 2 (cJ (aQ 0) (cJ (aQ 1) hU))) bN (c2 fw (aM (.int 1)) (vI (aq 2) (aq 1) (c1 rC (aM (.int 9))))) (i5 (L x) ((qj h x).map nD)) ((qj h x).map nD) [none,none,some (.dic nn)]) A v=A (br (qj h x).length λi=>D.int ((((qj h x)[i]?.map λp=>N p.2+1).getD 0:Nat):Int)) v:=λA=>by
    rw[Do (caps:=[some (.dic nn)]) (f:=λi=>D.int ((((qj h x)[i]?.map λp=>N p.2+1).getD 0:Nat):Int)) U (λj d hd=>?_),ae];rw[ar]at hd;cases ep:(qj h x)[j]? with
    |none=>rw[ep]at hd;cases hd
    |some p=>
     rw[ep]at hd;obtain⟨k,H,rfl⟩:=bU.mp (aA ep);refine⟨_,_,(aE hd).symm,λQ=>?_⟩;simp![↓U9,↓uT o,sJ,C _ (E x c k H),du,fq,true_and];rw[show (1+(N (kn h x k):Int))=((N (kn h x k)+1:Nat):Int) by ext]
   have cl:(qj h x).length<=fu:=iB (by ext);have O:=λQ=>@Ds v Q (λi=>((qj h x)[i]?.map λp=>N p.2+1).getD 0) (qj h x).length;have eN:mx (λi=>((qj h x)[i]?.map λp=>N p.2+1).getD 0) (qj h x).length=N x:=by
    rw[hN x c]
    show vy (λp:Nat×Sd=>N p.2) (qj h x)=_;unfold qj;exact NC
   rw[eN]at O;simp![↓g,↓u,↓Y,cU,aL,if_false,↓Nv,↓e_ U,ib,↓cc,ae,cl,↓O,beq_self_eq_true];exact up ⟨_,_,rfl,rfl⟩
 ·obtain⟨B,q,el,J⟩:=G;subst el J;simp![];exact hq
theorem Mc{g:List D->M D}{a:CA}{d:D}:wp (pb g a d l) Q s=wp (a l) (λds c=>wp (g (ds++[d])) Q c) s:=by unfold pb;rw[d0]
open Classical in
theorem VO{c:List (D×D)}(g:s[nn]?=some (.dct true c))(o:sA c):wp (pf (.dic nn)) Q s=Q (.dic s.length) (s++[.dcf c]):=by unfold pf;rw[d0,Ft (.inl g),d9];have:wp (wm c) Q s=Q (.dic s.length) (s++[.dcf c]):=dH rfl;rw[this];exact propext ⟨λz=>z.2,λz=>⟨o,z⟩⟩
theorem N8{a:CE}: wp (oR a l) Q s=wp (a l) (λx c=>wp (match x with
  | .dic n=>tV n
  |_=>bad) Q c) s:=by unfold oR;exact d0
theorem Ry{c:List (D×D)}(g:s[nn]?=some (.dct true c)):wp (tV nn) Q s=Q .non (s.set nn (.dcf [])):=by refine dH ?_;unfold tV;rw[g]
open Classical in
theorem NP{a b:Nat}{c:List (D×D)}(q:s[a]?=some (.dct true c))(o:s[b]?=some (.dcf c))(g:∀p∈c,uk p.2):wp (um (.dic a) (.dic b)) Q s=Q (.bl true) s:=by unfold um;rw[d0,Ft (.inl q),d0,Ft (.inr o),d9,cL];exact propext ⟨λz=>z.2,λz=>⟨⟨rfl,g⟩,z⟩⟩
theorem Sb{zs:List Sd}{x:Sd}(hz:zs≠[]):ie zs x≠[]:=by
 unfold ie;split
 ·exact hz
 ·simp
theorem Lu:∀(rows:List (List D))(zs:List Sd),zs≠[]->rows.foldl (λys row=>ie ys (lg h row)) zs≠[]
 |[],_,hz=>hz
 |r::rows,zs,hz=>Lu rows _ (Sb hz)
theorem RP(hh:j_ h)(i:Nat):d8 h i≠[]:=λz=>by
 have o:=FW (h:=h) (bx i);rw[z]at o;have c:d8 h 0=[]:=qW (by simpa using o);have g:(lP h.hands.length).length=2^h.hands.length:=JR _
 show False
 change kQ h (lP h.hands.length)=[]at c
 unfold kQ at c;cases e:lP h.hands.length with
 |nil=>rw[e]at g;have:=Nat.two_pow_pos h.hands.length;simp at g;ext
 |cons r rows=>rw[e]at c;exact Lu rows _ (show ie [] (lg h r)≠[] by unfold ie;rw[aC (by simp)];simp) c
end
theorem Sr(ns:List Int)(hn:ns.length<=63)(s0:aZ)(t0:s0[0]?=some (.tbl "graph_numbers"))(Q:D->aZ->Prop)(hQ:∀s,Q (.bl true) s):wp (jN [.lit (ns.map D.int)]) Q s0:=by
 have ls0:=ik t0
 (simp![jN];simp![yh])
 refine Pe λp q s1 hp1 lp lq x1=>?_;simp![];refine UE hp1 λh s2 I hp2 k2=>?_;have hh:=I.1;have t2:s2[0]?=some (.tbl "graph_numbers"):=by rw[k2.at_ 0 (by have:=x1.le;ext) (by ext) (by ext)];exact x1.at_ t0
 simp![];have Y:∀j,rp h j->(d8 h j).length<=500:=λj gj=>by have:=(DR I gj).1;ext
 refine Se I λi ny s3 st gy hr3 x3=>?_;have hl:=(DR I st.1).1;have u:=(xz hh i).1;have ho:=(xz hh i).2;have hcl:∀x∈d8 h i,∀k∈fY h x,kn h x k∈d8 h i:=λx c k B=>KC hh st c B;have cl:∀x∈d8 h i,∀p∈qj h x,p.2∈d8 h i:=λx c p hp=>by obtain⟨k,B,rfl⟩:=bU.mp hp;exact hcl x c k B
 have L:mC (d8 h i) (qj h)<=1000:=cS (LG hh (d8 h i)) (by ext);have O:∀j,rp h j->(d8 h j).length<=(d8 h i).length:=λj gj=>by
  rcases Fl i j with e|e
  ·exact bn (gj i e) (by have:=st.2;ext)
  ·exact FW e
 have h0:=RP hh i;simp![];refine Sz hh gy u ho hl λs4 nx x4=>?_;have G4:GN (d8 h i) (qj h) s3.length s4:=Sm nx;have x24:=x3.trans x4;have t4:=x24.at_ t2;have J:∀{v},eX s4 v->GN (d8 h i) (qj h) s3.length v:=λxv=>by obtain⟨rF,g1,g2⟩:=G4;exact⟨rF,xv.at_ g1,λx c=>xv.at_ (g2 x c)⟩
 have o:∀{v},eX s4 v->∀Q,wp (fX (.dic s3.length)) Q v=Q (.int ((d8 h i).length:Nat)) v:=λxv Q=>by obtain⟨rF,g1,_⟩:=J xv;rw[FJ g1,BA]
 simp![↓Mc,ij,rg];refine FG (most:=500) I Y t4 (λi' N R d s5 st' hN hf hR gd ld x5=>?_) (λi' x s5 st' c cy x5=>?_)
 ·cases st.uniq st';simp![];refine Li u hl cl L (J x5) λrow r G rn rk ri rc gr lr x6=>?_;have E:∀x∈d8 h i,x∈row:=λx c=>by
   have key:∀(m j:Nat)(z:Sd),j < m->R[j]?=some z->z∈row:=λm=>by
    induction m with
    |zero=>intro j z hj;ext
    |succ m ih=>
     intro j z hj hz;refine rc z (hR z (aA hz)) λp hp=>?_;obtain⟨k,B,rfl⟩:=bU.mp hp;obtain⟨t,ht⟩:=bp.mp (hf.2 j z hz k B);have hji:t < j:=by have:=(ac.mp ht).1;rw[bX]at this;ext
     rw[cZ hji]at ht;exact ih t _ (by ext) ht
   obtain⟨j,hj⟩:=bp.mp (hf.1 x c);exact key (j+1) j x (by ext) hj
  have le:=CD u E;have g:=x5.trans x6;have q1:=λQ=>o g Q;simp![↓e_ gr,ae,↓q1];rw[aC (by ext)];refine PY hh u hl hcl hN (J g) (x6.at_ gd) ?_;have v:=x6.at_ gd;have ap:sA (gN (d8 h i) λx=>D.int (N x:Nat)):=Qv I u ho h0;have q3:=λQ=>@VO G Q d _ v ap;simp![cU,aL,if_false,↓q3];have gk:(G++[MO.dcf (gN (d8 h i) λx=>D.int (N x:Nat))])[G.length]?=some (.dcf (gN (d8 h i) λx=>.int (N x:Nat))):=pE;have gd7:=pk (b:=MO.dcf (gN (d8 h i) λx=>D.int (N x:Nat))) v;have x7:eX s4 (G++[MO.dcf (gN (d8 h i) λx=>D.int (N x:Nat))]):=g.snoc _;have ne7:d≠G.length:=bb (ik v);generalize G++[MO.dcf (gN (d8 h i) λx=>D.int (N x:Nat))]=s7 at *;simp![↓N8,↓Ry gd7];have x8:eX s4 (s7.set d (.dcf [])):=x7.put ld;have Dy:(s7.set d (.dcf []))[G.length]?=some (.dcf (gN (d8 h i) λx=>.int (N x:Nat))):=by rw[af ne7];exact gk
  generalize s7.set d (.dcf [])=s8 at *;have U:∀p∈(gN (d8 h i) λx=>D.int (N x:Nat)),uk p.2:=λp hp=>by
   obtain⟨x,_,rfl⟩:=bU.mp hp
   trivial
  have same:∀N',tz h (d8 h i) N'->(gN (d8 h i) λx=>D.int (N' x:Nat))=gN (d8 h i) λx=>D.int (N x:Nat):=λN' hN'=>dg λx c=>by dsimp only;rw[tz.uniq hf hR hN' hN x c]
  simp![↓Mc,ij,rg];refine FG (most:=500) I Y (x8.at_ t4) (λi2 N2 R2 d2 s9 q hN2 _ _ gd2 _ x9=>?_) (λi2 x s9 q c cy _=>?_)
  ·cases st.uniq q;rw[same N2 hN2]at gd2;have v:=λQ=>@NP s9 Q d2 G.length _ gd2 (x9.at_ Dy) U;have u:=λQ=>o (x8.trans x9) Q;simp![↓v,↓u,if_true];refine FG (most:=(d8 h i).length) I O ((x8.trans x9).at_ t4) (λi3 N3 R3 d3 H l hN3 _ _ gd3 _ x10=>?_) (λi3 x H l c cy _=>?_)
   ·cases st.uniq l;rw[same N3 hN3]at gd3;have g:=λQ=>@NP H Q d3 G.length _ gd3 ((x9.trans x10).at_ Dy) U;simp![↓g];exact hQ _
   ·cases st.uniq l;exact bn cy (FE (S:=AC h) (row:=row) (λj z hz y C=>by obtain⟨k,B,rfl⟩:=C;exact rk j z hz (k,kn h z k) (bU.mpr ⟨k,B,rfl⟩)) (E x c))
  ·cases st.uniq q;exact bn cy (FE (S:=AC h) (row:=row) (λj z hz y C=>by obtain⟨k,B,rfl⟩:=C;exact rk j z hz (k,kn h z k) (bU.mpr ⟨k,B,rfl⟩)) (E x c))
 ·cases st.uniq st';simp![];refine Li u hl cl L (J x5) λrow r G rn rk ri rc gr lr x6=>?_;have Y:x∉row:=λhr=>FE (S:=AC h) (row:=row) (λj z hz y C=>by obtain⟨k,B,rfl⟩:=C;exact rk j z hz (k,kn h z k) (bU.mpr ⟨k,B,rfl⟩)) hr cy;have less:row.length < (d8 h i).length:=by
   have:=CD (R:=x::row) (U:=d8 h i) (eL.mpr ⟨Y,rn⟩) λy C=>by
    rcases aP.mp C with rfl|C
    ·exact c
    ·exact ri y C
   simp at this;ext
  have g:=x5.trans x6;have q1:=λQ=>o g Q;simp![↓e_ gr,ae,↓q1];rw[aG (by ext)];have E:=λQ=>o g Q;simp![↓HB,if_true,↓E];refine FG (most:=(d8 h i).length) I O (g.at_ t4) (λi3 N3 R3 d3 H l hN3 q hR3 gd3 _ x10=>?_) (λi3 y H l C cy2 x10=>?_)
  ·cases st.uniq l;have v:Rk (AC h) R3:=λj z hz y C=>by obtain⟨k,B,rfl⟩:=C;exact q.2 j z hz k B
   exact bn cy (FE v (q.1 x c))
  ·cases st.uniq l;simp![↓HB];exact hQ _
theorem Vo{α:Type}{m:M α}{v:α}{s:aZ}(h:wp m (λa _=>a=v) s):∃c,m s=.ok v c:=by
 rw[sF]at h;cases e:m s with
 |ok a c=>rw[e]at h;exact⟨c,by rw[show a=v from h]⟩
 |exc _ _=>rw[e]at h;exact h.elim
 |bad=>rw[e]at h;exact h.elim
theorem wJ(c:List Int)(h:c.length<=63):∃g,jN [.lit (c.map D.int)] tS=.ok (.bl true) g:=Vo (m:=jN [.lit (c.map D.int)]) (v:=.bl true) (s:=tS) (Sr c h tS rfl (λa _=>a=.bl true) λ_=>rfl)
open PySem PySem.Spec PyProof.Rows L2
theorem J1{l:wl}{q:Program}{c:List Str}{XP:(Str->Option ag)->bA->Prop}{O:bE->bA->Prop}{d:DefRec}{K:Params->aj}(Y:l.most=some 63)(J:d.params.defaults=[])(H:d.name="law")(o:List (ao×Str))(I:(o.map (·.1)).Nodup)(G:(o.map λp=>MO.tbl p.2)=tS)
  (E:∀(w:bE),∀p∈o,TabOf (K w.params) p.2 p.1/\(K w.params).lookup p.1=none) (hY:∀(w:bE)(h:bA),O w h->(K w.params).In h/\∀P∈o.map (·.1),h.get? P=some (fS #[])) (F:∀(w:bE)(mg:Str->Option ag)(h:bA),(K w.params).In h->h.Ns cC mg->Txt (K w.params) mg):
  xQ q c XP O l.row.toRowW d [] (λf Q=>vQ f Q):=by
 refine OZ (n:=63) (k:=8) (x:="_law_script") (g:=jN) o Y (by decide) J ⟨rfl,by decide,by decide⟩ hY I E (λw mg fa h C B v=>?_) (λB hl=>by rw[G];exact wJ B hl);have T:=F w mg h C B;obtain⟨a,fd,L,m⟩:=T.f34;rw[H,m]at v;cases v;refine⟨fd,λs u=>?_,λbase hB=>yi L T hB⟩;obtain⟨oc,od,kV,doc,pm,an,cdv,ct,U,e,lk,hcd⟩:=L.ex;rw[e];exact .of_eq rfl
end My
noncomputable def PySem.W.Fast.tw16831858395427141413:PySem.Program:=PySem.Challenge.pw_pactboards_k29_whole_numbers_of_stands
theorem PySem.W.Fast.te16831858395427141413:PySem.Challenge.pw_pactboards_k29_whole_numbers_of_stands=PySem.W.Fast.tw16831858395427141413:=rfl
namespace PySem.W.Fast
def tw4508828379273691368:=0
def tw6866616813206021718:=0
def tw15933195408034327405:=0
def tw15339616913431269706:=0
def tw14763103709229518547:=0
def tw5928462469007165514:=0
def tw2899162843992197677:=0
def tw17295042096499947732:=0
def tw10172566369050448023:=0
def tw13998251190593045084:=0
def tw8580954093761986813:=0
def tw14073942931590928486:=0
def tw1571637918849217551:=0
def tw13991193840775989393:=0
def tw12017335080823177012:=0
def tw11277484532186682167:=0
def tw6882245677096646936:=0
def tw9978456867868136134:=0
def tw18078994177574744942:=0
def tw4717279708541578044:=0
def tw15489507326271956991:=0
def tw4402093928789491460:=0
def tw15127961865917482050:=0
def tw2908712299126949267:=0
def tw13338970288107277302:=0
def tw11223176963047462407:=0
def tw7641226695726911698:=0
def tw6627727125082173333:=0
def tw3176716419606856046:=0
def tw6458579284331183455:=0
def tw1871160453424407030:=0
def tw11080380230819001776:=0
def tw12098689025990010234:=0
def tw11083231201563949862:=0
def tw3835560023820207828:=0
def tw7337001829361515162:=0
def tw1235299868584874252:=0
def tw16975981893814076762:=0
def tw13646636474969048454:=0
def tw1998783756081013117:=0
def tw1513062120959189638:=0
def tw14781565145268114577:=0
def tw18346949582607509881:=0
def tw438584665593292642:=0
def tw17976784899534585679:=0
def tw3748413058560609867:=0
def tw18343423989652817028:=0
def tw16926787599237482868:=0
def tw16420821056730553899:=0
def tw15904835234334790858:=0
def tw4053734737591937279:=0
def tw5001779709582263332:=0
def tw9098030007391148216:=0
def tw18221524079101411202:=0
def tw3186729709306883235:=0
def tw7642796915193061670:=0
def tw3492018955631577938:=0
def tw1138713663441724811:=0
def tw13016407406202233521:=0
def tw10541526468117426629:=0
def tw14672024228432590767:=0
def tw14811820660742964863:=0
def tw13290465428058785645:=0
def tw12319596557293554523:=0
def tw6188927359521736490:=0
def tw13533297255122385156:=0
def tw13508379148459131832:=0
def tw1108378119713656272:=0
def tw7263776594414577754:=0
def tw11991322545635506700:=0
def tw8165867177946131239:=0
def tw963962279580832541:=0
def tw1057938941165753104:=0
def tw8652785731300016981:=0
def tw16228276682989908948:=0
def tw11704519235141677894:=0
def tw16331190835029170840:=0
def tw12883328437913838311:=0
def tw1835419086415416468:=0
def tw17695086677561335575:=0
def tw16255109951536277629:=0
def tw8285365233020056376:=0
def tw17297689096709020070:=0
def tw4056127295215452372:=0
def tw18432585567747666126:=0
def tw18117339602771673824:=0
def tw2774782661257191424:=0
def tw14342737287365926491:=0
def tw16719843226170548245:=0
def tw4821086518946512572:=0
def tw9274298389792878356:=0
def tw575985224509231003:=0
def tw17946554469771753445:=0
def tw8576750754754575503:=0
def tw10908969344993484739:=0
def tw8208345594502039045:=0
def tw8215455576814326701:=0
def tw7686273520883729839:=0
def tw5240923703625601384:=0
def tw1669528845797667789:=0
def tw16825581179818466454:=0
def tw2637223699466097595:=0
def tw13399381624687217553:=0
def tw1101856290960778233:=0
def tw7978633689799243729:=0
def tw8557566459257493428:=0
def tw13728998417157608971:=0
def tw10075728170268325755:=0
def tw8347686356146285821:=0
def tw9051309267710894599:=0
def tw8120977161101539483:=0
def tw10764392064441125758:=0
def tw4354918016071672631:=0
def tw6370095837678683218:=0
def tw7293536367797788367:=0
def tw17089204484751454109:=0
def tw16969630756895229469:=0
def tw11276774366485629405:=0
def tw8927164832413775051:=0
def tw14678245338326175202:=0
def tw9322791777004531665:=0
def tw17438409822142878619:=0
def tw13095361081939261109:=0
def tw10528938328832615457:=0
def tw1002764316282065050:=0
def tw6702696716209910545:=0
def tw6652012413055057364:=0
def tw958323610538153018:=0
def tw5758186237661344684:=0
def tw16868987979935426534:=0
def tw445342901958013839:=0
def tw5000272126109842264:=0
def tw18369070844893591964:=0
def tw15214343784540374027:=0
def tw18128300261003900215:=0
def tw5312761415460787212:=0
def tw15859358570189675198:=0
def tw5560613968167556981:=0
def tw11595135719284453427:=0
def tw7324481479672843488:=0
def tw14747583062867957466:=0
def tw166299520547107748:=0
def tw12319610028766242832:=0
def tw8246777654667915741:=0
def tw11832946907829846895:=0
def tw10587133737142962031:=0
def tw16204752712613626591:=0
def tw15134115045894593796:=0
def tw1231989882681056861:=0
def tw5915445317499259825:=0
end PySem.W.Fast
open PySem PySem.W PyProof.Rows
set_option maxHeartbeats 0 in
theorem PySem.Challenge.cw_pactboards_k29_whole_numbers_of_stands_holds : PySem.Challenge.rw_pactboards_k29_whole_numbers_of_stands.Holds := by
 w_on;o_law;k_head;(case hw=>w_witness2)
 k_fill
 refine My.J1 (l:=PySem.Challenge.rw_pactboards_k29_whole_numbers_of_stands) rfl rfl rfl [(156,"graph_numbers")] (by decide) rfl ?T (λw h Y=>⟨PySem.W.km_in_of Y,PySem.W.km_tabs_of Y⟩) ?F
 case T=>
  intro w p hp;simp only[aP,cF,or_false]at hp;rcases hp with rfl
  ·refine' MM.zY ?tg0 ?tl0 ?tc0 ?th0 ?tn0
   case tg0|tl0=>k_is
   case tc0=>rfl
   case th0|tn0=>kernel_rfl
 case F=>
  intro w mg h KX G;refine' My.Txt.mk (MM.ia KX G ?a0 ?l0 ?c0 ?k0) (MM.ia KX G ?a1 ?l1 ?c1 ?k1) (MM.ia KX G ?a2 ?l2 ?c2 ?k2) (MM.ia KX G ?a3 ?l3 ?c3 ?k3) (MM.ia KX G ?a4 ?l4 ?c4 ?k4) (MM.ia KX G ?a5 ?l5 ?c5 ?k5) (MM.ia KX G ?a6 ?l6 ?c6 ?k6) (MM.ia KX G ?a7 ?l7 ?c7 ?k7) (MM.ia KX G ?a8 ?l8 ?c8 ?k8) (MM.ia KX G ?a9 ?l9 ?c9 ?k9) (MM.ia KX G ?a10 ?l10 ?c10 ?k10) (MM.ia KX G ?a11 ?l11 ?c11 ?k11) (MM.ia KX G ?a12 ?l12 ?c12 ?k12) (MM.ia KX G ?a13 ?l13 ?c13 ?k13) (MM.ia KX G ?a14 ?l14 ?c14 ?k14) (MM.ia KX G ?a15 ?l15 ?c15 ?k15) (MM.ia KX G ?a16 ?l16 ?c16 ?k16) (MM.ia KX G ?a17 ?l17 ?c17 ?k17) (MM.ia KX G ?a18 ?l18 ?c18 ?k18) (MM.ia KX G ?a19 ?l19 ?c19 ?k19) (MM.ia KX G ?a20 ?l20 ?c20 ?k20) (MM.ia KX G ?a21 ?l21 ?c21 ?k21) (MM.ia KX G ?a22 ?l22 ?c22 ?k22) (MM.ia KX G ?a23 ?l23 ?c23 ?k23) (MM.ia KX G ?a24 ?l24 ?c24 ?k24) (MM.ia KX G ?a25 ?l25 ?c25 ?k25) (MM.ia KX G ?a26 ?l26 ?c26 ?k26) (MM.ia KX G ?a27 ?l27 ?c27 ?k27) (MM.ia KX G ?a28 ?l28 ?c28 ?k28) (MM.ia KX G ?a29 ?l29 ?c29 ?k29) (MM.Db (P:=156) KX G ?a30 ?l30 ?c30 ?k30 ?h30) (MM.ia KX G ?a31 ?l31 ?c31 ?k31) (MM.ia KX G ?a32 ?l32 ?c32 ?k32) (MM.Dv KX G ?a33 ?l33 ?c33 ?k33 ?t33) (MM.ia KX G ?a34 ?l34 ?c34 ?k34) (MM.iL (ck KX G ?z0) (MM.iL (ck KX G ?z1) (MM.iL (ck KX G ?z2) (MM.iL (ck KX G ?z3) (MM.iL (ck KX G ?z4) (MM.iL (ck KX G ?z5) (MM.iL (ck KX G ?z6) (MM.iL (ck KX G ?z7) (MM.iL (ck KX G ?z8) (MM.iL (ck KX G ?z9) (MM.iL (ck KX G ?z10) (MM.iL (ck KX G ?z11) (MM.iL (ck KX G ?z12) (MM.iL (ck KX G ?z13) MM.E4)))))))))))))) MM.DP
  case a0|l0|c0|k0|a1|l1|c1|k1|a2|l2|c2|k2|a3|l3|c3|k3|a4|l4|c4|k4|a5|l5|c5|k5|a6|l6|c6|k6|a7|l7|c7|k7|a8|l8|c8|k8|a9|l9|c9|k9|a10|l10|c10|k10|a11|l11|c11|k11|a12|l12|c12|k12|a13|l13|c13|k13|a14|l14|c14|k14|a15|l15|c15|k15|a16|l16|c16|k16|a17|l17|c17|k17|a18|l18|c18|k18|a19|l19|c19|k19|a20|l20|c20|k20|a21|l21|c21|k21|a22|l22|c22|k22|a23|l23|c23|k23|a24|l24|c24|k24|a25|l25|c25|k25|a26|l26|c26|k26|a27|l27|c27|k27|a28|l28|c28|k28|a29|l29|c29|k29|a30|l30|c30|k30|a31|l31|c31|k31|a32|l32|c32|k32|a33|l33|c33|k33|t33|a34|l34|c34|k34|z0|z1|z2|z3|z4|z5|z6|z7|z8|z9|z10|z11|z12|z13=>k_is
  case h30=>kernel_rfl