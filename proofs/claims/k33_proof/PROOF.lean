import PyProof.Rows.All
import Wide.All
import OpenK.AllK
import Wide.FinOn
import Lean
import PyProof.EqAt
import PyProof.EqKinds
import PyProof.TupleCall
import PySem.Syntax
import KE.KNestM
import KE.KLam
import PyProof.NeKinds
import PyProof.IsRules
import PyProof.Rows.StrRev
import KE.KSortTup
import PyProof.Rows.ZipGen
import PyProof.EnumIter
import KE.KRevIter
import KE.KDictList
import KE.KIntText
import PyProof.Rows.StrNews
import PyProof.Rows.StrJoin2
import PyProof.Rows.FStr
import PyProof.StrWalks
import PyProof.StrLawsTight
import KE.KSort
import PyProof.Rows.SetFrom
import KE.KDictSum
import PyProof.ExcInit
import PyProof.ExcClass3
import PyProof.ExcBaseAll.ValueError
import PyProof.ExcAttrAll.ValueError
import PyProof.ExcArgsOwn
import PySem.SetOps
import PyProof.TupleOfGen
import PyProof.MinMaxWalk
import PyProof.FactsAll.tuple_2
import KE.KMinBuiltin
import PyProof.Rows.CallKwBuiltin
import PyProof.DictUpdate
import KE.KDictOf
import PyProof.ListMulAny
import PySem.Challenge.RW_pactboards_k33_safe_or_not
local macro_rules|`(tactic| nofun)=>`(tactic| decide +kernel)
local macro_rules|`(tactic| ext)=>`(tactic| first|lia|omega)
set_option compiler.extract_closed false
set_option genSizeOf false
set_option Elab.async false
set_option linter.all false
set_option maxRecDepth 100000
set_option maxHeartbeats 4000000
open And renaming intro->aA
open Array renaming ext'->Ga,forIn_toList->oQ,getElem?_eq_getElem->dD,getElem?_eq_none->tT,getElem?_toList->eK,length_toList->bK,toList->B8
open Bool renaming and_eq_true->bj,and_false->Ap,decide_and->m7,eq_false_iff->e9,eq_iff_iff->kI,false_and->iU,false_eq_true->aT,false_ne_true->bh,false_or->lR,not_eq_true'->xn,not_false->nN,not_true->fq,or_eq_false_iff->nR,or_eq_true->iD,or_false->B_,true_and->Cf
open Classical renaming choose->ff,choose_spec->gi
open False renaming elim->cK
open ForInStep renaming yield->lS
open Int renaming emod_lt_of_pos->gz,emod_nonneg->iF,le_antisymm->Av,le_trans->pW,toNat_natCast->bc,toNat_of_nonneg->k8
open List renaming all_cons->ck,all_eq_true->cX,all_map->t7,any_cons->dY,any_eq_false->w8,any_eq_true->fv,any_map->pH,append_assoc->dG,append_nil->dm,cons_append->kh,contains_cons->oY,dropLast_eq_take->uA,drop_eq_getElem_cons->cQ,drop_eq_nil_of_le->t_,drop_length->xI,drop_zero->AF,eq_nil_of_length_eq_zero->qT,eq_of_mem_replicate->sV,ext_getElem?->e8,filterMap->AB,filterMap_cons->ot,filter_append->lC,filter_eq_self->vV,find?_cons->cC,find?_isSome->xp,findIdx?->Ck,flatMap_append->vU,flatMap_cons->pJ,flatten_cons->fH,foldl->mJ,foldl_append->pI,foldl_cons->qX,forIn_cons->m8,forIn_nil->r8,getElem?_append_left->ar,getElem?_append_right->bb,getElem?_cons_zero->tV,getElem?_drop->v8,getElem?_eq_getElem->aj,getElem?_eq_none->bH,getElem?_eq_none_iff->sP,getElem?_eq_some_iff->ae,getElem?_inj->lO,getElem?_map->ao,getElem?_mapIdx->u5,getElem?_of_mem->fI,getElem?_range->kS,getElem?_replicate->fV,getElem?_set_ne->au,getElem?_set_self->aE,getElem?_take_of_lt->lQ,getElem?_toArray->np,getElem?_zipWith->j_,getElem_map->mz,getElem_mem->b8,getElem_toArray->fJ,idxOf_cons->q_,idxOf_lt_length_iff->lW,isEmpty_iff->xM,length->cP,length_append->aN,length_cons->bV,length_drop->fW,length_dropLast->uW,length_eq_zero_iff->tW,length_filter_le->uH,length_map->af,length_nil->gD,length_replicate->cI,length_reverse->vP,length_set->b_,length_singleton->nh,length_take->cn,length_zipWith->kT,lookup->F8,lookup_cons->kf,lookup_cons_self->uF,map->AD,map_append->bq,map_congr_left->fT,map_cons->aL,map_map->hU,map_nil->mI,map_replicate->v_,map_set->iX,mem_append->aU,mem_append_left->bY,mem_append_right->bS,mem_cons->aI,mem_cons_of_mem->br,mem_cons_self->bO,mem_filter->iB,mem_filterMap->lA,mem_iff_getElem?->b9,mem_map->bR,mem_map_of_mem->ik,mem_of_getElem?->av,mem_of_mem_take->nS,mem_or_eq_of_mem_set->fF,mem_range->dk,mem_singleton->aC,nil_append->kH,nodup_append->d8,nodup_cons->kG,nodup_nil->nU,not_mem_nil->bI,of_mem_zip->mZ,range->bU,range_succ->m9,range_succ_eq_map->mL,replicate->az,replicate_succ->eB,reverse_cons->gL,size_toArray->ay,take_append_drop->uE,take_length->fY,take_of_length_le->ub,take_sublist->xg,take_succ->AG,take_succ_eq_append_getElem->cE,zipIdx_cons->xJ,zipIdx_nil->zQ,zip_cons_cons->v4
open List.Pairwise renaming nil->r6
open List.cons renaming inj->la
open Nat renaming add_assoc->oW,div_eq_of_lt->ii,le_max_left->AC,le_max_right->zU,le_of_eq->ut,le_of_lt->gp,le_of_not_lt->qQ,le_refl->ax,le_trans->cF,lt_irrefl->cy,lt_of_le_of_lt->pv,lt_of_lt_of_le->aZ,lt_of_sub_eq_succ->u7,lt_succ_of_lt->gQ,lt_succ_self->ie,lt_trans->m5,mul_add_div->iE,mul_comm->gq,mul_le_mul->oh,mul_le_mul_right->og,ne_of_gt->d_,ne_of_lt->aR,pow_le_pow_right->vT,pow_succ->pX,sub_self->uG,succ_mul->pV,zero_add->Gc,zero_le->bn
open Nat.succ renaming inj->kA
open Ne renaming symm->eM
open Option renaming getD_none->pF,getD_some->lT,isSome_iff_exists->dH,isSome_map->gE,isSome_none->oz,isSome_some->kZ,map_eq_some_iff->du,map_some->df
open Option.some renaming inj->aM
open PyProof.Rows renaming AllBare->kX,IntsAre->n_,callWith_type1->cB,envOfC->n8,get?_update_seq->Hn,kmb_tree->qU,seqObj->mn,slot_tuple_getitem->nB,subscriptTail_builtinR->xj,wpAny_notIn_heap->F6
open PyProof.Rows.F renaming entry_set_update_loop->uZ
open PySem renaming Addr->ak,Arguments->kP,Around->bz,BindsTo->rC,CmpOp->uo,DictEntry->nD,Expr->rF,Fin->Hk,FuncData->cV,Heap->bw,HeapKind->uu,InCallC->n9,IsPair->iu,IsPart->sM,IsTupleKey->Cd,IsZip->ox,ItemsOf->t9,Keyword->g_,Model->CW,NameKind->c5,Operator->rB,Paired->cW,PassesOwn->sK,Result->B9,Scope->cZ,Shared->am,Spec->dW,TriplesOk->nF,Value->ab,Within->B6,World->bD,argBest->mK,assign->n6,assignEach->dB,atKey->k_,atKey_none_of_get->C4,attributeBase->dM,backToKw->nA,behindInMarks->iR,binaryOp->eG,bindArgs->io,bindC->ph,bindL->pf,bootBuiltins->bT,builtinLookup_eq_fast->xK,builtinsNs->md,cLine->cL,call->vL,call_meets->kQ,call_reversed_list->Ci,callerA->kY,cellsFrom->bF,closureFor->uv,codeAmong->kR,codeAny->gK,codeAny_builtin->eS,codeAny_call_builtin->zT,codeAny_extend_loopS->zS,codeAny_mono->kq,codeAny_of_tree->Hm,collect->AA,compareOp->cG,concat_meets->xh,dictSetDefault->uC,entryOfKey->n5,eqIsQuiet->pG,eqIsQuiet_byValue->C3,field->uz,firstArgMember->ku,foldedSetIterable->fj,getItem->rD,hashInt->t5,holding->mH,intItems->uw,intItems_at->zN,intKind->iA,isInstance->Ce,isSubtype_stop->pk,isSubtype_tuple_tuple->oR,isSubtype_type->uB,keywordEach->i6,letOwnedTupleGo->ou,mainGlobals->cq,mem_of_lookup->aV,model->aW,name_of_addr->xf,newExc->Cg,newFunctionEnv->pi,noFill_tuple_add->sL,not_mem_keys_of_get->As,numAt->nG,numAt_eq->zO,pickOrder->Gb,plainId_quiet->fC,pushCells->v6,pushCells_keeps->lH,putAt->sT,pyIter->um,pyNext->iL,rawInt->eZ,relabel->iW,seqIndex_neg->xi,seqIndex_of->zL,seqItems?->iC,seqSlot_of->xo,seq_tuple_add->vJ,setEntries->Cn,setItem->rA,setsByText->uD,sizeLine_eq->i4,size_of_entries->lG,sliceBounds->ip,slot_list_getitem->C0,spliced->rn,standAt->wY,storeName->pE,storedH->k7,sub_set_self->xm,swappedStores->qc,swapsWith->i0,sysModules->dA,tupleKind->sJ,tupleKind_room_in1->mj,typeIs_int->qP,typeLookup->qO,typeLookup_type->Hl,updateSeq->F_,valueAt->rE,wpAny->aF,wpAny_Call_Name_kw->dC,wpAny_Call_method_late->xl,wpAny_Dict_empty->F7,wpAny_Name->B7,wpAny_askSetting->kU,wpAny_assign_Name->CY,wpAny_attempt->iS,wpAny_binaryOp_repeat_ref->uX,wpAny_bind->aa,wpAny_call->me,wpAny_callSpecial?_slot->bN,wpAny_call_entry->bX,wpAny_dictEntries->kt,wpAny_dictEpoch->tR,wpAny_dictFind_heap->Ar,wpAny_eqBool_int->F5,wpAny_execs_nil->tQ,wpAny_field->dJ,wpAny_fieldsOf->pq,wpAny_forIn_list->nE,wpAny_getItem_heap->Cc,wpAny_handled->vO,wpAny_holding->bZ,wpAny_isInstance->c9,wpAny_isOneOf_keyiter->xL,wpAny_letGo->iq,wpAny_loadName_cell->Ao,wpAny_loadName_local->zK,wpAny_loadPart'->iV,wpAny_mono->gJ,wpAny_newObj_type->bM,wpAny_notOrdered_dict->oT,wpAny_of_eq->mM,wpAny_onRaise->qe,wpAny_passesOwn->gW,wpAny_pure->ai,wpAny_pyHash_int->sI,wpAny_pyIter_enum->C6,wpAny_pyIter_list->fS,wpAny_pyIter_revIter->zR,wpAny_pyIter_slot->rG,wpAny_pyIter_tuple->ml,wpAny_pyIter_zip->F9,wpAny_pyNext_list_end->xG,wpAny_pyNext_list_item->wZ,wpAny_ret_mkInt->Hj,wpAny_rule->gM,wpAny_seqItems->cN,wpAny_sequenceKey->CZ,wpAny_setField->ir,wpAny_setField_rec->gN,wpAny_setState_of->fk,wpAny_specialOf->gX,wpAny_standAt->vH,wpAny_storeName_cell->zJ,wpAny_storeName_local->xF,wpAny_throw->zP,wpAny_truthy_bool->fR,wpAny_tryCatch->mo,wpAny_tupleItemsOf->qR,wpAny_typeNameOfWhole_keyiter->gG,wpAny_typeNameOf_keyiter->iT,wpAny_typeOf->eJ,wpAny_updateDictKeys->zM,wpAny_updateSeq->oy,wpAny_updateSeq_pair->pj
open PySem.Around renaming frames_deeper->t6,under_plainId->eW
open PySem.Builtin.Builtins renaming bindParams->fQ
open PySem.Builtin.Dict renaming showsAll->qS
open PySem.Builtin.Dict_items renaming ownsTuple->mN
open PySem.Builtin.List renaming listExtendWith->dI,listItems->qg,listLengthHint->f_,listSameRef->gR,listTooLong->gP
open PySem.Builtin.Slice renaming sliceAdjust->kr,sliceApplied->oO,slicePlaces->gC
open PySem.Builtin.SmallTypes renaming nextOf->bW,ownedTupleHandOut->lB,ownedTupleIsFree->eQ
open PySem.Builtin.Tuple renaming tupleExact->eh,tupleHashOf->db,tupleItemsOf->oP,tupleTooMany->oU
open PySem.Calls renaming Name_function_global->rp,callWith_builtin->mE,evalArgs_plain->nC,spliced_cons->gh,spliced_nil->gF
open PySem.Challenge renaming pw_pactboards_k33_safe_or_not->kB
open PySem.F renaming args_dict_keyiterator_next_1->rH,args_int_rmul_2->Aq,args_tuple_add_2->lF,args_tuple_iterator_next_1->sO,args_zip_next_1->Aw,entry_dict_keyiterator_next->r_,entry_int_rmul->Cb,entry_min->u_,entry_min_loop->iN,entry_tuple_add->lN,entry_tuple_iterator_next->sU,entry_zip_next->Ch,fills_int_mul->C1,kind_min->vS,plainAttrs_list->iy,plain_extend_loop->qY,plain_list_iadd->sf,plain_min->u8,plain_min_loop->cO,plain_tuple_new->si,slot_dict_iter->Cj,slot_dict_keyiterator_next->gO,slot_dict_len->C5,slot_dict_setdefault->vQ,slot_dict_setitem->xH,slot_enumerate_next->v7,slot_int_index->Ca,slot_int_rmul->nM,slot_list_index->r9,slot_set_iter->C7,slot_tuple_add->mh,slot_tuple_eq->nO,slot_tuple_hash->my,slot_tuple_iterator_next->ig,slot_tuple_mul->Co,slot_tuple_rmul->AE,slot_zip_next->nQ
open PySem.Heap renaming ExtBut->lP,SameBut->c7,get?_push_of_some->ah,get?_push_size->aB,get?_update_ne->vR,get?_update_other->cD,get?_update_self->bG,lt_size->aD,size_push->cw
open PySem.Heap.Ns renaming new->Au
open PySem.Heap.SameBut renaming update->bx
open PySem.ItemsOf renaming nil->Ay
open PySem.Moved renaming eq_with->Az
open PySem.NameKind renaming cell->fe,free->bE
open PySem.Obj renaming cls_mapFields->lU,data_mapDict->mF,data_mapDictKeys->dO,data_mapFields->dq,isFreed_of_dict->fX,isFreed_of_fields->kg,mapFields->oX,mapSeq->fP
open PySem.Paired renaming length->dR,snoc->nj
open PySem.PassesOwn renaming never->lV
open PySem.ScopeKind renaming function->tU
open PySem.SeqAt renaming EqAt->vK
open PySem.SeqAt.EqAt renaming int_str->sR,str_int->sS
open PySem.SetTable renaming below->dE,insertAt->gu,toList_insertAt->qZ
open PySem.Shared renaming heap->t8
open PySem.Str renaming ofString->aq
open PySem.Value renaming bool->dX,builtin->sN,float->CV,int->d6,isInt->p_,isStrOf->An,none->cJ,ref->a_,str->nL,type->oJ
open PySem.Value.type renaming inj->uY
open PySem.W renaming Frag->ag,OpenLaw->v9,WalkO->xN,callWith_K->ur,cellsFrom_some->iM,codeHdIn->eL,codeHd_of_K->ua,codeIn->fO,findIn->w_,fnOf->b7,instObj->pU,keepIn->da,kia_one->cR,kitOne->fN,kitx_dict->uV,kitx_list->oM,kitx_tuple->uq,kla_fn->m6,kla_obj->v5,lookIn->qN,methodObj->oK,mg_of->rK,nsIn->fE,plainGet->vI,tabObj->dU
open PySem.W.WData renaming int->Hi
open PySem.W.WShape renaming has->C2
open PySem.Walks renaming list->vN,listRev->Ax
open PySem.pickOrder renaming go->rJ
open Sum renaming inl->k9,inr->pT
open True renaming intro->d7
noncomputable section
noncomputable def aJ:=@if_pos
noncomputable def aG:=@if_neg
noncomputable def aP:=@decide_eq_false
noncomputable def cT:=@decide_eq_true
noncomputable def ba:=@absurd
noncomputable def cU:=@congrArg
namespace L2
open PySem PySem.Spec PyProof.Rows
noncomputable abbrev Key:=Sum Int Str
def rV:Key->ab->Bool
 | .inl k,v=>p_ k v
 | .inr x,v=>An x v
def Jg(w:bD):Key->Int
 | .inl k=>t5 k
 | .inr x=>hashStr w x
theorem fD:∀{k:Key}{v:ab},rV k v=true->(∃i t,k=k9 i/\v=d6 i t)\/(∃x t,k=pT x/\v=nL x t)
 | .inl i,v,h=>by obtain⟨t,e⟩:=ab.isInt_shape (k:=i) (v:=v) h;exact .inl ⟨i,t,rfl,e⟩
 | .inr x,v,h=>by obtain⟨t,e⟩:=ab.isStrOf_shape (x:=x) (v:=v) h;exact .inr ⟨x,t,rfl,e⟩
theorem Qg(i:Int)(t:Tok):rV (.inl i) (.int i t)=true:=by simp[rV,p_]
theorem TB(x:Str)(t:Tok):rV (.inr x) (.str x t)=true:=by simp[rV,An]
theorem Tj(a b:Int):decide ((k9 a:Key)=k9 b)=(a == b):=by
 by_cases e:a=b
 ·subst e;simp
 ·have h:¬ (k9 a:Key)=k9 b:=λq=>e (k9.inj q);rw[aP h];exact (beq_eq_false_iff_ne.mpr e).symm
theorem X6(a b:Str):decide ((pT a:Key)=pT b)=decide (a=b):=by
 by_cases e:a=b
 ·subst e;simp
 ·have h:¬ (pT a:Key)=pT b:=λq=>e (pT.inj q);rw[aP h,aP e]
theorem VJ(a:Int)(b:Str):decide ((k9 a:Key)=pT b)=false:=aP nofun
theorem Pq(a:Str)(b:Int):decide ((pT a:Key)=k9 b)=false:=aP nofun
def fL(prog:Program)(w:bD):PySem.KeyKind prog w Key where
 is:=rV
 hash:=Jg w
 inj:=λv a b g c=>by
  rcases fD g with ⟨i,t,rfl,rfl⟩|⟨x,t,rfl,rfl⟩
  ·rcases fD c with ⟨j,u,rfl,e⟩|⟨y,u,rfl,e⟩
   ·injection e with e1 _;rw[e1]
   ·exact nomatch e
  ·rcases fD c with ⟨j,u,rfl,e⟩|⟨y,u,rfl,e⟩
   ·exact nomatch e
   ·injection e with e1 _;rw[e1]
 byValue:=λk v h=>by rcases fD h with ⟨i,t,rfl,rfl⟩|⟨x,t,rfl,rfl⟩<;>rfl
 pyHash:=λhv h=>by
  rcases fD hv with ⟨i,t,rfl,rfl⟩|⟨x,t,rfl,rfl⟩
  ·exact sI h
  ·exact wpAny_pyHash_str h
 eqBool:=λhu hv h=>by
  rcases fD hu with ⟨i,t,rfl,rfl⟩|⟨x,t,rfl,rfl⟩
  ·rcases fD hv with ⟨j,u,rfl,rfl⟩|⟨y,u,rfl,rfl⟩
   ·rw[Tj]at h;exact F5 h
   ·rw[VJ]at h;exact sR i t y u _ _ _ _ h
  ·rcases fD hv with ⟨j,u,rfl,rfl⟩|⟨y,u,rfl,rfl⟩
   ·rw[Pq]at h;exact sS x t j u _ _ _ _ h
   ·rw[X6]at h;exact wpAny_eqBool_str h
 «strs»:=λk x t v h=>by
  rcases fD h with ⟨i,u,rfl,e⟩|⟨y,u,rfl,e⟩
  ·exact nomatch e
  ·injection e with e1 _
   subst e1;cases v<;>rfl
theorem Rv(prog:Program)(w:bD)(i:Int)(t:Tok):(fL prog w).is (.inl i) (.int i t)=true:=Qg i t
theorem V9(prog:Program)(w:bD)(x:Str)(t:Tok):(fL prog w).is (.inr x) (.str x t)=true:=TB x t
inductive V where
 |non|bl (b:Bool)|int (i:Int)|str (x:Str)|byt (b:Array UInt8)|flt (b:UInt64)|ref (a:ak)|ty (n:String)
 deriving DecidableEq
noncomputable def RelV:V->ab->Prop
 | .non,u=>u=cJ
 | .bl b,u=>u=dX b
 | .int i,u=>∃t,u=d6 i t
 | .str x,u=>∃t,u=nL x t
 | .byt b,u=>∃t,u=ab.bytes b t
 | .flt b,u=>∃t,u=CV b t
 | .ref a,u=>u=a_ a
 | .ty n,u=>u=oJ n
abbrev bQ:List V->List ab->Prop:=cW RelV
theorem bQ.length{xs:List V}{c:List ab}(r:bQ xs c):xs.length=c.length:=dR r
theorem bQ.get:∀{xs:List V}{c:List ab}{i:Nat}{x:V},bQ xs c->xs[i]?=some x->∃u,c[i]?=some u/\RelV x u
 |_,_,_,_,.nil,e=>by simp at e
 |_,_,0,_,.cons r _,e=>by simp at e;subst e;exact⟨_,rfl,r⟩
 |_,_,i+1,x,.cons _ t,e=>by obtain⟨u,h,g⟩:=bQ.get (i:=i) (x:=x) t (by simpa using e);exact⟨u,by simpa using h,g⟩
theorem bQ.set{x:V}{u:ab}(r:RelV x u):∀{xs:List V}{c:List ab}(i:Nat),bQ xs c->bQ (xs.set i x) (c.set i u)
 |_,_,_,.nil=>.nil
 |_,_,0,.cons _ t=>.cons r t
 |_,_,i+1,.cons q t=>.cons q (bQ.set r i t)
theorem bQ.append:∀{xs ys:List V}{g c:List ab},bQ xs g->bQ ys c->bQ (xs++ys) (g++c)
 |_,_,_,_,.nil,s=>s
 |_,_,_,_,.cons r t,s=>.cons r (bQ.append t s)
theorem bQ.take:∀{xs:List V}{c:List ab}(n:Nat),bQ xs c->bQ (xs.take n) (c.take n)
 |_,_,0,_=>.nil
 |_,_,_+1,.nil=>.nil
 |_,_,n+1,.cons r t=>.cons r (bQ.take n t)
theorem bQ.drop:∀{xs:List V}{c:List ab}(n:Nat),bQ xs c->bQ (xs.drop n) (c.drop n)
 |_,_,0,r=>r
 |_,_,_+1,.nil=>.nil
 |_,_,n+1,.cons _ t=>bQ.drop n t
def o6:Option V->Option ab->Prop
 |some v,some u=>RelV v u
 |none,none=>True
 |_,_=>False
def KV{κ:Type}:List (κ×V)->List (κ×ab)->Prop:=cW λ(p:κ×V)(q:κ×ab)=>p.1=q.1/\RelV p.2 q.2
def kV:Key->V
 | .inl i=>.int i
 | .inr x=>.str x
inductive HO where
 |lst (xs:List V)
 |tup (xs:List V)
 |dK (a4:List (Key×V))|dT (a4:List (List Key×V))
 |set (S:Int->Bool) (n:Nat)
 |ins (C dx:ak) (fs:List (Str×V))
 |own (x:ak)
 |xd (fs:List (Str×V))
 |met (f x:ak)
 |rng (lo hi:Int)
 |frz (o:Obj) (u:HO)
 |tbl (ps:Array ab)
 |ext (φ:bw->Prop)
noncomputable abbrev Hp:=ak->Option HO
noncomputable def fw(H:Hp)(a:ak)(o:HO):Hp:=λb=>if b=a then some o else H b
theorem iP{H:Hp}{a:ak}{o:HO}:fw H a o a=some o:=by unfold fw;rw[aJ rfl]
theorem fM{H:Hp}{a b:ak}{o:HO}(h:b≠a):fw H a o b=H b:=by unfold fw;rw[aG h]
theorem Tk{H:Hp}{a b:ak}{o u:HO}(h:H a=some o)(h':H b=some u)(d:o≠u):a≠b:=by intro e;subst e;rw[h]at h';exact d (aM h')
theorem pc{H:Hp}{a b:ak}{o:HO}(h:H a=some o)(h':H b=none):a≠b:=by intro e;subst e;rw[h]at h';cases h'
noncomputable def iK(h:bw)(a:ak)(its:Array ab):Prop:=∃o,h.get? a=some o/\o.cls=.type "tuple"/\(∃n,o.data=.seq its n)/\o.dict=none
theorem iK.is{h:bw}{a:ak}{its:Array ab}(p:iK h a its):IsTup h a its:=let ⟨o,e,c,d,_⟩:=p;⟨o,e,c,d⟩
theorem iK.lt{h:bw}{a:ak}{its:Array ab}(p:iK h a its):a < h.objs.size:=p.is.lt
theorem iK.new(h:bw)(its:Array ab):iK (h.push { cls:=.type "tuple",data:=.seq its }) h.objs.size its:=⟨_,aB _ rfl,rfl,⟨_,rfl⟩,rfl⟩
section
variable(P:Program)(w:bD)
def eX(H:Hp)(h:bw)(a:ak):HO->Prop
 | .lst xs=>xs.length<=sizeLine/\∃(its:List ab)(n:Nat),bQ xs its/\h.get? a=some { cls:=.type "list",data:=.seq its.toArray n }
 | .tup xs=>xs.length<=sizeLine/\∃its:List ab,bQ xs its/\iK h a its.toArray
 | .dK a4=>a4.length<=sizeLine/\(a == dA)=false/\∃vs,KV a4 vs/\h.DictOf (fL P w) a vs
 | .dT a4 => a4.length <= sizeLine /\ (a == dA) = false /\ ∃xs : List (List Key×ak×ab),
   cW (λ(p:List Key×V)(q:List Key×ak×ab)=>p.1=q.1/\H q.2.1=some (.tup (p.1.map kV))/\RelV p.2 q.2.2) a4 xs /\
   ∃o B ep,h.get? a=some o/\o.ExactDict/\o.data=.dict B ep/\B.toList=xs.map (n5 (sJ (fL P w)))/\(xs.map (·.1)).Nodup
 | .set S n=>h.SetOf (iA P w) a S n
 | .ins C dx fs => H dx = some (.own a) /\ fs.length <= 1000 /\ dx ≠ a /\ h.get? a = some (pU C dx) /\
   ∃c,h.Ns1 dx c/\(∀f,o6 (fs.lookup f) (c f))/\B6 c (fs.map (·.1))
 | .own _=>∃o,h.get? a=some o
 | .xd fs=>∃c,h.Ns1 a c/\∀f,o6 (fs.lookup f) (c f)
 | .rng lo hi=>∃t u v,h.get? a=some { cls:=.type "range",data:=.fields #[.int lo t,.int hi u,.int 1 v] }
 | .frz o u=>h.get? a=some o/\eX H h a u
 | .tbl ps=>h.get? a=some { cls:=.none,data:=.fields ps }
 | .met f x=>h.get? a=some (oK (.ref f) (.ref x))
 | .ext φ=>φ h/\(∃o,h.get? a=some o)/\∀l g:bw,φ l->(∀o,l.get? a=some o->g.get? a=some o)->φ g
def mw(H:Hp)(h:bw):Prop:=∀a o,H a=some o->eX P w H h a o
end
section
variable{P:Program}{w:bD}{H H':Hp}{h h':bw}{a:ak}{o:HO}
theorem eX.lt(x:eX P w H h a o):a < h.objs.size:=by
 cases o with
 |lst xs=>obtain⟨_,_,_,_,e⟩:=x;exact aD e
 |tup xs=>obtain⟨_,_,_,p⟩:=x;exact p.lt
 |dK a4=>obtain⟨_,_,_,_,o,_,_,e,_⟩:=x;exact aD e
 |dT a4=>obtain⟨_,_,_,_,o,_,_,e,_⟩:=x;exact aD e
 |set S n=>obtain⟨o,_,_,_,e,_⟩:=x;exact aD e
 |ins C dx fs=>obtain⟨_,_,_,e,_⟩:=x;exact aD e
 |own y=>obtain⟨_,e⟩:=x;exact aD e
 |xd fs=>obtain⟨_,⟨_,_,_,e,_⟩,_⟩:=x;exact aD e
 |rng lo hi=>obtain⟨_,_,_,e⟩:=x;exact aD e
 |frz ob u=>obtain⟨e,_⟩:=x;exact aD e
 |tbl ps=>exact aD (show h.get? a=some _ from x)
 |met f y=>exact aD (show h.get? a=some _ from x)
 |ext φ=>obtain⟨_,⟨_,e⟩,_⟩:=x;exact aD e
theorem cW.mapP{α β:Type}{F G:α->β->Prop}:∀{l₁:List α}{l₂:List β},cW F l₁ l₂->(∀a b,F a b->G a b)->cW G l₁ l₂
 |_,_,.nil,_=>.nil
 |_,_,.cons r t,f=>.cons (f _ _ r) (cW.mapP t f)
theorem eX.stay(x:eX P w H h a o)(k:∀b u,(b=a\/H b=some (.own a))->h.get? b=some u->h'.get? b=some u)
  (I:∀b,H b=some (.own a)->H' b=some (.own a)) (G:∀b xs,H b=some (.tup xs)->H' b=some (.tup xs)):eX P w H' h' a o:=by
 induction o with
 |lst xs=>obtain⟨z,its,n,r,e⟩:=x;exact⟨z,its,n,r,k _ _ (.inl rfl) e⟩
 |tup xs=>obtain⟨z,its,r,g,e,c⟩:=x;exact⟨z,its,r,g,k _ _ (.inl rfl) e,c⟩
 |dK a4=>obtain⟨z,y,vs,r,g,l,ep,e,c⟩:=x;exact⟨z,y,vs,r,g,l,ep,k _ _ (.inl rfl) e,c⟩
 |dT a4=>
  obtain⟨z,y,xs,r,g,l,ep,e,c⟩:=x;exact⟨z,y,xs,cW.mapP r λp q z=>⟨z.1,G _ _ z.2.1,z.2.2⟩,g,l,ep,k _ _ (.inl rfl) e,c⟩
 |set S n=>obtain⟨g,l,ep,t,e,c⟩:=x;exact⟨g,l,ep,t,k _ _ (.inl rfl) e,c⟩
 |ins C dx fs=>
  obtain⟨d,z,ne,e,E,⟨B,l,ep,J,c⟩,r⟩:=x;exact⟨I _ d,z,ne,k _ _ (.inl rfl) e,E,⟨B,l,ep,k _ _ (.inr d) J,c⟩,r⟩
 |own y=>obtain⟨g,e⟩:=x;exact⟨g,k _ _ (.inl rfl) e⟩
 |xd fs=>obtain⟨E,⟨B,l,ep,e,c⟩,r⟩:=x;exact⟨E,⟨B,l,ep,k _ _ (.inl rfl) e,c⟩,r⟩
 |rng lo hi=>obtain⟨t,u,v,e⟩:=x;exact⟨t,u,v,k _ _ (.inl rfl) e⟩
 |frz g u ih=>obtain⟨e,q⟩:=x;exact⟨k _ _ (.inl rfl) e,ih q⟩
 |tbl ps=>
  have e:h.get? a=some { cls:=.none,data:=.fields ps }:=x
  show h'.get? a=some { cls:=.none,data:=.fields ps };exact k a _ (.inl rfl) e
 |met f y=>
  have e:h.get? a=some (oK (.ref f) (.ref y)):=x
  show h'.get? a=some (oK (.ref f) (.ref y));exact k a _ (.inl rfl) e
 |ext φ=>obtain⟨p,⟨o,e⟩,st⟩:=x;exact⟨st _ _ p λo q=>k _ _ (.inl rfl) q,⟨o,k _ _ (.inl rfl) e⟩,st⟩
theorem mw.lt(x:mw P w H h)(e:H a=some o):a < h.objs.size:=(x a o e).lt
theorem mw.fresh(x:mw P w H h)(e:h.objs.size<=a):H a=none:=by
 cases q:H a with
 |none=>rfl
 |some u=>exact ba (aZ (x.lt q) e) (cy _)
theorem mw.kept(x:mw P w H h)(k:∀b u,h.get? b=some u->h'.get? b=some u):mw P w H h':=λa o e=>
 (x a o e).stay (λb u _ q=>k b u q) (λ_ q=>q) λ_ _ q=>q
theorem mw.laid(x:mw P w H h)(k:∀b u,h.get? b=some u->h'.get? b=some u)(B:h.objs.size<=a)(new:eX P w (fw H a o) h' a o):mw P w (fw H a o) h':=λb u e=>by
 have g:=x.fresh B;by_cases l:b=a
 ·subst l;rw[iP]at e;cases e;exact new
 ·rw[fM l]at e;exact (x b u e).stay (λc v _ q=>k c v q) (λc q=>by rw[fM (pc q g)];exact q) λc xs q=>by rw[fM (pc q g)];exact q
end
noncomputable def Rd(H:Hp)(a:ak)(u:HO):Prop:=H a=some u\/∃o,H a=some (.frz o u)
theorem Rd.ok{P:Program}{w:bD}{H:Hp}{h:bw}{a:ak}{u:HO}(r:Rd H a u)(x:mw P w H h):eX P w H h a u:=by
 rcases r with r|⟨o,r⟩
 ·exact x a u r
 ·obtain⟨_,q⟩:=x a _ r;exact q
noncomputable def EC:Option HO->Prop
 |some (.lst _)=>True
 |some (.dK _)=>True
 |some (.dT _)=>True
 |some (.set _ _)=>True
 |some (.ins _ _ _)=>True
 |some (.ext _)=>True
 |_=>False
section
variable{P:Program}{w:bD}{H:Hp}{h h':bw}{x e:ak}{o':HO}
theorem mw.write(ok:mw P w H h)(B:EC (H x))(J:e=x\/H e=some (.own x))(k:∀b u,b≠e->h.get? b=some u->h'.get? b=some u)(G:∃u,h'.get? e=some u)
  (new:eX P w (fw H x o') h' x o'):mw P w (fw H x o') h':=λb u q=>by
 have l:∀c y,H c=some (.own y)->c≠x:=λc y r z=>by subst z;rw[r]at B;exact B
 have o:∀c xs,H c=some (.tup xs)->c≠x:=λc xs r z=>by subst z;rw[r]at B;exact B
 by_cases E:b=x
 ·subst E;rw[iP]at q;cases q;exact new
 ·rw[fM E]at q;by_cases g:b=e
  ·have I : H b = some (.own x) := by
     rcases J with z|z
     ·exact ba (g.trans z) E
     ·rw[g];exact z
   rw[q]at I;cases I;obtain⟨v,hv⟩:=G;exact⟨v,by rw[g];exact hv⟩
  ·refine (ok b u q).stay (λc v C r=>k c v ?_ r) (λc r=>by rw[fM (l c b r)];exact r) λc xs r=>by rw[fM (o c xs r)];exact r
   rcases C with rfl|C
   ·exact g
   ·rintro rfl
    rcases J with z|z
    ·exact l c b C z
    ·rw[C]at z;cases z;exact E rfl
end
structure Un(fs ex:List ak)(H H':Hp)(h h':bw):Prop where
 keep:∀b o,h.get? b=some o->H b=none->b∉fs->b∉ex->h'.get? b=some o
 slot:∀b o,h.get? b=some o->H b=none->b∈fs->b∉ex->∃sl,h'.get? b=some { o with slots:=sl }
 free:∀b o,h.get? b=some o->H b=none->b∉ex->H' b=none
 there:∀b o,h.get? b=some o->b∉ex->∃o',h'.get? b=some o'
 tups:∀b xs,H b=some (.tup xs)->H' b=some (.tup xs)
 frzs:∀b o u,H b=some (.frz o u)->H' b=some (.frz o u)
 tbls:∀b ps,H b=some (.tbl ps)->∃more,H' b=some (.tbl (ps++more))
section
variable{fs fi ex ft:List ak}{H H1 H2:Hp}{h h1 h2 h':bw}{a x e:ak}{o:HO}
theorem Un.any(u:Un fs ex H H1 h h1){b:ak}{c:Obj}(q:h.get? b=some c)(n:H b=none)(g:b∉ex):∃B,h1.get? b=some { c with slots:=B }:=by
 by_cases l:b∈fs
 ·exact u.slot b c q n l g
 ·exact⟨c.slots,u.keep b c q n l g⟩
theorem Un.kept(k:∀b u,h.get? b=some u->h'.get? b=some u):Un fs ex H H h h':=
 ⟨λb c q _ _ _=>k b c q,λb c q _ _ _=>⟨c.slots,k b c q⟩,λ_ _ _ n _=>n,λb c q _=>⟨c,k b c q⟩,λ_ _ q=>q,λ_ _ _ q=>q,λ_ ps q=>⟨#[],by rw[q];simp⟩⟩
theorem Un.refl:Un fs ex H H h h:=Un.kept λ_ _ q=>q
theorem Un.laid(k:∀b u,h.get? b=some u->h'.get? b=some u)(g:h.objs.size<=a)(c:H a=none):Un fs ex H (fw H a o) h h' where
 keep:=λb u q _ _ _=>k b u q
 slot:=λb u q _ _ _=>⟨u.slots,k b u q⟩
 free:=λb u q n _=>by rw[fM (aR (aZ (aD q) g))];exact n
 there:=λb u q _=>⟨u,k b u q⟩
 tups:=λb xs q=>by rw[fM (pc q c)];exact q
 frzs:=λb u xs q=>by rw[fM (pc q c)];exact q
 tbls:=λb ps q=>⟨#[],by rw[fM (pc q c),q];simp⟩
theorem Un.write(g:EC (H x))(G:e=x\/H e=some (.own x))(k:∀b u,b≠e->h.get? b=some u->h'.get? b=some u)(B:∃u,h'.get? e=some u):Un fs ex H (fw H x o) h h':=by
 have C:∀b,H b=none->b≠x:=λb n z=>by subst z;rw[n]at g;exact g
 have E:∀b,H b=none->b≠e:=λb n z=>by
  subst z;rcases G with r|r
  ·exact C b n r
  ·rw[n]at r;cases r
 have l:∀b u,H b=some u->¬ EC (some u)->b≠x:=λb u q nm z=>by subst z;rw[q]at g;exact nm g
 refine⟨λb u q n _ _=>k b u (E b n) q,λb u q n _ _=>⟨u.slots,k b u (E b n) q⟩,λb u q n _=>by rw[fM (C b n)];exact n,λb u q _=>?_,
  λb xs q=>by rw[fM (l b _ q λz=>z)];exact q,λb u xs q=>by rw[fM (l b _ q λz=>z)];exact q,λb ps q=>⟨#[],by rw[fM (l b _ q λz=>z),q];simp⟩⟩
 by_cases c:b=e
 ·subst c;exact B
 ·exact⟨u,k b u c q⟩
end
noncomputable def trk(h:bw)(H:Hp):List ak:=(bU h.objs.size).filter λa=>(H a).isSome
def nW(h:bw)(H:Hp):bw:=PySem.W.hideAll h (trk h H)
theorem NP(h:bw)(H:Hp):(nW h H).objs.size=h.objs.size:=PySem.W.hideAll_size _ _
theorem OL{h:bw}{H:Hp}{b:ak}{o:Obj}(e:h.get? b=some o)(n:H b=none):(nW h H).get? b=some o:=
 PySem.W.hideAll_get _ e λc=>by have q:(H b).isSome=true:=(iB.mp c).2;rw[n]at q;simp at q
theorem Oq{h:bw}{H:Hp}{b:ak}{o:Obj}(e:(nW h H).get? b=some o):h.get? b=some o/\H b=none:=by
 have c:h.get? b=some o:=PySem.W.of_hideAll (trk h H) e;refine⟨c,?_⟩;cases q:H b with
 |none=>rfl
 |some x=>
  have g:b∈trk h H:=iB.mpr ⟨dk.mpr (aD c),by simp[q]⟩;have z:(nW h H).get? b=none:=PySem.W.hideAll_none (trk h H) g;rw[z]at e;cases e
noncomputable def kE(g h:bw)(L:ak):List (ak×Obj):=(bU h.objs.size).filterMap λa=>if a=L\/(g.get? a).isSome=true then none else (h.get? a).map λo=>(a,o)
theorem L8{g h:bw}{L a:ak}{o:Obj}(q:a≠L)(l:g.get? a=none)(c:h.get? a=some o):(a,o)∈kE g h L:=
 lA.mpr ⟨a,dk.mpr (aD c),by simp[q,l,c]⟩
theorem Yu{g h:bw}{L:ak}{p:ak×Obj}(l:p∈kE g h L):p.1≠L/\g.get? p.1=none/\h.get? p.1=some p.2:=by
 obtain⟨b,_,e⟩:=lA.mp l;split at e
 ·cases e
 ·rename_i c;cases q:h.get? b with
  |none=>rw[q]at e;simp at e
  |some u=>
   rw[q]at e;simp only[df,Option.some.injEq]at e;subst e;refine⟨λz=>c (.inl z),?_,q⟩
   show g.get? b=none;cases r:g.get? b with
   |none=>rfl
   |some v=>exact (c (.inr (by simp[r]))).elim
def rest(g h:bw)(L d:ak):List (ak×Obj):=(kE g h L).filter λp=>decide (p.1≠d)
theorem Xw{g h:bw}{L:ak}:News g L h (kE g h L):=λp l=>let ⟨a,b,c⟩:=Yu l;⟨c,a,b⟩
structure Mod(K:ag)(mg:Str->Option ab)(base:bw):Prop where
 kin:K.In base
 glob:base.Ns cq mg
 blt:∃mb,base.Ns md mb/\∀x:Str,x≠"__name__"->mb x=bT x
 nolimit:base.NoLimit
structure Cx where
 prog:Program
 w:bD
 K:ag
 mg:Str->Option ab
 base:bw
 A:bz
 N:List Str
 s₀:am
 H₀:Hp
 env:Env
 outer:List Env
 stack:List Env
 ex:List ak
 fn:Str->Bool
 calm:Bool
 pn:List (ak×Obj)
 xe:ab->am->Prop
noncomputable def gA(l:List Env):List ak:=l.filterMap (·.frame)
abbrev Cx.fs(X:Cx):List ak:=gA X.outer
noncomputable def EA(sc:cZ)(x:Str):Prop:=sc.names.lookup x=some .local\/sc.names.lookup x=some .cell\/sc.names.lookup x=some .free
noncomputable def Loc(sc:cZ)(x:Str):Prop:=sc.names.lookup x=some .local\/sc.names.lookup x=some .cell
noncomputable def Look(env:Env)(h:bw)(m:Str->Option ab)(x:Str)(u:ab):Prop:=
 (env.kindOf x=some .local/\m x=some u)\/((env.kindOf x=some .cell\/env.kindOf x=some .free)/\∃c,env.cells.lookup x=some c/\h.IsCell c (some u))
structure Cx.Ok(X:Cx):Prop where
 mod:Mod X.K X.mg X.base
 kind:X.env.scope.kind=.function
 glob:X.env.globals=cq
 blt:X.env.builtins=md
 above:X.s₀.heap.objs.size<=X.env.locals
 inj:∀x y c,X.env.cells.lookup x=some c->X.env.cells.lookup y=some c->x=y
 has:∀x,(X.env.kindOf x=some .cell\/X.env.kindOf x=some .free)->∃c,X.env.cells.lookup x=some c
 cab:∀x c,X.fn x=true->X.env.cells.lookup x=some c->X.s₀.heap.objs.size<=c
 hd:X.calm=true->X.A.handled=none
 frames:X.A.frames=some X.stack
 stk:X.stack=X.outer\/(X.stack=X.env::X.outer/\X.env.frame=some X.env.locals)
 exf:∀b∈X.ex,b≠X.env.locals/\∀x c,X.env.cells.lookup x=some c->c≠b
 bs:∀b o,X.base.get? b=some o->X.s₀.heap.get? b=some o/\X.H₀ b=none
 bsz:X.base.objs.size<=X.s₀.heap.objs.size
 noex:∀b o,X.base.get? b=some o->b∉X.ex
 exfs:∀b∈X.ex,b∉X.fs
 funs:X.s₀.heap.FunFrames X.base X.outer
 frf:∀b∈X.fs,X.H₀ b=none
structure Inv(X:Cx)(a3:List (ak×Obj))(σ:List (Option V))(H:Hp)(s:am):Prop where
 ok:X.Ok
 os:s.os=X.s₀.os
 bare:kX s.gens
 base:Un X.fs X.ex X.H₀ H X.s₀.heap s.heap
 loc:∃m,s.heap.Ns X.env.locals m/\∀(i:Nat)(x:Str)(v:V),X.N[i]?=some x->σ[i]?=some (some v)->EA X.env.scope x->∃u,RelV v u/\Look X.env s.heap m x u
 cell:∀x c,X.env.cells.lookup x=some c->∃v,s.heap.IsCell c v
 free:H X.env.locals=none
 freeC:∀x c,X.env.cells.lookup x=some c->H c=none
 pin:∀p∈X.pn++a3,s.heap.get? p.1=some p.2/\H p.1=none/\p.1≠X.env.locals/\p.1∉X.fs/\∀v,p.2.data≠.cell v
 hok:mw X.prog X.w H s.heap
 len:σ.length=X.N.length
section
variable{X:Cx}{a3:List (ak×Obj)}{σ:List (Option V)}{H H':Hp}{s:am}{h':bw}
theorem Cx.Ok.nofr(ok:X.Ok){b:ak}{o:Obj}(e:X.base.get? b=some o):b∉X.fs:=λc=>by have:=(ok.funs.mem c).1;rw[e]at this;cases this
theorem Inv.bs(I:Inv X a3 σ H s):∀b o,X.base.get? b=some o->s.heap.get? b=some o/\H b=none:=λb o e=>
 ⟨I.base.keep b o (I.ok.bs b o e).1 (I.ok.bs b o e).2 (I.ok.nofr e) (I.ok.noex b o e),I.base.free b o (I.ok.bs b o e).1 (I.ok.bs b o e).2 (I.ok.noex b o e)⟩
theorem Inv.bk(I:Inv X a3 σ H s):∀b o,X.base.get? b=some o->s.heap.get? b=some o:=λb o e=>(I.bs b o e).1
theorem Inv.mod(I:Inv X a3 σ H s):Mod X.K X.mg X.base:=I.ok.mod
theorem Inv.kIn(I:Inv X a3 σ H s):X.K.In s.heap:=I.ok.mod.kin.keeps I.bk
theorem Inv.fr(I:Inv X a3 σ H s):∃m,Fr X.base X.env.locals s.heap m:=
 let ⟨m,hn,_⟩:=I.loc
 ⟨m,hn,I.bk,cF I.ok.bsz I.ok.above⟩
theorem Inv.lt(I:Inv X a3 σ H s):X.env.locals < s.heap.objs.size:=let ⟨_,hn,_⟩:=I.loc;hn.lt
theorem Inv.sz(I:Inv X a3 σ H s):X.s₀.heap.objs.size<=s.heap.objs.size:=cF I.ok.above (gp I.lt)
theorem Inv.nofs(I:Inv X a3 σ H s){a:ak}(h:s.heap.objs.size<=a):a∉X.fs:=λg=>by obtain⟨_,o,c,_⟩:=I.ok.funs.mem g;exact ba (aZ (aD c) (cF I.sz h)) (cy _)
theorem Inv.cne(I:Inv X a3 σ H s):∀x c,X.env.cells.lookup x=some c->c≠X.env.locals:=λx c e z=>by obtain⟨v,o,l,hd⟩:=I.cell x c e;obtain⟨m,⟨o',q,ep,g,h,_⟩,_⟩:=I.loc;rw[z,g]at l;cases l;rw[h]at hd;cases hd
theorem Inv.funs(I:Inv X a3 σ H s):s.heap.FunFrames X.base X.outer:=by
 have all:∀(l:List Env),(∀b∈gA l,b∈X.fs)->X.s₀.heap.FunFrames X.base l->s.heap.FunFrames X.base l:=by
  intro l
  induction l with
  |nil=>intro _ _;trivial
  |cons env r ih=>
   intro q E;obtain⟨G,⟨L,o,c,C,B,hd⟩,u⟩:=E;have h:L∈X.fs:=q L (by unfold gA;rw[ot,c];exact bO);obtain⟨J,e⟩:=I.base.slot L o B (I.ok.frf L h) h λz=>I.ok.exfs L z h;exact⟨G,⟨L,_,c,C,e,hd⟩,ih (λb g=>q b (by unfold gA;rw[ot,c];exact br _ g)) u⟩
 exact all X.outer (λ_ g=>g) I.ok.funs
theorem Inv.stack(I:Inv X a3 σ H s):s.heap.FunFrames X.base X.stack:=by
 rcases I.ok.stk with e|⟨e,g⟩
 ·rw[e];exact I.funs
 ·rw[e];obtain⟨m,c,_⟩:=I.loc;refine .cons (by rw[I.ok.kind];decide) g c ?_ I.funs;exact bw.get?_none_of_le (cF I.ok.bsz I.ok.above)
theorem Inv.stkSub(I:Inv X a3 σ H s):∀b∈gA X.stack,b∈X.env.locals::X.fs:=λb c=>by
 rcases I.ok.stk with e|⟨e,g⟩
 ·rw[e]at c;exact br _ c
 ·rw[e]at c;unfold gA at c;rw[ot,g]at c;exact c
theorem Inv.stkFree(I:Inv X a3 σ H s):∀b∈gA X.stack,H b=none:=λb c=>by
 rcases aI.mp (I.stkSub b c) with e|c
 ·rw[e];exact I.free
 ·obtain⟨_,o,g,_⟩:=I.ok.funs.mem c;exact I.base.free b o g (I.ok.frf b c) λz=>I.ok.exfs b z c
theorem Inv.step{g':Array GenState}{t':Nat}{d':Drawn}{ch:List ak}(I:Inv X a3 σ H s)
  (B:∀b∈ch,(b∈X.ex\/X.s₀.heap.objs.size<=b)/\b≠X.env.locals/\(∀x c,X.env.cells.lookup x=some c->c≠b)/\∀p∈X.pn++a3,p.1≠b)
  (keep:∀b o,b≠X.env.locals->b∉X.fs->b∉ch->s.heap.get? b=some o->H b=none->h'.get? b=some o)
  (slot:∀b o,b≠X.env.locals->b∈X.fs->b∉ch->s.heap.get? b=some o->H b=none->∃Y,h'.get? b=some { o with slots:=Y }) (free:∀b o,b∉ch->s.heap.get? b=some o->H b=none->H' b=none)
  (there:∀b o,b∉ch->s.heap.get? b=some o->∃o',h'.get? b=some o')
  (tups:∀b xs,H b=some (.tup xs)->H' b=some (.tup xs)) (frzs:∀b o u,H b=some (.frz o u)->H' b=some (.frz o u)) (tbls:∀b ps,H b=some (.tbl ps)->∃more,H' b=some (.tbl (ps++more)))
  (ns:∀m,s.heap.Ns X.env.locals m->h'.Ns X.env.locals m) (hok:mw X.prog X.w H' h') (hg:kX g'):
  Inv X a3 σ H' { s with heap:=h',gens:=g',drawn:=d',toks:=t' }:=by
 have O:∀b o,X.s₀.heap.get? b=some o->b≠X.env.locals:=λb o e=>aR (aZ (aD e) I.ok.above);have E:∀b o,X.s₀.heap.get? b=some o->b∉X.ex->b∉ch:=λb o e g J=>by
  rcases (B b J).1 with z|z
  ·exact g z
  ·exact ba (aZ (aD e) z) (cy _)
 have C:∀x c,X.env.cells.lookup x=some c->∀v,s.heap.IsCell c v->h'.IsCell c v:=λx c e v pq1=>by
  obtain⟨o,L,hd⟩:=pq1;have h:c∉ch:=λz=>(B c z).2.2.1 x c e rfl;by_cases hc:c∈X.fs
  ·obtain⟨Y,q⟩:=slot c o (I.cne x c e) hc h L (I.freeC x c e);exact⟨_,q,hd⟩
  ·exact⟨o,keep c o (I.cne x c e) hc h L (I.freeC x c e),hd⟩
 refine⟨I.ok,I.os,hg,⟨λb o e n J g=>?_,λb o e n J g=>?_,λb o e n g=>?_,λb o e g=>?_,λb xs e=>tups b xs (I.base.tups b xs e),λb o xs e=>frzs b o xs (I.base.frzs b o xs e),λb ps e=>?_⟩,?_,λx c e=>?_,?_,λx c e=>?_,λp hp=>?_,hok,I.len⟩
 ·exact keep b o (O b o e) J (E b o e g) (I.base.keep b o e n J g) (I.base.free b o e n g)
 ·obtain⟨Y,G⟩:=I.base.slot b o e n J g;obtain⟨U,Q⟩:=slot b _ (O b o e) J (E b o e g) G (I.base.free b o e n g);exact⟨U,Q⟩
 ·obtain⟨o',G⟩:=I.base.there b o e g;exact free b o' (E b o e g) G (I.base.free b o e n g)
 ·obtain⟨o',G⟩:=I.base.there b o e g;exact there b o' (E b o e g) G
 ·obtain⟨g,G⟩:=I.base.tbls b ps e;obtain⟨c,Q⟩:=tbls b _ G;exact⟨g++c,by rw[Q,Array.append_assoc]⟩
 ·obtain⟨m,g,h⟩:=I.loc;refine⟨m,ns m g,λi x v G Q o=>?_⟩;obtain⟨u,r,l⟩:=h i x v G Q o;refine⟨u,r,?_⟩;rcases l with l|⟨k,c,e,z⟩
  ·exact .inl l
  ·exact .inr ⟨k,c,e,C x c e _ z⟩
 ·obtain⟨v,z⟩:=I.cell x c e;exact⟨v,C x c e v z⟩
 ·obtain⟨m,⟨o,_,_,L,_⟩,_⟩:=I.loc;exact free _ o (λz=>(B _ z).2.1 rfl) L I.free
 ·obtain⟨v,o,L,hd⟩:=I.cell x c e;exact free c o (λz=>(B c z).2.2.1 x c e rfl) L (I.freeC x c e)
 ·obtain⟨e,n,ne,c,d⟩:=I.pin p hp;have h:p.1∉ch:=λz=>(B p.1 z).2.2.2 p hp rfl;exact⟨keep p.1 p.2 ne c h e n,free p.1 p.2 h e n,ne,c,d⟩
theorem Inv.un{t':Nat}(I:Inv X a3 σ H s)(u:Un X.fs [] H H' s.heap h')(hok:mw X.prog X.w H' h'):Inv X a3 σ H' { s with heap:=h',toks:=t' }:=by
 obtain⟨m,⟨o,L,ep,q,r⟩,_⟩:=id I.loc;obtain⟨G,E⟩:=u.any q I.free (by simp);exact I.step (g':=s.gens) (d':=s.drawn) (ch:=[]) (λ_ z=>nomatch z) (λb o _ g _ e n=>u.keep b o e n g (by simp)) (λb o _ g _ e n=>u.slot b o e n g (by simp)) (λb o _ e n=>u.free b o e n (by simp)) (λb o _ e=>u.there b o e (by simp)) u.tups u.frzs u.tbls (λJ C=>by obtain⟨o',h,l,c,B⟩:=C;rw[q]at c;cases c;exact⟨_,h,l,E,B⟩) hok I.bare
theorem Inv.call{g':Array GenState}{t':Nat}{d':Drawn}{ch:List ak}(I:Inv X a3 σ H s)(u:Un (gA X.stack) ch H H' s.heap h')(hok:mw X.prog X.w H' h')(L:kX g')
  (l:∀b∈ch,(b∈X.ex\/X.s₀.heap.objs.size<=b)/\b≠X.env.locals/\(∀x c,X.env.cells.lookup x=some c->c≠b)/\∀p∈X.pn++a3,p.1≠b):
  Inv X a3 σ H' { s with heap:=h',gens:=g',drawn:=d',toks:=t' }:=by
 obtain⟨m,⟨o,Y,ep,E,r⟩,_⟩:=id I.loc;obtain⟨Q,q⟩:=u.any E I.free λz=>(l _ z).2.1 rfl;exact I.step (ch:=ch) l (λb o q O g e n=>u.keep b o e n (λz=>(aI.mp (I.stkSub b z)).elim q O) g) (λb o _ _ g e n=>u.any e n g) (λb o g e n=>u.free b o e n g) (λb o g e=>u.there b o e g) u.tups u.frzs u.tbls (λU J=>by obtain⟨o',B,C,h,G⟩:=J;rw[E]at h;cases h;exact⟨_,B,C,q,G⟩) hok L
theorem Inv.turned{t':Nat}{g:ak}(I:Inv X a3 σ H s)(k:∀b o,b≠g->s.heap.get? b=some o->h'.get? b=some o)(E:H g=none)(B:g≠X.env.locals)
  (Q:g∈X.ex\/X.s₀.heap.objs.size<=g) (O:∀x c,X.env.cells.lookup x=some c->c≠g) (L:∀p∈X.pn++a3,p.1≠g):Inv X a3 σ H { s with heap:=h',toks:=t' }:=by
 have l:∀b u,H b=some u->b≠g:=λb u e z=>by rw[z,E]at e;cases e
 refine I.step (g':=s.gens) (d':=s.drawn) (ch:=[g]) (λb J=>?_) (λb o _ _ h e _=>k b o (λz=>h (by simp[z])) e) (λb o _ _ h e _=>⟨o.slots,k b o (λz=>h (by simp[z])) e⟩) (λ_ _ _ _ n=>n)
  (λb o h e=>⟨o,k b o (λz=>h (by simp[z])) e⟩) (λ_ _ e=>e) (λ_ _ _ e=>e) (λb ps e=>⟨#[],by rw[e];simp⟩) (λm G=>?_) (λb u e=>?_) I.bare
 ·have e:b=g:=by simpa using J
  subst e;exact⟨Q,B,O,L⟩
 ·obtain⟨o,U,ep,C,r⟩:=G;exact⟨o,U,ep,k _ o (eM B) C,r⟩
 ·refine (I.hok b u e).stay (λc v h q=>k c v ?_ q) (λ_ q=>q) λ_ _ q=>q;rcases h with z|z
  ·rw[z];exact l b u e
  ·exact l c _ z
theorem Inv.tok(I:Inv X a3 σ H s)(t:Nat):Inv X a3 σ H { s with toks:=t }:=I.un (h':=s.heap) (t':=t) Un.refl I.hok
theorem Inv.kept{t':Nat}(I:Inv X a3 σ H s)(k:∀b u,s.heap.get? b=some u->h'.get? b=some u):Inv X a3 σ H { s with heap:=h',toks:=t' }:=I.un (Un.kept k) (I.hok.kept k)
theorem Inv.laid{a:ak}{o:HO}{t':Nat}(I:Inv X a3 σ H s)(k:∀b u,s.heap.get? b=some u->h'.get? b=some u)(c:s.heap.objs.size<=a)(new:eX X.prog X.w (fw H a o) h' a o):
  Inv X a3 σ (fw H a o) { s with heap:=h',toks:=t' }:=I.un (Un.laid k c (I.hok.fresh c)) (I.hok.laid k c new)
theorem Inv.write{x e:ak}{o:HO}{t':Nat}(I:Inv X a3 σ H s)(g:EC (H x))(h:e=x\/H e=some (.own x))(k:∀b u,b≠e->s.heap.get? b=some u->h'.get? b=some u)(c:∃u,h'.get? e=some u)
  (new:eX X.prog X.w (fw H x o) h' x o):Inv X a3 σ (fw H x o) { s with heap:=h',toks:=t' }:=I.un (Un.write g h k c) (I.hok.write g h k c new)
theorem Inv.pins_of{c:List (ak×Obj)}(I:Inv X a3 σ H s)(h:∀p∈c,s.heap.get? p.1=some p.2/\H p.1=none/\p.1≠X.env.locals/\p.1∉X.fs/\∀v,p.2.data≠.cell v):Inv X c σ H s:=
 ⟨I.ok,I.os,I.bare,I.base,I.loc,I.cell,I.free,I.freeC,λp g=>(aU.mp g).elim (λz=>I.pin p (bY _ z)) (h p),I.hok,I.len⟩
theorem OS{N:List Str}(c:N.Nodup){i j:Nat}{x:Str}(a:N[i]?=some x)(b:N[j]?=some x):i=j:=by obtain⟨o,h⟩:=ae.mp a;obtain⟨l,g⟩:=ae.mp b;exact (List.getElem_inj c).mp (h.trans g.symm)
theorem L0{M:CW}{A:bz}{E:ab->am->Prop}{i:Nat}{x:Str}{v:V}{u:ab}{Q:Unit->am->Prop}(I:Inv X a3 σ H s)(hN:X.N.Nodup)(hi:X.N[i]?=some x)(G:Loc X.env.scope x)(r:RelV v u)
  (h:∀s',Inv X a3 (σ.set i (some v)) H s'->(∃a,c7 a s.heap s'.heap/\(a=X.env.locals\/X.env.cells.lookup x=some a))->Q () s') (hf:X.fn x=true\/X.env.scope.names.lookup x=some .local:=by first|exact .inl rfl|exact .inr rfl|assumption):aF M A (pE X.env x u) Q E s:=by
 obtain⟨m,hn,hl⟩:=id I.loc;have hcls:(X.env.scope.kind == .class||(X.env.scope.kind == .module&&X.env.locals != X.env.globals))=false:=by rw[I.ok.kind];rfl
 have hiσ:i < σ.length:=by rw[I.len];exact (ae.mp hi).1
 have cne:=I.cne;have l:∀{a:ak}{h':bw},(∃o,s.heap.get? a=some o/\H a=none)->c7 a s.heap h'->mw X.prog X.w H h':=λ{a h'}ha g b ob e=>by
  obtain⟨_,_,J⟩:=ha;refine (I.hok b ob e).stay (λc w' C q=>(g.2 c ?_).trans q) (λ_ q=>q) λ_ _ q=>q
  rintro rfl
  rcases C with rfl|C
  ·rw[J]at e;cases e
  ·rw[J]at C;cases C
 rcases G with O|O
 ·refine xF O hn (λh' E g=>?_) hcls;obtain⟨H,_,_,C,_⟩:=id hn;refine h _ ⟨I.ok,I.os,I.bare,⟨λb o e n hb G=>?_,λb o e n hb G=>?_,I.base.free,λb o e G=>?_,I.base.tups,I.base.frzs,I.base.tbls⟩,⟨_,E,λj y v' B L e3=>?_⟩,λy c e=>?_,I.free,I.freeC,λp hp=>?_,l ⟨H,C,I.free⟩ g,by simpa using I.len⟩ ⟨_,g,.inl rfl⟩
  ·exact (g.2 b (aR (aZ (aD e) I.ok.above))).trans (I.base.keep b o e n hb G)
  ·obtain⟨sl,B⟩:=I.base.slot b o e n hb G;exact⟨sl,(g.2 b (aR (aZ (aD e) I.ok.above))).trans B⟩
  ·obtain⟨o',B⟩:=I.base.there b o e G;exact⟨o',(g.2 b (aR (aZ (aD e) I.ok.above))).trans B⟩
  ·by_cases U:j=i
   ·subst U;rw[hi]at B;cases B;rw[aE hiσ]at L;cases L;exact⟨u,r,.inl ⟨O,by simp⟩⟩
   ·rw[au (eM U)]at L;obtain⟨u',r',q⟩:=hl j y v' B L e3;refine⟨u',r',?_⟩;rcases q with ⟨k,e⟩|⟨k,c,e,z⟩
    ·refine .inl ⟨k,?_⟩;have:y≠x:=λe=>U (OS hN B (e ▸ hi));simp[this,e]
    ·exact .inr ⟨k,c,e,z.sameBut g (cne y c e)⟩
  ·obtain⟨w',z⟩:=I.cell y c e;exact⟨w',z.sameBut g (cne y c e)⟩
  ·obtain⟨e,n,ne,nf,d⟩:=I.pin p hp;exact⟨(g.2 p.1 ne).trans e,n,ne,nf,d⟩
 ·have Y : X.fn x = true := by
    rcases hf with z|z
    ·exact z
    ·rw[z]at O;cases O
  obtain⟨c,C⟩:=I.ok.has x (.inl O);obtain⟨w',z⟩:=I.cell x c C;refine zJ I.ok.kind O C z (λh' Q g=>?_);obtain⟨oc,H,E⟩:=id z;refine h { s with heap:=h' } ⟨I.ok,I.os,I.bare,⟨λb o e n hb G=>?_,λb o e n hb G=>?_,I.base.free,λb o e G=>?_,I.base.tups,I.base.frzs,I.base.tbls⟩,⟨m,hn.sameBut g (eM (cne x c C)),λj y v' B L e3=>?_⟩,λy c' e=>?_,I.free,I.freeC,λp hp=>?_,l ⟨oc,H,I.freeC x c C⟩ g,by simpa using I.len⟩ ⟨c,g,.inr C⟩
  ·exact (g.2 b (aR (aZ (aD e) (I.ok.cab x c Y C)))).trans (I.base.keep b o e n hb G)
  ·obtain⟨sl,B⟩:=I.base.slot b o e n hb G;exact⟨sl,(g.2 b (aR (aZ (aD e) (I.ok.cab x c Y C)))).trans B⟩
  ·obtain⟨o',B⟩:=I.base.there b o e G;exact⟨o',(g.2 b (aR (aZ (aD e) (I.ok.cab x c Y C)))).trans B⟩
  ·by_cases U:j=i
   ·subst U;rw[hi]at B;cases B;rw[aE hiσ]at L;cases L;exact⟨u,r,.inr ⟨.inl O,c,C,Q⟩⟩
   ·rw[au (eM U)]at L;obtain⟨u',r',q⟩:=hl j y v' B L e3;refine⟨u',r',?_⟩;rcases q with q|⟨k,c',e,h⟩
    ·exact .inl q
    ·refine .inr ⟨k,c',e,h.sameBut g ?_⟩
     rintro rfl
     exact U (OS hN B (I.ok.inj _ _ _ e C ▸ hi))
  ·by_cases J:c'=c
   ·subst J;exact⟨_,Q⟩
   ·obtain⟨l,h⟩:=I.cell y c' e;exact⟨l,h.sameBut g J⟩
  ·obtain⟨e,n,ne,nf,d⟩:=I.pin p hp;refine⟨(g.2 p.1 ?_).trans e,n,ne,nf,d⟩;intro q;rw[q,H]at e;have c:oc=p.2:=aM e;exact d w' (by rw[<- c];exact E)
theorem HB{M:CW}{A:bz}{E:ab->am->Prop}{i:Nat}{x:Str}{v:V}{u:ab}{Q:Unit->am->Prop}(I:Inv X a3 σ H s)(q:X.N.Nodup)(l:X.N[i]?=some x)(g:Loc X.env.scope x)(r:RelV v u)
  (h:∀c,Inv X a3 (σ.set i (some v)) H c->Q () c) (o:X.fn x=true\/X.env.scope.names.lookup x=some .local:=by first|exact .inl rfl|exact .inr rfl|assumption):aF M A (pE X.env x u) Q E s:=
 L0 I q l g r (λc B _=>h c B) o
theorem Inv.call'{g:am}{ch:List ak}(I:Inv X a3 σ H s)(l:g.os=s.os)(u:Un (gA X.stack) ch H H' s.heap g.heap)(hok:mw X.prog X.w H' g.heap)(o:kX g.gens)
  (h:∀b∈ch,(b∈X.ex\/X.s₀.heap.objs.size<=b)/\b≠X.env.locals/\(∀x c,X.env.cells.lookup x=some c->c≠b)/\∀p∈X.pn++a3,p.1≠b):Inv X a3 σ H' g:=by
 obtain⟨h',g',d',t',o'⟩:=g;have e:o'=s.os:=l;subst e;exact I.call (g':=g') (t':=t') (d':=d') u hok o h
end
abbrev XK:=ab->Option ak->Hp->Prop
noncomputable abbrev St:=List (Option V)
abbrev VK:=V->Hp->Prop
abbrev TE:=St->Hp->VK->Prop
abbrev TT:=St->Hp->(Bool->Hp->Prop)->Prop
abbrev TA:=St->Hp->(List V->Hp->Prop)->Prop
structure Ends where
 nx:St->Hp->Prop
 rt:VK
 bk:St->Hp->Prop:=λ_ _=>False
 ct:St->Hp->Prop:=λ_ _=>False
abbrev TS:=Ends->St->Hp->Prop
def EP(X:Cx)(c:List (ak×Obj))(σ:St)(Q:VK)(u:ab)(h:am):Prop:=∃v g,Inv X c σ g h/\RelV v u/\Q v g
noncomputable def TP(X:Cx)(c:List (ak×Obj))(σ:St)(Q:Bool->Hp->Prop)(b:Bool)(h:am):Prop:=∃g,Inv X c σ g h/\Q b g
def AP(X:Cx)(c:List (ak×Obj))(σ:St)(Q:List V->Hp->Prop)(h:List ab)(l:am):Prop:=∃vs g,Inv X c σ g l/\bQ vs h/\Q vs g
def SP(X:Cx)(c:List (ak×Obj))(D:Ends)(f:Flow)(h:am):Prop:=
 match f with
 | .next=>∃σ' g,Inv X c σ' g h/\D.nx σ' g
 | .brk=>∃σ' g,Inv X c σ' g h/\D.bk σ' g
 | .cont=>∃σ' g,Inv X c σ' g h/\D.ct σ' g
 | .ret u=>∃v σ' g,Inv X c σ' g h/\RelV v u/\D.rt v g
def PE(X:Cx)(e:Expr)(t:TE):Prop:=
 ∀(a3:List (ak×Obj))(s:am)(σ:St)(H:Hp)(Q:VK),Inv X a3 σ H s->t σ H Q->aF (aW X.prog X.w) X.A (eval e X.env) (EP X a3 σ Q) X.xe s
def PT(X:Cx)(e:Expr)(t:TT):Prop:=
 ∀(a3:List (ak×Obj))(s:am)(σ:St)(H:Hp)(Q:Bool->Hp->Prop),Inv X a3 σ H s->t σ H Q->aF (aW X.prog X.w) X.A (isTrue e X.env (eval e X.env)) (TP X a3 σ Q) X.xe s
def PW(X:Cx)(e:Expr)(t:TT):Prop:=
 ∀(whole:Sem ab)(a3:List (ak×Obj))(s:am)(σ:St)(H:Hp)(Q:Bool->Hp->Prop),Inv X a3 σ H s->t σ H Q->aF (aW X.prog X.w) X.A (isTrue e X.env whole) (TP X a3 σ Q) X.xe s
theorem PW.pt{X:Cx}{e:Expr}{t:TT}(h:PW X e t):PT X e t:=h _
def PA(X:Cx)(c:List Expr)(t:TA):Prop:=
 ∀(pos:Pos)(a3:List (ak×Obj))(s:am)(σ:St)(H:Hp)(Q:List V->Hp->Prop),Inv X a3 σ H s->t σ H Q->aF (aW X.prog X.w) X.A (rn (backTo pos (starEach c X.env))) (AP X a3 σ Q) X.xe s
def PS(X:Cx)(st:Stmt)(t:TS):Prop:=
 ∀(a3:List (ak×Obj))(s:am)(σ:St)(H:Hp)(D:Ends),Inv X a3 σ H s->t D σ H->aF (aW X.prog X.w) X.A (exec st X.env) (SP X a3 D) X.xe s
def PSs(X:Cx)(st:List Stmt)(t:TS):Prop:=
 ∀(a3:List (ak×Obj))(s:am)(σ:St)(H:Hp)(D:Ends),Inv X a3 σ H s->t D σ H->aF (aW X.prog X.w) X.A (execs st X.env) (SP X a3 D) X.xe s
theorem gj{α:Type}{t:Sem α}{Q c:α->am->Prop}{M:CW}{A:bz}{E:ab->am->Prop}{s:am}(h:aF M A t Q E s)(g:∀a s,Q a s->c a s):aF M A t c E s:=gJ h g λ_ _ x=>x
section
variable{X:Cx}
noncomputable def ED(i:Nat):TE:=λσ H Q=>∃v,σ[i]?=some (some v)/\Q v H
noncomputable def tC(v:V):TE:=λ_ H Q=>Q v H
theorem VQ{i:Nat}{x:Str}{pos:Pos}(O:X.N[i]?=some x)(hv:EA X.env.scope x)(hd:(x == ("__debug__":Str))=false:=by decide)(C:(x == ("__classdict__":Str))=false:=by decide):PE X (.Name x pos) (ED i):=by
 intro B s σ H Q I h;obtain⟨v,e,h⟩:=h;obtain⟨m,G,L⟩:=I.loc;obtain⟨u,r,l⟩:=L i x v O e hv;have q:EP X B σ Q u s:=⟨v,H,I,r,h⟩
 rcases l with ⟨o,J⟩|⟨o,c,E,g⟩
 ·exact B7 (zK I.ok.kind o G J q) hd
 ·rcases o with o|o
  ·exact B7 (Ao I.ok.kind o E g q) hd
  ·exact B7 (wpAny_loadName_free I.ok.kind o E g q C) hd
theorem Yt{i j pos}:PE X (.Constant (.int i) j pos) (tC (.int i)):=λ_ _ _ H _ I h=>wpAny_Constant_int ⟨.int i,H,I.tok _,⟨_,rfl⟩,h⟩
theorem Ta{b j pos}:PE X (.Constant (.bool b) j pos) (tC (.bl b)):=λ_ _ _ H _ I h=>Constant_bool ⟨.bl b,H,I,rfl,h⟩
theorem UI{j pos}:PE X (.Constant .none j pos) (tC .non):=λ_ _ _ H _ I h=>Constant_none ⟨.non,H,I,rfl,h⟩
theorem O9{x j pos}:PE X (.Constant (.str x) j pos) (tC (.str x)):=λ_ _ _ H _ I h=>Calls.Constant_str ⟨.str x,H,I.tok _,⟨_,rfl⟩,h⟩
noncomputable def Gl(X:Cx)(x:Str):Prop:=X.env.kindOf x=some .globalImplicit
theorem Oi{E:ab->am->Prop}{c:List (ak×Obj)}{s:am}{σ:St}{H:Hp}{x:Str}{u:ab}{pos:Pos}{Q:ab->am->Prop}(I:Inv X c σ H s)(l:Gl X x)(g:X.mg x=some u)(h:Q u s)
  (hd:(x == ("__debug__":Str))=false:=by decide):aF (aW X.prog X.w) X.A (eval (.Name x pos) X.env) Q E s:=
 rp I.ok.kind l (Calls.loadGlobal_global (by rw[I.ok.glob];exact I.mod.glob.keeps I.bk) g h) hd
theorem wW{E:ab->am->Prop}{c:List (ak×Obj)}{s:am}{σ:St}{H:Hp}{x:Str}{u:ab}{pos:Pos}{Q:ab->am->Prop}(I:Inv X c σ H s)(o:Gl X x)(l:X.mg x=none)(hv:bT x=some u)(h:Q u s)
  (g:x≠"__name__":=by decide) (hd:(x == ("__debug__":Str))=false:=by decide):aF (aW X.prog X.w) X.A (eval (.Name x pos) X.env) Q E s:=by
 obtain⟨C,B,q⟩:=I.mod.blt;exact rp I.ok.kind o (Calls.loadGlobal_builtin (by rw[I.ok.glob];exact I.mod.glob.keeps I.bk) l (by rw[I.ok.blt];exact B.keeps I.bk) ((q x g).trans hv) h) hd
theorem Xn{x:Str}{v:V}{u:ab}{pos:Pos}(l:Gl X x)(g:X.mg x=none)(hv:bT x=some u)(r:RelV v u)(c:x≠"__name__":=by decide)(hd:(x == ("__debug__":Str))=false:=by decide):PE X (.Name x pos) (tC v):=
 λ_ _ _ H _ I h=>wW I l g hv ⟨v,H,I,r,h⟩ c hd
variable{a b:Expr}{ta tb:TE}{pos:Pos}
variable{tA dt:TT}{rest:List Expr}
noncomputable def AZ(t u:TT):TT:=λσ H Q=>t σ H λc g=>if c=true then u σ g Q else Q false g
noncomputable def T7(t u:TT):TT:=λσ H Q=>t σ H λc g=>if c=true then Q true g else u σ g Q
noncomputable def BV(t:TT):TT:=λσ H Q=>t σ H λc g=>Q (!c) g
theorem X_(l:PT X a tA):PW X (.BoolOp .And [a] pos) tA:=by
 intro wh g s σ H Q I h;refine isTrue_and (gj (l g s σ H Q I h) λc o e=>?_);cases c with
 |true=>exact isTrue_and_nil e
 |false=>exact e
theorem Yc(l:PT X a tA):PW X (.BoolOp .Or [a] pos) tA:=by
 intro wh g s σ H Q I h;refine isTrue_or (gj (l g s σ H Q I h) λc o e=>?_);cases c with
 |false=>exact isTrue_or_nil e
 |true=>exact e
theorem X4(E:PT X a tA)(C:PW X (.BoolOp .And (b::rest) pos) dt):PW X (.BoolOp .And (a::b::rest) pos) (AZ tA dt):=by
 intro wh g s σ H Q I h;refine isTrue_and (gj (E g s σ H _ I h) λc B l=>?_);obtain⟨u,q,o⟩:=l;cases c with
 |true=>exact C wh g B σ u Q q o
 |false=>exact⟨u,q,o⟩
theorem Vc(E:PT X a tA)(C:PW X (.BoolOp .Or (b::rest) pos) dt):PW X (.BoolOp .Or (a::b::rest) pos) (T7 tA dt):=by
 intro wh g s σ H Q I h;refine isTrue_or (gj (E g s σ H _ I h) λc B l=>?_);obtain⟨u,q,o⟩:=l;cases c with
 |true=>exact⟨u,q,o⟩
 |false=>exact C wh g B σ u Q q o
theorem TU(l:PT X a tA):PT X (.UnaryOp .Not a pos) (BV tA):=by intro g s σ H Q I h;exact isTrue_not (l g s σ H (λc o=>Q (!c) o) I h)
noncomputable def E_(ta tb:TE):TE:=λσ H Q=>ta σ H λx g=>∃c,x=.bl c/\if c=true then tb σ g Q else Q (.bl false) g
noncomputable def KZ(ta tb:TE):TE:=λσ H Q=>ta σ H λx g=>∃c,x=.bl c/\if c=true then Q (.bl true) g else tb σ g Q
theorem Ry{op}{t:TE}(h:PE X a t):PE X (.BoolOp op [a] pos) t:=λc s σ H Q I g=>BoolOp_one (h c s σ H Q I g)
theorem QC(G:PE X a ta)(E:PE X (.BoolOp .And (b::rest) pos) tb):PE X (.BoolOp .And (a::b::rest) pos) (E_ ta tb):=by
 intro g s σ H Q I h;refine BoolOp_and (gj (G g s σ H _ I h) λv B o=>?_);obtain⟨x,u,q,C,l⟩:=o;obtain⟨c,rfl,l⟩:=l;cases C;refine fR ?_;cases c with
 |true=>exact E g B σ u Q q l
 |false=>exact⟨.bl false,u,q,rfl,l⟩
theorem T9(G:PE X a ta)(E:PE X (.BoolOp .Or (b::rest) pos) tb):PE X (.BoolOp .Or (a::b::rest) pos) (KZ ta tb):=by
 intro g s σ H Q I h;refine BoolOp_or (gj (G g s σ H _ I h) λv B o=>?_);obtain⟨x,u,q,C,l⟩:=o;obtain⟨c,rfl,l⟩:=l;cases C;refine fR ?_;cases c with
 |false=>exact E g B σ u Q q l
 |true=>exact⟨.bl true,u,q,rfl,l⟩
noncomputable def Q5(t:TT)(ta tb:TE):TE:=λσ H Q=>t σ H λc g=>if c=true then ta σ g Q else tb σ g Q
theorem Q3{c:Expr}(C:PT X c tA)(G:PE X a ta)(E:PE X b tb):PE X (.IfExp c a b pos) (Q5 tA ta tb):=by
 intro g s σ H Q I h;refine wpAny_IfExp (gj (C g s σ H _ I h) λd o l=>?_);obtain⟨B,u,q⟩:=l;cases d with
 |true=>exact G g o σ B Q u q
 |false=>exact E g o σ B Q u q
end
def g8(K:ag)(H:Hp)(a:ak)(xs:List V):Prop:=
 Rd H a (.lst xs) \/
  ∃(o:Obj)(its:Array ab)(n:Nat),K.lookup a=some o/\o.cls=.type "list"/\o.dict=none/\o.data=.seq its n/\its.size<=sizeLine/\bQ xs its.toList
def lx(K:ag)(H:Hp)(a:ak)(xs:List V):Prop:=
 Rd H a (.tup xs) \/
  ∃(o:Obj)(its:Array ab)(n:Nat),K.lookup a=some o/\o.cls=.type "tuple"/\o.dict=none/\o.data=.seq its n/\its.size<=sizeLine/\bQ xs its.toList
noncomputable def HH:ab->Option V
 | .none=>some .non
 | .bool b=>some (.bl b)
 | .int i _=>some (.int i)
 | .str x _=>some (.str x)
 | .bytes b _=>some (.byt b)
 | .float b _=>some (.flt b)
 | .ref a=>some (.ref a)
 | .type n=>some (.ty n)
 |_=>none
theorem RelV.abs{x:V}{u:ab}(r:RelV x u):HH u=some x:=by
 cases x with
 |non=>cases r;rfl
 |bl _=>cases r;rfl
 |int _=>obtain⟨t,rfl⟩:=r;rfl
 |str _=>obtain⟨t,rfl⟩:=r;rfl
 |byt _=>obtain⟨t,rfl⟩:=r;rfl
 |flt _=>obtain⟨t,rfl⟩:=r;rfl
 |ref _=>cases r;rfl
 |ty _=>cases r;rfl
theorem RelV.inj{x y:V}{u:ab}(r:RelV x u)(q:RelV y u):x=y:=aM (r.abs.symm.trans q.abs)
theorem bQ.inj:∀{xs ys:List V}{c:List ab},bQ xs c->bQ ys c->xs=ys
 |_,_,_,.nil,.nil=>rfl
 |_,_,_,.cons r t,.cons r' t'=>by rw[r.inj r',bQ.inj t t']
section
variable{X:Cx}{a3:List (ak×Obj)}{σ:St}{H:Hp}{s:am}{a:ak}{xs ys:List V}
theorem g8.of{K:ag}(h:H a=some (.lst xs)):g8 K H a xs:=.inl (.inl h)
theorem lx.of{K:ag}(h:H a=some (.tup xs)):lx K H a xs:=.inl (.inl h)
theorem Inv.list(I:Inv X a3 σ H s)(h:g8 X.K H a xs):∃its:List ab,bQ xs its/\PlainL s.heap a its.toArray/\xs.length<=sizeLine:=by
 rcases h with h|⟨o,its,n,g,l,hd,c,hz,r⟩
 ·obtain⟨z,its,n,r,e⟩:=h.ok I.hok;exact⟨its,r,⟨_,n,e,rfl,rfl,rfl⟩,z⟩
 ·refine⟨its.toList,r,⟨o,n,I.kIn a o g,l,hd,by simpa using c⟩,?_⟩;have e:=r.length;simp only[bK]at e;ext
theorem Inv.tupleD(I:Inv X a3 σ H s)(h:lx X.K H a xs):∃its:List ab,bQ xs its/\iK s.heap a its.toArray/\xs.length<=sizeLine:=by
 rcases h with h|⟨o,its,n,g,l,hd,c,hz,r⟩
 ·obtain⟨z,its,r,p⟩:=h.ok I.hok;exact⟨its,r,p,z⟩
 ·refine⟨its.toList,r,⟨o,I.kIn a o g,l,⟨n,by simpa using c⟩,hd⟩,?_⟩;have e:=r.length;simp only[bK]at e;ext
theorem Inv.tuple(I:Inv X a3 σ H s)(h:lx X.K H a xs):∃its:List ab,bQ xs its/\IsTup s.heap a its.toArray/\xs.length<=sizeLine:=let ⟨its,r,p,z⟩:=I.tupleD h;⟨its,r,p.is,z⟩
theorem Inv.list_inj(I:Inv X a3 σ H s)(h:g8 X.K H a xs)(h':g8 X.K H a ys):xs=ys:=by
 obtain⟨its,r,⟨o,n,e,_,_,d⟩,_⟩:=I.list h;obtain⟨its',g,⟨o',l,c,_,_,d'⟩,_⟩:=I.list h';rw[e]at c;cases c;rw[d]at d';injection d' with d1 _
 have:its=its':=by simpa using cU B8 d1
 subst this;exact r.inj g
theorem Inv.tuple_inj(I:Inv X a3 σ H s)(h:lx X.K H a xs)(h':lx X.K H a ys):xs=ys:=by
 obtain⟨its,r,⟨o,e,_,n,d⟩,_⟩:=I.tuple h;obtain⟨its',g,⟨o',c,_,l,d'⟩,_⟩:=I.tuple h';rw[e]at c;cases c;rw[d]at d';injection d' with d1 _
 have:its=its':=by simpa using cU B8 d1
 subst this;exact r.inj g
end
noncomputable abbrev Cx.wish(X:Cx)(E:ab->am->Prop):Cx:={ X with xe:=E }
abbrev Cx.nox(X:Cx):Cx:=X.wish λ_ _=>False
theorem Cx.Ok.wish{X:Cx}(ok:X.Ok)(E:ab->am->Prop):(X.wish E).Ok:=
 ⟨ok.mod,ok.kind,ok.glob,ok.blt,ok.above,ok.inj,ok.has,ok.cab,ok.hd,ok.frames,ok.stk,ok.exf,ok.bs,ok.bsz,ok.noex,ok.exfs,ok.funs,ok.frf⟩
theorem Cx.Ok.unwish{X:Cx}{E:ab->am->Prop}(ok:(X.wish E).Ok):X.Ok:=
 ⟨ok.mod,ok.kind,ok.glob,ok.blt,ok.above,ok.inj,ok.has,ok.cab,ok.hd,ok.frames,ok.stk,ok.exf,ok.bs,ok.bsz,ok.noex,ok.exfs,ok.funs,ok.frf⟩
section
variable{X:Cx}{a3:List (ak×Obj)}{σ:St}{H:Hp}{s:am}{E:ab->am->Prop}
theorem Inv.wish(I:Inv X a3 σ H s)(E:ab->am->Prop):Inv (X.wish E) a3 σ H s:=⟨I.ok.wish E,I.os,I.bare,I.base,I.loc,I.cell,I.free,I.freeC,I.pin,I.hok,I.len⟩
theorem Inv.unwish(I:Inv (X.wish E) a3 σ H s):Inv X a3 σ H s:=⟨I.ok.unwish,I.os,I.bare,I.base,I.loc,I.cell,I.free,I.freeC,I.pin,I.hok,I.len⟩
theorem SP.unwish{D:Ends}{f:Flow}{g:am}(h:SP (X.wish E) a3 D f g):SP X a3 D f g:=by
 cases f with
 |next=>obtain⟨σ',c,I,q⟩:=h;exact⟨σ',c,I.unwish,q⟩
 |brk=>obtain⟨σ',c,I,q⟩:=h;exact⟨σ',c,I.unwish,q⟩
 |cont=>obtain⟨σ',c,I,q⟩:=h;exact⟨σ',c,I.unwish,q⟩
 |ret u=>obtain⟨v,σ',c,I,r,q⟩:=h;exact⟨v,σ',c,I.unwish,r,q⟩
theorem PSs.nox{st:List Stmt}{t:TS}(h:PSs X.nox st t):PSs X st t:=λa3 s σ H D I c=>
 gJ (h a3 s σ H D (I.wish _) c) (λ_ _ q=>q.unwish) λ_ _ z=>cK z
end
section
variable{X:Cx}{st:Stmt}{rest:List Stmt}{t u:TS}{e:Expr}{te:TE}{pos:Pos}
noncomputable def FA:TS:=λD σ H=>D.nx σ H
noncomputable def IF(t u:TS):TS:=λD σ H=>t { D with nx:=u D } σ H
theorem R0:PSs X [] FA:=λ_ _ σ H _ I h=>tQ ⟨σ,H,I,h⟩
theorem Xr(o:PS X st t)(l:PSs X rest u):PSs X (st::rest) (IF t u):=by
 intro c s σ H D I h;refine wpAny_execs_cons (gj (o c s σ H { D with nx:=u D } I h) λf g q=>?_);cases f with
 |next=>
  obtain⟨σ',C,B,q⟩:=q;exact l c g σ' C D B q
 |ret v=>exact q
 |brk=>exact q
 |cont=>exact q
theorem Inv.quiet{c:List (ak×Obj)}{σ:St}{H:Hp}{s:am}(I:Inv X c σ H s):interactive X.env=false:=by simp[interactive,I.ok.kind]
noncomputable def Fb(te:TE):TS:=λD σ H=>te σ H λ_ c=>D.nx σ c
theorem PQ(q:PE X e te)(o:i0 e none pos.line X.env=pure false:=by rfl):PS X (.Expr e pos) (Fb te):=by intro c s σ H D I h;exact wpAny_Expr_any (gj (q c s σ H _ I h) λv E g=>by obtain⟨x,C,B,G,l⟩:=g;exact⟨σ,C,B,l⟩) I.quiet o
noncomputable def JH(te:TE):TS:=λD σ H=>te σ H D.rt
theorem TF(q:PE X e te):PS X (.Return (some e) pos) (JH te):=by intro g s σ H D I h;exact wpAny_Return_some (gj (q g s σ H _ I h) λv E c=>by obtain⟨x,C,B,l,o⟩:=c;exact⟨x,σ,C,B,l,o⟩)
noncomputable def HS(c:TT)(t u:TS):TS:=λD σ H=>c σ H λb g=>if b=true then t D σ g else u D σ g
theorem WH{c:Expr}{a b:List Stmt}{o:TT}(G:PT X c o)(L:PSs X a t)(J:PSs X b u):PS X (.If c a b pos) (HS o t u):=by
 intro g s σ H D I h;refine wpAny_If (gj (G g s σ H _ I h) λd q l=>?_);obtain⟨E,C,B⟩:=l;cases d with
 |true=>exact L g q σ E D C B
 |false=>exact J g q σ E D C B
noncomputable def AU:TS:=λ_ _ _=>False
theorem Wx:PS X st AU:=λ_ _ _ _ _ _ h=>h.elim
end
abbrev TG:=V->St->Hp->(St->Hp->Prop)->Prop
abbrev yR:=List V->St->Hp->(St->Hp->Prop)->Prop
def PG(X:Cx)(c:Expr)(t:TG):Prop:=
 ∀(a3:List (ak×Obj))(s:am)(σ:St)(H:Hp)(v:V)(u:ab)(Q:St->Hp->Prop),Inv X a3 σ H s->RelV v u->t v σ H Q ->
  aF (aW X.prog X.w) X.A (n6 c X.env u) (λ_ g=>∃σ' H',Inv X a3 σ' H' g/\Q σ' H') X.xe s
def PGs(X:Cx)(c:List Expr)(t:yR):Prop:=
 ∀(a3:List (ak×Obj))(s:am)(σ:St)(H:Hp)(vs:List V)(us:List ab)(Q:St->Hp->Prop),Inv X a3 σ H s->bQ vs us->t vs σ H Q ->
  aF (aW X.prog X.w) X.A (assignInOrder ((dB c X.env).map (·.2)) us) (λ_ g=>∃σ' H',Inv X a3 σ' H' g/\Q σ' H') X.xe s
abbrev yX:=V->V->V->Hp->(Hp->Prop)->Prop
def PSet(X:Cx)(t:yX):Prop:=
 ∀(a3:List (ak×Obj))(s:am)(σ:St)(H:Hp)(o i v:V)(ov iv u:ab)(Q:Hp->Prop),Inv X a3 σ H s->RelV o ov->RelV i iv->RelV v u->t o i v H Q ->
  aF (aW X.prog X.w) X.A (rA ov iv u) (λ_ g=>∃c,Inv X a3 σ c g/\Q c) X.xe s
abbrev G_:=V->V->Hp->VK->Prop
def Pj(X:Cx)(op:rB)(t:G_):Prop:=
 ∀(a3:List (ak×Obj))(s:am)(σ:St)(H:Hp)(x y:V)(v u:ab)(Q:VK),Inv X a3 σ H s->RelV x v->RelV y u->t x y H Q ->
  aF (aW X.prog X.w) X.A (inplaceOp op v u) (EP X a3 σ Q) X.xe s
section
variable{X:Cx}{pos:Pos}
noncomputable def tB(i:Nat):TG:=λv σ H Q=>Q (σ.set i (some v)) H
theorem WU{i:Nat}{x:Str}(q:X.N.Nodup)(l:X.N[i]?=some x)(g:Loc X.env.scope x)(o:X.fn x=true\/X.env.scope.names.lookup x=some .local:=by first|exact .inl rfl|exact .inr rfl|assumption):PG X (.Name x pos) (tB i):=by intro c s σ H v u Q I r h;exact CY (HB I q l g r (λC B=>⟨_,H,B,h⟩) o)
noncomputable def IZ:yR:=λvs σ H Q=>vs=[]/\Q σ H
noncomputable def FR(t:TG)(u:yR):yR:=λvs σ H Q=>∃v r,vs=v::r/\t v σ H λσ' c=>u r σ' c Q
theorem R5:PGs X [] IZ:=by intro c s σ H vs g Q I r h;obtain⟨e,h⟩:=h;subst e;cases r;exact assignInOrder_nil ⟨σ,H,I,h⟩
theorem Vk{e:Expr}{l:List Expr}{t:TG}{u:yR}(E:PG X e t)(C:PGs X l u)
  (B:(dB (e::l) X.env).map (·.2)=n6 e X.env::(dB l X.env).map (·.2):=by rfl):PGs X (e::l) (FR t u):=by
 intro c s σ H vs U Q I r h;obtain⟨v,O,G,h⟩:=h;subst G;cases r with
 |cons r rr=>
  rw[B];refine assignInOrder_cons (gj (E c s σ H _ _ _ I r h) λ_ o g=>?_);obtain⟨σ1,L,J,q⟩:=g;exact C c o σ1 L _ _ Q J rr q
def HN(K:ag)(n:Nat)(t:yR):TG:=λv σ H Q=>∃a xs,v=.ref a/\lx K H a xs/\xs.length=n/\t xs σ H Q
theorem Uo{g:List Expr}{k:Nat}{t:yR}{n:Nat}(O:X.calm=true)(h:PGs X g t)
  (J:(dB g X.env).length=n:=by rfl) (q:(dB g X.env).findIdx? (·.1)=none:=by rfl):PG X (.Tuple g k pos) (HN X.K n t):=by
 intro c s σ H v u Q I r l;obtain⟨a,xs,U,G,L,l⟩:=l;subst U;cases r;obtain⟨its,B,E,hz⟩:=I.tuple G;refine assign_Tuple_tuple (I.ok.hd O) E (by simp[J,<- L,B.length]) q λh' C=>?_;have Y:Inv X c σ H { s with heap:=h' }:=I.kept (t':=s.toks) λb o e=>C b o (aR (aD e)) e;exact h c _ σ H xs _ Q Y (by simpa using B) l
noncomputable def Iz(to c:TE)(t:yX):TG:=λv σ H Q=>to σ H λo l=>c σ l λi h=>t o i v h λg=>Q σ g
theorem RG{o i:Expr}{to E:TE}{t:yX}(ho:PE X o to)(hi:PE X i E)(hs:PSet X t)
  (ha:∀v,n6 (.Subscript o i pos) X.env v=(do
   let g <- mH [v] (eval o X.env)
   let C <- mH [v,g] (eval i X.env)
   wY pos
   mH [v,g,C] (rA g C v)
   release [v,g,C] []):=by intro _;rfl):PG X (.Subscript o i pos) (Iz to E t):=by
 intro c s σ H v u Q I r h;rw[ha];refine aa (bZ (gj (ho c s σ H _ I h) λg J B=>?_));obtain⟨x,H1,I1,O,q1⟩:=B;refine aa (bZ (gj (hi c J σ H1 _ I1 q1) λC G q=>?_));obtain⟨y,H2,I2,L,Y⟩:=q;refine aa (vH (aa (bZ (gj (hs c G σ H2 x y v g C u _ I2 O L r Y) λ_ s3 l=>?_))));obtain⟨H3,I3,U⟩:=l;exact wpAny_release ⟨σ,H3,I3,U⟩
noncomputable def xO(c:TE)(g:TG):TS:=λD σ H=>c σ H λx h=>g x σ h D.nx
theorem YS{tg e : Expr}{l : TE}{g : TG}(J : PE X e l)(G : PG X tg g)(E : swapsWithSole [tg] e pos.line X.env = pure false := by rfl)(C : qc [tg] e X.env = pure none := by rfl)
  (L:(dB [tg] X.env).map (·.2)=[n6 tg X.env]:=by rfl):PS X (.Assign [tg] e pos) (xO l g):=by
 intro c s σ H D I h;refine wpAny_Assign_stores (gj (J c s σ H _ I h) λv o ⟨x,Q,O,u,B⟩=>?_) E C;rw[L];exact gj (G c o σ Q x v _ O u B) λ_ U q=>q
theorem UU{i : Nat}{x : Str}{e : Expr}{l : TE}{c : Pos}(J : X.N.Nodup)(C : X.N[i]? = some x)(u : Loc X.env.scope x)(G : PE X e l)(B : i0 e (some (.Name x c)) pos.line X.env = pure false := by rfl)(E : X.fn x = true \/ X.env.scope.names.lookup x = some .local := by first|exact .inl rfl|exact .inr rfl|assumption):
  PS X (.Assign [.Name x c] e pos) (xO l (tB i)):=by
 intro g s σ H D I h;refine wpAny_Assign_Name (gj (G g s σ H _ I h) λv Y ⟨y,Q,O,o,q⟩=>?_) B;exact HB O J C u o (λU L=>⟨_,Q,L,q⟩) E
noncomputable def E4(i:Nat)(g:TE)(c:G_):TS:=λD σ H=>∃x,σ[i]?=some (some x)/\g σ H λy l=>c x y l λz h=>D.nx (σ.set i (some z)) h
theorem QR{i : Nat}{x : Str}{e : Expr}{L : TE}{op : rB}{J : G_}{E : Pos}(hN : X.N.Nodup)(O : X.N[i]? = some x)(G : Loc X.env.scope x)(he : PE X e L)(ho : Pj X op J)(hf : X.fn x = true \/ X.env.scope.names.lookup x = some .local := by first|exact .inl rfl|exact .inr rfl|assumption):
  PS X (.AugAssign (.Name x E) op e pos) (E4 i L J):=by
 intro g s σ H D I h;obtain⟨v,e1,h⟩:=h;obtain⟨m,hn,hl⟩:=I.loc;have vis:EA X.env.scope x:=by rcases G with k|k;exact .inl k;exact .inr (.inl k)
 obtain⟨u,r,l⟩:=hl i x v O e1 vis;refine wpAny_AugAssign_Name ?_;have go:aF (aW X.prog X.w) X.A (eval e X.env) (λw s₂=>aF (aW X.prog X.w) X.A (inplaceOp op u w) (λr s₃=>aF (aW X.prog X.w) X.A (pE X.env x r) (λ_=>SP X g D .next) X.xe s₃) X.xe s₂) X.xe s:=by refine gj (he g s σ H _ I h) λw Q C=>?_;obtain⟨y,H1,I1,Y,q1⟩:=C;refine gj (ho g Q σ H1 v y u w _ I1 r Y q1) λz s2 B=>?_;obtain⟨zv,H2,I2,U,q2⟩:=B;exact HB I2 hN O G U (λs3 I3=>⟨_,H2,I3,q2⟩) hf
 rcases l with ⟨o,hm⟩|⟨o,c,hc,q⟩
 ·exact zK I.ok.kind o hn hm go
 ·rcases o with o|o
  ·exact Ao I.ok.kind o hc q go
  ·rcases G with k|k
   ·have:X.env.scope.names.lookup x=some .free:=o;rw[k]at this;cases this
   ·have:X.env.scope.names.lookup x=some .free:=o;rw[k]at this;cases this
noncomputable def Nk(f:Int->Int->Int):G_:=λx y H Q=>∃i j,x=.int i/\y=.int j/\Q (.int (f i j)) H
theorem Uj:Pj X .Add (Nk λi j=>i+j):=by intro c s σ H x y v u Q I l g h;obtain⟨i,j,B,o,q⟩:=h;subst B;subst o;obtain⟨t,rfl⟩:=l;obtain⟨t',rfl⟩:=g;exact iadd_int ⟨.int _,H,I.tok _,⟨_,rfl⟩,q⟩
end
section
variable{X:Cx}{pos:Pos}
def AW(c:TT)(tb:TS):TS:=λD σ H=>∃W:Nat->St->Hp->Prop,(∃m,W m σ H)/\∀m σ H,W m σ H ->
 c σ H λb h=>if b=true then ∃N:St->Hp->Prop,(∀σ' H',N σ' H'->∃g,g < m/\W g σ' H')/\tb { D with nx:=N,ct:=N,bk:=D.nx } σ h else D.nx σ h
theorem Xa{c:Expr}{l:List Stmt}{Q:TT}{tb:TS}(U:sK (aW X.prog X.w) X.A X.env X.xe)(hc:PT X c Q)(hb:PSs X l tb):PS X (.While c l [] pos) (AW Q tb):=by
 intro g s σ H D I h;obtain⟨W,⟨m0,w0⟩,o⟩:=h;refine wpAny_While (codeAny_whileLoop (λn s'=>∃σ' H',Inv X g σ' H' s'/\W n σ' H') ?_ m0 ⟨σ,H,I,w0⟩)
 rintro n s1 ⟨σ1,H1,I1,w1⟩
 refine gW U (gj (hc g s1 σ1 H1 _ I1 (o n σ1 H1 w1)) λb s2 q=>?_);obtain⟨H2,I2,C⟩:=q;cases b with
 |true=>
  obtain⟨N,Y,C⟩:=C;rw[aJ rfl];refine gW U (gj (hb g s2 σ1 H2 _ I2 C) λf s3 B=>?_);cases f with
  |next=>
   obtain⟨σ3,u,O,G⟩:=B;obtain⟨J,L,E⟩:=Y σ3 u G;exact⟨J,L,σ3,u,O,E⟩
  |cont=>
   obtain⟨σ3,u,O,G⟩:=B;obtain⟨J,L,E⟩:=Y σ3 u G;exact⟨J,L,σ3,u,O,E⟩
  |brk=>exact B
  |ret v=>exact B
 |false=>
  rw[aG bh];exact tQ ⟨σ1,H2,I2,C⟩
end
structure It where
 go:Nat->Hp->Prop
 yld:Nat->Hp->V->Hp->Prop
 stop:Nat->Hp->Prop
def pQ(X:Cx)(g:List (ak×Obj))(H:Hp)(b:ak):Prop:=
 H b=none/\b≠X.env.locals/\b∉X.fs/\(b∈X.ex\/X.s₀.heap.objs.size<=b)/\(∀x c,X.env.cells.lookup x=some c->c≠b)/\∀p∈X.pn++g,p.1≠b
theorem Inv.fpOk{X:Cx}{g:List (ak×Obj)}{σ:St}{H l:Hp}{s:am}{b:ak}(I:Inv X g σ H s)(h:s.heap.objs.size<=b)(u:l b=none):pQ X g l b:=by
 refine⟨u,d_ (aZ I.lt h),I.nofs h,.inr (cF I.sz h),λx c e z=>?_,λp o z=>?_⟩
 ·obtain⟨v,q⟩:=I.cell x c e;exact ba (aZ q.lt (by rw[z];exact h)) (cy _)
 ·exact ba (aZ (aD (I.pin p o).1) (by rw[z];exact h)) (cy _)
structure ve(P:Program)(w:bD)(K:ag)(tg:Expr)(J:It)(fp:List ak)(it:ak)(tn:Nat->bw->Prop):Prop where
 mem:it∈fp
 obj:∀i h,tn i h->∀b∈fp,∃o,h.get? b=some o/\∀v,o.data≠.cell v
 keep:∀i h h',tn i h->(∀b∈fp,∀o,h.get? b=some o->h'.get? b=some o)->tn i h'
 item:∀(X:Cx),X.prog=P->X.w=w->X.K=K->X.calm=true->∀(i:Nat)(a3:List (ak×Obj))(s:am)(σ:St)(H:Hp)(E:ab->am->Prop),Inv X a3 σ H s->(∀b∈fp,pQ X a3 H b)->tn i s.heap->J.go i H ->
  aF (aW P w) X.A (iL (.ref it)) (λr s1=>∃u,r=some u /\
   aF (aW P w) X.A (ou tg (.ref it) u) (λ_ s2=>∃x H',Inv X a3 σ H' s2/\RelV x u/\J.yld i H x H'/\tn (i+1) s2.heap/\∀b∈fp,H' b=none) E s1) E s
 done:∀(X:Cx),X.prog=P->X.w=w->X.K=K->X.calm=true->∀(i:Nat)(a3:List (ak×Obj))(s:am)(σ:St)(H:Hp)(E:ab->am->Prop),Inv X a3 σ H s->(∀b∈fp,pQ X a3 H b)->tn i s.heap->J.stop i H ->
  aF (aW P w) X.A (iL (.ref it)) (λr s1=>r=none/\Inv X a3 σ H s1) E s
 self:∀(A:bz)(i:Nat)(s:am)(Q:ab->am->Prop)(E:ab->am->Prop),tn i s.heap->Q (.ref it) s->aF (aW P w) A (um (.ref it)) Q E s
abbrev TI:=St->Hp->(It->Hp->Prop)->Prop
def N1(X:Cx)(c:List (ak×Obj))(σ:St)(tg:Expr)(R:It->Hp->Prop)(g:ab)(o:am):Prop:=
 ∃(q:ak)(u:List ak)(l:Nat->bw->Prop)(J:It)(h:Hp),g=.ref q/\Inv X c σ h o/\ve X.prog X.w X.K tg J u q l/\l 0 o.heap/\(∀b∈u,pQ X c h b)/\R J h
def PI(X:Cx)(tg iter:Expr)(c:TI):Prop:=
 ∀(a3:List (ak×Obj))(s:am)(σ:St)(H:Hp)(R:It->Hp->Prop),Inv X a3 σ H s->c σ H R ->
  aF (aW X.prog X.w) X.A (eval iter X.env) (λv g=>aF (aW X.prog X.w) X.A (um v) (N1 X a3 σ tg R) X.xe g) X.xe s
theorem K9{M:CW}{A:bz}{E:ab->am->Prop}{s:am}{tg:Expr}{g:ak}{u:ab}{o:Obj}{n:String}{vs:Array ab}{Q:Unit->am->Prop}(l:s.heap.get? g=some o)(B:o.cls=.type n)(hd:o.data=.fields vs)
  (q:["enumerate","zip","dict_itemiterator","dict_reverseitemiterator","odict_iterator","itertools.zip_longest","itertools.pairwise"].contains n=false) (c:Q () s):aF M A (ou tg (.ref g) u) Q E s:=by
 unfold ou;cases tg<;>first
  |exact ai c
  | (cases u <;> first
    |exact ai c
    | (refine aa (wpAny_load l ?_)
       rw[B,hd]
       show aF M A (if (["enumerate","zip","dict_itemiterator","dict_reverseitemiterator","odict_iterator","itertools.zip_longest","itertools.pairwise"].contains n&&vs[0]? == some (eZ _))=true then _ else _) Q E s;rw[aG (by intro h;rw[q,iU]at h;cases h)];exact ai c))
def Gv(K:ag)(a:ak):It:=
 ⟨λi H=>∃xs x,g8 K H a xs/\xs[i]?=some x,λi H x c=>c=H/\∀xs,g8 K H a xs->xs[i]?=some x,λi H=>∃xs,g8 K H a xs/\xs.length<=i⟩
def JV(K:ag)(a:ak):It:=
 ⟨λi H=>∃xs x,lx K H a xs/\xs[i]?=some x,λi H x c=>c=H/\∀xs,lx K H a xs->xs[i]?=some x,λi H=>∃xs,lx K H a xs/\xs.length<=i⟩
noncomputable def GV(lo:Int)(n:Nat):It:=⟨λi _=>i < n,λi H x c=>c=H/\x=.int (lo+i),λi _=>n<=i⟩
theorem No{P:Program}{w:bD}{K:ag}{tg:Expr}(a l:ak):ve P w K tg (Gv K a) [l] l (λi h=>h.IsListIter l a i) where
 mem:=by simp
 obj:=λi h st b q=>by
  have e:b=l:=by simpa using q
  subst e;obtain⟨o,e,c,d⟩:=st;exact⟨o,e,λv z=>by rw[d]at z;cases z⟩
 keep:=λi h h' st k=>st.at λo e=>k l (by simp) o e
 item:=by intro X U O Y hc i g s σ H E I G st Q;subst U O Y;obtain⟨xs,x,C,L⟩:=Q;obtain⟨its,J,p,hz⟩:=I.list C;obtain⟨u,hu,ru⟩:=J.get L;obtain⟨f0,f1,f2,f3,f4,f5⟩:=G l (by simp);refine wZ st p.isList (x:=u) (by simpa using hu) λh' B sb=>?_;have I1:Inv X g σ H { s with heap:=h' }:=I.turned (t':=s.toks) (λb o q e=>(sb.2 b q).trans e) f0 f1 f3 f4 f5;obtain⟨o,e,c,d⟩:=id B;exact⟨u,rfl,K9 (s:={ s with heap:=h' }) e c d (by decide) ⟨x,H,I1,ru,⟨rfl,λys hy=>by rw[I.list_inj hy C];exact L⟩,B,λb q=>(G b q).1⟩⟩
 done:=by intro X U O Y hc i g s σ H E I G st Q;subst U O Y;obtain⟨xs,C,L⟩:=Q;obtain⟨its,J,p,hz⟩:=I.list C;obtain⟨f0,f1,f2,f3,f4,f5⟩:=G l (by simp);have hl:=J.length;exact xG (I.ok.hd hc) st p.isList (by simp;ext) λh' eb=>⟨rfl,I.turned (t':=s.toks) (λb o q e=>eb b o q e) f0 f1 f3 f4 f5⟩
 self:=λ_ _ _ _ _ st h=>wpAny_pyIter_listiter st h
theorem YX{P:Program}{w:bD}{K:ag}{tg:Expr}(a l:ak):ve P w K tg (JV K a) [l] l (λi h=>h.IsTupleIter l a i) where
 mem:=by simp
 obj:=λi h st b q=>by
  have e:b=l:=by simpa using q
  subst e;obtain⟨o,e,c,d⟩:=st;exact⟨o,e,λv z=>by rw[d]at z;cases z⟩
 keep:=λi h h' st k=>st.at λo e=>k l (by simp) o e
 item:=by intro X U O Y hc i g s σ H E I G st Q;subst U O Y;obtain⟨xs,x,C,L⟩:=Q;obtain⟨its,J,p,hz⟩:=I.tuple C;obtain⟨u,hu,ru⟩:=J.get L;obtain⟨f0,f1,f2,f3,f4,f5⟩:=G l (by simp);refine wpAny_pyNext_tuple_item st (show s.heap.IsTuple a its.toArray from p) (x:=u) (by simpa using hu) λh' B sb=>?_;have I1:Inv X g σ H { s with heap:=h' }:=I.turned (t':=s.toks) (λb o q e=>(sb.2 b q).trans e) f0 f1 f3 f4 f5;obtain⟨o,e,c,d⟩:=id B;exact⟨u,rfl,K9 (s:={ s with heap:=h' }) e c d (by decide) ⟨x,H,I1,ru,⟨rfl,λys hy=>by rw[I.tuple_inj hy C];exact L⟩,B,λb q=>(G b q).1⟩⟩
 done:=by intro X U O Y hc i g s σ H E I G st Q;subst U O Y;obtain⟨xs,C,L⟩:=Q;obtain⟨its,J,p,hz⟩:=I.tuple C;obtain⟨f0,f1,f2,f3,f4,f5⟩:=G l (by simp);have hl:=J.length;exact wpAny_pyNext_tuple_end (I.ok.hd hc) st (show s.heap.IsTuple a its.toArray from p) (by simp;ext) λh' eb=>⟨rfl,I.turned (t':=s.toks) (λb o q e=>eb b o q e) f0 f1 f3 f4 f5⟩
 self:=λ_ _ _ _ _ st h=>wpAny_pyIter_tupleiter st h
theorem R_{P:Program}{w:bD}{K:ag}{tg:Expr}(g:ak)(lo:Int)(n:Nat):ve P w K tg (GV lo n) [g] g (λi h=>IsRangeIter h g (lo+(i:Nat)*1) ((n:Int)-(i:Nat)) 1) where
 mem:=by simp
 obj:=λi h st b l=>by
  have e:b=g:=by simpa using l
  subst e;exact⟨_,st,λv z=>by have z':Data.fields _=Data.cell v:=z;cases z'⟩
 keep:=λi h h' st k=>k g (by simp) _ st
 item:=by intro X J B L G i c s σ H E I u st C;subst J B L;obtain⟨Y,U,f2,f3,Q,O⟩:=u g (by simp);have W:=Walks.range (prog:=X.prog) (w:=X.w) (I.ok.hd G) g lo 1 n;refine W.item i s _ _ C st λv h' tk hv q kk=>?_;obtain⟨t,rfl⟩:=hv;have I1:Inv X c σ H { s with heap:=h',toks:=tk }:=I.turned (λb o l e=>kk b o (by simpa using l) e) Y U f3 Q O;refine⟨_,rfl,K9 (s:={ s with heap:=h',toks:=tk }) (n:="range_iterator") q rfl rfl (by decide) ⟨.int (lo+i),H,I1,⟨t,?_⟩,⟨rfl,rfl⟩,q,λb l=>(u b l).1⟩⟩;rw[Int.mul_one]
 done:=by intro X J B L G i c s σ H E I u st C;subst J B L;obtain⟨Y,U,f2,f3,Q,O⟩:=u g (by simp);exact wpAny_pyNext_range_end (I.ok.hd G) st (by have:n<=i:=C;ext) λh' eb=>⟨rfl,I.turned (t':=s.toks) (λb o l e=>eb b o l e) Y U f3 Q O⟩
 self:=λ_ _ _ _ _ st h=>wpAny_pyIter_rangeiter st h
section
variable{X:Cx}{tg:Expr}
def DQ(K:ag)(g:TE):TI:=λσ H R=>g σ H λx c=>∃a,x=.ref a/\(∃xs,g8 K c a xs)/\R (Gv K a) c
theorem XB{l:Expr}{C:TE}(L:PE X l C):PI X tg l (DQ X.K C):=by
 intro g s σ H R I h;refine gj (L g s σ H _ I h) λv u c=>?_;obtain⟨x,Q,B,E,G⟩:=c;obtain⟨a,e,⟨xs,J⟩,q⟩:=G;subst e;cases E;obtain⟨its,U,p,hz⟩:=B.list J;refine fS p.isList ?_;refine⟨u.heap.objs.size,[u.heap.objs.size],_,_,Q,rfl,B.kept (t':=u.toks) λb o e=>ah _ e,No a _,⟨_,aB _ rfl,rfl,rfl⟩,λb O=>?_,q⟩;have e:b=u.heap.objs.size:=by simpa using O
 subst e;exact B.fpOk (ax _) (B.hok.fresh (ax _))
theorem PF{g:List (ak×Obj)}{σ:St}{H:Hp}{s:am}{R:It->Hp->Prop}{E:ab->am->Prop}{lo c:Int}{t u v:Tok}{tk:Nat}(I:Inv X g σ H s)(J : -(2^62)<=lo)(G:lo < 2^62)(C : -(2^62)<=c)(B:c < 2^62)
  (q:R (GV lo (c-lo).toNat) H):aF (aW X.prog X.w) X.A (um (.ref s.heap.objs.size)) (N1 X g σ tg R) E { s with heap:=s.heap.push { cls:=.type "range",data:=.fields #[.int lo t,.int c u,.int 1 v] },toks:=tk }:=by
 refine wpAny_pyIter_range (IsRange.new ..) (small_one J G C B) ?_;have h:Inv X g σ H { s with heap:=s.heap.push { cls:=.type "range",data:=.fields #[.int lo t,.int c u,.int 1 v] },toks:=tk }:=I.kept λb o e=>ah _ e;refine⟨(s.heap.push { cls:=.type "range",data:=.fields #[.int lo t,.int c u,.int 1 v] }).objs.size,[(s.heap.push { cls:=.type "range",data:=.fields #[.int lo t,.int c u,.int 1 v] }).objs.size],_,_,H,rfl,
  h.kept (t':=tk) λb o e=>ah _ e,R_ _ lo (c-lo).toNat,?_,λb l=>?_,q⟩
 ·have O:lo+((0:Nat):Int)*1=lo:=by simp
  have L:(((c-lo).toNat:Nat):Int)-((0:Nat):Int)=Builtin.Range.rangeSize lo c 1:=by rw[rangeSize_one];split<;>ext
  show IsRangeIter _ _ (lo+((0:Nat):Int)*1) ((((c-lo).toNat:Nat):Int)-((0:Nat):Int)) 1;rw[O,L];exact aB _ rfl
 ·have e:b=(s.heap.push { cls:=.type "range",data:=.fields #[.int lo t,.int c u,.int 1 v] }).objs.size:=by simpa using l
  subst e;exact h.fpOk (ax _) (h.hok.fresh (ax _))
def fm(c:TA):TI:=λσ H R=>c σ H λvs g=>∃j:Int,vs=[.int j] /\ -(2^62)<=j/\j < 2^62/\R (GV 0 j.toNat) g
theorem Uk{a:Expr}{l:TA}{p pos:Pos}(E:Gl X "range")(C:X.mg "range"=none)(G:PA X [a] l)(B:starEach [a] X.env=[(false,eval a X.env)]:=by rfl):PI X tg (.Call (.Name "range" p) [a] [] pos) (fm l):=by
 intro c s σ H R I h;refine Call_ (wW I E C boot_range (cB (gj (G pos c s σ H _ I h) λL O ⟨vs,Q,J,o,g⟩=>?_) B rfl));obtain⟨j,e,g,u,q⟩:=g;subst e;cases o with
 |cons r rr=>
  cases rr;obtain⟨t,rfl⟩:=r;exact call_range_1 (PF J (by ext) (by ext) g u (by simpa using q))
def KQ(l:TI)(g:TG)(tb:TS):TS:=λD σ H=>l σ H λJ q=>∃W:Nat->Nat->St->Hp->Prop,(∃m,W 0 m σ q)/\∀i m σ H,W i m σ H ->
 (J.stop i H/\D.nx σ H)\/(J.go i H/\∃N:St->Hp->Prop,(∀σ' c,N σ' c->∃h,h < m/\W (i+1) h σ' c)/\∀x c,J.yld i H x c->g x σ c λσ2 o=>tb { D with nx:=N,ct:=N,bk:=D.nx } σ2 o)
noncomputable def qp(c:List ak)(h:bw):List (ak×Obj):=c.filterMap λb=>(h.get? b).map λo=>(b,o)
theorem He{c:List ak}{h:bw}{b:ak}{o:Obj}(g:b∈c)(e:h.get? b=some o):(b,o)∈qp c h:=lA.mpr ⟨b,g,by rw[e];rfl⟩
theorem VE{c:List ak}{h:bw}{p:ak×Obj}(g:p∈qp c h):p.1∈c/\h.get? p.1=some p.2:=by
 obtain⟨b,l,e⟩:=lA.mp g;cases q:h.get? b with
 |none=>rw[q]at e;cases e
 |some o=>
  rw[q]at e;have u:(b,o)=p:=aM e;subst u;exact⟨l,q⟩
theorem Inv.pinned{c:List (ak×Obj)}{σ:St}{H:Hp}{s:am}{g:List ak}(I:Inv X c σ H s)(B:∀b∈g,pQ X c H b)(u:∀b∈g,∃o,s.heap.get? b=some o/\∀v,o.data≠.cell v):Inv X (c++qp g s.heap) σ H s:=
 I.pins_of λp q=>(aU.mp q).elim (λz=>I.pin p (bS _ z)) λz=>by obtain⟨h,e⟩:=VE z;obtain⟨G,E,C,_⟩:=B p.1 h;obtain⟨o,l,d⟩:=u p.1 h;rw[e]at l;cases l;exact⟨e,G,E,C,d⟩
theorem Inv.unpinned{c g:List (ak×Obj)}{σ:St}{H:Hp}{s:am}(I:Inv X (c++g) σ H s):Inv X c σ H s:=I.pins_of λp h=>I.pin p (bS _ (bY _ h))
theorem Wt{iter:Expr}{L:List Stmt}{wi:TI}{g:TG}{tb:TS}{pos:Pos}(hp:sK (aW X.prog X.w) X.A X.env X.xe)(hc:X.calm=true)(hi:PI X tg iter wi)(hg:PG X tg g)(q:PSs X L tb)
  (hs:∀x,fj iter X.env x=pure x:=by intro _;rfl):PS X (.For tg iter L [] pos) (KQ wi g tb):=by
 intro c s σ H D I h;refine wpAny_For (gj (hi c s σ H _ I h) λv s1 h1=>gj h1 λitv s2 h2=>?_) hs;obtain⟨it,fp,tn,J,H2,e,I2,T,st2,f2,W,⟨m0,w0⟩,Q⟩:=h2;subst e;have l:∀{E:Hp},(∀b∈fp,E b=none)->∀b∈fp,pQ X c E b:=λhn b q=>⟨hn b q,(f2 b q).2⟩
 refine codeAny_forLoop_any (λn s'=>∃i σ' E,Inv X c σ' E s'/\tn i s'.heap/\(∀b∈fp,E b=none)/\W i n σ' E) ?_ m0 ⟨0,σ,H2,I2,st2,λb q=>(f2 b q).1,w0⟩
 rintro n s3 ⟨i,σ3,H3,I3,st3,fr3,w3⟩
 rcases Q i n σ3 H3 w3 with ⟨U,qn⟩|⟨go,N,hN,step⟩
 ·refine gW hp (gj (T.done X rfl rfl rfl hc i c s3 σ3 H3 X.xe I3 (l fr3) st3 U) λr s4 g=>?_);obtain⟨hr,h⟩:=g;subst hr;exact tQ ⟨σ3,H3,h,qn⟩
 ·refine gW hp (gj (T.item X rfl rfl rfl hc i c s3 σ3 H3 X.xe I3 (l fr3) st3 go) λr s4 h=>?_);obtain⟨u,hr,h4⟩:=h;subst hr;refine gW hp (gj h4 λ_ Q g=>?_);obtain⟨x,U,I5,r5,y5,O,J⟩:=g;have L:=I5.pinned (l J) (T.obj _ _ O);refine gW hp (gj (hg _ Q σ3 U x u _ L r5 (step x U y5)) λ_ s6 Y=>?_);obtain⟨σ6,H6,I6,q6⟩:=Y;refine gW hp (gj (q _ s6 σ6 H6 _ I6 q6) λf I G=>?_);have again:∀{σ7:St}{C:Hp},Inv X (c++qp fp Q.heap) σ7 C I->N σ7 C->∃m,m < n/\∃i σ' E,Inv X c σ' E I/\tn i I.heap/\(∀b∈fp,E b=none)/\W i m σ' E:=λ{σ7 C}B H=>by obtain⟨m',hm,w7⟩:=hN σ7 C H;refine⟨m',hm,i+1,σ7,C,B.unpinned,T.keep _ _ _ O λb q o e=>(B.pin (b,o) (bS _ (bS _ (He q e)))).1,λb q=>?_,w7⟩;obtain⟨o,e,d⟩:=T.obj _ _ O b q;exact (B.pin (b,o) (bS _ (bS _ (He q e)))).2.1
  cases f with
  |next=>obtain⟨σ7,C,B,H⟩:=G;exact again B H
  |cont=>obtain⟨σ7,C,B,H⟩:=G;exact again B H
  |brk=>obtain⟨σ7,C,B,G⟩:=G;exact⟨σ7,C,B.unpinned,G⟩
  |ret v=>obtain⟨x7,σ7,C,B,r7,G⟩:=G;exact⟨x7,σ7,C,B.unpinned,r7,G⟩
end
abbrev R2:=V->V->Hp->VK->Prop
def OpR(X:Cx)(f:ab->ab->Sem ab)(r:R2):Prop:=
 ∀(a3:List (ak×Obj))(s:am)(σ:St)(H:Hp)(x y:V)(v u:ab)(Q:VK),Inv X a3 σ H s->RelV x v->RelV y u->r x y H Q ->
  aF (aW X.prog X.w) X.A (f v u) (EP X a3 σ Q) X.xe s
def CallR(X:Cx)(f:ab)(r:List V->Hp->VK->Prop):Prop:=
 ∀(a3:List (ak×Obj))(s:am)(σ:St)(H:Hp)(xs:List V)(us:List ab)(Q:VK),Inv X a3 σ H s->bQ xs us->r xs H Q ->
  aF (aW X.prog X.w) X.A (call f us) (EP X a3 σ Q) X.xe s
def HD(X:Cx)(r:V->Hp->(Bool->Hp->Prop)->Prop):Prop:=
 ∀(a3:List (ak×Obj))(s:am)(σ:St)(H:Hp)(x:V)(v:ab)(Q:Bool->Hp->Prop),Inv X a3 σ H s->RelV x v->r x H Q ->
  aF (aW X.prog X.w) X.A (truthy v) (TP X a3 σ Q) X.xe s
noncomputable def D3(r:R2)(c tb:TE):TE:=λσ H Q=>c σ H λx h=>tb σ h λy g=>r x y g Q
noncomputable def rI(C:Int->Int->Prop)(g:Int->Int->V):R2:=λx y H Q=>∃i j,x=.int i/\y=.int j/\C i j/\Q (g i j) H
noncomputable def Ba(g:Int->Int->V):R2:=λx y H Q=>∃i j,x=.int i/\y=.int j/\Q (g i j) H
section
variable{X:Cx}{a b c:Expr}{ta tb tc:TE}{pos:Pos}
theorem BK(c:PE X a ta)(Y:PE X b tb){g:List (ak×Obj)}{s:am}{σ:St}{H:Hp}{R:V->V->Hp->Prop}(I:Inv X g σ H s)
  (h:ta σ H λx C=>tb σ C λy l=>R x y l) {Q:ab->am->Prop}{f:ab->ab->Sem ab}
  (U:∀v u B x y l,Inv X g σ l B->RelV x v->RelV y u->R x y l->aF (aW X.prog X.w) X.A (f v u) Q X.xe B):
  aF (aW X.prog X.w) X.A (eval a X.env) (λv s₁=>aF (aW X.prog X.w) X.A (eval b X.env) (λu s₂=>aF (aW X.prog X.w) X.A (f v u) Q X.xe s₂) X.xe s₁) X.xe s:=by
 refine gj (c g s σ H _ I h) λv E q=>?_;obtain⟨x,C,I1,J,O⟩:=q;refine gj (Y g E σ C _ I1 O) λu B o=>?_;obtain⟨y,l,I2,G,L⟩:=o;exact U v u B x y l I2 J G L
theorem Na{op:rB}{r:R2}(C:OpR X (eG op) r)(G:PE X a ta)(E:PE X b tb):PE X (.BinOp a op b pos) (D3 r ta tb):=by intro g s σ H Q I h;exact wpAny_BinOp (BK G E I h λv u l x y L J B o q=>C g l σ L x y v u Q J B o q)
theorem sj{f:ab->ab->Sem ab}{C:Int->Int->Prop}{g:Int->Int->Int}
  (rule:∀(i j:Int)(t u:Tok)(s:am)(Q:ab->am->Prop)(E:ab->am->Prop),C i j->Q (.int (g i j) s.toks) { s with toks:=s.toks+1 }->aF (aW X.prog X.w) X.A (f (.int i t) (.int j u)) Q E s):
  OpR X f (rI C λi j=>.int (g i j)):=by
 intro l s σ H x y v u Q I B o h;obtain⟨i,j,rfl,rfl,G,q⟩:=h;obtain⟨t,rfl⟩:=B;obtain⟨t',rfl⟩:=o;exact rule i j t t' s _ _ G ⟨.int (g i j),H,I.tok _,⟨_,rfl⟩,q⟩
theorem D5{f:ab->ab->Sem ab}{g:Int->Int->Int}
  (rule:∀(i j:Int)(t u:Tok)(s:am)(Q:ab->am->Prop)(E:ab->am->Prop),Q (.int (g i j) s.toks) { s with toks:=s.toks+1 }->aF (aW X.prog X.w) X.A (f (.int i t) (.int j u)) Q E s):
  OpR X f (Ba λi j=>.int (g i j)):=by
 intro l s σ H x y v u Q I B o h;obtain⟨i,j,rfl,rfl,q⟩:=h;obtain⟨t,rfl⟩:=B;obtain⟨t',rfl⟩:=o;exact rule i j t t' s _ _ ⟨.int (g i j),H,I.tok _,⟨_,rfl⟩,q⟩
theorem BJ{f:ab->ab->Sem ab}{g:Int->Int->Bool}
  (rule:∀(i j:Int)(t u:Tok)(s:am)(Q:ab->am->Prop)(E:ab->am->Prop),Q (.bool (g i j)) s->aF (aW X.prog X.w) X.A (f (.int i t) (.int j u)) Q E s):
  OpR X f (Ba λi j=>.bl (g i j)):=by
 intro l s σ H x y v u Q I B o h;obtain⟨i,j,rfl,rfl,q⟩:=h;obtain⟨t,rfl⟩:=B;obtain⟨t',rfl⟩:=o;exact rule i j t t' s _ _ ⟨.bl (g i j),H,I,rfl,q⟩
noncomputable def K8(i j:Int):Prop:=0 < j/\j < 1073741824
noncomputable def Kr(i j:Int):Prop:=0<=j/\j<=1000000/\i.natAbs < 2^64
noncomputable def BA(i j:Int):Prop:=(-(2^64) < i/\i < 2^64)\/(-(2^64) < j/\j < 2^64)
theorem BA.ok{i j:Int}(h:BA i j):IntMulOk i j:=by
 rcases h with ⟨l,g⟩|⟨l,g⟩
 ·exact .of_left (intBits_le_64 l g)
 ·exact .of_right (intBits_le_64 l g)
theorem Rj:OpR X (eG .Add) (Ba λi j=>.int (i+j)):=D5 λ_ _ _ _ _ _ _ q=>add_int q
theorem Tg:OpR X (eG .Sub) (Ba λi j=>.int (i-j)):=D5 λ_ _ _ _ _ _ _ q=>sub_int q
theorem Sx:OpR X (eG .Mult) (rI BA λi j=>.int (i*j)):=sj λ_ _ _ _ _ _ _ g q=>mul_int q g.ok
theorem Tw:OpR X (eG .FloorDiv) (rI K8 λi j=>.int (i / j)):=sj λi j _ _ _ _ _ g q=>by have l:(0:Int) < j:=g.1;have h:j < 1073741824:=g.2;exact floordiv_int (by ext) (by rw[Int.fdiv_eq_ediv_of_nonneg i (by ext)];exact q) (.inl (PyProof.noPylong_small (by ext)))
theorem S7:OpR X (eG .Mod) (rI (λ_ j=>0 < j) λi j=>.int (i % j)):=sj λi j _ _ _ _ _ g q=>by have h:(0:Int) < j:=g;exact mod_int' (by ext) (by rw[Int.fmod_eq_emod_of_nonneg i (by ext)];exact q)
theorem Ru:OpR X (eG .Pow) (rI Kr λi j=>.int (i^j.toNat)):=sj λ_ _ _ _ _ _ _ g q=>pow_int_small g.1 g.2.1 g.2.2 q
end
section
variable{X:Cx}{a b c:Expr}{ta tb tc:TE}{pos:Pos}
theorem NO{g:List (ak×Obj)}{σ:St}{H:Hp}{s:am}{Q:VK}{k h:Bool}(I:Inv X g σ H s)(q:Q (.bl k) H)(e:k=h):EP X g σ Q (.bool h) s:=by subst e;exact⟨.bl k,H,I,rfl,q⟩
theorem WL:OpR X (cG .Lt) (Ba λi j=>.bl (decide (i < j))):=BJ λ_ _ _ _ _ _ _ q=>lt_int q
theorem Xt:OpR X (cG .Gt) (Ba λi j=>.bl (decide (j < i))):=BJ λ_ _ _ _ _ _ _ q=>gt_int q
theorem R1:OpR X (cG .GtE) (Ba λi j=>.bl (decide (j<=i))):=BJ λ_ _ _ _ _ _ _ q=>ge_int q
theorem RI:OpR X (cG .Is) (λx y H Q=>y=.non/\Q (.bl (decide (x=.non))) H):=by
 intro l s σ H x y v u Q I g o h;obtain⟨rfl,q⟩:=h;cases o;refine is_none_gen (NO I q ?_);cases x<;>first
  | (cases g;rfl)
  | (obtain⟨t,rfl⟩:=g;rfl)
theorem TW:OpR X (cG .IsNot) (λx y H Q=>y=.non/\Q (.bl (!decide (x=.non))) H):=by
 intro l s σ H x y v u Q I g o h;obtain⟨rfl,q⟩:=h;cases o;refine isnot_none_gen (NO I q ?_);cases x<;>first
  | (cases g;rfl)
  | (obtain⟨t,rfl⟩:=g;rfl)
theorem Y2(b:Expr){op:uo}(h:op≠.In:=by decide)(g:op≠.NotIn:=by decide):iR op b=false:=by
 have o:(op == uo.In)=false:=by cases op<;>first|rfl|exact ba rfl h
 have l:(op == uo.NotIn)=false:=by cases op<;>first|rfl|exact ba rfl g
 cases b<;>simp[iR,o,l]
theorem Uq{op:uo}{r:R2}(C:OpR X (cG op) r)(J:PE X a ta)(G:PE X b tb)(E:iR op b=false):PE X (.Compare a [op] [b] pos) (D3 r ta tb):=by intro g s σ H Q I h;exact wpAny_Compare1 (BK J G I h λv u l x y O L B o q=>C g l σ O x y v u Q L B o q) E
noncomputable def Eh(t:TE):TT:=λσ H Q=>t σ H λx g=>∃k,x=.bl k/\Q k g
theorem Va{op:uo}{r:R2}(L:OpR X (cG op) r)(Y:PE X a ta)(U:PE X b tb)(O:iR op b=false):PT X (.Compare a [op] [b] pos) (Eh (D3 r ta tb)):=by
 intro g s σ H Q I h;refine wpAny_isTrue_Compare1 (gj (Y g s σ H _ I h) λv o ⟨x,H1,I1,C,J⟩=>gj (U g o σ H1 _ I1 J) λu l ⟨y,H2,I2,B,G⟩=>
  gj (L g l σ H2 x y v u _ I2 C B G) λc s3 ⟨z,H3,I3,q,k,e,E⟩=>?_) O
 subst e;cases q;exact fR ⟨H3,I3,E⟩
def BP(K:ag)(x:V)(H:Hp)(k:Bool):Prop:=
 match x with
 | .non=>k=false
 | .bl b=>k=b
 | .int i=>k=(i != 0)
 | .str y=>y.length<=sizeLine/\k=((y.length:Int) != 0)
 | .byt y=>y.size<=sizeLine/\k=((y.size:Int) != 0)
 | .ref p=>(∃xs,g8 K H p xs/\k = !xs.isEmpty)\/(∃xs,lx K H p xs/\k = !xs.isEmpty)\/∃g,H p=some (.dK g)/\k = !g.isEmpty
 |_=>False
theorem Xz{κ:Type}{g:List (κ×V)}{vs:List (κ×ab)}(r:KV g vs):(!vs.isEmpty) = !g.isEmpty:=by cases r<;>rfl
theorem MX{xs:List V}{its:List ab}(r:bQ xs its):(!its.toArray.isEmpty) = !xs.isEmpty:=by cases r<;>simp
theorem A7:(sizeLine:Nat) < 2^63:=by rw[i4];decide
theorem U3:HD X (λx H Q=>∃k,BP X.K x H k/\Q k H):=by
 intro E s σ H x v Q I u h;obtain⟨k,e,q⟩:=h;have O:=A7;have L:sizeLine=16777216:=i4;cases x with
 |non=>
  cases u;have g:k=false:=e;subst g;exact truthy_none ⟨H,I,q⟩
 |bl b=>
  cases u;have g:k=b:=e;subst g;exact fR ⟨H,I,q⟩
 |int i=>
  obtain⟨t,rfl⟩:=u;have g:k=(i != 0):=e;subst g;exact PySem.P.truthy_int ⟨H,I,q⟩
 |str y=>
  obtain⟨t,rfl⟩:=u;obtain⟨G,g⟩:y.length<=sizeLine/\k=((y.length:Int) != 0):=e;subst g;exact PySem.P.truthy_str (by ext) ⟨H,I.tok _,q⟩
 |byt y=>
  obtain⟨t,rfl⟩:=u;obtain⟨G,g⟩:y.size<=sizeLine/\k=((y.size:Int) != 0):=e;subst g;exact PySem.W.truthy_bytes (by ext) ⟨H,I.tok _,q⟩
 |ref p=>
  cases u;have g:(∃xs,g8 X.K H p xs/\k = !xs.isEmpty)\/(∃xs,lx X.K H p xs/\k = !xs.isEmpty)\/∃l,H p=some (.dK l)/\k = !l.isEmpty:=e;rcases g with ⟨xs,B,g⟩|⟨xs,B,g⟩|⟨l,B,g⟩
  ·subst g;obtain⟨its,r,C,hz⟩:=I.list B;have o:=r.length;exact wpAny_truthy_list C.isList (by simp only[ay];ext) ⟨H,I.tok _,by rw[MX r];exact q⟩
  ·subst g;obtain⟨its,r,C,hz⟩:=I.tuple B;have o:=r.length;exact truthy_tuple C (by simp only[ay];ext) ⟨H,I.tok _,by rw[MX r];exact q⟩
  ·subst g;obtain⟨hz,J,vs,r,m⟩:l.length<=sizeLine/\(p == dA)=false/\∃vs,KV l vs/\s.heap.DictOf (fL X.prog X.w) p vs:=I.hok p _ B;have o:l.length=vs.length:=dR r;exact wpAny_truthy_dict J m (by ext) ⟨H,I.tok _,by rw[Xz r];exact q⟩
 |_=>exact (show False from e).elim
theorem R8(E:PE X a ta)(C:∀whole,isTrue a X.env whole=(do let v <- whole; wY a.pos; mH [v] (truthy v))):
  PT X a (λσ H Q=>ta σ H λx o=>∃k,BP X.K x o k/\Q k o):=by
 intro g s σ H Q I h;exact isTrue_plain (gj (E g s σ H _ I h) λv q l=>by obtain⟨x,J,G,u,B⟩:=l;exact U3 g q σ J x v Q G u B) (C _)
theorem QD:OpR X (eG .Add) (λx y H Q=>∃i j,x=.str i/\y=.str j/\i.length+j.length<=sizeLine/\Q (.str (i++j)) H):=by intro g s σ H x y v u Q I o l h;obtain⟨i,j,rfl,rfl,hz,q⟩:=h;obtain⟨t,rfl⟩:=o;obtain⟨t',rfl⟩:=l;exact add_str (λt' tk=>⟨.str (i++j),H,I.tok _,⟨_,rfl⟩,q⟩) hz
theorem vv{x:V}{g:List ab}(r:bQ [x] g):∃u,g=[u]/\RelV x u:=by
 cases r with
 |cons r1 r2=>cases r2;exact⟨_,rfl,r1⟩
theorem L9{x y:V}{h:List ab}(r:bQ [x,y] h):∃u g,h=[u,g]/\RelV x u/\RelV y g:=by
 cases r with
 |cons r1 r2=>
  cases r2 with
  |cons r3 r4=>cases r4;exact⟨_,_,rfl,r1,r3⟩
theorem YN(o:X.calm=true):CallR X (.builtin "max") (λxs H Q=>∃i j,xs=[.int i,.int j]/\Q (.int (if j > i then j else i)) H):=by
 intro l s σ H xs C Q I r h;obtain⟨i,j,rfl,q⟩:=h;obtain⟨u,B,rfl,⟨t,rfl⟩,⟨t',rfl⟩⟩:=L9 r;refine max_two_ints (I.ok.hd o) λh' tk k=>⟨_,H,I.kept k,?_,q⟩
 by_cases g:j > i
 ·rw[aJ g,aJ g];exact⟨_,rfl⟩
 ·rw[aG g,aG g];exact⟨_,rfl⟩
theorem WZ:CallR X (.type "int") (λxs H Q=>(∃i,xs=[.int i]/\Q (.int i) H)\/∃k,xs=[.bl k]/\Q (.int (if k then 1 else 0)) H):=by
 intro g s σ H xs o Q I r h;rcases h with ⟨i,rfl,q⟩|⟨k,rfl,q⟩
 ·obtain⟨u,rfl,t,rfl⟩:=vv r;exact call_int_int ⟨.int i,H,I,⟨_,rfl⟩,q⟩
 ·obtain⟨u,rfl,l⟩:=vv r;cases l;exact call_int_bool ⟨.int (if k then 1 else 0),H,I.tok _,⟨_,rfl⟩,q⟩
end
structure BL(h:bw)(x dx C:ak)(mA:Str->Option ab):Prop where
 obj:h.get? x=some (pU C dx)
 ns:h.Ns1 dx mA
 ne:dx≠x
theorem SM{h:bw}{B:ak}{l:Str->Option ab}(n:h.Ns1 B l):∃g,h.get? B=some g/\∀name,qN name g=some (l name):=by
 obtain⟨o,u,ep,E,hd,H,_,G⟩:=n;refine⟨o,E,λname=>?_⟩;have e:=G name;unfold nsFind findBy at e;rw[<- Array.find?_toList]at e;unfold qN;rw[hd];dsimp only;split
 ·rename_i y q;rw[q]at e;exact cU some e
 ·rename_i q;rw[q]at e;have a:u.toList.any (·.refKey)=false:=by rw[w8];intro y C;obtain⟨z,t,c⟩:=H y (Array.mem_toList_iff.mp C);simp[nD.refKey,c]
  have I:¬ u.toList.any (·.refKey)=true:=by rw[a];exact bh
  rw[aG I];exact cU some e
theorem BL.look{h:bw}{x l C:ak}{g:Str->Option ab}(I:BL h x l C g):∃c,PySem.W.InstAt h x (pU C l) C (some c)/\∀name,qN name c=some (g name):=
 let ⟨c,ho,hl⟩:=SM I.ns
 ⟨c,⟨I.obj,rfl,rfl,ho⟩,hl⟩
theorem o6.some_of{v:V}{o:Option ab}(r:o6 (some v) o):∃u,o=some u/\RelV v u:=by
 cases o with
 |none=>exact (show False from r).elim
 |some u=>exact⟨u,rfl,r⟩
section
variable{P:Program}{w:bD}{H H':Hp}{h h':bw}{a C dx:ak}{fs fi:List (Str×V)}
theorem Ub(hok:mw P w H h)(e:H a=some (.ins C dx fs)):∃c,BL h a dx C c/\(∀f,o6 (fs.lookup f) (c f))/\B6 c (fs.map (·.1))/\fs.length<=1000/\H dx=some (.own a):=by
 obtain⟨d,z,ne,g,c,n,r,q⟩:=(show eX P w H h a (.ins C dx fs) from hok a _ e)
 exact⟨c,⟨g,n,ne⟩,r,q,z,d⟩
end
structure J2(K:ag)(C:ak):Prop where
 pg:vI K C Str.empty=true
 hd:PySem.W.hasDictIn K C=true
 po:PySem.W.plainOver K C=true
 sa:w_ K (.ref C) "__setattr__"=some (some (.builtin "object.__setattr__"))
theorem J2.get{K:ag}{C:ak}(c:J2 K C)(f:Str):vI K C f=true:=c.pg
section
variable{X:Cx}{o e value:Expr}{f:Str}{pos a6 ec:Pos}{ta tv:TE}
noncomputable def D6:V->V->Hp->VK->Prop:=λx y H Q=>∃i j,x=.int i/\y=.int j/\Q (.int (i-j)) H
end
section
variable{X:Cx}{a3:List (ak×Obj)}{σ:St}{H:Hp}{s:am}{A:bz}{E:ab->am->Prop}{Q:ab->am->Prop}{c:ab}{b:Bool}
inductive pR(K:ag)(H:Hp):V->ab->Prop where
 |non:pR K H .non (.type "NoneType")
 |bl (x:Bool):pR K H (.bl x) (.type "bool")
 |int (i:Int):pR K H (.int i) (.type "int")
 |str (x:Str):pR K H (.str x) (.type "str")
 |flt (x:UInt64):pR K H (.flt x) (.type "float")
 |lst {a:ak}{xs:List V} (e:H a=some (.lst xs)):pR K H (.ref a) (.type "list")
 |frz {a:ak}{o:Obj}{xs:List V} (e:H a=some (.frz o (.lst xs))):pR K H (.ref a) (.type "list")
 |tup {a:ak}{xs:List V} (e:H a=some (.tup xs)):pR K H (.ref a) (.type "tuple")
 |dK {a:ak}{a4:List (Key×V)} (e:H a=some (.dK a4)):pR K H (.ref a) (.type "dict")
 |dT {a:ak}{a4:List (List Key×V)} (e:H a=some (.dT a4)):pR K H (.ref a) (.type "dict")
 |ins {a C dx : ak} {fs : List (Str×V)} (e : H a = some (.ins C dx fs)) (cl : J2 K C) (ha : w_ K (.ref C) "__class__" = some (some (.builtin "object.__class__")))
   (hn:PySem.W.specialIn K (.builtin "object.__class__") "__get__"=some (some (.builtin "getset_descriptor.__get__"))) (htk:PySem.W.takesIn K (.builtin "object.__class__")=some true)
   (hm:PySem.W.mroIn K C (.type "object")=some true):pR K H (.ref a) (.ref C)
theorem Gq{x:V}{u t:ab}(I:Inv X a3 σ H s)(g:RelV x u)(ty:pR X.K H x t)(e:fN X.K t c=some b)(h:∀tk,Q (.bool b) { s with toks:=tk }):
  aF (aW X.prog X.w) A (call (.builtin "isinstance") [u,c]) Q E s:=by
 cases ty with
 |non=>cases (show u=cJ from g);exact cR PySem.W.kitx_none I.kIn d7 e nofun h
 |bl y=>cases (show u=dX y from g);exact cR PySem.W.kitx_bool I.kIn d7 e nofun h
 |int i=>obtain⟨t,q⟩:=(show ∃t,u=d6 i t from g);cases q;exact cR PySem.W.kitx_int I.kIn d7 e nofun h
 |str y=>obtain⟨t,q⟩:=(show ∃t,u=nL y t from g);cases q;exact cR PySem.W.kitx_str I.kIn d7 e nofun h
 |flt y=>obtain⟨t,q⟩:=(show ∃t,u=CV y t from g);cases q;exact cR PySem.W.kitx_float I.kIn d7 e nofun h
 |@lst a xs ea=>
  cases (show u=a_ a from g);obtain⟨_,_,n,_,l⟩:=(show eX X.prog X.w H s.heap a (.lst xs) from I.hok a _ ea)
  exact cR oM I.kIn ⟨_,l,rfl⟩ e nofun h
 |@frz a ob xs ea=>
  cases (show u=a_ a from g);obtain⟨_,_,_,n,_,l⟩:=(show eX X.prog X.w H s.heap a (.frz ob (.lst xs)) from I.hok a _ ea)
  exact cR oM I.kIn ⟨_,l,rfl⟩ e nofun h
 |@tup a xs ea=>
  cases (show u=a_ a from g);obtain⟨_,_,_,p⟩:=(show eX X.prog X.w H s.heap a (.tup xs) from I.hok a _ ea)
  obtain⟨o,l,B,_⟩:=p;exact cR uq I.kIn ⟨o,l,B⟩ e nofun h
 |@dK a a4 ea=>
  cases (show u=a_ a from g);obtain⟨_,_,vs,_,p⟩:=(show eX X.prog X.w H s.heap a (.dK a4) from I.hok a _ ea)
  obtain⟨o,G,ep,l,B,_⟩:=p;exact cR uV I.kIn ⟨o,l,B.1⟩ e nofun h
 |@dT a a4 ea=>
  cases (show u=a_ a from g);obtain⟨_,_,xs,_,o,G,ep,l,B,_⟩:=(show eX X.prog X.w H s.heap a (.dT a4) from I.hok a _ ea)
  exact cR uV I.kIn ⟨o,l,B.1⟩ e nofun h
 |@ins a C dx fs ea cl ha hn htk hm=>
  cases (show u=a_ a from g);obtain⟨U,O,_⟩:=Ub I.hok ea;obtain⟨L,J,_⟩:=O.look;exact cR (PySem.W.kitx_own (cl.get _) cl.hd ha hn htk hm) I.kIn J e nofun h
end
structure im(k:Nat)(A:bz):Prop where
 hd:A.handled=none
 dp:A.depth+3*k+5 < recursionLimit
 un:A.units+16*k+200 < cL
theorem im.mono{j k:Nat}{A:bz}(r:im k A)(h:j<=k):im j A:=⟨r.hd,by have:=r.dp;ext,by have:=r.un;ext⟩
theorem im.deeper{k:Nat}{A:bz}(r:im (k+1) A)(env:Env):im k (A.deeper env):=
 ⟨r.hd,by have:=r.dp;show A.depth+1+3*k+5 < _;ext,by have:=r.un;show A.units+3+16*k+200 < _;ext⟩
theorem im.depth{k:Nat}{A:bz}(r:im k A):A.depth < recursionLimit:=by have:=r.dp;ext
theorem im.units{k:Nat}{A:bz}(r:im k A):A.units+64 < cL:=by have:=r.un;ext
noncomputable def Im:TA:=λ_ H Q=>Q [] H
noncomputable def DS(g:TE)(c:TA):TA:=λσ H Q=>g σ H λx l=>c σ l λxs h=>Q (x::xs) h
section
variable{X:Cx}{e:Expr}{es:List Expr}{te:TE}{t:TA}{pos:Pos}
theorem tX:PA X [] Im:=λ_ _ _ _ H Q I h=>gF ⟨[],H,I,.nil,h⟩
theorem rj(L:PE X e te)(J:PA X es t)(G:starEach (e::es) X.env=(false,eval e X.env)::starEach es X.env:=by rfl):PA X (e::es) (DS te t):=by
 intro pos c s σ H Q I h;rw[G]
 show aF _ _ (rn ((false,eval e X.env)::backTo pos (starEach es X.env))) _ _ s;refine gh (gj (L c s σ H _ I h) λu o l=>?_);obtain⟨x,H1,U,B,E⟩:=l;exact gj (J pos c o σ H1 _ U E) λus s2 g=>by obtain⟨xs,Y,O,q,C⟩:=g;exact⟨x::xs,Y,O,.cons B q,C⟩
def HJ(t:TA):TE:=λσ H Q=>t σ H λxs c=>xs.length<=sizeLine/\∀p,c p=none->Q (.ref p) (fw c p (.tup xs))
def Ip(t:TA):TE:=λσ H Q=>t σ H λxs c=>xs.length<=sizeLine/\∀p,c p=none->Q (.ref p) (fw c p (.lst xs))
theorem Yb{B}(h:PA X es t):PE X (.Tuple es B pos) (HJ t):=by intro c s σ H Q I E;refine wpAny_Tuple_spliced (gj (h pos c s σ H _ I E) λC g ⟨xs,o,l,r,z,q⟩=>⟨by rw[<- r.length];exact z,?_⟩);have G:o g.heap.objs.size=none:=l.hok.fresh (ax _);refine⟨.ref g.heap.objs.size,fw o g.heap.objs.size (.tup xs),l.laid (t':=g.toks) (λb u e=>ah _ e) (ax _) ?_,rfl,q _ G⟩;exact⟨z,C,r,⟨_,aB _ rfl,rfl,⟨_,rfl⟩,rfl⟩⟩
theorem VR(h:PA X es t):PE X (.List es pos) (Ip t):=by intro c s σ H Q I C;refine wpAny_List_spliced (gj (h pos c s σ H _ I C) λB g ⟨xs,o,l,r,z,q⟩=>⟨by rw[<- r.length];exact z,?_⟩);have E:o g.heap.objs.size=none:=l.hok.fresh (ax _);refine⟨.ref g.heap.objs.size,fw o g.heap.objs.size (.lst xs),l.laid (t':=g.toks) (λb u e=>ah _ e) (ax _) ?_,rfl,q _ E⟩;exact⟨z,B,0,r,aB _ rfl⟩
end
abbrev Sp:=List V->Hp->VK->XK->Prop
abbrev wJ:=List Env->Hp->am->XK->ab->am->Prop
structure qh(P:Program)(w:bD)(K:ag)(mg:Str->Option ab)(base:bw)(A:bz)(outer:List Env)(s:am)(H:Hp):Prop where
 frames:A.frames=some outer
 mod:Mod K mg base
 bs:∀b o,base.get? b=some o->s.heap.get? b=some o/\H b=none
 bsz:base.objs.size<=s.heap.objs.size
 funs:s.heap.FunFrames base outer
 frf:∀b∈gA outer,H b=none
 hok:mw P w H s.heap
 bare:kX s.gens
def CE(outer:List Env)(P:Program)(w:bD)(H:Hp)(s:am)(Q:VK)(u:ab)(c:am):Prop:=
 ∃v g,c.os=s.os/\kX c.gens/\Un (gA outer) [] H g s.heap c.heap/\mw P w g c.heap/\RelV v u/\Q v g
def CR(g:wJ)(outer:List Env)(P:Program)(w:bD)(H:Hp)(s:am)(Q:VK)(E:XK)(r:B9)(c:am):Prop:=
 match r with
 | .ok (.ret u)=>CE outer P w H s Q u c
 | .ok _=>False
 | .error e=>g outer H s E e c
structure mC(P:Program)(w:bD)(K:ag)(mg:Str->Option ab)(base:bw)(CX:wJ)(k:Nat)(f:ak)(fd:cV)(ps:List Str)(sp:Sp):Prop where
 len:∀vs H Q E,sp vs H Q E->vs.length=ps.length
 run:∀(A:bz)(outer:List Env)(s:am)(H:Hp)(args:Args)(us:List ab)(vs:List V)(Q:VK)(E:XK),im k A->qh P w K mg base A outer s H->rC s fd args (ps.zip us)->bQ vs us->sp vs H Q E ->
  gK (aW P w) A (.call (.ref f) args) (CR CX outer P w H s Q E) s
section
variable{X:Cx}{a3:List (ak×Obj)}{σ:St}{H:Hp}{s s':am}
theorem Inv.env0(I:Inv X a3 σ H s):qh X.prog X.w X.K X.mg X.base X.A X.stack s H:=
 ⟨I.ok.frames,I.ok.mod,I.bs,cF I.ok.bsz I.sz,I.stack,I.stkFree,I.hok,I.bare⟩
theorem Inv.after{Q:VK}{u:ab}(I:Inv X a3 σ H s)(h:CE X.stack X.prog X.w H s Q u s'):EP X a3 σ Q u s':=by obtain⟨v,o,os,c,un,hok,r,q⟩:=h;obtain⟨hh,g,d,t,l⟩:=s';obtain rfl:l=s.os:=os;exact⟨v,o,I.call (h':=hh) (g':=g) (d':=d) (t':=t) (ch:=[]) un hok c (λb z=>ba z (by simp)),r,q⟩
end
noncomputable def Do(g:Sp)(c:List V)(E:XK)(t:TA):TE:=λσ H Q=>t σ H λvs h=>g (vs++c) h Q E
noncomputable def Binds(K:ag)(g:cV)(ps:List Str)(ds:List ab):Prop:=
 ∀(s:am)(c:List ab),K.In s.heap->(c++ds).length=ps.length->rC s g ⟨c,[]⟩ (ps.zip (c++ds))
theorem Binds.all{K:ag}{l:cV}{ps:List Str}(h:∀c:List ab,c.length=ps.length->io l ⟨c,[]⟩=pure (ps.zip c)):Binds K l ps []:=λs c _ g=>by rw[dm]at g ⊢;exact .of_eq (h c g)
def sA(c:wJ)(X:Cx)(E:XK):Prop:=∀(a3:List (ak×Obj))(σ:St)(H:Hp)(s:am)(e:ab)(s':am),Inv X a3 σ H s->c X.stack H s E e s'->X.xe e s'
section
variable{X:Cx}{CX:wJ}{k:Nat}{f C:ak}{fd:cV}{ps:List Str}{sp:Sp}{dc:List V}{ds:List ab}{E:XK}{x m:Str}{p pos a7:Pos}{e o:Expr}{es:List Expr}{ta:TE}{t:TA}
theorem RS{c:List (ak×Obj)}{σ:St}{H:Hp}{s:am}{Q:VK}{g:List ab}{vs:List V}(F:mC X.prog X.w X.K X.mg X.base CX k f fd ps sp)(J:im k X.A)(O:Binds X.K fd ps ds)(hd:bQ dc ds)(G:sA CX X E)
  (I:Inv X c σ H s) (r:bQ vs g) (h:sp (vs++dc) H Q E):aF (aW X.prog X.w) X.A (call (.ref f) g) (EP X c σ Q) X.xe s:=by
 have q:bQ (vs++dc) (g++ds):=r.append hd;have L:(g++ds).length=ps.length:=by rw[<- q.length];exact F.len _ _ _ _ h
 refine me (kq (F.run X.A X.stack s H ⟨g,[]⟩ (g++ds) (vs++dc) Q E J I.env0 (O s g I.kIn L) q h) λr B l=>?_);cases r with
 |error e=>exact G c σ H s e B I l
 |ok fl=>
  cases fl with
  |ret u=>exact I.after l
  |next=>exact cK l
  |brk=>exact cK l
  |cont=>exact cK l
theorem Rl(F:mC X.prog X.w X.K X.mg X.base CX k f fd ps sp)(G:im k X.A)(O:Gl X x)(J:X.mg x=some (.ref f))(L:da X.K (.ref f)=true)(Y:Binds X.K fd ps ds)(hd:bQ dc ds)(B:sA CX X E)
  (o:PA X (e::es) t) (l:(x == ("__debug__":Str))=false:=by decide) (U:starEach (e::es) X.env=(false,eval e X.env)::starEach es X.env:=by rfl) (g:(backTo pos (starEach es X.env)).any (·.1)=false:=by rfl):
  PE X (.Call (.Name x p) (e::es) [] pos) (Do sp dc E t):=by
 intro c s σ H Q I h;refine dC (Oi I O J ?_ l);refine ur (h₀:=X.base) I.ok.mod.kin L (gj (o pos c s σ H _ I h) λC s1 ⟨vs,H1,u,r,q⟩=>⟨u.kIn,?_⟩) U g;exact RS F G Y hd B u r q
end
def PK(X:Cx)(kws:List g_)(t:TA):Prop:=
 ∀(pos:Pos)(a3:List (ak×Obj))(s:am)(σ:St)(H:Hp)(Q:List V->Hp->Prop),Inv X a3 σ H s->t σ H Q->aF (aW X.prog X.w) X.A (evalAll ((nA pos (i6 kws X.env)).map (·.2))) (AP X a3 σ Q) X.xe s
section
variable{X:Cx}{CX:wJ}{k:Nat}{f C:ak}{fd:cV}{ps ks:List Str}{sp:Sp}{E:XK}{x m:Str}{p pos a7 fg:Pos}{e o:Expr}{es:List Expr}{kws:List g_}{te ta:TE}{t tk:TA}{nm:Option Str}
variable{g:List ab->List ab->List ab}{gV:List V->List V->List V}
end
structure l_(N P:List Str)(sc:cZ):Prop where
 kind:sc.kind=.function
 co:sc.isCoroutine=false
 gen:sc.isGenerator=false
 nd:N.Nodup
 pre:N.take P.length=P
 par:∀x∈P,sc.names.lookup x=some .local\/sc.names.lookup x=some .cell
 nofree:∀y∈sc.names,y.2≠.free
theorem Mt{kindOf:Str->Option c5}{x:Str}:∀{binds:List (Str×ab)}{m:Str->Option ab},(∀v,(x,v)∉binds)->pf kindOf binds m x=m x
 |[],_,_=>rfl
 | (n,v)::r,m,h=>by
  unfold pf;rw[Mt λw c=>h w (br _ c)];split
  ·have:x≠n:=by rintro rfl;exact h v bO
   simp[this]
  ·rfl
theorem Of{kindOf:Str->Option c5}{x:Str}:∀{binds:List (Str×ab)}{m:Str->Option ab},(∀v,(x,v)∉binds)->ph kindOf binds m x=m x
 |[],_,_=>rfl
 | (n,v)::r,m,h=>by
  unfold ph;rw[Of λw c=>h w (br _ c)];split
  ·rfl
  ·have:x≠n:=by rintro rfl;exact h v bO
   simp[this]
theorem K2{kindOf:Str->Option c5}{x:Str}{v:ab}: ∀{P:List Str}{vs:List ab}{i:Nat}{m:Str->Option ab},P.Nodup->P[i]?=some x->vs[i]?=some v->kindOf x=some .local ->
  pf kindOf (P.zip vs) m x=some v
 |[],_,_,_,_,h,_,_=>by simp at h
 |_::_,[],_,_,_,_,h,_=>by simp at h
 |p::P,w::vs,0,m,nd,h1,h2,hk=>by
  simp at h1 h2;subst h1;subst h2
  show pf kindOf ((p,w)::P.zip vs) m p=_;unfold pf;rw[Mt λv hv=>(kG.mp nd).1 (mZ hv).1,aJ hk];simp
 |p::P,w::vs,i+1,m,nd,h1,h2,hk=>by show pf kindOf ((p,w)::P.zip vs) m x=_;unfold pf;exact K2 (i:=i) (kG.mp nd).2 (by simpa using h1) (by simpa using h2) hk
theorem Il{kindOf:Str->Option c5}{x:Str}{v:ab}: ∀{P:List Str}{vs:List ab}{i:Nat}{m:Str->Option ab},P.Nodup->P[i]?=some x->vs[i]?=some v->kindOf x≠some .local ->
  ph kindOf (P.zip vs) m x=some v
 |[],_,_,_,_,h,_,_=>by simp at h
 |_::_,[],_,_,_,_,h,_=>by simp at h
 |p::P,w::vs,0,m,nd,h1,h2,hk=>by
  simp at h1 h2;subst h1;subst h2
  show ph kindOf ((p,w)::P.zip vs) m p=_;unfold ph;rw[Of λv hv=>(kG.mp nd).1 (mZ hv).1,aG hk];simp
 |p::P,w::vs,i+1,m,nd,h1,h2,hk=>by show ph kindOf ((p,w)::P.zip vs) m x=_;unfold ph;exact Il (i:=i) (kG.mp nd).2 (by simpa using h1) (by simpa using h2) hk
noncomputable def start(N:List Str)(vs:List V):St:=vs.map some++az (N.length-vs.length) none
noncomputable def sH(h:wJ)(P:Program)(w:bD)(K:ag)(mg:Str->Option ab)(base:bw)(N:List Str)(qual:Str)(scope:cZ)(f:ak)(g:ab)(A:bz)(outer:List Env)(s:am)(H:Hp)(E:XK):Cx where
 prog:=P
 w:=w
 K:=K
 mg:=mg
 base:=base
 A:=A.deeper (n8 qual scope s.heap.objs.size f g)
 N:=N
 s₀:=s
 H₀:=H
 env:=n8 qual scope s.heap.objs.size f g
 outer:=outer
 stack:=n8 qual scope s.heap.objs.size f g::outer
 ex:=[]
 calm:=true
 fn:=λ_=>true
 pn:=[]
 xe:=λe l=>aF (aW P w) (A.deeper (n8 qual scope s.heap.objs.size f g)) (leaving (n8 qual scope s.heap.objs.size f g) e) (λ_ c=>h outer H s E e c) (λo c=>h outer H s E o c) l
theorem Fx{sc:cZ}{n:Nat}{x:Str}(h:sc.names.lookup x=some .cell):∃c,(bF n sc.names []).lookup x=some c:=by have q:=iM sc.names n [] (.inl h);exact dH.mp q
theorem P9{Y:wJ}{P:Program}{w:bD}{K:ag}{mg:Str->Option ab}{base:bw}{N ps:List Str}{qual:Str}{scope:cZ}{f:ak}{L:ab}{A:bz}{outer:List Env}{s Q:am}{H:Hp}{E:XK}{O:List ab}{vs:List V}
  (S:l_ N ps scope) (hd:A.handled=none) (l:qh P w K mg base A outer s H) (hl:vs.length=ps.length) (r:bQ vs O)
  (x:n9 s s.heap.objs.size (pf (n8 qual scope s.heap.objs.size f L).kindOf (ps.zip O) λ_=>none) (bF (s.heap.objs.size+1) scope.names []) (ph (n8 qual scope s.heap.objs.size f L).kindOf (ps.zip O) λ_=>none) Q):
  Inv (sH Y P w K mg base N qual scope f L A outer s H E) [] (start N vs) H Q:=by
 have hpl:ps.length<=N.length:=by have:=cU cP S.pre;rw[cn]at this;ext
 obtain⟨J,tk,rfl,U⟩:=x.done;have o:∀b:ak,b∉(sH Y P w K mg base N qual scope f L A outer s H E).ex:=λb z=>ba (show b∈([]:List ak) from z) (by simp);refine⟨⟨l.mod,S.kind,rfl,rfl,ax _,λy z c J g=>?_,λy B=>?_,λy c _ h=>?_,λ_=>hd,t6 l.frames,.inr ⟨rfl,rfl⟩,λb z=>ba z (o b),l.bs,l.bsz,λb _ _=>o b,λb z=>ba z (o b),l.funs,l.frf⟩,
  rfl,l.bare,Un.kept U,⟨_,x.toInCall.ns,λi y v J g h3=>?_⟩,λy c h=>⟨_,x.cell y c h⟩,l.hok.fresh (ax _),λy c h=>?_,λp G=>ba (show p∈([]:List (ak×Obj)) from G) (by simp),l.hok.kept U,?_⟩
 ·exact xf x.apart (aV J) (aV g)
 ·have B:scope.names.lookup y=some .cell\/scope.names.lookup y=some .free:=B;rcases B with B|B
  ·exact Fx B
  ·exact ba rfl (S.nofree _ (aV B))
 ·exact gp (x.above y c (aV h))
 ·have I : i < vs.length := by
    unfold start at g;by_cases I:i < vs.length
    ·exact I
    ·rw[bb (by simpa using I)]at g;rw[fV]at g;split at g<;>cases g
  have l:vs[i]?=some v:=by
   unfold start at g;rw[ar (by simpa using I),ao]at g;cases e:vs[i]? with
   |none=>rw[e]at g;cases g
   |some a=>rw[e]at g;cases g;rfl
  obtain⟨u,hu,h⟩:=r.get l;have G:ps[i]?=some y:=by rw[<- S.pre,lQ (by ext)];exact J
  have C:ps.Nodup:=by rw[<- S.pre];exact S.nd.sublist (xg _ _)
  refine⟨u,h,?_⟩;rcases S.par y (av G) with k|k
  ·exact .inl ⟨k,K2 C G hu k⟩
  ·obtain⟨c,e⟩:=Fx (n:=s.heap.objs.size+1) k;refine .inr ⟨.inl k,c,e,?_⟩;have q:=x.cell y c e;rw[Il C G hu (by show scope.names.lookup y≠_;rw[k];decide)]at q;exact q
 ·exact l.hok.fresh (gp (x.above y c (aV h)))
 ·unfold start
  show _=N.length;rw[aN,af,cI];ext
theorem MA{CX:wJ}{P:Program}{w:bD}{K:ag}{mg:Str->Option ab}{base:bw}{k:Nat}{f:ak}{name qual:Str}{g:kP}{h:List Stmt}{scope:cZ}{dV kV doc pm c ct oc:ab}{an od:Option ak}
  {osl:Array (Option ab)}{N ps:List Str}{sp:Sp} (lk:K.lookup f=some ⟨oc,od,.func (b7 name qual g h scope dV kV doc pm an c ct),osl⟩) (hcd:fO K c qual=true) (S:l_ N ps scope)
  (len:∀vs H Q E,sp vs H Q E->vs.length=ps.length)
  (C:∀(A:bz)(outer:List Env)(s:am)(H:Hp)(vs:List V)(Q:VK)(E:XK),im k (A.deeper (n8 qual scope s.heap.objs.size f c))->sp vs H Q E ->
   ∃t,PSs (sH CX P w K mg base N qual scope f c A outer s H E) h t/\t { nx:=λ_ l=>Q .non l,rt:=Q } (start N vs) H):
  mC P w K mg base CX (k+1) f (b7 name qual g h scope dV kV doc pm an c ct) ps sp:=by
 refine⟨len,λA outer s H args us vs Q E hr Y hb r O=>?_⟩;have hl:=len _ _ _ _ O;have KX:K.In s.heap:=Y.mod.kin.keeps λb o e=>(Y.bs b o e).1;have dN:s.heap.NoLimit:=Y.mod.nolimit.keeps λb o e=>(Y.bs b o e).1;have B:∀y∈ps.zip us,scope.names.lookup y.1=some .local\/(scope.names.lookup y.1=some .cell/\((bF (s.heap.objs.size+1) scope.names []).lookup y.1).isSome=true):=λL hy=>by
  obtain⟨n,v⟩:=L;rcases S.par n (mZ hy).1 with q|q
  ·exact .inl q
  ·exact .inr ⟨q,iM _ _ _ (.inl q)⟩
 refine codeAny_call_function hr.depth (KX _ _ lk) rfl S.co S.gen rfl (PySem.W.codeRec_of KX hcd) (hb _ _ _ _ ?_);refine wpAny_newFunctionEnv_cells S.kind B λenv he s1 x=>?_;subst he;refine⟨dN.keeps x.toInCall.keep,codeAny_func ?_⟩;obtain⟨t,ht,hq⟩:=C A outer s H vs Q E (hr.deeper _) O;have I:Inv (sH CX P w K mg base N qual scope f c A outer s H E) [] (start N vs) H s1:=P9 S hr.hd Y hl r x;refine gJ (ht [] s1 (start N vs) H _ I hq) (λfl s' G=>?_) λe s' G=>G;have U:∀{σ':St}{l:Hp}{v:V}{u:ab},Inv (sH CX P w K mg base N qual scope f c A outer s H E) [] σ' l s'->RelV v u->Q v l->CE outer P w H s Q u s':=
  λ{σ' l v u}J rv q=>⟨v,l,J.os,J.bare,J.base,J.hok,rv,q⟩
 cases fl with
 |ret u=>
  obtain⟨v,σ',l,J,rv,q⟩:=G;exact U J rv q
 |next=>
  obtain⟨σ',l,J,q⟩:=G;exact U (v:=V.non) (u:=cJ) J rfl q
 |brk=>
  obtain⟨_,_,_,q⟩:=G;exact cK q
 |cont=>
  obtain⟨_,_,_,q⟩:=G;exact cK q
section
variable{X:Cx}{x:Str}{p pos:Pos}{e:Expr}{es:List Expr}{t:TA}{id T:String}{r:List V->Hp->VK->Prop}
noncomputable def M8(r:List V->Hp->VK->Prop)(t:TA):TE:=λσ H Q=>t σ H λvs c=>r vs c Q
theorem EF(O : CallR X (.builtin id) r)(J : Gl X x)(G : X.mg x = none)(hv : bT x = some (.builtin id))(U : PA X (e :: es) t)(E : x ≠ "__name__" := by decide)(o : (x == ("__debug__" : Str)) = false := by decide)
  (L:starEach (e::es) X.env=(false,eval e X.env)::starEach es X.env:=by rfl) (l:(backTo pos (starEach es X.env)).any (·.1)=false:=by rfl):PE X (.Call (.Name x p) (e::es) [] pos) (M8 r t):=by
 intro c s σ H Q I h;refine dC (wW I J G hv ?_ E o);exact PyProof.Rows.callWith_builtin1 (gj (U pos c s σ H _ I h) λq u g=>by obtain⟨vs,H1,Y,B,C⟩:=g;exact O c u σ H1 vs q Q Y B C) L l
theorem Jd(O : CallR X (.type T) r)(J : Gl X x)(G : X.mg x = none)(hv : bT x = some (.type T))(U : PA X (e :: es) t)(E : x ≠ "__name__" := by decide)(o : (x == ("__debug__" : Str)) = false := by decide)
  (L:starEach (e::es) X.env=(false,eval e X.env)::starEach es X.env:=by rfl) (l:(backTo pos (starEach es X.env)).any (·.1)=false:=by rfl):PE X (.Call (.Name x p) (e::es) [] pos) (M8 r t):=by
 intro c s σ H Q I h;refine dC (wW I J G hv ?_ E o);exact cB (gj (U pos c s σ H _ I h) λq u g=>by obtain⟨vs,H1,Y,B,C⟩:=g;exact O c u σ H1 vs q Q Y B C) L l
end
end L2
namespace HT
open PySem PyProof.Rows
section
open PySem.SeqAt
open PySem.AutoSeq1 (wpAny_loadPart')
open PySem.MeetsSeq PySem.MeetsSeq2 PySem.MeetsSeq3
end
section
variable{prog:Program}{w:bD}{A:bz}{E:ab->am->Prop}{s:am}
theorem y_{t b:ak}{vs c:List ab}{Q:ab->am->Prop}(L:IsTup s.heap t vs.toArray)(O:IsTup s.heap b c.toArray)(hv:vs≠[])
  (Y:c=[]->Q (.ref t) s) (U:c≠[]->Q (.ref s.heap.objs.size) { s with heap:=s.heap.push { cls:=.type "tuple",data:=.seq (vs++c).toArray } })
  (hsz:vs.length+c.length<=sizeLine):aF (aW prog w) A (eG .Add (.ref t) (.ref b)) Q E s:=by
 obtain⟨⟨cls,I,data,C⟩,B,H,n,hd⟩:=id L;obtain⟨⟨J,q,data2,h⟩,g,o,G,l⟩:=id O;simp only at H hd o l;subst H hd o l;have e:vs.toArray++c.toArray=(vs++c).toArray:=by simp
 by_cases u:c=[]
 ·exact xh ⟨_, B, rfl⟩ ⟨_, g, rfl⟩ sL vJ mh lN (lF _ _)
    (tuple_addW1 t b vs.toArray c.toArray n G I q C h (by simpa using hv) (by simp[u])) ⟨B,g,Y u⟩
 ·refine xh ⟨_, B, rfl⟩ ⟨_, g, rfl⟩ sL vJ mh lN (lF _ _)
    (tuple_addW2 t b vs.toArray c.toArray n G I q C h (by simpa using hv) (by simpa using u) (by rw[ay,ay];exact hsz)) ⟨B,g,?_⟩
  rw[e];exact U u
noncomputable def gB(n d:Nat):Option Int->Nat
 |none=>d
 |some v=>if v < 0 then (v+(n:Int)).toNat else min v.toNat n
theorem R4(n d:Nat)(hd:d<=n)(o:Option Int):gB n d o<=n:=by
 cases o with
 |none=>exact hd
 |some v=>
  show (if v < 0 then (v+(n:Int)).toNat else min v.toNat n)<=n;by_cases hv:v < 0
  ·rw[aJ hv];ext
  ·rw[aG hv];exact Nat.min_le_right _ _
theorem Nn(v:Int)(n d:Nat):(if v < 0 then max (v+(n:Int)) 0 else min v (n:Int))=((gB n d (some v):Nat):Int):=by
 show (if v < 0 then max (v+(n:Int)) 0 else min v (n:Int))=(((if v < 0 then (v+(n:Int)).toNat else min v.toNat n):Nat):Int)
 by_cases hv:v < 0
 ·simp only[aJ hv];ext
 ·simp only[aG hv];ext
theorem V5(lo c:Option Int)(n:Nat):kr lo c 1 (n:Int)=(((gB n 0 lo:Nat):Int),((gB n n c:Nat):Int)):=by
 have g:¬ ((1:Int) < 0):=by ext
 unfold kr;simp only[g,if_false];refine Prod.ext ?_ ?_
 ·cases lo with
  |none=>rfl
  |some v=>exact Nn v n 0
 ·cases c with
  |none=>rfl
  |some v=>exact Nn v n n
theorem Vd(i j:Nat):gC (i:Int) (j:Int) 1=j-i:=by
 unfold gC;have c:(1:Int) > 0:=by ext
 simp only[c,if_true,Int.ediv_one];split<;>ext
theorem Nj{v:ab}{o:Option Int}{Q:Option Int->am->Prop}(p:sM v o)(h:Q o s):aF (aW prog w) A (Builtin.Slice.slicePartIndex v) Q E s:=by
 cases p with
 |none=>exact slicePart_none h
 |int i t=>exact slicePart_int h
theorem QN{u:ak}{q o:ab}{lo g:Option Int}{n:Nat}{Q:Int×Int×Nat->am->Prop}(G:s.heap.IsSliceOf u q o .none)(C:sM q lo)(B:sM o g)
  (h:Q (((gB n 0 lo:Nat):Int),1,gB n n g-gB n 0 lo) s):aF (aW prog w) A (oO (.ref u) (pure (n:Int))) Q E s:=by
 obtain⟨os,c,H,l⟩:=id G;unfold oO Builtin.Slice.sliceFields;refine aa (aa (dJ c l (x:=q) rfl (aa (dJ c l (x:=o) rfl (aa (dJ c l (x:=.none) rfl (ai ?_)))))));refine aa (slicePart_none ?_)
 show aF _ _ (if ((1:Int) == 0)=true then _ else _) _ _ s;rw[aG (by decide)];refine aa (Nj C (aa (Nj B (aa (ai ?_)))))
 show aF _ _ (match kr lo g 1 (n:Int) with|(lo,g)=>pure (lo,(1:Int),gC lo g 1)) _ _ s;rw[V5 lo g n]
 show aF _ _ (pure (((gB n 0 lo:Nat):Int),(1:Int),gC ((gB n 0 lo:Nat):Int) ((gB n n g:Nat):Int) 1)) _ _ s;rw[Vd];exact ai h
theorem XY(xs:Array ab)(i k:Nat):((bU k).filterMap λ(m:Nat)=>xs[((i:Int)+(m:Int)*1).toNat]?).toArray=((xs.toList.drop i).take k).toArray:=by
 have e:(λ(m:Nat)=>xs[((i:Int)+(m:Int)*1).toNat]?)=λm=>xs[i+m]?:=by
  funext m;have:((i:Int)+(m:Int)*1).toNat=i+m:=by ext
  rw[this]
 rw[e];have:=pick_run xs i k;rw[List.filterMap_map]at this;have c:((λx=>xs[x]?) ∘ λx=>i+x)=λm=>xs[i+m]?:=rfl;rw[c]at this;rw[this]
theorem oF{t o:ak}{items:Array ab}{I H:ab}{lo g:Option Int}{Q:ab->am->Prop}(l:IsTup s.heap t items)(J:s.heap.IsSliceOf o I H .none)(O:sM I lo)(L:sM H g)
  (U:¬ (gB items.size 0 lo=0/\gB items.size items.size g=items.size))
  (h:Q (.ref s.heap.objs.size) { s with heap:=s.heap.push { cls:=.type "tuple",data:=.seq ((items.toList.drop (gB items.size 0 lo)).take (gB items.size items.size g-gB items.size 0 lo)).toArray } })
  (hsz:items.size<=sizeLine):aF (aW prog w) A (rD (.ref t) (.ref o)) Q E s:=by
 have c:sizeOk (.seq ((items.toList.drop (gB items.size 0 lo)).take (gB items.size items.size g-gB items.size 0 lo)).toArray):=by show ((items.toList.drop (gB items.size 0 lo)).take (gB items.size items.size g-gB items.size 0 lo)).toArray.size<=sizeLine;rw[ay,cn,fW,bK];ext
 have hj:gB items.size items.size g<=items.size:=R4 _ _ (ax _) g;obtain⟨os,u,C,Y⟩:=id J;have G:s.TypeIs (.ref o) "slice":=⟨os,u,C⟩
 unfold rD
 try with_reducible refine bZ ?_
 first|refine aa (ai ?_)|skip
 refine aa (CZ l.typeIs (by decide) ?_);refine aa (bN (name:=aq "__getitem__") l.typeIs nB
  (bX nB l.typeIs entry_tuple_getitem ?_ (args_tuple_getitem _ _)))
 show aF _ _ (oP (.ref t) >>= _) _ _ s;refine aa (tupleItemsOf_ l ?_);refine aa (eJ G ?_);rw[aJ (by decide)];refine aa (QN J O L ?_);have B:¬ ((((gB items.size 0 lo:Nat):Int) == 0&&(1:Int) == 1&&(gB items.size items.size g-gB items.size 0 lo) == items.size)=true):=by intro q;rw[bj,bj]at q;have q1:((gB items.size 0 lo:Nat):Int)=0:=eq_of_beq q.1.1;have q2:gB items.size items.size g-gB items.size 0 lo=items.size:=eq_of_beq q.2;exact U ⟨by ext,by ext⟩
 show aF _ _ (if (((gB items.size 0 lo:Nat):Int) == 0&&(1:Int) == 1&&(gB items.size items.size g-gB items.size 0 lo) == items.size)=true then _ else _) _ _ s;rw[aG B,XY]
 first
  |exact aa (m:=eh _) (bM (ai ⟨_,rfl,ai h⟩) c)
  |exact aa (m:=eh _) (bM (aa (ai (ai ⟨_,rfl,ai h⟩))) c)
  |exact aa (aa (m:=eh _) (bM (ai (ai ⟨_,rfl,ai h⟩)) c))
  |exact aa (aa (m:=eh _) (bM (ai ⟨_,rfl,ai h⟩) c))
end
end HT
namespace L2
open PySem PySem.Spec PyProof.Rows
abbrev TO:=St->Hp->(Option Int->Hp->Prop)->Prop
def PO(X:Cx)(e:Option Expr)(t:TO):Prop:=
 ∀(a3:List (ak×Obj))(s:am)(σ:St)(H:Hp)(Q:Option Int->Hp->Prop),Inv X a3 σ H s->t σ H Q ->
  aF (aW X.prog X.w) X.A (evalPart e X.env) (λu g=>∃o c,Inv X a3 σ c g/\sM u o/\Q o c) X.xe s
noncomputable def xQ:TO:=λ_ H Q=>Q none H
noncomputable def Dw(t:TE):TO:=λσ H Q=>t σ H λx c=>∃i,x=.int i/\Q (some i) c
theorem Nb{ns:List Int}:∀{c:List ab},bQ (ns.map V.int) c->n_ c ns:=by
 induction ns with
 |nil=>intro c r;rw[mI]at r;cases r;exact .nil
 |cons n ns ih=>
  intro c r;rw[aL]at r;cases r with
  |cons r1 r2=>
   obtain⟨t,e⟩:=r1;subst e;exact .cons n t (ih r2)
section
variable{X:Cx}{e:Expr}{te:TE}{lo hi:Option Expr}{tl th:TO}{pos p2:Pos}
theorem Pw:PO X none xQ:=by intro c s σ H Q I h;rw[evalPart_none];exact ai ⟨none,H,I,.none,h⟩
theorem Rq(h:PE X e te):PO X (some e) (Dw te):=by intro g s σ H Q I B;rw[evalPart_some];refine gj (h g s σ H _ I B) λu G c=>?_;obtain⟨x,E,C,l,o⟩:=c;obtain⟨i,rfl,q⟩:=o;obtain⟨t,rfl⟩:=l;exact⟨some i,E,C,.int i t,q⟩
def Jf(X:Cx)(r:V->Option Int->Option Int->Hp->VK->Prop):Prop:=
 ∀(a3:List (ak×Obj))(s:am)(σ:St)(H:Hp)(x:V)(v vl vu:ab)(lo hi:Option Int)(sl:ak)(Q:VK),Inv X a3 σ H s->RelV x v->s.heap.IsSliceOf sl vl vu .none->sM vl lo->sM vu hi->r x lo hi H Q ->
  ∃T id,qO (.type T) "__getitem__"=pure (some (.builtin id))/\s.TypeIs v T/\aF (aW X.prog X.w) X.A (rD v (.ref sl)) (EP X a3 σ Q) X.xe s
noncomputable def Tv(r:V->Option Int->Option Int->Hp->VK->Prop)(te:TE)(tl th:TO):TE:=λσ H Q=>te σ H λx h=>tl σ h λl g=>th σ g λu c=>r x l u c Q
theorem O5{r:V->Option Int->Option Int->Hp->VK->Prop}(hr:Jf X r)(he:PE X e te)(hl:PO X lo tl)(hu:PO X hi th):PE X (.Subscript e (.Slice lo hi none p2) pos) (Tv r te tl th):=by
 intro c s σ H Q I h;refine Subscript_ (gj (he c s σ H _ I h) λv L B=>?_);obtain⟨x,H1,I1,O,q1⟩:=B;refine wpAny_Slice (gj (hl c L σ H1 _ I1 q1) λE J ⟨l,H2,I2,pl,Y⟩=>gj (hu c J σ H2 _ I2 Y) λC g o=>?_);obtain⟨u,G,I3,pu,U⟩:=o;rw[evalPart_none];refine ai ?_;have I4:Inv X c σ G { g with heap:=g.heap.push { cls:=.type "slice",data:=.fields #[E,C,.none] } }:=I3.kept (t':=g.toks) λb ob q=>ah _ q;obtain⟨T,id,hT,ht,hg⟩:=hr c { g with heap:=g.heap.push { cls:=.type "slice",data:=.fields #[E,C,.none] } } σ G x v E C l u g.heap.objs.size Q I4 O (bw.IsSliceOf.new ..) pl pu U
 show aF (aW X.prog X.w) X.A (subscriptTail e (.Slice lo hi none p2) v (.ref g.heap.objs.size)) (EP X c σ Q) X.xe { g with heap:=g.heap.push { cls:=.type "slice",data:=.fields #[E,C,.none] } };exact tail_any (ops:=[.ref g.heap.objs.size,v]) ht hT hg (by with_unfolding_all rfl)
def tD(xs:List V)(lo hi:Option Int):List V:=(xs.drop (HT.gB xs.length 0 lo)).take (HT.gB xs.length xs.length hi-HT.gB xs.length 0 lo)
theorem ON(xs:List V)(lo hi:Option Int):(tD xs lo hi).length<=xs.length:=by unfold tD;rw[cn,fW];ext
def Jo(K:ag):V->Option Int->Option Int->Hp->VK->Prop:=λx lo hi H Q=>∃a xs,x=.ref a/\lx K H a xs /\
 ¬ (HT.gB xs.length 0 lo=0/\HT.gB xs.length xs.length hi=xs.length)/\∀p,H p=none->Q (.ref p) (fw H p (.tup (tD xs lo hi)))
theorem Qv:Jf X (Jo X.K):=by
 intro g s σ H x v O L lo hi U Q I u J C B h;obtain⟨a,xs,rfl,E,G,q⟩:=h;cases u;obtain⟨its,r,l,hz⟩:=I.tuple E;have c:its.toArray.size=xs.length:=by rw[ay];exact r.length.symm
 refine⟨"tuple",_,nB.lookup,l.typeIs,?_⟩;refine HT.oF l J C B (by rw[c];exact G) ?_ (by rw[c];exact hz);rw[c];refine⟨.ref s.heap.objs.size,_,I.laid (t':=s.toks) (o:=.tup (tD xs lo hi)) (λb Y q=>ah _ q) (ax _) ?_,rfl,q _ (I.hok.fresh (ax _))⟩;exact⟨cF (ON xs lo hi) hz,_,(r.drop (HT.gB xs.length 0 lo)).take (HT.gB xs.length xs.length hi-HT.gB xs.length 0 lo),iK.new _ _⟩
def D2(K:ag):R2:=λx y H Q=>∃a b xs ys,x=.ref a/\y=.ref b/\lx K H a xs/\lx K H b ys/\xs≠[]/\xs.length+ys.length<=sizeLine /\
 (ys=[]->Q (.ref a) H)/\(ys≠[]->∀p,H p=none->Q (.ref p) (fw H p (.tup (xs++ys))))
theorem bQ.nil_iff{xs:List V}{c:List ab}(r:bQ xs c):c=[]↔xs=[]:=by
 cases r with
 |nil=>simp
 |cons _ _=>simp
theorem R3:OpR X (eG .Add) (D2 X.K):=by intro l s σ H x y v u Q I E C h;obtain⟨a,b,xs,ys,rfl,rfl,Y,U,O,hz,J,G⟩:=h;cases E;cases C;obtain⟨its,g,L,_⟩:=I.tuple Y;obtain⟨B,c,p2,_⟩:=I.tuple U;refine HT.y_ L p2 (λz=>O (g.nil_iff.mp z)) (λz=>⟨.ref a,H,I,rfl,J (c.nil_iff.mp z)⟩) (λz=>?_) (by rw[<- g.length,<- c.length];exact hz);refine⟨.ref s.heap.objs.size,_,I.laid (t':=s.toks) (o:=.tup (xs++ys)) (λb ob q=>ah _ q) (ax _) ?_,rfl,G (λw=>z (c.nil_iff.mpr w)) _ (I.hok.fresh (ax _))⟩;exact⟨by rw[aN];exact hz,_,g.append c,iK.new _ _⟩
end
noncomputable def pY(n:Nat)(i:Int):Option Nat:=if 0<=i then (if i < n then some i.toNat else none) else if -(n:Int)<=i then some (i+n).toNat else none
def z9{α:Type}(xs:List α)(i:Int):Option α:=(pY xs.length i).bind λj=>xs[j]?
theorem Mc{n:Nat}{i:Int}{j:Nat}(h:pY n i=some j):seqIndex? i n=some j/\j < n /\ -(n:Int)<=i/\i < n:=by
 unfold pY at h;by_cases g:0<=i
 ·rw[aJ g]at h;by_cases c:i < n
  ·rw[aJ c]at h;have e:i.toNat=j:=aM h;exact⟨by rw[zL g c,e],by ext,by ext,c⟩
  ·rw[aG c]at h;cases h
 ·rw[aG g]at h;by_cases c : -(n:Int)<=i
  ·rw[aJ c]at h;have e:(i+n).toNat=j:=aM h;exact⟨by rw[xi (by ext) c,e],by ext,c,by ext⟩
  ·rw[aG c]at h;cases h
theorem Jx{α:Type}{xs:List α}{i:Int}{v:α}(h:z9 xs i=some v):∃j,seqIndex? i xs.length=some j/\xs[j]?=some v/\j < xs.length /\ -(xs.length:Int)<=i/\i < xs.length:=by
 unfold z9 at h;cases e:pY xs.length i with
 |none=>rw[e]at h;cases h
 |some j=>
  rw[e]at h;obtain⟨o,l,g,c⟩:=Mc e;exact⟨j,o,h,l,g,c⟩
noncomputable def p9(b:Expr):Prop:=∀o i,subscripted b false o i=operate [o,i] (rD o i)
def IxR(X:Cx)(r:R2):Prop:=
 ∀(g c:Expr)(a3:List (ak×Obj))(s:am)(σ:St)(H:Hp)(x y:V)(v u:ab)(Q:VK),Inv X a3 σ H s->RelV x v->RelV y u->r x y H Q ->
  subscripted c false v u=operate [v,u] (rD v u)->aF (aW X.prog X.w) X.A (subscriptTail g c v u) (EP X a3 σ Q) X.xe s
def Ep(X:Cx)(id:String)(r:V->List V->Hp->VK->Prop):Prop:=
 ∀(a3:List (ak×Obj))(s:am)(σ:St)(H:Hp)(x:V)(xs:List V)(v:ab)(us:List ab)(Q:VK),Inv X a3 σ H s->RelV x v->bQ xs us->r x xs H Q ->
  aF (aW X.prog X.w) X.A (call (.builtin id) (v::us)) (EP X a3 σ Q) X.xe s
section
variable{X:Cx}{a b:Expr}{ta tb:TE}{pos:Pos}
theorem IxR.or{r C:R2}(h:IxR X r)(h':IxR X C):IxR X (λx y H Q=>r x y H Q\/C x y H Q):=by
 intro c g l s σ H x y v u Q I B o q E;rcases q with q|q
 ·exact h c g l s σ H x y v u Q I B o q E
 ·exact h' c g l s σ H x y v u Q I B o q E
theorem Nc{r:R2}(C:IxR X r)(G:PE X a ta)(E:PE X b tb)(B:p9 b):PE X (.Subscript a b pos) (D3 r ta tb):=by intro c s σ H Q I h;exact Subscript_ (BK G E I h λv u g x y L J o l q=>C a b c g σ L x y v u Q J o l q (B _ _))
def D1(K:ag):R2:=λx y H Q=>∃p xs i v,x=.ref p/\y=.int i/\g8 K H p xs/\z9 xs i=some v/\Q v H
def Dp(K:ag):R2:=λx y H Q=>∃p xs i v,x=.ref p/\y=.int i/\lx K H p xs/\z9 xs i=some v/\Q v H
def EQ:R2:=λx y H Q=>∃z i c,x=.str z/\y=.int i/\z.length<=sizeLine/\z9 z.cps.toList i=some c/\Q (.str ⟨#[c]⟩) H
theorem Pf:IxR X (D1 X.K):=by
 intro o B c s σ H x y v u Q I rx Y h J;obtain⟨p,xs,i,z,rfl,rfl,hq,he,q⟩:=h;cases rx;obtain⟨t,rfl⟩:=Y;obtain⟨its,r,E,hz⟩:=I.list hq;obtain⟨j,l,h2,h3,h4,h5⟩:=Jx he;obtain⟨w,O,C⟩:=r.get h2;have hl:=r.length;have hn:=A7;have g:EP X c σ Q w s:=⟨z,H,I,C,q⟩
 by_cases L:0<=i
 ·have G : i.toNat = j := by rw[zL L h5]at l;exact aM l
  exact item_listR E.isList L (by ext) (by rw[G];simpa using O) g J
 ·have G : (i+(its.toArray.size : Int)).toNat = j := by rw[xi (by ext) h4]at l;rw[ay,<- hl];exact aM l
  exact xj (x:=w) E.isList.typeIs C0.lookup
   (wpAny_getItem_list_neg (Q:=λr U=>r=w/\EP X c σ Q r U) E.isList (by ext) (by rw[ay]<;>ext) (by ext) (by rw[G];simpa using O) ⟨rfl,g⟩) J
theorem PM:IxR X (Dp X.K):=by
 intro g l c s σ H x y v u Q I J G h L;obtain⟨p,xs,i,z,rfl,rfl,O,Y,q⟩:=h;cases J;obtain⟨t,rfl⟩:=G;obtain⟨its,r,C,hz⟩:=I.tuple O;obtain⟨j,h1,h2,h3,h4,h5⟩:=Jx Y;obtain⟨w,ew,o⟩:=r.get h2;have U:=r.length;have hn:=A7;have B:EP X c σ Q w s:=⟨z,H,I,o,q⟩
 exact xj (x:=w) C.typeIs slot_tuple_getitem.lookup
  (getItem_tuple (j:=j) (Q:=λr E=>r=w/\EP X c σ Q r E) C (by ext) (by ext) (by rw[ay,<- U];exact h1) (by simpa using ew) ⟨rfl,B⟩) L
theorem VZ:IxR X EQ:=by
 intro g l o s σ H x y v u Q I E C h G;obtain⟨z,i,c,rfl,rfl,hz,L,q⟩:=h;obtain⟨t,rfl⟩:=E;obtain⟨t',rfl⟩:=C;obtain⟨j,B,Y,h3,U,O⟩:=Jx L;have J:z.cps.toList.length=z.length:=by simp[Str.length]
 rw[J]at B U O;have hn:=A7;exact tail_any (typeIs_str s z t) slot_str_getitem.lookup (getItem_str (c:=c) (by have e1:decide (i < -(2^63:Int))=false:=aP (by ext);have e2:decide (i ≥ 2^63)=false:=aP (by ext);rw[e1,e2,B_]) (by rw[B];simpa using Y) ⟨.str ⟨#[c]⟩,H,I.tok _,⟨_,rfl⟩,q⟩) G
def Ot(K:ag):R2:=λx y H Q=>D1 K x y H Q\/Dp K x y H Q\/EQ x y H Q
theorem R9:IxR X (Ot X.K):=Pf.or (PM.or VZ)
theorem Rt(its:List ab)(n j:Nat)(u:ab):fP (·.setIfInBounds j u) { cls:=.type "list",data:=.seq its.toArray n }={ cls:=.type "list",data:=.seq (its.set j u).toArray n }:=by simp[fP]
theorem Inv.lst{c:List (ak×Obj)}{σ:St}{H:Hp}{s:am}{p:ak}{xs:List V}(I:Inv X c σ H s)(h:H p=some (.lst xs)):
  ∃(its:List ab)(n:Nat),bQ xs its/\s.heap.get? p=some { cls:=.type "list",data:=.seq its.toArray n }/\xs.length<=sizeLine:=by
 obtain⟨z,its,n,r,e⟩:=I.hok p _ h;exact⟨its,n,r,e,z⟩
theorem Inv.lstUpd{c:List (ak×Obj)}{σ:St}{H:Hp}{s:am}{p:ak}{xs ys:List V}{its its':List ab}{n g:Nat}{f:Obj->Obj}(I:Inv X c σ H s)(h:H p=some (.lst xs))
  (o:s.heap.get? p=some { cls:=.type "list",data:=.seq its.toArray n }) (l:f { cls:=.type "list",data:=.seq its.toArray n }={ cls:=.type "list",data:=.seq its'.toArray g }) (r:bQ ys its') (hz:ys.length<=sizeLine) (t:Nat):
  Inv X c σ (fw H p (.lst ys)) { s with heap:=s.heap.update p f,toks:=t }:=by
 have e:(s.heap.update p f).get? p=some { cls:=.type "list",data:=.seq its'.toArray g }:=by rw[bG f o (by rw[l]<;>rfl),l]
 refine I.write (x:=p) (e:=p) (by rw[h];trivial) (.inl rfl) (λb u B q=>(cD _ _ (eM B)).trans q) ⟨_,e⟩ ?_;exact⟨hz,its',g,r,e⟩
def DX:V->V->V->Hp->(Hp->Prop)->Prop:=λo i v H Q=>∃p xs k j,o=.ref p/\i=.int k/\H p=some (.lst xs)/\pY xs.length k=some j/\Q (fw H p (.lst (xs.set j v)))
theorem UW:PSet X DX:=by
 intro c s σ H o i v ov iv u Q I Y ri U h;obtain⟨p,xs,k,j,rfl,rfl,E,hj,q⟩:=h;cases Y;obtain⟨t,rfl⟩:=ri;obtain⟨its,n,r,l,hz⟩:=I.lst E;obtain⟨g,h2,J,G⟩:=Mc hj;have B:=r.length;have hn:=A7;have O:Inv X c σ (fw H p (.lst (xs.set j v))) { s with heap:=s.heap.update p (fP (·.setIfInBounds j u)) }:=
  I.lstUpd E l (Rt its n j u) (r.set U j) (by rw[b_];exact hz) s.toks
 by_cases L:0<=k
 ·have C : k.toNat = j := by rw[zL L G]at g;exact aM g
  exact PySem.W.ki_setAt l L (by ext) (by rw[ay,<- B];exact G) (by rw[C];exact⟨_,O,q⟩)
 ·have C : (k+(its.toArray.size : Int)).toNat = j := by rw[xi (by ext) J]at g;rw[ay,<- B];exact aM g
  exact PySem.W.ki_setBack l (by ext) (by rw[ay,<- B];exact J) (by ext) (by rw[C];exact⟨_,O,q⟩)
theorem Tr(lo c:Option Int)(n:Nat):(ip lo c none n).1=((HT.gB n 0 lo:Nat):Int)/\(ip lo c none n).2.1=((HT.gB n n c:Nat):Int)/\(ip lo c none n).2.2=1:=by
 refine⟨?_,?_,rfl⟩
 ·cases lo with
  |none=>simp[ip,HT.gB]
  |some i=>
   simp only[ip,HT.gB,pF,show (1:Int) > 0 by decide,if_true];by_cases h:i < 0
   ·simp only[h,if_true]<;>ext
   ·simp only[h,if_false]<;>ext
 ·cases c with
  |none=>simp[ip,HT.gB]
  |some i=>
   simp only[ip,HT.gB,pF,show (1:Int) > 0 by decide,if_true];by_cases h:i < 0
   ·simp only[h,if_true]<;>ext
   ·simp only[h,if_false]<;>ext
theorem Sa(its:List ab)(lo c:Option Int):slicePick its.toArray lo c none=((its.drop (HT.gB its.length 0 lo)).take (HT.gB its.length its.length c-HT.gB its.length 0 lo)).toArray:=by obtain⟨l,h,g⟩:=Tr lo c its.toArray.size;unfold slicePick;rw[l,h,g];simp only[sliceRange_one,pick_run,ay]<;>rfl
def Fu(K:ag):V->Option Int->Option Int->Hp->VK->Prop:=λx lo c H Q=>∃a xs,x=.ref a/\g8 K H a xs/\∀p,H p=none->Q (.ref p) (fw H p (.lst (tD xs lo c)))
theorem SU:Jf X (Fu X.K):=by intro l s σ H x v O L lo g U Q I B J E C h;obtain⟨a,xs,rfl,G,q⟩:=h;cases B;obtain⟨its,r,u,hz⟩:=I.list G;have c:=r.length;refine⟨"list",_,C0.lookup,u.isList.typeIs,?_⟩;refine wpAny_getItem_list_slice u.isList J E C .none (by simp) ?_ (by rw[ay]<;>ext);rw[Sa,<- c];refine⟨.ref s.heap.objs.size,_,I.laid (t':=s.toks) (o:=.lst (tD xs lo g)) (λb Y q=>ah _ q) (ax _) ?_,rfl,q _ (I.hok.fresh (ax _))⟩;exact⟨cF (ON xs lo g) hz,_,0,(r.drop (HT.gB xs.length 0 lo)).take (HT.gB xs.length xs.length g-HT.gB xs.length 0 lo),aB _ rfl⟩
noncomputable def nJ:V->Bool
 | .non=>true
 | .bl _=>true
 | .int _=>true
 | .str _=>true
 |_=>false
noncomputable def zn:V->V->Bool
 | .non,.non=>true
 | .bl a,.bl b=>a == b
 | .bl a,.int b=>(if a then 1 else 0) == b
 | .int a,.bl b=>a == (if b then 1 else 0)
 | .int a,.int b=>a == b
 | .str a,.str b=>a == b
 |_,_=>false
theorem PR{A:bz}{s:am}{y x:V}{u v:ab}(g:RelV y u)(c:RelV x v)(l:nJ y=true)(h:nJ x=true):vK A s u v (zn y x):=by
 cases y with
 |non=>
  cases g;cases x with
  |non=>cases c;exact vK.same _
  |bl b=>cases c;exact vK.none_bool b
  |int b=>obtain⟨t,rfl⟩:=c;exact vK.none_int b t
  |str b=>obtain⟨t,rfl⟩:=c;exact vK.none_str b t
  |_=>exact ba (show false=true from h) bh
 |bl a=>
  cases g;cases x with
  |non=>cases c;exact vK.bool_none a
  |bl b=>cases c;exact vK.bool_bool a b
  |int b=>obtain⟨t,rfl⟩:=c;exact vK.bool_int a b t
  |str b=>obtain⟨t,rfl⟩:=c;exact vK.bool_str a b t
  |_=>exact ba (show false=true from h) bh
 |int a=>
  obtain⟨t',rfl⟩:=g;cases x with
  |non=>cases c;exact vK.int_none a t'
  |bl b=>cases c;exact vK.int_bool a t' b
  |int b=>obtain⟨t,rfl⟩:=c;exact vK.int_int a t' b t
  |str b=>obtain⟨t,rfl⟩:=c;exact sR a t' b t
  |_=>exact ba (show false=true from h) bh
 |str a=>
  obtain⟨t',rfl⟩:=g;cases x with
  |non=>cases c;exact vK.str_none a t'
  |bl b=>cases c;exact vK.str_bool a t' b
  |int b=>obtain⟨t,rfl⟩:=c;exact sS a t' b t
  |str b=>obtain⟨t,rfl⟩:=c;exact vK.str_str a t' b t
  |_=>exact ba (show false=true from h) bh
 |_=>exact ba (show false=true from l) bh
def ul(x:V)(u:ab):Bool:=match u with
 | .none=>zn .non x
 | .bool b=>zn (.bl b) x
 | .int i _=>zn (.int i) x
 | .str z _=>zn (.str z) x
 |_=>false
theorem L5{x y:V}{u:ab}(r:RelV y u)(f:nJ y=true):ul x u=zn y x:=by
 cases y with
 |non=>cases r;rfl
 |bl b=>cases r;rfl
 |int i=>obtain⟨t,rfl⟩:=r;rfl
 |str z=>obtain⟨t,rfl⟩:=r;rfl
 |_=>exact ba (show false=true from f) bh
theorem DG{x:V}:∀{xs:List V}{c:List ab},bQ xs c->xs.all nJ=true->c.any (ul x)=xs.any λy=>zn y x
 |_,_,.nil,_=>rfl
 |y::xs,u::c,.cons r t,f=>by rw[ck,bj]at f;rw[dY,dY,L5 r f.1,DG t f.2]
theorem Eu{A:bz}{s:am}{x:V}{v:ab}(g:RelV x v)(h:nJ x=true):∀{xs:List V}{c:List ab},bQ xs c->xs.all nJ=true->∀u∈c,vK A s u v (ul x u)
 |_,_,.nil,_=>λu hu=>by cases hu
 |y::xs,u::c,.cons r t,f=>λu' hu=>by
  rw[ck,bj]at f;rcases aI.mp hu with rfl|hu
  ·rw[L5 r f.1];exact PR r g f.1 h
  ·exact Eu g h t f.2 u' hu
def Gy(x:V)(xs:List V):Bool:=xs.any λy=>zn y x
def GQ(K:ag)(c:Bool):R2:=λx y H Q=>∃p xs,y=.ref p/\(g8 K H p xs\/lx K H p xs)/\nJ x=true/\xs.all nJ=true/\Q (.bl (if c then !Gy x xs else Gy x xs)) H
theorem QO:OpR X (cG .In) (GQ X.K false):=by
 intro B s σ H x y v u Q I o E h;obtain⟨p,xs,rfl,c,C,fs,q⟩:=h;cases E;rcases c with c|c
 ·obtain⟨its,r,g,hz⟩:=I.list c;refine SeqAt.in_listAt (ul x) g.isList (λw l=>Eu o C r fs w (by simpa using l)) ⟨.bl _,H,I,rfl,?_⟩;rw[show its.toArray.any (ul x)=its.any (ul x) by simp,DG r fs];exact q
 ·obtain⟨its,r,g,hz⟩:=I.tuple c;refine SeqAt.in_tupleAt (ul x) g (λw l=>Eu o C r fs w (by simpa using l)) ⟨.bl _,H,I,rfl,?_⟩;rw[show its.toArray.any (ul x)=its.any (ul x) by simp,DG r fs];exact q
theorem UT:OpR X (cG .NotIn) (GQ X.K true):=by
 intro B s σ H x y v u Q I o E h;obtain⟨p,xs,rfl,c,C,fs,q⟩:=h;cases E;rcases c with c|c
 ·obtain⟨its,r,g,hz⟩:=I.list c;refine SeqAt.notIn_listAt (ul x) g.isList (λw l=>Eu o C r fs w (by simpa using l)) ⟨.bl _,H,I,rfl,?_⟩;rw[show its.toArray.any (ul x)=its.any (ul x) by simp,DG r fs];exact q
 ·obtain⟨its,r,g,hz⟩:=I.tuple c;refine SeqAt.notIn_tupleAt (ul x) g (λw l=>Eu o C r fs w (by simpa using l)) ⟨.bl _,H,I,rfl,?_⟩;rw[show its.toArray.any (ul x)=its.any (ul x) by simp,DG r fs];exact q
theorem Xx:CallR X (.builtin "len") (λxs H Q=>∃p ys,xs=[.ref p]/\(g8 X.K H p ys\/lx X.K H p ys)/\Q (.int ys.length) H):=by
 intro B s σ H xs E Q I r h;obtain⟨p,ys,rfl,g,q⟩:=h;obtain⟨u,rfl,C⟩:=vv r;cases C;have G:=A7;rcases g with g|g
 ·obtain⟨its,l,o,hz⟩:=I.list g;have c:=l.length;exact Calls.call_len_list o.isList (by simp only[ay]<;>ext) ⟨.int ys.length,H,I.tok _,⟨s.toks+1,by rw[ay,c]⟩,q⟩
 ·obtain⟨its,l,o,hz⟩:=I.tuple g;have c:=l.length;exact len_tuple o (by simp only[ay]<;>ext) ⟨.int ys.length,H,I.tok _,⟨s.toks+1,by rw[ay,c]⟩,q⟩
theorem Wn:CallR X (.builtin "len") (λxs H Q=>∃z,xs=[.str z]/\z.length<=sizeLine/\Q (.int z.length) H):=by intro c s σ H xs g Q I r h;obtain⟨z,rfl,hz,q⟩:=h;obtain⟨u,rfl,t,rfl⟩:=vv r;have l:=A7;exact len_str (by ext) ⟨.int z.length,H,I.tok _,⟨_,rfl⟩,q⟩
theorem CallR.or{f:ab}{r l:List V->Hp->VK->Prop}(h:CallR X f r)(h':CallR X f l):CallR X f (λxs H Q=>r xs H Q\/l xs H Q):=by
 intro c s σ H xs g Q I rs q;rcases q with q|q
 ·exact h c s σ H xs g Q I rs q
 ·exact h' c s σ H xs g Q I rs q
theorem Qz:CallR X (.type "list") (λxs H Q=>∃p ys,xs=[.ref p]/\(g8 X.K H p ys\/lx X.K H p ys)/\∀l,H l=none->Q (.ref l) (fw H l (.lst ys))):=by
 intro B s σ H xs us Q I r h;obtain⟨p,ys,rfl,E,q⟩:=h;obtain⟨u,rfl,Y⟩:=vv r;cases Y;have J : ∀(its : List ab), bQ ys its -> ys.length <= sizeLine -> ∀(h' : bw)(g : Nat), (∀b o', s.heap.get? b = some o' -> h'.get? b = some o') ->
   h'.get? s.heap.objs.size=some { cls:=.type "list",dict:=none,data:=.seq its.toArray g,slots:=#[] }->EP X B σ Q (.ref s.heap.objs.size) { s with heap:=h' }:=λits c hz h' g C e=>
  ⟨.ref s.heap.objs.size,_,I.laid (t':=s.toks) C (ax _) (show eX X.prog X.w _ h' _ (.lst ys) from ⟨hz,its,g,c,e⟩),rfl,q _ (I.hok.fresh (ax _))⟩
 rcases E with E|E
 ·obtain⟨its,c,L,hz⟩:=I.list E;have G:=c.length;obtain⟨o,O,U,n,hd⟩:=L.isList;exact call_list_seq p (.inl rfl) O U hd (λh' g C e=>J its c hz h' g C e) (by simp only[ay]<;>ext)
 ·obtain⟨its,c,L,hz⟩:=I.tuple E;have G:=c.length;obtain⟨o,O,U,n,hd⟩:=L;exact call_list_seq p (.inr rfl) O U hd (λh' g C e=>J its c hz h' g C e) (by simp only[ay]<;>ext)
theorem O1:CallR X (.type "tuple") (λxs H Q=>∃p ys,xs=[.ref p]/\((g8 X.K H p ys/\∀l,H l=none->Q (.ref l) (fw H l (.tup ys)))\/(lx X.K H p ys/\Q (.ref p) H))):=by
 intro c s σ H xs U Q I r h;obtain⟨p,ys,rfl,h⟩:=h;obtain⟨u,rfl,J⟩:=vv r;cases J;rcases h with ⟨C,q⟩|⟨C,q⟩
 ·obtain⟨its,g,B,hz⟩:=I.list C;have E:=g.length;refine call_tuple_list B.isList (λh' L=>?_) (by simp only[ay]<;>ext);have G:Inv X c σ H { s with heap:=h' }:=I.kept (t':=s.toks) L;have O:Inv X c σ (fw H h'.objs.size (.tup ys)) { s with heap:=h'.push { cls:=.type "tuple",data:=.seq its.toArray } }:=
   G.laid (t':=s.toks) (λb o e=>ah _ e) (ax _) (show eX X.prog X.w _ _ _ (.tup ys) from ⟨hz,its,g,iK.new _ _⟩)
  exact⟨.ref h'.objs.size,_,O,rfl,q _ (G.hok.fresh (ax _))⟩
 ·obtain⟨its,g,B,hz⟩:=I.tuple C;exact call_tuple_same B ⟨.ref p,H,I,rfl,q⟩
def Kn(K:ag)(T:String)(x:V)(H:Hp):Prop:=match x with
 | .str _=>T="str"
 | .int _=>T="int"
 | .ref p => (T = "list" /\ ∃xs, g8 K H p xs) \/ (T = "tuple" /\ ∃o, K.lookup p = some o /\ o.cls = .type "tuple" /\ o.dict = none) \/
   (T="dict"/\((∃c,H p=some (.dK c))\/∃c,H p=some (.dT c)))\/(T="set"/\∃S n,H p=some (.set S n))
 |_=>False
theorem Pb{h:List (ak×Obj)}{σ:St}{H:Hp}{s:am}{T:String}{x:V}{v:ab}(I:Inv X h σ H s)(r:RelV x v)(ty:Kn X.K T x H):
  s.TypeIs v T/\∀a,v=.ref a->∃B,s.heap.get? a=some B/\B.dict=none:=by
 cases x with
 |str z=>
  obtain⟨t,rfl⟩:=r;cases (show T="str" from ty);exact⟨typeIs_str s z t,λ_ e=>nomatch e⟩
 |int i=>
  obtain⟨t,rfl⟩:=r;cases (show T="int" from ty);exact⟨qP s i t,λ_ e=>nomatch e⟩
 |ref p=>
  cases r;rcases ty with ⟨rfl,xs,C⟩|⟨rfl,o,g,E,hd⟩|⟨rfl,g⟩|⟨rfl,S,n,g⟩
  ·obtain⟨its,_,u,_⟩:=I.list C;refine⟨u.isList.typeIs,λa e=>?_⟩;cases e;obtain⟨o,n,e,c,hd,_⟩:=u;exact⟨o,e,hd⟩
  ·refine⟨⟨o,I.kIn p o g,E⟩,λa e=>?_⟩;cases e;exact⟨o,I.kIn _ o g,hd⟩
  ·have z : ∃o, s.heap.get? p = some o /\ o.ExactDict := by
     rcases g with ⟨l,g⟩|⟨l,g⟩
     ·obtain⟨_,_,_,_,o,_,_,e,ex,_⟩:=I.hok p _ g;exact⟨o,e,ex⟩
     ·obtain⟨_,_,_,_,o,_,_,e,ex,_⟩:=I.hok p _ g;exact⟨o,e,ex⟩
   obtain⟨o,e,ex⟩:=z;refine⟨⟨o,e,ex.1⟩,λa q=>?_⟩;cases q;exact⟨o,e,ex.2.1⟩
  ·obtain⟨o,_,_,_,e,ex,_⟩:=I.hok p _ g;refine⟨⟨o,e,ex.1⟩,λa q=>?_⟩;cases q;exact⟨o,e,ex.2.1⟩
 |_=>exact cK ty
def Lk(K:ag)(T:String)(r:V->List V->Hp->VK->Prop)(to:TE):TE:=λσ H Q=>to σ H λx c=>Kn K T x c/\r x [] c Q
def WD(K:ag)(T:String)(r:V->List V->Hp->VK->Prop)(to:TE)(t:TA):TE:=λσ H Q=>to σ H λx c=>Kn K T x c/\t σ c λxs g=>r x xs g Q
variable{o e:Expr}{es:List Expr}{to:TE}{t:TA}{name:Str}{a7 a5:Pos}{T id:String}{r:V->List V->Hp->VK->Prop}
theorem PL(J:PlainAttrs T)(slot:Slot T name id)(u:typeOf (.builtin id)=pure (.type "method_descriptor"))(O:Ep X id r)(L:PE X o to)
  (l:dM o name X.env (eval o X.env)=eval o X.env:=by rfl) (g:(a7.endLine == a5.line)=true:=by rfl):PE X (.Call (.Attribute o name a7) [] [] a5) (Lk X.K T r to):=by
 intro c s σ H Q I h;refine wpAny_Call_method0_late l g (gj (L c s σ H _ I h) λv E q=>?_);obtain⟨x,H1,C,B,ty,G⟩:=q;obtain⟨Y,U⟩:=Pb C B ty;exact⟨T,id,J,slot,u,Y,U,mE rfl (PySem.evalArgs_none (O c E σ H1 x [] v [] Q C B .nil G))⟩
theorem Kd(pa:PlainAttrs T)(slot:Slot T name id)(E:typeOf (.builtin id)=pure (.type "method_descriptor"))(hm:Ep X id r)(ho:PE X o to)(ha:PA X (e::es) t)
  (q:dM o name X.env (eval o X.env)=eval o X.env:=by rfl)
  (C:((backTo a5 (starEach (e::es) X.env)).all (λx => !x.1)&&(nA a5 (i6 [] X.env)).all (λx=>x.1.isSome)
   && decide ((e::es).length+([]:List g_).length+(if ([]:List g_).isEmpty then 0 else 1) < 30))=true:=by rfl)
  (l:(a7.endLine == a5.line)=true:=by rfl) (hs:starEach (e::es) X.env=(false,eval e X.env)::starEach es X.env:=by rfl) (g:(backTo a5 (starEach es X.env)).any (·.1)=false:=by rfl):
  PE X (.Call (.Attribute o name a7) (e::es) [] a5) (WD X.K T r to t):=by
 intro c s σ H Q I h;refine xl q C l rfl (gj (ho c s σ H _ I h) λv Y B=>?_);obtain⟨x,H1,L,G,ty,q1⟩:=B;obtain⟨h1,h2⟩:=Pb L G ty;refine⟨T,id,pa,slot,E,h1,h2,?_⟩;have J:=ha a5 c Y σ H1 _ L q1;rw[hs]at J ⊢;refine mE (by show (false||(backTo a5 (starEach es X.env)).any (·.1))=false;rw[g]<;>rfl) (nC ?_);exact gj J λO U u=>by obtain⟨vs,H2,I2,r2,q2⟩:=u;exact hm c U σ H2 x vs v O Q I2 G r2 q2
end
def J9(X:Cx)(id:String)(r:V->List V->Hp->VK->Prop):Prop:=
 ∀(a3:List (ak×Obj))(s:am)(σ:St)(H:Hp)(x:V)(xs:List V)(v:ab)(us:List ab)(Q:VK),Inv X a3 σ H s->RelV x v->bQ xs us->r x xs H Q ->
  aF (aW X.prog X.w) X.A (call (.builtin id) (v::us)) (EP X a3 σ Q) X.xe s
theorem bQ.one{x:V}{c:List ab}(h:bQ [x] c):∃u,c=[u]/\RelV x u:=by
 cases h with
 |cons r h=>cases h;exact⟨_,rfl,r⟩
theorem bQ.two{x y:V}{c:List ab}(h:bQ [x,y] c):∃u v,c=[u,v]/\RelV x u/\RelV y v:=by
 cases h with
 |cons r h=>cases h with
  |cons q h=>cases h;exact⟨_,_,rfl,r,q⟩
theorem bQ.zero:∀{c:List ab},bQ [] c->c=[]
 |_,.nil=>rfl
theorem bQ.dropLast{xs:List V}{c:List ab}(h:bQ xs c):bQ xs.dropLast c.dropLast:=by
 induction h with
 |nil=>exact .nil
 |cons r t ih=>
  cases t with
  |nil=>exact .nil
  |cons q t'=>exact .cons r ih
theorem bQ.reverse{xs:List V}{c:List ab}(h:bQ xs c):bQ xs.reverse c.reverse:=by
 induction h with
 |nil=>exact .nil
 |cons r t ih=>rw[gL,gL];exact bQ.append ih (.cons r .nil)
theorem bQ.rep{xs:List V}{c:List ab}(h:bQ xs c):∀k:Nat,bQ (az k xs).flatten (az k c).flatten
 |0=>.nil
 |k+1=>by rw[eB,eB,fH,fH];exact bQ.append h (bQ.rep h k)
theorem V0{α:Type}(l:List α):l.eraseIdx (l.length-1)=l.dropLast:=by
 induction l with
 |nil=>rfl
 |cons a r ih=>
  cases r with
  |nil=>rfl
  |cons b r=>
   have e:(a::b::r).length-1=((b::r).length-1)+1:=by have g:(a::b::r).length=r.length+2:=rfl;have c:(b::r).length=r.length+1:=rfl;ext
   rw[e,List.eraseIdx_cons_succ,ih]
   all_goals rfl
theorem KN(its:List ab): ∀(k:Nat)(c:List ab),
  mJ (λh g=>h++g) c.toArray (az k its.toArray)=(c++(az k its).flatten).toArray
 |0,c=>by simp
 |k+1,c=>by
  have e:c.toArray++its.toArray=(c++its).toArray:=by simp
  have l:(c++its)++(az k its).flatten=c++(az (k+1) its).flatten:=by rw[eB,fH,dG]
  rw[<- l,<- KN its k (c++its),<- e,eB,qX]
section
variable{X:Cx}{a3:List (ak×Obj)}{σ:St}{H:Hp}{s:am}{l b:ak}{xs ys zs:List V}
theorem Inv.lset{its its':List ab}{n:Nat}{f:Array ab->Array ab}{t':Nat}(I:Inv X a3 σ H s)(h:H l=some (.lst xs))
  (e:s.heap.get? l=some { cls:=.type "list",data:=.seq its.toArray n }) (c:f its.toArray=its'.toArray) (hv:bQ ys its') (hz:ys.length<=sizeLine):
  Inv X a3 σ (fw H l (.lst ys)) { s with heap:=s.heap.update l (fP f),toks:=t' }:=by
 have q:=PySem.IsL.update e f;rw[c]at q;refine I.write (x:=l) (e:=l) (by rw[h];exact trivial) (.inl rfl) (λo u g hu=>(cD s.heap (fP f) (eM g)).trans hu) ⟨_,q⟩ ?_;exact⟨hz,its',_,hv,q⟩
theorem Inv.lnew{its:List ab}{t':Nat}(I:Inv X a3 σ H s)(hv:bQ ys its)(hz:ys.length<=sizeLine):
  Inv X a3 σ (fw H s.heap.objs.size (.lst ys)) { s with heap:=s.heap.push { cls:=.type "list",data:=.seq its.toArray },toks:=t' }:=
 I.laid (λ_ _ q=>ah _ q) (ax _) ⟨hz,its,0,hv,aB _ rfl⟩
theorem Inv.fresh(I:Inv X a3 σ H s):H s.heap.objs.size=none:=I.hok.fresh (ax _)
theorem Inv.lstM(I:Inv X a3 σ H s)(c:H l=some (.lst xs)):xs.length<=sizeLine/\∃(its:List ab)(n:Nat),bQ xs its/\xs.length=its.length/\s.heap.get? l=some { cls:=.type "list",data:=.seq its.toArray n }:=by obtain⟨z,its,n,r,e⟩:=I.hok l _ c;exact⟨z,its,n,r,r.length,e⟩
theorem Ny{n:Nat}(h:n<=sizeLine):gP n=false:=by unfold gP;exact aP (by ext)
end
section
variable{X:Cx}
def zm:V->List V->Hp->VK->Prop:=λx vs H Q=>∃l xs y,x=.ref l/\vs=[y]/\H l=some (.lst xs)/\xs.length < sizeLine/\Q .non (fw H l (.lst (xs++[y])))
theorem NC:J9 X "list.append" zm:=by intro c s σ H x vs v E Q I o B h;obtain⟨l,xs,y,rfl,rfl,g,hz,q⟩:=h;cases o;obtain⟨u,rfl,C⟩:=B.one;obtain⟨z,its,n,r,G,e⟩:=I.lstM g;refine kQ F.slot_list_append ⟨_,e,rfl⟩ F.entry_list_append (F.args_list_append_2 _ _) (PySem.list_append l its.toArray n u (by rw[ay];ext)) ⟨e,?_⟩;refine⟨.non,_,I.lset (its':=its++[u]) g e (by simp) (r.append (.cons C .nil)) ?_,rfl,q⟩;rw[aN,nh];ext
def zu:V->List V->Hp->VK->Prop:=λx vs H Q=>∃l b xs c,x=.ref l/\vs=[.ref b]/\H l=some (.lst xs)/\H b=some (.lst c)/\xs.length+c.length<=sizeLine/\Q .non (fw H l (.lst (xs++c)))
theorem U8:J9 X "list.extend" zu:=by
 intro o s σ H x vs v us Q I C E h;obtain⟨l,b,xs,zs,rfl,rfl,B,U,hz,q⟩:=h;cases C;obtain⟨u,rfl,G⟩:=E.one;cases G;obtain⟨z,its,n,r,hl,e⟩:=I.lstM B;obtain⟨z2,c,L,J,O,Y⟩:=I.lstM U;have hsz:its.toArray.size+c.toArray.size<=sizeLine:=by rw[ay,ay];ext
 have g:¬ (!its.toArray.isEmpty&&gP (its.toArray.size+c.toArray.size))=true:=by rw[Ny hsz,Ap];exact bh
 refine kQ F.slot_list_extend ⟨_,e,rfl⟩ F.entry_list_extend (F.args_list_extend_2 _ _)
  (AutoSeq1.list_extend_list_list_0 l its.toArray n b c.toArray L g (by rw[ay];ext) (by ext)) ⟨e,Y,?_⟩
 refine⟨.non,_,I.lset (its':=its++c) B e (by simp) (r.append J) ?_,rfl,q⟩;rw[aN];ext
def Hw:V->List V->Hp->VK->Prop:=λx vs H Q=>∃l xs y,x=.ref l/\vs=[]/\H l=some (.lst xs)/\xs[xs.length-1]?=some y/\Q y (fw H l (.lst xs.dropLast))
theorem Uv:J9 X "list.pop" Hw:=by
 intro o s σ H x vs v O Q I C E h;obtain⟨l,xs,y,rfl,rfl,B,J,q⟩:=h;cases C;have g:=E.zero;subst g;obtain⟨z,its,n,r,L,e⟩:=I.lstM B;obtain⟨u,hu,G⟩:=r.get J;have c:its.toArray[its.toArray.size-1]?=some u:=by show its.toArray[its.length-1]?=some u;rw[<- eK,<- L];exact hu
 refine kQ F.slot_list_pop ⟨_,e,rfl⟩ F.entry_list_pop (F.args_list_pop_1 _) (MeetsSeq.list_pop_last l its.toArray n u c (by rw[ay];ext)) ⟨e,?_⟩;refine⟨y,_,I.lset (its':=its.dropLast) B e ?_ r.dropLast ?_,G,q⟩
 ·show its.toArray.eraseIdxIfInBounds (its.toArray.size-1)=its.dropLast.toArray;rw[ay,List.eraseIdxIfInBounds_toArray,V0]
 ·rw[uW];ext
def IG:R2:=λx y H Q=>∃l b xs c,x=.ref l/\y=.ref b/\H l=some (.lst xs)/\H b=some (.lst c)/\xs.length+c.length<=sizeLine/\∀p,H p=none->Q (.ref p) (fw H p (.lst (xs++c)))
theorem Pr:OpR X (eG .Add) IG:=by
 intro g s σ H x y v u Q I B o h;obtain⟨l,b,xs,U,rfl,rfl,G,J,hz,q⟩:=h;cases B;cases o;obtain⟨z,its,n,r,hl,e⟩:=I.lstM G;obtain⟨Y,c,n2,C,E,O⟩:=I.lstM J;refine PySem.P.add_list e O ?_ (by rw[ay,ay];ext);have L:its.toArray++c.toArray=(its++c).toArray:=by simp
 rw[L];exact⟨.ref _,_,I.lnew (t':=s.toks) (r.append C) (by rw[aN];ext),rfl,q _ I.fresh⟩
def KG:R2:=λx y H Q=>∃l k xs,x=.ref l/\y=.int k/\H l=some (.lst xs) /\ -(2^63)<=k/\k < 2^63/\xs.length*k.toNat<=sizeLine /\
 ∀p,H p=none->Q (.ref p) (fw H p (.lst (az k.toNat xs).flatten))
theorem OC{α:Type}(xs:List α)(k:Nat):(az k xs).flatten.length=k*xs.length:=by
 induction k with
 |zero=>simp
 |succ k ih=>rw[eB,fH,aN,ih,pV,Nat.add_comm]
theorem V6:OpR X (eG .Mult) KG:=by
 intro J s σ H x y v u Q I Y O h;obtain⟨l,k,xs,rfl,rfl,hH,h1,h2,hz,q⟩:=h;cases Y;obtain⟨t,rfl⟩:=O;obtain⟨z,its,n,r,hl,e⟩:=I.lstM hH;have o:its.toArray.size*k.toNat<=sizeLine:=by rw[ay,<- hl];exact hz
 have C:¬ its.toArray.size*k.toNat > (2^63-1) / 8:=by
  have:(sizeLine:Nat)<=(2^63-1) / 8:=by decide
  ext
 have B:¬ (!Builtin.List.listFitsIndex k)=true:=by rw[fitsIndex_both h1 h2];exact bh
 have c:¬ gP (its.toArray.size*k.toNat)=true:=by rw[Ny o];exact bh
 have g:mJ (λG E=>G++E) #[] (az (if its.toArray.isEmpty=true then 0 else k.toNat) its.toArray)=(az k.toNat its).flatten.toArray:=by
  have f0:∀m:Nat,mJ (λG E=>G++E) #[] (az m its.toArray)=(az m its).flatten.toArray:=λm=>by have:=KN its m [];rw[kH]at this;exact this
  rw[f0];cases its with
  |nil=>simp
  |cons a r'=>rw[aG (by simp)]
 refine uX (T:="list") (U:="int") (by decide) ⟨_,e,rfl⟩ (λL=>qP L k t) noFill_list_mul C1 nM repeat_list Ca.lookup
  (kQ nM (qP s k t) Cb (Aq _ _) (int___rmul___int_list k t l its.toArray n)
   ⟨e,rfl,⟨_,e,rfl⟩,kQ F.slot_list_mul ⟨_,e,rfl⟩ F.entry_list_mul (F.args_list_mul_2 _ _) (AutoListH.list___mul___list_int_3 l its.toArray n k t B C c) ⟨e,?_⟩⟩)
 rw[g];exact⟨.ref _,_,I.lnew (t':=s.toks) (r.rep k.toNat) (by rw[OC,gq];exact hz),rfl,q _ I.fresh⟩
end
section
variable{prog:Program}{w:bD}{A:bz}{E:ab->am->Prop}{s:am}
theorem Y1{a c n:Nat}(g:a<=c)(o:c<=n):ip (some (a:Int)) (some (c:Int)) none n=((a:Int),(c:Int),1):=by
 simp only[ip,pF];have l:¬ ((a:Int) < 0):=by ext
 have h:¬ ((c:Int) < 0):=by ext
 simp only[l,h,if_false,show (1:Int) > 0 by decide,if_true];congr 1
 ·ext
 ·congr 1;ext
end
end L2
namespace Att
open PySem PySem.W PySem.Calls PyProof.Rows
theorem VU{P:Params}{h:bw}:∀(ns:List Int)(vs:List ab),WellAll P h vs (ns.map Hi)->n_ vs ns:=by
 intro ns
 induction ns with
 |nil=>
  intro vs w;rw[mI]at w;cases w;exact .nil
 |cons n ns ih=>
  intro vs w;rw[aL]at w;cases w with
  |cons a b=>
   cases a;exact .cons _ _ (ih _ b)
theorem Pp{l:OpenLaw}{n:Nat}(I:l.most=some n){P:Params}{h:bw}{args:List WData}{c:List ab}
  (g:l.row.toRowW.claim.pre args=true) (C:WellAll P h c args):
  ∃a vs ns,c=[a_ a]/\args=[WData.list (ns.map Hi)]/\h.get? a=some { cls:=.type "list",data:=.seq vs.toArray }/\n_ vs ns/\ns.length<=n:=by
 have E:WShape.hasAll [] args [.list .int]=true:=(pre_splitW g).1;have G:l.pre.holds [] { args:=args }=true:=(pre_splitW g).2;obtain⟨d,r,rfl,O,L⟩:=hasAllW_cons E;obtain rfl:=hasAllW_nil L;obtain⟨xs,rfl,J⟩:=hasW_list O;obtain⟨ns,rfl⟩:=items_int J;have o:ns.length<=n:=by
  unfold OpenLaw.pre at G;have B:(WTm.not (.lt (.lit (.int (n:Int))) (.len (.arg 0)))).holds [] { args:=[.list (ns.map .int)] }=true:=by have B:=(holds_andW G).1;rw[I]at B;exact B
  have u:=condW_of B (w_not (w_lt w_lit (w_len_list (w_arg rfl))));rw[af]at u;refine qQ λq=>?_;have H:(n:Int) < ((ns.length:Nat):Int):=by ext
  first
   | (rw[cT H]at u;exact ba u (by decide))
   | (simp at u;ext)
 cases C with
 |cons w1 w2=>
  cases w2;cases w1 with
  |list ho hall=>exact⟨_,_,ns,rfl,rfl,ho,VU ns _ hall,o⟩
theorem VD(l:OpenLaw)(args:List WData):l.row.toRowW.claim.post args (.bool true) args=true:=
 postW_of (r:=l.row.toRowW) (X:=(true == true))
  (show C2 [] (.bool true) .bool=true by first|rfl|decide|simp[C2,WShape.arms,WShape.armsAll])
  (show (WTm.eq .res (.lit (.bool true))).value [] { args:=args,res:=some (.bool true),after:=args }=some (.bool (true == true)) from w_eq_bool (w_res rfl) w_lit) rfl
theorem tu{l:OpenLaw}{n:Nat}{q:Program}{c:List Str}{XP:(Str->Option ab)->bw->Prop}{YP:bD->bw->Prop}{d:DefRec}
  (hn:l.most=some n) (U:d.params.defaults=[])
  (call:∀(w:bD)(s₀ s₁:am)(mg L:Str->Option ab)(E:ak)(o:Obj)(J I h:ab)(a:ak)(vs:List ab)(ns:List Int),
   Ground q c [] XP w s₀ mg L s₁.heap->YP w s₁.heap ->
   s₁.heap.get? E=some o->o.data=.func (docDef d.name d.params d.body d.scope J I h)->s₁.heap.CodeRec I d.name->mg d.name=some (.ref E) ->
   s₁.heap.get? a=some { cls:=.type "list",data:=.seq vs.toArray }->n_ vs ns->ns.length<=n->s₁.gens=#[] ->
   gK (aW l.prog w) kY (.call (.ref E) ⟨[.ref a],[]⟩) (λr H=>r=.ok (.ret (.bool true))/\OldK s₁.heap H.heap/\H.os=s₁.os/\kX H.gens) s₁):
  WalkO q c XP YP l.row.toRowW d [] (λf vs=>vL f vs):=by
 intro w s₀ s₁ mg L G Y E o J I h dV kV ho hd hcd hD Q hg args vals as u hlay hrd O hlo;obtain rfl:dV=.none:=Dflts.none hD U;obtain rfl:kV=.none:=Dflts.noKw hD;obtain⟨a,vs,ns,rfl,rfl,B,g,C⟩:=Pp hn u O;refine enter_call (kq (call w s₀ s₁ mg L E o J I h a vs ns G Y ho (fd_plain hd) hcd Q B g C hg) λr H hq=>?_);obtain⟨rfl,h2,h3,h4⟩:=hq;exact⟨.inl ⟨.bool true,.bool true,[],rfl,λ_=>rfl,.bool true,VD l _,λ_=>⟨r6,λ_ hm=>(nomatch hm)⟩⟩,h2,h3,h4⟩
end Att
namespace L2
open PySem PySem.Spec PyProof.Rows
theorem KA:∀{vs:List ab}{ns:List Int},n_ vs ns->bQ (ns.map V.int) vs
 |_,_,.nil=>.nil
 |_,_,.cons n t h=>.cons ⟨t,rfl⟩ (KA h)
noncomputable def DM(H:Hp):Prop:=∀b,H b=none\/∃o xs,H b=some (.frz o (.lst xs))
theorem Y0{P:Program}{w:bD}{K:ag}{mg mb:Str->Option ab}{CX:wJ}{k:Nat}{fa a:ak}{fd:cV}{x:Str}{sp:Sp}{s₁:am}{vs:List ab}{ns:List Int}
  (KX:K.In s₁.heap) (L:s₁.heap.Ns cq mg) (g:s₁.heap.Ns md mb) (hbb:∀x:Str,x≠"__name__"->mb x=bT x) (O:s₁.heap.NoLimit) (hg:s₁.gens=#[])
  (ha:s₁.heap.get? a=some { cls:=.type "list",data:=.seq vs.toArray }) (hi:n_ vs ns) (hl:ns.length<=sizeLine) (hr:im k kY)
  (F:∀base:bw,K.In base->base.Ns cq mg->mC P w K mg base CX k fa fd [x] sp) (E:∀(s:am)(u:ab),rC s fd ⟨[u],[]⟩ [(x,u)])
  (hsp:∀H:Hp,DM H->g8 K H a (ns.map V.int)->sp [.ref a] H (λv _=>v=.bl true) λ_ _ _=>False)
  (hCX:∀H e l,CX [] H s₁ (λ_ _ _=>False) e l->False):
  gK (aW P w) kY (.call (.ref fa) ⟨[.ref a],[]⟩) (λr l=>r=.ok (.ret (.bool true))/\OldK s₁.heap l.heap/\l.os=s₁.os/\kX l.gens) s₁:=by
 have rv:=KA hi;have J:=hi.length;have C : ∀H : Hp, DM H -> g8 K H a (ns.map V.int) -> mw P w H s₁.heap -> (∀b, H b ≠ none -> b = a) -> (H a ≠ none -> K.lookup a = none) ->
   gK (aW P w) kY (.call (.ref fa) ⟨[.ref a],[]⟩) (λr l=>r=.ok (.ret (.bool true))/\OldK s₁.heap l.heap/\l.os=s₁.os/\kX l.gens) s₁:=by
  intro H hO hS hok hA hK;have c:∀{b:ak}{o:Obj},s₁.heap.get? b=some o->H b=none->(nW s₁.heap H).get? b=some o:=λe n=>OL e n;have noA:∀{b:ak}{o:Obj}{U:Array nD}{ep:Nat},s₁.heap.get? b=some o->o.data=.dict U ep->H b=none:=λ{b o U ep}e d=>by
   cases q:H b with
   |none=>rfl
   |some u=>
    have e':b=a:=hA b (by rw[q];simp);subst e';rw[ha]at e;cases e;have d':Data.seq vs.toArray _=Data.dict U ep:=d;cases d'
  have B:∀{b:ak}{m:Str->Option ab},s₁.heap.Ns b m->(nW s₁.heap H).Ns b m:=λ{b m}I=>by obtain⟨o,U,ep,e,d,r⟩:=I;exact⟨o,U,ep,c e (noA e d),d,r⟩
  have Q:K.In (nW s₁.heap H):=λb o e=>c (KX b o e) (by
   cases q:H b with
   |none=>rfl
   |some u=>
    have e':b=a:=hA b (by rw[q];simp);subst e';rw[hK (by rw[q];simp)]at e;cases e)
  have hM:Mod K mg (nW s₁.heap H):=⟨Q,B L,⟨mb,B g,hbb⟩,let ⟨mc,h1,h2⟩:=O;⟨mc,B h1,h2⟩⟩
  have e0:qh P w K mg (nW s₁.heap H) kY [] s₁ H:=⟨rfl,hM,λb o e=>Oq e,ut (NP _ _),trivial,λb g=>ba (show b∈([]:List ak) from g) (by simp),hok,.of_eq hg⟩
  refine kq ((F _ Q (B L)).run kY [] s₁ H ⟨[.ref a],[]⟩ [.ref a] [.ref a] _ _ hr e0 (E s₁ (.ref a)) (.cons rfl .nil) (hsp H hO hS)) λr l h=>?_;cases r with
  |error e=>exact (hCX H e l h).elim
  |ok fl=>
   cases fl with
   |next=>exact cK h
   |brk=>exact cK h
   |cont=>exact cK h
   |ret u=>
    obtain⟨v,H',os,Y,un,hok',r',q⟩:=h;have q':v=.bl true:=q;subst q';obtain rfl:u=dX true:=r';refine⟨rfl,OldK.of_keep λb o e=>?_,os,Y⟩;cases q:H b with
    |none=>exact un.keep b o e q (by intro z;exact ba (show b∈([]:List ak) from z) (by simp)) (by simp)
    |some u=>
     rcases hO b with z|⟨ob,xs,z⟩
     ·rw[q]at z;cases z
     ·have g:=un.frzs b ob _ z;obtain⟨c,_⟩:=hok b _ z;obtain⟨h,_⟩:=hok' b _ g;rw[e]at c;cases c;exact h
 cases hk:K.lookup a with
 |some o=>
  have e:=KX a o hk;rw[ha]at e;cases e;refine C (λ_=>none) (λ_=>.inl rfl) (.inr ⟨_,vs.toArray,_,hk,rfl,rfl,rfl,by rw[ay,J];exact hl,by simpa using rv⟩) (λb u z=>by have G:(none:Option HO)=some u:=z;cases G) (λb z=>ba rfl z) λz=>ba rfl z
 |none=>
  refine C (λb=>if b=a then some (.frz { cls:=.type "list",data:=.seq vs.toArray } (.lst (ns.map V.int))) else none) (λb=>?_) (.inl (.inr ⟨{ cls:=.type "list",data:=.seq vs.toArray },aJ rfl⟩)) (λb u z=>?_) (λb z=>?_) λ_=>hk
  ·by_cases g:b=a
   ·exact .inr ⟨_,_,aJ g⟩
   ·exact .inl (aG g)
  ·by_cases g:b=a
   ·have G:=(aJ g).symm.trans z;cases G;subst g;exact⟨ha,by rw[af];exact hl,vs,_,rv,ha⟩
   ·have G:=(aG g).symm.trans z;cases G
  ·by_cases g:b=a
   ·exact g
   ·exact ba (aG g) z
noncomputable def dL(s:Stmt):kP:=match s with
 | .FunctionDef _ a _ _ _ _ _ _ _ _=>a
 |_=>{ posonlyargs:=[],args:=[],vararg:=none,kwonlyargs:=[],kw_defaults:=[],kwarg:=none,defaults:=[] }
noncomputable def cH(s:Stmt):List Stmt:=match s with
 | .FunctionDef _ _ b _ _ _ _ _ _ _=>b
 |_=>[]
noncomputable def bv(s:Stmt):cZ:=match s with
 | .FunctionDef _ _ _ _ _ _ sc _ _ _=>sc
 |_=>{ kind:=.function,names:=[],isGenerator:=false,isCoroutine:=false }
noncomputable abbrev rQ:wJ:=λ_ _ _ _ _ _=>False
noncomputable abbrev E0:XK:=λ_ _ _=>False
theorem WS{X:Cx}:sA rQ X E0:=λ_ _ _ _ _ _ _ h=>h.elim
structure xE(K:ag)(x qual:Str)(st:Stmt)(f:ak)(fd:cV):Prop where
 ex:∃(oc:ab)(od:Option ak)(kV doc pm:ab)(an:Option ak)(cdv ct:ab)(osl:Array (Option ab)),
  fd=b7 x qual (dL st) (cH st) (bv st) .none kV doc pm an cdv ct/\K.lookup f=some ⟨oc,od,.func fd,osl⟩/\fO K cdv qual=true
 kp:da K (.ref f)=true
section
variable{P:Program}{w:bD}{K:ag}{mg:Str->Option ab}{base:bw}
theorem xE.binds{x qual:Str}{st:Stmt}{f:ak}{u:cV}{ps:List Str}(F:xE K x qual st f u)
  (h:∀(kV c o:ab)(q:Option ak)(g ct:ab)(l:List ab),l.length=ps.length->io (b7 x qual (dL st) (cH st) (bv st) .none kV c o q g ct) ⟨l,[]⟩=pure (ps.zip l)):Binds K u ps []:=by
 obtain⟨G,E,kV,c,o,q,g,ct,B,rfl,H,C⟩:=F.ex;exact .all (h kV c o q g ct)
theorem Mo{x qual:Str}{st:Stmt}{f:ak}{C:ab}{B u:Option ak}{o:Array (Option ab)}{kV h q g ct:ab}(l:K.lookup f=some ⟨C,B,.func (b7 x qual (dL st) (cH st) (bv st) .none kV h q u g ct),o⟩)
  (c:fO K g qual=true) (k:da K (.ref f)=true):xE K x qual st f (b7 x qual (dL st) (cH st) (bv st) .none kV h q u g ct):=⟨⟨C,B,kV,h,q,u,g,ct,o,rfl,l,c⟩,k⟩
end
section
variable{κ:Type}[DecidableEq κ]
noncomputable def pS(c:List (κ×V))(k:κ):Option V:=(c.find? λg=>decide (g.1=k)).map (·.2)
noncomputable def lZ(c:List (κ×V))(k:κ)(v:V):List (κ×V):=
 if (c.any λg=>decide (g.1=k))=true then c.map (λg=>if g.1=k then (g.1,v) else g) else c++[(k,v)]
theorem Gf{p:κ×V}{r:List (κ×V)}{k:κ}(e:p.1=k):pS (p::r) k=some p.2:=by simp[pS,cC,e]
theorem GW{p:κ×V}{r:List (κ×V)}{k:κ}(e:¬ p.1=k):pS (p::r) k=pS r k:=by simp[pS,cC,e]
theorem OG(k:κ):∀c:List (κ×V),(c.any λg=>decide (g.1=k))=(pS c k).isSome
 |[]=>rfl
 |p::r=>by
  rw[dY];by_cases e:p.1=k
  ·simp only[Gf e,cT e,Bool.true_or,kZ]
  ·rw[GW e,aP e,lR];exact OG k r
theorem K6(c:List (κ×V))(k:κ)(v:V):(lZ c k v).length<=c.length+1:=by
 unfold lZ;split
 ·rw[af];ext
 ·rw[aN,bV,gD];ext
theorem o6.isSome_eq{o:Option V}{u:Option ab}(r:o6 o u):o.isSome=u.isSome:=by
 cases o with
 |none=>cases u with
  |none=>rfl
  |some _=>exact (show False from r).elim
 |some _=>cases u with
  |none=>exact (show False from r).elim
  |some _=>rfl
theorem KV.val{c:List (κ×V)}{vs:List (κ×ab)}(r:KV c vs)(k:κ):o6 (pS c k) (rE vs k):=by
 unfold KV at r
 induction r with
 |nil=>exact d7
 |@cons p q ps qs h t ih=>
  obtain⟨l,o⟩:=h;by_cases e:p.1=k
  ·have g:q.1=k:=l.symm.trans e;have b:rE (q::qs) k=some q.2:=by simp[rE,cC,g]
   rw[Gf e,b];exact o
  ·have g:¬ q.1=k:=λz=>e (l.trans z);have b:rE (q::qs) k=rE qs k:=by simp[rE,cC,g]
   rw[GW e,b];exact ih
theorem KV.any{c:List (κ×V)}{vs:List (κ×ab)}(r:KV c vs)(k:κ):(c.any λg=>decide (g.1=k))=vs.any λg=>decide (g.1=k):=by
 unfold KV at r
 induction r with
 |nil=>rfl
 |cons h t ih=>rw[dY,dY,ih,h.1]
theorem KV.repl{g:List (κ×V)}{vs:List (κ×ab)}(r:KV g vs)(k:κ){y:V}{u:ab}(o:RelV y u):
  KV (g.map λc=>if c.1=k then (c.1,y) else c) (vs.map λc=>if c.1=k then (c.1,u) else c):=by
 unfold KV at r ⊢
 induction r with
 |nil=>exact .nil
 |@cons p q ps qs h t ih=>
  rw[aL,aL];refine .cons ?_ ih;obtain⟨l,B⟩:=h;by_cases e:p.1=k
  ·rw[aJ e,aJ (l.symm.trans e)];exact⟨l,o⟩
  ·rw[aG e,aG (λz=>e (l.trans z))];exact⟨l,B⟩
theorem KV.put{c:List (κ×V)}{vs:List (κ×ab)}(r:KV c vs)(k:κ){y:V}{u:ab}(g:RelV y u):KV (lZ c k y) (stored vs k u):=by
 unfold lZ stored;rw[r.any k];by_cases e:(vs.any λh=>decide (h.1=k))=true
 ·rw[aJ e,aJ e];exact r.repl k g
 ·rw[aG e,aG e];exact nj r ⟨rfl,g⟩
theorem KV.length{c:List (κ×V)}{vs:List (κ×ab)}(r:KV c vs):c.length=vs.length:=dR r
end
theorem CK{P:Program}{w:bD}{k:Key}{u:ab}(r:RelV (kV k) u):(fL P w).is k u=true:=by
 cases k with
 |inl i=>obtain⟨t,e⟩:=(show ∃t,u=d6 i t from r);subst e;exact Rv P w i t
 |inr x=>obtain⟨t,e⟩:=(show ∃t,u=nL x t from r);subst e;exact V9 P w x t
theorem L6{P:Program}{w:bD}:∀{ks:List Key}{c:List ab},bQ (ks.map kV) c->ItemsAre (fL P w) ks c
 |[],_,r=>by rw[mI]at r;cases r;exact .nil
 |k::ks,_,r=>by
  rw[aL]at r;cases r with
  |cons h t=>exact .cons (CK h) (L6 t)
abbrev KT(H:Hp):List (List Key×V)->List (List Key×ak×ab)->Prop:=cW λp q=>p.1=q.1/\H q.2.1=some (.tup (p.1.map kV))/\RelV p.2 q.2.2
theorem KT.val{H:Hp}{c:List (List Key×V)}{xs:List (List Key×ak×ab)}(r:KT H c xs)(k:List Key):o6 (pS c k) ((k_ xs k).map (·.2)):=by
 induction r with
 |nil=>exact d7
 |@cons p q ps qs h t ih=>
  obtain⟨l,_,o⟩:=h;by_cases e:p.1=k
  ·have g:q.1=k:=l.symm.trans e;have b:k_ (q::qs) k=some q.2:=by simp[k_,cC,g]
   rw[Gf e,b];exact o
  ·have g:¬ q.1=k:=λz=>e (l.trans z);have b:k_ (q::qs) k=k_ qs k:=by simp[k_,cC,g]
   rw[GW e,b];exact ih
theorem KT.repl{H:Hp}{c:List (List Key×V)}{xs:List (List Key×ak×ab)}(r:KT H c xs)(k:List Key){y:V}{u:ab}(B:RelV y u):
  KT H (c.map λl=>if l.1=k then (l.1,y) else l) (xs.map (sT k u)):=by
 induction r with
 |nil=>exact .nil
 |@cons p q ps qs h t ih=>
  rw[aL,aL];refine .cons ?_ ih;obtain⟨g,o,C⟩:=h;unfold sT;by_cases e:p.1=k
  ·rw[aJ e,aJ (g.symm.trans e)];exact⟨g,o,B⟩
  ·rw[aG e,aG (λz=>e (g.trans z))];exact⟨g,o,C⟩
theorem KT.put{H:Hp}{c:List (List Key×V)}{xs:List (List Key×ak×ab)}(r:KT H c xs)(k:List Key){b:ak}{y:V}{u:ab}(l:H b=some (.tup (k.map kV)))(g:RelV y u):
  KT H (lZ c k y) (k7 xs k b u):=by
 have e:(c.any λh=>decide (h.1=k))=(k_ xs k).isSome:=by rw[OG,(r.val k).isSome_eq,gE]
 unfold lZ k7;rw[e];by_cases q:(k_ xs k).isSome=true
 ·rw[aJ q,aJ q];exact r.repl k g
 ·rw[aG q,aG q];exact nj r ⟨rfl,l,g⟩
theorem KT.keeps{H g:Hp}{c:List (List Key×V)}{xs:List (List Key×ak×ab)}(r:KT H c xs)(h:∀b ys,H b=some (.tup ys)->g b=some (.tup ys)):KT g c xs:=
 cW.mapP r λ_ _ z=>⟨z.1,h _ _ z.2.1,z.2.2⟩
section
variable{P:Program}{w:bD}{H:Hp}{h:bw}{a:ak}
theorem MQ{u:HO}(ok:mw P w H h)(e:Rd H a u):eX P w H h a u:=e.ok ok
theorem FS{c:List (Key×V)}(ok:mw P w H h)(e:Rd H a (.dK c)):c.length<=sizeLine/\(a == dA)=false/\∃vs,KV c vs/\h.DictOf (fL P w) a vs:=
 show eX P w H h a (.dK c) from MQ ok e
theorem Jj{c:List (Key×V)}(ok:mw P w H h)(e:H a=some (.dK c)):c.length<=sizeLine/\(a == dA)=false/\∃vs,KV c vs/\h.DictOf (fL P w) a vs:=FS ok (.inl e)
theorem FJ{ks:List Key}(ok:mw P w H h)(e:H a=some (.tup (ks.map kV))):(sJ (fL P w)).is h ks a:=by
 obtain⟨_,its,r,o,l,g,⟨n,c⟩,_⟩:=(show eX P w H h a (.tup (ks.map kV)) from ok a _ e)
 exact⟨o,its.toArray,n,l,g,c,by simpa using L6 r⟩
theorem Gj{c:List (List Key×V)}(ok:mw P w H h)(e:Rd H a (.dT c)): c.length<=sizeLine/\(a == dA)=false /\
  ∃xs,KT H c xs/\h.DictOfH (sJ (fL P w)) a xs:=by
 obtain⟨z,y,xs,r,o,I,ep,G,E,C,B,u⟩:=(show eX P w H h a (.dT c) from MQ ok e)
 refine⟨z,y,xs,r,o,I,ep,G,E,C,B,λx g=>?_,u⟩;have all:∀{l:List (List Key×V)}{m:List (List Key×ak×ab)},KT H l m->∀x∈m,(sJ (fL P w)).is h x.1 x.2.1:=by
  intro l m q
  induction q with
  |nil=>intro x g;exact nomatch g
  |@cons p q ps qs hq t ih=>
   intro x g;rcases aI.mp g with e|g
   ·subst e;exact FJ ok (by rw[<- hq.1];exact hq.2.1)
   ·exact ih x g
 exact all r x g
theorem To{c:List (List Key×V)}(ok:mw P w H h)(e:H a=some (.dT c)): c.length<=sizeLine/\(a == dA)=false /\
  ∃xs,KT H c xs/\h.DictOfH (sJ (fL P w)) a xs:=Gj ok (.inl e)
end
def tP(H:Hp)(a:ak)(y:V)(r:Option V):Prop:=
 (∃c k,Rd H a (.dK c)/\y=kV k/\r=pS c k)\/∃c k b,Rd H a (.dT c)/\y=.ref b/\H b=some (.tup (k.map kV))/\r=pS c k
def yQ(H:Hp)(a:ak)(y v:V)(g:Hp):Prop:=
 (∃c k,H a=some (.dK c)/\y=kV k/\c.length < sizeLine/\g=fw H a (.dK (lZ c k v))) \/
 ∃c k b,H a=some (.dT c)/\y=.ref b/\H b=some (.tup (k.map kV))/\c.length < sizeLine/\g=fw H a (.dT (lZ c k v))
theorem tP.k{H:Hp}{a:ak}{c:List (Key×V)}{k:Key}(e:H a=some (.dK c)):tP H a (kV k) (pS c k):=.inl ⟨c,k,.inl e,rfl,rfl⟩
theorem yQ.k{H:Hp}{a:ak}{c:List (Key×V)}{k:Key}{v:V}(e:H a=some (.dK c))(g:c.length < sizeLine):yQ H a (kV k) v (fw H a (.dK (lZ c k v))):=.inl ⟨c,k,e,rfl,g,rfl⟩
section
variable{X:Cx}{a3:List (ak×Obj)}{σ:St}{H:Hp}{s:am}{a:ak}{y v:V}{u r:ab}{o:Option V}{A:bz}{E:ab->am->Prop}
theorem Inv.big(I:Inv X a3 σ H s):dA < s.heap.objs.size:=by have h:cq < s.heap.objs.size:=(I.mod.glob.keeps I.bk).lt;exact m5 (by decide) h
theorem XQ{Q:ab->am->Prop}(hu:A.units+1 < cL)(I:Inv X a3 σ H s)(g:tP H a y (some v))(Y:RelV y u)(h:∀B U,Inv X a3 σ H U->RelV v B->Q B U):
  aF (aW X.prog X.w) A (rD (.ref a) u) Q E s:=by
 rcases g with ⟨C,k,e,L,l⟩|⟨C,k,b,e,L,eb,l⟩
 ·subst L;obtain⟨z,hd,vs,q,O⟩:=FS I.hok e;obtain⟨B,G,c⟩:=o6.some_of (v:=v) (o:=rE vs k) (by rw[l];exact q.val k);exact wpAny_getItem_of (CK Y) O.mapOf G (h B _ (I.tok _) c)
 ·subst L;cases (show u=a_ b from Y);obtain⟨z,hd,xs,q,O⟩:=Gj I.hok e;obtain⟨B,G,c⟩:=o6.some_of (v:=v) (o:=(k_ xs k).map (·.2)) (by rw[l];exact q.val k);obtain⟨p,g,J⟩:=du.mp G;refine Cc (mj hu) (FJ I.hok eb) O g ?_;rw[J];exact h B _ (I.tok _) c
theorem K0{Q:ab->am->Prop}(hu:A.units+1 < cL)(I:Inv X a3 σ H s)(g:tP H a y o)(L:RelV y u)(h:∀J,Inv X a3 σ H J->Q (.bool o.isSome) J):
  aF (aW X.prog X.w) A (cG .In u (.ref a)) Q E s:=by
 rcases g with ⟨B,k,e,C,l⟩|⟨B,k,b,e,C,O,l⟩
 ·subst C;obtain⟨z,hd,vs,c,G⟩:=FS I.hok e;refine wpAny_in_of (CK L) hd G.mapOf ?_;rw[<- (c.val k).isSome_eq,<- l];exact h _ (I.tok _)
 ·subst C;cases (show u=a_ b from L);obtain⟨z,hd,xs,c,G⟩:=Gj I.hok e;refine wpAny_in_heap (mj hu) (FJ I.hok O) hd G ?_;have q:=(c.val k).isSome_eq;rw[gE]at q;rw[<- q,<- l];exact h _ (I.tok _)
theorem TR{Q:ab->am->Prop}(hu:A.units+1 < cL)(I:Inv X a3 σ H s)(g:tP H a y o)(L:RelV y u)(h:∀J,Inv X a3 σ H J->Q (.bool (!o.isSome)) J):
  aF (aW X.prog X.w) A (cG .NotIn u (.ref a)) Q E s:=by
 rcases g with ⟨B,k,e,C,l⟩|⟨B,k,b,e,C,O,l⟩
 ·subst C;obtain⟨z,hd,vs,c,G⟩:=FS I.hok e;refine wpAny_notIn_of (CK L) hd G.mapOf ?_;rw[<- (c.val k).isSome_eq,<- l];exact h _ (I.tok _)
 ·subst C;cases (show u=a_ b from L);obtain⟨z,hd,xs,c,G⟩:=Gj I.hok e;refine F6 (mj hu) (FJ I.hok O) hd G ?_;have q:=(c.val k).isSome_eq;rw[gE]at q;rw[<- q,<- l];exact h _ (I.tok _)
theorem DL{h':bw}{t':Nat}{c:HO}(I:Inv X a3 σ H s)(g:EC (H a))(h:c7 a s.heap h')(l:∃q,h'.get? a=some q)(new:eX X.prog X.w (fw H a c) h' a c):
  Inv X a3 σ (fw H a c) { s with heap:=h',toks:=t' }:=
 I.write (x:=a) (e:=a) g (.inl rfl) (λb q B z=>(h.2 b B).trans z) l new
theorem OD{P:Program}{w:bD}{l:Hp}{h':bw}{c:List (Key×V)}{vs:List (Key×ab)}(z:c.length<=sizeLine)(hd:(a == dA)=false)(g:KV c vs)(h:h'.DictOf (fL P w) a vs):
  eX P w l h' a (.dK c):=⟨z,hd,vs,g,h⟩
theorem U6{H':Hp}{Q:Unit->am->Prop}(hu:A.units+1 < cL)(I:Inv X a3 σ H s)(g:yQ H a y v H')(ry:RelV y u)(rv:RelV v r)(h:∀s',Inv X a3 σ H' s'->Q () s'):
  aF (aW X.prog X.w) A (rA (.ref a) u r) Q E s:=by
 rcases g with ⟨C,k,e,U,l,Y⟩|⟨C,k,b,e,U,eb,l,Y⟩
 ·subst U Y;obtain⟨z,hd,vs,B,o⟩:=Jj I.hok e;have hz:vs.length<=sizeLine:=by rw[<- B.length];exact z
  have O:(lZ C k v).length<=sizeLine:=by have:=K6 C k v;ext
  refine wpAny_setItem_pairs (hsz:=hz) (CK ry) o λh' G L=>h _ ?_;have c:∃q,h'.get? a=some q:=let ⟨q,_,_,J,_⟩:=G;⟨q,J⟩
  exact DL I (by rw[e];exact d7) L c (OD O hd (B.put k rv) G)
 ·subst U Y;cases (show u=a_ b from ry);obtain⟨z,hd,xs,B,o⟩:=To I.hok e;have hz:xs.length<=sizeLine:=by rw[<- dR B];exact z
  have O:(lZ C k v).length<=sizeLine:=by have:=K6 C k v;ext
  refine wpAny_setItem_heap (hsz:=hz) (mj hu) (FJ I.hok eb) o λh' G L=>h _ ?_;obtain⟨q,es,ep,J,Q,H,E,_,l⟩:=G;refine DL I (by rw[e];exact d7) L ⟨q,J⟩ ⟨O,hd,_,(B.put k eb rv).keeps λc ys g=>?_,q,es,ep,J,Q,H,E,l⟩;rw[fM (Tk g e nofun)];exact g
end
section
variable{X:Cx}{a3:List (ak×Obj)}{σ:St}{H:Hp}{s:am}{a:ak}{a4:List (Key×V)}{k:Key}{u:ab}{A:bz}{E:ab->am->Prop}
theorem RX{Q:ab->am->Prop}(I:Inv X a3 σ H s)(e:Rd H a (.dK a4))(h:∀t g,Inv X a3 σ H g->Q (.int a4.length t) g):aF (aW X.prog X.w) A (call (.builtin "len") [.ref a]) Q E s:=by obtain⟨z,hd,vs,c,l⟩:=FS I.hok e;refine call_len_dict hd l (by rw[<- c.length];rw[i4]at z;ext) ?_;rw[<- c.length];exact h _ _ (I.tok _)
end
theorem Ob{P:Program}{w:bD}{H:Hp}(h:bw)(c:dA < h.objs.size):eX P w H (h.push { cls:=.type "dict",data:=.dict #[] }) h.objs.size (.dK []):=
 ⟨bn _,beq_eq_false_iff_ne.mpr (eM (aR c)),[],.nil,bw.DictOf.new h⟩
def A6:TE:=λ_ H Q=>∀p,H p=none->Q (.ref p) (fw H p (.dK []))
section
variable{X:Cx}{pos:Pos}
theorem Qu:PE X (.Dict [] [] pos) A6:=λc s σ H Q I h=>
 F7 ⟨.ref s.heap.objs.size,_,I.laid (a:=s.heap.objs.size) (o:=.dK []) (t':=s.toks) (λ_ _ q=>ah _ q) (ax _) (Ob s.heap I.big),rfl,h _ (I.hok.fresh (ax _))⟩
end
def sC:List (TE×TE)->St->Hp->(List (V×V)->Hp->Prop)->Prop
 |[],_,H,Q=>Q [] H
 | (tk,tv)::r,σ,H,Q=>tk σ H λx h=>tv σ h λy g=>sC r σ g λps c=>Q ((x,y)::ps) c
abbrev VV:List (V×V)->List (ab×ab)->Prop:=cW λp q=>RelV p.1 q.1/\RelV p.2 q.2
def FX(X:Cx)(pos:Pos)(keys:List (Option Expr))(c:List Expr)(g:List (TE×TE)):Prop:=
 ∀(a3:List (ak×Obj))(s:am)(σ:St)(H:Hp)(Q:List (V×V)->Hp->Prop),Inv X a3 σ H s->sC g σ H Q ->
  aF (aW X.prog X.w) X.A (evalPairs (pairTrees keys c X.env pos)) (λvs l=>∃ps h,Inv X a3 σ h l/\VV ps vs/\Q ps h) X.xe s
theorem OP{X:Cx}{pos:Pos}:FX X pos [] [] []:=λc s σ H Q I h=>pairTrees_nil_walk ⟨[],H,I,.nil,h⟩
theorem Nv{X:Cx}{pos:Pos}{k v:Expr}{ks:List (Option Expr)}{vs:List Expr}{tk o:TE}{g:List (TE×TE)}(U:PE X k tk)(hv:PE X v o)(O:FX X pos ks vs g):
  FX X pos (some k::ks) (v::vs) ((tk,o)::g):=λc s σ H Q I h=>
 pairTrees_cons_walk (gj (U c s σ H _ I h) λu B ⟨x,H1,I1,E,L⟩=>gj (hv c B σ H1 _ I1 L) λw2 q ⟨y,H2,I2,C,J⟩=>
  gj (O c q σ H2 _ I2 J) λws s3 ⟨ps,H3,Y,l,G⟩=>⟨(x,y)::ps,H3,Y,.cons ⟨E,C⟩ l,G⟩)
def iZ(c more:List (Key×V)):List (Key×V):=more.foldl (λg h=>lZ g h.1 h.2) c
theorem KV.merge:∀{more:List (Key×V)}{rs:List (Key×ab)}{c:List (Key×V)}{vs:List (Key×ab)},KV more rs->KV c vs->KV (iZ c more) (merged vs rs):=by
 intro more rs c vs r;unfold KV at r
 induction r generalizing c vs with
 |nil=>intro q;exact q
 |@cons p q ps qs h t ih=>
  intro g;have e:KV (lZ c p.1 p.2) (stored vs q.1 q.2):=by have:=g.put p.1 h.2;rw[<- h.1];exact this
  exact ih e
theorem OY:∀(more a4:List (Key×V)),(iZ a4 more).length<=a4.length+more.length
 |[],a4=>by show a4.length<=a4.length+0;ext
 |p::r,a4=>by
  have g:=OY r (lZ a4 p.1 p.2);have c:=K6 a4 p.1 p.2
  show (iZ (lZ a4 p.1 p.2) r).length<=_;rw[bV];ext
theorem Mk{P:Program}{w:bD}:∀{a4:List (Key×V)}{ws:List (ab×ab)},VV (a4.map λg=>(kV g.1,g.2)) ws->∃rs,Carries (fL P w) ws rs/\KV a4 rs
 |[],_,r=>by rw[mI]at r;cases r;exact⟨[],d7,.nil⟩
 |p::a4,_,r=>by
  rw[aL]at r;cases r with
  |@cons a b as bs h t=>
   obtain⟨rs,c,q⟩:=Mk (P:=P) (w:=w) t;obtain⟨o,l⟩:=b;exact⟨(p.1,l)::rs,⟨CK h.1,rfl,c⟩,.cons ⟨rfl,h.2⟩ q⟩
def D8(g:List (TE×TE)):TE:=λσ H Q=>∀p,H p=none->sC g σ (fw H p (.dK [])) λps l=>l p=some (.dK [])/\∃c:List (Key×V),ps=c.map (λh=>(kV h.1,h.2))/\c.length<=15/\Q (.ref p) (fw l p (.dK (iZ [] c)))
theorem Nl{X:Cx}{pos:Pos}{keys:List (Option Expr)}{g:List Expr}{l:List (TE×TE)}(h:FX X pos keys g l)(E:keys.all (·.isSome)=true)(hl:keys.length=g.length)(h0:keys≠[])
  (L:keys.length<=15):PE X (.Dict keys g pos) (D8 l):=by
 intro B s σ H Q I q;have hn:=I.hok.fresh (ax s.heap.objs.size);have I1:=I.laid (a:=s.heap.objs.size) (o:=.dK []) (h':=s.heap.push { cls:=.type "dict",data:=.dict #[] }) (t':=s.toks) (λ_ _ q=>ah _ q) (ax _) (Ob s.heap I.big);refine wpAny_Dict_walk (knd:=fL X.prog X.w) E hl h0 L (gj (h B _ σ _ _ I1 (q _ hn)) λws s2 u=>?_);obtain⟨ps,H2,O,J,e,C,ep,lk,q2⟩:=u;subst ep;obtain⟨rs,c,Y⟩:=Mk (P:=X.prog) (w:=X.w) J;obtain⟨z,hd,U,r0,dd⟩:=Jj O.hok e;cases r0;refine⟨rs,c,dd,λh' G hs=>⟨.ref s.heap.objs.size,_,?_,rfl,q2⟩⟩;have hz:(iZ [] C).length<=sizeLine:=by have h1:=OY C [];rw[gD]at h1;rw[i4];ext
 have he:∃q,h'.get? s.heap.objs.size=some q:=let ⟨q,_,_,hq,_⟩:=G;⟨q,hq⟩
 exact DL O (by rw[e];exact d7) hs he (OD hz hd (Y.merge .nil) G)
end L2
namespace MM
open PySem PySem.Spec PyProof.Rows L2
noncomputable abbrev KI:=Int ⊕ List Int
section
variable{prog:Program}{w:bD}
variable(prog w) in
inductive vz(h:bw):KI->ab->Prop
 |one (i:Int) (t:Tok):vz h (.inl i) (.int i t)
 |row {k:List Int}{b:ak}:Cd (iA prog w) h k b->vz h (.inr k) (.ref b)
variable(prog w) in
inductive nw(h:bw):List KI->List ab->Prop
 |nil:nw h [] []
 |cons {k:KI}{v:ab}{ks:List KI}{vs:List ab}:vz prog w h k v->nw h ks vs->nw h (k::ks) (v::vs)
variable(prog w) in
noncomputable def eE(h:bw)(ks:List KI)(a:ak):Prop:=∃o items n,h.get? a=some o/\o.cls=.type "tuple"/\o.data=.seq items n/\nw prog w h ks items.toList
theorem vz.inj{h:bw}{x y:KI}{v:ab}(a:vz prog w h x v)(b:vz prog w h y v):x=y:=by
 cases a with
 |one i t=>cases b;rfl
 |row a=>cases b with
  |row b=>rw[a.inj b]
theorem nw.inj{h:bw}{x y:List KI}{vs:List ab}(a:nw prog w h x vs)(b:nw prog w h y vs):x=y:=by
 induction a generalizing y with
 |nil=>cases b;rfl
 |cons a t ih=>cases b with
  |cons b u=>rw[a.inj b,ih u]
theorem eE.typeIs{s:am}{ks:List KI}{a:ak}(x:eE prog w s.heap ks a):s.TypeIs (.ref a) "tuple":=let ⟨o,_,_,ho,hc,_⟩:=x;⟨o,ho,hc⟩
theorem eE.inj{h:bw}{a:ak}{x y:List KI}(B:eE prog w h x a)(u:eE prog w h y a):x=y:=by
 obtain⟨o,items,n,C,_,hd,E⟩:=B;obtain⟨o',g,G,l,_,c,q⟩:=u;cases C.symm.trans l;rw[hd]at c;injection c with h1 _
 subst h1;exact E.inj q
theorem vz.keeps{h h':bw}{d:ak}{o:Obj}{l ep}(g:h.get? d=some o)(hd:o.data=.dict l ep)(c:c7 d h h'):∀{x:KI}{v:ab},vz prog w h x v->vz prog w h' x v
 |_,_,.one i t=>.one i t
 |_,_,.row a=>.row (a.keeps g hd c)
theorem nw.keeps{h h':bw}{d:ak}{o:Obj}{l ep}(g:h.get? d=some o)(hd:o.data=.dict l ep)(c:c7 d h h'):∀{x:List KI}{vs:List ab},nw prog w h x vs->nw prog w h' x vs
 |_,_,.nil=>.nil
 |_,_,.cons a t=>.cons (a.keeps g hd c) (nw.keeps g hd c t)
theorem eE.keeps{h h':bw}{ks:List KI}{a d:ak}{o:Obj}{E ep}(x:eE prog w h ks a)(u:h.get? d=some o)(hd:o.data=.dict E ep)(q:c7 d h h'):
  eE prog w h' ks a:=by
 obtain⟨o',items,n,g,C,c,B⟩:=x;have l:a≠d:=by
  rintro rfl
  obtain rfl:o'=o:=aM (g.symm.trans u);rw[hd]at c;exact nomatch c
 exact⟨o',items,n,(q.2 a l).trans g,C,c,B.keeps u hd q⟩
def AT:KI->Int
 | .inl i=>t5 i
 | .inr r=>reduceHash (db (r.map t5))
def oH(ks:List KI):Int:=reduceHash (db (ks.map AT))
def Hz:KI->Nat
 | .inl _=>1
 | .inr r=>r.length+1
def iw:List KI->Nat
 |[]=>0
 |k::ks=>Hz k+iw ks
variable{A:bz}{E:ab->am->Prop}{s:am}
theorem HM(k:KI):∀(l:List KI),iw (l++[k])=iw l+Hz k
 |[]=>by simp[iw]
 |x::l=>by simp[iw,HM k l];ext
theorem YC{k:KI}{v:ab}{Q:Int->am->Prop}(hu:A.units < cL)(c:vz prog w s.heap k v)(h:Q (AT k) { s with toks:=s.toks+Hz k }):aF (aW prog w) A (pyHash v) Q E s:=by
 cases c with
 |one i t=>exact sI h
 |row c=>exact wpAny_pyHash_tuple (knd:=iA prog w) hu c h
theorem SQ{x y:KI}{u v:ab}{Q:Bool->am->Prop}(hu:A.units < cL)(C:vz prog w s.heap x u)(l:vz prog w s.heap y v)(h:Q (decide (x=y)) s):aF (aW prog w) A (eqBool u v) Q E s:=by
 cases C with
 |one i t=>
  cases l with
  |one j t'=>
   refine F5 ?_;have e:(i == j)=decide ((k9 i:KI)=k9 j):=by
    by_cases z:i=j
    ·subst z;simp
    ·have B:¬ ((k9 i:KI)=k9 j):=λq=>z (by injection q);rw[aP B];exact beq_eq_false_iff_ne.mpr z
   first|(rw[e];exact h)|(simpa [e] using h)
  |row h2=>
   obtain⟨o,items,n,c,g,hd,_⟩:=h2;rw[aP (by simp)]at h;exact vK.int_tuple i t ⟨o,c,g,n,hd⟩ hu prog w E Q h
 |row h1=>
  cases l with
  |one j t'=>
   obtain⟨o,items,n,c,g,hd,_⟩:=h1;rw[aP (by simp)]at h;exact vK.tuple_int j t' ⟨o,c,g,n,hd⟩ hu prog w E Q h
  |@row k2 b h2=>
   refine wpAny_eqBool_tuple (knd:=iA prog w) hu h1 h2 ?_;simpa using h
theorem YZ{ks:List KI}{a:ak}{Q:Int->am->Prop}(hu:A.units+1 < cL)(q:eE prog w s.heap ks a)(h:Q (oH ks) { s with toks:=s.toks+(iw ks+1) }):
  aF (aW prog w) A (pyHash (.ref a)) Q E s:=by
 have g:=q.typeIs;obtain⟨o,items,n,u,_,hd,B⟩:=q;unfold pyHash
 first|unfold pyHashByItsType|skip
 first|refine aa (wpAny_cRoomFor_or (.inr (by ext)) ?_)|skip
 refine aa (gX g my.lookup ?_)
 show aF _ _ (if (some (sN "tuple.__hash__") == some cJ)=true then _ else _) Q E s;rw[aG (by rw[beq_builtin_none];exact bh)];refine aa (gX g my.lookup ?_)
 show aF _ _ (callSpecialIfBoundUnlessNone? (.ref a) "__hash__" _ >>= _) Q E s;refine aa (wpAny_callSpecialIfBoundUnlessNone?_slot g my (bX my g F.entry_tuple_hash ?_ (F.args_tuple_hash_1 _)))
 show aF _ _ (oP (.ref a) >>= _) _ _ s;refine aa (qR u hd ?_);refine aa ?_;rw[<- oQ];refine nE _
  (λrest(b:Array Int)l=>∃done left,ks=done++left/\nw prog w s.heap left rest/\b.toList=done.map (AT)/\l={ s with toks:=s.toks+iw done })
  _ ?_ ?_ _ _ ⟨[],ks,rfl,B,rfl,rfl⟩
 ·rintro x rest b l ⟨done,left,rfl,hl,hb,rfl⟩
  cases hl with
  |@cons k b' ks' _ h1 hl'=>
   refine aa (YC (k:=k) hu h1 ?_)
   first
    |exact ai ⟨done++[k],ks',by simp,hl',by simp[hb],by simp[HM,oW]⟩
    |exact aa (ai (ai ⟨done++[k],ks',by simp,hl',by simp[hb],by simp[HM,oW]⟩))
 ·rintro b l ⟨done,left,rfl,hl,hb,rfl⟩
  cases hl;rw[dm]at h
  show aF _ _ (retInt (db b.toList)) _ _ _;rw[hb];refine Hj ?_
  show aF _ _ (if (decide (-(2:Int)^63<=db (done.map (AT)))&&decide (db (done.map (AT)) < 2^63))=true then _ else _) Q E _;unfold oH reduceHash at h;by_cases c:(decide (-(2:Int)^63<=db (done.map (AT)))&&decide (db (done.map (AT)) < 2^63))=true
  ·rw[aJ c];rw[aJ c]at h;exact ai (by simpa [oW] using h)
  ·rw[aG c];rw[aG c]at h;exact aa (gM (ai (by simpa [oW] using h)))
theorem SK{x y:List KI}{a b:ak}{P:Fin->am->Prop}(hu:A.units < cL)(hx:eE prog w s.heap x a)(Y:eE prog w s.heap y b)(h:P (.done (.ret (.bool (decide (x=y))))) s):
  aF (aW prog w) A (Builtin.«tuple.__eq__» ⟨[.ref a,.ref b],[]⟩) P E s:=by
 have U:=Y.typeIs;obtain⟨oa,xs,na,H,_,Q,L⟩:=hx;obtain⟨ob,ys,nb,G,_,O,J⟩:=Y
 show aF _ _ (Ce (.ref b) (.type "tuple") >>= _) _ _ s;refine aa (c9 U oR ?_);simp only[fq,aT,if_false];refine aa (qR H Q ?_);refine aa (qR G O ?_);refine aa ?_;refine nE _
  (λrest r C=>r.1=none/\C=s/\∃B q g c,rest=List.zip g c/\nw prog w s.heap B g/\nw prog w s.heap q c/\decide (B=q)=decide (x=y)/\(g.length == c.length)=(xs.size == ys.size))
  _ ?_ ?_ _ _ ⟨rfl,rfl,x,y,xs.toList,ys.toList,rfl,L,J,rfl,by simp⟩
 ·rintro ⟨u,v⟩ rest r C ⟨hr,rfl,B,q,g,c,hz,hx',hy',hdec,hlen⟩
  cases hx' with
  |nil=>simp at hz
  |@cons k1 u' x'' xs'' h1 hx''=>
   cases hy' with
   |nil=>simp at hz
   |@cons k2 v' y'' ys'' h2 hy''=>
    simp only[v4,List.cons.injEq,Prod.mk.injEq]at hz;obtain⟨⟨rfl,rfl⟩,rfl⟩:=hz;refine aa (SQ (x:=k1) (y:=k2) hu h1 h2 ?_);by_cases I:k1=k2
    ·subst I;rw[cT rfl];simp only[fq,aT,if_false];refine ai ⟨rfl,rfl,x'',y'',xs'',ys'',rfl,hx'',hy'',?_,by simpa using hlen⟩;rw[<- hdec];by_cases l:x''=y''
     ·simp[l]
     ·simp[l]
    ·rw[aP I];simp only[nN,if_true];have o:decide (x=y)=false:=by rw[<- hdec];simp[I]
     rw[o]at h;exact aa (ai (ai (ai h)))
 ·rintro ⟨r1,r2⟩ C ⟨hr,rfl,B,q,g,c,hz,hx',hy',hdec,hlen⟩
  simp only at hr;subst hr;refine ai ?_;have o:(xs.size == ys.size)=decide (x=y):=by
   rw[<- hdec,<- hlen];cases hx' with
   |nil=>
    cases hy' with
    |nil=>simp
    |cons _ _=>simp
   |cons _ _=>
    cases hy' with
    |nil=>simp
    |cons _ _=>simp at hz
  show P (.done (.ret (.bool (xs.size == ys.size)))) C;rw[o];exact h
theorem YG{x y:List KI}{a b:ak}{Q:Bool->am->Prop}(hu:A.units+1 < cL)(g:eE prog w s.heap x a)(l:eE prog w s.heap y b)(h:Q (decide (x=y)) s):
  aF (aW prog w) A (eqBool (.ref a) (.ref b)) Q E s:=by
 unfold eqBool
 try with_reducible refine bZ ?_
 show aF _ _ (if (a_ a == a_ b)=true then _ else _) Q E s;by_cases c:(a_ a == a_ b)=true
 ·rw[aJ c];have e:a=b:=by have:=eq_of_beq c;injection this
  subst e;obtain rfl:=g.inj l;exact aa (gM (ai (by simpa using h)))
 ·rw[aG c];exact aa (wpAny_richCompare_same_room (op:=.Eq) g.typeIs l.typeIs nO
   (bX nO g.typeIs F.entry_tuple_eq (SK (by exact hu) g l ⟨_,rfl,nofun,fR h⟩) (F.args_tuple_eq_2 _ _)) (by ext))
theorem Qn{n:Nat}{ks:List Int}{a:ak}{Q:Bool->am->Prop}(l:Cd (iA prog w) s.heap ks a)(h:Q true s):aF (aW prog w) A (pG (n+1) (.ref a)) Q E s:=by
 have q:=l.typeIs;obtain⟨o,items,n,B,_,hd,C⟩:=l;unfold pG;refine aa (gX q nO.lookup ?_)
 show aF _ _ (Ce (.ref a) (.type "tuple") >>= _) _ _ s;refine aa (c9 q oR ?_);simp only[fq,aT,if_false];refine aa (cN B hd ?_);refine aa ?_
 show aF _ _ (forIn items _ _) _ _ s;rw[<- oQ];refine nE _ (λrest r c=>r.1=none/\c=s/\∀v∈rest,carriedByValue v=true) _ ?_ ?_ _ _ ⟨rfl,rfl,C.byValue⟩
 ·rintro v rest r c ⟨hr,rfl,hall⟩
  rw[C3 _ (hall v bO)];refine aa (ai ?_);simp only[fq,aT,if_false];exact ai ⟨rfl,rfl,λu g=>hall u (br _ g)⟩
 ·rintro ⟨r1,r2⟩ c ⟨hr,rfl,_⟩
  simp only at hr;subst hr;exact ai h
theorem Vx{n:Nat}{k:KI}{v:ab}{Q:Bool->am->Prop}(c:vz prog w s.heap k v)(h:Q true s):aF (aW prog w) A (pG (n+1) v) Q E s:=by
 cases c with
 |one i t=>rw[C3 _ (show carriedByValue (d6 i t)=true from rfl)];exact ai h
 |row c=>exact Qn c h
theorem T2{ks:List KI}{a:ak}{Q:Bool->am->Prop}(g:eE prog w s.heap ks a)(h:Q true s):aF (aW prog w) A (pG 8 (.ref a)) Q E s:=by
 have l:=g.typeIs;obtain⟨o,items,n,q,_,hd,u⟩:=g;unfold pG;refine aa (gX l nO.lookup ?_)
 show aF _ _ (Ce (.ref a) (.type "tuple") >>= _) _ _ s;refine aa (c9 l oR ?_);simp only[fq,aT,if_false];refine aa (cN q hd ?_);refine aa ?_
 show aF _ _ (forIn items _ _) _ _ s;rw[<- oQ];refine nE _ (λrest r c=>r.1=none/\c=s/\∃left,nw prog w s.heap left rest) _ ?_ ?_ _ _ ⟨rfl,rfl,ks,u⟩
 ·rintro v rest r c ⟨hr,rfl,left,hall⟩
  cases hall with
  |cons h1 hl=>
   refine aa (Vx (n:=6) h1 ?_);simp only[fq,aT,if_false];exact ai ⟨rfl,rfl,_,hl⟩
 ·rintro ⟨r1,r2⟩ c ⟨hr,rfl,_⟩
  simp only at hr;subst hr;exact ai h
end
def tH(prog:Program)(w:bD):uu prog w (List KI) where
 is:=eE prog w
 hash:=oH
 draws:=λks=>iw ks+1
 room:=λA=>A.units+1 < cL
 inj:=λg c=>g.inj c
 keeps:=λx q hd o=>x.keeps q hd o
 pyHash:=λhu l h=>YZ hu l h
 eqBool:=λhu g c h=>YG hu g c h
 quiet:=λl h=>T2 l h
end MM
namespace MM
open PySem PyProof.Rows
noncomputable def rf(h:bw)(d:ak)(n:Nat):Prop:=∃o c,h.get? d=some o/\o.data=.dict c n
section
variable{prog:Program}{w:bD}{K:Type}[DecidableEq K]{knd:uu prog w K}{A:bz}{E:ab->am->Prop}{s:am}{d a:ak}{k:K}{xs:List (K×ak×ab)}
theorem U0{v:ab}{Q:Unit->am->Prop}(hu:knd.room A)(l:knd.is s.heap k a)(hm:s.heap.DictOfH knd d xs)(hp:rf s.heap d xs.length)(hsz:xs.length<=sizeLine)
  (h:∀h',h'.DictOfH knd d (k7 xs k a v)->rf h' d (k7 xs k a v).length->c7 d s.heap h'->Q () { s with heap:=h',toks:=s.toks+knd.draws k }):
  aF (aW prog w) A (dictSet d (.ref a) v) Q E s:=by
 obtain⟨o,es,ep,g,hc,hd,L,B,I⟩:=id hm;obtain⟨o',es',C,O⟩:=hp;rw[g]at C;cases C;rw[hd]at O;cases O;unfold dictSet;refine bZ (aa (knd.pyHash hu l ?_));unfold dictSetHashed;refine bZ (aa (Ar (s:={ s with toks:=s.toks+knd.draws k }) hu l g hd L B I (λH=>?_) λj p J=>?_))
 ·have G:k∉xs.map (·.1):=As H;have e0:=C4 H;have u:=storedH_new (a:=a) (v:=v) e0;have o:=lG L;refine aa (gM (zM (hz:=by ext) (s:={ s with toks:=s.toks+knd.draws k }) g hd
   (h _ ⟨_,_,_,bG _ g (fX (dO hd _)),hc.mapDictKeys _,dO hd _,?_,?_,?_⟩ ?_ (bx ..))))
  ·rw[u];simp[L,n5]
  ·rw[u];intro x c;rcases aU.mp c with c|c
   ·exact knd.keeps (B x c) g hd (bx ..)
   ·cases aC.mp c;exact knd.keeps l g hd (bx ..)
  ·rw[u,bq,d8];refine⟨I,by simp,λx c y U=>?_⟩;cases aC.mp U;exact λe=>G ((show x=k from e) ▸ c)
  ·rw[u,aN];exact⟨_,_,bG _ g (fX (dO hd _)),dO hd _⟩
 ·have e0:=atKey_of_get I J;have u:=storedH_old e0 a v;have G:j < es.size:=by rw[lG L];exact (ae.mp J).1
  have Y:(es.modify j λe=>{ hash:=e.hash,key:=e.key,val:=v }).toList=(xs.map (sT k v)).map (n5 knd):=by
   apply e8;intro i;rw[eK,Array.getElem?_modify,ao,ao];have o:es[i]?=(xs[i]?).map (n5 knd):=by rw[<- eK,L,ao]
   rw[o];by_cases z:j=i
   ·subst z;rw[aJ rfl,J];simp[sT,n5]
   ·rw[aG z];cases c:xs[i]? with
    |none=>rfl
    |some x=>
     have l:x.1≠k:=λq=>by
      have E:(xs.map (·.1))[i]?=some k:=by rw[ao,c,<- q];rfl
      have C:(xs.map (·.1))[j]?=some k:=by rw[ao,J];rfl
      exact z ((lO (by rw[af];exact (ae.mp J).1) I).mp (C.trans E.symm))
     simp[sT,l]
  refine aa (gM (aa (wpAny_updateDict (s:={ s with toks:=s.toks+knd.draws k }) g hd (wpAny_point
   (h _ ⟨_,_,_,bG _ g (fX (mF hd _)),hc.mapDict _,mF hd _,?_,?_,?_⟩ ?_ (bx ..))))))
  ·rw[u];exact Y
  ·rw[u];intro x c;obtain⟨y,U,e⟩:=bR.mp c;have q:=knd.keeps (B y U) g hd (bx s.heap d (Obj.mapDict λx=>x.modify j λe=>{ hash:=e.hash,key:=e.key,val:=v }));rw[<- e];unfold sT;split
   ·exact q
   ·exact q
  ·rw[u,hU];have:(xs.map ((λx=>x.1)∘sT k v))=xs.map (·.1):=fT λx _=>by show (sT k v x).1=x.1;unfold sT;split<;>rfl
   rw[this];exact I
  ·rw[u,af];exact⟨_,_,bG _ g (fX (mF hd _)),mF hd _⟩
theorem Yg{v:ab}{Q:Unit->am->Prop}(hu:knd.room A.in1)(c:knd.is s.heap k a)(g:s.heap.DictOfH knd d xs)(l:rf s.heap d xs.length)(hsz:xs.length<=sizeLine)
  (h:∀h',h'.DictOfH knd d (k7 xs k a v)->rf h' d (k7 xs k a v).length->c7 d s.heap h'->Q () { s with heap:=h',toks:=s.toks+knd.draws k }):
  aF (aW prog w) A (rA (.ref d) (.ref a) v) Q E s:=by
 have T:=g.typeIs;unfold rA;refine bZ (aa (CZ T (by decide) (aa (bN T xH (bX xH T F.entry_dict_setitem ?_ (F.args_dict_setitem_3 _ _ _))))));unfold Builtin.«dict.__setitem__»;refine aa (oT T ?_);rw[aG (by simp)]
 show aF _ _ (dictSet d (.ref a) v >>= _) _ _ s;refine aa (U0 hu c g l hsz λh' u q o=>ai ⟨_,rfl,ai (h h' u q o)⟩)
end
end MM
namespace MM
open PySem
inductive D where
 |non|bl (b:Bool)|int (i:Int)|str (x:Str)|tup (ds:List D)|lit (ds:List D)|ref (n:Nat)|dic (n:Nat)|exn (x:Str) (ds:List D)|fn (n:Nat)
inductive FCode where
 |lam (e:rF)|dfn (s:PySem.Stmt)
inductive MO where
 |lst (ds:List D)|dct (b:Bool) (a4:List (D×D))|lam (e:rF)|tbl (x w:Str)|dcf (a4:List (D×D))|clo (c:FCode) (vs:List D)|ded
noncomputable abbrev aX:=List MO
noncomputable abbrev Xs:=D
inductive Rs(α:Type) where
 |ok (a:α) (s:aX)|exc (x:Xs) (s:aX)|bad
def M(α:Type):=aX->Rs α
section
variable{α β:Type}
noncomputable def ret(a:α):M α:=λs=>.ok a s
noncomputable def bnd(m:M α)(f:α->M β):M β:=λs=>match m s with
 | .ok a s'=>f a s'
 | .exc x s'=>.exc x s'
 | .bad=>.bad
noncomputable def bad:M α:=λ_=>.bad
@[irreducible] def chk(c:Prop)[Decidable c](m:M α):M α:=if c then m else bad
end
noncomputable abbrev Loc:=List (Option D)
abbrev CE:=Loc->M D
abbrev CT:=Loc->M Bool
abbrev CA:=Loc->M (List D)
inductive vD where
 |next (l:Loc)|ret (d:D)|brk (l:Loc)|cnt (l:Loc)
abbrev CS:=Loc->M vD
noncomputable def dN:Nat:=2^24
noncomputable def alloc(o:MO):M D:=λs=>.ok (.ref s.length) (s++[o])
def getL(n:Nat):M (List D):=λs=>match s[n]? with
 |some (.lst ds)=>.ok ds s
 |_=>.bad
def putL(n:Nat)(ds:List D):M Unit:=λs=>match s[n]? with
 |some (.lst _)=>.ok () (s.set n (.lst ds))
 |_=>.bad
def getDc(n:Nat):M (Bool×List (D×D)):=λs=>match s[n]? with
 |some (.dct b a4)=>.ok (b,a4) s
 |_=>.bad
def rM(n:Nat)(b:Bool)(g:List (D×D)):M Unit:=λs=>match s[n]? with
 |some (.dct c _)=>if b=c then .ok () (s.set n (.dct b g)) else .bad
 |_=>.bad
mutual
noncomputable def gH:D->D->Bool
 | .int i,.int j=>decide (i=j)
 | .str x,.str y=>decide (x=y)
 | .tup xs,.tup ys=>gI xs ys
 |_,_=>false
noncomputable def gI:List D->List D->Bool
 |[],[]=>true
 |x::xs,y::ys=>gH x y&&gI xs ys
 |_,_=>false
end
noncomputable def iG:List D->Option (List Int)
 |[]=>some []
 | .int i::ds=>(iG ds).map (i::·)
 |_=>none
def iJ:List D->Option (List (Int ⊕ List Int))
 |[]=>some []
 | .tup xs::ds=>match iG xs,iJ ds with
  |some r,some rs=>some (.inr r::rs)
  |_,_=>none
 | .int i::ds=>(iJ ds).map (.inl i::·)
 |_=>none
def stK:D->Option (List (Int ⊕ List Int))
 | .tup ds=>iJ ds
 |_=>none
def oV:Bool->D->Bool
 |false,.int _=>true
 |false,.str _=>true
 |true,d=>(stK d).isSome
 |_,_=>false
def kJ(c:List (D×D))(k:D):Option D:=(c.find? λp=>gH p.1 k).map (·.2)
def ke(c:List (D×D))(k v:D):List (D×D):=if (c.any λp=>gH p.1 k)=true then c.map λp=>if gH p.1 k=true then (p.1,v) else p else c++[(k,v)]
def yT(c more:List (D×D)):List (D×D):=more.foldl (λg p=>ke g p.1 p.2) c
def itemK(n:Nat)(k:D):M D:=bnd (getDc n) λp=>chk (oV p.1 k=true) (match kJ p.2 k with
 |some d=>ret d
 |none=>bad)
def storeK(n:Nat)(k v:D):M Unit:=bnd (getDc n) λp=>chk (oV p.1 k=true/\p.2.length < dN) (rM n p.1 (ke p.2 k v))
def hasK(n:Nat)(k:D):M Bool:=bnd (getDc n) λp=>chk (oV p.1 k=true) (ret (kJ p.2 k).isSome)
def wg:D->M (List D)
 | .tup ds=>ret ds
 | .lit ds=>ret ds
 | .ref n=>getL n
 |_=>bad
noncomputable def pY(n:Nat)(i:Int):Option Nat:=if 0<=i then (if i < n then some i.toNat else none) else (if -(n:Int)<=i then some (i+n).toNat else none)
def c8:D->D->M D
 | .int i,.int j=>ret (.int (i+j))
 | .str x,.str y=>chk (x.length+y.length<=dN) (ret (.str (x++y)))
 | .tup x,.tup y=>chk (x.length+y.length<=dN) (ret (.tup (x++y)))
 | .ref a,.ref b=>bnd (getL a) λx=>bnd (getL b) λy=>chk (x.length+y.length<=dN) (alloc (.lst (x++y)))
 |_,_=>bad
def sj(f:Int->Int->M D):D->D->M D
 | .int i,.int j=>f i j
 |_,_=>bad
theorem wR(f:Int->Int->M D)(d e:D):(∃i j,d=.int i/\e=.int j)\/sj f d e=bad:=by
 cases d<;>first|exact .inr rfl|skip
 cases e<;>first|exact .inr rfl|exact .inl ⟨_,_,rfl,rfl⟩
def n0:D->D->M D:=sj λi j=>ret (.int (i-j))
noncomputable def qA(i j:Int):Prop:=(-(2^64) < i/\i < 2^64)\/(-(2^64) < j/\j < 2^64)
instance(i j:Int):Decidable (qA i j):=by unfold qA;infer_instance
def qG:D->D->M D:=sj λi j=>chk (qA i j) (ret (.int (i*j)))
def tL:D->D->M D:=sj λi j=>chk (0 < j/\j < 1073741824) (ret (.int (i / j)))
def pe:D->D->M D:=sj λi j=>chk (0 < j) (ret (.int (i % j)))
def wU:D->D->M D:=sj λi j=>chk (0<=j/\j<=1000000/\i.natAbs < 2^64) (ret (.int (i^j.toNat)))
def Xk:D->M D
 | .int i=>ret (.int (-i))
 |_=>bad
def AY(p:Int->Int->Bool):D->D->M D:=sj λi j=>ret (.bl (p i j))
def zx:=AY λi j=>decide (i < j)
def CL:=AY λi j=>decide (j < i)
def G0:=AY λi j=>decide (j<=i)
noncomputable def kK(f:D->D->Option Bool):List D->List D->Option Bool
 |[],[]=>some true
 |x::xs,y::ys=>match f x y with
  |some true=>kK f xs ys
  |some false=>(kK f xs ys).map λ_=>false
  |none=>none
 |_::_,[]=>some false
 |[],_::_=>some false
noncomputable def G4(g:List D->List D->Option Bool):D->D->Option Bool
 | .non,.non=>some true
 | .non,.int _=>some false
 | .non,.tup _=>some false
 | .bl a,.bl b=>some (a == b)
 | .int _,.non=>some false
 | .int a,.int b=>some (a == b)
 | .int _,.tup _=>some false
 | .str a,.str b=>some (a == b)
 | .tup _,.non=>some false
 | .tup _,.int _=>some false
 | .tup xs,.tup ys=>g xs ys
 |_,_=>none
def rZ:Nat->D->D->Option Bool
 |0,d,e=>G4 (λ_ _=>none) d e
 |n+1,d,e=>G4 (kK (rZ n)) d e
def EG(d e:D):M Bool:=match d,e with
 | .ref a,.ref b=>bnd (getL a) λx=>bnd (getL b) λy=>match (if x.length=y.length then kK (rZ 50) x y else some false) with
  |some r=>ret r
  |none=>bad
 | .ref a,.non=>bnd (getL a) λ_=>ret false
 | .non,.ref a=>bnd (getL a) λ_=>ret false
 |d,e=>match rZ 50 d e with
  |some r=>ret r
  |none=>bad
def on(d e:D):M D:=bnd (EG d e) λb=>ret (.bl b)
def FG(d e:D):M D:=bnd (EG d e) λb=>ret (.bl !b)
def Dk:D->M D
 | .non=>ret (.bl true)
 |_=>ret (.bl false)
def Ez:D->M D
 | .non=>ret (.bl false)
 |_=>ret (.bl true)
def c6(ds:List D)(i:Int):M D:=match pY ds.length i with
 |some k=>match ds[k]? with
  |some d=>ret d
  |none=>bad
 |none=>bad
def aQ:D->D->M D
 | .tup ds,.int i=>c6 ds i
 | .lit ds,.int i=>c6 ds i
 | .ref n,.int i=>bnd (getL n) λds=>c6 ds i
 | .dic n,k=>itemK n k
 | .str x,.int i=>chk (x.length<=dN) (match pY x.length i with
  |some k=>match x.cps.toList[k]? with
   |some c=>ret (.str ⟨#[c]⟩)
   |none=>bad
  |none=>bad)
 |_,_=>bad
def zt:D->M Bool
 | .non=>ret false
 | .bl b=>ret b
 | .int i=>ret (i != 0)
 | .str x=>chk (x.length<=dN) (ret ((x.length:Int) != 0))
 | .tup ds=>ret (!ds.isEmpty)
 | .lit ds=>ret (!ds.isEmpty)
 | .ref n=>bnd (getL n) λds=>ret (!ds.isEmpty)
 | .dic _=>bad
 | .exn _ _=>bad
 | .fn _=>bad
def al(i:Nat):CE:=λl=>match l[i]? with
 |some (some d)=>ret d
 |_=>bad
def aw(d:D):CE:=λ_=>ret d
def c1(g:D->M D)(a:CE):CE:=λl=>bnd (a l) g
def c2(g:D->D->M D)(a b:CE):CE:=λl=>bnd (a l) λx=>bnd (b l) λy=>g x y
def aH:CA:=λ_=>ret []
def ac(a:CE)(r:CA):CA:=λl=>bnd (a l) λx=>bnd (r l) λxs=>ret (x::xs)
def bo(a:CA):CE:=λl=>bnd (a l) λxs=>chk (xs.length<=dN) (ret (.tup xs))
def KD(f g:D->D->M D)(a b c:CE):CE:=λl=>bnd (a l) λx=>bnd (b l) λy=>bnd (f x y) λz=>match z with
 | .bl true=>bnd (c l) λw=>g y w
 | .bl false=>ret (.bl false)
 |_=>bad
def tj(a b:CE):CE:=λl=>bnd (a l) λx=>match x with
 | .bl true=>b l
 | .bl false=>ret (.bl false)
 |_=>bad
def OE(a b:CE):CE:=λl=>bnd (a l) λx=>match x with
 | .bl true=>ret (.bl true)
 | .bl false=>b l
 |_=>bad
def WC(a:CE):CE:=λl=>bnd (a l) λx=>match x with
 | .bl b=>ret (.bl !b)
 |_=>bad
def wM(t:CT)(a b:CE):CE:=λl=>bnd (t l) λc=>if c=true then a l else b l
def bu(g:List D->M D)(a:CA):CE:=λl=>bnd (a l) g
def sD(a:CE):CT:=λl=>bnd (a l) zt
def dg(a:CE):CT:=λl=>bnd (a l) λx=>match x with
 | .bl b=>ret b
 |_=>bad
def qK(a b:CT):CT:=λl=>bnd (a l) λc=>if c=true then b l else ret false
def wB(a b:CT):CT:=λl=>bnd (a l) λc=>if c=true then ret true else b l
def sX(a:CT):CT:=λl=>bnd (a l) λc=>ret !c
structure Wk where
 ds:List D
 same:aX->Prop
abbrev CI:=Loc->M Wk
open Classical in
def chkS(p:aX->Prop):M Unit:=λs=>if p s then .ok () s else .bad
noncomputable def eU:aX->Prop:=λ_=>True
noncomputable def i9(n:Nat)(ds:List D):aX->Prop:=λs=>s[n]?=some (.lst ds)
def ic(a:CE):CI:=λl=>bnd (a l) λx=>match x with
 | .tup ds=>ret ⟨ds,eU⟩
 | .lit ds=>ret ⟨ds,eU⟩
 | .ref n=>bnd (getL n) λds=>ret ⟨ds,i9 n ds⟩
 |_=>bad
noncomputable def km(lo:Int)(n:Nat):List D:=(bU n).map λk=>.int (lo+(k:Nat))
def fm(a:CE):CI:=λl=>bnd (a l) λx=>match x with
 | .int j=>chk (-(2^62)<=j/\j < 2^62) (ret ⟨km 0 j.toNat,eU⟩)
 |_=>bad
def wF(a:CA):CI:=λl=>bnd (a l) λds=>ret ⟨ds,eU⟩
def tF(a:CE):CI:=λl=>bnd (a l) λx=>match x with
 | .tup ds=>ret ⟨(km 0 ds.length).zipWith (λi d=>.tup [i,d]) ds,eU⟩
 |_=>bad
abbrev CG:=D->Loc->M Loc
def aO(i:Nat):CG:=λd l=>ret (l.set i (some d))
def ib:List D->Loc->M Loc
 |[],l=>ret l
 |_,_=>bad
def cA(g:CG)(r:List D->Loc->M Loc):List D->Loc->M Loc
 |d::ds,l=>bnd (g d l) λc=>r ds c
 |_,_=>bad
def gZ(n:Nat)(r:List D->Loc->M Loc):CG:=λd l=>match d with
 | .tup ds=>chk (ds.length=n) (r ds l)
 |_=>bad
noncomputable def fZ(n:Nat)(caps:List Nat)(l:Loc):Loc:=az n none++caps.map λi=>(l[i]?).join
def collect(g:CG)(t:CT)(e:CE)(same:aX->Prop):List D->Loc->M (List D)
 |[],_=>bnd (chkS same) λ_=>ret []
 |d::ds,l=>bnd (chkS same) λ_=>bnd (g d l) λc=>bnd (t c) λb=>if b=true then bnd (e c) λx=>bnd (collect g t e same ds c) λxs=>ret (x::xs) else collect g t e same ds c
def dF(n:Nat)(caps:List Nat)(i:CI)(g:CG)(t:CT)(e:CE):CA:=λl=>bnd (i l) λw=>chk (w.ds.length<=dN) (collect g t e w.same w.ds (fZ n caps l))
noncomputable def gB(n d:Nat):Option Int->Nat
 |none=>d
 |some v=>if v < 0 then (v+(n:Int)).toNat else min v.toNat n
def cutD(xs:List D)(lo c:Option Int):List D:=(xs.drop (gB xs.length 0 lo)).take (gB xs.length xs.length c-gB xs.length 0 lo)
abbrev CO:=Loc->M (Option Int)
def gY:CO:=λ_=>ret none
def gc(a:CE):CO:=λl=>bnd (a l) λx=>match x with
 | .int i=>ret (some i)
 |_=>bad
def qC(a:CE)(lo c:CO):CA:=λl=>bnd (a l) λx=>bnd (lo l) λi=>bnd (c l) λj=>match x with
 | .lit ds=>ret (cutD ds i j)
 | .ref n=>bnd (getL n) λds=>ret (cutD ds i j)
 |_=>bad
def dP(a:CE)(lo c:CO):CE:=λl=>bnd (a l) λx=>bnd (lo l) λi=>bnd (c l) λj=>match x with
 | .tup ds=>chk (¬(gB ds.length 0 i=0/\gB ds.length ds.length j=ds.length)) (ret (.tup (cutD ds i j)))
 |_=>bad
def cz:CT:=λ_=>ret true
def cY(a:CA):CE:=λl=>bnd (a l) λds=>alloc (.lst ds)
def eV(a:CA):CA:=λl=>bnd (a l) λxs=>chk (xs.length<=dN) (ret xs)
def kF(a:CA)(b:CE):CE:=λl=>bnd (a l) λds=>bnd (b l) λi=>match i with
 | .int k=>c6 ds k
 |_=>bad
def iQ(g:List D->M D)(a:CA):CE:=λl=>bnd (a l) g
def aY:CS:=λl=>ret (.next l)
def aK(a b:CS):CS:=λl=>bnd (a l) λf=>match f with
 | .next l'=>b l'
 |f=>ret f
def bB(g:CG)(a:CE):CS:=λl=>bnd (a l) λd=>bnd (g d l) λc=>ret (.next c)
def dw(a:CE):CS:=λl=>bnd (a l) λd=>ret (.ret d)
def lD(a:CE):CS:=λl=>bnd (a l) λ_=>ret (.next l)
def om(t:CT)(a b:CS):CS:=λl=>bnd (t l) λc=>if c=true then a l else b l
def A8:CS:=λ_=>bad
def o7(g:CG)(b:CS)(same:aX->Prop):List D->CS
 |[],l=>bnd (chkS same) λ_=>ret (.next l)
 |d::ds,l=>bnd (chkS same) λ_=>bnd (g d l) λc=>bnd (b c) λf=>match f with
  | .next l2=>o7 g b same ds l2
  | .cnt l2=>o7 g b same ds l2
  | .brk l2=>ret (.next l2)
  | .ret d=>ret (.ret d)
def kC(i:CI)(g:CG)(b:CS):CS:=λl=>bnd (i l) λw=>o7 g b w.same w.ds l
def wE:vD->M D
 | .ret d=>ret d
 | .next _=>ret .non
 |_=>bad
def bJ(n:Nat)(c:CS)(ds:List D):M D:=bnd (c (ds.map some++az (n-ds.length) none)) wE
def mO(o i v:D):M Unit:=match o,i with
 | .ref n,.int k=>bnd (getL n) λds=>match pY ds.length k with
  |some j=>putL n (ds.set j v)
  |none=>bad
 | .dic n,k=>storeK n k v
 |_,_=>bad
def kz(o i:CE):CG:=λv l=>bnd (o l) λy=>bnd (i l) λz=>bnd (mO y z v) λ_=>ret l
def ge:D->M D
 | .tup ds=>ret (.int ds.length)
 | .lit ds=>ret (.int ds.length)
 | .ref n=>bnd (getL n) λds=>ret (.int ds.length)
 | .str x=>chk (x.length<=dN) (ret (.int x.length))
 | .dic n=>bnd (getDc n) λp=>ret (.int p.2.length)
 |_=>bad
def uI(n:Nat)(v:D):M D:=bnd (getL n) λds=>chk (ds.length < dN) (bnd (putL n (ds++[v])) λ_=>ret .non)
def fu(a b:CE):CE:=λl=>bnd (a l) λx=>match x with
 | .ref n=>bnd (b l) λv=>uI n v
 |_=>bad
def intD:D->M D
 | .int i=>ret (.int i)
 | .bl b=>ret (.int (if b then 1 else 0))
 |_=>bad
def tupleD:D->M D
 | .tup ds=>ret (.tup ds)
 | .lit ds=>ret (.tup ds)
 | .ref n=>bnd (getL n) λds=>ret (.tup ds)
 |_=>bad
noncomputable def tm:D->Option (List String)
 | .non=>some ["NoneType"]
 | .bl _=>some ["bool","int"]
 | .int _=>some ["int"]
 | .str _=>some ["str"]
 | .tup _=>some ["tuple"]
 | .lit _=>some ["list"]
 | .ref _=>some ["list"]
 |_=>none
noncomputable def mq:List D->Option (List Int)
 |[]=>some []
 | .int i::ds=>(mq ds).map (i::·)
 |_=>none
noncomputable def kN:List D->Option (List Bool)
 |[]=>some []
 | .bl b::ds=>(kN ds).map (b::·)
 |_=>none
def tG(ds:List D):M D:=match mq ds with
 |some (n::ns)=>ret (.int (ns.foldl max n))
 |_=>bad
def A9(ds:List D):M D:=match mq ds with
 |some (n::ns)=>ret (.int (ns.foldl min n))
 |_=>bad
def tK(ds:List D):M D:=match kN ds with
 |some bs=>ret (.bl (bs.any id))
 |_=>bad
def lI(ds:List D):M D:=ret (.tup ds)
def kj(c:List String)(d:D):M D:=match tm d with
 |some us=>ret (.bl (c.any λt=>us.contains t))
 |none=>bad
def va:D->D->M D
 | .bl a,.bl b=>ret (.bl (a == b))
 |x,.non=>Dk x
 |_,_=>bad
def lw:D->D->M D
 | .bl a,.bl b=>ret (.bl !(a == b))
 |x,.non=>Ez x
 |_,_=>bad
noncomputable def lJ:D->Bool
 | .non=>true
 | .bl _=>true
 | .int _=>true
 | .str _=>true
 |_=>false
noncomputable def ra:D->D->Bool
 | .non,.non=>true
 | .bl a,.bl b=>a == b
 | .bl a,.int b=>(if a then 1 else 0) == b
 | .int a,.bl b=>a == (if b then 1 else 0)
 | .int a,.int b=>a == b
 | .str a,.str b=>a == b
 |_,_=>false
def A1(x:D)(ds:List D):M D:=chk (lJ x=true/\ds.all lJ=true) (ret (.bl (ds.any λd=>ra d x)))
def vx(x:D)(ds:List D):M D:=chk (lJ x=true/\ds.all lJ=true) (ret (.bl !(ds.any λd=>ra d x)))
def Ei(x y:D):M D:=match y with
 | .dic n=>bnd (hasK n x) λb=>ret (.bl b)
 |y=>bnd (wg y) (A1 x)
def oI(x y:D):M D:=match y with
 | .dic n=>bnd (hasK n x) λb=>ret (.bl !b)
 |y=>bnd (wg y) (vx x)
noncomputable def su(b:Bool)(c:List (D×D)):M D:=λs=>.ok (.dic s.length) (s++[.dct b c])
def qL(b:Bool):CE:=λ_=>su b []
def tf(ks:List D)(vs:CA):CE:=λl=>bnd (vs l) λxs=>chk (ks.length=xs.length) (su false (yT [] (ks.zip xs)))
def qI(a:CA)(b:CE):CA:=λl=>bnd (a l) λxs=>bnd (b l) λk=>match k with
 | .int k=>chk ((-(2^63)<=k/\k < 2^63)/\xs.length*k.toNat<=dN) (ret (az k.toNat xs).flatten)
 |_=>bad
def wo(a:CA):CA:=λl=>bnd (a l) λds=>ret ds.reverse
def rY:D->D->M D:=sj λi j=>ret (.int (max i j))
def rL(d:D):M D:=bnd (wg d) λds=>alloc (.lst ds)
def wN(a:CE):CE:=λl=>bnd (a l) λx=>match x with
 | .ref n=>bnd (getL n) λds=>match ds.getLast? with
  |some d=>bnd (putL n ds.dropLast) λ_=>ret d
  |none=>bad
 |_=>bad
def eY(t:CT)(b:CS):Nat->CS
 |0=>λ_=>bad
 |n+1 => λl => bnd (t l) λc => if c = true then bnd (b l) λf => match f with
   | .next l2=>eY t b n l2
   | .cnt l2=>eY t b n l2
   | .brk l2=>ret (.next l2)
   | .ret d=>ret (.ret d) else ret (.next l)
open Classical in
def kL(t:CT)(b:CS):CS:=λl s=>if h:∃n,(∀r,eY t b n l s=r->r≠.bad) then eY t b (choose h) l s else .bad
end MM
namespace MM
open PySem PySem.Spec PyProof.Rows L2
abbrev St:=L2.St
def xC(K:ag)(H:Hp)(a:ak)(xs:List V):Prop:=
 (∃o,H a=some (.frz o (.lst xs))) \/
  ∃(o:Obj)(its:Array ab)(n:Nat),K.lookup a=some o/\o.cls=.type "list"/\o.dict=none/\o.data=.seq its n/\its.size<=sizeLine/\bQ xs its.toList
theorem xC.seq{K:ag}{H:Hp}{a:ak}{xs:List V}(h:xC K H a xs):g8 K H a xs:=by
 rcases h with ⟨o,h⟩|h
 ·exact .inl (.inr ⟨o,h⟩)
 ·exact .inr h
noncomputable def kO:HO->Nat
 | .lst _=>0
 | .dK _=>1
 | .ext _=>2
 | .tbl _=>4
 |_=>3
abbrev NK:=List KI
def nH(k:NK):Int:=oH k
def DV(x:NK×ak×ab):nD:=⟨nH x.1,.ref x.2.1,x.2.2⟩
def RJ(a:ak)(g:List (NK×ak×V))(h:bw):Prop:=g.length<=sizeLine/\(a == dA)=false/\∃xs:List (NK×ak×ab),cW (λ(p:NK×ak×V)(q:NK×ak×ab)=>p.1=q.1/\p.2.1=q.2.1/\RelV p.2.2 q.2.2) g xs /\
 ∃o c ep,h.get? a=some o/\o.ExactDict/\o.data=.dict c ep/\c.toList=xs.map DV/\(xs.map (·.1)).Nodup/\ep=xs.length
def rg(a:ak)(c:List (NK×ak×V)):HO:=.ext (RJ a c)
def X0(a:ak)(g:List (NK×ak×V))(h:bw):Prop:=g.length<=sizeLine/\(a == dA)=false/\∃xs:List (NK×ak×ab),cW (λ(p:NK×ak×V)(q:NK×ak×ab)=>p.1=q.1/\p.2.1=q.2.1/\RelV p.2.2 q.2.2) g xs /\
 ∃o c ep,h.get? a=some o/\o.ExactDict/\o.data=.dict c ep/\c.toList=xs.map DV/\(xs.map (·.1)).Nodup
def PY(a:ak)(c:List (NK×ak×V)):HO:=.ext (X0 a c)
noncomputable def Eb(r:List Int):D:=.tup (r.map .int)
def vE:KI->D
 | .inl i=>.int i
 | .inr r=>Eb r
def sB(k:NK):D:=.tup (k.map vE)
def mW:Key->D
 | .inl i=>.int i
 | .inr x=>.str x
noncomputable def EW(x:Str)(vs:Array ab):Prop:=x=aq "NoText"\/vs[2]?=some cJ
mutual
inductive c_(K:ag)(ρ:List ak)(H:Hp):V->D->Prop
 |non:c_ K ρ H .non .non
 |bl (b:Bool):c_ K ρ H (.bl b) (.bl b)
 |int (i:Int):c_ K ρ H (.int i) (.int i)
 |str (x:Str):c_ K ρ H (.str x) (.str x)
 |tup {a:ak}{vs:List V}{ds:List D} (h:lx K H a vs) (r:bA K ρ H vs ds):c_ K ρ H (.ref a) (.tup ds)
 |lit {a:ak}{vs:List V}{ds:List D} (h:xC K H a vs) (r:bA K ρ H vs ds):c_ K ρ H (.ref a) (.lit ds)
 |ref {a:ak}{n:Nat} (k:∃o,H a=some o/\kO o=0) (h:ρ[n]?=some a):c_ K ρ H (.ref a) (.ref n)
 |dic {a:ak}{n:Nat} (k:∃o,H a=some o/\(kO o=1\/kO o=2)) (h:ρ[n]?=some a):c_ K ρ H (.ref a) (.dic n)
 |exn0 {a C:ak}{x:Str} (g:fE K cq x=some (some (.ref C))) (h:∃o,H a=some (.frz o (.own a))/\o.cls=.ref C):c_ K ρ H (.ref a) (.exn x [])
 |exn {a C dx:ak}{x f:Str}{v:V}{d:D} (g:fE K cq x=some (some (.ref C))) (h:∃o,H a=some (.frz o (.own a))/\o.cls=.ref C/\o.dict=some dx/\∃vs,o.data=.fields vs/\EW x vs) (h2:H dx=some (.xd [(f,v)])) (r:c_ K ρ H v d):c_ K ρ H (.ref a) (.exn x [.str f,d])
 |fn {a:ak}{n:Nat} (h:ρ[n]?=some a):c_ K ρ H (.ref a) (.fn n)
inductive bA(K:ag)(ρ:List ak)(H:Hp):List V->List D->Prop
 |nil:bA K ρ H [] []
 |cons {v:V}{d:D}{vs:List V}{ds:List D} (r:c_ K ρ H v d) (t:bA K ρ H vs ds):bA K ρ H (v::vs) (d::ds)
end
def Ly(K:ag)(ρ:List ak)(H:Hp)(v:V):D->Prop
 | .non=>v=.non
 | .bl b=>v=.bl b
 | .int i=>v=.int i
 | .str x=>v=.str x
 | .tup ds=>∃a vs,v=.ref a/\lx K H a vs/\bA K ρ H vs ds
 | .lit ds=>∃a vs,v=.ref a/\xC K H a vs/\bA K ρ H vs ds
 | .ref n=>∃a,v=.ref a/\(∃o,H a=some o/\kO o=0)/\ρ[n]?=some a
 | .dic n=>∃a,v=.ref a/\(∃o,H a=some o/\(kO o=1\/kO o=2))/\ρ[n]?=some a
 | .fn n=>∃a,v=.ref a/\ρ[n]?=some a
 |_=>True
theorem c_.inv{K:ag}{ρ:List ak}{H:Hp}{v:V}{d:D}(r:c_ K ρ H v d):Ly K ρ H v d:=by
 cases r with
 |non=>rfl
 |bl=>rfl
 |int=>rfl
 |str=>rfl
 |tup h q=>exact⟨_,_,rfl,h,q⟩
 |lit h q=>exact⟨_,_,rfl,h,q⟩
 |ref k h=>exact⟨_,rfl,k,h⟩
 |dic k h=>exact⟨_,rfl,k,h⟩
 |exn0=>trivial
 |exn=>trivial
 |fn h=>exact⟨_,rfl,h⟩
noncomputable def oG(H:Hp)(c:ak)(q:Str):Prop:=∃g vs t,H c=some (.frz g (.frz g (.own c)))/\g.data=.fields vs/\vs[1]?=some (.str q t)
def Ic(H:Hp)(a:ak)(e:Expr):Prop:=∃ps b sc p q c g ct,e=.Lambda ps b sc p/\H a=some (.frz (v5 "<lambda>" q ps b sc [] g c ct) (.own a))/\oG H c q
noncomputable def TabOf(K:ag)(x:Str)(a:ak):Prop:=∃f o g c,fE K cq x=some (some (.ref f))/\K.lookup f=some o/\o.data=.func g/\g.code=.ref c/\eL K c a=true
noncomputable def s_(x w:Str):Str:=x++".<locals>."++w
def ID(K:ag)(H:Hp)(a:ak)(x w:Str):Prop:=TabOf K x a/\∃ps,H a=some (.tbl ps)/\nF ps.toList/\∀p v,kR p ps.toList=some v->∃c,v=.ref c/\oG H c (s_ x w)
def rP(K:ag)(ρ:List ak)(H:Hp)(p:Str×ak)(d:D):Prop:=∃o u v,H p.2=some (.frz o (.frz o (.own p.2)))/\o.data=.cell (some u)/\RelV v u/\c_ K ρ H v d
noncomputable def BQ(c:FCode)(l:cV)(q:Str)(o:ak)(cl:List (Str×ak)):Prop:=match c with
 | .lam e=>∃ps b sc p h ct,e=.Lambda ps b sc p/\l=m6 "<lambda>" q ps b sc cl h (.ref o) ct
 | .dfn st=>∃nm ps g ds rt B sc u bd p C h ct,st=.FunctionDef nm ps g ds rt B sc u bd p/\l=PySem.W.fnX nm q ps g sc cl .none .none C h none (.ref o) ct
noncomputable def nZ(names:List (Str×c5)):List Str:=((names.filter λy=>y.2 == .free).map (·.1)).reverse
def Lc(K:ag)(ρ:List ak)(H:Hp)(a:ak)(c:FCode)(vs:List D):Prop:=∃o g q h cl,H a=some (.frz o (.own a))/\o.data=.func g/\BQ c g q h cl/\oG H h q/\((cl.map (·.2)).Nodup/\cl.map (·.1)=nZ g.scope.names)/\cW (rP K ρ H) cl vs
def mB(K:ag)(ρ:List ak)(H:Hp)(a:ak):MO->Prop
 | .lst ds=>∃vs,H a=some (.lst vs)/\bA K ρ H vs ds
 | .dct false a4=>∃g,H a=some (.dK g)/\cW (λ(p:Key×V)(q:D×D)=>mW p.1=q.1/\c_ K ρ H p.2 q.2) g a4
 | .lam e=>Ic H a e
 | .tbl x w=>ID K H a x w
 | .clo c vs=>Lc K ρ H a c vs
 | .ded=>∃o,H a=some (.frz o (.own a))
 | .dcf a4=>∃g,H a=some (PY a g)/\cW (λ(p:NK×ak×V)(q:D×D)=>sB p.1=q.1/\c_ K ρ H (.ref p.2.1) q.1/\c_ K ρ H p.2.2 q.2) g a4
 | .dct true a4=>∃g,H a=some (rg a g)/\cW (λ(p:NK×ak×V)(q:D×D)=>sB p.1=q.1/\c_ K ρ H (.ref p.2.1) q.1/\c_ K ρ H p.2.2 q.2) g a4
structure SR(K:ag)(ρ:List ak)(H:Hp)(st:aX):Prop where
 len:ρ.length=st.length
 nd:ρ.Nodup
 ob:∀(n:Nat)(a:ak)(o:MO),ρ[n]?=some a->st[n]?=some o->mB K ρ H a o
noncomputable def LR(K:ag)(ρ:List ak)(H:Hp)(σ:St)(l:Loc):Prop:=
 σ.length=l.length/\∀(i:Nat)(d:D),l[i]?=some (some d)->∃v,σ[i]?=some (some v)/\c_ K ρ H v d
structure Ex(ρ:List ak)(H:Hp)(ρ':List ak)(H':Hp):Prop where
 pre:∃τ,ρ'=ρ++τ/\∀a∈τ,H a=none
 fix:∀a o,kO o=3->H a=some o->H' a=some o
 oth:∀a o,a∉ρ->H a=some o->H' a=some o
 knd:∀a o,H a=some o->∃o',H' a=some o'/\kO o'=kO o
structure Up(ρ:List ak)(H:Hp)(ρ':List ak)(H':Hp):Prop where
 pre:∃τ,ρ'=ρ++τ
 fix:∀a o,kO o=3->H a=some o->H' a=some o
 knd:∀a o,H a=some o->∃o',H' a=some o'/\kO o'=kO o
section
variable{K:ag}{ρ ρ1 ρ2:List ak}{H H1 H2:Hp}{st a8:aX}{v:V}{d:D}{vs:List V}{ds:List D}{a:ak}
theorem Ex.lst(x:Ex ρ H ρ1 H1)(a:ak)(xs:List V)(c:a∉ρ)(h:H a=some (.lst xs)):H1 a=some (.lst xs):=x.oth a _ c h
theorem Ex.trk(x:Ex ρ H ρ1 H1)(a:ak)(o:HO)(h:H a=some o):H1 a≠none:=by obtain⟨o',e,_⟩:=x.knd a o h;rw[e];exact λz=>nomatch z
theorem Ex.up(x:Ex ρ H ρ1 H1):Up ρ H ρ1 H1:=⟨let ⟨τ,e,_⟩:=x.pre;⟨τ,e⟩,x.fix,x.knd⟩
theorem Up.grow{τ:List ak}:Up ρ H (ρ++τ) H:=⟨⟨τ,rfl⟩,λ_ _ _ e=>e,λ_ o e=>⟨o,e,rfl⟩⟩
theorem Ex.refl:Ex ρ H ρ H:=⟨⟨[],by simp,by simp⟩,λ_ _ _ e=>e,λ_ _ _ e=>e,λ_ o e=>⟨o,e,rfl⟩⟩
theorem Ex.trans(x:Ex ρ H ρ1 H1)(y:Ex ρ1 H1 ρ2 H2):Ex ρ H ρ2 H2:=by
 obtain⟨τ1,rfl,l⟩:=x.pre;obtain⟨τ2,rfl,G⟩:=y.pre;refine⟨⟨τ1++τ2,by simp,λa c=>?_⟩,λa o g e=>y.fix a o g (x.fix a o g e),λa o h e=>?_,λa o e=>?_⟩
 ·rcases aU.mp c with c|c
  ·exact l a c
  ·cases q:H a with
   |none=>rfl
   |some o=>exact ba (G a c) (x.trk a o q)
 ·refine y.oth a o (λz=>?_) (x.oth a o h e);rcases aU.mp z with z|z
  ·exact h z
  ·rw[l a z]at e;cases e
 ·obtain⟨B,J,E⟩:=x.knd a o e;obtain⟨u,I,C⟩:=y.knd a B J;exact⟨u,I,C.trans E⟩
theorem Ex.new{o:HO}(h:H a=none):Ex ρ H ρ (fw H a o):=
 ⟨⟨[],by simp,by simp⟩,λb u _ e=>by rw[fM (pc e h)];exact e,λb u _ e=>by rw[fM (pc e h)];exact e,
  λb u e=>⟨u,by rw[fM (pc e h)];exact e,rfl⟩⟩
theorem Ex.newO{o:HO}(h:H a=none):Ex ρ H (ρ++[a]) (fw H a o):=
 ⟨⟨[a],rfl,λb c=>by rw[aC]at c;rw[c];exact h⟩,(Ex.new (ρ:=ρ) h).fix,(Ex.new (ρ:=ρ) h).oth,(Ex.new (ρ:=ρ) h).knd⟩
theorem Ex.newL{vs:List V}(h:H a=none):Ex ρ H (ρ++[a]) (fw H a (.lst vs)):=Ex.newO h
theorem lx.mono(x:Up ρ H ρ1 H1)(h:lx K H a vs):lx K H1 a vs:=by
 rcases h with h|h
 ·rcases h with h|⟨o,h⟩
  ·exact .inl (.inl (x.fix a _ rfl h))
  ·exact .inl (.inr ⟨o,x.fix a _ rfl h⟩)
 ·exact .inr h
theorem xC.mono(x:Up ρ H ρ1 H1)(h:xC K H a vs):xC K H1 a vs:=by
 rcases h with ⟨o,h⟩|h
 ·exact .inl ⟨o,x.fix a _ rfl h⟩
 ·exact .inr h
theorem xV{α:Type}{l τ:List α}{n:Nat}{a:α}(h:l[n]?=some a):(l++τ)[n]?=some a:=by rw[ar (ae.mp h).1];exact h
mutual
theorem c_.up(x:Up ρ H ρ1 H1):∀{v:V}{d:D},c_ K ρ H v d->c_ K ρ1 H1 v d
 |_,_,.non=>.non
 |_,_,.bl b=>.bl b
 |_,_,.int i=>.int i
 |_,_,.str y=>.str y
 |_,_,.tup h r=>.tup (lx.mono x h) (bA.up x r)
 |_,_,.lit h r=>.lit (xC.mono x h) (bA.up x r)
 |_,_,.ref ⟨o,ho,hk⟩ h=>by obtain⟨τ,e⟩:=x.pre;obtain⟨o',c,l⟩:=x.knd _ o ho;exact .ref ⟨o',c,l.trans hk⟩ (by rw[e];exact xV h)
 |_,_,.dic ⟨o,ho,hk⟩ h=>by obtain⟨τ,e⟩:=x.pre;obtain⟨o',c,l⟩:=x.knd _ o ho;exact .dic ⟨o',c,by rw[l];exact hk⟩ (by rw[e];exact xV h)
 |_,_,.fn h=>by obtain⟨τ,e⟩:=x.pre;exact .fn (by rw[e];exact xV h)
 |_,_,.exn0 g ⟨o,ho,hc⟩=>.exn0 g ⟨o,x.fix _ _ rfl ho,hc⟩
 |_,_,.exn g ⟨o,ho,hc⟩ h2 r=>.exn g ⟨o,x.fix _ _ rfl ho,hc⟩ (x.fix _ _ rfl h2) (c_.up x r)
theorem bA.up(x:Up ρ H ρ1 H1):∀{vs:List V}{ds:List D},bA K ρ H vs ds->bA K ρ1 H1 vs ds
 |_,_,.nil=>.nil
 |_,_,.cons r t=>.cons (c_.up x r) (bA.up x t)
end
theorem c_.mono(r:c_ K ρ H v d)(x:Ex ρ H ρ1 H1):c_ K ρ1 H1 v d:=r.up x.up
theorem bA.mono(r:bA K ρ H vs ds)(x:Ex ρ H ρ1 H1):bA K ρ1 H1 vs ds:=r.up x.up
theorem bA.length:∀{vs:List V}{ds:List D},bA K ρ H vs ds->vs.length=ds.length
 |_,_,.nil=>rfl
 |_,_,.cons _ t=>by simp[bA.length t]
theorem bA.get:∀{vs:List V}{ds:List D}{i:Nat}{d:D},bA K ρ H vs ds->ds[i]?=some d->∃v,vs[i]?=some v/\c_ K ρ H v d
 |_,_,_,_,.nil,e=>by simp at e
 |_,_,0,_,.cons r _,e=>by simp at e;subst e;exact⟨_,rfl,r⟩
 |_,_,i+1,_,.cons _ t,e=>by obtain⟨v,g,c⟩:=bA.get (i:=i) t (by simpa using e);exact⟨v,by simpa using g,c⟩
theorem bA.app:∀{vs c:List V}{ds g:List D},bA K ρ H vs ds->bA K ρ H c g->bA K ρ H (vs++c) (ds++g)
 |_,_,_,_,.nil,s=>s
 |_,_,_,_,.cons r t,s=>.cons r (bA.app t s)
theorem bA.set:∀{vs:List V}{ds:List D}{v:V}{d:D}(i:Nat),bA K ρ H vs ds->c_ K ρ H v d->bA K ρ H (vs.set i v) (ds.set i d)
 |_,_,_,_,_,.nil,_=>.nil
 |_,_,_,_,0,.cons _ t,r=>.cons r t
 |_,_,_,_,i+1,.cons q t,r=>.cons q (bA.set i t r)
theorem bA.take:∀{vs:List V}{ds:List D}(n:Nat),bA K ρ H vs ds->bA K ρ H (vs.take n) (ds.take n)
 |_,_,0,_=>.nil
 |_,_,_+1,.nil=>.nil
 |_,_,n+1,.cons r t=>.cons r (bA.take n t)
theorem bA.drop:∀{vs:List V}{ds:List D}(n:Nat),bA K ρ H vs ds->bA K ρ H (vs.drop n) (ds.drop n)
 |_,_,0,r=>r
 |_,_,_+1,.nil=>.nil
 |_,_,n+1,.cons _ t=>bA.drop n t
theorem LR.mono{σ:St}{l:Loc}(x:Ex ρ H ρ1 H1)(h:LR K ρ H σ l):LR K ρ1 H1 σ l:=
 ⟨h.1,λi d e=>let ⟨v,e1,r⟩:=h.2 i d e;⟨v,e1,r.mono x⟩⟩
theorem SR.at(s:SR K ρ H st){n:Nat}{o:MO}(e:st[n]?=some o):∃a,ρ[n]?=some a/\mB K ρ H a o:=by
 have c:n < ρ.length:=by rw[s.len];exact (ae.mp e).1
 have q:ρ[n]?=some ρ[n]:=aj c;exact⟨_,q,s.ob n _ o q e⟩
theorem SR.seq(s:SR K ρ H st){n:Nat}(e:st[n]?=some (.lst ds)):∃a vs,ρ[n]?=some a/\H a=some (.lst vs)/\bA K ρ H vs ds:=by obtain⟨a,h,vs,q,r⟩:=s.at e;exact⟨a,vs,h,q,r⟩
theorem mB.ex{o:MO}(h:mB K ρ H a o):∃u,H a=some u:=by
 cases o with
 |lam e=>obtain⟨_,_,_,_,_,_,_,_,_,q,_⟩:=h;exact⟨_,q⟩
 |tbl x w=>obtain⟨_,_,q,_⟩:=h;exact⟨_,q⟩
 |dcf a4=>obtain⟨_,q,_⟩:=h;exact⟨_,q⟩
 |clo c vs=>obtain⟨_,_,_,_,_,q,_⟩:=h;exact⟨_,q⟩
 |ded=>obtain⟨_,q⟩:=h;exact⟨_,q⟩
 |lst ds=>obtain⟨vs,q,_⟩:=h;exact⟨_,q⟩
 |dct b a4=>cases b<;>(obtain⟨vs,q,_⟩:=h;exact⟨_,q⟩)
theorem SR.fresh(s:SR K ρ H st)(h:H a=none):a∉ρ:=λz=>by
 obtain⟨n,c⟩:=fI z;have g:n < st.length:=by rw[<- s.len];exact (ae.mp c).1
 obtain⟨u,q⟩:=mB.ex (s.ob n a _ c (aj g));rw[h]at q;cases q
theorem RU{n:Nat}{xs:List D}{c:aX}(h:getL n st=.ok xs c):c=st/\st[n]?=some (.lst xs):=by
 unfold getL at h;cases e:st[n]? with
 |none=>rw[e]at h;cases h
 |some o=>
  rw[e]at h;cases o with
  |lst ds=>cases h;exact⟨rfl,rfl⟩
  |_=>cases h
theorem cW.mapS{α β:Type}{F G:α->β->Prop}:∀{l₁:List α}{l₂:List β},cW F l₁ l₂->(∀a b,F a b->G a b)->cW G l₁ l₂
 |_,_,.nil,_=>.nil
 |_,_,.cons r t,f=>.cons (f _ _ r) (cW.mapS t f)
theorem oG.up{c:ak}{q:Str}(x:Up ρ H ρ1 H1)(h:oG H c q):oG H1 c q:=let ⟨oc,vs,t,e,r⟩:=h;⟨oc,vs,t,x.fix _ _ rfl e,r⟩
theorem rP.up{p:Str×ak}(x:Up ρ H ρ1 H1)(h:rP K ρ H p d):rP K ρ1 H1 p d:=let ⟨o,u,v,e1,e2,e3,r⟩:=h;⟨o,u,v,x.fix _ _ rfl e1,e2,e3,r.up x⟩
theorem mB.mono{o:MO}(x:Up ρ H ρ1 H1)(h:mB K ρ H a o)(g:∀u,H a=some u->H1 a=some u):mB K ρ1 H1 a o:=by
 cases o with
 |lam e=>
  obtain⟨ps,b,sc,p,q,c,G,ct,E,C,B⟩:=h;exact⟨ps,b,sc,p,q,c,G,ct,E,g _ C,B.up x⟩
 |tbl y w=>
  obtain⟨t,ps,E,C,B⟩:=h;exact⟨t,ps,g _ E,C,λp v z=>let ⟨c,a,b⟩:=B p v z;⟨c,a,b.up x⟩⟩
 |clo c vs=>
  obtain⟨o,I,q,Q,cl,E,C,B,O,L,J⟩:=h;exact⟨o,I,q,Q,cl,g _ E,C,B,O.up x,L,cW.mapS J λ_ _ z=>z.up x⟩
 |ded=>obtain⟨u,e⟩:=h;exact⟨u,g _ e⟩
 |dcf a4=>
  obtain⟨l,q,r⟩:=h;exact⟨l,g _ q,cW.mapS r λp q z=>⟨z.1,z.2.1.up x,z.2.2.up x⟩⟩
 |lst ds=>
  obtain⟨vs,q,r⟩:=h;exact⟨vs,g _ q,r.up x⟩
 |dct b a4=>
  cases b with
  |false=>
   obtain⟨l,q,r⟩:=h;exact⟨l,g _ q,cW.mapS r λp q z=>⟨z.1,z.2.up x⟩⟩
  |true=>
   obtain⟨l,q,r⟩:=h;exact⟨l,g _ q,cW.mapS r λp q z=>⟨z.1,z.2.1.up x,z.2.2.up x⟩⟩
theorem SR.new{o:HO}(s:SR K ρ H st)(h:H a=none):SR K ρ (fw H a o) st:=
 ⟨s.len,s.nd,λn b c l g=>mB.mono (o:=c) (Ex.new (ρ:=ρ) h).up (s.ob n b c l g) λvs q=>by rw[fM (pc q h)];exact q⟩
theorem SR.keepO{o':MO}(s:SR K ρ H st)(B:a∉ρ)(r:mB K ρ H a o'):SR K (ρ++[a]) H (st++[o']):=by
 have u:=s.len;have old:∀(n:Nat)(b:ak),(ρ++[a])[n]?=some b->(n < ρ.length/\ρ[n]?=some b)\/(n=ρ.length/\b=a):=λn b e=>by
  by_cases c:n < ρ.length
  ·rw[ar c]at e;exact .inl ⟨c,e⟩
  ·rw[bb (by ext)]at e;have hz:n - ρ.length=0:=by
    cases q:n - ρ.length with
    |zero=>rfl
    |succ k=>rw[q]at e;simp at e
   rw[hz]at e;simp at e;exact .inr ⟨by ext,e.symm⟩
 refine⟨by simp[u],d8.mpr ⟨s.nd,by simp,λx C y l=>?_⟩,λn b o E g=>?_⟩
 ·rw[aC]at l;subst l;exact λz=>B (z ▸ C)
 ·rcases old n b E with ⟨c,h⟩|⟨c,h⟩
  ·rw[ar (by ext)]at g;exact mB.mono (o:=o) Up.grow (s.ob n b o h g) λ_ q=>q
  ·subst h;have:o=o':=by rw[c,u,bb (ax _)]at g;simp at g;exact g.symm
   subst this;exact mB.mono (o:=o) Up.grow r λ_ q=>q
theorem SR.keep(s:SR K ρ H st)(h:H a=some (.lst vs))(c:a∉ρ)(r:bA K ρ H vs ds):SR K (ρ++[a]) H (st++[.lst ds]):=s.keepO c ⟨vs,h,r⟩
theorem SR.putO(s:SR K ρ H st){n:Nat}{o':MO}{u u':HO}(E:n < st.length)(h:ρ[n]?=some a)(hu:H a=some u)(C:kO u≠3)(G:kO u'=kO u)(r:mB K ρ (fw H a u') a o'):
  SR K ρ (fw H a u') (st.set n o')/\Ex ρ H ρ (fw H a u'):=by
 have x:Ex ρ H ρ (fw H a u'):=by
  refine⟨⟨[],by simp,by simp⟩,λb o l q=>?_,λb xs B q=>?_,λb o q=>?_⟩
  ·have:b≠a:=λz=>by subst z;rw[hu]at q;cases q;exact C l
   rw[fM this];exact q
  ·have:b≠a:=λz=>by subst z;exact B (av h)
   rw[fM this];exact q
  ·by_cases z:b=a
   ·subst z;rw[hu]at q;cases q;exact⟨u',iP,G⟩
   ·exact⟨o,by rw[fM z];exact q,rfl⟩
 refine⟨⟨by simp[s.len],s.nd,λm b o c g=>?_⟩,x⟩;by_cases z:m=n
 ·subst z;rw[h]at c;cases c;rw[aE E]at g;cases g;exact r
 ·rw[au (eM z)]at g;refine mB.mono (o:=o) x.up (s.ob m b o c g) λI q=>?_;have:b≠a:=λw=>by subst w;exact z ((lO (ae.mp c).1 s.nd).mp (c.trans h.symm))
  rw[fM this];exact q
theorem SR.put(s:SR K ρ H st){n:Nat}{g:List V}(l:n < st.length)(B:ρ[n]?=some a)(c:H a=some (.lst g))(r:bA K ρ H vs ds):
  SR K ρ (fw H a (.lst vs)) (st.set n (.lst ds))/\Ex ρ H ρ (fw H a (.lst vs)):=by
 have u:Up ρ H ρ (fw H a (.lst vs)):=by
  refine⟨⟨[],by simp⟩,λb o h q=>?_,λb o q=>?_⟩
  ·have:b≠a:=λz=>by subst z;rw[c]at q;cases q;exact nomatch h
   rw[fM this];exact q
  ·by_cases z:b=a
   ·subst z;rw[c]at q;cases q;exact⟨_,iP,rfl⟩
   ·exact⟨o,by rw[fM z];exact q,rfl⟩
 exact s.putO l B c (by show (0:Nat)≠3;decide) rfl ⟨vs,iP,r.up u⟩
theorem GA(k:∃o,H a=some o/\kO o=0):∃vs,H a=some (.lst vs):=by
 obtain⟨o,e,c⟩:=k;cases o with
 |lst vs=>exact⟨vs,e⟩
 |_=>exact nomatch c
noncomputable def aS{α:Type}(K:ag)(ρ:List ak)(H:Hp)(r:Rs α)(R:α->aX->List ak->Hp->Prop):Prop:=match r with
 | .ok a st=>∀ρ' H',Ex ρ H ρ' H'->SR K ρ' H' st->R a st ρ' H'
 |_=>False
theorem aS.left{α:Type}{r:Rs α}{R:α->aX->List ak->Hp->Prop}(x:Ex ρ H ρ1 H1)(h:aS K ρ H r R):aS K ρ1 H1 r R:=by
 cases r with
 |ok a st=>exact λρ' c y s=>h ρ' c (x.trans y) s
 |exc _ _=>exact h
 |bad=>exact h
theorem aS.imp{α:Type}{r:Rs α}{R g:α->aX->List ak->Hp->Prop}(h:aS K ρ H r R)(f:∀a st ρ' c,Ex ρ H ρ' c->SR K ρ' c st->R a st ρ' c->g a st ρ' c):aS K ρ H r g:=by
 cases r with
 |ok a st=>exact λρ' c y s=>f a st ρ' c y s (h ρ' c y s)
 |exc _ _=>exact h
 |bad=>exact h
theorem aS.bnd{α β:Type}{m:M α}{f:α->M β}{R:β->aX->List ak->Hp->Prop}(h:aS K ρ H (bnd m f st) R):aS K ρ H (m st) λa c ρ' g=>aS K ρ' g (f a c) R:=by
 unfold MM.bnd at h;cases e:m st with
 |ok a s'=>
  rw[e]at h;exact λρ' g y s=>h.left y
 |exc _ _=>rw[e]at h;exact h
 |bad=>rw[e]at h;exact h
theorem aS.ret{α:Type}{a:α}{R:α->aX->List ak->Hp->Prop}(h:aS K ρ H (MM.ret a st) R)(s:SR K ρ H st):R a st ρ H:=h ρ H Ex.refl s
theorem aS.chk{α:Type}{c:Prop}[Decidable c]{m:M α}{R:α->aX->List ak->Hp->Prop}(h:aS K ρ H (MM.chk c m st) R):c/\aS K ρ H (m st) R:=by
 unfold MM.chk at h;by_cases g:c
 ·rw[aJ g]at h;exact⟨g,h⟩
 ·rw[aG g]at h;exact h.elim
theorem aS.getL{n:Nat}{R:List D->aX->List ak->Hp->Prop}(h:aS K ρ H (MM.getL n st) R)(s:SR K ρ H st):∃xs,st[n]?=some (.lst xs)/\R xs st ρ H:=by
 cases e:MM.getL n st with
 |ok xs s'=>
  obtain⟨rfl,q⟩:=RU e;rw[e]at h;exact⟨xs,q,h ρ H Ex.refl s⟩
 |exc _ _=>rw[e]at h;exact h.elim
 |bad=>rw[e]at h;exact h.elim
def yL(K:ag)(f:CE):TE:=λσ H Q=>∃ρ l st,LR K ρ H σ l/\SR K ρ H st/\aS K ρ H (f l st) λd _ ρ' c=>∀v,c_ K ρ' c v d->Q v c
def pP(K:ag)(f:CT):TT:=λσ H Q=>∃ρ l st,LR K ρ H σ l/\SR K ρ H st/\aS K ρ H (f l st) λb _ _ c=>Q b c
def Ji(K:ag)(f:CA):TA:=λσ H Q=>∃ρ l st,LR K ρ H σ l/\SR K ρ H st/\aS K ρ H (f l st) λds _ ρ' c=>∀vs,bA K ρ' c vs ds->Q vs c
def EV(K:ag)(f:CA):TE:=λσ H Q=>∃ρ l st,LR K ρ H σ l/\SR K ρ H st/\aS K ρ H (f l st) λds _ ρ' c=>∀a vs,H a=none->a∉ρ'->c a=some (.lst vs)->bA K ρ' c vs ds->Q (.ref a) c
def vc(K:ag)(c:CS):TS:=λG σ H=>∃ρ l st,LR K ρ H σ l/\SR K ρ H st/\aS K ρ H (c l st) λf _ ρ' g=>match f with
 | .next l'=>∀σ',LR K ρ' g σ' l'->G.nx σ' g
 | .ret d=>∀v,c_ K ρ' g v d->G.rt v g
 | .brk l'=>∀σ',LR K ρ' g σ' l'->G.bk σ' g
 | .cnt l'=>∀σ',LR K ρ' g σ' l'->G.ct σ' g
def zy(K:ag)(g:CG):TG:=λv σ H Q=>∃ρ l st d,LR K ρ H σ l/\SR K ρ H st/\c_ K ρ H v d/\aS K ρ H (g d l st) λh _ ρ' c=>∀σ',LR K ρ' c σ' h->Q σ' c
def E3(K:ag)(g:List D->Loc->M Loc):yR:=λvs σ H Q=>∃ρ l st ds,LR K ρ H σ l/\SR K ρ H st/\bA K ρ H vs ds/\aS K ρ H (g ds l st) λh _ ρ' c=>∀σ',LR K ρ' c σ' h->Q σ' c
def py(K:ag)(g:D->D->M D):R2:=λx y H Q=>∃ρ st d e,SR K ρ H st/\c_ K ρ H x d/\c_ K ρ H y e/\aS K ρ H (g d e st) λr _ ρ' c=>∀v,c_ K ρ' c v r->Q v c
def z_(K:ag)(g:D->M D):V->Hp->VK->Prop:=λx H Q=>∃ρ st d,SR K ρ H st/\c_ K ρ H x d/\aS K ρ H (g d st) λr _ ρ' c=>∀v,c_ K ρ' c v r->Q v c
def QK(K:ag)(g:List D->M D):List V->Hp->VK->Prop:=λxs H Q=>∃ρ st ds,SR K ρ H st/\bA K ρ H xs ds/\aS K ρ H (g ds st) λr _ ρ' c=>∀v,c_ K ρ' c v r->Q v c
def mT(K:ag)(n:Nat)(g:List D->M D):Sp:=λvs H Q _=>vs.length=n/\QK K g vs H Q
end
section
variable{X:Cx}{a b c:Expr}{pos:Pos}
abbrev SE(X:Cx)(e:Expr)(f:CE):Prop:=PE X e (yL X.K f)
abbrev SL(X:Cx)(e:Expr)(f:CA):Prop:=PE X e (EV X.K f)
abbrev ST(X:Cx)(e:Expr)(f:CT):Prop:=PT X e (pP X.K f)
abbrev SA(X:Cx)(g:List Expr)(f:CA):Prop:=PA X g (Ji X.K f)
abbrev SS(X:Cx)(s:Stmt)(f:CS):Prop:=PS X s (vc X.K f)
abbrev wO(X:Cx)(s:List Stmt)(f:CS):Prop:=PSs X s (vc X.K f)
theorem _root_.L2.PE.of{e:Expr}{t t':TE}(h:PE X e t)(f:∀σ H Q,t' σ H Q->t σ H Q):PE X e t':=λg s σ H Q I q=>h g s σ H Q I (f σ H Q q)
theorem _root_.L2.PT.of{e:Expr}{t t':TT}(h:PT X e t)(f:∀σ H Q,t' σ H Q->t σ H Q):PT X e t':=λg s σ H Q I q=>h g s σ H Q I (f σ H Q q)
theorem _root_.L2.PA.of{e:List Expr}{t t':TA}(h:PA X e t)(f:∀σ H Q,t' σ H Q->t σ H Q):PA X e t':=λpos g s σ H Q I q=>h pos g s σ H Q I (f σ H Q q)
theorem _root_.L2.PS.of{e:Stmt}{t t':TS}(h:PS X e t)(f:∀D σ H,t' D σ H->t D σ H):PS X e t':=λg s σ H D I q=>h g s σ H D I (f D σ H q)
theorem _root_.L2.PSs.of{e:List Stmt}{t t':TS}(h:PSs X e t)(f:∀D σ H,t' D σ H->t D σ H):PSs X e t':=λg s σ H D I q=>h g s σ H D I (f D σ H q)
theorem _root_.L2.PG.of{e:Expr}{t t':TG}(h:PG X e t)(f:∀v σ H Q,t' v σ H Q->t v σ H Q):PG X e t':=λg s σ H v u Q I r q=>h g s σ H v u Q I r (f v σ H Q q)
theorem _root_.L2.PGs.of{e:List Expr}{t t':yR}(h:PGs X e t)(f:∀v σ H Q,t' v σ H Q->t v σ H Q):PGs X e t':=λg s σ H v u Q I r q=>h g s σ H v u Q I r (f v σ H Q q)
theorem _root_.L2.OpR.of{f:ab->ab->Sem ab}{r o:R2}(h:OpR X f r)(g:∀x y H Q,o x y H Q->r x y H Q):OpR X f o:=λl s σ H x y v u Q I C B q=>h l s σ H x y v u Q I C B (g x y H Q q)
theorem _root_.L2.CallR.of{f:ab}{r o:List V->Hp->VK->Prop}(h:CallR X f r)(g:∀x H Q,o x H Q->r x H Q):CallR X f o:=λl s σ H x u Q I B q=>h l s σ H x u Q I B (g x H Q q)
variable{fa fb fc:CE}
theorem Rz(i:Nat){x:Str}(h:PE X (.Name x pos) (ED i)):SE X (.Name x pos) (al i):=h.of λσ H Q g=>by
 obtain⟨ρ,l,st,q,sr,p⟩:=g;unfold al at p;cases e:l[i]? with
 |none=>rw[e]at p;exact p.elim
 |some o=>
  rw[e]at p;cases o with
  |none=>exact p.elim
  |some d=>
   obtain⟨v,u,r⟩:=q.2 i d e;exact⟨v,u,p.ret sr v r⟩
theorem YI{i:Int}{j:Nat}:SE X (.Constant (.int i) j pos) (aw (.int i)):=(Yt (i:=i) (j:=j) (pos:=pos)).of λσ H Q g=>by obtain⟨ρ,l,st,h,sr,p⟩:=g;exact p.ret sr _ (.int i)
theorem Sy{i:Bool}{j:Nat}:SE X (.Constant (.bool i) j pos) (aw (.bl i)):=(Ta (b:=i) (j:=j) (pos:=pos)).of λσ H Q g=>by obtain⟨ρ,l,st,h,sr,p⟩:=g;exact p.ret sr _ (.bl i)
theorem Rf{j:Nat}:SE X (.Constant .none j pos) (aw .non):=(UI (j:=j) (pos:=pos)).of λσ H Q g=>by obtain⟨ρ,l,st,h,sr,p⟩:=g;exact p.ret sr _ .non
theorem Vv{i:Str}{j:Nat}:SE X (.Constant (.str i) j pos) (aw (.str i)):=(O9 (x:=i) (j:=j) (pos:=pos)).of λσ H Q g=>by obtain⟨ρ,l,st,h,sr,p⟩:=g;exact p.ret sr _ (.str i)
theorem Gp{g:D->D->M D}{r:R2}(Y:∀x y H Q,py X.K g x y H Q->r x y H Q):∀σ H Q,yL X.K (c2 g fa fb) σ H Q->D3 r (yL X.K fa) (yL X.K fb) σ H Q:=λσ H Q h=>
 by obtain⟨ρ,l,st,B,sr,p⟩:=h;exact⟨ρ,l,st,B,sr,p.bnd.imp λd q ρ1 H1 E I U v J=>⟨ρ1,l,q,B.mono E,I,U.bnd.imp λe o ρ2 c C G O u L=>Y _ _ _ _ ⟨ρ2,o,d,e,G,J.mono C,L,O⟩⟩⟩
theorem Ox{op:rB}{g:D->D->M D}(l:OpR X (eG op) (py X.K g))(q:SE X a fa)(o:SE X b fb):SE X (.BinOp a op b pos) (c2 g fa fb):=
 (Na l q o).of (Gp λ_ _ _ _ h=>h)
theorem XN{op:uo}{g:D->D->M D}(l:OpR X (cG op) (py X.K g))(u:SE X a fa)(q:SE X b fb)(o:iR op b=false):SE X (.Compare a [op] [b] pos) (c2 g fa fb):=
 (Uq l u q o).of (Gp λ_ _ _ _ h=>h)
end
theorem _root_.Exists.el{α β γ:Type}{A B C:α->β->γ->Prop}{G:Prop}(h:∃a b c,A a b c/\B a b c/\C a b c)(k:∀a b c,A a b c->B a b c->C a b c->G):G:=by obtain⟨ρ,l,st,a,b,c⟩:=h;exact k ρ l st a b c
theorem yL.el{K:ag}{f:CE}{σ:St}{H:Hp}{Q:VK}{C:Prop}(h:yL K f σ H Q)(k:∀ρ l st,LR K ρ H σ l->SR K ρ H st->aS K ρ H (f l st) (λd _ ρ' g=>∀v,c_ K ρ' g v d->Q v g)->C):C:=by obtain⟨ρ,l,st,a,b,c⟩:=h;exact k ρ l st a b c
theorem pP.el{K:ag}{f:CT}{σ:St}{H:Hp}{Q:Bool->Hp->Prop}{C:Prop}(h:pP K f σ H Q)(k:∀ρ l st,LR K ρ H σ l->SR K ρ H st->aS K ρ H (f l st) (λb _ _ g=>Q b g)->C):C:=by obtain⟨ρ,l,st,a,b,c⟩:=h;exact k ρ l st a b c
theorem vc.el{K:ag}{c:CS}{σ:St}{H:Hp}{G:Ends}{C:Prop}(h:vc K c G σ H) (k:∀ρ l st,LR K ρ H σ l->SR K ρ H st->aS K ρ H (c l st) (λf _ ρ' g=>match f with
 | .next l'=>∀σ',LR K ρ' g σ' l'->G.nx σ' g
 | .ret d=>∀v,c_ K ρ' g v d->G.rt v g
 | .brk l'=>∀σ',LR K ρ' g σ' l'->G.bk σ' g
 | .cnt l'=>∀σ',LR K ρ' g σ' l'->G.ct σ' g)->C):C:=by
 obtain⟨ρ,l,st,a,b,c⟩:=h;exact k ρ l st a b c
end MM
namespace MM
open PySem PySem.Spec PyProof.Rows L2
theorem OW:∀(a b:List Int),gI (a.map .int) (b.map .int)=decide (a=b)
 |[],[]=>by simp[gI]
 |[],_::_=>by simp[gI]
 |_::_,[]=>by simp[gI]
 |x::xs,y::ys=>by
  rw[aL,aL]
  show (gH (.int x) (.int y)&&gI _ _)=_;rw[OW xs ys]
  show (decide (x=y)&&_)=_;simp[m7]
theorem Sz:∀(a b:KI),gH (vE a) (vE b)=decide (a=b)
 | .inl i,.inl j=>by
  show decide (i=j)=_;by_cases z:i=j
  ·subst z;simp
  ·rw[aP z,aP (λq=>z (by injection q))]
 | .inl i,.inr r=>by rw[aP (by simp)];rfl
 | .inr r,.inl i=>by rw[aP (by simp)];rfl
 | .inr r,.inr q=>by
  show gI (r.map .int) (q.map .int)=_;rw[OW];by_cases z:r=q
  ·subst z;simp
  ·rw[aP z,aP (λq=>z (by injection q))]
theorem O7:∀(a b:List KI),gI (a.map vE) (b.map vE)=decide (a=b)
 |[],[]=>by simp[gI]
 |[],_::_=>by simp[gI]
 |_::_,[]=>by simp[gI]
 |x::xs,y::ys=>by
  rw[aL,aL]
  show (gH (vE x) (vE y)&&gI _ _)=_;rw[O7 xs ys,Sz];simp[m7]
theorem G9(a b:NK):gH (sB a) (sB b)=decide (a=b):=O7 a b
theorem IJ(a b:Key):gH (mW a) (mW b)=decide (a=b):=by cases a<;>cases b<;>simp[mW,gH]
theorem NV:∀{ds:List D}{r:List Int},iG ds=some r->ds=r.map .int
 |[],r,h=>by simp[iG]at h;subst h;rfl
 |d::ds,r,h=>by
  cases d with
  |int i=>
   unfold iG at h;cases e:iG ds with
   |none=>rw[e]at h;cases h
   |some q=>
    rw[e]at h;cases h;rw[aL,NV e]
  |_=>cases h
theorem JJ:∀{ds:List D}{r:NK},iJ ds=some r->ds=r.map vE
 |[],r,h=>by simp[iJ]at h;subst h;rfl
 |d::ds,r,h=>by
  cases d with
  |tup xs=>
   unfold iJ at h;cases e:iG xs with
   |none=>rw[e]at h;cases h
   |some q=>
    cases c:iJ ds with
    |none=>rw[e,c]at h;cases h
    |some q2=>
     rw[e,c]at h;cases h;rw[aL,<- JJ c]
     show _=D.tup (q.map .int)::ds;rw[<- NV e]
  |int i=>
   unfold iJ at h;cases c:iJ ds with
   |none=>rw[c]at h;cases h
   |some q2=>
    rw[c]at h;cases h;rw[aL,<- JJ c];rfl
  |_=>cases h
theorem WB{d:D}{r:NK}(h:stK d=some r):d=sB r:=by
 cases d with
 |tup ds=>show D.tup ds=D.tup _;rw[JJ h]
 |_=>cases h
theorem Dh{d:D}(h:oV true d=true):∃k,d=sB k:=by
 cases e:stK d with
 |none=>
  have:oV true d=(stK d).isSome:=by cases d<;>rfl
  rw[this,e]at h;cases h
 |some k=>exact⟨k,WB e⟩
theorem Hb{d:D}(h:oV false d=true):∃k,d=mW k:=by
 cases d with
 |int i=>exact⟨.inl i,rfl⟩
 |str x=>exact⟨.inr x,rfl⟩
 |_=>cases h
section
variable{X:Cx}{K:ag}{ρ:List ak}{H:Hp}{st:aX}{a3:List (ak×Obj)}{σ:St}{s:am}{a b:ak}
theorem GR{k:Key}{v:V}(r:c_ K ρ H v (mW k)):v=kV k:=by
 cases k with
 |inl i=>cases r;rfl
 |inr x=>cases r;rfl
abbrev KR(K:ag)(ρ:List ak)(H:Hp):List (Key×V)->List (D×D)->Prop:=cW λ(p:Key×V)(q:D×D)=>mW p.1=q.1/\c_ K ρ H p.2 q.2
def RO(K:ag)(ρ:List ak)(H:Hp):Option V->Option D->Prop
 |some v,some d=>c_ K ρ H v d
 |none,none=>True
 |_,_=>False
theorem RO.some_of{o:Option V}{d:D}(h:RO K ρ H o (some d)):∃v,o=some v/\c_ K ρ H v d:=by
 cases o with
 |none=>exact h.elim
 |some v=>exact⟨v,rfl,h⟩
theorem RO.isSome_eq{o:Option V}{d:Option D}(h:RO K ρ H o d):o.isSome=d.isSome:=by cases o<;>cases d<;>first|rfl|exact h.elim
theorem KR.val{g:List (Key×V)}{c:List (D×D)}(r:KR K ρ H g c)(k:Key):RO K ρ H (pS g k) (kJ c (mW k)):=by
 induction r with
 |nil=>exact d7
 |@cons p q ps qs h t ih=>
  obtain⟨o,l⟩:=h;unfold kJ;rw[cC,<- o,IJ];by_cases e:p.1=k
  ·rw[Gf e,cT e];exact l
  ·rw[GW e,aP e];exact ih
theorem KR.any{g:List (Key×V)}{c:List (D×D)}(r:KR K ρ H g c)(k:Key):(g.any λl=>decide (l.1=k))=c.any λp=>gH p.1 (mW k):=by
 induction r with
 |nil=>rfl
 |@cons p q ps qs h t ih=>rw[dY,dY,ih,<- h.1,IJ]
theorem KR.put{l:List (Key×V)}{c:List (D×D)}(r:KR K ρ H l c)(k:Key){v:V}{d:D}(g:c_ K ρ H v d):KR K ρ H (L2.lZ l k v) (ke c (mW k) d):=by
 unfold L2.lZ ke;rw[r.any k];by_cases e:(c.any λp=>gH p.1 (mW k))=true
 ·rw[aJ e,aJ e];clear e
  induction r with
  |nil=>exact .nil
  |@cons p q ps qs h t ih=>
   rw[aL,aL];refine .cons ?_ ih;rw[<- h.1,IJ];by_cases e:p.1=k
   ·rw[aJ e,aJ (cT e)];exact⟨rfl,g⟩
   ·rw[aG e,aG (by rw[aP e];exact bh)];exact h
 ·rw[aG e,aG e];exact nj r ⟨rfl,g⟩
theorem KR.up{ρ1:List ak}{h:Hp}(x:Up ρ H ρ1 h){g:List (Key×V)}{c:List (D×D)}(r:KR K ρ H g c):KR K ρ1 h g c:=cW.mapS r λ_ _ z=>⟨z.1,z.2.up x⟩
theorem KR.length{g:List (Key×V)}{c:List (D×D)}(r:KR K ρ H g c):g.length=c.length:=dR r
abbrev NR(K:ag)(ρ:List ak)(H:Hp):List (NK×ak×V)->List (D×D)->Prop:=cW λ(p:NK×ak×V)(q:D×D)=>sB p.1=q.1/\c_ K ρ H (.ref p.2.1) q.1/\c_ K ρ H p.2.2 q.2
abbrev NX:List (NK×ak×V)->List (NK×ak×ab)->Prop:=cW λ(p:NK×ak×V)(q:NK×ak×ab)=>p.1=q.1/\p.2.1=q.2.1/\RelV p.2.2 q.2.2
abbrev BY(X:Cx):uu X.prog X.w NK:=tH X.prog X.w
theorem M4{P:Program}{w:bD}:∀{r:List Int}{vs:List V}{c:List ab},bA K ρ H vs (r.map .int)->bQ vs c->ItemsAre (iA P w) r c
 |[],_,_,h,g=>by cases h;cases g;exact .nil
 |i::r,_,_,h,g=>by
  cases h with
  |cons h1 ht=>
   cases h1;cases g with
   |cons g1 gt=>
    obtain⟨t,e⟩:=g1;subst e;exact .cons (by show p_ i (d6 i t)=true;simp[p_]) (M4 ht gt)
theorem Yq{r:List Int}{v:V}{u:ab}(I:Inv X a3 σ H s)(h:c_ X.K ρ H v (Eb r))(g:RelV v u):∃b,u=.ref b/\Cd (iA X.prog X.w) s.heap r b:=by
 cases h with
 |@tup b vs ds h q=>
  have e:u=a_ b:=g;subst e;obtain⟨its,c,⟨o,C,B,n,l⟩,_⟩:=I.tuple h;exact⟨b,rfl,o,its.toArray,n,C,B,l,by simpa using M4 q c⟩
theorem OM(I:Inv X a3 σ H s):∀{k:NK}{vs:List V}{c:List ab},bA X.K ρ H vs (k.map vE)->bQ vs c->nw X.prog X.w s.heap k c
 |[],_,_,h,g=>by cases h;cases g;exact .nil
 |r::k,_,_,h,g=>by
  cases h with
  |cons h1 ht=>
   cases g with
   |cons g1 gt=>
    refine .cons ?_ (OM I ht gt);cases r with
    |inl i=>
     cases (show c_ X.K ρ H _ (.int i) from h1);obtain⟨t,e⟩:=g1;subst e;exact .one i t
    |inr r=>
     obtain⟨b,e,l⟩:=Yq I h1 g1;subst e;exact .row l
theorem CD{k:NK}{v:V}{u:ab}(I:Inv X a3 σ H s)(h:c_ X.K ρ H v (sB k))(g:RelV v u):∃b,v=.ref b/\u=.ref b/\(BY X).is s.heap k b:=by
 cases h with
 |@tup b vs ds h q=>
  have e:u=a_ b:=g;subst e;obtain⟨its,c,⟨o,C,B,n,l⟩,_⟩:=I.tuple h;exact⟨b,rfl,rfl,o,its.toArray,n,C,B,l,by simpa using OM I q c⟩
theorem yS{B:List (NK×ak×V)}{c:List (D×D)}(I:Inv X a3 σ H s)(e:H a=some (rg a B))(r:NR X.K ρ H B c):
  B.length<=sizeLine/\(a == dA)=false/\∃xs,NX B xs/\s.heap.DictOfH (BY X) a xs/\rf s.heap a xs.length:=by
 obtain⟨⟨z,y,xs,G,o,u,ep,E,O,C,L,J,h6⟩,U,Q⟩:=(show eX X.prog X.w H s.heap a (rg a B) from I.hok a _ e)
 subst h6;refine⟨z,y,xs,G,⟨o,u,_,E,O,C,L,?_,J⟩,⟨o,u,E,C⟩⟩;clear E O C L J e z y U Q
 induction G generalizing c with
 |nil=>intro x l;exact nomatch l
 |@cons p q ps qs h t ih=>
  cases r with
  |cons g gt=>
   intro x l;rcases aI.mp l with e|l
   ·subst e;obtain⟨b,c,_,Y⟩:=CD I (by rw[g.1];exact g.2.1) (show RelV (.ref p.2.1) (.ref p.2.1) from rfl);cases c;rw[<- h.1,<- h.2.1];exact Y
   ·exact ih gt x l
theorem Lr{L:Hp}{h':bw}{P:Program}{w:bD}{q:List (NK×ak×V)}{xs:List (NK×ak×ab)}(z:q.length<=sizeLine)(y:(a == dA)=false)(r:NX q xs)(J:h'.DictOfH (tH P w) a xs)(I:rf h' a xs.length):
  eX P w L h' a (rg a q):=by
 obtain⟨o,c,ep,g,h,u,E,_,C⟩:=J;obtain⟨O,G,l,B⟩:=I;rw[g]at l;cases l;rw[u]at B;cases B;refine⟨⟨z,y,xs,r,o,c,_,g,h,u,E,C,rfl⟩,⟨o,g⟩,?_⟩
 rintro l g2 ⟨z,y,xs,r,o,c,ep,g,h⟩ k
 exact⟨z,y,xs,r,o,c,ep,k o g,h⟩
noncomputable def valN(c:List (NK×ak×V))(k:NK):Option V:=(c.find? λp=>decide (p.1=k)).map (·.2.2)
noncomputable def putN(c:List (NK×ak×V))(k:NK)(b:ak)(v:V):List (NK×ak×V):=if (c.any λp=>decide (p.1=k))=true then c.map (λp=>if p.1=k then (p.1,p.2.1,v) else p) else c++[(k,b,v)]
theorem NR.val{g:List (NK×ak×V)}{c:List (D×D)}(r:NR K ρ H g c)(k:NK):RO K ρ H (valN g k) (kJ c (sB k)):=by
 induction r with
 |nil=>exact d7
 |@cons p q ps qs h t ih=>
  obtain⟨o,_,l⟩:=h;unfold kJ valN;rw[cC,cC,<- o,G9];by_cases e:p.1=k
  ·rw[cT e];exact l
  ·rw[aP e];exact ih
theorem NX.val{c:List (NK×ak×V)}{xs:List (NK×ak×ab)}(r:NX c xs)(k:NK):o6 (valN c k) ((k_ xs k).map (·.2)):=by
 induction r with
 |nil=>exact d7
 |@cons p q ps qs h t ih=>
  obtain⟨l,_,g⟩:=h;unfold k_ valN;rw[cC,cC,<- l];by_cases e:p.1=k
  ·rw[cT e];exact g
  ·rw[aP e];exact ih
theorem NX.put{g:List (NK×ak×V)}{xs:List (NK×ak×ab)}(r:NX g xs)(k:NK)(b:ak){v:V}{u:ab}(c:RelV v u):NX (putN g k b v) (k7 xs k b u):=by
 have e:(g.any λp=>decide (p.1=k))=(k_ xs k).isSome:=by
  clear c
  induction r with
  |nil=>rfl
  |@cons p q ps qs h t ih=>
   rw[dY,ih];unfold k_;rw[cC,<- h.1];by_cases e:p.1=k
   ·rw[cT e];rfl
   ·rw[aP e];rfl
 unfold putN k7;rw[e];by_cases q:(k_ xs k).isSome=true
 ·rw[aJ q,aJ q];clear q e
  induction r with
  |nil=>exact .nil
  |@cons p q ps qs h t ih=>
   rw[aL,aL];refine .cons ?_ ih;unfold sT;by_cases e:p.1=k
   ·rw[aJ e,aJ (h.1.symm.trans e)];exact⟨h.1,h.2.1,c⟩
   ·rw[aG e,aG (λz=>e (h.1.trans z))];exact h
 ·rw[aG q,aG q];exact nj r ⟨rfl,rfl,c⟩
theorem NR.put{l:List (NK×ak×V)}{c:List (D×D)}(r:NR K ρ H l c)(k:NK)(b:ak){v:V}{d:D}(o:c_ K ρ H (.ref b) (sB k))(g:c_ K ρ H v d):NR K ρ H (putN l k b v) (ke c (sB k) d):=by
 have e:(l.any λp=>decide (p.1=k))=c.any λp=>gH p.1 (sB k):=by
  clear o g
  induction r with
  |nil=>rfl
  |@cons p q ps qs h t ih=>rw[dY,dY,ih,<- h.1,G9]
 unfold putN ke;rw[e];clear e;by_cases e:(c.any λp=>gH p.1 (sB k))=true
 ·rw[aJ e,aJ e];clear e
  induction r with
  |nil=>exact .nil
  |@cons p q ps qs h t ih=>
   rw[aL,aL];refine .cons ?_ ih;by_cases e:p.1=k
   ·have z:gH q.1 (sB k)=true:=by rw[<- h.1,G9];exact cT e
    rw[aJ e,aJ z];exact⟨h.1,h.2.1,g⟩
   ·have z:¬ gH q.1 (sB k)=true:=by rw[<- h.1,G9,aP e];exact bh
    rw[aG e,aG z];exact h
 ·rw[aG e,aG e];exact nj r ⟨rfl,o,g⟩
theorem NR.up{ρ1:List ak}{h:Hp}(x:Up ρ H ρ1 h){g:List (NK×ak×V)}{c:List (D×D)}(r:NR K ρ H g c):NR K ρ1 h g c:=cW.mapS r λ_ _ z=>⟨z.1,z.2.1.up x,z.2.2.up x⟩
theorem NR.length{g:List (NK×ak×V)}{c:List (D×D)}(r:NR K ρ H g c):g.length=c.length:=dR r
theorem ME(c:List (NK×ak×V))(k:NK)(b:ak)(v:V):(putN c k b v).length<=c.length+1:=by
 unfold putN;split
 ·rw[af];ext
 ·rw[aN,bV,gD];ext
theorem UC{n:Nat}{p:Bool×List (D×D)}{c:aX}(h:getDc n st=.ok p c):c=st/\st[n]?=some (.dct p.1 p.2):=by
 unfold getDc at h;cases e:st[n]? with
 |none=>rw[e]at h;cases h
 |some o=>
  rw[e]at h;cases o with
  |dct b a4=>cases h;exact⟨rfl,rfl⟩
  |_=>cases h
theorem aS.getDc{n:Nat}{R:Bool×List (D×D)->aX->List ak->Hp->Prop}(h:aS K ρ H (MM.getDc n st) R)(s:SR K ρ H st):∃b c,st[n]?=some (.dct b c)/\R (b,c) st ρ H:=by
 cases e:MM.getDc n st with
 |ok xs s'=>
  obtain⟨rfl,q⟩:=UC e;rw[e]at h;exact⟨xs.1,xs.2,q,h ρ H Ex.refl s⟩
 |exc _ _=>rw[e]at h;exact h.elim
 |bad=>rw[e]at h;exact h.elim
theorem Vr{b:Bool}{C:List (D×D)}{k d:D}{y:V}{u:ab}{Q:ab->am->Prop}{E:ab->am->Prop}{A:bz}(hu:A.units+2 < cL)(I:Inv X a3 σ H s)(g:mB X.K ρ H a (.dct b C))(Y:c_ X.K ρ H y k)(hk:oV b k=true)(hl:kJ C k=some d)(U:RelV y u)
  (h:∀v B G,Inv X a3 σ H G->c_ X.K ρ H v d->RelV v B->Q B G):aF (aW X.prog X.w) A (rD (.ref a) u) Q E s:=by
 cases b with
 |false=>
  obtain⟨es,e,r⟩:=g;obtain⟨k,rfl⟩:=Hb hk;cases GR Y;have q:=KR.val r k;rw[hl]at q;obtain⟨v,O,J⟩:=q.some_of;exact XQ (by ext) I (by have:=tP.k (k:=k) e;rw[O]at this;exact this) U λB G I' l=>h v B G I' J l
 |true=>
  obtain⟨es,e,r⟩:=g;obtain⟨k,rfl⟩:=Dh hk;have q:=NR.val r k;rw[hl]at q;obtain⟨v,O,J⟩:=q.some_of;obtain⟨_,hd,xs,rx,dd,de⟩:=yS I e r;obtain⟨c,e2,e3,hc⟩:=CD I Y U;subst e3;obtain⟨B,hw,l⟩:=o6.some_of (v:=v) (o:=(k_ xs k).map (·.2)) (by rw[<- O];exact NX.val rx k);obtain⟨p,hp,L⟩:=du.mp hw;refine Cc (knd:=BY X) (show A.in1.units+1 < cL from hu) hc dd hp ?_;rw[L];exact h v B _ (I.tok _) J l
theorem XA{b:Bool}{l:List (D×D)}{k:D}{y:V}{u:ab}{Q:ab->am->Prop}{E:ab->am->Prop}{A:bz}(hu:A.units+2 < cL)(I:Inv X a3 σ H s)(g:mB X.K ρ H a (.dct b l))(C:c_ X.K ρ H y k)(G:oV b k=true)(B:RelV y u)
  (h:∀o,Inv X a3 σ H o->Q (.bool (kJ l k).isSome) o):aF (aW X.prog X.w) A (cG .In u (.ref a)) Q E s:=by
 cases b with
 |false=>
  obtain⟨O,e,r⟩:=g;obtain⟨k,rfl⟩:=Hb G;cases GR C;rw[<- (KR.val r k).isSome_eq]at h;exact K0 (by ext) I (tP.k (k:=k) e) B h
 |true=>
  obtain⟨O,e,r⟩:=g;obtain⟨k,rfl⟩:=Dh G;rw[<- (NR.val r k).isSome_eq]at h;obtain⟨_,hd,xs,J,Y,de⟩:=yS I e r;obtain⟨c,e2,U,L⟩:=CD I C B;subst U;refine wpAny_in_heap (knd:=BY X) (show A.in1.units+1 < cL from hu) L hd Y ?_;have q:=(NX.val J k).isSome_eq;rw[gE]at q;rw[<- q];exact h _ (I.tok _)
theorem Qo{b:Bool}{l:List (D×D)}{k:D}{y:V}{u:ab}{Q:ab->am->Prop}{E:ab->am->Prop}{A:bz}(hu:A.units+2 < cL)(I:Inv X a3 σ H s)(g:mB X.K ρ H a (.dct b l))(C:c_ X.K ρ H y k)(G:oV b k=true)(B:RelV y u)
  (h:∀o,Inv X a3 σ H o->Q (.bool (!(kJ l k).isSome)) o):aF (aW X.prog X.w) A (cG .NotIn u (.ref a)) Q E s:=by
 cases b with
 |false=>
  obtain⟨O,e,r⟩:=g;obtain⟨k,rfl⟩:=Hb G;cases GR C;rw[<- (KR.val r k).isSome_eq]at h;exact TR (by ext) I (tP.k (k:=k) e) B h
 |true=>
  obtain⟨O,e,r⟩:=g;obtain⟨k,rfl⟩:=Dh G;rw[<- (NR.val r k).isSome_eq]at h;obtain⟨_,hd,xs,J,Y,de⟩:=yS I e r;obtain⟨c,e2,U,L⟩:=CD I C B;subst U;refine F6 (knd:=BY X) (show A.in1.units+1 < cL from hu) L hd Y ?_;have q:=(NX.val J k).isSome_eq;rw[gE]at q;rw[<- q];exact h _ (I.tok _)
theorem Pt{n:Nat}{b:Bool}{l:List (D×D)}{k d:D}{y v:V}{u r':ab}{Q:Unit->am->Prop}{E:ab->am->Prop}{A:bz}(hu:A.units+2 < cL)(I:Inv X a3 σ H s)(sr:SR X.K ρ H st)(U:ρ[n]?=some a)(hn:st[n]?=some (.dct b l))
  (L:c_ X.K ρ H y k) (hk:oV b k=true) (hl:l.length < sizeLine) (rv:c_ X.K ρ H v d) (ry:RelV y u) (rr:RelV v r')
  (h:∀H' G,Inv X a3 σ H' G->SR X.K ρ H' (st.set n (.dct b (ke l k d)))->Ex ρ H ρ H'->Q () G):aF (aW X.prog X.w) A (rA (.ref a) u r') Q E s:=by
 have B:=(ae.mp hn).1;have g:=sr.ob n a _ U hn;cases b with
 |false=>
  obtain⟨J,e,r⟩:=g;obtain⟨k,rfl⟩:=Hb hk;cases GR L;have w:=sr.putO (o':=.dct false (ke l (mW k) d)) (u':=.dK (L2.lZ J k v)) B U e (by show (1:Nat)≠3;decide) rfl ⟨_,iP,(KR.put r k rv).up ?_⟩
  ·exact U6 (by ext) I (yQ.k (k:=k) e (by rw[KR.length r];exact hl)) ry rr λG c=>h _ G c w.1 w.2
  ·refine⟨⟨[],by simp⟩,λc o O q=>?_,λc o q=>?_⟩
   ·rw[fM λz=>by subst z;rw[e]at q;cases q;exact nomatch O];exact q
   ·by_cases z:c=a
    ·subst z;rw[e]at q;cases q;exact⟨_,iP,rfl⟩
    ·exact⟨o,by rw[fM z];exact q,rfl⟩
 |true=>
  obtain⟨J,e,r⟩:=g;obtain⟨k,rfl⟩:=Dh hk;obtain⟨_,hd,xs,rx,dd,de⟩:=yS I e r;obtain⟨c,e2,e3,hc⟩:=CD I L ry;subst e2 e3;have w:=sr.putO (o':=.dct true (ke l (sB k) d)) (u':=rg a (putN J k c v)) B U e (by show (2:Nat)≠3;decide) rfl ⟨_,iP,(NR.put r k c L rv).up ?_⟩
  ·have hz : xs.length <= sizeLine := by rw[<- dR rx,NR.length r];ext
   refine Yg (knd:=BY X) (show A.in1.units+1 < cL from hu) hc dd de hz λh' C Y g=>h _ _ ?_ w.1 w.2;have l:∃q,h'.get? a=some q:=let ⟨q,_,_,hq,_⟩:=C;⟨q,hq⟩
   refine DL I (by rw[e];exact d7) g l (Lr ?_ hd (NX.put rx k c rr) C Y);have:=ME J k c v;rw[NR.length r]at this;ext
  ·refine⟨⟨[],by simp⟩,λc o O q=>?_,λc o q=>?_⟩
   ·rw[fM λz=>by subst z;rw[e]at q;cases q;exact nomatch O];exact q
   ·by_cases z:c=a
    ·subst z;rw[e]at q;cases q;exact⟨_,iP,rfl⟩
    ·exact⟨o,by rw[fM z];exact q,rfl⟩
end
noncomputable abbrev zH:ab->am->Prop:=λ_ _=>False
noncomputable def Ad(g:List Expr)(env:Env):Sem Bool:=forIn g true λc r=>if r=true then do let ok <- isTrue c env (eval c env);pure (lS ok) else pure (lS r)
section
variable{prog:Program}{w:bD}{A:bz}{R:B9->am->Prop}{s:am}
theorem VS{l c iter:Expr}{g:List Expr}{scope:cZ}{pos:Pos}{u o:ab}{env:Env}(I:Nat->am->Prop)
  (q:∀n s,I n s->aF (aW prog w) A (iL u) (λr s₁=>match r with
   |none=>R (.ok .next) s₁
   |some v => aF (aW prog w) A (ou c u v) (λ_ s₁' => aF (aW prog w) A (n6 c env v) (λ_ s₂ =>
     aF (aW prog w) A (Ad g env) (λok s₃=>
      if ok=true then aF (aW prog w) A (eval l env) (λx s₄=>
       aF (aW prog w) A (call (.builtin "list.append") [o,x]) (λ_ s₅=>∃m,m < n/\I m s₅) zH s₄) zH s₃
      else ∃m,m < n/\I m s₃) zH s₂) zH s₁') zH s₁) zH s)
  (n:Nat) (h:I n s):gK (aW prog w) A (.compLoop (.ListComp l [⟨c,iter,g,0⟩] scope pos) 0 u o env) R s:=by
 refine codeAny_loop rfl I (λn s B=>?_) n h
 show aF _ A ((compTurn (.ListComp l [⟨c,iter,g,0⟩] scope pos) 0 u o env).onRaise (λx=>do noteFrame x env;theTreesLotGoes x)) _ _ s;refine wpAny_noted ?_;rw[compTurn_list];refine aa (vH (aa (gJ (q n s B) (λr s₁ h₁=>?_) λ_ _ h'=>h'.elim)));cases r with
 |none=>exact ai h₁
 |some v=>
  refine aa (gJ h₁ (λ_ s₁' h₁'=>?_) λ_ _ h'=>h'.elim);refine aa (gJ h₁' (λ_ s₂ h₂=>aa (gJ h₂ (λok s₃ h₃=>?_) λ_ _ h'=>h'.elim)) λ_ _ h'=>h'.elim);cases ok with
  |false=>exact ai ⟨rfl,h₃⟩
  |true=>
   exact aa (aa (gJ h₃ (λx s₄ h₄=>aa (gJ h₄ (λ_ s₅ h₅=>ai (ai ⟨rfl,h₅⟩)) λ_ _ h'=>h'.elim)) λ_ _ h'=>h'.elim))
end
noncomputable def gU:List (Str×c5)->List (Str×ak)->List (Str×ak)->List (Str×ak)
 |[],_,acc=>acc
 | (n,k)::r,cells,acc=>gU r cells (if k == .free then (match cells.lookup n with|some c=>(n,c)::acc|none=>acc) else acc)
theorem I0{env:Env}: ∀(names:List (Str×c5))(acc:List (Str×ak)),(∀x,(x,bE)∈names->∃c,env.cells.lookup x=some c) ->
  (forIn names acc λ(x:Str×c5)r=>if (x.2 == bE)=true then (do let a <- cellOf env x.1;pure (lS ((x.1,a)::r)):Sem _) else pure (lS r))=(pure (gU names env.cells acc):Sem _)
 |[],acc,_=>rfl
 | (n,k)::r,acc,h=>by
  rw[m8];by_cases l:(k == bE)=true
  ·have e:k=.free:=by simpa using l
   subst e;obtain⟨c,o⟩:=h n bO;have q:cellOf env n=pure c:=by unfold cellOf;rw[o]
   simp only[beq_self_eq_true,if_true,q];unfold gU;simp only[beq_self_eq_true,if_true,o];exact I0 r ((n,c)::acc) λx g=>h x (br _ g)
  ·simp only[l,if_false];unfold gU;simp only[l,if_false];exact I0 r acc λx g=>h x (br _ g)
theorem LY{scope:cZ}{env:Env}(h:∀x,(x,bE)∈scope.names->∃c,env.cells.lookup x=some c):uv scope env=pure (gU scope.names env.cells []):=by have q:=I0 (env:=env) scope.names [] h;simp only[uv];exact cU (λm=>m >>= λg=>pure g) q
theorem vB{α:Type}{x y:Str}{v:α}{r:List (Str × α)}(h:x≠y):F8 x ((y,v)::r)=r.lookup x:=by rw[kf];have:(x == y)=false:=beq_eq_false_iff_ne.mpr h;rw[this]
theorem lookup_cons_self{α:Type}{x:Str}{v:α}{r:List (Str × α)}:F8 x ((x,v)::r)=some v:=by rw[kf,beq_self_eq_true]
theorem uO{cells:List (Str×ak)}{x:Str}{c:ak}:∀(names:List (Str×c5))(acc:List (Str×ak)),(gU names cells acc).lookup x=some c->cells.lookup x=some c\/acc.lookup x=some c
 |[],acc,h=>.inr h
 | (n,k)::r,acc,h=>by
  unfold gU at h;rcases uO r _ h with q|q
  ·exact .inl q
  ·split at q
   ·split at q
    ·rename_i o l;by_cases g:x=n
     ·subst g;rw[lookup_cons_self]at q;cases q;exact .inl l
     ·rw[vB g]at q;exact .inr q
    ·exact .inr q
   ·exact .inr q
theorem E5{cells:List (Str×ak)}{x:Str}{c:ak}(l:cells.lookup x=some c):∀(names:List (Str×c5))(acc:List (Str×ak)),((x,bE)∈names\/acc.lookup x=some c)->(∀d,acc.lookup x=some d->d=c)->(gU names cells acc).lookup x=some c
 |[],acc,h,_=>by
  rcases h with h|h
  ·cases h
  ·exact h
 | (n,k)::r,acc,h,ha=>by
  unfold gU;by_cases o:x=n
  ·subst o;by_cases q:(k == bE)=true
   ·rw[aJ q,l];exact E5 l r _ (.inr lookup_cons_self) λd hd=>by rw[lookup_cons_self]at hd;cases hd;rfl
   ·rw[aG q];refine E5 l r _ ?_ ha;rcases h with h|h
    ·rcases aI.mp h with e|e
     ·cases e;exact ba rfl q
     ·exact .inl e
    ·exact .inr h
  ·have step : ∀g, g.lookup x = acc.lookup x -> (gU r cells g).lookup x = some c := λg e => by
     refine E5 l r g ?_ (by rw[e];exact ha);rcases h with h|h
     ·rcases aI.mp h with z|z
      ·cases z;exact ba rfl o
      ·exact .inl z
     ·exact .inr (by rw[e];exact h)
   refine step _ ?_;split
   ·split
    ·exact vB o
    ·rfl
   ·rfl
theorem kD{x:Str}{c:ak}:∀(names:List (Str×c5))(n:Nat)(acc:List (Str×ak)),(bF n names acc).lookup x=some c->n<=c\/acc.lookup x=some c
 |[],_,_,h=>.inr h
 | (y,k)::r,n,acc,h=>by
  unfold bF at h;split at h
  ·rcases kD r (n+1) _ h with q|q
   ·exact .inl (by ext)
   ·by_cases g:x=y
    ·subst g;rw[lookup_cons_self]at q;cases q;exact .inl (ax _)
    ·rw[vB g]at q;exact .inr q
  ·exact kD r n acc h
theorem Jt: ∀(names:List (Str×c5))(n:Nat)(acc:List (Str×ak)),(∀x y c,acc.lookup x=some c->acc.lookup y=some c->x=y)->(∀x c,acc.lookup x=some c->c < n) ->
  ∀x y c,(bF n names acc).lookup x=some c->(bF n names acc).lookup y=some c->x=y
 |[],_,_,hi,_=>hi
 | (z,k)::r,n,acc,hi,hb=>by
  unfold bF;split
  ·refine Jt r (n+1) _ (λx y c q g=>?_) (λx c h=>?_)
   ·by_cases o:x=z
    ·subst o;rw[lookup_cons_self]at q;cases q;by_cases l:y=x
     ·exact l.symm
     ·rw[vB l]at g;exact ba (hb y _ g) (cy _)
    ·rw[vB o]at q;by_cases l:y=z
     ·subst l;rw[lookup_cons_self]at g;cases g;exact ba (hb x _ q) (cy _)
     ·rw[vB l]at g;exact hi x y c q g
   ·by_cases o:x=z
    ·subst o;rw[lookup_cons_self]at h;cases h;exact ie _
    ·rw[vB o]at h;exact gQ (hb x c h)
  ·exact Jt r n acc hi hb
theorem kM{x:Str}{c:ak}:∀(names:List (Str×c5))(h:bw)(acc:List (Str×ak)),(bF h.objs.size names acc).lookup x=some c->acc.lookup x=some c\/((v6 h names).IsCell c none/\h.objs.size<=c)
 |[],_,_,q=>.inl q
 | (y,k)::r,h,acc,q=>by
  unfold bF at q;unfold v6;split at q
  ·rename_i g;rw[aJ g];rw[<- cw h { cls:=.type "cell",data:=.cell none }]at q;rcases kM r _ _ q with z|z
   ·by_cases l:x=y
    ·subst l;rw[lookup_cons_self]at z;cases z;refine .inr ⟨?_,ax _⟩;refine⟨{ cls:=.type "cell",data:=.cell none },lH r _ _ _ (aB _ rfl),rfl⟩
    ·rw[vB l]at z;exact .inl z
   ·refine .inr ⟨z.1,?_⟩;have:=z.2;rw[cw]at this;ext
  ·rename_i g;rw[aG g];exact kM r h acc q
theorem IP{x:Str}:∀(names:List (Str×c5))(n:Nat)(acc:List (Str×ak)),(x,fe)∉names->(bF n names acc).lookup x=acc.lookup x
 |[],_,_,_=>rfl
 | (y,k)::r,n,acc,h=>by
  unfold bF;split
  ·rename_i g;have e:k=.cell:=by simpa using g
   subst e;have c:x≠y:=λz=>h (by rw[z];exact bO);rw[IP r (n+1) _ λz=>h (br _ z),vB c]
  ·exact IP r n acc λz=>h (br _ z)
theorem LA{α β:Type}(f:Str->α->β)(x:Str):∀(l:List (Str × α)),(l.map λp=>(p.1,f p.1 p.2)).lookup x=(l.lookup x).map (f x)
 |[]=>rfl
 | (y,v)::r=>by
  by_cases c:x=y
  ·subst c;rw[aL,lookup_cons_self,lookup_cons_self];rfl
  ·rw[aL,vB c,vB c];exact LA f x r
theorem Cv(scope:cZ)(env:Env)(x:Str):
  (iW scope env).names.lookup x=(scope.names.lookup x).map λk=>if (k == bE&&env.scope.kind == .function&&env.kindOf x == some .cell)=true then .cell else k:=by
 have e:(iW scope env).names=scope.names.map λp=>(p.1,(λ(n:Str)k=>if (k == bE&&env.scope.kind == .function&&env.kindOf n == some .cell)=true then fe else k) p.1 p.2):=by show scope.names.map _=_;congr 1;funext p;obtain⟨n,k⟩:=p;dsimp only;split<;>rfl
 rw[e];exact LA (λ(n:Str)k=>if (k == bE&&env.scope.kind == .function&&env.kindOf n == some .cell)=true then fe else k) x scope.names
theorem PJ{M:CW}{A:bz}{E:ab->am->Prop}{s:am}{scope:cZ}{globals:ak}{cl:List (Str×ak)}{qual:Str}{env:Env}{Q:Env->am->Prop}
  (h:Q { scope:=scope,locals:=s.heap.objs.size,globals:=globals,cells:=bF (s.heap.objs.size+1) scope.names cl,qual:=qual,func:=none,code:=env.code,frame:=env.frame,builtins:=env.builtins }
   { s with heap:=v6 (s.heap.push { cls:=.type "dict",data:=.dict #[] }) scope.names }):aF M A (pi scope globals cl [] qual none .none (some env)) Q E s:=by
 simp only[pi,kZ,if_true];refine aa (wpAny_alloc ?_);refine aa (wpAny_layCells _ (λname kind cells=>by cases c:kind == fe<;>simp[c]) _ _ _ _ ?_);rw[show ({ s with heap:=s.heap.push { cls:=.type "dict",data:=.dict #[] } }:am).heap.objs.size=s.heap.objs.size+1 from cw ..];exact aa (ai (ai h))
def oq(X:Cx)(N:List Str)(scope:cZ)(c:List ak)(s:am)(H:Hp):Cx where
 prog:=X.prog
 w:=X.w
 K:=X.K
 mg:=X.mg
 base:=X.base
 A:=X.A
 N:=N
 s₀:=s
 H₀:=H
 env:=compEnvC scope (bF (s.heap.objs.size+1) scope.names (gU scope.names X.env.cells [])) s.heap.objs.size X.env
 outer:=X.stack
 stack:=X.stack
 ex:=c
 fn:=λx=>decide (scope.names.lookup x=some .local\/scope.names.lookup x=some .cell)
 calm:=X.calm
 pn:=[]
 xe:=zH
structure gT(X:Cx)(scope:cZ):Prop where
 kind:scope.kind=.function
 names:∀x∈scope.names,x.2=.local->scope.names.lookup x.1=some .local
 free:∀x,(x,bE)∈scope.names->X.env.kindOf x=some .cell\/X.env.kindOf x=some .free
 once:∀x,(x,bE)∈scope.names->(x,fe)∉scope.names
 own:∀x,(x,bE)∈scope.names->scope.names.lookup x≠some .local
noncomputable def xT(n:Nat)(ix:List Nat)(σ:St):St:=az n none++ix.map λi=>(σ[i]?).join
structure iY(X:Cx)(scope:cZ)(N:List Str)(n:Nat)(ix:List Nat):Prop where
 len:N.length=n+ix.length
 cap:∀(j i:Nat)(x:Str),ix[j]?=some i->N[n+j]?=some x->X.N[i]?=some x/\scope.names.lookup x=some .free
theorem tz{cells:List (Str×ak)}{x:Str}{c:ak}:∀(names:List (Str×c5))(acc:List (Str×ak)),(gU names cells acc).lookup x=some c->(x,bE)∈names\/acc.lookup x=some c
 |[],acc,h=>.inr h
 | (n,k)::r,acc,h=>by
  unfold gU at h;rcases tz r _ h with q|q
  ·exact .inl (br _ q)
  ·split at q
   ·rename_i l;have e:k=.free:=by simpa using l
    subst e;split at q
    ·by_cases g:x=n
     ·subst g;exact .inl bO
     ·rw[vB g]at q;exact .inr q
    ·exact .inr q
   ·exact .inr q
theorem TJ{X:Cx}{scope:cZ}{cells:List (Str×ak)}{x:Str}{c:ak}(h:(gU scope.names cells []).lookup x=some c)(g:scope.names.lookup x=some .local\/scope.names.lookup x=some .cell)(S:gT X scope):False:=by
 rcases tz _ _ h with q|q
 ·rcases g with z|z
  ·exact S.own x q z
  ·exact S.once x q (aV z)
 ·cases q
section
variable{X:Cx}{a3:List (ak×Obj)}{σ:St}{H:Hp}{s:am}{scope:cZ}{N:List Str}{fp:List ak}
theorem Dr(I:Inv X a3 σ H s){x:Str}{c:ak}(h:(gU scope.names X.env.cells []).lookup x=some c):X.env.cells.lookup x=some c/\c < s.heap.objs.size/\(∃v,s.heap.IsCell c v)/\H c=none:=by
 rcases uO _ _ h with q|q
 ·obtain⟨v,z⟩:=I.cell x c q;exact⟨q,z.lt,⟨v,z⟩,I.freeC x c q⟩
 ·cases q
theorem Vb(I:Inv X a3 σ H s)(S:gT X scope)(l:∀b∈fp,pQ X a3 H b)(C:∀b∈fp,b < s.heap.objs.size):(oq X N scope fp s H).Ok:=by
 have inj:∀x y c,(bF (s.heap.objs.size+1) scope.names (gU scope.names X.env.cells [])).lookup x=some c->(bF (s.heap.objs.size+1) scope.names (gU scope.names X.env.cells [])).lookup y=some c->x=y:=
  Jt scope.names _ _ (λx y c h1 h2=>I.ok.inj x y c (Dr I h1).1 (Dr I h2).1) λx c h=>gQ (Dr I h).2.1
 refine⟨I.ok.mod,S.kind,I.ok.glob,I.ok.blt,ax _,inj,λx hx=>?_,λx c hf E=>?_,I.ok.hd,I.ok.frames,.inl rfl,λb B=>?_,I.bs,cF I.ok.bsz I.sz,λb o e B=>?_,λb B z=>?_,I.stack,I.stkFree⟩
 ·have g:(iW scope X.env).names.lookup x=some .cell\/(iW scope X.env).names.lookup x=some .free:=hx;rw[Cv]at g;cases e:scope.names.lookup x with
  |none=>rw[e]at g;rcases g with z|z<;>cases z
  |some k=>
   refine dH.mp (iM scope.names _ _ ?_);cases k with
   |cell=>exact .inl e
   |free=>
    have Q:=aV e;obtain⟨c,E⟩:=I.ok.has x (S.free x Q);exact .inr (by rw[E5 E scope.names [] (.inl Q) λd hd=>by cases hd];rfl)
   |_=>
    rw[e]at g;rcases g with z|z<;>(simp at z)
 ·have u:(bF (s.heap.objs.size+1) scope.names (gU scope.names X.env.cells [])).lookup x=some c:=E;rcases kD _ _ _ u with q|q
  ·exact Nat.le_of_succ_le q
  ·exfalso
   have G:scope.names.lookup x=some .local\/scope.names.lookup x=some .cell:=of_decide_eq_true hf;exact TJ q G S
 ·obtain⟨Y,O,L,f3,J,U⟩:=l b B;refine⟨aR (C b B),λx c E z=>?_⟩;have u:(bF (s.heap.objs.size+1) scope.names (gU scope.names X.env.cells [])).lookup x=some c:=E;rcases kD _ _ _ u with q|q
  ·rw[z]at q;exact ba (aZ (gQ (C b B)) q) (cy _)
  ·exact J x c (Dr I q).1 z
 ·obtain⟨Y,O,L,f3,J,U⟩:=l b B;rcases f3 with z|z
  ·exact I.ok.noex b o e z
  ·exact ba (aZ (aZ (aD e) I.ok.bsz) z) (cy _)
 ·obtain⟨Y,O,L,f3,J,U⟩:=l b B;rcases aI.mp (I.stkSub b z) with q|q
  ·exact O q
  ·exact L q
noncomputable abbrev qq(h:bw)(scope:cZ):bw:=v6 (h.push { cls:=.type "dict",data:=.dict #[] }) scope.names
theorem LS(h:bw)(scope:cZ):∀b o,h.get? b=some o->(qq h scope).get? b=some o:=λb o e=>lH _ _ b o (ah _ e)
theorem W2{n:Nat}{ix:List Nat}(I:Inv X a3 σ H s)(S:gT X scope)(T:iY X scope N n ix)(O:∀b∈fp,pQ X a3 H b)(L:∀b∈fp,b < s.heap.objs.size):
  Inv (oq X N scope fp s H) [] (xT n ix σ) H { s with heap:=qq s.heap scope }:=by
 have B:=LS s.heap scope;have G:(qq s.heap scope).Ns s.heap.objs.size λ_=>none:=(Au s.heap (.type "dict")).keeps (lH _ _);have cells : ∀x c, (bF (s.heap.objs.size+1) scope.names (gU scope.names X.env.cells [])).lookup x = some c ->
   (∃v,(qq s.heap scope).IsCell c v)/\H c=none:=λx c h=>by
  have h':(bF (s.heap.push { cls:=.type "dict",data:=.dict #[] }).objs.size scope.names (gU scope.names X.env.cells [])).lookup x=some c:=by rw[cw];exact h
  rcases kM _ _ _ h' with q|⟨q,z⟩
  ·obtain⟨_,_,⟨v,hv⟩,hn⟩:=Dr I q;exact⟨⟨v,hv.keeps B⟩,hn⟩
  ·refine⟨⟨none,q⟩,I.hok.fresh ?_⟩;rw[cw]at z;ext
 refine⟨Vb I S O L,rfl,I.bare,Un.kept B,⟨_,G,λi x v h1 h2 h3=>?_⟩,λx c h=>(cells x c h).1,I.hok.fresh (ax _),λx c h=>(cells x c h).2,λp hp=>ba (show p∈([]:List (ak×Obj)) from hp) (by simp),I.hok.kept B,?_⟩
 ·have U:N[i]?=some x:=h1;have g:(az n none++ix.map λi=>(σ[i]?).join)[i]?=some (some v):=h2;have hi:n<=i:=qQ λz=>by rw[ar (by simpa using z),fV]at g;split at g<;>cases g
  rw[bb (by simpa using hi),cI,ao]at g;cases e:ix[i-n]? with
  |none=>rw[e]at g;cases g
  |some k=>
   rw[e]at g;have C:(σ[k]?).join=some v:=aM g;have O:σ[k]?=some (some v):=by
    cases q:σ[k]? with
    |none=>rw[q]at C;cases C
    |some o=>rw[q]at C;exact cU some C
   obtain⟨hN,l⟩:=T.cap (i-n) k x e (by rw[show n+(i-n)=i by ext];exact U);have J:=aV l;have Y:=S.free x J;obtain⟨m,hn,L⟩:=I.loc;obtain⟨u,G,H⟩:=L k x v hN O (by
    rcases Y with z|z
    ·exact .inr (.inl z)
    ·exact .inr (.inr z))
   have E:∃c,X.env.cells.lookup x=some c/\s.heap.IsCell c (some u):=by
    rcases H with ⟨z,_⟩|⟨_,c,Q,q⟩
    ·rcases Y with y|y<;>(rw[y]at z;cases z)
    ·exact⟨c,Q,q⟩
   obtain⟨c,Q,q⟩:=E;refine⟨u,G,.inr ⟨?_,c,?_,q.keeps B⟩⟩
   ·show (iW scope X.env).names.lookup x=some .cell\/(iW scope X.env).names.lookup x=some .free;rw[Cv,l,df];by_cases h:(bE == bE&&X.env.scope.kind == .function&&X.env.kindOf x == some .cell)=true
    ·rw[aJ h];exact .inl rfl
    ·rw[aG h];exact .inr rfl
   ·show (bF (s.heap.objs.size+1) scope.names (gU scope.names X.env.cells [])).lookup x=some c;rw[IP _ _ _ (S.once x J)];exact E5 Q scope.names [] (.inl J) λd hd=>by cases hd
 ·show (az n none++ix.map λi=>(σ[i]?).join).length=N.length;rw[aN,cI,af,T.len]
def uU(C:TI)(n:Nat)(ix:List Nat)(g:TG)(E:TT)(G:TE):TE:=λσ H Q=>C σ H λJ B=>∀l,B l=none->∃W:Nat->Nat->St->Hp->Prop,(∃m,W 0 m (xT n ix σ) (fw B l (.lst []))) /\
 ∀i m σ' h,W i m σ' h->(J.stop i h/\Q (.ref l) h)\/(J.go i h/\∀x u,J.yld i h x u->g x σ' u λσ2 I=>E σ2 I λb q=>
  if b=true then G σ2 q λv o=>∃ys,o l=some (.lst ys)/\ys.length < sizeLine/\∃c,c < m/\W (i+1) c σ2 (fw o l (.lst (ys++[v]))) else ∃c,c < m/\W (i+1) c σ2 q)
def vA(X:Cx)(c:List Expr)(g:TT):Prop:=
 ∀(a3:List (ak×Obj))(s:am)(σ:St)(H:Hp)(Q:Bool->Hp->Prop),Inv X a3 σ H s->g σ H Q->aF (aW X.prog X.w) X.A (Ad c X.env) (TP X a3 σ Q) X.xe s
theorem Po:vA X [] (λ_ H Q=>Q true H):=λa3 s σ H Q I h=>wpAny_tests_nil ⟨H,I,h⟩
theorem PH{c:Expr}{g:TT}(h:PT X c g):vA X [c] g:=λa3 s σ H Q I q=>wpAny_tests_one (h a3 s σ H Q I q)
structure uL(X:Cx)(a3:List (ak×Obj))(C:ak)(H:Hp)(s:am):Prop where
 ns:∃m,s.heap.Ns C m
 free:H C=none
 loc:C≠X.env.locals
 cell:∀x c,X.env.cells.lookup x=some c->c≠C
 sz:X.s₀.heap.objs.size<=C
 pin:∀p∈X.pn++a3,p.1≠C
theorem uL.go{C:ak}{h':bw}(c:uL X a3 C H s)(I:Inv X a3 σ H s)(g:c7 C s.heap h'):Inv X a3 σ H { s with heap:=h' }:=
 I.turned (t':=s.toks) (λb o h e=>(g.2 b h).trans e) c.free c.loc (.inr c.sz) c.cell c.pin
theorem Md{elt B iter:Expr}{ifs:List Expr}{pos:Pos}{n:Nat}{ix:List Nat}{wi:TI}{g:TG}{tt:TT}{te:TE}{use:Option (ab->Sem Unit)}{Q:ab->am->Prop}{QH:VK}
  (hc:X.calm=true) (S:gT X scope) (T:iY X scope N n ix) (hi:PI X B iter wi)
  (blk:∀(fp:List ak)(s:am)(H:Hp),PG (oq X N scope fp s H) B g/\vA (oq X N scope fp s H) ifs tt/\PE (oq X N scope fp s H) elt te)
  (hs:∀x,fj iter X.env x=pure x) (I:Inv X a3 σ H s) (h:uU wi n ix g tt te σ H QH)
  (fin:∀(l C:ak)(G:Hp)(Y:am),Inv X a3 σ G Y->QH (.ref l) G->uL X a3 C G Y->compPost (aW X.prog X.w) X.A X.xe use Q (.ref l) C (.ok .next) Y):
  aF (aW X.prog X.w) X.A (comprehension (.ListComp elt [⟨B,iter,ifs,0⟩] scope pos) scope X.env (firstIterPos [⟨B,iter,ifs,0⟩] pos) (newList []) false (eval iter X.env) use) Q X.xe s:=by
 have hclos:uv scope X.env=pure (gU scope.names X.env.cells []):=LY λx hx=>I.ok.has x (S.free x hx);refine wpAny_comprehension_free rfl hs hclos S.kind S.names ?_;refine gj (hi a3 s σ H _ I h) λv s1 h1=>gj h1 λitv U h2=>?_;obtain⟨it,fp,tn,J,H2,rfl,I2,TT,st2,f2,rest⟩:=h2;refine bM (hd:=by size_fits) ?_;have hf2:H2 U.heap.objs.size=none:=I2.hok.fresh (ax _);obtain⟨W,⟨m0,w0⟩,turn⟩:=rest _ hf2;have fl:∀b∈fp,b < U.heap.objs.size:=λb E=>by obtain⟨o,e,_⟩:=TT.obj _ _ st2 b E;exact aD e
 have f3:∀b∈fp,pQ X a3 (fw H2 U.heap.objs.size (.lst [])) b:=λb E=>by obtain⟨f0,fr⟩:=f2 b E;refine⟨?_,fr⟩;rw[fM (aR (fl b E))];exact f0
 have I3:Inv X a3 σ (fw H2 U.heap.objs.size (.lst [])) { U with heap:=U.heap.push { cls:=.type "list",dict:=none,data:=.seq ([]:List ab).toArray } }:=
  I2.laid (t':=U.toks) (λb o e=>ah _ e) (ax _) ⟨bn _,[],0,.nil,aB _ rfl⟩
 have tn3:tn 0 (U.heap.push { cls:=.type "list",dict:=none,data:=.seq ([]:List ab).toArray }):=TT.keep _ _ _ st2 λb E o e=>ah _ e;have fl3:∀b∈fp,b < (U.heap.push { cls:=.type "list",dict:=none,data:=.seq ([]:List ab).toArray }).objs.size:=λb E=>by rw[cw];exact gQ (fl b E)
 generalize U.heap.objs.size=l at *;generalize hs3:({ U with heap:=U.heap.push { cls:=.type "list",dict:=none,data:=.seq ([]:List ab).toArray } }:am)=L at *;have e3:U.heap.push { cls:=.type "list",dict:=none,data:=.seq ([]:List ab).toArray }=L.heap:=by rw[<- hs3]
 rw[e3]at tn3 fl3;generalize fw H2 l (.lst [])=O at *;refine PJ ?_;have I4:=W2 (N:=N) (n:=n) (ix:=ix) I3 S T f3 fl3;obtain⟨bg,bt,be⟩:=blk fp L O;have tn4:tn 0 (qq L.heap scope):=TT.keep _ _ _ tn3 λb E o e=>LS _ _ _ _ e;have fr4:∀b∈fp,O b=none:=λb E=>(f3 b E).1
 show gK (aW X.prog X.w) X.A (.compStart (.ListComp elt [⟨B,iter,ifs,0⟩] scope pos) 0 (.ref it) (.ref l) (oq X N scope fp L O).env) (compPost (aW X.prog X.w) X.A X.xe use Q (.ref l) L.heap.objs.size) { L with heap:=qq L.heap scope };have fpx:∀{σ':St}{G:Hp}{Y:am},Inv (oq X N scope fp L O) [] σ' G Y->(∀b∈fp,G b=none)->∀b∈fp,pQ (oq X N scope fp L O) [] G b:=λI' hn b E=>by have q:=I'.ok.exf b E;exact⟨hn b E,q.1,I'.ok.exfs b E,.inl E,q.2,λp hp=>ba (show p∈([]:List (ak×Obj)) from hp) (by simp)⟩
 have hc':(oq X N scope fp L O).calm=true:=hc;have loop:gK (aW X.prog X.w) X.A (.compLoop (.ListComp elt [⟨B,iter,ifs,0⟩] scope pos) 0 (.ref it) (.ref l) (oq X N scope fp L O).env) (compPost (aW X.prog X.w) X.A X.xe use Q (.ref l) L.heap.objs.size) { L with heap:=qq L.heap scope }:=by
  refine VS (λk Y=>∃i σ' G,Inv (oq X N scope fp L O) [] σ' G Y/\tn i Y.heap/\(∀b∈fp,G b=none)/\W i k σ' G) ?_ m0 ⟨0,_,O,I4,tn4,fr4,w0⟩
  rintro k s5 ⟨i,σ5,H5,I5,tn5,fr5,w5⟩
  rcases turn i k σ5 H5 w5 with ⟨stop,q⟩|⟨go,step⟩
  ·refine gj (TT.done (oq X N scope fp L O) rfl rfl rfl hc' i [] s5 σ5 H5 zH I5 (fpx I5 fr5) tn5 stop) λr s6 h=>?_;obtain⟨hr,g⟩:=h;subst hr;have G:Inv X a3 σ H5 s6:=I3.call' g.os g.base g.hok g.bare λb E=>by obtain⟨I,C,H,B,u,o⟩:=f3 b E;exact⟨B,C,u,o⟩
   obtain⟨m,hn,_⟩:=g.loc;refine fin l L.heap.objs.size H5 s6 G q ⟨⟨m,hn⟩,g.free,d_ I3.lt,λx c e=>?_,I3.sz,λp hp=>?_⟩
   ·obtain⟨v,z⟩:=I3.cell x c e;exact aR z.lt
   ·exact aR (aD (I3.pin p hp).1)
  ·refine gj (TT.item (oq X N scope fp L O) rfl rfl rfl hc' i [] s5 σ5 H5 zH I5 (fpx I5 fr5) tn5 go) λr s6 I=>?_;obtain⟨u,hr,h6⟩:=I;subst hr;refine gj h6 λ_ s7 H=>?_;obtain⟨x,H7,I7,r7,y7,c,fr7⟩:=H;have I7':=I7.pinned (fpx I7 fr7) (TT.obj _ _ c);refine gj (bg _ s7 σ5 H7 x u _ I7' r7 (step x H7 y7)) λ_ s8 C=>?_;obtain⟨σ8,H8,I8,q8⟩:=C;refine gj (bt _ s8 σ8 H8 _ I8 q8) λok s9 B=>?_;obtain⟨H9,I9,q9⟩:=B;have again : ∀{Y : am}{G : Hp}, Inv (oq X N scope fp L O) ([] ++ qp fp s7.heap) σ8 G Y -> (∃Q, Q < k /\ W (i+1) Q σ8 G) ->
     ∃m,m < k/\∃i σ' G,Inv (oq X N scope fp L O) [] σ' G Y/\tn i Y.heap/\(∀b∈fp,G b=none)/\W i m σ' G:=λ{Y G}I' q=>by
    obtain⟨Q,hm,w'⟩:=q;refine⟨Q,hm,i+1,σ8,G,I'.unpinned,TT.keep _ _ _ c λb E o e=>(I'.pin (b,o) (bS _ (bS _ (He E e)))).1,λb E=>?_,w'⟩;obtain⟨o,e,d⟩:=TT.obj _ _ c b E;exact (I'.pin (b,o) (bS _ (bS _ (He E e)))).2.1
   cases ok with
   |false=>exact again I9 q9
   |true=>
    refine gj (be _ s9 σ8 H9 _ I9 q9) λxv U h=>?_;obtain⟨v,J,I10,r10,ys,hy,hz,q10⟩:=h;refine gj (NC (X:=oq X N scope fp L O) _ U σ8 J (.ref l) [v] (.ref l) [xv] (λ_ G=>G=fw J l (.lst (ys++[v]))) I10 rfl (.cons r10 .nil) ⟨l,ys,v,rfl,rfl,hy,hz,rfl⟩) λ_ s11 g=>?_;obtain⟨_,H11,I11,_,e⟩:=g;subst e;exact again I11 q10
 exact codeAny_compStart_list loop (TT.self _ 0 _ _ _ tn4 loop)
theorem VT{B o iter:Expr}{u:List Expr}{pos:Pos}{n:Nat}{ix:List Nat}{J:TI}{g:TG}{L:TT}{O:TE}
  (hc:X.calm=true) (S:gT X scope) (T:iY X scope N n ix) (hi:PI X o iter J)
  (G:∀(fp:List ak)(s:am)(H:Hp),PG (oq X N scope fp s H) o g/\vA (oq X N scope fp s H) u L/\PE (oq X N scope fp s H) B O)
  (U:∀x,fj iter X.env x=pure x:=by intro _;rfl):PE X (.ListComp B [⟨o,iter,u,0⟩] scope pos) (uU J n ix g L O):=by
 intro a3 s σ H Q I h;rw[eval_ListComp];refine Md (use:=none) hc S T hi G U I h λl C H' s' I' q c=>?_;obtain⟨m,Y⟩:=c.ns;exact⟨m,Y,λh' E=>⟨.ref l,H',c.go I' E,rfl,q⟩⟩
theorem Rr{E o iter:Expr}{B:List Expr}{pos u G:Pos}{n i:Nat}{ix:List Nat}{wi:TI}{g:TG}{tt:TT}{te:TE}{x:Str}
  (hN:X.N.Nodup) (Y:X.N[i]?=some x) (hx:L2.Loc X.env.scope x) (hf:X.fn x=true\/X.env.scope.names.lookup x=some .local)
  (hc:X.calm=true) (S:gT X scope) (T:iY X scope N n ix) (hi:PI X o iter wi)
  (blk:∀(fp:List ak)(s:am)(H:Hp),PG (oq X N scope fp s H) o g/\vA (oq X N scope fp s H) B tt/\PE (oq X N scope fp s H) E te)
  (O:i0 (.ListComp E [⟨o,iter,B,0⟩] scope pos) (some (.Name x u)) G.line X.env=pure true)
  (hs:∀x,fj iter X.env x=pure x:=by intro _;rfl):PS X (.Assign [.Name x u] (.ListComp E [⟨o,iter,B,0⟩] scope pos) G) (xO (uU wi n ix g tt te) (tB i)):=by
 intro a3 s σ H D I h;rw[exec_Assign_Name_used _ _ _ _ O];refine aa (vH (aa ?_))
 show aF _ _ (comprehension (.ListComp E [⟨o,iter,B,0⟩] scope pos) scope X.env _ (newList []) false (eval iter X.env) (some (n6 (.Name x u) X.env)) >>= λ_=>pure ()) _ _ s;refine aa (gJ (Md (use:=some (n6 (.Name x u) X.env)) (Q:=λ_ L=>SP X a3 D .next L) hc S T hi blk hs I h λl C H' L I' q c=>?_) (λ_ L hq=>ai (ai hq)) λ_ _ e=>e);obtain⟨m,hn⟩:=c.ns;refine CY (L0 I' hN Y hx (v:=.ref l) rfl (λs2 I2 ⟨b,hb,hb2⟩=>?_) hf);have J:b≠C:=by
  rcases hb2 with z|z
  ·rw[z];exact c.loc.symm
  ·exact c.cell x b z
 refine⟨m,hn.sameBut hb J.symm,λh' U=>⟨_,H',?_,q⟩⟩;exact uL.go ⟨⟨m,hn.sameBut hb J.symm⟩,c.free,c.loc,c.cell,c.sz,c.pin⟩ I2 U
end
section
variable{X:Cx}{a b c e:Expr}{es:List Expr}{pos:Pos}{fa fb fc:CE}{ca cb:CA}{K:ag}{ρ:List ak}{H:Hp}{st:aX}
theorem zr{K:ag}{f:Int->Int->M D}{x y:V}{H:Hp}{Q:VK}(h:py K (sj f) x y H Q):
  ∃(i j:Int)(ρ:List ak)(st:aX),x=.int i/\y=.int j/\SR K ρ H st/\aS K ρ H (f i j st) (λr _ ρ' g=>∀v,c_ K ρ' g v r->Q v g):=by
 obtain⟨ρ,st,d,e,sr,o,l,p⟩:=h;rcases wR f d e with ⟨i,j,rfl,rfl⟩|q
 ·exact⟨i,j,ρ,st,o.inv,l.inv,sr,p⟩
 ·rw[q]at p;exact p.elim
theorem VG:OpR X (eG .Sub) (py X.K n0):=Tg.of λx y H Q h=>by obtain⟨i,j,ρ,st,rfl,rfl,sr,p⟩:=zr h;exact⟨_,_,rfl,rfl,p.ret sr _ (.int _)⟩
theorem YQ:OpR X (eG .Mult) (py X.K qG):=Sx.of λx y H Q h=>by obtain⟨i,j,ρ,st,rfl,rfl,sr,p⟩:=zr h;exact⟨_,_,rfl,rfl,p.chk.1,p.chk.2.ret sr _ (.int _)⟩
theorem Yr:OpR X (eG .FloorDiv) (py X.K tL):=Tw.of λx y H Q h=>by obtain⟨i,j,ρ,st,rfl,rfl,sr,p⟩:=zr h;exact⟨_,_,rfl,rfl,p.chk.1,p.chk.2.ret sr _ (.int _)⟩
theorem UP:OpR X (eG .Mod) (py X.K pe):=S7.of λx y H Q h=>by obtain⟨i,j,ρ,st,rfl,rfl,sr,p⟩:=zr h;exact⟨_,_,rfl,rfl,p.chk.1,p.chk.2.ret sr _ (.int _)⟩
theorem RP:OpR X (eG .Pow) (py X.K wU):=Ru.of λx y H Q h=>by obtain⟨i,j,ρ,st,rfl,rfl,sr,p⟩:=zr h;exact⟨_,_,rfl,rfl,p.chk.1,p.chk.2.ret sr _ (.int _)⟩
theorem Vt:OpR X (cG .Lt) (py X.K zx):=WL.of λx y H Q h=>by obtain⟨i,j,ρ,st,rfl,rfl,sr,p⟩:=zr h;exact⟨_,_,rfl,rfl,p.ret sr _ (.bl _)⟩
theorem UQ:OpR X (cG .Gt) (py X.K CL):=Xt.of λx y H Q h=>by obtain⟨i,j,ρ,st,rfl,rfl,sr,p⟩:=zr h;exact⟨_,_,rfl,rfl,p.ret sr _ (.bl _)⟩
theorem YJ:OpR X (cG .GtE) (py X.K G0):=R1.of λx y H Q h=>by obtain⟨i,j,ρ,st,rfl,rfl,sr,p⟩:=zr h;exact⟨_,_,rfl,rfl,p.ret sr _ (.bl _)⟩
theorem NT:SA X [] aH:=tX.of λσ H Q g=>g.el λρ l st h sr p=>p.ret sr [] .nil
theorem LF(U:SE X e fa)(O:SA X es ca)(L:starEach (e::es) X.env=(false,eval e X.env)::starEach es X.env:=by rfl):SA X (e::es) (ac fa ca):=
 (rj U O L).of λσ H Q Y=>Y.el λρ l st o sr p=>⟨ρ,l,st,o,sr,p.bnd.imp λd g ρ1 H1 u E J v G=>⟨ρ1,l,g,o.mono u,E,J.bnd.imp λds B ρ2 c q C I vs h=>I.ret C _ (.cons (G.mono q) h)⟩⟩
theorem W7{k:Nat}(h:SA X es ca):SE X (.Tuple es k pos) (bo ca):=(Yb h).of λσ H Q J=>J.el λρ l st G sr p=>⟨ρ,l,st,G,sr,p.bnd.imp λds u ρ1 O L B E vs g=>by obtain⟨I,C⟩:=E.chk;refine⟨by rw[g.length];exact I,λq o=>?_⟩;exact C ρ1 _ (Ex.new o) (B.new o) _ (.tup (lx.of iP) (g.mono (Ex.new o)))⟩
theorem X5(h:SA X es ca):SL X (.List es pos) (eV ca):=(VR h).of λσ H Q U=>U.el λρ l st J sr p=>⟨ρ,l,st,J,sr,p.bnd.imp λds E ρ1 Y C B I vs g=>by
 obtain⟨O,G⟩:=I.chk;refine⟨by rw[g.length];exact O,λq u=>?_⟩;have L:H q=none:=by
  cases z:H q with
  |none=>rfl
  |some o=>exact ba u (C.trk q o z)
 exact G ρ1 _ (Ex.new u) (B.new u) q vs L (B.fresh u) iP (g.mono (Ex.new u))⟩
theorem aS.bnd0{α β:Type}{m:M α}{f:α->M β}{R:β->aX->List ak->Hp->Prop}(h:aS K ρ H (MM.bnd m f st) R):aS K ρ H (m st) λa g _ _=>aS K ρ H (f a g) R:=by
 unfold MM.bnd at h;cases e:m st with
 |ok a s'=>
  rw[e]at h;exact λρ' l y s=>h
 |exc _ _=>rw[e]at h;exact h
 |bad=>rw[e]at h;exact h
theorem Xv(h:SL X e ca):SE X e (cY ca):=h.of λσ H Q L=>L.el λρ l st I sr p=>⟨ρ,l,st,I,sr,p.bnd0.imp λds C ρ1 B o u E a vs J G hv q=>by
 have x:Ex ρ H (ρ1++[a]) B:=by
  obtain⟨τ,e,f⟩:=o.pre;refine⟨⟨τ++[a],by rw[e,dG],λb g=>?_⟩,o.fix,o.oth,o.knd⟩;rcases aU.mp g with g|g
  ·exact f b g
  ·rw[aC]at g;rw[g];exact J
 refine E (ρ1++[a]) B x (u.keep hv G q) _ (.ref ⟨_,hv,rfl⟩ ?_);rw[<- u.len];simp⟩
theorem _root_.L2.IxR.of{r C:R2}(h:IxR X r)(g:∀x y H Q,C x y H Q->r x y H Q):IxR X C:=λl o B s σ H x y v u Q I G E q J=>h l o B s σ H x y v u Q I G E (g x y H Q q) J
theorem aS.item{ds:List D}{i:Int}{R:D->aX->List ak->Hp->Prop}(h:aS K ρ H (c6 ds i st) R)(s:SR K ρ H st):∃k d,L2.pY ds.length i=some k/\ds[k]?=some d/\R d st ρ H:=by
 unfold c6 at h;cases e:MM.pY ds.length i with
 |none=>rw[e]at h;exact h.elim
 |some k=>
  rw[e]at h;cases g:ds[k]? with
  |none=>dsimp only at h;rw[g]at h;exact h.elim
  |some d=>dsimp only at h;rw[g]at h;exact⟨k,d,e,g,h.ret s⟩
theorem Ge{vs:List V}{ds:List D}{i:Int}{k:Nat}{d:D}(r:bA K ρ H vs ds)(l:L2.pY ds.length i=some k)(h:ds[k]?=some d):∃v,z9 vs i=some v/\c_ K ρ H v d:=by obtain⟨v,e,g⟩:=r.get h;refine⟨v,?_,g⟩;unfold z9;rw[r.length,l];exact e
theorem aS.itemK{n:Nat}{k:D}{R:D->aX->List ak->Hp->Prop}(h:aS K ρ H (MM.itemK n k st) R)(s:SR K ρ H st):∃b g d,st[n]?=some (.dct b g)/\oV b k=true/\kJ g k=some d/\R d st ρ H:=by
 obtain⟨b,g,e,q⟩:=aS.getDc (aS.bnd h) s;obtain⟨u,l⟩:=aS.chk q;cases o:kJ g k with
 |none=>dsimp only at l;rw[o]at l;exact l.elim
 |some d=>dsimp only at l;rw[o]at l;exact⟨b,g,d,e,u,o,l.ret s⟩
theorem mB.dictIs{X:Cx}{h:List (ak×Obj)}{σ:St}{s:am}{a:ak}{b:Bool}{l:List (D×D)}(I:Inv X h σ H s)(g:mB X.K ρ H a (.dct b l)):s.TypeIs (.ref a) "dict":=by
 cases b with
 |false=>
  obtain⟨es,e,r⟩:=g;obtain⟨_,_,vs,_,o⟩:=Jj I.hok e;exact o.typeIs
 |true=>
  obtain⟨es,e,r⟩:=g;obtain⟨_,_,xs,_,o,_⟩:=yS I e r;exact o.typeIs
theorem Qm(hu:X.A.units+60 < cL):IxR X (λx y H Q=>∃(ρ:List ak)(st:aX)(n:Nat)(a:ak)(b:Bool)(l:List (D×D))(k d:D),x=.ref a/\SR X.K ρ H st/\ρ[n]?=some a/\st[n]?=some (.dct b l)/\c_ X.K ρ H y k/\oV b k=true/\kJ l k=some d/\∀v,c_ X.K ρ H v d->Q v H):=by intro o B E s σ H x y v u Q I J G h U;obtain⟨ρ,st,n,a,b,l,k,d,ex,sr,ha,Y,O,hk,c,q⟩:=h;subst ex;cases J;have g:=sr.ob n a _ ha Y;exact tail_any (mB.dictIs I g) PySem.F.slot_dict_getitem.lookup (Vr (by ext) I g O hk c G λv w' s' I' L C=>⟨v,H,I',C,q v L⟩) U
theorem VL{x y:V}{d e:D}{Q:VK}(sr:SR K ρ H st)(C:c_ K ρ H x d)(J:c_ K ρ H y e)(hd:∀n,d≠.dic n)(p:aS K ρ H (aQ d e st) λr _ ρ' I=>∀v,c_ K ρ' I v r->Q v I):Ot K x y H Q:=by
 cases e with
 |int i=>
  obtain rfl:y=.int i:=J.inv;cases d with
  |dic _=>exact ba rfl (hd _)
  |tup ds=>
   obtain⟨_,_,rfl,h,r⟩:=C.inv;obtain⟨k,d,B,u,q⟩:=aS.item p sr;obtain⟨v,o,l⟩:=Ge r B u;exact .inr (.inl ⟨_,_,i,v,rfl,rfl,h,o,q v l⟩)
  |lit ds=>
   obtain⟨_,_,rfl,h,r⟩:=C.inv;obtain⟨k,d,B,u,q⟩:=aS.item p sr;obtain⟨v,o,l⟩:=Ge r B u;exact .inl ⟨_,_,i,v,rfl,rfl,h.seq,o,q v l⟩
  |ref n=>
   obtain⟨_,rfl,_,h⟩:=C.inv;obtain⟨xs,e,g⟩:=aS.getL (aS.bnd p) sr;obtain⟨a,vs,G,hv,r⟩:=sr.seq e;rw[h]at G;cases G;obtain⟨k,d,B,u,q⟩:=aS.item g sr;obtain⟨v,o,l⟩:=Ge r B u;exact .inl ⟨_,_,i,v,rfl,rfl,g8.of hv,o,q v l⟩
  |str z=>
   obtain rfl:x=.str z:=C.inv;obtain⟨hz,g⟩:=aS.chk p;cases e:MM.pY z.length i with
   |none=>rw[e]at g;exact g.elim
   |some k=>
    rw[e]at g;cases E:z.cps.toList[k]? with
    |none=>dsimp only at g;rw[E]at g;exact g.elim
    |some c=>
     dsimp only at g;rw[E]at g;refine .inr (.inr ⟨z,i,c,rfl,rfl,hz,?_,g.ret sr _ (.str _)⟩);unfold z9;rw[show z.cps.toList.length=z.length by simp[Str.length]]
     show (L2.pY z.length i).bind _=_;rw[show L2.pY z.length i=some k from e];exact E
  |_=>exact p.elim
 |_=>cases d<;>first|exact ba rfl (hd _)|exact p.elim
theorem Vn(hu:X.A.units+60 < cL):IxR X (py X.K aQ):=(R9.or (Qm hu)).of λx y H Q g=>by
 obtain⟨ρ,st,d,e,sr,u,o,p⟩:=g;by_cases hd:∃n,d=.dic n
 ·obtain⟨n,rfl⟩:=hd;obtain⟨a,rfl,_,h⟩:=u.inv;have C:aS X.K ρ H (itemK n e st) λr _ ρ' B=>∀(v:V),c_ X.K ρ' B v r->Q v B:=p;obtain⟨b,l,d,I,G,E,q⟩:=aS.itemK C sr;exact .inr ⟨ρ,st,n,a,b,l,e,d,rfl,sr,h,I,o,G,E,q⟩
 ·exact .inl (VL sr u o (λn z=>hd ⟨n,z⟩) p)
theorem QA(hu:X.A.units+60 < cL)(o:SE X a fa)(l:SE X b fb)(g:p9 b):SE X (.Subscript a b pos) (c2 aQ fa fb):=(Nc (Vn hu) o l g).of (Gp λ_ _ _ _ h=>h)
theorem U_(E:SL X a ca)(hb:SE X b fb)(hs:p9 b):SE X (.Subscript a b pos) (kF ca fb):=(Nc Pf E hb hs).of λσ H Q h_=>h_.el λρ l st C sr p=>
 ⟨ρ,l,st,C,sr,p.bnd.imp λds g ρ1 H1 G L Y a vs E c hv h=>⟨ρ1,l,g,C.mono G,L,Y.bnd.imp λe I ρ2 H2 o J B u U=>by
  cases e with
  |int i=>
   cases (show u=.int i from U.inv);obtain⟨k,d,h1,h2,q⟩:=aS.item B J;obtain⟨v,h3,O⟩:=Ge (h.mono o) h1 h2;exact⟨a,vs,i,v,rfl,rfl,g8.of (o.lst a vs c hv),h3,q v O⟩
  |_=>exact B.elim⟩⟩
theorem W8{E:wJ}{k n:Nat}{f:ak}{C:cV}{ps:List Str}{g:List D->M D}{x:Str}{p:Pos}(F:mC X.prog X.w X.K X.mg X.base E k f C ps (mT X.K n g))(J:im k X.A)(Y:Gl X x)(O:X.mg x=some (.ref f))
  (U:da X.K (.ref f)=true) (hb:Binds X.K C ps []) (I:sA E X E0) (ha:SA X (e::es) ca) (L:∀l st ds o,ca l st=.ok ds o->ds.length=n) (B:(x == ("__debug__":Str))=false:=by decide)
  (c:starEach (e::es) X.env=(false,eval e X.env)::starEach es X.env:=by rfl) (u:(backTo pos (starEach es X.env)).any (·.1)=false:=by rfl):SE X (.Call (.Name x p) (e::es) [] pos) (bu g ca):=
 (Rl F J Y O U hb .nil I ha B c u).of λσ H Q h_=>h_.el λρ l st G sr p=>⟨ρ,l,st,G,sr,by
  have q:=aS.bnd p;cases h:ca l st with
  |bad=>rw[h]at q;exact q
  |exc _ _=>rw[h]at q;exact q
  |ok ds a8=>
   rw[h]at q;intro ρ1 H1 x1 s1 vs rvs;refine⟨by rw[dm,rvs.length];exact L l st ds a8 h,ρ1,a8,ds,s1,by rw[dm];exact rvs,q ρ1 H1 x1 s1⟩⟩
variable{ta tb:CT}
theorem S_{d:D}{v:V}{R:Bool->aX->List ak->Hp->Prop}(p:aS K ρ H (zt d st) R)(sr:SR K ρ H st)(l:c_ K ρ H v d):∃k,BP K v H k/\R k st ρ H:=by
 cases l with
 |non=>exact⟨false,rfl,p.ret sr⟩
 |bl b=>exact⟨b,rfl,p.ret sr⟩
 |int i=>exact⟨_,rfl,p.ret sr⟩
 |str x=>exact⟨_,⟨(aS.chk p).1,rfl⟩,(aS.chk p).2.ret sr⟩
 |@tup a vs ds h r=>
  refine⟨!vs.isEmpty,.inr (.inl ⟨vs,h,rfl⟩),?_⟩;have:vs.isEmpty=ds.isEmpty:=by have:=r.length;cases vs<;>cases ds<;>simp_all
  rw[this];exact p.ret sr
 |@lit a vs ds h r=>
  refine⟨!vs.isEmpty,.inl ⟨vs,h.seq,rfl⟩,?_⟩;have:vs.isEmpty=ds.isEmpty:=by have:=r.length;cases vs<;>cases ds<;>simp_all
  rw[this];exact p.ret sr
 |ref _ h=>
  obtain⟨ds,e,o⟩:=aS.getL (aS.bnd p) sr;obtain⟨a,vs,g,hv,r⟩:=sr.seq e;rw[h]at g;cases g;refine⟨!vs.isEmpty,.inl ⟨vs,g8.of hv,rfl⟩,?_⟩;have:vs.isEmpty=ds.isEmpty:=by have:=r.length;cases vs<;>cases ds<;>simp_all
  rw[this];exact o.ret sr
 |_=>exact p.elim
theorem WJ(C:SE X a fa)(B:∀whole,isTrue a X.env whole=(do let v <- whole;wY a.pos;mH [v] (truthy v)):=by intro _;rfl):ST X a (sD fa):=
 (R8 C B).of λσ H Q E=>E.el λρ l st u sr p=>⟨ρ,l,st,u,sr,p.bnd.imp λd g ρ1 I G h q v o=>S_ q h o⟩
theorem Xb{op:uo}{g:D->D->M D}(E:OpR X (cG op) (py X.K g))(J:SE X a fa)(I:SE X b fb)(G:iR op b=false):ST X (.Compare a [op] [b] pos) (dg (c2 g fa fb)):=
 (Va E J I G).of λσ H Q L=>L.el λρ l st C sr p=>Gp (X:=X) (λ_ _ _ _ h=>h) _ _ _ ⟨ρ,l,st,C,sr,p.bnd.imp λd q ρ1 U O u o v B=>by
  cases d with
  |bl k=>cases (show v=.bl k from B.inv);exact⟨k,rfl,o.ret u⟩
  |_=>exact o.elim⟩
theorem YU(g:ST X a ta):PW X (.BoolOp .And [a] pos) (pP X.K ta):=X_ g
theorem W6(g:ST X a ta):PW X (.BoolOp .Or [a] pos) (pP X.K ta):=Yc g
theorem _root_.L2.PW.of{e:Expr}{t t':TT}(h:PW X e t)(f:∀σ H Q,t' σ H Q->t σ H Q):PW X e t':=λwhole g s σ H Q I q=>h whole g s σ H Q I (f σ H Q q)
theorem UX{rest:List Expr}(C:ST X a ta)(B:PW X (.BoolOp .And (b::rest) pos) (pP X.K tb)):PW X (.BoolOp .And (a::b::rest) pos) (pP X.K (qK ta tb)):=
 (X4 C B).of λσ H Q E=>E.el λρ l st q sr p=>⟨ρ,l,st,q,sr,p.bnd.imp λc g ρ1 G u h o=>by
  cases c with
  |true=>exact⟨ρ1,l,g,q.mono u,h,o⟩
  |false=>exact o.ret h⟩
theorem Vg{rest:List Expr}(C:ST X a ta)(B:PW X (.BoolOp .Or (b::rest) pos) (pP X.K tb)):PW X (.BoolOp .Or (a::b::rest) pos) (pP X.K (wB ta tb)):=
 (Vc C B).of λσ H Q E=>E.el λρ l st q sr p=>⟨ρ,l,st,q,sr,p.bnd.imp λc g ρ1 G u h o=>by
  cases c with
  |true=>exact o.ret h
  |false=>exact⟨ρ1,l,g,q.mono u,h,o⟩⟩
theorem TQ(u:ST X a ta):ST X (.UnaryOp .Not a pos) (sX ta):=(TU u).of λσ H Q B=>B.el λρ l st q sr p=>⟨ρ,l,st,q,sr,p.bnd.imp λc g ρ1 E C h o=>o.ret h⟩
theorem MZ{op:BoolOp}(h:SE X a fa):SE X (.BoolOp op [a] pos) fa:=Ry h
theorem RM{rest:List Expr}(E:SE X a fa)(C:SE X (.BoolOp .And (b::rest) pos) fb):SE X (.BoolOp .And (a::b::rest) pos) (tj fa fb):=
 (QC E C).of λσ H Q G=>G.el λρ l st q sr p=>⟨ρ,l,st,q,sr,p.bnd.imp λd g ρ1 I u o h v B=>by
  cases d with
  |bl c=>
   cases (show v=.bl c from B.inv);refine⟨c,rfl,?_⟩;cases c with
   |true=>exact⟨ρ1,l,g,q.mono u,o,h⟩
   |false=>exact h.ret o _ (.bl false)
  |_=>exact h.elim⟩
theorem QL{rest:List Expr}(E:SE X a fa)(C:SE X (.BoolOp .Or (b::rest) pos) fb):SE X (.BoolOp .Or (a::b::rest) pos) (OE fa fb):=
 (T9 E C).of λσ H Q G=>G.el λρ l st q sr p=>⟨ρ,l,st,q,sr,p.bnd.imp λd g ρ1 I u o h v B=>by
  cases d with
  |bl c=>
   cases (show v=.bl c from B.inv);refine⟨c,rfl,?_⟩;cases c with
   |true=>exact h.ret o _ (.bl true)
   |false=>exact⟨ρ1,l,g,q.mono u,o,h⟩
  |_=>exact h.elim⟩
theorem UN(B : ST X c ta)(E : SE X a fa)(C : SE X b fb): SE X (.IfExp c a b pos) (wM ta fa fb) := (Q3 B E C).of λσ H Q G => G.el λρ l st h sr p => ⟨ρ, l, st, h, sr, p.bnd.imp λk g ρ1 I o q u => by
  cases k with
  |true=>exact⟨ρ1,l,g,h.mono o,q,u⟩
  |false=>exact⟨ρ1,l,g,h.mono o,q,u⟩⟩
end
theorem LR.set{K:ag}{ρ:List ak}{H:Hp}{σ:St}{l:Loc}{v:V}{d:D}(h:LR K ρ H σ l)(i:Nat)(r:c_ K ρ H v d):LR K ρ H (σ.set i (some v)) (l.set i (some d)):=by
 refine⟨by simp[h.1],λj e q=>?_⟩;by_cases z:i=j
 ·subst z;by_cases c:i < l.length
  ·rw[aE c]at q;cases q;exact⟨v,by rw[aE (by rw[h.1];exact c)],r⟩
  ·rw[bH (by simp;ext)]at q;cases q
 ·rw[au z]at q;obtain⟨w,o,g⟩:=h.2 j e q;exact⟨w,by rw[au z];exact o,g⟩
theorem LR.start{K:ag}{ρ:List ak}{H:Hp}{N:List Str}{vs:List V}{ds:List D}(r:bA K ρ H vs ds):LR K ρ H (L2.start N vs) (ds.map some++az (N.length-ds.length) none):=by
 have h:=r.length;unfold L2.start;refine⟨by simp[h],λi d e=>?_⟩;by_cases c:i < ds.length
 ·rw[ar (by simpa using c),ao]at e;cases q:ds[i]? with
  |none=>rw[q]at e;cases e
  |some d'=>
   rw[q]at e;have l:d'=d:=aM (aM e);subst l;obtain⟨v,hv,g⟩:=r.get q;refine⟨v,?_,g⟩;rw[ar (by simp;ext),ao,hv];rfl
 ·rw[bb (by simpa using c),fV]at e;split at e<;>cases e
section
variable{X:Cx}{a b c e tg:Expr}{es:List Expr}{s:Stmt}{ss:List Stmt}{pos:Pos}{fa fb fc:CE}{ca cb:CA}{ta tb:CT}{cs cr:CS}{K:ag}{ρ:List ak}{H:Hp}{st:aX}
abbrev SG(X:Cx)(e:Expr)(g:CG):Prop:=PG X e (zy X.K g)
abbrev BM(X:Cx)(e:List Expr)(g:List D->Loc->M Loc):Prop:=PGs X e (E3 X.K g)
theorem Sk{i:Nat}{x:Str}(h:PG X (.Name x pos) (tB i)):SG X (.Name x pos) (aO i):=h.of λv σ H Q g=>by obtain⟨ρ,l,st,d,q,sr,o,p⟩:=g;exact p.ret sr _ (q.set i o)
theorem Yd:BM X [] ib:=R5.of λvs σ H Q g=>by
 obtain⟨ρ,l,st,ds,o,sr,h,p⟩:=g;cases h with
 |nil=>exact⟨rfl,p.ret sr σ o⟩
 |cons _ _=>exact p.elim
theorem UK{g:CG}{r:List D->Loc->M Loc}(O:SG X e g)(L:BM X es r)(J:(dB (e::es) X.env).map (·.2)=n6 e X.env::(dB es X.env).map (·.2):=by rfl):BM X (e::es) (cA g r):=
 (Vk O L J).of λvs σ H Q h=>by
  obtain⟨ρ,l,st,ds,G,sr,q,p⟩:=h;cases q with
  |nil=>exact p.elim
  |cons rv rt=>exact⟨_,_,rfl,ρ,l,st,_,G,sr,rv,(aS.bnd p).imp λI o ρ1 U B C E σ1 u=>⟨ρ1,I,o,_,u,C,rt.mono B,E⟩⟩
theorem PC{k n:Nat}{r:List D->Loc->M Loc}(C:X.calm=true)(h:BM X es r)(B:(dB es X.env).length=n:=by rfl)(o:(dB es X.env).findIdx? (·.1)=none:=by rfl):SG X (.Tuple es k pos) (gZ n r):=
 (Uo C h B o).of λv σ H Q g=>by
  obtain⟨ρ,l,st,d,u,sr,q,p⟩:=g;cases d with
  |tup ds_=>obtain⟨_,_,rfl,h,r⟩:=q.inv;exact⟨_,_,rfl,h,by rw[r.length];exact (aS.chk p).1,ρ,l,st,_,u,sr,r,(aS.chk p).2⟩
  |_=>exact p.elim
theorem Vi:wO X [] aY:=R0.of λG σ H h=>h.el λρ l st g sr p=>p.ret sr σ g
theorem PB(E:SS X s cs)(C:wO X ss cr):wO X (s::ss) (aK cs cr):=(Xr E C).of λG σ H B=>B.el λρ l st u sr p=>⟨ρ,l,st,u,sr,p.bnd.imp λf o ρ1 J I g h=>by
 cases f with
 |next l'=>exact λσ' q=>⟨ρ1,l',o,q,g,h⟩
 |ret d=>exact h.ret g
 |brk l'=>exact h.ret g
 |cnt l'=>exact h.ret g⟩
theorem YF:SS X s A8:=Wx.of λG σ H g=>g.el λρ l st h sr p=>p.elim
theorem Xp(h:SE X e fa):SS X (.Return (some e) pos) (dw fa):=(TF h).of λG σ H C=>C.el λρ l st B sr p=>⟨ρ,l,st,B,sr,p.bnd.imp λd g ρ1 I E o u v q=>u.ret o v q⟩
theorem Yx(h:SE X e fa)(C:i0 e none pos.line X.env=pure false:=by rfl):SS X (.Expr e pos) (lD fa):=(PQ h C).of λG σ H E=>E.el λρ l st g sr p=>
 ⟨ρ,l,st,g,sr,p.bnd.imp λd q ρ1 J o u B v I=>B.ret u σ (g.mono o)⟩
theorem X9(B:ST X c ta)(E:wO X ss cs){sr:List Stmt}(C:wO X sr cr):SS X (.If c ss sr pos) (om ta cs cr):=(WH B E C).of λG σ H I=>I.el λρ l st h sr p=>
 ⟨ρ,l,st,h,sr,p.bnd.imp λk g ρ1 J o q u=>by
  cases k with
  |true=>exact⟨ρ1,l,g,h.mono o,q,u⟩
  |false=>exact⟨ρ1,l,g,h.mono o,q,u⟩⟩
theorem Lu{g:CG}{q:TE}{tg:TG}(Y:∀σ H Q,yL X.K fa σ H Q->q σ H Q)(U:∀v σ H Q,zy X.K g v σ H Q->tg v σ H Q):∀G σ H,vc X.K (bB g fa) G σ H->xO q tg G σ H:=λG σ H c=>c.el λρ l st u sr p=>
 Y _ _ _ ⟨ρ,l,st,u,sr,p.bnd.imp λd h ρ1 H1 B I O v J=>U _ _ _ _ ⟨ρ1,l,h,d,u.mono B,I,J,O.bnd.imp λl2 C ρ2 H2 x2 E L σ2 o=>L.ret E σ2 o⟩⟩
theorem OT{i:Nat}:∀v σ H Q,zy X.K (aO i) v σ H Q->tB i v σ H Q:=λv σ H Q g=>by obtain⟨ρ,l,st,d,o,sr,h,p⟩:=g;exact p.ret sr _ (o.set i h)
theorem WX{i : Nat}{x : Str}{g : Pos}(C : X.N.Nodup)(q : X.N[i]? = some x)(l : L2.Loc X.env.scope x)(B : SE X e fa)(o : i0 e (some (.Name x g)) pos.line X.env = pure false := by rfl)
  (u:X.fn x=true\/X.env.scope.names.lookup x=some .local:=by first|exact .inl rfl|exact .inr rfl|assumption):SS X (.Assign [.Name x g] e pos) (bB (aO i) fa):=
 (UU C q l B o u).of (Lu (λ_ _ _ h=>h) OT)
theorem GK{g : CG}(u : SE X e fa)(q : SG X tg g)(o : swapsWithSole [tg] e pos.line X.env = pure false := by rfl)(l : qc [tg] e X.env = pure none := by rfl)
  (B:(dB [tg] X.env).map (·.2)=[n6 tg X.env]:=by rfl):SS X (.Assign [tg] e pos) (bB g fa):=(YS u q o l B).of (Lu (λ_ _ _ h=>h) λ_ _ _ _ h=>h)
theorem aS.storeK{n:Nat}{k v:D}{R:Unit->aX->List ak->Hp->Prop}(h:aS K ρ H (MM.storeK n k v st) R)(s:SR K ρ H st):∃b g,st[n]?=some (.dct b g)/\oV b k=true/\g.length < dN/\aS K ρ H (.ok () (st.set n (.dct b (ke g k v)))) R:=by obtain⟨b,g,e,o⟩:=aS.getDc (aS.bnd h) s;obtain⟨⟨u,q⟩,l⟩:=aS.chk o;refine⟨b,g,e,u,q,?_⟩;unfold rM at l;rw[e]at l;simpa using l
def EH(X:Cx):V->V->V->Hp->(Hp->Prop)->Prop:=λo i v H Q=>∃(ρ:List ak)(st:aX)(n:Nat)(a:ak)(b:Bool)(a4:List (D×D))(k d:D),o=.ref a/\SR X.K ρ H st/\ρ[n]?=some a/\st[n]?=some (.dct b a4)/\c_ X.K ρ H i k/\oV b k=true/\a4.length < sizeLine/\c_ X.K ρ H v d /\
 ∀g,SR X.K ρ g (st.set n (.dct b (ke a4 k d)))->Ex ρ H ρ g->Q g
theorem Yz(hu:X.A.units+60 < cL):PSet X (EH X):=by intro h s σ H o i v ov iv u Q I G L E g;obtain⟨ρ,st,n,a,b,U,k,d,eo,sr,ha,Y,J,hk,c,O,q⟩:=g;subst eo;cases G;exact Pt (by ext) I sr ha Y J hk c O L E λl s' I' C B=>⟨l,I',q l C B⟩
theorem _root_.L2.PSet.or{t t':yX}(h:PSet X t)(h':PSet X t'):PSet X (λo i v H Q=>t o i v H Q\/t' o i v H Q):=by
 intro g s σ H o i v E G u Q I B C l q;rcases q with q|q
 ·exact h g s σ H o i v E G u Q I B C l q
 ·exact h' g s σ H o i v E G u Q I B C l q
theorem VB{to ti:CE}{o i:Expr}(hu:X.A.units+60 < cL)(ho:SE X o to)(hi:SE X i ti)
  (ha:∀v,n6 (.Subscript o i pos) X.env v=(do
   let ov <- mH [v] (eval o X.env)
   let iv <- mH [v,ov] (eval i X.env)
   wY pos
   mH [v,ov,iv] (rA ov iv v)
   release [v,ov,iv] []):=by intro _;rfl):SG X (.Subscript o i pos) (kz to ti):=
 (RG ho hi (UW.or (Yz hu)) ha).of λv σ H Q J=>by obtain⟨ρ,l,st,d,c,sr,rv,p⟩:=J;exact⟨ρ,l,st,c,sr,p.bnd.imp λy a8 ρ1 H1 O s1 p1 u ru=>⟨ρ1,l,a8,c.mono O,s1,p1.bnd.imp λz g ρ2 H2 L G Y w B=>by
  have I:=ru.mono L;have rd:c_ X.K ρ2 H2 v d:=(rv.mono O).mono L;cases y with
  |ref n=>
   obtain⟨_,rfl,_,h⟩:=I.inv;cases z with
   |int k=>
    cases (show _=V.int k from B.inv);obtain⟨ds,e,U⟩:=aS.getL (aS.bnd (aS.bnd Y)) G;obtain⟨a,vs,ha,hv,r⟩:=G.seq e;rw[h]at ha;cases ha;cases e2:MM.pY ds.length k with
    |none=>rw[e2]at U;exact U.elim
    |some j=>
     rw[e2]at U;have hl:=(ae.mp e).1;obtain⟨E,C⟩:=G.put hl h hv (r.set j rd);refine .inl ⟨_,vs,k,j,rfl,rfl,hv,by rw[r.length];exact e2,?_⟩;have p4:aS X.K ρ2 H2 (putL _ (ds.set j d) g) _:=U;unfold putL at p4;rw[e]at p4;exact (p4 ρ2 _ C E).ret E σ (((c.mono O).mono L).mono C)
   |_=>exact (aS.bnd Y).elim
  |dic n=>
   obtain⟨a,rfl,_,h⟩:=I.inv;have p':aS X.K ρ2 H2 (storeK n z d g) λa st' ρ' H'=>aS X.K ρ' H' (MM.ret l st') λl' _ ρ' H'=>∀σ',LR X.K ρ' H' σ' l'->Q σ' H':=by cases B<;>exact aS.bnd Y
   obtain⟨b,a4,e1,hk,hl,q⟩:=aS.storeK p' G;exact .inr ⟨ρ2,g,n,a,b,a4,z,d,rfl,G,h,e1,B,hk,hl,rd,λH3 E C=>(q ρ2 H3 C E).ret E σ (((c.mono O).mono L).mono C)⟩
  |_=>exact (aS.bnd Y).elim⟩⟩
theorem Q8{P:Program}{w:bD}{K:ag}{mg:Str->Option ab}{base:bw}{x qual:Str}{u:Stmt}{f:ak}{I:cV}{N ps:List Str}{k:Nat}{o:CS}(F:xE K x qual u f I)(S:l_ N ps (bv u))
  (q:∀(g:ab)(A:bz)(outer:List Env)(s:am)(H:Hp)(E:XK),I.code=g->im k (A.deeper (n8 qual (bv u) s.heap.objs.size f g))->wO (sH rQ P w K mg base N qual (bv u) f g A outer s H E).nox (cH u) o):
  mC P w K mg base rQ (k+1) f I ps (mT K ps.length (bJ N.length o)):=by
 obtain⟨oc,od,kV,doc,pm,an,g,ct,U,rfl,Y,G⟩:=F.ex;refine MA Y G S (λvs H Q E h=>h.1) λA outer s H vs Q E c h=>⟨_,(q g A outer s H E rfl c).nox,?_⟩
 obtain⟨hl,ρ,st,ds,sr,C,p⟩:=h;refine⟨ρ,_,st,LR.start C,sr,?_⟩;unfold bJ at p;exact p.bnd.imp λf L ρ1 H1 x1 J B=>by
  cases f with
  |next l=>exact λσ' _=>B.ret J _ .non
  |ret d=>exact λv O=>B.ret J v O
  |brk l=>exact B.elim
  |cnt l=>exact B.elim
noncomputable def Go(K:ag)(ρ0:List ak)(h:Hp)(w:Wk)(J:It):Prop:=∀ρ H st,Ex ρ0 h ρ H->SR K ρ H st->w.same st->J.stop w.ds.length H/\∀(i:Nat)(d:D),w.ds[i]?=some d->J.go i H/\∀x g,J.yld i H x g->Ex ρ H ρ g/\SR K ρ g st/\c_ K ρ g x d
def EN(K:ag)(f:CI):TI:=λσ H R=>∃ρ l st,LR K ρ H σ l/\SR K ρ H st/\aS K ρ H (f l st) λw _ ρ' g=>∀J,Go K ρ' g w J->R J g
abbrev SI(X:Cx)(tg e:Expr)(f:CI):Prop:=PI X tg e (EN X.K f)
theorem _root_.L2.PI.of{tg e:Expr}{t t':TI}(h:PI X tg e t)(f:∀σ H R,t' σ H R->t σ H R):PI X tg e t':=λg s σ H R I q=>h g s σ H R I (f σ H R q)
theorem Jy{ρ0:List ak}{o:Hp}{ds:List D}{p:aX->Prop}{a:ak}(h:∀ρ H st,Ex ρ0 o ρ H->SR K ρ H st->p st->∃vs,g8 K H a vs/\bA K ρ H vs ds):Go K ρ0 o ⟨ds,p⟩ (Gv K a):=λρ H st x s q=>by obtain⟨vs,hv,r⟩:=h ρ H st x s q;refine⟨⟨vs,hv,by rw[r.length];exact ax _⟩,λi d e=>?_⟩;obtain⟨v,l,u⟩:=r.get e;refine⟨⟨vs,v,hv,l⟩,λy E g=>?_⟩;obtain⟨C,B⟩:=g;subst C;have:=B vs hv;rw[l]at this;cases this;exact⟨Ex.refl,s,u⟩
theorem YT{ρ0:List ak}{o:Hp}{ds:List D}{p:aX->Prop}{a:ak}(h:∀ρ H st,Ex ρ0 o ρ H->SR K ρ H st->p st->∃vs,lx K H a vs/\bA K ρ H vs ds):Go K ρ0 o ⟨ds,p⟩ (JV K a):=λρ H st x s q=>by obtain⟨vs,hv,r⟩:=h ρ H st x s q;refine⟨⟨vs,hv,by rw[r.length];exact ax _⟩,λi d e=>?_⟩;obtain⟨v,l,u⟩:=r.get e;refine⟨⟨vs,v,hv,l⟩,λy E g=>?_⟩;obtain⟨C,B⟩:=g;subst C;have:=B vs hv;rw[l]at this;cases this;exact⟨Ex.refl,s,u⟩
theorem V_{ρ0:List ak}{q:Hp}{lo:Int}{n:Nat}:Go K ρ0 q ⟨km lo n,eU⟩ (GV lo n):=λρ H st x s _=>by
 refine⟨by show n<=(km lo n).length;unfold km;simp,λi d e=>?_⟩;have h:i < n:=by have:=(ae.mp e).1;simpa [km] using this
 refine⟨h,λy u g=>?_⟩;obtain⟨o,l⟩:=g;subst o l;have:d=.int (lo+(i:Nat)):=by unfold km at e;rw[ao,kS h]at e;exact (aM e).symm
 subst this;exact⟨Ex.refl,s,.int _⟩
theorem WI{l:Expr}{L:TE}(U:PE X l L):PI X tg l (λσ H R=>L σ H λx B=>∃a,x=.ref a/\((∃xs,g8 X.K B a xs)/\R (Gv X.K a) B\/(∃xs,lx X.K B a xs)/\R (JV X.K a) B)):=by
 intro E s σ H R I h;refine gj (U E s σ H _ I h) λv g C=>?_;obtain⟨x,B,u,Q,a,e,q⟩:=C;subst e;cases Q;rcases q with ⟨⟨xs,G⟩,q⟩|⟨⟨xs,G⟩,q⟩
 ·obtain⟨its,O,p,hz⟩:=u.list G;refine fS p.isList ?_;refine⟨g.heap.objs.size,[g.heap.objs.size],_,_,B,rfl,u.kept (t':=g.toks) λb o e=>ah _ e,No a _,⟨_,aB _ rfl,rfl,rfl⟩,λb J=>?_,q⟩;have e:b=g.heap.objs.size:=by simpa using J
  subst e;exact u.fpOk (ax _) (u.hok.fresh (ax _))
 ·obtain⟨its,O,p,hz⟩:=u.tuple G;refine ml (show g.heap.IsTuple a its.toArray from p) ?_;refine⟨g.heap.objs.size,[g.heap.objs.size],_,_,B,rfl,u.kept (t':=g.toks) λb o e=>ah _ e,YX a _,⟨_,aB _ rfl,rfl,rfl⟩,λb J=>?_,q⟩;have e:b=g.heap.objs.size:=by simpa using J
  subst e;exact u.fpOk (ax _) (u.hok.fresh (ax _))
theorem QZ(h:SE X e fa):SI X tg e (ic fa):=(WI h).of λσ H R Q=>Q.el λρ l st L sr p=>⟨ρ,l,st,L,sr,p.bnd.imp λd I ρ1 H1 U g u v C=>by
 cases d with
 |tup ds=>obtain⟨a,vs,rfl,h,r⟩:=C.inv;exact⟨a,rfl,.inr ⟨⟨vs,h⟩,u.ret g _ (YT λρ H st x s _=>⟨vs,lx.mono x.up h,r.mono x⟩)⟩⟩
 |lit ds=>obtain⟨a,vs,rfl,h,r⟩:=C.inv;exact⟨a,rfl,.inl ⟨⟨vs,h.seq⟩,u.ret g _ (Jy λρ H st x s _=>⟨vs,(xC.mono x.up h).seq,r.mono x⟩)⟩⟩
 |ref n=>
  obtain⟨a,rfl,_,h⟩:=C.inv;obtain⟨ds,e,J⟩:=aS.getL (aS.bnd u) g;obtain⟨c,vs,E,hv,r⟩:=g.seq e;rw[h]at E;cases E;refine⟨a,rfl,.inl ⟨⟨vs,g8.of hv⟩,J.ret g _ (Jy λρ H st x s q=>?_)⟩⟩;obtain⟨Y,G,o,O,B⟩:=s.seq q;obtain⟨τ,eτ,_⟩:=x.pre;rw[eτ,xV h]at o;cases o;exact⟨G,g8.of O,B⟩
 |_=>exact u.elim⟩
theorem Q6(h:SL X e ca):SI X tg e (wF ca):=(XB h).of λσ H R E=>E.el λρ l st C sr p=>⟨ρ,l,st,C,sr,p.bnd.imp λds o ρ1 J G q u a vs I B hv g=>
 ⟨a,rfl,⟨vs,g8.of hv⟩,u.ret q _ (Jy λρ H st x s _=>⟨vs,g8.of (x.lst a vs B hv),g.mono x⟩)⟩⟩
theorem VA{p:Pos}(E:Gl X "range")(C:X.mg "range"=none)(h:SE X a fa)(o:starEach [a] X.env=[(false,eval a X.env)]:=by rfl):SI X tg (.Call (.Name "range" p) [a] [] pos) (MM.fm fa):=
 (Uk (tg:=tg) (p:=p) (pos:=pos) E C (LF h NT o) o).of λσ H R G=>G.el λρ l st B sr p=>⟨ρ,l,st,B,sr,by
  have q:=aS.bnd p;unfold ac
  show aS X.K ρ H (bnd (fa l) _ st) _;unfold MM.bnd;cases e:fa l st with
  |bad=>rw[e]at q;exact q
  |exc _ _=>rw[e]at q;exact q
  |ok d a8=>
   rw[e]at q
   show ∀ρ' H',Ex ρ H ρ' H'->SR X.K ρ' H' a8->_;intro ρ1 H1 x1 s1 vs rvs;have g:=q ρ1 H1 x1 s1;cases rvs with
   |cons rv rt=>
    cases rt;cases rv with
    |int j=>
     obtain⟨⟨J,I⟩,u⟩:=aS.chk g;exact⟨j,rfl,J,I,u.ret s1 _ V_⟩
    |_=>exact g.elim⟩
theorem aS.chkS{p:aX->Prop}{R:Unit->aX->List ak->Hp->Prop}(h:aS K ρ H (MM.chkS p st) R)(s:SR K ρ H st):p st/\R () st ρ H:=by
 unfold MM.chkS at h;by_cases g:p st
 ·rw[aJ g]at h;exact⟨g,h ρ H Ex.refl s⟩
 ·rw[aG g]at h;exact h.elim
theorem VN{iter:Expr}{u:List Stmt}{ci:CI}{g:CG}{cb:CS}(hp:sK (aW X.prog X.w) X.A X.env X.xe)(hc:X.calm=true)(hi:SI X tg iter ci)(hg:SG X tg g)(hb:wO X u cb)
  (hs:∀x,fj iter X.env x=pure x:=by intro _;rfl):SS X (.For tg iter u [] pos) (kC ci g cb):=(Wt hp hc hi hg hb hs).of λG σ H h_=>h_.el λρ l st lr sr p=>
 ⟨ρ,l,st,lr,sr,p.bnd.imp λw Y ρ1 H1 x1 s1 p1 J hJ=>by
  refine⟨λi m σ' h=>m=w.ds.length-i/\i<=w.ds.length/\∃ρ' l' st',Ex ρ1 H1 ρ' h/\LR X.K ρ' h σ' l'/\SR X.K ρ' h st'/\aS X.K ρ' h (o7 g cb w.same (w.ds.drop i) l' st') λf _ ρ' h=>match f with
   | .next l'=>∀σ',LR X.K ρ' h σ' l'->G.nx σ' h
   | .ret d=>∀v,c_ X.K ρ' h v d->G.rt v h
   | .brk l'=>∀σ',LR X.K ρ' h σ' l'->G.bk σ' h
   | .cnt l'=>∀σ',LR X.K ρ' h σ' l'->G.ct σ' h,⟨w.ds.length,by simp,bn _,ρ1,l,Y,Ex.refl,lr.mono x1,s1,p1⟩,?_⟩
  rintro i m σ2 H2 ⟨rfl,hi,ρ2,l2,st2,x2,lr2,s2,p2⟩
  by_cases B:i < w.ds.length
  ·have ed:w.ds.drop i=w.ds[i]::w.ds.drop (i+1):=cQ B;rw[ed]at p2;unfold o7 at p2;obtain⟨c,p3⟩:=aS.chkS (aS.bnd p2) s2;obtain⟨_,go⟩:=hJ ρ2 H2 st2 x2 s2 c;obtain⟨g1,g2⟩:=go i w.ds[i] (aj B);refine .inr ⟨g1,λσ3 C=>∃ρ3 l3 st3,Ex ρ1 H1 ρ3 C/\LR X.K ρ3 C σ3 l3/\SR X.K ρ3 C st3/\aS X.K ρ3 C (o7 g cb w.same (w.ds.drop (i+1)) l3 st3) λf _ ρ' h=>match f with
    | .next l'=>∀σ',LR X.K ρ' h σ' l'->G.nx σ' h
    | .ret d=>∀v,c_ X.K ρ' h v d->G.rt v h
    | .brk l'=>∀σ',LR X.K ρ' h σ' l'->G.bk σ' h
    | .cnt l'=>∀σ',LR X.K ρ' h σ' l'->G.ct σ' h,λσ3 C q=>⟨_,by ext,rfl,B,q⟩,λy C hy=>?_⟩
   obtain⟨Q,s3,l⟩:=g2 y C hy;refine⟨ρ2,l2,st2,_,lr2.mono Q,s3,l,(aS.left Q (aS.bnd p3)).imp λl4 U ρ4 H4 J Y p4 σ4 u=>⟨ρ4,l4,U,u,Y,(aS.bnd p4).imp λf I ρ5 H5 H L O=>?_⟩⟩;have E:Ex ρ1 H1 ρ5 H5:=(x2.trans Q).trans (J.trans H);cases f with
   |next l5=>exact λσ5 o=>⟨ρ5,l5,I,E,o,L,O⟩
   |cnt l5=>exact λσ5 o=>⟨ρ5,l5,I,E,o,L,O⟩
   |brk l5=>exact λσ5 o=>O.ret L σ5 o
   |ret d=>exact λv l=>O.ret L v l
  ·have e:i=w.ds.length:=by ext
   subst e;rw[xI]at p2;unfold o7 at p2;obtain⟨c,p3⟩:=aS.chkS (aS.bnd p2) s2;obtain⟨g1,_⟩:=hJ ρ2 H2 st2 x2 s2 c;exact .inl ⟨g1,p3.ret s2 σ2 lr2⟩⟩
end
section
variable{X:Cx}{a b c e tg:Expr}{es:List Expr}{pos:Pos}{fa fb fc:CE}{ca cb:CA}{ta tb:CT}{K:ag}{ρ:List ak}{H:Hp}{st:aX}{x:Str}{p:Pos}{id T:String}
theorem Vu{n:Nat}{ix:List Nat}{σ:St}{l:Loc}(h:LR K ρ H σ l):LR K ρ H (xT n ix σ) (fZ n ix l):=by
 unfold xT fZ;refine⟨by simp,λi d e=>?_⟩;have u:n<=i:=qQ λz=>by rw[ar (by simpa using z),fV]at e;split at e<;>cases e
 rw[bb (by simpa using u),cI,ao]at e;cases q:ix[i-n]? with
 |none=>rw[q]at e;cases e
 |some k=>
  rw[q]at e;have g:(l[k]?).join=some d:=aM e;have C:l[k]?=some (some d):=by
   cases z:l[k]? with
   |none=>rw[z]at g;cases g
   |some o=>rw[z]at g;exact cU some g
  obtain⟨v,hv,B⟩:=h.2 k d C;refine⟨v,?_,B⟩;rw[bb (by simpa using u),cI,ao,q]
  show some ((σ[k]?).join)=some (some v);rw[hv];rfl
abbrev we(X:Cx)(g:List Expr)(t:CT):Prop:=vA X g (pP X.K t)
theorem SF:we X [] cz:=λg s σ H Q I h=>h.el λρ l st o sr p=>Po g s σ H Q I (p.ret sr)
theorem UY(h:ST X c ta):we X [c] ta:=PH h
theorem Ex.own{ρ':List ak}{g:Hp}{q:ak}{l:List V}(x:Ex ρ H ρ' g)(h:H q=none):Ex ρ H ρ' (fw g q (.lst l)):=by
 have ne:∀b o,H b=some o->b≠q:=λb o e z=>by rw[z,h]at e;cases e
 exact⟨x.pre,λb o u e=>by rw[fM (ne b o e)];exact x.fix b o u e,λb xs B e=>by rw[fM (ne b _ e)];exact x.oth b xs B e,λb o e=>by rw[fM (ne b o e)];exact x.knd b o e⟩
theorem Up.own{ρ':List ak}{g:Hp}{q:ak}{vs l:List V}(h:g q=some (.lst vs)):Up ρ' g ρ' (fw g q (.lst l)):=
 ⟨⟨[],by simp⟩,λb o u e=>by rw[fM λz=>by subst z;rw[h]at e;cases e;exact nomatch u];exact e,
  λb o e=>by
   by_cases z:b=q
   ·subst z;rw[h]at e;cases e;exact⟨_,iP,rfl⟩
   ·exact⟨o,by rw[fM z];exact e,rfl⟩⟩
theorem LR.up{ρ':List ak}{g:Hp}{σ:St}{l:Loc}(x:Up ρ H ρ' g)(h:LR K ρ H σ l):LR K ρ' g σ l:=⟨h.1,λi d e=>let ⟨v,e1,r⟩:=h.2 i d e;⟨v,e1,r.up x⟩⟩
theorem SR.own{q:ak}{vs l:List V}(s:SR K ρ H st)(h:H q=some (.lst vs))(u:q∉ρ):SR K ρ (fw H q (.lst l)) st:=
 ⟨s.len,s.nd,λn b o g B=>mB.mono (o:=o) (Up.own h) (s.ob n b o g B) λC e=>by rw[fM (λ(z:b=q)=>u (by rw[<- z];exact av g))];exact e⟩
theorem OQ{ci:CI}{g:CG}{n:Nat}{ix:List Nat}:∀σ H Q,EV K (dF n ix ci g ta fa) σ H Q->uU (EN K ci) n ix (zy K g) (pP K ta) (yL K fa) σ H Q:=λσ H Q h_=>h_.el λρ l st lr sr p=>
 ⟨ρ,l,st,lr,sr,p.bnd0.imp λw a8 ρ1 H1 x1 s1 p1 J hJ q Y=>by
  obtain⟨hz,p2⟩:=aS.chk p1;have hn:H q=none:=by
   cases z:H q with
   |none=>rfl
   |some o=>exact ba Y (x1.trk q o z)
  obtain⟨J0,G⟩:∃J0:Nat->Nat->St->Hp->Prop,J0=λi m σ' L=>m=w.ds.length-i/\i<=w.ds.length/\∃ρ' l' st' done vs,Ex ρ H ρ' L/\Ex ρ1 H1 ρ' L/\LR K ρ' L σ' l'/\SR K ρ' L st'/\q∉ρ'/\L q=some (.lst vs)/\bA K ρ' L vs done/\done.length<=i /\
   aS K ρ H (collect g ta fa w.same (w.ds.drop i) l' st') (λrest u ρ2 h=>∀a ws,H a=none->a∉ρ2->h a=some (.lst ws)->bA K ρ2 h ws (done++rest)->Q (.ref a) h):=⟨_,rfl⟩
  refine⟨J0,
   ⟨w.ds.length,by rw[G];exact⟨by simp,bn _,ρ1,fZ n ix l,a8,[],[],x1.trans (Ex.new Y),Ex.new Y,Vu ((lr.mono x1).mono (Ex.new Y)),s1.new Y,s1.fresh Y,iP,.nil,bn _,p2⟩⟩,?_⟩
  intro i m σ2 h hj;rw[G]at hj;obtain⟨rfl,hi,ρ2,l2,u,done,vs,I,y2,lr2,s2,nq,hv,B,hd,p3⟩:=hj;by_cases E:i < w.ds.length
  ·have ed:w.ds.drop i=w.ds[i]::w.ds.drop (i+1):=cQ E;rw[ed]at p3;unfold collect at p3;obtain⟨sm,p4⟩:=aS.chkS (p3.bnd0.left I) s2;obtain⟨_,go⟩:=hJ ρ2 h u y2 s2 sm;obtain⟨g1,g2⟩:=go i w.ds[i] (aj E);refine .inr ⟨g1,λy H3 hy=>?_⟩;obtain⟨H,s3,rv⟩:=g2 y H3 hy;refine⟨ρ2,l2,u,_,lr2.mono H,s3,rv,(p4.bnd0.left (I.trans H)).imp λJ st4 ρ4 H4 x4 s4 p5 σ4 C=>⟨ρ4,J,st4,C,s4,(p5.bnd0.left (I.trans (H.trans x4))).imp λb l ρ5 H5 o s5 p6=>?_⟩⟩;have O:Ex ρ2 h ρ5 H5:=H.trans (x4.trans o);have out:∀{ρ':List ak}{L:Hp},Ex ρ2 h ρ' L->q∉ρ':=λz g=>by
    obtain⟨τ,e,f⟩:=z.pre;rw[e]at g;rcases aU.mp g with g|g
    ·exact nq g
    ·rw[f q g]at hv;cases hv
   cases b with
   |false=>exact⟨w.ds.length-(i+1),by ext,by rw[G];exact⟨rfl,E,ρ5,J,l,done,vs,I.trans O,y2.trans O,C.mono o,s5,out O,O.lst q vs nq hv,B.mono O,Nat.le_succ_of_le hd,p6⟩⟩
   |true=>
    refine⟨ρ5,J,l,C.mono o,s5,(p6.bnd0.left (I.trans O)).imp λd st6 ρ6 H6 x6 s6 p7 v rv6=>?_⟩;have c:Ex ρ2 h ρ6 H6:=O.trans x6;have U:=c.lst q vs nq hv;have Q:Up ρ6 H6 ρ6 (fw H6 q (.lst (vs++[v]))):=Up.own U;refine⟨vs,U,?_,w.ds.length-(i+1),by ext,?_⟩
    ·have g:=B.length;have c:w.ds.length<=sizeLine:=hz;ext
    ·rw[G];refine⟨rfl,E,ρ6,J,st6,done++[d],vs++[v],(I.trans c).own hn,(y2.trans c).own Y,LR.up Q ((C.mono o).mono x6),s6.own U (out c),out c,iP,
     bA.app ((B.mono c).up Q) (.cons (rv6.up Q) .nil),by simp;ext,?_⟩
     refine p7.bnd0.imp λrest l ρ8 H8 h q u a ws O H L g=>?_;exact u ρ8 H8 h q a ws O H L (by rw[List.append_cons];exact g)
  ·have e:i=w.ds.length:=by ext
   subst e;rw[xI]at p3;unfold collect at p3;obtain⟨sm,p4⟩:=aS.chkS (p3.bnd0.left I) s2;obtain⟨g1,_⟩:=hJ ρ2 h u y2 s2 sm;refine .inl ⟨g1,p4 ρ2 h I s2 q vs hn nq hv (by rw[dm];exact B)⟩⟩
theorem S3{scope:cZ}{N:List Str}{h:List Expr}{n:Nat}{ix:List Nat}{q:CI}{g:CG}(C:X.calm=true)(S:gT X scope)(T:iY X scope N n ix)(B:SI X tg b q)
  (o:∀(l:List ak)(s:am)(H:Hp),SG (oq X N scope l s H) tg g/\we (oq X N scope l s H) h ta/\SE (oq X N scope l s H) e fa)
  (u:∀x,fj b X.env x=pure x:=by intro _;rfl):SL X (.ListComp e [⟨tg,b,h,0⟩] scope pos) (dF n ix q g ta fa):=(VT C S T B o u).of OQ
theorem Q7{scope:cZ}{N:List Str}{q:List Expr}{n i:Nat}{ix:List Nat}{O:CI}{g:CG}{y:Str}{o h:Pos}
  (hN:X.N.Nodup) (G:X.N[i]?=some y) (hy:L2.Loc X.env.scope y) (hf:X.fn y=true\/X.env.scope.names.lookup y=some .local)
  (hc:X.calm=true) (S:gT X scope) (T:iY X scope N n ix) (hi:SI X tg b O)
  (J:∀(I:List ak)(s:am)(H:Hp),SG (oq X N scope I s H) tg g/\we (oq X N scope I s H) q ta/\SE (oq X N scope I s H) e fa)
  (E:i0 (.ListComp e [⟨tg,b,q,0⟩] scope pos) (some (.Name y o)) h.line X.env=pure true)
  (hs:∀x,fj b X.env x=pure x:=by intro _;rfl):SS X (.Assign [.Name y o] (.ListComp e [⟨tg,b,q,0⟩] scope pos) h) (bB (aO i) (cY (dF n ix O g ta fa))):=
 (Rr hN G hy hf hc S T hi J E hs).of (Lu (λσ H Q h_=>h_.el λρ l st lr sr p=>OQ _ _ _ ⟨ρ,l,st,lr,sr,p.bnd0.imp λds Y ρ1 U B L c a vs ha na hv C=>by
  have x:Ex ρ H (ρ1++[a]) U:=by
   obtain⟨τ,e,f⟩:=B.pre;refine⟨⟨τ++[a],by rw[e,dG],λb u=>?_⟩,B.fix,B.oth,B.knd⟩;rcases aU.mp u with u|u
   ·exact f b u
   ·rw[aC]at u;rw[u];exact ha
  refine c (ρ1++[a]) U x (L.keep hv na C) _ (.ref ⟨_,hv,rfl⟩ ?_);rw[<- L.len];simp⟩) OT)
theorem Wh{g : D -> M D}(L : CallR X (.builtin id) (λxs H Q => ∃v, xs = [v] /\ z_ X.K g v H Q))(J : Gl X x)(I : X.mg x = none)(hv : bT x = some (.builtin id))(O : SE X e fa)(G : x ≠ "__name__" := by decide)(o : (x == ("__debug__" : Str)) = false := by decide)
  (q:starEach [e] X.env=[(false,eval e X.env)]:=by rfl):SE X (.Call (.Name x p) [e] [] pos) (c1 g fa):=
 (EF L J I hv (rj O tX q) G o q rfl).of λσ H Q U=>U.el λρ l st E sr p=>⟨ρ,l,st,E,sr,p.bnd.imp λd h ρ1 c Y u C v B=>⟨v,rfl,ρ1,h,d,u,B,C⟩⟩
theorem G7{g : D -> M D}(L : CallR X (.type T) (λxs H Q => ∃v, xs = [v] /\ z_ X.K g v H Q))(J : Gl X x)(I : X.mg x = none)(hv : bT x = some (.type T))(O : SE X e fa)(G : x ≠ "__name__" := by decide)(o : (x == ("__debug__" : Str)) = false := by decide)
  (q:starEach [e] X.env=[(false,eval e X.env)]:=by rfl):SE X (.Call (.Name x p) [e] [] pos) (c1 g fa):=
 (Jd L J I hv (rj O tX q) G o q rfl).of λσ H Q U=>U.el λρ l st E sr p=>⟨ρ,l,st,E,sr,p.bnd.imp λd h ρ1 c Y u C v B=>⟨v,rfl,ρ1,h,d,u,B,C⟩⟩
def Fc(K:ag)(g:List D->M D):List V->Hp->VK->Prop:=λxs H Q=>∃a vs ρ st ds,xs=[.ref a]/\g8 K H a vs/\SR K ρ H st/\bA K ρ H vs ds/\aS K ρ H (g ds st) λr _ ρ' h=>∀v,c_ K ρ' h v r->Q v h
theorem Mv{g : List D -> M D}(O : CallR X (.builtin id) (Fc X.K g))(L : Gl X x)(J : X.mg x = none)(hv : bT x = some (.builtin id))(B : SL X e ca)(I : x ≠ "__name__" := by decide)(q : (x == ("__debug__" : Str)) = false := by decide)
  (u:starEach [e] X.env=[(false,eval e X.env)]:=by rfl):SE X (.Call (.Name x p) [e] [] pos) (iQ g ca):=
 (EF O L J hv (rj B tX u) I q u rfl).of λσ H Q U=>U.el λρ l st G sr p=>⟨ρ,l,st,G,sr,p.bnd.imp λds h ρ1 H1 Y C E a vs B c hv o=>⟨a,vs,ρ1,h,ds,rfl,g8.of hv,C,o,E⟩⟩
theorem V1{g : List D -> M D}(O : CallR X (.type T) (Fc X.K g))(L : Gl X x)(J : X.mg x = none)(hv : bT x = some (.type T))(B : SL X e ca)(I : x ≠ "__name__" := by decide)(q : (x == ("__debug__" : Str)) = false := by decide)
  (u:starEach [e] X.env=[(false,eval e X.env)]:=by rfl):SE X (.Call (.Name x p) [e] [] pos) (iQ g ca):=
 (Jd O L J hv (rj B tX u) I q u rfl).of λσ H Q U=>U.el λρ l st G sr p=>⟨ρ,l,st,G,sr,p.bnd.imp λds h ρ1 H1 Y C E a vs B c hv o=>⟨a,vs,ρ1,h,ds,rfl,g8.of hv,C,o,E⟩⟩
theorem VW{prog:Program}{w:bD}{A:bz}{E:ab->am->Prop}{s:am}{K:Type}[DecidableEq K]{knd:uu prog w K}{d:ak}{xs:List (K×ak×ab)}{Q:ab->am->Prop}(hd:(d == dA)=false)(q:s.heap.DictOfH knd d xs)(hfit:(xs.length:Int) < 2^63)
  (h:Q (.int xs.length (s.toks+1)) { s with toks:=s.toks+1+1 }):aF (aW prog w) A (call (.builtin "len") [.ref d]) Q E s:=by
 refine Calls.call_function_entry kind_len plain_len entry_len (args_len1 _) ?_;unfold Builtin.«len»;have l:MeetsIn prog w (Builtin.«dict.__len__» ⟨[.ref d],[]⟩) (λ_ R s=>∃xs,s.heap.DictOfH knd d xs/\R (.ok (.ret (.int xs.length s.toks))) { s with toks:=s.toks+1 }):=.of_wp λA R s g=>by
  obtain⟨xs,q,h⟩:=g;obtain⟨o,es,ep,B,I,u,C,_,G⟩:=q
  show aF _ _ (dictSize d >>= _) _ _ s;unfold dictSize;refine aa (aa (kt B u (ai ?_)))
  show aF _ _ (Builtin.Dict.pendingCount d >>= _) _ _ s;refine aa (wpAny_pendingCount_other hd ?_);refine Hj ?_;rw[Nat.add_zero,lG C];exact h
 refine aa (m:=oneArg "len" _) (ai ?_);refine aa (m:=callSpecial? (.ref d) (aq "__len__")) (bN (name:=aq "__len__") q.typeIs C5
  (call_meetsIn C5 q.typeIs F.entry_dict_len (F.args_dict_len_1 _) l ⟨xs,q,?_⟩))
 show aF _ _ _ _ _ { s with toks:=s.toks+1 };refine aa (bZ (ai ?_));refine aa (iq ?_)
 show aF _ _ (if ((xs.length:Nat):Int) < 0 then _ else _) _ _ _;rw[aG (by ext)]
 show aF _ _ (if ((xs.length:Nat):Int) ≥ 2^63 then _ else _) _ _ _;rw[aG (by ext)];exact aa (wpAny_mkInt (ai ⟨_,rfl,h⟩))
theorem W_:CallR X (.builtin "len") (λxs H Q=>∃(ρ:List ak)(st:aX)(n:Nat)(a:ak)(b:Bool)(l:List (D×D)),xs=[.ref a]/\SR X.K ρ H st/\ρ[n]?=some a/\st[n]?=some (.dct b l)/\Q (.int l.length) H):=by
 intro B s σ H xs O Q I r h;obtain⟨ρ,st,n,a,b,l,e,sr,G,E,q⟩:=h;subst e;obtain⟨u,rfl,C⟩:=vv r;cases C;have g:=sr.ob n a _ G E;cases b with
 |false=>
  obtain⟨es,e,r⟩:=g;rw[<- KR.length r]at q;exact RX I (.inl e) λt U L=>⟨.int es.length,H,L,⟨t,rfl⟩,q⟩
 |true=>
  obtain⟨es,e,r⟩:=g;obtain⟨z,hd,xs,o,J,_⟩:=yS I e r;rw[<- NR.length r,dR o]at q;have hz:xs.length<=sizeLine:=by rw[<- dR o];exact z
  exact VW hd J (by rw[i4]at hz;ext) ⟨.int xs.length,H,I.tok _,⟨_,rfl⟩,q⟩
theorem Ye:CallR X (.builtin "len") (λxs H Q=>∃v,xs=[v]/\z_ X.K ge v H Q):=((Xx.or Wn).or W_).of λxs H Q g=>by
 obtain⟨v,e,ρ,st,d,sr,B,p⟩:=g;cases B with
 |@tup a vs ds h r=>exact .inl (.inl ⟨a,vs,e,.inr h,by rw[r.length];exact p.ret sr _ (.int _)⟩)
 |@lit a vs ds h r=>exact .inl (.inl ⟨a,vs,e,.inl h.seq,by rw[r.length];exact p.ret sr _ (.int _)⟩)
 |@ref a n _ h=>
  obtain⟨ds,q,l⟩:=aS.getL (aS.bnd p) sr;obtain⟨C,vs,u,hv,r⟩:=sr.seq q;rw[h]at u;cases u;exact .inl (.inl ⟨a,vs,e,.inl (g8.of hv),by rw[r.length];exact l.ret sr _ (.int _)⟩)
 |str z=>exact .inl (.inr ⟨z,e,(aS.chk p).1,(aS.chk p).2.ret sr _ (.int _)⟩)
 |@dic a n _ h=>
  obtain⟨b,o,q,l⟩:=aS.getDc (aS.bnd p) sr;exact .inr ⟨ρ,st,n,a,b,o,e,sr,h,q,l.ret sr _ (.int _)⟩
 |_=>exact p.elim
theorem XE:CallR X (.type "int") (λxs H Q=>∃v,xs=[v]/\z_ X.K intD v H Q):=WZ.of λxs H Q g=>by
 obtain⟨v,e,ρ,st,d,sr,h,p⟩:=g;cases h with
 |int i=>exact .inl ⟨i,e,p.ret sr _ (.int _)⟩
 |bl k=>exact .inr ⟨k,e,p.ret sr _ (.int _)⟩
 |_=>exact p.elim
theorem YO:CallR X (.type "tuple") (λxs H Q=>∃v,xs=[v]/\z_ X.K tupleD v H Q):=O1.of λxs H Q o=>by
 obtain⟨v,e,ρ,st,d,sr,u,p⟩:=o;cases u with
 |@tup a vs ds h r=>exact⟨a,vs,e,.inr ⟨h,p.ret sr _ (.tup h r)⟩⟩
 |@lit a vs ds h r=>exact⟨a,vs,e,.inl ⟨h.seq,λl g=>p ρ _ (Ex.new g) (sr.new g) _ (.tup (lx.of iP) (r.mono (Ex.new g)))⟩⟩
 |@ref a n _ h=>
  obtain⟨ds,C,B⟩:=aS.getL (aS.bnd p) sr;obtain⟨E,vs,q,hv,r⟩:=sr.seq C;rw[h]at q;cases q;exact⟨a,vs,e,.inl ⟨g8.of hv,λl g=>B ρ _ (Ex.new g) (sr.new g) _ (.tup (lx.of iP) (r.mono (Ex.new g)))⟩⟩
 |_=>exact p.elim
theorem VI:CallR X (.type "tuple") (Fc X.K lI):=O1.of λxs H Q g=>
 by obtain⟨a,vs,ρ,st,ds,e,hv,sr,r,p⟩:=g;exact⟨a,vs,e,.inl ⟨hv,λl h=>p ρ _ (Ex.new h) (sr.new h) _ (.tup (lx.of iP) (r.mono (Ex.new h)))⟩⟩
end
section
variable{X:Cx}{a b c e tg:Expr}{es:List Expr}{pos:Pos}{fa fb fc:CE}{ca cb:CA}{ta tb:CT}{K:ag}{ρ:List ak}{H:Hp}{st:aX}{x:Str}{p:Pos}{T:String}
theorem Nx{ds:List D}{ns:List Int}{vs:List V}(h:mq ds=some ns)(g:bA K ρ H vs ds):vs=ns.map V.int:=by
 induction ds generalizing ns vs with
 |nil=>cases g;cases h;rfl
 |cons d ds ih=>
  cases g with
  |cons r t=>
   cases r with
   |int i=>
    unfold mq at h;cases q:mq ds with
    |none=>rw[q]at h;cases h
    |some ms=>
     rw[q]at h;have h':i::ms=_:=aM h;subst h';rw[ih q t];rfl
   |_=>cases h
theorem Od:∀{ds:List D}{ns:List Bool}{vs:List V},kN ds=some ns->bA K ρ H vs ds->vs=ns.map V.bl
 |[],_,_,h,.nil=>by cases h;rfl
 | .bl i::ds,_,_,h,.cons r t=>by
  unfold kN at h;cases q:kN ds with
  |none=>rw[q]at h;cases h
  |some ms=>
   rw[q]at h;have h':i::ms=_:=aM h;subst h';cases r;rw[Od q t];rfl
 | .non::_,_,_,h,_=>by cases h
 | .int _::_,_,_,h,_=>by cases h
 | .str _::_,_,_,h,_=>by cases h
 | .tup _::_,_,_,h,_=>by cases h
 | .lit _::_,_,_,h,_=>by cases h
 | .ref _::_,_,_,h,_=>by cases h
theorem Ms:∀{bs:List Bool}{g:List ab},bQ (bs.map V.bl) g->g=bs.map dX
 |[],_,.nil=>rfl
 |_::_,_,.cons r t=>by cases r;rw[Ms t];rfl
theorem S8(hc:X.calm=true):CallR X (.builtin "any") (λxs H Q=>∃(l:ak)(bs:List Bool),xs=[.ref l]/\g8 X.K H l (bs.map V.bl)/\Q (.bl (bs.any id)) H):=by
 intro O s σ H xs us Q I r h;obtain⟨l,bs,rfl,hq,q⟩:=h;obtain⟨u,rfl,c⟩:=vv r;cases c;obtain⟨its,rv,C,hz⟩:=I.list hq;have ei:=Ms rv;subst ei;refine call_any_walk (fS C.isList ?_);have G:l < s.heap.objs.size:=by obtain⟨o,E,_⟩:=C.isList;exact aD E
 refine⟨s.heap.objs.size,_,_,_,_,_,λi=>(bs[i]?).getD true,rfl,vN (A:=X.A.in1) (I.ok.hd hc) s.heap.objs.size l (aR G) (bs.map dX).toArray,⟨⟨_,aB _ rfl,rfl,rfl⟩,?_⟩,?_,λh' tk J=>?_⟩
 ·obtain⟨o,E,c⟩:=C.isList;exact⟨o,ah _ E,c⟩
 ·intro i v c h l hv L;have g:(bs.map dX)[i]?=some v:=by simpa using hv
  rw[ao]at g;dsimp only at L;cases e:bs[i]? with
  |none=>rw[e]at g;cases g
  |some k=>
   rw[e]at g L;have:v=dX k:=(aM g).symm;subst this;exact fR L
 ·have e : (bU (bs.map dX).toArray.size).any (λi => (bs[i]?).getD true) = bs.any id := by
    have c:(bs.map dX).toArray.size=bs.length:=by simp
    rw[c,kI,fv,fv];constructor
    ·rintro ⟨i,B,hh⟩
     have U:=dk.mp B;rw[aj U]at hh;exact⟨_,b8 U,hh⟩
    ·rintro ⟨k,J,hh⟩
     obtain⟨i,B⟩:=fI J;exact⟨i,dk.mpr (ae.mp B).1,by rw[B];exact hh⟩
  rw[e];exact⟨.bl _,H,I.kept (t':=tk) λb o Y=>J b o (by simp;exact aR (aD Y)) (ah _ Y),rfl,q⟩
theorem LV:∀(ns:List Int)(n:Int),ns.foldl max n∈n::ns/\∀a∈n::ns,a<=ns.foldl max n
 |[],n=>⟨by simp,by simp⟩
 |m::ns,n=>by
  obtain⟨q,h⟩:=LV ns (max n m);rw[qX];refine⟨?_,λa o=>?_⟩
  ·rcases aI.mp q with e|e
   ·rw[e];by_cases l:n<=m
    ·rw[Int.max_eq_right l];simp
    ·rw[Int.max_eq_left (by ext)];simp
   ·exact br _ (br _ e)
  ·have g:=h (max n m) bO;rcases aI.mp o with e|e
   ·subst e;exact pW (Int.le_max_left ..) g
   ·rcases aI.mp e with e|e
    ·subst e;exact pW (Int.le_max_right ..) g
    ·exact h a (br _ e)
theorem Om:∀(ns:List Int)(n:Int),ns.foldl min n∈n::ns/\∀a∈n::ns,ns.foldl min n<=a
 |[],n=>⟨by simp,by simp⟩
 |m::ns,n=>by
  obtain⟨q,h⟩:=Om ns (min n m);rw[qX];refine⟨?_,λa o=>?_⟩
  ·rcases aI.mp q with e|e
   ·rw[e];by_cases l:n<=m
    ·rw[Int.min_eq_left l];simp
    ·rw[Int.min_eq_right (by ext)];simp
   ·exact br _ (br _ e)
  ·have g:=h (min n m) bO;rcases aI.mp o with e|e
   ·subst e;exact pW g (Int.min_le_left ..)
   ·rcases aI.mp e with e|e
    ·subst e;exact pW g (Int.min_le_right ..)
    ·exact h a (br _ e)
theorem LZ{vs:List ab}{ns:List Int}(g:n_ vs ns):∃xs,vs.toArray=uw xs/\ns=xs.toList.map (·.1):=by obtain⟨xs,e⟩:=g.allInts.items;exact⟨xs,e,by rw[<- g.numsOf,<- nums_intItems,<- e]⟩
theorem XF(hc:X.calm=true):CallR X (.builtin "max") (λxs H Q=>∃(l:ak)(n:Int)(ns:List Int),xs=[.ref l]/\g8 X.K H l ((n::ns).map V.int)/\Q (.int (ns.foldl max n)) H):=by
 intro C s σ H xs us Q I r h;obtain⟨l,n,ns,rfl,c,q⟩:=h;obtain⟨u,rfl,O⟩:=vv r;cases O;obtain⟨its,U,Y,hz⟩:=I.list c;obtain⟨ys,e,g⟩:=LZ (Nb U);have E:=Y.isList;rw[e]at E;have hsz:ys.size=ns.length+1:=by have:=cU cP g;simpa using this.symm
 refine max_intList (I.ok.hd hc) E (by ext) λv h' tk hv hk=>?_;obtain⟨t,rfl⟩:=zN hv;obtain⟨b1,L⟩:=argBest_gt (nG ys) (ys.size-1);obtain⟨J,f2⟩:=LV ns n;generalize mK (λi j=>decide (nG ys i > nG ys j)) (ys.size-1)=k at b1 L ⊢;have o:nG ys k∈n::ns:=by rw[g,zO];exact getD_mem (by rw[<- g];simp;ext)
 have B:ns.foldl max n<=nG ys k:=by rw[g]at J;obtain⟨j,G,ej⟩:=mem_getD J;rw[<- ej,<- zO];exact L j (by rw[<- g]at G;simp at G;ext)
 have hM:nG ys k=ns.foldl max n:=Av (f2 _ o) B;rw[hM];exact⟨.int _,H,I.kept (t':=tk) hk,⟨t,rfl⟩,q⟩
theorem Sr(h:X.calm=true):CallR X (.builtin "any") (Fc X.K tK):=(S8 h).of λxs H Q g=>by
 obtain⟨a,vs,ρ,st,ds,e,hv,sr,r,p⟩:=g;unfold tK at p;cases q:kN ds with
 |none=>rw[q]at p;exact p.elim
 |some bs=>
  rw[q]at p;have:=Od q r;subst this;exact⟨a,bs,e,hv,p.ret sr _ (.bl _)⟩
theorem TD(h:X.calm=true):CallR X (.builtin "max") (Fc X.K tG):=(XF h).of λxs H Q g=>by
 obtain⟨a,vs,ρ,st,ds,e,hv,sr,r,p⟩:=g;unfold tG at p;cases q:mq ds with
 |none=>rw[q]at p;exact p.elim
 |some ns=>
  rw[q]at p;have:=Nx q r;subst this;cases ns with
  |nil=>exact p.elim
  |cons n ns=>exact⟨a,n,ns,e,hv,p.ret sr _ (.int _)⟩
structure uJ(T:String):Prop where
 non:∀K,fN K (.type "NoneType") (.type T)=some (["NoneType"].contains T)
 bl:∀K,fN K (.type "bool") (.type T)=some (["bool","int"].contains T)
 int:∀K,fN K (.type "int") (.type T)=some (["int"].contains T)
 str:∀K,fN K (.type "str") (.type T)=some (["str"].contains T)
 tup:∀K,fN K (.type "tuple") (.type T)=some (["tuple"].contains T)
 lst:∀K,fN K (.type "list") (.type T)=some (["list"].contains T)
theorem TK:uJ "bool":=⟨λ_=>rfl,λ_=>rfl,λ_=>rfl,λ_=>rfl,λ_=>rfl,λ_=>rfl⟩
theorem KJ{g:List (ak×Obj)}{σ:St}{s:am}{Q:ab->am->Prop}{t:String}{u:ak}{k:Bool}(I:Inv X g σ H s)(l:∃o,s.heap.get? u=some o/\o.cls=.type t)(q:t="tuple"\/t="list")(e:fN X.K (.type t) (.type T)=some k)
  (h:∀tk,Q (.bool k) { s with toks:=tk }):aF (aW X.prog X.w) X.A (call (.builtin "isinstance") [.ref u,.type T]) Q X.xe s:=by
 rcases q with rfl|rfl
 ·exact cR uq I.kIn l e nofun h
 ·exact cR oM I.kIn l e nofun h
theorem Qr(B:uJ T):CallR X (.builtin "isinstance") (λxs H Q=>∃v,xs=[v,.ty T]/\z_ X.K (kj [T]) v H Q):=by
 intro E s σ H xs us Q I r C;obtain⟨v,e,ρ,st,d,sr,c,p⟩:=C;subst e;obtain⟨u,Y,rfl,l,O⟩:=L9 r;have ew:Y=oJ T:=O;subst ew;have g:∀k:Bool,Q (.bl k) H->∀tk,EP X E σ Q (.bool k) { s with toks:=tk }:=λk q tk=>⟨.bl k,H,I.tok tk,rfl,q⟩
 cases c with
 |non=>
  refine Gq I l .non (B.non _) (g _ ?_);simpa [kj,tm] using p.ret sr _ (.bl _)
 |bl k=>
  refine Gq I l (.bl k) (B.bl _) (g _ ?_);simpa [kj,tm] using p.ret sr _ (.bl _)
 |int k=>
  refine Gq I l (.int k) (B.int _) (g _ ?_);simpa [kj,tm] using p.ret sr _ (.bl _)
 |str k=>
  refine Gq I l (.str k) (B.str _) (g _ ?_);simpa [kj,tm] using p.ret sr _ (.bl _)
 |tup h r=>
  have L:u=a_ _:=l;subst L;obtain⟨its,_,⟨o,J,G,_⟩,_⟩:=I.tuple h;refine KJ I ⟨o,J,G⟩ (.inl rfl) (B.tup _) (g _ ?_);simpa [kj,tm] using p.ret sr _ (.bl _)
 |lit h r=>
  have L:u=a_ _:=l;subst L;obtain⟨its,_,U,_⟩:=I.list h.seq;obtain⟨o,J,G,_⟩:=U.isList;refine KJ I ⟨o,J,G⟩ (.inr rfl) (B.lst _) (g _ ?_);simpa [kj,tm] using p.ret sr _ (.bl _)
 |@ref a n kk h=>
  have L:u=a_ _:=l;subst L;obtain⟨vs,hv⟩:=GA kk;obtain⟨its,_,U,_⟩:=I.list (g8.of hv);obtain⟨o,J,G,_⟩:=U.isList;refine KJ I ⟨o,J,G⟩ (.inr rfl) (B.lst _) (g _ ?_);simpa [kj,tm] using p.ret sr _ (.bl _)
 |_=>exact p.elim
theorem Wo{y:Str}{g:Pos}(B:uJ T)(c:Gl X "isinstance")(Y:X.mg "isinstance"=none)(E:Gl X y)(C:X.mg y=none)(o:bT y=some (.type T))(ha:SE X e fa)(hv:bT "isinstance"=some (.builtin "isinstance"))
  (u:y≠"__name__":=by decide) (I:(y == ("__debug__":Str))=false:=by decide)
  (J:starEach [e,.Name y g] X.env=(false,eval e X.env)::starEach [.Name y g] X.env:=by rfl) (G:starEach [.Name y g] X.env=(false,eval (.Name y g) X.env)::starEach [] X.env:=by rfl) (q:(backTo pos (starEach [.Name y g] X.env)).any (·.1)=false:=by rfl):
  SE X (.Call (.Name "isinstance" p) [e,.Name y g] [] pos) (c1 (kj [T]) fa):=
 (EF (Qr B) c Y hv (rj ha (rj (Xn (v:=.ty T) E C o rfl u I) tX G) J) (by decide) (by decide) J q).of λσ H Q h_=>h_.el λρ l st U sr p=>⟨ρ,l,st,U,sr,p.bnd.imp λd h ρ1 H1 x1 L g v O=>⟨v,rfl,ρ1,h,d,L,O,g⟩⟩
end
section
variable{X:Cx}{K:ag}{ρ:List ak}{H:Hp}{st:aX}{a3:List (ak×Obj)}{σ:St}{s:am}
theorem Hu{f:D->D->Option Bool}:∀{xs ys:List D}{r:Bool},kK f xs ys=some r->∀(j:Nat)(x y:D),xs[j]?=some x->ys[j]?=some y->∃k,f x y=some k
 |[],_,_,_,j,x,y,h,_=>by cases j<;>cases h
 |_::_,[],_,_,j,x,y,_,h=>by cases j<;>cases h
 |a::xs,b::ys,r,h,j,x,y,hx,hy=>by
  unfold kK at h;cases e:f a b with
  |none=>rw[e]at h;cases h
  |some k=>
   cases j with
   |zero=>cases hx;cases hy;exact⟨k,e⟩
   |succ j=>
    rw[e]at h;have g:xs[j]?=some x:=hx;have c:ys[j]?=some y:=hy;cases k with
    |true=>exact Hu h j x y g c
    |false=>
     cases l:kK f xs ys with
     |none=>rw[l]at h;cases h
     |some r'=>exact Hu l j x y g c
noncomputable def CC(f:D->D->Option Bool)(xs ys:List D)(j:Nat):Bool:=match xs[j]?,ys[j]? with
 |some x,some y=>(f x y).getD false
 |_,_=>true
theorem MJ{f:D->D->Option Bool}:∀{xs ys:List D}{r:Bool},kK f xs ys=some r->r=((bU (min xs.length ys.length)).all (CC f xs ys)&&xs.length == ys.length)
 |[],[],_,h=>by cases h;rfl
 |_::_,[],_,h=>by cases h;simp
 |[],_::_,_,h=>by cases h;simp
 |a::xs,b::ys,r,h=>by
  have step:(bU (min (a::xs).length (b::ys).length)).all (CC f (a::xs) (b::ys))=((f a b).getD false&&(bU (min xs.length ys.length)).all (CC f xs ys)):=by
   have e:min (a::xs).length (b::ys).length=min xs.length ys.length+1:=by simp only[bV];ext
   rw[e,mL,ck,t7];rfl
  rw[step];unfold kK at h;cases e:f a b with
  |none=>rw[e]at h;cases h
  |some k=>
   rw[e]at h;cases k with
   |true=>
    have:=MJ h;simp only[lT,Cf,bV];rw[this];congr 1;rw[kI];simp
   |false=>
    simp only[lT,iU];cases c:kK f xs ys with
    |none=>rw[c]at h;cases h
    |some r'=>rw[c]at h;cases h;rfl
theorem bQ.at{vs:List V}{c:List ab}{j:Nat}{u:ab}(r:bQ vs c)(h:c[j]?=some u):∃v,vs[j]?=some v/\RelV v u:=by
 have o:=r.length;have g:j < vs.length:=by rw[o];exact (ae.mp h).1
 obtain⟨u',e,l⟩:=r.get (aj g);rw[h]at e;cases e;exact⟨_,aj g,l⟩
theorem bA.at{vs:List V}{ds:List D}{j:Nat}{v:V}(r:bA K ρ H vs ds)(h:vs[j]?=some v):∃d,ds[j]?=some d/\c_ K ρ H v d:=by
 have l:=r.length;have c:j < ds.length:=by rw[<- l];exact (ae.mp h).1
 obtain⟨o,e,g⟩:=r.get (aj c);rw[h]at e;cases e;exact⟨_,aj c,g⟩
theorem NF{g:List D->List D->Option Bool}{v:V}{d e:D}{r:Bool}(I:Inv X a3 σ H s)(B:∀xs ys vs k,bA X.K ρ H vs xs->bA X.K ρ H vs ys->g xs ys=some k->k=true)(h:G4 g d e=some r)(o:c_ X.K ρ H v d)(l:c_ X.K ρ H v e):r=true:=by
 cases d with
 | non => cases e <;> first|(cases h; rfl)|(cases h; done)|exact nomatch (show v = _ from o.inv).symm.trans (show v = _ from l.inv)|skip
          obtain⟨a,_,e,_⟩:=l.inv;exact nomatch (show v=_ from o.inv).symm.trans e
 |bl b=>
  cases e with
  |bl c=>cases (show v=_ from o.inv).symm.trans (show v=_ from l.inv);cases h;simp
  |_=>cases h
 |int b=>
  cases e with
  |int c=>cases (show v=_ from o.inv).symm.trans (show v=_ from l.inv);cases h;simp
  |non=>exact nomatch (show v=_ from o.inv).symm.trans (show v=_ from l.inv)
  |tup ys=>
   obtain⟨a,_,e,_⟩:=l.inv;exact nomatch (show v=_ from o.inv).symm.trans e
  |_=>cases h
 |str b=>
  cases e with
  |str c=>cases (show v=_ from o.inv).symm.trans (show v=_ from l.inv);cases h;simp
  |_=>cases h
 |tup xs=>
  obtain⟨a,vs,rfl,E,u⟩:=o.inv;cases e with
  |tup ys=>
   obtain⟨J,G,e,C,q⟩:=l.inv;cases e;have:=I.tuple_inj E C;subst this;exact B _ _ _ _ u q h
  |non=>exact nomatch (show V.ref a=_ from l.inv)
  |int b=>exact nomatch (show V.ref a=_ from l.inv)
  |_=>cases h
 |_=>cases h
theorem MB{f:D->D->Option Bool}(o:∀v d e k,c_ K ρ H v d->c_ K ρ H v e->f d e=some k->k=true){xs ys:List D}{vs:List V}{k:Bool}(l:bA K ρ H vs xs)(g:bA K ρ H vs ys)(h:kK f xs ys=some k):k=true:=by
 induction xs generalizing ys vs k with
 |nil=>cases l;cases g;cases h;rfl
 |cons x xs ih=>
  cases l with
  |cons a b=>cases g with
   |cons c d=>
    unfold kK at h;cases e:f _ _ with
    |none=>rw[e]at h;cases h
    |some k=>
     rw[e]at h;have:=o _ _ _ _ a c e;subst this;exact ih b d h
theorem HG(I:Inv X a3 σ H s):∀(n:Nat){v:V}{d e:D}{r:Bool},rZ n d e=some r->c_ X.K ρ H v d->c_ X.K ρ H v e->r=true
 |0,_,_,_,_,h,r1,r2=>NF I (λ_ _ _ _ _ _ z=>by cases z) h r1 r2
 |n+1,_,_,_,_,h,r1,r2=>NF I (λxs ys vs k l g z=>MB (λv d e k a b c=>HG I n c a b) l g z) h r1 r2
open SeqAt in
noncomputable abbrev Wd(A:bz)(s:am)(g c:ab)(r:Bool):Prop:=RcAt A s g c r/\RcNeAt A s g c (!r)/\EqAt A s g c r
open SeqAt in
theorem Oj{g:List D->List D->Option Bool}{A:bz}{v w:V}{u l:ab}{d e:D}{r:Bool}(I:Inv X a3 σ H s)(hu:A.units < cL)
  (hg:∀xs ys k,g xs ys=some k->∀vs B its c,bA X.K ρ H vs xs->bA X.K ρ H B ys->bQ vs its->bQ B c ->
   ∃e:Nat->Bool,k=((bU (min its.length c.length)).all e&&its.length == c.length)/\∀(j:Nat)x y,its[j]?=some x->c[j]?=some y->EqAt A.in1 s x y (e j))
  (hs:∀xs ys vs k,bA X.K ρ H vs xs->bA X.K ρ H vs ys->g xs ys=some k->k=true)
  (h:G4 g d e=some r) (E:c_ X.K ρ H v d) (q:c_ X.K ρ H w e) (v1:RelV v u) (v2:RelV w l):Wd A s u l r:=by
 cases d with
 |non=>
  cases (show v=_ from E.inv);cases (show u=cJ from v1);cases e with
  |non=>cases (show w=_ from q.inv);cases (show l=cJ from v2);cases h;exact⟨.none_none,.none_none,.same _⟩
  |int b=>cases (show w=_ from q.inv);obtain⟨t,rfl⟩:=(show ∃t,l=d6 b t from v2);cases h;exact⟨.none_int b t,.none_int b t,.none_int b t⟩
  |tup ys=>
   obtain⟨Q,B,rfl,C,J⟩:=q.inv;cases (show l=a_ _ from v2);cases h;obtain⟨_,_,p,_⟩:=I.tuple C;exact⟨.none_tuple p hu,.none_tuple p hu,.none_tuple p hu⟩
  |_=>cases h
 |bl a=>
  cases e with
  |bl b=>cases (show v=_ from E.inv);cases (show w=_ from q.inv);cases (show u=dX a from v1);cases (show l=dX b from v2);cases h;exact⟨.bool_bool a b,.bool_bool a b,.bool_bool a b⟩
  |_=>cases h
 |int a=>
  cases (show v=_ from E.inv);obtain⟨o,rfl⟩:=(show ∃t,u=d6 a t from v1)
  cases e with
  |non=>cases (show w=_ from q.inv);cases (show l=cJ from v2);cases h;exact⟨.int_none a o,.int_none a o,.int_none a o⟩
  |int b=>cases (show w=_ from q.inv);obtain⟨t,rfl⟩:=(show ∃t,l=d6 b t from v2);cases h;exact⟨.int_int a o b t,.int_int a o b t,.int_int a o b t⟩
  |tup ys=>
   obtain⟨Q,B,rfl,C,J⟩:=q.inv;cases (show l=a_ _ from v2);cases h;obtain⟨_,_,p,_⟩:=I.tuple C;exact⟨.int_tuple a o p hu,.int_tuple a o p hu,.int_tuple a o p hu⟩
  |_=>cases h
 |str a=>
  cases e with
  |str b=>cases (show v=_ from E.inv);cases (show w=_ from q.inv);obtain⟨o,rfl⟩:=(show ∃t,u=nL a t from v1);obtain⟨t,rfl⟩:=(show ∃t,l=nL b t from v2);cases h;exact⟨.str_str a o b t,.str_str a o b t,.str_str a o b t⟩
  |_=>cases h
 |tup xs=>
  obtain⟨l1,vs,rfl,h1,Y⟩:=E.inv;cases (show u=a_ _ from v1);obtain⟨its,rv,p,_⟩:=I.tuple h1;cases e with
  |non=>cases (show w=_ from q.inv);cases (show l=cJ from v2);cases h;exact⟨.tuple_none p hu,.tuple_none p hu,.tuple_none p hu⟩
  |int b=>cases (show w=_ from q.inv);obtain⟨t,rfl⟩:=(show ∃t,l=d6 b t from v2);cases h;exact⟨.tuple_int b t p hu,.tuple_int b t p hu,.tuple_int b t p hu⟩
  |tup ys=>
   obtain⟨Q,B,rfl,C,J⟩:=q.inv;cases (show l=a_ _ from v2);obtain⟨c,O,p2,_⟩:=I.tuple C;obtain⟨ef,ek,he⟩:=hg xs ys r h vs B its c Y J rv O;have G:∀j(a1:j < its.toArray.size)(a2:j < c.toArray.size),EqAt A.in1 s its.toArray[j] c.toArray[j] (ef j):=λj a1 a2=>
    he j _ _ (by rw[fJ];exact aj (by simpa using a1)) (by rw[fJ];exact aj (by simpa using a2))
   have L:=RcAt.tuples (A:=A) (s:=s) p p2 hu G;have U:=RcNeAt.tuples (A:=A) (s:=s) p p2 hu G;simp only[ay]at L U;rw[<- ek]at L U;refine⟨L,U,?_⟩;by_cases hl:l1=Q
   ·subst hl;have:=I.tuple_inj h1 C;subst this;rw[hs xs ys vs r Y J h];exact .same _
   ·exact .of_refs hl L
  |_=>cases h
 |_=>cases h
open SeqAt in
theorem Nt{n:Nat}{A:bz}(I:Inv X a3 σ H s)
  (ih:∀{v w:V}{u q:ab}{d e:D}{r:Bool},rZ n d e=some r->c_ X.K ρ H v d->c_ X.K ρ H w e->RelV v u->RelV w q->EqAt A s u q r)
  {xs ys:List D}{k:Bool} (h:kK (rZ n) xs ys=some k) {vs o:List V}{its c:List ab} (E:bA X.K ρ H vs xs) (C:bA X.K ρ H o ys) (B:bQ vs its) (g:bQ o c):
  ∃e:Nat->Bool,k=((bU (min its.length c.length)).all e&&its.length == c.length)/\∀(j:Nat)x y,its[j]?=some x->c[j]?=some y->EqAt A s x y (e j):=by
 refine⟨CC (rZ n) xs ys,?_,λj x y hx hy=>?_⟩
 ·have l:=B.length;have c:=g.length;have Y:=E.length;have U:=C.length;rw[<- l,<- c,Y,U];exact MJ h
 ·obtain⟨v,hv,L⟩:=bQ.at B hx;obtain⟨w,c,l⟩:=bQ.at g hy;obtain⟨d,hd,Q⟩:=bA.at E hv;obtain⟨e,J,O⟩:=bA.at C c;obtain⟨r,G⟩:=Hu h j d e hd J;have:CC (rZ n) xs ys j=r:=by unfold CC;rw[hd,J];dsimp only;rw[G];rfl
  rw[this];exact ih G Q O L l
open SeqAt in
theorem GZ(I:Inv X a3 σ H s):∀(n:Nat){A:bz}{v w:V}{q o:ab}{d e:D}{r:Bool},A.units+n < cL->rZ n d e=some r->c_ X.K ρ H v d->c_ X.K ρ H w e->RelV v q->RelV w o->RcAt A s q o r/\RcNeAt A s q o (!r)/\EqAt A s q o r
 |0,_,_,_,_,_,_,_,_,hu,h,l,g,v1,v2=>Oj I hu (λ_ _ _ z=>by cases z) (λ_ _ _ _ _ _ z=>by cases z) h l g v1 v2
 | n+1, A, _, _, _, _, _, _, _, hu, h, l, g, v1, v2 => Oj I (by ext)
   (λxs ys k z vs J its E C B G u=>Nt I (λh l g v1 v2=>(GZ I n (A:=A.in1) (by show A.units+1+n < cL;ext) h l g v1 v2).2.2) z C B G u)
   (λxs ys vs k C B z=>MB (λv d e k a b c=>HG I n c a b) C B z) h l g v1 v2
end
section
variable{X:Cx}{K:ag}{ρ:List ak}{H:Hp}{st:aX}{a3:List (ak×Obj)}{σ:St}{s:am}
open SeqAt in
theorem O3(hu:X.A.units+60 < cL)(I:Inv X a3 σ H s)(sr:SR X.K ρ H st){d e:D}{x y:V}{v u:ab}{R:Bool->aX->List ak->Hp->Prop}(J:c_ X.K ρ H x d)(G:c_ X.K ρ H y e)(rx:RelV x v)(ry:RelV y u)
  (p:aS X.K ρ H (EG d e st) R):∃r,R r st ρ H/\RcAt X.A s v u r/\RcNeAt X.A s v u (!r):=by
 have g:X.A.units < cL:=by ext
 have E:aS X.K ρ H ((match rZ 50 d e with|some r=>ret r|none=>bad:M Bool) st) R->∃r,R r st ρ H/\RcAt X.A s v u r/\RcNeAt X.A s v u (!r):=λq=>by
  cases h:rZ 50 d e with
  |none=>rw[h]at q;exact q.elim
  |some r=>
   rw[h]at q;obtain⟨k1,k2,_⟩:=GZ I 50 (A:=X.A) (by ext) h J G rx ry;exact⟨r,q.ret sr,k1,k2⟩
 cases d with
 |non=>
  cases e with
  |ref n=>
   obtain⟨a,rfl,_,h⟩:∃a,y=.ref a/\_/\_:=G.inv;cases (show x=.non from J.inv);obtain⟨ds,Y,O⟩:=aS.getL (aS.bnd p) sr;obtain⟨a',vs,B,hv,r⟩:=sr.seq Y;rw[h]at B;cases B;cases (show v=cJ from rx);cases (show u=a_ a from ry);obtain⟨_,_,l,_⟩:=I.list (g8.of hv);exact⟨false,O.ret sr,.none_list l.isList g,.none_list l.isList g⟩
  |_=>exact E p
 |ref n=>
  cases e with
  |non=>
   obtain⟨a,rfl,_,h⟩:∃a,x=.ref a/\_/\_:=J.inv;cases (show y=.non from G.inv);obtain⟨ds,Y,O⟩:=aS.getL (aS.bnd p) sr;obtain⟨a',vs,B,hv,r⟩:=sr.seq Y;rw[h]at B;cases B;cases (show u=cJ from ry);cases (show v=a_ a from rx);obtain⟨_,_,l,_⟩:=I.list (g8.of hv);exact⟨false,O.ret sr,.list_none l.isList g,.list_none l.isList g⟩
  |ref m=>
   obtain⟨a,rfl,_,h⟩:∃a,x=.ref a/\_/\_:=J.inv;obtain⟨b,rfl,_,h'⟩:∃a,y=.ref a/\_/\_:=G.inv;obtain⟨xs,Y,O⟩:=aS.getL (aS.bnd p) sr;obtain⟨ys,e3,C⟩:=aS.getL (aS.bnd O) sr;obtain⟨a',vs,B,hv,q1⟩:=sr.seq Y;obtain⟨b',ws,hb,hw,q2⟩:=sr.seq e3;rw[h]at B;cases B;rw[h']at hb;cases hb;cases (show v=a_ a from rx);cases (show u=a_ b from ry);obtain⟨its,rv,l,_⟩:=I.list (g8.of hv);obtain⟨c,L,o,_⟩:=I.list (g8.of hw);have l1:=rv.length;have l2:=L.length;have l3:=q1.length;have l4:=q2.length;by_cases hl:xs.length=ys.length
   ·rw[aJ hl]at C;cases q:kK (rZ 50) xs ys with
    |none=>rw[q]at C;exact C.elim
    |some r=>
     rw[q]at C;obtain⟨B,Q,O⟩:=Nt (A:=X.A.in1) I (λh J G v1 v2=>(GZ I 50 (A:=X.A.in1) (by show X.A.units+1+50 < cL;ext) h J G v1 v2).2.2) q q1 q2 rv L;have hsz:its.toArray.size=c.toArray.size:=by rw[ay,ay];ext
     have U:∀j(H:j < its.toArray.size)(E:j < c.toArray.size),EqAt X.A.in1 s its.toArray[j] c.toArray[j] (B j):=λj H E=>
      O j _ _ (by rw[fJ];exact aj (by simpa using H)) (by rw[fJ];exact aj (by simpa using E))
     have u:(bU its.toArray.size).all B=r:=by
      rw[Q,ay];have:its.length=c.length:=by ext
      rw[this];simp
     have k1:=RcAt.lists (A:=X.A) (s:=s) l.isList o.isList hsz g U;have k2:=RcNeAt.lists (A:=X.A) (s:=s) l.isList o.isList hsz g U;rw[u]at k1 k2;exact⟨r,C.ret sr,k1,k2⟩
   ·rw[aG hl]at C;have Q:(its.toArray.size != c.toArray.size)=true:=by rw[ay,ay];simp;ext
    exact⟨false,C.ret sr,.lists_lengths l.isList o.isList Q g,.lists_lengths l.isList o.isList Q g⟩
  |_=>exact E p
 |_=>cases e<;>exact E p
theorem X2(hu:X.A.units+60 < cL):OpR X (cG .Eq) (py X.K on):=by intro a3 s σ H x y v u Q I h g c;obtain⟨ρ,st,d,e,sr,o,l,p⟩:=c;obtain⟨r,q,B,_⟩:=O3 hu I sr o l h g p.bnd;exact B _ _ _ _ ⟨.bl r,H,I,rfl,q.ret sr _ (.bl _)⟩
theorem RN(hu:X.A.units+60 < cL):OpR X (cG .NotEq) (py X.K FG):=by intro a3 s σ H x y v u Q I h g c;obtain⟨ρ,st,d,e,sr,o,l,p⟩:=c;obtain⟨r,q,_,B⟩:=O3 hu I sr o l h g p.bnd;exact B _ _ _ _ ⟨.bl (!r),H,I,rfl,q.ret sr _ (.bl _)⟩
end
section
variable{X:Cx}{a b c e o tg:Expr}{es:List Expr}{pos a7 a5:Pos}{fa fb fc:CE}{ca cb:CA}{ta tb:CT}{K:ag}{ρ:List ak}{H:Hp}{st:aX}{x:Str}{p:Pos}{T:String}
theorem Rn(ho : SE X o fa)(E : SE X e fb)(u : dM o "append" X.env (eval o X.env) = eval o X.env := by rfl)
  (C:((backTo a5 (starEach [e] X.env)).all (λx => !x.1)&&(nA a5 (i6 [] X.env)).all (λx=>x.1.isSome)
   && decide ([e].length+([]:List g_).length+(if ([]:List g_).isEmpty then 0 else 1) < 30))=true:=by rfl)
  (q:(a7.endLine == a5.line)=true:=by rfl) (hs:starEach [e] X.env=(false,eval e X.env)::starEach [] X.env:=by rfl) (g:(backTo a5 (starEach [] X.env)).any (·.1)=false:=by rfl):
  SE X (.Call (.Attribute o "append" a7) [e] [] a5) (fu fa fb):=
 (Kd iy PySem.F.slot_list_append PySem.F.type_list_append NC ho (rj E tX hs) u C q hs g).of λσ H Q h_=>h_.el λρ l st lr sr p=>⟨ρ,l,st,lr,sr,p.bnd.imp λd B ρ1 H1 x1 c p1 v rv=>by
  cases d with
  |ref n=>
   obtain⟨a,rfl,kk,h⟩:=rv.inv;have hl:n < B.length:=by rw[<- c.len];exact (ae.mp h).1
   obtain⟨G,O⟩:=GA kk;refine⟨.inl ⟨rfl,G,g8.of O⟩,ρ1,l,B,lr.mono x1,c,(aS.bnd p1).imp λy st2 ρ2 H2 x2 I p2 w J=>?_⟩;have h2:ρ2[n]?=some a:=by obtain⟨τ,e,_⟩:=x2.pre;rw[e];exact xV h
   obtain⟨ds,U,p3⟩:=aS.getL (aS.bnd p2) I;obtain⟨a',vs,E,hv,r⟩:=I.seq U;rw[h2]at E;cases E;obtain⟨hz,p4⟩:=aS.chk p3;obtain⟨Y,x3⟩:=I.put (ae.mp U).1 h2 hv (bA.app r (.cons J .nil));have L:=aS.bnd p4;unfold putL at L;rw[U]at L;exact⟨a,vs,w,rfl,rfl,hv,by rw[r.length];exact hz,(L ρ2 _ x3 Y).ret Y _ .non⟩
  |_=>exact p1.elim⟩
theorem T_:OpR X (eG .Add) (py X.K c8):=by
 intro g s σ H x y v u Q I O L G;obtain⟨ρ,st,d,e,sr,r1,r2,p⟩:=G;cases d with
 |int i=>
  cases e with
  |int j=>
   cases r1.inv;cases r2.inv;exact Rj g s σ H _ _ v u Q I O L ⟨i,j,rfl,rfl,p.ret sr _ (.int _)⟩
  |_=>exact p.elim
 |str i=>
  cases e with
  |str j=>
   cases r1.inv;cases r2.inv;exact QD g s σ H _ _ v u Q I O L ⟨i,j,rfl,rfl,(aS.chk p).1,(aS.chk p).2.ret sr _ (.str _)⟩
  |_=>exact p.elim
 |ref _=>
  cases e with
  |ref _=>
   obtain⟨_,rfl,_,h⟩:=r1.inv;obtain⟨_,rfl,_,h'⟩:=r2.inv;obtain⟨xs,e2,p1⟩:=aS.getL (aS.bnd p) sr;obtain⟨ys,e3,J⟩:=aS.getL (aS.bnd p1) sr;obtain⟨a',vs,ha,hv,C⟩:=sr.seq e2;obtain⟨b',o,hb,hw,B⟩:=sr.seq e3;rw[h]at ha;cases ha;rw[h']at hb;cases hb;obtain⟨hz,p3⟩:=aS.chk J;refine Pr g s σ H _ _ v u Q I O L ⟨_,_,vs,o,rfl,rfl,hv,hw,by rw[C.length,B.length];exact hz,λq l=>?_⟩;have nq:=sr.fresh l;have x1:Ex ρ H (ρ++[q]) (fw H q (.lst (vs++o))):=Ex.newL l;refine p3 _ _ x1 ((sr.new l).keep iP nq ((bA.app C B).mono (Ex.new l))) _ (.ref ⟨_,iP,rfl⟩ ?_);rw[<- sr.len];simp
  |_=>exact p.elim
 |tup xs=>
  cases e with
  |tup ys=>
   obtain⟨a1,vs,rfl,h1,C⟩:=r1.inv;obtain⟨b1,o,rfl,h2,B⟩:=r2.inv;obtain⟨hz,J⟩:=aS.chk p;by_cases hx:vs=[]
   ·subst hx;cases C;obtain⟨its,v1,ht,_⟩:=I.tuple h1;obtain⟨l,v2,hb,_⟩:=I.tuple h2;cases v1;have ev:v=a_ a1:=O;have eu:u=a_ b1:=L;subst ev eu;obtain⟨⟨cls,dd,data,Q⟩,o,q,n,hd⟩:=ht;obtain⟨⟨G,h,data2,g⟩,U,c,n2,Y⟩:=hb;simp only at q hd c Y;subst q hd c Y;refine xh (E:=X.xe) ⟨_,o,rfl⟩ ⟨_,U,rfl⟩ sL vJ mh lN (lF _ _) (tuple_addW0 a1 b1 _ _ n n2 dd h Q g (by simp)) ⟨o,U,?_⟩;exact⟨.ref b1,H,I,rfl,J.ret sr _ (.tup h2 B)⟩
   ·refine R3 g s σ H _ _ v u Q I O L ⟨_,_,vs,o,rfl,rfl,h1,h2,hx,by rw[C.length,B.length];exact hz,λc=>?_,λ_ q l=>?_⟩
    ·subst c;cases B;rw[dm]at J;exact J.ret sr _ (.tup h1 C)
    ·exact J _ _ (Ex.new l) (sr.new l) _ (.tup (lx.of iP) ((bA.app C B).mono (Ex.new l)))
  |_=>exact p.elim
 |_=>cases e<;>exact p.elim
def Ix(K:ag)(f:CO):TO:=λσ H Q=>∃ρ l st,LR K ρ H σ l/\SR K ρ H st/\aS K ρ H (f l st) λo _ _ g=>Q o g
abbrev SO(X:Cx)(e:Option Expr)(f:CO):Prop:=PO X e (Ix X.K f)
theorem Tb:SO X none gY:=λg s σ H Q I h=>h.el λρ l st q sr p=>Pw g s σ H Q I (p.ret sr)
theorem XI(h:SE X e fa):SO X (some e) (gc fa):=λg s σ H Q I G=>G.el λρ l st E sr p=>Rq h g s σ H Q I ⟨ρ,l,st,E,sr,p.bnd.imp λd u ρ1 L J B q v C=>by
 cases d with
 |int i=>cases (show v=.int i from C.inv);exact⟨i,rfl,q.ret B⟩
 |_=>exact q.elim⟩
theorem bA.cut{vs:List V}{ds:List D}(r:bA K ρ H vs ds)(lo g:Option Int):bA K ρ H (tD vs lo g) (cutD ds lo g):=by
 unfold tD cutD;have e:∀n d o,HT.gB n d o=MM.gB n d o:=λn d o=>by cases o<;>rfl
 rw[e,e,r.length];exact (r.drop _).take _
theorem QE{lo hi:Option Expr}{fl fh:CO}{c:Pos}(h:SE X e fa)(hl:SO X lo fl)(hh:SO X hi fh):SL X (.Subscript e (.Slice lo hi none c) pos) (qC fa fl fh):=
 (O5 SU h hl hh).of λσ H Q h_=>h_.el λρ l st lr sr p=>⟨ρ,l,st,lr,sr,p.bnd0.imp λd O ρ1 H1 B s1 p1 v rv=>⟨ρ1,l,O,lr.mono B,s1,(p1.bnd0.left B).imp λi L ρ2 H2 E s2 c=>⟨ρ2,l,L,(lr.mono B).mono E,s2,(c.bnd0.left (B.trans E)).imp λj J ρ3 H3 x3 G Y=>by
  have U:=(rv.mono E).mono x3;have u:=B.trans (E.trans x3);have C:∀{a:ak}{vs:List V}{ds:List D},g8 X.K H3 a vs->bA X.K ρ3 H3 vs ds->aS X.K ρ H (ret (cutD ds i j) J) (λds _ ρ' H'=>∀a vs,H a=none->a∉ρ'->H' a=some (.lst vs)->bA X.K ρ' H' vs ds->Q (.ref a) H')->Fu X.K (.ref a) i j H3 Q:=λ{a vs ds}hs r q=>
   ⟨a,vs,rfl,hs,λI g=>by
    have hn:H I=none:=by
     cases z:H I with
     |none=>rfl
     |some o=>exact ba g (u.trk I o z)
    exact q ρ3 _ (u.trans (Ex.new g)) (G.new g) I _ hn (G.fresh g) iP ((bA.cut r i j).mono (Ex.new g))⟩
  cases U with
  |lit h r=>exact C h.seq r Y
  |ref _ h=>
   obtain⟨ds,e2,p4⟩:=aS.getL (Y.bnd0.left u) G;obtain⟨a',vs,ha,hv,r⟩:=G.seq e2;rw[h]at ha;cases ha;exact C (g8.of hv) r p4
  |_=>exact Y.elim⟩⟩⟩
end
open PySem.AutoSeq1 (wpAny_loadPart')
theorem WY(l:ak)(items:Array ab)(n:Nat)(dct:Option ak)(B:Array (Option ab)):
  Meets (Builtin.«enumerate.__new__» ⟨[.type "enumerate",.ref l],[]⟩) (λ_ R s=>s.heap.get? l=some { cls:=.type "tuple",dict:=dct,data:=.seq items n,slots:=B } /\
   R (.ok (.ret (.ref (s.heap.push { cls:=.type "tuple_iterator",data:=.fields #[.ref l,.int 0 0] }).objs.size)))
    { s with heap:=(s.heap.push { cls:=.type "tuple_iterator",data:=.fields #[.ref l,.int 0 0] }).push { cls:=.type "enumerate",data:=.fields #[.none,.bool false,.ref s.heap.objs.size,eZ 0,.none,.none] } }):=
 .of_wp λprog w A R s h=>by
  obtain⟨C,g,d,tk,os⟩:=s;obtain⟨o,h⟩:=h;have q:=sub_enumerate;have u:bw.IsTuple (t8 ⟨C,g,d,tk,os⟩) l items:=⟨_,o,rfl,n,rfl⟩
  wp_walk using iV o;refine wpAny_stack_any λst=>ai ?_;split
  ·rename_i c _ _ _ _ _;cases (c == oJ "enumerate")<;>(wp_walk using iV o,ml u;exact⟨_,rfl,h⟩)
  ·wp_walk using iV o,ml u;exact⟨_,rfl,h⟩
section
variable{prog:Program}{w:bD}{A:bz}{E:ab->am->Prop}{s:am}
theorem RY{l:ak}{items:Array ab}{Q:ab->am->Prop}(G:s.heap.IsTuple l items)
  (h:∀h',IsEnum h' (s.heap.objs.size+1) s.heap.objs.size 0 .none->h'.IsTupleIter s.heap.objs.size l 0->h'.objs.size=s.heap.objs.size+2->(∀b o,s.heap.get? b=some o->h'.get? b=some o)->Q (.ref (s.heap.objs.size+1)) { s with heap:=h' }):
  aF (aW prog w) A (call (.type "enumerate") [.ref l]) Q E s:=by
 obtain⟨⟨c,dct,H,B⟩,C,g,n,hd⟩:=G
 replace g:c=.type "tuple":=g
 replace hd:H=.seq items n:=hd
 subst g hd;refine callType_new F.called_enumerate (by decide) (F.typeCall_enumerate_1 _) (F.newCall_enumerate_1 _) (λobj=>F.args_object_init_2 obj _) F.entry_enumerate_new (WY l items n dct B) ⟨C,?_⟩;have hz:(s.heap.push { cls:=.type "tuple_iterator",data:=.fields #[.ref l,.int 0 0] }).objs.size=s.heap.objs.size+1:=cw ..
 show _/\_;rw[hz];have u:IsEnum ((s.heap.push { cls:=.type "tuple_iterator",data:=.fields #[.ref l,.int 0 0] }).push { cls:=.type "enumerate",data:=.fields #[.none,.bool false,.ref s.heap.objs.size,eZ 0,.none,.none] }) (s.heap.objs.size+1) s.heap.objs.size 0 .none:=by have q:=aB (s.heap.push { cls:=.type "tuple_iterator",data:=.fields #[.ref l,.int 0 0] }) (o:={ cls:=.type "enumerate",data:=.fields #[.none,.bool false,.ref s.heap.objs.size,eZ 0,.none,.none] }) rfl;rw[hz]at q;exact q
 exact⟨⟨_,u,rfl⟩,h _ u ⟨_,ah _ (aB _ rfl),rfl,rfl⟩ (by rw[cw,hz]) λb o x=>ah _ (ah _ x)⟩
theorem Qe{g l:ak}{i:Nat}{items}{x:ab}{Q:ab->am->Prop}(c:s.heap.IsTupleIter g l i)(C:s.heap.IsTuple l items)(B:items[i]?=some x)
  (H:∀h',h'.IsTupleIter g l (i+1)->c7 g s.heap h'->Q x { s with heap:=h' }):aF (aW prog w) A (bW (.ref g)) Q E s:=by
 obtain⟨o,h,G,hd⟩:=id c;obtain⟨I,q,_,J,u⟩:=C;unfold bW;refine aa (bN (name:=aq "__next__") c.typeIs ig (bX ig c.typeIs sU ?_ (sO _)))
 show aF _ _ (uz (.ref g) 0 >>= _) _ _ s;refine aa (dJ h hd (x:=.ref l) rfl ?_)
 show aF _ _ (if (a_ l == cJ)=true then _ else _) _ _ s;rw[aG (show ¬ ((a_ l == cJ)=true) from bh)]
 show aF _ _ (uz (.ref g) 1 >>= _) _ _ s;refine aa (dJ h hd (x:=.int i 0) rfl ?_)
 show aF _ _ (iC (.ref l) >>= _) _ _ s;refine aa (cN q u ?_);simp only[bc,B];refine aa (ir h hd (by simp) (ai ⟨x,rfl,ai (H _ ⟨_,bG _ h (kg (dq hd _)),(lU ..).trans G,?_⟩ (bx ..))⟩));rw[dq hd];simp[eZ]
theorem Xu{g l:ak}{i:Nat}{items}{Q:ab->am->Prop}(hh:A.handled=none)(c:s.heap.IsTupleIter g l i)(C:s.heap.IsTuple l items)(B:items[i]?=none)
  (G:∀h' e,lP g s.heap h'->(∃o,h'.get? e=some o/\o.cls=.type "StopIteration")->E (.ref e) { s with heap:=h' }):aF (aW prog w) A (bW (.ref g)) Q E s:=by
 obtain⟨o,q,J,hd⟩:=id c;obtain⟨H,h,_,I,u⟩:=C;unfold bW;refine aa (bN (name:=aq "__next__") c.typeIs ig (bX ig c.typeIs sU ?_ (sO _)))
 show aF _ _ (uz (.ref g) 0 >>= _) _ _ s;refine aa (dJ q hd (x:=.ref l) rfl ?_)
 show aF _ _ (if (a_ l == cJ)=true then _ else _) _ _ s;rw[aG (show ¬ ((a_ l == cJ)=true) from bh)]
 show aF _ _ (uz (.ref g) 1 >>= _) _ _ s;refine aa (dJ q hd (x:=.int i 0) rfl ?_)
 show aF _ _ (iC (.ref l) >>= _) _ _ s;refine aa (cN h u ?_);simp only[bc,B];refine aa (gM (aa (ir q hd (by simp) ?_)));show aF _ _ (Cg (.type "StopIteration") [] >>= _) _ _ _;refine aa ?_;simp only[Cg,newTuple];refine aa (bM ?_ (by size_fits));refine aa (m:=ku _ _) (mM (a:=cJ) (by first|rfl|(simp only[ku];rfl)) (bM ?_ (by size_fits)));simp only[raiseNew];refine aa (vO ?_);first|rw[show A.in1.handled=none from hh]|rw[hh]
 exact aa (ai (zP (G _ _ (((bx ..).extBut.push _).push _) ⟨_,aB _ rfl,rfl⟩)))
end
section
variable{X:Cx}{K:ag}{ρ:List ak}{H:Hp}{st:aX}
theorem QV{v:V}{d:D}(r:c_ K ρ H v d):va d .non=ret (.bl (decide (v=.non))):=by cases r<;>rfl
theorem Te{v:V}{d:D}(r:c_ K ρ H v d):lw d .non=ret (.bl (!decide (v=.non))):=by cases r<;>rfl
theorem Wl:OpR X (cG .Is) (py X.K va):=by
 intro g s σ H x y v u Q I l h c;obtain⟨ρ,st,d,e,sr,q,o,p⟩:=c;cases e with
 |non=>
  cases o.inv;refine RI g s σ H x .non v u Q I l h ⟨rfl,?_⟩;rw[QV q]at p;exact p.ret sr _ (.bl _)
 |bl b=>
  cases d with
  |bl a=>
   cases q.inv;cases o.inv;cases (show v=dX a from l);cases (show u=dX b from h);refine wpAny_is_plain rfl ⟨.bl (a == b),H,I,?_,p.ret sr _ (.bl _)⟩;cases a<;>cases b<;>rfl
  |_=>exact p.elim
 |_=>cases d<;>exact p.elim
theorem Qf:OpR X (cG .IsNot) (py X.K lw):=by
 intro g s σ H x y v u Q I l h c;obtain⟨ρ,st,d,e,sr,q,o,p⟩:=c;cases e with
 |non=>
  cases o.inv;refine TW g s σ H x .non v u Q I l h ⟨rfl,?_⟩;rw[Te q]at p;exact p.ret sr _ (.bl _)
 |bl b=>
  cases d with
  |bl a=>
   cases q.inv;cases o.inv;cases (show v=dX a from l);cases (show u=dX b from h);refine wpAny_isNot_plain rfl ⟨.bl (!(a == b)),H,I,?_,p.ret sr _ (.bl _)⟩;cases a<;>cases b<;>rfl
  |_=>exact p.elim
 |_=>cases d<;>exact p.elim
theorem Kv{v:V}{d:D}(r:c_ K ρ H v d)(h:lJ d=true):nJ v=true:=by cases r<;>first|rfl|cases h
theorem K7:∀{vs:List V}{ds:List D},bA K ρ H vs ds->ds.all lJ=true->vs.all nJ=true
 |_,_,.nil,_=>rfl
 |_,_,.cons r t,h=>by rw[ck,bj]at h;rw[ck,bj];exact⟨Kv r h.1,K7 t h.2⟩
theorem WV{v w:V}{d e:D}(r:c_ K ρ H v d)(q:c_ K ρ H w e)(h:lJ d=true)(h':lJ e=true):zn v w=ra d e:=by
 cases d<;>first|(cases h;done)|skip
 all_goals have r:=r.inv;cases (show v=_ from r);cases e<;>first|(cases h';done)|skip
 all_goals have q:=q.inv;cases (show w=_ from q);rfl
theorem Kx{w:V}{e:D}(q:c_ K ρ H w e)(h':lJ e=true):∀{vs:List V}{ds:List D},bA K ρ H vs ds->ds.all lJ=true->Gy w vs=ds.any λd=>ra d e
 |_,_,.nil,_=>rfl
 |_,_,.cons r t,h=>by rw[ck,bj]at h;have:=Kx q h' t h.2;unfold Gy at this ⊢;rw[dY,dY,this,WV r q h.1 h']
theorem aS.hasK{n:Nat}{k:D}{R:Bool->aX->List ak->Hp->Prop}(h:aS K ρ H (MM.hasK n k st) R)(s:SR K ρ H st):∃b c,st[n]?=some (.dct b c)/\oV b k=true/\R (kJ c k).isSome st ρ H:=by obtain⟨b,c,e,l⟩:=aS.getDc (aS.bnd h) s;obtain⟨o,g⟩:=aS.chk l;exact⟨b,c,e,o,g.ret s⟩
theorem _root_.L2.OpR.orO{f:ab->ab->Sem ab}{r o:R2}(h:OpR X f r)(h':OpR X f o):OpR X f (λx y H Q=>r x y H Q\/o x y H Q):=by
 intro c s σ H x y v u Q I l g q;rcases q with q|q
 ·exact h c s σ H x y v u Q I l g q
 ·exact h' c s σ H x y v u Q I l g q
theorem SX(hu:X.A.units+60 < cL):OpR X (cG .In) (λx y H Q=>∃(ρ:List ak)(st:aX)(n:Nat)(a:ak)(b:Bool)(g:List (D×D))(k:D),y=.ref a/\SR X.K ρ H st/\ρ[n]?=some a/\st[n]?=some (.dct b g)/\c_ X.K ρ H x k/\oV b k=true/\Q (.bl (kJ g k).isSome) H):=by intro h s σ H x y v u Q I o l c;obtain⟨ρ,st,n,a,b,g,k,e,sr,G,C,B,E,q⟩:=c;subst e;cases l;exact XA (by ext) I (sr.ob n a _ G C) B E o λL J=>⟨.bl _,H,J,rfl,q⟩
theorem TX(hu:X.A.units+60 < cL):OpR X (cG .NotIn) (λx y H Q=>∃(ρ:List ak)(st:aX)(n:Nat)(a:ak)(b:Bool)(g:List (D×D))(k:D),y=.ref a/\SR X.K ρ H st/\ρ[n]?=some a/\st[n]?=some (.dct b g)/\c_ X.K ρ H x k/\oV b k=true/\Q (.bl (!(kJ g k).isSome)) H):=by intro h s σ H x y v u Q I o l c;obtain⟨ρ,st,n,a,b,g,k,e,sr,G,C,B,E,q⟩:=c;subst e;cases l;exact Qo (by ext) I (sr.ob n a _ G C) B E o λL J=>⟨.bl _,H,J,rfl,q⟩
theorem UE(hu:X.A.units+60 < cL):OpR X (cG .In) (py X.K Ei):=(QO.orO (SX hu)).of λx y H Q g=>by
 obtain⟨ρ,st,d,e,sr,o,J,p⟩:=g;have c:∀{a:ak}{vs:List V}{ds:List D}(B:g8 X.K H a vs\/lx X.K H a vs)(r:bA X.K ρ H vs ds)(l:aS X.K ρ H (A1 d ds st) λr _ ρ' I=>∀v,c_ X.K ρ' I v r->Q v I),GQ X.K false x (.ref a) H Q:=λB r l=>by obtain⟨⟨G,E⟩,L⟩:=aS.chk l;refine⟨_,_,rfl,B,Kv o G,K7 r E,?_⟩;rw[aG (by simp),Kx o G r E];exact L.ret sr _ (.bl _)
 cases J with
 |tup h r=>exact .inl (c (.inr h) r ((aS.bnd p).ret sr))
 |lit h r=>exact .inl (c (.inl h.seq) r ((aS.bnd p).ret sr))
 |ref _ h=>
  obtain⟨ds,U,l⟩:=aS.getL (aS.bnd p) sr;obtain⟨a',vs,C,hv,r⟩:=sr.seq U;rw[h]at C;cases C;exact .inl (c (.inl (g8.of hv)) r l)
 |@dic a n _ h=>
  obtain⟨b,u,Y,O,q⟩:=aS.hasK (aS.bnd p) sr;exact .inr ⟨ρ,st,n,a,b,u,d,rfl,sr,h,Y,o,O,(q.ret sr) _ (.bl _)⟩
 |_=>exact (show False from p).elim
theorem Sl(hu:X.A.units+60 < cL):OpR X (cG .NotIn) (py X.K oI):=(UT.orO (TX hu)).of λx y H Q g=>by
 obtain⟨ρ,st,d,e,sr,o,J,p⟩:=g;have c:∀{a:ak}{vs:List V}{ds:List D}(B:g8 X.K H a vs\/lx X.K H a vs)(r:bA X.K ρ H vs ds)(l:aS X.K ρ H (vx d ds st) λr _ ρ' I=>∀v,c_ X.K ρ' I v r->Q v I),GQ X.K true x (.ref a) H Q:=λB r l=>by obtain⟨⟨G,E⟩,L⟩:=aS.chk l;refine⟨_,_,rfl,B,Kv o G,K7 r E,?_⟩;rw[aJ rfl,Kx o G r E];exact L.ret sr _ (.bl _)
 cases J with
 |tup h r=>exact .inl (c (.inr h) r ((aS.bnd p).ret sr))
 |lit h r=>exact .inl (c (.inl h.seq) r ((aS.bnd p).ret sr))
 |ref _ h=>
  obtain⟨ds,U,l⟩:=aS.getL (aS.bnd p) sr;obtain⟨a',vs,C,hv,r⟩:=sr.seq U;rw[h]at C;cases C;exact .inl (c (.inl (g8.of hv)) r l)
 |@dic a n _ h=>
  obtain⟨b,u,Y,O,q⟩:=aS.hasK (aS.bnd p) sr;exact .inr ⟨ρ,st,n,a,b,u,d,rfl,sr,h,Y,o,O,(q.ret sr) _ (.bl _)⟩
 |_=>exact (show False from p).elim
end
section
variable{X:Cx}{a b c e o tg:Expr}{es:List Expr}{pos a7 a5:Pos}{fa fb fc:CE}{ca cb:CA}{ta tb:CT}{K:ag}{ρ:List ak}{H:Hp}{st:aX}{x:Str}{p:Pos}{T id:String}{body:List Stmt}{cs:CS}
theorem Tx:CallR X (.type "list") (λxs H Q=>∃v,xs=[v]/\z_ X.K rL v H Q):=Qz.of λxs H Q u=>by
 obtain⟨v,e,ρ,st,d,sr,I,p⟩:=u;have q:∀{ds:List D}{vs:List V}{l:ak}(r:bA X.K ρ H vs ds)(g:H l=none)(B:aS X.K ρ H (alloc (.lst ds) st) λr _ ρ' E=>∀v,c_ X.K ρ' E v r->Q v E),Q (.ref l) (fw H l (.lst vs)):=λ{ds vs l}r g B=>by have J:=sr.fresh g;have G:SR X.K (ρ++[l]) (fw H l (.lst vs)) (st++[.lst ds]):=(sr.new g).keep iP J (r.mono (Ex.new g));refine B _ _ (Ex.newL g) G _ (.ref ⟨_,iP,rfl⟩ ?_);rw[<- sr.len];simp
 cases I with
 |@tup a vs ds h r=>exact⟨a,vs,e,.inr h,λl g=>q r g ((aS.bnd p).ret sr)⟩
 |@lit a vs ds h r=>exact⟨a,vs,e,.inl h.seq,λl g=>q r g ((aS.bnd p).ret sr)⟩
 |@ref a n _ h=>
  obtain⟨ds,L,B⟩:=aS.getL (aS.bnd p) sr;obtain⟨O,vs,C,hv,r⟩:=sr.seq L;rw[h]at C;cases C;exact⟨a,vs,e,.inl (g8.of hv),λl g=>q r g B⟩
 |_=>exact (aS.bnd p).elim
theorem UB{g : D -> D -> M D}(hc : CallR X (.builtin id) (λxs H Q => ∃v w, xs = [v, w] /\ py X.K g v w H Q))(hg : Gl X x)(hm : X.mg x = none)(hv : bT x = some (.builtin id))(ha : SE X a fa)(hb : SE X b fb)(hn : x ≠ "__name__" := by decide)(G : (x == ("__debug__" : Str)) = false := by decide)
  (h:starEach [a,b] X.env=(false,eval a X.env)::starEach [b] X.env:=by rfl) (E:starEach [b] X.env=(false,eval b X.env)::starEach [] X.env:=by rfl) (C:(backTo pos (starEach [b] X.env)).any (λx=>x.fst)=false:=by rfl):SE X (.Call (.Name x p) [a,b] [] pos) (c2 g fa fb):=
 (EF hc hg hm hv (rj ha (rj hb tX E) h) hn G h C).of λσ H Q h_=>h_.el λρ l st I sr p=>⟨ρ,l,st,I,sr,p.bnd.imp λd u ρ1 H1 L U o v Y=>⟨ρ1,l,u,I.mono L,U,o.bnd.imp λe q ρ2 H2 J O c w B=>⟨v,w,rfl,ρ2,q,d,e,O,Y.mono J,B,c⟩⟩⟩
theorem WR(l:X.calm=true):CallR X (.builtin "max") (λxs H Q=>∃v w,xs=[v,w]/\py X.K rY v w H Q):=(YN l).of λxs H Q g=>by
 obtain⟨v,w,e,h⟩:=g;obtain⟨i,j,ρ,st,rfl,rfl,sr,p⟩:=zr h;refine⟨i,j,e,?_⟩;have:(if j > i then j else i)=max i j:=by ext
 rw[this];exact p.ret sr _ (.int _)
theorem Ri(ho:SE X o fa)(q:dM o "pop" X.env (eval o X.env)=eval o X.env:=by rfl)(g:(a7.endLine == a5.line)=true:=by rfl):SE X (.Call (.Attribute o "pop" a7) [] [] a5) (wN fa):=
 (PL iy PySem.F.slot_list_pop PySem.F.type_list_pop Uv ho q g).of λσ H Q h_=>h_.el λρ l st lr sr p=>⟨ρ,l,st,lr,sr,p.bnd.imp λd U ρ1 H1 x1 B L v c=>by
  cases d with
  |ref n=>
   obtain⟨a,rfl,_,h⟩:=c.inv;obtain⟨ds,G,u⟩:=aS.getL (aS.bnd L) B;obtain⟨a',vs,O,hv,r⟩:=B.seq G;rw[h]at O;cases O;cases E:ds.getLast? with
   |none=>rw[E]at u;exact u.elim
   |some d=>
    rw[E]at u;have hl:=(ae.mp G).1;have e4:ds[ds.length-1]?=some d:=by rw[<- List.getLast?_eq_getElem?];exact E
    obtain⟨y,hy,Y⟩:=r.get e4;have rd:bA X.K ρ1 H1 vs.dropLast ds.dropLast:=by rw[uA,uA,r.length];exact r.take _
    obtain⟨J,I⟩:=B.put hl h hv rd;refine⟨.inl ⟨rfl,vs,g8.of hv⟩,a,vs,y,rfl,rfl,hv,by rw[r.length];exact hy,?_⟩;have C:=aS.bnd u;unfold putL at C;rw[G]at C;exact (C ρ1 _ I J).ret J _ (Y.mono I)
  |_=>exact L.elim⟩
theorem bA.rev:∀{vs:List V}{ds:List D},bA K ρ H vs ds->bA K ρ H vs.reverse ds.reverse
 |_,_,.nil=>.nil
 |_,_,.cons r t=>by rw[gL,gL];exact bA.app (bA.rev t) (.cons r .nil)
theorem QB(hp:sK (aW X.prog X.w) X.A X.env X.xe)(hc:ST X c ta)(hb:wO X body cs):SS X (.While c body [] pos) (kL ta cs):=(Xa hp hc hb).of λG σ H h_=>h_.el λρ l st lr sr p=>by
 unfold kL at p;by_cases h:∃n,∀r,eY ta cs n l st=r->r≠.bad
 ·rw[dif_pos h]at p;generalize ff h=n at p;refine⟨λm σ H=>∃ρ l st,LR X.K ρ H σ l/\SR X.K ρ H st/\aS X.K ρ H (eY ta cs m l st) λf _ ρ' g=>match f with
   | .next l'=>∀σ',LR X.K ρ' g σ' l'->G.nx σ' g
   | .ret d=>∀v,c_ X.K ρ' g v d->G.rt v g
   | .brk l'=>∀σ',LR X.K ρ' g σ' l'->G.bk σ' g
   | .cnt l'=>∀σ',LR X.K ρ' g σ' l'->G.ct σ' g,⟨n,ρ,l,st,lr,sr,p⟩,?_⟩
  intro m σ1 H1 u;obtain⟨ρ1,l1,O,B,Q,c⟩:=u;cases m with
  |zero=>exact c.elim
  |succ m=>
   refine⟨ρ1,l1,O,B,Q,(aS.bnd c).imp λk L ρ2 H2 U Y o=>?_⟩;cases k with
   |false=>exact o.ret Y _ (B.mono U)
   |true=>
    refine⟨λσ' g=>∃ρ l st,LR X.K ρ g σ' l/\SR X.K ρ g st/\aS X.K ρ g (eY ta cs m l st) _,λσ' g q=>⟨m,ie m,q⟩,ρ2,l1,L,B.mono U,Y,(aS.bnd o).imp λf E ρ3 H3 x3 I J=>?_⟩;cases f with
    |next l'=>exact λσ' C=>⟨ρ3,l',E,C,I,J⟩
    |ret d=>exact J.ret I
    |brk l'=>exact J.ret I
    |cnt l'=>exact λσ' C=>⟨ρ3,l',E,C,I,J⟩
 ·rw[dif_neg h]at p;exact p.elim
end
section
variable{X:Cx}{e st:Expr}{pos p2 p3 p4:Pos}{fa:CE}{te:TE}{j:Nat}
theorem UA{lo I:Option Expr}{J L:CO}{p2:Pos}(h:SE X e fa)(hl:SO X lo J)(hh:SO X I L):SE X (.Subscript e (.Slice lo I none p2) pos) (dP fa J L):=
 (O5 Qv h hl hh).of λσ H Q h_=>h_.el λρ l st B sr p=>⟨ρ,l,st,B,sr,p.bnd.imp λd g ρ1 H1 G s1 p1 v rv=>⟨ρ1,l,g,B.mono G,s1,p1.bnd.imp λi c ρ2 H2 E s2 p2=>⟨ρ2,l,c,(B.mono G).mono E,s2,p2.bnd.imp λj U ρ3 H3 O Y p3=>by
  have u:=(rv.mono E).mono O;have e:∀n d o,HT.gB n d o=MM.gB n d o:=λn d o=>by cases o<;>rfl
  cases u with
  |@tup a vs ds h r=>
   obtain⟨hw,p4⟩:=aS.chk p3;exact⟨a,vs,rfl,h,by rw[e,e,r.length];exact hw,λq C=>p4 ρ3 _ (Ex.new C) (Y.new C) _ (.tup (lx.of iP) ((bA.cut r i j).mono (Ex.new C)))⟩
  |_=>exact p3.elim⟩⟩⟩
end
section
variable{X:Cx}{K:ag}{ρ:List ak}{H:Hp}{st:aX}
theorem YD{h:bw}{a:ak}{m c:Str->Option ab}(x:h.Ns a m)(y:h.Ns a c):m=c:=by obtain⟨o,G,ep,E,C,_,B⟩:=x;obtain⟨o',q,u,l,g,_,f3⟩:=y;rw[E]at l;cases l;rw[C]at g;cases g;funext n;rw[<- B n,f3 n]
theorem bA.pick:∀{vs:List V}{ds:List D}(i:Nat),bA K ρ H vs ds->c_ K ρ H (vs.getD i .non) (ds.getD i .non)
 |_,_,_,.nil=>by simp;exact .non
 |_,_,0,.cons r t=>by simpa using r
 |_,_,i+1,.cons r t=>by simpa using bA.pick i t
theorem bA.picks{vs:List V}{ds:List D}(r:bA K ρ H vs ds):∀(p:List Nat),bA K ρ H (p.map λi=>vs.getD i .non) (p.map λi=>ds.getD i .non)
 |[]=>.nil
 |i::p=>.cons (bA.pick i r) (bA.picks r p)
theorem RE{P:Program}{w:bD}{H:Hp}{h:bw}{a:ak}{o:HO}(x:eX P w H h a o):∃c,h.get? a=some c:=by
 cases o with
 |lst _=>obtain⟨_,_,_,_,e⟩:=x;exact⟨_,e⟩
 |tup _=>obtain⟨_,_,_,c,e,_⟩:=x;exact⟨_,e⟩
 |dK _=>obtain⟨_,_,_,_,c,_,_,e,_⟩:=x;exact⟨_,e⟩
 |dT _=>obtain⟨_,_,_,_,c,_,_,e,_⟩:=x;exact⟨_,e⟩
 |set _ _=>obtain⟨c,_,_,_,e,_⟩:=x;exact⟨_,e⟩
 |ins _ _ _=>obtain⟨_,_,_,e,_⟩:=x;exact⟨_,e⟩
 |own _=>obtain⟨_,e⟩:=x;exact⟨_,e⟩
 |xd _=>obtain⟨_,⟨_,_,_,e,_⟩,_⟩:=x;exact⟨_,e⟩
 |rng _ _=>obtain⟨_,_,_,e⟩:=x;exact⟨_,e⟩
 |frz _ _=>obtain⟨e,_⟩:=x;exact⟨_,e⟩
 |tbl _=>exact⟨_,(show h.get? a=some _ from x)⟩
 |met _ _=>exact⟨_,(show h.get? a=some _ from x)⟩
 |ext _=>obtain⟨_,⟨_,e⟩,_⟩:=x;exact⟨_,e⟩
end
section
variable{X:Cx}{a3:List (ak×Obj)}{σ:St}{H:Hp}{s:am}{h':bw}{ch:List ak}
theorem T4{t':Nat}(I:Inv X a3 σ H s)(h:∀b∈ch,pQ X a3 H b)(keep:∀b o,b∉ch->s.heap.get? b=some o->h'.get? b=some o):Inv X a3 σ H { s with heap:=h',toks:=t' }:=by
 have ne:∀b o,H b=some o->b∉ch:=λb o e z=>by rw[(h b z).1]at e;cases e
 have B:X.env.locals∉ch:=λz=>(h _ z).2.1 rfl;refine I.step (g':=s.gens) (d':=s.drawn) (ch:=ch) (λb l=>?_) (λb o _ _ c e _=>keep b o c e) (λb o _ _ c e _=>⟨o.slots,keep b o c e⟩) (λb o _ _ e=>e) (λb o c e=>⟨o,keep b o c e⟩)
  (λb ys e=>e) (λb o ys e=>e) (λb ps e=>⟨#[],by rw[e];simp⟩) (λm q=>?_) ?_ I.bare
 ·obtain⟨O,G,L,f3,E,C⟩:=h b l;exact⟨f3,G,E,C⟩
 ·obtain⟨o,J,ep,e,r⟩:=q;exact⟨o,J,ep,keep _ o B e,r⟩
 ·intro a o e;refine (I.hok a o e).stay (λb u l g=>keep b u ?_ g) (λb g=>g) (λb ys g=>g);rcases l with y|y
  ·rw[y];exact ne a o e
  ·exact ne b _ y
theorem NL{t':Nat}{T:ak}{vs:List V}{its:List ab}(I:Inv X a3 σ H s)(l:∀b∈ch,pQ X a3 H b)(keep:∀b o,b∉ch->s.heap.get? b=some o->h'.get? b=some o)(B:s.heap.objs.size<=T)
  (hz:vs.length<=sizeLine) (hv:bQ vs its) (C:iK h' T its.toArray):Inv X a3 σ (fw H T (.tup vs)) { s with heap:=h',toks:=t' }:=by
 have c:H T=none:=I.hok.fresh B;have ne:∀b o,H b=some o->b∉ch:=λb o e z=>by rw[(l b z).1]at e;cases e
 have G:X.env.locals∉ch:=λz=>(l _ z).2.1 rfl;refine I.step (g':=s.gens) (d':=s.drawn) (ch:=ch) (λb q=>?_) (λb o _ _ h e _=>keep b o h e) (λb o _ _ h e _=>⟨o.slots,keep b o h e⟩) (λb o _ e n=>by rw[fM (aR (aZ (aD e) B))];exact n) (λb o h e=>⟨o,keep b o h e⟩)
  (λb ys e=>by rw[fM (pc e c)];exact e) (λb o ys e=>by rw[fM (pc e c)];exact e) (λb ps e=>⟨#[],by rw[fM (pc e c),e];simp⟩) (λm E=>?_) ?_ I.bare
 ·obtain⟨Y,O,U,f3,L,J⟩:=l b q;exact⟨f3,O,L,J⟩
 ·obtain⟨o,Q,ep,e,r⟩:=E;exact⟨o,Q,ep,keep _ o G e,r⟩
 ·intro a o e;by_cases z:a=T
  ·subst z;rw[iP]at e;cases e;exact⟨hz,its,hv,C⟩
  ·rw[fM z]at e;refine (I.hok a o e).stay (λb u q g=>keep b u ?_ g) (λb g=>by rw[fM (pc g c)];exact g) (λb ys g=>by rw[fM (pc g c)];exact g);rcases q with y|y
   ·rw[y];exact ne a o e
   ·exact ne b _ y
end
structure AR(prog:Program)(w:bD)(A:bz)(it src:ak)(val:Nat->Option ab)(P:Nat->bw->Prop):Prop where
 there:∀k h,P k h->∃o,h.get? it=some o
 keep:∀k h h',P k h->(∀b,b=it\/b=src->∀o,h.get? b=some o->h'.get? b=some o)->P k h'
 item:∀k x(s:am)(Q:ab->am->Prop)(E:ab->am->Prop),P k s.heap->val k=some x->(∀h',P (k+1) h'->c7 it s.heap h'->Q x { s with heap:=h' })->aF (aW prog w) A (bW (.ref it)) Q E s
 done:∀k(s:am)(Q:ab->am->Prop)(E:ab->am->Prop),P k s.heap->val k=none->(∀h' e,lP it s.heap h'->(∃o,h'.get? e=some o/\o.cls=.type "StopIteration")->E (.ref e) { s with heap:=h' })->aF (aW prog w) A (bW (.ref it)) Q E s
section
variable{prog:Program}{w:bD}{A:bz}{E:ab->am->Prop}{s:am}{z tI tO i1 i2 l1 l2:ak}{v1 v2:Nat->Option ab}{P1 P2:Nat->bw->Prop}{k:Nat}{u v:ab}
theorem vY{l g b:ak}{val:Nat->Option ab}{P:Nat->bw->Prop}{h h':bw}(S:AR prog w A l g val P)(x:P k h)(e:lP b h h')(H:l≠b)(G:g≠b):P k h':=
 S.keep k h h' x λc C o B=>e c o (by rcases C with q|q<;>rw[q]<;>assumption) B
theorem P6{a G:ak}{items:Array ab}(hh:A.handled=none)(J:a≠G):AR prog w A G a (λi=>items[i]?) (λi h=>h.IsTupleIter G a i/\h.IsTuple a items) where
 there:=λk h B=>by obtain⟨⟨o,e,_⟩,_⟩:=B;exact⟨o,e⟩
 keep:=λk h h' l L=>by obtain⟨⟨o,e,r⟩,⟨o',e',U⟩⟩:=l;exact⟨⟨o,L G (.inl rfl) o e,r⟩,⟨o',L a (.inr rfl) o' e',U⟩⟩
 item:=λk x s Q E g I Y=>by obtain⟨H,C⟩:=g;exact Qe H C I λh' q O=>Y h' ⟨q,C.extBut O.extBut J⟩ O
 done:=λk s Q E c I u=>by obtain⟨H,C⟩:=c;exact Xu hh H C I u
theorem Vy{Q:ab->am->Prop}(D:ZipApart z tI tO i1 i2 l1 l2)(G:AR prog w A i1 l1 v1 P1)(C:AR prog w A i2 l2 v2 P2)(hz:ox s.heap z tI tO .none)(hi:iu s.heap tI (.ref i1) (.ref i2))(ho:iu s.heap tO u v)
  (p1:P1 k s.heap) (p2:P2 k s.heap) {x y:ab} (hx:v1 k=some x) (hy:v2 k=some y)
  (hQ:∀h',ox h' z tI tO (eZ s.heap.objs.size)->iu h' tO x y->P1 (k+1) h'->P2 (k+1) h'->iu h' s.heap.objs.size x y ->
   (∀c o,c≠z->c≠tO->c≠i1->c≠i2->s.heap.get? c=some o->h'.get? c=some o)->Q (.ref s.heap.objs.size) { s with heap:=h' }):
  aF (aW prog w) A (Builtin.«zip.__next__» ⟨[.ref z],[]⟩) (λf s'=>∃r,f=.done (.ret r)/\Q r s') E s:=by
 show aF _ _ (uz (.ref z) 2 >>= _) _ _ _;refine aa (dJ hz rfl (x:=.bool false) rfl ?_);show aF _ _ (uz (.ref z) 3 >>= _) _ _ _;refine aa (dJ hz rfl (x:=.ref tI) rfl (aa (cN hi rfl ?_)));show aF _ _ (eQ (.ref z) >>= _) _ _ _;refine aa ?_;unfold eQ;refine aa (dJ hz rfl (x:=.none) rfl (ai ?_));simp only[if_true];refine aa (gM (aa (dJ hz rfl (x:=.ref tO) rfl (aa (gN hz (by simp) λha za U=>?_)))));have za':ox ha z tI tO .ellipsis:=za;refine aa ?_;simp only[xJ,zQ,m8,r8];refine aa (aa (qe ?_));show aF _ _ (bW (.ref i1) >>= _) _ _ _;refine aa (G.item k x _ _ _ (vY G p1 U.extBut D.i1z D.l1z) hx λhb q1 O=>ai ?_);have ob:iu hb tO u v:=O.extBut _ _ D.TOi1 (U.extBut _ _ D.TOz ho);refine aa (cN ob rfl (aa (pj ob λB oc sc=>?_)));have oc':iu B tO x v:=oc;refine aa (iq (ai ?_));refine aa (aa (qe ?_));show aF _ _ (bW (.ref i2) >>= _) _ _ _;have p2c:P2 k B:=vY C (vY C (vY C p2 U.extBut D.i2z D.l2z) O.extBut D.i12.symm D.l2i1) sc.extBut D.TOi2.symm D.l2TO;refine aa (C.item k y _ _ _ p2c hy λhd q2 L=>ai ?_);have od:iu hd tO x v:=L.extBut _ _ D.TOi2 oc';refine aa (cN od rfl (aa (pj od λg oe J=>?_)));have Y:iu g tO x y:=oe;refine aa (iq (ai (ai ?_)));refine aa (cN Y rfl (aa (wpAny_newTuple ?_)));have h:g.objs.size=s.heap.objs.size:=by rw[J.1,L.1,sc.1,O.1,U.1]
 have ze:ox g z tI tO .ellipsis:=J.extBut _ _ D.TOz.symm (L.extBut _ _ D.i2z.symm (sc.extBut _ _ D.TOz.symm (O.extBut _ _ D.i1z.symm za')));have all:∀c o,c≠z->c≠tO->c≠i1->c≠i2->s.heap.get? c=some o->g.get? c=some o:=λc o l n2 n3 n4 e=>J.extBut _ _ n2 (L.extBut _ _ n4 (sc.extBut _ _ n2 (O.extBut _ _ n3 (U.extBut _ _ l e))));have q1e:P1 (k+1) g:=vY G (vY G (vY G q1 sc.extBut D.TOi1.symm D.l1TO) L.extBut D.i12 D.l1i2) J.extBut D.TOi1.symm D.l1TO;have q2e:P2 (k+1) g:=vY C q2 J.extBut D.TOi2.symm D.l2TO;have H:z < g.objs.size:=aD ze
 show aF _ _ (lB (.ref z) (.ref g.objs.size) >>= _) _ _ _;refine aa ?_;unfold lB;have zf:ox (g.push { cls:=.type "tuple",data:=.seq #[x,y] }) z tI tO .ellipsis:=ah _ ze;refine aa (gN zf (by simp) λhg zg sg=>?_);have zg':ox hg z tI tO (eZ g.objs.size):=zg;refine gN zg' (by simp) λhh zh sh=>?_;have I:ox hh z tI tO (eZ g.objs.size):=zh;have up:∀c o,c≠z->g.get? c=some o->hh.get? c=some o:=λc o l e=>sh.extBut _ _ l (sg.extBut _ _ l (ah _ e));have new:iu hh g.objs.size x y:=sh.extBut _ _ (d_ H) (sg.extBut _ _ (d_ H) (aB _ rfl));rw[h]at I new;refine ai ⟨_,rfl,?_⟩;show Q (.ref g.objs.size) _;rw[h];exact hQ hh I (up _ _ D.TOz Y) (G.keep _ _ _ q1e λc B o e=>up c o (B.elim (λq=>by rw[q];exact D.i1z) (λq=>by rw[q];exact D.l1z)) e) (C.keep _ _ _ q2e λc B o e=>up c o (B.elim (λq=>by rw[q];exact D.i2z) (λq=>by rw[q];exact D.l2z)) e) new λc o l n2 n3 n4 e=>up c o l (all c o l n2 n3 n4 e)
theorem WG{Q:Hk->am->Prop}(D:ZipApart z tI tO i1 i2 l1 l2)(S1:AR prog w A i1 l1 v1 P1)(O:AR prog w A i2 l2 v2 P2)(hz:ox s.heap z tI tO .none)(hi:iu s.heap tI (.ref i1) (.ref i2))(ho:iu s.heap tO u v)
  (p1:P1 k s.heap) (p2:P2 k s.heap) (J:v1 k=none\/v2 k=none)
  (hE:∀h' e,(∀c o,c≠z->c≠tO->c≠i1->c≠i2->s.heap.get? c=some o->h'.get? c=some o)->(∃o,h'.get? e=some o/\o.cls=.type "StopIteration")->E (.ref e) { s with heap:=h' }):
  aF (aW prog w) A (Builtin.«zip.__next__» ⟨[.ref z],[]⟩) Q E s:=by
 show aF _ _ (uz (.ref z) 2 >>= _) _ _ _;refine aa (dJ hz rfl (x:=.bool false) rfl ?_);show aF _ _ (uz (.ref z) 3 >>= _) _ _ _;refine aa (dJ hz rfl (x:=.ref tI) rfl (aa (cN hi rfl ?_)));show aF _ _ (eQ (.ref z) >>= _) _ _ _;refine aa ?_;unfold eQ;refine aa (dJ hz rfl (x:=.none) rfl (ai ?_));simp only[if_true];refine aa (gM (aa (dJ hz rfl (x:=.ref tO) rfl (aa (gN hz (by simp) λha za B=>?_)))));have l:ox ha z tI tO .ellipsis:=za;refine aa ?_;simp only[xJ,zQ,m8,r8];refine aa (aa (qe ?_));show aF _ _ (bW (.ref i1) >>= _) _ _ _;have H:P1 k ha:=vY S1 p1 B.extBut D.i1z D.l1z;cases hx:v1 k with
 |none=>
  refine aa (S1.done k _ _ _ H hx λhb e g G=>?_);obtain⟨Y,h,L⟩:=G;have zb:ox hb z tI tO .ellipsis:=g _ _ D.i1z.symm l;have ne:e≠z:=λq=>by rw[q,zb]at h;cases h;simp at L
  exact gN zb (by simp) λhc _ sc=>hE hc e (λc o I _ n3 _ q=>sc.extBut _ _ I (g _ _ n3 (B.extBut _ _ I q))) ⟨Y,sc.extBut _ _ ne h,L⟩
 |some x=>
  have hy:v2 k=none:=J.resolve_left (by rw[hx];simp);refine aa (S1.item k x _ _ _ H hx λhb q1 g=>ai ?_);have ob:iu hb tO u v:=g.extBut _ _ D.TOi1 (B.extBut _ _ D.TOz ho);refine aa (cN ob rfl (aa (pj ob λhc oc sc=>?_)));refine aa (iq (ai ?_));refine aa (aa (qe ?_));show aF _ _ (bW (.ref i2) >>= _) _ _ _;have U:P2 k hc:=vY O (vY O (vY O p2 B.extBut D.i2z D.l2z) g.extBut D.i12.symm D.l2i1) sc.extBut D.TOi2.symm D.l2TO;refine aa (O.done k _ _ _ U hy λhd e sd C=>?_);obtain⟨Y,h,L⟩:=C;have zd:ox hd z tI tO .ellipsis:=sd _ _ D.i2z.symm (sc.extBut _ _ D.TOz.symm (g.extBut _ _ D.i1z.symm l));have ne:e≠z:=λq=>by rw[q,zd]at h;cases h;simp at L
  exact gN zd (by simp) λhe _ se=>hE he e (λc o I n2 n3 n4 q=>se.extBut _ _ I (sd _ _ n4 (sc.extBut _ _ n2 (g.extBut _ _ n3 (B.extBut _ _ I q))))) ⟨Y,se.extBut _ _ ne h,L⟩
end
def pC(a b:CE):CI:=λl=>bnd (a l) λx=>bnd (b l) λy=>match x,y with
 | .tup ds,.tup es=>ret ⟨ds.zipWith (λp q=>.tup [p,q]) es,eU⟩
 |_,_=>bad
def tN(t:Bool)(K:ag)(H:Hp)(a:ak)(xs:List V):Prop:=match t with
 |true=>lx K H a xs
 |false=>g8 K H a xs
noncomputable def rO(t:Bool)(h:bw)(a:ak)(xs:Array ab):Prop:=match t with
 |true=>h.IsTuple a xs
 |false=>h.IsList a xs
noncomputable def nt(t:Bool)(h:bw)(c a:ak)(i:Nat):Prop:=match t with
 |true=>h.IsTupleIter c a i
 |false=>h.IsListIter c a i
noncomputable def AQ:Bool->ak->Obj
 |true,a=>{ cls:=.type "tuple_iterator",data:=.fields #[.ref a,.int 0 0] }
 |false,a=>{ cls:=.type "list_iterator",data:=.fields #[.ref a,.int 0 0] }
section
variable{prog:Program}{w:bD}{A:bz}{E:ab->am->Prop}{s:am}{t u:Bool}{h h':bw}{a b it:ak}{xs ys:Array ab}{i:Nat}
theorem rO.there(p:rO t h a xs):∃o,h.get? a=some o:=by cases t<;>exact let ⟨o,e,_⟩:=p;⟨o,e⟩
theorem rO.keep(p:rO t h a xs)(k:∀o,h.get? a=some o->h'.get? a=some o):rO t h' a xs:=by cases t<;>exact let ⟨o,e,r⟩:=p;⟨o,k o e,r⟩
theorem nt.keep(p:nt t h it a i)(k:∀o,h.get? it=some o->h'.get? it=some o):nt t h' it a i:=by cases t<;>exact let ⟨o,e,r⟩:=p;⟨o,k o e,r⟩
theorem nt.obj(p:nt t h it a i):∃o,h.get? it=some o/\∀v,o.data≠.cell v:=by cases t<;>exact let ⟨o,e,_,d⟩:=p;⟨o,e,λv q=>by rw[d]at q;cases q⟩
theorem L_(e:h.get? it=some (AQ t a)):nt t h it a 0:=by cases t<;>exact⟨_,e,rfl,rfl⟩
theorem rO.ne(p:rO t h a xs)(q:nt u h it b i):a≠it:=λz=>by subst z;cases t<;>cases u<;>obtain⟨o,B,c,_⟩:=p<;>obtain⟨o',g,l,_⟩:=q<;>rw[B]at g<;>cases g<;>rw[c]at l<;>exact ba (uY l) (by decide)
theorem zi(hh:A.handled=none)(C:a≠it):AR prog w A it a (λi=>xs[i]?) (λi h=>nt t h it a i/\rO t h a xs):=by
 cases t
 ·exact⟨λk h B=>by obtain⟨⟨o,e,_⟩,_⟩:=B;exact⟨o,e⟩,λk h h' l J=>by obtain⟨p,q⟩:=l;exact⟨nt.keep (t:=false) p (J it (.inl rfl)),rO.keep (t:=false) q (J a (.inr rfl))⟩,λk x s Q E g I O=>by obtain⟨H,G⟩:=g;exact wpAny_nextOf_list_item H G I λh' q L=>O h' ⟨q,rO.keep (t:=false) G λo e=>L.extBut a o C e⟩ L,λk s Q E c I U=>by obtain⟨H,G⟩:=c;exact wpAny_nextOf_list_end hh H G I U⟩
 ·exact P6 hh C
theorem MG{Q:ab->am->Prop}(p:rO t s.heap a xs)(c:Q (.ref s.heap.objs.size) { s with heap:=s.heap.push (AQ t a) }):aF (aW prog w) A (um (.ref a)) Q E s:=by
 cases t
 ·exact fS p c
 ·exact ml p c
theorem xW{X:Cx}{c:List (ak×Obj)}{σ:St}{H:Hp}{vs:List V}(I:Inv X c σ H s)(q:tN t X.K H a vs):∃its,bQ vs its/\rO t s.heap a its.toArray:=by
 cases t
 ·obtain⟨its,g,p,_⟩:=I.list q;exact⟨its,g,p.isList⟩
 ·obtain⟨its,g,p,_⟩:=I.tuple q;exact⟨its,g,p⟩
theorem KY{X:Cx}{c:List (ak×Obj)}{σ:St}{H:Hp}{vs g:List V}(I:Inv X c σ H s)(p:tN t X.K H a vs)(q:tN t X.K H a g):vs=g:=by
 cases t
 ·exact I.list_inj p q
 ·exact I.tuple_inj p q
abbrev Cy(t:Bool)(h:bw)(a:ak):bw:=h.push (AQ t a)
abbrev Cz(t u:Bool)(h:bw)(a b:ak):bw:=(Cy t h a).push (AQ u b)
abbrev CU(t u:Bool)(h:bw)(a b:ak):bw:=(Cz t u h a b).push { cls:=.type "tuple",data:=.seq #[.ref h.objs.size,.ref (Cy t h a).objs.size] }
abbrev FC(t u:Bool)(h:bw)(a b:ak):bw:=(CU t u h a b).push { cls:=.type "tuple",data:=.seq #[.none,.none] }
abbrev xy(t u:Bool)(h:bw)(a b:ak):bw:=(FC t u h a b).push { cls:=.type "zip",data:=.fields #[.none,.bool false,.bool false,.ref (Cz t u h a b).objs.size,.ref (CU t u h a b).objs.size] }
theorem Qj(t u:Bool)(a b:ak)(xs ys:Array ab):
  Meets (Builtin.«zip.__new__» ⟨[.type "zip",.ref a,.ref b],[]⟩) (λ_ R s=>rO t s.heap a xs/\rO u s.heap b ys/\R (.ok (.ret (.ref (FC t u s.heap a b).objs.size))) { s with heap:=xy t u s.heap a b }):=
 .of_wp λprog w A R s h=>by
  obtain⟨l,g,d,tk,os⟩:=s;obtain⟨G,C,h⟩:=h;have c:=sub_zip;have B:rO t (t8 ⟨l,g,d,tk,os⟩) a xs:=G;have q:rO u (t8 ⟨l.push (AQ t a),g,d,tk,os⟩) b ys:=C.keep λo e=>ah _ e
  wp_walk using MG B,MG q
  exact⟨_,rfl,h⟩
theorem YB{Q:ab->am->Prop}(ha:rO t s.heap a xs)(Y:rO u s.heap b ys)
  (h:∀h',ox h' (s.heap.objs.size+4) (s.heap.objs.size+2) (s.heap.objs.size+3) .none->iu h' (s.heap.objs.size+2) (.ref s.heap.objs.size) (.ref (s.heap.objs.size+1))->iu h' (s.heap.objs.size+3) .none .none ->
   nt t h' s.heap.objs.size a 0->nt u h' (s.heap.objs.size+1) b 0->(∀c o,s.heap.get? c=some o->h'.get? c=some o)->Q (.ref (s.heap.objs.size+4)) { s with heap:=h' }):
  aF (aW prog w) A (call (.type "zip") [.ref a,.ref b]) Q E s:=by
 refine callType_new F.called_zip (by decide) (F.typeCall_zip_2 _ _) (F.newCall_zip_2 _ _) (λobj=>F.args_object_init_3 obj _ _) F.entry_zip_new (Qj t u a b xs ys) ⟨ha,Y,?_⟩;have H:(Cy t s.heap a).objs.size=s.heap.objs.size+1:=cw ..;have G:(Cz t u s.heap a b).objs.size=s.heap.objs.size+2:=by rw[cw,H]
 have C:(CU t u s.heap a b).objs.size=s.heap.objs.size+3:=by rw[cw,G]
 have O:(FC t u s.heap a b).objs.size=s.heap.objs.size+4:=by rw[cw,C]
 have g:∀{c o},(FC t u s.heap a b).get? c=some o->(xy t u s.heap a b).get? c=some o:=λe=>ah _ e;have l:∀{c o},(CU t u s.heap a b).get? c=some o->(xy t u s.heap a b).get? c=some o:=λe=>g (ah _ e);have q:∀{c o},(Cz t u s.heap a b).get? c=some o->(xy t u s.heap a b).get? c=some o:=λe=>l (ah _ e);have up1:∀{c o},(Cy t s.heap a).get? c=some o->(xy t u s.heap a b).get? c=some o:=λe=>q (ah _ e);have B:ox (xy t u s.heap a b) (FC t u s.heap a b).objs.size (Cz t u s.heap a b).objs.size (CU t u s.heap a b).objs.size .none:=aB _ rfl;have I:iu (xy t u s.heap a b) (CU t u s.heap a b).objs.size .none .none:=g (aB _ rfl);have J:iu (xy t u s.heap a b) (Cz t u s.heap a b).objs.size (.ref s.heap.objs.size) (.ref (Cy t s.heap a).objs.size):=l (aB _ rfl);have L:(xy t u s.heap a b).get? (Cy t s.heap a).objs.size=some (AQ u b):=q (aB _ (by cases u<;>rfl));have U:(xy t u s.heap a b).get? s.heap.objs.size=some (AQ t a):=up1 (aB _ (by cases t<;>rfl))
 show _/\_;rw[G,C,O]at B;rw[C]at I;rw[H,G]at J;rw[H]at L;rw[O];exact⟨⟨_,B,rfl⟩,h _ B J I (L_ U) (L_ L) λc o e=>up1 (ah _ e)⟩
theorem T1{Q:ab->am->Prop}(p:rO t s.heap a xs)(h:∀h',IsEnum h' (s.heap.objs.size+1) s.heap.objs.size 0 .none->nt t h' s.heap.objs.size a 0->(∀b o,s.heap.get? b=some o->h'.get? b=some o)->Q (.ref (s.heap.objs.size+1)) { s with heap:=h' }):
  aF (aW prog w) A (call (.type "enumerate") [.ref a]) Q E s:=by
 cases t
 ·exact call_enumerate_list p λh' a b _ c=>h h' a b c
 ·exact RY p λh' a b _ c=>h h' a b c
theorem Qa(t:Bool)(hh:A.handled=none)(c:a≠it)(xs:Array ab):Draws prog w A it [it,a] xs.size (λi v=>xs[i]?=some v) (λi h=>nt t h it a i/\rO t h a xs) where
 live:=λi h st=>(zi (prog:=prog) (w:=w) hh c).there i h st
 frame:=λi h h' st B=>(zi (prog:=prog) (w:=w) hh c).keep i h h' st λb C o e=>B b (by rcases C with q|q<;>rw[q]<;>simp) o e
 item:=λi s Q E g st G=>(zi hh c).item i xs[i] s Q E st (by simp[g]) λh' p l=>G _ h' s.toks (by simp[g]) p l
 done:=λs Q E st H=>(zi hh c).done xs.size s Q E st (by simp) H
end
def BU(t u:Bool)(K:ag)(a b:ak):It:=
 ⟨λi H=>∃xs ys x y,tN t K H a xs/\tN u K H b ys/\xs[i]?=some x/\ys[i]?=some y,
  λi H r c=>∃T x y,r=.ref T/\H T=none/\(∀xs,tN t K H a xs->xs[i]?=some x)/\(∀ys,tN u K H b ys->ys[i]?=some y)/\c=fw H T (.tup [x,y]),
  λi H=>∃xs ys,tN t K H a xs/\tN u K H b ys/\(xs.length<=i\/ys.length<=i)⟩
def Bc(t:Bool)(K:ag)(a:ak):It:=
 ⟨λi H=>∃xs x,tN t K H a xs/\xs[i]?=some x,λi H x c=>∃T v,x=.ref T/\H T=none/\(∀xs,tN t K H a xs->xs[i]?=some v)/\c=fw H T (.tup [.int i,v]),λi H=>∃xs,tN t K H a xs/\xs.length<=i⟩
def En(t u:Bool)(z g c o l a b:ak)(i:Nat)(h:bw):Prop:=ox h z g c .none/\iu h g (.ref o) (.ref l)/\(∃u v,iu h c u v)/\nt t h o a i/\nt u h l b i
section
variable{X:Cx}{tg:Expr}{es:List Expr}{pos:Pos}{fa fb:CE}{K:ag}{ρ:List ak}{H:Hp}{st:aX}{t u:Bool}
theorem Me{z l g C B a b:ak}{i:Nat}{h:bw}(p:En t u z l g C B a b i h){c:ak}(E:c∈[z,l,g,C,B]):∃o,h.get? c=some o/\∀v,o.data≠.cell v:=by
 obtain⟨O,L,⟨u,v,J⟩,I,G⟩:=p;simp only[aI,bI,or_false]at E;rcases E with e|e|e|e|e<;>subst e
 ·exact⟨_,O,λv q=>by cases q⟩
 ·exact⟨_,L,λv q=>by cases q⟩
 ·exact⟨_,J,λv q=>by cases q⟩
 ·exact I.obj
 ·exact G.obj
theorem U1{P:Program}{w:bD}{k:Nat}{z C U i1 i2 a b:ak}(D:ZipApart z C U i1 i2 a b):ve P w K (.Tuple es k pos) (BU t u K a b) [z,C,U,i1,i2] z (En t u z C U i1 i2 a b) where
 mem:=by simp
 obj:=λi h p c l=>Me p l
 keep:=λi h h' pq94 kp=>by obtain⟨q,h2,⟨u,v,h3⟩,h4,h5⟩:=pq94;exact⟨kp z (by simp) _ q,kp C (by simp) _ h2,⟨u,v,kp U (by simp) _ h3⟩,h4.keep λo e=>kp i1 (by simp) o e,h5.keep λo e=>kp i2 (by simp) o e⟩
 item:=by
  intro X hP hw hK l i B s σ H E I hf p0 hg;obtain⟨q,h2,⟨u0,v0,h3⟩,h4,h5⟩:=id p0;subst hP hw hK;obtain⟨xs,ys,x,y,qa,qb,hx,hy⟩:=hg;obtain⟨its,rv,p⟩:=xW I qa;obtain⟨its2,G,p2⟩:=xW I qb;obtain⟨ux,hux,rux⟩:=rv.get hx;obtain⟨uy,huy,ruy⟩:=G.get hy;have O:s.TypeIs (.ref z) "zip":=⟨_,q,rfl⟩
  unfold iL;refine aa (iS (bN (name:=aq "__next__") O nQ (bX nQ O Ch (Vy D (zi (I.ok.hd l) D.l1i1) (zi (I.ok.hd l) D.l2i2) q h2 h3 ⟨h4,p⟩ ⟨h5,p2⟩ (x:=ux) (y:=uy) (by simpa using hux) (by simpa using huy) λh' g1 g2 g3 g4 g5 g7=>ai ?_) (Aw _))));refine⟨_,rfl,wpAny_letOwnedTupleGo_zip g1 λQ k1 Y=>?_⟩;have zlt:z < s.heap.objs.size:=aD q;have keep:∀c o,c∉[z,C,U,i1,i2]->s.heap.get? c=some o->Q.get? c=some o:=λc o l e=>by simp only[aI,bI,or_false,not_or]at l;exact (Y.2 c l.1).trans (g7 c o l.1 l.2.2.1 l.2.2.2.1 l.2.2.2.2 e)
  have O:iu Q s.heap.objs.size ux uy:=(Y.2 _ (d_ zlt)).trans g5;have I2:Inv X B σ (fw H s.heap.objs.size (.tup [x,y])) { s with heap:=Q,toks:=s.toks }:=NL (its:=[ux,uy]) I hf keep (ax _) (by show 2<=sizeLine;decide) (.cons rux (.cons ruy .nil)) ⟨_,O,rfl,⟨_,rfl⟩,rfl⟩;refine⟨.ref s.heap.objs.size,_,I2,rfl,⟨_,x,y,rfl,I.hok.fresh (ax _),λzs L=>by rw[KY I L qa];exact hx,λzs L=>by rw[KY I L qb];exact hy,rfl⟩,
   ⟨k1,(Y.2 C D.TIz).trans (g7 C _ D.TIz D.TITO D.TIi1 D.TIi2 h2),⟨_,_,(Y.2 U D.TOz).trans g2⟩,g3.1.keep λo e=>(Y.2 i1 D.i1z).trans e,g4.1.keep λo e=>(Y.2 i2 D.i2z).trans e⟩,λc l=>?_⟩
  obtain⟨o,eo,_⟩:=Me p0 l;rw[fM (aR (aD eo))];exact (hf c l).1
 done:=by
  intro X hP hw hK l i B s σ H E I hf J hg;obtain⟨q,h2,⟨u,v,h3⟩,h4,h5⟩:=J;subst hP hw hK;obtain⟨xs,ys,qa,qb,hl⟩:=hg;obtain⟨its,rv,p⟩:=xW I qa;obtain⟨its2,G,p2⟩:=xW I qb;have l1:=rv.length;have l2:=G.length;have O:s.TypeIs (.ref z) "zip":=⟨_,q,rfl⟩
  unfold iL;refine aa (iS (bN (name:=aq "__next__") O nQ (bX nQ O Ch (WG D (zi (I.ok.hd l) D.l1i1) (zi (I.ok.hd l) D.l2i2) q h2 h3 ⟨h4,p⟩ ⟨h5,p2⟩ ?_ λh' e g ⟨o,q1,q2⟩=>?_) (Aw _))))
  ·rcases hl with hl|hl
   ·exact .inl (by simp;ext)
   ·exact .inr (by simp;ext)
  ·refine aa (c9 (T:="StopIteration") (b:=true) ⟨o,q1,q2⟩ pk (ai ⟨rfl,T4 (t':=s.toks) I hf λc o l e=>?_⟩));simp only[aI,bI,or_false,not_or]at l;exact g c o l.1 l.2.2.1 l.2.2.2.1 l.2.2.2.2 e
 self:=λ_ _ _ _ _ pq96 h=>by obtain⟨q,_⟩:=pq96;exact F9 q h
theorem R6{P:Program}{w:bD}{k:Nat}(a e C:ak)(U:e≠C):ve P w K (.Tuple es k pos) (Bc t K a) [e,C] e (λi h=>(∃old,IsEnum h e C i old)/\nt t h C a i) where
 mem:=by simp
 obj:=λi h pq97 b g=>by
  obtain⟨⟨old,l⟩,c⟩:=pq97;simp only[aI,bI,or_false]at g;rcases g with z|z<;>subst z
  ·exact⟨_,l,λv q=>by cases q⟩
  ·exact c.obj
 keep:=λi h h' pq98 kp=>by obtain⟨⟨old,l⟩,c⟩:=pq98;exact⟨⟨old,kp e (by simp) _ l⟩,c.keep λo x=>kp C (by simp) o x⟩
 item:=by
  intro X Y hw hK hc i B s σ H E I hf L hg;obtain⟨⟨old,l⟩,c⟩:=L;subst Y hw hK;obtain⟨xs,x,hq,hx⟩:=hg;obtain⟨its,rv,p⟩:=xW I hq;obtain⟨u,hu,ru⟩:=rv.get hx;have hlt:i < its.toArray.size:=by rw[ay];exact (ae.mp hu).1
  have hae:a≠e:=λz=>by subst z;cases t<;>obtain⟨o',e2,c',_⟩:=p<;>rw[l]at e2<;>cases e2<;>exact ba (uY c') (by decide)
  refine wpAny_pyNext_enum_itemD (Qa t (prog:=X.prog) (w:=X.w) (A:=X.A.in1) (I.ok.hd hc) (p.ne c) its.toArray) l ⟨c,p⟩ hlt U (by simp;exact⟨U,hae.symm⟩) λy h' tk Y ho hst hT hsz hk=>?_;have ey:y=u:=by
   have:its.toArray[i]?=some u:=by simpa using hu
   rw[this]at Y;cases Y;rfl
  subst ey;refine⟨_,rfl,wpAny_letOwnedTupleGo_enum ho λh2 he2 Q=>?_⟩;have G:e < s.heap.objs.size:=aD l;have hT2:h2.get? s.heap.objs.size=some { cls:=.type "tuple",data:=.seq #[.int i tk,y] }:=(Q.2 _ (d_ G)).trans hT;have I2:Inv X B σ (fw H s.heap.objs.size (.tup [.int i,x])) { s with heap:=h2,toks:=tk+1 }:=NL (its:=[.int i tk,y]) I hf (λb o g e1=>by simp only[aI,bI,or_false,not_or]at g;exact (Q.2 b g.1).trans (hk b o g.1 g.2 e1)) (ax _) (by show 2<=sizeLine;decide) (.cons ⟨tk,rfl⟩ (.cons ru .nil)) ⟨_,hT2,rfl,⟨_,rfl⟩,rfl⟩
  refine⟨.ref s.heap.objs.size,_,I2,rfl,⟨_,x,rfl,I.hok.fresh (ax _),λys hy=>by rw[KY I hy hq];exact hx,rfl⟩,⟨⟨y,by simpa using he2⟩,hst.1.keep λo e=>(Q.2 C U.symm).trans e⟩,λb g=>?_⟩;rw[fM]
  ·exact (hf b g).1
  ·simp only[aI,bI,or_false]at g;rcases g with z|z<;>subst z
   ·exact aR G
   ·obtain⟨o,h,_⟩:=c.obj;exact aR (aD h)
 done:=by
  intro X Y hw hK hc i B s σ H E I hf J hg;obtain⟨⟨old,l⟩,c⟩:=J;subst Y hw hK;obtain⟨xs,hq,hx⟩:=hg;obtain⟨its,rv,p⟩:=xW I hq;obtain⟨g0,g1,g2,g3,g4,g5⟩:=hf C (by simp);have hl:=rv.length;have hT:s.TypeIs (.ref e) "enumerate":=⟨_,l,rfl⟩
  unfold iL;refine aa (iS (bN (name:=aq "__next__") hT v7 (bX v7 hT F.entry_enumerate_next ?_ (F.args_enumerate_next_1 _))))
  show aF _ _ (uz (.ref e) 2 >>= _) _ _ _;refine aa (dJ l rfl (x:=.ref C) rfl ?_);refine aa ((zi (A:=X.A.in1) (I.ok.hd hc) (p.ne c)).done i _ _ _ ⟨c,p⟩ (by simp;ext) λh' x he' pq99=>?_);obtain⟨o,ho,hc'⟩:=pq99;exact aa (c9 (T:="StopIteration") (b:=true) ⟨o,ho,hc'⟩ pk (ai ⟨rfl,I.turned (t':=s.toks) (λb o g e=>he' b o g e) g0 g1 g3 g4 g5⟩))
 self:=λ_ _ _ _ _ O h=>by obtain⟨⟨old,l⟩,_⟩:=O;exact C6 l h
theorem Wf{a b:Expr}{U:TA}{p E:Pos}{k:Nat}(hg:Gl X "zip")(hm:X.mg "zip"=none)(ha:PA X [a,b] U)(hs:starEach [a,b] X.env=[(false,eval a X.env),(false,eval b X.env)])(G:starEach [b] X.env=[(false,eval b X.env)]):
  PI X (.Tuple es k E) (.Call (.Name "zip" p) [a,b] [] pos) (λσ H R=>U σ H λvs C=>∃B l xs ys,vs=[.ref B,.ref l]/\tN t X.K C B xs/\tN u X.K C l ys/\R (BU t u X.K B l) C):=by
 intro g s σ H R I h;refine Call_ (wW I hg hm boot_zip (cB (gj (ha pos g s σ H _ I h) λus c ⟨vs,C,L,r1,q1⟩=>?_) (by rw[hs,G]) (by rw[G];rfl)));obtain⟨B,l,xs,ys,e,hx,hy,q⟩:=q1;subst e;cases r1 with
 |cons r rr=>
  cases rr with
  |cons r' rr=>
   cases rr;cases r;cases r';obtain⟨its,rv,p1⟩:=xW L hx;obtain⟨its2,rv2,Y⟩:=xW L hy;have Q:B < c.heap.objs.size:=by obtain⟨o,e⟩:=p1.there;exact aD e
   have O:l < c.heap.objs.size:=by obtain⟨o,e⟩:=Y.there;exact aD e
   refine YB p1 Y λh' g1 g2 g3 g4 g5 g7=>F9 g1 ?_;have I2:Inv X g σ C { c with heap:=h' }:=L.kept (t':=c.toks) g7;refine⟨c.heap.objs.size+4,[c.heap.objs.size+4,c.heap.objs.size+2,c.heap.objs.size+3,c.heap.objs.size,c.heap.objs.size+1],_,BU t u X.K B l,C,rfl,I2,U1 (zipApart_new Q O),⟨g1,g2,⟨_,_,g3⟩,g4,g5⟩,λb hb=>?_,q⟩;have J:c.heap.objs.size<=b:=by simp only[aI,bI,or_false]at hb;rcases hb with e|e|e|e|e<;>rw[e]<;>ext
   exact L.fpOk J (L.hok.fresh J)
theorem PD{b:Expr}{E:TA}{p l:Pos}{k:Nat}(hg:Gl X "enumerate")(hm:X.mg "enumerate"=none)(ha:PA X [b] E)(hs:starEach [b] X.env=[(false,eval b X.env)]):
  PI X (.Tuple es k l) (.Call (.Name "enumerate" p) [b] [] pos) (λσ H R=>E σ H λvs q=>∃a xs,vs=[.ref a]/\tN t X.K q a xs/\R (Bc t X.K a) q):=by
 intro g s σ H R I h;refine Call_ (wW I hg hm boot_enumerate (cB (gj (ha pos g s σ H _ I h) λus c ⟨vs,q,B,O,Q⟩=>?_) hs rfl));obtain⟨a,xs,e,hq,hR⟩:=Q;subst e;obtain⟨u,rfl,L⟩:=vv O;cases L;obtain⟨its,rv,U⟩:=xW B hq;refine T1 U λh' G C Y=>C6 G ?_;have I2:Inv X g σ q { c with heap:=h' }:=B.kept (t':=c.toks) Y;refine⟨c.heap.objs.size+1,[c.heap.objs.size+1,c.heap.objs.size],_,Bc t X.K a,q,rfl,I2,R6 a (c.heap.objs.size+1) c.heap.objs.size (Nat.succ_ne_self _),⟨⟨_,G⟩,C⟩,λb J=>?_,hR⟩;have o:c.heap.objs.size<=b:=by simp only[aI,bI,or_false]at J;rcases J with e|e<;>rw[e]<;>ext
 exact B.fpOk o (B.hok.fresh o)
def Gm:Bool->D->M (List D×(aX->Prop))
 |true,.tup ds=>ret (ds,eU)
 |false,.ref n=>bnd (getL n) λds=>ret (ds,i9 n ds)
 |_,_=>bad
theorem aS.sqx{α:Type}{d:D}{v:V}{f:List D×(aX->Prop)->M α}{R:α->aX->List ak->Hp->Prop}(p:aS K ρ H (MM.bnd (Gm t d) f st) R)(J:c_ K ρ H v d)(sr:SR K ρ H st):
  ∃a g ds C,v=.ref a/\tN t K H a g/\aS K ρ H (f (ds,C) st) R/\∀ρ' l c,Ex ρ H ρ' l->SR K ρ' l c->(t=false->C c)->∃o,tN t K l a o/\bA K ρ' l o ds:=by
 cases t
 ·cases d with
  |ref n=>
   obtain⟨a,rfl,L⟩:∃a,v=.ref a/\ρ[n]?=some a:=by cases J with|@ref a m _ h=>exact⟨_,rfl,h⟩
   obtain⟨ds,U,Q⟩:=aS.getL (aS.bnd (aS.bnd p)) sr;obtain⟨u,vs,B,hv,r⟩:=sr.seq U;rw[L]at B;cases B;refine⟨a,vs,ds,i9 n ds,rfl,g8.of hv,Q.ret sr,λρ' l c x I C=>?_⟩;obtain⟨τ,eτ,_⟩:=x.pre;obtain⟨Y,E,q,G,O⟩:=I.seq (C rfl);rw[eτ,xV L]at q;cases q;exact⟨E,g8.of G,O⟩
  |_=>exact p.elim
 ·cases d with
  |tup ds=>
   obtain⟨a,g,rfl,h,r⟩:∃a g,v=.ref a/\lx K H a g/\bA K ρ H g ds:=by cases J with|tup h r=>exact⟨_,_,rfl,h,r⟩
   exact⟨a,g,ds,eU,rfl,h,(aS.bnd p).ret sr,λρ' l c x I _=>⟨g,lx.mono x.up h,r.mono x⟩⟩
  |_=>exact p.elim
def Ro(t u:Bool)(P Q:aX->Prop):aX->Prop:=match t,u with
 |true,true=>eU
 |false,true=>P
 |true,false=>Q
 |false,false=>λs=>P s/\Q s
def Ag(t u:Bool)(a b:CE):CI:=λl=>bnd (a l) λx=>bnd (b l) λy=>bnd (Gm t x) λp=>bnd (Gm u y) λq=>ret ⟨p.1.zipWith (λp q=>.tup [p,q]) q.1,Ro t u p.2 q.2⟩
def wV(t:Bool)(a:CE):CI:=λl=>bnd (a l) λx=>bnd (Gm t x) λp=>ret ⟨(km 0 p.1.length).zipWith (λi d=>.tup [i,d]) p.1,p.2⟩
theorem W4{a b:Expr}{p E:Pos}{k:Nat}(t u:Bool)(hg:Gl X "zip")(hm:X.mg "zip"=none)(h:SE X a fa)(h':SE X b fb)(he1:starEach [a,b] X.env=(false,eval a X.env)::starEach [b] X.env)(he2:starEach [b] X.env=(false,eval b X.env)::starEach [] X.env)
  (hs:starEach [a,b] X.env=[(false,eval a X.env),(false,eval b X.env)]) (hs2:starEach [b] X.env=[(false,eval b X.env)]):SI X (.Tuple es k E) (.Call (.Name "zip" p) [a,b] [] pos) (Ag t u fa fb):=
 (Wf (t:=t) (u:=u) hg hm (rj h (rj h' tX he2) he1) hs hs2).of λσ H R h_=>h_.el λρ l st lr sr p=>⟨ρ,l,st,lr,sr,p.bnd.imp λd Q ρ1 H1 x1 s1 p1 v rv=>⟨ρ1,l,Q,lr.mono x1,s1,p1.bnd.imp λe st2 ρ2 H2 x2 U p2 w Y=>by
  obtain⟨a1,ws,ds,sm,rfl,q1,p3,I⟩:=aS.sqx p2 (rv.mono x2) U;obtain⟨a2,O,C,sm2,rfl,q2,p4,G⟩:=aS.sqx p3 Y U;refine⟨a1,a2,ws,O,rfl,q1,q2,p4.ret U _ ?_⟩;intro ρ3 H3 st3 x3 s3 sm3;obtain⟨g,B,r3⟩:=I ρ3 H3 st3 x3 s3 λe=>by subst e;cases u<;>first|exact sm3.1|exact sm3
  obtain⟨c,q,r4⟩:=G ρ3 H3 st3 x3 s3 λe=>by subst e;cases t<;>first|exact sm3.2|exact sm3
  have l1:=r3.length;have l2:=r4.length;refine⟨⟨g,c,B,q,?_⟩,λi d hd=>?_⟩
  ·show g.length<=(ds.zipWith _ C).length\/c.length<=(ds.zipWith _ C).length;rw[kT];ext
  ·rw[j_]at hd;cases J:ds[i]? with
   |none=>rw[J]at hd;cases hd
   |some d1=>
    cases u:C[i]? with
    |none=>rw[J,u]at hd;cases hd
    |some d2=>
     rw[J,u]at hd;have ed:d=.tup [d1,d2]:=(aM hd).symm;subst ed;obtain⟨v1,I,l⟩:=r3.get J;obtain⟨v2,G,h⟩:=r4.get u;refine⟨⟨g,c,v1,v2,B,q,I,G⟩,λy H4 o=>?_⟩;obtain⟨T,x,y',Y,O,U,Q,eH⟩:=o;subst Y eH;have H:=U g B;have E:=Q c q;rw[I]at H;cases H;rw[G]at E;cases E;have L:Ex ρ3 H3 ρ3 (fw H3 T (.tup [v1,v2])):=Ex.new O;exact⟨L,s3.new O,.tup (lx.of iP) (.cons (l.mono L) (.cons (h.mono L) .nil))⟩⟩⟩
theorem Tt{b:Expr}{p g:Pos}{k:Nat}(t:Bool)(hg:Gl X "enumerate")(hm:X.mg "enumerate"=none)(h:SE X b fa)(I:starEach [b] X.env=[(false,eval b X.env)]):SI X (.Tuple es k g) (.Call (.Name "enumerate" p) [b] [] pos) (wV t fa):=
 (PD (t:=t) hg hm (rj h tX I) I).of λσ H R h_=>h_.el λρ l st lr sr p=>⟨ρ,l,st,lr,sr,p.bnd.imp λd Q ρ1 H1 x1 G u v q=>by
  obtain⟨a1,O,ds,sm,rfl,U,Y,k1⟩:=aS.sqx u q G;refine⟨a1,O,rfl,U,Y.ret G _ ?_⟩;intro ρ2 H2 st2 x2 s2 sm2;obtain⟨vs,hv,r⟩:=k1 ρ2 H2 st2 x2 s2 λ_=>sm2;have hl:=r.length;have len:((km 0 ds.length).zipWith (λi d=>D.tup [i,d]) ds).length=ds.length:=by simp[km]
  refine⟨⟨vs,hv,by rw[len,hl];exact ax _⟩,λi d C=>?_⟩;have B:i < ds.length:=by rw[<- len];exact (ae.mp C).1
  have ed:d=.tup [.int i,ds[i]]:=by rw[j_,km,ao,kS B,aj B]at C;have:=aM C;rw[<- this];simp
  subst ed;obtain⟨v,o,q⟩:=r.get (aj B);refine⟨⟨vs,v,hv,o⟩,λy H3 c=>?_⟩;obtain⟨T,w,ey,J,hw,eH⟩:=c;subst ey eH;have L:=hw vs hv;rw[o]at L;cases L;have E:Ex ρ2 H2 ρ2 (fw H2 T (.tup [.int i,v])):=Ex.new J;exact⟨E,s2.new J,.tup (lx.of iP) (.cons (.int _) (.cons (q.mono E) .nil))⟩⟩
theorem Hr{α β:Type}{m:M α}{f g:α->M β}(h:∀x s,f x s=g x s){s:aX}:bnd m f s=bnd m g s:=by unfold bnd;cases m s<;>first|rfl|exact h _ _
theorem X3:pC fa fb=Ag true true fa fb:=by
 funext l s;refine Hr λx s=>Hr λy s=>?_;cases x<;>first|rfl|skip
 cases y<;>rfl
theorem T3:tF fa=wV true fa:=by funext l s;refine Hr λx s=>?_;cases x<;>rfl
end
end MM
namespace PySem.F
theorem nolen_lri:qO (.type "list_reverseiterator") "__len__"=pure none:=by rw[Hl,xK];kernel_rfl
theorem hint_lri:qO (.type "list_reverseiterator") "__length_hint__"=pure (some (.builtin "list_reverseiterator.__length_hint__")):=by rw[Hl,xK];kernel_rfl
end PySem.F
namespace MM
open PySem PySem.Spec PyProof.Rows L2
section
variable{prog:Program}{w:bD}{A:bz}{E:ab->am->Prop}{s:am}{r:ak}
theorem Nu{Q:Bool->am->Prop}(l:s.TypeIs (.ref r) "list_reverseiterator")(h:Q false s):aF (aW prog w) A (f_ (.ref r)) Q E s:=by
 unfold f_;refine aa (gX l PySem.F.nolen_lri ?_)
 show aF _ A (specialOf (a_ r) (aq "__length_hint__") >>= _) _ _ _;refine aa (gX l PySem.F.hint_lri ?_);generalize c:("list_reverseiterator.__length_hint__":String)=g
 wp_delta
 rw[show splitId g=some ("list_reverseiterator","__length_hint__") from by subst c;decide +kernel];subst c;refine aa (c9 (b:=true) l (by rw[uB];kernel_rfl) ?_);exact ai h
theorem U9{R:B9->am->Prop}{I l:ak}{items:Array ab}(hh:A.handled=none)(h:s.heap.IsRevIter I l ((items.size:Int)-1))(hl:s.heap.IsList l items)(H:l≠I)(S:ak)(C:S≠I)(L:S≠l)(res:ab)(c₀:Nat)(hS:s.heap.get? S=some { cls:=.type "list",data:=.seq #[] c₀ })
  (hR:∀h' tk c u,(∀b o,b≠S->b≠I->s.heap.get? b=some o->h'.get? b=some o)->h'.get? S=some { cls:=.type "list",dict:=none,data:=.seq c u,slots:=#[] }->t9 (λi v=>items[items.size-1-i]?=some v) c items.size->R (.ok (.ret res)) { s with heap:=h',toks:=tk }) (E:items.size<=sizeLine):
  aF (aW prog w) A.in1 (dI (.ref S) (.ref I) res)
   (λU q=>match U with | .done f=>R (.ok f) q | .again u=>u.quiet=true/\gK (aW prog w) A u R q) (λe q=>R (.error e) q) s:=by
 have W:=Ax (prog:=prog) (w:=w) (A:=A.in1) hh I l H items;have O:S∉[I,l]:=by simp only[aI,bI,or_false,not_or];exact⟨C,L⟩
 have G:0<=items.size/\s.heap.IsRevIter I l ((items.size:Int)-1-((0:Nat):Int))/\s.heap.IsList l items:=⟨bn _,by rw[show (items.size:Int)-1-((0:Nat):Int)=(items.size:Int)-1 by ext];exact h,hl⟩
 unfold dI;refine aa (eJ h.typeIs ?_);have h1:gR (.ref S) (.ref I)=false:=by simp[gR,C]
 rw[aG (by rw[h1];decide)];refine aa (zR h ?_);refine aa (bZ (Nu h.typeIs ?_));rw[aG (by decide)];refine ai ⟨fC qY _,zS W.toS E S O res items.size 0 _ #[] c₀ rfl (bn _) G hS (Ay _) λq c u Y Q B=>?_⟩;rw[Az Y];refine hR q.heap q.toks c u (λb o hb J e=>Y.heap b o (λg=>?_) e) Q B;rcases aI.mp g with e'|g
 ·exact hb e'
 ·exact J (aC.mp g)
theorem Ps{Q:ab->am->Prop}{I l:ak}{items:Array ab}(hh:A.handled=none)(q:s.heap.IsRevIter I l ((items.size:Int)-1))(O:s.heap.IsList l items)(C:l≠I)(hn:items.size<=sizeLine)
  (hQ:∀h' tk c L,(∀b o,b≠I->s.heap.get? b=some o->h'.get? b=some o)->h'.get? s.heap.objs.size=some { cls:=.type "list",dict:=none,data:=.seq c L,slots:=#[] }->t9 (λi v=>items[items.size-1-i]?=some v) c items.size->Q (.ref s.heap.objs.size) { s with heap:=h',toks:=tk }):
  aF (aW prog w) A (call (.type "list") [.ref I]) Q E s:=by
 refine callType_codes (Q₁:=λobj s₁=>obj=.ref s.heap.objs.size/\s₁={ s with heap:=s.heap.push { cls:=.type "list",data:=.seq #[] } }) PySem.F.called_list (PySem.F.typeCall_list_1 _) PySem.F.entry_list_init
  (code_list_new _ ⟨rfl,rfl⟩) λobj s₁ h₁=>?_
 obtain⟨rfl,rfl⟩:=h₁;have B:(s.heap.push { cls:=.type "list",data:=.seq #[] }).get? s.heap.objs.size=some { cls:=.type "list",data:=.seq #[] }:=aB _ rfl;have Y:I < s.heap.objs.size:=let ⟨_,e,_⟩:=q;aD e
 have U:l < s.heap.objs.size:=let ⟨_,e,_⟩:=O;aD e
 have h:(s.heap.push { cls:=.type "list",data:=.seq #[] }).IsRevIter I l ((items.size:Int)-1):=let ⟨o,e,x⟩:=q;⟨o,ah _ e,x⟩
 have G:(s.heap.push { cls:=.type "list",data:=.seq #[] }).IsList l items:=let ⟨o,e,x⟩:=O;⟨o,ah _ e,x⟩
 refine⟨⟨_,B,rfl⟩,PySem.F.args_list_init_2 _ _,?_⟩
 show aF _ A.in1.in1 (do let old <- qg (.ref s.heap.objs.size);Builtin.List.listUpdate (.ref s.heap.objs.size) (λ_=>#[]);letGo old.toList.reverse;dI (.ref s.heap.objs.size) (.ref I) .none) _ _ _;refine aa ?_;unfold qg;refine aa (cN B rfl (ai ?_))
 show aF _ _ (F_ s.heap.objs.size (λ_=>#[]) >>= λ_=>letGo (#[]:Array ab).toList.reverse >>= λ_=>dI (.ref s.heap.objs.size) (.ref I) .none) _ _ _;refine aa (oy B rfl ?_);have hS₂:=bG (fP (λ_=>(#[]:Array ab))) B rfl;have g:∀b o,b≠s.heap.objs.size->(s.heap.push { cls:=.type "list",data:=.seq #[] }).get? b=some o->((s.heap.push { cls:=.type "list",data:=.seq #[] }).update s.heap.objs.size (fP (λ_=>(#[]:Array ab)))).get? b=some o:=
  λb o hb e=>(cD _ _ (eM hb)).trans e
 refine aa (iq ?_);refine U9 (A:=A.in1) hh (let ⟨o,e,x⟩:=h;⟨o,g _ _ (aR Y) e,x⟩) (let ⟨o,e,x⟩:=G;⟨o,g _ _ (aR U) e,x⟩) C s.heap.objs.size (d_ Y) (d_ U) .none _ hS₂ (λh' tk c L hk J u=>?_) hn;exact⟨rfl,hQ h' tk c L (λb o H e=>hk b o (aR (aD e)) H (g b o (aR (aD e)) (ah _ e))) J u⟩
end
theorem Oe{vs:List ab}{c:Array ab}(h:t9 (λi v=>vs.toArray[vs.toArray.size-1-i]?=some v) c vs.toArray.size):c=vs.reverse.toArray:=by
 apply Ga;apply e8;intro i;have q:c.size=vs.length:=by have:=h.1;simpa using this
 by_cases o:i < vs.length
 ·have l:c[i]?=some (c[i]'(by ext)):=dD (by ext);have g:=h.2 i _ l;rw[eK,l];simp only[np,ay]at g;rw[List.getElem?_reverse o];exact g.symm
 ·rw[bH (by simp;ext),bH (by simp;ext)]
theorem bQ.reverse:∀{xs:List V}{c:List ab},bQ xs c->bQ xs.reverse c.reverse
 |_,_,.nil=>.nil
 |_,_,.cons r t=>by rw[gL,gL];exact L2.bQ.append (bQ.reverse t) (.cons r .nil)
section
variable{X:Cx}{a b c e o tg:Expr}{es:List Expr}{pos a6 a7 a5 p p':Pos}{fa fb fc:CE}{ca cb:CA}{K:ag}{ρ:List ak}{H:Hp}{st:aX}{te:TE}
theorem RH(hc:X.calm=true)(hg:Gl X "list")(hm:X.mg "list"=none)(hv:bT "list"=some (.type "list"))(hg2:Gl X "reversed")(U:X.mg "reversed"=none)(O:bT "reversed"=some (.type "reversed"))(ha:PE X e te)
  (he:starEach [e] X.env=[(false,eval e X.env)]:=by rfl) (B:starEach [.Call (.Name "reversed" p') [e] [] a6] X.env=[(false,eval (.Call (.Name "reversed" p') [e] [] a6) X.env)]:=by rfl):
  PE X (.Call (.Name "list" p) [.Call (.Name "reversed" p') [e] [] a6] [] pos) (λσ H Q=>te σ H λx J=>∃a xs,x=.ref a/\g8 X.K J a xs/\∀q,J q=none->Q (.ref q) (fw J q (.lst xs.reverse))):=by
 intro g s σ H Q I h;refine dC (wW I hg hm hv ?_ (by decide) (by decide));refine cB ?_ B rfl;rw[B]
 show aF _ _ (rn [(false,eval (.Call (.Name "reversed" p') [e] [] a6) X.env)]) _ _ s;refine gh ?_;refine dC (wW I hg2 U O ?_ (by decide) (by decide));refine cB ?_ he rfl;rw[he]
 show aF _ _ (rn [(false,eval e X.env)]) _ _ s;refine gh (gj (ha g s σ H _ I h) λu E ⟨x,J,G,r1,a,xs,ex,hx,q⟩=>gF ?_);subst ex;cases r1;obtain⟨its,rv,L,hz⟩:=G.list hx;have hlen:=rv.length;refine Ci L.isList (gF ?_);have Y:a < E.heap.objs.size:=let ⟨_,e,_⟩:=L.isList;aD e
 refine Ps (l:=a) (items:=its.toArray) (G.ok.hd hc) ⟨_,aB _ rfl,rfl,rfl⟩ (let ⟨o,e,x⟩:=L.isList;⟨o,ah _ e,x⟩) (aR Y) (by simp only[ay];ext) λh' tk acc c hk hS C=>?_;rw[Oe C]at hS;have kp:∀b u,E.heap.get? b=some u->h'.get? b=some u:=λb u e=>hk b u (aR (aD e)) (ah _ e);have hp:E.heap.objs.size<=(E.heap.push (revObj a ((its.toArray.size:Int)-1))).objs.size:=by simp[bw.push]
 refine⟨.ref _,_,G.laid (t':=tk) (o:=.lst xs.reverse) kp hp ?_,rfl,q _ (G.hok.fresh hp)⟩;exact⟨by rw[vP];exact hz,its.reverse,c,rv.reverse,hS⟩
theorem Q9(hc:X.calm=true)(hg:Gl X "list")(c:X.mg "list"=none)(hv:bT "list"=some (.type "list"))(C:Gl X "reversed")(B:X.mg "reversed"=none)(u:bT "reversed"=some (.type "reversed"))(J:SL X e ca)
  (he:starEach [e] X.env=[(false,eval e X.env)]:=by rfl) (E:starEach [.Call (.Name "reversed" p') [e] [] a6] X.env=[(false,eval (.Call (.Name "reversed" p') [e] [] a6) X.env)]:=by rfl):
  SL X (.Call (.Name "list" p) [.Call (.Name "reversed" p') [e] [] a6] [] pos) (wo ca):=
 (RH hc hg c hv C B u J he E).of λσ H Q h_=>h_.el λρ l st U sr p=>⟨ρ,l,st,U,sr,p.bnd0.imp λds L ρ1 H1 G I O a vs J na hv h=>by
  refine⟨a,vs,rfl,g8.of hv,λq g=>?_⟩;have Y:H q=none:=by
   cases z:H q with
   |none=>rfl
   |some o=>exact ba g (G.trk q o z)
  exact O ρ1 _ (G.trans (Ex.new g)) (I.new g) q _ Y (I.fresh g) iP ((bA.rev h).mono (Ex.new g))⟩
theorem bA.rep{vs:List V}{ds:List D}(h:bA K ρ H vs ds):∀k:Nat,bA K ρ H (az k vs).flatten (az k ds).flatten
 |0=>.nil
 |k+1=>by rw[eB,eB,fH,fH];exact bA.app h (bA.rep h k)
theorem V3(O:SL X a ca)(hb:SE X b fb):SL X (.BinOp a .Mult b pos) (qI ca fb):=
 (Na V6 O hb).of λσ H Q h_=>h_.el λρ l st L sr p=>⟨ρ,l,st,L,sr,p.bnd0.imp λds G ρ1 H1 E Y p1 a vs O na hv h=>⟨ρ1,l,G,L.mono E,Y,((p1.bnd0.left E)).imp λe U ρ2 H2 C I J u c=>by
  cases e with
  |int k=>
   cases (show u=.int k from c.inv);obtain⟨⟨⟨h1,h2⟩,h3⟩,p3⟩:=aS.chk J;refine⟨a,k,vs,rfl,rfl,C.lst a vs na hv,h1,h2,by rw[h.length];exact h3,λq B=>?_⟩;have g:=E.trans C;have hn:H q=none:=by
    cases z:H q with
    |none=>rfl
    |some o=>exact ba B (g.trk q o z)
   exact p3 ρ2 _ (g.trans (Ex.new B)) (I.new B) q _ hn (I.fresh B) iP ((bA.rep (h.mono C) k.toNat).mono (Ex.new B))
  |_=>exact J.elim⟩⟩
theorem Ut:SE X (.Dict [] [] pos) (qL false):=Qu.of λσ H Q g q h=>by obtain⟨ρ,l,st,u,sr,p⟩:=g;have p':∀ρ' H',Ex ρ H ρ' H'->SR X.K ρ' H' (st++[.dct false []])->∀v,c_ X.K ρ' H' v (.dic st.length)->Q v H':=p;refine p' (ρ++[q]) _ (Ex.newO h) ((sr.new h).keepO (sr.fresh h) ⟨[],iP,.nil⟩) _ (.dic ⟨_,iP,.inl rfl⟩ ?_);rw[<- sr.len];simp
def Bu(X:Cx):TE:=λ_ H Q=>∀p,H p=none->Q (.ref p) (fw H p (rg p []))
theorem PZ:PE X (.Dict [] [] pos) (Bu X):=λg s σ H Q I h=>
 F7 ⟨.ref s.heap.objs.size,_,I.laid (a:=s.heap.objs.size) (o:=rg s.heap.objs.size []) (t':=s.toks) (λ_ _ q=>ah _ q) (ax _)
  (Lr (P:=X.prog) (w:=X.w) (xs:=[]) (bn _) (beq_eq_false_iff_ne.mpr (eM (aR I.big))) .nil (bw.DictOfH.new s.heap) ⟨_,_,aB _ rfl,rfl⟩),rfl,h _ (I.hok.fresh (ax _))⟩
theorem Tn:SE X (.Dict [] [] pos) (qL true):=PZ.of λσ H Q g q h=>by obtain⟨ρ,l,st,u,sr,p⟩:=g;have p':∀ρ' H',Ex ρ H ρ' H'->SR X.K ρ' H' (st++[.dct true []])->∀v,c_ X.K ρ' H' v (.dic st.length)->Q v H':=p;refine p' (ρ++[q]) _ (Ex.newO h) ((sr.new h).keepO (sr.fresh h) ⟨[],iP,.nil⟩) _ (.dic ⟨_,iP,.inr rfl⟩ ?_);rw[<- sr.len];simp
def F4(X:Cx)(pos:Pos)(keys:List (Option Expr))(g:List Expr)(ks:List Key)(ca:CA):Prop:=∃h,FX X pos keys g h /\
 ∀σ H(Q:List (V×V)->Hp->Prop),(∃ρ l st,LR X.K ρ H σ l/\SR X.K ρ H st/\aS X.K ρ H (ca l st) λds _ ρ' u=>ks.length=ds.length/\∀vs,bA X.K ρ' u vs ds->Q ((ks.zip vs).map λq=>(kV q.1,q.2)) u)->sC h σ H Q
theorem YH:F4 X pos [] [] [] aH:=⟨[],OP,λσ H Q g=>g.el λρ l st h sr p=>(p.ret sr).2 [] .nil⟩
theorem U2{x:Str}{j:Nat}{v:Expr}{ks:List (Option Expr)}{vs:List Expr}{B:List Key}(hv:SE X v fa)(c:F4 X pos ks vs B ca):
  F4 X pos (some (.Constant (.str x) j a5)::ks) (v::vs) (.inr x::B) (ac fa ca):=by
 obtain⟨G,h1,h2⟩:=c;refine⟨_,Nv O9 hv h1,λσ H Q h_=>h_.el λρ l st u sr p=>?_⟩;refine⟨ρ,l,st,u,sr,p.bnd.imp λd g ρ1 H1 E L Y v O=>h2 _ _ _ ⟨ρ1,l,g,u.mono E,L,Y.bnd.imp λds I ρ2 H2 C J U=>?_⟩⟩;obtain⟨o,q⟩:=U.ret J;refine⟨by simpa using o,λvs h=>?_⟩;exact q (v::vs) (.cons (O.mono C) h)
theorem KR.zip:∀{ks:List Key}{vs:List V}{ds:List D},bA K ρ H vs ds->KR K ρ H (ks.zip vs) ((ks.map mW).zip ds)
 |[],_,_,_=>.nil
 |k::ks,_,_,.nil=>.nil
 |k::ks,_,_,.cons r t=>.cons ⟨rfl,r⟩ (KR.zip t)
theorem KR.merge:∀{more:List (Key×V)}{rs:List (D×D)}{es:List (Key×V)}{a4:List (D×D)},KR K ρ H more rs->KR K ρ H es a4->KR K ρ H (iZ es more) (yT a4 rs)
 |_,_,_,_,.nil,q=>q
 |_,_,es,a4,.cons (a:=p) (b:=q) (l₁:=ps) (l₂:=qs) h t,r=>by
  have z:=KR.put r p.1 h.2;rw[h.1]at z
  show KR K ρ H (iZ (L2.lZ es p.1 p.2) ps) (yT (ke a4 q.1 q.2) qs);exact KR.merge (more:=ps) (rs:=qs) t z
theorem XX{keys : List (Option Expr)}{g : List Expr}{ks : List Key}(h : F4 X pos keys g ks ca)(O : keys.all (·.isSome) = true := by rfl)(hl : keys.length = g.length := by rfl)(h0 : keys ≠ [] := by simp)(h15 : keys.length <= 15 := by decide)(hk : ks.length <= 15 := by decide):
  SE X (.Dict keys g pos) (tf (ks.map mW) ca):=by
 obtain⟨trs,h1,h2⟩:=h;refine (Nl h1 O hl h0 h15).of λσ H Q ⟨ρ,l,st,lr,sr,p⟩ q G=>h2 _ _ _ ?_;have hn:=sr.fresh G;refine⟨ρ,l,st,lr.mono (Ex.new G),sr.new G,(p.bnd0.left (Ex.new G)).imp λds C ρ1 U I Y p1=>?_⟩;obtain⟨B,p2⟩:=aS.chk p1;rw[af]at B;have E:U q=some (.dK []):=I.oth q _ hn iP;refine⟨B,λvs rvs=>⟨E,ks.zip vs,rfl,by simp;ext,?_⟩⟩;have ne:∀b o,H b=some o->b≠q:=λb o e z=>by rw[z,G]at e;cases e
 have L:q∉ρ1:=by
  obtain⟨τ,e,f⟩:=I.pre;rw[e];intro z;rcases aU.mp z with z|z
  ·exact hn z
  ·have:=f q z;rw[iP]at this;cases this
 have up:Up ρ1 U ρ1 (fw U q (.dK (iZ [] (ks.zip vs)))):=by
  refine⟨⟨[],by simp⟩,λc o no w=>?_,λc o w=>?_⟩
  ·rw[fM λz=>by subst z;rw[E]at w;cases w;exact nomatch no];exact w
  ·by_cases z:c=q
   ·subst z;rw[E]at w;cases w;exact⟨_,iP,rfl⟩
   ·exact⟨o,by rw[fM z];exact w,rfl⟩
 have s2:SR X.K ρ1 (fw U q (.dK (iZ [] (ks.zip vs)))) C:=⟨Y.len,Y.nd,λn b o e1 e2=>mB.mono (o:=o) up (Y.ob n b o e1 e2) λu w=>by rw[fM (λ(z:b=q)=>L (by rw[<- z];exact av e1))];exact w⟩
 have x2:Ex ρ H (ρ1++[q]) (fw U q (.dK (iZ [] (ks.zip vs)))):=by
  obtain⟨τ,e,f⟩:=I.pre;refine⟨⟨τ++[q],by rw[e,dG],λb J=>?_⟩,λb o no e=>?_,λb o nb e=>?_,λb o e=>?_⟩
  ·rcases aU.mp J with J|J
   ·have z:=f b J;by_cases w:b=q
    ·subst w;exact G
    ·rw[fM w]at z;exact z
   ·rw[aC]at J;rw[J];exact G
  ·rw[fM (ne b o e)];exact I.fix b o no (by rw[fM (ne b o e)];exact e)
  ·rw[fM (ne b o e)];exact I.oth b o nb (by rw[fM (ne b o e)];exact e)
  ·obtain⟨o',g,c⟩:=I.knd b o (by rw[fM (ne b o e)];exact e);exact⟨o',by rw[fM (ne b o e)];exact g,c⟩
 have p3:∀ρ' H',Ex ρ H ρ' H'->SR X.K ρ' H' (C++[.dct false (yT [] ((ks.map mW).zip ds))])->∀v,c_ X.K ρ' H' v (.dic C.length)->Q v H':=p2;refine p3 _ _ x2 (s2.keepO L ⟨_,iP,KR.merge (KR.zip (rvs.up up)) .nil⟩) _ (.dic ⟨_,iP,.inl rfl⟩ ?_);rw[<- Y.len];simp
end
end MM
namespace MM
abbrev wL(x:D)(ds:List D):Prop:=(stK x).isSome=true/\(ds.all λd=>(stK d).isSome)=true
def m_(a b:CE):CE:=λl=>bnd (a l) λo=>match o with
 | .ref n=>bnd (b l) λx=>bnd (getL n) λds=>chk (wL x ds/\(ds.any λd=>gH d x)=true/\ds.length<=dN) (ret (.int (ds.findIdx λd=>gH d x:Nat)))
 |_=>bad
def ng(a b:CE):CE:=λl=>bnd (a l) λx=>match x with
 | .ref n=>bnd (b l) λy=>match y with
  | .ref m=>bnd (getL n) λxs=>bnd (getL m) λys=>chk (xs.length+ys.length<=dN) (bnd (putL n (xs++ys)) λ_=>ret .non)
  |_=>bad
 |_=>bad
open PySem PySem.Spec PyProof.Rows L2
theorem OB:∀{xs ys:List D}{a b:List Int},iG xs=some a->iG ys=some b->kK (rZ 0) xs ys=some (gI xs ys)
 |[],[],_,_,_,_=>rfl
 |[],_::_,_,_,_,_=>rfl
 |_::_,[],_,_,_,_=>rfl
 |x::xs,y::ys,a,b,h1,h2=>by
  obtain⟨i,rfl⟩:∃i,x=.int i:=by cases x<;>simp[iG]at h1 ⊢
  obtain⟨j,rfl⟩:∃i,y=.int i:=by cases y<;>simp[iG]at h2 ⊢
  cases l:iG xs with
  |none=>rw[iG,l]at h1;cases h1
  |some a'=>
   cases h:iG ys with
   |none=>rw[iG,h]at h2;cases h2
   |some b'=>
    have g:=OB l h;have z:rZ 0 (D.int i) (D.int j)=some (i == j):=rfl;by_cases c:i=j
    ·subst c;rw[kK,z];simp[g,gI,gH]
    ·have o:(i == j)=false:=by simpa using c
     rw[kK,z,o];simp[g,gI,gH,c]
theorem NJ{x:D}{xs:List D}{a:List KI}(h:iJ (x::xs)=some a):((∃i,x=.int i)\/∃c r,x=.tup c/\iG c=some r)/\∃l,iJ xs=some l:=by
 cases x with
 |int i=>
  unfold iJ at h;cases e:iJ xs with
  |none=>rw[e]at h;cases h
  |some q=>exact⟨.inl ⟨i,rfl⟩,q,rfl⟩
 |tup c=>
  unfold iJ at h;cases e:iG c with
  |none=>rw[e]at h;cases h
  |some r=>
   cases g:iJ xs with
   |none=>rw[e,g]at h;cases h
   |some q=>exact⟨.inr ⟨c,r,rfl,e⟩,q,rfl⟩
 |_=>cases h
theorem NW:∀{xs ys:List D}{a b:List KI},iJ xs=some a->iJ ys=some b->kK (rZ 1) xs ys=some (gI xs ys)
 |[],[],_,_,_,_=>rfl
 |[],_::_,_,_,_,_=>rfl
 |_::_,[],_,_,_,_=>rfl
 |x::xs,y::ys,a,b,h1,h2=>by
  obtain⟨B,I,G⟩:=NJ h1;obtain⟨o,H,E⟩:=NJ h2;have l:=NW G E;have z:rZ 1 x y=some (gH x y):=by
   rcases B with ⟨i,rfl⟩|⟨h,r,rfl,C⟩
   ·rcases o with ⟨j,rfl⟩|⟨vs,q,rfl,u⟩
    ·show some (i == j)=some (decide (i=j));by_cases c:i=j
     ·subst c;simp
     ·rw[aP c,beq_eq_false_iff_ne.mpr c]
    ·rfl
   ·rcases o with ⟨j,rfl⟩|⟨vs,q,rfl,u⟩
    ·rfl
    ·show kK (rZ 0) h vs=some (gI h vs);exact OB C u
  cases g:gH x y with
  |true=>rw[kK,z,g];simp[l,gI,g]
  |false=>rw[kK,z,g];simp[l,gI,g]
theorem MT{d e:D}(h:(stK d).isSome=true)(g:(stK e).isSome=true):rZ 2 d e=some (gH d e):=by
 obtain⟨c,rfl⟩:∃i,d=.tup i:=by cases d<;>simp[stK]at h ⊢
 obtain⟨vs,rfl⟩:∃i,e=.tup i:=by cases e<;>simp[stK]at g ⊢
 obtain⟨a,o⟩:=dH.mp h;obtain⟨b,l⟩:=dH.mp g
 show kK (rZ 1) c vs=some (gI c vs);exact NW (xs:=c) (ys:=vs) o l
mutual
theorem LP:∀{a b c:D},gH a b=true->gH b c=true->gH a c=true
 | .int i,b,c,h1,h2=>by
  obtain⟨j,rfl⟩:∃j,b=.int j:=by cases b<;>simp[gH]at h1 ⊢
  obtain⟨k,rfl⟩:∃j,c=.int j:=by cases c<;>simp[gH]at h2 ⊢
  simp[gH]at h1 h2 ⊢;ext
 | .str i,b,c,h1,h2=>by
  obtain⟨j,rfl⟩:∃j,b=.str j:=by cases b<;>simp[gH]at h1 ⊢
  obtain⟨k,rfl⟩:∃j,c=.str j:=by cases c<;>simp[gH]at h2 ⊢
  simp[gH]at h1 h2 ⊢;rw[h1,h2]
 | .tup xs,b,c,h1,h2=>by
  obtain⟨ys,rfl⟩:∃j,b=.tup j:=by cases b<;>simp[gH]at h1 ⊢
  obtain⟨g,rfl⟩:∃j,c=.tup j:=by cases c<;>simp[gH]at h2 ⊢
  rw[gH]at h1 h2 ⊢;exact qv h1 h2
 | .non,_,_,h1,_=>by simp[gH]at h1
 | .bl _,_,_,h1,_=>by simp[gH]at h1
 | .lit _,_,_,h1,_=>by simp[gH]at h1
 | .ref _,_,_,h1,_=>by simp[gH]at h1
 | .dic _,_,_,h1,_=>by simp[gH]at h1
theorem qv:∀{a b c:List D},gI a b=true->gI b c=true->gI a c=true
 |[],b,c,h1,h2=>by
  cases b with
  |nil=>exact h2
  |cons _ _=>simp[gI]at h1
 |x::xs,b,c,h1,h2=>by
  cases b with
  |nil=>simp[gI]at h1
  |cons y ys=>
   cases c with
   |nil=>simp[gI]at h2
   |cons z zs=>
    rw[gI,bj]at h1 h2 ⊢;exact⟨LP h1.1 h2.1,qv h1.2 h2.2⟩
end
section
variable{X:Cx}{a3:List (ak×Obj)}{σ:St}{H:Hp}{s:am}{ρ:List ak}
noncomputable def P8:ab->V
 | .none=>.non
 | .bool b=>.bl b
 | .int i _=>.int i
 | .str x _=>.str x
 | .bytes b _=>.byt b
 | .float b _=>.flt b
 | .ref a=>.ref a
 | .type n=>.ty n
 |_=>.non
theorem MW{v:V}{u:ab}(h:L2.RelV v u):v=P8 u:=by cases v<;>first|(have h:u=_:=h;subst h;rfl)|(obtain⟨t,e⟩:=h;subst e;rfl)
theorem Ug{v c:V}{u:ab}(h:L2.RelV v u)(h':L2.RelV c u):v=c:=(MW h).trans (MW h').symm
theorem Qw{vs:List V}{ds:List D}{its:List ab}{x:V}{d:D}{u:ab}{A:bz}(I:Inv X a3 σ H s)(hu:A.units+3 < cL)(r:bA X.K ρ H vs ds)(rv:bQ vs its)(Y:c_ X.K ρ H x d)(ru:L2.RelV x u)(L:wL d ds):
  ∃e:ab->Bool,(∀y∈its,vK A.in1 s y u (e y))/\∀(j:Nat)(z:ab),its[j]?=some z->∃c,ds[j]?=some c/\e z=gH c d:=by
 classical
 have at_:∀(j:Nat)(z:ab),its[j]?=some z->∃v c,ds[j]?=some c/\c_ X.K ρ H v c/\L2.RelV v z:=λj z hz=>by obtain⟨v,hv,o⟩:=bQ.at rv hz;obtain⟨c,hd,q⟩:=bA.at r hv;exact⟨v,c,hd,q,o⟩
 have ok:∀(j:Nat)(c:D),ds[j]?=some c->(stK c).isSome=true:=λj c h=>cX.mp L.2 c (av h)
 let e:ab->Bool:=λz=>decide (∃(j:Nat)(c:D),its[j]?=some z/\ds[j]?=some c/\gH c d=true)
 have key:∀(j:Nat)(z:ab)(c:D),its[j]?=some z->ds[j]?=some c->e z=gH c d:=λj z c hz hd=>by
  cases E:gH c d with
  |true=>exact cT ⟨j,c,hz,hd,E⟩
  |false=>
   refine aP λg=>?_;obtain⟨J,G,B,l,C⟩:=g;obtain⟨v,d1,U,r1,q1⟩:=at_ j z hz;obtain⟨v',d2,Q,r2,q2⟩:=at_ J z B;rw[hd]at U;cases U;rw[l]at Q;cases Q;have:=Ug q1 q2;subst this;have t:=HG I 2 (MT (ok j c hd) (ok J G l)) r1 r2;rw[LP t C]at E;cases E
 refine⟨e,λy hy=>?_,λj z hz=>?_⟩
 ·obtain⟨j,O⟩:=fI hy;obtain⟨v,c,hd,q,o⟩:=at_ j y O;rw[key j y c O hd];exact (GZ I 2 (A:=A.in1) (by show A.units+1+2 < cL;ext) (MT (ok j c hd) L.1) q Y o ru).2.2
 ·obtain⟨v,c,hd,_,_⟩:=at_ j z hz;exact⟨c,hd,key j z c hz hd⟩
def x9(K:ag):V->List V->Hp->VK->Prop:=λx ys H Q=>∃(ρ:List ak)(l:ak)(vs:List V)(ds:List D)(y:V)(d:D),x=.ref l/\ys=[y]/\H l=some (.lst vs)/\bA K ρ H vs ds/\c_ K ρ H y d/\wL d ds/\(ds.any λe=>gH e d)=true/\ds.length<=dN/\Q (.int (ds.findIdx λe=>gH e d:Nat)) H
theorem Um(hu:X.A.units+60 < cL):Ep X "list.index" (x9 X.K):=by
 intro a3 s σ H x vs v us Q I rx rv h;obtain⟨ρ,l,xs,ds,y,d,rfl,rfl,hv,r,ry,hk,o,O,q⟩:=h;cases rx;obtain⟨u,rfl,ru⟩:=rv.one;obtain⟨its,g,pl,hz⟩:=I.list (g8.of hv);obtain⟨e,q1,G⟩:=Qw (A:=X.A) I (by ext) r g ry ru hk;have hl:its.length=ds.length:=by rw[<- g.length,r.length]
 have U:(ds.findIdx λe=>gH e d) < ds.length:=List.findIdx_lt_length.mpr (by simpa using o);have E:dN < 2^60:=by decide
 obtain⟨⟨cls,dd,data,sl⟩,J,Y,n,hd⟩:=id pl.isList;simp only at Y hd;subst Y hd;refine kQ r9 ⟨_,J,rfl⟩ PySem.F.entry_list_index (PySem.F.args_list_index_2 _ _)
  (SeqAt.list_indexAt l its.toArray n dd sl u e (ds.findIdx λe=>gH e d) (by simp only[ay];ext) (by ext) ?_ ?_) ⟨J,λw hw=>q1 w (by simpa using hw),⟨.int _,H,I.tok _,⟨_,rfl⟩,q⟩⟩
 ·have g:(ds.findIdx λe=>gH e d) < its.length:=by ext
  obtain⟨dj,c,B⟩:=G _ _ (aj g);simp only[fJ];rw[B];rw[aj U]at c;cases c;exact List.findIdx_getElem (w:=U)
 ·intro m L C;simp only[ay]at L;obtain⟨dj,c,B⟩:=G _ _ (aj L);simp only[fJ];rw[B];have g:m < ds.length:=by ext
  rw[aj g]at c;cases c;have:=List.not_of_lt_findIdx C;simpa using this
theorem X8{o e : Expr}{fa fb : CE}{q c : Pos}(hu : X.A.units+60 < cL)(ho : SE X o fa)(E : SE X e fb)(B : dM o "index" X.env (eval o X.env) = eval o X.env := by rfl)
  (C:((backTo c (starEach [e] X.env)).all (λx => !x.1)&&(nA c (i6 [] X.env)).all (λx=>x.1.isSome)
   && decide ([e].length+([]:List g_).length+(if ([]:List g_).isEmpty then 0 else 1) < 30))=true:=by rfl)
  (u:(q.endLine == c.line)=true:=by rfl) (hs:starEach [e] X.env=(false,eval e X.env)::starEach [] X.env:=by rfl) (g:(backTo c (starEach [] X.env)).any (·.1)=false:=by rfl):
  SE X (.Call (.Attribute o "index" q) [e] [] c) (m_ fa fb):=
 (Kd iy r9 PySem.F.type_list_index (Um hu) ho (rj E tX hs) B C u hs g).of λσ H Q h_=>h_.el λρ l st lr sr p=>⟨ρ,l,st,lr,sr,p.bnd.imp λd I ρ1 H1 x1 s1 p1 v rv=>by
  cases d with
  |ref n=>
   obtain⟨a,rfl,kk,h⟩:=rv.inv;obtain⟨G,hv0⟩:=GA kk;refine⟨.inl ⟨rfl,G,g8.of hv0⟩,ρ1,l,I,lr.mono x1,s1,(aS.bnd p1).imp λy st2 ρ2 H2 x2 J p2 w L=>?_⟩;have h2:ρ2[n]?=some a:=by obtain⟨τ,e,_⟩:=x2.pre;rw[e];exact xV h
   obtain⟨ds,e2,p3⟩:=aS.getL (aS.bnd p2) J;obtain⟨a',vs,E,hv,r⟩:=J.seq e2;rw[h2]at E;cases E;obtain⟨⟨Y,U,O⟩,p4⟩:=aS.chk p3;exact⟨ρ2,a,vs,ds,w,y,rfl,rfl,hv,r,L,Y,U,O,p4.ret J _ (.int _)⟩
  |_=>exact p1.elim⟩
theorem Tq{o e : Expr}{fa fb : CE}{q c : Pos}(ho : SE X o fa)(I : SE X e fb)(B : dM o "extend" X.env (eval o X.env) = eval o X.env := by rfl)
  (E:((backTo c (starEach [e] X.env)).all (λx => !x.1)&&(nA c (i6 [] X.env)).all (λx=>x.1.isSome)
   && decide ([e].length+([]:List g_).length+(if ([]:List g_).isEmpty then 0 else 1) < 30))=true:=by rfl)
  (u:(q.endLine == c.line)=true:=by rfl) (hs:starEach [e] X.env=(false,eval e X.env)::starEach [] X.env:=by rfl) (g:(backTo c (starEach [] X.env)).any (·.1)=false:=by rfl):
  SE X (.Call (.Attribute o "extend" q) [e] [] c) (ng fa fb):=
 (Kd iy PySem.F.slot_list_extend PySem.F.type_list_extend U8 ho (rj I tX hs) B E u hs g).of λσ H Q h_=>h_.el λρ l st lr sr p=>⟨ρ,l,st,lr,sr,p.bnd.imp λd L ρ1 H1 x1 s1 p1 v rv=>by
  cases d with
  |ref n=>
   obtain⟨a,rfl,kk,h⟩:=rv.inv;obtain⟨J,Y⟩:=GA kk;refine⟨.inl ⟨rfl,J,g8.of Y⟩,ρ1,l,L,lr.mono x1,s1,(aS.bnd p1).imp λy st2 ρ2 H2 x2 C p2 w O=>?_⟩;have h2:ρ2[n]?=some a:=by obtain⟨τ,e,_⟩:=x2.pre;rw[e];exact xV h
   cases O with
   |@ref b m kk2 hb=>
    obtain⟨ds,e2,p3⟩:=aS.getL (aS.bnd p2) C;obtain⟨a',vs,I,hv,r⟩:=C.seq e2;rw[h2]at I;cases I;obtain⟨ds2,e3,p4⟩:=aS.getL (aS.bnd p3) C;obtain⟨b',ws,G,hw,r2⟩:=C.seq e3;rw[hb]at G;cases G;obtain⟨hz,p5⟩:=aS.chk p4;obtain⟨s3,x3⟩:=C.put (ae.mp e2).1 h2 hv (bA.app r r2);have U:=aS.bnd p5;unfold putL at U;rw[e2]at U;exact⟨a,b,vs,ws,rfl,rfl,hv,hw,by rw[r.length,r2.length];exact hz,(U ρ2 _ x3 s3).ret s3 _ .non⟩
   |_=>exact p2.elim
  |_=>exact p1.elim⟩
end
end MM
namespace MM
open PySem PyProof.Rows L2
section
variable{prog:Program}{w:bD}{K:Type}[DecidableEq K]{knd:uu prog w K}{A:bz}{E:ab->am->Prop}{s:am}{d a:ak}{k:K}{xs:List (K×ak×ab)}
theorem XC{dflt:ab}{Q:ab->am->Prop}(hu:knd.room A)
  (c:knd.is s.heap k a) (Y:s.heap.DictOfH knd d xs) (U:rf s.heap d xs.length) (hsz:xs.length<=sizeLine)
  (h1:∀p,k_ xs k=some p->Q p.2 { s with toks:=s.toks+knd.draws k })
  (h2:k_ xs k=none->∀h',h'.DictOfH knd d (k7 xs k a dflt)->rf h' d (k7 xs k a dflt).length->c7 d s.heap h'->Q dflt { s with heap:=h',toks:=s.toks+knd.draws k }):
  aF (aW prog w) A (uC d (.ref a) dflt) Q E s:=by
 obtain⟨o,es,ep,g,hc,hd,G,B,I⟩:=Y;obtain⟨o',es',l,C⟩:=U;rw[g]at l;cases l;rw[hd]at C;cases C;unfold uC;refine bZ ?_;refine aa (knd.pyHash hu c ?_);refine aa (Ar (s:={ s with toks:=s.toks+knd.draws k }) hu c g hd G B I (λu=>?_) λj p J=>?_)
 ·have q:k∉xs.map (·.1):=As u;have L:=C4 u;have H:=storedH_new (a:=a) (v:=dflt) L;have l:=lG G;refine aa (gM (aa (zM (hz:=by ext) (s:={ s with toks:=s.toks+knd.draws k }) g hd (ai
   (h2 L _ ⟨_,_,_,bG _ g (fX (dO hd _)),hc.mapDictKeys _,dO hd _,?_,?_,?_⟩ ?_ (bx ..))))))
  ·rw[H];simp[G,n5]
  ·rw[H];intro x h;rcases aU.mp h with h|h
   ·exact knd.keeps (B x h) g hd (bx ..)
   ·cases aC.mp h;exact knd.keeps c g hd (bx ..)
  ·rw[H,bq,d8];refine⟨I,by simp,λx h y O=>?_⟩;cases aC.mp O;exact λe=>q ((show x=k from e) ▸ h)
  ·rw[H,aN];exact⟨_,_,bG _ g (fX (dO hd _)),dO hd _⟩
 ·refine aa (kt (s:={ s with toks:=s.toks+knd.draws k }) g hd ?_);rw[entry_at G j,J];exact aa (gM (ai (h1 p (atKey_of_get I J))))
theorem VX(hd:(d == dA)=false)(dflt:ab):
  MeetsIn prog w (Builtin.«dict.setdefault» ⟨[.ref d,.ref a,dflt],[]⟩) (λA R s=>knd.room A.in1/\∃k xs,knd.is s.heap k a/\s.heap.DictOfH knd d xs/\rf s.heap d xs.length/\xs.length<=sizeLine /\
   (∀p,k_ xs k=some p->R (.ok (.ret p.2)) { s with toks:=s.toks+knd.draws k }) /\
   (k_ xs k=none->∀h',h'.DictOfH knd d (k7 xs k a dflt)->rf h' d (k7 xs k a dflt).length->c7 d s.heap h'->R (.ok (.ret dflt)) { s with heap:=h',toks:=s.toks+knd.draws k })):=
 .of_wp λA R s z=>by
  obtain⟨hu,k,xs,c,q,l,hz,C,B⟩:=z;unfold Builtin.«dict.setdefault»;refine aa ?_;unfold Builtin.Dict.keyAndDefault;refine aa (oT q.typeIs ?_)
  show aF _ _ (pure (d,a_ a,some dflt)) _ _ s;refine ai ?_
  show aF _ _ (if (d == dA)=true then _ else (uC d (.ref a) dflt >>= _)) _ _ s;rw[aG (by rw[hd];exact bh)];exact aa (XC hu c q l hz (λp l=>ai ⟨p.2,rfl,C p l⟩) λu h' o h g=>ai ⟨dflt,rfl,B u h' o h g⟩)
end
section
variable{X:Cx}{a3:List (ak×Obj)}{σ:St}{H:Hp}{s:am}{ρ:List ak}{st:aX}{a:ak}
theorem YM{n:Nat}{g:List (D×D)}{k d:D}{y v:V}{u L:ab}{Q:ab->am->Prop}{E:ab->am->Prop}{A:bz}(hu:A.units+2 < cL)(I:Inv X a3 σ H s)(sr:SR X.K ρ H st)(ha:ρ[n]?=some a)(hn:st[n]?=some (.dct true g))
  (rk:c_ X.K ρ H y k) (hk:oV true k=true) (hl:g.length < sizeLine) (rv:c_ X.K ρ H v d) (ry:RelV y u) (rr:RelV v L)
  (h1:∀d',kJ g k=some d'->∀B w' C,Inv X a3 σ H C->c_ X.K ρ H B d'->RelV B w'->Q w' C)
  (h2:kJ g k=none->∀H' C,Inv X a3 σ H' C->SR X.K ρ H' (st.set n (.dct true (ke g k d)))->Ex ρ H ρ H'->Q L C):
  aF (aW X.prog X.w) A (call (.builtin "dict.setdefault") [.ref a,u,L]) Q E s:=by
 have hlt:=(ae.mp hn).1;obtain⟨O,e,r⟩:=sr.ob n a _ ha hn;obtain⟨k,rfl⟩:=Dh hk;obtain⟨_,hd,xs,U,dd,de⟩:=yS I e r;obtain⟨c,e2,e3,hc⟩:=CD I rk ry;subst e2 e3;have w:=sr.putO (o':=.dct true (ke g (sB k) d)) (u':=rg a (putN O k c v)) hlt ha e (by show (2:Nat)≠3;decide) rfl ⟨_,iP,(NR.put r k c rk rv).up ?_⟩
 ·have hz : xs.length <= sizeLine := by rw[<- dR U,NR.length r];ext
  have l:=NR.val r k;have h:=NX.val U k;refine call_meetsIn vQ dd.typeIs F.entry_dict_setdefault (F.args_dict_setdefault_3 _ _ _) (VX (knd:=BY X) hd L) ⟨show A.in1.units+1 < cL from hu,k,xs,hc,dd,de,hz,λp Y=>?_,λY h' J o u=>?_⟩
  ·rw[Y]at h;cases G:valN O k with
   |none=>rw[G]at h;exact h.elim
   |some B=>
    rw[G]at l h;cases el:kJ g (sB k) with
    |none=>rw[el]at l;exact l.elim
    |some d'=>
     rw[el]at l;exact h1 d' el B p.2 _ (I.tok _) l h
  ·rw[Y]at h;cases G:valN O k with
   |some B=>rw[G]at h;exact h.elim
   |none=>
    rw[G]at l;cases el:kJ g (sB k) with
    |some d'=>rw[el]at l;exact l.elim
    |none=>
     refine h2 el _ _ ?_ w.1 w.2;have C:∃q,h'.get? a=some q:=let ⟨q,_,_,hq,_⟩:=J;⟨q,hq⟩
     refine DL I (by rw[e];exact d7) u C (Lr ?_ hd (NX.put U k c rr) J o);have:=ME O k c v;rw[NR.length r]at this;ext
 ·refine⟨⟨[],by simp⟩,λc o g q=>?_,λc o q=>?_⟩
  ·rw[fM λz=>by subst z;rw[e]at q;cases q;exact nomatch g];exact q
  ·by_cases z:c=a
   ·subst z;rw[e]at q;cases q;exact⟨_,iP,rfl⟩
   ·exact⟨o,by rw[fM z];exact q,rfl⟩
end
open PySem.W
section
variable{prog:Program}{w:bD}{A:bz}{E:ab->am->Prop}{s:am}{d it:ak}{es:Array nD}{ep i:Nat}
noncomputable def pL(h:bw)(d:ak)(es:Array nD)(ep:Nat):Prop:=∃o,h.get? d=some o/\o.ExactDict/\o.data=.dict es ep
theorem pL.typeIs(x:pL s.heap d es ep):s.TypeIs (.ref d) "dict":=by obtain⟨o,g,c,_⟩:=x;exact⟨o,g,c.1⟩
theorem pL.keep{h h':bw}(x:pL h d es ep)(k:∀o,h.get? d=some o->h'.get? d=some o):pL h' d es ep:=by obtain⟨o,g,r⟩:=x;exact⟨o,k o g,r⟩
theorem pL.lt{h:bw}(x:pL h d es ep):d < h.objs.size:=by obtain⟨o,g,_⟩:=x;exact aD g
theorem TN{Q:ab->am->Prop}(hd:(d == dA)=false)(x:pL s.heap d es ep)
  (q:Q (.ref s.heap.objs.size) { s with heap:=s.heap.push { cls:=.type "dict_keyiterator",data:=.fields #[.ref d,.int 0 0,.int es.size 0,.int ep 0] } }):
  aF (aW prog w) A (um (.ref d)) Q E s:=by
 have T:=x.typeIs;obtain⟨o,g,c,h⟩:=x;refine rG T Cj (bX Cj T F.entry_dict_iter ?_ (F.args_dict_iter_1 _));unfold Builtin.«dict.__iter__» Builtin.Dict.dictSlotNone;refine aa (aa (oT T ?_))
 show aF _ _ (pure (a_ d)) _ _ s;refine ai ?_
 show aF _ _ (qS d >>= _) _ _ s;unfold qS;rw[aG (by rw[hd];exact bh)];refine aa (ai (aa (kt g h (aa (tR g h ?_)))));refine aa (bM (ai ⟨_,rfl,"dict_keyiterator",_,⟨_,aB _ rfl,rfl⟩,gO.lookup,?_⟩));simpa [eZ] using q
theorem Su{e:nD}{Q:Option ab->am->Prop}(z:s.heap.IsKeyIter it d i es.size ep)(x:pL s.heap d es ep)(G:es[i]?=some e)
  (q:∀h',h'.IsKeyIter it d (i+1) es.size ep->c7 it s.heap h'->Q (some e.key) { s with heap:=h' }):aF (aW prog w) A (iL (.ref it)) Q E s:=by
 have T:=z.typeIs;obtain⟨o,g,c,h⟩:=id z;obtain⟨H,u,I,B⟩:=x;unfold iL;refine aa (iS (bN (name:=aq "__next__") T gO (bX gO T r_ ?_ (rH _))));refine aa (ai (aa (aa ?_)))
 first|refine aa (gG T (ai ?_))|refine aa (iT T (ai ?_))
 refine aa (pq g h ?_);have C:mN "dict_keyiterator"=false:=by decide
 simp only[C,aT,if_false]
 show aF _ _ (if (a_ d == cJ)=true then _ else _) _ _ s;rw[aG (show ¬ ((a_ d == cJ)=true) from bh)];refine aa (ai (aa (kt u B ?_)));rw[aG (by simp)];refine aa (ai (aa (tR u B ?_)));rw[aG (by simp)];refine ai ?_;simp only[show ¬ ((i:Int) < 0) from by ext,if_false,bc,G];refine aa ?_
 first|refine aa (gG T (ai ?_))|refine aa (iT T (ai ?_))
 refine aa (xL T ?_)
 show aF _ _ (setField (.ref it) 1 (eZ ((i:Int)+1)) >>= _) _ _ s;refine aa (ir g h (by simp) ?_);have l:(s.heap.update it (oX (·.setIfInBounds 1 (eZ ((i:Int)+1))))).IsKeyIter it d (i+1) es.size ep:=
  ⟨_,bG _ g (kg (dq h _)),(lU ..).trans c,by rw[dq h];simp[eZ]⟩
 refine aa (bZ (aa (xL (s:={ s with heap:=s.heap.update it (oX (·.setIfInBounds 1 (eZ ((i:Int)+1)))) }) l.typeIs ?_)))
 show aF _ _ (pure e.key) _ _ _;exact ai (ai ⟨_,rfl,ai (q _ l (bx ..))⟩)
theorem U7{Q:Option ab->am->Prop}(hh:A.handled=none)(z:s.heap.IsKeyIter it d i es.size ep)(x:pL s.heap d es ep)(C:es[i]?=none)
  (q:∀h',lP it s.heap h'->Q none { s with heap:=h' }):aF (aW prog w) A (iL (.ref it)) Q E s:=by
 have T:=z.typeIs;obtain⟨o,g,c,l⟩:=id z;obtain⟨G,h,H,u⟩:=x;unfold iL;refine aa (iS (bN (name:=aq "__next__") T gO (bX gO T r_ ?_ (rH _))));refine aa (ai (aa (aa ?_)))
 first|refine aa (gG T (ai ?_))|refine aa (iT T (ai ?_))
 refine aa (pq g l ?_);have B:mN "dict_keyiterator"=false:=by decide
 simp only[B,aT,if_false]
 show aF _ _ (if (a_ d == cJ)=true then _ else _) _ _ s;rw[aG (show ¬ ((a_ d == cJ)=true) from bh)];refine aa (ai (aa (kt h u ?_)));rw[aG (by simp)];refine aa (ai (aa (tR h u ?_)));rw[aG (by simp)];refine ai ?_;simp only[show ¬ ((i:Int) < 0) from by ext,if_false,bc,C];refine aa ?_
 first|refine aa (gG T (ai ?_))|refine aa (iT T (ai ?_))
 show aF _ _ (setField (.ref it) 0 .none >>= _) _ _ s;refine aa (ir g l (by simp) ?_)
 show aF _ _ (Cg (.type "StopIteration") [] >>= _) _ _ _;refine aa ?_;simp only[Cg,newTuple];refine aa (bM ?_ (by size_fits));refine aa (m:=ku _ _) (mM (a:=cJ) (by first|rfl|(simp only[ku];rfl)) (bM ?_ (by size_fits)));simp only[raiseNew];refine aa (vO ?_);rw[show A.in1.handled=none from hh];refine aa (ai (zP ?_));refine aa (c9 (T:="StopIteration") (b:=true) ⟨_,aB _ rfl,rfl⟩ pk ?_);exact ai (q _ (((bx ..).extBut.push _).push _))
theorem Ww(hh:A.handled=none)(I d:ak)(ne:d≠I)(es:Array nD)(ep:Nat):
  Walks prog w A I [I,d] [I] es.size (λi v=>∃e,es[i]?=some e/\v=e.key) (λi h=>h.IsKeyIter I d i es.size ep/\pL h d es ep) where
 sub:=λb c=>by simp at c;simp[c]
 frame:=λ_ _ _ z k=>⟨z.1.at λo e=>k I (by simp) o e,z.2.keep λo e=>k d (by simp) o e⟩
 item:=λi s Q E B z q=>by
  have g:es[i]?=some es[i]:=by simp[B]
  refine Su z.1 z.2 g λh' u l=>?_;exact q _ h' s.toks ⟨_,g,rfl⟩ ⟨u,z.2.keep λo e=>l.extBut d o ne e⟩ λb o c e=>l.extBut b o (λh=>c (by simp[h])) e
 done:=λs Q E z q=>U7 hh z.1 z.2 (by simp) λh' C=>q h' s.toks λb o c e=>C b o (λh=>c (by simp[h])) e
 self:=λ_ _ _ _ z q=>wpAny_pyIter_keyiter z.1 q
theorem UM(lo:(d == dA)=false):KdlSrc prog w "dict" d d es.size (λi v=>∃e,es[i]?=some e/\v=e.key) (λh=>pL h d es ep) where
 type:=λ_ x=>x.typeIs
 there:=λ_ x=>⟨x.lt,x.lt⟩
 keep:=λ_ _ x k=>x.keep λo e=>k d (.inl rfl) o e
 notList:=by decide
 notTuple:=by decide
 hint:=λ_ _ _ _ x q=>kdl_hint_dict x.typeIs q
 iter:=λ_ _ hh x=>⟨_,_,(λ_ _ q=>TN lo x q),Ww hh _ d (aR x.lt) es ep,⟨⟨_,aB _ rfl,rfl,rfl⟩,x.keep λo e=>ah _ e⟩⟩
end
end MM
namespace MM
open PySem
def pd:D->M D
 | .dic n=>bnd (getDc n) λp=>chk (p.1=true) (alloc (.lst (p.2.map (·.1))))
 |_=>bad
def lv(n:Nat)(k v:D):M D:=bnd (getDc n) λp=>chk (p.1=true/\oV true k=true/\p.2.length < dN) (match kJ p.2 k with
 |some d=>ret d
 |none=>bnd (rM n true (ke p.2 k v)) λ_=>ret v)
def oD(a b c:CE):CE:=λl=>bnd (a l) λx=>match x with
 | .dic n=>bnd (getDc n) λp=>chk (p.1=true) (bnd (b l) λy=>bnd (c l) λz=>lv n y z)
 |_=>bad
open PySem.W PyProof.Rows L2
section
variable{X:Cx}
theorem NX.refs{c:List (NK×ak×V)}{xs:List (NK×ak×ab)}(r:NX c xs):L2.bQ (c.map λp=>V.ref p.2.1) (xs.map λx=>a_ x.2.1):=by
 induction r with
 |nil=>exact .nil
 |cons h t ih=>exact .cons (by dsimp only;rw[h.2.1];rfl) ih
theorem Rx(hc:X.calm=true):CallR X (.type "list") (λvs H Q=>∃a E ρ G,vs=[.ref a]/\H a=some (rg a E)/\NR X.K ρ H E G/\∀l,H l=none->Q (.ref l) (fw H l (.lst (E.map λp=>V.ref p.2.1)))):=by
 intro Y s σ H vs us Q I r h;obtain⟨a,E,ρ,G,rfl,e,nr,q⟩:=h;obtain⟨u,rfl,L⟩:=vv r;cases L;obtain⟨hz,hd,xs,L,dd,_⟩:=yS I e nr;obtain⟨o,U,ep,g,c,gd,he,_⟩:=id dd;have hn:U.size=xs.length:=lG he;have hl:E.length=xs.length:=dR L;refine kdl_call (UM (ep:=ep) hd) (I.ok.hd hc) ⟨o,g,c,gd⟩ (by ext) λh' tk C c' kp hS B=>?_;have ea:C=(xs.map λx=>a_ x.2.1).toArray:=by
  apply Ga;apply e8;intro i;rw[eK,ao];cases O:xs[i]? with
  |none=>
   have:=sP.mp O;rw[tT (by rw[B.1];ext)];rfl
  |some x=>
   have hi:=(ae.mp O).1;have J:i < C.size:=by rw[B.1];ext
   rw[dD J];obtain⟨en,e1,e2⟩:=B.2 i C[i] (dD J);rw[entry_at he i,O]at e1;cases e1;rw[e2];rfl
 rw[ea]at hS;exact⟨.ref s.heap.objs.size,_,I.laid (t':=tk) kp (ax _) (show eX X.prog X.w _ h' _ (.lst (E.map λp=>V.ref p.2.1)) from ⟨by rw[af];exact hz,_,c',L.refs,hS⟩),rfl,q _ (I.hok.fresh (ax _))⟩
theorem NR.keys{K:ag}{ρ:List ak}{H:Hp}{g:List (NK×ak×V)}{c:List (D×D)}(r:NR K ρ H g c):bA K ρ H (g.map λp=>V.ref p.2.1) (c.map (·.1)):=by
 induction r with
 |nil=>exact .nil
 |cons h t ih=>exact .cons h.2.1 ih
theorem Yf(G:X.calm=true):CallR X (.type "list") (λxs H Q=>∃v,xs=[v]/\z_ X.K pd v H Q):=(Rx G).of λxs H Q z=>by
 obtain⟨v,e,ρ,st,d,sr,u,p⟩:=z;cases d with
 |dic n=>
  obtain⟨a,rfl,_,h⟩:=u.inv;obtain⟨b,c,L,C⟩:=aS.getDc (aS.bnd p) sr;obtain⟨I,B⟩:=aS.chk C;cases (show b=true from I);obtain⟨o,J,r⟩:=sr.ob n a _ h L;refine⟨a,o,ρ,c,e,J,r,λl g=>?_⟩;have E:=sr.fresh g;have q:SR X.K (ρ++[l]) (fw H l (.lst (o.map λp=>V.ref p.2.1))) (st++[.lst (c.map (·.1))]):=(sr.new g).keep iP E ((NR.keys r).mono (Ex.new g));refine B _ _ (Ex.newL g) q _ (.ref ⟨_,iP,rfl⟩ ?_);rw[<- sr.len];simp
 |_=>exact p.elim
theorem XW{o e:Expr}{u:List Expr}{to:TE}{t:TA}{name:Str}{C l:Pos}{id:String}{r:V->List V->Hp->VK->Prop}(slot:Slot "dict" name id)(U:typeOf (.builtin id)=pure (.type "method_descriptor"))(hm:Ep X id r)(ho:PE X o to)(ha:PA X (e::u) t)
  (G:dM o name X.env (eval o X.env)=eval o X.env)
  (L:((backTo l (starEach (e::u) X.env)).all (λx => !x.1)&&(nA l (i6 [] X.env)).all (λx=>x.1.isSome)&&decide ((e::u).length+([]:List g_).length+(if ([]:List g_).isEmpty then 0 else 1) < 30))=true)
  (E:(C.endLine == l.line)=true) (hs:starEach (e::u) X.env=(false,eval e X.env)::starEach u X.env) (B:(backTo l (starEach u X.env)).any (·.1)=false):
  PE X (.Call (.Attribute o name C) (e::u) [] l) (λσ H Q=>to σ H λx O=>(∃a u ρ J,x=.ref a/\O a=some (rg a u)/\NR X.K ρ O u J)/\t σ O λxs H2=>r x xs H2 Q):=by
 intro q s σ H Q I h;refine xl G L E rfl (gj (ho q s σ H _ I h) λv s1 z=>?_);obtain⟨x,O,I1,r1,⟨a,es',ρ,J,rfl,e1,nr⟩,q1⟩:=z;cases r1;obtain⟨_,_,_,_,dd,_⟩:=yS I1 e1 nr;have dd':=dd;obtain⟨ob,_,_,g,c,_⟩:=dd';refine⟨"dict",id,F.plainAttrs_dict,slot,U,dd.typeIs,λb Y=>by injection Y with Y;subst Y;exact⟨ob,g,c.2.1⟩,?_⟩;have hA:=ha l q s1 σ O _ I1 q1;rw[hs]at hA ⊢;refine mE (by show (false||(backTo l (starEach u X.env)).any (·.1))=false;rw[B]<;>rfl) (nC (gj hA λus s2 z=>?_));obtain⟨vs,H2,I2,r2,q2⟩:=z;exact hm q s2 σ H2 (.ref a) vs _ us Q I2 rfl r2 q2
def uN(X:Cx):V->List V->Hp->VK->Prop:=λx vs H Q=>∃(a:ak)(ρ:List ak)(st:aX)(n:Nat)(a4:List (D×D))(k d:D)(y v:V),x=.ref a/\vs=[y,v]/\SR X.K ρ H st/\ρ[n]?=some a/\st[n]?=some (.dct true a4)/\c_ X.K ρ H y k/\oV true k=true/\a4.length < sizeLine/\c_ X.K ρ H v d /\
 (∀d',kJ a4 k=some d'->∀g,c_ X.K ρ H g d'->Q g H)/\(kJ a4 k=none->∀c,SR X.K ρ c (st.set n (.dct true (ke a4 k d)))->Ex ρ H ρ c->Q v c)
theorem Uh(hu:X.A.units+60 < cL):Ep X "dict.setdefault" (uN X):=by intro q s σ H x vs u us Q I J L h;obtain⟨a,ρ,st,n,a4,k,d,y,v,rfl,rfl,sr,ha,hn,O,hk,hl,U,h1,h2⟩:=h;cases J;obtain⟨u1,u2,rfl,Y,o⟩:=L.two;exact YM (by ext) I sr ha hn O hk hl U Y o (λd' e l w' G g r' c=>⟨l,H,g,c,h1 d' e l r'⟩) λe B G g E C=>⟨v,B,g,o,h2 e B E C⟩
theorem S9{o G q : Expr}{fa fb fc : CE}{u c : Pos}(hu : X.A.units+60 < cL)(ho : SE X o fa)(ha : SE X G fb)(hb : SE X q fc)(C : dM o "setdefault" X.env (eval o X.env) = eval o X.env := by rfl)
  (J:((backTo c (starEach [G,q] X.env)).all (λx => !x.1)&&(nA c (i6 [] X.env)).all (λx=>x.1.isSome)&&decide ([G,q].length+([]:List g_).length+(if ([]:List g_).isEmpty then 0 else 1) < 30))=true:=by rfl)
  (B:(u.endLine == c.line)=true:=by rfl) (hs:starEach [G,q] X.env=(false,eval G X.env)::starEach [q] X.env:=by rfl) (hs2:starEach [q] X.env=(false,eval q X.env)::starEach [] X.env:=by rfl) (g:(backTo c (starEach [q] X.env)).any (·.1)=false:=by rfl):
  SE X (.Call (.Attribute o "setdefault" u) [G,q] [] c) (oD fa fb fc):=
 (XW vQ F.type_dict_setdefault (Uh hu) ho (rj ha (rj hb tX hs2) hs) C J B hs g).of λσ H Q h_=>h_.el λρ l st lr sr p=>⟨ρ,l,st,lr,sr,p.bnd.imp λd U ρ1 H1 x1 s1 p1 v rv=>by
  cases d with
  |dic n=>
   obtain⟨a,rfl,kk,h⟩:=rv.inv;obtain⟨b,I,e0,p2⟩:=aS.getDc (aS.bnd p1) s1;obtain⟨hb0,p3⟩:=aS.chk p2;cases (show b=true from hb0);obtain⟨es0,e3,r0⟩:=s1.ob n a _ h e0;refine⟨⟨a,es0,ρ1,I,rfl,e3,r0⟩,?_⟩;refine⟨ρ1,l,U,lr.mono x1,s1,(aS.bnd p3).imp λdy O ρ2 H2 x2 s2 p4 y ry=>⟨ρ2,l,O,(lr.mono x1).mono x2,s2,(aS.bnd p4).imp λdz L ρ3 H3 x3 Y p5 z rz=>?_⟩⟩
   show uN X (.ref a) [y,z] H3 Q;obtain⟨b,a4,e5,p6⟩:=aS.getDc (aS.bnd p5) Y;obtain⟨⟨hb5,hk,hl⟩,E⟩:=aS.chk p6;cases (show b=true from hb5);have h3:ρ3[n]?=some a:=by obtain⟨τ,e,_⟩:=(x2.trans x3).pre;rw[e];exact xV h
   refine⟨a,ρ3,L,n,a4,dy,dz,y,z,rfl,rfl,Y,h3,e5,ry.mono x3,hk,hl,rz,λd' e v' rv'=>?_,λe H' s4 x4=>?_⟩
   ·dsimp only at E;rw[e]at E;exact E.ret Y v' rv'
   ·dsimp only at E;rw[e]at E;have c:=aS.bnd E;unfold rM at c;rw[e5]at c;exact (c ρ3 _ x4 s4).ret s4 _ (rz.mono x4)
  |_=>exact p1.elim⟩
end
end MM
namespace MM
open PySem PyProof.Rows L2
section
open PySem.Builtin.Str
variable{prog:Program}{w:bD}{A:bz}{E:ab->am->Prop}{s:am}
end
abbrev CF:=Str->Loc->M D
end MM
namespace MM
noncomputable def sv(m:Nat):List Nat:=(bU 4).filter λi=>m.testBit i
noncomputable def lb(m:Nat)(vs:List Nat):Nat:=vs.foldl (λm v=>m ||| 1 <<< v) m
noncomputable def mS:List D->Option (List Nat)
 |[]=>some []
 | .int i::ds=>if 0<=i/\i < 4 then (mS ds).map (i.toNat::·) else none
 |_=>none
open PySem PySem.W PyProof.Rows L2
def tb(led:Bool)(m:Nat):SetTable:=⟨7,(sv m).toArray,#[],0,led,0,true⟩
theorem sx:∀led:Bool,∀m:Nat,m < 16->∀v:Nat,v < 4->m.testBit v=false->(tb led m).freeSlot (v:Int)=some (v,false):=by nofun
theorem S0:∀led:Bool,∀m:Nat,m < 16->∀v:Nat,v < 4->m.testBit v=false->(tb led m).put v=(tb led (m ||| 1 <<< v),dE (tb led m).place v)/\(sv (m ||| 1 <<< v))=(sv m).take (dE (tb led m).place v)++v::(sv m).drop (dE (tb led m).place v)/\(m ||| 1 <<< v) < 16:=by nofun
theorem Ah:∀led:Bool,∀m:Nat,m < 16->(tb led m).fits (sv m).length=true/\(tb led m).tooFull=false/\(sv m).length<=4:=by nofun
theorem NU:∀m:Nat,m < 16->∀v:Nat,v < 4->(m.testBit v=true↔v∈sv m):=by nofun
theorem Q2:∀m:Nat,m < 16->∀v∈sv m,v < 4:=by nofun
theorem QP:∀m:Nat,m < 16->∀v:Nat,v < 4->m.testBit v=true->m ||| 1 <<< v=m:=by nofun
theorem XM(led:Bool):SetTable.fresh 0 0 led=tb led 0:=by cases led<;>rfl
noncomputable def xB(e:Int×ab)(v:Nat):Prop:=e.1=(v:Int)/\∃t,e.2=.int v t
def so(led:Bool)(h:bw)(a:ak)(m:Nat):Prop:=∃o c ep,h.get? a=some o/\o.ExactSet/\o.data=.set c ep (tb led m)/\cW xB c.toList (sv m)
theorem cW.memL{α β:Type}{F:α->β->Prop}:∀{l₁:List α}{l₂:List β},cW F l₁ l₂->∀a∈l₁,∃b∈l₂,F a b
 |_,_,.nil,a,h=>by cases h
 |_,_,.cons r t,a,h=>by
  rcases aI.mp h with e|e
  ·subst e;exact⟨_,by simp,r⟩
  ·obtain⟨b,c,q⟩:=cW.memL t a e;exact⟨b,by simp[c],q⟩
theorem cW.memR{α β:Type}{F:α->β->Prop}:∀{l₁:List α}{l₂:List β},cW F l₁ l₂->∀b∈l₂,∃a∈l₁,F a b
 |_,_,.nil,a,h=>by cases h
 |_,_,.cons r t,a,h=>by
  rcases aI.mp h with e|e
  ·subst e;exact⟨_,by simp,r⟩
  ·obtain⟨b,c,q⟩:=cW.memR t a e;exact⟨b,by simp[c],q⟩
theorem cW.ins{α β:Type}{F:α->β->Prop}{a:α}{b:β}(r:F a b):∀{l₁:List α}{l₂:List β}(p:Nat),cW F l₁ l₂->cW F (l₁.take p++a::l₁.drop p) (l₂.take p++b::l₂.drop p)
 |_,_,0,t=>.cons r t
 |_,_,p+1,.nil=>.cons r .nil
 |_,_,p+1,.cons q t=>.cons q (cW.ins r p t)
theorem LO{v:Nat}(h:v < 4):t5 (v:Int)=v:=by
 match v,h with
 |0,_=>rfl
 |1,_=>rfl
 |2,_=>rfl
 |3,_=>rfl
section
variable{prog:Program}{w:bD}{A:bz}{E:ab->am->Prop}{s:am}{a:ak}{led:Bool}{m v:Nat}
theorem Td{c:List (Int×ab)}{vs:List Nat}(hv:∀v∈vs,v < 4)(h:cW xB c vs):ElemsOf (iA prog w) c:=λe o=>by
 obtain⟨v,l,q,t,g⟩:=cW.memL h e o;refine⟨⟨(v:Int),?_,?_⟩,by rw[g];rfl⟩
 ·rw[g];exact beq_self_eq_true (v:Int)
 ·rw[q];exact (LO (hv v l)).symm
theorem O2{k:Int}{e:Int×ab}{v:Nat}(h:xB e v):(iA prog w).is k e.2=decide (k=(v:Int)):=by
 obtain⟨_,t,g⟩:=h;rw[g];refine (show _=((v:Int) == k) from rfl).trans ?_;by_cases z:k=(v:Int)
 ·subst z;simp
 ·have c:¬ (v:Int)=k:=λq=>z q.symm;rw[aP z];exact beq_eq_false_iff_ne.mpr c
theorem XG{tk:Tok}{Q:Bool->am->Prop}(l:m < 16)(hv:v < 4)(x:so led s.heap a m)
  (q:∀h' b,so led h' a (m ||| 1 <<< v)->c7 a s.heap h'->Q b { s with heap:=h',toks:=s.toks+1 }):aF (aW prog w) A (setAdd a (.int v tk)) Q E s:=by
 obtain⟨o,h,ep,g,c,C,pr⟩:=x;have H:=pr.length;obtain⟨f1,f2,f3⟩:=Ah led m l;have O:(tb led m).fits h.size=true:=by rw[<- bK,H];exact f1
 have hz:h.size<=4:=by rw[<- bK,H];exact f3
 have el:ElemsOf (iA prog w) h.toList:=Td (Q2 m l) pr;unfold setAdd;refine bZ (aa (sI ?_));unfold setAddHashed;refine bZ ?_;rw[setAddHashedIn.eq_def];dsimp only;refine aa (fk (s:={ s with toks:=s.toks+1 }) g C O ?_);dsimp only;rw[aJ (byScan_of (knd:=iA prog w) rfl (pv hz (by decide)) el)];refine aa ?_;unfold setAddByScan;refine aa (gM (aa ?_));unfold setScan;refine wpAny_setScanFrom_of (s:={ s with toks:=s.toks+1 }) (knd:=iA prog w) (k:=(v:Int)) (x:=.int v tk) (beq_self_eq_true (v:Int)) g C O h.toList 0 el ?_;by_cases G:m.testBit v=true
 ·obtain⟨e,I,J⟩:=cW.memR pr v ((NU m l v hv).mp G);have u:(Ck (λe=>(iA prog w).is (v:Int) e.snd) h.toList).isSome=true:=by rw[List.findIdx?_isSome,fv];exact⟨e,I,by rw[O2 J];simp⟩
  obtain⟨j,B⟩:=dH.mp u;rw[B];dsimp only;refine ai (ai ?_);have E:=QP m l v hv G;exact q s.heap false (by rw[E];exact⟨o,h,ep,g,c,C,pr⟩) ⟨rfl,λ_ _=>rfl⟩
 ·have B:m.testBit v=false:=by simpa using G
  have hn:Ck (λe=>(iA prog w).is (v:Int) e.snd) h.toList=none:=by
   rw[List.findIdx?_eq_none_iff];intro e I;obtain⟨u,hu,J⟩:=cW.memL pr e I;rw[O2 J];apply aP;intro z;have:v=u:=by ext
   subst this;exact G ((NU m l v hv).mpr hu)
  rw[hn];dsimp only;obtain⟨O,L,E⟩:=S0 led m l v hv B;have sz:(gu h (dE (tb led m).place v) (((v:Int),d6 v tk))).toList.length=(sv (m ||| 1 <<< v)).length:=by rw[qZ,L];simp[H]
  obtain⟨f4,f5,f6⟩:=Ah led _ E;have U:(tb led (m ||| 1 <<< v)).fits (gu h (dE (tb led m).place v) (((v:Int),d6 v tk))).size=true:=by rw[<- bK,sz];exact f4
  have Q:layNew (tb led m) h (t5 (v:Int)) (.int v tk)=(gu h (dE (tb led m).place v) ((v:Int),.int v tk),tb led (m ||| 1 <<< v),false,false):=by unfold layNew;rw[LO hv,sx led m l v hv B];dsimp only;rw[O];dsimp only;unfold SetTable.orStandIn;rw[aJ U,U];rfl
  show aF _ _ (match layNew (tb led m) h (t5 (v:Int)) (.int v tk) with|(h,t,wasDummy,gave)=>_) _ _ _;rw[Q];dsimp only;refine aa ?_
  show aF _ _ (pure ()) _ _ _;refine ai ?_;rw[aJ (show (tb led (m ||| 1 <<< v)).plain=true from rfl),hashByValue_scannable 8 (x:=.int v tk) rfl];refine aa (ai ?_);rw[aJ (show plainKind (.int v tk)=true from rfl)];have Y:(gu h (dE (tb led m).place v) (((v:Int),d6 v tk))).size<=sizeLine:=by rw[<- bK,sz];exact cF f6 (by decide)
  refine aa (wpAny_storeSet_of (s:={ s with toks:=s.toks+1 }) g C ?_ Y);rw[f5,aG (by decide)];refine ai (ai ?_);have up:(s.heap.update a (Obj.putSet (gu h (dE (tb led m).place v) (((v:Int),d6 v tk))) (tb led (m ||| 1 <<< v)))).get? a=some { cls:=o.cls,dict:=o.dict,data:=.set (gu h (dE (tb led m).place v) (((v:Int),d6 v tk))) (ep+1) (tb led (m ||| 1 <<< v)),slots:=o.slots }:=by obtain⟨oc,od,oo,os⟩:=o;cases C;exact bG _ g rfl
  refine q _ _ ⟨_,_,_,up,c,rfl,?_⟩ (bx ..);rw[qZ,L];exact cW.ins ⟨rfl,tk,rfl⟩ _ pr
theorem OH:∀m:Nat,m < 16->∀v:Nat,v < 4->m ||| 1 <<< v < 16:=by nofun
theorem so.keep{h h':bw}(x:so led h a m)(k:∀o,h.get? a=some o->h'.get? a=some o):so led h' a m:=by obtain⟨o,c,ep,g,r⟩:=x;exact⟨o,c,ep,k o g,r⟩
theorem Vp{S I l:ak}{items:Array ab}{ns:List Nat}{R:B9->am->Prop}(hh:A.handled=none)(G:S≠I)(Y:l≠S)(il:l≠I)
  (hi:∀(i:Nat)(x:ab),items[i]?=some x->∃(v:Nat)(t:Tok),x=d6 v t/\v < 4/\ns[i]?=some v) (hl:ns.length=items.size):
  ∀(k i:Nat)(s:am)(m:Nat),items.size-i=k->s.heap.IsListIter I l i->s.heap.IsList l items->so led s.heap S m->m < 16 ->
   (∀h' tk,so led h' S (lb m (ns.drop i))->(∀b o,b≠S->b≠I->s.heap.get? b=some o->h'.get? b=some o)->R (.ok (.ret .none)) { s with heap:=h',toks:=tk }) ->
   gK (aW prog w) A (.builtin "set.update.loop" ⟨[.ref S,.ref I],[]⟩) R s:=by
 intro k
 induction k with
 |zero=>
  intro i s m e z x y H q;refine eS uZ ?_;unfold Builtin.«set.update.loop»;dsimp only;refine aa (xG (by first|exact hh|simpa using hh) z x (by simp;ext) λh' L=>?_);dsimp only;refine ai (q h' _ ?_ λb o J B g=>L b o B g);rw[t_ (by ext)];exact y.keep λo g=>L S o G g
 |succ k ih=>
  intro i s m e z x y H q;have h:i < items.size:=by ext
  obtain⟨v,t,ex,hv,hn⟩:=hi i items[i] (dD h);refine eS uZ ?_;unfold Builtin.«set.update.loop»;dsimp only;refine aa (wZ z x (dD h) λh' O C=>?_);dsimp only;rw[ex];refine aa (bZ (XG (s:={ s with heap:=h' }) H hv (y.keep λo g=>by rw[C.2 S G];exact g) λB b U c=>?_));refine ai ⟨fC F.plain_set_update_loop _,ih (i+1) _ _ (by ext) (O.at λo g=>by rw[c.2 I (eM G)];exact g) ?_ U (OH m H v hv) λh3 tk Q E=>?_⟩
  ·obtain⟨o,g,r⟩:=x;exact⟨o,by show B.get? l=_;rw[c.2 l Y,C.2 l il];exact g,r⟩
  ·refine q h3 tk ?_ λb o J u g=>E b o J u ?_
   ·rw[cQ (by ext)];have:ns[i]'(by ext)=v:=by have:=aj (l:=ns) (i:=i) (by ext);rw[hn]at this;exact (aM this).symm
    rw[this];exact Q
   ·show B.get? b=_;rw[c.2 b J,C.2 b u];exact g
theorem RZ{b:ab}{Q₁:ab->am->Prop}
  (h:Q₁ (.ref s.heap.objs.size) { s with heap:=s.heap.push { cls:=.type "set",data:=.set #[] 0 (tb (!w.params.followText "set-order") 0) } }):
  gK (aW prog w) A (Code.call (.builtin "set.__new__") { pos:=[.type "set",b] }) (wants Q₁ E) s:=by
 refine zT F.plain_set_new F.entry_set_new ?_;rw[F.newCall_set_1];refine ai ?_;unfold Builtin.«set.__new__»;refine aa ?_;unfold Builtin.Frozenset.newClass;dsimp only;refine aa (ai ?_);rw[aG (by decide),xm];refine aa (ai ?_);rw[aG (by decide)];refine ai (aa ?_);unfold newSet uD;refine aa (aa (kU (ai ?_)));dsimp only;rw[XM];refine bM ?_ (by size_fits);exact ai h
theorem Wb{l:ak}{items:Array ab}{ns:List Nat}{Q:ab->am->Prop}(hh:A.handled=none)(x:s.heap.IsList l items)
  (O:∀(i:Nat)(x:ab),items[i]?=some x->∃(v:Nat)(t:Tok),x=d6 v t/\v < 4/\ns[i]?=some v) (L:ns.length=items.size)
  (q:∀h' tk,so (!w.params.followText "set-order") h' s.heap.objs.size (lb 0 ns)->(∀(b:Nat)(o:Obj),b < s.heap.objs.size->s.heap.get? b=some o->h'.get? b=some o)->Q (.ref s.heap.objs.size) { s with heap:=h',toks:=tk }):
  aF (aW prog w) A (call (.type "set") [.ref l]) Q E s:=by
 have B:=F.called_set;refine me (Hm ?_)
 show aF _ _ (pure (Fin.again _)) _ _ _;refine ai ⟨Code.quiet_builtin _ (by nofun),eS entry_typeCall ?_⟩;unfold Builtin.«type.__call__»;dsimp only;rw[aG (by rw[B.notType];decide),aG (by rw[B.canCreate];decide),F.typeCall_set_1];refine aa (ai ?_);rw[F.mro_set];refine aa (ai ?_);rw[aG (by decide),B.made];refine aa (ai ?_);dsimp only;refine aa (ai (aa (bZ (me (RZ (s:=s) ?_)))));have C:(s.heap.push { cls:=.type "set",data:=.set #[] 0 (tb (!w.params.followText "set-order") 0) }).get? s.heap.objs.size=some { cls:=.type "set",data:=.set #[] 0 (tb (!w.params.followText "set-order") 0) }:=aB _ rfl;have T:({ s with heap:=s.heap.push { cls:=.type "set",data:=.set #[] 0 (tb (!w.params.followText "set-order") 0) } }:am).TypeIs (.ref s.heap.objs.size) "set":=⟨_,C,rfl⟩
 refine aa (c9 T xm ?_);rw[aG (by decide)];refine aa (bZ (bN T B.init (me (zT (by nofun) F.entry_set_init (check_set_init_1 T ?_)))));unfold Builtin.«set.__init__»;refine aa ?_;unfold noKeywords;rw[aJ (show ({ pos:=[a_ s.heap.objs.size,a_ l] }:Args).kw.isEmpty=true from rfl)];refine ai ?_;dsimp only;refine aa ?_;unfold typeNameOfCut shownTypeOf;refine aa (aa (eJ T ?_));rw[aG (by decide)];refine ai ?_;unfold typeNameCut;dsimp only
 show aF _ _ (pure "set") _ _ _;refine ai (aa ?_)
 show aF _ _ (pure ()) _ _ _;refine ai (aa (ai (aa ?_)));unfold setUsed;refine aa (fk (s:={ s with heap:=s.heap.push { cls:=.type "set",data:=.set #[] 0 (tb (!w.params.followText "set-order") 0) } }) C rfl (by exact (Ah _ 0 (by decide)).1) (ai ?_));dsimp only;rw[aG (by cases w.params.followText "set-order"<;>decide)];refine aa ?_;unfold Builtin.Frozenset.updateFrom;have G:({ s with heap:=s.heap.push { cls:=.type "set",data:=.set #[] 0 (tb (!w.params.followText "set-order") 0) } }:am).TypeIs (.ref l) "list":=by obtain⟨o,g,c,_⟩:=x;exact⟨o,ah _ g,c⟩
 refine aa ?_;unfold Builtin.Frozenset.isAnySet orM;refine aa (c9 G F.sub_list_set ?_);dsimp only[toBool];refine c9 G F.sub_list_frozenset ?_;rw[aG (by decide)];refine aa (eJ G ?_);rw[aG (by decide)];have u:l < s.heap.objs.size:=by obtain⟨o,g,_⟩:=x;exact aD g
 have I:(s.heap.push { cls:=.type "set",data:=.set #[] 0 (tb (!w.params.followText "set-order") 0) }).IsList l items:=by obtain⟨o,g,r⟩:=x;exact⟨o,ah _ g,r⟩
 refine aa (fS (s:={ s with heap:=s.heap.push { cls:=.type "set",data:=.set #[] 0 (tb (!w.params.followText "set-order") 0) } }) I (aa (wpAny_runValue ?_)));have h:(s.heap.push { cls:=.type "set",data:=.set #[] 0 (tb (!w.params.followText "set-order") 0) }).objs.size=s.heap.objs.size+1:=by simp[bw.push]
 refine Vp (led := !w.params.followText "set-order") (ns:=ns) (by exact hh) (aR (by rw[h];exact ie _)) (aR u) (aR (by rw[h];exact gQ u)) O L _ 0 _ 0 rfl ⟨_,aB _ rfl,rfl,rfl⟩ ?_ ?_ (by decide) λh' tk y J=>?_
 ·obtain⟨o,g,r⟩:=I;exact⟨o,ah _ g,r⟩
 ·exact⟨_,_,_,ah _ C,⟨rfl,rfl,rfl⟩,rfl,.nil⟩
 ·refine ai (ai ?_);dsimp only;rw[aG (by decide)];exact ai (q h' tk y λb o H g=>J b o (aR H) (aR (by rw[h];exact gQ H)) (ah _ (ah _ g)))
end
theorem NH:entryFor table "set_iterator.__next__"=some Builtin.«set_iterator.__next__»:=entryFor_of_tree (by rfl)
theorem TZ:entryFor table "set.__iter__"=some Builtin.«frozenset.__iter__»:=entryFor_alias (id':="frozenset.__iter__") (by rfl) (by nofun) (by nofun) (by rfl)
theorem Ja:qO (oJ "set_iterator") (aq "__next__")=pure (some (sN "set_iterator.__next__")):=by rfl
theorem GB:Slot "set_iterator" (aq "__next__") "set_iterator.__next__":=Slot.of (owner:="set_iterator") (n:="__next__") Ja (by nofun) (by nofun) (by nofun) (Or.inl (by nofun)) (by rw[uB];rfl) (by nofun)
theorem MY(a:ab):argsOk "set_iterator.__next__" { pos:=[a] }:=by rfl
theorem Uw:qO (oJ "set_iterator") (aq "__iter__")=pure (some (sN "set_iterator.__iter__")):=by rfl
theorem MU:Slot "set_iterator" (aq "__iter__") "set_iterator.__iter__":=Slot.of (owner:="set_iterator") (n:="__iter__") Uw (by nofun) (by nofun) (by nofun) (Or.inl (by nofun)) (by rw[uB];rfl) (by nofun)
theorem Xq(a:ab):argsOk "set_iterator.__iter__" { pos:=[a] }:=by rfl
theorem RA:entryFor table "set_iterator.__iter__"=some Builtin.«dict_keyiterator.__iter__»:=entryFor_alias (id':="dict_keyiterator.__iter__") (by rfl) (by nofun) (by nofun) (by rfl)
theorem LC{α:Type}{next:Nat->Nat}:∀(n k:Nat)(xs:List α)(c:Array α),xs.length=n->(rJ next n k xs c).toList.Perm (c.toList++xs)
 |0,k,xs,c,h=>by unfold rJ;rw[qT h];simp
 |n+1,k,xs,c,h=>by
  unfold rJ;have g:next k % xs.length < xs.length:=Nat.mod_lt _ (by ext)
  rw[aj g];dsimp only;refine (LC n (k+1) _ _ (by rw[List.length_eraseIdx];split<;>ext)).trans ?_;rw[Array.toList_push,dG];refine List.Perm.append_left _ ?_;rw[List.singleton_append];rw[List.eraseIdx_eq_take_drop_succ];refine List.perm_middle.symm.trans ?_;rw[<- cQ g,uE]
theorem Rp{α:Type}{next:Nat->Nat}{xs:Array α}:(Gb next xs).toList.Perm xs.toList:=by unfold Gb;exact (LC xs.size 0 xs.toList #[] (by simp)).trans (by simp)
noncomputable def pM(w:bD)(a:ak)(c:Array (Int×ab))(ep:Nat):List (Int×ab):=if w.params.followText "set-order"=true then (Gb (w.params.setOrder a ep) c).toList else c.toList
def slotAt(b:Bool)(m i:Nat):Nat:=if b=true then 0 else match i with
 |0=>0
 |k+1=>(sv m).getD k 0+1
def l9(w:bD)(h:bw)(c a:ak)(m i ep:Nat):Prop:=∃o,h.get? c=some o/\o.cls=.type "set_iterator"/\o.data=.fields #[.int (slotAt (w.params.followText "set-order") m i) 0,.int i 0,.ref a,.int (sv m).length 0,.int ep 0]
def vy(led:Bool)(h:bw)(a:ak)(m:Nat)(c:Array (Int×ab))(ep:Nat):Prop:=∃o,h.get? a=some o/\o.ExactSet/\o.data=.set c ep (tb led m)/\cW xB c.toList (sv m)
theorem Th:∀m:Nat,m < 16->∀i:Nat,i<=4->i<=(sv m).length->dE (sv m).toArray (slotAt false m i)=i:=by nofun
section
variable{prog:Program}{w:bD}{A:bz}{E:ab->am->Prop}{s:am}{a it:ak}{led:Bool}{m i ep:Nat}{es:Array (Int×ab)}
theorem vy.keep{h h':bw}(x:vy led h a m es ep)(k:∀o,h.get? a=some o->h'.get? a=some o):vy led h' a m es ep:=by obtain⟨o,g,r⟩:=x;exact⟨o,k o g,r⟩
theorem vy.lt{h:bw}(x:vy led h a m es ep):a < h.objs.size:=by obtain⟨o,g,r⟩:=x;exact aD g
theorem vy.typeIs(x:vy led s.heap a m es ep):s.TypeIs (.ref a) "set":=by obtain⟨o,g,c,r⟩:=x;exact⟨o,g,c.1⟩
theorem l9.typeIs(z:l9 w s.heap it a m i ep):s.TypeIs (.ref it) "set_iterator":=by obtain⟨o,g,c,r⟩:=z;exact⟨o,g,c⟩
theorem Yl{Q:ab->am->Prop}(B:m < 16)(x:vy led s.heap a m es ep)
  (q:Q (.ref s.heap.objs.size) { s with heap:=s.heap.push { cls:=.type "set_iterator",data:=.fields #[.int (slotAt (w.params.followText "set-order") m 0) 0,.int 0 0,.ref a,.int (sv m).length 0,.int ep 0] } }):
  aF (aW prog w) A (um (.ref a)) Q E s:=by
 have T:=x.typeIs;obtain⟨o,g,c,h,pr⟩:=x;have u:=pr.length;obtain⟨C,H,f3⟩:=Ah led m B;have l:(tb led m).fits es.size=true:=by rw[<- bK,u];exact C
 have hz:es.size=(sv m).length:=by rw[<- bK,u]
 refine rG T C7 (bX C7 T TZ ?_ (F.args_set_iter_1 _));unfold Builtin.«frozenset.__iter__» Builtin.Frozenset.slot0;refine aa (aa ?_)
 show aF _ _ (pure (a_ a,[])) _ _ s;refine ai (ai (aa ?_));unfold Builtin.Frozenset.sizeOf Cn;refine aa (aa (fk g h l (ai (ai (aa ?_)))));unfold setDrawn uD;refine aa (fk g h l (aa (aa (kU (ai (ai ?_))))));dsimp only;rw[aG (by show ¬ ((!_&&(!true&&_))=true);simp)];refine aa (ai (aa (wpAny_setEpoch_of g h l ?_)));unfold newFields;refine aa (bM (ai ⟨_,rfl,"set_iterator",_,⟨_,aB _ rfl,rfl⟩,Ja,?_⟩));have G:∀b:Bool,slotAt b m 0=0:=λb=>by cases b<;>rfl
 rw[G]at q;rw[hz];simpa [eZ] using q
theorem L7{Q:Option (ab×Nat)->am->Prop}(B:m < 16)(J:i<=(sv m).length)(x:vy (!w.params.followText "set-order") s.heap a m es ep)
  (q:Q ((pM w a es ep)[i]?.map λe=>(e.2,slotAt (w.params.followText "set-order") m (i+1))) s):
  aF (aW prog w) A (setNext a (slotAt (w.params.followText "set-order") m i) i ep) Q E s:=by
 obtain⟨o,g,c,H,pr⟩:=x;have C:=pr.length;obtain⟨L,Y,f3⟩:=Ah (!w.params.followText "set-order") m B;have I:(tb (!w.params.followText "set-order") m).fits es.size=true:=by rw[<- bK,C];exact L
 have hz:es.size=(sv m).length:=by rw[<- bK,C]
 unfold setNext uD;refine aa (fk g H I (aa (aa (kU (ai ?_)))));dsimp only
 show aF _ _ (if w.params.followText "set-order"=true then _ else _) _ _ s;unfold pM at q;cases l:w.params.followText "set-order" with
 |true=>
  rw[l]at q;rw[aJ rfl,aG (by simp)];unfold setWalk uD;refine aa (aa (fk g H I (aa (aa (kU (ai ?_))))));dsimp only
  show aF _ _ (if w.params.followText "set-order"=true then _ else _) _ _ s;rw[l,aJ rfl];refine aa (kU (ai (ai ?_)));rw[aJ rfl]at q;rw[<- eK];exact q
 |false=>
  rw[l]at q l;rw[aG (by decide),aG (by show ¬ ((!true&&_)=true);simp)];refine aa ?_
  show aF _ _ (if (!(!false) && !es.isEmpty)=true then _ else _) _ _ s;rw[aG (by simp)];refine ai (ai ?_);have bl:=Th m B i (by ext) J;rw[aG (by decide)]at q
  show Q (match es[dE (sv m).toArray (slotAt false m i)]?,(sv m).toArray[dE (sv m).toArray (slotAt false m i)]? with
   |some (fst,x),some j=>some (x,j+1)
   |x,x_1=>none) s
  rw[bl];by_cases h:i < (sv m).length
  ·have G:i < es.size:=by ext
   have u:es.toList[i]?=some es[i]:=by rw[eK,dD G]
   have U:(sv m).toArray[i]?=some ((sv m)[i]):=by rw[np,aj h]
   have O:slotAt false m (i+1)=(sv m)[i]+1:=by show (sv m).getD i 0+1=_;rw[List.getD_eq_getElem?_getD,aj h];rfl
   rw[u,O]at q;rw[dD G,U];exact q
  ·have u:es.toList[i]?=none:=by rw[bH (by rw[bK];ext)]
   rw[u]at q;rw[tT (by ext)];exact q
theorem Iu:(pM w a es ep).Perm es.toList:=by
 unfold pM;split
 ·exact Rp
 ·exact List.Perm.refl _
theorem Lp(pr:cW xB es.toList (sv m)):(pM w a es ep).length=(sv m).length:=by rw[Iu.length_eq,pr.length]
theorem Rk{Q:Option ab->am->Prop}{e:Int×ab}(u:m < 16)(I:i<=(sv m).length)(ne:a≠it)(z:l9 w s.heap it a m i ep)(x:vy (!w.params.followText "set-order") s.heap a m es ep)(H:(pM w a es ep)[i]?=some e)
  (q:∀h',l9 w h' it a m (i+1) ep->c7 it s.heap h'->Q (some e.2) { s with heap:=h' }):aF (aW prog w) A (iL (.ref it)) Q E s:=by
 have T:=z.typeIs;obtain⟨o,g,c,h⟩:=id z;obtain⟨Y,J,cx,U,pr⟩:=id x;have B:=pr.length;obtain⟨O,f2,f3⟩:=Ah (!w.params.followText "set-order") m u;have L:(tb (!w.params.followText "set-order") m).fits es.size=true:=by rw[<- bK,B];exact O
 have hz:es.size=(sv m).length:=by rw[<- bK,B]
 unfold iL;refine aa (iS (bN (name:=aq "__next__") T GB (bX GB T NH ?_ (MY _))));unfold Builtin.«set_iterator.__next__»;refine aa ?_
 show aF _ _ (pure (a_ it,[])) _ _ s;refine ai ?_;dsimp only;refine aa (pq g h ?_);dsimp only;unfold Cn;refine aa (aa (fk J U L (ai ?_)));dsimp only;rw[aG (by rw[hz];simp)];refine aa ?_;have l:∀n:Nat,(n:Int).toNat=n:=λn=>bc n;rw[l,l,l];refine L7 u I x ?_;rw[H];dsimp only[df];refine aa (ir g h (by simp) ?_);have G:(s.heap.update it (oX (·.setIfInBounds 0 (eZ (slotAt (w.params.followText "set-order") m (i+1):Nat))))).get? it=some (oX (·.setIfInBounds 0 (eZ (slotAt (w.params.followText "set-order") m (i+1):Nat))) o):=bG _ g (kg (dq h _));refine aa (ir (s:={ s with heap:=_ }) G (dq h _) (by simp) ?_);refine ai ⟨_,rfl,ai ?_⟩;refine q _ ⟨_,bG _ G (kg (dq (dq h _) _)),?_,?_⟩ ?_
 ·exact (lU ..).trans ((lU ..).trans c)
 ·rw[dq (dq h _)];simp[eZ]
 ·exact⟨(bx _ it _).1.trans (bx _ it _).1,λb C=>((bx _ it _).2 b C).trans ((bx _ it _).2 b C)⟩
theorem PN{Q:Option ab->am->Prop}(hh:A.handled=none)(l:m < 16)(G:i<=(sv m).length)(z:l9 w s.heap it a m i ep)(x:vy (!w.params.followText "set-order") s.heap a m es ep)(C:(pM w a es ep)[i]?=none)
  (q:∀h',lP it s.heap h'->Q none { s with heap:=h' }):aF (aW prog w) A (iL (.ref it)) Q E s:=by
 have T:=z.typeIs;obtain⟨o,g,c,B⟩:=id z;obtain⟨O,H,Y,L,pr⟩:=id x;have u:=pr.length;obtain⟨J,U,f3⟩:=Ah (!w.params.followText "set-order") m l;have I:(tb (!w.params.followText "set-order") m).fits es.size=true:=by rw[<- bK,u];exact J
 have hz:es.size=(sv m).length:=by rw[<- bK,u]
 unfold iL;refine aa (iS (bN (name:=aq "__next__") T GB (bX GB T NH ?_ (MY _))));unfold Builtin.«set_iterator.__next__»;refine aa ?_
 show aF _ _ (pure (a_ it,[])) _ _ s;refine ai ?_;dsimp only;refine aa (pq g B ?_);dsimp only;unfold Cn;refine aa (aa (fk H L I (ai ?_)));dsimp only;rw[aG (by rw[hz];simp)];refine aa ?_;have h:∀n:Nat,(n:Int).toNat=n:=λn=>bc n;rw[h,h,h];refine L7 l G x ?_;rw[C];dsimp only[Option.map_none];refine aa (ir g B (by simp) ?_);refine aa ?_;simp only[Cg,newTuple];refine aa (bM ?_ (by size_fits));refine aa (m:=ku _ _) (mM (a:=cJ) (by first|rfl|(simp only[ku];rfl)) (bM ?_ (by size_fits)));simp only[raiseNew];refine aa (vO ?_);rw[show A.in1.handled=none from hh];refine aa (ai (zP ?_));refine aa (c9 (T:="StopIteration") (b:=true) ⟨_,aB _ rfl,rfl⟩ pk ?_);exact ai (q _ (((bx ..).extBut.push _).push _))
theorem Tl{Q:ab->am->Prop}(z:l9 w s.heap it a m i ep)(q:Q (.ref it) s):aF (aW prog w) A (um (.ref it)) Q E s:=by
 have T:=z.typeIs;refine rG T MU (bX MU T RA ?_ (Xq _));unfold Builtin.«dict_keyiterator.__iter__»;refine aa ?_
 show aF _ _ (pure (a_ it,[])) _ _ s;refine ai (ai ⟨_,rfl,"set_iterator",_,T,Ja,q⟩)
theorem SY{Q:Bool->am->Prop}(T:s.TypeIs (.ref a) "set")(q:Q false s):aF (aW prog w) A (f_ (.ref a)) Q E s:=by unfold f_;refine aa (gX T F.slot_set_len.lookup ?_);dsimp only;rw[show splitId "set.__len__"=some ("set","__len__") from by nofun];dsimp only;refine aa (c9 T xm ?_);rw[aG (by decide)];rw[aJ (by nofun)];refine aa (eJ T ?_);exact ai q
theorem PP(hh:A.handled=none)(I a:ak)(ne:a≠I)(B:m < 16)(es:Array (Int×ab))(ep:Nat)(pr:cW xB es.toList (sv m)):
  Walks prog w A I [I,a] [I] (sv m).length (λi v=>∃e,(pM w a es ep)[i]?=some e/\v=e.2) (λi h=>i<=(sv m).length/\l9 w h I a m i ep/\vy (!w.params.followText "set-order") h a m es ep) where
 sub:=λb c=>by simp at c;simp[c]
 frame:=λ_ _ _ z k=>⟨z.1,by obtain⟨o,g,r⟩:=z.2.1;exact⟨o,k I (by simp) o g,r⟩,z.2.2.keep λo e=>k a (by simp) o e⟩
 item:=λi s Q E C z q=>by
  have l:i < (pM w a es ep).length:=by rw[Lp pr];exact C
  refine Rk B z.1 ne z.2.1 z.2.2 (aj l) λh' G u=>?_;exact q _ h' s.toks ⟨_,aj l,rfl⟩ ⟨C,G,z.2.2.keep λo e=>u.extBut a o ne e⟩ λb o c e=>u.extBut b o (λh=>c (by simp[h])) e
 done:=λs Q E z q=>PN hh B z.1 z.2.1 z.2.2 (by rw[bH];rw[Lp pr];exact ax _) λh' H=>q h' s.toks λb o c e=>H b o (λh=>c (by simp[h])) e
 self:=λ_ _ _ _ z q=>Tl z.2.1 q
theorem Qk(c:m < 16)(pr:cW xB es.toList (sv m)):KdlSrc prog w "set" a a (sv m).length (λi v=>∃e,(pM w a es ep)[i]?=some e/\v=e.2) (λh=>vy (!w.params.followText "set-order") h a m es ep) where
 type:=λ_ x=>x.typeIs
 there:=λ_ x=>⟨x.lt,x.lt⟩
 keep:=λ_ _ x k=>x.keep λo e=>k a (.inl rfl) o e
 notList:=by decide
 notTuple:=by decide
 hint:=λ_ _ _ _ x q=>SY x.typeIs q
 iter:=λ_ _ hh x=>⟨_,_,(λ_ _ q=>Yl c x q),PP hh _ a (aR x.lt) c es ep pr,⟨bn _,⟨_,aB _ rfl,rfl,rfl⟩,x.keep λo e=>ah _ e⟩⟩
end
def vf(X:Cx)(a:ak)(m:Nat):HO:=.ext λh=>so (!X.w.params.followText "set-order") h a m
theorem ND:∀{ns:List Nat}{m:Nat},m < 16->(∀v∈ns,v < 4)->lb m ns < 16
 |[],m,hm,_=>hm
 |v::ns,m,hm,h=>ND (ns:=ns) (m:=m ||| 1 <<< v) (OH m hm v (h v (by simp))) λu hu=>h u (by simp[hu])
theorem Qp:∀m:Nat,m < 16->m≠0->(sv m).isEmpty=false:=by nofun
theorem Vq:∀m:Nat,m < 16->lks_asc ((sv m).map λv:Nat=>(v:Int))=true:=by nofun
theorem MH:∀{l:List (Int×ab)},(∀e∈l,∃v,xB e v)->lks_nums (l.map (·.2))=l.map (·.1)/\kf_ints (l.map (·.2))=true
 |[],_=>⟨rfl,rfl⟩
 |e::l,h=>by
  obtain⟨v,u,t,q⟩:=h e (by simp);obtain⟨o,g⟩:=MH (l:=l) λx c=>h x (by simp[c]);rw[aL,aL,q];refine⟨?_,?_⟩
  ·rw[lks_nums.eq_def];dsimp only;rw[o,u]
  ·rw[kf_ints.eq_def];exact g
theorem Ni:∀{l:List (Int×ab)}{vs:List Nat},cW xB l vs->l.map (·.1)=vs.map λv:Nat=>(v:Int)
 |_,_,.nil=>rfl
 |_,_,.cons r t=>by rw[aL,aL,Ni t,r.1]
theorem Oc:∀(vs:List Nat)(i:Nat)(t:Nat->Tok),L2.bQ (vs.map λv:Nat=>V.int v) (lks_vals (vs.map λv:Nat=>(v:Int)) i t)
 |[],_,_=>.nil
 |v::vs,i,t=>by rw[aL,aL,lks_vals.eq_2];exact .cons ⟨_,rfl⟩ (Oc vs (i+1) t)
section
variable{X:Cx}
theorem Qy(hc:X.calm=true):CallR X (.type "set") (λxs H Q=>∃(l:ak)(ns:List Nat),xs=[.ref l]/\g8 X.K H l (ns.map λv:Nat=>V.int v)/\(∀v∈ns,v < 4)/\∀q,H q=none->Q (.ref q) (fw H q (vf X q (lb 0 ns)))):=by
 intro G s σ H xs us Q I r h;obtain⟨l,ns,rfl,hq,h4,q⟩:=h;obtain⟨u,rfl,L⟩:=vv r;cases L;obtain⟨its,E,U,hz⟩:=I.list hq;have hl:=E.length;rw[af]at hl;refine Wb (ns:=ns) (I.ok.hd hc) U.isList (λi x B=>?_) (by simp;ext) λh' tk y Y=>?_
 ·rw[np]at B;have C:i < ns.length:=by have:=(ae.mp B).1;ext
  obtain⟨u,hu,O⟩:=E.get (i:=i) (x:=V.int ns[i]) (by rw[ao,aj C];rfl);rw[B]at hu;cases hu;obtain⟨t,c⟩:=O;exact⟨ns[i],t,c,h4 _ (b8 C),aj C⟩
 ·have c:∀(b:ak)(o:Obj),s.heap.get? b=some o->h'.get? b=some o:=λb o e=>Y b o (aD e) e;refine⟨.ref s.heap.objs.size,_,I.laid (t':=tk) c (ax _) (show eX X.prog X.w _ h' _ (vf X _ (lb 0 ns)) from ⟨y,?_,λl h J k=>J.keep k⟩),rfl,q _ (I.hok.fresh (ax _))⟩;obtain⟨o,u,ep,g,_⟩:=y;exact⟨o,g⟩
theorem Nr{K:ag}{ρ:List ak}{H:Hp}:∀{vs:List V}{ds:List D}{ns:List Nat},bA K ρ H vs ds->mS ds=some ns->vs=ns.map (λv:Nat=>V.int v)/\∀v∈ns,v < 4
 |_,_,ns,.nil,e=>by cases e;exact⟨rfl,λv hv=>by cases hv⟩
 |_,_,ns,.cons r t,e=>by
  cases r with
  |int i=>
   unfold mS at e;by_cases h:0<=i/\i < 4
   ·rw[aJ h]at e;cases c:mS _ with
    |none=>rw[c]at e;cases e
    |some ms=>
     rw[c]at e;cases e;obtain⟨l,g⟩:=Nr t c;refine⟨by rw[aL,<- l,k8 h.1],λv hv=>?_⟩;rcases aI.mp hv with z|z
     ·subst z;ext
     ·exact g v z
   ·rw[aG h]at e;cases e
  |_=>cases e
end
end MM
namespace MM
open PySem PySem.Spec PyProof.Rows L2
structure sw(x:Str):Prop where
 d:(x == ("__debug__":Str))=false
 c:(x == ("__classdict__":Str))=false
 n:x≠"__name__"
theorem QF{x:Str}(h:((x == ("__debug__":Str))||(x == ("__classdict__":Str))||decide (x=("__name__":Str)))=false):sw x:=by rw[nR,nR]at h;exact⟨h.1.1,h.1.2,of_decide_eq_false h.2⟩
structure Sc(X:Cx)(sc:cZ):Prop where
 vis:∀x k,sc.names.lookup x=some k->(k=.local\/k=.cell\/k=.free)->EA X.env.scope x
 cel:∀x,(sc.names.lookup x=some .cell\/sc.names.lookup x=some .free)->(X.env.kindOf x=some .cell\/X.env.kindOf x=some .free)
 glo:∀x,sc.names.lookup x=some .globalImplicit->Gl X x
 loc:∀x k,sc.names.lookup x=some k->(k=.local\/k=.cell)->L2.Loc X.env.scope x/\(X.fn x=true\/X.env.scope.names.lookup x=some .local)
 calm:X.calm=true
theorem NE{P:Program}{w:bD}{K:ag}{mg:Str->Option ab}{base:bw}{N:List Str}{qual:Str}{sc:cZ}{f:ak}{g:ab}{A:bz}{outer:List Env}{s:am}{H:Hp}{E:XK}:
  Sc (sH rQ P w K mg base N qual sc f g A outer s H E).nox sc where
 vis:=λx k h c=>by
  rcases c with z|z|z<;>subst z
  ·exact .inl h
  ·exact .inr (.inl h)
  ·exact .inr (.inr h)
 cel:=λx h=>h
 glo:=λx h=>h
 loc:=λx k h c=>⟨by rcases c with z|z<;>subst z;exact .inl h;exact .inr h,.inl rfl⟩
 calm:=rfl
theorem YK{X:Cx}{N:List Str}{scope:cZ}{o:List ak}{s:am}{H:Hp}(l:X.calm=true):Sc (oq X N scope o s H) scope where
 vis:=λx k h g=>by
  show (iW scope X.env).names.lookup x=_\/(iW scope X.env).names.lookup x=_\/(iW scope X.env).names.lookup x=_;rw[Cv,h,df];rcases g with z|z|z<;>subst z
  ·exact .inl rfl
  ·exact .inr (.inl rfl)
  ·by_cases c:(bE == bE&&X.env.scope.kind == .function&&X.env.kindOf x == some .cell)=true
   ·rw[aJ c];exact .inr (.inl rfl)
   ·rw[aG c];exact .inr (.inr rfl)
 cel:=λx h=>by
  show (iW scope X.env).names.lookup x=_\/(iW scope X.env).names.lookup x=_;rcases h with h|h<;>rw[Cv,h,df]
  ·exact .inl rfl
  ·by_cases c:(bE == bE&&X.env.scope.kind == .function&&X.env.kindOf x == some .cell)=true
   ·rw[aJ c];exact .inl rfl
   ·rw[aG c];exact .inr rfl
 glo:=λx h=>by show (iW scope X.env).names.lookup x=_;rw[Cv,h,df];rfl
 loc:=λx k h g=>by
  refine⟨?_,.inl ?_⟩
  ·show (iW scope X.env).names.lookup x=_\/(iW scope X.env).names.lookup x=_;rw[Cv,h,df];rcases g with z|z<;>subst z
   ·exact .inl rfl
   ·exact .inr rfl
  ·show decide (scope.names.lookup x=some .local\/scope.names.lookup x=some .cell)=true;rw[h];rcases g with z|z<;>subst z<;>decide
 calm:=l
noncomputable def sq(sc scope:cZ):Bool:=
 (scope.kind == .function)&&scope.names.all (λp=>p.2 != .local||scope.names.lookup p.1 == some .local) &&
 scope.names.all (λp=>p.2 != .free||((sc.names.lookup p.1 == some .cell||sc.names.lookup p.1 == some .free) && !scope.names.contains (p.1,.cell)&&scope.names.lookup p.1 != some .local))
theorem Mz{X:Cx}{sc scope:cZ}(S:Sc X sc)(h:sq sc scope=true):gT X scope:=by
 unfold sq at h;rw[bj,bj]at h;obtain⟨⟨G,o⟩,l⟩:=h;rw[cX]at o l;have fr:∀x,(x,bE)∈scope.names->(sc.names.lookup x=some .cell\/sc.names.lookup x=some .free)/\(x,fe)∉scope.names/\scope.names.lookup x≠some .local:=λx c=>by have q:=l _ c;simp only[bne_self_eq_false,lR,bj,iD,beq_iff_eq,xn,bne_iff_ne,ne_eq]at q;obtain⟨⟨B,g⟩,u⟩:=q;refine⟨B,λz=>?_,u⟩;have:scope.names.contains (x,fe)=true:=List.contains_iff_mem.mpr z;rw[this]at g;cases g
 refine⟨by simpa using G,λp C E=>?_,λx c=>S.cel x (fr x c).1,λx c=>(fr x c).2.1,λx c=>(fr x c).2.2⟩;have q:=o p C;rw[E]at q;simpa using q
noncomputable def qz(c:List Str)(scope:cZ)(N:List Str)(n:Nat)(ix:List Nat):Bool:=
 N.length == n+ix.length&&(bU ix.length).all λj=>match ix[j]?,N[n+j]? with
  |some i,some x=>c[i]? == some x&&scope.names.lookup x == some .free
  |_,_=>false
theorem NY{X:Cx}{g:List Str}{scope:cZ}{N:List Str}{n:Nat}{ix:List Nat}(o:X.N=g)(h:qz g scope N n ix=true):iY X scope N n ix:=by unfold qz at h;rw[bj,cX]at h;refine⟨by simpa using h.1,λj i x c l=>?_⟩;have q:=h.2 j (dk.mpr (ae.mp c).1);rw[c,l]at q;simp only[bj,beq_iff_eq]at q;rw[o];exact q
section
variable{X:Cx}{sc:cZ}{a b c e o tg:Expr}{es:List Expr}{pos p:Pos}{fa fb fc:CE}{ca cb:CA}{x:Str}{T id:String}
theorem J5(S:Sc X sc)(i:Nat)(l:X.N[i]?=some x){k:c5}(h:sc.names.lookup x=some k)(n:sw x)(g:k=.local\/k=.cell\/k=.free:=by decide):SE X (.Name x pos) (al i):=Rz i (VQ l (S.vis x k h g) n.d n.c)
theorem Sb(S:Sc X sc)(i:Nat)(l:X.N.Nodup)(q:X.N[i]?=some x){k:c5}(h:sc.names.lookup x=some k)(g:k=.local\/k=.cell:=by decide):SG X (.Name x pos) (aO i):=
 Sk (WU l q (S.loc x k h g).1 (S.loc x k h g).2)
theorem TC(S : Sc X sc)(i : Nat)(q : X.N.Nodup)(C : X.N[i]? = some x){k : c5}(h : sc.names.lookup x = some k){g : Pos}(B : SE X e fa)(l : k = .local \/ k = .cell := by decide)(u : i0 e (some (.Name x g)) pos.line X.env = pure false := by rfl):
  SS X (.Assign [.Name x g] e pos) (bB (aO i) fa):=WX q C (S.loc x k h l).1 B u (S.loc x k h l).2
theorem UO{n:Nat}(h:∀l st ds g,ca l st=.ok ds g->ds.length=n):∀l st ds g,ac fa ca l st=.ok ds g->ds.length=n+1:=λl st ds g e=>by
 unfold ac bnd at e;cases q:fa l st with
 |ok d s1=>
  rw[q]at e;dsimp only at e;cases u:ca l s1 with
  |ok es s2=>
   rw[u]at e;have:=h l s1 es s2 u;cases e;simp[this]
  |exc _ _=>rw[u]at e;cases e
  |bad=>rw[u]at e;cases e
 |exc _ _=>rw[q]at e;cases e
 |bad=>rw[q]at e;cases e
theorem Si:∀l st ds g,aH l st=.ok ds g->ds.length=0:=λl st ds g e=>by cases e;rfl
noncomputable def yN(K:ag)(h:cV)(ps:List Str):Prop:=∀(s:am)(g:List ab),g.length=ps.length->rC s h ⟨[],ps.zip g⟩ (ps.zip g)
theorem V8{k n:Nat}{f:ak}{B:cV}{ps:List Str}{g:List D->M D}(S:Sc X sc)(h:sc.names.lookup x=some .globalImplicit)(F:mC X.prog X.w X.K X.mg X.base rQ k f B ps (mT X.K n g))(E:im k X.A)(H:X.mg x=some (.ref f))
  (I:da X.K (.ref f)=true) (L:Binds X.K B ps []) (C:sw x) (O:SA X (e::es) ca) (G:∀l st ds q,ca l st=.ok ds q->ds.length=n)
  (J:starEach (e::es) X.env=(false,eval e X.env)::starEach es X.env:=by rfl) (u:(backTo pos (starEach es X.env)).any (·.1)=false:=by rfl):SE X (.Call (.Name x p) (e::es) [] pos) (bu g ca):=
 W8 F E (S.glo x h) H I L WS O G C.d J u
end
theorem Yj{k:Nat}{X:Cx}(h:im k X.A):X.A.units+60 < cL:=by have:=h.units;ext
theorem Ss{P:Program}{w:bD}{K:ag}{mg:Str->Option ab}{base:bw}{x qual:Str}{l:Stmt}{f:ak}{o:cV}{N ps:List Str}{k n m:Nat}{c:CS}(F:xE K x qual l f o)(S:l_ N ps (bv l))(q:ps.length=n)(u:N.length=m)
  (g:∀(h:ab)(A:bz)(outer:List Env)(s:am)(H:Hp)(E:XK),o.code=h->im k (A.deeper (n8 qual (bv l) s.heap.objs.size f h))->wO (sH rQ P w K mg base N qual (bv l) f h A outer s H E).nox (cH l) c):
  mC P w K mg base rQ (k+1) f o ps (mT K n (bJ m c)):=by
 subst q u;exact Q8 F S g
theorem MD{K:ag}{ρ:List ak}{H:Hp}:∀(ns:List Int),bA K ρ H (ns.map V.int) (ns.map D.int)
 |[]=>.nil
 |n::ns=>.cons (.int n) (MD ns)
@[elab_as_elim] theorem Bo{A:Type}{P:List A->Prop}(h:∀a,P [a])(c:List A)(g:c.length=1):P c:=by
 cases c with
 |nil=>cases g
 |cons a t=>cases t with
  |nil=>exact h a
  |cons b u=>simp at g
@[elab_as_elim] theorem CN{A:Type}{P:List A->Prop}(h:∀o l,P [o,l])(c:List A)(g:c.length=2):P c:=by
 cases c with
 |nil=>cases g
 |cons a t=>exact Bo (P:=λt=>P (a::t)) (h a) t (kA g)
@[elab_as_elim] theorem G1{A:Type}{P:List A->Prop}(h:∀q o l,P [q,o,l])(c:List A)(g:c.length=3):P c:=by
 cases c with
 |nil=>cases g
 |cons a t=>exact CN (P:=λt=>P (a::t)) (h a) t (kA g)
@[elab_as_elim] theorem O4{A:Type}{P:List A->Prop}(h:∀u q o l,P [u,q,o,l])(c:List A)(g:c.length=4):P c:=by
 cases c with
 |nil=>cases g
 |cons a t=>exact G1 (P:=λt=>P (a::t)) (h a) t (kA g)
@[elab_as_elim] theorem Tz{A:Type}{P:List A->Prop}(h:∀B u q o l,P [B,u,q,o,l])(c:List A)(g:c.length=5):P c:=by
 cases c with
 |nil=>cases g
 |cons a t=>exact O4 (P:=λt=>P (a::t)) (h a) t (kA g)
structure wa(K:ag)(x qual:Str)(st:Stmt)(f:ak)(fd:cV)(u:ab):Prop where
 ex:∃(oc:ab)(od:Option ak)(kV doc pm:ab)(an:Option ak)(cdv ct:ab)(osl:Array (Option ab))(T:ak)(o:Obj)(n:Nat),
  fd=b7 x qual (dL st) (cH st) (bv st) (.ref T) kV doc pm an cdv ct/\K.lookup f=some ⟨oc,od,.func fd,osl⟩/\fO K cdv qual=true/\K.lookup T=some o/\o.data=.seq #[u] n
 kp:da K (.ref f)=true
section
variable{P:Program}{w:bD}{K:ag}{mg:Str->Option ab}{base:bw}{x qual:Str}{st:Stmt}{f:ak}{fd:cV}{u:ab}{ps:List Str}
theorem wa.binds{ds:List ab}(F:wa K x qual st f fd u)
  (h:∀(T:ak)(kV c q:ab)(B:Option ak)(g ct:ab)(l:List ab),(l++ds).length=ps.length->∃k:Option (Array ab)->Sem (List (Str×ab)),io (b7 x qual (dL st) (cH st) (bv st) (.ref T) kV c q B g ct) ⟨l,[]⟩=iC (.ref T) >>= k/\k (some #[u])=pure (ps.zip (l++ds))):Binds K fd ps ds:=by
 obtain⟨Q,O,kV,c,q,B,g,ct,C,T,o,n,rfl,U,H,lt,E⟩:=F.ex;intro s l L G;obtain⟨k,J,I⟩:=h T kV c q B g ct l G;exact rC.of_defaults (T:=T) rfl (L T o lt) E J I
theorem Xj{G:ab}{E C:Option ak}{q:Array (Option ab)}{kV h B g ct:ab}{T:ak}{o:Obj}{n:Nat}(l:K.lookup f=some ⟨G,E,.func (b7 x qual (dL st) (cH st) (bv st) (.ref T) kV h B C g ct),q⟩)
  (c:fO K g qual=true) (k:da K (.ref f)=true) (lt:K.lookup T=some o) (H:o.data=.seq #[u] n):wa K x qual st f (b7 x qual (dL st) (cH st) (bv st) (.ref T) kV h B C g ct) u:=
 ⟨⟨G,E,kV,h,B,C,g,ct,q,T,o,n,rfl,l,c,lt,H⟩,k⟩
theorem S6{N:List Str}{k n m:Nat}{g:CS}(F:wa K x qual st f fd u)(S:l_ N ps (bv st))(hn:ps.length=n)(hm:N.length=m)
  (q:∀(c:ab)(A:bz)(outer:List Env)(s:am)(H:Hp)(E:XK),im k (A.deeper (n8 qual (bv st) s.heap.objs.size f c))->wO (sH rQ P w K mg base N qual (bv st) f c A outer s H E).nox (cH st) g):
  mC P w K mg base rQ (k+1) f fd ps (mT K n (bJ m g)):=by
 subst hn hm;obtain⟨oc,od,kV,doc,pm,an,c,ct,O,T,o,n,rfl,U,G,lt,ht⟩:=F.ex;refine MA U G S (λvs H Q E h=>h.1) λA outer s H vs Q E Y h=>⟨_,(q c A outer s H E Y).nox,?_⟩
 obtain⟨hl,ρ,st,ds,sr,C,p⟩:=h;refine⟨ρ,_,st,LR.start C,sr,?_⟩;unfold bJ at p;exact p.bnd.imp λf J ρ1 H1 x1 I B=>by
  cases f with
  |next l=>exact λσ' _=>B.ret I _ .non
  |ret d=>exact λv L=>B.ret I v L
  |brk l=>exact B.elim
  |cnt l=>exact B.elim
end
noncomputable def Kt(h h':bw):Prop:=∀c o,h.get? c=some o->o.cls=.type "tuple"->h'.get? c=some o
structure UF(prog:Program)(w:bD)(K:Type)[DecidableEq K] where
 is:bw->K->ak->Prop
 hash:K->Int
 draws:K->Nat
 keep:∀{h h':bw}{k:K}{b:ak},Kt h h'->is h k b->is h' k b
 hashes:∀{A:bz}{E:ab->am->Prop}{s:am}{k:K}{b:ak}{Q:Int->am->Prop},A.units+1 < cL->is s.heap k b->Q (hash k) { s with toks:=s.toks+draws k }->aF (aW prog w) A (pyHash (.ref b)) Q E s
 eqs:∀{A:bz}{E:ab->am->Prop}{s:am}{x y:K}{a b:ak}{Q:Bool->am->Prop},A.units+1 < cL->is s.heap x a->is s.heap y b->Q (decide (x=y)) s->aF (aW prog w) A (eqBool (.ref a) (.ref b)) Q E s
 quiet:∀{A:bz}{E:ab->am->Prop}{s:am}{k:K}{b:ak}{Q:Bool->am->Prop},is s.heap k b->Q true s->aF (aW prog w) A (pG 8 (.ref b)) Q E s
 cls:∀{A:bz}{E:ab->am->Prop}{s:am}{k:K}{b:ak}{Q:Bool->am->Prop},is s.heap k b->Q false s->aF (aW prog w) A (ofAClassStatement 8 (.ref b)) Q E s
 byv:∀{A:bz}{E:ab->am->Prop}{s:am}{k:K}{b:ak}{Q:Bool->am->Prop},is s.heap k b->Q true s->aF (aW prog w) A (hashByValue 8 (.ref b)) Q E s
section
variable{prog:Program}{w:bD}{K:Type}[DecidableEq K](T:UF prog w K)
variable{T}
variable{A:bz}{E:ab->am->Prop}{s:am}{a:ak}{led:Bool}{m:Nat}{key:Nat->K}{es:Array (Int×ab)}
end
section
variable{prog:Program}{w:bD}{A:bz}{E:ab->am->Prop}{s:am}
theorem items_int{k:List Int}{vs:List ab}(h:ItemsAre (iA prog w) k vs):∀v∈vs,∃i t,v=d6 i t:=by
 induction h with
 |nil=>simp
 |cons h1 h2 ih=>
  intro v hv;rcases aI.mp hv with z|z
  ·subst z;cases v with
   |int i t=>exact⟨i,t,rfl⟩
   |_=>exact nomatch h1
  ·exact ih v z
end
end MM
namespace MM
def lL(ds:List D):M D:=match mS ds with
 |some ns=>alloc (.lst ((sv (lb 0 ns)).map λv:Nat=>D.int v))
 |none=>bad
open PySem PySem.W PyProof.Rows L2
section
variable{prog:Program}{w:bD}{A:bz}{E:ab->am->Prop}{s:am}{h₀:bw}{L a:ak}{m:Str->Option ab}{e7:List (ak×Obj)}{vs:List ab}
theorem V4{n:Nat}{P:Hk->am->Prop}(B:s.heap.get? a=some (mn "list" vs.toArray n))(I:vs.length < 2)
  (h:∀h' c,(∀b o,b≠a->s.heap.get? b=some o->h'.get? b=some o)->h'.get? a=some (mn "list" vs.toArray c)->P (.done (.ret .none)) { s with heap:=h' }):aF (aW prog w) A (Builtin.«list.sort» ⟨[.ref a],[]⟩) P E s:=by
 have J:a < s.heap.objs.size:=aD B;obtain⟨u,l⟩:∃u,(s.heap.update a (fP λ_=>(#[]:Array ab))).get? a=some (mn "list" #[] u):=⟨_,Hn B λ_=>#[]⟩
 rw[list_sort_plain];refine aa (listItems_at B rfl ?_);refine aa (listUpdate_at B rfl ?_ (by rw[ay,i4];ext) (bn _));refine aa (seqEpoch_at l rfl ?_);refine aa (wpAny_newTuple ?_ (by show vs.length<=_;rw[i4];ext));refine aa (wpAny_newList ?_ (bn _));refine bZ ?_
 show aF (aW prog w) A _ P E { s with heap:=((s.heap.update a (fP λ_=>(#[]:Array ab))).push (mn "tuple" vs.toArray 0)).push (mn "list" #[] 0) };dsimp only;have q:vs.toArray.size < 2:=by rw[ay];exact I
 rw[aJ q,aJ q];refine aa (ai ?_);have C:(((s.heap.update a (fP λ_=>(#[]:Array ab))).push (mn "tuple" vs.toArray 0)).push (mn "list" #[] 0)).get? a=some (mn "list" #[] u):=ah _ (ah _ l);refine aa ?_
 show aF _ _ (pure ((),_)) _ _ _;refine ai ?_;dsimp only;have g:(arrOf (SortSt.mk' general' (vs.toArray.zip vs.toArray) #[] 7 none)).map (·.2)=vs.toArray:=by
  show (vs.toArray.zip vs.toArray).map (·.2)=_
  match vs,I with
  |[],_=>simp
  |[x],_=>simp
 rw[g];refine aa (seqEpoch_at C rfl ?_);refine aa (listUpdate_at C rfl ?_ (bn _) (by rw[ay,i4];ext))
 show aF _ _ (if (u != u)=true then _ else _) _ _ _;rw[aG (by simp)];obtain⟨c2,G⟩:∃c2,((((s.heap.update a (fP λ_=>(#[]:Array ab))).push (mn "tuple" vs.toArray 0)).push (mn "list" #[] 0)).update a (fP λ_=>vs.toArray)).get? a=some (mn "list" vs.toArray c2):=⟨_,Hn C λ_=>vs.toArray⟩
 refine ai (h _ c2 (λb o H e=>?_) G);rw[vR _ _ _ _ H];refine ah _ (ah _ ?_);rw[vR _ _ _ _ H];exact e
end
section
variable{X:Cx}
theorem N_{l:List (ak×Obj)}{σ:L2.St}{H:Hp}{s:am}(I:L2.Inv X l σ H s){m:Str->Option ab}(F:Fr X.base X.env.locals s.heap m){D:ak}{G:bw}{c tk:Nat}{vs:List V}{out:List ab}(F3:Fr X.base X.env.locals G m)
  (L:News X.base X.env.locals G ((D,mn "list" out.toArray c)::kE X.base s.heap X.env.locals)) (hD:∀q∈kE X.base s.heap X.env.locals,q.1 < D) (hv:L2.bQ vs out) (hsz:vs.length<=sizeLine):H D=none/\L2.Inv X l σ (fw H D (.lst vs)) { s with heap:=G,toks:=tk }:=by
 have Y:=(L _ (bO ..)).2.1;have U:=(L _ (bO ..)).2.2;have E:s.heap.get? D=none:=by
  cases z:s.heap.get? D with
  |none=>rfl
  |some o=>exact ba (hD _ (L8 Y U z)) (cy _)
 have g:H D=none:=by
  cases z:H D with
  |none=>rfl
  |some o=>
   obtain⟨ob,e⟩:=RE (I.hok D o z);rw[E]at e;cases e
 have N4:News X.base X.env.locals G (kE X.base s.heap X.env.locals):=λz hz=>L z (br _ hz);have hD3:=(L _ (bO ..)).1;have J:∀b o,b≠X.env.locals->s.heap.get? b=some o->G.get? b=some o:=λb o C e=>by
  cases z:X.base.get? b with
  |some u=>
   have:=F.keep b u z;rw[e]at this;cases this;exact F3.keep b _ z
  |none=>exact (N4 (b,o) (L8 C z e)).1
 have h:=I.free;refine⟨g,I.step (g':=s.gens) (d':=s.drawn) (t':=tk) (ch:=[]) (λb C=>by cases C) (λb o h1 _ _ e _=>J b o h1 e) (λb o h1 _ _ e _=>⟨o.slots,J b o h1 e⟩)
  (λb o _ e n1=>by rw[fM (λz=>by rw[z,E]at e;cases e)];exact n1)
  (λb o _ e=>by
   by_cases z:b=X.env.locals
   ·obtain⟨o',_,_,Q,_⟩:=F3.ns;exact⟨o',by rw[z];exact Q⟩
   ·exact⟨o,J b o z e⟩)
  (λb ys e=>by rw[fM (pc e g)];exact e) (λb o ys e=>by rw[fM (pc e g)];exact e) (λb ps e=>⟨#[],by rw[fM (pc e g),e];simp⟩)
  (λm' hm=>by rw[<- YD F.ns hm];exact F3.ns) ?_ I.bare⟩
 intro b o e;by_cases z:b=D
 ·subst z;rw[iP]at e;cases e;exact⟨hsz,_,c,hv,hD3⟩
 ·rw[fM z]at e;refine (I.hok b o e).stay (λc u C B=>J c u (λO=>?_) B) (λc B=>by rw[fM (pc B g)];exact B) (λc ys B=>by rw[fM (pc B g)];exact B);rcases C with y|y
  ·rw[y]at O;rw[O,h]at e;cases e
  ·rw[O,h]at y;cases y
theorem P7(hc:X.calm=true):CallR X (.builtin "sorted") (λxs H Q=>∃(a:ak)(m:Nat),xs=[.ref a]/\H a=some (vf X a m)/\m < 16/\∀q,H q=none->Q (.ref q) (fw H q (.lst ((sv m).map λv:Nat=>V.int v)))):=by
 intro a3 s σ H xs us Q I r h;obtain⟨a,g,rfl,hq,O,q⟩:=h;obtain⟨u,rfl,rx⟩:=vv r;cases rx;obtain⟨y,_,_⟩:=(show eX X.prog X.w H s.heap a (vf X a g) from I.hok a _ hq)
 obtain⟨oS,Y,ep,gS,cS,dS,pr⟩:=y;obtain⟨f1,f2,f3⟩:=Ah (!X.w.params.followText "set-order") g O;obtain⟨m,F⟩:=I.fr;have N:News X.base X.env.locals s.heap (kE X.base s.heap X.env.locals):=Xw;refine kdu_sorted (Qk (a:=a) (ep:=ep) O pr) (I.ok.hd hc) F N ⟨oS,gS,cS,dS,pr⟩ (cF f3 (by decide)) λD h' tk vs F' L U l hP=>?_;have ev:vs=(pM X.w a Y ep).map (·.2):=by
  apply e8;intro i;cases hx:vs[i]? with
  |none=>
   have:=sP.mp hx;rw[bH (by rw[af,Lp pr];ext)]
  |some v=>
   obtain⟨e,e1,e2⟩:=hP i v hx;rw[ao,e1,e2];rfl
 have enI:∀e∈pM X.w a Y ep,∃v,xB e v:=λe he=>by obtain⟨v,_,hv⟩:=cW.memL pr e (Iu.mem_iff.mp he);exact⟨v,hv⟩
 obtain⟨n1,n2⟩:=MH enI;rw[<- ev]at n1 n2;have pm:(lks_nums vs).isPerm ((sv g).map λv:Nat=>(v:Int))=true:=by rw[List.isPerm_iff,n1,<- Ni pr];exact Iu.map _
 have hsz:((sv g).map λv:Nat=>V.int v).length<=sizeLine:=by rw[af];exact cF f3 (by decide)
 have J:=(L _ (bO ..)).2.1;have G:=(L _ (bO ..)).2.2;by_cases h0:g=0
 ·subst h0;have B:vs=[]:=qT (by rw[l];rfl);subst B;have h:=(L _ (bO ..)).1;refine bX slot_list_sort ⟨_,h,rfl⟩ entry_list_sort (V4 (vs:=[]) h (by simp) λE c g hc=>?_) (args_list_sort _);have F3:Fr X.base X.env.locals E m:=by obtain⟨o,Y,ep,e1,e2⟩:=F'.ns;refine⟨⟨o,Y,ep,g _ o (eM J) e1,e2⟩,λb u z=>g b u (λH=>?_) (F'.keep b u z),F'.above⟩;subst H;exact ba (G.symm.trans z) nofun
  have N3:News X.base X.env.locals E ((D,mn "list" ([]:List ab).toArray c)::kE X.base s.heap X.env.locals):=λz hz=>by
   rcases aI.mp hz with e|e
   ·subst e;exact⟨hc,J,G⟩
   ·have:=L z (br _ e);exact⟨g _ _ (aR (U z e)) this.1,this.2⟩
  obtain⟨C,I3⟩:=N_ (tk:=tk) (vs:=[]) I F F3 N3 U .nil (bn _);exact⟨.none,rfl,.ref D,_,I3,rfl,q D C⟩
 have hne:vs.isEmpty=false:=by
  have z:=Qp g O h0;cases B:vs with
  |nil=>
   rw[B]at l;cases E:sv g with
   |nil=>rw[E]at z;cases z
   |cons _ _=>rw[E]at l;cases l
  |cons _ _=>rfl
 refine lks_sort (D:=D) (its:=vs.toArray) (n:=0) (q:=(sv g).map λv:Nat=>(v:Int)) F' L (λt=>Upd.head λz hz=>aR (U z hz)) n2 (by unfold lks_ok;rw[pm,Vq g O];rfl) hne (by show vs.length < 64;ext) λt h3 F3 N3=>?_;obtain⟨C,I3⟩:=N_ (tk:=tk) I F F3 N3 U (Oc (sv g) 0 t) hsz;exact⟨.ref D,_,I3,rfl,q D C⟩
end
end MM
namespace MM
def vF:D->D->M D:=sj λa b=>ret (.int (a+b))
def qy:D->M D
 | .ref n=>bnd (getL n) λds=>ret (.tup ds.reverse)
 |_=>bad
def qm(a b:CE):CE:=λl=>bnd (a l) λk=>bnd (b l) λv=>match k with
 | .int i=>su false (yT [] [(.int i,v)])
 |_=>bad
open PySem
noncomputable def mr:MO->Bool
 | .clo _ _=>true
 |_=>false
def mY(o:MO):MO:=if mr o=true then .ded else o
def eD(n:Nat)(s:aX):aX:=s.take n++(s.drop n).map mY
open Classical in
def callC(g:List D->M D)(c:FCode)(vs ds:List D):M D:=λs=>match g (ds++[.fn s.length]) (s++[.clo c vs]) with
 | .ok r s2=>if s.length < s2.length/\∀m:Nat,m < s.length->s2[m]?=s[m]?\/∃o:MO,s2[m]?=some o/\mr o=false then .ok r (eD s.length s2) else .bad
 |_=>.bad
noncomputable def oC(s:aX)(i:Nat)(o:MO):MO:=match s[i]? with
 |some (.clo c v)=>.clo c v
 |_=>o
open Classical in
def mR(g:List D->M D)(vs ds:List D):M D:=λs=>match g (ds++vs) (eD 0 s) with
 | .ok r s2=>if ∀(i:Nat)(o:MO),s[i]?=some o->mr o=true->s2[i]?=some MO.ded then .ok r (s2.mapIdx (oC s)) else .bad
 |_=>.bad
structure RK where
 n:Nat
 k:Nat
 g:List D->M D
open Classical in
def mV:List (FCode×RK)->FCode->List D->List D->M D
 |[],_,_=>λ_=>bad
 | (e,r)::l,x,vs=>if x=e then λds=>chk (ds.length=r.n) (mR r.g vs ds) else mV l x vs
def sy(l:Loc):List Nat->Option (List D)
 |[]=>some []
 |i::r=>match l[i]? with
  |some (some d)=>(sy l r).map (d::·)
  |_=>none
def lY(j:Nat)(x w:Str)(g:List D->M D)(c:FCode)(is:List Nat)(a:CA):CE:=λl=>bnd (a l) λds s=>match s[j]?,sy l is with
 |some (.tbl y u),some vs=>if y=x/\u=w then callC g c vs ds s else .bad
 |_,_=>.bad
structure RL where
 n:Nat
 k:Nat
 g:List D->M D
open Classical in
def rT:List (Expr×RL)->Expr->List D->M D
 |[],_=>λ_=>bad
 | (e,r)::l,x=>if x=e then λds=>chk (ds.length=r.n) (r.g ds) else rT l x
noncomputable abbrev WT:=List (Expr×RL)×List (FCode×RK)
def pD(W:WT)(d:D)(ds:List D):M D:=λs=>match d with
 | .fn n=>match s[n]? with
  |some (.lam e)=>rT W.1 e ds s
  |some (.clo c vs)=>mV W.2 c vs ds s
  |_=>.bad
 |_=>.bad
def qw(W:WT)(a:CE)(r:CA):CE:=λl=>bnd (a l) λd=>bnd (r l) λds=>pD W d ds
noncomputable def mU(m:Nat)(f:CE)(ds:List D):M D:=f (ds.map some++az (m-ds.length) none)
open PySem.Spec PyProof.Rows L2
def wm(H:Hp)(P:ak)(q:Str):Prop:=∃tb,H P=some (.tbl tb)/\nF tb.toList/\∀p v,kR p tb.toList=some v->∃c,v=.ref c/\oG H c q
noncomputable def BMod(base:bw)(mg:Str->Option ab):Prop:=∃g c,mg "__builtins__"=some (.ref g)/\g≠md/\base.get? g=some c/\c.cls=.type "module"/\c.dict=some md/\c.data=.plain
theorem Sv{l m:Nat}{c:ab}:∀(xs:List ab),nF xs->nF (xs++[eZ l,eZ m,c])/\∀p v,kR p (xs++[eZ l,eZ m,c])=some v->kR p xs=some v\/v=c:=by
 intro xs h
 fun_induction nF xs with
 |case1=>
  refine⟨trivial,λp v z=>?_⟩;have g:(if ((l:Int) == p.line&&(m:Int) == p.col)=true then some c else none)=some v:=z;split at g
  ·exact .inr (aM g).symm
  ·cases g
 |case2 a t b u x rest ih=>
  obtain⟨q,o⟩:=ih h;refine⟨q,λp v z=>?_⟩;have g:(if (a == p.line&&b == p.col)=true then some x else kR p (rest++[eZ l,eZ m,c]))=some v:=z
  show (if (a == p.line&&b == p.col)=true then some x else kR p rest)=some v\/v=c;split at g
  ·rename_i w;rw[aJ w];exact .inl g
  ·rename_i w;rw[aG w];exact o p v g
 |case3=>exact h.elim
section
variable{X:Cx}
structure AV(H H':Hp)(P:ak)(q:Str)(a c:ak)(ob:Obj):Prop where
 fresh:H a=none
 fn:H' a=some (.frz ob (.own a))
 cod:oG H' c q
 tab:wm H' P q
 keep:∀b o,b≠P->H b=some o->H' b=some o
theorem Px{a3:List (ak×Obj)}{σ:St}{H:Hp}{s:am}{P:ak}{q:Str}{pos:Pos}{fobj:ab->ab->ab->Obj}{Wp:(ab->am->Prop)->Prop}{Q:ab->am->Prop}(I:Inv X a3 σ H s)(hT:wm H P q)(G:∀a b c,(fobj a b c).isFreed=false)
  (hit:∀tb cv Q,s.heap.get? P=some (dU tb)->nF tb.toList->kR pos tb.toList=some cv->(∀(C B:ab)(h':bw)tk,(∀b o,s.heap.get? b=some o->h'.get? b=some o)->s.heap.objs.size<=h'.objs.size->Q (.ref h'.objs.size) { s with heap:=h'.push (fobj cv C B),toks:=tk })->Wp Q)
  (new:∀tb Q,s.heap.get? P=some (dU tb)->nF tb.toList->kR pos tb.toList=none->(∀(h:ak)(C B:ab)(h':bw)tk,lP P s.heap h'->s.heap.objs.size<=h->h < h'.objs.size->h'.CodeRec (.ref h) q->h'.get? P=some (dU (tb++#[eZ pos.line,eZ pos.col,.ref h]))->Q (.ref h'.objs.size) { s with heap:=h'.push (fobj (.ref h) C B),toks:=tk })->Wp Q)
  (hQ:∀(a c:ak)(C B:ab)L s',AV H L P q a c (fobj (.ref c) C B)->Inv X a3 σ L s'->Q (.ref a) s'):Wp Q:=by
 obtain⟨tb,hP,ht,hco⟩:=hT;have hPo:s.heap.get? P=some (dU tb):=I.hok P _ hP;cases hf:kR pos tb.toList with
 |some cv=>
  obtain⟨h,rfl,hcr⟩:=hco _ _ hf;refine hit tb _ Q hPo ht hf λC B h' tk hk hsz=>?_;have E:H h'.objs.size=none:=I.hok.fresh hsz;refine hQ _ h C B (fw H h'.objs.size (.frz _ (.own h'.objs.size))) _ ⟨E,iP,?_,?_,λb o _ e=>?_⟩ (I.laid (t':=tk) (λb u e=>ah _ (hk b u e)) hsz ⟨aB _ (G _ _ _),_,aB _ (G _ _ _)⟩)
  ·obtain⟨O,vs,t,e,r⟩:=hcr;exact⟨O,vs,t,by rw[fM (pc e E)];exact e,r⟩
  ·refine⟨tb,by rw[fM (pc hP E)];exact hP,ht,λp v z=>?_⟩;obtain⟨c2,e2,O,vs,t,e,r⟩:=hco p v z;exact⟨c2,e2,O,vs,t,by rw[fM (pc e E)];exact e,r⟩
  ·rw[fM (pc e E)];exact e
 |none=>
  refine new tb Q hPo ht hf λh C B h' tk hx hge hlt hrec htb=>?_;obtain⟨c2,O,vs,t,e2,hoc,hdc,hv⟩:=hrec;cases e2;have hsz:s.heap.objs.size<=h'.objs.size:=gp (pv hge hlt);have E:H h'.objs.size=none:=I.hok.fresh hsz;have hfc:H h=none:=I.hok.fresh hge;have hcf:h≠h'.objs.size:=aR hlt;have G:=G (.ref h) C B;generalize hfo:fobj (.ref h) C B=fo at G;generalize htb':tb++#[eZ pos.line,eZ pos.col,.ref h]=U at htb;have ePc:P≠h:=pc hP hfc;have ePa:P≠h'.objs.size:=pc hP E;obtain⟨L,eH⟩:∃L,L=fw (fw (fw H P (.tbl U)) h (.frz O (.frz O (.own h)))) h'.objs.size (.frz fo (.own h'.objs.size)):=⟨_,rfl⟩
  have eP:L P=some (.tbl U):=by rw[eH,fM ePa,fM ePc,iP]
  have eC:L h=some (.frz O (.frz O (.own h))):=by rw[eH,fM hcf,iP]
  have eA:L h'.objs.size=some (.frz fo (.own h'.objs.size)):=by rw[eH,iP]
  have eO:∀b,b≠P->b≠h->b≠h'.objs.size->L b=H b:=λb h1 h2 h3=>by rw[eH,fM h3,fM h2,fM h1]
  have old:∀b o,b≠P->H b=some o->L b=some o:=λb o h1 e=>by rw[eO b h1 (pc e hfc) (pc e E)];exact e
  have kp:∀b o,b≠P->s.heap.get? b=some o->(h'.push fo).get? b=some o:=λb o h1 e=>ah _ (hx b o h1 e);have Y:∀{b:ak},H b=none->b≠P:=λn z=>by rw[z,hP]at n;cases n
  have J:∀{b:ak}{u:HO},H b=some u->(∀ps,u≠.tbl ps)->b≠P:=λe n z=>by rw[z,hP]at e;exact n _ (aM e).symm
  have lt:∀b o,s.heap.get? b=some o->b≠h/\b≠h'.objs.size:=λb o e=>⟨aR (aZ (aD e) hge),aR (aZ (aD e) hsz)⟩
  have hok:mw X.prog X.w L (h'.push fo):=λb u e=>by
   by_cases h1:b=P
   ·subst h1;rw[eP]at e;cases e;exact ah _ htb
   by_cases h2:b=h
   ·subst h2;rw[eC]at e;cases e;exact⟨ah _ hoc,ah _ hoc,_,ah _ hoc⟩
   by_cases h3:b=h'.objs.size
   ·subst h3;rw[eA]at e;cases e;exact⟨aB _ G,_,aB _ G⟩
   rw[eO b h1 h2 h3]at e;refine (I.hok b u e).stay (λb' v hb' g=>kp b' v ?_ g) (λb' g=>old _ _ (J g λ_ z=>nomatch z) g) λb' xs g=>old _ _ (J g λ_ z=>nomatch z) g;rcases hb' with z|z
   ·rw[z];exact h1
   ·exact J z λ_ w=>nomatch w
  refine hQ _ h C B L _ ⟨E,by rw[hfo];exact eA,⟨O,vs,t,eC,hdc,hv⟩,?_,old⟩ (I.step (g':=s.gens) (d':=s.drawn) (t':=tk) (h':=h'.push fo) (ch:=[]) (λ_ z=>nomatch z) (λb o _ _ _ e n=>kp b o (Y n) e) (λb o _ _ _ e n=>⟨o.slots,kp b o (Y n) e⟩)
   (λb o _ e n=>by rw[eO b (Y n) (lt b o e).1 (lt b o e).2];exact n) (λb o _ e=>?_) (λb xs e=>old _ _ (J e λ_ z=>nomatch z) e) (λb o u e=>old _ _ (J e λ_ z=>nomatch z) e) (λb ps' e=>?_) (λm hn=>?_) hok I.bare)
  ·have el:U.toList=tb.toList++[eZ pos.line,eZ pos.col,.ref h]:=by rw[<- htb',Array.toList_append]
   obtain⟨B,u⟩:=Sv tb.toList ht (l:=pos.line) (m:=pos.col) (c:=.ref h);refine⟨U,eP,el ▸ B,λp v z=>?_⟩;rcases u p v (el ▸ z) with z|z
   ·obtain⟨c2,e2,o,g,q,e,r⟩:=hco p v z;exact⟨c2,e2,o,g,q,old _ _ (J e λ_ w=>nomatch w) e,r⟩
   ·exact⟨h,z,O,vs,t,eC,hdc,hv⟩
  ·by_cases z:b=P
   ·subst z;exact⟨_,ah _ htb⟩
   ·exact⟨o,kp b o z e⟩
  ·by_cases z:b=P
   ·subst z;rw[hP]at e;cases e;exact⟨_,by rw[eP,<- htb']⟩
   ·exact⟨#[],by rw[old _ _ z e];simp⟩
  ·exact (hn.extBut hx (Y I.free)).push _
theorem RQ{c:List (ak×Obj)}{σ:St}{H:Hp}{s:am}{P:ak}{tb:Array ab}(B:BMod X.base X.mg)(I:Inv X c σ H s)(u:H P=some (.tbl tb)):s.heap.BuiltinsAt X.mg P/\cq≠P:=by
 have h:∀b o,X.base.get? b=some o->b≠P:=λb o e z=>by have:=(I.bs b o e).2;rw[z,u]at this;cases this
 refine⟨?_,?_⟩
 ·obtain⟨L,q,J,G,g,E,C,l⟩:=B;refine⟨L,q,J,G,λz=>?_,h _ _ g,I.bk _ _ g,E,C,l⟩;obtain⟨o,_,_,e,d,_⟩:=I.mod.glob;rw[<- z,g]at e;cases e;rw[l]at d;cases d
 ·obtain⟨o,_,_,e,_⟩:=I.mod.glob;exact h _ o e
theorem X7{K:ag}{c a b:ak}(h:eL K c a=true)(h':eL K c b=true):a=b:=by
 unfold eL at h h';split at h
 ·rename_i vs _ l;rw[l]at h';simp only[bj]at h h';obtain⟨⟨⟨⟨⟨e,_⟩,_⟩,_⟩,_⟩,_⟩:=h;obtain⟨⟨⟨⟨⟨g,_⟩,_⟩,_⟩,_⟩,_⟩:=h';split at e
  ·rename_i o q;rw[q]at g;exact (beq_iff_eq.mp e).symm.trans (beq_iff_eq.mp g)
  ·cases e
 ·cases h
theorem TabOf.uniq{K:ag}{x:Str}{a b:ak}(h:TabOf K x a)(h':TabOf K x b):a=b:=by obtain⟨f,o,L,c,I,H,G,E,C⟩:=h;obtain⟨O,o',B,Q,u,q,l,g,J⟩:=h';rw[I]at u;cases u;rw[H]at q;cases q;rw[G]at l;cases l;rw[E]at g;cases g;exact X7 C J
def A0(X:Cx)(x:Str):Prop:=∃f o g c P,fE X.K cq x=some (some (.ref f))/\X.K.lookup f=some o/\o.data=.func g/\g.code=.ref c/\eL X.K c P=true/\X.env.code=.ref c/\X.env.qual=x++".<locals>."/\BMod X.base X.mg
theorem SW{K:ag}{ρ:List ak}{H c:Hp}{st:aX}{j:Nat}{P a:ak}{x w:Str}(sr:SR K ρ H st)(l:ρ[j]?=some P)(I:st[j]?=some (.tbl x w))(fr:H a=none)(h:wm c P (s_ x w))(keep:∀b o,b≠P->H b=some o->c b=some o):a∉ρ/\Ex ρ H (ρ++[a]) c/\SR K ρ c st:=by
 obtain⟨U,tb,G,t2,Y⟩:=sr.ob j P _ l I;obtain⟨g,E,O,L⟩:=h;have up:Up ρ H ρ c:=⟨⟨[],by simp⟩,λb o k e=>keep b o (λz=>by rw[z,G]at e;cases e;cases k) e,λb o e=>by
  by_cases z:b=P
  ·subst z;rw[G]at e;cases e;exact⟨_,E,rfl⟩
  ·exact⟨o,keep b o z e,rfl⟩⟩
 refine⟨sr.fresh fr,⟨⟨[a],rfl,λb J=>by rw[aC]at J;rw[J];exact fr⟩,up.fix,λb o Q e=>keep b o (λz=>Q (z ▸ av l)) e,up.knd⟩,⟨sr.len,sr.nd,λn b o C B=>?_⟩⟩;by_cases z:b=P
 ·subst z;have:n=j:=(lO (ae.mp C).1 sr.nd).mp (C.trans l.symm);subst this;rw[I]at B;cases B;exact⟨U,g,E,O,L⟩
 ·exact mB.mono (o:=o) up (sr.ob n b o C B) λu q=>keep b u z q
def Aa(P:Program)(w:bD)(K:ag)(mg:Str->Option ab)(base:bw)(k n:Nat)(e:Expr)(g:List D->M D):Prop:=
 ∀(ps:kP)(b:Expr)(sc:cZ)(pos:Pos)(q:Str)(c:ak)(l ct:ab),e=.Lambda ps b sc pos->∀(A:bz)(outer:List Env)(s:am)(H:Hp)(a:ak)(h:List ab)(vs:List V)(Q:VK),im k A->qh P w K mg base A outer s H ->
  H a=some (.frz (v5 "<lambda>" q ps b sc [] l c ct) (.own a))->oG H c q->bQ vs h->mT K n g vs H Q E0->gK (aW P w) A (.call (.ref a) ⟨h,[]⟩) (CR rQ outer P w H s Q E0) s
end
noncomputable def xt(b:ak)(u:HO):Prop:=∃o v,u=.frz o (.frz o (.own b))/\o.data=.cell v
structure mG(cs:List ak)(H H':Hp):Prop where
 old:∀b,b∉cs->H' b=H b
 non:∀b∈cs,H b=none
 new:∀b∈cs,∃u,H' b=some u/\xt b u
section
variable{cs:List ak}{K:ag}{ρ:List ak}{H H' H1:Hp}{st:aX}{a:ak}
theorem mG.le(F:mG cs H H'):∀b o,H b=some o->H' b=some o:=λb o e=>by rw[F.old b λz=>by rw[F.non b z]at e;cases e];exact e
theorem mG.not(F:mG cs H H'){b:ak}{o:HO}(e:H' b=some o)(n:¬ xt b o):H b=some o:=by rw[<- F.old b λz=>by obtain⟨u,c,h⟩:=F.new b z;rw[e]at c;cases c;exact n h];exact e
theorem Ph{b:ak}{vs:List V}:¬ xt b (.tup vs):=λc=>by obtain⟨_,_,z,_⟩:=c;exact nomatch z
theorem Pu{b:ak}{vs:List V}:¬ xt b (.lst vs):=λc=>by obtain⟨_,_,z,_⟩:=c;exact nomatch z
theorem Uc{b:ak}{o:Obj}{vs:List V}:¬ xt b (.frz o (.tup vs)):=λc=>by obtain⟨_,_,z,_⟩:=c;injection z with _ z;cases z
theorem Qc{b:ak}{o:Obj}{vs:List V}:¬ xt b (.frz o (.lst vs)):=λc=>by obtain⟨_,_,z,_⟩:=c;injection z with _ z;cases z
theorem Ct{b c:ak}{o:Obj}:¬ xt b (.frz o (.own c)):=λg=>by obtain⟨_,_,z,_⟩:=g;injection z with _ z;cases z
theorem UV{b:ak}{fs:List (Str×V)}:¬ xt b (.xd fs):=λc=>by obtain⟨_,_,z,_⟩:=c;exact nomatch z
theorem CJ{b:ak}{o:HO}(h:kO o≠3):¬ xt b o:=λc=>by obtain⟨_,_,z,_⟩:=c;exact h (by rw[z];rfl)
theorem Qx{b:ak}{o:Obj}{vs:Array ab}(h:o.data=.fields vs):¬ xt b (.frz o (.frz o (.own b))):=λc=>by obtain⟨_,_,z,d⟩:=c;injection z with z;subst z;rw[h]at d;cases d
mutual
theorem c_.letgo(F:mG cs H H'):∀{v:V}{d:D},c_ K ρ H' v d->c_ K ρ H v d
 |_,_,.non=>.non
 |_,_,.bl b=>.bl b
 |_,_,.int i=>.int i
 |_,_,.str y=>.str y
 |_, _, .tup h r => .tup (by
   rcases h with (h|⟨o,h⟩)|h
   ·exact .inl (.inl (F.not h Ph))
   ·exact .inl (.inr ⟨o,F.not h Uc⟩)
   ·exact .inr h) (bA.letgo F r)
 |_, _, .lit h r => .lit (by
   rcases h with ⟨o,h⟩|h
   ·exact .inl ⟨o,F.not h Qc⟩
   ·exact .inr h) (bA.letgo F r)
 |_,_,.ref ⟨o,ho,c⟩ h=>.ref ⟨o,F.not ho (CJ (by rw[c];decide)),c⟩ h
 |_,_,.dic ⟨o,ho,c⟩ h=>.dic ⟨o,F.not ho (CJ (by rcases c with c|c<;>rw[c]<;>decide)),c⟩ h
 |_,_,.exn0 g ⟨o,ho,hc⟩=>.exn0 g ⟨o,F.not ho Ct,hc⟩
 |_,_,.exn g ⟨o,ho,hc⟩ h2 r=>.exn g ⟨o,F.not ho Ct,hc⟩ (F.not h2 UV) (c_.letgo F r)
 |_,_,.fn h=>.fn h
theorem bA.letgo(F:mG cs H H'):∀{vs:List V}{ds:List D},bA K ρ H' vs ds->bA K ρ H vs ds
 |_,_,.nil=>.nil
 |_,_,.cons r t=>.cons (c_.letgo F r) (bA.letgo F t)
end
theorem oG.letgo{c:ak}{q:Str}(F:mG cs H H')(h:oG H' c q):oG H c q:=let ⟨oc,vs,t,e,d,r⟩:=h;⟨oc,vs,t,F.not e (Qx d),d,r⟩
theorem mB.letgo{o:MO}(F:mG cs H H')(n:mr o=false)(h:mB K ρ H' a o):mB K ρ H a o:=by
 cases o with
 |lam e=>
  obtain⟨ps,b,sc,p,q,c,E,ct,C,B,l⟩:=h;exact⟨ps,b,sc,p,q,c,E,ct,C,F.not B Ct,l.letgo F⟩
 |tbl y w=>
  obtain⟨t,ps,C,B,l⟩:=h;exact⟨t,ps,F.not C (CJ (by show (4:Nat)≠3;decide)),B,λp v z=>let ⟨c,a,b⟩:=l p v z;⟨c,a,b.letgo F⟩⟩
 |lst ds=>
  obtain⟨vs,q,r⟩:=h;exact⟨vs,F.not q Pu,r.letgo F⟩
 |dct b a4=>
  cases b with
  |false=>
   obtain⟨g,q,r⟩:=h;exact⟨g,F.not q (CJ (by show (1:Nat)≠3;decide)),cW.mapS r λp q z=>⟨z.1,z.2.letgo F⟩⟩
  |true=>
   obtain⟨g,q,r⟩:=h;exact⟨g,F.not q (CJ (by show (2:Nat)≠3;decide)),cW.mapS r λp q z=>⟨z.1,z.2.1.letgo F,z.2.2.letgo F⟩⟩
 |dcf a4=>
  obtain⟨g,q,r⟩:=h;exact⟨g,F.not q (CJ (by show (2:Nat)≠3;decide)),cW.mapS r λp q z=>⟨z.1,z.2.1.letgo F,z.2.2.letgo F⟩⟩
 |clo c vs=>cases n
 |ded=>obtain⟨u,e⟩:=h;exact⟨u,F.not e Ct⟩
theorem mG.hok{P:Program}{w:bD}{h:bw}(F:mG cs H H')(x:mw P w H' h):mw P w H h:=λb o e=>by
 have l:b∉cs:=λz=>by rw[F.non b z]at e;cases e
 exact (x b o (F.le b o e)).stay (λ_ _ _ q=>q) (λc z=>F.not z (λg=>by obtain⟨_,_,z,_⟩:=g;exact nomatch z)) λc xs z=>F.not z Ph
theorem mG.hok'{P:Program}{w:bD}{h:bw}(F:mG cs H H')(x:mw P w H h)(B:∀b∈cs,∀o u,H' b=some (.frz o u)->h.get? b=some o):mw P w H' h:=λb o e=>by
 by_cases g:b∈cs
 ·obtain⟨u,l,C,v,rfl,d⟩:=F.new b g;rw[e]at l;cases l;have:=B b g _ _ e;exact⟨this,this,_,this⟩
 ·rw[F.old b g]at e;exact (x b o e).stay (λ_ _ _ q=>q) (λc z=>F.le c _ z) λc xs z=>F.le c _ z
end
end MM
namespace MM
open PySem PySem.Spec PyProof.Rows L2
section
variable{X:Cx}{a3:List (ak×Obj)}{σ:St}{H H':Hp}{s s':am}{cs:List ak}
theorem TY(I:Inv X a3 σ H s)(F:mG cs H H')(l:∀b∈cs,∀o u,H' b=some (.frz o u)->s.heap.get? b=some o)(c:∀b∈cs,X.s₀.heap.objs.size<=b/\b≠X.env.locals):qh X.prog X.w X.K X.mg X.base X.A X.stack s H':=by
 have e:=I.env0;refine⟨e.frames,e.mod,λb o q=>⟨(e.bs b o q).1,?_⟩,e.bsz,e.funs,λb g=>?_,F.hok' I.hok l,e.bare⟩
 ·rw[F.old b λz=>?_]
  ·exact (e.bs b o q).2
  ·exact ba (aZ (aD q) (cF I.ok.bsz (c b z).1)) (cy _)
 ·rw[F.old b λz=>?_]
  ·exact e.frf b g
  ·rcases aI.mp (I.stkSub b g) with y|y
   ·exact (c b z).2 y
   ·obtain⟨_,o,h,_⟩:=I.ok.funs.mem y;exact ba (aZ (aD h) (c b z).1) (cy _)
theorem Sw{Q:VK}{u:ab}(I:Inv X a3 σ H s)(F:mG cs H H')(hc:∀b∈cs,∀o u,H' b=some (.frz o u)->s.heap.get? b=some o)(h:L2.CE X.stack X.prog X.w H' s Q u s'):
  ∃v l,RelV v u/\Q v l/\(∀b∈cs,l b=H' b)/\∀E,mG cs E l->Inv X a3 σ E s':=by
 obtain⟨v,l,os,C,un,hok,r,q⟩:=h;have U:∀b∈cs,l b=H' b:=λb c=>by obtain⟨w,e,o,x,rfl,d⟩:=F.new b c;rw[e,un.frzs b _ _ e]
 refine⟨v,l,r,q,U,λE G=>?_⟩;have at_:∀b o,b∈cs->s.heap.get? b=some o->s'.heap.get? b=some o:=λb o c e=>by obtain⟨w,Y,o',x,rfl,d⟩:=F.new b c;have O:=hc b c _ _ Y;rw[e]at O;cases O;exact (hok b _ ((U b c).trans Y)).1
 have L:∀b o,H b=some o->b∉cs:=λb o e z=>by rw[F.non b z]at e;cases e
 have up:∀b o,l b=some o->b∉cs->E b=some o:=λb o e z=>by rw[<- G.old b z];exact e
 obtain⟨hh,g,d,t,J⟩:=s';obtain rfl:J=s.os:=os;refine I.call (h':=hh) (g':=g) (d':=d) (t':=t) (ch:=[]) ⟨λb o e n c B=>?_,λb o e n c B=>?_,λb o e n B=>?_,un.there,λb xs e=>?_,λb o u e=>?_,λb ps e=>?_⟩ (G.hok hok) C (λb z=>ba z (by simp))
 ·by_cases z:b∈cs
  ·exact at_ b o z e
  ·exact un.keep b o e (by rw[F.old b z];exact n) c B
 ·by_cases z:b∈cs
  ·exact⟨o.slots,at_ b o z e⟩
  ·exact un.slot b o e (by rw[F.old b z];exact n) c B
 ·by_cases z:b∈cs
  ·exact G.non b z
  ·rw[<- G.old b z];exact un.free b o e (by rw[F.old b z];exact n) B
 ·exact up b _ (un.tups b xs (F.le b _ e)) (L b _ e)
 ·exact up b _ (un.frzs b o u (F.le b _ e)) (L b _ e)
 ·obtain⟨more,z⟩:=un.tbls b ps (F.le b _ e);exact⟨more,up b _ z (L b _ e)⟩
end
section
variable{K:ag}{ρ ρ1:List ak}{H H' H1 H2:Hp}{st a8:aX}{cs:List ak}
theorem mG.ex(F:mG cs H H')(G:mG cs H2 H1)(x:Ex ρ H' ρ1 H1):Ex ρ H ρ1 H2:=by
 have c:∀b o,H b=some o->b∉cs:=λb o e z=>by rw[F.non b z]at e;cases e
 have up:∀b o,H1 b=some o->b∉cs->H2 b=some o:=λb o e z=>by rw[<- G.old b z];exact e
 refine⟨?_,λb o k e=>up b o (x.fix b o k (F.le b o e)) (c b o e),λb o n e=>up b o (x.oth b o n (F.le b o e)) (c b o e),λb o e=>?_⟩
 ·obtain⟨τ,e,h⟩:=x.pre;refine⟨τ,e,λa g=>?_⟩;have:=h a g;cases q:H a with
  |none=>rfl
  |some o=>rw[F.le a o q]at this;cases this
 ·obtain⟨o',l,k⟩:=x.knd b o (F.le b o e);exact⟨o',up b o' l (c b o e),k⟩
theorem Pk{n m:Nat}:(eD n st)[m]?=if m < n then st[m]? else (st[m]?).map mY:=by
 unfold eD;by_cases h:m < n
 ·rw[aJ h];by_cases c:m < (st.take n).length
  ·rw[ar c,lQ h]
  ·rw[cn]at c;have g:st.length<=m:=by ext
   have l:st.length<=n:=by ext
   rw[bH (by rw[aN,af,cn,fW];ext),bH g]
 ·rw[aG h];by_cases c:n<=st.length
  ·rw[bb (by rw[cn];ext),cn,Nat.min_eq_left c,ao,v8,show n+(m-n)=m by ext]
  ·rw[bH (by rw[aN,af,cn,fW];ext),bH (by ext)];rfl
theorem SR.letgo{n:Nat}(F:mG cs H H')(G:mG cs H2 H1)(x:Ex ρ H' ρ1 H1)(sr:SR K ρ H st)(B:SR K ρ1 H1 a8)(hn:n<=st.length)(L:∀m,m < n->a8[m]?=st[m]?\/∃o,a8[m]?=some o/\mr o=false):SR K ρ1 H2 (eD n a8):=by
 have X:=F.ex G x;refine⟨?_,B.nd,λm b o E g=>?_⟩
 ·rw[B.len];unfold eD;rw[aN,af,cn,fW];ext
 ·rw[Pk]at g;by_cases h:m < n
  ·rw[aJ h]at g;have plain:mr o=false->mB K ρ1 H2 b o:=λz=>mB.letgo G z (B.ob m b o E g);rcases L m h with z|⟨o',z,J⟩
   ·by_cases q:mr o=false
    ·exact plain q
    ·have I:m < ρ.length:=by rw[sr.len];ext
     obtain⟨τ,eτ,_⟩:=x.pre;have U:ρ[m]?=some b:=by rw[eτ,ar I]at E;exact E
     have l:=sr.ob m b o U (by rw[<- z];exact g);refine mB.mono (o:=o) X.up l λu hu=>?_;cases o with
     |clo c vs=>
      obtain⟨o,O,q,Y,cl,C,Q⟩:=l;rw[hu]at C;cases C;exact X.fix b _ rfl hu
     |_=>exact ba rfl q
   ·rw[g]at z;cases z;exact plain J
  ·rw[aG h]at g;cases e:a8[m]? with
   |none=>rw[e]at g;cases g
   |some o'=>
    rw[e]at g;have l:=B.ob m b o' E e;by_cases q:mr o'=true
    ·rw[df,mY,aJ q]at g;cases g;cases o' with
     |clo c vs=>obtain⟨o,O,q,Y,cl,C,Q⟩:=l;exact⟨o,G.not C Ct⟩
     |_=>cases q
    ·rw[df,mY,aG q]at g;cases g;exact mB.letgo G (e9.mpr q) l
end
theorem C8:∀(names:List (Str×c5))(n:Nat)(acc:List (Str×ak)),bF n names acc=bF n names []++acc
 |[],_,_=>rfl
 | (x,k)::r,n,acc=>by
  unfold bF;split
  ·rw[C8 r (n+1) ((x,n)::acc),C8 r (n+1) [(x,n)],dG];rfl
  ·exact C8 r n acc
theorem Cu{x:Str}:∀(a b:List (Str×ak)),(a++b).lookup x=(a.lookup x).or (b.lookup x)
 |[],_=>rfl
 | (y,c)::a,b=>by
  rw[kh,kf,kf];cases x == y with
  |true=>rfl
  |false=>exact Cu a b
section
variable{M:CW}{A:bz}{E:ab->am->Prop}{s₀ s:am}{m cm:Str->Option ab}{env:Env}{own cl:List (Str×ak)}
theorem Sf{n:Str}{v:ab}{Q:Unit->am->Prop}(x:n9 s₀ env.locals m own cm s)(C:env.scope.kind=.function)(B:env.kindOf n=some .local)
  (h:∀q,n9 s₀ env.locals (λy=>if y=n then some v else m y) own cm q->Q () q):aF M A (pE env n v) Q E s:=by
 refine xF B x.toInCall.ns (λh' l g=>h _ ⟨⟨?_,l,λb o e=>?_,x.toInCall.fresh⟩,λk c u=>?_,x.apart,x.above⟩) (by rw[C];rfl)
 ·obtain⟨h₁,tk,rfl⟩:=x.toInCall.same;exact⟨h',_,rfl⟩
 ·exact g.extBut b o (aR (aZ (aD e) x.toInCall.fresh)) (x.toInCall.keep b o e)
 ·exact (x.cell k c u).sameBut g (d_ (x.above k c (aV u)))
theorem stC{n:Str}{c:ak}{v:ab}{Q:Unit->am->Prop}(L:env.cells=own++cl)(x:n9 s₀ env.locals m own cm s)(J:env.scope.kind=.function)(I:env.kindOf n=some .cell)
  (u:own.lookup n=some c) (h:∀H,n9 s₀ env.locals m own (λy=>if y=n then some v else cm y) H->Q () H):aF M A (pE env n v) Q E s:=by
 have B:=x.above n c (aV u);have C:env.cells.lookup n=some c:=by rw[L,Cu,u];rfl
 refine zJ J I C (x.cell n c u) λh' G l=>h _ ⟨⟨?_,x.toInCall.ns.sameBut l (aR B),λb o e=>?_,x.toInCall.fresh⟩,λk O g=>?_,x.apart,x.above⟩
 ·obtain⟨h₁,tk,rfl⟩:=x.toInCall.same;exact⟨h',_,rfl⟩
 ·exact l.extBut b o (aR (m5 (aZ (aD e) x.toInCall.fresh) B)) (x.toInCall.keep b o e)
 ·by_cases q:k=n
  ·subst q;rw[u]at g;cases g;simpa using G
  ·rw[aG q];exact (x.cell k O g).sameBut l λe=>q (xf x.apart (aV g) (e ▸ aV u))
theorem Ir(f:Str×ab->PUnit->Sem (ForInStep PUnit))(H:∀n v u,f (n,v) u=(do pE env n v; pure (.yield ⟨⟩)))(C:env.scope.kind=.function)(I:env.cells=own++cl):
  ∀(binds:List (Str×ab))(m cm:Str->Option ab)(s:am)(Q:PUnit->am->Prop),n9 s₀ env.locals m own cm s ->
   (∀x∈binds,env.kindOf x.1=some .local\/(env.kindOf x.1=some .cell/\(own.lookup x.1).isSome=true)) ->
   (∀o,n9 s₀ env.locals (pf env.kindOf binds m) own (ph env.kindOf binds cm) o->Q ⟨⟩ o)->aF M A (forIn binds ⟨⟩ f) Q E s
 |[],m,cm,s,Q,x,_,h=>by rw[r8];exact ai (h s x)
 | (n,v)::r,m,cm,s,Q,x,hkind,h=>by
  rw[m8,H];have L:∀y∈r,env.kindOf y.1=some .local\/(env.kindOf y.1=some .cell/\(own.lookup y.1).isSome=true):=λy O=>hkind y (br _ O);rcases hkind (n,v) bO with q|⟨q,J⟩
  ·refine aa (aa (Sf x C q λo G=>ai (Ir f H C I r _ _ o Q G L λl g=>h l ?_)));unfold pf ph;rw[aJ q,aJ q];exact g
  ·obtain⟨c,J⟩:=dH.mp J;have B:¬ env.kindOf n=some .local:=by rw[q];decide
   refine aa (aa (stC I x C q J λo G=>ai (Ir f H C I r _ _ o Q G L λl g=>h l ?_)));unfold pf ph;rw[aG B,aG B];exact g
theorem QJ{scope:cZ}{globals:ak}{binds:List (Str×ab)}{qual:Str}{func:Option ak}{code:ab}{builtins:ak}{Q:Env->am->Prop}
  (u:scope.kind=.function)
  (g:∀x∈binds,scope.names.lookup x.1=some .local\/(scope.names.lookup x.1=some .cell/\((bF (s.heap.objs.size+1) scope.names []).lookup x.1).isSome=true))
  (C:∀env,env=newEnv scope s.heap.objs.size globals (bF (s.heap.objs.size+1) scope.names cl) qual func code none builtins ->
   ∀h,n9 s env.locals (pf env.kindOf binds λ_=>none) (bF (s.heap.objs.size+1) scope.names []) (ph env.kindOf binds λ_=>none) h->Q env h):
  aF M A (pi scope globals cl binds qual func code none builtins) Q E s:=by
 simp only[pi,oz,aT,if_false];refine aa (wpAny_alloc ?_);refine aa (wpAny_layCells _ (λname kind cells=>by cases q:kind == fe<;>simp[q]) _ _ _ _ ?_);have ok:=cellsFrom_ok scope.names (s.heap.push { cls:=.type "frame",data:=.dict #[] }) (s.heap.objs.size+1) [] ⟨λ_ _ l=>(nomatch l),r6⟩ (by rw[cw];exact ax _);rw[cw]at ok;rw[show ({ s with heap:=s.heap.push { cls:=.type "frame",data:=.dict #[] } }:am).heap.objs.size=s.heap.objs.size+1 from cw ..];refine aa (Ir (s₀:=s) (env:=newEnv scope s.heap.objs.size globals (bF (s.heap.objs.size+1) scope.names cl) qual func code none builtins) (cl:=cl) (own:=bF (s.heap.objs.size+1) scope.names [])
  _ (λ_ _ _=>rfl) u (C8 _ _ _) binds (λ_=>none) (λ_=>none) _ _
  ⟨⟨⟨_,_,rfl⟩,(Au s.heap (.type "frame")).keeps (lH _ _),λb o e=>lH _ _ b o (ah _ e),ax _⟩,
   λn c B=>(ok.empty n c (aV B)).1,ok.apart,λn c l=>(ok.empty n c l).2⟩
  g λh x=>ai (C _ rfl h x))
end
structure qB(N ps fr:List Str)(sc:cZ):Prop where
 kind:sc.kind=.function
 co:sc.isCoroutine=false
 gen:sc.isGenerator=false
 nd:N.Nodup
 pre:N.take (ps++fr).length=ps++fr
 par:∀x∈ps,sc.names.lookup x=some .local\/sc.names.lookup x=some .cell
 fre:∀x∈fr,sc.names.lookup x=some .free
 onl:∀x,(x,bE)∈sc.names->x∈fr
 noc:∀x∈fr,(x,fe)∉sc.names
theorem oZ{x:Str}{c:ak}:∀{names:List (Str×c5)}{n:Nat}{acc:List (Str×ak)},(x,c)∈bF n names acc->(x,fe)∈names\/(x,c)∈acc
 |[],_,_,h=>.inr h
 | (y,k)::r,n,acc,h=>by
  unfold bF at h;split at h
  ·rename_i g;have g:k=.cell:=by simpa using g
   subst g;rcases oZ h with z|z
   ·exact .inl (.tail _ z)
   ·rcases aI.mp z with z|z
    ·cases z;exact .inl (.head _)
    ·exact .inr z
  ·rcases oZ h with z|z
   ·exact .inl (.tail _ z)
   ·exact .inr z
theorem IT{p:Str×ak}:∀{cl:List (Str×ak)}{j:Nat},(cl.map (·.1)).Nodup->cl[j]?=some p->cl.lookup p.1=some p.2
 |[],_,_,h=>by simp at h
 | (y,c)::cl,0,_,h=>by cases h;exact uF
 | (y,c)::cl,j+1,hn,h=>by
  rw[aL,kG]at hn;have h':cl[j]?=some p:=by simpa using h
  have:(p.1 == y)=false:=beq_eq_false_iff_ne.mpr λz=>hn.1 (by rw[<- z];exact ik (f:=(·.1)) (av h'));rw[kf,this];exact IT hn.2 h'
noncomputable def qj(q:Str)(sc:cZ)(L a:ak)(c:ab)(cl:List (Str×ak)):Env:=newEnv sc L cq (bF (L+1) sc.names cl) (q++".<locals>.") (some a) c none md
def DO(P:Program)(w:bD)(K:ag)(mg:Str->Option ab)(base:bw)(N:List Str)(q:Str)(sc:cZ)(f:ak)(c:ab)(cl:List (Str×ak))(A:bz)(outer:List Env)(s:am)(H:Hp):Cx where
 prog:=P
 w:=w
 K:=K
 mg:=mg
 base:=base
 A:=A.deeper (qj q sc s.heap.objs.size f c cl)
 N:=N
 s₀:=s
 H₀:=H
 env:=qj q sc s.heap.objs.size f c cl
 outer:=outer
 stack:=qj q sc s.heap.objs.size f c cl::outer
 ex:=[]
 calm:=true
 fn:=λx=>sc.names.lookup x == some .cell
 pn:=[]
 xe:=λ_ _=>False
section
variable{P:Program}{w:bD}{K:ag}{mg:Str->Option ab}{base:bw}{N ps fr:List Str}{q:Str}{sc:cZ}{f:ak}{cd:ab}{cl:List (Str×ak)}{A:bz}{outer:List Env}{s s1:am}{H:Hp}{us d5:List ab}{vs a9:List V}
theorem Xg:Sc (DO P w K mg base N q sc f cd cl A outer s H) sc where
 vis:=λx k h c=>by
  rcases c with z|z|z<;>subst z
  ·exact .inl h
  ·exact .inr (.inl h)
  ·exact .inr (.inr h)
 cel:=λx h=>h
 glo:=λx h=>h
 loc:=λx k h c=>by
  rcases c with z|z<;>subst z
  ·exact⟨.inl h,.inr h⟩
  ·exact⟨.inr h,.inl (by show (sc.names.lookup x == some .cell)=true;rw[h];rfl)⟩
 calm:=rfl
theorem Wa(S:qB N ps fr sc)(hd:A.handled=none)(I:qh P w K mg base A outer s H)(hl:vs.length=ps.length)(r:bQ vs us)(E:cl.map (·.1)=fr)(hcl:a9.length=fr.length)(rc:bQ a9 d5)
  (hnd:(cl.map (·.2)).Nodup) (hc:∀(i:Nat)(p:Str×ak)(u:ab),cl[i]?=some p->d5[i]?=some u->s.heap.IsCell p.2 (some u)) (hn:∀p∈cl,H p.2=none)
  (x:n9 s s.heap.objs.size (pf (qj q sc s.heap.objs.size f cd cl).kindOf (ps.zip us) λ_=>none) (bF (s.heap.objs.size+1) sc.names []) (ph (qj q sc s.heap.objs.size f cd cl).kindOf (ps.zip us) λ_=>none) s1):
  Inv (DO P w K mg base N q sc f cd cl A outer s H) [] (L2.start N (vs++a9)) H s1:=by
 have hlen:(vs++a9).length=(ps++fr).length:=by rw[aN,aN,hl,hcl]
 have hpl:(ps++fr).length<=N.length:=by have:=cU cP S.pre;rw[cn]at this;ext
 obtain⟨h1,tk,rfl,hk⟩:=x.done;have O:(ps++fr).Nodup:=by rw[<- S.pre];exact S.nd.sublist (xg _ _)
 have Q:ps.Nodup:=(d8.mp O).1;have L:∀b:ak,b∉(DO P w K mg base N q sc f cd cl A outer s H).ex:=λb z=>ba (show b∈([]:List ak) from z) (by simp);have ce:(qj q sc s.heap.objs.size f cd cl).cells=bF (s.heap.objs.size+1) sc.names []++cl:=C8 _ _ _;have B:∀y c,(qj q sc s.heap.objs.size f cd cl).cells.lookup y=some c->(bF (s.heap.objs.size+1) sc.names []).lookup y=some c\/((bF (s.heap.objs.size+1) sc.names []).lookup y=none/\cl.lookup y=some c):=λy c e=>by
  rw[ce,Cu]at e;cases e2:(bF (s.heap.objs.size+1) sc.names []).lookup y with
  |some d=>rw[e2]at e;exact .inl e
  |none=>rw[e2]at e;exact .inr ⟨rfl,e⟩
 have clu:∀p∈cl,∃u,s.heap.IsCell p.2 (some u):=λp g=>by
  obtain⟨i,C⟩:=b9.mp g;have hlt:i < d5.length:=by have h1:=(ae.mp C).1;have l:=cU cP E;have h3:=rc.length;rw[af]at l;ext
  exact⟨_,hc i p _ C (aj hlt)⟩
 have clt:∀y c,cl.lookup y=some c->c < s.heap.objs.size:=λy c e=>by obtain⟨u,o,U,_⟩:=clu (y,c) (aV e);exact aD U
 refine⟨⟨I.mod,S.kind,rfl,rfl,ax _,λy z c h1 l=>?_,λy G=>?_,λy c Y h=>?_,λ_=>hd,t6 I.frames,.inr ⟨rfl,rfl⟩,λb z=>ba z (L b),I.bs,I.bsz,λb _ _=>L b,λb z=>ba z (L b),I.funs,I.frf⟩,
  rfl,I.bare,Un.kept hk,⟨_,x.toInCall.ns,λi y v h1 l h3=>?_⟩,λy c h=>?_,I.hok.fresh (ax _),λy c h=>?_,λp g=>ba (show p∈([]:List (ak×Obj)) from g) (by simp),I.hok.kept hk,?_⟩
 ·rcases B y c h1 with a|⟨_,a⟩<;>rcases B z c l with b|⟨_,b⟩
  ·exact xf x.apart (aV a) (aV b)
  ·exact ba (clt _ _ b) (Nat.not_lt.mpr (gp (x.above y c (aV a))))
  ·exact ba (clt _ _ a) (Nat.not_lt.mpr (gp (x.above z c (aV b))))
  ·obtain⟨i,C⟩:=b9.mp (aV a);obtain⟨j,J⟩:=b9.mp (aV b);have:i=j:=(lO (by rw[af];exact (ae.mp C).1) hnd).mp (by rw[ao,ao,C,J];rfl);subst this;rw[C]at J;cases J;rfl
 ·have G:sc.names.lookup y=some .cell\/sc.names.lookup y=some .free:=G
  show ∃c,(qj q sc s.heap.objs.size f cd cl).cells.lookup y=some c;rw[ce,Cu];rcases G with G|G
  ·obtain⟨c,e⟩:=Fx (n:=s.heap.objs.size+1) G;exact⟨c,by rw[e];rfl⟩
  ·have h:=S.onl y (aV G);rw[<- E]at h;obtain⟨p,g,rfl⟩:=bR.mp h;cases e2:(bF (s.heap.objs.size+1) sc.names []).lookup p.1 with
   |some d=>exact⟨d,rfl⟩
   |none=>
    obtain⟨j,J⟩:=b9.mp g;exact⟨p.2,by rw[IT (by rw[E];exact (d8.mp O).2.1) J];rfl⟩
 ·have Y:(sc.names.lookup y == some .cell)=true:=Y;have Y:sc.names.lookup y=some .cell:=by simpa using Y
  rcases B y c h with a|⟨a,_⟩
  ·exact gp (x.above y c (aV a))
  ·obtain⟨d,e⟩:=Fx (n:=s.heap.objs.size+1) Y;rw[e]at a;cases a
 ·have C : i < (vs ++ a9).length := by
    unfold L2.start at l;by_cases C:i < (vs++a9).length
    ·exact C
    ·rw[bb (by simpa using C)]at l;rw[fV]at l;split at l<;>cases l
  have h:(vs++a9)[i]?=some v:=by
   unfold L2.start at l;rw[ar (by simpa using C),ao]at l;cases e:(vs++a9)[i]? with
   |none=>rw[e]at l;cases l
   |some a=>rw[e]at l;cases l;rfl
  have g:(ps++fr)[i]?=some y:=by rw[<- S.pre,lQ (by ext)];exact h1
  by_cases hv:i < vs.length
  ·rw[ar hv]at h;rw[ar (by ext)]at g;obtain⟨u,hu,B⟩:=r.get h;refine⟨u,B,?_⟩;rcases S.par y (av g) with k|k
   ·exact .inl ⟨k,K2 Q g hu k⟩
   ·obtain⟨c,e⟩:=Fx (n:=s.heap.objs.size+1) k;refine .inr ⟨.inl k,c,?_,?_⟩
    ·show (qj q sc s.heap.objs.size f cd cl).cells.lookup y=some c;rw[ce,Cu,e];rfl
    ·have q:=x.cell y c e;rw[Il Q g hu (by show sc.names.lookup y≠_;rw[k];decide)]at q;exact q
  ·rw[bb (by ext)]at h g;rw[hl]at h;obtain⟨u,hu,B⟩:=rc.get h;have G:=av g;obtain⟨c,J⟩:∃c,cl[i-ps.length]?=some (y,c):=by
    rw[<- E,ao]at g;cases e:cl[i-ps.length]? with
    |none=>rw[e]at g;cases g
    |some p=>rw[e]at g;exact⟨p.2,by rw[<- aM g]⟩
   obtain⟨o,U,hd⟩:=hc _ _ u J hu;refine⟨u,B,.inr ⟨.inr (S.fre y G),c,?_,o,hk c o U,hd⟩⟩
   show (qj q sc s.heap.objs.size f cd cl).cells.lookup y=some c;rw[ce,Cu];have:(bF (s.heap.objs.size+1) sc.names []).lookup y=none:=by
    cases e:(bF (s.heap.objs.size+1) sc.names []).lookup y with
    |none=>rfl
    |some d=>
     rcases oZ (aV e) with z|z
     ·exact ba z (S.noc y G)
     ·cases z
   rw[this,IT (by rw[E];exact (d8.mp O).2.1) J];rfl
 ·rcases B y c h with a|⟨_,a⟩
  ·exact⟨_,x.cell y c a⟩
  ·obtain⟨u,o,U,hd⟩:=clu (y,c) (aV a);exact⟨some u,o,hk c o U,hd⟩
 ·rcases B y c h with a|⟨_,a⟩
  ·exact I.hok.fresh (gp (x.above y c (aV a)))
  ·exact hn (y,c) (aV a)
 ·unfold L2.start
  show _=N.length;rw[aN,af,cI];ext
end
section
variable{K:ag}{ρ ρ2:List ak}{H H0 H2 H3:Hp}{st s2:aX}{cs:List ak}
theorem SR.kill0(G:mG cs H0 H)(sr:SR K ρ H st):SR K ρ H0 (eD 0 st):=by
 refine⟨?_,sr.nd,λm b o u g=>?_⟩
 ·rw[sr.len];unfold eD;simp
 ·rw[Pk,aG (by ext)]at g;cases e:st[m]? with
  |none=>rw[e]at g;cases g
  |some o'=>
   rw[e]at g;have h:=sr.ob m b o' u e;by_cases q:mr o'=true
   ·rw[df,mY,aJ q]at g;cases g;cases o' with
    |clo c vs=>obtain⟨o,B,q,E,cl,l,C⟩:=h;exact⟨o,G.not l Ct⟩
    |_=>cases q
   ·rw[df,mY,aG q]at g;cases g;exact mB.letgo G (e9.mpr q) h
theorem mG.again(G:mG cs H0 H)(T:mG cs H2 H3)(c:∀b∈cs,H3 b=H b)(x:Ex ρ H0 ρ2 H2)(s:SR K ρ2 H2 s2):Ex ρ H ρ2 H3:=by
 have key:∀b o,H b=some o->(b∉cs->H0 b=some o):=λb o e n=>by rw[<- G.old b n];exact e
 refine⟨?_,λb o k e=>?_,λb o n e=>?_,λb o e=>?_⟩
 ·obtain⟨τ,e,h⟩:=x.pre;refine⟨τ,e,λa l=>?_⟩;have q:a∉cs:=λz=>by
   have C:=T.non a z;have:a∈ρ2:=by rw[e];exact bS _ l
   obtain⟨n,g⟩:=b9.mp this;have B:n < s2.length:=by rw[<- s.len];exact (ae.mp g).1
   obtain⟨u,hu⟩:=mB.ex (s.ob n a _ g (aj B));rw[C]at hu;cases hu
  have:=h a l;rw[<- G.old a q]at this;exact this
 ·by_cases z:b∈cs
  ·rw[c b z];exact e
  ·rw[T.old b z];exact x.fix b o k (key b o e z)
 ·by_cases z:b∈cs
  ·rw[c b z];exact e
  ·rw[T.old b z];exact x.oth b o n (key b o e z)
 ·by_cases z:b∈cs
  ·exact⟨o,by rw[c b z];exact e,rfl⟩
  ·obtain⟨o',E,k⟩:=x.knd b o (key b o e z);exact⟨o',by rw[T.old b z];exact E,k⟩
theorem SR.again(G:mG cs H0 H)(T:mG cs H2 H3)(L:∀b∈cs,H3 b=H b)(x:Ex ρ H0 ρ2 H2)(sr:SR K ρ H st)(s:SR K ρ2 H2 s2)(hd:∀(i:Nat)(o:MO),st[i]?=some o->mr o=true->s2[i]?=some MO.ded):SR K ρ2 H3 (s2.mapIdx (oC st)):=by
 have X:=G.again T L x s;refine⟨by rw[List.length_mapIdx];exact s.len,s.nd,λi b o C h=>?_⟩;rw[u5]at h;cases B:s2[i]? with
 |none=>rw[B]at h;cases h
 |some o'=>
  rw[B]at h;have g:o=oC st i o':=(aM h).symm;have rest:mB K ρ2 H3 b o':=mB.mono (o:=o') ⟨⟨[],by simp⟩,λb o _ e=>T.le b o e,λb o e=>⟨o,T.le b o e,rfl⟩⟩ (s.ob i b o' C B) λu q=>T.le b u q;unfold oC at g;cases l:st[i]? with
  |none=>rw[l]at g;rw[g];exact rest
  |some oi=>
   rw[l]at g;cases oi with
   |clo c v=>
    dsimp only at g;subst g;have J:i < ρ.length:=by rw[sr.len];exact (ae.mp l).1
    obtain⟨τ,eτ,_⟩:=x.pre;have O:ρ[i]?=some b:=by rw[eτ,ar J]at C;exact C
    have E:=sr.ob i b _ O l;refine mB.mono (o:=.clo c v) X.up E λu hu=>?_;obtain⟨o,Q,q,Y,cl,I,U⟩:=E;rw[hu]at I;cases I;exact X.fix b _ rfl hu
   |_=>dsimp only at g;rw[g];exact rest
theorem OZ{P:Program}{w:bD}{h:bw}(ok:mw P w H h):∀{cl:List (Str×ak)}{vd:List D},cW (rP K ρ H) cl vd->∃g l,bQ g l/\bA K ρ H g vd/\∀(i:Nat)(p:Str×ak)(u:ab),cl[i]?=some p->l[i]?=some u->h.IsCell p.2 (some u)
 |[],_,r=>by cases r;exact⟨[],[],.nil,.nil,λi p u h=>by simp at h⟩
 |p::cl,_,r=>by
  cases r with
  |cons c t=>
   obtain⟨o,u,v,O,L,J,I⟩:=c;obtain⟨g,l,G,E,C⟩:=OZ ok t;refine⟨v::g,u::l,.cons J G,.cons I E,λi q u' B hu=>?_⟩;cases i with
   |zero=>cases B;cases hu;exact⟨o,(ok _ _ O).1,L⟩
   |succ i=>exact C i q u' (by simpa using B) (by simpa using hu)
end
def qF(P:Program)(w:bD)(K:ag)(mg:Str->Option ab)(base:bw)(k n:Nat)(c:FCode)(g:List D->M D):Prop:=
 ∀(A:bz)(outer:List Env)(s:am)(H:Hp)(ρ:List ak)(st:aX)(m:Nat)(a:ak)(h ds:List D)(l:List ab)(vs:List V)(Q:VK),im k A->qh P w K mg base A outer s H->SR K ρ H st->ρ[m]?=some a->st[m]?=some (.clo c h) ->
  bA K ρ H vs ds->bQ vs l->ds.length=n->aS K ρ H (mR g h ds st) (λr _ ρ' o=>∀v,c_ K ρ' o v r->Q v o)->gK (aW P w) A (.call (.ref a) ⟨l,[]⟩) (CR rQ outer P w H s Q E0) s
theorem Ld{α β:Type}{F:α->β->Prop}:∀{l₁:List α}{l₂:List β}{i:Nat}{x:α},cW F l₁ l₂->l₁[i]?=some x->∃y,l₂[i]?=some y/\F x y
 |_,_,_,_,.nil,e=>by simp at e
 |_,_,0,_,.cons r _,e=>by simp at e;subst e;exact⟨_,rfl,r⟩
 |_,_,i+1,_,.cons _ t,e=>by obtain⟨v,g,c⟩:=Ld (i:=i) t (by simpa using e);exact⟨v,by simpa using g,c⟩
section
variable{P:Program}{w:bD}{K:ag}{mg:Str->Option ab}{base:bw}
theorem Wj{A:bz}{outer:List Env}{s J:am}{H H0 I:Hp}{h:List ak}{Q:VK}{v:V}{u:ab}(e0:qh P w K mg base A outer s H)(G:mG h H0 H)(un:Un (gA outer) [] H0 I s.heap J.heap)(hok:mw P w I J.heap)(os:J.os=s.os)(U:kX J.gens)(rv:RelV v u)
  (hq:∀C,mG h I C->(∀b∈h,C b=H b)->Q v C):L2.CE outer P w H s Q u J:=by
 classical
 obtain⟨C,e3⟩:∃C:Hp,C=λb=>if b∈h then H b else I b:=⟨_,rfl⟩
 have l:∀b∈h,C b=H b:=λb c=>by rw[e3];exact aJ c
 have B:∀b,b∉h->C b=I b:=λb c=>by rw[e3];exact aG c
 have Y:∀b o,H b=some o->b∉h->H0 b=some o:=λb o e n=>by rw[<- G.old b n];exact e
 have O:∀b∈h,∃o u,H b=some (.frz o u)/\s.heap.get? b=some o:=λb c=>by obtain⟨w',e,o,x,rfl,d⟩:=G.new b c;exact⟨o,_,e,(e0.hok b _ e).1⟩
 have T:mG h I C:=⟨B,λb c=>by obtain⟨o,u,e,g⟩:=O b c;exact un.free b o g (G.non b c) (by simp),λb c=>by rw[l b c];exact G.new b c⟩
 have nf:∀b∈h,b∉gA outer:=λb c z=>by obtain⟨o,u,e,g⟩:=O b c;rw[e0.frf b z]at e;cases e
 refine⟨v,C,os,U,⟨λb o e n c L=>?_,λb o e n c L=>?_,λb o e n L=>?_,un.there,λb xs e=>?_,λb o u e=>?_,λb p e=>?_⟩,T.hok' hok λb c o u e=>?_,rv,hq C T l⟩
 ·have E:b∉h:=λz=>by obtain⟨o,u,e,g⟩:=O b z;rw[n]at e;cases e
  exact un.keep b o e (by rw[<- G.old b E];exact n) c L
 ·have E:b∉h:=λz=>by obtain⟨o,u,e,g⟩:=O b z;rw[n]at e;cases e
  exact un.slot b o e (by rw[<- G.old b E];exact n) c L
 ·have E:b∉h:=λz=>by obtain⟨o,u,e,g⟩:=O b z;rw[n]at e;cases e
  rw[B b E];exact un.free b o e (by rw[<- G.old b E];exact n) L
 ·by_cases z:b∈h
  ·rw[l b z];exact e
  ·rw[B b z];exact un.tups b xs (Y b _ e z)
 ·by_cases z:b∈h
  ·rw[l b z];exact e
  ·rw[B b z];exact un.frzs b o u (Y b _ e z)
 ·by_cases z:b∈h
  ·exact⟨#[],by rw[l b z,e];simp⟩
  ·obtain⟨more,q⟩:=un.tbls b p (Y b _ e z);exact⟨more,by rw[B b z];exact q⟩
 ·rw[l b c]at e;have g:=(e0.hok b _ e).1;exact un.keep b o g (G.non b c) (nf b c) (by simp)
end
section
variable{X:Cx}
theorem LB{K:ag}{ρ:List ak}{H:Hp}{st:aX}{e:Expr}{ds:List D}{R:D->aX->List ak->Hp->Prop}:∀{W:List (Expr×RL)},aS K ρ H (rT W e ds st) R->∃r,(e,r)∈W/\ds.length=r.n/\aS K ρ H (r.g ds st) R
 |[],h=>h.elim
 | (e',r)::W,h=>by
  unfold rT at h;by_cases z:e=e'
  ·rw[aJ z]at h;obtain⟨g,c⟩:=aS.chk h;exact⟨r,z ▸ .head _,g,c⟩
  ·rw[aG z]at h;obtain⟨r,a,b⟩:=LB h;exact⟨r,.tail _ a,b⟩
theorem NB{K:ag}{ρ:List ak}{H:Hp}{st:aX}{c:FCode}{vs ds:List D}{R:D->aX->List ak->Hp->Prop}:∀{W:List (FCode×RK)},aS K ρ H (mV W c vs ds st) R->∃r,(c,r)∈W/\ds.length=r.n/\aS K ρ H (mR r.g vs ds st) R
 |[],h=>h.elim
 | (e',r)::W,h=>by
  unfold mV at h;by_cases z:c=e'
  ·rw[aJ z]at h;obtain⟨l,g⟩:=aS.chk h;exact⟨r,z ▸ .head _,l,g⟩
  ·rw[aG z]at h;obtain⟨r,a,b⟩:=NB h;exact⟨r,.tail _ a,b⟩
theorem SN{W:WT}{x:Str}{p pos:Pos}{e:Expr}{es:List Expr}{fa:CE}{ca:CA}(hW:∀e r,(e,r)∈W.1->Aa X.prog X.w X.K X.mg X.base r.k r.n e r.g/\im r.k X.A)(hV:∀c r,(c,r)∈W.2->qF X.prog X.w X.K X.mg X.base r.k r.n c r.g/\im r.k X.A)(hx:SE X (.Name x p) fa)(ha:SA X (e::es) ca)
  (he:starEach (e::es) X.env=(false,eval e X.env)::starEach es X.env:=by rfl) (hpl:(backTo pos (starEach es X.env)).any (·.1)=false:=by rfl):SE X (.Call (.Name x p) (e::es) [] pos) (qw W fa ca):=by
 intro L s σ H Q I Y;obtain⟨ρ,l,st,lr,sr,p⟩:=Y;refine dC (gj (hx L s σ H (λv H1=>∃ρ1 B d,LR X.K ρ1 H1 σ l/\SR X.K ρ1 H1 B/\c_ X.K ρ1 H1 v d/\aS X.K ρ1 H1 (bnd (ca l) (λds=>pD W d ds) B) λd _ ρ' H'=>∀v,c_ X.K ρ' H' v d->Q v H') I
  ⟨ρ,l,st,lr,sr,p.bnd.imp λd B ρ1 H1 x1 s1 p1 v rv=>⟨ρ1,B,d,lr.mono x1,s1,rv,p1⟩⟩) λu s1 ⟨v,H1,I1,r,ρ1,B,d,lr1,sr1,rv,p1⟩=>?_)
 have hA:=ha pos L s1 σ H1 (λvs O=>∃ρ2 g ds,SR X.K ρ2 O g/\c_ X.K ρ2 O v d/\bA X.K ρ2 O vs ds/\aS X.K ρ2 O (pD W d ds g) λd _ ρ' H'=>∀v,c_ X.K ρ' H' v d->Q v H') I1
  ⟨ρ1,l,B,lr1,sr1,p1.bnd.imp λds g ρ2 O x2 s2 G vs rvs=>⟨ρ2,g,ds,s2,rv.mono x2,rvs,G⟩⟩
 rw[he]at hA ⊢;refine PySem.W.callWith_of (P:=λh=>∃a o fd,u=.ref a/\h.get? a=some o/\o.data=.func fd) (by show ((false||(backTo pos (starEach es X.env)).any (·.1))||false)=false;rw[hpl];rfl)
  (λh ⟨a,o,fd,eu,e1,e2⟩=>?_) (nC (gj hA λus s2 ⟨vs,O,I2,rv2,ρ2,g,ds,J,rd,U,G⟩=>?_))
 ·subst eu;refine⟨.frame,.inl rfl,(PySem.W.Looks.ld (part:=none) e1).andThen ?_⟩;simp only[e2];exact .now
 ·unfold pD at G;cases d with
  |fn n=>
   obtain⟨a,rfl,I⟩:=rd.inv;cases l:g[n]? with
   |none=>simp only[l]at G;exact G.elim
   |some ob=>
    simp only[l]at G;cases ob with
    |lam e'=>
     obtain⟨r',L,Y,B⟩:=LB G;obtain⟨ok,H⟩:=hW _ _ L;obtain⟨a',E,ps,b,sc,h,q,c,pm,ct,e1,e2,e3⟩:=J.at l;rw[I]at E;cases E;cases (show u=a_ a from r);refine⟨⟨a,_,_,rfl,(I2.hok a _ e2).1,rfl⟩,?_⟩;refine me (kq (ok ps b sc h q c pm ct e1 X.A X.stack s2 O a us vs Q H I2.env0 e2 e3 rv2 ⟨by rw[U.length];exact Y,ρ2,g,ds,J,U,B⟩) λr s' C=>?_);cases r with
     |error e=>exact C.elim
     |ok fl=>
      cases fl with
      |ret u=>exact I2.after C
      |next=>exact cK C
      |brk=>exact cK C
      |cont=>exact cK C
    |clo c vd=>
     obtain⟨r',L,Y,B⟩:=NB G;obtain⟨ok,H⟩:=hV _ _ L;obtain⟨a',E,o,fd,q,cd,cl,e1,e2,e3⟩:=J.at l;rw[I]at E;cases E;cases (show u=a_ a from r);refine⟨⟨a,_,_,rfl,(I2.hok a _ e1).1,e2⟩,?_⟩;refine me (kq (ok X.A X.stack s2 O ρ2 g n a vd ds us vs Q H I2.env0 J I l U rv2 Y B) λr s' C=>?_);cases r with
     |error e=>exact C.elim
     |ok fl=>
      cases fl with
      |ret u=>exact I2.after C
      |next=>exact cK C
      |brk=>exact cK C
      |cont=>exact cK C
    |_=>exact G.elim
  |_=>exact G.elim
end
theorem Nf{cells:List (Str×ak)}:∀(names:List (Str×c5))(acc:List (Str×ak)),(∀x,(x,bE)∈names->∃c,cells.lookup x=some c)->(gU names cells acc).map (·.1)=nZ names++acc.map (·.1)
 |[],acc,_=>rfl
 | (n,k)::r,acc,h=>by
  unfold gU;rw[Nf r _ λx l=>h x (.tail _ l)];by_cases g:(k == bE)=true
  ·obtain rfl:k=.free:=by simpa using g
   obtain⟨c,o⟩:=h n (.head _);rw[aJ g,o];simp[nZ]
  ·rw[aG g];simp[nZ,g]
theorem rN{cells:List (Str×ak)}{p:Str×ak}:∀(names:List (Str×c5))(acc:List (Str×ak)),p∈gU names cells acc->(cells.lookup p.1=some p.2/\(p.1,bE)∈names)\/p∈acc
 |[],acc,h=>.inr h
 | (n,k)::r,acc,h=>by
  unfold gU at h;rcases rN r _ h with q|q
  ·exact .inl ⟨q.1,.tail _ q.2⟩
  ·by_cases g:(k == bE)=true
   ·obtain rfl:k=.free:=by simpa using g
    rw[aJ g]at q;cases e:cells.lookup n with
    |none=>rw[e]at q;exact .inr q
    |some c=>
     rw[e]at q;rcases aI.mp q with z|z
     ·subst z;exact .inl ⟨e,.head _⟩
     ·exact .inr z
   ·rw[aG g]at q;exact .inr q
theorem mG.up{g:List ak}{ρ:List ak}{H c:Hp}(F:mG g H c):Up ρ H ρ c:=⟨⟨[],by simp⟩,λb o _ e=>F.le b o e,λb o e=>⟨o,F.le b o e,rfl⟩⟩
theorem mG.sr{l:List ak}{K:ag}{ρ:List ak}{H c:Hp}{st:aX}(F:mG l H c)(s:SR K ρ H st):SR K ρ c st:=⟨s.len,s.nd,λn b o h g=>mB.mono (o:=o) F.up (s.ob n b o h g) λu q=>F.le b u q⟩
section
variable{X:Cx}{a3:List (ak×Obj)}{σ:St}{H:Hp}{s:am}{ρ:List ak}{l:MM.Loc}{st:aX}
theorem Pd(I:Inv X a3 σ H s)(E:LR X.K ρ H σ l): ∀{cl:List (Str×ak)}{is:List Nat}{vd:List D},sy l is=some vd->cW (λ(p:Str×ak)i=>X.N[i]?=some p.1) cl is ->
  (∀p∈cl,X.env.cells.lookup p.1=some p.2/\(X.env.kindOf p.1=some .cell\/X.env.kindOf p.1=some .free))->cW (λ(p:Str×ak)d=>∃o u v,s.heap.get? p.2=some o/\o.data=.cell (some u)/\RelV v u/\c_ X.K ρ H v d) cl vd
 |_,_,vd,e,.nil,_=>by cases e;exact .nil
 |p::cl,i::is,vd,e,.cons r t,h=>by
  unfold sy at e;cases B:l[i]? with
  |none=>rw[B]at e;cases e
  |some od=>
   cases od with
   |none=>rw[B]at e;cases e
   |some d=>
    rw[B]at e;cases C:sy l is with
    |none=>rw[C]at e;cases e
    |some vr=>
     rw[C]at e;cases e;refine .cons ?_ (Pd I E C t λq Q=>h q (.tail _ Q));obtain⟨h1,g⟩:=h p (.head _);obtain⟨v,ev,J⟩:=E.2 i d B;obtain⟨m,hn,Y⟩:=I.loc;have hv:EA X.env.scope p.1:=.inr g;obtain⟨u,L,O⟩:=Y i p.1 v r ev hv;rcases O with ⟨z,_⟩|⟨_,c,G,o,U,hd⟩
     ·rcases g with g|g<;>(rw[g]at z;cases z)
     ·rw[h1]at G;cases G;exact⟨o,u,v,U,hd,L,J⟩
open Classical in
theorem XU{k n:Nat}{f a cd:ak}{fdG fd:cV}{ps:List Str}{g:List D->M D}{ob:Obj}{c:FCode}{q:Str}{cl:List (Str×ak)}{is:List Nat}{Y ds:List D}{vs:List V}{O:List ab}{H0:Hp}{ρ0:List ak}{Q:VK}(I:Inv X a3 σ H s)
  (F:mC X.prog X.w X.K X.mg X.base rQ k f fdG ps (mT X.K n g)) (hr:im k X.A) (B:Binds X.K fdG ps []) (x0:Ex ρ0 H0 (ρ++[a]) H) (sr:SR X.K ρ H st) (na:a∉ρ) (lr:LR X.K ρ H σ l) (ha:H a=some (.frz ob (.own a))) (hd:ob.data=.func fd) (hf:BQ c fd q cd cl) (hcd:oG H cd q)
  (hcl:cl.map (·.1)=nZ fd.scope.names) (hnn:(cl.map (·.1)).Nodup) (L:∀p∈cl,X.env.cells.lookup p.1=some p.2/\(X.env.kindOf p.1=some .cell\/X.env.kindOf p.1=some .free)/\X.fn p.1=true) (hcap:cW (λ(p:Str×ak)i=>X.N[i]?=some p.1) cl is) (hv:sy l is=some Y)
  (hn:ds.length+1=n) (rs:bA X.K ρ H vs ds) (rv:bQ vs O) (p:aS X.K ρ0 H0 (callC g c Y ds st) λd _ ρ' E=>∀v,c_ X.K ρ' E v d->Q v E):
  aF (aW X.prog X.w) X.A (call (.ref f) (O++[.ref a])) (EP X a3 σ Q) X.xe s:=by
 have cells:=Pd I lr hv hcap λp J=>⟨(L p J).1,(L p J).2.1⟩
 obtain⟨U,ecs⟩:∃U,U=cl.map (·.2):=⟨_,rfl⟩
 have C:∀b∈U,∃o u,s.heap.get? b=some o/\o.data=.cell (some u)/\H b=none/\X.s₀.heap.objs.size<=b/\b≠X.env.locals:=λb B=>by rw[ecs]at B;obtain⟨pr,J,rfl⟩:=bR.mp B;obtain⟨i,hi⟩:=b9.mp J;obtain⟨d,_,o,u,v,f1,f2,_⟩:=Ld cells hi;obtain⟨h1,h2,h3⟩:=L pr J;exact⟨o,u,f1,f2,I.freeC _ _ h1,I.ok.cab _ _ h3 h1,I.cne _ _ h1⟩
 obtain⟨E,eH⟩:∃E:Hp,E=λb=>if b∈U then (s.heap.get? b).map (λo=>HO.frz o (.frz o (.own b))) else H b:=⟨_,rfl⟩
 have eI:∀b o,b∈U->s.heap.get? b=some o->E b=some (.frz o (.frz o (.own b))):=λb o B e=>by rw[eH];dsimp only;rw[aJ B,e];rfl
 have G:mG U H E:=⟨λb B=>by rw[eH];exact aG B,λb B=>let ⟨_,_,_,_,z,_⟩:=C b B;z,λb B=>by obtain⟨o,u,e,d,_⟩:=C b B;exact⟨_,eI b o B e,o,_,rfl,d⟩⟩
 have hc:∀b∈U,∀o u,E b=some (.frz o u)->s.heap.get? b=some o:=λb B o u e=>by obtain⟨o',u',e',_⟩:=C b B;rw[eI b o' B e']at e;cases e;exact e'
 have e0:=TY I G hc λb B=>let ⟨_,_,_,_,_,z1,z2⟩:=C b B;⟨z1,z2⟩
 have nd:(cl.map (·.2)).Nodup:=by refine List.pairwise_iff_getElem.mpr λi j hi hj hij z=>?_;rw[mz,mz]at z;rw[af]at hi hj;have h1:=(L _ (b8 hi)).1;have h2:=(L _ (b8 hj)).1;rw[z]at h1;have h3:=I.ok.inj _ _ _ h1 h2;have:=(List.pairwise_iff_getElem.mp hnn) i j (by rw[af];exact hi) (by rw[af];exact hj) hij;rw[mz,mz]at this;exact this h3
 have sr':SR X.K (ρ++[a]) E (st++[.clo c Y]):=(G.sr sr).keepO na ⟨ob,fd,q,cd,cl,G.le _ _ ha,hd,hf,hcd.up (ρ:=ρ) (ρ1:=ρ) G.up,⟨nd,hcl⟩,by
  have:∀{cl:List (Str×ak)}{Y:List D},(∀p∈cl,p.2∈U)->cW (λ(p:Str×ak)d=>∃o u v,s.heap.get? p.2=some o/\o.data=.cell (some u)/\RelV v u/\c_ X.K ρ H v d) cl Y->cW (rP X.K ρ E) cl Y:=by
   intro cl Y hm J
   induction J with
   |nil=>exact .nil
   |cons r t ih=>
    refine .cons ?_ (ih λp J=>hm p (.tail _ J));obtain⟨o,u,v,h1,h2,h3,h4⟩:=r;exact⟨o,u,v,eI _ _ (hm _ (.head _)) h1,h2,h3,h4.up G.up⟩
  exact this (λp J=>by rw[ecs];exact ik J) cells⟩
 have rs':bA X.K (ρ++[a]) E (vs++[.ref a]) (ds++[.fn st.length]):=bA.app ((rs.up G.up).up Up.grow) (.cons (.fn (by rw[<- sr.len];simp)) .nil);have rv':bQ (vs++[.ref a]) (O++[.ref a]):=by
  have:∀{vs:List V}{O:List ab},bQ vs O->bQ (vs++[.ref a]) (O++[.ref a]):=by
   intro vs O h
   induction h with
   |nil=>exact .cons rfl .nil
   |cons r t ih=>exact .cons r ih
  exact this rv
 unfold callC at p;cases eg:g (ds++[.fn st.length]) (st++[.clo c Y]) with
 |exc _ _=>rw[eg]at p;exact p.elim
 |bad=>rw[eg]at p;exact p.elim
 |ok r st2=>
  rw[eg]at p;dsimp only at p;by_cases hm:st.length < st2.length/\∀m:Nat,m < st.length->st2[m]?=st[m]?\/∃o:MO,st2[m]?=some o/\mr o=false
  ·rw[aJ hm]at p;have Q:mT X.K n g (vs++[V.ref a]) E (λv h=>∃ρ1,SR X.K ρ1 h st2/\Ex (ρ++[a]) E ρ1 h/\c_ X.K ρ1 h v r) E0:=⟨by rw[rs'.length,aN];exact hn,ρ++[a],_,_,sr',rs',by rw[eg];exact λρ1 h H L v rv=>⟨ρ1,L,H,rv⟩⟩
   have hl:((O++[a_ a])++[]).length=ps.length:=by rw[dm,<- rv'.length];exact F.len _ _ _ _ Q
   have q:=B s (O++[.ref a]) I.kIn hl;rw[dm]at q;refine me (kq (F.run X.A X.stack s E ⟨O++[.ref a],[]⟩ _ _ _ E0 hr e0 q rv' Q) λr' s' l=>?_);cases r' with
   |error e=>exact l.elim
   |ok fl=>
    cases fl with
    |ret u=>
     obtain⟨v,h,r1,⟨ρ1,L,H,rr⟩,fz,inv⟩:=Sw I G hc l;obtain⟨c,C⟩:∃c:Hp,c=λb=>if b∈U then none else h b:=⟨_,rfl⟩
     have J:mG U c h:=⟨λb B=>by rw[C];exact (aG B).symm,λb B=>by rw[C];exact aJ B,λb B=>by rw[fz b B];exact G.new b B⟩
     have Y:SR X.K ρ1 c (eD st.length st2):=SR.letgo (st:=st++[.ded]) G J H (sr.keepO (o':=.ded) na ⟨_,ha⟩) L (by simp) λm o=>by rw[ar o];exact hm.2 m o
     exact⟨v,c,inv c J,r1,p ρ1 c (x0.trans (G.ex J H)) Y v (rr.letgo J)⟩
    |next=>exact cK l
    |brk=>exact cK l
    |cont=>exact cK l
  ·rw[aG hm]at p;exact p.elim
end
def Dm(K:ag)(f:CA)(T:TE):TA:=λσ H Q=>∃ρ l st,LR K ρ H σ l/\SR K ρ H st/\aS K ρ H (f l st) λds _ ρ' g=>∀vs,bA K ρ' g vs ds->T σ g λv c=>Q (vs++[v]) c
theorem MN{v:V}:∀{vs:List V}{g:List ab},bQ (vs++[v]) g->∃c u,g=c++[u]/\bQ vs c/\RelV v u
 |[],_,.cons r .nil=>⟨[],_,rfl,.nil,r⟩
 |_::vs,_,.cons r t=>by obtain⟨c,u,e,l,h⟩:=MN t;exact⟨_::c,u,by rw[e];rfl,.cons r l,h⟩
section
variable{X:Cx}{e:Expr}{es:List Expr}{T:TE}{fa:CE}{ca:CA}
theorem YA(h:PE X e T)(g:starEach [e] X.env=[(false,eval e X.env)]:=by rfl):PA X [e] (Dm X.K aH T):=
 (rj h tX g).of λσ H Q c=>by obtain⟨ρ,l,st,o,sr,p⟩:=c;exact p.ret sr [] .nil
theorem S4(U:SE X e fa)(O:PA X es (Dm X.K ca T))(L:starEach (e::es) X.env=(false,eval e X.env)::starEach es X.env:=by rfl):PA X (e::es) (Dm X.K (ac fa ca) T):=
 (rj U O L).of λσ H Q c=>by obtain⟨ρ,l,st,o,sr,p⟩:=c;exact⟨ρ,l,st,o,sr,p.bnd.imp λd g ρ1 H1 u E J v G=>⟨ρ1,l,g,o.mono u,E,J.bnd.imp λds B ρ2 Y q C I vs h=>I.ret C _ (.cons (G.mono q) h)⟩⟩
structure qo(X:Cx)(names:List (Str×c5))(is:List Nat):Prop where
 cel:∀x,(x,bE)∈names->(X.env.kindOf x=some .cell\/X.env.kindOf x=some .free)/\X.fn x=true
 nd:(nZ names).Nodup
 ix:cW (λ(x:Str)i=>X.N[i]?=some x) (nZ names) is
theorem qo.cl{names:List (Str×c5)}{is:List Nat}(h:qo X names is)(ok:X.Ok): ∃cl,gU names X.env.cells []=cl/\cl.map (·.1)=nZ names/\(cl.map (·.1)).Nodup /\
  (∀p∈cl,X.env.cells.lookup p.1=some p.2/\(X.env.kindOf p.1=some .cell\/X.env.kindOf p.1=some .free)/\X.fn p.1=true)/\cW (λ(p:Str×ak)i=>X.N[i]?=some p.1) cl is:=by
 have g:(gU names X.env.cells []).map (·.1)=nZ names:=by rw[Nf names [] λx l=>ok.has x (h.cel x l).1];simp
 refine⟨_,rfl,g,by rw[g];exact h.nd,λp o=>?_,?_⟩
 ·rcases rN names [] o with ⟨a,b⟩|z
  ·exact⟨a,h.cel _ b⟩
  ·cases z
 ·have : ∀(cl : List (Str×ak))(fr : List Str)(is : List Nat), cl.map (·.1) = fr -> cW (λ(x : Str)i => X.N[i]? = some x) fr is -> cW (λ(p : Str×ak)i => X.N[i]? = some p.1) cl is := by
    intro cl
    induction cl with
    |nil=>intro fr is e p;subst e;cases p;exact .nil
    |cons c cl ih=>intro fr is e p;subst e;cases p with|cons r t=>exact .cons r (ih _ _ rfl t)
  exact this _ _ _ g h.ix
end
set_option genInjectivity false in
structure RF where
 n:Nat
 k:Nat
 ps:List Str
 kw:Bool
 g:List D->M D
set_option genInjectivity false in
structure RC where
 sc:cZ
 N:List Str
 k:Nat
 G:List (Str×RF)
 Z:List Str
 C:List (Str×D)
 H:List (Nat×Nat×Nat)
 top:Bool
 W:WT
 T:Option (Nat×Str)
noncomputable def RC.tag(c:RC)(p:Pos)(t:Nat):Bool:=c.H.contains (p.line,p.col,t)
noncomputable def RC.glo(c:RC)(x:Str):Bool:=c.sc.names.lookup x == some .globalImplicit
noncomputable def ug(x:Str):Bool := !((x == ("__debug__":Str))||(x == ("__classdict__":Str))||decide (x=("__name__":Str)))
theorem CP{x:Str}(h:ug x=true):sw x:=QF (by unfold ug at h;simpa only[xn] using h)
def GD(K:ag)(c:cV)(ps:List Str):Prop:=if ps.getLast?=some (aq "most") then ∃u,RelV (.int 500) u/\Binds K c ps [u] else yN K c ps
structure GF(P:Program)(w:bD)(K:ag)(mg:Str->Option ab)(base:bw)(x:Str)(r:RF):Prop where
 ex:∃f fd,mg x=some (.ref f)/\mC P w K mg base rQ r.k f fd r.ps (mT K r.n r.g)/\da K (.ref f)=true/\Binds K fd r.ps []/\(r.kw=true->GD K fd r.ps)
def Ae(P:Program)(w:bD)(K:ag)(mg:Str->Option ab)(base:bw)(W:WT):Prop:=(∀e r,(e,r)∈W.1->Aa P w K mg base r.k r.n e r.g)/\∀c r,(c,r)∈W.2->qF P w K mg base r.k r.n c r.g
structure Good(X:Cx)(c:RC):Prop where
 S:Sc X c.sc
 N:X.N=c.N
 nd:X.N.Nodup
 hr:im c.k X.A
 G:∀x r,c.G.lookup x=some r->GF X.prog X.w X.K X.mg X.base x r
 Z:∀x,c.Z.contains x=true->X.mg x=none
 C:∀x d,c.C.lookup x=some d->∃v u,X.mg x=some u/\RelV v u/\∀ρ H,c_ X.K ρ H v d
 ps:sK (aW X.prog X.w) X.A X.env X.xe
 kd:c.top=true->X.env.blockKind=.function/\∀x,X.env.kindOf x=c.sc.names.lookup x
 W:Ae X.prog X.w X.K X.mg X.base c.W
 T:∀t,c.T=some t->A0 X t.2
theorem Good.hu{X:Cx}{c:RC}(g:Good X c):X.A.units+60 < cL:=Yj g.hr
noncomputable def pO:Expr->Bool
 | .Starred .. => false
 |_=>true
theorem pZ{e:Expr}{c:List Expr}{env:Env}(h:pO e=true):starEach (e::c) env=(false,eval e env)::starEach c env:=by cases e<;>first|rfl|exact nomatch h
theorem Cq{env:Env}{pos:Pos}:∀{c:List Expr},c.all pO=true->(backTo pos (starEach c env)).any (·.1)=false
 |[],_=>rfl
 |e::c,h=>by rw[ck,bj]at h;rw[pZ h.1];exact Cq h.2
theorem N5{env:Env}{pos:Pos}:∀{c:List Expr},c.all pO=true->(backTo pos (starEach c env)).all (λx => !x.1)=true
 |[],_=>rfl
 |e::c,h=>by rw[ck,bj]at h;rw[pZ h.1];exact N5 h.2
noncomputable def Hq:Expr->Bool
 | .ListComp .. => false
 | .SetComp .. => false
 | .DictComp .. => false
 |_=>true
theorem Mf{e:Expr}{t:Option Expr}{n:Nat}{env:Env}(h:Hq e=true):i0 e t n env=pure false:=by cases e<;>first|rfl|exact nomatch h
noncomputable def Dv:Expr->Bool
 | .Set .. => false
 |_=>true
theorem Ls{e:Expr}{env:Env}(h:Dv e=true)(x:ab):fj e env x=pure x:=by cases e<;>first|rfl|exact nomatch h
theorem Mg{op:uo}{e:Expr}(h:Dv e=true):iR op e=false:=by cases e<;>first|rfl|exact nomatch h
noncomputable def GP:Expr->Bool
 | .Call _ [] _ _=>false
 |_=>true
theorem Km{e:Expr}{x:Str}{env:Env}{w:Sem ab}(h:GP e=true):dM e x env w=w:=by
 cases e with
 |Call f as ks p=>
  cases as with
  |nil=>exact nomatch h
  |cons a as=>unfold dM;cases f<;>rfl
 |_=>rfl
noncomputable def Gw:Expr->Bool
 | .Slice .. => false
 |_=>true
theorem Fm{e:Expr}(h:Gw e=true):p9 e:=by intro o i;cases e<;>first|rfl|exact nomatch h
noncomputable def Pl:Expr->Bool
 | .Compare .. => false
 | .BoolOp .. => false
 | .UnaryOp .. => false
 | .IfExp .. => false
 |_=>true
theorem W5{e:Expr}{env:Env}(h:Pl e=true)(w:Sem ab):PySem.isTrue e env w=(do let v <- w;wY e.pos;mH [v] (truthy v)):=by cases e<;>first|rfl|exact nomatch h
abbrev EM(c:RC)(x:Expr):={r:CE // ∀{X:Cx},Good X c->SE X x r}
abbrev L4(c:RC)(x:Expr):={r:CA // ∀{X:Cx},Good X c->SL X x r}
abbrev O0(c:RC)(x:Expr):={r:CT // ∀{X:Cx},Good X c->ST X x r}
abbrev Lm(c:RC)(tg x:Expr):={r:CI // ∀{X:Cx},Good X c->SI X tg x r}
abbrev JI(c:RC)(x:Expr):={r:CG // ∀{X:Cx},Good X c->SG X x r}
abbrev O8(c:RC)(x:Stmt):={r:CS // ∀{X:Cx},Good X c->SS X x r}
set_option genInjectivity false in
structure rW where
 e:∀(c:RC)(x:Expr),Option (EM c x)
 l:∀(c:RC)(x:Expr),Option (L4 c x)
 t:∀(c:RC)(x:Expr),Option (O0 c x)
 i:∀(c:RC)(tg x:Expr),Option (Lm c tg x)
 g:∀(c:RC)(x:Expr),Option (JI c x)
 s:∀(c:RC)(x:Stmt),Option (O8 c x)
abbrev kW:=rW->∀(c:RC)(x:Expr),Option (EM c x)
abbrev CQ:=rW->∀(c:RC)(x:Expr),Option (L4 c x)
abbrev DN:=rW->∀(c:RC)(x:Expr),Option (O0 c x)
abbrev z7:=rW->∀(c:RC)(tg x:Expr),Option (Lm c tg x)
abbrev Gn:=rW->∀(c:RC)(x:Expr),Option (JI c x)
abbrev uT:=rW->∀(c:RC)(x:Stmt),Option (O8 c x)
set_option genInjectivity false in
structure mP where
 e:List kW
 l:List CQ
 t:List DN
 i:List z7
 g:List Gn
 s:List uT
noncomputable def ue{α β:Type}(f:α->Option β):List α->Option β
 |[]=>none
 |a::as=>match f a with
  |some b=>some b
  |none=>ue f as
def nY(R:mP):Nat->rW
 |0=>⟨λ_ _=>none,λ_ _=>none,λ_ _=>none,λ_ _ _=>none,λ_ _=>none,λ_ _=>none⟩
 |n+1 => ⟨λc x => ue (λr => r (nY R n) c x) R.e, λc x => ue (λr => r (nY R n) c x) R.l, λc x => ue (λr => r (nY R n) c x) R.t,
   λc tg x=>ue (λr=>r (nY R n) c tg x) R.i,λc x=>ue (λr=>r (nY R n) c x) R.g,λc x=>ue (λr=>r (nY R n) c x) R.s⟩
noncomputable def wh{α:Type}(C:Prop)[Decidable C](k:C->Option α):Option α:=if h:C then k h else none
section
variable{β:Type}
section
variable{α:Type}(e:List α)
noncomputable def v0(k:e=[]->Option β):Option β:=match e,k with
 |[],k=>k rfl
 |_,_=>none
noncomputable def vC(k:∀a c,e=a::c->Option β):Option β:=match e,k with
 |a::c,k=>k a c rfl
 |_,_=>none
def v1(k:∀a,e=[a]->Option β):Option β:=vC e λa g h=>v0 g λc=>k a (c ▸ h)
def v2(k:∀a b,e=[a,b]->Option β):Option β:=vC e λa g h=>v1 g λb c=>k a b (c ▸ h)
end
section
variable{α:Type}(e:Option α)
noncomputable def oN(k:e=none->Option β):Option β:=match e,k with
 |none,k=>k rfl
 |_,_=>none
noncomputable def oS(k:∀a,e=some a->Option β):Option β:=match e,k with
 |some a,k=>k a rfl
 |_,_=>none
end
section
variable(e:Expr)
noncomputable def vk(k:∀x p,e=.Name x p->Option β):Option β:=match e,k with
 | .Name x p,k=>k x p rfl
 |_,_=>none
noncomputable def Hx(k:∀f c ks p,e=.Call f c ks p->Option β):Option β:=match e,k with
 | .Call f c ks p,k=>k f c ks p rfl
 |_,_=>none
noncomputable def P_(k:∀o x p,e=.Attribute o x p->Option β):Option β:=match e,k with
 | .Attribute o x p,k=>k o x p rfl
 |_,_=>none
noncomputable def D7(k:∀a b p,e=.Subscript a b p->Option β):Option β:=match e,k with
 | .Subscript a b p,k=>k a b p rfl
 |_,_=>none
noncomputable def Nw(k:∀v n p,e=.Constant v n p->Option β):Option β:=match e,k with
 | .Constant v n p,k=>k v n p rfl
 |_,_=>none
noncomputable def J1(k:∀a o b p,e=.BinOp a o b p->Option β):Option β:=match e,k with
 | .BinOp a o b p,k=>k a o b p rfl
 |_,_=>none
noncomputable def YW(k:∀a os bs p,e=.Compare a os bs p->Option β):Option β:=match e,k with
 | .Compare a os bs p,k=>k a os bs p rfl
 |_,_=>none
noncomputable def M1(k:∀o c p,e=.BoolOp o c p->Option β):Option β:=match e,k with
 | .BoolOp o c p,k=>k o c p rfl
 |_,_=>none
noncomputable def PU(k:∀o a p,e=.UnaryOp o a p->Option β):Option β:=match e,k with
 | .UnaryOp o a p,k=>k o a p rfl
 |_,_=>none
noncomputable def WP(k:∀t a b p,e=.IfExp t a b p->Option β):Option β:=match e,k with
 | .IfExp t a b p,k=>k t a b p rfl
 |_,_=>none
noncomputable def Bx(k:∀c n p,e=.Tuple c n p->Option β):Option β:=match e,k with
 | .Tuple c n p,k=>k c n p rfl
 |_,_=>none
noncomputable def Uf(k:∀c p,e=.List c p->Option β):Option β:=match e,k with
 | .List c p,k=>k c p rfl
 |_,_=>none
noncomputable def Ib(k:∀ks vs p,e=.Dict ks vs p->Option β):Option β:=match e,k with
 | .Dict ks vs p,k=>k ks vs p rfl
 |_,_=>none
noncomputable def Wg(k:∀a b s p,e=.Slice a b s p->Option β):Option β:=match e,k with
 | .Slice a b s p,k=>k a b s p rfl
 |_,_=>none
noncomputable def UJ(k:∀x c sc p,e=.ListComp x c sc p->Option β):Option β:=match e,k with
 | .ListComp x c sc p,k=>k x c sc p rfl
 |_,_=>none
def vStr(k:∀x n p,e=.Constant (.str x) n p->Option β):Option β:=Nw e λv n p h=>match v,h with
 | .str x,h=>k x n p h
 |_,_=>none
def DY(k:∀x p c q,e=.Call (.Name x p) c [] q->Option β):Option β:=Hx e λf c ks q h=>vk f λx p l=>v0 ks λg=>k x p c q (l ▸ g ▸ h)
def EK(k:∀x p a q,e=.Call (.Name x p) [a] [] q->Option β):Option β:=DY e λx p g q h=>v1 g λa c=>k x p a q (c ▸ h)
def Kk(k:∀x p a b q,e=.Call (.Name x p) [a,b] [] q->Option β):Option β:=DY e λx p g q h=>v2 g λa b c=>k x p a b q (c ▸ h)
def KP(k:∀x p y r a q c,e=.Call (.Name x p) [.Call (.Name y r) [a] [] q] [] c->Option β):Option β:=EK e λx p b c h=>EK b λy r a q g=>k x p y r a q c (g ▸ h)
def vM(k:∀o x p c q,e=.Call (.Attribute o x p) c [] q->Option β):Option β:=Hx e λf c ks q h=>P_ f λo x p l=>v0 ks λg=>k o x p c q (l ▸ g ▸ h)
def Vf(k:∀a o b p,e=.Compare a [o] [b] p->Option β):Option β:=YW e λa os bs p h=>v1 os λo g=>v1 bs λb c=>k a o b p (g ▸ c ▸ h)
def Ea(k:∀a lo c p q,e=.Subscript a (.Slice lo c none p) q->Option β):Option β:=D7 e λa b q h=>Wg b λlo c s p l=>oN s λg=>k a lo c p q (g ▸ l ▸ h)
end
section
variable(e:Stmt)
noncomputable def Rm(k:∀c a p,e=.Assign c a p->Option β):Option β:=match e,k with
 | .Assign c a p,k=>k c a p rfl
 |_,_=>none
noncomputable def QI(k:∀t o a p,e=.AugAssign t o a p->Option β):Option β:=match e,k with
 | .AugAssign t o a p,k=>k t o a p rfl
 |_,_=>none
noncomputable def Vh(k:∀o p,e=.Return o p->Option β):Option β:=match e,k with
 | .Return o p,k=>k o p rfl
 |_,_=>none
noncomputable def Xi(k:∀a p,e=.Expr a p->Option β):Option β:=match e,k with
 | .Expr a p,k=>k a p rfl
 |_,_=>none
noncomputable def QM(k:∀t a b p,e=.If t a b p->Option β):Option β:=match e,k with
 | .If t a b p,k=>k t a b p rfl
 |_,_=>none
noncomputable def US(k:∀t a b p,e=.While t a b p->Option β):Option β:=match e,k with
 | .While t a b p,k=>k t a b p rfl
 |_,_=>none
noncomputable def Sj(k:∀t i a b p,e=.For t i a b p->Option β):Option β:=match e,k with
 | .For t i a b p,k=>k t i a b p rfl
 |_,_=>none
noncomputable def U4(k:∀a b p,e=.Raise a b p->Option β):Option β:=match e,k with
 | .Raise a b p,k=>k a b p rfl
 |_,_=>none
def CH(k:∀t a p,e=.Assign [t] a p->Option β):Option β:=Rm e λc a p h=>v1 c λt g=>k t a p (g ▸ h)
end
end
abbrev VH(c:RC)(h:List Expr):={r:CA // (∀{X:Cx},Good X c->SA X h r)/\h.all pO=true/\∀l st ds g,r l st=.ok ds g->ds.length=h.length}
def wP(q:rW)(c:RC):∀h:List Expr,Option (VH c h)
 |[]=>some ⟨aH,λ_=>NT,rfl,Si⟩
 |e::h=>wh (pO e=true) λl=>(q.e c e).bind λf=>(wP q c h).bind λr=>some ⟨ac f.1 r.1,λg=>LF (f.2 g) (r.2.1 g) (pZ l),by rw[ck,l,r.2.2.1];rfl,UO r.2.2.2⟩
abbrev XD(c:RC)(e:Option Expr):={r:CO // ∀{X:Cx},Good X c->SO X e r}
def yW(q:rW)(c:RC):∀e:Option Expr,Option (XD c e)
 |none=>some ⟨gY,λ_=>Tb⟩
 |some e=>(q.e c e).bind λf=>some ⟨gc f.1,λg=>XI (f.2 g)⟩
abbrev HX(c:RC)(g:List Stmt):={r:CS // ∀{X:Cx},Good X c->wO X g r}
def o8(q:rW)(c:RC):∀h:List Stmt,Option (HX c h)
 |[]=>some ⟨aY,λ_=>Vi⟩
 |s::h=>(q.s c s).bind λa=>(o8 q c h).bind λb=>some ⟨aK a.1 b.1,λg=>PB (a.2 g) (b.2 g)⟩
def FM(c:RC)(x:Str):Option {i:Nat // c.N[i]?=some x/\(c.sc.names.lookup x=some .local\/c.sc.names.lookup x=some .cell\/c.sc.names.lookup x=some .free)/\ug x=true}:=wh _ λh=>some ⟨c.N.idxOf x,h⟩
theorem NZ{X:Cx}{c:RC}{x:Str}{i:Nat}{p:Pos}(g:Good X c)(h:c.N[i]?=some x/\(c.sc.names.lookup x=some .local\/c.sc.names.lookup x=some .cell\/c.sc.names.lookup x=some .free)/\ug x=true):SE X (.Name x p) (al i):=by
 obtain⟨o,l,q⟩:=h;rw[<- g.N]at o;rcases l with l|l|l
 ·exact J5 g.S _ o l (CP q) (.inl rfl)
 ·exact J5 g.S _ o l (CP q) (.inr (.inl rfl))
 ·exact J5 g.S _ o l (CP q) (.inr (.inr rfl))
def HZ:kW:=λ_ c e=>vk e λx _ h=>(FM c x).bind λi=>some ⟨al i.1,λg=>h ▸ NZ g i.2⟩
def Nh{α:Type}(l:List (Str × α))(x:Str):Option {a:α // l.lookup x=some a}:=oS (l.lookup x) λa h=>some ⟨a,h⟩
noncomputable def DA:Const->Option D
 | .int i=>some (.int i)
 | .str i=>some (.str i)
 | .bool i=>some (.bl i)
 | .none=>some .non
 |_=>none
theorem Xe{X:Cx}{v:Const}{n:Nat}{p:Pos}{d:D}(h:DA v=some d):SE X (.Constant v n p) (aw d):=by
 cases v<;>cases h
 ·exact Rf
 ·exact Sy
 ·exact YI
 ·exact Vv
def XS{α:Type}(o:Option α):Option {a:α // o=some a}:=oS o λa h=>some ⟨a,h⟩
def Kf:kW:=λ_ _ e=>Nw e λv _ _ h=>(XS (DA v)).bind λd=>some ⟨aw d.1,λ_=>h ▸ Xe d.2⟩
def Fq:kW:=λq c e=>(q.l c e).bind λa=>some ⟨cY a.1,λg=>Xv (a.2 g)⟩
abbrev Vl(op:rB)(f:D->D->M D):Prop:=∀{X:Cx},X.A.units+60 < cL->OpR X (eG op) (py X.K f)
abbrev Qq(op:uo)(f:D->D->M D):Prop:=∀{X:Cx},X.A.units+60 < cL->OpR X (cG op) (py X.K f)
def CB(o:rB)(f:D->D->M D)(h:Vl o f):kW:=λq c e=>J1 e λa op b _ B=>wh (op=o) λz=>(q.e c a).bind λu=>(q.e c b).bind λl=>some ⟨c2 f u.1 l.1,λg=>B ▸ z ▸ Ox (h g.hu) (u.2 g) (l.2 g)⟩
abbrev Rg(c:RC)(x:Expr):={r:CE // ∀{X:Cx},Good X c->SE X x r/\ST X x (dg r)}
abbrev uS:=rW->∀(c:RC)(x:Expr),Option (Rg c x)
noncomputable def uS.e(r:uS):kW:=λq c x=>(r q c x).bind λf=>some ⟨f.1,λg=>(f.2 g).1⟩
def uS.t(r:uS):DN:=λq c x=>(r q c x).bind λf=>some ⟨dg f.1,λg=>(f.2 g).2⟩
def sG(o:uo)(f:D->D->M D)(h:Qq o f):uS:=λq c e=>Vf e λa op b _ B=>wh (op=o/\Dv b=true) λz=>(q.e c a).bind λu=>(q.e c b).bind λl=>some ⟨c2 f u.1 l.1,λg=>B ▸ z.1 ▸ ⟨XN (h g.hu) (u.2 g) (l.2 g) (Mg z.2),Xb (h g.hu) (u.2 g) (l.2 g) (Mg z.2)⟩⟩
def FT(q:rW)(c:RC)(p:Pos):∀o:List Expr,Option (EM c (.BoolOp .And o p))
 |[a]=>(q.e c a).bind λh=>some ⟨h.1,λg=>MZ (h.2 g)⟩
 |a::b::r=>(q.e c a).bind λh=>(FT q c p (b::r)).bind λl=>some ⟨tj h.1 l.1,λg=>RM (h.2 g) (l.2 g)⟩
 |_=>none
def Mm(q:rW)(c:RC)(p:Pos):∀o:List Expr,Option (EM c (.BoolOp .Or o p))
 |[a]=>(q.e c a).bind λh=>some ⟨h.1,λg=>MZ (h.2 g)⟩
 |a::b::r=>(q.e c a).bind λh=>(Mm q c p (b::r)).bind λl=>some ⟨OE h.1 l.1,λg=>QL (h.2 g) (l.2 g)⟩
 |_=>none
def Kc:kW:=λq c e=>M1 e λo l p h=>match o,h with
 | .And,h=>(FT q c p l).bind λf=>some ⟨f.1,λg=>h ▸ f.2 g⟩
 | .Or,h=>(Mm q c p l).bind λf=>some ⟨f.1,λg=>h ▸ f.2 g⟩
def HQ:kW:=λq c e=>WP e λt a b _ h=>(q.t c t).bind λl=>(q.e c a).bind λu=>(q.e c b).bind λo=>some ⟨wM l.1 u.1 o.1,λg=>h ▸ UN (l.2 g) (u.2 g) (o.2 g)⟩
def JZ:kW:=λq c e=>Bx e λo _ _ h=>(wP q c o).bind λl=>some ⟨bo l.1,λg=>h ▸ W7 (l.2.1 g)⟩
def yP:kW:=λq c e=>Ea e λa lo B _ p h=>wh (c.tag p 1=true) λ_=>(q.e c a).bind λu=>(yW q c lo).bind λl=>(yW q c B).bind λo=>some ⟨dP u.1 l.1 o.1,λg=>h ▸ UA (u.2 g) (l.2 g) (o.2 g)⟩
def zB:kW:=λq c e=>D7 e λa b _ h=>wh (Gw b=true) λz=>(q.l c a).bind λo=>(q.e c b).bind λl=>some ⟨kF o.1 l.1,λg=>h ▸ U_ (o.2 g) (l.2 g) (Fm z)⟩
def D6:kW:=λq c e=>D7 e λa b _ h=>wh (Gw b=true) λz=>(q.e c a).bind λo=>(q.e c b).bind λl=>some ⟨c2 aQ o.1 l.1,λg=>h ▸ QA g.hu (o.2 g) (l.2 g) (Fm z)⟩
theorem Ts{X:Cx}{p:Pos}:∀{b:Bool},SE X (.Dict [] [] p) (qL b)
 |false=>Ut
 |true=>Tn
def Ej:kW:=λ_ c e=>Ib e λks vs p h=>v0 ks λl=>v0 vs λg=>some ⟨qL (c.tag p 2),λ_=>h ▸ l ▸ g ▸ Ts⟩
abbrev WW(c:RC)(p:Pos)(ks:List (Option Expr))(vs:List Expr):={r:List Key×CA // (∀{X:Cx},Good X c->F4 X p ks vs r.1 r.2)/\ks.all (·.isSome)=true/\ks.length=vs.length/\r.1.length=ks.length}
def ET(q:rW)(c:RC)(p:Pos):∀(ks:List (Option Expr))(vs:List Expr),Option (WW c p ks vs)
 |[],vs=>v0 vs λh=>some ⟨([],aH),λ_=>h ▸ YH,rfl,h ▸ rfl,rfl⟩
 |k::ks,vs=>vC vs λv l h=>oS k λu o=>vStr u λx _ _ B=>(q.e c v).bind λf=>(ET q c p ks l).bind λr=>some ⟨(.inr x::r.1.1,ac f.1 r.1.2),λg=>h ▸ o ▸ B ▸ U2 (f.2 g) (r.2.1 g),by rw[ck,r.2.2.1,o];rfl,h ▸ cU (· + 1) r.2.2.2.1,cU (· + 1) r.2.2.2.2⟩
def Ft:kW:=λq c e=>Ib e λks vs p h=>wh (ks≠[]/\ks.length<=15) λz=>(ET q c p ks vs).bind λr=>some ⟨tf (r.1.1.map mW) r.1.2,λg=>h ▸ XX (r.2.1 g) r.2.2.1 r.2.2.2.1 z.1 z.2 (by rw[r.2.2.2.2];exact z.2)⟩
def Ek(x:String)(f:CE->CE)(h:∀{X:Cx}{o:Expr}{B:CE}{u l:Pos},SE X o B->dM o (aq x) X.env (eval o X.env)=eval o X.env->(u.endLine == l.line)=true->SE X (.Call (.Attribute o (aq x) u) [] [] l) (f B)):kW:=
 λq c e=>vM e λo y I H G E=>v0 H λC=>wh (y=aq x/\GP o=true/\(I.endLine == G.line)=true) λz=>(q.e c o).bind λB=>some ⟨f B.1,λg=>by subst E C;exact z.1 ▸ h (B.2 g) (Km z.2.1) z.2.2⟩
noncomputable abbrev Hh(X:Cx)(c:Pos)(g:List Expr):Prop:=((backTo c (starEach g X.env)).all (λx => !x.1)&&(nA c (i6 [] X.env)).all (λx=>x.1.isSome)&&decide (g.length+([]:List g_).length+(if ([]:List g_).isEmpty then 0 else 1) < 30))=true
theorem Fi{X:Cx}{c:Pos}{g:List Expr}(h:g.all pO=true)(l:g.length < 30):Hh X c g:=by unfold Hh;rw[N5 h];exact (bj _ _).mpr ⟨rfl,cT l⟩
def wK(x:String)(f:CE->CE->CE)(ok:RC->Pos->Bool) (h:∀{X:Cx}{o e:Expr}{C B:CE}{u l:Pos},X.A.units+60 < cL->SE X o C->SE X e B->dM o (aq x) X.env (eval o X.env)=eval o X.env->Hh X l [e]->(u.endLine == l.line)=true ->
  starEach [e] X.env=(false,eval e X.env)::starEach [] X.env->(backTo l (starEach [] X.env)).any (·.1)=false->SE X (.Call (.Attribute o (aq x) u) [e] [] l) (f C B)):kW:=
 λq c e=>vM e λo y Q O G L=>v1 O λa J=>wh (y=aq x/\GP o=true/\pO a=true/\ok c G=true/\(Q.endLine == G.line)=true) λz=>(q.e c o).bind λC=>(q.e c a).bind λB=>some ⟨f C.1 B.1,λg=>by subst L J;obtain⟨rfl,I,E,_,H⟩:=z;exact h g.hu (C.2 g) (B.2 g) (Km I) (Fi (by rw[ck,E];rfl) (u7 rfl)) H (pZ E) rfl⟩
def Fy(x:String)(f:CE->CE->CE->CE) (h:∀{X:Cx}{o I u:Expr}{H G E:CE}{B l:Pos},X.A.units+60 < cL->SE X o H->SE X I G->SE X u E->dM o (aq x) X.env (eval o X.env)=eval o X.env->Hh X l [I,u]->(B.endLine == l.line)=true ->
  starEach [I,u] X.env=(false,eval I X.env)::starEach [u] X.env->starEach [u] X.env=(false,eval u X.env)::starEach [] X.env->(backTo l (starEach [u] X.env)).any (·.1)=false->SE X (.Call (.Attribute o (aq x) B) [I,u] [] l) (f H G E)):kW:=
 λq c e=>vM e λo y ap as Y U=>v2 as λa b Q=>wh (y=aq x/\GP o=true/\pO a=true/\pO b=true/\(ap.endLine == Y.line)=true) λz=>(q.e c o).bind λH=>(q.e c a).bind λG=>(q.e c b).bind λE=>some ⟨f H.1 G.1 E.1,λg=>by subst U Q;obtain⟨rfl,O,J,C,L⟩:=z;exact h g.hu (H.2 g) (G.2 g) (E.2 g) (Km O) (Fi (by rw[ck,J,ck,C];rfl) (u7 rfl)) L (pZ J) (pZ C) (Cq (by rw[ck,C];rfl))⟩
def Dx:kW:=λq c e=>DY e λx _ h _ J=>vC h λa h I=>(Nh c.G x).bind λr=>wh (c.glo x=true/\ug x=true/\r.1.k<=c.k/\r.1.n=(a::h).length) λz=>(wP q c (a::h)).bind λo=>some ⟨bu r.1.g o.1,λg=>by subst J I;obtain⟨H,G,E,C⟩:=z;obtain⟨f,L,m,F,u,B,_⟩:=(g.G _ _ r.2).ex;obtain⟨x,y,l⟩:=o.2;rw[ck,bj]at y;exact V8 g.S (beq_iff_eq.mp H) F (g.hr.mono E) m u B (CP G) (x g) (by rw[C];exact l) (pZ y.1) (Cq y.2)⟩
def RC.bl(c:RC)(x:Str):Bool:=c.glo x&&c.Z.contains x
theorem Good.gl{X:Cx}{c:RC}(g:Good X c){x:Str}(h:c.bl x=true):Gl X x/\X.mg x=none:=by unfold RC.bl at h;rw[bj]at h;exact⟨g.S.glo _ (beq_iff_eq.mp h.1),g.Z _ h.2⟩
def uk(x:String)(ok:RC->Pos->Bool)(f:List D->M D)(h:∀{X:Cx}{e:Expr}{u:CA}{p pos:Pos},X.calm=true->X.A.units+60 < cL->Gl X (aq x)->X.mg (aq x)=none->SL X e u->starEach [e] X.env=[(false,eval e X.env)]->SE X (.Call (.Name (aq x) p) [e] [] pos) (iQ f u)):kW:=
 λq c e=>EK e λy _ a p e=>wh (y=aq x/\c.bl y=true/\pO a=true/\ok c p=true) λz=>(q.l c a).bind λo=>some ⟨iQ f o.1,λg=>by subst e;obtain⟨rfl,l,B,_⟩:=z;exact h g.S.calm g.hu (g.gl l).1 (g.gl l).2 (o.2 g) (pZ B)⟩
def wS(x:String)(ok:RC->Pos->Bool)(f:D->M D)(h:∀{X:Cx}{e:Expr}{l:CE}{p pos:Pos},X.calm=true->X.A.units+60 < cL->Gl X (aq x)->X.mg (aq x)=none->SE X e l->starEach [e] X.env=[(false,eval e X.env)]->SE X (.Call (.Name (aq x) p) [e] [] pos) (c1 f l)):kW:=
 λq c e=>EK e λy _ a p e=>wh (y=aq x/\c.bl y=true/\pO a=true/\ok c p=true) λz=>(q.e c a).bind λl=>some ⟨c1 f l.1,λg=>by subst e;obtain⟨rfl,o,u,_⟩:=z;exact h g.S.calm g.hu (g.gl o).1 (g.gl o).2 (l.2 g) (pZ u)⟩
def HR(x:String)(ok:RC->Pos->Bool)(f:D->D->M D) (h:∀{X:Cx}{a b:Expr}{u o:CE}{p pos:Pos},X.calm=true->X.A.units+60 < cL->Gl X (aq x)->X.mg (aq x)=none->SE X a u->SE X b o->starEach [a,b] X.env=(false,eval a X.env)::starEach [b] X.env->starEach [b] X.env=(false,eval b X.env)::starEach [] X.env ->
  (backTo pos (starEach [b] X.env)).any (·.1)=false->SE X (.Call (.Name (aq x) p) [a,b] [] pos) (c2 f u o)):kW:=
 λq c e=>Kk e λy _ a b p e=>wh (y=aq x/\c.bl y=true/\pO a=true/\pO b=true/\ok c p=true) λz=>(q.e c a).bind λu=>(q.e c b).bind λo=>some ⟨c2 f u.1 o.1,λg=>by subst e;obtain⟨rfl,B,C,l,_⟩:=z;exact h g.S.calm g.hu (g.gl B).1 (g.gl B).2 (u.2 g) (o.2 g) (pZ C) (pZ l) (Cq (by rw[ck,l];rfl))⟩
def ER(x y:String)(ok:RC->Pos->Bool)(f:CA->CE)(h:∀{X:Cx}{e:Expr}{o:CA}{p G pos l:Pos},X.calm=true->X.A.units+60 < cL->Gl X (aq x)->X.mg (aq x)=none->Gl X (aq y)->X.mg (aq y)=none->SL X e o->starEach [e] X.env=[(false,eval e X.env)]->SE X (.Call (.Name (aq x) p) [.Call (.Name (aq y) G) [e] [] l] [] pos) (f o)):kW:=
 λq c e=>KP e λB _ u _ a _ p e=>wh (B=aq x/\u=aq y/\c.bl B=true/\c.bl u=true/\pO a=true/\ok c p=true) λz=>(q.l c a).bind λo=>some ⟨f o.1,λg=>by subst e;obtain⟨rfl,rfl,E,C,H,_⟩:=z;exact h g.S.calm g.hu (g.gl E).1 (g.gl E).2 (g.gl C).1 (g.gl C).2 (o.2 g) (pZ H)⟩
def Ho(x y:String)(ok:RC->Pos->Bool)(f:D->M D)(h:∀{X:Cx}{e:Expr}{o:CE}{p G pos l:Pos},X.calm=true->X.A.units+60 < cL->Gl X (aq x)->X.mg (aq x)=none->Gl X (aq y)->X.mg (aq y)=none->SE X e o->starEach [e] X.env=[(false,eval e X.env)]->SE X (.Call (.Name (aq x) p) [.Call (.Name (aq y) G) [e] [] l] [] pos) (c1 f o)):kW:=
 λq c e=>KP e λB _ u _ a _ p e=>wh (B=aq x/\u=aq y/\c.bl B=true/\c.bl u=true/\pO a=true/\ok c p=true) λz=>(q.e c a).bind λo=>some ⟨c1 f o.1,λg=>by subst e;obtain⟨rfl,rfl,E,C,H,_⟩:=z;exact h g.S.calm g.hu (g.gl E).1 (g.gl E).2 (g.gl C).1 (g.gl C).2 (o.2 g) (pZ H)⟩
def HU(y:String)(T:uJ y)(h:bT (aq y)=some (.type y))(C:aq y≠aq "__name__")(B:(aq y == aq "__debug__")=false):kW:=
 λq c e=>Kk e λz _ a b _ H=>vk b λx _ G=>wh (z=aq "isinstance"/\x=aq y/\c.bl z=true/\c.bl x=true/\pO a=true) λz=>(q.e c a).bind λu=>some ⟨c1 (kj [y]) u.1,λg=>by subst H G;obtain⟨rfl,rfl,o,l,E⟩:=z;exact Wo T (g.gl o).1 (g.gl o).2 (g.gl l).1 (g.gl l).2 h (u.2 g) (by nofun) C B (pZ E) rfl rfl⟩
section
def HL:CQ:=λq c e=>Uf e λo _ h=>(wP q c o).bind λl=>some ⟨eV l.1,λg=>h ▸ X5 (l.2.1 g)⟩
def A4:CQ:=λq c e=>J1 e λa o b _ h=>wh (o=.Mult) λz=>(q.l c a).bind λu=>(q.e c b).bind λl=>some ⟨qI u.1 l.1,λg=>h ▸ z ▸ V3 (u.2 g) (l.2 g)⟩
def BE:CQ:=λq c e=>Ea e λa lo B _ p h=>wh (c.tag p 1=false) λ_=>(q.e c a).bind λu=>(yW q c lo).bind λl=>(yW q c B).bind λo=>some ⟨qC u.1 l.1 o.1,λg=>h ▸ QE (u.2 g) (l.2 g) (o.2 g)⟩
def JB:CQ:=λq c e=>KP e λx _ y _ a _ _ h=>wh (x=aq "list"/\y=aq "reversed"/\c.bl x=true/\c.bl y=true/\pO a=true) λz=>(q.l c a).bind λu=>some ⟨wo u.1,λg=>by subst h;obtain⟨rfl,rfl,o,l,B⟩:=z;exact Q9 g.S.calm (g.gl o).1 (g.gl o).2 (by nofun) (g.gl l).1 (g.gl l).2 (by nofun) (u.2 g) (pZ B) rfl⟩
noncomputable def xA:Nat->Expr->List Str
 |_,.Name x _=>[x]
 |n+1,.Tuple es _ _=>es.flatMap (xA n)
 |_,_=>[]
abbrev Di(c:RC)(g:List Expr):={r:CT // ∀{X:Cx},Good X c->we X g r}
def IS(q:rW)(c:RC):∀h:List Expr,Option (Di c h)
 |[]=>some ⟨cz,λ_=>SF⟩
 |[t]=>(q.t c t).bind λf=>some ⟨f.1,λg=>UY (f.2 g)⟩
 |_=>none
noncomputable def RC.inn(c:RC)(sc:cZ)(own:List Str):RC:={ c with sc:=sc,N:=own++c.N.filter λx=>sc.names.lookup x == some .free,top:=false,T:=none }
noncomputable def RC.ix(c:RC)(sc:cZ):List Nat:=(c.N.filter λx=>sc.names.lookup x == some .free).map c.N.idxOf
def RC.cok(c:RC)(sc:cZ)(own:List Str)(b:Expr):Prop:=sq c.sc sc=true/\qz c.N sc (c.inn sc own).N own.length (c.ix sc)=true/\(c.inn sc own).N.Nodup/\Dv b=true
instance(c:RC)(sc:cZ)(own:List Str)(b:Expr):Decidable (c.cok sc own b):=by unfold RC.cok;infer_instance
theorem Good.inn{X:Cx}{c:RC}(g:Good X c){sc:cZ}{own:List Str}{b:Expr}(h:c.cok sc own b)(l:List ak)(s:am)(H:Hp):Good (oq X (c.inn sc own).N sc l s H) (c.inn sc own):=
 ⟨YK g.S.calm,rfl,h.2.2.1,g.hr,λx r z=>⟨(g.G x r z).ex⟩,g.Z,g.C,lV,nofun,g.W,λ_ z=>nomatch z⟩
set_option genInjectivity false in
structure IN(c:RC)(e:Expr) where
 x:Expr
 tg:Expr
 b:Expr
 ifs:List Expr
 sc:cZ
 p:Pos
 eq:e=.ListComp x [⟨tg,b,ifs,0⟩] sc p
 ok:c.cok sc (xA 8 tg).eraseDups b
 i:Lm c tg b
 g:JI (c.inn sc (xA 8 tg).eraseDups) tg
 t:Di (c.inn sc (xA 8 tg).eraseDups) ifs
 f:EM (c.inn sc (xA 8 tg).eraseDups) x
def IN.r{c:RC}{e:Expr}(m:IN c e):CA:=dF (xA 8 m.tg).eraseDups.length (c.ix m.sc) m.i.1 m.g.1 m.t.1 m.f.1
theorem Se{a:Comprehension}(h:a.is_async=0):a=⟨a.target,a.iter,a.ifs,0⟩:=by cases a;exact cU _ h
def DJ(q:rW)(c:RC)(e:Expr):Option (IN c e):=UJ e λx o sc p h=>v1 o λa l=>wh (a.is_async=0/\c.cok sc (xA 8 a.target).eraseDups a.iter) λz=>
 (q.i c a.target a.iter).bind λu=>(q.g (c.inn sc (xA 8 a.target).eraseDups) a.target).bind λg=>(IS q (c.inn sc (xA 8 a.target).eraseDups) a.ifs).bind λt=>(q.e (c.inn sc (xA 8 a.target).eraseDups) x).bind λf=>
  some ⟨x,a.target,a.iter,a.ifs,sc,p,by rw[h,l,<- Se z.1],z.2,u,g,t,f⟩
def ES:CQ:=λq c e=>(DJ q c e).bind λm=>some ⟨m.r,λg=>by obtain⟨x,tg,b,u,sc,p,rfl,ok,l,mg,mt,o⟩:=m;exact S3 g.S.calm (Mz g.S ok.1) (NY g.N ok.2.1) (l.2 g) (λh s H=>⟨mg.2 (g.inn ok h s H),mt.2 (g.inn ok h s H),o.2 (g.inn ok h s H)⟩) (Ls ok.2.2.2)⟩
abbrev OV(c:RC)(o:BoolOp)(g:List Expr):={r:CT // ∀{X:Cx}{p:Pos},Good X c->PW X (.BoolOp o g p) (pP X.K r)}
def Ak(q:rW)(c:RC):∀o:List Expr,Option (OV c .And o)
 |[]=>none
 |[a]=>(q.t c a).bind λh=>some ⟨h.1,λg=>YU (h.2 g)⟩
 |a::b::r=>(q.t c a).bind λh=>(Ak q c (b::r)).bind λl=>some ⟨qK h.1 l.1,λg=>UX (h.2 g) (l.2 g)⟩
def EL(q:rW)(c:RC):∀o:List Expr,Option (OV c .Or o)
 |[]=>none
 |[a]=>(q.t c a).bind λh=>some ⟨h.1,λg=>W6 (h.2 g)⟩
 |a::b::r=>(q.t c a).bind λh=>(EL q c (b::r)).bind λl=>some ⟨wB h.1 l.1,λg=>Vg (h.2 g) (l.2 g)⟩
def AZ:DN:=λq c e=>M1 e λo l p h=>match o,h with
 | .And,h=>(Ak q c l).bind λf=>some ⟨f.1,λg=>h ▸ L2.PW.pt (f.2 g)⟩
 | .Or,h=>(EL q c l).bind λf=>some ⟨f.1,λg=>h ▸ L2.PW.pt (f.2 g)⟩
def BV:DN:=λq c e=>PU e λo a _ h=>wh (o=.Not) λz=>(q.t c a).bind λf=>some ⟨sX f.1,λg=>h ▸ z ▸ TQ (f.2 g)⟩
def UZ:DN:=λq c e=>wh (Pl e=true) λz=>(q.e c e).bind λf=>some ⟨sD f.1,λg=>WJ (f.2 g) (W5 z)⟩
noncomputable def IH:Expr->Bool
 | .Tuple .. => true
 |_=>false
noncomputable def Tc(tg:Expr):Prop:=∃c n p,tg=.Tuple c n p
theorem MC{tg:Expr}(h:IH tg=true):Tc tg:=by cases tg<;>first|exact⟨_,_,_,rfl⟩|exact nomatch h
def MP(t:Expr->Bool)(x:String)(ok:RC->Pos->Bool)(f:CE->CI)(h:∀{X:Cx}{tg e:Expr}{l:CE}{p pos:Pos},t tg=true->Gl X (aq x)->X.mg (aq x)=none->SE X e l->starEach [e] X.env=[(false,eval e X.env)]->SI X tg (.Call (.Name (aq x) p) [e] [] pos) (f l)):z7:=
 λq c tg e=>EK e λy _ a p e=>wh (y=aq x/\c.bl y=true/\pO a=true/\t tg=true/\ok c p=true) λz=>(q.e c a).bind λl=>some ⟨f l.1,λg=>by subst e;obtain⟨rfl,o,B,u,_⟩:=z;exact h u (g.gl o).1 (g.gl o).2 (l.2 g) (pZ B)⟩
def UR(t:Expr->Bool)(x:String)(ok:RC->Pos->Bool)(f:CE->CE->CI) (h:∀{X:Cx}{tg a b:Expr}{u o:CE}{p pos:Pos},t tg=true->Gl X (aq x)->X.mg (aq x)=none->SE X a u->SE X b o->starEach [a,b] X.env=(false,eval a X.env)::starEach [b] X.env->starEach [b] X.env=(false,eval b X.env)::starEach [] X.env ->
  starEach [a,b] X.env=[(false,eval a X.env),(false,eval b X.env)]->SI X tg (.Call (.Name (aq x) p) [a,b] [] pos) (f u o)):z7:=
 λq c tg e=>Kk e λy _ a b p e=>wh (y=aq x/\c.bl y=true/\pO a=true/\pO b=true/\t tg=true/\ok c p=true) λz=>(q.e c a).bind λu=>(q.e c b).bind λo=>some ⟨f u.1 o.1,λg=>by subst e;obtain⟨rfl,C,B,l,E,_⟩:=z;exact h E (g.gl C).1 (g.gl C).2 (u.2 g) (o.2 g) (pZ B) (pZ l) (by rw[pZ B,pZ l];rfl)⟩
noncomputable abbrev Li:Expr->Bool:=λ_=>true
noncomputable abbrev lj:RC->Pos->Bool:=λ_ _=>true
def zC:z7:=MP Li "range" lj MM.fm λ_ g m a s=>VA g m a s
def Bs(t:Bool):z7:=UR IH "zip" (λc p=>c.tag p 7 == t) pC λh g m a b s t u=>by obtain⟨_,_,_,rfl⟩:=MC h;rw[X3];exact W4 true true g m a b s t u t
def BN:z7:=MP IH "enumerate" lj tF λh g m a s=>by obtain⟨_,_,_,rfl⟩:=MC h;rw[T3];exact Tt true g m a s
def DE:z7:=λq c _ e=>(q.l c e).bind λf=>some ⟨wF f.1,λg=>Q6 (f.2 g)⟩
def FQ:z7:=λq c _ e=>(q.e c e).bind λf=>some ⟨ic f.1,λg=>QZ (f.2 g)⟩
noncomputable abbrev Mp(c:RC)(x:Str)(i:Nat):Prop:=c.N[i]?=some x/\(c.sc.names.lookup x=some .local\/c.sc.names.lookup x=some .cell)
def Gs(c:RC)(x:Str):Option {i:Nat // Mp c x i}:=wh _ λh=>some ⟨c.N.idxOf x,h⟩
theorem Gu{X:Cx}{c:RC}(g:Good X c){x:Str}{i:Nat}(h:Mp c x i):X.N[i]?=some x/\∃k,c.sc.names.lookup x=some k/\(k=.local\/k=.cell):=by
 refine⟨by rw[g.N];exact h.1,?_⟩;rcases h.2 with l|l
 ·exact⟨_,l,.inl rfl⟩
 ·exact⟨_,l,.inr rfl⟩
def Uu:Gn:=λ_ c e=>vk e λx _ h=>(Gs c x).bind λi=>some ⟨aO i.1,λg=>by obtain⟨q,k,o,l⟩:=Gu g i.2;exact h ▸ Sb g.S _ g.nd q o l⟩
abbrev Le(c:RC)(g:List Expr):={r:List D->Loc->M Loc // ∀{X:Cx},Good X c->BM X g r/\(dB g X.env).length=g.length/\(dB g X.env).findIdx? (·.1)=none}
theorem Vj{X:Cx}{e:Expr}{c:List Expr}{a:CG}{b:List D->Loc->M Loc}(l:pO e=true)(o:SG X e a)(h:BM X c b/\(dB c X.env).length=c.length/\(dB c X.env).findIdx? (·.1)=none):BM X (e::c) (cA a b)/\(dB (e::c) X.env).length=(e::c).length/\(dB (e::c) X.env).findIdx? (·.1)=none:=by
 obtain⟨u,q,d⟩:=h;have g:dB (e::c) X.env=(false,n6 e X.env)::dB c X.env:=by cases e<;>first|rfl|exact nomatch l
 refine⟨UK o u (by rw[g];rfl),by rw[g];exact cU (· + 1) q,?_⟩;rw[g,List.findIdx?_cons,d];rfl
def LJ(q:rW)(c:RC):∀h:List Expr,Option (Le c h)
 |[]=>some ⟨ib,λ_=>⟨Yd,rfl,rfl⟩⟩
 |e::h=>wh (pO e=true) λl=>(q.g c e).bind λa=>(LJ q c h).bind λb=>some ⟨cA a.1 b.1,λg=>Vj l (a.2 g) (b.2 g)⟩
def EJ:Gn:=λq c e=>Bx e λl _ _ h=>(LJ q c l).bind λf=>some ⟨gZ l.length f.1,λg=>h ▸ PC g.S.calm (f.2 g).1 (f.2 g).2.1 (f.2 g).2.2⟩
def Dy:Gn:=λq c e=>D7 e λo i _ h=>wh (Gw i=true) λz=>(q.e c o).bind λf=>(q.e c i).bind λk=>some ⟨kz f.1 k.1,λg=>h ▸ VB g.hu (f.2 g) (k.2 g) (λv=>by cases i<;>first|rfl|exact nomatch z)⟩
def DF:uT:=λq c e=>Vh e λo _ h=>oS o λa l=>(q.e c a).bind λf=>some ⟨dw f.1,λg=>h ▸ l ▸ Xp (f.2 g)⟩
def Dz:uT:=λq c e=>Xi e λa _ h=>wh (Hq a=true) λz=>(q.e c a).bind λf=>some ⟨lD f.1,λg=>h ▸ Yx (f.2 g) (Mf z)⟩
def zq:uT:=λ_ _ e=>U4 e λ_ _ _ h=>some ⟨A8,λ_=>h ▸ YF⟩
def JK:uT:=λq c e=>QM e λt a b _ h=>(q.t c t).bind λl=>(o8 q c a).bind λu=>(o8 q c b).bind λo=>some ⟨om l.1 u.1 o.1,λg=>h ▸ X9 (l.2 g) (u.2 g) (o.2 g)⟩
def x_:uT:=λq c e=>US e λt a b _ h=>v0 b λu=>(q.t c t).bind λl=>(o8 q c a).bind λo=>some ⟨kL l.1 o.1,λg=>h ▸ u ▸ QB g.ps (l.2 g) (o.2 g)⟩
def D_:uT:=λq c e=>Sj e λtg l a b _ h=>v0 b λC=>wh (Dv l=true) λz=>(q.i c tg l).bind λo=>(q.g c tg).bind λu=>(o8 q c a).bind λB=>some ⟨kC o.1 u.1 B.1,λg=>h ▸ C ▸ VN g.ps g.S.calm (o.2 g) (u.2 g) (B.2 g) (Ls z)⟩
def Iv:uT:=λq c e=>CH e λt a _ h=>vk t λx _ l=>wh (Hq a=true\/(c.top=true/\c.sc.names.lookup x=some .cell)) λz=>(Gs c x).bind λi=>(q.e c a).bind λf=>some ⟨bB (aO i.1) f.1,λ{X}g=>by
 subst h l;obtain⟨l,k,E,C⟩:=Gu g i.2;refine TC g.S _ g.nd l E (f.2 g) C ?_;rcases z with u|⟨o,B⟩
 ·exact Mf u
 ·have e:(X.env.kindOf x == some c5.local)=false:=by rw[(g.kd o).2 x,B];rfl
  cases a<;>first|rfl|(unfold i0;simp only[e,Ap,iU])⟩
theorem RV{X:Cx}{c:RC}(g:Good X c){e:Expr}{B:List Comprehension}{sc:cZ}{p h:Pos}{y:Str}{n:Nat}(l:c.top=true)(q:c.sc.names.lookup y=some .local)(o:(h.line == p.line)=true)(u:(sc.names.any λz=>z.1 == y&&(z.2 == .local||z.2 == .cell))=false):
  i0 (.ListComp e B sc p) (some (.Name y h)) n X.env=pure true:=by
 have E:(X.env.kindOf y == some c5.local)=true:=by rw[(g.kd l).2 y,q];rfl
 have C:(X.env.blockKind == tU)=true:=by rw[(g.kd l).1];rfl
 show (pure (X.env.blockKind == tU&&X.env.kindOf y == some c5.local&&h.line == p.line && !(sc.names.any λz=>z.1 == y&&(z.2 == .local||z.2 == .cell))):Sem Bool)=pure true;rw[E,C,o,u];rfl
def B3:uT:=λq c s=>CH s λt a _ h=>vk t λy C l=>(DJ q c a).bind λm=>wh (c.top=true/\c.sc.names.lookup y=some .local/\(C.line == m.p.line)=true/\(m.sc.names.any λz=>z.1 == y&&(z.2 == .local||z.2 == .cell))=false) λz=>(Gs c y).bind λi=>some ⟨bB (aO i.1) (cY m.r),λg=>by subst h l;obtain⟨l,k,B,u⟩:=Gu g i.2;obtain⟨x,tg,b,I,sc,p,rfl,ok,E,mg,mt,G⟩:=m;exact Q7 g.nd l (g.S.loc _ _ B u).1 (g.S.loc _ _ B u).2 g.S.calm (Mz g.S ok.1) (NY g.N ok.2.1) (E.2 g) (λo s H=>⟨mg.2 (g.inn ok o s H),mt.2 (g.inn ok o s H),G.2 (g.inn ok o s H)⟩) (RV g z.1 z.2.1 z.2.2.1 z.2.2.2) (Ls ok.2.2.2)⟩
def Fg:uT:=λq c s=>CH s λt a _ h=>D7 t λo i p l=>(q.e c a).bind λf=>(q.g c (.Subscript o i p)).bind λk=>some ⟨bB k.1 f.1,λg=>by subst h l;exact GK (f.2 g) (k.2 g) (by cases a<;>rfl) (by cases a<;>rfl) rfl⟩
noncomputable def Sh:Expr->Bool
 | .Tuple _ _ _=>false
 |_=>true
def DI:uT:=λq c s=>CH s λt a _ h=>Bx t λo n p l=>wh (Sh a=true) λz=>(q.e c a).bind λf=>(q.g c (.Tuple o n p)).bind λk=>some ⟨bB k.1 f.1,λg=>by subst h l;exact GK (f.2 g) (k.2 g) (by cases a<;>rfl) (by cases a<;>first|rfl|exact nomatch z) rfl⟩
section
variable{P:Program}{w:bD}{K:ag}{mg:Str->Option ab}{base:bw}
variable(P w K mg base) in
def cg(l:List (Str×RF)):Prop:=∀x r,l.lookup x=some r->GF P w K mg base x r
theorem Q1:cg P w K mg base []:=λ_ _ h=>nomatch h
theorem GC{l:List (Str×RF)}{x:Str}{r:RF}{f:ak}{c:cV}(m:mg x=some (.ref f))(F:mC P w K mg base rQ r.k f c r.ps (mT K r.n r.g))(g:da K (.ref f)=true)(b:Binds K c r.ps [])(o:r.kw=true->GD K c r.ps)(h:cg P w K mg base l):
  cg P w K mg base ((x,r)::l):=λy s z=>by
 by_cases e:y=x
 ·subst e;rw[uF]at z;cases z;exact⟨f,c,m,F,g,b,o⟩
 ·rw[vB e]at z;exact h y s z
def IR(K:ag)(mg:Str->Option ab)(base:bw)(x:Str)(f:ak)(g:cV):Prop:=∃c P,fE K cq x=some (some (.ref f))/\g.code=.ref c/\eL K c P=true/\BMod base mg
theorem Ko(R:mP)(j:Nat){x:Str}{h:Stmt}{f:ak}{l:cV}{N ps:List Str}{k n m:Nat}{g:CS}{G:List (Str×RF)}{Z:List Str}{C:List (Str×D)}{H:List (Nat×Nat×Nat)}{W:WT}{T:Option (Nat×Str)}(F:xE K x x h f l)(S:l_ N ps (bv h))(hn:ps.length=n)(hm:N.length=m)
  (hG:cg P w K mg base G) (hZ:∀x,Z.contains x=true->mg x=none) (hC:∀x d,C.lookup x=some d->∃v u,mg x=some u/\RelV v u/\∀ρ H,c_ K ρ H v d)
  (hb:(o8 (nY R j) ⟨bv h,N,k,G,Z,C,H,true,W,T⟩ (cH h)).map (·.1)=some g) (hW:Ae P w K mg base W) (hT:∀t,T=some t->t.2=x/\IR K mg base x f l):mC P w K mg base rQ (k+1) f l ps (mT K n (bJ m g)):=
 have ⟨v,_,e⟩:=du.mp hb
 Ss F S hn hm λcdv A outer s Hp E o Y=>e ▸ v.2 ⟨NE,rfl,S.nd,Y,hG,hZ,hC,lV,λ_=>⟨by show (if (bv h).kind.isAnnotationScope=true then _ else (bv h).kind)=_;rw[S.kind];rfl,λ_=>rfl⟩,hW,λt z=>by obtain⟨I,c,P,O,q,L,J⟩:=hT t z;obtain⟨oc,od,kV,doc,pm,an,B,ct,Q,e1,U,_⟩:=F.ex;rw[I];exact⟨f,_,l,c,P,O,U,rfl,q,L,by rw[<- q,o];rfl,rfl,J⟩⟩
end
end
section
variable{K:ag}{mg:Str->Option ab}
noncomputable def vW(mg:Str->Option ab)(Z:List Str):Prop:=∀x,Z.contains x=true->mg x=none
theorem Dt:vW mg []:=λ_ h=>nomatch h
theorem Bt{a:Str}{l:List Str}(h:mg a=none)(t:vW mg l):vW mg (a::l):=λx z=>by
 rw[oY,iD]at z;rcases z with z|z
 ·rw[beq_iff_eq.mp z];exact h
 ·exact t x z
def xz(K:ag)(mg:Str->Option ab)(C:List (Str×D)):Prop:=∀x d,C.lookup x=some d->∃v u,mg x=some u/\RelV v u/\∀ρ H,c_ K ρ H v d
theorem Fk:xz K mg []:=λ_ _ h=>nomatch h
end
section
theorem xw{x:Str}(h:ug x=true):x≠"__name__":=(CP h).n
def Dg:kW:=uk "max" lj tG λc _ g m a s=>Mv (TD c) g m (by nofun) a (xw (by nofun)) (by nofun) s
def FL:kW:=uk "any" lj tK λc _ g m a s=>Mv (Sr c) g m (by nofun) a (xw (by nofun)) (by nofun) s
def DR:kW:=uk "tuple" lj lI λ_ _ g m a s=>V1 VI g m (by nofun) a (xw (by nofun)) (by nofun) s
def Jc:kW:=wS "len" lj ge λ_ _ g m a s=>Wh Ye g m (by nofun) a (xw (by nofun)) (by nofun) s
def JS:kW:=wS "int" lj intD λ_ _ g m a s=>G7 XE g m (by nofun) a (xw (by nofun)) (by nofun) s
def A5:kW:=wS "tuple" lj tupleD λ_ _ g m a s=>G7 YO g m (by nofun) a (xw (by nofun)) (by nofun) s
def EB:kW:=wS "list" lj rL λ_ _ g m a s=>G7 Tx g m (by nofun) a (xw (by nofun)) (by nofun) s
def AJ:kW:=wS "list" (λc p=>c.tag p 5) pd λc _ g m a s=>G7 (Yf c) g m (by nofun) a (xw (by nofun)) (by nofun) s
def FK:kW:=HR "max" lj rY λc _ g m a b o l h=>UB (WR c) g m (by nofun) a b (xw (by nofun)) (by nofun) o l h
def wT:kW:=HU "bool" TK (by nofun) (xw (by nofun)) (by nofun)
def zA:kW:=wK "append" fu lj λ_ o a b f l s p=>Rn o a b f l s p
def zp:kW:=wK "extend" ng lj λ_ o a b f l s p=>Tq o a b f l s p
def yV:kW:=wK "index" m_ (λc p=>c.tag p 3) λu o a b f l s p=>X8 u o a b f l s p
def IY:kW:=Ek "pop" wN λo b l=>Ri o b l
def xU:kW:=Fy "setdefault" oD λu o a b bs f l g c p=>S9 u o a b bs f l g c p
end
section
variable{P:Program}{w:bD}{K:ag}{mg:Str->Option ab}{base:bw}
noncomputable def FnAt(K:ag)(mg:Str->Option ab)(x:Str)(c:Stmt):Prop:=∃a g,xE K x x c a g/\mg x=some (.ref a)
theorem IM{h:bw}{x:Str}{g:Stmt}{f:ak}{B H:Option ak}{q:Array (Option ab)}{C kV E u o ct:ab}(X:K.In h)(G:h.Ns cq mg)(a:fE K cq x=some (some (.ref f)))
  (l:K.lookup f=some ⟨C,B,.func (b7 x x (dL g) (cH g) (bv g) .none kV E u H o ct),q⟩) (c:fO K o x=true) (k:da K (.ref f)=true):FnAt K mg x g:=
 ⟨f,_,Mo (st:=g) l c k,rK X G a⟩
noncomputable def sF(N P:List Str)(sc:cZ):Bool:=(sc.kind == .function)&&(sc.isCoroutine == false)&&(sc.isGenerator == false)&&decide N.Nodup&&(N.take P.length == P)&&(P.all λx=>sc.names.lookup x == some .local||sc.names.lookup x == some .cell)&&(sc.names.all λy=>y.2 != .free)
theorem Ha{N P:List Str}{sc:cZ}(h:sF N P sc=true):l_ N P sc:=by unfold sF at h;simp only[bj,beq_iff_eq,decide_eq_true_eq,cX,iD,bne_iff_ne,ne_eq]at h;obtain⟨⟨⟨⟨⟨⟨B,u⟩,q⟩,o⟩,l⟩,g⟩,c⟩:=h;exact⟨B,u,q,o,l,g,c⟩
theorem ML(R:mP){r:List Str}{x:Str}{g:Stmt}{f:ak}{h:cV}{ps:List Str}{k n m:Nat}{c:CS}{G:List (Str×RF)}{Z:List Str}{C:List (Str×D)}{H:List (Nat×Nat×Nat)}(F:xE K x x g f h)(S:sF (ps++r) ps (bv g)=true)
  (q:(o8 (nY R 40) ⟨bv g,ps++r,k,G,Z,C,H,true,([],[]),none⟩ (cH g)).map (·.1)=some c) (B:cg P w K mg base G) (u:vW mg Z) (E:xz K mg C) (l:ps.length=n) (o:(ps++r).length=m):mC P w K mg base rQ (k+1) f h ps (mT K n (bJ m c)):=
 Ko R 40 F (Ha S) l o B u E q ⟨(λ_ _ z=>nomatch z),(λ_ _ z=>nomatch z)⟩ λ_ z=>nomatch z
theorem GG(R:mP){r:List Str}{x:Str}{h:Stmt}{ps:List Str}{k n m:Nat}{E:Bool}{l:CS}{G:List (Str×RF)}{Z:List Str}{C:List (Str×D)}{H:List (Nat×Nat×Nat)}(F:FnAt K mg x h)(S:sF (ps++r) ps (bv h)=true)
  (b:∀(kV c q:ab)(u:Option ak)(g ct:ab)(B:List ab),B.length=ps.length->io (b7 x x (dL h) (cH h) (bv h) .none kV c q u g ct) { pos:=B }=pure (ps.zip B))
  (O:E=true->∀(kV c q:ab)(u:Option ak)(g ct:ab)(s:am)(o:List ab),o.length=ps.length->rC s (b7 x x (dL h) (cH h) (bv h) .none kV c q u g ct) ⟨[],ps.zip o⟩ (ps.zip o))
  (hb:(o8 (nY R 40) ⟨bv h,ps++r,k,G,Z,C,H,true,([],[]),none⟩ (cH h)).map (·.1)=some l) (J:cg P w K mg base G) (hZ:vW mg Z) (hC:xz K mg C) (U:ps.length=n:=by rfl) (Y:(ps++r).length=m:=by rfl) (Q:E=true->¬ ps.getLast?=some (aq "most"):=by first|exact λz=>nomatch z|exact λ_=>by decide):cg P w K mg base ((x,⟨n,k+1,ps,E,bJ m l⟩)::G):=by
 obtain⟨f,fd,F,I⟩:=F;refine GC I (ML R F S hb J hZ hC U Y) F.kp (F.binds b) (λz=>?_) J;obtain⟨oc,od,kV,c,q,u,g,ct,L,e,lk,hcd⟩:=F.ex;unfold GD;rw[aG (Q z)];intro s o hl;rw[e];exact O z kV c q u g ct s o hl
end
section
variable{X:Cx}{e:Expr}{fa:CE}{x:Str}{pos:Pos}{sc:cZ}
theorem Py{i:Nat}:∀G σ H,vc X.K (bB (aO i) (c2 vF (al i) fa)) G σ H->E4 i (yL X.K fa) (Nk λi j=>i+j) G σ H:=λG σ H J=>J.el λρ l st u sr p=>by
 have c:=p.bnd.bnd;unfold al at c;cases e:l[i]? with
 |none=>rw[e]at c;exact c.elim
 |some o=>
  rw[e]at c;cases o with
  |none=>exact c.elim
  |some d=>
   obtain⟨v,L,r⟩:=u.2 i d e;have E:=c.ret sr;refine⟨v,L,ρ,l,st,u,sr,E.bnd.imp λy C ρ1 O B g q w h=>?_⟩;rcases wR (λa b=>ret (.int (a+b))) d y with ⟨a,b,rfl,rfl⟩|I
   ·exact⟨a,b,r.inv,h.inv,(q.ret g).bnd.ret g |>.ret g _ ((u.mono B).set i (.int _))⟩
   ·rw[show vF d y=bad from I]at q;exact q.elim
theorem UL(S : Sc X sc)(i : Nat)(l : X.N.Nodup)(q : X.N[i]? = some x){k : c5}(h : sc.names.lookup x = some k){c : Pos}(o : SE X e fa)(g : k = .local \/ k = .cell := by decide):
  SS X (.AugAssign (.Name x c) .Add e pos) (bB (aO i) (c2 vF (al i) fa)):=(QR l q (S.loc x k h g).1 o Uj (S.loc x k h g).2).of Py
end
def FY:uT:=λq c e=>QI e λt o a _ h=>vk t λx _ l=>wh (o=.Add) λz=>(Gs c x).bind λi=>(q.e c a).bind λf=>some ⟨bB (aO i.1) (c2 vF (al i.1) f.1),λg=>by subst h l z;obtain⟨l,k,B,u⟩:=Gu g i.2;exact UL g.S _ g.nd l B (f.2 g) u⟩
section
variable{prog:Program}{w:bD}{A:bz}{E:ab->am->Prop}{s:am}{r:ak}
theorem WQ{Q:List ab->am->Prop}{I l:ak}{items:Array ab}(hh:A.handled=none)(h:s.heap.IsRevIter I l ((items.size:Int)-1))(Y:s.heap.IsList l items)(H:l≠I)(hn:items.size<=sizeLine)
  (hQ:∀(h':bw)(tk:Nat)(B:Array ab),(∀b o,b≠I->s.heap.get? b=some o->h'.get? b=some o)->t9 (λi v=>items[items.size-1-i]?=some v) B items.size->Q B.toList { s with heap:=h',toks:=tk }):
  aF (aW prog w) A (AA (.ref I)) Q E s:=by
 have hI:I < s.heap.objs.size:=let ⟨_,e,_⟩:=h;aD e
 have hL:l < s.heap.objs.size:=let ⟨_,e,_⟩:=Y;aD e
 unfold AA;refine aa (wpAny_runValue (eS PySem.F.entry_proto_collect ?_));rw[eW PySem.F.plain_proto_collect _]
 show aF _ A.in1 (newList [] >>= λl=>again (.builtin "list.__iadd__" ⟨[l,.ref I],[]⟩)) _ _ s;refine aa (bM ?_);refine ai ⟨fC sf _,eS PySem.F.entry_list_iadd ?_⟩;rw[eW sf _];have hS₁:(s.heap.push { cls:=.type "list",data:=.seq ([]:List ab).toArray }).get? s.heap.objs.size=some { cls:=.type "list",data:=.seq ([]:List ab).toArray }:=aB _ rfl
 show aF _ A.in1 (dI (.ref s.heap.objs.size) (.ref I) (.ref s.heap.objs.size)) _ _ _;have c:(s.heap.push { cls:=.type "list",data:=.seq ([]:List ab).toArray }).IsRevIter I l ((items.size:Int)-1):=let ⟨o,e,x⟩:=h;⟨o,ah _ e,x⟩
 have J:(s.heap.push { cls:=.type "list",data:=.seq ([]:List ab).toArray }).IsList l items:=let ⟨o,e,x⟩:=Y;⟨o,ah _ e,x⟩
 have W:=Ax (prog:=prog) (w:=w) (A:=A.in1) hh I l H items;have L:s.heap.objs.size∉[I,l]:=by simp only[aI,bI,or_false,not_or];exact⟨d_ hI,d_ hL⟩
 have C:0<=items.size/\(s.heap.push { cls:=.type "list",data:=.seq ([]:List ab).toArray }).IsRevIter I l ((items.size:Int)-1-((0:Nat):Int))/\(s.heap.push { cls:=.type "list",data:=.seq ([]:List ab).toArray }).IsList l items:=⟨bn _,by rw[show (items.size:Int)-1-((0:Nat):Int)=(items.size:Int)-1 by ext];exact c,J⟩
 unfold dI;refine aa (eJ c.typeIs ?_);have h1:gR (.ref s.heap.objs.size) (.ref I)=false:=by simp[gR,d_ hI]
 rw[aG (by rw[h1];decide)];refine aa (zR c ?_);refine aa (bZ (Nu c.typeIs ?_));rw[aG (by decide)];refine ai ⟨fC qY _,zS W.toS hn _ L _ items.size 0 _ _ _ rfl (bn _) C hS₁ (Ay _) λG u c' U O q=>?_⟩
 show aF _ A (load s.heap.objs.size >>= _) _ _ G;refine aa (wpAny_load O ?_);rw[Az U];refine ai (hQ G.heap G.toks u (λb o hb e=>U.heap b o (λg=>?_) (ah _ e)) q);rcases aI.mp g with e'|g
 ·exact aR (aD e) e'
 ·exact hb (aC.mp g)
theorem XR{Q₁:ab->am->Prop}{I l:ak}{items:Array ab}(hh:A.handled=none)(q:s.heap.IsRevIter I l ((items.size:Int)-1))(L:s.heap.IsList l items)(u:l≠I)(hsz:items.size<=sizeLine)
  (h:∀(h':bw)(tk:Nat)(c:Array ab),(∀b o,b≠I->s.heap.get? b=some o->h'.get? b=some o)->t9 (λi v=>items[items.size-1-i]?=some v) c items.size->Q₁ (.ref h'.objs.size) { s with heap:=h'.push { cls:=.type "tuple",data:=.seq c },toks:=tk }):
  gK (aW prog w) A (.call (.builtin "tuple.__new__") ⟨[.type "tuple",.ref I],[]⟩) (wants Q₁ E) s:=by
 refine Hm ?_
 show aF _ A.in1 (do checkBuiltinCall "tuple.__new__" ⟨[.type "tuple",.ref I],[]⟩;again (.builtin "tuple.__new__" ⟨[.type "tuple",.ref I],[]⟩)) _ _ s;refine aa (mM (PySem.F.newCall_tuple_1 _) (ai ⟨fC si _,eS PySem.F.entry_tuple_new ?_⟩));rw[eW si _];have G:=sub_tuple_self;have B:=init_tuple_lookup;have H:=madeHere_tuple;have C:=q.typeIs
 wp_walk using eJ C,WQ (A:=A.in1) hh q L u hsz
 intro h' tk c J g
 show aF _ _ (eh c.toList.toArray >>= λv=>PySem.ret v) _ _ _;unfold eh;refine aa (bM ?_ (by show c.toList.toArray.size<=sizeLine;simp only[Array.toArray_toList];rw[g.1];exact hsz));refine ai ?_;have e:c.toList.toArray=c:=by simp
 rw[e];exact h h' tk c J g
theorem Ve{Q:ab->am->Prop}{I l:ak}{items:Array ab}(hh:A.handled=none)(q:s.heap.IsRevIter I l ((items.size:Int)-1))(B:s.heap.IsList l items)(h:l≠I)(hsz:items.size<=sizeLine)
  (C:∀(h':bw)(tk:Nat)(c:Array ab),(∀b o,b≠I->s.heap.get? b=some o->h'.get? b=some o)->t9 (λi v=>items[items.size-1-i]?=some v) c items.size->Q (.ref h'.objs.size) { s with heap:=h'.push { cls:=.type "tuple",data:=.seq c },toks:=tk }):
  aF (aW prog w) A (call (.type "tuple") [.ref I]) Q E s:=by
 refine callType_codes (Q₁:=λobj s₁=>s₁.TypeIs obj "tuple"/\Q obj s₁) PySem.F.called_tuple (PySem.F.typeCall_tuple_1 _) PySem.F.entry_object_init
  (XR hh q B h hsz λh' tk c u g=>⟨⟨_,aB _ rfl,rfl⟩,C h' tk c u g⟩) λobj s₁ h₁=>?_
 exact⟨h₁.1,PySem.F.args_object_init_2 obj _,object_init_meets PySem.F.called_tuple.init.lookup PySem.F.called_tuple.made (by decide) prog w A.in1 _ s₁ ⟨h₁.1,rfl,h₁.2⟩⟩
end
section
variable{X:Cx}{a b c e o tg:Expr}{es:List Expr}{pos a6 a7 a5 p p':Pos}{fa fb fc:CE}{ca cb:CA}{K:ag}{ρ:List ak}{H:Hp}{st:aX}{te:TE}
theorem Wc(hc:X.calm=true)(hg:Gl X "tuple")(hm:X.mg "tuple"=none)(hv:bT "tuple"=some (.type "tuple"))(Y:Gl X "reversed")(O:X.mg "reversed"=none)(L:bT "reversed"=some (.type "reversed"))(ha:PE X e te)
  (he:starEach [e] X.env=[(false,eval e X.env)]:=by rfl) (B:starEach [.Call (.Name "reversed" p') [e] [] a6] X.env=[(false,eval (.Call (.Name "reversed" p') [e] [] a6) X.env)]:=by rfl):
  PE X (.Call (.Name "tuple" p) [.Call (.Name "reversed" p') [e] [] a6] [] pos) (λσ H Q=>te σ H λx E=>∃a xs,x=.ref a/\g8 X.K E a xs/\∀q,E q=none->Q (.ref q) (fw E q (.tup xs.reverse))):=by
 intro g s σ H Q I h;refine dC (wW I hg hm hv ?_ (by decide) (by decide));refine cB ?_ B rfl;rw[B]
 show aF _ _ (rn [(false,eval (.Call (.Name "reversed" p') [e] [] a6) X.env)]) _ _ s;refine gh ?_;refine dC (wW I Y O L ?_ (by decide) (by decide));refine cB ?_ he rfl;rw[he]
 show aF _ _ (rn [(false,eval e X.env)]) _ _ s;refine gh (gj (ha g s σ H _ I h) λu G ⟨x,E,c,r1,a,xs,ex,hx,q⟩=>gF ?_);subst ex;cases r1;obtain⟨its,rv,J,hz⟩:=c.list hx;have hlen:=rv.length;refine Ci J.isList (gF ?_);have U:a < G.heap.objs.size:=let ⟨_,e,_⟩:=J.isList;aD e
 refine Ve (l:=a) (items:=its.toArray) (c.ok.hd hc) ⟨_,aB _ rfl,rfl,rfl⟩ (let ⟨o,e,x⟩:=J.isList;⟨o,ah _ e,x⟩) (aR U) (by simp only[ay];ext) λh' tk acc hk C=>?_;rw[Oe C];have kp:∀b u,G.heap.get? b=some u->h'.get? b=some u:=λb u e=>hk b u (aR (aD e)) (ah _ e);have I2:Inv X g σ E { G with heap:=h',toks:=tk }:=c.kept (t':=tk) kp;exact⟨.ref _,_,I2.laid (t':=tk) (o:=.tup xs.reverse) (λb o e=>ah _ e) (ax _) (show eX X.prog X.w _ _ _ (.tup xs.reverse) from ⟨by rw[vP];exact hz,its.reverse,rv.reverse,iK.new _ _⟩),rfl,q _ (I2.hok.fresh (ax _))⟩
theorem RW(hc:X.calm=true)(o:Gl X "tuple")(c:X.mg "tuple"=none)(hv:bT "tuple"=some (.type "tuple"))(G:Gl X "reversed")(E:X.mg "reversed"=none)(B:bT "reversed"=some (.type "reversed"))(g:SE X e fa)
  (he:starEach [e] X.env=[(false,eval e X.env)]:=by rfl) (I:starEach [.Call (.Name "reversed" p') [e] [] a6] X.env=[(false,eval (.Call (.Name "reversed" p') [e] [] a6) X.env)]:=by rfl):
  SE X (.Call (.Name "tuple" p) [.Call (.Name "reversed" p') [e] [] a6] [] pos) (c1 qy fa):=
 (Wc hc o c hv G E B g he I).of λσ H Q h_=>h_.el λρ l st Y sr p=>⟨ρ,l,st,Y,sr,p.bnd.imp λd L ρ1 H1 x1 u J v O=>by
  cases d with
  |ref n=>
   obtain⟨a,rfl,_,h⟩:=O.inv;obtain⟨ds,e2,U⟩:=aS.getL (aS.bnd J) u;obtain⟨a',vs,g,hv,r⟩:=u.seq e2;rw[h]at g;cases g;exact⟨a,vs,rfl,g8.of hv,λq C=>U ρ1 _ (Ex.new C) (u.new C) _ (.tup (lx.of iP) ((bA.rev r).mono (Ex.new C)))⟩
  |_=>exact J.elim⟩
end
def zG:kW:=Ho "tuple" "reversed" lj qy λc _ g m l h a s=>RW c g m (by nofun) l h (by nofun) a s rfl
section
variable{X:Cx}{a b:Expr}{pos:Pos}{fa fb:CE}
theorem SD(ha:SE X a fa)(B:SE X b fb):SE X (.Dict [some a] [b] pos) (qm fa fb):=by
 refine (Nl (Nv ha B OP) rfl rfl nofun (by simp)).of λσ H Q E q I=>?_;obtain⟨ρ,l,st,lr,sr,p⟩:=E;have hn:=sr.fresh I;have O:Ex ρ H ρ (fw H q (.dK [])):=Ex.new I;refine⟨ρ,l,st,lr.mono O,sr.new I,(p.bnd0.left O).imp λk a8 ρ1 H1 Y s1 p1 v rv=>⟨ρ1,l,a8,(lr.mono O).mono Y,s1,(p1.bnd0.left (O.trans Y)).imp λd C ρ2 L U h p2 w rw'=>?_⟩⟩;cases k with
 |int i=>
  cases (show v=.int i from rv.inv);have g:=Y.trans U;have G:L q=some (.dK []):=g.oth q _ hn iP;refine⟨G,[(.inl i,w)],rfl,by simp,?_⟩;have ne:∀b o,H b=some o->b≠q:=λb o e z=>by rw[z,I]at e;cases e
  have J:q∉ρ2:=by
   obtain⟨τ,e,f⟩:=g.pre;rw[e];intro z;rcases aU.mp z with z|z
   ·exact hn z
   ·have:=f q z;rw[iP]at this;cases this
  have up:Up ρ2 L ρ2 (fw L q (.dK (iZ [] [(.inl i,w)]))):=by
   refine⟨⟨[],by simp⟩,λc o no w=>?_,λc o w=>?_⟩
   ·rw[fM λz=>by subst z;rw[G]at w;cases w;exact nomatch no];exact w
   ·by_cases z:c=q
    ·subst z;rw[G]at w;cases w;exact⟨_,iP,rfl⟩
    ·exact⟨o,by rw[fM z];exact w,rfl⟩
  have s2:SR X.K ρ2 (fw L q (.dK (iZ [] [(.inl i,w)]))) C:=⟨h.len,h.nd,λn b o e1 e2=>mB.mono (o:=o) up (h.ob n b o e1 e2) λu w=>by rw[fM (λ(z:b=q)=>J (by rw[<- z];exact av e1))];exact w⟩
  have x2:Ex ρ H (ρ2++[q]) (fw L q (.dK (iZ [] [(.inl i,w)]))):=by
   obtain⟨τ,e,f⟩:=g.pre;refine⟨⟨τ++[q],by rw[e,dG],λb B=>?_⟩,λb o no e=>?_,λb o nb e=>?_,λb o e=>?_⟩
   ·rcases aU.mp B with B|B
    ·have z:=f b B;by_cases w:b=q
     ·subst w;exact I
     ·rw[fM w]at z;exact z
    ·rw[aC]at B;rw[B];exact I
   ·rw[fM (ne b o e)];exact g.fix b o no (by rw[fM (ne b o e)];exact e)
   ·rw[fM (ne b o e)];exact g.oth b o nb (by rw[fM (ne b o e)];exact e)
   ·obtain⟨o',h,c⟩:=g.knd b o (by rw[fM (ne b o e)];exact e);exact⟨o',by rw[fM (ne b o e)];exact h,c⟩
  have p3:∀ρ' H',Ex ρ H ρ' H'->SR X.K ρ' H' (C++[.dct false (yT [] (([.inl i].map mW).zip [d]))])->∀v,c_ X.K ρ' H' v (.dic C.length)->Q v H':=p2;refine p3 _ _ x2 (s2.keepO J ⟨_,iP,KR.merge (KR.zip (ks:=[.inl i]) (bA.cons (rw'.up up) .nil)) .nil⟩) _ (.dic ⟨_,iP,.inl rfl⟩ ?_);rw[<- h.len];simp
 |_=>exact p2.elim
end
def Bk:kW:=λq c e=>Ib e λks vs _ h=>v1 ks λa C=>oS a λk B=>v1 vs λv u=>(q.e c k).bind λo=>(q.e c v).bind λl=>some ⟨qm o.1 l.1,λg=>by subst h C B u;exact SD (o.2 g) (l.2 g)⟩
end MM
namespace PySem.SeqAt
open AutoSeq1 (wpAny_loadPart')
open MeetsSeq MeetsSeq2 MeetsSeq3 SeqRoads2
end PySem.SeqAt
namespace MM
open PySem PySem.Spec PyProof.Rows L2
noncomputable def Bi(prog:Program)(w:bD)(A:bz)(op:uo)(P:Nat->ab->Prop)(Kp:bw->Prop)(c:Nat->Nat->Bool):Prop:=
 ∀i j vi vj(s:am)(Q:ab->am->Prop)(E:ab->am->Prop),Kp s.heap->P i vi->P j vj->Q (.bool (c i j)) s->aF (aW prog w) A (richCompare op vi vj) Q E s
section
variable{prog:Program}{w:bD}{A:bz}{R:B9->am->Prop}{I:ak}{fp wr:List ak}{n:Nat}{P:Nat->ab->Prop}{St:Nat->bw->Prop}{kw:List (Str×ab)}{Kp:bw->Prop}
theorem W3(W:Walks prog w A.in1 I fp wr n P St)(bt:Nat->Nat->Bool)(hcmp:Bi prog w A.in1 .Lt P Kp bt)(S:ak)(hSf:S∉fp)
  (kp:∀h h':bw,Kp h->(∀b o,b∉wr->b≠S->h.get? b=some o->h'.get? b=some o)->Kp h'):
  ∀(k j:Nat)(s:am)(G:ab)(c:Nat),n-(j+1)=k->j+1<=n->St (j+1) s.heap->P (mK bt j) G->Kp s.heap ->
  s.heap.get? S=some { cls:=.type "list",dict:=none,data:=.seq #[G,G] c,slots:=#[] } ->
  (∀v h' tk,P (mK bt (n-1)) v->(∀b o,b∉wr->b≠S->s.heap.get? b=some o->h'.get? b=some o)->R (.ok (.ret v)) { s with heap:=h',toks:=tk }) ->
  gK (aW prog w) A (.builtin "min.loop" ⟨[.ref I,.none,.ref S],kw⟩) R s:=by
 have hSw:S∉wr:=λh=>hSf (W.sub _ h);have B:(toString "min"++toString ".loop":String)="min.loop":=by decide
 intro k
 induction k with
 |zero=>
  intro j s G c hk hj L H hK hS hR;have hin:j+1=n:=by ext
  refine eS iN ?_;rw[eW cO _]
  show aF _ A.in1 (iC (.ref S) >>= _) _ _ s;refine aa (cN hS rfl ?_)
  show aF _ A.in1 (tryCatch (iL (.ref I)) _ >>= _) _ _ s;refine aa (mo (W.done s _ _ (hin ▸ L) λh' tk l=>?_));have E:=l S _ hSw hS
  show aF _ A.in1 (F_ S (λ_=>#[]) >>= _) _ _ _;refine aa ?_;refine oy E rfl (aa (iq (ai ?_)));refine hR G _ tk (by rw[<- hin];exact H) λb o q g e=>(cD _ _ (eM g)).trans (l b o q e)
 |succ k ih=>
  intro j s G c hk hj L H hK hS hR;have O:j+1 < n:=by ext
  refine eS iN ?_;rw[eW cO _]
  show aF _ A.in1 (iC (.ref S) >>= _) _ _ s;refine aa (cN hS rfl ?_)
  show aF _ A.in1 (tryCatch (iL (.ref I)) _ >>= _) _ _ s;refine aa (mo (W.item (j+1) s _ _ O L λv h' tk hP J l=>?_));have E:=l S _ hSw hS;have U:Kp h':=kp _ _ hK λb o hb _ e=>l b o hb e
  show aF _ A.in1 (tryCatch (mH [v,v] (richCompare .Lt v G >>= _)) _ >>= _) _ _ _;refine aa (mo (bZ (aa (hcmp (j+1) (mK bt j) v G _ _ _ U hP H ?_))));refine aa (bZ (fR ?_));refine aa (iq (ai ?_));cases hb:bt (j+1) (mK bt j) with
  |true=>
   simp only[if_true];refine aa ?_;refine oy E rfl (aa (iq ?_));rw[B];refine ai ⟨fC cO _,ih (j+1) _ v _ (by ext) O (W.frame _ _ _ J λb hbf o e=>?_) (by simp only[mK,hb,if_true];exact hP) (kp _ _ U λb o _ g e=>(cD _ _ (eM g)).trans e) (bG _ E rfl)
    λv' Y u Q C=>?_⟩
   ·exact (cD _ _ (λh:S=b=>hSf (by rw[h];exact hbf))).trans e
   ·exact hR v' Y u Q λb o q g e=>C b o q g ((cD _ _ (eM g)).trans (l b o q e))
  |false=>
   simp only[aT,if_false];refine aa (iq ?_);rw[B];refine ai ⟨fC cO _,ih (j+1) _ G c (by ext) O J (by simp only[mK,hb,aT,if_false];exact H) U E λv' Y u Q C=>?_⟩;exact hR v' Y u Q λb o q g e=>C b o q g (l b o q e)
theorem Qb(W:Walks prog w A.in1 I fp wr n P St)(bt:Nat->Nat->Bool)(G:Bi prog w A.in1 .Lt P Kp bt)(S:ak)(u:S∉fp)
  (L:∀h h':bw,Kp h->(∀b o,b∉wr->b≠S->h.get? b=some o->h'.get? b=some o)->Kp h') (hn:0 < n) {s:am}{c:Nat} (O:St 0 s.heap) (hK:Kp s.heap)
  (hS:s.heap.get? S=some { cls:=.type "list",dict:=none,data:=.seq #[] c,slots:=#[] })
  (hR:∀v h' tk,P (mK bt (n-1)) v->(∀b o,b∉wr->b≠S->s.heap.get? b=some o->h'.get? b=some o)->R (.ok (.ret v)) { s with heap:=h',toks:=tk }):
  gK (aW prog w) A (.builtin "min.loop" ⟨[.ref I,.none,.ref S],kw⟩) R s:=by
 have U:S∉wr:=λh=>u (W.sub _ h);have l:(toString "min"++toString ".loop":String)="min.loop":=by decide
 refine eS iN ?_;rw[eW cO _]
 show aF _ A.in1 (iC (.ref S) >>= _) _ _ s;refine aa (cN hS rfl ?_)
 show aF _ A.in1 (tryCatch (iL (.ref I)) _ >>= _) _ _ s;refine aa (mo (W.item 0 s _ _ hn O λv h' tk hP C q=>?_));have J:=q S _ U hS;have hK':Kp h':=L _ _ hK λb o hb _ e=>q b o hb e
 show aF _ A.in1 (F_ S (λ_=>#[v,v]) >>= _) _ _ _;refine aa ?_;refine oy J rfl ?_;rw[l];refine ai ⟨fC cO _,W3 W bt G S u L _ 0 _ v _ rfl hn (W.frame _ _ _ C λb Q o e=>?_) hP (L _ _ hK' λb o _ g e=>(cD _ _ (eM g)).trans e) (bG _ J rfl) λv' h'' B Y E=>?_⟩
 ·exact (cD _ _ (λh:S=b=>u (by rw[h];exact Q))).trans e
 ·exact hR v' h'' B Y λb o H g e=>E b o H g ((cD _ _ (eM g)).trans (q b o H e))
end
section
variable{prog:Program}{w:bD}{A:bz}{E:ab->am->Prop}{s:am}
theorem LG(a v:ab):argsOk "min" ⟨[a],[(aq "default",v)]⟩:=by unfold argsOk;kernel_rfl
theorem Uy{l:ak}{items:Array ab}{dv:Option ab}{Q:ab->am->Prop}(hh:A.handled=none)(C:s.heap.IsList l items)(L:0 < items.size)(J:Nat->Nat->Bool)
  (u:Bi prog w A.in1 .Lt (λi v=>items[i]?=some v) (λh=>∀b o,s.heap.get? b=some o->h.get? b=some o) J)
  (O:∀v h' tk,items[mK J (items.size-1)]?=some v->(∀b o,s.heap.get? b=some o->h'.get? b=some o)->Q v { s with heap:=h',toks:=tk }):
  aF (aW prog w) A (call (.builtin "min") [.ref l] (dv.toList.map λd=>(aq "default",d))) Q E s:=by
 have c:(toString "min"++toString ".loop":String)="min.loop":=by decide
 have q:l < s.heap.objs.size:=by obtain⟨_,e,_⟩:=C;exact aD e
 refine qU vS u8 u_ (by cases dv with|none=>exact PySem.F.args_min1 _|some d=>exact LG _ _) ?_;have H:fQ "min" ["key","default"] 0 ⟨[],dv.toList.map λd=>(aq "default",d)⟩=pure [none,dv]:=by cases dv<;>rfl
 show aF _ A.in1 (fQ "min" ["key","default"] 0 ⟨[],dv.toList.map λd=>(aq "default",d)⟩ >>= _) _ _ s;refine aa (mM H ?_);refine aa (ai ?_);refine aa (fS C ?_);refine aa (bM ?_);have B:s.heap.objs.size < (s.heap.push { cls:=.type "list_iterator",data:=.fields #[.ref l,.int 0 0] }).objs.size:=by rw[cw];exact ie _
 have I:(s.heap.push { cls:=.type "list_iterator",data:=.fields #[.ref l,.int 0 0] }).objs.size∉[s.heap.objs.size,l]:=λg=>by
  rcases aI.mp g with e|g
  ·exact d_ B e
  ·rw[aC.mp g]at B;exact ba (m5 q B) (cy _)
 rw[c];refine ai ⟨fC cO _,Qb (Kp:=λh=>∀b o,s.heap.get? b=some o->h.get? b=some o) (vN (A:=A.in1) hh s.heap.objs.size l (aR q) items) J u _ I (λh h' Y G b o e=>G b o (λg=>?_) (λz=>?_) (Y b o e)) L ?_ ?_ (aB _ rfl) λv h' tk U G=>?_⟩
 ·exact ba (aD e) (by rw[aC.mp g];exact cy _)
 ·subst z;exact ba (m5 (aD e) B) (cy _)
 ·exact⟨⟨_,ah _ (aB _ rfl),rfl,rfl⟩,(C.push _).push _⟩
 ·exact λb o e=>ah _ (ah _ e)
 ·refine O v h' tk U λb o e=>G b o (λg=>?_) (λz=>?_) (ah _ (ah _ e))
  ·exact ba (aD e) (by rw[aC.mp g];exact cy _)
  ·subst z;exact ba (m5 (aD e) B) (cy _)
end
open PySem.SeqAt
section
variable{A:bz}{s:am}
def zw(h:bw)(v:ab)(p:Int×List Int):Prop:=∃a t b xs,v=.ref a/\h.IsTuple a #[.int p.1 t,.ref b]/\h.IsTuple b xs/\n_ xs.toList p.2
end
section
variable{prog:Program}{w:bD}{A:bz}{E:ab->am->Prop}{s:am}
theorem Wv{l:ak}{items:Array ab}{dv:ab}{Q:ab->am->Prop}(hh:A.handled=none)(h:s.heap.IsList l items)(B:items.size=0)
  (G:∀(h':bw)(tk:Nat),(∀b o,s.heap.get? b=some o->h'.get? b=some o)->Q dv { s with heap:=h',toks:=tk }):
  aF (aW prog w) A (call (.builtin "min") [.ref l] [(aq "default",dv)]) Q E s:=by
 have c:(toString "min"++toString ".loop":String)="min.loop":=by decide
 have g:l < s.heap.objs.size:=by obtain⟨_,e,_⟩:=h;exact aD e
 refine qU vS u8 u_ (LG _ _) ?_;have u:fQ "min" ["key","default"] 0 ⟨[],[(aq "default",dv)]⟩=pure [none,some dv]:=rfl
 show aF _ A.in1 (fQ "min" ["key","default"] 0 ⟨[],[(aq "default",dv)]⟩ >>= _) _ _ s;refine aa (mM u ?_);refine aa (ai ?_);refine aa (fS h ?_);refine aa (bM ?_);have H:s.heap.objs.size < (s.heap.push { cls:=.type "list_iterator",data:=.fields #[.ref l,.int 0 0] }).objs.size:=by rw[cw];exact ie _
 rw[c];have W:=vN (prog:=prog) (w:=w) (A:=A.in1) hh s.heap.objs.size l (aR g) items;refine ai ⟨fC cO _,eS iN ?_⟩;rw[eW cO _]
 show aF _ A.in1 (iC (.ref (s.heap.push { cls:=.type "list_iterator",data:=.fields #[.ref l,.int 0 0] }).objs.size) >>= _) _ _ _;refine aa (cN (aB _ rfl) rfl ?_)
 show aF _ A.in1 (tryCatch (iL (.ref s.heap.objs.size)) _ >>= _) _ _ _;refine aa (mo (W.done _ _ _ ?_ λh' tk q=>?_))
 ·rw[B];exact⟨⟨_,ah _ (aB _ rfl),rfl,rfl⟩,(h.push _).push _⟩
 ·show aF _ A.in1 (PySem.rule _ >>= _) _ _ _;refine aa (gM (ai ?_));refine G h' tk λb o e=>q b o (λC=>?_) (ah _ (ah _ e));exact ba (aD e) (by rw[aC.mp C];exact cy _)
end
end MM
namespace MM
open PySem PySem.Spec PyProof.Rows L2
section
def wA:uT:=λq c s=>CH s λt a _ h=>Bx t λes k p Y=>v2 es λG E U=>vk G λx C Q=>vk E λy B O=>Bx a λvs H u L=>wh (c.top=true/\c.sc.names.lookup x=some .cell/\c.sc.names.lookup y=some .cell) λz=>(q.e c (.Tuple vs H u)).bind λf=>(q.g c (.Tuple [.Name x C,.Name y B] k p)).bind λl=>some ⟨bB l.1 f.1,λ{X}g=>by
 subst h Y U Q O L;obtain⟨o,J,I⟩:=z;have e1:(X.env.kindOf x == some c5.local)=false:=by rw[(g.kd o).2 x,J];rfl
 have e2:(X.env.kindOf y == some c5.local)=false:=by rw[(g.kd o).2 y,I];rfl
 refine GK (f.2 g) (l.2 g) rfl ?_ rfl;unfold qc;simp only[e1,e2,AB,iU,aT,if_false];simp only[pure_bind,gD,bV];split
 ·rfl
 ·split
  ·rfl
  ·rfl⟩
end
section
def Wr{β:Type}(e:Expr)(k:∀a b s p,e=.Lambda a b s p->Option β):Option β:=match e,k with
 | .Lambda a b s p,k=>k a b s p rfl
 |_,_=>none
theorem QX{a:kP}{env:Env}(h:a.defaults.isEmpty=true/\a.kw_defaults.isEmpty=true):defaultsOf a env=([],[]):=by obtain⟨C,B,u,q,c,o,d⟩:=a;obtain⟨l,g⟩:=h;obtain rfl:d=[]:=xM.mp l;obtain rfl:c=[]:=xM.mp g;rfl
def A_:kW:=λq c e=>DY e λx p u _ h=>vC u λa u C=>(FM c x).bind λi=>wh ((c.W.1.all λr=>decide (r.2.k<=c.k))=true/\(c.W.2.all λr=>decide (r.2.k<=c.k))=true) λz=>(wP q c (a::u)).bind λB=>some ⟨qw c.W (al i.1) B.1,λg=>by subst h C;obtain⟨x,y,l⟩:=B.2;rw[ck,bj]at y;exact SN (λe r o=>⟨g.W.1 e r o,g.hr.mono (of_decide_eq_true (cX.mp z.1 _ o))⟩) (λe r o=>⟨g.W.2 e r o,g.hr.mono (of_decide_eq_true (cX.mp z.2 _ o))⟩) (NZ g i.2) (x g) (pZ y.1) (Cq y.2)⟩
end
def Fl(e:Expr):kP:=match e with
 | .Lambda a _ _ _=>a
 |_=>{ posonlyargs:=[],args:=[],vararg:=none,kwonlyargs:=[],kw_defaults:=[],kwarg:=none,defaults:=[] }
def Bh(e:Expr):Expr:=match e with
 | .Lambda _ b _ _=>b
 |e=>e
def tJ(e:Expr):cZ:=match e with
 | .Lambda _ _ s _=>s
 |_=>{ kind:=.function,names:=[],isGenerator:=false,isCoroutine:=false }
def BC(e:Expr):Pos:=match e with
 | .Lambda _ _ _ p=>p
 |_=>⟨0,0,0,0⟩
def FI(s:Stmt):Expr:=match s with
 | .Return (some e) _=>e
 | .Assign _ e _=>e
 |_=>.Name "" ⟨0,0,0,0⟩
def E1(n:Nat)(e:Expr):Expr:=match e with
 | .Call _ as _ _=>as.getD n e
 | .BinOp a _ b _=>if n=0 then a else b
 |_=>e
section
variable{P:Program}{w:bD}{K:ag}{mg:Str->Option ab}{base:bw}
theorem G8:Ae P w K mg base ([],[]):=⟨(λ_ _ z=>nomatch z),(λ_ _ z=>nomatch z)⟩
theorem Mx{c:FCode}{r:RK}{W:WT}(h:qF P w K mg base r.k r.n c r.g)(t:Ae P w K mg base W):Ae P w K mg base (W.1,(c,r)::W.2):=⟨t.1,λl g z=>by
 rcases aI.mp z with z|z
 ·cases z;exact h
 ·exact t.2 l g z⟩
theorem YV(R:mP){r:List Str}{x:Str}{g:Stmt}{ps:List Str}{k n m:Nat}{c:CS}{G:List (Str×RF)}{Z:List Str}{C:List (Str×D)}{H:List (Nat×Nat×Nat)}{W:WT}(F:FnAt K mg x g)(S:sF (ps++r) ps (bv g)=true)
  (b:∀(kV o B:ab)(U:Option ak)(q ct:ab)(h:List ab),h.length=ps.length->io (b7 x x (dL g) (cH g) (bv g) .none kV o B U q ct) { pos:=h }=pure (ps.zip h))
  (J:(o8 (nY R 40) ⟨bv g,ps++r,k,G,Z,C,H,true,W,none⟩ (cH g)).map (·.1)=some c) (u:cg P w K mg base G) (L:vW mg Z) (Q:xz K mg C) (O:Ae P w K mg base W) (E:ps.length=n:=by rfl) (I:(ps++r).length=m:=by rfl):cg P w K mg base ((x,⟨n,k+1,ps,false,bJ m c⟩)::G):=by
 obtain⟨f,Y,F,l⟩:=F;exact GC l (Ko R 40 F (Ha S) E I u L Q J O λ_ z=>nomatch z) F.kp (F.binds b) nofun u
noncomputable def wD(K:ag)(mg:Str->Option ab)(x:Str)(h:Stmt):Prop:=∃a g c P,xE K x x h a g/\mg x=some (.ref a)/\fE K cq x=some (some (.ref a))/\g.code=.ref c/\eL K c P=true
theorem RD(R:mP){r:List Str}{x:Str}{h:Stmt}{ps:List Str}{j k n m:Nat}{g:CS}{G:List (Str×RF)}{Z:List Str}{C:List (Str×D)}{H:List (Nat×Nat×Nat)}(F:wD K mg x h)(S:sF (ps++r) ps (bv h)=true)
  (b:∀(kV q E:ab)(an:Option ak)(u ct:ab)(l:List ab),l.length=ps.length->io (b7 x x (dL h) (cH h) (bv h) .none kV q E an u ct) { pos:=l }=pure (ps.zip l))
  (L:(o8 (nY R 40) ⟨bv h,ps++r,k,G,Z,C,H,true,([],[]),some (j,x)⟩ (cH h)).map (·.1)=some g) (B:cg P w K mg base G) (O:vW mg Z) (Q:xz K mg C) (U:BMod base mg) (I:ps.length=n:=by rfl) (J:(ps++r).length=m:=by rfl):cg P w K mg base ((x,⟨n,k+1,ps,false,bJ m g⟩)::G):=by
 obtain⟨f,fd,c,P',F,o,h1,h2,Y⟩:=F;exact GC o (Ko R 40 F (Ha S) I J B O Q L G8 λt z=>by cases z;exact⟨rfl,c,P',h1,h2,Y,U⟩) F.kp (F.binds b) nofun B
end
theorem Fo{K:ag}{mg:Str->Option ab}{h:bw}{x:Str}{g:Stmt}{f c P:ak}{u I:Option ak}{o:Array (Option ab)}{B kV H q ct:ab}(X:K.In h)(G:h.Ns cq mg)(a:fE K cq x=some (some (.ref f)))
  (l:K.lookup f=some ⟨B,u,.func (b7 x x (dL g) (cH g) (bv g) .none kV H q I (.ref c) ct),o⟩) (E:fO K (.ref c) x=true) (k:da K (.ref f)=true) (C:eL K c P=true):wD K mg x g:=
 ⟨f,_,c,P,Mo (st:=g) l E k,rK X G a,a,rfl,C⟩
theorem B2{K:ag}{x:Str}{f c P:ak}{B:ab}{u:Option ak}{o:cV}{q:Array (Option ab)}(g:fE K cq x=some (some (.ref f)))(l:K.lookup f=some ⟨B,u,.func o,q⟩)(C:o.code=.ref c)(h:eL K c P=true)(n:K.lookup P=none):TabOf K x P/\K.lookup P=none:=
 ⟨⟨f,_,o,c,g,l,rfl,C,h⟩,n⟩
theorem Sq{P:Program}{w:bD}{K:ag}{mg mb:Str->Option ab}{k:Nat}{fa a:ak}{fd:cV}{x:Str}{g:List D->M D}{s₁:am}{vs:List ab}{ns:List Int}{C:List (ak×Str×Str)}
  (KX:K.In s₁.heap) (hns:s₁.heap.Ns cq mg) (J:s₁.heap.Ns md mb) (hbb:∀x:Str,x≠"__name__"->mb x=bT x) (hlim:s₁.heap.NoLimit) (hg:s₁.gens=#[]) (hB:BMod s₁.heap mg)
  (hnd:(C.map (·.1)).Nodup) (I:∀p∈C,s₁.heap.get? p.1=some (dU #[])/\TabOf K p.2.1 p.1/\K.lookup p.1=none)
  (ha:s₁.heap.get? a=some { cls:=.type "list",data:=.seq vs.toArray }) (hi:n_ vs ns) (hl:ns.length<=sizeLine) (hr:im k kY)
  (F:∀base:bw,BMod base mg->mC P w K mg base rQ k fa fd [x] (mT K 1 g)) (Y:∀(s:am)(u:ab),rC s fd ⟨[u],[]⟩ [(x,u)])
  (hsp:∃st',g [.lit (ns.map D.int)] (C.map λp=>.tbl p.2.1 p.2.2)=.ok (.bl true) st'):
  gK (aW P w) kY (.call (.ref fa) ⟨[.ref a],[]⟩) (λr G=>r=.ok (.ret (.bool true))/\OldK s₁.heap G.heap/\G.os=s₁.os/\kX G.gens) s₁:=by
 have rv:=KA hi;have lenV:=hi.length;have nT:∀b∈C.map (·.1),s₁.heap.get? b=some (dU #[])/\K.lookup b=none:=λb J=>by obtain⟨p,U,rfl⟩:=bR.mp J;exact⟨(I p U).1,(I p U).2.2⟩
 have naT:a∉C.map (·.1):=λz=>by have:=(nT a z).1;rw[ha]at this;cases this
 have L : ∀S : Option HO, (S = none \/ ∃o, S = some (.frz o (.lst (ns.map V.int))) /\ o = { cls := .type "list", data := .seq vs.toArray }) -> (S ≠ none -> K.lookup a = none) -> ∀H : Hp, (H = λb => if b = a then S else if b ∈ C.map (·.1) then some (.tbl #[]) else none) -> xC K H a (ns.map V.int) ->
   gK (aW P w) kY (.call (.ref fa) ⟨[.ref a],[]⟩) (λr G=>r=.ok (.ret (.bool true))/\OldK s₁.heap G.heap/\G.os=s₁.os/\kX G.gens) s₁:=by
  intro S hS hK H eH fz;have eA:H a=S:=by rw[eH];exact aJ rfl
  have eT:∀b∈C.map (·.1),H b=some (.tbl #[]):=λb J=>by
   rw[eH]
   show (if b=a then S else if b∈C.map (·.1) then some (.tbl #[]) else none)=_;have nz:¬ b=a:=λz=>naT (z ▸ J);rw[aG nz,aJ J]
  have eN:∀b,b≠a->b∉C.map (·.1)->H b=none:=λb E B=>by
   rw[eH]
   show (if b=a then S else if b∈C.map (·.1) then some (.tbl #[]) else none)=_;rw[aG E,aG B]
  have hok:mw P w H s₁.heap:=λb u e=>by
   by_cases E:b=a
   ·subst E;rw[eA]at e;rcases hS with z|⟨o,z,zo⟩
    ·rw[z]at e;cases e
    ·rw[z]at e;cases e;subst zo;exact⟨ha,by rw[af];exact hl,vs,_,rv,ha⟩
   ·by_cases B:b∈C.map (·.1)
    ·rw[eT b B]at e;cases e;exact (nT b B).1
    ·rw[eN b E B]at e;cases e
  have no:∀{b:ak}{o:Obj},s₁.heap.get? b=some o->o≠{ cls:=.type "list",data:=.seq vs.toArray }->o≠dU #[]->H b=none:=λ{b o}e n1 n2=>eN b (λz=>by subst z;rw[ha]at e;exact n1 (aM e).symm) λz=>by have:=(nT b z).1;rw[e]at this;exact n2 (aM this)
  have noD:∀{b:ak}{o:Obj}{es:Array nD}{ep:Nat},s₁.heap.get? b=some o->o.data=.dict es ep->H b=none:=λe d=>no e (λz=>by subst z;cases d) λz=>by subst z;cases d
  have l:∀{b:ak}{o:Obj},s₁.heap.get? b=some o->H b=none->(nW s₁.heap H).get? b=some o:=λe n=>OL e n;have Q:∀{b:ak}{m:Str->Option ab},s₁.heap.Ns b m->(nW s₁.heap H).Ns b m:=λ{b m}O=>by obtain⟨o,es,ep,e,d,r⟩:=O;exact⟨o,es,ep,l e (noD e d),d,r⟩
  have hKb:K.In (nW s₁.heap H):=λb o e=>l (KX b o e) (by
   by_cases E:b=a
   ·subst E;rw[eA];rcases hS with z|⟨o',z,_⟩
    ·exact z
    ·rw[hK (by rw[z];simp)]at e;cases e
   ·exact eN b E λB=>by rw[(nT b B).2]at e;cases e)
  have hM:Mod K mg (nW s₁.heap H):=⟨hKb,Q hns,⟨mb,Q J,hbb⟩,let ⟨mc,E,B⟩:=hlim;⟨mc,Q E,B⟩⟩
  have hBb:BMod (nW s₁.heap H) mg:=by obtain⟨bm,ob,E,B,h3,h4,h5,h6⟩:=hB;exact⟨bm,ob,E,B,l h3 (no h3 (λz=>by subst z;cases h6) λz=>by subst z;cases h6),h4,h5,h6⟩
  have e0:qh P w K mg (nW s₁.heap H) kY [] s₁ H:=⟨rfl,hM,λb o e=>Oq e,ut (NP _ _),trivial,λb J=>ba (show b∈([]:List ak) from J) (by simp),hok,.of_eq hg⟩
  have sr:SR K (C.map (·.1)) H (C.map λp=>.tbl p.2.1 p.2.2):=⟨by simp,hnd,λn b o e1 e2=>by
   rw[ao]at e1 e2;cases e:C[n]? with
   |none=>rw[e]at e1;cases e1
   |some p=>
    rw[e]at e1 e2;cases e1;cases e2;have U:=av e;exact⟨(I p U).2.1,#[],eT _ (ik U),trivial,λ_ _ z=>by cases z⟩⟩
  obtain⟨st',est⟩:=hsp;have sp:mT K 1 g [.ref a] H (λv _=>v=.bl true) E0:=⟨rfl,_,_,_,sr,.cons (.lit fz (MD ns)) .nil,by rw[est];intro ρ' H' _ _ v rv;cases rv;rfl⟩
  refine kq ((F _ hBb).run kY [] s₁ H ⟨[.ref a],[]⟩ [.ref a] [.ref a] _ _ hr e0 (Y s₁ (.ref a)) (.cons rfl .nil) sp) λr G h=>?_;cases r with
  |error e=>exact h.elim
  |ok fl=>
   cases fl with
   |next=>exact cK h
   |brk=>exact cK h
   |cont=>exact cK h
   |ret u=>
    obtain⟨v,H',os,bare,un,hok',r',q⟩:=h;have q':v=.bl true:=q;subst q';obtain rfl:u=dX true:=r';have all:∀b o,s₁.heap.get? b=some o->G.heap.get? b=some o\/(b∈C.map (·.1)/\o=dU #[]/\∃more,G.heap.get? b=some (dU more)):=λb o e=>by
     by_cases E:b=a
     ·subst E;rcases hS with z|⟨o',z,zo⟩
      ·exact .inl (un.keep b o e (eA.trans z) (by intro z;exact ba (show b∈([]:List ak) from z) (by simp)) (by simp))
      ·have z2:=un.frzs b o' _ (eA.trans z);obtain⟨e2,_⟩:=hok' b _ z2;rw[ha]at e;cases e;subst zo;exact .inl e2
     ·by_cases B:b∈C.map (·.1)
      ·obtain⟨more,z2⟩:=un.tbls b #[] (eT b B);have:=(nT b B).1;rw[e]at this;exact .inr ⟨B,aM this,_,hok' b _ z2⟩
      ·exact .inl (un.keep b o e (eN b E B) (by intro z;exact ba (show b∈([]:List ak) from z) (by simp)) (by simp))
    refine⟨rfl,⟨λb o e=>?_,λb o e=>?_⟩,os,bare⟩
    ·rcases all b o e with z|⟨B,rfl,more,z⟩
     ·exact .inl z
     ·obtain⟨p,U,rfl⟩:=bR.mp B;obtain⟨l,o',h,c,_,_,_,_,g⟩:=(I p U).2.1;exact .inr (.inl ⟨((ua KX g).tab e).isCodeTable,rfl,#[],more,rfl,by rw[z];simp⟩)
    ·rcases all b o e with z|⟨_,_,more,z⟩
     ·exact⟨_,z⟩
     ·exact⟨_,z⟩
 cases hk:K.lookup a with
 |some o=>
  have e:=KX a o hk;rw[ha]at e;cases e;exact L none (.inl rfl) (λz=>ba rfl z) _ rfl (.inr ⟨_,vs.toArray,_,hk,rfl,rfl,rfl,by rw[ay,lenV];exact hl,by simpa using rv⟩)
 |none=>exact L (some (.frz { cls:=.type "list",data:=.seq vs.toArray } (.lst (ns.map V.int)))) (.inr ⟨_,rfl,rfl⟩) (λ_=>hk) _ rfl (.inl ⟨_,aJ rfl⟩)
theorem SV{l:v9}{n k:Nat}{q:Program}{B:List Str}{XP:(Str->Option ab)->bw->Prop}{YP:bD->bw->Prop}{d:DefRec}{K:Params->ag}{g:List D->M D}{x:Str}(H:List (ak×Str×Str))
  (hn:l.most=some n) (U:n<=sizeLine) (hdf:d.params.defaults=[]) (hr:im k kY) (hY:∀(w:bD)(h:bw),YP w h->(K w.params).In h/\∀P∈H.map (·.1),h.get? P=some (dU #[])) (Q:(H.map (·.1)).Nodup)
  (L:∀(w:bD),∀p∈H,TabOf (K w.params) p.2.1 p.1/\(K w.params).lookup p.1=none)
  (F:∀(w:bD)(mg:Str->Option ab)(I:ak)(h:bw),(K w.params).In h->h.Ns cq mg->mg d.name=some (.ref I)->∃fd:cV,(∀(s:am)(u:ab),rC s fd ⟨[u],[]⟩ [(x,u)])/\∀base:bw,BMod base mg->mC l.prog w (K w.params) mg base rQ k I fd [x] (mT (K w.params) 1 g))
  (O:∀ns:List Int,ns.length<=n->∃J,g [.lit (ns.map D.int)] (H.map λp=>.tbl p.2.1 p.2.2)=.ok (.bl true) J):xN q B XP YP l.row.toRowW d [] (λf vs=>vL f vs):=by
 refine Att.tu hn hdf λw s₀ s₁ mg mb I o pm cd doc a vs ns G Y ho hd hcd hmg E C c hg=>?_;obtain⟨KX,KT⟩:=hY w _ Y;obtain⟨fd,hb,hF⟩:=F w mg I _ KX G.T.g hmg;obtain⟨bm,ob,b1,b2,b3,b4,b5,b6⟩:=G.T.bmain;exact Sq KX G.T.g G.T.b G.T.builtins G.T.nolimit hg ⟨bm,ob,b1,b2,b3,b4,b5,b6⟩ Q (λp hp=>⟨KT _ (ik hp),L w p hp⟩) E C (cF c U) hr hF hb (O ns c)
noncomputable def By(N ps fr:List Str)(sc:cZ):Bool:=(sc.kind == .function)&&(sc.isCoroutine == false)&&(sc.isGenerator == false)&&decide N.Nodup&&(N.take (ps++fr).length == ps++fr)&&(ps.all λx=>sc.names.lookup x == some .local||sc.names.lookup x == some .cell)&&(fr.all λx=>sc.names.lookup x == some .free)&&(sc.names.all λy=>y.2 != .free||fr.contains y.1)&&(sc.names.all λy=>y.2 != .cell || !fr.contains y.1)
theorem Yw{N ps fr:List Str}{sc:cZ}(h:By N ps fr sc=true):qB N ps fr sc:=by
 unfold By at h;simp only[bj,beq_iff_eq,decide_eq_true_eq,cX,iD,bne_iff_ne,ne_eq]at h;obtain⟨⟨⟨⟨⟨⟨⟨⟨H,G⟩,E⟩,C⟩,B⟩,u⟩,o⟩,l⟩,g⟩:=h;refine⟨H,G,E,C,B,u,o,λx c=>?_,λx c z=>?_⟩
 ·rcases l _ c with q|q
  ·exact ba rfl q
  ·simpa using q
 ·rcases g _ z with q|q
  ·exact ba rfl q
  ·simp at q;exact q c
section
def yM(c:RC)(names:List (Str×c5)):Bool:=decide (nZ names).Nodup&&((nZ names).all λx=>c.N[c.N.idxOf x]? == some x)&&names.all λy=>y.2 != .free||c.sc.names.lookup y.1 == some .cell
theorem Nz{X:Cx}{c:RC}{names:List (Str×c5)}(g:Good X c)(E:c.top=true)(h:yM c names=true):qo X names ((nZ names).map c.N.idxOf):=by
 unfold yM at h;simp only[bj,decide_eq_true_eq,cX,iD,bne_iff_ne,ne_eq,beq_iff_eq]at h;obtain⟨⟨I,H⟩,G⟩:=h;refine⟨λx C=>?_,I,?_⟩
 ·rcases G _ C with z|z
  ·exact ba rfl z
  ·have u:X.env.kindOf x=some .cell:=((g.kd E).2 x).trans z;refine⟨.inl u,?_⟩;rcases (g.S.loc x .cell z (.inr rfl)).2 with q|q
   ·exact q
   ·have:X.env.kindOf x=some .local:=q;rw[u]at this;cases this
 ·have : ∀(l : List Str), (∀x ∈ l, c.N[c.N.idxOf x]? = some x) -> cW (λ(x : Str)i => X.N[i]? = some x) l (l.map c.N.idxOf) := by
    intro l
    induction l with
    |nil=>exact λ_=>.nil
    |cons x l ih=>exact λo=>.cons (by rw[g.N];exact o x (.head _)) (ih λy B=>o y (.tail _ B))
  exact this _ H
end
end MM
namespace MM
open PySem
abbrev At{α:Type}(_:α->aX->Prop):Type:=aX
inductive wp{α:Type}(m:M α)(Q:α->aX->Prop)(s:At Q):Prop
 |intro (a:α) (s':aX) (h:m s=.ok a s') (q:Q a s'):wp m Q s
theorem qr{α:Type}{m:M α}{Q:α->aX->Prop}{s:aX}:wp m Q s=(match m s with
 | .ok a s'=>Q a s'
 |_=>False):=by
 apply propext;constructor
 ·rintro ⟨a,s',h,q⟩;rw[h];exact q
 ·intro h;cases e:m s with
  |ok a s'=>rw[e]at h;exact⟨a,s',e,h⟩
  |exc _ _=>rw[e]at h;exact h.elim
  |bad=>rw[e]at h;exact h.elim
section
variable{α β:Type}{Q:α->aX->Prop}{s:aX}
theorem dh{m:M α}{a:α}{c:aX}(h:m s=.ok a c):wp m Q s=Q a c:=by rw[qr,h]
theorem qM{m:M α}(h:m s=.bad):wp m Q s=False:=by rw[qr,h]
theorem pB{m:M β}{Q c:β->aX->Prop}{s:aX}(h:∀a g,Q a g=c a g):wp m Q s=wp m c s:=by rw[show Q=c from funext λa=>funext λt=>h a t]
theorem cj{a:α}:wp (ret a) Q s=Q a s:=dh rfl
theorem ma:wp (bad:M α) Q s=False:=qM rfl
theorem d9{m:M β}{f:β->M α}:wp (bnd m f) Q s=wp m (λa c=>wp (f a) Q c) s:=by simp only[qr];unfold bnd;cases m s<;>rfl
theorem dQ{c:Prop}[Decidable c]{m:M α}:wp (chk c m) Q s=(c/\wp m Q s):=by
 unfold chk;by_cases h:c
 ·simp[h]
 ·simp[h,ma]
theorem iI{o:MO}{Q:D->aX->Prop}:wp (alloc o) Q s=Q (.ref s.length) (s++[o]):=dh rfl
theorem fU{n:Nat}{ds:List D}{Q:List D->aX->Prop}(h:s[n]?=some (.lst ds)):wp (getL n) Q s=Q ds s:=by rw[qr];unfold getL;rw[h]
theorem rh{n:Nat}{ds c:List D}{Q:Unit->aX->Prop}(h:s[n]?=some (.lst ds)):wp (putL n c) Q s=Q () (s.set n (.lst c)):=by rw[qr];unfold putL;rw[h]
theorem tq{m:M α}{g:α->aX->Prop}(h:wp m Q s)(f:∀a c,Q a c->g a c):wp m g s:=by
 simp only[qr]at *;cases e:m s with
 |ok a c=>rw[e]at h;exact f a c h
 |exc _ _=>rw[e]at h;exact h
 |bad=>rw[e]at h;exact h
theorem Gh{c:Prop}[Decidable c]{m n:M α}:wp (if c then m else n) Q s=if c then wp m Q s else wp n Q s:=by split<;>rfl
end
theorem El{ds:List D}{i:Int}{d:D}(c:0<=i)(h:ds[i.toNat]?=some d):c6 ds i=ret d:=by have g:i.toNat < ds.length:=(ae.mp h).1;unfold c6 MM.pY;rw[aJ c,aJ (by ext)];dsimp only;rw[h]
theorem AI{n:Nat}{b:CS}{ds:List D}{Q:D->aX->Prop}{s:aX}:wp (bJ n b ds) Q s=wp (b (ds.map some++az (n-ds.length) none)) (λf c=>wp (wE f) Q c) s:=by unfold bJ;rw[d9]
theorem We{g:CG}{b:CS}{same:aX->Prop}{Q:vD->aX->Prop}(W:List D->Loc->aX->Prop)
  (u:∀l s,W [] l s->wp (chkS same) (λ_ E=>Q (.next l) E) s)
  (o:∀d ds l s,W (d::ds) l s->wp (chkS same) (λ_ C=>wp (g d l) (λG B=>wp (b G) (λf c=>match f with
   | .next l2=>W ds l2 c
   | .cnt l2=>W ds l2 c
   | .brk l2=>Q (.next l2) c
   | .ret d=>Q (.ret d) c) B) C) s):∀ds l s,W ds l s->wp (o7 g b same ds l) Q s:=by
 intro ds
 induction ds with
 |nil=>
  intro l s h;unfold o7;rw[d9];exact tq (u l s h) λ_ E q=>by rw[cj];exact q
 |cons d ds ih=>
  intro l s h;unfold o7;rw[d9];refine tq (o d ds l s h) λ_ C q=>?_;rw[d9];refine tq q λG B q=>?_;rw[d9];refine tq q λf c q=>?_;cases f with
  |next l2=>exact ih l2 c q
  |cnt l2=>exact ih l2 c q
  |brk l2=>show wp (ret _) _ _;rw[cj];exact q
  |ret d=>show wp (ret _) _ _;rw[cj];exact q
theorem F1{g:CG}{t:CT}{e:CE}{same:aX->Prop}{Q:List D->aX->Prop}(W:List D->List D->Loc->aX->Prop)
  (B:∀out l s,W out [] l s->wp (chkS same) (λ_ C=>Q out C) s)
  (o:∀out d ds l s,W out (d::ds) l s->wp (chkS same) (λ_ H=>wp (g d l) (λc G=>wp (t c) (λb u=>if b=true then wp (e c) (λx E=>W (out++[x]) ds c E) u else W out ds c u) G) H) s):
  ∀ds out l s,W out ds l s->wp (collect g t e same ds l) (λxs C=>Q (out++xs) C) s:=by
 intro ds
 induction ds with
 |nil=>
  intro out l s h;unfold collect;rw[d9];exact tq (B out l s h) λ_ C q=>by rw[cj,dm];exact q
 |cons d ds ih=>
  intro out l s h;unfold collect;rw[d9];refine tq (o out d ds l s h) λ_ H q=>?_;rw[d9];refine tq q λc G q=>?_;rw[d9];refine tq q λb u q=>?_;cases b with
  |false=>exact ih out c u q
  |true=>
   show wp (bnd (e c) _) _ u;rw[d9];refine tq q λx E q=>?_;rw[d9];refine tq (ih (out++[x]) c E q) λxs I q=>?_;rw[cj];rw[dG]at q;exact q
theorem N6{n i:Nat}(h:i < n):(km 0 n)[i]?=some (.int i):=by unfold km;rw[ao,kS h];simp
theorem EX{n i:Nat}{d:D}(h:(km 0 n)[i]?=some d):i < n/\d=.int i:=by
 have c:i < n:=by have:=(ae.mp h).1;simpa [km] using this
 rw[N6 c]at h;cases h;exact⟨c,rfl⟩
theorem rS(n:Nat):(km 0 n).length=n:=by simp[km]
theorem fA{n:Nat}(h:n<=1000):n<=dN:=cF h (by decide)
theorem rl{n:Nat}(h:n<=1000):n < dN:=pv h (by decide)
theorem Hc{g:CG}{b:CS}{same:aX->Prop}{xs:List D}{l:Loc}{s:aX}{Q:vD->aX->Prop}(W:Nat->Loc->aX->Prop)(H:∀i l s,W i l s->same s)(L:W 0 l s)
  (o:∀(i:Nat)d l s,xs[i]?=some d->W i l s->wp (g d l) (λG E=>wp (b G) (λf u=>match f with
   | .next l2=>W (i+1) l2 u
   | .cnt l2=>W (i+1) l2 u
   | .brk l2=>Q (.next l2) u
   | .ret d=>Q (.ret d) u) E) s) (B:∀l s,W xs.length l s->Q (.next l) s):wp (o7 g b same xs l) Q s:=by
 have chk:∀{s:aX}{R:Unit->aX->Prop},same s->R () s->wp (chkS same) R s:=λh r=>by rw[qr];unfold chkS;rw[aJ h];exact r
 refine We (λds l s=>∃i,ds=xs.drop i/\i<=xs.length/\W i l s) (λl s ⟨i,C,J,w⟩=>?_) (λd ds l s ⟨i,C,J,w⟩=>?_) xs l s ⟨0,by simp,bn _,L⟩
 ·have : i = xs.length := by have:=cU cP C;simp at this;ext
  subst this;exact chk (H _ _ _ w) (B l s w)
 ·have c : i < xs.length := by have:=cU cP C;simp at this;ext
  rw[cQ c]at C;obtain⟨O,I⟩:=la C;refine chk (H _ _ _ w) ?_;refine tq (o i d l s (by rw[O];exact aj c) w) λG E q=>tq q λf u q=>?_;cases f with
  |next l2=>exact⟨i+1,I,c,q⟩
  |cnt l2=>exact⟨i+1,I,c,q⟩
  |brk l2=>exact q
  |ret d=>exact q
end MM
local macro_rules|`(tactic| bv_omega)=>`(tactic| first|rfl|exact MM.dh rfl|exact MM.qM rfl)
local macro_rules|`(tactic| ac_rfl)=>`(tactic| first|rfl|simp only[MM.cj,MM.iI,MM.ma]|(refine MM.pB λ_ _=>?_;simp only[MM.cj,MM.iI,MM.ma]))
namespace MM
open PySem
theorem nr{α:Sort u}{a b:α}(h:a=b):a=b:=h
section
variable{Q:D->aX->Prop}{R:vD->aX->Prop}{T:Bool->aX->Prop}{A:List D->aX->Prop}{G:Loc->aX->Prop}{I:Wk->aX->Prop}{s:aX}{l:Loc}
theorem rX{a b:CS}: wp (aK a b l) R s=wp (a l) (λf c=>match f with
  | .next l'=>wp (b l') R c
  | .ret d=>R (.ret d) c
  | .brk l'=>R (.brk l') c
  | .cnt l'=>R (.cnt l') c) s:=by
 unfold aK;rw[d9];congr 1;funext f c;cases f<;>first|bv_omega
theorem A2:wp (aY l) R s=R (.next l) s:=dh rfl
theorem uM{g:CG}{a:CE}:wp (bB g a l) R s=wp (a l) (λd h=>wp (g d l) (λo c=>R (.next o) c) h) s:=by unfold bB;rw[d9];congr 1;funext d h;rw[d9];ac_rfl
theorem z6{a:CE}:wp (dw a l) R s=wp (a l) (λd c=>R (.ret d) c) s:=by unfold dw;rw[d9];ac_rfl
theorem FF{a:CE}:wp (lD a l) R s=wp (a l) (λd c=>R (.next l) c) s:=by unfold lD;rw[d9];ac_rfl
theorem IK{t:CT}{a b:CS}:wp (om t a b l) R s=wp (t l) (λc g=>if c=true then wp (a l) R g else wp (b l) R g) s:=by unfold om;rw[d9];congr 1;funext c g;rw[Gh]
theorem z0{a:CE}: wp (dg a l) T s=wp (a l) (λx c=>match x with
  | .bl b=>T b c
  |_=>False) s:=by
 unfold dg;rw[d9];congr 1;funext x c;cases x<;>first|bv_omega
theorem Fv{a:CE}:wp (sD a l) T s=wp (a l) (λx c=>wp (zt x) T c) s:=by unfold sD;rw[d9]
theorem E8{a:CT}:wp (sX a l) T s=wp (a l) (λx c=>T (!x) c) s:=by unfold sX;rw[d9];ac_rfl
theorem De{a b:CT}:wp (qK a b l) T s=wp (a l) (λc g=>if c=true then wp (b l) T g else T false g) s:=by unfold qK;rw[d9];congr 1;funext c g;rw[Gh];ac_rfl
theorem JQ{a b:CT}:wp (wB a b l) T s=wp (a l) (λc g=>if c=true then T true g else wp (b l) T g) s:=by unfold wB;rw[d9];congr 1;funext c g;rw[Gh];ac_rfl
theorem fB{i:Nat}{d:D}:wp (aO i d l) G s=G (l.set i (some d)) s:=dh rfl
theorem Jr{d:D}{b:Option D}{r:Loc}{Q:Loc->aX->Prop}:wp (aO 0 d (b::r)) Q s=Q (some d::r) s:=fB
theorem Kj{c:Option D}{d:D}{b:Option D}{r:Loc}{Q:Loc->aX->Prop}:wp (aO 1 d (c::b::r)) Q s=Q (c::some d::r) s:=fB
theorem Iy{g c:Option D}{d:D}{b:Option D}{r:Loc}{Q:Loc->aX->Prop}:wp (aO 2 d (g::c::b::r)) Q s=Q (g::c::some d::r) s:=fB
theorem HY{h g c:Option D}{d:D}{b:Option D}{r:Loc}{Q:Loc->aX->Prop}:wp (aO 3 d (h::g::c::b::r)) Q s=Q (h::g::c::some d::r) s:=fB
theorem K5{o h g c:Option D}{d:D}{b:Option D}{r:Loc}{Q:Loc->aX->Prop}:wp (aO 4 d (o::h::g::c::b::r)) Q s=Q (o::h::g::c::some d::r) s:=fB
theorem Ec{q o h g c:Option D}{d:D}{b:Option D}{r:Loc}{Q:Loc->aX->Prop}:wp (aO 5 d (q::o::h::g::c::b::r)) Q s=Q (q::o::h::g::c::some d::r) s:=fB
theorem Dd{u q o h g c:Option D}{d:D}{b:Option D}{r:Loc}{Q:Loc->aX->Prop}:wp (aO 6 d (u::q::o::h::g::c::b::r)) Q s=Q (u::q::o::h::g::c::some d::r) s:=fB
theorem HC{B u q o h g c:Option D}{d:D}{b:Option D}{r:Loc}{Q:Loc->aX->Prop}:wp (aO 7 d (B::u::q::o::h::g::c::b::r)) Q s=Q (B::u::q::o::h::g::c::some d::r) s:=fB
theorem Db{C B u q o h g c:Option D}{d:D}{b:Option D}{r:Loc}{Q:Loc->aX->Prop}:wp (aO 8 d (C::B::u::q::o::h::g::c::b::r)) Q s=Q (C::B::u::q::o::h::g::c::some d::r) s:=fB
theorem Je{E C B u q o h g c:Option D}{d:D}{b:Option D}{r:Loc}{Q:Loc->aX->Prop}:wp (aO 9 d (E::C::B::u::q::o::h::g::c::b::r)) Q s=Q (E::C::B::u::q::o::h::g::c::some d::r) s:=fB
theorem FP{H E C B u q o h g c:Option D}{d:D}{b:Option D}{r:Loc}{Q:Loc->aX->Prop}:wp (aO 10 d (H::E::C::B::u::q::o::h::g::c::b::r)) Q s=Q (H::E::C::B::u::q::o::h::g::c::some d::r) s:=fB
theorem Ff{J H E C B u q o h g c:Option D}{d:D}{b:Option D}{r:Loc}{Q:Loc->aX->Prop}:wp (aO 11 d (J::H::E::C::B::u::q::o::h::g::c::b::r)) Q s=Q (J::H::E::C::B::u::q::o::h::g::c::some d::r) s:=fB
theorem AM{o i:CE}{d:D}:wp (kz o i d l) G s=wp (o l) (λy g=>wp (i l) (λz c=>wp (mO y z d) (λ_ h=>G l h) c) g) s:=by unfold kz;rw[d9];congr 1;funext y g;rw[d9];congr 1;funext z c;rw[d9];ac_rfl
theorem i8{i:Nat}: wp (al i l) Q s=match l[i]? with
  |some (some d)=>Q d s
  |_=>False:=by
 unfold al;rcases l[i]? with _|_|d<;>first|bv_omega
theorem vh{d:D}{r:Loc}:wp (al 0 (some d::r)) Q s=Q d s:=i8
theorem vw{c:Option D}{d:D}{r:Loc}:wp (al 1 (c::some d::r)) Q s=Q d s:=i8
theorem Bf{g c:Option D}{d:D}{r:Loc}:wp (al 2 (g::c::some d::r)) Q s=Q d s:=i8
theorem DD{h g c:Option D}{d:D}{r:Loc}:wp (al 3 (h::g::c::some d::r)) Q s=Q d s:=i8
theorem Ef{o h g c:Option D}{d:D}{r:Loc}:wp (al 4 (o::h::g::c::some d::r)) Q s=Q d s:=i8
theorem Bb{q o h g c:Option D}{d:D}{r:Loc}:wp (al 5 (q::o::h::g::c::some d::r)) Q s=Q d s:=i8
theorem DT{u q o h g c:Option D}{d:D}{r:Loc}:wp (al 6 (u::q::o::h::g::c::some d::r)) Q s=Q d s:=i8
theorem II{B u q o h g c:Option D}{d:D}{r:Loc}:wp (al 7 (B::u::q::o::h::g::c::some d::r)) Q s=Q d s:=i8
theorem Fd{C B u q o h g c:Option D}{d:D}{r:Loc}:wp (al 8 (C::B::u::q::o::h::g::c::some d::r)) Q s=Q d s:=i8
theorem JX{E C B u q o h g c:Option D}{d:D}{r:Loc}:wp (al 9 (E::C::B::u::q::o::h::g::c::some d::r)) Q s=Q d s:=i8
theorem DZ{H E C B u q o h g c:Option D}{d:D}{r:Loc}:wp (al 10 (H::E::C::B::u::q::o::h::g::c::some d::r)) Q s=Q d s:=i8
theorem EU{J H E C B u q o h g c:Option D}{d:D}{r:Loc}:wp (al 11 (J::H::E::C::B::u::q::o::h::g::c::some d::r)) Q s=Q d s:=i8
theorem sZ{d:D}:wp (aw d l) Q s=Q d s:=dh rfl
theorem Ee{g:D->M D}{a:CE}:wp (c1 g a l) Q s=wp (a l) (λx c=>wp (g x) Q c) s:=by unfold c1;rw[d9]
theorem vg{g:D->D->M D}{a b:CE}:wp (c2 g a b l) Q s=wp (a l) (λx h=>wp (b l) (λy c=>wp (g x y) Q c) h) s:=by unfold c2;rw[d9];congr 1;funext x h;rw[d9]
theorem uh{g:List D->M D}{a:CA}:wp (bu g a l) Q s=wp (a l) (λx c=>wp (g x) Q c) s:=by unfold bu;rw[d9]
theorem sW:wp (aH l) A s=A [] s:=dh rfl
theorem qJ{a:CE}{r:CA}:wp (ac a r l) A s=wp (a l) (λx g=>wp (r l) (λxs c=>A (x::xs) c) g) s:=by unfold ac;rw[d9];congr 1;funext x g;rw[d9];ac_rfl
theorem wC{a:CA}:wp (bo a l) Q s=wp (a l) (λxs c=>xs.length<=dN/\Q (.tup xs) c) s:=by unfold bo;rw[d9];congr 1;funext x c;rw[dQ];ac_rfl
theorem AN{a:CA}:wp (eV a l) A s=wp (a l) (λxs c=>xs.length<=dN/\A xs c) s:=by unfold eV;rw[d9];congr 1;funext x c;rw[dQ];ac_rfl
theorem BZ{a:CA}:wp (cY a l) Q s=wp (a l) (λxs c=>Q (.ref c.length) (c++[.lst xs])) s:=by unfold cY;rw[d9];ac_rfl
theorem FU{g:List D->M D}{a:CA}:wp (iQ g a l) Q s=wp (a l) (λx c=>wp (g x) Q c) s:=by unfold iQ;rw[d9]
theorem Bg{n:Nat}{caps:List Nat}{i:CI}{g:CG}{t:CT}{e:CE}:wp (dF n caps i g t e l) A s=wp (i l) (λw c=>w.ds.length<=dN/\wp (collect g t e w.same w.ds (fZ n caps l)) A c) s:=by unfold dF;rw[d9];congr 1;funext x c;rw[dQ]
theorem DC{i:CI}{g:CG}{b:CS}:wp (kC i g b l) R s=wp (i l) (λw c=>wp (o7 g b w.same w.ds l) R c) s:=by unfold kC;rw[d9]
theorem D0{a:CE}: wp (MM.fm a l) I s=wp (a l) (λx c=>match x with
  | .int j=>(-(2^62)<=j/\j < 2^62)/\I ⟨km 0 j.toNat,eU⟩ c
  |_=>False) s:=by
 unfold MM.fm;rw[d9];congr 1;funext x c;cases x<;>first|bv_omega|(dsimp only;rw[dQ];ac_rfl)
theorem Bz{a:CE}: wp (ic a l) I s=wp (a l) (λx c=>match x with
  | .tup ds=>I ⟨ds,eU⟩ c
  | .lit ds=>I ⟨ds,eU⟩ c
  | .ref n=>wp (getL n) (λds g=>I ⟨ds,i9 n ds⟩ g) c
  |_=>False) s:=by
 unfold ic;rw[d9];congr 1;funext x c;cases x<;>first|bv_omega|(dsimp only;rw[d9];ac_rfl)
theorem Af{i j:Int}:wp (c8 (.int i) (.int j)) Q s=Q (.int (i+j)) s:=dh rfl
theorem E2{i j:Int}:wp (n0 (.int i) (.int j)) Q s=Q (.int (i-j)) s:=dh rfl
theorem Ai{i j:Int}:wp (qG (.int i) (.int j)) Q s=(qA i j/\Q (.int (i*j)) s):=by unfold qG sj;rw[dQ];ac_rfl
theorem E7{i j:Int}:wp (tL (.int i) (.int j)) Q s=((0 < j/\j < 1073741824)/\Q (.int (i / j)) s):=by unfold tL sj;rw[dQ];ac_rfl
theorem zY{i j:Int}:wp (pe (.int i) (.int j)) Q s=(0 < j/\Q (.int (i % j)) s):=by unfold pe sj;rw[dQ];ac_rfl
theorem J8{i j:Int}:wp (zx (.int i) (.int j)) Q s=Q (.bl (decide (i < j))) s:=dh rfl
theorem I_{i j:Int}:wp (CL (.int i) (.int j)) Q s=Q (.bl (decide (j < i))) s:=dh rfl
theorem Ig{i j:Int}:wp (G0 (.int i) (.int j)) Q s=Q (.bl (decide (j<=i))) s:=dh rfl
theorem JA{i j:Int}:wp (on (.int i) (.int j)) Q s=Q (.bl (i == j)) s:=dh rfl
theorem iH{ds:List D}{i:Int}:wp (aQ (.tup ds) (.int i)) Q s=wp (c6 ds i) Q s:=nr rfl
theorem xS{n:Nat}{i:Int}:wp (aQ (.ref n) (.int i)) Q s=wp (getL n) (λds c=>wp (c6 ds i) Q c) s:=by unfold aQ;rw[d9]
theorem uc{ds:List D}:wp (ge (.tup ds)) Q s=Q (.int ds.length) s:=dh rfl
theorem B5{n:Nat}:wp (ge (.ref n)) Q s=wp (getL n) (λds c=>Q (.int ds.length) c) s:=by unfold ge;rw[d9];ac_rfl
theorem AX{b:Bool}:wp (intD (.bl b)) Q s=Q (.int (if b then 1 else 0)) s:=dh rfl
theorem Bj{n:Nat}{i:Int}{v:D}{U:Unit->aX->Prop}: wp (mO (.ref n) (.int i) v) U s=wp (getL n) (λds c=>wp (match MM.pY ds.length i with
  |some j=>putL n (ds.set j v)
  |none=>bad) U c) s:=by
 unfold mO;rw[d9]<;>congr 1
theorem BO{d:D}:wp (wE (.ret d)) Q s=Q d s:=dh rfl
end
theorem zE{a:CE}{lo o:CO}{A:List D->aX->Prop}{s:aX}{l:Loc}: wp (qC a lo o l) A s=wp (a l) (λx h=>wp (lo l) (λi g=>wp (o l) (λj c=>match x with
  | .lit ds=>A (cutD ds i j) c
  | .ref n=>wp (getL n) (λds q=>A (cutD ds i j) q) c
  |_=>False) g) h) s:=by
 unfold qC;rw[d9];congr 1;funext x h;rw[d9];congr 1;funext i g;rw[d9];congr 1;funext j c;cases x<;>first|bv_omega|(dsimp only;rw[d9];ac_rfl)
theorem BF{A:Option Int->aX->Prop}{s:aX}{l:Loc}:wp (gY l) A s=A none s:=dh rfl
theorem Bp{a:CE}{A:Option Int->aX->Prop}{s:aX}{l:Loc}: wp (gc a l) A s=wp (a l) (λx c=>match x with
  | .int i=>A (some i) c
  |_=>False) s:=by
 unfold gc;rw[d9];congr 1;funext x c;cases x<;>first|bv_omega
theorem B1{a:CE}{I:Wk->aX->Prop}{s:aX}{l:Loc}: wp (tF a l) I s=wp (a l) (λx c=>match x with
  | .tup ds=>I ⟨(km 0 ds.length).zipWith (λi d=>.tup [i,d]) ds,eU⟩ c
  |_=>False) s:=by
 unfold tF;rw[d9];congr 1;funext x c;cases x<;>first|bv_omega
theorem ui{n:Nat}{r:List D->Loc->M Loc}{ds:List D}{G:Loc->aX->Prop}{s:aX}{l:Loc}:wp (gZ n r (.tup ds) l) G s=(ds.length=n/\wp (r ds l) G s):=by unfold gZ;rw[dQ]
theorem oA{g:CG}{r:List D->Loc->M Loc}{d:D}{ds:List D}{G:Loc->aX->Prop}{s:aX}{l:Loc}:wp (cA g r (d::ds) l) G s=wp (g d l) (λh c=>wp (r ds h) G c) s:=by unfold cA;rw[d9]
theorem uj{G:Loc->aX->Prop}{s:aX}{l:Loc}:wp (ib [] l) G s=G l s:=dh rfl
def dZ(s c:aX):Prop:=∃t,c=s++t
theorem dZ.refl(s:aX):dZ s s:=⟨[],by simp⟩
theorem dZ.snoc{s c:aX}(h:dZ s c)(o:MO):dZ s (c++[o]):=by obtain⟨t,e⟩:=h;exact⟨t++[o],by rw[e];simp⟩
theorem dZ.trans{s g c:aX}(h:dZ s g)(k:dZ g c):dZ s c:=by obtain⟨t,e⟩:=h;obtain⟨u,f⟩:=k;exact⟨t++u,by rw[f,e];simp⟩
theorem dZ.at_{s c:aX}{n:Nat}{o:MO}(h:dZ s c)(k:s[n]?=some o):c[n]?=some o:=by obtain⟨t,e⟩:=h;rw[e,ar (ae.mp k).1];exact k
theorem U5{α:Type}(f:α->Int)(xs:List α):mq (xs.map λx=>.int (f x))=some (xs.map f):=by
 induction xs with
 |nil=>rfl
 |cons x xs ih=>simp only[aL,mq,ih];ac_rfl
theorem Oz{α:Type}{m:M α}{v:α}{s:aX}{Q:α->aX->Prop}(h:wp m (λa c=>a=v/\c=s) s):wp m Q s=Q v s:=by
 simp only[qr]at *;cases e:m s with
 |ok a c=>rw[e]at h;obtain⟨l,g⟩:=h;subst l;subst g;ac_rfl
 |exc _ _=>rw[e]at h;exact h.elim
 |bad=>rw[e]at h;exact h.elim
theorem IB{a b:Nat}{x y:List D}{Q:D->aX->Prop}{s:aX}(g:s[a]?=some (.lst x))(c:s[b]?=some (.lst y)):wp (c8 (.ref a) (.ref b)) Q s=(x.length+y.length<=dN/\Q (.ref s.length) (s++[.lst (x++y)])):=by unfold c8;rw[d9,fU g,d9,fU c,dQ];ac_rfl
def BD(x:D)(p q:Prop):Prop:=match x with
 | .bl true=>p
 | .bl false=>q
 |_=>False
theorem BB{p q:Prop}:BD (.bl true) p q=p:=nr rfl
theorem A3{p q:Prop}:BD (.bl false) p q=q:=nr rfl
section
variable{Q:D->aX->Prop}{T:Bool->aX->Prop}{R:vD->aX->Prop}{s:aX}{l:Loc}
theorem AK{a b:CE}:wp (tj a b l) Q s=wp (a l) (λx c=>BD x (wp (b l) Q c) (Q (.bl false) c)) s:=by unfold tj;rw[d9];congr 1;funext x c;rcases x with _|b|_|_|_|_|_|_<;>first|bv_omega|(cases b<;>first|bv_omega)
theorem Fa{t:CT}{a b:CE}:wp (wM t a b l) Q s=wp (t l) (λc g=>if c=true then wp (a l) Q g else wp (b l) Q g) s:=by unfold wM;rw[d9];congr 1;funext c g;rw[Gh]
theorem BG{b:Bool}:wp (zt (.bl b)) T s=T b s:=dh rfl
theorem C_{a b:Bool}:wp (on (.bl a) (.bl b)) Q s=Q (.bl (a == b)) s:=dh rfl
theorem Be{ds:List D}:wp (lI ds) Q s=Q (.tup ds) s:=dh rfl
theorem lc{d:D}{ds:List D}:wp (c6 (d::ds) 0) Q s=Q d s:=by rw[El (d:=d) (by ext) rfl,cj]
theorem lX{d e:D}{ds:List D}:wp (c6 (d::e::ds) 1) Q s=Q e s:=by rw[El (d:=e) (by ext) rfl,cj]
theorem yU{d e f:D}{ds:List D}:wp (c6 (d::e::f::ds) 2) Q s=Q f s:=by rw[El (d:=f) (by ext) rfl,cj]
theorem xX{d e f g:D}{ds:List D}:wp (c6 (d::e::f::g::ds) 3) Q s=Q g s:=by rw[El (d:=g) (by ext) rfl,cj]
theorem sQ{ds:List D}{i:Nat}{d:D}(h:ds[i]?=some d):wp (c6 ds i) Q s=Q d s:=by rw[El (d:=d) (by ext) (by simpa using h),cj]
theorem zk:wp (cz l) T s=T true s:=dh rfl
theorem AS{a:CA}{I:Wk->aX->Prop}:wp (wF a l) I s=wp (a l) (λds c=>I ⟨ds,eU⟩ c) s:=by unfold wF;rw[d9];ac_rfl
end
noncomputable def bP(p:Prop):Bool:=@decide p (Classical.propDecidable p)
theorem QjY{p:Prop}:bP p=true↔p:=@decide_eq_true_iff p (Classical.propDecidable p)
theorem Wz{p:Prop}(h:p):bP p=true:=QjY.mpr h
theorem Tp{p:Prop}(h:¬p):bP p=false:=by
 cases e:bP p with
 |false=>rfl
 |true=>exact (h (QjY.mp e)).elim
theorem VM{b:Bool}{p:Prop}(h:b=true↔p):b=bP p:=by
 cases b with
 |true=>exact (Wz (h.mp rfl)).symm
 |false=>exact (Tp λk=>by cases h.mpr k).symm
noncomputable def cf{α:Type}(n:Nat)(f:Nat->α):List α:=(bU n).map f
theorem Cr{α:Type}{n i:Nat}{f:Nat->α}(h:i < n):(cf n f)[i]?=some (f i):=by unfold cf;rw[ao,kS h];ac_rfl
theorem CM{α:Type}{n i:Nat}{f:Nat->α}{x:α}(h:(cf n f)[i]?=some x):i < n/\x=f i:=by
 have c:i < n:=by have:=(ae.mp h).1;simpa [cf] using this
 rw[Cr c]at h;cases h;exact⟨c,rfl⟩
theorem qW{α:Type}{n:Nat}{f:Nat->α}:(cf n f).length=n:=by simp[cf]
theorem QW{α:Type}{n:Nat}{f:Nat->α}:cf (n+1) f=cf n f++[f n]:=by unfold cf;rw[m9,bq];ac_rfl
theorem Dq{α:Type}{n:Nat}{xs:List α}{f:Nat->α}(g:xs.length=n)(h:∀i,i < n->xs[i]?=some (f i)):xs=cf n f:=by
 apply e8;intro i;by_cases c:i < n
 ·rw[h i c,Cr c]
 ·rw[bH (by ext),bH (by rw[qW];ext)]
theorem GO{α β:Type}{n:Nat}{f:Nat->α}{g:α->β}:(cf n f).map g=cf n λi=>g (f i):=by unfold cf;rw[hU];ac_rfl
theorem zZ{n:Nat}:km 0 n=cf n λi=>.int i:=by unfold km cf;congr 1;funext k;simp
theorem nX{n:Nat}{f:Nat->Bool}:kN (cf n λi=>.bl (f i))=some (cf n f):=by
 have:∀(xs:List Nat),kN (xs.map λi=>.bl (f i))=some (xs.map f):=by
  intro xs
  induction xs with
  |nil=>rfl
  |cons x xs ih=>simp only[aL,kN,ih];ac_rfl
 exact this _
theorem sY{n:Nat}{p:Nat->Prop}{Q:D->aX->Prop}{s:aX}:wp (tK (cf n λi=>.bl (bP (p i)))) Q s=Q (.bl (bP (∃i,i < n/\p i))) s:=by unfold tK;rw[nX];have:(cf n λi=>bP (p i)).any id=bP (∃i,i < n/\p i):=VM (by simp[cf,pH,QjY]);dsimp only;rw[this,cj]
theorem Og{g:CG}{e:CE}{same:aX->Prop}{ds:List D}{E:Loc}{f:Nat->D}{Q:List D->aX->Prop}{s:aX}(I:Loc->Prop)(O:same s)(h0:I E)
  (h:∀i d l,ds[i]?=some d->I l->∃q,(∀G,wp (g d l) G s=G q s)/\I q/\∀Q,wp (e q) Q s=Q (f i) s):
  wp (collect g cz e same ds E) Q s=Q (cf ds.length f) s:=by
 have chk:∀{R:Unit->aX->Prop},R () s->wp (chkS same) R s:=λr=>by rw[qr];unfold chkS;rw[aJ O];exact r
 apply Oz;refine F1 (Q:=λout c=>out=cf ds.length f/\c=s) (λout xs l c=>∃i,xs=ds.drop i/\i<=ds.length/\I l/\out=cf i f/\c=s) (λout l c ⟨i,u,U,_,C,B⟩=>?_) (λout d xs l c ⟨i,u,U,Y,C,B⟩=>?_) ds [] _ s ⟨0,by simp,bn _,h0,rfl,rfl⟩
 ·have : i = ds.length := by have:=cU cP u;simp at this;ext
  subst this;subst B;exact chk ⟨C,rfl⟩
 ·have o : i < ds.length := by have:=cU cP u;simp at this;ext
  rw[cQ o]at u;obtain⟨E,g⟩:=la u;obtain⟨q,L,J,H⟩:=h i d l (by rw[E];exact aj o) Y;subst B;refine chk ?_;rw[L]
  show wp (ret true) _ c;rw[cj]
  show wp (e q) _ c;rw[H];exact⟨i+1,g,o,J,by rw[C,QW],rfl⟩
theorem Gg{e:CE}{same:aX->Prop}{ds:List D}{caps:Loc}{f:Nat->D}{Q:List D->aX->Prop}{s:aX}(g:same s)(h:∀i d,ds[i]?=some d->∀Q,wp (e (some d::caps)) Q s=Q (f i) s):
  wp (collect (aO 0) cz e same ds (none::caps)) Q s=Q (cf ds.length f) s:=
 Og (λl=>∃x,l=x::caps) g ⟨none,rfl⟩ λi d l hd c=>by obtain⟨x,el⟩:=c;exact⟨some d::caps,λG=>by rw[el,fB];rfl,⟨_,rfl⟩,h i d hd⟩
theorem Ol{e:CE}{same:aX->Prop}{ds:List D}{caps:Loc}{f:Nat->D}{Q:List D->aX->Prop}{s:aX}(g:same s)(h:∀i d,ds[i]?=some d->∃a b,d=.tup [a,b]/\∀Q,wp (e (some a::some b::caps)) Q s=Q (f i) s):
  wp (collect (gZ 2 (cA (aO 0) (cA (aO 1) ib))) cz e same ds (none::none::caps)) Q s=Q (cf ds.length f) s:=
 Og (λl=>∃x y,l=x::y::caps) g ⟨none,none,rfl⟩ λi d l hd c=>by obtain⟨x,y,el⟩:=c;obtain⟨a,b,o,q⟩:=h i d hd;refine⟨some a::some b::caps,λG=>?_,⟨_,_,rfl⟩,q⟩;rw[o,el,ui,oA,fB,oA,fB,uj];exact propext ⟨λh=>h.2,λh=>⟨rfl,h⟩⟩
section
variable{n:Nat}{f:Nat->D}{Q:D->aX->Prop}{s:aX}
theorem ww{i:Nat}(h:i < n):wp (c6 (cf n f) (i:Int)) Q s=Q (f i) s:=sQ (Cr h)
theorem Wi(h:0 < n):wp (c6 (cf n f) 0) Q s=Q (f 0) s:=by have:=@sQ Q s (cf n f) 0 (f 0) (Cr h);simpa using this
end
theorem vq{s:aX}:eU s:=trivial
theorem Al{e:CE}{same:aX->Prop}{n:Nat}{g:Nat->D}{caps:Loc}{f:Nat->D}{Q:List D->aX->Prop}{s:aX}(c:same s)(h:∀i,i < n->∀Q,wp (e (some (g i)::caps)) Q s=Q (f i) s):
  wp (collect (aO 0) cz e same (cf n g) (none::caps)) Q s=Q (cf n f) s:=by
 rw[Gg (f:=f) c (λi d hd=>by obtain⟨l,e⟩:=CM hd;subst e;exact h i l),qW]
theorem Sn{n:Nat}{f:Nat->D}:(km 0 n).zipWith (λi d=>D.tup [i,d]) (cf n f)=cf n λi=>.tup [.int i,f i]:=by
 apply Dq
 ·simp[km,cf]
 ·intro i c;rw[j_,N6 c,Cr c]
section
variable{Q:D->aX->Prop}{T:Bool->aX->Prop}{R:vD->aX->Prop}{A:List D->aX->Prop}{s:aX}{l:Loc}
theorem wI{a b:CE}: wp (fu a b l) Q s=wp (a l) (λx h=>match x with
  | .ref n=>wp (b l) (λv g=>wp (getL n) (λds c=>ds.length < dN/\wp (putL n (ds++[v])) (λ_ o=>Q .non o) c) g) h
  |_=>False) s:=by
 unfold fu;rw[d9];congr 1;funext x h;cases x<;>first|bv_omega|(dsimp only;rw[d9];congr 1;funext v g;unfold uI;rw[d9];congr 1;funext ds c;rw[dQ,d9];first|ac_rfl|(refine cU _ ?_;refine pB λ_ _=>?_;simp only[cj,iI,ma]))
theorem DK{a:CE}: wp (wN a l) Q s=wp (a l) (λx g=>match x with
  | .ref n=>wp (getL n) (λds c=>match ds.getLast? with
   |some d=>wp (putL n ds.dropLast) (λ_ h=>Q d h) c
   |none=>False) g
  |_=>False) s:=by
 unfold wN;rw[d9];congr 1;funext x g;cases x<;>first|bv_omega|(dsimp only;rw[d9];congr 1;funext ds c;cases ds.getLast?<;>first|bv_omega|(dsimp only;rw[d9];first|ac_rfl|(refine cU _ ?_;refine pB λ_ _=>?_;simp only[cj,iI,ma])))
theorem xZ{ds:List D}:wp (rL (.tup ds)) Q s=Q (.ref s.length) (s++[.lst ds]):=dh rfl
theorem wG{n:Nat}:wp (tupleD (.ref n)) Q s=wp (getL n) (λds c=>Q (.tup ds) c) s:=by unfold tupleD;rw[d9];(try dsimp only);(try rw[d9]);refine pB λ_ _=>?_;simp only[cj,iI,ma]
theorem BR{x:D}{ds:List D}:wp (Ei x (.tup ds)) Q s=wp (A1 x ds) Q s:=nr rfl
theorem yO{a b:Str}:wp (on (.str a) (.str b)) Q s=Q (.bl (a == b)) s:=dh rfl
theorem AL{i j:Int}:wp (rY (.int i) (.int j)) Q s=Q (.int (max i j)) s:=dh rfl
theorem Bq{x y:List D}:wp (c8 (.tup x) (.tup y)) Q s=(x.length+y.length<=dN/\Q (.tup (x++y)) s):=by unfold c8;rw[dQ];first|ac_rfl|(refine cU _ ?_;refine pB λ_ _=>?_;simp only[cj,iI,ma])
theorem wQ{a:CA}{b:CE}: wp (kF a b l) Q s=wp (a l) (λds g=>wp (b l) (λi c=>match i with
  | .int k=>wp (c6 ds k) Q c
  |_=>False) g) s:=by
 unfold kF;rw[d9];congr 1;funext ds g;rw[d9];congr 1;funext i c;cases i<;>first|bv_omega
end
theorem DH{p q:Prop}:(if false=true then p else q)=q:=aG (by simp)
noncomputable def mx(f:Nat->Nat):Nat->Nat
 |0=>0
 |n+1=>max (mx f n) (f n)
theorem J7{f:Nat->Nat}{n m:Nat}(h:∀i,i < n->f i<=m):mx f n<=m:=by
 induction n with
 |zero=>exact bn _
 |succ n ih=>unfold mx;exact Nat.max_le.mpr ⟨ih λi c=>h i (by ext),h n (by ext)⟩
theorem OJ{f:Nat->Nat}{n i:Nat}(h:i < n):f i<=mx f n:=by
 induction n with
 |zero=>ext
 |succ n ih=>
  unfold mx;by_cases e:i=n
  ·subst e;exact zU _ _
  ·exact cF (ih (by ext)) (AC _ _)
theorem RT{f:Nat->Nat}{n:Nat}{Q:D->aX->Prop}{s:aX}(g:0 < n):wp (tG (cf n λi=>.int (f i:Nat))) Q s=Q (.int (mx f n:Nat)) s:=by
 obtain⟨k,rfl⟩:∃k,n=k+1:=⟨n-1,by ext⟩
 have c:∀(k:Nat),(((bU k).map (· + 1)).map λ(i:Nat)=>((f i:Nat):Int)).foldl max ((f 0:Nat):Int)=((mx f (k+1):Nat):Int):=by
  intro k
  induction k with
  |zero=>show ((f 0:Nat):Int)=((max 0 (f 0):Nat):Int);ext
  |succ k ih=>
   rw[m9,bq,bq,pI,ih]
   show max ((mx f (k+1):Nat):Int) ((f (k+1):Nat):Int)=((max (mx f (k+1)) (f (k+1)):Nat):Int)
   ext
 unfold tG cf;rw[U5 (λi=>((f i:Nat):Int)),mL,aL];dsimp only;rw[cj,<- c k]
theorem dZ.put{s c:aX}{n:Nat}{o:MO}(h:dZ s c)(g:s.length<=n):dZ s (c.set n o):=by obtain⟨t,e⟩:=h;exact⟨t.set (n-s.length) o,by rw[e,List.set_append_right _ _ g]⟩
theorem dZ.le{s c:aX}(h:dZ s c):s.length<=c.length:=by obtain⟨t,e⟩:=h;rw[e];simp
theorem Hv{t:CT}{b:CS}:∀(n:Nat)(l:Loc)(s:aX),eY t b n l s≠.bad->eY t b (n+1) l s=eY t b n l s
 |0,l,s,h=>(h rfl).elim
 |n+1,l,s,h=>by
  have g:∀k,eY t b (k+1) l s=(match t l s with
   | .ok true s1=>(match b l s1 with
    | .ok (.next l2) s2=>eY t b k l2 s2
    | .ok (.cnt l2) s2=>eY t b k l2 s2
    | .ok (.brk l2) s2=>.ok (.next l2) s2
    | .ok (.ret d) s2=>.ok (.ret d) s2
    | .exc x s2=>.exc x s2
    | .bad=>.bad)
   | .ok false s1=>.ok (.next l) s1
   | .exc x s1=>.exc x s1
   | .bad=>.bad):=λk=>by
   show bnd (t l) _ s=_;unfold bnd;cases t l s with
   |exc x s1=>rfl
   |bad=>rfl
   |ok c s1=>
    cases c with
    |false=>rfl
    |true=>
     show (bnd (b l) _) s1=_;unfold bnd;dsimp only;cases b l s1 with
     |exc x s2=>rfl
     |bad=>rfl
     |ok f s2=>cases f<;>first|bv_omega
  rw[g (n+1),g n];rw[g n]at h;cases o:t l s with
  |exc x s1=>rfl
  |bad=>rfl
  |ok c s1=>
   rw[o]at h;cases c with
   |false=>rfl
   |true=>
    dsimp only at h ⊢;cases q:b l s1 with
    |exc x s2=>rfl
    |bad=>rfl
    |ok f s2=>
     rw[q]at h;cases f with
     |next l2=>exact Hv n l2 s2 h
     |cnt l2=>exact Hv n l2 s2 h
     |brk l2=>rfl
     |ret d=>rfl
theorem Nm{t:CT}{b:CS}{n m:Nat}{l:Loc}{s:aX}(h:eY t b n l s≠.bad)(c:n<=m):eY t b m l s=eY t b n l s:=by
 induction m with
 | zero => have : n = 0 := by ext
           subst this;ac_rfl
 |succ m ih=>
  by_cases e:n=m+1
  ·subst e;ac_rfl
  ·have:=ih (by ext);rw[Hv m l s (by rw[this];exact h),this]
theorem Jn{t:CT}{b:CS}{Q:vD->aX->Prop}{l:Loc}{s:aX}(W:Loc->aX->Prop)(μ:Loc->aX->Nat)(L:W l s)
  (I:∀l s,W l s->wp (t l) (λc C=>if c=true then wp (b l) (λf o=>match f with
   | .next l2=>W l2 o/\μ l2 o < μ l s
   | .cnt l2=>W l2 o/\μ l2 o < μ l s
   | .brk l2=>Q (.next l2) o
   | .ret d=>Q (.ret d) o) C else Q (.next l) C) s):wp (kL t b l) Q s:=by
 have key:∀(k:Nat)(l:Loc)(s:aX),μ l s < k->W l s->∃n,wp (eY t b n l) Q s:=by
  intro k
  induction k with
  |zero=>intro l s h;ext
  |succ k ih=>
   intro l s O w;have B:=I l s w;rw[qr]at B;cases E:t l s with
   |exc x C=>rw[E]at B;exact B.elim
   |bad=>rw[E]at B;exact B.elim
   |ok c C=>
    rw[E]at B;cases c with
    |false=>
     refine⟨1,?_⟩
     show wp (bnd (t l) _) Q s;rw[d9,dh E]
     show wp (ret _) _ _;rw[cj];exact B
    |true=>
     have g:wp (b l) _ C:=B;rw[qr]at g;cases G:b l C with
     |exc x o=>rw[G]at g;exact g.elim
     |bad=>rw[G]at g;exact g.elim
     |ok f o=>
      rw[G]at g;have go:∀(n:Nat),wp (match f with
       | .next l2=>eY t b n l2
       | .cnt l2=>eY t b n l2
       | .brk l2=>ret (.next l2)
       | .ret d=>ret (.ret d)) Q o->wp (eY t b (n+1) l) Q s:=λn q=>by
       show wp (bnd (t l) _) Q s;rw[d9,dh E,aJ rfl,d9,dh G];exact q
      cases f with
      |next l2=>obtain⟨n,u⟩:=ih l2 o (by have:=g.2;ext) g.1;exact⟨n+1,go n u⟩
      |cnt l2=>obtain⟨n,u⟩:=ih l2 o (by have:=g.2;ext) g.1;exact⟨n+1,go n u⟩
      |brk l2=>exact⟨1,go 0 (by show wp (ret _) _ _;rw[cj];exact g)⟩
      |ret d=>exact⟨1,go 0 (by show wp (ret _) _ _;rw[cj];exact g)⟩
 obtain⟨n,u⟩:=key (μ l s+1) l s (ie _) L;have H:eY t b n l s≠.bad:=λe=>by rw[qr]at u;rw[e]at u;exact u
 have ex:∃n,∀r,eY t b n l s=r->r≠.bad:=⟨n,λr e=>e ▸ H⟩
 rw[qr];unfold kL;rw[dif_pos ex];have J:eY t b (ff ex) l s≠.bad:=gi ex _ rfl;have e:eY t b (ff ex) l s=eY t b n l s:=by rw[<- Nm J (AC (ff ex) n),<- Nm H (zU (ff ex) n)]
 rw[e];rw[qr]at u;exact u
section
variable{Q:D->aX->Prop}{s:aX}{l:Loc}
theorem wj{a:CE}{lo o:CO}: wp (dP a lo o l) Q s=wp (a l) (λx h=>wp (lo l) (λi g=>wp (o l) (λj c=>match x with
  | .tup ds=>¬(gB ds.length 0 i=0/\gB ds.length ds.length j=ds.length)/\Q (.tup (cutD ds i j)) c
  |_=>False) g) h) s:=by
 unfold dP;rw[d9];congr 1;funext x h;rw[d9];congr 1;funext i g;rw[d9];congr 1;funext j c;cases x<;>first|bv_omega|(dsimp only;rw[dQ];ac_rfl)
end
theorem YY{α:Type}{n:Nat}{x:α}{f:Nat->α}: x::cf n f=cf (n+1) λd=>match d with
  |0=>x
  |d+1=>f d:=by
 unfold cf;rw[mL,aL,hU];ac_rfl
section
variable{α β:Type}{γ:Sort _}
theorem F2{p:Prop}[Decidable p]:(decide p=true)=p:=_root_.decide_eq_true_eq
theorem KU{n:Nat}{a:α}:az (n+1) a=a::az n a:=nr rfl
theorem HE{a:α}:az 0 a=[]:=nr rfl
theorem J4{x:Option α}:(some x).join=x:=nr rfl
theorem Lh{f:α->β}{a:α}{l:List α}:AD f (a::l)=f a::AD f l:=nr rfl
theorem KC{f:α->β}:AD f []=[]:=nr rfl
theorem HP{a:α}{l k:List α}:(a::l)++k=a::(l++k):=nr rfl
theorem Ih{l:List α}:[]++l=l:=nr rfl
theorem KO{a:α}{l:List α}:(a::l)[0]?=some a:=nr rfl
theorem JT{a:α}{l:List α}{i:Nat}:(a::l)[i+1]?=l[i]?:=by simp
theorem JG{a b:α}{l:List α}:(a::l).set 0 b=b::l:=nr rfl
theorem HF{a b:α}{l:List α}{i:Nat}:(a::l).set (i+1) b=a::l.set i b:=nr rfl
theorem Js{a:α}{l:List α}:(a::l).length=l.length+1:=nr rfl
theorem HV:([]:List α).length=0:=nr rfl
theorem Lb{c d:γ}:(if True then c else d)=c:=aJ trivial
theorem Jp{c d:γ}:(if False then c else d)=d:=aG (λh=>h)
theorem Ke{p:Prop}:(p/\True)=p:=and_true p
theorem Lg{p:Prop}:(True/\p)=p:=true_and p
theorem Kb:(!true)=false:=nr rfl
theorem KH:(!false)=true:=nr rfl
end
section
variable{Q:D->aX->Prop}{U:Unit->aX->Prop}{A:List D->aX->Prop}{s:aX}{l:Loc}
theorem zF{n:Nat}{b:Bool}{c:List (D×D)}{Q:Bool×List (D×D)->aX->Prop}(h:s[n]?=some (.dct b c)):wp (getDc n) Q s=Q (b,c) s:=by rw[qr];unfold getDc;rw[h]
theorem LK{n:Nat}{b:Bool}{g c:List (D×D)}{Q:Unit->aX->Prop}(h:s[n]?=some (.dct b g)):wp (rM n b c) Q s=Q () (s.set n (.dct b c)):=by rw[qr];unfold rM;rw[h];simp
theorem zD{n:Nat}{b:Bool}{c:List (D×D)}{k d:D}(h:s[n]?=some (.dct b c))(o:oV b k=true)(g:kJ c k=some d):wp (itemK n k) Q s=Q d s:=by unfold itemK;rw[d9,zF h,dQ];dsimp only;rw[g,cj];exact propext ⟨λh=>h.2,λh=>⟨o,h⟩⟩
theorem Br{n:Nat}{b:Bool}{c:List (D×D)}{k v:D}(h:s[n]?=some (.dct b c))(o:oV b k=true)(g:c.length < dN):wp (storeK n k v) U s=U () (s.set n (.dct b (ke c k v))):=by unfold storeK;rw[d9,zF h,dQ];dsimp only;rw[LK h];exact propext ⟨λh=>h.2,λh=>⟨⟨o,g⟩,h⟩⟩
theorem Gx{n:Nat}{b:Bool}{c:List (D×D)}{k:D}{Q:Bool->aX->Prop}(h:s[n]?=some (.dct b c))(g:oV b k=true):wp (hasK n k) Q s=Q (kJ c k).isSome s:=by unfold hasK;rw[d9,zF h,dQ,cj];exact propext ⟨λh=>h.2,λh=>⟨g,h⟩⟩
theorem uQ{n:Nat}{k:D}:wp (aQ (.dic n) k) Q s=wp (itemK n k) Q s:=by cases k<;>first|bv_omega
theorem B0{n:Nat}{k v:D}:wp (mO (.dic n) k v) U s=wp (storeK n k v) U s:=by cases k<;>first|bv_omega
theorem zj{n:Nat}{k:D}:wp (oI k (.dic n)) Q s=wp (hasK n k) (λb c=>Q (.bl !b) c) s:=by unfold oI;rw[d9];ac_rfl
theorem PX{n:Nat}{b:Bool}{c:List (D×D)}(h:s[n]?=some (.dct b c)):wp (ge (.dic n)) Q s=Q (.int c.length) s:=by unfold ge;rw[d9,zF h];ac_rfl
theorem BW{b:Bool}:wp (qL b l) Q s=Q (.dic s.length) (s++[.dct b []]):=dh rfl
theorem xR{ks:List D}{vs:CA}:wp (tf ks vs l) Q s=wp (vs l) (λxs c=>ks.length=xs.length/\Q (.dic c.length) (c++[.dct false (yT [] (ks.zip xs))])) s:=by unfold tf;rw[d9];congr 1;funext xs c;rw[dQ];rw[show ∀g,wp (su false g) Q c=Q (.dic c.length) (c++[.dct false g]) from λ_=>dh rfl]
theorem AH{a:CA}:wp (wo a l) A s=wp (a l) (λds c=>A ds.reverse c) s:=by unfold wo;rw[d9];ac_rfl
end
theorem zc{a:CA}{b:CE}{A:List D->aX->Prop}{s:aX}{l:Loc}: wp (qI a b l) A s=wp (a l) (λxs g=>wp (b l) (λk c=>match k with
  | .int k=>((-(2^63)<=k/\k < 2^63)/\xs.length*k.toNat<=dN)/\A (az k.toNat xs).flatten c
  |_=>False) g) s:=by
 unfold qI;rw[d9];congr 1;funext xs g;rw[d9];congr 1;funext k c;cases k<;>first|bv_omega|(dsimp only;rw[dQ];ac_rfl)
theorem ko{α:Type}{l:List α}{a:α}:(l++[a])[l.length]?=some a:=by rw[bb (ax _),uG];ac_rfl
theorem mD{α:Type}{l:List α}{a b:α}{n:Nat}(h:l[n]?=some a):(l++[b])[n]?=some a:=by rw[ar (ae.mp h).1];exact h
section
variable{Q:D->aX->Prop}{A:List D->aX->Prop}{s:aX}
theorem LU{g:CG}{e:CE}{same:aX->Prop}{xs:List D}{l:Loc}(V:D->Prop)(L:Loc->Prop)(P:D->Prop)(W:aX->Prop)(U:∀s,W s->same s)(h0:W s)(hl:L l)(hV:∀d∈xs,V d)
  (u:∀d l s,V d->L l->W s->wp (g d l) (λE C=>L E/\wp (e E) (λx J=>P x/\W J) C) s) (B:∀out O,out.length=xs.length->(∀d∈out,P d)->W O->A out O):
  wp (collect g cz e same xs l) A s:=by
 have chk:∀{s:aX}{R:Unit->aX->Prop},same s->R () s->wp (chkS same) R s:=λh r=>by rw[qr];unfold chkS;rw[aJ h];exact r
 refine F1 (Q:=A) (λout ds l s=>out.length+ds.length=xs.length/\(∀d∈ds,V d)/\L l/\(∀d∈out,P d)/\W s) (λout l s ⟨I,_,_,G,w⟩=>?_) (λout d ds l s ⟨I,hv,hL,G,w⟩=>?_) xs [] l s ⟨by simp,hV,hl,λd hd=>ba hd (by simp),h0⟩
 ·exact chk (U _ w) (B out s (by simpa using I) G w)
 ·refine chk (U _ w) ?_;refine tq (u d l s (hv d (by simp)) hL w) λE C o=>?_;obtain⟨H,q⟩:=o
  show wp (ret true) _ C;rw[cj]
  show wp (e E) _ C;exact tq q λx J c=>by obtain⟨g,Y⟩:=c;exact⟨by simp at I ⊢;ext,λd hd=>hv d (by simp[hd]),H,λd hd=>by
   rcases aU.mp hd with hd|hd
   ·exact G d hd
   ·rw[aC.mp hd];exact g,Y⟩
theorem xY{e:CE}{same:aX->Prop}{xs:List D}{caps:Loc}(V:D->Prop)(P:D->Prop)(W:aX->Prop)(u:∀s,W s->same s)(C:W s)(B:∀d∈xs,V d)
  (g:∀d s,V d->W s->wp (e (some d::caps)) (λx q=>P x/\W q) s) (h:∀out o,out.length=xs.length->(∀d∈out,P d)->W o->A out o):
  wp (collect (aO 0) cz e same xs (none::caps)) A s:=
 LU V (λl=>∃x,l=x::caps) P W u C ⟨none,rfl⟩ B (λd l s hv c w=>by obtain⟨x,el⟩:=c;subst el;rw[fB];exact⟨⟨_,rfl⟩,g d s hv w⟩) h
noncomputable def yY(n:Nat)(d:D):Prop:=∃i:Nat,i < n/\d=.int i
theorem Ac{n:Nat}:∀d∈km 0 n,yY n d:=λd hd=>by obtain⟨i,c⟩:=fI hd;obtain⟨h,g⟩:=EX c;exact⟨i,h,g⟩
theorem Yh{g:CG}{t:CT}{e:CE}{same:aX->Prop}{xs:List D}{l:Loc}(V:D->Prop)(L:Loc->Prop)(P:D->Prop)(W:aX->Prop)(O:∀s,W s->same s)(h0:W s)(hl:L l)(hV:∀d∈xs,V d)
  (o:∀d l s,V d->L l->W s->wp (g d l) (λE I=>L E/\wp (t E) (λb C=>if b=true then wp (e E) (λx Y=>P x/\W Y) C else W C) I) s) (u:∀out J,out.length<=xs.length->(∀d∈out,P d)->W J->A out J):
  wp (collect g t e same xs l) A s:=by
 have chk:∀{s:aX}{R:Unit->aX->Prop},same s->R () s->wp (chkS same) R s:=λh r=>by rw[qr];unfold chkS;rw[aJ h];exact r
 refine F1 (Q:=A) (λout ds l s=>out.length+ds.length<=xs.length/\(∀d∈ds,V d)/\L l/\(∀d∈out,P d)/\W s) (λout l s ⟨H,_,_,G,w⟩=>?_) (λout d ds l s ⟨H,hv,hL,G,w⟩=>?_) xs [] l s ⟨by simp,hV,hl,λd hd=>ba hd (by simp),h0⟩
 ·exact chk (O _ w) (u out s (by simpa using H) G w)
 ·refine chk (O _ w) ?_;refine tq (o d l s (hv d (by simp)) hL w) λE I ⟨B,q⟩=>tq q λb C q=>?_;cases b with
  |false=>exact⟨by simp at H ⊢;ext,λd hd=>hv d (by simp[hd]),B,G,q⟩
  |true=>
   exact tq q λx C c=>by obtain⟨g,U⟩:=c;exact⟨by simp at H ⊢;ext,λd hd=>hv d (by simp[hd]),B,λd hd=>by
    rcases aU.mp hd with hd|hd
    ·exact G d hd
    ·rw[aC.mp hd];exact g,U⟩
end
end MM
noncomputable def MM.xP:=aA @MM.rX<|aA @MM.A2<|aA @MM.uM<|aA @MM.z6<|aA @MM.FF<|aA @MM.IK<|aA @MM.z0<|aA @MM.AK<|aA @MM.Fa<|aA @MM.BG<|aA @MM.C_<|aA @MM.Be<|aA @MM.lc<|aA @MM.lX<|aA @MM.yU<|aA @MM.xX<|aA @MM.zk<|aA @MM.AS<|aA @MM.B1<|aA @MM.ui<|aA @MM.oA<|aA @MM.uj<|aA @MM.zE<|aA @MM.BF<|aA @MM.Bp<|aA @MM.Fv<|aA @MM.E8<|aA @MM.De<|aA @MM.JQ<|aA @MM.Jr<|aA @MM.Kj<|aA @MM.Iy<|aA @MM.HY<|aA @MM.K5<|aA @MM.Ec<|aA @MM.Dd<|aA @MM.HC<|aA @MM.Db<|aA @MM.Je<|aA @MM.FP<|aA @MM.Ff<|aA @MM.AM<|aA @MM.vh<|aA @MM.vw<|aA @MM.Bf<|aA @MM.DD<|aA @MM.Ef<|aA @MM.Bb<|aA @MM.DT<|aA @MM.II<|aA @MM.Fd<|aA @MM.JX<|aA @MM.DZ<|aA @MM.EU<|aA @MM.sZ<|aA @MM.Ee<|aA @MM.vg<|aA @MM.uh<|aA @MM.sW<|aA @MM.qJ<|aA @MM.wC<|aA @MM.AN<|aA @MM.BZ<|aA @MM.FU<|aA @MM.Bg<|aA @MM.DC<|aA @MM.D0<|aA @MM.Bz<|aA @MM.Af<|aA @MM.E2<|aA @MM.Ai<|aA @MM.E7<|aA @MM.zY<|aA @MM.J8<|aA @MM.I_<|aA @MM.Ig<|aA @MM.JA<|aA @MM.iH<|aA @MM.xS<|aA @MM.uc<|aA @MM.B5<|aA @MM.AX<|aA @MM.Bj<|aA @MM.BO<|aA @MM.AI<|aA @MM.cj<|aA @MM.dQ<|aA @MM.iI<|aA @MM.wI<|aA @MM.DK<|aA @MM.xZ<|aA @MM.wG<|aA @MM.BR<|aA @MM.yO<|aA @MM.AL<|aA @MM.Bq<|aA @MM.wQ<|aA @MM.wj<|aA @MM.uQ<|aA @MM.B0<|aA @MM.zj<|aA @MM.BW<|aA @MM.xR<|aA @MM.AH<|@MM.zc
local macro_rules
 | `(tactic| simp![$a,*])=>`(tactic| simp only[↓MM.xP,MM.fB,MM.i8,MM.BB,MM.A3,MM.F2,MM.KU,MM.HE,MM.J4,MM.Lh,MM.KC,MM.HP,MM.Ih,MM.KO,MM.JT,MM.JG,MM.HF,MM.Js,MM.HV,Nat.reduceAdd,Nat.reduceSub,Int.reduceLE,Int.reduceLT,MM.Lb,MM.Jp,MM.Ke,MM.Lg,beq_iff_eq,MM.DH,MM.Kb,MM.KH,Nat.reduceLT,Nat.reduceLeDiff,$a,*])
namespace MM
open PySem
theorem Gk:∀(N:Nat)(l:List Nat),l.Nodup->(∀x∈l,x < N)->l.length<=N
 |0,l,_,h=>by
  cases l with
  |nil=>exact ax _
  |cons x xs=>exact ba (h x (by simp)) (Nat.not_lt_zero _)
 |N+1,l,hn,h=>by
  by_cases o:N∈l
  ·have q := Gk N (l.erase N) (hn.erase N) (λx g => by have c:=(hn.mem_erase_iff).mp g;have:=h x c.2;have:=c.1;ext)
   rw[List.length_erase_of_mem o]at q;ext
  ·have q := Gk N l hn (λx g => by have:=h x g;have:x≠N:=λe=>o (e ▸ g);ext)
   ext
noncomputable def qV(B:Nat):List Nat->Nat
 |[]=>0
 |x::xs=>x*B^xs.length+qV B xs
theorem Gi{B:Nat}:∀{xs:List Nat},(∀x∈xs,x < B)->qV B xs < B^xs.length
 |[],_=>by simp[qV]
 |x::xs,h=>by
  have l:=Gi (B:=B) (xs:=xs) λy c=>h y (by simp[c]);have g:=h x (by simp)
  show x*B^xs.length+qV B xs < B^(xs.length+1);rw[pX,gq (B^xs.length) B];have:(x+1)*B^xs.length<=B*B^xs.length:=og _ g;rw[pV]at this;ext
theorem Lz{B:Nat}:∀{xs ys:List Nat},xs.length=ys.length->(∀x∈xs,x < B)->(∀x∈ys,x < B)->qV B xs=qV B ys->xs=ys
 |[],[],_,_,_,_=>rfl
 |x::xs,y::ys,hl,hx,hy,e=>by
  have c:xs.length=ys.length:=by simpa using hl
  have u:=Gi (B:=B) (xs:=xs) λz hz=>hx z (by simp[hz]);have g:=Gi (B:=B) (xs:=ys) λz hz=>hy z (by simp[hz]);have l:x*B^xs.length+qV B xs=y*B^ys.length+qV B ys:=e;rw[<- c]at l g;have q:x=y/\qV B xs=qV B ys:=by
   generalize B^xs.length=p at l u g;have o:0 < p:=by ext
   have E:(x*p+qV B xs) / p=x:=by rw[gq,iE o,ii u];simp
   have C:(y*p+qV B ys) / p=y:=by rw[gq,iE o,ii g];simp
   have h:x=y:=by rw[<- E,<- C,l]
   subst h;exact⟨rfl,by ext⟩
  rw[q.1,Lz c (λz hz=>hx z (by simp[hz])) (λz hz=>hy z (by simp[hz])) q.2]
noncomputable def pr:List Nat->Nat
 |[]=>1
 |b::bs=>b*pr bs
def mQ:List Nat->List Nat->Nat
 |b::bs,x::xs=>x*pr bs+mQ bs xs
 |_,_=>0
theorem Cw:∀{bs xs:List Nat},xs.length=bs.length->(∀(i b x:Nat),bs[i]?=some b->xs[i]?=some x->x < b)->mQ bs xs < pr bs
 |[],[],_,_=>by simp[mQ,pr]
 |b::bs,x::xs,hl,h=>by
  have o:=Cw (bs:=bs) (xs:=xs) (by simpa using hl) λi b x g c=>h (i+1) b x (by simpa using g) (by simpa using c);have l:=h 0 b x rfl rfl
  show x*pr bs+mQ bs xs < b*pr bs;have:(x+1)*pr bs<=b*pr bs:=og _ l;rw[pV]at this;ext
theorem OO:∀{bs xs ys:List Nat},xs.length=bs.length->ys.length=bs.length->(∀(i b x:Nat),bs[i]?=some b->xs[i]?=some x->x < b)->(∀(i b x:Nat),bs[i]?=some b->ys[i]?=some x->x < b)->mQ bs xs=mQ bs ys->xs=ys
 |[],[],[],_,_,_,_,_=>rfl
 |b::bs,x::xs,y::ys,hl,hl2,hx,hy,e=>by
  have g:∀(i b x:Nat),bs[i]?=some b->xs[i]?=some x->x < b:=λi b x l h=>hx (i+1) b x (by simpa using l) (by simpa using h);have c:∀(i b x:Nat),bs[i]?=some b->ys[i]?=some x->x < b:=λi b x l h=>hy (i+1) b x (by simpa using l) (by simpa using h);have C:=Cw (bs:=bs) (xs:=xs) (by simpa using hl) g;have B:=Cw (bs:=bs) (xs:=ys) (by simpa using hl2) c;have E:x*pr bs+mQ bs xs=y*pr bs+mQ bs ys:=e;have q:x=y/\mQ bs xs=mQ bs ys:=by
   generalize pr bs=p at E C B;have u:0 < p:=by ext
   have H:(x*p+mQ bs xs) / p=x:=by rw[gq,iE u,ii C];simp
   have G:(y*p+mQ bs ys) / p=y:=by rw[gq,iE u,ii B];simp
   have o:x=y:=by rw[<- H,<- G,E]
   subst o;exact⟨rfl,by ext⟩
  rw[q.1,OO (by simpa using hl) (by simpa using hl2) g c q.2]
theorem Ky:∀(a b:List Nat),gI (a.map λn:Nat=>.int n) (b.map λn:Nat=>.int n)=decide (a=b)
 |[],[]=>by simp[gI]
 |[],_::_=>by simp[gI]
 |_::_,[]=>by simp[gI]
 |x::xs,y::ys=>by
  rw[aL,aL]
  show (gH (.int x) (.int y)&&gI _ _)=_;rw[Ky xs ys]
  show (decide ((x:Int)=y)&&_)=_;have:decide ((x:Int)=y)=decide (x=y):=decide_eq_decide.mpr (by ext);rw[this];simp[m7]
theorem MV:∀(a:List Nat),iG (a.map λn:Nat=>.int n)=some (a.map λn:Nat=>(n:Int))
 |[]=>rfl
 |x::xs=>by rw[aL,aL];unfold iG;rw[MV xs];rfl
theorem QQ(a b:List Nat):oV true (.tup [.tup (a.map λn:Nat=>.int n),.tup (b.map λn:Nat=>.int n)])=true:=by show (iJ [.tup (a.map λn:Nat=>.int n),.tup (b.map λn:Nat=>.int n)]).isSome=true;simp only[iJ,MV];rfl
theorem W9(a b c d:List Nat):gH (.tup [.tup (a.map λn:Nat=>.int n),.tup (b.map λn:Nat=>.int n)]) (.tup [.tup (c.map λn:Nat=>.int n),.tup (d.map λn:Nat=>.int n)])=(decide (a=c)&&decide (b=d)):=by show (gI (a.map _) (c.map _)&&(gI (b.map _) (d.map _)&&true))=_;rw[Ky,Ky,Bool.and_true]
end MM
namespace MM
theorem tZ{g:CG}{b:CS}{same:aX->Prop}{xs:List D}{l:Loc}{s:aX}{Q:vD->aX->Prop}(W:Nat->Loc->aX->Prop)(C:∀i l s,W i l s->same s)(E:W 0 l s)
  (c:∀(R:vD->aX->Prop)(i:Nat)d l s,(∀{q h},W (i+1) q h->R (.next q) h)->(∀{d h},Q (.ret d) h->R (.ret d) h)->xs[i]?=some d->W i l s->wp (g d l) (λB u=>wp (b B) R u) s) (o:∀l s,W xs.length l s->Q (.next l) s):wp (o7 g b same xs l) Q s:=
 Hc W C E (λi d l s hd w=>c _ i d l s (λz=>z) (λz=>z) hd w) o
theorem Ka{t:CT}{b:CS}{Q:vD->aX->Prop}{l:Loc}{s:aX}(W:Loc->aX->Prop)(μ:Loc->aX->Nat)(B:W l s)
  (u:∀(R:vD->aX->Prop)l s,(∀{g h},W g h->μ g h < μ l s->R (.next g) h)->(∀{d o},Q (.ret d) o->R (.ret d) o)->W l s->wp (t l) (λc q=>if c=true then wp (b l) R q else Q (.next l) q) s):wp (kL t b l) Q s:=
 Jn W μ B λl s w => u (λf h => match f with
   | .next g=>W g h/\μ g h < μ l s
   | .cnt g=>W g h/\μ g h < μ l s
   | .brk g=>Q (.next g) h
   | .ret d=>Q (.ret d) h) l s (λa b=>⟨a,b⟩) (λz=>z) w
structure Mb(s:aX)(A:List Nat)(v:aX)(C:List (List D)):Prop where
 le:s.length<=v.length
 len:A.length=C.length
 oth:∀k,k < s.length->k∉A->v[k]?=s[k]?
 at_:∀(i a:Nat)(ds:List D),A[i]?=some a->C[i]?=some ds->v[a]?=some (.lst ds)
section
variable{s s0 v:aX}{A:List Nat}{C:List (List D)}{i a n:Nat}{ds es:List D}
theorem Mb.ext(K:Mb s A v C)(x:dZ s0 s)(h:∀a∈A,s0.length<=a):dZ s0 v:=by
 have g:=x.le;refine⟨v.drop s0.length,e8 λk=>?_⟩;by_cases c:k < s0.length
 ·rw[ar c,K.oth k (by ext) λz=>by have:=h k z;ext];exact (x.at_ (aj c)).trans (aj c).symm
 ·have:=K.le;rw[bb (by ext),v8,show s0.length+(k-s0.length)=k by ext]
end
open PySem
def rU:D->D->M D
 | .ref n,d=>bnd (getL n) λds=>if ds.length=0 then ret d else A9 ds
 |_,_=>bad
def qx(g c:CE):CE:=λl=>bnd (g l) λx=>bnd (c l) λd=>rU x d
end MM
namespace MM
def rR:D->D->M D
 | .tup ds,.int k=>chk (2<=k/\k<=1000/\ds.length<=1000/\ds≠[]) (ret (.tup (az k.toNat ds).flatten))
 |_,_=>bad
open PySem PySem.Spec PyProof.Rows L2
section
theorem bs{prog:Program}{w:bD}{A:bz}{E:ab->am->Prop}{s:am}{l:ak}{Q:ab×List ab->am->Prop}(h:Q (.builtin "list.__getattribute__",[.ref l]) s):aF (aW prog w) A (bindSpecial (.builtin "list.__getattribute__") (.ref l)) Q E s:=by
 unfold bindSpecial;have c:typeOf (.builtin "list.__getattribute__")=pure (.type "wrapper_descriptor"):=by rfl
 rw[c];refine aa (ai ?_);exact ai h
variable{prog:Program}{w:bD}
end
theorem Vs:fillsNumberSlot (.type "tuple") "mul"=pure false:=PySem.fillsNumberSlot_seq Co.lookup (by decide) AE.lookup (by decide)
theorem K_:seqRepeat? (.type "tuple")=pure (some (.builtin "tuple.__mul__")):=by unfold seqRepeat?;have g:seqSlot? (.type "tuple") (aq "__mul__")=pure (some (.builtin "tuple.__mul__")):=xo Co.lookup (by decide);have c:seqSlot? (.type "tuple") (aq "__rmul__")=pure (some (.builtin "tuple.__rmul__")):=xo AE.lookup (by decide);rw[g,c];rfl
theorem IW(a:Int)(t:Tok)(l:ak)(its:Array ab)(n:Nat)(u:Option ak)(g:Array (Option ab)):Meets (Builtin.«int.__rmul__» { pos:=[.int a t,.ref l] }) λ_ R s=>s.heap.get? l=some { cls:=.type "tuple",dict:=u,data:=.seq its n,slots:=g }/\R (.ok (.ret .notImplemented)) s:=by
 intro prog w A R s c;obtain⟨o,h⟩:=c;unfold Builtin.«int.__rmul__»;have q:s.TypeIs (.ref l) "tuple":=⟨_,o,rfl⟩
 wp_walk using eJ q
 exact h
theorem Jv(l:ak)(its:Array ab)(n:Nat)(J:Option ak)(B:Array (Option ab))(k:Int)(t:Tok)(U:2<=k)(I:k<=1000)(u:its.isEmpty=false)(hz:its.size<=1000)(Q:(mJ (λq o=>q++o) #[] (az k.toNat its)).size<=sizeLine):Meets (Builtin.«tuple.__mul__» { pos:=[.ref l,.int k t] }) λ_ R s=>s.heap.get? l=some { cls:=.type "tuple",dict:=J,data:=.seq its n,slots:=B }/\R (.ok (.ret (.ref s.heap.objs.size))) { s with heap:=s.heap.push { cls:=.type "tuple",data:=.seq (mJ (λq o=>q++o) #[] (az k.toNat its)) } }:=by
 intro prog w A R s c;obtain⟨H,h⟩:=c;unfold Builtin.«tuple.__mul__»;have g:s.TypeIs (.ref l) "tuple":=⟨_,H,rfl⟩
 have L:(its.size:Int)*k<=1000*1000:=Int.mul_le_mul (by ext) I (by ext) (by ext);have G:(decide (k < -2^63)||decide (k ≥ 2^63))=false:=by rw[nR];exact⟨aP (by ext),aP (by ext)⟩
 have E:(its.isEmpty||k == 1)=false:=by rw[u,lR];exact beq_eq_false_iff_ne.mpr (by ext)
 have C:(decide (k<=0)||its.isEmpty)=false:=by rw[u,B_];exact aP (by ext)
 have O:oU (its.size*k)=false:=by
  unfold oU;have:(1000000:Int)<=(sizeLine:Int):=by decide
  exact aP (by ext)
 wp_walk using eJ g
 rw[aG (by rw[G];exact bh)]
 wp_walk using eJ g
 rw[aG (by rw[E];exact bh)]
 wp_walk using eJ g
 rw[aG (by rw[C];exact bh)]
 wp_walk using eJ g
 rw[aG (by ext)]
 wp_walk using eJ g
 exact h
section
variable{X:Cx}
theorem Uz:OpR X (eG .Mult) (py X.K rR):=by
 intro L s σ H x y v u Q I rx ry h;obtain⟨ρ,st,d,e,sr,r1,r2,p⟩:=h;cases r1 with
 |@tup a vs ds hq rq=>
  cases r2 with
  |int k=>
   obtain⟨⟨h2,hk,hz,B⟩,p2⟩:=aS.chk p;cases rx;obtain⟨t,rfl⟩:=ry;obtain⟨its,l,pl,_⟩:=I.tuple hq;obtain⟨⟨cls,Y,data,J⟩,q,O,n,hd⟩:=pl;simp only at O hd;subst O hd;have hl:its.length=ds.length:=by rw[<- l.length,rq.length]
   have c:mJ (λx1 x2=>x1++x2) #[] (az k.toNat its.toArray)=(az k.toNat its).flatten.toArray:=by have:=KN its k.toNat [];rw[kH]at this;exact this
   have g:(az k.toNat its).flatten.length<=sizeLine:=by have G:(az k.toNat its).flatten.length=k.toNat*its.length:=OC its k.toNat;have e2:k.toNat*its.length<=1000*1000:=oh (by ext) (by ext);rw[G];exact cF e2 (by decide)
   have E:s.TypeIs (.ref a) "tuple":=⟨_,q,rfl⟩
   refine uX (T:="tuple") (U:="int") (by decide) E (λs'=>qP s' k t) Vs C1 nM K_ Ca.lookup
    (kQ nM (qP s k t) Cb (Aq _ _) (IW k t a its.toArray n Y J)
     ⟨q,rfl,E,kQ Co E F.entry_tuple_mul (F.args_tuple_mul_2 _ _) (Jv a its.toArray n Y J k t h2 hk ?_ (by rw[ay];ext) (by rw[c];exact g)) ⟨q,?_⟩⟩)
   ·cases its with
    |nil=>exact ba (tW.mp (hl.symm.trans rfl)) B
    |cons=>rfl
   ·rw[c];have C:=I.hok.fresh (ax s.heap.objs.size);refine⟨.ref s.heap.objs.size,_,I.laid (t':=s.toks) (o:=.tup (az k.toNat vs).flatten) (λb o e=>ah _ e) (ax _) ⟨?_,(az k.toNat its).flatten,L2.bQ.rep l k.toNat,iK.new _ _⟩,rfl,?_⟩
    ·have G:(az k.toNat vs).flatten.length=(az k.toNat its).flatten.length:=(L2.bQ.rep l k.toNat).length;rw[G];exact g
    ·exact p2 _ _ (Ex.new C) (sr.new C) _ (.tup (lx.of iP) ((bA.rep rq k.toNat).mono (Ex.new C)))
  |_=>exact (show False from p).elim
 |_=>exact (show False from p).elim
end
section
def Ed:kW:=λq c e=>J1 e λa o b p h=>wh (o=.Mult/\c.tag p 14=true) λz=>(q.e c a).bind λu=>(q.e c b).bind λl=>some ⟨c2 rR u.1 l.1,λg=>h ▸ z.1 ▸ Ox Uz (u.2 g) (l.2 g)⟩
def vt:uT:=λq c s=>CH s λt a _ h=>Bx t λes k p h1=>vC es λL B h2=>v2 B λJ I u=>vk L λx H h3=>vk J λy G h4=>vk I λw C h6=>Bx a λvs O E h5=>wh (c.top=true/\c.sc.names.lookup x=some .cell/\c.sc.names.lookup y=some .cell/\c.sc.names.lookup w=some .cell) λz=>(q.e c (.Tuple vs O E)).bind λf=>(q.g c (.Tuple [.Name x H,.Name y G,.Name w C] k p)).bind λl=>some ⟨bB l.1 f.1,λ{X}g=>by
 subst h h1 h2 u h3 h4 h6 h5;obtain⟨o,U,Q,Y⟩:=z;have e1:(X.env.kindOf x == some c5.local)=false:=by rw[(g.kd o).2 x,U];rfl
 have e2:(X.env.kindOf y == some c5.local)=false:=by rw[(g.kd o).2 y,Q];rfl
 have e3:(X.env.kindOf w == some c5.local)=false:=by rw[(g.kd o).2 w,Y];rfl
 refine GK (f.2 g) (l.2 g) rfl ?_ rfl;unfold qc;simp only[e1,e2,e3,AB,iU,aT,if_false];simp only[pure_bind,gD,bV];split
 ·rfl
 ·split
  ·rfl
  ·rfl⟩
end
section
variable{P:Program}{w:bD}{K:ag}{mg:Str->Option ab}{base:bw}
def uP(K:ag)(mg:Str->Option ab)(x:Str)(c:Stmt):Prop:=∃a g u,wa K x x c a g u/\mg x=some (.ref a)/\RelV (.int 500) u
theorem Ds{h:bw}{x:Str}{g:Stmt}{f T:ak}{I O C:Option ak}{E u:Array (Option ab)}{J kV L H o ct to:ab}{q:Tok}{B:Nat}(X:K.In h)(G:h.Ns cq mg)(a:fE K cq x=some (some (.ref f)))
  (l:K.lookup f=some ⟨J,I,.func (b7 x x (dL g) (cH g) (bv g) (.ref T) kV L H O o ct),E⟩) (c:fO K o x=true) (k:da K (.ref f)=true) (t:K.lookup T=some ⟨to,C,.seq #[.int 500 q] B,u⟩):uP K mg x g:=
 ⟨f,_,_,Xj (st:=g) l c k t rfl,rK X G a,⟨_,rfl⟩⟩
theorem Us(R:mP){r:List Str}{x:Str}{h:Stmt}{ps:List Str}{k n m:Nat}{o:CS}{G:List (Str×RF)}{Z:List Str}{C:List (Str×D)}{H:List (Nat×Nat×Nat)}(F:uP K mg x h)(S:sF (ps++r) ps (bv h)=true)
  (b0:∀(u:ab)(T:ak)(kV g q:ab)(B:Option ak)(c ct:ab)(l:List ab),l.length=n->∃k:Option (Array ab)->Sem (List (Str×ab)),io (b7 x x (dL h) (cH h) (bv h) (.ref T) kV g q B c ct) ⟨l,[]⟩=iC (.ref T) >>= k/\k (some #[u])=pure (ps.zip l))
  (b1:∀(u:ab)(T:ak)(kV g q:ab)(B:Option ak)(c ct:ab)(l:List ab),l.length+1=n->∃k:Option (Array ab)->Sem (List (Str×ab)),io (b7 x x (dL h) (cH h) (bv h) (.ref T) kV g q B c ct) ⟨l,[]⟩=iC (.ref T) >>= k/\k (some #[u])=pure (ps.zip (l++[u])))
  (hb:(o8 (nY R 40) ⟨bv h,ps++r,k,G,Z,C,H,true,([],[]),none⟩ (cH h)).map (·.1)=some o) (Q:cg P w K mg base G) (hZ:vW mg Z) (hC:xz K mg C) (Y:ps.getLast?=some (aq "most")) (J:ps.length=n:=by rfl) (hm:(ps++r).length=m:=by rfl):cg P w K mg base ((x,⟨n,k+1,ps,true,bJ m o⟩)::G):=by
 obtain⟨f,fd,u,F,L,hu⟩:=F;have O:=Ha S;obtain⟨v,_,e⟩:=du.mp hb;refine GC L (S6 F O J hm λc A outer s Hp E U=>e ▸ v.2 ⟨NE,rfl,O.nd,U,Q,hZ,hC,lV,λ_=>⟨by show (if (bv h).kind.isAnnotationScope=true then _ else (bv h).kind)=_;rw[O.kind];rfl,λ_=>rfl⟩,⟨(λ_ _ z=>nomatch z),(λ_ _ z=>nomatch z)⟩,λ_ z=>nomatch z⟩) F.kp
  (F.binds λT kV g q B c ct l I=>?_) (λ_=>?_) Q
 ·rw[dm]at I ⊢;exact b0 u T kV g q B c ct l (I.trans J)
 ·unfold GD;rw[aJ Y];exact⟨u,hu,F.binds λT kV g q B c ct l I=>b1 u T kV g q B c ct l (by rw[<- J,<- I,aN];rfl)⟩
end
section
variable{X:Cx}{a3:List (ak×Obj)}{σ:St}{H:Hp}{s:am}
theorem Vz(hc:X.calm=true)(I:Inv X a3 σ H s){l:ak}{n:Int}{ns:List Int}{dv:ab}{Q:VK}(g:g8 X.K H l ((n::ns).map V.int))(q:Q (.int (ns.foldl min n)) H):aF (aW X.prog X.w) X.A (call (.builtin "min") [.ref l] [(aq "default",dv)]) (EP X a3 σ Q) X.xe s:=by
 obtain⟨its,U,Y,hz⟩:=I.list g;obtain⟨ys,e,c⟩:=LZ (Nb U);have u:=Y.isList;rw[e]at u;have hsz:ys.size=ns.length+1:=by have:=cU cP c;simpa using this.symm
 refine Uy (dv:=some dv) (I.ok.hd hc) u (by simp[uw];ext) (λi j=>decide (nG ys i < nG ys j)) (λi j L J O Q E _ h1 h2 g=>CmpOf.ints_lt (P:=λi v=>(uw ys)[i]?=some v) (nG ys) (λ_ _=>zN) i j L J O Q E h1 h2 g) λv h' tk hv hk=>?_;have e2:(uw ys).size=ys.size:=by simp[uw]
 rw[e2]at hv;obtain⟨t,rfl⟩:=zN hv;obtain⟨b1,G⟩:=argBest_lt (nG ys) (ys.size-1);obtain⟨C,f2⟩:=Om ns n;generalize mK (λi j=>decide (nG ys i < nG ys j)) (ys.size-1)=k at b1 G ⊢;have h:nG ys k∈n::ns:=by rw[c,zO];exact getD_mem (by rw[<- c];simp;ext)
 have o:nG ys k<=ns.foldl min n:=by rw[c]at C;obtain⟨j,B,ej⟩:=mem_getD C;rw[<- ej,<- zO];exact G j (by rw[<- c]at B;simp at B;ext)
 have:nG ys k=ns.foldl min n:=Av o (f2 _ h);rw[this];exact⟨.int (ns.foldl min n),H,I.kept (t':=tk) hk,⟨t,rfl⟩,q⟩
end
section
variable{X:Cx}{e d:Expr}{fa fd:CE}{p pos kp:Pos}
theorem WM(hc:X.calm=true)(hg:Gl X "min")(hm:X.mg "min"=none)(hv:bT "min"=some (.builtin "min"))(ha:SE X e fa)(hd:SE X d fd)
  (he:starEach [e] X.env=[(false,eval e X.env)]:=by rfl):SE X (.Call (.Name "min" p) [e] [⟨some "default",d,kp⟩] pos) (qx fa fd):=by
 intro C s σ H Q I E;obtain⟨ρ,l,st,lr,sr,q⟩:=E;have G:backTo pos (starEach [e] X.env)=(false,eval e X.env)::backTo pos (starEach [] X.env):=by rw[he];rfl
 refine dC (wW I hg hm hv ?_ (by decide) (by decide));refine PyProof.Rows.callWith_kw (e:=e) (rest:=[]) (kws:=[⟨some "default",d,kp⟩]) ?_ G (by rw[G];rfl) rfl rfl;rw[G]
 show aF _ _ (rn [(false,eval e X.env)]) _ _ s;unfold qx at q;obtain⟨R,hR⟩:∃R:D->aX->List ak->Hp->Prop,R=λd _ ρ' H'=>∀(v:V),c_ X.K ρ' H' v d->Q v H':=⟨_,rfl⟩
 rw[<- hR]at q;refine gh (gj (ha C s σ H (λx L=>∃ρ1 c d,LR X.K ρ1 L σ l/\SR X.K ρ1 L c/\c_ X.K ρ1 L x d/\aS X.K ρ1 L (bnd (fd l) (λe=>rU d e) c) R) I
  ⟨ρ,l,st,lr,sr,q.bnd.imp λd c ρ1 L x1 s1 q1 v U=>⟨ρ1,c,d,lr.mono x1,s1,U,q1⟩⟩) λu s1 ⟨x,L,I1,r1,ρ1,c,d,lr1,sr1,rx,q1⟩=>gF ?_)
 refine PyProof.Rows.kws_cons (gj (hd C s1 σ L (λy J=>∃ρ2 g dd,SR X.K ρ2 J g/\c_ X.K ρ2 J x d/\c_ X.K ρ2 J y dd/\aS X.K ρ2 J (rU d dd g) R) I1
  ⟨ρ1,l,c,lr1,sr1,q1.bnd.imp λdd g ρ2 J x2 s2 q2 v U=>⟨ρ2,g,dd,s2,rx.mono x2,U,q2⟩⟩) λw s2 ⟨y,J,I2,r2,ρ2,g,dd,o,rx2,ry,q2⟩=>PyProof.Rows.kws_nil ?_)
 show aF _ _ (call (.builtin "min") [u] [(aq "default",w)]) _ _ s2;subst hR;cases d with
 |ref n=>
  obtain⟨a,rfl,_,h⟩:=rx2.inv;obtain⟨ds,e2,B⟩:=aS.getL (aS.bnd q2) o;obtain⟨a',vs,ha',Y,O⟩:=o.seq e2;rw[h]at ha';cases ha';cases (show u=a_ a from r1);by_cases h0:ds.length=0
  ·rw[aJ h0]at B;obtain⟨its,U,c,hz⟩:=I2.list (g8.of Y);have l:=U.length;have h:=O.length;exact Wv (I2.ok.hd hc) c.isList (by rw[ay];ext) λh' tk g=>⟨y,J,I2.kept (t':=tk) g,r2,B.ret o y ry⟩
  ·rw[aG h0]at B;unfold A9 at B;cases e:mq ds with
   |none=>rw[e]at B;exact B.elim
   |some ps=>
    rw[e]at B;have:=Nx e O;subst this;cases ps with
    |nil=>exact B.elim
    |cons n ns=>exact Vz hc I2 (g8.of Y) (B.ret o _ (.int _))
 |_=>exact q2.elim
end
def Ey:kW:=λq c e=>Hx e λf H ks _ h=>vk f λy _ G=>v1 H λa E=>v1 ks λk C=>wh (y=aq "min"/\k.arg=some (aq "default")/\c.bl y=true/\pO a=true) λz=>(q.e c a).bind λu=>(q.e c k.value).bind λo=>some ⟨qx u.1 o.1,λg=>by obtain⟨J,d,I⟩:=k;subst h G E C;obtain⟨rfl,rfl,l,B⟩:=z;exact WM g.S.calm (g.gl l).1 (g.gl l).2 (by nofun) (u.2 g) (o.2 g) (pZ B)⟩
section
variable{X:Cx}
theorem Xo{e:Expr}{ca:CA}{g C c pos:Pos}(hc:X.calm=true)(L:Gl X "sorted")(I:X.mg "sorted"=none)(J:Gl X "set")(G:X.mg "set"=none)(ha:SL X e ca)
  (Y:starEach [e] X.env=[(false,eval e X.env)]:=by rfl)
  (h:starEach [Expr.Call (.Name "set" C) [e] [] c] X.env=[(false,eval (.Call (.Name "set" C) [e] [] c) X.env)]:=by rfl):SE X (.Call (.Name "sorted" g) [.Call (.Name "set" C) [e] [] c] [] pos) (iQ lL ca):=
 (EF (P7 hc) L I rfl (rj (Jd (Qy hc) J G rfl (rj ha tX Y) (by decide) (by decide) Y rfl) tX h) (by decide) (by decide) h rfl).of λσ H Q h_=>h_.el λρ l st lr sr p=>⟨ρ,l,st,lr,sr,p.bnd.imp λds a8 ρ1 H1 x1 u g a vs ha na hv B=>by
  unfold lL at g;cases U:mS ds with
  |none=>rw[U]at g;exact g.elim
  |some ns=>
   rw[U]at g;obtain⟨ev,h4⟩:=Nr B U;subst ev;refine⟨a,ns,rfl,g8.of hv,h4,λq E=>⟨q,lb 0 ns,rfl,iP,ND (by decide) h4,λb O=>?_⟩⟩;have nl:=(u.new (o:=vf X q (lb 0 ns)) E).fresh O;have rr:∀(ρ':List ak)(H':Hp)(vs:List Nat),bA X.K ρ' H' (vs.map λv:Nat=>V.int v) (vs.map λv:Nat=>D.int v):=λρ' H' vs=>by
    induction vs with
    |nil=>exact .nil
    |cons v vs ih=>exact .cons (.int _) ih
   have s2:=((u.new (o:=vf X q (lb 0 ns)) E).new O).keep (a:=b) (ds:=(sv (lb 0 ns)).map λv:Nat=>D.int v) iP nl (rr _ _ _);refine g _ _ ((Ex.new E).trans (Ex.newL O)) s2 _ (.ref ⟨_,iP,rfl⟩ ?_);rw[<- u.len];simp⟩
end
def vp:kW:=ER "sorted" "set" lj (iQ lL) λc _ g m l h a s=>Xo c g m l h a s rfl
section
variable{X:Cx}{e:Expr}{es:List Expr}{ca:CA}
structure Fz(K:ag)(y:Str)(lm:Expr)(cl:List (Str×ak))(H H':Hp)(P a cd:ak)(ob:Obj)(fd:cV):Prop where
 tb:TabOf K y P
 fresh:H a=none
 fn:H' a=some (.frz ob (.own a))
 dat:ob.data=.func fd
 fdo:BQ (.lam lm) fd (s_ y "<lambda>") cd cl
 sc:fd.scope=tJ lm
 cod:oG H' cd (s_ y "<lambda>")
 tab:wm H' P (s_ y "<lambda>")
 keep:∀b o,b≠P->H b=some o->H' b=some o
def Jz(K:ag)(y:Str)(h:Expr)(cl:List (Str×ak)):TE:=λσ H Q=>(∃P,TabOf K y P/\wm H P (s_ y "<lambda>"))/\∀P a o g l c,Fz K y h cl H c P a o g l->Q (.ref a) c
theorem Vm{y:Str}{ps:kP}{b:Expr}{sc:cZ}{pos:Pos}{is:List Nat}(L:A0 X y)(hd:defaultsOf ps X.env=([],[]))(G:qo X sc.names is):PE X (.Lambda ps b sc pos) (Jz X.K y (.Lambda ps b sc pos) (gU sc.names X.env.cells [])):=by
 intro U s σ H Q I h;obtain⟨⟨P',O,hT⟩,hQ⟩:=h;obtain⟨f,o,fd,c,P,l1,l2,l3,l4,l5,Y,l7,l8⟩:=L;have hP:TabOf X.K y P:=⟨f,o,fd,c,l1,l2,l3,l4,l5⟩
 obtain rfl:P'=P:=O.uniq hP;have u:uv sc X.env=pure (gU sc.names X.env.cells []):=LY λz hz=>I.ok.has z (G.cel z hz).1;refine PySem.W.kla_eval hd ?_;rw[show X.env.qual++"<lambda>"=s_ y "<lambda>" by rw[l7];rfl];have q:=I.mod.glob.keeps I.bk;obtain⟨hb,C⟩:=RQ l8 I hT.choose_spec.1;have hC:=ua I.kIn l5;refine Px (Wp:=λQ=>aF (aW X.prog X.w) X.A _ Q X.xe s) (fobj:=λcd ct _=>{ cls:=.type "function",data:=.func (m6 "<lambda>" (s_ y "<lambda>") ps b sc (gU sc.names X.env.cells []) ((X.mg "__name__").getD .none) cd ct) }) (pos:=pos) I hT (λ_ _ _=>rfl) (λtb cv Q l B E k=>?_) (λtb Q l B E k=>?_) λa c' g doc H' s' T J=>?_
 ·exact PySem.W.kla_makeFunctionHit u I.ok.glob q Y hC l B E hb λg h' tk c hsz=>k g .none h' tk c hsz
 ·exact PySem.W.kla_makeFunction u I.ok.glob q Y hC l B E C hb λc' g h' tk H G o h c=>k c' g .none h' tk H G o h c
 ·exact⟨.ref a,H',J,rfl,hQ _ _ _ _ _ _ ⟨hP,T.fresh,T.fn,rfl,⟨ps,b,sc,pos,_,_,rfl,rfl⟩,rfl,T.cod,T.tab,T.keep⟩⟩
theorem Yo{k n j:Nat}{f:ak}{L:cV}{ps:List Str}{g:List D->M D}{x y:Str}{p pos lp:Pos}{pa:kP}{b:Expr}{sc:cZ}{is:List Nat}(F:mC X.prog X.w X.K X.mg X.base rQ k f L ps (mT X.K n g))(hr:im k X.A)(hg:Gl X x)(hm:X.mg x=some (.ref f))
  (hk:da X.K (.ref f)=true) (hb:Binds X.K L ps []) (hdr:qo X sc.names is) (ha:PA X (e::es) (Dm X.K ca (Jz X.K y (.Lambda pa b sc lp) (gU sc.names X.env.cells [])))) (hn:∀l st ds st',ca l st=.ok ds st'->ds.length+1=n)
  (hdb:(x == ("__debug__":Str))=false:=by decide) (he:starEach (e::es) X.env=(false,eval e X.env)::starEach es X.env:=by rfl) (hpl:(backTo pos (starEach es X.env)).any (·.1)=false:=by rfl):
  SE X (.Call (.Name x p) (e::es) [] pos) (lY j y "<lambda>" g (.lam (.Lambda pa b sc lp)) is ca):=by
 intro E s σ H Q I o;obtain⟨ρ,l,st,lr,sr,c⟩:=o;obtain⟨cl,ecl,c1,c2,c3,c4⟩:=hdr.cl I.ok;rw[ecl]at ha;unfold lY bnd at c;cases O:ca l st with
 |bad=>rw[O]at c;exact c.elim
 |exc _ _=>rw[O]at c;exact c.elim
 |ok ds a8=>
  rw[O]at c;dsimp only at c;cases q:a8[j]? with
  |none=>simp only[q]at c;exact c.elim
  |some oj=>
   cases oj with
   |tbl y' w'=>
    cases ev:sy l is with
    |none=>simp only[q,ev]at c;exact c.elim
    |some vd=>
     simp only[q,ev]at c;by_cases hy:y'=y/\w'="<lambda>"
     ·rw[aJ hy]at c;obtain⟨rfl,rfl⟩:=hy;refine dC (Oi I hg hm ?_ hdb);refine ur (h₀:=X.base) I.ok.mod.kin hk (gj (ha pos E s σ H (λzs H3=>∃ρ1 vs h P a L g o,zs=vs++[.ref a]/\Ex ρ H ρ1 h/\SR X.K ρ1 h a8/\bA X.K ρ1 h vs ds/\Fz X.K y' (.Lambda pa b sc lp) cl h H3 P a L g o) I ⟨ρ,l,st,lr,sr,?_⟩) λus Q ⟨zs,H3,I3,rv,ρ1,vs,h,P,a,L,g,o,e1,Y,C,rs,T⟩=>⟨I3.kIn,?_⟩) he hpl
      ·rw[O];exact λρ1 h Y Q vs c=>⟨by obtain⟨P',J,hT,G⟩:=Q.at q;exact⟨P',hT,G⟩,λP a L g o l T=>⟨ρ1,vs,h,P,a,L,g,o,rfl,Y,Q,c,T⟩⟩
      ·subst e1;obtain⟨l,u,rfl,g,E⟩:=MN rv;obtain rfl:u=a_ a:=E;obtain⟨P',J,hT,G⟩:=C.at q;obtain rfl:P'=P:=hT.uniq T.tb;obtain⟨H,U,o⟩:=SW C J q T.fresh T.tab T.keep;have B:Ex ρ1 h ρ1 H3:=⟨⟨[],by simp⟩,U.fix,U.oth,U.knd⟩
       exact XU I3 F hr hb (Y.trans U) o H ((lr.mono Y).mono B) T.fn T.dat T.fdo T.cod (by rw[T.sc];exact c1) c2 c3 c4 ev (hn _ _ _ _ O) (rs.mono B) g c
     ·rw[aG hy]at c;exact c.elim
   |_=>simp only[q]at c;exact c.elim
end
section
variable{P:Program}{w:bD}{K:ag}{mg:Str->Option ab}{base:bw}
open Classical in
theorem VY{k:Nat}{pa:kP}{b:Expr}{sc:cZ}{pos:Pos}{N ps fr:List Str}{f:CE}{m n:Nat}(S:qB N ps fr sc)(hm:N.length=m)(hn:ps.length=n)(hfr:nZ sc.names=fr)
  (Y:∀(q:Str)(cl:List (Str×ak))(pm C ct:ab)(us:List ab),us.length=ps.length->io (m6 "<lambda>" q pa b sc cl pm C ct) ⟨us,[]⟩=pure (ps.zip us))
  (U:∀(q:Str)(a:ak)(C:ab)(cl:List (Str×ak))(A:bz)(outer:List Env)(s:am)(H:Hp),im k (A.deeper (qj q sc s.heap.objs.size a C cl))->SE (DO P w K mg base N q sc a C cl A outer s H) b f):
  qF P w K mg base (k+1) n (.lam (.Lambda pa b sc pos)) (mU m f):=by
 subst hm hn;intro A outer s H ρ st m a vd ds us vs Q hr c sr ha hst rs hv hl p;obtain⟨ob,fd,q,cd,cl,e1,e2,⟨ps',b',sc',p',pm,ct,ee,ef⟩,e4,⟨e5,l⟩,e6⟩:=sr.ob m a _ ha hst;cases ee;subst ef;have l:cl.map (·.1)=fr:=l.trans hfr;have dN:s.heap.NoLimit:=c.mod.nolimit.keeps λb o e=>(c.bs b o e).1;obtain⟨oc,cvs',t,hc1,hc2,hc3⟩:=e4;obtain⟨B,d5,c1,c2,c3⟩:=OZ c.hok e6;obtain⟨h,h0⟩:∃h:Hp,h=λb=>if b∈cl.map (·.2) then none else H b:=⟨_,rfl⟩
 have G:mG (cl.map (·.2)) h H:=⟨λb Y=>by rw[h0];exact (aG Y).symm,λb Y=>by rw[h0];exact aJ Y,λb Y=>by obtain⟨pr,hp,rfl⟩:=bR.mp Y;obtain⟨i,hi⟩:=b9.mp hp;obtain⟨d,_,o,u,v,f1,f2,_⟩:=Ld e6 hi;exact⟨_,f1,o,_,rfl,f2⟩⟩
 have e00:qh P w K mg base A outer s h:=⟨c.frames,c.mod,λb o g=>⟨(c.bs b o g).1,by rw[h0];dsimp only;split;rfl;exact (c.bs b o g).2⟩,c.bsz,c.funs,λb hb'=>by rw[h0];dsimp only;split;rfl;exact c.frf b hb',G.hok c.hok,c.bare⟩
 have hvl:vs.length=ps.length:=by rw[rs.length];exact hl
 have O:∀y∈ps.zip us,sc.names.lookup y.1=some .local\/(sc.names.lookup y.1=some .cell/\((bF (s.heap.objs.size+1) sc.names []).lookup y.1).isSome=true):=λL hy=>by
  obtain⟨n,v⟩:=L;rcases S.par n (mZ hy).1 with q|q
  ·exact .inl q
  ·exact .inr ⟨q,iM _ _ _ (.inl q)⟩
 refine PySem.W.kla_callFunE hr.depth (c.hok a _ e1).1 e2 S.co S.gen rfl ⟨cd,oc,cvs',t,rfl,(c.hok cd _ hc1).1,hc2,hc3⟩ ?_;rw[Y q cl pm (.ref cd) ct us (by rw[<- hv.length];exact hvl)];refine ai (QJ S.kind O λenv he s1 x=>?_);subst he;refine⟨dN.keeps x.toInCall.keep,PySem.W.kla_codeExpr ?_⟩;have hcl:B.length=fr.length:=by have h1:=cU cP l;rw[af]at h1;rw[c2.length,<- dR e6];exact h1
 have I:Inv (DO P w K mg base N q sc a (.ref cd) cl A outer s h) [] (L2.start N (vs++B)) h s1:=Wa S hr.hd e00 hvl hv l hcl c1 e5 c3 (λp hp=>G.non _ (ik hp)) x;unfold mR at p;cases eg:mU N.length f (ds++vd) (eD 0 st) with
 |exc _ _=>rw[eg]at p;exact p.elim
 |bad=>rw[eg]at p;exact p.elim
 |ok r st2=>
  rw[eg]at p;dsimp only at p;by_cases hd:∀(i:Nat)(o:MO),st[i]?=some o->mr o=true->st2[i]?=some MO.ded
  ·rw[aJ hd]at p;have Y:bA K ρ h (vs++B) (ds++vd):=bA.app (rs.letgo G) (c2.letgo G);have pb:aS K ρ h (mU N.length f (ds++vd) (eD 0 st)) λr' Q ρ' E=>∀v,c_ K ρ' E v r'->∃ρ2,c_ K ρ2 E v r/\SR K ρ2 E st2/\Ex ρ h ρ2 E:=by rw[eg];exact λρ' E O l v C=>⟨ρ',C,l,O⟩
   refine gJ (U q a (.ref cd) cl A outer s h (hr.deeper _) [] s1 (L2.start N (vs++B)) h (λv E=>∃ρ2,c_ K ρ2 E v r/\SR K ρ2 E st2/\Ex ρ h ρ2 E) I ⟨ρ,_,_,LR.start Y,SR.kill0 G sr,pb⟩) (λu l H=>?_) λe l H=>H.elim;obtain⟨v,H2,J,C,ρ2,r2,g,L⟩:=H;exact Wj c G J.base J.hok J.os J.bare C λH3 T he=>p ρ2 H3 (G.again T he L g) (SR.again G T he L sr g hd) v (r2.up ⟨⟨[],by simp⟩,λb o _ e=>T.le b o e,λb o e=>⟨o,T.le b o e,rfl⟩⟩)
  ·rw[aG hd]at p;exact p.elim
theorem Ml(R:mP){r nm fr:List Str}{e:Expr}{k n m:Nat}{f:CE}{G:List (Str×RF)}{Z:List Str}{C:List (Str×D)}{H:List (Nat×Nat×Nat)}{W:WT}(E:e=.Lambda (Fl e) (Bh e) (tJ e) (BC e))(S:By (nm++fr++r) nm fr (tJ e)=true)(g:nZ (tJ e).names=fr)
  (I:∀(q:Str)(cl:List (Str×ak))(pm c ct:ab)(us:List ab),us.length=nm.length->io (m6 "<lambda>" q (Fl e) (Bh e) (tJ e) cl pm c ct) ⟨us,[]⟩=pure (nm.zip us))
  (B:((nY R 40).e ⟨tJ e,nm++fr++r,k,G,Z,C,H,true,W,none⟩ (Bh e)).map (·.1)=some f) (O:cg P w K mg base G) (J:vW mg Z) (Q:xz K mg C) (L:Ae P w K mg base W) (o:nm.length=n:=by rfl) (u:(nm++fr++r).length=m:=by rfl):
  qF P w K mg base (k+1) n (.lam e) (mU m f):=by
 have h:=Yw S;obtain⟨v,_,U⟩:=du.mp B;have:=VY (pos:=BC e) h u o g I λq a' c cl A outer Y Hp l=>U ▸ v.2 ⟨Xg,rfl,h.nd,l,O,J,Q,lV,λ_=>⟨by show (if (tJ e).kind.isAnnotationScope=true then _ else (tJ e).kind)=_;rw[h.kind];rfl,λ_=>rfl⟩,L,λ_ z=>nomatch z⟩;rw[<- E]at this;exact this
end
section
structure JW(c:RC)(y:Str)(es:List Expr) where
 a:kP
 b:Expr
 s:cZ
 p:Pos
 r:CA
 dr:yM c s.names=true
 ok:∀{X:Cx},Good X c->c.top=true->A0 X y->PA X es (Dm X.K r (Jz X.K y (.Lambda a b s p) (gU s.names X.env.cells [])))
 pl:es.all pO=true
 ln:∀l st ds st',r l st=.ok ds st'->ds.length+1=es.length
def EI(q:rW)(c:RC)(y:Str):∀B:List Expr,Option (JW c y B)
 |[]=>none
 |[e]=>Wr e λa b s p h=>wh ((a.defaults.isEmpty=true/\a.kw_defaults.isEmpty=true)/\yM c s.names=true) λz=>some ⟨a,b,s,p,aH,z.2,λg t L=>by subst h;exact YA (Vm L (QX z.1) (Nz g t z.2)),by subst h;rfl,λl st ds u e=>by cases e;rfl⟩
 |e :: B => wh (pO e = true) λE => (q.e c e).bind λf => (EI q c y B).bind λr => some ⟨r.a, r.b, r.s, r.p, ac f.1 r.r, r.dr, λg t L => S4 (f.2 g) (r.ok g t L) (pZ E), by rw [ck, E, r.pl]; rfl, λl st ds u e => by
   unfold ac bnd at e;cases C:f.1 l st with
   |bad=>rw[C]at e;cases e
   |exc _ _=>rw[C]at e;cases e
   |ok d a8=>
    rw[C]at e;dsimp only at e;cases o:r.r l a8 with
    |bad=>rw[o]at e;cases e
    |exc _ _=>rw[o]at e;cases e
    |ok ds1 st2=>
     rw[o]at e;cases e;rw[bV,bV,r.ln l a8 ds1 _ o]⟩
def Bn:kW:=λq c e=>DY e λx p O pos h=>vC O λa o L=>oS c.T λt J=>(Nh c.G x).bind λr=>wh ((c.glo x=true/\ug x=true/\r.1.k<=c.k/\r.1.n=(a::o).length)/\c.top=true) λz=>
 (EI q c t.2 (a::o)).bind λl=>some ⟨lY t.1 t.2 "<lambda>" r.1.g (.lam (.Lambda l.a l.b l.s l.p)) ((nZ l.s.names).map c.N.idxOf) l.r,λg=>by subst h L;obtain⟨⟨H,G,E,C⟩,u⟩:=z;obtain⟨f,Q,m,F,I,B,_⟩:=(g.G _ _ r.2).ex;have y:=l.pl;rw[ck,bj]at y;exact Yo F (g.hr.mono E) (g.S.glo _ (beq_iff_eq.mp H)) m I B (Nz g u l.dr) (l.ok g u (g.T t J)) (by rw[C];exact l.ln) (CP G).d (pZ y.1) (Cq y.2)⟩
end
def wX(c:Stmt):List Str:=((bv c).names.filter λp=>p.2 == .local||p.2 == .cell).map (·.1)
def vn(c:Stmt):List Str:=(wX c).take (dL c).args.length
def qE(x:Str)(c:Stmt)(n k:Nat)(g:List D->M D)(G:List (Str×RF)):List (Str×RF):=(x,⟨n,k+1,vn c,false,g⟩)::G
def qD(x:Str)(c:Stmt)(n k:Nat)(g:List D->M D)(G:List (Str×RF)):List (Str×RF):=(x,⟨n,k+1,vn c,true,g⟩)::G
section
variable{P:Program}{w:bD}{K:ag}{mg:Str->Option ab}{base:bw}{x:Str}{sd:Stmt}{k:Nat}{g:List D->M D}{G:List (Str×RF)}{Z:List Str}{C:List (Str×D)}
theorem Cs:vn sd++(wX sd).drop (dL sd).args.length=wX sd:=uE ..
theorem lM(R : mP)(H : List (Nat×Nat×Nat))(n : Nat)(F : FnAt K mg x sd)(J : cg P w K mg base G)(I : vW mg Z)(L : xz K mg C)(E : (o8 (nY R 40) ⟨bv sd, wX sd, k, G, Z, C, H, true, ([], []), none⟩ (cH sd)).map (λv => bJ (wX sd).length v.1) = some g := by kernel_rfl)
  (S:sF (wX sd) (vn sd) (bv sd)=true:=by kernel_rfl) (u:(vn sd).length=n:=by kernel_rfl)
  (b:∀(kV c o:ab)(q:Option ak)(h ct:ab)(l:List ab),l.length=n->io (b7 x x (dL sd) (cH sd) (bv sd) .none kV c o q h ct) { pos:=l }=pure ((vn sd).zip l):=by first|exact λ_ _ _ _ _ _=>Bo λ_=>by kernel_rfl|exact λ_ _ _ _ _ _=>CN λ_ _=>by kernel_rfl|exact λ_ _ _ _ _ _=>G1 λ_ _ _=>by kernel_rfl|exact λ_ _ _ _ _ _=>O4 λ_ _ _ _=>by kernel_rfl|exact λ_ _ _ _ _ _=>Tz λ_ _ _ _ _=>by kernel_rfl):
  cg P w K mg base (qE x sd n k g G):=by
 obtain⟨v,hv,rfl⟩:=du.mp E;exact GG R (r:=(wX sd).drop (dL sd).args.length) (ps:=vn sd) (H:=H) F (by rw[Cs];exact S) (λkV c o q h ct l B=>b kV c o q h ct l (B.trans u)) nofun (by rw[Cs,hv];rfl) J I L u (by rw[Cs]) nofun
theorem TH(R : mP)(H : List (Nat×Nat×Nat))(n : Nat)(F : uP K mg x sd)(O : cg P w K mg base G)(L : vW mg Z)(Q : xz K mg C)(J : (o8 (nY R 40) ⟨bv sd, wX sd, k, G, Z, C, H, true, ([], []), none⟩ (cH sd)).map (λv => bJ (wX sd).length v.1) = some g := by kernel_rfl)
  (S:sF (wX sd) (vn sd) (bv sd)=true:=by kernel_rfl) (I:(vn sd).length=n:=by kernel_rfl) (E:(vn sd).getLast?=some (aq "most"):=by kernel_rfl)
  (Y:∀(u:ab)(T:ak)(kV h o:ab)(B:Option ak)(l ct:ab)(c:List ab),c.length=n->∃k:Option (Array ab)->Sem (List (Str×ab)),io (b7 x x (dL sd) (cH sd) (bv sd) (.ref T) kV h o B l ct) ⟨c,[]⟩=iC (.ref T) >>= k/\k (some #[u])=pure ((vn sd).zip c):=by first|exact λ_ _ _ _ _ _ _ _=>CN λ_ _=>⟨_,rfl,by kernel_rfl⟩|exact λ_ _ _ _ _ _ _ _=>G1 λ_ _ _=>⟨_,rfl,by kernel_rfl⟩)
  (U:∀(u:ab)(T:ak)(kV h o:ab)(B:Option ak)(l ct:ab)(c:List ab),c.length+1=n->∃k:Option (Array ab)->Sem (List (Str×ab)),io (b7 x x (dL sd) (cH sd) (bv sd) (.ref T) kV h o B l ct) ⟨c,[]⟩=iC (.ref T) >>= k/\k (some #[u])=pure ((vn sd).zip (c++[u])):=by first|exact λ_ _ _ _ _ _ _ _ c q=>Bo (λ_=>⟨_,rfl,by kernel_rfl⟩) c (kA q)|exact λ_ _ _ _ _ _ _ _ c q=>CN (λ_ _=>⟨_,rfl,by kernel_rfl⟩) c (kA q)):
  cg P w K mg base (qD x sd n k g G):=by
 obtain⟨v,hv,rfl⟩:=du.mp J;exact Us R (r:=(wX sd).drop (dL sd).args.length) (ps:=vn sd) (H:=H) F (by rw[Cs];exact S) Y U (by rw[Cs,hv];rfl) O L Q E I (by rw[Cs])
end
end MM
namespace My
open PySem MM
noncomputable def top(i:Nat):Stmt:=kB.main.body.getD i (.Pass ⟨0,0,0,0⟩)
noncomputable def tS:aX:=[.tbl "fault_of" "<lambda>"]
def yg:CS:=(aK (dw (c2 aQ (c2 aQ (c2 aQ (al 0) (al 1)) (al 2)) (aw (.int 0)))) aY)
@[irreducible] def ju:List D->M D:=bJ 3 yg
def yF:CS:=(aK (dw (c2 aQ (c2 aQ (c2 aQ (al 0) (al 1)) (al 2)) (aw (.int 1)))) aY)
@[irreducible] def jV:List D->M D:=bJ 3 yF
def yl:CS:=(aK (bB (aO 1) (cY (eV (ac (bo aH) aH)))) (aK (kC (ic (c2 aQ (al 0) (aw (.int 1)))) (aO 2) (aK (bB (aO 3) (cY (eV aH))) (aK (kC (ic (al 1)) (aO 4) (aK (lD (fu (al 3) (c2 c8 (al 4) (bo (ac (aw (.int 0)) aH))))) (aK (lD (fu (al 3) (c2 c8 (al 4) (bo (ac (aw (.int 1)) aH))))) aY))) (aK (bB (aO 1) (al 3)) aY)))) (aK (dw (al 1)) aY)))
@[irreducible] def jA:List D->M D:=bJ 5 yl
def yH:CS:=(aK (bB (aO 2) (iQ lI (dF 2 [] (pC (c2 aQ (al 0) (aw (.int 1))) (al 1)) (gZ 2 (cA (aO 0) (cA (aO 1) ib))) cz (c2 aQ (c2 aQ (al 0) (aw (.int 0))) (al 1))))) (aK (dw (bo (ac (al 2) (ac (iQ lI (dF 2 [] (ic (c2 aQ (al 0) (aw (.int 0)))) (gZ 2 (cA (aO 0) (cA (aO 1) ib))) cz (al 1))) aH)))) aY))
@[irreducible] def jy:List D->M D:=bJ 3 yH
def yC:CS:=(aK (dw (c2 aQ (c2 aQ (c2 aQ (c2 aQ (al 0) (aw (.int 1))) (al 2)) (aw (.int 1))) (c2 aQ (c2 aQ (al 1) (aw (.int 0))) (al 2)))) aY)
@[irreducible] def jk:List D->M D:=bJ 3 yC
def yv:CS:=(aK (dw (c2 c8 (c2 c8 (dP (al 0) gY (gc (al 1))) (bo (ac (al 2) aH))) (dP (al 0) (gc (c2 c8 (al 1) (aw (.int 1)))) gY))) aY)
@[irreducible] def jn:List D->M D:=bJ 3 yv
def j5:CS:=(aK (dw (wM (dg (c2 on (c2 aQ (al 0) (aw (.int 0))) (aw (.str "settle")))) (c2 aQ (al 0) (aw (.int 1))) (aw .non))) aY)
@[irreducible] def jm:List D->M D:=bJ 1 j5
def yw:CS:=(aK (bB (aO 2) (cY (eV aH))) (aK (bB (aO 3) (c2 aQ (al 0) (al 1))) (aK (kL (dg (c2 lw (al 3) (aw .non))) (aK (lD (fu (al 2) (c2 aQ (al 3) (aw (.int 1))))) (aK (bB (aO 3) (c2 aQ (al 0) (c2 aQ (al 3) (aw (.int 0))))) aY))) (aK (dw (c1 qy (al 2))) aY))))
@[irreducible] def jR:List D->M D:=bJ 4 yw
def yj:CS:=(aK (dw (tj (c2 Ei (aw (.int 0)) (al 0)) (c2 Ei (aw (.int 1)) (al 0)))) aY)
@[irreducible] def jp:List D->M D:=bJ 1 yj
def yd:CS:=(aK (dw (iQ tK (dF 1 [0] (ic (al 1)) (aO 0) cz (tj (c2 lw (al 0) (aw .non)) (c2 oI (al 0) (al 1)))))) aY)
@[irreducible] def jh:List D->M D:=bJ 2 yd
def yB:CS:=(aK (bB (aO 2) (cY (dF 1 [] (wF (qC (al 0) (gc (al 1)) (gc (aw (.int 63))))) (aO 0) cz (c2 rY (al 0) (c2 n0 (aw (.int 0)) (al 0)))))) (aK (bB (aO 3) (c2 c8 (aw (.int 7919)) (al 1))) (aK (kC (ic (al 2)) (aO 4) (aK (bB (aO 3) (c2 pe (c2 c8 (c2 qG (al 3) (aw (.int 69621))) (c2 pe (al 4) (aw (.int 2147483629)))) (aw (.int 2147483647)))) aY)) (aK (dw (tf [.str "seed",.str "number",.str "left"] (ac (al 3) (ac (aw (.int 0)) (ac (cY (wo (dF 1 [] (ic (al 2)) (aO 0) (dg (c2 G0 (al 0) (c2 wU (aw (.int 10)) (aw (.int 18))))) (al 0)))) aH))))) aY))))
@[irreducible] def jH:List D->M D:=bJ 5 yB
def yr:CS:=(aK (kL (qK (dg (c2 on (c2 aQ (al 0) (aw (.str "number"))) (aw (.int 0)))) (dg (c2 CL (c1 ge (c2 aQ (al 0) (aw (.str "left")))) (aw (.int 0))))) (aK (bB (kz (al 0) (aw (.str "number"))) (wN (c2 aQ (al 0) (aw (.str "left"))))) aY)) (aK (bB (aO 2) (c2 aQ (al 0) (aw (.str "number")))) (aK (om (dg (c2 CL (al 2) (aw (.int 0)))) (aK (bB (kz (al 0) (aw (.str "number"))) (c2 tL (al 2) (al 1))) (aK (dw (c2 pe (al 2) (al 1))) aY)) aY) (aK (bB (aO 3) (c2 pe (c2 c8 (c2 qG (c2 aQ (al 0) (aw (.str "seed"))) (aw (.int 48271))) (aw (.int 7919))) (aw (.int 2147483647)))) (aK (bB (kz (al 0) (aw (.str "seed"))) (c2 pe (c2 c8 (c2 qG (al 3) (aw (.int 40692))) (aw (.int 104729))) (aw (.int 2147483399)))) (aK (bB (aO 4) (c2 pe (c2 qG (c2 aQ (al 0) (aw (.str "seed"))) (c2 aQ (al 0) (aw (.str "seed")))) (aw (.int 2147483563)))) (aK (dw (c2 pe (c2 c8 (c2 qG (c2 pe (c2 qG (al 3) (al 3)) (aw (.int 2147483629))) (aw (.int 2147483563))) (al 4)) (al 1))) aY)))))))
@[irreducible] def ja:List D->M D:=bJ 5 yr
def yi:CS:=(aK (dw (iQ lI (dF 1 [0] (MM.fm (al 0)) (aO 0) cz (c2 c8 (bo (ac (bo (ac (al 0) (ac (al 0) aH))) aH)) (iQ lI (dF 1 [] (MM.fm (al 1)) (aO 0) cz (bo (ac (al 0) (ac (aw (.int 0)) aH))))))))) aY)
@[irreducible] def jb:List D->M D:=bJ 1 yi
def yk:CS:=(aK (bB (aO 1) (bu ja (ac (al 0) (ac (aw (.int 7)) aH)))) (aK (bB (aO 2) (c2 c8 (aw (.int 2)) (bu ja (ac (al 0) (ac (aw (.int 2)) aH))))) (aK (om (dg (c2 zx (al 1) (aw (.int 2)))) (aK (dw (bu jb (ac (al 2) aH))) aY) aY) (aK (om (dg (c2 on (al 1) (aw (.int 2)))) (aK (dw (iQ lI (dF 1 [2] (MM.fm (al 2)) (aO 0) cz (iQ lI (dF 1 [0] (MM.fm (al 1)) (aO 0) cz (bo (ac (al 0) (ac (al 1) aH)))))))) aY) aY) (aK (om (dg (c2 on (al 1) (aw (.int 3)))) (aK (dw (iQ lI (dF 1 [2] (MM.fm (al 2)) (aO 0) cz (bo (ac (bo (ac (c2 pe (c2 c8 (al 0) (aw (.int 1))) (al 1)) (ac (al 0) aH))) aH))))) aY) aY) (aK (om (dg (c2 on (al 1) (aw (.int 4)))) (aK (dw (bo (ac (bo (ac (bo (ac (aw (.int 1)) (ac (aw (.int 1)) aH))) (ac (bo (ac (aw (.int 2)) (ac (aw (.int 2)) aH))) aH))) (ac (bo (ac (bo (ac (aw (.int 1)) (ac (aw (.int 1)) aH))) (ac (bo (ac (aw (.int 1)) (ac (aw (.int 1)) aH))) aH))) (ac (bo (ac (bo (ac (aw (.int 2)) (ac (aw (.int 2)) aH))) (ac (bo (ac (aw (.int 2)) (ac (aw (.int 2)) aH))) aH))) aH))))) aY) aY) (aK (bB (aO 2) (c2 c8 (aw (.int 1)) (bu ja (ac (al 0) (ac (aw (.int 3)) aH))))) (aK (bB (aO 3) (c2 c8 (aw (.int 1)) (bu ja (ac (al 0) (ac (aw (.int 3)) aH))))) (aK (bB (aO 4) (cY (eV aH))) (aK (kC (MM.fm (al 2)) (aO 5) (aK (lD (fu (al 4) (iQ lI (dF 1 [0,2] (MM.fm (al 3)) (aO 0) cz (bo (ac (bu ja (ac (al 1) (ac (al 2) aH))) (ac (bu ja (ac (al 1) (ac (aw (.int 3)) aH))) aH))))))) aY)) (aK (dw (c1 tupleD (al 4))) aY)))))))))))
@[irreducible] def jB:List D->M D:=bJ 6 yk
def j7:CS:=(aK (dw (c2 c8 (aw (.int 1)) (iQ tG (dF 1 [1] (ic (al 0)) (aO 0) cz (c2 aQ (c2 aQ (al 0) (al 1)) (aw (.int 1))))))) aY)
@[irreducible] def jd:List D->M D:=bJ 2 j7
def yz:CS:=(aK (bB (aO 3) (cY (eV aH))) (aK (kC (MM.fm (c2 n0 (al 2) (aw (.int 2)))) (aO 4) (aK (bB (aO 5) (bu ja (ac (al 0) (ac (c1 ge (al 1)) aH)))) (aK (bB (aO 6) (bu ja (ac (al 0) (ac (c1 ge (c2 aQ (c2 aQ (c2 aQ (al 1) (al 5)) (aw (.int 0))) (aw (.int 0)))) aH)))) (aK (bB (aO 7) (cY (eV aH))) (aK (kC (MM.fm (bu jd (ac (c2 aQ (c2 aQ (al 1) (al 5)) (aw (.int 0))) (ac (al 6) aH)))) (aO 8) (aK (bB (aO 9) (c2 c8 (c2 c8 (al 4) (aw (.int 1))) (bu ja (ac (al 0) (ac (c2 n0 (c2 n0 (al 2) (aw (.int 1))) (al 4)) aH))))) (aK (lD (fu (al 7) (kF (eV (ac (al 9) (ac (bu ja (ac (al 0) (ac (al 2) aH))) aH))) (c1 intD (c2 on (bu ja (ac (al 0) (ac (aw (.int 5)) aH))) (aw (.int 0))))))) aY))) (aK (lD (fu (al 3) (bo (ac (aw (.str "do")) (ac (al 5) (ac (al 6) (ac (c1 tupleD (al 7)) aH))))))) aY)))))) (aK (bB (aO 3) (c2 c8 (al 3) (cY (eV (ac (bo (ac (aw (.str "settle")) (ac (aw (.int 0)) aH))) (ac (bo (ac (aw (.str "settle")) (ac (aw (.int 1)) aH))) aH)))))) (aK (dw (bo (ac (bo (ac (bu ja (ac (al 0) (ac (al 2) aH))) (ac (bu ja (ac (al 0) (ac (al 2) aH))) aH))) (ac (c1 tupleD (al 3)) aH)))) aY))))
@[irreducible] def jO:List D->M D:=bJ 10 yz
def j0:CS:=(aK (bB (aO 1) (c2 c8 (aw (.int 2)) (c1 intD (c2 on (bu ja (ac (al 0) (ac (aw (.int 4)) aH))) (aw (.int 0)))))) (aK (bB (aO 2) (kF (eV (ac (c2 c8 (aw (.int 1)) (bu ja (ac (al 0) (ac (aw (.int 2)) aH)))) (ac (aw (.int 1)) aH))) (c2 n0 (al 1) (aw (.int 2))))) (aK (bB (aO 3) (cY (dF 1 [0] (MM.fm (al 2)) (aO 0) cz (bu jB (ac (al 1) aH))))) (aK (bB (aO 4) (iQ lI (dF 1 [0] (ic (al 3)) (aO 0) cz (bo (ac (al 0) (ac (bu ja (ac (al 1) (ac (c1 ge (al 0)) aH))) aH)))))) (aK (bB (aO 5) (kF (eV (ac (aw (.int 2)) (ac (aw (.int 1)) aH))) (c2 n0 (al 1) (aw (.int 2))))) (aK (dw (bo (ac (al 4) (ac (iQ lI (dF 1 [0,4,5] (MM.fm (al 1)) (aO 0) cz (bu jO (ac (al 1) (ac (al 2) (ac (c2 c8 (aw (.int 2)) (bu ja (ac (al 1) (ac (c2 c8 (al 3) (aw (.int 1))) aH)))) aH)))))) aH)))) aY))))))
@[irreducible] def jq:List D->M D:=bJ 6 j0
def jX:CS:=(aK (bB (aO 4) (cY (eV aH))) (aK (kC (MM.fm (aw (.int 2))) (aO 5) (aK (bB (aO 6) (cY (qI (eV (ac (aw (.int 4)) aH)) (bu jd (ac (al 1) (ac (al 3) aH)))))) (aK (bB (kz (al 6) (c2 aQ (c2 aQ (c2 aQ (al 1) (al 2)) (al 3)) (aw (.int 1)))) (c2 c8 (aw (.int 5)) (al 5))) (aK (bB (aO 4) (c2 c8 (al 4) (cY (eV (ac (bo (ac (aw (.str "do")) (ac (al 0) (ac (c2 c8 (aw (.int 1)) (al 5)) (ac (bo (ac (c2 c8 (c2 qG (aw (.int 2)) (al 5)) (aw (.int 1))) aH)) aH))))) (ac (bo (ac (aw (.str "do")) (ac (aw (.int 2)) (ac (al 3) (ac (c1 tupleD (al 6)) aH))))) aH)))))) aY)))) (aK (dw (bo (ac (bo (ac (aw (.int 0)) (ac (aw (.int 2)) aH))) (ac (c2 c8 (c1 tupleD (al 4)) (bo (ac (bo (ac (aw (.str "do")) (ac (c2 n0 (aw (.int 1)) (al 0)) (ac (aw (.int 0)) (ac (bo (ac (aw (.int 5)) (ac (aw (.int 6)) aH))) aH))))) (ac (bo (ac (aw (.str "settle")) (ac (aw (.int 0)) aH))) (ac (bo (ac (aw (.str "settle")) (ac (aw (.int 1)) aH))) aH))))) aH)))) aY)))
@[irreducible] def je:List D->M D:=bJ 7 jX
def yu:CS:=(aK (bB (gZ 3 (cA (aO 1) (cA (aO 2) (cA (aO 3) ib)))) (bo (ac (bo (ac (bo (ac (bo (ac (aw (.int 1)) (ac (aw (.int 0)) aH))) aH)) (ac (bo (ac (bo (ac (aw (.int 1)) (ac (aw (.int 1)) aH))) aH)) aH))) (ac (aw (.int 0)) (ac (aw (.int 0)) aH))))) (aK (bB (aO 4) (bu ja (ac (al 0) (ac (aw (.int 3)) aH)))) (aK (om (dg (c2 on (al 4) (aw (.int 0)))) (aK (bB (gZ 2 (cA (aO 1) (cA (aO 3) ib))) (bo (ac (iQ lI (dF 1 [] (MM.fm (aw (.int 2))) (aO 0) cz (iQ lI (dF 1 [0] (MM.fm (aw (.int 2))) (aO 0) cz (bo (ac (al 0) (ac (al 1) aH))))))) (ac (aw (.int 1)) aH)))) aY) aY) (aK (om (dg (c2 on (al 4) (aw (.int 1)))) (aK (bB (aO 1) (bo (ac (bo (ac (bo (ac (aw (.int 1)) (ac (aw (.int 0)) aH))) aH)) (ac (bo (ac (bo (ac (aw (.int 2)) (ac (aw (.int 1)) aH))) aH)) (ac (bo (ac (bo (ac (aw (.int 0)) (ac (aw (.int 2)) aH))) aH)) aH))))) aY) aY) (aK (bB (aO 5) (bo (ac (bo (ac (bu jb (ac (aw (.int 2)) aH)) (ac (aw (.int 0)) aH))) (ac (bo (ac (bu jb (ac (aw (.int 2)) aH)) (ac (aw (.int 0)) aH))) (ac (bo (ac (al 1) (ac (al 2) aH))) aH))))) (aK (dw (bo (ac (al 5) (ac (iQ lI (dF 1 [1,2,3] (MM.fm (aw (.int 2))) (aO 0) cz (bu je (ac (al 0) (ac (al 1) (ac (al 2) (ac (al 3) aH))))))) aH)))) aY))))))
@[irreducible] def jS:List D->M D:=bJ 6 yu
def jW:CS:=(aK (bB (aO 1) (bo (ac (bo (ac (bo (ac (aw (.int 1)) (ac (aw (.int 1)) aH))) (ac (bo (ac (aw (.int 2)) (ac (aw (.int 2)) aH))) aH))) (ac (bo (ac (bo (ac (aw (.int 1)) (ac (aw (.int 1)) aH))) (ac (bo (ac (aw (.int 1)) (ac (aw (.int 1)) aH))) aH))) (ac (bo (ac (bo (ac (aw (.int 2)) (ac (aw (.int 2)) aH))) (ac (bo (ac (aw (.int 2)) (ac (aw (.int 2)) aH))) aH))) aH))))) (aK (bB (aO 2) (bo (ac (bo (ac (aw (.str "do")) (ac (aw (.int 0)) (ac (aw (.int 0)) (ac (bo (ac (aw (.int 2)) (ac (aw (.int 2)) (ac (aw (.int 3)) aH)))) aH))))) (ac (bo (ac (aw (.str "do")) (ac (aw (.int 0)) (ac (aw (.int 1)) (ac (bo (ac (aw (.int 2)) (ac (aw (.int 2)) (ac (aw (.int 3)) aH)))) aH))))) (ac (bo (ac (aw (.str "settle")) (ac (aw (.int 0)) aH))) (ac (bo (ac (aw (.str "settle")) (ac (aw (.int 1)) aH))) aH)))))) (aK (dw (bo (ac (bo (ac (bo (ac (al 1) (ac (aw (.int 0)) aH))) aH)) (ac (c2 rR (bo (ac (bo (ac (bo (ac (aw (.int 0)) (ac (aw (.int 1)) aH))) (ac (al 2) aH))) aH)) (c2 c8 (aw (.int 2)) (bu ja (ac (al 0) (ac (aw (.int 2)) aH))))) aH)))) aY)))
@[irreducible] def jo:List D->M D:=bJ 3 jW
def j6:CS:=(aK (bB (aO 1) (bo (ac (bo (ac (aw (.int 0)) (ac (aw (.int 1)) aH))) (ac (bo (ac (bo (ac (aw (.str "do")) (ac (aw (.int 0)) (ac (aw (.int 2)) (ac (bo (ac (aw (.int 2)) aH)) aH))))) (ac (bo (ac (aw (.str "do")) (ac (aw (.int 0)) (ac (aw (.int 3)) (ac (bo (ac (aw (.int 3)) aH)) aH))))) (ac (bo (ac (aw (.str "settle")) (ac (aw (.int 0)) aH))) (ac (bo (ac (aw (.str "settle")) (ac (aw (.int 1)) aH))) aH))))) aH)))) (aK (bB (aO 2) (bo (ac (bo (ac (aw (.int 0)) (ac (aw (.int 0)) aH))) (ac (bo (ac (bo (ac (aw (.str "do")) (ac (aw (.int 0)) (ac (aw (.int 0)) (ac (bo (ac (aw (.int 0)) (ac (aw (.int 1)) (ac (aw (.int 2)) aH)))) aH))))) (ac (bo (ac (aw (.str "settle")) (ac (aw (.int 0)) aH))) (ac (bo (ac (aw (.str "settle")) (ac (aw (.int 1)) aH))) aH)))) aH)))) (aK (bB (aO 3) (kF (eV (ac (bo (ac (al 1) (ac (al 2) aH))) (ac (bo (ac (al 2) (ac (al 1) aH))) (ac (bo (ac (al 1) (ac (al 2) (ac (al 2) aH)))) aH)))) (bu ja (ac (al 0) (ac (aw (.int 3)) aH))))) (aK (dw (bo (ac (bo (ac (bo (ac (bu jb (ac (aw (.int 3)) aH)) (ac (aw (.int 0)) aH))) aH)) (ac (al 3) aH)))) aY))))
@[irreducible] def jC:List D->M D:=bJ 4 j6
def j3:CS:=(aK (bB (aO 1) (cY (eV aH))) (aK (kC (MM.fm (aw (.int 2))) (aO 2) (aK (bB (aO 3) (kF (eV (ac (bo (ac (aw (.int 2)) (ac (aw (.int 3)) aH))) (ac (bo (ac (aw (.int 1)) (ac (aw (.int 0)) aH))) aH))) (bu ja (ac (al 0) (ac (aw (.int 2)) aH))))) (aK (bB (aO 4) (cY (eV (ac (bo (ac (aw (.str "do")) (ac (al 2) (ac (aw (.int 2)) (ac (bo (ac (aw (.int 2)) aH)) aH))))) (ac (bo (ac (aw (.str "do")) (ac (al 2) (ac (aw (.int 3)) (ac (bo (ac (aw (.int 3)) aH)) aH))))) (ac (bo (ac (aw (.str "do")) (ac (c2 n0 (aw (.int 1)) (al 2)) (ac (aw (.int 0)) (ac (bo (ac (aw (.int 4)) (ac (aw (.int 4)) (ac (c2 aQ (al 3) (aw (.int 0))) aH)))) aH))))) aH)))))) (aK (bB (aO 4) (c2 c8 (al 4) (cY (eV (ac (bo (ac (aw (.str "do")) (ac (c2 n0 (aw (.int 1)) (al 2)) (ac (aw (.int 0)) (ac (bo (ac (aw (.int 5)) (ac (c2 aQ (al 3) (aw (.int 1))) (ac (aw (.int 5)) aH)))) aH))))) (ac (bo (ac (aw (.str "settle")) (ac (aw (.int 0)) aH))) (ac (bo (ac (aw (.str "settle")) (ac (aw (.int 1)) aH))) aH))))))) (aK (lD (fu (al 1) (bo (ac (bo (ac (aw (.int 0)) (ac (aw (.int 1)) aH))) (ac (c1 tupleD (al 4)) aH))))) aY))))) (aK (dw (bo (ac (bo (ac (bo (ac (bu jb (ac (aw (.int 3)) aH)) (ac (aw (.int 0)) aH))) (ac (bo (ac (bu jb (ac (aw (.int 3)) aH)) (ac (aw (.int 0)) aH))) aH))) (ac (c1 tupleD (al 1)) aH)))) aY)))
@[irreducible] def jw:List D->M D:=bJ 5 j3
def j8:CS:=(aK (bB (aO 2) (bu ja (ac (al 0) (ac (c1 ge (c2 aQ (al 1) (aw (.int 1)))) aH)))) (aK (bB (gZ 2 (cA (aO 3) (cA (aO 4) ib))) (c2 aQ (c2 aQ (al 1) (aw (.int 1))) (al 2))) (aK (bB (aO 5) (bu ja (ac (al 0) (ac (c1 ge (al 4)) aH)))) (aK (bB (aO 6) (c2 aQ (al 4) (al 5))) (aK (om (dg (c2 on (c2 aQ (al 6) (aw (.int 0))) (aw (.str "settle")))) (aK (bB (aO 6) (bo (ac (aw (.str "settle")) (ac (c2 n0 (aw (.int 1)) (c2 aQ (al 6) (aw (.int 1)))) aH)))) aY) (aK (bB (aO 7) (c1 rL (c2 aQ (al 6) (aw (.int 3))))) (aK (bB (kz (al 7) (bu ja (ac (al 0) (ac (c1 ge (al 7)) aH)))) (bu ja (ac (al 0) (ac (c1 ge (al 4)) aH)))) (aK (bB (aO 6) (c2 c8 (dP (al 6) gY (gc (aw (.int 3)))) (bo (ac (c1 tupleD (al 7)) aH)))) aY)))) (aK (bB (aO 8) (bo (ac (al 3) (ac (c2 c8 (c2 c8 (dP (al 4) gY (gc (al 5))) (bo (ac (al 6) aH))) (dP (al 4) (gc (c2 c8 (al 5) (aw (.int 1)))) gY)) aH)))) (aK (dw (bo (ac (c2 aQ (al 1) (aw (.int 0))) (ac (c2 c8 (c2 c8 (dP (c2 aQ (al 1) (aw (.int 1))) gY (gc (al 2))) (bo (ac (al 8) aH))) (dP (c2 aQ (al 1) (aw (.int 1))) (gc (c2 c8 (al 2) (aw (.int 1)))) gY)) aH)))) aY)))))))
@[irreducible] def jt:List D->M D:=bJ 9 j8
def ym:CS:=(aK (bB (aO 1) (bu ja (ac (al 0) (ac (aw (.int 6)) aH)))) (aK (om (dg (c2 zx (al 1) (aw (.int 2)))) (aK (dw (bu jq (ac (al 0) aH))) aY) aY) (aK (om (dg (c2 on (al 1) (aw (.int 2)))) (aK (bB (aO 2) (bu jS (ac (al 0) aH))) aY) (aK (om (dg (c2 on (al 1) (aw (.int 3)))) (aK (bB (aO 2) (bu jo (ac (al 0) aH))) aY) (aK (om (dg (c2 on (al 1) (aw (.int 4)))) (aK (bB (aO 2) (bu jC (ac (al 0) aH))) aY) (aK (bB (aO 2) (bu jw (ac (al 0) aH))) aY)) aY)) aY)) (aK (kC (MM.fm (c2 rY (aw (.int 0)) (c2 n0 (bu ja (ac (al 0) (ac (aw (.int 4)) aH))) (aw (.int 1))))) (aO 3) (aK (bB (aO 2) (bu jt (ac (al 0) (ac (al 2) aH)))) aY)) (aK (dw (al 2)) aY)))))
@[irreducible] def jM:List D->M D:=bJ 4 ym
def yx:CS:=(aK (dw (c2 aQ (c2 aQ (c2 aQ (c2 aQ (al 0) (aw (.int 1))) (al 2)) (aw (.int 1))) (c2 aQ (c2 aQ (al 1) (aw (.int 0))) (al 2)))) aY)
@[irreducible] def jc:List D->M D:=bJ 3 yx
def jU:CS:=(aK (bB (aO 3) (bu jc (ac (al 0) (ac (al 1) (ac (al 2) aH))))) (aK (om (dg (c2 on (c2 aQ (al 3) (aw (.int 0))) (aw (.str "settle")))) (aK (dw (al 1)) aY) aY) (aK (bB (aO 4) (c1 rL (c2 aQ (al 1) (aw (.int 0))))) (aK (bB (aO 5) (c1 rL (c2 aQ (al 1) (aw (.int 1))))) (aK (bB (gZ 4 (cA (aO 6) (cA (aO 7) (cA (aO 8) (cA (aO 9) ib))))) (al 3)) (aK (bB (gZ 2 (cA (aO 10) (cA (aO 11) ib))) (c2 aQ (c2 aQ (c2 aQ (c2 aQ (c2 aQ (al 0) (aw (.int 0))) (al 7)) (aw (.int 0))) (c2 aQ (al 5) (al 7))) (al 8))) (aK (bB (kz (al 5) (al 7)) (al 10)) (aK (bB (kz (al 4) (al 2)) (c2 aQ (al 9) (al 11))) (aK (dw (bo (ac (c1 tupleD (al 4)) (ac (c1 tupleD (al 5)) aH)))) aY)))))))))
@[irreducible] def jv:List D->M D:=bJ 12 jU
def yA:CS:=(aK (dw (cY (dF 1 [0,1] (MM.fm (c1 ge (c2 aQ (al 0) (aw (.int 1))))) (aO 0) (dg (c2 on (c2 aQ (bu jc (ac (al 1) (ac (al 2) (ac (al 0) aH)))) (aw (.int 0))) (aw (.str "do")))) (al 0)))) aY)
@[irreducible] def jD:List D->M D:=bJ 2 yA
def yc:CS:=(aK (bB (aO 2) (cY (dF 1 [0,1] (MM.fm (c1 ge (c2 aQ (al 0) (aw (.int 1))))) (aO 0) cz (bu jc (ac (al 1) (ac (al 2) (ac (al 0) aH))))))) (aK (dw (iQ lL (dF 1 [] (ic (al 2)) (aO 0) (dg (c2 on (c2 aQ (al 0) (aw (.int 0))) (aw (.str "settle")))) (c2 aQ (al 0) (aw (.int 1)))))) aY))
@[irreducible] def js:List D->M D:=bJ 3 yc
def yn:CS:=(aK (bB (aO 2) (cY (dF 2 [] (pC (c2 aQ (al 0) (aw (.int 1))) (al 1)) (gZ 2 (cA (aO 0) (cA (aO 1) ib))) cz (c2 aQ (c2 aQ (al 0) (aw (.int 0))) (al 1))))) (aK (dw (bo (ac (c1 tupleD (al 2)) (ac (iQ lI (dF 1 [] (ic (c2 aQ (al 0) (aw (.int 0)))) (aO 0) cz (c2 aQ (al 0) (aw (.int 1))))) aH)))) aY))
@[irreducible] def jz:List D->M D:=bJ 3 yn
def j9:CS:=(aK (bB (aO 1) (cY (eV (ac (bo aH) aH)))) (aK (kC (ic (c2 aQ (al 0) (aw (.int 1)))) (aO 2) (aK (bB (aO 3) (cY (eV aH))) (aK (kC (ic (al 1)) (aO 4) (aK (lD (ng (al 3) (cY (eV (ac (c2 c8 (al 4) (bo (ac (aw (.int 0)) aH))) (ac (c2 c8 (al 4) (bo (ac (aw (.int 1)) aH))) aH)))))) aY)) (aK (bB (aO 1) (al 3)) aY)))) (aK (dw (al 1)) aY)))
@[irreducible] def jK:List D->M D:=bJ 5 j9
def yt:CS:=(aK (bB (aO 2) (qL true)) (aK (bB (aO 3) (cY (eV aH))) (aK (kC (ic (al 1)) (aO 4) (aK (om (dg (c2 oI (al 4) (al 2))) (aK (bB (kz (al 2) (al 4)) (bo aH)) (aK (lD (fu (al 3) (al 4))) aY)) aY) aY)) (aK (bB (aO 5) (aw (.int 0))) (aK (kL (dg (c2 zx (al 5) (c1 ge (al 3)))) (aK (bB (aO 6) (c2 aQ (al 3) (al 5))) (aK (bB (aO 5) (c2 c8 (al 5) (aw (.int 1)))) (aK (kC (ic (bu jD (ac (al 0) (ac (al 6) aH)))) (aO 7) (aK (bB (aO 8) (bu jv (ac (al 0) (ac (al 6) (ac (al 7) aH))))) (aK (om (dg (c2 oI (al 8) (al 2))) (aK (bB (kz (al 2) (al 8)) (c2 c8 (c2 aQ (al 2) (al 6)) (bo (ac (al 7) aH)))) (aK (lD (fu (al 3) (al 8))) aY)) aY) aY))) aY)))) (aK (dw (bo (ac (al 3) (ac (al 2) aH)))) aY))))))
@[irreducible] def jI:List D->M D:=bJ 9 yt
def jZ:CS:=(aK (dw (c2 on (c1 ge (bu js (ac (al 0) (ac (al 1) aH)))) (aw (.int 2)))) aY)
@[irreducible] def jr:List D->M D:=bJ 3 jZ
def jT:CS:=(aK (dw (c2 FG (cY (dF 1 [2] (ic (bu js (ac (al 0) (ac (al 1) aH)))) (aO 0) (dg (c2 oI (al 0) (al 1))) (al 0))) (cY (eV aH)))) aY)
@[irreducible] def jl:List D->M D:=bJ 3 jT
def ya:CS:=(aK (bB (gZ 2 (cA (aO 1) (cA (aO 2) ib))) (bu jI (ac (al 0) (ac (cY (dF 1 [0] (ic (bu jK (ac (al 0) aH))) (aO 0) cz (bu jz (ac (al 1) (ac (al 0) aH))))) aH)))) (aK (bB (aO 3) (cY (dF 1 [0,2] (ic (al 1)) (aO 0) (sD (bu jr (ac (al 1) (ac (al 0) (ac (bo aH) aH))))) (c1 ge (c2 aQ (al 2) (al 0)))))) (aK (bB (aO 4) (cY (eV aH))) (aK (kC (MM.fm (aw (.int 2))) (aO 5) (aK (bB (aO 6) (c2 rR (bo (ac (al 5) aH)) (c1 ge (c2 aQ (al 0) (aw (.int 1)))))) (aK (bB (gZ 2 (cA (aO 1) (cA (aO 2) ib))) (bu jI (ac (al 0) (ac (cY (eV (ac (bu jz (ac (al 0) (ac (al 6) aH))) aH))) aH)))) (aK (lD (ng (al 4) (cY (dF 1 [0,2,6] (ic (al 1)) (aO 0) (sD (bu jl (ac (al 1) (ac (al 0) (ac (al 3) aH))))) (c1 ge (c2 aQ (al 2) (al 0))))))) aY)))) (aK (dw (cY (eV (ac (qx (al 3) (aw .non)) (ac (qx (al 4) (aw .non)) aH))))) aY)))))
@[irreducible] def jg:List D->M D:=bJ 7 ya
def yo:CS:=(aK (bB (aO 3) (bu jk (ac (al 0) (ac (al 1) (ac (al 2) aH))))) (aK (om (dg (c2 on (c2 aQ (al 3) (aw (.int 0))) (aw (.str "settle")))) (aK (dw (al 1)) aY) aY) (aK (bB (aO 4) (c2 aQ (al 3) (aw (.int 1)))) (aK (bB (aO 5) (c2 aQ (al 3) (aw (.int 2)))) (aK (bB (aO 6) (c2 aQ (c2 aQ (c2 aQ (al 0) (aw (.int 0))) (al 4)) (aw (.int 0)))) (aK (bB (aO 7) (c2 aQ (c2 aQ (al 1) (aw (.int 1))) (al 4))) (aK (bB (aO 8) (c2 aQ (c2 aQ (al 3) (aw (.int 3))) (bu jV (ac (al 6) (ac (al 7) (ac (al 5) aH)))))) (aK (dw (bo (ac (bu jn (ac (c2 aQ (al 1) (aw (.int 0))) (ac (al 2) (ac (al 8) aH)))) (ac (bu jn (ac (c2 aQ (al 1) (aw (.int 1))) (ac (al 4) (ac (bu ju (ac (al 6) (ac (al 7) (ac (al 5) aH)))) aH)))) aH)))) aY))))))))
@[irreducible] def jL:List D->M D:=bJ 9 yo
def yD:CS:=(aK (dw (iQ lI (dF 1 [0,1] (MM.fm (c1 ge (c2 aQ (al 0) (aw (.int 1))))) (aO 0) cz (bu jm (ac (bu jk (ac (al 1) (ac (al 2) (ac (al 0) aH)))) aH))))) aY)
@[irreducible] def ji:List D->M D:=bJ 2 yD
def yI:CS:=(aK (dw (cY (dF 2 [] (tF (bu ji (ac (al 0) (ac (al 1) aH)))) (gZ 2 (cA (aO 0) (cA (aO 1) ib))) (dg (c2 va (al 1) (aw .non))) (al 0)))) aY)
@[irreducible] def yf:List D->M D:=bJ 2 yI
def yb:CS:=(aK (bB (aO 4) (cY (eV aH))) (aK (kC (ic (bu yf (ac (al 0) (ac (al 1) aH)))) (aO 5) (aK (bB (aO 6) (bu jL (ac (al 0) (ac (al 1) (ac (al 5) aH))))) (aK (om (dg (c2 oI (al 6) (al 3))) (aK (bB (kz (al 3) (al 6)) (c1 ge (al 2))) (aK (lD (fu (al 2) (al 6))) aY)) aY) (aK (lD (fu (al 4) (bo (ac (al 5) (ac (c2 aQ (al 3) (al 6)) aH))))) aY)))) (aK (dw (al 4)) aY)))
@[irreducible] def jF:List D->M D:=bJ 7 yb
def j2:CS:=(aK (bB (aO 3) (qm (al 1) (aw .non))) (aK (bB (aO 4) (cY (eV (ac (al 1) aH)))) (aK (bB (aO 5) (aw (.int 0))) (aK (kL (dg (c2 zx (al 5) (c1 ge (al 4)))) (aK (bB (aO 6) (c2 aQ (al 4) (al 5))) (aK (kC (ic (c2 aQ (al 0) (al 6))) (gZ 2 (cA (aO 7) (cA (aO 8) ib))) (aK (om (sD (c2 aQ (al 2) (al 8))) (aK (dw (c2 c8 (bu jR (ac (al 3) (ac (al 6) aH))) (bo (ac (al 7) aH)))) aY) aY) (aK (om (dg (c2 oI (al 8) (al 3))) (aK (bB (kz (al 3) (al 8)) (bo (ac (al 6) (ac (al 7) aH)))) (aK (lD (fu (al 4) (al 8))) aY)) aY) aY))) (aK (bB (aO 5) (c2 vF (al 5) (aw (.int 1)))) aY)))) (aK (dw (aw .non)) aY)))))
@[irreducible] def jx:List D->M D:=bJ 9 j2
def ye:CS:=(aK (bB (aO 3) (qL true)) (aK (kC (ic (al 1)) (aO 4) (aK (lD (oD (al 3) (al 4) (c1 ge (al 3)))) aY)) (aK (bB (aO 5) (c1 pd (al 3))) (aK (bB (aO 6) (cY (eV aH))) (aK (kL (dg (c2 zx (c1 ge (al 6)) (c1 ge (al 5)))) (aK (om (qK (dg (c2 lw (al 2) (aw .non))) (dg (c2 CL (c1 ge (al 5)) (al 2)))) (aK A8 aY) aY) (aK (lD (fu (al 6) (bu jF (ac (al 0) (ac (c2 aQ (al 5) (c1 ge (al 6))) (ac (al 5) (ac (al 3) aH))))))) aY))) (aK (dw (bo (ac (al 5) (ac (al 6) aH)))) aY))))))
@[irreducible] def jJ:List D->M D:=bJ 7 ye
def yh:CS:=(aK (om (sD (c2 aQ (al 2) (al 1))) (aK (dw (bo aH)) aY) aY) (aK (dw (bu jx (ac (al 0) (ac (al 1) (ac (al 2) aH))))) aY))
@[irreducible] def jN:List D->M D:=bJ 3 yh
@[irreducible] def lK:rF:=E1 2 (FI ((L2.cH (top 29)).getD 2 (.Pass ⟨0,0,0,0⟩)))
def pz:List D->M D:=mU 2 (al 1)
@[irreducible] def mv:rF:=E1 2 (FI ((L2.cH (top 29)).getD 4 (.Pass ⟨0,0,0,0⟩)))
def qH:List D->M D:=mU 2 (cY (dF 1 [0] (ic (al 1)) (aO 0) cz (bu jh (ac (al 1) (ac (al 0) aH)))))
def pN:WT:=([],[(.lam lK,⟨1,1,pz⟩),(.lam mv,⟨1,2,qH⟩)])
def yG:CS:=(aK (bB (aO 3) (aw .non)) (aK (kC (ic (bu jA (ac (al 0) aH))) (aO 4) (aK (bB (aO 5) (m_ (c2 aQ (al 1) (aw (.int 0))) (bu jy (ac (al 0) (ac (al 4) aH))))) (aK (bB (aO 6) (bu jN (ac (c2 aQ (al 1) (aw (.int 1))) (ac (al 5) (ac (qw pN (al 2) (ac (al 4) aH)) aH))))) (aK (om (qK (dg (c2 lw (al 6) (aw .non))) (wB (dg (c2 va (al 3) (aw .non))) (dg (c2 zx (c1 ge (al 6)) (c1 ge (c2 aQ (al 3) (aw (.int 1)))))))) (aK (bB (aO 3) (bo (ac (al 4) (ac (al 6) aH)))) aY) aY) aY)))) (aK (dw (al 3)) aY)))
@[irreducible] def jf:List D->M D:=bJ 7 yG
def yp:CS:=(aK (bB (aO 2) (cY (dF 1 [0] (ic (bu jA (ac (al 0) aH))) (aO 0) cz (bu jy (ac (al 1) (ac (al 0) aH)))))) (aK (dw (bu jJ (ac (al 0) (ac (al 2) (ac (al 1) aH))))) aY))
@[irreducible] def jP:List D->M D:=bJ 3 yp
def yy:CS:=(aK (bB (aO 2) (cY (dF 1 [0] (ic (c2 aQ (al 1) (aw (.int 0)))) (aO 0) cz (bu ji (ac (al 1) (ac (al 0) aH)))))) (aK (bB (aO 3) (cY (dF 1 [] (ic (al 2)) (aO 0) cz (bu jp (ac (al 0) aH))))) (aK (bB (aO 4) (lY 0 "fault_of" "<lambda>" jf (.lam lK) [3] (ac (al 0) (ac (al 1) aH)))) (aK (om (dg (c2 lw (al 4) (aw .non))) (aK (dw (c2 c8 (bo (ac (aw (.str "unlike")) aH)) (al 4))) aY) aY) (aK (bB (aO 4) (lY 0 "fault_of" "<lambda>" jf (.lam mv) [2] (ac (al 0) (ac (al 1) aH)))) (aK (om (dg (c2 lw (al 4) (aw .non))) (aK (dw (c2 c8 (bo (ac (aw (.str "strange")) aH)) (al 4))) aY) aY) (aK (dw (aw .non)) aY)))))))
@[irreducible] def jE:List D->M D:=bJ 5 yy
def j1:CS:=(aK (dw (c2 va (bu jE (ac (al 0) (ac (al 1) aH))) (aw .non))) aY)
@[irreducible] def jG:List D->M D:=bJ 2 j1
def yE:CS:=(aK (dw (bu jG (ac (al 0) (ac (bu jP (ac (al 0) (ac (al 1) aH))) aH)))) aY)
@[irreducible] def jY:List D->M D:=bJ 2 yE
def yq:CS:=(aK (bB (aO 2) (bu jY (ac (al 0) (ac (aw (.int 1000)) aH)))) (aK (dw (tj (c1 (kj ["bool"]) (al 2)) (c2 on (al 2) (al 1)))) aY))
@[irreducible] def jQ:List D->M D:=bJ 3 yq
def yJ:CS:=(aK (bB (aO 1) (bu jH (ac (al 0) (ac (aw (.int 0)) aH)))) (aK (bB (aO 2) (cY (dF 1 [1] (MM.fm (aw (.int 2))) (aO 0) cz (bu jM (ac (al 1) aH))))) (aK (bB (aO 3) (cY (dF 1 [] (ic (al 2)) (aO 0) cz (c2 on (bu jg (ac (al 0) aH)) (cY (eV (ac (aw .non) (ac (aw .non) aH)))))))) (aK (kC (ic (bo (ac (aw (.int 0)) (ac (aw (.int 1)) (ac (aw (.int 0)) aH))))) (aO 4) (aK (om (sX (sD (bu jQ (ac (c2 aQ (al 2) (al 4)) (ac (c2 aQ (al 3) (al 4)) aH))))) (aK (dw (aw (.bl false))) aY) aY) aY)) (aK (dw (aw (.bl true))) aY)))))
@[irreducible] def j4:List D->M D:=bJ 5 yJ
open PySem.Spec PyProof.Rows L2
set_option genInjectivity false in
structure Txt(K:ag)(mg:Str->Option ab):Prop where
 f0:FnAt K mg "next_state" (top 4)
 f1:FnAt K mg "answer" (top 5)
 f2:FnAt K mg "inputs_of" (top 7)
 f3:FnAt K mg "begin" (top 9)
 f4:FnAt K mg "line_at" (top 10)
 f5:FnAt K mg "replaced" (top 12)
 f6:FnAt K mg "value_at" (top 14)
 f7:FnAt K mg "turns_to" (top 23)
 f8:FnAt K mg "is_unlike" (top 27)
 f9:FnAt K mg "is_strange" (top 28)
 f10:FnAt K mg "_law_deal" (top 32)
 f11:FnAt K mg "_law_draw" (top 33)
 f12:FnAt K mg "_law_plain" (top 34)
 f13:FnAt K mg "_law_table" (top 35)
 f14:FnAt K mg "_law_answers" (top 36)
 f15:FnAt K mg "_law_hand" (top 37)
 f16:FnAt K mg "_law_any_house" (top 38)
 f17:FnAt K mg "_law_pact_hand" (top 39)
 f18:FnAt K mg "_law_pact" (top 40)
 f19:FnAt K mg "_law_first_pact" (top 41)
 f20:FnAt K mg "_law_waiting" (top 42)
 f21:FnAt K mg "_law_yielding" (top 43)
 f22:FnAt K mg "_law_marred" (top 44)
 f23:FnAt K mg "_law_house" (top 45)
 f24:FnAt K mg "_law_line" (top 46)
 f25:FnAt K mg "_law_behind" (top 47)
 f26:FnAt K mg "_law_free" (top 48)
 f27:FnAt K mg "_law_values" (top 49)
 f28:FnAt K mg "_law_begin" (top 50)
 f29:FnAt K mg "_law_inputs" (top 51)
 f30:FnAt K mg "_law_from" (top 52)
 f31:FnAt K mg "_law_is_unlike" (top 54)
 f32:FnAt K mg "_law_is_strange" (top 55)
 f33:FnAt K mg "_law_wrongs" (top 56)
 f34:FnAt K mg "behind" (top 11)
 f35:FnAt K mg "settled" (top 13)
 f36:FnAt K mg "free" (top 15)
 f37:FnAt K mg "steps_from" (top 19)
 f38:FnAt K mg "least_way_on" (top 22)
 f39:FnAt K mg "graph_from" (top 18)
 f40:FnAt K mg "least_way" (top 21)
 f41:FnAt K mg "fewest" (top 30)
 f42:FnAt K mg "graph_of" (top 17)
 f43:wD K mg "fault_of" (top 29)
 f44:FnAt K mg "is_safe_graph" (top 26)
 f45:uP K mg "is_safe" (top 25)
 f46:FnAt K mg "_law_told" (top 57)
 f47:FnAt K mg "law" (top 58)
 z:vW mg ["any","bool","enumerate","int","isinstance","len","list","max","min","range","reversed","set","sorted","tuple","zip"]
 c:xz K mg []
section
variable{P:Program}{w:bD}{K:ag}{mg:Str->Option ab}{base:bw}
def Oo:uS:=sG .Lt zx (λ_=>Vt)
def Pm:uS:=sG .Gt CL (λ_=>UQ)
def LQ:uS:=sG .GtE G0 (λ_=>YJ)
def LM:uS:=sG .Eq on (λh=>X2 h)
def NG:uS:=sG .NotEq FG (λh=>RN h)
def Mj:uS:=sG .Is va (λ_=>Wl)
def Oy:uS:=sG .IsNot lw (λ_=>Qf)
def NN:uS:=sG .In Ei (λh=>UE h)
def LI:uS:=sG .NotIn oI (λh=>Sl h)
def RR:mP:=⟨[HZ,Kf,Dx,Bn,Ey,zB,MM.D6,JZ,vp,A_,Dg,FL,DR,AJ,zG,Ed,Jc,JS,A5,EB,FK,wT,zA,zp,yV,IY,xU,yP,Fq,CB .Add c8 (λ_=>T_),CB .Sub n0 (λ_=>VG),CB .Mult qG (λ_=>YQ),CB .FloorDiv tL (λ_=>Yr),CB .Mod pe (λ_=>UP),CB .Pow wU (λ_=>RP),Oo.e,Pm.e,LQ.e,LM.e,NG.e,Mj.e,Oy.e,NN.e,LI.e,Kc,HQ,Ej,Ft,Bk],[HL,ES,A4,BE,JB],[Oo.t,Pm.t,LQ.t,LM.t,NG.t,Mj.t,Oy.t,NN.t,LI.t,AZ,BV,UZ],[zC,BN,Bs true,DE,FQ],[Uu,EJ,Dy],[Iv,DF,JK,Dz,D_,x_,B3,zq,FY,Fg,DI,wA,vt]⟩
noncomputable abbrev hh:List (Nat×Nat×Nat):=[(25,53,7),(40,11,1),(40,41,1),(52,14,2),(55,13,5),(119,16,3),(201,37,14),(225,25,1),(226,35,1),(226,78,1),(227,32,1),(227,82,1),(262,74,7),(273,17,2),(304,27,14),(307,12,30),(307,44,30)]
noncomputable def MK:List (Str×RF):=[]
theorem Vo(T:Txt K mg)(c:BMod base mg):cg P w K mg base MK:=Q1
def OR:List (Str×RF):=qE "next_state" (top 4) 3 0 ju MK
theorem Wq(T:Txt K mg)(c:BMod base mg):cg P w K mg base OR:=lM RR hh 3 T.f0 (Vo T c) T.z T.c
def NS:List (Str×RF):=qE "answer" (top 5) 3 0 jV OR
theorem PV(T:Txt K mg)(c:BMod base mg):cg P w K mg base NS:=lM RR hh 3 T.f1 (Wq T c) T.z T.c
def Nq:List (Str×RF):=qE "inputs_of" (top 7) 1 0 jA NS
theorem V7(T:Txt K mg)(c:BMod base mg):cg P w K mg base Nq:=lM RR hh 1 T.f2 (PV T c) T.z T.c
def MR:List (Str×RF):=qE "begin" (top 9) 2 0 jy Nq
theorem Ql(T:Txt K mg)(c:BMod base mg):cg P w K mg base MR:=lM RR hh 2 T.f3 (V7 T c) T.z T.c
def Pa:List (Str×RF):=qE "line_at" (top 10) 3 0 jk MR
theorem RB(T:Txt K mg)(c:BMod base mg):cg P w K mg base Pa:=lM RR hh 3 T.f4 (Ql T c) T.z T.c
def M0:List (Str×RF):=qE "replaced" (top 12) 3 0 jn Pa
theorem WF(T:Txt K mg)(c:BMod base mg):cg P w K mg base M0:=lM RR hh 3 T.f5 (RB T c) T.z T.c
def NQ:List (Str×RF):=qE "value_at" (top 14) 1 0 jm M0
theorem Tu(T:Txt K mg)(c:BMod base mg):cg P w K mg base NQ:=lM RR hh 1 T.f6 (WF T c) T.z T.c
def LN:List (Str×RF):=qE "turns_to" (top 23) 2 0 jR NQ
theorem Ws(T:Txt K mg)(c:BMod base mg):cg P w K mg base LN:=lM RR hh 2 T.f7 (Tu T c) T.z T.c
def Mi:List (Str×RF):=qE "is_unlike" (top 27) 1 0 jp LN
theorem R7(T:Txt K mg)(c:BMod base mg):cg P w K mg base Mi:=lM RR hh 1 T.f8 (Ws T c) T.z T.c
def Dc:List (Str×RF):=qE "is_strange" (top 28) 2 0 jh Mi
theorem Jl(T:Txt K mg)(c:BMod base mg):cg P w K mg base Dc:=lM RR hh 2 T.f9 (R7 T c) T.z T.c
def BX:List (Str×RF):=("_law_deal",⟨2,1,["_law_script","_law_base"],false,jH⟩)::Dc
theorem IL(T:Txt K mg)(c:BMod base mg):cg P w K mg base BX:=by unfold BX jH;exact GG RR (r:=["_law_cells","_law_number","_law_cell"]) (H:=hh) T.f10 (by nofun) (λ_ _ _ _ _ _=>CN λ_ _=>rfl) nofun (by kernel_rfl) (Jl T c) T.z T.c
def Er:List (Str×RF):=qE "_law_draw" (top 33) 2 0 ja BX
theorem Jh(T:Txt K mg)(c:BMod base mg):cg P w K mg base Er:=lM RR hh 2 T.f11 (IL T c) T.z T.c
def Dl:List (Str×RF):=qE "_law_plain" (top 34) 1 0 jb Er
theorem Jb(T:Txt K mg)(c:BMod base mg):cg P w K mg base Dl:=lM RR hh 1 T.f12 (Jh T c) T.z T.c
def AO:List (Str×RF):=("_law_table",⟨1,2,["_law_deal_here"],false,jB⟩)::Dl
theorem Ks(T:Txt K mg)(c:BMod base mg):cg P w K mg base AO:=by unfold AO jB;exact GG RR (r:=["_law_way","_law_n","_law_many","_law_rows","_law_v"]) (H:=hh) T.f13 (by nofun) (λ_ _ _ _ _ _=>Bo λ_=>rfl) nofun (by kernel_rfl) (Jb T c) T.z T.c
def DP:List (Str×RF):=qE "_law_answers" (top 36) 2 0 jd AO
theorem Hy(T:Txt K mg)(c:BMod base mg):cg P w K mg base DP:=lM RR hh 2 T.f14 (Ks T c) T.z T.c
def E6:List (Str×RF):=qE "_law_hand" (top 37) 3 1 jO DP
theorem J3(T:Txt K mg)(c:BMod base mg):cg P w K mg base E6:=lM RR hh 3 T.f15 (Hy T c) T.z T.c
def DU:List (Str×RF):=qE "_law_any_house" (top 38) 1 2 jq E6
theorem HW(T:Txt K mg)(c:BMod base mg):cg P w K mg base DU:=lM RR hh 1 T.f16 (J3 T c) T.z T.c
def D9:List (Str×RF):=qE "_law_pact_hand" (top 39) 4 1 je DU
theorem IA(T:Txt K mg)(c:BMod base mg):cg P w K mg base D9:=lM RR hh 4 T.f17 (HW T c) T.z T.c
def Ew:List (Str×RF):=qE "_law_pact" (top 40) 1 2 jS D9
theorem Lo(T:Txt K mg)(c:BMod base mg):cg P w K mg base Ew:=lM RR hh 1 T.f18 (IA T c) T.z T.c
def Et:List (Str×RF):=qE "_law_first_pact" (top 41) 1 1 jo Ew
theorem JE(T:Txt K mg)(c:BMod base mg):cg P w K mg base Et:=lM RR hh 1 T.f19 (Lo T c) T.z T.c
def Fs:List (Str×RF):=qE "_law_waiting" (top 42) 1 1 jC Et
theorem Lw(T:Txt K mg)(c:BMod base mg):cg P w K mg base Fs:=lM RR hh 1 T.f20 (JE T c) T.z T.c
def Ev:List (Str×RF):=qE "_law_yielding" (top 43) 1 1 jw Fs
theorem Ll(T:Txt K mg)(c:BMod base mg):cg P w K mg base Ev:=lM RR hh 1 T.f21 (Lw T c) T.z T.c
def Fw:List (Str×RF):=qE "_law_marred" (top 44) 2 1 jt Ev
theorem HK(T:Txt K mg)(c:BMod base mg):cg P w K mg base Fw:=lM RR hh 2 T.f22 (Ll T c) T.z T.c
def Eg:List (Str×RF):=qE "_law_house" (top 45) 1 3 jM Fw
theorem Ki(T:Txt K mg)(c:BMod base mg):cg P w K mg base Eg:=lM RR hh 1 T.f23 (HK T c) T.z T.c
def E9:List (Str×RF):=qE "_law_line" (top 46) 3 0 jc Eg
theorem JL(T:Txt K mg)(c:BMod base mg):cg P w K mg base E9:=lM RR hh 3 T.f24 (Ki T c) T.z T.c
def EO:List (Str×RF):=qE "_law_behind" (top 47) 3 1 jv E9
theorem Kg(T:Txt K mg)(c:BMod base mg):cg P w K mg base EO:=lM RR hh 3 T.f25 (JL T c) T.z T.c
def Es:List (Str×RF):=qE "_law_free" (top 48) 2 1 jD EO
theorem Jm(T:Txt K mg)(c:BMod base mg):cg P w K mg base Es:=lM RR hh 2 T.f26 (Kg T c) T.z T.c
def Fe:List (Str×RF):=qE "_law_values" (top 49) 2 1 js Es
theorem Lj(T:Txt K mg)(c:BMod base mg):cg P w K mg base Fe:=lM RR hh 2 T.f27 (Jm T c) T.z T.c
def Du:List (Str×RF):=qE "_law_begin" (top 50) 2 0 jz Fe
theorem HA(T:Txt K mg)(c:BMod base mg):cg P w K mg base Du:=lM RR hh 2 T.f28 (Lj T c) T.z T.c
def C9:List (Str×RF):=qE "_law_inputs" (top 51) 1 0 jK Du
theorem JO(T:Txt K mg)(c:BMod base mg):cg P w K mg base C9:=lM RR hh 1 T.f29 (HA T c) T.z T.c
def FW:List (Str×RF):=qE "_law_from" (top 52) 2 2 jI C9
theorem JY(T:Txt K mg)(c:BMod base mg):cg P w K mg base FW:=lM RR hh 2 T.f30 (JO T c) T.z T.c
def Eo:List (Str×RF):=qE "_law_is_unlike" (top 54) 3 2 jr FW
theorem Iw(T:Txt K mg)(c:BMod base mg):cg P w K mg base Eo:=lM RR hh 3 T.f31 (JY T c) T.z T.c
def DW:List (Str×RF):=qE "_law_is_strange" (top 55) 3 2 jl Eo
theorem Ku(T:Txt K mg)(c:BMod base mg):cg P w K mg base DW:=lM RR hh 3 T.f32 (Iw T c) T.z T.c
def B4:List (Str×RF):=("_law_wrongs",⟨1,4,["_law_house_here"],false,jg⟩)::DW
theorem Ij(T:Txt K mg)(c:BMod base mg):cg P w K mg base B4:=by unfold B4 jg;exact GG RR (r:=["_law_order","_law_ways","_law_unlike","_law_strange","_law_v","_law_inputs_here"]) (H:=hh) T.f33 (by nofun) (λ_ _ _ _ _ _=>Bo λ_=>rfl) nofun (by kernel_rfl) (Ku T c) T.z T.c
def EY:List (Str×RF):=qE "behind" (top 11) 3 1 jL B4
theorem KL(T:Txt K mg)(c:BMod base mg):cg P w K mg base EY:=lM RR hh 3 T.f34 (Ij T c) T.z T.c
def Dn:List (Str×RF):=qE "settled" (top 13) 2 1 ji EY
theorem IX(T:Txt K mg)(c:BMod base mg):cg P w K mg base Dn:=lM RR hh 2 T.f35 (KL T c) T.z T.c
def FN:List (Str×RF):=qE "free" (top 15) 2 2 yf Dn
theorem La(T:Txt K mg)(c:BMod base mg):cg P w K mg base FN:=lM RR hh 2 T.f36 (IX T c) T.z T.c
def FZ:List (Str×RF):=qE "steps_from" (top 19) 4 3 jF FN
theorem Lf(T:Txt K mg)(c:BMod base mg):cg P w K mg base FZ:=lM RR hh 4 T.f37 (La T c) T.z T.c
def DB:List (Str×RF):=qE "least_way_on" (top 22) 3 1 jx FZ
theorem Ju(T:Txt K mg)(c:BMod base mg):cg P w K mg base DB:=lM RR hh 3 T.f38 (Lf T c) T.z T.c
def FH:List (Str×RF):=qE "graph_from" (top 18) 3 4 jJ DB
theorem Kw(T:Txt K mg)(c:BMod base mg):cg P w K mg base FH:=lM RR hh 3 T.f39 (Ju T c) T.z T.c
def EZ:List (Str×RF):=qE "least_way" (top 21) 3 2 jN FH
theorem BH(T:Txt K mg)(c:BMod base mg):cg P w K mg base EZ:=lM RR hh 3 T.f40 (Kw T c) T.z T.c
theorem Xm(T:Txt K mg)(c:BMod base mg):qF P w K mg base 1 1 (.lam lK) pz:=by unfold pz;exact Ml RR (r:=[]) (nm:=["inputs"]) (fr:=["unlike"]) (k:=0) (H:=hh) (by kernel_rfl) (by kernel_rfl) (by kernel_rfl) (λ_ _ _ _ _=>Bo λ_=>by kernel_rfl) (by kernel_rfl) (BH T c) T.z T.c G8
theorem P4(T:Txt K mg)(c:BMod base mg):qF P w K mg base 2 1 (.lam mv) qH:=by unfold qH;exact Ml RR (r:=[]) (nm:=["inputs"]) (fr:=["told"]) (k:=1) (H:=hh) (by kernel_rfl) (by kernel_rfl) (by kernel_rfl) (λ_ _ _ _ _=>Bo λ_=>by kernel_rfl) (by kernel_rfl) (BH T c) T.z T.c G8
theorem Kz(T:Txt K mg)(c:BMod base mg):Ae P w K mg base pN:=(Mx (Xm T c) (Mx (P4 T c) G8))
def Bw:List (Str×RF):=("fewest",⟨3,4,["house","graph","goals_by"],false,jf⟩)::EZ
theorem Lv(T:Txt K mg)(c:BMod base mg):cg P w K mg base Bw:=by unfold Bw jf;exact YV RR (r:=["best","inputs","start","turns"]) (W:=pN) (H:=hh) T.f41 (by nofun) (λ_ _ _ _ _ _=>G1 λ_ _ _=>rfl) (by kernel_rfl) (BH T c) T.z T.c (Kz T c)
def EE:List (Str×RF):=qE "graph_of" (top 17) 2 5 jP Bw
theorem Lq(T:Txt K mg)(c:BMod base mg):cg P w K mg base EE:=lM RR hh 2 T.f42 (Lv T c) T.z T.c
def Bl:List (Str×RF):=("fault_of",⟨2,5,["house","graph"],false,jE⟩)::EE
theorem IU(T:Txt K mg)(c:BMod base mg):cg P w K mg base Bl:=by unfold Bl jE;exact RD RR (r:=["told","unlike","way"]) (j:=0) (H:=hh) T.f43 (by nofun) (λ_ _ _ _ _ _=>CN λ_ _=>rfl) (by kernel_rfl) (Lq T c) T.z T.c c
def FO:List (Str×RF):=qE "is_safe_graph" (top 26) 2 5 jG Bl
theorem Ht(T:Txt K mg)(c:BMod base mg):cg P w K mg base FO:=lM RR hh 2 T.f44 (IU T c) T.z T.c
def FD:List (Str×RF):=qD "is_safe" (top 25) 2 6 jY FO
theorem K1(T:Txt K mg)(c:BMod base mg):cg P w K mg base FD:=TH RR hh 2 T.f45 (Ht T c) T.z T.c
def Kh:List (Str×RF):=qE "_law_told" (top 57) 2 7 jQ FD
theorem H_(T:Txt K mg)(c:BMod base mg):cg P w K mg base Kh:=lM RR hh 2 T.f46 (K1 T c) T.z T.c
theorem yK{a:ak}{c:cV}(F:xE K "law" "law" (top 58) a c)(T:Txt K mg)(g:BMod base mg):mC P w K mg base rQ 9 a c ["_law_script"] (mT K 1 j4):=by unfold j4;exact ML RR (r:=["_law_deal_here","_law_houses","_law_dues","_law_k"]) (H:=hh) F (by nofun) (by kernel_rfl) (H_ T g) T.z T.c rfl rfl
end
end My
namespace My
open MM
open PySem (Str)
theorem kc{s:aX}{n:Nat}{o:MO}(h:s[n]?=some o):n < s.length:=(ae.mp h).1
noncomputable def fG(x c:Int)(q:Nat):List (D×D):=[(.str "seed",.int x),(.str "number",.int c),(.str "left",.ref q)]
section
variable{x c y:Int}{q:Nat}
theorem Oa:kJ (fG x c q) (.str "seed")=some (.int x):=by simp[kJ,fG,gH]
theorem SJ:kJ (fG x c q) (.str "number")=some (.int c):=by
 have h:¬ (("seed":Str)="number"):=by decide
 simp[kJ,fG,gH,h]
theorem QY:kJ (fG x c q) (.str "left")=some (.ref q):=by
 have h:¬ (("seed":Str)="left"):=by decide
 have g:¬ (("number":Str)="left"):=by decide
 simp[kJ,fG,gH,h,g]
theorem Wm:ke (fG x c q) (.str "seed") (.int y)=fG y c q:=by
 have h:¬ (("number":Str)="seed"):=by decide
 have g:¬ (("left":Str)="seed"):=by decide
 simp[ke,fG,gH,h,g]
theorem N7:ke (fG x c q) (.str "number") (.int y)=fG x y q:=by
 have h:¬ (("seed":Str)="number"):=by decide
 have g:¬ (("left":Str)="number"):=by decide
 simp[ke,fG,gH,h,g]
theorem Xl:yT [] [(.str "seed",.int x),(.str "number",.int c),(.str "left",.ref q)]=fG x c q:=by
 have h:¬ (("seed":Str)="number"):=by decide
 have l:¬ (("seed":Str)="left"):=by decide
 have g:¬ (("number":Str)="left"):=by decide
 simp[yT,ke,fG,gH,h,l,g]
theorem JD:(fG x c q).length < dN:=rl (by simp[fG])
end
structure i_(s:aX)(p q:Nat):Prop where
 ne:p≠q
 ex:∃(x c:Int)(cs:List D),s[p]?=some (.dct false (fG x c q))/\s[q]?=some (.lst cs)/\0<=x/\x < 2147483648/\∀d∈cs,∃i:Int,d=.int i
structure Kept(p q:Nat)(s s':aX):Prop where
 le:s.length<=s'.length
 at_:∀n,n < s.length->n≠p->n≠q->s'[n]?=s[n]?
section
variable{p q:Nat}{s s1 s2:aX}{Q:D->aX->Prop}
theorem Kept.refl:Kept p q s s:=⟨ax _,λ_ _ _ _=>rfl⟩
theorem Kept.trans(h:Kept p q s s1)(k:Kept p q s1 s2):Kept p q s s2:=⟨cF h.le k.le,λn l g c=>(k.at_ n (aZ l h.le) g c).trans (h.at_ n l g c)⟩
theorem Kept.same{n:Nat}{o:MO}(h:Kept p q s s1)(l:n≠p)(c:n≠q)(g:s[n]?=some o):s1[n]?=some o:=(h.at_ n (kc g) l c).trans g
theorem Kept.snoc{o:MO}(h:Kept p q s s1):Kept p q s (s1++[o]):=h.trans ⟨by simp,λn c _ _=>ar c⟩
theorem Kept.put{n:Nat}{o:MO}(h:Kept p q s s1)(u:s.length<=n):Kept p q s (s1.set n o):=
 ⟨by simp;exact h.le,λm l g c=>by rw[au (by ext)];exact h.at_ m l g c⟩
theorem i_.lt(h:i_ s p q):p < s.length/\q < s.length:=by obtain⟨x,c,g,a,b,_⟩:=h.ex;exact⟨kc a,kc b⟩
theorem i_.snoc{o:MO}(h:i_ s p q):i_ (s++[o]) p q:=by obtain⟨x,c,g,a,b,r⟩:=h.ex;exact⟨h.ne,x,c,g,by rw[ar (kc a)];exact a,by rw[ar (kc b)];exact b,r⟩
theorem i_.put{n:Nat}{o:MO}(h:i_ s p q)(l:n≠p)(g:n≠q):i_ (s.set n o) p q:=by obtain⟨x,c,u,a,b,r⟩:=h.ex;exact⟨h.ne,x,c,u,by rw[au l];exact a,by rw[au g];exact b,r⟩
theorem T0{k:Int}(hp:i_ s p q)(hk:0 < k)(hk2:k < 1073741824)(h:∀r g,0<=r->r < k->i_ g p q->Kept p q s g->Q (.int r) g):wp (ja [.dic p,.int k]) Q s:=by
 obtain⟨x,c,u,H,O,hx0,hx1,E⟩:=hp.ex;have J:=hp.ne
 (simp![ja];simp![yr])
 refine Jn (λl g=>l=[some (.dic p),some (.int k),none,none,none]/\∃c u,g[p]?=some (.dct false (fG x c q))/\g[q]?=some (.lst u)/\(∀d∈u,∃i:Int,d=.int i)/\Kept p q s g)
  (λl g=>match g[q]? with
   |some (.lst u)=>u.length
   |_=>0) ⟨rfl,c,u,H,O,E,Kept.refl⟩ (λl g hZ0=>?_)
 obtain⟨el,c,u,H,O,E,L⟩:=hZ0;subst el;have gs:∀Q,wp (itemK p (.str "seed")) Q g=Q (.int x) g:=λQ=>zD H rfl Oa;have gn:∀Q,wp (itemK p (.str "number")) Q g=Q (.int c) g:=λQ=>zD H rfl SJ;have gl:∀Q,wp (itemK p (.str "left")) Q g=Q (.ref q) g:=λQ=>zD H rfl QY;have g2:∀Q,wp (getL q) Q g=Q u g:=λQ=>fU O;simp![↓gn,↓gl,↓g2];by_cases hc:c=0/\0 < u.length
 ·obtain⟨h,c⟩:=hc;subst h;rw[aJ rfl,aJ (by ext)];obtain⟨d,hd⟩:∃d,u.getLast?=some d:=⟨_,List.getLast?_eq_some_getLast (by intro e;rw[e]at c;simp at c)⟩
  obtain⟨i,U⟩:=E d (List.mem_of_getLast? hd);subst U;have G:∀l Q,wp (putL q l) Q g=Q () (g.set q (.lst l)):=λl Q=>rh O;have B:(g.set q (.lst u.dropLast))[p]?=some (.dct false (fG x 0 q)):=by rw[au (eM J)];exact H
  have e4:(g.set q (.lst u.dropLast))[q]?=some (.lst u.dropLast):=aE (kc O);have q3:∀v Q,wp (storeK p (.str "number") v) Q (g.set q (.lst u.dropLast))=Q () ((g.set q (.lst u.dropLast)).set p (.dct false (ke (fG x 0 q) (.str "number") v))):=λv Q=>Br B rfl JD;simp![↓gl,↓g2,hd,↓G,↓q3,N7];have Y:((g.set q (.lst u.dropLast)).set p (.dct false (fG x i q)))[p]?=some (.dct false (fG x i q)):=aE (kc B);have o:((g.set q (.lst u.dropLast)).set p (.dct false (fG x i q)))[q]?=some (.lst u.dropLast):=by rw[au J];exact e4
  refine⟨⟨i,u.dropLast,Y,o,λd hd=>E d (List.dropLast_subset _ hd),⟨by simp;exact L.le,λn hn C I=>?_⟩⟩,?_⟩
  ·rw[au (eM C),au (eM I)];exact L.at_ n hn C I
  ·rw[o,O];simp only[uW];ext
 ·have fin : ∀(A B : Prop), (if c = 0 then (if 0 < (u.length : Int) then A else B) else B) = B := λA B => by
    by_cases h1:c=0
    ·rw[aJ h1,aG (by ext)]
    ·rw[aG h1]
  rw[fin];have q3:∀v Q,wp (storeK p (.str "number") v) Q g=Q () (g.set p (.dct false (ke (fG x c q) (.str "number") v))):=λv Q=>Br H rfl JD;have q4:∀v Q,wp (storeK p (.str "seed") v) Q g=Q () (g.set p (.dct false (ke (fG x c q) (.str "seed") v))):=λv Q=>Br H rfl JD;have kp:∀o,Kept p q s (g.set p o):=λo=>⟨by simp;exact L.le,λn hn C I=>by rw[au (eM C)];exact L.at_ n hn C I⟩
  have pt:∀(G c':Int),0<=G->G < 2147483648->i_ (g.set p (.dct false (fG G c' q))) p q:=λG c' h0 h1=>⟨J,G,c',u,aE (kc H),by rw[au J];exact O,h0,h1,E⟩
  have g5:∀G Q,wp (itemK p (.str "seed")) Q (g.set p (.dct false (fG G c q)))=Q (.int G) (g.set p (.dct false (fG G c q))):=λG Q=>zD (aE (kc H)) rfl Oa;have l:∀a b:Int,0<=b->b < 10000000000->qA a b:=λa b h1 h2=>.inr ⟨by ext,by ext⟩;by_cases h0:0 < c
  ·rw[aJ h0];simp![↓q3,N7];exact⟨⟨hk,hk2⟩,hk,h _ _ (iF _ (by ext)) (gz _ hk) (pt _ _ hx0 hx1) (kp _)⟩
  ·rw[aG h0];simp only[↓rX,↓uM,↓vg,↓i8,↓sZ,↓uQ,↓gs,↓Ai,↓Af,↓zY,word_snoc];refine⟨l _ _ (by ext) (by ext),by ext,?_⟩;have Y:=iF (x*48271+7919) (show (2147483647:Int)≠0 by ext);have U:=gz (x*48271+7919) (show (0:Int) < 2147483647 by ext);generalize (x*48271+7919) % 2147483647=one at Y U ⊢;have c:=iF (one*40692+104729) (show (2147483399:Int)≠0 by ext);have g:=gz (one*40692+104729) (show (0:Int) < 2147483399 by ext);simp![↓q4,Wm,↓g5];refine⟨l _ _ (by ext) (by ext),?_⟩;generalize (one*40692+104729) % 2147483399=y at c g ⊢;refine⟨l _ _ (by ext) (by ext),l _ _ (by ext) (by ext),l _ _ (by ext) (by ext),hk,h _ _ (iF _ (by ext)) (gz _ hk) (pt _ _ c (by ext)) (kp _)⟩
theorem SH{ns:List Int}(h:∀p q c,i_ c p q->s.length<=p->s.length<=q->Kept p q s c->Q (.dic p) c):wp (jH [.lit (ns.map D.int),.int 0]) Q s:=by
 have l0:0<=dN:=bn _;have m2:∀a b:Int,0<=b->b < 10000000000->qA a b:=λa b h1 h2=>.inr ⟨by ext,by ext⟩;have I:∀Q s,wp (wU (.int 10) (.int 18)) Q s=Q (.int 1000000000000000000) s:=λQ s=>by unfold wU sj;rw[dQ,cj];exact propext ⟨λh=>h.2,λh=>⟨by decide,h⟩⟩
 generalize (1000000000000000000:Int)=big at I
 (simp![jH];simp![yB,fZ])
 have C:∀d∈cutD (ns.map D.int) (some 0) (some 63),∃i:Int,d=.int i:=λd hd=>by unfold cutD at hd;obtain⟨i,_,e⟩:=bR.mp (List.mem_of_mem_drop (nS hd));exact⟨i,e.symm⟩
 have E:(cutD (ns.map D.int) (some 0) (some 63)).length<=63:=by unfold cutD gB;simp;ext
 generalize cutD (ns.map D.int) (some 0) (some 63)=cells at C E;refine⟨fA (by ext),?_⟩;refine LU (λd=>∃i:Int,d=.int i) (λl=>l.length=1) (λd=>∃i:Int,d=.int i) (λc=>s=c) (λ_ _=>trivial) rfl rfl C (λd l c u J B=>?_) λout c U hP B=>?_
 ·obtain⟨i,c⟩:=u;subst c;subst B
  match l,J with
  |[H],_=>simp![];exact⟨_,rfl⟩
 ·subst B;have g:∀Q:List D->aX->Prop,wp (getL s.length) Q (s++[.lst out])=Q out (s++[.lst out]):=λQ=>fU (by simp);simp![↓g]
  skip
  refine Hc (λi l c=>∃x G,l=[some (.lit (ns.map D.int)),some (.int 0),some (.ref s.length),some (.int x),G]/\0<=x/\x < 2147483648/\c=s++[.lst out]) (λi l c ⟨_,_,_,_,_,e⟩=>by subst e;show (s++[MO.lst out])[s.length]?=some (.lst out);simp) ⟨_,_,rfl,?_,?_,rfl⟩ (λi d l c hd u=>?_) (λl c u=>?_)
  ·ext
  ·ext
  ·obtain⟨x,G,el,H,O,B⟩:=u;subst el B;obtain⟨v,L⟩:=hP d (av hd);subst L;simp![];exact⟨m2 _ _ (by ext) (by ext),_,_,rfl,iF _ (by ext),Int.lt_trans (gz _ (by ext)) (by ext)⟩
  ·obtain⟨x,G,el,H,O,B⟩:=u;subst el B;simp![↓g,↓I,fZ];refine⟨fA (by ext),?_⟩;refine Yh (λd=>∃i:Int,d=.int i) (λl=>l.length=1) (λd=>∃i:Int,d=.int i) (λc=>s++[.lst out]=c) (λc B=>by subst B;show (s++[MO.lst out])[s.length]?=some (.lst out);simp) rfl rfl hP (λd l c u J B=>?_) λo c q U B=>?_
   ·obtain⟨v,L⟩:=u;subst L;subst B
    match l,J with
    |[z],_=>
     simp![↓I];by_cases Y:big<=v
     ·rw[aJ Y];exact⟨_,rfl⟩
     ·rw[aG Y];trivial
   ·subst B;simp![v4,List.zip_nil_right,Xl];refine h _ _ _ ⟨by simp,x,0,o.reverse,ko,mD ko,H,O,λd hd=>U d (List.mem_reverse.mp hd)⟩ (by simp<;>ext) (by simp) ((Kept.refl.snoc).snoc.snoc)
end
open PySem (Str)
noncomputable def zw(S:Nat)(d:D):Prop:=∃a b:Int,d=.tup [.int a,.int b]/\0<=a/\a < S/\0<=b/\b < 4
def tM(S n:Nat)(d:D):Prop:=∃ps,d=.tup ps/\ps.length=n/\∀p∈ps,zw S p
def Aj(d:D):Prop:=∃(S n:Nat)(rows:List D),d=.tup rows/\rows.length=S/\1<=S/\S<=4/\1<=n/\n<=4/\∀r∈rows,tM S n r
def fK(S c:Nat)(nx un:Nat->Nat->Nat):D:=.tup (cf S λs=>.tup (cf c λd=>.tup [.int (nx s d:Nat),.int (un s d:Nat)]))
noncomputable def nK(S c:Nat)(nx un:Nat->Nat->Nat):Prop:=1<=S/\S<=4/\1<=c/\c<=4/\∀s d,s < S->d < c->nx s d < S/\un s d < 4
theorem S5{t:D}(h:Aj t):∃S c nx un,t=fK S c nx un/\nK S c nx un:=by
 obtain⟨S,c,rows,Y,Q,I,H,G,E,L⟩:=h;have key:∀s:Nat,∃p:Nat->Nat×Nat,s < S->rows[s]?=some (.tup (cf c λd=>.tup [.int ((p d).1:Nat),.int ((p d).2:Nat)]))/\∀d,d < c->(p d).1 < S/\(p d).2 < 4:=by
  intro s;by_cases l:s < S
  ·have o:s < rows.length:=by ext
   obtain⟨ds,e,C,O⟩:=L rows[s] (b8 o);have B:∀d:Nat,∃p:Nat×Nat,d < c->ds[d]?=some (.tup [.int (p.1:Nat),.int (p.2:Nat)])/\p.1 < S/\p.2 < 4:=by
    intro d;by_cases hd:d < c
    ·have q:d < ds.length:=by ext
     obtain⟨g,u,l,U,G,J,E⟩:=O ds[d] (b8 q);refine⟨(g.toNat,u.toNat),λ_=>⟨?_,by show g.toNat < S;ext,by show u.toNat < 4;ext⟩⟩;rw[aj q,l,k8 U,k8 J]
    ·exact⟨(0,0),λh=>(hd h).elim⟩
   refine⟨λd=>ff (B d),λ_=>⟨?_,λd hd=>(gi (B d) hd).2⟩⟩;rw[aj o,e];congr 2;exact Dq C λd hd=>(gi (B d) hd).1
  ·exact⟨λ_=>(0,0),λh=>(l h).elim⟩
 refine⟨S,c,λs d=>(ff (key s) d).1,λs d=>(ff (key s) d).2,?_,I,H,G,E,λs d l hd=>(gi (key s) l).2 d hd⟩;rw[Y];unfold fK;congr 1;exact Dq Q λs l=>(gi (key s) l).1
section
variable{p q:Nat}{s s1 s2:aX}{Q:D->aX->Prop}
noncomputable def PK(p q:Nat)(s c:aX):Prop:=i_ c p q/\Kept p q s c
theorem PK.refl(h:i_ s p q):PK p q s s:=⟨h,Kept.refl⟩
theorem o5{k:Int}(u:PK p q s s1)(E:0 < k)(l:k < 1073741824)(h:∀r c,0<=r->r < k->PK p q s c->Kept p q s1 c->Q (.int r) c):wp (ja [.dic p,.int k]) Q s1:=
 T0 u.1 E l λr c C B g o=>h r c C B ⟨g,u.2.trans o⟩ o
theorem PK.snoc{o:MO}(h:PK p q s s1):PK p q s (s1++[o]):=⟨h.1.snoc,h.2.snoc⟩
theorem PK.put{n:Nat}{o:MO}(h:PK p q s s1)(l:s.length<=n)(g:n≠p)(c:n≠q):PK p q s (s1.set n o):=⟨h.1.put g c,h.2.put l⟩
end
open PySem (Str)
noncomputable def xr(s d:Nat):Nat:=match d with
 |0=>s
 |d+1=>d
noncomputable def xD(s d:Nat):Nat:=match d with
 |0=>s
 |_+1=>0
theorem M5{n:Nat}(g:1<=n)(h:n<=3):nK n (n+1) xr xD:=⟨g,by ext,by ext,by ext,λs d c hd=>by
 cases d with
 |zero=>exact⟨c,by show s < 4;ext⟩
 |succ d=>exact⟨by show d < n;ext,by show 0 < 4;ext⟩⟩
theorem Ia{t:D}(h:Aj t)(g:∀rows,t=.tup rows->rows.length<=3):∃S c nx un,t=fK S c nx un/\nK S c nx un/\S<=3:=by obtain⟨S,c,nx,un,e,ok⟩:=S5 h;have:=g _ e;rw[qW]at this;exact⟨S,c,nx,un,e,ok,this⟩
section
variable{p q:Nat}{s s1 s2:aX}{Q:D->aX->Prop}
theorem tx{r:Int}(h:0<=r):∃n:Nat,r=n:=⟨r.toNat,(k8 h).symm⟩
theorem rb{n:Nat}(h:n<=100):(-(2^62)<=(n:Int)/\(n:Int) < 2^62)=True:=eq_true (by ext)
theorem G6{n:Nat}(C:n<=3):wp (jb [.int n]) Q s=Q (fK n (n+1) xr xD) s:=by
 have B:1<=dN:=fA (by ext);have h:2<=dN:=fA (by ext);have g:n<=dN:=fA (by ext);have c:1+n<=dN:=fA (by ext);have l:=rb (show n<=100 by ext);have w:∀A,wp (collect (aO 0) cz (c2 c8 (bo (ac (bo (ac (al 0) (ac (al 0) aH))) aH)) (iQ lI (dF 1 [] (MM.fm (al 1)) (aO 0) cz (bo (ac (al 0) (ac (aw (.int 0)) aH)))))) eU (cf n λi=>.int i) [none,some (.int n)]) A s=A (cf n λv=>.tup (cf (n+1) λd=>.tup [.int (xr v d:Nat),.int (xD v d:Nat)])) s:=λA=>by
  refine Al vq λv hv Q=>?_;have o:∀A s,wp (collect (aO 0) cz (bo (ac (al 0) (ac (aw (.int 0)) aH))) eU (cf n λi=>.int i) [none]) A s=A (cf n λu=>.tup [.int (u:Nat),.int 0]) s:=λA s=>Al vq λu hu Q=>by simp![h]
  simp![B,h,fZ,l,bc,zZ,qW,g,↓o];have e:(D.tup [D.int (v:Nat),D.int (v:Nat)]::cf n λu=>D.tup [.int (u:Nat),.int 0])=cf (n+1) λd=>D.tup [.int (xr v d:Nat),.int (xD v d:Nat)]:=by rw[YY];congr 1;funext d;cases d<;>rfl
  rw[e];exact propext ⟨λz=>z.2,λz=>⟨c,z⟩⟩
 (simp![jb];simp![yi,fZ,l,bc,zZ,qW,g,↓w])
 rfl
theorem Xy(hp:PK p q s s1)(h:∀S dn nx un o,nK S dn nx un->S<=3->PK p q s o->Kept p q s1 o->Q (fK S dn nx un) o):wp (jB [.dic p]) Q s1:=by
 have l1:1<=dN:=fA (by ext);have l2:2<=dN:=fA (by ext);have l3:3<=dN:=fA (by ext);have go:∀{rows S n o},rows.length=S->1<=S->S<=3->1<=n->n<=4->(∀r∈rows,tM S n r)->PK p q s o->Kept p q s1 o->Q (.tup rows) o:=λ{rows S n o}e a b c d I k w=>by
  obtain⟨S',dn,nx,un,e',ok,h3⟩:=Ia (t:=.tup rows) ⟨S,n,rows,rfl,e,a,by ext,c,d,I⟩ λr er=>by cases er;ext
  rw[e'];exact h _ _ _ _ _ ok h3 k w
 (simp![jB];simp![yk])
 refine o5 hp (by ext) (by ext) λB t1 a0 a1 h1 w1=>?_;simp![];refine o5 h1 (by ext) (by ext) λY t2 b0 b1 h2 w2=>?_;obtain⟨Y,rfl⟩:=tx b0;have e2:(2+(Y:Int))=((2+Y:Nat):Int):=by ext
 simp![e2];have m1:2<=2+Y/\2+Y<=3:=by ext
 generalize 2+Y=n at m1;have C:=w1.trans w2;have hb:=rb (show n<=100 by ext);have ln:n<=dN:=fA (by ext);by_cases c1:B < 2
 ·simp![aJ c1];rw[G6 m1.2];simp![];exact h _ _ _ _ _ (M5 (by ext) m1.2) m1.2 h2 C
 simp![aG c1];by_cases c2:B=2
 ·simp![aJ c2,fZ,hb,bc,rS,ln];refine xY (yY n) (tM n n) (λo=>t2=o) (λ_ _=>trivial) rfl Ac (λd o u H=>?_) (λrows o G L H=>?_)
  ·obtain⟨i,hi,e⟩:=u;subst e H;simp![fZ,hb,bc,rS,ln];refine xY (yY n) (zw n) (λo=>t2=o) (λ_ _=>trivial) rfl Ac (λd o u H=>?_) (λps o G L H=>?_)
   ·obtain⟨j,c,e⟩:=u;subst e H;simp![l2];exact⟨j,i,rfl,by ext,by ext,by ext,by ext⟩
   ·subst H;rw[rS]at G;simp![];exact⟨ps,rfl,G,L⟩
  ·subst H;rw[rS]at G;simp![];exact go G (by ext) m1.2 (by ext) (by ext) L h2 C
 simp![aG c2];by_cases c3:B=3
 ·simp![aJ c3,fZ,hb,bc,rS,ln];refine xY (yY n) (tM n 1) (λo=>t2=o) (λ_ _=>trivial) rfl Ac (λd o u H=>?_) (λrows o G L H=>?_)
  ·obtain⟨i,hi,e⟩:=u;subst e H;simp![l2,l1];refine⟨by ext,_,rfl,rfl,λx hx=>?_⟩;exact⟨_,_,aC.mp hx,iF _ (by ext),gz _ (by ext),by ext,by ext⟩
  ·subst H;rw[rS]at G;simp![];exact go G (by ext) m1.2 (by ext) (by ext) L h2 C
 simp![aG c3];by_cases c4:B=4
 ·simp![aJ c4,l2,l3];refine go (S:=3) (n:=2) rfl (by ext) (by ext) (by ext) (by ext) (λr I=>?_) h2 C;simp only[aI,bI,or_false]at I;rcases I with rfl|rfl|rfl<;>refine⟨_,rfl,rfl,λx hx=>?_⟩<;>simp only[aI,bI,or_false,or_self]at hx
  ·rcases hx with rfl|rfl
   ·exact⟨1,1,rfl,by ext,by ext,by ext,by ext⟩
   ·exact⟨2,2,rfl,by ext,by ext,by ext,by ext⟩
  ·subst hx;exact⟨1,1,rfl,by ext,by ext,by ext,by ext⟩
  ·subst hx;exact⟨2,2,rfl,by ext,by ext,by ext,by ext⟩
 simp![aG c4];clear e2 hb ln;refine o5 h2 (by ext) (by ext) λU t3 c0 c1 h3 w3=>?_;obtain⟨U,rfl⟩:=tx c0;simp![];refine o5 h3 (by ext) (by ext) λO t4 d0 d1 h4 w4=>?_;obtain⟨O,rfl⟩:=tx d0;have e3:(1+(U:Int))=((1+U:Nat):Int):=by ext
 have e4:(1+(O:Int))=((1+O:Nat):Int):=by ext
 simp![e3,e4,bn];have m3:1<=1+U/\1+U<=3:=by ext
 have m4:1<=1+O/\1+O<=3:=by ext
 generalize 1+U=m at m3;generalize 1+O=k at m4;have hm:=rb (show m<=100 by ext);have hk':=rb (show k<=100 by ext);have lk:k<=dN:=fA (by ext);have w14:=(C.trans w3).trans w4;simp![hm,bc];have pl:=h4.1.lt;have l4:=w14.le;have l5:=hp.2.le;refine tZ (λi l o=>∃rows y5,l=[some (.dic p),some (.int B),some (.int m),some (.int k),some (.ref t4.length),y5]/\o[t4.length]?=some (.lst rows)/\rows.length=i/\(∀r∈rows,tM m k r)/\PK p q s o/\Kept p q s1 o) (λ_ _ _ _=>trivial) ⟨[],none,rfl,by simp,rfl,λr I=>ba I (by simp),h4.snoc,w14.snoc⟩ (λRw i d l o up rt hd hW=>?_) (λl o hW=>?_)
 ·obtain⟨rows,y5,el,g,hl,I,J,w⟩:=hW;subst el;have hi:=(ae.mp hd).1;rw[rS]at hi;simp![fZ,hk',bc,rS,lk];refine xY (yY k) (zw m) (λo=>o[t4.length]?=some (.lst rows)/\PK p q s o/\Kept p q s1 o) (λ_ _=>trivial) ⟨g,J,w⟩ Ac (λd o _ u=>?_) (λout o G L u=>?_)
  ·obtain⟨g,J,w⟩:=u;simp![l2];refine o5 J (by ext) (by ext) λa s2 a0 a1 h w2=>?_;simp![];refine o5 h (by ext) (by ext) λb l b0 b1 c w3=>?_;simp![l2];exact⟨⟨a,b,rfl,a0,a1,b0,by ext⟩,w3.same (by ext) (by ext) (w2.same (by ext) (by ext) g),c,(w.trans w2).trans w3⟩
  ·obtain⟨g,J,w⟩:=u;rw[rS]at G;simp![↓fU g,↓rh g];refine⟨rl (by ext),up ⟨_,_,rfl,aE (kc g),by simp[hl],λr E=>?_,J.put (by ext) (by ext) (by ext),w.put (by ext)⟩⟩;rcases aU.mp E with E|E
   ·exact I r E
   ·exact⟨out,aC.mp E,G,L⟩
 ·obtain⟨rows,y5,el,g,hl,I,J,w⟩:=hW;subst el;simp![↓fU g];rw[rS]at hl;exact go hl m3.1 m3.2 m4.1 (by ext) I J w
end
open PySem (Str)
structure Bd where
 S:Nat
 dn:Nat
 nx:Nat->Nat->Nat
 un:Nat->Nat->Nat
 st:Nat
inductive Ln where
 |settle (v:Nat)
 |act (b d:Nat) (gs:List Nat)
structure Hd where
 b0:Nat
 b1:Nat
 lines:List Ln
structure Hs where
 boards:List Bd
 hands:List Hd
structure Sd where
 ls:List Nat
 ss:List Nat
 deriving DecidableEq
noncomputable def bC(n:Nat):D:=.int (n:Int)
def tY(b:Bd):D:=.tup [fK b.S b.dn b.nx b.un,bC b.st]
def ij:Ln->D
 | .settle v=>.tup [.str "settle",bC v]
 | .act b d gs=>.tup [.str "do",bC b,bC d,.tup (gs.map bC)]
def ny(h:Hd):D:=.tup [.tup [bC h.b0,bC h.b1],.tup (h.lines.map ij)]
def eR(h:Hs):D:=.tup [.tup (h.boards.map tY),.tup (h.hands.map ny)]
def cM(s:Sd):D:=.tup [.tup (s.ls.map bC),.tup (s.ss.map bC)]
def oB(b:Bd):Prop:=nK b.S b.dn b.nx b.un/\b.st < b.S
def o9(bs:List Bd)(m:Nat):Ln->Prop
 | .settle v=>v < 2
 | .act b d gs=>∃bd,bs[b]?=some bd/\d < bd.dn/\gs.length=1+mx (bd.un · d) bd.S/\∀g∈gs,g < m
def o_(bs:List Bd)(h:Hd):Prop:=h.b0 < h.lines.length/\h.b1 < h.lines.length/\h.lines.length<=12/\∀l∈h.lines,o9 bs h.lines.length l
def iz(h:Hs):Prop:=h.boards.length<=7/\(∀b∈h.boards,oB b)/\2<=h.hands.length/\h.hands.length<=3/\∀x∈h.hands,o_ h.boards x
noncomputable def ia(h:Hs)(s:Sd):Prop:=s.ls.length=h.hands.length/\s.ss.length=h.boards.length/\(∀(k:Nat)hd l,h.hands[k]?=some hd->s.ls[k]?=some l->l < hd.lines.length)/\∀(b:Nat)bd x,h.boards[b]?=some bd->s.ss[b]?=some x->x < bd.S
noncomputable def uR:List Bd->Nat
 |[]=>1
 |b::bs=>b.S*uR bs
def oE(h:Hs):Prop:=iz h/\∃B:Nat,(∀x∈h.hands,x.lines.length<=B)/\B^h.hands.length*uR h.boards<=600
section
variable{p q:Nat}{s s1 s2:aX}{Q:D->aX->Prop}
theorem Xh{b:Bd}{d:Nat}{Q:D->aX->Prop}{s:aX}(h:nK b.S b.dn b.nx b.un)(hd:d < b.dn):wp (collect (aO 0) cz (c2 aQ (c2 aQ (al 0) (al 1)) (aw (.int 1))) eU (cf b.S λs=>.tup (cf b.dn λd=>D.tup [.int (b.nx s d:Nat),.int (b.un s d:Nat)])) [none,some (.int d)]) (λx c=>wp (tG x) Q c) s=Q (.int (mx (b.un · d) b.S:Nat)) s:=by rw[Al (f:=λi=>.int (b.un i d:Nat)) vq (λi g Q=>by simp![↓ww hd])];exact RT (f:=(b.un · d)) (by have:=h.1;ext)
theorem L3{b:Bd}{d:Nat}(h:nK b.S b.dn b.nx b.un)(hd:d < b.dn):wp (jd [fK b.S b.dn b.nx b.un,.int d]) Q s=Q (.int ((1+mx (b.un · d) b.S:Nat):Int)) s:=by
 have l:b.S<=dN:=fA (by have:=h.2.1;ext);have g:∀(Q:D->aX->Prop)s,wp (collect (aO 0) cz (c2 aQ (c2 aQ (al 0) (al 1)) (aw (.int 1))) eU (cf b.S λs=>.tup (cf b.dn λd=>D.tup [.int (b.nx s d:Nat),.int (b.un s d:Nat)])) [none,some (.int d)]) (λx c=>wp (tG x) Q c) s=Q (.int (mx (b.un · d) b.S:Nat)) s:=λQ s=>Xh h hd;have e:(1+((mx (b.un · d) b.S:Nat):Int))=((1+mx (b.un · d) b.S:Nat):Int):=by ext
 (simp![jd];simp![j7,fK,fZ,qW,l,↓g,e])
end
open PySem (Str)
section
variable{p q:Nat}{s s1 s2:aX}{Q:D->aX->Prop}{bs:List Bd}
theorem Yi{b:Nat}{bd:Bd}(h:bs[b]?=some bd){Q:D->aX->Prop}{s:aX}:wp (c6 (bs.map tY) (b:Int)) Q s=Q (.tup [fK bd.S bd.dn bd.nx bd.un,bC bd.st]) s:=sQ (by rw[ao,h];rfl)
theorem XV{bd:Bd}(h:0 < bd.S){Q:D->aX->Prop}{s:aX}:wp (aQ (fK bd.S bd.dn bd.nx bd.un) (.int 0)) (λx c=>wp (ge x) Q c) s=Q (.int (bd.dn:Nat)) s:=by unfold fK;rw[iH,Wi h,uc,qW]
theorem VF{m:Nat}(hp:PK p q s s1)(hb1:1<=bs.length)(hb2:bs.length<=7)(hbs:∀b∈bs,oB b)(hm:2<=m)(hm4:m<=4)(h:∀hd C,o_ bs hd->hd.lines.length=m->PK p q s C->Kept p q s1 C->Q (ny hd) C):wp (jO [.dic p,.tup (bs.map tY),.int m]) Q s1:=by
 have l2:2<=dN:=fA (by ext);have l4:4<=dN:=fA (by ext);have e1:((m:Int)-2)=((m-2:Nat):Int):=by ext
 have hb:=rb (show m-2<=100 by ext)
 (simp![jO];simp![yz,bn,e1,hb,bc])
 have pl:=hp.1.lt;have l5:=hp.2.le;refine tZ (λi l C=>∃(c:List Ln)(y4 y5 y6 y7 O L:Option D),l=[some (.dic p),some (.tup (bs.map tY)),some (.int m),some (.ref s1.length),y4,y5,y6,y7,O,L]/\C[s1.length]?=some (.lst (c.map ij))/\c.length=i/\(∀x∈c,o9 bs m x)/\PK p q s C/\Kept p q s1 C) (λ_ _ _ _=>trivial) ⟨[],_,_,_,_,_,_,rfl,by simp,rfl,λx B=>ba B (by simp),hp.snoc,Kept.refl.snoc⟩ (λRw i d l C up rt hd hW=>?_) (λl C hW=>?_)
 ·obtain⟨c,y4,y5,y6,y7,O,L,el,g,hl,E,hk,w⟩:=hW;subst el;obtain⟨hi,ed⟩:=EX hd;subst ed;simp![af];refine o5 hk (by ext) (by ext) λbi t1 a0 a1 h1 w1=>?_;obtain⟨b,rfl⟩:=tx a0;have hbl:b < bs.length:=by ext
  have hat:bs[b]?=some bs[b]:=aj hbl;obtain⟨ok,hst⟩:=hbs bs[b] (b8 hbl);generalize bs[b]=bd at hat ok hst;have qb:∀(Q:D->aX->Prop)s,wp (c6 (bs.map tY) (b:Int)) Q s=Q (.tup [fK bd.S bd.dn bd.nx bd.un,bC bd.st]) s:=λQ s=>Yi hat;have ql:∀(Q:D->aX->Prop)s,wp (aQ (fK bd.S bd.dn bd.nx bd.un) (.int 0)) (λx C=>wp (ge x) Q C) s=Q (.int (bd.dn:Nat)) s:=λQ s=>XV (by have:=ok.1;ext);have o3:=ok.2.2.1;have o4:=ok.2.2.2.1;simp![↓qb,↓ql];refine o5 h1 (by ext) (by ext) λdi t2 b0 b1 h2 w2=>?_;obtain⟨J,rfl⟩:=tx b0;have hdd:J < bd.dn:=by ext
  have qa:∀(Q:D->aX->Prop)s,wp (jd [fK bd.S bd.dn bd.nx bd.un,.int J]) Q s=Q (.int ((1+mx (bd.un · J) bd.S:Nat):Int)) s:=λQ s=>L3 ok hdd;have hmx:mx (bd.un · J) bd.S<=3:=J7 λi hi=>by have:=(ok.2.2.2.2 i J hi hdd).2;ext
  have hb1':=rb (show 1+mx (bd.un · J) bd.S<=100 by ext);simp![bn,↓qb,↓qa,hb1',bc];have Y:=w1.trans w2;have k2:=hk.2.le;have k3:=Y.le;have k4:=w.le;have g2:=Y.same (by ext) (by ext) g;have lg:=kc g2;have pl2:=h2.1.lt;refine tZ (λj l u=>∃(I:List Nat)(O L:Option D),l=[some (.dic p),some (.tup (bs.map tY)),some (.int m),some (.ref s1.length),some (.int i),some (.int b),some (.int J),some (.ref t2.length),O,L]/\u[t2.length]?=some (.lst (I.map bC))/\u[s1.length]?=some (.lst (c.map ij))/\I.length=j/\(∀x∈I,x < m)/\PK p q s u/\Kept p q s1 u) (λ_ _ _ _=>trivial) ⟨[],_,_,rfl,by simp,mD g2,rfl,λx B=>ba B (by simp),h2.snoc,(w.trans Y).snoc⟩ (λRw2 j d l u up2 rt2 hd2 hW=>?_) (λl u hW=>?_)
  ·obtain⟨I,O,L,el,g3,g4,H,o,h,w3⟩:=hW;subst el;have hj:=(ae.mp hd2).1;rw[rS]at hj;have e2:((m:Int)-1-(i:Int))=((m-1-i:Nat):Int):=by ext
   simp![e2];refine o5 h (by ext) (by ext) λG u1 c0 c1 hk4 w4=>?_;obtain⟨G,rfl⟩:=tx c0;simp![];refine o5 hk4 (by ext) (by ext) λr2 u2 d0 d1 hk5 w5=>?_;obtain⟨r2,rfl⟩:=tx d0;simp![l2];refine o5 hk5 (by ext) (by ext) λu Y f0 f1 l Q=>?_;have U:=(w4.trans w5).trans Q;have c:=U.same (by ext) (by ext) g3;have g6:=U.same (by ext) (by ext) g4;have E:((i:Int)+1+(G:Int))=((i+1+G:Nat):Int):=by ext
   have g:∀v:Nat,v < m->I.length < dN/\Rw2 (.next [some (.dic p),some (.tup (bs.map tY)),some (.int m),some (.ref s1.length),some (.int i),some (.int b),some (.int J),some (.ref t2.length),some d,some (.int ((i+1+G:Nat):Int))]) (Y.set t2.length (.lst (I.map bC++[.int (v:Nat)]))):=λv hv=>by
    refine⟨rl (by ext),up2 ⟨I++[v],_,_,rfl,by rw[aE (kc c),bq];rfl,by rw[au (by ext)];exact g6,by simp[H],λx B=>?_,l.put (by ext) (by ext) (by ext),(w3.trans U).put (by ext)⟩⟩;rcases aU.mp B with B|B
    ·exact o x B
    ·rw[aC.mp B];exact hv
   by_cases C:u=0
   ·subst C;simp![l2,↓fU c,↓rh c,af,E,if_true];exact g r2 (by ext)
   ·have q:(u == 0)=false:=by simp[C]
    simp![l2,q,↓fU c,↓rh c,af,E,aT,if_false];exact g (i+1+G) (by ext)
  ·obtain⟨I,O,L,el,g3,g4,H,o,h,w3⟩:=hW;subst el;rw[rS]at H;simp![l4,↓fU g3,↓fU g4,↓rh g4,af];refine⟨rl (by ext),up ⟨c++[.act b J I],_,_,_,_,_,_,rfl,by rw[aE (kc g4),bq];rfl,by simp[hl],λx B=>?_,h.put (by ext) (by ext) (by ext),w3.put (ax _)⟩⟩;rcases aU.mp B with B|B
   ·exact E x B
   ·rw[aC.mp B];exact⟨bd,hat,hdd,H,o⟩
 ·obtain⟨c,y4,y5,y6,y7,O,L,el,g,hl,E,hk,w⟩:=hW;subst el;rw[rS]at hl;have k4:=w.le;have H:∀(Q:D->aX->Prop),wp (c8 (.ref s1.length) (.ref C.length)) Q (C++[.lst [.tup [.str "settle",.int 0],.tup [.str "settle",.int 1]]])=(c.length+2<=dN/\Q (.ref (C++[MO.lst [.tup [.str "settle",.int 0],.tup [.str "settle",.int 1]]]).length) (C++[.lst [.tup [.str "settle",.int 0],.tup [.str "settle",.int 1]]]++[.lst (c.map ij++[.tup [.str "settle",.int 0],.tup [.str "settle",.int 1]])])):=λQ=>by rw[IB (mD g) ko,af];rfl
  simp![l2,↓H];refine⟨fA (by ext),?_⟩;have U:(C++[MO.lst [.tup [.str "settle",.int 0],.tup [.str "settle",.int 1]]]++[MO.lst (c.map ij++[.tup [.str "settle",.int 0],.tup [.str "settle",.int 1]])])[(C++[MO.lst [.tup [.str "settle",.int 0],.tup [.str "settle",.int 1]]]).length]?=some (.lst ((c++[Ln.settle 0,Ln.settle 1]).map ij)):=by rw[ko,bq];rfl
  have l:=(hk.snoc (o:=MO.lst [.tup [.str "settle",.int 0],.tup [.str "settle",.int 1]])).snoc (o:=MO.lst (c.map ij++[.tup [.str "settle",.int 0],.tup [.str "settle",.int 1]]));have I:=(w.snoc (o:=MO.lst [.tup [.str "settle",.int 0],.tup [.str "settle",.int 1]])).snoc (o:=MO.lst (c.map ij++[.tup [.str "settle",.int 0],.tup [.str "settle",.int 1]]));have ll:C.length < (C++[MO.lst [.tup [.str "settle",.int 0],.tup [.str "settle",.int 1]]]).length:=by simp
  have J:=hk.1.lt;clear H;generalize (C++[MO.lst [.tup [.str "settle",.int 0],.tup [.str "settle",.int 1]]]).length=nn at *;generalize C++[MO.lst [.tup [.str "settle",.int 0],.tup [.str "settle",.int 1]]]++[MO.lst (c.map ij++[.tup [.str "settle",.int 0],.tup [.str "settle",.int 1]])]=u at *
  try simp![]
  refine o5 l (by ext) (by ext) λG u1 c0 c1 hk4 w4=>?_;obtain⟨G,rfl⟩:=tx c0;simp![];refine o5 hk4 (by ext) (by ext) λr2 u2 d0 d1 hk5 w5=>?_;obtain⟨r2,rfl⟩:=tx d0;have q:=(w4.trans w5).same (by ext) (by ext) U;simp![l2,↓fU q];refine h ⟨G,r2,c++[.settle 0,.settle 1]⟩ u2 ⟨by show G < _;simp;ext,by show r2 < _;simp;ext,by show cP _<=12;simp;ext,λx B=>?_⟩ (by show cP _=m;simp;ext) hk5 ((I.trans w4).trans w5);have Y:(c++[Ln.settle 0,.settle 1]).length=m:=by simp;ext
  show o9 bs (c++[Ln.settle 0,.settle 1]).length x;rw[Y];rcases aU.mp B with B|B
  ·exact E x B
  ·simp only[aI,bI,or_false]at B;rcases B with rfl|rfl
   ·show 0 < 2;ext
   ·show 1 < 2;ext
end
open PySem (Str)
theorem D4{α:Type}{f:α->D}{P:α->Prop}:∀{out:List D},(∀x∈out,∃a,P a/\x=f a)->∃c:List α,out=c.map f/\∀a∈c,P a
 |[],_=>⟨[],rfl,λ_ h=>ba h (by simp)⟩
 |x::out,h=>by
  obtain⟨a,q,rfl⟩:=h x (by simp);obtain⟨c,rfl,l⟩:=D4 (out:=out) λy o=>h y (by simp[o]);exact⟨a::c,rfl,λb g=>by
   rcases aI.mp g with rfl|g
   ·exact q
   ·exact l b g⟩
theorem M9{K:Nat}:∀{bs:List Bd},(∀b∈bs,b.S<=K)->uR bs<=K^bs.length
 |[],_=>ax _
 |b::bs,hb=>by have h:=M9 (bs:=bs) λx c=>hb x (by simp[c]);have g:=hb b (by simp);rw[bV,pX,gq];exact oh g h
section
variable{p q:Nat}{s s1 s2:aX}{Q:D->aX->Prop}{bs:List Bd}
def FE(d:D):Prop:=∃S c nx un,nK S c nx un/\S<=3/\d=fK S c nx un
theorem Ys(hp:PK p q s s1)(h:∀x l,oE x->PK p q s l->Kept p q s1 l->Q (eR x) l):wp (jq [.dic p]) Q s1:=by
 have G:2<=dN:=fA (by ext)
 (simp![jq];simp![j0])
 refine o5 hp (by ext) (by ext) λr1 t1 a0 a1 h1 w1=>?_;obtain⟨n,hn,Y⟩:∃n:Nat,(n=2\/n=3)/\(2+(if (r1 == 0)=true then (1:Int) else 0))=(n:Int):=by
  by_cases e:r1=0
  ·exact⟨3,.inr rfl,by simp[e]⟩
  ·exact⟨2,.inl rfl,by simp[e]⟩
 have C:(2+(if r1=0 then (1:Int) else 0))=(n:Int):=by rw[<- Y];simp
 simp![G,Y,C];refine o5 h1 (by ext) (by ext) λr2 t2 b0 b1 h2 w2=>?_;obtain⟨r2,rfl⟩:=tx b0;obtain⟨m,hm,em⟩:∃m:Nat,(1<=m/\m+n<=4)/\∀(Q:D->aX->Prop)s,wp (c6 [.int (1+(r2:Int)),.int 1] ((n:Int)-2)) Q s=Q (.int m) s:=by
  rcases hn with rfl|rfl
  ·exact⟨1+r2,by ext,λQ s=>by rw[show ((2:Nat):Int)-2=0 from rfl,lc];congr 1⟩
  ·exact⟨1,by ext,λQ s=>by rw[show ((3:Nat):Int)-2=1 from rfl,lX];rfl⟩
 obtain⟨k,hk,ek⟩:∃k:Nat,(k+n=4)/\∀(Q:D->aX->Prop)s,wp (c6 [.int 2,.int 1] ((n:Int)-2)) Q s=Q (.int k) s:=by
  rcases hn with rfl|rfl
  ·exact⟨2,by ext,λQ s=>by rw[show ((2:Nat):Int)-2=0 from rfl,lc];rfl⟩
  ·exact⟨1,by ext,λQ s=>by rw[show ((3:Nat):Int)-2=1 from rfl,lX];rfl⟩
 have B:=rb (show m<=100 by ext);have hbn:=rb (show n<=100 by ext);have lm:m<=dN:=fA (by ext);have lnn:n<=dN:=fA (by ext);simp![Y,C,G,↓em,fZ,B,bc,rS,lm];refine xY (yY m) FE (λl=>PK p q s l/\Kept p q s1 l) (λ_ _=>trivial) ⟨h2,w1.trans w2⟩ Ac (λd l _ c=>?_) (λU l ho hP c=>?_)
 ·simp![];exact Xy c.1 λS dn nx un h ok h3 g w3=>⟨⟨S,dn,nx,un,ok,h3,rfl⟩,g,c.2.trans w3⟩
 rw[rS]at ho;obtain⟨L,w3⟩:=c;have lt:U.length<=dN:=fA (by ext);have gt:(l++[MO.lst U])[l.length]?=some (.lst U):=ko;have pl:=L.1.lt;simp![↓fU gt,fZ,lt];refine xY FE (λd=>∃b:Bd,(oB b/\b.S<=3)/\d=tY b) (λu=>u[l.length]?=some (.lst U)/\PK p q s u/\Kept p q s1 u) (λ_ z=>z.1) ⟨gt,L.snoc,w3.snoc⟩ hP (λd u hd c=>?_) (λout u ho2 hP2 c=>?_)
 ·obtain⟨S,dn,nx,un,ok,h3,rfl⟩:=hd;obtain⟨g,k4,w4⟩:=c;have h:∀(Q:D->aX->Prop)s,wp (ge (fK S dn nx un)) Q s=Q (.int (S:Nat)) s:=λQ s=>by unfold fK;rw[uc,qW]
  have l:=ok.1;simp![↓h,G];refine o5 k4 (by ext) (by ext) λr u2 c0 c1 H E=>?_;obtain⟨r,rfl⟩:=tx c0;simp![G];exact⟨⟨⟨S,dn,nx,un,r⟩,⟨⟨ok,by show r < S;ext⟩,h3⟩,rfl⟩,E.same (by ext) (by ext) g,H,w4.trans E⟩
 obtain⟨_,k4,w4⟩:=c;obtain⟨bs,rfl,o⟩:=D4 hP2;rw[af]at ho2;simp![G,Y,C,↓ek,fZ,hbn,bc,rS,lnn];refine xY (yY n) (λd=>∃hd:Hd,(o_ bs hd/\hd.lines.length<=k+2)/\d=ny hd) (λu=>PK p q s u/\Kept p q s1 u) (λ_ _=>trivial) ⟨k4,w4⟩ Ac (λd u _ c=>?_) (λI u J hP3 c=>?_)
 ·simp![];refine o5 c.1 (by ext) (by ext) λr u2 c0 c1 H E=>?_;obtain⟨r,rfl⟩:=tx c0;have e:(2+(r:Int))=((2+r:Nat):Int):=by ext
  simp![e];refine VF H (by ext) (by ext) (λb B=>(o b B).1) (by ext) (by ext) λhd l ok q h g=>?_;exact⟨⟨hd,⟨ok,by ext⟩,rfl⟩,h,(c.2.trans E).trans g⟩
 obtain⟨H,E⟩:=c;obtain⟨I,rfl,O⟩:=D4 hP3;rw[af,rS]at J;simp![G];have st:=M9 λb B=>(o b B).2;refine h ⟨bs,I⟩ u ⟨⟨by show bs.length<=7;ext,λb B=>(o b B).1,by show 2<=I.length;ext,by show I.length<=3;ext,λx hx=>(O x hx).1⟩,k+2,λx hx=>(O x hx).2,?_⟩ H E
 show (k+2)^I.length*uR bs<=600;rw[J];rcases hn with rfl|rfl
 ·obtain rfl:k=2:=by ext
  have:3^bs.length<=3^2:=vT (by ext) (by ext)
  calc (2+2)^2*uR bs<=16*9:=oh (by decide) (by ext)
   _<=600:=by decide
 ·obtain rfl:k=1:=by ext
  have:3^bs.length<=3^1:=vT (by ext) (by ext)
  calc (1+2)^3*uR bs<=27*3:=oh (by decide) (by ext)
   _<=600:=by decide
end
open PySem (Str)
def bp(n:Nat):Bd:=⟨n,n+1,xr,xD,0⟩
theorem Df{n:Nat}(c:1<=n)(g:n<=3):oB (bp n):=⟨M5 c g,c⟩
theorem GY{n i:Nat}(h:i < n):MM.pY n (i:Int)=some i:=by unfold MM.pY;rw[aJ (by ext),aJ (by ext)];rfl
theorem wk{x:D}:∀n,(az n [x]).flatten=az n x
 |0=>rfl
 |n+1=>by rw[eB,fH,wk n];rfl
section
variable{p q:Nat}{s s1 s2:aX}{Q:D->aX->Prop}{bd:Bd}
theorem WN{k d:Nat}(hk:k < 2)(ok:oB bd)(hd:d < bd.dn)(h:∀x U,o_ [bp 2,bp 2,bd] x->x.lines.length=7->dZ s1 U->Q (ny x) U):wp (je [.int k,fK bd.S bd.dn bd.nx bd.un,.int bd.st,.int d]) Q s1:=by
 have l1:1<=dN:=fA (by ext);have q:2<=dN:=fA (by ext);have l3:3<=dN:=fA (by ext);have Y:4<=dN:=fA (by ext);have l7:4+3<=dN:=fA (by ext);have hb:=rb (show 2<=100 by ext);have hb:(-(2^62)<=(2:Int)/\(2:Int) < 2^62)=True:=eq_true (by ext);have qa:∀(Q:D->aX->Prop)s,wp (jd [fK bd.S bd.dn bd.nx bd.un,.int d]) Q s=Q (.int ((1+mx (bd.un · d) bd.S:Nat):Int)) s:=λQ s=>L3 ok.1 hd;have hmx:mx (bd.un · d) bd.S<=3:=J7 λi G=>by have:=(ok.1.2.2.2.2 i d G hd).2;ext
 have hun:bd.un bd.st d<=mx (bd.un · d) bd.S:=OJ (f:=(bd.un · d)) ok.2;have qt:∀(Q:D->aX->Prop)s,wp (aQ (fK bd.S bd.dn bd.nx bd.un) (.int bd.st)) Q s=Q (.tup (cf bd.dn λd=>.tup [.int (bd.nx bd.st d:Nat),.int (bd.un bd.st d:Nat)])) s:=λQ s=>by unfold fK;rw[iH,ww ok.2]
 have qd:∀(Q:D->aX->Prop)s,wp (c6 (cf bd.dn λd=>.tup [.int (bd.nx bd.st d:Nat),.int (bd.un bd.st d:Nat)]) (d:Int)) Q s=Q (.tup [.int (bd.nx bd.st d:Nat),.int (bd.un bd.st d:Nat)]) s:=λQ s=>ww hd
 (simp![je];simp![jX,bn,hb])
 refine tZ (λi l u=>∃(n:Nat)(c:List Ln)(I H:Option D),l=[some (.int k),some (fK bd.S bd.dn bd.nx bd.un),some (.int bd.st),some (.int d),some (.ref n),I,H]/\u[n]?=some (.lst (c.map ij))/\c.length=2*i/\(∀x∈c,o9 [bp 2,bp 2,bd] 7 x)/\dZ s1 u) (λ_ _ _ _=>trivial) ⟨_,[],_,_,rfl,by simp,rfl,λx o=>ba o (by simp),(dZ.refl _).snoc _⟩ (λRw i e l u up rt J L=>?_) (λl u L=>?_)
 ·obtain⟨n,c,I,H,el,g,C,B,ex⟩:=L;subst el;obtain⟨G,ee⟩:=EX J;subst ee;have G:i < 2:=G;simp![l1,↓qa,bc,wk];refine⟨⟨by ext,fA (by simp;ext)⟩,?_⟩;generalize Q:1+mx (bd.un · d) bd.S=a at *;have h:(u++[MO.lst (az a (D.int 4))])[u.length]?=some (.lst (az a (D.int 4))):=ko;have ix:MM.pY (az a (D.int 4)).length ((bd.un bd.st d:Nat):Int)=some (bd.un bd.st d):=by rw[cI];exact GY (by ext)
  simp![↓qt,↓qd,↓fU h,ix,↓rh h];have e1:((az a (D.int 4)).set (bd.un bd.st d) (.int (5+(i:Int))))=((az a 4).set (bd.un bd.st d) (5+i)).map bC:=by rw[iX,v_];rfl
  have g2:((u++[MO.lst (az a (D.int 4))]).set u.length (.lst (((az a 4).set (bd.un bd.st d) (5+i)).map bC)))[u.length]?=some (.lst (((az a 4).set (bd.un bd.st d) (5+i)).map bC)):=aE (by simp);have U:((u++[MO.lst (az a (D.int 4))]).set u.length (.lst (((az a 4).set (bd.un bd.st d) (5+i)).map bC)))[n]?=some (.lst (c.map ij)):=by have:=kc g;rw[au (by ext)];exact mD g
  have O:dZ s1 ((u++[MO.lst (az a (D.int 4))]).set u.length (.lst (((az a 4).set (bd.un bd.st d) (5+i)).map bC))):=(ex.snoc _).put ex.le;rw[e1];generalize (u++[MO.lst (az a (D.int 4))]).set u.length (.lst (((az a 4).set (bd.un bd.st d) (5+i)).map bC))=v at *;have l:∀{x:Int},qA 2 x:=λ{x}=>.inl (by ext);simp![l1,q,Y,↓fU g2,l];rw[IB (mD U) ko];refine⟨fA (by simp;ext),?_⟩
  try simp![]
  have c1:(2*(i:Int)+1)=((2*i+1:Nat):Int):=by ext
  have c2:(1+(i:Int))=((1+i:Nat):Int):=by ext
  refine up ⟨_,c++[.act k (1+i) [2*i+1],.act 2 d ((az a 4).set (bd.un bd.st d) (5+i))],_,_,rfl,?_,by simp[C];ext,λx o=>?_,(O.snoc _).snoc _⟩
  ·rw[ko,bq,c1,c2];rfl
  ·rcases aU.mp o with o|o
   ·exact B x o
   ·simp only[aI,bI,or_false]at o;rcases o with rfl|rfl
    ·refine⟨bp 2,by rcases (show k=0\/k=1 by ext) with rfl|rfl<;>rfl,by show 1+i < 3;ext,?_,λg E=>by rw[aC.mp E];ext⟩;rcases (show i=0\/i=1 by ext) with rfl|rfl<;>rfl
    ·refine⟨bd,rfl,hd,by rw[b_,cI,Q],λg E=>?_⟩;rcases fF E with z|z
     ·rw[sV z];ext
     ·ext
 ·obtain⟨n,c,I,H,el,g,C,B,ex⟩:=L;subst el;have C:c.length=4:=by rw[C];rfl
  have l:(c.map ij).length=4:=by rw[af,C]
  simp![q,l3,Y,↓fU g,l,l7];have c1:(1-(k:Int))=((1-k:Nat):Int):=by ext
  have:=h ⟨0,2,c++[.act (1-k) 0 [5,6],.settle 0,.settle 1]⟩ u ⟨by show 0 < cP _;simp,by show 2 < cP _;simp,by show cP _<=12;simp;ext,λx o=>?_⟩ (by show cP _=7;simp[C]) ex
  ·unfold ny at this;dsimp only at this;rw[bq]at this;rw[c1];exact this
  ·have G:(c++[Ln.act (1-k) 0 [5,6],.settle 0,.settle 1]).length=7:=by simp[C]
   show o9 [bp 2,bp 2,bd] (c++[Ln.act (1-k) 0 [5,6],.settle 0,.settle 1]).length x;rw[G];rcases aU.mp o with o|o
   ·exact B x o
   ·simp only[aI,bI,or_false]at o;rcases o with rfl|rfl|rfl
    ·refine⟨bp 2,by rcases (show k=0\/k=1 by ext) with rfl|rfl<;>rfl,by show 0 < 3;ext,rfl,λg E=>?_⟩;simp only[aI,bI,or_false]at E;ext
    ·show 0 < 2;ext
    ·show 1 < 2;ext
end
open PySem (Str)
section
variable{p q:Nat}{s s1 s2 u:aX}{Q:D->aX->Prop}{bd:Bd}
theorem G5{S c st:Nat}{nx un:Nat->Nat->Nat}(h:nK S c nx un)(g:st < S):oB ⟨S,c,nx,un,st⟩:=⟨h,g⟩
theorem Kept.ext(h:dZ s1 s2):Kept p q s1 s2:=by obtain⟨t,e⟩:=h;exact⟨by rw[e];simp,λn c _ _=>by rw[e,ar c]⟩
theorem i_.ext(h:dZ s1 s2)(k:i_ s1 p q):i_ s2 p q:=by obtain⟨x,c,g,a,b,r⟩:=k.ex;exact⟨k.ne,x,c,g,h.at_ a,h.at_ b,r⟩
theorem PK.ext(h:dZ s1 s2)(k:PK p q s s1):PK p q s s2:=⟨k.1.ext h,k.2.trans (Kept.ext h)⟩
theorem Kl{d:Nat}{A:List D->aX->Prop}(ok:oB bd)(hd:d < bd.dn)(C:PK p q s u)(w:Kept p q s1 u)(h:∀(c:List Hd)s',c.length=2->(∀x∈c,o_ [bp 2,bp 2,bd] x/\x.lines.length=7)->PK p q s s'->Kept p q s1 s'->A (c.map ny) s'):
  wp (collect (aO 0) cz (bu je (ac (al 0) (ac (al 1) (ac (al 2) (ac (al 3) aH))))) eU (km 0 2) [none,some (fK bd.S bd.dn bd.nx bd.un),some (.int bd.st),some (.int d)]) A u:=by
 refine xY (yY 2) (λx=>∃hd:Hd,(o_ [bp 2,bp 2,bd] hd/\hd.lines.length=7)/\x=ny hd) (λv=>PK p q s v/\Kept p q s1 v) (λ_ _=>trivial) ⟨C,w⟩ Ac (λx v B g=>?_) (λout v o G g=>?_)
 ·obtain⟨i,E,rfl⟩:=B;simp![];exact WN E ok hd λy v2 I H ex=>⟨⟨y,⟨I,H⟩,rfl⟩,g.1.ext ex,g.2.trans (Kept.ext ex)⟩
 ·obtain⟨c,rfl,l⟩:=D4 G;rw[af]at o;exact h c v o l g.1 g.2
theorem QG(hp:PK p q s s1)(h:∀x I,oE x->PK p q s I->Kept p q s1 I->Q (eR x) I):wp (jS [.dic p]) Q s1:=by
 have L:1<=dN:=fA (by ext);have l:2<=dN:=fA (by ext);have G:3<=dN:=fA (by ext);have o:(-(2^62)<=(2:Int)/\(2:Int) < 2^62)=True:=eq_true (by ext);have J:∀(Q:D->aX->Prop)s,wp (jb [.int 2]) Q s=Q (fK 2 3 xr xD) s:=λQ s=>G6 (n:=2) (by ext);have B:∀{bd:Bd}{g:List Hd}{v},oB bd->bd.S<=3->g.length=2->(∀x∈g,o_ [bp 2,bp 2,bd] x/\x.lines.length=7)->PK p q s v->Kept p q s1 v->Q (.tup [.tup [.tup [fK 2 3 xr xD,.int 0],.tup [fK 2 3 xr xD,.int 0],.tup [fK bd.S bd.dn bd.nx bd.un,.int bd.st]],.tup (g.map ny)]) v:=λ{bd g v}ok h3 hl C k w=>by
  refine h ⟨[bp 2,bp 2,bd],g⟩ v ⟨⟨by show 3<=7;ext,λb o=>?_,by show 2<=g.length;ext,by show g.length<=3;ext,λx O=>(C x O).1⟩,7,λx O=>ut (C x O).2,?_⟩ k w
  ·simp only[aI,bI,or_false]at o;rcases o with rfl|rfl|rfl
   ·exact Df (by ext) (by ext)
   ·exact Df (by ext) (by ext)
   ·exact ok
  ·show 7^g.length*(2*(2*(bd.S*1)))<=600;rw[hl];ext
 (simp![jS];simp![yu,L,l,G])
 refine o5 hp (by ext) (by ext) λr t1 a0 a1 U H=>?_;rcases (show r=0\/r=1\/r=2 by ext) with rfl|rfl|rfl
 ·have c1 : ∀(A : List D -> aX -> Prop)s, wp (collect (aO 0) cz (iQ lI (dF 1 [0] (MM.fm (aw (.int 2))) (aO 0) cz (bo (ac (al 0) (ac (al 1) aH))))) eU (cf 2 λi => .int i) [none]) A s = A (cf 2 λv => .tup (cf 2 λu => .tup [.int (u : Nat), .int (v : Nat)])) s := λA s => by
    refine Al vq λv hv Q=>?_;have Y:∀A s,wp (collect (aO 0) cz (bo (ac (al 0) (ac (al 1) aH))) eU (cf 2 λi=>.int i) [none,some (.int v)]) A s=A (cf 2 λu=>.tup [.int (u:Nat),.int (v:Nat)]) s:=λA s=>Al vq λu hu Q=>by simp![l]
    simp![fZ,o,zZ,qW,l,Int.reduceToNat,↓Y]
  have E:(D.tup (cf 2 λv=>.tup (cf 2 λu=>.tup [.int (u:Nat),.int (v:Nat)])))=fK 2 2 (λ_ d=>d) (λs _=>s):=rfl;have ok:oB ⟨2,2,λ_ d=>d,λs _=>s,0⟩:=G5 ⟨by ext,by ext,by ext,by ext,λs d g hd=>⟨hd,by show s < 4;ext⟩⟩ (by ext);simp![fZ,o,zZ,qW,l,G,Int.reduceToNat,↓c1,E,↓J];rw[<- zZ];exact Kl (bd:=⟨2,2,λ_ d=>d,λs _=>s,0⟩) (d:=1) ok (by show 1 < 2;ext) U H λg v a b c d=>by simp![l];exact B ok (by show 2<=3;ext) a b c d
 ·have E:(D.tup [.tup [.tup [.int 1,.int 0]],.tup [.tup [.int 2,.int 1]],.tup [.tup [.int 0,.int 2]]])=fK 3 1 (λs _=>if s=2 then 0 else s+1) (λs _=>s):=rfl;have ok:oB ⟨3,1,λs _=>if s=2 then 0 else s+1,λs _=>s,0⟩:=G5 ⟨by ext,by ext,by ext,by ext,λs d g hd=>⟨by show (if s=2 then 0 else s+1) < 3;split<;>ext,by show s < 4;ext⟩⟩ (by ext);simp![fZ,o,L,l,G,rS,Int.reduceToNat,E,↓J];exact Kl (bd:=⟨3,1,λs _=>if s=2 then 0 else s+1,λs _=>s,0⟩) (d:=0) ok (by show 0 < 1;ext) U H λg v a b c d=>by simp![l];exact B ok (by show 3<=3;ext) a b c d
 ·have E:(D.tup [.tup [.tup [.int 1,.int 0]],.tup [.tup [.int 1,.int 1]]])=fK 2 1 (λ_ _=>1) (λs _=>s):=rfl;have ok:oB ⟨2,1,λ_ _=>1,λs _=>s,0⟩:=G5 ⟨by ext,by ext,by ext,by ext,λs d g hd=>⟨by show 1 < 2;ext,by show s < 4;ext⟩⟩ (by ext);simp![fZ,o,L,l,G,rS,Int.reduceToNat,E,↓J];exact Kl (bd:=⟨2,1,λ_ _=>1,λs _=>s,0⟩) (d:=0) ok (by show 0 < 1;ext) U H λg v a b c d=>by simp![l];exact B ok (by show 2<=3;ext) a b c d
end
open PySem (Str)
theorem zl{bs:List Bd}{b d m:Nat}{c:List Nat}{bd:Bd}(u:bs[b]?=some bd)(q:d < bd.dn)(o:c.length=1+mx (bd.un · d) bd.S)(l:c.all (· < m)=true):o9 bs m (.act b d c):=
 ⟨bd,u,q,o,λg h=>by simpa using cX.mp l g h⟩
theorem Ab{bs:List Bd}{m v:Nat}(h:v < 2):o9 bs m (.settle v):=h
theorem tE{α:Type}{P:α->Prop}{a b:α}(h:P a)(g:P b):∀x∈[a,b],P x:=λx c=>by
 rcases aI.mp c with rfl|c
 ·exact h
 ·rw[aC.mp c];exact g
theorem rm{α:Type}{P:α->Prop}{a:α}{l:List α}(h:P a)(g:∀x∈l,P x):∀x∈a::l,P x:=λx c=>by
 rcases aI.mp c with rfl|c
 ·exact h
 ·exact g x c
noncomputable def f3(s d:Nat):Nat:=if s=0 then d+1 else s
section
variable{p q:Nat}{s s1 s2 u:aX}{Q:D->aX->Prop}{bd:Bd}
theorem M7{ds:List D}{k:Int}:wp (rR (.tup ds) (.int k)) Q s=((2<=k/\k<=1000/\ds.length<=1000/\ds≠[])/\Q (.tup (az k.toNat ds).flatten) s):=by unfold rR;rw[dQ,cj]
theorem FV{bs:List Bd}{c:List Hd}{B:Nat}(C:bs.length<=7)(o:∀b∈bs,oB b)(E:c.length=2\/c.length=3)(h:∀x∈c,o_ bs x/\x.lines.length<=B)(l:B^c.length*uR bs<=600):oE ⟨bs,c⟩:=
 ⟨⟨C,o,by show 2<=c.length;ext,by show c.length<=3;ext,λx g=>(h x g).1⟩,B,λx g=>(h x g).2,l⟩
theorem XH(I:PK p q s s1)(h:∀x c,oE x->PK p q s c->Kept p q s1 c->Q (eR x) c):wp (jo [.dic p]) Q s1:=by
 have G:1<=dN:=fA (by ext);have g:2<=dN:=fA (by ext);have E:3<=dN:=fA (by ext);have C:4<=dN:=fA (by ext);have ok:oB ⟨3,2,f3,f3,0⟩:=G5 ⟨by ext,by ext,by ext,by ext,λs d Y hd=>by unfold f3;split<;>ext⟩ (by ext);have J:o_ [⟨3,2,f3,f3,0⟩] ⟨0,1,[.act 0 0 [2,2,3],.act 0 1 [2,2,3],.settle 0,.settle 1]⟩:=⟨by decide,by decide,by decide,rm (zl rfl (by decide) rfl (by decide)) (rm (zl rfl (by decide) rfl (by decide)) (tE (Ab (by ext)) (Ab (by ext))))⟩
 (simp![jo];simp![jW,G,g,E,C])
 refine o5 I (by ext) (by ext) λr o U u O l=>?_;obtain⟨r,rfl⟩:=tx U;have e:(2+(r:Int))=((2+r:Nat):Int):=by ext
 simp![↓M7,g,e,bc,wk];refine⟨by simp;ext,?_⟩;have:oE ⟨[⟨3,2,f3,f3,0⟩],az (2+r) ⟨0,1,[.act 0 0 [2,2,3],.act 0 1 [2,2,3],.settle 0,.settle 1]⟩⟩:=by refine FV (B:=4) (by simp) (λb L=>by rw[aC.mp L];exact ok) (by rw[cI];ext) (λx H=>by rw[sV H];exact⟨J,by decide⟩) ?_;rw[cI];rcases (show r=0\/r=1 by ext) with rfl|rfl<;>decide
 have:=h _ o this O l;unfold eR at this;simp only[v_]at this;exact this
theorem YE(U:PK p q s s1)(h:∀x C,oE x->PK p q s C->Kept p q s1 C->Q (eR x) C):wp (jC [.dic p]) Q s1:=by
 have J:1<=dN:=fA (by ext);have I:2<=dN:=fA (by ext);have H:3<=dN:=fA (by ext);have O:4<=dN:=fA (by ext);have L:∀(Q:D->aX->Prop)s,wp (jb [.int 3]) Q s=Q (fK 3 4 xr xD) s:=λQ s=>G6 (n:=3) (by ext);have c:∀b∈[bp 3],oB b:=λb c=>by rw[aC.mp c];exact Df (by ext) (by ext)
 have E:o_ [bp 3] ⟨0,1,[.act 0 2 [2],.act 0 3 [3],.settle 0,.settle 1]⟩/\([.act 0 2 [2],.act 0 3 [3],.settle 0,.settle 1]:List Ln).length<=4:=⟨⟨by decide,by decide,by decide,rm (zl rfl (by decide) rfl (by decide)) (rm (zl rfl (by decide) rfl (by decide)) (tE (Ab (by ext)) (Ab (by ext))))⟩,by decide⟩
 have g:o_ [bp 3] ⟨0,0,[.act 0 0 [0,1,2],.settle 0,.settle 1]⟩/\([.act 0 0 [0,1,2],.settle 0,.settle 1]:List Ln).length<=4:=⟨⟨by decide,by decide,by decide,rm (zl rfl (by decide) rfl (by decide)) (tE (Ab (by ext)) (Ab (by ext)))⟩,by decide⟩
 (simp![jC];simp![j6,J,I,H,O])
 refine o5 U (by ext) (by ext) λr o u Y G l=>?_;rcases (show r=0\/r=1\/r=2 by ext) with rfl|rfl|rfl<;>simp![J,I,H,↓L]
 ·exact h ⟨[bp 3],[_,_]⟩ o (FV (B:=4) (by decide) c (.inl rfl) (tE E g) (by decide)) G l
 ·exact h ⟨[bp 3],[_,_]⟩ o (FV (B:=4) (by decide) c (.inl rfl) (tE g E) (by decide)) G l
 ·exact h ⟨[bp 3],[_,_,_]⟩ o (FV (B:=4) (by decide) c (.inr rfl) (rm E (tE g g)) (by decide)) G l
theorem Ym(hp:PK p q s s1)(h:∀x s',oE x->PK p q s s'->Kept p q s1 s'->Q (eR x) s'):wp (jw [.dic p]) Q s1:=by
 have l1:1<=dN:=fA (by ext);have L:2<=dN:=fA (by ext);have l3:3<=dN:=fA (by ext);have l4:4<=dN:=fA (by ext);have l6:3+3<=dN:=fA (by ext);have hb:(-(2^62)<=(2:Int)/\(2:Int) < 2^62)=True:=eq_true (by ext);have pl:∀(Q:D->aX->Prop)s,wp (jb [.int 3]) Q s=Q (fK 3 4 xr xD) s:=λQ s=>G6 (n:=3) (by ext)
 (simp![jw];simp![j3,bn,hb])
 have lp:=hp.1.lt;have ls:=hp.2.le;refine tZ (λi l u=>∃(G:List Hd)(Y U O:Option D),l=[some (.dic p),some (.ref s1.length),Y,U,O]/\u[s1.length]?=some (.lst (G.map ny))/\G.length=i/\(∀x∈G,o_ [bp 3,bp 3] x/\x.lines.length<=6)/\PK p q s u/\Kept p q s1 u) (λ_ _ _ _=>trivial) ⟨[],_,_,_,rfl,by simp,rfl,λx H=>ba H (by simp),hp.snoc,Kept.refl.snoc⟩ (λRw i e l u up rt hd2 hW=>?_) (λl u hW=>?_)
 ·obtain⟨G,Y,U,O,el,g,J,I,hk,w⟩:=hW;subst el;obtain⟨B,ee⟩:=EX hd2;subst ee;have B:i < 2:=B;simp![L];refine o5 hk (by ext) (by ext) λr C a0 a1 h1 u=>?_;have g1:=u.same (by ext) (by ext) g;have lt:=kc g1;obtain⟨a,b,ha,hb,er⟩:∃a b:Nat,a < 6/\b < 6/\∀(Q:D->aX->Prop)s,wp (c6 [.tup [.int 2,.int 3],.tup [.int 1,.int 0]] r) Q s=Q (.tup [.int a,.int b]) s:=by
   rcases (show r=0\/r=1 by ext) with rfl|rfl
   ·exact⟨2,3,by ext,by ext,λQ s=>by rw[lc];rfl⟩
   ·exact⟨1,0,by ext,by ext,λQ s=>by rw[lX];rfl⟩
  have xa:∀(x y:List D)(Q:D->aX->Prop),wp (c8 (.ref C.length) (.ref (C++[MO.lst x]).length)) Q (C++[MO.lst x]++[MO.lst y])=(x.length+y.length<=dN/\Q (.ref (C++[MO.lst x]++[MO.lst y]).length) (C++[MO.lst x]++[MO.lst y]++[MO.lst (x++y)])):=λx y Q=>IB (mD ko) ko;simp![l1,L,l3,l4,↓er,↓xa];refine⟨l6,?_⟩;have c1:(1-(i:Int))=((1-i:Nat):Int):=by ext
  rw[c1];have h:∀o c E:MO,(C++[o]++[c]++[E])[s1.length]?=some (.lst (G.map ny)):=λo c E=>mD (mD (mD g1));have q2:∀(o c E:MO)Q,wp (getL s1.length) Q (C++[o]++[c]++[E])=Q (G.map ny) (C++[o]++[c]++[E]):=λo c E Q=>fU (h _ _ _);have q3:∀(o c E:MO)q Q,wp (putL s1.length q) Q (C++[o]++[c]++[E])=Q () ((C++[o]++[c]++[E]).set s1.length (.lst q)):=λo c E q Q=>rh (h _ _ _);have q4:∀(o c:MO)(x:List D)Q,wp (getL (C++[o]++[c]).length) Q (C++[o]++[c]++[MO.lst x])=Q x (C++[o]++[c]++[MO.lst x]):=λo c x Q=>fU ko;simp![L,↓q2,↓q3,↓q4,af];have kk:o_ [bp 3,bp 3] ⟨0,1,[.act i 2 [2],.act i 3 [3],.act (1-i) 0 [4,4,a],.act (1-i) 0 [5,b,5],.settle 0,.settle 1]⟩:=by
   have b0:([bp 3,bp 3]:List Bd)[i]?=some (bp 3):=by rcases (show i=0\/i=1 by ext) with rfl|rfl<;>rfl
   have b1:([bp 3,bp 3]:List Bd)[1-i]?=some (bp 3):=by rcases (show i=0\/i=1 by ext) with rfl|rfl<;>rfl
   exact⟨by show 0 < 6;ext,by show 1 < 6;ext,by show 6<=12;ext,show ∀l∈_,o9 [bp 3,bp 3] 6 l from rm (zl b0 (by decide) rfl (by decide)) (rm (zl b0 (by decide) rfl (by decide)) (rm (zl b1 (by decide) rfl (by simp[ha])) (rm (zl b1 (by decide) rfl (by simp[hb])) (tE (Ab (by ext)) (Ab (by ext))))))⟩
  refine⟨rl (by ext),up ⟨G++[⟨0,1,[.act i 2 [2],.act i 3 [3],.act (1-i) 0 [4,4,a],.act (1-i) 0 [5,b,5],.settle 0,.settle 1]⟩],_,_,_,rfl,?_,by simp[J],λx H=>?_,(((h1.snoc).snoc).snoc).put (by ext) (by ext) (by ext),((((w.trans u).snoc).snoc).snoc).put (ax _)⟩⟩
  ·rw[aE (kc (h _ _ _)),bq];exact rfl
  ·rcases aU.mp H with H|H
   ·exact I x H
   ·rw[aC.mp H];exact⟨kk,ax _⟩
 ·obtain⟨G,Y,U,O,el,g,J,I,hk,w⟩:=hW;subst el;have J:G.length=2:=J;simp![L,↓pl,↓fU g];exact h ⟨[bp 3,bp 3],G⟩ u (FV (B:=6) (by decide) (tE (Df (by ext) (by ext)) (Df (by ext) (by ext))) (.inl J) I (by rw[J];decide)) hk w
end
open PySem (Str)
theorem Fj:((("settle":Str)) == "settle")=true:=by nofun
theorem Em:((("do":Str)) == "settle")=false:=by nofun
section
variable{p q:Nat}{s s1 s2 u:aX}{Q:D->aX->Prop}{h:Hs}{l:Loc}
theorem K3{A I V:CE}{xs:List D}{i:Nat}{v:D}(C:i < xs.length)(O:xs.length<=100)(H:∀Q,wp (A l) Q s=Q (.tup xs) s)(G:∀Q,wp (I l) Q s=Q (.int i) s)(E:∀Q,wp (V l) Q s=Q v s):
  wp (c2 c8 (c2 c8 (dP A gY (gc I)) (bo (ac V aH))) (dP A (gc (c2 c8 I (aw (.int 1)))) gY) l) Q s=Q (.tup (xs.set i v)) s:=by
 have c1:¬(gB xs.length 0 none=0/\gB xs.length xs.length (some (i:Int))=xs.length):=by unfold gB;simp only[bc];rw[aG (by ext)];ext
 have c:¬(gB xs.length 0 (some ((i:Int)+1))=0/\gB xs.length xs.length none=xs.length):=by unfold gB;dsimp only;rw[aG (by ext)];ext
 have L:cutD xs none (some (i:Int))=xs.take i:=by unfold cutD gB;simp only[bc];rw[aG (by ext),AF];congr 1;ext
 have J:cutD xs (some ((i:Int)+1)) none=xs.drop (i+1):=by
  unfold cutD gB;have:(if (i:Int)+1 < 0 then ((i:Int)+1+(xs.length:Int)).toNat else min ((i:Int)+1).toNat xs.length)=i+1:=by rw[aG (by ext)];ext
  simp only[this];exact ub (by rw[fW];exact ax _)
 have B:1<=dN:=fA (by ext);have o:(xs.take i).length+1<=dN:=fA (by rw[cn];ext);have g:(xs.take i++[v]).length+(xs.drop (i+1)).length<=dN:=fA (by rw[aN,cn,fW];simp;ext);simp![↓H,↓G,↓E,c1,c,not_false_eq_true,L,J,B,o];rw[List.set_eq_take_append_cons_drop,aJ C];have:xs.take i++[v]++xs.drop (i+1)=xs.take i++v::xs.drop (i+1):=by simp
 rw[this];exact propext ⟨λz=>z.2,λz=>⟨g,z⟩⟩
theorem Qt{k j:Nat}{hd:Hd}{c:Ln}(J:oE h)(I:h.hands[k]?=some hd)(hj:j < hd.lines.length)(H:o9 h.boards hd.lines.length c):oE ⟨h.boards,h.hands.set k ⟨hd.b0,hd.b1,hd.lines.set j c⟩⟩:=by
 obtain⟨⟨a1,Q,u,q,E⟩,B,C,l⟩:=J;have o:=av I;obtain⟨Y,U,O,L⟩:=E hd o;refine⟨⟨a1,Q,by show 2<=(h.hands.set _ _).length;rw[b_];exact u,by show (h.hands.set _ _).length<=3;rw[b_];exact q,λx g=>?_⟩,B,λx g=>?_,by show B^(h.hands.set _ _).length*_<=_;rw[b_];exact l⟩
 ·rcases fF g with z|rfl
  ·exact E x z
  ·refine⟨by show _ < (hd.lines.set _ _).length;rw[b_];exact Y,by show _ < (hd.lines.set _ _).length;rw[b_];exact U,by show (hd.lines.set _ _).length<=12;rw[b_];exact O,λy G=>?_⟩
   show o9 h.boards (hd.lines.set j c).length y;rw[b_];rcases fF G with z|rfl
   ·exact L y z
   ·exact H
 ·rcases fF g with z|rfl
  ·exact C x z
  ·show (hd.lines.set j c).length<=B;rw[b_];exact C hd o
theorem Ue(hc:oE h)(hp:PK p q s s1)(hq:∀x E,oE x->PK p q s E->Kept p q s1 E->Q (eR x) E):wp (jt [.dic p,eR h]) Q s1:=by
 have l1:1<=dN:=fA (by ext);have U:2<=dN:=fA (by ext);obtain⟨⟨z1,z2,z3,z4,z5⟩,_⟩:=id hc;have wh:∀(Q:D->aX->Prop)s,wp (aQ (eR h) (.int 1)) Q s=Q (.tup (h.hands.map ny)) s:=λQ s=>by unfold eR;rw[iH,lX]
 have wb:∀(Q:D->aX->Prop)s,wp (aQ (eR h) (.int 0)) Q s=Q (.tup (h.boards.map tY)) s:=λQ s=>by unfold eR;rw[iH,lc]
 obtain⟨R,hR⟩:∃R:CS,R=(aK (bB (aO 8) (bo (ac (al 3) (ac (c2 c8 (c2 c8 (dP (al 4) gY (gc (al 5))) (bo (ac (al 6) aH))) (dP (al 4) (gc (c2 c8 (al 5) (aw (.int 1)))) gY)) aH)))) (aK (dw (bo (ac (c2 aQ (al 1) (aw (.int 0))) (ac (c2 c8 (c2 c8 (dP (c2 aQ (al 1) (aw (.int 1))) gY (gc (al 2))) (bo (ac (al 8) aH))) (dP (c2 aQ (al 1) (aw (.int 1))) (gc (c2 c8 (al 2) (aw (.int 1)))) gY)) aH)))) aY)):=⟨_,rfl⟩
 simp only[jt,j8];rw[<- hR];simp![↓wh,af];refine o5 hp (by ext) (by ext) λr t1 a0 a1 h1 L=>?_;obtain⟨k,rfl⟩:=tx a0;have l:k < h.hands.length:=by ext
 have ek:h.hands[k]?=some h.hands[k]:=aj l;obtain⟨d1,d2,d3,d4⟩:=z5 _ (b8 l);generalize h.hands[k]=hd at ek d1 d2 d3 d4;have w2:∀(Q:D->aX->Prop)s,wp (c6 (h.hands.map ny) (k:Int)) Q s=Q (.tup [.tup [bC hd.b0,bC hd.b1],.tup (hd.lines.map ij)]) s:=λQ s=>sQ (by rw[ao,ek];rfl);simp![↓wh,↓w2,af];refine o5 h1 (by ext) (by ext) λr C b0 b1 h2 J=>?_;obtain⟨j,rfl⟩:=tx b0;have I:j < hd.lines.length:=by ext
 have ej:hd.lines[j]?=some hd.lines[j]:=aj I;have ok:=d4 _ (b8 I);generalize hd.lines[j]=ln at ej ok;have w4:∀(Q:D->aX->Prop)s,wp (c6 (hd.lines.map ij) (j:Int)) Q s=Q (ij ln) s:=λQ s=>sQ (by rw[ao,ej];rfl);have G : ∀(o : Ln)(H : Option D)u, o9 h.boards hd.lines.length o -> PK p q s u -> Kept p q s1 u ->
   wp (R [some (.dic p),some (eR h),some (.int k),some (.tup [bC hd.b0,bC hd.b1]),some (.tup (hd.lines.map ij)),some (.int j),some (ij o),H,none]) (λf E=>wp (wE f) Q E) u:=λo H u O Y w'=>by
  have q1:∀(Q:D->aX->Prop),wp (c2 c8 (c2 c8 (dP (al 4) gY (gc (al 5))) (bo (ac (al 6) aH))) (dP (al 4) (gc (c2 c8 (al 5) (aw (.int 1)))) gY) [some (.dic p),some (eR h),some (.int k),some (.tup [bC hd.b0,bC hd.b1]),some (.tup (hd.lines.map ij)),some (.int j),some (ij o),H,none]) Q u=Q (.tup ((hd.lines.map ij).set j (ij o))) u:=λQ=>K3 (by rw[af];exact I) (by rw[af];ext) (λQ=>Ef) (λQ=>Bb) (λQ=>DT);have q2:∀(z:D)(Q:D->aX->Prop),wp (c2 c8 (c2 c8 (dP (c2 aQ (al 1) (aw (.int 1))) gY (gc (al 2))) (bo (ac (al 8) aH))) (dP (c2 aQ (al 1) (aw (.int 1))) (gc (c2 c8 (al 2) (aw (.int 1)))) gY) [some (.dic p),some (eR h),some (.int k),some (.tup [bC hd.b0,bC hd.b1]),some (.tup (hd.lines.map ij)),some (.int j),some (ij o),H,some z]) Q u=Q (.tup ((h.hands.map ny).set k z)) u:=λz Q=>K3 (by rw[af];exact l) (by rw[af];ext) (λQ=>by simp![↓wh]) (λQ=>Bf) (λQ=>Fd);have:=hq _ u (Qt hc ek I O) Y w';have e:ny ⟨hd.b0,hd.b1,hd.lines.set j o⟩=.tup [.tup [bC hd.b0,bC hd.b1],.tup ((hd.lines.map ij).set j (ij o))]:=by unfold ny;rw[iX]
  simp only[eR,iX,e]at this;rw[hR,rX,uM];simp only[↓wC,↓qJ,↓sW,↓DD,↓q1,↓Db,U];rw[rX,z6];simp![↓wC,↓qJ,↓sW,↓vg,↓vw,↓sZ,↓wb,↓q2,U];exact this
 simp![↓w4];cases ln with
 |settle v=>
  have hv:v < 2:=ok;have c:D.tup [.str "settle",.int (1-(v:Int))]=ij (.settle (1-v)):=by unfold ij bC;congr 4;ext
  simp only[ij,bC];simp![Fj,U,c];exact G (.settle (1-v)) _ C (by show 1-v < 2;ext) h2 (L.trans J)
 |act b d gs=>
  obtain⟨bd,f1,f2,f3,f4⟩:=id ok;obtain⟨tk,_⟩:=z2 bd (av f1);have hmx:mx (bd.un · d) bd.S<=3:=J7 λi hi=>by have:=(tk.2.2.2.2 i d hi f2).2;ext
  simp only[ij,bC];simp![Em,aT,if_false,af];have lp:=h2.1.lt;have lt:=(L.trans J).le;have lh:=hp.2.le;refine o5 h2.snoc (by ext) (by ext) λr t3 c0 c1 h3 w5=>?_;obtain⟨v,rfl⟩:=tx c0;have g3:t3[C.length]?=some (.lst (gs.map bC)):=w5.same (by ext) (by ext) ko;simp![↓fU g3,af];refine o5 h3 (by ext) (by ext) λr t4 e0 e1 h4 w6=>?_;obtain⟨B,rfl⟩:=tx e0;have g4:=w6.same (by ext) (by ext) g3;have ix:MM.pY gs.length (B:Int)=some B:=GY (by ext);have g5:(t4.set C.length (.lst ((gs.set B v).map bC)))[C.length]?=some (.lst ((gs.set B v).map bC)):=aE (kc g4);have n1:¬(gB 4 0 none=0/\gB 4 4 (some 3)=4):=by decide
  have n2:∀a b c d:D,cutD [a,b,c,d] none (some 3)=[a,b,c]:=λ_ _ _ _=>rfl;have l4:3+1<=dN:=fA (by ext);have e5:((gs.map bC).set B (.int v))=(gs.set B v).map bC:=by rw[iX];rfl
  simp![↓fU g4,af,ix,↓rh g4,↓fU g5,n1,n2,not_false_eq_true,l1,l4,e5];have w7:Kept p q s1 (t4.set C.length (.lst ((gs.set B v).map bC))):=((((L.trans J).snoc).trans w5).trans w6).put lt;exact G (.act b d (gs.set B v)) _ _ ⟨bd,f1,f2,by rw[b_];exact f3,λg hg=>by
   rcases fF hg with z|z
   ·exact f4 g z
   ·ext⟩ (h4.put (by ext) (by ext) (by ext)) w7
theorem WA(hp:PK p q s s1)(J:∀x c,oE x->PK p q s c->Kept p q s1 c->Q (eR x) c):wp (jM [.dic p]) Q s1:=by
 obtain⟨R,L⟩:∃R:CS,R=(aK (kC (MM.fm (c2 rY (aw (.int 0)) (c2 n0 (bu ja (ac (al 0) (ac (aw (.int 4)) aH))) (aw (.int 1))))) (aO 3) (aK (bB (aO 2) (bu jt (ac (al 0) (ac (al 2) aH)))) aY)) (aK (dw (al 2)) aY)):=⟨_,rfl⟩
 have o:∀(h:Hs)(w:Int)u,oE h->PK p q s u->Kept p q s1 u->wp (R [some (.dic p),some (.int w),some (eR h),none]) (λf c=>wp (wE f) Q c) u:=λh w u hc hk w'=>by
  rw[L];simp![];refine o5 hk (by ext) (by ext) λr t a0 a1 C B=>?_;have hb:(-(2^62)<=max 0 (r-1)/\max 0 (r-1) < 2^62)=True:=eq_true (by ext);simp![hb];refine tZ (λi l v=>∃(x:Hs)(E:Option D),l=[some (.dic p),some (.int w),some (eR x),E]/\oE x/\PK p q s v/\Kept p q s1 v) (λ_ _ _ _=>trivial) ⟨h,_,rfl,hc,C,w'.trans B⟩ (λRw i e l v up rt hd2 I=>?_) (λl v I=>?_)
  ·obtain⟨x,E,el,g,H,G⟩:=I;subst el;simp![];exact Ue g H λy v2 h c Y=>by simp![];exact up ⟨y,_,rfl,h,c,G.trans Y⟩
  ·obtain⟨x,E,el,g,H,G⟩:=I;subst el;simp![];exact J x v g H G
 simp only[jM,ym];rw[<- L];simp![];refine o5 hp (by ext) (by ext) λr t a0 a1 C B=>?_;simp![];by_cases c1:r < 2
 ·rw[aJ c1];exact Ys C λx c g k w=>by simp![];exact J x c g k (B.trans w)
 rw[aG c1];by_cases c2:r=2
 ·rw[aJ c2];exact QG C λx c g k w=>by simp![];exact o x _ c g k (B.trans w)
 rw[aG c2];by_cases U:r=3
 ·rw[aJ U];exact XH C λx c g k w=>by simp![];exact o x _ c g k (B.trans w)
 rw[aG U];by_cases O:r=4
 ·rw[aJ O];exact YE C λx c g k w=>by simp![];exact o x _ c g k (B.trans w)
 rw[aG O];exact Ym C λx c g k w=>by simp![];exact o x _ c g k (B.trans w)
end
open PySem (Str)
noncomputable def bL(h:Hs)(s:Sd)(k:Nat):Ln:=((h.hands[k]?.bind λhd=>s.ls[k]?.bind λl=>hd.lines[l]?)).getD (.settle 0)
def lE(h:Hs)(s:Sd)(k:Nat):Sd:=match bL h s k with
 | .settle _=>s
 | .act b d gs=>match h.boards[b]?,s.ss[b]? with
  |some bd,some x=>⟨s.ls.set k ((gs[bd.un x d]?).getD 0),s.ss.set b (bd.nx x d)⟩
  |_,_=>s
section
variable{p q:Nat}{s s1 s2:aX}{Q:D->aX->Prop}{h:Hs}{st:Sd}
theorem Cp{xs:List Nat}{i x:Nat}{Q:D->aX->Prop}{s:aX}(h:xs[i]?=some x):wp (c6 (xs.map bC) (i:Int)) Q s=Q (.int (x:Nat)) s:=sQ (by rw[ao,h];rfl)
theorem BS{k:Nat}(hh:iz h)(B:ia h st)(C:k < h.hands.length):∃hd l,h.hands[k]?=some hd/\st.ls[k]?=some l/\l < hd.lines.length/\hd.lines[l]?=some (bL h st k)/\o9 h.boards hd.lines.length (bL h st k):=by
 have c:h.hands[k]?=some h.hands[k]:=aj C;have o:k < st.ls.length:=by rw[B.1];exact C
 have u:st.ls[k]?=some st.ls[k]:=aj o;have g:=B.2.2.1 k _ _ c u;have G:h.hands[k].lines[st.ls[k]]?=some (h.hands[k].lines[st.ls[k]]):=aj g;have E:bL h st k=h.hands[k].lines[st.ls[k]]:=by unfold bL;rw[c,u];simp only[Option.bind_some,G,lT]
 refine⟨_,_,c,u,g,by rw[G,E],?_⟩;rw[E];exact (hh.2.2.2.2 _ (av c)).2.2.2 _ (b8 g)
theorem Mq{k:Nat}(hh:iz h)(u:ia h st)(B:k < h.hands.length):wp (jk [eR h,cM st,.int k]) Q s=Q (ij (bL h st k)) s:=by
 obtain⟨hd,l,G,E,H,C,_⟩:=BS hh u B;have o:∀Q s,wp (c6 (h.hands.map ny) (k:Int)) Q s=Q (.tup [.tup [bC hd.b0,bC hd.b1],.tup (hd.lines.map ij)]) s:=λQ s=>sQ (by rw[ao,G];rfl);have g:∀Q s,wp (c6 (st.ls.map bC) (k:Int)) Q s=Q (.int (l:Nat)) s:=λQ s=>Cp E;have c:∀Q s,wp (c6 (hd.lines.map ij) (l:Int)) Q s=Q (ij (bL h st k)) s:=λQ s=>sQ (by rw[ao,C];rfl)
 (simp![jk];simp![yC,eR,cM,↓o,↓g,↓c])
theorem JR{b d:Nat}{B:List Nat}{m:Nat}(hh:iz h)(C:ia h st)(G:o9 h.boards m (.act b d B)):∃bd x g,h.boards[b]?=some bd/\st.ss[b]?=some x/\x < bd.S/\d < bd.dn/\B[bd.un x d]?=some g/\g < m/\bd.nx x d < bd.S/\nK bd.S bd.dn bd.nx bd.un:=by
 obtain⟨bd,c,hd,H,o⟩:=G;have I:=(ae.mp c).1;have u:b < st.ss.length:=by rw[C.2.1];exact I
 have E:st.ss[b]?=some st.ss[b]:=aj u;have l:=C.2.2.2 b bd _ c E;obtain⟨ok,_⟩:=hh.2.1 bd (av c);have hu:bd.un st.ss[b] d < B.length:=by rw[H];have:bd.un st.ss[b] d<=mx (bd.un · d) bd.S:=OJ (f:=(bd.un · d)) l;ext
 exact⟨bd,_,_,c,E,l,hd,aj hu,o _ (b8 hu),(ok.2.2.2.2 _ _ l hd).1,ok⟩
theorem M6{xs:List D}{i:Nat}{v:D}(g:i < xs.length)(c:xs.length<=100):wp (jn [.tup xs,.int i,v]) Q s=Q (.tup (xs.set i v)) s:=by
 have w:∀Q,wp (c2 c8 (c2 c8 (dP (al 0) gY (gc (al 1))) (bo (ac (al 2) aH))) (dP (al 0) (gc (c2 c8 (al 1) (aw (.int 1)))) gY) [some (.tup xs),some (.int i),some v]) Q s=Q (.tup (xs.set i v)) s:=λQ=>K3 g c (λQ=>vh) (λQ=>vw) (λQ=>Bf)
 (simp![jn];simp![yv,↓w])
theorem IC{b d k:Nat}{c:List Nat}{bd:Bd}{x g:Nat}(e:bL h st k=.act b d c)(u:h.boards[b]?=some bd)(o:st.ss[b]?=some x)(l:c[bd.un x d]?=some g):lE h st k=⟨st.ls.set k g,st.ss.set b (bd.nx x d)⟩:=by unfold lE;rw[e];dsimp only;rw[u,o];dsimp only;rw[l];rfl
theorem JC{v k:Nat}(e:bL h st k=.settle v):lE h st k=st:=by unfold lE;rw[e]
theorem Pe{k:Nat}(hh:iz h)(o:ia h st)(U:k < h.hands.length):ia h (lE h st k):=by
 obtain⟨hd,l,e1,e2,hl,e3,ok⟩:=BS hh o U;cases el:bL h st k with
 |settle v=>rw[JC el];exact o
 |act b d gs=>
  rw[el]at ok;obtain⟨bd,x,g,O,L,f3,f4,Q,q,Y,f8⟩:=JR hh o ok;rw[IC el O L Q];refine⟨by show (st.ls.set k g).length=_;rw[b_];exact o.1,by show (st.ss.set b _).length=_;rw[b_];exact o.2.1,λB C J u H=>?_,λG E I u H=>?_⟩
  ·have c:(st.ls.set k g)[B]?=some J:=H;by_cases e:k=B
   ·subst e;rw[e1]at u;cases u;rw[aE (ae.mp e2).1]at c;cases c;exact q
   ·rw[au e]at c;exact o.2.2.1 B C J u c
  ·have c:(st.ss.set b (bd.nx x d))[G]?=some I:=H;by_cases e:b=G
   ·subst e;rw[O]at u;cases u;rw[aE (ae.mp L).1]at c;cases c;exact Y
   ·rw[au e]at c;exact o.2.2.2 G E I u c
theorem Ra{bd:Bd}{x d:Nat}(c:x < bd.S)(hd:d < bd.dn):wp (ju [fK bd.S bd.dn bd.nx bd.un,.int x,.int d]) Q s=Q (.int (bd.nx x d:Nat)) s:=by (simp![ju];simp![yg,fK,↓ww c,↓ww hd])
theorem WO{bd:Bd}{x d:Nat}(c:x < bd.S)(hd:d < bd.dn):wp (jV [fK bd.S bd.dn bd.nx bd.un,.int x,.int d]) Q s=Q (.int (bd.un x d:Nat)) s:=by (simp![jV];simp![yF,fK,↓ww c,↓ww hd])
theorem Ux{k:Nat}(hh:iz h)(c:ia h st)(u:k < h.hands.length):wp (jL [eR h,cM st,.int k]) Q s=Q (cM (lE h st k)) s:=by
 obtain⟨hd,l,e1,e2,hl,e3,ok⟩:=BS hh c u;have w:∀Q s,wp (jk [eR h,cM st,.int k]) Q s=Q (ij (bL h st k)) s:=λQ s=>Mq hh c u;cases el:bL h st k with
 |settle v=>
  rw[JC el];rw[el]at w;simp only[ij]at w
  (simp![jL];simp![yo,↓w,Fj])
 |act b d gs=>
  rw[el]at ok w;obtain⟨bd,x,g,O,C,f3,L,J,f6,f7,f8⟩:=JR hh c ok;rw[IC el O C J];simp only[ij]at w;have o:k < (st.ls.map bC).length:=by rw[af,c.1];exact u
  have B:b < (st.ss.map bC).length:=by rw[af];exact (ae.mp C).1
  have z1:=c.1;have z2:=c.2.1;have z3:=hh.1;have z4:=hh.2.2.2.1;have q:∀Q s,wp (c6 (h.boards.map tY) (b:Int)) Q s=Q (.tup [fK bd.S bd.dn bd.nx bd.un,bC bd.st]) s:=λQ s=>sQ (by rw[ao,O];rfl);have I:∀Q s,wp (c6 (st.ss.map bC) (b:Int)) Q s=Q (.int (x:Nat)) s:=λQ s=>Cp C;have H:∀Q s,wp (c6 (gs.map bC) ((bd.un x d:Nat):Int)) Q s=Q (.int (g:Nat)) s:=λQ s=>Cp J;have Y:∀Q s,wp (jV [fK bd.S bd.dn bd.nx bd.un,.int x,.int d]) Q s=Q (.int (bd.un x d:Nat)) s:=λQ s=>WO f3 L;have U:∀Q s,wp (ju [fK bd.S bd.dn bd.nx bd.un,.int x,.int d]) Q s=Q (.int (bd.nx x d:Nat)) s:=λQ s=>Ra f3 L;have G:∀Q s,wp (jn [.tup (st.ls.map bC),.int k,.int g]) Q s=Q (.tup ((st.ls.map bC).set k (.int g))) s:=λQ s=>M6 o (by rw[af];ext);have E:∀Q s,wp (jn [.tup (st.ss.map bC),.int b,.int (bd.nx x d:Nat)]) Q s=Q (.tup ((st.ss.map bC).set b (.int (bd.nx x d:Nat)))) s:=λQ s=>M6 B (by rw[af];ext);have l2:2<=dN:=fA (by ext);unfold bC at w;have nd:∀n:Nat,D.int (n:Int)=bC n:=λ_=>rfl
  (simp![jL];simp![yo,↓w,Em,aT,if_false])
  unfold eR cM;unfold bC at I H G E ⊢;simp![↓q,↓I,↓H,↓Y,↓U,↓G,↓E,l2];rw[iX,iX]
end
open PySem (Str)
noncomputable def iO:Nat->List (List D)
 |0=>[[]]
 |n+1=>((iO n).map λx=>.int 0::x)++((iO n).map λx=>.int 1::x)
theorem Ii:∀n,(iO n).length=2^n
 |0=>rfl
 |n+1=>by simp only[iO,aN,af,Ii n,pX];ext
theorem zW:∀n,∀x∈iO n,x.length=n/\∀(k:Nat)d,x[k]?=some d->d=.int 0\/d=.int 1
 |0,x,h=>by simp[iO]at h;simp[h]
 |n+1,x,h=>by
  simp only[iO,aU,bR]at h;rcases h with ⟨y,c,e⟩|⟨y,c,e⟩
  ·obtain⟨a,b⟩:=zW n y c;rw[<- e];refine⟨by simp[a],λk d hd=>?_⟩;cases k with
   |zero=>exact .inl (by simpa using hd.symm)
   |succ k=>exact b k d (by simpa using hd)
  ·obtain⟨a,b⟩:=zW n y c;rw[<- e];refine⟨by simp[a],λk d hd=>?_⟩;cases k with
   |zero=>exact .inr (by simpa using hd.symm)
   |succ k=>exact b k d (by simpa using hd)
section
variable{s:aX}{Q:D->aX->Prop}{h:Hs}
noncomputable def bf(h:Hs)(row:List D)(k:Nat):Nat:=match h.hands[k]?,row[k]? with
 |some hd,some (.int v)=>if v=0 then hd.b0 else hd.b1
 |_,_=>0
noncomputable def xx(h:Hs)(k:Nat):Nat:=(h.boards[k]?.map (·.st)).getD 0
def e_(h:Hs)(row:List D):Sd:=⟨cf h.hands.length (bf h row),cf h.boards.length (xx h)⟩
theorem KS{row:List D}(hh:iz h)(G:row∈iO h.hands.length):ia h (e_ h row):=by
 obtain⟨E,c⟩:=zW _ row G;refine⟨qW,qW,λk hd l g u=>?_,λb bd x g u=>?_⟩
 ·obtain⟨H,el⟩:=CM u;obtain⟨C,o,_⟩:=hh.2.2.2.2 hd (av g);have q:k < row.length:=by ext
  have B:row[k]?=some row[k]:=aj q;rw[el];unfold bf;rcases c k _ B with e|e<;>rw[g,B,e]
  ·exact C
  ·exact o
 ·obtain⟨H,el⟩:=CM u;obtain⟨_,o⟩:=hh.2.1 bd (av g);rw[el];unfold xx;rw[g];exact o
theorem YL{row:List D}{k:Nat}{Q:D->aX->Prop}(u:row∈iO h.hands.length)(B:k < h.hands.length):∃(hd:Hd)(v:Int),h.hands[k]?=some hd/\row[k]?=some (.int v)/\(v=0/\bf h row k=hd.b0\/v=1/\bf h row k=hd.b1):=by
 obtain⟨q,g⟩:=zW _ row u;have l:h.hands[k]?=some h.hands[k]:=aj B;have o:k < row.length:=by ext
 have c:row[k]?=some row[k]:=aj o;rcases g k _ c with e|e<;>rw[e]at c
 ·exact⟨_,0,l,c,.inl ⟨rfl,by unfold bf;rw[l,c];rfl⟩⟩
 ·exact⟨_,1,l,c,.inr ⟨rfl,by unfold bf;rw[l,c];rfl⟩⟩
end
theorem IE{g:CG}{t:CT}{e:CE}{same:aX->Prop}{ds:List D}{J:Loc}{f:Nat->D}{p:Nat->Bool}{Q:List D->aX->Prop}{s:aX}(I:Loc->Prop)(hs:same s)(h0:I J)
  (h:∀i d l,ds[i]?=some d->I l->∃q,(∀G,wp (g d l) G s=G q s)/\I q/\(∀T,wp (t q) T s=T (p i) s)/\∀Q,wp (e q) Q s=Q (f i) s):
  wp (collect g t e same ds J) Q s=Q (((bU ds.length).filter p).map f) s:=by
 have chk:∀{R:Unit->aX->Prop},R () s->wp (chkS same) R s:=λr=>by rw[qr];unfold chkS;rw[aJ hs];exact r
 apply Oz;refine F1 (Q:=λout o=>out=((bU ds.length).filter p).map f/\o=s) (λout xs l o=>∃i,xs=ds.drop i/\i<=ds.length/\I l/\out=((bU i).filter p).map f/\o=s) (λout l o C=>?_) (λout d xs l o C=>?_) ds [] _ s ⟨0,by simp,bn _,h0,rfl,rfl⟩
 ·obtain⟨i,u,hi,_,B,E⟩:=C;have:i=ds.length:=by have:=cU cP u;simp at this;ext
  subst this;subst E;exact chk ⟨B,rfl⟩
 ·obtain⟨i,u,hi,o,B,E⟩:=C;have c:i < ds.length:=by have:=cU cP u;simp at this;ext
  rw[cQ c]at u;obtain⟨G,O⟩:=la u;obtain⟨q,g,H,U,Y⟩:=h i d l (by rw[G];exact aj c) o;subst E;refine chk ?_;rw[g,U];cases L:p i with
  |true=>
   rw[aJ rfl,Y];exact⟨i+1,O,c,H,by rw[B,m9,lC,bq];simp[L],rfl⟩
  |false=>
   rw[aG (by simp)];exact⟨i+1,O,c,H,by rw[B,m9,lC,bq];simp[L],rfl⟩
def mX:Ln->D
 | .settle v=>bC v
 | .act _ _ _=>.non
noncomputable def ky:Ln->Bool
 | .settle _=>false
 | .act _ _ _=>true
def i7(h:Hs)(st:Sd):List D:=cf h.hands.length λk=>mX (bL h st k)
def uK(h:Hs)(st:Sd)(n:Nat):List D:=((bU n).filter λk=>ky (bL h st k)).map λk=>.int (k:Nat)
section
variable{s:aX}{Q:D->aX->Prop}{h:Hs}{st:Sd}
theorem Yy{c:Ln}:wp (jm [ij c]) Q s=Q (mX c) s:=by
 cases c with
 |settle v=>(simp![jm];simp![j5,ij,mX,Fj,if_true])
 |act b d gs=>(simp![jm];simp![j5,ij,mX,Em,aT,if_false])
theorem Bm{Q:D->aX->Prop}{s:aX}:wp (aQ (eR h) (.int 1)) Q s=Q (.tup (h.hands.map ny)) s:=by unfold eR;rw[iH,lX]
theorem MI(hh:iz h)(q:ia h st):wp (ji [eR h,cM st]) Q s=Q (.tup (i7 h st)) s:=by
 have C:=hh.2.2.2.1;have B:=rb (show h.hands.length<=100 by ext);have o:h.hands.length<=dN:=fA (by ext);have l:∀Q s,wp (aQ (eR h) (.int 1)) Q s=Q (.tup (h.hands.map ny)) s:=λQ s=>Bm;have w:∀A s,wp (collect (aO 0) cz (bu jm (ac (bu jk (ac (al 1) (ac (al 2) (ac (al 0) aH)))) aH)) eU (cf h.hands.length λi=>.int i) [none,some (eR h),some (cM st)]) A s=A (i7 h st) s:=λA s=>Al vq λk u Q=>by have g:∀Q s,wp (jk [eR h,cM st,.int k]) Q s=Q (ij (bL h st k)) s:=λQ s=>Mq hh q u;have c:∀Q s,wp (jm [ij (bL h st k)]) Q s=Q (mX (bL h st k)) s:=λQ s=>Yy;simp![↓g,↓c]
 (simp![ji];simp![yD,↓l,af,B,fZ,bc,zZ,qW,o,↓w])
theorem Ur{c:Ln}{T:Bool->aX->Prop}: wp (va (mX c) .non) (λx g=>match x with
  | .bl b=>T b g
  |_=>False) s=T (ky c) s:=by
 cases c<;>(unfold mX ky bC va Dk;rw[cj])
theorem sx(hh:iz h)(q:ia h st):wp (yf [eR h,cM st]) Q s=Q (.ref s.length) (s++[.lst (uK h st h.hands.length)]):=by
 have B:=hh.2.2.2.1;have o:h.hands.length<=dN:=fA (by ext);have g:∀Q s,wp (ji [eR h,cM st]) Q s=Q (.tup (cf h.hands.length λk=>mX (bL h st k))) s:=λQ s=>MI hh q;have w:∀A s,wp (collect (gZ 2 (cA (aO 0) (cA (aO 1) ib))) (dg (c2 va (al 1) (aw .non))) (al 0) eU (cf h.hands.length λi=>.tup [.int i,mX (bL h st i)]) [none,none]) A s=A (uK h st h.hands.length) s:=λA s=>by
  rw[IE (f:=λk=>.int (k:Nat)) (p:=λk=>ky (bL h st k)) (λl=>∃x y,l=[x,y]) vq ⟨_,_,rfl⟩ (λi d l hd c=>by
   obtain⟨x,y,el⟩:=c;obtain⟨C,u⟩:=CM hd;refine⟨[some (.int i),some (mX (bL h st i))],λG=>?_,⟨_,_,rfl⟩,λT=>?_,λQ=>?_⟩
   ·rw[u,el,ui,oA,fB,oA,fB,uj];exact propext ⟨λh=>h.2,λh=>⟨rfl,h⟩⟩
   ·simp only[↓z0,↓vg,↓i8,↓sZ,tV,List.getElem?_cons_succ];exact Ur
   ·simp only[↓i8,tV]),qW]
  rfl
 (simp![yf];simp![yI,↓g,qW,Sn,fZ,o,↓w])
theorem LL{row:List D}{A:List D->aX->Prop}(l:row∈iO h.hands.length):wp (collect (gZ 2 (cA (aO 0) (cA (aO 1) ib))) cz (c2 aQ (c2 aQ (al 0) (aw (.int 0))) (al 1)) eU ((h.hands.map ny).zipWith (λp q=>D.tup [p,q]) row) [none,none]) A s=A (cf h.hands.length λk=>bC (bf h row k)) s:=by
 obtain⟨u,g⟩:=zW _ row l;have c:((h.hands.map ny).zipWith (λp q=>D.tup [p,q]) row).length=h.hands.length:=by rw[kT,af];ext
 rw[Ol (f:=λk=>bC (bf h row k)) (caps:=[]) vq (λi d hd=>by
  have B:i < h.hands.length:=by rw[<- c];exact (ae.mp hd).1
  obtain⟨C,v,H,G,E⟩:=YL (Q:=λ_ _=>True) l B;rw[j_,ao,H,G]at hd;refine⟨_,_,(aM hd).symm,λQ=>?_⟩;rcases E with ⟨e,o⟩|⟨e,o⟩<;>subst e<;>rw[o]<;>simp![ny]),c]
theorem Oh{row:List D}(hh:iz h)(B:row∈iO h.hands.length):wp (jy [eR h,.tup row]) Q s=Q (cM (e_ h row)) s:=by
 obtain⟨L,u⟩:=zW _ row B;have Y:=hh.1;have U:=hh.2.2.2.1;have J:2<=dN:=fA (by ext);have H:h.boards.length<=dN:=fA (by ext);have G:((h.hands.map ny).zipWith (λp q=>D.tup [p,q]) row).length<=dN:=fA (by rw[kT,af];ext);have c : ∀{a b : CE}{I : Wk -> aX -> Prop}{l : Loc}{s : aX}, wp (pC a b l) I s = wp (a l) (λx o => wp (b l) (λy g => match x, y with
   | .tup ds,.tup es=>I ⟨ds.zipWith (λp q=>.tup [p,q]) es,eU⟩ g
   |_,_=>False) o) s:=λ{a b I l s}=>by
  unfold pC;rw[d9];congr 1;funext x o;rw[d9];congr 1;funext y g;cases x<;>cases y<;>first|exact cj|exact ma|exact qM rfl|exact dh rfl
 have E:∀A s,wp (collect (gZ 2 (cA (aO 0) (cA (aO 1) ib))) cz (c2 aQ (c2 aQ (al 0) (aw (.int 0))) (al 1)) eU ((h.hands.map ny).zipWith (λp q=>D.tup [p,q]) row) [none,none]) A s=A (cf h.hands.length λk=>bC (bf h row k)) s:=λA s=>LL B;have C:∀A s,wp (collect (gZ 2 (cA (aO 0) (cA (aO 1) ib))) cz (al 1) eU (h.boards.map tY) [none,none]) A s=A (cf h.boards.length λk=>bC (xx h k)) s:=λA s=>by
  rw[Ol (f:=λk=>bC (xx h k)) (caps:=[]) vq (λi d hd=>by
   rw[ao]at hd;cases ex:h.boards[i]? with
   |none=>rw[ex]at hd;cases hd
   |some x=>
    rw[ex]at hd;have O:xx h i=x.st:=by unfold xx;rw[ex];rfl
    refine⟨_,_,(aM hd).symm,λQ=>?_⟩;rw[O];simp![]),af]
 (simp![jy];simp![yH,eR,↓c,fZ,G,↓E,af,H,↓C,J])
 unfold cM e_;dsimp only;rw[GO,GO]
end
open PySem (Str)
section
variable{s:aX}{Q:D->aX->Prop}{h:Hs}
def vm(B:Nat)(h:Hs)(st:Sd):Nat:=qV B st.ls*uR h.boards+mQ (h.boards.map (·.S)) st.ss
theorem JM:∀bs:List Bd,pr (bs.map (·.S))=uR bs
 |[]=>rfl
 |b::bs=>by show b.S*pr (bs.map (·.S))=b.S*uR bs;rw[JM bs]
theorem Jq{B:Nat}{st:Sd}(l:ia h st)(u:∀x∈h.hands,x.lines.length<=B):∀x∈st.ls,x < B:=λx q=>by
 obtain⟨k,o⟩:=fI q;have g:=(ae.mp o).1;have c:k < h.hands.length:=by rw[<- l.1];exact g
 have e:=aj c;have E:=l.2.2.1 k _ _ e o;have C:=u _ (b8 c);ext
theorem Fh{st:Sd}(l:ia h st):∀(i b x:Nat),(h.boards.map (·.S))[i]?=some b->st.ss[i]?=some x->x < b:=λi b x c g=>by
 rw[ao]at c;cases e:h.boards[i]? with
 |none=>rw[e]at c;cases c
 |some bd=>
  rw[e]at c;cases c;exact l.2.2.2 i bd x e g
theorem VO{B:Nat}{st:Sd}(l:∀x∈h.hands,x.lines.length<=B)(q:B^h.hands.length*uR h.boards<=600)(c:ia h st):vm B h st < 600:=by have g:=Gi (Jq c l);have o:=Cw (by rw[af];exact c.2.1) (Fh c);rw[JM]at o;unfold vm;rw[c.1]at g;have:(qV B st.ls+1)*uR h.boards<=B^h.hands.length*uR h.boards:=og _ g;rw[pV]at this;ext
theorem Wu{B:Nat}{a b:Sd}(C:∀x∈h.hands,x.lines.length<=B)(g:ia h a)(c:ia h b)(e:vm B h a=vm B h b):a=b:=by
 have o:=Cw (by rw[af];exact g.2.1) (Fh g);have l:=Cw (by rw[af];exact c.2.1) (Fh c);rw[JM]at o l;unfold vm at e;have q:qV B a.ls=qV B b.ls/\mQ (h.boards.map (·.S)) a.ss=mQ (h.boards.map (·.S)) b.ss:=by
  generalize uR h.boards=p at e o l;have u:0 < p:=by ext
  have I:(qV B a.ls*p+mQ (h.boards.map (·.S)) a.ss) / p=qV B a.ls:=by rw[gq,iE u,ii o];simp
  have H:(qV B b.ls*p+mQ (h.boards.map (·.S)) b.ss) / p=qV B b.ls:=by rw[gq,iE u,ii l];simp
  have:qV B a.ls=qV B b.ls:=by rw[<- I,<- H,e]
  rw[this]at e;exact⟨this,by ext⟩
 have G:=Lz (by rw[g.1,c.1]) (Jq g C) (Jq c C) q.1;have E:=OO (by rw[af];exact g.2.1) (by rw[af];exact c.2.1) (Fh g) (Fh c) q.2;cases a;cases b;simp only at G E;rw[G,E]
theorem Ng{α β:Type}{f:α->β}:∀{l:List α},l.Nodup->(∀a∈l,∀b∈l,f a=f b->a=b)->(l.map f).Nodup
 |[],_,_=>nU
 |x::xs,hn,hi=>by obtain⟨B,u⟩:=kG.mp hn;rw[aL];refine kG.mpr ⟨λg=>?_,Ng u λa q b o=>hi a (by simp[q]) b (by simp[o])⟩;obtain⟨y,c,e⟩:=bR.mp g;have:=hi y (by simp[c]) x (by simp) e;exact B (this ▸ c)
theorem few{l:List Sd}(E:oE h)(C:l.Nodup)(c:∀x∈l,ia h x):l.length<=600:=by
 obtain⟨_,B,q,G⟩:=E;have:=Gk 600 (l.map (vm B h)) (Ng C λa o b g e=>Wu q (c a o) (c b g) e) (λx u=>by obtain⟨a,o,e⟩:=bR.mp u;rw[<- e];exact VO q G (c a o))
 rwa [af]at this
theorem vZ(st:Sd):oV true (cM st)=true:=QQ st.ls st.ss
theorem G3(a b:Sd):gH (cM a) (cM b)=decide (a=b):=by
 have:=W9 a.ls a.ss b.ls b.ss
 show gH (cM a) (cM b)=_;unfold cM;refine this.trans ?_;cases a;cases b;simp only[Sd.mk.injEq,m7]
theorem GN{order:List Sd}:∀{c:List (D×D)},c.map (·.1)=order.map cM->∀st,(kJ c (cM st)).isSome=decide (st∈order):=by
 induction order with
 |nil=>
  intro c g st;cases c with
  |nil=>rfl
  |cons p ps=>cases g
 |cons x xs ih=>
  intro c g st;cases c with
  |nil=>cases g
  |cons p ps=>
   rw[aL,aL]at g;obtain⟨o,l⟩:=la g;unfold kJ;rw[cC,o,G3];by_cases e:x=st
   ·rw[cT e];simp[e]
   ·rw[aP e];have:=ih l st;unfold kJ at this;rw[this];have q:¬ st=x:=λz=>e z.symm;simp[q]
end
noncomputable def ki(xs:List Sd)(x:Sd):List Sd:=if x∈xs then xs else xs++[x]
def gA(h:Hs)(st:Sd):List Nat:=(bU h.hands.length).filter λk=>ky (bL h st k)
def qu(h:Hs)(x:Sd)(ks:List Nat)(xs:List Sd):List Sd:=ks.foldl (λys k=>ki ys (lE h x k)) xs
def nV(h:Hs)(rows:List (List D)):List Sd:=rows.foldl (λys row=>ki ys (e_ h row)) []
def gm(h:Hs):Nat->List Sd
 |0=>nV h (iO h.hands.length)
 |i+1=>match (gm h i)[i]? with
  |some x=>qu h x (gA h x) (gm h i)
  |none=>gm h i
def Good(h:Hs)(xs:List Sd):Prop:=xs.Nodup/\∀x∈xs,ia h x
section
variable{h:Hs}
theorem N2{xs:List Sd}{x:Sd}(g:Good h xs)(l:ia h x):Good h (ki xs x):=by
 unfold ki;by_cases e:x∈xs
 ·rw[aJ e];exact g
 ·rw[aG e];refine⟨d8.mpr ⟨g.1,by simp,λa q b o=>?_⟩,λy c=>?_⟩
  ·rw[aC.mp o];exact λz=>e (z ▸ q)
  ·rcases aU.mp c with c|c
   ·exact g.2 y c
   ·rw[aC.mp c];exact l
theorem J_(hh:iz h){x:Sd}(c:ia h x):∀{ks:List Nat}{xs:List Sd},(∀k∈ks,k < h.hands.length)->Good h xs->Good h (qu h x ks xs)
 |[],_,_,g=>g
 |k::ks,xs,hk,g=>J_ hh c (ks:=ks) (λy l=>hk y (by simp[l])) (N2 g (Pe hh c (hk k (by simp))))
theorem Io(hh:iz h):∀{rows:List (List D)}{xs:List Sd},(∀r∈rows,r∈iO h.hands.length)->Good h xs->Good h (rows.foldl (λys row=>ki ys (e_ h row)) xs)
 |[],_,_,g=>g
 |r::rows,xs,hr,g=>Io hh (rows:=rows) (λy c=>hr y (by simp[c])) (N2 g (KS hh (hr r (by simp))))
theorem GU{st:Sd}{k:Nat}(c:k∈gA h st):k < h.hands.length:=dk.mp (iB.mp c).1
theorem Bv(hh:iz h):∀i,Good h (gm h i)
 |0=>Io hh (λr c=>c) ⟨nU,by simp⟩
 |i+1=>by
  have g:=Bv hh i;unfold gm;cases e:(gm h i)[i]? with
  |none=>exact g
  |some x=>exact J_ hh (g.2 x (av e)) (λk l=>GU l) g
theorem JU(xs:List Sd)(x:Sd):∃t,ki xs x=xs++t:=by
 unfold ki;by_cases e:x∈xs
 ·exact⟨[],by rw[aJ e];simp⟩
 ·exact⟨[x],by rw[aG e]⟩
theorem JP{x:Sd}:∀(ks:List Nat)(xs:List Sd),∃t,qu h x ks xs=xs++t
 |[],xs=>⟨[],by simp[qu]⟩
 |k::ks,xs=>by
  obtain⟨t,e⟩:=JU xs (lE h x k);obtain⟨u,f⟩:=JP (x:=x) ks (ki xs (lE h x k));refine⟨t++u,?_⟩
  show qu h x ks (ki xs (lE h x k))=_;rw[f,e,dG]
theorem Hf(i:Nat):∃t,gm h (i+1)=gm h i++t:=by
 show ∃t,(match (gm h i)[i]? with
  |some x=>qu h x (gA h x) (gm h i)
  |none=>gm h i)=_
 cases (gm h i)[i]? with
 |none=>exact⟨[],by simp⟩
 |some x=>exact JP _ _
theorem Mh{i j:Nat}(c:i<=j):(gm h i).length<=(gm h j).length:=by
 induction j with
 |zero=>cases Nat.le_zero.mp c;exact ax _
 |succ j ih=>
  by_cases e:i=j+1
  ·subst e;exact ax _
  ·obtain⟨t,g⟩:=Hf (h:=h) j;rw[g,aN];have:=ih (by ext);ext
def vo(h:Hs)(i:Nat):Prop:=∀j,j < i->j < (gm h j).length
def ud(h:Hs)(i:Nat):Prop:=vo h i/\(gm h i).length<=i
theorem JN(c:oE h){i:Nat}(g:vo h i):(gm h i).length<=600/\i<=600:=by
 have l:=few c (Bv c.1 i).1 (Bv c.1 i).2;refine⟨l,?_⟩;cases i with
 |zero=>ext
 |succ i=>
  have:=g i (by ext);have:=Mh (h:=h) (show i<=i+1 by ext);ext
end
section
variable{s u:aX}{Q:D->aX->Prop}{h:Hs}{no nd:Nat}{xs:List Sd}
theorem Xd{x:Sd}{ks:List Nat}{j k:Nat}(e:ks[j]?=some k):qu h x (ks.take (j+1)) xs=ki (qu h x (ks.take j) xs) (lE h x k):=by obtain⟨c,g⟩:=ae.mp e;rw[cE c,g];unfold qu;rw[pI];rfl
theorem WK{rows:List (List D)}{j:Nat}{r:List D}(e:rows[j]?=some r):nV h (rows.take (j+1))=ki (nV h (rows.take j)) (e_ h r):=by obtain⟨c,g⟩:=ae.mp e;rw[cE c,g];unfold nV;rw[pI];rfl
end
open PySem (Str)
section
variable{s u:aX}{Q:D->aX->Prop}{h:Hs}{no nd:Nat}{xs:List Sd}{l:Loc}
theorem NI{a b c:CE}: wp (oD a b c l) Q s=wp (a l) (λx q=>match x with
  | .dic n=>wp (getDc n) (λp o=>p.1=true/\wp (b l) (λy g=>wp (c l) (λz B=>wp (lv n y z) Q B) g) o) q
  |_=>False) s:=by
 unfold oD;rw[d9];refine pB λx q=>?_;cases x with
 |dic n=>
  dsimp only;rw[d9];refine pB λp o=>?_;rw[dQ,d9];refine cU _ (pB λy g=>?_);rw[d9]
 |_=>exact qM rfl
theorem Sm{n:Nat}{c:List (D×D)}{k v d:D}(g:s[n]?=some (.dct true c))(q:oV true k=true)(o:c.length < dN)(e:kJ c k=some d):wp (lv n k v) Q s=Q d s:=by unfold lv;rw[d9,zF g,dQ];dsimp only;rw[e];dsimp only;rw[cj];exact propext ⟨λz=>z.2,λz=>⟨⟨rfl,q,o⟩,z⟩⟩
theorem XO{n:Nat}{c:List (D×D)}{k v:D}(g:s[n]?=some (.dct true c))(q:oV true k=true)(o:c.length < dN)(e:kJ c k=none):wp (lv n k v) Q s=Q v (s.set n (.dct true (ke c k v))):=by unfold lv;rw[d9,zF g,dQ];dsimp only;rw[e];dsimp only;rw[d9,LK g,cj];exact propext ⟨λz=>z.2,λz=>⟨⟨rfl,q,o⟩,z⟩⟩
theorem Yv{n:Nat}{c:List (D×D)}(g:s[n]?=some (.dct true c)):wp (pd (.dic n)) Q s=Q (.ref s.length) (s++[.lst (c.map (·.1))]):=by unfold pd;dsimp only;rw[d9,zF g,dQ,iI];exact propext ⟨λz=>z.2,λz=>⟨rfl,z⟩⟩
noncomputable def pK:Nat->List (List D)
 |0=>[[]]
 |n+1=>(pK n).flatMap λx=>[x++[.int 0],x++[.int 1]]
theorem OX{n:Nat}(c:n=2\/n=3):pK n=iO n:=by rcases c with rfl|rfl<;>rfl
theorem JF:∀n,∀x∈pK n,x.length=n
 |0,x,h=>by simp[pK]at h;simp[h]
 |n+1,x,h=>by obtain⟨y,c,e⟩:=List.mem_flatMap.mp h;have:=JF n y c;simp at e;rcases e with e|e<;>rw[e]<;>simp[this]
theorem HI:∀n,(pK n).length=2^n
 |0=>rfl
 |n+1=>by
  have:∀l:List (List D),(l.flatMap λx=>[x++[D.int 0],x++[D.int 1]]).length=2*l.length:=by
   intro l
   induction l with
   |nil=>rfl
   |cons a t ih=>rw[pJ,aN,ih,bV];simp;ext
  show ((pK n).flatMap _).length=_;rw[this,HI n,pX];ext
theorem Pg(hh:iz h)(hq:∀r u,s.length<=r->u[r]?=some (.lst ((iO h.hands.length).map D.tup))->dZ s u->Q (.ref r) u):wp (jA [eR h]) Q s:=by
 have hn:h.hands.length=2\/h.hands.length=3:=by have:=hh.2.2.1;have:=hh.2.2.2.1;ext
 have Y:1<=dN:=fA (by ext);have wh:∀(Q:D->aX->Prop)s,wp (aQ (eR h) (.int 1)) Q s=Q (.tup (h.hands.map ny)) s:=λQ s=>Bm
 (simp![jA];simp![yl,bn,Y,↓wh])
 refine tZ (λi l u=>∃(n:Nat)(O L q:Option D),l=[some (eR h),some (.ref n),O,L,q]/\s.length<=n/\u[n]?=some (.lst ((pK i).map D.tup))/\dZ s u) (λ_ _ _ _=>trivial)
  ⟨_,_,_,_,rfl,ax _,ko,(dZ.refl _).snoc _⟩ (λRw1 i d l u up1 rt1 hd B=>?_) (λl u B=>?_)
 ·obtain⟨n,O,L,q,el,H,g,ex⟩:=B;subst el;have hi:=(ae.mp hd).1;rw[af]at hi;have hi3:i < 3:=by ext
  have hcn:=HI i;have hp:2^i<=8:=by rcases (show i=0\/i=1\/i=2 by ext) with rfl|rfl|rfl<;>decide
  have gn:(u++[MO.lst []])[n]?=some (.lst ((pK i).map D.tup)):=mD g;have lnn:=kc g;simp![bn,↓fU gn];refine tZ (λj l v=>∃q,l=[some (eR h),some (.ref n),some d,some (.ref u.length),q]/\v[n]?=some (.lst ((pK i).map D.tup))/\v[u.length]?=some (.lst ((((pK i).take j).flatMap λx=>[x++[.int 0],x++[.int 1]]).map D.tup))/\dZ s v) (λ_ _ _ w=>by obtain⟨_,_,g,_⟩:=w;exact g)
   ⟨_,rfl,gn,ko,ex.snoc _⟩ (λRw2 j e l v U rt2 I B=>?_) (λl v B=>?_)
  ·obtain⟨q,el,g1,o,C⟩:=B;subst el;rw[ao]at I;cases J:(pK i)[j]? with
   |none=>rw[J]at I;cases I
   |some row=>
    rw[J]at I;have ed:e=.tup row:=(aM I).symm;subst ed;obtain⟨hj,e2⟩:=ae.mp J;have hrl:=JF i row (av J);have tk:(pK i).take (j+1)=(pK i).take j++[row]:=by rw[cE hj,e2]
    generalize G:((pK i).take j).flatMap (λx=>[x++[D.int 0],x++[D.int 1]])=ys at o;have O:ys.length<=16:=by
     have:∀l:List (List D),(l.flatMap λx=>[x++[D.int 0],x++[D.int 1]]).length=2*l.length:=by
      intro l
      induction l with
      |nil=>rfl
      |cons a t ih=>rw[pJ,aN,ih,bV];simp;ext
     rw[<- G,this,cn];ext
    have g:∀c,(v.set u.length (MO.lst c))[u.length]?=some (.lst c):=λc=>aE (kc o);have H:∀c Q,wp (getL u.length) Q (v.set u.length (MO.lst c))=Q c (v.set u.length (MO.lst c)):=λc Q=>fU (g c);have h:∀c E Q,wp (putL u.length E) Q (v.set u.length (MO.lst c))=Q () ((v.set u.length (MO.lst c)).set u.length (.lst E)):=λc E Q=>rh (g c);have L:row.length+1<=dN:=fA (by ext);simp![Y,L,↓fU o,↓rh o,↓H,↓h,aN,af,bV,gD];have hu:=ex.le;refine⟨rl (by ext),rl (by ext),U ⟨_,rfl,?_,?_,(C.put hu).put hu⟩⟩
    ·rw[au (by ext),au (by ext)];exact g1
    ·rw[aE (by rw[b_];exact kc o),tk,vU,G];simp
  ·obtain⟨q,el,g1,o,C⟩:=B;subst el;rw[af,fY]at o;simp![];exact up1 ⟨_,_,_,_,rfl,by have:=ex.le;ext,o,C⟩
 ·obtain⟨n,O,L,q,el,H,g,ex⟩:=B;subst el;rw[af,OX hn]at g;simp![];exact hq n u H g ex
def pA:List Sd->Nat->List (D×D)
 |[],_=>[]
 |x::xs,i=>(cM x,bC i)::pA xs (i+1)
theorem Dj{y:Sd}:∀(xs:List Sd)(i:Nat),kJ (pA xs i) (cM y)=if y∈xs then some (bC (i+xs.idxOf y)) else none
 |[],i=>rfl
 |x::xs,i=>by
  have c:=Dj (y:=y) xs (i+1);unfold kJ at c ⊢;rw[pA,cC];dsimp only;rw[G3];by_cases e:x=y
  ·subst e;simp
  ·have o:¬ y=x:=λz=>e z.symm;simp only[aP e];rw[c,q_];have:(x == y)=false:=by simp[e]
   rw[this];simp only[aI,o,false_or,cond_false];by_cases g:y∈xs
   ·simp only[g,if_true];congr 2;ext
   ·simp only[g,if_false]
theorem Np{y:Sd}:∀(xs:List Sd)(i:Nat),pA (xs++[y]) i=pA xs i++[(cM y,bC (i+xs.length))]
 |[],i=>rfl
 |x::xs,i=>by rw[kh,pA,pA,Np xs (i+1),kh,bV,show i+1+xs.length=i+(xs.length+1) by ext]
theorem Ik:∀(xs:List Sd)(i:Nat),(pA xs i).length=xs.length
 |[],i=>rfl
 |x::xs,i=>by rw[pA,bV,Ik xs,bV]
theorem MS:∀(xs:List Sd)(i:Nat),(pA xs i).map (·.1)=xs.map cM
 |[],i=>rfl
 |x::xs,i=>by rw[pA,aL,MS xs,aL]
theorem NM{y:Sd}(q:y∉xs):ke (pA xs 0) (cM y) (bC xs.length)=pA (xs++[y]) 0:=by
 have c:=Dj (y:=y) xs 0;rw[aG q]at c;have B:((pA xs 0).any λp=>gH p.1 (cM y))=false:=by
  cases e:(pA xs 0).any λp=>gH p.1 (cM y) with
  |false=>rfl
  |true=>
   obtain⟨p,o,g⟩:=fv.mp e;have:((pA xs 0).find? λp=>gH p.1 (cM y)).isSome=true:=xp.mpr ⟨p,o,g⟩;unfold kJ at c;rw[Option.map_eq_none_iff]at c;rw[c]at this;cases this
 unfold ke;rw[B,aG (by simp),Np,Gc]
theorem KW{y:Sd}:∀{xs t:List Sd},y∈xs->(xs++t).idxOf y=xs.idxOf y
 |x::xs,t,hy=>by
  rw[kh,q_,q_];by_cases e:x=y
  ·subst e;simp
  ·have:(x == y)=false:=by simp[e]
   rw[this];simp only[cond_false];rw[KW (by rcases aI.mp hy with z|z;exact ba z.symm e;exact z)]
def row(h:Hs)(x:Sd)(ks:List Nat)(xs:List Sd):List D:=ks.map λk=>.tup [bC k,bC (xs.idxOf (lE h x k))]
theorem WE{x:Sd}{ks:List Nat}{t:List Sd}(g:∀k∈ks,lE h x k∈xs):row h x ks (xs++t)=row h x ks xs:=by unfold row;refine fT λk c=>?_;rw[KW (g k c)]
def Fn(s:aX)(no nd:Nat)(xs:List Sd)(u:aX):Prop:=u[nd]?=some (.dct true (pA xs 0))/\u[no]?=some (.lst (xs.map cM))/\dZ s u
theorem Fn.ext{u':aX}(f:Fn s no nd xs u)(x:dZ u u'):Fn s no nd xs u':=⟨x.at_ f.1,x.at_ f.2.1,f.2.2.trans x⟩
theorem Lx{x:Sd}:x∈ki xs x:=by
 unfold ki;by_cases e:x∈xs
 ·rw[aJ e];exact e
 ·rw[aG e];simp
theorem Ua{x y:Sd}{ks:List Nat}(c:y∈xs):y∈qu h x ks xs:=by obtain⟨t,e⟩:=JP (h:=h) (x:=x) ks xs;rw[e];exact bY _ c
theorem GX{x:Sd}{k:Nat}:∀{ks:List Nat}{xs:List Sd},k∈ks->lE h x k∈qu h x ks xs
 |j::ks,xs,c=>by
  show _∈qu h x ks (ki xs (lE h x j));rcases aI.mp c with e|c
  ·subst e;exact Ua Lx
  ·exact GX c
theorem TM{st:Sd}{a b H G:Option D}{R:vD->aX->Prop}(C:no≠nd)(q:s.length<=no)(B:s.length<=nd)(I:Fn s no nd xs u)(hl:xs.length<=900)
  (L:∀u',Fn s no nd (ki xs st) u'->(∀n,n≠no->n≠nd->u'[n]?=u[n]?)->R (.next [a,b,some (.ref no),some (.dic nd),H,G,some (cM st)]) u'):
  wp (om (dg (c2 oI (al 6) (al 3))) (aK (bB (kz (al 3) (al 6)) (c1 ge (al 2))) (aK (lD (fu (al 2) (al 6))) aY)) aY [a,b,some (.ref no),some (.dic nd),H,G,some (cM st)]) R u:=by
 obtain⟨o,g,J⟩:=I;have l:∀Q,wp (hasK nd (cM st)) Q u=Q (kJ (pA xs 0) (cM st)).isSome u:=λQ=>Gx o (vZ st);simp![↓l,Dj];by_cases c:st∈xs
 ·rw[aJ c];simp![kZ,fq,aT,if_false];refine L u ?_ λ_ _ _=>rfl;unfold ki;rw[aJ c];exact⟨o,g,J⟩
 ·rw[aG c];have h:∀v Q,wp (storeK nd (cM st) v) Q u=Q () (u.set nd (.dct true (ke (pA xs 0) (cM st) v))):=λv Q=>Br o (vZ st) (rl (by rw[Ik];ext));have O:∀v,(u.set nd (MO.dct true (ke (pA xs 0) (cM st) v)))[no]?=some (.lst (xs.map cM)):=λv=>by rw[au (by ext)];exact g
  have Y:∀v Q,wp (getL no) Q (u.set nd (MO.dct true (ke (pA xs 0) (cM st) v)))=Q (xs.map cM) (u.set nd (MO.dct true (ke (pA xs 0) (cM st) v))):=λv Q=>fU (O v);have U:∀v E Q,wp (putL no E) Q (u.set nd (MO.dct true (ke (pA xs 0) (cM st) v)))=Q () ((u.set nd (MO.dct true (ke (pA xs 0) (cM st) v))).set no (.lst E)):=λv E Q=>rh (O v);simp![oz,nN,if_true,↓fU g,↓h,↓Y,↓U,af];refine⟨rl (by ext),L _ ?_ λn G l=>by rw[au (eM G),au (eM l)]⟩;unfold ki;rw[aG c];refine⟨?_,?_,(J.put B).put q⟩
  ·rw[au C,aE (kc o)];have:=NM c;unfold bC at this;rw[this]
  ·rw[aE (by rw[b_];exact kc g),bq];rfl
theorem Mw(hh:iz h){x:Sd}:(gA h x).length<=3:=by have c:=hh.2.2.2.1;have:=uH (λk=>ky (bL h x k)) (bU h.hands.length);rw[List.length_range]at this;unfold gA;ext
theorem Q0{x:Sd}(hc:oE h)(Y:ia h x)(gx:Good h xs)(hne:no≠nd)(hso:s.length<=no)(hsd:s.length<=nd)(I:Fn s no nd xs u)
  (hq:∀u',Fn s no nd (qu h x (gA h x) xs) u'->u'[u.length]?=some (.lst (row h x (gA h x) (qu h x (gA h x) xs)))->(∀n,n < u.length->n≠no->n≠nd->u'[n]?=u[n]?)->Q (.ref u.length) u'):wp (jF [eR h,cM x,.ref no,.dic nd]) Q u:=by
 have hh:=hc.1;have l2:2<=dN:=fA (by ext);have wf:∀(Q:D->aX->Prop)s,wp (yf [eR h,cM x]) Q s=Q (.ref s.length) (s++[.lst ((gA h x).map λk=>.int (k:Nat))]):=λQ s=>sx hh Y;have G:(u++[MO.lst []]++[MO.lst ((gA h x).map λk=>.int (k:Nat))])[(u++[MO.lst []]).length]?=some (.lst ((gA h x).map λk=>.int (k:Nat))):=ko;have qf:∀Q,wp (getL (u++[MO.lst []]).length) Q (u++[MO.lst []]++[MO.lst ((gA h x).map λk=>.int (k:Nat))])=Q ((gA h x).map λk=>.int (k:Nat)) (u++[MO.lst []]++[MO.lst ((gA h x).map λk=>.int (k:Nat))]):=λQ=>fU G
 (simp![jF];simp![yb,bn,↓wf,↓qf])
 have xu:dZ u (u++[MO.lst []]++[MO.lst ((gA h x).map λk=>.int (k:Nat))]):=((dZ.refl _).snoc _).snoc _;have gs:(u++[MO.lst []]++[MO.lst ((gA h x).map λk=>.int (k:Nat))])[u.length]?=some (.lst []):=mD ko;have lf:u.length < (u++[MO.lst []]).length:=by simp
 have lnd:nd < u.length:=kc I.1;have lno:no < u.length:=kc I.2.1;have f0:=I.ext xu;have k0:∀n,n < u.length->n≠no->n≠nd->(u++[MO.lst []]++[MO.lst ((gA h x).map λk=>.int (k:Nat))])[n]?=u[n]?:=λn hn _ _=>by rw[ar (by rw[aN];ext),ar hn]
 clear qf wf;generalize (u++[MO.lst []]).length=nr at G lf;generalize u++[MO.lst []]++[MO.lst ((gA h x).map λk=>.int (k:Nat))]=u0 at G gs f0 k0;refine tZ (λj l v=>∃(L J:Option D),l=[some (eR h),some (cM x),some (.ref no),some (.dic nd),some (.ref u.length),L,J]/\v[nr]?=some (.lst ((gA h x).map λk=>.int (k:Nat)))/\v[u.length]?=some (.lst (row h x ((gA h x).take j) (qu h x ((gA h x).take j) xs)))/\Fn s no nd (qu h x ((gA h x).take j) xs) v/\∀n,n < u.length->n≠no->n≠nd->v[n]?=u[n]?) (λ_ _ _ w=>by obtain⟨_,_,_,g,_⟩:=w;exact g)
  ⟨_,_,rfl,G,gs,f0,k0⟩ (λRw3 j d l v O rt3 hd hW=>?_) (λl v hW=>?_)
 ·obtain⟨L,J,el,g1,H,f,U⟩:=hW;subst el;rw[ao]at hd;cases B:(gA h x)[j]? with
  |none=>rw[B]at hd;cases hd
  |some k=>
   rw[B]at hd;have ed:d=.int (k:Nat):=(aM hd).symm;subst ed;have g:=GU (av B);have hj:=(ae.mp B).1;have hj3:=Mw hh (x:=x);have wb:∀(Q:D->aX->Prop)s,wp (jL [eR h,cM x,.int k]) Q s=Q (cM (lE h x k)) s:=λQ s=>Ux hh Y g;have gd:=J_ hh Y (λk g=>GU (nS g)) gx (ks:=(gA h x).take j);have hl2:=few hc gd.1 gd.2;have l:∀E∈(gA h x).take j,lE h x E∈qu h x ((gA h x).take j) xs:=λE o=>GX o;have G:=Xd (h:=h) (xs:=xs) (x:=x) B;have tk:(gA h x).take (j+1)=(gA h x).take j++[k]:=by rw[AG,B];rfl
   have I:(row h x ((gA h x).take j) (qu h x ((gA h x).take j) xs)).length<=3:=by unfold row;rw[af,cn];ext
   generalize qu h x ((gA h x).take j) xs=ys at *;simp only[↓Ec];rw[rX];simp only[↓uM,↓uh,↓qJ,↓sW,↓vh,↓vw,↓Bb,↓wb,↓Dd];rw[rX];refine TM hne hso hsd f (by ext) λv2 f2 c=>?_;have q:v2[u.length]?=some (.lst (row h x ((gA h x).take j) ys)):=by rw[c _ (by ext) (by ext)];exact H
   obtain⟨b1,b2,b4⟩:=id f2;have C:=Dj (y:=lE h x k) (ki ys (lE h x k)) 0;rw[aJ Lx,Gc]at C;have q1:∀Q,wp (itemK nd (cM (lE h x k))) Q v2=Q (bC ((ki ys (lE h x k)).idxOf (lE h x k))) v2:=λQ=>zD b1 (vZ _) C;simp![l2,↓q1,↓fU q,↓rh q];obtain⟨t,et⟩:=JU ys (lE h x k);have er:row h x ((gA h x).take j) ys++[.tup [.int (k:Nat),bC ((ki ys (lE h x k)).idxOf (lE h x k))]]=row h x ((gA h x).take (j+1)) (ki ys (lE h x k)):=by rw[tk];unfold row;rw[bq];congr 1;refine fT λE o=>?_;rw[et,KW (l E o)]
   refine⟨rl (by ext),O ⟨_,_,rfl,?_,?_,?_,λn hn h1 h2=>?_⟩⟩
   ·rw[au (by ext),c _ (by ext) (by ext)];exact g1
   ·rw[aE (kc q),er,G]
   ·rw[G];have c:s.length<=u.length:=by ext
    exact⟨by rw[au (by ext)];exact b1,by rw[au (by ext)];exact b2,b4.put c⟩
   ·rw[au (by ext),c n h1 h2];exact U n hn h1 h2
 ·obtain⟨L,J,el,g1,H,f,U⟩:=hW;subst el;rw[af,fY]at f H;simp![];exact hq v f H U
end
open PySem (Str)
section
variable{s u:aX}{Q:D->aX->Prop}{h:Hs}{no nd:Nat}{xs:List Sd}{l:Loc}
theorem Ud{i:Int}:wp (lw (.int i) .non) Q s=Q (.bl true) s:=dh rfl
def GH(h:Hs)(lo no nd ns:Nat)(ys:List Sd)(rs:List D)(u:aX):Prop:=∀(j:Nat)(d:D),rs[j]?=some d->∃(r:Nat)(x:Sd),d=.ref r/\lo<=r/\r≠no/\r≠nd/\r≠ns/\ys[j]?=some x/\u[r]?=some (.lst (row h x (gA h x) ys))/\∀k∈gA h x,lE h x k∈ys
theorem Yk{J o:Nat}(Y:oE h)(gf:s[J]?=some (.lst (((iO h.hands.length).map (e_ h)).map cM)))(hm:∀i,vo h i->(gm h i).length<=o)
  (hq:∀i no nd ns rs u,ud h i->u[no]?=some (.lst ((gm h i).map cM))->s.length<=no->u[ns]?=some (.lst rs)->rs.length=i->s.length<=ns->GH h s.length no nd ns (gm h i) rs u->dZ s u->Q (.tup [.ref no,.ref ns]) u):wp (jJ [eR h,.ref J,.int o]) Q s:=by
 have hh:=Y.1;have hn:h.hands.length=2\/h.hands.length=3:=by have:=hh.2.2.1;have:=hh.2.2.2.1;ext
 have l2:2<=dN:=fA (by ext);have lnf:=kc gf
 (simp![jJ];simp![ye,↓fU (mD gf)])
 refine tZ (λi l u=>∃(O:Option D),l=[some (eR h),some (.ref J),some (.int o),some (.dic s.length),O,none,none]/\u[J]?=some (.lst (((iO h.hands.length).map (e_ h)).map cM))/\u[s.length]?=some (.dct true (pA (nV h ((iO h.hands.length).take i)) 0))/\dZ s u) (λ_ _ _ w=>by obtain⟨_,_,g,_⟩:=w;exact g)
  ⟨_,rfl,mD gf,ko,(dZ.refl _).snoc _⟩ (λRw1 i d l u up1 rt1 hd L=>?_) (λl u L=>?_)
 ·obtain⟨O,el,g1,q,ex⟩:=L;subst el;rw[ao,ao]at hd;cases l:(iO h.hands.length)[i]? with
  |none=>rw[l]at hd;cases hd
  |some row=>
   rw[l]at hd;have ed:d=cM (e_ h row):=(aM hd).symm;subst ed;have E:Good h (nV h ((iO h.hands.length).take i)):=Io hh (λr I=>nS I) ⟨nU,by simp⟩;have hl:=few Y E.1 E.2;have o:=WK (h:=h) l;generalize nV h ((iO h.hands.length).take i)=fs at *;have G:=Ik fs 0;have C:∀(Q:D->aX->Prop),wp (ge (.dic s.length)) Q u=Q (bC fs.length) u:=λQ=>by rw[PX q,G];rfl
   have B:=Dj (y:=e_ h row) fs 0;by_cases c:e_ h row∈fs
   ·rw[aJ c]at B;have g:∀v Q,wp (lv s.length (cM (e_ h row)) v) Q u=Q _ u:=λv Q=>Sm q (vZ _) (rl (by ext)) B;simp![↓NI,↓zF q,↓C,↓g];refine up1 ⟨_,rfl,g1,?_,ex⟩;rw[o];unfold ki;rw[aJ c];exact q
   ·rw[aG c]at B;have g:∀v Q,wp (lv s.length (cM (e_ h row)) v) Q u=Q v (u.set s.length (.dct true (ke (pA fs 0) (cM (e_ h row)) v))):=λv Q=>XO q (vZ _) (rl (by ext)) B;simp![↓NI,↓zF q,↓C,↓g,NM c];refine up1 ⟨_,rfl,by rw[au (by ext)];exact g1,?_,ex.put (ax _)⟩;rw[aE (kc q),o];unfold ki;rw[aG c]
 ·obtain⟨O,el,g1,q,ex⟩:=L;subst el;rw[af,af,fY]at q;have qk:∀(Q:D->aX->Prop),wp (pd (.dic s.length)) Q u=Q (.ref u.length) (u++[.lst ((gm h 0).map cM)]):=λQ=>by rw[Yv q,MS];rfl
  simp![bn,↓qk];have lu:=ex.le;have f0:Fn s u.length s.length (gm h 0) (u++[MO.lst ((gm h 0).map cM)]++[MO.lst []]):=⟨mD (mD q),mD ko,(ex.snoc _).snoc _⟩
  have g3:(u++[MO.lst ((gm h 0).map cM)]++[MO.lst []])[(u++[MO.lst ((gm h 0).map cM)]).length]?=some (.lst []):=ko;have l3:u.length < (u++[MO.lst ((gm h 0).map cM)]).length:=by simp
  have l4:=kc q;clear qk;generalize (u++[MO.lst ((gm h 0).map cM)]).length=ns at g3 l3;generalize u++[MO.lst ((gm h 0).map cM)]++[MO.lst []]=u0 at g3 f0;generalize u.length=no at *;refine Ka (λl v=>∃(i:Nat)(rs:List D),l=[some (eR h),some (.ref J),some (.int o),some (.dic s.length),O,some (.ref no),some (.ref ns)]/\vo h i/\Fn s no s.length (gm h i) v/\v[ns]?=some (.lst rs)/\rs.length=i/\GH h s.length no s.length ns (gm h i) rs v)
   (λ(_:Loc)(v:aX)=>match (v[ns]?:Option MO) with
    |some (.lst rs)=>1000-rs.length
    |_=>0) ⟨0,[],rfl,λj U=>ba U (by ext),f0,g3,rfl,λj d hd=>by simp at hd⟩ (λRw2 l v B rt2 L=>?_)
  obtain⟨i,rs,el,go,f,H,I,st⟩:=L;subst el;obtain⟨hl,hi⟩:=JN Y go;have hmo:=hm i go;have gl:v[no]?=some (.lst ((gm h i).map cM)):=f.2.1;simp![↓fU gl,↓fU H,af];by_cases G:i < (gm h i).length
  ·rw[aJ (by ext)];have E:(gm h i)[i]?=some (gm h i)[i]:=aj G;have L:=(Bv hh i).2 _ (b8 G);have c:gm h (i+1)=qu h (gm h i)[i] (gA h (gm h i)[i]) (gm h i):=by
    show (match (gm h i)[i]? with
     |some x=>qu h x (gA h x) (gm h i)
     |none=>gm h i)=_
    rw[E]
   obtain⟨t,g⟩:=Hf (h:=h) i;generalize (gm h i)[i]=x at E L c;have u:∀(Q:D->aX->Prop)s,wp (c6 ((gm h i).map cM) (rs.length:Nat)) Q s=Q (cM x) s:=λQ s=>sQ (by rw[ao,I,E];rfl);simp![↓Ud,↓fU gl,↓fU H,↓u,af];rw[aG (by ext)]
   try simp![↓fU gl,↓fU H,↓u,af]
   refine Q0 Y L (Bv hh i) (by ext) (by ext) (ax _) f λv2 f2 gv J=>?_;have l:=kc H;have C:v2[ns]?=some (.lst rs):=by rw[J ns l (by ext) (by ext)];exact H
   simp![↓fU C,↓rh C];have lvo:=kc gl;have lvd:=kc f.1;refine⟨rl (by ext),B ⟨i+1,_,rfl,λj U=>?_,?_,aE (kc C),by simp[I],λj d hd=>?_⟩ ?_⟩
   ·by_cases e:j=i
    ·subst e;exact G
    ·exact go j (by ext)
   ·rw[c];obtain⟨l,h,g⟩:=f2;exact⟨by rw[au (by ext)];exact l,by rw[au (by ext)];exact h,g.put (by ext)⟩
   ·by_cases U:j < rs.length
    ·rw[ar U]at hd;obtain⟨r,y,ed,G,C,B,u,l,h,O⟩:=st j d hd;refine⟨r,y,ed,G,C,B,u,?_,?_,λk o=>?_⟩
     ·rw[g,ar (ae.mp l).1];exact l
     ·rw[au (eM u),J r (kc h) C B,g,WE O];exact h
     ·rw[g];exact bY _ (O k o)
    ·have q : j = rs.length := by have:=(ae.mp hd).1;rw[aN]at this;simp at this;ext
     subst q;rw[bb (ax _),uG]at hd;cases hd;refine⟨v.length,x,rfl,by ext,by ext,by ext,by ext,?_,?_,λk o=>?_⟩
     ·rw[g,ar (by ext),I];exact E
     ·rw[au (by ext),c];exact gv
     ·rw[c];exact GX o
   ·rw[aE (kc C),H];simp only[aN,nh];ext
  ·rw[aG (by ext)];simp![l2];exact hq i _ _ _ _ _ ⟨go,by ext⟩ gl (by ext) H I (by ext) st f.2.2
theorem Qi{r:Nat}(hh:iz h)(g:u[r]?=some (.lst ((iO h.hands.length).map D.tup)))(A:List D->aX->Prop):wp (collect (aO 0) cz (bu jy (ac (al 1) (ac (al 0) aH))) (i9 r ((iO h.hands.length).map D.tup)) ((iO h.hands.length).map D.tup) [none,some (eR h)]) A u=A (((iO h.hands.length).map (e_ h)).map cM) u:=by
 rw[Gg (f:=λk=>((((iO h.hands.length).map (e_ h)).map cM)[k]?).getD .non) (show i9 r _ u from g) (λk d hd Q=>by
  rw[ao]at hd;cases c:(iO h.hands.length)[k]? with
  |none=>rw[c]at hd;cases hd
  |some row=>
   rw[c]at hd;have B:d=.tup row:=(aM hd).symm;subst B;have q:∀(Q:D->aX->Prop)s,wp (jy [eR h,.tup row]) Q s=Q (cM (e_ h row)) s:=λQ s=>Oh hh (av c);rw[ao,ao,c];simp![↓q,df,lT])]
 congr 1;rw[af];apply e8;intro k;by_cases o:k < (iO h.hands.length).length
 ·rw[Cr o,ao,ao,aj o];rfl
 ·rw[bH (by rw[qW];ext),bH (by rw[af,af];ext)]
theorem TV{c:Nat}(q:oE h)(J:∀i,vo h i->(gm h i).length<=c)
  (G:∀i no nd ns rs u,ud h i->u[no]?=some (.lst ((gm h i).map cM))->s.length<=no->u[ns]?=some (.lst rs)->rs.length=i->s.length<=ns->GH h s.length no nd ns (gm h i) rs u->dZ s u->Q (.tup [.ref no,.ref ns]) u):wp (jP [eR h,.int c]) Q s:=by
 have hh:=q.1
 (simp![jP];simp![yp])
 refine Pg hh λr u hr g ex=>?_;have w:=λA=>Qi hh g A;have E:(iO h.hands.length).length<=dN:=fA (by rw[Ii];have z3:=hh.2.2.1;have l:=hh.2.2.2.1;rcases (show h.hands.length=2\/h.hands.length=3 by ext) with e|e<;>rw[e]<;>decide)
 simp![↓fU g,fZ,↓w,af,E];refine Yk q ko J λi no nd ns rs B st O I L o H C U=>?_;simp![];have l1:=ex.le;have l2:=(ex.snoc (.lst (((iO h.hands.length).map (e_ h)).map cM))).le;refine G i no nd ns rs B st O (by ext) L o (by ext) (λj d hd=>?_) ((ex.snoc _).trans U);obtain⟨r,x,Y,e1,e⟩:=C j d hd;exact⟨r,x,Y,by ext,e⟩
end
open PySem (Str)
inductive Rc(E:Nat->List (Nat×Nat)):Nat->Nat->Prop
 |refl (x:Nat):Rc E x x
 |step {x y:Nat}{p:Nat×Nat} (h:p∈E x) (r:Rc E p.2 y):Rc E x y
section
variable{s u s0:aX}{Q:D->aX->Prop}{l:Loc}{E:Nat->List (Nat×Nat)}{n ns no nd lo x y z:Nat}{h:Hs}{ys:List Sd}{rs:List D}
theorem Rc.trans(a:Rc E x y)(b:Rc E y z):Rc E x z:=by
 induction a with
 |refl=>exact b
 |step h _ ih=>exact .step h (ih b)
theorem Rc.snoc{p:Nat×Nat}(a:Rc E x y)(h:p∈E y):Rc E x p.2:=a.trans (.step h (.refl _))
theorem Pn{g:Nat}{p:Nat×Nat}(h:(E x)[g]?=some p):(E x).take (g+1)=(E x).take g++[p]:=by rw[AG,h];rfl
noncomputable def IQ(p:Nat×Nat):D:=.tup [.int (p.1:Nat),.int (p.2:Nat)]
noncomputable def vE(x:Nat):D:=.int (x:Nat)
structure xq(n:Nat)(E:Nat->List (Nat×Nat))(ns:Nat)(u:aX):Prop where
 at_:∃rs:List Nat,u[ns]?=some (.lst (rs.map .ref))/\rs.length=n/\∀(i r:Nat),rs[i]?=some r->u[r]?=some (.lst ((E i).map IQ))
 wf:∀i,i < n->∀p∈E i,p.2 < n
 few:∀i,i < n->(E i).length<=3
theorem xq.ext(g:xq n E ns s)(x:dZ s u):xq n E ns u:=by obtain⟨⟨rs,G,C,B⟩,q,o⟩:=g;exact⟨⟨rs,x.at_ G,C,λi r c=>x.at_ (B i r c)⟩,q,o⟩
theorem xq.row0(g:xq n E ns s0){i:Nat}(B:i < n):∃(rs:List Nat)(r:Nat),(∀{v},dZ s0 v->v[ns]?=some (.lst (rs.map .ref))/\v[r]?=some (.lst ((E i).map IQ)))/\(∀(Q:D->aX->Prop)s,wp (c6 (rs.map D.ref) ((i:Nat):Int)) Q s=Q (.ref r) s)/\rs.length=n:=by obtain⟨rs,q,o,c⟩:=g.at_;have e:=aj (show i < rs.length by ext);exact⟨rs,_,λx=>⟨x.at_ q,x.at_ (c i _ e)⟩,λQ s=>sQ (by rw[ao,e];rfl),o⟩
theorem Xf{i j:Int}:wp (vF (.int i) (.int j)) Q s=Q (.int (i+j)) s:=dh rfl
def eF(h:Hs)(ys:List Sd)(i:Nat):List (Nat×Nat):=match ys[i]? with
 |some x=>(gA h x).map λk=>(k,ys.idxOf (lE h x k))
 |none=>[]
theorem O_:∀{rs:List D},(∀d∈rs,∃r,d=.ref r)->∃c:List Nat,rs=c.map .ref
 |[],_=>⟨[],rfl⟩
 |d::rs,hh=>by obtain⟨r,rfl⟩:=hh d (by simp);obtain⟨c,rfl⟩:=O_ (rs:=rs) λd hd=>hh d (by simp[hd]);exact⟨r::c,rfl⟩
theorem UD(hh:iz h)(O:u[ns]?=some (.lst rs))(H:rs.length=ys.length)(C:GH h lo no nd ns ys rs u):xq ys.length (eF h ys) ns u:=by
 obtain⟨G,rfl⟩:=O_ (rs:=rs) λd hd=>by obtain⟨j,L⟩:=b9.mp hd;obtain⟨r,_,e,_⟩:=C j d L;exact⟨r,e⟩
 rw[af]at H;have at_:∀(i r:Nat),G[i]?=some r->∃x,ys[i]?=some x/\u[r]?=some (.lst (row h x (gA h x) ys))/\∀k∈gA h x,lE h x k∈ys:=λi r g=>by obtain⟨U,x,e,_,_,_,_,c,B,q⟩:=C i (.ref r) (by rw[ao,g];rfl);cases e;exact⟨x,c,B,q⟩
 refine⟨⟨G,O,H,λi r g=>?_⟩,λi I p o=>?_,λi I=>?_⟩
 ·obtain⟨x,c,B,_⟩:=at_ i r g;rw[B];unfold eF row;rw[c,hU];rfl
 ·obtain⟨x,c,_,q⟩:=at_ i _ (aj (by ext));unfold eF at o;rw[c]at o;obtain⟨k,J,rfl⟩:=bR.mp o;exact lW.mpr (q k J)
 ·unfold eF;rw[aj I];dsimp only;rw[af];exact Mw hh
theorem LX{i:Nat}(st:ud h i):(gm h i).length=i:=by
 have c:=st.2;refine Nat.le_antisymm c ?_;rcases Nat.eq_zero_or_pos i with e|e
 ·ext
 ·have o:=st.1 (i-1) (by ext);have g:=Mh (h:=h) (i:=i-1) (j:=i) (by ext);ext
end
section
variable{E:Nat->List (Nat×Nat)}{n a t q x y z k j:Nat}{w v:List Nat}{P:List (Nat×List Nat)}{Gl:Nat->Bool}
structure BI(n:Nat)(E:Nat->List (Nat×Nat))(a:Nat)(Gl:Nat->Bool)(P:List (Nat×List Nat))(t q:Nat):Prop where
 hd:a∈P.map (·.1)
 wy:∀p∈P,Rc E a p.1/\p.1 < n
 nd:(P.map (·.1)).Nodup
 pr:∀(i:Nat)p,P[i]?=some p->i < t->∀e∈E p.1,Gl e.2=false/\e.2∈P.map (·.1)
 cu:∀p,P[t]?=some p->∀e∈(E p.1).take q,Gl e.2=false/\e.2∈P.map (·.1)
theorem BI.start(l:a < n):BI n E a Gl [(a,[])] 0 0:=
 ⟨by simp,λp c=>by rw[aC.mp c];exact⟨.refl _,l⟩,by simp,λi p _ g=>ba g (by ext),λp _ e h=>by simp at h⟩
theorem BI.old(I:BI n E a Gl P t q)(l:P[t]?=some (x,w))(u:(E x)[q]?=some (k,j))(c:Gl j=false)(o:j∈P.map (·.1)):BI n E a Gl P t (q+1):=
 ⟨I.hd,I.wy,I.nd,I.pr,λp h e g=>by
  rw[l]at h;cases h;rw[Pn u]at g;rcases aU.mp g with z|z
  ·exact I.cu _ l e z
  ·rw[aC.mp z];exact⟨c,o⟩⟩
theorem BI.new(I:BI n E a Gl P t q)(g:P[t]?=some (x,w))(G:(E x)[q]?=some (k,j))(l:j < n)(o:Gl j=false)(L:j∉P.map (·.1)):BI n E a Gl (P++[(j,w++[k])]) t (q+1):=by
 have J:=(ae.mp g).1;have up:∀{z},z∈P.map (·.1)->z∈(P++[(j,w++[k])]).map (·.1):=λh=>by rw[bq];exact bY _ h
 have at_:∀{i:Nat}{p},(P++[(j,w++[k])])[i]?=some p->i < P.length->P[i]?=some p:=λh u=>by rwa [ar u]at h
 refine⟨up I.hd,λp h=>?_,?_,λi p h u e c=>?_,λp h e c=>?_⟩
 ·rcases aU.mp h with z|z
  ·exact I.wy p z
  ·rw[aC.mp z];exact⟨(I.wy _ (av g)).1.snoc (av G),l⟩
 ·rw[bq];refine d8.mpr ⟨I.nd,by simp,λy H z hz e=>L ?_⟩;have O:z=j:=by simpa using hz
  rw[<- O,<- e];exact H
 ·obtain⟨C,B⟩:=I.pr i p (at_ h (by ext)) u e c;exact⟨C,up B⟩
 ·have h:=at_ h J;rw[g]at h;cases h;rw[Pn G]at c;rcases aU.mp c with z|z
  ·obtain⟨C,B⟩:=I.cu _ g e z;exact⟨C,up B⟩
  ·rw[aC.mp z];exact⟨o,by simp⟩
theorem BI.next(I:BI n E a Gl P t (E x).length)(l:P[t]?=some (x,w)):BI n E a Gl P (t+1) 0:=
 ⟨I.hd,I.wy,I.nd,λi p h o e g=>by
  by_cases c:i=t
  ·subst c;rw[l]at h;cases h;exact I.cu _ l e (by rw[fY];exact g)
  ·exact I.pr i p h (by ext) e g,λp _ e g=>by simp at g⟩
theorem BI.none(I:BI n E a Gl P t q)(u:P.length<=t):∀p∈E a,∀y,Rc E p.2 y->Gl y=false:=by
 have cl:∀x∈P.map (·.1),∀e∈E x,Gl e.2=false/\e.2∈P.map (·.1):=λx c e o=>by obtain⟨p,g,rfl⟩:=bR.mp c;obtain⟨i,l⟩:=b9.mp g;exact I.pr i p l (by have:=(ae.mp l).1;ext) e o
 have key:∀{x y:Nat},Rc E x y->x∈P.map (·.1)->Gl x=false->Gl y=false:=λr=>by
  induction r with
  |refl=>exact λ_ e=>e
  |step h r ih=>exact λc _=>ih (cl _ c _ h).2 (cl _ c _ h).1
 exact λp g y r=>key r (cl a I.hd p g).2 (cl a I.hd p g).1
end
section
variable{s u:aX}{Q:D->aX->Prop}{l:Loc}{E:Nat->List (Nat×Nat)}{n ns cp nc a t q x k j:Nat}{w:List Nat}{P:List (Nat×List Nat)}{cv:Nat->D}{L:List Nat}{Gl:Nat->Bool}
noncomputable def sE(L:List Nat)(cv:Nat->D):List (D×D):=L.map λy=>(D.int (y:Nat),cv y)
theorem Op{i j:Nat}:gH (.int (i:Nat)) (.int (j:Nat))=decide (i=j):=by
 rw[gH];by_cases e:i=j
 ·subst e;simp
 ·simp[e];ext
theorem Gz{y:Nat}:∀L:List Nat,kJ (sE L cv) (.int (y:Nat))=if y∈L then some (cv y) else none
 |[]=>rfl
 |z::L=>by
  have g:=Gz (y:=y) L;unfold kJ sE at g ⊢;rw[aL,cC];dsimp only;rw[Op];by_cases e:z=y
  ·subst e;simp
  ·rw[aP e];dsimp only;rw[g];have o:¬ y=z:=λh=>e h.symm;by_cases c:y∈L
   ·rw[aJ c,aJ (by simp[c])]
   ·rw[aG c,aG (by simp[c,o])]
theorem XJ{y:Nat}{v:D}(g:y∉L):ke (sE L cv) (.int (y:Nat)) v=sE (L++[y]) λz=>if z=y then v else cv z:=by
 have h:((sE L cv).any λp=>gH p.1 (.int (y:Nat)))=false:=by rw[w8];intro p c;unfold sE at c;obtain⟨z,hz,rfl⟩:=bR.mp c;rw[Op];have:z≠y:=λe=>g (e ▸ hz);simp[this]
 unfold ke;rw[h,aG (by simp)];unfold sE;rw[bq];congr 1
 ·refine fT λz hz=>?_;have:z≠y:=λe=>g (e ▸ hz)
  show _=(D.int (z:Nat),if z=y then v else cv z)
  rw[aG this]
 ·simp
def Cm(P:List (Nat×List Nat))(cv:Nat->D):Prop:=∀(i:Nat)p,P[i]?=some p->(p.2=[]/\cv p.1=.non)\/∃(c:Nat)(r:Nat×List Nat)(k:Nat),c < i/\P[c]?=some r/\p.2=r.2++[k]/\cv p.1=.tup [.int (r.1:Nat),.int (k:Nat)]
theorem Hg{ds:List D}:wp (lw (.tup ds) .non) Q s=Q (.bl true) s:=dh rfl
theorem GI:wp (lw .non .non) Q s=Q (.bl false) s:=dh rfl
theorem XZ{j:Nat}{p:Nat×List Nat}(g:s[nc]?=some (.dct false (sE (P.map (·.1)) cv)))(C:Cm P cv)(hl:P.length<=900)(U:P[j]?=some p)
  (hq:∀u,dZ s u->Q (.tup (p.2.map vE)) u):wp (jR [.dic nc,.int (p.1:Nat)]) Q s:=by
 have hj:=(ae.mp U).1;have E:∀i:Nat,oV false (.int (i:Nat))=true:=λi=>rfl;have pK:∀{c:Nat}{r:Nat×List Nat},P[c]?=some r->r.1∈P.map (·.1):=λh=>bR.mpr ⟨_,av h,rfl⟩;have q0:∀Q,wp (itemK nc (.int (p.1:Nat))) Q (s++[MO.lst []])=Q (cv p.1) (s++[MO.lst []]):=λQ=>zD (mD g) (E _) (by rw[Gz,aJ (pK U)]);have lnc:=kc g
 (simp![jR];simp![yw,bn,↓q0])
 refine Ka (λl u=>∃(c:Nat)(q:Nat×List Nat)(o:List Nat),l=[some (.dic nc),some (.int (p.1:Nat)),some (.ref s.length),some (cv q.1)]/\c<=j/\c+o.length<=j/\P[c]?=some q/\p.2=q.2++o.reverse/\u[s.length]?=some (.lst (o.map vE))/\u[nc]?=some (.dct false (sE (P.map (·.1)) cv))/\dZ s u)
  (λ(_:Loc)(u:aX)=>match (u[s.length]?:Option MO) with
   |some (.lst o)=>1000-o.length
   |_=>0) ⟨j,p,[],rfl,ax _,ax _,U,by simp,ko,mD g,(dZ.refl _).snoc _⟩ (λRw1 l u up1 rt1 hW=>?_)
 obtain⟨c,q,o,el,hc,hts,O,L,G,g2,ex⟩:=hW;subst el;rcases C c q O with ⟨Y,I⟩|⟨i,J,k,hi,I,Y,e3⟩
 ·rw[I];have w:∀Q,wp (qy (.ref s.length)) Q u=Q (.tup (p.2.map vE)) u:=λQ=>by unfold qy;rw[d9,fU G,cj,L,Y,kH,List.map_reverse]
  simp![↓GI,aT,if_false,↓w];exact hq u ex
 ·rw[e3];have H:∀B,(u.set s.length (MO.lst B))[nc]?=some (.dct false (sE (P.map (·.1)) cv)):=λB=>by rw[au (by ext)];exact g2
  have c:∀B Q,wp (itemK nc (.int (J.1:Nat))) Q (u.set s.length (MO.lst B))=Q (cv J.1) (u.set s.length (MO.lst B)):=λB Q=>zD (H B) (E _) (by rw[Gz,aJ (pK I)]);simp![↓Hg,if_true,↓fU G,↓rh G,↓c,af];refine⟨rl (by ext),up1 ⟨i,J,o++[k],rfl,by ext,by simp;ext,I,by rw[L,Y];simp,by rw[aE (kc G),bq];rfl,H _,ex.put (ax _)⟩ ?_⟩;rw[aE (kc G),G];simp only[aN,nh,af];ext
theorem V2(C:Cm P cv):∀(i:Nat)(p:Nat×List Nat),P[i]?=some p->p.2.length<=i:=by
 intro i
 induction i using Nat.strongRecOn with
 |ind i ih=>
  intro p g;rcases C i p g with ⟨e,_⟩|⟨c,r,k,B,o,h,_⟩
  ·rw[e];exact bn _
  ·have:=ih c B r o;rw[h];simp;ext
def LW(s:aX)(P:List (Nat×List Nat))(v:aX):Prop:=∃cv,v[s.length]?=some (.dct false (sE (P.map (·.1)) cv))/\v[s.length+1]?=some (.lst (P.map λp:Nat×List Nat=>D.int (p.1:Nat)))/\Cm P cv/\dZ s v
theorem LW.put{v:aX}(q:v[s.length]?=some (.dct false (sE (P.map (·.1)) cv)))(l:v[s.length+1]?=some (.lst (P.map λp:Nat×List Nat=>D.int (p.1:Nat))))(C:Cm P cv)(ex:dZ s v)(J:j∉P.map (·.1))(G:P[t]?=some (x,w)):
  LW s (P++[(j,w++[k])]) ((v.set s.length (.dct false (sE (P.map (·.1)++[j]) λz=>if z=j then .tup [.int (x:Nat),.int (k:Nat)] else cv z))).set (s.length+1) (.lst ((P.map λp:Nat×List Nat=>D.int (p.1:Nat))++[.int (j:Nat)]))):=by
 have B:=(ae.mp G).1;have g:∀{i:Nat}{p:Nat×List Nat},P[i]?=some p->p.1≠j:=λh e=>J (e ▸ bR.mpr ⟨_,av h,rfl⟩);refine⟨λz=>if z=j then .tup [.int (x:Nat),.int (k:Nat)] else cv z,?_,?_,λi p c=>?_,(ex.put (ax _)).put (by ext)⟩
 ·rw[au (by ext),aE (kc q),bq];rfl
 ·rw[aE (by rw[b_];exact kc l),bq];rfl
 ·by_cases o:i < P.length
  ·rw[ar o]at c;dsimp only;rw[aG (g c)];rcases C i p c with h|⟨I,r,H,Y,U,O⟩
   ·exact .inl h
   ·exact .inr ⟨I,r,H,Y,by rw[ar (by ext)];exact U,O⟩
  ·have e : i = P.length := by have:=(ae.mp c).1;rw[aN]at this;simp at this;ext
   subst e;rw[bb (ax _),uG]at c;cases c;dsimp only;rw[aJ rfl];exact .inr ⟨t,(x,w),k,B,by rw[ar B];exact G,rfl,rfl⟩
theorem P0(g:xq n E ns s)(gg:s[cp]?=some (.lst (cf n λi=>.bl (Gl i))))(ha:a < n)(hn:n<=600)
  (h1:∀(w:List D)j u,w.length<=601->Rc E a j->Gl j=true->dZ s u->Q (.tup w) u) (h2:∀u,(∀p∈E a,∀y,Rc E p.2 y->Gl y=false)->dZ s u->Q .non u):wp (jx [.ref ns,.int (a:Nat),.ref cp]) Q s:=by
 have c1:1<=dN:=fA (by ext);have wd:∀(Q:D->aX->Prop)l,wp (qm (al 1) (aw .non) (some (.ref ns)::some (.int (a:Nat))::l)) Q s=Q (.dic s.length) (s++[.dct false (sE [a] λ_=>.non)]):=λQ l=>by unfold qm;rw[d9,vw,d9,sZ];exact dh rfl
 (simp![jx];simp![j2,↓wd,c1])
 have e1:(s++[MO.dct false (sE [a] λ_=>D.non)]).length=s.length+1:=by simp
 rw[e1];have W0:LW s [(a,[])] (s++[MO.dct false (sE [a] λ_=>D.non)]++[MO.lst [D.int (a:Nat)]]):=
  ⟨λ_=>.non,mD ko,by rw[<- e1];exact ko,λi p hi=>by
   match i,hi with
   |0,hi=>cases hi;exact .inl ⟨rfl,rfl⟩
   |i+1,hi=>simp at hi,((dZ.refl _).snoc _).snoc _⟩
 clear wd;generalize s++[MO.dct false (sE [a] λ_=>D.non)]++[MO.lst [D.int (a:Nat)]]=s1 at *;have h:∀{P t q},BI n E a Gl P t q->P.length<=600:=λ{P t q}I=>by
  have:=Gk n (P.map (·.1)) I.nd λy hy=>by obtain⟨p,c,rfl⟩:=bR.mp hy;exact (I.wy p c).2
  rw[af]at this;ext
 refine Ka (λl v=>∃(P:List (Nat×List Nat))(t:Nat)(y6 H G:Option D),l=[some (.ref ns),some (.int (a:Nat)),some (.ref cp),some (.dic s.length),some (.ref (s.length+1)),some (.int (t:Nat)),y6,H,G]/\BI n E a Gl P t 0/\LW s P v)
  (λ(l:Loc)(_:aX)=>match (l[5]?:Option (Option D)) with
   |some (some (D.int i))=>(1000-i).toNat
   |_=>0) ⟨[(a,[])],0,_,_,_,rfl,BI.start ha,W0⟩ (λRw2 l v up2 rt2 hW=>?_)
 obtain⟨P,t,y6,H,G,el,I,W⟩:=hW;subst el;have hl:=h I;obtain⟨cv,b1,b2,C,ex⟩:=id W;simp![↓fU b2,af];by_cases ht:t < P.length
 ·rw[aJ (by ext)];obtain⟨⟨x,w⟩,c⟩:∃p,P[t]?=some p:=⟨_,aj ht⟩
  have hx:=(I.wy _ (av c)).2;have q2:∀(Q:D->aX->Prop)s,wp (c6 (P.map λp:Nat×List Nat=>D.int (p.1:Nat)) ((t:Nat):Int)) Q s=Q (.int (x:Nat)) s:=λQ s=>sQ (by rw[ao,c];rfl);obtain⟨rs,r,gr0,qi,hrs⟩:=g.row0 hx;obtain⟨gn,gr⟩:=gr0 ex;simp![↓fU b2,↓q2,↓fU gn,↓qi,↓fU gr];refine tZ (λq l v=>∃(P:List (Nat×List Nat))(H G:Option D),l=[some (.ref ns),some (.int (a:Nat)),some (.ref cp),some (.dic s.length),some (.ref (s.length+1)),some (.int (t:Nat)),some (.int (x:Nat)),H,G]/\BI n E a Gl P t q/\P[t]?=some (x,w)/\LW s P v) (λ_ _ _ z=>by obtain⟨_,_,_,_,_,_,_,_,_,_,e⟩:=z;exact (gr0 e).2)
   ⟨P,_,_,rfl,I,c,W⟩ (λRw3 q d l v2 U rt3 hd hW=>?_) (λl v2 hW=>?_)
  ·obtain⟨P,H,G,el,I,c,W⟩:=hW;subst el;have hl:=h I;rw[ao]at hd;cases O:(E x)[q]? with
   |none=>rw[O]at hd;cases hd
   |some e=>
    rw[O]at hd;cases hd;obtain⟨k,j⟩:=e;have Y:=g.wf x hx (k,j) (av O);obtain⟨cv,b1,b2,C,ex⟩:=id W;have q4:∀(Q:D->aX->Prop)s,wp (c6 (cf n λi=>D.bl (Gl i)) ((j:Nat):Int)) Q s=Q (.bl (Gl j)) s:=λQ s=>ww Y;unfold IQ;simp![↓fU (ex.at_ gg),↓q4];by_cases L:Gl j=true
    ·rw[aJ L];refine XZ (P:=P) (p:=(x,w)) b1 C (by ext) c λu g=>?_;have h:w.length<=t:=V2 C t (x,w) c;have B:=(ae.mp c).1;simp![c1,af];refine⟨fA (by simp;ext),?_⟩;refine rt3 (rt2 ?_);simp![];exact h1 _ j u (by simp;ext) ((I.wy _ (av c)).1.snoc (av O)) L (ex.trans g)
    ·rw[aG L];have u:∀Q,wp (hasK s.length (.int (j:Nat))) Q v2=Q (kJ (sE (P.map (·.1)) cv) (.int (j:Nat))).isSome v2:=λQ=>Gx b1 rfl;rw[u,Gz];by_cases J:j∈P.map (·.1)
     ·rw[aJ J];simp![kZ,fq,aT,if_false];exact U ⟨P,_,_,rfl,I.old c O (e9.mpr L) J,c,W⟩
     ·rw[aG J];simp![oz,nN,if_true];rw[Br b1 rfl (rl (by unfold sE;rw[af,af];ext)),XJ J];have l:∀o,(v2.set s.length o)[s.length+1]?=some (.lst (P.map λp:Nat×List Nat=>D.int (p.1:Nat))):=λo=>by rw[au (by ext)];exact b2
      have q:∀o Q,wp (getL (s.length+1)) Q (v2.set s.length o)=Q (P.map λp:Nat×List Nat=>D.int (p.1:Nat)) (v2.set s.length o):=λo Q=>fU (l o);have h:∀o g Q,wp (putL (s.length+1) g) Q (v2.set s.length o)=Q () ((v2.set s.length o).set (s.length+1) (.lst g)):=λo g Q=>rh (l o);simp![↓q,↓h,af];have B:=(ae.mp c).1;refine⟨?_,rl (by ext),U ⟨P++[(j,w++[k])],_,_,rfl,I.new c O Y (e9.mpr L) J,by rw[ar B];exact c,LW.put b1 b2 C ex J c⟩⟩
      first|exact fA (by ext)|exact rl (by ext)
  ·obtain⟨P,H,G,el,I,c,W⟩:=hW;subst el;have hl:=h I;rw[af]at I;have B:=(ae.mp c).1;simp![↓Xf];refine up2 ⟨P,t+1,_,_,_,rfl,I.next c,W⟩ ?_
   show (1000-((t:Int)+1)).toNat < (1000-(t:Int)).toNat;ext
 ·rw[aG (by ext)];exact h2 v (I.none (by ext)) ex
end
open PySem (Str)
def hv(h:Hs)(x:Sd)(v:Nat):Bool:=(bU h.hands.length).any λk=>ra (mX (bL h x k)) (.int (v:Nat))
def uf(h:Hs)(x:Sd):Bool:=hv h x 0&&hv h x 1
def yZ(row:List D)(d:D):Bool:=match d with
 | .non=>false
 |d => !(row.any λe=>ra e d)
def z8(h:Hs)(row:List D)(x:Sd):Bool:=(bU h.hands.length).any λk=>yZ row (mX (bL h x k))
theorem nX{n:Nat}{b:Nat->Bool}:kN (cf n λi=>.bl (b i))=some (cf n b):=by
 unfold cf;generalize bU n=l
 induction l with
 |nil=>rfl
 |cons x l ih=>rw[aL,kN,ih];rfl
section
variable{s u:aX}{Q:D->aX->Prop}{h:Hs}{x:Sd}{row:List D}
theorem sY{n:Nat}{b:Nat->Bool}:wp (tK (cf n λi=>.bl (b i))) Q s=Q (.bl ((bU n).any b)) s:=by unfold tK;rw[nX,cj];unfold cf;rw[pH];rfl
theorem W1{c:Ln}:lJ (mX c)=true:=by cases c<;>rfl
theorem Ti:(i7 h x).all lJ=true:=by unfold i7 cf;rw[t7,cX];exact λk _=>W1
theorem OF{v:Nat}:wp (A1 (.int (v:Nat)) (i7 h x)) Q s=Q (.bl (hv h x v)) s:=by
 unfold A1;rw[dQ,cj];have e:((i7 h x).any λd=>ra d (.int (v:Nat)))=hv h x v:=by unfold i7 cf hv;rw[pH];rfl
 rw[e];exact propext ⟨λz=>z.2,λz=>⟨⟨rfl,Ti⟩,z⟩⟩
theorem Ul:wp (jp [.tup (i7 h x)]) Q s=Q (.bl (uf h x)) s:=by
 have g:∀Q s,wp (A1 (.int 0) (i7 h x)) Q s=Q (.bl (hv h x 0)) s:=λQ s=>OF (v:=0);have c:∀Q s,wp (A1 (.int 1) (i7 h x)) Q s=Q (.bl (hv h x 1)) s:=λQ s=>OF (v:=1)
 (simp![jp];simp![yj,↓g])
 unfold uf;cases hv h x 0 with
 |true=>simp![↓c,Cf,if_true]
 |false=>simp![iU,aT,if_false]
theorem OK(c:row∈iO h.hands.length):row.all lJ=true:=by rw[cX];intro d hd;obtain⟨k,g⟩:=b9.mp hd;rcases (zW _ row c).2 k d g with e|e<;>rw[e]<;>rfl
theorem Q_(hh:iz h)(q:row∈iO h.hands.length):wp (jh [.tup row,.tup (i7 h x)]) Q s=Q (.bl (z8 h row x)) s:=by
 have B:=hh.2.2.2.1;have o:h.hands.length<=dN:=fA (by ext);have w:∀A s,wp (collect (aO 0) cz (tj (c2 lw (al 0) (aw .non)) (c2 oI (al 0) (al 1))) eU (cf h.hands.length λk=>mX (bL h x k)) [none,some (.tup row)]) A s=A (cf h.hands.length λk=>.bl (yZ row (mX (bL h x k)))) s:=λA s=>Al vq λk C Q=>by
  cases bL h x k with
  |act b d gs=>simp![mX,yZ];exact dh rfl
  |settle v=>
   have g:∀Q s,wp (vx (.int (v:Nat)) row) Q s=Q (.bl (!(row.any λe=>ra e (.int (v:Nat))))) s:=λQ s=>by unfold vx;rw[dQ,cj];exact propext ⟨λz=>z.2,λz=>⟨⟨rfl,OK q⟩,z⟩⟩
   have l:∀Q s,wp (lw (.int (v:Nat)) .non) Q s=Q (.bl true) s:=λQ s=>dh rfl;have c:∀Q s,wp (oI (.int (v:Nat)) (.tup row)) Q s=Q (.bl (!(row.any λe=>ra e (.int (v:Nat))))) s:=λQ s=>(nr rfl).trans (g Q s);simp![mX,bC,↓l,↓c,if_true,yZ]
 (simp![jh];simp![yd,i7,fZ,qW,o,↓w,↓sY])
 rfl
end
open PySem (Str)
theorem VC{α:Type}{m:M α}{s c:aX}{d:α}(h:∀Q:α->aX->Prop,wp m Q s=Q d c):m s=.ok d c:=by
 have:=h λa t=>a=d/\t=c;have w:wp m (λa t=>a=d/\t=c) s:=by rw[this];exact⟨rfl,rfl⟩
 cases w with
 |intro a t e q=>rw[e,q.1,q.2]
theorem Ie{v:aX}{i:Nat}:(eD 0 v)[i]?=(v[i]?).map mY:=by unfold eD;rw[List.take_zero,AF,kH,ao]
theorem UG{v:aX}{i:Nat}{ds:List D}(h:v[i]?=some (.lst ds)):(eD 0 v)[i]?=some (.lst ds):=by rw[Ie,h];rfl
theorem Ov{g:List D->M D}{c:FCode}{vs ds:List D}{s:aX}{Q:D->aX->Prop}(h:wp (g (ds++[.fn s.length])) (λr u=>dZ s u/\s.length < u.length/\Q r (eD s.length u)) (s++[.clo c vs])):wp (callC g c vs ds) Q s:=by
 cases h with
 |intro r u e q=>
  obtain⟨C,B,o⟩:=q;refine⟨r,eD s.length u,?_,o⟩;unfold callC;rw[e];refine aJ ⟨B,λm l=>.inl ?_⟩;rw[aj l];exact C.at_ (aj l)
theorem Gd{s u:aX}(h:dZ s u):dZ s (eD s.length u):=by obtain⟨t,rfl⟩:=h;exact⟨t.map mY,by unfold eD;rw[List.take_left,List.drop_left]⟩
theorem T5{v t:aX}:(eD 0 v++t).mapIdx (oC v)=v++t:=by
 apply e8;intro i;have g:(eD 0 v).length=v.length:=by unfold eD;simp
 rw[u5];by_cases c:i < v.length
 ·rw[ar (by ext),ar c,Ie,aj c]
  show some (oC v i (mY v[i]))=some v[i];unfold oC;rw[aj c];cases v[i]<;>rfl
 ·rw[bb (by ext),bb (by ext),g];cases t[i-v.length]? with
  |none=>rfl
  |some o=>
   show some (oC v i o)=some o;unfold oC;rw[bH (by ext)]
theorem OU{g:List D->M D}{vs ds:List D}{r:D}{v t:aX}(h:∀Q:D->aX->Prop,wp (g (ds++vs)) Q (eD 0 v)=Q r (eD 0 v++t)):mR g vs ds v=.ok r (v++t):=by unfold mR;rw[VC h];refine (aJ λi o e c=>?_).trans (by rw[T5]);have l:=(ae.mp e).1;rw[ar (by unfold eD;simpa using l),Ie,e];show some (mY o)=_;unfold mY;rw[aJ c]
theorem QS:¬ (FCode.lam mv=.lam lK):=λz=>ba (cU (λc=>match c with
 |FCode.lam e=>(BC e).line
 |_=>0) z) (by nofun)
section
variable{s u:aX}{Q:D->aX->Prop}{h:Hs}{l:Loc}{nf:Nat}
theorem Tf{vs:List D}{a r:D}{t:aX}(g:s[nf]?=some (.clo (.lam lK) vs))(h:∀Q:D->aX->Prop,wp (pz ([a]++vs)) Q (eD 0 s)=Q r (eD 0 s++t)):wp (pD pN (.fn nf) [a]) Q s=Q r (s++t):=by
 refine dh ?_
 show (match s[nf]? with|some (.lam e)=>rT pN.1 e [a] s|some (.clo c vs)=>mV pN.2 c vs [a] s|_=>.bad)=_;rw[g]
 show mV ((.lam lK,⟨1,1,pz⟩)::_) (.lam lK) vs [a] s=_;unfold mV;rw[aJ rfl]
 show chk (1=1) (mR pz vs [a]) s=_;unfold chk;rw[aJ rfl];exact OU h
theorem Q4{vs:List D}{a r:D}{t:aX}(g:s[nf]?=some (.clo (.lam mv) vs))(h:∀Q:D->aX->Prop,wp (qH ([a]++vs)) Q (eD 0 s)=Q r (eD 0 s++t)):wp (pD pN (.fn nf) [a]) Q s=Q r (s++t):=by
 refine dh ?_
 show (match s[nf]? with|some (.lam e)=>rT pN.1 e [a] s|some (.clo c vs)=>mV pN.2 c vs [a] s|_=>.bad)=_;rw[g]
 show mV [(.lam lK,⟨1,1,pz⟩),(.lam mv,⟨1,2,qH⟩)] (.lam mv) vs [a] s=_;unfold mV;rw[aG QS];unfold mV;rw[aJ rfl]
 show chk (1=1) (mR qH vs [a]) s=_;unfold chk;rw[aJ rfl];exact OU h
theorem T8{f:CE}{a:CA}:wp (qw pN f a l) Q s=wp (f l) (λd c=>wp (a l) (λds g=>wp (pD pN d ds) Q g) c) s:=by unfold qw;rw[d9];congr 1;funext d c;rw[d9]
theorem P5{c:FCode}{is:List Nat}{a:CA}{vs ds:List D}{g:List D->M D}(t:s[0]?=some (.tbl "fault_of" "<lambda>"))(hv:sy l is=some vs)(o:a l s=.ok ds s):wp (lY 0 "fault_of" "<lambda>" g c is a l) Q s=wp (callC g c vs ds) Q s:=by
 have:lY 0 "fault_of" "<lambda>" g c is a l s=callC g c vs ds s:=by unfold lY bnd;rw[o];dsimp only;rw[t,hv];exact aJ ⟨rfl,rfl⟩
 rw[qr,qr,this]
variable{ys:List Sd}{y:Sd}{no ns cp n a:Nat}{E:Nat->List (Nat×Nat)}{Gl:Nat->Bool}{row:List D}
theorem Ya:(ys.map cM).findIdx (λd=>gH d (cM y))=ys.idxOf y:=by
 rw[List.findIdx_map];unfold List.idxOf;congr 1;funext x
 show gH (cM x) (cM y)=(x == y)
 rw[G3];rfl
theorem Yp{A B:CE}(o:y∈ys)(G:ys.length<=900)(g:s[no]?=some (.lst (ys.map cM)))(C:∀Q,wp (A l) Q s=Q (.ref no) s)(q:∀Q,wp (B l) Q s=Q (cM y) s):wp (m_ A B l) Q s=Q (.int (ys.idxOf y:Nat)) s:=by
 have c:∀x:Sd,(stK (cM x)).isSome=true:=λx=>vZ x;unfold m_;rw[d9,C];dsimp only;rw[d9,q,d9,fU g,dQ,cj,Ya];refine propext ⟨λz=>z.2,λz=>⟨⟨⟨c y,?_⟩,?_,fA (by rw[af];ext)⟩,z⟩⟩
 ·rw[t7,cX];exact λx _=>c x
 ·rw[pH,fv];exact⟨y,o,by show gH (cM y) (cM y)=true;rw[G3];simp⟩
theorem Pz(g:xq n E ns s)(B:s[cp]?=some (.lst (cf n λi=>.bl (Gl i))))(o:a < n)(H:n<=600)
  (q:∀(w:List D)j u,w.length<=601->Rc E a j->Gl j=true->dZ s u->Q (.tup w) u) (J:∀u,(∀y,Rc E a y->Gl y=false)->dZ s u->Q .non u):wp (jN [.ref ns,.int (a:Nat),.ref cp]) Q s:=by
 have C:∀(Q:D->aX->Prop)s,wp (c6 (cf n λi=>.bl (Gl i)) (a:Int)) Q s=Q (.bl (Gl a)) s:=λQ s=>ww o
 (simp![jN];simp![yh,↓fU B,↓C])
 by_cases c:Gl a=true
 ·rw[aJ c];simp![bn];exact q [] a s (by simp) (.refl _) c (dZ.refl _)
 ·rw[aG c]
  try simp![]
  refine P0 g B o H (λw j u G r e x=>by simp![];exact q w j u G r e x) λu I x=>?_;simp![];exact J u (λy r=>by
   cases r with
   |refl=>exact e9.mpr c
   |step hp r=>exact I _ hp y r) x
theorem N9{nf:Nat}{Gr:List D->Nat->Bool}(hc:oE h)(hyl:ys.length<=600)(hb:∀row∈iO h.hands.length,e_ h row∈ys)(gy:s[no]?=some (.lst (ys.map cM)))(g:xq ys.length E ns s)
  (call:∀v row(R:D->aX->Prop),dZ s v->row∈iO h.hands.length->(∀r v',v'[r]?=some (.lst (cf ys.length λi=>.bl (Gr row i)))->dZ v v'->R (.ref r) v')->wp (pD pN (.fn nf) [.tup row]) R v)
  (h1:∀row(w:List D)j u,row∈iO h.hands.length->Rc E (ys.idxOf (e_ h row)) j->Gr row j=true->dZ s u->Q (.tup [.tup row,.tup w]) u)
  (h2:∀u,(∀row∈iO h.hands.length,∀j,Rc E (ys.idxOf (e_ h row)) j->Gr row j=false)->dZ s u->Q .non u):
  wp (jf [eR h,.tup [.ref no,.ref ns],.fn nf]) Q s:=by
 have hh:=hc.1;have l2:2<=dN:=fA (by ext)
 (simp![jf];simp![yG])
 refine Pg hh λr u hr gr ex=>?_;simp![↓fU gr];refine tZ (λi l v=>∃(b:D)(y4 U O:Option D),l=[some (eR h),some (.tup [.ref no,.ref ns]),some (.fn nf),some b,y4,U,O]/\((b=.non/\∀(k:Nat)row,k < i->(iO h.hands.length)[k]?=some row->∀j,Rc E (ys.idxOf (e_ h row)) j->Gr row j=false)\/∃row w j,b=.tup [.tup row,.tup w]/\row∈iO h.hands.length/\Rc E (ys.idxOf (e_ h row)) j/\Gr row j=true)/\dZ u v) (λ_ _ _ z=>by obtain⟨_,_,_,_,_,_,e⟩:=z;exact e.at_ gr)
  ⟨_,_,_,_,rfl,.inl ⟨rfl,λk row L=>ba L (by ext)⟩,dZ.refl _⟩ (λRw i d l v up rt hd hW=>?_) (λl v hW=>?_)
 ·obtain⟨b,y4,U,O,el,B,C⟩:=hW;subst el;rw[ao]at hd;cases u:(iO h.hands.length)[i]? with
  |none=>rw[u]at hd;cases hd
  |some row=>
   rw[u]at hd;have ed:d=.tup row:=(aM hd).symm;subst ed;have q:=av u;have E:=ex.trans C;have wb:∀(Q:D->aX->Prop)s,wp (jy [eR h,.tup row]) Q s=Q (cM (e_ h row)) s:=λQ s=>Oh hh q;have ha:ys.idxOf (e_ h row) < ys.length:=lW.mpr (hb row q);have wx:∀(Q:D->aX->Prop),wp (m_ (c2 aQ (al 1) (aw (.int 0))) (bu jy (ac (al 0) (ac (al 4) aH))) [some (eR h),some (.tup [.ref no,.ref ns]),some (.fn nf),some b,some (.tup row),U,O]) Q v=Q (.int (ys.idxOf (e_ h row):Nat)) v:=λQ=>Yp (hb row q) (by ext) (E.at_ gy) (λQ=>by simp![]) (λQ=>by simp![↓wb]);simp![↓wx,↓T8];refine call v row _ E q λr2 v2 g2 l=>?_;simp![];refine Pz ((g.ext E).ext l) g2 ha hyl (λw j v3 hw rc gt Y=>?_) (λv3 hn Y=>?_)
   ·simp![↓Hg,if_true];have keep:Rw (.next [some (eR h),some (.tup [.ref no,.ref ns]),some (.fn nf),some (.tup [.tup row,.tup w]),some (.tup row),some (.int (ys.idxOf (e_ h row):Nat)),some (.tup w)]) v3:=up ⟨_,_,_,_,rfl,.inr ⟨row,w,j,rfl,q,rc,gt⟩,(C.trans l).trans Y⟩;rcases B with ⟨rfl,_⟩|⟨o,J,j',rfl,H,G,I⟩
    ·have g:∀(Q:D->aX->Prop)s,wp (va .non .non) Q s=Q (.bl true) s:=λQ s=>dh rfl;simp![↓g,if_true,l2];exact keep
    ·have g:∀(Q:D->aX->Prop)s,wp (va (.tup [.tup o,.tup J]) .non) Q s=Q (.bl false) s:=λQ s=>dh rfl;simp![↓g,aT,if_false,l2];by_cases c:(w.length:Int) < J.length
     ·rw[aJ c];try simp![]
      exact keep
     ·rw[aG c];try simp![]
      exact up ⟨_,_,_,_,rfl,.inr ⟨o,J,j',rfl,H,G,I⟩,(C.trans l).trans Y⟩
   ·simp![↓GI,aT,if_false];refine up ⟨b,_,_,_,rfl,?_,(C.trans l).trans Y⟩;rcases B with ⟨e,hf⟩|z
    ·refine .inl ⟨e,λk o L g=>?_⟩;by_cases c:k=i
     ·subst c;rw[u]at g;cases g;exact hn
     ·exact hf k o (by ext) g
    ·exact .inr z
 ·obtain⟨b,y4,U,O,el,B,C⟩:=hW;subst el;simp![];rcases B with ⟨rfl,hf⟩|⟨o,J,j',rfl,H,G,I⟩
  ·refine h2 v (λrow hr j rc=>?_) (ex.trans C);obtain⟨k,L⟩:=b9.mp hr;exact hf k row (by rw[af];exact (ae.mp L).1) L j rc
  ·exact h1 o J j' v H G I (ex.trans C)
end
open PySem (Str)
noncomputable def zV(ys:List Sd)(f:Sd->Bool)(i:Nat):Bool:=((ys[i]?).map f).getD false
theorem OA{ys:List Sd}{f:Sd->Bool}{i:Nat}(h:zV ys f i=true):∃y,ys[i]?=some y/\f y=true:=by
 unfold zV at h;cases e:ys[i]? with
 |none=>rw[e]at h;cases h
 |some y=>rw[e]at h;exact⟨y,rfl,h⟩
theorem M_{ys:List Sd}{f:Sd->Bool}:(ys.map λx=>D.bl (f x))=cf ys.length λi=>.bl (zV ys f i):=by apply Dq (by simp);intro i c;unfold zV;rw[ao,aj c];rfl
def Rb(h:Hs)(ys:List Sd)(f:List D->Sd->Bool):Prop:=∃row∈iO h.hands.length,∃j y,Rc (eF h ys) (ys.idxOf (e_ h row)) j/\ys[j]?=some y/\f row y=true
def Fp(h:Hs)(ys:List Sd):Prop:=Rb h ys (λ_=>uf h)\/Rb h ys (z8 h)
section
variable{s u:aX}{Q:D->aX->Prop}{h:Hs}{l:Loc}{ys:List Sd}{no ns:Nat}{row:List D}
theorem O6{f:List D->Sd->Bool}(c:∀row∈iO h.hands.length,∀j,Rc (eF h ys) (ys.idxOf (e_ h row)) j->zV ys (f row) j=false):¬ Rb h ys f:=by
 rintro ⟨row,hr,j,y,rc,ey,e⟩
 have:=c row hr j rc;unfold zV at this;rw[ey]at this;exact ba (this.symm.trans e) (by simp)
theorem Kq{g:Sd->D}{e:CE}{caps:Loc}{r:Nat}{A:List D->aX->Prop}(B:s[r]?=some (.lst (ys.map g))){f:Sd->D}(q:∀y∈ys,∀Q,wp (e (some (g y)::caps)) Q s=Q (f y) s):wp (collect (aO 0) cz e (i9 r (ys.map g)) (ys.map g) (none::caps)) A s=A (ys.map f) s:=by
 rw[Gg (f:=λk=>((ys[k]?).map f).getD .non) (show i9 r _ s from B) (λk d hd Q=>by
  rw[ao]at hd;cases c:ys[k]? with
  |none=>rw[c]at hd;cases hd
  |some y=>
   rw[c]at hd;cases hd;exact q y (av c) Q),af]
 congr 1;symm;exact Dq (by simp) λi o=>by rw[ao,aj o];rfl
theorem Vw(hc:oE h)(hyl:ys.length<=600)(hys:∀y∈ys,ia h y)(hb:∀row∈iO h.hands.length,e_ h row∈ys)(t0:s[0]?=some (.tbl "fault_of" "<lambda>"))(gy:s[no]?=some (.lst (ys.map cM)))(g:xq ys.length (eF h ys) ns s)
  (h1:∀(w:List D)u,Fp h ys->dZ s u->Q (.tup w) u) (h2:∀u,¬ Fp h ys->dZ s u->Q .non u):wp (jE [eR h,.tup [.ref no,.ref ns]]) Q s:=by
 have hh:=hc.1;have ln:ys.length<=dN:=fA (by ext);have l1:1<=dN:=fA (by ext);have l3:1+2<=dN:=fA (by ext);have ws:∀y∈ys,∀(Q:D->aX->Prop)s,wp (ji [eR h,cM y]) Q s=Q (.tup (i7 h y)) s:=λy hy Q s=>MI hh (hys y hy);have wt:∀A,wp (collect (aO 0) cz (bu ji (ac (al 1) (ac (al 0) aH))) (i9 no (ys.map cM)) (ys.map cM) [none,some (eR h)]) A s=A (ys.map λx=>.tup (i7 h x)) s:=λA=>Kq gy λy hy Q=>by have w:=ws y hy;simp![↓w]
 (simp![jE];simp![yy,↓fU gy,fZ,af,ln,↓wt])
 have x1:dZ s (s++[MO.lst (ys.map λx=>.tup (i7 h x))]):=(dZ.refl _).snoc _;have g1:(s++[MO.lst (ys.map λx=>.tup (i7 h x))])[s.length]?=some (.lst (ys.map λx=>.tup (i7 h x))):=ko;generalize s++[MO.lst (ys.map λx=>.tup (i7 h x))]=E at *;have wu:∀A,wp (collect (aO 0) cz (bu jp (ac (al 0) aH)) (i9 s.length (ys.map λx=>.tup (i7 h x))) (ys.map λx=>.tup (i7 h x)) [none]) A E=A (ys.map λx=>.bl (uf h x)) E:=λA=>Kq g1 λy hy Q=>by have w:∀(Q:D->aX->Prop)s,wp (jp [.tup (i7 h y)]) Q s=Q (.bl (uf h y)) s:=λQ s=>Ul;simp![↓w]
 simp![↓fU g1,fZ,af,ln,↓wu];have Y:dZ s (E++[MO.lst (ys.map λx=>.bl (uf h x))]):=x1.snoc _;have g2:(E++[MO.lst (ys.map λx=>.bl (uf h x))])[E.length]?=some (.lst (ys.map λx=>.bl (uf h x))):=ko;have g1':(E++[MO.lst (ys.map λx=>.bl (uf h x))])[s.length]?=some (.lst (ys.map λx=>.tup (i7 h x))):=mD g1;generalize hn1:E.length=C at *;generalize E++[MO.lst (ys.map λx=>.bl (uf h x))]=q at *;have hs2:s.length<=q.length:=Y.le;have cc:∀(c:FCode)(is:List Nat)(vs:List D)(y4:Option D)(v:aX)(Q:D->aX->Prop),v[0]?=some (.tbl "fault_of" "<lambda>")->sy [some (eR h),some (.tup [.ref no,.ref ns]),some (.ref s.length),some (.ref C),y4] is=some vs->wp (lY 0 "fault_of" "<lambda>" jf c is (ac (al 0) (ac (al 1) aH)) [some (eR h),some (.tup [.ref no,.ref ns]),some (.ref s.length),some (.ref C),y4]) Q v=wp (callC jf c vs [eR h,.tup [.ref no,.ref ns]]) Q v:=λc is vs y4 v Q t e=>P5 t e rfl;simp only[↓cc (.lam lK) [3] [.ref C] none q _ (Y.at_ t0) rfl];refine Ov ?_;have I:dZ q (q++[MO.clo (.lam lK) [.ref C]]):=(dZ.refl _).snoc _;have ga:(q++[MO.clo (.lam lK) [.ref C]])[q.length]?=some (.clo (.lam lK) [.ref C]):=ko;generalize q++[MO.clo (.lam lK) [.ref C]]=sa at *;have lta:=kc ga;have U:=Y.trans I
 show wp (jf [eR h,.tup [.ref no,.ref ns],.fn q.length]) _ sa;refine N9 (Gr:=λ_=>zV ys (uf h)) hc hyl hb (U.at_ gy) (g.ext U) (λv row R L J hR=>?_) (λrow w j u J rc e o=>?_) (λu hf o=>?_)
 ·rw[Tf (t:=[]) (r:=.ref C) (L.at_ ga) λQ=>by unfold pz mU;rw[dm];exact vw];rw[dm];exact hR C v (by rw[<- M_];exact (I.trans L).at_ g2) (dZ.refl _)
 ·have xk:=Gd (I.trans o);refine⟨I.trans o,by have:=o.le;ext,?_⟩;generalize eD q.length u=l at *;obtain⟨y,ey,e⟩:=OA e;simp![↓Hg,if_true,l1,l3];exact h1 _ l (.inl ⟨row,J,j,y,rc,ey,e⟩) (Y.trans xk)
 ·have xk:=Gd (I.trans o);refine⟨I.trans o,by have:=o.le;ext,?_⟩;have b1:=O6 hf;generalize eD q.length u=B at *;have c:=Y.trans xk;have g3:=xk.at_ g1';simp![↓GI,aT,if_false];simp only[↓cc (.lam mv) [2] [.ref s.length] (some .non) B _ (c.at_ t0) rfl];refine Ov ?_;have H:dZ B (B++[MO.clo (.lam mv) [.ref s.length]]):=(dZ.refl _).snoc _;have E:(B++[MO.clo (.lam mv) [.ref s.length]])[B.length]?=some (.clo (.lam mv) [.ref s.length]):=ko;generalize B++[MO.clo (.lam mv) [.ref s.length]]=sb at *;have ltb:=kc E;have O:=c.trans H
  show wp (jf [eR h,.tup [.ref no,.ref ns],.fn B.length]) _ sb;refine N9 (Gr:=λrow=>zV ys (z8 h row)) hc hyl hb (O.at_ gy) (g.ext O) (λv row R L J hR=>?_) (λrow w j u J rc e o=>?_) (λu hf o=>?_)
  ·have C:(eD 0 v)[s.length]?=some (.lst (ys.map λx=>.tup (i7 h x))):=UG ((H.trans L).at_ g3);have U:∀A,wp (collect (aO 0) cz (bu jh (ac (al 1) (ac (al 0) aH))) (i9 s.length (ys.map λx=>.tup (i7 h x))) (ys.map λx=>.tup (i7 h x)) [none,some (.tup row)]) A (eD 0 v)=A (ys.map λx=>.bl (z8 h row x)) (eD 0 v):=λA=>Kq C λy hy Q=>by have w:∀(Q:D->aX->Prop)s,wp (jh [.tup row,.tup (i7 h y)]) Q s=Q (.bl (z8 h row y)) s:=λQ s=>Q_ hh J;simp![↓w]
   have c:(eD 0 v).length=v.length:=by unfold eD;simp
   rw[Q4 (t:=[.lst (ys.map λx=>.bl (z8 h row x))]) (r:=.ref v.length) (L.at_ E) λQ=>by unfold qH mU;simp![↓fU C,fZ,af,ln,↓U,c]]
   exact hR v.length _ (by rw[<- M_];exact ko) ((dZ.refl _).snoc _)
  ·have G:=Gd (H.trans o);refine⟨H.trans o,by have:=o.le;ext,?_⟩;generalize eD B.length u=l at *;obtain⟨y,ey,e⟩:=OA e;simp![↓Hg,if_true,l1,l3];exact h1 _ l (.inr ⟨row,J,j,y,rc,ey,e⟩) (c.trans G)
  ·have G:=Gd (H.trans o);refine⟨H.trans o,by have:=o.le;ext,?_⟩;generalize eD B.length u=l at *;simp![↓GI,aT,if_false];exact h2 l (λz=>z.elim b1 (O6 hf)) (c.trans G)
theorem GS{i:Nat}(c:row∈iO h.hands.length):e_ h row∈gm h i:=by
 have first:∀{rows:List (List D)}{xs:List Sd},(e_ h row∈xs\/row∈rows)->e_ h row∈rows.foldl (λys row=>ki ys (e_ h row)) xs:=by
  intro rows
  induction rows with
  |nil=>exact λz=>z.resolve_right (by simp)
  |cons r rows ih=>
   intro xs z;refine ih ?_;rcases z with z|z
   ·exact .inl (by obtain⟨t,e⟩:=JU xs (e_ h r);show _∈ki xs (e_ h r);rw[e];exact bY _ z)
   ·rcases aI.mp z with rfl|z
    ·exact .inl Lx
    ·exact .inr z
 have up:∀i,e_ h row∈gm h i:=λi=>by
  induction i with
  |zero=>exact first (.inr c)
  |succ i ih=>obtain⟨t,e⟩:=Hf (h:=h) i;rw[e];exact bY _ ih
 exact up i
theorem Qd(o:oE h)(I:s[0]?=some (.tbl "fault_of" "<lambda>"))(H:∀i b u,ud h i->(b=true↔¬ Fp h (gm h i))->dZ s u->Q (.bl b) u):wp (jY [eR h,.int 1000]) Q s:=by
 have hh:=o.1;have g:(1000:Int)=((1000:Nat):Int):=rfl
 (simp![jY];simp![yE])
 rw[g];refine TV o (λi go=>by have:=(JN o go).1;ext) λi no nd ns rs u st gn U gs E O J ex=>?_;have el:=LX st;have gw:=Bv hh i;have Y:=(JN o st.1).1;have G:=UD hh gs (by rw[E,el]) J;have l:∀row∈iO h.hands.length,e_ h row∈gm h i:=λrow L=>GS L
 (simp![jG];simp![j1])
 refine Vw o Y gw.2 l (ex.at_ I) gn G (λw C c q=>?_) (λC c q=>?_)
 ·have B:∀(Q:D->aX->Prop)s,wp (va (.tup w) .non) Q s=Q (.bl false) s:=λQ s=>dh rfl;simp![↓B];exact H i false C st ⟨λz=>(by cases z),λz=>ba c z⟩ (ex.trans q)
 ·have B:∀(Q:D->aX->Prop)s,wp (va .non .non) Q s=Q (.bl true) s:=λQ s=>dh rfl;simp![↓B];exact H i true C st ⟨λ_=>c,λ_=>rfl⟩ (ex.trans q)
end
open PySem (Str)
theorem Yn:((("do":Str)) == "do")=true:=by nofun
theorem VP:((("settle":Str)) == "do")=false:=by nofun
section
variable{s u:aX}{Q:D->aX->Prop}{h:Hs}{st:Sd}{row:List D}
theorem Jw{k:Nat}(hh:iz h)(q:ia h st)(B:k < h.hands.length):wp (jc [eR h,cM st,.int k]) Q s=Q (ij (bL h st k)) s:=by
 obtain⟨hd,l,G,E,H,C,_⟩:=BS hh q B;have o:∀Q s,wp (c6 (h.hands.map ny) (k:Int)) Q s=Q (.tup [.tup [bC hd.b0,bC hd.b1],.tup (hd.lines.map ij)]) s:=λQ s=>sQ (by rw[ao,G];rfl);have g:∀Q s,wp (c6 (st.ls.map bC) (k:Int)) Q s=Q (.int (l:Nat)) s:=λQ s=>Cp E;have c:∀Q s,wp (c6 (hd.lines.map ij) (l:Int)) Q s=Q (ij (bL h st k)) s:=λQ s=>sQ (by rw[ao,C];rfl)
 (simp![jc];simp![yx,eR,cM,↓o,↓g,↓c])
theorem YR{k:Nat}(hh:iz h)(q:ia h st)(J:k < h.hands.length)(H:∀u,dZ s u->Q (cM (lE h st k)) u):wp (jv [eR h,cM st,.int k]) Q s:=by
 obtain⟨hd,l,e1,e2,hl,e3,ok⟩:=BS hh q J;have w:∀Q s,wp (jc [eR h,cM st,.int k]) Q s=Q (ij (bL h st k)) s:=λQ s=>Jw hh q J;cases el:bL h st k with
 |settle v=>
  rw[el]at w;simp only[ij]at w
  (simp![jv];simp![jU,↓w,Fj])
  have:=H s (dZ.refl _);rw[JC el]at this;exact this
 |act b d gs=>
  rw[el]at ok w;obtain⟨bd,x,g,f1,Y,f3,f4,f5,f6,f7,f8⟩:=JR hh q ok;rw[IC el f1 Y f5]at H;simp only[ij]at w;have l2:2<=dN:=fA (by ext);have I:k < st.ls.length:=by rw[q.1];exact J
  have L:b < st.ss.length:=(ae.mp Y).1;have w1:∀Q s,wp (c6 (h.boards.map tY) (b:Int)) Q s=Q (.tup [fK bd.S bd.dn bd.nx bd.un,bC bd.st]) s:=λQ s=>sQ (by rw[ao,f1];rfl);have w2:∀Q s,wp (c6 (st.ss.map bC) (b:Int)) Q s=Q (.int (x:Nat)) s:=λQ s=>Cp Y;have w3:∀Q s,wp (c6 (gs.map bC) ((bd.un x d:Nat):Int)) Q s=Q (.int (g:Nat)) s:=λQ s=>Cp f5;have w4:∀(Q:D->aX->Prop)s,wp (aQ (fK bd.S bd.dn bd.nx bd.un) (.int x)) Q s=Q (.tup (cf bd.dn λd=>.tup [.int (bd.nx x d:Nat),.int (bd.un x d:Nat)])) s:=λQ s=>by unfold fK;rw[iH,ww f3]
  have w5:∀(Q:D->aX->Prop)s,wp (c6 (cf bd.dn λd=>.tup [.int (bd.nx x d:Nat),.int (bd.un x d:Nat)]) (d:Int)) Q s=Q (.tup [.int (bd.nx x d:Nat),.int (bd.un x d:Nat)]) s:=λQ s=>ww f4;have C:∀(Q:D->aX->Prop)s,wp (aQ (cM st) (.int 0)) Q s=Q (.tup (st.ls.map bC)) s:=λQ s=>by unfold cM;rw[iH,lc]
  have B:∀(Q:D->aX->Prop)s,wp (aQ (cM st) (.int 1)) Q s=Q (.tup (st.ss.map bC)) s:=λQ s=>by unfold cM;rw[iH,lX]
  have wb:∀(Q:D->aX->Prop)s,wp (aQ (eR h) (.int 0)) Q s=Q (.tup (h.boards.map tY)) s:=λQ s=>by unfold eR;rw[iH,lc]
  (simp![jv];simp![jU,↓w,Em,aT,if_false,↓C,↓B])
  have g1:(s++[MO.lst (st.ls.map bC)]++[MO.lst (st.ss.map bC)])[s.length]?=some (.lst (st.ls.map bC)):=mD ko;have U:(s++[MO.lst (st.ls.map bC)]++[MO.lst (st.ss.map bC)])[(s++[MO.lst (st.ls.map bC)]).length]?=some (.lst (st.ss.map bC)):=ko;have x2:dZ s (s++[MO.lst (st.ls.map bC)]++[MO.lst (st.ss.map bC)]):=((dZ.refl _).snoc _).snoc _;have ll:s.length < (s++[MO.lst (st.ls.map bC)]).length:=by simp
  generalize (s++[MO.lst (st.ls.map bC)]).length=c at *;generalize s++[MO.lst (st.ls.map bC)]++[MO.lst (st.ss.map bC)]=E at *;have ix:MM.pY st.ss.length (b:Int)=some b:=GY L;have G:MM.pY st.ls.length (k:Int)=some k:=GY I;have e5:∀(xs:List Nat)(i v:Nat),((xs.map bC).set i (.int (v:Nat)))=(xs.set i v).map bC:=λxs i v=>by rw[iX];rfl
  have nd:∀n:Nat,bC n=.int (n:Int):=λ_=>rfl;simp![nd,↓wb,↓w1,↓fU U,↓w2,↓w4,↓w5,↓rh U,ix,af,e5];have O:(E.set c (MO.lst ((st.ss.set b (bd.nx x d)).map bC)))[s.length]?=some (.lst (st.ls.map bC)):=by rw[au (by ext)];exact g1
  have g4:((E.set c (MO.lst ((st.ss.set b (bd.nx x d)).map bC))).set s.length (.lst ((st.ls.set k g).map bC)))[s.length]?=some (.lst ((st.ls.set k g).map bC)):=aE (kc O);have g5:((E.set c (MO.lst ((st.ss.set b (bd.nx x d)).map bC))).set s.length (.lst ((st.ls.set k g).map bC)))[c]?=some (.lst ((st.ss.set b (bd.nx x d)).map bC)):=by rw[au (by ext)];exact aE (kc U)
  have x4:=(x2.put (o:=MO.lst ((st.ss.set b (bd.nx x d)).map bC)) (gp ll)).put (o:=MO.lst ((st.ls.set k g).map bC)) (ax _);simp![↓w3,↓fU O,↓rh O,G,af,e5,↓fU g4,↓fU g5,l2];exact H _ x4
theorem XT(hh:iz h)(B:ia h st):wp (jD [eR h,cM st]) Q s=Q (.ref s.length) (s++[.lst (uK h st h.hands.length)]):=by
 have I:=hh.2.2.2.1;have E:=rb (show h.hands.length<=100 by ext);have q:h.hands.length<=dN:=fA (by ext);have o:∀Q s,wp (aQ (eR h) (.int 1)) Q s=Q (.tup (h.hands.map ny)) s:=λQ s=>Bm;have w:∀A s,wp (collect (aO 0) (dg (c2 on (c2 aQ (bu jc (ac (al 1) (ac (al 2) (ac (al 0) aH)))) (aw (.int 0))) (aw (.str "do")))) (al 0) eU (cf h.hands.length λi=>.int i) [none,some (eR h),some (cM st)]) A s=A (uK h st h.hands.length) s:=λA s=>by
  rw[IE (f:=λk=>.int (k:Nat)) (p:=λk=>ky (bL h st k)) (λl=>∃x,l=[x,some (eR h),some (cM st)]) vq ⟨_,rfl⟩ (λi d l hd c=>by
   obtain⟨x,el⟩:=c;obtain⟨C,H⟩:=CM hd;refine⟨[some (.int i),some (eR h),some (cM st)],λG=>by rw[H,el,fB];rfl,⟨_,rfl⟩,λT=>?_,λQ=>by simp only[↓vh]⟩;have g:∀Q s,wp (jc [eR h,cM st,.int i]) Q s=Q (ij (bL h st i)) s:=λQ s=>Jw hh B C;simp![↓g];cases bL h st i with
   |settle v=>simp![ij,VP,ky]
   |act b d gs=>simp![ij,Yn,ky]),qW]
  rfl
 (simp![jD];simp![yA,↓o,af,E,fZ,bc,zZ,qW,q,↓w])
theorem Ou(hh:iz h)(C:row∈iO h.hands.length)(Y:∀u,dZ s u->Q (cM (e_ h row)) u):wp (jz [eR h,.tup row]) Q s:=by
 obtain⟨U,B⟩:=zW _ row C;have z1:=hh.1;have z4:=hh.2.2.2.1;have O:2<=dN:=fA (by ext);have L:h.boards.length<=dN:=fA (by ext);have J:((h.hands.map ny).zipWith (λp q=>D.tup [p,q]) row).length<=dN:=fA (by rw[kT,af];ext);have c : ∀{a b : CE}{I : Wk -> aX -> Prop}{l : Loc}{s : aX}, wp (pC a b l) I s = wp (a l) (λx o => wp (b l) (λy g => match x, y with
   | .tup ds,.tup es=>I ⟨ds.zipWith (λp q=>.tup [p,q]) es,eU⟩ g
   |_,_=>False) o) s:=λ{a b I l s}=>by
  unfold pC;rw[d9];congr 1;funext x o;rw[d9];congr 1;funext y g;cases x<;>cases y<;>first|exact cj|exact ma|exact qM rfl|exact dh rfl
 have H:∀A s,wp (collect (gZ 2 (cA (aO 0) (cA (aO 1) ib))) cz (c2 aQ (c2 aQ (al 0) (aw (.int 0))) (al 1)) eU ((h.hands.map ny).zipWith (λp q=>D.tup [p,q]) row) [none,none]) A s=A (cf h.hands.length λk=>bC (bf h row k)) s:=λA s=>LL C;have G:∀A s,wp (collect (aO 0) cz (c2 aQ (al 0) (aw (.int 1))) eU (h.boards.map tY) [none]) A s=A (cf h.boards.length λk=>bC (xx h k)) s:=λA s=>by
  rw[Gg (f:=λk=>bC (xx h k)) (caps:=[]) vq (λi d hd Q=>by
   rw[ao]at hd;cases ex:h.boards[i]? with
   |none=>rw[ex]at hd;cases hd
   |some x=>
    rw[ex]at hd;have eb:xx h i=x.st:=by unfold xx;rw[ex];rfl
    cases hd;rw[eb];simp![tY]),af]
 have wh:∀Q s,wp (aQ (eR h) (.int 1)) Q s=Q (.tup (h.hands.map ny)) s:=λQ s=>Bm;have E:∀(Q:D->aX->Prop)s,wp (aQ (eR h) (.int 0)) Q s=Q (.tup (h.boards.map tY)) s:=λQ s=>by unfold eR;rw[iH,lc]
 have g1:(s++[MO.lst (cf h.hands.length λk=>bC (bf h row k))])[s.length]?=some (.lst (cf h.hands.length λk=>bC (bf h row k))):=ko
 (simp![jz];simp![yn,↓wh,↓E,↓c,fZ,J,↓H,af,L,↓G,O,↓fU g1])
 have:=Y _ ((dZ.refl s).snoc (.lst (cf h.hands.length λk=>bC (bf h row k))));unfold cM e_ at this;dsimp only at this;rw[GO,GO]at this;exact this
end
open PySem (Str)
noncomputable def wv(a b:Bool):List Nat:=(if a then [0] else [])++(if b then [1] else [])
noncomputable def vG(a b:Bool):Nat:=(if a then 1 else 0) ||| (if b then 2 else 0)
theorem T6(a b:Bool):sv (vG a b)=wv a b:=by cases a<;>cases b<;>decide
theorem OI:∀{ns:List Nat}{a b:Bool},(∀v∈ns,v < 2)->lb (vG a b) ns=vG (a||ns.contains 0) (b||ns.contains 1)
 |[],a,b,_=>by simp[lb]
 |v::ns,a,b,h=>by
  have hv:=h v (by simp)
  show lb (vG a b ||| 1 <<< v) ns=_;have e:vG a b ||| 1 <<< v=vG (a||v == 0) (b||v == 1):=by rcases (show v=0\/v=1 by ext) with rfl|rfl<;>cases a<;>cases b<;>decide
  rw[e,OI (ns:=ns) λx c=>h x (by simp[c])];congr 1
  ·rcases (show v=0\/v=1 by ext) with rfl|rfl<;>simp[oY]
  ·rcases (show v=0\/v=1 by ext) with rfl|rfl<;>simp[oY]
theorem Ow:∀{ns:List Nat},(∀v∈ns,v < 2)->mS (ns.map bC)=some ns
 |[],_=>rfl
 |v::ns,h=>by
  have hv:=h v (by simp);have c:=Ow (ns:=ns) λu hu=>h u (by simp[hu])
  show (if 0<=(v:Int)/\(v:Int) < 4 then (mS (ns.map bC)).map ((v:Int).toNat::·) else none)=_;rw[aJ (by ext),c];rfl
noncomputable def valN:Ln->Nat
 | .settle v=>v
 | .act b _ _=>b
section
variable{s u:aX}{Q:D->aX->Prop}{h:Hs}{x:Sd}{row:List D}
theorem Pc{a b:CE}{l:Loc}: wp (ng a b l) Q s=wp (a l) (λx B=>match x with
  | .ref n=>wp (b l) (λy q=>match y with
   | .ref m=>wp (getL n) (λxs o=>wp (getL m) (λys g=>xs.length+ys.length<=dN/\wp (putL n (xs++ys)) (λ_ c=>Q .non c) g) o) q
   |_=>False) B
  |_=>False) s:=by
 unfold ng;rw[d9];congr 1;funext x B;cases x with
 |ref n=>
  dsimp only;rw[d9];congr 1;funext y q;cases y with
  |ref m=>
   dsimp only;rw[d9];congr 1;funext xs o;rw[d9];congr 1;funext ys g;rw[dQ,d9];congr 2;funext u c;exact cj
  |_=>exact qM rfl
 |_=>exact qM rfl
theorem UH(hh:iz h)(hq:∀r u,s.length<=r->u[r]?=some (.lst ((iO h.hands.length).map D.tup))->dZ s u->Q (.ref r) u):wp (jK [eR h]) Q s:=by
 have hn:h.hands.length=2\/h.hands.length=3:=by have:=hh.2.2.1;have:=hh.2.2.2.1;ext
 have U:1<=dN:=fA (by ext);have wh:∀(Q:D->aX->Prop)s,wp (aQ (eR h) (.int 1)) Q s=Q (.tup (h.hands.map ny)) s:=λQ s=>Bm
 (simp![jK];simp![j9,bn,U,↓wh])
 refine tZ (λi l u=>∃(n:Nat)(J I c:Option D),l=[some (eR h),some (.ref n),J,I,c]/\s.length<=n/\u[n]?=some (.lst ((pK i).map D.tup))/\dZ s u) (λ_ _ _ _=>trivial)
  ⟨_,_,_,_,rfl,ax _,ko,(dZ.refl _).snoc _⟩ (λRw1 i d l u up1 rt1 hd o=>?_) (λl u o=>?_)
 ·obtain⟨n,J,I,c,el,C,g,ex⟩:=o;subst el;have hi:=(ae.mp hd).1;rw[af]at hi;have hi3:i < 3:=by ext
  have hcn:=HI i;have hp:2^i<=8:=by rcases (show i=0\/i=1\/i=2 by ext) with rfl|rfl|rfl<;>decide
  have Y:(u++[MO.lst []])[n]?=some (.lst ((pK i).map D.tup)):=mD g;have lnn:=kc g;simp![bn,↓fU Y];refine tZ (λj l v=>∃c,l=[some (eR h),some (.ref n),some d,some (.ref u.length),c]/\v[n]?=some (.lst ((pK i).map D.tup))/\v[u.length]?=some (.lst ((((pK i).take j).flatMap λx=>[x++[.int 0],x++[.int 1]]).map D.tup))/\dZ s v) (λ_ _ _ w=>by obtain⟨_,_,g,_⟩:=w;exact g)
   ⟨_,rfl,Y,ko,ex.snoc _⟩ (λRw2 j e l v L rt2 E o=>?_) (λl v o=>?_)
  ·obtain⟨c,el,Q,G,q⟩:=o;subst el;rw[ao]at E;cases H:(pK i)[j]? with
   |none=>rw[H]at E;cases E
   |some row=>
    rw[H]at E;have ed:e=.tup row:=(aM E).symm;subst ed;obtain⟨J,e2⟩:=ae.mp H;have I:=JF i row (av H);have tk:(pK i).take (j+1)=(pK i).take j++[row]:=by rw[cE J,e2]
    generalize B:((pK i).take j).flatMap (λx=>[x++[D.int 0],x++[D.int 1]])=ys at G;have C:ys.length<=16:=by
     have:∀l:List (List D),(l.flatMap λx=>[x++[D.int 0],x++[D.int 1]]).length=2*l.length:=by
      intro l
      induction l with
      |nil=>rfl
      |cons a t ih=>rw[pJ,aN,ih,bV];simp;ext
     rw[<- B,this,cn];ext
    have g:row.length+1<=dN:=fA (by ext);have h:2<=dN:=fA (by ext);have O:(v++[MO.lst [.tup (row++[.int 0]),.tup (row++[.int 1])]])[u.length]?=some (.lst (ys.map D.tup)):=mD G;have Y:(v++[MO.lst [.tup (row++[.int 0]),.tup (row++[.int 1])]])[v.length]?=some (.lst [.tup (row++[.int 0]),.tup (row++[.int 1])]):=ko;simp![↓Pc,U,h,g,↓fU O,↓fU Y,↓rh O,af];have hu:=ex.le;refine⟨fA (by simp;ext),L ⟨_,rfl,?_,?_,(q.snoc _).put hu⟩⟩
    ·rw[au (by ext)];exact mD Q
    ·rw[aE (kc O),tk,vU,B];simp
  ·obtain⟨c,el,Q,G,q⟩:=o;subst el;rw[af,fY]at G;simp![];exact up1 ⟨_,_,_,_,rfl,by have:=ex.le;ext,G,q⟩
 ·obtain⟨n,J,I,c,el,C,g,ex⟩:=o;subst el;rw[af,OX hn]at g;simp![];exact hq n u C g ex
theorem Iq{v:Nat}:hv h x v=true↔∃k,k < h.hands.length/\bL h x k=.settle v:=by
 unfold hv;rw[fv];constructor
 ·rintro ⟨k,hk,e⟩
  refine⟨k,dk.mp hk,?_⟩;cases el:bL h x k with
  |settle w=>
   rw[el]at e;have:((w:Int) == (v:Int))=true:=e;rw[beq_iff_eq]at this;congr 1;ext
  |act b d gs=>rw[el]at e;cases e
 ·rintro ⟨k,hk,e⟩
  refine⟨k,dk.mpr hk,?_⟩;rw[e]
  show ((v:Int) == (v:Int))=true;simp
theorem Mn(hh:iz h)(I:ia h x)(Y:∀r u,u[r]?=some (.lst ((wv (hv h x 0) (hv h x 1)).map bC))->dZ s u->Q (.ref r) u):wp (js [eR h,cM x]) Q s:=by
 have z4:=hh.2.2.2.1;have hb:=rb (show h.hands.length<=100 by ext);have H:h.hands.length<=dN:=fA (by ext);have U:∀Q s,wp (aQ (eR h) (.int 1)) Q s=Q (.tup (h.hands.map ny)) s:=λQ s=>Bm;have w:∀A s,wp (collect (aO 0) cz (bu jc (ac (al 1) (ac (al 2) (ac (al 0) aH)))) eU (cf h.hands.length λi=>.int i) [none,some (eR h),some (cM x)]) A s=A (cf h.hands.length λk=>ij (bL h x k)) s:=λA s=>Al vq λk B Q=>by have O:∀Q s,wp (jc [eR h,cM x,.int k]) Q s=Q (ij (bL h x k)) s:=λQ s=>Jw hh I B;simp![↓O]
 (simp![js];simp![yc,↓U,af,hb,fZ,bc,zZ,qW,H,↓w])
 have g:(s++[MO.lst (cf h.hands.length λk=>ij (bL h x k))])[s.length]?=some (.lst (cf h.hands.length λk=>ij (bL h x k))):=ko;have ex:dZ s (s++[MO.lst (cf h.hands.length λk=>ij (bL h x k))]):=(dZ.refl _).snoc _;generalize s++[MO.lst (cf h.hands.length λk=>ij (bL h x k))]=C at *;have L:∀A,wp (collect (aO 0) (dg (c2 on (c2 aQ (al 0) (aw (.int 0))) (aw (.str "settle")))) (c2 aQ (al 0) (aw (.int 1))) (i9 s.length (cf h.hands.length λk=>ij (bL h x k))) (cf h.hands.length λk=>ij (bL h x k)) [none]) A C=A ((((bU h.hands.length).filter λk => !ky (bL h x k)).map λk=>valN (bL h x k)).map bC) C:=λA=>by
  rw[IE (f:=λk=>bC (valN (bL h x k))) (p:=λk => !ky (bL h x k)) (λl=>∃x,l=[x]) (show i9 s.length _ C from g) ⟨_,rfl⟩ (λi d l hd o=>by
   obtain⟨y,el⟩:=o;obtain⟨hi,ed⟩:=CM hd;refine⟨[some (ij (bL h x i))],λG=>by rw[ed,el,fB];rfl,⟨_,rfl⟩,λT=>?_,λQ=>?_⟩
   ·cases bL h x i with
    |settle v=>simp![ij,Fj,ky,nN]
    |act b d gs=>simp![ij,Em,ky,fq]
   ·cases bL h x i with
    |settle v=>simp![ij,valN]
    |act b d gs=>simp![ij,valN]),qW,hU]
  rfl
 simp![↓fU g,fZ,qW,H,↓L];have E:∀v∈((bU h.hands.length).filter λk => !ky (bL h x k)).map λk=>valN (bL h x k),v < 2:=λv hv=>by
  obtain⟨k,B,rfl⟩:=bR.mp hv;obtain⟨q,c⟩:=iB.mp B;obtain⟨_,_,_,_,_,_,ok⟩:=BS hh I (dk.mp q);cases el:bL h x k with
  |settle w=>rw[el]at ok;exact ok
  |act b d gs=>rw[el]at c;cases c
 have mem:∀v,((((bU h.hands.length).filter λk => !ky (bL h x k)).map λk=>valN (bL h x k)).contains v)=hv h x v:=λv=>by
  rw[kI,Iq,List.contains_iff_mem,bR];constructor
  ·rintro ⟨k,B,e⟩
   obtain⟨q,c⟩:=iB.mp B;refine⟨k,dk.mp q,?_⟩;cases el:bL h x k with
   |settle w=>rw[el]at e;rw[<- e];rfl
   |act b d gs=>rw[el]at c;cases c
  ·rintro ⟨k,B,e⟩
   exact⟨k,iB.mpr ⟨dk.mpr B,by rw[e];rfl⟩,by rw[e];rfl⟩
 have J:∀Q,wp (lL ((((bU h.hands.length).filter λk => !ky (bL h x k)).map λk=>valN (bL h x k)).map bC)) Q C=Q (.ref C.length) (C++[.lst ((wv (hv h x 0) (hv h x 1)).map bC)]):=λQ=>by unfold lL;rw[Ow E];dsimp only;rw[iI];have:=OI (a:=false) (b:=false) E;rw[show lb 0 _=_ from this,mem,mem,lR,lR,T6];rfl
 simp![↓J];exact Y _ _ ko (ex.snoc _)
end
open PySem (Str)
structure Wy(a4:List (D×D))(order:List Sd):Prop where
 keys:a4.map (·.1)=order.map cM
 vals:∀p∈a4,∃ps,p.2=.tup ps/\ps.length < order.length
theorem Wy.len{c:List (D×D)}{order:List Sd}(w:Wy c order):c.length=order.length:=by have:=cU cP w.keys;simpa using this
theorem Wy.new{c:List (D×D)}{order:List Sd}{st:Sd}{ps:List D}(w:Wy c order)(q:st∉order)(u:ps.length < order.length+1):Wy (ke c (cM st) (.tup ps)) (order++[st]):=by
 have h:=GN w.keys st;rw[aP q]at h;have B:(c.any λp=>gH p.1 (cM st))=false:=by
  cases e:c.any λp=>gH p.1 (cM st) with
  |false=>rfl
  |true=>
   obtain⟨p,g,l⟩:=fv.mp e;have:(c.find? λp=>gH p.1 (cM st)).isSome=true:=xp.mpr ⟨p,g,l⟩;unfold kJ at h;rw[gE,this]at h;cases h
 unfold ke;rw[B,aG (by simp)];refine⟨by rw[bq,bq,w.keys];rfl,λp g=>?_⟩;rw[aN];rcases aU.mp g with g|g
 ·obtain⟨o,e,l⟩:=w.vals p g;exact⟨o,e,by simp;ext⟩
 ·rw[aC.mp g];exact⟨ps,rfl,by simpa using u⟩
theorem Wy.at_{c:List (D×D)}{order:List Sd}{st:Sd}(w:Wy c order)(o:st∈order):∃ps,kJ c (cM st)=some (.tup ps)/\ps.length < order.length:=by have h:=GN w.keys st;rw[cT o]at h;obtain⟨d,hd⟩:=dH.mp h;have g:=hd;unfold kJ at g;obtain⟨p,l,e⟩:=du.mp g;obtain⟨ps,u,q⟩:=w.vals p (List.mem_of_find?_eq_some l);exact⟨ps,by rw[hd,<- e,u],q⟩
inductive tw(h:Hs)(F:List Sd):Sd->Prop
 |base {x:Sd}:x∈F->tw h F x
 |step {x:Sd}{k:Nat}:tw h F x->k∈gA h x->tw h F (lE h x k)
section
variable{s:aX}{Q:D->aX->Prop}{h:Hs}
theorem M2{nf:Nat}{firsts:List Sd}(hc:oE h)(hf:∀x∈firsts,ia h x)(hg:s[nf]?=some (.lst (firsts.map cM)))(hfl:firsts.length<=100)
  (hq:∀(I O:Nat)(order:List Sd)(s':aX),(∀x∈order,ia h x)->order.Nodup->(∀x∈firsts,x∈order)->(∀x,x∈order↔tw h firsts x)->s'[I]?=some (.lst (order.map cM))->(∃q,s'[O]?=some (.dct true q)/\Wy q order)->dZ s s'->Q (.tup [.ref I,.dic O]) s'):wp (jI [eR h,.ref nf]) Q s:=by
 have hh:=hc.1;have g0:(s++[MO.dct true []]++[MO.lst []])[nf]?=some (.lst (firsts.map cM)):=mD (mD hg);have q0:∀Q,wp (getL nf) Q (s++[MO.dct true []]++[MO.lst []])=Q (firsts.map cM) (s++[MO.dct true []]++[MO.lst []]):=λQ=>fU g0
 (simp![jI];simp![yt,bn,↓q0])
 have lnf:=kc hg;have x0:dZ s (s++[MO.dct true []]++[MO.lst []]):=((dZ.refl _).snoc _).snoc _;have gd:(s++[MO.dct true []]++[MO.lst []])[s.length]?=some (.dct true []):=mD ko;have go:(s++[MO.dct true []]++[MO.lst []])[(s++[MO.dct true []]).length]?=some (.lst []):=ko;have lo:s.length < (s++[MO.dct true []]).length:=by simp
 have lnn:nf < (s++[MO.dct true []]).length:=by simp;ext
 generalize (s++[MO.dct true []]).length=I at go lo lnn ⊢;generalize s++[MO.dct true []]++[MO.lst []]=u0 at x0 gd go g0 ⊢
 let IV:List Sd->aX->Prop:=λorder u=>∃q,u[s.length]?=some (.dct true q)/\u[I]?=some (.lst (order.map cM))/\Wy q order/\order.Nodup/\(∀x∈order,ia h x/\tw h firsts x)/\dZ s u
 have snoc : ∀(order : List Sd)(u : aX)(q : List (D×D))(st : Sd)(ps : List D), u[s.length]? = some (.dct true q) -> u[I]? = some (.lst (order.map cM)) -> Wy q order -> order.Nodup -> (∀x ∈ order, ia h x /\ tw h firsts x) -> dZ s u -> st ∉ order -> ia h st /\ tw h firsts st -> ps.length < order.length+1 ->
   IV (order++[st]) ((u.set s.length (.dct true (ke q (cM st) (.tup ps)))).set I (.lst (order.map cM++[cM st]))):=λorder u q st ps g1 g2 w O hok C hn hst hl=>by
  refine⟨_,by rw[au (by ext),aE (kc g1)],by rw[aE (by rw[b_];exact kc g2),bq];rfl,w.new hn hl,?_,λx C=>?_,(C.put (ax _)).put (by ext)⟩
  ·exact d8.mpr ⟨O,by simp,λa g b c=>by rw[aC.mp c];exact λe=>hn (e ▸ g)⟩
  ·rcases aU.mp C with C|C
   ·exact hok x C
   ·rw[aC.mp C];exact hst
 refine Hc (λi l u=>∃(order:List Sd)(y4:Option D),l=[some (eR h),some (.ref nf),some (.dic s.length),some (.ref I),y4,none,none,none,none]/\u[nf]?=some (.lst (firsts.map cM))/\(∀x∈firsts.take i,x∈order)/\(∀x∈order,x∈firsts)/\IV order u) (λi l u pq151=>by obtain⟨_,_,_,g,_⟩:=pq151;exact g)
  ⟨[],none,rfl,g0,λx C=>ba C (by simp),λx C=>ba C (by simp),[],gd,go,⟨rfl,λp hp=>ba hp (by simp)⟩,nU,λx C=>ba C (by simp),x0⟩ (λi d l u hd H=>?_) (λl u H=>?_)
 ·obtain⟨order,y4,el,gf,G,hsub,q,g1,g2,w,O,hok,C⟩:=H;subst el;rw[ao]at hd;cases ex:firsts[i]? with
  |none=>rw[ex]at hd;cases hd
  |some st=>
   rw[ex]at hd;have ed:d=cM st:=(aM hd).symm;subst ed;have hst:=hf st (av ex);have hl:=few hc O λx C=>(hok x C).1;have hi:=(ae.mp ex).1;have tk:firsts.take (i+1)=firsts.take i++[st]:=by rw[cE hi,(ae.mp ex).2]
   have q1:∀Q,wp (hasK s.length (cM st)) Q u=Q (kJ q (cM st)).isSome u:=λQ=>Gx g1 (vZ st);simp![↓q1,GN w.keys];by_cases hm:st∈order
   ·rw[cT hm];simp![aT];exact⟨order,_,rfl,gf,λx B=>by
     rw[tk]at B;rcases aU.mp B with B|B
     ·exact G x B
     ·rw[aC.mp B];exact hm,hsub,q,g1,g2,w,O,hok,C⟩
   ·rw[aP hm];have q2:∀v Q,wp (storeK s.length (cM st) v) Q u=Q () (u.set s.length (.dct true (ke q (cM st) v))):=λv Q=>Br g1 (vZ st) (rl (by rw[w.len];ext));have g3:∀v,(u.set s.length (MO.dct true (ke q (cM st) v)))[I]?=some (.lst (order.map cM)):=λv=>by rw[au (by ext)];exact g2
    have q3:∀v Q,wp (getL I) Q (u.set s.length (MO.dct true (ke q (cM st) v)))=Q (order.map cM) (u.set s.length (MO.dct true (ke q (cM st) v))):=λv Q=>fU (g3 v);have q4:∀v es Q,wp (putL I es) Q (u.set s.length (MO.dct true (ke q (cM st) v)))=Q () ((u.set s.length (MO.dct true (ke q (cM st) v))).set I (.lst es)):=λv es Q=>rh (g3 v);simp![bn,↓q2,↓q3,↓q4,af];refine⟨rl (by ext),order++[st],_,rfl,?_,λx B=>?_,λx B=>?_,snoc order u q st [] g1 g2 w O hok C hm ⟨hst,.base (av ex)⟩ (by simp)⟩
    ·rw[au (by ext),au (by ext)];exact gf
    ·rw[tk]at B;rcases aU.mp B with B|B
     ·exact bY _ (G x B)
     ·exact bS _ B
    ·rcases aU.mp B with B|B
     ·exact hsub x B
     ·rw[aC.mp B];exact av ex
 ·obtain⟨order,y4,el,gf,G,hsub,q,g1,g2,w,O,hok,C⟩:=H;subst el;rw[af,fY]at G;simp![];refine Jn (λl u=>∃(order:List Sd)(at_:Nat)(y4 y6 y7 y8:Option D),l=[some (eR h),some (.ref nf),some (.dic s.length),some (.ref I),y4,some (.int at_),y6,y7,y8]/\at_<=order.length/\(∀x∈firsts,x∈order)/\(∀i x,i < at_->order[i]?=some x->∀k∈gA h x,lE h x k∈order)/\IV order u)
   (λ(l:Loc)(_:aX)=>match (l[5]?:Option (Option D)) with
    |some (some (D.int i))=>(1000-i).toNat
    |_=>0) ⟨order,0,y4,none,none,none,rfl,bn _,G,λi x hi=>ba hi (by ext),q,g1,g2,w,O,hok,C⟩ (λl u H=>?_)
  obtain⟨order,at_,y4,y6,y7,y8,el,hat,G,hcl,q,g1,g2,w,O,hok,C⟩:=H;subst el;have hl:=few hc O λx C=>(hok x C).1;have q1:∀Q,wp (getL I) Q u=Q (order.map cM) u:=λQ=>fU g2;simp![↓q1,af];by_cases hlt:(at_:Int) < (order.length:Int)
  ·rw[aJ hlt];have hlt':at_ < order.length:=by ext
   have hm:order[at_]∈order:=b8 hlt';have e1:order[at_]?=some order[at_]:=aj hlt';generalize order[at_]=o at hm e1;have J:=(hok o hm).1;have q2:∀(Q:D->aX->Prop)s,wp (c6 (order.map cM) (at_:Int)) Q s=Q (cM o) s:=λQ s=>sQ (by rw[ao,e1];rfl);have q3:∀(Q:D->aX->Prop)s,wp (jD [eR h,cM o]) Q s=Q (.ref s.length) (s++[.lst ((gA h o).map bC)]):=λQ s=>XT hh J;have q4:∀Q:List D->aX->Prop,wp (getL u.length) Q (u++[MO.lst ((gA h o).map bC)])=Q ((gA h o).map bC) (u++[MO.lst ((gA h o).map bC)]):=λQ=>fU ko;simp![↓q2,↓q3,↓q4];have lu1:=kc g1;have lu2:=kc g2;refine Hc (λi l v=>∃(c:List Sd)(y7 y8:Option D),l=[some (eR h),some (.ref nf),some (.dic s.length),some (.ref I),y4,some (.int ((at_:Int)+1)),some (cM o),y7,y8]/\v[u.length]?=some (.lst ((gA h o).map bC))/\o∈c/\at_+1<=c.length/\(∀x∈firsts,x∈c)/\(∃t,c=order++t)/\(∀k∈(gA h o).take i,lE h o k∈c)/\IV c v) (λi l v pq152=>by obtain⟨_,_,_,_,g,_⟩:=pq152;exact g)
    ⟨order,_,_,rfl,ko,hm,by ext,G,⟨[],by simp⟩,by simp,q,mD g1,mD g2,w,O,hok,C.snoc _⟩ (λi d l v hd H=>?_) (λl v H=>?_)
   ·obtain⟨c,y7,y8,el,gv,hme,hat',U,⟨tt,Y⟩,hdn,E,L,l,w',G,hok',B⟩:=H;subst el;rw[ao]at hd;cases O:(gA h o)[i]? with
    |none=>rw[O]at hd;cases hd
    |some k=>
     rw[O]at hd;have ed:d=bC k:=(aM hd).symm;subst ed;have hk:=GU (av O);have hst:=Pe hh J hk;have hl':=few hc G λx C=>(hok' x C).1;have hrc:=tw.step (hok' o hme).2 (av O);have hi':=(ae.mp O).1;have tk':(gA h o).take (i+1)=(gA h o).take i++[k]:=by rw[cE hi',(ae.mp O).2]
     simp![];refine YR hh J hk λv2 xv=>?_
     replace L:=xv.at_ L
     replace l:=xv.at_ l
     replace gv:=xv.at_ gv
     replace B:=B.trans xv
     have q6:∀Q,wp (hasK s.length (cM (lE h o k))) Q v2=Q (kJ E (cM (lE h o k))).isSome v2:=λQ=>Gx L (vZ _);simp![↓q6,GN w'.keys];generalize u:lE h o k=st at hst hrc ⊢;by_cases q:st∈c
     ·rw[cT q];simp![aT];exact⟨c,_,_,rfl,gv,hme,hat',U,⟨tt,Y⟩,λk' g=>by
       rw[tk']at g;rcases aU.mp g with z|z
       ·exact hdn k' z
       ·rw[aC.mp z,u];exact q,E,L,l,w',G,hok',B⟩
     ·rw[aP q];obtain⟨ps,H,hpl⟩:=w'.at_ hme;have q7:∀Q,wp (itemK s.length (cM o)) Q v2=Q (.tup ps) v2:=λQ=>zD L (vZ _) H;have O:∀z Q,wp (storeK s.length (cM st) z) Q v2=Q () (v2.set s.length (.dct true (ke E (cM st) z))):=λz Q=>Br L (vZ st) (rl (by rw[w'.len];ext));have g3:∀z,(v2.set s.length (MO.dct true (ke E (cM st) z)))[I]?=some (.lst (c.map cM)):=λz=>by rw[au (by ext)];exact l
      have J:∀z Q,wp (getL I) Q (v2.set s.length (MO.dct true (ke E (cM st) z)))=Q (c.map cM) (v2.set s.length (MO.dct true (ke E (cM st) z))):=λz Q=>fU (g3 z);have h:∀z es Q,wp (putL I es) Q (v2.set s.length (MO.dct true (ke E (cM st) z)))=Q () ((v2.set s.length (MO.dct true (ke E (cM st) z))).set I (.lst es)):=λz es Q=>rh (g3 z);have l1:1<=dN:=fA (by ext);have l2:ps.length+1<=dN:=fA (by ext);simp![l1,l2,↓q7,↓O,↓J,↓h,af];refine⟨rl (by ext),c++[st],_,_,rfl,?_,bY _ hme,by simp;ext,λx C=>bY _ (U x C),⟨tt++[st],by rw[Y,dG]⟩,λk' g=>by
       rw[tk']at g;rcases aU.mp g with z|z
       ·exact bY _ (hdn k' z)
       ·rw[aC.mp z,u];exact bS _ (by simp),snoc c v2 E st (ps++[bC k]) L l w' G hok' B q ⟨hst,hrc⟩ (by simp;ext)⟩
      rw[au (by ext),au (by ext)];exact gv
   ·obtain⟨c,y7,y8,el,gv,hme,hat',U,⟨tt,Y⟩,hdn,g⟩:=H;subst el;simp![];rw[af,fY]at hdn;refine⟨⟨c,at_+1,y4,_,_,_,rfl,hat',U,λi x hi e k hk=>?_,g⟩,?_⟩
    ·by_cases z:i=at_
     ·subst z;rw[Y,ar hlt',e1]at e;cases e;exact hdn k hk
     ·rw[Y,ar (by ext)]at e;rw[Y];exact bY _ (hcl i x (by ext) e k hk)
    ext
  ·rw[aG hlt];have l2:2<=dN:=fA (by ext);simp![l2];refine hq _ _ order u (λx C=>(hok x C).1) O G (λx=>⟨λz=>(hok x z).2,λz=>?_⟩) g2 ⟨q,g1,w⟩ C
   induction z with
   |base z=>exact G _ z
   |step _ hk ih=>
    obtain⟨i,hi⟩:=fI ih;exact hcl i _ (by have:=(ae.mp hi).1;ext) hi _ hk
end
open PySem (Str)
theorem GL{α:Type}{g:α->D}{t:CT}{e:CE}{caps:Loc}{r:Nat}{xs:List α}{s:aX}{A:List D->aX->Prop}(p:α->Bool)(V:α->D->Prop)(gr:s[r]?=some (.lst (xs.map g)))
  (U:∀x∈xs,∀v(T:Bool->aX->Prop),dZ s v->(∀o,dZ v o->T (p x) o)->wp (t (some (g x)::caps)) T v)
  (he:∀x∈xs,∀v(Q:D->aX->Prop),dZ s v->(∀d o,V x d->dZ v o->Q d o)->wp (e (some (g x)::caps)) Q v)
  (Y:∀(c:List (α×D))u,c.map (·.1)=xs.filter p->(∀z∈c,V z.1 z.2)->dZ s u->A (c.map (·.2)) u):
  wp (collect (aO 0) t e (i9 r (xs.map g)) (xs.map g) (none::caps)) A s:=by
 have chk:∀{v:aX}{R:Unit->aX->Prop},dZ s v->R () v->wp (chkS (i9 r (xs.map g))) R v:=λx z=>by rw[qr];unfold chkS;rw[aJ (show i9 r (xs.map g) _ from x.at_ gr)];exact z
 refine F1 (Q:=A) (λout ds l v=>∃(i:Nat)(c:List (α×D))(y:Option D),ds=(xs.drop i).map g/\l=y::caps/\c.map (·.1)=(xs.take i).filter p/\c.map (·.2)=out/\(∀z∈c,V z.1 z.2)/\dZ s v) (λout l v I=>?_) (λout d ds l v I=>?_) (xs.map g) [] _ s ⟨0,[],none,by simp,rfl,by simp,rfl,by simp,dZ.refl _⟩
 ·obtain⟨i,c,y,h,_,q,C,B,ex⟩:=I;have:xs.drop i=[]:=by cases z:xs.drop i with
   |nil=>rfl
   |cons a b=>rw[z]at h;cases h
  have g:xs.length<=i:=List.drop_eq_nil_iff.mp this;rw[ub g]at q;rw[<- C];exact chk ex (Y c v q B ex)
 ·obtain⟨i,c,y,h,rfl,q,C,B,ex⟩:=I;have H:i < xs.length:=by
   rcases Nat.lt_or_ge i xs.length with z|z
   ·exact z
   ·rw[t_ z]at h;cases h
  rw[cQ H,aL]at h;obtain⟨rfl,rfl⟩:=la h;have L:=b8 H;have tk:xs.take (i+1)=xs.take i++[xs[i]]:=cE H;refine chk ex ?_;rw[fB];refine U _ L v _ ex λv1 G=>?_;cases J:p xs[i] with
  |true=>
   rw[aJ rfl];refine he _ L v1 _ (ex.trans G) λd v2 g O=>⟨i+1,c++[(xs[i],d)],_,rfl,rfl,?_,by rw[bq,C];rfl,λz hz=>?_,(ex.trans G).trans O⟩
   ·rw[tk,lC,bq,q];simp[J]
   ·rcases aU.mp hz with E|E
    ·exact B z E
    ·rw[aC.mp E];exact g
  |false=>
   rw[aG (by simp)];exact⟨i+1,c,_,rfl,rfl,by rw[tk,lC,q];simp[J],C,B,ex.trans G⟩
section
variable{s u:aX}{Q:D->aX->Prop}{h:Hs}{x:Sd}{row:List D}
theorem TL{d:D}(hh:iz h)(c:ia h x)(l:∀u,dZ s u->Q (.bl (uf h x)) u):wp (jr [eR h,cM x,d]) Q s:=by
 (simp![jr];simp![jZ])
 refine Mn hh c λr u g ex=>?_;simp![↓fU g,af];have:=l u ex;unfold uf at this;cases a:hv h x 0<;>cases b:hv h x 1<;>rw[a,b]at this<;>exact this
def vX(row:List D)(v:Nat):Bool := !(row.any λe=>ra e (.int (v:Nat)))
theorem So(hh:iz h)(G:ia h x)(H:row∈iO h.hands.length)(I:∀u,dZ s u->Q (.bl (!((wv (hv h x 0) (hv h x 1)).filter (vX row)).isEmpty)) u):wp (jl [eR h,cM x,.tup row]) Q s:=by
 (simp![jl];simp![jT])
 refine Mn hh G λr u g ex=>?_;have E:(wv (hv h x 0) (hv h x 1)).length<=dN:=fA (by cases hv h x 0<;>cases hv h x 1<;>decide);have C:∀(v:Nat)(Q:D->aX->Prop)s,wp (oI (bC v) (.tup row)) Q s=Q (.bl (vX row v)) s:=λv Q s=>by refine (nr rfl).trans (?_:wp (vx (bC v) row) Q s=_);unfold vx;rw[dQ,cj];exact propext ⟨λz=>z.2,λz=>⟨⟨rfl,OK H⟩,z⟩⟩
 simp![↓fU g,fZ,af,E];refine GL (g:=bC) (vX row) (λv d=>d=bC v) g (λv _ u T x J=>?_) (λv _ u Q x L=>?_) λq l e1 e2 B=>?_
 ·simp![↓C];exact J u (dZ.refl _)
 ·simp![];exact L _ u rfl (dZ.refl _)
 have Y:q.map (·.2)=((wv (hv h x 0) (hv h x 1)).filter (vX row)).map bC:=by rw[<- e1,hU];exact fT λz hz=>e2 z hz
 rw[Y];simp![bn];generalize (wv (hv h x 0) (hv h x 1)).filter (vX row)=c at *;have U:(l++[MO.lst (c.map bC)]++[MO.lst []])[l.length]?=some (.lst (c.map bC)):=mD ko;have O:(l++[MO.lst (c.map bC)]++[MO.lst []])[(l++[MO.lst (c.map bC)]).length]?=some (.lst []):=ko;have o:∀Q,wp (FG (.ref l.length) (.ref (l++[MO.lst (c.map bC)]).length)) Q (l++[MO.lst (c.map bC)]++[MO.lst []])=Q (.bl (!c.isEmpty)) (l++[MO.lst (c.map bC)]++[MO.lst []]):=λQ=>by
  unfold FG EG;rw[d9,d9,fU U,d9,fU O];cases c with
  |nil=>show wp (ret true) _ _=_;rw[cj,cj];rfl
  |cons a b=>show wp (ret false) _ _=_;rw[cj,cj];rfl
 simp![↓o];exact I _ (((ex.trans B).snoc _).snoc _)
end
open PySem (Str)
noncomputable def zI(n v:Nat):List D:=az n (.int (v:Nat))
def Sg(h:Hs)(row:List D)(x:Sd):Bool := !((wv (hv h x 0) (hv h x 1)).filter (vX row)).isEmpty
def zX(h:Hs):Prop:=∀x,tw h ((iO h.hands.length).map (e_ h)) x->uf h x=false
def Am(h:Hs)(m:Nat):Prop:=∀v,v < m->∀x,tw h [e_ h (zI h.hands.length v)] x->Sg h (zI h.hands.length v) x=false
theorem MF{n v:Nat}(c:n=2\/n=3)(hv:v < 2):zI n v∈iO n:=by rcases c with rfl|rfl<;>rcases (show v=0\/v=1 by ext) with rfl|rfl<;>simp[zI,iO,az]
theorem Mr:∀{ds:List D},(∀d∈ds,∃i:Int,d=.int i)->∃is:List Int,mq ds=some is/\is.length=ds.length
 |[],_=>⟨[],rfl,rfl⟩
 |d::ds,h=>by obtain⟨i,rfl⟩:=h d (by simp);obtain⟨is,e,g⟩:=Mr (ds:=ds) λx c=>h x (by simp[c]);exact⟨i::is,by show (mq ds).map _=_;rw[e];rfl,by simp[g]⟩
section
variable{s u:aX}{Q:D->aX->Prop}{h:Hs}{x:Sd}{row:List D}{l:Loc}
theorem LH{a b:CE}:wp (qx a b l) Q s=wp (a l) (λx c=>wp (b l) (λd g=>wp (rU x d) Q g) c) s:=by unfold qx;rw[d9];congr 1;funext x c;rw[d9]
theorem K4{n:Nat}{ds:List D}(g:s[n]?=some (.lst ds))(o:∀d∈ds,∃i:Int,d=.int i)(B:ds=[]->Q .non s)(q:ds≠[]->∀i,Q (.int i) s):wp (rU (.ref n) .non) Q s:=by
 unfold rU;rw[d9,fU g];cases ds with
 |nil=>rw[aJ gD,cj];exact B rfl
 |cons d ds=>
  rw[aG (by simp)];obtain⟨is,e,c⟩:=Mr o;unfold A9;rw[e];cases is with
  |nil=>simp at c
  |cons i is=>dsimp only;rw[cj];exact q (by simp) _
theorem M3{t:CT}{caps:Loc}{H o:Nat}{order:List Sd}{c:List (D×D)}{A:List D->aX->Prop}(p:Sd->Bool)(C:caps[1]?=some (some (.dic o)))(go:s[H]?=some (.lst (order.map cM)))(l:s[o]?=some (.dct true c))(w:Wy c order)
  (U:∀x∈order,∀v(T:Bool->aX->Prop),dZ s v->(∀G,dZ v G->T (p x) G)->wp (t (some (cM x)::caps)) T v)
  (Y:∀(out:List D)u,(out=[]↔∀x∈order,p x=false)->(∀d∈out,∃i:Int,d=.int i)->out.length<=order.length->dZ s u->A out u):
  wp (collect (aO 0) t (c1 ge (c2 aQ (al 2) (al 0))) (i9 H (order.map cM)) (order.map cM) (none::caps)) A s:=by
 refine GL p (λ_ d=>∃i:Int,d=.int i) go U (λx g v Q J h=>?_) λE u I C L=>Y _ u ?_ (λd hd=>?_) ?_ L
 ·obtain⟨ps,q,_⟩:=w.at_ g;have O:∀Q,wp (itemK o (cM x)) Q v=Q (.tup ps) v:=λQ=>zD (J.at_ l) (vZ _) q;have v2:∀(Q:D->aX->Prop),wp (al 2 (some (cM x)::caps)) Q v=Q (.dic o) v:=λQ=>by
   rw[i8]
   show (match caps[1]? with
    |some (some d)=>Q d v
    |_=>False)=_
   rw[C]
  simp![↓Ee,↓vg,↓v2,↓vh,↓O];exact h _ v ⟨_,rfl⟩ (dZ.refl _)
 ·have B:E.length=(order.filter p).length:=by rw[<- I,af]
  rw[List.map_eq_nil_iff,<- tW,B,tW,List.filter_eq_nil_iff];exact⟨λz x g=>e9.mpr (z x g),λz x g=>by rw[z x g];simp⟩
 ·obtain⟨z,hz,rfl⟩:=bR.mp hd;exact C z hz
 ·have B:E.length=(order.filter p).length:=by rw[<- I,af]
  rw[af,B];exact uH _ _
end
open PySem (Str)
section
variable{s u:aX}{Q:D->aX->Prop}{h:Hs}{x:Sd}{row:List D}{l:Loc}
noncomputable def Tells(d:D)(P:Prop):Prop:=(d=.non/\P)\/((∃i,d=.int i)/\¬ P)
theorem Qh(hc:oE h)(hq:∀r a b u,u[r]?=some (.lst [a,b])->Tells a (zX h)->Tells b (Am h 2)->dZ s u->Q (.ref r) u):wp (jg [eR h]) Q s:=by
 have hh:=hc.1;have hn:h.hands.length=2\/h.hands.length=3:=by have:=hh.2.2.1;have:=hh.2.2.2.1;ext
 have l1:1<=dN:=fA (by ext);have l2:2<=dN:=fA (by ext);have hb:(-(2^62)<=(2:Int)/\(2:Int) < 2^62)=True:=eq_true (by ext);have li:(iO h.hands.length).length<=8:=by rw[Ii];rcases hn with e|e<;>rw[e]<;>decide
 have wh:∀Q s,wp (aQ (eR h) (.int 1)) Q s=Q (.tup (h.hands.map ny)) s:=λQ s=>Bm
 (simp![jg];simp![ya])
 refine UH hh λr u hr gr ex=>?_;have lim8:(iO h.hands.length).length<=dN:=fA (by ext);simp![↓fU gr,fZ,af,lim8];refine GL (g:=D.tup) (λ_=>true) (λrow d=>d=cM (e_ h row)) gr (λrow c v T O hT=>?_) (λrow c v Q O hQ=>?_) λzs u1 e1 I x1=>?_
 ·simp![];exact hT v (dZ.refl _)
 ·simp![];exact Ou hh c λv2 J=>hQ _ v2 rfl J
 have ez:zs.map (·.2)=((iO h.hands.length).map (e_ h)).map cM:=by rw[vV.mpr (λ_ _=>rfl)]at e1;rw[hU,<- e1,hU];exact fT λz hz=>I z hz
 rw[ez];simp![];refine M2 hc (firsts:=(iO h.hands.length).map (e_ h)) (λx q=>by obtain⟨row,hr,rfl⟩:=bR.mp q;exact KS hh hr) ko (by rw[af];ext) λno nd order u2 hok hnd hin o go Y J=>?_;obtain⟨a4,gk,w⟩:=Y;have hol:=few hc hnd hok;have lo:order.length<=dN:=fA (by ext);simp![↓fU go,fZ,af,lo];refine M3 (uf h) rfl go gk w (λx q v T O hT=>?_) λout E h1 h2 h3 x3=>?_
 ·simp![bn];exact TL hh (hok x q) λv2 J=>by simp![];exact hT v2 J
 have G:out=[]↔zX h:=h1.trans ⟨λz x q=>z x ((o x).mpr q),λz x q=>z x ((o x).mp q)⟩;simp![bn,hb];have ga:(E++[MO.lst out]++[MO.lst []])[E.length]?=some (.lst out):=mD ko;have gb:(E++[MO.lst out]++[MO.lst []])[(E++[MO.lst out]).length]?=some (.lst []):=ko;have xs3:dZ s (E++[MO.lst out]++[MO.lst []]):=((((ex.trans x1).snoc _).trans J).trans x3 |>.snoc _).snoc _;have lab:E.length < (E++[MO.lst out]).length:=by simp
 have ls3:s.length<=E.length:=((((ex.trans x1).snoc _).trans J).trans x3).le;generalize (E++[MO.lst out]).length=nb at *;generalize E++[MO.lst out]++[MO.lst []]=u4 at *;generalize E.length=na at *;refine tZ (λi l v=>∃(L:List D)(y1 y2 y5 y6:Option D),l=[some (eR h),y1,y2,some (.ref na),some (.ref nb),y5,y6]/\v[na]?=some (.lst out)/\v[nb]?=some (.lst L)/\(L=[]↔Am h i)/\(∀d∈L,∃i:Int,d=.int i)/\L.length<=600*i/\dZ s v) (λ_ _ _ _=>trivial)
  ⟨[],_,_,_,_,rfl,ga,gb,⟨λ_ v hv=>ba hv (by ext),λ_=>rfl⟩,λd hd=>ba hd (by simp),by simp,xs3⟩ (λRw i d l v up rt hd hW=>?_) (λl v hW=>?_)
 ·obtain⟨L,y1,y2,y5,y6,el,g1,g2,C,B,hol2,O⟩:=hW;subst el;obtain⟨u,ed⟩:=EX hd;subst ed;have u:i < 2:=u;have c:=MF hn u;simp![↓wh,af,l1,↓M7,bc,wk];refine⟨by simp;ext,?_⟩;refine Ou hh c λv1 Y=>?_;simp![l1];refine M2 hc (firsts:=[e_ h (zI h.hands.length i)]) (λx q=>by rw[aC.mp q];exact KS hh c) ko (by simp) λno nd order v2 hok hnd hin o go U Q=>?_;obtain⟨a4,gk,w⟩:=U;have hol:=few hc hnd hok;have lo:order.length<=dN:=fA (by ext);simp![↓Pc,↓fU go,fZ,af,lo];refine M3 (Sg h (zI h.hands.length i)) rfl go gk w (λx q v T O hT=>?_) λl g G E h3' I=>?_
  ·simp![];rw[show (az h.hands.length [D.int (i:Int)]).flatten=zI h.hands.length i from wk _];exact So hh (hok x q) c λv2 J=>by simp![];exact hT v2 J
  have x3:dZ v g:=((Y.snoc _).trans Q).trans I;have H:(g++[MO.lst l])[nb]?=some (.lst L):=mD (x3.at_ g2);have g4:(g++[MO.lst l])[g.length]?=some (.lst l):=ko;simp![↓fU H,↓fU g4,↓rh H];refine⟨cF (show _<=1200 by ext) (by decide),up ⟨L++l,_,_,_,_,rfl,by rw[au (by ext)];exact mD (x3.at_ g1),aE (kc H),?_,λd hd=>?_,by rw[aN];ext,((O.trans x3).snoc _).put (by ext)⟩⟩
  ·rw[List.append_eq_nil_iff,C,G];constructor
   ·rintro ⟨z1,z2⟩ w c x q
    rcases (show w < i\/w=i by ext) with e|rfl
    ·exact z1 w e x q
    ·exact z2 x ((o x).mpr q)
   ·exact λz=>⟨λw c=>z w (by ext),λx q=>z i (by ext) x ((o x).mp q)⟩
  ·rcases aU.mp hd with z|z
   ·exact B d z
   ·exact E d z
 ·obtain⟨L,y1,y2,y5,y6,el,g1,g2,C,B,hol2,O⟩:=hW;subst el;simp![↓LH];have H:∀a b,Tells a (zX h)->Tells b (Am h 2)->Q (.ref v.length) (v++[.lst [a,b]]):=λa b g c=>hq _ a b _ ko g c (O.snoc _);refine K4 g1 h2 (λe=>?_) (λe i=>?_)
  all_goals simp![↓LH]
  ·refine K4 g2 B (λI=>?_) (λI j=>?_)<;>simp![l2]
   ·exact H _ _ (.inl ⟨rfl,G.mp e⟩) (.inl ⟨rfl,C.mp I⟩)
   ·exact H _ _ (.inl ⟨rfl,G.mp e⟩) (.inr ⟨⟨j,rfl⟩,λz=>I (C.mpr z)⟩)
  ·refine K4 g2 B (λI=>?_) (λI j=>?_)<;>simp![l2]
   ·exact H _ _ (.inr ⟨⟨i,rfl⟩,λz=>e (G.mpr z)⟩) (.inl ⟨rfl,C.mp I⟩)
   ·exact H _ _ (.inr ⟨⟨i,rfl⟩,λz=>e (G.mpr z)⟩) (.inr ⟨⟨j,rfl⟩,λz=>I (C.mpr z)⟩)
end
open PySem (Str)
section
variable{s u:aX}{Q:D->aX->Prop}{l:Loc}{h:Hs}{ys:List Sd}{x y:Sd}{row:List D}{F:List Sd}
theorem N8(hh:iz h):∀(m:Nat),vo h m->∀(j:Nat)(x:Sd),j < m->(gm h m)[j]?=some x->∀k∈gA h x,lE h x k∈gm h m
 |0,_,j,x,B,_,k,_=>by ext
 |m+1,go,j,x,B,hx,k,hk=>by
  obtain⟨t,C⟩:=Hf (h:=h) m;have o:=go m (by ext);have g:(gm h m)[m]?=some (gm h m)[m]:=aj o;have E:gm h (m+1)=qu h (gm h m)[m] (gA h (gm h m)[m]) (gm h m):=by
   show (match (gm h m)[m]? with
    |some x=>qu h x (gA h x) (gm h m)
    |none=>gm h m)=_
   rw[g]
  have q:j < (gm h m).length:=by ext
  have c:(gm h m)[j]?=some x:=by rw[C,ar q]at hx;exact hx
  by_cases e:j=m
  ·subst e;have:x=(gm h j)[j]:=aM (c.symm.trans g);subst this;rw[E];exact GX hk
  ·rw[C];exact bY _ (N8 hh m (λj B=>go j (by ext)) j x (by ext) c k hk)
theorem LD{i:Nat}(hh:iz h)(st:ud h i){x:Sd}(g:x∈gm h i){k:Nat}(o:k∈gA h x):lE h x k∈gm h i:=by obtain⟨j,c⟩:=b9.mp g;have:=(ae.mp c).1;have:=LX st;exact N8 hh i st.1 j x (by ext) c k o
theorem GJ(c:x∈ys):ys[ys.idxOf x]?=some x:=by have h:=lW.mpr c;rw[aj h,List.getElem_idxOf]
theorem Ui(cl:∀x∈ys,∀k∈gA h x,lE h x k∈ys){a j:Nat}(r:Rc (eF h ys) a j):∀{x},ys[a]?=some x->tw h F x->∃y,ys[j]?=some y/\tw h F y:=by
 induction r with
 |refl=>exact λe z=>⟨_,e,z⟩
 |step hp r ih=>
  intro x e z;unfold eF at hp;rw[e]at hp;obtain⟨k,c,rfl⟩:=bR.mp hp;exact ih (GJ (cl x (av e) k c)) (z.step c)
theorem Mu(cl:∀x∈ys,∀k∈gA h x,lE h x k∈ys){c:Sd}(q:c∈ys)(r:tw h [c] y):∃j,ys[j]?=some y/\Rc (eF h ys) (ys.idxOf c) j:=by
 induction r with
 |base z=>rw[aC.mp z];exact⟨_,GJ q,.refl _⟩
 |@step x k _ hk ih=>
  obtain⟨j,g,o⟩:=ih;refine⟨_,GJ (cl x (av g) k hk),o.snoc (p:=(k,ys.idxOf (lE h x k))) ?_⟩;unfold eF;rw[g];exact bR.mpr ⟨k,hk,rfl⟩
theorem Nd:tw h F y↔∃f∈F,tw h [f] y:=by
 constructor
 ·intro r
  induction r with
  |base z=>exact⟨_,z,.base (by simp)⟩
  |step _ hk ih=>obtain⟨f,c,r⟩:=ih;exact⟨f,c,r.step hk⟩
 ·rintro ⟨f,c,r⟩
  induction r with
  |base z=>rw[aC.mp z];exact .base c
  |step _ hk ih=>exact ih.step hk
theorem Ma{i:Nat}{f:List D->Sd->Bool}(hh:iz h)(st:ud h i):Rb h (gm h i) f↔∃row∈iO h.hands.length,∃y∈gm h i,tw h [e_ h row] y/\f row y=true:=by
 have cl:∀x∈gm h i,∀k∈gA h x,lE h x k∈gm h i:=λx o k q=>LD hh st o q;constructor
 ·rintro ⟨row,hr,j,y,g,ey,e⟩
  obtain⟨C,c,z⟩:=Ui (F:=[e_ h row]) cl g (GJ (GS hr)) (.base (by simp));rw[ey]at c;cases c;exact⟨row,hr,y,av ey,z,e⟩
 ·rintro ⟨row,hr,y,_,z,e⟩
  obtain⟨j,B,g⟩:=Mu cl (GS hr) z;exact⟨row,hr,j,y,g,B,e⟩
theorem NA(hh:iz h)(o:ia h y):z8 h row y=Sg h row y:=by
 have q:Sg h row y=(hv h y 0&&vX row 0||hv h y 1&&vX row 1):=by unfold Sg wv;cases hv h y 0<;>cases hv h y 1<;>cases a:vX row 0<;>cases b:vX row 1<;>simp[a,b]
 rw[q,kI,iD,bj,bj,Iq,Iq];unfold z8;rw[fv];constructor
 ·rintro ⟨k,hk,e⟩
  have c:=dk.mp hk;obtain⟨_,_,_,_,_,_,ok⟩:=BS hh o c;cases el:bL h y k with
  |act b d gs=>rw[el]at e;cases e
  |settle v=>
   rw[el]at e ok;have g:v < 2:=ok;rcases (show v=0\/v=1 by ext) with rfl|rfl
   ·exact .inl ⟨⟨k,c,el⟩,e⟩
   ·exact .inr ⟨⟨k,c,el⟩,e⟩
 ·rintro (⟨⟨k,hk,el⟩,e⟩|⟨⟨k,hk,el⟩,e⟩)<;>exact⟨k,dk.mpr hk,by rw[el];exact e⟩
theorem wc{n:Nat}(g:n=2\/n=3)(c:row∈iO n):row=zI n 0\/row=zI n 1\/(vX row 0=false/\vX row 1=false):=by
 rcases g with rfl|rfl<;>simp only[iO,aL,mI,kh,kH,aI,bI,or_false]at c
 ·rcases c with rfl|rfl|rfl|rfl<;>first|exact .inl rfl|exact .inr (.inl rfl)|exact .inr (.inr ⟨rfl,rfl⟩)
 ·rcases c with rfl|rfl|rfl|rfl|rfl|rfl|rfl|rfl<;>first|exact .inl rfl|exact .inr (.inl rfl)|exact .inr (.inr ⟨rfl,rfl⟩)
theorem QT{i:Nat}(I:oE h)(st:ud h i):(zX h/\Am h 2)↔¬ Fp h (gm h i):=by
 have hh:=I.1;have q:h.hands.length=2\/h.hands.length=3:=by have:=hh.2.2.1;have:=hh.2.2.2.1;ext
 have ok:=(Bv hh i).2;have cl:∀x∈gm h i,∀k∈gA h x,lE h x k∈gm h i:=λx o k G=>LD hh st o G;have g:∀{row y},row∈iO h.hands.length->tw h [e_ h row] y->y∈gm h i:=λc z=>by obtain⟨j,J,_⟩:=Mu cl (GS c) z;exact av J
 unfold Fp;rw[Ma hh st,Ma hh st];constructor
 ·rintro ⟨hu,hs⟩ (⟨row,c,y,hy,z,e⟩|⟨row,c,y,hy,z,e⟩)
  ·rw[hu y (Nd.mpr ⟨_,bR.mpr ⟨row,c,rfl⟩,z⟩)]at e;cases e
  ·rw[NA hh (ok y hy)]at e;rcases wc q c with rfl|rfl|⟨E,C⟩
   ·rw[hs 0 (by ext) y z]at e;cases e
   ·rw[hs 1 (by ext) y z]at e;cases e
   ·unfold Sg wv at e;cases a:hv h y 0<;>cases b:hv h y 1<;>simp[a,b,E,C]at e
 ·intro B;refine⟨λx o=>?_,λv hv x o=>?_⟩
  ·obtain⟨f,H,z⟩:=Nd.mp o;obtain⟨row,c,rfl⟩:=bR.mp H;exact e9.mpr λe=>B (.inl ⟨row,c,x,g c z,z,e⟩)
  ·have c:=MF q hv;exact e9.mpr λe=>B (.inr ⟨_,c,x,g c o,o,by rw[NA hh (ok x (g c o))];exact e⟩)
end
open PySem (Str)
section
variable{s u:aX}{Q:D->aX->Prop}{h:Hs}
theorem Xc{b:Bool}(g:oE h)(q:s[0]?=some (.tbl "fault_of" "<lambda>"))(C:b=true↔zX h/\Am h 2)(B:∀u,dZ s u->Q (.bl true) u):wp (jQ [eR h,.bl b]) Q s:=by
 (simp![jQ];simp![yq])
 refine Qd g q λi l u st c ex=>?_;have e:l=b:=by rw[kI,c,C];exact (QT g st).symm
 subst e;have o:∀(Q:D->aX->Prop)s,wp (kj ["bool"] (.bl l)) Q s=Q (.bl true) s:=λQ s=>dh rfl;simp![↓o,if_true,beq_self_eq_true];exact B u ex
theorem QU(G:oE h)(q:∀b u,(b=true↔zX h/\Am h 2)->dZ s u->Q (.bl b) u):wp (jg [eR h]) (λx C=>wp (cY (eV (ac (aw .non) (ac (aw .non) aH))) [some (eR h)]) (λy B=>wp (on x y) Q B) C) s:=by
 have E:2<=dN:=fA (by ext);refine Qh G λr a b u g l o ex=>?_;simp![E];have I:(u++[MO.lst [.non,.non]])[r]?=some (.lst [a,b]):=mD g;have H:(u++[MO.lst [.non,.non]])[u.length]?=some (.lst [.non,.non]):=ko;have go:∀c:Bool,kK (rZ 50) [a,b] [.non,.non]=some c->wp (on (.ref r) (.ref u.length)) Q (u++[MO.lst [.non,.non]])=Q (.bl c) (u++[MO.lst [.non,.non]]):=λc e=>by
  unfold on EG;rw[d9,d9,fU I,d9,fU H,aJ (show [a,b].length=[D.non,D.non].length from rfl),e]
  show wp (ret c) _ _=_;rw[cj,cj]
 have xe:dZ s (u++[MO.lst [.non,.non]]):=ex.snoc _;rcases l with ⟨rfl,l⟩|⟨⟨i,rfl⟩,l⟩<;>rcases o with ⟨rfl,o⟩|⟨⟨j,rfl⟩,o⟩
 ·rw[go true rfl];exact q _ _ ⟨λ_=>⟨l,o⟩,λ_=>rfl⟩ xe
 ·rw[go false rfl];exact q _ _ ⟨λz=>(by cases z),λz=>ba z.2 o⟩ xe
 ·rw[go false rfl];exact q _ _ ⟨λz=>(by cases z),λz=>ba z.1 l⟩ xe
 ·rw[go false rfl];exact q _ _ ⟨λz=>(by cases z),λz=>ba z.1 l⟩ xe
theorem Rh(ns:List Int)(s0:aX)(t0:s0[0]?=some (.tbl "fault_of" "<lambda>"))(U:∀s,Q (.bl true) s):wp (j4 [.lit (ns.map D.int)]) Q s0:=by
 have ls0:=kc t0;have l2:2<=dN:=fA (by ext);have l3:3<=dN:=fA (by ext);have C:(-(2^62)<=(2:Int)/\(2:Int) < 2^62)=True:=eq_true (by ext)
 (simp![j4];simp![yJ])
 refine SH λp q s1 O lp lq k1=>?_;have t1:s1[0]?=some (.tbl "fault_of" "<lambda>"):=k1.same (by ext) (by ext) t0;simp![fZ,C,rS,l2,Int.reduceToNat];refine xY (yY 2) (λd=>∃x:Hs,oE x/\d=eR x) (λv=>PK p q s1 v) (λ_ _=>trivial) (PK.refl O) Ac (λd v _ E=>?_) (λout v ho hP E=>?_)
 ·simp![];exact WA E λx v2 G k _=>⟨⟨x,G,rfl⟩,k⟩
 obtain⟨o,rfl,I⟩:=D4 hP;rw[af]at ho;have hl:o.length=2:=ho;have t2:v[0]?=some (.tbl "fault_of" "<lambda>"):=E.2.same (by ext) (by ext) t1;have Y:(v++[MO.lst (o.map eR)])[v.length]?=some (.lst (o.map eR)):=ko;have t3:(v++[MO.lst (o.map eR)])[0]?=some (.tbl "fault_of" "<lambda>"):=mD t2;have lh:o.length<=dN:=fA (by ext);simp![↓fU Y,fZ,af,lh];generalize v++[MO.lst (o.map eR)]=s2 at *;generalize v.length=nv at *;refine GL (g:=eR) (λ_=>true) (λx d=>∃b:Bool,d=.bl b/\(b=true↔zX x/\Am x 2)) Y (λx G v T B hT=>?_) (λx G v Q B U=>?_) λc u J e2 h=>?_
 ·simp![];exact hT v (dZ.refl _)
 ·simp only[↓vg,↓uh,↓qJ,↓sW,↓vh];exact QU (I x G) λb u C ex=>U _ u ⟨b,rfl,C⟩ ex
 have J:c.map (·.1)=o:=by rw[J];exact vV.mpr λ_ _=>rfl
 have g3:(u++[MO.lst (c.map (·.2))])[u.length]?=some (.lst (c.map (·.2))):=ko;have g4:(u++[MO.lst (c.map (·.2))])[nv]?=some (.lst (o.map eR)):=mD (h.at_ Y);have t4:(u++[MO.lst (c.map (·.2))])[0]?=some (.tbl "fault_of" "<lambda>"):=mD (h.at_ t3);simp![l3];generalize u++[MO.lst (c.map (·.2))]=s3 at *;generalize u.length=nu at *;have hz:c.length=2:=by rw[<- hl,<- J,af]
 have one:∀(k:Nat),k < 2->∃x b,(∀(Q:D->aX->Prop)s,wp (c6 (o.map eR) (k:Int)) Q s=Q (eR x) s)/\(∀(Q:D->aX->Prop)s,wp (c6 (c.map (·.2)) (k:Int)) Q s=Q (.bl b) s)/\oE x/\(b=true↔zX x/\Am x 2):=λk hk=>by
  have H:k < c.length:=by ext
  have ez:c[k]?=some c[k]:=aj H;obtain⟨b,eb,C⟩:=e2 _ (b8 H);have ex:o[k]?=some c[k].1:=by rw[<- J,ao,ez];rfl
  exact⟨c[k].1,b,λQ s=>sQ (by rw[ao,ex];rfl),λQ s=>sQ (by rw[ao,ez,<- eb];rfl),I _ (av ex),C⟩
 refine tZ (λi l v=>∃L,l=[some (.lit (ns.map D.int)),some (.dic p),some (.ref nv),some (.ref nu),L]/\dZ s3 v) (λ_ _ _ _=>trivial) ⟨_,rfl,dZ.refl _⟩ (λRw i d l v up rt hd E=>?_) (λl v E=>?_)
 ·obtain⟨L,el,B⟩:=E;subst el;obtain⟨k,hk,rfl⟩:∃k:Nat,k < 2/\d=.int k:=by
   have:=av hd;simp only[aI,bI,or_false]at this;rcases this with rfl|rfl|rfl
   ·exact⟨0,by ext,rfl⟩
   ·exact⟨1,by ext,rfl⟩
   ·exact⟨0,by ext,rfl⟩
  obtain⟨x,b,g,c,G,C⟩:=one k hk;simp![↓fU (B.at_ g4),↓fU (B.at_ g3),↓g,↓c];refine Xc G (B.at_ t4) C λu ex=>?_;simp![fq,aT,if_false];exact up ⟨_,rfl,B.trans ex⟩
 ·obtain⟨L,el,B⟩:=E;subst el;simp![];exact U v
theorem Qs{α:Type}{m:M α}{v:α}{s:aX}(h:wp m (λa _=>a=v) s):∃c,m s=.ok v c:=by
 rw[qr]at h;cases e:m s with
 |ok a c=>rw[e]at h;exact⟨c,by rw[show a=v from h]⟩
 |exc _ _=>rw[e]at h;exact h.elim
 |bad=>rw[e]at h;exact h.elim
theorem wH(ns:List Int)(h:ns.length<=63):∃c,j4 [.lit (ns.map D.int)] tS=.ok (.bl true) c:=Qs (m:=j4 [.lit (ns.map D.int)]) (v:=.bl true) (s:=tS) (Rh ns tS rfl (Q:=λa _=>a=.bl true) λ_=>rfl)
end
open PySem PySem.Spec PyProof.Rows L2
theorem Jk{l:v9}{q:Program}{c:List Str}{XP:(Str->Option ab)->bw->Prop}{O:bD->bw->Prop}{d:DefRec}{K:Params->ag}(U:l.most=some 63)(J:d.params.defaults=[])(H:d.name="law")(o:List (ak×Str×Str))(I:(o.map (·.1)).Nodup)(G:(o.map λp=>MO.tbl p.2.1 p.2.2)=tS)
  (E:∀(w:bD),∀p∈o,TabOf (K w.params) p.2.1 p.1/\(K w.params).lookup p.1=none) (hY:∀(w:bD)(h:bw),O w h->(K w.params).In h/\∀P∈o.map (·.1),h.get? P=some (dU #[])) (F:∀(w:bD)(mg:Str->Option ab)(h:bw),(K w.params).In h->h.Ns cq mg->Txt (K w.params) mg):
  xN q c XP O l.row.toRowW d [] (λf vs=>vL f vs):=by
 refine SV (n:=63) (k:=9) (x:="_law_script") (g:=j4) o U (by decide) J ⟨rfl,by decide,by decide⟩ hY I E (λw mg fa h C ns B=>?_) (λns Y=>by rw[G];exact wH ns Y);have T:=F w mg h C ns;obtain⟨a,fd,L,m⟩:=T.f47;rw[H,m]at B;cases B;refine⟨fd,λs u=>?_,λbase hB=>yK L T hB⟩;obtain⟨oc,od,kV,doc,pm,an,cdv,ct,Q,e,lk,hcd⟩:=L.ex;rw[e];exact .of_eq rfl
end My
noncomputable def PySem.W.Fast.tw5227087799843283911:PySem.Program:=PySem.Challenge.pw_pactboards_k33_safe_or_not
theorem PySem.W.Fast.te5227087799843283911:PySem.Challenge.pw_pactboards_k33_safe_or_not=PySem.W.Fast.tw5227087799843283911:=rfl
namespace PySem.W.Fast
def tw2042069060175384339:=0
def tw11926603395799675951:=0
def tw4412430727950302318:=0
def tw14275373965289247087:=0
def tw2839869727266670348:=0
def tw14004880078263222965:=0
def tw18048103658382505926:=0
def tw5326102585108047119:=0
def tw17371209187814426414:=0
def tw1448570626505129390:=0
def tw645957578422739517:=0
def tw14790439453117280911:=0
def tw10262063621905931817:=0
def tw7442883124617093973:=0
def tw15173705618018911171:=0
def tw2050788555708693:=0
def tw15765142067239941245:=0
def tw11469951624428963931:=0
def tw3616270768698192194:=0
def tw8884173288892408717:=0
def tw4700608502420385913:=0
def tw10818802959499244653:=0
def tw4439141195830589232:=0
def tw11601020715719885875:=0
def tw16613852987398984784:=0
def tw14003965413420651383:=0
def tw11511028683750424184:=0
def tw2799842993264428004:=0
def tw3647116126792925589:=0
def tw13784850258153635081:=0
def tw5180017664671932264:=0
def tw3357614544988899565:=0
def tw14239119404595690297:=0
def tw10510267496401734652:=0
def tw4827910718858406631:=0
def tw13038407565796265867:=0
def tw1587681045516107878:=0
def tw16782179327313277151:=0
def tw1658238482466873375:=0
def tw13457109797030114725:=0
def tw327819317376491316:=0
def tw11846350779986724651:=0
def tw14207955650600059741:=0
def tw8075059212360285098:=0
def tw12290018048078698293:=0
def tw9403498909877616250:=0
def tw7677081523525371553:=0
def tw5991094995073392167:=0
def tw10807451372259433951:=0
def tw3018016855743955855:=0
def tw2389430081711824161:=0
def tw12531518059357433092:=0
def tw15909945970589348432:=0
def tw2670230670901126767:=0
def tw2395638627467133964:=0
def tw17434836749463260547:=0
def tw15106760482617827969:=0
def tw8657962597059222444:=0
def tw10444826563796460725:=0
def tw6358996378679052591:=0
def tw5835294824101730767:=0
def tw7320313117950933282:=0
def tw13034179706025444172:=0
def tw11061202735641355841:=0
def tw16743909866844159466:=0
def tw3638620712616517745:=0
def tw3189211073268417939:=0
def tw16163477501730040952:=0
def tw6614079716008758997:=0
def tw10810192107196453392:=0
def tw16963634912864298905:=0
def tw11883381044903409174:=0
def tw16541549409578851522:=0
def tw14064316801102139141:=0
def tw4570494630247522539:=0
def tw12278308024262852718:=0
def tw13135303567656690645:=0
def tw10513244920345611329:=0
def tw1751867767552589982:=0
def tw5088968163659409617:=0
def tw7673737706072260311:=0
def tw8846635320603595747:=0
def tw4098612927503885112:=0
def tw9936499903019084235:=0
def tw8368153041883429873:=0
def tw14976153400292424992:=0
def tw922987826588615880:=0
def tw6486574135506713198:=0
def tw13162229377676114712:=0
def tw17799280764893863564:=0
def tw1889512874116104065:=0
def tw4907547849644064143:=0
def tw14472315896470499127:=0
def tw16167012334825554122:=0
def tw14533991451110509102:=0
def tw8067307856939043615:=0
def tw13754587668615423875:=0
def tw12842297874454381219:=0
def tw12315975611324636033:=0
def tw12379459158504701814:=0
def tw11493440750535735212:=0
def tw14831621766117523878:=0
def tw6559026102749901095:=0
def tw7845496483934641840:=0
def tw17922529265741760109:=0
def tw8842910193447081717:=0
def tw5916599605164513800:=0
def tw16628290243871706435:=0
def tw2468390657920565780:=0
def tw3127298962788882075:=0
def tw16910475774466658430:=0
def tw2434027460565268218:=0
def tw17112090164490088291:=0
def tw12926598162679902836:=0
def tw1101619038957675559:=0
def tw14709979555620188621:=0
def tw3437097141616030299:=0
def tw15697710575839830593:=0
def tw5562915106943684603:=0
def tw890143275856590560:=0
def tw8698567442630810877:=0
def tw3712068575870878950:=0
def tw13842152176950478399:=0
def tw9484131822068659687:=0
def tw4067854812024505760:=0
def tw1297939497922964150:=0
def tw6751887891141851100:=0
def tw1366292091314144097:=0
def tw2610638243385618060:=0
def tw13637985527052342998:=0
def tw14747617933371525422:=0
def tw15251789405680157228:=0
def tw9059151889610863507:=0
def tw8104621905771867854:=0
def tw12603079633214865477:=0
def tw16935444716377717824:=0
def tw8893587727927744508:=0
def tw9876596000057897345:=0
def tw2691062947612982211:=0
def tw6440341937690646570:=0
def tw890539123622392455:=0
def tw13586119000257571984:=0
def tw3837000066179728629:=0
def tw11866770633554413960:=0
def tw2253149880997878228:=0
def tw2929483680507888796:=0
def tw110125937094404021:=0
def tw16244541428995705765:=0
def tw6588285841356140770:=0
def tw14191414766420647984:=0
end PySem.W.Fast
open PySem PySem.W PyProof.Rows
set_option maxHeartbeats 0 in
theorem PySem.Challenge.cw_pactboards_k33_safe_or_not_holds : PySem.Challenge.rw_pactboards_k33_safe_or_not.Holds := by
 w_on;o_law;k_head;(case hw=>w_witness2)
 k_fill
 refine My.Jk (l:=PySem.Challenge.rw_pactboards_k33_safe_or_not) rfl rfl rfl [(179,"fault_of","<lambda>")] (by decide) rfl ?T (λw h Y=>⟨PySem.W.km_in_of Y,PySem.W.km_tabs_of Y⟩) ?F
 case T=>
  intro w p hp;simp only[aI,bI,or_false]at hp;rcases hp with rfl<;>(refine' MM.B2 ?a ?b ?c ?d ?e;(case a|b=>k_is);(case c=>rfl);(case d|e=>kernel_rfl))
 case F=>
  intro w mg h KX G;constructor
  case f43=>refine' MM.Fo (P:=179) KX G ?u ?v ?x ?y ?t;(case u|v|x|y=>k_is);(case t=>kernel_rfl)
  all_goals first|(refine' MM.IM KX G ?u ?v ?x ?y;(case u|v|x|y=>k_is))|(refine' MM.Ds KX G ?u ?v ?x ?y ?t;(case u|v|x|y|t=>k_is))|exact MM.Fk|(repeat' first|exact MM.Dt|refine' MM.Bt (PySem.W.mg_none_of KX G ?_) ?_|k_is)