import PyProof.Rows.All
import Wide.All
import OpenK.AllK
import Wide.FinOn
import Lean
import PyProof.EqAt
import PyProof.EqKinds
import PyProof.TupleCall
import PySem.Str
import PyProof.NeKinds
import PyProof.IsRules
import PyProof.Rows.StrRev
import KE.KSortTup
import PyProof.Rows.ZipGen
import KE.KRevIter
import KE.KDictList
import KE.KIntText
import PyProof.Rows.StrNews
import PyProof.Rows.StrJoin2
import PyProof.Rows.FStr
import PyProof.StrWalks
import PyProof.StrLawsTight
import KE.KSort
import PyProof.Rows.SetFrom
import KE.KDictSum
import PyProof.ExcInit
import PyProof.ExcClass3
import PyProof.ExcBaseAll.ValueError
import PyProof.ExcAttrAll.ValueError
import PyProof.ExcArgsOwn
import PySem.SetOps
import PyProof.TupleOfGen
import PyProof.MinMaxWalk
import PyProof.FactsAll.tuple_2
import KE.KMinBuiltin
import PyProof.Rows.CallKwBuiltin
import PyProof.DictUpdate
import KE.KDictOf
import PyProof.DictItems
import KE.KPairComp
import PySem.Challenge.RW_pactboards_k30_whole_the_first_round
local macro_rules|`(tactic| nofun)=>`(tactic| decide +kernel)
local macro_rules|`(tactic| ext)=>`(tactic| first|lia|omega)
set_option compiler.extract_closed false
set_option genSizeOf false
set_option Elab.async false
set_option linter.all false
set_option maxRecDepth 100000
set_option maxHeartbeats 4000000
open And renaming intro->aD
open Array renaming ext'->F1,forIn_toList->oU,getElem?_eq_getElem->lX,getElem?_eq_none->uc,getElem?_toList->dI,length_toList->d_,toList->Cq
open Bool renaming and_eq_true->bU,decide_and->nt,eq_iff_iff->zD,false_and->si,false_eq_true->aQ,false_ne_true->bo,false_or->Cv,not_eq_true'->xz,not_false->eV,not_true->dq,or_eq_false_iff->vg,or_eq_true->qY
open Classical renaming byContradiction->eD,choose->i9,propDecidable->qZ
open Decidable renaming byContradiction->fE
open False renaming elim->ik
open ForInStep renaming yield->kB
open Int renaming emod_lt_of_pos->iY,emod_nonneg->lj,le_trans->FZ,toNat_natCast->bv,toNat_of_nonneg->gH
open List renaming all_cons->cQ,all_eq_true->qv,any_cons->d8,any_eq_false->pI,any_eq_true->gG,any_map->uk,append_assoc->aX,append_nil->bn,concat_eq_append->g9,cons_append->kF,countP_le_length->nI,count_append->pQ,dropLast_concat->vp,dropLast_concat_getLast->rg,dropLast_eq_take->uQ,drop_eq_getElem_cons->bR,drop_length->xO,drop_of_length_le->m8,drop_zero->nW,eq_nil_or_concat->g8,ext_getElem?->eC,filter->F5,filterMap_cons->ou,filter_append->fG,filter_cons_of_neg->e_,filter_cons_of_pos->gI,filter_map->zP,find?_cons->cD,find?_isSome->xB,flatMap_append->iG,flatMap_cons->fV,flatten_cons->xr,foldl_append->pN,forIn_cons->nu,forIn_nil->Ap,getD_eq_getElem?_getD->br,getElem?_append_left->aw,getElem?_append_right->aW,getElem?_cons_zero->mW,getElem?_eq_getElem->ag,getElem?_eq_none->bX,getElem?_eq_some_iff->ac,getElem?_inj->e8,getElem?_map->aj,getElem?_of_mem->ip,getElem?_range->gB,getElem?_replicate->gE,getElem?_reverse->nF,getElem?_set_ne->af,getElem?_set_self->ao,getElem?_take_of_lt->cX,getElem?_zipWith->fH,getElem_map->qx,getElem_mem->dA,getElem_toArray->fU,getLast?_concat->vo,idxOf_cons->rf,idxOf_lt_length_iff->cc,length->eU,length_append->au,length_cons->bp,length_drop->kE,length_dropLast->ve,length_eq_zero_iff->dW,length_erase_of_mem->tp,length_filter_le->dM,length_map->ae,length_nil->fP,length_pos_iff->iH,length_range->xA,length_replicate->eQ,length_reverse->gC,length_set->cw,length_singleton->dL,length_take->bE,length_zipWith->oz,lookup->FX,lookup_cons->xN,map->nZ,map_append->aO,map_congr_left->cO,map_cons->aI,map_id->qS,map_map->db,map_nil->lA,map_set->pO,mem_append->aB,mem_append_left->aL,mem_append_right->aY,mem_cons->bb,mem_cons_of_mem->bI,mem_cons_self->cM,mem_filter->ff,mem_filterMap->lP,mem_flatMap->iB,mem_iff_getElem?->bm,mem_map->bz,mem_of_getElem?->ay,mem_of_mem_take->dX,mem_range->d9,mem_singleton->ax,nil_append->rb,nodup_append->cn,nodup_cons->fO,nodup_nil->kg,not_mem_nil->iA,of_mem_zip->qW,pairwise_iff_getElem->sT,range->bH,range_succ->fQ,range_succ_eq_map->m5,replicate->aZ,replicate_succ->iF,replicate_succ'->vq,reverse_cons->fT,set_append_right->uS,size_toArray->aH,sum_append->kU,sum_cons->cY,sum_nil->pP,take_append_drop->uU,take_append_of_le_length->gP,take_length->bJ,take_of_length_le->ul,take_sublist->xm,take_succ->cK,take_succ_eq_append_getElem->kh,zipIdx_cons->xR,zipIdx_nil->zI
open List.cons renaming inj->lJ
open Nat renaming add_assoc->o0,div_eq_of_lt->iE,le_add_right->zO,le_max_left->Au,le_max_right->zN,le_of_eq->uN,le_of_lt->p9,le_of_not_lt->qO,le_refl->ar,le_succ->mC,le_trans->bW,lt_irrefl->bM,lt_of_lt_of_le->bw,lt_of_sub_eq_succ->vh,lt_or_ge->F2,lt_succ_of_lt->mz,lt_succ_self->kP,lt_trans->qc,lt_trichotomy->fW,min_le_right->zA,mul_add_div->iU,mul_comm->iD,mul_le_mul_right->oi,ne_of_gt->df,ne_of_lt->bA,not_lt->sS,not_lt_zero->rT,pow_succ->nw,strongRecOn->Aw,sub_self->eK,succ_mul->uT,succ_ne_self->zG,zero_add->qd,zero_le->bu
open Nat.succ renaming inj->oA
open Ne renaming symm->bC
open Option renaming bind_eq_some_iff->sR,getD_none->pJ,getD_some->fA,isNone_none->vn,isSome_iff_exists->ma,isSome_map->lU,isSome_none->oB,isSome_some->iP,map_eq_some_iff->fk,map_some->eE
open Option.some renaming inj->aN,injEq->sZ
open PUnit renaming unit->F4
open PyProof.Rows renaming AllBare->n9,IntsAre->ic,IsTup->zx,Subscript_->Cs,callWith_type1->cq,envOfC->np,slot_tuple_getitem->nM,subscriptTail->vV,subscriptTail_builtinR->xo,tail_any->zB,wpAny_notIn_heap->FU
open PyProof.Rows.IntsAre renaming length->xy
open PySem renaming Addr->av,Around->bB,BindsTo->rJ,CmpOp->uJ,DictEntry->ky,FuncData->dJ,Heap->bQ,HeapKind->rQ,IsItemIter->iM,IsItemIterOut->v5,IsPair->iL,IsPart->sP,IsTupleKey->Cy,IsZip->oy,ItemsOf->Dm,Keyword->ia,MeetsIn->Dj,NameKind->fD,Operator->ph,Paired->kK,Params->Cu,PassesOwn->sN,Scope->eO,Shared->am,Spec->dQ,Stmt->gM,Value->ah,Within->Cn,World->bG,argBest->lC,assign->n_,assignEach->dC,atKey->i7,atKey_none_of_get->Di,attributeBase->dh,backTo->eI,backToKw->nN,behindInMarks->gO,binaryOp->fj,bindArgs->rK,bindC->wj,bindL->wg,bootBuiltins->cI,builtinLookup_eq_fast->xS,builtinsNs->Co,cLine->cC,call->rN,call_meets->uM,call_meetsIn->rR,call_reversed_list->CH,callerA->pK,cellsFrom->dH,closureFor->CB,codeAny->ml,codeAny_builtin->gz,codeAny_mono->xl,collect->As,compareOp->dg,concat_meets->xn,dictSet->xw,dictSetDefault->uR,entryOfKey->n8,eqIsQuiet->pL,eqIsQuiet_byValue->Dh,evalArgs_none->vd,evalPart_none->vU,field->uO,firstArgMember->kQ,foldedSetIterable->fv,getItem->pH,getattributeRaised->CJ,holding->lq,intKind->pG,isInstance->Cz,isSubtype_stop->pj,isSubtype_tuple_tuple->oV,keywordEach->kt,letOwnedTupleGo->ox,mainGlobals->dO,mem_of_lookup->eA,model->bc,newExc->xx,newTuple->zE,noFill_tuple_add->sO,not_mem_keys_of_get->Ao,numAt->Dl,pairTrees->FW,plainId_quiet->fK,pushCells->wn,pushCells_keeps->ub,putAt->tj,pyIter->Cr,pyNext->ko,rawInt->kL,relabel->ke,release->Dd,richCompare->zM,seqIndex_neg->rL,seqIndex_of->tf,seqItems?->mB,seq_tuple_add->vT,setField->zJ,setItem->og,sizeLine_eq->lH,size_of_entries->lV,sliceBounds->fJ,slicePick->wk,slot_list_getitem->rM,spliced->xh,standAt->xi,starEach->aF,storeName->FS,storedH->lB,swapsWith->kr,sysModules->cR,tupleKind->sM,tupleKind_room_in1->qQ,typeIs_int->Ct,typeLookup->oh,typeLookup_type->Hj,unaryOp->De,valueAt->rP,wpAny->aK,wpAny_Call_Name_kw->h9,wpAny_Call_method0_late->wl,wpAny_Call_method_late->xq,wpAny_Dict_empty->FV,wpAny_Name->Cp,wpAny_assign_Name->Dc,wpAny_attempt->i8,wpAny_bind->ab,wpAny_callSpecial?_slot->b8,wpAny_call_entry->cG,wpAny_dictEntries->fw,wpAny_dictEpoch->kf,wpAny_dictFind_heap->An,wpAny_eqBool_int->nK,wpAny_execs_nil->t_,wpAny_field->cP,wpAny_fieldsOf->pq,wpAny_forIn_list->lg,wpAny_getItem_heap->Cw,wpAny_getItem_list_neg->xp,wpAny_getItem_list_slice->vW,wpAny_handled->vX,wpAny_holding->cE,wpAny_isInstance->eX,wpAny_isOneOf_itemiter->om,wpAny_isOneOf_keyiter->xT,wpAny_letGo->iK,wpAny_letOwnedTupleGo_enum->uP,wpAny_loadName_cell->Al,wpAny_loadName_local->zy,wpAny_loadPart'->fB,wpAny_mono->gN,wpAny_newObj_type->bK,wpAny_notOrdered_dict->iy,wpAny_of_eq->m6,wpAny_onRaise->qt,wpAny_passesOwn->im,wpAny_pure->aq,wpAny_pyHash_int->FQ,wpAny_pyIter_enum->m7,wpAny_pyIter_keyiter->zK,wpAny_pyIter_list->kM,wpAny_pyIter_revIter->px,wpAny_pyIter_slot->Dn,wpAny_pyIter_tuple->ig,wpAny_pyIter_zip->F0,wpAny_pyNext_list_end->xL,wpAny_pyNext_list_item->xj,wpAny_ret_mkInt->Hi,wpAny_rule->ie,wpAny_seqItems->dD,wpAny_sequenceKey->Df,wpAny_setField->mN,wpAny_setField_rec->cW,wpAny_specialOf->j_,wpAny_standAt->qr,wpAny_throw->zF,wpAny_truthy_bool->fu,wpAny_tryCatch->mP,wpAny_tupleItemsOf->qR,wpAny_typeNameOfWhole_itemiter->gS,wpAny_typeNameOfWhole_keyiter->gZ,wpAny_typeNameOf_itemiter->iV,wpAny_typeNameOf_keyiter->i_,wpAny_typeOf->mq,wpAny_updateDictKeys->zC,wpAny_updateSeq->ue,wpAny_updateSeq_pair->pk
open PySem.Around renaming under_plainId->dS
open PySem.Builtin.Builtins renaming bindParams->gw
open PySem.Builtin.Dict renaming keyAndDefault->o6,pairItems->qw,showsAll->iQ
open PySem.Builtin.Dict_items renaming ownedTupleFields->lY,ownedTupleIsFree->lZ,ownsTuple->eM,pairFromOwner->mD
open PySem.Builtin.List renaming listExtendWith->oY,listLengthHint->oX,listSameRef->pM
open PySem.Builtin.Slice renaming sliceAdjust->kN,sliceApplied->oR,slicePlaces->gU
open PySem.Builtin.SmallTypes renaming nextOf->b_,ownedTupleHandOut->lQ,ownedTupleIsFree->eR
open PySem.Builtin.Tuple renaming tupleExact->eJ,tupleHashOf->di,tupleItemsOf->oT
open PySem.Calls renaming Name_function_global->rH,callWith_builtin->i6,evalArgs_plain->uL,spliced_cons->lI,spliced_nil->l_
open PySem.Challenge renaming pw_pactboards_k30_whole_the_first_round->iW
open PySem.Data renaming fields->FT
open PySem.F renaming args_dict_itemiterator_next_1->q_,args_dict_keyiterator_next_1->rS,args_tuple_add_2->lT,args_tuple_iterator_next_1->sQ,args_zip_next_1->Aq,entry_dict_itemiterator_next->rV,entry_dict_keyiterator_next->sj,entry_min->vm,entry_min_loop->mO,entry_tuple_add->mn,entry_tuple_iterator_next->tm,entry_zip_next->CC,kind_min->vZ,plainAttrs_dict->Ar,plainAttrs_list->mr,plain_list_iadd->sk,plain_min->vk,plain_min_loop->du,plain_tuple_new->sq,slot_dict_get->Dp,slot_dict_itemiterator_next->gW,slot_dict_items->Av,slot_dict_items_iter->v4,slot_dict_iter->CD,slot_dict_keyiterator_next->ii,slot_dict_len->Dk,slot_dict_setdefault->vY,slot_dict_setitem->xM,slot_enumerate_next->wo,slot_list_index->su,slot_tuple_add->mM,slot_tuple_eq->nU,slot_tuple_hash->mU,slot_tuple_iterator_next->iC,slot_zip_next->nX
open PySem.Heap renaming ExtBut->nV,IsTuple->ui,SameBut->cJ,get?_push_of_some->al,get?_push_size->aC,get?_update_other->cT,get?_update_self->cH,lt_size->aJ,size_push->cF
open PySem.Heap.DictOfH renaming new->nY
open PySem.Heap.IsSliceOf renaming new->qX
open PySem.Heap.SameBut renaming update->cg
open PySem.NameKind renaming cell->iz,free->cf
open PySem.Obj renaming cls_mapFields->xQ,data_mapDict->mZ,data_mapDictKeys->dY,data_mapFields->lW,isFreed_of_dict->gF,isFreed_of_fields->vf,mapFields->Do,mapSeq->pi
open PySem.Paired renaming length->dj,snoc->nE
open PySem.PassesOwn renaming never->pv
open PySem.ScopeKind renaming function->ud
open PySem.SeqAt renaming EqAt->vS
open PySem.SeqAt.EqAt renaming int_int->s_,int_str->sX,str_int->sY
open PySem.SetTable renaming below->qu
open PySem.Shared renaming TypeIs->oj,heap->uj
open PySem.Str renaming ofString->aG
open PySem.Value renaming bool->cS,builtin->Am,float->Db,int->gA,isInt->qq,isStrOf->Ak,none->bV,ref->bj,str->iT,type->vQ
open PySem.Value.type renaming inj->mV
open PySem.W renaming Frag->ak,KasT->zH,KatTups->wu,OpenLaw->p_,WalkO->rO,cellsFrom_some->mK,codeIn->ib,findIn->xk,fnOf->c_,instObj->pZ,kas_sort->mv,kat_nil->wt,keepIn->dG,kia_one->cU,kitOne->gq,kitx_dict->vc,kitx_list->oQ,kitx_tuple->uK,lookIn->qN,methodObj->oP,mg_none_of->b7,mg_of->xU,nsIn->oW,plainGet->vR
open PySem.W.WData renaming int->Hh
open PySem.W.WShape renaming has->Dg
open PySem.Walks renaming list->FY
open Sum renaming inl->lG,inr->pY
open True renaming intro->da
noncomputable section
noncomputable def aE:=@if_pos
noncomputable def aA:=@if_neg
noncomputable def aT:=@decide_eq_false
noncomputable def bF:=@decide_eq_true
noncomputable def ba:=@absurd
noncomputable def cz:=@congrArg
namespace L2
open PySem PySem.Spec PyProof.Rows
noncomputable abbrev Key:=Sum Int Str
def sf:Key->ah->Bool
 | .inl k,v=>qq k v
 | .inr x,v=>Ak x v
def Hw(w:bG):Key->Int
 | .inl k=>hashInt k
 | .inr x=>hashStr w x
theorem fL:∀{k:Key}{v:ah},sf k v=true->(∃i t,k=lG i/\v=gA i t)\/(∃x t,k=pY x/\v=iT x t)
 | .inl i,v,h=>by obtain⟨t,e⟩:=ah.isInt_shape (k:=i) (v:=v) h;exact .inl ⟨i,t,rfl,e⟩
 | .inr x,v,h=>by obtain⟨t,e⟩:=ah.isStrOf_shape (x:=x) (v:=v) h;exact .inr ⟨x,t,rfl,e⟩
theorem Yw(i:Int)(t:Tok):sf (.inl i) (.int i t)=true:=by simp[sf,qq]
theorem XI(x:Str)(t:Tok):sf (.inr x) (.str x t)=true:=by simp[sf,Ak]
theorem Wr(a b:Int):decide ((lG a:Key)=lG b)=(a == b):=by
 by_cases e:a=b
 ·subst e;simp
 ·have h:¬ (lG a:Key)=lG b:=λq=>e (lG.inj q);rw[aT h];exact (beq_eq_false_iff_ne.mpr e).symm
theorem XT(a b:Str):decide ((pY a:Key)=pY b)=decide (a=b):=by
 by_cases e:a=b
 ·subst e;simp
 ·have h:¬ (pY a:Key)=pY b:=λq=>e (pY.inj q);rw[aT h,aT e]
theorem UX(a:Int)(b:Str):decide ((lG a:Key)=pY b)=false:=aT nofun
theorem XN(a:Str)(b:Int):decide ((pY a:Key)=lG b)=false:=aT nofun
def fX(prog:Program)(w:bG):PySem.KeyKind prog w Key where
 is:=sf
 hash:=Hw w
 inj:=λv a b l g=>by
  rcases fL l with ⟨i,t,rfl,rfl⟩|⟨x,t,rfl,rfl⟩
  ·rcases fL g with ⟨j,u,rfl,e⟩|⟨y,u,rfl,e⟩
   ·injection e with e1 _;rw[e1]
   ·exact nomatch e
  ·rcases fL g with ⟨j,u,rfl,e⟩|⟨y,u,rfl,e⟩
   ·exact nomatch e
   ·injection e with e1 _;rw[e1]
 byValue:=λk v h=>by rcases fL h with ⟨i,t,rfl,rfl⟩|⟨x,t,rfl,rfl⟩<;>rfl
 pyHash:=λc h=>by
  rcases fL c with ⟨i,t,rfl,rfl⟩|⟨x,t,rfl,rfl⟩
  ·exact FQ h
  ·exact wpAny_pyHash_str h
 eqBool:=λhu c h=>by
  rcases fL hu with ⟨i,t,rfl,rfl⟩|⟨x,t,rfl,rfl⟩
  ·rcases fL c with ⟨j,u,rfl,rfl⟩|⟨y,u,rfl,rfl⟩
   ·rw[Wr]at h;exact nK h
   ·rw[UX]at h;exact sX i t y u _ _ _ _ h
  ·rcases fL c with ⟨j,u,rfl,rfl⟩|⟨y,u,rfl,rfl⟩
   ·rw[XN]at h;exact sY x t j u _ _ _ _ h
   ·rw[XT]at h;exact wpAny_eqBool_str h
 «strs»:=λk x t v h=>by
  rcases fL h with ⟨i,u,rfl,e⟩|⟨y,u,rfl,e⟩
  ·exact nomatch e
  ·injection e with e1 _
   subst e1;cases v<;>rfl
theorem Xu(prog:Program)(w:bG)(i:Int)(t:Tok):(fX prog w).is (.inl i) (.int i t)=true:=Yw i t
theorem Vr(prog:Program)(w:bG)(x:Str)(t:Tok):(fX prog w).is (.inr x) (.str x t)=true:=XI x t
inductive V where
 |non|bl (b:Bool)|int (i:Int)|str (x:Str)|byt (b:Array UInt8)|flt (b:UInt64)|ref (a:av)|ty (n:String)
 deriving DecidableEq
noncomputable def RelV:V->ah->Prop
 | .non,u=>u=bV
 | .bl b,u=>u=cS b
 | .int i,u=>∃t,u=gA i t
 | .str x,u=>∃t,u=iT x t
 | .byt b,u=>∃t,u=ah.bytes b t
 | .flt b,u=>∃t,u=Db b t
 | .ref a,u=>u=bj a
 | .ty n,u=>u=vQ n
abbrev b9:List V->List ah->Prop:=kK RelV
theorem b9.length{xs:List V}{c:List ah}(r:b9 xs c):xs.length=c.length:=dj r
theorem b9.get:∀{xs:List V}{c:List ah}{i:Nat}{x:V},b9 xs c->xs[i]?=some x->∃u,c[i]?=some u/\RelV x u
 |_,_,_,_,.nil,e=>by simp at e
 |_,_,0,_,.cons r _,e=>by simp at e;subst e;exact⟨_,rfl,r⟩
 |_,_,i+1,x,.cons _ t,e=>by obtain⟨u,h,g⟩:=b9.get (i:=i) (x:=x) t (by simpa using e);exact⟨u,by simpa using h,g⟩
theorem b9.set{x:V}{u:ah}(r:RelV x u):∀{xs:List V}{c:List ah}(i:Nat),b9 xs c->b9 (xs.set i x) (c.set i u)
 |_,_,_,.nil=>.nil
 |_,_,0,.cons _ t=>.cons r t
 |_,_,i+1,.cons q t=>.cons q (b9.set r i t)
theorem b9.append:∀{xs ys:List V}{c ws:List ah},b9 xs c->b9 ys ws->b9 (xs++ys) (c++ws)
 |_,_,_,_,.nil,s=>s
 |_,_,_,_,.cons r t,s=>.cons r (b9.append t s)
theorem b9.take:∀{xs:List V}{c:List ah}(n:Nat),b9 xs c->b9 (xs.take n) (c.take n)
 |_,_,0,_=>.nil
 |_,_,_+1,.nil=>.nil
 |_,_,n+1,.cons r t=>.cons r (b9.take n t)
theorem b9.drop:∀{xs:List V}{c:List ah}(n:Nat),b9 xs c->b9 (xs.drop n) (c.drop n)
 |_,_,0,r=>r
 |_,_,_+1,.nil=>.nil
 |_,_,n+1,.cons _ t=>b9.drop n t
def o7:Option V->Option ah->Prop
 |some v,some u=>RelV v u
 |none,none=>True
 |_,_=>False
def KV{κ:Type}:List (κ×V)->List (κ×ah)->Prop:=kK λ(p:κ×V)(q:κ×ah)=>p.1=q.1/\RelV p.2 q.2
def kV:Key->V
 | .inl i=>.int i
 | .inr x=>.str x
inductive HO where
 |lst (xs:List V)
 |tup (xs:List V)
 |dK (cp:List (Key×V))|dT (cp:List (List Key×V))
 |set (S:Int->Bool) (n:Nat)
 |ins (C dx:av) (fs:List (Str×V))
 |own (x:av)
 |xd (fs:List (Str×V))
 |met (f x:av)
 |rng (lo hi:Int)
 |frz (o:Obj) (u:HO)
 |tbl (ps:Array ah)
 |ext (φ:bQ->Prop)
noncomputable abbrev Hp:=av->Option HO
noncomputable def fq(H:Hp)(a:av)(o:HO):Hp:=λb=>if b=a then some o else H b
theorem kq{H:Hp}{a:av}{o:HO}:fq H a o a=some o:=by unfold fq;rw[aE rfl]
theorem fI{H:Hp}{a b:av}{o:HO}(h:b≠a):fq H a o b=H b:=by unfold fq;rw[aA h]
theorem XO{H:Hp}{a b:av}{o u:HO}(h:H a=some o)(h':H b=some u)(d:o≠u):a≠b:=by intro e;subst e;rw[h]at h';exact d (aN h')
theorem nA{H:Hp}{a b:av}{o:HO}(h:H a=some o)(h':H b=none):a≠b:=by intro e;subst e;rw[h]at h';cases h'
noncomputable def kj(h:bQ)(a:av)(its:Array ah):Prop:=∃o,h.get? a=some o/\o.cls=.type "tuple"/\(∃n,o.data=.seq its n)/\o.dict=none
theorem kj.is{h:bQ}{a:av}{its:Array ah}(p:kj h a its):zx h a its:=let ⟨o,e,c,d,_⟩:=p;⟨o,e,c,d⟩
theorem kj.lt{h:bQ}{a:av}{its:Array ah}(p:kj h a its):a < h.objs.size:=p.is.lt
theorem kj.new(h:bQ)(its:Array ah):kj (h.push { cls:=.type "tuple",data:=.seq its }) h.objs.size its:=⟨_,aC _ rfl,rfl,⟨_,rfl⟩,rfl⟩
section
variable(P:Program)(w:bG)
def eT(H:Hp)(h:bQ)(a:av):HO->Prop
 | .lst xs=>xs.length<=sizeLine/\∃(its:List ah)(n:Nat),b9 xs its/\h.get? a=some { cls:=.type "list",data:=.seq its.toArray n }
 | .tup xs=>xs.length<=sizeLine/\∃its:List ah,b9 xs its/\kj h a its.toArray
 | .dK cp=>cp.length<=sizeLine/\(a == cR)=false/\∃g,KV cp g/\h.DictOf (fX P w) a g
 | .dT cp => cp.length <= sizeLine /\ (a == cR) = false /\ ∃xs : List (List Key×av×ah),
   kK (λ(p:List Key×V)(q:List Key×av×ah)=>p.1=q.1/\H q.2.1=some (.tup (p.1.map kV))/\RelV p.2 q.2.2) cp xs /\
   ∃o E ep,h.get? a=some o/\o.ExactDict/\o.data=.dict E ep/\E.toList=xs.map (n8 (sM (fX P w)))/\(xs.map (·.1)).Nodup
 | .set S n=>h.SetOf (pG P w) a S n
 | .ins C dx fs => H dx = some (.own a) /\ fs.length <= 1000 /\ dx ≠ a /\ h.get? a = some (pZ C dx) /\
   ∃c,h.Ns1 dx c/\(∀f,o7 (fs.lookup f) (c f))/\Cn c (fs.map (·.1))
 | .own _=>∃o,h.get? a=some o
 | .xd fs=>∃c,h.Ns1 a c/\∀f,o7 (fs.lookup f) (c f)
 | .rng lo hi=>∃t u v,h.get? a=some { cls:=.type "range",data:=.fields #[.int lo t,.int hi u,.int 1 v] }
 | .frz o u=>h.get? a=some o/\eT H h a u
 | .tbl ps=>h.get? a=some { cls:=.none,data:=.fields ps }
 | .met f x=>h.get? a=some (oP (.ref f) (.ref x))
 | .ext φ=>φ h/\(∃o,h.get? a=some o)/\∀B l:bQ,φ B->(∀o,B.get? a=some o->l.get? a=some o)->φ l
def oq(H:Hp)(h:bQ):Prop:=∀a o,H a=some o->eT P w H h a o
end
section
variable{P:Program}{w:bG}{H H':Hp}{h h':bQ}{a:av}{o:HO}
theorem eT.lt(x:eT P w H h a o):a < h.objs.size:=by
 cases o with
 |lst xs=>obtain⟨_,_,_,_,e⟩:=x;exact aJ e
 |tup xs=>obtain⟨_,_,_,p⟩:=x;exact p.lt
 |dK cp=>obtain⟨_,_,_,_,o,_,_,e,_⟩:=x;exact aJ e
 |dT cp=>obtain⟨_,_,_,_,o,_,_,e,_⟩:=x;exact aJ e
 |set S n=>obtain⟨o,_,_,_,e,_⟩:=x;exact aJ e
 |ins C dx fs=>obtain⟨_,_,_,e,_⟩:=x;exact aJ e
 |own y=>obtain⟨_,e⟩:=x;exact aJ e
 |xd fs=>obtain⟨_,⟨_,_,_,e,_⟩,_⟩:=x;exact aJ e
 |rng lo hi=>obtain⟨_,_,_,e⟩:=x;exact aJ e
 |frz ob u=>obtain⟨e,_⟩:=x;exact aJ e
 |tbl ps=>exact aJ (show h.get? a=some _ from x)
 |met f y=>exact aJ (show h.get? a=some _ from x)
 |ext φ=>obtain⟨_,⟨_,e⟩,_⟩:=x;exact aJ e
theorem kK.mapP{α β:Type}{F G:α->β->Prop}:∀{l₁:List α}{l₂:List β},kK F l₁ l₂->(∀a b,F a b->G a b)->kK G l₁ l₂
 |_,_,.nil,_=>.nil
 |_,_,.cons r t,f=>.cons (f _ _ r) (kK.mapP t f)
theorem eT.stay(x:eT P w H h a o)(k:∀b u,(b=a\/H b=some (.own a))->h.get? b=some u->h'.get? b=some u)
  (L:∀b,H b=some (.own a)->H' b=some (.own a)) (J:∀b xs,H b=some (.tup xs)->H' b=some (.tup xs)):eT P w H' h' a o:=by
 induction o with
 |lst xs=>obtain⟨z,its,n,r,e⟩:=x;exact⟨z,its,n,r,k _ _ (.inl rfl) e⟩
 |tup xs=>obtain⟨z,its,r,g,e,c⟩:=x;exact⟨z,its,r,g,k _ _ (.inl rfl) e,c⟩
 |dK cp=>obtain⟨z,y,G,r,g,l,ep,e,c⟩:=x;exact⟨z,y,G,r,g,l,ep,k _ _ (.inl rfl) e,c⟩
 |dT cp=>
  obtain⟨z,y,xs,r,g,l,ep,e,c⟩:=x;exact⟨z,y,xs,kK.mapP r λp q z=>⟨z.1,J _ _ z.2.1,z.2.2⟩,g,l,ep,k _ _ (.inl rfl) e,c⟩
 |set S n=>obtain⟨g,l,ep,t,e,c⟩:=x;exact⟨g,l,ep,t,k _ _ (.inl rfl) e,c⟩
 |ins C dx fs=>
  obtain⟨d,z,I,e,E,⟨B,l,ep,O,c⟩,r⟩:=x;exact⟨L _ d,z,I,k _ _ (.inl rfl) e,E,⟨B,l,ep,k _ _ (.inr d) O,c⟩,r⟩
 |own y=>obtain⟨g,e⟩:=x;exact⟨g,k _ _ (.inl rfl) e⟩
 |xd fs=>obtain⟨E,⟨B,l,ep,e,c⟩,r⟩:=x;exact⟨E,⟨B,l,ep,k _ _ (.inl rfl) e,c⟩,r⟩
 |rng lo hi=>obtain⟨t,u,v,e⟩:=x;exact⟨t,u,v,k _ _ (.inl rfl) e⟩
 |frz g u ih=>obtain⟨e,q⟩:=x;exact⟨k _ _ (.inl rfl) e,ih q⟩
 |tbl ps=>
  have e:h.get? a=some { cls:=.none,data:=.fields ps }:=x
  show h'.get? a=some { cls:=.none,data:=.fields ps };exact k a _ (.inl rfl) e
 |met f y=>
  have e:h.get? a=some (oP (.ref f) (.ref y)):=x
  show h'.get? a=some (oP (.ref f) (.ref y));exact k a _ (.inl rfl) e
 |ext φ=>obtain⟨p,⟨o,e⟩,st⟩:=x;exact⟨st _ _ p λo q=>k _ _ (.inl rfl) q,⟨o,k _ _ (.inl rfl) e⟩,st⟩
theorem oq.lt(x:oq P w H h)(e:H a=some o):a < h.objs.size:=(x a o e).lt
theorem oq.fresh(x:oq P w H h)(e:h.objs.size<=a):H a=none:=by
 cases q:H a with
 |none=>rfl
 |some u=>exact ba (bw (x.lt q) e) (bM _)
theorem oq.kept(x:oq P w H h)(k:∀b u,h.get? b=some u->h'.get? b=some u):oq P w H h':=λa o e=>
 (x a o e).stay (λb u _ q=>k b u q) (λ_ q=>q) λ_ _ q=>q
theorem oq.laid(x:oq P w H h)(k:∀b u,h.get? b=some u->h'.get? b=some u)(B:h.objs.size<=a)(new:eT P w (fq H a o) h' a o):oq P w (fq H a o) h':=λb u e=>by
 have g:=x.fresh B;by_cases l:b=a
 ·subst l;rw[kq]at e;cases e;exact new
 ·rw[fI l]at e;exact (x b u e).stay (λc v _ q=>k c v q) (λc q=>by rw[fI (nA q g)];exact q) λc xs q=>by rw[fI (nA q g)];exact q
end
noncomputable def Rd(H:Hp)(a:av)(u:HO):Prop:=H a=some u\/∃o,H a=some (.frz o u)
theorem Rd.ok{P:Program}{w:bG}{H:Hp}{h:bQ}{a:av}{u:HO}(r:Rd H a u)(x:oq P w H h):eT P w H h a u:=by
 rcases r with r|⟨o,r⟩
 ·exact x a u r
 ·obtain⟨_,q⟩:=x a _ r;exact q
noncomputable def EV:Option HO->Prop
 |some (.lst _)=>True
 |some (.dK _)=>True
 |some (.dT _)=>True
 |some (.set _ _)=>True
 |some (.ins _ _ _)=>True
 |some (.ext _)=>True
 |_=>False
section
variable{P:Program}{w:bG}{H:Hp}{h h':bQ}{x e:av}{o':HO}
theorem oq.write(ok:oq P w H h)(B:EV (H x))(J:e=x\/H e=some (.own x))(k:∀b u,b≠e->h.get? b=some u->h'.get? b=some u)(G:∃u,h'.get? e=some u)
  (new:eT P w (fq H x o') h' x o'):oq P w (fq H x o') h':=λb u q=>by
 have l:∀c y,H c=some (.own y)->c≠x:=λc y r z=>by subst z;rw[r]at B;exact B
 have o:∀c xs,H c=some (.tup xs)->c≠x:=λc xs r z=>by subst z;rw[r]at B;exact B
 by_cases E:b=x
 ·subst E;rw[kq]at q;cases q;exact new
 ·rw[fI E]at q;by_cases g:b=e
  ·have I : H b = some (.own x) := by
     rcases J with z|z
     ·exact ba (g.trans z) E
     ·rw[g];exact z
   rw[q]at I;cases I;obtain⟨v,L⟩:=G;exact⟨v,by rw[g];exact L⟩
  ·refine (ok b u q).stay (λc v C r=>k c v ?_ r) (λc r=>by rw[fI (l c b r)];exact r) λc xs r=>by rw[fI (o c xs r)];exact r
   rcases C with rfl|C
   ·exact g
   ·rintro rfl
    rcases J with z|z
    ·exact l c b C z
    ·rw[C]at z;cases z;exact E rfl
end
structure Un(fs ex:List av)(H H':Hp)(h h':bQ):Prop where
 keep:∀b o,h.get? b=some o->H b=none->b∉fs->b∉ex->h'.get? b=some o
 slot:∀b o,h.get? b=some o->H b=none->b∈fs->b∉ex->∃sl,h'.get? b=some { o with slots:=sl }
 free:∀b o,h.get? b=some o->H b=none->b∉ex->H' b=none
 there:∀b o,h.get? b=some o->b∉ex->∃o',h'.get? b=some o'
 tups:∀b xs,H b=some (.tup xs)->H' b=some (.tup xs)
 frzs:∀b o u,H b=some (.frz o u)->H' b=some (.frz o u)
 tbls:∀b ps,H b=some (.tbl ps)->∃more,H' b=some (.tbl (ps++more))
section
variable{fs ft ex fz:List av}{H H1 H2:Hp}{h h1 h2 h':bQ}{a x e:av}{o:HO}
theorem Un.any(u:Un fs ex H H1 h h1){b:av}{c:Obj}(q:h.get? b=some c)(n:H b=none)(g:b∉ex):∃v,h1.get? b=some { c with slots:=v }:=by
 by_cases l:b∈fs
 ·exact u.slot b c q n l g
 ·exact⟨c.slots,u.keep b c q n l g⟩
theorem Un.kept(k:∀b u,h.get? b=some u->h'.get? b=some u):Un fs ex H H h h':=
 ⟨λb c q _ _ _=>k b c q,λb c q _ _ _=>⟨c.slots,k b c q⟩,λ_ _ _ n _=>n,λb c q _=>⟨c,k b c q⟩,λ_ _ q=>q,λ_ _ _ q=>q,λ_ g q=>⟨#[],by rw[q];simp⟩⟩
theorem Un.refl:Un fs ex H H h h:=Un.kept λ_ _ q=>q
theorem Un.laid(k:∀b u,h.get? b=some u->h'.get? b=some u)(g:h.objs.size<=a)(c:H a=none):Un fs ex H (fq H a o) h h' where
 keep:=λb u q _ _ _=>k b u q
 slot:=λb u q _ _ _=>⟨u.slots,k b u q⟩
 free:=λb u q n _=>by rw[fI (bA (bw (aJ q) g))];exact n
 there:=λb u q _=>⟨u,k b u q⟩
 tups:=λb xs q=>by rw[fI (nA q c)];exact q
 frzs:=λb u xs q=>by rw[fI (nA q c)];exact q
 tbls:=λb l q=>⟨#[],by rw[fI (nA q c),q];simp⟩
theorem Un.write(g:EV (H x))(G:e=x\/H e=some (.own x))(k:∀b u,b≠e->h.get? b=some u->h'.get? b=some u)(v:∃u,h'.get? e=some u):Un fs ex H (fq H x o) h h':=by
 have B:∀b,H b=none->b≠x:=λb n z=>by subst z;rw[n]at g;exact g
 have C:∀b,H b=none->b≠e:=λb n z=>by
  subst z;rcases G with r|r
  ·exact B b n r
  ·rw[n]at r;cases r
 have l:∀b u,H b=some u->¬ EV (some u)->b≠x:=λb u q E z=>by subst z;rw[q]at g;exact E g
 refine⟨λb u q n _ _=>k b u (C b n) q,λb u q n _ _=>⟨u.slots,k b u (C b n) q⟩,λb u q n _=>by rw[fI (B b n)];exact n,λb u q _=>?_,
  λb xs q=>by rw[fI (l b _ q λz=>z)];exact q,λb u xs q=>by rw[fI (l b _ q λz=>z)];exact q,λb I q=>⟨#[],by rw[fI (l b _ q λz=>z),q];simp⟩⟩
 by_cases c:b=e
 ·subst c;exact v
 ·exact⟨u,k b u c q⟩
end
noncomputable def trk(h:bQ)(H:Hp):List av:=(bH h.objs.size).filter λa=>(H a).isSome
def sH(h:bQ)(H:Hp):bQ:=PySem.W.hideAll h (trk h H)
theorem VY(h:bQ)(H:Hp):(sH h H).objs.size=h.objs.size:=PySem.W.hideAll_size _ _
theorem VO{h:bQ}{H:Hp}{b:av}{o:Obj}(e:h.get? b=some o)(n:H b=none):(sH h H).get? b=some o:=
 PySem.W.hideAll_get _ e λc=>by have q:(H b).isSome=true:=(ff.mp c).2;rw[n]at q;simp at q
theorem Xi{h:bQ}{H:Hp}{b:av}{o:Obj}(e:(sH h H).get? b=some o):h.get? b=some o/\H b=none:=by
 have c:h.get? b=some o:=PySem.W.of_hideAll (trk h H) e;refine⟨c,?_⟩;cases q:H b with
 |none=>rfl
 |some x=>
  have g:b∈trk h H:=ff.mpr ⟨d9.mpr (aJ c),by simp[q]⟩;have z:(sH h H).get? b=none:=PySem.W.hideAll_none (trk h H) g;rw[z]at e;cases e
noncomputable def lK(g h:bQ)(L:av):List (av×Obj):=(bH h.objs.size).filterMap λa=>if a=L\/(g.get? a).isSome=true then none else (h.get? a).map λo=>(a,o)
theorem Oi{g h:bQ}{L a:av}{o:Obj}(q:a≠L)(l:g.get? a=none)(c:h.get? a=some o):(a,o)∈lK g h L:=
 lP.mpr ⟨a,d9.mpr (aJ c),by simp[q,l,c]⟩
theorem Qr{g h:bQ}{L:av}{p:av×Obj}(l:p∈lK g h L):p.1≠L/\g.get? p.1=none/\h.get? p.1=some p.2:=by
 obtain⟨b,_,e⟩:=lP.mp l;split at e
 ·cases e
 ·rename_i c;cases q:h.get? b with
  |none=>rw[q]at e;simp at e
  |some u=>
   rw[q]at e;simp only[eE,sZ]at e;subst e;refine⟨λz=>c (.inl z),?_,q⟩
   show g.get? b=none;cases r:g.get? b with
   |none=>rfl
   |some v=>exact (c (.inr (by simp[r]))).elim
def fM(g h:bQ)(L d:av):List (av×Obj):=(lK g h L).filter λp=>decide (p.1≠d)
theorem Xy{g h:bQ}{L:av}:News g L h (lK g h L):=λp l=>let ⟨a,b,c⟩:=Qr l;⟨c,a,b⟩
structure Mod(K:ak)(mg:Str->Option ah)(base:bQ):Prop where
 kin:K.In base
 glob:base.Ns dO mg
 blt:∃mb,base.Ns Co mb/\∀x:Str,x≠"__name__"->mb x=cI x
 nolimit:base.NoLimit
structure Cx where
 prog:Program
 w:bG
 K:ak
 mg:Str->Option ah
 base:bQ
 A:bB
 N:List Str
 s₀:am
 H₀:Hp
 env:Env
 outer:List Env
 stack:List Env
 ex:List av
 fn:Str->Bool
 calm:Bool
 pn:List (av×Obj)
 xe:ah->am->Prop
noncomputable def fN(l:List Env):List av:=l.filterMap (·.frame)
abbrev Cx.fs(X:Cx):List av:=fN X.outer
noncomputable def Gr(sc:eO)(x:Str):Prop:=sc.names.lookup x=some .local\/sc.names.lookup x=some .cell\/sc.names.lookup x=some .free
noncomputable def Loc(sc:eO)(x:Str):Prop:=sc.names.lookup x=some .local\/sc.names.lookup x=some .cell
noncomputable def Look(env:Env)(h:bQ)(m:Str->Option ah)(x:Str)(u:ah):Prop:=
 (env.kindOf x=some .local/\m x=some u)\/((env.kindOf x=some .cell\/env.kindOf x=some .free)/\∃c,env.cells.lookup x=some c/\h.IsCell c (some u))
structure Cx.Ok(X:Cx):Prop where
 mod:Mod X.K X.mg X.base
 kind:X.env.scope.kind=.function
 glob:X.env.globals=dO
 blt:X.env.builtins=Co
 above:X.s₀.heap.objs.size<=X.env.locals
 inj:∀x y c,X.env.cells.lookup x=some c->X.env.cells.lookup y=some c->x=y
 has:∀x,(X.env.kindOf x=some .cell\/X.env.kindOf x=some .free)->∃c,X.env.cells.lookup x=some c
 cab:∀x c,X.fn x=true->X.env.cells.lookup x=some c->X.s₀.heap.objs.size<=c
 hd:X.calm=true->X.A.handled=none
 frames:X.A.frames=some X.stack
 stk:X.stack=X.outer\/(X.stack=X.env::X.outer/\X.env.frame=some X.env.locals)
 exf:∀b∈X.ex,b≠X.env.locals/\∀x c,X.env.cells.lookup x=some c->c≠b
 bs:∀b o,X.base.get? b=some o->X.s₀.heap.get? b=some o/\X.H₀ b=none
 bsz:X.base.objs.size<=X.s₀.heap.objs.size
 noex:∀b o,X.base.get? b=some o->b∉X.ex
 exfs:∀b∈X.ex,b∉X.fs
 funs:X.s₀.heap.FunFrames X.base X.outer
 frf:∀b∈X.fs,X.H₀ b=none
structure Inv(X:Cx)(ap:List (av×Obj))(σ:List (Option V))(H:Hp)(s:am):Prop where
 ok:X.Ok
 os:s.os=X.s₀.os
 bare:n9 s.gens
 base:Un X.fs X.ex X.H₀ H X.s₀.heap s.heap
 loc:∃m,s.heap.Ns X.env.locals m/\∀(i:Nat)(x:Str)(v:V),X.N[i]?=some x->σ[i]?=some (some v)->Gr X.env.scope x->∃u,RelV v u/\Look X.env s.heap m x u
 cell:∀x c,X.env.cells.lookup x=some c->∃v,s.heap.IsCell c v
 free:H X.env.locals=none
 freeC:∀x c,X.env.cells.lookup x=some c->H c=none
 pin:∀p∈X.pn++ap,s.heap.get? p.1=some p.2/\H p.1=none/\p.1≠X.env.locals/\p.1∉X.fs/\∀v,p.2.data≠.cell v
 hok:oq X.prog X.w H s.heap
 len:σ.length=X.N.length
section
variable{X:Cx}{ap:List (av×Obj)}{σ:List (Option V)}{H H':Hp}{s:am}{h':bQ}
theorem Cx.Ok.nofr(ok:X.Ok){b:av}{o:Obj}(e:X.base.get? b=some o):b∉X.fs:=λc=>by have:=(ok.funs.mem c).1;rw[e]at this;cases this
theorem Inv.bs(I:Inv X ap σ H s):∀b o,X.base.get? b=some o->s.heap.get? b=some o/\H b=none:=λb o e=>
 ⟨I.base.keep b o (I.ok.bs b o e).1 (I.ok.bs b o e).2 (I.ok.nofr e) (I.ok.noex b o e),I.base.free b o (I.ok.bs b o e).1 (I.ok.bs b o e).2 (I.ok.noex b o e)⟩
theorem Inv.bk(I:Inv X ap σ H s):∀b o,X.base.get? b=some o->s.heap.get? b=some o:=λb o e=>(I.bs b o e).1
theorem Inv.mod(I:Inv X ap σ H s):Mod X.K X.mg X.base:=I.ok.mod
theorem Inv.kIn(I:Inv X ap σ H s):X.K.In s.heap:=I.ok.mod.kin.keeps I.bk
theorem Inv.fr(I:Inv X ap σ H s):∃m,Fr X.base X.env.locals s.heap m:=
 let ⟨m,hn,_⟩:=I.loc
 ⟨m,hn,I.bk,bW I.ok.bsz I.ok.above⟩
theorem Inv.lt(I:Inv X ap σ H s):X.env.locals < s.heap.objs.size:=let ⟨_,hn,_⟩:=I.loc;hn.lt
theorem Inv.sz(I:Inv X ap σ H s):X.s₀.heap.objs.size<=s.heap.objs.size:=bW I.ok.above (p9 I.lt)
theorem Inv.nofs(I:Inv X ap σ H s){a:av}(h:s.heap.objs.size<=a):a∉X.fs:=λg=>by obtain⟨_,o,c,_⟩:=I.ok.funs.mem g;exact ba (bw (aJ c) (bW I.sz h)) (bM _)
theorem Inv.cne(I:Inv X ap σ H s):∀x c,X.env.cells.lookup x=some c->c≠X.env.locals:=λx c e z=>by obtain⟨v,o,l,hd⟩:=I.cell x c e;obtain⟨m,⟨o',q,ep,g,h,_⟩,_⟩:=I.loc;rw[z,g]at l;cases l;rw[h]at hd;cases hd
theorem Inv.funs(I:Inv X ap σ H s):s.heap.FunFrames X.base X.outer:=by
 have all:∀(l:List Env),(∀b∈fN l,b∈X.fs)->X.s₀.heap.FunFrames X.base l->s.heap.FunFrames X.base l:=by
  intro l
  induction l with
  |nil=>intro _ _;trivial
  |cons env r ih=>
   intro q C;obtain⟨E,⟨L,o,c,B,v,hd⟩,u⟩:=C;have h:L∈X.fs:=q L (by unfold fN;rw[ou,c];exact cM);obtain⟨G,e⟩:=I.base.slot L o v (I.ok.frf L h) h λz=>I.ok.exfs L z h;exact⟨E,⟨L,_,c,B,e,hd⟩,ih (λb g=>q b (by unfold fN;rw[ou,c];exact bI _ g)) u⟩
 exact all X.outer (λ_ g=>g) I.ok.funs
theorem Inv.stack(I:Inv X ap σ H s):s.heap.FunFrames X.base X.stack:=by
 rcases I.ok.stk with e|⟨e,g⟩
 ·rw[e];exact I.funs
 ·rw[e];obtain⟨m,c,_⟩:=I.loc;refine .cons (by rw[I.ok.kind];decide) g c ?_ I.funs;exact bQ.get?_none_of_le (bW I.ok.bsz I.ok.above)
theorem Inv.stkSub(I:Inv X ap σ H s):∀b∈fN X.stack,b∈X.env.locals::X.fs:=λb c=>by
 rcases I.ok.stk with e|⟨e,g⟩
 ·rw[e]at c;exact bI _ c
 ·rw[e]at c;unfold fN at c;rw[ou,g]at c;exact c
theorem Inv.stkFree(I:Inv X ap σ H s):∀b∈fN X.stack,H b=none:=λb c=>by
 rcases bb.mp (I.stkSub b c) with e|c
 ·rw[e];exact I.free
 ·obtain⟨_,o,g,_⟩:=I.ok.funs.mem c;exact I.base.free b o g (I.ok.frf b c) λz=>I.ok.exfs b z c
theorem Inv.step{g':Array GenState}{t':Nat}{d':Drawn}{ch:List av}(I:Inv X ap σ H s)
  (B:∀b∈ch,(b∈X.ex\/X.s₀.heap.objs.size<=b)/\b≠X.env.locals/\(∀x c,X.env.cells.lookup x=some c->c≠b)/\∀p∈X.pn++ap,p.1≠b)
  (keep:∀b o,b≠X.env.locals->b∉X.fs->b∉ch->s.heap.get? b=some o->H b=none->h'.get? b=some o)
  (slot:∀b o,b≠X.env.locals->b∈X.fs->b∉ch->s.heap.get? b=some o->H b=none->∃Y,h'.get? b=some { o with slots:=Y }) (free:∀b o,b∉ch->s.heap.get? b=some o->H b=none->H' b=none)
  (there:∀b o,b∉ch->s.heap.get? b=some o->∃o',h'.get? b=some o')
  (tups:∀b xs,H b=some (.tup xs)->H' b=some (.tup xs)) (frzs:∀b o u,H b=some (.frz o u)->H' b=some (.frz o u)) (tbls:∀b T,H b=some (.tbl T)->∃more,H' b=some (.tbl (T++more)))
  (ns:∀m,s.heap.Ns X.env.locals m->h'.Ns X.env.locals m) (hok:oq X.prog X.w H' h') (hg:n9 g'):
  Inv X ap σ H' { s with heap:=h',gens:=g',drawn:=d',toks:=t' }:=by
 have O:∀b o,X.s₀.heap.get? b=some o->b≠X.env.locals:=λb o e=>bA (bw (aJ e) I.ok.above);have E:∀b o,X.s₀.heap.get? b=some o->b∉X.ex->b∉ch:=λb o e g J=>by
  rcases (B b J).1 with z|z
  ·exact g z
  ·exact ba (bw (aJ e) z) (bM _)
 have C:∀x c,X.env.cells.lookup x=some c->∀v,s.heap.IsCell c v->h'.IsCell c v:=λx c e v pq1=>by
  obtain⟨o,L,hd⟩:=pq1;have h:c∉ch:=λz=>(B c z).2.2.1 x c e rfl;by_cases hc:c∈X.fs
  ·obtain⟨Y,q⟩:=slot c o (I.cne x c e) hc h L (I.freeC x c e);exact⟨_,q,hd⟩
  ·exact⟨o,keep c o (I.cne x c e) hc h L (I.freeC x c e),hd⟩
 refine⟨I.ok,I.os,hg,⟨λb o e n J g=>?_,λb o e n J g=>?_,λb o e n g=>?_,λb o e g=>?_,λb xs e=>tups b xs (I.base.tups b xs e),λb o xs e=>frzs b o xs (I.base.frzs b o xs e),λb T e=>?_⟩,?_,λx c e=>?_,?_,λx c e=>?_,λp hp=>?_,hok,I.len⟩
 ·exact keep b o (O b o e) J (E b o e g) (I.base.keep b o e n J g) (I.base.free b o e n g)
 ·obtain⟨Y,G⟩:=I.base.slot b o e n J g;obtain⟨U,Q⟩:=slot b _ (O b o e) J (E b o e g) G (I.base.free b o e n g);exact⟨U,Q⟩
 ·obtain⟨o',G⟩:=I.base.there b o e g;exact free b o' (E b o e g) G (I.base.free b o e n g)
 ·obtain⟨o',G⟩:=I.base.there b o e g;exact there b o' (E b o e g) G
 ·obtain⟨g,G⟩:=I.base.tbls b T e;obtain⟨c,Q⟩:=tbls b _ G;exact⟨g++c,by rw[Q,Array.append_assoc]⟩
 ·obtain⟨m,g,h⟩:=I.loc;refine⟨m,ns m g,λi x v G Q o=>?_⟩;obtain⟨u,r,l⟩:=h i x v G Q o;refine⟨u,r,?_⟩;rcases l with l|⟨k,c,e,z⟩
  ·exact .inl l
  ·exact .inr ⟨k,c,e,C x c e _ z⟩
 ·obtain⟨v,z⟩:=I.cell x c e;exact⟨v,C x c e v z⟩
 ·obtain⟨m,⟨o,_,_,L,_⟩,_⟩:=I.loc;exact free _ o (λz=>(B _ z).2.1 rfl) L I.free
 ·obtain⟨v,o,L,hd⟩:=I.cell x c e;exact free c o (λz=>(B c z).2.2.1 x c e rfl) L (I.freeC x c e)
 ·obtain⟨e,n,g,c,d⟩:=I.pin p hp;have h:p.1∉ch:=λz=>(B p.1 z).2.2.2 p hp rfl;exact⟨keep p.1 p.2 g c h e n,free p.1 p.2 h e n,g,c,d⟩
theorem Inv.un{t':Nat}(I:Inv X ap σ H s)(u:Un X.fs [] H H' s.heap h')(g:oq X.prog X.w H' h'):Inv X ap σ H' { s with heap:=h',toks:=t' }:=by
 obtain⟨m,⟨o,L,ep,v,r⟩,_⟩:=id I.loc;obtain⟨G,E⟩:=u.any v I.free (by simp);exact I.step (g':=s.gens) (d':=s.drawn) (ch:=[]) (λ_ z=>nomatch z) (λb o _ h _ e n=>u.keep b o e n h (by simp)) (λb o _ h _ e n=>u.slot b o e n h (by simp)) (λb o _ e n=>u.free b o e n (by simp)) (λb o _ e=>u.there b o e (by simp)) u.tups u.frzs u.tbls (λJ C=>by obtain⟨o',l,q,c,B⟩:=C;rw[v]at c;cases c;exact⟨_,l,q,E,B⟩) g I.bare
theorem Inv.call{g':Array GenState}{t':Nat}{d':Drawn}{ch:List av}(I:Inv X ap σ H s)(u:Un (fN X.stack) ch H H' s.heap h')(q:oq X.prog X.w H' h')(L:n9 g')
  (l:∀b∈ch,(b∈X.ex\/X.s₀.heap.objs.size<=b)/\b≠X.env.locals/\(∀x c,X.env.cells.lookup x=some c->c≠b)/\∀p∈X.pn++ap,p.1≠b):
  Inv X ap σ H' { s with heap:=h',gens:=g',drawn:=d',toks:=t' }:=by
 obtain⟨m,⟨o,U,ep,E,r⟩,_⟩:=id I.loc;obtain⟨Q,v⟩:=u.any E I.free λz=>(l _ z).2.1 rfl;exact I.step (ch:=ch) l (λb o v O g e n=>u.keep b o e n (λz=>(bb.mp (I.stkSub b z)).elim v O) g) (λb o _ _ g e n=>u.any e n g) (λb o g e n=>u.free b o e n g) (λb o g e=>u.there b o e g) u.tups u.frzs u.tbls (λT J=>by obtain⟨o',B,C,h,G⟩:=J;rw[E]at h;cases h;exact⟨_,B,C,v,G⟩) q L
theorem Inv.turned{t':Nat}{g:av}(I:Inv X ap σ H s)(k:∀b o,b≠g->s.heap.get? b=some o->h'.get? b=some o)(E:H g=none)(B:g≠X.env.locals)
  (Q:g∈X.ex\/X.s₀.heap.objs.size<=g) (O:∀x c,X.env.cells.lookup x=some c->c≠g) (L:∀p∈X.pn++ap,p.1≠g):Inv X ap σ H { s with heap:=h',toks:=t' }:=by
 have l:∀b u,H b=some u->b≠g:=λb u e z=>by rw[z,E]at e;cases e
 refine I.step (g':=s.gens) (d':=s.drawn) (ch:=[g]) (λb J=>?_) (λb o _ _ h e _=>k b o (λz=>h (by simp[z])) e) (λb o _ _ h e _=>⟨o.slots,k b o (λz=>h (by simp[z])) e⟩) (λ_ _ _ _ n=>n)
  (λb o h e=>⟨o,k b o (λz=>h (by simp[z])) e⟩) (λ_ _ e=>e) (λ_ _ _ e=>e) (λb U e=>⟨#[],by rw[e];simp⟩) (λm G=>?_) (λb u e=>?_) I.bare
 ·have e:b=g:=by simpa using J
  subst e;exact⟨Q,B,O,L⟩
 ·obtain⟨o,T,ep,C,r⟩:=G;exact⟨o,T,ep,k _ o (bC B) C,r⟩
 ·refine (I.hok b u e).stay (λc v h q=>k c v ?_ q) (λ_ q=>q) λ_ _ q=>q;rcases h with z|z
  ·rw[z];exact l b u e
  ·exact l c _ z
theorem Inv.tok(I:Inv X ap σ H s)(t:Nat):Inv X ap σ H { s with toks:=t }:=I.un (h':=s.heap) (t':=t) Un.refl I.hok
theorem Inv.kept{t':Nat}(I:Inv X ap σ H s)(k:∀b u,s.heap.get? b=some u->h'.get? b=some u):Inv X ap σ H { s with heap:=h',toks:=t' }:=I.un (Un.kept k) (I.hok.kept k)
theorem Inv.laid{a:av}{o:HO}{t':Nat}(I:Inv X ap σ H s)(k:∀b u,s.heap.get? b=some u->h'.get? b=some u)(c:s.heap.objs.size<=a)(new:eT X.prog X.w (fq H a o) h' a o):
  Inv X ap σ (fq H a o) { s with heap:=h',toks:=t' }:=I.un (Un.laid k c (I.hok.fresh c)) (I.hok.laid k c new)
theorem Inv.write{x e:av}{o:HO}{t':Nat}(I:Inv X ap σ H s)(g:EV (H x))(h:e=x\/H e=some (.own x))(k:∀b u,b≠e->s.heap.get? b=some u->h'.get? b=some u)(c:∃u,h'.get? e=some u)
  (new:eT X.prog X.w (fq H x o) h' x o):Inv X ap σ (fq H x o) { s with heap:=h',toks:=t' }:=I.un (Un.write g h k c) (I.hok.write g h k c new)
theorem Inv.pins_of{c:List (av×Obj)}(I:Inv X ap σ H s)(h:∀p∈c,s.heap.get? p.1=some p.2/\H p.1=none/\p.1≠X.env.locals/\p.1∉X.fs/\∀v,p.2.data≠.cell v):Inv X c σ H s:=
 ⟨I.ok,I.os,I.bare,I.base,I.loc,I.cell,I.free,I.freeC,λp g=>(aB.mp g).elim (λz=>I.pin p (aL _ z)) (h p),I.hok,I.len⟩
theorem O2{N:List Str}(c:N.Nodup){i j:Nat}{x:Str}(a:N[i]?=some x)(b:N[j]?=some x):i=j:=by obtain⟨o,h⟩:=ac.mp a;obtain⟨l,g⟩:=ac.mp b;exact (List.getElem_inj c).mp (h.trans g.symm)
theorem NF{M:Model}{A:bB}{E:ah->am->Prop}{i:Nat}{x:Str}{v:V}{u:ah}{Q:Unit->am->Prop}(I:Inv X ap σ H s)(hN:X.N.Nodup)(hi:X.N[i]?=some x)(G:Loc X.env.scope x)(r:RelV v u)
  (h:∀s',Inv X ap (σ.set i (some v)) H s'->(∃a,cJ a s.heap s'.heap/\(a=X.env.locals\/X.env.cells.lookup x=some a))->Q () s') (hf:X.fn x=true\/X.env.scope.names.lookup x=some .local:=by first|exact .inl rfl|exact .inr rfl|assumption):aK M A (FS X.env x u) Q E s:=by
 obtain⟨m,hn,hl⟩:=id I.loc;have hcls:(X.env.scope.kind == .class||(X.env.scope.kind == .module&&X.env.locals != X.env.globals))=false:=by rw[I.ok.kind];rfl
 have hiσ:i < σ.length:=by rw[I.len];exact (ac.mp hi).1
 have cne:=I.cne;have l:∀{a:av}{h':bQ},(∃o,s.heap.get? a=some o/\H a=none)->cJ a s.heap h'->oq X.prog X.w H h':=λ{a h'}ha g b ob e=>by
  obtain⟨_,_,J⟩:=ha;refine (I.hok b ob e).stay (λc w' C q=>(g.2 c ?_).trans q) (λ_ q=>q) λ_ _ q=>q
  rintro rfl
  rcases C with rfl|C
  ·rw[J]at e;cases e
  ·rw[J]at C;cases C
 rcases G with O|O
 ·refine wpAny_storeName_local O hn (λh' C g=>?_) hcls;obtain⟨E,_,_,v,_⟩:=id hn;refine h _ ⟨I.ok,I.os,I.bare,⟨λb o e n Y G=>?_,λb o e n Y G=>?_,I.base.free,λb o e G=>?_,I.base.tups,I.base.frzs,I.base.tbls⟩,⟨_,C,λj y v' B L e3=>?_⟩,λy c e=>?_,I.free,I.freeC,λp hp=>?_,l ⟨E,v,I.free⟩ g,by simpa using I.len⟩ ⟨_,g,.inl rfl⟩
  ·exact (g.2 b (bA (bw (aJ e) I.ok.above))).trans (I.base.keep b o e n Y G)
  ·obtain⟨sl,B⟩:=I.base.slot b o e n Y G;exact⟨sl,(g.2 b (bA (bw (aJ e) I.ok.above))).trans B⟩
  ·obtain⟨o',B⟩:=I.base.there b o e G;exact⟨o',(g.2 b (bA (bw (aJ e) I.ok.above))).trans B⟩
  ·by_cases T:j=i
   ·subst T;rw[hi]at B;cases B;rw[ao hiσ]at L;cases L;exact⟨u,r,.inl ⟨O,by simp⟩⟩
   ·rw[af (bC T)]at L;obtain⟨u',r',q⟩:=hl j y v' B L e3;refine⟨u',r',?_⟩;rcases q with ⟨k,e⟩|⟨k,c,e,z⟩
    ·refine .inl ⟨k,?_⟩;have:y≠x:=λe=>T (O2 hN B (e ▸ hi));simp[this,e]
    ·exact .inr ⟨k,c,e,z.sameBut g (cne y c e)⟩
  ·obtain⟨w',z⟩:=I.cell y c e;exact⟨w',z.sameBut g (cne y c e)⟩
  ·obtain⟨e,n,ne,nf,d⟩:=I.pin p hp;exact⟨(g.2 p.1 ne).trans e,n,ne,nf,d⟩
 ·have U : X.fn x = true := by
    rcases hf with z|z
    ·exact z
    ·rw[z]at O;cases O
  obtain⟨c,C⟩:=I.ok.has x (.inl O);obtain⟨w',z⟩:=I.cell x c C;refine wpAny_storeName_cell I.ok.kind O C z (λh' J g=>?_);obtain⟨oc,E,v⟩:=id z;refine h { s with heap:=h' } ⟨I.ok,I.os,I.bare,⟨λb o e n Y G=>?_,λb o e n Y G=>?_,I.base.free,λb o e G=>?_,I.base.tups,I.base.frzs,I.base.tbls⟩,⟨m,hn.sameBut g (bC (cne x c C)),λj y v' B L e3=>?_⟩,λy Q e=>?_,I.free,I.freeC,λp hp=>?_,l ⟨oc,E,I.freeC x c C⟩ g,by simpa using I.len⟩ ⟨c,g,.inr C⟩
  ·exact (g.2 b (bA (bw (aJ e) (I.ok.cab x c U C)))).trans (I.base.keep b o e n Y G)
  ·obtain⟨sl,B⟩:=I.base.slot b o e n Y G;exact⟨sl,(g.2 b (bA (bw (aJ e) (I.ok.cab x c U C)))).trans B⟩
  ·obtain⟨o',B⟩:=I.base.there b o e G;exact⟨o',(g.2 b (bA (bw (aJ e) (I.ok.cab x c U C)))).trans B⟩
  ·by_cases T:j=i
   ·subst T;rw[hi]at B;cases B;rw[ao hiσ]at L;cases L;exact⟨u,r,.inr ⟨.inl O,c,C,J⟩⟩
   ·rw[af (bC T)]at L;obtain⟨u',r',q⟩:=hl j y v' B L e3;refine⟨u',r',?_⟩;rcases q with q|⟨k,Q,e,h⟩
    ·exact .inl q
    ·refine .inr ⟨k,Q,e,h.sameBut g ?_⟩
     rintro rfl
     exact T (O2 hN B (I.ok.inj _ _ _ e C ▸ hi))
  ·by_cases H:Q=c
   ·subst H;exact⟨_,J⟩
   ·obtain⟨l,h⟩:=I.cell y Q e;exact⟨l,h.sameBut g H⟩
  ·obtain⟨e,n,ne,nf,d⟩:=I.pin p hp;refine⟨(g.2 p.1 ?_).trans e,n,ne,nf,d⟩;intro q;rw[q,E]at e;have c:oc=p.2:=aN e;exact d w' (by rw[<- c];exact v)
theorem HJ{M:Model}{A:bB}{E:ah->am->Prop}{i:Nat}{x:Str}{v:V}{u:ah}{Q:Unit->am->Prop}(I:Inv X ap σ H s)(q:X.N.Nodup)(l:X.N[i]?=some x)(g:Loc X.env.scope x)(r:RelV v u)
  (h:∀c,Inv X ap (σ.set i (some v)) H c->Q () c) (o:X.fn x=true\/X.env.scope.names.lookup x=some .local:=by first|exact .inl rfl|exact .inr rfl|assumption):aK M A (FS X.env x u) Q E s:=
 NF I q l g r (λc B _=>h c B) o
theorem Inv.call'{g:am}{ch:List av}(I:Inv X ap σ H s)(o:g.os=s.os)(u:Un (fN X.stack) ch H H' s.heap g.heap)(h:oq X.prog X.w H' g.heap)(q:n9 g.gens)
  (l:∀b∈ch,(b∈X.ex\/X.s₀.heap.objs.size<=b)/\b≠X.env.locals/\(∀x c,X.env.cells.lookup x=some c->c≠b)/\∀p∈X.pn++ap,p.1≠b):Inv X ap σ H' g:=by
 obtain⟨h',g',d',t',o'⟩:=g;have e:o'=s.os:=o;subst e;exact I.call (g':=g') (t':=t') (d':=d') u h q l
end
abbrev XK:=ah->Option av->Hp->Prop
noncomputable abbrev St:=List (Option V)
abbrev VK:=V->Hp->Prop
abbrev TE:=St->Hp->VK->Prop
abbrev TT:=St->Hp->(Bool->Hp->Prop)->Prop
abbrev TA:=St->Hp->(List V->Hp->Prop)->Prop
structure Ends where
 nx:St->Hp->Prop
 rt:VK
 bk:St->Hp->Prop:=λ_ _=>False
 ct:St->Hp->Prop:=λ_ _=>False
abbrev TS:=Ends->St->Hp->Prop
def EP(X:Cx)(c:List (av×Obj))(σ:St)(Q:VK)(u:ah)(h:am):Prop:=∃v g,Inv X c σ g h/\RelV v u/\Q v g
noncomputable def TP(X:Cx)(c:List (av×Obj))(σ:St)(Q:Bool->Hp->Prop)(b:Bool)(h:am):Prop:=∃g,Inv X c σ g h/\Q b g
def AP(X:Cx)(c:List (av×Obj))(σ:St)(Q:List V->Hp->Prop)(l:List ah)(o:am):Prop:=∃g h,Inv X c σ h o/\b9 g l/\Q g h
def SP(X:Cx)(c:List (av×Obj))(D:Ends)(f:Flow)(h:am):Prop:=
 match f with
 | .next=>∃σ' g,Inv X c σ' g h/\D.nx σ' g
 | .brk=>∃σ' g,Inv X c σ' g h/\D.bk σ' g
 | .cont=>∃σ' g,Inv X c σ' g h/\D.ct σ' g
 | .ret u=>∃v σ' g,Inv X c σ' g h/\RelV v u/\D.rt v g
def PE(X:Cx)(e:Expr)(t:TE):Prop:=
 ∀(ap:List (av×Obj))(s:am)(σ:St)(H:Hp)(Q:VK),Inv X ap σ H s->t σ H Q->aK (bc X.prog X.w) X.A (eval e X.env) (EP X ap σ Q) X.xe s
def PT(X:Cx)(e:Expr)(t:TT):Prop:=
 ∀(ap:List (av×Obj))(s:am)(σ:St)(H:Hp)(Q:Bool->Hp->Prop),Inv X ap σ H s->t σ H Q->aK (bc X.prog X.w) X.A (isTrue e X.env (eval e X.env)) (TP X ap σ Q) X.xe s
def PW(X:Cx)(e:Expr)(t:TT):Prop:=
 ∀(whole:Sem ah)(ap:List (av×Obj))(s:am)(σ:St)(H:Hp)(Q:Bool->Hp->Prop),Inv X ap σ H s->t σ H Q->aK (bc X.prog X.w) X.A (isTrue e X.env whole) (TP X ap σ Q) X.xe s
theorem PW.pt{X:Cx}{e:Expr}{t:TT}(h:PW X e t):PT X e t:=h _
def PA(X:Cx)(c:List Expr)(t:TA):Prop:=
 ∀(pos:Pos)(ap:List (av×Obj))(s:am)(σ:St)(H:Hp)(Q:List V->Hp->Prop),Inv X ap σ H s->t σ H Q->aK (bc X.prog X.w) X.A (xh (eI pos (aF c X.env))) (AP X ap σ Q) X.xe s
def PS(X:Cx)(st:gM)(t:TS):Prop:=
 ∀(ap:List (av×Obj))(s:am)(σ:St)(H:Hp)(D:Ends),Inv X ap σ H s->t D σ H->aK (bc X.prog X.w) X.A (exec st X.env) (SP X ap D) X.xe s
def PSs(X:Cx)(st:List gM)(t:TS):Prop:=
 ∀(ap:List (av×Obj))(s:am)(σ:St)(H:Hp)(D:Ends),Inv X ap σ H s->t D σ H->aK (bc X.prog X.w) X.A (execs st X.env) (SP X ap D) X.xe s
theorem fS{α:Type}{t:Sem α}{Q c:α->am->Prop}{M:Model}{A:bB}{E:ah->am->Prop}{s:am}(h:aK M A t Q E s)(g:∀a s,Q a s->c a s):aK M A t c E s:=gN h g λ_ _ x=>x
section
variable{X:Cx}
noncomputable def E_(i:Nat):TE:=λσ H Q=>∃v,σ[i]?=some (some v)/\Q v H
noncomputable def tC(v:V):TE:=λ_ H Q=>Q v H
theorem UB{i:Nat}{x:Str}{pos:Pos}(O:X.N[i]?=some x)(E:Gr X.env.scope x)(hd:(x == ("__debug__":Str))=false:=by decide)(B:(x == ("__classdict__":Str))=false:=by decide):PE X (.Name x pos) (E_ i):=by
 intro q s σ H Q I h;obtain⟨v,e,h⟩:=h;obtain⟨m,G,L⟩:=I.loc;obtain⟨u,r,l⟩:=L i x v O e E;have fin:EP X q σ Q u s:=⟨v,H,I,r,h⟩
 rcases l with ⟨o,J⟩|⟨o,c,C,g⟩
 ·exact Cp (zy I.ok.kind o G J fin) hd
 ·rcases o with o|o
  ·exact Cp (Al I.ok.kind o C g fin) hd
  ·exact Cp (wpAny_loadName_free I.ok.kind o C g fin B) hd
theorem Nl{i j pos}:PE X (.Constant (.int i) j pos) (tC (.int i)):=λ_ _ _ H _ I h=>wpAny_Constant_int ⟨.int i,H,I.tok _,⟨_,rfl⟩,h⟩
theorem WE{b j pos}:PE X (.Constant (.bool b) j pos) (tC (.bl b)):=λ_ _ _ H _ I h=>Constant_bool ⟨.bl b,H,I,rfl,h⟩
theorem Xl{j pos}:PE X (.Constant .none j pos) (tC .non):=λ_ _ _ H _ I h=>Constant_none ⟨.non,H,I,rfl,h⟩
theorem PC{x j pos}:PE X (.Constant (.str x) j pos) (tC (.str x)):=λ_ _ _ H _ I h=>Calls.Constant_str ⟨.str x,H,I.tok _,⟨_,rfl⟩,h⟩
noncomputable def Gl(X:Cx)(x:Str):Prop:=X.env.kindOf x=some .globalImplicit
theorem RI{E:ah->am->Prop}{c:List (av×Obj)}{s:am}{σ:St}{H:Hp}{x:Str}{u:ah}{pos:Pos}{Q:ah->am->Prop}(I:Inv X c σ H s)(l:Gl X x)(g:X.mg x=some u)(h:Q u s)
  (hd:(x == ("__debug__":Str))=false:=by decide):aK (bc X.prog X.w) X.A (eval (.Name x pos) X.env) Q E s:=
 rH I.ok.kind l (Calls.loadGlobal_global (by rw[I.ok.glob];exact I.mod.glob.keeps I.bk) g h) hd
theorem wZ{E:ah->am->Prop}{c:List (av×Obj)}{s:am}{σ:St}{H:Hp}{x:Str}{u:ah}{pos:Pos}{Q:ah->am->Prop}(I:Inv X c σ H s)(q:Gl X x)(o:X.mg x=none)(g:cI x=some u)(h:Q u s)
  (l:x≠"__name__":=by decide) (hd:(x == ("__debug__":Str))=false:=by decide):aK (bc X.prog X.w) X.A (eval (.Name x pos) X.env) Q E s:=by
 obtain⟨C,B,v⟩:=I.mod.blt;exact rH I.ok.kind q (Calls.loadGlobal_builtin (by rw[I.ok.glob];exact I.mod.glob.keeps I.bk) o (by rw[I.ok.blt];exact B.keeps I.bk) ((v x l).trans g) h) hd
theorem Wa{x:Str}{v:V}{u:ah}{pos:Pos}(o:Gl X x)(l:X.mg x=none)(c:cI x=some u)(r:RelV v u)(g:x≠"__name__":=by decide)(hd:(x == ("__debug__":Str))=false:=by decide):PE X (.Name x pos) (tC v):=
 λ_ _ _ H _ I h=>wZ I o l c ⟨v,H,I,r,h⟩ g hd
variable{a b:Expr}{ta tb:TE}{pos:Pos}
variable{tA e6:TT}{fM:List Expr}
noncomputable def A0(t u:TT):TT:=λσ H Q=>t σ H λc g=>if c=true then u σ g Q else Q false g
noncomputable def Sx(t u:TT):TT:=λσ H Q=>t σ H λc g=>if c=true then Q true g else u σ g Q
noncomputable def BV(t:TT):TT:=λσ H Q=>t σ H λc g=>Q (!c) g
theorem XF(l:PT X a tA):PW X (.BoolOp .And [a] pos) tA:=by
 intro wh g s σ H Q I h;refine isTrue_and (fS (l g s σ H Q I h) λc o e=>?_);cases c with
 |true=>exact isTrue_and_nil e
 |false=>exact e
theorem WU(l:PT X a tA):PW X (.BoolOp .Or [a] pos) tA:=by
 intro wh g s σ H Q I h;refine isTrue_or (fS (l g s σ H Q I h) λc o e=>?_);cases c with
 |false=>exact isTrue_or_nil e
 |true=>exact e
theorem Ws(C:PT X a tA)(B:PW X (.BoolOp .And (b::fM) pos) e6):PW X (.BoolOp .And (a::b::fM) pos) (A0 tA e6):=by
 intro wh g s σ H Q I h;refine isTrue_and (fS (C g s σ H _ I h) λc v l=>?_);obtain⟨u,q,o⟩:=l;cases c with
 |true=>exact B wh g v σ u Q q o
 |false=>exact⟨u,q,o⟩
theorem Uv(C:PT X a tA)(B:PW X (.BoolOp .Or (b::fM) pos) e6):PW X (.BoolOp .Or (a::b::fM) pos) (Sx tA e6):=by
 intro wh g s σ H Q I h;refine isTrue_or (fS (C g s σ H _ I h) λc v l=>?_);obtain⟨u,q,o⟩:=l;cases c with
 |true=>exact⟨u,q,o⟩
 |false=>exact B wh g v σ u Q q o
theorem Sf(l:PT X a tA):PT X (.UnaryOp .Not a pos) (BV tA):=by intro g s σ H Q I h;exact isTrue_not (l g s σ H (λc o=>Q (!c) o) I h)
noncomputable def EI(ta tb:TE):TE:=λσ H Q=>ta σ H λx g=>∃c,x=.bl c/\if c=true then tb σ g Q else Q (.bl false) g
noncomputable def Ip(ta tb:TE):TE:=λσ H Q=>ta σ H λx g=>∃c,x=.bl c/\if c=true then Q (.bl true) g else tb σ g Q
noncomputable def E8(ta:TE):TE:=λσ H Q=>ta σ H λx g=>∃c,x=.bl c/\Q (.bl (!c)) g
theorem Yi{op}{t:TE}(h:PE X a t):PE X (.BoolOp op [a] pos) t:=λc s σ H Q I g=>BoolOp_one (h c s σ H Q I g)
theorem RD(G:PE X a ta)(E:PE X (.BoolOp .And (b::fM) pos) tb):PE X (.BoolOp .And (a::b::fM) pos) (EI ta tb):=by
 intro g s σ H Q I h;refine BoolOp_and (fS (G g s σ H _ I h) λv B o=>?_);obtain⟨x,u,q,C,l⟩:=o;obtain⟨c,rfl,l⟩:=l;cases C;refine fu ?_;cases c with
 |true=>exact E g B σ u Q q l
 |false=>exact⟨.bl false,u,q,rfl,l⟩
theorem PV(G:PE X a ta)(E:PE X (.BoolOp .Or (b::fM) pos) tb):PE X (.BoolOp .Or (a::b::fM) pos) (Ip ta tb):=by
 intro g s σ H Q I h;refine BoolOp_or (fS (G g s σ H _ I h) λv B o=>?_);obtain⟨x,u,q,C,l⟩:=o;obtain⟨c,rfl,l⟩:=l;cases C;refine fu ?_;cases c with
 |false=>exact E g B σ u Q q l
 |true=>exact⟨.bl true,u,q,rfl,l⟩
theorem T1(u:PE X a ta):PE X (.UnaryOp .Not a pos) (E8 ta):=by intro g s σ H Q I h;refine UnaryOp_ (fS (u g s σ H _ I h) λv E o=>?_);obtain⟨x,C,B,q,l⟩:=o;obtain⟨c,rfl,l⟩:=l;cases q;exact not_of (fu ⟨.bl (!c),C,B,rfl,l⟩)
noncomputable def TU(t:TT)(ta tb:TE):TE:=λσ H Q=>t σ H λc g=>if c=true then ta σ g Q else tb σ g Q
theorem YH{c:Expr}(B:PT X c tA)(E:PE X a ta)(C:PE X b tb):PE X (.IfExp c a b pos) (TU tA ta tb):=by
 intro g s σ H Q I h;refine wpAny_IfExp (fS (B g s σ H _ I h) λd o l=>?_);obtain⟨v,u,q⟩:=l;cases d with
 |true=>exact E g o σ v Q u q
 |false=>exact C g o σ v Q u q
end
def gD(K:ak)(H:Hp)(a:av)(xs:List V):Prop:=
 Rd H a (.lst xs) \/
  ∃(o:Obj)(its:Array ah)(n:Nat),K.lookup a=some o/\o.cls=.type "list"/\o.dict=none/\o.data=.seq its n/\its.size<=sizeLine/\b9 xs its.toList
def iR(K:ak)(H:Hp)(a:av)(xs:List V):Prop:=
 Rd H a (.tup xs) \/
  ∃(o:Obj)(its:Array ah)(n:Nat),K.lookup a=some o/\o.cls=.type "tuple"/\o.dict=none/\o.data=.seq its n/\its.size<=sizeLine/\b9 xs its.toList
noncomputable def IX:ah->Option V
 | .none=>some .non
 | .bool b=>some (.bl b)
 | .int i _=>some (.int i)
 | .str x _=>some (.str x)
 | .bytes b _=>some (.byt b)
 | .float b _=>some (.flt b)
 | .ref a=>some (.ref a)
 | .type n=>some (.ty n)
 |_=>none
theorem RelV.abs{x:V}{u:ah}(r:RelV x u):IX u=some x:=by
 cases x with
 |non=>cases r;rfl
 |bl _=>cases r;rfl
 |int _=>obtain⟨t,rfl⟩:=r;rfl
 |str _=>obtain⟨t,rfl⟩:=r;rfl
 |byt _=>obtain⟨t,rfl⟩:=r;rfl
 |flt _=>obtain⟨t,rfl⟩:=r;rfl
 |ref _=>cases r;rfl
 |ty _=>cases r;rfl
theorem RelV.inj{x y:V}{u:ah}(r:RelV x u)(q:RelV y u):x=y:=aN (r.abs.symm.trans q.abs)
theorem b9.inj:∀{xs ys:List V}{c:List ah},b9 xs c->b9 ys c->xs=ys
 |_,_,_,.nil,.nil=>rfl
 |_,_,_,.cons r t,.cons r' t'=>by rw[r.inj r',b9.inj t t']
section
variable{X:Cx}{ap:List (av×Obj)}{σ:St}{H:Hp}{s:am}{a:av}{xs ys:List V}
theorem gD.of{K:ak}(h:H a=some (.lst xs)):gD K H a xs:=.inl (.inl h)
theorem iR.of{K:ak}(h:H a=some (.tup xs)):iR K H a xs:=.inl (.inl h)
theorem Inv.list(I:Inv X ap σ H s)(h:gD X.K H a xs):∃its:List ah,b9 xs its/\PlainL s.heap a its.toArray/\xs.length<=sizeLine:=by
 rcases h with h|⟨o,its,n,g,l,hd,c,hz,r⟩
 ·obtain⟨z,its,n,r,e⟩:=h.ok I.hok;exact⟨its,r,⟨_,n,e,rfl,rfl,rfl⟩,z⟩
 ·refine⟨its.toList,r,⟨o,n,I.kIn a o g,l,hd,by simpa using c⟩,?_⟩;have e:=r.length;simp only[d_]at e;ext
theorem Inv.tupleD(I:Inv X ap σ H s)(h:iR X.K H a xs):∃its:List ah,b9 xs its/\kj s.heap a its.toArray/\xs.length<=sizeLine:=by
 rcases h with h|⟨o,its,n,g,l,hd,c,hz,r⟩
 ·obtain⟨z,its,r,p⟩:=h.ok I.hok;exact⟨its,r,p,z⟩
 ·refine⟨its.toList,r,⟨o,I.kIn a o g,l,⟨n,by simpa using c⟩,hd⟩,?_⟩;have e:=r.length;simp only[d_]at e;ext
theorem Inv.tuple(I:Inv X ap σ H s)(h:iR X.K H a xs):∃its:List ah,b9 xs its/\zx s.heap a its.toArray/\xs.length<=sizeLine:=let ⟨its,r,p,z⟩:=I.tupleD h;⟨its,r,p.is,z⟩
theorem Inv.list_inj(I:Inv X ap σ H s)(h:gD X.K H a xs)(h':gD X.K H a ys):xs=ys:=by
 obtain⟨its,r,⟨o,n,e,_,_,d⟩,_⟩:=I.list h;obtain⟨its',g,⟨o',l,c,_,_,d'⟩,_⟩:=I.list h';rw[e]at c;cases c;rw[d]at d';injection d' with d1 _
 have:its=its':=by simpa using cz Cq d1
 subst this;exact r.inj g
theorem Inv.tuple_inj(I:Inv X ap σ H s)(h:iR X.K H a xs)(h':iR X.K H a ys):xs=ys:=by
 obtain⟨its,r,⟨o,e,_,n,d⟩,_⟩:=I.tuple h;obtain⟨its',g,⟨o',c,_,l,d'⟩,_⟩:=I.tuple h';rw[e]at c;cases c;rw[d]at d';injection d' with d1 _
 have:its=its':=by simpa using cz Cq d1
 subst this;exact r.inj g
end
noncomputable abbrev Cx.wish(X:Cx)(E:ah->am->Prop):Cx:={ X with xe:=E }
abbrev Cx.nox(X:Cx):Cx:=X.wish λ_ _=>False
theorem Cx.Ok.wish{X:Cx}(ok:X.Ok)(E:ah->am->Prop):(X.wish E).Ok:=
 ⟨ok.mod,ok.kind,ok.glob,ok.blt,ok.above,ok.inj,ok.has,ok.cab,ok.hd,ok.frames,ok.stk,ok.exf,ok.bs,ok.bsz,ok.noex,ok.exfs,ok.funs,ok.frf⟩
theorem Cx.Ok.unwish{X:Cx}{E:ah->am->Prop}(ok:(X.wish E).Ok):X.Ok:=
 ⟨ok.mod,ok.kind,ok.glob,ok.blt,ok.above,ok.inj,ok.has,ok.cab,ok.hd,ok.frames,ok.stk,ok.exf,ok.bs,ok.bsz,ok.noex,ok.exfs,ok.funs,ok.frf⟩
section
variable{X:Cx}{ap:List (av×Obj)}{σ:St}{H:Hp}{s:am}{E:ah->am->Prop}
theorem Inv.wish(I:Inv X ap σ H s)(E:ah->am->Prop):Inv (X.wish E) ap σ H s:=⟨I.ok.wish E,I.os,I.bare,I.base,I.loc,I.cell,I.free,I.freeC,I.pin,I.hok,I.len⟩
theorem Inv.unwish(I:Inv (X.wish E) ap σ H s):Inv X ap σ H s:=⟨I.ok.unwish,I.os,I.bare,I.base,I.loc,I.cell,I.free,I.freeC,I.pin,I.hok,I.len⟩
theorem SP.unwish{D:Ends}{f:Flow}{g:am}(h:SP (X.wish E) ap D f g):SP X ap D f g:=by
 cases f with
 |next=>obtain⟨σ',c,I,q⟩:=h;exact⟨σ',c,I.unwish,q⟩
 |brk=>obtain⟨σ',c,I,q⟩:=h;exact⟨σ',c,I.unwish,q⟩
 |cont=>obtain⟨σ',c,I,q⟩:=h;exact⟨σ',c,I.unwish,q⟩
 |ret u=>obtain⟨v,σ',c,I,r,q⟩:=h;exact⟨v,σ',c,I.unwish,r,q⟩
theorem PSs.nox{st:List gM}{t:TS}(h:PSs X.nox st t):PSs X st t:=λap s σ H D I c=>
 gN (h ap s σ H D (I.wish _) c) (λ_ _ q=>q.unwish) λ_ _ z=>ik z
end
section
variable{X:Cx}{st:gM}{fM:List gM}{t u:TS}{e:Expr}{te:TE}{pos:Pos}
noncomputable def FN:TS:=λD σ H=>D.nx σ H
noncomputable def KP(t u:TS):TS:=λD σ H=>t { D with nx:=u D } σ H
theorem R8:PSs X [] FN:=λ_ _ σ H _ I h=>t_ ⟨σ,H,I,h⟩
theorem Yf(o:PS X st t)(l:PSs X fM u):PSs X (st::fM) (KP t u):=by
 intro c s σ H D I h;refine wpAny_execs_cons (fS (o c s σ H { D with nx:=u D } I h) λf g q=>?_);cases f with
 |next=>
  obtain⟨σ',C,B,q⟩:=q;exact l c g σ' C D B q
 |ret v=>exact q
 |brk=>exact q
 |cont=>exact q
theorem Inv.quiet{c:List (av×Obj)}{σ:St}{H:Hp}{s:am}(I:Inv X c σ H s):interactive X.env=false:=by simp[interactive,I.ok.kind]
noncomputable def Fy(te:TE):TS:=λD σ H=>te σ H λ_ c=>D.nx σ c
theorem Wu(q:PE X e te)(o:kr e none pos.line X.env=pure false:=by rfl):PS X (.Expr e pos) (Fy te):=by intro g s σ H D I h;exact wpAny_Expr_any (fS (q g s σ H _ I h) λv E c=>by obtain⟨x,C,B,G,l⟩:=c;exact⟨σ,C,B,l⟩) I.quiet o
noncomputable def Ke(te:TE):TS:=λD σ H=>te σ H D.rt
theorem QM(q:PE X e te):PS X (.Return (some e) pos) (Ke te):=by intro g s σ H D I h;exact wpAny_Return_some (fS (q g s σ H _ I h) λv E c=>by obtain⟨x,C,B,l,o⟩:=c;exact⟨x,σ,C,B,l,o⟩)
noncomputable def Fq:TS:=λD _ H=>D.rt .non H
theorem QN:PS X (.Return none pos) Fq:=λ_ _ σ H _ I h=>wpAny_Return_none ⟨.non,σ,H,I,rfl,h⟩
noncomputable def Jf(c:TT)(t u:TS):TS:=λD σ H=>c σ H λb g=>if b=true then t D σ g else u D σ g
theorem U9{c:Expr}{a b:List gM}{o:TT}(E:PT X c o)(J:PSs X a t)(G:PSs X b u):PS X (.If c a b pos) (Jf o t u):=by
 intro g s σ H D I h;refine wpAny_If (fS (E g s σ H _ I h) λd q l=>?_);obtain⟨C,B,v⟩:=l;cases d with
 |true=>exact J g q σ C D B v
 |false=>exact G g q σ C D B v
noncomputable def BY:TS:=λ_ _ _=>False
theorem WC:PS X st BY:=λ_ _ _ _ _ _ h=>h.elim
end
abbrev TG:=V->St->Hp->(St->Hp->Prop)->Prop
abbrev zo:=List V->St->Hp->(St->Hp->Prop)->Prop
def PG(X:Cx)(c:Expr)(t:TG):Prop:=
 ∀(ap:List (av×Obj))(s:am)(σ:St)(H:Hp)(v:V)(u:ah)(Q:St->Hp->Prop),Inv X ap σ H s->RelV v u->t v σ H Q ->
  aK (bc X.prog X.w) X.A (n_ c X.env u) (λ_ g=>∃σ' H',Inv X ap σ' H' g/\Q σ' H') X.xe s
def PGs(X:Cx)(c:List Expr)(t:zo):Prop:=
 ∀(ap:List (av×Obj))(s:am)(σ:St)(H:Hp)(vs:List V)(us:List ah)(Q:St->Hp->Prop),Inv X ap σ H s->b9 vs us->t vs σ H Q ->
  aK (bc X.prog X.w) X.A (assignInOrder ((dC c X.env).map (·.2)) us) (λ_ g=>∃σ' H',Inv X ap σ' H' g/\Q σ' H') X.xe s
abbrev vJ:=V->V->V->Hp->(Hp->Prop)->Prop
def PSet(X:Cx)(t:vJ):Prop:=
 ∀(ap:List (av×Obj))(s:am)(σ:St)(H:Hp)(o i v:V)(ov iv u:ah)(Q:Hp->Prop),Inv X ap σ H s->RelV o ov->RelV i iv->RelV v u->t o i v H Q ->
  aK (bc X.prog X.w) X.A (og ov iv u) (λ_ g=>∃c,Inv X ap σ c g/\Q c) X.xe s
abbrev CN:=V->V->Hp->VK->Prop
def J9(X:Cx)(op:ph)(t:CN):Prop:=
 ∀(ap:List (av×Obj))(s:am)(σ:St)(H:Hp)(x y:V)(v u:ah)(Q:VK),Inv X ap σ H s->RelV x v->RelV y u->t x y H Q ->
  aK (bc X.prog X.w) X.A (inplaceOp op v u) (EP X ap σ Q) X.xe s
section
variable{X:Cx}{pos:Pos}
noncomputable def tD(i:Nat):TG:=λv σ H Q=>Q (σ.set i (some v)) H
theorem Ww{i:Nat}{x:Str}(q:X.N.Nodup)(l:X.N[i]?=some x)(g:Loc X.env.scope x)(o:X.fn x=true\/X.env.scope.names.lookup x=some .local:=by first|exact .inl rfl|exact .inr rfl|assumption):PG X (.Name x pos) (tD i):=by intro c s σ H v u Q I r h;exact Dc (HJ I q l g r (λC B=>⟨_,H,B,h⟩) o)
noncomputable def HR:zo:=λc σ H Q=>c=[]/\Q σ H
noncomputable def Ei(t:TG)(u:zo):zo:=λc σ H Q=>∃v r,c=v::r/\t v σ H λσ' g=>u r σ' g Q
theorem XR:PGs X [] HR:=by intro c s σ H g l Q I r h;obtain⟨e,h⟩:=h;subst e;cases r;exact assignInOrder_nil ⟨σ,H,I,h⟩
theorem XH{e:Expr}{l:List Expr}{t:TG}{u:zo}(E:PG X e t)(C:PGs X l u)
  (B:(dC (e::l) X.env).map (·.2)=n_ e X.env::(dC l X.env).map (·.2):=by rfl):PGs X (e::l) (Ei t u):=by
 intro c s σ H O U Q I r h;obtain⟨v,T,G,h⟩:=h;subst G;cases r with
 |cons r rr=>
  rw[B];refine assignInOrder_cons (fS (E c s σ H _ _ _ I r h) λ_ o g=>?_);obtain⟨σ1,L,J,q⟩:=g;exact C c o σ1 L _ _ Q J rr q
def JI(K:ak)(n:Nat)(t:zo):TG:=λv σ H Q=>∃a xs,v=.ref a/\iR K H a xs/\xs.length=n/\t xs σ H Q
theorem R0{g:List Expr}{k:Nat}{t:zo}{n:Nat}(O:X.calm=true)(h:PGs X g t)
  (J:(dC g X.env).length=n:=by rfl) (q:(dC g X.env).findIdx? (·.1)=none:=by rfl):PG X (.Tuple g k pos) (JI X.K n t):=by
 intro c s σ H v u Q I r l;obtain⟨a,xs,T,G,L,l⟩:=l;subst T;cases r;obtain⟨its,B,E,hz⟩:=I.tuple G;refine assign_Tuple_tuple (I.ok.hd O) E (by simp[J,<- L,B.length]) q λh' C=>?_;have U:Inv X c σ H { s with heap:=h' }:=I.kept (t':=s.toks) λb o e=>C b o (bA (aJ e)) e;exact h c _ σ H xs _ Q U (by simpa using B) l
noncomputable def Je(to c:TE)(t:vJ):TG:=λv σ H Q=>to σ H λo l=>c σ l λi h=>t o i v h λg=>Q σ g
theorem Ut{o i:Expr}{to E:TE}{t:vJ}(ho:PE X o to)(hi:PE X i E)(hs:PSet X t)
  (ha:∀v,n_ (.Subscript o i pos) X.env v=(do
   let g <- lq [v] (eval o X.env)
   let C <- lq [v,g] (eval i X.env)
   xi pos
   lq [v,g,C] (og g C v)
   Dd [v,g,C] []):=by intro _;rfl):PG X (.Subscript o i pos) (Je to E t):=by
 intro c s σ H v u Q I r h;rw[ha];refine ab (cE (fS (ho c s σ H _ I h) λg J B=>?_));obtain⟨x,H1,I1,O,Y⟩:=B;refine ab (cE (fS (hi c J σ H1 _ I1 Y) λC G q=>?_));obtain⟨y,H2,I2,L,U⟩:=q;refine ab (qr (ab (cE (fS (hs c G σ H2 x y v g C u _ I2 O L r U) λ_ s3 l=>?_))));obtain⟨H3,I3,T⟩:=l;exact wpAny_release ⟨σ,H3,I3,T⟩
noncomputable def zr(c:TE)(g:TG):TS:=λD σ H=>c σ H λx h=>g x σ h D.nx
theorem SV{tg e : Expr}{l : TE}{g : TG}(J : PE X e l)(G : PG X tg g)(E : swapsWithSole [tg] e pos.line X.env = pure false := by rfl)(C : swappedStores [tg] e X.env = pure none := by rfl)
  (L:(dC [tg] X.env).map (·.2)=[n_ tg X.env]:=by rfl):PS X (.Assign [tg] e pos) (zr l g):=by
 intro c s σ H D I h;refine wpAny_Assign_stores (fS (J c s σ H _ I h) λv o ⟨x,Q,O,u,B⟩=>?_) E C;rw[L];exact fS (G c o σ Q x v _ O u B) λ_ T q=>q
theorem PM{i : Nat}{x : Str}{e : Expr}{l : TE}{c : Pos}(J : X.N.Nodup)(C : X.N[i]? = some x)(u : Loc X.env.scope x)(G : PE X e l)(B : kr e (some (.Name x c)) pos.line X.env = pure false := by rfl)(E : X.fn x = true \/ X.env.scope.names.lookup x = some .local := by first|exact .inl rfl|exact .inr rfl|assumption):
  PS X (.Assign [.Name x c] e pos) (zr l (tD i)):=by
 intro g s σ H D I h;refine wpAny_Assign_Name (fS (G g s σ H _ I h) λv U ⟨y,Q,O,o,q⟩=>?_) B;exact HJ O J C u o (λT L=>⟨_,Q,L,q⟩) E
noncomputable def Dw(i:Nat)(g:TE)(c:CN):TS:=λD σ H=>∃x,σ[i]?=some (some x)/\g σ H λy l=>c x y l λz h=>D.nx (σ.set i (some z)) h
theorem VN{i : Nat}{x : Str}{e : Expr}{L : TE}{op : ph}{J : CN}{E : Pos}(hN : X.N.Nodup)(O : X.N[i]? = some x)(G : Loc X.env.scope x)(he : PE X e L)(ho : J9 X op J)(hf : X.fn x = true \/ X.env.scope.names.lookup x = some .local := by first|exact .inl rfl|exact .inr rfl|assumption):
  PS X (.AugAssign (.Name x E) op e pos) (Dw i L J):=by
 intro g s σ H D I h;obtain⟨v,e1,h⟩:=h;obtain⟨m,hn,hl⟩:=I.loc;have vis:Gr X.env.scope x:=by rcases G with k|k;exact .inl k;exact .inr (.inl k)
 obtain⟨u,r,l⟩:=hl i x v O e1 vis;refine wpAny_AugAssign_Name ?_;have go:aK (bc X.prog X.w) X.A (eval e X.env) (λw s₂=>aK (bc X.prog X.w) X.A (inplaceOp op u w) (λr s₃=>aK (bc X.prog X.w) X.A (FS X.env x r) (λ_=>SP X g D .next) X.xe s₃) X.xe s₂) X.xe s:=by refine fS (he g s σ H _ I h) λw Q C=>?_;obtain⟨y,H1,I1,U,q1⟩:=C;refine fS (ho g Q σ H1 v y u w _ I1 r U q1) λz s2 B=>?_;obtain⟨zv,H2,I2,T,Y⟩:=B;exact HJ I2 hN O G T (λs3 I3=>⟨_,H2,I3,Y⟩) hf
 rcases l with ⟨o,hm⟩|⟨o,c,hc,q⟩
 ·exact zy I.ok.kind o hn hm go
 ·rcases o with o|o
  ·exact Al I.ok.kind o hc q go
  ·rcases G with k|k
   ·have:X.env.scope.names.lookup x=some .free:=o;rw[k]at this;cases this
   ·have:X.env.scope.names.lookup x=some .free:=o;rw[k]at this;cases this
noncomputable def Es(to l q:TE)(g:V->V->Hp->VK->Prop)(h:CN)(c:vJ):TS:=λD σ H=>to σ H λo G=>l σ G λi E=>g o i E λx C=>q σ C λy B=>h x y B λz v=>c o i z v λu=>D.nx σ u
def FK(X:Cx)(t:V->V->Hp->VK->Prop):Prop:=
 ∀(ap:List (av×Obj))(s:am)(σ:St)(H:Hp)(o i:V)(ov iv:ah)(Q:VK),Inv X ap σ H s->RelV o ov->RelV i iv->t o i H Q ->
  aK (bc X.prog X.w) X.A (pH ov iv) (EP X ap σ Q) X.xe s
theorem WY{o i e:Expr}{to U Y:TE}{l:V->V->Hp->VK->Prop}{C:CN}{g:vJ}{op:ph}{B:Pos}(ho:PE X o to)(hi:PE X i U)(hg:FK X l)(he:PE X e Y)(hp:J9 X op C)(hs:PSet X g)
  (ha:∀q u new,augStore i q u new=(do lq [new,q,u] (og q u new);Dd [new,q,u] [];pure .next):=by intros;rfl):PS X (.AugAssign (.Subscript o i B) op e pos) (Es to U Y l C g):=by
 intro c s σ H D I h;refine wpAny_AugAssign_SubscriptAny (fS (ho c s σ H _ I h) λq s1 ⟨T,H1,I1,r1,q1⟩=>?_) ha;refine fS (hi c s1 σ H1 _ I1 q1) λu s2 O=>?_;obtain⟨Q,H2,I2,r2,q2⟩:=O;refine fS (hg c s2 σ H2 T Q q u _ I2 r1 r2 q2) λold s3 L=>?_;obtain⟨x3,H3,I3,r3,q3⟩:=L;refine fS (he c s3 σ H3 _ I3 q3) λv s4 J=>?_;obtain⟨x4,H4,I4,r4,q4⟩:=J;refine fS (hp c s4 σ H4 x3 x4 old v _ I4 r3 r4 q4) λnew s5 G=>?_;obtain⟨x5,H5,I5,r5,q5⟩:=G;exact fS (hs c s5 σ H5 T Q x5 q u new _ I5 r1 r2 r5 q5) λ_ s6 E=>by obtain⟨H6,I6,q6⟩:=E;exact⟨σ,H6,I6,q6⟩
noncomputable def Nq(f:Int->Int->Int):CN:=λx y H Q=>∃i j,x=.int i/\y=.int j/\Q (.int (f i j)) H
theorem OY:J9 X .Add (Nq λi j=>i+j):=by intro c s σ H x y v u Q I l g h;obtain⟨i,j,B,o,q⟩:=h;subst B;subst o;obtain⟨t,rfl⟩:=l;obtain⟨t',rfl⟩:=g;exact iadd_int ⟨.int _,H,I.tok _,⟨_,rfl⟩,q⟩
end
section
variable{X:Cx}{pos:Pos}
def Bb(c:TT)(tb:TS):TS:=λD σ H=>∃W:Nat->St->Hp->Prop,(∃m,W m σ H)/\∀m σ H,W m σ H ->
 c σ H λb h=>if b=true then ∃N:St->Hp->Prop,(∀σ' H',N σ' H'->∃g,g < m/\W g σ' H')/\tb { D with nx:=N,ct:=N,bk:=D.nx } σ h else D.nx σ h
theorem S8{c:Expr}{l:List gM}{Q:TT}{tb:TS}(T:sN (bc X.prog X.w) X.A X.env X.xe)(hc:PT X c Q)(hb:PSs X l tb):PS X (.While c l [] pos) (Bb Q tb):=by
 intro g s σ H D I h;obtain⟨W,⟨m0,w0⟩,o⟩:=h;refine wpAny_While (codeAny_whileLoop (λn s'=>∃σ' H',Inv X g σ' H' s'/\W n σ' H') ?_ m0 ⟨σ,H,I,w0⟩)
 rintro n s1 ⟨σ1,H1,I1,w1⟩
 refine im T (fS (hc g s1 σ1 H1 _ I1 (o n σ1 H1 w1)) λb s2 q=>?_);obtain⟨H2,Y,C⟩:=q;cases b with
 |true=>
  obtain⟨N,U,C⟩:=C;rw[aE rfl];refine im T (fS (hb g s2 σ1 H2 _ Y C) λf s3 B=>?_);cases f with
  |next=>
   obtain⟨σ3,u,O,G⟩:=B;obtain⟨J,L,E⟩:=U σ3 u G;exact⟨J,L,σ3,u,O,E⟩
  |cont=>
   obtain⟨σ3,u,O,G⟩:=B;obtain⟨J,L,E⟩:=U σ3 u G;exact⟨J,L,σ3,u,O,E⟩
  |brk=>exact B
  |ret v=>exact B
 |false=>
  rw[aA bo];exact t_ ⟨σ1,H2,Y,C⟩
end
structure It where
 go:Nat->Hp->Prop
 yld:Nat->Hp->V->Hp->Prop
 stop:Nat->Hp->Prop
def pf(X:Cx)(g:List (av×Obj))(H:Hp)(b:av):Prop:=
 H b=none/\b≠X.env.locals/\b∉X.fs/\(b∈X.ex\/X.s₀.heap.objs.size<=b)/\(∀x c,X.env.cells.lookup x=some c->c≠b)/\∀p∈X.pn++g,p.1≠b
theorem Inv.fpOk{X:Cx}{g:List (av×Obj)}{σ:St}{H l:Hp}{s:am}{b:av}(I:Inv X g σ H s)(h:s.heap.objs.size<=b)(u:l b=none):pf X g l b:=by
 refine⟨u,df (bw I.lt h),I.nofs h,.inr (bW I.sz h),λx c e z=>?_,λp o z=>?_⟩
 ·obtain⟨v,q⟩:=I.cell x c e;exact ba (bw q.lt (by rw[z];exact h)) (bM _)
 ·exact ba (bw (aJ (I.pin p o).1) (by rw[z];exact h)) (bM _)
structure rm(P:Program)(w:bG)(K:ak)(tg:Expr)(J:It)(fp:List av)(it:av)(tn:Nat->bQ->Prop):Prop where
 mem:it∈fp
 obj:∀i h,tn i h->∀b∈fp,∃o,h.get? b=some o/\∀v,o.data≠.cell v
 keep:∀i h h',tn i h->(∀b∈fp,∀o,h.get? b=some o->h'.get? b=some o)->tn i h'
 item:∀(X:Cx),X.prog=P->X.w=w->X.K=K->X.calm=true->∀(i:Nat)(ap:List (av×Obj))(s:am)(σ:St)(H:Hp)(E:ah->am->Prop),Inv X ap σ H s->(∀b∈fp,pf X ap H b)->tn i s.heap->J.go i H ->
  aK (bc P w) X.A (ko (.ref it)) (λr s1=>∃u,r=some u /\
   aK (bc P w) X.A (ox tg (.ref it) u) (λ_ s2=>∃x H',Inv X ap σ H' s2/\RelV x u/\J.yld i H x H'/\tn (i+1) s2.heap/\∀b∈fp,H' b=none) E s1) E s
 done:∀(X:Cx),X.prog=P->X.w=w->X.K=K->X.calm=true->∀(i:Nat)(ap:List (av×Obj))(s:am)(σ:St)(H:Hp)(E:ah->am->Prop),Inv X ap σ H s->(∀b∈fp,pf X ap H b)->tn i s.heap->J.stop i H ->
  aK (bc P w) X.A (ko (.ref it)) (λr s1=>r=none/\Inv X ap σ H s1) E s
 self:∀(A:bB)(i:Nat)(s:am)(Q:ah->am->Prop)(E:ah->am->Prop),tn i s.heap->Q (.ref it) s->aK (bc P w) A (Cr (.ref it)) Q E s
abbrev TI:=St->Hp->(It->Hp->Prop)->Prop
def OJ(X:Cx)(c:List (av×Obj))(σ:St)(tg:Expr)(R:It->Hp->Prop)(g:ah)(o:am):Prop:=
 ∃(q:av)(fp:List av)(l:Nat->bQ->Prop)(J:It)(h:Hp),g=.ref q/\Inv X c σ h o/\rm X.prog X.w X.K tg J fp q l/\l 0 o.heap/\(∀b∈fp,pf X c h b)/\R J h
def PI(X:Cx)(tg iter:Expr)(c:TI):Prop:=
 ∀(ap:List (av×Obj))(s:am)(σ:St)(H:Hp)(R:It->Hp->Prop),Inv X ap σ H s->c σ H R ->
  aK (bc X.prog X.w) X.A (eval iter X.env) (λv g=>aK (bc X.prog X.w) X.A (Cr v) (OJ X ap σ tg R) X.xe g) X.xe s
theorem EL{M:Model}{A:bB}{E:ah->am->Prop}{s:am}{tg:Expr}{l:av}{u:ah}{o:Obj}{n:String}{g:Array ah}{Q:Unit->am->Prop}(q:s.heap.get? l=some o)(B:o.cls=.type n)(hd:o.data=.fields g)
  (v:["enumerate","zip","dict_itemiterator","dict_reverseitemiterator","odict_iterator","itertools.zip_longest","itertools.pairwise"].contains n=false) (c:Q () s):aK M A (ox tg (.ref l) u) Q E s:=by
 unfold ox;cases tg<;>first
  |exact aq c
  | (cases u <;> first
    |exact aq c
    | (refine ab (wpAny_load q ?_)
       rw[B,hd]
       show aK M A (if (["enumerate","zip","dict_itemiterator","dict_reverseitemiterator","odict_iterator","itertools.zip_longest","itertools.pairwise"].contains n&&g[0]? == some (kL _))=true then _ else _) Q E s;rw[aA (by intro h;rw[v,si]at h;cases h)];exact aq c))
def zV(K:ak)(a:av):It:=
 ⟨λi H=>∃xs x,gD K H a xs/\xs[i]?=some x,λi H x c=>c=H/\∀xs,gD K H a xs->xs[i]?=some x,λi H=>∃xs,gD K H a xs/\xs.length<=i⟩
def JQ(K:ak)(a:av):It:=
 ⟨λi H=>∃xs x,iR K H a xs/\xs[i]?=some x,λi H x c=>c=H/\∀xs,iR K H a xs->xs[i]?=some x,λi H=>∃xs,iR K H a xs/\xs.length<=i⟩
noncomputable def E2(lo:Int)(n:Nat):It:=⟨λi _=>i < n,λi H x c=>c=H/\x=.int (lo+i),λi _=>n<=i⟩
theorem Pc{P:Program}{w:bG}{K:ak}{tg:Expr}(a l:av):rm P w K tg (zV K a) [l] l (λi h=>h.IsListIter l a i) where
 mem:=by simp
 obj:=λi h st b q=>by
  have e:b=l:=by simpa using q
  subst e;obtain⟨o,e,c,d⟩:=st;exact⟨o,e,λv z=>by rw[d]at z;cases z⟩
 keep:=λi h h' st k=>st.at λo e=>k l (by simp) o e
 item:=by intro X T O U hc i g s σ H E I G st Q;subst T O U;obtain⟨xs,x,C,L⟩:=Q;obtain⟨its,J,p,hz⟩:=I.list C;obtain⟨u,hu,ru⟩:=J.get L;obtain⟨f0,f1,f2,f3,f4,Y⟩:=G l (by simp);refine xj st p.isList (x:=u) (by simpa using hu) λh' B sb=>?_;have I1:Inv X g σ H { s with heap:=h' }:=I.turned (t':=s.toks) (λb o q e=>(sb.2 b q).trans e) f0 f1 f3 f4 Y;obtain⟨o,e,c,d⟩:=id B;exact⟨u,rfl,EL (s:={ s with heap:=h' }) e c d (by decide) ⟨x,H,I1,ru,⟨rfl,λys hy=>by rw[I.list_inj hy C];exact L⟩,B,λb q=>(G b q).1⟩⟩
 done:=by intro X T O U hc i g s σ H E I G st Q;subst T O U;obtain⟨xs,C,L⟩:=Q;obtain⟨its,J,p,hz⟩:=I.list C;obtain⟨f0,f1,f2,f3,f4,Y⟩:=G l (by simp);have hl:=J.length;exact xL (I.ok.hd hc) st p.isList (by simp;ext) λh' eb=>⟨rfl,I.turned (t':=s.toks) (λb o q e=>eb b o q e) f0 f1 f3 f4 Y⟩
 self:=λ_ _ _ _ _ st h=>wpAny_pyIter_listiter st h
theorem Ru{P:Program}{w:bG}{K:ak}{tg:Expr}(a l:av):rm P w K tg (JQ K a) [l] l (λi h=>h.IsTupleIter l a i) where
 mem:=by simp
 obj:=λi h st b q=>by
  have e:b=l:=by simpa using q
  subst e;obtain⟨o,e,c,d⟩:=st;exact⟨o,e,λv z=>by rw[d]at z;cases z⟩
 keep:=λi h h' st k=>st.at λo e=>k l (by simp) o e
 item:=by intro X T O U hc i g s σ H E I G st Q;subst T O U;obtain⟨xs,x,C,L⟩:=Q;obtain⟨its,J,p,hz⟩:=I.tuple C;obtain⟨u,hu,ru⟩:=J.get L;obtain⟨f0,f1,f2,f3,f4,Y⟩:=G l (by simp);refine wpAny_pyNext_tuple_item st (show s.heap.IsTuple a its.toArray from p) (x:=u) (by simpa using hu) λh' B sb=>?_;have I1:Inv X g σ H { s with heap:=h' }:=I.turned (t':=s.toks) (λb o q e=>(sb.2 b q).trans e) f0 f1 f3 f4 Y;obtain⟨o,e,c,d⟩:=id B;exact⟨u,rfl,EL (s:={ s with heap:=h' }) e c d (by decide) ⟨x,H,I1,ru,⟨rfl,λys hy=>by rw[I.tuple_inj hy C];exact L⟩,B,λb q=>(G b q).1⟩⟩
 done:=by intro X T O U hc i g s σ H E I G st Q;subst T O U;obtain⟨xs,C,L⟩:=Q;obtain⟨its,J,p,hz⟩:=I.tuple C;obtain⟨f0,f1,f2,f3,f4,Y⟩:=G l (by simp);have hl:=J.length;exact wpAny_pyNext_tuple_end (I.ok.hd hc) st (show s.heap.IsTuple a its.toArray from p) (by simp;ext) λh' eb=>⟨rfl,I.turned (t':=s.toks) (λb o q e=>eb b o q e) f0 f1 f3 f4 Y⟩
 self:=λ_ _ _ _ _ st h=>wpAny_pyIter_tupleiter st h
theorem VE{P:Program}{w:bG}{K:ak}{tg:Expr}(g:av)(lo:Int)(n:Nat):rm P w K tg (E2 lo n) [g] g (λi h=>IsRangeIter h g (lo+(i:Nat)*1) ((n:Int)-(i:Nat)) 1) where
 mem:=by simp
 obj:=λi h st b l=>by
  have e:b=g:=by simpa using l
  subst e;exact⟨_,st,λv z=>by have z':FT _=Data.cell v:=z;cases z'⟩
 keep:=λi h h' st k=>k g (by simp) _ st
 item:=by intro X J B L G i c s σ H E I u st C;subst J B L;obtain⟨Y,U,f2,T,Q,O⟩:=u g (by simp);have W:=Walks.range (prog:=X.prog) (w:=X.w) (I.ok.hd G) g lo 1 n;refine W.item i s _ _ C st λv h' tk hv q kk=>?_;obtain⟨t,rfl⟩:=hv;have I1:Inv X c σ H { s with heap:=h',toks:=tk }:=I.turned (λb o l e=>kk b o (by simpa using l) e) Y U T Q O;refine⟨_,rfl,EL (s:={ s with heap:=h',toks:=tk }) (n:="range_iterator") q rfl rfl (by decide) ⟨.int (lo+i),H,I1,⟨t,?_⟩,⟨rfl,rfl⟩,q,λb l=>(u b l).1⟩⟩;rw[Int.mul_one]
 done:=by intro X J B L G i c s σ H E I u st C;subst J B L;obtain⟨Y,U,f2,T,Q,O⟩:=u g (by simp);exact wpAny_pyNext_range_end (I.ok.hd G) st (by have:n<=i:=C;ext) λh' eb=>⟨rfl,I.turned (t':=s.toks) (λb o l e=>eb b o l e) Y U T Q O⟩
 self:=λ_ _ _ _ _ st h=>wpAny_pyIter_rangeiter st h
section
variable{X:Cx}{tg:Expr}
def DN(K:ak)(g:TE):TI:=λσ H R=>g σ H λx c=>∃a,x=.ref a/\(∃xs,gD K c a xs)/\R (zV K a) c
theorem Yd{l:Expr}{C:TE}(L:PE X l C):PI X tg l (DN X.K C):=by
 intro g s σ H R I h;refine fS (L g s σ H _ I h) λv u c=>?_;obtain⟨x,Q,B,E,G⟩:=c;obtain⟨a,e,⟨xs,J⟩,q⟩:=G;subst e;cases E;obtain⟨its,T,p,hz⟩:=B.list J;refine kM p.isList ?_;refine⟨u.heap.objs.size,[u.heap.objs.size],_,_,Q,rfl,B.kept (t':=u.toks) λb o e=>al _ e,Pc a _,⟨_,aC _ rfl,rfl,rfl⟩,λb O=>?_,q⟩;have e:b=u.heap.objs.size:=by simpa using O
 subst e;exact B.fpOk (ar _) (B.hok.fresh (ar _))
theorem Lo{g:List (av×Obj)}{σ:St}{H:Hp}{s:am}{R:It->Hp->Prop}{E:ah->am->Prop}{lo c:Int}{t u v:Tok}{h:Nat}(I:Inv X g σ H s)(L : -(2^62)<=lo)(J:lo < 2^62)(G : -(2^62)<=c)(C:c < 2^62)
  (q:R (E2 lo (c-lo).toNat) H):aK (bc X.prog X.w) X.A (Cr (.ref s.heap.objs.size)) (OJ X g σ tg R) E { s with heap:=s.heap.push { cls:=.type "range",data:=.fields #[.int lo t,.int c u,.int 1 v] },toks:=h }:=by
 refine wpAny_pyIter_range (IsRange.new ..) (small_one L J G C) ?_;have l:Inv X g σ H { s with heap:=s.heap.push { cls:=.type "range",data:=.fields #[.int lo t,.int c u,.int 1 v] },toks:=h }:=I.kept λb o e=>al _ e;refine⟨(s.heap.push { cls:=.type "range",data:=.fields #[.int lo t,.int c u,.int 1 v] }).objs.size,[(s.heap.push { cls:=.type "range",data:=.fields #[.int lo t,.int c u,.int 1 v] }).objs.size],_,_,H,rfl,
  l.kept (t':=h) λb o e=>al _ e,VE _ lo (c-lo).toNat,?_,λb B=>?_,q⟩
 ·have Q:lo+((0:Nat):Int)*1=lo:=by simp
  have O:(((c-lo).toNat:Nat):Int)-((0:Nat):Int)=Builtin.Range.rangeSize lo c 1:=by rw[rangeSize_one];split<;>ext
  show IsRangeIter _ _ (lo+((0:Nat):Int)*1) ((((c-lo).toNat:Nat):Int)-((0:Nat):Int)) 1;rw[Q,O];exact aC _ rfl
 ·have e:b=(s.heap.push { cls:=.type "range",data:=.fields #[.int lo t,.int c u,.int 1 v] }).objs.size:=by simpa using B
  subst e;exact l.fpOk (ar _) (l.hok.fresh (ar _))
def gp(g:TA):TI:=λσ H R=>g σ H λc h=>∃j:Int,c=[.int j] /\ -(2^62)<=j/\j < 2^62/\R (E2 0 j.toNat) h
def ng(g:TA):TI:=λσ H R=>g σ H λc h=>∃i j:Int,c=[.int i,.int j]/\(-(2^62)<=i/\i < 2^62 /\ -(2^62)<=j/\j < 2^62)/\R (E2 i (j-i).toNat) h
theorem Pw{a:Expr}{l:TA}{p pos:Pos}(C:Gl X "range")(B:X.mg "range"=none)(E:PA X [a] l)(v:aF [a] X.env=[(false,eval a X.env)]:=by rfl):PI X tg (.Call (.Name "range" p) [a] [] pos) (gp l):=by
 intro c s σ H R I h;refine Call_ (wZ I C B boot_range (cq (fS (E pos c s σ H _ I h) λL O ⟨J,Q,G,o,g⟩=>?_) v rfl));obtain⟨j,e,g,u,q⟩:=g;subst e;cases o with
 |cons r rr=>
  cases rr;obtain⟨t,rfl⟩:=r;exact call_range_1 (Lo G (by ext) (by ext) g u (by simpa using q))
theorem Xz{a b : Expr}{o : TA}{p pos : Pos}(J : Gl X "range")(G : X.mg "range" = none)(L : PA X [a, b] o)(E : aF [a, b] X.env = [(false, eval a X.env), (false, eval b X.env)] := by rfl)(g : aF [b] X.env = [(false, eval b X.env)] := by rfl):
  PI X tg (.Call (.Name "range" p) [a,b] [] pos) (ng o):=by
 intro c s σ H R I h;refine Call_ (wZ I J G boot_range (cq (fS (L pos c s σ H _ I h) λT U ⟨Q,Y,O,u,l⟩=>?_) (by rw[E,g]) (by rw[g];rfl)));obtain⟨i,j,e,⟨l,C,B,v⟩,q⟩:=l;subst e;cases u with
 |cons r rr=>
  cases rr with
  |cons r' rr=>
   cases rr;obtain⟨t,rfl⟩:=r;obtain⟨t',rfl⟩:=r';exact call_range_2 (Lo O l C B v q)
def KS(l:TI)(g:TG)(tb:TS):TS:=λD σ H=>l σ H λJ q=>∃W:Nat->Nat->St->Hp->Prop,(∃m,W 0 m σ q)/\∀i m σ H,W i m σ H ->
 (J.stop i H/\D.nx σ H)\/(J.go i H/\∃N:St->Hp->Prop,(∀σ' c,N σ' c->∃h,h < m/\W (i+1) h σ' c)/\∀x c,J.yld i H x c->g x σ c λσ2 o=>tb { D with nx:=N,ct:=N,bk:=D.nx } σ2 o)
noncomputable def mI(fp:List av)(h:bQ):List (av×Obj):=fp.filterMap λb=>(h.get? b).map λo=>(b,o)
theorem G5{fp:List av}{h:bQ}{b:av}{o:Obj}(c:b∈fp)(e:h.get? b=some o):(b,o)∈mI fp h:=lP.mpr ⟨b,c,by rw[e];rfl⟩
theorem W_{fp:List av}{h:bQ}{p:av×Obj}(c:p∈mI fp h):p.1∈fp/\h.get? p.1=some p.2:=by
 obtain⟨b,g,e⟩:=lP.mp c;cases q:h.get? b with
 |none=>rw[q]at e;cases e
 |some o=>
  rw[q]at e;have l:(b,o)=p:=aN e;subst l;exact⟨g,q⟩
theorem Inv.pinned{c:List (av×Obj)}{σ:St}{H:Hp}{s:am}{fp:List av}(I:Inv X c σ H s)(u:∀b∈fp,pf X c H b)(q:∀b∈fp,∃o,s.heap.get? b=some o/\∀v,o.data≠.cell v):Inv X (c++mI fp s.heap) σ H s:=
 I.pins_of λp l=>(aB.mp l).elim (λz=>I.pin p (aY _ z)) λz=>by obtain⟨g,e⟩:=W_ z;obtain⟨E,C,B,_⟩:=u p.1 g;obtain⟨o,h,d⟩:=q p.1 g;rw[e]at h;cases h;exact⟨e,E,C,B,d⟩
theorem Inv.unpinned{c g:List (av×Obj)}{σ:St}{H:Hp}{s:am}(I:Inv X (c++g) σ H s):Inv X c σ H s:=I.pins_of λp h=>I.pin p (aY _ (aL _ h))
theorem Q_{iter:Expr}{L:List gM}{wi:TI}{g:TG}{tb:TS}{pos:Pos}(hp:sN (bc X.prog X.w) X.A X.env X.xe)(hc:X.calm=true)(hi:PI X tg iter wi)(hg:PG X tg g)(q:PSs X L tb)
  (hs:∀x,fv iter X.env x=pure x:=by intro _;rfl):PS X (.For tg iter L [] pos) (KS wi g tb):=by
 intro c s σ H D I h;refine wpAny_For (fS (hi c s σ H _ I h) λv s1 h1=>fS h1 λitv s2 h2=>?_) hs;obtain⟨it,fp,tn,J,H2,e,I2,T,st2,f2,W,⟨m0,w0⟩,Q⟩:=h2;subst e;have l:∀{E:Hp},(∀b∈fp,E b=none)->∀b∈fp,pf X c E b:=λhn b q=>⟨hn b q,(f2 b q).2⟩
 refine codeAny_forLoop_any (λn s'=>∃i σ' E,Inv X c σ' E s'/\tn i s'.heap/\(∀b∈fp,E b=none)/\W i n σ' E) ?_ m0 ⟨0,σ,H2,I2,st2,λb q=>(f2 b q).1,w0⟩
 rintro n s3 ⟨i,σ3,H3,I3,st3,fr3,w3⟩
 rcases Q i n σ3 H3 w3 with ⟨stop,qn⟩|⟨go,N,hN,step⟩
 ·refine im hp (fS (T.done X rfl rfl rfl hc i c s3 σ3 H3 X.xe I3 (l fr3) st3 stop) λr s4 g=>?_);obtain⟨hr,h⟩:=g;subst hr;exact t_ ⟨σ3,H3,h,qn⟩
 ·refine im hp (fS (T.item X rfl rfl rfl hc i c s3 σ3 H3 X.xe I3 (l fr3) st3 go) λr s4 g=>?_);obtain⟨u,hr,h4⟩:=g;subst hr;refine im hp (fS h4 λ_ L Y=>?_);obtain⟨x,Q,I5,r5,y5,O,I⟩:=Y;have J:=I5.pinned (l I) (T.obj _ _ O);refine im hp (fS (hg _ L σ3 Q x u _ J r5 (step x Q y5)) λ_ s6 U=>?_);obtain⟨σ6,H6,I6,q6⟩:=U;refine im hp (fS (q _ s6 σ6 H6 _ I6 q6) λf H G=>?_);have again:∀{σ7:St}{C:Hp},Inv X (c++mI fp L.heap) σ7 C H->N σ7 C->∃m,m < n/\∃i σ' E,Inv X c σ' E H/\tn i H.heap/\(∀b∈fp,E b=none)/\W i m σ' E:=λ{σ7 C}B h=>by obtain⟨m',hm,w7⟩:=hN σ7 C h;refine⟨m',hm,i+1,σ7,C,B.unpinned,T.keep _ _ _ O λb q o e=>(B.pin (b,o) (aY _ (aY _ (G5 q e)))).1,λb q=>?_,w7⟩;obtain⟨o,e,d⟩:=T.obj _ _ O b q;exact (B.pin (b,o) (aY _ (aY _ (G5 q e)))).2.1
  cases f with
  |next=>obtain⟨σ7,C,B,h⟩:=G;exact again B h
  |cont=>obtain⟨σ7,C,B,h⟩:=G;exact again B h
  |brk=>obtain⟨σ7,C,B,G⟩:=G;exact⟨σ7,C,B.unpinned,G⟩
  |ret v=>obtain⟨x7,σ7,C,B,r7,G⟩:=G;exact⟨x7,σ7,C,B.unpinned,r7,G⟩
end
abbrev R2:=V->V->Hp->VK->Prop
def OpR(X:Cx)(f:ah->ah->Sem ah)(r:R2):Prop:=
 ∀(ap:List (av×Obj))(s:am)(σ:St)(H:Hp)(x y:V)(v u:ah)(Q:VK),Inv X ap σ H s->RelV x v->RelV y u->r x y H Q ->
  aK (bc X.prog X.w) X.A (f v u) (EP X ap σ Q) X.xe s
def DU(X:Cx)(f:ah->Sem ah)(r:V->Hp->VK->Prop):Prop:=
 ∀(ap:List (av×Obj))(s:am)(σ:St)(H:Hp)(x:V)(v:ah)(Q:VK),Inv X ap σ H s->RelV x v->r x H Q ->
  aK (bc X.prog X.w) X.A (f v) (EP X ap σ Q) X.xe s
def CallR(X:Cx)(f:ah)(r:List V->Hp->VK->Prop):Prop:=
 ∀(ap:List (av×Obj))(s:am)(σ:St)(H:Hp)(xs:List V)(us:List ah)(Q:VK),Inv X ap σ H s->b9 xs us->r xs H Q ->
  aK (bc X.prog X.w) X.A (call f us) (EP X ap σ Q) X.xe s
def Jd(X:Cx)(r:V->Hp->(Bool->Hp->Prop)->Prop):Prop:=
 ∀(ap:List (av×Obj))(s:am)(σ:St)(H:Hp)(x:V)(v:ah)(Q:Bool->Hp->Prop),Inv X ap σ H s->RelV x v->r x H Q ->
  aK (bc X.prog X.w) X.A (truthy v) (TP X ap σ Q) X.xe s
noncomputable def DP(r:R2)(c tb:TE):TE:=λσ H Q=>c σ H λx h=>tb σ h λy g=>r x y g Q
noncomputable def Pp(r:V->Hp->VK->Prop)(c:TE):TE:=λσ H Q=>c σ H λx g=>r x g Q
noncomputable def rI(C:Int->Int->Prop)(g:Int->Int->V):R2:=λx y H Q=>∃i j,x=.int i/\y=.int j/\C i j/\Q (g i j) H
noncomputable def Bn(g:Int->Int->V):R2:=λx y H Q=>∃i j,x=.int i/\y=.int j/\Q (g i j) H
noncomputable def rU(g:Int->V):V->Hp->VK->Prop:=λx H Q=>∃i,x=.int i/\Q (g i) H
section
variable{X:Cx}{a b c:Expr}{ta tb tc:TE}{pos:Pos}
theorem AI(Y:PE X a ta)(U:PE X b tb){g:List (av×Obj)}{s:am}{σ:St}{H:Hp}{R:V->V->Hp->Prop}(I:Inv X g σ H s)
  (h:ta σ H λx C=>tb σ C λy l=>R x y l) {Q:ah->am->Prop}{f:ah->ah->Sem ah}
  (T:∀v u B x y l,Inv X g σ l B->RelV x v->RelV y u->R x y l->aK (bc X.prog X.w) X.A (f v u) Q X.xe B):
  aK (bc X.prog X.w) X.A (eval a X.env) (λv s₁=>aK (bc X.prog X.w) X.A (eval b X.env) (λu s₂=>aK (bc X.prog X.w) X.A (f v u) Q X.xe s₂) X.xe s₁) X.xe s:=by
 refine fS (Y g s σ H _ I h) λv E q=>?_;obtain⟨x,C,I1,J,O⟩:=q;refine fS (U g E σ C _ I1 O) λu B o=>?_;obtain⟨y,l,c,G,L⟩:=o;exact T v u B x y l c J G L
theorem WR{op:ph}{r:R2}(C:OpR X (fj op) r)(G:PE X a ta)(E:PE X b tb):PE X (.BinOp a op b pos) (DP r ta tb):=by intro g s σ H Q I h;exact wpAny_BinOp (AI G E I h λv u l x y L J B o q=>C g l σ L x y v u Q J B o q)
theorem N5{op:UnaryOp}{r:V->Hp->VK->Prop}(B:DU X (De op) r)(C:PE X a ta):PE X (.UnaryOp op a pos) (Pp r ta):=by intro g s σ H Q I h;exact UnaryOp_ (fS (C g s σ H _ I h) λv o l=>by obtain⟨x,G,E,q,u⟩:=l;exact B g o σ G x v Q E q u)
theorem GH{f:ah->ah->Sem ah}{C:Int->Int->Prop}{g:Int->Int->Int}
  (rule:∀(i j:Int)(t u:Tok)(s:am)(Q:ah->am->Prop)(E:ah->am->Prop),C i j->Q (.int (g i j) s.toks) { s with toks:=s.toks+1 }->aK (bc X.prog X.w) X.A (f (.int i t) (.int j u)) Q E s):
  OpR X f (rI C λi j=>.int (g i j)):=by
 intro l s σ H x y v u Q I B o h;obtain⟨i,j,rfl,rfl,G,q⟩:=h;obtain⟨t,rfl⟩:=B;obtain⟨t',rfl⟩:=o;exact rule i j t t' s _ _ G ⟨.int (g i j),H,I.tok _,⟨_,rfl⟩,q⟩
theorem E4{f:ah->ah->Sem ah}{g:Int->Int->Int}
  (rule:∀(i j:Int)(t u:Tok)(s:am)(Q:ah->am->Prop)(E:ah->am->Prop),Q (.int (g i j) s.toks) { s with toks:=s.toks+1 }->aK (bc X.prog X.w) X.A (f (.int i t) (.int j u)) Q E s):
  OpR X f (Bn λi j=>.int (g i j)):=by
 intro l s σ H x y v u Q I B o h;obtain⟨i,j,rfl,rfl,q⟩:=h;obtain⟨t,rfl⟩:=B;obtain⟨t',rfl⟩:=o;exact rule i j t t' s _ _ ⟨.int (g i j),H,I.tok _,⟨_,rfl⟩,q⟩
theorem Bj{f:ah->ah->Sem ah}{g:Int->Int->Bool}
  (rule:∀(i j:Int)(t u:Tok)(s:am)(Q:ah->am->Prop)(E:ah->am->Prop),Q (.bool (g i j)) s->aK (bc X.prog X.w) X.A (f (.int i t) (.int j u)) Q E s):
  OpR X f (Bn λi j=>.bl (g i j)):=by
 intro l s σ H x y v u Q I B o h;obtain⟨i,j,rfl,rfl,q⟩:=h;obtain⟨t,rfl⟩:=B;obtain⟨t',rfl⟩:=o;exact rule i j t t' s _ _ ⟨.bl (g i j),H,I,rfl,q⟩
noncomputable def II(i j:Int):Prop:=0 < j/\j < 1073741824
noncomputable def IE(i j:Int):Prop:=0<=j/\j<=1000000/\i.natAbs < 2^64
noncomputable def B_(i j:Int):Prop:=(-(2^64) < i/\i < 2^64)\/(-(2^64) < j/\j < 2^64)
theorem B_.ok{i j:Int}(h:B_ i j):IntMulOk i j:=by
 rcases h with ⟨l,g⟩|⟨l,g⟩
 ·exact .of_left (intBits_le_64 l g)
 ·exact .of_right (intBits_le_64 l g)
theorem YW:OpR X (fj .Add) (Bn λi j=>.int (i+j)):=E4 λ_ _ _ _ _ _ _ q=>add_int q
theorem QI:OpR X (fj .Sub) (Bn λi j=>.int (i-j)):=E4 λ_ _ _ _ _ _ _ q=>sub_int q
theorem U6:OpR X (fj .Mult) (rI B_ λi j=>.int (i*j)):=GH λ_ _ _ _ _ _ _ g q=>mul_int q g.ok
theorem Tt:OpR X (fj .FloorDiv) (rI II λi j=>.int (i / j)):=GH λi j _ _ _ _ _ g q=>by have l:(0:Int) < j:=g.1;have h:j < 1073741824:=g.2;exact floordiv_int (by ext) (by rw[Int.fdiv_eq_ediv_of_nonneg i (by ext)];exact q) (.inl (PyProof.noPylong_small (by ext)))
theorem Wi:OpR X (fj .Mod) (rI (λ_ j=>0 < j) λi j=>.int (i % j)):=GH λi j _ _ _ _ _ g q=>by have h:(0:Int) < j:=g;exact mod_int' (by ext) (by rw[Int.fmod_eq_emod_of_nonneg i (by ext)];exact q)
theorem VC:OpR X (fj .Pow) (rI IE λi j=>.int (i^j.toNat)):=GH λ_ _ _ _ _ _ _ g q=>pow_int_small g.1 g.2.1 g.2.2 q
theorem WA{f:ah->Sem ah}{g:Int->Int}
  (rule:∀(i:Int)(t:Tok)(s:am)(Q:ah->am->Prop)(E:ah->am->Prop),Q (.int (g i) s.toks) { s with toks:=s.toks+1 }->aK (bc X.prog X.w) X.A (f (.int i t)) Q E s):
  DU X f (rU λi=>.int (g i)):=by
 intro l s σ H x v Q I o h;obtain⟨i,rfl,q⟩:=h;obtain⟨t,rfl⟩:=o;exact rule i t s _ _ ⟨.int (g i),H,I.tok _,⟨_,rfl⟩,q⟩
theorem MT:DU X (De .USub) (rU λi=>.int (-i)):=WA λ_ _ _ _ _ q=>neg_int q
end
section
variable{X:Cx}{a b c:Expr}{ta tb tc:TE}{pos:Pos}
theorem Nd{g:List (av×Obj)}{σ:St}{H:Hp}{s:am}{Q:VK}{k h:Bool}(I:Inv X g σ H s)(q:Q (.bl k) H)(e:k=h):EP X g σ Q (.bool h) s:=by subst e;exact⟨.bl k,H,I,rfl,q⟩
theorem Tc:OpR X (dg .Lt) (Bn λi j=>.bl (decide (i < j))):=Bj λ_ _ _ _ _ _ _ q=>lt_int q
theorem W7:OpR X (dg .Gt) (Bn λi j=>.bl (decide (j < i))):=Bj λ_ _ _ _ _ _ _ q=>gt_int q
theorem Xs:OpR X (dg .GtE) (Bn λi j=>.bl (decide (j<=i))):=Bj λ_ _ _ _ _ _ _ q=>ge_int q
theorem PU:OpR X (dg .Is) (λx y H Q=>y=.non/\Q (.bl (decide (x=.non))) H):=by
 intro l s σ H x y v u Q I g o h;obtain⟨rfl,q⟩:=h;cases o;refine is_none_gen (Nd I q ?_);cases x<;>first
  | (cases g;rfl)
  | (obtain⟨t,rfl⟩:=g;rfl)
theorem YK:OpR X (dg .IsNot) (λx y H Q=>y=.non/\Q (.bl (!decide (x=.non))) H):=by
 intro l s σ H x y v u Q I g o h;obtain⟨rfl,q⟩:=h;cases o;refine isnot_none_gen (Nd I q ?_);cases x<;>first
  | (cases g;rfl)
  | (obtain⟨t,rfl⟩:=g;rfl)
theorem Y6(b:Expr){op:uJ}(h:op≠.In:=by decide)(g:op≠.NotIn:=by decide):gO op b=false:=by
 have o:(op == uJ.In)=false:=by cases op<;>first|rfl|exact ba rfl h
 have l:(op == uJ.NotIn)=false:=by cases op<;>first|rfl|exact ba rfl g
 cases b<;>simp[gO,o,l]
theorem OQ{op:uJ}{r:R2}(C:OpR X (dg op) r)(J:PE X a ta)(G:PE X b tb)(E:gO op b=false):PE X (.Compare a [op] [b] pos) (DP r ta tb):=by intro g s σ H Q I h;exact wpAny_Compare1 (AI J G I h λv u l x y O L B o q=>C g l σ O x y v u Q L B o q) E
noncomputable def FM(t:TE):TT:=λσ H Q=>t σ H λx g=>∃k,x=.bl k/\Q k g
theorem MP{op:uJ}{r:R2}(L:OpR X (dg op) r)(U:PE X a ta)(T:PE X b tb)(O:gO op b=false):PT X (.Compare a [op] [b] pos) (FM (DP r ta tb)):=by
 intro g s σ H Q I h;refine wpAny_isTrue_Compare1 (fS (U g s σ H _ I h) λv o ⟨x,H1,I1,C,J⟩=>fS (T g o σ H1 _ I1 J) λu l ⟨y,H2,I2,B,G⟩=>
  fS (L g l σ H2 x y v u _ I2 C B G) λc s3 ⟨z,H3,Y,q,k,e,E⟩=>?_) O
 subst e;cases q;exact fu ⟨H3,Y,E⟩
def Cf(K:ak)(x:V)(H:Hp)(k:Bool):Prop:=
 match x with
 | .non=>k=false
 | .bl b=>k=b
 | .int i=>k=(i != 0)
 | .str y=>y.length<=sizeLine/\k=((y.length:Int) != 0)
 | .byt y=>y.size<=sizeLine/\k=((y.size:Int) != 0)
 | .ref p=>(∃xs,gD K H p xs/\k = !xs.isEmpty)\/(∃xs,iR K H p xs/\k = !xs.isEmpty)\/∃g,H p=some (.dK g)/\k = !g.isEmpty
 |_=>False
theorem Wg{κ:Type}{g:List (κ×V)}{h:List (κ×ah)}(r:KV g h):(!h.isEmpty) = !g.isEmpty:=by cases r<;>rfl
theorem LD{xs:List V}{its:List ah}(r:b9 xs its):(!its.toArray.isEmpty) = !xs.isEmpty:=by cases r<;>simp
theorem Ah:(sizeLine:Nat) < 2^63:=by rw[lH];decide
theorem Tz:Jd X (λx H Q=>∃k,Cf X.K x H k/\Q k H):=by
 intro G s σ H x v Q I u h;obtain⟨k,e,q⟩:=h;have T:=Ah;have O:sizeLine=16777216:=lH;cases x with
 |non=>
  cases u;have g:k=false:=e;subst g;exact truthy_none ⟨H,I,q⟩
 |bl b=>
  cases u;have g:k=b:=e;subst g;exact fu ⟨H,I,q⟩
 |int i=>
  obtain⟨t,rfl⟩:=u;have g:k=(i != 0):=e;subst g;exact PySem.P.truthy_int ⟨H,I,q⟩
 |str y=>
  obtain⟨t,rfl⟩:=u;obtain⟨J,g⟩:y.length<=sizeLine/\k=((y.length:Int) != 0):=e;subst g;exact PySem.P.truthy_str (by ext) ⟨H,I.tok _,q⟩
 |byt y=>
  obtain⟨t,rfl⟩:=u;obtain⟨J,g⟩:y.size<=sizeLine/\k=((y.size:Int) != 0):=e;subst g;exact PySem.W.truthy_bytes (by ext) ⟨H,I.tok _,q⟩
 |ref p=>
  cases u;have g:(∃xs,gD X.K H p xs/\k = !xs.isEmpty)\/(∃xs,iR X.K H p xs/\k = !xs.isEmpty)\/∃l,H p=some (.dK l)/\k = !l.isEmpty:=e;rcases g with ⟨xs,B,g⟩|⟨xs,B,g⟩|⟨l,B,g⟩
  ·subst g;obtain⟨its,r,E,hz⟩:=I.list B;have o:=r.length;exact wpAny_truthy_list E.isList (by simp only[aH];ext) ⟨H,I.tok _,by rw[LD r];exact q⟩
  ·subst g;obtain⟨its,r,E,hz⟩:=I.tuple B;have o:=r.length;exact truthy_tuple E (by simp only[aH];ext) ⟨H,I.tok _,by rw[LD r];exact q⟩
  ·subst g;obtain⟨hz,L,C,r,m⟩:l.length<=sizeLine/\(p == cR)=false/\∃C,KV l C/\s.heap.DictOf (fX X.prog X.w) p C:=I.hok p _ B;have o:l.length=C.length:=dj r;exact wpAny_truthy_dict L m (by ext) ⟨H,I.tok _,by rw[Wg r];exact q⟩
 |_=>exact (show False from e).elim
theorem UG(E:PE X a ta)(C:∀whole,isTrue a X.env whole=(do let v <- whole; xi a.pos; lq [v] (truthy v))):
  PT X a (λσ H Q=>ta σ H λx o=>∃k,Cf X.K x o k/\Q k o):=by
 intro g s σ H Q I h;exact isTrue_plain (fS (E g s σ H _ I h) λv q l=>by obtain⟨x,J,G,u,B⟩:=l;exact Tz g q σ J x v Q G u B) (C _)
theorem Yj:OpR X (fj .Add) (λx y H Q=>∃i j,x=.str i/\y=.str j/\i.length+j.length<=sizeLine/\Q (.str (i++j)) H):=by intro g s σ H x y v u Q I o l h;obtain⟨i,j,rfl,rfl,hz,q⟩:=h;obtain⟨t,rfl⟩:=o;obtain⟨t',rfl⟩:=l;exact add_str (λt' B=>⟨.str (i++j),H,I.tok _,⟨_,rfl⟩,q⟩) hz
theorem uI{x:V}{g:List ah}(r:b9 [x] g):∃u,g=[u]/\RelV x u:=by
 cases r with
 |cons r1 r2=>cases r2;exact⟨_,rfl,r1⟩
theorem Jb{x y:V}{h:List ah}(r:b9 [x,y] h):∃u g,h=[u,g]/\RelV x u/\RelV y g:=by
 cases r with
 |cons r1 r2=>
  cases r2 with
  |cons r3 r4=>cases r4;exact⟨_,_,rfl,r1,r3⟩
theorem TF(o:X.calm=true):CallR X (.builtin "min") (λxs H Q=>∃i j,xs=[.int i,.int j]/\Q (.int (if j < i then j else i)) H):=by
 intro l s σ H xs B Q I r h;obtain⟨i,j,rfl,q⟩:=h;obtain⟨u,v,rfl,⟨t,rfl⟩,⟨t',rfl⟩⟩:=Jb r;refine min_two_ints (I.ok.hd o) λh' C k=>⟨_,H,I.kept k,?_,q⟩
 by_cases g:j < i
 ·rw[aE g,aE g];exact⟨_,rfl⟩
 ·rw[aA g,aA g];exact⟨_,rfl⟩
theorem Uf:CallR X (.type "int") (λxs H Q=>(∃i,xs=[.int i]/\Q (.int i) H)\/∃k,xs=[.bl k]/\Q (.int (if k then 1 else 0)) H):=by
 intro g s σ H xs o Q I r h;rcases h with ⟨i,rfl,q⟩|⟨k,rfl,q⟩
 ·obtain⟨u,rfl,t,rfl⟩:=uI r;exact call_int_int ⟨.int i,H,I,⟨_,rfl⟩,q⟩
 ·obtain⟨u,rfl,l⟩:=uI r;cases l;exact call_int_bool ⟨.int (if k then 1 else 0),H,I.tok _,⟨_,rfl⟩,q⟩
end
structure A6(h:bQ)(x dx C:av)(mA:Str->Option ah):Prop where
 obj:h.get? x=some (pZ C dx)
 ns:h.Ns1 dx mA
 ne:dx≠x
theorem WQ{h:bQ}{v:av}{l:Str->Option ah}(n:h.Ns1 v l):∃g,h.get? v=some g/\∀name,qN name g=some (l name):=by
 obtain⟨o,u,ep,C,hd,G,_,E⟩:=n;refine⟨o,C,λname=>?_⟩;have e:=E name;unfold nsFind findBy at e;rw[<- Array.find?_toList]at e;unfold qN;rw[hd];dsimp only;split
 ·rename_i y q;rw[q]at e;exact cz some e
 ·rename_i q;rw[q]at e;have a:u.toList.any (·.refKey)=false:=by rw[pI];intro y B;obtain⟨z,t,c⟩:=G y (Array.mem_toList_iff.mp B);simp[ky.refKey,c]
  have H:¬ u.toList.any (·.refKey)=true:=by rw[a];exact bo
  rw[aA H];exact cz some e
theorem A6.look{h:bQ}{x l C:av}{g:Str->Option ah}(I:A6 h x l C g):∃c,PySem.W.InstAt h x (pZ C l) C (some c)/\∀name,qN name c=some (g name):=
 let ⟨c,ho,hl⟩:=WQ I.ns
 ⟨c,⟨I.obj,rfl,rfl,ho⟩,hl⟩
theorem o7.some_of{v:V}{o:Option ah}(r:o7 (some v) o):∃u,o=some u/\RelV v u:=by
 cases o with
 |none=>exact (show False from r).elim
 |some u=>exact⟨u,rfl,r⟩
section
variable{P:Program}{w:bG}{H H':Hp}{h h':bQ}{a C dx:av}{fs ft:List (Str×V)}
theorem Qo(g:oq P w H h)(e:H a=some (.ins C dx fs)):∃c,A6 h a dx C c/\(∀f,o7 (fs.lookup f) (c f))/\Cn c (fs.map (·.1))/\fs.length<=1000/\H dx=some (.own a):=by
 obtain⟨d,z,o,l,c,n,r,q⟩:=(show eT P w H h a (.ins C dx fs) from g a _ e)
 exact⟨c,⟨l,n,o⟩,r,q,z,d⟩
end
structure J1(K:ak)(C:av):Prop where
 pg:vR K C Str.empty=true
 hd:PySem.W.hasDictIn K C=true
 po:PySem.W.plainOver K C=true
 sa:xk K (.ref C) "__setattr__"=some (some (.builtin "object.__setattr__"))
theorem J1.get{K:ak}{C:av}(c:J1 K C)(f:Str):vR K C f=true:=c.pg
section
variable{X:Cx}{o e value:Expr}{f:Str}{pos eg ez:Pos}{ta tv:TE}
noncomputable def Ew:V->V->Hp->VK->Prop:=λx y H Q=>∃i j,x=.int i/\y=.int j/\Q (.int (i-j)) H
end
section
variable{X:Cx}{ap:List (av×Obj)}{σ:St}{H:Hp}{s:am}{A:bB}{E:ah->am->Prop}{Q:ah->am->Prop}{c:ah}{b:Bool}
inductive pT(K:ak)(H:Hp):V->ah->Prop where
 |non:pT K H .non (.type "NoneType")
 |bl (x:Bool):pT K H (.bl x) (.type "bool")
 |int (i:Int):pT K H (.int i) (.type "int")
 |str (x:Str):pT K H (.str x) (.type "str")
 |flt (x:UInt64):pT K H (.flt x) (.type "float")
 |lst {a:av}{xs:List V} (e:H a=some (.lst xs)):pT K H (.ref a) (.type "list")
 |frz {a:av}{o:Obj}{xs:List V} (e:H a=some (.frz o (.lst xs))):pT K H (.ref a) (.type "list")
 |tup {a:av}{xs:List V} (e:H a=some (.tup xs)):pT K H (.ref a) (.type "tuple")
 |dK {a:av}{cp:List (Key×V)} (e:H a=some (.dK cp)):pT K H (.ref a) (.type "dict")
 |dT {a:av}{cp:List (List Key×V)} (e:H a=some (.dT cp)):pT K H (.ref a) (.type "dict")
 |ins {a C dx : av} {fs : List (Str×V)} (e : H a = some (.ins C dx fs)) (cl : J1 K C) (ha : xk K (.ref C) "__class__" = some (some (.builtin "object.__class__")))
   (hn:PySem.W.specialIn K (.builtin "object.__class__") "__get__"=some (some (.builtin "getset_descriptor.__get__"))) (htk:PySem.W.takesIn K (.builtin "object.__class__")=some true)
   (hm:PySem.W.mroIn K C (.type "object")=some true):pT K H (.ref a) (.ref C)
theorem GI{x:V}{u t:ah}(I:Inv X ap σ H s)(g:RelV x u)(ty:pT X.K H x t)(e:gq X.K t c=some b)(h:∀B,Q (.bool b) { s with toks:=B }):
  aK (bc X.prog X.w) A (call (.builtin "isinstance") [u,c]) Q E s:=by
 cases ty with
 |non=>cases (show u=bV from g);exact cU PySem.W.kitx_none I.kIn da e nofun h
 |bl y=>cases (show u=cS y from g);exact cU PySem.W.kitx_bool I.kIn da e nofun h
 |int i=>obtain⟨t,q⟩:=(show ∃t,u=gA i t from g);cases q;exact cU PySem.W.kitx_int I.kIn da e nofun h
 |str y=>obtain⟨t,q⟩:=(show ∃t,u=iT y t from g);cases q;exact cU PySem.W.kitx_str I.kIn da e nofun h
 |flt y=>obtain⟨t,q⟩:=(show ∃t,u=Db y t from g);cases q;exact cU PySem.W.kitx_float I.kIn da e nofun h
 |@lst a xs ea=>
  cases (show u=bj a from g);obtain⟨_,_,n,_,l⟩:=(show eT X.prog X.w H s.heap a (.lst xs) from I.hok a _ ea)
  exact cU oQ I.kIn ⟨_,l,rfl⟩ e nofun h
 |@frz a ob xs ea=>
  cases (show u=bj a from g);obtain⟨_,_,_,n,_,l⟩:=(show eT X.prog X.w H s.heap a (.frz ob (.lst xs)) from I.hok a _ ea)
  exact cU oQ I.kIn ⟨_,l,rfl⟩ e nofun h
 |@tup a xs ea=>
  cases (show u=bj a from g);obtain⟨_,_,_,p⟩:=(show eT X.prog X.w H s.heap a (.tup xs) from I.hok a _ ea)
  obtain⟨o,l,v,_⟩:=p;exact cU uK I.kIn ⟨o,l,v⟩ e nofun h
 |@dK a cp ea=>
  cases (show u=bj a from g);obtain⟨_,_,L,_,p⟩:=(show eT X.prog X.w H s.heap a (.dK cp) from I.hok a _ ea)
  obtain⟨o,G,ep,l,v,_⟩:=p;exact cU vc I.kIn ⟨o,l,v.1⟩ e nofun h
 |@dT a cp ea=>
  cases (show u=bj a from g);obtain⟨_,_,xs,_,o,G,ep,l,v,_⟩:=(show eT X.prog X.w H s.heap a (.dT cp) from I.hok a _ ea)
  exact cU vc I.kIn ⟨o,l,v.1⟩ e nofun h
 |@ins a C dx fs ea cl ha hn htk hm=>
  cases (show u=bj a from g);obtain⟨U,O,_⟩:=Qo I.hok ea;obtain⟨T,J,_⟩:=O.look;exact cU (PySem.W.kitx_own (cl.get _) cl.hd ha hn htk hm) I.kIn J e nofun h
end
structure kA(k:Nat)(A:bB):Prop where
 hd:A.handled=none
 dp:A.depth+3*k+5 < recursionLimit
 un:A.units+16*k+200 < cC
theorem kA.mono{j k:Nat}{A:bB}(r:kA k A)(h:j<=k):kA j A:=⟨r.hd,by have:=r.dp;ext,by have:=r.un;ext⟩
theorem kA.deeper{k:Nat}{A:bB}(r:kA (k+1) A)(env:Env):kA k (A.deeper env):=
 ⟨r.hd,by have:=r.dp;show A.depth+1+3*k+5 < _;ext,by have:=r.un;show A.units+3+16*k+200 < _;ext⟩
theorem kA.depth{k:Nat}{A:bB}(r:kA k A):A.depth < recursionLimit:=by have:=r.dp;ext
theorem kA.units{k:Nat}{A:bB}(r:kA k A):A.units+64 < cC:=by have:=r.un;ext
noncomputable def K7:TA:=λ_ H Q=>Q [] H
noncomputable def FH(g:TE)(c:TA):TA:=λσ H Q=>g σ H λx l=>c σ l λxs h=>Q (x::xs) h
section
variable{X:Cx}{e:Expr}{es:List Expr}{te:TE}{t:TA}{pos:Pos}
theorem u_:PA X [] K7:=λ_ _ _ _ H Q I h=>l_ ⟨[],H,I,.nil,h⟩
theorem rX(J:PE X e te)(G:PA X es t)(E:aF (e::es) X.env=(false,eval e X.env)::aF es X.env:=by rfl):PA X (e::es) (FH te t):=by
 intro pos c s σ H Q I h;rw[E]
 show aK _ _ (xh ((false,eval e X.env)::eI pos (aF es X.env))) _ _ s;refine lI (fS (J c s σ H _ I h) λu o l=>?_);obtain⟨x,U,O,v,C⟩:=l;exact fS (G pos c o σ U _ O C) λY s2 g=>by obtain⟨xs,T,L,q,B⟩:=g;exact⟨x::xs,T,L,.cons v q,B⟩
def Jj(t:TA):TE:=λσ H Q=>t σ H λxs c=>xs.length<=sizeLine/\∀p,c p=none->Q (.ref p) (fq c p (.tup xs))
def IG(t:TA):TE:=λσ H Q=>t σ H λxs c=>xs.length<=sizeLine/\∀p,c p=none->Q (.ref p) (fq c p (.lst xs))
theorem S_{v}(h:PA X es t):PE X (.Tuple es v pos) (Jj t):=by intro c s σ H Q I C;refine wpAny_Tuple_spliced (fS (h pos c s σ H _ I C) λB g ⟨xs,o,l,r,z,q⟩=>⟨by rw[<- r.length];exact z,?_⟩);have E:o g.heap.objs.size=none:=l.hok.fresh (ar _);refine⟨.ref g.heap.objs.size,fq o g.heap.objs.size (.tup xs),l.laid (t':=g.toks) (λb u e=>al _ e) (ar _) ?_,rfl,q _ E⟩;exact⟨z,B,r,⟨_,aC _ rfl,rfl,⟨_,rfl⟩,rfl⟩⟩
theorem Xn(h:PA X es t):PE X (.List es pos) (IG t):=by intro c s σ H Q I B;refine wpAny_List_spliced (fS (h pos c s σ H _ I B) λv g ⟨xs,o,l,r,z,q⟩=>⟨by rw[<- r.length];exact z,?_⟩);have C:o g.heap.objs.size=none:=l.hok.fresh (ar _);refine⟨.ref g.heap.objs.size,fq o g.heap.objs.size (.lst xs),l.laid (t':=g.toks) (λb u e=>al _ e) (ar _) ?_,rfl,q _ C⟩;exact⟨z,v,0,r,aC _ rfl⟩
end
abbrev Sp:=List V->Hp->VK->XK->Prop
abbrev vA:=List Env->Hp->am->XK->ah->am->Prop
structure yB(P:Program)(w:bG)(K:ak)(mg:Str->Option ah)(base:bQ)(A:bB)(outer:List Env)(s:am)(H:Hp):Prop where
 frames:A.frames=some outer
 mod:Mod K mg base
 bs:∀b o,base.get? b=some o->s.heap.get? b=some o/\H b=none
 bsz:base.objs.size<=s.heap.objs.size
 funs:s.heap.FunFrames base outer
 frf:∀b∈fN outer,H b=none
 hok:oq P w H s.heap
 bare:n9 s.gens
def CE(outer:List Env)(P:Program)(w:bG)(H:Hp)(s:am)(Q:VK)(u:ah)(c:am):Prop:=
 ∃v g,c.os=s.os/\n9 c.gens/\Un (fN outer) [] H g s.heap c.heap/\oq P w g c.heap/\RelV v u/\Q v g
def CR(CX:vA)(outer:List Env)(P:Program)(w:bG)(H:Hp)(s:am)(Q:VK)(E:XK)(r:Result)(c:am):Prop:=
 match r with
 | .ok (.ret u)=>CE outer P w H s Q u c
 | .ok _=>False
 | .error e=>CX outer H s E e c
structure mY(P:Program)(w:bG)(K:ak)(mg:Str->Option ah)(base:bQ)(CX:vA)(k:Nat)(f:av)(fd:dJ)(ps:List Str)(sp:Sp):Prop where
 len:∀vs H Q E,sp vs H Q E->vs.length=ps.length
 run:∀(A:bB)(outer:List Env)(s:am)(H:Hp)(args:Args)(us:List ah)(vs:List V)(Q:VK)(E:XK),kA k A->yB P w K mg base A outer s H->rJ s fd args (ps.zip us)->b9 vs us->sp vs H Q E ->
  ml (bc P w) A (.call (.ref f) args) (CR CX outer P w H s Q E) s
section
variable{X:Cx}{ap:List (av×Obj)}{σ:St}{H:Hp}{s s':am}
theorem Inv.env0(I:Inv X ap σ H s):yB X.prog X.w X.K X.mg X.base X.A X.stack s H:=
 ⟨I.ok.frames,I.ok.mod,I.bs,bW I.ok.bsz I.sz,I.stack,I.stkFree,I.hok,I.bare⟩
theorem Inv.after{Q:VK}{u:ah}(I:Inv X ap σ H s)(h:CE X.stack X.prog X.w H s Q u s'):EP X ap σ Q u s':=by obtain⟨v,B,os,c,un,o,r,q⟩:=h;obtain⟨hh,g,d,t,l⟩:=s';obtain rfl:l=s.os:=os;exact⟨v,B,I.call (h':=hh) (g':=g) (d':=d) (t':=t) (ch:=[]) un o c (λb z=>ba z (by simp)),r,q⟩
end
noncomputable def DV(sp:Sp)(c:List V)(E:XK)(t:TA):TE:=λσ H Q=>t σ H λg h=>sp (g++c) h Q E
noncomputable def Binds(K:ak)(h:dJ)(g:List Str)(ds:List ah):Prop:=
 ∀(s:am)(c:List ah),K.In s.heap->(c++ds).length=g.length->rJ s h ⟨c,[]⟩ (g.zip (c++ds))
theorem Binds.all{K:ak}{o:dJ}{g:List Str}(h:∀c:List ah,c.length=g.length->rK o ⟨c,[]⟩=pure (g.zip c)):Binds K o g []:=λs c _ l=>by rw[bn]at l ⊢;exact .of_eq (h c l)
def sI(CX:vA)(X:Cx)(E:XK):Prop:=∀(ap:List (av×Obj))(σ:St)(H:Hp)(s:am)(e:ah)(s':am),Inv X ap σ H s->CX X.stack H s E e s'->X.xe e s'
section
variable{X:Cx}{CX:vA}{k:Nat}{f C:av}{fd:dJ}{ps:List Str}{sp:Sp}{eB:List V}{ds:List ah}{E:XK}{x m:Str}{p pos dr:Pos}{e o:Expr}{es:List Expr}{ta:TE}{t:TA}
theorem SJ{c:List (av×Obj)}{σ:St}{H:Hp}{s:am}{Q:VK}{g:List ah}{q:List V}(F:mY X.prog X.w X.K X.mg X.base CX k f fd ps sp)(J:kA k X.A)(O:Binds X.K fd ps ds)(hd:b9 eB ds)(G:sI CX X E)
  (I:Inv X c σ H s) (r:b9 q g) (h:sp (q++eB) H Q E):aK (bc X.prog X.w) X.A (call (.ref f) g) (EP X c σ Q) X.xe s:=by
 have v:b9 (q++eB) (g++ds):=r.append hd;have L:(g++ds).length=ps.length:=by rw[<- v.length];exact F.len _ _ _ _ h
 refine wpAny_call (xl (F.run X.A X.stack s H ⟨g,[]⟩ (g++ds) (q++eB) Q E J I.env0 (O s g I.kIn L) v h) λr B l=>?_);cases r with
 |error e=>exact G c σ H s e B I l
 |ok fl=>
  cases fl with
  |ret u=>exact I.after l
  |next=>exact ik l
  |brk=>exact ik l
  |cont=>exact ik l
theorem Ly(F:mY X.prog X.w X.K X.mg X.base CX k f fd ps sp)(B:kA k X.A)(L:Gl X x)(G:X.mg x=some (.ref f))(J:dG X.K (.ref f)=true)(T:Binds X.K fd ps ds)(hd:b9 eB ds)(v:sI CX X E)
  (U:PA X (e::es) t) (l:(x == ("__debug__":Str))=false:=by decide) (O:aF (e::es) X.env=(false,eval e X.env)::aF es X.env:=by rfl) (g:(eI pos (aF es X.env)).any (·.1)=false:=by rfl):
  PE X (.Call (.Name x p) (e::es) [] pos) (DV sp eB E t):=by
 intro c s σ H Q I h;refine h9 (RI I L G ?_ l);refine PySem.W.callWith_K (h₀:=X.base) I.ok.mod.kin J (fS (U pos c s σ H _ I h) λo C ⟨Y,H1,u,r,q⟩=>⟨u.kIn,?_⟩) O g;exact SJ F B T hd v u r q
end
section
variable{X:Cx}{CX:vA}{k:Nat}{f C:av}{fd:dJ}{ps ks:List Str}{sp:Sp}{E:XK}{x m:Str}{p pos dr fg:Pos}{e o:Expr}{es:List Expr}{fy:List ia}{te ta:TE}{t tk:TA}{nm:Option Str}
variable{g:List ah->List ah->List ah}{gV:List V->List V->List V}
end
structure lL(N P:List Str)(sc:eO):Prop where
 kind:sc.kind=.function
 co:sc.isCoroutine=false
 gen:sc.isGenerator=false
 nd:N.Nodup
 pre:N.take P.length=P
 par:∀x∈P,sc.names.lookup x=some .local\/sc.names.lookup x=some .cell
 nofree:∀y∈sc.names,y.2≠.free
theorem L7{kindOf:Str->Option fD}{x:Str}:∀{binds:List (Str×ah)}{m:Str->Option ah},(∀v,(x,v)∉binds)->wg kindOf binds m x=m x
 |[],_,_=>rfl
 | (n,v)::r,m,h=>by
  unfold wg;rw[L7 λw c=>h w (bI _ c)];split
  ·have:x≠n:=by rintro rfl;exact h v cM
   simp[this]
  ·rfl
theorem Lv{kindOf:Str->Option fD}{x:Str}:∀{binds:List (Str×ah)}{m:Str->Option ah},(∀v,(x,v)∉binds)->wj kindOf binds m x=m x
 |[],_,_=>rfl
 | (n,v)::r,m,h=>by
  unfold wj;rw[Lv λw c=>h w (bI _ c)];split
  ·rfl
  ·have:x≠n:=by rintro rfl;exact h v cM
   simp[this]
theorem Me{kindOf:Str->Option fD}{x:Str}{v:ah}: ∀{P:List Str}{c:List ah}{i:Nat}{m:Str->Option ah},P.Nodup->P[i]?=some x->c[i]?=some v->kindOf x=some .local ->
  wg kindOf (P.zip c) m x=some v
 |[],_,_,_,_,h,_,_=>by simp at h
 |_::_,[],_,_,_,_,h,_=>by simp at h
 |p::P,w::c,0,m,nd,h1,h2,hk=>by
  simp at h1 h2;subst h1;subst h2
  show wg kindOf ((p,w)::P.zip c) m p=_;unfold wg;rw[L7 λv g=>(fO.mp nd).1 (qW g).1,aE hk];simp
 |p::P,w::c,i+1,m,nd,h1,h2,hk=>by show wg kindOf ((p,w)::P.zip c) m x=_;unfold wg;exact Me (i:=i) (fO.mp nd).2 (by simpa using h1) (by simpa using h2) hk
theorem Pf{kindOf:Str->Option fD}{x:Str}{v:ah}: ∀{P:List Str}{c:List ah}{i:Nat}{m:Str->Option ah},P.Nodup->P[i]?=some x->c[i]?=some v->kindOf x≠some .local ->
  wj kindOf (P.zip c) m x=some v
 |[],_,_,_,_,h,_,_=>by simp at h
 |_::_,[],_,_,_,_,h,_=>by simp at h
 |p::P,w::c,0,m,nd,h1,h2,hk=>by
  simp at h1 h2;subst h1;subst h2
  show wj kindOf ((p,w)::P.zip c) m p=_;unfold wj;rw[Lv λv g=>(fO.mp nd).1 (qW g).1,aA hk];simp
 |p::P,w::c,i+1,m,nd,h1,h2,hk=>by show wj kindOf ((p,w)::P.zip c) m x=_;unfold wj;exact Pf (i:=i) (fO.mp nd).2 (by simpa using h1) (by simpa using h2) hk
noncomputable def start(N:List Str)(c:List V):St:=c.map some++aZ (N.length-c.length) none
noncomputable def rC(CX:vA)(P:Program)(w:bG)(K:ak)(mg:Str->Option ah)(base:bQ)(N:List Str)(qual:Str)(scope:eO)(f:av)(g:ah)(A:bB)(outer:List Env)(s:am)(H:Hp)(E:XK):Cx where
 prog:=P
 w:=w
 K:=K
 mg:=mg
 base:=base
 A:=A.deeper (np qual scope s.heap.objs.size f g)
 N:=N
 s₀:=s
 H₀:=H
 env:=np qual scope s.heap.objs.size f g
 outer:=outer
 stack:=np qual scope s.heap.objs.size f g::outer
 ex:=[]
 calm:=true
 fn:=λ_=>true
 pn:=[]
 xe:=λe h=>aK (bc P w) (A.deeper (np qual scope s.heap.objs.size f g)) (leaving (np qual scope s.heap.objs.size f g) e) (λ_ c=>CX outer H s E e c) (λl c=>CX outer H s E l c) h
theorem Ng{sc:eO}{n:Nat}{x:Str}(h:sc.names.lookup x=some .cell):∃c,(dH n sc.names []).lookup x=some c:=by have q:=mK sc.names n [] (.inl h);exact ma.mp q
theorem VW{CX:vA}{P:Program}{w:bG}{K:ak}{mg:Str->Option ah}{base:bQ}{N B:List Str}{qual:Str}{scope:eO}{f:av}{Q:ah}{A:bB}{outer:List Env}{s U:am}{H:Hp}{E:XK}{T:List ah}{o:List V}
  (S:lL N B scope) (hd:A.handled=none) (l:yB P w K mg base A outer s H) (hl:o.length=B.length) (r:b9 o T)
  (x:InCallC s s.heap.objs.size (wg (np qual scope s.heap.objs.size f Q).kindOf (B.zip T) λ_=>none) (dH (s.heap.objs.size+1) scope.names []) (wj (np qual scope s.heap.objs.size f Q).kindOf (B.zip T) λ_=>none) U):
  Inv (rC CX P w K mg base N qual scope f Q A outer s H E) [] (start N o) H U:=by
 have hpl:B.length<=N.length:=by have:=cz eU S.pre;rw[bE]at this;ext
 obtain⟨O,tk,rfl,Y⟩:=x.done;have C:∀b:av,b∉(rC CX P w K mg base N qual scope f Q A outer s H E).ex:=λb z=>ba (show b∈([]:List av) from z) (by simp);refine⟨⟨l.mod,S.kind,rfl,rfl,ar _,λy z c O g=>?_,λy G=>?_,λy c _ h=>?_,λ_=>hd,bB.frames_deeper l.frames,.inr ⟨rfl,rfl⟩,λb z=>ba z (C b),l.bs,l.bsz,λb _ _=>C b,λb z=>ba z (C b),l.funs,l.frf⟩,
  rfl,l.bare,Un.kept Y,⟨_,x.toInCall.ns,λi y v O g h3=>?_⟩,λy c h=>⟨_,x.cell y c h⟩,l.hok.fresh (ar _),λy c h=>?_,λp J=>ba (show p∈([]:List (av×Obj)) from J) (by simp),l.hok.kept Y,?_⟩
 ·exact name_of_addr x.apart (eA O) (eA g)
 ·have G:scope.names.lookup y=some .cell\/scope.names.lookup y=some .free:=G;rcases G with G|G
  ·exact Ng G
  ·exact ba rfl (S.nofree _ (eA G))
 ·exact p9 (x.above y c (eA h))
 ·have L : i < o.length := by
    unfold start at g;by_cases L:i < o.length
    ·exact L
    ·rw[aW (by simpa using L)]at g;rw[gE]at g;split at g<;>cases g
  have l:o[i]?=some v:=by
   unfold start at g;rw[aw (by simpa using L),aj]at g;cases e:o[i]? with
   |none=>rw[e]at g;cases g
   |some a=>rw[e]at g;cases g;rfl
  obtain⟨u,hu,h⟩:=r.get l;have J:B[i]?=some y:=by rw[<- S.pre,cX (by ext)];exact O
  have I:B.Nodup:=by rw[<- S.pre];exact S.nd.sublist (xm _ _)
  refine⟨u,h,?_⟩;rcases S.par y (ay J) with k|k
  ·exact .inl ⟨k,Me I J hu k⟩
  ·obtain⟨c,e⟩:=Ng (n:=s.heap.objs.size+1) k;refine .inr ⟨.inl k,c,e,?_⟩;have q:=x.cell y c e;rw[Pf I J hu (by show scope.names.lookup y≠_;rw[k];decide)]at q;exact q
 ·exact l.hok.fresh (p9 (x.above y c (eA h)))
 ·unfold start
  show _=N.length;rw[au,ae,eQ];ext
theorem NM{CX:vA}{P:Program}{w:bG}{K:ak}{mg:Str->Option ah}{base:bQ}{k:Nat}{f:av}{name qual:Str}{g:Arguments}{h:List gM}{scope:eO}{dV kV Y pm c ct oc:ah}{an od:Option av}
  {osl:Array (Option ah)}{N ps:List Str}{sp:Sp} (lk:K.lookup f=some ⟨oc,od,.func (c_ name qual g h scope dV kV Y pm an c ct),osl⟩) (hcd:ib K c qual=true) (S:lL N ps scope)
  (len:∀l H Q E,sp l H Q E->l.length=ps.length)
  (G:∀(A:bB)(outer:List Env)(s:am)(H:Hp)(l:List V)(Q:VK)(E:XK),kA k (A.deeper (np qual scope s.heap.objs.size f c))->sp l H Q E ->
   ∃t,PSs (rC CX P w K mg base N qual scope f c A outer s H E) h t/\t { nx:=λ_ B=>Q .non B,rt:=Q } (start N l) H):
  mY P w K mg base CX (k+1) f (c_ name qual g h scope dV kV Y pm an c ct) ps sp:=by
 refine⟨len,λA outer s H args us l Q E hr U hb r T=>?_⟩;have hl:=len _ _ _ _ T;have KX:K.In s.heap:=U.mod.kin.keeps λb o e=>(U.bs b o e).1;have eS:s.heap.NoLimit:=U.mod.nolimit.keeps λb o e=>(U.bs b o e).1;have C:∀y∈ps.zip us,scope.names.lookup y.1=some .local\/(scope.names.lookup y.1=some .cell/\((dH (s.heap.objs.size+1) scope.names []).lookup y.1).isSome=true):=λO hy=>by
  obtain⟨n,v⟩:=O;rcases S.par n (qW hy).1 with q|q
  ·exact .inl q
  ·exact .inr ⟨q,mK _ _ _ (.inl q)⟩
 refine codeAny_call_function hr.depth (KX _ _ lk) rfl S.co S.gen rfl (PySem.W.codeRec_of KX hcd) (hb _ _ _ _ ?_);refine wpAny_newFunctionEnv_cells S.kind C λenv he s1 x=>?_;subst he;refine⟨eS.keeps x.toInCall.keep,codeAny_func ?_⟩;obtain⟨t,ht,hq⟩:=G A outer s H l Q E (hr.deeper _) T;have I:Inv (rC CX P w K mg base N qual scope f c A outer s H E) [] (start N l) H s1:=VW S hr.hd U hl r x;refine gN (ht [] s1 (start N l) H _ I hq) (λfl s' L=>?_) λe s' L=>L;have fin:∀{σ':St}{B:Hp}{v:V}{u:ah},Inv (rC CX P w K mg base N qual scope f c A outer s H E) [] σ' B s'->RelV v u->Q v B->CE outer P w H s Q u s':=
  λ{σ' B v u}J rv q=>⟨v,B,J.os,J.bare,J.base,J.hok,rv,q⟩
 cases fl with
 |ret u=>
  obtain⟨v,σ',B,J,rv,q⟩:=L;exact fin J rv q
 |next=>
  obtain⟨σ',B,J,q⟩:=L;exact fin (v:=V.non) (u:=bV) J rfl q
 |brk=>
  obtain⟨_,_,_,q⟩:=L;exact ik q
 |cont=>
  obtain⟨_,_,_,q⟩:=L;exact ik q
section
variable{X:Cx}{x:Str}{p pos:Pos}{e:Expr}{es:List Expr}{t:TA}{id T:String}{r:List V->Hp->VK->Prop}
noncomputable def Pg(r:List V->Hp->VK->Prop)(t:TA):TE:=λσ H Q=>t σ H λc g=>r c g Q
theorem GV(U : CallR X (.builtin id) r)(L : Gl X x)(J : X.mg x = none)(E : cI x = some (.builtin id))(Y : PA X (e :: es) t)(G : x ≠ "__name__" := by decide)(o : (x == ("__debug__" : Str)) = false := by decide)
  (O:aF (e::es) X.env=(false,eval e X.env)::aF es X.env:=by rfl) (l:(eI pos (aF es X.env)).any (·.1)=false:=by rfl):PE X (.Call (.Name x p) (e::es) [] pos) (Pg r t):=by
 intro c s σ H Q I h;refine h9 (wZ I L J E ?_ G o);exact PyProof.Rows.callWith_builtin1 (fS (Y pos c s σ H _ I h) λu v g=>by obtain⟨q,H1,T,B,C⟩:=g;exact U c v σ H1 q u Q T B C) O l
theorem JF(U : CallR X (.type T) r)(L : Gl X x)(J : X.mg x = none)(E : cI x = some (.type T))(Y : PA X (e :: es) t)(G : x ≠ "__name__" := by decide)(o : (x == ("__debug__" : Str)) = false := by decide)
  (O:aF (e::es) X.env=(false,eval e X.env)::aF es X.env:=by rfl) (l:(eI pos (aF es X.env)).any (·.1)=false:=by rfl):PE X (.Call (.Name x p) (e::es) [] pos) (Pg r t):=by
 intro c s σ H Q I h;refine h9 (wZ I L J E ?_ G o);exact cq (fS (Y pos c s σ H _ I h) λu v g=>by obtain⟨q,H1,I1,B,C⟩:=g;exact U c v σ H1 q u Q I1 B C) O l
end
end L2
namespace HT
open PySem PyProof.Rows
theorem tx(A:bB)(s:am)(a:Int)(t:Tok)(c:Int)(u:Tok):∃e,vS A s (.int a t) (.int c u) e/\(e=true↔a=c):=
 ⟨(a == c),s_ a t c u,by simp⟩
section
open PySem.SeqAt
open PySem.AutoSeq1 (wpAny_loadPart')
open PySem.MeetsSeq PySem.MeetsSeq2 PySem.MeetsSeq3
end
section
variable{prog:Program}{w:bG}{A:bB}{E:ah->am->Prop}{s:am}
theorem y0{t b:av}{g ws:List ah}{Q:ah->am->Prop}(L:zx s.heap t g.toArray)(O:zx s.heap b ws.toArray)(G:g≠[])
  (U:ws=[]->Q (.ref t) s) (T:ws≠[]->Q (.ref s.heap.objs.size) { s with heap:=s.heap.push { cls:=.type "tuple",data:=.seq (g++ws).toArray } })
  (hsz:g.length+ws.length<=sizeLine):aK (bc prog w) A (fj .Add (.ref t) (.ref b)) Q E s:=by
 obtain⟨⟨cls,I,data,B⟩,v,H,n,hd⟩:=id L;obtain⟨⟨J,q,data2,h⟩,c,o,C,l⟩:=id O;simp only at H hd o l;subst H hd o l;have e:g.toArray++ws.toArray=(g++ws).toArray:=by simp
 by_cases u:ws=[]
 ·exact xn ⟨_, v, rfl⟩ ⟨_, c, rfl⟩ sO vT mM mn (lT _ _)
    (tuple_addW1 t b g.toArray ws.toArray n C I q B h (by simpa using G) (by simp[u])) ⟨v,c,U u⟩
 ·refine xn ⟨_, v, rfl⟩ ⟨_, c, rfl⟩ sO vT mM mn (lT _ _)
    (tuple_addW2 t b g.toArray ws.toArray n C I q B h (by simpa using G) (by simpa using u) (by rw[aH,aH];exact hsz)) ⟨v,c,?_⟩
  rw[e];exact T u
noncomputable def gY(n d:Nat):Option Int->Nat
 |none=>d
 |some v=>if v < 0 then (v+(n:Int)).toNat else min v.toNat n
theorem Uw(n d:Nat)(hd:d<=n)(o:Option Int):gY n d o<=n:=by
 cases o with
 |none=>exact hd
 |some v=>
  show (if v < 0 then (v+(n:Int)).toNat else min v.toNat n)<=n;by_cases c:v < 0
  ·rw[aE c];ext
  ·rw[aA c];exact zA _ _
theorem Nt(v:Int)(n d:Nat):(if v < 0 then max (v+(n:Int)) 0 else min v (n:Int))=((gY n d (some v):Nat):Int):=by
 show (if v < 0 then max (v+(n:Int)) 0 else min v (n:Int))=(((if v < 0 then (v+(n:Int)).toNat else min v.toNat n):Nat):Int)
 by_cases c:v < 0
 ·simp only[aE c];ext
 ·simp only[aA c];ext
theorem R6(lo c:Option Int)(n:Nat):kN lo c 1 (n:Int)=(((gY n 0 lo:Nat):Int),((gY n n c:Nat):Int)):=by
 have g:¬ ((1:Int) < 0):=by ext
 unfold kN;simp only[g,if_false];refine Prod.ext ?_ ?_
 ·cases lo with
  |none=>rfl
  |some v=>exact Nt v n 0
 ·cases c with
  |none=>rfl
  |some v=>exact Nt v n n
theorem US(i j:Nat):gU (i:Int) (j:Int) 1=j-i:=by
 unfold gU;have c:(1:Int) > 0:=by ext
 simp only[c,if_true,Int.ediv_one];split<;>ext
theorem LC{v:ah}{o:Option Int}{Q:Option Int->am->Prop}(p:sP v o)(h:Q o s):aK (bc prog w) A (Builtin.Slice.slicePartIndex v) Q E s:=by
 cases p with
 |none=>exact slicePart_none h
 |int i t=>exact slicePart_int h
theorem Qx{u:av}{q o:ah}{lo g:Option Int}{n:Nat}{Q:Int×Int×Nat->am->Prop}(C:s.heap.IsSliceOf u q o .none)(B:sP q lo)(v:sP o g)
  (h:Q (((gY n 0 lo:Nat):Int),1,gY n n g-gY n 0 lo) s):aK (bc prog w) A (oR (.ref u) (pure (n:Int))) Q E s:=by
 obtain⟨os,c,G,l⟩:=id C;unfold oR Builtin.Slice.sliceFields;refine ab (ab (cP c l (x:=q) rfl (ab (cP c l (x:=o) rfl (ab (cP c l (x:=.none) rfl (aq ?_)))))));refine ab (slicePart_none ?_)
 show aK _ _ (if ((1:Int) == 0)=true then _ else _) _ _ s;rw[aA (by decide)];refine ab (LC B (ab (LC v (ab (aq ?_)))))
 show aK _ _ (match kN lo g 1 (n:Int) with|(lo,g)=>pure (lo,(1:Int),gU lo g 1)) _ _ s;rw[R6 lo g n]
 show aK _ _ (pure (((gY n 0 lo:Nat):Int),(1:Int),gU ((gY n 0 lo:Nat):Int) ((gY n n g:Nat):Int) 1)) _ _ s;rw[US];exact aq h
theorem Tf(xs:Array ah)(i k:Nat):((bH k).filterMap λ(m:Nat)=>xs[((i:Int)+(m:Int)*1).toNat]?).toArray=((xs.toList.drop i).take k).toArray:=by
 have e:(λ(m:Nat)=>xs[((i:Int)+(m:Int)*1).toNat]?)=λm=>xs[i+m]?:=by
  funext m;have:((i:Int)+(m:Int)*1).toNat=i+m:=by ext
  rw[this]
 rw[e];have:=pick_run xs i k;rw[List.filterMap_map]at this;have c:((λx=>xs[x]?) ∘ λx=>i+x)=λm=>xs[i+m]?:=rfl;rw[c]at this;rw[this]
theorem oI{t o:av}{items:Array ah}{H G:ah}{lo g:Option Int}{Q:ah->am->Prop}(l:zx s.heap t items)(I:s.heap.IsSliceOf o H G .none)(L:sP H lo)(J:sP G g)
  (O:¬ (gY items.size 0 lo=0/\gY items.size items.size g=items.size))
  (h:Q (.ref s.heap.objs.size) { s with heap:=s.heap.push { cls:=.type "tuple",data:=.seq ((items.toList.drop (gY items.size 0 lo)).take (gY items.size items.size g-gY items.size 0 lo)).toArray } })
  (hsz:items.size<=sizeLine):aK (bc prog w) A (pH (.ref t) (.ref o)) Q E s:=by
 have c:sizeOk (.seq ((items.toList.drop (gY items.size 0 lo)).take (gY items.size items.size g-gY items.size 0 lo)).toArray):=by show ((items.toList.drop (gY items.size 0 lo)).take (gY items.size items.size g-gY items.size 0 lo)).toArray.size<=sizeLine;rw[aH,bE,kE,d_];ext
 have hj:gY items.size items.size g<=items.size:=Uw _ _ (ar _) g;obtain⟨os,u,B,T⟩:=id I;have C:s.TypeIs (.ref o) "slice":=⟨os,u,B⟩
 unfold pH
 try with_reducible refine cE ?_
 first|refine ab (aq ?_)|skip
 refine ab (Df l.typeIs (by decide) ?_);refine ab (b8 (name:=aG "__getitem__") l.typeIs nM
  (cG nM l.typeIs entry_tuple_getitem ?_ (args_tuple_getitem _ _)))
 show aK _ _ (oT (.ref t) >>= _) _ _ s;refine ab (tupleItemsOf_ l ?_);refine ab (mq C ?_);rw[aE (by decide)];refine ab (Qx I L J ?_);have v:¬ ((((gY items.size 0 lo:Nat):Int) == 0&&(1:Int) == 1&&(gY items.size items.size g-gY items.size 0 lo) == items.size)=true):=by intro q;rw[bU,bU]at q;have Y:((gY items.size 0 lo:Nat):Int)=0:=eq_of_beq q.1.1;have U:gY items.size items.size g-gY items.size 0 lo=items.size:=eq_of_beq q.2;exact O ⟨by ext,by ext⟩
 show aK _ _ (if (((gY items.size 0 lo:Nat):Int) == 0&&(1:Int) == 1&&(gY items.size items.size g-gY items.size 0 lo) == items.size)=true then _ else _) _ _ s;rw[aA v,Tf]
 first
  |exact ab (m:=eJ _) (bK (aq ⟨_,rfl,aq h⟩) c)
  |exact ab (m:=eJ _) (bK (ab (aq (aq ⟨_,rfl,aq h⟩))) c)
  |exact ab (ab (m:=eJ _) (bK (aq (aq ⟨_,rfl,aq h⟩)) c))
  |exact ab (ab (m:=eJ _) (bK (aq ⟨_,rfl,aq h⟩) c))
end
end HT
namespace L2
open PySem PySem.Spec PyProof.Rows
abbrev TO:=St->Hp->(Option Int->Hp->Prop)->Prop
def PO(X:Cx)(e:Option Expr)(t:TO):Prop:=
 ∀(ap:List (av×Obj))(s:am)(σ:St)(H:Hp)(Q:Option Int->Hp->Prop),Inv X ap σ H s->t σ H Q ->
  aK (bc X.prog X.w) X.A (evalPart e X.env) (λu g=>∃o c,Inv X ap σ c g/\sP u o/\Q o c) X.xe s
noncomputable def yX:TO:=λ_ H Q=>Q none H
noncomputable def E1(t:TE):TO:=λσ H Q=>t σ H λx c=>∃i,x=.int i/\Q (some i) c
theorem Iw{g:List Int}:∀{c:List ah},b9 (g.map V.int) c->ic c g:=by
 induction g with
 |nil=>intro c r;rw[lA]at r;cases r;exact .nil
 |cons n g ih=>
  intro c r;rw[aI]at r;cases r with
  |cons r1 r2=>
   obtain⟨t,e⟩:=r1;subst e;exact .cons n t (ih r2)
section
variable{X:Cx}{e:Expr}{te:TE}{lo hi:Option Expr}{tl th:TO}{pos p2:Pos}
theorem Qy:PO X none yX:=by intro c s σ H Q I h;rw[vU];exact aq ⟨none,H,I,.none,h⟩
theorem OF(h:PE X e te):PO X (some e) (E1 te):=by intro g s σ H Q I v;rw[evalPart_some];refine fS (h g s σ H _ I v) λu E c=>?_;obtain⟨x,C,B,l,o⟩:=c;obtain⟨i,rfl,q⟩:=o;obtain⟨t,rfl⟩:=l;exact⟨some i,C,B,.int i t,q⟩
def JY(X:Cx)(r:V->Option Int->Option Int->Hp->VK->Prop):Prop:=
 ∀(ap:List (av×Obj))(s:am)(σ:St)(H:Hp)(x:V)(v vl vu:ah)(lo hi:Option Int)(sl:av)(Q:VK),Inv X ap σ H s->RelV x v->s.heap.IsSliceOf sl vl vu .none->sP vl lo->sP vu hi->r x lo hi H Q ->
  ∃T id,oh (.type T) "__getitem__"=pure (some (.builtin id))/\s.TypeIs v T/\aK (bc X.prog X.w) X.A (pH v (.ref sl)) (EP X ap σ Q) X.xe s
noncomputable def RQ(r:V->Option Int->Option Int->Hp->VK->Prop)(te:TE)(tl th:TO):TE:=λσ H Q=>te σ H λx h=>tl σ h λl g=>th σ g λu c=>r x l u c Q
theorem Mw{r:V->Option Int->Option Int->Hp->VK->Prop}(hr:JY X r)(he:PE X e te)(hl:PO X lo tl)(hu:PO X hi th):PE X (.Subscript e (.Slice lo hi none p2) pos) (RQ r te tl th):=by
 intro c s σ H Q I h;refine Cs (fS (he c s σ H _ I h) λv L B=>?_);obtain⟨x,H1,I1,O,q1⟩:=B;refine wpAny_Slice (fS (hl c L σ H1 _ I1 q1) λE J ⟨l,H2,I2,pl,Y⟩=>fS (hu c J σ H2 _ I2 Y) λC g o=>?_);obtain⟨u,G,I3,pu,U⟩:=o;rw[vU];refine aq ?_;have I4:Inv X c σ G { g with heap:=g.heap.push { cls:=.type "slice",data:=.fields #[E,C,.none] } }:=I3.kept (t':=g.toks) λb ob q=>al _ q;obtain⟨T,id,hT,ht,hg⟩:=hr c { g with heap:=g.heap.push { cls:=.type "slice",data:=.fields #[E,C,.none] } } σ G x v E C l u g.heap.objs.size Q I4 O (qX ..) pl pu U
 show aK (bc X.prog X.w) X.A (vV e (.Slice lo hi none p2) v (.ref g.heap.objs.size)) (EP X c σ Q) X.xe { g with heap:=g.heap.push { cls:=.type "slice",data:=.fields #[E,C,.none] } };exact zB (ops:=[.ref g.heap.objs.size,v]) ht hT hg (by with_unfolding_all rfl)
def tL(xs:List V)(lo hi:Option Int):List V:=(xs.drop (HT.gY xs.length 0 lo)).take (HT.gY xs.length xs.length hi-HT.gY xs.length 0 lo)
theorem O9(xs:List V)(lo hi:Option Int):(tL xs lo hi).length<=xs.length:=by unfold tL;rw[bE,kE];ext
def IL(K:ak):V->Option Int->Option Int->Hp->VK->Prop:=λx lo hi H Q=>∃a xs,x=.ref a/\iR K H a xs /\
 ¬ (HT.gY xs.length 0 lo=0/\HT.gY xs.length xs.length hi=xs.length)/\∀p,H p=none->Q (.ref p) (fq H p (.tup (tL xs lo hi)))
theorem Ul:JY X (IL X.K):=by
 intro g s σ H x v O L lo hi T Q I u J C B h;obtain⟨a,xs,rfl,E,G,q⟩:=h;cases u;obtain⟨its,r,l,hz⟩:=I.tuple E;have c:its.toArray.size=xs.length:=by rw[aH];exact r.length.symm
 refine⟨"tuple",_,nM.lookup,l.typeIs,?_⟩;refine HT.oI l J C B (by rw[c];exact G) ?_ (by rw[c];exact hz);rw[c];refine⟨.ref s.heap.objs.size,_,I.laid (t':=s.toks) (o:=.tup (tL xs lo hi)) (λb U q=>al _ q) (ar _) ?_,rfl,q _ (I.hok.fresh (ar _))⟩;exact⟨bW (O9 xs lo hi) hz,_,(r.drop (HT.gY xs.length 0 lo)).take (HT.gY xs.length xs.length hi-HT.gY xs.length 0 lo),kj.new _ _⟩
def EN(K:ak):R2:=λx y H Q=>∃a b xs ys,x=.ref a/\y=.ref b/\iR K H a xs/\iR K H b ys/\xs≠[]/\xs.length+ys.length<=sizeLine /\
 (ys=[]->Q (.ref a) H)/\(ys≠[]->∀p,H p=none->Q (.ref p) (fq H p (.tup (xs++ys))))
theorem b9.nil_iff{xs:List V}{c:List ah}(r:b9 xs c):c=[]↔xs=[]:=by
 cases r with
 |nil=>simp
 |cons _ _=>simp
theorem Ta:OpR X (fj .Add) (EN X.K):=by intro l s σ H x y v u Q I E C h;obtain⟨a,b,xs,ys,rfl,rfl,U,T,O,hz,J,G⟩:=h;cases E;cases C;obtain⟨its,g,L,_⟩:=I.tuple U;obtain⟨B,c,p2,_⟩:=I.tuple T;refine HT.y0 L p2 (λz=>O (g.nil_iff.mp z)) (λz=>⟨.ref a,H,I,rfl,J (c.nil_iff.mp z)⟩) (λz=>?_) (by rw[<- g.length,<- c.length];exact hz);refine⟨.ref s.heap.objs.size,_,I.laid (t':=s.toks) (o:=.tup (xs++ys)) (λb Y q=>al _ q) (ar _) ?_,rfl,G (λw=>z (c.nil_iff.mpr w)) _ (I.hok.fresh (ar _))⟩;exact⟨by rw[au];exact hz,_,g.append c,kj.new _ _⟩
end
noncomputable def my(n:Nat)(i:Int):Option Nat:=if 0<=i then (if i < n then some i.toNat else none) else if -(n:Int)<=i then some (i+n).toNat else none
def vH{α:Type}(xs:List α)(i:Int):Option α:=(my xs.length i).bind λj=>xs[j]?
theorem L_{n:Nat}{i:Int}{j:Nat}(h:my n i=some j):seqIndex? i n=some j/\j < n /\ -(n:Int)<=i/\i < n:=by
 unfold my at h;by_cases g:0<=i
 ·rw[aE g]at h;by_cases c:i < n
  ·rw[aE c]at h;have e:i.toNat=j:=aN h;exact⟨by rw[tf g c,e],by ext,by ext,c⟩
  ·rw[aA c]at h;cases h
 ·rw[aA g]at h;by_cases c : -(n:Int)<=i
  ·rw[aE c]at h;have e:(i+n).toNat=j:=aN h;exact⟨by rw[rL (by ext) c,e],by ext,c,by ext⟩
  ·rw[aA c]at h;cases h
theorem GU{α:Type}{xs:List α}{i:Int}{v:α}(h:vH xs i=some v):∃j,seqIndex? i xs.length=some j/\xs[j]?=some v/\j < xs.length /\ -(xs.length:Int)<=i/\i < xs.length:=by
 unfold vH at h;cases e:my xs.length i with
 |none=>rw[e]at h;cases h
 |some j=>
  rw[e]at h;obtain⟨o,l,g,c⟩:=L_ e;exact⟨j,o,h,l,g,c⟩
noncomputable def qh(b:Expr):Prop:=∀o i,subscripted b false o i=operate [o,i] (pH o i)
def IxR(X:Cx)(r:R2):Prop:=
 ∀(g c:Expr)(ap:List (av×Obj))(s:am)(σ:St)(H:Hp)(x y:V)(v u:ah)(Q:VK),Inv X ap σ H s->RelV x v->RelV y u->r x y H Q ->
  subscripted c false v u=operate [v,u] (pH v u)->aK (bc X.prog X.w) X.A (vV g c v u) (EP X ap σ Q) X.xe s
def CL(X:Cx)(id:String)(r:V->List V->Hp->VK->Prop):Prop:=
 ∀(ap:List (av×Obj))(s:am)(σ:St)(H:Hp)(x:V)(xs:List V)(v:ah)(us:List ah)(Q:VK),Inv X ap σ H s->RelV x v->b9 xs us->r x xs H Q ->
  aK (bc X.prog X.w) X.A (call (.builtin id) (v::us)) (EP X ap σ Q) X.xe s
section
variable{X:Cx}{a b:Expr}{ta tb:TE}{pos:Pos}
theorem IxR.or{r C:R2}(h:IxR X r)(h':IxR X C):IxR X (λx y H Q=>r x y H Q\/C x y H Q):=by
 intro c g l s σ H x y v u Q I B o q E;rcases q with q|q
 ·exact h c g l s σ H x y v u Q I B o q E
 ·exact h' c g l s σ H x y v u Q I B o q E
theorem LY{r:R2}(C:IxR X r)(G:PE X a ta)(E:PE X b tb)(B:qh b):PE X (.Subscript a b pos) (DP r ta tb):=by intro c s σ H Q I h;exact Cs (AI G E I h λv u g x y L J o l q=>C a b c g σ L x y v u Q J o l q (B _ _))
def Bp(K:ak):R2:=λx y H Q=>∃p xs i v,x=.ref p/\y=.int i/\gD K H p xs/\vH xs i=some v/\Q v H
def DJ(K:ak):R2:=λx y H Q=>∃p xs i v,x=.ref p/\y=.int i/\iR K H p xs/\vH xs i=some v/\Q v H
def D0:R2:=λx y H Q=>∃z i c,x=.str z/\y=.int i/\z.length<=sizeLine/\vH z.cps.toList i=some c/\Q (.str ⟨#[c]⟩) H
theorem MH:IxR X (Bp X.K):=by
 intro l o c s σ H x y v u Q I U T h G;obtain⟨p,xs,i,z,rfl,rfl,Y,he,q⟩:=h;cases U;obtain⟨t,rfl⟩:=T;obtain⟨its,r,C,hz⟩:=I.list Y;obtain⟨j,g,h2,h3,h4,h5⟩:=GU he;obtain⟨w,L,B⟩:=r.get h2;have hl:=r.length;have hn:=Ah;have fin:EP X c σ Q w s:=⟨z,H,I,B,q⟩
 by_cases J:0<=i
 ·have E : i.toNat = j := by rw[tf J h5]at g;exact aN g
  exact item_listR C.isList J (by ext) (by rw[E];simpa using L) fin G
 ·have E : (i+(its.toArray.size : Int)).toNat = j := by rw[rL (by ext) h4]at g;rw[aH,<- hl];exact aN g
  exact xo (x:=w) C.isList.typeIs rM.lookup
   (xp (Q:=λr O=>r=w/\EP X c σ Q r O) C.isList (by ext) (by rw[aH]<;>ext) (by ext) (by rw[E];simpa using L) ⟨rfl,fin⟩) G
theorem Rh:IxR X (DJ X.K):=by
 intro g l c s σ H x y v u Q I G E h J;obtain⟨p,xs,i,z,rfl,rfl,L,T,q⟩:=h;cases G;obtain⟨t,rfl⟩:=E;obtain⟨its,r,B,hz⟩:=I.tuple L;obtain⟨j,Y,U,h3,h4,h5⟩:=GU T;obtain⟨w,ew,o⟩:=r.get U;have O:=r.length;have hn:=Ah;have fin:EP X c σ Q w s:=⟨z,H,I,o,q⟩
 exact xo (x:=w) B.typeIs slot_tuple_getitem.lookup
  (getItem_tuple (j:=j) (Q:=λr C=>r=w/\EP X c σ Q r C) B (by ext) (by ext) (by rw[aH,<- O];exact Y) (by simpa using ew) ⟨rfl,fin⟩) J
theorem TK:IxR X D0:=by
 intro g l o s σ H x y v u Q I E C h G;obtain⟨z,i,c,rfl,rfl,hz,L,q⟩:=h;obtain⟨t,rfl⟩:=E;obtain⟨t',rfl⟩:=C;obtain⟨j,B,U,h3,T,O⟩:=GU L;have J:z.cps.toList.length=z.length:=by simp[Str.length]
 rw[J]at B T O;have hn:=Ah;exact zB (typeIs_str s z t) slot_str_getitem.lookup (getItem_str (c:=c) (by have e1:decide (i < -(2^63:Int))=false:=aT (by ext);have Y:decide (i ≥ 2^63)=false:=aT (by ext);rw[e1,Y,Bool.or_false]) (by rw[B];simpa using U) ⟨.str ⟨#[c]⟩,H,I.tok _,⟨_,rfl⟩,q⟩) G
def Nx(K:ak):R2:=λx y H Q=>Bp K x y H Q\/DJ K x y H Q\/D0 x y H Q
theorem Uo:IxR X (Nx X.K):=MH.or (Rh.or TK)
theorem QQ(its:List ah)(n j:Nat)(u:ah):pi (·.setIfInBounds j u) { cls:=.type "list",data:=.seq its.toArray n }={ cls:=.type "list",data:=.seq (its.set j u).toArray n }:=by simp[pi]
theorem Inv.lst{c:List (av×Obj)}{σ:St}{H:Hp}{s:am}{p:av}{xs:List V}(I:Inv X c σ H s)(h:H p=some (.lst xs)):
  ∃(its:List ah)(n:Nat),b9 xs its/\s.heap.get? p=some { cls:=.type "list",data:=.seq its.toArray n }/\xs.length<=sizeLine:=by
 obtain⟨z,its,n,r,e⟩:=I.hok p _ h;exact⟨its,n,r,e,z⟩
theorem Inv.lstUpd{c:List (av×Obj)}{σ:St}{H:Hp}{s:am}{p:av}{xs ys:List V}{its its':List ah}{n g:Nat}{f:Obj->Obj}(I:Inv X c σ H s)(h:H p=some (.lst xs))
  (o:s.heap.get? p=some { cls:=.type "list",data:=.seq its.toArray n }) (l:f { cls:=.type "list",data:=.seq its.toArray n }={ cls:=.type "list",data:=.seq its'.toArray g }) (r:b9 ys its') (hz:ys.length<=sizeLine) (t:Nat):
  Inv X c σ (fq H p (.lst ys)) { s with heap:=s.heap.update p f,toks:=t }:=by
 have e:(s.heap.update p f).get? p=some { cls:=.type "list",data:=.seq its'.toArray g }:=by rw[cH f o (by rw[l]<;>rfl),l]
 refine I.write (x:=p) (e:=p) (by rw[h];trivial) (.inl rfl) (λb u v q=>(cT _ _ (bC v)).trans q) ⟨_,e⟩ ?_;exact⟨hz,its',g,r,e⟩
def FC:V->V->V->Hp->(Hp->Prop)->Prop:=λo i v H Q=>∃p xs k j,o=.ref p/\i=.int k/\H p=some (.lst xs)/\my xs.length k=some j/\Q (fq H p (.lst (xs.set j v)))
theorem M5:PSet X FC:=by
 intro c s σ H o i v ov iv u Q I U Y T h;obtain⟨p,xs,k,j,rfl,rfl,E,hj,q⟩:=h;cases U;obtain⟨t,rfl⟩:=Y;obtain⟨its,n,r,l,hz⟩:=I.lst E;obtain⟨g,h2,J,G⟩:=L_ hj;have B:=r.length;have hn:=Ah;have O:Inv X c σ (fq H p (.lst (xs.set j v))) { s with heap:=s.heap.update p (pi (·.setIfInBounds j u)) }:=
  I.lstUpd E l (QQ its n j u) (r.set T j) (by rw[cw];exact hz) s.toks
 by_cases L:0<=k
 ·have C : k.toNat = j := by rw[tf L G]at g;exact aN g
  exact PySem.W.ki_setAt l L (by ext) (by rw[aH,<- B];exact G) (by rw[C];exact⟨_,O,q⟩)
 ·have C : (k+(its.toArray.size : Int)).toNat = j := by rw[rL (by ext) J]at g;rw[aH,<- B];exact aN g
  exact PySem.W.ki_setBack l (by ext) (by rw[aH,<- B];exact J) (by ext) (by rw[C];exact⟨_,O,q⟩)
theorem Uu(lo c:Option Int)(n:Nat):(fJ lo c none n).1=((HT.gY n 0 lo:Nat):Int)/\(fJ lo c none n).2.1=((HT.gY n n c:Nat):Int)/\(fJ lo c none n).2.2=1:=by
 refine⟨?_,?_,rfl⟩
 ·cases lo with
  |none=>simp[fJ,HT.gY]
  |some i=>
   simp only[fJ,HT.gY,pJ,show (1:Int) > 0 by decide,if_true];by_cases h:i < 0
   ·simp only[h,if_true]<;>ext
   ·simp only[h,if_false]<;>ext
 ·cases c with
  |none=>simp[fJ,HT.gY]
  |some i=>
   simp only[fJ,HT.gY,pJ,show (1:Int) > 0 by decide,if_true];by_cases h:i < 0
   ·simp only[h,if_true]<;>ext
   ·simp only[h,if_false]<;>ext
theorem Yy(its:List ah)(lo c:Option Int):wk its.toArray lo c none=((its.drop (HT.gY its.length 0 lo)).take (HT.gY its.length its.length c-HT.gY its.length 0 lo)).toArray:=by obtain⟨l,h,g⟩:=Uu lo c its.toArray.size;unfold wk;rw[l,h,g];simp only[sliceRange_one,pick_run,aH]<;>rfl
def E3(K:ak):V->Option Int->Option Int->Hp->VK->Prop:=λx lo c H Q=>∃a xs,x=.ref a/\gD K H a xs/\∀p,H p=none->Q (.ref p) (fq H p (.lst (tL xs lo c)))
theorem QE:JY X (E3 X.K):=by intro l s σ H x v O L lo g T Q I B J E C h;obtain⟨a,xs,rfl,G,q⟩:=h;cases B;obtain⟨its,r,u,hz⟩:=I.list G;have c:=r.length;refine⟨"list",_,rM.lookup,u.isList.typeIs,?_⟩;refine vW u.isList J E C .none (by simp) ?_ (by rw[aH]<;>ext);rw[Yy,<- c];refine⟨.ref s.heap.objs.size,_,I.laid (t':=s.toks) (o:=.lst (tL xs lo g)) (λb U q=>al _ q) (ar _) ?_,rfl,q _ (I.hok.fresh (ar _))⟩;exact⟨bW (O9 xs lo g) hz,_,0,(r.drop (HT.gY xs.length 0 lo)).take (HT.gY xs.length xs.length g-HT.gY xs.length 0 lo),aC _ rfl⟩
noncomputable def nT:V->Bool
 | .non=>true
 | .bl _=>true
 | .int _=>true
 | .str _=>true
 |_=>false
noncomputable def yN:V->V->Bool
 | .non,.non=>true
 | .bl a,.bl b=>a == b
 | .bl a,.int b=>(if a then 1 else 0) == b
 | .int a,.bl b=>a == (if b then 1 else 0)
 | .int a,.int b=>a == b
 | .str a,.str b=>a == b
 |_,_=>false
theorem YB{A:bB}{s:am}{y x:V}{u v:ah}(g:RelV y u)(c:RelV x v)(l:nT y=true)(h:nT x=true):vS A s u v (yN y x):=by
 cases y with
 |non=>
  cases g;cases x with
  |non=>cases c;exact vS.same _
  |bl b=>cases c;exact vS.none_bool b
  |int b=>obtain⟨t,rfl⟩:=c;exact vS.none_int b t
  |str b=>obtain⟨t,rfl⟩:=c;exact vS.none_str b t
  |_=>exact ba (show false=true from h) bo
 |bl a=>
  cases g;cases x with
  |non=>cases c;exact vS.bool_none a
  |bl b=>cases c;exact vS.bool_bool a b
  |int b=>obtain⟨t,rfl⟩:=c;exact vS.bool_int a b t
  |str b=>obtain⟨t,rfl⟩:=c;exact vS.bool_str a b t
  |_=>exact ba (show false=true from h) bo
 |int a=>
  obtain⟨t',rfl⟩:=g;cases x with
  |non=>cases c;exact vS.int_none a t'
  |bl b=>cases c;exact vS.int_bool a t' b
  |int b=>obtain⟨t,rfl⟩:=c;exact s_ a t' b t
  |str b=>obtain⟨t,rfl⟩:=c;exact sX a t' b t
  |_=>exact ba (show false=true from h) bo
 |str a=>
  obtain⟨t',rfl⟩:=g;cases x with
  |non=>cases c;exact vS.str_none a t'
  |bl b=>cases c;exact vS.str_bool a t' b
  |int b=>obtain⟨t,rfl⟩:=c;exact sY a t' b t
  |str b=>obtain⟨t,rfl⟩:=c;exact vS.str_str a t' b t
  |_=>exact ba (show false=true from h) bo
 |_=>exact ba (show false=true from l) bo
def uA(x:V)(u:ah):Bool:=match u with
 | .none=>yN .non x
 | .bool b=>yN (.bl b) x
 | .int i _=>yN (.int i) x
 | .str z _=>yN (.str z) x
 |_=>false
theorem LN{x y:V}{u:ah}(r:RelV y u)(f:nT y=true):uA x u=yN y x:=by
 cases y with
 |non=>cases r;rfl
 |bl b=>cases r;rfl
 |int i=>obtain⟨t,rfl⟩:=r;rfl
 |str z=>obtain⟨t,rfl⟩:=r;rfl
 |_=>exact ba (show false=true from f) bo
theorem EK{x:V}:∀{xs:List V}{c:List ah},b9 xs c->xs.all nT=true->c.any (uA x)=xs.any λy=>yN y x
 |_,_,.nil,_=>rfl
 |y::xs,u::c,.cons r t,f=>by rw[cQ,bU]at f;rw[d8,d8,LN r f.1,EK t f.2]
theorem EB{A:bB}{s:am}{x:V}{v:ah}(g:RelV x v)(h:nT x=true):∀{xs:List V}{c:List ah},b9 xs c->xs.all nT=true->∀u∈c,vS A s u v (uA x u)
 |_,_,.nil,_=>λu hu=>by cases hu
 |y::xs,u::c,.cons r t,f=>λu' hu=>by
  rw[cQ,bU]at f;rcases bb.mp hu with rfl|hu
  ·rw[LN r f.1];exact YB r g f.1 h
  ·exact EB g h t f.2 u' hu
def GR(x:V)(xs:List V):Bool:=xs.any λy=>yN y x
def Lc(K:ak)(c:Bool):R2:=λx y H Q=>∃p xs,y=.ref p/\(gD K H p xs\/iR K H p xs)/\nT x=true/\xs.all nT=true/\Q (.bl (if c then !GR x xs else GR x xs)) H
theorem Pl:OpR X (dg .In) (Lc X.K false):=by
 intro B s σ H x y v u Q I o E h;obtain⟨p,xs,rfl,c,C,fs,q⟩:=h;cases E;rcases c with c|c
 ·obtain⟨its,r,g,hz⟩:=I.list c;refine SeqAt.in_listAt (uA x) g.isList (λw l=>EB o C r fs w (by simpa using l)) ⟨.bl _,H,I,rfl,?_⟩;rw[show its.toArray.any (uA x)=its.any (uA x) by simp,EK r fs];exact q
 ·obtain⟨its,r,g,hz⟩:=I.tuple c;refine SeqAt.in_tupleAt (uA x) g (λw l=>EB o C r fs w (by simpa using l)) ⟨.bl _,H,I,rfl,?_⟩;rw[show its.toArray.any (uA x)=its.any (uA x) by simp,EK r fs];exact q
theorem Yv:OpR X (dg .NotIn) (Lc X.K true):=by
 intro B s σ H x y v u Q I o E h;obtain⟨p,xs,rfl,c,C,fs,q⟩:=h;cases E;rcases c with c|c
 ·obtain⟨its,r,g,hz⟩:=I.list c;refine SeqAt.notIn_listAt (uA x) g.isList (λw l=>EB o C r fs w (by simpa using l)) ⟨.bl _,H,I,rfl,?_⟩;rw[show its.toArray.any (uA x)=its.any (uA x) by simp,EK r fs];exact q
 ·obtain⟨its,r,g,hz⟩:=I.tuple c;refine SeqAt.notIn_tupleAt (uA x) g (λw l=>EB o C r fs w (by simpa using l)) ⟨.bl _,H,I,rfl,?_⟩;rw[show its.toArray.any (uA x)=its.any (uA x) by simp,EK r fs];exact q
theorem Qa:CallR X (.builtin "len") (λxs H Q=>∃p ys,xs=[.ref p]/\(gD X.K H p ys\/iR X.K H p ys)/\Q (.int ys.length) H):=by
 intro v s σ H xs C Q I r h;obtain⟨p,ys,rfl,g,q⟩:=h;obtain⟨u,rfl,B⟩:=uI r;cases B;have E:=Ah;rcases g with g|g
 ·obtain⟨its,l,o,hz⟩:=I.list g;have c:=l.length;exact Calls.call_len_list o.isList (by simp only[aH]<;>ext) ⟨.int ys.length,H,I.tok _,⟨s.toks+1,by rw[aH,c]⟩,q⟩
 ·obtain⟨its,l,o,hz⟩:=I.tuple g;have c:=l.length;exact len_tuple o (by simp only[aH]<;>ext) ⟨.int ys.length,H,I.tok _,⟨s.toks+1,by rw[aH,c]⟩,q⟩
theorem Qt:CallR X (.builtin "len") (λxs H Q=>∃z,xs=[.str z]/\z.length<=sizeLine/\Q (.int z.length) H):=by intro c s σ H xs g Q I r h;obtain⟨z,rfl,hz,q⟩:=h;obtain⟨u,rfl,t,rfl⟩:=uI r;have l:=Ah;exact len_str (by ext) ⟨.int z.length,H,I.tok _,⟨_,rfl⟩,q⟩
theorem CallR.or{f:ah}{r l:List V->Hp->VK->Prop}(h:CallR X f r)(h':CallR X f l):CallR X f (λxs H Q=>r xs H Q\/l xs H Q):=by
 intro c s σ H xs g Q I rs q;rcases q with q|q
 ·exact h c s σ H xs g Q I rs q
 ·exact h' c s σ H xs g Q I rs q
theorem Xe:CallR X (.type "list") (λxs H Q=>∃p ys,xs=[.ref p]/\(gD X.K H p ys\/iR X.K H p ys)/\∀l,H l=none->Q (.ref l) (fq H l (.lst ys))):=by
 intro v s σ H xs T Q I r h;obtain⟨p,ys,rfl,C,q⟩:=h;obtain⟨u,rfl,O⟩:=uI r;cases O;have fin : ∀(its : List ah), b9 ys its -> ys.length <= sizeLine -> ∀(h' : bQ)(g : Nat), (∀b o', s.heap.get? b = some o' -> h'.get? b = some o') ->
   h'.get? s.heap.objs.size=some { cls:=.type "list",dict:=none,data:=.seq its.toArray g,slots:=#[] }->EP X v σ Q (.ref s.heap.objs.size) { s with heap:=h' }:=λits c hz h' g B e=>
  ⟨.ref s.heap.objs.size,_,I.laid (t':=s.toks) B (ar _) (show eT X.prog X.w _ h' _ (.lst ys) from ⟨hz,its,g,c,e⟩),rfl,q _ (I.hok.fresh (ar _))⟩
 rcases C with C|C
 ·obtain⟨its,c,G,hz⟩:=I.list C;have E:=c.length;obtain⟨o,J,L,n,hd⟩:=G.isList;exact call_list_seq p (.inl rfl) J L hd (λh' g B e=>fin its c hz h' g B e) (by simp only[aH]<;>ext)
 ·obtain⟨its,c,G,hz⟩:=I.tuple C;have E:=c.length;obtain⟨o,J,L,n,hd⟩:=G;exact call_list_seq p (.inr rfl) J L hd (λh' g B e=>fin its c hz h' g B e) (by simp only[aH]<;>ext)
theorem N_:CallR X (.type "tuple") (λxs H Q=>∃p ys,xs=[.ref p]/\((gD X.K H p ys/\∀l,H l=none->Q (.ref l) (fq H l (.tup ys)))\/(iR X.K H p ys/\Q (.ref p) H))):=by
 intro c s σ H xs O Q I r h;obtain⟨p,ys,rfl,h⟩:=h;obtain⟨u,rfl,G⟩:=uI r;cases G;rcases h with ⟨B,q⟩|⟨B,q⟩
 ·obtain⟨its,g,v,hz⟩:=I.list B;have C:=g.length;refine call_tuple_list v.isList (λh' J=>?_) (by simp only[aH]<;>ext);have E:Inv X c σ H { s with heap:=h' }:=I.kept (t':=s.toks) J;have L:Inv X c σ (fq H h'.objs.size (.tup ys)) { s with heap:=h'.push { cls:=.type "tuple",data:=.seq its.toArray } }:=
   E.laid (t':=s.toks) (λb o e=>al _ e) (ar _) (show eT X.prog X.w _ _ _ (.tup ys) from ⟨hz,its,g,kj.new _ _⟩)
  exact⟨.ref h'.objs.size,_,L,rfl,q _ (E.hok.fresh (ar _))⟩
 ·obtain⟨its,g,v,hz⟩:=I.tuple B;exact call_tuple_same v ⟨.ref p,H,I,rfl,q⟩
def Iz(K:ak)(T:String)(x:V)(H:Hp):Prop:=match x with
 | .str _=>T="str"
 | .int _=>T="int"
 | .ref p => (T = "list" /\ ∃xs, gD K H p xs) \/ (T = "tuple" /\ ∃o, K.lookup p = some o /\ o.cls = .type "tuple" /\ o.dict = none) \/
   (T="dict"/\((∃c,H p=some (.dK c))\/∃c,H p=some (.dT c)))\/(T="set"/\∃S n,H p=some (.set S n))
 |_=>False
theorem Lq{h:List (av×Obj)}{σ:St}{H:Hp}{s:am}{T:String}{x:V}{v:ah}(I:Inv X h σ H s)(r:RelV x v)(ty:Iz X.K T x H):
  s.TypeIs v T/\∀a,v=.ref a->∃B,s.heap.get? a=some B/\B.dict=none:=by
 cases x with
 |str z=>
  obtain⟨t,rfl⟩:=r;cases (show T="str" from ty);exact⟨typeIs_str s z t,λ_ e=>nomatch e⟩
 |int i=>
  obtain⟨t,rfl⟩:=r;cases (show T="int" from ty);exact⟨Ct s i t,λ_ e=>nomatch e⟩
 |ref p=>
  cases r;rcases ty with ⟨rfl,xs,C⟩|⟨rfl,o,g,E,hd⟩|⟨rfl,g⟩|⟨rfl,S,n,g⟩
  ·obtain⟨its,_,u,_⟩:=I.list C;refine⟨u.isList.typeIs,λa e=>?_⟩;cases e;obtain⟨o,n,e,c,hd,_⟩:=u;exact⟨o,e,hd⟩
  ·refine⟨⟨o,I.kIn p o g,E⟩,λa e=>?_⟩;cases e;exact⟨o,I.kIn _ o g,hd⟩
  ·have z : ∃o, s.heap.get? p = some o /\ o.ExactDict := by
     rcases g with ⟨l,g⟩|⟨l,g⟩
     ·obtain⟨_,_,_,_,o,_,_,e,ex,_⟩:=I.hok p _ g;exact⟨o,e,ex⟩
     ·obtain⟨_,_,_,_,o,_,_,e,ex,_⟩:=I.hok p _ g;exact⟨o,e,ex⟩
   obtain⟨o,e,ex⟩:=z;refine⟨⟨o,e,ex.1⟩,λa q=>?_⟩;cases q;exact⟨o,e,ex.2.1⟩
  ·obtain⟨o,_,_,_,e,ex,_⟩:=I.hok p _ g;refine⟨⟨o,e,ex.1⟩,λa q=>?_⟩;cases q;exact⟨o,e,ex.2.1⟩
 |_=>exact ik ty
def IW(K:ak)(T:String)(r:V->List V->Hp->VK->Prop)(to:TE):TE:=λσ H Q=>to σ H λx c=>Iz K T x c/\r x [] c Q
def VX(K:ak)(T:String)(r:V->List V->Hp->VK->Prop)(to:TE)(t:TA):TE:=λσ H Q=>to σ H λx c=>Iz K T x c/\t σ c λxs g=>r x xs g Q
variable{o e:Expr}{es:List Expr}{to:TE}{t:TA}{name:Str}{dr cx:Pos}{T id:String}{r:V->List V->Hp->VK->Prop}
theorem Tw(J:PlainAttrs T)(slot:Slot T name id)(u:typeOf (.builtin id)=pure (.type "method_descriptor"))(O:CL X id r)(L:PE X o to)
  (l:dh o name X.env (eval o X.env)=eval o X.env:=by rfl) (g:(dr.endLine == cx.line)=true:=by rfl):PE X (.Call (.Attribute o name dr) [] [] cx) (IW X.K T r to):=by
 intro c s σ H Q I h;refine wl l g (fS (L c s σ H _ I h) λv E q=>?_);obtain⟨x,H1,C,B,ty,G⟩:=q;obtain⟨Y,U⟩:=Lq C B ty;exact⟨T,id,J,slot,u,Y,U,i6 rfl (vd (O c E σ H1 x [] v [] Q C B .nil G))⟩
theorem Pe(pa:PlainAttrs T)(slot:Slot T name id)(E:typeOf (.builtin id)=pure (.type "method_descriptor"))(hm:CL X id r)(ho:PE X o to)(ha:PA X (e::es) t)
  (q:dh o name X.env (eval o X.env)=eval o X.env:=by rfl)
  (C:((eI cx (aF (e::es) X.env)).all (λx => !x.1)&&(nN cx (kt [] X.env)).all (λx=>x.1.isSome)
   && decide ((e::es).length+([]:List ia).length+(if ([]:List ia).isEmpty then 0 else 1) < 30))=true:=by rfl)
  (l:(dr.endLine == cx.line)=true:=by rfl) (hs:aF (e::es) X.env=(false,eval e X.env)::aF es X.env:=by rfl) (g:(eI cx (aF es X.env)).any (·.1)=false:=by rfl):
  PE X (.Call (.Attribute o name dr) (e::es) [] cx) (VX X.K T r to t):=by
 intro c s σ H Q I h;refine xq q C l rfl (fS (ho c s σ H _ I h) λv s1 B=>?_);obtain⟨x,H1,L,G,ty,q1⟩:=B;obtain⟨h1,h2⟩:=Lq L G ty;refine⟨T,id,pa,slot,E,h1,h2,?_⟩;have J:=ha cx c s1 σ H1 _ L q1;rw[hs]at J ⊢;refine i6 (by show (false||(eI cx (aF es X.env)).any (·.1))=false;rw[g]<;>rfl) (uL ?_);exact fS J λU Y u=>by obtain⟨O,H2,I2,r2,q2⟩:=u;exact hm c Y σ H2 x O v U Q I2 G r2 q2
end
def Pm(X:Cx)(id:String)(r:V->List V->Hp->VK->Prop):Prop:=
 ∀(ap:List (av×Obj))(s:am)(σ:St)(H:Hp)(x:V)(xs:List V)(v:ah)(us:List ah)(Q:VK),Inv X ap σ H s->RelV x v->b9 xs us->r x xs H Q ->
  aK (bc X.prog X.w) X.A (call (.builtin id) (v::us)) (EP X ap σ Q) X.xe s
theorem b9.one{x:V}{c:List ah}(h:b9 [x] c):∃u,c=[u]/\RelV x u:=by
 cases h with
 |cons r h=>cases h;exact⟨_,rfl,r⟩
theorem b9.two{x y:V}{c:List ah}(h:b9 [x,y] c):∃u v,c=[u,v]/\RelV x u/\RelV y v:=by
 cases h with
 |cons r h=>cases h with
  |cons q h=>cases h;exact⟨_,_,rfl,r,q⟩
theorem b9.zero:∀{c:List ah},b9 [] c->c=[]
 |_,.nil=>rfl
theorem b9.dropLast{xs:List V}{c:List ah}(h:b9 xs c):b9 xs.dropLast c.dropLast:=by
 induction h with
 |nil=>exact .nil
 |cons r t ih=>
  cases t with
  |nil=>exact .nil
  |cons q t'=>exact .cons r ih
theorem b9.reverse{xs:List V}{c:List ah}(h:b9 xs c):b9 xs.reverse c.reverse:=by
 induction h with
 |nil=>exact .nil
 |cons r t ih=>rw[fT,fT];exact b9.append ih (.cons r .nil)
theorem b9.rep{xs:List V}{c:List ah}(h:b9 xs c):∀k:Nat,b9 (aZ k xs).flatten (aZ k c).flatten
 |0=>.nil
 |k+1=>by rw[iF,iF,xr,xr];exact b9.append h (b9.rep h k)
theorem Vv{α:Type}(l:List α):l.eraseIdx (l.length-1)=l.dropLast:=by
 induction l with
 |nil=>rfl
 |cons a r ih=>
  cases r with
  |nil=>rfl
  |cons b r=>
   have e:(a::b::r).length-1=((b::r).length-1)+1:=by have g:(a::b::r).length=r.length+2:=rfl;have c:(b::r).length=r.length+1:=rfl;ext
   rw[e,List.eraseIdx_cons_succ,ih]
   all_goals rfl
section
variable{X:Cx}{ap:List (av×Obj)}{σ:St}{H:Hp}{s:am}{l b:av}{xs ys zs:List V}
theorem Inv.lset{its its':List ah}{n:Nat}{f:Array ah->Array ah}{t':Nat}(I:Inv X ap σ H s)(o:H l=some (.lst xs))
  (e:s.heap.get? l=some { cls:=.type "list",data:=.seq its.toArray n }) (g:f its.toArray=its'.toArray) (c:b9 ys its') (hz:ys.length<=sizeLine):
  Inv X ap σ (fq H l (.lst ys)) { s with heap:=s.heap.update l (pi f),toks:=t' }:=by
 have q:=PySem.IsL.update e f;rw[g]at q;refine I.write (x:=l) (e:=l) (by rw[o];exact trivial) (.inl rfl) (λv u h hu=>(cT s.heap (pi f) (bC h)).trans hu) ⟨_,q⟩ ?_;exact⟨hz,its',_,c,q⟩
theorem Inv.lnew{its:List ah}{t':Nat}(I:Inv X ap σ H s)(c:b9 ys its)(hz:ys.length<=sizeLine):
  Inv X ap σ (fq H s.heap.objs.size (.lst ys)) { s with heap:=s.heap.push { cls:=.type "list",data:=.seq its.toArray },toks:=t' }:=
 I.laid (λ_ _ q=>al _ q) (ar _) ⟨hz,its,0,c,aC _ rfl⟩
theorem Inv.fresh(I:Inv X ap σ H s):H s.heap.objs.size=none:=I.hok.fresh (ar _)
theorem Inv.lstM(I:Inv X ap σ H s)(c:H l=some (.lst xs)):xs.length<=sizeLine/\∃(its:List ah)(n:Nat),b9 xs its/\xs.length=its.length/\s.heap.get? l=some { cls:=.type "list",data:=.seq its.toArray n }:=by obtain⟨z,its,n,r,e⟩:=I.hok l _ c;exact⟨z,its,n,r,r.length,e⟩
end
section
variable{X:Cx}
def zm:V->List V->Hp->VK->Prop:=λx c H Q=>∃l xs y,x=.ref l/\c=[y]/\H l=some (.lst xs)/\xs.length < sizeLine/\Q .non (fq H l (.lst (xs++[y])))
theorem Mt:Pm X "list.append" zm:=by intro c s σ H x E v G Q I o B h;obtain⟨l,xs,y,rfl,rfl,g,hz,q⟩:=h;cases o;obtain⟨u,rfl,C⟩:=B.one;obtain⟨z,its,n,r,J,e⟩:=I.lstM g;refine uM F.slot_list_append ⟨_,e,rfl⟩ F.entry_list_append (F.args_list_append_2 _ _) (PySem.list_append l its.toArray n u (by rw[aH];ext)) ⟨e,?_⟩;refine⟨.non,_,I.lset (its':=its++[u]) g e (by simp) (r.append (.cons C .nil)) ?_,rfl,q⟩;rw[au,dL];ext
def JR:V->List V->Hp->VK->Prop:=λx c H Q=>∃l xs y,x=.ref l/\c=[]/\H l=some (.lst xs)/\xs[xs.length-1]?=some y/\Q y (fq H l (.lst xs.dropLast))
theorem XU:Pm X "list.pop" JR:=by
 intro o s σ H x O v T Q I C E h;obtain⟨l,xs,y,rfl,rfl,B,J,q⟩:=h;cases C;have g:=E.zero;subst g;obtain⟨z,its,n,r,L,e⟩:=I.lstM B;obtain⟨u,hu,G⟩:=r.get J;have c:its.toArray[its.toArray.size-1]?=some u:=by show its.toArray[its.length-1]?=some u;rw[<- dI,<- L];exact hu
 refine uM F.slot_list_pop ⟨_,e,rfl⟩ F.entry_list_pop (F.args_list_pop_1 _) (MeetsSeq.list_pop_last l its.toArray n u c (by rw[aH];ext)) ⟨e,?_⟩;refine⟨y,_,I.lset (its':=its.dropLast) B e ?_ r.dropLast ?_,G,q⟩
 ·show its.toArray.eraseIdxIfInBounds (its.toArray.size-1)=its.dropLast.toArray;rw[aH,List.eraseIdxIfInBounds_toArray,Vv]
 ·rw[ve];ext
def Ld:R2:=λx y H Q=>∃l b xs zs,x=.ref l/\y=.ref b/\H l=some (.lst xs)/\H b=some (.lst zs)/\xs.length+zs.length<=sizeLine/\∀p,H p=none->Q (.ref p) (fq H p (.lst (xs++zs)))
theorem Uc:OpR X (fj .Add) Ld:=by
 intro g s σ H x y v u Q I B o h;obtain⟨l,b,xs,zs,rfl,rfl,G,J,hz,q⟩:=h;cases B;cases o;obtain⟨z,its,n,r,Y,e⟩:=I.lstM G;obtain⟨T,c,U,C,E,O⟩:=I.lstM J;refine PySem.P.add_list e O ?_ (by rw[aH,aH];ext);have L:its.toArray++c.toArray=(its++c).toArray:=by simp
 rw[L];exact⟨.ref _,_,I.lnew (t':=s.toks) (r.append C) (by rw[au];ext),rfl,q _ I.fresh⟩
end
section
variable{prog:Program}{w:bG}{A:bB}{E:ah->am->Prop}{s:am}
theorem Y4{a c n:Nat}(g:a<=c)(o:c<=n):fJ (some (a:Int)) (some (c:Int)) none n=((a:Int),(c:Int),1):=by
 simp only[fJ,pJ];have l:¬ ((a:Int) < 0):=by ext
 have h:¬ ((c:Int) < 0):=by ext
 simp only[l,h,if_false,show (1:Int) > 0 by decide,if_true];congr 1
 ·ext
 ·congr 1;ext
end
end L2
namespace Att
open PySem PySem.W PySem.Calls PyProof.Rows
theorem Xa{P:Cu}{h:bQ}:∀(c:List Int)(g:List ah),WellAll P h g (c.map Hh)->ic g c:=by
 intro c
 induction c with
 |nil=>
  intro g w;rw[lA]at w;cases w;exact .nil
 |cons n c ih=>
  intro g w;rw[aI]at w;cases w with
  |cons a b=>
   cases a;exact .cons _ _ (ih _ b)
theorem Pt{l:OpenLaw}{n:Nat}(J:l.most=some n){P:Cu}{h:bQ}{args:List WData}{g:List ah}
  (o:l.row.toRowW.claim.pre args=true) (C:WellAll P h g args):
  ∃a G c,g=[bj a]/\args=[WData.list (c.map Hh)]/\h.get? a=some { cls:=.type "list",data:=.seq G.toArray }/\ic G c/\c.length<=n:=by
 have E:WShape.hasAll [] args [.list .int]=true:=(pre_splitW o).1;have H:l.pre.holds [] { args:=args }=true:=(pre_splitW o).2;obtain⟨d,r,rfl,Q,O⟩:=hasAllW_cons E;obtain rfl:=hasAllW_nil O;obtain⟨xs,rfl,L⟩:=hasW_list Q;obtain⟨c,rfl⟩:=items_int L;have u:c.length<=n:=by
  unfold OpenLaw.pre at H;have B:(WTm.not (.lt (.lit (.int (n:Int))) (.len (.arg 0)))).holds [] { args:=[.list (c.map .int)] }=true:=by have B:=(holds_andW H).1;rw[J]at B;exact B
  have v:=condW_of B (w_not (w_lt w_lit (w_len_list (w_arg rfl))));rw[ae]at v;refine qO λq=>?_;have I:(n:Int) < ((c.length:Nat):Int):=by ext
  first
   | (rw[bF I]at v;exact ba v (by decide))
   | (simp at v;ext)
 cases C with
 |cons w1 w2=>
  cases w2;cases w1 with
  |list ho hall=>exact⟨_,_,c,rfl,rfl,ho,Xa c _ hall,u⟩
theorem Ro(l:OpenLaw)(args:List WData):l.row.toRowW.claim.post args (.bool true) args=true:=
 postW_of (r:=l.row.toRowW) (X:=(true == true))
  (show Dg [] (.bool true) .bool=true by first|rfl|decide|simp[Dg,WShape.arms,WShape.armsAll])
  (show (WTm.eq .res (.lit (.bool true))).value [] { args:=args,res:=some (.bool true),after:=args }=some (.bool (true == true)) from w_eq_bool (w_res rfl) w_lit) rfl
theorem tZ{l:OpenLaw}{n:Nat}{q:Program}{c:List Str}{XP:(Str->Option ah)->bQ->Prop}{YP:bG->bQ->Prop}{d:DefRec}
  (hn:l.most=some n) (U:d.params.defaults=[])
  (call:∀(w:bG)(s₀ s₁:am)(mg O:Str->Option ah)(E:av)(o:Obj)(L J h:ah)(a:av)(u:List ah)(I:List Int),
   Ground q c [] XP w s₀ mg O s₁.heap->YP w s₁.heap ->
   s₁.heap.get? E=some o->o.data=.func (docDef d.name d.params d.body d.scope L J h)->s₁.heap.CodeRec J d.name->mg d.name=some (.ref E) ->
   s₁.heap.get? a=some { cls:=.type "list",data:=.seq u.toArray }->ic u I->I.length<=n->s₁.gens=#[] ->
   ml (bc l.prog w) pK (.call (.ref E) ⟨[.ref a],[]⟩) (λr H=>r=.ok (.ret (.bool true))/\OldK s₁.heap H.heap/\H.os=s₁.os/\n9 H.gens) s₁):
  WalkO q c XP YP l.row.toRowW d [] (λf u=>rN f u):=by
 intro w s₀ s₁ mg O G Y E o L J h dV kV ho hd hcd hD T hg args vals as v hlay hrd Q hlo;obtain rfl:dV=.none:=Dflts.none hD U;obtain rfl:kV=.none:=Dflts.noKw hD;obtain⟨a,u,I,rfl,rfl,B,g,C⟩:=Pt hn v Q;refine enter_call (xl (call w s₀ s₁ mg O E o L J h a u I G Y ho (fd_plain hd) hcd T B g C hg) λr H hq=>?_);obtain⟨rfl,h2,h3,h4⟩:=hq;exact⟨.inl ⟨.bool true,.bool true,[],rfl,λ_=>rfl,.bool true,Ro l _,λ_=>⟨List.Pairwise.nil,λ_ hm=>(nomatch hm)⟩⟩,h2,h3,h4⟩
end Att
namespace L2
open PySem PySem.Spec PyProof.Rows
theorem O3:∀{c:List ah}{g:List Int},ic c g->b9 (g.map V.int) c
 |_,_,.nil=>.nil
 |_,_,.cons n t h=>.cons ⟨t,rfl⟩ (O3 h)
noncomputable def wP(H:Hp):Prop:=∀b,H b=none\/∃o xs,H b=some (.frz o (.lst xs))
theorem W6{P:Program}{w:bG}{K:ak}{mg mb:Str->Option ah}{CX:vA}{k:Nat}{fa a:av}{fd:dJ}{x:Str}{sp:Sp}{s₁:am}{E:List ah}{L:List Int}
  (KX:K.In s₁.heap) (U:s₁.heap.Ns dO mg) (g:s₁.heap.Ns Co mb) (hbb:∀x:Str,x≠"__name__"->mb x=cI x) (Y:s₁.heap.NoLimit) (hg:s₁.gens=#[])
  (ha:s₁.heap.get? a=some { cls:=.type "list",data:=.seq E.toArray }) (hi:ic E L) (hl:L.length<=sizeLine) (hr:kA k pK)
  (F:∀base:bQ,K.In base->base.Ns dO mg->mY P w K mg base CX k fa fd [x] sp) (G:∀(s:am)(u:ah),rJ s fd ⟨[u],[]⟩ [(x,u)])
  (hsp:∀H:Hp,wP H->gD K H a (L.map V.int)->sp [.ref a] H (λv _=>v=.bl true) λ_ _ _=>False)
  (hCX:∀H e l,CX [] H s₁ (λ_ _ _=>False) e l->False):
  ml (bc P w) pK (.call (.ref fa) ⟨[.ref a],[]⟩) (λr l=>r=.ok (.ret (.bool true))/\OldK s₁.heap l.heap/\l.os=s₁.os/\n9 l.gens) s₁:=by
 have rv:=O3 hi;have O:=hi.length;have C : ∀H : Hp, wP H -> gD K H a (L.map V.int) -> oq P w H s₁.heap -> (∀b, H b ≠ none -> b = a) -> (H a ≠ none -> K.lookup a = none) ->
   ml (bc P w) pK (.call (.ref fa) ⟨[.ref a],[]⟩) (λr l=>r=.ok (.ret (.bool true))/\OldK s₁.heap l.heap/\l.os=s₁.os/\n9 l.gens) s₁:=by
  intro H hO hS T hA hK;have c:∀{b:av}{o:Obj},s₁.heap.get? b=some o->H b=none->(sH s₁.heap H).get? b=some o:=λe n=>VO e n;have noA:∀{b:av}{o:Obj}{es:Array ky}{ep:Nat},s₁.heap.get? b=some o->o.data=.dict es ep->H b=none:=λ{b o es ep}e d=>by
   cases q:H b with
   |none=>rfl
   |some u=>
    have e':b=a:=hA b (by rw[q];simp);subst e';rw[ha]at e;cases e;have d':Data.seq E.toArray _=Data.dict es ep:=d;cases d'
  have B:∀{b:av}{m:Str->Option ah},s₁.heap.Ns b m->(sH s₁.heap H).Ns b m:=λ{b m}J=>by obtain⟨o,es,ep,e,d,r⟩:=J;exact⟨o,es,ep,c e (noA e d),d,r⟩
  have hKb:K.In (sH s₁.heap H):=λb o e=>c (KX b o e) (by
   cases q:H b with
   |none=>rfl
   |some u=>
    have e':b=a:=hA b (by rw[q];simp);subst e';rw[hK (by rw[q];simp)]at e;cases e)
  have hM:Mod K mg (sH s₁.heap H):=⟨hKb,B U,⟨mb,B g,hbb⟩,let ⟨mc,h1,h2⟩:=Y;⟨mc,B h1,h2⟩⟩
  have e0:yB P w K mg (sH s₁.heap H) pK [] s₁ H:=⟨rfl,hM,λb o e=>Xi e,uN (VY _ _),trivial,λb g=>ba (show b∈([]:List av) from g) (by simp),T,.of_eq hg⟩
  refine xl ((F _ hKb (B U)).run pK [] s₁ H ⟨[.ref a],[]⟩ [.ref a] [.ref a] _ _ hr e0 (G s₁ (.ref a)) (.cons rfl .nil) (hsp H hO hS)) λr l h=>?_;cases r with
  |error e=>exact (hCX H e l h).elim
  |ok fl=>
   cases fl with
   |next=>exact ik h
   |brk=>exact ik h
   |cont=>exact ik h
   |ret u=>
    obtain⟨v,H',os,bare,un,Q,r',q⟩:=h;have q':v=.bl true:=q;subst q';obtain rfl:u=cS true:=r';refine⟨rfl,OldK.of_keep λb o e=>?_,os,bare⟩;cases q:H b with
    |none=>exact un.keep b o e q (by intro z;exact ba (show b∈([]:List av) from z) (by simp)) (by simp)
    |some u=>
     rcases hO b with z|⟨ob,xs,z⟩
     ·rw[q]at z;cases z
     ·have g:=un.frzs b ob _ z;obtain⟨c,_⟩:=T b _ z;obtain⟨h,_⟩:=Q b _ g;rw[e]at c;cases c;exact h
 cases hk:K.lookup a with
 |some o=>
  have e:=KX a o hk;rw[ha]at e;cases e;refine C (λ_=>none) (λ_=>.inl rfl) (.inr ⟨_,E.toArray,_,hk,rfl,rfl,rfl,by rw[aH,O];exact hl,by simpa using rv⟩) (λb u z=>by have I:(none:Option HO)=some u:=z;cases I) (λb z=>ba rfl z) λz=>ba rfl z
 |none=>
  refine C (λb=>if b=a then some (.frz { cls:=.type "list",data:=.seq E.toArray } (.lst (L.map V.int))) else none) (λb=>?_) (.inl (.inr ⟨{ cls:=.type "list",data:=.seq E.toArray },aE rfl⟩)) (λb u z=>?_) (λb z=>?_) λ_=>hk
  ·by_cases g:b=a
   ·exact .inr ⟨_,_,aE g⟩
   ·exact .inl (aA g)
  ·by_cases g:b=a
   ·have I:=(aE g).symm.trans z;cases I;subst g;exact⟨ha,by rw[ae];exact hl,E,_,rv,ha⟩
   ·have I:=(aA g).symm.trans z;cases I
  ·by_cases g:b=a
   ·exact g
   ·exact ba (aA g) z
theorem yv{l:p_}{n k:Nat}{q:Program}{g:List Str}{XP:(Str->Option ah)->bQ->Prop}{YP:bG->bQ->Prop}{d:DefRec}{K:Cu->ak}{CX:bG->vA}{sp:bG->Sp}{x:Str}
  (hn:l.most=some n) (O:n<=sizeLine) (T:d.params.defaults=[]) (hr:kA k pK)
  (hY:∀(w:bG)(h:bQ),YP w h->(K w.params).In h)
  (F:∀(w:bG)(mg:Str->Option ah)(I:av)(h:bQ),(K w.params).In h->h.Ns dO mg->mg d.name=some (.ref I) ->
   ∃fd:dJ,(∀(s:am)(u:ah),rJ s fd ⟨[u],[]⟩ [(x,u)]) /\
    ∀base:bQ,(K w.params).In base->base.Ns dO mg->mY l.prog w (K w.params) mg base (CX w) k I fd [x] (sp w))
  (L:∀(w:bG)(H:Hp)(a:av)(E:List Int),E.length<=n->wP H->gD (K w.params) H a (E.map V.int)->sp w [.ref a] H (λv _=>v=.bl true) λ_ _ _=>False)
  (U:∀(w:bG)(H:Hp)(s:am)(e:ah)(J:am),CX w [] H s (λ_ _ _=>False) e J->False):
  rO q g XP YP l.row.toRowW d [] (λf vs=>rN f vs):=by
 refine Att.tZ hn T λw s₀ s₁ mg mb I o pm cd doc a vs E G Y ho hd hcd Q C B c hg=>?_;have KX:=hY w _ Y;obtain⟨fd,hb,hF⟩:=F w mg I _ KX G.T.g Q;exact W6 KX G.T.g G.T.b G.T.builtins G.T.nolimit hg C B (bW c O) hr hF hb (λH hO hS=>L w H a E c hO hS) λH e J=>U w H s₁ e J
theorem wU{l:p_}{n k:Nat}{q:Program}{c:List Str}{XP:(Str->Option ah)->bQ->Prop}{L:bG->bQ->Prop}{d:DefRec}{K:Cu->ak}{CX:vA}{sp:ak->Sp}{x:Str}
  (T:l.most=some n) (C:n<=sizeLine) (E:d.params.defaults=[]) (Q:kA k pK)
  (U:∀(w:bG)(h:bQ),L w h->(K w.params).In h)
  (F:∀(w:bG)(mg:Str->Option ah)(J:av)(h:bQ),(K w.params).In h->h.Ns dO mg->mg d.name=some (.ref J) ->
   ∃I:dJ,(∀(s:am)(u:ah),rJ s I ⟨[u],[]⟩ [(x,u)]) /\
    ∀base:bQ,(K w.params).In base->base.Ns dO mg->mY l.prog w (K w.params) mg base CX k J I [x] (sp (K w.params)))
  (B:∀(K:ak)(H:Hp)(a:av)(g:List Int),g.length<=n->wP H->gD K H a (g.map V.int)->sp K [.ref a] H (λv _=>v=.bl true) λ_ _ _=>False)
  (G:∀(H:Hp)(s:am)(e:ah)(o:am),CX [] H s (λ_ _ _=>False) e o->False):
  rO q c XP L l.row.toRowW d [] (λf O=>rN f O):=
 yv (K:=K) (CX:=λ_=>CX) (sp:=λw=>sp (K w.params)) T C E Q U F (λw H a g h1 h2 Y=>B (K w.params) H a g h1 h2 Y) λ_ H s e o=>G H s e o
noncomputable def gT(s:gM):Arguments:=match s with
 | .FunctionDef _ a _ _ _ _ _ _ _ _=>a
 |_=>{ posonlyargs:=[],args:=[],vararg:=none,kwonlyargs:=[],kw_defaults:=[],kwarg:=none,defaults:=[] }
noncomputable def eL(s:gM):List gM:=match s with
 | .FunctionDef _ _ b _ _ _ _ _ _ _=>b
 |_=>[]
noncomputable def bY(s:gM):eO:=match s with
 | .FunctionDef _ _ _ _ _ _ sc _ _ _=>sc
 |_=>{ kind:=.function,names:=[],isGenerator:=false,isCoroutine:=false }
noncomputable abbrev sU:vA:=λ_ _ _ _ _ _=>False
noncomputable abbrev E0:XK:=λ_ _ _=>False
theorem MY{X:Cx}:sI sU X E0:=λ_ _ _ _ _ _ _ h=>h.elim
structure wN(K:ak)(x qual:Str)(st:gM)(f:av)(fd:dJ):Prop where
 ex:∃(oc:ah)(od:Option av)(kV doc pm:ah)(an:Option av)(cdv ct:ah)(osl:Array (Option ah)),
  fd=c_ x qual (gT st) (eL st) (bY st) .none kV doc pm an cdv ct/\K.lookup f=some ⟨oc,od,.func fd,osl⟩/\ib K cdv qual=true
 kp:dG K (.ref f)=true
section
variable{P:Program}{w:bG}{K:ak}{mg:Str->Option ah}{base:bQ}
theorem wN.ok{x qual:Str}{st:gM}{f:av}{B:dJ}{N o:List Str}{k:Nat}{sp:Sp}(F:wN K x qual st f B)(S:lL N o (bY st))(len:∀g H Q E,sp g H Q E->g.length=o.length)
  (l:∀(c:ah)(A:bB)(outer:List Env)(s:am)(H:Hp)(g:List V)(Q:VK)(E:XK),kA k (A.deeper (np qual (bY st) s.heap.objs.size f c))->sp g H Q E ->
   ∃t,PSs (rC sU P w K mg base N qual (bY st) f c A outer s H E).nox (eL st) t/\t { nx:=λ_ L=>Q .non L,rt:=Q } (start N g) H):mY P w K mg base sU (k+1) f B o sp:=by
 obtain⟨U,T,kV,J,O,Y,c,ct,C,rfl,G,v⟩:=F.ex;refine NM G v S len λA outer s H g Q E I u=>?_;obtain⟨t,h,q⟩:=l c A outer s H g Q E I u;exact⟨t,h.nox,q⟩
theorem wN.binds{x qual:Str}{st:gM}{f:av}{v:dJ}{o:List Str}(F:wN K x qual st f v)
  (h:∀(kV c q:ah)(u:Option av)(g ct:ah)(l:List ah),l.length=o.length->rK (c_ x qual (gT st) (eL st) (bY st) .none kV c q u g ct) ⟨l,[]⟩=pure (o.zip l)):Binds K v o []:=by
 obtain⟨G,E,kV,c,q,u,g,ct,B,rfl,H,C⟩:=F.ex;exact .all (h kV c q u g ct)
theorem QT{x qual:Str}{st:gM}{f:av}{B:ah}{v u:Option av}{o:Array (Option ah)}{kV h q g ct:ah}(l:K.lookup f=some ⟨B,v,.func (c_ x qual (gT st) (eL st) (bY st) .none kV h q u g ct),o⟩)
  (c:ib K g qual=true) (k:dG K (.ref f)=true):wN K x qual st f (c_ x qual (gT st) (eL st) (bY st) .none kV h q u g ct):=⟨⟨B,v,kV,h,q,u,g,ct,o,rfl,l,c⟩,k⟩
end
section
variable{κ:Type}[DecidableEq κ]
noncomputable def pU(c:List (κ×V))(k:κ):Option V:=(c.find? λg=>decide (g.1=k)).map (·.2)
noncomputable def mG(c:List (κ×V))(k:κ)(v:V):List (κ×V):=
 if (c.any λg=>decide (g.1=k))=true then c.map (λg=>if g.1=k then (g.1,v) else g) else c++[(k,v)]
theorem Gn{p:κ×V}{r:List (κ×V)}{k:κ}(e:p.1=k):pU (p::r) k=some p.2:=by simp[pU,cD,e]
theorem Gm{p:κ×V}{r:List (κ×V)}{k:κ}(e:¬ p.1=k):pU (p::r) k=pU r k:=by simp[pU,cD,e]
theorem Ls(k:κ):∀c:List (κ×V),(c.any λg=>decide (g.1=k))=(pU c k).isSome
 |[]=>rfl
 |p::r=>by
  rw[d8];by_cases e:p.1=k
  ·simp only[Gn e,bF e,Bool.true_or,iP]
  ·rw[Gm e,aT e,Cv];exact Ls k r
theorem Io(c:List (κ×V))(k:κ)(v:V):(mG c k v).length<=c.length+1:=by
 unfold mG;split
 ·rw[ae];ext
 ·rw[au,bp,fP];ext
theorem o7.isSome_eq{o:Option V}{u:Option ah}(r:o7 o u):o.isSome=u.isSome:=by
 cases o with
 |none=>cases u with
  |none=>rfl
  |some _=>exact (show False from r).elim
 |some _=>cases u with
  |none=>exact (show False from r).elim
  |some _=>rfl
theorem KV.val{c:List (κ×V)}{l:List (κ×ah)}(r:KV c l)(k:κ):o7 (pU c k) (rP l k):=by
 unfold KV at r
 induction r with
 |nil=>exact da
 |@cons p q ps qs h t ih=>
  obtain⟨o,u⟩:=h;by_cases e:p.1=k
  ·have g:q.1=k:=o.symm.trans e;have b:rP (q::qs) k=some q.2:=by simp[rP,cD,g]
   rw[Gn e,b];exact u
  ·have g:¬ q.1=k:=λz=>e (o.trans z);have b:rP (q::qs) k=rP qs k:=by simp[rP,cD,g]
   rw[Gm e,b];exact ih
theorem KV.any{c:List (κ×V)}{l:List (κ×ah)}(r:KV c l)(k:κ):(c.any λg=>decide (g.1=k))=l.any λg=>decide (g.1=k):=by
 unfold KV at r
 induction r with
 |nil=>rfl
 |cons h t ih=>rw[d8,d8,ih,h.1]
theorem KV.repl{g:List (κ×V)}{o:List (κ×ah)}(r:KV g o)(k:κ){y:V}{u:ah}(v:RelV y u):
  KV (g.map λc=>if c.1=k then (c.1,y) else c) (o.map λc=>if c.1=k then (c.1,u) else c):=by
 unfold KV at r ⊢
 induction r with
 |nil=>exact .nil
 |@cons p q ps qs h t ih=>
  rw[aI,aI];refine .cons ?_ ih;obtain⟨l,B⟩:=h;by_cases e:p.1=k
  ·rw[aE e,aE (l.symm.trans e)];exact⟨l,v⟩
  ·rw[aA e,aA (λz=>e (l.trans z))];exact⟨l,B⟩
theorem KV.put{c:List (κ×V)}{g:List (κ×ah)}(r:KV c g)(k:κ){y:V}{u:ah}(h:RelV y u):KV (mG c k y) (stored g k u):=by
 unfold mG stored;rw[r.any k];by_cases e:(g.any λl=>decide (l.1=k))=true
 ·rw[aE e,aE e];exact r.repl k h
 ·rw[aA e,aA e];exact nE r ⟨rfl,h⟩
theorem KV.length{c:List (κ×V)}{g:List (κ×ah)}(r:KV c g):c.length=g.length:=dj r
end
theorem Fs{P:Program}{w:bG}{k:Key}{u:ah}(r:RelV (kV k) u):(fX P w).is k u=true:=by
 cases k with
 |inl i=>obtain⟨t,e⟩:=(show ∃t,u=gA i t from r);subst e;exact Xu P w i t
 |inr x=>obtain⟨t,e⟩:=(show ∃t,u=iT x t from r);subst e;exact Vr P w x t
theorem Oq{P:Program}{w:bG}:∀{ks:List Key}{c:List ah},b9 (ks.map kV) c->ItemsAre (fX P w) ks c
 |[],_,r=>by rw[lA]at r;cases r;exact .nil
 |k::ks,_,r=>by
  rw[aI]at r;cases r with
  |cons h t=>exact .cons (Fs h) (Oq t)
abbrev KT(H:Hp):List (List Key×V)->List (List Key×av×ah)->Prop:=kK λp q=>p.1=q.1/\H q.2.1=some (.tup (p.1.map kV))/\RelV p.2 q.2.2
theorem KT.val{H:Hp}{c:List (List Key×V)}{xs:List (List Key×av×ah)}(r:KT H c xs)(k:List Key):o7 (pU c k) ((i7 xs k).map (·.2)):=by
 induction r with
 |nil=>exact da
 |@cons p q ps qs h t ih=>
  obtain⟨l,_,o⟩:=h;by_cases e:p.1=k
  ·have g:q.1=k:=l.symm.trans e;have b:i7 (q::qs) k=some q.2:=by simp[i7,cD,g]
   rw[Gn e,b];exact o
  ·have g:¬ q.1=k:=λz=>e (l.trans z);have b:i7 (q::qs) k=i7 qs k:=by simp[i7,cD,g]
   rw[Gm e,b];exact ih
theorem KT.repl{H:Hp}{c:List (List Key×V)}{xs:List (List Key×av×ah)}(r:KT H c xs)(k:List Key){y:V}{u:ah}(v:RelV y u):
  KT H (c.map λl=>if l.1=k then (l.1,y) else l) (xs.map (tj k u)):=by
 induction r with
 |nil=>exact .nil
 |@cons p q ps qs h t ih=>
  rw[aI,aI];refine .cons ?_ ih;obtain⟨g,o,B⟩:=h;unfold tj;by_cases e:p.1=k
  ·rw[aE e,aE (g.symm.trans e)];exact⟨g,o,v⟩
  ·rw[aA e,aA (λz=>e (g.trans z))];exact⟨g,o,B⟩
theorem KT.put{H:Hp}{c:List (List Key×V)}{xs:List (List Key×av×ah)}(r:KT H c xs)(k:List Key){b:av}{y:V}{u:ah}(l:H b=some (.tup (k.map kV)))(g:RelV y u):
  KT H (mG c k y) (lB xs k b u):=by
 have e:(c.any λh=>decide (h.1=k))=(i7 xs k).isSome:=by rw[Ls,(r.val k).isSome_eq,lU]
 unfold mG lB;rw[e];by_cases q:(i7 xs k).isSome=true
 ·rw[aE q,aE q];exact r.repl k g
 ·rw[aA q,aA q];exact nE r ⟨rfl,l,g⟩
theorem KT.keeps{H g:Hp}{c:List (List Key×V)}{xs:List (List Key×av×ah)}(r:KT H c xs)(h:∀b ys,H b=some (.tup ys)->g b=some (.tup ys)):KT g c xs:=
 kK.mapP r λ_ _ z=>⟨z.1,h _ _ z.2.1,z.2.2⟩
section
variable{P:Program}{w:bG}{H:Hp}{h:bQ}{a:av}
theorem M1{u:HO}(ok:oq P w H h)(e:Rd H a u):eT P w H h a u:=e.ok ok
theorem GA{c:List (Key×V)}(ok:oq P w H h)(e:Rd H a (.dK c)):c.length<=sizeLine/\(a == cR)=false/\∃g,KV c g/\h.DictOf (fX P w) a g:=
 show eT P w H h a (.dK c) from M1 ok e
theorem JO{c:List (Key×V)}(ok:oq P w H h)(e:H a=some (.dK c)):c.length<=sizeLine/\(a == cR)=false/\∃g,KV c g/\h.DictOf (fX P w) a g:=GA ok (.inl e)
theorem GD{ks:List Key}(ok:oq P w H h)(e:H a=some (.tup (ks.map kV))):(sM (fX P w)).is h ks a:=by
 obtain⟨_,its,r,o,l,g,⟨n,c⟩,_⟩:=(show eT P w H h a (.tup (ks.map kV)) from ok a _ e)
 exact⟨o,its.toArray,n,l,g,c,by simpa using Oq r⟩
theorem Iq{c:List (List Key×V)}(ok:oq P w H h)(e:Rd H a (.dT c)): c.length<=sizeLine/\(a == cR)=false /\
  ∃xs,KT H c xs/\h.DictOfH (sM (fX P w)) a xs:=by
 obtain⟨z,y,xs,r,o,G,ep,E,C,B,v,u⟩:=(show eT P w H h a (.dT c) from M1 ok e)
 refine⟨z,y,xs,r,o,G,ep,E,C,B,v,λx g=>?_,u⟩;have all:∀{l:List (List Key×V)}{m:List (List Key×av×ah)},KT H l m->∀x∈m,(sM (fX P w)).is h x.1 x.2.1:=by
  intro l m q
  induction q with
  |nil=>intro x g;exact nomatch g
  |@cons p q ps qs hq t ih=>
   intro x g;rcases bb.mp g with e|g
   ·subst e;exact GD ok (by rw[<- hq.1];exact hq.2.1)
   ·exact ih x g
 exact all r x g
theorem Ry{c:List (List Key×V)}(ok:oq P w H h)(e:H a=some (.dT c)): c.length<=sizeLine/\(a == cR)=false /\
  ∃xs,KT H c xs/\h.DictOfH (sM (fX P w)) a xs:=Iq ok (.inl e)
end
def vF(H:Hp)(a:av)(y:V)(r:Option V):Prop:=
 (∃c k,Rd H a (.dK c)/\y=kV k/\r=pU c k)\/∃c k b,Rd H a (.dT c)/\y=.ref b/\H b=some (.tup (k.map kV))/\r=pU c k
def yK(H:Hp)(a:av)(y v:V)(g:Hp):Prop:=
 (∃c k,H a=some (.dK c)/\y=kV k/\c.length < sizeLine/\g=fq H a (.dK (mG c k v))) \/
 ∃c k b,H a=some (.dT c)/\y=.ref b/\H b=some (.tup (k.map kV))/\c.length < sizeLine/\g=fq H a (.dT (mG c k v))
theorem vF.k{H:Hp}{a:av}{c:List (Key×V)}{k:Key}(e:H a=some (.dK c)):vF H a (kV k) (pU c k):=.inl ⟨c,k,.inl e,rfl,rfl⟩
theorem yK.k{H:Hp}{a:av}{c:List (Key×V)}{k:Key}{v:V}(e:H a=some (.dK c))(g:c.length < sizeLine):yK H a (kV k) v (fq H a (.dK (mG c k v))):=.inl ⟨c,k,e,rfl,g,rfl⟩
section
variable{X:Cx}{ap:List (av×Obj)}{σ:St}{H:Hp}{s:am}{a:av}{y v:V}{u r:ah}{o:Option V}{A:bB}{E:ah->am->Prop}
theorem Inv.big(I:Inv X ap σ H s):cR < s.heap.objs.size:=by have h:dO < s.heap.objs.size:=(I.mod.glob.keeps I.bk).lt;exact qc (by decide) h
theorem Yr{Q:ah->am->Prop}(hu:A.units+1 < cC)(I:Inv X ap σ H s)(g:vF H a y (some v))(U:RelV y u)(h:∀B T,Inv X ap σ H T->RelV v B->Q B T):
  aK (bc X.prog X.w) A (pH (.ref a) u) Q E s:=by
 rcases g with ⟨C,k,e,L,l⟩|⟨C,k,b,e,L,eb,l⟩
 ·subst L;obtain⟨z,hd,Y,q,O⟩:=GA I.hok e;obtain⟨B,G,c⟩:=o7.some_of (v:=v) (o:=rP Y k) (by rw[l];exact q.val k);exact wpAny_getItem_of (Fs U) O.mapOf G (h B _ (I.tok _) c)
 ·subst L;cases (show u=bj b from U);obtain⟨z,hd,xs,q,O⟩:=Iq I.hok e;obtain⟨B,G,c⟩:=o7.some_of (v:=v) (o:=(i7 xs k).map (·.2)) (by rw[l];exact q.val k);obtain⟨p,g,J⟩:=fk.mp G;refine Cw (qQ hu) (GD I.hok eb) O g ?_;rw[J];exact h B _ (I.tok _) c
theorem SF{Q:ah->am->Prop}(hu:A.units+1 < cC)(I:Inv X ap σ H s)(g:vF H a y o)(L:RelV y u)(h:∀J,Inv X ap σ H J->Q (.bool (!o.isSome)) J):
  aK (bc X.prog X.w) A (dg .NotIn u (.ref a)) Q E s:=by
 rcases g with ⟨B,k,e,C,l⟩|⟨B,k,b,e,C,O,l⟩
 ·subst C;obtain⟨z,hd,T,c,G⟩:=GA I.hok e;refine wpAny_notIn_of (Fs L) hd G.mapOf ?_;rw[<- (c.val k).isSome_eq,<- l];exact h _ (I.tok _)
 ·subst C;cases (show u=bj b from L);obtain⟨z,hd,xs,c,G⟩:=Iq I.hok e;refine FU (qQ hu) (GD I.hok O) hd G ?_;have q:=(c.val k).isSome_eq;rw[lU]at q;rw[<- q,<- l];exact h _ (I.tok _)
theorem C2{h':bQ}{t':Nat}{c:HO}(I:Inv X ap σ H s)(g:EV (H a))(h:cJ a s.heap h')(l:∃q,h'.get? a=some q)(new:eT X.prog X.w (fq H a c) h' a c):
  Inv X ap σ (fq H a c) { s with heap:=h',toks:=t' }:=
 I.write (x:=a) (e:=a) g (.inl rfl) (λb q B z=>(h.2 b B).trans z) l new
theorem LZ{P:Program}{w:bG}{q:Hp}{h':bQ}{c:List (Key×V)}{g:List (Key×ah)}(z:c.length<=sizeLine)(hd:(a == cR)=false)(h:KV c g)(l:h'.DictOf (fX P w) a g):
  eT P w q h' a (.dK c):=⟨z,hd,g,h,l⟩
theorem Rv{H':Hp}{Q:Unit->am->Prop}(hu:A.units+1 < cC)(I:Inv X ap σ H s)(g:yK H a y v H')(ry:RelV y u)(rv:RelV v r)(h:∀o,Inv X ap σ H' o->Q () o):
  aK (bc X.prog X.w) A (og (.ref a) u r) Q E s:=by
 rcases g with ⟨C,k,e,T,l,U⟩|⟨C,k,b,e,T,eb,l,U⟩
 ·subst T U;obtain⟨z,hd,c,B,Y⟩:=JO I.hok e;have hz:c.length<=sizeLine:=by rw[<- B.length];exact z
  have O:(mG C k v).length<=sizeLine:=by have:=Io C k v;ext
  refine wpAny_setItem_pairs (hsz:=hz) (Fs ry) Y λh' G L=>h _ ?_;have g:∃q,h'.get? a=some q:=let ⟨q,_,_,J,_⟩:=G;⟨q,J⟩
  exact C2 I (by rw[e];exact da) L g (LZ O hd (B.put k rv) G)
 ·subst T U;cases (show u=bj b from ry);obtain⟨z,hd,xs,B,Y⟩:=Ry I.hok e;have hz:xs.length<=sizeLine:=by rw[<- dj B];exact z
  have O:(mG C k v).length<=sizeLine:=by have:=Io C k v;ext
  refine wpAny_setItem_heap (hsz:=hz) (qQ hu) (GD I.hok eb) Y λh' G L=>h _ ?_;obtain⟨q,Q,ep,J,H,E,o,_,l⟩:=G;refine C2 I (by rw[e];exact da) L ⟨q,J⟩ ⟨O,hd,_,(B.put k eb rv).keeps λc ys g=>?_,q,Q,ep,J,H,E,o,l⟩;rw[fI (XO g e nofun)];exact g
end
section
variable{X:Cx}{ap:List (av×Obj)}{σ:St}{H:Hp}{s:am}{a:av}{cp:List (Key×V)}{k:Key}{u:ah}{A:bB}{E:ah->am->Prop}
theorem Ve{Q:ah->am->Prop}(I:Inv X ap σ H s)(e:Rd H a (.dK cp))(h:∀t g,Inv X ap σ H g->Q (.int cp.length t) g):aK (bc X.prog X.w) A (call (.builtin "len") [.ref a]) Q E s:=by obtain⟨z,hd,o,c,l⟩:=GA I.hok e;refine call_len_dict hd l (by rw[<- c.length];rw[lH]at z;ext) ?_;rw[<- c.length];exact h _ _ (I.tok _)
end
theorem NJ{P:Program}{w:bG}{H:Hp}(h:bQ)(c:cR < h.objs.size):eT P w H (h.push { cls:=.type "dict",data:=.dict #[] }) h.objs.size (.dK []):=
 ⟨bu _,beq_eq_false_iff_ne.mpr (bC (bA c)),[],.nil,bQ.DictOf.new h⟩
def Bw:TE:=λ_ H Q=>∀p,H p=none->Q (.ref p) (fq H p (.dK []))
section
variable{X:Cx}{pos:Pos}
theorem X3:PE X (.Dict [] [] pos) Bw:=λc s σ H Q I h=>
 FV ⟨.ref s.heap.objs.size,_,I.laid (a:=s.heap.objs.size) (o:=.dK []) (t':=s.toks) (λ_ _ q=>al _ q) (ar _) (NJ s.heap I.big),rfl,h _ (I.hok.fresh (ar _))⟩
end
def ur:List (TE×TE)->St->Hp->(List (V×V)->Hp->Prop)->Prop
 |[],_,H,Q=>Q [] H
 | (tk,tv)::r,σ,H,Q=>tk σ H λx l=>tv σ l λy h=>ur r σ h λc g=>Q ((x,y)::c) g
abbrev VV:List (V×V)->List (ah×ah)->Prop:=kK λp q=>RelV p.1 q.1/\RelV p.2 q.2
def Ek(X:Cx)(pos:Pos)(keys:List (Option Expr))(c:List Expr)(g:List (TE×TE)):Prop:=
 ∀(ap:List (av×Obj))(s:am)(σ:St)(H:Hp)(Q:List (V×V)->Hp->Prop),Inv X ap σ H s->ur g σ H Q ->
  aK (bc X.prog X.w) X.A (evalPairs (FW keys c X.env pos)) (λo q=>∃h l,Inv X ap σ l q/\VV h o/\Q h l) X.xe s
theorem Pa{X:Cx}{pos:Pos}:Ek X pos [] [] []:=λc s σ H Q I h=>pairTrees_nil_walk ⟨[],H,I,.nil,h⟩
theorem Ll{X:Cx}{pos:Pos}{k v:Expr}{ks:List (Option Expr)}{o:List Expr}{B q:TE}{g:List (TE×TE)}(hk:PE X k B)(Y:PE X v q)(hr:Ek X pos ks o g):
  Ek X pos (some k::ks) (v::o) ((B,q)::g):=λc s σ H Q I h=>
 pairTrees_cons_walk (fS (hk c s σ H _ I h) λu E ⟨x,H1,I1,J,T⟩=>fS (Y c E σ H1 _ I1 T) λw2 C ⟨y,H2,I2,G,O⟩=>
  fS (hr c C σ H2 _ I2 O) λws s3 ⟨U,H3,I3,l,L⟩=>⟨(x,y)::U,H3,I3,.cons ⟨J,G⟩ l,L⟩)
def lS(c more:List (Key×V)):List (Key×V):=more.foldl (λg h=>mG g h.1 h.2) c
theorem KV.merge:∀{more:List (Key×V)}{rs:List (Key×ah)}{c:List (Key×V)}{g:List (Key×ah)},KV more rs->KV c g->KV (lS c more) (merged g rs):=by
 intro more rs c g r;unfold KV at r
 induction r generalizing c g with
 |nil=>intro q;exact q
 |@cons p q ps qs h t ih=>
  intro l;have e:KV (mG c p.1 p.2) (stored g q.1 q.2):=by have:=l.put p.1 h.2;rw[<- h.1];exact this
  exact ih e
theorem OE:∀(more cp:List (Key×V)),(lS cp more).length<=cp.length+more.length
 |[],cp=>by show cp.length<=cp.length+0;ext
 |p::r,cp=>by
  have g:=OE r (mG cp p.1 p.2);have c:=Io cp p.1 p.2
  show (lS (mG cp p.1 p.2) r).length<=_;rw[bp];ext
theorem OU{P:Program}{w:bG}:∀{cp:List (Key×V)}{ws:List (ah×ah)},VV (cp.map λg=>(kV g.1,g.2)) ws->∃rs,Carries (fX P w) ws rs/\KV cp rs
 |[],_,r=>by rw[lA]at r;cases r;exact⟨[],da,.nil⟩
 |p::cp,_,r=>by
  rw[aI]at r;cases r with
  |@cons a b as bs h t=>
   obtain⟨rs,c,q⟩:=OU (P:=P) (w:=w) t;obtain⟨o,l⟩:=b;exact⟨(p.1,l)::rs,⟨Fs h.1,rfl,c⟩,.cons ⟨rfl,h.2⟩ q⟩
def DQ(g:List (TE×TE)):TE:=λσ H Q=>∀p,H p=none->ur g σ (fq H p (.dK [])) λo l=>l p=some (.dK [])/\∃c:List (Key×V),o=c.map (λh=>(kV h.1,h.2))/\c.length<=15/\Q (.ref p) (fq l p (.dK (lS [] c)))
theorem TQ{X:Cx}{pos:Pos}{keys:List (Option Expr)}{g:List Expr}{l:List (TE×TE)}(h:Ek X pos keys g l)(C:keys.all (·.isSome)=true)(hl:keys.length=g.length)(h0:keys≠[])
  (J:keys.length<=15):PE X (.Dict keys g pos) (DQ l):=by
 intro v s σ H Q I q;have hn:=I.hok.fresh (ar s.heap.objs.size);have I1:=I.laid (a:=s.heap.objs.size) (o:=.dK []) (h':=s.heap.push { cls:=.type "dict",data:=.dict #[] }) (t':=s.toks) (λ_ _ q=>al _ q) (ar _) (NJ s.heap I.big);refine wpAny_Dict_walk (knd:=fX X.prog X.w) C hl h0 J (fS (h v _ σ _ _ I1 (q _ hn)) λws s2 u=>?_);obtain⟨ps,H2,L,G,e,B,ep,lk,Y⟩:=u;subst ep;obtain⟨rs,c,T⟩:=OU (P:=X.prog) (w:=X.w) G;obtain⟨z,hd,O,U,dd⟩:=JO L.hok e;cases U;refine⟨rs,c,dd,λh' E hs=>⟨.ref s.heap.objs.size,_,?_,rfl,Y⟩⟩;have hz:(lS [] B).length<=sizeLine:=by have h1:=OE B [];rw[fP]at h1;rw[lH];ext
 have he:∃q,h'.get? s.heap.objs.size=some q:=let ⟨q,_,_,hq,_⟩:=E;⟨q,hq⟩
 exact C2 L (by rw[e];exact da) hs he (LZ hz hd (T.merge .nil) E)
structure M2(X:Cx)(o:Expr)(m:Str)(dr:Pos)(e f:Expr)(cx:Pos):Prop where
 base:dh o m X.env (eval o X.env)=eval o X.env
 few:((eI cx (aF [e,f] X.env)).all (λx => !x.1)&&(nN cx (kt [] X.env)).all (λx=>x.1.isSome)
  && decide (([e,f]:List Expr).length+([]:List ia).length+(if ([]:List ia).isEmpty then 0 else 1) < 30))=true
 line:(dr.endLine == cx.line)=true
 trees:eI cx (aF [e,f] X.env)=[(false,eval e X.env),(false,eval f X.env)]
end L2
namespace MM
open PySem PySem.Spec PyProof.Rows L2
noncomputable abbrev KI:=Int ⊕ List Int
section
variable{prog:Program}{w:bG}
variable(prog w) in
inductive vO(h:bQ):KI->ah->Prop
 |one (i:Int) (t:Tok):vO h (.inl i) (.int i t)
 |row {k:List Int}{b:av}:Cy (pG prog w) h k b->vO h (.inr k) (.ref b)
variable(prog w) in
inductive nJ(h:bQ):List KI->List ah->Prop
 |nil:nJ h [] []
 |cons {k:KI}{v:ah}{ks:List KI}{vs:List ah}:vO prog w h k v->nJ h ks vs->nJ h (k::ks) (v::vs)
variable(prog w) in
noncomputable def eN(h:bQ)(ks:List KI)(a:av):Prop:=∃o items n,h.get? a=some o/\o.cls=.type "tuple"/\o.data=.seq items n/\nJ prog w h ks items.toList
theorem vO.inj{h:bQ}{x y:KI}{v:ah}(a:vO prog w h x v)(b:vO prog w h y v):x=y:=by
 cases a with
 |one i t=>cases b;rfl
 |row a=>cases b with
  |row b=>rw[a.inj b]
theorem nJ.inj{h:bQ}{x y:List KI}{c:List ah}(a:nJ prog w h x c)(b:nJ prog w h y c):x=y:=by
 induction a generalizing y with
 |nil=>cases b;rfl
 |cons a t ih=>cases b with
  |cons b u=>rw[a.inj b,ih u]
theorem eN.typeIs{s:am}{ks:List KI}{a:av}(x:eN prog w s.heap ks a):s.TypeIs (.ref a) "tuple":=let ⟨o,_,_,ho,hc,_⟩:=x;⟨o,ho,hc⟩
theorem eN.inj{h:bQ}{a:av}{x y:List KI}(v:eN prog w h x a)(u:eN prog w h y a):x=y:=by
 obtain⟨o,items,n,B,_,hd,C⟩:=v;obtain⟨o',g,E,l,_,c,q⟩:=u;cases B.symm.trans l;rw[hd]at c;injection c with h1 _
 subst h1;exact C.inj q
theorem vO.keeps{h h':bQ}{d:av}{o:Obj}{l ep}(g:h.get? d=some o)(hd:o.data=.dict l ep)(c:cJ d h h'):∀{x:KI}{v:ah},vO prog w h x v->vO prog w h' x v
 |_,_,.one i t=>.one i t
 |_,_,.row a=>.row (a.keeps g hd c)
theorem nJ.keeps{h h':bQ}{d:av}{o:Obj}{q ep}(l:h.get? d=some o)(hd:o.data=.dict q ep)(g:cJ d h h'):∀{x:List KI}{c:List ah},nJ prog w h x c->nJ prog w h' x c
 |_,_,.nil=>.nil
 |_,_,.cons a t=>.cons (a.keeps l hd g) (nJ.keeps l hd g t)
theorem eN.keeps{h h':bQ}{ks:List KI}{a d:av}{o:Obj}{C ep}(x:eN prog w h ks a)(u:h.get? d=some o)(hd:o.data=.dict C ep)(q:cJ d h h'):
  eN prog w h' ks a:=by
 obtain⟨o',items,n,g,B,c,v⟩:=x;have l:a≠d:=by
  rintro rfl
  obtain rfl:o'=o:=aN (g.symm.trans u);rw[hd]at c;exact nomatch c
 exact⟨o',items,n,(q.2 a l).trans g,B,c,v.keeps u hd q⟩
def AV:KI->Int
 | .inl i=>hashInt i
 | .inr r=>reduceHash (di (r.map hashInt))
def oH(ks:List KI):Int:=reduceHash (di (ks.map AV))
def Ih:KI->Nat
 | .inl _=>1
 | .inr r=>r.length+1
def iN:List KI->Nat
 |[]=>0
 |k::ks=>Ih k+iN ks
variable{A:bB}{E:ah->am->Prop}{s:am}
theorem Ix(k:KI):∀(l:List KI),iN (l++[k])=iN l+Ih k
 |[]=>by simp[iN]
 |x::l=>by simp[iN,Ix k l];ext
theorem Tv{k:KI}{v:ah}{Q:Int->am->Prop}(hu:A.units < cC)(c:vO prog w s.heap k v)(h:Q (AV k) { s with toks:=s.toks+Ih k }):aK (bc prog w) A (pyHash v) Q E s:=by
 cases c with
 |one i t=>exact FQ h
 |row c=>exact wpAny_pyHash_tuple (knd:=pG prog w) hu c h
theorem Tx{x y:KI}{u v:ah}{Q:Bool->am->Prop}(hu:A.units < cC)(C:vO prog w s.heap x u)(l:vO prog w s.heap y v)(h:Q (decide (x=y)) s):aK (bc prog w) A (eqBool u v) Q E s:=by
 cases C with
 |one i t=>
  cases l with
  |one j t'=>
   refine nK ?_;have e:(i == j)=decide ((lG i:KI)=lG j):=by
    by_cases z:i=j
    ·subst z;simp
    ·have B:¬ ((lG i:KI)=lG j):=λq=>z (by injection q);rw[aT B];exact beq_eq_false_iff_ne.mpr z
   first|(rw[e];exact h)|(simpa [e] using h)
  |row h2=>
   obtain⟨o,items,n,c,g,hd,_⟩:=h2;rw[aT (by simp)]at h;exact vS.int_tuple i t ⟨o,c,g,n,hd⟩ hu prog w E Q h
 |row h1=>
  cases l with
  |one j t'=>
   obtain⟨o,items,n,c,g,hd,_⟩:=h1;rw[aT (by simp)]at h;exact vS.tuple_int j t' ⟨o,c,g,n,hd⟩ hu prog w E Q h
  |@row k2 b h2=>
   refine wpAny_eqBool_tuple (knd:=pG prog w) hu h1 h2 ?_;simpa using h
theorem RN{ks:List KI}{a:av}{Q:Int->am->Prop}(hu:A.units+1 < cC)(q:eN prog w s.heap ks a)(h:Q (oH ks) { s with toks:=s.toks+(iN ks+1) }):
  aK (bc prog w) A (pyHash (.ref a)) Q E s:=by
 have g:=q.typeIs;obtain⟨o,items,n,u,_,hd,v⟩:=q;unfold pyHash
 first|unfold pyHashByItsType|skip
 first|refine ab (wpAny_cRoomFor_or (.inr (by ext)) ?_)|skip
 refine ab (j_ g mU.lookup ?_)
 show aK _ _ (if (some (Am "tuple.__hash__") == some bV)=true then _ else _) Q E s;rw[aA (by rw[beq_builtin_none];exact bo)];refine ab (j_ g mU.lookup ?_)
 show aK _ _ (callSpecialIfBoundUnlessNone? (.ref a) "__hash__" _ >>= _) Q E s;refine ab (wpAny_callSpecialIfBoundUnlessNone?_slot g mU (cG mU g F.entry_tuple_hash ?_ (F.args_tuple_hash_1 _)))
 show aK _ _ (oT (.ref a) >>= _) _ _ s;refine ab (qR u hd ?_);refine ab ?_;rw[<- oU];refine lg _
  (λfM(b:Array Int)l=>∃done left,ks=done++left/\nJ prog w s.heap left fM/\b.toList=done.map (AV)/\l={ s with toks:=s.toks+iN done })
  _ ?_ ?_ _ _ ⟨[],ks,rfl,v,rfl,rfl⟩
 ·rintro x fM b l ⟨done,left,rfl,hl,hb,rfl⟩
  cases hl with
  |@cons k b' ks' _ h1 hl'=>
   refine ab (Tv (k:=k) hu h1 ?_)
   first
    |exact aq ⟨done++[k],ks',by simp,hl',by simp[hb],by simp[Ix,o0]⟩
    |exact ab (aq (aq ⟨done++[k],ks',by simp,hl',by simp[hb],by simp[Ix,o0]⟩))
 ·rintro b l ⟨done,left,rfl,hl,hb,rfl⟩
  cases hl;rw[bn]at h
  show aK _ _ (retInt (di b.toList)) _ _ _;rw[hb];refine Hi ?_
  show aK _ _ (if (decide (-(2:Int)^63<=di (done.map (AV)))&&decide (di (done.map (AV)) < 2^63))=true then _ else _) Q E _;unfold oH reduceHash at h;by_cases c:(decide (-(2:Int)^63<=di (done.map (AV)))&&decide (di (done.map (AV)) < 2^63))=true
  ·rw[aE c];rw[aE c]at h;exact aq (by simpa [o0] using h)
  ·rw[aA c];rw[aA c]at h;exact ab (ie (aq (by simpa [o0] using h)))
theorem Uk{x y:List KI}{a b:av}{P:Fin->am->Prop}(hu:A.units < cC)(Y:eN prog w s.heap x a)(U:eN prog w s.heap y b)(h:P (.done (.ret (.bool (decide (x=y))))) s):
  aK (bc prog w) A (Builtin.«tuple.__eq__» ⟨[.ref a,.ref b],[]⟩) P E s:=by
 have T:=U.typeIs;obtain⟨oa,xs,na,H,_,Q,L⟩:=Y;obtain⟨ob,ys,nb,G,_,O,J⟩:=U
 show aK _ _ (Cz (.ref b) (.type "tuple") >>= _) _ _ s;refine ab (eX T oV ?_);simp only[dq,aQ,if_false];refine ab (qR H Q ?_);refine ab (qR G O ?_);refine ab ?_;refine lg _
  (λfM r C=>r.1=none/\C=s/\∃B q g c,fM=List.zip g c/\nJ prog w s.heap B g/\nJ prog w s.heap q c/\decide (B=q)=decide (x=y)/\(g.length == c.length)=(xs.size == ys.size))
  _ ?_ ?_ _ _ ⟨rfl,rfl,x,y,xs.toList,ys.toList,rfl,L,J,rfl,by simp⟩
 ·rintro ⟨u,v⟩ fM r C ⟨hr,rfl,B,q,g,c,hz,hx',hy',hdec,hlen⟩
  cases hx' with
  |nil=>simp at hz
  |@cons k1 u' x'' xs'' h1 hx''=>
   cases hy' with
   |nil=>simp at hz
   |@cons k2 v' y'' ys'' h2 hy''=>
    simp only[List.zip_cons_cons,List.cons.injEq,Prod.mk.injEq]at hz;obtain⟨⟨rfl,rfl⟩,rfl⟩:=hz;refine ab (Tx (x:=k1) (y:=k2) hu h1 h2 ?_);by_cases I:k1=k2
    ·subst I;rw[bF rfl];simp only[dq,aQ,if_false];refine aq ⟨rfl,rfl,x'',y'',xs'',ys'',rfl,hx'',hy'',?_,by simpa using hlen⟩;rw[<- hdec];by_cases l:x''=y''
     ·simp[l]
     ·simp[l]
    ·rw[aT I];simp only[eV,if_true];have o:decide (x=y)=false:=by rw[<- hdec];simp[I]
     rw[o]at h;exact ab (aq (aq (aq h)))
 ·rintro ⟨r1,r2⟩ C ⟨hr,rfl,B,q,g,c,hz,hx',hy',hdec,hlen⟩
  simp only at hr;subst hr;refine aq ?_;have o:(xs.size == ys.size)=decide (x=y):=by
   rw[<- hdec,<- hlen];cases hx' with
   |nil=>
    cases hy' with
    |nil=>simp
    |cons _ _=>simp
   |cons _ _=>
    cases hy' with
    |nil=>simp
    |cons _ _=>simp at hz
  show P (.done (.ret (.bool (xs.size == ys.size)))) C;rw[o];exact h
theorem Tp{x y:List KI}{a b:av}{Q:Bool->am->Prop}(hu:A.units+1 < cC)(g:eN prog w s.heap x a)(l:eN prog w s.heap y b)(h:Q (decide (x=y)) s):
  aK (bc prog w) A (eqBool (.ref a) (.ref b)) Q E s:=by
 unfold eqBool
 try with_reducible refine cE ?_
 show aK _ _ (if (bj a == bj b)=true then _ else _) Q E s;by_cases c:(bj a == bj b)=true
 ·rw[aE c];have e:a=b:=by have:=eq_of_beq c;injection this
  subst e;obtain rfl:=g.inj l;exact ab (ie (aq (by simpa using h)))
 ·rw[aA c];exact ab (wpAny_richCompare_same_room (op:=.Eq) g.typeIs l.typeIs nU
   (cG nU g.typeIs F.entry_tuple_eq (Uk (by exact hu) g l ⟨_,rfl,nofun,fu h⟩) (F.args_tuple_eq_2 _ _)) (by ext))
theorem X8{n:Nat}{ks:List Int}{a:av}{Q:Bool->am->Prop}(l:Cy (pG prog w) s.heap ks a)(h:Q true s):aK (bc prog w) A (pL (n+1) (.ref a)) Q E s:=by
 have q:=l.typeIs;obtain⟨o,items,n,B,_,hd,C⟩:=l;unfold pL;refine ab (j_ q nU.lookup ?_)
 show aK _ _ (Cz (.ref a) (.type "tuple") >>= _) _ _ s;refine ab (eX q oV ?_);simp only[dq,aQ,if_false];refine ab (dD B hd ?_);refine ab ?_
 show aK _ _ (forIn items _ _) _ _ s;rw[<- oU];refine lg _ (λfM r c=>r.1=none/\c=s/\∀v∈fM,carriedByValue v=true) _ ?_ ?_ _ _ ⟨rfl,rfl,C.byValue⟩
 ·rintro v fM r c ⟨hr,rfl,hall⟩
  rw[Dh _ (hall v cM)];refine ab (aq ?_);simp only[dq,aQ,if_false];exact aq ⟨rfl,rfl,λu g=>hall u (bI _ g)⟩
 ·rintro ⟨r1,r2⟩ c ⟨hr,rfl,_⟩
  simp only at hr;subst hr;exact aq h
theorem YR{n:Nat}{k:KI}{v:ah}{Q:Bool->am->Prop}(c:vO prog w s.heap k v)(h:Q true s):aK (bc prog w) A (pL (n+1) v) Q E s:=by
 cases c with
 |one i t=>rw[Dh _ (show carriedByValue (gA i t)=true from rfl)];exact aq h
 |row c=>exact X8 c h
theorem Tu{ks:List KI}{a:av}{Q:Bool->am->Prop}(g:eN prog w s.heap ks a)(h:Q true s):aK (bc prog w) A (pL 8 (.ref a)) Q E s:=by
 have l:=g.typeIs;obtain⟨o,items,n,q,_,hd,u⟩:=g;unfold pL;refine ab (j_ l nU.lookup ?_)
 show aK _ _ (Cz (.ref a) (.type "tuple") >>= _) _ _ s;refine ab (eX l oV ?_);simp only[dq,aQ,if_false];refine ab (dD q hd ?_);refine ab ?_
 show aK _ _ (forIn items _ _) _ _ s;rw[<- oU];refine lg _ (λfM r c=>r.1=none/\c=s/\∃left,nJ prog w s.heap left fM) _ ?_ ?_ _ _ ⟨rfl,rfl,ks,u⟩
 ·rintro v fM r c ⟨hr,rfl,left,hall⟩
  cases hall with
  |cons h1 hl=>
   refine ab (YR (n:=6) h1 ?_);simp only[dq,aQ,if_false];exact aq ⟨rfl,rfl,_,hl⟩
 ·rintro ⟨r1,r2⟩ c ⟨hr,rfl,_⟩
  simp only at hr;subst hr;exact aq h
end
def tG(prog:Program)(w:bG):rQ prog w (List KI) where
 is:=eN prog w
 hash:=oH
 draws:=λks=>iN ks+1
 room:=λA=>A.units+1 < cC
 inj:=λg c=>g.inj c
 keeps:=λx q hd o=>x.keeps q hd o
 pyHash:=λhu l h=>RN hu l h
 eqBool:=λhu g c h=>Tp hu g c h
 quiet:=λl h=>Tu l h
end MM
namespace MM
open PySem PyProof.Rows
noncomputable def rE(h:bQ)(d:av)(n:Nat):Prop:=∃o c,h.get? d=some o/\o.data=.dict c n
section
variable{prog:Program}{w:bG}{K:Type}[DecidableEq K]{knd:rQ prog w K}{A:bB}{E:ah->am->Prop}{s:am}{d a:av}{k:K}{xs:List (K×av×ah)}
theorem OT{v:ah}{Q:Unit->am->Prop}(hu:knd.room A)(l:knd.is s.heap k a)(hm:s.heap.DictOfH knd d xs)(hp:rE s.heap d xs.length)(hsz:xs.length<=sizeLine)
  (h:∀h',h'.DictOfH knd d (lB xs k a v)->rE h' d (lB xs k a v).length->cJ d s.heap h'->Q () { s with heap:=h',toks:=s.toks+knd.draws k }):
  aK (bc prog w) A (xw d (.ref a) v) Q E s:=by
 obtain⟨o,Y,ep,g,hc,hd,L,B,I⟩:=id hm;obtain⟨o',es',C,O⟩:=hp;rw[g]at C;cases C;rw[hd]at O;cases O;unfold xw;refine cE (ab (knd.pyHash hu l ?_));unfold dictSetHashed;refine cE (ab (An (s:={ s with toks:=s.toks+knd.draws k }) hu l g hd L B I (λH=>?_) λj p J=>?_))
 ·have G:k∉xs.map (·.1):=Ao H;have e0:=Di H;have u:=storedH_new (a:=a) (v:=v) e0;have o:=lV L;refine ab (ie (zC (hz:=by ext) (s:={ s with toks:=s.toks+knd.draws k }) g hd
   (h _ ⟨_,_,_,cH _ g (gF (dY hd _)),hc.mapDictKeys _,dY hd _,?_,?_,?_⟩ ?_ (cg ..))))
  ·rw[u];simp[L,n8]
  ·rw[u];intro x c;rcases aB.mp c with c|c
   ·exact knd.keeps (B x c) g hd (cg ..)
   ·cases ax.mp c;exact knd.keeps l g hd (cg ..)
  ·rw[u,aO,cn];refine⟨I,by simp,λx c y T=>?_⟩;cases ax.mp T;exact λe=>G ((show x=k from e) ▸ c)
  ·rw[u,au];exact⟨_,_,cH _ g (gF (dY hd _)),dY hd _⟩
 ·have e0:=atKey_of_get I J;have u:=storedH_old e0 a v;have G:j < Y.size:=by rw[lV L];exact (ac.mp J).1
  have U:(Y.modify j λe=>{ hash:=e.hash,key:=e.key,val:=v }).toList=(xs.map (tj k v)).map (n8 knd):=by
   apply eC;intro i;rw[dI,Array.getElem?_modify,aj,aj];have o:Y[i]?=(xs[i]?).map (n8 knd):=by rw[<- dI,L,aj]
   rw[o];by_cases z:j=i
   ·subst z;rw[aE rfl,J];simp[tj,n8]
   ·rw[aA z];cases c:xs[i]? with
    |none=>rfl
    |some x=>
     have l:x.1≠k:=λq=>by
      have E:(xs.map (·.1))[i]?=some k:=by rw[aj,c,<- q];rfl
      have C:(xs.map (·.1))[j]?=some k:=by rw[aj,J];rfl
      exact z ((e8 (by rw[ae];exact (ac.mp J).1) I).mp (C.trans E.symm))
     simp[tj,l]
  refine ab (ie (ab (wpAny_updateDict (s:={ s with toks:=s.toks+knd.draws k }) g hd (wpAny_point
   (h _ ⟨_,_,_,cH _ g (gF (mZ hd _)),hc.mapDict _,mZ hd _,?_,?_,?_⟩ ?_ (cg ..))))))
  ·rw[u];exact U
  ·rw[u];intro x c;obtain⟨y,T,e⟩:=bz.mp c;have q:=knd.keeps (B y T) g hd (cg s.heap d (Obj.mapDict λx=>x.modify j λe=>{ hash:=e.hash,key:=e.key,val:=v }));rw[<- e];unfold tj;split
   ·exact q
   ·exact q
  ·rw[u,db];have:(xs.map ((λx=>x.1)∘tj k v))=xs.map (·.1):=cO λx _=>by show (tj k v x).1=x.1;unfold tj;split<;>rfl
   rw[this];exact I
  ·rw[u,ae];exact⟨_,_,cH _ g (gF (mZ hd _)),mZ hd _⟩
theorem Yp{v:ah}{Q:Unit->am->Prop}(hu:knd.room A.in1)(c:knd.is s.heap k a)(g:s.heap.DictOfH knd d xs)(l:rE s.heap d xs.length)(hsz:xs.length<=sizeLine)
  (h:∀h',h'.DictOfH knd d (lB xs k a v)->rE h' d (lB xs k a v).length->cJ d s.heap h'->Q () { s with heap:=h',toks:=s.toks+knd.draws k }):
  aK (bc prog w) A (og (.ref d) (.ref a) v) Q E s:=by
 have T:=g.typeIs;unfold og;refine cE (ab (Df T (by decide) (ab (b8 T xM (cG xM T F.entry_dict_setitem ?_ (F.args_dict_setitem_3 _ _ _))))));unfold Builtin.«dict.__setitem__»;refine ab (iy T ?_);rw[aA (by simp)]
 show aK _ _ (xw d (.ref a) v >>= _) _ _ s;refine ab (OT hu c g l hsz λh' u q o=>aq ⟨_,rfl,aq (h h' u q o)⟩)
end
end MM
namespace MM
open PySem
inductive D where
 |non|bl (b:Bool)|int (i:Int)|str (x:Str)|tup (ds:List D)|lit (ds:List D)|ref (n:Nat)|dic (n:Nat)|exn (x:Str) (ds:List D)
inductive MO where
 |lst (ds:List D)|dct (b:Bool) (cp:List (D×D))
noncomputable abbrev a_:=List MO
noncomputable abbrev RE:=D
inductive Rs(α:Type) where
 |ok (a:α) (s:a_)|exc (x:RE) (s:a_)|bad
def M(α:Type):=a_->Rs α
section
variable{α β:Type}
noncomputable def ret(a:α):M α:=λs=>.ok a s
noncomputable def bnd(m:M α)(f:α->M β):M β:=λs=>match m s with
 | .ok a s'=>f a s'
 | .exc x s'=>.exc x s'
 | .bad=>.bad
noncomputable def bad:M α:=λ_=>.bad
@[irreducible] def chk(c:Prop)[Decidable c](m:M α):M α:=if c then m else bad
end
noncomputable abbrev Loc:=List (Option D)
abbrev CE:=Loc->M D
abbrev CT:=Loc->M Bool
abbrev CA:=Loc->M (List D)
inductive qj where
 |next (l:Loc)|ret (d:D)|brk (l:Loc)|cnt (l:Loc)
abbrev CS:=Loc->M qj
noncomputable def eS:Nat:=2^24
noncomputable def alloc(o:MO):M D:=λs=>.ok (.ref s.length) (s++[o])
def getL(n:Nat):M (List D):=λs=>match s[n]? with
 |some (.lst ds)=>.ok ds s
 |_=>.bad
def putL(n:Nat)(ds:List D):M Unit:=λs=>match s[n]? with
 |some (.lst _)=>.ok () (s.set n (.lst ds))
 |_=>.bad
def getDc(n:Nat):M (Bool×List (D×D)):=λs=>match s[n]? with
 |some (.dct b cp)=>.ok (b,cp) s
 |_=>.bad
def pF(n:Nat)(b:Bool)(g:List (D×D)):M Unit:=λs=>match s[n]? with
 |some (.dct c _)=>if b=c then .ok () (s.set n (.dct b g)) else .bad
 |_=>.bad
mutual
noncomputable def nO:D->D->Bool
 | .int i,.int j=>decide (i=j)
 | .str x,.str y=>decide (x=y)
 | .tup xs,.tup ys=>mh xs ys
 |_,_=>false
noncomputable def mh:List D->List D->Bool
 |[],[]=>true
 |x::xs,y::ys=>nO x y&&mh xs ys
 |_,_=>false
end
noncomputable def oJ:List D->Option (List Int)
 |[]=>some []
 | .int i::ds=>(oJ ds).map (i::·)
 |_=>none
def ni:List D->Option (List (Int ⊕ List Int))
 |[]=>some []
 | .tup xs::ds=>match oJ xs,ni ds with
  |some r,some rs=>some (.inr r::rs)
  |_,_=>none
 | .int i::ds=>(ni ds).map (.inl i::·)
 |_=>none
def stK:D->Option (List (Int ⊕ List Int))
 | .tup ds=>ni ds
 |_=>none
def m_:Bool->D->Bool
 |false,.int _=>true
 |false,.str _=>true
 |true,d=>(stK d).isSome
 |_,_=>false
def lN(c:List (D×D))(k:D):Option D:=(c.find? λp=>nO p.1 k).map (·.2)
def kG(c:List (D×D))(k v:D):List (D×D):=if (c.any λp=>nO p.1 k)=true then c.map λp=>if nO p.1 k=true then (p.1,v) else p else c++[(k,v)]
def tS(c more:List (D×D)):List (D×D):=more.foldl (λg p=>kG g p.1 p.2) c
def itemK(n:Nat)(k:D):M D:=bnd (getDc n) λp=>chk (m_ p.1 k=true) (match lN p.2 k with
 |some d=>ret d
 |none=>bad)
def storeK(n:Nat)(k v:D):M Unit:=bnd (getDc n) λp=>chk (m_ p.1 k=true/\p.2.length < eS) (pF n p.1 (kG p.2 k v))
def hasK(n:Nat)(k:D):M Bool:=bnd (getDc n) λp=>chk (m_ p.1 k=true) (ret (lN p.2 k).isSome)
def w_:D->M (List D)
 | .tup ds=>ret ds
 | .lit ds=>ret ds
 | .ref n=>getL n
 |_=>bad
noncomputable def my(n:Nat)(i:Int):Option Nat:=if 0<=i then (if i < n then some i.toNat else none) else (if -(n:Int)<=i then some (i+n).toNat else none)
def fm:D->D->M D
 | .int i,.int j=>ret (.int (i+j))
 | .str x,.str y=>chk (x.length+y.length<=eS) (ret (.str (x++y)))
 | .tup x,.tup y=>chk (x.length+y.length<=eS) (ret (.tup (x++y)))
 | .ref a,.ref b=>bnd (getL a) λx=>bnd (getL b) λy=>chk (x.length+y.length<=eS) (alloc (.lst (x++y)))
 |_,_=>bad
def sA:D->D->M D
 | .int i,.int j=>ret (.int (i-j))
 |_,_=>bad
noncomputable def pC(i j:Int):Prop:=(-(2^64) < i/\i < 2^64)\/(-(2^64) < j/\j < 2^64)
instance(i j:Int):Decidable (pC i j):=by unfold pC;infer_instance
def rj:D->D->M D
 | .int i,.int j=>chk (pC i j) (ret (.int (i*j)))
 |_,_=>bad
def r8:D->D->M D
 | .int i,.int j=>chk (0 < j/\j < 1073741824) (ret (.int (i / j)))
 |_,_=>bad
def oC:D->D->M D
 | .int i,.int j=>chk (0 < j) (ret (.int (i % j)))
 |_,_=>bad
def wE:D->D->M D
 | .int i,.int j=>chk (0<=j/\j<=1000000/\i.natAbs < 2^64) (ret (.int (i^j.toNat)))
 |_,_=>bad
def tw:D->M D
 | .int i=>ret (.int (-i))
 |_=>bad
def BJ(p:Int->Int->Bool):D->D->M D
 | .int i,.int j=>ret (.bl (p i j))
 |_,_=>bad
def zk:=BJ λi j=>decide (i < j)
def vL:=BJ λi j=>decide (j < i)
def F9:=BJ λi j=>decide (j<=i)
noncomputable def kJ(f:D->D->Option Bool):List D->List D->Option Bool
 |[],[]=>some true
 |x::xs,y::ys=>match f x y with
  |some true=>kJ f xs ys
  |some false=>(kJ f xs ys).map λ_=>false
  |none=>none
 |_::_,[]=>some false
 |[],_::_=>some false
noncomputable def GS(g:List D->List D->Option Bool):D->D->Option Bool
 | .non,.non=>some true
 | .non,.bl _=>some false
 | .non,.int _=>some false
 | .non,.str _=>some false
 | .non,.tup _=>some false
 | .bl _,.non=>some false
 | .bl a,.bl b=>some (a == b)
 | .bl a,.int b=>some ((if a then 1 else 0) == b)
 | .bl _,.str _=>some false
 | .bl _,.tup _=>some false
 | .int _,.non=>some false
 | .int a,.bl b=>some (a == (if b then 1 else 0))
 | .int a,.int b=>some (a == b)
 | .int _,.str _=>some false
 | .int _,.tup _=>some false
 | .str _,.non=>some false
 | .str _,.bl _=>some false
 | .str _,.int _=>some false
 | .str a,.str b=>some (a == b)
 | .str _,.tup _=>some false
 | .tup _,.non=>some false
 | .tup _,.bl _=>some false
 | .tup _,.int _=>some false
 | .tup _,.str _=>some false
 | .tup xs,.tup ys=>g xs ys
 |_,_=>none
def rW:Nat->D->D->Option Bool
 |0,d,e=>GS (λ_ _=>none) d e
 |n+1,d,e=>GS (kJ (rW n)) d e
def Ey(d e:D):M Bool:=match d,e with
 | .ref a,.ref b=>bnd (getL a) λx=>bnd (getL b) λy=>match (if x.length=y.length then kJ (rW 50) x y else some false) with
  |some r=>ret r
  |none=>bad
 | .ref a,.non=>bnd (getL a) λ_=>ret false
 | .non,.ref a=>bnd (getL a) λ_=>ret false
 |d,e=>match rW 50 d e with
  |some r=>ret r
  |none=>bad
def lR(d e:D):M D:=bnd (Ey d e) λb=>ret (.bl b)
def Ad(d e:D):M D:=bnd (Ey d e) λb=>ret (.bl !b)
def EM:D->M D
 | .non=>ret (.bl true)
 |_=>ret (.bl false)
def Dr:D->M D
 | .non=>ret (.bl false)
 |_=>ret (.bl true)
def cB(ds:List D)(i:Int):M D:=match my ds.length i with
 |some k=>match ds[k]? with
  |some d=>ret d
  |none=>bad
 |none=>bad
def aU:D->D->M D
 | .tup ds,.int i=>cB ds i
 | .lit ds,.int i=>cB ds i
 | .ref n,.int i=>bnd (getL n) λds=>cB ds i
 | .dic n,k=>itemK n k
 | .str x,.int i=>chk (x.length<=eS) (match my x.length i with
  |some k=>match x.cps.toList[k]? with
   |some c=>ret (.str ⟨#[c]⟩)
   |none=>bad
  |none=>bad)
 |_,_=>bad
def yz:D->M Bool
 | .non=>ret false
 | .bl b=>ret b
 | .int i=>ret (i != 0)
 | .str x=>chk (x.length<=eS) (ret ((x.length:Int) != 0))
 | .tup ds=>ret (!ds.isEmpty)
 | .lit ds=>ret (!ds.isEmpty)
 | .ref n=>bnd (getL n) λds=>ret (!ds.isEmpty)
 | .dic _=>bad
 | .exn _ _=>bad
def ai(i:Nat):CE:=λl=>match l[i]? with
 |some (some d)=>ret d
 |_=>bad
def aR(d:D):CE:=λ_=>ret d
def c1(g:D->M D)(a:CE):CE:=λl=>bnd (a l) g
def c2(g:D->D->M D)(a b:CE):CE:=λl=>bnd (a l) λx=>bnd (b l) λy=>g x y
def bh:CA:=λ_=>ret []
def az(a:CE)(r:CA):CA:=λl=>bnd (a l) λx=>bnd (r l) λxs=>ret (x::xs)
def cV(a:CA):CE:=λl=>bnd (a l) λxs=>chk (xs.length<=eS) (ret (.tup xs))
def Kj(f g:D->D->M D)(a b c:CE):CE:=λl=>bnd (a l) λx=>bnd (b l) λy=>bnd (f x y) λz=>match z with
 | .bl true=>bnd (c l) λw=>g y w
 | .bl false=>ret (.bl false)
 |_=>bad
def tY(a b:CE):CE:=λl=>bnd (a l) λx=>match x with
 | .bl true=>b l
 | .bl false=>ret (.bl false)
 |_=>bad
def CK(a b:CE):CE:=λl=>bnd (a l) λx=>match x with
 | .bl true=>ret (.bl true)
 | .bl false=>b l
 |_=>bad
def wJ(a:CE):CE:=λl=>bnd (a l) λx=>match x with
 | .bl b=>ret (.bl !b)
 |_=>bad
def wY(t:CT)(a b:CE):CE:=λl=>bnd (t l) λc=>if c=true then a l else b l
def bN(g:List D->M D)(a:CA):CE:=λl=>bnd (a l) g
def pW(a:CE):CT:=λl=>bnd (a l) yz
def cA(a:CE):CT:=λl=>bnd (a l) λx=>match x with
 | .bl b=>ret b
 |_=>bad
def oG(a b:CT):CT:=λl=>bnd (a l) λc=>if c=true then b l else ret false
def qH(a b:CT):CT:=λl=>bnd (a l) λc=>if c=true then ret true else b l
def pz(a:CT):CT:=λl=>bnd (a l) λc=>ret !c
structure Wk where
 ds:List D
 same:a_->Prop
abbrev CI:=Loc->M Wk
open Classical in
def chkS(p:a_->Prop):M Unit:=λs=>if p s then .ok () s else .bad
noncomputable def dw:a_->Prop:=λ_=>True
noncomputable def io(n:Nat)(ds:List D):a_->Prop:=λs=>s[n]?=some (.lst ds)
def g_(a:CE):CI:=λl=>bnd (a l) λx=>match x with
 | .tup ds=>ret ⟨ds,dw⟩
 | .lit ds=>ret ⟨ds,dw⟩
 | .ref n=>bnd (getL n) λds=>ret ⟨ds,io n ds⟩
 |_=>bad
noncomputable def ir(lo:Int)(n:Nat):List D:=(bH n).map λk=>.int (lo+(k:Nat))
def gp(a:CE):CI:=λl=>bnd (a l) λx=>match x with
 | .int j=>chk (-(2^62)<=j/\j < 2^62) (ret ⟨ir 0 j.toNat,dw⟩)
 |_=>bad
def ng(a b:CE):CI:=λl=>bnd (a l) λx=>bnd (b l) λy=>match x,y with
 | .int i,.int j=>chk ((-(2^62)<=i/\i < 2^62)/\(-(2^62)<=j/\j < 2^62)) (ret ⟨ir i (j-i).toNat,dw⟩)
 |_,_=>bad
def wW(a:CA):CI:=λl=>bnd (a l) λds=>ret ⟨ds,dw⟩
def tP(a:CE):CI:=λl=>bnd (a l) λx=>match x with
 | .tup ds=>ret ⟨(ir 0 ds.length).zipWith (λi d=>.tup [i,d]) ds,dw⟩
 |_=>bad
abbrev CG:=D->Loc->M Loc
def aP(i:Nat):CG:=λd l=>ret (l.set i (some d))
def gk:List D->Loc->M Loc
 |[],l=>ret l
 |_,_=>bad
def ce(g:CG)(r:List D->Loc->M Loc):List D->Loc->M Loc
 |d::ds,l=>bnd (g d l) λc=>r ds c
 |_,_=>bad
def fF(n:Nat)(r:List D->Loc->M Loc):CG:=λd l=>match d with
 | .tup ds=>chk (ds.length=n) (r ds l)
 |_=>bad
noncomputable def gX(n:Nat)(caps:List Nat)(l:Loc):Loc:=aZ n none++caps.map λi=>(l[i]?).join
def collect(g:CG)(t:CT)(e:CE)(same:a_->Prop):List D->Loc->M (List D)
 |[],_=>bnd (chkS same) λ_=>ret []
 |d::ds,l=>bnd (chkS same) λ_=>bnd (g d l) λc=>bnd (t c) λb=>if b=true then bnd (e c) λx=>bnd (collect g t e same ds c) λxs=>ret (x::xs) else collect g t e same ds c
def dm(n:Nat)(caps:List Nat)(i:CI)(g:CG)(t:CT)(e:CE):CA:=λl=>bnd (i l) λw=>chk (w.ds.length<=eS) (collect g t e w.same w.ds (gX n caps l))
noncomputable def gY(n d:Nat):Option Int->Nat
 |none=>d
 |some v=>if v < 0 then (v+(n:Int)).toNat else min v.toNat n
def cutD(xs:List D)(lo c:Option Int):List D:=(xs.drop (gY xs.length 0 lo)).take (gY xs.length xs.length c-gY xs.length 0 lo)
abbrev CO:=Loc->M (Option Int)
def tq:CO:=λ_=>ret none
def pD(a:CE):CO:=λl=>bnd (a l) λx=>match x with
 | .int i=>ret (some i)
 |_=>bad
def qB(a:CE)(lo c:CO):CA:=λl=>bnd (a l) λx=>bnd (lo l) λi=>bnd (c l) λj=>match x with
 | .lit ds=>ret (cutD ds i j)
 | .ref n=>bnd (getL n) λds=>ret (cutD ds i j)
 |_=>bad
def nz(a:CE)(lo c:CO):CE:=λl=>bnd (a l) λx=>bnd (lo l) λi=>bnd (c l) λj=>match x with
 | .tup ds=>chk (¬(gY ds.length 0 i=0/\gY ds.length ds.length j=ds.length)) (ret (.tup (cutD ds i j)))
 |_=>bad
def bT:CT:=λ_=>ret true
def dk(a:CA):CE:=λl=>bnd (a l) λds=>alloc (.lst ds)
def eZ(a:CA):CA:=λl=>bnd (a l) λxs=>chk (xs.length<=eS) (ret xs)
def mJ(a:CA)(b:CE):CE:=λl=>bnd (a l) λds=>bnd (b l) λi=>match i with
 | .int k=>cB ds k
 |_=>bad
def iq(g:List D->M D)(a:CA):CE:=λl=>bnd (a l) g
def aS:CS:=λl=>ret (.next l)
def aM(a b:CS):CS:=λl=>bnd (a l) λf=>match f with
 | .next l'=>b l'
 |f=>ret f
def bD(g:CG)(a:CE):CS:=λl=>bnd (a l) λd=>bnd (g d l) λc=>ret (.next c)
def dU(a:CE):CS:=λl=>bnd (a l) λd=>ret (.ret d)
def gL(a:CE):CS:=λl=>bnd (a l) λ_=>ret (.next l)
def lD(t:CT)(a b:CS):CS:=λl=>bnd (t l) λc=>if c=true then a l else b l
def Br:CS:=λ_=>bad
def md(g:CG)(b:CS)(same:a_->Prop):List D->CS
 |[],l=>bnd (chkS same) λ_=>ret (.next l)
 |d::ds,l=>bnd (chkS same) λ_=>bnd (g d l) λc=>bnd (b c) λf=>match f with
  | .next l2=>md g b same ds l2
  | .cnt l2=>md g b same ds l2
  | .brk l2=>ret (.next l2)
  | .ret d=>ret (.ret d)
def iu(i:CI)(g:CG)(b:CS):CS:=λl=>bnd (i l) λw=>md g b w.same w.ds l
def xY:qj->M D
 | .ret d=>ret d
 | .next _=>ret .non
 |_=>bad
def cm(n:Nat)(c:CS)(ds:List D):M D:=bnd (c (ds.map some++aZ (n-ds.length) none)) xY
def lc(o i v:D):M Unit:=match o,i with
 | .ref n,.int k=>bnd (getL n) λds=>match my ds.length k with
  |some j=>putL n (ds.set j v)
  |none=>bad
 | .dic n,k=>storeK n k v
 |_,_=>bad
def fR(o i:CE):CG:=λv l=>bnd (o l) λy=>bnd (i l) λz=>bnd (lc y z v) λ_=>ret l
def gR:D->M D
 | .tup ds=>ret (.int ds.length)
 | .lit ds=>ret (.int ds.length)
 | .ref n=>bnd (getL n) λds=>ret (.int ds.length)
 | .str x=>chk (x.length<=eS) (ret (.int x.length))
 | .dic n=>bnd (getDc n) λp=>ret (.int p.2.length)
 |_=>bad
def uW(n:Nat)(v:D):M D:=bnd (getL n) λds=>chk (ds.length < eS) (bnd (putL n (ds++[v])) λ_=>ret .non)
def cL(a b:CE):CE:=λl=>bnd (a l) λx=>match x with
 | .ref n=>bnd (b l) λv=>uW n v
 |_=>bad
def intD:D->M D
 | .int i=>ret (.int i)
 | .bl b=>ret (.int (if b then 1 else 0))
 |_=>bad
def tupleD:D->M D
 | .tup ds=>ret (.tup ds)
 | .lit ds=>ret (.tup ds)
 | .ref n=>bnd (getL n) λds=>ret (.tup ds)
 |_=>bad
noncomputable def tN:D->Option (List String)
 | .non=>some ["NoneType"]
 | .bl _=>some ["bool","int"]
 | .int _=>some ["int"]
 | .str _=>some ["str"]
 | .tup _=>some ["tuple"]
 | .lit _=>some ["list"]
 | .ref _=>some ["list"]
 | .dic _=>none
 | .exn _ _=>none
noncomputable def iX:List D->Option (List Int)
 |[]=>some []
 | .int i::ds=>(iX ds).map (i::·)
 |_=>none
noncomputable def ki:List D->Option (List Bool)
 |[]=>some []
 | .bl b::ds=>(ki ds).map (b::·)
 |_=>none
def tE(ds:List D):M D:=match iX ds with
 |some (n::ns)=>ret (.int (ns.foldl max n))
 |_=>bad
def vv(ds:List D):M D:=match ki ds with
 |some bs=>ret (.bl (bs.any id))
 |_=>bad
def kT(ds:List D):M D:=ret (.tup ds)
def hV(c:List String)(d:D):M D:=match tN d with
 |some us=>ret (.bl (c.any λt=>us.contains t))
 |none=>bad
def va:D->D->M D
 | .bl a,.bl b=>ret (.bl (a == b))
 |x,.non=>EM x
 |_,_=>bad
def nQ:D->D->M D
 | .bl a,.bl b=>ret (.bl !(a == b))
 |x,.non=>Dr x
 |_,_=>bad
noncomputable def kz:D->Bool
 | .non=>true
 | .bl _=>true
 | .int _=>true
 | .str _=>true
 |_=>false
noncomputable def tV:D->D->Bool
 | .non,.non=>true
 | .bl a,.bl b=>a == b
 | .bl a,.int b=>(if a then 1 else 0) == b
 | .int a,.bl b=>a == (if b then 1 else 0)
 | .int a,.int b=>a == b
 | .str a,.str b=>a == b
 |_,_=>false
def zX(x:D)(ds:List D):M D:=chk (kz x=true/\ds.all kz=true) (ret (.bl (ds.any λd=>tV d x)))
def wH(x:D)(ds:List D):M D:=chk (kz x=true/\ds.all kz=true) (ret (.bl !(ds.any λd=>tV d x)))
def Y5(x y:D):M D:=match y with
 | .dic n=>bnd (hasK n x) λb=>ret (.bl b)
 |y=>bnd (w_ y) (zX x)
def mX(x y:D):M D:=match y with
 | .dic n=>bnd (hasK n x) λb=>ret (.bl !b)
 |y=>bnd (w_ y) (wH x)
noncomputable def n0(b:Bool)(c:List (D×D)):M D:=λs=>.ok (.dic s.length) (s++[.dct b c])
def nR(b:Bool):CE:=λ_=>n0 b []
def pb(g:D->List D->M D)(a:CE)(b:CA):CE:=λl=>bnd (a l) λx=>bnd (b l) λds=>g x ds
def u8:D->D->M D
 | .int i,.int j=>ret (.int (min i j))
 |_,_=>bad
def t6(d:D):M D:=bnd (w_ d) λds=>alloc (.lst ds)
def tH(a:CE):CE:=λl=>bnd (a l) λx=>match x with
 | .ref n=>bnd (getL n) λds=>match ds.getLast? with
  |some d=>bnd (putL n ds.dropLast) λ_=>ret d
  |none=>bad
 |_=>bad
def tM(a:CE):CA:=λl=>bnd (a l) λx=>match x with
 | .ref n=>getL n |> λm=>bnd m λds=>ret ds.reverse
 |_=>bad
def eW(t:CT)(b:CS):Nat->CS
 |0=>λ_=>bad
 |n+1 => λl => bnd (t l) λc => if c = true then bnd (b l) λf => match f with
   | .next l2=>eW t b n l2
   | .cnt l2=>eW t b n l2
   | .brk l2=>ret (.next l2)
   | .ret d=>ret (.ret d) else ret (.next l)
open Classical in
def iJ(t:CT)(b:CS):CS:=λl s=>if h:∃n,(∀r,eW t b n l s=r->r≠.bad) then eW t b (choose h) l s else .bad
end MM
namespace MM
open PySem PySem.Spec PyProof.Rows L2
abbrev St:=L2.St
def xH(K:ak)(H:Hp)(a:av)(xs:List V):Prop:=
 (∃o,H a=some (.frz o (.lst xs))) \/
  ∃(o:Obj)(its:Array ah)(n:Nat),K.lookup a=some o/\o.cls=.type "list"/\o.dict=none/\o.data=.seq its n/\its.size<=sizeLine/\b9 xs its.toList
theorem xH.seq{K:ak}{H:Hp}{a:av}{xs:List V}(h:xH K H a xs):gD K H a xs:=by
 rcases h with ⟨o,h⟩|h
 ·exact .inl (.inr ⟨o,h⟩)
 ·exact .inr h
noncomputable def kO:HO->Nat
 | .lst _=>0
 | .dK _=>1
 | .ext _=>2
 |_=>3
abbrev NK:=List KI
def nH(k:NK):Int:=oH k
def BS(x:NK×av×ah):ky:=⟨nH x.1,.ref x.2.1,x.2.2⟩
def Qb(a:av)(g:List (NK×av×V))(h:bQ):Prop:=g.length<=sizeLine/\(a == cR)=false/\∃xs:List (NK×av×ah),kK (λ(p:NK×av×V)(q:NK×av×ah)=>p.1=q.1/\p.2.1=q.2.1/\RelV p.2.2 q.2.2) g xs /\
 ∃o c ep,h.get? a=some o/\o.ExactDict/\o.data=.dict c ep/\c.toList=xs.map BS/\(xs.map (·.1)).Nodup/\ep=xs.length
def iw(a:av)(c:List (NK×av×V)):HO:=.ext (Qb a c)
noncomputable def EW(r:List Int):D:=.tup (r.map .int)
def d7:KI->D
 | .inl i=>.int i
 | .inr r=>EW r
def rp(k:NK):D:=.tup (k.map d7)
def oD:Key->D
 | .inl i=>.int i
 | .inr x=>.str x
noncomputable def Ff(x:Str)(c:Array ah):Prop:=x=aG "NoText"\/c[2]?=some bV
mutual
inductive dN(K:ak)(ρ:List av)(H:Hp):V->D->Prop
 |non:dN K ρ H .non .non
 |bl (b:Bool):dN K ρ H (.bl b) (.bl b)
 |int (i:Int):dN K ρ H (.int i) (.int i)
 |str (x:Str):dN K ρ H (.str x) (.str x)
 |tup {a:av}{vs:List V}{ds:List D} (h:iR K H a vs) (r:bZ K ρ H vs ds):dN K ρ H (.ref a) (.tup ds)
 |lit {a:av}{vs:List V}{ds:List D} (h:xH K H a vs) (r:bZ K ρ H vs ds):dN K ρ H (.ref a) (.lit ds)
 |ref {a:av}{n:Nat} (k:∃o,H a=some o/\kO o=0) (h:ρ[n]?=some a):dN K ρ H (.ref a) (.ref n)
 |dic {a:av}{n:Nat} (k:∃o,H a=some o/\(kO o=1\/kO o=2)) (h:ρ[n]?=some a):dN K ρ H (.ref a) (.dic n)
 |exn0 {a C:av}{x:Str} (g:oW K dO x=some (some (.ref C))) (h:∃o,H a=some (.frz o (.own a))/\o.cls=.ref C):dN K ρ H (.ref a) (.exn x [])
 |exn {a C dx:av}{x f:Str}{v:V}{d:D} (g:oW K dO x=some (some (.ref C))) (h:∃o,H a=some (.frz o (.own a))/\o.cls=.ref C/\o.dict=some dx/\∃vs,o.data=.fields vs/\Ff x vs) (h2:H dx=some (.xd [(f,v)])) (r:dN K ρ H v d):dN K ρ H (.ref a) (.exn x [.str f,d])
inductive bZ(K:ak)(ρ:List av)(H:Hp):List V->List D->Prop
 |nil:bZ K ρ H [] []
 |cons {v:V}{d:D}{vs:List V}{ds:List D} (r:dN K ρ H v d) (t:bZ K ρ H vs ds):bZ K ρ H (v::vs) (d::ds)
end
def Kl(K:ak)(ρ:List av)(H:Hp)(v:V):D->Prop
 | .non=>v=.non
 | .bl b=>v=.bl b
 | .int i=>v=.int i
 | .str x=>v=.str x
 | .tup ds=>∃a c,v=.ref a/\iR K H a c/\bZ K ρ H c ds
 | .lit ds=>∃a c,v=.ref a/\xH K H a c/\bZ K ρ H c ds
 | .ref n=>∃a,v=.ref a/\(∃o,H a=some o/\kO o=0)/\ρ[n]?=some a
 | .dic n=>∃a,v=.ref a/\(∃o,H a=some o/\(kO o=1\/kO o=2))/\ρ[n]?=some a
 |_=>True
theorem dN.inv{K:ak}{ρ:List av}{H:Hp}{v:V}{d:D}(r:dN K ρ H v d):Kl K ρ H v d:=by
 cases r with
 |non=>rfl
 |bl=>rfl
 |int=>rfl
 |str=>rfl
 |tup h q=>exact⟨_,_,rfl,h,q⟩
 |lit h q=>exact⟨_,_,rfl,h,q⟩
 |ref k h=>exact⟨_,rfl,k,h⟩
 |dic k h=>exact⟨_,rfl,k,h⟩
 |exn0=>trivial
 |exn=>trivial
def rD(K:ak)(ρ:List av)(H:Hp)(a:av):MO->Prop
 | .lst ds=>∃g,H a=some (.lst g)/\bZ K ρ H g ds
 | .dct false cp=>∃c,H a=some (.dK c)/\kK (λ(p:Key×V)(q:D×D)=>oD p.1=q.1/\dN K ρ H p.2 q.2) c cp
 | .dct true cp=>∃c,H a=some (iw a c)/\kK (λ(p:NK×av×V)(q:D×D)=>rp p.1=q.1/\dN K ρ H (.ref p.2.1) q.1/\dN K ρ H p.2.2 q.2) c cp
structure SR(K:ak)(ρ:List av)(H:Hp)(st:a_):Prop where
 len:ρ.length=st.length
 nd:ρ.Nodup
 ob:∀(n:Nat)(a:av)(o:MO),ρ[n]?=some a->st[n]?=some o->rD K ρ H a o
noncomputable def LR(K:ak)(ρ:List av)(H:Hp)(σ:St)(l:Loc):Prop:=
 σ.length=l.length/\∀(i:Nat)(d:D),l[i]?=some (some d)->∃v,σ[i]?=some (some v)/\dN K ρ H v d
structure Ex(ρ:List av)(H:Hp)(ρ':List av)(H':Hp):Prop where
 pre:∃τ,ρ'=ρ++τ/\∀a∈τ,H a=none
 fix:∀a o,kO o=3->H a=some o->H' a=some o
 oth:∀a o,a∉ρ->H a=some o->H' a=some o
 knd:∀a o,H a=some o->∃o',H' a=some o'/\kO o'=kO o
structure Up(ρ:List av)(H:Hp)(ρ':List av)(H':Hp):Prop where
 pre:∃τ,ρ'=ρ++τ
 fix:∀a o,kO o=3->H a=some o->H' a=some o
 knd:∀a o,H a=some o->∃o',H' a=some o'/\kO o'=kO o
section
variable{K:ak}{ρ ρ1 ρ2:List av}{H H1 H2:Hp}{st ec:a_}{v:V}{d:D}{vs:List V}{ds:List D}{a:av}
theorem Ex.lst(x:Ex ρ H ρ1 H1)(a:av)(xs:List V)(c:a∉ρ)(h:H a=some (.lst xs)):H1 a=some (.lst xs):=x.oth a _ c h
theorem Ex.trk(x:Ex ρ H ρ1 H1)(a:av)(o:HO)(h:H a=some o):H1 a≠none:=by obtain⟨o',e,_⟩:=x.knd a o h;rw[e];exact λz=>nomatch z
theorem Ex.up(x:Ex ρ H ρ1 H1):Up ρ H ρ1 H1:=⟨let ⟨τ,e,_⟩:=x.pre;⟨τ,e⟩,x.fix,x.knd⟩
theorem Up.grow{τ:List av}:Up ρ H (ρ++τ) H:=⟨⟨τ,rfl⟩,λ_ _ _ e=>e,λ_ o e=>⟨o,e,rfl⟩⟩
theorem Ex.refl:Ex ρ H ρ H:=⟨⟨[],by simp,by simp⟩,λ_ _ _ e=>e,λ_ _ _ e=>e,λ_ o e=>⟨o,e,rfl⟩⟩
theorem Ex.trans(x:Ex ρ H ρ1 H1)(y:Ex ρ1 H1 ρ2 H2):Ex ρ H ρ2 H2:=by
 obtain⟨τ1,rfl,l⟩:=x.pre;obtain⟨τ2,rfl,G⟩:=y.pre;refine⟨⟨τ1++τ2,by simp,λa c=>?_⟩,λa o g e=>y.fix a o g (x.fix a o g e),λa o h e=>?_,λa o e=>?_⟩
 ·rcases aB.mp c with c|c
  ·exact l a c
  ·cases q:H a with
   |none=>rfl
   |some o=>exact ba (G a c) (x.trk a o q)
 ·refine y.oth a o (λz=>?_) (x.oth a o h e);rcases aB.mp z with z|z
  ·exact h z
  ·rw[l a z]at e;cases e
 ·obtain⟨B,J,E⟩:=x.knd a o e;obtain⟨u,I,C⟩:=y.knd a B J;exact⟨u,I,C.trans E⟩
theorem Ex.new{o:HO}(h:H a=none):Ex ρ H ρ (fq H a o):=
 ⟨⟨[],by simp,by simp⟩,λb u _ e=>by rw[fI (nA e h)];exact e,λb u _ e=>by rw[fI (nA e h)];exact e,
  λb u e=>⟨u,by rw[fI (nA e h)];exact e,rfl⟩⟩
theorem Ex.newO{o:HO}(h:H a=none):Ex ρ H (ρ++[a]) (fq H a o):=
 ⟨⟨[a],rfl,λb c=>by rw[ax]at c;rw[c];exact h⟩,(Ex.new (ρ:=ρ) h).fix,(Ex.new (ρ:=ρ) h).oth,(Ex.new (ρ:=ρ) h).knd⟩
theorem Ex.newL{vs:List V}(h:H a=none):Ex ρ H (ρ++[a]) (fq H a (.lst vs)):=Ex.newO h
theorem iR.mono(x:Up ρ H ρ1 H1)(h:iR K H a vs):iR K H1 a vs:=by
 rcases h with h|h
 ·rcases h with h|⟨o,h⟩
  ·exact .inl (.inl (x.fix a _ rfl h))
  ·exact .inl (.inr ⟨o,x.fix a _ rfl h⟩)
 ·exact .inr h
theorem xH.mono(x:Up ρ H ρ1 H1)(h:xH K H a vs):xH K H1 a vs:=by
 rcases h with ⟨o,h⟩|h
 ·exact .inl ⟨o,x.fix a _ rfl h⟩
 ·exact .inr h
theorem w8{α:Type}{l τ:List α}{n:Nat}{a:α}(h:l[n]?=some a):(l++τ)[n]?=some a:=by rw[aw (ac.mp h).1];exact h
mutual
theorem dN.up(x:Up ρ H ρ1 H1):∀{v:V}{d:D},dN K ρ H v d->dN K ρ1 H1 v d
 |_,_,.non=>.non
 |_,_,.bl b=>.bl b
 |_,_,.int i=>.int i
 |_,_,.str y=>.str y
 |_,_,.tup h r=>.tup (iR.mono x h) (bZ.up x r)
 |_,_,.lit h r=>.lit (xH.mono x h) (bZ.up x r)
 |_,_,.ref ⟨o,ho,hk⟩ h=>by obtain⟨τ,e⟩:=x.pre;obtain⟨o',c,l⟩:=x.knd _ o ho;exact .ref ⟨o',c,l.trans hk⟩ (by rw[e];exact w8 h)
 |_,_,.dic ⟨o,ho,hk⟩ h=>by obtain⟨τ,e⟩:=x.pre;obtain⟨o',c,l⟩:=x.knd _ o ho;exact .dic ⟨o',c,by rw[l];exact hk⟩ (by rw[e];exact w8 h)
 |_,_,.exn0 g ⟨o,ho,hc⟩=>.exn0 g ⟨o,x.fix _ _ rfl ho,hc⟩
 |_,_,.exn g ⟨o,ho,hc⟩ h2 r=>.exn g ⟨o,x.fix _ _ rfl ho,hc⟩ (x.fix _ _ rfl h2) (dN.up x r)
theorem bZ.up(x:Up ρ H ρ1 H1):∀{vs:List V}{ds:List D},bZ K ρ H vs ds->bZ K ρ1 H1 vs ds
 |_,_,.nil=>.nil
 |_,_,.cons r t=>.cons (dN.up x r) (bZ.up x t)
end
theorem dN.mono(r:dN K ρ H v d)(x:Ex ρ H ρ1 H1):dN K ρ1 H1 v d:=r.up x.up
theorem bZ.mono(r:bZ K ρ H vs ds)(x:Ex ρ H ρ1 H1):bZ K ρ1 H1 vs ds:=r.up x.up
theorem bZ.length:∀{vs:List V}{ds:List D},bZ K ρ H vs ds->vs.length=ds.length
 |_,_,.nil=>rfl
 |_,_,.cons _ t=>by simp[bZ.length t]
theorem bZ.get:∀{vs:List V}{ds:List D}{i:Nat}{d:D},bZ K ρ H vs ds->ds[i]?=some d->∃v,vs[i]?=some v/\dN K ρ H v d
 |_,_,_,_,.nil,e=>by simp at e
 |_,_,0,_,.cons r _,e=>by simp at e;subst e;exact⟨_,rfl,r⟩
 |_,_,i+1,_,.cons _ t,e=>by obtain⟨v,g,c⟩:=bZ.get (i:=i) t (by simpa using e);exact⟨v,by simpa using g,c⟩
theorem bZ.app:∀{vs ws:List V}{ds c:List D},bZ K ρ H vs ds->bZ K ρ H ws c->bZ K ρ H (vs++ws) (ds++c)
 |_,_,_,_,.nil,s=>s
 |_,_,_,_,.cons r t,s=>.cons r (bZ.app t s)
theorem bZ.set:∀{vs:List V}{ds:List D}{v:V}{d:D}(i:Nat),bZ K ρ H vs ds->dN K ρ H v d->bZ K ρ H (vs.set i v) (ds.set i d)
 |_,_,_,_,_,.nil,_=>.nil
 |_,_,_,_,0,.cons _ t,r=>.cons r t
 |_,_,_,_,i+1,.cons q t,r=>.cons q (bZ.set i t r)
theorem bZ.take:∀{vs:List V}{ds:List D}(n:Nat),bZ K ρ H vs ds->bZ K ρ H (vs.take n) (ds.take n)
 |_,_,0,_=>.nil
 |_,_,_+1,.nil=>.nil
 |_,_,n+1,.cons r t=>.cons r (bZ.take n t)
theorem bZ.drop:∀{vs:List V}{ds:List D}(n:Nat),bZ K ρ H vs ds->bZ K ρ H (vs.drop n) (ds.drop n)
 |_,_,0,r=>r
 |_,_,_+1,.nil=>.nil
 |_,_,n+1,.cons _ t=>bZ.drop n t
theorem LR.mono{σ:St}{l:Loc}(x:Ex ρ H ρ1 H1)(h:LR K ρ H σ l):LR K ρ1 H1 σ l:=
 ⟨h.1,λi d e=>let ⟨v,e1,r⟩:=h.2 i d e;⟨v,e1,r.mono x⟩⟩
theorem SR.at(s:SR K ρ H st){n:Nat}{o:MO}(e:st[n]?=some o):∃a,ρ[n]?=some a/\rD K ρ H a o:=by
 have c:n < ρ.length:=by rw[s.len];exact (ac.mp e).1
 have q:ρ[n]?=some ρ[n]:=ag c;exact⟨_,q,s.ob n _ o q e⟩
theorem SR.seq(s:SR K ρ H st){n:Nat}(e:st[n]?=some (.lst ds)):∃a vs,ρ[n]?=some a/\H a=some (.lst vs)/\bZ K ρ H vs ds:=by obtain⟨a,h,vs,q,r⟩:=s.at e;exact⟨a,vs,h,q,r⟩
theorem rD.ex{o:MO}(h:rD K ρ H a o):∃u,H a=some u:=by
 cases o with
 |lst ds=>obtain⟨vs,q,_⟩:=h;exact⟨_,q⟩
 |dct b cp=>cases b<;>(obtain⟨vs,q,_⟩:=h;exact⟨_,q⟩)
theorem SR.fresh(s:SR K ρ H st)(h:H a=none):a∉ρ:=λz=>by
 obtain⟨n,c⟩:=ip z;have g:n < st.length:=by rw[<- s.len];exact (ac.mp c).1
 obtain⟨u,q⟩:=rD.ex (s.ob n a _ c (ag g));rw[h]at q;cases q
theorem VF{n:Nat}{xs:List D}{c:a_}(h:getL n st=.ok xs c):c=st/\st[n]?=some (.lst xs):=by
 unfold getL at h;cases e:st[n]? with
 |none=>rw[e]at h;cases h
 |some o=>
  rw[e]at h;cases o with
  |lst ds=>cases h;exact⟨rfl,rfl⟩
  |dct _ _=>cases h
theorem kK.mapS{α β:Type}{F G:α->β->Prop}:∀{l₁:List α}{l₂:List β},kK F l₁ l₂->(∀a b,F a b->G a b)->kK G l₁ l₂
 |_,_,.nil,_=>.nil
 |_,_,.cons r t,f=>.cons (f _ _ r) (kK.mapS t f)
theorem rD.mono{o:MO}(x:Up ρ H ρ1 H1)(h:rD K ρ H a o)(c:∀u,H a=some u->H1 a=some u):rD K ρ1 H1 a o:=by
 cases o with
 |lst ds=>
  obtain⟨vs,q,r⟩:=h;exact⟨vs,c _ q,r.up x⟩
 |dct b cp=>
  cases b with
  |false=>
   obtain⟨g,q,r⟩:=h;exact⟨g,c _ q,kK.mapS r λp q z=>⟨z.1,z.2.up x⟩⟩
  |true=>
   obtain⟨g,q,r⟩:=h;exact⟨g,c _ q,kK.mapS r λp q z=>⟨z.1,z.2.1.up x,z.2.2.up x⟩⟩
theorem SR.new{o:HO}(s:SR K ρ H st)(h:H a=none):SR K ρ (fq H a o) st:=
 ⟨s.len,s.nd,λn b c l g=>rD.mono (o:=c) (Ex.new (ρ:=ρ) h).up (s.ob n b c l g) λvs q=>by rw[fI (nA q h)];exact q⟩
theorem SR.keepO{o':MO}(s:SR K ρ H st)(B:a∉ρ)(r:rD K ρ H a o'):SR K (ρ++[a]) H (st++[o']):=by
 have u:=s.len;have old:∀(n:Nat)(b:av),(ρ++[a])[n]?=some b->(n < ρ.length/\ρ[n]?=some b)\/(n=ρ.length/\b=a):=λn b e=>by
  by_cases c:n < ρ.length
  ·rw[aw c]at e;exact .inl ⟨c,e⟩
  ·rw[aW (by ext)]at e;have hz:n - ρ.length=0:=by
    cases q:n - ρ.length with
    |zero=>rfl
    |succ k=>rw[q]at e;simp at e
   rw[hz]at e;simp at e;exact .inr ⟨by ext,e.symm⟩
 refine⟨by simp[u],cn.mpr ⟨s.nd,by simp,λx C y l=>?_⟩,λn b o E g=>?_⟩
 ·rw[ax]at l;subst l;exact λz=>B (z ▸ C)
 ·rcases old n b E with ⟨c,h⟩|⟨c,h⟩
  ·rw[aw (by ext)]at g;exact rD.mono (o:=o) Up.grow (s.ob n b o h g) λ_ q=>q
  ·subst h;have:o=o':=by rw[c,u,aW (ar _)]at g;simp at g;exact g.symm
   subst this;exact rD.mono (o:=o) Up.grow r λ_ q=>q
theorem SR.keep(s:SR K ρ H st)(h:H a=some (.lst vs))(c:a∉ρ)(r:bZ K ρ H vs ds):SR K (ρ++[a]) H (st++[.lst ds]):=s.keepO c ⟨vs,h,r⟩
theorem SR.putO(s:SR K ρ H st){n:Nat}{o':MO}{u u':HO}(E:n < st.length)(h:ρ[n]?=some a)(hu:H a=some u)(C:kO u≠3)(G:kO u'=kO u)(r:rD K ρ (fq H a u') a o'):
  SR K ρ (fq H a u') (st.set n o')/\Ex ρ H ρ (fq H a u'):=by
 have x:Ex ρ H ρ (fq H a u'):=by
  refine⟨⟨[],by simp,by simp⟩,λb o l q=>?_,λb xs B q=>?_,λb o q=>?_⟩
  ·have:b≠a:=λz=>by subst z;rw[hu]at q;cases q;exact C l
   rw[fI this];exact q
  ·have:b≠a:=λz=>by subst z;exact B (ay h)
   rw[fI this];exact q
  ·by_cases z:b=a
   ·subst z;rw[hu]at q;cases q;exact⟨u',kq,G⟩
   ·exact⟨o,by rw[fI z];exact q,rfl⟩
 refine⟨⟨by simp[s.len],s.nd,λm b o c g=>?_⟩,x⟩;by_cases z:m=n
 ·subst z;rw[h]at c;cases c;rw[ao E]at g;cases g;exact r
 ·rw[af (bC z)]at g;refine rD.mono (o:=o) x.up (s.ob m b o c g) λI q=>?_;have:b≠a:=λw=>by subst w;exact z ((e8 (ac.mp c).1 s.nd).mp (c.trans h.symm))
  rw[fI this];exact q
theorem SR.put(s:SR K ρ H st){n:Nat}{ws:List V}(h:n < st.length)(l:ρ[n]?=some a)(c:H a=some (.lst ws))(r:bZ K ρ H vs ds):
  SR K ρ (fq H a (.lst vs)) (st.set n (.lst ds))/\Ex ρ H ρ (fq H a (.lst vs)):=by
 have u:Up ρ H ρ (fq H a (.lst vs)):=by
  refine⟨⟨[],by simp⟩,λb o g q=>?_,λb o q=>?_⟩
  ·have:b≠a:=λz=>by subst z;rw[c]at q;cases q;exact nomatch g
   rw[fI this];exact q
  ·by_cases z:b=a
   ·subst z;rw[c]at q;cases q;exact⟨_,kq,rfl⟩
   ·exact⟨o,by rw[fI z];exact q,rfl⟩
 exact s.putO h l c (by show (0:Nat)≠3;decide) rfl ⟨vs,kq,r.up u⟩
theorem K8(k:∃o,H a=some o/\kO o=0):∃vs,H a=some (.lst vs):=by
 obtain⟨o,e,c⟩:=k;cases o with
 |lst vs=>exact⟨vs,e⟩
 |_=>exact nomatch c
noncomputable def aV{α:Type}(K:ak)(ρ:List av)(H:Hp)(r:Rs α)(R:α->a_->List av->Hp->Prop):Prop:=match r with
 | .ok a st=>∀ρ' H',Ex ρ H ρ' H'->SR K ρ' H' st->R a st ρ' H'
 |_=>False
theorem aV.left{α:Type}{r:Rs α}{R:α->a_->List av->Hp->Prop}(x:Ex ρ H ρ1 H1)(h:aV K ρ H r R):aV K ρ1 H1 r R:=by
 cases r with
 |ok a st=>exact λρ' c y s=>h ρ' c (x.trans y) s
 |exc _ _=>exact h
 |bad=>exact h
theorem aV.imp{α:Type}{r:Rs α}{R g:α->a_->List av->Hp->Prop}(h:aV K ρ H r R)(f:∀a st ρ' c,Ex ρ H ρ' c->SR K ρ' c st->R a st ρ' c->g a st ρ' c):aV K ρ H r g:=by
 cases r with
 |ok a st=>exact λρ' c y s=>f a st ρ' c y s (h ρ' c y s)
 |exc _ _=>exact h
 |bad=>exact h
theorem aV.bnd{α β:Type}{m:M α}{f:α->M β}{R:β->a_->List av->Hp->Prop}(h:aV K ρ H (bnd m f st) R):aV K ρ H (m st) λa c ρ' g=>aV K ρ' g (f a c) R:=by
 unfold MM.bnd at h;cases e:m st with
 |ok a s'=>
  rw[e]at h;exact λρ' g y s=>h.left y
 |exc _ _=>rw[e]at h;exact h
 |bad=>rw[e]at h;exact h
theorem aV.ret{α:Type}{a:α}{R:α->a_->List av->Hp->Prop}(h:aV K ρ H (MM.ret a st) R)(s:SR K ρ H st):R a st ρ H:=h ρ H Ex.refl s
theorem aV.chk{α:Type}{c:Prop}[Decidable c]{m:M α}{R:α->a_->List av->Hp->Prop}(h:aV K ρ H (MM.chk c m st) R):c/\aV K ρ H (m st) R:=by
 unfold MM.chk at h;by_cases g:c
 ·rw[aE g]at h;exact⟨g,h⟩
 ·rw[aA g]at h;exact h.elim
theorem aV.getL{n:Nat}{R:List D->a_->List av->Hp->Prop}(h:aV K ρ H (MM.getL n st) R)(s:SR K ρ H st):∃xs,st[n]?=some (.lst xs)/\R xs st ρ H:=by
 cases e:MM.getL n st with
 |ok xs s'=>
  obtain⟨rfl,q⟩:=VF e;rw[e]at h;exact⟨xs,q,h ρ H Ex.refl s⟩
 |exc _ _=>rw[e]at h;exact h.elim
 |bad=>rw[e]at h;exact h.elim
def wK(K:ak)(f:CE):TE:=λσ H Q=>∃ρ l st,LR K ρ H σ l/\SR K ρ H st/\aV K ρ H (f l st) λd _ ρ' c=>∀v,dN K ρ' c v d->Q v c
def pR(K:ak)(f:CT):TT:=λσ H Q=>∃ρ l st,LR K ρ H σ l/\SR K ρ H st/\aV K ρ H (f l st) λb _ _ c=>Q b c
def Jg(K:ak)(f:CA):TA:=λσ H Q=>∃ρ l st,LR K ρ H σ l/\SR K ρ H st/\aV K ρ H (f l st) λds _ ρ' c=>∀vs,bZ K ρ' c vs ds->Q vs c
def DS(K:ak)(f:CA):TE:=λσ H Q=>∃ρ l st,LR K ρ H σ l/\SR K ρ H st/\aV K ρ H (f l st) λds _ ρ' c=>∀a vs,H a=none->a∉ρ'->c a=some (.lst vs)->bZ K ρ' c vs ds->Q (.ref a) c
def vE(K:ak)(c:CS):TS:=λG σ H=>∃ρ l st,LR K ρ H σ l/\SR K ρ H st/\aV K ρ H (c l st) λf _ ρ' g=>match f with
 | .next l'=>∀σ',LR K ρ' g σ' l'->G.nx σ' g
 | .ret d=>∀v,dN K ρ' g v d->G.rt v g
 | .brk l'=>∀σ',LR K ρ' g σ' l'->G.bk σ' g
 | .cnt l'=>∀σ',LR K ρ' g σ' l'->G.ct σ' g
def yw(K:ak)(g:CG):TG:=λv σ H Q=>∃ρ l st d,LR K ρ H σ l/\SR K ρ H st/\dN K ρ H v d/\aV K ρ H (g d l st) λh _ ρ' c=>∀σ',LR K ρ' c σ' h->Q σ' c
def Fi(K:ak)(g:List D->Loc->M Loc):zo:=λvs σ H Q=>∃ρ l st ds,LR K ρ H σ l/\SR K ρ H st/\bZ K ρ H vs ds/\aV K ρ H (g ds l st) λh _ ρ' c=>∀σ',LR K ρ' c σ' h->Q σ' c
def pV(K:ak)(g:D->D->M D):R2:=λx y H Q=>∃ρ st d e,SR K ρ H st/\dN K ρ H x d/\dN K ρ H y e/\aV K ρ H (g d e st) λr _ ρ' c=>∀v,dN K ρ' c v r->Q v c
def v_(K:ak)(g:D->M D):V->Hp->VK->Prop:=λx H Q=>∃ρ st d,SR K ρ H st/\dN K ρ H x d/\aV K ρ H (g d st) λr _ ρ' c=>∀v,dN K ρ' c v r->Q v c
def Xp(K:ak)(g:List D->M D):List V->Hp->VK->Prop:=λxs H Q=>∃ρ st ds,SR K ρ H st/\bZ K ρ H xs ds/\aV K ρ H (g ds st) λr _ ρ' c=>∀v,dN K ρ' c v r->Q v c
def o9(K:ak)(n:Nat)(g:List D->M D):Sp:=λvs H Q _=>vs.length=n/\Xp K g vs H Q
end
section
variable{X:Cx}{a b c:Expr}{pos:Pos}
abbrev SE(X:Cx)(e:Expr)(f:CE):Prop:=PE X e (wK X.K f)
abbrev SL(X:Cx)(e:Expr)(f:CA):Prop:=PE X e (DS X.K f)
abbrev ST(X:Cx)(e:Expr)(f:CT):Prop:=PT X e (pR X.K f)
abbrev SA(X:Cx)(g:List Expr)(f:CA):Prop:=PA X g (Jg X.K f)
abbrev SS(X:Cx)(s:gM)(f:CS):Prop:=PS X s (vE X.K f)
abbrev w9(X:Cx)(s:List gM)(f:CS):Prop:=PSs X s (vE X.K f)
theorem _root_.L2.PE.of{e:Expr}{t t':TE}(h:PE X e t)(f:∀σ H Q,t' σ H Q->t σ H Q):PE X e t':=λg s σ H Q I q=>h g s σ H Q I (f σ H Q q)
theorem _root_.L2.PT.of{e:Expr}{t t':TT}(h:PT X e t)(f:∀σ H Q,t' σ H Q->t σ H Q):PT X e t':=λg s σ H Q I q=>h g s σ H Q I (f σ H Q q)
theorem _root_.L2.PA.of{e:List Expr}{t t':TA}(h:PA X e t)(f:∀σ H Q,t' σ H Q->t σ H Q):PA X e t':=λpos g s σ H Q I q=>h pos g s σ H Q I (f σ H Q q)
theorem _root_.L2.PS.of{e:gM}{t t':TS}(h:PS X e t)(f:∀D σ H,t' D σ H->t D σ H):PS X e t':=λg s σ H D I q=>h g s σ H D I (f D σ H q)
theorem _root_.L2.PSs.of{e:List gM}{t t':TS}(h:PSs X e t)(f:∀D σ H,t' D σ H->t D σ H):PSs X e t':=λg s σ H D I q=>h g s σ H D I (f D σ H q)
theorem _root_.L2.PG.of{e:Expr}{t t':TG}(h:PG X e t)(f:∀v σ H Q,t' v σ H Q->t v σ H Q):PG X e t':=λg s σ H v u Q I r q=>h g s σ H v u Q I r (f v σ H Q q)
theorem _root_.L2.PGs.of{e:List Expr}{t t':zo}(h:PGs X e t)(f:∀v σ H Q,t' v σ H Q->t v σ H Q):PGs X e t':=λg s σ H v u Q I r q=>h g s σ H v u Q I r (f v σ H Q q)
theorem _root_.L2.OpR.of{f:ah->ah->Sem ah}{r o:R2}(h:OpR X f r)(g:∀x y H Q,o x y H Q->r x y H Q):OpR X f o:=λl s σ H x y v u Q I C B q=>h l s σ H x y v u Q I C B (g x y H Q q)
theorem _root_.L2.CallR.of{f:ah}{r o:List V->Hp->VK->Prop}(h:CallR X f r)(g:∀x H Q,o x H Q->r x H Q):CallR X f o:=λl s σ H x u Q I v q=>h l s σ H x u Q I v (g x H Q q)
variable{fa fb fc:CE}
theorem SM(i:Nat){x:Str}(h:PE X (.Name x pos) (E_ i)):SE X (.Name x pos) (ai i):=h.of λσ H Q g=>by
 obtain⟨ρ,l,st,u,q,p⟩:=g;unfold ai at p;cases e:l[i]? with
 |none=>rw[e]at p;exact p.elim
 |some o=>
  rw[e]at p;cases o with
  |none=>exact p.elim
  |some d=>
   obtain⟨v,B,r⟩:=u.2 i d e;exact⟨v,B,p.ret q v r⟩
theorem UT{i:Int}{j:Nat}:SE X (.Constant (.int i) j pos) (aR (.int i)):=(Nl (i:=i) (j:=j) (pos:=pos)).of λσ H Q g=>by obtain⟨ρ,l,st,o,h,p⟩:=g;exact p.ret h _ (.int i)
theorem U5{i:Bool}{j:Nat}:SE X (.Constant (.bool i) j pos) (aR (.bl i)):=(WE (b:=i) (j:=j) (pos:=pos)).of λσ H Q g=>by obtain⟨ρ,l,st,o,h,p⟩:=g;exact p.ret h _ (.bl i)
theorem Um{j:Nat}:SE X (.Constant .none j pos) (aR .non):=(Xl (j:=j) (pos:=pos)).of λσ H Q g=>by obtain⟨ρ,l,st,o,h,p⟩:=g;exact p.ret h _ .non
theorem WV{i:Str}{j:Nat}:SE X (.Constant (.str i) j pos) (aR (.str i)):=(PC (x:=i) (j:=j) (pos:=pos)).of λσ H Q g=>by obtain⟨ρ,l,st,o,h,p⟩:=g;exact p.ret h _ (.str i)
theorem Go{g:D->D->M D}{r:R2}(Y:∀x y H Q,pV X.K g x y H Q->r x y H Q):∀σ H Q,wK X.K (c2 g fa fb) σ H Q->DP r (wK X.K fa) (wK X.K fb) σ H Q:=λσ H Q h=>
 by obtain⟨ρ,l,st,B,G,p⟩:=h;exact⟨ρ,l,st,B,G,p.bnd.imp λd q ρ1 H1 E J U v L=>⟨ρ1,l,q,B.mono E,J,U.bnd.imp λe o ρ2 c C I T u O=>Y _ _ _ _ ⟨ρ2,o,d,e,I,L.mono C,O,T⟩⟩⟩
theorem Wh{op:ph}{g:D->D->M D}(l:OpR X (fj op) (pV X.K g))(q:SE X a fa)(o:SE X b fb):SE X (.BinOp a op b pos) (c2 g fa fb):=
 (WR l q o).of (Go λ_ _ _ _ h=>h)
theorem Ts{op:uJ}{g:D->D->M D}(l:OpR X (dg op) (pV X.K g))(u:SE X a fa)(q:SE X b fb)(o:gO op b=false):SE X (.Compare a [op] [b] pos) (c2 g fa fb):=
 (OQ l u q o).of (Go λ_ _ _ _ h=>h)
end
theorem _root_.Exists.el{α β γ:Type}{A B C:α->β->γ->Prop}{G:Prop}(h:∃a b c,A a b c/\B a b c/\C a b c)(k:∀a b c,A a b c->B a b c->C a b c->G):G:=by obtain⟨ρ,l,st,a,b,c⟩:=h;exact k ρ l st a b c
theorem wK.el{K:ak}{f:CE}{σ:St}{H:Hp}{Q:VK}{C:Prop}(h:wK K f σ H Q)(k:∀ρ l st,LR K ρ H σ l->SR K ρ H st->aV K ρ H (f l st) (λd _ ρ' g=>∀v,dN K ρ' g v d->Q v g)->C):C:=by obtain⟨ρ,l,st,a,b,c⟩:=h;exact k ρ l st a b c
theorem pR.el{K:ak}{f:CT}{σ:St}{H:Hp}{Q:Bool->Hp->Prop}{C:Prop}(h:pR K f σ H Q)(k:∀ρ l st,LR K ρ H σ l->SR K ρ H st->aV K ρ H (f l st) (λb _ _ g=>Q b g)->C):C:=by obtain⟨ρ,l,st,a,b,c⟩:=h;exact k ρ l st a b c
theorem vE.el{K:ak}{c:CS}{σ:St}{H:Hp}{G:Ends}{C:Prop}(h:vE K c G σ H) (k:∀ρ l st,LR K ρ H σ l->SR K ρ H st->aV K ρ H (c l st) (λf _ ρ' g=>match f with
 | .next l'=>∀σ',LR K ρ' g σ' l'->G.nx σ' g
 | .ret d=>∀v,dN K ρ' g v d->G.rt v g
 | .brk l'=>∀σ',LR K ρ' g σ' l'->G.bk σ' g
 | .cnt l'=>∀σ',LR K ρ' g σ' l'->G.ct σ' g)->C):C:=by
 obtain⟨ρ,l,st,a,b,c⟩:=h;exact k ρ l st a b c
end MM
namespace MM
open PySem PySem.Spec PyProof.Rows L2
theorem Pk:∀(a b:List Int),mh (a.map .int) (b.map .int)=decide (a=b)
 |[],[]=>by simp[mh]
 |[],_::_=>by simp[mh]
 |_::_,[]=>by simp[mh]
 |x::xs,y::ys=>by
  rw[aI,aI]
  show (nO (.int x) (.int y)&&mh _ _)=_;rw[Pk xs ys]
  show (decide (x=y)&&_)=_;simp[nt]
theorem Ug:∀(a b:KI),nO (d7 a) (d7 b)=decide (a=b)
 | .inl i,.inl j=>by
  show decide (i=j)=_;by_cases z:i=j
  ·subst z;simp
  ·rw[aT z,aT (λq=>z (by injection q))]
 | .inl i,.inr r=>by rw[aT (by simp)];rfl
 | .inr r,.inl i=>by rw[aT (by simp)];rfl
 | .inr r,.inr q=>by
  show mh (r.map .int) (q.map .int)=_;rw[Pk];by_cases z:r=q
  ·subst z;simp
  ·rw[aT z,aT (λq=>z (by injection q))]
theorem Mf:∀(a b:List KI),mh (a.map d7) (b.map d7)=decide (a=b)
 |[],[]=>by simp[mh]
 |[],_::_=>by simp[mh]
 |_::_,[]=>by simp[mh]
 |x::xs,y::ys=>by
  rw[aI,aI]
  show (nO (d7 x) (d7 y)&&mh _ _)=_;rw[Mf xs ys,Ug];simp[nt]
theorem Hf(a b:NK):nO (rp a) (rp b)=decide (a=b):=Mf a b
theorem J5(a b:Key):nO (oD a) (oD b)=decide (a=b):=by cases a<;>cases b<;>simp[oD,nO]
theorem NG:∀{ds:List D}{r:List Int},oJ ds=some r->ds=r.map .int
 |[],r,h=>by simp[oJ]at h;subst h;rfl
 |d::ds,r,h=>by
  cases d with
  |int i=>
   unfold oJ at h;cases e:oJ ds with
   |none=>rw[e]at h;cases h
   |some q=>
    rw[e]at h;cases h;rw[aI,NG e]
  |_=>cases h
theorem Hv:∀{ds:List D}{r:NK},ni ds=some r->ds=r.map d7
 |[],r,h=>by simp[ni]at h;subst h;rfl
 |d::ds,r,h=>by
  cases d with
  |tup xs=>
   unfold ni at h;cases e:oJ xs with
   |none=>rw[e]at h;cases h
   |some q=>
    cases c:ni ds with
    |none=>rw[e,c]at h;cases h
    |some q2=>
     rw[e,c]at h;cases h;rw[aI,<- Hv c]
     show _=D.tup (q.map .int)::ds;rw[<- NG e]
  |int i=>
   unfold ni at h;cases c:ni ds with
   |none=>rw[c]at h;cases h
   |some q2=>
    rw[c]at h;cases h;rw[aI,<- Hv c];rfl
  |_=>cases h
theorem Tq{d:D}{r:NK}(h:stK d=some r):d=rp r:=by
 cases d with
 |tup ds=>show D.tup ds=D.tup _;rw[Hv h]
 |_=>cases h
theorem CP{d:D}(h:m_ true d=true):∃k,d=rp k:=by
 cases e:stK d with
 |none=>
  have:m_ true d=(stK d).isSome:=by cases d<;>rfl
  rw[this,e]at h;cases h
 |some k=>exact⟨k,Tq e⟩
theorem IS{d:D}(h:m_ false d=true):∃k,d=oD k:=by
 cases d with
 |int i=>exact⟨.inl i,rfl⟩
 |str x=>exact⟨.inr x,rfl⟩
 |_=>cases h
section
variable{X:Cx}{K:ak}{ρ:List av}{H:Hp}{st:a_}{ap:List (av×Obj)}{σ:St}{s:am}{a b:av}
theorem ID{k:Key}{v:V}(r:dN K ρ H v (oD k)):v=kV k:=by
 cases k with
 |inl i=>cases r;rfl
 |inr x=>cases r;rfl
abbrev KR(K:ak)(ρ:List av)(H:Hp):List (Key×V)->List (D×D)->Prop:=kK λ(p:Key×V)(q:D×D)=>oD p.1=q.1/\dN K ρ H p.2 q.2
def RO(K:ak)(ρ:List av)(H:Hp):Option V->Option D->Prop
 |some v,some d=>dN K ρ H v d
 |none,none=>True
 |_,_=>False
theorem RO.some_of{o:Option V}{d:D}(h:RO K ρ H o (some d)):∃v,o=some v/\dN K ρ H v d:=by
 cases o with
 |none=>exact h.elim
 |some v=>exact⟨v,rfl,h⟩
theorem RO.isSome_eq{o:Option V}{d:Option D}(h:RO K ρ H o d):o.isSome=d.isSome:=by cases o<;>cases d<;>first|rfl|exact h.elim
theorem KR.val{g:List (Key×V)}{c:List (D×D)}(r:KR K ρ H g c)(k:Key):RO K ρ H (pU g k) (lN c (oD k)):=by
 induction r with
 |nil=>exact da
 |@cons p q ps qs h t ih=>
  obtain⟨o,l⟩:=h;unfold lN;rw[cD,<- o,J5];by_cases e:p.1=k
  ·rw[Gn e,bF e];exact l
  ·rw[Gm e,aT e];exact ih
theorem KR.any{g:List (Key×V)}{c:List (D×D)}(r:KR K ρ H g c)(k:Key):(g.any λl=>decide (l.1=k))=c.any λp=>nO p.1 (oD k):=by
 induction r with
 |nil=>rfl
 |@cons p q ps qs h t ih=>rw[d8,d8,ih,<- h.1,J5]
theorem KR.put{l:List (Key×V)}{c:List (D×D)}(r:KR K ρ H l c)(k:Key){v:V}{d:D}(g:dN K ρ H v d):KR K ρ H (L2.mG l k v) (kG c (oD k) d):=by
 unfold L2.mG kG;rw[r.any k];by_cases e:(c.any λp=>nO p.1 (oD k))=true
 ·rw[aE e,aE e];clear e
  induction r with
  |nil=>exact .nil
  |@cons p q ps qs h t ih=>
   rw[aI,aI];refine .cons ?_ ih;rw[<- h.1,J5];by_cases e:p.1=k
   ·rw[aE e,aE (bF e)];exact⟨rfl,g⟩
   ·rw[aA e,aA (by rw[aT e];exact bo)];exact h
 ·rw[aA e,aA e];exact nE r ⟨rfl,g⟩
theorem KR.up{ρ1:List av}{h:Hp}(x:Up ρ H ρ1 h){g:List (Key×V)}{c:List (D×D)}(r:KR K ρ H g c):KR K ρ1 h g c:=kK.mapS r λ_ _ z=>⟨z.1,z.2.up x⟩
theorem KR.length{g:List (Key×V)}{c:List (D×D)}(r:KR K ρ H g c):g.length=c.length:=dj r
abbrev NR(K:ak)(ρ:List av)(H:Hp):List (NK×av×V)->List (D×D)->Prop:=kK λ(p:NK×av×V)(q:D×D)=>rp p.1=q.1/\dN K ρ H (.ref p.2.1) q.1/\dN K ρ H p.2.2 q.2
abbrev NX:List (NK×av×V)->List (NK×av×ah)->Prop:=kK λ(p:NK×av×V)(q:NK×av×ah)=>p.1=q.1/\p.2.1=q.2.1/\RelV p.2.2 q.2.2
abbrev Ab(X:Cx):rQ X.prog X.w NK:=tG X.prog X.w
theorem ME{P:Program}{w:bG}:∀{r:List Int}{c:List V}{l:List ah},bZ K ρ H c (r.map .int)->b9 c l->ItemsAre (pG P w) r l
 |[],_,_,h,g=>by cases h;cases g;exact .nil
 |i::r,_,_,h,g=>by
  cases h with
  |cons h1 ht=>
   cases h1;cases g with
   |cons g1 gt=>
    obtain⟨t,e⟩:=g1;subst e;exact .cons (by show qq i (gA i t)=true;simp[qq]) (ME ht gt)
theorem Tb{r:List Int}{v:V}{u:ah}(I:Inv X ap σ H s)(h:dN X.K ρ H v (EW r))(g:RelV v u):∃b,u=.ref b/\Cy (pG X.prog X.w) s.heap r b:=by
 cases h with
 |@tup b vs ds h q=>
  have e:u=bj b:=g;subst e;obtain⟨its,c,⟨o,C,B,n,l⟩,_⟩:=I.tuple h;exact⟨b,rfl,o,its.toArray,n,C,B,l,by simpa using ME q c⟩
theorem ND(I:Inv X ap σ H s):∀{k:NK}{c:List V}{l:List ah},bZ X.K ρ H c (k.map d7)->b9 c l->nJ X.prog X.w s.heap k l
 |[],_,_,h,g=>by cases h;cases g;exact .nil
 |r::k,_,_,h,g=>by
  cases h with
  |cons h1 ht=>
   cases g with
   |cons g1 gt=>
    refine .cons ?_ (ND I ht gt);cases r with
    |inl i=>
     cases (show dN X.K ρ H _ (.int i) from h1);obtain⟨t,e⟩:=g1;subst e;exact .one i t
    |inr r=>
     obtain⟨b,e,o⟩:=Tb I h1 g1;subst e;exact .row o
theorem BO{k:NK}{v:V}{u:ah}(I:Inv X ap σ H s)(h:dN X.K ρ H v (rp k))(g:RelV v u):∃b,v=.ref b/\u=.ref b/\(Ab X).is s.heap k b:=by
 cases h with
 |@tup b vs ds h q=>
  have e:u=bj b:=g;subst e;obtain⟨its,c,⟨o,C,B,n,l⟩,_⟩:=I.tuple h;exact⟨b,rfl,rfl,o,its.toArray,n,C,B,l,by simpa using ND I q c⟩
theorem xF{v:List (NK×av×V)}{c:List (D×D)}(I:Inv X ap σ H s)(e:H a=some (iw a v))(r:NR X.K ρ H v c):
  v.length<=sizeLine/\(a == cR)=false/\∃xs,NX v xs/\s.heap.DictOfH (Ab X) a xs/\rE s.heap a xs.length:=by
 obtain⟨⟨z,y,xs,E,o,u,ep,C,L,B,J,G,U⟩,Q,O⟩:=(show eT X.prog X.w H s.heap a (iw a v) from I.hok a _ e)
 subst U;refine⟨z,y,xs,E,⟨o,u,_,C,L,B,J,?_,G⟩,⟨o,u,C,B⟩⟩;clear C L B J G e z y Q O
 induction E generalizing c with
 |nil=>intro x l;exact nomatch l
 |@cons p q ps qs h t ih=>
  cases r with
  |cons g gt=>
   intro x l;rcases bb.mp l with e|l
   ·subst e;obtain⟨b,Y,_,T⟩:=BO I (by rw[g.1];exact g.2.1) (show RelV (.ref p.2.1) (.ref p.2.1) from rfl);cases Y;rw[<- h.1,<- h.2.1];exact T
   ·exact ih gt x l
theorem C9{J:Hp}{h':bQ}{P:Program}{w:bG}{q:List (NK×av×V)}{xs:List (NK×av×ah)}(z:q.length<=sizeLine)(y:(a == cR)=false)(r:NX q xs)(I:h'.DictOfH (tG P w) a xs)(G:rE h' a xs.length):
  eT P w J h' a (iw a q):=by
 obtain⟨o,c,ep,g,h,u,C,_,B⟩:=I;obtain⟨L,E,l,v⟩:=G;rw[g]at l;cases l;rw[u]at v;cases v;refine⟨⟨z,y,xs,r,o,c,_,g,h,u,C,B,rfl⟩,⟨o,g⟩,?_⟩
 rintro l g2 ⟨z,y,xs,r,o,c,ep,g,h⟩ k
 exact⟨z,y,xs,r,o,c,ep,k o g,h⟩
noncomputable def valN(c:List (NK×av×V))(k:NK):Option V:=(c.find? λp=>decide (p.1=k)).map (·.2.2)
noncomputable def putN(c:List (NK×av×V))(k:NK)(b:av)(v:V):List (NK×av×V):=if (c.any λp=>decide (p.1=k))=true then c.map (λp=>if p.1=k then (p.1,p.2.1,v) else p) else c++[(k,b,v)]
theorem NR.val{g:List (NK×av×V)}{c:List (D×D)}(r:NR K ρ H g c)(k:NK):RO K ρ H (valN g k) (lN c (rp k)):=by
 induction r with
 |nil=>exact da
 |@cons p q ps qs h t ih=>
  obtain⟨o,_,l⟩:=h;unfold lN valN;rw[cD,cD,<- o,Hf];by_cases e:p.1=k
  ·rw[bF e];exact l
  ·rw[aT e];exact ih
theorem NX.val{c:List (NK×av×V)}{xs:List (NK×av×ah)}(r:NX c xs)(k:NK):o7 (valN c k) ((i7 xs k).map (·.2)):=by
 induction r with
 |nil=>exact da
 |@cons p q ps qs h t ih=>
  obtain⟨l,_,g⟩:=h;unfold i7 valN;rw[cD,cD,<- l];by_cases e:p.1=k
  ·rw[bF e];exact g
  ·rw[aT e];exact ih
theorem NX.put{g:List (NK×av×V)}{xs:List (NK×av×ah)}(r:NX g xs)(k:NK)(b:av){v:V}{u:ah}(c:RelV v u):NX (putN g k b v) (lB xs k b u):=by
 have e:(g.any λp=>decide (p.1=k))=(i7 xs k).isSome:=by
  clear c
  induction r with
  |nil=>rfl
  |@cons p q ps qs h t ih=>
   rw[d8,ih];unfold i7;rw[cD,<- h.1];by_cases e:p.1=k
   ·rw[bF e];rfl
   ·rw[aT e];rfl
 unfold putN lB;rw[e];by_cases q:(i7 xs k).isSome=true
 ·rw[aE q,aE q];clear q e
  induction r with
  |nil=>exact .nil
  |@cons p q ps qs h t ih=>
   rw[aI,aI];refine .cons ?_ ih;unfold tj;by_cases e:p.1=k
   ·rw[aE e,aE (h.1.symm.trans e)];exact⟨h.1,h.2.1,c⟩
   ·rw[aA e,aA (λz=>e (h.1.trans z))];exact h
 ·rw[aA q,aA q];exact nE r ⟨rfl,rfl,c⟩
theorem NR.put{l:List (NK×av×V)}{c:List (D×D)}(r:NR K ρ H l c)(k:NK)(b:av){v:V}{d:D}(o:dN K ρ H (.ref b) (rp k))(g:dN K ρ H v d):NR K ρ H (putN l k b v) (kG c (rp k) d):=by
 have e:(l.any λp=>decide (p.1=k))=c.any λp=>nO p.1 (rp k):=by
  clear o g
  induction r with
  |nil=>rfl
  |@cons p q ps qs h t ih=>rw[d8,d8,ih,<- h.1,Hf]
 unfold putN kG;rw[e];clear e;by_cases e:(c.any λp=>nO p.1 (rp k))=true
 ·rw[aE e,aE e];clear e
  induction r with
  |nil=>exact .nil
  |@cons p q ps qs h t ih=>
   rw[aI,aI];refine .cons ?_ ih;by_cases e:p.1=k
   ·have z:nO q.1 (rp k)=true:=by rw[<- h.1,Hf];exact bF e
    rw[aE e,aE z];exact⟨h.1,h.2.1,g⟩
   ·have z:¬ nO q.1 (rp k)=true:=by rw[<- h.1,Hf,aT e];exact bo
    rw[aA e,aA z];exact h
 ·rw[aA e,aA e];exact nE r ⟨rfl,o,g⟩
theorem NR.up{ρ1:List av}{h:Hp}(x:Up ρ H ρ1 h){g:List (NK×av×V)}{c:List (D×D)}(r:NR K ρ H g c):NR K ρ1 h g c:=kK.mapS r λ_ _ z=>⟨z.1,z.2.1.up x,z.2.2.up x⟩
theorem NR.length{g:List (NK×av×V)}{c:List (D×D)}(r:NR K ρ H g c):g.length=c.length:=dj r
theorem K1(c:List (NK×av×V))(k:NK)(b:av)(v:V):(putN c k b v).length<=c.length+1:=by
 unfold putN;split
 ·rw[ae];ext
 ·rw[au,bp,fP];ext
theorem XG{n:Nat}{p:Bool×List (D×D)}{c:a_}(h:getDc n st=.ok p c):c=st/\st[n]?=some (.dct p.1 p.2):=by
 unfold getDc at h;cases e:st[n]? with
 |none=>rw[e]at h;cases h
 |some o=>
  rw[e]at h;cases o with
  |lst ds=>cases h
  |dct b cp=>cases h;exact⟨rfl,rfl⟩
theorem aV.getDc{n:Nat}{R:Bool×List (D×D)->a_->List av->Hp->Prop}(h:aV K ρ H (MM.getDc n st) R)(s:SR K ρ H st):∃b c,st[n]?=some (.dct b c)/\R (b,c) st ρ H:=by
 cases e:MM.getDc n st with
 |ok xs s'=>
  obtain⟨rfl,q⟩:=XG e;rw[e]at h;exact⟨xs.1,xs.2,q,h ρ H Ex.refl s⟩
 |exc _ _=>rw[e]at h;exact h.elim
 |bad=>rw[e]at h;exact h.elim
theorem Q6{b:Bool}{C:List (D×D)}{k d:D}{y:V}{u:ah}{Q:ah->am->Prop}{E:ah->am->Prop}{A:bB}(hu:A.units+2 < cC)(I:Inv X ap σ H s)(g:rD X.K ρ H a (.dct b C))(U:dN X.K ρ H y k)(hk:m_ b k=true)(Y:lN C k=some d)(T:RelV y u)
  (h:∀v B G,Inv X ap σ H G->dN X.K ρ H v d->RelV v B->Q B G):aK (bc X.prog X.w) A (pH (.ref a) u) Q E s:=by
 cases b with
 |false=>
  obtain⟨es,e,r⟩:=g;obtain⟨k,rfl⟩:=IS hk;cases ID U;have q:=KR.val r k;rw[Y]at q;obtain⟨v,O,J⟩:=q.some_of;exact Yr (by ext) I (by have:=vF.k (k:=k) e;rw[O]at this;exact this) T λB G I' l=>h v B G I' J l
 |true=>
  obtain⟨es,e,r⟩:=g;obtain⟨k,rfl⟩:=CP hk;have q:=NR.val r k;rw[Y]at q;obtain⟨v,O,J⟩:=q.some_of;obtain⟨_,hd,xs,rx,dd,de⟩:=xF I e r;obtain⟨c,e2,e3,hc⟩:=BO I U T;subst e3;obtain⟨B,hw,l⟩:=o7.some_of (v:=v) (o:=(i7 xs k).map (·.2)) (by rw[<- O];exact NX.val rx k);obtain⟨p,hp,L⟩:=fk.mp hw;refine Cw (knd:=Ab X) (show A.in1.units+1 < cC from hu) hc dd hp ?_;rw[L];exact h v B _ (I.tok _) J l
theorem Ql{b:Bool}{l:List (D×D)}{k:D}{y:V}{u:ah}{Q:ah->am->Prop}{E:ah->am->Prop}{A:bB}(hu:A.units+2 < cC)(I:Inv X ap σ H s)(g:rD X.K ρ H a (.dct b l))(B:dN X.K ρ H y k)(C:m_ b k=true)(v:RelV y u)
  (h:∀o,Inv X ap σ H o->Q (.bool (!(lN l k).isSome)) o):aK (bc X.prog X.w) A (dg .NotIn u (.ref a)) Q E s:=by
 cases b with
 |false=>
  obtain⟨L,e,r⟩:=g;obtain⟨k,rfl⟩:=IS C;cases ID B;rw[<- (KR.val r k).isSome_eq]at h;exact SF (by ext) I (vF.k (k:=k) e) v h
 |true=>
  obtain⟨L,e,r⟩:=g;obtain⟨k,rfl⟩:=CP C;rw[<- (NR.val r k).isSome_eq]at h;obtain⟨_,hd,xs,G,T,Y⟩:=xF I e r;obtain⟨c,U,O,J⟩:=BO I B v;subst O;refine FU (knd:=Ab X) (show A.in1.units+1 < cC from hu) J hd T ?_;have q:=(NX.val G k).isSome_eq;rw[lU]at q;rw[<- q];exact h _ (I.tok _)
theorem Vc{n:Nat}{b:Bool}{l:List (D×D)}{k d:D}{y v:V}{u r':ah}{Q:Unit->am->Prop}{E:ah->am->Prop}{A:bB}(hu:A.units+2 < cC)(I:Inv X ap σ H s)(L:SR X.K ρ H st)(U:ρ[n]?=some a)(hn:st[n]?=some (.dct b l))
  (O:dN X.K ρ H y k) (hk:m_ b k=true) (hl:l.length < sizeLine) (rv:dN X.K ρ H v d) (ry:RelV y u) (rr:RelV v r')
  (h:∀H' G,Inv X ap σ H' G->SR X.K ρ H' (st.set n (.dct b (kG l k d)))->Ex ρ H ρ H'->Q () G):aK (bc X.prog X.w) A (og (.ref a) u r') Q E s:=by
 have B:=(ac.mp hn).1;have g:=L.ob n a _ U hn;cases b with
 |false=>
  obtain⟨J,e,r⟩:=g;obtain⟨k,rfl⟩:=IS hk;cases ID O;have w:=L.putO (o':=.dct false (kG l (oD k) d)) (u':=.dK (L2.mG J k v)) B U e (by show (1:Nat)≠3;decide) rfl ⟨_,kq,(KR.put r k rv).up ?_⟩
  ·exact Rv (by ext) I (yK.k (k:=k) e (by rw[KR.length r];exact hl)) ry rr λG c=>h _ G c w.1 w.2
  ·refine⟨⟨[],by simp⟩,λc o T q=>?_,λc o q=>?_⟩
   ·rw[fI λz=>by subst z;rw[e]at q;cases q;exact nomatch T];exact q
   ·by_cases z:c=a
    ·subst z;rw[e]at q;cases q;exact⟨_,kq,rfl⟩
    ·exact⟨o,by rw[fI z];exact q,rfl⟩
 |true=>
  obtain⟨J,e,r⟩:=g;obtain⟨k,rfl⟩:=CP hk;obtain⟨_,hd,xs,rx,dd,de⟩:=xF I e r;obtain⟨c,e2,e3,hc⟩:=BO I O ry;subst e2 e3;have w:=L.putO (o':=.dct true (kG l (rp k) d)) (u':=iw a (putN J k c v)) B U e (by show (2:Nat)≠3;decide) rfl ⟨_,kq,(NR.put r k c O rv).up ?_⟩
  ·have hz : xs.length <= sizeLine := by rw[<- dj rx,NR.length r];ext
   refine Yp (knd:=Ab X) (show A.in1.units+1 < cC from hu) hc dd de hz λh' C Y g=>h _ _ ?_ w.1 w.2;have l:∃q,h'.get? a=some q:=let ⟨q,_,_,hq,_⟩:=C;⟨q,hq⟩
   refine C2 I (by rw[e];exact da) g l (C9 ?_ hd (NX.put rx k c rr) C Y);have:=K1 J k c v;rw[NR.length r]at this;ext
  ·refine⟨⟨[],by simp⟩,λc o T q=>?_,λc o q=>?_⟩
   ·rw[fI λz=>by subst z;rw[e]at q;cases q;exact nomatch T];exact q
   ·by_cases z:c=a
    ·subst z;rw[e]at q;cases q;exact⟨_,kq,rfl⟩
    ·exact⟨o,by rw[fI z];exact q,rfl⟩
end
noncomputable abbrev zq:ah->am->Prop:=λ_ _=>False
noncomputable def zW(g:List Expr)(env:Env):Sem Bool:=forIn g true λc r=>if r=true then do let ok <- isTrue c env (eval c env);pure (kB ok) else pure (kB r)
section
variable{prog:Program}{w:bG}{A:bB}{R:Result->am->Prop}{s:am}
theorem U4{l c iter:Expr}{g:List Expr}{scope:eO}{pos:Pos}{u o:ah}{env:Env}(I:Nat->am->Prop)
  (q:∀n s,I n s->aK (bc prog w) A (ko u) (λr s₁=>match r with
   |none=>R (.ok .next) s₁
   |some v => aK (bc prog w) A (ox c u v) (λ_ s₁' => aK (bc prog w) A (n_ c env v) (λ_ s₂ =>
     aK (bc prog w) A (zW g env) (λok s₃=>
      if ok=true then aK (bc prog w) A (eval l env) (λx s₄=>
       aK (bc prog w) A (call (.builtin "list.append") [o,x]) (λ_ s₅=>∃m,m < n/\I m s₅) zq s₄) zq s₃
      else ∃m,m < n/\I m s₃) zq s₂) zq s₁') zq s₁) zq s)
  (n:Nat) (h:I n s):ml (bc prog w) A (.compLoop (.ListComp l [⟨c,iter,g,0⟩] scope pos) 0 u o env) R s:=by
 refine codeAny_loop rfl I (λn s B=>?_) n h
 show aK _ A ((compTurn (.ListComp l [⟨c,iter,g,0⟩] scope pos) 0 u o env).onRaise (λx=>do noteFrame x env;theTreesLotGoes x)) _ _ s;refine wpAny_noted ?_;rw[compTurn_list];refine ab (qr (ab (gN (q n s B) (λr s₁ h₁=>?_) λ_ _ h'=>h'.elim)));cases r with
 |none=>exact aq h₁
 |some v=>
  refine ab (gN h₁ (λ_ s₁' h₁'=>?_) λ_ _ h'=>h'.elim);refine ab (gN h₁' (λ_ s₂ h₂=>ab (gN h₂ (λok s₃ h₃=>?_) λ_ _ h'=>h'.elim)) λ_ _ h'=>h'.elim);cases ok with
  |false=>exact aq ⟨rfl,h₃⟩
  |true=>
   exact ab (ab (gN h₃ (λx s₄ h₄=>ab (gN h₄ (λ_ s₅ h₅=>aq (aq ⟨rfl,h₅⟩)) λ_ _ h'=>h'.elim)) λ_ _ h'=>h'.elim))
end
noncomputable def lb:List (Str×fD)->List (Str×av)->List (Str×av)->List (Str×av)
 |[],_,acc=>acc
 | (n,k)::r,cells,acc=>lb r cells (if k == .free then (match cells.lookup n with|some c=>(n,c)::acc|none=>acc) else acc)
theorem IJ{env:Env}: ∀(names:List (Str×fD))(acc:List (Str×av)),(∀x,(x,cf)∈names->∃c,env.cells.lookup x=some c) ->
  (forIn names acc λ(x:Str×fD)r=>if (x.2 == cf)=true then (do let a <- cellOf env x.1;pure (kB ((x.1,a)::r)):Sem _) else pure (kB r))=(pure (lb names env.cells acc):Sem _)
 |[],acc,_=>rfl
 | (n,k)::r,acc,h=>by
  rw[nu];by_cases l:(k == cf)=true
  ·have e:k=.free:=by simpa using l
   subst e;obtain⟨c,o⟩:=h n cM;have q:cellOf env n=pure c:=by unfold cellOf;rw[o]
   simp only[beq_self_eq_true,if_true,q];unfold lb;simp only[beq_self_eq_true,if_true,o];exact IJ r ((n,c)::acc) λx g=>h x (bI _ g)
  ·simp only[l,if_false];unfold lb;simp only[l,if_false];exact IJ r acc λx g=>h x (bI _ g)
theorem P4{scope:eO}{env:Env}(h:∀x,(x,cf)∈scope.names->∃c,env.cells.lookup x=some c):CB scope env=pure (lb scope.names env.cells []):=by have q:=IJ (env:=env) scope.names [] h;simp only[CB];exact cz (λm=>m >>= λg=>pure g) q
theorem vI{α:Type}{x y:Str}{v:α}{r:List (Str × α)}(h:x≠y):FX x ((y,v)::r)=r.lookup x:=by rw[xN];have:(x == y)=false:=beq_eq_false_iff_ne.mpr h;rw[this]
theorem lookup_cons_self{α:Type}{x:Str}{v:α}{r:List (Str × α)}:FX x ((x,v)::r)=some v:=by rw[xN,beq_self_eq_true]
theorem uV{cells:List (Str×av)}{x:Str}{c:av}:∀(names:List (Str×fD))(acc:List (Str×av)),(lb names cells acc).lookup x=some c->cells.lookup x=some c\/acc.lookup x=some c
 |[],acc,h=>.inr h
 | (n,k)::r,acc,h=>by
  unfold lb at h;rcases uV r _ h with q|q
  ·exact .inl q
  ·split at q
   ·split at q
    ·rename_i o l;by_cases g:x=n
     ·subst g;rw[lookup_cons_self]at q;cases q;exact .inl l
     ·rw[vI g]at q;exact .inr q
    ·exact .inr q
   ·exact .inr q
theorem ED{cells:List (Str×av)}{x:Str}{c:av}(l:cells.lookup x=some c):∀(names:List (Str×fD))(acc:List (Str×av)),((x,cf)∈names\/acc.lookup x=some c)->(∀d,acc.lookup x=some d->d=c)->(lb names cells acc).lookup x=some c
 |[],acc,h,_=>by
  rcases h with h|h
  ·cases h
  ·exact h
 | (n,k)::r,acc,h,ha=>by
  unfold lb;by_cases o:x=n
  ·subst o;by_cases q:(k == cf)=true
   ·rw[aE q,l];exact ED l r _ (.inr lookup_cons_self) λd hd=>by rw[lookup_cons_self]at hd;cases hd;rfl
   ·rw[aA q];refine ED l r _ ?_ ha;rcases h with h|h
    ·rcases bb.mp h with e|e
     ·cases e;exact ba rfl q
     ·exact .inl e
    ·exact .inr h
  ·have step : ∀g, g.lookup x = acc.lookup x -> (lb r cells g).lookup x = some c := λg e => by
     refine ED l r g ?_ (by rw[e];exact ha);rcases h with h|h
     ·rcases bb.mp h with z|z
      ·cases z;exact ba rfl o
      ·exact .inl z
     ·exact .inr (by rw[e];exact h)
   refine step _ ?_;split
   ·split
    ·exact vI o
    ·rfl
   ·rfl
theorem kS{x:Str}{c:av}:∀(names:List (Str×fD))(n:Nat)(acc:List (Str×av)),(dH n names acc).lookup x=some c->n<=c\/acc.lookup x=some c
 |[],_,_,h=>.inr h
 | (y,k)::r,n,acc,h=>by
  unfold dH at h;split at h
  ·rcases kS r (n+1) _ h with q|q
   ·exact .inl (by ext)
   ·by_cases g:x=y
    ·subst g;rw[lookup_cons_self]at q;cases q;exact .inl (ar _)
    ·rw[vI g]at q;exact .inr q
  ·exact kS r n acc h
theorem Ka: ∀(names:List (Str×fD))(n:Nat)(acc:List (Str×av)),(∀x y c,acc.lookup x=some c->acc.lookup y=some c->x=y)->(∀x c,acc.lookup x=some c->c < n) ->
  ∀x y c,(dH n names acc).lookup x=some c->(dH n names acc).lookup y=some c->x=y
 |[],_,_,hi,_=>hi
 | (z,k)::r,n,acc,hi,hb=>by
  unfold dH;split
  ·refine Ka r (n+1) _ (λx y c q g=>?_) (λx c h=>?_)
   ·by_cases o:x=z
    ·subst o;rw[lookup_cons_self]at q;cases q;by_cases l:y=x
     ·exact l.symm
     ·rw[vI l]at g;exact ba (hb y _ g) (bM _)
    ·rw[vI o]at q;by_cases l:y=z
     ·subst l;rw[lookup_cons_self]at g;cases g;exact ba (hb x _ q) (bM _)
     ·rw[vI l]at g;exact hi x y c q g
   ·by_cases o:x=z
    ·subst o;rw[lookup_cons_self]at h;cases h;exact kP _
    ·rw[vI o]at h;exact mz (hb x c h)
  ·exact Ka r n acc hi hb
theorem kY{x:Str}{c:av}:∀(names:List (Str×fD))(h:bQ)(acc:List (Str×av)),(dH h.objs.size names acc).lookup x=some c->acc.lookup x=some c\/((wn h names).IsCell c none/\h.objs.size<=c)
 |[],_,_,q=>.inl q
 | (y,k)::r,h,acc,q=>by
  unfold dH at q;unfold wn;split at q
  ·rename_i g;rw[aE g];rw[<- cF h { cls:=.type "cell",data:=.cell none }]at q;rcases kY r _ _ q with z|z
   ·by_cases l:x=y
    ·subst l;rw[lookup_cons_self]at z;cases z;refine .inr ⟨?_,ar _⟩;refine⟨{ cls:=.type "cell",data:=.cell none },ub r _ _ _ (aC _ rfl),rfl⟩
    ·rw[vI l]at z;exact .inl z
   ·refine .inr ⟨z.1,?_⟩;have:=z.2;rw[cF]at this;ext
  ·rename_i g;rw[aA g];exact kY r h acc q
theorem IH{x:Str}:∀(names:List (Str×fD))(n:Nat)(acc:List (Str×av)),(x,iz)∉names->(dH n names acc).lookup x=acc.lookup x
 |[],_,_,_=>rfl
 | (y,k)::r,n,acc,h=>by
  unfold dH;split
  ·rename_i g;have e:k=.cell:=by simpa using g
   subst e;have c:x≠y:=λz=>h (by rw[z];exact cM);rw[IH r (n+1) _ λz=>h (bI _ z),vI c]
  ·exact IH r n acc λz=>h (bI _ z)
theorem MX{α β:Type}(f:Str->α->β)(x:Str):∀(l:List (Str × α)),(l.map λp=>(p.1,f p.1 p.2)).lookup x=(l.lookup x).map (f x)
 |[]=>rfl
 | (y,v)::r=>by
  by_cases c:x=y
  ·subst c;rw[aI,lookup_cons_self,lookup_cons_self];rfl
  ·rw[aI,vI c,vI c];exact MX f x r
theorem C6(scope:eO)(env:Env)(x:Str):
  (ke scope env).names.lookup x=(scope.names.lookup x).map λk=>if (k == cf&&env.scope.kind == .function&&env.kindOf x == some .cell)=true then .cell else k:=by
 have e:(ke scope env).names=scope.names.map λp=>(p.1,(λ(n:Str)k=>if (k == cf&&env.scope.kind == .function&&env.kindOf n == some .cell)=true then iz else k) p.1 p.2):=by show scope.names.map _=_;congr 1;funext p;obtain⟨n,k⟩:=p;dsimp only;split<;>rfl
 rw[e];exact MX (λ(n:Str)k=>if (k == cf&&env.scope.kind == .function&&env.kindOf n == some .cell)=true then iz else k) x scope.names
theorem PJ{M:Model}{A:bB}{E:ah->am->Prop}{s:am}{scope:eO}{globals:av}{g:List (Str×av)}{qual:Str}{env:Env}{Q:Env->am->Prop}
  (h:Q { scope:=scope,locals:=s.heap.objs.size,globals:=globals,cells:=dH (s.heap.objs.size+1) scope.names g,qual:=qual,func:=none,code:=env.code,frame:=env.frame,builtins:=env.builtins }
   { s with heap:=wn (s.heap.push { cls:=.type "dict",data:=.dict #[] }) scope.names }):aK M A (newFunctionEnv scope globals g [] qual none .none (some env)) Q E s:=by
 simp only[newFunctionEnv,iP,if_true];refine ab (wpAny_alloc ?_);refine ab (wpAny_layCells _ (λname kind cells=>by cases c:kind == iz<;>simp[c]) _ _ _ _ ?_);rw[show ({ s with heap:=s.heap.push { cls:=.type "dict",data:=.dict #[] } }:am).heap.objs.size=s.heap.objs.size+1 from cF ..];exact ab (aq (aq h))
def ot(X:Cx)(N:List Str)(scope:eO)(fp:List av)(s:am)(H:Hp):Cx where
 prog:=X.prog
 w:=X.w
 K:=X.K
 mg:=X.mg
 base:=X.base
 A:=X.A
 N:=N
 s₀:=s
 H₀:=H
 env:=compEnvC scope (dH (s.heap.objs.size+1) scope.names (lb scope.names X.env.cells [])) s.heap.objs.size X.env
 outer:=X.stack
 stack:=X.stack
 ex:=fp
 fn:=λx=>decide (scope.names.lookup x=some .local\/scope.names.lookup x=some .cell)
 calm:=X.calm
 pn:=[]
 xe:=zq
structure ij(X:Cx)(scope:eO):Prop where
 kind:scope.kind=.function
 names:∀x∈scope.names,x.2=.local->scope.names.lookup x.1=some .local
 free:∀x,(x,cf)∈scope.names->X.env.kindOf x=some .cell\/X.env.kindOf x=some .free
 once:∀x,(x,cf)∈scope.names->(x,iz)∉scope.names
 own:∀x,(x,cf)∈scope.names->scope.names.lookup x≠some .local
noncomputable def yD(n:Nat)(ix:List Nat)(σ:St):St:=aZ n none++ix.map λi=>(σ[i]?).join
structure km(X:Cx)(scope:eO)(N:List Str)(n:Nat)(ix:List Nat):Prop where
 len:N.length=n+ix.length
 cap:∀(j i:Nat)(x:Str),ix[j]?=some i->N[n+j]?=some x->X.N[i]?=some x/\scope.names.lookup x=some .free
theorem t8{cells:List (Str×av)}{x:Str}{c:av}:∀(names:List (Str×fD))(acc:List (Str×av)),(lb names cells acc).lookup x=some c->(x,cf)∈names\/acc.lookup x=some c
 |[],acc,h=>.inr h
 | (n,k)::r,acc,h=>by
  unfold lb at h;rcases t8 r _ h with q|q
  ·exact .inl (bI _ q)
  ·split at q
   ·rename_i l;have e:k=.free:=by simpa using l
    subst e;split at q
    ·by_cases g:x=n
     ·subst g;exact .inl cM
     ·rw[vI g]at q;exact .inr q
    ·exact .inr q
   ·exact .inr q
theorem V7{X:Cx}{scope:eO}{cells:List (Str×av)}{x:Str}{c:av}(h:(lb scope.names cells []).lookup x=some c)(g:scope.names.lookup x=some .local\/scope.names.lookup x=some .cell)(S:ij X scope):False:=by
 rcases t8 _ _ h with q|q
 ·rcases g with z|z
  ·exact S.own x q z
  ·exact S.once x q (eA z)
 ·cases q
section
variable{X:Cx}{ap:List (av×Obj)}{σ:St}{H:Hp}{s:am}{scope:eO}{N:List Str}{fp:List av}
theorem D1(I:Inv X ap σ H s){x:Str}{c:av}(h:(lb scope.names X.env.cells []).lookup x=some c):X.env.cells.lookup x=some c/\c < s.heap.objs.size/\(∃v,s.heap.IsCell c v)/\H c=none:=by
 rcases uV _ _ h with q|q
 ·obtain⟨v,z⟩:=I.cell x c q;exact⟨q,z.lt,⟨v,z⟩,I.freeC x c q⟩
 ·cases q
theorem RA(I:Inv X ap σ H s)(S:ij X scope)(l:∀b∈fp,pf X ap H b)(B:∀b∈fp,b < s.heap.objs.size):(ot X N scope fp s H).Ok:=by
 have inj:∀x y c,(dH (s.heap.objs.size+1) scope.names (lb scope.names X.env.cells [])).lookup x=some c->(dH (s.heap.objs.size+1) scope.names (lb scope.names X.env.cells [])).lookup y=some c->x=y:=
  Ka scope.names _ _ (λx y c h1 h2=>I.ok.inj x y c (D1 I h1).1 (D1 I h2).1) λx c h=>mz (D1 I h).2.1
 refine⟨I.ok.mod,S.kind,I.ok.glob,I.ok.blt,ar _,inj,λx Y=>?_,λx c hf C=>?_,I.ok.hd,I.ok.frames,.inl rfl,λb v=>?_,I.bs,bW I.ok.bsz I.sz,λb o e v=>?_,λb v z=>?_,I.stack,I.stkFree⟩
 ·have g:(ke scope X.env).names.lookup x=some .cell\/(ke scope X.env).names.lookup x=some .free:=Y;rw[C6]at g;cases e:scope.names.lookup x with
  |none=>rw[e]at g;rcases g with z|z<;>cases z
  |some k=>
   refine ma.mp (mK scope.names _ _ ?_);cases k with
   |cell=>exact .inl e
   |free=>
    have Q:=eA e;obtain⟨c,C⟩:=I.ok.has x (S.free x Q);exact .inr (by rw[ED C scope.names [] (.inl Q) λd hd=>by cases hd];rfl)
   |_=>
    rw[e]at g;rcases g with z|z<;>(simp at z)
 ·have u:(dH (s.heap.objs.size+1) scope.names (lb scope.names X.env.cells [])).lookup x=some c:=C;rcases kS _ _ _ u with q|q
  ·exact Nat.le_of_succ_le q
  ·exfalso
   have E:scope.names.lookup x=some .local\/scope.names.lookup x=some .cell:=of_decide_eq_true hf;exact V7 q E S
 ·obtain⟨U,O,L,J,G,T⟩:=l b v;refine⟨bA (B b v),λx c C z=>?_⟩;have u:(dH (s.heap.objs.size+1) scope.names (lb scope.names X.env.cells [])).lookup x=some c:=C;rcases kS _ _ _ u with q|q
  ·rw[z]at q;exact ba (bw (mz (B b v)) q) (bM _)
  ·exact G x c (D1 I q).1 z
 ·obtain⟨U,O,L,J,G,T⟩:=l b v;rcases J with z|z
  ·exact I.ok.noex b o e z
  ·exact ba (bw (bw (aJ e) I.ok.bsz) z) (bM _)
 ·obtain⟨U,O,L,J,G,T⟩:=l b v;rcases bb.mp (I.stkSub b z) with q|q
  ·exact O q
  ·exact L q
noncomputable abbrev qD(h:bQ)(scope:eO):bQ:=wn (h.push { cls:=.type "dict",data:=.dict #[] }) scope.names
theorem LU(h:bQ)(scope:eO):∀b o,h.get? b=some o->(qD h scope).get? b=some o:=λb o e=>ub _ _ b o (al _ e)
theorem WO{n:Nat}{ix:List Nat}(I:Inv X ap σ H s)(S:ij X scope)(T:km X scope N n ix)(O:∀b∈fp,pf X ap H b)(L:∀b∈fp,b < s.heap.objs.size):
  Inv (ot X N scope fp s H) [] (yD n ix σ) H { s with heap:=qD s.heap scope }:=by
 have B:=LU s.heap scope;have G:(qD s.heap scope).Ns s.heap.objs.size λ_=>none:=(bQ.Ns.new s.heap (.type "dict")).keeps (ub _ _);have cells : ∀x c, (dH (s.heap.objs.size+1) scope.names (lb scope.names X.env.cells [])).lookup x = some c ->
   (∃v,(qD s.heap scope).IsCell c v)/\H c=none:=λx c h=>by
  have h':(dH (s.heap.push { cls:=.type "dict",data:=.dict #[] }).objs.size scope.names (lb scope.names X.env.cells [])).lookup x=some c:=by rw[cF];exact h
  rcases kY _ _ _ h' with q|⟨q,z⟩
  ·obtain⟨_,_,⟨v,c⟩,hn⟩:=D1 I q;exact⟨⟨v,c.keeps B⟩,hn⟩
  ·refine⟨⟨none,q⟩,I.hok.fresh ?_⟩;rw[cF]at z;ext
 refine⟨RA I S O L,rfl,I.bare,Un.kept B,⟨_,G,λi x v h1 h2 h3=>?_⟩,λx c h=>(cells x c h).1,I.hok.fresh (ar _),λx c h=>(cells x c h).2,λp hp=>ba (show p∈([]:List (av×Obj)) from hp) (by simp),I.hok.kept B,?_⟩
 ·have U:N[i]?=some x:=h1;have g:(aZ n none++ix.map λi=>(σ[i]?).join)[i]?=some (some v):=h2;have hi:n<=i:=qO λz=>by rw[aw (by simpa using z),gE]at g;split at g<;>cases g
  rw[aW (by simpa using hi),eQ,aj]at g;cases e:ix[i-n]? with
  |none=>rw[e]at g;cases g
  |some k=>
   rw[e]at g;have C:(σ[k]?).join=some v:=aN g;have O:σ[k]?=some (some v):=by
    cases q:σ[k]? with
    |none=>rw[q]at C;cases C
    |some o=>rw[q]at C;exact cz some C
   obtain⟨hN,l⟩:=T.cap (i-n) k x e (by rw[show n+(i-n)=i by ext];exact U);have J:=eA l;have Y:=S.free x J;obtain⟨m,hn,L⟩:=I.loc;obtain⟨u,G,H⟩:=L k x v hN O (by
    rcases Y with z|z
    ·exact .inr (.inl z)
    ·exact .inr (.inr z))
   have E:∃c,X.env.cells.lookup x=some c/\s.heap.IsCell c (some u):=by
    rcases H with ⟨z,_⟩|⟨_,c,Q,q⟩
    ·rcases Y with y|y<;>(rw[y]at z;cases z)
    ·exact⟨c,Q,q⟩
   obtain⟨c,Q,q⟩:=E;refine⟨u,G,.inr ⟨?_,c,?_,q.keeps B⟩⟩
   ·show (ke scope X.env).names.lookup x=some .cell\/(ke scope X.env).names.lookup x=some .free;rw[C6,l,eE];by_cases h:(cf == cf&&X.env.scope.kind == .function&&X.env.kindOf x == some .cell)=true
    ·rw[aE h];exact .inl rfl
    ·rw[aA h];exact .inr rfl
   ·show (dH (s.heap.objs.size+1) scope.names (lb scope.names X.env.cells [])).lookup x=some c;rw[IH _ _ _ (S.once x J)];exact ED Q scope.names [] (.inl J) λd hd=>by cases hd
 ·show (aZ n none++ix.map λi=>(σ[i]?).join).length=N.length;rw[au,eQ,ae,T.len]
def u5(C:TI)(n:Nat)(ix:List Nat)(g:TG)(E:TT)(G:TE):TE:=λσ H Q=>C σ H λJ B=>∀l,B l=none->∃W:Nat->Nat->St->Hp->Prop,(∃m,W 0 m (yD n ix σ) (fq B l (.lst []))) /\
 ∀i m σ' h,W i m σ' h->(J.stop i h/\Q (.ref l) h)\/(J.go i h/\∀x u,J.yld i h x u->g x σ' u λσ2 I=>E σ2 I λb q=>
  if b=true then G σ2 q λv o=>∃ys,o l=some (.lst ys)/\ys.length < sizeLine/\∃c,c < m/\W (i+1) c σ2 (fq o l (.lst (ys++[v]))) else ∃c,c < m/\W (i+1) c σ2 q)
def vz(X:Cx)(c:List Expr)(g:TT):Prop:=
 ∀(ap:List (av×Obj))(s:am)(σ:St)(H:Hp)(Q:Bool->Hp->Prop),Inv X ap σ H s->g σ H Q->aK (bc X.prog X.w) X.A (zW c X.env) (TP X ap σ Q) X.xe s
theorem Xm:vz X [] (λ_ H Q=>Q true H):=λap s σ H Q I h=>wpAny_tests_nil ⟨H,I,h⟩
theorem Rj{c:Expr}{g:TT}(h:PT X c g):vz X [c] g:=λap s σ H Q I q=>wpAny_tests_one (h ap s σ H Q I q)
structure u7(X:Cx)(ap:List (av×Obj))(C:av)(H:Hp)(s:am):Prop where
 ns:∃m,s.heap.Ns C m
 free:H C=none
 loc:C≠X.env.locals
 cell:∀x c,X.env.cells.lookup x=some c->c≠C
 sz:X.s₀.heap.objs.size<=C
 pin:∀p∈X.pn++ap,p.1≠C
theorem u7.go{C:av}{h':bQ}(c:u7 X ap C H s)(I:Inv X ap σ H s)(g:cJ C s.heap h'):Inv X ap σ H { s with heap:=h' }:=
 I.turned (t':=s.toks) (λb o h e=>(g.2 b h).trans e) c.free c.loc (.inr c.sz) c.cell c.pin
theorem OM{elt B iter:Expr}{ifs:List Expr}{pos:Pos}{n:Nat}{ix:List Nat}{wi:TI}{g:TG}{tt:TT}{te:TE}{use:Option (ah->Sem Unit)}{Q:ah->am->Prop}{QH:VK}
  (hc:X.calm=true) (S:ij X scope) (T:km X scope N n ix) (hi:PI X B iter wi)
  (blk:∀(fp:List av)(s:am)(H:Hp),PG (ot X N scope fp s H) B g/\vz (ot X N scope fp s H) ifs tt/\PE (ot X N scope fp s H) elt te)
  (hs:∀x,fv iter X.env x=pure x) (I:Inv X ap σ H s) (h:u5 wi n ix g tt te σ H QH)
  (fin:∀(l C:av)(G:Hp)(Y:am),Inv X ap σ G Y->QH (.ref l) G->u7 X ap C G Y->compPost (bc X.prog X.w) X.A X.xe use Q (.ref l) C (.ok .next) Y):
  aK (bc X.prog X.w) X.A (comprehension (.ListComp elt [⟨B,iter,ifs,0⟩] scope pos) scope X.env (firstIterPos [⟨B,iter,ifs,0⟩] pos) (newList []) false (eval iter X.env) use) Q X.xe s:=by
 have hclos:CB scope X.env=pure (lb scope.names X.env.cells []):=P4 λx hx=>I.ok.has x (S.free x hx);refine wpAny_comprehension_free rfl hs hclos S.kind S.names ?_;refine fS (hi ap s σ H _ I h) λv s1 h1=>fS h1 λitv U h2=>?_;obtain⟨it,fp,tn,J,H2,rfl,I2,TT,st2,f2,fM⟩:=h2;refine bK (hd:=by size_fits) ?_;have hf2:H2 U.heap.objs.size=none:=I2.hok.fresh (ar _);obtain⟨W,⟨m0,w0⟩,turn⟩:=fM _ hf2;have fl:∀b∈fp,b < U.heap.objs.size:=λb E=>by obtain⟨o,e,_⟩:=TT.obj _ _ st2 b E;exact aJ e
 have f3:∀b∈fp,pf X ap (fq H2 U.heap.objs.size (.lst [])) b:=λb E=>by obtain⟨f0,fr⟩:=f2 b E;refine⟨?_,fr⟩;rw[fI (bA (fl b E))];exact f0
 have I3:Inv X ap σ (fq H2 U.heap.objs.size (.lst [])) { U with heap:=U.heap.push { cls:=.type "list",dict:=none,data:=.seq ([]:List ah).toArray } }:=
  I2.laid (t':=U.toks) (λb o e=>al _ e) (ar _) ⟨bu _,[],0,.nil,aC _ rfl⟩
 have tn3:tn 0 (U.heap.push { cls:=.type "list",dict:=none,data:=.seq ([]:List ah).toArray }):=TT.keep _ _ _ st2 λb E o e=>al _ e;have fl3:∀b∈fp,b < (U.heap.push { cls:=.type "list",dict:=none,data:=.seq ([]:List ah).toArray }).objs.size:=λb E=>by rw[cF];exact mz (fl b E)
 generalize U.heap.objs.size=l at *;generalize hs3:({ U with heap:=U.heap.push { cls:=.type "list",dict:=none,data:=.seq ([]:List ah).toArray } }:am)=L at *;have e3:U.heap.push { cls:=.type "list",dict:=none,data:=.seq ([]:List ah).toArray }=L.heap:=by rw[<- hs3]
 rw[e3]at tn3 fl3;generalize fq H2 l (.lst [])=O at *;refine PJ ?_;have I4:=WO (N:=N) (n:=n) (ix:=ix) I3 S T f3 fl3;obtain⟨bg,bt,be⟩:=blk fp L O;have tn4:tn 0 (qD L.heap scope):=TT.keep _ _ _ tn3 λb E o e=>LU _ _ _ _ e;have fr4:∀b∈fp,O b=none:=λb E=>(f3 b E).1
 show ml (bc X.prog X.w) X.A (.compStart (.ListComp elt [⟨B,iter,ifs,0⟩] scope pos) 0 (.ref it) (.ref l) (ot X N scope fp L O).env) (compPost (bc X.prog X.w) X.A X.xe use Q (.ref l) L.heap.objs.size) { L with heap:=qD L.heap scope };have fpx:∀{σ':St}{G:Hp}{Y:am},Inv (ot X N scope fp L O) [] σ' G Y->(∀b∈fp,G b=none)->∀b∈fp,pf (ot X N scope fp L O) [] G b:=λI' hn b E=>by have q:=I'.ok.exf b E;exact⟨hn b E,q.1,I'.ok.exfs b E,.inl E,q.2,λp hp=>ba (show p∈([]:List (av×Obj)) from hp) (by simp)⟩
 have hc':(ot X N scope fp L O).calm=true:=hc;have loop:ml (bc X.prog X.w) X.A (.compLoop (.ListComp elt [⟨B,iter,ifs,0⟩] scope pos) 0 (.ref it) (.ref l) (ot X N scope fp L O).env) (compPost (bc X.prog X.w) X.A X.xe use Q (.ref l) L.heap.objs.size) { L with heap:=qD L.heap scope }:=by
  refine U4 (λk Y=>∃i σ' G,Inv (ot X N scope fp L O) [] σ' G Y/\tn i Y.heap/\(∀b∈fp,G b=none)/\W i k σ' G) ?_ m0 ⟨0,_,O,I4,tn4,fr4,w0⟩
  rintro k s5 ⟨i,σ5,H5,I5,tn5,fr5,w5⟩
  rcases turn i k σ5 H5 w5 with ⟨stop,q⟩|⟨go,step⟩
  ·refine fS (TT.done (ot X N scope fp L O) rfl rfl rfl hc' i [] s5 σ5 H5 zq I5 (fpx I5 fr5) tn5 stop) λr s6 h=>?_;obtain⟨hr,g⟩:=h;subst hr;have G:Inv X ap σ H5 s6:=I3.call' g.os g.base g.hok g.bare λb E=>by obtain⟨I,C,H,B,u,o⟩:=f3 b E;exact⟨B,C,u,o⟩
   obtain⟨m,hn,_⟩:=g.loc;refine fin l L.heap.objs.size H5 s6 G q ⟨⟨m,hn⟩,g.free,df I3.lt,λx c e=>?_,I3.sz,λp hp=>?_⟩
   ·obtain⟨v,z⟩:=I3.cell x c e;exact bA z.lt
   ·exact bA (aJ (I3.pin p hp).1)
  ·refine fS (TT.item (ot X N scope fp L O) rfl rfl rfl hc' i [] s5 σ5 H5 zq I5 (fpx I5 fr5) tn5 go) λr s6 I=>?_;obtain⟨u,hr,h6⟩:=I;subst hr;refine fS h6 λ_ s7 H=>?_;obtain⟨x,H7,I7,r7,y7,c,fr7⟩:=H;have I7':=I7.pinned (fpx I7 fr7) (TT.obj _ _ c);refine fS (bg _ s7 σ5 H7 x u _ I7' r7 (step x H7 y7)) λ_ s8 C=>?_;obtain⟨σ8,H8,I8,q8⟩:=C;refine fS (bt _ s8 σ8 H8 _ I8 q8) λok s9 B=>?_;obtain⟨H9,I9,q9⟩:=B;have again : ∀{Y : am}{G : Hp}, Inv (ot X N scope fp L O) ([] ++ mI fp s7.heap) σ8 G Y -> (∃Q, Q < k /\ W (i+1) Q σ8 G) ->
     ∃m,m < k/\∃i σ' G,Inv (ot X N scope fp L O) [] σ' G Y/\tn i Y.heap/\(∀b∈fp,G b=none)/\W i m σ' G:=λ{Y G}I' q=>by
    obtain⟨Q,hm,w'⟩:=q;refine⟨Q,hm,i+1,σ8,G,I'.unpinned,TT.keep _ _ _ c λb E o e=>(I'.pin (b,o) (aY _ (aY _ (G5 E e)))).1,λb E=>?_,w'⟩;obtain⟨o,e,d⟩:=TT.obj _ _ c b E;exact (I'.pin (b,o) (aY _ (aY _ (G5 E e)))).2.1
   cases ok with
   |false=>exact again I9 q9
   |true=>
    refine fS (be _ s9 σ8 H9 _ I9 q9) λxv T h=>?_;obtain⟨v,J,I10,U,ys,hy,hz,q10⟩:=h;refine fS (Mt (X:=ot X N scope fp L O) _ T σ8 J (.ref l) [v] (.ref l) [xv] (λ_ G=>G=fq J l (.lst (ys++[v]))) I10 rfl (.cons U .nil) ⟨l,ys,v,rfl,rfl,hy,hz,rfl⟩) λ_ s11 g=>?_;obtain⟨_,H11,I11,_,e⟩:=g;subst e;exact again I11 q10
 exact codeAny_compStart_list loop (TT.self _ 0 _ _ _ tn4 loop)
theorem QF{v o iter:Expr}{u:List Expr}{pos:Pos}{n:Nat}{ix:List Nat}{G:TI}{g:TG}{J:TT}{L:TE}
  (hc:X.calm=true) (S:ij X scope) (T:km X scope N n ix) (Y:PI X o iter G)
  (E:∀(fp:List av)(s:am)(H:Hp),PG (ot X N scope fp s H) o g/\vz (ot X N scope fp s H) u J/\PE (ot X N scope fp s H) v L)
  (O:∀x,fv iter X.env x=pure x:=by intro _;rfl):PE X (.ListComp v [⟨o,iter,u,0⟩] scope pos) (u5 G n ix g J L):=by
 intro ap s σ H Q I h;rw[eval_ListComp];refine OM (use:=none) hc S T Y E O I h λl C H' s' I' q c=>?_;obtain⟨m,U⟩:=c.ns;exact⟨m,U,λh' B=>⟨.ref l,H',c.go I' B,rfl,q⟩⟩
theorem QG{E o iter:Expr}{B:List Expr}{pos u G:Pos}{n i:Nat}{ix:List Nat}{wi:TI}{g:TG}{tt:TT}{te:TE}{x:Str}
  (hN:X.N.Nodup) (Y:X.N[i]?=some x) (hx:L2.Loc X.env.scope x) (hf:X.fn x=true\/X.env.scope.names.lookup x=some .local)
  (hc:X.calm=true) (S:ij X scope) (T:km X scope N n ix) (hi:PI X o iter wi)
  (blk:∀(fp:List av)(s:am)(H:Hp),PG (ot X N scope fp s H) o g/\vz (ot X N scope fp s H) B tt/\PE (ot X N scope fp s H) E te)
  (O:kr (.ListComp E [⟨o,iter,B,0⟩] scope pos) (some (.Name x u)) G.line X.env=pure true)
  (hs:∀x,fv iter X.env x=pure x:=by intro _;rfl):PS X (.Assign [.Name x u] (.ListComp E [⟨o,iter,B,0⟩] scope pos) G) (zr (u5 wi n ix g tt te) (tD i)):=by
 intro ap s σ H D I h;rw[exec_Assign_Name_used _ _ _ _ O];refine ab (qr (ab ?_))
 show aK _ _ (comprehension (.ListComp E [⟨o,iter,B,0⟩] scope pos) scope X.env _ (newList []) false (eval iter X.env) (some (n_ (.Name x u) X.env)) >>= λ_=>pure ()) _ _ s;refine ab (gN (OM (use:=some (n_ (.Name x u) X.env)) (Q:=λ_ L=>SP X ap D .next L) hc S T hi blk hs I h λl C H' L I' q c=>?_) (λ_ L hq=>aq (aq hq)) λ_ _ e=>e);obtain⟨m,hn⟩:=c.ns;refine Dc (NF I' hN Y hx (v:=.ref l) rfl (λs2 I2 ⟨b,hb,hb2⟩=>?_) hf);have J:b≠C:=by
  rcases hb2 with z|z
  ·rw[z];exact c.loc.symm
  ·exact c.cell x b z
 refine⟨m,hn.sameBut hb J.symm,λh' U=>⟨_,H',?_,q⟩⟩;exact u7.go ⟨⟨m,hn.sameBut hb J.symm⟩,c.free,c.loc,c.cell,c.sz,c.pin⟩ I2 U
end
section
variable{X:Cx}{a b c e:Expr}{es:List Expr}{pos:Pos}{fa fb fc:CE}{ca cb:CA}{K:ak}{ρ:List av}{H:Hp}{st:a_}
theorem zS{K:ak}{g:D->D->M D}{x y:V}{H:Hp}{Q:VK}(B:∀d e,(∃i j,d=D.int i/\e=D.int j)\/g d e=bad)(h:pV K g x y H Q):
  ∃(i j:Int)(ρ:List av)(st:a_),x=.int i/\y=.int j/\SR K ρ H st/\aV K ρ H (g (.int i) (.int j) st) (λr _ ρ' l=>∀v,dN K ρ' l v r->Q v l):=by
 obtain⟨ρ,st,d,e,o,u,q,p⟩:=h;rcases B d e with ⟨i,j,G,E⟩|C
 ·subst G E;cases u;cases q;exact⟨_,_,ρ,st,rfl,rfl,o,p⟩
 ·rw[C]at p;exact p.elim
theorem Vy:OpR X (fj .Sub) (pV X.K sA):=QI.of λx y H Q h=>by obtain⟨i,j,ρ,st,rfl,rfl,g,p⟩:=zS (by intro d e;cases d<;>cases e<;>first|exact .inl ⟨_,_,rfl,rfl⟩|exact .inr rfl) h;exact⟨_,_,rfl,rfl,p.ret g _ (.int _)⟩
theorem UU:OpR X (fj .Mult) (pV X.K rj):=U6.of λx y H Q h=>by obtain⟨i,j,ρ,st,rfl,rfl,g,p⟩:=zS (by intro d e;cases d<;>cases e<;>first|exact .inl ⟨_,_,rfl,rfl⟩|exact .inr rfl) h;exact⟨_,_,rfl,rfl,p.chk.1,p.chk.2.ret g _ (.int _)⟩
theorem RX:OpR X (fj .FloorDiv) (pV X.K r8):=Tt.of λx y H Q h=>by obtain⟨i,j,ρ,st,rfl,rfl,g,p⟩:=zS (by intro d e;cases d<;>cases e<;>first|exact .inl ⟨_,_,rfl,rfl⟩|exact .inr rfl) h;exact⟨_,_,rfl,rfl,p.chk.1,p.chk.2.ret g _ (.int _)⟩
theorem PK:OpR X (fj .Mod) (pV X.K oC):=Wi.of λx y H Q h=>by obtain⟨i,j,ρ,st,rfl,rfl,g,p⟩:=zS (by intro d e;cases d<;>cases e<;>first|exact .inl ⟨_,_,rfl,rfl⟩|exact .inr rfl) h;exact⟨_,_,rfl,rfl,p.chk.1,p.chk.2.ret g _ (.int _)⟩
theorem Su:OpR X (fj .Pow) (pV X.K wE):=VC.of λx y H Q h=>by obtain⟨i,j,ρ,st,rfl,rfl,g,p⟩:=zS (by intro d e;cases d<;>cases e<;>first|exact .inl ⟨_,_,rfl,rfl⟩|exact .inr rfl) h;exact⟨_,_,rfl,rfl,p.chk.1,p.chk.2.ret g _ (.int _)⟩
theorem Wx:OpR X (dg .Lt) (pV X.K zk):=Tc.of λx y H Q h=>by obtain⟨i,j,ρ,st,rfl,rfl,g,p⟩:=zS (by intro d e;cases d<;>cases e<;>first|exact .inl ⟨_,_,rfl,rfl⟩|exact .inr rfl) h;exact⟨_,_,rfl,rfl,p.ret g _ (.bl _)⟩
theorem Vw:OpR X (dg .Gt) (pV X.K vL):=W7.of λx y H Q h=>by obtain⟨i,j,ρ,st,rfl,rfl,g,p⟩:=zS (by intro d e;cases d<;>cases e<;>first|exact .inl ⟨_,_,rfl,rfl⟩|exact .inr rfl) h;exact⟨_,_,rfl,rfl,p.ret g _ (.bl _)⟩
theorem UY:OpR X (dg .GtE) (pV X.K F9):=Xs.of λx y H Q h=>by obtain⟨i,j,ρ,st,rfl,rfl,g,p⟩:=zS (by intro d e;cases d<;>cases e<;>first|exact .inl ⟨_,_,rfl,rfl⟩|exact .inr rfl) h;exact⟨_,_,rfl,rfl,p.ret g _ (.bl _)⟩
theorem G_:SA X [] bh:=u_.of λσ H Q h=>h.el λρ l st o g p=>p.ret g [] .nil
theorem GP(U:SE X e fa)(T:SA X es ca)(O:aF (e::es) X.env=(false,eval e X.env)::aF es X.env:=by rfl):SA X (e::es) (az fa ca):=
 (rX U T O).of λσ H Q Y=>Y.el λρ l st o C p=>⟨ρ,l,st,o,C,p.bnd.imp λd g ρ1 H1 u G L v I=>⟨ρ1,l,g,o.mono u,G,L.bnd.imp λds B ρ2 H2 q E J c h=>J.ret E _ (.cons (I.mono q) h)⟩⟩
theorem To{k:Nat}(h:SA X es ca):SE X (.Tuple es k pos) (cV ca):=(S_ h).of λσ H Q J=>J.el λρ l st G v p=>⟨ρ,l,st,G,v,p.bnd.imp λds u ρ1 T L B E O g=>by obtain⟨I,C⟩:=E.chk;refine⟨by rw[g.length];exact I,λq o=>?_⟩;exact C ρ1 _ (Ex.new o) (B.new o) _ (.tup (iR.of kq) (g.mono (Ex.new o)))⟩
theorem V8(h:SA X es ca):SL X (.List es pos) (eZ ca):=(Xn h).of λσ H Q U=>U.el λρ l st L G p=>⟨ρ,l,st,L,G,p.bnd.imp λds E ρ1 Y B v J C g=>by
 obtain⟨T,I⟩:=J.chk;refine⟨by rw[g.length];exact T,λq u=>?_⟩;have O:H q=none:=by
  cases z:H q with
  |none=>rfl
  |some o=>exact ba u (B.trk q o z)
 exact I ρ1 _ (Ex.new u) (v.new u) q C O (v.fresh u) kq (g.mono (Ex.new u))⟩
theorem aV.bnd0{α β:Type}{m:M α}{f:α->M β}{R:β->a_->List av->Hp->Prop}(h:aV K ρ H (MM.bnd m f st) R):aV K ρ H (m st) λa g _ _=>aV K ρ H (f a g) R:=by
 unfold MM.bnd at h;cases e:m st with
 |ok a s'=>
  rw[e]at h;exact λρ' l y s=>h
 |exc _ _=>rw[e]at h;exact h
 |bad=>rw[e]at h;exact h
theorem X4(h:SL X e ca):SE X e (dk ca):=h.of λσ H Q O=>O.el λρ l st J E p=>⟨ρ,l,st,J,E,p.bnd0.imp λds C ρ1 B o u G a T L I v q=>by
 have x:Ex ρ H (ρ1++[a]) B:=by
  obtain⟨τ,e,f⟩:=o.pre;refine⟨⟨τ++[a],by rw[e,aX],λb g=>?_⟩,o.fix,o.oth,o.knd⟩;rcases aB.mp g with g|g
  ·exact f b g
  ·rw[ax]at g;rw[g];exact L
 refine G (ρ1++[a]) B x (u.keep v I q) _ (.ref ⟨_,v,rfl⟩ ?_);rw[<- u.len];simp⟩
theorem _root_.L2.IxR.of{r C:R2}(h:IxR X r)(g:∀x y H Q,C x y H Q->r x y H Q):IxR X C:=λl o B s σ H x y v u Q I G E q J=>h l o B s σ H x y v u Q I G E (g x y H Q q) J
theorem aV.item{ds:List D}{i:Int}{R:D->a_->List av->Hp->Prop}(h:aV K ρ H (cB ds i st) R)(s:SR K ρ H st):∃k d,L2.my ds.length i=some k/\ds[k]?=some d/\R d st ρ H:=by
 unfold cB at h;cases e:MM.my ds.length i with
 |none=>rw[e]at h;exact h.elim
 |some k=>
  rw[e]at h;cases g:ds[k]? with
  |none=>dsimp only at h;rw[g]at h;exact h.elim
  |some d=>dsimp only at h;rw[g]at h;exact⟨k,d,e,g,h.ret s⟩
theorem Fm{g:List V}{ds:List D}{i:Int}{k:Nat}{d:D}(r:bZ K ρ H g ds)(o:L2.my ds.length i=some k)(l:ds[k]?=some d):∃v,vH g i=some v/\dN K ρ H v d:=by obtain⟨v,e,h⟩:=r.get l;refine⟨v,?_,h⟩;unfold vH;rw[r.length,o];exact e
theorem aV.itemK{n:Nat}{k:D}{R:D->a_->List av->Hp->Prop}(h:aV K ρ H (MM.itemK n k st) R)(s:SR K ρ H st):∃b g d,st[n]?=some (.dct b g)/\m_ b k=true/\lN g k=some d/\R d st ρ H:=by
 obtain⟨b,g,e,q⟩:=aV.getDc (aV.bnd h) s;obtain⟨u,l⟩:=aV.chk q;cases o:lN g k with
 |none=>dsimp only at l;rw[o]at l;exact l.elim
 |some d=>dsimp only at l;rw[o]at l;exact⟨b,g,d,e,u,o,l.ret s⟩
theorem rD.dictIs{X:Cx}{h:List (av×Obj)}{σ:St}{s:am}{a:av}{b:Bool}{l:List (D×D)}(I:Inv X h σ H s)(g:rD X.K ρ H a (.dct b l)):s.TypeIs (.ref a) "dict":=by
 cases b with
 |false=>
  obtain⟨es,e,r⟩:=g;obtain⟨_,_,q,_,o⟩:=JO I.hok e;exact o.typeIs
 |true=>
  obtain⟨es,e,r⟩:=g;obtain⟨_,_,xs,_,o,_⟩:=xF I e r;exact o.typeIs
theorem Wc(hu:X.A.units+60 < cC):IxR X (λx y H Q=>∃(ρ:List av)(st:a_)(n:Nat)(a:av)(b:Bool)(l:List (D×D))(k d:D),x=.ref a/\SR X.K ρ H st/\ρ[n]?=some a/\st[n]?=some (.dct b l)/\dN X.K ρ H y k/\m_ b k=true/\lN l k=some d/\∀v,dN X.K ρ H v d->Q v H):=by intro o B E s σ H x y v u Q I L J h U;obtain⟨ρ,st,n,a,b,l,k,d,ex,G,ha,Y,T,hk,c,q⟩:=h;subst ex;cases L;have g:=G.ob n a _ ha Y;exact zB (rD.dictIs I g) PySem.F.slot_dict_getitem.lookup (Q6 (by ext) I g T hk c J λv w' s' I' O C=>⟨v,H,I',C,q v O⟩) U
theorem TV{x y:V}{d e:D}{Q:VK}(l:SR K ρ H st)(L:dN K ρ H x d)(J:dN K ρ H y e)(hd:∀n,d≠.dic n)(p:aV K ρ H (aU d e st) λr _ ρ' I=>∀v,dN K ρ' I v r->Q v I):Nx K x y H Q:=by
 cases J with
 |int i=>
  cases L with
  |dic _ _=>exact ba rfl (hd _)
  |tup h r=>
   obtain⟨k,d,C,B,q⟩:=aV.item p l;obtain⟨v,u,o⟩:=Fm r C B;exact .inr (.inl ⟨_,_,i,v,rfl,rfl,h,u,q v o⟩)
  |lit h r=>
   obtain⟨k,d,C,B,q⟩:=aV.item p l;obtain⟨v,u,o⟩:=Fm r C B;exact .inl ⟨_,_,i,v,rfl,rfl,h.seq,u,q v o⟩
  |ref _ h=>
   obtain⟨xs,e,g⟩:=aV.getL (aV.bnd p) l;obtain⟨a,T,G,O,r⟩:=l.seq e;rw[h]at G;cases G;obtain⟨k,d,C,B,q⟩:=aV.item g l;obtain⟨v,u,o⟩:=Fm r C B;exact .inl ⟨_,_,i,v,rfl,rfl,gD.of O,u,q v o⟩
  |str z=>
   obtain⟨hz,g⟩:=aV.chk p;cases e:MM.my z.length i with
   |none=>rw[e]at g;exact g.elim
   |some k=>
    rw[e]at g;cases E:z.cps.toList[k]? with
    |none=>dsimp only at g;rw[E]at g;exact g.elim
    |some c=>
     dsimp only at g;rw[E]at g;refine .inr (.inr ⟨z,i,c,rfl,rfl,hz,?_,g.ret l _ (.str _)⟩);unfold vH;rw[show z.cps.toList.length=z.length by simp[Str.length]]
     show (L2.my z.length i).bind _=_;rw[show L2.my z.length i=some k from e];exact E
  |_=>exact p.elim
 |_=>cases d<;>first|exact ba rfl (hd _)|exact p.elim
theorem W8(hu:X.A.units+60 < cC):IxR X (pV X.K aU):=(Uo.or (Wc hu)).of λx y H Q g=>by
 obtain⟨ρ,st,d,e,l,B,o,p⟩:=g;by_cases hd:∃n,d=.dic n
 ·obtain⟨n,rfl⟩:=hd;cases B with
  |@dic a n _ h=>
   have E:aV X.K ρ H (itemK n e st) λr _ ρ' C=>∀(v:V),dN X.K ρ' C v r->Q v C:=by cases o<;>exact p
   obtain⟨b,u,d,J,I,G,q⟩:=aV.itemK E l;exact .inr ⟨ρ,st,n,a,b,u,e,d,rfl,l,h,J,o,I,G,q⟩
 ·exact .inl (TV l B o (λn z=>hd ⟨n,z⟩) p)
theorem Vn(hu:X.A.units+60 < cC)(o:SE X a fa)(l:SE X b fb)(g:qh b):SE X (.Subscript a b pos) (c2 aU fa fb):=(LY (W8 hu) o l g).of (Go λ_ _ _ _ h=>h)
theorem W1(G:SL X a ca)(hb:SE X b fb)(hs:qh b):SE X (.Subscript a b pos) (mJ ca fb):=(LY MH G hb hs).of λσ H Q h_=>h_.el λρ l st E L p=>
 ⟨ρ,l,st,E,L,p.bnd.imp λds g ρ1 H1 I T c a B G na hv h=>⟨ρ1,l,g,E.mono I,T,c.bnd.imp λe J ρ2 H2 o O C u Y=>by
  cases Y with
  |int i=>
   obtain⟨k,d,h1,h2,q⟩:=aV.item C O;obtain⟨v,h3,U⟩:=Fm (h.mono o) h1 h2;exact⟨a,B,i,v,rfl,rfl,gD.of (o.lst a B na hv),h3,q v U⟩
  |_=>exact C.elim⟩⟩
theorem Q5{CX:vA}{k n:Nat}{f:av}{C:dJ}{B:List Str}{g:List D->M D}{x:Str}{p:Pos}(F:mY X.prog X.w X.K X.mg X.base CX k f C B (o9 X.K n g))(J:kA k X.A)(U:Gl X x)(O:X.mg x=some (.ref f))
  (T:dG X.K (.ref f)=true) (c:Binds X.K C B []) (I:sI CX X E0) (ha:SA X (e::es) ca) (L:∀l st ds o,ca l st=.ok ds o->ds.length=n) (v:(x == ("__debug__":Str))=false:=by decide)
  (Y:aF (e::es) X.env=(false,eval e X.env)::aF es X.env:=by rfl) (u:(eI pos (aF es X.env)).any (·.1)=false:=by rfl):SE X (.Call (.Name x p) (e::es) [] pos) (bN g ca):=
 (Ly F J U O T c .nil I ha v Y u).of λσ H Q h_=>h_.el λρ l st G E p=>⟨ρ,l,st,G,E,by
  have q:=aV.bnd p;cases h:ca l st with
  |bad=>rw[h]at q;exact q
  |exc _ _=>rw[h]at q;exact q
  |ok ds ec=>
   rw[h]at q;intro ρ1 H1 x1 s1 vs rvs;refine⟨by rw[bn,rvs.length];exact L l st ds ec h,ρ1,ec,ds,s1,by rw[bn];exact rvs,q ρ1 H1 x1 s1⟩⟩
variable{ta tb:CT}
theorem TC{d:D}{v:V}{R:Bool->a_->List av->Hp->Prop}(p:aV K ρ H (yz d st) R)(l:SR K ρ H st)(q:dN K ρ H v d):∃k,Cf K v H k/\R k st ρ H:=by
 cases q with
 |non=>exact⟨false,rfl,p.ret l⟩
 |bl b=>exact⟨b,rfl,p.ret l⟩
 |int i=>exact⟨_,rfl,p.ret l⟩
 |str x=>exact⟨_,⟨(aV.chk p).1,rfl⟩,(aV.chk p).2.ret l⟩
 |@tup a g ds h r=>
  refine⟨!g.isEmpty,.inr (.inl ⟨g,h,rfl⟩),?_⟩;have:g.isEmpty=ds.isEmpty:=by have:=r.length;cases g<;>cases ds<;>simp_all
  rw[this];exact p.ret l
 |@lit a g ds h r=>
  refine⟨!g.isEmpty,.inl ⟨g,h.seq,rfl⟩,?_⟩;have:g.isEmpty=ds.isEmpty:=by have:=r.length;cases g<;>cases ds<;>simp_all
  rw[this];exact p.ret l
 |ref _ h=>
  obtain⟨ds,e,u⟩:=aV.getL (aV.bnd p) l;obtain⟨a,g,o,B,r⟩:=l.seq e;rw[h]at o;cases o;refine⟨!g.isEmpty,.inl ⟨g,gD.of B,rfl⟩,?_⟩;have:g.isEmpty=ds.isEmpty:=by have:=r.length;cases g<;>cases ds<;>simp_all
  rw[this];exact u.ret l
 |dic _ _=>exact p.elim
 |exn0 _ _=>exact p.elim
 |exn _ _ _ _=>exact p.elim
theorem X9(E:SE X a fa)(C:∀whole,isTrue a X.env whole=(do let v <- whole;xi a.pos;lq [v] (truthy v)):=by intro _;rfl):ST X a (pW fa):=
 (UG E C).of λσ H Q G=>G.el λρ l st B h p=>⟨ρ,l,st,B,h,p.bnd.imp λd g ρ1 J I o u v q=>TC u o q⟩
theorem Q0{op:uJ}{g:D->D->M D}(G:OpR X (dg op) (pV X.K g))(L:SE X a fa)(J:SE X b fb)(I:gO op b=false):ST X (.Compare a [op] [b] pos) (cA (c2 g fa fb)):=
 (MP G L J I).of λσ H Q O=>O.el λρ l st E u p=>Go (X:=X) (λ_ _ _ _ h=>h) _ _ _ ⟨ρ,l,st,E,u,p.bnd.imp λd q ρ1 U T B o v C=>by
  cases C with
  |bl k=>exact⟨k,rfl,o.ret B⟩
  |_=>exact o.elim⟩
theorem R1(g:ST X a ta):PW X (.BoolOp .And [a] pos) (pR X.K ta):=XF g
theorem VH(g:ST X a ta):PW X (.BoolOp .Or [a] pos) (pR X.K ta):=WU g
theorem _root_.L2.PW.of{e:Expr}{t t':TT}(h:PW X e t)(f:∀σ H Q,t' σ H Q->t σ H Q):PW X e t':=λwhole g s σ H Q I q=>h whole g s σ H Q I (f σ H Q q)
theorem T7{fM:List Expr}(C:ST X a ta)(B:PW X (.BoolOp .And (b::fM) pos) (pR X.K tb)):PW X (.BoolOp .And (a::b::fM) pos) (pR X.K (oG ta tb)):=
 (Ws C B).of λσ H Q E=>E.el λρ l st q v p=>⟨ρ,l,st,q,v,p.bnd.imp λc g ρ1 G u h o=>by
  cases c with
  |true=>exact⟨ρ1,l,g,q.mono u,h,o⟩
  |false=>exact o.ret h⟩
theorem Rn{fM:List Expr}(C:ST X a ta)(B:PW X (.BoolOp .Or (b::fM) pos) (pR X.K tb)):PW X (.BoolOp .Or (a::b::fM) pos) (pR X.K (qH ta tb)):=
 (Uv C B).of λσ H Q E=>E.el λρ l st q v p=>⟨ρ,l,st,q,v,p.bnd.imp λc g ρ1 G u h o=>by
  cases c with
  |true=>exact o.ret h
  |false=>exact⟨ρ1,l,g,q.mono u,h,o⟩⟩
theorem Vq(v:ST X a ta):ST X (.UnaryOp .Not a pos) (pz ta):=(Sf v).of λσ H Q B=>B.el λρ l st u h p=>⟨ρ,l,st,u,h,p.bnd.imp λc g ρ1 E C o q=>q.ret o⟩
theorem Li{op:BoolOp}(h:SE X a fa):SE X (.BoolOp op [a] pos) fa:=Yi h
theorem UR{fM:List Expr}(G:SE X a fa)(E:SE X (.BoolOp .And (b::fM) pos) fb):SE X (.BoolOp .And (a::b::fM) pos) (tY fa fb):=
 (RD G E).of λσ H Q I=>I.el λρ l st q B p=>⟨ρ,l,st,q,B,p.bnd.imp λd g ρ1 J u o h v C=>by
  cases C with
  |bl c=>
   refine⟨c,rfl,?_⟩;cases c with
   |true=>exact⟨ρ1,l,g,q.mono u,o,h⟩
   |false=>exact h.ret o _ (.bl false)
  |_=>exact h.elim⟩
theorem VZ{fM:List Expr}(G:SE X a fa)(E:SE X (.BoolOp .Or (b::fM) pos) fb):SE X (.BoolOp .Or (a::b::fM) pos) (CK fa fb):=
 (PV G E).of λσ H Q I=>I.el λρ l st q B p=>⟨ρ,l,st,q,B,p.bnd.imp λd g ρ1 J u o h v C=>by
  cases C with
  |bl c=>
   refine⟨c,rfl,?_⟩;cases c with
   |true=>exact h.ret o _ (.bl true)
   |false=>exact⟨ρ1,l,g,q.mono u,o,h⟩
  |_=>exact h.elim⟩
theorem RS(C : SE X a fa): SE X (.UnaryOp .Not a pos) (wJ fa) := (T1 C).of λσ H Q E => E.el λρ l st B o p => ⟨ρ, l, st, B, o, p.bnd.imp λd h ρ1 I G q g v u => by
  cases u with
  |bl c=>exact⟨c,rfl,g.ret q _ (.bl _)⟩
  |_=>exact g.elim⟩
theorem YN(B : ST X c ta)(E : SE X a fa)(C : SE X b fb): SE X (.IfExp c a b pos) (wY ta fa fb) := (YH B E C).of λσ H Q G => G.el λρ l st h v p => ⟨ρ, l, st, h, v, p.bnd.imp λk g ρ1 I o q u => by
  cases k with
  |true=>exact⟨ρ1,l,g,h.mono o,q,u⟩
  |false=>exact⟨ρ1,l,g,h.mono o,q,u⟩⟩
end
theorem LR.set{K:ak}{ρ:List av}{H:Hp}{σ:St}{l:Loc}{v:V}{d:D}(h:LR K ρ H σ l)(i:Nat)(r:dN K ρ H v d):LR K ρ H (σ.set i (some v)) (l.set i (some d)):=by
 refine⟨by simp[h.1],λj e q=>?_⟩;by_cases z:i=j
 ·subst z;by_cases c:i < l.length
  ·rw[ao c]at q;cases q;exact⟨v,by rw[ao (by rw[h.1];exact c)],r⟩
  ·rw[bX (by simp;ext)]at q;cases q
 ·rw[af z]at q;obtain⟨w,o,g⟩:=h.2 j e q;exact⟨w,by rw[af z];exact o,g⟩
theorem LR.start{K:ak}{ρ:List av}{H:Hp}{N:List Str}{c:List V}{ds:List D}(r:bZ K ρ H c ds):LR K ρ H (L2.start N c) (ds.map some++aZ (N.length-ds.length) none):=by
 have o:=r.length;unfold L2.start;refine⟨by simp[o],λi d e=>?_⟩;by_cases g:i < ds.length
 ·rw[aw (by simpa using g),aj]at e;cases q:ds[i]? with
  |none=>rw[q]at e;cases e
  |some d'=>
   rw[q]at e;have u:d'=d:=aN (aN e);subst u;obtain⟨v,l,h⟩:=r.get q;refine⟨v,?_,h⟩;rw[aw (by simp;ext),aj,l];rfl
 ·rw[aW (by simpa using g),gE]at e;split at e<;>cases e
section
variable{X:Cx}{a b c e tg:Expr}{es:List Expr}{s:gM}{ss:List gM}{pos:Pos}{fa fb fc:CE}{ca cb:CA}{ta tb:CT}{cs cr:CS}{K:ak}{ρ:List av}{H:Hp}{st:a_}
abbrev SG(X:Cx)(e:Expr)(g:CG):Prop:=PG X e (yw X.K g)
abbrev Bi(X:Cx)(e:List Expr)(g:List D->Loc->M Loc):Prop:=PGs X e (Fi X.K g)
theorem Th{i:Nat}{x:Str}(h:PG X (.Name x pos) (tD i)):SG X (.Name x pos) (aP i):=h.of λv σ H Q g=>by obtain⟨ρ,l,st,d,u,o,q,p⟩:=g;exact p.ret o _ (u.set i q)
theorem SH:Bi X [] gk:=XR.of λu σ H Q g=>by
 obtain⟨ρ,l,st,ds,q,o,h,p⟩:=g;cases h with
 |nil=>exact⟨rfl,p.ret o σ q⟩
 |cons _ _=>exact p.elim
theorem Xx{g:CG}{r:List D->Loc->M Loc}(O:SG X e g)(L:Bi X es r)(J:(dC (e::es) X.env).map (·.2)=n_ e X.env::(dC es X.env).map (·.2):=by rfl):Bi X (e::es) (ce g r):=
 (XH O L J).of λT σ H Q h=>by
  obtain⟨ρ,l,st,ds,G,B,q,p⟩:=h;cases q with
  |nil=>exact p.elim
  |cons rv rt=>exact⟨_,_,rfl,ρ,l,st,_,G,B,rv,(aV.bnd p).imp λI o ρ1 U v C E σ1 u=>⟨ρ1,I,o,_,u,C,rt.mono v,E⟩⟩
theorem TY{k n:Nat}{r:List D->Loc->M Loc}(E:X.calm=true)(h:Bi X es r)(C:(dC es X.env).length=n:=by rfl)(o:(dC es X.env).findIdx? (·.1)=none:=by rfl):SG X (.Tuple es k pos) (fF n r):=
 (R0 E h C o).of λv σ H Q g=>by
  obtain⟨ρ,l,st,d,B,q,u,p⟩:=g;cases u with
  |tup h r=>exact⟨_,_,rfl,h,by rw[r.length];exact (aV.chk p).1,ρ,l,st,_,B,q,r,(aV.chk p).2⟩
  |_=>exact p.elim
theorem P7:w9 X [] aS:=R8.of λG σ H o=>o.el λρ l st h g p=>p.ret g σ h
theorem Wq(E:SS X s cs)(C:w9 X ss cr):w9 X (s::ss) (aM cs cr):=(Yf E C).of λG σ H B=>B.el λρ l st v u p=>⟨ρ,l,st,v,u,p.bnd.imp λf o ρ1 J I g h=>by
 cases f with
 |next l'=>exact λσ' q=>⟨ρ1,l',o,q,g,h⟩
 |ret d=>exact h.ret g
 |brk l'=>exact h.ret g
 |cnt l'=>exact h.ret g⟩
theorem Uz:SS X s Br:=WC.of λG σ H g=>g.el λρ l st o h p=>p.elim
theorem RM(h:SE X e fa):SS X (.Return (some e) pos) (dU fa):=(QM h).of λG σ H E=>E.el λρ l st C o p=>⟨ρ,l,st,C,o,p.bnd.imp λd g ρ1 J I q B v u=>B.ret q v u⟩
theorem T5(h:SE X e fa)(E:kr e none pos.line X.env=pure false:=by rfl):SS X (.Expr e pos) (gL fa):=(Wu h E).of λG σ H I=>I.el λρ l st g u p=>
 ⟨ρ,l,st,g,u,p.bnd.imp λd q ρ1 L o B C v J=>C.ret B σ (g.mono o)⟩
theorem Q8(B:ST X c ta)(E:w9 X ss cs){h:List gM}(C:w9 X h cr):SS X (.If c ss h pos) (lD ta cs cr):=(U9 B E C).of λG σ H I=>I.el λρ l st o h p=>
 ⟨ρ,l,st,o,h,p.bnd.imp λk g ρ1 J q u v=>by
  cases k with
  |true=>exact⟨ρ1,l,g,o.mono q,u,v⟩
  |false=>exact⟨ρ1,l,g,o.mono q,u,v⟩⟩
theorem Ju{g:CG}{q:TE}{tg:TG}(Y:∀σ H Q,wK X.K fa σ H Q->q σ H Q)(U:∀v σ H Q,yw X.K g v σ H Q->tg v σ H Q):∀G σ H,vE X.K (bD g fa) G σ H->zr q tg G σ H:=λG σ H c=>c.el λρ l st u E p=>
 Y _ _ _ ⟨ρ,l,st,u,E,p.bnd.imp λd h ρ1 H1 B J T v L=>U _ _ _ _ ⟨ρ1,l,h,d,u.mono B,J,L,T.bnd.imp λl2 C ρ2 H2 x2 I O σ2 o=>O.ret I σ2 o⟩⟩
theorem Oa{i:Nat}:∀v σ H Q,yw X.K (aP i) v σ H Q->tD i v σ H Q:=λv σ H Q g=>by obtain⟨ρ,l,st,d,q,h,o,p⟩:=g;exact p.ret h _ (q.set i o)
theorem Wl{i : Nat}{x : Str}{g : Pos}(B : X.N.Nodup)(q : X.N[i]? = some x)(l : L2.Loc X.env.scope x)(v : SE X e fa)(o : kr e (some (.Name x g)) pos.line X.env = pure false := by rfl)
  (u:X.fn x=true\/X.env.scope.names.lookup x=some .local:=by first|exact .inl rfl|exact .inr rfl|assumption):SS X (.Assign [.Name x g] e pos) (bD (aP i) fa):=
 (PM B q l v o u).of (Ju (λ_ _ _ h=>h) Oa)
theorem Pb{g : CG}(u : SE X e fa)(q : SG X tg g)(o : swapsWithSole [tg] e pos.line X.env = pure false := by rfl)(l : swappedStores [tg] e X.env = pure none := by rfl)
  (v:(dC [tg] X.env).map (·.2)=[n_ tg X.env]:=by rfl):SS X (.Assign [tg] e pos) (bD g fa):=(SV u q o l v).of (Ju (λ_ _ _ h=>h) λ_ _ _ _ h=>h)
theorem aV.storeK{n:Nat}{k v:D}{R:Unit->a_->List av->Hp->Prop}(h:aV K ρ H (MM.storeK n k v st) R)(s:SR K ρ H st):∃b g,st[n]?=some (.dct b g)/\m_ b k=true/\g.length < eS/\aV K ρ H (.ok () (st.set n (.dct b (kG g k v)))) R:=by obtain⟨b,g,e,o⟩:=aV.getDc (aV.bnd h) s;obtain⟨⟨u,q⟩,l⟩:=aV.chk o;refine⟨b,g,e,u,q,?_⟩;unfold pF at l;rw[e]at l;simpa using l
def Fc(X:Cx):V->V->V->Hp->(Hp->Prop)->Prop:=λo i v H Q=>∃(ρ:List av)(st:a_)(n:Nat)(a:av)(b:Bool)(cp:List (D×D))(k d:D),o=.ref a/\SR X.K ρ H st/\ρ[n]?=some a/\st[n]?=some (.dct b cp)/\dN X.K ρ H i k/\m_ b k=true/\cp.length < sizeLine/\dN X.K ρ H v d /\
 ∀g,SR X.K ρ g (st.set n (.dct b (kG cp k d)))->Ex ρ H ρ g->Q g
theorem Rt(hu:X.A.units+60 < cC):PSet X (Fc X):=by intro h s σ H o i v ov iv u Q I J O G g;obtain⟨ρ,st,n,a,b,U,k,d,eo,C,ha,Y,L,hk,c,T,q⟩:=g;subst eo;cases J;exact Vc (by ext) I C ha Y L hk c T O G λl s' I' E B=>⟨l,I',q l E B⟩
theorem _root_.L2.PSet.or{t t':vJ}(h:PSet X t)(h':PSet X t'):PSet X (λo i v H Q=>t o i v H Q\/t' o i v H Q):=by
 intro g s σ H o i v E G u Q I B C l q;rcases q with q|q
 ·exact h g s σ H o i v E G u Q I B C l q
 ·exact h' g s σ H o i v E G u Q I B C l q
theorem Qi{to ti:CE}{o i:Expr}(hu:X.A.units+60 < cC)(ho:SE X o to)(hi:SE X i ti)
  (Y:∀v,n_ (.Subscript o i pos) X.env v=(do
   let ov <- lq [v] (eval o X.env)
   let iv <- lq [v,ov] (eval i X.env)
   xi pos
   lq [v,ov,iv] (og ov iv v)
   Dd [v,ov,iv] []):=by intro _;rfl):SG X (.Subscript o i pos) (fR to ti):=
 (Ut ho hi (M5.or (Rt hu)) Y).of λv σ H Q I=>by obtain⟨ρ,l,st,d,U,sr,rv,p⟩:=I;exact⟨ρ,l,st,U,sr,p.bnd.imp λy ec ρ1 H1 L s1 p1 u ru=>⟨ρ1,l,ec,U.mono L,s1,p1.bnd.imp λz g ρ2 H2 J G T w B=>by
  have ru2:=ru.mono J;have rd:dN X.K ρ2 H2 v d:=(rv.mono L).mono J;cases ru2 with
  |ref _ h=>
   cases B with
   |int k=>
    obtain⟨ds,e,O⟩:=aV.getL (aV.bnd (aV.bnd T)) G;obtain⟨a,vs,Y,hv,r⟩:=G.seq e;rw[h]at Y;cases Y;cases e2:MM.my ds.length k with
    |none=>rw[e2]at O;exact O.elim
    |some j=>
     rw[e2]at O;have hl:=(ac.mp e).1;obtain⟨E,C⟩:=G.put hl h hv (r.set j rd);refine .inl ⟨_,vs,k,j,rfl,rfl,hv,by rw[r.length];exact e2,?_⟩;have p4:aV X.K ρ2 H2 (putL _ (ds.set j d) g) _:=O;unfold putL at p4;rw[e]at p4;exact (p4 ρ2 _ C E).ret E σ (((U.mono L).mono J).mono C)
   |_=>exact (aV.bnd T).elim
  |@dic a n _ h=>
   have p':aV X.K ρ2 H2 (storeK n z d g) λa st' ρ' c=>aV X.K ρ' c (MM.ret l st') λl' _ ρ' c=>∀σ',LR X.K ρ' c σ' l'->Q σ' c:=by cases B<;>exact aV.bnd T
   obtain⟨b,cp,e1,hk,hl,q⟩:=aV.storeK p' G;exact .inr ⟨ρ2,g,n,a,b,cp,z,d,rfl,G,h,e1,B,hk,hl,rd,λH3 E C=>(q ρ2 H3 C E).ret E σ (((U.mono L).mono J).mono C)⟩
  |_=>exact (aV.bnd T).elim⟩⟩
theorem Ye{P:Program}{w:bG}{K:ak}{mg:Str->Option ah}{base:bQ}{x qual:Str}{u:gM}{f:av}{J:dJ}{N G:List Str}{k:Nat}{o:CS}(F:wN K x qual u f J)(S:lL N G (bY u))
  (q:∀(g:ah)(A:bB)(outer:List Env)(s:am)(H:Hp)(E:XK),kA k (A.deeper (np qual (bY u) s.heap.objs.size f g))->w9 (rC sU P w K mg base N qual (bY u) f g A outer s H E).nox (eL u) o):
  mY P w K mg base sU (k+1) f J G (o9 K G.length (cm N.length o)):=by
 refine F.ok S (λL H Q E h=>h.1) (λg A outer s H L Q E Y h=>⟨_,q g A outer s H E Y,?_⟩);obtain⟨hl,ρ,st,ds,T,C,p⟩:=h;refine⟨ρ,_,st,LR.start C,T,?_⟩;unfold cm at p;exact p.bnd.imp λf O ρ1 H1 c I B=>by
  cases f with
  |next l=>exact λσ' _=>B.ret I _ .non
  |ret d=>exact λv U=>B.ret I v U
  |brk l=>exact B.elim
  |cnt l=>exact B.elim
noncomputable def Gx(K:ak)(ρ0:List av)(h:Hp)(w:Wk)(J:It):Prop:=∀ρ H st,Ex ρ0 h ρ H->SR K ρ H st->w.same st->J.stop w.ds.length H/\∀(i:Nat)(d:D),w.ds[i]?=some d->J.go i H/\∀x g,J.yld i H x g->Ex ρ H ρ g/\SR K ρ g st/\dN K ρ g x d
def FI(K:ak)(f:CI):TI:=λσ H R=>∃ρ l st,LR K ρ H σ l/\SR K ρ H st/\aV K ρ H (f l st) λw _ ρ' g=>∀J,Gx K ρ' g w J->R J g
abbrev SI(X:Cx)(tg e:Expr)(f:CI):Prop:=PI X tg e (FI X.K f)
theorem _root_.L2.PI.of{tg e:Expr}{t t':TI}(h:PI X tg e t)(f:∀σ H R,t' σ H R->t σ H R):PI X tg e t':=λg s σ H R I q=>h g s σ H R I (f σ H R q)
theorem HH{ρ0:List av}{B:Hp}{ds:List D}{p:a_->Prop}{a:av}(h:∀ρ H st,Ex ρ0 B ρ H->SR K ρ H st->p st->∃g,gD K H a g/\bZ K ρ H g ds):Gx K ρ0 B ⟨ds,p⟩ (zV K a):=λρ H st x s q=>by obtain⟨g,o,r⟩:=h ρ H st x s q;refine⟨⟨g,o,by rw[r.length];exact ar _⟩,λi d e=>?_⟩;obtain⟨v,u,C⟩:=r.get e;refine⟨⟨g,v,o,u⟩,λy I l=>?_⟩;obtain⟨G,E⟩:=l;subst G;have:=E g o;rw[u]at this;cases this;exact⟨Ex.refl,s,C⟩
theorem R7{ρ0:List av}{B:Hp}{ds:List D}{p:a_->Prop}{a:av}(h:∀ρ H st,Ex ρ0 B ρ H->SR K ρ H st->p st->∃g,iR K H a g/\bZ K ρ H g ds):Gx K ρ0 B ⟨ds,p⟩ (JQ K a):=λρ H st x s q=>by obtain⟨g,o,r⟩:=h ρ H st x s q;refine⟨⟨g,o,by rw[r.length];exact ar _⟩,λi d e=>?_⟩;obtain⟨v,u,C⟩:=r.get e;refine⟨⟨g,v,o,u⟩,λy I l=>?_⟩;obtain⟨G,E⟩:=l;subst G;have:=E g o;rw[u]at this;cases this;exact⟨Ex.refl,s,C⟩
theorem Nu{ρ0:List av}{q:Hp}{lo:Int}{n:Nat}:Gx K ρ0 q ⟨ir lo n,dw⟩ (E2 lo n):=λρ H st x s _=>by
 refine⟨by show n<=(ir lo n).length;unfold ir;simp,λi d e=>?_⟩;have h:i < n:=by have:=(ac.mp e).1;simpa [ir] using this
 refine⟨h,λy u g=>?_⟩;obtain⟨o,l⟩:=g;subst o l;have:d=.int (lo+(i:Nat)):=by unfold ir at e;rw[aj,gB h]at e;exact (aN e).symm
 subst this;exact⟨Ex.refl,s,.int _⟩
theorem Xg{l:Expr}{L:TE}(T:PE X l L):PI X tg l (λσ H R=>L σ H λx B=>∃a,x=.ref a/\((∃xs,gD X.K B a xs)/\R (zV X.K a) B\/(∃xs,iR X.K B a xs)/\R (JQ X.K a) B)):=by
 intro E s σ H R I h;refine fS (T E s σ H _ I h) λv g C=>?_;obtain⟨x,B,u,Q,a,e,q⟩:=C;subst e;cases Q;rcases q with ⟨⟨xs,G⟩,q⟩|⟨⟨xs,G⟩,q⟩
 ·obtain⟨its,O,p,hz⟩:=u.list G;refine kM p.isList ?_;refine⟨g.heap.objs.size,[g.heap.objs.size],_,_,B,rfl,u.kept (t':=g.toks) λb o e=>al _ e,Pc a _,⟨_,aC _ rfl,rfl,rfl⟩,λb J=>?_,q⟩;have e:b=g.heap.objs.size:=by simpa using J
  subst e;exact u.fpOk (ar _) (u.hok.fresh (ar _))
 ·obtain⟨its,O,p,hz⟩:=u.tuple G;refine ig (show g.heap.IsTuple a its.toArray from p) ?_;refine⟨g.heap.objs.size,[g.heap.objs.size],_,_,B,rfl,u.kept (t':=g.toks) λb o e=>al _ e,Ru a _,⟨_,aC _ rfl,rfl,rfl⟩,λb J=>?_,q⟩;have e:b=g.heap.objs.size:=by simpa using J
  subst e;exact u.fpOk (ar _) (u.hok.fresh (ar _))
theorem UD(h:SE X e fa):SI X tg e (g_ fa):=(Xg h).of λσ H R U=>U.el λρ l st O I p=>⟨ρ,l,st,O,I,p.bnd.imp λd G ρ1 H1 Y o B v J=>by
 cases J with
 |@tup a g ds h r=>exact⟨a,rfl,.inr ⟨⟨g,h⟩,B.ret o _ (R7 λρ H st x s _=>⟨g,iR.mono x.up h,r.mono x⟩)⟩⟩
 |@lit a g ds h r=>exact⟨a,rfl,.inl ⟨⟨g,h.seq⟩,B.ret o _ (HH λρ H st x s _=>⟨g,(xH.mono x.up h).seq,r.mono x⟩)⟩⟩
 |@ref a n _ h=>
  obtain⟨ds,e,L⟩:=aV.getL (aV.bnd B) o;obtain⟨a',g,E,T,r⟩:=o.seq e;rw[h]at E;cases E;refine⟨a,rfl,.inl ⟨⟨g,gD.of T⟩,L.ret o _ (HH λρ H st x s q=>?_)⟩⟩;obtain⟨c,ws,u,Q,C⟩:=s.seq q;obtain⟨τ,eτ,_⟩:=x.pre;rw[eτ,w8 h]at u;cases u;exact⟨ws,gD.of Q,C⟩
 |_=>exact B.elim⟩
theorem YJ(h:SL X e ca):SI X tg e (wW ca):=(Yd h).of λσ H R I=>I.el λρ l st G v p=>⟨ρ,l,st,G,v,p.bnd.imp λds u ρ1 O J B C a g L E q o=>
 ⟨a,rfl,⟨g,gD.of q⟩,C.ret B _ (HH λρ H st x s _=>⟨g,gD.of (x.lst a g E q),o.mono x⟩)⟩⟩
theorem UA{p:Pos}(E:Gl X "range")(C:X.mg "range"=none)(h:SE X a fa)(o:aF [a] X.env=[(false,eval a X.env)]:=by rfl):SI X tg (.Call (.Name "range" p) [a] [] pos) (MM.gp fa):=
 (Pw (tg:=tg) (p:=p) (pos:=pos) E C (GP h G_ o) o).of λσ H R G=>G.el λρ l st B u p=>⟨ρ,l,st,B,u,by
  have q:=aV.bnd p;unfold az
  show aV X.K ρ H (bnd (fa l) _ st) _;unfold MM.bnd;cases e:fa l st with
  |bad=>rw[e]at q;exact q
  |exc _ _=>rw[e]at q;exact q
  |ok d ec=>
   rw[e]at q
   show ∀ρ' H',Ex ρ H ρ' H'->SR X.K ρ' H' ec->_;intro ρ1 H1 x1 s1 vs rvs;have g:=q ρ1 H1 x1 s1;cases rvs with
   |cons rv rt=>
    cases rt;cases rv with
    |int j=>
     obtain⟨⟨J,I⟩,v⟩:=aV.chk g;exact⟨j,rfl,J,I,v.ret s1 _ Nu⟩
    |_=>exact g.elim⟩
theorem aV.chkS{p:a_->Prop}{R:Unit->a_->List av->Hp->Prop}(h:aV K ρ H (MM.chkS p st) R)(s:SR K ρ H st):p st/\R () st ρ H:=by
 unfold MM.chkS at h;by_cases g:p st
 ·rw[aE g]at h;exact⟨g,h ρ H Ex.refl s⟩
 ·rw[aA g]at h;exact h.elim
theorem Y2{iter:Expr}{u:List gM}{ci:CI}{g:CG}{cb:CS}(hp:sN (bc X.prog X.w) X.A X.env X.xe)(hc:X.calm=true)(hi:SI X tg iter ci)(hg:SG X tg g)(hb:w9 X u cb)
  (hs:∀x,fv iter X.env x=pure x:=by intro _;rfl):SS X (.For tg iter u [] pos) (iu ci g cb):=(Q_ hp hc hi hg hb hs).of λG σ H h_=>h_.el λρ l st lr sr p=>
 ⟨ρ,l,st,lr,sr,p.bnd.imp λw U ρ1 H1 x1 s1 p1 J hJ=>by
  refine⟨λi m σ' h=>m=w.ds.length-i/\i<=w.ds.length/\∃ρ' l' st',Ex ρ1 H1 ρ' h/\LR X.K ρ' h σ' l'/\SR X.K ρ' h st'/\aV X.K ρ' h (md g cb w.same (w.ds.drop i) l' st') λf _ ρ' h=>match f with
   | .next l'=>∀σ',LR X.K ρ' h σ' l'->G.nx σ' h
   | .ret d=>∀v,dN X.K ρ' h v d->G.rt v h
   | .brk l'=>∀σ',LR X.K ρ' h σ' l'->G.bk σ' h
   | .cnt l'=>∀σ',LR X.K ρ' h σ' l'->G.ct σ' h,⟨w.ds.length,by simp,bu _,ρ1,l,U,Ex.refl,lr.mono x1,s1,p1⟩,?_⟩
  rintro i m σ2 H2 ⟨rfl,hi,ρ2,l2,st2,x2,lr2,s2,p2⟩
  by_cases B:i < w.ds.length
  ·have ed:w.ds.drop i=w.ds[i]::w.ds.drop (i+1):=bR B;rw[ed]at p2;unfold md at p2;obtain⟨Y,p3⟩:=aV.chkS (aV.bnd p2) s2;obtain⟨_,go⟩:=hJ ρ2 H2 st2 x2 s2 Y;obtain⟨g1,g2⟩:=go i w.ds[i] (ag B);refine .inr ⟨g1,λσ3 C=>∃ρ3 l3 st3,Ex ρ1 H1 ρ3 C/\LR X.K ρ3 C σ3 l3/\SR X.K ρ3 C st3/\aV X.K ρ3 C (md g cb w.same (w.ds.drop (i+1)) l3 st3) λf _ ρ' h=>match f with
    | .next l'=>∀σ',LR X.K ρ' h σ' l'->G.nx σ' h
    | .ret d=>∀v,dN X.K ρ' h v d->G.rt v h
    | .brk l'=>∀σ',LR X.K ρ' h σ' l'->G.bk σ' h
    | .cnt l'=>∀σ',LR X.K ρ' h σ' l'->G.ct σ' h,λσ3 C q=>⟨_,by ext,rfl,B,q⟩,λy C hy=>?_⟩
   obtain⟨Q,U,c⟩:=g2 y C hy;refine⟨ρ2,l2,st2,_,lr2.mono Q,U,c,(aV.left Q (aV.bnd p3)).imp λl4 T ρ4 H4 H J p4 σ4 l=>⟨ρ4,l4,T,l,J,(aV.bnd p4).imp λf I ρ5 H5 u L O=>?_⟩⟩;have E:Ex ρ1 H1 ρ5 H5:=(x2.trans Q).trans (H.trans u);cases f with
   |next l5=>exact λσ5 o=>⟨ρ5,l5,I,E,o,L,O⟩
   |cnt l5=>exact λσ5 o=>⟨ρ5,l5,I,E,o,L,O⟩
   |brk l5=>exact λσ5 o=>O.ret L σ5 o
   |ret d=>exact λv c=>O.ret L v c
  ·have e:i=w.ds.length:=by ext
   subst e;rw[xO]at p2;unfold md at p2;obtain⟨Y,p3⟩:=aV.chkS (aV.bnd p2) s2;obtain⟨g1,_⟩:=hJ ρ2 H2 st2 x2 s2 Y;exact .inl ⟨g1,p3.ret s2 σ2 lr2⟩⟩
end
section
variable{X:Cx}{a b c e tg:Expr}{es:List Expr}{pos:Pos}{fa fb fc:CE}{ca cb:CA}{ta tb:CT}{K:ak}{ρ:List av}{H:Hp}{st:a_}{x:Str}{p:Pos}{id T:String}
theorem YG{n:Nat}{ix:List Nat}{σ:St}{l:Loc}(h:LR K ρ H σ l):LR K ρ H (yD n ix σ) (gX n ix l):=by
 unfold yD gX;refine⟨by simp,λi d e=>?_⟩;have u:n<=i:=qO λz=>by rw[aw (by simpa using z),gE]at e;split at e<;>cases e
 rw[aW (by simpa using u),eQ,aj]at e;cases q:ix[i-n]? with
 |none=>rw[q]at e;cases e
 |some k=>
  rw[q]at e;have g:(l[k]?).join=some d:=aN e;have E:l[k]?=some (some d):=by
   cases z:l[k]? with
   |none=>rw[z]at g;cases g
   |some o=>rw[z]at g;exact cz some g
  obtain⟨v,C,B⟩:=h.2 k d E;refine⟨v,?_,B⟩;rw[aW (by simpa using u),eQ,aj,q]
  show some ((σ[k]?).join)=some (some v);rw[C];rfl
abbrev wF(X:Cx)(g:List Expr)(t:CT):Prop:=vz X g (pR X.K t)
theorem U1:wF X [] bT:=λg s σ H Q I o=>o.el λρ l st q h p=>Xm g s σ H Q I (p.ret h)
theorem V5(h:ST X c ta):wF X [c] ta:=Rj h
theorem Ex.own{ρ':List av}{l:Hp}{q:av}{ws:List V}(x:Ex ρ H ρ' l)(h:H q=none):Ex ρ H ρ' (fq l q (.lst ws)):=by
 have g:∀b o,H b=some o->b≠q:=λb o e z=>by rw[z,h]at e;cases e
 exact⟨x.pre,λb o u e=>by rw[fI (g b o e)];exact x.fix b o u e,λb xs v e=>by rw[fI (g b _ e)];exact x.oth b xs v e,λb o e=>by rw[fI (g b o e)];exact x.knd b o e⟩
theorem Up.own{ρ':List av}{g:Hp}{q:av}{l ws:List V}(h:g q=some (.lst l)):Up ρ' g ρ' (fq g q (.lst ws)):=
 ⟨⟨[],by simp⟩,λb o u e=>by rw[fI λz=>by subst z;rw[h]at e;cases e;exact nomatch u];exact e,
  λb o e=>by
   by_cases z:b=q
   ·subst z;rw[h]at e;cases e;exact⟨_,kq,rfl⟩
   ·exact⟨o,by rw[fI z];exact e,rfl⟩⟩
theorem LR.up{ρ':List av}{g:Hp}{σ:St}{l:Loc}(x:Up ρ H ρ' g)(h:LR K ρ H σ l):LR K ρ' g σ l:=⟨h.1,λi d e=>let ⟨v,e1,r⟩:=h.2 i d e;⟨v,e1,r.up x⟩⟩
theorem SR.own{q:av}{l ws:List V}(s:SR K ρ H st)(h:H q=some (.lst l))(u:q∉ρ):SR K ρ (fq H q (.lst ws)) st:=
 ⟨s.len,s.nd,λn b o g v=>rD.mono (o:=o) (Up.own h) (s.ob n b o g v) λB e=>by rw[fI (λ(z:b=q)=>u (by rw[<- z];exact ay g))];exact e⟩
theorem NB{ci:CI}{g:CG}{n:Nat}{ix:List Nat}:∀σ H Q,DS K (dm n ix ci g ta fa) σ H Q->u5 (FI K ci) n ix (yw K g) (pR K ta) (wK K fa) σ H Q:=λσ H Q h_=>h_.el λρ l st lr sr p=>
 ⟨ρ,l,st,lr,sr,p.bnd0.imp λw ec ρ1 H1 x1 s1 p1 J hJ q T=>by
  obtain⟨hz,p2⟩:=aV.chk p1;have hn:H q=none:=by
   cases z:H q with
   |none=>rfl
   |some o=>exact ba T (x1.trk q o z)
  obtain⟨J0,I⟩:∃J0:Nat->Nat->St->Hp->Prop,J0=λi m σ' O=>m=w.ds.length-i/\i<=w.ds.length/\∃ρ' l' st' done h,Ex ρ H ρ' O/\Ex ρ1 H1 ρ' O/\LR K ρ' O σ' l'/\SR K ρ' O st'/\q∉ρ'/\O q=some (.lst h)/\bZ K ρ' O h done/\done.length<=i /\
   aV K ρ H (collect g ta fa w.same (w.ds.drop i) l' st') (λfM B ρ2 u=>∀a ws,H a=none->a∉ρ2->u a=some (.lst ws)->bZ K ρ2 u ws (done++fM)->Q (.ref a) u):=⟨_,rfl⟩
  refine⟨J0,
   ⟨w.ds.length,by rw[I];exact⟨by simp,bu _,ρ1,gX n ix l,ec,[],[],x1.trans (Ex.new T),Ex.new T,YG ((lr.mono x1).mono (Ex.new T)),s1.new T,s1.fresh T,kq,.nil,bu _,p2⟩⟩,?_⟩
  intro i m σ2 u hj;rw[I]at hj;obtain⟨rfl,hi,ρ2,l2,B,done,h,L,y2,lr2,s2,nq,hv,C,hd,p3⟩:=hj;by_cases G:i < w.ds.length
  ·have ed:w.ds.drop i=w.ds[i]::w.ds.drop (i+1):=bR G;rw[ed]at p3;unfold collect at p3;obtain⟨sm,p4⟩:=aV.chkS (p3.bnd0.left L) s2;obtain⟨_,go⟩:=hJ ρ2 u B y2 s2 sm;obtain⟨g1,g2⟩:=go i w.ds[i] (ag G);refine .inr ⟨g1,λy H3 hy=>?_⟩;obtain⟨J,s3,rv⟩:=g2 y H3 hy;refine⟨ρ2,l2,B,_,lr2.mono J,s3,rv,(p4.bnd0.left (L.trans J)).imp λQ st4 ρ4 H4 x4 s4 p5 σ4 E=>⟨ρ4,Q,st4,E,s4,(p5.bnd0.left (L.trans (J.trans x4))).imp λb o ρ5 H5 H s5 p6=>?_⟩⟩;have U:Ex ρ2 u ρ5 H5:=J.trans (x4.trans H);have Y:∀{ρ':List av}{O:Hp},Ex ρ2 u ρ' O->q∉ρ':=λz l=>by
    obtain⟨τ,e,f⟩:=z.pre;rw[e]at l;rcases aB.mp l with l|l
    ·exact nq l
    ·rw[f q l]at hv;cases hv
   cases b with
   |false=>exact⟨w.ds.length-(i+1),by ext,by rw[I];exact⟨rfl,G,ρ5,Q,o,done,h,L.trans U,y2.trans U,E.mono H,s5,Y U,U.lst q h nq hv,C.mono U,Nat.le_succ_of_le hd,p6⟩⟩
   |true=>
    refine⟨ρ5,Q,o,E.mono H,s5,(p6.bnd0.left (L.trans U)).imp λd st6 ρ6 H6 x6 s6 p7 v rv6=>?_⟩;have g:Ex ρ2 u ρ6 H6:=U.trans x6;have c:=g.lst q h nq hv;have u6:Up ρ6 H6 ρ6 (fq H6 q (.lst (h++[v]))):=Up.own c;refine⟨h,c,?_,w.ds.length-(i+1),by ext,?_⟩
    ·have g:=C.length;have c:w.ds.length<=sizeLine:=hz;ext
    ·rw[I];refine⟨rfl,G,ρ6,Q,st6,done++[d],h++[v],(L.trans g).own hn,(y2.trans g).own T,LR.up u6 ((E.mono H).mono x6),s6.own c (Y g),Y g,kq,
     bZ.app ((C.mono g).up u6) (.cons (rv6.up u6) .nil),by simp;ext,?_⟩
     refine p7.bnd0.imp λfM q ρ8 H8 o u B a ws U J O l=>?_;exact B ρ8 H8 o u a ws U J O (by rw[List.append_cons];exact l)
  ·have e:i=w.ds.length:=by ext
   subst e;rw[xO]at p3;unfold collect at p3;obtain⟨sm,p4⟩:=aV.chkS (p3.bnd0.left L) s2;obtain⟨g1,_⟩:=hJ ρ2 u B y2 s2 sm;refine .inl ⟨g1,p4 ρ2 u L s2 q h hn nq hv (by rw[bn];exact C)⟩⟩
theorem Qs{scope:eO}{N:List Str}{h:List Expr}{n:Nat}{ix:List Nat}{o:CI}{g:CG}(v:X.calm=true)(S:ij X scope)(T:km X scope N n ix)(u:SI X tg b o)
  (l:∀(fp:List av)(s:am)(H:Hp),SG (ot X N scope fp s H) tg g/\wF (ot X N scope fp s H) h ta/\SE (ot X N scope fp s H) e fa)
  (q:∀x,fv b X.env x=pure x:=by intro _;rfl):SL X (.ListComp e [⟨tg,b,h,0⟩] scope pos) (dm n ix o g ta fa):=(QF v S T u l q).of NB
theorem S9{scope:eO}{N:List Str}{q:List Expr}{n i:Nat}{ix:List Nat}{L:CI}{g:CG}{y:Str}{o h:Pos}
  (hN:X.N.Nodup) (E:X.N[i]?=some y) (hy:L2.Loc X.env.scope y) (hf:X.fn y=true\/X.env.scope.names.lookup y=some .local)
  (hc:X.calm=true) (S:ij X scope) (T:km X scope N n ix) (hi:SI X tg b L)
  (G:∀(fp:List av)(s:am)(H:Hp),SG (ot X N scope fp s H) tg g/\wF (ot X N scope fp s H) q ta/\SE (ot X N scope fp s H) e fa)
  (C:kr (.ListComp e [⟨tg,b,q,0⟩] scope pos) (some (.Name y o)) h.line X.env=pure true)
  (hs:∀x,fv b X.env x=pure x:=by intro _;rfl):SS X (.Assign [.Name y o] (.ListComp e [⟨tg,b,q,0⟩] scope pos) h) (bD (aP i) (dk (dm n ix L g ta fa))):=
 (QG hN E hy hf hc S T hi G C hs).of (Ju (λσ H Q h_=>h_.el λρ l st lr Y p=>NB _ _ _ ⟨ρ,l,st,lr,Y,p.bnd0.imp λds U ρ1 O v I c a vs ha na J B=>by
  have x:Ex ρ H (ρ1++[a]) O:=by
   obtain⟨τ,e,f⟩:=v.pre;refine⟨⟨τ++[a],by rw[e,aX],λb u=>?_⟩,v.fix,v.oth,v.knd⟩;rcases aB.mp u with u|u
   ·exact f b u
   ·rw[ax]at u;rw[u];exact ha
  refine c (ρ1++[a]) O x (I.keep J na B) _ (.ref ⟨_,J,rfl⟩ ?_);rw[<- I.len];simp⟩) Oa)
theorem Jm{g : D -> M D}(U : CallR X (.builtin id) (λxs H Q => ∃v, xs = [v] /\ v_ X.K g v H Q))(O : Gl X x)(L : X.mg x = none)(I : cI x = some (.builtin id))(Y : SE X e fa)(J : x ≠ "__name__" := by decide)(o : (x == ("__debug__" : Str)) = false := by decide)
  (q:aF [e] X.env=[(false,eval e X.env)]:=by rfl):SE X (.Call (.Name x p) [e] [] pos) (c1 g fa):=
 (GV U O L I (rX Y u_ q) J o q rfl).of λσ H Q c=>c.el λρ l st G u p=>⟨ρ,l,st,G,u,p.bnd.imp λd h ρ1 H1 T B E v C=>⟨v,rfl,ρ1,h,d,B,C,E⟩⟩
theorem Gj{g : D -> M D}(U : CallR X (.type T) (λxs H Q => ∃v, xs = [v] /\ v_ X.K g v H Q))(O : Gl X x)(L : X.mg x = none)(I : cI x = some (.type T))(Y : SE X e fa)(J : x ≠ "__name__" := by decide)(o : (x == ("__debug__" : Str)) = false := by decide)
  (q:aF [e] X.env=[(false,eval e X.env)]:=by rfl):SE X (.Call (.Name x p) [e] [] pos) (c1 g fa):=
 (JF U O L I (rX Y u_ q) J o q rfl).of λσ H Q c=>c.el λρ l st G u p=>⟨ρ,l,st,G,u,p.bnd.imp λd h ρ1 H1 x1 B E v C=>⟨v,rfl,ρ1,h,d,B,C,E⟩⟩
def Dx(K:ak)(g:List D->M D):List V->Hp->VK->Prop:=λxs H Q=>∃a h ρ st ds,xs=[.ref a]/\gD K H a h/\SR K ρ H st/\bZ K ρ H h ds/\aV K ρ H (g ds st) λr _ ρ' l=>∀v,dN K ρ' l v r->Q v l
theorem Ob{g : List D -> M D}(Y : CallR X (.builtin id) (Dx X.K g))(U : Gl X x)(O : X.mg x = none)(q : cI x = some (.builtin id))(B : SL X e ca)(L : x ≠ "__name__" := by decide)(u : (x == ("__debug__" : Str)) = false := by decide)
  (v:aF [e] X.env=[(false,eval e X.env)]:=by rfl):SE X (.Call (.Name x p) [e] [] pos) (iq g ca):=
 (GV Y U O q (rX B u_ v) L u v rfl).of λσ H Q c=>c.el λρ l st J E p=>⟨ρ,l,st,J,E,p.bnd.imp λds h ρ1 H1 T G I a C B na q o=>⟨a,C,ρ1,h,ds,rfl,gD.of q,G,o,I⟩⟩
theorem QC{g : List D -> M D}(Y : CallR X (.type T) (Dx X.K g))(U : Gl X x)(O : X.mg x = none)(q : cI x = some (.type T))(B : SL X e ca)(L : x ≠ "__name__" := by decide)(u : (x == ("__debug__" : Str)) = false := by decide)
  (v:aF [e] X.env=[(false,eval e X.env)]:=by rfl):SE X (.Call (.Name x p) [e] [] pos) (iq g ca):=
 (JF Y U O q (rX B u_ v) L u v rfl).of λσ H Q c=>c.el λρ l st J E p=>⟨ρ,l,st,J,E,p.bnd.imp λds h ρ1 H1 x1 G I a C B na q o=>⟨a,C,ρ1,h,ds,rfl,gD.of q,G,o,I⟩⟩
theorem Vx{prog:Program}{w:bG}{A:bB}{E:ah->am->Prop}{s:am}{K:Type}[DecidableEq K]{knd:rQ prog w K}{d:av}{xs:List (K×av×ah)}{Q:ah->am->Prop}(hd:(d == cR)=false)(q:s.heap.DictOfH knd d xs)(hfit:(xs.length:Int) < 2^63)
  (h:Q (.int xs.length (s.toks+1)) { s with toks:=s.toks+1+1 }):aK (bc prog w) A (call (.builtin "len") [.ref d]) Q E s:=by
 refine Calls.call_function_entry kind_len plain_len entry_len (args_len1 _) ?_;unfold Builtin.«len»;have l:Dj prog w (Builtin.«dict.__len__» ⟨[.ref d],[]⟩) (λ_ R s=>∃xs,s.heap.DictOfH knd d xs/\R (.ok (.ret (.int xs.length s.toks))) { s with toks:=s.toks+1 }):=.of_wp λA R s g=>by
  obtain⟨xs,q,h⟩:=g;obtain⟨o,es,ep,v,G,u,B,_,C⟩:=q
  show aK _ _ (dictSize d >>= _) _ _ s;unfold dictSize;refine ab (ab (fw v u (aq ?_)))
  show aK _ _ (Builtin.Dict.pendingCount d >>= _) _ _ s;refine ab (wpAny_pendingCount_other hd ?_);refine Hi ?_;rw[Nat.add_zero,lV B];exact h
 refine ab (m:=oneArg "len" _) (aq ?_);refine ab (m:=callSpecial? (.ref d) (aG "__len__")) (b8 (name:=aG "__len__") q.typeIs Dk
  (rR Dk q.typeIs F.entry_dict_len (F.args_dict_len_1 _) l ⟨xs,q,?_⟩))
 show aK _ _ _ _ _ { s with toks:=s.toks+1 };refine ab (cE (aq ?_));refine ab (iK ?_)
 show aK _ _ (if ((xs.length:Nat):Int) < 0 then _ else _) _ _ _;rw[aA (by ext)]
 show aK _ _ (if ((xs.length:Nat):Int) ≥ 2^63 then _ else _) _ _ _;rw[aA (by ext)];exact ab (wpAny_mkInt (aq ⟨_,rfl,h⟩))
theorem T8:CallR X (.builtin "len") (λxs H Q=>∃(ρ:List av)(st:a_)(n:Nat)(a:av)(b:Bool)(l:List (D×D)),xs=[.ref a]/\SR X.K ρ H st/\ρ[n]?=some a/\st[n]?=some (.dct b l)/\Q (.int l.length) H):=by
 intro v s σ H xs O Q I r h;obtain⟨ρ,st,n,a,b,l,e,B,G,E,q⟩:=h;subst e;obtain⟨u,rfl,C⟩:=uI r;cases C;have g:=B.ob n a _ G E;cases b with
 |false=>
  obtain⟨es,e,r⟩:=g;rw[<- KR.length r]at q;exact Ve I (.inl e) λt U L=>⟨.int es.length,H,L,⟨t,rfl⟩,q⟩
 |true=>
  obtain⟨es,e,r⟩:=g;obtain⟨z,hd,xs,o,J,_⟩:=xF I e r;rw[<- NR.length r,dj o]at q;have hz:xs.length<=sizeLine:=by rw[<- dj o];exact z
  exact Vx hd J (by rw[lH]at hz;ext) ⟨.int xs.length,H,I.tok _,⟨_,rfl⟩,q⟩
theorem So:CallR X (.builtin "len") (λxs H Q=>∃v,xs=[v]/\v_ X.K gR v H Q):=((Qa.or Qt).or T8).of λxs H Q o=>by
 obtain⟨v,e,ρ,st,d,g,E,p⟩:=o;cases E with
 |@tup a l ds h r=>exact .inl (.inl ⟨a,l,e,.inr h,by rw[r.length];exact p.ret g _ (.int _)⟩)
 |@lit a l ds h r=>exact .inl (.inl ⟨a,l,e,.inl h.seq,by rw[r.length];exact p.ret g _ (.int _)⟩)
 |@ref a n _ h=>
  obtain⟨ds,B,q⟩:=aV.getL (aV.bnd p) g;obtain⟨I,l,C,G,r⟩:=g.seq B;rw[h]at C;cases C;exact .inl (.inl ⟨a,l,e,.inl (gD.of G),by rw[r.length];exact q.ret g _ (.int _)⟩)
 |str z=>exact .inl (.inr ⟨z,e,(aV.chk p).1,(aV.chk p).2.ret g _ (.int _)⟩)
 |@dic a n _ h=>
  obtain⟨b,u,B,q⟩:=aV.getDc (aV.bnd p) g;exact .inr ⟨ρ,st,n,a,b,u,e,g,h,B,q.ret g _ (.int _)⟩
 |_=>exact p.elim
theorem Wd:CallR X (.type "int") (λxs H Q=>∃v,xs=[v]/\v_ X.K intD v H Q):=Uf.of λxs H Q g=>by
 obtain⟨v,e,ρ,st,d,h,l,p⟩:=g;cases l with
 |int i=>exact .inl ⟨i,e,p.ret h _ (.int _)⟩
 |bl k=>exact .inr ⟨k,e,p.ret h _ (.int _)⟩
 |_=>exact p.elim
theorem We:CallR X (.type "tuple") (λxs H Q=>∃v,xs=[v]/\v_ X.K tupleD v H Q):=N_.of λxs H Q u=>by
 obtain⟨v,e,ρ,st,d,q,C,p⟩:=u;cases C with
 |@tup a o ds h r=>exact⟨a,o,e,.inr ⟨h,p.ret q _ (.tup h r)⟩⟩
 |@lit a o ds h r=>exact⟨a,o,e,.inl ⟨h.seq,λl g=>p ρ _ (Ex.new g) (q.new g) _ (.tup (iR.of kq) (r.mono (Ex.new g)))⟩⟩
 |@ref a n _ h=>
  obtain⟨ds,I,E⟩:=aV.getL (aV.bnd p) q;obtain⟨J,o,B,G,r⟩:=q.seq I;rw[h]at B;cases B;exact⟨a,o,e,.inl ⟨gD.of G,λl g=>E ρ _ (Ex.new g) (q.new g) _ (.tup (iR.of kq) (r.mono (Ex.new g)))⟩⟩
 |_=>exact p.elim
theorem Py:CallR X (.type "tuple") (Dx X.K kT):=N_.of λxs H Q g=>
 by obtain⟨a,o,ρ,st,ds,e,u,q,r,p⟩:=g;exact⟨a,o,e,.inl ⟨u,λl h=>p ρ _ (Ex.new h) (q.new h) _ (.tup (iR.of kq) (r.mono (Ex.new h)))⟩⟩
end
section
variable{X:Cx}{a b c e tg:Expr}{es:List Expr}{pos:Pos}{fa fb fc:CE}{ca cb:CA}{ta tb:CT}{K:ak}{ρ:List av}{H:Hp}{st:a_}{x:Str}{p:Pos}{T:String}
theorem Jx{ds:List D}{o:List Int}{l:List V}(h:iX ds=some o)(g:bZ K ρ H l ds):l=o.map V.int:=by
 induction ds generalizing o l with
 |nil=>cases g;cases h;rfl
 |cons d ds ih=>
  cases g with
  |cons r t=>
   cases r with
   |int i=>
    unfold iX at h;cases q:iX ds with
    |none=>rw[q]at h;cases h
    |some ms=>
     rw[q]at h;have h':i::ms=_:=aN h;subst h';rw[ih q t];rfl
   |_=>cases h
theorem Ki:∀{ds:List D}{l:List Bool}{g:List V},ki ds=some l->bZ K ρ H g ds->g=l.map V.bl
 |[],_,_,h,.nil=>by cases h;rfl
 | .bl i::ds,_,_,h,.cons r t=>by
  unfold ki at h;cases q:ki ds with
  |none=>rw[q]at h;cases h
  |some ms=>
   rw[q]at h;have h':i::ms=_:=aN h;subst h';cases r;rw[Ki q t];rfl
 | .non::_,_,_,h,_=>by cases h
 | .int _::_,_,_,h,_=>by cases h
 | .str _::_,_,_,h,_=>by cases h
 | .tup _::_,_,_,h,_=>by cases h
 | .lit _::_,_,_,h,_=>by cases h
 | .ref _::_,_,_,h,_=>by cases h
theorem NL:∀{bs:List Bool}{g:List ah},b9 (bs.map V.bl) g->g=bs.map cS
 |[],_,.nil=>rfl
 |_::_,_,.cons r t=>by cases r;rw[NL t];rfl
theorem VI(hc:X.calm=true):CallR X (.builtin "any") (λxs H Q=>∃(l:av)(bs:List Bool),xs=[.ref l]/\gD X.K H l (bs.map V.bl)/\Q (.bl (bs.any id)) H):=by
 intro O s σ H xs us Q I r h;obtain⟨l,bs,rfl,hq,q⟩:=h;obtain⟨u,rfl,T⟩:=uI r;cases T;obtain⟨its,rv,C,hz⟩:=I.list hq;have ei:=NL rv;subst ei;refine call_any_walk (kM C.isList ?_);have G:l < s.heap.objs.size:=by obtain⟨o,E,_⟩:=C.isList;exact aJ E
 refine⟨s.heap.objs.size,_,_,_,_,_,λi=>(bs[i]?).getD true,rfl,FY (A:=X.A.in1) (I.ok.hd hc) s.heap.objs.size l (bA G) (bs.map cS).toArray,⟨⟨_,aC _ rfl,rfl,rfl⟩,?_⟩,?_,λh' c J=>?_⟩
 ·obtain⟨o,E,c⟩:=C.isList;exact⟨o,al _ E,c⟩
 ·intro i v h l o c L;have g:(bs.map cS)[i]?=some v:=by simpa using c
  rw[aj]at g;dsimp only at L;cases e:bs[i]? with
  |none=>rw[e]at g;cases g
  |some k=>
   rw[e]at g L;have:v=cS k:=(aN g).symm;subst this;exact fu L
 ·have e : (bH (bs.map cS).toArray.size).any (λi => (bs[i]?).getD true) = bs.any id := by
    have g:(bs.map cS).toArray.size=bs.length:=by simp
    rw[g,zD,gG,gG];constructor
    ·rintro ⟨i,B,hh⟩
     have U:=d9.mp B;rw[ag U]at hh;exact⟨_,dA U,hh⟩
    ·rintro ⟨k,J,hh⟩
     obtain⟨i,B⟩:=ip J;exact⟨i,d9.mpr (ac.mp B).1,by rw[B];exact hh⟩
  rw[e];exact⟨.bl _,H,I.kept (t':=c) λb o Y=>J b o (by simp;exact bA (aJ Y)) (al _ Y),rfl,q⟩
theorem OK:∀(g:List Int)(n:Int),g.foldl max n∈n::g/\∀a∈n::g,a<=g.foldl max n
 |[],n=>⟨by simp,by simp⟩
 |m::g,n=>by
  obtain⟨u,l⟩:=OK g (max n m);rw[List.foldl_cons];refine⟨?_,λa q=>?_⟩
  ·rcases bb.mp u with e|e
   ·rw[e];by_cases o:n<=m
    ·rw[Int.max_eq_right o];simp
    ·rw[Int.max_eq_left (by ext)];simp
   ·exact bI _ (bI _ e)
  ·have h:=l (max n m) cM;rcases bb.mp q with e|e
   ·subst e;exact FZ (Int.le_max_left ..) h
   ·rcases bb.mp e with e|e
    ·subst e;exact FZ (Int.le_max_right ..) h
    ·exact l a (bI _ e)
theorem Sj{g:List ah}{h:List Int}(l:ic g h):∃xs,g.toArray=intItems xs/\h=xs.toList.map (·.1):=by obtain⟨xs,e⟩:=l.allInts.items;exact⟨xs,e,by rw[<- l.numsOf,<- nums_intItems,<- e]⟩
theorem YL(hc:X.calm=true):CallR X (.builtin "max") (λxs H Q=>∃(l:av)(n:Int)(g:List Int),xs=[.ref l]/\gD X.K H l ((n::g).map V.int)/\Q (.int (g.foldl max n)) H):=by
 intro E s σ H xs us Q I r h;obtain⟨l,n,g,rfl,hq,q⟩:=h;obtain⟨u,rfl,Y⟩:=uI r;cases Y;obtain⟨its,c,T,hz⟩:=I.list hq;obtain⟨ys,e,o⟩:=Sj (Iw c);have G:=T.isList;rw[e]at G;have hsz:ys.size=g.length+1:=by have:=cz eU o;simpa using this.symm
 refine max_intList (I.ok.hd hc) G (by ext) λv h' U hv hk=>?_;obtain⟨t,rfl⟩:=intItems_at hv;obtain⟨b1,O⟩:=argBest_gt (Dl ys) (ys.size-1);obtain⟨L,f2⟩:=OK g n;generalize lC (λi j=>decide (Dl ys i > Dl ys j)) (ys.size-1)=k at b1 O ⊢;have B:Dl ys k∈n::g:=by rw[o,numAt_eq];exact getD_mem (by rw[<- o];simp;ext)
 have C:g.foldl max n<=Dl ys k:=by rw[o]at L;obtain⟨j,J,ej⟩:=mem_getD L;rw[<- ej,<- numAt_eq];exact O j (by rw[<- o]at J;simp at J;ext)
 have hM:Dl ys k=g.foldl max n:=Int.le_antisymm (f2 _ B) C;rw[hM];exact⟨.int _,H,I.kept (t':=U) hk,⟨t,rfl⟩,q⟩
theorem Sy(o:X.calm=true):CallR X (.builtin "any") (Dx X.K vv):=(VI o).of λxs H Q g=>by
 obtain⟨a,u,ρ,st,ds,e,l,h,r,p⟩:=g;unfold vv at p;cases q:ki ds with
 |none=>rw[q]at p;exact p.elim
 |some bs=>
  rw[q]at p;have:=Ki q r;subst this;exact⟨a,bs,e,l,p.ret h _ (.bl _)⟩
theorem Yt(o:X.calm=true):CallR X (.builtin "max") (Dx X.K tE):=(YL o).of λxs H Q g=>by
 obtain⟨a,u,ρ,st,ds,e,l,h,r,p⟩:=g;unfold tE at p;cases q:iX ds with
 |none=>rw[q]at p;exact p.elim
 |some ns=>
  rw[q]at p;have:=Jx q r;subst this;cases ns with
  |nil=>exact p.elim
  |cons n ns=>exact⟨a,n,ns,e,l,p.ret h _ (.int _)⟩
structure r9(T:String):Prop where
 non:∀K,gq K (.type "NoneType") (.type T)=some (["NoneType"].contains T)
 bl:∀K,gq K (.type "bool") (.type T)=some (["bool","int"].contains T)
 int:∀K,gq K (.type "int") (.type T)=some (["int"].contains T)
 str:∀K,gq K (.type "str") (.type T)=some (["str"].contains T)
 tup:∀K,gq K (.type "tuple") (.type T)=some (["tuple"].contains T)
 lst:∀K,gq K (.type "list") (.type T)=some (["list"].contains T)
theorem WX:r9 "int":=⟨λ_=>rfl,λ_=>rfl,λ_=>rfl,λ_=>rfl,λ_=>rfl,λ_=>rfl⟩
theorem TX:r9 "bool":=⟨λ_=>rfl,λ_=>rfl,λ_=>rfl,λ_=>rfl,λ_=>rfl,λ_=>rfl⟩
theorem WZ:r9 "tuple":=⟨λ_=>rfl,λ_=>rfl,λ_=>rfl,λ_=>rfl,λ_=>rfl,λ_=>rfl⟩
theorem JU{g:List (av×Obj)}{σ:St}{s:am}{Q:ah->am->Prop}{t:String}{u:av}{k:Bool}(I:Inv X g σ H s)(l:∃o,s.heap.get? u=some o/\o.cls=.type t)(v:t="tuple"\/t="list")(e:gq X.K (.type t) (.type T)=some k)
  (h:∀q,Q (.bool k) { s with toks:=q }):aK (bc X.prog X.w) X.A (call (.builtin "isinstance") [.ref u,.type T]) Q X.xe s:=by
 rcases v with rfl|rfl
 ·exact cU uK I.kIn l e nofun h
 ·exact cU oQ I.kIn l e nofun h
theorem Wv(B:r9 T):CallR X (.builtin "isinstance") (λxs H Q=>∃v,xs=[v,.ty T]/\v_ X.K (hV [T]) v H Q):=by
 intro E s σ H xs us Q I r C;obtain⟨v,e,ρ,st,d,g,rv,p⟩:=C;subst e;obtain⟨u,c,rfl,l,U⟩:=Jb r;have ew:c=vQ T:=U;subst ew;have fin:∀k:Bool,Q (.bl k) H->∀O,EP X E σ Q (.bool k) { s with toks:=O }:=λk q O=>⟨.bl k,H,I.tok O,rfl,q⟩
 cases rv with
 |non=>
  refine GI I l .non (B.non _) (fin _ ?_);simpa [hV,tN] using p.ret g _ (.bl _)
 |bl k=>
  refine GI I l (.bl k) (B.bl _) (fin _ ?_);simpa [hV,tN] using p.ret g _ (.bl _)
 |int k=>
  refine GI I l (.int k) (B.int _) (fin _ ?_);simpa [hV,tN] using p.ret g _ (.bl _)
 |str k=>
  refine GI I l (.str k) (B.str _) (fin _ ?_);simpa [hV,tN] using p.ret g _ (.bl _)
 |tup h r=>
  have L:u=bj _:=l;subst L;obtain⟨its,_,⟨o,J,G,_⟩,_⟩:=I.tuple h;refine JU I ⟨o,J,G⟩ (.inl rfl) (B.tup _) (fin _ ?_);simpa [hV,tN] using p.ret g _ (.bl _)
 |lit h r=>
  have L:u=bj _:=l;subst L;obtain⟨its,_,Y,_⟩:=I.list h.seq;obtain⟨o,J,G,_⟩:=Y.isList;refine JU I ⟨o,J,G⟩ (.inr rfl) (B.lst _) (fin _ ?_);simpa [hV,tN] using p.ret g _ (.bl _)
 |@ref a n kk h=>
  have L:u=bj _:=l;subst L;obtain⟨vs,hv⟩:=K8 kk;obtain⟨its,_,Y,_⟩:=I.list (gD.of hv);obtain⟨o,J,G,_⟩:=Y.isList;refine JU I ⟨o,J,G⟩ (.inr rfl) (B.lst _) (fin _ ?_);simpa [hV,tN] using p.ret g _ (.bl _)
 |dic _ _=>exact p.elim
 |exn0 _ _=>exact p.elim
 |exn _ _ _ _=>exact p.elim
theorem P5{y:Str}{g:Pos}(B:r9 T)(hg:Gl X "isinstance")(hm:X.mg "isinstance"=none)(E:Gl X y)(C:X.mg y=none)(o:cI y=some (.type T))(ha:SE X e fa)(c:cI "isinstance"=some (.builtin "isinstance"))
  (u:y≠"__name__":=by decide) (I:(y == ("__debug__":Str))=false:=by decide)
  (J:aF [e,.Name y g] X.env=(false,eval e X.env)::aF [.Name y g] X.env:=by rfl) (G:aF [.Name y g] X.env=(false,eval (.Name y g) X.env)::aF [] X.env:=by rfl) (q:(eI pos (aF [.Name y g] X.env)).any (·.1)=false:=by rfl):
  SE X (.Call (.Name "isinstance" p) [e,.Name y g] [] pos) (c1 (hV [T]) fa):=
 (GV (Wv B) hg hm c (rX ha (rX (Wa (v:=.ty T) E C o rfl u I) u_ G) J) (by decide) (by decide) J q).of λσ H Q h_=>h_.el λρ l st Y L p=>⟨ρ,l,st,Y,L,p.bnd.imp λd h ρ1 H1 x1 O g v U=>⟨v,rfl,ρ1,h,d,O,U,g⟩⟩
end
section
variable{X:Cx}{K:ak}{ρ:List av}{H:Hp}{st:a_}{ap:List (av×Obj)}{σ:St}{s:am}
theorem Jl{f:D->D->Option Bool}:∀{xs ys:List D}{r:Bool},kJ f xs ys=some r->∀(j:Nat)(x y:D),xs[j]?=some x->ys[j]?=some y->∃k,f x y=some k
 |[],_,_,_,j,x,y,h,_=>by cases j<;>cases h
 |_::_,[],_,_,j,x,y,_,h=>by cases j<;>cases h
 |a::xs,b::ys,r,h,j,x,y,hx,hy=>by
  unfold kJ at h;cases e:f a b with
  |none=>rw[e]at h;cases h
  |some k=>
   cases j with
   |zero=>cases hx;cases hy;exact⟨k,e⟩
   |succ j=>
    rw[e]at h;have g:xs[j]?=some x:=hx;have c:ys[j]?=some y:=hy;cases k with
    |true=>exact Jl h j x y g c
    |false=>
     cases l:kJ f xs ys with
     |none=>rw[l]at h;cases h
     |some r'=>exact Jl l j x y g c
noncomputable def C8(f:D->D->Option Bool)(xs ys:List D)(j:Nat):Bool:=match xs[j]?,ys[j]? with
 |some x,some y=>(f x y).getD false
 |_,_=>true
theorem Ov{f:D->D->Option Bool}:∀{xs ys:List D}{r:Bool},kJ f xs ys=some r->r=((bH (min xs.length ys.length)).all (C8 f xs ys)&&xs.length == ys.length)
 |[],[],_,h=>by cases h;rfl
 |_::_,[],_,h=>by cases h;simp
 |[],_::_,_,h=>by cases h;simp
 |a::xs,b::ys,r,h=>by
  have step:(bH (min (a::xs).length (b::ys).length)).all (C8 f (a::xs) (b::ys))=((f a b).getD false&&(bH (min xs.length ys.length)).all (C8 f xs ys)):=by
   have e:min (a::xs).length (b::ys).length=min xs.length ys.length+1:=by simp only[bp];ext
   rw[e,m5,cQ,List.all_map];rfl
  rw[step];unfold kJ at h;cases e:f a b with
  |none=>rw[e]at h;cases h
  |some k=>
   rw[e]at h;cases k with
   |true=>
    have:=Ov h;simp only[fA,Bool.true_and,bp];rw[this];congr 1;rw[zD];simp
   |false=>
    simp only[fA,si];cases c:kJ f xs ys with
    |none=>rw[c]at h;cases h
    |some r'=>rw[c]at h;cases h;rfl
theorem b9.at{c:List V}{g:List ah}{j:Nat}{u:ah}(r:b9 c g)(h:g[j]?=some u):∃v,c[j]?=some v/\RelV v u:=by
 have q:=r.length;have l:j < c.length:=by rw[q];exact (ac.mp h).1
 obtain⟨u',e,o⟩:=r.get (ag l);rw[h]at e;cases e;exact⟨_,ag l,o⟩
theorem bZ.at{c:List V}{ds:List D}{j:Nat}{v:V}(r:bZ K ρ H c ds)(h:c[j]?=some v):∃d,ds[j]?=some d/\dN K ρ H v d:=by
 have o:=r.length;have g:j < ds.length:=by rw[<- o];exact (ac.mp h).1
 obtain⟨q,e,l⟩:=r.get (ag g);rw[h]at e;cases e;exact⟨_,ag g,l⟩
theorem Nh{g:List D->List D->Option Bool}{v:V}{d e:D}{r:Bool}(I:Inv X ap σ H s)(q:∀xs ys l k,bZ X.K ρ H l xs->bZ X.K ρ H l ys->g xs ys=some k->k=true)(h:GS g d e=some r)(o:dN X.K ρ H v d)(c:dN X.K ρ H v e):r=true:=by
 cases o with
 |non=>cases c;cases h;rfl
 |bl b=>cases c;cases h;simp
 |int b=>cases c;cases h;simp
 |str b=>cases c;cases h;simp
 |tup h1 q1=>
  cases c with
  |tup h2 q2=>
   have:=I.tuple_inj h1 h2;subst this;exact q _ _ _ _ q1 q2 h
  |_=>cases h
 |lit _ _=>cases e<;>cases h
 |ref _ _=>cases e<;>cases h
 |dic _ _=>cases e<;>cases h
 |exn0 _ _=>cases e<;>cases h
 |exn _ _ _ _=>cases e<;>cases h
theorem LO{f:D->D->Option Bool}(q:∀v d e k,dN K ρ H v d->dN K ρ H v e->f d e=some k->k=true){xs ys:List D}{g:List V}{k:Bool}(o:bZ K ρ H g xs)(l:bZ K ρ H g ys)(h:kJ f xs ys=some k):k=true:=by
 induction xs generalizing ys g k with
 |nil=>cases o;cases l;cases h;rfl
 |cons x xs ih=>
  cases o with
  |cons a b=>cases l with
   |cons c d=>
    unfold kJ at h;cases e:f _ _ with
    |none=>rw[e]at h;cases h
    |some k=>
     rw[e]at h;have:=q _ _ _ _ a c e;subst this;exact ih b d h
theorem N7(I:Inv X ap σ H s):∀(n:Nat){v:V}{d e:D}{r:Bool},rW n d e=some r->dN X.K ρ H v d->dN X.K ρ H v e->r=true
 |0,_,_,_,_,h,r1,r2=>Nh I (λ_ _ _ _ _ _ z=>by cases z) h r1 r2
 |n+1,_,_,_,_,h,r1,r2=>Nh I (λxs ys o k l g z=>LO (λv d e k a b c=>N7 I n c a b) l g z) h r1 r2
open SeqAt in
noncomputable abbrev VM(A:bB)(s:am)(g c:ah)(r:Bool):Prop:=RcAt A s g c r/\RcNeAt A s g c (!r)/\EqAt A s g c r
open SeqAt in
theorem Lu{g:List D->List D->Option Bool}{A:bB}{v w:V}{u l:ah}{d e:D}{r:Bool}(I:Inv X ap σ H s)(hu:A.units < cC)
  (hg:∀xs ys k,g xs ys=some k->∀q ws its o,bZ X.K ρ H q xs->bZ X.K ρ H ws ys->b9 q its->b9 ws o ->
   ∃e:Nat->Bool,k=((bH (min its.length o.length)).all e&&its.length == o.length)/\∀(j:Nat)x y,its[j]?=some x->o[j]?=some y->EqAt A.in1 s x y (e j))
  (hs:∀xs ys q k,bZ X.K ρ H q xs->bZ X.K ρ H q ys->g xs ys=some k->k=true)
  (h:GS g d e=some r) (Y:dN X.K ρ H v d) (B:dN X.K ρ H w e) (v1:RelV v u) (v2:RelV w l):VM A s u l r:=by
 cases Y with
 |lit _ _=>cases e<;>cases h
 |ref _ _=>cases e<;>cases h
 |dic _ _=>cases e<;>cases h
 |exn0 _ _=>cases e<;>cases h
 |exn _ _ _ _=>cases e<;>cases h
 |non=>
  cases (show u=bV from v1);cases B with
  |non=>cases (show l=bV from v2);cases h;exact⟨.none_none,.none_none,.same _⟩
  |bl b=>cases (show l=cS b from v2);cases h;exact⟨.none_bool b,.none_bool b,.none_bool b⟩
  |int b=>obtain⟨t,rfl⟩:=(show ∃t,l=gA b t from v2);cases h;exact⟨.none_int b t,.none_int b t,.none_int b t⟩
  |str b=>obtain⟨t,rfl⟩:=(show ∃t,l=iT b t from v2);cases h;exact⟨.none_str b t,.none_str b t,.none_str b t⟩
  |tup h2 q2=>cases (show l=bj _ from v2);cases h;obtain⟨_,_,p,_⟩:=I.tuple h2;exact⟨.none_tuple p hu,.none_tuple p hu,.none_tuple p hu⟩
  |_=>cases h
 |bl a=>
  cases (show u=cS a from v1);cases B with
  |non=>cases (show l=bV from v2);cases h;exact⟨.bool_none a,.bool_none a,.bool_none a⟩
  |bl b=>cases (show l=cS b from v2);cases h;exact⟨.bool_bool a b,.bool_bool a b,.bool_bool a b⟩
  |int b=>obtain⟨t,rfl⟩:=(show ∃t,l=gA b t from v2);cases h;exact⟨.bool_int a b t,.bool_int a b t,.bool_int a b t⟩
  |str b=>obtain⟨t,rfl⟩:=(show ∃t,l=iT b t from v2);cases h;exact⟨.bool_str a b t,.bool_str a b t,.bool_str a b t⟩
  |tup h2 q2=>cases (show l=bj _ from v2);cases h;obtain⟨_,_,p,_⟩:=I.tuple h2;exact⟨.bool_tuple a p hu,.bool_tuple a p hu,.bool_tuple a p hu⟩
  |_=>cases h
 |int a=>
  obtain⟨c,rfl⟩:=(show ∃t,u=gA a t from v1)
  cases B with
  |non=>cases (show l=bV from v2);cases h;exact⟨.int_none a c,.int_none a c,.int_none a c⟩
  |bl b=>cases (show l=cS b from v2);cases h;exact⟨.int_bool a c b,.int_bool a c b,.int_bool a c b⟩
  |int b=>obtain⟨t,rfl⟩:=(show ∃t,l=gA b t from v2);cases h;exact⟨.int_int a c b t,.int_int a c b t,.int_int a c b t⟩
  |str b=>obtain⟨t,rfl⟩:=(show ∃t,l=iT b t from v2);cases h;exact⟨.int_str a c b t,.int_str a c b t,.int_str a c b t⟩
  |tup h2 q2=>cases (show l=bj _ from v2);cases h;obtain⟨_,_,p,_⟩:=I.tuple h2;exact⟨.int_tuple a c p hu,.int_tuple a c p hu,.int_tuple a c p hu⟩
  |_=>cases h
 |str a=>
  obtain⟨c,rfl⟩:=(show ∃t,u=iT a t from v1)
  cases B with
  |non=>cases (show l=bV from v2);cases h;exact⟨.str_none a c,.str_none a c,.str_none a c⟩
  |bl b=>cases (show l=cS b from v2);cases h;exact⟨.str_bool a c b,.str_bool a c b,.str_bool a c b⟩
  |int b=>obtain⟨t,rfl⟩:=(show ∃t,l=gA b t from v2);cases h;exact⟨.str_int a c b t,.str_int a c b t,.str_int a c b t⟩
  |str b=>obtain⟨t,rfl⟩:=(show ∃t,l=iT b t from v2);cases h;exact⟨.str_str a c b t,.str_str a c b t,.str_str a c b t⟩
  |tup h2 q2=>cases (show l=bj _ from v2);cases h;obtain⟨_,_,p,_⟩:=I.tuple h2;exact⟨.str_tuple a c p hu,.str_tuple a c p hu,.str_tuple a c p hu⟩
  |_=>cases h
 |@tup l1 q xs h1 q1=>
  cases (show u=bj _ from v1);obtain⟨its,U,p,_⟩:=I.tuple h1;cases B with
  |non=>cases (show l=bV from v2);cases h;exact⟨.tuple_none p hu,.tuple_none p hu,.tuple_none p hu⟩
  |bl b=>cases (show l=cS b from v2);cases h;exact⟨.tuple_bool b p hu,.tuple_bool b p hu,.tuple_bool b p hu⟩
  |int b=>obtain⟨t,rfl⟩:=(show ∃t,l=gA b t from v2);cases h;exact⟨.tuple_int b t p hu,.tuple_int b t p hu,.tuple_int b t p hu⟩
  |str b=>obtain⟨t,rfl⟩:=(show ∃t,l=iT b t from v2);cases h;exact⟨.tuple_str b t p hu,.tuple_str b t p hu,.tuple_str b t p hu⟩
  |@tup l2 ws ys h2 q2=>
   cases (show l=bj _ from v2);obtain⟨o,G,L,_⟩:=I.tuple h2;obtain⟨ef,ek,he⟩:=hg xs ys r h q ws its o q1 q2 U G;have C:∀j(T:j < its.toArray.size)(Q:j < o.toArray.size),EqAt A.in1 s its.toArray[j] o.toArray[j] (ef j):=λj T Q=>
    he j _ _ (by rw[fU];exact ag (by simpa using T)) (by rw[fU];exact ag (by simpa using Q))
   have E:=RcAt.tuples (A:=A) (s:=s) p L hu C;have J:=RcNeAt.tuples (A:=A) (s:=s) p L hu C;simp only[aH]at E J;rw[<- ek]at E J;refine⟨E,J,?_⟩;by_cases O:l1=l2
   ·subst O;have:=I.tuple_inj h1 h2;subst this;rw[hs xs ys q r q1 q2 h];exact .same _
   ·exact .of_refs O E
  |_=>cases h
open SeqAt in
theorem Mu{n:Nat}{A:bB}(I:Inv X ap σ H s)
  (ih:∀{v w:V}{u q:ah}{d e:D}{r:Bool},rW n d e=some r->dN X.K ρ H v d->dN X.K ρ H w e->RelV v u->RelV w q->EqAt A s u q r)
  {xs ys:List D}{k:Bool} (h:kJ (rW n) xs ys=some k) {o ws:List V}{its c:List ah} (E:bZ X.K ρ H o xs) (C:bZ X.K ρ H ws ys) (B:b9 o its) (g:b9 ws c):
  ∃e:Nat->Bool,k=((bH (min its.length c.length)).all e&&its.length == c.length)/\∀(j:Nat)x y,its[j]?=some x->c[j]?=some y->EqAt A s x y (e j):=by
 refine⟨C8 (rW n) xs ys,?_,λj x y hx hy=>?_⟩
 ·have c:=B.length;have Y:=g.length;have U:=E.length;have T:=C.length;rw[<- c,<- Y,U,T];exact Ov h
 ·obtain⟨v,o,L⟩:=b9.at B hx;obtain⟨w,c,l⟩:=b9.at g hy;obtain⟨d,hd,Q⟩:=bZ.at E o;obtain⟨e,J,O⟩:=bZ.at C c;obtain⟨r,G⟩:=Jl h j d e hd J;have:C8 (rW n) xs ys j=r:=by unfold C8;rw[hd,J];dsimp only;rw[G];rfl
  rw[this];exact ih G Q O L l
open SeqAt in
theorem F_(I:Inv X ap σ H s):∀(n:Nat){A:bB}{v w:V}{q o:ah}{d e:D}{r:Bool},A.units+n < cC->rW n d e=some r->dN X.K ρ H v d->dN X.K ρ H w e->RelV v q->RelV w o->RcAt A s q o r/\RcNeAt A s q o (!r)/\EqAt A s q o r
 |0,_,_,_,_,_,_,_,_,hu,h,l,g,v1,v2=>Lu I hu (λ_ _ _ z=>by cases z) (λ_ _ _ _ _ _ z=>by cases z) h l g v1 v2
 | n+1, A, _, _, _, _, _, _, _, hu, h, l, g, v1, v2 => Lu I (by ext)
   (λxs ys k z G ws its E C B J u=>Mu I (λh l g v1 v2=>(F_ I n (A:=A.in1) (by show A.units+1+n < cC;ext) h l g v1 v2).2.2) z C B J u)
   (λxs ys G k C B z=>LO (λv d e k a b c=>N7 I n c a b) C B z) h l g v1 v2
end
section
variable{X:Cx}{K:ak}{ρ:List av}{H:Hp}{st:a_}{ap:List (av×Obj)}{σ:St}{s:am}
open SeqAt in
theorem Nf(hu:X.A.units+60 < cC)(I:Inv X ap σ H s)(l:SR X.K ρ H st){d e:D}{x y:V}{v u:ah}{R:Bool->a_->List av->Hp->Prop}(r1:dN X.K ρ H x d)(L:dN X.K ρ H y e)(rx:RelV x v)(ry:RelV y u)
  (p:aV X.K ρ H (Ey d e st) R):∃r,R r st ρ H/\RcAt X.A s v u r/\RcNeAt X.A s v u (!r):=by
 have g:X.A.units < cC:=by ext
 have G:aV X.K ρ H ((match rW 50 d e with|some r=>ret r|none=>bad:M Bool) st) R->∃r,R r st ρ H/\RcAt X.A s v u r/\RcNeAt X.A s v u (!r):=λq=>by
  cases h:rW 50 d e with
  |none=>rw[h]at q;exact q.elim
  |some r=>
   rw[h]at q;obtain⟨k1,k2,_⟩:=F_ I 50 (A:=X.A) (by ext) h r1 L rx ry;exact⟨r,q.ret l,k1,k2⟩
 cases r1 with
 |non=>
  cases L with
  |@ref a n _ h=>
   obtain⟨ds,Y,O⟩:=aV.getL (aV.bnd p) l;obtain⟨a',vs,C,Q,r⟩:=l.seq Y;rw[h]at C;cases C;cases (show v=bV from rx);cases (show u=bj a from ry);obtain⟨_,_,o,_⟩:=I.list (gD.of Q);exact⟨false,O.ret l,.none_list o.isList g,.none_list o.isList g⟩
  |_=>exact G p
 |@ref a n _ h=>
  cases L with
  |non=>
   obtain⟨ds,Y,O⟩:=aV.getL (aV.bnd p) l;obtain⟨a',vs,C,Q,r⟩:=l.seq Y;rw[h]at C;cases C;cases (show u=bV from ry);cases (show v=bj a from rx);obtain⟨_,_,o,_⟩:=I.list (gD.of Q);exact⟨false,O.ret l,.list_none o.isList g,.list_none o.isList g⟩
  |@ref b m _ h'=>
   obtain⟨xs,Y,O⟩:=aV.getL (aV.bnd p) l;obtain⟨ys,e3,E⟩:=aV.getL (aV.bnd O) l;obtain⟨a',vs,C,Q,q1⟩:=l.seq Y;obtain⟨b',ws,hb,hw,q2⟩:=l.seq e3;rw[h]at C;cases C;rw[h']at hb;cases hb;cases (show v=bj a from rx);cases (show u=bj b from ry);obtain⟨its,rv,o,_⟩:=I.list (gD.of Q);obtain⟨c,J,B,_⟩:=I.list (gD.of hw);have l1:=rv.length;have l2:=J.length;have l3:=q1.length;have l4:=q2.length;by_cases hl:xs.length=ys.length
   ·rw[aE hl]at E;cases q:kJ (rW 50) xs ys with
    |none=>rw[q]at E;exact E.elim
    |some r=>
     rw[q]at E;obtain⟨v,O,H⟩:=Mu (A:=X.A.in1) I (λh r1 L v1 v2=>(F_ I 50 (A:=X.A.in1) (by show X.A.units+1+50 < cC;ext) h r1 L v1 v2).2.2) q q1 q2 rv J;have hsz:its.toArray.size=c.toArray.size:=by rw[aH,aH];ext
     have U:∀j(G:j < its.toArray.size)(C:j < c.toArray.size),EqAt X.A.in1 s its.toArray[j] c.toArray[j] (v j):=λj G C=>
      H j _ _ (by rw[fU];exact ag (by simpa using G)) (by rw[fU];exact ag (by simpa using C))
     have u:(bH its.toArray.size).all v=r:=by
      rw[O,aH];have:its.length=c.length:=by ext
      rw[this];simp
     have k1:=RcAt.lists (A:=X.A) (s:=s) o.isList B.isList hsz g U;have k2:=RcNeAt.lists (A:=X.A) (s:=s) o.isList B.isList hsz g U;rw[u]at k1 k2;exact⟨r,E.ret l,k1,k2⟩
   ·rw[aA hl]at E;have T:(its.toArray.size != c.toArray.size)=true:=by rw[aH,aH];simp;ext
    exact⟨false,E.ret l,.lists_lengths o.isList B.isList T g,.lists_lengths o.isList B.isList T g⟩
  |_=>exact G p
 |_=>cases e<;>exact G p
theorem QP(hu:X.A.units+60 < cC):OpR X (dg .Eq) (pV X.K lR):=by intro ap s σ H x y v u Q I l h c;obtain⟨ρ,st,d,e,g,B,o,p⟩:=c;obtain⟨r,q,C,_⟩:=Nf hu I g B o l h p.bnd;exact C _ _ _ _ ⟨.bl r,H,I,rfl,q.ret g _ (.bl _)⟩
theorem Uy(hu:X.A.units+60 < cC):OpR X (dg .NotEq) (pV X.K Ad):=by intro ap s σ H x y v u Q I l h c;obtain⟨ρ,st,d,e,g,B,o,p⟩:=c;obtain⟨r,q,_,C⟩:=Nf hu I g B o l h p.bnd;exact C _ _ _ _ ⟨.bl (!r),H,I,rfl,q.ret g _ (.bl _)⟩
end
section
variable{X:Cx}{a b c e o tg:Expr}{es:List Expr}{pos dr cx:Pos}{fa fb fc:CE}{ca cb:CA}{ta tb:CT}{K:ak}{ρ:List av}{H:Hp}{st:a_}{x:Str}{p:Pos}{T:String}
theorem Qv(ho : SE X o fa)(E : SE X e fb)(u : dh o "append" X.env (eval o X.env) = eval o X.env := by rfl)
  (C:((eI cx (aF [e] X.env)).all (λx => !x.1)&&(nN cx (kt [] X.env)).all (λx=>x.1.isSome)
   && decide ([e].length+([]:List ia).length+(if ([]:List ia).isEmpty then 0 else 1) < 30))=true:=by rfl)
  (q:(dr.endLine == cx.line)=true:=by rfl) (hs:aF [e] X.env=(false,eval e X.env)::aF [] X.env:=by rfl) (g:(eI cx (aF [] X.env)).any (·.1)=false:=by rfl):
  SE X (.Call (.Attribute o "append" dr) [e] [] cx) (cL fa fb):=
 (Pe mr PySem.F.slot_list_append PySem.F.type_list_append Mt ho (rX E u_ hs) u C q hs g).of λσ H Q h_=>h_.el λρ l st lr sr p=>⟨ρ,l,st,lr,sr,p.bnd.imp λd B ρ1 H1 x1 c T v rv=>by
  cases rv with
  |@ref a n kk h=>
   have hl:n < B.length:=by rw[<- c.len];exact (ac.mp h).1
   obtain⟨G,O⟩:=K8 kk;refine⟨.inl ⟨rfl,G,gD.of O⟩,ρ1,l,B,lr.mono x1,c,(aV.bnd T).imp λy st2 ρ2 H2 x2 I p2 w J=>?_⟩;have h2:ρ2[n]?=some a:=by obtain⟨τ,e,_⟩:=x2.pre;rw[e];exact w8 h
   obtain⟨ds,U,p3⟩:=aV.getL (aV.bnd p2) I;obtain⟨a',vs,E,hv,r⟩:=I.seq U;rw[h2]at E;cases E;obtain⟨hz,p4⟩:=aV.chk p3;obtain⟨Y,x3⟩:=I.put (ac.mp U).1 h2 hv (bZ.app r (.cons J .nil));have L:=aV.bnd p4;unfold putL at L;rw[U]at L;exact⟨a,vs,w,rfl,rfl,hv,by rw[r.length];exact hz,(L ρ2 _ x3 Y).ret Y _ .non⟩
  |_=>exact T.elim⟩
theorem YY:OpR X (fj .Add) (pV X.K fm):=by
 intro g s σ H x y v u Q I Y U J;obtain⟨ρ,st,d,e,l,r1,r2,p⟩:=J;cases d with
 |int i=>
  cases e with
  |int j=>
   cases r1.inv;cases r2.inv;exact YW g s σ H _ _ v u Q I Y U ⟨i,j,rfl,rfl,p.ret l _ (.int _)⟩
  |_=>exact p.elim
 |str i=>
  cases e with
  |str j=>
   cases r1.inv;cases r2.inv;exact Yj g s σ H _ _ v u Q I Y U ⟨i,j,rfl,rfl,(aV.chk p).1,(aV.chk p).2.ret l _ (.str _)⟩
  |_=>exact p.elim
 |ref _=>
  cases e with
  |ref _=>
   obtain⟨_,rfl,_,h⟩:=r1.inv;obtain⟨_,rfl,_,h'⟩:=r2.inv;obtain⟨xs,e2,p1⟩:=aV.getL (aV.bnd p) l;obtain⟨ys,e3,L⟩:=aV.getL (aV.bnd p1) l;obtain⟨a',O,ha,hv,G⟩:=l.seq e2;obtain⟨b',ws,hb,hw,C⟩:=l.seq e3;rw[h]at ha;cases ha;rw[h']at hb;cases hb;obtain⟨hz,p3⟩:=aV.chk L;refine Uc g s σ H _ _ v u Q I Y U ⟨_,_,O,ws,rfl,rfl,hv,hw,by rw[G.length,C.length];exact hz,λq B=>?_⟩;have nq:=l.fresh B;have x1:Ex ρ H (ρ++[q]) (fq H q (.lst (O++ws))):=Ex.newL B;refine p3 _ _ x1 ((l.new B).keep kq nq ((bZ.app G C).mono (Ex.new B))) _ (.ref ⟨_,kq,rfl⟩ ?_);rw[<- l.len];simp
  |_=>exact p.elim
 |tup xs=>
  cases e with
  |tup ys=>
   obtain⟨a1,O,rfl,h1,G⟩:=r1.inv;obtain⟨b1,ws,rfl,h2,C⟩:=r2.inv;obtain⟨hz,L⟩:=aV.chk p;by_cases hx:O=[]
   ·subst hx;cases G;obtain⟨its,v1,ht,_⟩:=I.tuple h1;obtain⟨q,v2,hb,_⟩:=I.tuple h2;cases v1;have ev:v=bj a1:=Y;have eu:u=bj b1:=U;subst ev eu;obtain⟨⟨cls,dd,data,Q⟩,B,J,n,hd⟩:=ht;obtain⟨⟨O,h,data2,g⟩,c,T,n2,o⟩:=hb;simp only at J hd T o;subst J hd T o;refine xn (E:=X.xe) ⟨_,B,rfl⟩ ⟨_,c,rfl⟩ sO vT mM mn (lT _ _) (tuple_addW0 a1 b1 _ _ n n2 dd h Q g (by simp)) ⟨B,c,?_⟩;exact⟨.ref b1,H,I,rfl,L.ret l _ (.tup h2 C)⟩
   ·refine Ta g s σ H _ _ v u Q I Y U ⟨_,_,O,ws,rfl,rfl,h1,h2,hx,by rw[G.length,C.length];exact hz,λc=>?_,λ_ q B=>?_⟩
    ·subst c;cases C;rw[bn]at L;exact L.ret l _ (.tup h1 G)
    ·exact L _ _ (Ex.new B) (l.new B) _ (.tup (iR.of kq) ((bZ.app G C).mono (Ex.new B)))
  |_=>exact p.elim
 |_=>cases e<;>exact p.elim
def Ib(K:ak)(f:CO):TO:=λσ H Q=>∃ρ l st,LR K ρ H σ l/\SR K ρ H st/\aV K ρ H (f l st) λo _ _ g=>Q o g
abbrev SO(X:Cx)(e:Option Expr)(f:CO):Prop:=PO X e (Ib X.K f)
theorem Qq:SO X none tq:=λg s σ H Q I q=>q.el λρ l st u h p=>Qy g s σ H Q I (p.ret h)
theorem S5(h:SE X e fa):SO X (some e) (pD fa):=λg s σ H Q I J=>J.el λρ l st G B p=>OF h g s σ H Q I ⟨ρ,l,st,G,B,p.bnd.imp λd u ρ1 O L C q v E=>by
 cases E with
 |int i=>exact⟨i,rfl,q.ret C⟩
 |_=>exact q.elim⟩
theorem bZ.cut{g:List V}{ds:List D}(r:bZ K ρ H g ds)(lo h:Option Int):bZ K ρ H (tL g lo h) (cutD ds lo h):=by
 unfold tL cutD;have e:∀n d o,HT.gY n d o=MM.gY n d o:=λn d o=>by cases o<;>rfl
 rw[e,e,r.length];exact (r.drop _).take _
theorem QB{lo hi:Option Expr}{fl fh:CO}{c:Pos}(h:SE X e fa)(hl:SO X lo fl)(hh:SO X hi fh):SL X (.Subscript e (.Slice lo hi none c) pos) (qB fa fl fh):=
 (Mw QE h hl hh).of λσ H Q h_=>h_.el λρ l st T sr p=>⟨ρ,l,st,T,sr,p.bnd0.imp λd O ρ1 H1 C s1 p1 v rv=>⟨ρ1,l,O,T.mono C,s1,(p1.bnd0.left C).imp λi L ρ2 H2 E s2 c=>⟨ρ2,l,L,(T.mono C).mono E,s2,(c.bnd0.left (C.trans E)).imp λj J ρ3 H3 x3 G Y=>by
  have U:=(rv.mono E).mono x3;have B:=C.trans (E.trans x3);have fin:∀{a:av}{u:List V}{ds:List D},gD X.K H3 a u->bZ X.K ρ3 H3 u ds->aV X.K ρ H (ret (cutD ds i j) J) (λds _ ρ' H'=>∀a u,H a=none->a∉ρ'->H' a=some (.lst u)->bZ X.K ρ' H' u ds->Q (.ref a) H')->E3 X.K (.ref a) i j H3 Q:=λ{a u ds}hs r q=>
   ⟨a,u,rfl,hs,λI g=>by
    have hn:H I=none:=by
     cases z:H I with
     |none=>rfl
     |some o=>exact ba g (B.trk I o z)
    exact q ρ3 _ (B.trans (Ex.new g)) (G.new g) I _ hn (G.fresh g) kq ((bZ.cut r i j).mono (Ex.new g))⟩
  cases U with
  |lit h r=>exact fin h.seq r Y
  |ref _ h=>
   obtain⟨ds,e2,p4⟩:=aV.getL (Y.bnd0.left B) G;obtain⟨a',u,ha,hv,r⟩:=G.seq e2;rw[h]at ha;cases ha;exact fin (gD.of hv) r p4
  |_=>exact Y.elim⟩⟩⟩
end
open PySem.AutoSeq1 (wpAny_loadPart')
theorem PP(l:av)(items:Array ah)(n:Nat)(dct:Option av)(B:Array (Option ah)):
  Meets (Builtin.«enumerate.__new__» ⟨[.type "enumerate",.ref l],[]⟩) (λ_ R s=>s.heap.get? l=some { cls:=.type "tuple",dict:=dct,data:=.seq items n,slots:=B } /\
   R (.ok (.ret (.ref (s.heap.push { cls:=.type "tuple_iterator",data:=.fields #[.ref l,.int 0 0] }).objs.size)))
    { s with heap:=(s.heap.push { cls:=.type "tuple_iterator",data:=.fields #[.ref l,.int 0 0] }).push { cls:=.type "enumerate",data:=.fields #[.none,.bool false,.ref s.heap.objs.size,kL 0,.none,.none] } }):=
 .of_wp λprog w A R s h=>by
  obtain⟨C,g,d,v,os⟩:=s;obtain⟨o,h⟩:=h;have q:=sub_enumerate;have u:ui (uj ⟨C,g,d,v,os⟩) l items:=⟨_,o,rfl,n,rfl⟩
  wp_walk using fB o;refine wpAny_stack_any λst=>aq ?_;split
  ·rename_i c _ _ _ _ _;cases (c == vQ "enumerate")<;>(wp_walk using fB o,ig u;exact⟨_,rfl,h⟩)
  ·wp_walk using fB o,ig u;exact⟨_,rfl,h⟩
section
variable{prog:Program}{w:bG}{A:bB}{E:ah->am->Prop}{s:am}
theorem PX{l:av}{items:Array ah}{Q:ah->am->Prop}(C:s.heap.IsTuple l items)
  (h:∀h',IsEnum h' (s.heap.objs.size+1) s.heap.objs.size 0 .none->h'.IsTupleIter s.heap.objs.size l 0->h'.objs.size=s.heap.objs.size+2->(∀b o,s.heap.get? b=some o->h'.get? b=some o)->Q (.ref (s.heap.objs.size+1)) { s with heap:=h' }):
  aK (bc prog w) A (call (.type "enumerate") [.ref l]) Q E s:=by
 obtain⟨⟨c,dct,G,v⟩,B,g,n,hd⟩:=C
 replace g:c=.type "tuple":=g
 replace hd:G=.seq items n:=hd
 subst g hd;refine callType_new F.called_enumerate (by decide) (F.typeCall_enumerate_1 _) (F.newCall_enumerate_1 _) (λobj=>F.args_object_init_2 obj _) F.entry_enumerate_new (PP l items n dct v) ⟨B,?_⟩;have hz:(s.heap.push { cls:=.type "tuple_iterator",data:=.fields #[.ref l,.int 0 0] }).objs.size=s.heap.objs.size+1:=cF ..
 show _/\_;rw[hz];have u:IsEnum ((s.heap.push { cls:=.type "tuple_iterator",data:=.fields #[.ref l,.int 0 0] }).push { cls:=.type "enumerate",data:=.fields #[.none,.bool false,.ref s.heap.objs.size,kL 0,.none,.none] }) (s.heap.objs.size+1) s.heap.objs.size 0 .none:=by have q:=aC (s.heap.push { cls:=.type "tuple_iterator",data:=.fields #[.ref l,.int 0 0] }) (o:={ cls:=.type "enumerate",data:=.fields #[.none,.bool false,.ref s.heap.objs.size,kL 0,.none,.none] }) rfl;rw[hz]at q;exact q
 exact⟨⟨_,u,rfl⟩,h _ u ⟨_,al _ (aC _ rfl),rfl,rfl⟩ (by rw[cF,hz]) λb o x=>al _ (al _ x)⟩
theorem O5{g l:av}{i:Nat}{items}{x:ah}{Q:ah->am->Prop}(c:s.heap.IsTupleIter g l i)(B:s.heap.IsTuple l items)(v:items[i]?=some x)
  (G:∀h',h'.IsTupleIter g l (i+1)->cJ g s.heap h'->Q x { s with heap:=h' }):aK (bc prog w) A (b_ (.ref g)) Q E s:=by
 obtain⟨o,h,C,hd⟩:=id c;obtain⟨H,q,_,I,u⟩:=B;unfold b_;refine ab (b8 (name:=aG "__next__") c.typeIs iC (cG iC c.typeIs tm ?_ (sQ _)))
 show aK _ _ (uO (.ref g) 0 >>= _) _ _ s;refine ab (cP h hd (x:=.ref l) rfl ?_)
 show aK _ _ (if (bj l == bV)=true then _ else _) _ _ s;rw[aA (show ¬ ((bj l == bV)=true) from bo)]
 show aK _ _ (uO (.ref g) 1 >>= _) _ _ s;refine ab (cP h hd (x:=.int i 0) rfl ?_)
 show aK _ _ (mB (.ref l) >>= _) _ _ s;refine ab (dD q u ?_);simp only[bv,v];refine ab (mN h hd (by simp) (aq ⟨x,rfl,aq (G _ ⟨_,cH _ h (vf (lW hd _)),(xQ ..).trans C,?_⟩ (cg ..))⟩));rw[lW hd];simp[kL]
theorem HA{g l:av}{i:Nat}{items}{Q:ah->am->Prop}(hh:A.handled=none)(c:s.heap.IsTupleIter g l i)(B:s.heap.IsTuple l items)(v:items[i]?=none)
  (C:∀h' e,nV g s.heap h'->(∃o,h'.get? e=some o/\o.cls=.type "StopIteration")->E (.ref e) { s with heap:=h' }):aK (bc prog w) A (b_ (.ref g)) Q E s:=by
 obtain⟨o,q,I,hd⟩:=id c;obtain⟨G,h,_,H,u⟩:=B;unfold b_;refine ab (b8 (name:=aG "__next__") c.typeIs iC (cG iC c.typeIs tm ?_ (sQ _)))
 show aK _ _ (uO (.ref g) 0 >>= _) _ _ s;refine ab (cP q hd (x:=.ref l) rfl ?_)
 show aK _ _ (if (bj l == bV)=true then _ else _) _ _ s;rw[aA (show ¬ ((bj l == bV)=true) from bo)]
 show aK _ _ (uO (.ref g) 1 >>= _) _ _ s;refine ab (cP q hd (x:=.int i 0) rfl ?_)
 show aK _ _ (mB (.ref l) >>= _) _ _ s;refine ab (dD h u ?_);simp only[bv,v];refine ab (ie (ab (mN q hd (by simp) ?_)));show aK _ _ (xx (.type "StopIteration") [] >>= _) _ _ _;refine ab ?_;simp only[xx,zE];refine ab (bK ?_ (by size_fits));refine ab (m:=kQ _ _) (m6 (a:=bV) (by first|rfl|(simp only[kQ];rfl)) (bK ?_ (by size_fits)));simp only[raiseNew];refine ab (vX ?_);first|rw[show A.in1.handled=none from hh]|rw[hh]
 exact ab (aq (zF (C _ _ (((cg ..).extBut.push _).push _) ⟨_,aC _ rfl,rfl⟩)))
end
theorem WN{prog:Program}{w:bG}{A:bB}(hh:A.handled=none)(c l:av)(u:l≠c)(items:Array ah):
  Draws prog w A c [c,l] items.size (λi v=>items[i]?=some v) (λi h=>h.IsTupleIter c l i/\h.IsTuple l items) where
 live:=λ_ _ st=>let ⟨o,ho,_⟩:=st.1;⟨o,ho⟩
 frame:=λ_ _ _ st B=>⟨let ⟨o,e,r⟩:=st.1;⟨o,B c (by simp) o e,r⟩,let ⟨o,e,r⟩:=st.2;⟨o,B l (by simp) o e,r⟩⟩
 item:=λi s Q E C st G=>O5 st.1 st.2 (x:=items[i]) (by simp[C]) λh' q g=>G _ h' s.toks (by simp[C]) ⟨q,st.2.extBut g.extBut u⟩ g
 done:=λs Q E st H=>HA hh st.1 st.2 (by simp) H
def K9(K:ak)(a:av):It:=
 ⟨λi H=>∃xs x,iR K H a xs/\xs[i]?=some x,λi H x c=>∃T v,x=.ref T/\H T=none/\(∀xs,iR K H a xs->xs[i]?=some v)/\c=fq H T (.tup [.int i,v]),λi H=>∃xs,iR K H a xs/\xs.length<=i⟩
section
variable{X:Cx}{tg:Expr}{es:List Expr}{pos:Pos}{fa:CE}{K:ak}{ρ:List av}{H:Hp}{st:a_}
theorem P0{P:Program}{w:bG}{k:Nat}(a e B:av)(hei:e≠B):rm P w K (.Tuple es k pos) (K9 K a) [e,B] e (λi h=>(∃old,IsEnum h e B i old)/\h.IsTupleIter B a i) where
 mem:=by simp
 obj:=λi h pq89 b L=>by
  obtain⟨⟨old,J⟩,l⟩:=pq89;rcases bb.mp L with z|z
  ·subst z;exact⟨_,J,λv q=>by cases q⟩
  ·have z':b=B:=by simpa using z
   subst z';obtain⟨o,e,c,d⟩:=l;exact⟨o,e,λv q=>by rw[d]at q;cases q⟩
 keep:=λi h h' pq90 kp=>by obtain⟨⟨old,J⟩,l⟩:=pq90;exact⟨⟨old,kp e (by simp) _ J⟩,let ⟨o,x,r⟩:=l;⟨o,kp B (by simp) o x,r⟩⟩
 item:=by
  intro X hP hw hK hc i O s σ H E I hf pq157 hg;obtain⟨⟨old,J⟩,l⟩:=pq157;subst hP hw hK;obtain⟨xs,x,hq,hx⟩:=hg;obtain⟨its,rv,p,hz⟩:=I.tuple hq;obtain⟨u,hu,ru⟩:=rv.get hx;have hlt:i < its.toArray.size:=by rw[aH];exact (ac.mp hu).1
  obtain⟨f0,f1,f2,f3,f4,f5⟩:=hf e (by simp);obtain⟨g0,g1,g2,g3,g4,g5⟩:=hf B (by simp);have hai:a≠B:=λz=>by obtain⟨o,G,c,_⟩:=l;obtain⟨o',e2,c',_⟩:=p;rw[z,G]at e2;cases e2;rw[c]at c';exact ba (mV c') (by decide)
  have hae:a≠e:=λz=>by obtain⟨o',e2,c',_⟩:=p;rw[z,J]at e2;cases e2;exact ba (mV c') (by decide)
  have D:=WN (prog:=X.prog) (w:=X.w) (A:=X.A.in1) (I.ok.hd hc) B a hai its.toArray;refine wpAny_pyNext_enum_itemD D J ⟨l,p⟩ hlt hei (by simp;exact⟨hei,hae.symm⟩) λy h' tk hP ho hst hT hsz hk=>?_;have ey:y=u:=by
   have:its.toArray[i]?=some u:=by simpa using hu
   rw[this]at hP;cases hP;rfl
  subst ey;refine⟨_,rfl,uP ho λh2 he2 hs2=>?_⟩;have Q:e < s.heap.objs.size:=aJ J;have C:H s.heap.objs.size=none:=I.hok.fresh (ar _);have keep:∀b o,b≠e->b≠B->s.heap.get? b=some o->h2.get? b=some o:=λb o hb1 hb2 G=>(hs2.2 b hb1).trans (hk b o hb1 hb2 G);have hT2:h2.get? s.heap.objs.size=some { cls:=.type "tuple",data:=.seq #[.int i tk,y] }:=(hs2.2 _ (df Q)).trans hT;have I2:Inv X O σ (fq H s.heap.objs.size (.tup [.int i,x])) { s with heap:=h2,toks:=tk+1 }:=by
   have ne:∀b o,H b=some o->b≠e/\b≠B:=λb o q=>⟨λz=>(by rw[z,f0]at q;cases q),λz=>(by rw[z,g0]at q;cases q)⟩
   refine I.step (g':=s.gens) (d':=s.drawn) (ch:=[e,B]) (λb L=>?_) (λb o _ _ g G _=>keep b o (λz=>g (by simp[z])) (λz=>g (by simp[z])) G)
    (λb o _ _ g G _=>⟨o.slots,keep b o (λz=>g (by simp[z])) (λz=>g (by simp[z])) G⟩) (λb o g G n1=>by rw[fI (bA (aJ G))];exact n1) (λb o g G=>⟨o,keep b o (λz=>g (by simp[z])) (λz=>g (by simp[z])) G⟩)
    (λb ys q=>by rw[fI (nA q C)];exact q) (λb o ys q=>by rw[fI (nA q C)];exact q) (λb ps q=>⟨#[],by rw[fI (nA q C),q];simp⟩) (λm hm=>?_) ?_ I.bare
   ·rcases bb.mp L with z|z
    ·subst z;exact⟨f3,f1,f4,f5⟩
    ·have z':b=B:=by simpa using z
     subst z';exact⟨g3,g1,g4,g5⟩
   ·obtain⟨o,c,ep,G,r⟩:=hm;exact⟨o,c,ep,keep _ o f1.symm g1.symm G,r⟩
   ·intro b o q;by_cases L:b=s.heap.objs.size
    ·subst L;rw[kq]at q;cases q;exact⟨by show 2<=sizeLine;decide,[.int i tk,y],.cons ⟨tk,rfl⟩ (.cons ru .nil),⟨_,hT2,rfl,⟨_,rfl⟩,rfl⟩⟩
    ·rw[fI L]at q;have:=ne b o q;refine (I.hok b o q).stay (λc v g r=>keep c v ?_ ?_ r) (λc U=>by rw[fI (nA U C)];exact U) λc ys U=>by rw[fI (nA U C)];exact U
     ·rcases g with z|z
      ·rw[z];exact this.1
      ·exact (ne c _ z).1
     ·rcases g with z|z
      ·rw[z];exact this.2
      ·exact (ne c _ z).2
  refine⟨.ref s.heap.objs.size,_,I2,rfl,⟨_,x,rfl,C,λys hy=>by rw[I.tuple_inj hy hq];exact hx,rfl⟩,⟨⟨y,by simpa using he2⟩,let ⟨o,x1,r⟩:=hst.1;⟨o,(hs2.2 B hei.symm).trans x1,r⟩⟩,λb L=>?_⟩;rw[fI]
  ·exact (hf b L).1
  ·intro z;have:b < s.heap.objs.size:=by
    rcases bb.mp L with q|q
    ·rw[q];exact Q
    ·have U:b=B:=by simpa using q
     rw[U];obtain⟨o,x1,_⟩:=l;exact aJ x1
   exact ba this (by rw[z];exact bM _)
 done:=by
  intro X hP hw hK hc i O s σ H E I hf Y hg;obtain⟨⟨old,J⟩,l⟩:=Y;subst hP hw hK;obtain⟨xs,hq,hx⟩:=hg;obtain⟨its,rv,p,hz⟩:=I.tuple hq;obtain⟨g0,g1,g2,g3,g4,g5⟩:=hf B (by simp);have hl:=rv.length;have hT:s.TypeIs (.ref e) "enumerate":=⟨_,J,rfl⟩
  unfold ko;refine ab (i8 (b8 (name:=aG "__next__") hT wo (cG wo hT F.entry_enumerate_next ?_ (F.args_enumerate_next_1 _))))
  show aK _ _ (uO (.ref e) 2 >>= _) _ _ _;refine ab (cP J rfl (x:=.ref B) rfl ?_);refine ab (HA (A:=X.A.in1) (I.ok.hd hc) l p (by simp;ext) λh' x he' pq91=>?_);obtain⟨o,ho,g⟩:=pq91;exact ab (eX (T:="StopIteration") (b:=true) ⟨o,ho,g⟩ pj (aq ⟨rfl,I.turned (t':=s.toks) (λb o L e=>he' b o L e) g0 g1 g3 g4 g5⟩))
 self:=λ_ _ _ _ _ pq92 h=>by obtain⟨⟨old,J⟩,_⟩:=pq92;exact m7 J h
theorem V3{b : Expr}{p G : Pos}{k : Nat}(hg : Gl X "enumerate")(hm : X.mg "enumerate" = none)(h : SE X b fa)(hs : aF [b] X.env = [(false, eval b X.env)] := by rfl):
  SI X (.Tuple es k G) (.Call (.Name "enumerate" p) [b] [] pos) (tP fa):=by
 intro g s σ H R I o;obtain⟨ρ,l,st,lr,sr,q⟩:=o;refine Call_ (wZ I hg hm boot_enumerate (cq (fS (GP h G_ hs pos g s σ H (λY C=>∃a xs,Y=[.ref a]/\iR X.K C a xs/\R (K9 X.K a) C) I ⟨ρ,l,st,lr,sr,?_⟩) λus c ⟨Y,C,U,r1,q1⟩=>?_) hs rfl))
 ·have E:=aV.bnd q
  show aV X.K ρ H (MM.bnd (fa l) _ st) _;unfold MM.bnd;cases e:fa l st with
  |bad=>rw[e]at E;exact E
  |exc _ _=>rw[e]at E;exact E
  |ok d ec=>
   rw[e]at E
   show ∀ρ' H',Ex ρ H ρ' H'->SR X.K ρ' H' ec->_;intro ρ1 C x1 c Y rvs;have Q:=E ρ1 C x1 c;cases rvs with
   |cons O rt=>
    cases rt;cases O with
    |@tup a ws ds ht r=>
     refine⟨a,ws,rfl,ht,Q.ret c _ ?_⟩;intro ρ2 H2 st2 x2 s2 _;have U:=r.length;have B:iR X.K H2 a ws:=iR.mono x2.up ht;have len:((ir 0 ds.length).zipWith (λi d=>D.tup [i,d]) ds).length=ds.length:=by simp[ir]
     refine⟨⟨ws,B,by rw[len,U];exact ar _⟩,λi d h=>?_⟩;have g:i < ds.length:=by rw[<- len];exact (ac.mp h).1
     have ed:d=.tup [.int i,ds[i]]:=by rw[fH,ir,aj,gB g,ag g]at h;have:=aN h;rw[<- this];simp
     subst ed;obtain⟨v,u,O⟩:=(r.mono x2).get (ag g);refine⟨⟨ws,v,B,u⟩,λy H3 J=>?_⟩;obtain⟨T,w,ey,G,L,eH⟩:=J;subst ey eH;have I:=L ws B;rw[u]at I;cases I;have o:Ex ρ2 H2 ρ2 (fq H2 T (.tup [.int i,v])):=Ex.new G;exact⟨o,s2.new G,.tup (iR.of kq) (.cons (.int _) (.cons (O.mono o) .nil))⟩
    |_=>exact Q.elim
 ·obtain⟨a,xs,e,B,G⟩:=q1;subst e;obtain⟨u,rfl,q⟩:=uI r1;cases q;obtain⟨its,O,Q,hz⟩:=U.tuple B;refine PX Q λh' l h hsz v=>m7 l ?_;have H:Inv X g σ C { c with heap:=h' }:=U.kept (t':=c.toks) v;refine⟨c.heap.objs.size+1,[c.heap.objs.size+1,c.heap.objs.size],_,K9 X.K a,C,rfl,H,P0 a (c.heap.objs.size+1) c.heap.objs.size (zG _),⟨⟨_,l⟩,h⟩,λb E=>?_,G⟩;have L:c.heap.objs.size<=b:=by
   rcases bb.mp E with z|z
   ·rw[z];exact mC _
   ·have o:b=c.heap.objs.size:=by simpa using z
    rw[o];exact ar _
  exact U.fpOk L (U.hok.fresh L)
end
section
variable{X:Cx}{K:ak}{ρ:List av}{H:Hp}{st:a_}
theorem Wj:OpR X (dg .Is) (pV X.K va):=by
 intro l s σ H x y v u Q I q o g;obtain⟨ρ,st,d,e,c,C,B,p⟩:=g;cases e with
 |non=>
  cases B.inv;refine PU l s σ H x .non v u Q I q o ⟨rfl,?_⟩;cases C with
  |non=>exact p.ret c _ (.bl true)
  |bl b=>exact p.ret c _ (.bl false)
  |int b=>exact p.ret c _ (.bl false)
  |str b=>exact p.ret c _ (.bl false)
  |tup h r=>exact p.ret c _ (.bl false)
  |lit h r=>exact p.ret c _ (.bl false)
  |ref _ h=>exact p.ret c _ (.bl false)
  |dic _ h=>exact p.ret c _ (.bl false)
  |exn0 _ h=>exact p.ret c _ (.bl false)
  |exn _ h _ _=>exact p.ret c _ (.bl false)
 |bl b=>
  cases d with
  |bl a=>
   cases C.inv;cases B.inv;cases (show v=cS a from q);cases (show u=cS b from o);refine wpAny_is_plain rfl ⟨.bl (a == b),H,I,?_,p.ret c _ (.bl _)⟩;cases a<;>cases b<;>rfl
  |_=>exact p.elim
 |_=>cases d<;>exact p.elim
theorem R_:OpR X (dg .IsNot) (pV X.K nQ):=by
 intro l s σ H x y v u Q I q o g;obtain⟨ρ,st,d,e,c,C,B,p⟩:=g;cases e with
 |non=>
  cases B.inv;refine YK l s σ H x .non v u Q I q o ⟨rfl,?_⟩;cases C with
  |non=>exact p.ret c _ (.bl false)
  |bl b=>exact p.ret c _ (.bl true)
  |int b=>exact p.ret c _ (.bl true)
  |str b=>exact p.ret c _ (.bl true)
  |tup h r=>exact p.ret c _ (.bl true)
  |lit h r=>exact p.ret c _ (.bl true)
  |ref _ h=>exact p.ret c _ (.bl true)
  |dic _ h=>exact p.ret c _ (.bl true)
  |exn0 _ h=>exact p.ret c _ (.bl true)
  |exn _ h _ _=>exact p.ret c _ (.bl true)
 |bl b=>
  cases d with
  |bl a=>
   cases C.inv;cases B.inv;cases (show v=cS a from q);cases (show u=cS b from o);refine wpAny_isNot_plain rfl ⟨.bl (!(a == b)),H,I,?_,p.ret c _ (.bl _)⟩;cases a<;>cases b<;>rfl
  |_=>exact p.elim
 |_=>cases d<;>exact p.elim
theorem Gq{v:V}{d:D}(r:dN K ρ H v d)(h:kz d=true):nT v=true:=by cases r<;>first|rfl|cases h
theorem F8:∀{c:List V}{ds:List D},bZ K ρ H c ds->ds.all kz=true->c.all nT=true
 |_,_,.nil,_=>rfl
 |_,_,.cons r t,h=>by rw[cQ,bU]at h;rw[cQ,bU];exact⟨Gq r h.1,F8 t h.2⟩
theorem RY{v w:V}{d e:D}(r:dN K ρ H v d)(q:dN K ρ H w e)(h:kz d=true)(h':kz e=true):yN v w=tV d e:=by cases r<;>first|(cases q<;>first|rfl|cases h')|cases h
theorem Gf{w:V}{e:D}(q:dN K ρ H w e)(h':kz e=true):∀{c:List V}{ds:List D},bZ K ρ H c ds->ds.all kz=true->GR w c=ds.any λd=>tV d e
 |_,_,.nil,_=>rfl
 |_,_,.cons r t,h=>by rw[cQ,bU]at h;have:=Gf q h' t h.2;unfold GR at this ⊢;rw[d8,d8,this,RY r q h.1 h']
theorem aV.hasK{n:Nat}{k:D}{R:Bool->a_->List av->Hp->Prop}(h:aV K ρ H (MM.hasK n k st) R)(s:SR K ρ H st):∃b c,st[n]?=some (.dct b c)/\m_ b k=true/\R (lN c k).isSome st ρ H:=by obtain⟨b,c,e,l⟩:=aV.getDc (aV.bnd h) s;obtain⟨o,g⟩:=aV.chk l;exact⟨b,c,e,o,g.ret s⟩
theorem _root_.L2.OpR.orO{f:ah->ah->Sem ah}{r o:R2}(h:OpR X f r)(h':OpR X f o):OpR X f (λx y H Q=>r x y H Q\/o x y H Q):=by
 intro c s σ H x y v u Q I l g q;rcases q with q|q
 ·exact h c s σ H x y v u Q I l g q
 ·exact h' c s σ H x y v u Q I l g q
theorem Vg(hu:X.A.units+60 < cC):OpR X (dg .NotIn) (λx y H Q=>∃(ρ:List av)(st:a_)(n:Nat)(a:av)(b:Bool)(g:List (D×D))(k:D),y=.ref a/\SR X.K ρ H st/\ρ[n]?=some a/\st[n]?=some (.dct b g)/\dN X.K ρ H x k/\m_ b k=true/\Q (.bl (!(lN g k).isSome)) H):=by intro h s σ H x y v u Q I B o c;obtain⟨ρ,st,n,a,b,g,k,e,l,J,E,C,G,q⟩:=c;subst e;cases o;exact Ql (by ext) I (l.ob n a _ J E) C G B λO L=>⟨.bl _,H,L,rfl,q⟩
theorem Yq(hu:X.A.units+60 < cC):OpR X (dg .NotIn) (pV X.K mX):=(Yv.orO (Vg hu)).of λx y H Q g=>by
 obtain⟨ρ,st,d,e,c,u,L,p⟩:=g;have fin:∀{a:av}{l:List V}{ds:List D}(C:gD X.K H a l\/iR X.K H a l)(r:bZ X.K ρ H l ds)(o:aV X.K ρ H (wH d ds st) λr _ ρ' J=>∀v,dN X.K ρ' J v r->Q v J),Lc X.K true x (.ref a) H Q:=λC r o=>by obtain⟨⟨I,G⟩,O⟩:=aV.chk o;refine⟨_,_,rfl,C,Gq u I,F8 r G,?_⟩;rw[aE rfl,Gf u I r G];exact O.ret c _ (.bl _)
 cases L with
 |tup h r=>exact .inl (fin (.inr h) r ((aV.bnd p).ret c))
 |lit h r=>exact .inl (fin (.inl h.seq) r ((aV.bnd p).ret c))
 |ref _ h=>
  obtain⟨ds,Y,o⟩:=aV.getL (aV.bnd p) c;obtain⟨a',l,E,T,r⟩:=c.seq Y;rw[h]at E;cases E;exact .inl (fin (.inl (gD.of T)) r o)
 |@dic a n _ h=>
  obtain⟨b,B,e1,U,q⟩:=aV.hasK (aV.bnd p) c;exact .inr ⟨ρ,st,n,a,b,B,d,rfl,c,h,e1,u,U,(q.ret c) _ (.bl _)⟩
 |_=>exact (show False from p).elim
theorem Tk:DU X (De .USub) (v_ X.K tw):=by
 intro g s σ H x v Q I l c;obtain⟨ρ,st,d,h,o,p⟩:=c;cases o with
 |int i=>exact MT g s σ H _ v Q I l ⟨i,rfl,p.ret h _ (.int _)⟩
 |_=>exact p.elim
end
section
variable{X:Cx}{a b c e o tg:Expr}{es:List Expr}{pos dr cx:Pos}{fa fb fc:CE}{ca cb:CA}{ta tb:CT}{K:ak}{ρ:List av}{H:Hp}{st:a_}{x:Str}{p:Pos}{T id:String}{body:List gM}{cs:CS}
theorem X5{op:UnaryOp}{g:D->M D}(G:DU X (De op) (v_ X.K g))(I:SE X a fa):SE X (.UnaryOp op a pos) (c1 g fa):=
 (N5 G I).of λσ H Q J=>J.el λρ l st E q p=>⟨ρ,l,st,E,q,p.bnd.imp λd h ρ1 O L u C v B=>⟨ρ1,h,d,u,B,C⟩⟩
theorem V6(B:SE X a fa)(hb:SL X b cb)(hm:gO .In b=false):SE X (.Compare a [.In] [b] pos) (pb zX fa cb):=
 (OQ Pl B hb hm).of λσ H Q h_=>h_.el λρ l st u L p=>⟨ρ,l,st,u,L,p.bnd.imp λd h ρ1 H1 I U T v Y=>⟨ρ1,l,h,u.mono I,U,T.bnd.imp λds J ρ2 H2 G O o a vs B na hv g=>by obtain⟨⟨E,C⟩,c⟩:=aV.chk o;have q:=Y.mono G;refine⟨_,_,rfl,.inl (gD.of hv),Gq q E,F8 g C,?_⟩;rw[aA (by simp),Gf q E g C];exact c.ret O _ (.bl _)⟩⟩
theorem U8(C:SE X a fa)(hb:SL X b cb)(hm:gO .In b=false):ST X (.Compare a [.In] [b] pos) (cA (pb zX fa cb)):=
 (MP Pl C hb hm).of λσ H Q h_=>h_.el λρ l st B O p=>⟨ρ,l,st,B,O,p.bnd.bnd.imp λd h ρ1 H1 J U T v Y=>⟨ρ1,l,h,B.mono J,U,T.bnd.imp λds L ρ2 H2 I q o a vs C na hv g=>by obtain⟨⟨G,E⟩,c⟩:=aV.chk o;have u:=Y.mono I;refine⟨_,_,rfl,.inl (gD.of hv),Gq u G,F8 g E,?_⟩;rw[aA (by simp),Gf u G g E];exact⟨_,rfl,(c.ret q).ret q⟩⟩⟩
theorem S0:CallR X (.type "list") (λxs H Q=>∃v,xs=[v]/\v_ X.K t6 v H Q):=Xe.of λxs H Q B=>by
 obtain⟨v,e,ρ,st,d,u,J,p⟩:=B;have fin:∀{ds:List D}{q:List V}{l:av}(r:bZ X.K ρ H q ds)(g:H l=none)(C:aV X.K ρ H (alloc (.lst ds) st) λr _ ρ' G=>∀v,dN X.K ρ' G v r->Q v G),Q (.ref l) (fq H l (.lst q)):=λ{ds q l}r g C=>by have L:=u.fresh g;have I:SR X.K (ρ++[l]) (fq H l (.lst q)) (st++[.lst ds]):=(u.new g).keep kq L (r.mono (Ex.new g));refine C _ _ (Ex.newL g) I _ (.ref ⟨_,kq,rfl⟩ ?_);rw[<- u.len];simp
 cases J with
 |@tup a q ds h r=>exact⟨a,q,e,.inr h,λl g=>fin r g ((aV.bnd p).ret u)⟩
 |@lit a q ds h r=>exact⟨a,q,e,.inl h.seq,λl g=>fin r g ((aV.bnd p).ret u)⟩
 |@ref a n _ h=>
  obtain⟨ds,U,C⟩:=aV.getL (aV.bnd p) u;obtain⟨Y,q,E,O,r⟩:=u.seq U;rw[h]at E;cases E;exact⟨a,q,e,.inl (gD.of O),λl g=>fin r g C⟩
 |_=>exact (aV.bnd p).elim
theorem Lh{g : D -> D -> M D}(hc : CallR X (.builtin id) (λxs H Q => ∃v w, xs = [v, w] /\ pV X.K g v w H Q))(hg : Gl X x)(hm : X.mg x = none)(hv : cI x = some (.builtin id))(ha : SE X a fa)(hb : SE X b fb)(hn : x ≠ "__name__" := by decide)(G : (x == ("__debug__" : Str)) = false := by decide)
  (h:aF [a,b] X.env=(false,eval a X.env)::aF [b] X.env:=by rfl) (E:aF [b] X.env=(false,eval b X.env)::aF [] X.env:=by rfl) (C:(eI pos (aF [b] X.env)).any (λx=>x.fst)=false:=by rfl):SE X (.Call (.Name x p) [a,b] [] pos) (c2 g fa fb):=
 (GV hc hg hm hv (rX ha (rX hb u_ E) h) hn G h C).of λσ H Q h_=>h_.el λρ l st I O p=>⟨ρ,l,st,I,O,p.bnd.imp λd u ρ1 H1 L Y T v c=>⟨ρ1,l,u,I.mono L,Y,T.bnd.imp λe q ρ2 H2 J U o w B=>⟨v,w,rfl,ρ2,q,d,e,U,c.mono J,B,o⟩⟩⟩
theorem Xd(u:X.calm=true):CallR X (.builtin "min") (λxs H Q=>∃v w,xs=[v,w]/\pV X.K u8 v w H Q):=(TF u).of λxs H Q g=>by
 obtain⟨v,w,e,ρ,st,C,B,h,q,l,p⟩:=g;cases q with
 |int i=>
  cases l with
  |int j=>
   refine⟨i,j,e,?_⟩;have:(if j < i then j else i)=min i j:=by ext
   rw[this];exact p.ret h _ (.int _)
  |_=>exact p.elim
 |_=>exact p.elim
theorem Xc(ho:SE X o fa)(q:dh o "pop" X.env (eval o X.env)=eval o X.env:=by rfl)(g:(dr.endLine == cx.line)=true:=by rfl):SE X (.Call (.Attribute o "pop" dr) [] [] cx) (tH fa):=
 (Tw mr PySem.F.slot_list_pop PySem.F.type_list_pop XU ho q g).of λσ H Q h_=>h_.el λρ l st lr T p=>⟨ρ,l,st,lr,T,p.bnd.imp λd c ρ1 H1 x1 C U v rv=>by
  cases rv with
  |@ref a n _ h=>
   obtain⟨ds,J,u⟩:=aV.getL (aV.bnd U) C;obtain⟨a',B,Y,G,r⟩:=C.seq J;rw[h]at Y;cases Y;cases I:ds.getLast? with
   |none=>rw[I]at u;exact u.elim
   |some d=>
    rw[I]at u;have hl:=(ac.mp J).1;have e4:ds[ds.length-1]?=some d:=by rw[<- List.getLast?_eq_getElem?];exact I
    obtain⟨y,hy,ry⟩:=r.get e4;have rd:bZ X.K ρ1 H1 B.dropLast ds.dropLast:=by rw[uQ,uQ,r.length];exact r.take _
    obtain⟨O,L⟩:=C.put hl h G rd;refine⟨.inl ⟨rfl,B,gD.of G⟩,a,B,y,rfl,rfl,G,by rw[r.length];exact hy,?_⟩;have E:=aV.bnd u;unfold putL at E;rw[J]at E;exact (E ρ1 _ L O).ret O _ (ry.mono L)
  |_=>exact U.elim⟩
theorem bZ.rev:∀{g:List V}{ds:List D},bZ K ρ H g ds->bZ K ρ H g.reverse ds.reverse
 |_,_,.nil=>.nil
 |_,_,.cons r t=>by rw[fT,fT];exact bZ.app (bZ.rev t) (.cons r .nil)
theorem U_{p : Pos}(hg : Gl X "range")(hm : X.mg "range" = none)(h : SE X a fa)(h' : SE X b fb)(G : aF [a, b] X.env = (false, eval a X.env) :: aF [b] X.env := by rfl)(E : aF [b] X.env = (false, eval b X.env) :: aF [] X.env := by rfl)
  (hs:aF [a,b] X.env=[(false,eval a X.env),(false,eval b X.env)]:=by rfl) (C:aF [b] X.env=[(false,eval b X.env)]:=by rfl):SI X tg (.Call (.Name "range" p) [a,b] [] pos) (MM.ng fa fb):=
 (Xz (tg:=tg) (p:=p) (pos:=pos) hg hm (rX h (rX h' u_ E) G) hs C).of λσ H R h_=>h_.el λρ l st I Q p=>⟨ρ,l,st,I,Q,p.bnd.imp λd q ρ1 H1 L Y T v c=>⟨ρ1,l,q,I.mono L,Y,T.bnd.imp λe O ρ2 H2 J U B w g=>by
  have u:=c.mono J;cases u with
  |int i=>
   cases g with
   |int j=>
    obtain⟨⟨⟨h1,h2⟩,h3,h4⟩,o⟩:=aV.chk B;exact⟨i,j,rfl,⟨h1,h2,h3,h4⟩,o.ret U _ Nu⟩
   |_=>exact B.elim
  |_=>cases g<;>exact B.elim⟩⟩
theorem QD(hp:sN (bc X.prog X.w) X.A X.env X.xe)(hc:ST X c ta)(hb:w9 X body cs):SS X (.While c body [] pos) (iJ ta cs):=(S8 hp hc hb).of λG σ H h_=>h_.el λρ l st lr sr p=>by
 unfold iJ at p;by_cases h:∃n,∀r,eW ta cs n l st=r->r≠.bad
 ·rw[dif_pos h]at p;generalize i9 h=n at p;refine⟨λm σ H=>∃ρ l st,LR X.K ρ H σ l/\SR X.K ρ H st/\aV X.K ρ H (eW ta cs m l st) λf _ ρ' g=>match f with
   | .next l'=>∀σ',LR X.K ρ' g σ' l'->G.nx σ' g
   | .ret d=>∀v,dN X.K ρ' g v d->G.rt v g
   | .brk l'=>∀σ',LR X.K ρ' g σ' l'->G.bk σ' g
   | .cnt l'=>∀σ',LR X.K ρ' g σ' l'->G.ct σ' g,⟨n,ρ,l,st,lr,sr,p⟩,?_⟩
  intro m σ1 H1 u;obtain⟨ρ1,c,O,B,Q,T⟩:=u;cases m with
  |zero=>exact T.elim
  |succ m=>
   refine⟨ρ1,c,O,B,Q,(aV.bnd T).imp λk L ρ2 H2 U Y o=>?_⟩;cases k with
   |false=>exact o.ret Y _ (B.mono U)
   |true=>
    refine⟨λσ' g=>∃ρ l st,LR X.K ρ g σ' l/\SR X.K ρ g st/\aV X.K ρ g (eW ta cs m l st) _,λσ' g q=>⟨m,kP m,q⟩,ρ2,c,L,B.mono U,Y,(aV.bnd o).imp λf E ρ3 H3 x3 I J=>?_⟩;cases f with
    |next l'=>exact λσ' C=>⟨ρ3,l',E,C,I,J⟩
    |ret d=>exact J.ret I
    |brk l'=>exact J.ret I
    |cnt l'=>exact λσ' C=>⟨ρ3,l',E,C,I,J⟩
 ·rw[dif_neg h]at p;exact p.elim
end
theorem PH(its:List ah):wk its.toArray none none (some (-1))=its.reverse.toArray:=by
 unfold wk;have e:sliceRange (fJ none none (some (-1)) its.toArray.size).1 (fJ none none (some (-1)) its.toArray.size).2.1 (fJ none none (some (-1)) its.toArray.size).2.2=(bH its.toArray.size).map λk=>its.toArray.size-1-k:=picked_rev its.toArray.size;rw[e];congr 1;rw[aH];have key:∀n,n<=its.length->((bH n).map λk=>its.length-1-k).filterMap (λi=>its.toArray[i]?)=(its.drop (its.length-n)).reverse:=by
  intro n
  induction n with
  |zero=>intro _;simp
  |succ n ih=>
   intro l;rw[fQ,aO,List.filterMap_append,ih (by ext)];have c:its.length-1-n < its.length:=by ext
   have:its.drop (its.length-(n+1))=its[its.length-1-n]::its.drop (its.length-n):=by
    have h:its.length-(n+1)=its.length-1-n:=by ext
    have g:its.length-n=its.length-1-n+1:=by ext
    rw[h,g];exact bR c
   rw[this,fT];congr 1;simp[c]
 have:=key its.length (ar _);rw[eK,nW]at this;exact this
section
variable{X:Cx}{e st:Expr}{pos p2 p3 p4:Pos}{fa:CE}{te:TE}{j:Nat}
def Fx(K:ak):V->Hp->VK->Prop:=λx H Q=>∃a xs,x=.ref a/\gD K H a xs/\∀p,H p=none->Q (.ref p) (fq H p (.lst xs.reverse))
theorem RV(he:PE X e te):PE X (.Subscript e (.Slice none none (some (.UnaryOp .USub (.Constant (.int 1) j p3) p4)) p2) pos) (λσ H Q=>te σ H λx B=>Fx X.K x B Q):=by
 intro c s σ H Q I h;refine Cs (fS (he c s σ H _ I h) λv O u=>?_);obtain⟨x,B,I1,T,U⟩:=u;refine wpAny_Slice ?_;rw[vU];refine aq (aq ?_);have C:PE X (.UnaryOp .USub (.Constant (.int 1) j p3) p4) (Pp (rU λi=>.int (-i)) (tC (.int 1))):=N5 MT Nl;refine fS (OF C c O σ B (λo H'=>o=some (-1)/\H'=B) I1 ⟨1,rfl,-1,rfl,rfl,rfl⟩) λG g l=>?_;obtain⟨o,H2,I2,Y,eo,eH⟩:=l;subst eo eH;obtain⟨a,xs,rfl,hx,q⟩:=U;cases T;have E:Inv X c σ H2 { g with heap:=g.heap.push { cls:=.type "slice",data:=.fields #[.none,.none,G] } }:=I2.kept (t':=g.toks) λb ob q=>al _ q;obtain⟨its,r,J,hz⟩:=E.list hx;have L:=r.length
 show aK (bc X.prog X.w) X.A (vV e _ (.ref a) (.ref g.heap.objs.size)) (EP X c σ Q) X.xe { g with heap:=g.heap.push { cls:=.type "slice",data:=.fields #[.none,.none,G] } };refine zB (ops:=[.ref a,.ref g.heap.objs.size]) J.isList.typeIs rM.lookup ?_ (by with_unfolding_all rfl);refine vW J.isList (qX ..) .none .none Y (by simp) ?_ (by rw[aH]<;>ext);rw[PH];refine⟨.ref _,_,E.laid (t':=g.toks) (o:=.lst xs.reverse) (λb ob q=>al _ q) (ar _) ?_,rfl,q _ (E.hok.fresh (ar _))⟩;exact⟨by rw[gC];exact hz,_,0,r.reverse,aC _ rfl⟩
theorem PF(h:SE X e fa):SL X (.Subscript e (.Slice none none (some (.UnaryOp .USub (.Constant (.int 1) j p3) p4)) p2) pos) (tM fa):=
 (RV h).of λσ H Q U=>U.el λρ l st L I p=>⟨ρ,l,st,L,I,p.bnd0.imp λd G ρ1 H1 u g B v J=>by
  cases J with
  |@ref a n _ h=>
   obtain⟨ds,Y,p2⟩:=aV.getL (B.bnd0.left u) g;obtain⟨a',E,C,O,r⟩:=g.seq Y;rw[h]at C;cases C;refine⟨a,E,rfl,gD.of O,λq c=>?_⟩;have T:H q=none:=by
    cases z:H q with
    |none=>rfl
    |some o=>exact ba c (u.trk q o z)
   exact p2 ρ1 _ (u.trans (Ex.new c)) (g.new c) q _ T (g.fresh c) kq ((bZ.rev r).mono (Ex.new c))
  |_=>exact B.elim⟩
theorem QA{lo I:Option Expr}{J L:CO}{p2:Pos}(h:SE X e fa)(hl:SO X lo J)(hh:SO X I L):SE X (.Subscript e (.Slice lo I none p2) pos) (nz fa J L):=
 (Mw Ul h hl hh).of λσ H Q h_=>h_.el λρ l st B U p=>⟨ρ,l,st,B,U,p.bnd.imp λd g ρ1 H1 G s1 p1 v rv=>⟨ρ1,l,g,B.mono G,s1,p1.bnd.imp λi c ρ2 H2 E s2 p2=>⟨ρ2,l,c,(B.mono G).mono E,s2,p2.bnd.imp λj T ρ3 H3 O Y p3=>by
  have u:=(rv.mono E).mono O;have e:∀n d o,HT.gY n d o=MM.gY n d o:=λn d o=>by cases o<;>rfl
  cases u with
  |@tup a vs ds h r=>
   obtain⟨hw,p4⟩:=aV.chk p3;exact⟨a,vs,rfl,h,by rw[e,e,r.length];exact hw,λq C=>p4 ρ3 _ (Ex.new C) (Y.new C) _ (.tup (iR.of kq) ((bZ.cut r i j).mono (Ex.new C)))⟩
  |_=>exact p3.elim⟩⟩⟩
end
end MM
namespace MM
open PySem
def rZ{α:Type}(n:Nat)(f:Nat->Nat->Bool):zH α->Option α
 | .ret a=>some a
 | .ask i j k=>if i < n/\j < n then rZ n f (k (f i j)) else none
def qC:List D->Option (List (List Int))
 |[]=>some []
 | .tup xs::ds=>match iX xs,qC ds with
  |some ns,some rs=>some (ns::rs)
  |_,_=>none
 |_=>none
noncomputable def i0:List Int->List Int->Bool
 |[],[]=>false
 |[],_::_=>true
 |_::_,[]=>false
 |a::as,b::bs=>if (a == b)=true then i0 as bs else decide (a < b)
def t4(ds:List D):Option (List D):=match qC ds with
 |some rows => if (rows.all λr => decide (0 < r.length)) = true /\ 2 <= ds.length /\ ds.length < 64 then (match rZ ds.length (λi j => i0 (rows.getD i []) (rows.getD j [])) (mv ds.length) with
   |some p=>if p.size<=1000 then some (p.toList.map λi=>ds.getD i .non) else none
   |none=>none) else none
 |none=>none
def oK:D->M D
 | .ref n=>bnd (getL n) λds=>match t4 ds with
  |some es=>alloc (.lst es)
  |none=>bad
 |_=>bad
open PySem.Spec PyProof.Rows L2
theorem ON{α:Type}{n:Nat}{f:Nat->Nat->Bool}{l:Nat->Nat->(Bool->am->Prop)->am->Prop}{G:α->am->Prop}{s:am}(o:∀i j C,i < n->j < n->C (f i j) s->l i j C s):
  ∀(t:zH α){a:α},rZ n f t=some a->G a s->t.kasWp l G s
 | .ret b,a,h,g=>by cases h;exact g
 | .ask i j k,a,h,g=>by
  unfold rZ at h;by_cases c:i < n/\j < n
  ·rw[aE c]at h;exact o i j _ c.1 c.2 (ON o (k (f i j)) h g)
  ·rw[aA c]at h;cases h
section
variable{prog:Program}{w:bG}{A:bB}{s:am}{Q:Bool->am->Prop}
theorem P6{as bs:List Int}{g ws:List ah}(i:Nat){fin:Bool}(o:ic g as)(l:ic ws bs)(c:fin=decide (as.length < bs.length))(h:Q (i0 as bs) s):PySem.W.KatLex prog w A true fin Q (g.zip ws) i s:=by
 induction as generalizing bs g ws i fin with
 |nil=>
  cases o;refine wt ?_;cases l with
  |nil=>rw[c];exact h
  |@cons b u vs bs r'=>
   rw[c];have:decide (([]:List Int).length < (b::bs).length)=true:=by simp
   rw[this];exact h
 |cons a as ih=>
  cases o with
  |cons _ t r=>cases l with
   |nil=>
    refine wt ?_;rw[c];have:decide ((a::as).length < ([]:List Int).length)=false:=by simp
    rw[this];exact h
   |@cons b u vs bs r'=>
    refine PySem.W.kat_cons (nK ?_);unfold i0 at h;by_cases e:(a == b)=true
    ·rw[e];rw[aE e]at h;exact PySem.W.kat_yes (ih (i+1) r r' (by rw[c];simp) h)
    ·have q:(a == b)=false:=by simpa using e
     rw[q];rw[aA e]at h;refine PySem.W.kat_no ?_;cases i with
     |zero=>exact oneLt_int h
     |succ i=>exact PySem.W.kat_one _ _ (lt_int h)
end
section
variable{X:Cx}{K:ak}{ρ:List av}{H:Hp}{st:a_}
theorem No{c:List (av×Obj)}{σ:St}{s:am}(I:Inv X c σ H s): ∀{q:List V}{ds:List D}{its:List ah}{rows:List (List Int)},bZ X.K ρ H q ds->b9 q its->qC ds=some rows ->
  rows.length=ds.length/\∀(i:Nat)(h:i < ds.length),∃a xs,its[i]?=some (.ref a)/\zx s.heap a xs/\ic xs.toList (rows.getD i [])
 |_,_,_,rows,.nil,.nil,e=>by cases e;exact⟨rfl,λi h=>by simp at h⟩
 |_,_,_,rows,.cons (d:=d) (ds:=ds) r t,.cons ru tu,e=>by
  cases r with
  |@tup a vs' xs hq rr=>
   unfold qC at e;cases g:iX xs with
   |none=>rw[g]at e;cases e
   |some ns=>
    cases o:qC ds with
    |none=>rw[g,o]at e;cases e
    |some rs=>
     rw[g,o]at e;cases e;obtain⟨E,J⟩:=No I t tu o;refine⟨by simp[E],λi G=>?_⟩;cases i with
     |succ i=>
      obtain⟨L,l,C,B,v⟩:=J i (by simpa using G);exact⟨L,l,by simpa using C,B,by simpa using v⟩
     |zero=>
      obtain⟨its',u,p,_⟩:=I.tuple hq;cases (show _=bj a from ru);have:=Jx g rr;subst this;exact⟨a,_,rfl,p,by simpa using Iw u⟩
  |_=>cases e
theorem XV{h:bQ}{a:av}{m c:Str->Option ah}(x:h.Ns a m)(y:h.Ns a c):m=c:=by obtain⟨o,G,ep,E,C,_,B⟩:=x;obtain⟨o',u,v,l,g,_,q⟩:=y;rw[E]at l;cases l;rw[C]at g;cases g;funext n;rw[<- B n,q n]
theorem bZ.pick:∀{c:List V}{ds:List D}(i:Nat),bZ K ρ H c ds->dN K ρ H (c.getD i .non) (ds.getD i .non)
 |_,_,_,.nil=>by simp;exact .non
 |_,_,0,.cons r t=>by simpa using r
 |_,_,i+1,.cons r t=>by simpa using bZ.pick i t
theorem b9.pick:∀{c:List V}{g:List ah}(i:Nat),b9 c g->RelV (c.getD i .non) (g.getD i .none)
 |_,_,_,.nil=>by simp;rfl
 |_,_,0,.cons r t=>by simpa using r
 |_,_,i+1,.cons r t=>by simpa using b9.pick i t
theorem bZ.picks{c:List V}{ds:List D}(r:bZ K ρ H c ds):∀(p:List Nat),bZ K ρ H (p.map λi=>c.getD i .non) (p.map λi=>ds.getD i .non)
 |[]=>.nil
 |i::p=>.cons (bZ.pick i r) (bZ.picks r p)
theorem b9.picks{c:List V}{g:List ah}(r:b9 c g):∀(p:List Nat),b9 (p.map λi=>c.getD i .non) (p.map λi=>g.getD i .none)
 |[]=>.nil
 |i::p=>.cons (b9.pick i r) (b9.picks r p)
theorem RK{P:Program}{w:bG}{H:Hp}{h:bQ}{a:av}{o:HO}(x:eT P w H h a o):∃c,h.get? a=some c:=by
 cases o with
 |lst _=>obtain⟨_,_,_,_,e⟩:=x;exact⟨_,e⟩
 |tup _=>obtain⟨_,_,_,c,e,_⟩:=x;exact⟨_,e⟩
 |dK _=>obtain⟨_,_,_,_,c,_,_,e,_⟩:=x;exact⟨_,e⟩
 |dT _=>obtain⟨_,_,_,_,c,_,_,e,_⟩:=x;exact⟨_,e⟩
 |set _ _=>obtain⟨c,_,_,_,e,_⟩:=x;exact⟨_,e⟩
 |ins _ _ _=>obtain⟨_,_,_,e,_⟩:=x;exact⟨_,e⟩
 |own _=>obtain⟨_,e⟩:=x;exact⟨_,e⟩
 |xd _=>obtain⟨_,⟨_,_,_,e,_⟩,_⟩:=x;exact⟨_,e⟩
 |rng _ _=>obtain⟨_,_,_,e⟩:=x;exact⟨_,e⟩
 |frz _ _=>obtain⟨e,_⟩:=x;exact⟨_,e⟩
 |tbl _=>exact⟨_,(show h.get? a=some _ from x)⟩
 |met _ _=>exact⟨_,(show h.get? a=some _ from x)⟩
 |ext _=>obtain⟨_,⟨_,e⟩,_⟩:=x;exact⟨_,e⟩
theorem XS: CallR X (.builtin "sorted") (λxs H Q=>∃(l:av)(vs:List V)(ρ:List av)(ds:List D)(rows:List (List Int))(p:Array Nat),xs=[.ref l]/\gD X.K H l vs/\bZ X.K ρ H vs ds/\qC ds=some rows/\(rows.all λr=>decide (0 < r.length))=true/\2<=ds.length/\ds.length < 64 /\
  rZ ds.length (λi j=>i0 (rows.getD i []) (rows.getD j [])) (mv ds.length)=some p/\p.size<=1000/\∀q,H q=none->Q (.ref q) (fq H q (.lst (p.toList.map λi=>vs.getD i .non)))):=by
 intro ap s σ H xs us Q I r h;obtain⟨l,vs,ρ,ds,rows,p,rfl,hq,rr,hrows,hall,h2,h64,hev,hps,q⟩:=h;obtain⟨u,rfl,rx⟩:=uI r;cases rx;obtain⟨its,rv,pl,hz⟩:=I.list hq;have l1:=rv.length;have l2:=rr.length;have hil:its.length=ds.length:=by ext
 obtain⟨hrl,hit⟩:=No I rr rv hrows;obtain⟨m,F⟩:=I.fr;have N:News X.base X.env.locals s.heap (lK X.base s.heap X.env.locals):=Xy;have neL:∀a xs,zx s.heap a xs->a≠X.env.locals:=λa xs ht e=>by obtain⟨o,L,hc,n,hd⟩:=ht;obtain⟨o',es,ep,E,hd',_⟩:=F.ns;rw[e,E]at L;cases L;rw[hd']at hd;cases hd
 have kept:∀h',Fr X.base X.env.locals h' m->News X.base X.env.locals h' (lK X.base s.heap X.env.locals)->∀b o,b≠X.env.locals->s.heap.get? b=some o->h'.get? b=some o:=λh' F' N' b o hb e=>by
  cases z:X.base.get? b with
  |some u=>
   have:=F.keep b u z;rw[e]at this;cases this;exact F'.keep b _ z
  |none=>exact (N' (b,o) (Oi hb z e)).1
 refine PySem.W.kat_sorted F N pl.isList (by ext) (by ext) λD Y h' F' N' hD=>?_;have N'':News X.base X.env.locals h' (lK X.base s.heap X.env.locals):=λz hz=>N' z (bI _ hz);have hDL:=(N' _ (cM ..)).2.1;have hDb:=(N' _ (cM ..)).2.2;have hDs:s.heap.get? D=none:=by
  cases z:s.heap.get? D with
  |none=>rfl
  |some o=>exact ba (hD _ (Oi hDL hDb z)) (bM _)
 have g:H D=none:=by
  cases z:H D with
  |none=>rfl
  |some o=>
   obtain⟨ob,e⟩:=RK (I.hok D o z);rw[hDs]at e;cases e
 have G:∀(i:Nat),i < ds.length->∃a xs o n,its[i]?=some (.ref a)/\h'.get? a=some o/\o.cls=.type "tuple"/\o.data=.seq xs n/\ic xs.toList (rows.getD i []):=λi hi=>by obtain⟨a,xs,e,ht,B⟩:=hit i hi;have hn:=neL a xs ht;obtain⟨o,L,hc,n,hd⟩:=ht;exact⟨a,xs,o,n,e,kept h' F' N'' a o hn L,hc,hd,B⟩
 have tups:∃fs:List ah,wu h' its fs/\fs.length=its.length/\∀v∈fs,∃(k:Int)(t:Tok),v=.int k t:=by
  have gen:∀(ys:List ah),(∀v∈ys,∃a xs o n,v=.ref a/\h'.get? a=some o/\o.cls=.type "tuple"/\o.data=.seq xs n/\∃(k:Int)(t:Tok),xs[0]?=some (.int k t))->∃fs:List ah,wu h' ys fs/\fs.length=ys.length/\∀v∈fs,∃(k:Int)(t:Tok),v=.int k t:=by
   intro ys
   induction ys with
   |nil=>exact λ_=>⟨[],trivial,rfl,by simp⟩
   |cons y ys ih=>
    intro hy;obtain⟨fs,k1,k2,k3⟩:=ih λv hv=>hy v (by simp[hv]);obtain⟨a,xs,o,n,e,L,hc,hd,k,t,B⟩:=hy y (by simp);subst e;exact⟨.int k t::fs,wu.cons L hc hd B k1,by simp[k2],λv hv=>by
     rcases bb.mp hv with z|z
     ·exact⟨k,t,z⟩
     ·exact k3 v z⟩
  refine gen its λv hv=>?_;obtain⟨i,hi⟩:=ip hv;have hlt:i < ds.length:=by rw[<- hil];exact (ac.mp hi).1
  obtain⟨a,xs,o,n,e,L,hc,hd,B⟩:=G i hlt;rw[hi]at e;cases e;refine⟨a,xs,o,n,rfl,L,hc,hd,?_⟩;have U:0 < (rows.getD i []).length:=by
   have hr:i < rows.length:=by ext
   have:rows.getD i []=rows[i]:=by simp[hr]
   rw[this];have:=qv.mp hall rows[i] (dA hr);simpa using this
  cases O:rows.getD i [] with
  |nil=>rw[O]at U;simp at U
  |cons k ks=>
   rw[O]at B;cases hxs:xs.toList with
   |nil=>rw[hxs]at B;cases B
   |cons y ys=>
    rw[hxs]at B;cases B with
    |cons _ t r=>exact⟨k,t,by rw[<- dI,hxs];rfl⟩
 obtain⟨fs,t1,t2,t3⟩:=tups;refine PySem.W.kat_kind (T:=.type "int") t1 (by ext) (λv hv=>?_) (by decide) ?_
 ·obtain⟨k,t,e⟩:=t3 v hv;subst e;exact PySem.W.Looks.of_pure rfl
 refine ON (n:=ds.length) (f:=λi j=>i0 (rows.getD i []) (rows.getD j [])) (λi j C hi hj hC=>?_) (mv its.length) (a:=p) (by rw[hil];exact hev) ?_
 ·obtain⟨a,xs,o,n,e,L,hc,hd,B⟩:=G i hi;obtain⟨b,ys,o',v,u,E,q,hd',hy⟩:=G j hj
  show aK _ _ (keyLt' _ (its.getD i bV) (its.getD j bV)) _ _ _;have g:its.getD i bV=.ref a:=by rw[br,e];rfl
  have c:its.getD j bV=.ref b:=by rw[br,u];rfl
  rw[g,c];refine PySem.W.kat_lt L hd E hd' (P6 0 B hy ?_ hC);have l:=xy B;have h:=xy hy;rw[<- l,<- h,d_,d_]
 ·refine PySem.W.KasFin.intro F' N' (PySem.W.UpdF.head (λz hz=>bA (hD z hz))) λB c G L=>?_;have T:News X.base X.env.locals B (lK X.base s.heap X.env.locals):=λz hz=>L z (bI _ hz);have v:=(L _ (cM ..)).1;have h:=kept B G T;have hsz:(p.toList.map λi=>vs.getD i V.non).length<=sizeLine:=by
   rw[ae,d_];have:1000<=sizeLine:=by decide
   ext
  have J:=I.free
  suffices I3:Inv X ap σ (fq H D (.lst (p.toList.map λi=>vs.getD i V.non))) { s with heap:=B,gens:=s.gens,drawn:=s.drawn,toks:=s.toks } by exact⟨.ref D,fq H D (.lst (p.toList.map λi=>vs.getD i V.non)),I3,rfl,q D g⟩
  refine I.step (g':=s.gens) (d':=s.drawn) (t':=s.toks) (ch:=[]) (λb hb=>by cases hb) (λb o C _ _ e _=>h b o C e) (λb o C _ _ e _=>⟨o.slots,h b o C e⟩)
   (λb o _ e O=>by rw[fI (λz=>by rw[z,hDs]at e;cases e)];exact O)
   (λb o _ e=>by
    by_cases z:b=X.env.locals
    ·obtain⟨o',_,_,E,_⟩:=G.ns;exact⟨o',by rw[z];exact E⟩
    ·exact⟨o,h b o z e⟩)
   (λb ys e=>by rw[fI (nA e g)];exact e) (λb o ys e=>by rw[fI (nA e g)];exact e) (λb U e=>⟨#[],by rw[fI (nA e g),e];simp⟩)
   (λm' Q=>by rw[<- XV F.ns Q];exact G.ns) ?_ I.bare
  intro a o e;by_cases z:a=D
  ·subst z;rw[kq]at e;cases e;exact⟨hsz,_,c,b9.picks rv p.toList,v⟩
  ·rw[fI z]at e;refine (I.hok a o e).stay (λb u hb Y=>h b u (λl=>?_) Y) (λb Y=>by rw[fI (nA Y g)];exact Y) (λb ys Y=>by rw[fI (nA Y g)];exact Y);rcases hb with y|y
   ·rw[y]at l;rw[l,J]at e;cases e
   ·rw[l,J]at y;cases y
theorem YM:CallR X (.builtin "sorted") (λxs H Q=>∃v,xs=[v]/\v_ X.K oK v H Q):=XS.of λxs H Q g=>by
 obtain⟨v,e,ρ,st,d,l,J,p⟩:=g;cases J with
 |@ref a n _ h=>
  obtain⟨ds,T,c⟩:=aV.getL (aV.bnd p) l;obtain⟨U,E,G,O,r⟩:=l.seq T;rw[h]at G;cases G;unfold t4 at c;cases B:qC ds with
  |none=>rw[B]at c;exact c.elim
  |some rows=>
   rw[B]at c;by_cases o:(rows.all λr=>decide (0 < r.length))=true/\2<=ds.length/\ds.length < 64
   ·simp only[aE o]at c;cases C:rZ ds.length (λi j=>i0 (rows.getD i []) (rows.getD j [])) (mv ds.length) with
    |none=>rw[C]at c;exact c.elim
    |some pp=>
     rw[C]at c;by_cases hz:pp.size<=1000
     ·simp only[aE hz]at c;refine⟨a,E,ρ,ds,rows,pp,e,gD.of O,r,B,o.1,o.2.1,o.2.2,C,hz,λq u=>?_⟩;have L:=l.fresh u;have I:SR X.K (ρ++[q]) (fq H q (.lst (pp.toList.map λi=>E.getD i V.non))) (st++[.lst (pp.toList.map λi=>ds.getD i D.non)]):=(l.new u).keep kq L ((bZ.picks r pp.toList).mono (Ex.new u));refine c _ _ (Ex.newL u) I _ (.ref ⟨_,kq,rfl⟩ ?_);rw[<- l.len];simp
     ·simp only[aA hz]at c;exact c.elim
   ·simp only[aA o]at c;exact c.elim
 |_=>exact p.elim
end
section
variable{X:Cx}{ap:List (av×Obj)}{σ:St}{H:Hp}{s:am}{h':bQ}{ch:List av}
theorem Rf{t':Nat}(I:Inv X ap σ H s)(h:∀b∈ch,pf X ap H b)(keep:∀b o,b∉ch->s.heap.get? b=some o->h'.get? b=some o):Inv X ap σ H { s with heap:=h',toks:=t' }:=by
 have q:∀b o,H b=some o->b∉ch:=λb o e z=>by rw[(h b z).1]at e;cases e
 have B:X.env.locals∉ch:=λz=>(h _ z).2.1 rfl;refine I.step (g':=s.gens) (d':=s.drawn) (ch:=ch) (λb l=>?_) (λb o _ _ c e _=>keep b o c e) (λb o _ _ c e _=>⟨o.slots,keep b o c e⟩) (λb o _ _ e=>e) (λb o c e=>⟨o,keep b o c e⟩)
  (λb ys e=>e) (λb o ys e=>e) (λb O e=>⟨#[],by rw[e];simp⟩) (λm v=>?_) ?_ I.bare
 ·obtain⟨T,J,Q,G,E,C⟩:=h b l;exact⟨G,J,E,C⟩
 ·obtain⟨o,L,ep,e,r⟩:=v;exact⟨o,L,ep,keep _ o B e,r⟩
 ·intro a o e;refine (I.hok a o e).stay (λb u l g=>keep b u ?_ g) (λb g=>g) (λb ys g=>g);rcases l with y|y
  ·rw[y];exact q a o e
  ·exact q b _ y
theorem PL{t':Nat}{T:av}{l:List V}{its:List ah}(I:Inv X ap σ H s)(q:∀b∈ch,pf X ap H b)(keep:∀b o,b∉ch->s.heap.get? b=some o->h'.get? b=some o)(C:s.heap.objs.size<=T)
  (hz:l.length<=sizeLine) (E:b9 l its) (G:kj h' T its.toArray):Inv X ap σ (fq H T (.tup l)) { s with heap:=h',toks:=t' }:=by
 have c:H T=none:=I.hok.fresh C;have B:∀b o,H b=some o->b∉ch:=λb o e z=>by rw[(q b z).1]at e;cases e
 have L:X.env.locals∉ch:=λz=>(q _ z).2.1 rfl;refine I.step (g':=s.gens) (d':=s.drawn) (ch:=ch) (λb v=>?_) (λb o _ _ h e _=>keep b o h e) (λb o _ _ h e _=>⟨o.slots,keep b o h e⟩) (λb o _ e n=>by rw[fI (bA (bw (aJ e) C))];exact n) (λb o h e=>⟨o,keep b o h e⟩)
  (λb ys e=>by rw[fI (nA e c)];exact e) (λb o ys e=>by rw[fI (nA e c)];exact e) (λb ps e=>⟨#[],by rw[fI (nA e c),e];simp⟩) (λm J=>?_) ?_ I.bare
 ·obtain⟨g,Y,c,U,Q,O⟩:=q b v;exact⟨U,Y,Q,O⟩
 ·obtain⟨o,c,ep,e,r⟩:=J;exact⟨o,c,ep,keep _ o L e,r⟩
 ·intro a o e;by_cases z:a=T
  ·subst z;rw[kq]at e;cases e;exact⟨hz,its,E,G⟩
  ·rw[fI z]at e;refine (I.hok a o e).stay (λb u v g=>keep b u ?_ g) (λb g=>by rw[fI (nA g c)];exact g) (λb ys g=>by rw[fI (nA g c)];exact g);rcases v with y|y
   ·rw[y];exact B a o e
   ·exact B b _ y
end
structure CU(prog:Program)(w:bG)(A:bB)(it src:av)(val:Nat->Option ah)(P:Nat->bQ->Prop):Prop where
 there:∀k h,P k h->∃o,h.get? it=some o
 keep:∀k h h',P k h->(∀b,b=it\/b=src->∀o,h.get? b=some o->h'.get? b=some o)->P k h'
 item:∀k x(s:am)(Q:ah->am->Prop)(E:ah->am->Prop),P k s.heap->val k=some x->(∀h',P (k+1) h'->cJ it s.heap h'->Q x { s with heap:=h' })->aK (bc prog w) A (b_ (.ref it)) Q E s
 done:∀k(s:am)(Q:ah->am->Prop)(E:ah->am->Prop),P k s.heap->val k=none->(∀h' e,nV it s.heap h'->(∃o,h'.get? e=some o/\o.cls=.type "StopIteration")->E (.ref e) { s with heap:=h' })->aK (bc prog w) A (b_ (.ref it)) Q E s
section
variable{prog:Program}{w:bG}{A:bB}{E:ah->am->Prop}{s:am}{z tI tO i1 i2 l1 l2:av}{v1 v2:Nat->Option ah}{P1 P2:Nat->bQ->Prop}{k:Nat}{u v:ah}
theorem we{l g b:av}{val:Nat->Option ah}{P:Nat->bQ->Prop}{h h':bQ}(S:CU prog w A l g val P)(x:P k h)(e:nV b h h')(H:l≠b)(G:g≠b):P k h':=
 S.keep k h h' x λc C o B=>e c o (by rcases C with q|q<;>rw[q]<;>assumption) B
theorem Ga{a G:av}{items:Array ah}(hh:A.handled=none)(J:a≠G):CU prog w A G a (λi=>items[i]?) (λi h=>h.IsTupleIter G a i/\h.IsTuple a items) where
 there:=λk h B=>by obtain⟨⟨o,e,_⟩,_⟩:=B;exact⟨o,e⟩
 keep:=λk h h' l L=>by obtain⟨⟨o,e,r⟩,⟨o',u,T⟩⟩:=l;exact⟨⟨o,L G (.inl rfl) o e,r⟩,⟨o',L a (.inr rfl) o' u,T⟩⟩
 item:=λk x s Q E g I U=>by obtain⟨H,C⟩:=g;exact O5 H C I λh' q O=>U h' ⟨q,C.extBut O.extBut J⟩ O
 done:=λk s Q E c I Y=>by obtain⟨H,C⟩:=c;exact HA hh H C I Y
theorem Pz{Q:ah->am->Prop}(D:ZipApart z tI tO i1 i2 l1 l2)(G:CU prog w A i1 l1 v1 P1)(C:CU prog w A i2 l2 v2 P2)(hz:oy s.heap z tI tO .none)(hi:iL s.heap tI (.ref i1) (.ref i2))(ho:iL s.heap tO u v)
  (p1:P1 k s.heap) (p2:P2 k s.heap) {x y:ah} (hx:v1 k=some x) (hy:v2 k=some y)
  (hQ:∀h',oy h' z tI tO (kL s.heap.objs.size)->iL h' tO x y->P1 (k+1) h'->P2 (k+1) h'->iL h' s.heap.objs.size x y ->
   (∀c o,c≠z->c≠tO->c≠i1->c≠i2->s.heap.get? c=some o->h'.get? c=some o)->Q (.ref s.heap.objs.size) { s with heap:=h' }):
  aK (bc prog w) A (Builtin.«zip.__next__» ⟨[.ref z],[]⟩) (λf s'=>∃r,f=.done (.ret r)/\Q r s') E s:=by
 show aK _ _ (uO (.ref z) 2 >>= _) _ _ _;refine ab (cP hz rfl (x:=.bool false) rfl ?_);show aK _ _ (uO (.ref z) 3 >>= _) _ _ _;refine ab (cP hz rfl (x:=.ref tI) rfl (ab (dD hi rfl ?_)));show aK _ _ (eR (.ref z) >>= _) _ _ _;refine ab ?_;unfold eR;refine ab (cP hz rfl (x:=.none) rfl (aq ?_));simp only[if_true];refine ab (ie (ab (cP hz rfl (x:=.ref tO) rfl (ab (cW hz (by simp) λha za T=>?_)))));have za':oy ha z tI tO .ellipsis:=za;refine ab ?_;simp only[xR,zI,nu,Ap];refine ab (ab (qt ?_));show aK _ _ (b_ (.ref i1) >>= _) _ _ _;refine ab (G.item k x _ _ _ (we G p1 T.extBut D.i1z D.l1z) hx λhb q1 O=>aq ?_);have ob:iL hb tO u v:=O.extBut _ _ D.TOi1 (T.extBut _ _ D.TOz ho);refine ab (dD ob rfl (ab (pk ob λB oc sc=>?_)));have oc':iL B tO x v:=oc;refine ab (iK (aq ?_));refine ab (ab (qt ?_));show aK _ _ (b_ (.ref i2) >>= _) _ _ _;have p2c:P2 k B:=we C (we C (we C p2 T.extBut D.i2z D.l2z) O.extBut D.i12.symm D.l2i1) sc.extBut D.TOi2.symm D.l2TO;refine ab (C.item k y _ _ _ p2c hy λhd q2 L=>aq ?_);have od:iL hd tO x v:=L.extBut _ _ D.TOi2 oc';refine ab (dD od rfl (ab (pk od λg oe J=>?_)));have U:iL g tO x y:=oe;refine ab (iK (aq (aq ?_)));refine ab (dD U rfl (ab (wpAny_newTuple ?_)));have h:g.objs.size=s.heap.objs.size:=by rw[J.1,L.1,sc.1,O.1,T.1]
 have ze:oy g z tI tO .ellipsis:=J.extBut _ _ D.TOz.symm (L.extBut _ _ D.i2z.symm (sc.extBut _ _ D.TOz.symm (O.extBut _ _ D.i1z.symm za')));have all:∀c o,c≠z->c≠tO->c≠i1->c≠i2->s.heap.get? c=some o->g.get? c=some o:=λc o l Y n3 n4 e=>J.extBut _ _ Y (L.extBut _ _ n4 (sc.extBut _ _ Y (O.extBut _ _ n3 (T.extBut _ _ l e))));have q1e:P1 (k+1) g:=we G (we G (we G q1 sc.extBut D.TOi1.symm D.l1TO) L.extBut D.i12 D.l1i2) J.extBut D.TOi1.symm D.l1TO;have q2e:P2 (k+1) g:=we C q2 J.extBut D.TOi2.symm D.l2TO;have H:z < g.objs.size:=aJ ze
 show aK _ _ (lQ (.ref z) (.ref g.objs.size) >>= _) _ _ _;refine ab ?_;unfold lQ;have zf:oy (g.push { cls:=.type "tuple",data:=.seq #[x,y] }) z tI tO .ellipsis:=al _ ze;refine ab (cW zf (by simp) λhg zg sg=>?_);have zg':oy hg z tI tO (kL g.objs.size):=zg;refine cW zg' (by simp) λhh zh sh=>?_;have I:oy hh z tI tO (kL g.objs.size):=zh;have up:∀c o,c≠z->g.get? c=some o->hh.get? c=some o:=λc o l e=>sh.extBut _ _ l (sg.extBut _ _ l (al _ e));have new:iL hh g.objs.size x y:=sh.extBut _ _ (df H) (sg.extBut _ _ (df H) (aC _ rfl));rw[h]at I new;refine aq ⟨_,rfl,?_⟩;show Q (.ref g.objs.size) _;rw[h];exact hQ hh I (up _ _ D.TOz U) (G.keep _ _ _ q1e λc B o e=>up c o (B.elim (λq=>by rw[q];exact D.i1z) (λq=>by rw[q];exact D.l1z)) e) (C.keep _ _ _ q2e λc B o e=>up c o (B.elim (λq=>by rw[q];exact D.i2z) (λq=>by rw[q];exact D.l2z)) e) new λc o l Y n3 n4 e=>up c o l (all c o l Y n3 n4 e)
theorem Wf{Q:PySem.Fin->am->Prop}(D:ZipApart z tI tO i1 i2 l1 l2)(S1:CU prog w A i1 l1 v1 P1)(O:CU prog w A i2 l2 v2 P2)(hz:oy s.heap z tI tO .none)(hi:iL s.heap tI (.ref i1) (.ref i2))(ho:iL s.heap tO u v)
  (p1:P1 k s.heap) (p2:P2 k s.heap) (J:v1 k=none\/v2 k=none)
  (hE:∀h' e,(∀c o,c≠z->c≠tO->c≠i1->c≠i2->s.heap.get? c=some o->h'.get? c=some o)->(∃o,h'.get? e=some o/\o.cls=.type "StopIteration")->E (.ref e) { s with heap:=h' }):
  aK (bc prog w) A (Builtin.«zip.__next__» ⟨[.ref z],[]⟩) Q E s:=by
 show aK _ _ (uO (.ref z) 2 >>= _) _ _ _;refine ab (cP hz rfl (x:=.bool false) rfl ?_);show aK _ _ (uO (.ref z) 3 >>= _) _ _ _;refine ab (cP hz rfl (x:=.ref tI) rfl (ab (dD hi rfl ?_)));show aK _ _ (eR (.ref z) >>= _) _ _ _;refine ab ?_;unfold eR;refine ab (cP hz rfl (x:=.none) rfl (aq ?_));simp only[if_true];refine ab (ie (ab (cP hz rfl (x:=.ref tO) rfl (ab (cW hz (by simp) λha za G=>?_)))));have C:oy ha z tI tO .ellipsis:=za;refine ab ?_;simp only[xR,zI,nu,Ap];refine ab (ab (qt ?_));show aK _ _ (b_ (.ref i1) >>= _) _ _ _;have H:P1 k ha:=we S1 p1 G.extBut D.i1z D.l1z;cases hx:v1 k with
 |none=>
  refine ab (S1.done k _ _ _ H hx λhb e g l=>?_);obtain⟨U,B,L⟩:=l;have zb:oy hb z tI tO .ellipsis:=g _ _ D.i1z.symm C;have Y:e≠z:=λq=>by rw[q,zb]at B;cases B;simp at L
  exact cW zb (by simp) λhc _ sc=>hE hc e (λc o I _ n3 _ q=>sc.extBut _ _ I (g _ _ n3 (G.extBut _ _ I q))) ⟨U,sc.extBut _ _ Y B,L⟩
 |some x=>
  have hy:v2 k=none:=J.resolve_left (by rw[hx];simp);refine ab (S1.item k x _ _ _ H hx λhb q1 g=>aq ?_);have ob:iL hb tO u v:=g.extBut _ _ D.TOi1 (G.extBut _ _ D.TOz ho);refine ab (dD ob rfl (ab (pk ob λhc oc sc=>?_)));refine ab (iK (aq ?_));refine ab (ab (qt ?_));show aK _ _ (b_ (.ref i2) >>= _) _ _ _;have T:P2 k hc:=we O (we O (we O p2 G.extBut D.i2z D.l2z) g.extBut D.i12.symm D.l2i1) sc.extBut D.TOi2.symm D.l2TO;refine ab (O.done k _ _ _ T hy λhd e sd h=>?_);obtain⟨U,B,L⟩:=h;have zd:oy hd z tI tO .ellipsis:=sd _ _ D.i2z.symm (sc.extBut _ _ D.TOz.symm (g.extBut _ _ D.i1z.symm C));have Y:e≠z:=λq=>by rw[q,zd]at B;cases B;simp at L
  exact cW zd (by simp) λhe _ se=>hE he e (λc o I n2 n3 n4 q=>se.extBut _ _ I (sd _ _ n4 (sc.extBut _ _ n2 (g.extBut _ _ n3 (G.extBut _ _ I q))))) ⟨U,se.extBut _ _ Y B,L⟩
end
noncomputable abbrev tR(a:av):Obj:={ cls:=.type "tuple_iterator",data:=.fields #[.ref a,.int 0 0] }
abbrev CW(h:bQ)(a:av):bQ:=h.push (tR a)
abbrev C0(h:bQ)(a b:av):bQ:=(CW h a).push (tR b)
abbrev CM(h:bQ)(a b:av):bQ:=(C0 h a b).push { cls:=.type "tuple",data:=.seq #[.ref h.objs.size,.ref (CW h a).objs.size] }
abbrev Fh(h:bQ)(a b:av):bQ:=(CM h a b).push { cls:=.type "tuple",data:=.seq #[.none,.none] }
abbrev xC(h:bQ)(a b:av):bQ:=(Fh h a b).push { cls:=.type "zip",data:=.fields #[.none,.bool false,.bool false,.ref (C0 h a b).objs.size,.ref (CM h a b).objs.size] }
theorem Uq(a b:av)(xs ys:Array ah):
  Meets (Builtin.«zip.__new__» ⟨[.type "zip",.ref a,.ref b],[]⟩) (λ_ R s=>s.heap.IsTuple a xs/\s.heap.IsTuple b ys/\R (.ok (.ret (.ref (Fh s.heap a b).objs.size))) { s with heap:=xC s.heap a b }):=
 .of_wp λprog w A R s h=>by
  obtain⟨q,g,d,c,os⟩:=s;obtain⟨C,B,h⟩:=h;have l:=sub_zip;have v:ui (uj ⟨q,g,d,c,os⟩) a xs:=C;have u:ui (uj ⟨q.push (tR a),g,d,c,os⟩) b ys:=let ⟨o,e,r⟩:=B;⟨o,al _ e,r⟩
  wp_walk using ig v,ig u
  exact⟨_,rfl,h⟩
section
variable{prog:Program}{w:bG}{A:bB}{E:ah->am->Prop}{s:am}
theorem Sl{a b:av}{xs ys:Array ah}{Q:ah->am->Prop}(T:s.heap.IsTuple a xs)(O:s.heap.IsTuple b ys)
  (h:∀h',oy h' (s.heap.objs.size+4) (s.heap.objs.size+2) (s.heap.objs.size+3) .none->iL h' (s.heap.objs.size+2) (.ref s.heap.objs.size) (.ref (s.heap.objs.size+1))->iL h' (s.heap.objs.size+3) .none .none ->
   h'.IsTupleIter s.heap.objs.size a 0->h'.IsTupleIter (s.heap.objs.size+1) b 0->(∀c o,s.heap.get? c=some o->h'.get? c=some o)->Q (.ref (s.heap.objs.size+4)) { s with heap:=h' }):
  aK (bc prog w) A (call (.type "zip") [.ref a,.ref b]) Q E s:=by
 refine callType_new F.called_zip (by decide) (F.typeCall_zip_2 _ _) (F.newCall_zip_2 _ _) (λobj=>F.args_object_init_3 obj _ _) F.entry_zip_new (Uq a b xs ys) ⟨T,O,?_⟩;have C:(CW s.heap a).objs.size=s.heap.objs.size+1:=cF ..;have B:(C0 s.heap a b).objs.size=s.heap.objs.size+2:=by rw[cF,C]
 have v:(CM s.heap a b).objs.size=s.heap.objs.size+3:=by rw[cF,B]
 have J:(Fh s.heap a b).objs.size=s.heap.objs.size+4:=by rw[cF,v]
 have g:∀c o,(Fh s.heap a b).get? c=some o->(xC s.heap a b).get? c=some o:=λc o e=>al _ e;have l:∀c o,(CM s.heap a b).get? c=some o->(xC s.heap a b).get? c=some o:=λc o e=>g c o (al _ e);have q:∀c o,(C0 s.heap a b).get? c=some o->(xC s.heap a b).get? c=some o:=λc o e=>l c o (al _ e);have up1:∀c o,(CW s.heap a).get? c=some o->(xC s.heap a b).get? c=some o:=λc o e=>q c o (al _ e);have u:oy (xC s.heap a b) (Fh s.heap a b).objs.size (C0 s.heap a b).objs.size (CM s.heap a b).objs.size .none:=aC _ rfl;have G:iL (xC s.heap a b) (CM s.heap a b).objs.size .none .none:=g _ _ (aC _ rfl);have H:iL (xC s.heap a b) (C0 s.heap a b).objs.size (.ref s.heap.objs.size) (.ref (CW s.heap a).objs.size):=l _ _ (aC _ rfl);have I:(xC s.heap a b).get? (CW s.heap a).objs.size=some (tR b):=q _ _ (aC _ rfl);have L:(xC s.heap a b).get? s.heap.objs.size=some (tR a):=up1 _ _ (aC _ rfl)
 show _/\_;rw[B,v,J]at u;rw[v]at G;rw[C,B]at H;rw[C]at I;rw[J];exact⟨⟨_,u,rfl⟩,h _ u H G ⟨_,L,rfl,rfl⟩ ⟨_,I,rfl,rfl⟩ λc o e=>up1 c o (al _ e)⟩
end
def AC(K:ak)(a b:av):It:=
 ⟨λi H=>∃xs ys x y,iR K H a xs/\iR K H b ys/\xs[i]?=some x/\ys[i]?=some y,
  λi H r c=>∃T x y,r=.ref T/\H T=none/\(∀xs,iR K H a xs->xs[i]?=some x)/\(∀ys,iR K H b ys->ys[i]?=some y)/\c=fq H T (.tup [x,y]),
  λi H=>∃xs ys,iR K H a xs/\iR K H b ys/\(xs.length<=i\/ys.length<=i)⟩
section
variable{X:Cx}{tg:Expr}{es:List Expr}{pos:Pos}{fa fb:CE}{K:ak}{ρ:List av}{H:Hp}{st:a_}
noncomputable def KO(z g c o l a b:av)(i:Nat)(h:bQ):Prop:=oy h z g c .none/\iL h g (.ref o) (.ref l)/\(∃u v,iL h c u v)/\h.IsTupleIter o a i/\h.IsTupleIter l b i
theorem vH{h h':bQ}{c l:av}{k:Nat}(x:h.IsTupleIter c l k)(e:∀o,h.get? c=some o->h'.get? c=some o):h'.IsTupleIter c l k:=let ⟨o,e1,r⟩:=x;⟨o,e o e1,r⟩
theorem Ud{P:Program}{w:bG}{k:Nat}{z U tO i1 i2 a b:av}(D:ZipApart z U tO i1 i2 a b):rm P w K (.Tuple es k pos) (AC K a b) [z,U,tO,i1,i2] z (KO z U tO i1 i2 a b) where
 mem:=by simp
 obj:=λi h pq107 c l=>by
  obtain⟨B,G,⟨u,v,Q⟩,⟨o4,O,c4,d4⟩,⟨o5,L,c5,d5⟩⟩:=pq107;simp only[bb,iA,or_false]at l;rcases l with e|e|e|e|e<;>subst e
  ·exact⟨_,B,λv q=>by cases q⟩
  ·exact⟨_,G,λv q=>by cases q⟩
  ·exact⟨_,Q,λv q=>by cases q⟩
  ·exact⟨_,O,λv q=>by rw[d4]at q;cases q⟩
  ·exact⟨_,L,λv q=>by rw[d5]at q;cases q⟩
 keep:=λi h h' pq108 kp=>by obtain⟨B,G,⟨u,v,Q⟩,O,L⟩:=pq108;exact⟨kp z (by simp) _ B,kp U (by simp) _ G,⟨u,v,kp tO (by simp) _ Q⟩,vH O λo e=>kp i1 (by simp) o e,vH L λo e=>kp i2 (by simp) o e⟩
 item:=by
  intro X hP hw hK l i J s σ H E I hf pq165 hg;obtain⟨B,G,⟨u,v,Q⟩,O,L⟩:=pq165;subst hP hw hK;obtain⟨xs,ys,x,y,qa,qb,hx,hy⟩:=hg;obtain⟨its,rv,p,hz⟩:=I.tuple qa;obtain⟨C,Y,p2,hz2⟩:=I.tuple qb;obtain⟨ux,hux,rux⟩:=rv.get hx;obtain⟨uy,huy,ruy⟩:=Y.get hy;have hT:s.TypeIs (.ref z) "zip":=⟨_,B,rfl⟩
  have S1:=Ga (prog:=X.prog) (w:=X.w) (A:=X.A.in1) (items:=its.toArray) (I.ok.hd l) D.l1i1;have S2:=Ga (prog:=X.prog) (w:=X.w) (A:=X.A.in1) (items:=C.toArray) (I.ok.hd l) D.l2i2;unfold ko;refine ab (i8 (b8 (name:=aG "__next__") hT nX (cG nX hT CC (Pz D S1 S2 B G Q ⟨O,p⟩ ⟨L,p2⟩ (x:=ux) (y:=uy) (by simpa using hux) (by simpa using huy) λh' g1 g2 g3 g4 g5 g7=>aq ?_) (Aq _))));refine⟨_,rfl,wpAny_letOwnedTupleGo_zip g1 λh'' k1 k2=>?_⟩;have zlt:z < s.heap.objs.size:=aJ B;have keep:∀c o,c∉[z,U,tO,i1,i2]->s.heap.get? c=some o->h''.get? c=some o:=λc o l e=>by simp only[bb,iA,or_false,not_or]at l;exact (k2.2 c l.1).trans (g7 c o l.1 l.2.2.1 l.2.2.2.1 l.2.2.2.2 e)
  have hT:iL h'' s.heap.objs.size ux uy:=(k2.2 _ (df zlt)).trans g5;have I2:Inv X J σ (fq H s.heap.objs.size (.tup [x,y])) { s with heap:=h'',toks:=s.toks }:=
   PL (its:=[ux,uy]) I hf keep (ar _) (by show 2<=sizeLine;decide) (.cons rux (.cons ruy .nil)) ⟨_,hT,rfl,⟨_,rfl⟩,rfl⟩
  have hTn:H s.heap.objs.size=none:=I.hok.fresh (ar _);refine⟨.ref s.heap.objs.size,_,I2,rfl,⟨_,x,y,rfl,hTn,λzs hzs=>by rw[I.tuple_inj hzs qa];exact hx,λzs hzs=>by rw[I.tuple_inj hzs qb];exact hy,rfl⟩,
   ⟨k1,(k2.2 U D.TIz).trans (g7 U _ D.TIz D.TITO D.TIi1 D.TIi2 G),⟨_,_,(k2.2 tO D.TOz).trans g2⟩,vH g3.1 λo e=>(k2.2 i1 D.i1z).trans e,vH g4.1 λo e=>(k2.2 i2 D.i2z).trans e⟩,λc l=>?_⟩
  rw[fI]
  ·exact (hf c l).1
  ·intro e;have:∃o,s.heap.get? c=some o:=by
    simp only[bb,iA,or_false]at l;rcases l with q|q|q|q|q<;>subst q
    ·exact⟨_,B⟩
    ·exact⟨_,G⟩
    ·exact⟨_,Q⟩
    ·obtain⟨o,e,_⟩:=O;exact⟨o,e⟩
    ·obtain⟨o,e,_⟩:=L;exact⟨o,e⟩
   obtain⟨o,g⟩:=this;have:=aJ g;rw[e]at this;exact ba this (bM _)
 done:=by
  intro X hP hw hK l i J s σ H E I hf pq166 hg;obtain⟨B,G,⟨u,v,Q⟩,O,L⟩:=pq166;subst hP hw hK;obtain⟨xs,ys,qa,qb,hl⟩:=hg;obtain⟨its,rv,p,hz⟩:=I.tuple qa;obtain⟨C,Y,p2,hz2⟩:=I.tuple qb;have l1:=rv.length;have l2:=Y.length;have hT:s.TypeIs (.ref z) "zip":=⟨_,B,rfl⟩
  have S1:=Ga (prog:=X.prog) (w:=X.w) (A:=X.A.in1) (items:=its.toArray) (I.ok.hd l) D.l1i1;have S2:=Ga (prog:=X.prog) (w:=X.w) (A:=X.A.in1) (items:=C.toArray) (I.ok.hd l) D.l2i2;unfold ko;refine ab (i8 (b8 (name:=aG "__next__") hT nX (cG nX hT CC (Wf D S1 S2 B G Q ⟨O,p⟩ ⟨L,p2⟩ ?_ λh' e g ⟨o,q1,q2⟩=>?_) (Aq _))))
  ·rcases hl with hl|hl
   ·exact .inl (by simp;ext)
   ·exact .inr (by simp;ext)
  ·refine ab (eX (T:="StopIteration") (b:=true) ⟨o,q1,q2⟩ pj (aq ⟨rfl,Rf (t':=s.toks) I hf λc o l e=>?_⟩));simp only[bb,iA,or_false,not_or]at l;exact g c o l.1 l.2.2.1 l.2.2.2.1 l.2.2.2.2 e
 self:=λ_ _ _ _ _ pq110 h=>by obtain⟨B,_⟩:=pq110;exact F0 B h
theorem VG{a b:Expr}{Q:TA}{p B:Pos}{k:Nat}(hg:Gl X "zip")(hm:X.mg "zip"=none)(ha:PA X [a,b] Q)(hs:aF [a,b] X.env=[(false,eval a X.env),(false,eval b X.env)])(C:aF [b] X.env=[(false,eval b X.env)]):
  PI X (.Tuple es k B) (.Call (.Name "zip" p) [a,b] [] pos) (λσ H R=>Q σ H λO v=>∃u l xs ys,O=[.ref u,.ref l]/\iR X.K v u xs/\iR X.K v l ys/\R (AC X.K u l) v):=by
 intro g s σ H R I h;refine Call_ (wZ I hg hm boot_zip (cq (fS (ha pos g s σ H _ I h) λus c ⟨O,v,G,r1,q1⟩=>?_) (by rw[hs,C]) (by rw[C];rfl)));obtain⟨u,l,xs,ys,e,hx,hy,q⟩:=q1;subst e;cases r1 with
 |cons r rr=>
  cases rr with
  |cons r' rr=>
   cases rr;cases r;cases r';obtain⟨its,rv,U,hz⟩:=G.tuple hx;obtain⟨Y,rv2,T,hz2⟩:=G.tuple hy;have L:u < c.heap.objs.size:=by obtain⟨o,e,_⟩:=id U;exact aJ e
   have J:l < c.heap.objs.size:=by obtain⟨o,e,_⟩:=id T;exact aJ e
   refine Sl U T λh' g1 g2 g3 g4 g5 g7=>F0 g1 ?_;have I2:Inv X g σ v { c with heap:=h' }:=G.kept (t':=c.toks) g7;refine⟨c.heap.objs.size+4,[c.heap.objs.size+4,c.heap.objs.size+2,c.heap.objs.size+3,c.heap.objs.size,c.heap.objs.size+1],_,AC X.K u l,v,rfl,I2,Ud (zipApart_new L J),⟨g1,g2,⟨_,_,g3⟩,g4,g5⟩,λb hb=>?_,q⟩;have E:c.heap.objs.size<=b:=by simp only[bb,iA,or_false]at hb;rcases hb with e|e|e|e|e<;>rw[e]<;>ext
   exact G.fpOk E (G.hok.fresh E)
def tz(a b:CE):CI:=λl=>bnd (a l) λx=>bnd (b l) λy=>match x,y with
 | .tup ds,.tup es=>ret ⟨ds.zipWith (λp q=>.tup [p,q]) es,dw⟩
 |_,_=>bad
theorem Sk{a b : Expr}{p u : Pos}{k : Nat}(hg : Gl X "zip")(hm : X.mg "zip" = none)(h : SE X a fa)(h' : SE X b fb)(U : aF [a, b] X.env = (false, eval a X.env) :: aF [b] X.env := by rfl)(Q : aF [b] X.env = (false, eval b X.env) :: aF [] X.env := by rfl)
  (hs:aF [a,b] X.env=[(false,eval a X.env),(false,eval b X.env)]:=by rfl) (O:aF [b] X.env=[(false,eval b X.env)]:=by rfl):SI X (.Tuple es k u) (.Call (.Name "zip" p) [a,b] [] pos) (tz fa fb):=
 (VG hg hm (rX h (rX h' u_ Q) U) hs O).of λσ H R h_=>h_.el λρ l st lr sr p=>⟨ρ,l,st,lr,sr,p.bnd.imp λd I ρ1 H1 x1 s1 p1 v rv=>⟨ρ1,l,I,lr.mono x1,s1,p1.bnd.imp λe st2 ρ2 H2 x2 s2 L w B=>by
  have c:=rv.mono x2;cases c with
  |@tup a1 vs ds ha r=>
   cases B with
   |@tup a2 ws es' hb r'=>
    refine⟨a1,a2,vs,ws,rfl,ha,hb,L.ret s2 _ ?_⟩;intro ρ3 H3 st3 x3 s3 _;have q:iR X.K H3 a1 vs:=iR.mono x3.up ha;have o:iR X.K H3 a2 ws:=iR.mono x3.up hb;have r3:=r.mono x3;have C:=r'.mono x3;have l1:=r3.length;have l2:=C.length;refine⟨⟨vs,ws,q,o,?_⟩,λi d hd=>?_⟩
    ·show vs.length<=(ds.zipWith _ es').length\/ws.length<=(ds.zipWith _ es').length;rw[oz];ext
    ·rw[fH]at hd;cases E:ds[i]? with
     |none=>rw[E]at hd;cases hd
     |some d1=>
      cases Y:es'[i]? with
      |none=>rw[E,Y]at hd;cases hd
      |some d2=>
       rw[E,Y]at hd;have O:d=.tup [d1,d2]:=(aN hd).symm;subst O;obtain⟨v1,v,J⟩:=r3.get E;obtain⟨v2,u,c⟩:=C.get Y;refine⟨⟨vs,ws,v1,v2,q,o,v,u⟩,λy H4 g=>?_⟩;obtain⟨T,x,U,L,B,I,H,Q⟩:=g;subst L Q;have l:=I vs q;have h:=H ws o;rw[v]at l;cases l;rw[u]at h;cases h;have G:Ex ρ3 H3 ρ3 (fq H3 T (.tup [v1,v2])):=Ex.new B;exact⟨G,s3.new B,.tup (iR.of kq) (.cons (J.mono G) (.cons (c.mono G) .nil))⟩
   |_=>exact L.elim
  |_=>cases B<;>exact L.elim⟩⟩
end
end MM
namespace PySem.F
theorem nolen_lri:oh (.type "list_reverseiterator") "__len__"=pure none:=by rw[Hj,xS];kernel_rfl
theorem hint_lri:oh (.type "list_reverseiterator") "__length_hint__"=pure (some (.builtin "list_reverseiterator.__length_hint__")):=by rw[Hj,xS];kernel_rfl
end PySem.F
namespace MM
open PySem PySem.Spec PyProof.Rows L2
section
variable{prog:Program}{w:bG}{A:bB}{E:ah->am->Prop}{s:am}{r:av}
theorem Rg{Q:Bool->am->Prop}(l:s.TypeIs (.ref r) "list_reverseiterator")(h:Q false s):aK (bc prog w) A (oX (.ref r)) Q E s:=by
 unfold oX;refine ab (j_ l PySem.F.nolen_lri ?_)
 show aK _ A (specialOf (bj r) (aG "__length_hint__") >>= _) _ _ _;refine ab (j_ l PySem.F.hint_lri ?_);generalize c:("list_reverseiterator.__length_hint__":String)=g
 wp_delta
 rw[show splitId g=some ("list_reverseiterator","__length_hint__") from by subst c;decide +kernel];subst c;refine ab (eX (b:=true) l (by rw[isSubtype_type];kernel_rfl) ?_);exact aq h
end
theorem QV{g:List ah}{c:Array ah}(h:Dm (λi v=>g.toArray[g.toArray.size-1-i]?=some v) c g.toArray.size):c=g.reverse.toArray:=by
 apply F1;apply eC;intro i;have u:c.size=g.length:=by have:=h.1;simpa using this
 by_cases q:i < g.length
 ·have o:c[i]?=some (c[i]'(by ext)):=lX (by ext);have l:=h.2 i _ o;rw[dI,o];simp only[List.getElem?_toArray,aH]at l;rw[nF q];exact l.symm
 ·rw[bX (by simp;ext),bX (by simp;ext)]
theorem b9.reverse:∀{xs:List V}{c:List ah},b9 xs c->b9 xs.reverse c.reverse
 |_,_,.nil=>.nil
 |_,_,.cons r t=>by rw[fT,fT];exact L2.b9.append (b9.reverse t) (.cons r .nil)
section
variable{X:Cx}{a b c e o tg:Expr}{es:List Expr}{pos eg dr cx p p':Pos}{fa fb fc:CE}{ca cb:CA}{K:ak}{ρ:List av}{H:Hp}{st:a_}{te:TE}
theorem R3:SE X (.Dict [] [] pos) (nR false):=X3.of λσ H Q g q u=>by obtain⟨ρ,l,st,B,h,p⟩:=g;have p':∀ρ' H',Ex ρ H ρ' H'->SR X.K ρ' H' (st++[.dct false []])->∀v,dN X.K ρ' H' v (.dic st.length)->Q v H':=p;refine p' (ρ++[q]) _ (Ex.newO u) ((h.new u).keepO (h.fresh u) ⟨[],kq,.nil⟩) _ (.dic ⟨_,kq,.inl rfl⟩ ?_);rw[<- h.len];simp
def AM(X:Cx):TE:=λ_ H Q=>∀p,H p=none->Q (.ref p) (fq H p (iw p []))
theorem Uh:PE X (.Dict [] [] pos) (AM X):=λg s σ H Q I h=>
 FV ⟨.ref s.heap.objs.size,_,I.laid (a:=s.heap.objs.size) (o:=iw s.heap.objs.size []) (t':=s.toks) (λ_ _ q=>al _ q) (ar _)
  (C9 (P:=X.prog) (w:=X.w) (xs:=[]) (bu _) (beq_eq_false_iff_ne.mpr (bC (bA I.big))) .nil (nY s.heap) ⟨_,_,aC _ rfl,rfl⟩),rfl,h _ (I.hok.fresh (ar _))⟩
theorem Tl:SE X (.Dict [] [] pos) (nR true):=Uh.of λσ H Q g q u=>by obtain⟨ρ,l,st,B,h,p⟩:=g;have p':∀ρ' H',Ex ρ H ρ' H'->SR X.K ρ' H' (st++[.dct true []])->∀v,dN X.K ρ' H' v (.dic st.length)->Q v H':=p;refine p' (ρ++[q]) _ (Ex.newO u) ((h.new u).keepO (h.fresh u) ⟨[],kq,.nil⟩) _ (.dic ⟨_,kq,.inr rfl⟩ ?_);rw[<- h.len];simp
theorem KR.zip:∀{ks:List Key}{g:List V}{ds:List D},bZ K ρ H g ds->KR K ρ H (ks.zip g) ((ks.map oD).zip ds)
 |[],_,_,_=>.nil
 |k::ks,_,_,.nil=>.nil
 |k::ks,_,_,.cons r t=>.cons ⟨rfl,r⟩ (KR.zip t)
theorem KR.merge:∀{more:List (Key×V)}{rs:List (D×D)}{es:List (Key×V)}{cp:List (D×D)},KR K ρ H more rs->KR K ρ H es cp->KR K ρ H (lS es more) (tS cp rs)
 |_,_,_,_,.nil,q=>q
 |_,_,es,cp,.cons (a:=p) (b:=q) (l₁:=ps) (l₂:=qs) h t,r=>by
  have z:=KR.put r p.1 h.2;rw[h.1]at z
  show KR K ρ H (lS (L2.mG es p.1 p.2) ps) (tS (kG cp q.1 q.2) qs);exact KR.merge (more:=ps) (rs:=qs) t z
end



































end MM
namespace MM
open PySem PyProof.Rows L2
section
variable{prog:Program}{w:bG}{K:Type}[DecidableEq K]{knd:rQ prog w K}{A:bB}{E:ah->am->Prop}{s:am}{d a:av}{k:K}{xs:List (K×av×ah)}
theorem Sm{dflt:ah}{Q:ah->am->Prop}(hu:knd.room A)
  (c:knd.is s.heap k a) (U:s.heap.DictOfH knd d xs) (T:rE s.heap d xs.length) (hsz:xs.length<=sizeLine)
  (h1:∀p,i7 xs k=some p->Q p.2 { s with toks:=s.toks+knd.draws k })
  (h2:i7 xs k=none->∀h',h'.DictOfH knd d (lB xs k a dflt)->rE h' d (lB xs k a dflt).length->cJ d s.heap h'->Q dflt { s with heap:=h',toks:=s.toks+knd.draws k }):
  aK (bc prog w) A (uR d (.ref a) dflt) Q E s:=by
 obtain⟨o,es,ep,g,Y,hd,G,B,I⟩:=U;obtain⟨o',es',l,C⟩:=T;rw[g]at l;cases l;rw[hd]at C;cases C;unfold uR;refine cE ?_;refine ab (knd.pyHash hu c ?_);refine ab (An (s:={ s with toks:=s.toks+knd.draws k }) hu c g hd G B I (λu=>?_) λj p J=>?_)
 ·have q:k∉xs.map (·.1):=Ao u;have L:=Di u;have H:=storedH_new (a:=a) (v:=dflt) L;have l:=lV G;refine ab (ie (ab (zC (hz:=by ext) (s:={ s with toks:=s.toks+knd.draws k }) g hd (aq
   (h2 L _ ⟨_,_,_,cH _ g (gF (dY hd _)),Y.mapDictKeys _,dY hd _,?_,?_,?_⟩ ?_ (cg ..))))))
  ·rw[H];simp[G,n8]
  ·rw[H];intro x h;rcases aB.mp h with h|h
   ·exact knd.keeps (B x h) g hd (cg ..)
   ·cases ax.mp h;exact knd.keeps c g hd (cg ..)
  ·rw[H,aO,cn];refine⟨I,by simp,λx h y O=>?_⟩;cases ax.mp O;exact λe=>q ((show x=k from e) ▸ h)
  ·rw[H,au];exact⟨_,_,cH _ g (gF (dY hd _)),dY hd _⟩
 ·refine ab (fw (s:={ s with toks:=s.toks+knd.draws k }) g hd ?_);rw[entry_at G j,J];exact ab (ie (aq (h1 p (atKey_of_get I J))))
theorem Vp(hd:(d == cR)=false)(dflt:ah):
  Dj prog w (Builtin.«dict.setdefault» ⟨[.ref d,.ref a,dflt],[]⟩) (λA R s=>knd.room A.in1/\∃k xs,knd.is s.heap k a/\s.heap.DictOfH knd d xs/\rE s.heap d xs.length/\xs.length<=sizeLine /\
   (∀p,i7 xs k=some p->R (.ok (.ret p.2)) { s with toks:=s.toks+knd.draws k }) /\
   (i7 xs k=none->∀h',h'.DictOfH knd d (lB xs k a dflt)->rE h' d (lB xs k a dflt).length->cJ d s.heap h'->R (.ok (.ret dflt)) { s with heap:=h',toks:=s.toks+knd.draws k })):=
 .of_wp λA R s z=>by
  obtain⟨hu,k,xs,c,q,l,hz,B,v⟩:=z;unfold Builtin.«dict.setdefault»;refine ab ?_;unfold o6;refine ab (iy q.typeIs ?_)
  show aK _ _ (pure (d,bj a,some dflt)) _ _ s;refine aq ?_
  show aK _ _ (if (d == cR)=true then _ else (uR d (.ref a) dflt >>= _)) _ _ s;rw[aA (by rw[hd];exact bo)];exact ab (Sm hu c q l hz (λp l=>aq ⟨p.2,rfl,B p l⟩) λu h' o h g=>aq ⟨dflt,rfl,v u h' o h g⟩)
end
section
variable{X:Cx}{ap:List (av×Obj)}{σ:St}{H:Hp}{s:am}{ρ:List av}{st:a_}{a:av}
theorem T_{n:Nat}{g:List (D×D)}{k d:D}{y v:V}{u L:ah}{Q:ah->am->Prop}{E:ah->am->Prop}{A:bB}(hu:A.units+2 < cC)(I:Inv X ap σ H s)(sr:SR X.K ρ H st)(ha:ρ[n]?=some a)(hn:st[n]?=some (.dct true g))
  (rk:dN X.K ρ H y k) (hk:m_ true k=true) (hl:g.length < sizeLine) (rv:dN X.K ρ H v d) (ry:RelV y u) (rr:RelV v L)
  (h1:∀d',lN g k=some d'->∀B w' C,Inv X ap σ H C->dN X.K ρ H B d'->RelV B w'->Q w' C)
  (h2:lN g k=none->∀H' C,Inv X ap σ H' C->SR X.K ρ H' (st.set n (.dct true (kG g k d)))->Ex ρ H ρ H'->Q L C):
  aK (bc X.prog X.w) A (call (.builtin "dict.setdefault") [.ref a,u,L]) Q E s:=by
 have Y:=(ac.mp hn).1;obtain⟨O,e,r⟩:=sr.ob n a _ ha hn;obtain⟨k,rfl⟩:=CP hk;obtain⟨_,hd,xs,T,dd,de⟩:=xF I e r;obtain⟨c,e2,e3,hc⟩:=BO I rk ry;subst e2 e3;have w:=sr.putO (o':=.dct true (kG g (rp k) d)) (u':=iw a (putN O k c v)) Y ha e (by show (2:Nat)≠3;decide) rfl ⟨_,kq,(NR.put r k c rk rv).up ?_⟩
 ·have hz : xs.length <= sizeLine := by rw[<- dj T,NR.length r];ext
  have l:=NR.val r k;have h:=NX.val T k;refine rR vY dd.typeIs F.entry_dict_setdefault (F.args_dict_setdefault_3 _ _ _) (Vp (knd:=Ab X) hd L) ⟨show A.in1.units+1 < cC from hu,k,xs,hc,dd,de,hz,λp U=>?_,λU h' J o u=>?_⟩
  ·rw[U]at h;cases G:valN O k with
   |none=>rw[G]at h;exact h.elim
   |some B=>
    rw[G]at l h;cases el:lN g (rp k) with
    |none=>rw[el]at l;exact l.elim
    |some d'=>
     rw[el]at l;exact h1 d' el B p.2 _ (I.tok _) l h
  ·rw[U]at h;cases G:valN O k with
   |some B=>rw[G]at h;exact h.elim
   |none=>
    rw[G]at l;cases el:lN g (rp k) with
    |some d'=>rw[el]at l;exact l.elim
    |none=>
     refine h2 el _ _ ?_ w.1 w.2;have C:∃q,h'.get? a=some q:=let ⟨q,_,_,hq,_⟩:=J;⟨q,hq⟩
     refine C2 I (by rw[e];exact da) u C (C9 ?_ hd (NX.put T k c rr) J o);have:=K1 O k c v;rw[NR.length r]at this;ext
 ·refine⟨⟨[],by simp⟩,λc o g q=>?_,λc o q=>?_⟩
  ·rw[fI λz=>by subst z;rw[e]at q;cases q;exact nomatch g];exact q
  ·by_cases z:c=a
   ·subst z;rw[e]at q;cases q;exact⟨_,kq,rfl⟩
   ·exact⟨o,by rw[fI z];exact q,rfl⟩
end
open PySem.W
section
variable{prog:Program}{w:bG}{A:bB}{E:ah->am->Prop}{s:am}{d it:av}{es:Array ky}{ep i:Nat}
noncomputable def mH(h:bQ)(d:av)(es:Array ky)(ep:Nat):Prop:=∃o,h.get? d=some o/\o.ExactDict/\o.data=.dict es ep
theorem mH.typeIs(x:mH s.heap d es ep):s.TypeIs (.ref d) "dict":=by obtain⟨o,g,c,_⟩:=x;exact⟨o,g,c.1⟩
theorem mH.keep{h h':bQ}(x:mH h d es ep)(k:∀o,h.get? d=some o->h'.get? d=some o):mH h' d es ep:=by obtain⟨o,g,r⟩:=x;exact⟨o,k o g,r⟩
theorem mH.lt{h:bQ}(x:mH h d es ep):d < h.objs.size:=by obtain⟨o,g,_⟩:=x;exact aJ g
theorem LA{Q:ah->am->Prop}(hd:(d == cR)=false)(x:mH s.heap d es ep)
  (q:Q (.ref s.heap.objs.size) { s with heap:=s.heap.push { cls:=.type "dict_keyiterator",data:=.fields #[.ref d,.int 0 0,.int es.size 0,.int ep 0] } }):
  aK (bc prog w) A (Cr (.ref d)) Q E s:=by
 have T:=x.typeIs;obtain⟨o,g,c,h⟩:=x;refine Dn T CD (cG CD T F.entry_dict_iter ?_ (F.args_dict_iter_1 _));unfold Builtin.«dict.__iter__» Builtin.Dict.dictSlotNone;refine ab (ab (iy T ?_))
 show aK _ _ (pure (bj d)) _ _ s;refine aq ?_
 show aK _ _ (iQ d >>= _) _ _ s;unfold iQ;rw[aA (by rw[hd];exact bo)];refine ab (aq (ab (fw g h (ab (kf g h ?_)))));refine ab (bK (aq ⟨_,rfl,"dict_keyiterator",_,⟨_,aC _ rfl,rfl⟩,ii.lookup,?_⟩));simpa [kL] using q
theorem OD{e:ky}{Q:Option ah->am->Prop}(z:s.heap.IsKeyIter it d i es.size ep)(x:mH s.heap d es ep)(C:es[i]?=some e)
  (q:∀h',h'.IsKeyIter it d (i+1) es.size ep->cJ it s.heap h'->Q (some e.key) { s with heap:=h' }):aK (bc prog w) A (ko (.ref it)) Q E s:=by
 have T:=z.typeIs;obtain⟨o,g,c,h⟩:=id z;obtain⟨G,u,H,v⟩:=x;unfold ko;refine ab (i8 (b8 (name:=aG "__next__") T ii (cG ii T sj ?_ (rS _))));refine ab (aq (ab (ab ?_)))
 first|refine ab (gZ T (aq ?_))|refine ab (i_ T (aq ?_))
 refine ab (pq g h ?_);have B:eM "dict_keyiterator"=false:=by decide
 simp only[B,aQ,if_false]
 show aK _ _ (if (bj d == bV)=true then _ else _) _ _ s;rw[aA (show ¬ ((bj d == bV)=true) from bo)];refine ab (aq (ab (fw u v ?_)));rw[aA (by simp)];refine ab (aq (ab (kf u v ?_)));rw[aA (by simp)];refine aq ?_;simp only[show ¬ ((i:Int) < 0) from by ext,if_false,bv,C];refine ab ?_
 first|refine ab (gZ T (aq ?_))|refine ab (i_ T (aq ?_))
 refine ab (xT T ?_)
 show aK _ _ (zJ (.ref it) 1 (kL ((i:Int)+1)) >>= _) _ _ s;refine ab (mN g h (by simp) ?_);have l:(s.heap.update it (Do (·.setIfInBounds 1 (kL ((i:Int)+1))))).IsKeyIter it d (i+1) es.size ep:=
  ⟨_,cH _ g (vf (lW h _)),(xQ ..).trans c,by rw[lW h];simp[kL]⟩
 refine ab (cE (ab (xT (s:={ s with heap:=s.heap.update it (Do (·.setIfInBounds 1 (kL ((i:Int)+1)))) }) l.typeIs ?_)))
 show aK _ _ (pure e.key) _ _ _;exact aq (aq ⟨_,rfl,aq (q _ l (cg ..))⟩)
theorem LQ{Q:Option ah->am->Prop}(hh:A.handled=none)(z:s.heap.IsKeyIter it d i es.size ep)(x:mH s.heap d es ep)(B:es[i]?=none)
  (q:∀h',nV it s.heap h'->Q none { s with heap:=h' }):aK (bc prog w) A (ko (.ref it)) Q E s:=by
 have T:=z.typeIs;obtain⟨o,g,c,l⟩:=id z;obtain⟨C,h,G,u⟩:=x;unfold ko;refine ab (i8 (b8 (name:=aG "__next__") T ii (cG ii T sj ?_ (rS _))));refine ab (aq (ab (ab ?_)))
 first|refine ab (gZ T (aq ?_))|refine ab (i_ T (aq ?_))
 refine ab (pq g l ?_);have v:eM "dict_keyiterator"=false:=by decide
 simp only[v,aQ,if_false]
 show aK _ _ (if (bj d == bV)=true then _ else _) _ _ s;rw[aA (show ¬ ((bj d == bV)=true) from bo)];refine ab (aq (ab (fw h u ?_)));rw[aA (by simp)];refine ab (aq (ab (kf h u ?_)));rw[aA (by simp)];refine aq ?_;simp only[show ¬ ((i:Int) < 0) from by ext,if_false,bv,B];refine ab ?_
 first|refine ab (gZ T (aq ?_))|refine ab (i_ T (aq ?_))
 show aK _ _ (zJ (.ref it) 0 .none >>= _) _ _ s;refine ab (mN g l (by simp) ?_)
 show aK _ _ (xx (.type "StopIteration") [] >>= _) _ _ _;refine ab ?_;simp only[xx,zE];refine ab (bK ?_ (by size_fits));refine ab (m:=kQ _ _) (m6 (a:=bV) (by first|rfl|(simp only[kQ];rfl)) (bK ?_ (by size_fits)));simp only[raiseNew];refine ab (vX ?_);rw[show A.in1.handled=none from hh];refine ab (aq (zF ?_));refine ab (eX (T:="StopIteration") (b:=true) ⟨_,aC _ rfl,rfl⟩ pj ?_);exact aq (q _ (((cg ..).extBut.push _).push _))
theorem Vu(hh:A.handled=none)(I d:av)(B:d≠I)(es:Array ky)(ep:Nat):
  Walks prog w A I [I,d] [I] es.size (λi v=>∃e,es[i]?=some e/\v=e.key) (λi h=>h.IsKeyIter I d i es.size ep/\mH h d es ep) where
 sub:=λb c=>by simp at c;simp[c]
 frame:=λ_ _ _ z k=>⟨z.1.at λo e=>k I (by simp) o e,z.2.keep λo e=>k d (by simp) o e⟩
 item:=λi s Q E C z q=>by
  have g:es[i]?=some es[i]:=by simp[C]
  refine OD z.1 z.2 g λh' u l=>?_;exact q _ h' s.toks ⟨_,g,rfl⟩ ⟨u,z.2.keep λo e=>l.extBut d o B e⟩ λb o c e=>l.extBut b o (λh=>c (by simp[h])) e
 done:=λs Q E z q=>LQ hh z.1 z.2 (by simp) λh' G=>q h' s.toks λb o c e=>G b o (λh=>c (by simp[h])) e
 self:=λ_ _ _ _ z q=>zK z.1 q
theorem V2(lo:(d == cR)=false):KdlSrc prog w "dict" d d es.size (λi v=>∃e,es[i]?=some e/\v=e.key) (λh=>mH h d es ep) where
 type:=λ_ x=>x.typeIs
 there:=λ_ x=>⟨x.lt,x.lt⟩
 keep:=λ_ _ x k=>x.keep λo e=>k d (.inl rfl) o e
 notList:=by decide
 notTuple:=by decide
 hint:=λ_ _ _ _ x q=>kdl_hint_dict x.typeIs q
 iter:=λ_ _ hh x=>⟨_,_,(λ_ _ q=>LA lo x q),Vu hh _ d (bA x.lt) es ep,⟨⟨_,aC _ rfl,rfl,rfl⟩,x.keep λo e=>al _ e⟩⟩
end
end MM
namespace MM
open PySem
def nj:D->M D
 | .dic n=>bnd (getDc n) λp=>chk (p.1=true) (alloc (.lst (p.2.map (·.1))))
 |_=>bad
def lO(n:Nat)(k v:D):M D:=bnd (getDc n) λp=>chk (p.1=true/\m_ true k=true/\p.2.length < eS) (match lN p.2 k with
 |some d=>ret d
 |none=>bnd (pF n true (kG p.2 k v)) λ_=>ret v)
def oO(a b c:CE):CE:=λl=>bnd (a l) λx=>match x with
 | .dic n=>bnd (getDc n) λp=>chk (p.1=true) (bnd (b l) λy=>bnd (c l) λz=>lO n y z)
 |_=>bad
def qI(g:List D->M D)(a:CA)(d:D):CE:=λl=>bnd (a l) λds=>g (ds++[d])
open PySem.W PyProof.Rows L2
section
variable{X:Cx}
theorem NX.refs{c:List (NK×av×V)}{xs:List (NK×av×ah)}(r:NX c xs):L2.b9 (c.map λp=>V.ref p.2.1) (xs.map λx=>bj x.2.1):=by
 induction r with
 |nil=>exact .nil
 |cons h t ih=>exact .cons (by dsimp only;rw[h.2.1];rfl) ih
theorem PR(hc:X.calm=true):CallR X (.type "list") (λT H Q=>∃a C ρ E,T=[.ref a]/\H a=some (iw a C)/\NR X.K ρ H C E/\∀l,H l=none->Q (.ref l) (fq H l (.lst (C.map λp=>V.ref p.2.1)))):=by
 intro U s σ H T us Q I r h;obtain⟨a,C,ρ,E,rfl,e,nr,q⟩:=h;obtain⟨u,rfl,J⟩:=uI r;cases J;obtain⟨hz,hd,xs,J,dd,_⟩:=xF I e nr;obtain⟨o,O,ep,g,c,gd,Y,_⟩:=id dd;have hn:O.size=xs.length:=lV Y;have hl:C.length=xs.length:=dj J;refine kdl_call (V2 (ep:=ep) hd) (I.ok.hd hc) ⟨o,g,c,gd⟩ (by ext) λh' tk B c' kp hS v=>?_;have ea:B=(xs.map λx=>bj x.2.1).toArray:=by
  apply F1;apply eC;intro i;rw[dI,aj];cases L:xs[i]? with
  |none=>
   have:=List.getElem?_eq_none_iff.mp L;rw[uc (by rw[v.1];ext)];rfl
  |some x=>
   have hi:=(ac.mp L).1;have G:i < B.size:=by rw[v.1];ext
   rw[lX G];obtain⟨en,e1,e2⟩:=v.2 i B[i] (lX G);rw[entry_at Y i,L]at e1;cases e1;rw[e2];rfl
 rw[ea]at hS;exact⟨.ref s.heap.objs.size,_,I.laid (t':=tk) kp (ar _) (show eT X.prog X.w _ h' _ (.lst (C.map λp=>V.ref p.2.1)) from ⟨by rw[ae];exact hz,_,c',J.refs,hS⟩),rfl,q _ (I.hok.fresh (ar _))⟩
theorem NR.keys{K:ak}{ρ:List av}{H:Hp}{g:List (NK×av×V)}{c:List (D×D)}(r:NR K ρ H g c):bZ K ρ H (g.map λp=>V.ref p.2.1) (c.map (·.1)):=by
 induction r with
 |nil=>exact .nil
 |cons h t ih=>exact .cons h.2.1 ih
theorem T9(I:X.calm=true):CallR X (.type "list") (λxs H Q=>∃v,xs=[v]/\v_ X.K nj v H Q):=(PR I).of λxs H Q z=>by
 obtain⟨v,e,ρ,st,d,c,B,p⟩:=z;cases B with
 |@dic a n _ h=>
  obtain⟨b,g,O,E⟩:=aV.getDc (aV.bnd p) c;obtain⟨J,C⟩:=aV.chk E;cases (show b=true from J);obtain⟨q,L,r⟩:=c.ob n a _ h O;refine⟨a,q,ρ,g,e,L,r,λl o=>?_⟩;have G:=c.fresh o;have u:SR X.K (ρ++[l]) (fq H l (.lst (q.map λp=>V.ref p.2.1))) (st++[.lst (g.map (·.1))]):=(c.new o).keep kq G ((NR.keys r).mono (Ex.new o));refine C _ _ (Ex.newL o) u _ (.ref ⟨_,kq,rfl⟩ ?_);rw[<- c.len];simp
 |_=>exact p.elim
theorem LK{o e:Expr}{u:List Expr}{to:TE}{t:TA}{name:Str}{C l:Pos}{id:String}{r:V->List V->Hp->VK->Prop}(slot:Slot "dict" name id)(T:typeOf (.builtin id)=pure (.type "method_descriptor"))(hm:CL X id r)(ho:PE X o to)(ha:PA X (e::u) t)
  (G:dh o name X.env (eval o X.env)=eval o X.env)
  (L:((eI l (aF (e::u) X.env)).all (λx => !x.1)&&(nN l (kt [] X.env)).all (λx=>x.1.isSome)&&decide ((e::u).length+([]:List ia).length+(if ([]:List ia).isEmpty then 0 else 1) < 30))=true)
  (E:(C.endLine == l.line)=true) (hs:aF (e::u) X.env=(false,eval e X.env)::aF u X.env) (B:(eI l (aF u X.env)).any (·.1)=false):
  PE X (.Call (.Attribute o name C) (e::u) [] l) (λσ H Q=>to σ H λx O=>(∃a u ρ J,x=.ref a/\O a=some (iw a u)/\NR X.K ρ O u J)/\t σ O λxs H2=>r x xs H2 Q):=by
 intro q s σ H Q I h;refine xq G L E rfl (fS (ho q s σ H _ I h) λv s1 z=>?_);obtain⟨x,O,I1,r1,⟨a,es',ρ,J,rfl,e1,nr⟩,q1⟩:=z;cases r1;obtain⟨_,_,_,_,dd,_⟩:=xF I1 e1 nr;have Y:=dd;obtain⟨ob,_,_,g,c,_⟩:=Y;refine⟨"dict",id,Ar,slot,T,dd.typeIs,λb U=>by injection U with U;subst U;exact⟨ob,g,c.2.1⟩,?_⟩;have hA:=ha l q s1 σ O _ I1 q1;rw[hs]at hA ⊢;refine i6 (by show (false||(eI l (aF u X.env)).any (·.1))=false;rw[B]<;>rfl) (uL (fS hA λus s2 z=>?_));obtain⟨vs,H2,I2,r2,q2⟩:=z;exact hm q s2 σ H2 (.ref a) vs _ us Q I2 rfl r2 q2
def u3(X:Cx):V->List V->Hp->VK->Prop:=λx h H Q=>∃(a:av)(ρ:List av)(st:a_)(n:Nat)(cp:List (D×D))(k d:D)(y v:V),x=.ref a/\h=[y,v]/\SR X.K ρ H st/\ρ[n]?=some a/\st[n]?=some (.dct true cp)/\dN X.K ρ H y k/\m_ true k=true/\cp.length < sizeLine/\dN X.K ρ H v d /\
 (∀d',lN cp k=some d'->∀g,dN X.K ρ H g d'->Q g H)/\(lN cp k=none->∀c,SR X.K ρ c (st.set n (.dct true (kG cp k d)))->Ex ρ H ρ c->Q v c)
theorem R5(hu:X.A.units+60 < cC):CL X "dict.setdefault" (u3 X):=by intro q s σ H x vs u us Q I L O h;obtain⟨a,ρ,st,n,cp,k,d,y,v,rfl,rfl,E,ha,hn,T,hk,hl,U,h1,h2⟩:=h;cases L;obtain⟨u1,u2,rfl,Y,o⟩:=O.two;exact T_ (by ext) I E ha hn T hk hl U Y o (λd' e l w' J g r' c=>⟨l,H,g,c,h1 d' e l r'⟩) λe B J g G C=>⟨v,B,g,o,h2 e B G C⟩
theorem VA{o G q : Expr}{fa fb fc : CE}{u c : Pos}(hu : X.A.units+60 < cC)(ho : SE X o fa)(ha : SE X G fb)(hb : SE X q fc)(C : dh o "setdefault" X.env (eval o X.env) = eval o X.env := by rfl)
  (J:((eI c (aF [G,q] X.env)).all (λx => !x.1)&&(nN c (kt [] X.env)).all (λx=>x.1.isSome)&&decide ([G,q].length+([]:List ia).length+(if ([]:List ia).isEmpty then 0 else 1) < 30))=true:=by rfl)
  (B:(u.endLine == c.line)=true:=by rfl) (hs:aF [G,q] X.env=(false,eval G X.env)::aF [q] X.env:=by rfl) (hs2:aF [q] X.env=(false,eval q X.env)::aF [] X.env:=by rfl) (g:(eI c (aF [q] X.env)).any (·.1)=false:=by rfl):
  SE X (.Call (.Attribute o "setdefault" u) [G,q] [] c) (oO fa fb fc):=
 (LK vY F.type_dict_setdefault (R5 hu) ho (rX ha (rX hb u_ hs2) hs) C J B hs g).of λσ H Q h_=>h_.el λρ l st lr sr p=>⟨ρ,l,st,lr,sr,p.bnd.imp λd T ρ1 H1 x1 Y p1 v rv=>by
  cases rv with
  |@dic a n kk h=>
   obtain⟨b,I,e0,p2⟩:=aV.getDc (aV.bnd p1) Y;obtain⟨hb0,p3⟩:=aV.chk p2;cases (show b=true from hb0);obtain⟨es0,e3,r0⟩:=Y.ob n a _ h e0;refine⟨⟨a,es0,ρ1,I,rfl,e3,r0⟩,?_⟩;refine⟨ρ1,l,T,lr.mono x1,Y,(aV.bnd p3).imp λdy O ρ2 H2 x2 s2 p4 y ry=>⟨ρ2,l,O,(lr.mono x1).mono x2,s2,(aV.bnd p4).imp λdz L ρ3 H3 x3 U p5 z rz=>?_⟩⟩
   show u3 X (.ref a) [y,z] H3 Q;obtain⟨b,cp,e5,p6⟩:=aV.getDc (aV.bnd p5) U;obtain⟨⟨hb5,hk,hl⟩,E⟩:=aV.chk p6;cases (show b=true from hb5);have h3:ρ3[n]?=some a:=by obtain⟨τ,e,_⟩:=(x2.trans x3).pre;rw[e];exact w8 h
   refine⟨a,ρ3,L,n,cp,dy,dz,y,z,rfl,rfl,U,h3,e5,ry.mono x3,hk,hl,rz,λd' e v' rv'=>?_,λe H' s4 x4=>?_⟩
   ·dsimp only at E;rw[e]at E;exact E.ret U v' rv'
   ·dsimp only at E;rw[e]at E;have c:=aV.bnd E;unfold pF at c;rw[e5]at c;exact (c ρ3 _ x4 s4).ret s4 _ (rz.mono x4)
  |_=>exact p1.elim⟩
end
end MM
namespace MM
open PySem
noncomputable def t9(n:Nat)(ks:List D):a_->Prop:=λs=>∃c,s[n]?=some (.dct true c)/\c.map (·.1)=ks
def tU(a:CE):CI:=λl=>bnd (a l) λx=>match x with
 | .dic n=>bnd (getDc n) λp=>chk (p.1=true) (ret ⟨p.2.map (·.1),t9 n (p.2.map (·.1))⟩)
 |_=>bad
open PySem.W PyProof.Rows L2
theorem Ft{α β:Type}{F:α->β->Prop}:∀{l₁:List α}{l₂:List β}{i:Nat}{x:α},kK F l₁ l₂->l₁[i]?=some x->∃y,l₂[i]?=some y/\F x y
 |_,_,_,_,.nil,e=>by simp at e
 |_,_,0,_,.cons r _,e=>by simp at e;subst e;exact⟨_,rfl,r⟩
 |_,_,i+1,_,.cons _ t,e=>by obtain⟨v,g,c⟩:=Ft (i:=i) t (by simpa using e);exact⟨v,by simpa using g,c⟩
def O6(a:av)(n:Nat):It:=
 ⟨λi H=>∃c p,H a=some (iw a c)/\c.length=n/\c[i]?=some p,λi H x g=>g=H/\∀c,H a=some (iw a c)->∃p,c[i]?=some p/\x=.ref p.2.1,λi H=>∃c,H a=some (iw a c)/\c.length=n/\n<=i⟩
section
variable{X:Cx}{ap:List (av×Obj)}{σ:St}{H:Hp}{s:am}{ρ:List av}{st:a_}{a:av}
theorem F6{g:List (NK×av×V)}(I:Inv X ap σ H s)(e:H a=some (iw a g)):
  g.length<=sizeLine/\(a == cR)=false/\∃c,mH s.heap a c g.length/\c.size=g.length/\∀(i:Nat)(p:NK×av×V),g[i]?=some p->∃v:ky,c[i]?=some v/\v.key=.ref p.2.1:=by
 obtain⟨⟨z,y,xs,h,o,c,ep,L,J,G,u,T,E⟩,Q,O⟩:=(show eT X.prog X.w H s.heap a (iw a g) from I.hok a _ e)
 have l:g.length=xs.length:=dj h;subst E;refine⟨z,y,c,⟨o,L,J,by rw[l];exact G⟩,?_,λi p C=>?_⟩
 ·rw[l,<- d_,u,ae]
 ·obtain⟨q,B,r⟩:=Ft h C;refine⟨BS q,by rw[<- dI,u,aj,B];rfl,?_⟩;rw[r.2.1];rfl
end
theorem Qu{P:Program}{w:bG}{K:ak}{tg:Expr}(a g:av)(n:Nat):rm P w K tg (O6 a n) [g] g (λi h=>h.IsKeyIter g a i n n) where
 mem:=by simp
 obj:=λi h st b C=>by
  have e:b=g:=by simpa using C
  subst e;obtain⟨o,e,c,d⟩:=st;exact⟨o,e,λv z=>by rw[d]at z;cases z⟩
 keep:=λi h h' st k=>st.at λo e=>k g (by simp) o e
 item:=by
  intro X hP U hK hc i l s σ H E I L st hg;subst hP U hK;obtain⟨es,p,Y,hn,T⟩:=hg;obtain⟨_,_,G,O,hz,hk⟩:=F6 I Y;obtain⟨u,hu,ku⟩:=hk i p T;obtain⟨f0,f1,f2,f3,f4,f5⟩:=L g (by simp);subst hn;have q:s.heap.IsKeyIter g a i G.size es.length:=by rw[hz];exact st
  refine OD q O hu λh' B sb=>?_;rw[hz]at B;have I1:Inv X l σ H { s with heap:=h' }:=I.turned (t':=s.toks) (λb o C e=>(sb.2 b C).trans e) f0 f1 f3 f4 f5;obtain⟨o,e,c,d⟩:=id B;exact⟨u.key,rfl,EL (s:={ s with heap:=h' }) e c d (by decide) ⟨.ref p.2.1,H,I1,ku,⟨rfl,λys hy=>by
   obtain⟨_,_,es2,en2,hz2,hk2⟩:=F6 I hy;obtain⟨o1,g1,_,d1⟩:=O;obtain⟨o2,g2,_,Q⟩:=en2;rw[g1]at g2;cases g2;rw[d1]at Q;injection Q with Q d3
   subst Q;have hi:i < ys.length:=by rw[<- d3];exact (ac.mp T).1
   obtain⟨v,hv,J⟩:=hk2 i _ (ag hi);rw[hu]at hv;cases hv;rw[ku]at J;injection J with J
   exact⟨_,ag hi,by rw[J]⟩⟩,B,λb C=>(L b C).1⟩⟩
 done:=by
  intro X hP U hK hc i l s σ H E I L st hg;subst hP U hK;obtain⟨es,Y,hn,T⟩:=hg;obtain⟨_,_,G,O,hz,hk⟩:=F6 I Y;obtain⟨f0,f1,f2,f3,f4,f5⟩:=L g (by simp);subst hn;have q:s.heap.IsKeyIter g a i G.size es.length:=by rw[hz];exact st
  exact LQ (I.ok.hd hc) q O (by simp;ext) λh' eb=>⟨rfl,I.turned (t':=s.toks) (λb o C e=>eb b o C e) f0 f1 f3 f4 f5⟩
 self:=λ_ _ _ _ _ st h=>zK st h
section
variable{X:Cx}{tg e:Expr}{fa:CE}
theorem T6{l:Expr}{E:TE}(L:PE X l E):PI X tg l (λσ H R=>E σ H λx C=>∃a u,x=.ref a/\C a=some (iw a u)/\R (O6 a u.length) C):=by
 intro c s σ H R I h;refine fS (L c s σ H _ I h) λv g z=>?_;obtain⟨x,C,B,G,a,u,e,J,q⟩:=z;subst e;cases G;obtain⟨hz,hd,Q,T,sz,_⟩:=F6 B J;refine LA hd T ?_;refine⟨g.heap.objs.size,[g.heap.objs.size],_,_,C,rfl,B.kept (t':=g.toks) λb o e=>al _ e,Qu a _ u.length,⟨_,aC _ rfl,rfl,by rw[sz];rfl⟩,λb O=>?_,q⟩;have e:b=g.heap.objs.size:=by simpa using O
 subst e;exact B.fpOk (ar _) (B.hok.fresh (ar _))
theorem S7(h:SE X e fa):SI X tg e (tU fa):=(T6 h).of λσ H R h_=>h_.el λρ l st lr Q p=>⟨ρ,l,st,lr,Q,p.bnd.imp λd O ρ1 H1 x1 u I v T=>by
 cases T with
 |@dic a n _ h=>
  obtain⟨b,C,e,p2⟩:=aV.getDc (aV.bnd I) u;obtain⟨hb,Y⟩:=aV.chk p2;cases (show b=true from hb);obtain⟨E,e3,r⟩:=u.ob n a _ h e;refine⟨a,E,rfl,e3,Y.ret u _ λρ H st x s q=>?_⟩;obtain⟨c,e4,L⟩:=q;have ha:ρ[n]?=some a:=by obtain⟨τ,eτ,_⟩:=x.pre;rw[eτ];exact w8 h
  obtain⟨g,G,B⟩:=s.ob n a _ ha e4;have J:g.length=E.length:=by rw[NR.length B,NR.length r,<- ae (f:=(·.1)) (as:=c),L,ae]
  refine⟨⟨g,G,J,by show E.length<=(C.map (·.1)).length;rw[ae,NR.length r];exact ar _⟩,λi d hd=>?_⟩;have o:(c.map (·.1))[i]?=some d:=by rw[L];exact hd
  have hi:i < g.length:=by rw[NR.length B,<- ae (f:=(·.1)) (as:=c)];exact (ac.mp o).1
  refine⟨⟨g,_,G,J,ag hi⟩,λy H' z=>?_⟩;obtain⟨rfl,z⟩:=z;obtain⟨p,hp,rfl⟩:=z g G;refine⟨Ex.refl,s,?_⟩;obtain⟨q,hq,U⟩:=Ft B hp;rw[aj,hq]at o;cases o;exact U.2.1
 |_=>exact I.elim⟩
end
end MM
namespace MM
open PySem
def uv(a b c:CE):CE:=λl=>bnd (a l) λx=>match x with
 | .dic n=>bnd (getDc n) λp=>chk (p.1=true) (bnd (b l) λy=>bnd (c l) λz=>bnd (getDc n) λp=>chk (p.1=true/\m_ true y=true) (ret ((lN p.2 y).getD z)))
 |_=>bad
open PySem.W PyProof.Rows L2
section
variable{prog:Program}{w:bG}{K:Type}[DecidableEq K]{knd:rQ prog w K}{A:bB}{E:ah->am->Prop}{s:am}{d a:av}{k:K}{xs:List (K×av×ah)}
theorem Si(hd:(d == cR)=false)(dflt:ah):
  Dj prog w (Builtin.«dict.get» ⟨[.ref d,.ref a,dflt],[]⟩) (λA R s=>knd.room A.in1/\∃k xs,knd.is s.heap k a/\s.heap.DictOfH knd d xs/\R (.ok (.ret (((i7 xs k).map (·.2)).getD dflt))) { s with toks:=s.toks+knd.draws k }):=
 .of_wp λA R s z=>by
  obtain⟨hu,k,xs,c,g,h⟩:=z;unfold Builtin.«dict.get»;refine ab ?_;unfold o6;refine ab (iy g.typeIs ?_)
  show aK _ _ (pure (d,bj a,some dflt)) _ _ s;refine aq ?_;dsimp only;refine ab (wpAny_dictGet_heap hu c g ?_);cases e:(i7 xs k) with
  |some p=>
   rw[e]at h;exact aq ⟨_,rfl,h⟩
  |none=>
   rw[e]at h;dsimp only[Option.map];unfold Builtin.Dict.missed;rw[aA (by rw[hd];exact bo)];exact ab (aq (aq ⟨_,rfl,h⟩))
end
section
variable{X:Cx}{ap:List (av×Obj)}{σ:St}{H:Hp}{s:am}{ρ:List av}{st:a_}{a:av}
def DT(X:Cx):V->List V->Hp->VK->Prop:=λx g H Q=>∃(a:av)(ρ:List av)(st:a_)(n:Nat)(cp:List (D×D))(k d:D)(y v:V),x=.ref a/\g=[y,v]/\SR X.K ρ H st/\ρ[n]?=some a/\st[n]?=some (.dct true cp)/\dN X.K ρ H y k/\m_ true k=true/\dN X.K ρ H v d/\∀c,dN X.K ρ H c ((lN cp k).getD d)->Q c H
theorem S4(hu:X.A.units+60 < cC):CL X "dict.get" (DT X):=by
 intro ap s σ H x vs u us Q I C O h;obtain⟨a,ρ,st,n,o,k,d,y,v,rfl,rfl,L,ha,hn,T,hk,U,q⟩:=h;cases C;obtain⟨u1,J,rfl,r1,Y⟩:=O.two;obtain⟨es,e,r⟩:=L.ob n a _ ha hn;obtain⟨k,rfl⟩:=CP hk;obtain⟨_,hd,xs,C,G,_⟩:=xF I e r;obtain⟨c,e2,e3,hc⟩:=BO I T r1;subst e2 e3;have l:=NR.val r k;have g:=NX.val C k;refine rR Dp G.typeIs F.entry_dict_get (F.args_dict_get_3 _ _ _) (Si (knd:=Ab X) hd J) ⟨show X.A.in1.units+1 < cC from (by show X.A.units+1+1 < cC;ext),k,xs,hc,G,?_⟩;cases E:valN es k with
 |none=>
  rw[E]at l g;cases el:lN o (rp k) with
  |some d'=>rw[el]at l;exact l.elim
  |none=>
   rw[el]at q;cases B:i7 xs k with
   |some p=>rw[B]at g;exact g.elim
   |none=>exact⟨v,H,I.tok _,Y,q v U⟩
 |some v'=>
  rw[E]at l g;cases el:lN o (rp k) with
  |none=>rw[el]at l;exact l.elim
  |some d'=>
   rw[el]at l q;cases B:i7 xs k with
   |none=>rw[B]at g;exact g.elim
   |some p=>
    rw[B]at g;exact⟨v',H,I.tok _,g,q v' l⟩
theorem PD{o E q : Expr}{fa fb fc : CE}{u c : Pos}(hu : X.A.units+60 < cC)(ho : SE X o fa)(ha : SE X E fb)(hb : SE X q fc)(C : dh o "get" X.env (eval o X.env) = eval o X.env := by rfl)
  (I:((eI c (aF [E,q] X.env)).all (λx => !x.1)&&(nN c (kt [] X.env)).all (λx=>x.1.isSome)&&decide ([E,q].length+([]:List ia).length+(if ([]:List ia).isEmpty then 0 else 1) < 30))=true:=by rfl)
  (B:(u.endLine == c.line)=true:=by rfl) (hs:aF [E,q] X.env=(false,eval E X.env)::aF [q] X.env:=by rfl) (hs2:aF [q] X.env=(false,eval q X.env)::aF [] X.env:=by rfl) (g:(eI c (aF [q] X.env)).any (·.1)=false:=by rfl):
  SE X (.Call (.Attribute o "get" u) [E,q] [] c) (uv fa fb fc):=
 (LK Dp F.type_dict_get (S4 hu) ho (rX ha (rX hb u_ hs2) hs) C I B hs g).of λσ H Q h_=>h_.el λρ l st lr sr p=>⟨ρ,l,st,lr,sr,p.bnd.imp λd O ρ1 H1 x1 U p1 v rv=>by
  cases rv with
  |@dic a n kk h=>
   obtain⟨b,G,e0,p2⟩:=aV.getDc (aV.bnd p1) U;obtain⟨hb0,p3⟩:=aV.chk p2;cases (show b=true from hb0);obtain⟨es0,e3,r0⟩:=U.ob n a _ h e0;refine⟨⟨a,es0,ρ1,G,rfl,e3,r0⟩,?_⟩;refine⟨ρ1,l,O,lr.mono x1,U,(aV.bnd p3).imp λdy L ρ2 H2 x2 s2 p4 y ry=>⟨ρ2,l,L,(lr.mono x1).mono x2,s2,(aV.bnd p4).imp λdz J ρ3 H3 x3 T p5 z rz=>?_⟩⟩
   show DT X (.ref a) [y,z] H3 Q;obtain⟨b,cp,e5,p6⟩:=aV.getDc (aV.bnd p5) T;obtain⟨⟨hb5,hk⟩,p7⟩:=aV.chk p6;cases (show b=true from hb5);have h3:ρ3[n]?=some a:=by obtain⟨τ,e,_⟩:=(x2.trans x3).pre;rw[e];exact w8 h
   exact⟨a,ρ3,J,n,cp,dy,dz,y,z,rfl,rfl,T,h3,e5,ry.mono x3,hk,rz,λv' Y=>p7.ret T v' Y⟩
  |_=>exact p1.elim⟩
end
end MM
namespace MM
open PySem PyProof.Rows L2
section
open PySem.Builtin.Str
variable{prog:Program}{w:bG}{A:bB}{E:ah->am->Prop}{s:am}
end
abbrev CF:=Str->Loc->M D
end MM
namespace MM
noncomputable def sv(m:Nat):List Nat:=(bH 4).filter λi=>m.testBit i
open PySem PySem.W PyProof.Rows L2
def tb(c:Bool)(m:Nat):SetTable:=⟨7,(sv m).toArray,#[],0,c,0,true⟩
theorem uY:∀c:Bool,∀m:Nat,m < 16->∀v:Nat,v < 4->m.testBit v=false->(tb c m).freeSlot (v:Int)=some (v,false):=by nofun
theorem uB:∀c:Bool,∀m:Nat,m < 16->∀v:Nat,v < 4->m.testBit v=false->(tb c m).put v=(tb c (m ||| 1 <<< v),qu (tb c m).place v)/\(sv (m ||| 1 <<< v))=(sv m).take (qu (tb c m).place v)++v::(sv m).drop (qu (tb c m).place v)/\(m ||| 1 <<< v) < 16:=by nofun
end MM
namespace MM
open PySem PySem.Spec PyProof.Rows L2
structure qz(x:Str):Prop where
 d:(x == ("__debug__":Str))=false
 c:(x == ("__classdict__":Str))=false
 n:x≠"__name__"
theorem Vk{x:Str}(h:((x == ("__debug__":Str))||(x == ("__classdict__":Str))||decide (x=("__name__":Str)))=false):qz x:=by rw[vg,vg]at h;exact⟨h.1.1,h.1.2,of_decide_eq_false h.2⟩
structure Sc(X:Cx)(sc:eO):Prop where
 vis:∀x k,sc.names.lookup x=some k->(k=.local\/k=.cell\/k=.free)->Gr X.env.scope x
 cel:∀x,(sc.names.lookup x=some .cell\/sc.names.lookup x=some .free)->(X.env.kindOf x=some .cell\/X.env.kindOf x=some .free)
 glo:∀x,sc.names.lookup x=some .globalImplicit->Gl X x
 loc:∀x k,sc.names.lookup x=some k->(k=.local\/k=.cell)->L2.Loc X.env.scope x/\(X.fn x=true\/X.env.scope.names.lookup x=some .local)
 calm:X.calm=true
theorem NT{P:Program}{w:bG}{K:ak}{mg:Str->Option ah}{base:bQ}{N:List Str}{qual:Str}{sc:eO}{f:av}{g:ah}{A:bB}{outer:List Env}{s:am}{H:Hp}{E:XK}:
  Sc (rC sU P w K mg base N qual sc f g A outer s H E).nox sc where
 vis:=λx k h c=>by
  rcases c with z|z|z<;>subst z
  ·exact .inl h
  ·exact .inr (.inl h)
  ·exact .inr (.inr h)
 cel:=λx h=>h
 glo:=λx h=>h
 loc:=λx k h c=>⟨by rcases c with z|z<;>subst z;exact .inl h;exact .inr h,.inl rfl⟩
 calm:=rfl
theorem Xq{X:Cx}{N:List Str}{scope:eO}{fp:List av}{s:am}{H:Hp}(l:X.calm=true):Sc (ot X N scope fp s H) scope where
 vis:=λx k h g=>by
  show (ke scope X.env).names.lookup x=_\/(ke scope X.env).names.lookup x=_\/(ke scope X.env).names.lookup x=_;rw[C6,h,eE];rcases g with z|z|z<;>subst z
  ·exact .inl rfl
  ·exact .inr (.inl rfl)
  ·by_cases c:(cf == cf&&X.env.scope.kind == .function&&X.env.kindOf x == some .cell)=true
   ·rw[aE c];exact .inr (.inl rfl)
   ·rw[aA c];exact .inr (.inr rfl)
 cel:=λx h=>by
  show (ke scope X.env).names.lookup x=_\/(ke scope X.env).names.lookup x=_;rcases h with h|h<;>rw[C6,h,eE]
  ·exact .inl rfl
  ·by_cases c:(cf == cf&&X.env.scope.kind == .function&&X.env.kindOf x == some .cell)=true
   ·rw[aE c];exact .inl rfl
   ·rw[aA c];exact .inr rfl
 glo:=λx h=>by show (ke scope X.env).names.lookup x=_;rw[C6,h,eE];rfl
 loc:=λx k h g=>by
  refine⟨?_,.inl ?_⟩
  ·show (ke scope X.env).names.lookup x=_\/(ke scope X.env).names.lookup x=_;rw[C6,h,eE];rcases g with z|z<;>subst z
   ·exact .inl rfl
   ·exact .inr rfl
  ·show decide (scope.names.lookup x=some .local\/scope.names.lookup x=some .cell)=true;rw[h];rcases g with z|z<;>subst z<;>decide
 calm:=l
noncomputable def sD(sc scope:eO):Bool:=
 (scope.kind == .function)&&scope.names.all (λp=>p.2 != .local||scope.names.lookup p.1 == some .local) &&
 scope.names.all (λp=>p.2 != .free||((sc.names.lookup p.1 == some .cell||sc.names.lookup p.1 == some .free) && !scope.names.contains (p.1,.cell)&&scope.names.lookup p.1 != some .local))
theorem NQ{X:Cx}{sc scope:eO}(S:Sc X sc)(h:sD sc scope=true):ij X scope:=by
 unfold sD at h;rw[bU,bU]at h;obtain⟨⟨E,o⟩,l⟩:=h;rw[qv]at o l;have fr:∀x,(x,cf)∈scope.names->(sc.names.lookup x=some .cell\/sc.names.lookup x=some .free)/\(x,iz)∉scope.names/\scope.names.lookup x≠some .local:=λx c=>by have q:=l _ c;simp only[bne_self_eq_false,Cv,bU,qY,beq_iff_eq,xz,bne_iff_ne,ne_eq]at q;obtain⟨⟨v,g⟩,u⟩:=q;refine⟨v,λz=>?_,u⟩;have:scope.names.contains (x,iz)=true:=List.contains_iff_mem.mpr z;rw[this]at g;cases g
 refine⟨by simpa using E,λp B C=>?_,λx c=>S.cel x (fr x c).1,λx c=>(fr x c).2.1,λx c=>(fr x c).2.2⟩;have q:=o p B;rw[C]at q;simpa using q
noncomputable def qF(c:List Str)(scope:eO)(N:List Str)(n:Nat)(ix:List Nat):Bool:=
 N.length == n+ix.length&&(bH ix.length).all λj=>match ix[j]?,N[n+j]? with
  |some i,some x=>c[i]? == some x&&scope.names.lookup x == some .free
  |_,_=>false
theorem MC{X:Cx}{g:List Str}{scope:eO}{N:List Str}{n:Nat}{ix:List Nat}(o:X.N=g)(h:qF g scope N n ix=true):km X scope N n ix:=by unfold qF at h;rw[bU,qv]at h;refine⟨by simpa using h.1,λj i x c l=>?_⟩;have q:=h.2 j (d9.mpr (ac.mp c).1);rw[c,l]at q;simp only[bU,beq_iff_eq]at q;rw[o];exact q
section
variable{X:Cx}{sc:eO}{a b c e o tg:Expr}{es:List Expr}{pos p:Pos}{fa fb fc:CE}{ca cb:CA}{x:Str}{T id:String}
theorem JD(S:Sc X sc)(i:Nat)(l:X.N[i]?=some x){k:fD}(h:sc.names.lookup x=some k)(n:qz x)(g:k=.local\/k=.cell\/k=.free:=by decide):SE X (.Name x pos) (ai i):=SM i (UB l (S.vis x k h g) n.d n.c)
theorem Xr(S:Sc X sc)(i:Nat)(l:X.N.Nodup)(q:X.N[i]?=some x){k:fD}(h:sc.names.lookup x=some k)(g:k=.local\/k=.cell:=by decide):SG X (.Name x pos) (aP i):=
 Th (Ww l q (S.loc x k h g).1 (S.loc x k h g).2)
theorem Yu(S : Sc X sc)(i : Nat)(q : X.N.Nodup)(B : X.N[i]? = some x){k : fD}(h : sc.names.lookup x = some k){g : Pos}(v : SE X e fa)(l : k = .local \/ k = .cell := by decide)(u : kr e (some (.Name x g)) pos.line X.env = pure false := by rfl):
  SS X (.Assign [.Name x g] e pos) (bD (aP i) fa):=Wl q B (S.loc x k h l).1 v u (S.loc x k h l).2
theorem Se{n:Nat}(h:∀l st ds g,ca l st=.ok ds g->ds.length=n):∀l st ds g,az fa ca l st=.ok ds g->ds.length=n+1:=λl st ds g e=>by
 unfold az bnd at e;cases q:fa l st with
 |ok d s1=>
  rw[q]at e;dsimp only at e;cases u:ca l s1 with
  |ok es s2=>
   rw[u]at e;have:=h l s1 es s2 u;cases e;simp[this]
  |exc _ _=>rw[u]at e;cases e
  |bad=>rw[u]at e;cases e
 |exc _ _=>rw[q]at e;cases e
 |bad=>rw[q]at e;cases e
theorem V_:∀l st ds g,bh l st=.ok ds g->ds.length=0:=λl st ds g e=>by cases e;rfl
noncomputable def yI(K:ak)(h:dJ)(g:List Str):Prop:=∀(s:am)(ws:List ah),ws.length=g.length->rJ s h ⟨[],g.zip ws⟩ (g.zip ws)
theorem YQ{k n:Nat}{f:av}{B:dJ}{v:List Str}{g:List D->M D}(S:Sc X sc)(h:sc.names.lookup x=some .globalImplicit)(F:mY X.prog X.w X.K X.mg X.base sU k f B v (o9 X.K n g))(E:kA k X.A)(H:X.mg x=some (.ref f))
  (I:dG X.K (.ref f)=true) (L:Binds X.K B v []) (C:qz x) (O:SA X (e::es) ca) (G:∀l st ds q,ca l st=.ok ds q->ds.length=n)
  (J:aF (e::es) X.env=(false,eval e X.env)::aF es X.env:=by rfl) (u:(eI pos (aF es X.env)).any (·.1)=false:=by rfl):SE X (.Call (.Name x p) (e::es) [] pos) (bN g ca):=
 Q5 F E (S.glo x h) H I L MY O G C.d J u
end
theorem UZ{k:Nat}{X:Cx}(h:kA k X.A):X.A.units+60 < cC:=by have:=h.units;ext
theorem Sg{P:Program}{w:bG}{K:ak}{mg:Str->Option ah}{base:bQ}{x qual:Str}{h:gM}{f:av}{q:dJ}{N o:List Str}{k n m:Nat}{c:CS}(F:wN K x qual h f q)(S:lL N o (bY h))(u:o.length=n)(v:N.length=m)
  (g:∀(l:ah)(A:bB)(outer:List Env)(s:am)(H:Hp)(E:XK),kA k (A.deeper (np qual (bY h) s.heap.objs.size f l))->w9 (rC sU P w K mg base N qual (bY h) f l A outer s H E).nox (eL h) c):
  mY P w K mg base sU (k+1) f q o (o9 K n (cm m c)):=by
 subst u v;exact Ye F S g
theorem NV{K:ak}{ρ:List av}{H:Hp}:∀(c:List Int),bZ K ρ H (c.map V.int) (c.map D.int)
 |[]=>.nil
 |n::c=>.cons (.int n) (NV c)
theorem WF{K:ak}{H:Hp}{a:av}{l:List Int}{g:List D->M D}(u:wP H)(q:gD K H a (l.map V.int))(h:∃c,g [.lit (l.map D.int)] []=.ok (.bl true) c):
  o9 K 1 g [.ref a] H (λv _=>v=.bl true) λ_ _ _=>False:=by
 obtain⟨c,e⟩:=h;have B:xH K H a (l.map V.int):=by
  rcases q with (h|⟨o,h⟩)|h
  ·rcases u a with z|⟨C,xs,z⟩<;>(rw[z]at h;cases h)
  ·exact .inl ⟨o,h⟩
  ·exact .inr h
 refine⟨rfl,[],[],_,⟨rfl,kg,λn b o z=>by cases z⟩,.cons (.lit B (NV l)) .nil,?_⟩;rw[e];intro ρ' H' _ _ v rv;cases rv;rfl
@[elab_as_elim] theorem uz{A:Type}{P:List A->Prop}(h:∀a,P [a])(c:List A)(g:c.length=1):P c:=by
 cases c with
 |nil=>cases g
 |cons a t=>cases t with
  |nil=>exact h a
  |cons b u=>simp at g
@[elab_as_elim] theorem uX{A:Type}{P:List A->Prop}(h:∀o l,P [o,l])(c:List A)(g:c.length=2):P c:=by
 cases c with
 |nil=>cases g
 |cons a t=>exact uz (P:=λt=>P (a::t)) (h a) t (oA g)
@[elab_as_elim] theorem xJ{A:Type}{P:List A->Prop}(h:∀q o l,P [q,o,l])(c:List A)(g:c.length=3):P c:=by
 cases c with
 |nil=>cases g
 |cons a t=>exact uX (P:=λt=>P (a::t)) (h a) t (oA g)
@[elab_as_elim] theorem wA{A:Type}{P:List A->Prop}(h:∀u q o l,P [u,q,o,l])(c:List A)(g:c.length=4):P c:=by
 cases c with
 |nil=>cases g
 |cons a t=>exact xJ (P:=λt=>P (a::t)) (h a) t (oA g)
@[elab_as_elim] theorem Vt{A:Type}{P:List A->Prop}(h:∀v u q o l,P [v,u,q,o,l])(c:List A)(g:c.length=5):P c:=by
 cases c with
 |nil=>cases g
 |cons a t=>exact wA (P:=λt=>P (a::t)) (h a) t (oA g)
structure wT(K:ak)(x qual:Str)(st:gM)(f:av)(fd:dJ)(u:ah):Prop where
 ex:∃(oc:ah)(od:Option av)(kV doc pm:ah)(an:Option av)(cdv ct:ah)(osl:Array (Option ah))(T:av)(o:Obj)(n:Nat),
  fd=c_ x qual (gT st) (eL st) (bY st) (.ref T) kV doc pm an cdv ct/\K.lookup f=some ⟨oc,od,.func fd,osl⟩/\ib K cdv qual=true/\K.lookup T=some o/\o.data=.seq #[u] n
 kp:dG K (.ref f)=true
section
variable{P:Program}{w:bG}{K:ak}{mg:Str->Option ah}{base:bQ}{x qual:Str}{st:gM}{f:av}{fd:dJ}{u:ah}{ps:List Str}
theorem wT.binds{ds:List ah}(F:wT K x qual st f fd u)
  (h:∀(T:av)(kV c q:ah)(v:Option av)(g ct:ah)(l:List ah),(l++ds).length=ps.length->∃k:Option (Array ah)->Sem (List (Str×ah)),rK (c_ x qual (gT st) (eL st) (bY st) (.ref T) kV c q v g ct) ⟨l,[]⟩=mB (.ref T) >>= k/\k (some #[u])=pure (ps.zip (l++ds))):Binds K fd ps ds:=by
 obtain⟨O,L,kV,c,q,v,g,ct,B,T,o,n,rfl,Q,G,lt,C⟩:=F.ex;intro s l J E;obtain⟨k,I,H⟩:=h T kV c q v g ct l E;exact rJ.of_defaults (T:=T) rfl (J T o lt) C I H
theorem Ys{E:ah}{C B:Option av}{q:Array (Option ah)}{kV h v g ct:ah}{T:av}{o:Obj}{n:Nat}(l:K.lookup f=some ⟨E,C,.func (c_ x qual (gT st) (eL st) (bY st) (.ref T) kV h v B g ct),q⟩)
  (c:ib K g qual=true) (k:dG K (.ref f)=true) (lt:K.lookup T=some o) (G:o.data=.seq #[u] n):wT K x qual st f (c_ x qual (gT st) (eL st) (bY st) (.ref T) kV h v B g ct) u:=
 ⟨⟨E,C,kV,h,v,B,g,ct,q,T,o,n,rfl,l,c,lt,G⟩,k⟩
theorem X_{N:List Str}{k n m:Nat}{g:CS}(F:wT K x qual st f fd u)(S:lL N ps (bY st))(hn:ps.length=n)(hm:N.length=m)
  (q:∀(c:ah)(A:bB)(outer:List Env)(s:am)(H:Hp)(E:XK),kA k (A.deeper (np qual (bY st) s.heap.objs.size f c))->w9 (rC sU P w K mg base N qual (bY st) f c A outer s H E).nox (eL st) g):
  mY P w K mg base sU (k+1) f fd ps (o9 K n (cm m g)):=by
 subst hn hm;obtain⟨oc,od,kV,doc,pm,an,c,ct,Y,T,o,n,rfl,lk,G,lt,ht⟩:=F.ex;refine NM lk G S (λJ H Q E h=>h.1) λA outer s H J Q E hr h=>⟨_,(q c A outer s H E hr).nox,?_⟩
 obtain⟨hl,ρ,st,ds,O,C,p⟩:=h;refine⟨ρ,_,st,LR.start C,O,?_⟩;unfold cm at p;exact p.bnd.imp λf L ρ1 H1 x1 I B=>by
  cases f with
  |next l=>exact λσ' _=>B.ret I _ .non
  |ret d=>exact λv U=>B.ret I v U
  |brk l=>exact B.elim
  |cnt l=>exact B.elim
end
section
variable{X:Cx}{sc:eO}{e:Expr}{es:List Expr}{pos p:Pos}{ca:CA}{x:Str}
theorem Rz{k n:Nat}{i:Int}{u:ah}{f:av}{C:dJ}{B:List Str}{g:List D->M D}(S:Sc X sc)(h:sc.names.lookup x=some .globalImplicit)(F:mY X.prog X.w X.K X.mg X.base sU k f C B (o9 X.K n g))(J:kA k X.A)(O:X.mg x=some (.ref f))
  (U:dG X.K (.ref f)=true) (hb:Binds X.K C B [u]) (hu:RelV (.int i) u) (G:qz x) (ha:SA X (e::es) ca) (L:∀l st ds o,ca l st=.ok ds o->ds.length+1=n)
  (Y:aF (e::es) X.env=(false,eval e X.env)::aF es X.env:=by rfl) (v:(eI pos (aF es X.env)).any (·.1)=false:=by rfl):SE X (.Call (.Name x p) (e::es) [] pos) (qI g ca (.int i)):=
 (Ly F J (S.glo x h) O U hb (.cons hu .nil) MY ha G.d Y v).of λσ H Q h_=>h_.el λρ l st I E p=>⟨ρ,l,st,I,E,by
  have q:=aV.bnd p;cases c:ca l st with
  |bad=>rw[c]at q;exact q
  |exc _ _=>rw[c]at q;exact q
  |ok ds ec=>
   rw[c]at q;intro ρ1 H1 x1 s1 vs rvs;have T:=L l st ds ec c;exact⟨by rw[au,rvs.length];exact T,ρ1,ec,ds++[.int i],s1,bZ.app rvs (.cons (.int i) .nil),q ρ1 H1 x1 s1⟩⟩
end
noncomputable def Kt(h h':bQ):Prop:=∀c o,h.get? c=some o->o.cls=.type "tuple"->h'.get? c=some o
structure RZ(prog:Program)(w:bG)(K:Type)[DecidableEq K] where
 is:bQ->K->av->Prop
 hash:K->Int
 draws:K->Nat
 keep:∀{h h':bQ}{k:K}{b:av},Kt h h'->is h k b->is h' k b
 hashes:∀{A:bB}{E:ah->am->Prop}{s:am}{k:K}{b:av}{Q:Int->am->Prop},A.units+1 < cC->is s.heap k b->Q (hash k) { s with toks:=s.toks+draws k }->aK (bc prog w) A (pyHash (.ref b)) Q E s
 eqs:∀{A:bB}{E:ah->am->Prop}{s:am}{x y:K}{a b:av}{Q:Bool->am->Prop},A.units+1 < cC->is s.heap x a->is s.heap y b->Q (decide (x=y)) s->aK (bc prog w) A (eqBool (.ref a) (.ref b)) Q E s
 quiet:∀{A:bB}{E:ah->am->Prop}{s:am}{k:K}{b:av}{Q:Bool->am->Prop},is s.heap k b->Q true s->aK (bc prog w) A (pL 8 (.ref b)) Q E s
 cls:∀{A:bB}{E:ah->am->Prop}{s:am}{k:K}{b:av}{Q:Bool->am->Prop},is s.heap k b->Q false s->aK (bc prog w) A (ofAClassStatement 8 (.ref b)) Q E s
 byv:∀{A:bB}{E:ah->am->Prop}{s:am}{k:K}{b:av}{Q:Bool->am->Prop},is s.heap k b->Q true s->aK (bc prog w) A (hashByValue 8 (.ref b)) Q E s
section
variable{prog:Program}{w:bG}{K:Type}[DecidableEq K](T:RZ prog w K)
variable{T}
variable{A:bB}{E:ah->am->Prop}{s:am}{a:av}{fx:Bool}{m:Nat}{key:Nat->K}{es:Array (Int×ah)}
end
section
variable{prog:Program}{w:bG}{A:bB}{E:ah->am->Prop}{s:am}
theorem items_int{k:List Int}{c:List ah}(h:ItemsAre (pG prog w) k c):∀v∈c,∃i t,v=gA i t:=by
 induction h with
 |nil=>simp
 |cons h1 h2 ih=>
  intro v g;rcases bb.mp g with z|z
  ·subst z;cases v with
   |int i t=>exact⟨i,t,rfl⟩
   |_=>exact nomatch h1
  ·exact ih v z
end
end MM
namespace MM
def uD(x y:D):M D:=match x,y with
 | .int a,.int b=>ret (.int (a+b))
 |_,_=>bad
def qL:D->M D
 | .ref n=>bnd (getL n) λds=>ret (.tup ds.reverse)
 |_=>bad
def qE(a b:CE):CE:=λl=>bnd (a l) λk=>bnd (b l) λv=>match k with
 | .int i=>n0 false (tS [] [(.int i,v)])
 |_=>bad
open PySem PySem.Spec PyProof.Rows L2
set_option genInjectivity false in
structure RF where
 n:Nat
 k:Nat
 ps:List Str
 kw:Bool
 g:List D->M D
set_option genInjectivity false in
structure RC where
 sc:eO
 N:List Str
 k:Nat
 G:List (Str×RF)
 Z:List Str
 C:List (Str×D)
 H:List (Nat×Nat×Nat)
 top:Bool
noncomputable def RC.tag(c:RC)(p:Pos)(t:Nat):Bool:=c.H.contains (p.line,p.col,t)
noncomputable def RC.glo(c:RC)(x:Str):Bool:=c.sc.names.lookup x == some .globalImplicit
noncomputable def uo(x:Str):Bool := !((x == ("__debug__":Str))||(x == ("__classdict__":Str))||decide (x=("__name__":Str)))
theorem CV{x:Str}(h:uo x=true):qz x:=Vk (by unfold uo at h;simpa only[xz] using h)
def EU(K:ak)(g:dJ)(c:List Str):Prop:=if c.getLast?=some (aG "most") then ∃u,RelV (.int 500) u/\Binds K g c [u] else yI K g c
structure GF(P:Program)(w:bG)(K:ak)(mg:Str->Option ah)(base:bQ)(x:Str)(r:RF):Prop where
 ex:∃f fd,mg x=some (.ref f)/\mY P w K mg base sU r.k f fd r.ps (o9 K r.n r.g)/\dG K (.ref f)=true/\Binds K fd r.ps []/\(r.kw=true->EU K fd r.ps)
structure Good(X:Cx)(c:RC):Prop where
 S:Sc X c.sc
 N:X.N=c.N
 nd:X.N.Nodup
 hr:kA c.k X.A
 G:∀x r,c.G.lookup x=some r->GF X.prog X.w X.K X.mg X.base x r
 Z:∀x,c.Z.contains x=true->X.mg x=none
 C:∀x d,c.C.lookup x=some d->∃v u,X.mg x=some u/\RelV v u/\∀ρ H,dN X.K ρ H v d
 ps:sN (bc X.prog X.w) X.A X.env X.xe
 kd:c.top=true->X.env.blockKind=.function/\∀x,X.env.kindOf x=c.sc.names.lookup x
theorem Good.hu{X:Cx}{c:RC}(g:Good X c):X.A.units+60 < cC:=UZ g.hr
noncomputable def r_:Expr->Bool
 | .Starred .. => false
 |_=>true
theorem sw{e:Expr}{c:List Expr}{env:Env}(h:r_ e=true):aF (e::c) env=(false,eval e env)::aF c env:=by cases e<;>first|rfl|exact nomatch h
theorem D3{env:Env}{pos:Pos}:∀{c:List Expr},c.all r_=true->(eI pos (aF c env)).any (·.1)=false
 |[],_=>rfl
 |e::c,h=>by rw[cQ,bU]at h;rw[sw h.1];exact D3 h.2
theorem Lg{env:Env}{pos:Pos}:∀{c:List Expr},c.all r_=true->(eI pos (aF c env)).all (λx => !x.1)=true
 |[],_=>rfl
 |e::c,h=>by rw[cQ,bU]at h;rw[sw h.1];exact Lg h.2
noncomputable def Ht:Expr->Bool
 | .ListComp .. => false
 | .SetComp .. => false
 | .DictComp .. => false
 |_=>true
theorem Nj{e:Expr}{t:Option Expr}{n:Nat}{env:Env}(h:Ht e=true):kr e t n env=pure false:=by cases e<;>first|rfl|exact nomatch h
noncomputable def C1:Expr->Bool
 | .Set .. => false
 |_=>true
theorem Ky{e:Expr}{env:Env}(h:C1 e=true)(x:ah):fv e env x=pure x:=by cases e<;>first|rfl|exact nomatch h
theorem G0{op:uJ}{e:Expr}(h:C1 e=true):gO op e=false:=by cases e<;>first|rfl|exact nomatch h
noncomputable def Ea:Expr->Bool
 | .Call _ [] _ _=>false
 |_=>true
theorem G7{e:Expr}{x:Str}{env:Env}{w:Sem ah}(h:Ea e=true):dh e x env w=w:=by
 cases e with
 |Call f as ks p=>
  cases as with
  |nil=>exact nomatch h
  |cons a as=>unfold dh;cases f<;>rfl
 |_=>rfl
noncomputable def GO:Expr->Bool
 | .Slice .. => false
 |_=>true
theorem Ds{e:Expr}(h:GO e=true):qh e:=by intro o i;cases e<;>first|rfl|exact nomatch h
noncomputable def L1:Expr->Bool
 | .Compare .. => false
 | .BoolOp .. => false
 | .UnaryOp .. => false
 | .IfExp .. => false
 |_=>true
theorem UM{e:Expr}{env:Env}(h:L1 e=true)(w:Sem ah):PySem.isTrue e env w=(do let v <- w;xi e.pos;lq [v] (truthy v)):=by cases e<;>first|rfl|exact nomatch h
abbrev Eg(c:RC)(x:Expr):={r:CE // ∀{X:Cx},Good X c->SE X x r}
abbrev NZ(c:RC)(x:Expr):={r:CA // ∀{X:Cx},Good X c->SL X x r}
abbrev Lm(c:RC)(x:Expr):={r:CT // ∀{X:Cx},Good X c->ST X x r}
abbrev J4(c:RC)(tg x:Expr):={r:CI // ∀{X:Cx},Good X c->SI X tg x r}
abbrev Jt(c:RC)(x:Expr):={r:CG // ∀{X:Cx},Good X c->SG X x r}
abbrev NS(c:RC)(x:gM):={r:CS // ∀{X:Cx},Good X c->SS X x r}
set_option genInjectivity false in
structure sV where
 e:∀(c:RC)(x:Expr),Option (Eg c x)
 l:∀(c:RC)(x:Expr),Option (NZ c x)
 t:∀(c:RC)(x:Expr),Option (Lm c x)
 i:∀(c:RC)(tg x:Expr),Option (J4 c tg x)
 g:∀(c:RC)(x:Expr),Option (Jt c x)
 s:∀(c:RC)(x:gM),Option (NS c x)
abbrev kR:=sV->∀(c:RC)(x:Expr),Option (Eg c x)
abbrev Fu:=sV->∀(c:RC)(x:Expr),Option (NZ c x)
abbrev Fd:=sV->∀(c:RC)(x:Expr),Option (Lm c x)
abbrev vy:=sV->∀(c:RC)(tg x:Expr),Option (J4 c tg x)
abbrev GC:=sV->∀(c:RC)(x:Expr),Option (Jt c x)
abbrev u9:=sV->∀(c:RC)(x:gM),Option (NS c x)
set_option genInjectivity false in
structure rY where
 e:List kR
 l:List Fu
 t:List Fd
 i:List vy
 g:List GC
 s:List u9
noncomputable def uF{α β:Type}(f:α->Option β):List α->Option β
 |[]=>none
 |a::as=>match f a with
  |some b=>some b
  |none=>uF f as
def rh(R:rY):Nat->sV
 |0=>⟨λ_ _=>none,λ_ _=>none,λ_ _=>none,λ_ _ _=>none,λ_ _=>none,λ_ _=>none⟩
 |n+1 => ⟨λc x => uF (λr => r (rh R n) c x) R.e, λc x => uF (λr => r (rh R n) c x) R.l, λc x => uF (λr => r (rh R n) c x) R.t,
   λc tg x=>uF (λr=>r (rh R n) c tg x) R.i,λc x=>uF (λr=>r (rh R n) c x) R.g,λc x=>uF (λr=>r (rh R n) c x) R.s⟩
noncomputable def wh{α:Type}(C:Prop)[Decidable C](k:C->Option α):Option α:=if h:C then k h else none
section
variable{β:Type}
section
variable{α:Type}(e:List α)
noncomputable def v0(k:e=[]->Option β):Option β:=match e,k with
 |[],k=>k rfl
 |_,_=>none
noncomputable def vC(k:∀a as,e=a::as->Option β):Option β:=match e,k with
 |a::as,k=>k a as rfl
 |_,_=>none
def v1(k:∀a,e=[a]->Option β):Option β:=vC e λa as h=>v0 as λc=>k a (c ▸ h)
def v2(k:∀a b,e=[a,b]->Option β):Option β:=vC e λa as h=>v1 as λb c=>k a b (c ▸ h)
end
section
variable{α:Type}(e:Option α)
noncomputable def oN(k:e=none->Option β):Option β:=match e,k with
 |none,k=>k rfl
 |_,_=>none
noncomputable def oS(k:∀a,e=some a->Option β):Option β:=match e,k with
 |some a,k=>k a rfl
 |_,_=>none
end
section
variable(e:Expr)
noncomputable def BR(k:∀x p,e=.Name x p->Option β):Option β:=match e,k with
 | .Name x p,k=>k x p rfl
 |_,_=>none
noncomputable def Ph(k:∀f as ks p,e=.Call f as ks p->Option β):Option β:=match e,k with
 | .Call f as ks p,k=>k f as ks p rfl
 |_,_=>none
noncomputable def Ui(k:∀o x p,e=.Attribute o x p->Option β):Option β:=match e,k with
 | .Attribute o x p,k=>k o x p rfl
 |_,_=>none
noncomputable def Cj(k:∀a b p,e=.Subscript a b p->Option β):Option β:=match e,k with
 | .Subscript a b p,k=>k a b p rfl
 |_,_=>none
noncomputable def OB(k:∀v n p,e=.Constant v n p->Option β):Option β:=match e,k with
 | .Constant v n p,k=>k v n p rfl
 |_,_=>none
noncomputable def QY(k:∀a o b p,e=.BinOp a o b p->Option β):Option β:=match e,k with
 | .BinOp a o b p,k=>k a o b p rfl
 |_,_=>none
noncomputable def PN(k:∀a os bs p,e=.Compare a os bs p->Option β):Option β:=match e,k with
 | .Compare a os bs p,k=>k a os bs p rfl
 |_,_=>none
noncomputable def M0(k:∀o c p,e=.BoolOp o c p->Option β):Option β:=match e,k with
 | .BoolOp o c p,k=>k o c p rfl
 |_,_=>none
noncomputable def EQ(k:∀o a p,e=.UnaryOp o a p->Option β):Option β:=match e,k with
 | .UnaryOp o a p,k=>k o a p rfl
 |_,_=>none
noncomputable def Qh(k:∀t a b p,e=.IfExp t a b p->Option β):Option β:=match e,k with
 | .IfExp t a b p,k=>k t a b p rfl
 |_,_=>none
noncomputable def GQ(k:∀c n p,e=.Tuple c n p->Option β):Option β:=match e,k with
 | .Tuple c n p,k=>k c n p rfl
 |_,_=>none
noncomputable def Us(k:∀c p,e=.List c p->Option β):Option β:=match e,k with
 | .List c p,k=>k c p rfl
 |_,_=>none
noncomputable def I0(k:∀ks c p,e=.Dict ks c p->Option β):Option β:=match e,k with
 | .Dict ks c p,k=>k ks c p rfl
 |_,_=>none
noncomputable def Mc(k:∀a b s p,e=.Slice a b s p->Option β):Option β:=match e,k with
 | .Slice a b s p,k=>k a b s p rfl
 |_,_=>none
noncomputable def Wo(k:∀x c sc p,e=.ListComp x c sc p->Option β):Option β:=match e,k with
 | .ListComp x c sc p,k=>k x c sc p rfl
 |_,_=>none
def G8(k:∀x p as q,e=.Call (.Name x p) as [] q->Option β):Option β:=Ph e λf as ks q h=>BR f λx p g=>v0 ks λc=>k x p as q (g ▸ c ▸ h)
def DG(k:∀x p a q,e=.Call (.Name x p) [a] [] q->Option β):Option β:=G8 e λx p as q h=>v1 as λa c=>k x p a q (c ▸ h)
def IA(k:∀x p a b q,e=.Call (.Name x p) [a,b] [] q->Option β):Option β:=G8 e λx p as q h=>v2 as λa b c=>k x p a b q (c ▸ h)
def T0(k:∀x p y r a q c,e=.Call (.Name x p) [.Call (.Name y r) [a] [] q] [] c->Option β):Option β:=DG e λx p b c h=>DG b λy r a q g=>k x p y r a q c (g ▸ h)
def vM(k:∀o x p as q,e=.Call (.Attribute o x p) as [] q->Option β):Option β:=Ph e λf as ks q h=>Ui f λo x p g=>v0 ks λc=>k o x p as q (g ▸ c ▸ h)
def M6(k:∀a o b p,e=.Compare a [o] [b] p->Option β):Option β:=PN e λa os bs p h=>v1 os λo g=>v1 bs λb c=>k a o b p (g ▸ c ▸ h)
def Ed(k:∀a lo c p q,e=.Subscript a (.Slice lo c none p) q->Option β):Option β:=Cj e λa b q h=>Mc b λlo c s p l=>oN s λg=>k a lo c p q (g ▸ l ▸ h)
end
section
variable(e:gM)
noncomputable def Px(k:∀c a p,e=.Assign c a p->Option β):Option β:=match e,k with
 | .Assign c a p,k=>k c a p rfl
 |_,_=>none
noncomputable def L5(k:∀t o a p,e=.AugAssign t o a p->Option β):Option β:=match e,k with
 | .AugAssign t o a p,k=>k t o a p rfl
 |_,_=>none
noncomputable def OC(k:∀o p,e=.Return o p->Option β):Option β:=match e,k with
 | .Return o p,k=>k o p rfl
 |_,_=>none
noncomputable def WH(k:∀a p,e=.Expr a p->Option β):Option β:=match e,k with
 | .Expr a p,k=>k a p rfl
 |_,_=>none
noncomputable def XZ(k:∀t a b p,e=.If t a b p->Option β):Option β:=match e,k with
 | .If t a b p,k=>k t a b p rfl
 |_,_=>none
noncomputable def QS(k:∀t a b p,e=.While t a b p->Option β):Option β:=match e,k with
 | .While t a b p,k=>k t a b p rfl
 |_,_=>none
noncomputable def V0(k:∀t i a b p,e=.For t i a b p->Option β):Option β:=match e,k with
 | .For t i a b p,k=>k t i a b p rfl
 |_,_=>none
noncomputable def V1(k:∀a b p,e=.Raise a b p->Option β):Option β:=match e,k with
 | .Raise a b p,k=>k a b p rfl
 |_,_=>none
def Gg(k:∀t a p,e=.Assign [t] a p->Option β):Option β:=Px e λc a p h=>v1 c λt g=>k t a p (g ▸ h)
end
end
abbrev QK(c:RC)(h:List Expr):={r:CA // (∀{X:Cx},Good X c->SA X h r)/\h.all r_=true/\∀l st ds g,r l st=.ok ds g->ds.length=h.length}
def wX(q:sV)(c:RC):∀h:List Expr,Option (QK c h)
 |[]=>some ⟨bh,λ_=>G_,rfl,V_⟩
 |e::h=>wh (r_ e=true) λl=>(q.e c e).bind λf=>(wX q c h).bind λr=>some ⟨az f.1 r.1,λg=>GP (f.2 g) (r.2.1 g) (sw l),by rw[cQ,l,r.2.2.1];rfl,Se r.2.2.2⟩
abbrev R9(c:RC)(e:Option Expr):={r:CO // ∀{X:Cx},Good X c->SO X e r}
def yR(q:sV)(c:RC):∀e:Option Expr,Option (R9 c e)
 |none=>some ⟨tq,λ_=>Qq⟩
 |some e=>(q.e c e).bind λf=>some ⟨pD f.1,λg=>S5 (f.2 g)⟩
abbrev Ja(c:RC)(g:List gM):={r:CS // ∀{X:Cx},Good X c->w9 X g r}
def sK(q:sV)(c:RC):∀h:List gM,Option (Ja c h)
 |[]=>some ⟨aS,λ_=>P7⟩
 |s::h=>(q.s c s).bind λa=>(sK q c h).bind λb=>some ⟨aM a.1 b.1,λg=>Wq (a.2 g) (b.2 g)⟩
def Hz(c:RC)(x:Str):Option {i:Nat // c.N[i]?=some x/\(c.sc.names.lookup x=some .local\/c.sc.names.lookup x=some .cell\/c.sc.names.lookup x=some .free)/\uo x=true}:=wh _ λh=>some ⟨c.N.idxOf x,h⟩
theorem YI{X:Cx}{c:RC}{x:Str}{i:Nat}{p:Pos}(g:Good X c)(h:c.N[i]?=some x/\(c.sc.names.lookup x=some .local\/c.sc.names.lookup x=some .cell\/c.sc.names.lookup x=some .free)/\uo x=true):SE X (.Name x p) (ai i):=by
 obtain⟨o,l,q⟩:=h;rw[<- g.N]at o;rcases l with l|l|l
 ·exact JD g.S _ o l (CV q) (.inl rfl)
 ·exact JD g.S _ o l (CV q) (.inr (.inl rfl))
 ·exact JD g.S _ o l (CV q) (.inr (.inr rfl))
def Hx:kR:=λ_ c e=>BR e λx _ h=>(Hz c x).bind λi=>some ⟨ai i.1,λg=>h ▸ YI g i.2⟩
def Mh{α:Type}(l:List (Str × α))(x:Str):Option {a:α // l.lookup x=some a}:=oS (l.lookup x) λa h=>some ⟨a,h⟩
noncomputable def Fw:Const->Option D
 | .int i=>some (.int i)
 | .str i=>some (.str i)
 | .bool i=>some (.bl i)
 | .none=>some .non
 |_=>none
theorem Yh{X:Cx}{v:Const}{n:Nat}{p:Pos}{d:D}(h:Fw v=some d):SE X (.Constant v n p) (aR d):=by
 cases v<;>cases h
 ·exact Um
 ·exact U5
 ·exact UT
 ·exact WV
def UE{α:Type}(o:Option α):Option {a:α // o=some a}:=oS o λa h=>some ⟨a,h⟩
def KA:kR:=λ_ _ e=>OB e λv _ _ h=>(UE (Fw v)).bind λd=>some ⟨aR d.1,λ_=>h ▸ Yh d.2⟩
def Ep:kR:=λq c e=>(q.l c e).bind λa=>some ⟨dk a.1,λg=>X4 (a.2 g)⟩
abbrev XA(op:ph)(f:D->D->M D):Prop:=∀{X:Cx},X.A.units+60 < cC->OpR X (fj op) (pV X.K f)
abbrev Tg(op:uJ)(f:D->D->M D):Prop:=∀{X:Cx},X.A.units+60 < cC->OpR X (dg op) (pV X.K f)
def CY(o:ph)(f:D->D->M D)(h:XA o f):kR:=λq c e=>QY e λa op b _ v=>wh (op=o) λz=>(q.e c a).bind λu=>(q.e c b).bind λl=>some ⟨c2 f u.1 l.1,λg=>v ▸ z ▸ Wh (h g.hu) (u.2 g) (l.2 g)⟩
abbrev WB(c:RC)(x:Expr):={r:CE // ∀{X:Cx},Good X c->SE X x r/\ST X x (cA r)}
abbrev uE:=sV->∀(c:RC)(x:Expr),Option (WB c x)
noncomputable def uE.e(r:uE):kR:=λq c x=>(r q c x).bind λf=>some ⟨f.1,λg=>(f.2 g).1⟩
def uE.t(r:uE):Fd:=λq c x=>(r q c x).bind λf=>some ⟨cA f.1,λg=>(f.2 g).2⟩
def tX(o:uJ)(f:D->D->M D)(h:Tg o f):uE:=λq c e=>M6 e λa op b _ v=>wh (op=o/\C1 b=true) λz=>(q.e c a).bind λu=>(q.e c b).bind λl=>some ⟨c2 f u.1 l.1,λg=>v ▸ z.1 ▸ ⟨Ts (h g.hu) (u.2 g) (l.2 g) (G0 z.2),Q0 (h g.hu) (u.2 g) (l.2 g) (G0 z.2)⟩⟩
def BZ:uE:=λq c e=>M6 e λa op b _ h=>wh (op=.In/\C1 b=true) λz=>(q.l c b).bind λl=>(q.e c a).bind λo=>some ⟨pb zX o.1 l.1,λg=>by subst h;obtain⟨rfl,z⟩:=z;exact⟨V6 (o.2 g) (l.2 g) (G0 z),U8 (o.2 g) (l.2 g) (G0 z)⟩⟩
def DD(q:sV)(c:RC)(p:Pos):∀o:List Expr,Option (Eg c (.BoolOp .And o p))
 |[a]=>(q.e c a).bind λh=>some ⟨h.1,λg=>Li (h.2 g)⟩
 |a::b::r=>(q.e c a).bind λh=>(DD q c p (b::r)).bind λl=>some ⟨tY h.1 l.1,λg=>UR (h.2 g) (l.2 g)⟩
 |_=>none
def OR(q:sV)(c:RC)(p:Pos):∀o:List Expr,Option (Eg c (.BoolOp .Or o p))
 |[a]=>(q.e c a).bind λh=>some ⟨h.1,λg=>Li (h.2 g)⟩
 |a::b::r=>(q.e c a).bind λh=>(OR q c p (b::r)).bind λl=>some ⟨CK h.1 l.1,λg=>VZ (h.2 g) (l.2 g)⟩
 |_=>none
def Js:kR:=λq c e=>M0 e λo l p h=>match o,h with
 | .And,h=>(DD q c p l).bind λf=>some ⟨f.1,λg=>h ▸ f.2 g⟩
 | .Or,h=>(OR q c p l).bind λf=>some ⟨f.1,λg=>h ▸ f.2 g⟩
def K3:kR:=λq c e=>EQ e λo a _ h=>wh (o=.Not) λz=>(q.e c a).bind λl=>some ⟨wJ l.1,λg=>h ▸ z ▸ RS (l.2 g)⟩
def J7:kR:=λq c e=>EQ e λo a _ h=>wh (o=.USub) λz=>(q.e c a).bind λl=>some ⟨c1 tw l.1,λg=>h ▸ z ▸ X5 Tk (l.2 g)⟩
def JM:kR:=λq c e=>Qh e λt a b _ h=>(q.t c t).bind λl=>(q.e c a).bind λu=>(q.e c b).bind λo=>some ⟨wY l.1 u.1 o.1,λg=>h ▸ YN (l.2 g) (u.2 g) (o.2 g)⟩
def KL:kR:=λq c e=>GQ e λo _ _ h=>(wX q c o).bind λl=>some ⟨cV l.1,λg=>h ▸ To (l.2.1 g)⟩
def xW:kR:=λq c e=>Ed e λa lo v _ p h=>wh (c.tag p 1=true) λ_=>(q.e c a).bind λu=>(yR q c lo).bind λl=>(yR q c v).bind λo=>some ⟨nz u.1 l.1 o.1,λg=>h ▸ QA (u.2 g) (l.2 g) (o.2 g)⟩
def yL:kR:=λq c e=>Cj e λa b _ h=>wh (GO b=true) λz=>(q.l c a).bind λo=>(q.e c b).bind λl=>some ⟨mJ o.1 l.1,λg=>h ▸ W1 (o.2 g) (l.2 g) (Ds z)⟩
def Ew:kR:=λq c e=>Cj e λa b _ h=>wh (GO b=true) λz=>(q.e c a).bind λo=>(q.e c b).bind λl=>some ⟨c2 aU o.1 l.1,λg=>h ▸ Vn g.hu (o.2 g) (l.2 g) (Ds z)⟩
theorem XB{X:Cx}{p:Pos}:∀{b:Bool},SE X (.Dict [] [] p) (nR b)
 |false=>R3
 |true=>Tl
def EZ:kR:=λ_ c e=>I0 e λks g p h=>v0 ks λo=>v0 g λl=>some ⟨nR (c.tag p 2),λ_=>h ▸ o ▸ l ▸ XB⟩
def ES(x:String)(f:CE->CE)(h:∀{X:Cx}{o:Expr}{v:CE}{u l:Pos},SE X o v->dh o (aG x) X.env (eval o X.env)=eval o X.env->(u.endLine == l.line)=true->SE X (.Call (.Attribute o (aG x) u) [] [] l) (f v)):kR:=
 λq c e=>vM e λo y G as E C=>v0 as λB=>wh (y=aG x/\Ea o=true/\(G.endLine == E.line)=true) λz=>(q.e c o).bind λv=>some ⟨f v.1,λg=>by subst C B;exact z.1 ▸ h (v.2 g) (G7 z.2.1) z.2.2⟩
noncomputable abbrev Gi(X:Cx)(c:Pos)(g:List Expr):Prop:=((eI c (aF g X.env)).all (λx => !x.1)&&(nN c (kt [] X.env)).all (λx=>x.1.isSome)&&decide (g.length+([]:List ia).length+(if ([]:List ia).isEmpty then 0 else 1) < 30))=true
theorem Dy{X:Cx}{c:Pos}{g:List Expr}(h:g.all r_=true)(l:g.length < 30):Gi X c g:=by unfold Gi;rw[Lg h];exact (bU _ _).mpr ⟨rfl,bF l⟩
def zT(x:String)(f:CE->CE->CE)(ok:RC->Pos->Bool) (h:∀{X:Cx}{o e:Expr}{B v:CE}{u l:Pos},X.A.units+60 < cC->SE X o B->SE X e v->dh o (aG x) X.env (eval o X.env)=eval o X.env->Gi X l [e]->(u.endLine == l.line)=true ->
  aF [e] X.env=(false,eval e X.env)::aF [] X.env->(eI l (aF [] X.env)).any (·.1)=false->SE X (.Call (.Attribute o (aG x) u) [e] [] l) (f B v)):kR:=
 λq c e=>vM e λo y L as E J=>v1 as λa I=>wh (y=aG x/\Ea o=true/\r_ a=true/\ok c E=true/\(L.endLine == E.line)=true) λz=>(q.e c o).bind λB=>(q.e c a).bind λv=>some ⟨f B.1 v.1,λg=>by subst J I;obtain⟨rfl,H,C,_,G⟩:=z;exact h g.hu (B.2 g) (v.2 g) (G7 H) (Dy (by rw[cQ,C];rfl) (vh rfl)) G (sw C) rfl⟩
def Ac(x:String)(f:CE->CE->CE->CE) (h:∀{X:Cx}{o H u:Expr}{G E C:CE}{v l:Pos},X.A.units+60 < cC->SE X o G->SE X H E->SE X u C->dh o (aG x) X.env (eval o X.env)=eval o X.env->Gi X l [H,u]->(v.endLine == l.line)=true ->
  aF [H,u] X.env=(false,eval H X.env)::aF [u] X.env->aF [u] X.env=(false,eval u X.env)::aF [] X.env->(eI l (aF [u] X.env)).any (·.1)=false->SE X (.Call (.Attribute o (aG x) v) [H,u] [] l) (f G E C)):kR:=
 λq c e=>vM e λo y U as T Q=>v2 as λa b O=>wh (y=aG x/\Ea o=true/\r_ a=true/\r_ b=true/\(U.endLine == T.line)=true) λz=>(q.e c o).bind λG=>(q.e c a).bind λE=>(q.e c b).bind λC=>some ⟨f G.1 E.1 C.1,λg=>by subst Q O;obtain⟨rfl,L,I,B,J⟩:=z;exact h g.hu (G.2 g) (E.2 g) (C.2 g) (G7 L) (Dy (by rw[cQ,I,cQ,B];rfl) (vh rfl)) J (sw I) (sw B) (D3 (by rw[cQ,B];rfl))⟩
def Dv:kR:=λq c e=>G8 e λx _ as _ H=>vC as λa as G=>(Mh c.G x).bind λr=>wh (c.glo x=true/\uo x=true/\r.1.k<=c.k/\r.1.n=(a::as).length) λz=>(wX q c (a::as)).bind λh=>some ⟨bN r.1.g h.1,λg=>by subst H G;obtain⟨E,C,v,u⟩:=z;obtain⟨f,I,m,F,o,B,_⟩:=(g.G _ _ r.2).ex;obtain⟨x,y,l⟩:=h.2;rw[cQ,bU]at y;exact YQ g.S (beq_iff_eq.mp E) F (g.hr.mono v) m o B (CV C) (x g) (by rw[u];exact l) (sw y.1) (D3 y.2)⟩
def RC.bl(c:RC)(x:Str):Bool:=c.glo x&&c.Z.contains x
theorem Good.gl{X:Cx}{c:RC}(g:Good X c){x:Str}(h:c.bl x=true):Gl X x/\X.mg x=none:=by unfold RC.bl at h;rw[bU]at h;exact⟨g.S.glo _ (beq_iff_eq.mp h.1),g.Z _ h.2⟩
def sF(x:String)(ok:RC->Pos->Bool)(f:List D->M D)(h:∀{X:Cx}{e:Expr}{u:CA}{p pos:Pos},X.calm=true->X.A.units+60 < cC->Gl X (aG x)->X.mg (aG x)=none->SL X e u->aF [e] X.env=[(false,eval e X.env)]->SE X (.Call (.Name (aG x) p) [e] [] pos) (iq f u)):kR:=
 λq c e=>DG e λy _ a p e=>wh (y=aG x/\c.bl y=true/\r_ a=true/\ok c p=true) λz=>(q.l c a).bind λo=>some ⟨iq f o.1,λg=>by subst e;obtain⟨rfl,l,v,_⟩:=z;exact h g.S.calm g.hu (g.gl l).1 (g.gl l).2 (o.2 g) (sw v)⟩
def um(x:String)(ok:RC->Pos->Bool)(f:D->M D)(h:∀{X:Cx}{e:Expr}{l:CE}{p pos:Pos},X.calm=true->X.A.units+60 < cC->Gl X (aG x)->X.mg (aG x)=none->SE X e l->aF [e] X.env=[(false,eval e X.env)]->SE X (.Call (.Name (aG x) p) [e] [] pos) (c1 f l)):kR:=
 λq c e=>DG e λy _ a p e=>wh (y=aG x/\c.bl y=true/\r_ a=true/\ok c p=true) λz=>(q.e c a).bind λl=>some ⟨c1 f l.1,λg=>by subst e;obtain⟨rfl,o,u,_⟩:=z;exact h g.S.calm g.hu (g.gl o).1 (g.gl o).2 (l.2 g) (sw u)⟩
def EE(x:String)(ok:RC->Pos->Bool)(f:D->D->M D) (h:∀{X:Cx}{a b:Expr}{u o:CE}{p pos:Pos},X.calm=true->X.A.units+60 < cC->Gl X (aG x)->X.mg (aG x)=none->SE X a u->SE X b o->aF [a,b] X.env=(false,eval a X.env)::aF [b] X.env->aF [b] X.env=(false,eval b X.env)::aF [] X.env ->
  (eI pos (aF [b] X.env)).any (·.1)=false->SE X (.Call (.Name (aG x) p) [a,b] [] pos) (c2 f u o)):kR:=
 λq c e=>IA e λy _ a b p e=>wh (y=aG x/\c.bl y=true/\r_ a=true/\r_ b=true/\ok c p=true) λz=>(q.e c a).bind λu=>(q.e c b).bind λo=>some ⟨c2 f u.1 o.1,λg=>by subst e;obtain⟨rfl,v,B,l,_⟩:=z;exact h g.S.calm g.hu (g.gl v).1 (g.gl v).2 (u.2 g) (o.2 g) (sw B) (sw l) (D3 (by rw[cQ,l];rfl))⟩
def HY(x y:String)(ok:RC->Pos->Bool)(f:D->M D)(h:∀{X:Cx}{e:Expr}{o:CE}{p E pos l:Pos},X.calm=true->X.A.units+60 < cC->Gl X (aG x)->X.mg (aG x)=none->Gl X (aG y)->X.mg (aG y)=none->SE X e o->aF [e] X.env=[(false,eval e X.env)]->SE X (.Call (.Name (aG x) p) [.Call (.Name (aG y) E) [e] [] l] [] pos) (c1 f o)):kR:=
 λq c e=>T0 e λv _ u _ a _ p e=>wh (v=aG x/\u=aG y/\c.bl v=true/\c.bl u=true/\r_ a=true/\ok c p=true) λz=>(q.e c a).bind λo=>some ⟨c1 f o.1,λg=>by subst e;obtain⟨rfl,rfl,C,B,G,_⟩:=z;exact h g.S.calm g.hu (g.gl C).1 (g.gl C).2 (g.gl B).1 (g.gl B).2 (o.2 g) (sw G)⟩
def AR(y:String)(T:r9 y)(h:cI (aG y)=some (.type y))(B:aG y≠aG "__name__")(v:(aG y == aG "__debug__")=false):kR:=
 λq c e=>IA e λz _ a b _ G=>BR b λx _ E=>wh (z=aG "isinstance"/\x=aG y/\c.bl z=true/\c.bl x=true/\r_ a=true) λz=>(q.e c a).bind λu=>some ⟨c1 (hV [y]) u.1,λg=>by subst G E;obtain⟨rfl,rfl,o,l,C⟩:=z;exact P5 T (g.gl o).1 (g.gl o).2 (g.gl l).1 (g.gl l).2 h (u.2 g) (by nofun) B v (sw C) rfl rfl⟩
section
def Kd:Fu:=λq c e=>Us e λo _ h=>(wX q c o).bind λl=>some ⟨eZ l.1,λg=>h ▸ V8 (l.2.1 g)⟩
def Eb:Fu:=λq c e=>Cj e λa b _ h=>Mc b λlo u s _ I=>oN lo λH=>oN u λG=>oS s λs E=>EQ s λo s _ C=>OB s λv _ _ B=>wh (o=.USub/\v=.int 1) λz=>(q.e c a).bind λl=>some ⟨tM l.1,λg=>by subst h I H G E C B;exact z.1 ▸ z.2 ▸ PF (l.2 g)⟩
def Bf:Fu:=λq c e=>Ed e λa lo v _ p h=>wh (c.tag p 1=false) λ_=>(q.e c a).bind λu=>(yR q c lo).bind λl=>(yR q c v).bind λo=>some ⟨qB u.1 l.1 o.1,λg=>h ▸ QB (u.2 g) (l.2 g) (o.2 g)⟩
noncomputable def xG:Nat->Expr->List Str
 |_,.Name x _=>[x]
 |n+1,.Tuple es _ _=>es.flatMap (xG n)
 |_,_=>[]
abbrev DZ(c:RC)(g:List Expr):={r:CT // ∀{X:Cx},Good X c->wF X g r}
def HU(q:sV)(c:RC):∀h:List Expr,Option (DZ c h)
 |[]=>some ⟨bT,λ_=>U1⟩
 |[t]=>(q.t c t).bind λf=>some ⟨f.1,λg=>V5 (f.2 g)⟩
 |_=>none
noncomputable def RC.inn(c:RC)(sc:eO)(own:List Str):RC:={ c with sc:=sc,N:=own++c.N.filter λx=>sc.names.lookup x == some .free,top:=false }
noncomputable def RC.ix(c:RC)(sc:eO):List Nat:=(c.N.filter λx=>sc.names.lookup x == some .free).map c.N.idxOf
def RC.cok(c:RC)(sc:eO)(own:List Str)(b:Expr):Prop:=sD c.sc sc=true/\qF c.N sc (c.inn sc own).N own.length (c.ix sc)=true/\(c.inn sc own).N.Nodup/\C1 b=true
instance(c:RC)(sc:eO)(own:List Str)(b:Expr):Decidable (c.cok sc own b):=by unfold RC.cok;infer_instance
theorem Good.inn{X:Cx}{c:RC}(g:Good X c){sc:eO}{own:List Str}{b:Expr}(h:c.cok sc own b)(fp:List av)(s:am)(H:Hp):Good (ot X (c.inn sc own).N sc fp s H) (c.inn sc own):=
 ⟨Xq g.S.calm,rfl,h.2.2.1,g.hr,λx r z=>⟨(g.G x r z).ex⟩,g.Z,g.C,pv,λz=>nomatch z⟩
set_option genInjectivity false in
structure Il(c:RC)(e:Expr) where
 x:Expr
 tg:Expr
 b:Expr
 ifs:List Expr
 sc:eO
 p:Pos
 eq:e=.ListComp x [⟨tg,b,ifs,0⟩] sc p
 ok:c.cok sc (xG 8 tg).eraseDups b
 i:J4 c tg b
 g:Jt (c.inn sc (xG 8 tg).eraseDups) tg
 t:DZ (c.inn sc (xG 8 tg).eraseDups) ifs
 f:Eg (c.inn sc (xG 8 tg).eraseDups) x
def Il.r{c:RC}{e:Expr}(m:Il c e):CA:=dm (xG 8 m.tg).eraseDups.length (c.ix m.sc) m.i.1 m.g.1 m.t.1 m.f.1
theorem Yx{a:Comprehension}(h:a.is_async=0):a=⟨a.target,a.iter,a.ifs,0⟩:=by cases a;exact cz _ h
def Er(q:sV)(c:RC)(e:Expr):Option (Il c e):=Wo e λx o sc p h=>v1 o λa l=>wh (a.is_async=0/\c.cok sc (xG 8 a.target).eraseDups a.iter) λz=>
 (q.i c a.target a.iter).bind λu=>(q.g (c.inn sc (xG 8 a.target).eraseDups) a.target).bind λg=>(HU q (c.inn sc (xG 8 a.target).eraseDups) a.ifs).bind λt=>(q.e (c.inn sc (xG 8 a.target).eraseDups) x).bind λf=>
  some ⟨x,a.target,a.iter,a.ifs,sc,p,by rw[h,l,<- Yx z.1],z.2,u,g,t,f⟩
def Fv:Fu:=λq c e=>(Er q c e).bind λm=>some ⟨m.r,λg=>by obtain⟨x,tg,b,o,sc,p,rfl,ok,h,mg,mt,l⟩:=m;exact Qs g.S.calm (NQ g.S ok.1) (MC g.N ok.2.1) (h.2 g) (λfp s H=>⟨mg.2 (g.inn ok fp s H),mt.2 (g.inn ok fp s H),l.2 (g.inn ok fp s H)⟩) (Ky ok.2.2.2)⟩
abbrev MV(c:RC)(o:BoolOp)(g:List Expr):={r:CT // ∀{X:Cx}{p:Pos},Good X c->PW X (.BoolOp o g p) (pR X.K r)}
def zQ(q:sV)(c:RC):∀o:List Expr,Option (MV c .And o)
 |[]=>none
 |[a]=>(q.t c a).bind λh=>some ⟨h.1,λg=>R1 (h.2 g)⟩
 |a::b::r=>(q.t c a).bind λh=>(zQ q c (b::r)).bind λl=>some ⟨oG h.1 l.1,λg=>T7 (h.2 g) (l.2 g)⟩
def DR(q:sV)(c:RC):∀o:List Expr,Option (MV c .Or o)
 |[]=>none
 |[a]=>(q.t c a).bind λh=>some ⟨h.1,λg=>VH (h.2 g)⟩
 |a::b::r=>(q.t c a).bind λh=>(DR q c (b::r)).bind λl=>some ⟨qH h.1 l.1,λg=>Rn (h.2 g) (l.2 g)⟩
def A0:Fd:=λq c e=>M0 e λo l p h=>match o,h with
 | .And,h=>(zQ q c l).bind λf=>some ⟨f.1,λg=>h ▸ L2.PW.pt (f.2 g)⟩
 | .Or,h=>(DR q c l).bind λf=>some ⟨f.1,λg=>h ▸ L2.PW.pt (f.2 g)⟩
def BV:Fd:=λq c e=>EQ e λo a _ h=>wh (o=.Not) λz=>(q.t c a).bind λf=>some ⟨pz f.1,λg=>h ▸ z ▸ Vq (f.2 g)⟩
def U2:Fd:=λq c e=>wh (L1 e=true) λz=>(q.e c e).bind λf=>some ⟨pW f.1,λg=>X9 (f.2 g) (UM z)⟩
noncomputable def GK:Expr->Bool
 | .Tuple .. => true
 |_=>false
noncomputable def Vo(tg:Expr):Prop:=∃c n p,tg=.Tuple c n p
theorem HG{tg:Expr}(h:GK tg=true):Vo tg:=by cases tg<;>first|exact⟨_,_,_,rfl⟩|exact nomatch h
def GX(t:Expr->Bool)(x:String)(ok:RC->Pos->Bool)(f:CE->CI)(h:∀{X:Cx}{tg e:Expr}{l:CE}{p pos:Pos},t tg=true->Gl X (aG x)->X.mg (aG x)=none->SE X e l->aF [e] X.env=[(false,eval e X.env)]->SI X tg (.Call (.Name (aG x) p) [e] [] pos) (f l)):vy:=
 λq c tg e=>DG e λy _ a p e=>wh (y=aG x/\c.bl y=true/\r_ a=true/\t tg=true/\ok c p=true) λz=>(q.e c a).bind λl=>some ⟨f l.1,λg=>by subst e;obtain⟨rfl,o,v,u,_⟩:=z;exact h u (g.gl o).1 (g.gl o).2 (l.2 g) (sw v)⟩
def OI(t:Expr->Bool)(x:String)(ok:RC->Pos->Bool)(f:CE->CE->CI) (h:∀{X:Cx}{tg a b:Expr}{u o:CE}{p pos:Pos},t tg=true->Gl X (aG x)->X.mg (aG x)=none->SE X a u->SE X b o->aF [a,b] X.env=(false,eval a X.env)::aF [b] X.env->aF [b] X.env=(false,eval b X.env)::aF [] X.env ->
  aF [a,b] X.env=[(false,eval a X.env),(false,eval b X.env)]->SI X tg (.Call (.Name (aG x) p) [a,b] [] pos) (f u o)):vy:=
 λq c tg e=>IA e λy _ a b p e=>wh (y=aG x/\c.bl y=true/\r_ a=true/\r_ b=true/\t tg=true/\ok c p=true) λz=>(q.e c a).bind λu=>(q.e c b).bind λo=>some ⟨f u.1 o.1,λg=>by subst e;obtain⟨rfl,B,v,l,C,_⟩:=z;exact h C (g.gl B).1 (g.gl B).2 (u.2 g) (o.2 g) (sw v) (sw l) (by rw[sw v,sw l];rfl)⟩
noncomputable abbrev AK:Expr->Bool:=λ_=>true
noncomputable abbrev kX:RC->Pos->Bool:=λ_ _=>true
def zt:vy:=GX AK "range" kX MM.gp λ_ g m a s=>UA g m a s
def yO:vy:=OI AK "range" kX MM.ng λ_ g m a b s t u=>U_ g m a b s t u t
def B4(t:Bool):vy:=OI GK "zip" (λc p=>c.tag p 7 == t) tz λh g m a b s t u=>by obtain⟨_,_,_,rfl⟩:=HG h;exact Sk g m a b s t u t
def Bm:vy:=GX GK "enumerate" kX tP λh g m a s=>by obtain⟨_,_,_,rfl⟩:=HG h;exact V3 g m a s
def DE:vy:=λq c _ e=>(q.l c e).bind λf=>some ⟨wW f.1,λg=>YJ (f.2 g)⟩
def DH:vy:=λq c _ e=>(q.e c e).bind λf=>some ⟨g_ f.1,λg=>UD (f.2 g)⟩
noncomputable abbrev Md(c:RC)(x:Str)(i:Nat):Prop:=c.N[i]?=some x/\(c.sc.names.lookup x=some .local\/c.sc.names.lookup x=some .cell)
def GW(c:RC)(x:Str):Option {i:Nat // Md c x i}:=wh _ λh=>some ⟨c.N.idxOf x,h⟩
theorem Gy{X:Cx}{c:RC}(g:Good X c){x:Str}{i:Nat}(h:Md c x i):X.N[i]?=some x/\∃k,c.sc.names.lookup x=some k/\(k=.local\/k=.cell):=by
 refine⟨by rw[g.N];exact h.1,?_⟩;rcases h.2 with l|l
 ·exact⟨_,l,.inl rfl⟩
 ·exact⟨_,l,.inr rfl⟩
def Ub:GC:=λ_ c e=>BR e λx _ h=>(GW c x).bind λi=>some ⟨aP i.1,λg=>by obtain⟨q,k,o,l⟩:=Gy g i.2;exact h ▸ Xr g.S _ g.nd q o l⟩
abbrev H_(c:RC)(g:List Expr):={r:List D->Loc->M Loc // ∀{X:Cx},Good X c->Bi X g r/\(dC g X.env).length=g.length/\(dC g X.env).findIdx? (·.1)=none}
theorem QO{X:Cx}{e:Expr}{c:List Expr}{a:CG}{b:List D->Loc->M Loc}(g:r_ e=true)(l:SG X e a)(h:Bi X c b/\(dC c X.env).length=c.length/\(dC c X.env).findIdx? (·.1)=none):Bi X (e::c) (ce a b)/\(dC (e::c) X.env).length=(e::c).length/\(dC (e::c) X.env).findIdx? (·.1)=none:=by
 obtain⟨q,o,d⟩:=h;have eq:dC (e::c) X.env=(false,n_ e X.env)::dC c X.env:=by cases e<;>first|rfl|exact nomatch g
 refine⟨Xx l q (by rw[eq];rfl),by rw[eq];exact cz (· + 1) o,?_⟩;rw[eq,List.findIdx?_cons,d];rfl
def LM(q:sV)(c:RC):∀h:List Expr,Option (H_ c h)
 |[]=>some ⟨gk,λ_=>⟨SH,rfl,rfl⟩⟩
 |e::h=>wh (r_ e=true) λl=>(q.g c e).bind λa=>(LM q c h).bind λb=>some ⟨ce a.1 b.1,λg=>QO l (a.2 g) (b.2 g)⟩
def Du:GC:=λq c e=>GQ e λl _ _ h=>(LM q c l).bind λf=>some ⟨fF l.length f.1,λg=>h ▸ TY g.S.calm (f.2 g).1 (f.2 g).2.1 (f.2 g).2.2⟩
def Fj:GC:=λq c e=>Cj e λo i _ h=>wh (GO i=true) λz=>(q.e c o).bind λf=>(q.e c i).bind λk=>some ⟨fR f.1 k.1,λg=>h ▸ Qi g.hu (f.2 g) (k.2 g) (λv=>by cases i<;>first|rfl|exact nomatch z)⟩
def D8:u9:=λq c e=>OC e λo _ h=>oS o λa l=>(q.e c a).bind λf=>some ⟨dU f.1,λg=>h ▸ l ▸ RM (f.2 g)⟩
def FF:u9:=λq c e=>WH e λa _ h=>wh (Ht a=true) λz=>(q.e c a).bind λf=>some ⟨gL f.1,λg=>h ▸ T5 (f.2 g) (Nj z)⟩
def yx:u9:=λ_ _ e=>V1 e λ_ _ _ h=>some ⟨Br,λ_=>h ▸ Uz⟩
def IV:u9:=λq c e=>XZ e λt a b _ h=>(q.t c t).bind λl=>(sK q c a).bind λu=>(sK q c b).bind λo=>some ⟨lD l.1 u.1 o.1,λg=>h ▸ Q8 (l.2 g) (u.2 g) (o.2 g)⟩
def xX:u9:=λq c e=>QS e λt a b _ h=>v0 b λu=>(q.t c t).bind λl=>(sK q c a).bind λo=>some ⟨iJ l.1 o.1,λg=>h ▸ u ▸ QD g.ps (l.2 g) (o.2 g)⟩
def EG:u9:=λq c e=>V0 e λtg l a b _ h=>v0 b λB=>wh (C1 l=true) λz=>(q.i c tg l).bind λo=>(q.g c tg).bind λu=>(sK q c a).bind λv=>some ⟨iu o.1 u.1 v.1,λg=>h ▸ B ▸ Y2 g.ps g.S.calm (o.2 g) (u.2 g) (v.2 g) (Ky z)⟩
def Ia:u9:=λq c e=>Gg e λt a _ h=>BR t λx _ l=>wh (Ht a=true\/(c.top=true/\c.sc.names.lookup x=some .cell)) λz=>(GW c x).bind λi=>(q.e c a).bind λf=>some ⟨bD (aP i.1) f.1,λ{X}g=>by
 subst h l;obtain⟨l,k,C,B⟩:=Gy g i.2;refine Yu g.S _ g.nd l C (f.2 g) B ?_;rcases z with u|⟨o,v⟩
 ·exact Nj u
 ·have e:(X.env.kindOf x == some fD.local)=false:=by rw[(g.kd o).2 x,v];rfl
  cases a<;>first|rfl|(unfold kr;simp only[e,Bool.and_false,si])⟩
theorem Q9{X:Cx}{c:RC}(g:Good X c){e:Expr}{v:List Comprehension}{sc:eO}{p h:Pos}{y:Str}{n:Nat}(l:c.top=true)(q:c.sc.names.lookup y=some .local)(o:(h.line == p.line)=true)(u:(sc.names.any λz=>z.1 == y&&(z.2 == .local||z.2 == .cell))=false):
  kr (.ListComp e v sc p) (some (.Name y h)) n X.env=pure true:=by
 have C:(X.env.kindOf y == some fD.local)=true:=by rw[(g.kd l).2 y,q];rfl
 have B:(X.env.blockKind == ud)=true:=by rw[(g.kd l).1];rfl
 show (pure (X.env.blockKind == ud&&X.env.kindOf y == some fD.local&&h.line == p.line && !(sc.names.any λz=>z.1 == y&&(z.2 == .local||z.2 == .cell))):Sem Bool)=pure true;rw[C,B,o,u];rfl
def B7:u9:=λq c s=>Gg s λt a _ h=>BR t λy v l=>(Er q c a).bind λm=>wh (c.top=true/\c.sc.names.lookup y=some .local/\(v.line == m.p.line)=true/\(m.sc.names.any λz=>z.1 == y&&(z.2 == .local||z.2 == .cell))=false) λz=>(GW c y).bind λi=>some ⟨bD (aP i.1) (dk m.r),λg=>by subst h l;obtain⟨l,k,u,o⟩:=Gy g i.2;obtain⟨x,tg,b,E,sc,p,rfl,ok,B,mg,mt,C⟩:=m;exact S9 g.nd l (g.S.loc _ _ u o).1 (g.S.loc _ _ u o).2 g.S.calm (NQ g.S ok.1) (MC g.N ok.2.1) (B.2 g) (λfp s H=>⟨mg.2 (g.inn ok fp s H),mt.2 (g.inn ok fp s H),C.2 (g.inn ok fp s H)⟩) (Q9 g z.1 z.2.1 z.2.2.1 z.2.2.2) (Ky ok.2.2.2)⟩
def DM:u9:=λq c s=>Gg s λt a _ h=>Cj t λo i p l=>(q.e c a).bind λf=>(q.g c (.Subscript o i p)).bind λk=>some ⟨bD k.1 f.1,λg=>by subst h l;exact Pb (f.2 g) (k.2 g) (by cases a<;>rfl) (by cases a<;>rfl) rfl⟩
noncomputable def RT:Expr->Bool
 | .Tuple _ _ _=>false
 |_=>true
def Fp:u9:=λq c s=>Gg s λt a _ h=>GQ t λo n p l=>wh (RT a=true) λz=>(q.e c a).bind λf=>(q.g c (.Tuple o n p)).bind λk=>some ⟨bD k.1 f.1,λg=>by subst h l;exact Pb (f.2 g) (k.2 g) (by cases a<;>rfl) (by cases a<;>first|rfl|exact nomatch z) rfl⟩
section
variable{P:Program}{w:bG}{K:ak}{mg:Str->Option ah}{base:bQ}
variable(P w K mg base) in
def cZ(l:List (Str×RF)):Prop:=∀x r,l.lookup x=some r->GF P w K mg base x r
theorem QW:cZ P w K mg base []:=λ_ _ h=>nomatch h
theorem M7{l:List (Str×RF)}{x:Str}{r:RF}{f:av}{c:dJ}(m:mg x=some (.ref f))(F:mY P w K mg base sU r.k f c r.ps (o9 K r.n r.g))(g:dG K (.ref f)=true)(b:Binds K c r.ps [])(o:r.kw=true->EU K c r.ps)(h:cZ P w K mg base l):
  cZ P w K mg base ((x,r)::l):=λy s z=>by
 by_cases e:y=x
 ·subst e;rw[List.lookup_cons_self]at z;cases z;exact⟨f,c,m,F,g,b,o⟩
 ·rw[vI e]at z;exact h y s z
theorem VT(R:rY)(j:Nat){x qual:Str}{g:gM}{f:av}{l:dJ}{N h:List Str}{k n m:Nat}{c:CS}{G:List (Str×RF)}{Z:List Str}{C:List (Str×D)}{H:List (Nat×Nat×Nat)}(F:wN K x qual g f l)(S:lL N h (bY g))(q:h.length=n)(B:N.length=m)
  (L:cZ P w K mg base G) (J:∀x,Z.contains x=true->mg x=none) (O:∀x d,C.lookup x=some d->∃v u,mg x=some u/\RelV v u/\∀ρ H,dN K ρ H v d)
  (I:(sK (rh R j) ⟨bY g,N,k,G,Z,C,H,true⟩ (eL g)).map (·.1)=some c):mY P w K mg base sU (k+1) f l h (o9 K n (cm m c)):=
 have ⟨v,_,e⟩:=fk.mp I
 Sg F S q B λQ A outer s Hp E o=>e ▸ v.2 ⟨NT,rfl,S.nd,o,L,J,O,pv,λ_=>⟨by show (if (bY g).kind.isAnnotationScope=true then _ else (bY g).kind)=_;rw[S.kind];rfl,λ_=>rfl⟩⟩
end
end
section
variable{K:ak}{mg:Str->Option ah}
noncomputable def BL(mg:Str->Option ah)(Z:List Str):Prop:=∀x,Z.contains x=true->mg x=none
theorem Ev:BL mg []:=λ_ h=>nomatch h
theorem iI{a:Str}{l:List Str}(h:mg a=none)(t:BL mg l):BL mg (a::l):=λx z=>by
 rw[List.contains_cons,qY]at z;rcases z with z|z
 ·rw[beq_iff_eq.mp z];exact h
 ·exact t x z
def Eo(K:ak)(mg:Str->Option ah)(C:List (Str×D)):Prop:=∀x d,C.lookup x=some d->∃v u,mg x=some u/\RelV v u/\∀ρ H,dN K ρ H v d
theorem DA:Eo K mg []:=λ_ _ h=>nomatch h
end
section
theorem uh{x:Str}(h:uo x=true):x≠"__name__":=(CV h).n
def Ez:kR:=sF "max" kX tE λc _ g m a s=>Ob (Yt c) g m (by nofun) a (uh (by nofun)) (by nofun) s
def Ej:kR:=sF "any" kX vv λc _ g m a s=>Ob (Sy c) g m (by nofun) a (uh (by nofun)) (by nofun) s
def En:kR:=sF "tuple" kX kT λ_ _ g m a s=>QC Py g m (by nofun) a (uh (by nofun)) (by nofun) s
def yW:kR:=um "sorted" kX oK λ_ _ g m a s=>Jm YM g m (by nofun) a (uh (by nofun)) (by nofun) s
def Le:kR:=um "len" kX gR λ_ _ g m a s=>Jm So g m (by nofun) a (uh (by nofun)) (by nofun) s
def JC:kR:=um "int" kX intD λ_ _ g m a s=>Gj Wd g m (by nofun) a (uh (by nofun)) (by nofun) s
def A3:kR:=um "tuple" kX tupleD λ_ _ g m a s=>Gj We g m (by nofun) a (uh (by nofun)) (by nofun) s
def FA:kR:=um "list" kX t6 λ_ _ g m a s=>Gj S0 g m (by nofun) a (uh (by nofun)) (by nofun) s
def AE:kR:=um "list" (λc p=>c.tag p 5) nj λc _ g m a s=>Gj (T9 c) g m (by nofun) a (uh (by nofun)) (by nofun) s
def DX:kR:=EE "min" kX u8 λc _ g m a b o l h=>Lh (Xd c) g m (by nofun) a b (uh (by nofun)) (by nofun) o l h
def yQ:kR:=AR "int" WX (by nofun) (uh (by nofun)) (by nofun)
def xg:kR:=AR "bool" TX (by nofun) (uh (by nofun)) (by nofun)
def vD:kR:=AR "tuple" WZ (by nofun) (uh (by nofun)) (by nofun)
def xZ:kR:=zT "append" cL kX λ_ o a b f l s p=>Qv o a b f l s p
def JL:kR:=ES "pop" tH λo b l=>Xc o b l
def IB:kR:=Ac "get" uv λu o a b bs f l g c p=>PD u o a b bs f l g c p
def yy:kR:=Ac "setdefault" oO λu o a b bs f l g c p=>VA u o a b bs f l g c p
def Dz:vy:=λq c _ e=>wh (c.tag e.pos 6=true) λ_=>(q.e c e).bind λf=>some ⟨tU f.1,λg=>S7 (f.2 g)⟩
end
section
variable{P:Program}{w:bG}{K:ak}{mg:Str->Option ah}{base:bQ}
noncomputable def FnAt(K:ak)(mg:Str->Option ah)(x:Str)(c:gM):Prop:=∃a g,wN K x x c a g/\mg x=some (.ref a)
theorem gJ{h:bQ}{x:Str}{g:gM}{f:av}{v E:Option av}{q:Array (Option ah)}{B kV C u o ct:ah}(X:K.In h)(G:h.Ns dO mg)(a:oW K dO x=some (some (.ref f)))
  (l:K.lookup f=some ⟨B,v,.func (c_ x x (gT g) (eL g) (bY g) .none kV C u E o ct),q⟩) (c:ib K o x=true) (k:dG K (.ref f)=true):FnAt K mg x g:=
 ⟨f,_,QT (st:=g) l c k,xU X G a⟩
noncomputable def wQ(N P:List Str)(sc:eO):Bool:=(sc.kind == .function)&&(sc.isCoroutine == false)&&(sc.isGenerator == false)&&decide N.Nodup&&(N.take P.length == P)&&(P.all λx=>sc.names.lookup x == some .local||sc.names.lookup x == some .cell)&&(sc.names.all λy=>y.2 != .free)
theorem M8{N P:List Str}{sc:eO}(h:wQ N P sc=true):lL N P sc:=by unfold wQ at h;simp only[bU,beq_iff_eq,decide_eq_true_eq,qv,qY,bne_iff_ne,ne_eq]at h;obtain⟨⟨⟨⟨⟨⟨v,u⟩,q⟩,o⟩,l⟩,g⟩,c⟩:=h;exact⟨v,u,q,o,l,g,c⟩
theorem N6(R:rY){r:List Str}{x:Str}{h:gM}{f:av}{l:dJ}{g:List Str}{k n m:Nat}{c:CS}{G:List (Str×RF)}{Z:List Str}{C:List (Str×D)}{H:List (Nat×Nat×Nat)}(F:wN K x x h f l)(S:wQ (g++r) g (bY h)=true)
  (u:(sK (rh R 40) ⟨bY h,g++r,k,G,Z,C,H,true⟩ (eL h)).map (·.1)=some c) (B:cZ P w K mg base G) (v:BL mg Z) (E:Eo K mg C) (o:g.length=n) (q:(g++r).length=m):mY P w K mg base sU (k+1) f l g (o9 K n (cm m c)):=
 VT R 40 F (M8 S) o q B v E u
theorem mQ(R:rY){r:List Str}{x:Str}{l:gM}{c:List Str}{k n m:Nat}{B:Bool}{o:CS}{G:List (Str×RF)}{Z:List Str}{C:List (Str×D)}{H:List (Nat×Nat×Nat)}(F:FnAt K mg x l)(S:wQ (c++r) c (bY l)=true)
  (b:∀(kV g q:ah)(u:Option av)(h ct:ah)(v:List ah),v.length=c.length->rK (c_ x x (gT l) (eL l) (bY l) .none kV g q u h ct) { pos:=v }=pure (c.zip v))
  (L:B=true->∀(kV g q:ah)(u:Option av)(h ct:ah)(s:am)(ws:List ah),ws.length=c.length->rJ s (c_ x x (gT l) (eL l) (bY l) .none kV g q u h ct) ⟨[],c.zip ws⟩ (c.zip ws))
  (hb:(sK (rh R 40) ⟨bY l,c++r,k,G,Z,C,H,true⟩ (eL l)).map (·.1)=some o) (I:cZ P w K mg base G) (hZ:BL mg Z) (hC:Eo K mg C) (Q:c.length=n:=by rfl) (T:(c++r).length=m:=by rfl) (O:B=true->¬ c.getLast?=some (aG "most"):=by first|exact λz=>nomatch z|exact λ_=>by decide):cZ P w K mg base ((x,⟨n,k+1,c,B,cm m o⟩)::G):=by
 obtain⟨f,fd,F,E⟩:=F;refine M7 E (N6 R F S hb I hZ hC Q T) F.kp (F.binds b) (λz=>?_) I;obtain⟨oc,od,kV,g,q,u,h,ct,J,e,lk,Y⟩:=F.ex;unfold EU;rw[aA (O z)];intro s ws U;rw[e];exact L z kV g q u h ct s ws U
end
section
variable{X:Cx}{e:Expr}{fa:CE}{x:Str}{pos:Pos}{sc:eO}
theorem RB{i:Nat}:∀G σ H,vE X.K (bD (aP i) (c2 uD (ai i) fa)) G σ H->Dw i (wK X.K fa) (Nq λi j=>i+j) G σ H:=λG σ H J=>J.el λρ l st u B p=>by
 have c:=p.bnd.bnd;unfold ai at c;cases e:l[i]? with
 |none=>rw[e]at c;exact c.elim
 |some o=>
  rw[e]at c;cases o with
  |none=>exact c.elim
  |some d=>
   obtain⟨v,L,r⟩:=u.2 i d e;have I:=c.ret B;refine⟨v,L,ρ,l,st,u,B,I.bnd.imp λy E ρ1 O C g q w h=>?_⟩;cases r with
   |int a=>
    cases h with
    |int b=>exact⟨a,b,rfl,rfl,(q.ret g).bnd.ret g |>.ret g _ ((u.mono C).set i (.int _))⟩
    |_=>exact q.elim
   |_=>exact q.elim
theorem Rp(S : Sc X sc)(i : Nat)(l : X.N.Nodup)(q : X.N[i]? = some x){k : fD}(h : sc.names.lookup x = some k){c : Pos}(o : SE X e fa)(g : k = .local \/ k = .cell := by decide):
  SS X (.AugAssign (.Name x c) .Add e pos) (bD (aP i) (c2 uD (ai i) fa)):=(VN l q (S.loc x k h g).1 o OY (S.loc x k h g).2).of RB
end
def D5:u9:=λq c e=>L5 e λt o a _ h=>BR t λx _ l=>wh (o=.Add) λz=>(GW c x).bind λi=>(q.e c a).bind λf=>some ⟨bD (aP i.1) (c2 uD (ai i.1) f.1),λg=>by subst h l z;obtain⟨l,k,v,u⟩:=Gy g i.2;exact Rp g.S _ g.nd l v (f.2 g) u⟩
section
variable{prog:Program}{w:bG}{A:bB}{E:ah->am->Prop}{s:am}{r:av}
theorem RJ{Q:List ah->am->Prop}{I l:av}{items:Array ah}(hh:A.handled=none)(h:s.heap.IsRevIter I l ((items.size:Int)-1))(U:s.heap.IsList l items)(H:l≠I)(hn:items.size<=sizeLine)
  (hQ:∀(h':bQ)(tk:Nat)(B:Array ah),(∀b o,b≠I->s.heap.get? b=some o->h'.get? b=some o)->Dm (λi v=>items[items.size-1-i]?=some v) B items.size->Q B.toList { s with heap:=h',toks:=tk }):
  aK (bc prog w) A (As (.ref I)) Q E s:=by
 have Y:I < s.heap.objs.size:=let ⟨_,e,_⟩:=h;aJ e
 have hL:l < s.heap.objs.size:=let ⟨_,e,_⟩:=U;aJ e
 unfold As;refine ab (wpAny_runValue (gz PySem.F.entry_proto_collect ?_));rw[dS PySem.F.plain_proto_collect _]
 show aK _ A.in1 (newList [] >>= λl=>again (.builtin "list.__iadd__" ⟨[l,.ref I],[]⟩)) _ _ s;refine ab (bK ?_);refine aq ⟨fK sk _,gz PySem.F.entry_list_iadd ?_⟩;rw[dS sk _];have hS₁:(s.heap.push { cls:=.type "list",data:=.seq ([]:List ah).toArray }).get? s.heap.objs.size=some { cls:=.type "list",data:=.seq ([]:List ah).toArray }:=aC _ rfl
 show aK _ A.in1 (oY (.ref s.heap.objs.size) (.ref I) (.ref s.heap.objs.size)) _ _ _;have c:(s.heap.push { cls:=.type "list",data:=.seq ([]:List ah).toArray }).IsRevIter I l ((items.size:Int)-1):=let ⟨o,e,x⟩:=h;⟨o,al _ e,x⟩
 have J:(s.heap.push { cls:=.type "list",data:=.seq ([]:List ah).toArray }).IsList l items:=let ⟨o,e,x⟩:=U;⟨o,al _ e,x⟩
 have W:=Walks.listRev (prog:=prog) (w:=w) (A:=A.in1) hh I l H items;have L:s.heap.objs.size∉[I,l]:=by simp only[bb,iA,or_false,not_or];exact⟨df Y,df hL⟩
 have C:0<=items.size/\(s.heap.push { cls:=.type "list",data:=.seq ([]:List ah).toArray }).IsRevIter I l ((items.size:Int)-1-((0:Nat):Int))/\(s.heap.push { cls:=.type "list",data:=.seq ([]:List ah).toArray }).IsList l items:=⟨bu _,by rw[show (items.size:Int)-1-((0:Nat):Int)=(items.size:Int)-1 by ext];exact c,J⟩
 unfold oY;refine ab (mq c.typeIs ?_);have h1:pM (.ref s.heap.objs.size) (.ref I)=false:=by simp[pM,df Y]
 rw[aA (by rw[h1];decide)];refine ab (px c ?_);refine ab (cE (Rg c.typeIs ?_));rw[aA (by decide)];refine aq ⟨fK PySem.F.plain_extend_loop _,codeAny_extend_loopS W.toS hn _ L _ items.size 0 _ _ _ rfl (bu _) C hS₁ (Dm.nil _) λG u c' T O q=>?_⟩
 show aK _ A (load s.heap.objs.size >>= _) _ _ G;refine ab (wpAny_load O ?_);rw[Moved.eq_with T];refine aq (hQ G.heap G.toks u (λb o hb e=>T.heap b o (λg=>?_) (al _ e)) q);rcases bb.mp g with e'|g
 ·exact bA (aJ e) e'
 ·exact hb (ax.mp g)
theorem Q7{Q₁:ah->am->Prop}{I l:av}{items:Array ah}(hh:A.handled=none)(q:s.heap.IsRevIter I l ((items.size:Int)-1))(O:s.heap.IsList l items)(B:l≠I)(hsz:items.size<=sizeLine)
  (h:∀(h':bQ)(u:Nat)(c:Array ah),(∀b o,b≠I->s.heap.get? b=some o->h'.get? b=some o)->Dm (λi v=>items[items.size-1-i]?=some v) c items.size->Q₁ (.ref h'.objs.size) { s with heap:=h'.push { cls:=.type "tuple",data:=.seq c },toks:=u }):
  ml (bc prog w) A (.call (.builtin "tuple.__new__") ⟨[.type "tuple",.ref I],[]⟩) (wants Q₁ E) s:=by
 refine codeAny_of_tree ?_
 show aK _ A.in1 (do checkBuiltinCall "tuple.__new__" ⟨[.type "tuple",.ref I],[]⟩;again (.builtin "tuple.__new__" ⟨[.type "tuple",.ref I],[]⟩)) _ _ s;refine ab (m6 (PySem.F.newCall_tuple_1 _) (aq ⟨fK sq _,gz PySem.F.entry_tuple_new ?_⟩));rw[dS sq _];have H:=sub_tuple_self;have C:=init_tuple_lookup;have J:=madeHere_tuple;have G:=q.typeIs
 wp_walk using mq G,RJ (A:=A.in1) hh q O B hsz
 intro h' u c L g
 show aK _ _ (eJ c.toList.toArray >>= λv=>PySem.ret v) _ _ _;unfold eJ;refine ab (bK ?_ (by show c.toList.toArray.size<=sizeLine;simp only[Array.toArray_toList];rw[g.1];exact hsz));refine aq ?_;have e:c.toList.toArray=c:=by simp
 rw[e];exact h h' u c L g
theorem UP{Q:ah->am->Prop}{I l:av}{items:Array ah}(hh:A.handled=none)(u:s.heap.IsRevIter I l ((items.size:Int)-1))(C:s.heap.IsList l items)(q:l≠I)(hsz:items.size<=sizeLine)
  (G:∀(h':bQ)(h:Nat)(c:Array ah),(∀b o,b≠I->s.heap.get? b=some o->h'.get? b=some o)->Dm (λi v=>items[items.size-1-i]?=some v) c items.size->Q (.ref h'.objs.size) { s with heap:=h'.push { cls:=.type "tuple",data:=.seq c },toks:=h }):
  aK (bc prog w) A (call (.type "tuple") [.ref I]) Q E s:=by
 refine callType_codes (Q₁:=λobj s₁=>s₁.TypeIs obj "tuple"/\Q obj s₁) PySem.F.called_tuple (PySem.F.typeCall_tuple_1 _) PySem.F.entry_object_init
  (Q7 hh u C q hsz λh' h c B g=>⟨⟨_,aC _ rfl,rfl⟩,G h' h c B g⟩) λobj s₁ h₁=>?_
 exact⟨h₁.1,PySem.F.args_object_init_2 obj _,object_init_meets PySem.F.called_tuple.init.lookup PySem.F.called_tuple.made (by decide) prog w A.in1 _ s₁ ⟨h₁.1,rfl,h₁.2⟩⟩
end
section
variable{X:Cx}{a b c e o tg:Expr}{es:List Expr}{pos eg dr cx p p':Pos}{fa fb fc:CE}{ca cb:CA}{K:ak}{ρ:List av}{H:Hp}{st:a_}{te:TE}
theorem TH(hc:X.calm=true)(hg:Gl X "tuple")(hm:X.mg "tuple"=none)(hv:cI "tuple"=some (.type "tuple"))(U:Gl X "reversed")(O:X.mg "reversed"=none)(L:cI "reversed"=some (.type "reversed"))(ha:PE X e te)
  (he:aF [e] X.env=[(false,eval e X.env)]:=by rfl) (v:aF [.Call (.Name "reversed" p') [e] [] eg] X.env=[(false,eval (.Call (.Name "reversed" p') [e] [] eg) X.env)]:=by rfl):
  PE X (.Call (.Name "tuple" p) [.Call (.Name "reversed" p') [e] [] eg] [] pos) (λσ H Q=>te σ H λx C=>∃a xs,x=.ref a/\gD X.K C a xs/\∀q,C q=none->Q (.ref q) (fq C q (.tup xs.reverse))):=by
 intro g s σ H Q I h;refine h9 (wZ I hg hm hv ?_ (by decide) (by decide));refine cq ?_ v rfl;rw[v]
 show aK _ _ (xh [(false,eval (.Call (.Name "reversed" p') [e] [] eg) X.env)]) _ _ s;refine lI ?_;refine h9 (wZ I U O L ?_ (by decide) (by decide));refine cq ?_ he rfl;rw[he]
 show aK _ _ (xh [(false,eval e X.env)]) _ _ s;refine lI (fS (ha g s σ H _ I h) λu G ⟨x,C,Y,r1,a,xs,ex,hx,q⟩=>l_ ?_);subst ex;cases r1;obtain⟨its,c,J,hz⟩:=Y.list hx;have hlen:=c.length;refine CH J.isList (l_ ?_);have T:a < G.heap.objs.size:=let ⟨_,e,_⟩:=J.isList;aJ e
 refine UP (l:=a) (items:=its.toArray) (Y.ok.hd hc) ⟨_,aC _ rfl,rfl,rfl⟩ (let ⟨o,e,x⟩:=J.isList;⟨o,al _ e,x⟩) (bA T) (by simp only[aH];ext) λh' E acc hk B=>?_;rw[QV B];have kp:∀b u,G.heap.get? b=some u->h'.get? b=some u:=λb u e=>hk b u (bA (aJ e)) (al _ e);have I2:Inv X g σ C { G with heap:=h',toks:=E }:=Y.kept (t':=E) kp;exact⟨.ref _,_,I2.laid (t':=E) (o:=.tup xs.reverse) (λb o e=>al _ e) (ar _) (show eT X.prog X.w _ _ _ (.tup xs.reverse) from ⟨by rw[gC];exact hz,its.reverse,c.reverse,kj.new _ _⟩),rfl,q _ (I2.hok.fresh (ar _))⟩
theorem UN(hc:X.calm=true)(hg:Gl X "tuple")(hm:X.mg "tuple"=none)(C:cI "tuple"=some (.type "tuple"))(I:Gl X "reversed")(G:X.mg "reversed"=none)(B:cI "reversed"=some (.type "reversed"))(g:SE X e fa)
  (he:aF [e] X.env=[(false,eval e X.env)]:=by rfl) (J:aF [.Call (.Name "reversed" p') [e] [] eg] X.env=[(false,eval (.Call (.Name "reversed" p') [e] [] eg) X.env)]:=by rfl):
  SE X (.Call (.Name "tuple" p) [.Call (.Name "reversed" p') [e] [] eg] [] pos) (c1 qL fa):=
 (TH hc hg hm C I G B g he J).of λσ H Q h_=>h_.el λρ l st o U p=>⟨ρ,l,st,o,U,p.bnd.imp λd T ρ1 H1 x1 u L v Y=>by
  cases Y with
  |@ref a n _ h=>
   obtain⟨ds,e2,c⟩:=aV.getL (aV.bnd L) u;obtain⟨a',O,g,C,r⟩:=u.seq e2;rw[h]at g;cases g;exact⟨a,O,rfl,gD.of C,λq E=>c ρ1 _ (Ex.new E) (u.new E) _ (.tup (iR.of kq) ((bZ.rev r).mono (Ex.new E)))⟩
  |_=>exact L.elim⟩
end
def zn:kR:=HY "tuple" "reversed" kX qL λc _ g m l h a s=>UN c g m (by nofun) l h (by nofun) a s rfl
section
variable{X:Cx}{a b:Expr}{pos:Pos}{fa fb:CE}
theorem SN(ha:SE X a fa)(B:SE X b fb):SE X (.Dict [some a] [b] pos) (qE fa fb):=by
 refine (TQ (Ll ha B Pa) rfl rfl nofun (by simp)).of λσ H Q E q J=>?_;obtain⟨ρ,l,st,lr,sr,p⟩:=E;have hn:=sr.fresh J;have T:Ex ρ H ρ (fq H q (.dK [])):=Ex.new J;refine⟨ρ,l,st,lr.mono T,sr.new J,(p.bnd0.left T).imp λk ec ρ1 H1 Y s1 p1 v rv=>⟨ρ1,l,ec,(lr.mono T).mono Y,s1,(p1.bnd0.left (T.trans Y)).imp λd C ρ2 O U h p2 w rw'=>?_⟩⟩;cases rv with
 |int i=>
  have g:=Y.trans U;have G:O q=some (.dK []):=g.oth q _ hn kq;refine⟨G,[(.inl i,w)],rfl,by simp,?_⟩;have I:∀b o,H b=some o->b≠q:=λb o e z=>by rw[z,J]at e;cases e
  have L:q∉ρ2:=by
   obtain⟨τ,e,f⟩:=g.pre;rw[e];intro z;rcases aB.mp z with z|z
   ·exact hn z
   ·have:=f q z;rw[kq]at this;cases this
  have up:Up ρ2 O ρ2 (fq O q (.dK (lS [] [(.inl i,w)]))):=by
   refine⟨⟨[],by simp⟩,λc o no w=>?_,λc o w=>?_⟩
   ·rw[fI λz=>by subst z;rw[G]at w;cases w;exact nomatch no];exact w
   ·by_cases z:c=q
    ·subst z;rw[G]at w;cases w;exact⟨_,kq,rfl⟩
    ·exact⟨o,by rw[fI z];exact w,rfl⟩
  have s2:SR X.K ρ2 (fq O q (.dK (lS [] [(.inl i,w)]))) C:=⟨h.len,h.nd,λn b o e1 e2=>rD.mono (o:=o) up (h.ob n b o e1 e2) λu w=>by rw[fI (λ(z:b=q)=>L (by rw[<- z];exact ay e1))];exact w⟩
  have x2:Ex ρ H (ρ2++[q]) (fq O q (.dK (lS [] [(.inl i,w)]))):=by
   obtain⟨τ,e,f⟩:=g.pre;refine⟨⟨τ++[q],by rw[e,aX],λb B=>?_⟩,λb o no e=>?_,λb o nb e=>?_,λb o e=>?_⟩
   ·rcases aB.mp B with B|B
    ·have z:=f b B;by_cases w:b=q
     ·subst w;exact J
     ·rw[fI w]at z;exact z
    ·rw[ax]at B;rw[B];exact J
   ·rw[fI (I b o e)];exact g.fix b o no (by rw[fI (I b o e)];exact e)
   ·rw[fI (I b o e)];exact g.oth b o nb (by rw[fI (I b o e)];exact e)
   ·obtain⟨o',h,c⟩:=g.knd b o (by rw[fI (I b o e)];exact e);exact⟨o',by rw[fI (I b o e)];exact h,c⟩
  have p3:∀ρ' H',Ex ρ H ρ' H'->SR X.K ρ' H' (C++[.dct false (tS [] (([.inl i].map oD).zip [d]))])->∀v,dN X.K ρ' H' v (.dic C.length)->Q v H':=p2;refine p3 _ _ x2 (s2.keepO L ⟨_,kq,KR.merge (KR.zip (ks:=[.inl i]) (bZ.cons (rw'.up up) .nil)) .nil⟩) _ (.dic ⟨_,kq,.inl rfl⟩ ?_);rw[<- h.len];simp
 |_=>exact p2.elim
end
def By:kR:=λq c e=>I0 e λks u _ h=>v1 ks λa E=>oS a λk C=>v1 u λv B=>(q.e c k).bind λo=>(q.e c v).bind λl=>some ⟨qE o.1 l.1,λg=>by subst h E C B;exact SN (o.2 g) (l.2 g)⟩
end MM
namespace PySem.SeqAt
open AutoSeq1 (wpAny_loadPart')
open MeetsSeq MeetsSeq2 MeetsSeq3 SeqRoads2
noncomputable def rl(A:bB)(s:am)(y x:ah)(b:Bool):Prop:=
 ∀(prog:Program)(w:bG)(E:ah->am->Prop)(Q:ah->am->Prop),Q (.bool b) s->aK (bc prog w) A (zM .Lt y x) Q E s
def sE(e t:Nat->Bool)(fin:Bool):Nat->Nat->Bool
 |_,0=>fin
 |i,k+1=>if e i=true then sE e t fin (i+1) k else t i
theorem P_(l b:av)(items c:Array ah)(n U:Nat)(dd G:Option av)(T u:Array (Option ah))(e t:Nat->Bool):
  Meets (Builtin.«tuple.__lt__» ⟨[.ref l,.ref b],[]⟩)
   (λA R s=>s.heap.get? l=some { cls:=.type "tuple",dict:=dd,data:=.seq items n,slots:=T }/\s.heap.get? b=some { cls:=.type "tuple",dict:=G,data:=.seq c U,slots:=u } /\
    (∀j(Q:j < items.size)(O:j < c.size),EqAt A.in1 s items[j] c[j] (e j)/\(e j=false->rl A.in1 s items[j] c[j] (t j))) /\
    R (.ok (.ret (.bool (sE e t (decide (items.size < c.size)) 0 (min items.size c.size))))) s):=
 .of_wp λprog w A R s h=>by
  obtain⟨I,g,d,H,os⟩:=s;obtain⟨hl,hb,he,h⟩:=h;have f2:=AutoSeq1.sub_tuple_tuple;have L:(items.toList.zip c.toList).length=min items.size c.size:=by simp
  wp_walk using fB hl,fB hb,lg _ (λfM b v=>b.1=none/\v=⟨I,g,d,H,os⟩/\∃i k,i+k=min items.size c.size/\fM=(items.toList.zip c.toList).drop i /\
   R (.ok (.ret (.bool (sE e t (decide (items.size < c.size)) i k)))) ⟨I,g,d,H,os⟩) _
  case turn=>
   rintro ⟨y,x⟩ fM b v ⟨hb',rfl,i,k,hik,hz,hR⟩
   have q:i < (items.toList.zip c.toList).length:=by
    rcases F2 i (items.toList.zip c.toList).length with h'|h'
    ·exact h'
    ·rw[m8 h']at hz;cases hz
   have J:i < min items.size c.size:=L ▸ q;have Q:i < items.size:=bw J (Nat.min_le_left _ _);have O:i < c.size:=bw J (zA _ _);rw[bR q]at hz;injection hz with hyx hrest
   have o:y=items[i]:=by have:=cz Prod.fst hyx;simpa using this
   have hx:x=c[i]:=by have:=cz Prod.snd hyx;simpa using this
   subst o hx;obtain⟨k,rfl⟩:∃Y,k=Y+1:=⟨k-1,by ext⟩
   rw[sE]at hR;obtain⟨E,C⟩:=he i Q O;refine ab (E prog w _ _ ?_);cases o:e i with
   |true=>
    rw[o]at hR
    wp_walk
    exact⟨rfl,rfl,i+1,k,by ext,hrest,by simpa using hR⟩
   |false=>
    rw[o]at hR;simp only[aQ,if_false]at hR;simp only[eV,if_true];refine ab (ie ?_);refine ab (C o prog w _ _ ?_)
    wp_walk
    exact⟨_,rfl,by simpa using hR⟩
  case fin=>
   rintro ⟨b1,b2⟩ v ⟨hb',rfl,i,k,hik,hz,hR⟩
   simp only at hb';subst hb';have hge:min items.size c.size<=i:=by
    rcases F2 i (items.toList.zip c.toList).length with h'|h'
    ·rw[bR h']at hz;cases hz
    ·exact L ▸ h'
   have B:k=0:=by ext
   subst B;rw[sE]at hR
   wp_walk
   exact⟨_,rfl,by simpa [Builtin.Tuple.tupleCompareSizes] using hR⟩
  case h=>
   exact⟨rfl,rfl,0,_,qd _,rfl,by simpa using h⟩
section
variable{A:bB}{s:am}
theorem rl.ints{i j:Int}{t u:Tok}:rl A s (.int i t) (.int j u) (decide (i < j)):=λprog w E Q h=>
 richCompare_gives (op:=.Lt) (Ct s _ t) (Ct s _ u) F.slot_int_lt F.entry_int_lt (F.args_int_lt_2 _ _) (gives_int_lt _ _ t u) nofun h
theorem rl.tuples{l b:av}{items c:Array ah}{e t:Nat->Bool}(J:s.heap.IsTuple l items)(O:s.heap.IsTuple b c)(hu:A.units < cC)
  (L:∀j(Y:j < items.size)(U:j < c.size),EqAt A.in1 s items[j] c[j] (e j)/\(e j=false->rl A.in1 s items[j] c[j] (t j))):rl A s (.ref l) (.ref b) (sE e t (decide (items.size < c.size)) 0 (min items.size c.size)):=λprog w E Q h=>by
 obtain⟨⟨cls,T,data,H⟩,B,C,n,hd⟩:=id J;obtain⟨⟨G,v,data2,u⟩,g,q,I,o⟩:=id O;simp only at C hd q o;subst C hd q o;exact richCompare_meets_room (op:=.Lt) ⟨_,B,rfl⟩ ⟨_,g,rfl⟩ F.slot_tuple_lt F.entry_tuple_lt (F.args_tuple_lt_2 _ _) (P_ l b items c n I T v H u e t)
  ⟨B,g,L,show cS _≠ah.notImplemented/\Q (.bool _) s from ⟨nofun,h⟩⟩ hu
end
end PySem.SeqAt
namespace MM
open PySem PySem.Spec PyProof.Rows L2
noncomputable def yE(prog:Program)(w:bG)(A:bB)(op:uJ)(P:Nat->ah->Prop)(Kp:bQ->Prop)(c:Nat->Nat->Bool):Prop:=
 ∀i j vi vj(s:am)(Q:ah->am->Prop)(E:ah->am->Prop),Kp s.heap->P i vi->P j vj->Q (.bool (c i j)) s->aK (bc prog w) A (zM op vi vj) Q E s
section
variable{prog:Program}{w:bG}{A:bB}{R:Result->am->Prop}{I:av}{fp wr:List av}{n:Nat}{P:Nat->ah->Prop}{St:Nat->bQ->Prop}{kw:List (Str×ah)}{Kp:bQ->Prop}
theorem XX(W:Walks prog w A.in1 I fp wr n P St)(Y:Nat->Nat->Bool)(hcmp:yE prog w A.in1 .Lt P Kp Y)(S:av)(hSf:S∉fp)
  (kp:∀h h':bQ,Kp h->(∀b o,b∉wr->b≠S->h.get? b=some o->h'.get? b=some o)->Kp h'):
  ∀(k j:Nat)(s:am)(G:ah)(c:Nat),n-(j+1)=k->j+1<=n->St (j+1) s.heap->P (lC Y j) G->Kp s.heap ->
  s.heap.get? S=some { cls:=.type "list",dict:=none,data:=.seq #[G,G] c,slots:=#[] } ->
  (∀v h' tk,P (lC Y (n-1)) v->(∀b o,b∉wr->b≠S->s.heap.get? b=some o->h'.get? b=some o)->R (.ok (.ret v)) { s with heap:=h',toks:=tk }) ->
  ml (bc prog w) A (.builtin "min.loop" ⟨[.ref I,.none,.ref S],kw⟩) R s:=by
 have hSw:S∉wr:=λh=>hSf (W.sub _ h);have B:(toString "min"++toString ".loop":String)="min.loop":=by decide
 intro k
 induction k with
 |zero=>
  intro j s G c hk hj L H hK hS hR;have hin:j+1=n:=by ext
  refine gz mO ?_;rw[dS du _]
  show aK _ A.in1 (mB (.ref S) >>= _) _ _ s;refine ab (dD hS rfl ?_)
  show aK _ A.in1 (tryCatch (ko (.ref I)) _ >>= _) _ _ s;refine ab (mP (W.done s _ _ (hin ▸ L) λh' tk l=>?_));have E:=l S _ hSw hS
  show aK _ A.in1 (updateSeq S (λ_=>#[]) >>= _) _ _ _;refine ab ?_;refine ue E rfl (ab (iK (aq ?_)));refine hR G _ tk (by rw[<- hin];exact H) λb o q g e=>(cT _ _ (bC g)).trans (l b o q e)
 |succ k ih=>
  intro j s G c hk hj L H hK hS hR;have O:j+1 < n:=by ext
  refine gz mO ?_;rw[dS du _]
  show aK _ A.in1 (mB (.ref S) >>= _) _ _ s;refine ab (dD hS rfl ?_)
  show aK _ A.in1 (tryCatch (ko (.ref I)) _ >>= _) _ _ s;refine ab (mP (W.item (j+1) s _ _ O L λv h' tk hP J l=>?_));have E:=l S _ hSw hS;have T:Kp h':=kp _ _ hK λb o hb _ e=>l b o hb e
  show aK _ A.in1 (tryCatch (lq [v,v] (zM .Lt v G >>= _)) _ >>= _) _ _ _;refine ab (mP (cE (ab (hcmp (j+1) (lC Y j) v G _ _ _ T hP H ?_))));refine ab (cE (fu ?_));refine ab (iK (aq ?_));cases hb:Y (j+1) (lC Y j) with
  |true=>
   simp only[if_true];refine ab ?_;refine ue E rfl (ab (iK ?_));rw[B];refine aq ⟨fK du _,ih (j+1) _ v _ (by ext) O (W.frame _ _ _ J λb hbf o e=>?_) (by simp only[lC,hb,if_true];exact hP) (kp _ _ T λb o _ g e=>(cT _ _ (bC g)).trans e) (cH _ E rfl)
    λv' U u Q C=>?_⟩
   ·exact (cT _ _ (λh:S=b=>hSf (by rw[h];exact hbf))).trans e
   ·exact hR v' U u Q λb o q g e=>C b o q g ((cT _ _ (bC g)).trans (l b o q e))
  |false=>
   simp only[aQ,if_false];refine ab (iK ?_);rw[B];refine aq ⟨fK du _,ih (j+1) _ G c (by ext) O J (by simp only[lC,hb,aQ,if_false];exact H) T E λv' U u Q C=>?_⟩;exact hR v' U u Q λb o q g e=>C b o q g (l b o q e)
theorem NN(W:Walks prog w A.in1 I fp wr n P St)(bt:Nat->Nat->Bool)(G:yE prog w A.in1 .Lt P Kp bt)(S:av)(u:S∉fp)
  (L:∀h h':bQ,Kp h->(∀b o,b∉wr->b≠S->h.get? b=some o->h'.get? b=some o)->Kp h') (hn:0 < n) {s:am}{c:Nat} (O:St 0 s.heap) (hK:Kp s.heap)
  (hS:s.heap.get? S=some { cls:=.type "list",dict:=none,data:=.seq #[] c,slots:=#[] })
  (hR:∀v h' tk,P (lC bt (n-1)) v->(∀b o,b∉wr->b≠S->s.heap.get? b=some o->h'.get? b=some o)->R (.ok (.ret v)) { s with heap:=h',toks:=tk }):
  ml (bc prog w) A (.builtin "min.loop" ⟨[.ref I,.none,.ref S],kw⟩) R s:=by
 have T:S∉wr:=λh=>u (W.sub _ h);have l:(toString "min"++toString ".loop":String)="min.loop":=by decide
 refine gz mO ?_;rw[dS du _]
 show aK _ A.in1 (mB (.ref S) >>= _) _ _ s;refine ab (dD hS rfl ?_)
 show aK _ A.in1 (tryCatch (ko (.ref I)) _ >>= _) _ _ s;refine ab (mP (W.item 0 s _ _ hn O λv h' tk hP C q=>?_));have J:=q S _ T hS;have Y:Kp h':=L _ _ hK λb o hb _ e=>q b o hb e
 show aK _ A.in1 (updateSeq S (λ_=>#[v,v]) >>= _) _ _ _;refine ab ?_;refine ue J rfl ?_;rw[l];refine aq ⟨fK du _,XX W bt G S u L _ 0 _ v _ rfl hn (W.frame _ _ _ C λb Q o e=>?_) hP (L _ _ Y λb o _ g e=>(cT _ _ (bC g)).trans e) (cH _ J rfl) λv' h'' B U E=>?_⟩
 ·exact (cT _ _ (λh:S=b=>u (by rw[h];exact Q))).trans e
 ·exact hR v' h'' B U λb o H g e=>E b o H g ((cT _ _ (bC g)).trans (q b o H e))
end
section
variable{prog:Program}{w:bG}{A:bB}{E:ah->am->Prop}{s:am}
theorem Rb(a v:ah):argsOk "min" ⟨[a],[(aG "default",v)]⟩:=by unfold argsOk;kernel_rfl
theorem Rq{l:av}{items:Array ah}{dv:Option ah}{Q:ah->am->Prop}(hh:A.handled=none)(G:s.heap.IsList l items)(O:0 < items.size)(L:Nat->Nat->Bool)
  (u:yE prog w A.in1 .Lt (λi v=>items[i]?=some v) (λh=>∀b o,s.heap.get? b=some o->h.get? b=some o) L)
  (T:∀v h' C,items[lC L (items.size-1)]?=some v->(∀b o,s.heap.get? b=some o->h'.get? b=some o)->Q v { s with heap:=h',toks:=C }):
  aK (bc prog w) A (call (.builtin "min") [.ref l] (dv.toList.map λd=>(aG "default",d))) Q E s:=by
 have c:(toString "min"++toString ".loop":String)="min.loop":=by decide
 have q:l < s.heap.objs.size:=by obtain⟨_,e,_⟩:=G;exact aJ e
 refine PyProof.Rows.kmb_tree vZ vk vm (by cases dv with|none=>exact PySem.F.args_min1 _|some d=>exact Rb _ _) ?_;have I:gw "min" ["key","default"] 0 ⟨[],dv.toList.map λd=>(aG "default",d)⟩=pure [none,dv]:=by cases dv<;>rfl
 show aK _ A.in1 (gw "min" ["key","default"] 0 ⟨[],dv.toList.map λd=>(aG "default",d)⟩ >>= _) _ _ s;refine ab (m6 I ?_);refine ab (aq ?_);refine ab (kM G ?_);refine ab (bK ?_);have B:s.heap.objs.size < (s.heap.push { cls:=.type "list_iterator",data:=.fields #[.ref l,.int 0 0] }).objs.size:=by rw[cF];exact kP _
 have J:(s.heap.push { cls:=.type "list_iterator",data:=.fields #[.ref l,.int 0 0] }).objs.size∉[s.heap.objs.size,l]:=λg=>by
  rcases bb.mp g with e|g
  ·exact df B e
  ·rw[ax.mp g]at B;exact ba (qc q B) (bM _)
 rw[c];refine aq ⟨fK du _,NN (Kp:=λh=>∀b o,s.heap.get? b=some o->h.get? b=some o) (FY (A:=A.in1) hh s.heap.objs.size l (bA q) items) L u _ J (λh h' Y H b o e=>H b o (λg=>?_) (λz=>?_) (Y b o e)) O ?_ ?_ (aC _ rfl) λv h' C U H=>?_⟩
 ·exact ba (aJ e) (by rw[ax.mp g];exact bM _)
 ·subst z;exact ba (qc (aJ e) B) (bM _)
 ·exact⟨⟨_,al _ (aC _ rfl),rfl,rfl⟩,(G.push _).push _⟩
 ·exact λb o e=>al _ (al _ e)
 ·refine T v h' C U λb o e=>H b o (λg=>?_) (λz=>?_) (al _ (al _ e))
  ·exact ba (aJ e) (by rw[ax.mp g];exact bM _)
  ·subst z;exact ba (qc (aJ e) B) (bM _)
end
open PySem.SeqAt
section
variable{A:bB}{s:am}
theorem tx{i j:Int}{t u:Tok}:EqAt A s (.int i t) (.int j u) (i == j):=λprog w E Q h=>nK h
theorem ML{as bs:List Int}:∀(k i:Nat),i+k=min as.length bs.length->sE (λj=>as.getD j 0 == bs.getD j 0) (λj=>decide (as.getD j 0 < bs.getD j 0)) (decide (as.length < bs.length)) i k=i0 (as.drop i) (bs.drop i)
 |0,i,h=>by
  rw[sE];by_cases o:as.length < bs.length
  ·rw[bF o,m8 (by ext),bR (by ext)];rfl
  ·rw[aT o,m8 (l:=bs) (by ext)];cases as.drop i<;>rfl
 |k+1,i,h=>by
  have g:i < as.length:=by ext
  have c:i < bs.length:=by ext
  rw[sE,bR g,bR c,i0,ML k (i+1) (by ext)];rw[br,br,ag g,ag c];rfl
theorem ic.at_:∀{c:List ah}{g:List Int},ic c g->∀(i:Nat)(h:i < c.length),∃t,c[i]=.int (g.getD i 0) t
 |_,_,.nil,i,h=>by simp at h
 |_,_,.cons n t r,0,h=>⟨t,rfl⟩
 |_,_,.cons n t r,i+1,h=>by obtain⟨t',e⟩:=ic.at_ r i (by simpa using h);exact⟨t',by simpa using e⟩
theorem ic.len:∀{c:List ah}{g:List Int},ic c g->c.length=g.length
 |_,_,.nil=>rfl
 |_,_,.cons n t r=>by simp[ic.len r]
theorem Lp{xs:Array ah}{as:List Int}(h:ic xs.toList as){j:Nat}(c:j < xs.size):∃t,xs[j]=.int (as.getD j 0) t:=by obtain⟨t,e⟩:=ic.at_ h j (by simpa using c);exact⟨t,by simpa using e⟩
theorem R4{l b:av}{xs ys:Array ah}{as bs:List Int}(q:s.heap.IsTuple l xs)(v:s.heap.IsTuple b ys)(g:ic xs.toList as)(c:ic ys.toList bs)(hu:A.units < cC):rl A s (.ref l) (.ref b) (i0 as bs):=by
 have o:xs.size=as.length:=by simpa using ic.len g
 have h:ys.size=bs.length:=by simpa using ic.len c
 have:=rl.tuples (A:=A) (s:=s) (e:=λj=>as.getD j 0 == bs.getD j 0) (t:=λj=>decide (as.getD j 0 < bs.getD j 0)) q v hu λj C B=>by obtain⟨t,G⟩:=Lp g C;obtain⟨u,E⟩:=Lp c B;rw[G,E];exact⟨tx,λ_=>rl.ints⟩
 rw[o,h,ML _ 0 (by ext),nW,nW]at this;exact this
end
end MM
namespace MM
open PySem PySem.Spec PyProof.Rows L2
section
variable{prog:Program}{w:bG}{A:bB}{E:ah->am->Prop}{s:am}{env:Env}
theorem Qf{keys:List (Option Expr)}{c:List Expr}{pos:Pos}{Q:ah->am->Prop}(g:keys.all (·.isSome)=true)(C:keys.length=c.length)(H:keys≠[])(B:keys.length<=15)
  (h:aK (bc prog w) A (evalPairs (FW keys c env pos)) (λo u=>aK (bc prog w) A (forIn o F4 λ(x:ah×ah)(_:PUnit)=>(do xw s.heap.objs.size x.1 x.2;pure (kB F4):Sem (ForInStep PUnit))) (λ_ q=>Q (.ref s.heap.objs.size) q) E u) E { s with heap:=s.heap.push { cls:=.type "dict",data:=.dict #[] } }):
  aK (bc prog w) A (eval (.Dict keys c pos) env) Q E s:=by
 have v:=pairTrees_length keys c env pos g C;have l:FW keys c env pos≠[]:=λe=>by rw[e]at v;exact H (dW.mp v.symm)
 rw[arm_eval_Dict,zip_pairTrees keys c env pos g C,dictDisplay_pairs _ l (by ext)];refine ab (qr (ab ?_));unfold subDict;refine ab (wpAny_alloc (ab (cE ?_)));rw[aE (by ext)];refine ab (gN h (λo u l=>?_) λ_ _ e=>e);exact cE (ab (gN l (λ_ q G=>aq (aq (aq G))) λ_ _ e=>e))
end
section
variable{X:Cx}{ap:List (av×Obj)}{σ:St}{s:am}{a:av}{K:ak}{ρ:List av}{H:Hp}{st:a_}
theorem NI{n:Nat}{g:List (D×D)}{k d:D}{y v:V}{u Y:ah}{Q:Unit->am->Prop}{E:ah->am->Prop}{A:bB}(hu:A.units+2 < cC)(I:Inv X ap σ H s)(L:SR X.K ρ H st)(ha:ρ[n]?=some a)(hn:st[n]?=some (.dct true g))
  (U:dN X.K ρ H y k) (hk:m_ true k=true) (hl:g.length < sizeLine) (rv:dN X.K ρ H v d) (ry:RelV y u) (rr:RelV v Y)
  (h:∀J O,Inv X ap σ J O->SR X.K ρ J (st.set n (.dct true (kG g k d)))->Ex ρ H ρ J->Q () O):aK (bc X.prog X.w) A (xw a u Y) Q E s:=by
 have B:=(ac.mp hn).1;obtain⟨C,e,r⟩:=L.ob n a _ ha hn;obtain⟨k,rfl⟩:=CP hk;obtain⟨_,hd,xs,T,dd,de⟩:=xF I e r;obtain⟨c,e2,e3,hc⟩:=BO I U ry;subst e2 e3;have up:Up ρ H ρ (fq H a (iw a (putN C k c v))):=by
  refine⟨⟨[],by simp⟩,λc o no q=>?_,λc o q=>?_⟩
  ·rw[fI λz=>by subst z;rw[e]at q;cases q;exact nomatch no];exact q
  ·by_cases z:c=a
   ·subst z;rw[e]at q;cases q;exact⟨_,kq,rfl⟩
   ·exact⟨o,by rw[fI z];exact q,rfl⟩
 have w:=L.putO (o':=.dct true (kG g (rp k) d)) (u':=iw a (putN C k c v)) B ha e (by show (2:Nat)≠3;decide) rfl ⟨_,kq,(NR.put r k c U rv).up up⟩;have hz:xs.length<=sizeLine:=by rw[<- dj T,NR.length r];ext
 refine OT (knd:=Ab X) (show A.units+1 < cC by ext) hc dd de hz λh' l G hs=>h _ _ ?_ w.1 w.2;have he:∃q,h'.get? a=some q:=let ⟨q,_,_,hq,_⟩:=l;⟨q,hq⟩
 refine C2 I (by rw[e];exact da) hs he (C9 ?_ hd (NX.put T k c rr) l G);have:=K1 C k c v;rw[NR.length r]at this;ext
end
end MM
namespace MM
open PySem
abbrev At{α:Type}(_:α->a_->Prop):Type:=a_
inductive wp{α:Type}(m:M α)(Q:α->a_->Prop)(s:At Q):Prop
 |intro (a:α) (s':a_) (h:m s=.ok a s') (q:Q a s'):wp m Q s
theorem sJ{α:Type}{m:M α}{Q:α->a_->Prop}{s:a_}:wp m Q s=(match m s with
 | .ok a s'=>Q a s'
 |_=>False):=by
 apply propext;constructor
 ·rintro ⟨a,s',h,q⟩;rw[h];exact q
 ·intro h;cases e:m s with
  |ok a s'=>rw[e]at h;exact⟨a,s',e,h⟩
  |exc _ _=>rw[e]at h;exact h.elim
  |bad=>rw[e]at h;exact h.elim
section
variable{α β:Type}{Q:α->a_->Prop}{s:a_}
theorem cN{m:M α}{a:α}{c:a_}(h:m s=.ok a c):wp m Q s=Q a c:=by rw[sJ,h]
theorem tK{m:M α}(h:m s=.bad):wp m Q s=False:=by rw[sJ,h]
theorem iO{m:M β}{Q c:β->a_->Prop}{s:a_}(h:∀a g,Q a g=c a g):wp m Q s=wp m c s:=by rw[show Q=c from funext λa=>funext λt=>h a t]
theorem ck{a:α}:wp (ret a) Q s=Q a s:=cN rfl
theorem gi:wp (bad:M α) Q s=False:=tK rfl
theorem dF{m:M β}{f:β->M α}:wp (bnd m f) Q s=wp m (λa c=>wp (f a) Q c) s:=by simp only[sJ];unfold bnd;cases m s<;>rfl
theorem dB{c:Prop}[Decidable c]{m:M α}:wp (chk c m) Q s=(c/\wp m Q s):=by
 unfold chk;by_cases h:c
 ·simp[h]
 ·simp[h,gi]
theorem fY{o:MO}{Q:D->a_->Prop}:wp (alloc o) Q s=Q (.ref s.length) (s++[o]):=cN rfl
theorem dR{n:Nat}{ds:List D}{Q:List D->a_->Prop}(h:s[n]?=some (.lst ds)):wp (getL n) Q s=Q ds s:=by rw[sJ];unfold getL;rw[h]
theorem mE{n:Nat}{ds c:List D}{Q:Unit->a_->Prop}(h:s[n]?=some (.lst ds)):wp (putL n c) Q s=Q () (s.set n (.lst c)):=by rw[sJ];unfold putL;rw[h]
theorem vw{m:M α}{g:α->a_->Prop}(h:wp m Q s)(f:∀a c,Q a c->g a c):wp m g s:=by
 simp only[sJ]at *;cases e:m s with
 |ok a c=>rw[e]at h;exact f a c h
 |exc _ _=>rw[e]at h;exact h
 |bad=>rw[e]at h;exact h
theorem G6{c:Prop}[Decidable c]{m n:M α}:wp (if c then m else n) Q s=if c then wp m Q s else wp n Q s:=by split<;>rfl
end
theorem E5{ds:List D}{i:Int}{d:D}(c:0<=i)(h:ds[i.toNat]?=some d):cB ds i=ret d:=by have g:i.toNat < ds.length:=(ac.mp h).1;unfold cB MM.my;rw[aE c,aE (by ext)];dsimp only;rw[h]
theorem wO{n:Nat}{b:CS}{ds:List D}{Q:D->a_->Prop}{s:a_}:wp (cm n b ds) Q s=wp (b (ds.map some++aZ (n-ds.length) none)) (λf c=>wp (xY f) Q c) s:=by unfold cm;rw[dF]
theorem RW{g:CG}{b:CS}{same:a_->Prop}{Q:qj->a_->Prop}(W:List D->Loc->a_->Prop)
  (u:∀l s,W [] l s->wp (chkS same) (λ_ C=>Q (.next l) C) s)
  (o:∀d ds l s,W (d::ds) l s->wp (chkS same) (λ_ B=>wp (g d l) (λE v=>wp (b E) (λf c=>match f with
   | .next l2=>W ds l2 c
   | .cnt l2=>W ds l2 c
   | .brk l2=>Q (.next l2) c
   | .ret d=>Q (.ret d) c) v) B) s):∀ds l s,W ds l s->wp (md g b same ds l) Q s:=by
 intro ds
 induction ds with
 |nil=>
  intro l s h;unfold md;rw[dF];exact vw (u l s h) λ_ C q=>by rw[ck];exact q
 |cons d ds ih=>
  intro l s h;unfold md;rw[dF];refine vw (o d ds l s h) λ_ B q=>?_;rw[dF];refine vw q λE v q=>?_;rw[dF];refine vw q λf c q=>?_;cases f with
  |next l2=>exact ih l2 c q
  |cnt l2=>exact ih l2 c q
  |brk l2=>show wp (ret _) _ _;rw[ck];exact q
  |ret d=>show wp (ret _) _ _;rw[ck];exact q
theorem IY{g:CG}{t:CT}{e:CE}{same:a_->Prop}{Q:List D->a_->Prop}(W:List D->List D->Loc->a_->Prop)
  (B:∀c l s,W c [] l s->wp (chkS same) (λ_ C=>Q c C) s)
  (u:∀c d ds l s,W c (d::ds) l s->wp (chkS same) (λ_ H=>wp (g d l) (λo G=>wp (t o) (λb v=>if b=true then wp (e o) (λx E=>W (c++[x]) ds o E) v else W c ds o v) G) H) s):
  ∀ds c l s,W c ds l s->wp (collect g t e same ds l) (λxs C=>Q (c++xs) C) s:=by
 intro ds
 induction ds with
 |nil=>
  intro c l s h;unfold collect;rw[dF];exact vw (B c l s h) λ_ C q=>by rw[ck,bn];exact q
 |cons d ds ih=>
  intro c l s h;unfold collect;rw[dF];refine vw (u c d ds l s h) λ_ H q=>?_;rw[dF];refine vw q λo G q=>?_;rw[dF];refine vw q λb v q=>?_;cases b with
  |false=>exact ih c o v q
  |true=>
   show wp (bnd (e o) _) _ v;rw[dF];refine vw q λx E q=>?_;rw[dF];refine vw (ih (c++[x]) o E q) λxs I q=>?_;rw[ck];rw[aX]at q;exact q
theorem Gz{e:CE}{xs:List D}{same:a_->Prop}{caps:Loc}{s:a_}{Q:List D->a_->Prop}(W:Nat->List D->a_->Prop)(E:∀i c s,W i c s->same s)(H:W 0 [] s)
  (g:∀(i:Nat)d c s,xs[i]?=some d->W i c s->wp (e (some d::caps)) (λx C=>W (i+1) (c++[x]) C) s) (u:∀c s,W xs.length c s->Q c s):
  wp (collect (aP 0) bT e same xs (none::caps)) Q s:=by
 have chk:∀{s:a_}{R:Unit->a_->Prop},same s->R () s->wp (chkS same) R s:=λh r=>by rw[sJ];unfold chkS;rw[aE h];exact r
 refine IY (Q:=Q) (λc ds l s=>∃i B,ds=xs.drop i/\i<=xs.length/\l=B::caps/\W i c s) (λc l s ⟨i,B,v,G,_,w⟩=>?_) (λc d ds l s ⟨i,B,v,G,el,w⟩=>?_) xs [] _ s ⟨0,none,by simp,bu _,rfl,H⟩
 ·have : i = xs.length := by have:=cz eU v;simp at this;ext
  subst this;exact chk (E _ _ _ w) (u c s w)
 ·subst el;have o:i < xs.length:=by have:=cz eU v;simp at this;ext
  rw[bR o]at v;obtain⟨J,I⟩:=lJ v;refine chk (E _ _ _ w) ?_
  show wp (ret _) _ s;rw[ck]
  show wp (ret true) _ s;rw[ck]
  show wp (e (some d::caps)) _ s;exact vw (g i d c s (by rw[J];exact ag o) w) λx C q=>⟨i+1,some d,I,o,rfl,q⟩
theorem VB{n i:Nat}(h:i < n):(ir 0 n)[i]?=some (.int i):=by unfold ir;rw[aj,gB h];simp
theorem gQ{n:Nat}(h:n<=1000):n<=eS:=bW h (by decide)
theorem nB{n:Nat}(h:n<=1000):n < eS:=Nat.lt_of_le_of_lt h (by decide)
theorem OX{g:CG}{b:CS}{same:a_->Prop}{xs:List D}{l:Loc}{s:a_}{Q:qj->a_->Prop}(W:Nat->Loc->a_->Prop)(G:∀i l s,W i l s->same s)(J:W 0 l s)
  (o:∀(i:Nat)d l s,xs[i]?=some d->W i l s->wp (g d l) (λE C=>wp (b E) (λf u=>match f with
   | .next l2=>W (i+1) l2 u
   | .cnt l2=>W (i+1) l2 u
   | .brk l2=>Q (.next l2) u
   | .ret d=>Q (.ret d) u) C) s) (v:∀l s,W xs.length l s->Q (.next l) s):wp (md g b same xs l) Q s:=by
 have chk:∀{s:a_}{R:Unit->a_->Prop},same s->R () s->wp (chkS same) R s:=λh r=>by rw[sJ];unfold chkS;rw[aE h];exact r
 refine RW (λds l s=>∃i,ds=xs.drop i/\i<=xs.length/\W i l s) (λl s ⟨i,B,I,w⟩=>?_) (λd ds l s ⟨i,B,I,w⟩=>?_) xs l s ⟨0,by simp,bu _,J⟩
 ·have : i = xs.length := by have:=cz eU B;simp at this;ext
  subst this;exact chk (G _ _ _ w) (v l s w)
 ·have c : i < xs.length := by have:=cz eU B;simp at this;ext
  rw[bR c]at B;obtain⟨L,H⟩:=lJ B;refine chk (G _ _ _ w) ?_;refine vw (o i d l s (by rw[L];exact ag c) w) λE C q=>vw q λf u q=>?_;cases f with
  |next l2=>exact⟨i+1,H,c,q⟩
  |cnt l2=>exact⟨i+1,H,c,q⟩
  |brk l2=>exact q
  |ret d=>exact q
end MM
local macro_rules|`(tactic| bv_omega)=>`(tactic| first|rfl|exact MM.cN rfl|exact MM.tK rfl)
local macro_rules|`(tactic| ac_rfl)=>`(tactic| first|rfl|simp only[MM.ck,MM.fY,MM.gi]|(refine MM.iO λ_ _=>?_;simp only[MM.ck,MM.fY,MM.gi]))
namespace MM
open PySem
theorem nr{α:Sort u}{a b:α}(h:a=b):a=b:=h
section
variable{Q:D->a_->Prop}{R:qj->a_->Prop}{T:Bool->a_->Prop}{A:List D->a_->Prop}{G:Loc->a_->Prop}{I:Wk->a_->Prop}{s:a_}{l:Loc}
theorem qM{a b:CS}: wp (aM a b l) R s=wp (a l) (λf c=>match f with
  | .next l'=>wp (b l') R c
  | .ret d=>R (.ret d) c
  | .brk l'=>R (.brk l') c
  | .cnt l'=>R (.cnt l') c) s:=by
 unfold aM;rw[dF];congr 1;funext f c;cases f<;>first|bv_omega
theorem Bl:wp (aS l) R s=R (.next l) s:=cN rfl
theorem wM{g:CG}{a:CE}:wp (bD g a l) R s=wp (a l) (λd h=>wp (g d l) (λo c=>R (.next o) c) h) s:=by unfold bD;rw[dF];congr 1;funext d h;rw[dF];ac_rfl
theorem Fe{a:CE}:wp (dU a l) R s=wp (a l) (λd c=>R (.ret d) c) s:=by unfold dU;rw[dF];ac_rfl
theorem Em{a:CE}:wp (gL a l) R s=wp (a l) (λd c=>R (.next l) c) s:=by unfold gL;rw[dF];ac_rfl
theorem ER{t:CT}{a b:CS}:wp (lD t a b l) R s=wp (t l) (λc g=>if c=true then wp (a l) R g else wp (b l) R g) s:=by unfold lD;rw[dF];congr 1;funext c g;rw[G6]
theorem Ag{a:CE}: wp (cA a l) T s=wp (a l) (λx c=>match x with
  | .bl b=>T b c
  |_=>False) s:=by
 unfold cA;rw[dF];congr 1;funext x c;cases x<;>first|bv_omega
theorem D2{a:CE}:wp (pW a l) T s=wp (a l) (λx c=>wp (yz x) T c) s:=by unfold pW;rw[dF]
theorem FP{a:CT}:wp (pz a l) T s=wp (a l) (λx c=>T (!x) c) s:=by unfold pz;rw[dF];ac_rfl
theorem E6{a b:CT}:wp (oG a b l) T s=wp (a l) (λc g=>if c=true then wp (b l) T g else T false g) s:=by unfold oG;rw[dF];congr 1;funext c g;rw[G6];ac_rfl
theorem Ho{a b:CT}:wp (qH a b l) T s=wp (a l) (λc g=>if c=true then T true g else wp (b l) T g) s:=by unfold qH;rw[dF];congr 1;funext c g;rw[G6];ac_rfl
theorem gK{i:Nat}{d:D}:wp (aP i d l) G s=G (l.set i (some d)) s:=cN rfl
theorem Kk{d:D}{b:Option D}{r:Loc}{Q:Loc->a_->Prop}:wp (aP 0 d (b::r)) Q s=Q (some d::r) s:=gK
theorem IT{c:Option D}{d:D}{b:Option D}{r:Loc}{Q:Loc->a_->Prop}:wp (aP 1 d (c::b::r)) Q s=Q (c::some d::r) s:=gK
theorem Hq{g c:Option D}{d:D}{b:Option D}{r:Loc}{Q:Loc->a_->Prop}:wp (aP 2 d (g::c::b::r)) Q s=Q (g::c::some d::r) s:=gK
theorem Hk{h g c:Option D}{d:D}{b:Option D}{r:Loc}{Q:Loc->a_->Prop}:wp (aP 3 d (h::g::c::b::r)) Q s=Q (h::g::c::some d::r) s:=gK
theorem AS{o h g c:Option D}{d:D}{b:Option D}{r:Loc}{Q:Loc->a_->Prop}:wp (aP 4 d (o::h::g::c::b::r)) Q s=Q (o::h::g::c::some d::r) s:=gK
theorem DO{q o h g c:Option D}{d:D}{b:Option D}{r:Loc}{Q:Loc->a_->Prop}:wp (aP 5 d (q::o::h::g::c::b::r)) Q s=Q (q::o::h::g::c::some d::r) s:=gK
theorem FL{u q o h g c:Option D}{d:D}{b:Option D}{r:Loc}{Q:Loc->a_->Prop}:wp (aP 6 d (u::q::o::h::g::c::b::r)) Q s=Q (u::q::o::h::g::c::some d::r) s:=gK
theorem La{v u q o h g c:Option D}{d:D}{b:Option D}{r:Loc}{Q:Loc->a_->Prop}:wp (aP 7 d (v::u::q::o::h::g::c::b::r)) Q s=Q (v::u::q::o::h::g::c::some d::r) s:=gK
theorem Km{B v u q o h g c:Option D}{d:D}{b:Option D}{r:Loc}{Q:Loc->a_->Prop}:wp (aP 8 d (B::v::u::q::o::h::g::c::b::r)) Q s=Q (B::v::u::q::o::h::g::c::some d::r) s:=gK
theorem EJ{C B v u q o h g c:Option D}{d:D}{b:Option D}{r:Loc}{Q:Loc->a_->Prop}:wp (aP 9 d (C::B::v::u::q::o::h::g::c::b::r)) Q s=Q (C::B::v::u::q::o::h::g::c::some d::r) s:=gK
theorem Dt{E C B v u q o h g c:Option D}{d:D}{b:Option D}{r:Loc}{Q:Loc->a_->Prop}:wp (aP 10 d (E::C::B::v::u::q::o::h::g::c::b::r)) Q s=Q (E::C::B::v::u::q::o::h::g::c::some d::r) s:=gK
theorem DF{H E C B v u q o h g c:Option D}{d:D}{b:Option D}{r:Loc}{Q:Loc->a_->Prop}:wp (aP 11 d (H::E::C::B::v::u::q::o::h::g::c::b::r)) Q s=Q (H::E::C::B::v::u::q::o::h::g::c::some d::r) s:=gK
theorem EY{J H E C B v u q o h g c:Option D}{d:D}{b:Option D}{r:Loc}{Q:Loc->a_->Prop}:wp (aP 12 d (J::H::E::C::B::v::u::q::o::h::g::c::b::r)) Q s=Q (J::H::E::C::B::v::u::q::o::h::g::c::some d::r) s:=gK
theorem BX{o i:CE}{d:D}:wp (fR o i d l) G s=wp (o l) (λy g=>wp (i l) (λz c=>wp (lc y z d) (λ_ h=>G l h) c) g) s:=by unfold fR;rw[dF];congr 1;funext y g;rw[dF];congr 1;funext z c;rw[dF];ac_rfl
theorem kW{i:Nat}: wp (ai i l) Q s=match l[i]? with
  |some (some d)=>Q d s
  |_=>False:=by
 unfold ai;rcases l[i]? with _|_|d<;>first|bv_omega
theorem EH{d:D}{r:Loc}:wp (ai 0 (some d::r)) Q s=Q d s:=kW
theorem yM{c:Option D}{d:D}{r:Loc}:wp (ai 1 (c::some d::r)) Q s=Q d s:=kW
theorem HI{g c:Option D}{d:D}{r:Loc}:wp (ai 2 (g::c::some d::r)) Q s=Q d s:=kW
theorem HL{h g c:Option D}{d:D}{r:Loc}:wp (ai 3 (h::g::c::some d::r)) Q s=Q d s:=kW
theorem KJ{o h g c:Option D}{d:D}{r:Loc}:wp (ai 4 (o::h::g::c::some d::r)) Q s=Q d s:=kW
theorem EA{q o h g c:Option D}{d:D}{r:Loc}:wp (ai 5 (q::o::h::g::c::some d::r)) Q s=Q d s:=kW
theorem Jo{u q o h g c:Option D}{d:D}{r:Loc}:wp (ai 6 (u::q::o::h::g::c::some d::r)) Q s=Q d s:=kW
theorem IQ{v u q o h g c:Option D}{d:D}{r:Loc}:wp (ai 7 (v::u::q::o::h::g::c::some d::r)) Q s=Q d s:=kW
theorem Ik{B v u q o h g c:Option D}{d:D}{r:Loc}:wp (ai 8 (B::v::u::q::o::h::g::c::some d::r)) Q s=Q d s:=kW
theorem Kc{C B v u q o h g c:Option D}{d:D}{r:Loc}:wp (ai 9 (C::B::v::u::q::o::h::g::c::some d::r)) Q s=Q d s:=kW
theorem DW{H E C B v u q o h g c:Option D}{d:D}{r:Loc}:wp (ai 11 (H::E::C::B::v::u::q::o::h::g::c::some d::r)) Q s=Q d s:=kW
theorem Fb{J H E C B v u q o h g c:Option D}{d:D}{r:Loc}:wp (ai 12 (J::H::E::C::B::v::u::q::o::h::g::c::some d::r)) Q s=Q d s:=kW
theorem u4{d:D}:wp (aR d l) Q s=Q d s:=cN rfl
theorem Ko{g:D->M D}{a:CE}:wp (c1 g a l) Q s=wp (a l) (λx c=>wp (g x) Q c) s:=by unfold c1;rw[dF]
theorem Et{g:D->D->M D}{a b:CE}:wp (c2 g a b l) Q s=wp (a l) (λx h=>wp (b l) (λy c=>wp (g x y) Q c) h) s:=by unfold c2;rw[dF];congr 1;funext x h;rw[dF]
theorem xf{g:List D->M D}{a:CA}:wp (bN g a l) Q s=wp (a l) (λx c=>wp (g x) Q c) s:=by unfold bN;rw[dF]
theorem Af:wp (bh l) A s=A [] s:=cN rfl
theorem wV{a:CE}{r:CA}:wp (az a r l) A s=wp (a l) (λx g=>wp (r l) (λxs c=>A (x::xs) c) g) s:=by unfold az;rw[dF];congr 1;funext x g;rw[dF];ac_rfl
theorem Ec{a:CA}:wp (cV a l) Q s=wp (a l) (λxs c=>xs.length<=eS/\Q (.tup xs) c) s:=by unfold cV;rw[dF];congr 1;funext x c;rw[dB];ac_rfl
theorem A5{a:CA}:wp (eZ a l) A s=wp (a l) (λxs c=>xs.length<=eS/\A xs c) s:=by unfold eZ;rw[dF];congr 1;funext x c;rw[dB];ac_rfl
theorem AH{a:CA}:wp (dk a l) Q s=wp (a l) (λxs c=>Q (.ref c.length) (c++[.lst xs])) s:=by unfold dk;rw[dF];ac_rfl
theorem Fa{g:List D->M D}{a:CA}:wp (iq g a l) Q s=wp (a l) (λx c=>wp (g x) Q c) s:=by unfold iq;rw[dF]
theorem BG{n:Nat}{caps:List Nat}{i:CI}{g:CG}{t:CT}{e:CE}:wp (dm n caps i g t e l) A s=wp (i l) (λw c=>w.ds.length<=eS/\wp (collect g t e w.same w.ds (gX n caps l)) A c) s:=by unfold dm;rw[dF];congr 1;funext x c;rw[dB]
theorem FE{i:CI}{g:CG}{b:CS}:wp (iu i g b l) R s=wp (i l) (λw c=>wp (md g b w.same w.ds l) R c) s:=by unfold iu;rw[dF]
theorem D4{a:CE}: wp (MM.gp a l) I s=wp (a l) (λx c=>match x with
  | .int j=>(-(2^62)<=j/\j < 2^62)/\I ⟨ir 0 j.toNat,dw⟩ c
  |_=>False) s:=by
 unfold MM.gp;rw[dF];congr 1;funext x c;cases x<;>first|bv_omega|(dsimp only;rw[dB];ac_rfl)
theorem Ce{a:CE}: wp (g_ a l) I s=wp (a l) (λx c=>match x with
  | .tup ds=>I ⟨ds,dw⟩ c
  | .lit ds=>I ⟨ds,dw⟩ c
  | .ref n=>wp (getL n) (λds g=>I ⟨ds,io n ds⟩ g) c
  |_=>False) s:=by
 unfold g_;rw[dF];congr 1;funext x c;cases x<;>first|bv_omega|(dsimp only;rw[dF];ac_rfl)
theorem Aj{i j:Int}:wp (fm (.int i) (.int j)) Q s=Q (.int (i+j)) s:=cN rfl
theorem Ee{i j:Int}:wp (sA (.int i) (.int j)) Q s=Q (.int (i-j)) s:=cN rfl
theorem E9{i j:Int}:wp (rj (.int i) (.int j)) Q s=(pC i j/\Q (.int (i*j)) s):=by unfold rj;rw[dB];ac_rfl
theorem D9{i j:Int}:wp (r8 (.int i) (.int j)) Q s=((0 < j/\j < 1073741824)/\Q (.int (i / j)) s):=by unfold r8;rw[dB];ac_rfl
theorem FJ{i j:Int}:wp (oC (.int i) (.int j)) Q s=(0 < j/\Q (.int (i % j)) s):=by unfold oC;rw[dB];ac_rfl
theorem Kb{i j:Int}:wp (zk (.int i) (.int j)) Q s=Q (.bl (decide (i < j))) s:=cN rfl
theorem IP{i j:Int}:wp (vL (.int i) (.int j)) Q s=Q (.bl (decide (j < i))) s:=cN rfl
theorem HE{i j:Int}:wp (F9 (.int i) (.int j)) Q s=Q (.bl (decide (j<=i))) s:=cN rfl
theorem HB{i j:Int}:wp (lR (.int i) (.int j)) Q s=Q (.bl (i == j)) s:=cN rfl
theorem Kz{i j:Int}:wp (Ad (.int i) (.int j)) Q s=Q (.bl !(i == j)) s:=cN rfl
theorem qp{ds:List D}{i:Int}:wp (aU (.tup ds) (.int i)) Q s=wp (cB ds i) Q s:=nr rfl
theorem zc{n:Nat}{i:Int}:wp (aU (.ref n) (.int i)) Q s=wp (getL n) (λds c=>wp (cB ds i) Q c) s:=by unfold aU;rw[dF]
theorem wR{ds:List D}:wp (gR (.tup ds)) Q s=Q (.int ds.length) s:=cN rfl
theorem Bk{n:Nat}:wp (gR (.ref n)) Q s=wp (getL n) (λds c=>Q (.int ds.length) c) s:=by unfold gR;rw[dF];ac_rfl
theorem Ci{b:Bool}:wp (intD (.bl b)) Q s=Q (.int (if b then 1 else 0)) s:=cN rfl
theorem sx{n:Nat}{i:Int}{v:D}{U:Unit->a_->Prop}: wp (lc (.ref n) (.int i) v) U s=wp (getL n) (λds c=>wp (match MM.my ds.length i with
  |some j=>putL n (ds.set j v)
  |none=>bad) U c) s:=by
 unfold lc;rw[dF]<;>congr 1
theorem Bq{d:D}:wp (xY (.ret d)) Q s=Q d s:=cN rfl
theorem yT:wp (xY (.next l)) Q s=Q .non s:=cN rfl
end
theorem zw{a:CE}{lo o:CO}{A:List D->a_->Prop}{s:a_}{l:Loc}: wp (qB a lo o l) A s=wp (a l) (λx h=>wp (lo l) (λi g=>wp (o l) (λj c=>match x with
  | .lit ds=>A (cutD ds i j) c
  | .ref n=>wp (getL n) (λds q=>A (cutD ds i j) q) c
  |_=>False) g) h) s:=by
 unfold qB;rw[dF];congr 1;funext x h;rw[dF];congr 1;funext i g;rw[dF];congr 1;funext j c;cases x<;>first|bv_omega|(dsimp only;rw[dF];ac_rfl)
theorem B3{A:Option Int->a_->Prop}{s:a_}{l:Loc}:wp (tq l) A s=A none s:=cN rfl
theorem Bh{a:CE}{A:Option Int->a_->Prop}{s:a_}{l:Loc}: wp (pD a l) A s=wp (a l) (λx c=>match x with
  | .int i=>A (some i) c
  |_=>False) s:=by
 unfold pD;rw[dF];congr 1;funext x c;cases x<;>first|bv_omega
theorem AA{a:CE}{I:Wk->a_->Prop}{s:a_}{l:Loc}: wp (tP a l) I s=wp (a l) (λx c=>match x with
  | .tup ds=>I ⟨(ir 0 ds.length).zipWith (λi d=>.tup [i,d]) ds,dw⟩ c
  |_=>False) s:=by
 unfold tP;rw[dF];congr 1;funext x c;cases x<;>first|bv_omega
theorem uu{n:Nat}{r:List D->Loc->M Loc}{ds:List D}{G:Loc->a_->Prop}{s:a_}{l:Loc}:wp (fF n r (.tup ds) l) G s=(ds.length=n/\wp (r ds l) G s):=by unfold fF;rw[dB]
theorem oF{g:CG}{r:List D->Loc->M Loc}{d:D}{ds:List D}{G:Loc->a_->Prop}{s:a_}{l:Loc}:wp (ce g r (d::ds) l) G s=wp (g d l) (λh c=>wp (r ds h) G c) s:=by unfold ce;rw[dF]
theorem uw{G:Loc->a_->Prop}{s:a_}{l:Loc}:wp (gk [] l) G s=G l s:=cN rfl
def dE(s c:a_):Prop:=∃t,c=s++t
theorem dE.refl(s:a_):dE s s:=⟨[],by simp⟩
theorem dE.snoc{s c:a_}(h:dE s c)(o:MO):dE s (c++[o]):=by obtain⟨t,e⟩:=h;exact⟨t++[o],by rw[e];simp⟩
theorem dE.trans{s g c:a_}(h:dE s g)(k:dE g c):dE s c:=by obtain⟨t,e⟩:=h;obtain⟨u,f⟩:=k;exact⟨t++u,by rw[f,e];simp⟩
theorem dE.at_{s c:a_}{n:Nat}{o:MO}(h:dE s c)(k:s[n]?=some o):c[n]?=some o:=by obtain⟨t,e⟩:=h;rw[e,aw (ac.mp k).1];exact k
theorem Sv{α:Type}(f:α->Int)(xs:List α):iX (xs.map λx=>.int (f x))=some (xs.map f):=by
 induction xs with
 |nil=>rfl
 |cons x xs ih=>simp only[aI,iX,ih];ac_rfl
theorem MZ{α:Type}{m:M α}{v:α}{s:a_}{Q:α->a_->Prop}(h:wp m (λa c=>a=v/\c=s) s):wp m Q s=Q v s:=by
 simp only[sJ]at *;cases e:m s with
 |ok a c=>rw[e]at h;obtain⟨l,g⟩:=h;subst l;subst g;ac_rfl
 |exc _ _=>rw[e]at h;exact h.elim
 |bad=>rw[e]at h;exact h.elim
theorem NE{a b:Nat}{x y:List D}{Q:D->a_->Prop}{s:a_}(g:s[a]?=some (.lst x))(c:s[b]?=some (.lst y)):wp (fm (.ref a) (.ref b)) Q s=(x.length+y.length<=eS/\Q (.ref s.length) (s++[.lst (x++y)])):=by unfold fm;rw[dF,dR g,dF,dR c,dB];ac_rfl
def yY(x:D)(p q:Prop):Prop:=match x with
 | .bl true=>p
 | .bl false=>q
 |_=>False
theorem ut{p q:Prop}:yY (.bl true) p q=p:=nr rfl
theorem uG{p q:Prop}:yY (.bl false) p q=q:=nr rfl
section
variable{Q:D->a_->Prop}{T:Bool->a_->Prop}{R:qj->a_->Prop}{s:a_}{l:Loc}
theorem Bc{a b:CE}:wp (tY a b l) Q s=wp (a l) (λx c=>yY x (wp (b l) Q c) (Q (.bl false) c)) s:=by unfold tY;rw[dF];congr 1;funext x c;rcases x with _|b|_|_|_|_|_|_<;>first|bv_omega|(cases b<;>first|bv_omega)
theorem Dq{a b:CE}:wp (CK a b l) Q s=wp (a l) (λx c=>yY x (Q (.bl true) c) (wp (b l) Q c)) s:=by unfold CK;rw[dF];congr 1;funext x c;rcases x with _|b|_|_|_|_|_|_<;>first|bv_omega|(cases b<;>first|bv_omega)
theorem BW{a:CE}: wp (wJ a l) Q s=wp (a l) (λx c=>match x with
  | .bl b=>Q (.bl !b) c
  |_=>False) s:=by
 unfold wJ;rw[dF];congr 1;funext x c;cases x<;>first|bv_omega
theorem Eh{t:CT}{a b:CE}:wp (wY t a b l) Q s=wp (t l) (λc g=>if c=true then wp (a l) Q g else wp (b l) Q g) s:=by unfold wY;rw[dF];congr 1;funext c g;rw[G6]
theorem Bx{b:Bool}:wp (yz (.bl b)) T s=T b s:=cN rfl
theorem B6{ds:List D}:wp (kT ds) Q s=Q (.tup ds) s:=cN rfl
theorem sG{d:D}{ds:List D}:wp (cB (d::ds) 0) Q s=Q d s:=by rw[E5 (d:=d) (by ext) rfl,ck]
theorem sy{d e:D}{ds:List D}:wp (cB (d::e::ds) 1) Q s=Q e s:=by rw[E5 (d:=e) (by ext) rfl,ck]
theorem zp{d e f:D}{ds:List D}:wp (cB (d::e::f::ds) 2) Q s=Q f s:=by rw[E5 (d:=f) (by ext) rfl,ck]
theorem yU{d e f g:D}{ds:List D}:wp (cB (d::e::f::g::ds) 3) Q s=Q g s:=by rw[E5 (d:=g) (by ext) rfl,ck]
theorem pX{ds:List D}{i:Nat}{d:D}(h:ds[i]?=some d):wp (cB ds i) Q s=Q d s:=by rw[E5 (d:=d) (by ext) (by simpa using h),ck]
theorem Ay{a:CA}{I:Wk->a_->Prop}:wp (wW a l) I s=wp (a l) (λds c=>I ⟨ds,dw⟩ c) s:=by unfold wW;rw[dF];ac_rfl
end
noncomputable def bP(p:Prop):Bool:=@decide p (qZ p)
theorem F7{p:Prop}:bP p=true↔p:=by unfold bP;exact @decide_eq_true_iff p (qZ p)
theorem SY{p:Prop}(h:p):bP p=true:=F7.mpr h
theorem VL{p:Prop}(h:¬p):bP p=false:=by
 cases e:bP p with
 |false=>rfl
 |true=>exact (h (F7.mp e)).elim
theorem LI{b:Bool}{p:Prop}(h:b=true↔p):b=bP p:=by
 cases b with
 |true=>exact (SY (h.mp rfl)).symm
 |false=>exact (VL λk=>by cases h.mpr k).symm
noncomputable def bx{α:Type}(n:Nat)(f:Nat->α):List α:=(bH n).map f
theorem v7{α:Type}{n i:Nat}{f:Nat->α}(h:i < n):(bx n f)[i]?=some (f i):=by unfold bx;rw[aj,gB h];ac_rfl
theorem B9{α:Type}{n i:Nat}{f:Nat->α}{x:α}(h:(bx n f)[i]?=some x):i < n/\x=f i:=by
 have c:i < n:=by have:=(ac.mp h).1;simpa [bx] using this
 rw[v7 c]at h;cases h;exact⟨c,rfl⟩
theorem mT{α:Type}{n:Nat}{f:Nat->α}:(bx n f).length=n:=by simp[bx]
theorem Ha{α:Type}{n:Nat}{f:Nat->α}:bx (n+1) f=bx n f++[f n]:=by unfold bx;rw[fQ,aO];ac_rfl
theorem KD{α:Type}{n:Nat}{xs:List α}{f:Nat->α}(g:xs.length=n)(h:∀i,i < n->xs[i]?=some (f i)):xs=bx n f:=by
 apply eC;intro i;by_cases c:i < n
 ·rw[h i c,v7 c]
 ·rw[bX (by ext),bX (by rw[mT];ext)]
theorem yP{α:Type}{n:Nat}{f g:Nat->α}(h:∀i,i < n->f i=g i):bx n f=bx n g:=
 KD mT λi c=>by rw[v7 c,h i c]
theorem Hg{α β:Type}{n:Nat}{f:Nat->α}{g:α->β}:(bx n f).map g=bx n λi=>g (f i):=by unfold bx;rw[db];ac_rfl
theorem t5{n:Nat}:ir 0 n=bx n λi=>.int i:=by unfold ir bx;congr 1;funext k;simp
theorem PZ{n:Nat}{f:Nat->Bool}:ki (bx n λi=>.bl (f i))=some (bx n f):=by
 have:∀(xs:List Nat),ki (xs.map λi=>.bl (f i))=some (xs.map f):=by
  intro xs
  induction xs with
  |nil=>rfl
  |cons x xs ih=>simp only[aI,ki,ih];ac_rfl
 exact this _
theorem Vs{n:Nat}{p:Nat->Prop}{Q:D->a_->Prop}{s:a_}:wp (vv (bx n λi=>.bl (bP (p i)))) Q s=Q (.bl (bP (∃i,i < n/\p i))) s:=by unfold vv;rw[PZ];have:(bx n λi=>bP (p i)).any id=bP (∃i,i < n/\p i):=LI (by simp[bx,uk,F7]);dsimp only;rw[this,ck]
theorem MF{g:CG}{e:CE}{same:a_->Prop}{ds:List D}{E:Loc}{f:Nat->D}{Q:List D->a_->Prop}{s:a_}(I:Loc->Prop)(O:same s)(Y:I E)
  (h:∀i d l,ds[i]?=some d->I l->∃u,(∀G,wp (g d l) G s=G u s)/\I u/\∀Q,wp (e u) Q s=Q (f i) s):
  wp (collect g bT e same ds E) Q s=Q (bx ds.length f) s:=by
 have chk:∀{R:Unit->a_->Prop},R () s->wp (chkS same) R s:=λr=>by rw[sJ];unfold chkS;rw[aE O];exact r
 apply MZ;refine IY (Q:=λc o=>c=bx ds.length f/\o=s) (λc xs l o=>∃i,xs=ds.drop i/\i<=ds.length/\I l/\c=bx i f/\o=s) (λc l o ⟨i,v,T,_,C,B⟩=>?_) (λc d xs l o ⟨i,v,T,U,C,B⟩=>?_) ds [] _ s ⟨0,by simp,bu _,Y,rfl,rfl⟩
 ·have : i = ds.length := by have:=cz eU v;simp at this;ext
  subst this;subst B;exact chk ⟨C,rfl⟩
 ·have q : i < ds.length := by have:=cz eU v;simp at this;ext
  rw[bR q]at v;obtain⟨g,c⟩:=lJ v;obtain⟨u,L,J,H⟩:=h i d l (by rw[g];exact ag q) U;subst B;refine chk ?_;rw[L]
  show wp (ret true) _ o;rw[ck]
  show wp (e u) _ o;rw[H];exact⟨i+1,c,q,J,by rw[C,Ha],rfl⟩
theorem zZ{e:CE}{same:a_->Prop}{ds:List D}{caps:Loc}{f:Nat->D}{Q:List D->a_->Prop}{s:a_}(g:same s)(h:∀i d,ds[i]?=some d->∀Q,wp (e (some d::caps)) Q s=Q (f i) s):
  wp (collect (aP 0) bT e same ds (none::caps)) Q s=Q (bx ds.length f) s:=
 MF (λl=>∃x,l=x::caps) g ⟨none,rfl⟩ λi d l hd c=>by obtain⟨x,el⟩:=c;exact⟨some d::caps,λG=>by rw[el,gK];rfl,⟨_,rfl⟩,h i d hd⟩
theorem Gw{e:CE}{same:a_->Prop}{ds:List D}{caps:Loc}{f:Nat->D}{Q:List D->a_->Prop}{s:a_}(g:same s)(h:∀i d,ds[i]?=some d->∃a b,d=.tup [a,b]/\∀Q,wp (e (some a::some b::caps)) Q s=Q (f i) s):
  wp (collect (fF 2 (ce (aP 0) (ce (aP 1) gk))) bT e same ds (none::none::caps)) Q s=Q (bx ds.length f) s:=
 MF (λl=>∃x y,l=x::y::caps) g ⟨none,none,rfl⟩ λi d l hd c=>by obtain⟨x,y,el⟩:=c;obtain⟨a,b,o,q⟩:=h i d hd;refine⟨some a::some b::caps,λG=>?_,⟨_,_,rfl⟩,q⟩;rw[o,el,uu,oF,gK,oF,gK,uw];exact propext ⟨λh=>h.2,λh=>⟨rfl,h⟩⟩
section
variable{n:Nat}{f:Nat->D}{Q:D->a_->Prop}{s:a_}
theorem vP{i:Nat}(h:i < n):wp (cB (bx n f) (i:Int)) Q s=Q (f i) s:=pX (v7 h)
theorem TZ(h:0 < n):wp (cB (bx n f) 0) Q s=Q (f 0) s:=by have:=@pX Q s (bx n f) 0 (f 0) (v7 h);simpa using this
end
theorem sW{s:a_}:dw s:=trivial
theorem L3{g:CG}{b:CS}{same:a_->Prop}{n:Nat}{f:Nat->D}{l:Loc}{s:a_}{Q:qj->a_->Prop}(W:Nat->Loc->a_->Prop)(v:∀i l s,W i l s->same s)(C:W 0 l s)
  (c:∀(i:Nat)l s,i < n->W i l s->wp (g (f i) l) (λu q=>wp (b u) (λf o=>match f with
   | .next l2=>W (i+1) l2 o
   | .cnt l2=>W (i+1) l2 o
   | .brk l2=>Q (.next l2) o
   | .ret d=>Q (.ret d) o) q) s) (h:∀l s,W n l s->Q (.next l) s):wp (md g b same (bx n f) l) Q s:=
 OX W v C (λi d l s hd w=>by obtain⟨B,e⟩:=B9 hd;subst e;exact c i l s B w) (λl s w=>h l s (by rw[mT]at w;exact w))
theorem Rm{e:CE}{n:Nat}{f:Nat->D}{same:a_->Prop}{caps:Loc}{s:a_}{Q:List D->a_->Prop}(W:Nat->List D->a_->Prop)(o:∀i c s,W i c s->same s)(u:W 0 [] s)
  (g:∀(i:Nat)c s,i < n->W i c s->wp (e (some (f i)::caps)) (λx l=>W (i+1) (c++[x]) l) s) (h:∀c s,W n c s->Q c s):
  wp (collect (aP 0) bT e same (bx n f) (none::caps)) Q s:=
 Gz W o u (λi d c s hd w=>by obtain⟨q,e⟩:=B9 hd;subst e;exact g i c s q w) (λc s w=>h c s (by rw[mT]at w;exact w))
theorem v9{e:CE}{same:a_->Prop}{n:Nat}{g:Nat->D}{caps:Loc}{f:Nat->D}{Q:List D->a_->Prop}{s:a_}(c:same s)(h:∀i,i < n->∀Q,wp (e (some (g i)::caps)) Q s=Q (f i) s):
  wp (collect (aP 0) bT e same (bx n g) (none::caps)) Q s=Q (bx n f) s:=by
 rw[zZ (f:=f) c (λi d hd=>by obtain⟨l,e⟩:=B9 hd;subst e;exact h i l),mT]
theorem Xf{n:Nat}{f:Nat->D}:(ir 0 n).zipWith (λi d=>D.tup [i,d]) (bx n f)=bx n λi=>.tup [.int i,f i]:=by
 apply KD
 ·simp[ir,bx]
 ·intro i c;rw[fH,VB c,v7 c]
section
variable{Q:D->a_->Prop}{T:Bool->a_->Prop}{R:qj->a_->Prop}{A:List D->a_->Prop}{s:a_}{l:Loc}
theorem wD{a b:CE}: wp (cL a b l) Q s=wp (a l) (λx h=>match x with
  | .ref n=>wp (b l) (λv g=>wp (getL n) (λds c=>ds.length < eS/\wp (putL n (ds++[v])) (λ_ o=>Q .non o) c) g) h
  |_=>False) s:=by
 unfold cL;rw[dF];congr 1;funext x h;cases x<;>first|bv_omega|(dsimp only;rw[dF];congr 1;funext v g;unfold uW;rw[dF];congr 1;funext ds c;rw[dB,dF];first|ac_rfl|(refine cz _ ?_;refine iO λ_ _=>?_;simp only[ck,fY,gi]))
theorem Eu{a:CE}: wp (tH a l) Q s=wp (a l) (λx g=>match x with
  | .ref n=>wp (getL n) (λds c=>match ds.getLast? with
   |some d=>wp (putL n ds.dropLast) (λ_ h=>Q d h) c
   |none=>False) g
  |_=>False) s:=by
 unfold tH;rw[dF];congr 1;funext x g;cases x<;>first|bv_omega|(dsimp only;rw[dF];congr 1;funext ds c;cases ds.getLast?<;>first|bv_omega|(dsimp only;rw[dF];first|ac_rfl|(refine cz _ ?_;refine iO λ_ _=>?_;simp only[ck,fY,gi])))
theorem A2{a:CE}: wp (tM a l) A s=wp (a l) (λx c=>match x with
  | .ref n=>wp (getL n) (λds g=>A ds.reverse g) c
  |_=>False) s:=by
 unfold tM;rw[dF];congr 1;funext x c;cases x<;>first|bv_omega|(dsimp only;rw[dF];first|ac_rfl|(refine cz _ ?_;refine iO λ_ _=>?_;simp only[ck,fY,gi]))
theorem zj{ds:List D}:wp (t6 (.tup ds)) Q s=Q (.ref s.length) (s++[.lst ds]):=cN rfl
theorem wz{n:Nat}:wp (tupleD (.ref n)) Q s=wp (getL n) (λds c=>Q (.tup ds) c) s:=by unfold tupleD;rw[dF];(try dsimp only);(try rw[dF]);refine iO λ_ _=>?_;simp only[ck,fY,gi]
theorem yS{a b:Str}:wp (lR (.str a) (.str b)) Q s=Q (.bl (a == b)) s:=cN rfl
theorem Bs{ds:List D}:wp (hV ["tuple"] (.tup ds)) Q s=Q (.bl true) s:=cN rfl
theorem BD{i:Int}:wp (hV ["int"] (.int i)) Q s=Q (.bl true) s:=cN rfl
theorem Cc{i:Int}:wp (hV ["bool"] (.int i)) Q s=Q (.bl false) s:=cN rfl
theorem EO{i:Int}:wp (tw (.int i)) Q s=Q (.int (-i)) s:=cN rfl
theorem Ax{i j:Int}:wp (u8 (.int i) (.int j)) Q s=Q (.int (min i j)) s:=cN rfl
theorem BK{a b:CE}{I:Wk->a_->Prop}: wp (MM.ng a b l) I s=wp (a l) (λx g=>wp (b l) (λy c=>match x,y with
  | .int i,.int j=>((-(2^62)<=i/\i < 2^62)/\(-(2^62)<=j/\j < 2^62))/\I ⟨ir i (j-i).toNat,dw⟩ c
  |_,_=>False) g) s:=by
 unfold MM.ng;rw[dF];congr 1;funext x g;rw[dF];congr 1;funext y c;cases x<;>cases y<;>first|bv_omega|(dsimp only;rw[dB];first|ac_rfl|(refine cz _ ?_;refine iO λ_ _=>?_;simp only[ck,fY,gi]))
theorem Bu{x y:List D}:wp (fm (.tup x) (.tup y)) Q s=(x.length+y.length<=eS/\Q (.tup (x++y)) s):=by unfold fm;rw[dB];first|ac_rfl|(refine cz _ ?_;refine iO λ_ _=>?_;simp only[ck,fY,gi])
theorem wv{a:CA}{b:CE}: wp (mJ a b l) Q s=wp (a l) (λds g=>wp (b l) (λi c=>match i with
  | .int k=>wp (cB ds k) Q c
  |_=>False) g) s:=by
 unfold mJ;rw[dF];congr 1;funext ds g;rw[dF];congr 1;funext i c;cases i<;>first|bv_omega
theorem yA{g:D->List D->M D}{a:CE}{b:CA}:wp (pb g a b l) Q s=wp (a l) (λx c=>wp (b l) (λds h=>wp (g x ds) Q h) c) s:=by unfold pb;rw[dF];congr 1;funext x c;rw[dF]
theorem WS{x:D}{ds:List D}:wp (zX x ds) Q s=((kz x=true/\ds.all kz=true)/\Q (.bl (ds.any λd=>tV d x)) s):=by unfold zX;rw[dB];first|ac_rfl|(refine cz _ ?_;refine iO λ_ _=>?_;simp only[ck,fY,gi])
theorem Y3{x:D}{ds:List D}:wp (wH x ds) Q s=((kz x=true/\ds.all kz=true)/\Q (.bl !(ds.any λd=>tV d x)) s):=by unfold wH;rw[dB];first|ac_rfl|(refine cz _ ?_;refine iO λ_ _=>?_;simp only[ck,fY,gi])
end
theorem FD{p q:Prop}:(if false=true then p else q)=q:=aA (by simp)
noncomputable def mx(f:Nat->Nat):Nat->Nat
 |0=>0
 |n+1=>max (mx f n) (f n)
theorem WT{f:Nat->Nat}{n m:Nat}(h:∀i,i < n->f i<=m):mx f n<=m:=by
 induction n with
 |zero=>exact bu _
 |succ n ih=>unfold mx;exact Nat.max_le.mpr ⟨ih λi c=>h i (by ext),h n (by ext)⟩
theorem RL{f:Nat->Nat}{n i:Nat}(h:i < n):f i<=mx f n:=by
 induction n with
 |zero=>ext
 |succ n ih=>
  unfold mx;by_cases e:i=n
  ·subst e;exact zN _ _
  ·exact bW (ih (by ext)) (Au _ _)
theorem Q4{f:Nat->Nat}{n:Nat}{Q:D->a_->Prop}{s:a_}(g:0 < n):wp (tE (bx n λi=>.int (f i:Nat))) Q s=Q (.int (mx f n:Nat)) s:=by
 obtain⟨k,rfl⟩:∃k,n=k+1:=⟨n-1,by ext⟩
 have c:∀(k:Nat),(((bH k).map (· + 1)).map λ(i:Nat)=>((f i:Nat):Int)).foldl max ((f 0:Nat):Int)=((mx f (k+1):Nat):Int):=by
  intro k
  induction k with
  |zero=>show ((f 0:Nat):Int)=((max 0 (f 0):Nat):Int);ext
  |succ k ih=>
   rw[fQ,aO,aO,pN,ih]
   show max ((mx f (k+1):Nat):Int) ((f (k+1):Nat):Int)=((max (mx f (k+1)) (f (k+1)):Nat):Int)
   ext
 unfold tE bx;rw[Sv (λi=>((f i:Nat):Int)),m5,aI];dsimp only;rw[ck,<- c k]
theorem dE.put{s c:a_}{n:Nat}{o:MO}(h:dE s c)(g:s.length<=n):dE s (c.set n o):=by obtain⟨t,e⟩:=h;exact⟨t.set (n-s.length) o,by rw[e,uS _ _ g]⟩
theorem dE.le{s c:a_}(h:dE s c):s.length<=c.length:=by obtain⟨t,e⟩:=h;rw[e];simp
theorem HP{t:CT}{b:CS}:∀(n:Nat)(l:Loc)(s:a_),eW t b n l s≠.bad->eW t b (n+1) l s=eW t b n l s
 |0,l,s,h=>(h rfl).elim
 |n+1,l,s,h=>by
  have g:∀k,eW t b (k+1) l s=(match t l s with
   | .ok true s1=>(match b l s1 with
    | .ok (.next l2) s2=>eW t b k l2 s2
    | .ok (.cnt l2) s2=>eW t b k l2 s2
    | .ok (.brk l2) s2=>.ok (.next l2) s2
    | .ok (.ret d) s2=>.ok (.ret d) s2
    | .exc x s2=>.exc x s2
    | .bad=>.bad)
   | .ok false s1=>.ok (.next l) s1
   | .exc x s1=>.exc x s1
   | .bad=>.bad):=λk=>by
   show bnd (t l) _ s=_;unfold bnd;cases t l s with
   |exc x s1=>rfl
   |bad=>rfl
   |ok c s1=>
    cases c with
    |false=>rfl
    |true=>
     show (bnd (b l) _) s1=_;unfold bnd;dsimp only;cases b l s1 with
     |exc x s2=>rfl
     |bad=>rfl
     |ok f s2=>cases f<;>first|bv_omega
  rw[g (n+1),g n];rw[g n]at h;cases o:t l s with
  |exc x s1=>rfl
  |bad=>rfl
  |ok c s1=>
   rw[o]at h;cases c with
   |false=>rfl
   |true=>
    dsimp only at h ⊢;cases q:b l s1 with
    |exc x s2=>rfl
    |bad=>rfl
    |ok f s2=>
     rw[q]at h;cases f with
     |next l2=>exact HP n l2 s2 h
     |cnt l2=>exact HP n l2 s2 h
     |brk l2=>rfl
     |ret d=>rfl
theorem Mz{t:CT}{b:CS}{n m:Nat}{l:Loc}{s:a_}(h:eW t b n l s≠.bad)(c:n<=m):eW t b m l s=eW t b n l s:=by
 induction m with
 | zero => have : n = 0 := by ext
           subst this;ac_rfl
 |succ m ih=>
  by_cases e:n=m+1
  ·subst e;ac_rfl
  ·have:=ih (by ext);rw[HP m l s (by rw[this];exact h),this]
theorem TW{t:CT}{b:CS}{Q:qj->a_->Prop}{l:Loc}{s:a_}(W:Loc->a_->Prop)(μ:Loc->a_->Nat)(J:W l s)
  (H:∀l s,W l s->wp (t l) (λc B=>if c=true then wp (b l) (λf o=>match f with
   | .next l2=>W l2 o/\μ l2 o < μ l s
   | .cnt l2=>W l2 o/\μ l2 o < μ l s
   | .brk l2=>Q (.next l2) o
   | .ret d=>Q (.ret d) o) B else Q (.next l) B) s):wp (iJ t b l) Q s:=by
 have key:∀(k:Nat)(l:Loc)(s:a_),μ l s < k->W l s->∃n,wp (eW t b n l) Q s:=by
  intro k
  induction k with
  |zero=>intro l s h;ext
  |succ k ih=>
   intro l s L w;have v:=H l s w;rw[sJ]at v;cases C:t l s with
   |exc x B=>rw[C]at v;exact v.elim
   |bad=>rw[C]at v;exact v.elim
   |ok c B=>
    rw[C]at v;cases c with
    |false=>
     refine⟨1,?_⟩
     show wp (bnd (t l) _) Q s;rw[dF,cN C]
     show wp (ret _) _ _;rw[ck];exact v
    |true=>
     have g:wp (b l) _ B:=v;rw[sJ]at g;cases E:b l B with
     |exc x o=>rw[E]at g;exact g.elim
     |bad=>rw[E]at g;exact g.elim
     |ok f o=>
      rw[E]at g;have go:∀(n:Nat),wp (match f with
       | .next l2=>eW t b n l2
       | .cnt l2=>eW t b n l2
       | .brk l2=>ret (.next l2)
       | .ret d=>ret (.ret d)) Q o->wp (eW t b (n+1) l) Q s:=λn q=>by
       show wp (bnd (t l) _) Q s;rw[dF,cN C,aE rfl,dF,cN E];exact q
      cases f with
      |next l2=>obtain⟨n,u⟩:=ih l2 o (by have:=g.2;ext) g.1;exact⟨n+1,go n u⟩
      |cnt l2=>obtain⟨n,u⟩:=ih l2 o (by have:=g.2;ext) g.1;exact⟨n+1,go n u⟩
      |brk l2=>exact⟨1,go 0 (by show wp (ret _) _ _;rw[ck];exact g)⟩
      |ret d=>exact⟨1,go 0 (by show wp (ret _) _ _;rw[ck];exact g)⟩
 obtain⟨n,u⟩:=key (μ l s+1) l s (kP _) J;have G:eW t b n l s≠.bad:=λe=>by rw[sJ]at u;rw[e]at u;exact u
 have ex:∃n,∀r,eW t b n l s=r->r≠.bad:=⟨n,λr e=>e ▸ G⟩
 rw[sJ];unfold iJ;rw[dif_pos ex];have I:eW t b (i9 ex) l s≠.bad:=Classical.choose_spec ex _ rfl;have e:eW t b (i9 ex) l s=eW t b n l s:=by rw[<- Mz I (Au (i9 ex) n),<- Mz G (zN (i9 ex) n)]
 rw[e];rw[sJ]at u;exact u
section
variable{Q:D->a_->Prop}{s:a_}{l:Loc}
theorem wC{a:CE}{lo o:CO}: wp (nz a lo o l) Q s=wp (a l) (λx h=>wp (lo l) (λi g=>wp (o l) (λj c=>match x with
  | .tup ds=>¬(gY ds.length 0 i=0/\gY ds.length ds.length j=ds.length)/\Q (.tup (cutD ds i j)) c
  |_=>False) g) h) s:=by
 unfold nz;rw[dF];congr 1;funext x h;rw[dF];congr 1;funext i g;rw[dF];congr 1;funext j c;cases x<;>first|bv_omega|(dsimp only;rw[dB];ac_rfl)
inductive Pd:Nat->D->Prop
 |non {n}:Pd n .non
 |bl {n} (b):Pd n (.bl b)
 |int {n} (i):Pd n (.int i)
 |str {n} (x):Pd n (.str x)
 |tup {n}{ds:List D} (h:∀d∈ds,Pd n d):Pd (n+1) (.tup ds)
theorem Pd.up{n:Nat}{d:D}(h:Pd n d):Pd (n+1) d:=by
 induction h with
 |non=>exact .non
 |bl b=>exact .bl b
 |int i=>exact .int i
 |str x=>exact .str x
 |tup h ih=>exact .tup ih
theorem O0{f:D->D->Option Bool}:∀{ds:List D},(∀d∈ds,f d d=some true)->kJ f ds ds=some true
 |[],_=>rfl
 |d::ds,h=>by unfold kJ;rw[h d (by simp)];exact O0 λx c=>h x (by simp[c])
theorem Pd.eq{n:Nat}{d:D}(h:Pd n d):rW n d d=some true:=by
 induction h with
 |@non n=>cases n<;>first|bv_omega
 |@bl n b=>cases n<;>exact cz some (beq_self_eq_true b)
 |@int n i=>cases n<;>exact cz some (beq_self_eq_true i)
 |@str n x=>cases n<;>exact cz some (beq_self_eq_true x)
 |@tup n ds h ih=>exact O0 ih
theorem Pd.le{n m:Nat}{d:D}(h:Pd n d)(c:n<=m):Pd m d:=by
 induction m with
 | zero => have : n = 0 := by ext
           subst this;exact h
 |succ m ih=>
  by_cases e:n=m+1
  ·subst e;exact h
  ·exact (ih (by ext)).up
theorem WD{n:Nat}{ds:List D}(h:Pd n (.tup ds))(c:n<=50):wp (lR (.tup ds) (.tup ds)) Q s=Q (.bl true) s:=by
 have:=(h.le c).eq;unfold lR Ey;rw[dF];dsimp only;rw[this]
 first|rfl|exact cN rfl|exact (cN rfl).trans ck|(simp only[ck,gi];done)
theorem U0{n:Nat}{ds:List D}(h:Pd n (.tup ds))(c:n<=50):wp (Ad (.tup ds) (.tup ds)) Q s=Q (.bl false) s:=by
 have:=(h.le c).eq;unfold Ad Ey;rw[dF];dsimp only;rw[this]
 first|rfl|exact cN rfl|exact (cN rfl).trans ck|(simp only[ck,gi];done)
end
theorem Lr{α:Type}{n:Nat}{x:α}{f:Nat->α}: x::bx n f=bx (n+1) λd=>match d with
  |0=>x
  |d+1=>f d:=by
 unfold bx;rw[m5,aI,db];ac_rfl
theorem Mm{lo:Int}{n:Nat}:ir lo n=bx n λi=>.int (lo+i):=rfl
section
variable{α β:Type}{γ:Sort _}
theorem EF{p:Prop}[Decidable p]:(decide p=true)=p:=_root_.decide_eq_true_eq
theorem Jw{n:Nat}{a:α}:aZ (n+1) a=a::aZ n a:=nr rfl
theorem J_{a:α}:aZ 0 a=[]:=nr rfl
theorem HN{x:Option α}:(some x).join=x:=nr rfl
theorem JG{f:α->β}{a:α}{l:List α}:nZ f (a::l)=f a::nZ f l:=nr rfl
theorem Ku{f:α->β}:nZ f []=[]:=nr rfl
theorem Jh{a:α}{l k:List α}:(a::l)++k=a::(l++k):=nr rfl
theorem K_{l:List α}:[]++l=l:=nr rfl
theorem J3{a:α}{l:List α}:(a::l)[0]?=some a:=nr rfl
theorem Ic{a:α}{l:List α}{i:Nat}:(a::l)[i+1]?=l[i]?:=by simp
theorem JV{a b:α}{l:List α}:(a::l).set 0 b=b::l:=nr rfl
theorem KN{a b:α}{l:List α}{i:Nat}:(a::l).set (i+1) b=a::l.set i b:=nr rfl
theorem JE{a:α}{l:List α}:(a::l).length=l.length+1:=nr rfl
theorem JH:([]:List α).length=0:=nr rfl
theorem Jp{c d:γ}:(if True then c else d)=c:=aE trivial
theorem KW{c d:γ}:(if False then c else d)=d:=aA (λh=>h)
theorem K4{p:Prop}:(p/\True)=p:=and_true p
theorem HK{p:Prop}:(True/\p)=p:=true_and p
theorem HF:(!true)=false:=nr rfl
theorem Kn:(!false)=true:=nr rfl
end
section
variable{Q:D->a_->Prop}{U:Unit->a_->Prop}{A:List D->a_->Prop}{s:a_}{l:Loc}
theorem tQ{n:Nat}{b:Bool}{c:List (D×D)}{Q:Bool×List (D×D)->a_->Prop}(h:s[n]?=some (.dct b c)):wp (getDc n) Q s=Q (b,c) s:=by rw[sJ];unfold getDc;rw[h]
theorem Hn{n:Nat}{b:Bool}{g c:List (D×D)}{Q:Unit->a_->Prop}(h:s[n]?=some (.dct b g)):wp (pF n b c) Q s=Q () (s.set n (.dct b c)):=by rw[sJ];unfold pF;rw[h];simp
theorem v8{n:Nat}{b:Bool}{c:List (D×D)}{k d:D}(h:s[n]?=some (.dct b c))(o:m_ b k=true)(g:lN c k=some d):wp (itemK n k) Q s=Q d s:=by unfold itemK;rw[dF,tQ h,dB];dsimp only;rw[g,ck];exact propext ⟨λh=>h.2,λh=>⟨o,h⟩⟩
theorem zY{n:Nat}{b:Bool}{c:List (D×D)}{k v:D}(h:s[n]?=some (.dct b c))(o:m_ b k=true)(g:c.length < eS):wp (storeK n k v) U s=U () (s.set n (.dct b (kG c k v))):=by unfold storeK;rw[dF,tQ h,dB];dsimp only;rw[Hn h];exact propext ⟨λh=>h.2,λh=>⟨⟨o,g⟩,h⟩⟩
theorem El{n:Nat}{b:Bool}{c:List (D×D)}{k:D}{Q:Bool->a_->Prop}(h:s[n]?=some (.dct b c))(g:m_ b k=true):wp (hasK n k) Q s=Q (lN c k).isSome s:=by unfold hasK;rw[dF,tQ h,dB,ck];exact propext ⟨λh=>h.2,λh=>⟨g,h⟩⟩
theorem yZ{n:Nat}{k:D}:wp (aU (.dic n) k) Q s=wp (itemK n k) Q s:=by cases k<;>first|bv_omega
theorem AY{n:Nat}{k v:D}:wp (lc (.dic n) k v) U s=wp (storeK n k v) U s:=by cases k<;>first|bv_omega
theorem yG{n:Nat}{k:D}:wp (mX k (.dic n)) Q s=wp (hasK n k) (λb c=>Q (.bl !b) c) s:=by unfold mX;rw[dF];ac_rfl
theorem Sr{n:Nat}{b:Bool}{c:List (D×D)}(h:s[n]?=some (.dct b c)):wp (gR (.dic n)) Q s=Q (.int c.length) s:=by unfold gR;rw[dF,tQ h];ac_rfl
theorem A1{b:Bool}:wp (nR b l) Q s=Q (.dic s.length) (s++[.dct b []]):=cN rfl
end
theorem mR{α:Type}{l:List α}{a:α}:(l++[a])[l.length]?=some a:=by rw[aW (ar _),eK];ac_rfl
theorem m4{α:Type}{l:List α}{a b:α}{n:Nat}(h:l[n]?=some a):(l++[b])[n]?=some a:=by rw[aw (ac.mp h).1];exact h
end MM
noncomputable def MM.xP:=aD @MM.qM<|aD @MM.Bl<|aD @MM.wM<|aD @MM.Fe<|aD @MM.Em<|aD @MM.ER<|aD @MM.Ag<|aD @MM.Bc<|aD @MM.Dq<|aD @MM.BW<|aD @MM.Eh<|aD @MM.Bx<|aD @MM.B6<|aD @MM.sG<|aD @MM.sy<|aD @MM.zp<|aD @MM.yU<|aD @MM.Ay<|aD @MM.AA<|aD @MM.uu<|aD @MM.oF<|aD @MM.uw<|aD @MM.zw<|aD @MM.B3<|aD @MM.Bh<|aD @MM.D2<|aD @MM.FP<|aD @MM.E6<|aD @MM.Ho<|aD @MM.Kk<|aD @MM.IT<|aD @MM.Hq<|aD @MM.Hk<|aD @MM.AS<|aD @MM.DO<|aD @MM.FL<|aD @MM.La<|aD @MM.Km<|aD @MM.EJ<|aD @MM.Dt<|aD @MM.DF<|aD @MM.EY<|aD @MM.BX<|aD @MM.EH<|aD @MM.yM<|aD @MM.HI<|aD @MM.HL<|aD @MM.KJ<|aD @MM.EA<|aD @MM.Jo<|aD @MM.IQ<|aD @MM.Ik<|aD @MM.Kc<|aD @MM.DW<|aD @MM.Fb<|aD @MM.u4<|aD @MM.Ko<|aD @MM.Et<|aD @MM.xf<|aD @MM.Af<|aD @MM.wV<|aD @MM.Ec<|aD @MM.A5<|aD @MM.AH<|aD @MM.Fa<|aD @MM.BG<|aD @MM.FE<|aD @MM.D4<|aD @MM.Ce<|aD @MM.Aj<|aD @MM.Ee<|aD @MM.E9<|aD @MM.D9<|aD @MM.FJ<|aD @MM.Kb<|aD @MM.IP<|aD @MM.HE<|aD @MM.HB<|aD @MM.Kz<|aD @MM.qp<|aD @MM.zc<|aD @MM.wR<|aD @MM.Bk<|aD @MM.Ci<|aD @MM.sx<|aD @MM.Bq<|aD @MM.yT<|aD @MM.wO<|aD @MM.ck<|aD @MM.dB<|aD @MM.fY<|aD @MM.wD<|aD @MM.Eu<|aD @MM.A2<|aD @MM.zj<|aD @MM.wz<|aD @MM.yS<|aD @MM.Bs<|aD @MM.BD<|aD @MM.Cc<|aD @MM.EO<|aD @MM.Ax<|aD @MM.BK<|aD @MM.Bu<|aD @MM.wv<|aD @MM.yA<|aD @MM.wC<|aD @MM.yZ<|aD @MM.AY<|aD @MM.yG<|@MM.A1
local macro_rules
 | `(tactic| simp![$a,*])=>`(tactic| simp only[↓MM.xP,MM.gK,MM.kW,MM.ut,MM.uG,MM.EF,MM.Jw,MM.J_,MM.HN,MM.JG,MM.Ku,MM.Jh,MM.K_,MM.J3,MM.Ic,MM.JV,MM.KN,MM.JE,MM.JH,Nat.reduceAdd,Nat.reduceSub,Int.reduceLE,Int.reduceLT,MM.Jp,MM.KW,MM.K4,MM.HK,beq_iff_eq,MM.FD,MM.HF,MM.Kn,Nat.reduceLT,Nat.reduceLeDiff,$a,*])
namespace MM
open PySem
theorem Cg:∀(N:Nat)(l:List Nat),l.Nodup->(∀x∈l,x < N)->l.length<=N
 |0,l,_,h=>by
  cases l with
  |nil=>exact ar _
  |cons x xs=>exact ba (h x (by simp)) (rT _)
 |N+1,l,hn,h=>by
  by_cases o:N∈l
  ·have q := Cg N (l.erase N) (hn.erase N) (λx g => by have c:=(hn.mem_erase_iff).mp g;have:=h x c.2;have:=c.1;ext)
   rw[tp o]at q;ext
  ·have q := Cg N l hn (λx g => by have:=h x g;have:x≠N:=λe=>o (e ▸ g);ext)
   ext
noncomputable def qT(B:Nat):List Nat->Nat
 |[]=>0
 |x::xs=>x*B^xs.length+qT B xs
theorem GL{B:Nat}:∀{xs:List Nat},(∀x∈xs,x < B)->qT B xs < B^xs.length
 |[],_=>by simp[qT]
 |x::xs,h=>by
  have l:=GL (B:=B) (xs:=xs) λy c=>h y (by simp[c]);have g:=h x (by simp)
  show x*B^xs.length+qT B xs < B^(xs.length+1);rw[nw,iD (B^xs.length) B];have:(x+1)*B^xs.length<=B*B^xs.length:=oi _ g;rw[uT]at this;ext
theorem Lj{B:Nat}:∀{xs ys:List Nat},xs.length=ys.length->(∀x∈xs,x < B)->(∀x∈ys,x < B)->qT B xs=qT B ys->xs=ys
 |[],[],_,_,_,_=>rfl
 |x::xs,y::ys,hl,hx,hy,e=>by
  have c:xs.length=ys.length:=by simpa using hl
  have u:=GL (B:=B) (xs:=xs) λz hz=>hx z (by simp[hz]);have g:=GL (B:=B) (xs:=ys) λz hz=>hy z (by simp[hz]);have l:x*B^xs.length+qT B xs=y*B^ys.length+qT B ys:=e;rw[<- c]at l g;have q:x=y/\qT B xs=qT B ys:=by
   generalize B^xs.length=p at l u g;have o:0 < p:=by ext
   have C:(x*p+qT B xs) / p=x:=by rw[iD,iU o,iE u];simp
   have v:(y*p+qT B ys) / p=y:=by rw[iD,iU o,iE g];simp
   have h:x=y:=by rw[<- C,<- v,l]
   subst h;exact⟨rfl,by ext⟩
  rw[q.1,Lj c (λz hz=>hx z (by simp[hz])) (λz hz=>hy z (by simp[hz])) q.2]
noncomputable def pr:List Nat->Nat
 |[]=>1
 |b::bs=>b*pr bs
def m9:List Nat->List Nat->Nat
 |b::bs,x::xs=>x*pr bs+m9 bs xs
 |_,_=>0
theorem CQ:∀{bs xs:List Nat},xs.length=bs.length->(∀(i b x:Nat),bs[i]?=some b->xs[i]?=some x->x < b)->m9 bs xs < pr bs
 |[],[],_,_=>by simp[m9,pr]
 |b::bs,x::xs,hl,h=>by
  have o:=CQ (bs:=bs) (xs:=xs) (by simpa using hl) λi b x g c=>h (i+1) b x (by simpa using g) (by simpa using c);have l:=h 0 b x rfl rfl
  show x*pr bs+m9 bs xs < b*pr bs;have:(x+1)*pr bs<=b*pr bs:=oi _ l;rw[uT]at this;ext
theorem OV:∀{bs xs ys:List Nat},xs.length=bs.length->ys.length=bs.length->(∀(i b x:Nat),bs[i]?=some b->xs[i]?=some x->x < b)->(∀(i b x:Nat),bs[i]?=some b->ys[i]?=some x->x < b)->m9 bs xs=m9 bs ys->xs=ys
 |[],[],[],_,_,_,_,_=>rfl
 |b::bs,x::xs,y::ys,hl,hl2,hx,hy,e=>by
  have g:∀(i b x:Nat),bs[i]?=some b->xs[i]?=some x->x < b:=λi b x l h=>hx (i+1) b x (by simpa using l) (by simpa using h);have c:∀(i b x:Nat),bs[i]?=some b->ys[i]?=some x->x < b:=λi b x l h=>hy (i+1) b x (by simpa using l) (by simpa using h);have B:=CQ (bs:=bs) (xs:=xs) (by simpa using hl) g;have v:=CQ (bs:=bs) (xs:=ys) (by simpa using hl2) c;have C:x*pr bs+m9 bs xs=y*pr bs+m9 bs ys:=e;have q:x=y/\m9 bs xs=m9 bs ys:=by
   generalize pr bs=p at C B v;have u:0 < p:=by ext
   have G:(x*p+m9 bs xs) / p=x:=by rw[iD,iU u,iE B];simp
   have E:(y*p+m9 bs ys) / p=y:=by rw[iD,iU u,iE v];simp
   have o:x=y:=by rw[<- G,<- E,C]
   subst o;exact⟨rfl,by ext⟩
  rw[q.1,OV (by simpa using hl) (by simpa using hl2) g c q.2]
theorem KZ:∀(a b:List Nat),mh (a.map λn:Nat=>.int n) (b.map λn:Nat=>.int n)=decide (a=b)
 |[],[]=>by simp[mh]
 |[],_::_=>by simp[mh]
 |_::_,[]=>by simp[mh]
 |x::xs,y::ys=>by
  rw[aI,aI]
  show (nO (.int x) (.int y)&&mh _ _)=_;rw[KZ xs ys]
  show (decide ((x:Int)=y)&&_)=_;have:decide ((x:Int)=y)=decide (x=y):=decide_eq_decide.mpr (by ext);rw[this];simp[nt]
theorem Mg:∀(a:List Nat),oJ (a.map λn:Nat=>.int n)=some (a.map λn:Nat=>(n:Int))
 |[]=>rfl
 |x::xs=>by rw[aI,aI];unfold oJ;rw[Mg xs];rfl
theorem Sz(a b:List Nat):m_ true (.tup [.tup (a.map λn:Nat=>.int n),.tup (b.map λn:Nat=>.int n)])=true:=by show (ni [.tup (a.map λn:Nat=>.int n),.tup (b.map λn:Nat=>.int n)]).isSome=true;simp only[ni,Mg];rfl
theorem WI(a b c d:List Nat):nO (.tup [.tup (a.map λn:Nat=>.int n),.tup (b.map λn:Nat=>.int n)]) (.tup [.tup (c.map λn:Nat=>.int n),.tup (d.map λn:Nat=>.int n)])=(decide (a=c)&&decide (b=d)):=by show (mh (a.map _) (c.map _)&&(mh (b.map _) (d.map _)&&true))=_;rw[KZ,KZ,Bool.and_true]
end MM
namespace MM
theorem qJ{g:CG}{b:CS}{same:a_->Prop}{xs:List D}{l:Loc}{s:a_}{Q:qj->a_->Prop}(W:Nat->Loc->a_->Prop)(B:∀i l s,W i l s->same s)(C:W 0 l s)
  (c:∀(R:qj->a_->Prop)(i:Nat)d l s,(∀{q h},W (i+1) q h->R (.next q) h)->(∀{d h},Q (.ret d) h->R (.ret d) h)->xs[i]?=some d->W i l s->wp (g d l) (λv u=>wp (b v) R u) s) (o:∀l s,W xs.length l s->Q (.next l) s):wp (md g b same xs l) Q s:=
 OX W B C (λi d l s hd w=>c _ i d l s (λz=>z) (λz=>z) hd w) o
theorem yH{t:CT}{b:CS}{Q:qj->a_->Prop}{l:Loc}{s:a_}(W:Loc->a_->Prop)(μ:Loc->a_->Nat)(v:W l s)
  (u:∀(R:qj->a_->Prop)l s,(∀{g h},W g h->μ g h < μ l s->R (.next g) h)->(∀{d o},Q (.ret d) o->R (.ret d) o)->W l s->wp (t l) (λc q=>if c=true then wp (b l) R q else Q (.next l) q) s):wp (iJ t b l) Q s:=
 TW W μ v λl s w => u (λf h => match f with
   | .next g=>W g h/\μ g h < μ l s
   | .cnt g=>W g h/\μ g h < μ l s
   | .brk g=>Q (.next g) h
   | .ret d=>Q (.ret d) h) l s (λa b=>⟨a,b⟩) (λz=>z) w
theorem GG{g:CG}{b:CS}{same:a_->Prop}{n:Nat}{f:Nat->D}{l:Loc}{s:a_}{Q:qj->a_->Prop}(W:Nat->Loc->a_->Prop)(B:∀i l s,W i l s->same s)(E:W 0 l s)
  (c:∀(R:qj->a_->Prop)(i:Nat)l s,(∀{q o},W (i+1) q o->R (.next q) o)->i < n->W i l s->wp (g (f i) l) (λv u=>wp (b v) R u) s) (h:∀l s,W n l s->Q (.next l) s):wp (md g b same (bx n f) l) Q s:=
 L3 W B E (λi l s C w=>c _ i l s (λz=>z) C w) h
theorem IC{e:CE}{n:Nat}{f:Nat->D}{same:a_->Prop}{caps:Loc}{s:a_}{Q:List D->a_->Prop}(W:Nat->List D->a_->Prop)(o:∀i c s,W i c s->same s)(u:W 0 [] s)
  (g:∀(R:D->a_->Prop)(i:Nat)c s,(∀{x l},W (i+1) (c++[x]) l->R x l)->i < n->W i c s->wp (e (some (f i)::caps)) R s) (h:∀c s,W n c s->Q c s):
  wp (collect (aP 0) bT e same (bx n f) (none::caps)) Q s:=Rm W o u (λi c s q w=>g _ i c s (λz=>z) q w) h
def tF(c g h:CE):CS:=λl=>bnd (c l) λo=>bnd (g l) λi=>match o,i with
 | .ref n,.int k=>bnd (getL n) λds=>bnd (cB ds k) λx=>bnd (h l) λy=>bnd (uD x y) λz=>bnd (lc (.ref n) (.int k) z) λ_=>ret (.next l)
 |_,_=>bad
def o8(a:CE):CI:=λl=>bnd (a l) λx=>match x with
 | .dic n=>bnd (getDc n) λp=>chk (p.1=true) (ret ⟨p.2.map λq=>.tup [q.1,q.2],λs=>s[n]?=some (.dct true p.2)⟩)
 |_=>bad
def ww(a:CE):CI:=λl=>bnd (a l) λx=>match x with
 | .ref n=>bnd (getL n) λds=>ret ⟨ds.reverse,λs=>s[n]?=some (.lst ds)⟩
 |_=>bad
def nC(a b:CE):CE:=λl=>bnd (a l) λo=>match o with
 | .ref n=>bnd (b l) λx=>bnd (getL n) λds=>match x,ki ds with
  | .bl k,some bs=>chk (bs.contains k=true/\bs.length<=eS) (ret (.int (bs.findIdx (· == k):Nat)))
  |_,_=>bad
 |_=>bad
def Gu:D->Option (D×D)
 | .tup [k,v]=>if m_ true k=true then some (k,v) else none
 |_=>none
def sC:List D->Option (List (D×D))
 |[]=>some []
 |d::ds=>(Gu d).bind λp=>(sC ds).map (p::·)
def kI(ds:List D):M D:=match sC ds with
 |some ps=>chk (ps.length<=1000) (n0 true (tS [] ps))
 |none=>bad
def storeN(n:Nat)(k v:D):M Unit:=bnd (getDc n) λp=>chk (p.1=true/\m_ true k=true/\p.2.length < eS) (pF n true (kG p.2 k v))
def qy(f g:CE):CE:=λl=>bnd (n0 true []) λr=>bnd (f l) λa=>bnd (g l) λb=>match r with
 | .dic n=>bnd (storeN n a b) λ_=>ret (.dic n)
 |_=>bad
def pE:List D->Option (List (List Int))
 |[]=>some []
 | .tup xs::ds=>match iX xs,pE ds with
  |some ns,some rs=>some (ns::rs)
  |_,_=>none
 |_=>none
noncomputable def kZ(c:Nat->Nat->Bool):Nat->Nat
 |0=>0
 |k+1=>if c (k+1) (kZ c k) then k+1 else kZ c k
def qK(ds:List D):M D:=match pE ds with
 |some ps=>chk (0 < ds.length) (ret (ds.getD (kZ (λi j=>i0 (ps.getD i []) (ps.getD j [])) (ds.length-1)) .non))
 |none=>bad
def t7:D->M D
 | .ref n=>bnd (getL n) qK
 |_=>bad
def oE(d e:D):M D:=match d,e with
 | .tup xs,.tup ys=>match iX xs,iX ys with
  |some a,some b=>ret (if i0 b a=true then .tup ys else .tup xs)
  |_,_=>bad
 |_,_=>bad
open PySem
def o_(a:CE):CI:=λl=>bnd (a l) λx=>match x with
 | .ref n=>bnd (getL n) λds=>ret ⟨(ir 0 ds.length).zipWith (λi d=>.tup [i,d]) ds,io n ds⟩
 |_=>bad
open PySem.Spec PyProof.Rows L2
open PySem.AutoSeq1 (wpAny_loadPart')
def zV(K:ak)(a:av):It:=
 ⟨λi H=>∃xs x,gD K H a xs/\xs[i]?=some x,λi H x c=>∃T v,x=.ref T/\H T=none/\(∀xs,gD K H a xs->xs[i]?=some v)/\c=fq H T (.tup [.int i,v]),λi H=>∃xs,gD K H a xs/\xs.length<=i⟩
section
variable{X:Cx}{tg:Expr}{es:List Expr}{pos:Pos}{fa:CE}{K:ak}{ρ:List av}{H:Hp}{st:a_}
theorem Ri{P:Program}{w:bG}{k:Nat}(a e B:av)(hei:e≠B):rm P w K (.Tuple es k pos) (zV K a) [e,B] e (λi h=>(∃old,IsEnum h e B i old)/\h.IsListIter B a i) where
 mem:=by simp
 obj:=λi h pq126 b L=>by
  obtain⟨⟨old,J⟩,l⟩:=pq126;rcases bb.mp L with z|z
  ·subst z;exact⟨_,J,λv q=>by cases q⟩
  ·have z':b=B:=by simpa using z
   subst z';obtain⟨o,e,c,d⟩:=l;exact⟨o,e,λv q=>by rw[d]at q;cases q⟩
 keep:=λi h h' pq127 kp=>by obtain⟨⟨old,J⟩,l⟩:=pq127;exact⟨⟨old,kp e (by simp) _ J⟩,let ⟨o,x,r⟩:=l;⟨o,kp B (by simp) o x,r⟩⟩
 item:=by
  intro X hP hw hK hc i O s σ H E I hf Y hg;obtain⟨⟨old,J⟩,l⟩:=Y;subst hP hw hK;obtain⟨xs,x,hq,hx⟩:=hg;obtain⟨its,rv,p0,hz⟩:=I.list hq;have p:=p0.isList;obtain⟨u,hu,ru⟩:=rv.get hx;have hlt:i < its.toArray.size:=by rw[aH];exact (ac.mp hu).1
  obtain⟨f0,f1,f2,f3,f4,f5⟩:=hf e (by simp);obtain⟨g0,g1,g2,g3,g4,g5⟩:=hf B (by simp);have hai:a≠B:=λz=>by obtain⟨o,G,c,_⟩:=l;obtain⟨o',e2,c',_⟩:=p;rw[z,G]at e2;cases e2;rw[c]at c';exact ba (mV c') (by decide)
  have hae:a≠e:=λz=>by obtain⟨o',e2,c',_⟩:=p;rw[z,J]at e2;cases e2;exact ba (mV c') (by decide)
  refine wpAny_pyNext_enum_item J l p (x:=u) (by simpa using hu) hei λh' ho hst hT hsz hk=>?_;refine⟨_,rfl,uP ho λh2 he2 hs2=>?_⟩;have Q:e < s.heap.objs.size:=aJ J;have C:H s.heap.objs.size=none:=I.hok.fresh (ar _);have keep:∀b o,b≠e->b≠B->s.heap.get? b=some o->h2.get? b=some o:=λb o hb1 hb2 G=>(hs2.2 b hb1).trans (hk b o hb1 hb2 G);have hT2:h2.get? s.heap.objs.size=some { cls:=.type "tuple",data:=.seq #[.int i s.toks,u] }:=(hs2.2 _ (df Q)).trans hT;have I2:Inv X O σ (fq H s.heap.objs.size (.tup [.int i,x])) { s with heap:=h2,toks:=s.toks+1 }:=by
   have ne:∀b o,H b=some o->b≠e/\b≠B:=λb o q=>⟨λz=>(by rw[z,f0]at q;cases q),λz=>(by rw[z,g0]at q;cases q)⟩
   refine I.step (g':=s.gens) (d':=s.drawn) (ch:=[e,B]) (λb L=>?_) (λb o _ _ g G _=>keep b o (λz=>g (by simp[z])) (λz=>g (by simp[z])) G)
    (λb o _ _ g G _=>⟨o.slots,keep b o (λz=>g (by simp[z])) (λz=>g (by simp[z])) G⟩) (λb o g G n1=>by rw[fI (bA (aJ G))];exact n1) (λb o g G=>⟨o,keep b o (λz=>g (by simp[z])) (λz=>g (by simp[z])) G⟩)
    (λb ys q=>by rw[fI (nA q C)];exact q) (λb o ys q=>by rw[fI (nA q C)];exact q) (λb ps q=>⟨#[],by rw[fI (nA q C),q];simp⟩) (λm hm=>?_) ?_ I.bare
   ·rcases bb.mp L with z|z
    ·subst z;exact⟨f3,f1,f4,f5⟩
    ·have z':b=B:=by simpa using z
     subst z';exact⟨g3,g1,g4,g5⟩
   ·obtain⟨o,c,ep,G,r⟩:=hm;exact⟨o,c,ep,keep _ o f1.symm g1.symm G,r⟩
   ·intro b o q;by_cases L:b=s.heap.objs.size
    ·subst L;rw[kq]at q;cases q;exact⟨by show 2<=sizeLine;decide,[.int i s.toks,u],.cons ⟨s.toks,rfl⟩ (.cons ru .nil),⟨_,hT2,rfl,⟨_,rfl⟩,rfl⟩⟩
    ·rw[fI L]at q;have:=ne b o q;refine (I.hok b o q).stay (λc v g r=>keep c v ?_ ?_ r) (λc T=>by rw[fI (nA T C)];exact T) λc ys T=>by rw[fI (nA T C)];exact T
     ·rcases g with z|z
      ·rw[z];exact this.1
      ·exact (ne c _ z).1
     ·rcases g with z|z
      ·rw[z];exact this.2
      ·exact (ne c _ z).2
  refine⟨.ref s.heap.objs.size,_,I2,rfl,⟨_,x,rfl,C,λys hy=>by rw[I.list_inj hy hq];exact hx,rfl⟩,⟨⟨u,by simpa using he2⟩,let ⟨o,x1,r⟩:=hst;⟨o,(hs2.2 B hei.symm).trans x1,r⟩⟩,λb L=>?_⟩;rw[fI]
  ·exact (hf b L).1
  ·intro z;have:b < s.heap.objs.size:=by
    rcases bb.mp L with q|q
    ·rw[q];exact Q
    ·have T:b=B:=by simpa using q
     rw[T];obtain⟨o,x1,_⟩:=l;exact aJ x1
   exact ba this (by rw[z];exact bM _)
 done:=by intro X hP hw hK hc i O s σ H E I hf U hg;obtain⟨⟨old,J⟩,l⟩:=U;subst hP hw hK;obtain⟨xs,hq,hx⟩:=hg;obtain⟨its,rv,p0,hz⟩:=I.list hq;have p:=p0.isList;obtain⟨g0,g1,g2,g3,g4,g5⟩:=hf B (by simp);have hl:=rv.length;exact wpAny_pyNext_enum_end (I.ok.hd hc) J l p (by simp;ext) λh' he'=>⟨rfl,I.turned (t':=s.toks) (λb o L e=>he' b o L e) g0 g1 g3 g4 g5⟩
 self:=λ_ _ _ _ _ pq128 h=>by obtain⟨⟨old,J⟩,_⟩:=pq128;exact m7 J h
theorem Yk{b : Expr}{p J : Pos}{k : Nat}(hg : Gl X "enumerate")(hm : X.mg "enumerate" = none)(h : SE X b fa)(hs : aF [b] X.env = [(false, eval b X.env)] := by rfl):
  SI X (.Tuple es k J) (.Call (.Name "enumerate" p) [b] [] pos) (o_ fa):=by
 intro o s σ H R I B;obtain⟨ρ,l,st,lr,sr,q⟩:=B;refine Call_ (wZ I hg hm boot_enumerate (cq (fS (GP h G_ hs pos o s σ H (λvs E=>∃a xs,vs=[.ref a]/\gD X.K E a xs/\R (zV X.K a) E) I ⟨ρ,l,st,lr,sr,?_⟩) λus c ⟨vs,E,I1,r1,q1⟩=>?_) hs rfl))
 ·have G:=aV.bnd q
  show aV X.K ρ H (MM.bnd (fa l) _ st) _;unfold MM.bnd;cases e:fa l st with
  |bad=>rw[e]at G;exact G
  |exc _ _=>rw[e]at G;exact G
  |ok d ec=>
   rw[e]at G
   show ∀ρ' H',Ex ρ H ρ' H'->SR X.K ρ' H' ec->_;intro ρ1 E x1 c vs rvs;have Y:=G ρ1 E x1 c;cases rvs with
   |cons U rt=>
    cases rt;cases U with
    |@ref a n _ h=>
     obtain⟨ds,e2,p2⟩:=aV.getL (aV.bnd Y) c;obtain⟨a',ws,ha,hv,r⟩:=c.seq e2;rw[h]at ha;cases ha;refine⟨a,ws,rfl,gD.of hv,p2.ret c _ ?_⟩;intro ρ2 H2 st2 x2 s2 sm;obtain⟨a2,g,Q,o,J⟩:=s2.seq sm;obtain⟨τ,eτ,_⟩:=x2.pre;rw[eτ,w8 h]at Q;cases Q;have hl:=J.length;have C:gD X.K H2 a g:=gD.of o;have len:((ir 0 ds.length).zipWith (λi d=>D.tup [i,d]) ds).length=ds.length:=by simp[ir]
     refine⟨⟨g,C,by rw[len,hl];exact ar _⟩,λi d B=>?_⟩;have u:i < ds.length:=by rw[<- len];exact (ac.mp B).1
     have ed:d=.tup [.int i,ds[i]]:=by rw[fH,ir,aj,gB u,ag u]at B;have:=aN B;rw[<- this];simp
     subst ed;obtain⟨v,L,U⟩:=J.get (ag u);refine⟨⟨g,v,C,L⟩,λy H3 z3=>?_⟩;obtain⟨T,w,ey,O,hw,eH⟩:=z3;subst ey eH;have ew:=hw g C;rw[L]at ew;cases ew;have I:Ex ρ2 H2 ρ2 (fq H2 T (.tup [.int i,v])):=Ex.new O;exact⟨I,s2.new O,.tup (iR.of kq) (.cons (.int _) (.cons (U.mono I) .nil))⟩
    |_=>exact Y.elim
 ·obtain⟨a,xs,e,B,G⟩:=q1;subst e;obtain⟨u,rfl,q⟩:=uI r1;cases q;obtain⟨its,U,Y,hz⟩:=I1.list B;refine call_enumerate_list Y.isList λh' h g hsz v=>m7 h ?_;have H:Inv X o σ E { c with heap:=h' }:=I1.kept (t':=c.toks) v;refine⟨c.heap.objs.size+1,[c.heap.objs.size+1,c.heap.objs.size],_,zV X.K a,E,rfl,H,Ri a (c.heap.objs.size+1) c.heap.objs.size (zG _),⟨⟨_,h⟩,g⟩,λb C=>?_,G⟩;have O:c.heap.objs.size<=b:=by
   rcases bb.mp C with z|z
   ·rw[z];exact mC _
   ·have l:b=c.heap.objs.size:=by simpa using z
    rw[l];exact ar _
  exact I1.fpOk O (I1.hok.fresh O)
end
section
def yu:vy:=GX GK "enumerate" (λc p=>c.tag p 16) o_ λh g m a s=>by obtain⟨_,_,_,rfl⟩:=HG h;exact Yk g m a s
end
section
theorem bs{prog:Program}{w:bG}{A:bB}{E:ah->am->Prop}{s:am}{l:av}{Q:ah×List ah->am->Prop}(h:Q (.builtin "list.__getattribute__",[.ref l]) s):aK (bc prog w) A (bindSpecial (.builtin "list.__getattribute__") (.ref l)) Q E s:=by
 unfold bindSpecial;have c:typeOf (.builtin "list.__getattribute__")=pure (.type "wrapper_descriptor"):=by rfl
 rw[c];refine ab (aq ?_);exact aq h
theorem Vz{prog:Program}{w:bG}{A:bB}{E:ah->am->Prop}{s:am}{l:av}{its:Array ah}{n:Nat}{g:Array (Option ah)}{Q:Option ah->am->Prop}(hh:A.handled=none)(o:s.heap.get? l=some { cls:=.type "list",data:=.seq its n,slots:=g })(h:∀h' c,(∀b u,s.heap.get? b=some u->h'.get? b=some u)->Q none { s with heap:=h',toks:=c }):
  aK (bc prog w) A (getAttr? (.ref l) (aG "keys")) Q E s:=by
 have H:s.TypeIs (.ref l) "list":=⟨_,o,rfl⟩
 have O:oh (.type "list") (aG "__getattribute__")=pure (some (Am "list.__getattribute__")):=by rfl
 have B:oh (.type "list") (aG "__getattr__")=pure none:=by rfl
 have v:oh (.type "list") (aG "keys")=pure none:=by rfl
 unfold getAttr?
 wp_walk using mq H
 refine bs ?_;refine uM F.slot_list_getattribute ⟨_,o,rfl⟩ am_entry_list_getattribute (F.args_list_getattribute_2 _ _) (meets_getattribute_miss_list l its n g (aG "keys") _ v rfl) ⟨o,?_⟩;refine⟨hh,λh' c e q=>?_⟩;obtain⟨L,J,C⟩:=q.there;have I:oj { s with heap:=h',toks:=c } (.ref e) "AttributeError":=⟨_,C,rfl⟩
 have G:isSubtype (.type "AttributeError") (.type "AttributeError")=pure true:=by rw[isSubtype_type];kernel_rfl
 show aK (bc prog w) A (CJ (.ref l) (.str (aG "keys") s.toks) (.type "list") (.ref e) none false false) _ _ { s with heap:=h',toks:=c };unfold CJ;refine ab (eX I G ?_);rw[aE rfl];unfold hookBehind;rw[aA (by decide),B];refine ab (aq ?_);unfold hookOrError attributeErrorLeaves
 wp_walk
 exact h h' c λb u z=>q.keeps b u z
theorem He:plainId "dict.update.loop"=true:=by nofun
variable{prog:Program}{w:bG}
theorem Va{A:bB}{E:ah->am->Prop}{s:am}{a:av}{c v:ah}{Q:List ah->am->Prop}(q:s.heap.IsTuple a #[c,v])(h:Q [c,v] s):aK (bc prog w) A (qw (.ref a)) Q E s:=by
 obtain⟨⟨C,B,o,l⟩,e,g,n,hd⟩:=q;simp only at g hd;subst g hd;unfold qw;have u:s.TypeIs (.ref a) "tuple":=⟨_,e,rfl⟩
 wp_walk using mq u
 exact h
end
section
variable{X:Cx}{o i e:Expr}{fo fi fe:CE}{pos ez:Pos}
theorem Pq:FK X (Bp X.K):=by
 intro c s σ H x y v u Q I L J h;obtain⟨p,xs,i,z,rfl,rfl,O,U,q⟩:=h;cases L;obtain⟨t,rfl⟩:=J;obtain⟨its,r,C,hz⟩:=I.list O;obtain⟨j,g,h2,h3,o,Y⟩:=GU U;obtain⟨w,G,l⟩:=r.get h2;have T:=r.length;have hn:=Ah;have fin:EP X c σ Q w s:=⟨z,H,I,l,q⟩
 by_cases E:0<=i
 ·have B : i.toNat = j := by rw[tf E Y]at g;exact aN g
  exact wpAny_getItem_list C.isList E (by ext) (by rw[B];simpa using G) fin
 ·have B : (i+(its.toArray.size : Int)).toNat = j := by rw[rL (by ext) o]at g;rw[aH,<- T];exact aN g
  exact xp C.isList (by ext) (by rw[aH]<;>ext) (by ext) (by rw[B];simpa using G) fin
theorem dN.intI{K:ak}{ρ:List av}{H:Hp}{v:V}{k:Int}(r:dN K ρ H v (.int k)):v=.int k:=by cases r;rfl
theorem dN.refI{K:ak}{ρ:List av}{H:Hp}{v:V}{n:Nat}(r:dN K ρ H v (.ref n)):∃a,v=.ref a/\ρ[n]?=some a:=by cases r with|ref _ h=>exact⟨_,rfl,h⟩
theorem TL(ho:SE X o fo)(hi:SE X i fi)(he:SE X e fe)(ha:∀Y iv new,augStore i Y iv new=(do lq [new,Y,iv] (og Y iv new); Dd [new,Y,iv] []; pure .next)):
  SS X (.AugAssign (.Subscript o i ez) .Add e pos) (tF fo fi fe):=
 (WY ho hi Pq he OY M5 ha).of λG σ H h_=>h_.el λρ l st lr sr p=>⟨ρ,l,st,lr,sr,p.bnd.imp λd ec ρ1 H1 x1 s1 p1 u ru=>⟨ρ1,l,ec,lr.mono x1,s1,p1.bnd.imp λz st2 ρ2 H2 x2 T p2 w B=>by
  have c:=ru.mono x2;have E:∀{ρ3 H3},Ex ρ2 H2 ρ3 H3->dN X.K ρ3 H3 u d:=λx=>c.mono x;have sh:∃I k,d=.ref I/\z=.int k:=by
   clear E c B ru;cases d with
   |ref I=>
    cases z with
    |int k=>exact⟨I,k,rfl,rfl⟩
    |_=>exact p2.elim
   |_=>exact p2.elim
  obtain⟨I,k,rfl,rfl⟩:=sh;obtain⟨aa,rfl,h⟩:=c.refI;cases B.intI;obtain⟨ds,e,p3⟩:=aV.getL (aV.bnd p2) T;obtain⟨a,vs,ha,hv,r⟩:=T.seq e;rw[h]at ha;cases ha;obtain⟨j,dx,h1,h2,q⟩:=aV.item (aV.bnd p3) T;obtain⟨v,h3,rv⟩:=Fm r h1 h2;refine⟨_,vs,k,v,rfl,rfl,gD.of hv,h3,ρ2,l,st2,(lr.mono x1).mono x2,T,(aV.bnd q).imp λy st3 ρ3 H3 x3 Q p4 w g=>?_⟩;have C:=rv.mono x3;have sh2:∃i j,dx=.int i/\y=.int j:=by
   clear C g rv h2;cases dx with
   |int i=>
    cases y with
    |int j=>exact⟨i,j,rfl,rfl⟩
    |_=>exact p4.elim
   |_=>exact p4.elim
  obtain⟨i,j',rfl,rfl⟩:=sh2;cases C.intI;cases g.intI;refine⟨i,j',rfl,rfl,?_⟩;have p5:=(aV.bnd p4).ret Q;obtain⟨O,e',U⟩:=aV.getL (aV.bnd (aV.bnd p5)) Q;obtain⟨a',vs',L,J,r'⟩:=Q.seq e';have h':ρ3[I]?=some aa:=by obtain⟨b,eb,h'⟩:=(E x3).refI;cases eb;exact h'
  rw[h']at L;cases L;cases e2:MM.my O.length k with
  |none=>rw[e2]at U;exact U.elim
  |some m=>
   rw[e2]at U;have hl:=(ac.mp e').1;obtain⟨s4,x4⟩:=Q.put hl h' J (r'.set m (.int (i+j')));refine⟨_,vs',k,m,rfl,rfl,J,by rw[r'.length];exact e2,?_⟩;have p7:aV X.K ρ3 H3 (putL _ (O.set m (.int (i+j'))) st3) _:=U;unfold putL at p7;rw[e']at p7;exact (p7 ρ3 _ x4 s4).ret s4 σ ((((lr.mono x1).mono x2).mono x3).mono x4)⟩⟩
end
def Bz:u9:=λq c e=>L5 e λt o a _ h=>Cj t λx i p v=>EQ i λn j l u=>wh (o=.Add/\n=.USub) λz=>(q.e c x).bind λf=>(q.e c (.UnaryOp n j l)).bind λk=>(q.e c a).bind λm=>some ⟨tF f.1 k.1 m.1,λg=>by subst h v u;obtain⟨rfl,rfl⟩:=z;exact TL (f.2 g) (k.2 g) (m.2 g) (by intros;rfl)⟩
def BQ:kR:=λq c e=>G8 e λx _ as _ T=>vC as λa as Q=>(Mh c.G x).bind λr=>wh (c.glo x=true/\uo x=true/\r.1.k<=c.k/\r.1.n=(a::as).length+1/\r.1.kw=true/\r.1.ps.getLast?=some (aG "most")) λz=>(wX q c (a::as)).bind λv=>some ⟨qI r.1.g v.1 (.int 500),λg=>by
 subst T Q;obtain⟨O,L,J,I,H,G⟩:=z;obtain⟨f,Y,m,F,E,B,h⟩:=(g.G _ _ r.2).ex;obtain⟨x,y,l⟩:=v.2;rw[cQ,bU]at y
 replace h:=h H
 unfold EU at h;rw[aE G]at h;obtain⟨u,hu,U⟩:=h;exact Rz g.S (beq_iff_eq.mp O) F (g.hr.mono J) m E U hu (CV L) (x g) (λC st ds o z=>by rw[I,l C st ds o z]) (sw y.1) (D3 y.2)⟩
section
variable{P:Program}{w:bG}{K:ak}{mg:Str->Option ah}{base:bQ}
def wx(K:ak)(mg:Str->Option ah)(x:Str)(c:gM):Prop:=∃a g u,wT K x x c a g u/\mg x=some (.ref a)/\RelV (.int 500) u
theorem D_{h:bQ}{x:Str}{g:gM}{f T:av}{H L B:Option av}{C u:Array (Option ah)}{I kV J E o ct to:ah}{q:Tok}{v:Nat}(X:K.In h)(G:h.Ns dO mg)(a:oW K dO x=some (some (.ref f)))
  (l:K.lookup f=some ⟨I,H,.func (c_ x x (gT g) (eL g) (bY g) (.ref T) kV J E L o ct),C⟩) (c:ib K o x=true) (k:dG K (.ref f)=true) (t:K.lookup T=some ⟨to,B,.seq #[.int 500 q] v,u⟩):wx K mg x g:=
 ⟨f,_,_,Ys (st:=g) l c k t rfl,xU X G a,⟨_,rfl⟩⟩
theorem QR(R:rY){r:List Str}{x:Str}{h:gM}{o:List Str}{k n m:Nat}{q:CS}{G:List (Str×RF)}{Z:List Str}{C:List (Str×D)}{H:List (Nat×Nat×Nat)}(F:wx K mg x h)(S:wQ (o++r) o (bY h)=true)
  (b0:∀(u:ah)(T:av)(kV g B:ah)(I:Option av)(c ct:ah)(l:List ah),l.length=n->∃k:Option (Array ah)->Sem (List (Str×ah)),rK (c_ x x (gT h) (eL h) (bY h) (.ref T) kV g B I c ct) ⟨l,[]⟩=mB (.ref T) >>= k/\k (some #[u])=pure (o.zip l))
  (b1:∀(u:ah)(T:av)(kV g B:ah)(I:Option av)(c ct:ah)(l:List ah),l.length+1=n->∃k:Option (Array ah)->Sem (List (Str×ah)),rK (c_ x x (gT h) (eL h) (bY h) (.ref T) kV g B I c ct) ⟨l,[]⟩=mB (.ref T) >>= k/\k (some #[u])=pure (o.zip (l++[u])))
  (hb:(sK (rh R 40) ⟨bY h,o++r,k,G,Z,C,H,true⟩ (eL h)).map (·.1)=some q) (U:cZ P w K mg base G) (hZ:BL mg Z) (hC:Eo K mg C) (hq:o.getLast?=some (aG "most")) (L:o.length=n:=by rfl) (hm:(o++r).length=m:=by rfl):cZ P w K mg base ((x,⟨n,k+1,o,true,cm m q⟩)::G):=by
 obtain⟨f,fd,u,F,O,hu⟩:=F;have Q:=M8 S;obtain⟨v,_,e⟩:=fk.mp hb;refine M7 O (X_ F Q L hm λc A outer s Hp E Y=>e ▸ v.2 ⟨NT,rfl,Q.nd,Y,U,hZ,hC,pv,λ_=>⟨by show (if (bY h).kind.isAnnotationScope=true then _ else (bY h).kind)=_;rw[Q.kind];rfl,λ_=>rfl⟩⟩) F.kp
  (F.binds λT kV g B I c ct l J=>?_) (λ_=>?_) U
 ·rw[bn]at J ⊢;exact b0 u T kV g B I c ct l (J.trans L)
 ·unfold EU;rw[aE hq];exact⟨u,hu,F.binds λT kV g B I c ct l J=>b1 u T kV g B I c ct l (by rw[<- L,<- J,au];rfl)⟩
end
theorem Tj{X:Cx}{pos:Pos}:SS X (.Return none pos) (dU (aR .non)):=QN.of λG σ H g=>g.el λρ l st h c p=>((p.bnd.ret c).ret c) .non .non
def AQ:u9:=λ_ _ e=>OC e λo _ h=>oN o λc=>some ⟨dU (aR .non),λ_=>h ▸ c ▸ Tj⟩
end MM
namespace MM
open PySem PySem.W PyProof.Rows L2
section
variable{prog:Program}{w:bG}{A:bB}{E:ah->am->Prop}{s:am}{d it:av}{es:Array ky}{ep i:Nat}
theorem P8(hd:(d == cR)=false):
  Dj prog w (Builtin.«dict.items» ⟨[.ref d],[]⟩) (λ_ R s=>(∃es ep,mH s.heap d es ep)/\R (.ok (.ret (.ref s.heap.objs.size))) { s with heap:=s.heap.push { cls:=.type "dict_items",data:=.fields #[.ref d] } }):=
 .of_wp λA R s c=>by
  obtain⟨⟨es,ep,g⟩,h⟩:=c;unfold Builtin.«dict.items»;refine ab ?_;unfold Builtin.Dict.noArgs;refine ab (iy g.typeIs ?_)
  show aK _ _ (pure d) _ _ s;refine aq ?_
  show aK _ _ (iQ d >>= _) _ _ s;unfold iQ;rw[aA (by rw[hd];exact bo)];exact ab (aq (ab (bK (aq ⟨_,rfl,h⟩))))
theorem Vi{v:av}{Q:ah->am->Prop}(h:s.heap.IsItemsView v d)(B:mH s.heap d es ep)
  (G:Q (.ref s.heap.objs.size) { s with heap:=s.heap.push { cls:=.type "dict_itemiterator",data:=.fields #[.none,.bool false,.ref d,.int 0 0,.int es.size 0,.int ep 0,.none,.none] } }):
  aK (bc prog w) A (Cr (.ref v)) Q E s:=by
 obtain⟨H,l,C,q⟩:=id h;obtain⟨o,u,I,c⟩:=id B;refine Dn h.typeIs v4 (cG v4 h.typeIs F.entry_dict_items_iter ?_ (F.args_dict_items_iter_1 _));unfold Builtin.«dict_items.__iter__»;refine ab (aq (ab ?_));unfold Builtin.Dict_items.dictOf;refine ab (cP l q (x:=.ref d) rfl (aq (ab ?_)));unfold Builtin.Dict_items.newIterator;refine ab (fw u c (ab (kf u c ?_)));have g:eM "dict_itemiterator"=true:=by decide
 simp only[g,if_true];refine bK (aq ⟨_,rfl,"dict_itemiterator",_,⟨_,aC _ rfl,rfl⟩,gW.lookup,?_⟩)
  (by simp only[sizeOk,lY,aH,au,bp,fP,lH];ext)
 simpa [kL,lY] using G
theorem SQ{c:ky}{ok C:ah}{Q:Option ah->am->Prop}(l:iM s.heap it d i es.size ep ok C)(O:mH s.heap d es ep)(L:es[i]?=some c)
  (U:∀h',v5 h' it d (i+1) es.size ep c.key c.val s.heap.objs.size->h'.get? s.heap.objs.size=some { cls:=.type "tuple",data:=.seq #[c.key,c.val] }->h'.objs.size=s.heap.objs.size+1 ->
   (∀b o,b≠it->s.heap.get? b=some o->h'.get? b=some o)->Q (some (.ref s.heap.objs.size)) { s with heap:=h' }):
  aK (bc prog w) A (ko (.ref it)) Q E s:=by
 obtain⟨h,g,J,B,os⟩:=s;obtain⟨Y,H,T,I⟩:=id O;have v:oj ⟨h,g,J,B,os⟩ (.ref it) "dict_itemiterator":=⟨_,l,rfl⟩
 unfold ko;refine ab (i8 (b8 (name:=aG "__next__") v gW
  (cG gW v rV ?_ (q_ _))))
 refine ab (aq (ab (ab ?_)))
 first|refine ab (gS v (aq ?_))|refine ab (iV v (aq ?_))
 refine ab (pq l rfl ?_);have G:eM "dict_itemiterator"=true:=by decide
 simp only[G,if_true]
 show aK _ _ (if (bj d == bV)=true then _ else _) _ _ _;rw[aA (show ¬ ((bj d == bV)=true) from bo)];refine ab (aq (ab (fw H I ?_)));rw[aA (by simp)];refine ab (aq (ab (kf H I ?_)));rw[aA (by simp)];refine aq ?_;simp only[show ¬ ((i:Int) < 0) from by ext,if_false,bv,L];refine ab ?_
 first|refine ab (gS v (aq ?_))|refine ab (iV v (aq ?_))
 refine ab (om v ?_)
 show aK _ _ (zJ (.ref it) 3 (kL ((i:Int)+1)) >>= _) _ _ ⟨h,g,J,B,os⟩;refine ab (cW l (by simp) λh₁ he₁ hs₁=>?_)
 replace hs₁:cJ it h h₁:=hs₁
 replace he₁:iM h₁ it d (i+1) es.size ep ok C:=by
  have e:((i+1:Nat):Int)=(i:Int)+1:=by ext
  unfold iM;rw[e];simpa [kL] using he₁
 have hT₁:oj ⟨h₁,g,J,B,os⟩ (.ref it) "dict_itemiterator":=⟨_,he₁,rfl⟩
 refine ab (cE (ab (om hT₁ (ab (om hT₁ ?_)))))
 show aK _ _ (mD (.ref it) 6 c.key c.val) _ _ ⟨h₁,g,J,B,os⟩;unfold mD;refine ab (wpAny_newTuple ?_);have he₂:iM (h₁.push { cls:=.type "tuple",data:=.seq #[c.key,c.val] }) it d (i+1) es.size ep ok C:=al _ he₁;generalize hh₂:h₁.push { cls:=.type "tuple",data:=.seq #[c.key,c.val] }=h₂ at he₂;have hz₁:h₁.objs.size=h.objs.size:=hs₁.1;have q:it < h.objs.size:=aJ l;have ht₂:h₂.get? h.objs.size=some { cls:=.type "tuple",data:=.seq #[c.key,c.val] }:=by rw[<- hh₂,<- hz₁];exact aC _ rfl
 have hz₂:h₂.objs.size=h.objs.size+1:=by rw[<- hh₂,cF,hz₁]
 have hk₂:∀b o,b≠it->h.get? b=some o->h₂.get? b=some o:=λb o u e=>by rw[<- hh₂];exact al _ (hs₁.extBut b o u e)
 show aK _ _ (lZ (.ref it) >>= _) _ _ ⟨h₂,g,J,B,os⟩;rw[hz₁];clear hh₂ he₁ hs₁ hT₁ hz₁ h₁;refine ab ?_;unfold lZ;refine ab (cP he₂ rfl (x:=.none) rfl (aq ?_));simp only[if_true];refine ab (cP he₂ rfl (x:=ok) rfl (ab (cP he₂ rfl (x:=C) rfl ?_)));refine ab (cW he₂ (by simp) λh₃ he₃ hs₃=>?_)
 replace hs₃:cJ it h₂ h₃:=hs₃
 replace he₃:iM h₃ it d (i+1) es.size ep c.key C:=he₃
 refine ab (cW he₃ (by simp) λh₄ he₄ hs₄=>?_)
 replace hs₄:cJ it h₃ h₄:=hs₄
 replace he₄:iM h₄ it d (i+1) es.size ep c.key c.val:=he₄
 refine ab (cW he₄ (by simp) λh₅ he₅ hs₅=>?_)
 replace hs₅:cJ it h₄ h₅:=hs₅
 replace he₅:v5 h₅ it d (i+1) es.size ep c.key c.val h.objs.size:=he₅
 refine ab (cW he₅ (by simp) λh₆ he₆ hs₆=>?_)
 replace hs₆:cJ it h₅ h₆:=hs₆
 replace he₆:v5 h₆ it d (i+1) es.size ep c.key c.val h.objs.size:=he₆
 refine ab (iK (aq (aq ⟨_,rfl,aq (U h₆ he₆ ?_ ?_ ?_)⟩)))
 ·exact hs₆.extBut _ _ (df q) (hs₅.extBut _ _ (df q) (hs₄.extBut _ _ (df q) (hs₃.extBut _ _ (df q) ht₂)))
 ·show h₆.objs.size=h.objs.size+1;rw[hs₆.1,hs₅.1,hs₄.1,hs₃.1,hz₂]
 ·exact λb o u e=>hs₆.extBut b o u (hs₅.extBut b o u (hs₄.extBut b o u (hs₃.extBut b o u (hk₂ b o u e))))
theorem Ua{ok q:ah}{Q:Option ah->am->Prop}(hh:A.handled=none)(c:iM s.heap it d i es.size ep ok q)(v:mH s.heap d es ep)(u:es[i]?=none)
  (C:∀h',nV it s.heap h'->Q none { s with heap:=h' }):aK (bc prog w) A (ko (.ref it)) Q E s:=by
 obtain⟨G,l,B,o⟩:=id v;have g:s.TypeIs (.ref it) "dict_itemiterator":=⟨_,c,rfl⟩
 unfold ko;refine ab (i8 (b8 (name:=aG "__next__") g gW
  (cG gW g rV ?_ (q_ _))))
 refine ab (aq (ab (ab ?_)))
 first|refine ab (gS g (aq ?_))|refine ab (iV g (aq ?_))
 refine ab (pq c rfl ?_);have h:eM "dict_itemiterator"=true:=by decide
 simp only[h,if_true]
 show aK _ _ (if (bj d == bV)=true then _ else _) _ _ s;rw[aA (show ¬ ((bj d == bV)=true) from bo)];refine ab (aq (ab (fw l o ?_)));rw[aA (by simp)];refine ab (aq (ab (kf l o ?_)));rw[aA (by simp)];refine aq ?_;simp only[show ¬ ((i:Int) < 0) from by ext,if_false,bv,u];refine ab ?_
 first|refine ab (gS g (aq ?_))|refine ab (iV g (aq ?_))
 show aK _ _ (zJ (.ref it) 2 .none >>= _) _ _ s;refine ab (mN c rfl (by simp) ?_)
 show aK _ _ (xx (.type "StopIteration") [] >>= _) _ _ _;refine ab ?_;simp only[xx,zE];refine ab (bK ?_ (by size_fits));refine ab (m:=kQ _ _) (m6 (a:=bV) (by first|rfl|(simp only[kQ];rfl)) ?_);refine bK ?_ (by size_fits);simp only[raiseNew];refine ab (vX ?_);rw[show A.in1.handled=none from hh];refine ab (aq (zF ?_));refine ab (eX (T:="StopIteration") (b:=true) ⟨_,aC _ rfl,rfl⟩ pj ?_);exact aq (C _ (((cg ..).extBut.push _).push _))
end
def Iy(a:av)(n:Nat):It:=
 ⟨λi H=>∃c p,H a=some (iw a c)/\c.length=n/\c[i]?=some p,λi H x g=>∃T k v,x=.ref T/\H T=none/\(∀c,H a=some (iw a c)->∃p,c[i]?=some p/\p.2.1=k/\p.2.2=v)/\g=fq H T (.tup [.ref k,v]),λi H=>∃c,H a=some (iw a c)/\c.length=n/\n<=i⟩
section
variable{X:Cx}{ap:List (av×Obj)}{σ:St}{H:Hp}{s:am}{a:av}
theorem EC{g:List (NK×av×V)}(I:Inv X ap σ H s)(e:H a=some (iw a g)):
  (a == cR)=false/\∃c,mH s.heap a c g.length/\c.size=g.length/\∀(i:Nat)(p:NK×av×V),g[i]?=some p->∃h:ky,c[i]?=some h/\h.key=.ref p.2.1/\RelV p.2.2 h.val:=by
 obtain⟨⟨z,y,xs,l,o,c,ep,L,J,G,v,T,E⟩,Q,O⟩:=(show eT X.prog X.w H s.heap a (iw a g) from I.hok a _ e)
 have u:g.length=xs.length:=dj l;subst E;refine⟨y,c,⟨o,L,J,by rw[u];exact G⟩,?_,λi p C=>?_⟩
 ·rw[u,<- d_,v,ae]
 ·obtain⟨q,B,r⟩:=Ft l C;refine⟨BS q,by rw[<- dI,v,aj,B];rfl,?_,r.2.2⟩;rw[r.2.1];rfl
theorem SW{G ys:List (NK×av×V)}(I:Inv X ap σ H s)(e:H a=some (iw a G))(Y:H a=some (iw a ys)){i:Nat}{p:NK×av×V}(h:G[i]?=some p):∃q,ys[i]?=some q/\q.2.1=p.2.1/\q.2.2=p.2.2:=by
 obtain⟨_,x1,o,z1,T⟩:=EC I e;obtain⟨_,x2,l,z2,Q⟩:=EC I Y;obtain⟨o1,U,_,d1⟩:=o;obtain⟨o2,E,_,g⟩:=l;rw[U]at E;cases E;rw[d1]at g;injection g with g d3
 subst g;have C:i < ys.length:=by rw[<- d3];exact (ac.mp h).1
 obtain⟨u,hu,O,L⟩:=T i p h;obtain⟨v,B,c,J⟩:=Q i _ (ag C);rw[hu]at B;cases B;rw[O]at c;injection c with c
 exact⟨_,ag C,c.symm,RelV.inj J L⟩
end
theorem QJ{P:Program}{w:bG}{K:ak}{ts:List Expr}{k:Nat}{pos:Pos}(a l:av)(n:Nat):rm P w K (.Tuple ts k pos) (Iy a n) [l] l (λi h=>∃ok L,iM h l a i n n ok L) where
 mem:=by simp
 obj:=λi h pq131 b B=>by
  obtain⟨ok,L,st⟩:=pq131;have e:b=l:=by simpa using B
  subst e;exact⟨_,st,λv z=>by cases z⟩
 keep:=λi h h' pq132 k=>by obtain⟨ok,L,st⟩:=pq132;exact⟨ok,L,k l (by simp) _ st⟩
 item:=by
  intro X hP hw hK hc i O s σ H E I hf pq170 hg;obtain⟨ok,L,st⟩:=pq170;subst hP hw hK;obtain⟨es,p,hq,hn,hx⟩:=hg;obtain⟨_,G,en,hz,hk⟩:=EC I hq;obtain⟨u,hu,ku,ru⟩:=hk i p hx;obtain⟨f0,f1,f2,f3,f4,f5⟩:=hf l (by simp);subst hn;have T:iM s.heap l a i G.size es.length ok L:=by rw[hz];exact st
  refine SQ T en hu λh' ho hT hsz hk'=>?_;refine⟨_,rfl,wpAny_letOwnedTupleGo_items ho λh2 he2 hs2=>?_⟩;have hit:l < s.heap.objs.size:=aJ st;have C:H s.heap.objs.size=none:=I.hok.fresh (ar _);have keep:∀b o,b≠l->s.heap.get? b=some o->h2.get? b=some o:=λb o B J=>(hs2.2 b B).trans (hk' b o B J);have hT2:h2.get? s.heap.objs.size=some { cls:=.type "tuple",data:=.seq #[u.key,u.val] }:=(hs2.2 _ (df hit)).trans hT;have ne:∀b o,H b=some o->b≠l:=λb o q z=>by rw[z,f0]at q;cases q
  have I2:Inv X O σ (fq H s.heap.objs.size (.tup [.ref p.2.1,p.2.2])) { s with heap:=h2,toks:=s.toks }:=by
   refine I.step (g':=s.gens) (d':=s.drawn) (ch:=[l]) (λb B=>?_) (λb o _ _ g J _=>keep b o (λz=>g (by simp[z])) J)
    (λb o _ _ g J _=>⟨o.slots,keep b o (λz=>g (by simp[z])) J⟩) (λb o g J n1=>by rw[fI (bA (aJ J))];exact n1) (λb o g J=>⟨o,keep b o (λz=>g (by simp[z])) J⟩)
    (λb ys q=>by rw[fI (nA q C)];exact q) (λb o ys q=>by rw[fI (nA q C)];exact q) (λb ps q=>⟨#[],by rw[fI (nA q C),q];simp⟩) (λm hm=>?_) ?_ I.bare
   ·have c:b=l:=by simpa using B
    subst c;exact⟨f3,f1,f4,f5⟩
   ·obtain⟨o,G,ep,J,r⟩:=hm;exact⟨o,G,ep,keep _ o f1.symm J,r⟩
   ·intro b o q;by_cases B:b=s.heap.objs.size
    ·subst B;rw[kq]at q;cases q;exact⟨by show 2<=sizeLine;decide,[u.key,u.val],.cons ku (.cons ru .nil),⟨_,hT2,rfl,⟨_,rfl⟩,rfl⟩⟩
    ·rw[fI B]at q;have:=ne b o q;refine (I.hok b o q).stay (λc v g r=>keep c v ?_ r) (λc U=>by rw[fI (nA U C)];exact U) λc ys U=>by rw[fI (nA U C)];exact U
     rcases g with z|z
     ·rw[z];exact this
     ·exact ne c _ z
  refine⟨.ref s.heap.objs.size,_,I2,rfl,⟨_,p.2.1,p.2.2,rfl,C,λys hy=>SW I hq hy hx,rfl⟩,⟨_,_,by rw[hz]at he2;exact he2⟩,λb B=>?_⟩;rw[fI]
  ·exact (hf b B).1
  ·intro z;have U:b=l:=by simpa using B
   rw[<- z,U]at hit;exact ba hit (bM _)
 done:=by
  intro X hP hw hK hc i O s σ H E I hf Y hg;obtain⟨ok,L,st⟩:=Y;subst hP hw hK;obtain⟨es,hq,hn,hx⟩:=hg;obtain⟨_,G,en,hz,hk⟩:=EC I hq;obtain⟨f0,f1,f2,f3,f4,f5⟩:=hf l (by simp);subst hn;have T:iM s.heap l a i G.size es.length ok L:=by rw[hz];exact st
  exact Ua (I.ok.hd hc) T en (by simp;ext) λh' eb=>⟨rfl,I.turned (t':=s.toks) (λb o B e=>eb b o B e) f0 f1 f3 f4 f5⟩
 self:=λA i s Q E pq133 h=>by obtain⟨ok,L,st⟩:=pq133;exact kcp_self st h
section
variable{X:Cx}{o:Expr}{fa:CE}{ts:List Expr}{k:Nat}{ez dr cx:Pos}
theorem Q1(ho:SE X o fa)(J:dh o "items" X.env (eval o X.env)=eval o X.env)(G:(dr.endLine == cx.line)=true):
  SI X (.Tuple ts k ez) (.Call (.Attribute o "items" dr) [] [] cx) (o8 fa):=by
 intro L s σ H R I E;obtain⟨ρ,l,st,lr,sr,q⟩:=E;refine wl J G (fS (ho L s σ H (λx Y=>∃a C,x=.ref a/\Y a=some (iw a C)/\R (Iy a C.length) Y) I ⟨ρ,l,st,lr,sr,(aV.bnd q).imp λd ec ρ1 Y x1 B p1 v rv=>?_⟩) λv B z=>?_)
 ·cases rv with
  |@dic a n _ h=>
   obtain⟨b,O,e,J⟩:=aV.getDc (aV.bnd p1) B;obtain⟨hb,I⟩:=aV.chk J;cases (show b=true from hb);obtain⟨C,e3,r⟩:=B.ob n a _ h e;refine⟨a,C,rfl,e3,I.ret B _ λρ H st x s q=>?_⟩;have Y:ρ[n]?=some a:=by obtain⟨τ,eτ,_⟩:=x.pre;rw[eτ];exact w8 h
   obtain⟨u,l,g⟩:=s.ob n a _ Y q;have G:u.length=C.length:=by rw[NR.length g,NR.length r]
   refine⟨⟨u,l,G,by show C.length<=(O.map _).length;rw[ae,NR.length r];exact ar _⟩,λi d hd=>?_⟩;have U:i < u.length:=by rw[NR.length g];have:=(ac.mp hd).1;rw[ae]at this;exact this
   refine⟨⟨u,_,l,G,ag U⟩,λy H' z=>?_⟩;obtain⟨T,k,v,rfl,E,z,rfl⟩:=z;obtain⟨p,Q,rfl,rfl⟩:=z u l;obtain⟨q,L,o⟩:=Ft g Q
   change (O.map _)[i]?=some d at hd
   rw[aj,L]at hd;cases hd;have c:Ex ρ H ρ (fq H T (.tup [.ref p.2.1,p.2.2])):=Ex.new E;exact⟨c,s.new E,.tup (iR.of kq) (.cons (o.2.1.mono c) (.cons (o.2.2.mono c) .nil))⟩
  |_=>exact p1.elim
 ·obtain⟨x,Y,h,G,a,C,rfl,J,H⟩:=z;cases G;obtain⟨hd,u,U,sz,_⟩:=EC h J;have q:=U;obtain⟨E,g,c,_⟩:=q;refine⟨"dict","dict.items",Ar,Av,F.type_dict_items,U.typeIs,λb v=>by injection v with v;subst v;exact⟨E,g,c.2.1⟩,?_⟩;refine i6 rfl (vd (rR Av U.typeIs F.entry_dict_items (F.args_dict_items_1 _) (P8 hd) ⟨⟨u,_,U⟩,?_⟩));have l:mH (B.heap.push { cls:=.type "dict_items",data:=.fields #[.ref a] }) a u C.length:=⟨E,al _ g,c,by obtain⟨o',g',_,d'⟩:=U;rw[g]at g';cases g';exact d'⟩
  refine Vi (s:={ B with heap:=B.heap.push { cls:=.type "dict_items",data:=.fields #[.ref a] } }) ⟨_,aC _ rfl,rfl,rfl⟩ l ?_;have I:∀b o,B.heap.get? b=some o->((B.heap.push { cls:=.type "dict_items",data:=.fields #[.ref a] }).push { cls:=.type "dict_itemiterator",data:=.fields #[.none,.bool false,.ref a,.int 0 0,.int u.size 0,.int C.length 0,.none,.none] }).get? b=some o:=λb o e=>al _ (al _ e);have Q:B.heap.objs.size<=(B.heap.push { cls:=.type "dict_items",data:=.fields #[.ref a] }).objs.size:=by rw[cF];exact mC _
  refine⟨_,[(B.heap.push { cls:=.type "dict_items",data:=.fields #[.ref a] }).objs.size],_,Iy a C.length,Y,rfl,h.kept (t':=B.toks) I,QJ a _ C.length,⟨.none,.none,by rw[<- sz];rw[sz];exact (by rw[<- sz];exact aC _ rfl)⟩,λb hb=>?_,H⟩;have e:b=(B.heap.push { cls:=.type "dict_items",data:=.fields #[.ref a] }).objs.size:=by simpa using hb
  subst e;exact h.fpOk Q (h.hok.fresh Q)
end
def zl:vy:=λq c tg e=>vM e λo m p as v h=>v0 as λu=>GQ tg λ_ _ _ l=>wh (m=aG "items"/\(p.endLine == v.line)=true/\Ea o=true) λz=>(q.e c o).bind λf=>some ⟨o8 f.1,λg=>by subst h u l;obtain⟨rfl,u,l⟩:=z;exact Q1 (f.2 g) (G7 l) u⟩
def Om(K:ak)(a:av)(n:Nat):It:=
 ⟨λi H=>∃xs x,gD K H a xs/\xs.length=n/\xs[n-1-i]?=some x/\i < n,λi H x c=>c=H/\∀xs,gD K H a xs->xs[n-1-i]?=some x,λi H=>n<=i⟩
theorem Ps{P:Program}{w:bG}{K:ak}{tg:Expr}(a q:av)(n:Nat):rm P w K tg (Om K a n) [q] q (λi h=>i<=n/\h.IsRevIter q a ((n:Int)-1-(i:Nat))) where
 mem:=by simp
 obj:=λi h L b O=>by
  obtain⟨_,st⟩:=L;have e:b=q:=by simpa using O
  subst e;obtain⟨o,e,c,d⟩:=st;exact⟨o,e,λv z=>by rw[d]at z;cases z⟩
 keep:=λi h h' J k=>by obtain⟨hi,st⟩:=J;exact⟨hi,st.at λo e=>k q (by simp) o e⟩
 item:=by
  intro X hP Y hK hc i g s σ H E I T C hg;obtain⟨hi,st⟩:=C;subst hP Y hK;obtain⟨xs,x,hq,hn,hx,hlt⟩:=hg;obtain⟨its,rv,pl,hz⟩:=I.list hq;obtain⟨u,hu,ru⟩:=rv.get hx;obtain⟨f0,f1,f2,f3,f4,f5⟩:=T q (by simp);have ej:((n-1-i:Nat):Int)=(n:Int)-1-(i:Nat):=by ext
  have U:s.heap.IsRevIter q a ((n-1-i:Nat):Int):=by rw[ej];exact st
  refine wpAny_pyNext_rev_item U pl.isList (x:=u) (by simpa using hu) λh' Q sb=>?_;have I1:Inv X g σ H { s with heap:=h' }:=I.turned (t':=s.toks) (λb o O e=>(sb.2 b O).trans e) f0 f1 f3 f4 f5;obtain⟨o,e,c,d⟩:=id Q;exact⟨u,rfl,EL (s:={ s with heap:=h' }) e c d (by decide) ⟨x,H,I1,ru,⟨rfl,λys hy=>by rw[I.list_inj hy hq];exact hx⟩,⟨hlt,by rw[show (n:Int)-1-((i+1:Nat):Int)=((n-1-i:Nat):Int)-1 by ext];exact Q⟩,λb O=>(T b O).1⟩⟩
 done:=by intro X hP Y hK hc i g s σ H E I T B hg;obtain⟨hi,st⟩:=B;subst hP Y hK;obtain⟨f0,f1,f2,f3,f4,f5⟩:=T q (by simp);have hg':n<=i:=hg;exact wpAny_pyNext_rev_end (l:=a) (I.ok.hd hc) (by rw[show (-1:Int)=(n:Int)-1-(i:Nat) by ext];exact st) λh' eb=>⟨rfl,I.turned (t':=s.toks) (λb o O e=>eb b o O e) f0 f1 f3 f4 f5⟩
 self:=λ_ _ _ _ _ G h=>by obtain⟨_,st⟩:=G;exact px st h
section
variable{X:Cx}{e tg:Expr}{fa:CE}{p pos:Pos}
theorem T2(hg : Gl X "reversed")(hm : X.mg "reversed" = none)(hv : cI "reversed" = some (.type "reversed"))(h : SE X e fa)(he : aF [e] X.env = [(false, eval e X.env)] := by rfl):
  SI X tg (.Call (.Name "reversed" p) [e] [] pos) (ww fa):=by
 intro J s σ H R I C;obtain⟨ρ,l,st,lr,sr,q⟩:=C;refine h9 (wZ I hg hm hv ?_ (by decide) (by decide));refine cq ?_ he rfl;rw[he]
 show aK _ _ (xh [(false,eval e X.env)]) _ _ s;refine lI (fS (h J s σ H (λx U=>∃a xs,x=.ref a/\gD X.K U a xs/\R (Om X.K a xs.length) U) I ⟨ρ,l,st,lr,sr,(aV.bnd q).imp λd ec ρ1 U x1 g p1 v G=>?_⟩) λu g ⟨x,U,Y,r1,a,xs,ex,hx,q1⟩=>l_ ?_)
 ·cases G with
  |@ref a n _ h=>
   obtain⟨ds,e2,Y⟩:=aV.getL (aV.bnd p1) g;obtain⟨a',ws,u,hv,r⟩:=g.seq e2;rw[h]at u;cases u;refine⟨a,ws,rfl,gD.of hv,Y.ret g _ λρ2 H2 J I o U=>?_⟩;obtain⟨a2,B,O,l,q⟩:=o.seq U;obtain⟨τ,eτ,_⟩:=I.pre;rw[eτ,w8 h]at O;cases O;have hl:=q.length;have E:=r.length;have L:gD X.K H2 a B:=gD.of l;refine⟨by show ws.length<=ds.reverse.length;rw[gC];ext,λi d C=>?_⟩;have hi:i < ds.length:=by have:=(ac.mp C).1;rw[gC]at this;exact this
   have T:ds.reverse[i]?=some d:=C;rw[nF hi]at T;obtain⟨v,c,G⟩:=q.get T;rw[E.symm.trans rfl]at c;refine⟨⟨B,v,L,by ext,by rw[show ws.length-1-i=ds.length-1-i by ext];first|exact c|(rw[E]at c;exact c),by ext⟩,λy H3 H=>?_⟩;obtain⟨rfl,z⟩:=H;have Q:=z B L;rw[show ws.length-1-i=ds.length-1-i by ext]at Q;have ev:y=v:=by
    first
    | (rw[c]at Q;exact (aN Q).symm)
    | (rw[E]at c;rw[c]at Q;exact (aN Q).symm)
   subst ev;exact⟨Ex.refl,o,G⟩
  |_=>exact p1.elim
 ·subst ex;cases r1;obtain⟨its,G,h,hz⟩:=Y.list hx;have c:=G.length;refine CH h.isList ?_;refine px (s:={ g with heap:=_ }) ⟨_,aC _ rfl,rfl,rfl⟩ ?_;refine⟨g.heap.objs.size,[g.heap.objs.size],_,_,U,rfl,Y.kept (t':=g.toks) λb o e=>al _ e,Ps a _ xs.length,⟨bu _,⟨_,aC _ rfl,rfl,by show (FT _)=_;rw[show ((its.toArray.size:Int)-1)=(xs.length:Int)-1-((0:Nat):Int) by rw[aH];ext]⟩⟩,λb l=>?_,q1⟩;have e:b=g.heap.objs.size:=by simpa using l
  subst e;exact Y.fpOk (ar _) (Y.hok.fresh (ar _))
end
def E7:vy:=GX AK "reversed" kX ww λ_ g m a s=>T2 g m (by nofun) a s
end MM
namespace MM
open PySem PySem.Spec PyProof.Rows L2
section
variable{X:Cx}
noncomputable def vB(k:Bool):ah->Bool
 | .bool b=>b == k
 |_=>false
def yC:V->List V->Hp->VK->Prop:=λx ys H Q=>∃(l:av)(bs:List Bool)(k:Bool),x=.ref l/\ys=[.bl k]/\H l=some (.lst (bs.map V.bl))/\bs.contains k=true/\bs.length<=eS/\Q (.int (bs.findIdx (· == k):Nat)) H
theorem V9(hu:X.A.units+60 < cC):CL X "list.index" yC:=by
 intro Y s σ H x vs v us Q I rx rv h;obtain⟨l,bs,k,rfl,rfl,hv,C,hlim,q⟩:=h;cases rx;obtain⟨u,rfl,ru⟩:=rv.one;obtain rfl:u=cS k:=ru;obtain⟨its,B,pl,hz⟩:=I.list (gD.of hv);have hl:its.length=bs.length:=by rw[<- B.length,ae]
 have c:∀(j:Nat)(w:ah),its[j]?=some w->∃b,bs[j]?=some b/\w=.bool b:=λj w E=>by
  have g:j < (bs.map V.bl).length:=by rw[ae,<- hl];exact (ac.mp E).1
  obtain⟨w',J,G⟩:=B.get (ag g);rw[E]at J;cases J;rw[qx]at G;rw[ae]at g;exact⟨bs[j],ag g,G⟩
 have g:(bs.findIdx (· == k)) < bs.length:=List.findIdx_lt_length.mpr (by
  obtain⟨b,hb,e⟩:=gG.mp (show bs.any (· == k)=true by rw[gG];exact⟨k,List.contains_iff_mem.mp C,by simp⟩)
  exact⟨b,hb,e⟩)
 have T:eS < 2^60:=by decide
 obtain⟨⟨cls,dd,data,sl⟩,ho,hc,n,hd⟩:=id pl.isList;simp only at hc hd;subst hc hd;refine uM su ⟨_,ho,rfl⟩ PySem.F.entry_list_index (PySem.F.args_list_index_2 _ _)
  (SeqAt.list_indexAt l its.toArray n dd sl (.bool k) (vB k) (bs.findIdx (· == k)) (by simp only[aH];ext) (by ext) ?_ ?_) ⟨ho,λw E=>?_,⟨.int _,H,I.tok _,⟨_,rfl⟩,q⟩⟩
 ·have J:(bs.findIdx (· == k)) < its.length:=by ext
  obtain⟨b,o,L⟩:=c _ _ (ag J);simp only[fU];rw[L];rw[ag g]at o;cases o;exact List.findIdx_getElem (w:=g)
 ·intro m g O;simp only[aH]at g;obtain⟨b,o,L⟩:=c _ _ (ag g);simp only[fU];rw[L];have G:m < bs.length:=by ext
  rw[ag G]at o;cases o;have:=List.not_of_lt_findIdx O;simpa [vB] using this
 ·obtain⟨j,U⟩:=bm.mp (show w∈its by simpa using E);obtain⟨b,_,rfl⟩:=c _ _ U;exact (F_ (X:=X) (ρ:=[]) (v:=.bl b) (w:=.bl k) (d:=.bl b) (e:=.bl k) I 0 (by show X.A.units+1+0 < cC;ext) rfl (.bl b) (.bl k) rfl rfl).2.2
theorem YT{o e:Expr}{fa fb:CE}{q c:Pos}(hu:X.A.units+60 < cC)(ho:SE X o fa)(G:SE X e fb)(B:dh o "index" X.env (eval o X.env)=eval o X.env)
  (E:((eI c (aF [e] X.env)).all (λx => !x.1)&&(nN c (kt [] X.env)).all (λx=>x.1.isSome)
   && decide ([e].length+([]:List ia).length+(if ([]:List ia).isEmpty then 0 else 1) < 30))=true)
  (u:(q.endLine == c.line)=true) (hs:aF [e] X.env=(false,eval e X.env)::aF [] X.env) (g:(eI c (aF [] X.env)).any (·.1)=false):
  SE X (.Call (.Attribute o "index" q) [e] [] c) (nC fa fb):=
 (Pe mr su PySem.F.type_list_index (V9 hu) ho (rX G u_ hs) B E u hs g).of λσ H Q h_=>h_.el λρ l st lr sr p=>⟨ρ,l,st,lr,sr,p.bnd.imp λd J ρ1 H1 x1 s1 p1 v rv=>by
  cases rv with
  |@ref a n kk h=>
   obtain⟨I,Y⟩:=K8 kk;refine⟨.inl ⟨rfl,I,gD.of Y⟩,ρ1,l,J,lr.mono x1,s1,(aV.bnd p1).imp λy st2 ρ2 H2 x2 L p2 w O=>?_⟩;have h2:ρ2[n]?=some a:=by obtain⟨τ,e,_⟩:=x2.pre;rw[e];exact w8 h
   obtain⟨ds,e2,C⟩:=aV.getL (aV.bnd p2) L;obtain⟨a',vs,G,hv,r⟩:=L.seq e2;rw[h2]at G;cases G;cases O with
   |bl k=>
    cases eb:ki ds with
    |none=>rw[eb]at C;exact C.elim
    |some bs=>
     rw[eb]at C;obtain⟨⟨U,T⟩,p4⟩:=aV.chk C;have:=Ki eb r;subst this;exact⟨a,bs,k,rfl,rfl,hv,U,T,p4.ret L _ (.int _)⟩
   |_=>exact C.elim
  |_=>exact p1.elim⟩
end
end MM
namespace MM
def x_:kR:=zT "index" nC (λc p=>c.tag p 20) λu o a b f l s p=>YT u o a b f l s p
open PySem PySem.Spec PyProof.Rows L2
theorem Ra(c:List (D×D))(k v:D):(kG c k v).length<=c.length+1:=by
 unfold kG;split
 ·rw[ae];exact mC _
 ·rw[au];exact ar _
section
variable{X:Cx}{ap:List (av×Obj)}{σ:St}{ρ:List av}
theorem Xb{H:Hp}{v:V}{d:D}{p:D×D}(r:dN X.K ρ H v d)(h:Gu d=some p):∃(a:av)(x y:V),v=.ref a/\iR X.K H a [x,y]/\dN X.K ρ H x p.1/\dN X.K ρ H y p.2/\m_ true p.1=true:=by
 unfold Gu at h;split at h
 ·split at h
  ·rename_i c;cases h;cases r with
   |tup hq rs=>
    cases rs with
    |cons r1 rs=>
     cases rs with
     |cons r2 rs=>
      cases rs;exact⟨_,_,_,rfl,hq,r1,r2,c⟩
  ·cases h
 ·cases h
theorem Mn(hc:X.calm=true){A:bB}(hh:A.handled=none)(hu:A.units+10 < cC){R:Result->am->Prop}(d g L:av)(n:Nat)(ha:ρ[n]?=some d)(nL:L∉ρ)(O:List V)(all:List D):
  ∀(ds:List D)(B:List (D×D))(j:Nat)(i:Int)(tok:Tok)(s:am)(H:Hp)(st:a_)(cp:List (D×D)),all.drop j=ds->sC ds=some B->Inv X ap σ H s->SR X.K ρ H st->st[n]?=some (.dct true cp)->H L=some (.lst O)->bZ X.K ρ H O all ->
  pf X ap H g->s.heap.IsListIter g L j->cp.length+ds.length < sizeLine ->
  (∀C G,Inv X ap σ C G->SR X.K ρ C (st.set n (.dct true (tS cp B)))->Ex ρ H ρ C->R (.ok (.ret .none)) G) ->
  ml (bc X.prog X.w) A (.builtin "dict.update.loop" ⟨[.ref d,.ref g,.int i tok,.none],[]⟩) R s
 |[],B,j,i,tok,s,H,st,cp,hd,h,I,sr,hn,hL,rs,hf,hi,hz,hR=>by
  cases h;obtain⟨f0,Y,f2,U,T,Q⟩:=hf;obtain⟨its,rv,pl,_⟩:=I.list (gD.of hL);refine gz (b:=Builtin.«dict.update.loop») rfl ?_;rw[dS He _];unfold Builtin.«dict.update.loop»;simp only[];have hj:all.length<=j:=by have:=cz eU hd;simp at this;ext
  refine ab (xL (A:=A.in1) hh hi pl.isList (by rw[uc];rw[aH,<- rv.length,rs.length];exact hj) λh' hx=>?_)
  wp_walk
  refine hR H _ (I.turned (t':=s.toks) (λb o q e=>hx b o q e) f0 Y U T Q) ?_ Ex.refl;have:st.set n (.dct true (tS cp []))=st:=by show st.set n (.dct true cp)=st;obtain⟨h1,h2⟩:=ac.mp hn;rw[<- h2];exact List.set_getElem_self h1
  rw[this];exact sr
 |e::ds,B,j,i,tok,s,H,st,cp,hd,h,I,sr,hn,hL,rs,hf,hi,hz,hR=>by
  have hf':=hf;obtain⟨f0,Y,f2,U,T,Q⟩:=hf;unfold sC at h;rw[sR]at h;obtain⟨p,hp1,h⟩:=h;rw[fk]at h;obtain⟨B,hps,rfl⟩:=h;obtain⟨its,rv,pl,_⟩:=I.list (gD.of hL);have hej:all[j]?=some e:=by have:=cz (·[0]?) hd;simpa using this
  obtain⟨v,hv,rve⟩:=rs.get hej;obtain⟨a,x,y,rfl,hq,rx,ry,hk⟩:=Xb rve hp1;obtain⟨u,hu',ru⟩:=rv.get hv;cases ru;refine gz (b:=Builtin.«dict.update.loop») rfl ?_;rw[dS He _];unfold Builtin.«dict.update.loop»;simp only[];refine ab (xj (A:=A.in1) hi pl.isList (by simpa using hu') λh' l hs=>?_);have I1:Inv X ap σ H { s with heap:=h' }:=I.turned (t':=s.toks) (λb o q e=>(hs.2 b q).trans e) f0 Y U T Q;obtain⟨us,rus,pt,_⟩:=I1.tuple hq;obtain⟨ux,uy,rfl,r1,r2⟩:∃ux uy,us=[ux,uy]/\RelV x ux/\RelV y uy:=by
   cases rus with
   |cons r1 t=>
    cases t with
    |cons r2 t=>cases t;exact⟨_,_,rfl,r1,r2⟩
  refine ab (cE (ab (mP (Va (s:={ s with heap:=h' }) pt ?_))));have I2:=I1.pinned (fp:=[g]) (λb q=>by rw[ax.mp q];exact hf') (λb q=>by rw[ax.mp q];obtain⟨o,J,c,dt⟩:=l;exact⟨o,J,λv z=>by rw[dt]at z;cases z⟩)
  refine cE (NI (A:=A.in1) (by show A.units+1+2 < cC;ext) I2 sr ha hn rx hk (by simp at hz;ext) ry r1 r2 λC G I' sr' x'=>?_);refine aq ⟨fK He _,?_⟩;have hlt:=(ac.mp hn).1;have hi2:G.heap.IsListIter g L (j+1):=by
   obtain⟨o,J,r⟩:=l;refine⟨o,?_,r⟩;have hm:(g,o)∈ap++mI [g] h':=by refine aY _ ?_;simp[mI,J]
   exact (I'.pin (g,o) (aY _ hm)).1
  have hit:C g=none:=by
   obtain⟨o,J,r⟩:=l;have hm:(g,o)∈ap++mI [g] h':=by refine aY _ ?_;simp[mI,J]
   exact (I'.pin (g,o) (aY _ hm)).2.1
  refine Mn hc hh hu d g L n ha nL O all ds B (j+1) (i+1) _ G C _ (kG cp p.1 p.2) (by rw[<- List.drop_drop,hd];rfl) hps I'.unpinned sr' (ao hlt) (x'.lst L O nL hL) (rs.mono x') ⟨hit,Y,f2,U,T,Q⟩ hi2 (by have:=Ra cp p.1 p.2;simp at hz;ext) λH3 s3 I3 E x3=>?_;rw[List.set_set]at E;exact hR H3 s3 I3 E (x'.trans x3)
end
section
variable{X:Cx}
theorem Od:∀{ds:List D}{ps:List (D×D)},sC ds=some ps->ps.length=ds.length
 |[],_,h=>by cases h;rfl
 |d::ds,ps,h=>by unfold sC at h;rw[sR]at h;obtain⟨p,_,h⟩:=h;rw[fk]at h;obtain⟨g,c,rfl⟩:=h;simp[Od c]
def DL(K:ak)(g:List D->M D):List V->Hp->VK->Prop:=λxs H Q=>∃a c ρ st ds,xs=[.ref a]/\H a=some (.lst c)/\a∉ρ/\SR K ρ H st/\bZ K ρ H c ds/\aV K ρ H (g ds st) λr _ ρ' h=>∀v,dN K ρ' h v r->Q v h
theorem Y1(hc:X.calm=true)(hu:X.A.units+60 < cC):CallR X (.type "dict") (DL X.K kI):=by
 intro l s σ H xs us Q I r h;obtain⟨L,vs,ρ,st,ds,rfl,hv,nL,U,rs,p⟩:=h;obtain⟨u,rfl,rx⟩:=uI r;cases rx;unfold kI at p;cases c:sC ds with
 |none=>rw[c]at p;exact p.elim
 |some ps=>
  rw[c]at p;obtain⟨hk,p2⟩:=aV.chk p;have hlen:=Od c;obtain⟨its,rv,⟨⟨oc,od,odt,J⟩,n,g,c1,c2,c3⟩,hz⟩:=I.list (gD.of hv);simp only at c1 c2 c3;subst c1 c2 c3;have hh:=I.ok.hd hc;have hLd:L < s.heap.objs.size:=aJ g;refine callType_codes (Q₁:=λobj s₁=>obj=.ref s.heap.objs.size/\s₁={ s with heap:=s.heap.push { cls:=.type "dict",data:=.dict #[] } }) F.kt_called_dict rfl F.entry_dict_init (kt_code_dict_new _ ⟨rfl,rfl⟩) λobj s₁ h₁=>?_;obtain⟨rfl,rfl⟩:=h₁;refine⟨⟨_,aC _ rfl,rfl⟩,F.args_dict_init_2 _ _,?_⟩;have hn:=I.hok.fresh (ar s.heap.objs.size);have I1:=I.laid (a:=s.heap.objs.size) (o:=iw s.heap.objs.size []) (h':=s.heap.push { cls:=.type "dict",data:=.dict #[] }) (t':=s.toks) (λ_ _ q=>al _ q) (ar _)
   (C9 (P:=X.prog) (w:=X.w) (xs:=[]) (bu _) (beq_eq_false_iff_ne.mpr (bC (bA I.big))) .nil (nY s.heap) ⟨_,_,aC _ rfl,rfl⟩)
  have x0:Ex ρ H (ρ++[s.heap.objs.size]) (fq H s.heap.objs.size (iw s.heap.objs.size [])):=Ex.newO hn;have s0:SR X.K (ρ++[s.heap.objs.size]) (fq H s.heap.objs.size (iw s.heap.objs.size [])) (st++[.dct true []]):=(U.new hn).keepO (U.fresh hn) ⟨[],kq,.nil⟩;have C:(ρ++[s.heap.objs.size])[st.length]?=some s.heap.objs.size:=by rw[<- U.len];simp
  have O:L≠s.heap.objs.size:=bA hLd;have hv1:fq H s.heap.objs.size (iw s.heap.objs.size []) L=some (.lst vs):=by rw[fI O];exact hv
  have nL1:L∉ρ++[s.heap.objs.size]:=by simp only[aB,ax,not_or];exact⟨nL,O⟩
  have Y:=rs.mono x0;have E:(s.heap.push { cls:=.type "dict",data:=.dict #[] }).get? L=some { cls:=.type "list",data:=.seq its.toArray n,slots:=J }:=al _ g;have hT:oj { s with heap:=s.heap.push { cls:=.type "dict",data:=.dict #[] } } (.ref L) "list":=⟨_,E,rfl⟩
  unfold Builtin.«dict.__init__»
  wp_walk using mq hT,Vz (A:=X.A.in1.in1) hh E
  intro h' T kp;have I2:Inv X l σ _ { s with heap:=h',toks:=T }:=I1.kept (t':=T) kp;simp only[vn,if_true];refine ab (ie ?_);have hL2:h'.get? L=some { cls:=.type "list",data:=.seq its.toArray n,slots:=J }:=kp _ _ E;refine ab (kM ⟨_,hL2,rfl,n,rfl⟩ ?_);refine aq ⟨fK He _,?_⟩;have I3:Inv X l σ _ { s with heap:=h'.push { cls:=.type "list_iterator",data:=.fields #[.ref L,.int 0 0] },toks:=T }:=I2.kept (t':=T) λb o e=>al _ e;refine Mn (X:=X) (A:=X.A.in1) hc hh (by show X.A.units+1+10 < cC;ext) s.heap.objs.size h'.objs.size L st.length C nL1 vs ds ds ps 0 0 0 _ _ _ [] rfl c I3 s0 (by simp) hv1 Y (I2.fpOk (ar _) (I2.hok.fresh (ar _))) ⟨_,aC _ rfl,rfl,rfl⟩ (by rw[lH];simp;ext) λG s' I' B x'=>?_;refine⟨rfl,.ref s.heap.objs.size,G,I',rfl,?_⟩;have e1:(st++[MO.dct true []]).set st.length (.dct true (tS [] ps))=st++[.dct true (tS [] ps)]:=by simp
  rw[e1]at B;have p3:∀ρ' G,Ex ρ H ρ' G->SR X.K ρ' G (st++[.dct true (tS [] ps)])->∀v,dN X.K ρ' G v (.dic st.length)->Q v G:=p2;obtain⟨es,ee,_⟩:=B.ob st.length _ (.dct true (tS [] ps)) C (by simp);exact p3 _ G (x0.trans x') B _ (.dic ⟨_,ee,.inr rfl⟩ C)
theorem Qz{e:Expr}{v:CA}{x:Str}{p pos:Pos}(U:CallR X (.type "dict") (DL X.K kI))(T:Gl X x)(O:X.mg x=none)(h:cI x=some (.type "dict"))(u:SL X e v)(L:x≠"__name__")(o:(x == ("__debug__":Str))=false)
  (q:aF [e] X.env=[(false,eval e X.env)]):SE X (.Call (.Name x p) [e] [] pos) (iq kI v):=
 (JF U T O h (rX u u_ q) L o q rfl).of λσ H Q Y=>Y.el λρ l st J C p=>⟨ρ,l,st,J,C,p.bnd.imp λds c ρ1 H1 x1 E G a B u I h g=>⟨a,B,ρ1,c,ds,rfl,h,I,E,g,G⟩⟩
theorem aV.storeN{K:ak}{ρ:List av}{H:Hp}{st:a_}{n:Nat}{k v:D}{R:Unit->a_->List av->Hp->Prop}(h:aV K ρ H (MM.storeN n k v st) R)(s:SR K ρ H st):∃c,st[n]?=some (.dct true c)/\m_ true k=true/\c.length < eS/\aV K ρ H (.ok () (st.set n (.dct true (kG c k v)))) R:=by obtain⟨b,c,e,o⟩:=aV.getDc (aV.bnd h) s;obtain⟨⟨l,u,q⟩,g⟩:=aV.chk o;have l:b=true:=l;subst l;refine⟨c,e,u,q,?_⟩;unfold pF at g;rw[e]at g;simpa using g
theorem X0{k1 v1:Expr}{f1 C:CE}{pos:Pos}(hu:X.A.units+60 < cC)(h1:SE X k1 f1)(h2:SE X v1 C):SE X (.Dict [some k1] [v1] pos) (qy f1 C):=by
 intro L s σ H Q I h_;obtain⟨ρ,l,st,lr,sr,p⟩:=h_;have hn:=I.hok.fresh (ar s.heap.objs.size);have I1:=I.laid (a:=s.heap.objs.size) (o:=iw s.heap.objs.size []) (h':=s.heap.push { cls:=.type "dict",data:=.dict #[] }) (t':=s.toks) (λ_ _ q=>al _ q) (ar _)
  (C9 (P:=X.prog) (w:=X.w) (xs:=[]) (bu _) (beq_eq_false_iff_ne.mpr (bC (bA I.big))) .nil (nY s.heap) ⟨_,_,aC _ rfl,rfl⟩)
 have x0:Ex ρ H (ρ++[s.heap.objs.size]) (fq H s.heap.objs.size (iw s.heap.objs.size [])):=Ex.newO hn;have s0:SR X.K (ρ++[s.heap.objs.size]) (fq H s.heap.objs.size (iw s.heap.objs.size [])) (st++[.dct true []]):=(sr.new hn).keepO (sr.fresh hn) ⟨[],kq,.nil⟩;have p0:=(p.bnd) _ _ x0 s0;have T:(ρ++[s.heap.objs.size])[st.length]?=some s.heap.objs.size:=by rw[<- sr.len];simp
 have pps:Ek X pos [some k1] [v1] [(wK X.K f1,wK X.K C)]:=Ll h1 h2 Pa;refine Qf rfl rfl (by simp) (by simp) (fS (pps L _ σ _ (λps Y=>∃(ρ':List av)(c:a_)(x1 B:V)(G E:D),ps=[(x1,B)]/\SR X.K ρ' Y c/\ρ'[st.length]?=some s.heap.objs.size/\dN X.K ρ' Y x1 G/\dN X.K ρ' Y B E /\
  aV X.K ρ' Y (bnd (storeN st.length G E) (λ_=>ret (.dic st.length)) c) λd _ ρ'' U=>∀v,dN X.K ρ'' U v d->Q v U) I1 ?_) λvs s2 z=>?_)
 ·have O:=lr.mono x0;exact⟨_,l,_,O,s0,(p0.bnd).imp λG g ρ1 u B o q v1 r1=>⟨ρ1,l,g,O.mono B,o,(q.bnd).imp λE c ρ2 H2 h s2 p2 v2 r2=>by refine⟨ρ2,c,v1,v2,G,E,rfl,s2,?_,r1.mono h,r2,p2⟩;obtain⟨τ,e,_⟩:=(B.trans h).pre;rw[e,aw (ac.mp T).1];exact T⟩⟩
 ·obtain⟨ps,H2,Q,h,ρ',c,x1,B,G,E,rfl,J,u,r1,r2,p2⟩:=z;cases h with
  |@cons _ ua _ us ra h=>
   cases h;obtain⟨Y,U⟩:=ua;rw[nu];obtain⟨l,C,q,o,I⟩:=aV.storeN (p2.bnd) J;refine ab (ab (NI (by ext) Q J u C r1 q o r2 ra.1 ra.2 λT s3 O g v=>aq ?_));have H:=(I _ _ v g).ret g;obtain⟨es,L,_⟩:=g.ob st.length _ (.dct true (kG l G E)) u (ao (ac.mp C).1);exact aq ⟨.ref s.heap.objs.size,T,O,rfl,H _ (.dic ⟨_,L,.inr rfl⟩ u)⟩
end
def Bt:kR:=sF "dict" (λc p=>c.tag p 21) kI λc u g m a s=>Qz (Y1 c u) g m (by nofun) a (uh (by nofun)) (by nofun) s
def AX:kR:=λq c e=>I0 e λks o p h=>v1 ks λa C=>oS a λk B=>v1 o λv u=>wh (c.tag p 22=true) λ_=>(q.e c k).bind λf=>(q.e c v).bind λl=>some ⟨qy f.1 l.1,λg=>by subst h C B u;exact X0 g.hu (f.2 g) (l.2 g)⟩
open PySem.SeqAt
noncomputable def tT(h:bQ)(v:ah)(p:List Int):Prop:=∃b xs,v=.ref b/\h.IsTuple b xs/\ic xs.toList p
theorem tT.kept{h h':bQ}{v:ah}{p:List Int}(x:tT h v p)(k:∀b o,h.get? b=some o->h'.get? b=some o):tT h' v p:=by obtain⟨b,xs,e,⟨o,c,r⟩,i⟩:=x;exact⟨b,xs,e,⟨o,k _ _ c,r⟩,i⟩
theorem Oy{A:bB}{s:am}{v u:ah}{p q:List Int}(g:tT s.heap v p)(c:tT s.heap u q)(hu:A.units < cC):rl A s v u (i0 p q):=by obtain⟨b,xs,rfl,l,h⟩:=g;obtain⟨C,ys,rfl,B,o⟩:=c;exact R4 l B h o hu
theorem Nb{c:Nat->Nat->Bool}:∀k,lC c k=kZ c k
 |0=>rfl
 |k+1=>by rw[lC,kZ,Nb k]
section
variable{prog:Program}{w:bG}{A:bB}{E:ah->am->Prop}{s:am}
theorem Q2{a b:ah}{Q:ah->am->Prop}(hh:A.handled=none)(u:Nat->Nat->Bool)
  (B:yE prog w A.in1 .Lt (λi v=>(#[a,b]:Array ah)[i]?=some v) (λh=>∀b o,s.heap.get? b=some o->h.get? b=some o) u)
  (U:∀h' G,(∀b o,s.heap.get? b=some o->h'.get? b=some o)->Q (if u 1 0=true then b else a) { s with heap:=h',toks:=G }):
  aK (bc prog w) A (call (.builtin "min") [a,b]) Q E s:=by
 have l:(toString "min"++toString ".loop":String)="min.loop":=by decide
 have J:(s.heap.push { cls:=.type "tuple",data:=.seq #[a,b] }).IsTuple s.heap.objs.size #[a,b]:=⟨_,aC _ rfl,rfl,0,rfl⟩
 have hsz:(s.heap.push { cls:=.type "tuple",data:=.seq #[a,b] }).objs.size=s.heap.objs.size+1:=cF ..;refine call_function_tree vZ vk vm (PySem.F.args_min2 _ _) ?_
 show aK _ A.in1 (gw "min" ["key","default"] 0 ⟨[],[]⟩ >>= _) _ _ s;refine ab (m6 (show gw "min" ["key","default"] 0 ⟨[],[]⟩=pure [none,none] from rfl) ?_)
 show aK _ A.in1 (zE [a,b] >>= _) _ _ s;refine ab (bK ?_);refine ab (ig J ?_);refine ab (bK ?_);rw[l];have W:=Walks.tuple (prog:=prog) (w:=w) (A:=A.in1) hh (s.heap.push { cls:=.type "tuple",data:=.seq #[a,b] }).objs.size s.heap.objs.size (by rw[hsz];exact bA (kP _)) #[a,b];have T:∀{c:av}{o:Obj},s.heap.get? c=some o->c < s.heap.objs.size:=λe=>aJ e;generalize L:((s.heap.push { cls:=.type "tuple",data:=.seq #[a,b] }).push { cls:=.type "tuple_iterator",data:=.fields #[.ref s.heap.objs.size,.int 0 0] }).objs.size=S;have g:S=s.heap.objs.size+2:=by rw[<- L,cF,hsz]
 rw[hsz]at W;refine aq ⟨fK du _,?_⟩;rw[hsz];refine NN (Kp:=λh=>∀b o,s.heap.get? b=some o->h.get? b=some o) W u B S (λq=>?_) (λh h' Y H c o e=>H c o (λq=>?_) (λz=>?_) (Y c o e)) (by show 0 < 2;decide) ?_ ?_ (by rw[<- L];exact aC _ rfl) λv h' G C H=>?_
 ·rcases bb.mp q with e|q
  ·exact ba (show (s.heap.objs.size+2:Nat)=s.heap.objs.size+1 from g.symm.trans e) (by ext)
  ·exact ba (show (s.heap.objs.size+2:Nat)=s.heap.objs.size from g.symm.trans (ax.mp q)) (by ext)
 ·exact ba (aJ e) (by rw[ax.mp q];exact sS.mpr (mC _))
 ·exact ba (aJ e) (by rw[z,g];exact sS.mpr (zO _ 2))
 ·have O:=aC (s.heap.push { cls:=.type "tuple",data:=.seq #[a,b] }) (o:={ cls:=.type "tuple_iterator",data:=.fields #[.ref s.heap.objs.size,.int 0 0] }) rfl;rw[hsz]at O;exact⟨⟨_,al _ O,rfl,rfl⟩,(J.push _).push _⟩
 ·exact λc o e=>al _ (al _ (al _ e))
 ·have key:=U h' G λc o e=>H c o (λq=>ba (aJ e) (by rw[ax.mp q];exact sS.mpr (mC _))) (λz=>ba (aJ e) (by rw[z,g];exact sS.mpr (zO _ 2))) (al _ (al _ (al _ e)));have l:v=if u 1 0=true then b else a:=by
   have h:lC u ((#[a,b]:Array ah).size-1)=if u 1 0=true then 1 else 0:=rfl
   rw[h]at C;by_cases I:u 1 0=true
   ·rw[aE I]at C ⊢;exact (aN C).symm
   ·rw[aA I]at C ⊢;exact (aN C).symm
  rw[l];exact key
end
section
variable{X:Cx}{K:ak}{ρ:List av}{H:Hp}{st:a_}{ap:List (av×Obj)}{σ:St}{s:am}
theorem HW(I:Inv X ap σ H s){v:V}{u:ah}{xs:List D}{g:List Int}(r:dN X.K ρ H v (.tup xs))(l:RelV v u)(e:iX xs=some g):tT s.heap u g:=by
 cases r with
 |@tup b ws _ hq2 rr2=>
  cases (show u=bj b from l);obtain⟨h,c,o,_⟩:=I.tuple hq2;have:=Jx e rr2;subst this;exact⟨b,_,rfl,o,by simpa using Iw c⟩
theorem Mr(I:Inv X ap σ H s): ∀{l:List V}{ds:List D}{its:List ah}{ps:List (List Int)},bZ X.K ρ H l ds->b9 l its->pE ds=some ps ->
  ∀(i:Nat)v,its[i]?=some v->tT s.heap v (ps.getD i [])
 |_,_,_,ps,.nil,.nil,e,i,v,h=>by simp at h
 |_,_,_,ps,.cons (d:=d) (ds:=ds) r t,.cons ru tu,e,i,v,h=>by
  cases d with
  |tup xs=>
   rw[pE]at e;cases c:iX xs with
   |none=>rw[c]at e;cases e
   |some ns=>
    cases g:pE ds with
    |none=>rw[c,g]at e;cases e
    |some rs=>
     rw[c,g]at e;cases e;cases i with
     |succ i=>exact Mr I t tu g i v (by simpa using h)
     |zero=>
      simp only[mW,sZ]at h;subst h;exact HW I r ru c
  |_=>cases e
theorem UV(hc:X.calm=true)(hu:X.A.units+60 < cC):CallR X (.builtin "min") (λxs H Q=>∃v,xs=[v]/\v_ X.K t7 v H Q):=by
 intro ap s σ H xs us Q I r h;obtain⟨v,rfl,ρ,st,d,C,c,p⟩:=h;obtain⟨u,rfl,ru⟩:=uI r;cases c with
 |@ref a n _ h=>
  cases ru;obtain⟨ds,e2,g⟩:=aV.getL (aV.bnd p) C;obtain⟨a',B,L,hv,G⟩:=C.seq e2;rw[h]at L;cases L;unfold qK at g;cases e:pE ds with
  |none=>rw[e]at g;exact g.elim
  |some ps=>
   rw[e]at g;obtain⟨hn,p2⟩:=aV.chk g;obtain⟨its,c,pl,hz⟩:=I.list (gD.of hv);have l1:its.length=B.length:=c.length.symm;have l2:B.length=ds.length:=G.length;have pr:=Mr I G c e;refine Rq (dv:=none) (I.ok.hd hc) pl.isList (by simp;ext) (λi j=>i0 (ps.getD i []) (ps.getD j [])) (λi j U T s' Q E o q J hq=>?_) λv h' Y O o=>?_
   ·exact Oy (A:=X.A.in1) ((pr i U (by simpa using q)).kept o) ((pr j T (by simpa using J)).kept o) (by show X.A.units+1 < cC;ext) X.prog X.w E Q hq
   ·rw[Nb,aH,l1,l2]at O;refine⟨B.getD _ .non,H,I.kept (t':=Y) o,?_,p2.ret C _ (bZ.pick _ G)⟩;have q:=b9.pick (kZ (λi j=>i0 (ps.getD i []) (ps.getD j [])) (ds.length-1)) c;have J:its[kZ (λi j=>i0 (ps.getD i []) (ps.getD j [])) (ds.length-1)]?=some v:=by simpa using O
    rw[br (l:=its),J]at q;exact q
 |_=>exact p.elim
theorem Yb(hc:X.calm=true)(hu:X.A.units+60 < cC):CallR X (.builtin "min") (λxs H Q=>∃v w,xs=[v,w]/\pV X.K oE v w H Q):=by
 intro ap s σ H xs us Q I r h;obtain⟨v,w,rfl,ρ,st,d,e,sr,G,c,p⟩:=h;obtain⟨u,B,rfl,L,J⟩:=Jb r;unfold oE at p;cases d with
 |tup xs=>
  cases e with
  |tup ys=>
   dsimp only at p;cases o:iX xs with
   |none=>rw[o]at p;exact p.elim
   |some as=>
    cases q:iX ys with
    |none=>rw[o,q]at p;exact p.elim
    |some bs=>
     rw[o,q]at p;have t1:=HW I G L o;have Y:=HW I c J q;have at_:∀(i:Nat)(x:ah),(#[u,B]:Array ah)[i]?=some x->tT s.heap x ([as,bs].getD i []):=λi x h=>by
      match i,h with
      |0,h=>cases h;exact t1
      |1,h=>cases h;exact Y
      |i+2,h=>simp at h
     refine Q2 (I.ok.hd hc) (λi j=>i0 ([as,bs].getD i []) ([as,bs].getD j [])) (λi j U T s' Q E g h1 h2 hq=>?_) λh' C g=>?_
     ·exact Oy (A:=X.A.in1) ((at_ i U h1).kept g) ((at_ j T h2).kept g) (by show X.A.units+1 < cC;ext) X.prog X.w E Q hq
     ·have l:=p.ret sr
      show EP X ap σ Q (if i0 bs as=true then B else u) _;by_cases O:i0 bs as=true
      ·rw[aE O]at l ⊢;exact⟨w,H,I.kept (t':=C) g,J,l w c⟩
      ·rw[aA O]at l ⊢;exact⟨v,H,I.kept (t':=C) g,L,l v G⟩
  |_=>exact p.elim
 |_=>exact p.elim
end
def DY:kR:=um "min" (λc p=>c.tag p 23) t7 λc u g m a s=>Jm (UV c u) g m (by nofun) a (uh (by nofun)) (by nofun) s
def BB:kR:=EE "min" (λc p=>c.tag p 24) oE λc u g m a b o l h=>Lh (Yb c u) g m (by nofun) a b (uh (by nofun)) (by nofun) o l h
end MM
namespace My
open PySem MM
def jZ: CS :=
  (aM (dU (c2 aU (c2 aU (c2 aU (ai 0) (ai 1)) (ai 2)) (aR (.int 0))))
  aS)
@[irreducible] def jl:List D->M D:=cm 3 jZ
def ym: CS :=
  (aM (dU (c2 aU (c2 aU (c2 aU (ai 0) (ai 1)) (ai 2)) (aR (.int 1))))
  aS)
@[irreducible] def jI:List D->M D:=cm 3 ym
def j9: CS :=
  (aM (bD (aP 1) (dk (eZ (az (cV bh) bh))))
  (aM (iu (g_ (c2 aU (ai 0) (aR (.int 1)))) (aP 2)
   (aM (bD (aP 3) (dk (eZ bh)))
   (aM (iu (g_ (ai 1)) (aP 4)
    (aM (gL (cL (ai 3) (c2 fm (ai 4) (cV (az (aR (.int 0)) bh)))))
    (aM (gL (cL (ai 3) (c2 fm (ai 4) (cV (az (aR (.int 1)) bh)))))
    aS)))
   (aM (bD (aP 1) (ai 3))
   aS))))
  (aM (dU (ai 1))
  aS)))
@[irreducible] def jw:List D->M D:=cm 5 j9
def yp: CS :=
  (aM (bD (aP 2) (iq kT (dm 2 [] (tz (c2 aU (ai 0) (aR (.int 1))) (ai 1)) (fF 2 (ce (aP 0) (ce (aP 1) gk))) bT (c2 aU (c2 aU (ai 0) (aR (.int 0))) (ai 1)))))
  (aM (dU (cV (az (ai 2) (az (iq kT (dm 2 [] (g_ (c2 aU (ai 0) (aR (.int 0)))) (fF 2 (ce (aP 0) (ce (aP 1) gk))) bT (ai 1))) bh))))
  aS))
@[irreducible] def jJ:List D->M D:=cm 3 yp
def yi: CS :=
  (aM (dU (c2 aU (c2 aU (c2 aU (c2 aU (ai 0) (aR (.int 1))) (ai 2)) (aR (.int 1))) (c2 aU (c2 aU (ai 1) (aR (.int 0))) (ai 2))))
  aS)
@[irreducible] def jg:List D->M D:=cm 3 yi
def yf: CS :=
  (aM (dU (c2 fm (c2 fm (nz (ai 0) tq (pD (ai 1))) (cV (az (ai 2) bh))) (nz (ai 0) (pD (c2 fm (ai 1) (aR (.int 1)))) tq)))
  aS)
@[irreducible] def jh:List D->M D:=cm 3 yf
def jU: CS :=
  (aM (dU (wY (cA (c2 lR (c2 aU (ai 0) (aR (.int 0))) (aR (.str "settle")))) (c2 aU (ai 0) (aR (.int 1))) (aR .non)))
  aS)
@[irreducible] def ji:List D->M D:=cm 1 jU
def ye: CS :=
  (aM (bD (aP 2) (dk (eZ bh)))
  (aM (bD (aP 3) (c2 aU (ai 0) (ai 1)))
  (aM (iJ (cA (c2 nQ (ai 3) (aR .non)))
   (aM (gL (cL (ai 2) (c2 aU (ai 3) (aR (.int 1)))))
   (aM (bD (aP 3) (c2 aU (ai 0) (c2 aU (ai 3) (aR (.int 0)))))
   aS)))
  (aM (dU (c1 qL (ai 2)))
  aS))))
@[irreducible] def jG:List D->M D:=cm 4 ye
def jW: CS :=
  (aM (bD (fR (ai 2) (ai 1)) (aR (.bl true)))
  (aM (bD (aP 4) (dk (eZ (az (ai 1) bh))))
  (aM (bD (aP 5) (dk (eZ (az (aR (.int 0)) bh))))
  (aM (iJ (cA (c2 vL (c1 gR (ai 4)) (aR (.int 0))))
   (aM (bD (aP 6) (c2 aU (ai 4) (c1 tw (aR (.int 1)))))
   (aM (lD (cA (c2 lR (c2 aU (ai 5) (c1 tw (aR (.int 1)))) (c1 gR (c2 aU (ai 0) (ai 6)))))
    (aM (gL (cL (ai 3) (ai 6)))
    (aM (gL (tH (ai 4)))
    (aM (gL (tH (ai 5)))
    aS)))
    (aM (bD (aP 7) (c2 aU (c2 aU (c2 aU (ai 0) (ai 6)) (c2 aU (ai 5) (c1 tw (aR (.int 1))))) (aR (.int 1))))
    (aM (tF (ai 5) (c1 tw (aR (.int 1))) (aR (.int 1)))
    (aM (lD (pz (pW (c2 aU (ai 2) (ai 7))))
     (aM (bD (fR (ai 2) (ai 7)) (aR (.bl true)))
     (aM (gL (cL (ai 4) (ai 7)))
     (aM (gL (cL (ai 5) (aR (.int 0))))
     aS)))
     aS)
    aS))))
   aS)))
  aS))))
@[irreducible] def jn:List D->M D:=cm 8 jW
def yo: CS :=
  (aM (bD (aP 1) (dk (dm 1 [] (g_ (ai 0)) (aP 0) bT (dk (eZ bh)))))
  (aM (iu (o_ (ai 0)) (fF 2 (ce (aP 2) (ce (aP 3) gk)))
   (aM (iu (g_ (ai 3)) (fF 2 (ce (aP 4) (ce (aP 5) gk)))
    (aM (gL (cL (c2 aU (ai 1) (ai 5)) (ai 2)))
    aS))
   aS))
  (aM (dU (ai 1))
  aS)))
@[irreducible] def jN:List D->M D:=cm 6 yo
def j6: CS :=
  (aM (lD (cA (c2 nQ (c2 aU (ai 2) (ai 1)) (aR .non)))
   (aM (dU (aR .non))
   aS)
   aS)
  (aM (bD (fR (ai 2) (ai 1)) (ai 3))
  (aM (bD (aP 4) (dk (eZ (az (ai 1) bh))))
  (aM (iJ (cA (c2 vL (c1 gR (ai 4)) (aR (.int 0))))
   (aM (bD (aP 5) (tH (ai 4)))
   (aM (iu (g_ (c2 aU (ai 0) (ai 5))) (aP 6)
    (aM (lD (cA (c2 va (c2 aU (ai 2) (ai 6)) (aR .non)))
     (aM (bD (fR (ai 2) (ai 6)) (ai 3))
     (aM (gL (cL (ai 4) (ai 6)))
     aS))
     aS)
    aS))
   aS)))
  aS))))
@[irreducible] def jy:List D->M D:=cm 7 j6
def yj: CS :=
  (aM (bD (aP 2) (c2 fm (c2 rj (aR (.int 7919)) (ai 1)) (aR (.int 104729))))
  (aM (bD (aP 3) (dk (eZ bh)))
  (aM (iu (wW (qB (ai 0) (pD (ai 1)) (pD (aR (.int 63))))) (aP 4)
   (aM (bD (aP 2) (c2 oC (c2 fm (c2 fm (c2 rj (ai 2) (aR (.int 48271))) (c2 oC (ai 4) (aR (.int 2147483629)))) (aR (.int 1))) (aR (.int 2147483647))))
   (aM (lD (cA (c2 F9 (ai 4) (c2 wE (aR (.int 10)) (aR (.int 18)))))
    (aM (gL (cL (ai 3) (ai 4)))
    aS)
    aS)
   aS)))
  (aM (dU (dk (eZ (az (ai 2) (az (aR (.int 0)) (az (dk (tM (ai 3))) bh))))))
  aS))))
@[irreducible] def jM:List D->M D:=cm 5 yj
def yg: CS :=
  (aM (iJ (oG (cA (c2 lR (c2 aU (ai 0) (aR (.int 1))) (aR (.int 0)))) (cA (c2 vL (c1 gR (c2 aU (ai 0) (aR (.int 2)))) (aR (.int 0)))))
   (aM (bD (fR (ai 0) (aR (.int 1))) (tH (c2 aU (ai 0) (aR (.int 2)))))
   aS))
  (aM (lD (cA (c2 vL (c2 aU (ai 0) (aR (.int 1))) (aR (.int 0))))
   (aM (bD (aP 2) (c2 oC (c2 aU (ai 0) (aR (.int 1))) (ai 1)))
   (aM (bD (fR (ai 0) (aR (.int 1))) (c2 r8 (c2 aU (ai 0) (aR (.int 1))) (ai 1)))
   (aM (dU (ai 2))
   aS)))
   aS)
  (aM (bD (aP 3) (c2 oC (c2 fm (c2 rj (c2 aU (ai 0) (aR (.int 0))) (aR (.int 48271))) (aR (.int 7919))) (aR (.int 2147483647))))
  (aM (bD (fR (ai 0) (aR (.int 0))) (c2 fm (c2 oC (c2 fm (c2 rj (ai 3) (aR (.int 40692))) (aR (.int 12345))) (aR (.int 2147483399))) (aR (.int 1))))
  (aM (dU (c2 oC (c2 r8 (c2 fm (c2 rj (c2 oC (c2 rj (ai 3) (ai 3)) (aR (.int 2147483629))) (aR (.int 31))) (c2 aU (ai 0) (aR (.int 0)))) (aR (.int 64))) (ai 1)))
  aS)))))
@[irreducible] def ja:List D->M D:=cm 4 yg
def j7: CS :=
  (aM (bD (aP 2) (bN ja (az (ai 0) (az (aR (.int 6)) bh))))
  (aM (bD (aP 3) (c2 fm (aR (.int 1)) (bN ja (az (ai 0) (az (ai 1) bh)))))
  (aM (lD (cA (c2 lR (ai 2) (aR (.int 0))))
   (aM (bD (aP 3) (c2 u8 (ai 3) (aR (.int 3))))
   (aM (dU (iq kT (dm 1 [3] (MM.gp (ai 3)) (aP 0) bT (c2 fm (cV (az (cV (az (ai 0) (az (ai 0) bh))) bh)) (iq kT (dm 1 [] (MM.gp (ai 1)) (aP 0) bT (cV (az (ai 0) (az (aR (.int 0)) bh)))))))))
   aS))
   aS)
  (aM (lD (cA (c2 lR (ai 2) (aR (.int 1))))
   (aM (dU (iq kT (dm 1 [3] (MM.gp (ai 3)) (aP 0) bT (iq kT (dm 1 [0] (MM.gp (ai 1)) (aP 0) bT (cV (az (ai 0) (az (ai 1) bh))))))))
   aS)
   aS)
  (aM (lD (cA (c2 lR (ai 2) (aR (.int 2))))
   (aM (dU (iq kT (dm 1 [3] (MM.gp (ai 3)) (aP 0) bT (cV (az (cV (az (c2 oC (c2 fm (ai 0) (aR (.int 1))) (ai 1)) (az (ai 0) bh))) bh)))))
   aS)
   aS)
  (aM (lD (oG (cA (c2 lR (ai 2) (aR (.int 3)))) (cA (c2 vL (ai 3) (aR (.int 1)))))
   (aM (bD (aP 4) (dk (dm 1 [3] (MM.ng (aR (.int 1)) (ai 3)) (aP 0) bT (iq kT (dm 1 [0] (MM.ng (aR (.int 1)) (ai 1)) (aP 0) bT (cV (az (ai 1) (az (ai 1) bh))))))))
   (aM (dU (c2 fm (cV (az (iq kT (dm 1 [] (MM.ng (aR (.int 1)) (ai 3)) (aP 0) bT (cV (az (ai 0) (az (ai 0) bh))))) bh)) (c1 tupleD (ai 4))))
   aS))
   aS)
  (aM (bD (aP 5) (c2 fm (aR (.int 1)) (bN ja (az (ai 0) (az (aR (.int 4)) bh)))))
  (aM (dU (iq kT (dm 1 [0,3,5] (MM.gp (ai 3)) (aP 0) bT (iq kT (dm 1 [1,2] (MM.gp (ai 3)) (aP 0) bT (cV (az (bN ja (az (ai 1) (az (ai 2) bh))) (az (bN ja (az (ai 1) (az (aR (.int 4)) bh))) bh))))))))
  aS))))))))
@[irreducible] def jz:List D->M D:=cm 6 j7
def yd: CS :=
  (aM (lD (qH (cA (c2 lR (c1 gR (ai 1)) (aR (.int 0)))) (qH (oG (pW (ai 4)) (cA (c2 lR (ai 3) (c2 sA (ai 2) (aR (.int 1)))))) (cA (c2 lR (bN ja (az (ai 0) (az (aR (.int 5)) bh))) (aR (.int 0))))))
   (aM (dU (cV (az (aR (.str "settle")) (az (bN ja (az (ai 0) (az (aR (.int 2)) bh))) bh))))
   aS)
   aS)
  (aM (bD (aP 5) (bN ja (az (ai 0) (az (c1 gR (ai 1)) bh))))
  (aM (bD (aP 6) (c2 aU (c2 aU (ai 1) (ai 5)) (aR (.int 0))))
  (aM (bD (aP 7) (bN ja (az (ai 0) (az (c1 gR (c2 aU (ai 6) (aR (.int 0)))) bh))))
  (aM (bD (aP 8) (dk (eZ bh)))
  (aM (iu (MM.gp (c2 fm (aR (.int 1)) (iq tE (dm 1 [7] (g_ (ai 6)) (aP 0) bT (c2 aU (c2 aU (ai 0) (ai 1)) (aR (.int 1))))))) (aP 9)
   (aM (lD (pW (ai 4))
    (aM (gL (cL (ai 8) (c2 fm (c2 fm (ai 3) (aR (.int 1))) (bN ja (az (ai 0) (az (c2 sA (c2 sA (ai 2) (ai 3)) (aR (.int 1))) bh))))))
    aS)
    (aM (gL (cL (ai 8) (bN ja (az (ai 0) (az (ai 2) bh)))))
    aS))
   aS))
  (aM (dU (cV (az (aR (.str "do")) (az (ai 5) (az (ai 7) (az (c1 tupleD (ai 8)) bh))))))
  aS)))))))
@[irreducible] def jv:List D->M D:=cm 10 yd
def j2: CS :=
  (aM (bD (aP 1) (dk (eZ bh)))
  (aM (bD (aP 2) (mJ (eZ (az (aR (.int 0)) (az (aR (.int 1)) (az (aR (.int 1)) (az (aR (.int 2)) (az (aR (.int 2)) (az (aR (.int 3)) (az (aR (.int 1)) (az (aR (.int 4)) bh))))))))) (bN ja (az (ai 0) (az (aR (.int 8)) bh)))))
  (aM (iu (MM.gp (ai 2)) (aP 3)
   (aM (bD (aP 4) (bN jz (az (ai 0) (az (mJ (eZ (az (aR (.int 4)) (az (aR (.int 4)) (az (aR (.int 3)) (az (aR (.int 2)) (az (aR (.int 2)) bh)))))) (ai 2)) bh))))
   (aM (gL (cL (ai 1) (cV (az (ai 4) (az (bN ja (az (ai 0) (az (c1 gR (ai 4)) bh))) bh)))))
   aS)))
  (aM (bD (aP 5) (dk (eZ bh)))
  (aM (bD (aP 6) (c2 fm (aR (.int 2)) (c1 intD (c2 lR (bN ja (az (ai 0) (az (aR (.int 3)) bh))) (aR (.int 0))))))
  (aM (bD (aP 7) (c2 aU (mJ (eZ (az (dk (eZ (az (aR (.int 8)) (az (aR (.int 8)) (az (aR (.int 6)) (az (aR (.int 6)) (az (aR (.int 4)) bh))))))) (az (dk (eZ (az (aR (.int 4)) (az (aR (.int 4)) (az (aR (.int 3)) (az (aR (.int 3)) (az (aR (.int 2)) bh))))))) bh))) (c2 sA (ai 6) (aR (.int 2)))) (ai 2)))
  (aM (bD (aP 8) (bN ja (az (ai 0) (az (aR (.int 4)) bh))))
  (aM (iu (MM.gp (ai 6)) (aP 3)
   (aM (bD (aP 9) (c2 fm (aR (.int 1)) (bN ja (az (ai 0) (az (ai 7) bh)))))
   (aM (bD (aP 10) (CK (c2 zk (ai 8) (aR (.int 2))) (tY (c2 lR (ai 8) (aR (.int 2))) (c2 vL (ai 3) (aR (.int 0))))))
   (aM (bD (aP 11) (iq kT (dm 1 [0,1,9,10] (MM.gp (ai 9)) (aP 0) bT (bN jv (az (ai 1) (az (ai 2) (az (ai 3) (az (ai 0) (az (ai 4) bh)))))))))
   (aM (bD (aP 12) (cV (az (aR (.int 0)) (az (bN ja (az (ai 0) (az (ai 9) bh))) bh))))
   (aM (lD (cA (c2 lR (bN ja (az (ai 0) (az (aR (.int 2)) bh))) (aR (.int 1))))
    (aM (bD (aP 12) (cV (az (bN ja (az (ai 0) (az (ai 9) bh))) (az (bN ja (az (ai 0) (az (ai 9) bh))) bh))))
    aS)
    aS)
   (aM (gL (cL (ai 5) (cV (az (ai 12) (az (ai 11) bh)))))
   aS)))))))
  (aM (lD (cA (c2 lR (bN ja (az (ai 0) (az (aR (.int 4)) bh))) (aR (.int 0))))
   (aM (bD (fR (ai 5) (c1 tw (aR (.int 1)))) (c2 aU (ai 5) (aR (.int 0))))
   aS)
   aS)
  (aM (dU (cV (az (c1 tupleD (ai 1)) (az (c1 tupleD (ai 5)) bh))))
  aS))))))))))
@[irreducible] def jA:List D->M D:=cm 13 j2
def jX: CS :=
  (aM (bD (aP 1) (dk (eZ (az (cV bh) bh))))
  (aM (iu (g_ (c2 aU (ai 0) (aR (.int 1)))) (aP 2)
   (aM (bD (aP 1) (c2 fm (dk (dm 1 [] (g_ (ai 1)) (aP 0) bT (c2 fm (ai 0) (cV (az (aR (.int 0)) bh))))) (dk (dm 1 [] (g_ (ai 1)) (aP 0) bT (c2 fm (ai 0) (cV (az (aR (.int 1)) bh)))))))
   aS))
  (aM (dU (c1 oK (ai 1)))
  aS)))
@[irreducible] def js:List D->M D:=cm 3 jX
def j3: CS :=
  (aM (bD (aP 2) (dk (dm 1 [0,1] (MM.gp (c1 gR (ai 1))) (aP 0) bT (c2 aU (c2 aU (c2 aU (c2 aU (ai 1) (aR (.int 1))) (ai 0)) (aR (.int 0))) (c2 aU (ai 2) (ai 0))))))
  (aM (dU (cV (az (c1 tupleD (ai 2)) (az (iq kT (dm 1 [] (g_ (c2 aU (ai 0) (aR (.int 0)))) (aP 0) bT (c2 aU (ai 0) (aR (.int 1))))) bh))))
  aS))
@[irreducible] def jB:List D->M D:=cm 3 j3
def yn: CS :=
  (aM (dU (c2 aU (c2 aU (c2 aU (c2 aU (ai 0) (aR (.int 1))) (ai 2)) (aR (.int 1))) (c2 aU (c2 aU (ai 1) (aR (.int 0))) (ai 2))))
  aS)
@[irreducible] def jt:List D->M D:=cm 3 yn
def jO: CS :=
  (aM (bD (aP 3) (bN jt (az (ai 0) (az (ai 1) (az (ai 2) bh)))))
  (aM (lD (cA (c2 lR (c2 aU (ai 3) (aR (.int 0))) (aR (.str "settle"))))
   (aM (dU (ai 1))
   aS)
   aS)
  (aM (bD (aP 4) (c1 t6 (c2 aU (ai 1) (aR (.int 0)))))
  (aM (bD (aP 5) (c1 t6 (c2 aU (ai 1) (aR (.int 1)))))
  (aM (bD (aP 6) (c2 aU (ai 3) (aR (.int 1))))
  (aM (bD (fF 2 (ce (aP 7) (ce (aP 8) gk))) (c2 aU (c2 aU (c2 aU (c2 aU (c2 aU (ai 0) (aR (.int 0))) (ai 6)) (aR (.int 0))) (c2 aU (ai 5) (ai 6))) (c2 aU (ai 3) (aR (.int 2)))))
  (aM (bD (fR (ai 4) (ai 2)) (c2 aU (c2 aU (ai 3) (aR (.int 3))) (ai 8)))
  (aM (bD (fR (ai 5) (ai 6)) (ai 7))
  (aM (dU (cV (az (c1 tupleD (ai 4)) (az (c1 tupleD (ai 5)) bh))))
  aS)))))))))
@[irreducible] def jf:List D->M D:=cm 9 jO
def yb: CS :=
  (aM (bD (aP 2) (dk (eZ bh)))
  (aM (iu (MM.gp (c1 gR (c2 aU (ai 0) (aR (.int 1))))) (aP 3)
   (aM (lD (cA (c2 lR (c2 aU (bN jt (az (ai 0) (az (ai 1) (az (ai 3) bh)))) (aR (.int 0))) (aR (.str "do"))))
    (aM (gL (cL (ai 2) (ai 3)))
    aS)
    aS)
   aS))
  (aM (dU (ai 2))
  aS)))
@[irreducible] def ju:List D->M D:=cm 4 yb
def j1: CS :=
  (aM (bD (aP 1) (dk (eZ bh)))
  (aM (bD (aP 2) (nR true))
  (aM (iu (g_ (bN js (az (ai 0) bh))) (aP 3)
   (aM (bD (aP 4) (bN jB (az (ai 0) (az (ai 3) bh))))
   (aM (lD (cA (c2 mX (ai 4) (ai 2)))
    (aM (bD (fR (ai 2) (ai 4)) (aR (.bl true)))
    (aM (gL (cL (ai 1) (ai 4)))
    aS))
    aS)
   aS)))
  (aM (bD (aP 5) (aR (.int 0)))
  (aM (iJ (cA (c2 zk (ai 5) (c1 gR (ai 1))))
   (aM (iu (g_ (bN ju (az (ai 0) (az (c2 aU (ai 1) (ai 5)) bh)))) (aP 6)
    (aM (bD (aP 4) (bN jf (az (ai 0) (az (c2 aU (ai 1) (ai 5)) (az (ai 6) bh)))))
    (aM (lD (cA (c2 mX (ai 4) (ai 2)))
     (aM (bD (fR (ai 2) (ai 4)) (aR (.bl true)))
     (aM (gL (cL (ai 1) (ai 4)))
     aS))
     aS)
    aS)))
   (aM (bD (aP 5) (c2 fm (ai 5) (aR (.int 1))))
   aS)))
  (aM (dU (ai 1))
  aS))))))
@[irreducible] def jq:List D->M D:=cm 7 j1
def j5: CS :=
  (aM (bD (aP 2) (nR true))
  (aM (iu (g_ (ai 1)) (aP 3)
   (aM (bD (fR (ai 2) (ai 3)) (dk (dm 1 [0,3] (g_ (bN ju (az (ai 0) (az (ai 3) bh)))) (aP 0) bT (cV (az (ai 0) (az (bN jf (az (ai 1) (az (ai 2) (az (ai 0) bh)))) bh))))))
   aS))
  (aM (dU (ai 2))
  aS)))
@[irreducible] def jC:List D->M D:=cm 4 j5
def jQ: CS :=
  (aM (bD (aP 1) (iq kI (dm 1 [] (tU (ai 0)) (aP 0) bT (cV (az (ai 0) (az (dk (eZ bh)) bh))))))
  (aM (bD (aP 2) (nR true))
  (aM (iu (o8 (ai 0)) (fF 2 (ce (aP 3) (ce (aP 4) gk)))
   (aM (bD (fR (ai 2) (ai 3)) (c1 gR (ai 4)))
   (aM (iu (g_ (ai 4)) (fF 2 (ce (aP 5) (ce (aP 6) gk)))
    (aM (gL (cL (c2 aU (ai 1) (ai 6)) (ai 3)))
    aS))
   aS)))
  (aM (bD (aP 7) (dk (dm 1 [2] (tU (ai 0)) (aP 0) (cA (c2 lR (c2 aU (ai 1) (ai 0)) (aR (.int 0)))) (ai 0))))
  (aM (bD (aP 8) (aR (.int 0)))
  (aM (iJ (cA (c2 zk (ai 8) (c1 gR (ai 7))))
   (aM (iu (g_ (c2 aU (ai 1) (c2 aU (ai 7) (ai 8)))) (aP 3)
    (aM (bD (fR (ai 2) (ai 3)) (c2 sA (c2 aU (ai 2) (ai 3)) (aR (.int 1))))
    (aM (lD (cA (c2 lR (c2 aU (ai 2) (ai 3)) (aR (.int 0))))
     (aM (gL (cL (ai 7) (ai 3)))
     aS)
     aS)
    aS)))
   (aM (bD (aP 8) (c2 fm (ai 8) (aR (.int 1))))
   aS)))
  (aM (dU (ai 7))
  aS)))))))
@[irreducible] def je:List D->M D:=cm 9 jQ
def j4: CS :=
  (aM (dU (tY (c1 (hV ["int"]) (ai 0)) (wJ (c1 (hV ["bool"]) (ai 0)))))
  aS)
@[irreducible] def jc:List D->M D:=cm 1 j4
def jH: CS :=
  (aM (bD (aP 2) (qy (ai 1) (cV bh)))
  (aM (bD (aP 3) (dk (eZ (az (ai 1) bh))))
  (aM (iJ (cA (c2 vL (c1 gR (ai 3)) (aR (.int 0))))
   (aM (bD (aP 4) (nR true))
   (aM (bD (aP 5) (dk (eZ bh)))
   (aM (iu (g_ (ai 3)) (aP 6)
    (aM (iu (g_ (c2 aU (ai 0) (ai 6))) (fF 2 (ce (aP 7) (ce (aP 8) gk)))
     (aM (bD (aP 9) (c2 fm (c2 aU (ai 2) (ai 6)) (cV (az (ai 7) bh))))
     (aM (lD (cA (c2 lR (ai 8) (ai 1)))
      (aM (gL (cL (ai 5) (ai 9)))
      aS)
      (aM (lD (cA (c2 mX (ai 8) (ai 2)))
       (aM (bD (fR (ai 4) (ai 8)) (c2 oE (uv (ai 4) (ai 8) (ai 9)) (ai 9)))
       aS)
       aS)
      aS))
     aS)))
    aS))
   (aM (lD (cA (c2 vL (c1 gR (ai 5)) (aR (.int 0))))
    (aM (dU (c1 t7 (ai 5)))
    aS)
    aS)
   (aM (iu (tU (ai 4)) (aP 6)
    (aM (bD (fR (ai 2) (ai 6)) (c2 aU (ai 4) (ai 6)))
    aS))
   (aM (bD (aP 3) (c1 nj (ai 4)))
   aS)))))))
  (aM (dU (aR .non))
  aS))))
@[irreducible] def jb:List D->M D:=cm 10 jH
def jK: CS :=
  (aM (bD (aP 1) (iq kI (dm 1 [] (tU (ai 0)) (aP 0) bT (cV (az (ai 0) (az (dk (eZ bh)) bh))))))
  (aM (iu (o8 (ai 0)) (fF 2 (ce (aP 2) (ce (aP 3) gk)))
   (aM (iu (g_ (ai 3)) (fF 2 (ce (aP 4) (ce (aP 5) gk)))
    (aM (gL (cL (c2 aU (ai 1) (ai 5)) (cV (az (ai 4) (az (ai 2) bh)))))
    aS))
   aS))
  (aM (dU (ai 1))
  aS)))
@[irreducible] def jd:List D->M D:=cm 6 jK
def yk: CS :=
  (aM (bD (aP 1) (bN jq (az (ai 0) bh)))
  (aM (bD (aP 2) (bN jC (az (ai 0) (az (ai 1) bh))))
  (aM (bD (aP 3) (iq kI (dm 1 [] (g_ (c2 fm (bN je (az (ai 2) bh)) (bN je (az (bN jd (az (ai 2) bh)) bh)))) (aP 0) bT (cV (az (ai 0) (az (aR (.bl true)) bh))))))
  (aM (iu (g_ (ai 1)) (aP 4)
   (aM (lD (cA (c2 mX (ai 4) (ai 3)))
    (aM (bD (aP 5) (bN jb (az (ai 2) (az (ai 4) bh))))
    (aM (lD (cA (c2 nQ (ai 5) (aR .non)))
     (aM (dU (cV (az (ai 4) (az (ai 5) bh))))
     aS)
     aS)
    aS))
    aS)
   aS))
  (aM (dU (aR .non))
  aS)))))
@[irreducible] def jL:List D->M D:=cm 6 yk
def ya: CS :=
  (aM (bD (aP 3) (bN jg (az (ai 0) (az (ai 1) (az (ai 2) bh)))))
  (aM (lD (cA (c2 lR (c2 aU (ai 3) (aR (.int 0))) (aR (.str "settle"))))
   (aM (dU (ai 1))
   aS)
   aS)
  (aM (bD (aP 4) (c2 aU (ai 3) (aR (.int 1))))
  (aM (bD (aP 5) (c2 aU (ai 3) (aR (.int 2))))
  (aM (bD (aP 6) (c2 aU (c2 aU (c2 aU (ai 0) (aR (.int 0))) (ai 4)) (aR (.int 0))))
  (aM (bD (aP 7) (c2 aU (c2 aU (ai 1) (aR (.int 1))) (ai 4)))
  (aM (bD (aP 8) (c2 aU (c2 aU (ai 3) (aR (.int 3))) (bN jI (az (ai 6) (az (ai 7) (az (ai 5) bh))))))
  (aM (dU (cV (az (bN jh (az (c2 aU (ai 1) (aR (.int 0))) (az (ai 2) (az (ai 8) bh)))) (az (bN jh (az (c2 aU (ai 1) (aR (.int 1))) (az (ai 4) (az (bN jl (az (ai 6) (az (ai 7) (az (ai 5) bh)))) bh)))) bh))))
  aS))))))))
@[irreducible] def jD:List D->M D:=cm 9 ya
def yl: CS :=
  (aM (dU (iq kT (dm 1 [0,1] (MM.gp (c1 gR (c2 aU (ai 0) (aR (.int 1))))) (aP 0) bT (bN ji (az (bN jg (az (ai 1) (az (ai 2) (az (ai 0) bh)))) bh)))))
  aS)
@[irreducible] def jE:List D->M D:=cm 2 yl
def yq: CS :=
  (aM (dU (dk (dm 2 [] (tP (bN jE (az (ai 0) (az (ai 1) bh)))) (fF 2 (ce (aP 0) (ce (aP 1) gk))) (cA (c2 va (ai 1) (aR .non))) (ai 0))))
  aS)
@[irreducible] def jS:List D->M D:=cm 2 yq
def jY: CS :=
  (aM (bD (aP 4) (dk (eZ bh)))
  (aM (iu (g_ (bN jS (az (ai 0) (az (ai 1) bh)))) (aP 5)
   (aM (bD (aP 6) (bN jD (az (ai 0) (az (ai 1) (az (ai 5) bh)))))
   (aM (lD (cA (c2 mX (ai 6) (ai 3)))
    (aM (bD (fR (ai 3) (ai 6)) (c1 gR (ai 2)))
    (aM (gL (cL (ai 2) (ai 6)))
    aS))
    aS)
   (aM (gL (cL (ai 4) (cV (az (ai 5) (az (c2 aU (ai 3) (ai 6)) bh)))))
   aS))))
  (aM (dU (ai 4))
  aS)))
@[irreducible] def jr:List D->M D:=cm 7 jY
def jP: CS :=
  (aM (bD (aP 3) (qE (ai 1) (aR .non)))
  (aM (bD (aP 4) (dk (eZ (az (ai 1) bh))))
  (aM (bD (aP 5) (aR (.int 0)))
  (aM (iJ (cA (c2 zk (ai 5) (c1 gR (ai 4))))
   (aM (bD (aP 6) (c2 aU (ai 4) (ai 5)))
   (aM (iu (g_ (c2 aU (ai 0) (ai 6))) (fF 2 (ce (aP 7) (ce (aP 8) gk)))
    (aM (lD (pW (c2 aU (ai 2) (ai 8)))
     (aM (dU (c2 fm (bN jG (az (ai 3) (az (ai 6) bh))) (cV (az (ai 7) bh))))
     aS)
     aS)
    (aM (lD (cA (c2 mX (ai 8) (ai 3)))
     (aM (bD (fR (ai 3) (ai 8)) (cV (az (ai 6) (az (ai 7) bh))))
     (aM (gL (cL (ai 4) (ai 8)))
     aS))
     aS)
    aS)))
   (aM (bD (aP 5) (c2 uD (ai 5) (aR (.int 1))))
   aS))))
  (aM (dU (aR .non))
  aS)))))
@[irreducible] def jk:List D->M D:=cm 9 jP
def jR: CS :=
  (aM (bD (aP 1) (dk (eZ bh)))
  (aM (bD (aP 2) (dk (dm 1 [] (g_ (ai 0)) (aP 0) bT (aR (.bl false)))))
  (aM (iu (MM.gp (c1 gR (ai 0))) (aP 3)
   (aM (lD (pz (pW (c2 aU (ai 2) (ai 3))))
    (aM (gL (bN jn (az (ai 0) (az (ai 3) (az (ai 2) (az (ai 1) bh))))))
    aS)
    aS)
   aS))
  (aM (dU (ai 1))
  aS))))
@[irreducible] def jj:List D->M D:=cm 4 jR
def j8: CS :=
  (aM (bD (aP 1) (bN jN (az (ai 0) bh)))
  (aM (bD (aP 2) (dk (dm 1 [] (g_ (ai 0)) (aP 0) bT (aR .non))))
  (aM (iu (ww (bN jj (az (ai 0) bh))) (aP 3)
   (aM (gL (bN jy (az (ai 1) (az (ai 3) (az (ai 2) (az (ai 3) bh))))))
   aS))
  (aM (dU (dk (dm 2 [2] (o_ (ai 0)) (fF 2 (ce (aP 0) (ce (aP 1) gk))) bT (iq vv (dm 2 [0,2] (g_ (ai 1)) (fF 2 (ce (aP 0) (ce (aP 1) gk))) bT (c2 lR (c2 aU (ai 3) (ai 1)) (c2 aU (ai 3) (ai 2))))))))
  aS))))
@[irreducible] def jx:List D->M D:=cm 4 j8
def jV: CS :=
  (aM (bD (aP 1) (bN jx (az (ai 0) bh)))
  (aM (lD (cA (c2 mX (aR (.bl true)) (ai 1)))
   (aM (dU (aR .non))
   aS)
   aS)
  (aM (bD (aP 2) (nC (ai 1) (aR (.bl true))))
  (aM (dU (cV (az (ai 2) (az (bN jk (az (ai 0) (az (ai 2) (az (dk (dm 1 [2] (MM.gp (c1 gR (ai 0))) (aP 0) bT (c2 lR (ai 0) (ai 1)))) bh)))) bh))))
  aS))))
@[irreducible] def jo:List D->M D:=cm 3 jV
def j0: CS :=
  (aM (bD (aP 3) (nR true))
  (aM (iu (g_ (ai 1)) (aP 4)
   (aM (gL (oO (ai 3) (ai 4) (c1 gR (ai 3))))
   aS))
  (aM (bD (aP 5) (c1 nj (ai 3)))
  (aM (bD (aP 6) (dk (eZ bh)))
  (aM (iJ (cA (c2 zk (c1 gR (ai 6)) (c1 gR (ai 5))))
   (aM (lD (oG (cA (c2 nQ (ai 2) (aR .non))) (cA (c2 vL (c1 gR (ai 5)) (ai 2))))
    (aM Br
    aS)
    aS)
   (aM (gL (cL (ai 6) (bN jr (az (ai 0) (az (c2 aU (ai 5) (c1 gR (ai 6))) (az (ai 5) (az (ai 3) bh)))))))
   aS)))
  (aM (dU (cV (az (ai 5) (az (ai 6) bh))))
  aS))))))
@[irreducible] def jp:List D->M D:=cm 7 j0
def yc: CS :=
  (aM (bD (aP 2) (dk (dm 1 [0] (g_ (bN jw (az (ai 0) bh))) (aP 0) bT (bN jJ (az (ai 1) (az (ai 0) bh))))))
  (aM (dU (bN jp (az (ai 0) (az (ai 2) (az (ai 1) bh)))))
  aS))
@[irreducible] def jF:List D->M D:=cm 3 yc
def yh: CS :=
  (aM (bD (aP 2) (bN jF (az (ai 0) (az (ai 1) bh))))
  (aM (bD (aP 3) (bN jo (az (c2 aU (ai 2) (aR (.int 1))) bh)))
  (aM (lD (cA (c2 va (ai 3) (aR .non)))
   (aM (dU (aR .non))
   aS)
   aS)
  (aM (dU (cV (az (c2 aU (c2 aU (ai 2) (aR (.int 0))) (c2 aU (ai 3) (aR (.int 0)))) (az (c2 aU (ai 3) (aR (.int 1))) bh))))
  aS))))
@[irreducible] def jm:List D->M D:=cm 4 yh
def yr: CS :=
  (aM (bD (aP 1) (bN jA (az (bN jM (az (ai 0) (az (aR (.int 0)) bh))) bh)))
  (aM (bD (aP 2) (bN jL (az (ai 1) bh)))
  (aM (bD (aP 3) (qI jm (az (ai 1) bh) (.int 500)))
  (aM (lD (cA (c2 va (ai 2) (aR .non)))
   (aM (dU (tY (c2 va (ai 3) (aR .non)) (c2 va (bN jm (az (ai 1) (az (aR (.int 1000)) bh))) (aR .non))))
   aS)
   aS)
  (aM (lD (qH (pz (pW (c1 (hV ["tuple"]) (ai 3)))) (qH (cA (c2 Ad (c1 gR (ai 3)) (aR (.int 2)))) (qH (cA (c2 Ad (ai 3) (ai 2))) (pz (pW (c1 (hV ["tuple"]) (c2 aU (ai 3) (aR (.int 1)))))))))
   (aM (dU (aR (.bl false)))
   aS)
   aS)
  (aM (lD (cA (pb zX (aR (.bl false)) (dm 1 [] (g_ (c2 aU (ai 3) (aR (.int 1)))) (aP 0) bT (bN jc (az (ai 0) bh)))))
   (aM (dU (aR (.bl false)))
   aS)
   aS)
  (aM (dU (c2 lR (bN jm (az (ai 1) (az (aR (.int 1000)) bh))) (ai 2)))
  aS)))))))
@[irreducible] def jT:List D->M D:=cm 4 yr
open PySem.Spec PyProof.Rows L2
noncomputable def top(i:Nat):gM:=iW.main.body.getD i (.Pass ⟨0,0,0,0⟩)
set_option genInjectivity false in
structure Txt(K:ak)(mg:Str->Option ah):Prop where
 f0:FnAt K mg "next_state" (top 4)
 f1:FnAt K mg "answer" (top 5)
 f2:FnAt K mg "inputs_of" (top 7)
 f3:FnAt K mg "begin" (top 9)
 f4:FnAt K mg "line_at" (top 10)
 f5:FnAt K mg "replaced" (top 12)
 f6:FnAt K mg "value_at" (top 14)
 f7:FnAt K mg "turns_to" (top 22)
 f8:FnAt K mg "finish_from" (top 24)
 f9:FnAt K mg "turned" (top 25)
 f10:FnAt K mg "mark_from" (top 26)
 f11:FnAt K mg "_law_pot" (top 32)
 f12:FnAt K mg "_law_draw" (top 33)
 f13:FnAt K mg "_law_table" (top 34)
 f14:FnAt K mg "_law_line" (top 35)
 f15:FnAt K mg "_law_house" (top 36)
 f16:FnAt K mg "_law_inputs" (top 37)
 f17:FnAt K mg "_law_begin" (top 38)
 f18:FnAt K mg "_law_at" (top 39)
 f19:FnAt K mg "_law_behind" (top 40)
 f20:FnAt K mg "_law_free" (top 41)
 f21:FnAt K mg "_law_stands" (top 42)
 f22:FnAt K mg "_law_nexts" (top 43)
 f23:FnAt K mg "_law_downward" (top 44)
 f24:FnAt K mg "_law_whole" (top 45)
 f25:FnAt K mg "_law_shortest_back" (top 46)
 f26:FnAt K mg "_law_turned_about" (top 47)
 f27:FnAt K mg "_law_due" (top 48)
 f28:FnAt K mg "behind" (top 11)
 f29:FnAt K mg "settled" (top 13)
 f30:FnAt K mg "free" (top 15)
 f31:FnAt K mg "steps_from" (top 19)
 f32:FnAt K mg "least_way_on" (top 21)
 f33:FnAt K mg "finish_order" (top 23)
 f34:FnAt K mg "on_rounds" (top 27)
 f35:FnAt K mg "first_round" (top 30)
 f36:FnAt K mg "graph_from" (top 18)
 f37:FnAt K mg "graph_of" (top 17)
 f38:wx K mg "round_of" (top 29)
 f39:FnAt K mg "law" (top 49)
 z:BL mg ["any","bool","dict","enumerate","int","isinstance","len","list","max","min","range","reversed","sorted","tuple","zip"]
 c:Eo K mg []
section
variable{P:Program}{w:bG}{K:ak}{mg:Str->Option ah}{base:bQ}
def LG:uE:=BZ
def MU:uE:=tX .Lt zk (λ_=>Wx)
def OZ:uE:=tX .Gt vL (λ_=>Vw)
def N2:uE:=tX .GtE F9 (λ_=>UY)
def Oo:uE:=tX .Eq lR (λh=>QP h)
def N9:uE:=tX .NotEq Ad (λh=>Uy h)
def Of:uE:=tX .Is va (λ_=>Wj)
def Np:uE:=tX .IsNot nQ (λ_=>R_)
def O7:uE:=tX .NotIn mX (λh=>Yq h)
def RR:rY:=⟨[Hx,KA,Dv,BQ,yL,MM.Ew,KL,DY,BB,Bt,AX,Ez,Ej,En,AE,zn,x_,yW,Le,JC,A3,FA,DX,yQ,xg,vD,xZ,JL,IB,yy,xW,Ep,CY .Add fm (λ_=>YY),CY .Sub sA (λ_=>Vy),CY .Mult rj (λ_=>UU),CY .FloorDiv r8 (λ_=>RX),CY .Mod oC (λ_=>PK),CY .Pow wE (λ_=>Su),LG.e,MU.e,OZ.e,N2.e,Oo.e,N9.e,Of.e,Np.e,O7.e,Js,K3,J7,JM,EZ,By],[Kd,Fv,Eb,Bf],[LG.t,MU.t,OZ.t,N2.t,Oo.t,N9.t,Of.t,Np.t,O7.t,A0,BV,U2],[zt,yO,yu,Bm,B4 true,Dz,zl,E7,DE,DH],[Ub,Du,Fj],[Ia,D8,IV,FF,EG,xX,B7,yx,D5,Bz,AQ,DM,Fp]⟩
noncomputable abbrev hh:List (Nat×Nat×Nat):=[(25,53,7),(40,11,1),(40,41,1),(52,14,2),(55,13,5),(119,22,16),(139,89,16),(151,12,20),(250,15,2),(266,17,2),(271,16,21),(271,57,6),(272,16,2),(277,45,6),(289,17,22),(292,22,2),(300,46,24),(302,19,23),(303,24,6),(305,20,5),(308,17,21),(308,58,6),(316,16,21)]
noncomputable def L8:List (Str×RF):=[]
theorem UJ(T:Txt K mg):cZ P w K mg base L8:=QW
def JN:List (Str×RF):=("next_state",⟨3,1,["table","state","deed"],false,jl⟩)::L8
theorem RG(T:Txt K mg):cZ P w K mg base JN:=by unfold JN jl;exact mQ RR (r:=[]) (H:=hh) T.f0 (by nofun) (λ_ _ _ _ _ _=>xJ λ_ _ _=>rfl) nofun (by kernel_rfl) (UJ T) T.z T.c
def Jy:List (Str×RF):=("answer",⟨3,1,["table","state","deed"],false,jI⟩)::JN
theorem SD(T:Txt K mg):cZ P w K mg base Jy:=by unfold Jy jI;exact mQ RR (r:=[]) (H:=hh) T.f1 (by nofun) (λ_ _ _ _ _ _=>xJ λ_ _ _=>rfl) nofun (by kernel_rfl) (RG T) T.z T.c
def Jz:List (Str×RF):=("inputs_of",⟨1,1,["house"],false,jw⟩)::Jy
theorem RU(T:Txt K mg):cZ P w K mg base Jz:=by unfold Jz jw;exact mQ RR (r:=["told","hand","longer","inputs"]) (H:=hh) T.f2 (by nofun) (λ_ _ _ _ _ _=>uz λ_=>rfl) nofun (by kernel_rfl) (SD T) T.z T.c
def J8:List (Str×RF):=("begin",⟨2,1,["house","inputs"],false,jJ⟩)::Jz
theorem WG(T:Txt K mg):cZ P w K mg base J8:=by unfold J8 jJ;exact mQ RR (r:=["lines"]) (H:=hh) T.f3 (by nofun) (λ_ _ _ _ _ _=>uX λ_ _=>rfl) nofun (by kernel_rfl) (RU T) T.z T.c
def KC:List (Str×RF):=("line_at",⟨3,1,["house","stand","hand"],false,jg⟩)::J8
theorem W2(T:Txt K mg):cZ P w K mg base KC:=by unfold KC jg;exact mQ RR (r:=[]) (H:=hh) T.f4 (by nofun) (λ_ _ _ _ _ _=>xJ λ_ _ _=>rfl) nofun (by kernel_rfl) (WG T) T.z T.c
def IM:List (Str×RF):=("replaced",⟨3,1,["numbers","place","number"],false,jh⟩)::KC
theorem SU(T:Txt K mg):cZ P w K mg base IM:=by unfold IM jh;exact mQ RR (r:=[]) (H:=hh) T.f5 (by nofun) (λ_ _ _ _ _ _=>xJ λ_ _ _=>rfl) nofun (by kernel_rfl) (W2 T) T.z T.c
def Jk:List (Str×RF):=("value_at",⟨1,1,["line"],false,ji⟩)::IM
theorem QL(T:Txt K mg):cZ P w K mg base Jk:=by unfold Jk ji;exact mQ RR (r:=[]) (H:=hh) T.f6 (by nofun) (λ_ _ _ _ _ _=>uz λ_=>rfl) nofun (by kernel_rfl) (SU T) T.z T.c
def HZ:List (Str×RF):=("turns_to",⟨2,1,["came","there"],false,jG⟩)::Jk
theorem SK(T:Txt K mg):cZ P w K mg base HZ:=by unfold HZ jG;exact mQ RR (r:=["turns","last"]) (H:=hh) T.f7 (by nofun) (λ_ _ _ _ _ _=>uX λ_ _=>rfl) nofun (by kernel_rfl) (QL T) T.z T.c
def HS:List (Str×RF):=("finish_from",⟨4,1,["steps","root","seen","order"],false,jn⟩)::HZ
theorem UH(T:Txt K mg):cZ P w K mg base HS:=by unfold HS jn;exact mQ RR (r:=["path","gone","here","there"]) (H:=hh) T.f8 (by nofun) (λ_ _ _ _ _ _=>wA λ_ _ _ _=>rfl) nofun (by kernel_rfl) (SK T) T.z T.c
def Az:List (Str×RF):=("turned",⟨1,1,["steps"],false,jN⟩)::HS
theorem I_(T:Txt K mg):cZ P w K mg base Az:=by unfold Az jN;exact mQ RR (r:=["back","here","ways","hand","there"]) (H:=hh) T.f9 (by nofun) (λ_ _ _ _ _ _=>uz λ_=>rfl) nofun (by kernel_rfl) (UH T) T.z T.c
def AB:List (Str×RF):=("mark_from",⟨4,1,["back","root","marks","mark"],false,jy⟩)::Az
theorem JP(T:Txt K mg):cZ P w K mg base AB:=by unfold AB jy;exact mQ RR (r:=["waiting","here","there"]) (H:=hh) T.f10 (by nofun) (λ_ _ _ _ _ _=>wA λ_ _ _ _=>rfl) nofun (by kernel_rfl) (I_ T) T.z T.c
def AF:List (Str×RF):=("_law_pot",⟨2,1,["_law_script","_law_base"],false,jM⟩)::AB
theorem Iv(T:Txt K mg):cZ P w K mg base AF:=by unfold AF jM;exact mQ RR (r:=["_law_seed","_law_left","_law_cell"]) (H:=hh) T.f11 (by nofun) (λ_ _ _ _ _ _=>uX λ_ _=>rfl) nofun (by kernel_rfl) (JP T) T.z T.c
def B5:List (Str×RF):=("_law_draw",⟨2,1,["_law_pot_here","_law_many"],false,ja⟩)::AF
theorem HD(T:Txt K mg):cZ P w K mg base B5:=by unfold B5 ja;exact mQ RR (r:=["_law_digit","_law_one"]) (H:=hh) T.f12 (by nofun) (λ_ _ _ _ _ _=>uX λ_ _=>rfl) nofun (by kernel_rfl) (Iv T) T.z T.c
def Cd:List (Str×RF):=("_law_table",⟨2,2,["_law_pot_here","_law_most"],false,jz⟩)::B5
theorem IF(T:Txt K mg):cZ P w K mg base Cd:=by unfold Cd jz;exact mQ RR (r:=["_law_kind","_law_many","_law_kept","_law_deeds"]) (H:=hh) T.f13 (by nofun) (λ_ _ _ _ _ _=>uX λ_ _=>rfl) nofun (by kernel_rfl) (HD T) T.z T.c
def AJ:List (Str×RF):=("_law_line",⟨5,2,["_law_pot_here","_law_boards","_law_many","_law_k","_law_onward"],false,jv⟩)::Cd
theorem Kh(T:Txt K mg):cZ P w K mg base AJ:=by unfold AJ jv;exact mQ RR (r:=["_law_b","_law_table_here","_law_d","_law_goals","_law_answer_told"]) (H:=hh) T.f14 (by nofun) (λ_ _ _ _ _ _=>Vt λ_ _ _ _ _=>rfl) nofun (by kernel_rfl) (IF T) T.z T.c
def Bg:List (Str×RF):=("_law_house",⟨1,3,["_law_pot_here"],false,jA⟩)::AJ
theorem JZ(T:Txt K mg):cZ P w K mg base Bg:=by unfold Bg jA;exact mQ RR (r:=["_law_boards","_law_count","_law_k","_law_table_here","_law_hands","_law_hands_many","_law_most","_law_way","_law_many","_law_onward","_law_lines","_law_begins"]) (H:=hh) T.f15 (by nofun) (λ_ _ _ _ _ _=>uz λ_=>rfl) nofun (by kernel_rfl) (Kh T) T.z T.c
def AD:List (Str×RF):=("_law_inputs",⟨1,1,["_law_house_here"],false,js⟩)::Bg
theorem Jq(T:Txt K mg):cZ P w K mg base AD:=by unfold AD js;exact mQ RR (r:=["_law_found","_law_hand"]) (H:=hh) T.f16 (by nofun) (λ_ _ _ _ _ _=>uz λ_=>rfl) nofun (by kernel_rfl) (JZ T) T.z T.c
def AU:List (Str×RF):=("_law_begin",⟨2,1,["_law_house_here","_law_inputs_here"],false,jB⟩)::AD
theorem Iu(T:Txt K mg):cZ P w K mg base AU:=by unfold AU jB;exact mQ RR (r:=["_law_lines"]) (H:=hh) T.f17 (by nofun) (λ_ _ _ _ _ _=>uX λ_ _=>rfl) nofun (by kernel_rfl) (Jq T) T.z T.c
def BF:List (Str×RF):=("_law_at",⟨3,1,["_law_house_here","_law_stand","_law_hand"],false,jt⟩)::AU
theorem Ii(T:Txt K mg):cZ P w K mg base BF:=by unfold BF jt;exact mQ RR (r:=[]) (H:=hh) T.f18 (by nofun) (λ_ _ _ _ _ _=>xJ λ_ _ _=>rfl) nofun (by kernel_rfl) (Iu T) T.z T.c
def Be:List (Str×RF):=("_law_behind",⟨3,2,["_law_house_here","_law_stand","_law_hand"],false,jf⟩)::BF
theorem Hu(T:Txt K mg):cZ P w K mg base Be:=by unfold Be jf;exact mQ RR (r:=["_law_line_here","_law_lines","_law_states","_law_b","_law_after","_law_told_so"]) (H:=hh) T.f19 (by nofun) (λ_ _ _ _ _ _=>xJ λ_ _ _=>rfl) nofun (by kernel_rfl) (Ii T) T.z T.c
def BC:List (Str×RF):=("_law_free",⟨2,2,["_law_house_here","_law_stand"],false,ju⟩)::Be
theorem Hy(T:Txt K mg):cZ P w K mg base BC:=by unfold BC ju;exact mQ RR (r:=["_law_found","_law_k"]) (H:=hh) T.f20 (by nofun) (λ_ _ _ _ _ _=>uX λ_ _=>rfl) nofun (by kernel_rfl) (Hu T) T.z T.c
def Ch:List (Str×RF):=("_law_stands",⟨1,3,["_law_house_here"],false,jq⟩)::BC
theorem Jn(T:Txt K mg):cZ P w K mg base Ch:=by unfold Ch jq;exact mQ RR (r:=["_law_found","_law_met","_law_inputs_here","_law_stand","_law_at_here","_law_hand"]) (H:=hh) T.f21 (by nofun) (λ_ _ _ _ _ _=>uz λ_=>rfl) nofun (by kernel_rfl) (Hy T) T.z T.c
def AT:List (Str×RF):=("_law_nexts",⟨2,3,["_law_house_here","_law_stands_here"],false,jC⟩)::Ch
theorem KG(T:Txt K mg):cZ P w K mg base AT:=by unfold AT jC;exact mQ RR (r:=["_law_found","_law_stand"]) (H:=hh) T.f22 (by nofun) (λ_ _ _ _ _ _=>uX λ_ _=>rfl) nofun (by kernel_rfl) (Jn T) T.z T.c
def A7:List (Str×RF):=("_law_downward",⟨1,1,["_law_nexts_here"],false,je⟩)::AT
theorem KH(T:Txt K mg):cZ P w K mg base A7:=by unfold A7 je;exact mQ RR (r:=["_law_back","_law_left","_law_stand","_law_ways","_law_hand","_law_after","_law_row","_law_at_here"]) (H:=hh) T.f23 (by nofun) (λ_ _ _ _ _ _=>uz λ_=>rfl) nofun (by kernel_rfl) (KG T) T.z T.c
def BU:List (Str×RF):=("_law_whole",⟨1,1,["_law_found"],false,jc⟩)::A7
theorem Kr(T:Txt K mg):cZ P w K mg base BU:=by unfold BU jc;exact mQ RR (r:=[]) (H:=hh) T.f24 (by nofun) (λ_ _ _ _ _ _=>uz λ_=>rfl) nofun (by kernel_rfl) (KH T) T.z T.c
def A9:List (Str×RF):=("_law_shortest_back",⟨2,1,["_law_nexts_here","_law_stand"],false,jb⟩)::BU
theorem JA(T:Txt K mg):cZ P w K mg base A9:=by unfold A9 jb;exact mQ RR (r:=["_law_least","_law_last","_law_onward","_law_home","_law_one","_law_hand","_law_after","_law_turns"]) (H:=hh) T.f25 (by nofun) (λ_ _ _ _ _ _=>uX λ_ _=>rfl) nofun (by kernel_rfl) (Kr T) T.z T.c
def Bo:List (Str×RF):=("_law_turned_about",⟨1,1,["_law_nexts_here"],false,jd⟩)::A9
theorem Kv(T:Txt K mg):cZ P w K mg base Bo:=by unfold Bo jd;exact mQ RR (r:=["_law_found","_law_stand","_law_ways","_law_hand","_law_after"]) (H:=hh) T.f26 (by nofun) (λ_ _ _ _ _ _=>uz λ_=>rfl) nofun (by kernel_rfl) (JA T) T.z T.c
def AZ:List (Str×RF):=("_law_due",⟨1,4,["_law_house_here"],false,jL⟩)::Bo
theorem JX(T:Txt K mg):cZ P w K mg base AZ:=by unfold AZ jL;exact mQ RR (r:=["_law_stands_here","_law_nexts_here","_law_done","_law_stand","_law_turns"]) (H:=hh) T.f27 (by nofun) (λ_ _ _ _ _ _=>uz λ_=>rfl) nofun (by kernel_rfl) (Kv T) T.z T.c
def Ck:List (Str×RF):=("behind",⟨3,2,["house","stand","hand"],false,jD⟩)::AZ
theorem JB(T:Txt K mg):cZ P w K mg base Ck:=by unfold Ck jD;exact mQ RR (r:=["line","board","deed","table","state","goal"]) (H:=hh) T.f28 (by nofun) (λ_ _ _ _ _ _=>xJ λ_ _ _=>rfl) nofun (by kernel_rfl) (JX T) T.z T.c
def AG:List (Str×RF):=("settled",⟨2,2,["house","stand"],false,jE⟩)::Ck
theorem JS(T:Txt K mg):cZ P w K mg base AG:=by unfold AG jE;exact mQ RR (r:=[]) (H:=hh) T.f29 (by nofun) (λ_ _ _ _ _ _=>uX λ_ _=>rfl) nofun (by kernel_rfl) (JB T) T.z T.c
def BE:List (Str×RF):=("free",⟨2,3,["house","stand"],false,jS⟩)::AG
theorem JW(T:Txt K mg):cZ P w K mg base BE:=by unfold BE jS;exact mQ RR (r:=[]) (H:=hh) T.f30 (by nofun) (λ_ _ _ _ _ _=>uX λ_ _=>rfl) nofun (by kernel_rfl) (JS T) T.z T.c
def AW:List (Str×RF):=("steps_from",⟨4,4,["house","stand","stands","numbers"],false,jr⟩)::BE
theorem Lf(T:Txt K mg):cZ P w K mg base AW:=by unfold AW jr;exact mQ RR (r:=["steps","hand","there"]) (H:=hh) T.f31 (by nofun) (λ_ _ _ _ _ _=>wA λ_ _ _ _=>rfl) nofun (by kernel_rfl) (JW T) T.z T.c
def BH:List (Str×RF):=("least_way_on",⟨3,2,["steps","start","goals"],false,jk⟩)::AW
theorem IZ(T:Txt K mg):cZ P w K mg base BH:=by unfold BH jk;exact mQ RR (r:=["came","waiting","at","here","hand","there"]) (H:=hh) T.f32 (by nofun) (λ_ _ _ _ _ _=>xJ λ_ _ _=>rfl) nofun (by kernel_rfl) (Lf T) T.z T.c
def BA:List (Str×RF):=("finish_order",⟨1,2,["steps"],false,jj⟩)::BH
theorem KY(T:Txt K mg):cZ P w K mg base BA:=by unfold BA jj;exact mQ RR (r:=["order","seen","root"]) (H:=hh) T.f33 (by nofun) (λ_ _ _ _ _ _=>uz λ_=>rfl) nofun (by kernel_rfl) (IZ T) T.z T.c
def AL:List (Str×RF):=("on_rounds",⟨1,3,["steps"],false,jx⟩)::BA
theorem JJ(T:Txt K mg):cZ P w K mg base AL:=by unfold AL jx;exact mQ RR (r:=["back","marks","root"]) (H:=hh) T.f34 (by nofun) (λ_ _ _ _ _ _=>uz λ_=>rfl) nofun (by kernel_rfl) (KY T) T.z T.c
def Ba:List (Str×RF):=("first_round",⟨1,4,["steps"],false,jo⟩)::AL
theorem Kg(T:Txt K mg):cZ P w K mg base Ba:=by unfold Ba jo;exact mQ RR (r:=["rounds","first"]) (H:=hh) T.f35 (by nofun) (λ_ _ _ _ _ _=>uz λ_=>rfl) nofun (by kernel_rfl) (JJ T) T.z T.c
def Ca:List (Str×RF):=("graph_from",⟨3,5,["house","firsts","most"],false,jp⟩)::Ba
theorem Lb(T:Txt K mg):cZ P w K mg base Ca:=by unfold Ca jp;exact mQ RR (r:=["numbers","stand","stands","steps"]) (H:=hh) T.f36 (by nofun) (λ_ _ _ _ _ _=>xJ λ_ _ _=>rfl) nofun (by kernel_rfl) (Kg T) T.z T.c
def BM:List (Str×RF):=("graph_of",⟨2,6,["house","most"],false,jF⟩)::Ca
theorem Kf(T:Txt K mg):cZ P w K mg base BM:=by unfold BM jF;exact mQ RR (r:=["begins"]) (H:=hh) T.f37 (by nofun) (λ_ _ _ _ _ _=>uX λ_ _=>rfl) nofun (by kernel_rfl) (Lb T) T.z T.c
def DC:List (Str×RF):=("round_of",⟨2,7,["house","most"],true,jm⟩)::BM
theorem HV(T:Txt K mg):cZ P w K mg base DC:=by unfold DC jm;exact QR RR (r:=["graph","found"]) (H:=hh) T.f38 (by nofun) (λ_ _ _ _ _ _ _ _ c g=>uX (λ_ _=>⟨_,rfl,rfl⟩) c (by simpa using g)) (λ_ _ _ _ _ _ _ _ c g=>uz (λ_=>⟨_,rfl,rfl⟩) c (by simpa using g)) (by kernel_rfl) (Kf T) T.z T.c rfl
theorem yt{a:av}{c:dJ}(F:wN K "law" "law" (top 49) a c)(T:Txt K mg):mY P w K mg base sU 8 a c ["_law_script"] (o9 K 1 jT):=by unfold jT;exact N6 RR (r:=["_law_house_here","_law_due_here","_law_found"]) (H:=hh) F (by nofun) (by kernel_rfl) (HV T) T.z T.c rfl rfl
end
end My
namespace My
open MM
open PySem (Str)
theorem f_{s:a_}{n:Nat}{o:MO}(h:s[n]?=some o):n < s.length:=(ac.mp h).1
structure dP(s:a_)(p q:Nat):Prop where
 ne:p≠q
 ex:∃(x c:Int)(cs:List D),s[p]?=some (.lst [.int x,.int c,.ref q])/\s[q]?=some (.lst cs)/\0<=x/\x < 2147483648/\∀d∈cs,∃i:Int,d=.int i
structure Kept(p q:Nat)(s s':a_):Prop where
 le:s.length<=s'.length
 at_:∀n,n < s.length->n≠p->n≠q->s'[n]?=s[n]?
section
variable{p q:Nat}{s s1 s2:a_}{Q:D->a_->Prop}
theorem Kept.refl:Kept p q s s:=⟨ar _,λ_ _ _ _=>rfl⟩
theorem Kept.trans(h:Kept p q s s1)(k:Kept p q s1 s2):Kept p q s s2:=⟨bW h.le k.le,λn l g c=>(k.at_ n (bw l h.le) g c).trans (h.at_ n l g c)⟩
theorem Kept.same{n:Nat}{o:MO}(h:Kept p q s s1)(l:n≠p)(c:n≠q)(g:s[n]?=some o):s1[n]?=some o:=(h.at_ n (f_ g) l c).trans g
theorem Kept.snoc{o:MO}(h:Kept p q s s1):Kept p q s (s1++[o]):=h.trans ⟨by simp,λn c _ _=>aw c⟩
theorem Kept.put{n:Nat}{o:MO}(h:Kept p q s s1)(u:s.length<=n):Kept p q s (s1.set n o):=
 ⟨by simp;exact h.le,λm l g c=>by rw[af (by ext)];exact h.at_ m l g c⟩
theorem dP.lt(h:dP s p q):p < s.length/\q < s.length:=by obtain⟨x,c,g,a,b,_⟩:=h.ex;exact⟨f_ a,f_ b⟩
theorem dP.snoc{o:MO}(h:dP s p q):dP (s++[o]) p q:=by obtain⟨x,c,g,a,b,r⟩:=h.ex;exact⟨h.ne,x,c,g,by rw[aw (f_ a)];exact a,by rw[aw (f_ b)];exact b,r⟩
theorem dP.put{n:Nat}{o:MO}(h:dP s p q)(l:n≠p)(g:n≠q):dP (s.set n o) p q:=by obtain⟨x,c,u,a,b,r⟩:=h.ex;exact⟨h.ne,x,c,u,by rw[af l];exact a,by rw[af g];exact b,r⟩
noncomputable def Fk(s:a_)(p q:Nat)(x c:Int)(g:List D):Prop:=s[p]?=some (.lst [.int x,.int c,.ref q])/\s[q]?=some (.lst g)
theorem qU{k:Int}(hp:dP s p q)(O:0 < k)(hk2:k < 1073741824)(h:∀r u,0<=r->r < k->dP u p q->Kept p q s u->Q (.int r) u):wp (ja [.ref p,.int k]) Q s:=by
 obtain⟨x,c,g,I,J,hx0,hx1,C⟩:=hp.ex;have G:=hp.ne;have Y:MM.my [D.int x,D.int c,D.ref q].length 1=some 1:=rfl
 (simp![ja];simp![yg])
 refine yH (λl u=>l=[some (.ref p),some (.int k),none,none]/\∃c g,Fk u p q x c g/\(∀d∈g,∃i:Int,d=.int i)/\Kept p q s u)
  (λl u=>match u[q]? with
   |some (.lst g)=>g.length
   |_=>0) ⟨rfl,c,g,⟨I,J⟩,C,Kept.refl⟩ (λRw l u up rt hW=>?_)
 obtain⟨el,c,g,⟨I,J⟩,C,H⟩:=hW;subst el;simp![↓dR I,↓dR J];by_cases hc:c=0/\0 < g.length
 ·obtain⟨c,T⟩:=hc;subst c;have O:decide ((0:Int) < (g.length:Nat))=true:=bF (by ext);rw[aE rfl,aE (by ext)];obtain⟨d,hd⟩:∃d,g.getLast?=some d:=⟨_,List.getLast?_eq_some_getLast (by intro e;rw[e]at T;simp at T)⟩
  obtain⟨i,o⟩:=C d (List.mem_of_getLast? hd);subst o;have h:(u.set q (.lst g.dropLast))[p]?=some (.lst [.int x,.int 0,.ref q]):=by rw[af (bC G)];exact I
  have L:(u.set q (.lst g.dropLast))[q]?=some (.lst g.dropLast):=ao (f_ J);have Y:MM.my 3 1=some 1:=rfl;simp![↓dR I,↓dR J,hd,↓mE J,↓sx,↓dR h,Y,↓mE h];have B:((u.set q (.lst g.dropLast)).set p (.lst [.int x,.int i,.ref q]))[p]?=some (.lst [.int x,.int i,.ref q]):=ao (f_ h);have l:((u.set q (.lst g.dropLast)).set p (.lst [.int x,.int i,.ref q]))[q]?=some (.lst g.dropLast):=by rw[af G];exact L
  refine up ⟨rfl,i,g.dropLast,⟨B,l⟩,λd hd=>C d (List.dropLast_subset _ hd),⟨by simp;exact H.le,λn hn v E=>?_⟩⟩ ?_
  ·rw[af (bC v),af (bC E)];exact H.at_ n hn v E
  ·rw[l,J];simp only[ve];ext
 ·have fin : ∀(A B : Prop), (if c = 0 then (if 0 < (g.length : Int) then A else B) else B) = B := λA B => by
    by_cases U:c=0
    ·rw[aE U,aA (by ext)]
    ·rw[aA U]
  rw[fin];have Y:MM.my 3 1=some 1:=rfl;have i4:MM.my 3 0=some 0:=rfl;have kp:∀o,Kept p q s (u.set p o):=λo=>⟨by simp;exact H.le,λn hn v E=>by rw[af (bC v)];exact H.at_ n hn v E⟩
  have pt:∀(L c':Int),0<=L->L < 2147483648->dP (u.set p (.lst [.int L,.int c',.ref q])) p q:=λL c' l U=>⟨G,L,c',g,ao (f_ I),by rw[af G];exact J,l,U,C⟩
  have Q:∀a b:Int,0<=b->b < 10000000->pC a b:=λa b U h2=>.inr ⟨by ext,by ext⟩;by_cases l:0 < c
  ·rw[aE l];simp![Y,↓mE I];exact⟨O,⟨O,hk2⟩,h _ _ (lj _ (by ext)) (iY _ O) (pt _ _ hx0 hx1) (kp _)⟩
  ·rw[aA l];have q:0<=(x*48271+7919) % 2147483647:=lj _ (by ext);have o:(x*48271+7919) % 2147483647 < 2147483647:=iY _ (by ext);generalize (x*48271+7919) % 2147483647=one at q o ⊢;have g:0<=(one*40692+12345) % 2147483399+1:=by have:=lj (one*40692+12345) (show (2147483399:Int)≠0 by ext);ext
   have c:(one*40692+12345) % 2147483399+1 < 2147483648:=by have:=iY (one*40692+12345) (show (0:Int) < 2147483399 by ext);ext
   generalize (one*40692+12345) % 2147483399+1=L at g c ⊢;have T:((0:Int) < 64/\(64:Int) < 1073741824):=by ext
   simp![i4,↓mE I,↓dR (ao (f_ I)),T];exact⟨Q _ _ (by ext) (by ext),Q _ _ (by ext) (by ext),.inl ⟨by ext,by ext⟩,Q _ _ (by ext) (by ext),O,h _ _ (lj _ (by ext)) (iY _ O) (pt _ _ g c) (kp _)⟩
theorem Qm{E:List Int}(h:∀p q o,dP o p q->s.length<=p->s.length<=q->Q (.ref p) o):wp (jM [.lit (E.map D.int),.int 0]) Q s:=by
 have l0:0<=eS:=bu _;have l3:3<=eS:=gQ (by ext);have m0:pC 7919 0:=.inl ⟨by ext,by ext⟩;have m2:∀a b:Int,0<=b->b < 10000000->pC a b:=λa b h1 h2=>.inr ⟨by ext,by ext⟩;have T:∀Q s,wp (wE (.int 10) (.int 18)) Q s=Q (.int 1000000000000000000) s:=λQ s=>by unfold wE;rw[dB,ck];exact propext ⟨λh=>h.2,λh=>⟨by decide,h⟩⟩
 generalize (1000000000000000000:Int)=big at T
 (simp![jM];simp![yj,l0,m0])
 have u:∀d∈cutD (E.map D.int) (some 0) (some 63),∃i:Int,d=.int i:=λd hd=>by unfold cutD at hd;obtain⟨i,_,e⟩:=bz.mp (List.mem_of_mem_drop (dX hd));exact⟨i,e.symm⟩
 have I:(cutD (E.map D.int) (some 0) (some 63)).length<=63:=by unfold cutD gY;simp;ext
 generalize cutD (E.map D.int) (some 0) (some 63)=cells at u I;refine qJ (λi l o=>∃x J C,l=[some (.lit (E.map D.int)),some (.int 0),some (.int x),some (.ref s.length),J]/\(i=0\/(0<=x/\x < 2147483648))/\(i=0->x=104729)/\o[s.length]?=some (.lst C)/\o.length=s.length+1/\C.length<=i/\∀d∈C,∃i:Int,d=.int i) (λ_ _ _ _=>trivial) ⟨_,_,[],rfl,.inl rfl,λ_=>rfl,by simp,by simp,ar _,by simp⟩ (λRw i d l o up rt hd O=>?_) (λl o O=>?_)
 ·obtain⟨x,J,C,el,U,H,g,B,hl,c⟩:=O;subst el;obtain⟨v,E⟩:=u d (ay hd);subst E;have I:=(ac.mp hd).1;have c1:(0:Int) < 2147483629:=by ext
  have c2:(0:Int) < 2147483647:=by ext
  have L:0<=(x*48271+v % 2147483629+1) % 2147483647:=lj _ (by ext);have l:(x*48271+v % 2147483629+1) % 2147483647 < 2147483647:=iY _ (by ext);have o:pC x 48271:=m2 _ _ (by ext) (by ext);have q:C.length < eS:=nB (by ext);simp![↓T,↓dR g,↓mE g,o,c1,c2,q];generalize (x*48271+v % 2147483629+1) % 2147483647=G at L l ⊢;by_cases Y:big<=v
  ·rw[aE Y];refine up ⟨_,_,_,rfl,.inr ⟨L,by ext⟩,λh=>by ext,ao (f_ g),by simp[B],by simp;ext,λd hd=>?_⟩;rcases aB.mp hd with hd|hd
   ·exact c d hd
   ·exact⟨v,ax.mp hd⟩
  ·rw[aA Y];exact up ⟨_,_,_,rfl,.inr ⟨L,by ext⟩,λh=>by ext,g,B,by ext,c⟩
 ·obtain⟨x,J,C,el,U,H,g,B,hl,c⟩:=O;subst el;simp![↓dR g,l3];have G:0<=x/\x < 2147483648:=by
   rcases U with h|h
   ·have:=H h;ext
   ·exact h
  refine h _ o.length _ ⟨by simp,x,0,C.reverse,by simp,by simp,G.1,G.2,λd hd=>c d (List.mem_reverse.mp hd)⟩ (by simp;ext) (by ext)
end
open PySem (Str)
def lE(S c:Nat)(nx un:Nat->Nat->Nat):D:=.tup (bx S λs=>.tup (bx c λd=>.tup [.int (nx s d:Nat),.int (un s d:Nat)]))
noncomputable def tJ(S c:Nat)(nx un:Nat->Nat->Nat):Prop:=1<=S/\S<=4/\1<=c/\c<=4/\∀s d,s < S->d < c->nx s d < S/\un s d < 4
section
variable{p q:Nat}{s s1 s2:a_}{Q:D->a_->Prop}
theorem vG{m:Nat}(h:m<=100):(-(2^62)<=(m:Int)/\(m:Int) < 2^62):=by ext
theorem XE{m n:Nat}{A:List D->a_->Prop}(O:dP s p q)(h1:1<=m)(h2:m<=4)(h:∀(f g:Nat->Nat)v,(∀i,i < n->f i < m/\g i < 4)->dP v p q->Kept p q s v->A (bx n λi=>.tup [.int (f i:Nat),.int (g i:Nat)]) v):
  wp (collect (aP 0) bT (cV (az (bN ja (az (ai 1) (az (ai 2) bh))) (az (bN ja (az (ai 1) (az (aR (.int 4)) bh))) bh))) dw (bx n λi=>.int i) [none,some (.ref p),some (.int m)]) A s:=by
 refine IC (λi l v=>∃f g:Nat->Nat,l=(bx i λi=>.tup [.int (f i:Nat),.int (g i:Nat)])/\(∀j,j < i->f j < m/\g j < 4)/\dP v p q/\Kept p q s v) (λ_ _ _ _=>trivial) ⟨λ_=>0,λ_=>0,rfl,λj G=>ba G (rT _),O,Kept.refl⟩ (λRr i l s1 up hi T=>?_) (λl s1 c=>by obtain⟨f,g,H,u,o,B⟩:=c;rw[H];exact h f g s1 u o B);obtain⟨f,g,H,u,o,B⟩:=T;have I:2<=eS:=gQ (by ext);simp![I];refine qU o (by ext) (by ext) λa s2 Y a1 E L=>?_
 try simp![]
 refine qU E (by ext) (by ext) λb Q U b1 C J=>?_
 try simp![I]
 refine up ⟨λj=>if j=i then a.toNat else f j,λj=>if j=i then b.toNat else g j,?_,λj G=>?_,C,(B.trans L).trans J⟩
 ·rw[Ha,H];congr 1
  ·exact yP λj G=>by dsimp only;rw[aA (by ext),aA (by ext)]
  ·dsimp only;rw[aE rfl,aE rfl,gH Y,gH U]
 ·dsimp only;by_cases e:j=i
  ·rw[aE e,aE e];ext
  ·rw[aA e,aA e];exact u j (by ext)
theorem MB{m n:Nat}{A:List D->a_->Prop}(L:dP s p q)(I:1<=m)(H:m<=4)(h3:1<=n)(Q:n<=4)(h:∀(nx un:Nat->Nat->Nat)v,tJ m n nx un->dP v p q->Kept p q s v->A (bx m λs=>.tup (bx n λd=>.tup [.int (nx s d:Nat),.int (un s d:Nat)])) v):
  wp (collect (aP 0) bT (iq kT (dm 1 [1,2] (MM.gp (ai 3)) (aP 0) bT (cV (az (bN ja (az (ai 1) (az (ai 2) bh))) (az (bN ja (az (ai 1) (az (aR (.int 4)) bh))) bh))))) dw (bx m λi=>.int i) [none,some (.ref p),some (.int m),some (.int n)]) A s:=by
 refine IC (λi l v=>∃nx un:Nat->Nat->Nat,l=(bx i λs=>.tup (bx n λd=>.tup [.int (nx s d:Nat),.int (un s d:Nat)]))/\(∀s d,s < i->d < n->nx s d < m/\un s d < 4)/\dP v p q/\Kept p q s v) (λ_ _ _ _=>trivial) ⟨λ_ _=>0,λ_ _=>0,rfl,λj d E=>ba E (rT _),L,Kept.refl⟩ (λRr i l s1 up hi Y=>?_) (λl s1 c=>by obtain⟨nx,un,G,u,o,B⟩:=c;rw[G];exact h nx un s1 ⟨I,H,h3,Q,u⟩ o B);obtain⟨nx,un,G,u,o,B⟩:=Y;have U:=vG (show n<=100 by ext);have O:n<=eS:=gQ (by ext);simp![U,gX,bv,t5,mT,O];refine XE o I H λf g s2 T C J=>?_
 try simp![]
 refine up ⟨λj d=>if j=i then f d else nx j d,λj d=>if j=i then g d else un j d,?_,λj d E hd=>?_,C,B.trans J⟩
 ·rw[Ha,G];congr 1
  ·exact yP λj E => by congr 1;exact yP λd hd=>by dsimp only;rw[aA (by ext),aA (by ext)]
  ·congr 2;exact yP λd hd=>by dsimp only;rw[aE rfl,aE rfl]
 ·dsimp only;by_cases e:j=i
  ·rw[aE e,aE e];exact T d hd
  ·rw[aA e,aA e];exact u j d (by ext) hd
theorem VQ{k:Nat}{A:List D->a_->Prop}(B:k<=3):wp (collect (aP 0) bT (c2 fm (cV (az (cV (az (ai 0) (az (ai 0) bh))) bh)) (iq kT (dm 1 [] (MM.gp (ai 1)) (aP 0) bT (cV (az (ai 0) (az (aR (.int 0)) bh)))))) dw (bx k λi=>.int i) [none,some (.int k)]) A s=A (bx k λv=>.tup (.tup [.int (v:Nat),.int (v:Nat)]::bx k λv=>.tup [.int (v:Nat),.int 0])) s:=v9 sW λv o Q=>by
 have l:1<=eS:=gQ (by ext);have g:2<=eS:=gQ (by ext);have C:=vG (show k<=100 by ext);have u:k<=eS:=gQ (by ext);have c:1+k<=eS:=gQ (by ext);have h:∀Q s,wp (collect (aP 0) bT (cV (az (ai 0) (az (aR (.int 0)) bh))) dw (bx k λi=>.int i) [none]) Q s=Q (bx k λv=>.tup [.int (v:Nat),.int 0]) s:=λQ s=>v9 sW λv o Q=>by simp![g]
 simp![l,g,C,gX,bv,t5,mT,u,↓h,c]
theorem XM{k:Nat}: D.tup (bx k λv=>.tup (.tup [.int (v:Nat),.int (v:Nat)]::bx k λv=>.tup [.int (v:Nat),.int 0]))=lE k (k+1) (λs d=>match d with
    |0=>s
    |d+1=>d) (λs d=>match d with
    |0=>s
    |_+1=>0):=by
 unfold lE;congr 1;exact yP λv c=>by rw[Lr];congr 1;exact yP λd hd=>by cases d<;>rfl
theorem Yc{m:Nat}{A:List D->a_->Prop}(B:m<=4):wp (collect (aP 0) bT (iq kT (dm 1 [0] (MM.gp (ai 1)) (aP 0) bT (cV (az (ai 0) (az (ai 1) bh))))) dw (bx m λi=>.int i) [none,some (.int m)]) A s=A (bx m λs=>.tup (bx m λv=>.tup [.int (v:Nat),.int (s:Nat)])) s:=v9 sW λv o Q=>by
 have g:2<=eS:=gQ (by ext);have l:=vG (show m<=100 by ext);have h:m<=eS:=gQ (by ext);have c:∀Q s,wp (collect (aP 0) bT (cV (az (ai 0) (az (ai 1) bh))) dw (bx m λi=>.int i) [none,some (.int v)]) Q s=Q (bx m λu=>.tup [.int (u:Nat),.int (v:Nat)]) s:=λQ s=>v9 sW λu hu Q=>by simp![g]
 simp![l,gX,bv,t5,mT,h,↓c]
theorem UL{m:Nat}{A:List D->a_->Prop}(l:1<=m):wp (collect (aP 0) bT (cV (az (cV (az (c2 oC (c2 fm (ai 0) (aR (.int 1))) (ai 1)) (az (ai 0) bh))) bh)) dw (bx m λi=>.int i) [none,some (.int m)]) A s=A (bx m λs=>.tup [.tup [.int (((s+1) % m:Nat):Int),.int (s:Nat)]]) s:=v9 sW λv u Q=>by
 have h:1<=eS:=gQ (by ext);have g:2<=eS:=gQ (by ext);have c:(0:Int) < (m:Nat):=by ext
 have o:((v:Int)+1) % (m:Int)=(((v+1) % m:Nat):Int):=by simp
 simp![h,g,c,o]
theorem UF{m:Nat}{A:List D->a_->Prop}(E:m<=4):wp (collect (aP 0) bT (iq kT (dm 1 [0] (MM.ng (aR (.int 1)) (ai 1)) (aP 0) bT (cV (az (ai 1) (az (ai 1) bh))))) dw (bx (m-1) λi=>.int (1+(i:Int))) [none,some (.int m)]) A s=A (bx (m-1) λs=>.tup (bx (m-1) λv=>.tup [.int (1+(s:Int)),.int (1+(s:Int))])) s:=v9 sW λv C Q=>by
 have h:2<=eS:=gQ (by ext);have l:=vG (show m<=100 by ext);have o:((m:Int)-1).toNat=m-1:=by ext
 have c:m-1<=eS:=gQ (by ext);have B:(-(2^62)<=(1:Int)/\(1:Int) < 2^62):=by ext
 have g:∀Q s,wp (collect (aP 0) bT (cV (az (ai 1) (az (ai 1) bh))) dw (bx (m-1) λi=>.int (1+(i:Int))) [none,some (.int (1+(v:Int)))]) Q s=Q (bx (m-1) λu=>.tup [.int (1+(v:Int)),.int (1+(v:Int))]) s:=λQ s=>v9 sW λu hu Q=>by simp![h]
 simp![B,l,gX,o,Mm,mT,c,↓g]
theorem TB{m:Nat}{A:List D->a_->Prop}:wp (collect (aP 0) bT (cV (az (ai 0) (az (ai 0) bh))) dw (bx (m-1) λi=>.int (1+(i:Int))) [none]) A s=A (bx (m-1) λv=>.tup [.int (1+(v:Int)),.int (1+(v:Int))]) s:=v9 sW λu hu Q=>by have c:2<=eS:=gQ (by ext);simp![c]
theorem UO{n:Nat}: D.tup (.tup (bx n λv=>.tup [.int (1+(v:Int)),.int (1+(v:Int))])::bx n λs=>.tup (bx n λv=>.tup [.int (1+(s:Int)),.int (1+(s:Int))]))=lE (n+1) n (λs d=>match s with
     |0=>d+1
     |s+1=>s+1) (λs d=>match s with
     |0=>d+1
     |s+1=>s+1):=by
 unfold lE;rw[Lr];congr 1;exact yP λs c=>by
  cases s with
  |zero=>
   dsimp only;congr 1;exact yP λd hd=>by rw[show (1+(d:Int))=((d+1:Nat):Int) by ext]
  |succ s=>
   dsimp only;congr 1;exact yP λd hd=>by rw[show (1+(s:Int))=((s+1:Nat):Int) by ext]
theorem Rl{mo:Int}(mo1:1<=mo)(mo4:mo<=4)(hp:dP s p q)(h:∀S dn nx un s',tJ S dn nx un->(S:Int)<=mo->dP s' p q->Kept p q s s'->Q (lE S dn nx un) s'):wp (jz [.ref p,.int mo]) Q s:=by
 (simp![jz];simp![j7])
 refine qU hp (by ext) (by ext) λkind s1 kd0 kd1 hp1 k1=>?_
 try simp![]
 refine qU hp1 (by ext) (by ext) λr s2 O r1 u k2=>?_;have o:=k1.trans k2;have C:r=((r.toNat:Nat):Int):=(gH O).symm;generalize r.toNat=B at C;subst C;have E:(1+(B:Int))=((1+B:Nat):Int):=by ext
 have l:1<=1+B:=by ext
 have c:1+B<=4:=by ext
 have hmo:((1+B:Nat):Int)<=mo:=by ext
 simp![E]
 try rw[E]
 generalize 1+B=m at l c hmo;have l1:1<=eS:=gQ (by ext);by_cases c0:kind=0
 ·rw[aE c0];have g:min (m:Int) 3=((min m 3:Nat):Int):=by ext
  have U:1<=min m 3:=by ext
  have T:min m 3<=3:=by ext
  have c:min m 3<=m:=by ext
  rw[g];generalize min m 3=k at U T c;have J:=vG (show k<=100 by ext);have L:k<=eS:=gQ (by ext);have G:∀A s,wp (collect (aP 0) bT (c2 fm (cV (az (cV (az (ai 0) (az (ai 0) bh))) bh)) (iq kT (dm 1 [] (MM.gp (ai 1)) (aP 0) bT (cV (az (ai 0) (az (aR (.int 0)) bh)))))) dw (bx k λi=>.int i) [none,some (.int k)]) A s=A (bx k λv=>.tup (.tup [.int (v:Nat),.int (v:Nat)]::bx k λv=>.tup [.int (v:Nat),.int 0])) s:=λA s=>VQ T;simp![J,gX,bv,t5,mT,L,↓G];rw[XM];refine h _ _ _ _ _ ⟨U,by ext,by ext,by ext,λs d hs hd=>?_⟩ (by ext) u o;cases d with
  |zero=>exact⟨hs,by dsimp only;ext⟩
  |succ d=>exact⟨by dsimp only;ext,by dsimp only;ext⟩
 rw[aA c0];have J:=vG (show m<=100 by ext);have L:m<=eS:=gQ (by ext);by_cases c1:kind=1
 ·rw[aE c1];have G:∀A s,wp (collect (aP 0) bT (iq kT (dm 1 [0] (MM.gp (ai 1)) (aP 0) bT (cV (az (ai 0) (az (ai 1) bh))))) dw (bx m λi=>.int i) [none,some (.int m)]) A s=A (bx m λs=>.tup (bx m λv=>.tup [.int (v:Nat),.int (s:Nat)])) s:=λA s=>Yc c;simp![J,gX,bv,t5,mT,L,↓G];exact h m m (λs d=>d) (λs d=>s) _ ⟨l,c,l,c,λs d hs hd=>⟨hd,by dsimp only;ext⟩⟩ (by ext) u o
 rw[aA c1];by_cases Y:kind=2
 ·rw[aE Y];have G:∀A s,wp (collect (aP 0) bT (cV (az (cV (az (c2 oC (c2 fm (ai 0) (aR (.int 1))) (ai 1)) (az (ai 0) bh))) bh)) dw (bx m λi=>.int i) [none,some (.int m)]) A s=A (bx m λs=>.tup [.tup [.int (((s+1) % m:Nat):Int),.int (s:Nat)]]) s:=λA s=>UL l;simp![J,gX,bv,t5,mT,L,↓G];exact h m 1 (λs d=>(s+1) % m) (λs d=>s) _ ⟨l,c,by ext,by ext,λs d hs hd=>⟨Nat.mod_lt _ (by ext),by dsimp only;ext⟩⟩ (by ext) u o
 rw[aA Y];by_cases c3:kind=3
 ·rw[aE c3];by_cases U:(1:Int) < (m:Nat)
  ·rw[aE U];have l:((m:Int)-1).toNat=m-1:=by ext
   have T:m-1<=eS:=gQ (by ext);have q:1+(m-1)<=eS:=gQ (by ext);have B:(-(2^62)<=(1:Int)/\(1:Int) < 2^62):=by ext
   have G:∀A s,wp (collect (aP 0) bT (iq kT (dm 1 [0] (MM.ng (aR (.int 1)) (ai 1)) (aP 0) bT (cV (az (ai 1) (az (ai 1) bh))))) dw (bx (m-1) λi=>.int (1+(i:Int))) [none,some (.int m)]) A s=A (bx (m-1) λs=>.tup (bx (m-1) λv=>.tup [.int (1+(s:Int)),.int (1+(s:Int))])) s:=λA s=>UF c;have Y:∀A s,wp (collect (aP 0) bT (cV (az (ai 0) (az (ai 0) bh))) dw (bx (m-1) λi=>.int (1+(i:Int))) [none]) A s=A (bx (m-1) λv=>.tup [.int (1+(v:Int)),.int (1+(v:Int))]) s:=λA s=>TB;have g:∀(ds:List D)Q,wp (getL s2.length) Q (s2++[MO.lst ds])=Q ds (s2++[MO.lst ds]):=λds Q=>dR (by simp);simp![B,J,gX,l,Mm,mT,T,↓G,↓Y,↓g,l1,q];rw[UO];refine h _ _ _ _ _ ⟨by ext,by ext,by ext,by ext,λs d hs hd=>?_⟩ (by ext) u.snoc o.snoc;cases s with
   |zero=>dsimp only;ext
   |succ s=>dsimp only;ext
  ·rw[aA U];refine qU u (by ext) (by ext) λr s3 O r1 I k3=>?_;have C:r=((r.toNat:Nat):Int):=(gH O).symm;generalize r.toNat=B at C;subst C;have E:(1+(B:Int))=((1+B:Nat):Int):=by ext
   simp![E,J,gX,bv,t5,mT,L]
   try rw[E]
   refine MB I l c (by ext) (by ext) λnx un s4 ok H k4=>?_;simp![];exact h _ _ _ _ _ ok (by ext) H ((o.trans k3).trans k4)
 ·rw[aA c3];refine qU u (by ext) (by ext) λr s3 O r1 I k3=>?_;have C:r=((r.toNat:Nat):Int):=(gH O).symm;generalize r.toNat=B at C;subst C;have E:(1+(B:Int))=((1+B:Nat):Int):=by ext
  simp![E,J,gX,bv,t5,mT,L]
  try rw[E]
  refine MB I l c (by ext) (by ext) λnx un s4 ok H k4=>?_;simp![];exact h _ _ _ _ _ ok (by ext) H ((o.trans k3).trans k4)
end
open PySem (Str)
structure Bd where
 S:Nat
 dn:Nat
 nx:Nat->Nat->Nat
 un:Nat->Nat->Nat
 st:Nat
inductive Ln where
 |settle (v:Nat)
 |act (b d:Nat) (gs:List Nat)
structure Hd where
 b0:Nat
 b1:Nat
 lines:List Ln
structure Hs where
 boards:List Bd
 hands:List Hd
structure Sd where
 ls:List Nat
 ss:List Nat
 deriving DecidableEq
noncomputable def cj(n:Nat):D:=.int (n:Int)
def pS(b:Bd):D:=.tup [lE b.S b.dn b.nx b.un,cj b.st]
def n5:Ln->D
 | .settle v=>.tup [.str "settle",cj v]
 | .act b d gs=>.tup [.str "do",cj b,cj d,.tup (gs.map cj)]
def nS(h:Hd):D:=.tup [.tup [cj h.b0,cj h.b1],.tup (h.lines.map n5)]
def kC(h:Hs):D:=.tup [.tup (h.boards.map pS),.tup (h.hands.map nS)]
def bO(s:Sd):D:=.tup [.tup (s.ls.map cj),.tup (s.ss.map cj)]
def wL(b:Bd):Prop:=tJ b.S b.dn b.nx b.un/\b.st < b.S
def uq(bs:List Bd)(m:Nat):Ln->Prop
 | .settle v=>v < 2
 | .act b d gs=>∃c,bs[b]?=some c/\d < c.dn/\gs.length=1+mx (c.un · d) c.S/\∀g∈gs,g < m
def zu(bs:List Bd)(h:Hd):Prop:=h.b0 < h.lines.length/\h.b1 < h.lines.length/\h.lines.length<=12/\∀l∈h.lines,uq bs h.lines.length l
def kH(h:Hs):Prop:=h.boards.length<=7/\(∀b∈h.boards,wL b)/\2<=h.hands.length/\h.hands.length<=3/\∀x∈h.hands,zu h.boards x
noncomputable def k_(h:Hs)(s:Sd):Prop:=s.ls.length=h.hands.length/\s.ss.length=h.boards.length/\(∀(k:Nat)hd l,h.hands[k]?=some hd->s.ls[k]?=some l->l < hd.lines.length)/\∀(b:Nat)bd x,h.boards[b]?=some bd->s.ss[b]?=some x->x < bd.S
theorem wI{r:Int}(h:0<=r):∃n:Nat,r=(n:Int):=⟨r.toNat,(gH h).symm⟩
section
variable{p q:Nat}{s s1 s2:a_}{Q:D->a_->Prop}
theorem PY{b:Bd}{d:Nat}{Q:D->a_->Prop}{s:a_}(h:tJ b.S b.dn b.nx b.un)(hd:d < b.dn):wp (collect (aP 0) bT (c2 aU (c2 aU (ai 0) (ai 1)) (aR (.int 1))) dw (bx b.S λs=>.tup (bx b.dn λd=>D.tup [.int (b.nx s d:Nat),.int (b.un s d:Nat)])) [none,some (.int d)]) (λx c=>wp (tE x) Q c) s=Q (.int (mx (b.un · d) b.S:Nat)) s:=by rw[v9 (f:=λi=>.int (b.un i d:Nat)) sW (λi g Q=>by simp![↓vP hd])];exact Q4 (f:=(b.un · d)) (by have:=h.1;ext)
theorem X1{C:Nat}{bs:List Bd}{m k:Nat}{o:Bool}{T:Bool->a_->Prop}(u:dP s p q)(I:s[C]?=some (.lst (bs.map pS)))(U:k < m)(B:∀s1,dP s1 p q->Kept p q s s1->T true s1)(J:∀s1,(o=true->k+1 < m)->0 < bs.length->dP s1 p q->Kept p q s s1->T false s1):
  wp (qH (cA (c2 lR (c1 gR (ai 1)) (aR (.int 0)))) (qH (oG (pW (ai 4)) (cA (c2 lR (ai 3) (c2 sA (ai 2) (aR (.int 1)))))) (cA (c2 lR (bN ja (az (ai 0) (az (aR (.int 5)) bh))) (aR (.int 0))))) [some (.ref p),some (.ref C),some (.int m),some (.int k),some (.bl o),none,none,none,none,none]) T s:=by
 simp![↓dR I,ae];by_cases hz:bs.length=0
 ·rw[aE (by ext)];exact B s u Kept.refl
 rw[aA (by ext)];have go:∀(g:o=true->k+1 < m)(R:D->a_->Prop)(H:∀(r:Int) l,R (.int r) l=T (r == 0) l),wp (ja [.ref p,.int 5]) R s:=λg R H=>by
  refine qU u (by ext) (by ext) λr s1 O L c E=>?_;rw[H];by_cases G:r=0
  ·have:(r == 0)=true:=by simp[G]
   rw[this];exact B s1 c E
  ·have:(r == 0)=false:=by simp[G]
   rw[this];exact J s1 g (by ext) c E
 cases o with
 |false=>
  simp only[aQ,if_false];exact go (λh=>by cases h) _ λr l=>by simp![]
 |true=>
  simp only[if_true];by_cases v:k+1 < m
  ·rw[aA (by ext)];exact go (λ_=>v) _ λr l=>by simp![]
  ·rw[aE (by ext)];exact B s u Kept.refl
theorem Qk{nb:Nat}{bs:List Bd}{m k:Nat}{on:Bool}(hp:dP s p q)(hg:s[nb]?=some (.lst (bs.map pS)))(hnp:nb≠p)(hnq:nb≠q)(hbl:bs.length<=7)(hbd:∀x∈bs,wL x)(hk:k < m)(hm:m<=12)
  (h:∀ln E,uq bs m ln->dP E p q->Kept p q s E->Q (n5 ln) E):wp (jv [.ref p,.ref nb,.int m,.int k,.bl on]) Q s:=by
 have l0:0<=eS:=bu _;have l2:2<=eS:=gQ (by ext);have l4:4<=eS:=gQ (by ext);simp only[jv,yd,↓wO,↓qM,↓ER,aI,lA,kF,rb,bp,fP,Nat.reduceAdd,Nat.reduceSub,iF,List.replicate_zero];refine X1 hp hg hk (λs1 L k1=>?_) (λs1 hon hz L k1=>?_)
 ·simp![l2];refine qU L (by ext) (by ext) λv s2 v0 v1 c k2=>?_;obtain⟨n,e⟩:=wI v0;subst e;simp![l2];exact h (.settle n) _ (by show n < 2;ext) c (k1.trans k2)
 ·have q2:∀Q,wp (getL nb) Q s1=Q (bs.map pS) s1:=λQ=>dR (k1.same hnp hnq hg);simp![↓q2,ae,aQ,if_false];refine qU L (by ext) (by ext) λbi s2 bi0 bi1 hp2 k2=>?_;obtain⟨b,eb⟩:=wI bi0;subst eb;have hb:b < bs.length:=by ext
  have U:bs[b]?=some bs[b]:=ag hb;obtain⟨ok,hst⟩:=hbd bs[b] (dA hb);generalize bs[b]=c at U ok hst;have q4:∀Q s,wp (cB (bs.map pS) (b:Int)) Q s=Q (.tup [lE c.S c.dn c.nx c.un,cj c.st]) s:=λQ s=>pX (by rw[aj,U];rfl);have ok0:=ok;obtain⟨o1,o2,o3,o4,o5⟩:=ok;have tb:wp (aU (lE c.S c.dn c.nx c.un) (.int 0))=λQ s=>Q (D.tup (bx c.dn λd=>D.tup [.int (c.nx 0 d:Nat),.int (c.un 0 d:Nat)])) s:=by funext Q s;unfold lE;rw[qp,TZ (by ext)]
  simp![↓dR ((k1.trans k2).same hnp hnq hg),↓q4,↓tb,mT];refine qU hp2 (by ext) (by ext) λdd o dd0 dd1 hp3 k3=>?_;obtain⟨d,ed⟩:=wI dd0;subst ed;have hd:d < c.dn:=by ext
  have hS:c.S<=eS:=gQ (by ext);have mu:∀Q s,wp (collect (aP 0) bT (c2 aU (c2 aU (ai 0) (ai 1)) (aR (.int 1))) dw (bx c.S λs=>.tup (bx c.dn λd=>D.tup [.int (c.nx s d:Nat),.int (c.un s d:Nat)])) [none,some (.int d)]) (λx E=>wp (tE x) Q E) s=Q (.int (mx (c.un · d) c.S:Nat)) s:=λQ s=>PY ok0 hd;have hmx:mx (c.un · d) c.S<=3:=WT λi hi=>by have:=(o5 i d hi hd).2;ext
  have hm1:(1+((mx (c.un · d) c.S:Nat):Int))=((1+mx (c.un · d) c.S:Nat):Int):=by ext
  have hb1:=vG (show 1+mx (c.un · d) c.S<=100 by ext);simp![l0,lE,gX,mT,hS,↓mu,hm1,hb1,bv,t5];have J:=(k1.trans k2).trans k3;have hp4:dP (o++[.lst []]) p q:=hp3.snoc;have k4:Kept p q s (o++[.lst []]):=J.snoc;have g4:(o++[MO.lst []])[o.length]?=some (.lst []):=by simp
  have hlp:=hp3.lt;have hs3:s.length<=o.length:=J.le;generalize o++[MO.lst []]=s4 at hp4 k4 g4;refine GG (n:=1+mx (c.un · d) c.S) (λi l E=>∃x9 B,l=[some (.ref p),some (.ref nb),some (.int m),some (.int k),some (.bl on),some (.int b),some (.tup (bx c.S λs=>.tup (bx c.dn λd=>D.tup [.int (c.nx s d:Nat),.int (c.un s d:Nat)]))),some (.int d),some (.ref o.length),x9]/\E[o.length]?=some (.lst (B.map cj))/\B.length=i/\(∀g∈B,g < m)/\dP E p q/\Kept p q s E) (λ_ _ _ _=>trivial) ⟨_,[],rfl,g4,rfl,by simp,hp4,k4⟩ (λRr i l E up hi hW=>?_) (λl E hW=>?_)
  ·obtain⟨x9,B,el,g,hl,T,H,O⟩:=hW;subst el;have app:∀v C,v < m->dP C p q->Kept p q E C->∃u:List Nat,(C.set o.length (.lst (B.map cj++[cj v])))[o.length]?=some (.lst (u.map cj))/\u.length=i+1/\(∀g∈u,g < m)/\dP (C.set o.length (.lst (B.map cj++[cj v]))) p q/\Kept p q s (C.set o.length (.lst (B.map cj++[cj v]))):=λv C Q G I=>by
    have Y:C[o.length]?=some (.lst (B.map cj)):=I.same (by ext) (by ext) g;refine⟨B++[v],by rw[ao (f_ Y)];simp,by simp[hl],λx c=>?_,G.put (by ext) (by ext),(O.trans I).put hs3⟩;rcases aB.mp c with c|c
    ·exact T x c
    ·rw[ax]at c;rw[c];exact Q
   have J:B.length < eS:=nB (by ext);cases on with
   |true=>
    have U:=hon rfl;simp![if_true];refine qU H (by ext) (by ext) λr C l L G I=>?_;obtain⟨v,h⟩:=wI l;subst h;have Y:C[o.length]?=some (.lst (B.map cj)):=I.same (by ext) (by ext) g;have h:D.int ((k:Int)+1+(v:Int))=cj (k+1+v):=by unfold cj;congr 1
    simp![↓dR Y,↓mE Y,ae,J,h];obtain⟨u,z⟩:=app (k+1+v) C (by ext) G I;exact up ⟨_,u,rfl,z⟩
   |false=>
    simp![aQ,if_false];refine qU H (by ext) (by ext) λr C l L G I=>?_;obtain⟨v,h⟩:=wI l;subst h;have Y:C[o.length]?=some (.lst (B.map cj)):=I.same (by ext) (by ext) g;simp![↓dR Y,↓mE Y,ae,J];obtain⟨u,z⟩:=app v C (by ext) G I;exact up ⟨_,u,rfl,z⟩
  ·obtain⟨x9,B,el,g,hl,T,H,O⟩:=hW;subst el;simp![↓dR g,l4];exact h (.act b d B) _ ⟨c,U,hd,hl,T⟩ H O
end
open PySem (Str)
section
variable{p q:Nat}{s s1 s2:a_}{Q:D->a_->Prop}
theorem Sa{H:Nat}{bs:List Bd}{m:Nat}{Q:Bool}{A:List D->a_->Prop}(hp:dP s p q)(hg:s[H]?=some (.lst (bs.map pS)))(G:H≠p)(E:H≠q)(T:bs.length<=7)(U:∀x∈bs,wL x)(hm:m<=12)
  (h:∀(g:List Ln)C,g.length=m->(∀l∈g,uq bs m l)->dP C p q->Kept p q s C->A (g.map n5) C):
  wp (collect (aP 0) bT (bN jv (az (ai 1) (az (ai 2) (az (ai 3) (az (ai 0) (az (ai 4) bh)))))) dw (bx m λi=>.int i) [none,some (.ref p),some (.ref H),some (.int m),some (.bl Q)]) A s:=by
 refine IC (λi u C=>∃g:List Ln,u=g.map n5/\g.length=i/\(∀l∈g,uq bs m l)/\dP C p q/\Kept p q s C) (λ_ _ _ _=>trivial) ⟨[],rfl,rfl,by simp,hp,Kept.refl⟩ (λRr i u s1 up hi hW=>?_) (λu s1 o=>by obtain⟨g,Y,O,B,v,I⟩:=o;rw[Y];exact h g s1 O B v I);obtain⟨g,Y,O,B,v,I⟩:=hW;simp![];refine Qk v (I.same G E hg) G E T U hi hm λln s2 L J k2=>?_;refine up ⟨g++[ln],by rw[Y];simp,by simp[O],λl c=>?_,J,I.trans k2⟩;rcases aB.mp c with c|c
 ·exact B l c
 ·rw[ax]at c;rw[c];exact L
theorem X7{r:Nat}(h:r < 8){Q:D->a_->Prop}{s:a_}(c:∀n:Nat,n<=4->Q (.int n) s):wp (cB [.int 0,.int 1,.int 1,.int 2,.int 2,.int 3,.int 1,.int 4] (r:Int)) Q s:=by have:r=0\/r=1\/r=2\/r=3\/r=4\/r=5\/r=6\/r=7:=(by decide:∀r,r < 8->(r=0\/r=1\/r=2\/r=3\/r=4\/r=5\/r=6\/r=7)) r h;rcases this with e|e|e|e|e|e|e|e<;>subst e<;>rw[pX (i:=_) rfl]<;>first|exact c 0 (by ext)|exact c 1 (by ext)|exact c 2 (by ext)|exact c 3 (by ext)|exact c 4 (by ext)
noncomputable def mS:Nat->Nat
 |0=>4
 |1=>4
 |2=>3
 |_=>2
noncomputable def Mp:Nat->Nat
 |0=>8
 |1=>8
 |2=>6
 |3=>6
 |_=>4
noncomputable def Na:Nat->Nat
 |0=>4
 |1=>4
 |2=>3
 |3=>3
 |_=>2
def mL(n c:Nat):Nat:=if n=2 then Mp c else Na c
theorem wA{r:Nat}(h:r<=4):r=0\/r=1\/r=2\/r=3\/r=4:=(by decide:∀r,r < 5->(r=0\/r=1\/r=2\/r=3\/r=4)) r (Nat.lt_succ_of_le h)
theorem Pu{r:Nat}(h:r<=4){Q:D->a_->Prop}{s:a_}:wp (cB [.int 4,.int 4,.int 3,.int 2,.int 2] (r:Int)) Q s=Q (.int (mS r)) s:=by rcases wA h with e|e|e|e|e<;>subst e<;>rw[pX (i:=_) rfl]<;>rfl
theorem S3{r:Nat}(h:r<=4){Q:D->a_->Prop}{s:a_}:wp (cB [.int 8,.int 8,.int 6,.int 6,.int 4] (r:Int)) Q s=Q (.int (Mp r)) s:=by rcases wA h with e|e|e|e|e<;>subst e<;>rw[pX (i:=_) rfl]<;>rfl
theorem Wm{r:Nat}(h:r<=4){Q:D->a_->Prop}{s:a_}:wp (cB [.int 4,.int 4,.int 3,.int 3,.int 2] (r:Int)) Q s=Q (.int (Na r)) s:=by rcases wA h with e|e|e|e|e<;>subst e<;>rw[pX (i:=_) rfl]<;>rfl
theorem JT{r:Nat}(h:r<=4):1<=mS r/\mS r<=4:=by rcases wA h with e|e|e|e|e<;>subst e<;>decide
theorem Ks{n r:Nat}(h:r<=4):1<=mL n r/\mL n r<=8:=by unfold mL;split<;>(rcases wA h with e|e|e|e|e<;>subst e<;>decide)
def wa(x:Hs):Prop:=kH x/\x.boards.length<=4/\(∀b∈x.boards,b.S<=mS x.boards.length)/\∀y∈x.hands,y.lines.length<=mL x.hands.length x.boards.length
theorem Ym{w k:Int}{l:Loc}{Q:D->a_->Prop}{s:a_}(c:l[8]?=some (some (.int w)))(g:l[3]?=some (some (.int k)))(h:∀b,Q (.bl b) s):wp (CK (c2 zk (ai 8) (aR (.int 2))) (tY (c2 lR (ai 8) (aR (.int 2))) (c2 vL (ai 3) (aR (.int 0)))) l) Q s:=by
 simp![c,g];by_cases a:w < 2
 ·have:decide (w < 2)=true:=bF a;rw[this];simp only[ut];exact h _
 ·have:decide (w < 2)=false:=aT a;rw[this];simp only[uG];by_cases b:w=2
  ·have:(w == 2)=true:=by simp[b]
   rw[this];simp only[ut];exact h _
  ·have:(w == 2)=false:=by simp[b]
   rw[this];simp only[uG];exact h _
theorem XW(hp:dP s p q)(h:∀x o,wa x->dP o p q->Kept p q s o->Q (kC x) o):wp (jA [.ref p]) Q s:=by
 have l0:0<=eS:=bu _;have l2:2<=eS:=gQ (by ext);have l8:8<=eS:=gQ (by ext);have l5:5<=eS:=gQ (by ext)
 (simp![jA];simp![j2,l0,l8])
 have hp1:dP (s++[.lst []]) p q:=hp.snoc;have k1:Kept p q s (s++[.lst []]):=Kept.refl.snoc;have g1:(s++[MO.lst []])[s.length]?=some (.lst []):=by simp
 have hlt:=hp.lt;generalize s++[MO.lst []]=s1 at hp1 k1 g1;refine qU hp1 (by ext) (by ext) λr s2 r0 r1 hp2 k2=>?_;obtain⟨rn,er⟩:=wI r0;subst er;have g2:s2[s.length]?=some (.lst []):=k2.same (by ext) (by ext) g1;have k12:=k1.trans k2;simp![];refine X7 (by ext) λcnt B=>?_;have iS:∀(Q:D->a_->Prop)s,wp (cB [.int 4,.int 4,.int 3,.int 2,.int 2] (cnt:Int)) Q s=Q (.int (mS cnt)) s:=λQ s=>Pu B;have bS:=JT B;have hb:=vG (show cnt<=100 by ext);simp![hb,bv,t5];refine GG (n:=cnt) (λi l o=>∃x3 x4 bs,l=[some (.ref p),some (.ref s.length),some (.int cnt),x3,x4,none,none,none,none,none,none,none,none]/\o[s.length]?=some (.lst (bs.map pS))/\bs.length=i/\(∀x∈bs,wL x/\x.S<=mS cnt)/\dP o p q/\Kept p q s o) (λ_ _ _ _=>trivial) ⟨_,_,[],rfl,g2,rfl,by simp,hp2,k12⟩ (λRr i l o up hi hW=>?_) (λl o hW=>?_)
 ·obtain⟨x3,x4,bs,el,g,hl,L,hp',hk'⟩:=hW;subst el;simp![l5,↓iS];refine Rl (mo:=(mS cnt:Int)) (by ext) (by ext) hp' λS q nx un s3 ok B hp3 k3=>?_;have w1:wp (gR (lE S q nx un))=λQ s=>Q (.int S) s:=by funext Q s;unfold lE;rw[wR,mT]
  simp![↓w1];have E:=ok.1;have C:=ok.2.1;refine qU hp3 (by ext) (by ext) λst Y h v hp4 k4=>?_;obtain⟨c,o⟩:=wI h;subst o;have l:Y[s.length]?=some (.lst (bs.map pS)):=(k3.trans k4).same (by ext) (by ext) g;have l3:bs.length < eS:=nB (by ext);simp![↓dR l,↓mE l,l2,l3,ae];refine up ⟨_,_,bs++[⟨S,q,nx,un,c⟩],rfl,by rw[ao (f_ l)];simp[pS,cj],by simp[hl],λx u=>?_,hp4.put (by ext) (by ext),((hk'.trans k3).trans k4).put (ar _)⟩;rcases aB.mp u with u|u
  ·exact L x u
  ·rw[ax]at u;rw[u];exact⟨⟨ok,by show c < S;ext⟩,by show S<=mS cnt;ext⟩
 ·obtain⟨x3,x4,bs,el,g,hl,L,hp',hk'⟩:=hW;subst el;simp![l0];have hp3:dP (o++[.lst []]) p q:=hp'.snoc;have k3:Kept p q s (o++[.lst []]):=hk'.snoc;have g3:(o++[MO.lst []])[o.length]?=some (.lst []):=by simp
  have g3':(o++[MO.lst []])[s.length]?=some (.lst (bs.map pS)):=by rw[aw (f_ g)];exact g
  have hlt':=hp'.lt;have v:=hk'.le;have hgl:=f_ g;generalize o++[MO.lst []]=s3 at hp3 k3 g3 g3';refine qU hp3 (by ext) (by ext) λr3 Y r30 r31 hp4 k4=>?_;have hn:∃n:Nat,(n=2\/n=3)/\(2+(if r3=0 then (1:Int) else 0))=(n:Int):=by
   by_cases e:r3=0
   ·exact⟨3,.inr rfl,by simp[e]⟩
   ·exact⟨2,.inl rfl,by simp[e]⟩
  obtain⟨n,hn23,en⟩:=hn;have hb:=vG (show n<=100 by ext);obtain⟨mm,LL,gm,hit,hLL⟩:∃(mm:Nat)(LL:List D),(Y++[MO.lst [.int 8,.int 8,.int 6,.int 6,.int 4]]++[MO.lst [.int 4,.int 4,.int 3,.int 3,.int 2]])[mm]?=some (.lst LL)/\(∀(Q:D->a_->Prop)s,wp (cB [.ref Y.length,.ref (Y++[MO.lst [.int 8,.int 8,.int 6,.int 6,.int 4]]).length] ((n:Int)-2)) Q s=Q (.ref mm) s)/\∀(Q:D->a_->Prop)s,wp (cB LL (cnt:Int)) Q s=Q (.int (mL n cnt)) s:=by
   rcases hn23 with rfl|rfl
   ·exact⟨_,_,m4 mR,λQ s=>by rw[show ((2:Nat):Int)-2=0 from rfl,sG],λQ s=>S3 B⟩
   ·exact⟨_,_,mR,λQ s=>by rw[show ((3:Nat):Int)-2=1 from rfl,sy],λQ s=>Wm B⟩
  have qm:∀Q,wp (getL mm) Q (Y++[MO.lst [.int 8,.int 8,.int 6,.int 6,.int 4]]++[MO.lst [.int 4,.int 4,.int 3,.int 3,.int 2]])=Q LL _:=λQ=>dR gm;have bL:=Ks (n:=n) B;simp![en,l2,l5,↓hit,↓qm,↓hLL];have hp4':dP (Y++[MO.lst [.int 8,.int 8,.int 6,.int 6,.int 4]]++[MO.lst [.int 4,.int 4,.int 3,.int 3,.int 2]]) p q:=hp4.snoc.snoc;have k4':Kept p q s3 (Y++[MO.lst [.int 8,.int 8,.int 6,.int 6,.int 4]]++[MO.lst [.int 4,.int 4,.int 3,.int 3,.int 2]]):=k4.snoc.snoc;clear gm hit qm;generalize Y++[MO.lst [.int 8,.int 8,.int 6,.int 6,.int 4]]++[MO.lst [.int 4,.int 4,.int 3,.int 3,.int 2]]=s4' at hp4' k4'
  replace k4:=k4'
  have en':(2+(if (r3 == 0)=true then (1:Int) else 0))=(n:Int):=by rw[<- en];simp
  rw[en'];refine qU hp4' (by ext) (by ext) λway s5 w0 w1 hp5 k5=>?_;simp![en,hb,bv,t5];have g5:s5[o.length]?=some (.lst []):=(k4.trans k5).same (by ext) (by ext) g3;have g5':s5[s.length]?=some (.lst (bs.map pS)):=(k4.trans k5).same (by ext) (by ext) g3';have k35:=(k3.trans k4).trans k5;have J:∀x∈bs,wL x:=λx u=>(L x u).1;refine GG (n:=n) (λi l s''=>∃x3 x8 x9 x10 x11 c,l=[some (.ref p),some (.ref s.length),some (.int cnt),x3,x4,some (.ref o.length),some (.int n),some (.int (mL n cnt)),some (.int way),x8,x9,x10,x11]/\s''[o.length]?=some (.lst (c.map nS))/\s''[s.length]?=some (.lst (bs.map pS))/\c.length=i/\(∀x∈c,zu bs x/\x.lines.length<=mL n cnt)/\dP s'' p q/\Kept p q s s'') (λ_ _ _ _=>trivial) ⟨_,_,_,_,_,[],rfl,g5,g5',rfl,by simp,hp5,k35⟩ (λRr i l s6 up hi hW=>?_) (λl s6 hW=>?_)
  ·obtain⟨x3,x8,x9,x10,x11,c,el,ga,gb,hl2,G,hp6,k6⟩:=hW;subst el
   try simp![]
   refine qU hp6 (by ext) (by ext) λr U r0 r1 hp7 k7=>?_;obtain⟨rn,er⟩:=wI r0;subst er;have hm:(1+(rn:Int))=((1+rn:Nat):Int):=by ext
   simp only[↓Aj,↓EJ,↓qM,↓wM,hm];have hm1:1<=1+rn:=by ext
   have hm8:1+rn<=8:=by ext
   have hmm:1+rn<=mL n cnt:=by ext
   try rw[hm]
   generalize 1+rn=m at hm1 hm8 hmm;refine Ym rfl rfl λon=>?_;have hbm:=vG (show m<=100 by ext);have hlm:m<=eS:=gQ (by ext);simp![hbm,bv,t5,mT,hlm,gX];refine Sa hp7 (k7.same (by ext) (by ext) gb) (by ext) (by ext) (by ext) J (by ext) λI s8 hll hls hp8 k8=>?_
   try simp![]
   refine qU hp8 (by ext) (by ext) λv1 s9 v10 v11 hp9 k9=>?_;obtain⟨O,eb1⟩:=wI v10;subst eb1;simp![l2];refine qU hp9 (by ext) (by ext) λt sa t0 t1 L ka=>?_;have l3:c.length < eS:=nB (by ext);have app:∀(h O:Nat)T,h < m->O < m->dP T p q->Kept p q s6 T->∃v:List Hd,(T.set o.length (.lst (c.map nS++[.tup [.tup [.int h,.int O],.tup (I.map n5)]])))[o.length]?=some (.lst (v.map nS))/\(T.set o.length (.lst (c.map nS++[.tup [.tup [.int h,.int O],.tup (I.map n5)]])))[s.length]?=some (.lst (bs.map pS))/\v.length=i+1/\(∀x∈v,zu bs x/\x.lines.length<=mL n cnt)/\dP (T.set o.length (.lst (c.map nS++[.tup [.tup [.int h,.int O],.tup (I.map n5)]]))) p q/\Kept p q s (T.set o.length (.lst (c.map nS++[.tup [.tup [.int h,.int O],.tup (I.map n5)]]))):=λh O T E h1 B C=>by
    have H:T[o.length]?=some (.lst (c.map nS)):=C.same (by ext) (by ext) ga;refine⟨c++[⟨h,O,I⟩],by rw[ao (f_ H)];simp[nS,cj],by rw[af (by ext)];exact C.same (by ext) (by ext) gb,by simp[hl2],λx u=>?_,B.put (by ext) (by ext),(k6.trans C).put v⟩;rcases aB.mp u with u|u
    ·exact G x u
    ·rw[ax]at u;rw[u];exact⟨⟨by show h < I.length;ext,by show O < I.length;ext,by show I.length<=12;ext,by show ∀l∈I,uq bs I.length l;rw[hll];exact hls⟩,by show I.length<=mL n cnt;ext⟩
   have g:=((k7.trans k8).trans k9).trans ka;by_cases ht:t=1
   ·subst ht;simp![l2,if_true];refine qU L (by ext) (by ext) λv2 T Y G B C=>?_;obtain⟨J,q⟩:=wI Y;subst q
    try simp![l2]
    refine qU B (by ext) (by ext) λO sc Q E h u=>?_;obtain⟨I,l⟩:=wI Q;subst l;have H:sc[o.length]?=some (.lst (c.map nS)):=((g.trans C).trans u).same (by ext) (by ext) ga;simp![l2,↓dR H,↓mE H,ae,l3];obtain⟨v,z⟩:=app J I sc (by ext) (by ext) h ((g.trans C).trans u);exact up ⟨_,_,_,_,_,v,rfl,z⟩
   ·have H:sa[o.length]?=some (.lst (c.map nS)):=g.same (by ext) (by ext) ga;simp![l2,↓dR H,↓mE H,ae,l3];rw[aA ht];obtain⟨v,z⟩:=app 0 O sa (by ext) (by ext) L g;exact up ⟨_,_,_,_,_,v,rfl,z⟩
  ·obtain⟨x3,x8,x9,x10,x11,c,el,ga,gb,hl2,G,hp6,k6⟩:=hW;subst el
   try simp![]
   refine qU hp6 (by ext) (by ext) λt U t0 t1 hp7 k7=>?_;have H:U[o.length]?=some (.lst (c.map nS)):=k7.same (by ext) (by ext) ga;have v:U[s.length]?=some (.lst (bs.map pS)):=k7.same (by ext) (by ext) gb;by_cases ht:t=0
   ·subst ht;obtain⟨E,g,B⟩:∃E g,c=E::g:=by
     cases c with
     |nil=>simp at hl2;ext
     |cons a b=>exact⟨a,b,rfl⟩
    have T:∀Q s,wp (cB (c.map nS) 0) Q s=Q (nS E) s:=λQ s=>by rw[B,aI,sG]
    have ix:MM.my (c.map nS).length (-1)=some (c.length-1):=by unfold MM.my;rw[ae,aA (by ext),aE (by ext)];congr 1;ext
    have e9:(c.map nS).set (c.length-1) (nS E)=(c.set (c.length-1) E).map nS:=by rw[pO]
    have ge:∀C,(U.set o.length (MO.lst C))[s.length]?=some (.lst (bs.map pS)):=λC=>by rw[af (by ext)];exact v
    have Y:∀C,(U.set o.length (MO.lst C))[o.length]?=some (.lst C):=λC=>ao (f_ H);have O:∀C Q,wp (getL s.length) Q (U.set o.length (MO.lst C))=Q (bs.map pS) (U.set o.length (MO.lst C)):=λC Q=>dR (ge C);have I:∀C Q,wp (getL o.length) Q (U.set o.length (MO.lst C))=Q C (U.set o.length (MO.lst C)):=λC Q=>dR (Y C);simp![if_true,↓dR H,↓T,↓sx,ix,↓mE H,e9,↓O,↓I,l2];have q:(c.set (c.length-1) E).length=n:=by rw[cw];ext
    have mem:∀x∈c.set (c.length-1) E,zu bs x/\x.lines.length<=mL n cnt:=λx u=>by
     rcases List.mem_or_eq_of_mem_set u with u|u
     ·exact G x u
     ·rw[u];exact G E (by rw[B];simp)
    exact h ⟨bs,c.set (c.length-1) E⟩ _ ⟨⟨by show bs.length<=7;ext,J,by show 2<=(c.set (c.length-1) E).length;ext,by show (c.set (c.length-1) E).length<=3;ext,λx u=>(mem x u).1⟩,by show bs.length<=4;ext,by show ∀b∈bs,b.S<=mS bs.length;rw[hl];exact λb hb=>(L b hb).2,by show ∀y∈c.set (c.length-1) E,y.lines.length<=mL (c.set (c.length-1) E).length bs.length;rw[q,hl];exact λy l=>(mem y l).2⟩ (hp7.put (by ext) (by ext)) ((k6.trans k7).put (by ext))
   ·simp![↓dR H,↓dR v,l2];rw[aA ht];exact h ⟨bs,c⟩ _ ⟨⟨by show bs.length<=7;ext,J,by show 2<=c.length;ext,by show c.length<=3;ext,λx u=>(G x u).1⟩,by show bs.length<=4;ext,by show ∀b∈bs,b.S<=mS bs.length;rw[hl];exact λb hb=>(L b hb).2,by show ∀y∈c,y.lines.length<=mL c.length bs.length;rw[hl2,hl];exact λy l=>(G y l).2⟩ hp7 (k6.trans k7)
end
open PySem (Str)
theorem IN:((("settle":Str)) == "settle")=true:=by nofun
theorem KU:((("do":Str)) == "settle")=false:=by nofun
noncomputable def d0(h:Hs)(s:Sd)(k:Nat):Ln:=((h.hands[k]?.bind λhd=>s.ls[k]?.bind λl=>hd.lines[l]?)).getD (.settle 0)
def kD(h:Hs)(s:Sd)(k:Nat):Sd:=match d0 h s k with
 | .settle _=>s
 | .act b d gs=>match h.boards[b]?,s.ss[b]? with
  |some bd,some x=>⟨s.ls.set k ((gs[bd.un x d]?).getD 0),s.ss.set b (bd.nx x d)⟩
  |_,_=>s
section
variable{p q:Nat}{s s1 s2:a_}{Q:D->a_->Prop}{h:Hs}{st:Sd}
theorem C5{xs:List Nat}{i x:Nat}{Q:D->a_->Prop}{s:a_}(h:xs[i]?=some x):wp (cB (xs.map cj) (i:Int)) Q s=Q (.int (x:Nat)) s:=pX (by rw[aj,h];rfl)
theorem Fo{k:Nat}(hh:kH h)(v:k_ h st)(B:k < h.hands.length):∃hd l,h.hands[k]?=some hd/\st.ls[k]?=some l/\l < hd.lines.length/\hd.lines[l]?=some (d0 h st k)/\uq h.boards hd.lines.length (d0 h st k):=by
 have c:h.hands[k]?=some h.hands[k]:=ag B;have o:k < st.ls.length:=by rw[v.1];exact B
 have u:st.ls[k]?=some st.ls[k]:=ag o;have g:=v.2.2.1 k _ _ c u;have E:h.hands[k].lines[st.ls[k]]?=some (h.hands[k].lines[st.ls[k]]):=ag g;have C:d0 h st k=h.hands[k].lines[st.ls[k]]:=by unfold d0;rw[c,u];simp only[Option.bind_some,E,fA]
 refine⟨_,_,c,u,g,by rw[E,C],?_⟩;rw[C];exact (hh.2.2.2.2 _ (ay c)).2.2.2 _ (dA g)
theorem Mi{k:Nat}(hh:kH h)(u:k_ h st)(v:k < h.hands.length):wp (jg [kC h,bO st,.int k]) Q s=Q (n5 (d0 h st k)) s:=by
 obtain⟨hd,l,E,C,G,B,_⟩:=Fo hh u v;have o:∀Q s,wp (cB (h.hands.map nS) (k:Int)) Q s=Q (.tup [.tup [cj hd.b0,cj hd.b1],.tup (hd.lines.map n5)]) s:=λQ s=>pX (by rw[aj,E];rfl);have g:∀Q s,wp (cB (st.ls.map cj) (k:Int)) Q s=Q (.int (l:Nat)) s:=λQ s=>C5 C;have c:∀Q s,wp (cB (hd.lines.map n5) (l:Int)) Q s=Q (n5 (d0 h st k)) s:=λQ s=>pX (by rw[aj,B];rfl)
 (simp![jg];simp![yi,kC,bO,↓o,↓g,↓c])
theorem N8{k:Nat}(hh:kH h)(u:k_ h st)(v:k < h.hands.length):wp (jt [kC h,bO st,.int k]) Q s=Q (n5 (d0 h st k)) s:=by
 obtain⟨hd,l,E,C,G,B,_⟩:=Fo hh u v;have o:∀Q s,wp (cB (h.hands.map nS) (k:Int)) Q s=Q (.tup [.tup [cj hd.b0,cj hd.b1],.tup (hd.lines.map n5)]) s:=λQ s=>pX (by rw[aj,E];rfl);have g:∀Q s,wp (cB (st.ls.map cj) (k:Int)) Q s=Q (.int (l:Nat)) s:=λQ s=>C5 C;have c:∀Q s,wp (cB (hd.lines.map n5) (l:Int)) Q s=Q (n5 (d0 h st k)) s:=λQ s=>pX (by rw[aj,B];rfl)
 (simp![jt];simp![yn,kC,bO,↓o,↓g,↓c])
theorem Ji{b d:Nat}{B:List Nat}{m:Nat}(hh:kH h)(C:k_ h st)(G:uq h.boards m (.act b d B)):∃c x g,h.boards[b]?=some c/\st.ss[b]?=some x/\x < c.S/\d < c.dn/\B[c.un x d]?=some g/\g < m/\c.nx x d < c.S/\tJ c.S c.dn c.nx c.un:=by
 obtain⟨c,l,hd,H,u⟩:=G;have I:=(ac.mp l).1;have v:b < st.ss.length:=by rw[C.2.1];exact I
 have E:st.ss[b]?=some st.ss[b]:=ag v;have o:=C.2.2.2 b c _ l E;obtain⟨ok,_⟩:=hh.2.1 c (ay l);have hu:c.un st.ss[b] d < B.length:=by rw[H];have:c.un st.ss[b] d<=mx (c.un · d) c.S:=RL (f:=(c.un · d)) o;ext
 exact⟨c,_,_,l,E,o,hd,ag hu,u _ (dA hu),(ok.2.2.2.2 _ _ o hd).1,ok⟩
theorem Ny{xs:List D}{i:Nat}{v:D}(u:i < xs.length)(E:xs.length<=100):wp (jh [.tup xs,.int i,v]) Q s=Q (.tup (xs.set i v)) s:=by
 have c1:¬(gY xs.length 0 none=0/\gY xs.length xs.length (some (i:Int))=xs.length):=by unfold gY;simp only[bv];rw[aA (by ext)];ext
 have c:¬(gY xs.length 0 (some ((i:Int)+1))=0/\gY xs.length xs.length none=xs.length):=by unfold gY;dsimp only;rw[aA (by ext)];ext
 have C:cutD xs none (some (i:Int))=xs.take i:=by unfold cutD gY;simp only[bv];rw[aA (by ext),nW];congr 1;ext
 have B:cutD xs (some ((i:Int)+1)) none=xs.drop (i+1):=by
  unfold cutD gY;have:(if (i:Int)+1 < 0 then ((i:Int)+1+(xs.length:Int)).toNat else min ((i:Int)+1).toNat xs.length)=i+1:=by rw[aA (by ext)];ext
  simp only[this];exact ul (by rw[kE];exact ar _)
 have o:1<=eS:=gQ (by ext);have l:(xs.take i).length+1<=eS:=gQ (by rw[bE];ext);have g:(xs.take i++[v]).length+(xs.drop (i+1)).length<=eS:=gQ (by rw[au,bE,kE];simp;ext)
 (simp![jh];simp![yf,c1,c,not_false_eq_true,C,B,o,l])
 rw[List.set_eq_take_append_cons_drop,aE u];have:xs.take i++[v]++xs.drop (i+1)=xs.take i++v::xs.drop (i+1):=by simp
 rw[this];exact propext ⟨λz=>z.2,λz=>⟨g,z⟩⟩
theorem Ir{b d k:Nat}{l:List Nat}{c:Bd}{x g:Nat}(e:d0 h st k=.act b d l)(v:h.boards[b]?=some c)(u:st.ss[b]?=some x)(o:l[c.un x d]?=some g):kD h st k=⟨st.ls.set k g,st.ss.set b (c.nx x d)⟩:=by unfold kD;rw[e];dsimp only;rw[v,u];dsimp only;rw[o];rfl
theorem Ij{v k:Nat}(e:d0 h st k=.settle v):kD h st k=st:=by unfold kD;rw[e]
theorem T4{k:Nat}(hh:kH h)(o:k_ h st)(T:k < h.hands.length):k_ h (kD h st k):=by
 obtain⟨hd,l,e1,Q,hl,e3,ok⟩:=Fo hh o T;cases el:d0 h st k with
 |settle v=>rw[Ij el];exact o
 |act b d gs=>
  rw[el]at ok;obtain⟨bd,x,g,O,L,f3,f4,q,Y,U,f8⟩:=Ji hh o ok;rw[Ir el O L q];refine⟨by show (st.ls.set k g).length=_;rw[cw];exact o.1,by show (st.ss.set b _).length=_;rw[cw];exact o.2.1,λB C J u H=>?_,λG E I u H=>?_⟩
  ·have c:(st.ls.set k g)[B]?=some J:=H;by_cases e:k=B
   ·subst e;rw[e1]at u;cases u;rw[ao (ac.mp Q).1]at c;cases c;exact Y
   ·rw[af e]at c;exact o.2.2.1 B C J u c
  ·have c:(st.ss.set b (bd.nx x d))[G]?=some I:=H;by_cases e:b=G
   ·subst e;rw[O]at u;cases u;rw[ao (ac.mp L).1]at c;cases c;exact U
   ·rw[af e]at c;exact o.2.2.2 G E I u c
theorem X6{c:Bd}{x d:Nat}(g:x < c.S)(hd:d < c.dn):wp (jl [lE c.S c.dn c.nx c.un,.int x,.int d]) Q s=Q (.int (c.nx x d:Nat)) s:=by (simp![jl];simp![jZ,lE,↓vP g,↓vP hd])
theorem Wp{c:Bd}{x d:Nat}(g:x < c.S)(hd:d < c.dn):wp (jI [lE c.S c.dn c.nx c.un,.int x,.int d]) Q s=Q (.int (c.un x d:Nat)) s:=by (simp![jI];simp![ym,lE,↓vP g,↓vP hd])
theorem OG{xs:List Nat}{i v:Nat}:(xs.map cj).set i (.int (v:Nat))=(xs.set i v).map cj:=by rw[pO];rfl
theorem WJ{k:Nat}(hh:kH h)(o:k_ h st)(B:k < h.hands.length):wp (jD [kC h,bO st,.int k]) Q s=Q (bO (kD h st k)) s:=by
 obtain⟨hd,l,e1,e2,hl,e3,ok⟩:=Fo hh o B;have w:∀Q s,wp (jg [kC h,bO st,.int k]) Q s=Q (n5 (d0 h st k)) s:=λQ s=>Mi hh o B;cases el:d0 h st k with
 |settle v=>
  rw[Ij el];rw[el]at w;simp only[n5]at w
  (simp![jD];simp![ya,↓w,IN])
 |act b d gs=>
  rw[el]at ok w;obtain⟨c,x,g,U,E,T,O,L,f6,f7,f8⟩:=Ji hh o ok;rw[Ir el U E L];simp only[n5]at w;have u:k < (st.ls.map cj).length:=by rw[ae,o.1];exact B
  have C:b < (st.ss.map cj).length:=by rw[ae];exact (ac.mp E).1
  have z1:=o.1;have z2:=o.2.1;have z3:=hh.1;have z4:=hh.2.2.2.1;have w1:∀Q s,wp (cB (h.boards.map pS) (b:Int)) Q s=Q (.tup [lE c.S c.dn c.nx c.un,cj c.st]) s:=λQ s=>pX (by rw[aj,U];rfl);have J:∀Q s,wp (cB (st.ss.map cj) (b:Int)) Q s=Q (.int (x:Nat)) s:=λQ s=>C5 E;have I:∀Q s,wp (cB (gs.map cj) ((c.un x d:Nat):Int)) Q s=Q (.int (g:Nat)) s:=λQ s=>C5 L;have q:∀Q s,wp (jI [lE c.S c.dn c.nx c.un,.int x,.int d]) Q s=Q (.int (c.un x d:Nat)) s:=λQ s=>Wp T O;have Y:∀Q s,wp (jl [lE c.S c.dn c.nx c.un,.int x,.int d]) Q s=Q (.int (c.nx x d:Nat)) s:=λQ s=>X6 T O;have H:∀Q s,wp (jh [.tup (st.ls.map cj),.int k,.int g]) Q s=Q (.tup ((st.ls.map cj).set k (.int g))) s:=λQ s=>Ny u (by rw[ae];ext);have G:∀Q s,wp (jh [.tup (st.ss.map cj),.int b,.int (c.nx x d:Nat)]) Q s=Q (.tup ((st.ss.map cj).set b (.int (c.nx x d:Nat)))) s:=λQ s=>Ny C (by rw[ae];ext);have l2:2<=eS:=gQ (by ext);unfold cj at w;have nd:∀n:Nat,D.int (n:Int)=cj n:=λ_=>rfl
  (simp![jD];simp![ya,↓w,KU,aQ,if_false])
  unfold kC bO;unfold cj at J I H G ⊢;simp![↓w1,↓J,↓I,↓q,↓Y,↓H,↓G,l2];rw[pO,pO]
theorem NC{k:Nat}(hh:kH h)(B:k_ h st)(G:k < h.hands.length)(C:∀T,dE s T->Q (bO (kD h st k)) T):wp (jf [kC h,bO st,.int k]) Q s:=by
 obtain⟨hd,l,e1,e2,hl,e3,ok⟩:=Fo hh B G;have w:∀Q s,wp (jt [kC h,bO st,.int k]) Q s=Q (n5 (d0 h st k)) s:=λQ s=>N8 hh B G;cases el:d0 h st k with
 |settle v=>
  rw[Ij el]at C;rw[el]at w;simp only[n5]at w
  (simp![jf];simp![jO,↓w,IN])
  exact C s (dE.refl _)
 |act b d gs=>
  rw[el]at ok w;obtain⟨o,x,g,q,J,f3,f4,Y,f6,f7,f8⟩:=Ji hh B ok;rw[Ir el q J Y]at C;simp only[n5]at w;have hkl:k < st.ls.length:=by rw[B.1];exact G
  have hbl:b < st.ss.length:=(ac.mp J).1;have l2:2<=eS:=gQ (by ext);unfold cj at w
  (simp![jf];simp![jO,↓w,KU,aQ,if_false])
  unfold kC bO;simp![];have O:dE s (s++[.lst (st.ls.map cj)]):=(dE.refl _).snoc _;have U:(s++[MO.lst (st.ls.map cj)])[s.length]?=some (.lst (st.ls.map cj)):=by simp
  have n1:(s++[MO.lst (st.ls.map cj)]).length=s.length+1:=by simp
  generalize s++[MO.lst (st.ls.map cj)]=s1 at O U n1;have L:dE s (s1++[.lst (st.ss.map cj)]):=O.snoc _;have I:(s1++[MO.lst (st.ss.map cj)])[s1.length]?=some (.lst (st.ss.map cj)):=by simp
  have E:(s1++[MO.lst (st.ss.map cj)])[s.length]?=some (.lst (st.ls.map cj)):=(dE.snoc (dE.refl _) _).at_ U;generalize s1++[MO.lst (st.ss.map cj)]=s2 at L I E;have w1:∀Q s,wp (cB (h.boards.map pS) (b:Int)) Q s=Q (.tup [lE o.S o.dn o.nx o.un,cj o.st]) s:=λQ s=>pX (by rw[aj,q];rfl);have w2:∀Q s,wp (cB (st.ss.map cj) (b:Int)) Q s=Q (.int (x:Nat)) s:=λQ s=>C5 J;have w3:∀Q s,wp (cB (gs.map cj) ((o.un x d:Nat):Int)) Q s=Q (.int (g:Nat)) s:=λQ s=>C5 Y;have H:∀c,(s2.set s.length (MO.lst c))[s1.length]?=some (.lst (st.ss.map cj)):=λc=>by rw[af (by ext)];exact I
  have q4:∀c Q,wp (getL s1.length) Q (s2.set s.length (MO.lst c))=Q (st.ss.map cj) (s2.set s.length (MO.lst c)):=λc Q=>dR (H c);have q5:∀c fs Q,wp (putL s1.length fs) Q (s2.set s.length (MO.lst c))=Q () ((s2.set s.length (MO.lst c)).set s1.length (.lst fs)):=λc fs Q=>mE (H c);have g6:∀c fs,((s2.set s.length (MO.lst c)).set s1.length (MO.lst fs))[s1.length]?=some (.lst fs):=λc fs=>ao (f_ (H c));have g7:∀c fs,((s2.set s.length (MO.lst c)).set s1.length (MO.lst fs))[s.length]?=some (.lst c):=λc fs=>by rw[af (by ext),ao (f_ E)]
  have q6:∀c fs Q,wp (getL s1.length) Q ((s2.set s.length (MO.lst c)).set s1.length (MO.lst fs))=Q fs ((s2.set s.length (MO.lst c)).set s1.length (MO.lst fs)):=λc fs Q=>dR (g6 c fs);have q7:∀c fs Q,wp (getL s.length) Q ((s2.set s.length (MO.lst c)).set s1.length (MO.lst fs))=Q c ((s2.set s.length (MO.lst c)).set s1.length (MO.lst fs)):=λc fs Q=>dR (g7 c fs);have i1:MM.my (st.ls.map cj).length (k:Int)=some k:=by unfold MM.my;rw[aE (by ext),aE (by rw[ae];ext)];rfl
  have i2:MM.my (st.ss.map cj).length (b:Int)=some b:=by unfold MM.my;rw[aE (by ext),aE (by rw[ae];ext)];rfl
  have tb:∀Q s,wp (aU (lE o.S o.dn o.nx o.un) (.int (x:Nat))) Q s=Q (.tup (bx o.dn λd=>D.tup [.int (o.nx x d:Nat),.int (o.un x d:Nat)])) s:=λQ s=>by unfold lE;rw[qp,vP f3]
  have u:=w3;unfold cj at u;simp![↓w1,↓dR I,↓w2,↓tb,↓vP f4,↓u,↓dR E,↓sx,i1,↓mE E,↓q4,i2,↓q5,↓q6,↓q7,l2];have fin:=C ((s2.set s.length (MO.lst ((st.ls.map cj).set k (.int (g:Nat))))).set s1.length (MO.lst ((st.ss.map cj).set b (.int (o.nx x d:Nat))))) ((L.put (ar _)).put (by ext));unfold bO at fin;dsimp only at fin;rw[<- OG,<- OG]at fin;exact fin
theorem Td{s:Sd}:Pd 2 (bO s):=.tup λd hd=>by
 have c:∀(xs:List Nat),Pd 1 (.tup (xs.map cj)):=λxs=>.tup λd hd=>by obtain⟨n,_,e⟩:=bz.mp hd;rw[<- e];exact .int _
 simp at hd;rcases hd with e|e<;>rw[e]<;>exact c _
theorem Xo{i:Int}:wp (jc [.int i]) Q s=Q (.bl true) s:=by (simp![jc];simp![j4])
end
open PySem (Str)
noncomputable def oM:Nat->List (List D)
 |0=>[[]]
 |n+1=>((oM n).map λx=>x++[.int 0])++((oM n).map λx=>x++[.int 1])
noncomputable def mw:Nat->List (List D)
 |0=>[[]]
 |n+1=>((mw n).map λx=>.int 0::x)++((mw n).map λx=>.int 1::x)
theorem M9:∀n,∀x∈oM n,x.length=n
 |0,x,h=>by simp[oM]at h;simp[h]
 |n+1,x,h=>by simp only[oM,aB,bz]at h;rcases h with ⟨y,c,e⟩|⟨y,c,e⟩<;>rw[<- e]<;>simp[M9 n y c]
theorem Oj:∀n,(oM n).length=2^n
 |0=>rfl
 |n+1=>by simp only[oM,au,ae,Oj n,nw];ext
theorem NA:∀n,(mw n).length=2^n
 |0=>rfl
 |n+1=>by simp only[mw,au,ae,NA n,nw];ext
theorem B8:∀n,∀x∈mw n,x.length=n/\∀(k:Nat)d,x[k]?=some d->d=.int 0\/d=.int 1
 |0,x,h=>by simp[mw]at h;simp[h]
 |n+1,x,h=>by
  simp only[mw,aB,bz]at h;rcases h with ⟨y,c,e⟩|⟨y,c,e⟩
  ·obtain⟨a,b⟩:=B8 n y c;rw[<- e];refine⟨by simp[a],λk d hd=>?_⟩;cases k with
   |zero=>exact .inl (by simpa using hd.symm)
   |succ k=>exact b k d (by simpa using hd)
  ·obtain⟨a,b⟩:=B8 n y c;rw[<- e];refine⟨by simp[a],λk d hd=>?_⟩;cases k with
   |zero=>exact .inr (by simpa using hd.symm)
   |succ k=>exact b k d (by simpa using hd)
theorem UW:t4 ((oM 2).map D.tup)=some ((mw 2).map D.tup):=by rfl
theorem Xk:t4 ((oM 3).map D.tup)=some ((mw 3).map D.tup):=by rfl
section
variable{s:a_}{Q:D->a_->Prop}{h:Hs}
theorem Po{xs:List (List D)}{v:Int}{n:Nat}{A:List D->a_->Prop}(g:s[n]?=some (.lst (xs.map D.tup)))(q:∀x∈xs,x.length<=100):wp (collect (aP 0) bT (c2 fm (ai 0) (cV (az (aR (.int v)) bh))) (io n (xs.map D.tup)) (xs.map D.tup) [none]) A s=A ((xs.map λx=>x++[.int v]).map D.tup) s:=by
 have o:1<=eS:=gQ (by ext);have:=@zZ (c2 fm (ai 0) (cV (az (aR (.int v)) bh))) (io n (xs.map D.tup)) (xs.map D.tup) [] (λi=>.tup ((xs.getD i [])++[.int v])) A s g (λi d hd Q=>by
  rw[aj]at hd;cases ex:xs[i]? with
  |none=>rw[ex]at hd;cases hd
  |some x=>
   rw[ex]at hd;have B:d=.tup x:=(aN hd).symm;subst B;have l:x.length+1<=eS:=gQ (by have:=q x (ay ex);ext);have u:xs.getD i []=x:=by rw[br,ex];rfl
   simp![o,l,u])
 rw[this,ae];congr 1;symm;apply KD
 ·simp
 ·intro i c;rw[aj,aj,ag c];simp[c]
theorem QU(U:h.hands.length=2\/h.hands.length=3)(T:∀r c,s.length<=r->c[r]?=some (.lst ((mw h.hands.length).map D.tup))->dE s c->Q (.ref r) c):wp (js [kC h]) Q s:=by
 have L:0<=eS:=bu _;have J:1<=eS:=gQ (by ext)
 (simp![js];simp![jX,kC,L,J])
 refine qJ (λi l c=>∃n B,l=[some (.tup [.tup (h.boards.map pS),.tup (h.hands.map nS)]),some (.ref n),B]/\c[n]?=some (.lst ((oM i).map D.tup))/\dE s c) (λ_ _ _ _=>trivial) ⟨_,_,rfl,by simp[oM],(dE.refl _).snoc _⟩ (λRw i d l c up rt hd C=>?_) (λl c C=>?_)
 ·obtain⟨n,B,el,g,ex⟩:=C;subst el;have Y:=(ac.mp hd).1;rw[ae]at Y;have J:=Oj i;have L:2^i<=8:=by
   have:i<=3:=by ext
   calc 2^i<=2^3:=Nat.pow_le_pow_right (by ext) this
    _=8:=rfl
  have o:∀x∈oM i,x.length<=100:=λx O=>by have:=M9 i x O;ext
  have G:(oM i).length<=eS:=gQ (by ext);have h:∀A,wp (collect (aP 0) bT (c2 fm (ai 0) (cV (az (aR (.int 0)) bh))) (io n ((oM i).map D.tup)) ((oM i).map D.tup) [none]) A c=A (((oM i).map λx=>x++[.int 0]).map D.tup) c:=λA=>Po g o;simp![↓dR g,gX,ae,G,↓h];have u:dE c (c++[.lst (((oM i).map λx=>x++[.int 0]).map D.tup)]):=(dE.refl _).snoc _;have I:(c++[MO.lst (((oM i).map λx=>x++[.int 0]).map D.tup)])[c.length]?=some (.lst (((oM i).map λx=>x++[.int 0]).map D.tup)):=by simp
  generalize c++[MO.lst (((oM i).map λx=>x++[.int 0]).map D.tup)]=q at u I;have E:∀A,wp (collect (aP 0) bT (c2 fm (ai 0) (cV (az (aR (.int 1)) bh))) (io n ((oM i).map D.tup)) ((oM i).map D.tup) [none]) A q=A (((oM i).map λx=>x++[.int 1]).map D.tup) q:=λA=>Po (u.at_ g) o;simp![↓dR (u.at_ g),gX,ae,G,↓E];have v:dE q (q++[.lst (((oM i).map λx=>x++[.int 1]).map D.tup)]):=(dE.refl _).snoc _;have H:(q++[MO.lst (((oM i).map λx=>x++[.int 1]).map D.tup)])[q.length]?=some (.lst (((oM i).map λx=>x++[.int 1]).map D.tup)):=by simp
  generalize q++[MO.lst (((oM i).map λx=>x++[.int 1]).map D.tup)]=l at v H;rw[NE (v.at_ I) H];refine⟨gQ (by simp;ext),?_⟩;simp![];refine up ⟨_,_,rfl,?_,((ex.trans u).trans v).snoc _⟩;simp[oM]
 ·obtain⟨n,B,el,g,ex⟩:=C;subst el;rw[ae]at g;have ks:t4 ((oM h.hands.length).map D.tup)=some ((mw h.hands.length).map D.tup):=by
   rcases U with e|e<;>rw[e]
   ·exact UW
   ·exact Xk
  have ws:∀Q,wp (oK (.ref n)) Q c=Q (.ref c.length) (c++[.lst ((mw h.hands.length).map D.tup)]):=λQ=>by unfold oK;rw[dF,dR g,ks];dsimp only;rw[fY]
  simp![↓ws];exact T _ _ ex.le (by simp) (ex.snoc _)
noncomputable def bf(h:Hs)(row:List D)(k:Nat):Nat:=match h.hands[k]?,row[k]? with
 |some hd,some (.int v)=>if v=0 then hd.b0 else hd.b1
 |_,_=>0
noncomputable def xK(h:Hs)(k:Nat):Nat:=(h.boards[k]?.map (·.st)).getD 0
def mj(h:Hs)(row:List D):Sd:=⟨bx h.hands.length (bf h row),bx h.boards.length (xK h)⟩
theorem Vm{row:List D}(hh:kH h)(E:row∈mw h.hands.length):k_ h (mj h row):=by
 obtain⟨C,c⟩:=B8 _ row E;refine⟨mT,mT,λk hd l g u=>?_,λb H x g u=>?_⟩
 ·obtain⟨G,el⟩:=B9 u;obtain⟨B,o,_⟩:=hh.2.2.2.2 hd (ay g);have q:k < row.length:=by ext
  have v:row[k]?=some row[k]:=ag q;rw[el];unfold bf;rcases c k _ v with e|e<;>rw[g,v,e]
  ·exact B
  ·exact o
 ·obtain⟨G,el⟩:=B9 u;obtain⟨_,o⟩:=hh.2.1 H (ay g);rw[el];unfold xK;rw[g];exact o
theorem Ox{row:List D}{k:Nat}{Q:D->a_->Prop}(u:row∈mw h.hands.length)(B:k < h.hands.length):∃(hd:Hd)(v:Int),h.hands[k]?=some hd/\row[k]?=some (.int v)/\(v=0/\bf h row k=hd.b0\/v=1/\bf h row k=hd.b1):=by
 obtain⟨q,g⟩:=B8 _ row u;have l:h.hands[k]?=some h.hands[k]:=ag B;have o:k < row.length:=by ext
 have c:row[k]?=some row[k]:=ag o;rcases g k _ c with e|e<;>rw[e]at c
 ·exact⟨_,0,l,c,.inl ⟨rfl,by unfold bf;rw[l,c];rfl⟩⟩
 ·exact⟨_,1,l,c,.inr ⟨rfl,by unfold bf;rw[l,c];rfl⟩⟩
theorem Tr{row:List D}(hh:kH h)(q:row∈mw h.hands.length)(J:∀l,dE s l->Q (bO (mj h row)) l):wp (jB [kC h,.tup row]) Q s:=by
 obtain⟨c,o⟩:=B8 _ row q;have z1:=hh.1;have z4:=hh.2.2.2.1;have O:=vG (show h.hands.length<=100 by ext);have I:h.hands.length<=eS:=gQ (by ext);have G:h.boards.length<=eS:=gQ (by ext);have H:2<=eS:=gQ (by ext);have w:∀A s,wp (collect (aP 0) bT (c2 aU (c2 aU (c2 aU (c2 aU (ai 1) (aR (.int 1))) (ai 0)) (aR (.int 0))) (c2 aU (ai 2) (ai 0))) dw (bx h.hands.length λi=>.int i) [none,some (.tup [.tup (h.boards.map pS),.tup (h.hands.map nS)]),some (.tup row)]) A s=A (bx h.hands.length λk=>cj (bf h row k)) s:=λA s=>v9 sW λk L Q=>by obtain⟨hd,v,e1,e2,T⟩:=Ox (Q:=Q) q L;have E:∀Q s,wp (cB (h.hands.map nS) (k:Int)) Q s=Q (.tup [.tup [cj hd.b0,cj hd.b1],.tup (hd.lines.map n5)]) s:=λQ s=>pX (by rw[aj,e1];rfl);have C:∀Q s,wp (cB row (k:Int)) Q s=Q (.int v) s:=λQ s=>pX e2;rcases T with ⟨e,u⟩|⟨e,u⟩<;>subst e<;>rw[u]<;>simp![↓E,↓C]
 have B:∀A s,wp (collect (aP 0) bT (c2 aU (ai 0) (aR (.int 1))) dw (h.boards.map pS) [none]) A s=A (bx h.boards.length λk=>cj (xK h k)) s:=λA s=>by
  have:=@zZ (c2 aU (ai 0) (aR (.int 1))) dw (h.boards.map pS) [] (λk=>cj (xK h k)) A s sW (λi d hd Q=>by
   rw[aj]at hd;cases ex:h.boards[i]? with
   |none=>rw[ex]at hd;cases hd
   |some x=>
    rw[ex]at hd;have U:d=pS x:=(aN hd).symm;subst U;have Y:xK h i=x.st:=by unfold xK;rw[ex];rfl
    simp![pS,Y])
  rw[this,ae]
 have g:∀(ds:List D)Q,wp (getL s.length) Q (s++[MO.lst ds])=Q ds (s++[MO.lst ds]):=λds Q=>dR (by simp)
 (simp![jB];simp![j3,kC,c,O,gX,bv,t5,mT,I,↓w,↓g,ae,G,↓B,H])
 have fin:=J (s++[MO.lst (bx h.hands.length λk=>cj (bf h row k))]) ((dE.refl _).snoc _);unfold bO mj at fin;dsimp only at fin;rw[Hg,Hg]at fin;exact fin
end
open PySem (Str)
theorem Y0:((("do":Str)) == "do")=true:=by nofun
theorem Qc:((("settle":Str)) == "do")=false:=by nofun
theorem Mx{g:CG}{t:CT}{e:CE}{same:a_->Prop}{ds:List D}{J:Loc}{f:Nat->D}{p:Nat->Bool}{Q:List D->a_->Prop}{s:a_}(I:Loc->Prop)(hs:same s)(h0:I J)
  (h:∀i d l,ds[i]?=some d->I l->∃u,(∀G,wp (g d l) G s=G u s)/\I u/\(∀T,wp (t u) T s=T (p i) s)/\∀Q,wp (e u) Q s=Q (f i) s):
  wp (collect g t e same ds J) Q s=Q (((bH ds.length).filter p).map f) s:=by
 have chk:∀{R:Unit->a_->Prop},R () s->wp (chkS same) R s:=λr=>by rw[sJ];unfold chkS;rw[aE hs];exact r
 apply MZ;refine IY (Q:=λc q=>c=((bH ds.length).filter p).map f/\q=s) (λc xs l q=>∃i,xs=ds.drop i/\i<=ds.length/\I l/\c=((bH i).filter p).map f/\q=s) (λc l q C=>?_) (λc d xs l q C=>?_) ds [] _ s ⟨0,by simp,bu _,h0,rfl,rfl⟩
 ·obtain⟨i,v,hi,_,B,E⟩:=C;have:i=ds.length:=by have:=cz eU v;simp at this;ext
  subst this;subst E;exact chk ⟨B,rfl⟩
 ·obtain⟨i,v,hi,g,B,E⟩:=C;have o:i < ds.length:=by have:=cz eU v;simp at this;ext
  rw[bR o]at v;obtain⟨q,O⟩:=lJ v;obtain⟨u,c,H,U,Y⟩:=h i d l (by rw[q];exact ag o) g;subst E;refine chk ?_;rw[c,U];cases L:p i with
  |true=>
   rw[aE rfl,Y];exact⟨i+1,O,o,H,by rw[B,fQ,fG,aO];simp[L],rfl⟩
  |false=>
   rw[aA (by simp)];exact⟨i+1,O,o,H,by rw[B,fQ,fG,aO];simp[L],rfl⟩
def rA:Ln->D
 | .settle v=>cj v
 | .act _ _ _=>.non
noncomputable def pA:Ln->Bool
 | .settle _=>false
 | .act _ _ _=>true
def Fz(h:Hs)(st:Sd):List D:=bx h.hands.length λk=>rA (d0 h st k)
def lM(h:Hs)(st:Sd)(n:Nat):List D:=((bH n).filter λk=>pA (d0 h st k)).map λk=>.int (k:Nat)
section
variable{s:a_}{Q:D->a_->Prop}{h:Hs}{st:Sd}
theorem VR{c:Ln}:wp (ji [n5 c]) Q s=Q (rA c) s:=by
 cases c with
 |settle v=>(simp![ji];simp![jU,n5,rA,IN,if_true])
 |act b d gs=>(simp![ji];simp![jU,n5,rA,KU,aQ,if_false])
theorem Ig{Q:D->a_->Prop}{s:a_}:wp (aU (kC h) (.int 1)) Q s=Q (.tup (h.hands.map nS)) s:=by unfold kC;rw[qp,sy]
theorem V4(hh:kH h)(q:k_ h st):wp (jE [kC h,bO st]) Q s=Q (.tup (Fz h st)) s:=by
 have B:=hh.2.2.2.1;have v:=vG (show h.hands.length<=100 by ext);have o:h.hands.length<=eS:=gQ (by ext);have l:∀Q s,wp (aU (kC h) (.int 1)) Q s=Q (.tup (h.hands.map nS)) s:=λQ s=>Ig;have w:∀A s,wp (collect (aP 0) bT (bN ji (az (bN jg (az (ai 1) (az (ai 2) (az (ai 0) bh)))) bh)) dw (bx h.hands.length λi=>.int i) [none,some (kC h),some (bO st)]) A s=A (Fz h st) s:=λA s=>v9 sW λk u Q=>by have g:∀Q s,wp (jg [kC h,bO st,.int k]) Q s=Q (n5 (d0 h st k)) s:=λQ s=>Mi hh q u;have c:∀Q s,wp (ji [n5 (d0 h st k)]) Q s=Q (rA (d0 h st k)) s:=λQ s=>VR;simp![↓g,↓c]
 (simp![jE];simp![yl,↓l,ae,v,gX,bv,t5,mT,o,↓w])
theorem WM{c:Ln}{T:Bool->a_->Prop}: wp (va (rA c) .non) (λx g=>match x with
  | .bl b=>T b g
  |_=>False) s=T (pA c) s:=by
 cases c<;>(unfold rA pA cj va EM;rw[ck])
theorem uY(hh:kH h)(o:k_ h st):wp (jS [kC h,bO st]) Q s=Q (.ref s.length) (s++[.lst (lM h st h.hands.length)]):=by
 have u:=hh.2.2.2.1;have g:h.hands.length<=eS:=gQ (by ext);have ws:∀Q s,wp (jE [kC h,bO st]) Q s=Q (.tup (bx h.hands.length λk=>rA (d0 h st k))) s:=λQ s=>V4 hh o;have w:∀A s,wp (collect (fF 2 (ce (aP 0) (ce (aP 1) gk))) (cA (c2 va (ai 1) (aR .non))) (ai 0) dw (bx h.hands.length λi=>.tup [.int i,rA (d0 h st i)]) [none,none]) A s=A (lM h st h.hands.length) s:=λA s=>by
  rw[Mx (f:=λk=>.int (k:Nat)) (p:=λk=>pA (d0 h st k)) (λl=>∃x y,l=[x,y]) sW ⟨_,_,rfl⟩ (λi d l hd c=>by
   obtain⟨x,y,el⟩:=c;obtain⟨v,q⟩:=B9 hd;refine⟨[some (.int i),some (rA (d0 h st i))],λG=>?_,⟨_,_,rfl⟩,λT=>?_,λQ=>?_⟩
   ·rw[q,el,uu,oF,gK,oF,gK,uw];exact propext ⟨λh=>h.2,λh=>⟨rfl,h⟩⟩
   ·simp only[↓Ag,↓Et,↓kW,↓u4,mW,List.getElem?_cons_succ];exact WM
   ·simp only[↓kW,mW]),mT]
  rfl
 (simp![jS];simp![yq,↓ws,mT,Xf,gX,g,↓w])
theorem O1(hh:kH h)(H:k_ h st)(I:∀r c,s.length<=r->c[r]?=some (.lst (lM h st h.hands.length))->dE s c->Q (.ref r) c):wp (ju [kC h,bO st]) Q s:=by
 have O:=hh.2.2.2.1;have G:0<=eS:=bu _;have L:=vG (show h.hands.length<=100 by ext);have E:∀Q s,wp (aU (kC h) (.int 1)) Q s=Q (.tup (h.hands.map nS)) s:=λQ s=>Ig
 (simp![ju];simp![yb,G,↓E,ae,L,bv,t5])
 refine GG (n:=h.hands.length) (λi l c=>∃q,l=[some (kC h),some (bO st),some (.ref s.length),q]/\c[s.length]?=some (.lst (lM h st i))/\dE s c) (λ_ _ _ _=>trivial) ⟨_,rfl,by simp[lM],(dE.refl _).snoc _⟩ (λT i l c up J u=>?_) (λl c u=>?_)
 ·obtain⟨q,el,g,ex⟩:=u;subst el;have o:∀Q s,wp (jt [kC h,bO st,.int i]) Q s=Q (n5 (d0 h st i)) s:=λQ s=>N8 hh H J;have C:(lM h st i).length < eS:=nB (by unfold lM;rw[ae];exact bW (dM _ _) (by rw[xA];ext));cases el:d0 h st i with
  |settle v=>
   rw[el]at o;simp only[n5]at o;have B:lM h st (i+1)=lM h st i:=by unfold lM;rw[fQ,fG];simp[el,pA]
   simp![↓o,Qc,aQ,if_false];exact up ⟨_,rfl,by rw[B];exact g,ex⟩
  |act b d gs=>
   rw[el]at o;simp only[n5]at o;have B:lM h st (i+1)=lM h st i++[.int (i:Nat)]:=by unfold lM;rw[fQ,fG];simp[el,pA]
   simp![↓o,Y0,if_true,↓dR g,↓mE g,C];exact up ⟨_,rfl,by rw[ao (f_ g),B],ex.put (ar _)⟩
 ·obtain⟨q,el,g,ex⟩:=u;subst el;simp![];exact I _ _ (ar _) g ex
theorem WK{row:List D}{A:List D->a_->Prop}(l:row∈mw h.hands.length):wp (collect (fF 2 (ce (aP 0) (ce (aP 1) gk))) bT (c2 aU (c2 aU (ai 0) (aR (.int 0))) (ai 1)) dw ((h.hands.map nS).zipWith (λp q=>D.tup [p,q]) row) [none,none]) A s=A (bx h.hands.length λk=>cj (bf h row k)) s:=by
 obtain⟨u,g⟩:=B8 _ row l;have c:((h.hands.map nS).zipWith (λp q=>D.tup [p,q]) row).length=h.hands.length:=by rw[oz,ae];ext
 rw[Gw (f:=λk=>cj (bf h row k)) (caps:=[]) sW (λi d hd=>by
  have B:i < h.hands.length:=by rw[<- c];exact (ac.mp hd).1
  obtain⟨C,v,H,G,E⟩:=Ox (Q:=λ_ _=>True) l B;rw[fH,aj,H,G]at hd;refine⟨_,_,(aN hd).symm,λQ=>?_⟩;rcases E with ⟨e,o⟩|⟨e,o⟩<;>subst e<;>rw[o]<;>simp![nS]),c]
theorem Xv{row:List D}(hh:kH h)(v:row∈mw h.hands.length):wp (jJ [kC h,.tup row]) Q s=Q (bO (mj h row)) s:=by
 obtain⟨J,u⟩:=B8 _ row v;have T:=hh.1;have O:=hh.2.2.2.1;have H:2<=eS:=gQ (by ext);have G:h.boards.length<=eS:=gQ (by ext);have E:((h.hands.map nS).zipWith (λp q=>D.tup [p,q]) row).length<=eS:=gQ (by rw[oz,ae];ext);have c : ∀{a b : CE}{I : Wk -> a_ -> Prop}{l : Loc}{s : a_}, wp (tz a b l) I s = wp (a l) (λx o => wp (b l) (λy g => match x, y with
   | .tup ds,.tup es=>I ⟨ds.zipWith (λp q=>.tup [p,q]) es,dw⟩ g
   |_,_=>False) o) s:=λ{a b I l s}=>by
  unfold tz;rw[dF];congr 1;funext x o;rw[dF];congr 1;funext y g;cases x<;>cases y<;>first|exact ck|exact gi|exact tK rfl|exact cN rfl
 have C:∀A s,wp (collect (fF 2 (ce (aP 0) (ce (aP 1) gk))) bT (c2 aU (c2 aU (ai 0) (aR (.int 0))) (ai 1)) dw ((h.hands.map nS).zipWith (λp q=>D.tup [p,q]) row) [none,none]) A s=A (bx h.hands.length λk=>cj (bf h row k)) s:=λA s=>WK v;have B:∀A s,wp (collect (fF 2 (ce (aP 0) (ce (aP 1) gk))) bT (ai 1) dw (h.boards.map pS) [none,none]) A s=A (bx h.boards.length λk=>cj (xK h k)) s:=λA s=>by
  rw[Gw (f:=λk=>cj (xK h k)) (caps:=[]) sW (λi d hd=>by
   rw[aj]at hd;cases ex:h.boards[i]? with
   |none=>rw[ex]at hd;cases hd
   |some x=>
    rw[ex]at hd;have L:xK h i=x.st:=by unfold xK;rw[ex];rfl
    refine⟨_,_,(aN hd).symm,λQ=>?_⟩;rw[L];simp![]),ae]
 (simp![jJ];simp![yp,kC,↓c,gX,E,↓C,ae,G,↓B,H])
 unfold bO mj;dsimp only;rw[Hg,Hg]
end
open PySem (Str)
noncomputable def zi:List Bd->Nat
 |[]=>1
 |b::bs=>b.S*zi bs
section
variable{s:a_}{Q:D->a_->Prop}{h:Hs}
def vt(h:Hs)(st:Sd):Nat:=qT (mL h.hands.length h.boards.length) st.ls*zi h.boards+m9 (h.boards.map (·.S)) st.ss
theorem K6:∀bs:List Bd,pr (bs.map (·.S))=zi bs
 |[]=>rfl
 |b::bs=>by show b.S*pr (bs.map (·.S))=b.S*zi bs;rw[K6 bs]
theorem Kx{B:Nat}{st:Sd}(l:k_ h st)(u:∀x∈h.hands,x.lines.length<=B):∀x∈st.ls,x < B:=λx q=>by
 obtain⟨k,o⟩:=ip q;have g:=(ac.mp o).1;have c:k < h.hands.length:=by rw[<- l.1];exact g
 have e:=ag c;have C:=l.2.2.1 k _ _ e o;have v:=u _ (dA c);ext
theorem DK{st:Sd}(l:k_ h st):∀(i b x:Nat),(h.boards.map (·.S))[i]?=some b->st.ss[i]?=some x->x < b:=λi b x c g=>by
 rw[aj]at c;cases e:h.boards[i]? with
 |none=>rw[e]at c;cases c
 |some bd=>
  rw[e]at c;cases c;exact l.2.2.2 i bd x e g
theorem Lk{K:Nat}:∀{bs:List Bd},(∀b∈bs,b.S<=K)->zi bs<=K^bs.length
 |[],_=>ar _
 |b::bs,hb=>by have l:=Lk (bs:=bs) λx c=>hb x (by simp[c]);have g:=hb b (by simp);rw[bp,nw,iD];exact Nat.mul_le_mul g l
theorem Wz{n c:Nat}(g:n=2\/n=3)(l:c<=4):mL n c^n*mS c^c<=324:=by rcases g with rfl|rfl<;>rcases wA l with rfl|rfl|rfl|rfl|rfl<;>decide
theorem N1(g:wa h):∃B:Nat,(mL h.hands.length h.boards.length)=B/\(∀x∈h.hands,x.lines.length<=B)/\B^h.hands.length*zi h.boards<=324:=by obtain⟨hh,o,l,c⟩:=g;refine⟨_,rfl,c,bW (Nat.mul_le_mul_left _ (Lk l)) (Wz ?_ o)⟩;have:=hh.2.2.1;have:=hh.2.2.2.1;ext
theorem Yg{st:Sd}(o:wa h)(c:k_ h st):vt h st < 324:=by obtain⟨B,e,l,u⟩:=N1 o;have g:=GL (Kx c l);have q:=CQ (by rw[ae];exact c.2.1) (DK c);rw[K6]at q;unfold vt;rw[e];rw[c.1]at g;have:(qT B st.ls+1)*zi h.boards<=B^h.hands.length*zi h.boards:=oi _ g;rw[uT]at this;ext
theorem Rx{a b:Sd}(I:wa h)(g:k_ h a)(c:k_ h b)(e:vt h a=vt h b):a=b:=by
 obtain⟨B,J,v,L⟩:=N1 I;have o:=CQ (by rw[ae];exact g.2.1) (DK g);have l:=CQ (by rw[ae];exact c.2.1) (DK c);rw[K6]at o l;unfold vt at e;rw[J]at e;have q:qT B a.ls=qT B b.ls/\m9 (h.boards.map (·.S)) a.ss=m9 (h.boards.map (·.S)) b.ss:=by
  generalize zi h.boards=p at e o l;have u:0 < p:=by ext
  have H:(qT B a.ls*p+m9 (h.boards.map (·.S)) a.ss) / p=qT B a.ls:=by rw[iD,iU u,iE o];simp
  have G:(qT B b.ls*p+m9 (h.boards.map (·.S)) b.ss) / p=qT B b.ls:=by rw[iD,iU u,iE l];simp
  have:qT B a.ls=qT B b.ls:=by rw[<- H,<- G,e]
  rw[this]at e;exact⟨this,by ext⟩
 have E:=Lj (by rw[g.1,c.1]) (Kx g v) (Kx c v) q.1;have C:=OV (by rw[ae];exact g.2.1) (by rw[ae];exact c.2.1) (DK g) (DK c) q.2;cases a;cases b;simp only at E C;rw[E,C]
theorem Ot{α β:Type}{f:α->β}:∀{l:List α},l.Nodup->(∀a∈l,∀b∈l,f a=f b->a=b)->(l.map f).Nodup
 |[],_,_=>kg
 |x::xs,hn,hi=>by obtain⟨v,u⟩:=fO.mp hn;rw[aI];refine fO.mpr ⟨λg=>?_,Ot u λa q b o=>hi a (by simp[q]) b (by simp[o])⟩;obtain⟨y,c,e⟩:=bz.mp g;have:=hi y (by simp[c]) x (by simp) e;exact v (this ▸ c)
theorem few{l:List Sd}(o:wa h)(u:l.Nodup)(c:∀x∈l,k_ h x):l.length<=324:=by
 have:=Cg 324 (l.map (vt h)) (Ot u λa g b v e=>Rx o (c a g) (c b v) e) (λx q=>by obtain⟨a,g,e⟩:=bz.mp q;rw[<- e];exact Yg o (c a g))
 rwa [ae]at this
theorem py(st:Sd):m_ true (bO st)=true:=Sz st.ls st.ss
theorem C_(a b:Sd):nO (bO a) (bO b)=decide (a=b):=by
 have:=WI a.ls a.ss b.ls b.ss
 show nO (bO a) (bO b)=_;unfold bO;refine this.trans ?_;cases a;cases b;simp only[Sd.mk.injEq,nt]
theorem O4{order:List Sd}:∀{c:List (D×D)},c.map (·.1)=order.map bO->∀st,(lN c (bO st)).isSome=decide (st∈order):=by
 induction order with
 |nil=>
  intro c g st;cases c with
  |nil=>rfl
  |cons p ps=>cases g
 |cons x xs ih=>
  intro c g st;cases c with
  |nil=>cases g
  |cons p ps=>
   rw[aI,aI]at g;obtain⟨o,l⟩:=lJ g;unfold lN;rw[cD,o,C_];by_cases e:x=st
   ·rw[bF e];simp[e]
   ·rw[aT e];have:=ih l st;unfold lN at this;rw[this];have q:¬ st=x:=λz=>e z.symm;simp[q]
theorem YE{c:List (D×D)}{order:List Sd}{st:Sd}{v:D}(w:c.map (·.1)=order.map bO)(q:st∉order):(kG c (bO st) v).map (·.1)=(order++[st]).map bO:=by
 have g:=O4 w st;rw[aT q]at g;have u:(c.any λp=>nO p.1 (bO st))=false:=by
  cases e:c.any λp=>nO p.1 (bO st) with
  |false=>rfl
  |true=>
   obtain⟨p,o,l⟩:=gG.mp e;have:(c.find? λp=>nO p.1 (bO st)).isSome=true:=xB.mpr ⟨p,o,l⟩;unfold lN at g;rw[lU,this]at g;cases g
 unfold kG;rw[u,aA (by simp),aO,aO,w];rfl
end
noncomputable def i5(xs:List Sd)(x:Sd):List Sd:=if x∈xs then xs else xs++[x]
def fN(h:Hs)(st:Sd):List Nat:=(bH h.hands.length).filter λk=>pA (d0 h st k)
def oZ(h:Hs)(x:Sd)(ks:List Nat)(xs:List Sd):List Sd:=ks.foldl (λys k=>i5 ys (kD h x k)) xs
def mF(h:Hs)(rows:List (List D)):List Sd:=rows.foldl (λys row=>i5 ys (mj h row)) []
def dZ(h:Hs):Nat->List Sd
 |0=>mF h (mw h.hands.length)
 |i+1=>match (dZ h i)[i]? with
  |some x=>oZ h x (fN h x) (dZ h i)
  |none=>dZ h i
def Good(h:Hs)(xs:List Sd):Prop:=xs.Nodup/\∀x∈xs,k_ h x
section
variable{h:Hs}
theorem MJ{xs:List Sd}{x:Sd}(g:Good h xs)(l:k_ h x):Good h (i5 xs x):=by
 unfold i5;by_cases e:x∈xs
 ·rw[aE e];exact g
 ·rw[aA e];refine⟨cn.mpr ⟨g.1,by simp,λa q b o=>?_⟩,λy c=>?_⟩
  ·rw[ax.mp o];exact λz=>e (z ▸ q)
  ·rcases aB.mp c with c|c
   ·exact g.2 y c
   ·rw[ax.mp c];exact l
theorem Gk(hh:kH h){x:Sd}(c:k_ h x):∀{ks:List Nat}{xs:List Sd},(∀k∈ks,k < h.hands.length)->Good h xs->Good h (oZ h x ks xs)
 |[],_,_,g=>g
 |k::ks,xs,hk,g=>Gk hh c (ks:=ks) (λy l=>hk y (by simp[l])) (MJ g (T4 hh c (hk k (by simp))))
theorem GZ(hh:kH h):∀{rows:List (List D)}{xs:List Sd},(∀r∈rows,r∈mw h.hands.length)->Good h xs->Good h (rows.foldl (λys row=>i5 ys (mj h row)) xs)
 |[],_,_,g=>g
 |r::rows,xs,hr,g=>GZ hh (rows:=rows) (λy c=>hr y (by simp[c])) (MJ g (Vm hh (hr r (by simp))))
theorem C7{st:Sd}{k:Nat}(c:k∈fN h st):k < h.hands.length:=d9.mp (ff.mp c).1
theorem yV(hh:kH h):∀i,Good h (dZ h i)
 |0=>GZ hh (λr c=>c) ⟨kg,by simp⟩
 |i+1=>by
  have g:=yV hh i;unfold dZ;cases e:(dZ h i)[i]? with
  |none=>exact g
  |some x=>exact Gk hh (g.2 x (ay e)) (λk l=>C7 l) g
theorem NP(xs:List Sd)(x:Sd):∃t,i5 xs x=xs++t:=by
 unfold i5;by_cases e:x∈xs
 ·exact⟨[],by rw[aE e];simp⟩
 ·exact⟨[x],by rw[aA e]⟩
theorem Gb{x:Sd}:∀(ks:List Nat)(xs:List Sd),∃t,oZ h x ks xs=xs++t
 |[],xs=>⟨[],by simp[oZ]⟩
 |k::ks,xs=>by
  obtain⟨t,e⟩:=NP xs (kD h x k);obtain⟨u,f⟩:=Gb (x:=x) ks (i5 xs (kD h x k));refine⟨t++u,?_⟩
  show oZ h x ks (i5 xs (kD h x k))=_;rw[f,e,aX]
theorem Kw(i:Nat):∃t,dZ h (i+1)=dZ h i++t:=by
 show ∃t,(match (dZ h i)[i]? with
  |some x=>oZ h x (fN h x) (dZ h i)
  |none=>dZ h i)=_
 cases (dZ h i)[i]? with
 |none=>exact⟨[],by simp⟩
 |some x=>exact Gb _ _
theorem Oe{i j:Nat}(c:i<=j):(dZ h i).length<=(dZ h j).length:=by
 induction j with
 |zero=>cases Nat.le_zero.mp c;exact ar _
 |succ j ih=>
  by_cases e:i=j+1
  ·subst e;exact ar _
  ·obtain⟨t,g⟩:=Kw (h:=h) j;rw[g,au];have:=ih (by ext);ext
def rB(h:Hs)(i:Nat):Prop:=∀j,j < i->j < (dZ h j).length
def rG(h:Hs)(i:Nat):Prop:=rB h i/\(dZ h i).length<=i
theorem rG.uniq{i j:Nat}(a:rG h i)(b:rG h j):i=j:=by
 rcases fW i j with e|e|e
 ·have:=b.1 i e;have:=a.2;ext
 ·exact e
 ·have:=a.1 j e;have:=b.2;ext
theorem C4(c:wa h){i:Nat}(g:rB h i):(dZ h i).length<=324/\i<=324:=by
 have l:=few c (yV c.1 i).1 (yV c.1 i).2;refine⟨l,?_⟩;cases i with
 |zero=>ext
 |succ i=>
  have:=g i (by ext);have:=Oe (h:=h) (show i<=i+1 by ext);ext
end
open PySem (Str)
section
variable{s u:a_}{Q:D->a_->Prop}{h:Hs}{no nd:Nat}{xs:List Sd}
def xV(s:a_)(no nd:Nat)(xs:List Sd)(u:a_):Prop:=∃c,u[nd]?=some (.dct true c)/\u[no]?=some (.lst (xs.map bO))/\c.map (·.1)=xs.map bO/\dE s u
theorem xV.ext{u':a_}(f:xV s no nd xs u)(x:dE u u'):xV s no nd xs u':=by obtain⟨g,a,b,c,d⟩:=f;exact⟨g,x.at_ a,x.at_ b,c,d.trans x⟩
theorem YU{c:List (D×D)}(w:c.map (·.1)=xs.map bO):c.length=xs.length:=by have:=cz eU w;simpa using this
theorem uB{st:Sd}{a J H G:Option D}{R:qj->a_->Prop}(B:no≠nd)(o:s.length<=no)(q:s.length<=nd)(I:xV s no nd xs u)(hl:xs.length<=400)
  (O:∀u',xV s no nd (i5 xs st) u'->(∀n,n≠no->n≠nd->u'[n]?=u[n]?)->R (.next [a,some (.ref no),some (.dic nd),J,some (bO st),H,G]) u'):
  wp (lD (cA (c2 mX (ai 4) (ai 2))) (aM (bD (fR (ai 2) (ai 4)) (aR (.bl true))) (aM (gL (cL (ai 1) (ai 4))) aS)) aS [a,some (.ref no),some (.dic nd),J,some (bO st),H,G]) R u:=by
 obtain⟨c,l,C,w,L⟩:=I;have kl:=YU w;have q1:∀Q,wp (hasK nd (bO st)) Q u=Q (lN c (bO st)).isSome u:=λQ=>El l (py st);simp![↓q1,O4 w];by_cases g:st∈xs
 ·rw[bF g];simp![dq,aQ,if_false];refine O u ⟨c,l,?_,?_,L⟩ λ_ _ _=>rfl
  ·unfold i5;rw[aE g];exact C
  ·unfold i5;rw[aE g];exact w
 ·rw[aT g];have h:∀v Q,wp (storeK nd (bO st) v) Q u=Q () (u.set nd (.dct true (kG c (bO st) v))):=λv Q=>zY l (py st) (nB (by ext));have T:∀v,(u.set nd (MO.dct true (kG c (bO st) v)))[no]?=some (.lst (xs.map bO)):=λv=>by rw[af (by ext)];exact C
  have Y:∀v Q,wp (getL no) Q (u.set nd (MO.dct true (kG c (bO st) v)))=Q (xs.map bO) (u.set nd (MO.dct true (kG c (bO st) v))):=λv Q=>dR (T v);have U:∀v E Q,wp (putL no E) Q (u.set nd (MO.dct true (kG c (bO st) v)))=Q () ((u.set nd (MO.dct true (kG c (bO st) v))).set no (.lst E)):=λv E Q=>mE (T v);simp![eV,if_true,↓h,↓Y,↓U,ae];refine⟨nB (by ext),O _ ⟨_,by rw[af B,ao (f_ l)],?_,?_,(L.put q).put o⟩ λn H G=>by rw[af (bC H),af (bC G)]⟩
  ·unfold i5;rw[aA g,ao (by rw[cw];exact f_ C),aO];rfl
  ·unfold i5;rw[aA g];exact YE w g
theorem Qw{st:Sd}:lM h st h.hands.length=(fN h st).map λk=>.int (k:Nat):=rfl
theorem Lz{x:Sd}{ks:List Nat}{j k:Nat}(e:ks[j]?=some k):oZ h x (ks.take (j+1)) xs=i5 (oZ h x (ks.take j) xs) (kD h x k):=by obtain⟨c,g⟩:=ac.mp e;rw[kh c,g];unfold oZ;rw[pN];rfl
theorem Nr{rows:List (List D)}{j:Nat}{r:List D}(e:rows[j]?=some r):mF h (rows.take (j+1))=i5 (mF h (rows.take j)) (mj h r):=by obtain⟨c,g⟩:=ac.mp e;rw[kh c,g];unfold mF;rw[pN];rfl
theorem VD(L:wa h)(hq:∀i r u,rG h i->u[r]?=some (.lst ((dZ h i).map bO))->s.length<=r->dE s u->Q (.ref r) u):wp (jq [kC h]) Q s:=by
 have hh:=L.1;have hn:h.hands.length=2\/h.hands.length=3:=by have:=hh.2.2.1;have:=hh.2.2.2.1;ext
 (simp![jq];simp![j1,bu])
 refine QU hn λr s1 hr gr Y=>?_;simp![↓dR gr];have f0:xV s s.length (s++[MO.lst []]).length [] s1:=⟨[],Y.at_ mR,Y.at_ (m4 mR),rfl,(((dE.refl s).snoc _).snoc _).trans Y⟩
 have hr':(s++[MO.lst []]).length < r:=by
  have:(s++[MO.lst []]++[MO.dct true []]).length=(s++[MO.lst []]).length+1:=by simp
  ext
 have hne:s.length < (s++[MO.lst []]).length:=by simp
 generalize (s++[MO.lst []]).length=nd at f0 hr' hne ⊢;refine qJ (λi l u=>∃B c,l=[some (kC h),some (.ref s.length),some (.dic nd),B,c,none,none]/\u[r]?=some (.lst ((mw h.hands.length).map D.tup))/\xV s s.length nd (mF h ((mw h.hands.length).take i)) u) (λ_ _ _ w=>by obtain⟨_,_,_,g,_⟩:=w;exact g)
  ⟨_,_,rfl,gr,f0⟩ (λRw1 i d l u up1 rt1 hd q=>?_) (λl u q=>?_)
 ·obtain⟨B,c,el,g,f⟩:=q;subst el;rw[aj]at hd;cases O:(mw h.hands.length)[i]? with
  |none=>rw[O]at hd;cases hd
  |some row=>
   rw[O]at hd;have ed:d=.tup row:=(aN hd).symm;subst ed;have H:=ay O;simp![];refine Tr hh H λu1 U=>?_;simp only[↓AS,↓qM];have I:Good h (mF h ((mw h.hands.length).take i)):=GZ hh (λr hr=>dX hr) ⟨kg,by simp⟩;have hl:=few L I.1 I.2;refine uB (by ext) (ar _) (by ext) (f.ext U) (by ext) λo E l=>?_;simp![];refine up1 ⟨_,_,rfl,?_,?_⟩
   ·rw[l r (by ext) (by ext)];exact U.at_ g
   ·rw[Nr O];exact E
 ·obtain⟨B,c,el,g,f⟩:=q;subst el;rw[ae,bJ]at f;simp![];refine yH (λl u=>∃(i:Nat)(B c G:Option D),l=[some (kC h),some (.ref s.length),some (.dic nd),B,c,some (.int i),G]/\rB h i/\xV s s.length nd (dZ h i) u)
   (λ(l:Loc)(_:a_)=>match (l[5]?:Option (Option D)) with
    |some (some (D.int i))=>(1000-i).toNat
    |_=>0) ⟨0,_,_,_,rfl,λj hj=>ba hj (by ext),f⟩ (λRw2 l u O rt2 q=>?_)
  clear f g;obtain⟨i,B,c,G,el,go,f⟩:=q;subst el;obtain⟨hl,hi⟩:=C4 L go;have gl:u[s.length]?=some (.lst ((dZ h i).map bO)):=by obtain⟨_,_,b,_⟩:=f;exact b
  simp![↓dR gl,ae];by_cases o:i < (dZ h i).length
  ·rw[aE (by ext)];have ex:(dZ h i)[i]?=some (dZ h i)[i]:=ag o;have J:=(yV hh i).2 _ (dA o);have ew:dZ h (i+1)=oZ h (dZ h i)[i] (fN h (dZ h i)[i]) (dZ h i):=by
    show (match (dZ h i)[i]? with
     |some x=>oZ h x (fN h x) (dZ h i)
     |none=>dZ h i)=_
    rw[ex]
   generalize (dZ h i)[i]=x at ex J ew;have q2:∀(Q:D->a_->Prop)s,wp (cB ((dZ h i).map bO) (i:Int)) Q s=Q (bO x) s:=λQ s=>pX (by rw[aj,ex];rfl);simp![↓q2];refine O1 hh J λr1 u1 hr1 C U=>?_;rw[Qw]at C;simp![↓dR C];have lu:nd < u.length:=by obtain⟨_,a,_⟩:=f;exact f_ a
   refine qJ (λj l u=>∃c G,l=[some (kC h),some (.ref s.length),some (.dic nd),B,c,some (.int i),G]/\u[r1]?=some (.lst ((fN h x).map λk=>.int (k:Nat)))/\xV s s.length nd (oZ h x ((fN h x).take j) (dZ h i)) u) (λ_ _ _ w=>by obtain⟨_,_,_,g,_⟩:=w;exact g)
    ⟨_,_,rfl,C,f.ext U⟩ (λRw3 j d l v H rt3 hd q=>?_) (λl v q=>?_)
   ·obtain⟨c,G,el,g2,E⟩:=q;subst el;rw[aj]at hd;cases T:(fN h x)[j]? with
    |none=>rw[T]at hd;cases hd
    |some k=>
     rw[T]at hd;have ed:d=.int (k:Nat):=(aN hd).symm;subst ed;have Y:=C7 (ay T);obtain⟨t,U⟩:=Gb (h:=h) (x:=x) ((fN h x).take j) (dZ h i);have C:v[s.length]?=some (.lst ((oZ h x ((fN h x).take j) (dZ h i)).map bO)):=by obtain⟨_,_,b,_⟩:=E;exact b
     have l:∀(Q:D->a_->Prop)s,wp (cB ((oZ h x ((fN h x).take j) (dZ h i)).map bO) (i:Int)) Q s=Q (bO x) s:=λQ s=>pX (by rw[U,aj,aw o,ex];rfl);have I:=Gk hh J (λk Y=>C7 (dX Y)) (yV hh i) (ks:=(fN h x).take j);have B:=few L I.1 I.2;simp![↓dR C,↓l];refine NC hh J Y λv1 g=>?_;simp only[↓AS,↓qM];refine uB (by ext) (ar _) (by ext) (E.ext g) (by ext) λv2 O u=>?_;simp![];refine H ⟨_,_,rfl,?_,?_⟩
     ·rw[u r1 (by ext) (by ext)];exact g.at_ g2
     ·rw[Lz T];exact O
   ·obtain⟨c,G,el,g2,E⟩:=q;subst el;rw[ae,bJ,<- ew]at E;simp![];refine O ⟨i+1,_,_,_,rfl,λj hj=>?_,E⟩ ?_
    ·by_cases e:j=i
     ·subst e;exact o
     ·exact go j (by ext)
    ·show (1000-((i:Int)+1)).toNat < (1000-(i:Int)).toNat;ext
  ·rw[aA (by ext)]
   try simp![]
   obtain⟨_,_,_,_,ex⟩:=f;exact hq i _ _ ⟨go,by ext⟩ gl (ar _) ex
end
open PySem (Str)
section
variable{s u:a_}{Q:D->a_->Prop}{h:Hs}{no nd:Nat}{xs:List Sd}{l:Loc}
theorem Nc{a b c:CE}: wp (oO a b c l) Q s=wp (a l) (λx q=>match x with
  | .dic n=>wp (getDc n) (λp o=>p.1=true/\wp (b l) (λy g=>wp (c l) (λz v=>wp (lO n y z) Q v) g) o) q
  |_=>False) s:=by
 unfold oO;rw[dF];refine iO λx q=>?_;cases x with
 |dic n=>
  dsimp only;rw[dF];refine iO λp o=>?_;rw[dB,dF];refine cz _ (iO λy g=>?_);rw[dF]
 |_=>exact tK rfl
theorem Vh{n:Nat}{c:List (D×D)}{k v d:D}(g:s[n]?=some (.dct true c))(q:m_ true k=true)(o:c.length < eS)(e:lN c k=some d):wp (lO n k v) Q s=Q d s:=by unfold lO;rw[dF,tQ g,dB];dsimp only;rw[e];dsimp only;rw[ck];exact propext ⟨λz=>z.2,λz=>⟨⟨rfl,q,o⟩,z⟩⟩
theorem Yo{n:Nat}{c:List (D×D)}{k v:D}(g:s[n]?=some (.dct true c))(q:m_ true k=true)(o:c.length < eS)(e:lN c k=none):wp (lO n k v) Q s=Q v (s.set n (.dct true (kG c k v))):=by unfold lO;rw[dF,tQ g,dB];dsimp only;rw[e];dsimp only;rw[dF,Hn g,ck];exact propext ⟨λz=>z.2,λz=>⟨⟨rfl,q,o⟩,z⟩⟩
theorem NY{n:Nat}{c:List (D×D)}(g:s[n]?=some (.dct true c)):wp (nj (.dic n)) Q s=Q (.ref s.length) (s++[.lst (c.map (·.1))]):=by unfold nj;dsimp only;rw[dF,tQ g,dB,fY];exact propext ⟨λz=>z.2,λz=>⟨rfl,z⟩⟩
noncomputable def tB:Nat->List (List D)
 |0=>[[]]
 |n+1=>(tB n).flatMap λx=>[x++[.int 0],x++[.int 1]]
theorem Wn{n:Nat}(c:n=2\/n=3):tB n=mw n:=by rcases c with rfl|rfl<;>rfl
theorem LF:∀n,∀x∈tB n,x.length=n
 |0,x,h=>by simp[tB]at h;simp[h]
 |n+1,x,h=>by obtain⟨y,c,e⟩:=iB.mp h;have:=LF n y c;simp at e;rcases e with e|e<;>rw[e]<;>simp[this]
theorem Nm:∀n,(tB n).length=2^n
 |0=>rfl
 |n+1=>by
  have:∀l:List (List D),(l.flatMap λx=>[x++[D.int 0],x++[D.int 1]]).length=2*l.length:=by
   intro l
   induction l with
   |nil=>rfl
   |cons a t ih=>rw[fV,au,ih,bp];simp;ext
  show ((tB n).flatMap _).length=_;rw[this,Nm n,nw];ext
theorem XD(hh:kH h)(hq:∀r u,s.length<=r->u[r]?=some (.lst ((mw h.hands.length).map D.tup))->dE s u->Q (.ref r) u):wp (jw [kC h]) Q s:=by
 have hn:h.hands.length=2\/h.hands.length=3:=by have:=hh.2.2.1;have:=hh.2.2.2.1;ext
 have U:1<=eS:=gQ (by ext);have wh:∀(Q:D->a_->Prop)s,wp (aU (kC h) (.int 1)) Q s=Q (.tup (h.hands.map nS)) s:=λQ s=>Ig
 (simp![jw];simp![j9,bu,U,↓wh])
 refine qJ (λi l u=>∃(n:Nat)(O L q:Option D),l=[some (kC h),some (.ref n),O,L,q]/\s.length<=n/\u[n]?=some (.lst ((tB i).map D.tup))/\dE s u) (λ_ _ _ _=>trivial)
  ⟨_,_,_,_,rfl,ar _,mR,(dE.refl _).snoc _⟩ (λRw1 i d l u up1 rt1 hd B=>?_) (λl u B=>?_)
 ·obtain⟨n,O,L,q,el,H,g,ex⟩:=B;subst el;have hi:=(ac.mp hd).1;rw[ae]at hi;have hi3:i < 3:=by ext
  have hcn:=Nm i;have hp:2^i<=8:=by rcases (show i=0\/i=1\/i=2 by ext) with rfl|rfl|rfl<;>decide
  have Y:(u++[MO.lst []])[n]?=some (.lst ((tB i).map D.tup)):=m4 g;have lnn:=f_ g;simp![bu,↓dR Y];refine qJ (λj l v=>∃q,l=[some (kC h),some (.ref n),some d,some (.ref u.length),q]/\v[n]?=some (.lst ((tB i).map D.tup))/\v[u.length]?=some (.lst ((((tB i).take j).flatMap λx=>[x++[.int 0],x++[.int 1]]).map D.tup))/\dE s v) (λ_ _ _ w=>by obtain⟨_,_,g,_⟩:=w;exact g)
   ⟨_,rfl,Y,mR,ex.snoc _⟩ (λRw2 j e l v T rt2 I B=>?_) (λl v B=>?_)
  ·obtain⟨q,el,g1,o,C⟩:=B;subst el;rw[aj]at I;cases J:(tB i)[j]? with
   |none=>rw[J]at I;cases I
   |some row=>
    rw[J]at I;have ed:e=.tup row:=(aN I).symm;subst ed;obtain⟨hj,e2⟩:=ac.mp J;have hrl:=LF i row (ay J);have h:(tB i).take (j+1)=(tB i).take j++[row]:=by rw[kh hj,e2]
    generalize G:((tB i).take j).flatMap (λx=>[x++[D.int 0],x++[D.int 1]])=ys at o;have Y:ys.length<=16:=by
     have:∀l:List (List D),(l.flatMap λx=>[x++[D.int 0],x++[D.int 1]]).length=2*l.length:=by
      intro l
      induction l with
      |nil=>rfl
      |cons a t ih=>rw[fV,au,ih,bp];simp;ext
     rw[<- G,this,bE];ext
    have g:∀c,(v.set u.length (MO.lst c))[u.length]?=some (.lst c):=λc=>ao (f_ o);have L:∀c Q,wp (getL u.length) Q (v.set u.length (MO.lst c))=Q c (v.set u.length (MO.lst c)):=λc Q=>dR (g c);have H:∀c E Q,wp (putL u.length E) Q (v.set u.length (MO.lst c))=Q () ((v.set u.length (MO.lst c)).set u.length (.lst E)):=λc E Q=>mE (g c);have O:row.length+1<=eS:=gQ (by ext);simp![U,O,↓dR o,↓mE o,↓L,↓H,au,ae,bp,fP];have hu:=ex.le;refine⟨nB (by ext),nB (by ext),T ⟨_,rfl,?_,?_,(C.put hu).put hu⟩⟩
    ·rw[af (by ext),af (by ext)];exact g1
    ·rw[ao (by rw[cw];exact f_ o),h,iG,G];simp
  ·obtain⟨q,el,g1,o,C⟩:=B;subst el;rw[ae,bJ]at o;simp![];exact up1 ⟨_,_,_,_,rfl,by have:=ex.le;ext,o,C⟩
 ·obtain⟨n,O,L,q,el,H,g,ex⟩:=B;subst el;rw[ae,Wn hn]at g;simp![];exact hq n u H g ex
def pB:List Sd->Nat->List (D×D)
 |[],_=>[]
 |x::xs,i=>(bO x,cj i)::pB xs (i+1)
theorem ET{y:Sd}:∀(xs:List Sd)(i:Nat),lN (pB xs i) (bO y)=if y∈xs then some (cj (i+xs.idxOf y)) else none
 |[],i=>rfl
 |x::xs,i=>by
  have c:=ET (y:=y) xs (i+1);unfold lN at c ⊢;rw[pB,cD];dsimp only;rw[C_];by_cases e:x=y
  ·subst e;simp
  ·have o:¬ y=x:=λz=>e z.symm;simp only[aT e];rw[c,rf];have:(x == y)=false:=by simp[e]
   rw[this];simp only[bb,o,false_or,cond_false];by_cases g:y∈xs
   ·simp only[g,if_true];congr 2;ext
   ·simp only[g,if_false]
theorem NH{y:Sd}:∀(xs:List Sd)(i:Nat),pB (xs++[y]) i=pB xs i++[(bO y,cj (i+xs.length))]
 |[],i=>rfl
 |x::xs,i=>by rw[kF,pB,pB,NH xs (i+1),kF,bp,show i+1+xs.length=i+(xs.length+1) by ext]
theorem IU:∀(xs:List Sd)(i:Nat),(pB xs i).length=xs.length
 |[],i=>rfl
 |x::xs,i=>by rw[pB,bp,IU xs,bp]
theorem Ma:∀(xs:List Sd)(i:Nat),(pB xs i).map (·.1)=xs.map bO
 |[],i=>rfl
 |x::xs,i=>by rw[pB,aI,Ma xs,aI]
theorem Pn{y:Sd}(q:y∉xs):kG (pB xs 0) (bO y) (cj xs.length)=pB (xs++[y]) 0:=by
 have c:=ET (y:=y) xs 0;rw[aA q]at c;have v:((pB xs 0).any λp=>nO p.1 (bO y))=false:=by
  cases e:(pB xs 0).any λp=>nO p.1 (bO y) with
  |false=>rfl
  |true=>
   obtain⟨p,o,g⟩:=gG.mp e;have:((pB xs 0).find? λp=>nO p.1 (bO y)).isSome=true:=xB.mpr ⟨p,o,g⟩;unfold lN at c;rw[Option.map_eq_none_iff]at c;rw[c]at this;cases this
 unfold kG;rw[v,aA (by simp),NH,qd]
theorem Jr{y:Sd}:∀{xs t:List Sd},y∈xs->(xs++t).idxOf y=xs.idxOf y
 |x::xs,t,hy=>by
  rw[kF,rf,rf];by_cases e:x=y
  ·subst e;simp
  ·have:(x == y)=false:=by simp[e]
   rw[this];simp only[cond_false];rw[Jr (by rcases bb.mp hy with z|z;exact ba z.symm e;exact z)]
def row(h:Hs)(x:Sd)(ks:List Nat)(xs:List Sd):List D:=ks.map λk=>.tup [cj k,cj (xs.idxOf (kD h x k))]
theorem Pr{x:Sd}{ks:List Nat}{t:List Sd}(g:∀k∈ks,kD h x k∈xs):row h x ks (xs++t)=row h x ks xs:=by unfold row;refine cO λk c=>?_;rw[Jr (g k c)]
def Fn(s:a_)(no nd:Nat)(xs:List Sd)(u:a_):Prop:=u[nd]?=some (.dct true (pB xs 0))/\u[no]?=some (.lst (xs.map bO))/\dE s u
theorem Fn.ext{u':a_}(f:Fn s no nd xs u)(x:dE u u'):Fn s no nd xs u':=⟨x.at_ f.1,x.at_ f.2.1,f.2.2.trans x⟩
theorem Mk{x:Sd}:x∈i5 xs x:=by
 unfold i5;by_cases e:x∈xs
 ·rw[aE e];exact e
 ·rw[aA e];simp
theorem Vl{x y:Sd}{ks:List Nat}(c:y∈xs):y∈oZ h x ks xs:=by obtain⟨t,e⟩:=Gb (h:=h) (x:=x) ks xs;rw[e];exact aL _ c
theorem G3{x:Sd}{k:Nat}:∀{ks:List Nat}{xs:List Sd},k∈ks->kD h x k∈oZ h x ks xs
 |j::ks,xs,c=>by
  show _∈oZ h x ks (i5 xs (kD h x j));rcases bb.mp c with e|c
  ·subst e;exact Vl Mk
  ·exact G3 c
theorem PQ{st:Sd}{a b H G:Option D}{R:qj->a_->Prop}(C:no≠nd)(q:s.length<=no)(B:s.length<=nd)(I:Fn s no nd xs u)(hl:xs.length<=400)
  (L:∀u',Fn s no nd (i5 xs st) u'->(∀n,n≠no->n≠nd->u'[n]?=u[n]?)->R (.next [a,b,some (.ref no),some (.dic nd),H,G,some (bO st)]) u'):
  wp (lD (cA (c2 mX (ai 6) (ai 3))) (aM (bD (fR (ai 3) (ai 6)) (c1 gR (ai 2))) (aM (gL (cL (ai 2) (ai 6))) aS)) aS [a,b,some (.ref no),some (.dic nd),H,G,some (bO st)]) R u:=by
 obtain⟨o,g,J⟩:=I;have h:∀Q,wp (hasK nd (bO st)) Q u=Q (lN (pB xs 0) (bO st)).isSome u:=λQ=>El o (py st);simp![↓h,ET];by_cases c:st∈xs
 ·rw[aE c];simp![iP,dq,aQ,if_false];refine L u ?_ λ_ _ _=>rfl;unfold i5;rw[aE c];exact⟨o,g,J⟩
 ·rw[aA c];have Y:∀v Q,wp (storeK nd (bO st) v) Q u=Q () (u.set nd (.dct true (kG (pB xs 0) (bO st) v))):=λv Q=>zY o (py st) (nB (by rw[IU];ext));have O:∀v,(u.set nd (MO.dct true (kG (pB xs 0) (bO st) v)))[no]?=some (.lst (xs.map bO)):=λv=>by rw[af (by ext)];exact g
  have U:∀v Q,wp (getL no) Q (u.set nd (MO.dct true (kG (pB xs 0) (bO st) v)))=Q (xs.map bO) (u.set nd (MO.dct true (kG (pB xs 0) (bO st) v))):=λv Q=>dR (O v);have T:∀v E Q,wp (putL no E) Q (u.set nd (MO.dct true (kG (pB xs 0) (bO st) v)))=Q () ((u.set nd (MO.dct true (kG (pB xs 0) (bO st) v))).set no (.lst E)):=λv E Q=>mE (O v);simp![oB,eV,if_true,↓dR g,↓Y,↓U,↓T,ae];refine⟨nB (by ext),L _ ?_ λn h l=>by rw[af (bC h),af (bC l)]⟩;unfold i5;rw[aA c];refine⟨?_,?_,(J.put B).put q⟩
  ·rw[af C,ao (f_ o)];have:=Pn c;unfold cj at this;rw[this]
  ·rw[ao (by rw[cw];exact f_ g),aO];rfl
theorem D7(hh:kH h){x:Sd}:(fN h x).length<=3:=by have c:=hh.2.2.2.1;have:=dM (λk=>pA (d0 h x k)) (bH h.hands.length);rw[xA]at this;unfold fN;ext
theorem QZ{x:Sd}(hc:wa h)(U:k_ h x)(gx:Good h xs)(hne:no≠nd)(Y:s.length<=no)(hsd:s.length<=nd)(I:Fn s no nd xs u)
  (hq:∀u',Fn s no nd (oZ h x (fN h x) xs) u'->u'[u.length]?=some (.lst (row h x (fN h x) (oZ h x (fN h x) xs)))->(∀n,n < u.length->n≠no->n≠nd->u'[n]?=u[n]?)->Q (.ref u.length) u'):wp (jr [kC h,bO x,.ref no,.dic nd]) Q u:=by
 have hh:=hc.1;have l2:2<=eS:=gQ (by ext);have wf:∀(Q:D->a_->Prop)s,wp (jS [kC h,bO x]) Q s=Q (.ref s.length) (s++[.lst ((fN h x).map λk=>.int (k:Nat))]):=λQ s=>uY hh U;have G:(u++[MO.lst []]++[MO.lst ((fN h x).map λk=>.int (k:Nat))])[(u++[MO.lst []]).length]?=some (.lst ((fN h x).map λk=>.int (k:Nat))):=mR;have qf:∀Q,wp (getL (u++[MO.lst []]).length) Q (u++[MO.lst []]++[MO.lst ((fN h x).map λk=>.int (k:Nat))])=Q ((fN h x).map λk=>.int (k:Nat)) (u++[MO.lst []]++[MO.lst ((fN h x).map λk=>.int (k:Nat))]):=λQ=>dR G
 (simp![jr];simp![jY,bu,↓wf,↓qf])
 have xu:dE u (u++[MO.lst []]++[MO.lst ((fN h x).map λk=>.int (k:Nat))]):=((dE.refl _).snoc _).snoc _;have gs:(u++[MO.lst []]++[MO.lst ((fN h x).map λk=>.int (k:Nat))])[u.length]?=some (.lst []):=m4 mR;have lf:u.length < (u++[MO.lst []]).length:=by simp
 have lnd:nd < u.length:=f_ I.1;have lno:no < u.length:=f_ I.2.1;have f0:=I.ext xu;have k0:∀n,n < u.length->n≠no->n≠nd->(u++[MO.lst []]++[MO.lst ((fN h x).map λk=>.int (k:Nat))])[n]?=u[n]?:=λn hn _ _=>by rw[aw (by rw[au];ext),aw hn]
 clear qf wf;generalize (u++[MO.lst []]).length=nr at G lf;generalize u++[MO.lst []]++[MO.lst ((fN h x).map λk=>.int (k:Nat))]=u0 at G gs f0 k0;refine qJ (λj l v=>∃(L J:Option D),l=[some (kC h),some (bO x),some (.ref no),some (.dic nd),some (.ref u.length),L,J]/\v[nr]?=some (.lst ((fN h x).map λk=>.int (k:Nat)))/\v[u.length]?=some (.lst (row h x ((fN h x).take j) (oZ h x ((fN h x).take j) xs)))/\Fn s no nd (oZ h x ((fN h x).take j) xs) v/\∀n,n < u.length->n≠no->n≠nd->v[n]?=u[n]?) (λ_ _ _ w=>by obtain⟨_,_,_,g,_⟩:=w;exact g)
  ⟨_,_,rfl,G,gs,f0,k0⟩ (λRw3 j d l v O rt3 hd hW=>?_) (λl v hW=>?_)
 ·obtain⟨L,J,el,g1,H,f,T⟩:=hW;subst el;rw[aj]at hd;cases B:(fN h x)[j]? with
  |none=>rw[B]at hd;cases hd
  |some k=>
   rw[B]at hd;have ed:d=.int (k:Nat):=(aN hd).symm;subst ed;have g:=C7 (ay B);have hj:=(ac.mp B).1;have hj3:=D7 hh (x:=x);have wb:∀(Q:D->a_->Prop)s,wp (jD [kC h,bO x,.int k]) Q s=Q (bO (kD h x k)) s:=λQ s=>WJ hh U g;have gd:=Gk hh U (λk g=>C7 (dX g)) gx (ks:=(fN h x).take j);have hl2:=few hc gd.1 gd.2;have l:∀E∈(fN h x).take j,kD h x E∈oZ h x ((fN h x).take j) xs:=λE o=>G3 o;have v:=Lz (h:=h) (xs:=xs) (x:=x) B;have tk:(fN h x).take (j+1)=(fN h x).take j++[k]:=by rw[cK,B];rfl
   have G:(row h x ((fN h x).take j) (oZ h x ((fN h x).take j) xs)).length<=3:=by unfold row;rw[ae,bE];ext
   generalize oZ h x ((fN h x).take j) xs=ys at *;simp only[↓DO];rw[qM];simp only[↓wM,↓xf,↓wV,↓Af,↓EH,↓yM,↓EA,↓wb,↓FL];rw[qM];refine PQ hne Y hsd f (by ext) λv2 f2 c=>?_;have q:v2[u.length]?=some (.lst (row h x ((fN h x).take j) ys)):=by rw[c _ (by ext) (by ext)];exact H
   obtain⟨b1,b2,b4⟩:=id f2;have C:=ET (y:=kD h x k) (i5 ys (kD h x k)) 0;rw[aE Mk,qd]at C;have q1:∀Q,wp (itemK nd (bO (kD h x k))) Q v2=Q (cj ((i5 ys (kD h x k)).idxOf (kD h x k))) v2:=λQ=>v8 b1 (py _) C;simp![l2,↓q1,↓dR q,↓mE q];obtain⟨t,et⟩:=NP ys (kD h x k);have er:row h x ((fN h x).take j) ys++[.tup [.int (k:Nat),cj ((i5 ys (kD h x k)).idxOf (kD h x k))]]=row h x ((fN h x).take (j+1)) (i5 ys (kD h x k)):=by rw[tk];unfold row;rw[aO];congr 1;refine cO λE o=>?_;rw[et,Jr (l E o)]
   refine⟨nB (by ext),O ⟨_,_,rfl,?_,?_,?_,λn hn h1 I=>?_⟩⟩
   ·rw[af (by ext),c _ (by ext) (by ext)];exact g1
   ·rw[ao (f_ q),er,v]
   ·rw[v];have c:s.length<=u.length:=by ext
    exact⟨by rw[af (by ext)];exact b1,by rw[af (by ext)];exact b2,b4.put c⟩
   ·rw[af (by ext),c n h1 I];exact T n hn h1 I
 ·obtain⟨L,J,el,g1,H,f,T⟩:=hW;subst el;rw[ae,bJ]at f H;simp![];exact hq v f H T
end
open PySem (Str)
section
variable{s u:a_}{Q:D->a_->Prop}{h:Hs}{no nd:Nat}{xs:List Sd}{l:Loc}
theorem UK{i:Int}:wp (nQ (.int i) .non) Q s=Q (.bl true) s:=cN rfl
def GJ(h:Hs)(lo no nd c:Nat)(ys:List Sd)(rs:List D)(u:a_):Prop:=∀(j:Nat)(d:D),rs[j]?=some d->∃(r:Nat)(x:Sd),d=.ref r/\lo<=r/\r≠no/\r≠nd/\r≠c/\ys[j]?=some x/\u[r]?=some (.lst (row h x (fN h x) ys))/\∀k∈fN h x,kD h x k∈ys
theorem Ur{J most:Nat}(U:wa h)(gf:s[J]?=some (.lst (((mw h.hands.length).map (mj h)).map bO)))(hm:∀i,rB h i->(dZ h i).length<=most)
  (hq:∀i no nd q rs u,rG h i->u[no]?=some (.lst ((dZ h i).map bO))->s.length<=no->u[q]?=some (.lst rs)->rs.length=i->s.length<=q->GJ h s.length no nd q (dZ h i) rs u->dE s u->Q (.tup [.ref no,.ref q]) u):wp (jp [kC h,.ref J,.int most]) Q s:=by
 have hh:=U.1;have hn:h.hands.length=2\/h.hands.length=3:=by have:=hh.2.2.1;have:=hh.2.2.2.1;ext
 have l2:2<=eS:=gQ (by ext);have lnf:=f_ gf
 (simp![jp];simp![j0,↓dR (m4 gf)])
 refine qJ (λi l u=>∃(O:Option D),l=[some (kC h),some (.ref J),some (.int most),some (.dic s.length),O,none,none]/\u[J]?=some (.lst (((mw h.hands.length).map (mj h)).map bO))/\u[s.length]?=some (.dct true (pB (mF h ((mw h.hands.length).take i)) 0))/\dE s u) (λ_ _ _ w=>by obtain⟨_,_,g,_⟩:=w;exact g)
  ⟨_,rfl,m4 gf,mR,(dE.refl _).snoc _⟩ (λRw1 i d l u up1 rt1 hd L=>?_) (λl u L=>?_)
 ·obtain⟨O,el,g1,o,ex⟩:=L;subst el;rw[aj,aj]at hd;cases l:(mw h.hands.length)[i]? with
  |none=>rw[l]at hd;cases hd
  |some row=>
   rw[l]at hd;have ed:d=bO (mj h row):=(aN hd).symm;subst ed;have E:Good h (mF h ((mw h.hands.length).take i)):=GZ hh (λr I=>dX I) ⟨kg,by simp⟩;have hl:=few U E.1 E.2;have q:=Nr (h:=h) l;generalize mF h ((mw h.hands.length).take i)=fs at *;have G:=IU fs 0;have C:∀(Q:D->a_->Prop),wp (gR (.dic s.length)) Q u=Q (cj fs.length) u:=λQ=>by rw[Sr o,G];rfl
   have B:=ET (y:=mj h row) fs 0;by_cases c:mj h row∈fs
   ·rw[aE c]at B;have g:∀v Q,wp (lO s.length (bO (mj h row)) v) Q u=Q _ u:=λv Q=>Vh o (py _) (nB (by ext)) B;simp![↓Nc,↓tQ o,↓C,↓g];refine up1 ⟨_,rfl,g1,?_,ex⟩;rw[q];unfold i5;rw[aE c];exact o
   ·rw[aA c]at B;have g:∀v Q,wp (lO s.length (bO (mj h row)) v) Q u=Q v (u.set s.length (.dct true (kG (pB fs 0) (bO (mj h row)) v))):=λv Q=>Yo o (py _) (nB (by ext)) B;simp![↓Nc,↓tQ o,↓C,↓g,Pn c];refine up1 ⟨_,rfl,by rw[af (by ext)];exact g1,?_,ex.put (ar _)⟩;rw[ao (f_ o),q];unfold i5;rw[aA c]
 ·obtain⟨O,el,g1,o,ex⟩:=L;subst el;rw[ae,ae,bJ]at o;have qk:∀(Q:D->a_->Prop),wp (nj (.dic s.length)) Q u=Q (.ref u.length) (u++[.lst ((dZ h 0).map bO)]):=λQ=>by rw[NY o,Ma];rfl
  simp![bu,↓qk];have lu:=ex.le;have f0:Fn s u.length s.length (dZ h 0) (u++[MO.lst ((dZ h 0).map bO)]++[MO.lst []]):=⟨m4 (m4 o),m4 mR,(ex.snoc _).snoc _⟩
  have g3:(u++[MO.lst ((dZ h 0).map bO)]++[MO.lst []])[(u++[MO.lst ((dZ h 0).map bO)]).length]?=some (.lst []):=mR;have l3:u.length < (u++[MO.lst ((dZ h 0).map bO)]).length:=by simp
  have l4:=f_ o;clear qk;generalize (u++[MO.lst ((dZ h 0).map bO)]).length=q at g3 l3;generalize u++[MO.lst ((dZ h 0).map bO)]++[MO.lst []]=u0 at g3 f0;generalize u.length=no at *;refine yH (λl v=>∃(i:Nat)(rs:List D),l=[some (kC h),some (.ref J),some (.int most),some (.dic s.length),O,some (.ref no),some (.ref q)]/\rB h i/\Fn s no s.length (dZ h i) v/\v[q]?=some (.lst rs)/\rs.length=i/\GJ h s.length no s.length q (dZ h i) rs v)
   (λ(_:Loc)(v:a_)=>match (v[q]?:Option MO) with
    |some (.lst rs)=>1000-rs.length
    |_=>0) ⟨0,[],rfl,λj T=>ba T (by ext),f0,g3,rfl,λj d hd=>by simp at hd⟩ (λRw2 l v g rt2 L=>?_)
  obtain⟨i,rs,el,go,f,H,I,st⟩:=L;subst el;obtain⟨hl,hi⟩:=C4 U go;have hmo:=hm i go;have gl:v[no]?=some (.lst ((dZ h i).map bO)):=f.2.1;simp![↓dR gl,↓dR H,ae];by_cases G:i < (dZ h i).length
  ·rw[aE (by ext)];have E:(dZ h i)[i]?=some (dZ h i)[i]:=ag G;have L:=(yV hh i).2 _ (dA G);have Y:dZ h (i+1)=oZ h (dZ h i)[i] (fN h (dZ h i)[i]) (dZ h i):=by
    show (match (dZ h i)[i]? with
     |some x=>oZ h x (fN h x) (dZ h i)
     |none=>dZ h i)=_
    rw[E]
   obtain⟨t,c⟩:=Kw (h:=h) i;generalize (dZ h i)[i]=x at E L Y;have u:∀(Q:D->a_->Prop)s,wp (cB ((dZ h i).map bO) (rs.length:Nat)) Q s=Q (bO x) s:=λQ s=>pX (by rw[aj,I,E];rfl);simp![↓UK,↓dR gl,↓dR H,↓u,ae];rw[aA (by ext)]
   try simp![↓dR gl,↓dR H,↓u,ae]
   refine QZ U L (yV hh i) (by ext) (by ext) (ar _) f λv2 f2 gv J=>?_;have B:=f_ H;have C:v2[q]?=some (.lst rs):=by rw[J q B (by ext) (by ext)];exact H
   simp![↓dR C,↓mE C];have lvo:=f_ gl;have lvd:=f_ f.1;refine⟨nB (by ext),g ⟨i+1,_,rfl,λj T=>?_,?_,ao (f_ C),by simp[I],λj d hd=>?_⟩ ?_⟩
   ·by_cases e:j=i
    ·subst e;exact G
    ·exact go j (by ext)
   ·rw[Y];obtain⟨h,g,c⟩:=f2;exact⟨by rw[af (by ext)];exact h,by rw[af (by ext)];exact g,c.put (by ext)⟩
   ·by_cases T:j < rs.length
    ·rw[aw T]at hd;obtain⟨r,y,ed,C,B,u,q,h,g,O⟩:=st j d hd;refine⟨r,y,ed,C,B,u,q,?_,?_,λk l=>?_⟩
     ·rw[c,aw (ac.mp h).1];exact h
     ·rw[af (bC q),J r (f_ g) B u,c,Pr O];exact g
     ·rw[c];exact aL _ (O k l)
    ·have o : j = rs.length := by have:=(ac.mp hd).1;rw[au]at this;simp at this;ext
     subst o;rw[aW (ar _),eK]at hd;cases hd;refine⟨v.length,x,rfl,by ext,by ext,by ext,by ext,?_,?_,λk l=>?_⟩
     ·rw[c,aw (by ext),I];exact E
     ·rw[af (by ext),Y];exact gv
     ·rw[Y];exact G3 l
   ·rw[ao (f_ C),H];simp only[au,dL];ext
  ·rw[aA (by ext)];simp![l2];exact hq i _ _ _ _ _ ⟨go,by ext⟩ gl (by ext) H I (by ext) st f.2.2
theorem Qd{r:Nat}(hh:kH h)(g:u[r]?=some (.lst ((mw h.hands.length).map D.tup)))(A:List D->a_->Prop):wp (collect (aP 0) bT (bN jJ (az (ai 1) (az (ai 0) bh))) (io r ((mw h.hands.length).map D.tup)) ((mw h.hands.length).map D.tup) [none,some (kC h)]) A u=A (((mw h.hands.length).map (mj h)).map bO) u:=by
 rw[zZ (f:=λk=>((((mw h.hands.length).map (mj h)).map bO)[k]?).getD .non) (show io r _ u from g) (λk d hd Q=>by
  rw[aj]at hd;cases c:(mw h.hands.length)[k]? with
  |none=>rw[c]at hd;cases hd
  |some row=>
   rw[c]at hd;have v:d=.tup row:=(aN hd).symm;subst v;have q:∀(Q:D->a_->Prop)s,wp (jJ [kC h,.tup row]) Q s=Q (bO (mj h row)) s:=λQ s=>Xv hh (ay c);rw[aj,aj,c];simp![↓q,eE,fA])]
 congr 1;rw[ae];apply eC;intro k;by_cases o:k < (mw h.hands.length).length
 ·rw[v7 o,aj,aj,ag o];rfl
 ·rw[bX (by rw[mT];ext),bX (by rw[ae,ae];ext)]
theorem Yz{most:Nat}(q:wa h)(H:∀i,rB h i->(dZ h i).length<=most)
  (C:∀i no nd c rs u,rG h i->u[no]?=some (.lst ((dZ h i).map bO))->s.length<=no->u[c]?=some (.lst rs)->rs.length=i->s.length<=c->GJ h s.length no nd c (dZ h i) rs u->dE s u->Q (.tup [.ref no,.ref c]) u):wp (jF [kC h,.int most]) Q s:=by
 have hh:=q.1
 (simp![jF];simp![yc])
 refine XD hh λr u hr g ex=>?_;have w:=λA=>Qd hh g A;have B:(mw h.hands.length).length<=eS:=gQ (by rw[NA];have U:=hh.2.2.1;have T:=hh.2.2.2.1;rcases (show h.hands.length=2\/h.hands.length=3 by ext) with e|e<;>rw[e]<;>decide)
 simp![↓dR g,gX,↓w,ae,B];refine Ur q mR H λi no nd c rs v st J G I o E sp L=>?_;simp![];have l:=ex.le;have Y:=(ex.snoc (.lst (((mw h.hands.length).map (mj h)).map bO))).le;refine C i no nd c rs v st J (by ext) I o (by ext) (λj d hd=>?_) ((ex.snoc _).trans L);obtain⟨r,x,O,e1,e⟩:=sp j d hd;exact⟨r,x,O,by ext,e⟩
end
open PySem (Str)
inductive Rc(E:Nat->List (Nat×Nat)):Nat->Nat->Prop
 |refl (x:Nat):Rc E x x
 |step {x y:Nat}{p:Nat×Nat} (h:p∈E x) (r:Rc E p.2 y):Rc E x y
section
variable{E:Nat->List (Nat×Nat)}{n:Nat}{F P G:List Nat}{x y z:Nat}
theorem Rc.trans(a:Rc E x y)(b:Rc E y z):Rc E x z:=by
 induction a with
 |refl=>exact b
 |step h _ ih=>exact .step h (ih b)
theorem Rc.snoc{p:Nat×Nat}(a:Rc E x y)(h:p∈E y):Rc E x p.2:=a.trans (.step h (.refl _))
noncomputable def FO(E:Nat->List (Nat×Nat))(F:List Nat):Prop:=∀(i x:Nat),F[i]?=some x->∀a∈F.take (i+1),∀p∈E a,p.2∈F.take (i+1)\/Rc E p.2 x
structure DI(n:Nat)(E:Nat->List (Nat×Nat))(F P G:List Nat):Prop where
 nd:(F++P).Nodup
 lt:∀x∈F++P,x < n
 len:G.length=P.length
 cl:∀a∈F,∀p∈E a,p.2∈F++P
 pg:∀(j x g:Nat),P[j]?=some x->G[j]?=some g->g<=(E x).length/\∀p∈(E x).take g,p.2∈F++P
 ch:∀(i j x y:Nat),i<=j->P[i]?=some x->P[j]?=some y->Rc E x y
 fo:FO E F
theorem Kq:(F++(P++[x])).Perm (F++[x]++P):=by rw[aX];exact List.Perm.append_left F (List.perm_append_comm)
theorem DI.fin(I:DI n E F (P++[x]) (G++[(E x).length])):DI n E (F++[x]) P G:=by
 have v:=Kq (F:=F) (P:=P) (x:=x);have u:∀y,y∈F++(P++[x])->y∈F++[x]++P:=λy l=>v.mem_iff.mp l;have H:G.length=P.length:=by have:=I.len;simp at this;exact this
 have top:(P++[x])[P.length]?=some x:=by simp
 have tg:(G++[(E x).length])[P.length]?=some (E x).length:=by rw[<- H];simp
 obtain⟨_,h⟩:=I.pg P.length x _ top tg;rw[bJ]at h;have at_:∀{j y:Nat},P[j]?=some y->(P++[x])[j]?=some y:=λe=>by rw[aw (ac.mp e).1];exact e
 refine⟨v.nodup_iff.mp I.nd,λy l=>I.lt y (v.mem_iff.mpr l),H,λa c p o=>?_,λj y g l L=>?_,λi j a b B c T=>I.ch i j a b B (at_ c) (at_ T),λi y l a c p o=>?_⟩
 ·rcases aB.mp c with c|c
  ·exact u _ (I.cl a c p o)
  ·rw[ax.mp c]at o;exact u _ (h p o)
 ·obtain⟨q,U⟩:=I.pg j y g (at_ l) (by rw[aw (ac.mp L).1];exact L);exact⟨q,λp o=>u _ (U p o)⟩
 ·by_cases Q:i < F.length
  ·rw[aw Q]at l;rw[gP (by ext)]at c ⊢;exact I.fo i y l a c p o
  ·have C : i = F.length := by have:=(ac.mp l).1;rw[au]at this;simp at this;ext
   subst C;rw[aW (ar _),eK]at l;cases l;rw[ul (by simp)]at c ⊢;have O:p.2∈F++(P++[x]):=by
    rcases aB.mp c with c|c
    ·exact I.cl a c p o
    ·rw[ax.mp c]at o;exact h p o
   rcases aB.mp (u _ O) with q|q
   ·exact .inl q
   ·obtain⟨j,J⟩:=bm.mp q;exact .inr (I.ch j P.length _ x (p9 (ac.mp J).1) (at_ J) top)
theorem Ef{g:Nat}{p:Nat×Nat}(h:(E x)[g]?=some p):(E x).take (g+1)=(E x).take g++[p]:=by rw[cK,h];rfl
theorem DI.old{g:Nat}{p:Nat×Nat}(I:DI n E F (P++[x]) (G++[g]))(v:(E x)[g]?=some p)(C:p.2∈F++(P++[x])):DI n E F (P++[x]) (G++[g+1]):=by
 have o:G.length=P.length:=by have:=I.len;simp at this;exact this
 refine⟨I.nd,I.lt,by simp[o],I.cl,λj y k l h=>?_,I.ch,I.fo⟩;by_cases B:j < G.length
 ·rw[aw B]at h;exact I.pg j y k l (by rw[aw B];exact h)
 ·have u : j = G.length := by have:=(ac.mp h).1;rw[au]at this;simp at this;ext
  subst u;rw[aW (ar _),eK]at h;cases h;rw[o,aW (ar _),eK]at l;cases l;obtain⟨J,H⟩:=I.pg G.length x g (by rw[o];simp) (by simp);refine⟨(ac.mp v).1,λq c=>?_⟩;rw[Ef v]at c;rcases aB.mp c with c|c
  ·exact H q c
  ·rw[ax.mp c];exact C
theorem DI.new{g:Nat}{p:Nat×Nat}(I:DI n E F (P++[x]) (G++[g]))(T:(E x)[g]?=some p)(hs:p.2∉F++(P++[x]))(hn:p.2 < n):DI n E F (P++[x]++[p.2]) (G++[g+1]++[0]):=by
 have H:G.length=P.length:=by have:=I.len;simp at this;exact this
 have mo:∀{y},y∈F++(P++[x])->y∈F++(P++[x]++[p.2]):=λh=>by rw[<- aX];exact aL _ h
 have Q:p∈E x:=ay T;have O:(P++[x])[P.length]?=some x:=by simp
 have u:(P++[x]).length=P.length+1:=by simp
 refine⟨?_,λy c=>?_,by simp[H],λa v q l=>mo (I.cl a v q l),λj y k c B=>?_,λi j a b U v C=>?_,I.fo⟩
 ·rw[<- aX,cn];refine⟨I.nd,by simp,λa v b C e=>?_⟩;rw[ax]at C;subst C e;exact hs v
 ·rw[<- aX]at c;rcases aB.mp c with c|c
  ·exact I.lt y c
  ·rw[ax.mp c];exact hn
 ·by_cases L:j < P.length+1
  ·rw[aw (by rw[u];exact L)]at c;rw[aw (by simp[H];exact L)]at B;by_cases J:j < G.length
   ·rw[aw J]at B;obtain⟨v,h⟩:=I.pg j y k c (by rw[aw J];exact B);exact⟨v,λq l=>mo (h q l)⟩
   ·have o:j=G.length:=by ext
    subst o;rw[aW (ar _),eK]at B;cases B;rw[H,O]at c;cases c;obtain⟨v,h⟩:=I.pg G.length x g (by rw[H];exact O) (by simp);refine⟨(ac.mp T).1,λq l=>?_⟩;rw[Ef T]at l;rcases aB.mp l with l|l
    ·exact mo (h q l)
    ·rw[ax.mp l];simp
  ·have o : j = P.length+1 := by have:=(ac.mp c).1;rw[au,u]at this;simp at this;ext
   subst o;rw[aW (by simp[H])]at B;simp[H]at B;subst B;exact⟨bu _,λq l=>by simp at l⟩
 ·by_cases L:j < P.length+1
  ·rw[aw (by rw[u];ext)]at v;rw[aw (by rw[u];exact L)]at C;exact I.ch i j a b U v C
  ·have o : j = P.length+1 := by have:=(ac.mp C).1;rw[au,u]at this;simp at this;ext
   subst o;rw[aW (by rw[u];exact ar _),u,eK]at C;cases C;by_cases c:i < P.length+1
   ·rw[aw (by rw[u];exact c)]at v;exact (I.ch i P.length a x (by ext) v O).snoc Q
   ·have Y:i=P.length+1:=by ext
    subst Y;rw[aW (by rw[u];exact ar _),u,eK]at v;cases v;exact .refl _
theorem DI.root{r:Nat}(I:DI n E F [] [])(v:r∉F)(B:r < n):DI n E F [r] [0]:=by
 have mo:∀{y},y∈F++[]->y∈F++[r]:=λh=>by rw[bn]at h;exact aL _ h
 refine⟨?_,λy c=>?_,rfl,λa g q o=>mo (I.cl a g q o),λj y k c u=>?_,λi j a b C g l=>?_,I.fo⟩
 ·rw[cn];refine⟨by have:=I.nd;rwa [bn]at this,by simp,λa g b l e=>?_⟩;rw[ax]at l;subst l e;exact v g
 ·rcases aB.mp c with c|c
  ·exact I.lt y (aL _ c)
  ·rw[ax.mp c];exact B
 ·match j,c,u with
  |0,c,u=>cases u;exact⟨bu _,λq o=>by simp at o⟩
  |j+1,c,_=>simp at c
 ·match i,j,g,l with
  |0,0,g,l=>cases g;cases l;exact .refl _
  |0,j+1,_,l=>simp at l
  |i+1,_,g,_=>simp at g
theorem DI.nil:DI n E [] [] []:=⟨by simp,by simp,rfl,by simp,by simp,by simp,λi x h=>by simp at h⟩
noncomputable def xI(E:Nat->List (Nat×Nat))(F G:List Nat):Nat:=F.length+(F.map λa=>(E a).length).sum+G.sum
theorem Mo{f:Nat->Nat}:∀{F:List Nat},(∀a∈F,f a<=3)->(F.map f).sum<=3*F.length
 |[],_=>by simp
 |a::F,h=>by have l:=h a (by simp);have g:=Mo (F:=F) λb c=>h b (by simp[c]);simp only[aI,cY,bp];ext
theorem Oz:∀{G:List Nat},(∀g∈G,g<=3)->G.sum<=3*G.length
 |[],_=>by simp
 |a::G,h=>by have o:=h a (by simp);have l:=Oz (G:=G) λb c=>h b (by simp[c]);simp only[cY,bp];ext
theorem DI.prg_le(I:DI n E F P G)(few:∀i,i < n->(E i).length<=3):xI E F G<=7*n:=by
 have q:=Cg n (F++P) I.nd I.lt;rw[au]at q;have v:=Mo (F:=F) (f:=λa=>(E a).length) λa o=>few a (I.lt a (aL _ o));have u:=Oz (G:=G) λg l=>by
  obtain⟨j,h⟩:=bm.mp l;have c:j < P.length:=by rw[<- I.len];exact (ac.mp h).1
  have:=(I.pg j _ g (ag c) h).1;have:=few P[j] (I.lt _ (aY _ (dA c)));ext
 have:=I.len;unfold xI;ext
end
open PySem (Str)
section
variable{s u s0:a_}{Q:D->a_->Prop}{l:Loc}{E:Nat->List (Nat×Nat)}{n ns dc no root:Nat}{F P G:List Nat}
noncomputable def zR(p:Nat×Nat):D:=.tup [.int (p.1:Nat),.int (p.2:Nat)]
noncomputable def d7(x:Nat):D:=.int (x:Nat)
structure wc(n:Nat)(E:Nat->List (Nat×Nat))(ns:Nat)(u:a_):Prop where
 at_:∃rs:List Nat,u[ns]?=some (.lst (rs.map .ref))/\rs.length=n/\∀(i r:Nat),rs[i]?=some r->u[r]?=some (.lst ((E i).map zR))
 wf:∀i,i < n->∀p∈E i,p.2 < n
 few:∀i,i < n->(E i).length<=3
theorem wc.ext(g:wc n E ns s)(x:dE s u):wc n E ns u:=by obtain⟨⟨rs,B,v,q⟩,o,h⟩:=g;exact⟨⟨rs,x.at_ B,v,λi r c=>x.at_ (q i r c)⟩,o,h⟩
theorem wc.row(g:wc n E ns u){i:Nat}(v:i < n):∃(rs:List Nat)(r:Nat),(∀Q,wp (getL ns) Q u=Q (rs.map .ref) u)/\(∀(Q:D->a_->Prop)s,wp (cB (rs.map D.ref) ((i:Nat):Int)) Q s=Q (.ref r) s)/\u[r]?=some (.lst ((E i).map zR))/\rs.length=n:=by
 obtain⟨⟨rs,q,o,h⟩,C,B⟩:=g;have c:i < rs.length:=by ext
 exact⟨rs,rs[i],λQ=>dR q,λQ s=>pX (by rw[aj,ag c];rfl),h i _ (ag c),o⟩
theorem IK{ds:List D}{d:D}:wp (cB (ds++[d]) (-1)) Q s=Q d s:=by
 have e:cB (ds++[d]) (-1)=ret d:=by
  unfold cB;have:MM.my (ds++[d]).length (-1)=some ds.length:=by unfold MM.my;rw[aA (by ext),aE (by simp;ext)];simp;ext
  rw[this];dsimp only;rw[aW (ar _),eK];rfl
 rw[e,ck]
theorem WW{k:Nat}:MM.my (k+1) (-1)=some k:=by unfold MM.my;rw[aA (by ext),aE (by simp;ext)];simp;ext
theorem Qn{ds:List D}{d e:D}:(ds++[d]).set ds.length e=ds++[e]:=by rw[uS _ _ (ar _),eK];rfl
theorem SX{H I J:CE}{R:qj->a_->Prop}: wp (tF H I J l) R s=wp (H l) (λo C=>wp (I l) (λi B=>match o,i with
  | .ref n,.int k=>wp (getL n) (λds v=>wp (cB ds k) (λx q=>wp (J l) (λy h=>wp (uD x y) (λz g=>wp (lc (.ref n) (.int k) z) (λ_ c=>R (.next l) c) g) h) q) v) B
  |_,_=>False) C) s:=by
 unfold tF;rw[dF];congr 1;funext o C;rw[dF];congr 1;funext i B;cases o with
 |ref n=>
  cases i with
  |int k=>
   rw[dF];congr 1;funext ds v;rw[dF];congr 1;funext x q;rw[dF];congr 1;funext y h;rw[dF];congr 1;funext z g;rw[dF];congr 1;funext z c;rw[ck]
  |_=>exact gi
 |_=>exact gi
theorem MW{i j:Int}:wp (uD (.int i) (.int j)) Q s=Q (.int (i+j)) s:=cN rfl
theorem LP{f:Nat->D}{i:Nat}{v:D}(g:i < n):(bx n f).set i v=bx n λj=>if j=i then v else f j:=by
 apply eC;intro k;by_cases c:k < n
 ·rw[v7 c];by_cases e:k=i
  ·subst e;rw[ao (by rw[mT];exact c),aE rfl]
  ·rw[af (bC e),v7 c,aA e]
 ·rw[bX (by rw[cw,mT];ext),bX (by rw[mT];ext)]
theorem Ge{k i:Nat}(h:i < k):MM.my k ((i:Nat):Int)=some i:=by unfold MM.my;rw[aE (by ext),aE (by ext)];simp
def seen(n:Nat)(S:List Nat):List D:=bx n λi=>.bl (decide (i∈S))
theorem OL{S:List Nat}{i:Nat}(c:i < n):(seen n S).set i (.bl true)=seen n (S++[i]):=by
 unfold seen;rw[LP c];congr 1;funext j;by_cases e:j=i
 ·subst e;simp
 ·simp[e]
theorem YA{S T:List Nat}(h:∀i,i∈S↔i∈T):seen n S=seen n T:=by unfold seen;congr 1;funext j;simp[h j]
theorem M_{S:List Nat}{i:Nat}(c:i < n):wp (cB (seen n S) ((i:Nat):Int)) Q s=Q (.bl (decide (i∈S))) s:=vP c
noncomputable def Cb(E:Nat->List (Nat×Nat)):D->Nat
 | .int i=>(E i.toNat).length
 |_=>0
noncomputable def A_:D->Nat
 | .int i=>i.toNat
 |_=>0
theorem C3:(F.map d7).length+((F.map d7).map (Cb E)).sum+((G.map d7).map A_).sum=xI E F G:=by
 have g:(F.map d7).map (Cb E)=F.map λa=>(E a).length:=by rw[db];exact cO λa _=>rfl
 have c:(G.map d7).map A_=G:=by rw[db];exact (cO λa _=>rfl).trans (qS G)
 unfold xI;rw[g,c,ae]
theorem W5(g:wc n E ns s0)(x0:dE s0 s)(hs:s[dc]?=some (.lst (seen n F)))(ho:s[no]?=some (.lst (F.map d7)))(l1:s0.length<=dc)(l2:s0.length<=no)(hne:dc≠no)(I:DI n E F [] [])(hr:root < n)(hrF:root∉F)(hn:n<=400)
  (hq:∀c u,DI n E c [] []->(∀x∈F,x∈c)->root∈c->u[dc]?=some (.lst (seen n c))->u[no]?=some (.lst (c.map d7))->dE s0 u->(∀k,k < s.length->k≠dc->k≠no->u[k]?=s[k]?)->Q .non u):
  wp (jn [.ref ns,.int (root:Nat),.ref dc,.ref no]) Q s:=by
 have c1:1<=eS:=gQ (by ext);have ls:=f_ hs;have lo:=f_ ho;have q0:∀Q,wp (getL dc) Q s=Q (seen n F) s:=λQ=>dR hs;have ix:MM.my (seen n F).length ((root:Nat):Int)=some root:=by unfold seen;rw[mT];exact Ge hr
 have q1:∀es Q,wp (putL dc es) Q s=Q () (s.set dc (.lst es)):=λes Q=>mE hs
 (simp![jn];simp![jW,↓q0,ix,↓q1,c1,OL hr])
 have e0:(s.set dc (MO.lst (seen n (F++[root])))).length=s.length:=cw;rw[e0];have a1:(s.set dc (MO.lst (seen n (F++[root])))++[MO.lst [.int (root:Nat)]]++[MO.lst [.int 0]])[dc]?=some (.lst (seen n (F++[root]))):=m4 (m4 (ao ls));have a2:(s.set dc (MO.lst (seen n (F++[root])))++[MO.lst [.int (root:Nat)]]++[MO.lst [.int 0]])[no]?=some (.lst (F.map d7)):=m4 (m4 (by rw[af hne];exact ho));have a3:(s.set dc (MO.lst (seen n (F++[root])))++[MO.lst [.int (root:Nat)]]++[MO.lst [.int 0]])[s.length]?=some (.lst [.int (root:Nat)]):=m4 (by rw[<- e0];exact mR);have a4:(s.set dc (MO.lst (seen n (F++[root])))++[MO.lst [.int (root:Nat)]]++[MO.lst [.int 0]])[s.length+1]?=some (.lst [.int 0]):=by
  have:s.length+1=(s.set dc (MO.lst (seen n (F++[root])))++[MO.lst [.int (root:Nat)]]).length:=by rw[au,e0];rfl
  rw[this];exact mR
 have a5:dE s0 (s.set dc (MO.lst (seen n (F++[root])))++[MO.lst [.int (root:Nat)]]++[MO.lst [.int 0]]):=((x0.put l1).snoc _).snoc _;have a6:∀k,k < s.length->k≠dc->k≠no->(s.set dc (MO.lst (seen n (F++[root])))++[MO.lst [.int (root:Nat)]]++[MO.lst [.int 0]])[k]?=s[k]?:=λk L B _=>by rw[aw (by rw[au,e0];ext),aw (by rw[e0];exact L),af (bC B)]
 have e1:(s.set dc (MO.lst (seen n (F++[root])))++[MO.lst [.int (root:Nat)]]).length=s.length+1:=by rw[au,e0];rfl
 try rw[e1]
 clear q0 q1;generalize s.set dc (MO.lst (seen n (F++[root])))++[MO.lst [.int (root:Nat)]]++[MO.lst [.int 0]]=s1 at *;refine yH (λl v=>∃(c P G:List Nat)(y6 y7:Option D),l=[some (.ref ns),some (.int (root:Nat)),some (.ref dc),some (.ref no),some (.ref s.length),some (.ref (s.length+1)),y6,y7]/\DI n E c P G/\(∀x∈F++[root],x∈c++P)/\v[dc]?=some (.lst (seen n (c++P)))/\v[no]?=some (.lst (c.map d7))/\v[s.length]?=some (.lst (P.map d7))/\v[s.length+1]?=some (.lst (G.map d7))/\dE s0 v/\∀k,k < s.length->k≠dc->k≠no->v[k]?=s[k]?)
  (λ(_:Loc)(v:a_)=>match (v[no]?:Option MO),(v[s.length+1]?:Option MO) with
   |some (.lst os),some (.lst gs)=>10000-(os.length+(os.map (Cb E)).sum+(gs.map A_).sum)
   |_,_=>0) ⟨F,[root],[0],_,_,rfl,I.root hrF hr,λx T=>T,a1,a2,a3,a4,a5,a6⟩ (λRw1 l v up1 rt1 hW=>?_)
 obtain⟨c,P,G,y6,y7,el,J,Y,b1,b2,b3,b4,b5,b6⟩:=hW;subst el;simp![↓dR b3,ae];have C:=Cg n (c++P) J.nd J.lt;rw[au]at C;rcases g8 P with e|⟨q,x,e⟩
 ·subst e;have eG:G=[]:=dW.mp J.len;subst eG;rw[aA (by simp)];rw[bn]at b1;have g:∀x∈F++[root],x∈c:=λx T=>by have:=Y x T;rwa [bn]at this
  exact hq c v J (λx T=>g x (aL _ T)) (g root (by simp)) b1 b2 b5 b6
 ·rw[g9]at e;subst e;obtain⟨h,gl,eG⟩:∃h gl,G=h++[gl]:=by
   rcases g8 G with z|⟨h,gl,z⟩
   ·have:=J.len;rw[z]at this;simp at this
   ·exact⟨h,gl,by rw[z,g9]⟩
  subst eG;have hl:h.length=q.length:=by have:=J.len;simp at this;exact this
  have T:x < n:=J.lt x (by simp);rw[aE (by simp)];obtain⟨rs,r,qg,qi,gr,hrs⟩:=(g.ext b5).row T;have pm:(q++[x]).map d7=q.map d7++[.int (x:Nat)]:=by rw[aO];rfl
  have gm:(h++[gl]).map d7=h.map d7++[.int (gl:Nat)]:=by rw[aO];rfl
  have qG:∀Q,wp (getL (s.length+1)) Q v=Q (h.map d7++[.int (gl:Nat)]) v:=λQ=>by rw[<- gm];exact dR b4
  have qP:∀Q,wp (getL s.length) Q v=Q (q.map d7++[.int (x:Nat)]) v:=λQ=>by rw[<- pm];exact dR b3
  have few:=(g.few x T)
  obtain⟨pg1,pg2⟩:=J.pg q.length x gl (by simp) (by rw[<- hl];simp);have hF:c.length<=400:=by ext
  have pr:=J.prg_le g.few;rw[pm,IK];simp![↓qP,↓IK,↓qG,↓qg,↓qi,↓dR gr,ae];have nP:no≠s.length:=by ext
  have nG:no≠s.length+1:=by ext
  have eP:dc≠s.length:=by ext
  have l:dc≠s.length+1:=by ext
  have kk:s.length≠s.length+1:=by ext
  have ls0:=x0.le;by_cases hg:gl=(E x).length
  ·rw[aE (by ext),dR b2];rw[mE b2];refine⟨nB (by rw[ae];ext),?_⟩;have d3:(v.set no (MO.lst (c.map d7++[.int (x:Nat)])))[s.length]?=some (.lst (q.map d7++[.int (x:Nat)])):=by rw[af nP,<- pm];exact b3
   have u:(v.set no (MO.lst (c.map d7++[.int (x:Nat)])))[s.length+1]?=some (.lst (h.map d7++[.int (gl:Nat)])):=by rw[af nG,<- gm];exact b4
   have I:(v.set no (MO.lst (c.map d7++[.int (x:Nat)])))[dc]?=some (.lst (seen n (c++(q++[x])))):=by rw[af (bC hne)];exact b1
   have d2:(v.set no (MO.lst (c.map d7++[.int (x:Nat)])))[no]?=some (.lst ((c++[x]).map d7)):=by rw[ao (f_ b2),aO];rfl
   have d5:dE s0 (v.set no (MO.lst (c.map d7++[.int (x:Nat)]))):=b5.put l2;have d6:∀k,k < s.length->k≠dc->k≠no->(v.set no (MO.lst (c.map d7++[.int (x:Nat)])))[k]?=s[k]?:=λk L B O=>by rw[af (bC O)];exact b6 k L B O
   generalize v.set no (MO.lst (c.map d7++[.int (x:Nat)]))=v1 at *;have o:(v1.set s.length (MO.lst (q.map d7)))[s.length+1]?=some (.lst (h.map d7++[.int (gl:Nat)])):=by rw[af kk];exact u
   simp![↓dR d3,↓mE d3,↓dR o,↓mE o,vo,vp];rw[hg]at J;have J2:=J.fin;refine up1 ⟨c++[x],q,h,_,_,rfl,J2,λy hy=>?_,?_,?_,?_,ao (by rw[cw];exact f_ u),(d5.put (by ext)).put (by ext),λk L B O=>?_⟩ ?_
   ·exact Kq.mem_iff.mp (Y y hy)
   ·rw[af (bC l),af (bC eP),I,YA λi=>Kq.mem_iff]
   ·rw[af (bC nG),af (bC nP)];exact d2
   ·rw[af (bC kk),ao (f_ d3)]
   ·rw[af (by ext),af (by ext)];exact d6 k L B O
   ·rw[af (bC nG),af (bC nP),d2,ao (by rw[cw];exact f_ u),b2,b4];dsimp only;rw[C3,C3];have B:=J2.prg_le g.few;have O:xI E (c++[x]) h=xI E c (h++[gl])+1:=by unfold xI;simp only[au,aO,kU,aI,lA,cY,pP,bp,fP];ext
    ext
  ·rw[aA (by ext)];have hgl:gl < (E x).length:=by ext
   obtain⟨p,hp⟩:∃p,(E x)[gl]?=some p:=⟨_,ag hgl⟩
   have U:p.2 < n:=g.wf x T p (ay hp);have qe:∀(Q:D->a_->Prop)s,wp (cB ((E x).map zR) ((gl:Nat):Int)) Q s=Q (.tup [.int (p.1:Nat),.int (p.2:Nat)]) s:=λQ s=>pX (by rw[aj,hp];rfl);have ixG:MM.my (h.map d7++[D.int (gl:Nat)]).length (-1)=some h.length:=by rw[au,ae];exact WW
   simp![↓SX,↓MW,↓qg,↓qi,↓dR gr,↓qG,↓IK,↓qe,↓mE b4,ixG];have G:(h.map d7++[D.int (gl:Nat)]).set h.length (.int ((gl:Nat)+1))=(h++[gl+1]).map d7:=by
    rw[aO];have:h.length=(h.map d7).length:=by rw[ae]
    rw[this,Qn];rfl
   rw[G];have I:(v.set (s.length+1) (MO.lst ((h++[gl+1]).map d7)))[dc]?=some (.lst (seen n (c++(q++[x])))):=by rw[af (bC l)];exact b1
   have d2:(v.set (s.length+1) (MO.lst ((h++[gl+1]).map d7)))[no]?=some (.lst (c.map d7)):=by rw[af (bC nG)];exact b2
   have d3:(v.set (s.length+1) (MO.lst ((h++[gl+1]).map d7)))[s.length]?=some (.lst ((q++[x]).map d7)):=by rw[af (bC kk)];exact b3
   have u:(v.set (s.length+1) (MO.lst ((h++[gl+1]).map d7)))[s.length+1]?=some (.lst ((h++[gl+1]).map d7)):=ao (f_ b4);have d5:dE s0 (v.set (s.length+1) (MO.lst ((h++[gl+1]).map d7))):=b5.put (by ext);have d6:∀k,k < s.length->k≠dc->k≠no->(v.set (s.length+1) (MO.lst ((h++[gl+1]).map d7)))[k]?=s[k]?:=λk L B O=>by rw[af (by ext)];exact b6 k L B O
   have mu:∀H:List Nat,H.sum=gl+1+h.sum->xI E c H=xI E c (h++[gl])+1:=λH hH=>by unfold xI;rw[hH];simp only[kU,cY,pP];ext
   generalize v.set (s.length+1) (MO.lst ((h++[gl+1]).map d7))=v1 at *;have q2:∀(Q:D->a_->Prop)s,wp (cB (seen n (c++(q++[x]))) ((p.2:Nat):Int)) Q s=Q (.bl (decide (p.2∈c++(q++[x])))) s:=λQ s=>M_ U;simp![↓dR I,↓q2];by_cases hm:p.2∈c++(q++[x])
   ·rw[bF hm];simp![dq,aQ,if_false];refine up1 ⟨c,q++[x],h++[gl+1],_,_,rfl,J.old hp hm,Y,I,d2,d3,u,d5,d6⟩ ?_;rw[d2,u,b2,b4];dsimp only;rw[C3,C3];have B:=(J.old hp hm).prg_le g.few;have:=mu (h++[gl+1]) (by simp only[kU,cY,pP];ext);ext
   ·rw[aT hm];have G:MM.my (seen n (c++(q++[x]))).length ((p.2:Nat):Int)=some p.2:=by unfold seen;rw[mT];exact Ge U
    simp![eV,if_true,↓dR I,G,↓mE I,OL U];have f1:(v1.set dc (MO.lst (seen n (c++(q++[x])++[p.2]))))[dc]?=some (.lst (seen n (c++(q++[x]++[p.2])))):=by rw[ao (f_ I),aX]
    have f2:(v1.set dc (MO.lst (seen n (c++(q++[x])++[p.2]))))[no]?=some (.lst (c.map d7)):=by rw[af hne];exact d2
    have T:(v1.set dc (MO.lst (seen n (c++(q++[x])++[p.2]))))[s.length]?=some (.lst ((q++[x]).map d7)):=by rw[af eP];exact d3
    have H:(v1.set dc (MO.lst (seen n (c++(q++[x])++[p.2]))))[s.length+1]?=some (.lst ((h++[gl+1]).map d7)):=by rw[af l];exact u
    have f5:dE s0 (v1.set dc (MO.lst (seen n (c++(q++[x])++[p.2])))):=d5.put l1;have f6:∀k,k < s.length->k≠dc->k≠no->(v1.set dc (MO.lst (seen n (c++(q++[x])++[p.2]))))[k]?=s[k]?:=λk L B O=>by rw[af (bC B)];exact d6 k L B O
    generalize v1.set dc (MO.lst (seen n (c++(q++[x])++[p.2])))=v2 at *;have E:∀o,(v2.set s.length o)[s.length+1]?=some (.lst ((h++[gl+1]).map d7)):=λo=>by rw[af kk];exact H
    have r3:∀o Q,wp (getL (s.length+1)) Q (v2.set s.length o)=Q ((h++[gl+1]).map d7) (v2.set s.length o):=λo Q=>dR (E o);have r4:∀o es Q,wp (putL (s.length+1) es) Q (v2.set s.length o)=Q () ((v2.set s.length o).set (s.length+1) (.lst es)):=λo es Q=>mE (E o);simp![↓dR T,↓mE T,↓r3,↓r4];have J2:=J.new hp hm U;have v:(q++[x]).length<=400:=by rw[au]at C ⊢;simp at C ⊢;ext
    have hl3:(h++[gl+1]).length<=400:=by rw[au]at v ⊢;simp at v ⊢;ext
    have eP2:(q++[x]).map d7++[D.int (p.2:Nat)]=(q++[x]++[p.2]).map d7:=by rw[aO (l₂:=[p.2])];rfl
    have eG3:(h++[gl+1]).map d7++[D.int 0]=(h++[gl+1]++[0]).map d7:=by rw[aO (l₂:=[0])];rfl
    rw[eP2,eG3];refine⟨nB (by rw[ae];ext),nB (by rw[ae];ext),up1 ⟨c,q++[x]++[p.2],h++[gl+1]++[0],_,_,rfl,J2,λy hy=>?_,?_,?_,?_,ao (by rw[cw];exact f_ H),(f5.put (by ext)).put (by ext),λk L B O=>?_⟩ ?_⟩
    ·have:=Y y hy;rw[<- aX];exact aL _ this
    ·rw[af (bC l),af (bC eP)];exact f1
    ·rw[af (bC nG),af (bC nP)];exact f2
    ·rw[af (bC kk),ao (f_ T)]
    ·rw[af (by ext),af (by ext)];exact f6 k L B O
    ·rw[af (bC nG),af (bC nP),f2,ao (by rw[cw];exact f_ H),b2,b4];dsimp only;rw[C3,C3];have B:=J2.prg_le g.few;have:=mu (h++[gl+1]++[0]) (by simp only[kU,cY,pP];ext);ext
end
open PySem (Str)
section
variable{s u s0:a_}{Q:D->a_->Prop}{l:Loc}{E:Nat->List (Nat×Nat)}{n ns dc no root:Nat}{F P G:List Nat}
theorem WP:(bx n λ_=>D.bl false)=seen n []:=by unfold seen;congr 1
theorem Wb:ir 0 n=bx n λk=>.int (k:Nat):=by unfold ir bx;exact cO λk _=>by rw[Int.zero_add]
theorem Sb(g:wc n E ns s)(hn:n<=400)(hq:∀F r u,DI n E F [] []->(∀x,x < n->x∈F)->u[r]?=some (.lst (F.map d7))->s.length<=r->dE s u->Q (.ref r) u):wp (jj [.ref ns]) Q s:=by
 obtain⟨rs,h,c,h3⟩:=id g.at_;have q0:∀o Q,wp (getL ns) Q (s++[o])=Q (rs.map .ref) (s++[o]):=λo Q=>dR (m4 h);have w:∀o(A:List D->a_->Prop),wp (collect (aP 0) bT (aR (.bl false)) (io ns (rs.map D.ref)) (rs.map D.ref) [none]) A (s++[o])=A (seen n []) (s++[o]):=λo A=>by rw[zZ (f:=λ_=>.bl false) (show io ns _ _ from m4 h) (λk d hd Q=>by simp![]),ae,c,WP]
 have c1:n<=eS:=gQ (by ext)
 (simp![jj];simp![jR,bu,↓q0,gX,↓w,ae,c,c1])
 have q1:∀o o' Q,wp (getL ns) Q (s++[o]++[o'])=Q (rs.map .ref) (s++[o]++[o']):=λo o' Q=>dR (m4 (m4 h));rw[q1];have en:((rs.map D.ref).length:Int).toNat=n:=by rw[ae,c];simp
 refine⟨by rw[ae,c];exact⟨by ext,by ext⟩,?_⟩;rw[en,Wb];have Y:(s++[MO.lst []]).length=s.length+1:=by simp
 rw[Y];have a1:(s++[MO.lst []]++[MO.lst (seen n [])])[s.length+1]?=some (.lst (seen n [])):=by rw[<- Y];exact mR
 have a2:(s++[MO.lst []]++[MO.lst (seen n [])])[s.length]?=some (.lst (([]:List Nat).map d7)):=m4 mR;have a3:dE s (s++[MO.lst []]++[MO.lst (seen n [])]):=((dE.refl _).snoc _).snoc _;generalize s++[MO.lst []]++[MO.lst (seen n [])]=s1 at *;refine L3 (λi l v=>∃(F:List Nat)(L:Option D),l=[some (.ref ns),some (.ref s.length),some (.ref (s.length+1)),L]/\DI n E F [] []/\(∀x,x < i->x∈F)/\v[s.length+1]?=some (.lst (seen n F))/\v[s.length]?=some (.lst (F.map d7))/\dE s v) (λ_ _ _ _=>sW)
  ⟨[],_,rfl,DI.nil,λx O=>ba O (by ext),a1,a2,a3⟩ (λi l v U T=>?_) (λl v T=>?_)
 ·obtain⟨F,L,el,J,B,I,H,C⟩:=T;subst el;have G:∀(Q:D->a_->Prop)s,wp (cB (seen n F) ((i:Nat):Int)) Q s=Q (.bl (decide (i∈F))) s:=λQ s=>M_ U;simp![↓dR I,↓G];by_cases q:i∈F
  ·rw[bF q];simp![dq,aQ,if_false];refine⟨F,_,rfl,J,λx O=>?_,I,H,C⟩;by_cases e:x=i
   ·subst e;exact q
   ·exact B x (by ext)
  ·rw[aT q];simp![eV,if_true];refine W5 g C I H (by ext) (ar _) (by ext) J U q hn λv u o h c c1 c2 l E=>?_;simp![];refine⟨v,_,rfl,o,λx O=>?_,c1,c2,l⟩;by_cases e:x=i
   ·subst e;exact c
   ·exact h x (B x (by ext))
 ·obtain⟨F,L,el,J,B,I,H,C⟩:=T;subst el;simp![];exact hq F _ v J B H (ar _) C
end
open PySem (Str)
section
variable{E:Nat->List (Nat×Nat)}{n:Nat}{F P G:List Nat}{x y z v:Nat}
theorem Rc.lt(g:∀i,i < n->∀p∈E i,p.2 < n)(h:Rc E x y)(c:x < n):y < n:=by
 induction h with
 |refl=>exact c
 |step h _ ih=>exact ih (g _ c _ h)
theorem Sh{i:Nat}(H:FO E F)(q:F[i]?=some x){a:Nat}(h:Rc E a v)(l:v∉F.take (i+1))(o:a∈F.take (i+1)):∃b,Rc E a b/\Rc E b v/\Rc E b x/\b∉F.take (i+1):=by
 induction h with
 |refl=>exact ba o l
 |@step a' _ p hp r ih=>
  by_cases g:p.2∈F.take (i+1)
  ·obtain⟨b,c,C,B,u⟩:=ih l g;exact⟨b,.step hp c,C,B,u⟩
  ·rcases H i x q a' o p hp with c|c
   ·exact ba c g
   ·exact⟨p.2,.step hp (.refl _),r,c,g⟩
theorem LX{i k:Nat}(h:F[i]?=some x)(c:i < k):x∈F.take k:=by refine ay (i:=i) ?_;rw[cX c];exact h
theorem WL{i k:Nat}(l:F.Nodup)(h:F[i]?=some x)(o:x∈F.take k):i < k:=by
 obtain⟨j,g⟩:=bm.mp o;have c:j < k:=by have:=(ac.mp g).1;rw[bE]at this;ext
 rw[cX c]at g;have:=(e8 (ac.mp h).1 l).mp (h.trans g.symm);ext
theorem Fg(u:FO E F)(o:F.Nodup)(all:∀x,x < n->x∈F)(lt:∀x∈F,x < n)(l:∀i,i < n->∀p∈E i,p.2 < n):
  ∀(d i x v m:Nat),F.length-i<=d->F[i]?=some x->F[m]?=some v->Rc E x v->∃k w,F[k]?=some w/\m<=k/\Rc E x w/\Rc E w x
 |0,i,x,v,m,hd,hx,_,_=>by have:=(ac.mp hx).1;ext
 |d+1,i,x,v,m,hd,hx,hv,h=>by
  by_cases J:m<=i
  ·exact⟨i,x,hx,J,.refl _,.refl _⟩
  ·have c:v∉F.take (i+1):=λz=>by have:=WL o hv z;ext
   obtain⟨b,q,Y,U,T⟩:=Sh u hx h c (LX hx (by ext));have Q:b∈F:=all b (q.lt l (lt x (ay hx)));obtain⟨j,g⟩:=bm.mp Q;have O:i < j:=by refine eD λz=>T (LX g (by ext))
   have L:=(ac.mp g).1;obtain⟨k,w,I,H,C,B⟩:=Fg u o all lt l d j b v m (by ext) g hv Y;exact⟨k,w,I,H,q.trans C,B.trans U⟩
structure MI(n:Nat)(E:Nat->List (Nat×Nat))(F:List Nat)(m:Nat)(mk:Nat->Option Nat):Prop where
 done:∀(k w:Nat),m<=k->F[k]?=some w->(mk w).isSome=true
 own:∀v r,mk v=some r->r < n/\Rc E v r/\Rc E r v
 same:∀v w,v < n->w < n->Rc E v w->Rc E w v->mk v=mk w
 lt:∀v r,mk v=some r->v < n
theorem MI.start:MI n E F F.length (λ_=>none):=⟨λk w g c=>by have:=(ac.mp c).1;ext,λv r h=>(nomatch h),λ_ _ _ _ _ _=>rfl,λv r h=>(nomatch h)⟩
theorem MI.skip{m root:Nat}{mk:Nat->Option Nat}(I:MI n E F (m+1) mk)(g:F[m]?=some root)(h:(mk root).isSome=true):MI n E F m mk:=
 ⟨λk w l c=>by
  by_cases e:k=m
  ·subst e;rw[g]at c;cases c;exact h
  ·exact I.done k w (by ext) c,I.own,I.same,I.lt⟩
theorem MI.mark{m root:Nat}{mk:Nat->Option Nat}{S:List Nat}(fo:FO E F)(nd:F.Nodup)(all:∀x,x < n->x∈F)(lt:∀x∈F,x < n)(C:∀i,i < n->∀p∈E i,p.2 < n)
  (I:MI n E F (m+1) mk) (B:F[m]?=some root) (J:mk root=none) (Q:root∈S) (o:∀v∈S,v < n/\mk v=none/\Rc E v root) (s2:∀v,v < n->mk v=none->∀p∈E v,p.2∈S->v∈S):
  MI n E F m (λv=>if v∈S then some root else mk v):=by
 have T:=lt root (ay B);have O:∀v∈S,Rc E root v:=λv c=>by
  obtain⟨g,l,h3⟩:=o v c;obtain⟨i,hi⟩:=bm.mp (all v g);obtain⟨k,w,H,k2,Y,U⟩:=Fg fo nd all lt C _ i v root m (ar _) hi B h3;by_cases e:k=m
  ·subst e;rw[B]at H;cases H;exact U
  ·have:=I.done k w (by ext) H;rw[<- I.same v w g (Y.lt C g) Y U,l]at this;cases this
 have u:∀v,v < n->Rc E v root->Rc E root v->v∈S:=λv c a b=>by
  have key:∀{a t:Nat},Rc E a t->t=root->a < n->Rc E root a->a∈S:=by
   intro a t h
   induction h with
   |refl=>intro e _ _;rw[e];exact Q
   |@step a' _ p hp r ih=>
    intro e L q;have hm:=ih e (C _ L _ hp) (q.snoc hp);refine s2 a' L ?_ p hp hm;rw[I.same a' root L T (by rw[<- e];exact .step hp r) q];exact J
  exact key a rfl c b
 refine⟨λk w g l=>?_,λv r h=>?_,λv w c G a b=>?_,λv r h=>?_⟩
 ·by_cases e:k=m
  ·subst e;rw[B]at l;cases l;rw[aE Q];rfl
  ·split
   ·rfl
   ·exact I.done k w (by ext) l
 ·split at h
  ·rename_i c;cases h;exact⟨T,(o v c).2.2,O v c⟩
  ·exact I.own v r h
 ·by_cases g:v∈S
  ·have:w∈S:=u w G (b.trans (o v g).2.2) ((O v g).trans a);rw[aE g,aE this]
  ·have:w∉S:=λl=>g (u v c (a.trans (o w l).2.2) ((O w l).trans b));rw[aA g,aA this];exact I.same v w c G a b
 ·split at h
  ·rename_i c;exact (o v c).1
  ·exact I.lt v r h
theorem MI.eq_iff{mk:Nat->Option Nat}(I:MI n E F 0 mk)(all:∀x,x < n->x∈F){a b:Nat}(o:a < n)(u:b < n):mk a=mk b↔Rc E a b/\Rc E b a:=by refine⟨λe=>?_,λc=>by obtain⟨h,g⟩:=c;exact I.same a b o u h g⟩;obtain⟨i,q⟩:=bm.mp (all a o);have:=I.done i a (bu _) q;obtain⟨r,l⟩:=ma.mp this;obtain⟨_,h,g⟩:=I.own a r l;obtain⟨_,C,B⟩:=I.own b r (by rw[<- e];exact l);exact⟨h.trans B,C.trans g⟩
noncomputable def vK(E:Nat->List (Nat×Nat))(i:Nat):Prop:=∃p∈E i,Rc E p.2 i
theorem MI.cyc{mk:Nat->Option Nat}(I:MI n E F 0 mk)(all:∀x,x < n->x∈F)(o:∀i,i < n->∀p∈E i,p.2 < n){i:Nat}(l:i < n):(∃p∈E i,mk p.2=mk i)↔vK E i:=
 ⟨λg=>by obtain⟨p,h,e⟩:=g;exact⟨p,h,((I.eq_iff all (o i l p h) l).mp e).1⟩,λc=>by obtain⟨p,h,r⟩:=c;exact⟨p,h,(I.eq_iff all (o i l p h) l).mpr ⟨r,.step h (.refl _)⟩⟩⟩
end
open PySem (Str)
section
variable{s u s0:a_}{Q:D->a_->Prop}{l:Loc}{E:Nat->List (Nat×Nat)}{n ns nb i j:Nat}
noncomputable def bk(E:Nat->List (Nat×Nat))(i j:Nat):List Nat:=(bH i).flatMap λa=>((E a).filter λp=>decide (p.2=j)).map λ_=>a
theorem MK{a:Nat}:a∈bk E i j↔a < i/\∃p∈E a,p.2=j:=by
 unfold bk;rw[iB];constructor
 ·rintro ⟨b,hb,hm⟩
  obtain⟨p,c,rfl⟩:=bz.mp hm;obtain⟨h,g⟩:=ff.mp c;exact⟨d9.mp hb,p,h,of_decide_eq_true g⟩
 ·rintro ⟨ha,p,c,e⟩
  exact⟨a,d9.mpr ha,bz.mpr ⟨p,ff.mpr ⟨c,bF e⟩,rfl⟩⟩
theorem M3:bk E (i+1) j=bk E i j++((E i).filter λp=>decide (p.2=j)).map λ_=>i:=by unfold bk;rw[fQ,iG];simp
def bq(E:Nat->List (Nat×Nat))(i q j:Nat):List Nat:=bk E i j++(((E i).take q).filter λp=>decide (p.2=j)).map λ_=>i
theorem Ms(few:∀i,i < n->(E i).length<=3):∀i,i<=n->(bk E i j).length<=3*i
 |0,_=>by simp[bk]
 |i+1,hi=>by rw[M3,au,ae];have h:=Ms few i (by ext);have g:=dM (λp=>decide (p.2=j)) (E i);have c:=few i (by ext);ext
structure A8(n:Nat)(B:Nat->List Nat)(nb:Nat)(u:a_):Prop where
 at_:∃bs:Nat,u[nb]?=some (.lst (bx n λj=>.ref (bs+j)))/\∀j,j < n->u[bs+j]?=some (.lst ((B j).map d7))
theorem MA{a:CE}{I:Wk->a_->Prop}: wp (o_ a l) I s=wp (a l) (λx g=>match x with
  | .ref n=>wp (getL n) (λds c=>I ⟨(ir 0 ds.length).zipWith (λi d=>.tup [i,d]) ds,io n ds⟩ c) g
  |_=>False) s:=by
 unfold o_;rw[dF];congr 1;funext x s1;cases x<;>first|exact gi|(dsimp only;rw[dF];congr 1;funext ds c;rw[ck])
theorem Ie{k:Nat}{o:MO}(c:k < i):(s++aZ i o)[s.length+k]?=some o:=by rw[aW (by ext),show s.length+k-s.length=k by ext,gE,aE c]
theorem LV{ds:List D}{e:D}(h:((ir 0 ds.length).zipWith (λi d=>D.tup [i,d]) ds)[i]?=some e):∃d,ds[i]?=some d/\e=.tup [.int (i:Nat),d]:=by
 rw[t5,fH]at h;have c:i < ds.length:=by
  refine eD λz=>?_;rw[bX (l:=ds) (by ext)]at h;cases g:(bx ds.length λi=>D.int (i:Nat))[i]? with
  |none=>rw[g]at h;cases h
  |some _=>rw[g]at h;cases h
 rw[v7 c,ag c]at h;cases h;exact⟨_,ag c,rfl⟩
theorem Ou{q:Nat}{p:Nat×Nat}(c:(E i)[q]?=some p):bq E i (q+1) j=bq E i q j++(if p.2=j then [i] else []):=by
 unfold bq;rw[Ef c,fG,aO,<- aX];congr 1;by_cases e:p.2=j
 ·simp[e]
 ·simp[e]
theorem Tn:bq E i (E i).length j=bk E (i+1) j:=by unfold bq;rw[bJ,M3]
theorem Ue{q:Nat}(few:∀i,i < n->(E i).length<=3)(c:i < n):(bq E i q j).length<=3*n:=by unfold bq;rw[au,ae];have o:=Ms (j:=j) few i (by ext);have g:=dM (λp:Nat×Nat=>decide (p.2=j)) ((E i).take q);have h:=few i c;rw[bE]at g;ext
theorem Sq(g:wc n E ns s)(hn:n<=324)(hq:∀r u,A8 n (bk E n) r u->s.length<=r->dE s u->Q (.ref r) u):wp (jN [.ref ns]) Q s:=by
 obtain⟨rs,I,J,h3⟩:=id g.at_;have c1:n<=eS:=gQ (by ext)
 (simp![jN];simp![yo,↓dR I,gX,ae,J,c1])
 refine Gz (λi h v=>v=s++aZ i (MO.lst [])/\h=bx i λj=>.ref (s.length+j)) (λi h v w=>by rw[w.1];show _=_;rw[aw (f_ I)];exact I) ⟨by simp,rfl⟩ (λi d h v hd w=>?_) (λh v w=>?_)
 ·obtain⟨rfl,rfl⟩:=w;simp![bu];refine⟨by rw[aX,<- vq,iF],?_⟩;rw[Ha,au,eQ]
 ·obtain⟨rfl,rfl⟩:=w;rw[ae,J];have a1:(s++aZ n (MO.lst [])++[MO.lst (bx n λj=>.ref (s.length+j))])[(s++aZ n (MO.lst [])).length]?=some (.lst (bx n λj=>.ref (s.length+j))):=mR;have a2:∀j,j < n->(s++aZ n (MO.lst [])++[MO.lst (bx n λj=>.ref (s.length+j))])[s.length+j]?=some (.lst ((bk E 0 j).map d7)):=λj G=>m4 (Ie G);have a3:dE s (s++aZ n (MO.lst [])++[MO.lst (bx n λj=>.ref (s.length+j))]):=⟨aZ n (MO.lst [])++[MO.lst (bx n λj=>.ref (s.length+j))],by rw[aX]⟩
  have a4:s.length+n<=(s++aZ n (MO.lst [])).length:=by simp
  generalize (s++aZ n (MO.lst [])).length=nb at *;generalize s++aZ n (MO.lst [])++[MO.lst (bx n λj=>.ref (s.length+j))]=s1 at *;simp![↓MA,↓dR (a3.at_ I)];refine qJ (λi l v=>∃(Y U C B:Option D),l=[some (.ref ns),some (.ref nb),Y,U,C,B]/\v[nb]?=some (.lst (bx n λj=>.ref (s.length+j)))/\(∀j,j < n->v[s.length+j]?=some (.lst ((bk E i j).map d7)))/\dE s v) (λ_ _ _ w=>by obtain⟨_,_,_,_,_,_,_,g⟩:=w;exact g.at_ I)
   ⟨_,_,_,_,rfl,a1,a2,a3⟩ (λRw1 i d l v up1 rt1 hd H=>?_) (λl v H=>?_)
  ·obtain⟨Y,U,C,B,el,b1,T,O⟩:=H;subst el;obtain⟨dd,c,rfl⟩:=LV hd;rw[aj]at c;cases L:rs[i]? with
   |none=>rw[L]at c;cases c
   |some r=>
    rw[L]at c;cases c;have hi:i < n:=by rw[<- J];exact (ac.mp L).1
    have I:=h3 i r L;have lr:=f_ I;simp![↓dR (O.at_ I)];refine qJ (λq l v=>∃(C B:Option D),l=[some (.ref ns),some (.ref nb),some (.int (i:Nat)),some (.ref r),C,B]/\v[nb]?=some (.lst (bx n λj=>.ref (s.length+j)))/\(∀j,j < n->v[s.length+j]?=some (.lst ((bq E i q j).map d7)))/\dE s v) (λ_ _ _ w=>by obtain⟨_,_,_,_,_,g⟩:=w;exact g.at_ I)
     ⟨_,_,rfl,b1,λj G=>by rw[T j G];simp[bq],O⟩ (λRw2 q d l v h rt2 hd H=>?_) (λl v H=>?_)
    ·obtain⟨C,B,el,c1,c2,c3⟩:=H;subst el;rw[aj]at hd;cases ep:(E i)[q]? with
     |none=>rw[ep]at hd;cases hd
     |some p=>
      rw[ep]at hd;cases hd;have o:=g.wf i hi p (ay ep);have c:∀(Q:D->a_->Prop)u,wp (cB (bx n λj=>D.ref (s.length+j)) ((p.2:Nat):Int)) Q u=Q (.ref (s.length+p.2)) u:=λQ u=>vP o;unfold zR;simp![↓dR c1,↓c,↓dR (c2 p.2 o),↓mE (c2 p.2 o)];have l:=Ue (q:=q) (j:=p.2) g.few hi;refine⟨nB (by rw[ae];ext),h ⟨_,_,rfl,by rw[af (by ext)];exact c1,λj G=>?_,c3.put (by ext)⟩⟩;by_cases e:p.2=j
      ·subst e;rw[ao (f_ (c2 p.2 o)),Ou ep,aE rfl,aO];rfl
      ·rw[af (by ext),Ou ep,aA e,bn];exact c2 j G
    ·obtain⟨C,B,el,c1,c2,c3⟩:=H;subst el;rw[ae]at c2;simp![];exact up1 ⟨_,_,_,_,rfl,c1,λj G=>by rw[c2 j G,Tn],c3⟩
  ·obtain⟨Y,U,C,B,el,b1,T,O⟩:=H;subst el;have c:((ir 0 (rs.map D.ref).length).zipWith (λi d=>D.tup [i,d]) (rs.map D.ref)).length=n:=by simp[ir,J]
   rw[c]at T;simp![];exact hq _ v ⟨⟨s.length,b1,T⟩⟩ (by ext) O
end
open PySem (Str)
section
variable{s u s0:a_}{Q:D->a_->Prop}{l:Loc}{E:Nat->List (Nat×Nat)}{n ns nb nm root:Nat}{mk:Nat->Option Nat}{S N W:List Nat}
theorem A8.ext{B:Nat->List Nat}(b:A8 n B nb s)(x:dE s u):A8 n B nb u:=by obtain⟨⟨bs,h,g⟩⟩:=b;exact⟨⟨bs,x.at_ h,λj c=>x.at_ (g j c)⟩⟩
theorem A8.row{B:Nat->List Nat}(b:A8 n B nb u){j:Nat}(c:j < n):∃(ds:List D)(r:Nat),(∀Q,wp (getL nb) Q u=Q ds u)/\(∀(Q:D->a_->Prop)s,wp (cB ds ((j:Nat):Int)) Q s=Q (.ref r) s)/\u[r]?=some (.lst ((B j).map d7)):=by obtain⟨⟨bs,h,g⟩⟩:=b;exact⟨_,bs+j,λQ=>dR h,λQ s=>vP c,g j c⟩
def uZ:Option Nat->D
 |none=>.non
 |some r=>.int (r:Nat)
def eY(n:Nat)(mk:Nat->Option Nat):List D:=bx n λi=>uZ (mk i)
noncomputable def fZ(root:Nat)(mk:Nat->Option Nat)(S:List Nat):Nat->Option Nat:=λv=>if v∈S then some root else mk v
theorem HQ{t:Nat}(c:t < n):(eY n (fZ root mk S)).set t (.int (root:Nat))=eY n (fZ root mk (S++[t])):=by
 unfold eY;rw[LP c];congr 1;funext j;unfold fZ;by_cases e:j=t
 ·subst e;simp[uZ]
 ·rw[aA e];by_cases h:j∈S
  ·rw[aE h,aE (by simp[h])]
  ·rw[aA h,aA (by simp[h,e])]
noncomputable def pe:D->Bool
 | .non=>false
 |_=>true
theorem XQ{t:Nat}(c:t < n)(o:fZ root mk S t=none):(eY n (fZ root mk (S++[t]))).countP pe=(eY n (fZ root mk S)).countP pe+1:=by
 rw[<- HQ c];have g:t < (eY n (fZ root mk S)).length:=by unfold eY;rw[mT];exact c
 rw[List.countP_set g];have:(eY n (fZ root mk S))[t]=.non:=by have:=v7 (f:=λi=>uZ (fZ root mk S i)) c;rw[o]at this;have h:=ag g;exact aN (h.symm.trans this)
 rw[this];rfl
theorem Xt{m:Option Nat}:wp (va (uZ m) .non) Q s=Q (.bl m.isNone) s:=by cases m<;>exact cN rfl
theorem T3{m:Option Nat}:wp (nQ (uZ m) .non) Q s=Q (.bl m.isSome) s:=by cases m<;>exact cN rfl
theorem Gp{t:Nat}(c:t < n):wp (cB (eY n mk) ((t:Nat):Int)) Q s=Q (uZ (mk t)) s:=vP c
structure MS(n:Nat)(E:Nat->List (Nat×Nat))(root:Nat)(mk:Nat->Option Nat)(S:List Nat):Prop where
 a1:root∈S
 a2:∀v∈S,v < n/\mk v=none/\Rc E v root
theorem QX{v:Nat}(h:fZ root mk S v=none):v∉S/\mk v=none:=by
 unfold fZ at h;split at h
 ·cases h
 ·rename_i c;exact⟨c,h⟩
theorem XJ{v:Nat}(h:fZ root mk S v≠none):v∈S\/mk v≠none:=by
 unfold fZ at h;split at h
 ·rename_i c;exact .inl c
 ·exact .inr h
theorem YZ(g:A8 n (bk E n) nb s0)(x0:dE s0 s)(hm:s[nm]?=some (.lst (eY n mk)))(l1:s0.length<=nm)(hr:root < n)(Y:n<=324)(wf:∀i,i < n->∀p∈E i,p.2 < n)
  (h1:∀r,mk root=some r->Q .non s)
  (h2:mk root=none->∀S u,MS n E root mk S->(∀a∈S,∀b∈bk E n a,b∈S\/mk b≠none)->u[nm]?=some (.lst (eY n (fZ root mk S)))->dE s0 u->(∀k,k < s.length->k≠nm->u[k]?=s[k]?)->Q .non u):
  wp (jy [.ref nb,.int (root:Nat),.ref nm,.int (root:Nat)]) Q s:=by
 have q1:∀(Q:D->a_->Prop)s,wp (cB (eY n mk) ((root:Nat):Int)) Q s=Q (uZ (mk root)) s:=λQ s=>Gp hr;have c1:1<=eS:=gQ (by ext);have lm:=f_ hm
 (simp![jy];simp![j6,↓dR hm,↓q1,↓T3])
 cases J:mk root with
 |some r=>
  simp![iP,if_true];exact h1 r J
 |none=>
  have e0:eY n mk=eY n (fZ root mk []):=by unfold eY fZ;congr 1
  have ix:MM.my (eY n mk).length ((root:Nat):Int)=some root:=by unfold eY;rw[mT];exact Ge hr
  have eset:(eY n mk).set root (.int (root:Nat))=eY n (fZ root mk [root]):=by rw[e0,HQ hr];try rfl
  simp![oB,aQ,if_false,↓dR hm,ix,↓mE hm,eset,c1];have O:(s.set nm (MO.lst (eY n (fZ root mk [root])))).length=s.length:=cw;rw[O];have a1:(s.set nm (MO.lst (eY n (fZ root mk [root])))++[MO.lst [.int (root:Nat)]])[nm]?=some (.lst (eY n (fZ root mk [root]))):=m4 (ao lm);have a2:(s.set nm (MO.lst (eY n (fZ root mk [root])))++[MO.lst [.int (root:Nat)]])[s.length]?=some (.lst ([root].map d7)):=by rw[<- O];exact mR
  have a3:dE s0 (s.set nm (MO.lst (eY n (fZ root mk [root])))++[MO.lst [.int (root:Nat)]]):=(x0.put l1).snoc _;have a4:∀k,k < s.length->k≠nm->(s.set nm (MO.lst (eY n (fZ root mk [root])))++[MO.lst [.int (root:Nat)]])[k]?=s[k]?:=λk hk h=>by rw[aw (by rw[O];exact hk),af (bC h)]
  generalize s.set nm (MO.lst (eY n (fZ root mk [root])))++[MO.lst [.int (root:Nat)]]=s1 at *;have lx:=x0.le;refine yH (λl v=>∃(S W:List Nat)(y5 y6:Option D),l=[some (.ref nb),some (.int (root:Nat)),some (.ref nm),some (.int (root:Nat)),some (.ref s.length),y5,y6]/\MS n E root mk S/\W.Nodup/\(∀w∈W,w∈S)/\(∀a∈S,a∉W->∀b∈bk E n a,b∈S\/mk b≠none)/\v[nm]?=some (.lst (eY n (fZ root mk S)))/\v[s.length]?=some (.lst (W.map d7))/\dE s0 v/\∀k,k < s.length->k≠nm->v[k]?=s[k]?)
   (λ(_:Loc)(v:a_)=>match (v[nm]?:Option MO),(v[s.length]?:Option MO) with
    |some (.lst ms),some (.lst ws)=>2*(1000-ms.countP pe)+ws.length
    |_,_=>0) ⟨[root],[root],_,_,rfl,⟨by simp,λv hv=>by rw[ax.mp hv];exact⟨hr,J,.refl _⟩⟩,by simp,λw I=>I,λa L Y=>ba L Y,a1,a2,a3,a4⟩ (λRw1 l v up1 rt1 hW=>?_)
  obtain⟨S,W,y5,y6,el,M,b0,b1,b2,b3,b4,b5,b6⟩:=hW;subst el;simp![↓dR b4,ae];rcases g8 W with e|⟨C,x,e⟩
  ·subst e;rw[aA (by simp)];exact h2 J S v M (λa L=>b2 a L (by simp)) b3 b5 b6
  ·rw[g9]at e;subst e;rw[aE (by simp)];have hxS:=b1 x (by simp);obtain⟨hx,_,hxr⟩:=M.a2 x hxS;have wm:(C++[x]).map d7=C.map d7++[.int (x:Nat)]:=by rw[aO];rfl
   rw[wm]at b4 ⊢;simp![vo,vp,↓mE b4];have nk:nm≠s.length:=by ext
   have cle:(eY n (fZ root mk S)).countP pe<=324:=by have:=nI (p:=pe) (l:=eY n (fZ root mk S));unfold eY at this ⊢;rw[mT]at this;ext
   have d1:(v.set s.length (MO.lst (C.map d7)))[nm]?=some (.lst (eY n (fZ root mk (S++[])))):=by rw[af (bC nk),bn];exact b3
   have d2:(v.set s.length (MO.lst (C.map d7)))[s.length]?=some (.lst ((C++[]).map d7)):=by rw[ao (f_ b4),bn]
   have d3:dE s0 (v.set s.length (MO.lst (C.map d7))):=b5.put (by ext);have d4:∀k,k < s.length->k≠nm->(v.set s.length (MO.lst (C.map d7)))[k]?=s[k]?:=λk hk h=>by rw[af (by ext)];exact b6 k hk h
   have hmu:(match (v[nm]?:Option MO),(v[s.length]?:Option MO) with
    |some (.lst ms),some (.lst ws)=>2*(1000-ms.countP pe)+ws.length
    |_,_=>0)=2*(1000-(eY n (fZ root mk S)).countP pe)+(C.length+1):=by
    rw[b3,b4];simp
   generalize v.set s.length (MO.lst (C.map d7))=v1 at *;obtain⟨ds,r,qb,qi,gr⟩:=(g.ext d3).row hx;have gr0:∀{v2:a_},dE s0 v2->v2[r]?=some (.lst ((bk E n x).map d7)):=λ{v2}e=>by
    obtain⟨⟨bs,t1,t2⟩⟩:=g;have e1:ds=bx n λj=>.ref (bs+j):=by have z:=qb (λa _=>a=ds);rw[dR (d3.at_ t1)]at z;exact (z.mpr rfl).symm
    subst e1;have z:=qi (λa _=>a=.ref r) v1;rw[vP hx]at z;have z2:=z.mpr rfl;cases z2;exact e.at_ (t2 x hx)
   simp![↓qb,↓qi,↓dR gr];refine qJ (λq l v=>∃(N:List Nat)(y6:Option D),l=[some (.ref nb),some (.int (root:Nat)),some (.ref nm),some (.int (root:Nat)),some (.ref s.length),some (.int (x:Nat)),y6]/\MS n E root mk (S++N)/\(∀b∈(bk E n x).take q,b∈S++N\/mk b≠none)/\v[nm]?=some (.lst (eY n (fZ root mk (S++N))))/\v[s.length]?=some (.lst ((C++N).map d7))/\(C++N).Nodup/\(eY n (fZ root mk (S++N))).countP pe=(eY n (fZ root mk S)).countP pe+N.length/\dE s0 v/\∀k,k < s.length->k≠nm->v[k]?=s[k]?) (λ_ _ _ w=>by obtain⟨_,_,_,_,_,_,_,_,_,e,_⟩:=w;exact gr0 e)
    ⟨[],_,rfl,by rw[bn];exact M,by simp,d1,d2,by rw[bn];exact (cn.mp b0).1,by rw[bn];rfl,d3,d4⟩ (λRw2 q d l v2 U rt2 hd hW=>?_) (λl v2 hW=>?_)
   ·obtain⟨N,y6',el,M2,O,H,T,f0,f4,f5,f6⟩:=hW;subst el;rw[aj]at hd;cases g:(bk E n x)[q]? with
    |none=>rw[g]at hd;cases hd
    |some b=>
     rw[g]at hd;cases hd;obtain⟨G,p,hp,hpe⟩:=MK.mp (ay g);have tk:(bk E n x).take (q+1)=(bk E n x).take q++[b]:=by rw[cK,g];rfl
     have r2:∀(Q:D->a_->Prop)s,wp (cB (eY n (fZ root mk (S++N))) ((b:Nat):Int)) Q s=Q (uZ (fZ root mk (S++N) b)) s:=λQ s=>Gp G;unfold d7;simp![↓dR H,↓r2,↓Xt];cases Y:fZ root mk (S++N) b with
     |some t=>
      simp![Option.isNone_some,aQ,if_false];refine U ⟨N,_,rfl,M2,λc B=>?_,H,T,f0,f4,f5,f6⟩;rw[tk]at B;rcases aB.mp B with B|B
      ·exact O c B
      ·rw[ax.mp B];exact XJ (by rw[Y];simp)
     |none=>
      obtain⟨g1,g2⟩:=QX Y;have cl2:(eY n (fZ root mk (S++N))).countP pe<=324:=by have:=nI (p:=pe) (l:=eY n (fZ root mk (S++N)));unfold eY at this ⊢;rw[mT]at this;ext
      have v:MM.my (eY n (fZ root mk (S++N))).length ((b:Nat):Int)=some b:=by unfold eY;rw[mT];exact Ge G
      have J:∀o,(v2.set nm o)[s.length]?=some (.lst ((C++N).map d7)):=λo=>by rw[af nk];exact T
      have r4:∀o Q,wp (getL s.length) Q (v2.set nm o)=Q ((C++N).map d7) (v2.set nm o):=λo Q=>dR (J o);have r5:∀o es Q,wp (putL s.length es) Q (v2.set nm o)=Q () ((v2.set nm o).set s.length (.lst es)):=λo es Q=>mE (J o);simp![vn,if_true,↓dR H,v,↓mE H,↓r4,↓r5,HQ G];have u:∀w∈C++N,w∈S++N:=λw I=>by
       rcases aB.mp I with h|h
       ·exact aL _ (b1 w (aL _ h))
       ·exact aY _ h
      have hWl:(C++N).length<=1000:=bW (Cg n _ f0 λw I=>(M2.a2 w (u w I)).1) (by ext);refine⟨nB (by rw[ae];exact hWl),U ⟨N++[b],_,rfl,⟨by rw[<- aX];exact aL _ M2.a1,λc B=>?_⟩,λc B=>?_,?_,?_,?_,?_,(f5.put l1).put (by ext),λk hk h=>?_⟩⟩
      ·rw[<- aX]at B;rcases aB.mp B with B|B
       ·exact M2.a2 c B
       ·rw[ax.mp B];exact⟨G,g2,.step hp (by rw[hpe];exact hxr)⟩
      ·rw[tk]at B;rw[<- aX];rcases aB.mp B with B|B
       ·exact (O c B).imp (λz=>aL _ z) id
       ·exact .inl (aY _ B)
      ·rw[af (bC nk),ao (f_ H),<- aX]
      ·rw[ao (by rw[cw];exact f_ T),<- aX,aO (l₂:=[b])];rfl
      ·rw[<- aX,cn];refine⟨f0,by simp,λa L c B e=>?_⟩;rw[ax]at B;subst B e;exact g1 (u _ L)
      ·rw[<- aX,XQ G Y,f4,au];rfl
      ·rw[af (by ext),af (bC h)];exact f6 k hk h
   ·obtain⟨N,y6',el,M2,O,H,T,f0,f4,f5,f6⟩:=hW;subst el;rw[ae,bJ]at O;simp![];refine up1 ⟨S++N,C++N,_,_,rfl,M2,f0,λw I=>?_,λa L Y b G=>?_,H,T,f5,f6⟩ ?_
    ·rcases aB.mp I with h|h
     ·exact aL _ (b1 w (aL _ h))
     ·exact aY _ h
    ·have c:a∉N:=λz=>Y (aY _ z);have g:a∈S:=(aB.mp L).resolve_right c;by_cases e:a=x
     ·subst e;exact O b G
     ·have := b2 a g (λz => by
        rcases aB.mp z with z|z
        ·exact Y (aL _ z)
        ·exact e (ax.mp z)) b G
      exact this.imp (λz=>aL _ z) id
    ·refine Nat.lt_of_lt_of_eq ?_ hmu.symm;rw[H,T];dsimp only;rw[ae,f4,au];have cl2:(eY n (fZ root mk (S++N))).countP pe<=324:=by have:=nI (p:=pe) (l:=eY n (fZ root mk (S++N)));unfold eY at this ⊢;rw[mT]at this;ext
     ext
end
open PySem (Str)
section
variable{s u s0:a_}{Q:D->a_->Prop}{l:Loc}{E:Nat->List (Nat×Nat)}{n ns nb nm root:Nat}{mk:Nat->Option Nat}{F:List Nat}
theorem VS{a:CE}{I:Wk->a_->Prop}: wp (ww a l) I s=wp (a l) (λx g=>match x with
  | .ref n=>wp (getL n) (λds c=>I ⟨ds.reverse,λs=>s[n]?=some (.lst ds)⟩ c) g
  |_=>False) s:=by
 unfold ww;rw[dF];congr 1;funext x s1;cases x<;>first|exact gi|(dsimp only;rw[dF];congr 1;funext ds c;rw[ck])
theorem YX{a b:Option Nat}:wp (lR (uZ a) (uZ b)) Q s=Q (.bl (decide (a=b))) s:=by
 cases a with
 |none=>
  cases b with
  |none=>exact cN rfl
  |some b=>exact cN rfl
 |some a=>
  cases b with
  |none=>exact cN rfl
  |some b=>
   have:lR (uZ (some a)) (uZ (some b)) s=.ok (.bl (decide (some a=some b))) s:=by
    show lR (.int (a:Nat)) (.int (b:Nat)) s=_;have e:((a:Int) == (b:Int))=decide (some a=some b):=by
     by_cases h:a=b
     ·subst h;simp
     ·simp[h];ext
    rw[<- e];rfl
   exact cN this
theorem Ti(g:wc n E ns s)(hn:n<=324)(hq:∀(cy:Nat->Bool)r u,(∀i,i < n->(cy i=true↔vK E i))->u[r]?=some (.lst (bx n λi=>.bl (cy i)))->s.length<=r->dE s u->Q (.ref r) u):wp (jx [.ref ns]) Q s:=by
 obtain⟨rs,O,L,h3⟩:=id g.at_;have c1:n<=eS:=gQ (by ext)
 (simp![jx];simp![j8])
 refine Sq g hn λnb u hb hnb ex=>?_;have gu:=g.ext ex;have w:∀(A:List D->a_->Prop),wp (collect (aP 0) bT (aR .non) (io ns (rs.map D.ref)) (rs.map D.ref) [none]) A u=A (eY n λ_=>none) u:=λA=>by rw[zZ (f:=λ_=>.non) (show io ns _ _ from ex.at_ O) (λk d hd Q=>by simp![]),ae,L];rfl
 simp![↓dR (ex.at_ O),gX,↓w,ae,L,c1,↓VS];refine Sb (gu.ext ((dE.refl _).snoc _)) (by ext) λF ro v J all go hro ev=>?_;have nd:F.Nodup:=by have:=J.nd;rwa [bn]at this
 have lt:∀x∈F,x < n:=λx hx=>J.lt x (aL _ hx);have exv:dE u v:=((dE.refl _).snoc _).trans ev;have gm:v[u.length]?=some (.lst (eY n λ_=>none)):=ev.at_ mR;have lro:u.length < ro:=by
  have:(u++[MO.lst (eY n λ_=>none)]).length=u.length+1:=by simp
  ext
 simp![↓dR go];refine qJ (λi l v=>∃(mk:Nat->Option Nat)(y3:Option D),l=[some (.ref ns),some (.ref nb),some (.ref u.length),y3]/\MI n E F (F.length-i) mk/\v[u.length]?=some (.lst (eY n mk))/\v[ro]?=some (.lst (F.map d7))/\dE u v) (λ_ _ _ w=>by obtain⟨_,_,_,_,_,g,_⟩:=w;exact g)
  ⟨_,_,rfl,MI.start,gm,go,exv⟩ (λRw1 i d l v2 up1 rt1 hd hW=>?_) (λl v2 hW=>?_)
 ·obtain⟨mk,y3,el,I,Y,U,T⟩:=hW;subst el;have C:i < F.length:=by have:=(ac.mp hd).1;rw[gC,ae]at this;exact this
  rw[nF (by rw[ae];exact C),ae,aj]at hd;cases o:F[F.length-1-i]? with
  |none=>rw[o]at hd;cases hd
  |some root=>
   rw[o]at hd;cases hd;have u:=lt root (ay o);have E:F.length-i=(F.length-1-i)+1:=by ext
   rw[E]at I;have H:F.length-(i+1)=F.length-1-i:=by ext
   unfold d7;simp![];refine YZ (mk:=mk) hb T Y (ar _) u hn g.wf (λr B=>?_) λB S Q M l O L G=>?_
   ·simp![];exact up1 ⟨mk,_,rfl,by rw[H];exact I.skip o (by rw[B];rfl),Y,U,T⟩
   ·simp![];refine up1 ⟨fZ root mk S,_,rfl,?_,O,by rw[G ro (f_ U) (by ext)];exact U,L⟩;rw[H];exact MI.mark J.fo nd all lt g.wf I o B M.a1 M.a2 λv q h p hp c=>(l p.2 c v (MK.mpr ⟨q,p,hp,rfl⟩)).resolve_right λz=>z h
 ·obtain⟨mk,y3,el,I,Y,U,T⟩:=hW;subst el;rw[gC,ae,eK]at I;have G:=ex.trans T;simp![↓MA,↓dR (G.at_ O),gX];have le:((ir 0 (rs.map D.ref).length).zipWith (λi d=>D.tup [i,d]) (rs.map D.ref)).length=n:=by simp[ir,L]
  rw[le];refine⟨c1,?_⟩;rw[Gw (f:=λi=>.bl (bP (∃q,q < (E i).length/\mk ((E i).getD q (0,0)).2=mk i))) (show io ns _ _ from G.at_ O) (λi d hd=>?_),le]
  ·simp![];refine hq (λi=>bP (∃q,q < (E i).length/\mk ((E i).getD q (0,0)).2=mk i)) _ _ (λi C=>?_) mR (by have:=G.le;ext) (G.snoc _);rw[F7,<- I.cyc all g.wf C];constructor
   ·rintro ⟨q,c,e⟩
    rw[br,ag c]at e;exact⟨_,dA c,e⟩
   ·rintro ⟨p,hp,e⟩
    obtain⟨q,c⟩:=bm.mp hp;refine⟨q,(ac.mp c).1,?_⟩;rw[br,c];exact e
  ·obtain⟨c,h,rfl⟩:=LV hd;rw[aj]at h;cases o:rs[i]? with
   |none=>rw[o]at h;cases h
   |some r=>
    rw[o]at h;cases h;have C:i < n:=by rw[<- L];exact (ac.mp o).1
    refine⟨_,_,rfl,λQ=>?_⟩;have v:=G.at_ (h3 i r o);have few:=g.few i C;have B:∀(A:List D->a_->Prop),wp (collect (fF 2 (ce (aP 0) (ce (aP 1) gk))) bT (c2 lR (c2 aU (ai 3) (ai 1)) (c2 aU (ai 3) (ai 2))) (io r ((E i).map zR)) ((E i).map zR) [none,none,some (.int (i:Nat)),some (.ref u.length)]) A v2=A (bx (E i).length λq=>.bl (bP (mk ((E i).getD q (0,0)).2=mk i))) v2:=λA=>by
     rw[Gw (f:=λq=>.bl (bP (mk ((E i).getD q (0,0)).2=mk i))) (show io r _ _ from v) (λq d hd=>?_),ae];rw[aj]at hd;cases ep:(E i)[q]? with
     |none=>rw[ep]at hd;cases hd
     |some p=>
      rw[ep]at hd;cases hd;refine⟨_,_,rfl,λQ=>?_⟩;have l:=g.wf i C p (ay ep);have J:∀(Q:D->a_->Prop)s,wp (cB (eY n mk) ((p.2:Nat):Int)) Q s=Q (uZ (mk p.2)) s:=λQ s=>Gp l;have H:∀(Q:D->a_->Prop)s,wp (cB (eY n mk) ((i:Nat):Int)) Q s=Q (uZ (mk i)) s:=λQ s=>Gp C;simp![↓dR Y,↓J,↓H,↓YX];rw[br,ep,fA];rw[show decide (mk p.2=mk i)=bP (mk p.2=mk i) from LI decide_eq_true_iff]
    simp![↓dR v,gX,↓B,ae,↓Vs];exact eq_iff_iff.mpr ⟨λz=>z.2,λz=>⟨gQ (by ext),z⟩⟩
end
open PySem (Str)
section
variable{s u s0:a_}{Q:D->a_->Prop}{l:Loc}{E:Nat->List (Nat×Nat)}{n ns no nd lo:Nat}{h:Hs}{ys:List Sd}{rs:List D}
def eF(h:Hs)(ys:List Sd)(i:Nat):List (Nat×Nat):=match ys[i]? with
 |some x=>(fN h x).map λk=>(k,ys.idxOf (kD h x k))
 |none=>[]
theorem Nk:∀{rs:List D},(∀d∈rs,∃r,d=.ref r)->∃c:List Nat,rs=c.map .ref
 |[],_=>⟨[],rfl⟩
 |d::rs,hh=>by obtain⟨r,rfl⟩:=hh d (by simp);obtain⟨c,rfl⟩:=Nk (rs:=rs) λd hd=>hh d (by simp[hd]);exact⟨r::c,rfl⟩
theorem S6(hh:kH h)(J:u[ns]?=some (.lst rs))(C:rs.length=ys.length)(sp:GJ h lo no nd ns ys rs u):wc ys.length (eF h ys) ns u:=by
 obtain⟨B,rfl⟩:=Nk (rs:=rs) λd hd=>by obtain⟨j,I⟩:=bm.mp hd;obtain⟨r,_,e,_⟩:=sp j d I;exact⟨r,e⟩
 rw[ae]at C;have at_:∀(i r:Nat),B[i]?=some r->∃x,ys[i]?=some x/\u[r]?=some (.lst (row h x (fN h x) ys))/\∀k∈fN h x,kD h x k∈ys:=λi r g=>by obtain⟨L,x,e,_,_,_,_,c,v,q⟩:=sp i (.ref r) (by rw[aj,g];rfl);cases e;exact⟨x,c,v,q⟩
 refine⟨⟨B,J,C,λi r g=>?_⟩,λi G p o=>?_,λi G=>?_⟩
 ·obtain⟨x,c,v,_⟩:=at_ i r g;rw[v];unfold eF row;rw[c,db];rfl
 ·obtain⟨x,c,_,q⟩:=at_ i _ (ag (by ext));unfold eF at o;rw[c]at o;obtain⟨k,H,rfl⟩:=bz.mp o;exact cc.mpr (q k H)
 ·unfold eF;rw[ag G];dsimp only;rw[ae];exact D7 hh
theorem Mv{i:Nat}(st:rG h i):(dZ h i).length=i:=by
 have c:=st.2;refine Nat.le_antisymm c ?_;rcases Nat.eq_zero_or_pos i with e|e
 ·ext
 ·have o:=st.1 (i-1) (by ext);have g:=Oe (h:=h) (i:=i-1) (j:=i) (by ext);ext
noncomputable def AO(E:Nat->List (Nat×Nat))(n:Nat):Prop:=∀i,i < n->((E i).map (·.1)).Pairwise (· < ·)
theorem RH:AO (eF h ys) n:=λi _=>by
 unfold eF;cases ys[i]? with
 |none=>simp
 |some x=>
  dsimp only;rw[db];have:((λp:Nat×Nat=>p.1) ∘ λk=>(k,ys.idxOf (kD h x k)))=id:=rfl
  show List.Pairwise _ (nZ ((λp:Nat×Nat=>p.1) ∘ λk=>(k,ys.idxOf (kD h x k))) (fN h x));rw[this,qS];unfold fN;exact List.Pairwise.filter _ List.pairwise_lt_range
end
inductive Wy(E:Nat->List (Nat×Nat)):Nat->List Nat->Nat->Prop
 |nil (x:Nat):Wy E x [] x
 |cons {x y k j:Nat}{w:List Nat} (hp:(k,j)∈E x) (r:Wy E j w y):Wy E x (k::w) y
noncomputable def lx:List Nat->List Nat->Prop
 |[],[]=>False
 |[],_::_=>True
 |_::_,[]=>False
 |a::as,b::bs=>a < b\/(a=b/\lx as bs)
def pc(w v:List Nat):Prop:=w.length < v.length\/(w.length=v.length/\lx w v)
section
variable{E:Nat->List (Nat×Nat)}{x y z k j:Nat}{w v u:List Nat}
theorem Wy.snoc(a:Wy E x w y)(c:(k,j)∈E y):Wy E x (w++[k]) j:=by
 induction a with
 |nil=>exact .cons c (.nil _)
 |cons h _ ih=>exact .cons h (ih c)
theorem Wy.app{v:List Nat}(a:Wy E x w y)(b:Wy E y v z):Wy E x (w++v) z:=by
 induction a with
 |nil=>exact b
 |cons h _ ih=>exact .cons h (ih b)
theorem Wy.rc(a:Wy E x w y):Rc E x y:=by
 induction a with
 |nil=>exact .refl _
 |@cons _ _ k j _ hp _ ih=>exact .step (p:=(k,j)) hp ih
theorem Rc.wy(a:Rc E x y):∃w,Wy E x w y:=by
 induction a with
 |refl=>exact⟨[],.nil _⟩
 |@step _ _ p hp _ ih=>obtain⟨w,h⟩:=ih;exact⟨p.1::w,.cons hp h⟩
theorem wG:∀w:List Nat,¬ lx w w
 |[],h=>h
 |a::w,h=>by
  rcases h with h|h
  ·exact ba h (bM _)
  ·exact wG w h.2
theorem yF:∀{a b c:List Nat},lx a b->lx b c->lx a c
 |[],[],_,h,_=>h.elim
 |[],_::_,[],_,h=>h.elim
 |[],_::_,_::_,_,_=>da
 |_::_,[],_,h,_=>h.elim
 |_::_,_::_,[],_,h=>h.elim
 |a::as,b::bs,c::cs,l,g=>by
  rcases l with l|⟨rfl,l⟩
  ·rcases g with g|⟨rfl,g⟩
   ·exact .inl (by ext)
   ·exact .inl l
  ·rcases g with g|⟨rfl,g⟩
   ·exact .inl g
   ·exact .inr ⟨rfl,yF l g⟩
theorem n6:∀a b:List Nat,lx a b\/a=b\/lx b a
 |[],[]=>.inr (.inl rfl)
 |[],_::_=>.inl da
 |_::_,[]=>.inr (.inr da)
 |a::as,b::bs=>by
  rcases fW a b with h|h|h
  ·exact .inl (.inl h)
  ·subst h;rcases n6 as bs with h|h|h
   ·exact .inl (.inr ⟨rfl,h⟩)
   ·exact .inr (.inl (by rw[h]))
   ·exact .inr (.inr (.inr ⟨rfl,h⟩))
  ·exact .inr (.inr (.inl h))
theorem D6:∀{a b:List Nat},a.length=b.length->lx a b->∀c d:List Nat,lx (a++c) (b++d)
 |[],[],_,h,_,_=>h.elim
 |a::as,b::bs,hl,h,c,d=>by
  rcases h with h|⟨rfl,h⟩
  ·exact .inl h
  ·exact .inr ⟨rfl,D6 (by simpa using hl) h c d⟩
theorem G1:∀{a:List Nat}{c d:Nat},lx (a++[c]) (a++[d])↔c < d
 |[], c, d => ⟨λh => by
   rcases h with h|h
   ·exact h
   ·exact h.2.elim,λh=>.inl h⟩
 |a :: as, c, d => ⟨λh => by
   rcases h with h|h
   ·exact ba h (bM _)
   ·exact G1.mp h.2,λh=>.inr ⟨rfl,G1.mpr h⟩⟩
theorem Aa(w:List Nat):¬ pc w w:=λh=>by
 rcases h with h|h
 ·exact bM _ h
 ·exact wG w h.2
theorem Hr{a b c:List Nat}(h:pc a b)(g:pc b c):pc a c:=by
 rcases h with h|⟨o,h⟩
 ·rcases g with g|⟨l,g⟩
  ·exact .inl (by ext)
  ·exact .inl (by ext)
 ·rcases g with g|⟨l,g⟩
  ·exact .inl (by ext)
  ·exact .inr ⟨by ext,yF h g⟩
theorem qo(a b:List Nat):pc a b\/a=b\/pc b a:=by
 rcases fW a.length b.length with h|h|h
 ·exact .inl (.inl h)
 ·rcases n6 a b with c|c|c
  ·exact .inl (.inr ⟨h,c⟩)
  ·exact .inr (.inl c)
  ·exact .inr (.inr (.inr ⟨h.symm,c⟩))
 ·exact .inr (.inr (.inl h))
theorem O_{a b:List Nat}(h:pc a b)(c d:Nat):pc (a++[c]) (b++[d]):=by
 rcases h with h|⟨e,h⟩
 ·exact .inl (by rw[au,au];simp;exact h)
 ·exact .inr ⟨by simp[e],D6 e h _ _⟩
def xE(E:Nat->List (Nat×Nat))(x:Nat)(w:List Nat):Prop:=w≠[]/\Wy E x w x/\∀v,v≠[]->Wy E x v x->¬ pc v w
theorem xE.uniq(a:xE E x w)(b:xE E x v):w=v:=by
 rcases qo w v with h|h|h
 ·exact ba h (b.2.2 w a.1 a.2.1)
 ·exact h
 ·exact ba h (a.2.2 v b.1 b.2.1)
theorem xE.cyc(a:xE E x w):vK E x:=by
 obtain⟨g,c,_⟩:=a;cases c with
 |nil=>exact ba rfl g
 |@cons _ _ k j _ hp r=>exact⟨(k,j),hp,r.rc⟩
end
open PySem (Str)
section
variable{E:Nat->List (Nat×Nat)}{n a t q x y z k j:Nat}{w v:List Nat}{P:List (Nat×List Nat)}
theorem Wy.unsnoc:∀{w:List Nat}{x:Nat},Wy E x (w++[k]) y->∃z,Wy E x w z/\(k,y)∈E z
 |[],x,h=>by
  cases h with
  |cons hp r=>cases r;exact⟨x,.nil _,hp⟩
 |b::w,x,h=>by
  cases h with
  |cons hp r=>
   obtain⟨z,g,c⟩:=Wy.unsnoc (w:=w) r;exact⟨z,.cons hp g,c⟩
structure BI(n:Nat)(E:Nat->List (Nat×Nat))(a:Nat)(P:List (Nat×List Nat))(t q:Nat):Prop where
 hd:∃T,P=(a,[])::T
 wy:∀p∈P,Wy E a p.2 p.1/\p.1 < n
 nd:(P.map (·.1)).Nodup
 so:(P.map (·.2)).Pairwise pc
 pr:∀(i:Nat)p,P[i]?=some p->i < t->∀e∈E p.1,e.2≠a/\∃r∈P,r.1=e.2/\¬ pc (p.2++[e.1]) r.2
 cu:∀p,P[t]?=some p->∀e∈(E p.1).take q,e.2≠a/\∃r∈P,r.1=e.2/\¬ pc (p.2++[e.1]) r.2
 fr:∀r∈P,r.2=[]\/∃(i:Nat)(p:Nat×List Nat)(e:Nat×Nat),P[i]?=some p/\r.2=p.2++[e.1]/\(i < t\/(i=t/\e∈(E p.1).take q))
theorem BI.start(o:a < n):BI n E a [(a,[])] 0 0:=
 ⟨⟨[],rfl⟩,λp g=>by rw[ax.mp g];exact⟨.nil _,o⟩,by simp,by simp,λi p _ h=>ba h (by ext),λp _ e l=>by simp at l,λr c=>by rw[ax.mp c];exact .inl rfl⟩
theorem GY{i j:Nat}{p r:Nat×List Nat}(c:(P.map (·.2)).Pairwise pc)(u:P[i]?=some p)(o:P[j]?=some r)(h:i < j):pc p.2 r.2:=by
 have C:=(ac.mp u)
 have B:=(ac.mp o)
 obtain⟨l,H⟩:=C;obtain⟨g,G⟩:=B;have:=sT.mp c i j (by simpa using l) (by simpa using g) h;simp only[qx]at this;rw[H,G]at this;exact this
theorem MN{i j:Nat}{p r:Nat×List Nat}(l:(P.map (·.2)).Pairwise pc)(g:P[i]?=some p)(c:P[j]?=some r)(h:pc p.2 r.2):i < j:=by
 rcases fW i j with z|z|z
 ·exact z
 ·subst z;rw[g]at c;cases c;exact ba h (Aa _)
 ·exact ba (Hr h (GY l c g z)) (Aa _)
theorem M4{q c:Nat}{e g:Nat×Nat}(rs:((E x).map (·.1)).Pairwise (· < ·))(B:(E x)[q]?=some e)(u:(E x)[c]?=some g)(h:q < c):e.1 < g.1:=by obtain⟨o,G⟩:=ac.mp B;obtain⟨l,C⟩:=ac.mp u;have:=sT.mp rs q c (by simpa using o) (by simpa using l) h;simp only[qx]at this;rw[G,C]at this;exact this
theorem TR{e h:Nat×Nat}(rs:((E x).map (·.1)).Pairwise (· < ·))(o:e∈(E x).take q)(l:(E x)[q]?=some h):e.1 < h.1:=by
 obtain⟨i,c⟩:=bm.mp o;have g:i < q:=by have:=(ac.mp c).1;rw[bE]at this;ext
 rw[cX g]at c;exact M4 rs c l g
theorem BI.less(I:BI n E a P t q)(g:AO E n)(l:P[t]?=some (x,w))(B:(E x)[q]?=some (k,j)):∀r∈P,pc r.2 (w++[k]):=λr u=>by
 rcases I.fr r u with h|⟨i,p,e,o,C,c⟩
 ·rw[h];exact .inl (by simp)
 ·rw[C];rcases c with c|⟨rfl,c⟩
  ·exact O_ (GY I.so o l c) _ _
  ·rw[l]at o;cases o;exact .inr ⟨by simp,G1.mpr (TR (g x (I.wy _ (ay l)).2) c B)⟩
theorem OA{u v:List Nat}(h:pc v u):¬ pc u v:=λz=>Aa _ (Hr h z)
theorem BI.old(I:BI n E a P t q)(u:AO E n)(o:P[t]?=some (x,w))(J:(E x)[q]?=some (k,j))(B:j≠a)(O:j∈P.map (·.1)):BI n E a P t (q+1):=by
 have H:=Ef (E:=E) J;refine⟨I.hd,I.wy,I.nd,I.so,I.pr,λp c e g=>?_,λr l=>?_⟩
 ·rw[o]at c;cases c;rw[H]at g;rcases aB.mp g with h|h
  ·exact I.cu _ o e h
  ·rw[ax.mp h];obtain⟨r,l,U⟩:=bz.mp O;exact⟨B,r,l,U,OA (I.less u o J r l)⟩
 ·rcases I.fr r l with h|⟨i,p,e,C,T,Q⟩
  ·exact .inl h
  ·refine .inr ⟨i,p,e,C,T,Q.imp id λ⟨G,L⟩=>⟨G,?_⟩⟩;subst G;rw[o]at C;cases C;rw[H];exact aL _ L
theorem BI.new(I:BI n E a P t q)(J:AO E n)(u:P[t]?=some (x,w))(U:(E x)[q]?=some (k,j))(O:j < n)(Q:j≠a)(hm:j∉P.map (·.1)):BI n E a (P++[(j,w++[k])]) t (q+1):=by
 have H:=Ef (E:=E) U;have le:=I.less J u U;have at_:∀{i p},P[i]?=some p->(P++[(j,w++[k])])[i]?=some p:=λh=>by rw[aw (ac.mp h).1];exact h
 have ta:t < P.length:=(ac.mp u).1;have o:∀{i p},i<=t->(P++[(j,w++[k])])[i]?=some p->P[i]?=some p:=λhi h=>by rw[aw (by ext)]at h;exact h
 have mo:∀{r},r∈P->r∈P++[(j,w++[k])]:=λh=>aL _ h;refine⟨?_,λp h=>?_,?_,?_,λi p h hi e g=>?_,λp h e g=>?_,λr L=>?_⟩
 ·obtain⟨T,e⟩:=I.hd;exact⟨T++[(j,w++[k])],by rw[e];rfl⟩
 ·rcases aB.mp h with h|h
  ·exact I.wy p h
  ·rw[ax.mp h];exact⟨(I.wy _ (ay u)).1.snoc (ay U),O⟩
 ·rw[aO,cn];refine⟨I.nd,by simp,λb Y c C e=>?_⟩;simp at C;subst C e;exact hm Y
 ·rw[aO,List.pairwise_append];refine⟨I.so,by simp,λb Y c C=>?_⟩;simp at C;subst C;obtain⟨r,L,e⟩:=bz.mp Y;rw[<- e];exact le r L
 ·obtain⟨B,r,l,G⟩:=I.pr i p (o (by ext) h) hi e g;exact⟨B,r,mo l,G⟩
 ·have h':=o (ar _) h;rw[u]at h';cases h';rw[H]at g;rcases aB.mp g with l|l
  ·obtain⟨B,r,l,G⟩:=I.cu _ u e l;exact⟨B,r,mo l,G⟩
  ·rw[ax.mp l];exact⟨Q,(j,w++[k]),by simp,rfl,Aa _⟩
 ·rcases aB.mp L with h|h
  ·rcases I.fr r h with h|⟨i,p,e,B,l,G⟩
   ·exact .inl h
   ·refine .inr ⟨i,p,e,at_ B,l,G.imp id λ⟨v,c⟩=>⟨v,?_⟩⟩;subst v;rw[u]at B;cases B;rw[H];exact aL _ c
  ·rw[ax.mp h];exact .inr ⟨t,(x,w),(k,j),at_ u,rfl,.inr ⟨rfl,by rw[H];simp⟩⟩
theorem BI.next(I:BI n E a P t (E x).length)(l:P[t]?=some (x,w)):BI n E a P (t+1) 0:=by
 refine⟨I.hd,I.wy,I.nd,I.so,λi p h C e c=>?_,λp _ e c=>by simp at c,λr o=>?_⟩
 ·by_cases z:i=t
  ·subst z;rw[l]at h;cases h;exact I.cu _ l e (by rw[bJ];exact c)
  ·exact I.pr i p h (by ext) e c
 ·rcases I.fr r o with h|⟨i,p,e,B,u,g⟩
  ·exact .inl h
  ·exact .inr ⟨i,p,e,B,u,.inl (by rcases g with g|g<;>ext)⟩
theorem LH{u v w:List Nat}(c:¬ pc v u)(g:¬ pc w v):¬ pc w u:=λz=>by
 rcases qo v w with h|h|h
 ·exact c (Hr h z)
 ·subst h;exact c z
 ·exact g h
theorem Yl{u v:List Nat}(h:¬ pc v u)(c:Nat):¬ pc (v++[c]) (u++[c]):=λz=>by
 rcases qo u v with g|g|g
 ·exact OA (O_ g c c) z
 ·subst g;exact Aa _ z
 ·exact h g
theorem Yn{u v:List Nat}(h:¬ pc v u):u.length<=v.length:=eD λz=>h (.inl (by ext))
theorem BI.match_(I:BI n E a P t q):∀(m:Nat)(v:List Nat)(y:Nat),v.length=m->Wy E a v y->(∀r∈P,r.2.length < v.length->∃i,P[i]?=some r/\i < t)->(∃r∈P,r.1=y/\¬ pc v r.2)/\(v≠[]->y≠a)
 |0,v,y,hm,h,_=>by have e:=dW.mp hm;subst e;cases h;obtain⟨T,e⟩:=I.hd;exact⟨⟨(a,[]),by rw[e];simp,rfl,Aa _⟩,λz=>ba rfl z⟩
 |m+1,v,y,hm,h,hl=>by
  rcases g8 v with e|⟨u,c,e⟩
  ·subst e;simp at hm
  ·rw[g9]at e;subst e;have l:u.length=m:=by simpa using hm
   obtain⟨z,L,J⟩:=h.unsnoc;obtain⟨⟨r,g,q,B⟩,_⟩:=BI.match_ I m u z l L λr g G=>hl r g (by simp;ext);obtain⟨i,H,o⟩:=hl r g (by have:=Yn B;simp;ext);obtain⟨Y,C,U,Q,O⟩:=I.pr i r H o (c,y) (by rw[q];exact J);exact⟨⟨C,U,Q,LH O (Yl B c)⟩,λ_=>Y⟩
theorem Sn{q c:Nat}{e:Nat×Nat}(h:(E x)[c]?=some e)(g:c < q):e∈(E x).take q:=by refine ay (i:=c) ?_;rw[cX g];exact h
theorem BI.ans(I:BI n E a P t q)(L:AO E n)(B:P[t]?=some (x,w))(U:(E x)[q]?=some (k,a)):xE E a (w++[k]):=by
 have hw:=I.wy _ (ay B);have done:∀(m:Nat),m<=w.length->∀r∈P,r.2.length < m->∃i,P[i]?=some r/\i < t:=λm hm r O C=>by obtain⟨i,o⟩:=bm.mp O;exact⟨i,o,MN I.so o B (.inl (by show r.2.length < w.length;ext))⟩
 refine⟨by simp,hw.1.snoc (ay U),λv hv hc C=>?_⟩;by_cases hl:v.length<=w.length
 ·exact (I.match_ _ v a rfl hc (done v.length hl)).2 hv rfl
 ·rcases g8 v with e|⟨u,c,e⟩
  ·exact hv e
  ·rw[g9]at e;subst e;have J:u.length=w.length:=by
    rcases C with h|h
    ·simp at h hl;ext
    ·have:=h.1;simp at this;exact this
   have H:lx (u++[c]) (w++[k]):=by
    rcases C with h|h
    ·simp at h;ext
    ·exact h.2
   obtain⟨z,h1,v⟩:=hc.unsnoc;obtain⟨⟨r,O,e1,e2⟩,_⟩:=I.match_ _ u z rfl h1 (done u.length (by ext));obtain⟨i,o⟩:=bm.mp O;have v1:¬ lx w u:=λz=>wG _ (yF H (D6 J.symm z [k] [c]));rcases qo r.2 w with G|G|G
   ·exact (I.pr i r o (MN I.so o B G) (c,a) (by rw[e1];exact v)).1 rfl
   ·have T : i = t := by
      rcases fW i t with z|z|z
      ·have:=GY I.so o B z;rw[G]at this;exact ba this (Aa _)
      ·exact z
      ·have:=GY I.so B o z;rw[G]at this;exact ba this (Aa _)
    subst T;rw[B]at o;cases o;have g:u=w:=by
     rcases n6 u w with z|z|z
     ·exact ba (.inr ⟨J,z⟩) e2
     ·exact z
     ·exact ba z v1
    subst g;have Y:=G1.mp H;cases e1;obtain⟨E,l⟩:=bm.mp v;have Q:E < q:=by
     rcases fW E q with z|z|z
     ·exact z
     ·subst z;rw[U]at l;cases l;exact ba Y (bM _)
     ·have:=M4 (L x hw.2) U l z;simp at this;ext
    exact (I.cu _ B (c,a) (Sn l Q)).1 rfl
   ·exact LH e2 (λz => by
      rcases z with z|z
      ·ext
      ·exact v1 (eD λy => by
         rcases n6 u w with g|g|g
         ·exact y (ba z.2 (λc=>wG _ (yF c g)))
         ·subst g;exact wG _ z.2
         ·exact y g)) G
theorem BI.none(I:BI n E a P t q)(o:P.length<=t):∀v,v≠[]->¬ Wy E a v a:=λv g l=>
 (I.match_ _ v a rfl l λr h _=>by obtain⟨i,c⟩:=bm.mp h;exact⟨i,c,by have:=(ac.mp c).1;ext⟩).2 g rfl
end
open PySem (Str)
section
variable{s u:a_}{Q:D->a_->Prop}{l:Loc}{E:Nat->List (Nat×Nat)}{n ns e7 nc a t q x k j:Nat}{w:List Nat}{P:List (Nat×List Nat)}{cv:Nat->D}{L:List Nat}
noncomputable def sL(L:List Nat)(cv:Nat->D):List (D×D):=L.map λy=>(D.int (y:Nat),cv y)
theorem Nv{i j:Nat}:nO (.int (i:Nat)) (.int (j:Nat))=decide (i=j):=by
 rw[nO];by_cases e:i=j
 ·subst e;simp
 ·simp[e];ext
theorem Gc{y:Nat}:∀L:List Nat,lN (sL L cv) (.int (y:Nat))=if y∈L then some (cv y) else none
 |[]=>rfl
 |z::L=>by
  have g:=Gc (y:=y) L;unfold lN sL at g ⊢;rw[aI,cD];dsimp only;rw[Nv];by_cases e:z=y
  ·subst e;simp
  ·rw[aT e];dsimp only;rw[g];have o:¬ y=z:=λh=>e h.symm;by_cases c:y∈L
   ·rw[aE c,aE (by simp[c])]
   ·rw[aA c,aA (by simp[c,o])]
theorem Q3{y:Nat}{v:D}(g:y∉L):kG (sL L cv) (.int (y:Nat)) v=sL (L++[y]) λz=>if z=y then v else cv z:=by
 have h:((sL L cv).any λp=>nO p.1 (.int (y:Nat)))=false:=by rw[pI];intro p c;unfold sL at c;obtain⟨z,hz,rfl⟩:=bz.mp c;rw[Nv];have:z≠y:=λe=>g (e ▸ hz);simp[this]
 unfold kG;rw[h,aA (by simp)];unfold sL;rw[aO];congr 1
 ·refine cO λz hz=>?_;have:z≠y:=λe=>g (e ▸ hz)
  show _=(D.int (z:Nat),if z=y then v else cv z)
  rw[aA this]
 ·simp
def Cm(P:List (Nat×List Nat))(cv:Nat->D):Prop:=∀(i:Nat)p,P[i]?=some p->(p.2=[]/\cv p.1=.non)\/∃(c:Nat)(r:Nat×List Nat)(k:Nat),c < i/\P[c]?=some r/\p.2=r.2++[k]/\cv p.1=.tup [.int (r.1:Nat),.int (k:Nat)]
theorem NO{ds:List D}:wp (nQ (.tup ds) .non) Q s=Q (.bl true) s:=cN rfl
theorem Oc:wp (nQ .non .non) Q s=Q (.bl false) s:=cN rfl
theorem Sw{j:Nat}{p:Nat×List Nat}(g:s[nc]?=some (.dct false (sL (P.map (·.1)) cv)))(C:Cm P cv)(hl:P.length<=900)(O:P[j]?=some p)
  (hq:∀u,dE s u->Q (.tup (p.2.map d7)) u):wp (jG [.dic nc,.int (p.1:Nat)]) Q s:=by
 have hj:=(ac.mp O).1;have U:∀i:Nat,m_ false (.int (i:Nat))=true:=λi=>rfl;have tB:∀{c:Nat}{r:Nat×List Nat},P[c]?=some r->r.1∈P.map (·.1):=λh=>bz.mpr ⟨_,ay h,rfl⟩;have q0:∀Q,wp (itemK nc (.int (p.1:Nat))) Q (s++[MO.lst []])=Q (cv p.1) (s++[MO.lst []]):=λQ=>v8 (m4 g) (U _) (by rw[Gc,aE (tB O)]);have lnc:=f_ g
 (simp![jG];simp![ye,bu,↓q0])
 refine yH (λl u=>∃(c:Nat)(q:Nat×List Nat)(o:List Nat),l=[some (.dic nc),some (.int (p.1:Nat)),some (.ref s.length),some (cv q.1)]/\c<=j/\c+o.length<=j/\P[c]?=some q/\p.2=q.2++o.reverse/\u[s.length]?=some (.lst (o.map d7))/\u[nc]?=some (.dct false (sL (P.map (·.1)) cv))/\dE s u)
  (λ(_:Loc)(u:a_)=>match (u[s.length]?:Option MO) with
   |some (.lst o)=>1000-o.length
   |_=>0) ⟨j,p,[],rfl,ar _,ar _,O,by simp,mR,m4 g,(dE.refl _).snoc _⟩ (λRw1 l u up1 E hW=>?_)
 obtain⟨c,q,o,el,hc,hts,J,Y,B,g2,ex⟩:=hW;subst el;rcases C c q J with ⟨T,H⟩|⟨i,I,k,hi,H,T,e3⟩
 ·rw[H];have w:∀Q,wp (qL (.ref s.length)) Q u=Q (.tup (p.2.map d7)) u:=λQ=>by unfold qL;rw[dF,dR B,ck,Y,T,rb,List.map_reverse]
  simp![↓Oc,aQ,if_false,↓w];exact hq u ex
 ·rw[e3];have G:∀v,(u.set s.length (MO.lst v))[nc]?=some (.dct false (sL (P.map (·.1)) cv)):=λv=>by rw[af (by ext)];exact g2
  have L:∀v Q,wp (itemK nc (.int (I.1:Nat))) Q (u.set s.length (MO.lst v))=Q (cv I.1) (u.set s.length (MO.lst v)):=λv Q=>v8 (G v) (U _) (by rw[Gc,aE (tB H)]);simp![↓NO,if_true,↓dR B,↓mE B,↓L,ae];refine⟨nB (by ext),up1 ⟨i,I,o++[k],rfl,by ext,by simp;ext,H,by rw[Y,T];simp,by rw[ao (f_ B),aO];rfl,G _,ex.put (ar _)⟩ ?_⟩;rw[ao (f_ B),B];simp only[au,dL,ae];ext
theorem YS(C:Cm P cv):∀(i:Nat)(p:Nat×List Nat),P[i]?=some p->p.2.length<=i:=by
 intro i
 induction i using Aw with
 |ind i ih=>
  intro p g;rcases C i p g with ⟨e,_⟩|⟨c,r,k,v,o,h,_⟩
  ·rw[e];exact bu _
  ·have:=ih c v r o;rw[h];simp;ext
def LW(s:a_)(P:List (Nat×List Nat))(v:a_):Prop:=∃cv,v[s.length]?=some (.dct false (sL (P.map (·.1)) cv))/\v[s.length+1]?=some (.lst (P.map λp:Nat×List Nat=>D.int (p.1:Nat)))/\Cm P cv/\dE s v
theorem LW.put{v:a_}(l:v[s.length]?=some (.dct false (sL (P.map (·.1)) cv)))(Y:v[s.length+1]?=some (.lst (P.map λp:Nat×List Nat=>D.int (p.1:Nat))))(C:Cm P cv)(ex:dE s v)(J:j∉P.map (·.1))(G:P[t]?=some (x,w)):
  LW s (P++[(j,w++[k])]) ((v.set s.length (.dct false (sL (P.map (·.1)++[j]) λz=>if z=j then .tup [.int (x:Nat),.int (k:Nat)] else cv z))).set (s.length+1) (.lst ((P.map λp:Nat×List Nat=>D.int (p.1:Nat))++[.int (j:Nat)]))):=by
 have B:=(ac.mp G).1;have g:∀{i:Nat}{p:Nat×List Nat},P[i]?=some p->p.1≠j:=λh e=>J (e ▸ bz.mpr ⟨_,ay h,rfl⟩);refine⟨λz=>if z=j then .tup [.int (x:Nat),.int (k:Nat)] else cv z,?_,?_,λi p c=>?_,(ex.put (ar _)).put (by ext)⟩
 ·rw[af (by ext),ao (f_ l),aO];rfl
 ·rw[ao (by rw[cw];exact f_ Y),aO];rfl
 ·by_cases o:i < P.length
  ·rw[aw o]at c;dsimp only;rw[aA (g c)];rcases C i p c with h|⟨I,r,H,U,T,O⟩
   ·exact .inl h
   ·exact .inr ⟨I,r,H,U,by rw[aw (by ext)];exact T,O⟩
  ·have e : i = P.length := by have:=(ac.mp c).1;rw[au]at this;simp at this;ext
   subst e;rw[aW (ar _),eK]at c;cases c;dsimp only;rw[aE rfl];exact .inr ⟨t,(x,w),k,B,by rw[aw B];exact G,rfl,rfl⟩
theorem UI(g:wc n E ns s)(gg:s[e7]?=some (.lst (bx n λi=>.bl (decide (i=a)))))(ha:a < n)(hn:n<=324)(B:AO E n)
  (h1:∀w u,xE E a w->dE s u->Q (.tup (w.map d7)) u) (h2:∀u,(∀v,v≠[]->¬ Wy E a v a)->dE s u->Q .non u):wp (jk [.ref ns,.int (a:Nat),.ref e7]) Q s:=by
 have c1:1<=eS:=gQ (by ext);have wd:∀(Q:D->a_->Prop)l,wp (qE (ai 1) (aR .non) (some (.ref ns)::some (.int (a:Nat))::l)) Q s=Q (.dic s.length) (s++[.dct false (sL [a] λ_=>.non)]):=λQ l=>by unfold qE;rw[dF,yM,dF,u4];exact cN rfl
 (simp![jk];simp![jP,↓wd,c1])
 have e1:(s++[MO.dct false (sL [a] λ_=>D.non)]).length=s.length+1:=by simp
 rw[e1];have W0:LW s [(a,[])] (s++[MO.dct false (sL [a] λ_=>D.non)]++[MO.lst [D.int (a:Nat)]]):=
  ⟨λ_=>.non,m4 mR,by rw[<- e1];exact mR,λi p hi=>by
   match i,hi with
   |0,hi=>cases hi;exact .inl ⟨rfl,rfl⟩
   |i+1,hi=>simp at hi,((dE.refl _).snoc _).snoc _⟩
 clear wd;generalize s++[MO.dct false (sL [a] λ_=>D.non)]++[MO.lst [D.int (a:Nat)]]=s1 at *;have h:∀{P t q},BI n E a P t q->P.length<=324:=λ{P t q}I=>by
  have:=Cg n (P.map (·.1)) I.nd λy hy=>by obtain⟨p,c,rfl⟩:=bz.mp hy;exact (I.wy p c).2
  rw[ae]at this;ext
 refine yH (λl v=>∃(P:List (Nat×List Nat))(t:Nat)(y6 J H:Option D),l=[some (.ref ns),some (.int (a:Nat)),some (.ref e7),some (.dic s.length),some (.ref (s.length+1)),some (.int (t:Nat)),y6,J,H]/\BI n E a P t 0/\LW s P v)
  (λ(l:Loc)(_:a_)=>match (l[5]?:Option (Option D)) with
   |some (some (D.int i))=>(1000-i).toNat
   |_=>0) ⟨[(a,[])],0,_,_,_,rfl,BI.start ha,W0⟩ (λRw2 l v up2 rt2 hW=>?_)
 obtain⟨P,t,y6,J,H,el,I,W⟩:=hW;subst el;have hl:=h I;obtain⟨cv,b1,b2,C,ex⟩:=id W;simp![↓dR b2,ae];by_cases ht:t < P.length
 ·rw[aE (by ext)];obtain⟨⟨x,w⟩,c⟩:∃p,P[t]?=some p:=⟨_,ag ht⟩
  have hx:=(I.wy _ (ay c)).2;have q2:∀(Q:D->a_->Prop)s,wp (cB (P.map λp:Nat×List Nat=>D.int (p.1:Nat)) ((t:Nat):Int)) Q s=Q (.int (x:Nat)) s:=λQ s=>pX (by rw[aj,c];rfl);obtain⟨rs,r,qg,qi,gr,hrs⟩:=(g.ext ex).row hx;have gr0:∀{v2:a_},dE s v2->v2[r]?=some (.lst ((E x).map zR)):=λ{v2}e=>by
   obtain⟨rs',t1,t2,t3⟩:=g.at_;have e2:rs=rs':=by have z:=qg (λb _=>b=rs.map D.ref);rw[dR (ex.at_ t1)]at z;have z2:=z.mpr rfl;have:=cz (nZ λd=>match d with|D.ref r=>r|_=>0) z2;rw[db,db]at this;have i1:((λd=>match d with|D.ref r=>r|_=>0)∘D.ref)=id:=rfl;rw[i1,qS,qS]at this;exact this.symm
   subst e2;have Y:x < rs.length:=by ext
   have z:=qi (λb _=>b=.ref r) v;rw[pX (d:=.ref rs[x]) (by rw[aj,ag Y];rfl)]at z;have z2:=z.mpr rfl;cases z2;exact e.at_ (t3 x _ (ag Y))
  simp![↓dR b2,↓q2,↓qg,↓qi,↓dR gr];refine qJ (λq l v=>∃(P:List (Nat×List Nat))(J H:Option D),l=[some (.ref ns),some (.int (a:Nat)),some (.ref e7),some (.dic s.length),some (.ref (s.length+1)),some (.int (t:Nat)),some (.int (x:Nat)),J,H]/\BI n E a P t q/\P[t]?=some (x,w)/\LW s P v) (λ_ _ _ z=>by obtain⟨_,_,_,_,_,_,_,_,_,_,e⟩:=z;exact gr0 e)
   ⟨P,_,_,rfl,I,c,W⟩ (λRw3 q d l v2 U rt3 hd hW=>?_) (λl v2 hW=>?_)
  ·obtain⟨P,J,H,el,I,c,W⟩:=hW;subst el;have hl:=h I;rw[aj]at hd;cases T:(E x)[q]? with
   |none=>rw[T]at hd;cases hd
   |some e=>
    rw[T]at hd;cases hd;obtain⟨k,j⟩:=e;have L:=g.wf x hx (k,j) (ay T);obtain⟨cv,b1,b2,C,ex⟩:=id W;have q4:∀(Q:D->a_->Prop)s,wp (cB (bx n λi=>D.bl (decide (i=a))) ((j:Nat):Int)) Q s=Q (.bl (decide (j=a))) s:=λQ s=>vP L;unfold zR;simp![↓dR (ex.at_ gg),↓q4];by_cases v:j=a
    ·subst v;rw[aE rfl];refine Sw (P:=P) (p:=(x,w)) b1 C (by ext) c λu g=>?_;have h:w.length<=t:=YS C t (x,w) c;have G:=(ac.mp c).1;simp![c1,ae];refine⟨gQ (by simp;ext),?_⟩;have:=h1 (w++[k]) u (I.ans B c T) (ex.trans g);rw[aO]at this;refine rt3 (rt2 ?_);simp![];exact this
    ·rw[aA v];have q:∀Q,wp (hasK s.length (.int (j:Nat))) Q v2=Q (lN (sL (P.map (·.1)) cv) (.int (j:Nat))).isSome v2:=λQ=>El b1 rfl;rw[q,Gc];by_cases O:j∈P.map (·.1)
     ·rw[aE O];simp![iP,dq,aQ,if_false];exact U ⟨P,_,_,rfl,I.old B c T v O,c,W⟩
     ·rw[aA O];simp![oB,eV,if_true];rw[zY b1 rfl (nB (by unfold sL;rw[ae,ae];ext)),Q3 O];have l:∀o,(v2.set s.length o)[s.length+1]?=some (.lst (P.map λp:Nat×List Nat=>D.int (p.1:Nat))):=λo=>by rw[af (by ext)];exact b2
      have h:∀o Q,wp (getL (s.length+1)) Q (v2.set s.length o)=Q (P.map λp:Nat×List Nat=>D.int (p.1:Nat)) (v2.set s.length o):=λo Q=>dR (l o);have g:∀o Y Q,wp (putL (s.length+1) Y) Q (v2.set s.length o)=Q () ((v2.set s.length o).set (s.length+1) (.lst Y)):=λo Y Q=>mE (l o);simp![↓h,↓g,ae];have G:=(ac.mp c).1;refine⟨?_,nB (by ext),U ⟨P++[(j,w++[k])],_,_,rfl,I.new B c T L v O,by rw[aw G];exact c,LW.put b1 b2 C ex O c⟩⟩
      first|exact gQ (by ext)|exact nB (by ext)
  ·obtain⟨P,J,H,el,I,c,W⟩:=hW;subst el;have hl:=h I;rw[ae]at I;have G:=(ac.mp c).1;simp![↓MW];refine up2 ⟨P,t+1,_,_,_,rfl,I.next c,W⟩ ?_
   show (1000-((t:Int)+1)).toNat < (1000-(t:Int)).toNat;ext
 ·rw[aA (by ext)];exact h2 v (I.none (by ext)) ex
end
open PySem (Str)
section
variable{s u:a_}{Q:D->a_->Prop}{l:Loc}{E:Nat->List (Nat×Nat)}{n ns:Nat}{h:Hs}
theorem Vd{c:Nat->Bool}{r:Nat}(g:s[r]?=some (.lst (bx n λi=>.bl (c i)))):wp (mX (.bl true) (.ref r)) Q s=Q (.bl !((bH n).any c)) s:=by
 have e:mX (.bl true) (.ref r)=bnd (getL r) (wH (.bl true)):=rfl;rw[e,dF,dR g,Y3];have q:(bx n λi=>D.bl (c i)).all kz=true:=by simp[bx,kz]
 have o:((bx n λi=>D.bl (c i)).any λd=>tV d (.bl true))=(bH n).any c:=by
  unfold bx;rw[uk];congr 1;funext i
  show (c i == true)=c i;simp
 rw[o];exact propext ⟨λz=>z.2,λz=>⟨⟨rfl,q⟩,z⟩⟩
theorem Nz{c:Nat->Bool}:∀L:List Nat,ki (L.map λi=>D.bl (c i))=some (L.map c)
 |[]=>rfl
 |i::L=>by rw[aI,ki,Nz L];rfl
theorem YO{o:Nat->Bool}{r:Nat}{f:Nat}(g:s[r]?=some (.lst (bx n λi=>.bl (o i))))(L:n<=900)(q:f < n)(v:o f=true)(J:∀i,i < f->o i=false)(C B:CE)(l:Loc)(I:∀Q s,wp (C l) Q s=Q (.ref r) s)(H:∀Q s,wp (B l) Q s=Q (.bl true) s):
  wp (nC C B l) Q s=Q (.int (f:Nat)) s:=by
 have e:((bH n).map o).findIdx (· == true)=f:=by rw[List.findIdx_eq (by simp;exact q)];refine⟨by simp[v],λj G=>?_⟩;simp[J j G]
 have c:((bH n).map o).contains true=true:=by rw[List.contains_iff_mem,bz];exact⟨f,d9.mpr q,v⟩
 unfold nC;rw[dF,I];dsimp only;rw[dF,H,dF,dR g];unfold bx;rw[Nz];dsimp only;rw[dB,ck,e];exact propext ⟨λz=>z.2,λz=>⟨⟨c,gQ (by simp;ext)⟩,z⟩⟩
def FR(n:Nat)(E:Nat->List (Nat×Nat))(o:Option (Nat×List Nat)):Prop:=match o with
 |none=>∀i,i < n->¬ vK E i
 |some (f,w)=>f < n/\xE E f w/\∀i,i < f->¬ vK E i
def JK:Option (Nat×List Nat)->D
 |none=>.non
 |some (f,w)=>.tup [.int (f:Nat),.tup (w.map d7)]
theorem OH{c:Nat->Bool}:∀(n:Nat),(∃i,i < n/\c i=true)->∃f,f < n/\c f=true/\∀i,i < f->c i=false
 |0,⟨i,hi,_⟩=>by ext
 |n+1,⟨i,hi,e⟩=>by
  by_cases h:∃i,i < n/\c i=true
  ·obtain⟨f,q,o⟩:=OH n h;exact⟨f,by ext,o⟩
  ·have:i=n:=eD λz=>h ⟨i,by ext,e⟩;subst this;exact⟨i,by ext,e,λj g=>by
    cases z:c j with
    |false=>rfl
    |true=>exact ba ⟨j,g,z⟩ h⟩
theorem XC(g:wc n E ns s)(h:n<=324)(I:AO E n)(Y:∀o u,FR n E o->dE s u->Q (JK o) u):wp (jo [.ref ns]) Q s:=by
 have l2:2<=eS:=gQ (by ext);have c1:n<=eS:=gQ (by ext)
 (simp![jo];simp![jV])
 refine Ti g h λH r u q gr hr ex=>?_;have q0:∀(Q:D->a_->Prop),wp (mX (.bl true) (.ref r)) Q u=Q (.bl !((bH n).any H)) u:=λQ=>Vd gr;simp![↓q0];by_cases G:∃i,i < n/\H i=true
 ·have T : (bH n).any H = true := by obtain⟨i,c,e⟩:=G;exact gG.mpr ⟨i,d9.mpr c,e⟩
  rw[T];obtain⟨f,C,E,o⟩:=OH n G;have q1:∀(Q:D->a_->Prop)l,wp (nC (ai 1) (aR (.bl true)) (some (.ref ns)::some (.ref r)::l)) Q u=Q (.int (f:Nat)) u:=λQ l=>YO gr (by ext) C E o _ _ _ (λQ s=>yM) (λQ s=>u4);obtain⟨rs,t1,t2,t3⟩:=g.at_;simp![dq,aQ,if_false,↓q1,↓dR (ex.at_ t1),ae,t2,gX];have en:((n:Nat):Int).toNat=n:=by simp
  rw[en,t5];refine⟨⟨by ext,by ext⟩,by rw[mT];exact c1,?_⟩;rw[v9 (f:=λi=>.bl (decide (i=f))) sW (λi c Q=>by
   simp![];have:((i:Int) == (f:Int))=decide (i=f):=by
    by_cases e:i=f
    ·subst e;simp
    ·simp[e];ext
   first|rw[this]|simp only[this])]
  simp![];have B:dE s (u++[MO.lst (bx n λi=>D.bl (decide (i=f)))]):=ex.snoc _;refine UI (g.ext B) mR C h I (λw v ha U=>?_) λv O U=>?_
  ·simp![l2];exact Y (some (f,w)) v ⟨C,ha,λi c J=>by have:=(q i (by ext)).mpr J;rw[o i c]at this;cases this⟩ (B.trans U)
  ·obtain⟨p,g,L⟩:=(q f C).mp E;obtain⟨w,c⟩:=L.wy;exact ba (Wy.cons (k:=p.1) (j:=p.2) g c) (O _ (by simp))
 ·have T : (bH n).any H = false := by rw[pI];intro i c e;exact G ⟨i,d9.mp c,e⟩
  rw[T];simp![eV,if_true];exact Y none u (λi c J=>G ⟨i,c,(q i c).mpr J⟩) ex
end
open PySem (Str)
section
variable{s u:a_}{Q:D->a_->Prop}{l:Loc}{h:Hs}
def Ai(ys:List Sd):Option (Nat×List Nat)->D
 |none=>.non
 |some (f,w)=>.tup [(ys[f]?.map bO).getD .non,.tup (w.map d7)]
theorem MR{ds:List D}:wp (va (.tup ds) .non) Q s=Q (.bl false) s:=cN rfl
theorem Hm:wp (va .non .non) Q s=Q (.bl true) s:=cN rfl
theorem Hl{most:Nat}(q:wa h)(T:∀i,rB h i->(dZ h i).length<=most)
  (C:∀i o u,rG h i->FR (dZ h i).length (eF h (dZ h i)) o->dE s u->Q (Ai (dZ h i) o) u):wp (jm [kC h,.int (most:Nat)]) Q s:=by
 have hh:=q.1;have H:2<=eS:=gQ (by ext)
 (simp![jm];simp![yh])
 refine Yz q T λi l nd Y rs u st gl L U I J sp ex=>?_;have len:=Mv st;have g:=S6 (h:=h) (ys:=dZ h i) hh U (by ext) sp;have O:(dZ h i).length<=324:=(C4 q st.1).1;simp![];refine XC g O RH λo v B c=>?_;cases o with
 |none=>
  unfold JK;simp![↓Hm,if_true];exact C i none v st B (ex.trans c)
 |some p=>
  obtain⟨f,w⟩:=p;have E:f < (dZ h i).length:=B.1;have G:∀(Q:D->a_->Prop)s,wp (cB ((dZ h i).map bO) ((f:Nat):Int)) Q s=Q (bO (dZ h i)[f]) s:=λQ s=>pX (by rw[aj,ag E];rfl);unfold JK;simp![↓MR,aQ,if_false,↓dR (c.at_ gl),↓G,H];have:=C i (some (f,w)) v st B (ex.trans c);unfold Ai at this;dsimp only at this;rw[ag E]at this;exact this
end
open PySem (Str)
def fC(R:List Sd)(f:Sd->D):List (D×D):=R.map λx=>(bO x,f x)
noncomputable def sB(f:Sd->D)(x:Sd)(v:D):Sd->D:=λy=>if y=x then v else f y
theorem v6{R:List Sd}{f:Sd->D}{x:Sd}:lN (fC R f) (bO x)=if x∈R then some (f x) else none:=by
 unfold lN fC
 induction R with
 |nil=>rfl
 |cons y R ih=>
  rw[aI,cD];dsimp only;rw[C_];by_cases e:y=x
  ·subst e;rw[bF rfl,aE cM];rfl
  ·rw[aT e];dsimp only;rw[ih];by_cases c:x∈R
   ·rw[aE c,aE (bI _ c)]
   ·rw[aA c,aA λh=>c ((bb.mp h).resolve_left (bC e))]
theorem Bv{R:List Sd}{f:Sd->D}{x:Sd}{v:D}:kG (fC R f) (bO x) v=fC (if x∈R then R else R++[x]) (sB f x v):=by
 have g:((fC R f).any λp=>nO p.1 (bO x))=decide (x∈R):=by
  unfold fC;rw[uk];apply zD.mpr;rw[gG,decide_eq_true_iff];constructor
  ·rintro ⟨y,c,e⟩
   have e:decide (y=x)=true:=by rw[<- C_];exact e
   rw[<- of_decide_eq_true e];exact c
  ·intro h;exact⟨x,h,by show nO (bO x) (bO x)=true;rw[C_,bF rfl]⟩
 unfold kG;rw[g];by_cases h:x∈R
 ·rw[aE (bF h),aE h];unfold fC;rw[db];apply cO;intro y c
  show (if nO (bO y) (bO x)=true then (bO y,v) else (bO y,f y))=_;rw[C_];unfold sB;by_cases e:y=x
  ·rw[aE (bF e),aE e]
  ·rw[aA (by rw[aT e];simp),aA e]
 ·rw[aA (by rw[aT h];simp),aA h];unfold fC;rw[aO];congr 1
  ·apply cO;intro y c;unfold sB;rw[aA (λe:y=x=>h (by rw[<- e];exact c))]
  ·show [(bO x,v)]=[(bO x,sB f x v x)]
   unfold sB;rw[aE rfl]
theorem FG{ys:List Sd}{x:Sd}{i k:Nat}(l:ys.Nodup)(h:ys[i]?=some x)(o:x∈ys.take k):i < k:=by
 obtain⟨j,g⟩:=bm.mp o;have c:j < k:=by have:=(ac.mp g).1;rw[bE]at this;ext
 rw[cX c]at g;have:=(e8 (ac.mp h).1 l).mp (h.trans g.symm);ext
theorem yJ{R:List Sd}{f:Sd->D}:(fC R f).length=R.length:=by unfold fC;rw[ae]
section
variable{s u:a_}{Q:D->a_->Prop}{l:Loc}{h:Hs}{ys zs:List Sd}
theorem NW(hh:kH h):∀(m:Nat),rB h m->∀(j:Nat)(x:Sd),j < m->(dZ h m)[j]?=some x->∀k∈fN h x,kD h x k∈dZ h m
 |0,_,j,x,v,_,k,_=>by ext
 |m+1,go,j,x,v,hx,k,hk=>by
  obtain⟨t,B⟩:=Kw (h:=h) m;have o:=go m (by ext);have g:(dZ h m)[m]?=some (dZ h m)[m]:=ag o;have C:dZ h (m+1)=oZ h (dZ h m)[m] (fN h (dZ h m)[m]) (dZ h m):=by
   show (match (dZ h m)[m]? with
    |some x=>oZ h x (fN h x) (dZ h m)
    |none=>dZ h m)=_
   rw[g]
  have q:j < (dZ h m).length:=by ext
  have c:(dZ h m)[j]?=some x:=by rw[B,aw q]at hx;exact hx
  by_cases e:j=m
  ·subst e;have:x=(dZ h j)[j]:=aN (c.symm.trans g);subst this;rw[C];exact G3 hk
  ·rw[B];exact aL _ (NW hh m (λj v=>go j (by ext)) j x (by ext) c k hk)
theorem YF{i:Nat}(hh:kH h)(st:rG h i){x:Sd}(g:x∈dZ h i){k:Nat}(o:k∈fN h x):kD h x k∈dZ h i:=by obtain⟨j,c⟩:=bm.mp g;have:=(ac.mp c).1;have:=Mv st;exact NW hh i st.1 j x (by ext) c k o
def z_(h:Hs)(x:Sd):List D:=(fN h x).map λk=>.tup [.int (k:Nat),bO (kD h x k)]
def K5(h:Hs)(lo:Nat)(zs:List Sd)(g:Nat)(u:a_):Prop:=∃c:Sd->Nat,u[g]?=some (.dct true (fC zs λx=>.ref (c x)))/\∀x∈zs,lo<=c x/\c x≠g/\u[c x]?=some (.lst (z_ h x))
theorem Qe{B:Nat}(hh:kH h)(J:s[B]?=some (.lst (ys.map bO)))(nd:ys.Nodup)(ok:∀x∈ys,k_ h x)(hl:ys.length<=324)
  (hq:∀u,K5 h s.length ys s.length u->dE s u->Q (.dic s.length) u):wp (jC [kC h,.ref B]) Q s:=by
 have l2:2<=eS:=gQ (by ext);have ly:=f_ J;have q0:∀Q,wp (getL B) Q (s++[MO.dct true []])=Q (ys.map bO) (s++[MO.dct true []]):=λQ=>dR (m4 J)
 (simp![jC];simp![j5,↓q0])
 refine qJ (λi l v=>∃(E:Option D),l=[some (kC h),some (.ref B),some (.dic s.length),E]/\K5 h s.length (ys.take i) s.length v/\dE s v) (λ_ _ _ w=>by obtain⟨_,_,_,e⟩:=w;exact e.at_ J)
  ⟨_,rfl,⟨λ_=>0,mR,by simp⟩,(dE.refl _).snoc _⟩ (λRw1 i d l v up1 rt1 hd I=>?_) (λl v I=>?_)
 ·obtain⟨E,el,N,ex⟩:=I;subst el;rw[aj]at hd;cases o:ys[i]? with
  |none=>rw[o]at hd;cases hd
  |some x=>
   rw[o]at hd;cases hd;have l:=ok x (ay o);obtain⟨T,J,g2⟩:=N;have O:ys.take (i+1)=ys.take i++[x]:=by rw[cK,o];rfl
   have H:x∉ys.take i:=λz=>by have:=FG nd o z;ext
   simp![];refine O1 hh l λr v1 hr u L=>?_;have lv:s.length < v.length:=f_ J;have f3:(fN h x).length<=3:=D7 hh;have q1:∀Q,wp (getL r) Q v1=Q ((fN h x).map λk=>.int (k:Nat)) v1:=λQ=>dR u;simp![↓q1,gX,ae];refine⟨gQ (by ext),?_⟩;refine Gz (λj c v2=>c=((fN h x).take j).map (λk=>.tup [.int (k:Nat),bO (kD h x k)])/\dE v1 v2) (λj c v2 w=>w.2.at_ u) ⟨rfl,dE.refl _⟩ (λj d c v2 hd w=>?_) (λc v2 w=>?_)
   ·obtain⟨rfl,q⟩:=w;rw[aj]at hd;cases C:(fN h x)[j]? with
    |none=>rw[C]at hd;cases hd
    |some k=>
     rw[C]at hd;cases hd;simp![];refine NC hh l (C7 (ay C)) λc g=>?_;simp![l2];refine⟨?_,q.trans g⟩;rw[cK,C,aO];rfl
   ·obtain⟨rfl,q⟩:=w;rw[ae,bJ];have g:dE v (v2++[MO.lst (z_ h x)]):=(L.trans q).snoc _;have B:=g.at_ J;have l:v.length<=v2.length:=(L.trans q).le;have C:(v2++[MO.lst (z_ h x)])[v2.length]?=some (.lst (z_ h x)):=mR;have c:∀w Q,wp (storeK s.length (bO x) w) Q (v2++[MO.lst (z_ h x)])=Q () ((v2++[MO.lst (z_ h x)]).set s.length (.dct true (fC (ys.take i++[x]) (sB (λx=>.ref (T x)) x w)))):=λw Q=>by rw[zY B (py x) (nB (by rw[yJ,bE];ext)),Bv,aA H]
    show wp _ _ (v2++[MO.lst (z_ h x)]);simp![↓c];refine up1 ⟨_,rfl,⟨λy=>if y=x then v2.length else T y,?_,λy Y=>?_⟩,(ex.trans g).put (ar _)⟩
    ·rw[ao (f_ B),O];congr 2;unfold fC sB;refine cO λy _=>?_;dsimp only;split<;>rfl
    ·dsimp only;rw[O]at Y;by_cases e:y=x
     ·subst e;rw[aE rfl];exact⟨by ext,by ext,by rw[af (by ext)];exact C⟩
     ·rw[aA e];have G:y∈ys.take i:=by
       rcases aB.mp Y with z|z
       ·exact z
       ·exact ba (ax.mp z) e
      obtain⟨u,U,o⟩:=g2 y G;exact⟨u,U,by rw[af (bC U)];exact g.at_ o⟩
 ·obtain⟨E,el,N,ex⟩:=I;subst el;rw[ae,bJ]at N;simp![];exact hq v N ex
end
open PySem (Str)
section
variable{S:Sd->Sd->Prop}{x y z:Sd}{row:List Sd}{h:Hs}{ys:List Sd}
inductive TS(S:Sd->Sd->Prop):Sd->Sd->Prop
 |one {x y:Sd} (h:S x y):TS S x y
 |more {x y z:Sd} (h:S x y) (r:TS S y z):TS S x z
theorem TS.snoc(a:TS S x y)(b:S y z):TS S x z:=by
 induction a with
 |one h=>exact .more h (.one b)
 |more h _ ih=>exact .more h (ih b)
theorem TS.rev(a:TS S x y):TS (λu v=>S v u) y x:=by
 induction a with
 |one h=>exact .one h
 |more h _ ih=>exact ih.snoc h
def Rk(S:Sd->Sd->Prop)(row:List Sd):Prop:=∀(i:Nat)z,row[i]?=some z->∀y,S z y->y∈row.take i
theorem W9(q:Rk S row):∀{x y:Sd},TS S x y->∀m:Nat,row[m]?=some x->∃l:Nat,l < m/\row[l]?=some y:=by
 intro x y a
 induction a with
 |@one x y h=>
  intro m o;obtain⟨j,g⟩:=bm.mp (q m x o y h);have c:j < m:=by have:=(ac.mp g).1;rw[bE]at this;ext
  rw[cX c]at g;exact⟨j,c,g⟩
 |@more x y z h _ ih=>
  intro m o;obtain⟨j,g⟩:=bm.mp (q m x o y h);have c:j < m:=by have:=(ac.mp g).1;rw[bE]at this;ext
  rw[cX c]at g;obtain⟨l,v,u⟩:=ih j g;exact⟨l,by ext,u⟩
theorem Pj(g:Rk S row)(hz:z∈row):¬ TS S z z:=λa=>by
 have key:∀m:Nat,row[m]?=some z->False:=by
  intro m
  induction m using Aw with
  |ind m ih=>
   intro c;obtain⟨l,q,o⟩:=W9 g a m c;exact ih l q o
 obtain⟨m,c⟩:=bm.mp hz;exact key m c
def Fl(h:Hs)(x y:Sd):Prop:=∃k∈fN h x,kD h x k=y
theorem MG{i k j:Nat}(c:ys[i]?=some x):(k,j)∈eF h ys i↔k∈fN h x/\ys.idxOf (kD h x k)=j:=by
 unfold eF;rw[c];dsimp only;rw[bz];constructor
 ·rintro ⟨k',hk,e⟩
  cases e;exact⟨hk,rfl⟩
 ·rintro ⟨hk,e⟩
  exact⟨k,hk,by rw[e]⟩
theorem vN(c:y∈ys):ys[ys.idxOf y]?=some y:=by have:=cc.mpr c;rw[ag this,List.getElem_idxOf this]
theorem EX(u:∀x∈ys,∀k∈fN h x,kD h x k∈ys){i j:Nat}(a:Rc (eF h ys) i j):∀{x y:Sd},ys[i]?=some x->ys[j]?=some y->x=y\/TS (Fl h) x y:=by
 induction a with
 |refl=>intro x y g c;rw[g]at c;cases c;exact .inl rfl
 |@step i j p hp _ ih=>
  intro x y g c;obtain⟨k,t⟩:=p;obtain⟨l,e⟩:=(MG g).mp hp;have o:=u x (ay g) k l;have q:ys[t]?=some (kD h x k):=by rw[<- e];exact vN o
  rcases ih q c with z|z
  ·exact .inr (.one ⟨k,l,z⟩)
  ·exact .inr (.more ⟨k,l,rfl⟩ z)
theorem MQ(l:∀x∈ys,∀k∈fN h x,kD h x k∈ys){i:Nat}(c:ys[i]?=some x)(q:vK (eF h ys) i):TS (Fl h) x x:=by
 obtain⟨⟨k,t⟩,o,r⟩:=q;obtain⟨g,e⟩:=(MG c).mp o;have u:=l x (ay c) k g;have v:ys[t]?=some (kD h x k):=by rw[<- e];exact vN u
 rcases EX l r v c with z|z
 ·exact .one ⟨k,g,z⟩
 ·exact .more ⟨k,g,rfl⟩ z
end
section
variable{ys R:List Sd}{N:Sd->List (Nat×Sd)}{x y z:Sd}
noncomputable def uH(N:Sd->List (Nat×Sd))(R:List Sd)(z:Sd):Nat:=((N z).filter λp=>decide (p.2∉R)).length
theorem Qp(h:uH N R z=0):∀p∈N z,p.2∈R:=λp c=>eD λg=>by have:p∈(N z).filter λp=>decide (p.2∉R):=ff.mpr ⟨c,bF g⟩;rw[dW.mp h]at this;cases this
noncomputable def Hc(N:Sd->List (Nat×Sd))(x z:Sd):Nat:=((N z).filter λp=>decide (p.2=x)).length
theorem Mq(g:x∉R):uH N R z=uH N (R++[x]) z+Hc N x z:=by
 unfold uH Hc;generalize N z=l
 induction l with
 |nil=>rfl
 |cons p l ih=>
  by_cases e:p.2=x
  ·have c:p.2∉R:=by rw[e];exact g
   have h:¬ p.2∉R++[x]:=by rw[e];simp
   rw[gI (by simpa using c),e_ (by simpa using h),gI (by simpa using e)];simp only[bp];ext
  ·by_cases c:p.2∈R
   ·rw[e_ (by simpa using c),e_ (by simp[c]),e_ (by simpa using e)];exact ih
   ·rw[gI (by simpa using c),gI (by simp[c,e]),e_ (by simpa using e)];simp only[bp];ext
noncomputable def oo(ys:List Sd)(N:Sd->List (Nat×Sd))(x:Sd):List Sd:=ys.flatMap λz=>((N z).filter λp=>decide (p.2=x)).map λ_=>z
theorem Mb(g:ys.Nodup):(oo ys N x).count z=if z∈ys then Hc N x z else 0:=by
 unfold oo
 induction ys with
 |nil=>rfl
 |cons y ys ih=>
  rw[fO]at g;rw[fV,pQ,ih g.2];have h:∀(l:List (Nat×Sd)),(l.map λ_=>y).count z=if z=y then l.length else 0:=λl=>by
   induction l with
   |nil=>simp
   |cons p l ihl=>
    rw[aI,List.count_cons,ihl];by_cases e:z=y
    ·subst e;simp
    ·have:(y == z)=false:=by simp;exact λq=>e q.symm
     simp[e,this]
  rw[h];by_cases e:z=y
  ·subst e;rw[aE rfl,aA g.1,aE (by simp)];rfl
  ·rw[aA e];by_cases c:z∈ys
   ·rw[aE c,aE (by simp[c]),qd]
   ·rw[aA c,aA (by simp[c,e])]
end
open PySem (Str)
section
variable{s u:a_}{Q:D->a_->Prop}{l:Loc}{ys zs:List Sd}{N:Sd->List (Nat×Sd)}{F:Sd->D}{nd:Nat}
theorem GB{a:CE}{I:Wk->a_->Prop}: wp (tU a l) I s=wp (a l) (λx g=>match x with
  | .dic n=>wp (getDc n) (λp c=>p.1=true/\I ⟨p.2.map (·.1),t9 n (p.2.map (·.1))⟩ c) g
  |_=>False) s:=by
 unfold tU;rw[dF];congr 1;funext x s1;cases x<;>first|exact gi|(dsimp only;rw[dF];congr 1;funext p c;rw[dB,ck])
theorem Oh{a:CE}{I:Wk->a_->Prop}: wp (o8 a l) I s=wp (a l) (λx g=>match x with
  | .dic n=>wp (getDc n) (λp c=>p.1=true/\I ⟨p.2.map λq=>.tup [q.1,q.2],λs=>s[n]?=some (.dct true p.2)⟩ c) g
  |_=>False) s:=by
 unfold o8;rw[dF];congr 1;funext x s1;cases x<;>first|exact gi|(dsimp only;rw[dF];congr 1;funext p c;rw[dB,ck])
theorem Ae:(fC ys F).map (·.1)=ys.map bO:=by unfold fC;rw[db];rfl
theorem O8:∀{ws zs:List Sd},(zs++ws).Nodup->tS (fC zs F) (ws.map λx=>(bO x,F x))=fC (zs++ws) F
 |[],zs,_=>by rw[bn];rfl
 |w::ws,zs,hn=>by
  have g:w∉zs:=λz=>by rw[cn]at hn;exact hn.2.2 w z w (by simp) rfl
  have e:kG (fC zs F) (bO w) (F w)=fC (zs++[w]) F:=by
   rw[Bv,aA g];congr 1;funext y;unfold sB;split
   ·rename_i h;rw[h]
   ·rfl
  have c:(zs++[w]++ws).Nodup:=by rw[aX];exact hn
  have:=O8 (ws:=ws) (zs:=zs++[w]) c;rw[aX]at this
  show tS (kG (fC zs F) (bO w) (F w)) (ws.map λx=>(bO x,F x))=_;rw[e,this];rfl
theorem IR:∀ws:List Sd,sC (ws.map λx=>D.tup [bO x,F x])=some (ws.map λx=>(bO x,F x))
 |[]=>rfl
 |w::ws=>by rw[aI,sC,IR ws];unfold Gu;dsimp only;rw[aE (py w)];rfl
theorem OW(c:ys.Nodup)(g:ys.length<=1000):wp (kI (ys.map λx=>D.tup [bO x,F x])) Q s=Q (.dic s.length) (s++[.dct true (fC ys F)]):=by unfold kI;rw[IR];dsimp only;have e:tS [] (ys.map λx=>(bO x,F x))=fC ys F:=O8 (zs:=[]) c;rw[dB,e,ae];have:wp (n0 true (fC ys F)) Q s=Q (.dic s.length) (s++[.dct true (fC ys F)]):=cN rfl;rw[this];exact propext ⟨λz=>z.2,λz=>⟨g,z⟩⟩
theorem Nn{A:List D->a_->Prop}(B:ys.Nodup)(g:s[nd]?=some (.dct true (fC ys F)))(q:A (ys.map λx=>D.tup [bO x,.ref (s.length+ys.idxOf x)]) (s++aZ ys.length (MO.lst []))):
  wp (collect (aP 0) bT (cV (az (ai 0) (az (dk (eZ bh)) bh))) (t9 nd (ys.map bO)) (ys.map bO) [none]) A s:=by
 have o:2<=eS:=gQ (by ext);refine Gz (λi c v=>v=s++aZ i (MO.lst [])/\c=(ys.take i).map λx=>D.tup [bO x,.ref (s.length+ys.idxOf x)]) (λi c v w=>?_) ⟨by simp,rfl⟩ (λi d c v hd w=>?_) (λc v w=>?_)
 ·rw[w.1];exact⟨fC ys F,by rw[aw (f_ g)];exact g,Ae⟩
 ·obtain⟨rfl,rfl⟩:=w;rw[aj]at hd;cases h:ys[i]? with
  |none=>rw[h]at hd;cases hd
  |some x=>
   rw[h]at hd;cases hd;simp![bu,o];refine⟨by rw[aX,<- vq,iF],?_⟩;have E:ys.idxOf x=i:=by have:=vN (ay h);have C:=cc.mpr (ay h);exact (e8 C B).mp (this.trans h.symm)
   rw[cK,h,aO,au,eQ]
   show _=_++[D.tup [bO x,.ref (s.length+ys.idxOf x)]]
   rw[E]
 ·obtain⟨rfl,rfl⟩:=w;rw[ae,bJ];exact q
end
open PySem (Str)
section
variable{s u:a_}{Q:D->a_->Prop}{R:qj->a_->Prop}{l:Loc}{ys zs:List Sd}{N:Sd->List (Nat×Sd)}{nd nb nl bs:Nat}{x y:Sd}
def nD(p:Nat×Sd):D:=.tup [.int (p.1:Nat),bO p.2]
def GN(ys:List Sd)(N:Sd->List (Nat×Sd))(nd:Nat)(u:a_):Prop:=∃c:Sd->Nat,u[nd]?=some (.dct true (fC ys λx=>.ref (c x)))/\∀x∈ys,u[c x]?=some (.lst ((N x).map nD))
def BN(ys:List Sd)(B:Sd->List Sd)(bs nb:Nat)(u:a_):Prop:=u[nb]?=some (.dct true (fC ys λx=>.ref (bs+ys.idxOf x)))/\∀y∈ys,u[bs+ys.idxOf y]?=some (.lst ((B y).map bO))
def wS(zs:List Sd)(N:Sd->List (Nat×Sd))(x:Sd)(q:Nat)(y:Sd):List Sd:=oo zs N y++(((N x).take q).filter λp=>decide (p.2=y)).map λ_=>x
theorem Lx{q:Nat}{p:Nat×Sd}(c:(N x)[q]?=some p):wS zs N x (q+1) y=wS zs N x q y++(if p.2=y then [x] else []):=by
 unfold wS;rw[cK,c]
 show oo zs N y++nZ _ (F5 _ ((N x).take q++[p]))=_;rw[fG,aO,<- aX];congr 1;by_cases e:p.2=y
 ·simp[e]
 ·simp[e]
theorem U3:wS zs N x (N x).length y=oo (zs++[x]) N y:=by unfold wS oo;rw[bJ,iG];simp
theorem Jv(o:x∈ys)(g:y∈ys)(h:x≠y):ys.idxOf x≠ys.idxOf y:=λe=>by have c:=vN o;have q:=vN g;rw[e,q]at c;exact h (aN c).symm
noncomputable def iZ(ys:List Sd)(N:Sd->List (Nat×Sd)):Nat:=(ys.map λx=>(N x).length).sum
theorem Nw(y:Sd):∀zs:List Sd,(oo zs N y).length<=iZ zs N
 |[]=>by simp[oo,iZ]
 |z::zs=>by have c:=Nw y zs;unfold oo iZ at c ⊢;rw[fV,au,ae,aI,cY];have:=dM (λp:Nat×Sd=>decide (p.2=y)) (N z);ext
theorem Ol:iZ (zs++[x]) N=iZ zs N+(N x).length:=by unfold iZ;simp
theorem L0{i:Nat}:∀{ys:List Sd},iZ (ys.take i) N<=iZ ys N:=by
 intro ys;have:ys=ys.take i++ys.drop i:=(uU i ys).symm;have c:iZ ys N=iZ (ys.take i) N+iZ (ys.drop i) N:=by
  conv=>lhs;rw[this]
  unfold iZ;rw[aO,kU]
 ext
theorem X2{r:Nat}{I H g c:Option D}(hx:x∈ys)(cl:∀p∈N x,p.2∈ys)(ht:iZ zs N+(N x).length<=1000)(hnb:bs+ys.length<=nb)(gr:s[r]?=some (.lst ((N x).map nD)))(hr:r < bs)(U:dE s u)(hb0:s.length<=bs)(B:BN ys (oo zs N) bs nb u)
  (hq:∀g c v,BN ys (oo (zs++[x]) N) bs nb v->dE s v->(∀k,(k < bs\/nb < k)->v[k]?=u[k]?)->R (.next [I,some (.dic nb),H,some (bO x),some (.ref r),g,c,none,none]) v):
  wp (md (fF 2 (ce (aP 5) (ce (aP 6) gk))) (aM (gL (cL (c2 aU (ai 1) (ai 6)) (ai 3))) aS) (io r ((N x).map nD)) ((N x).map nD) [I,some (.dic nb),H,some (bO x),some (.ref r),g,c,none,none]) R u:=by
 refine qJ (λq l v=>∃(g c:Option D),l=[I,some (.dic nb),H,some (bO x),some (.ref r),g,c,none,none]/\BN ys (wS zs N x q) bs nb v/\dE s v/\∀k,(k < bs\/nb < k)->v[k]?=u[k]?) (λ_ _ _ w=>by obtain⟨_,_,_,_,e,_⟩:=w;exact e.at_ gr)
  ⟨_,_,rfl,by have e:wS zs N x 0=oo zs N:=by { funext y;unfold wS;simp };rw[e];exact B,U,λ_ _=>rfl⟩ (λRw1 q d l v up1 Y hd G=>?_) (λl v G=>?_)
 ·obtain⟨g,c,el,⟨T,o⟩,C,E⟩:=G;subst el;rw[aj]at hd;cases ep:(N x)[q]? with
  |none=>rw[ep]at hd;cases hd
  |some p=>
   rw[ep]at hd;cases hd;have h:=cl p (ay ep);have H:=cc.mpr h;have l:∀Q,wp (itemK nb (bO p.2)) Q v=Q (.ref (bs+ys.idxOf p.2)) v:=λQ=>v8 T (py _) (by rw[v6,aE h]);unfold nD;simp![↓l,↓dR (o p.2 h),↓mE (o p.2 h)];have u:=(ac.mp ep).1;have O:(wS zs N x q p.2).length < 1000:=by unfold wS;rw[au,ae];have J:=Nw (N:=N) p.2 zs;have I:=dM (λt:Nat×Sd=>decide (t.2=p.2)) ((N x).take q);rw[bE]at I;ext
   refine⟨nB (by rw[ae];ext),up1 ⟨_,_,rfl,⟨by rw[af (by ext)];exact T,λy L=>?_⟩,C.put (by ext),λk B=>by rw[af (by ext)];exact E k B⟩⟩;by_cases e:p.2=y
   ·subst e;rw[ao (f_ (o p.2 h)),Lx ep,aE rfl,aO];rfl
   ·rw[af (by have:=Jv h L e;ext),Lx ep,aA e,bn];exact o y L
 ·obtain⟨g,c,el,J,C,E⟩:=G;subst el;rw[ae]at J;have e:wS zs N x (N x).length=oo (zs++[x]) N:=funext λy=>U3;rw[e]at J;exact hq _ _ v J C E
end
open PySem (Str)
section
variable{s u:a_}{Q:D->a_->Prop}{R:qj->a_->Prop}{l:Loc}{ys zs:List Sd}{N:Sd->List (Nat×Sd)}{nd nb nl bs:Nat}{x y:Sd}
theorem W3:(bH ys.length).map (λi=>ys[i]?)=ys.map some:=by
 apply eC;intro k;rw[aj,aj];by_cases c:k < ys.length
 ·rw[gB c,ag c];simp[c]
 ·rw[bX (by simp;ext),bX (l:=ys) (by ext)];rfl
theorem Te{P:Sd->Bool}:((bH ys.length).filter λi=>(ys[i]?.map P).getD false).map (λi=>(ys[i]?.map bO).getD .non)=(ys.filter P).map bO:=by
 have e:((bH ys.length).filter λi=>(ys[i]?.map P).getD false).map (λi=>(ys[i]?.map bO).getD .non)=(((bH ys.length).map (λi=>ys[i]?)).filter λo=>(o.map P).getD false).map λo=>(o.map bO).getD .non:=by rw[zP,db];rfl
 rw[e,W3,zP,db];rfl
theorem y_:∀{R U:List Sd},R.Nodup->(∀x∈R,x∈U)->R.length<=U.length
 |[],_,_,_=>bu _
 |x::R,U,hn,h=>by rw[fO]at hn;have g:=h x (by simp);have:=y_ (R:=R) (U:=U.erase x) hn.2 λy c=>(List.mem_erase_of_ne (λe:y=x=>hn.1 (by rw[<- e];exact c))).mpr (h y (by simp[c]));rw[tp g]at this;have:=List.length_pos_of_mem g;simp only[bp];ext
structure KI(ys:List Sd)(N:Sd->List (Nat×Sd))(R:List Sd)(t:Nat)(L:Sd->Nat):Prop where
 nd:R.Nodup
 inn:∀z∈R,z∈ys
 lft:∀z∈ys,L z=uH N (R.take t) z
 zer:∀z∈ys,(L z=0↔z∈R)
 rk:∀(i:Nat)(z:Sd),R[i]?=some z->∀p∈N z,p.2∈R.take i
structure KQ(ys:List Sd)(N:Sd->List (Nat×Sd))(R:List Sd)(t:Nat)(x:Sd)(q:Nat)(A:List Sd)(L:Sd->Nat):Prop where
 nd:(R++A).Nodup
 inn:∀z∈R++A,z∈ys
 lft:∀z∈ys,L z+((oo ys N x).take q).count z=uH N (R.take t) z
 zer:∀z∈ys,(L z=0↔z∈R++A)
 new:∀z∈A,∀p∈N z,p.2∈R.take (t+1)
theorem KI.go{R:List Sd}{t:Nat}{L:Sd->Nat}(K:KI ys N R t L):KQ ys N R t x 0 [] L:=
 ⟨by rw[bn];exact K.nd,by rw[bn];exact K.inn,λz hz=>by rw[K.lft z hz];simp,λz hz=>by rw[bn];exact K.zer z hz,by simp⟩
theorem KQ.end_{R A:List Sd}{t:Nat}{L:Sd->Nat}(G:ys.Nodup)(E:∀(i:Nat)(z:Sd),R[i]?=some z->∀p∈N z,p.2∈R.take i)(v:R[t]?=some x)(K:KQ ys N R t x (oo ys N x).length A L):KI ys N (R++A) (t+1) L:=by
 have I:=(ac.mp v).1;have C:(R++A).take (t+1)=R.take t++[x]:=by rw[gP (by ext),cK,v];rfl
 have o:R.Nodup:=(cn.mp K.nd).1;have q:x∉R.take t:=λz=>by have:=FG o v z;ext
 refine⟨K.nd,K.inn,λz hz=>?_,K.zer,λi z c p B=>?_⟩
 ·have g:=K.lft z hz;rw[bJ,Mb G,aE hz,Mq q]at g;rw[C];ext
 ·by_cases h:i < R.length
  ·rw[aw h]at c;rw[gP (by ext)];exact E i z c p B
  ·rw[aW (by ext)]at c;have g:=K.new z (ay c) p B;have H:R.take (t+1)=(R++A).take (t+1):=by rw[gP (by ext)]
   rw[H]at g;exact (List.take_subset_take_left _ (by ext)) g
theorem KQ.step{R A:List Sd}{t q:Nat}{L:Sd->Nat}{z:Sd}(O:ys.Nodup)(G:R[t]?=some x)(K:KQ ys N R t x q A L)(hz:(oo ys N x)[q]?=some z)(g:z∈ys):
  1<=L z/\KQ ys N R t x (q+1) (if L z-1=0 then A++[z] else A) (λy=>if y=z then L z-1 else L y):=by
 have u:=(ac.mp G).1;have C:R.Nodup:=(cn.mp K.nd).1;have E:x∉R.take t:=λy=>by have:=FG C G y;ext
 have H:(oo ys N x).take (q+1)=(oo ys N x).take q++[z]:=by rw[cK,hz];rfl
 have Q:((oo ys N x).take (q+1)).count z<=Hc N x z:=by have J:=Mb (N:=N) (x:=x) (z:=z) O;rw[aE g]at J;rw[<- J];exact List.Sublist.count_le z (xm _ _)
 have c1:((oo ys N x).take (q+1)).count z=((oo ys N x).take q).count z+1:=by rw[H,pQ];simp
 have Y:=Mq (N:=N) (z:=z) E;have l:=K.lft z g;have U:1<=L z:=by ext
 have o:z∉R++A:=λy=>by have:=(K.zer z g).mpr y;ext
 have mem:∀y,(y∈R++(if L z-1=0 then A++[z] else A))↔(y∈R++A\/(L z-1=0/\y=z)):=λy=>by
  split
  ·rename_i e;rw[<- aX,aB,ax];simp[e]
  ·rename_i e;simp[e]
 refine⟨U,?_,λy c=>?_,λy c=>?_,λy c=>?_,λy c p v=>?_⟩
 ·split
  ·rw[<- aX,cn];exact⟨K.nd,by simp,λa T b I e=>by rw[ax]at I;subst I e;exact o T⟩
  ·exact K.nd
 ·rcases (mem y).mp c with h|⟨_,rfl⟩
  ·exact K.inn y h
  ·exact g
 ·by_cases e:y=z
  ·subst e;rw[aE rfl,c1];ext
  ·rw[aA e,H,pQ];have:[z].count y=0:=by rw[List.count_eq_zero];simp;exact e
   rw[this];exact K.lft y c
 ·rw[mem y];by_cases e:y=z
  ·subst e;rw[aE rfl];exact⟨λh=>.inr ⟨h,rfl⟩,λh=>h.elim (λw=>ba w o) λw=>w.1⟩
  ·rw[aA e,K.zer y c];exact⟨.inl,λh=>h.elim id λw=>ba w.2 e⟩
 ·by_cases e:L z-1=0
  ·rw[aE e]at c;rcases aB.mp c with h|h
   ·exact K.new y h p v
   ·rw[ax.mp h]at v;have B:R.take (t+1)=R.take t++[x]:=by rw[cK,G];rfl
    rw[B];exact Qp (by ext) p v
  ·rw[aA e]at c;exact K.new y c p v
theorem MD(hn:ys.Nodup)(hl:ys.length<=324)(cl:∀x∈ys,∀p∈N x,p.2∈ys)(ht:iZ ys N<=1000)(g:GN ys N nd s)
  (hq:∀(row:List Sd)(r:Nat)(u:a_),row.Nodup->(∀(i:Nat)(z:Sd),row[i]?=some z->∀p∈N z,p.2∈row.take i)->(∀z∈row,z∈ys)->u[r]?=some (.lst (row.map bO))->s.length<=r->dE s u->Q (.ref r) u):wp (je [.dic nd]) Q s:=by
 obtain⟨rF,Y,g2⟩:=g;have lnd:=f_ Y
 (simp![je];simp![jQ,↓GB,↓tQ Y,gX,Ae,ae])
 refine⟨gQ (by ext),?_⟩;refine Nn hn Y ?_;rw[OW hn (by ext)];simp![];have e1:(s++aZ ys.length (MO.lst [])).length=s.length+ys.length:=by simp
 have e2:(s++aZ ys.length (MO.lst [])++[MO.dct true (fC ys λx=>D.ref (s.length+ys.idxOf x))]).length=s.length+ys.length+1:=by simp;ext
 rw[e1,e2];have a1:(s++aZ ys.length (MO.lst [])++[MO.dct true (fC ys λx=>D.ref (s.length+ys.idxOf x))]++[MO.dct true []])[s.length+ys.length+1]?=some (.dct true (fC (ys.take 0) λx=>.int ((N x).length:Nat))):=by rw[<- e2];exact mR
 have a2:BN ys (oo (ys.take 0) N) s.length (s.length+ys.length) (s++aZ ys.length (MO.lst [])++[MO.dct true (fC ys λx=>D.ref (s.length+ys.idxOf x))]++[MO.dct true []]):=
  ⟨m4 (by rw[<- e1];exact mR),λy c=>m4 (m4 (Ie (cc.mpr c)))⟩
 have a3:dE s (s++aZ ys.length (MO.lst [])++[MO.dct true (fC ys λx=>D.ref (s.length+ys.idxOf x))]++[MO.dct true []]):=⟨aZ ys.length (MO.lst [])++[MO.dct true (fC ys λx=>D.ref (s.length+ys.idxOf x))]++[MO.dct true []],by simp⟩
 generalize s++aZ ys.length (MO.lst [])++[MO.dct true (fC ys λx=>D.ref (s.length+ys.idxOf x))]++[MO.dct true []]=s1 at *;simp![↓Oh,↓tQ (a3.at_ Y)];refine qJ (λi l v=>∃(h O H E:Option D),l=[some (.dic nd),some (.dic (s.length+ys.length)),some (.dic (s.length+ys.length+1)),h,O,H,E,none,none]/\v[s.length+ys.length+1]?=some (.dct true (fC (ys.take i) λx=>.int ((N x).length:Nat)))/\BN ys (oo (ys.take i) N) s.length (s.length+ys.length) v/\dE s v) (λ_ _ _ w=>by obtain⟨_,_,_,_,_,_,_,e⟩:=w;exact e.at_ Y)
  ⟨_,_,_,_,rfl,a1,a2,a3⟩ (λRr i d l v up rt hd C=>?_) (λl v C=>?_)
 ·obtain⟨h,O,H,E,el,b1,b2,b3⟩:=C;subst el;unfold fC at hd;rw[db,aj]at hd;cases o:ys[i]? with
  |none=>rw[o]at hd;cases hd
  |some x=>
   rw[o]at hd;have T:d=D.tup [bO x,.ref (rF x)]:=(aN hd).symm;subst T;have I:=ay o;have l:ys.take (i+1)=ys.take i++[x]:=by rw[cK,o];rfl
   have q:x∉ys.take i:=λz=>by have:=FG hn o z;ext
   have g:=g2 x I;have J:=f_ g;have hi:=(ac.mp o).1;have G:∀w Q,wp (storeK (s.length+ys.length+1) (bO x) w) Q v=Q () (v.set (s.length+ys.length+1) (.dct true (fC (ys.take i++[x]) (sB (λx=>.int ((N x).length:Nat)) x w)))):=λw Q=>by rw[zY b1 (py x) (nB (by rw[yJ,bE];ext)),Bv,aA q]
   simp![↓dR (b3.at_ g),↓G,ae];have es:sB (λx=>D.int ((N x).length:Nat)) x (.int ((N x).length:Nat))=λx=>.int ((N x).length:Nat):=by
    funext y;unfold sB;split
    ·rename_i z;rw[z]
    ·rfl
   rw[es];have c1:(v.set (s.length+ys.length+1) (MO.dct true (fC (ys.take i++[x]) λx=>.int ((N x).length:Nat))))[s.length+ys.length+1]?=some (.dct true (fC (ys.take i++[x]) λx=>.int ((N x).length:Nat))):=ao (f_ b1);have c2:BN ys (oo (ys.take i) N) s.length (s.length+ys.length) (v.set (s.length+ys.length+1) (MO.dct true (fC (ys.take i++[x]) λx=>.int ((N x).length:Nat)))):=
    ⟨by rw[af (by ext)];exact b2.1,λy c=>by rw[af (by have:=cc.mpr c;ext)];exact b2.2 y c⟩
   have u:dE s (v.set (s.length+ys.length+1) (MO.dct true (fC (ys.take i++[x]) λx=>.int ((N x).length:Nat)))):=b3.put (by ext);generalize v.set (s.length+ys.length+1) (MO.dct true (fC (ys.take i++[x]) λx=>.int ((N x).length:Nat)))=v1 at *;rw[dR (u.at_ g)];have t1:iZ (ys.take i) N+(N x).length<=1000:=by have:=L0 (N:=N) (i:=i+1) (ys:=ys);rw[l,Ol]at this;ext
   refine X2 I (cl x I) t1 (ar _) g J u (ar _) c2 λH E v2 U B L=>?_;simp![];refine up ⟨_,_,_,_,rfl,?_,by rw[l];exact U,B⟩;rw[L _ (.inr (by ext)),l];exact c1
 ·obtain⟨h,O,H,E,el,b1,b2,b3⟩:=C;subst el;have en:((fC ys λx=>D.ref (rF x)).map λq=>D.tup [q.1,q.2]).length=ys.length:=by rw[ae,yJ]
  rw[en,bJ]at b1 b2;simp![↓GB,↓tQ (b3.at_ Y),gX,Ae,ae];refine⟨gQ (by ext),?_⟩;have u:∀(A:List D->a_->Prop),wp (collect (aP 0) (cA (c2 lR (c2 aU (ai 1) (ai 0)) (aR (D.int 0)))) (ai 0) (t9 nd (ys.map bO)) (ys.map bO) [none,some (.dic (s.length+ys.length+1))]) A v=A ((ys.filter λx=>decide ((N x).length=0)).map bO) v:=λA=>by
   rw[Mx (p:=λi=>(ys[i]?.map λx=>decide ((N x).length=0)).getD false) (f:=λi=>(ys[i]?.map bO).getD .non) (λl=>∃y,l=[y,some (.dic (s.length+ys.length+1))]) ⟨_,b3.at_ Y,Ae⟩ ⟨_,rfl⟩ (λi d l hd hI=>?_),ae,Te];obtain⟨y,rfl⟩:=hI;rw[aj]at hd;cases o:ys[i]? with
   |none=>rw[o]at hd;cases hd
   |some x=>
    rw[o]at hd;cases hd;have q6:∀Q,wp (itemK (s.length+ys.length+1) (bO x)) Q v=Q (.int ((N x).length:Nat)) v:=λQ=>v8 b1 (py x) (by rw[v6,aE (ay o)]);refine⟨[some (bO x),some (.dic (s.length+ys.length+1))],λG=>by simp![],⟨_,rfl⟩,λT=>?_,λQ=>by simp![eE,fA]⟩;simp![↓q6,eE,fA];have eb:(((N x).length:Int) == 0)=decide ((N x).length=0):=by
     by_cases e:(N x).length=0
     ·rw[e];rfl
     ·rw[aT e,beq_eq_false_iff_ne];ext
    rw[eb]
  rw[u];simp![];have lv:=f_ b1;have w1:(v++[MO.lst ((ys.filter λx=>decide ((N x).length=0)).map bO)])[v.length]?=some (.lst ((ys.filter λx=>decide ((N x).length=0)).map bO)):=mR;have w2:=m4 (b:=MO.lst ((ys.filter λx=>decide ((N x).length=0)).map bO)) b1;have w3:BN ys (oo ys N) s.length (s.length+ys.length) (v++[MO.lst ((ys.filter λx=>decide ((N x).length=0)).map bO)]):=⟨m4 b2.1,λy c=>m4 (b2.2 y c)⟩
  have w4:dE s (v++[MO.lst ((ys.filter λx=>decide ((N x).length=0)).map bO)]):=b3.snoc _;have K0:KI ys N (ys.filter λx=>decide ((N x).length=0)) 0 (λx=>(N x).length):=by
   refine⟨hn.filter _,λz hz=>(ff.mp hz).1,λz _=>?_,λz hz=>?_,λi z hi p hp=>?_⟩
   ·unfold uH;rw[List.filter_eq_self.mpr λp _=>by simp]
   ·rw[ff];simp[hz]
   ·have:=of_decide_eq_true (ff.mp (ay hi)).2;rw[dW.mp this]at hp;cases hp
  generalize hnr:v.length=nr at *;generalize v++[MO.lst ((ys.filter λx=>decide ((N x).length=0)).map bO)]=v1 at *;refine yH (λl v=>∃(R:List Sd)(t:Nat)(L:Sd->Nat)(h O H E:Option D),l=[some (.dic nd),some (.dic (s.length+ys.length)),some (.dic (s.length+ys.length+1)),h,O,H,E,some (.ref nr),some (.int (t:Nat))]/\KI ys N R t L/\v[nr]?=some (.lst (R.map bO))/\v[s.length+ys.length+1]?=some (.dct true (fC ys λx=>.int (L x:Nat)))/\BN ys (oo ys N) s.length (s.length+ys.length) v/\dE s v)
   (λ(l:Loc)(_:a_)=>match (l[8]?:Option (Option D)) with
    |some (some (D.int i))=>(1000-i).toNat
    |_=>0) ⟨_,0,_,_,_,_,_,rfl,K0,w1,w2,w3,w4⟩ (λRw l v upw rtw C=>?_)
  obtain⟨R,t,L,h,O,H,E,el,K,d1,d2,d3,d4⟩:=C;subst el;have hR:R.length<=324:=bW (y_ K.nd K.inn) hl;simp![↓dR d1,ae];by_cases ht':t < R.length
  ·rw[aE (by ext)];obtain⟨x,I⟩:∃x,R[t]?=some x:=⟨_,ag ht'⟩
   have U:=K.inn x (ay I);have r2:∀(Q:D->a_->Prop)s,wp (cB (R.map bO) ((t:Nat):Int)) Q s=Q (bO x) s:=λQ s=>pX (by rw[aj,I];rfl);have r3:∀Q,wp (itemK (s.length+ys.length) (bO x)) Q v=Q (.ref (s.length+ys.idxOf x)) v:=λQ=>v8 d3.1 (py x) (by rw[v6,aE U]);simp![↓dR d1,↓r2,↓r3,↓dR (d3.2 x U)];refine qJ (λq l v=>∃(A:List Sd)(L:Sd->Nat)(h:Option D),l=[some (.dic nd),some (.dic (s.length+ys.length)),some (.dic (s.length+ys.length+1)),h,O,H,E,some (.ref nr),some (.int (t:Nat))]/\KQ ys N R t x q A L/\v[nr]?=some (.lst ((R++A).map bO))/\v[s.length+ys.length+1]?=some (.dct true (fC ys λx=>.int (L x:Nat)))/\BN ys (oo ys N) s.length (s.length+ys.length) v/\dE s v) (λ_ _ _ w=>by obtain⟨_,_,_,_,_,_,_,e,_⟩:=w;exact e.2 x U)
    ⟨[],L,_,rfl,K.go,by rw[bn];exact d1,d2,d3,d4⟩ (λRr q d l v up rt hd C=>?_) (λl v C=>?_)
   ·obtain⟨A,L,h,el,J,f1,o,G,f4⟩:=C;subst el;rw[aj]at hd;cases T:(oo ys N x)[q]? with
    |none=>rw[T]at hd;cases hd
    |some z=>
     rw[T]at hd;cases hd;have B:z∈ys:=by have:=ay T;unfold oo at this;obtain⟨w,hw,hm⟩:=iB.mp this;obtain⟨_,_,rfl⟩:=bz.mp hm;exact hw
     obtain⟨hL,Y⟩:=J.step hn I T B;have hRA:(R++A).length<=324:=bW (y_ J.nd J.inn) hl;have t1:∀Q,wp (itemK (s.length+ys.length+1) (bO z)) Q v=Q (.int (L z:Nat)) v:=λQ=>v8 o (py z) (by rw[v6,aE B]);have t2:∀w Q,wp (storeK (s.length+ys.length+1) (bO z) w) Q v=Q () (v.set (s.length+ys.length+1) (.dct true (fC ys (sB (λx=>.int (L x:Nat)) z w)))):=λw Q=>by rw[zY o (py z) (nB (by rw[yJ];ext)),Bv,aE B]
     simp![↓t1,↓t2];have es:sB (λx=>D.int (L x:Nat)) z (.int ((L z:Nat)-1))=λy=>D.int ((if y=z then L z-1 else L y:Nat):Int):=by
      funext y;unfold sB;split
      ·congr 1;ext
      ·rfl
     rw[es];have E:(v.set (s.length+ys.length+1) (MO.dct true (fC ys λy=>D.int ((if y=z then L z-1 else L y:Nat):Int))))[s.length+ys.length+1]?=some (.dct true (fC ys λy=>D.int ((if y=z then L z-1 else L y:Nat):Int))):=ao (f_ o);have g:s.length+ys.length+1≠nr:=by ext
     have u:(v.set (s.length+ys.length+1) (MO.dct true (fC ys λy=>D.int ((if y=z then L z-1 else L y:Nat):Int))))[nr]?=some (.lst ((R++A).map bO)):=by rw[af g];exact f1
     have l:BN ys (oo ys N) s.length (s.length+ys.length) (v.set (s.length+ys.length+1) (MO.dct true (fC ys λy=>D.int ((if y=z then L z-1 else L y:Nat):Int)))):=
      ⟨by rw[af (by ext)];exact G.1,λy c=>by rw[af (by have:=cc.mpr c;ext)];exact G.2 y c⟩
     have H:dE s (v.set (s.length+ys.length+1) (MO.dct true (fC ys λy=>D.int ((if y=z then L z-1 else L y:Nat):Int)))):=f4.put (by ext);generalize v.set (s.length+ys.length+1) (MO.dct true (fC ys λy=>D.int ((if y=z then L z-1 else L y:Nat):Int)))=v2 at *;have U:∀Q,wp (itemK (s.length+ys.length+1) (bO z)) Q v2=Q (.int ((L z-1:Nat):Int)) v2:=λQ=>v8 E (py z) (by rw[v6,aE B,aE rfl]);simp![↓U];by_cases O:L z-1=0
     ·rw[aE O]at Y;rw[aE (by ext)];simp![↓dR u,↓mE u,ae];refine⟨nB (by ext),up ⟨A++[z],_,_,rfl,Y,?_,by rw[af (bC g)];exact E,⟨by rw[af (by ext)];exact l.1,λy c=>by rw[af (by have:=cc.mpr c;ext)];exact l.2 y c⟩,H.put (by ext)⟩⟩;rw[ao (f_ u),<- aX,aO (l₂:=[z])];rfl
     ·rw[aA O]at Y;rw[aA (by ext)];exact up ⟨A,_,_,rfl,Y,u,E,l,H⟩
   ·obtain⟨A,L,h,el,J,f1,o,G,f4⟩:=C;subst el;rw[ae]at J;simp![];refine upw ⟨R++A,t+1,L,_,_,_,_,rfl,J.end_ hn K.rk I,f1,o,G,f4⟩ ?_
    show (1000-((t:Int)+1)).toNat < (1000-(t:Int)).toNat;ext
  ·rw[aA (by ext)];exact hq R nr v K.nd K.rk K.inn d1 (by ext) d4
end
open PySem (Str)
section
variable{s u:a_}{Q:D->a_->Prop}{R:qj->a_->Prop}{l:Loc}{ys zs:List Sd}{N:Sd->List (Nat×Sd)}{nd nb nl bs:Nat}{x y:Sd}{h:Hs}
noncomputable def qV(ys:List Sd)(N:Sd->List (Nat×Sd))(y:Sd):List (Nat×Sd):=ys.flatMap λx=>((N x).filter λp=>decide (p.2=y)).map λp=>(p.1,x)
def wB(zs:List Sd)(N:Sd->List (Nat×Sd))(x:Sd)(q:Nat)(y:Sd):List (Nat×Sd):=qV zs N y++(((N x).take q).filter λp=>decide (p.2=y)).map λp=>(p.1,x)
def BP(ys:List Sd)(B:Sd->List (Nat×Sd))(bs nb:Nat)(u:a_):Prop:=u[nb]?=some (.dct true (fC ys λx=>.ref (bs+ys.idxOf x)))/\∀y∈ys,u[bs+ys.idxOf y]?=some (.lst ((B y).map nD))
theorem Ml{q:Nat}{p:Nat×Sd}(c:(N x)[q]?=some p):wB zs N x (q+1) y=wB zs N x q y++(if p.2=y then [(p.1,x)] else []):=by
 unfold wB;rw[cK,c]
 show qV zs N y++nZ _ (F5 _ ((N x).take q++[p]))=_;rw[fG,aO,<- aX];congr 1;by_cases e:p.2=y
 ·simp[e]
 ·simp[e]
theorem UC:wB zs N x (N x).length y=qV (zs++[x]) N y:=by unfold wB qV;rw[bJ,iG];simp
theorem OO(y:Sd):∀zs:List Sd,(qV zs N y).length<=iZ zs N
 |[]=>by simp[qV,iZ]
 |z::zs=>by have c:=OO y zs;unfold qV iZ at c ⊢;rw[fV,au,ae,aI,cY];have:=dM (λp:Nat×Sd=>decide (p.2=y)) (N z);ext
theorem Xw{r:Nat}{I g c:Option D}(hx:x∈ys)(cl:∀p∈N x,p.2∈ys)(ht:iZ zs N+(N x).length<=1000)(hnb:bs+ys.length<=nb)(gr:s[r]?=some (.lst ((N x).map nD)))(hr:r < bs)(U:dE s u)(hb0:s.length<=bs)(B:BP ys (qV zs N) bs nb u)
  (hq:∀g c v,BP ys (qV (zs++[x]) N) bs nb v->dE s v->(∀k,(k < bs\/nb < k)->v[k]?=u[k]?)->R (.next [I,some (.dic nb),some (bO x),some (.ref r),g,c]) v):
  wp (md (fF 2 (ce (aP 4) (ce (aP 5) gk))) (aM (gL (cL (c2 aU (ai 1) (ai 5)) (cV (az (ai 4) (az (ai 2) bh))))) aS) (io r ((N x).map nD)) ((N x).map nD) [I,some (.dic nb),some (bO x),some (.ref r),g,c]) R u:=by
 refine qJ (λq l v=>∃(g c:Option D),l=[I,some (.dic nb),some (bO x),some (.ref r),g,c]/\BP ys (wB zs N x q) bs nb v/\dE s v/\∀k,(k < bs\/nb < k)->v[k]?=u[k]?) (λ_ _ _ w=>by obtain⟨_,_,_,_,e,_⟩:=w;exact e.at_ gr)
  ⟨_,_,rfl,by have e:wB zs N x 0=qV zs N:=by { funext y;unfold wB;simp };rw[e];exact B,U,λ_ _=>rfl⟩ (λRw1 q d l v up1 Y hd H=>?_) (λl v H=>?_)
 ·obtain⟨g,c,el,⟨T,C⟩,E,G⟩:=H;subst el;rw[aj]at hd;cases ep:(N x)[q]? with
  |none=>rw[ep]at hd;cases hd
  |some p=>
   rw[ep]at hd;cases hd;have o:=cl p (ay ep);have I:=cc.mpr o;have h:∀Q,wp (itemK nb (bO p.2)) Q v=Q (.ref (bs+ys.idxOf p.2)) v:=λQ=>v8 T (py _) (by rw[v6,aE o]);have l:2<=eS:=gQ (by ext)
   show wp (fF 2 _ (.tup [.int (p.1:Nat),bO p.2]) _) _ v;simp![↓h,↓dR (C p.2 o),↓mE (C p.2 o),l];have u:=(ac.mp ep).1;have O:(wB zs N x q p.2).length < 1000:=by unfold wB;rw[au,ae];have U:=OO (N:=N) p.2 zs;have J:=dM (λt:Nat×Sd=>decide (t.2=p.2)) ((N x).take q);rw[bE]at J;ext
   refine⟨nB (by rw[ae];ext),up1 ⟨_,_,rfl,⟨by rw[af (by ext)];exact T,λy L=>?_⟩,E.put (by ext),λk B=>by rw[af (by ext)];exact G k B⟩⟩;by_cases e:p.2=y
   ·subst e;rw[ao (f_ (C p.2 o)),Ml ep,aE rfl,aO];rfl
   ·rw[af (by have:=Jv o L e;ext),Ml ep,aA e,bn];exact C y L
 ·obtain⟨g,c,el,J,E,G⟩:=H;subst el;rw[ae]at J;have e:wB zs N x (N x).length=qV (zs++[x]) N:=funext λy=>UC;rw[e]at J;exact hq _ _ v J E G
theorem W4(h:ys.Nodup)(hl:ys.length<=324)(cl:∀x∈ys,∀p∈N x,p.2∈ys)(ht:iZ ys N<=1000)(g:GN ys N nd s)
  (hq:∀(nb:Nat)(u:a_),GN ys (qV ys N) nb u->s.length<=nb->dE s u->Q (.dic nb) u):wp (jd [.dic nd]) Q s:=by
 obtain⟨Y,c,g2⟩:=g;have lnd:=f_ c
 (simp![jd];simp![jK,↓GB,↓tQ c,gX,Ae,ae])
 refine⟨gQ (by ext),?_⟩;refine Nn h c ?_;rw[OW h (by ext)];simp![];have e1:(s++aZ ys.length (MO.lst [])).length=s.length+ys.length:=by simp
 rw[e1];have a2:BP ys (qV (ys.take 0) N) s.length (s.length+ys.length) (s++aZ ys.length (MO.lst [])++[MO.dct true (fC ys λx=>D.ref (s.length+ys.idxOf x))]):=
  ⟨by rw[<- e1];exact mR,λy hy=>m4 (Ie (cc.mpr hy))⟩
 have a3:dE s (s++aZ ys.length (MO.lst [])++[MO.dct true (fC ys λx=>D.ref (s.length+ys.idxOf x))]):=⟨aZ ys.length (MO.lst [])++[MO.dct true (fC ys λx=>D.ref (s.length+ys.idxOf x))],by simp⟩
 generalize s++aZ ys.length (MO.lst [])++[MO.dct true (fC ys λx=>D.ref (s.length+ys.idxOf x))]=s1 at *;simp![↓Oh,↓tQ (a3.at_ c)];refine qJ (λi l v=>∃(I H C B:Option D),l=[some (.dic nd),some (.dic (s.length+ys.length)),I,H,C,B]/\BP ys (qV (ys.take i) N) s.length (s.length+ys.length) v/\dE s v) (λ_ _ _ w=>by obtain⟨_,_,_,_,_,_,e⟩:=w;exact e.at_ c)
  ⟨_,_,_,_,rfl,a2,a3⟩ (λRw2 i d l v J rt2 hd O=>?_) (λl v O=>?_)
 ·obtain⟨I,H,C,B,el,o,G⟩:=O;subst el;unfold fC at hd;rw[db,aj]at hd;cases E:ys[i]? with
  |none=>rw[E]at hd;cases hd
  |some x=>
   rw[E]at hd;have l:d=D.tup [bO x,.ref (Y x)]:=(aN hd).symm;subst l;have L:=ay E;have U:ys.take (i+1)=ys.take i++[x]:=by rw[cK,E];rfl
   have T:=g2 x L;have h:=f_ T;simp![↓dR (G.at_ T)];have g:iZ (ys.take i) N+(N x).length<=1000:=by have:=L0 (N:=N) (i:=i+1) (ys:=ys);rw[U,Ol]at this;ext
   refine Xw L (cl x L) g (ar _) T h G (ar _) o λC B v2 q c u=>?_;simp![];exact J ⟨_,_,_,_,rfl,by rw[U];exact q,c⟩
 ·obtain⟨I,H,C,B,el,o,G⟩:=O;subst el;have c:((fC ys λx=>D.ref (Y x)).map λq=>D.tup [q.1,q.2]).length=ys.length:=by rw[ae,yJ]
  rw[c,bJ]at o;simp![];exact hq _ v ⟨λx=>s.length+ys.idxOf x,o.1,o.2⟩ (by ext) G
theorem Xh{lo:Nat}(g:K5 h lo ys nd u):GN ys (λx=>(fN h x).map λk=>(k,kD h x k)) nd u:=by obtain⟨c,v,q⟩:=g;refine⟨c,v,λx o=>?_⟩;rw[(q x o).2.2];unfold z_ nD;rw[db];rfl
theorem LB(hh:kH h):∀zs:List Sd,iZ zs (λx=>(fN h x).map λk=>(k,kD h x k))<=3*zs.length
 |[]=>by simp[iZ]
 |z::zs=>by have c:=LB hh zs;unfold iZ at c ⊢;rw[aI,cY,ae,bp];have:=D7 hh (x:=z);ext
end
open PySem (Str)
section
variable{ys zs:List Sd}{N:Sd->List (Nat×Sd)}{x y:Sd}{h:Hs}
theorem Jc{f g:Sd->Nat}:∀ys:List Sd,(ys.map λy=>f y+g y).sum=(ys.map f).sum+(ys.map g).sum
 |[]=>rfl
 |y::ys=>by rw[aI,aI,aI,cY,cY,cY,Jc ys];ext
theorem Gh{f:Sd->Nat}:∀{ys:List Sd},(∀y∈ys,f y=0)->(ys.map f).sum=0
 |[],_=>rfl
 |y::ys,hz=>by rw[aI,cY,hz y (by simp),Gh λz c=>hz z (by simp[c])]
theorem Ow{a:Sd}:∀{ys:List Sd},ys.Nodup->(ys.map λy=>if a=y then 1 else 0).sum<=1
 |[],_=>bu _
 |y::ys,hn=>by
  rw[fO]at hn;rw[aI,cY];by_cases e:a=y
  ·subst e;rw[aE rfl,Gh λz hz=>aA λq=>hn.1 (by rw[q];exact hz)];exact ar _
  ·rw[aA e];have:=Ow (a:=a) hn.2;ext
theorem LJ(c:ys.Nodup):∀l:List (Nat×Sd),(ys.map λy=>(l.filter λp=>decide (p.2=y)).length).sum<=l.length
 |[]=>uN (Gh λy _=>rfl)
 |p::l=>by
  have g:=LJ c l;have e:(λy=>((p::l).filter λp=>decide (p.2=y)).length)=λy=>(if p.2=y then 1 else 0)+(l.filter λp=>decide (p.2=y)).length:=by
   funext y;by_cases z:p.2=y
   ·rw[gI (by simpa using z),aE z,bp];ext
   ·rw[e_ (by simpa using z),aA z];ext
  rw[e,Jc];have:=Ow (a:=p.2) c;rw[bp];ext
theorem NU(g:ys.Nodup):∀zs:List Sd,iZ ys (qV zs N)<=iZ zs N
 |[]=>uN (Gh (f:=λy=>(qV [] N y).length) λy _=>rfl)
 |z::zs=>by
  have l:=NU g zs;have e:(λy=>(qV (z::zs) N y).length)=λy=>((N z).filter λp=>decide (p.2=y)).length+(qV zs N y).length:=by funext y;unfold qV;rw[fV,au,ae]
  have c:=LJ g (N z);unfold iZ at l ⊢;rw[e,Jc,aI,cY];ext
theorem Qj(v:∀x∈ys,∀k∈fN h x,kD h x k∈ys){row:List Sd}{i:Nat}(l:ys[i]?=some x)(o:x∈row)
  (g:∀(i:Nat)(z:Sd),row[i]?=some z->∀p∈(fN h z).map (λk=>(k,kD h z k)),p.2∈row.take i):¬ vK (eF h ys) i:=λu=>
 Pj (S:=Fl h) (row:=row) (λi z hz y c=>by obtain⟨k,q,e⟩:=c;rw[<- e];exact g i z hz (k,kD h z k) (bz.mpr ⟨k,q,rfl⟩)) o (MQ v l u)
def OP(h:Hs)(ys:List Sd)(x y:Sd):Prop:=x∈ys/\Fl h x y
theorem Ux(l:∀x∈ys,∀k∈fN h x,kD h x k∈ys){x y:Sd}(a:TS (Fl h) x y)(c:x∈ys):TS (OP h ys) x y:=by
 induction a with
 |one st=>exact .one ⟨c,st⟩
 |@more x y z st _ ih=>
  obtain⟨k,g,e⟩:=id st;exact .more ⟨c,st⟩ (ih (by rw[<- e];exact l _ c k g))
theorem Ya(l:∀x∈ys,∀k∈fN h x,kD h x k∈ys){row:List Sd}{i:Nat}(g:ys[i]?=some x)(B:x∈row)
  (o:∀(i:Nat)(z:Sd),row[i]?=some z->∀p∈qV ys (λx=>(fN h x).map λk=>(k,kD h x k)) z,p.2∈row.take i):¬ vK (eF h ys) i:=λE=>by
 have a:=(Ux l (MQ l g E) (ay g)).rev;refine Pj (S:=λu v=>OP h ys v u) (row:=row) (λi z hz y q=>?_) B a;obtain⟨c,k,C,e⟩:=q;refine o i z hz (k,y) ?_;unfold qV;rw[iB];refine⟨y,c,bz.mpr ⟨(k,z),ff.mpr ⟨bz.mpr ⟨k,C,by rw[e]⟩,by simp⟩,rfl⟩⟩
end
open PySem (Str)
section
variable{s:a_}{Q:D->a_->Prop}
noncomputable def zL(w:List Nat):List Int:=w.map λk:Nat=>(k:Int)
theorem G9:∀{a b:List Nat},i0 (zL a) (zL b)=true↔lx a b
 |[],[]=>by simp[zL,i0,lx]
 |[],b::bs=>by simp[zL,i0,lx]
 |a::as,[]=>by simp[zL,i0,lx]
 |a::as,b::bs=>by
  have c:=G9 (a:=as) (b:=bs)
  show i0 ((a:Int)::zL as) ((b:Int)::zL bs)=true↔_;rw[i0];by_cases e:a=b
  ·subst e;rw[aE (by simp),c];exact⟨λz=>.inr ⟨rfl,z⟩,λz=>z.elim (λq=>ba q (bM _)) λq=>q.2⟩
  ·rw[aA (by simp;ext),decide_eq_true_iff];exact⟨λz=>.inl (by ext),λz=>z.elim (λq=>by ext) λq=>ba q.1 e⟩
theorem Hb:∀w:List Nat,iX (w.map d7)=some (zL w)
 |[]=>rfl
 |k::w=>by rw[aI];unfold d7;rw[iX];have:=Hb w;unfold d7 at this;rw[this];rfl
theorem U7{a b:List Nat}:wp (oE (.tup (a.map d7)) (.tup (b.map d7))) Q s=Q (if i0 (zL b) (zL a)=true then .tup (b.map d7) else .tup (a.map d7)) s:=by unfold oE;dsimp only;rw[Hb,Hb];exact cN rfl
theorem L4:∀ws:List (List Nat),pE (ws.map λw=>.tup (w.map d7))=some (ws.map zL)
 |[]=>rfl
 |w::ws=>by rw[aI,pE,Hb,L4 ws];rfl
end
open PySem (Str)
section
variable{s:a_}{Q:D->a_->Prop}
theorem Og(ws:List (List Nat))(i:Nat):(ws.map zL).getD i []=zL (ws.getD i []):=by rw[br,br,aj];cases ws[i]?<;>rfl
def xD(ws:List (List Nat))(i j:Nat):Bool:=i0 ((ws.map zL).getD i []) ((ws.map zL).getD j [])
theorem Lw{ws:List (List Nat)}{i j:Nat}:xD ws i j=true↔lx (ws.getD i []) (ws.getD j []):=by unfold xD;rw[Og,Og];exact G9
theorem L6(ws:List (List Nat)):∀k,kZ (xD ws) k<=k/\∀j,j<=k->¬ lx (ws.getD j []) (ws.getD (kZ (xD ws) k) [])
 |0=>⟨ar _,λj h=>by obtain rfl:j=0:=(by ext);exact wG _⟩
 |k+1=>by
  obtain⟨o,g⟩:=L6 ws k;rw[kZ];by_cases e:xD ws (k+1) (kZ (xD ws) k)=true
  ·rw[aE e];refine⟨ar _,λj l c=>?_⟩;by_cases q:j=k+1
   ·subst q;exact wG _ c
   ·exact g j (by ext) (yF c (Lw.mp e))
  ·rw[aA e];refine⟨by ext,λj l c=>?_⟩;by_cases q:j=k+1
   ·subst q;exact e (Lw.mpr c)
   ·exact g j (by ext) c
theorem VJ{ws:List (List Nat)}(q:0 < ws.length)(H:∀w,w∈ws->(∀v,v∈ws->¬ lx v w)->Q (.tup (w.map d7)) s):
  wp (qK (ws.map λw=>.tup (w.map d7))) Q s:=by
 unfold qK;rw[L4];dsimp only;have o:=L6 ws (ws.length-1);have c:kZ (xD ws) (ws.length-1) < ws.length:=by ext
 have e:(ws.map λw=>D.tup (w.map d7)).getD (kZ (xD ws) (ws.length-1)) .non=.tup ((ws.getD (kZ (xD ws) (ws.length-1)) []).map d7):=by rw[br,br,aj,ag c];rfl
 have g:=H (ws.getD (kZ (xD ws) (ws.length-1)) []) (by rw[br,ag c];exact dA c) (λv h=>by
  obtain⟨j,l,u⟩:=List.mem_iff_getElem.mp h;have:=o.2 j (by ext)
  rwa [show ws.getD j []=v by rw[br,ag l];exact u]at this)
 rw[<- e]at g;rw[ae,dB,ck];exact⟨q,g⟩
end
open PySem (Str)
section
variable{E:Nat->List (Nat×Nat)}{a d y k:Nat}{w v u:List Nat}{L:Nat->Option (List Nat)}
structure ug(E:Nat->List (Nat×Nat))(a d:Nat)(L:Nat->Option (List Nat)):Prop where
 wy:∀{y w},L y=some w->Wy E a w y/\w.length<=d
 le:∀{y v},Wy E a v y->v.length<=d->∃w,L y=some w/\¬ pc v w
 no:∀{v},Wy E a v a->v≠[]->d < v.length
theorem ug.start:ug E a 0 (λy=>if y=a then some [] else none):=by
 refine⟨?_,?_,?_⟩
 ·intro y w h;by_cases e:y=a
  ·rw[aE e]at h;cases h;subst e;exact⟨.nil _,ar _⟩
  ·rw[aA e]at h;cases h
 ·intro y v h g;have e:v=[]:=dW.mp (by ext);subst e;cases h;exact⟨[],aE rfl,λz=>z.elim (λq=>ba q (bM _)) λq=>q.2⟩
 ·intro v _ c;exact iH.mpr c
noncomputable def AN(E:Nat->List (Nat×Nat))(a d:Nat)(L:Nat->Option (List Nat))(u:List Nat):Prop:=
 ∃y w k,L y=some w/\w.length=d/\(k,a)∈E y/\u=w++[k]
theorem ug.home(I:ug E a d L)(h:Wy E a v a)(g:v≠[])(B:v.length<=d+1):∃u,AN E a d L u/\¬ lx v u:=by
 have C:=I.no h g;obtain⟨c,k,rfl⟩:∃c k,v=c++[k]:=⟨v.dropLast,v.getLast g,(rg g).symm⟩
 obtain⟨z,G,l⟩:=Wy.unsnoc h;rw[au,dL]at C B;obtain⟨w,o,O⟩:=I.le G (by ext);have J:=I.wy o;have H:=I.no (J.1.snoc l) (by simp);rw[au,dL]at H;refine⟨w++[k],⟨z,w,k,o,by ext,l,rfl⟩,λq=>?_⟩;have e:c.length=w.length:=by ext
 rcases n6 c w with t|t|t
 ·exact O (.inr ⟨e,t⟩)
 ·subst t;exact wG _ q
 ·exact wG _ (yF q (D6 e.symm t [k] [k]))
theorem AN.wy(I:ug E a d L)(h:AN E a d L u):Wy E a u a/\u.length=d+1:=by obtain⟨y,w,k,l,g,c,rfl⟩:=h;exact⟨(I.wy l).1.snoc c,by simp[g]⟩
theorem ug.ans(I:ug E a d L)(h:AN E a d L u)(o:∀u',AN E a d L u'->¬ lx u' u):xE E a u:=by
 have hu:=(h.wy I).2;refine⟨λz=>by rw[z]at hu;simp at hu,(h.wy I).1,λv g c=>?_⟩;have C:=I.no c g
 rintro (q|q)
 ·ext
 ·obtain⟨u',B,l⟩:=I.home c g (by ext);rcases n6 u u' with t|t|t
  ·exact l (yF q.2 t)
  ·subst t;exact l q.2
  ·exact o u' B t
end
open PySem (Str)
section
variable{E:Nat->List (Nat×Nat)}{a d y k:Nat}{w v u:List Nat}{L N:Nat->Option (List Nat)}
noncomputable def DB(E:Nat->List (Nat×Nat))(d:Nat)(L:Nat->Option (List Nat))(y:Nat)(u:List Nat):Prop:=
 ∃z w k,L z=some w/\w.length=d/\(k,y)∈E z/\L y=none/\u=w++[k]
noncomputable def qA(N L:Nat->Option (List Nat))(y:Nat):Option (List Nat):=match N y with
 |some u=>some u
 |none=>L y
theorem ug.next(I:ug E a d L)(hh:∀u,¬ AN E a d L u)(G:∀y u,N y=some u->DB E d L y u/\∀u',DB E d L y u'->¬ lx u' u)(h0:∀y u',DB E d L y u'->N y≠none):ug E a (d+1) (qA N L):=by
 have T:∀y w,L y=some w->qA N L y=some w:=λy w h=>by
  unfold qA;cases e:N y with
  |none=>exact h
  |some u=>obtain⟨_,_,_,_,_,_,q,_⟩:=(G y u e).1;rw[h]at q;cases q
 refine⟨?_,?_,?_⟩
 ·intro y w h;unfold qA at h;cases e:N y with
  |none=>rw[e]at h;have:=I.wy h;exact⟨this.1,by ext⟩
  |some u=>
   rw[e]at h;cases h;obtain⟨z,o,k,g,c,l,_,rfl⟩:=(G y _ e).1;exact⟨(I.wy g).1.snoc l,by simp[c]⟩
 ·intro y v h hl;by_cases hd:v.length<=d
  ·obtain⟨w,g,c⟩:=I.le h hd;exact⟨w,T y w g,c⟩
  ·have l:v≠[]:=λz=>by rw[z]at hd;simp at hd
   obtain⟨B,k,rfl⟩:∃B k,v=B++[k]:=⟨v.dropLast,v.getLast l,(rg l).symm⟩
   obtain⟨z,g,c⟩:=Wy.unsnoc h;cases C:L y with
   |some o=>
    have:=(I.wy C).2;refine⟨o,T y o C,λq=>?_⟩;rcases q with q|q
    ·ext
    ·have:=q.1;ext
   |none=>
    rw[au,dL]at hl hd;obtain⟨w,Y,g2⟩:=I.le g (by ext);have g3:=I.wy Y;have g4:w.length=d:=by apply fE;intro q;obtain⟨r,J,_⟩:=I.le (g3.1.snoc c) (by rw[au,dL];ext);rw[C]at J;cases J
    have U:DB E d L y (w++[k]):=⟨z,w,k,Y,g4,c,C,rfl⟩
    cases H:N y with
    |none=>exact ba H (h0 y _ U)
    |some u=>
     have hu:=G y u H;have Q:u.length=d+1:=by obtain⟨_,o,_,_,c,_,_,rfl⟩:=hu.1;simp[c]
     refine⟨u,by unfold qA;rw[H],λq=>?_⟩;have e:B.length=w.length:=by ext
     rcases q with q|q
     ·rw[au,dL]at q;ext
     ·have O:=hu.2 _ U;rcases n6 B w with t|t|t
      ·exact g2 (.inr ⟨e,t⟩)
      ·subst t;exact O q.2
      ·exact O (yF (D6 e.symm t [k] [k]) q.2)
 ·intro v Q l;have g:=I.no Q l;apply fE;intro q;obtain⟨u,c,_⟩:=I.home Q l (by ext);exact hh u c
theorem Wy.split:∀{u:List Nat}{x y:Nat},Wy E x (u++v) y->∃z,Wy E x u z/\Wy E z v y
 |[],x,_,h=>⟨x,.nil _,h⟩
 |b::u,x,_,h=>by
  cases h with
  |cons hp r=>
   obtain⟨z,g,c⟩:=Wy.split (u:=u) r;exact⟨z,.cons hp g,c⟩
theorem ug.stop(I:ug E a d L)(l:∀y w,L y=some w->w.length≠d):∀(n:Nat)(v:List Nat),v.length<=n->Wy E a v a->v=[]
 |0,v,hl,_=>dW.mp (by ext)
 |n+1,v,hl,h=>by
  apply fE;intro q;have O:=I.no h q;rw[<- uU d v]at h;obtain⟨z,H,G⟩:=Wy.split h;have g:(v.take d).length=d:=by rw[bE];ext
  obtain⟨w,c,_⟩:=I.le H (by ext);have o:=I.wy c;have J:=l z w c;have B:(v.drop d).length=v.length-d:=kE;have:=I.stop l n (w++v.drop d) (by rw[au];ext) (o.1.app G);have C:=cz eU this;rw[au,fP]at C;ext
end
open PySem (Str)
section
variable{s u:a_}{Q:D->a_->Prop}{R:qj->a_->Prop}{l:Loc}{ys:List Sd}{N:Sd->List (Nat×Sd)}{x y a:Sd}
theorem L9{n:Nat}:∀{xs ys:List Nat},kJ (rW n) (xs.map cj) (ys.map cj)=some (decide (xs=ys))
 |[],[]=>by simp[kJ]
 |[],y::ys=>by simp[kJ]
 |x::xs,[]=>by simp[kJ]
 |x::xs,y::ys=>by
  rw[aI,aI,kJ,L9];have e:rW n (cj x) (cj y)=some ((x:Int) == (y:Int)):=by unfold cj;cases n<;>rfl
  rw[e];by_cases h:x=y
  ·subst h;rw[beq_self_eq_true];simp
  ·have c:((x:Int) == (y:Int))=false:=beq_eq_false_iff_ne.mpr (by ext);rw[c];simp[h]
theorem YV:wp (lR (bO x) (bO y)) Q s=Q (.bl (decide (x=y))) s:=by
 have e:rW 50 (bO x) (bO y)=some (decide (x=y)):=by
  have v:rW 50 (bO x) (bO y)=kJ (rW 49) [.tup (x.ls.map cj),.tup (x.ss.map cj)] [.tup (y.ls.map cj),.tup (y.ss.map cj)]:=rfl;have h:∀p q:List Nat,rW 49 (.tup (p.map cj)) (.tup (q.map cj))=some (decide (p=q)):=λp q=>(L9 (n:=48))
  rw[v];rw[kJ,kJ,kJ,h,h];cases x with|mk p q=>cases y with|mk p' q'=>
  by_cases g:p=p'
  ·by_cases c:q=q'
   ·subst g c;simp
   ·subst g;simp[c]
  ·by_cases c:q=q'<;>simp[g,c]
 have o:lR (bO x) (bO y)=bnd (match rW 50 (bO x) (bO y) with
  |some r=>ret r
  |none=>bad) λb=>ret (.bl b):=rfl
 rw[o,e];exact cN rfl
def tW(w:List Nat):D:=.tup (w.map d7)
structure uC(R:List Sd)(g:Sd->List Nat)(a:Sd)(dn:List (Sd×Nat×Sd))(ws:List (List Nat))(T:List Sd)(t:Sd->List Nat):Prop where
 hm:∀u,u∈ws↔∃p∈dn,p.2.2=a/\u=g p.1++[p.2.1]
 hl:ws.length<=dn.length
 nd:T.Nodup
 tt:∀y,y∈T↔y∉R/\∃p∈dn,p.2.2=y
 has:∀y∈T,∃p∈dn,p.2.2=y/\t y=g p.1++[p.2.1]
 le:∀p∈dn,p.2.2∉R->¬ lx (g p.1++[p.2.1]) (t p.2.2)
variable{U T:List Sd}{g t:Sd->List Nat}{dn:List (Sd×Nat×Sd)}{ws:List (List Nat)}{k:Nat}
theorem uC.start:uC U g a [] [] [] t:=⟨by simp,ar _,kg,by simp,by simp,by simp⟩
theorem uC.home(I:uC U g a dn ws T t)(v:a∈U):uC U g a (dn++[(x,k,a)]) (ws++[g x++[k]]) T t:=by
 refine⟨λu=>?_,by simpa using I.hl,I.nd,λy=>?_,λy B=>?_,λp C q=>?_⟩
 ·rw[aB,I.hm,ax];constructor
  ·rintro (⟨p,o,c⟩|h)
   ·exact⟨p,aL _ o,c⟩
   ·exact⟨(x,k,a),by simp,rfl,h⟩
  ·rintro ⟨p,o,c⟩
   rcases aB.mp o with h|h
   ·exact .inl ⟨p,h,c⟩
   ·rw[ax.mp h]at c;exact .inr c.2
 ·rw[I.tt];constructor
  ·rintro ⟨o,p,c,h3⟩;exact⟨o,p,aL _ c,h3⟩
  ·rintro ⟨o,p,c,h3⟩
   rcases aB.mp c with h|h
   ·exact⟨o,p,h,h3⟩
   ·rw[ax.mp h]at h3;exact ba (h3 ▸ v) o
 ·obtain⟨p,o,c⟩:=I.has y B;exact⟨p,aL _ o,c⟩
 ·rcases aB.mp C with h|h
  ·exact I.le p h q
  ·rw[ax.mp h]at q;exact ba v q
theorem uC.skip(I:uC U g a dn ws T t)(B:y∈U)(q:y≠a):uC U g a (dn++[(x,k,y)]) ws T t:=by
 refine⟨λu=>?_,by rw[au];have:=I.hl;ext,I.nd,λz=>?_,λz hz=>?_,λp C v=>?_⟩
 ·rw[I.hm];constructor
  ·rintro ⟨p,o,c⟩;exact⟨p,aL _ o,c⟩
  ·rintro ⟨p,o,c⟩
   rcases aB.mp o with h|h
   ·exact⟨p,h,c⟩
   ·rw[ax.mp h]at c;exact ba c.1 q
 ·rw[I.tt];constructor
  ·rintro ⟨o,p,c,h3⟩;exact⟨o,p,aL _ c,h3⟩
  ·rintro ⟨o,p,c,h3⟩
   rcases aB.mp c with h|h
   ·exact⟨o,p,h,h3⟩
   ·rw[ax.mp h]at h3;exact ba (h3 ▸ B) o
 ·obtain⟨p,o,c⟩:=I.has z hz;exact⟨p,aL _ o,c⟩
 ·rcases aB.mp C with h|h
  ·exact I.le p h v
  ·rw[ax.mp h]at v;exact ba B v
def CZ(T:List Sd)(t:Sd->List Nat)(y:Sd)(w:List Nat):List Nat:=if y∈T then (if i0 (zL w) (zL (t y))=true then w else t y) else w
theorem uC.more(I:uC U g a dn ws T t)(J:a∈U)(B:y∉U):uC U g a (dn++[(x,k,y)]) ws (if y∈T then T else T++[y]) (λz=>if z=y then CZ T t y (g x++[k]) else t z):=by
 have mem:∀z,z∈(if y∈T then T else T++[y])↔z∈T\/z=y:=λz=>by
  split
  ·rename_i h;exact⟨.inl,λq=>q.elim id λq=>q ▸ h⟩
  ·simp
 refine⟨λu=>?_,by rw[au];have:=I.hl;ext,?_,λz=>?_,λz hz=>?_,λp C E=>?_⟩
 ·rw[I.hm];constructor
  ·rintro ⟨p,v,o⟩;exact⟨p,aL _ v,o⟩
  ·rintro ⟨p,v,o⟩
   rcases aB.mp v with h|h
   ·exact⟨p,h,o⟩
   ·rw[ax.mp h]at o;exact ba (show y∈U from (show y=a from o.1) ▸ J) B
 ·split
  ·exact I.nd
  ·rename_i h;rw[cn];exact⟨I.nd,by simp,λb H c G e=>by rw[ax]at G;subst G e;exact h H⟩
 ·rw[mem,I.tt];constructor
  ·rintro (⟨v,p,o,h3⟩|rfl)
   ·exact⟨v,p,aL _ o,h3⟩
   ·exact⟨B,(x,k,z),aY _ (by simp),rfl⟩
  ·rintro ⟨v,p,o,h3⟩
   rcases aB.mp o with h|h
   ·exact .inl ⟨v,p,h,h3⟩
   ·rw[ax.mp h]at h3;exact .inr h3.symm
 ·by_cases e:z=y
  ·subst e;rw[aE rfl];unfold CZ;split
   ·rename_i h;split
    ·exact⟨(x,k,z),aY _ (by simp),rfl,rfl⟩
    ·obtain⟨p,v,o⟩:=I.has z h;exact⟨p,aL _ v,o⟩
   ·exact⟨(x,k,z),aY _ (by simp),rfl,rfl⟩
  ·rw[aA e];obtain⟨p,v,o⟩:=I.has z (((mem z).mp hz).resolve_right e);exact⟨p,aL _ v,o⟩
 ·by_cases e:p.2.2=y
  ·rw[aE e];rcases aB.mp C with h|h
   ·have v:y∈T:=(I.tt y).mpr ⟨B,p,h,e⟩;have o:=I.le p h E;rw[e]at o;unfold CZ;rw[aE v];split
    ·rename_i q;exact λz=>o (yF z (G9.mp q))
    ·exact o
   ·rw[ax.mp h];unfold CZ;split
    ·split
     ·exact wG _
     ·rename_i q;exact λz=>q (G9.mpr z)
    ·exact wG _
  ·rw[aA e];rcases aB.mp C with h|h
   ·exact I.le p h E
   ·rw[ax.mp h]at e;exact ba rfl e
theorem Vj{A B C:CE}: wp (uv A B C l) Q s=wp (A l) (λx v=>match x with
  | .dic n=>wp (getDc n) (λp q=>p.1=true/\wp (B l) (λy o=>wp (C l) (λz h=>wp (getDc n) (λp c=>(p.1=true/\m_ true y=true)/\Q ((lN p.2 y).getD z) c) h) o) q) v
  |_=>False) s:=by
 unfold uv;rw[dF];refine iO λx v=>?_;cases x<;>first|exact tK rfl|skip
 dsimp only;rw[dF];refine iO λp q=>?_;rw[dB,dF];congr 1;refine iO λy o=>?_;rw[dF];refine iO λz h=>?_;rw[dF];refine iO λp c=>?_;rw[dB,ck]
end
open PySem (Str)
section
variable{s u:a_}{Q:D->a_->Prop}{R:qj->a_->Prop}{l:Loc}{ys:List Sd}{N:Sd->List (Nat×Sd)}{x y a:Sd}{U T:List Sd}{g t:Sd->List Nat}{dn:List (Sd×Nat×Sd)}{ws:List (List Nat)}{k nd nl no nh r:Nat}
structure Lay(s:a_)(U:List Sd)(g:Sd->List Nat)(a:Sd)(dn:List (Sd×Nat×Sd))(no nh:Nat)(v:a_):Prop where
 ex:∃ws T t,uC U g a dn ws T t/\v[no]?=some (.dct true (fC T λx=>tW (t x)))/\v[nh]?=some (.lst (ws.map tW))
 xt:dE s v
theorem Ss{w:List Nat}:D.tup (w.map d7++[.int (k:Nat)])=tW (w++[k]):=by unfold tW;rw[aO];rfl
theorem RP{H o h c:Option D}(ha:a∈U)(hx:x∈U)(cl:∀p∈N x,p.2∈ys)(em:∀z∈U,z∈ys)(hl:ys.length<=324)(ht:dn.length+(N x).length<=1000)(hg:(g x).length < 1000)(gl:s[nl]?=some (.dct true (fC U λx=>tW (g x))))(gr:s[r]?=some (.lst ((N x).map nD)))(h1:s.length<=no)(h2:s.length<=nh)(h3:no≠nh)(B:Lay s U g a dn no nh u)(din:∀p∈dn,p.2.2∈ys)
  (hq:∀o h c v,Lay s U g a (dn++(N x).map λp=>(x,p)) no nh v->R (.next [some (.dic nd),some (bO a),some (.dic nl),H,some (.dic no),some (.ref nh),some (bO x),o,h,c]) v):
  wp (md (fF 2 (ce (aP 7) (ce (aP 8) gk))) (aM (bD (aP 9) (c2 fm (c2 aU (ai 2) (ai 6)) (cV (az (ai 7) bh))))
     (aM (lD (cA (c2 lR (ai 8) (ai 1)))
      (aM (gL (cL (ai 5) (ai 9)))
      aS)
      (aM (lD (cA (c2 mX (ai 8) (ai 2)))
       (aM (bD (fR (ai 4) (ai 8)) (c2 oE (uv (ai 4) (ai 8) (ai 9)) (ai 9)))
       aS)
       aS)
      aS))
     aS)) (io r ((N x).map nD)) ((N x).map nD) [some (.dic nd),some (bO a),some (.dic nl),H,some (.dic no),some (.ref nh),some (bO x),o,h,c]) R u:=by
 refine qJ (λq l v=>∃(o h c:Option D),l=[some (.dic nd),some (bO a),some (.dic nl),H,some (.dic no),some (.ref nh),some (bO x),o,h,c]/\Lay s U g a (dn++((N x).take q).map λp=>(x,p)) no nh v) (λ_ _ _ w=>by obtain⟨_,_,_,_,e⟩:=w;exact e.xt.at_ gr)
  ⟨_,_,_,rfl,by simpa using B⟩ (λRw1 q d l v up1 rt1 hd hW=>?_) (λl v hW=>?_)
 ·obtain⟨o,h,c,el,⟨⟨ws,T,t,I,go,E⟩,C⟩⟩:=hW;subst el;rw[aj]at hd;cases ep:(N x)[q]? with
  |none=>rw[ep]at hd;cases hd
  |some p=>
   rw[ep]at hd;cases hd;obtain⟨k,y⟩:=p;have hp:y∈ys:=cl (k,y) (ay ep);have l1:1<=eS:=gQ (by ext);have q1:∀Q,wp (itemK nl (bO x)) Q v=Q (.tup ((g x).map d7)) v:=λQ=>v8 (C.at_ gl) (py _) (by rw[v6,aE hx];rfl);have q2:∀Q,wp (hasK nl (bO y)) Q v=Q (decide (y∈U)) v:=λQ=>by
    rw[El (C.at_ gl) (py y),v6];by_cases e:y∈U
    ·rw[aE e,bF e];rfl
    ·rw[aA e,aT e];rfl
   have J:dn++((N x).take (q+1)).map (λp=>(x,p))=(dn++((N x).take q).map λp=>(x,p))++[(x,k,y)]:=by rw[cK,ep,aO,<- aX];rfl
   have hq1:=(ac.mp ep).1;have hdl:(dn++((N x).take q).map λp=>(x,p)).length<=1000:=by rw[au,ae,bE];ext
   show wp (fF 2 _ (.tup [.int (k:Nat),bO y]) _) _ v;simp![↓q1,l1,ae];refine⟨gQ (by simp;ext),?_⟩;rw[Ss];simp![↓YV];by_cases u:y=a
   ·subst u;simp![↓dR E,↓mE E,decide_true,if_true,ae];refine⟨nB (by have:=I.hl;ext),up1 ⟨_,_,_,rfl,⟨⟨ws++[g x++[k]],T,t,by rw[J];exact I.home ha,by rw[af (bC h3)];exact go,?_⟩,C.put h2⟩⟩⟩;rw[ao (f_ E),aO];rfl
   ·simp![u,decide_false,aQ,if_false,↓q2];by_cases G:y∈U
    ·simp![G,decide_true,dq,aQ,if_false];exact up1 ⟨_,_,_,rfl,⟨⟨ws,T,t,by rw[J];exact I.skip G u,go,E⟩,C⟩⟩
    ·have c:∀Q,wp (getDc no) Q v=Q (true,fC T λx=>tW (t x)) v:=λQ=>tQ go;have o:T.length<=324:=bW (y_ I.nd λz hz=>by
      obtain⟨_,p,Y,O⟩:=(I.tt z).mp hz;rw[<- O];rcases aB.mp Y with w|w
      ·exact din p w
      ·obtain⟨h,l,rfl⟩:=bz.mp w;exact cl h (dX l)) hl
     have L:∀w Q,wp (storeK no (bO y) w) Q v=Q () (v.set no (.dct true (fC (if y∈T then T else T++[y]) (sB (λx=>tW (t x)) y w)))):=λw Q=>by rw[zY go (py y) (nB (by rw[yJ];ext)),Bv]
     have H:(lN (fC T λx=>tW (t x)) (bO y)).getD (tW (g x++[k]))=tW (if y∈T then t y else g x++[k]):=by
      rw[v6];by_cases e:y∈T
      ·rw[aE e,aE e];rfl
      ·rw[aA e,aA e];rfl
     have B:∀(Q:D->a_->Prop),wp (oE (tW (if y∈T then t y else g x++[k])) (tW (g x++[k]))) Q v=Q (tW (CZ T t y (g x++[k]))) v:=λQ=>by
      refine (U7).trans ?_;congr 1;unfold CZ;by_cases e:y∈T
      ·rw[aE e,aE e];split<;>rfl
      ·rw[aA e,aA e];split<;>rfl
     simp![G,decide_false,eV,if_true,↓Vj,↓c,py,H,↓B,↓L,and_self,true_and];refine up1 ⟨_,_,_,rfl,⟨⟨ws,_,_,by rw[J];exact I.more ha G,?_,by rw[af h3];exact E⟩,C.put h1⟩⟩;rw[ao (f_ go)];congr 3;funext z;unfold sB;split<;>rfl
 ·obtain⟨o,h,c,el,L⟩:=hW;subst el;rw[ae,bJ]at L;exact hq _ _ _ v L
end
open PySem (Str)
section
variable{ys:List Sd}{x y a:Sd}{U T lv:List Sd}{g t:Sd->List Nat}{dn:List (Sd×Nat×Sd)}{ws:List (List Nat)}{k d i:Nat}{h:Hs}
noncomputable def lF(ys U:List Sd)(g:Sd->List Nat)(i:Nat):Option (List Nat):=match ys[i]? with
 |some x=>if x∈U then some (g x) else none
 |none=>none
theorem zU{w:List Nat}:lF ys U g i=some w↔∃x,ys[i]?=some x/\x∈U/\w=g x:=by
 unfold lF;cases e:ys[i]? with
 |none=>simp
 |some x=>
  dsimp only;by_cases hu:x∈U
  ·rw[aE hu];exact⟨λz=>⟨x,rfl,hu,(aN z).symm⟩,λl=>by obtain⟨z,o,_,q⟩:=l;cases o;rw[q]⟩
  ·rw[aA hu];exact⟨λz=>(nomatch z),λc=>by obtain⟨z,o,u,_⟩:=c;cases o;exact ba u hu⟩
theorem K2(c:ys[i]?=some x):lF ys U g i=none↔x∉U:=by
 unfold lF;rw[c];dsimp only;split
 ·rename_i q;exact⟨λz=>(nomatch z),λz=>ba q z⟩
 ·rename_i q;exact⟨λ_=>q,λ_=>rfl⟩
theorem PB(hd:∀x∈T,x∉U):qA (lF ys T t) (lF ys U g)=lF ys (U++T) (λx=>if x∈T then t x else g x):=by
 funext i;unfold qA lF;cases e:ys[i]? with
 |none=>rfl
 |some x=>
  dsimp only;by_cases c:x∈T
  ·rw[aE c,aE c,aE (aY _ c)]
  ·rw[aA c,aA c];dsimp only;by_cases hu:x∈U
   ·rw[aE hu,aE (aL _ hu)]
   ·rw[aA hu,aA λz=>(aB.mp z).elim hu c]
theorem YC(o:ys.Nodup)(q:a∈ys):lF ys [a] (λ_=>[])=λy=>if y=ys.idxOf a then some [] else none:=by
 funext i;unfold lF;have c:=vN q;by_cases e:i=ys.idxOf a
 ·subst e;rw[c,aE rfl];dsimp only;rw[aE (by simp)]
 ·rw[aA e];cases l:ys[i]? with
  |none=>rfl
  |some x=>
   dsimp only;rw[aA];intro z;rw[ax]at z;subst z;exact e ((e8 (ac.mp l).1 o).mp (l.trans c.symm))
def uf(h:Hs)(x:Sd):List (Nat×Sd):=(fN h x).map λk=>(k,kD h x k)
theorem Gs(o:ys[i]?=some x){j:Nat}:(k,j)∈eF h ys i↔∃y,(k,y)∈uf h x/\j=ys.idxOf y:=by
 unfold eF uf;rw[o];dsimp only;rw[bz];constructor
 ·rintro ⟨l,h1,c⟩
  cases c;exact⟨_,bz.mpr ⟨k,h1,rfl⟩,rfl⟩
 ·rintro ⟨y,h1,rfl⟩
  obtain⟨l,c,q⟩:=bz.mp h1;cases q;exact⟨k,c,rfl⟩
noncomputable def vx(lv:List Sd)(N:Sd->List (Nat×Sd)):List (Sd×Nat×Sd):=lv.flatMap λx=>(N x).map λp=>(x,p)
theorem A4{N:Sd->List (Nat×Sd)}{p:Sd×Nat×Sd}:p∈vx lv N↔p.1∈lv/\p.2∈N p.1:=by
 unfold vx;rw[iB];constructor
 ·rintro ⟨x,h1,h2⟩
  obtain⟨q,c,rfl⟩:=bz.mp h2;exact⟨h1,c⟩
 ·rintro ⟨h1,h2⟩
  exact⟨p.1,h1,bz.mpr ⟨p.2,h2,rfl⟩⟩
theorem XY(l:x∈ys)(c:y∈ys)(e:ys.idxOf x=ys.idxOf y):x=y:=fE λq=>Jv l c q e
variable(hn:ys.Nodup)(em:∀z∈U,z∈ys)(cl:∀x∈ys,∀p∈uf h x,p.2∈ys)(eh:∀x,x∈lv↔x∈U/\(g x).length=d)
include hn em cl eh in
theorem Gd(C:a∈ys)(I:uC U g a (vx lv (uf h)) ws T t){u:List Nat}:AN (eF h ys) (ys.idxOf a) d (lF ys U g) u↔u∈ws:=by
 rw[I.hm];constructor
 ·rintro ⟨i,w,k,h1,o,l,rfl⟩
  obtain⟨x,c,B,rfl⟩:=zU.mp h1;obtain⟨y,v,G⟩:=(Gs c).mp l;have:=XY C (cl x (em x B) _ v) G;subst this;exact⟨(x,k,a),A4.mpr ⟨(eh x).mpr ⟨B,o⟩,v⟩,rfl,rfl⟩
 ·rintro ⟨⟨x,k,y⟩,h1,rfl,rfl⟩
  obtain⟨o,l⟩:=A4.mp h1;obtain⟨q,E⟩:=(eh x).mp o;have c:=vN (em x q);exact⟨ys.idxOf x,g x,k,zU.mpr ⟨x,c,q,rfl⟩,E,(Gs c).mpr ⟨y,l,rfl⟩,rfl⟩
include hn em cl eh in
theorem Im{i:Nat}{u:List Nat}:DB (eF h ys) d (lF ys U g) i u↔∃y,ys[i]?=some y/\y∉U/\∃p∈vx lv (uf h),p.2.2=y/\u=g p.1++[p.2.1]:=by
 constructor
 ·rintro ⟨z,w,k,h1,C,B,l,rfl⟩
  obtain⟨x,o,G,rfl⟩:=zU.mp h1;obtain⟨y,E,rfl⟩:=(Gs o).mp B;have v:=cl x (em x G) _ E;have c:=vN v;exact⟨y,c,(K2 c).mp l,(x,k,y),A4.mpr ⟨(eh x).mpr ⟨G,C⟩,E⟩,rfl,rfl⟩
 ·rintro ⟨y,c,v,⟨x,k,y'⟩,h1,rfl,rfl⟩
  obtain⟨C,B⟩:=A4.mp h1;obtain⟨l,H⟩:=(eh x).mp C;have o:=vN (em x l);refine⟨ys.idxOf x,g x,k,zU.mpr ⟨x,o,l,rfl⟩,H,(Gs o).mpr ⟨y',B,?_⟩,(K2 c).mpr v,rfl⟩;have q:=ay c;exact (e8 (ac.mp c).1 hn).mp (c.trans (vN q).symm)
include hn em cl eh in
theorem Xj(H:a∈ys)(I:uC U g a (vx lv (uf h)) [] T t)(L:ug (eF h ys) (ys.idxOf a) d (lF ys U g)):
  ug (eF h ys) (ys.idxOf a) (d+1) (lF ys (U++T) λx=>if x∈T then t x else g x)/\(∀x,x∈T↔x∈U++T/\(if x∈T then t x else g x).length=d+1)/\(∀x∈T,x∈ys)/\(U++T).Nodup=(U.Nodup):=by
 have hd:∀x∈T,x∉U:=λx c=>((I.tt x).mp c).1;refine⟨?_,λx=>?_,λx c=>?_,?_⟩
 ·rw[<- PB hd];refine L.next (λu hu=>by have:=(Gd hn em cl eh H I).mp hu;cases this) (λi u hu=>?_) (λi u hu=>?_)
  ·obtain⟨y,E,C,rfl⟩:=zU.mp hu;obtain⟨p,l,o,v⟩:=I.has y C;refine⟨(Im hn em cl eh).mpr ⟨y,E,hd y C,p,l,o,v⟩,λu' G=>?_⟩;obtain⟨c,Y,Q,g,O,B,rfl⟩:=(Im hn em cl eh).mp G;have:c=y:=aN (Y.symm.trans E);subst this;have:=I.le g O (by rw[B];exact Q)
   rwa [B]at this
  ·obtain⟨y,E,C,p,l,o,_⟩:=(Im hn em cl eh).mp hu;intro z;exact (K2 E).mp z ((I.tt y).mpr ⟨C,p,l,o⟩)
 ·constructor
  ·intro c;rw[aE c];obtain⟨p,l,o,v⟩:=I.has x c;have J:=((eh _).mp (A4.mp l).1).2;exact⟨aY _ c,by rw[v];simp[J]⟩
  ·rintro ⟨l,o⟩
   rcases aB.mp l with q|q
   ·apply fE;intro c;rw[aA c]at o;have:=(L.wy (zU.mpr ⟨x,vN (em x q),q,rfl⟩)).2;ext
   ·exact q
 ·obtain⟨_,p,l,o⟩:=(I.tt x).mp c;obtain⟨v,J⟩:=A4.mp l;rw[<- o];exact cl p.1 (em _ ((eh _).mp v).1) p.2 J
 ·apply propext;rw[cn];exact⟨λz=>z.1,λz=>⟨z,I.nd,λa H b c e=>hd b c (e ▸ H)⟩⟩
end
open PySem (Str)
section
variable{s u:a_}{Q:D->a_->Prop}{R:qj->a_->Prop}{l:Loc}{ys lv:List Sd}{N:Sd->List (Nat×Sd)}{x y a:Sd}{U T:List Sd}{g t:Sd->List Nat}{dn:List (Sd×Nat×Sd)}{ws:List (List Nat)}{k nd nl no nh nv r:Nat}
theorem VU{n:Nat}{c:List (D×D)}{k v:D}{U:Unit->a_->Prop}(h:s[n]?=some (.dct true c))(q:m_ true k=true)(o:c.length < eS):wp (storeN n k v) U s=U () (s.set n (.dct true (kG c k v))):=by unfold storeN;rw[dF,tQ h,dB,Hn h];exact propext ⟨λz=>z.2,λz=>⟨⟨rfl,q,o⟩,z⟩⟩
theorem Vb{A B:CE}:wp (qy A B l) Q s=wp (A l) (λa o=>wp (B l) (λb h=>wp (storeN s.length a b) (λ_ c=>Q (.dic s.length) c) h) o) (s++[.dct true []]):=by unfold qy;rw[dF];refine (show wp (n0 true []) _ s=_ from cN rfl).trans ?_;dsimp only;rw[dF];refine iO λa o=>?_;rw[dF];refine iO λb h=>?_;rw[dF];refine iO λ_ c=>?_;rw[ck]
theorem TN{n:Nat}(c:∀x∈lv,(N x).length<=n):(vx lv N).length<=n*lv.length:=by
 unfold vx
 induction lv with
 |nil=>simp
 |cons x lv ih=>
  rw[fV,au,ae,bp,Nat.mul_succ];have o:=c x (by simp);have h:=ih λz hz=>c z (by simp[hz]);ext
def HM: CS := (aM (bD (aP 9) (c2 fm (c2 aU (ai 2) (ai 6)) (cV (az (ai 7) bh))))
    (aM (lD (cA (c2 lR (ai 8) (ai 1)))
     (aM (gL (cL (ai 5) (ai 9)))
     aS)
     (aM (lD (cA (c2 mX (ai 8) (ai 2)))
      (aM (bD (fR (ai 4) (ai 8)) (c2 oE (uv (ai 4) (ai 8) (ai 9)) (ai 9)))
      aS)
      aS)
     aS))
    aS))
theorem TJ{E C q o:Option D}(ha:a∈U)(c:∀x∈lv,x∈U)(h:∀z∈U,z∈ys)(T:∀x∈ys,∀p∈N x,p.2∈ys)(O:∀x∈ys,(N x).length<=3)(hl:ys.length<=324)(eh:lv.length<=324)(hg:∀x∈U,(g x).length < 1000)
  (G:GN ys N nd s) (gl:s[nl]?=some (.dct true (fC U λx=>tW (g x)))) (gv:s[nv]?=some (.lst (lv.map bO))) (h1:s.length<=no) (h2:s.length<=nh) (h3:no≠nh) (B:Lay s U g a [] no nh u)
  (hq:∀E C q o v,Lay s U g a (vx lv N) no nh v->R (.next [some (.dic nd),some (bO a),some (.dic nl),some (.ref nv),some (.dic no),some (.ref nh),E,C,q,o]) v):
  wp (md (aP 6) (aM (iu (g_ (c2 aU (ai 0) (ai 6))) (fF 2 (ce (aP 7) (ce (aP 8) gk))) HM) aS) (io nv (lv.map bO)) (lv.map bO) [some (.dic nd),some (bO a),some (.dic nl),some (.ref nv),some (.dic no),some (.ref nh),E,C,q,o]) R u:=by
 obtain⟨rF,g1,Y⟩:=G;refine qJ (λi l v=>∃(E C q o:Option D),l=[some (.dic nd),some (bO a),some (.dic nl),some (.ref nv),some (.dic no),some (.ref nh),E,C,q,o]/\Lay s U g a (vx (lv.take i) N) no nh v) (λ_ _ _ w=>by obtain⟨_,_,_,_,_,e⟩:=w;exact e.xt.at_ gv)
  ⟨_,_,_,_,rfl,B⟩ (λRw1 i d l v up1 rt1 hd J=>?_) (λl v J=>?_)
 ·obtain⟨E,C,q,o,el,L⟩:=J;subst el;rw[aj]at hd;cases ex:lv[i]? with
  |none=>rw[ex]at hd;cases hd
  |some x=>
   rw[ex]at hd;cases hd;have H:=ay ex;have I:=h x (c x H);have g:∀Q,wp (itemK nd (bO x)) Q v=Q (.ref (rF x)) v:=λQ=>v8 (L.xt.at_ g1) (py _) (by rw[v6,aE I]);simp![↓g,↓dR (L.xt.at_ (Y x I))];have U:=(ac.mp ex).1;have u:(vx (lv.take i) N).length<=3*i:=by have:=TN (lv:=lv.take i) (N:=N) (n:=3) λz hz=>O z (h z (c z (dX hz)));rw[bE]at this;ext
   refine RP ha (c x H) (T x I) h hl (by have:=O x I;ext) (hg x (c x H)) gl (Y x I) h1 h2 h3 L (λp l=>?_) λC q o v2 L2=>?_
   ·obtain⟨G,B⟩:=A4.mp l;exact T p.1 (h _ (c _ (dX G))) p.2 B
   ·simp![];refine up1 ⟨_,_,_,_,rfl,?_⟩;have e:vx (lv.take (i+1)) N=vx (lv.take i) N++(N x).map λp=>(x,p):=by unfold vx;rw[cK,ex,iG];simp
    rw[e];exact L2
 ·obtain⟨E,C,q,o,el,L⟩:=J;subst el;rw[ae,bJ]at L;exact hq _ _ _ _ v L
theorem Ni{f c:Sd->D}(e:∀x∈U,f x=c x):fC U f=fC U c:=by unfold fC;exact cO λx h=>by rw[e x h]
theorem TM{h I H G L J:Option D}(hd:∀x∈T,x∉U)(hn:T.Nodup)(hT:U.length+T.length<=1000)(B:nl≠no)(gl:u[nl]?=some (.dct true (fC U λx=>tW (g x))))(go:u[no]?=some (.dct true (fC T λx=>tW (t x))))
  (hq:∀h v,v[nl]?=some (.dct true (fC (U++T) λx=>tW (if x∈T then t x else g x)))->(∀k,k≠nl->v[k]?=u[k]?)->v.length=u.length->R (.next [some (.dic nd),some (bO a),some (.dic nl),L,some (.dic no),J,h,I,H,G]) v):
  wp (md (aP 6) (aM (bD (fR (ai 2) (ai 6)) (c2 aU (ai 4) (ai 6))) aS) (t9 no (T.map bO)) (T.map bO) [some (.dic nd),some (bO a),some (.dic nl),L,some (.dic no),J,h,I,H,G]) R u:=by
 refine qJ (λi l v=>∃(h:Option D),l=[some (.dic nd),some (bO a),some (.dic nl),L,some (.dic no),J,h,I,H,G]/\v[nl]?=some (.dct true (fC (U++T.take i) λx=>tW (if x∈T then t x else g x)))/\(∀k,k≠nl->v[k]?=u[k]?)/\v.length=u.length) (λ_ _ _ w=>by obtain⟨_,_,_,e,_⟩:=w;exact⟨_,(e no (bC B)).trans go,Ae⟩)
  ⟨_,rfl,?_,λ_ _=>rfl,rfl⟩ (λRw2 i d l v O rt2 c hW=>?_) (λl v hW=>?_)
 ·rw[List.take_zero,bn,gl,Ni λx o=>?_];rw[aA λz=>hd x z o]
 ·obtain⟨h,el,C,E,e3⟩:=hW;subst el;rw[aj]at c;cases ex:T[i]? with
  |none=>rw[ex]at c;cases c
  |some x=>
   rw[ex]at c;cases c;have o:=ay ex;have Y:x∉U++T.take i:=λz=>by
    rcases aB.mp z with q|q
    ·exact hd x o q
    ·have:=FG hn ex q;ext
   have G:∀Q,wp (itemK no (bO x)) Q v=Q (tW (t x)) v:=λQ=>v8 ((E no (bC B)).trans go) (py _) (by rw[v6,aE o]);have u:∀w Q,wp (storeK nl (bO x) w) Q v=Q () (v.set nl (.dct true (fC (U++T.take i++[x]) (sB (λx=>tW (if x∈T then t x else g x)) x w)))):=λw Q=>by rw[zY C (py x) (nB (by rw[yJ,au,bE];ext)),Bv,aA Y]
   simp![↓G,↓u];refine O ⟨_,rfl,?_,λk l=>by rw[af (bC l)];exact E k l,by rw[cw];exact e3⟩;rw[ao (f_ C),cK,ex,<- aX];congr 2;refine Ni λy _=>?_;unfold sB;by_cases e:y=x
   ·subst e;rw[aE rfl,aE o]
   ·rw[aA e]
 ·obtain⟨h,el,C,E,e3⟩:=hW;subst el;rw[ae,bJ]at C;exact hq _ v C E e3
end
open PySem (Str)
section
variable{s u:a_}{Q:D->a_->Prop}{l:Loc}{ys:List Sd}{x y a:Sd}{nd:Nat}{h:Hs}
noncomputable def Op(v:a_)(n:Nat):Nat:=match v[n]? with
 |some (.dct _ cp)=>cp.length
 |_=>0
noncomputable def LS(v:a_)(n:Nat):Nat:=match v[n]? with
 |some (.lst (_::_))=>1
 |_=>0
def HC(c:Nat)(l:Loc)(v:a_):Nat:=2*(1000-Op v c)+match (l[3]?:Option (Option D)) with
 |some (some (.ref n))=>LS v n
 |_=>0
theorem OS{g n:Nat}{l:Loc}{v:a_}{b:Bool}{c:List (D×D)}{ds:List D}(B:v[g]?=some (.dct b c))(q:l[3]?=some (some (.ref n)))(o:v[n]?=some (.lst ds)):HC g l v=2*(1000-c.length)+(cond ds.isEmpty 0 1):=by unfold HC Op;rw[B,q];dsimp only;unfold LS;rw[o];cases ds<;>rfl
theorem Vf{n:Nat}{ds:List D}(g:s[n]?=some (.lst ds)):wp (t7 (.ref n)) Q s=wp (qK ds) Q s:=by show wp (bnd (getL n) qK) Q s=_;rw[dF,dR g]
theorem TD(H:ys.Nodup)(hl:ys.length<=324)(C:a∈ys)(Y:∀x∈ys,∀p∈uf h x,p.2∈ys)(hN:∀x∈ys,(uf h x).length<=3)(G:GN ys (uf h) nd s)
  (hq1:∀w v,xE (eF h ys) (ys.idxOf a) w->w.length<=324->dE s v->Q (tW w) v) (hq2:∀v,¬ vK (eF h ys) (ys.idxOf a)->dE s v->Q .non v):wp (jb [.dic nd,bO a]) Q s:=by
 obtain⟨rF,g1,g2⟩:=id G;have lnd:=f_ g1;have l1:1<=eS:=gQ (by ext);have z1:(s++[MO.dct true []])[s.length]?=some (.dct true []):=mR;have q0:∀w Q,wp (storeN s.length (bO a) w) Q (s++[MO.dct true []])=Q () ((s++[MO.dct true []]).set s.length (.dct true (fC [a] λ_=>w))):=λw Q=>VU z1 (py a) (nB (by simp))
 (simp![jb];simp![jH,↓Vb,↓q0,bu,l1])
 have x1:dE s ((s++[MO.dct true []]).set s.length (.dct true (fC [a] λ_=>D.tup []))):=((dE.refl _).snoc _).put (ar _);have z2:((s++[MO.dct true []]).set s.length (.dct true (fC [a] λ_=>D.tup [])))[s.length]?=some (.dct true (fC [a] λ_=>tW [])):=ao (f_ z1);generalize (s++[MO.dct true []]).set s.length (.dct true (fC [a] λ_=>D.tup []))=s1 at *;refine yH (λl v=>∃(U lv:List Sd)(g:Sd->List Nat)(d nv:Nat)(y4 y5 u y7 y8 y9:Option D),l=[some (.dic nd),some (bO a),some (.dic s.length),some (.ref nv),y4,y5,u,y7,y8,y9]/\U.Nodup/\(∀z∈U,z∈ys)/\a∈U/\lv.Nodup/\v[s.length]?=some (.dct true (fC U λx=>tW (g x)))/\v[nv]?=some (.lst (lv.map bO))/\dE s v/\ug (eF h ys) (ys.idxOf a) d (lF ys U g)/\(∀x,x∈lv↔x∈U/\(g x).length=d)/\(lv≠[]->d < U.length))
  (HC s.length) ⟨[a],[a],λ_=>[],0,s1.length,none,none,none,none,none,none,rfl,by simp,by simp[C],by simp,by simp,m4 z2,mR,x1.snoc _,by rw[YC H C];exact ug.start,by simp,by simp⟩ (λRw1 l v up1 rt1 hW=>?_)
 obtain⟨U,lv,g,d,nv,y4,y5,u,y7,y8,y9,el,hU,c,J,eh,gl,gv,xv,L,o,hd⟩:=hW;subst el;have U324:U.length<=324:=bW (y_ hU c) hl;have B:lv.length<=324:=bW (y_ eh λz hz=>c z ((o z).mp hz).1) hl;simp![↓dR gv,ae];by_cases e0:lv=[]
 ·subst e0;rw[aA (by simp)];refine hq2 v (λq=>?_) xv;obtain⟨p,g,c⟩:=q;obtain⟨w,hw⟩:=c.wy;have h1:Wy (eF h ys) (ys.idxOf a) (p.1::w) (ys.idxOf a):=.cons g hw;have:=L.stop (λi w l=>λe=>by obtain⟨x,_,u,rfl⟩:=zU.mp l;have:=(o x).mpr ⟨u,e⟩;cases this) _ _ (ar _) h1
  cases this
 ·have hpos:=iH.mpr e0;rw[aE (by ext)];have hdU:=hd e0;have e2:(v++[MO.dct true []]).length=v.length+1:=by simp
  simp![bu];rw[e2];have gn:∀{w},dE v w->dE s w:=λz=>xv.trans z;have x2:dE v (v++[MO.dct true []]++[MO.lst []]):=((dE.refl _).snoc _).snoc _;have a2:(v++[MO.dct true []]++[MO.lst []])[v.length]?=some (.dct true (fC [] λ_=>tW [])):=m4 mR;have a3:(v++[MO.dct true []]++[MO.lst []])[v.length+1]?=some (.lst ([].map tW)):=by rw[<- e2];exact mR
  have B0:Lay v U g a [] v.length (v.length+1) (v++[MO.dct true []]++[MO.lst []]):=⟨⟨[],[],λ_=>[],uC.start,a2,a3⟩,x2⟩
  generalize v++[MO.dct true []]++[MO.lst []]=v1 at *;simp![↓dR (x2.at_ gv)];have Gv:GN ys (uf h) nd v:=⟨rF,xv.at_ g1,λx o=>xv.at_ (g2 x o)⟩
  refine TJ J (λx hxl=>((o x).mp hxl).1) c Y hN hl B (λx E=>?_) Gv gl gv (ar _) (by ext) (by ext) B0 λu y7 y8 y9 v2 L2=>?_
  ·have:=(L.wy (zU.mpr ⟨x,vN (c x E),E,rfl⟩)).2;ext
  ·obtain⟨⟨ws,T,t,I,go,gh⟩,l⟩:=L2;simp![↓dR gh,ae];by_cases e1:ws=[]
   ·subst e1;rw[aA (by simp)];obtain⟨n1,n2,n3,n4⟩:=Xj H c Y o C I L;have O:(U++T).Nodup:=by rw[n4];exact hU
    have E:(U++T).length<=324:=bW (y_ O λz hz=>(aB.mp hz).elim (c z) (n3 z)) hl;rw[au]at E;have lvs:s.length < v.length:=f_ gl;simp![↓GB,↓tQ go,Ae];refine TM (λx h=>((I.tt x).mp h).1) I.nd (by ext) (by ext) (l.at_ gl) go λu q c1 c2 c3=>?_;have c4:q[v.length]?=some (.dct true (fC T λx=>tW (t x))):=(c2 _ (by ext)).trans go;have r5:∀(Q:D->a_->Prop),wp (nj (.dic v.length)) Q q=Q (.ref q.length) (q++[.lst (T.map bO)]):=λQ=>by rw[NY c4,Ae]
    simp![↓r5];have G:dE s q:=by
     have h1:dE s v2:=gn l;have e4:q=v2.set s.length (.dct true (fC (U++T) λx=>tW (if x∈T then t x else g x))):=by
      apply eC;intro k;by_cases B:k=s.length
      ·subst B;rw[c1,ao (by have:=l.le;ext)]
      ·rw[c2 k B,af (bC B)]
     rw[e4];exact h1.put (ar _)
    refine up1 ⟨U++T,T,_,d+1,q.length,_,_,_,_,_,_,rfl,O,λz hz=>(aB.mp hz).elim (c z) (n3 z),aL _ J,I.nd,m4 c1,mR,G.snoc _,n1,n2,λhT=>?_⟩ ?_
    ·have:=iH.mpr hT;rw[au];ext
    ·rw[OS gl rfl gv,OS (m4 c1) rfl mR,yJ,yJ,au];cases lv with
     |nil=>exact ba rfl e0
     |cons _ _=>
      cases T with
      |nil=>simp
      |cons _ _=>simp only[bp,aI,List.isEmpty_cons,cond_false]at *;ext
   ·rw[aE (by have:=iH.mpr e1;ext)];have g:∀(Q:D->a_->Prop),wp (t7 (.ref (v.length+1))) Q v2=wp (qK (ws.map tW)) Q v2:=λQ=>Vf gh;simp![↓g];refine VJ (iH.mpr e1) λw hw h=>?_;have B:=(Gd H c Y o C I).mpr hw;refine rt1 ?_;simp![];refine hq1 w v2 ?_ (by have:=(B.wy L).2;ext) (gn l);exact L.ans ((Gd H c Y o C I).mpr hw) λu' E=>h u' ((Gd H c Y o C I).mp E)
end
open PySem (Str)
section
variable{s u:a_}{Q:D->a_->Prop}{l:Loc}{ys zs ws:List Sd}{F:Sd->D}{h:Hs}
theorem Mj:∀(ws zs:List Sd),∃c,tS (fC zs F) (ws.map λx=>(bO x,F x))=fC c F/\∀x,x∈c↔x∈zs\/x∈ws
 |[],zs=>⟨zs,rfl,by simp⟩
 |w::ws,zs=>by
  obtain⟨c,v,o⟩:=Mj ws (if w∈zs then zs else zs++[w]);refine⟨c,?_,λx=>?_⟩
  ·rw[<- v]
   show tS (kG (fC zs F) (bO w) (F w)) (ws.map λx=>(bO x,F x))=_;rw[Bv];congr 2;funext y;unfold sB;split
   ·rename_i h;rw[h]
   ·rfl
  ·rw[o];by_cases g:w∈zs
   ·rw[aE g,bb];exact⟨λz=>z.elim .inl λz=>.inr (.inr z),λz=>z.elim .inl λz=>z.elim (λq=>.inl (q ▸ g)) .inr⟩
   ·rw[aA g,aB,ax,bb,or_assoc]
theorem Uj(o:ws.length<=1000)(g:∀c,(∀x,x∈c↔x∈ws)->Q (.dic s.length) (s++[.dct true (fC c F)])):wp (kI (ws.map λx=>D.tup [bO x,F x])) Q s:=by unfold kI;rw[IR];dsimp only;obtain⟨c,v,q⟩:=Mj (F:=F) ws [];have e:tS [] (ws.map λx=>(bO x,F x))=fC c F:=v;rw[dB,e,ae];have:wp (n0 true (fC c F)) Q s=Q (.dic s.length) (s++[.dct true (fC c F)]):=cN rfl;rw[this];exact⟨o,g c λx=>by rw[q];simp⟩
theorem UQ(hc:wa h)(hq:∀i o u,rG h i->FR (dZ h i).length (eF h (dZ h i)) o->(∀f w,o=some (f,w)->w.length<=324)->dE s u->Q (Ai (dZ h i) o) u):wp (jL [kC h]) Q s:=by
 have hh:=hc.1;have l2:2<=eS:=gQ (by ext)
 (simp![jL];simp![yk])
 refine VD hc λi ny s1 st gy hr1 x1=>?_;have U:=(C4 hc st.1).1;have T:=(yV hh i).1;have ho:=(yV hh i).2;have Y:∀x∈dZ h i,∀k∈fN h x,kD h x k∈dZ h i:=λx q k hk=>YF hh st q hk;have cl:∀x∈dZ h i,∀p∈uf h x,p.2∈dZ h i:=λx q p hp=>by obtain⟨k,hk,rfl⟩:=bz.mp hp;exact Y x q k hk
 have hN:∀x∈dZ h i,(uf h x).length<=3:=λx _=>by unfold uf;rw[ae];exact D7 hh
 have C:iZ (dZ h i) (uf h)<=1000:=bW (LB hh (dZ h i)) (by ext);simp![];refine Qe hh gy T ho U λs2 nx x2=>?_;have G2:GN (dZ h i) (uf h) s1.length s2:=Xh nx;simp![];refine MD T U cl C G2 λg r1 s3 nd1 rk1 in1 gr1 lr1 x3=>?_;have gnx:∀{v},dE s2 v->GN (dZ h i) (uf h) s1.length v:=λE=>by obtain⟨rF,g1,g2⟩:=G2;exact⟨rF,E.at_ g1,λx q=>E.at_ (g2 x q)⟩
 simp![];refine W4 T U cl C (gnx x3) λnb s4 G4 lnb x4=>?_;simp![];refine MD T U (λx q p hp=>?_) (bW (NU T _) C) G4 λc r2 I nd2 rk2 in2 gr2 lr2 x5=>?_
 ·unfold qV at hp;obtain⟨y,g,c⟩:=iB.mp hp;obtain⟨_,_,rfl⟩:=bz.mp c;exact g
 ·have len1:g.length<=324:=bW (y_ nd1 in1) U;have len2:c.length<=324:=bW (y_ nd2 in2) U;have q1:∀(Q:D->a_->Prop),wp (fm (.ref r1) (.ref r2)) Q I=(((g.map bO).length+(c.map bO).length<=eS)/\Q (.ref I.length) (I++[.lst (g.map bO++c.map bO)])):=λQ=>NE ((x4.trans x5).at_ gr1) gr2;simp![↓q1,ae];refine⟨gQ (by ext),?_⟩;rw[<- aO];have ga:(I++[MO.lst ((g++c).map bO)])[I.length]?=some (.lst ((g++c).map bO)):=mR;have xa:dE s2 (I++[MO.lst ((g++c).map bO)]):=((x3.trans x4).trans x5).snoc _;generalize I++[MO.lst ((g++c).map bO)]=O at *;generalize I.length=na at *;simp![↓dR ga,gX,ae];refine⟨gQ (by rw[au];ext),?_⟩;have o:∀(A:List D->a_->Prop),wp (collect (aP 0) bT (cV (az (ai 0) (az (aR (.bl true)) bh))) (io na ((g++c).map bO)) ((g++c).map bO) [none]) A O=A ((g++c).map λx=>D.tup [bO x,.bl true]) O:=λA=>by
   rw[zZ (f:=λj=>((g++c)[j]?.map λx=>D.tup [bO x,.bl true]).getD .non) (caps:=[]) ga (λj d hd Q=>by
    rw[aj]at hd;cases ex:(g++c)[j]? with
    |none=>rw[ex]at hd;cases hd
    |some x=>
     rw[ex]at hd;cases hd;simp![l2,eE,fA])]
   congr 1;apply eC;intro j;rw[aj];by_cases L:j < (g++c).length
   ·rw[v7 (by rw[ae];exact L),ag L];rfl
   ·rw[bX (l:=g++c) (by ext),bX (by unfold bx;simp at L ⊢;ext)];rfl
  rw[o];refine Uj (by rw[au];ext) λJ hqs=>?_;have no:∀(j:Nat)(x:Sd),(dZ h i)[j]?=some x->x∈J->¬ vK (eF h (dZ h i)) j:=λj x L q=>by
   rcases aB.mp ((hqs x).mp q) with z|z
   ·exact Qj Y L z rk1
   ·exact Ya Y L z rk2
  have gd:(O++[MO.dct true (fC J λ_=>D.bl true)])[O.length]?=some (.dct true (fC J λ_=>.bl true)):=mR;have xd:dE s2 (O++[MO.dct true (fC J λ_=>D.bl true)]):=xa.snoc _;generalize O++[MO.dct true (fC J λ_=>D.bl true)]=s7 at *;generalize O.length=n7 at *;have G:dE s1 s7:=x2.trans xd;simp![↓dR (G.at_ gy)];refine qJ (λj l v=>∃(C u:Option D),l=[some (kC h),some (.ref ny),some (.dic s1.length),some (.dic n7),C,u]/\dE s7 v/\∀m,m < j->¬ vK (eF h (dZ h i)) m) (λ_ _ _ w=>by obtain⟨_,_,_,e,_⟩:=w;exact e.at_ (G.at_ gy))
   ⟨_,_,rfl,dE.refl _,λm hm=>by ext⟩ (λRw1 j d l v up1 rt1 hd hW=>?_) (λl v hW=>?_)
  ·obtain⟨C,u,el,E,B⟩:=hW;subst el;rw[aj]at hd;cases ex:(dZ h i)[j]? with
   |none=>rw[ex]at hd;cases hd
   |some x=>
    rw[ex]at hd;cases hd;have q:=ay ex;have L:=(ac.mp ex).1;have l:(dZ h i).idxOf x=j:=(e8 (cc.mpr q) T).mp ((vN q).trans ex.symm);have o:∀Q,wp (hasK n7 (bO x)) Q v=Q (decide (x∈J)) v:=λQ=>by
     rw[El (E.at_ gd) (py x),v6];by_cases e:x∈J
     ·rw[aE e,bF e];rfl
     ·rw[aA e,aT e];rfl
    have step:¬ vK (eF h (dZ h i)) j->∀m,m < j+1->¬ vK (eF h (dZ h i)) m:=λH m hm=>by
     by_cases e:m=j
     ·rw[e];exact H
     ·exact B m (by ext)
    simp![↓o];by_cases eq:x∈J
    ·simp![eq,decide_true,dq,aQ,if_false];exact up1 ⟨_,_,rfl,E,step (no j x ex eq)⟩
    ·simp![eq,decide_false,eV,if_true];refine TD T U q cl hN (gnx (xd.trans E)) (λw v2 g I c=>?_) (λv2 H c=>?_)
     ·rw[l]at g;unfold tW;simp![↓NO,if_true,l2];have:=hq i (some (j,w)) v2 st ⟨L,g,B⟩ (λf w e=>by cases e;exact I) (x1.trans (G.trans (E.trans c)));unfold Ai at this;dsimp only at this;rw[ex]at this;refine rt1 ?_;simp![];exact this
     ·rw[l]at H;simp![↓Oc,aQ,if_false];exact up1 ⟨_,_,rfl,E.trans c,step H⟩
  ·obtain⟨C,u,el,E,B⟩:=hW;subst el;rw[ae]at B;simp![];exact hq i none v st B (λf w e=>by cases e) (x1.trans (G.trans E))
end
open PySem (Str)
theorem FR.uniq{n:Nat}{E:Nat->List (Nat×Nat)}:∀{o o':Option (Nat×List Nat)},FR n E o->FR n E o'->o=o'
 |none,none,_,_=>rfl
 |none,some (f,w),a,b=>ba b.2.1.cyc (a f b.1)
 |some (f,w),none,a,b=>ba a.2.1.cyc (b f a.1)
 |some (f,w),some (f',w'),a,b=>by
  rcases fW f f' with q|q|q
  ·exact ba a.2.1.cyc (b.2.2 f q)
  ·subst q;rw[a.2.1.uniq b.2.1]
  ·exact ba b.2.1.cyc (a.2.2 f' q)
theorem YD{n:Nat}{Q:D->a_->Prop}{s:a_}:wp (zX (.bl false) (bx n λ_=>.bl true)) Q s=Q (.bl false) s:=by
 rw[WS];have mem:∀d∈(bx n λ_=>D.bl true),d=.bl true:=λd hd=>by obtain⟨k,c⟩:=ip hd;exact (B9 c).2
 have h:(bx n λ_=>D.bl true).all kz=true:=qv.mpr λd hd=>by rw[mem d hd];rfl
 have g:((bx n λ_=>D.bl true).any λd=>tV d (.bl false))=false:=pI.mpr λd hd=>by rw[mem d hd];exact bo
 rw[g];exact propext ⟨λz=>z.2,λz=>⟨⟨rfl,h⟩,z⟩⟩
section
variable{s u:a_}{Q:D->a_->Prop}{h:Hs}{l:Loc}{st:Sd}
theorem P9{g:List D->M D}{a:CA}{d:D}:wp (qI g a d l) Q s=wp (a l) (λds c=>wp (g (ds++[d])) Q c) s:=by unfold qI;rw[dF]
theorem Qg(xs:List Nat):wp (collect (aP 0) bT (bN jc (az (ai 0) bh)) dw (xs.map d7) [none]) A s=A (bx xs.length λ_=>.bl true) s:=by
 have:=@zZ (bN jc (az (ai 0) bh)) dw (xs.map d7) [] (λ_=>.bl true) A s sW (λi d hd Q=>by
  rw[aj]at hd;cases ex:xs[i]? with
  |none=>rw[ex]at hd;cases hd
  |some n=>
   rw[ex]at hd;have g:d=.int (n:Nat):=(aN hd).symm;subst g;have c:∀Q s,wp (jc [.int (n:Nat)]) Q s=Q (.bl true) s:=λQ s=>Xo;simp![↓c])
 rw[this,ae]
end
theorem Wt(L:List Int)(hn:L.length<=63)(s0:a_)(Q:D->a_->Prop)(O:∀s,Q (.bl true) s):wp (jT [.lit (L.map D.int)]) Q s0:=by
 (simp![jT];simp![yr])
 refine Qm λp q s1 G _ _=>?_;simp![];refine XW G λh s2 l hp2 k2=>?_;have hh:=l.1;simp![];have v:∀j,rB h j->(dZ h j).length<=500:=λj H=>by have:=(C4 l H).1;ext
 have c:∀j,rB h j->(dZ h j).length<=1000:=λj H=>by have:=(C4 l H).1;ext
 refine UQ l λi o s3 st B lw x3=>?_;simp![↓P9,kF,rb];refine Hl (most:=500) l v λi2 o2 s4 C I x4=>?_;cases st.uniq C;cases B.uniq I;cases o with
 |none=>
  show wp _ _ s4;simp![Ai,↓Hm,if_true];refine Hl (most:=1000) l c λi3 o3 Y g u U=>?_;cases st.uniq g;cases B.uniq u;simp![Ai,↓Hm,if_true];exact O _
 |some pr=>
  obtain⟨f,w⟩:=pr;have hf:f < (dZ h i).length:=B.1;have E:w.length<=eS:=gQ (by have:=lw f w rfl;ext);have T:Ai (dZ h i) (some (f,w))=.tup [bO (dZ h i)[f],.tup (w.map d7)]:=by unfold Ai;dsimp only;rw[ag hf];rfl
  have J:Pd 3 (.tup [bO (dZ h i)[f],.tup (w.map d7)]):=.tup λd hd=>by
   rcases bb.mp hd with e|e
   ·rw[e];exact Td
   ·rw[ax.mp e];refine .tup λd hd=>?_;obtain⟨n,_,rfl⟩:=bz.mp hd;exact .int _
  have q1:∀(Q:D->a_->Prop)s,wp (Ad (.tup [bO (dZ h i)[f],.tup (w.map d7)]) (.tup [bO (dZ h i)[f],.tup (w.map d7)])) Q s=Q (.bl false) s:=λQ s=>U0 J (by ext);have q2:∀(Q:D->a_->Prop)s,wp (lR (.tup [bO (dZ h i)[f],.tup (w.map d7)]) (.tup [bO (dZ h i)[f],.tup (w.map d7)])) Q s=Q (.bl true) s:=λQ s=>WD J (by ext);have q3:∀A s,wp (collect (aP 0) bT (bN jc (az (ai 0) bh)) dw (w.map d7) [none]) A s=A (bx w.length λ_=>.bl true) s:=λA s=>Qg w;rw[T];simp![↓MR,aQ,if_false,↓q1];simp![gX,ae,E,↓q3,↓YD,aQ,if_false];refine Hl (most:=1000) l c λi3 o3 Y g u U=>?_;cases st.uniq g;cases B.uniq u;rw[T];simp![↓q2];exact O _
theorem VP{α:Type}{m:M α}{v:α}{s:a_}(h:wp m (λa _=>a=v) s):∃c,m s=.ok v c:=by
 rw[sJ]at h;cases e:m s with
 |ok a c=>rw[e]at h;exact⟨c,by rw[show a=v from h]⟩
 |exc _ _=>rw[e]at h;exact h.elim
 |bad=>rw[e]at h;exact h.elim
theorem xc(c:List Int)(h:c.length<=63):∃g,jT [.lit (c.map D.int)] []=.ok (.bl true) g:=VP (m:=jT [.lit (c.map D.int)]) (v:=.bl true) (s:=[]) (Wt c h [] (λa _=>a=.bl true) λ_=>rfl)
open PySem PySem.Spec PyProof.Rows L2
theorem HX{l:p_}{q:Program}{c:List Str}{XP:(Str->Option ah)->bQ->Prop}{E:bG->bQ->Prop}{d:DefRec}{K:Cu->ak}(J:l.most=some 63)(C:d.params.defaults=[])(B:d.name="law")
  (U:∀(w:bG)(h:bQ),E w h->(K w.params).In h) (F:∀(w:bG)(mg:Str->Option ah)(h:bQ),(K w.params).In h->h.Ns dO mg->Txt (K w.params) mg):
  rO q c XP E l.row.toRowW d [] (λf G=>rN f G):=by
 refine L2.wU (n:=63) (k:=8) (x:="_law_script") (CX:=sU) (K:=K) (sp:=λK=>o9 K 1 jT) J (by decide) C ⟨rfl,by decide,by decide⟩ U (λw mg fa h v o g=>?_) (λK H a o O hO Y=>WF hO Y (xc o O)) (λ_ _ _ _ z=>z);have T:=F w mg h v o;obtain⟨a,fd,L,m⟩:=T.f39;rw[B,m]at g;cases g;refine⟨fd,λs u=>?_,λbase _ _=>yt L T⟩;obtain⟨oc,od,kV,doc,pm,an,cdv,ct,I,e,lk,Q⟩:=L.ex;rw[e];exact .of_eq rfl
end My
noncomputable def PySem.W.Fast.tw12466378360861778426:PySem.Program:=PySem.Challenge.pw_pactboards_k30_whole_the_first_round
theorem PySem.W.Fast.te12466378360861778426:PySem.Challenge.pw_pactboards_k30_whole_the_first_round=PySem.W.Fast.tw12466378360861778426:=rfl
namespace PySem.W.Fast
def tw12627030303401146157:=0
def tw1311419060671055090:=0
def tw15029509787323048:=0
def tw841654651348599961:=0
def tw1864834058868576219:=0
def tw11221997279808896342:=0
def tw4649575562330933862:=0
def tw830733432654402536:=0
def tw14554984877535205742:=0
def tw9263675152476579207:=0
def tw12147406383050638924:=0
def tw6719659607889143032:=0
def tw11066892442510711167:=0
def tw13161401836032944585:=0
def tw13483478011537012930:=0
def tw14575358870559777459:=0
def tw10623451864870986237:=0
def tw6144862810496518931:=0
def tw17810232485278456915:=0
def tw15106139641082224641:=0
def tw8711065321261060457:=0
def tw9198236813746240489:=0
def tw9953884850277702171:=0
def tw15945881569255035706:=0
def tw7109992093112076078:=0
def tw2637287775862303711:=0
def tw11990668828947993471:=0
def tw7584915659751949483:=0
def tw12888226580294745392:=0
def tw9781080817806299692:=0
def tw6672265761625326202:=0
def tw10301626019758338758:=0
def tw1395594968319536706:=0
def tw17099578452134937627:=0
def tw16822255358754100245:=0
def tw9324461601068107827:=0
def tw18355540676553035038:=0
def tw14077843707768391613:=0
def tw11763065706075315293:=0
def tw872344336688613273:=0
def tw16675546766200457190:=0
def tw10889881599957690998:=0
def tw6389273334053615551:=0
def tw17305271524424354443:=0
def tw445529316856485841:=0
def tw12655689282707803914:=0
def tw16087277019011009898:=0
def tw13638755091383029648:=0
def tw7604452853480897012:=0
def tw795333537364561546:=0
def tw871226799340651466:=0
def tw8727486841581242924:=0
def tw13080393219092152902:=0
def tw13937625769791196302:=0
def tw17974041817488402941:=0
def tw459012716409614360:=0
def tw781619559416171254:=0
def tw16809680201505124431:=0
def tw4331119227799177826:=0
def tw15716576326610034747:=0
def tw12745209448331504935:=0
def tw7895653673402406079:=0
def tw11620789038902941228:=0
def tw16849692274374427115:=0
def tw2139792817704452230:=0
def tw11494258703119841682:=0
def tw1833030193382585248:=0
def tw12953317884521364736:=0
def tw13353617801310011777:=0
def tw14774892854203375187:=0
def tw18101977384235337384:=0
def tw4865926212284866668:=0
def tw15969514632846765618:=0
def tw7146689060705156079:=0
def tw9138511141925400555:=0
def tw17991247113378340615:=0
def tw13569516907622647645:=0
def tw4013578013425122293:=0
def tw7523410420246480799:=0
def tw10023655195056681447:=0
def tw13320115381867109055:=0
def tw15918969796755758513:=0
def tw14626659268082897464:=0
def tw8497542552519624122:=0
def tw16893132337982604912:=0
def tw6588436964458771609:=0
def tw4260306190092150509:=0
def tw9670468239340511947:=0
def tw10948453153224901501:=0
def tw14985968327741689986:=0
def tw6170157009524260958:=0
def tw10325433391563813222:=0
def tw14450404386381130461:=0
def tw8949301889738320778:=0
def tw12358789228069967257:=0
def tw14788012421015854835:=0
def tw5179023793237349349:=0
def tw14539701796754103582:=0
def tw3283237843646338245:=0
def tw3516775923219438262:=0
def tw4123752947175678384:=0
def tw11313105261017131265:=0
def tw15725631192121112921:=0
def tw5262862175487459702:=0
def tw4477813473452074720:=0
def tw9667111201556190937:=0
def tw5587425200023142797:=0
def tw7148428870895074240:=0
def tw6049827377641102531:=0
def tw12554848068231383400:=0
def tw17917283997722791786:=0
def tw11374020197399837613:=0
def tw360311665847944264:=0
def tw3855613053702011259:=0
def tw7083435559757731158:=0
def tw18316555445049617995:=0
def tw10537764658235923180:=0
def tw15085758412634794169:=0
def tw490115386350953734:=0
def tw1083785310340514840:=0
def tw11167204166395002465:=0
def tw12433582327167986458:=0
def tw764150594458184098:=0
def tw16796766265479231157:=0
def tw408533487041078329:=0
def tw4440125436257329994:=0
def tw395759664913462444:=0
def tw7851344429532611582:=0
def tw14854104643588709596:=0
def tw8157097596337610142:=0
def tw12486335499049784080:=0
def tw116945409013599157:=0
def tw4317228314253875526:=0
def tw4494864889149573297:=0
def tw11375971436098109517:=0
def tw8470281482614350898:=0
def tw18199769951000571388:=0
def tw5782621416399365494:=0
def tw10244812669354923881:=0
def tw13303827319659587:=0
def tw10582535127627616921:=0
def tw2644754086207590630:=0
def tw3226125143083849234:=0
def tw2881478544713418678:=0
def tw3397514705496973219:=0
def tw9175808576916974968:=0
def tw7867551278344207915:=0
def tw16833146368037009853:=0
def tw3172906657242007841:=0
def tw18268821706050395910:=0
end PySem.W.Fast
open PySem PySem.W PyProof.Rows
set_option maxHeartbeats 0 in
theorem PySem.Challenge.cw_pactboards_k30_whole_the_first_round_holds : PySem.Challenge.rw_pactboards_k30_whole_the_first_round.Holds := by
 w_on;o_law;k_head;(case hw=>w_witness2)
 k_fill
 refine My.HX (l:=PySem.Challenge.rw_pactboards_k30_whole_the_first_round) rfl rfl rfl (λw h Y=>PySem.W.kIn_of Y) ?F
 case F=>
  intro w mg h KX G;refine' My.Txt.mk (MM.gJ KX G ?a0 ?l0 ?c0 ?k0) (MM.gJ KX G ?a1 ?l1 ?c1 ?k1) (MM.gJ KX G ?a2 ?l2 ?c2 ?k2) (MM.gJ KX G ?a3 ?l3 ?c3 ?k3) (MM.gJ KX G ?a4 ?l4 ?c4 ?k4) (MM.gJ KX G ?a5 ?l5 ?c5 ?k5) (MM.gJ KX G ?a6 ?l6 ?c6 ?k6) (MM.gJ KX G ?a7 ?l7 ?c7 ?k7) (MM.gJ KX G ?a8 ?l8 ?c8 ?k8) (MM.gJ KX G ?a9 ?l9 ?c9 ?k9) (MM.gJ KX G ?a10 ?l10 ?c10 ?k10) (MM.gJ KX G ?a11 ?l11 ?c11 ?k11) (MM.gJ KX G ?a12 ?l12 ?c12 ?k12) (MM.gJ KX G ?a13 ?l13 ?c13 ?k13) (MM.gJ KX G ?a14 ?l14 ?c14 ?k14) (MM.gJ KX G ?a15 ?l15 ?c15 ?k15) (MM.gJ KX G ?a16 ?l16 ?c16 ?k16) (MM.gJ KX G ?a17 ?l17 ?c17 ?k17) (MM.gJ KX G ?a18 ?l18 ?c18 ?k18) (MM.gJ KX G ?a19 ?l19 ?c19 ?k19) (MM.gJ KX G ?a20 ?l20 ?c20 ?k20) (MM.gJ KX G ?a21 ?l21 ?c21 ?k21) (MM.gJ KX G ?a22 ?l22 ?c22 ?k22) (MM.gJ KX G ?a23 ?l23 ?c23 ?k23) (MM.gJ KX G ?a24 ?l24 ?c24 ?k24) (MM.gJ KX G ?a25 ?l25 ?c25 ?k25) (MM.gJ KX G ?a26 ?l26 ?c26 ?k26) (MM.gJ KX G ?a27 ?l27 ?c27 ?k27) (MM.gJ KX G ?a28 ?l28 ?c28 ?k28) (MM.gJ KX G ?a29 ?l29 ?c29 ?k29) (MM.gJ KX G ?a30 ?l30 ?c30 ?k30) (MM.gJ KX G ?a31 ?l31 ?c31 ?k31) (MM.gJ KX G ?a32 ?l32 ?c32 ?k32) (MM.gJ KX G ?a33 ?l33 ?c33 ?k33) (MM.gJ KX G ?a34 ?l34 ?c34 ?k34) (MM.gJ KX G ?a35 ?l35 ?c35 ?k35) (MM.gJ KX G ?a36 ?l36 ?c36 ?k36) (MM.gJ KX G ?a37 ?l37 ?c37 ?k37) (MM.D_ KX G ?a38 ?l38 ?c38 ?k38 ?t38) (MM.gJ KX G ?a39 ?l39 ?c39 ?k39) (MM.iI (b7 KX G ?z0) (MM.iI (b7 KX G ?z1) (MM.iI (b7 KX G ?z2) (MM.iI (b7 KX G ?z3) (MM.iI (b7 KX G ?z4) (MM.iI (b7 KX G ?z5) (MM.iI (b7 KX G ?z6) (MM.iI (b7 KX G ?z7) (MM.iI (b7 KX G ?z8) (MM.iI (b7 KX G ?z9) (MM.iI (b7 KX G ?z10) (MM.iI (b7 KX G ?z11) (MM.iI (b7 KX G ?z12) (MM.iI (b7 KX G ?z13) (MM.iI (b7 KX G ?z14) MM.Ev))))))))))))))) MM.DA
  case a0|l0|c0|k0|a1|l1|c1|k1|a2|l2|c2|k2|a3|l3|c3|k3|a4|l4|c4|k4|a5|l5|c5|k5|a6|l6|c6|k6|a7|l7|c7|k7|a8|l8|c8|k8|a9|l9|c9|k9|a10|l10|c10|k10|a11|l11|c11|k11|a12|l12|c12|k12|a13|l13|c13|k13|a14|l14|c14|k14|a15|l15|c15|k15|a16|l16|c16|k16|a17|l17|c17|k17|a18|l18|c18|k18|a19|l19|c19|k19|a20|l20|c20|k20|a21|l21|c21|k21|a22|l22|c22|k22|a23|l23|c23|k23|a24|l24|c24|k24|a25|l25|c25|k25|a26|l26|c26|k26|a27|l27|c27|k27|a28|l28|c28|k28|a29|l29|c29|k29|a30|l30|c30|k30|a31|l31|c31|k31|a32|l32|c32|k32|a33|l33|c33|k33|a34|l34|c34|k34|a35|l35|c35|k35|a36|l36|c36|k36|a37|l37|c37|k37|a38|l38|c38|k38|t38|a39|l39|c39|k39|z0|z1|z2|z3|z4|z5|z6|z7|z8|z9|z10|z11|z12|z13|z14=>k_is