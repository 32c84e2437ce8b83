import PyProof.Rows.All
import Wide.All
import OpenK.AllK
import Wide.FinOn
import Lean
import PyProof.EqAt
import PyProof.EqKinds
import PyProof.TupleCall
import PySem.Syntax
import KE.KNestM
import KE.KLam
import PyProof.NeKinds
import PyProof.IsRules
import PyProof.Rows.StrRev
import KE.KSortTup
import PyProof.Rows.ZipGen
import KE.KRevIter
import KE.KDictList
import KE.KIntText
import PyProof.Rows.StrNews
import PyProof.Rows.StrJoin2
import PyProof.Rows.FStr
import PyProof.StrWalks
import PyProof.StrLawsTight
import KE.KSort
import PyProof.Rows.SetFrom
import KE.KDictSum
import PyProof.ExcInit
import PyProof.ExcClass3
import PyProof.ExcBaseAll.ValueError
import PyProof.ExcAttrAll.ValueError
import PyProof.ExcArgsOwn
import PySem.SetOps
import PyProof.TupleOfGen
import PyProof.MinMaxWalk
import PyProof.FactsAll.tuple_2
import KE.KMinBuiltin
import PyProof.Rows.CallKwBuiltin
import PyProof.DictUpdate
import KE.KDictOf
import PyProof.DictItems
import KE.KPairComp
import PySem.Challenge.RW_pactboards_k31_deeds_on_a_board
local macro_rules|`(tactic| nofun)=>`(tactic| decide +kernel)
local macro_rules|`(tactic| ext)=>`(tactic| first|lia|omega)
set_option compiler.extract_closed false
set_option genSizeOf false
set_option Elab.async false
set_option linter.all false
set_option maxRecDepth 100000
set_option maxHeartbeats 4000000
open And renaming intro->aC
open Array renaming ext'->FZ,forIn_toList->pi,getElem?_eq_getElem->fQ,getElem?_eq_none->mU,getElem?_toList->dQ,length_toList->d_,toList->Cg
open Bool renaming and_eq_true->bh,decide_and->nv,eq_false_iff->xI,eq_iff_iff->zE,false_and->sD,false_eq_true->aY,false_ne_true->bv,false_or->Ck,not_eq_true'->xG,not_false->kf,not_true->eZ,or_eq_false_iff->vt,or_eq_true->kT
open Classical renaming byContradiction->qB,choose->i7,propDecidable->rD
open False renaming elim->cT
open ForInStep renaming yield->mj
open Int renaming emod_lt_of_pos->iX,emod_nonneg->lg,le_antisymm->Am,le_trans->FX,toNat_natCast->bo,toNat_of_nonneg->gz
open List renaming all_cons->cj,all_eq_true->dW,all_map->Df,any_cons->d9,any_eq_true->yu,append_assoc->bF,append_nil->br,concat_eq_append->u5,cons_append->io,count_append->qc,dropLast_eq_take->uW,drop_eq_getElem_cons->dM,drop_length->yo,drop_zero->sG,eq_nil_or_concat->u4,ext_getElem?->fA,filterMap_cons->oH,filter_append->iP,filter_cons_of_neg->gA,filter_cons_of_pos->iY,filter_map->zN,find?_cons->cM,find?_isSome->xJ,flatMap_append->wk,flatMap_cons->md,flatten_cons->gT,foldl->wz,foldl_append->p0,foldl_cons->rC,forIn_cons->nw,forIn_nil->sH,getD_eq_getElem?_getD->lL,getElem?_append_left->av,getElem?_append_right->aM,getElem?_cons_zero->uh,getElem?_drop->wF,getElem?_eq_getElem->ai,getElem?_eq_none->bT,getElem?_eq_some_iff->ac,getElem?_inj->eD,getElem?_map->ak,getElem?_mapIdx->vw,getElem?_of_mem->kN,getElem?_range->gp,getElem?_replicate->fw,getElem?_set_ne->ag,getElem?_set_self->aw,getElem?_take_of_lt->bO,getElem?_zipWith->kD,getElem_map->mO,getElem_mem->bA,getElem_toArray->kP,idxOf_cons->rG,idxOf_lt_length_iff->ck,isEmpty_iff->mP,length->dP,length_append->aE,length_cons->bC,length_drop->gq,length_dropLast->vo,length_eq_zero_iff->mQ,length_erase_of_mem->tH,length_filter_le->kF,length_map->ae,length_nil->iK,length_pos_of_mem->ur,length_range->pZ,length_replicate->eU,length_set->cL,length_singleton->uR,length_take->aZ,length_zipWith->oO,lookup->FW,lookup_cons->kG,lookup_cons_self->uY,map->sJ,map_append->bj,map_congr_left->dO,map_cons->aO,map_map->e8,map_nil->mY,map_set->p9,mem_append->aV,mem_append_left->cB,mem_append_right->bE,mem_cons->bn,mem_cons_of_mem->bD,mem_cons_self->cE,mem_filter->iI,mem_filterMap->lK,mem_flatMap->yv,mem_iff_getElem?->aL,mem_map->cz,mem_map_of_mem->iw,mem_of_getElem?->az,mem_of_mem_take->fq,mem_range->j_,mem_singleton->aI,nil_append->nt,nodup_append->cP,nodup_cons->eK,nodup_nil->oh,not_mem_nil->im,of_mem_zip->np,range->bG,range_succ->fS,range_succ_eq_map->m4,replicate->aP,replicate_succ->dN,reverse_cons->fV,set_append_right->nJ,set_cons_zero->wH,size_toArray->aH,sum_append->kU,sum_cons->gL,sum_nil->p_,take_append_of_le_length->gE,take_length->cN,take_of_length_le->m5,take_sublist->pV,take_succ->dG,take_succ_eq_append_getElem->kj,take_take->As,zipIdx_cons->yq,zipIdx_nil->zJ
open List.Pairwise renaming nil->sE
open List.cons renaming inj->lG
open Nat renaming add_assoc->pq,div_eq_of_lt->iu,le_antisymm->Ar,le_max_left->Ap,le_max_right->zM,le_of_eq->FR,le_of_lt->fH,le_of_not_lt->ra,le_refl->ay,le_succ->wc,le_trans->bZ,lt_irrefl->cn,lt_of_le_of_lt->xH,lt_of_lt_of_le->a_,lt_of_sub_eq_succ->vx,lt_succ_of_lt->ml,lt_succ_self->kK,lt_trans->nu,min_eq_left->nI,mul_add_div->iN,mul_comm->gF,mul_le_mul_right->oB,ne_of_gt->eE,ne_of_lt->bz,not_lt_zero->rZ,pow_succ->nA,sub_self->ff,succ_mul->qt,zero_add->uZ,zero_le->bY
open Nat.succ renaming inj->oP
open Ne renaming symm->bX
open Option renaming bind_eq_some_iff->tx,getD_none->pW,getD_some->f_,isSome_iff_exists->lV,isSome_map->lP,isSome_none->vv,isSome_some->oJ,map_eq_some_iff->dH,map_some->cI
open Option.some renaming inj->aG
open PyProof.Rows renaming AllBare->lm,IntsAre->lx,IsTup->zA,Subscript_->Ci,callWith_type1->fm,envOfC->oz,kmb_tree->rg,slot_tuple_getitem->nS,subscriptTail->v7,subscriptTail_builtinR->xA,tail_any->zC,wpAny_notIn_heap->FS
open PyProof.Rows.IntsAre renaming length->xF
open PySem renaming Addr->aj,Arguments->nR,Around->bH,BindsTo->rR,CmpOp->uL,DictEntry->iJ,Expr->FU,FuncData->cY,Heap->bK,HeapKind->uS,InCallC->oA,IsItemIter->iC,IsItemIterOut->wg,IsPair->iB,IsPart->tq,IsTupleKey->Cn,IsZip->oM,Keyword->lY,Model->C4,NameKind->dE,Operator->rQ,Paired->eQ,PassesOwn->tj,Scope->dD,Shared->ao,Spec->d8,Stmt->FV,TriplesOk->nW,Value->af,Within->Ce,World->bN,argBest->mZ,assign->ox,assignEach->dI,atKey->lF,atKey_none_of_get->Dd,attributeBase->eL,backToKw->uQ,behindInMarks->gC,binaryOp->e_,bindArgs->lE,bindC->pE,bindL->pD,bootBuiltins->cV,builtinsNs->mG,cLine->dk,call->v9,call_meets->q_,call_meetsIn->xD,callerA->lA,cellsFrom->bM,closureFor->uT,codeAmong->lb,codeAny->ke,codeAny_builtin->ki,codeAny_call_function->ym,codeAny_mono->kI,compareOp->dB,concat_meets->xz,dictSet->Dc,dictSetDefault->uX,entryOfKey->ou,eqIsQuiet->pX,eqIsQuiet_byValue->Db,evalArgs_none->vn,evalPart_none->v6,field->uV,firstArgMember->kL,foldedSetIterable->fE,getItem->pT,getattributeRaised->Cr,holding->lw,intItems->uU,intItems_at->zF,intKind->pS,isInstance->Co,isSubtype_stop->pJ,isSubtype_tuple_tuple->pj,keywordEach->pG,letOwnedTupleGo->oI,mainGlobals->cD,mem_of_lookup->aW,model->bb,name_of_addr->xy,newExc->xE,newFunctionEnv->pH,noFill_tuple_add->tm,not_mem_keys_of_get->Ak,numAt->nX,numAt_eq->zG,plainId_quiet->i9,pushCells->wB,pushCells_keeps->lR,putAt->tE,pyIter->Ch,pyNext->iU,rawInt->fB,relabel->kg,release->C6,seqIndex_neg->rT,seqIndex_of->tD,seqItems?->lc,seq_tuple_add->v5,setField->zK,setItem->oy,sizeLine_eq->mX,size_of_entries->lQ,sliceBounds->fL,slicePick->wx,slot_list_getitem->rV,standAt->xr,storeName->tf,storedH->lB,swapsWith->kt,sysModules->cX,tupleKind->s_,tupleKind_room_in1->rb,typeIs_int->Cj,typeLookup->uP,unaryOp->C7,valueAt->rW,wpAny->aJ,wpAny_Call_Name_kw->gR,wpAny_Call_method0_late->wy,wpAny_Call_method_late->xC,wpAny_Dict_empty->FT,wpAny_Name->Cf,wpAny_assign_Name->C5,wpAny_attempt->i6,wpAny_bind->ab,wpAny_call->uN,wpAny_callSpecial?_slot->b9,wpAny_call_entry->cF,wpAny_dictEntries->fF,wpAny_dictEpoch->kh,wpAny_dictFind_heap->Aj,wpAny_eqBool_int->sZ,wpAny_execs_cons->FP,wpAny_execs_nil->ue,wpAny_field->cU,wpAny_fieldsOf->pL,wpAny_forIn_list->nV,wpAny_getItem_heap->Cm,wpAny_getItem_list_neg->xB,wpAny_getItem_list_slice->v8,wpAny_handled->wa,wpAny_holding->c_,wpAny_isInstance->fO,wpAny_isOneOf_itemiter->oD,wpAny_isOneOf_keyiter->yr,wpAny_letGo->iA,wpAny_loadPart'->hU,wpAny_mono->gQ,wpAny_newObj_type->cg,wpAny_notOrdered_dict->kS,wpAny_of_eq->pI,wpAny_onRaise->qy,wpAny_passesOwn->g_,wpAny_pure->au,wpAny_pyHash_int->FN,wpAny_pyIter_enum->Dg,wpAny_pyIter_keyiter->zL,wpAny_pyIter_list->ik,wpAny_pyIter_slot->Dh,wpAny_pyIter_tuple->kq,wpAny_pyIter_zip->FY,wpAny_pyNext_list_end->yl,wpAny_pyNext_list_item->xt,wpAny_ret_mkInt->G7,wpAny_rule->gU,wpAny_seqItems->dA,wpAny_sequenceKey->C8,wpAny_setField->mI,wpAny_setField_rec->dj,wpAny_specialOf->oK,wpAny_standAt->vX,wpAny_storeName_cell->zB,wpAny_storeName_local->x_,wpAny_throw->zH,wpAny_truthy_bool->fD,wpAny_tryCatch->kM,wpAny_tupleItemsOf->rf,wpAny_typeNameOfWhole_itemiter->gG,wpAny_typeNameOfWhole_keyiter->gN,wpAny_typeNameOf_itemiter->iO,wpAny_typeNameOf_keyiter->i8,wpAny_typeOf->rS,wpAny_updateDictKeys->zD,wpAny_updateSeq->ug,wpAny_updateSeq_pair->pK
open PySem.Around renaming frames_deeper->ul,under_plainId->fR
open PySem.Builtin.Builtins renaming bindParams->fY
open PySem.Builtin.Dict renaming pairItems->qA,showsAll->iL
open PySem.Builtin.Dict_items renaming ownedTupleFields->lT,ownedTupleIsFree->lU,ownsTuple->eJ,pairFromOwner->mn
open PySem.Builtin.List renaming listTooLong->kR
open PySem.Builtin.Range renaming rangeSize->pU
open PySem.Builtin.Slice renaming sliceAdjust->kJ,sliceApplied->pf,slicePlaces->gI
open PySem.Builtin.SmallTypes renaming nextOf->cf,ownedTupleHandOut->lM,ownedTupleIsFree->eW
open PySem.Builtin.Tuple renaming tupleExact->gS,tupleHashOf->dC,tupleItemsOf->ph
open PySem.Calls renaming Name_function_global->rP,callWith_builtin->i5,evalArgs_plain->nU,spliced_cons->vZ,spliced_nil->ww
open PySem.Challenge renaming pw_pactboards_k31_deeds_on_a_board->kr
open PySem.F renaming args_dict_itemiterator_next_1->rE,args_dict_keyiterator_next_1->rX,args_tuple_add_2->lO,args_tuple_iterator_next_1->tw,args_zip_next_1->An,entry_dict_itemiterator_next->r6,entry_dict_keyiterator_next->sI,entry_max->vz,entry_max_loop->iW,entry_tuple_add->lZ,entry_tuple_iterator_next->tF,entry_zip_next->Cp,kind_max->wj,plainAttrs_dict->Ao,plainAttrs_list->sF,plain_max->vy,plain_max_loop->cZ,slot_dict_itemiterator_next->gJ,slot_dict_items->Aq,slot_dict_items_iter->we,slot_dict_iter->Cq,slot_dict_keyiterator_next->gW,slot_dict_len->De,slot_dict_setdefault->wd,slot_dict_setitem->yn,slot_enumerate_next->wC,slot_int_rmul->C9,slot_tuple_add->mH,slot_tuple_eq->n_,slot_tuple_hash->mN,slot_tuple_iterator_next->ir,slot_zip_next->og
open PySem.Heap renaming ExtBut->l_,IsTuple->um,SameBut->cO,get?_push_of_some->aq,get?_push_size->aF,get?_update_other->da,get?_update_self->cG,lt_size->aK,size_push->cq
open PySem.Heap.DictOfH renaming new->tG
open PySem.Heap.IsSliceOf renaming new->rB
open PySem.Heap.Ns renaming new->Al
open PySem.Heap.SameBut renaming update->cu
open PySem.NameKind renaming cell->fC,free->bI
open PySem.Obj renaming cls_mapFields->yp,data_mapDict->mT,data_mapDictKeys->dY,data_mapFields->lS,isFreed_of_dict->gu,isFreed_of_fields->vp,mapFields->Di,mapSeq->pF
open PySem.Paired renaming length->di,snoc->nF
open PySem.PassesOwn renaming never->kE
open PySem.ScopeKind renaming function->uf
open PySem.SeqAt renaming EqAt->FQ
open PySem.SeqAt.EqAt renaming int_str->tz,str_int->tB
open PySem.SetTable renaming below->qz
open PySem.Shared renaming TypeIs->oC,heap->uo
open PySem.Str renaming ofString->aA
open PySem.Value renaming bool->dq,builtin->Ai,float->C3,int->gh,isInt->qx,isStrOf->Ah,none->bQ,ref->bc,str->iM,type->vW
open PySem.Value.type renaming inj->vq
open PySem.W renaming Frag->ah,KasT->zI,KatTups->wE,OpenLaw->wG,WalkO->yt,callWith_K->uO,cellsFrom_some->iV,codeHdIn->eR,codeHd_of_K->uq,codeIn->fX,findIn->xw,fnOf->cK,fnX->pY,instObj->qr,kas_sort->ma,kat_nil->wD,keepIn->cS,kia_one->df,kitOne->fW,kitx_dict->vm,kitx_list->pe,kitx_tuple->uM,kla_obj->wA,lookIn->qZ,methodObj->pc,mg_none_of->cw,mg_of->rY,nsIn->fP,plainGet->vY,tabObj->d7
open PySem.W.WData renaming int->G6
open PySem.W.WShape renaming has->C_
open PySem.Walks renaming list->v_
open Sum renaming inl->lD,inr->qq
open True renaming intro->eX
noncomputable section
noncomputable def aD:=@if_pos
noncomputable def aB:=@if_neg
noncomputable def aT:=@decide_eq_false
noncomputable def bV:=@decide_eq_true
noncomputable def bq:=@absurd
noncomputable def cC:=@congrArg
namespace L2
open PySem PySem.Spec PyProof.Rows
noncomputable abbrev Key:=Sum Int Str
def sA:Key->af->Bool
 | .inl k,v=>qx k v
 | .inr x,v=>Ah x v
def G9(w:bN):Key->Int
 | .inl k=>hashInt k
 | .inr x=>hashStr w x
theorem fN:∀{k:Key}{v:af},sA k v=true->(∃i t,k=lD i/\v=gh i t)\/(∃x t,k=qq x/\v=iM x t)
 | .inl i,v,h=>by obtain⟨t,e⟩:=af.isInt_shape (k:=i) (v:=v) h;exact .inl ⟨i,t,rfl,e⟩
 | .inr x,v,h=>by obtain⟨t,e⟩:=af.isStrOf_shape (x:=x) (v:=v) h;exact .inr ⟨x,t,rfl,e⟩
theorem UI(i:Int)(t:Tok):sA (.inl i) (.int i t)=true:=by simp[sA,qx]
theorem PM(x:Str)(t:Tok):sA (.inr x) (.str x t)=true:=by simp[sA,Ah]
theorem UP(a b:Int):decide ((lD a:Key)=lD b)=(a == b):=by
 by_cases e:a=b
 ·subst e;simp
 ·have h:¬ (lD a:Key)=lD b:=λq=>e (lD.inj q);rw[aT h];exact (beq_eq_false_iff_ne.mpr e).symm
theorem Pq(a b:Str):decide ((qq a:Key)=qq b)=decide (a=b):=by
 by_cases e:a=b
 ·subst e;simp
 ·have h:¬ (qq a:Key)=qq b:=λq=>e (qq.inj q);rw[aT h,aT e]
theorem V2(a:Int)(b:Str):decide ((lD a:Key)=qq b)=false:=aT nofun
theorem XQ(a:Str)(b:Int):decide ((qq a:Key)=lD b)=false:=aT nofun
def gH(prog:Program)(w:bN):PySem.KeyKind prog w Key where
 is:=sA
 hash:=G9 w
 inj:=λv a b l g=>by
  rcases fN l with ⟨i,t,rfl,rfl⟩|⟨x,t,rfl,rfl⟩
  ·rcases fN g with ⟨j,u,rfl,e⟩|⟨y,u,rfl,e⟩
   ·injection e with e1 _;rw[e1]
   ·exact nomatch e
  ·rcases fN g with ⟨j,u,rfl,e⟩|⟨y,u,rfl,e⟩
   ·exact nomatch e
   ·injection e with e1 _;rw[e1]
 byValue:=λk v h=>by rcases fN h with ⟨i,t,rfl,rfl⟩|⟨x,t,rfl,rfl⟩<;>rfl
 pyHash:=λc h=>by
  rcases fN c with ⟨i,t,rfl,rfl⟩|⟨x,t,rfl,rfl⟩
  ·exact FN h
  ·exact wpAny_pyHash_str h
 eqBool:=λhu c h=>by
  rcases fN hu with ⟨i,t,rfl,rfl⟩|⟨x,t,rfl,rfl⟩
  ·rcases fN c with ⟨j,u,rfl,rfl⟩|⟨y,u,rfl,rfl⟩
   ·rw[UP]at h;exact sZ h
   ·rw[V2]at h;exact tz i t y u _ _ _ _ h
  ·rcases fN c with ⟨j,u,rfl,rfl⟩|⟨y,u,rfl,rfl⟩
   ·rw[XQ]at h;exact tB x t j u _ _ _ _ h
   ·rw[Pq]at h;exact wpAny_eqBool_str h
 «strs»:=λk x t v h=>by
  rcases fN h with ⟨i,u,rfl,e⟩|⟨y,u,rfl,e⟩
  ·exact nomatch e
  ·injection e with e1 _
   subst e1;cases v<;>rfl
theorem S8(prog:Program)(w:bN)(i:Int)(t:Tok):(gH prog w).is (.inl i) (.int i t)=true:=UI i t
theorem Pp(prog:Program)(w:bN)(x:Str)(t:Tok):(gH prog w).is (.inr x) (.str x t)=true:=PM x t
inductive V where
 |non|bl (b:Bool)|int (i:Int)|str (x:Str)|byt (b:Array UInt8)|flt (b:UInt64)|ref (a:aj)|ty (n:String)
 deriving DecidableEq
noncomputable def RelV:V->af->Prop
 | .non,u=>u=bQ
 | .bl b,u=>u=dq b
 | .int i,u=>∃t,u=gh i t
 | .str x,u=>∃t,u=iM x t
 | .byt b,u=>∃t,u=af.bytes b t
 | .flt b,u=>∃t,u=C3 b t
 | .ref a,u=>u=bc a
 | .ty n,u=>u=vW n
abbrev bU:List V->List af->Prop:=eQ RelV
theorem bU.length{xs:List V}{c:List af}(r:bU xs c):xs.length=c.length:=di r
theorem bU.get:∀{xs:List V}{c:List af}{i:Nat}{x:V},bU xs c->xs[i]?=some x->∃u,c[i]?=some u/\RelV x u
 |_,_,_,_,.nil,e=>by simp at e
 |_,_,0,_,.cons r _,e=>by simp at e;subst e;exact⟨_,rfl,r⟩
 |_,_,i+1,x,.cons _ t,e=>by obtain⟨u,h,g⟩:=bU.get (i:=i) (x:=x) t (by simpa using e);exact⟨u,by simpa using h,g⟩
theorem bU.set{x:V}{u:af}(r:RelV x u):∀{xs:List V}{c:List af}(i:Nat),bU xs c->bU (xs.set i x) (c.set i u)
 |_,_,_,.nil=>.nil
 |_,_,0,.cons _ t=>.cons r t
 |_,_,i+1,.cons q t=>.cons q (bU.set r i t)
theorem bU.append:∀{xs ys:List V}{c ws:List af},bU xs c->bU ys ws->bU (xs++ys) (c++ws)
 |_,_,_,_,.nil,s=>s
 |_,_,_,_,.cons r t,s=>.cons r (bU.append t s)
theorem bU.take:∀{xs:List V}{c:List af}(n:Nat),bU xs c->bU (xs.take n) (c.take n)
 |_,_,0,_=>.nil
 |_,_,_+1,.nil=>.nil
 |_,_,n+1,.cons r t=>.cons r (bU.take n t)
theorem bU.drop:∀{xs:List V}{c:List af}(n:Nat),bU xs c->bU (xs.drop n) (c.drop n)
 |_,_,0,r=>r
 |_,_,_+1,.nil=>.nil
 |_,_,n+1,.cons _ t=>bU.drop n t
def py:Option V->Option af->Prop
 |some v,some u=>RelV v u
 |none,none=>True
 |_,_=>False
def KV{κ:Type}:List (κ×V)->List (κ×af)->Prop:=eQ λ(p:κ×V)(q:κ×af)=>p.1=q.1/\RelV p.2 q.2
def kV:Key->V
 | .inl i=>.int i
 | .inr x=>.str x
inductive HO where
 |lst (xs:List V)
 |tup (xs:List V)
 |dK (cp:List (Key×V))|dT (cp:List (List Key×V))
 |set (S:Int->Bool) (n:Nat)
 |ins (C dx:aj) (fs:List (Str×V))
 |own (x:aj)
 |xd (fs:List (Str×V))
 |met (f x:aj)
 |rng (lo hi:Int)
 |frz (o:Obj) (u:HO)
 |tbl (ps:Array af)
 |ext (φ:bK->Prop)
noncomputable abbrev Hp:=aj->Option HO
noncomputable def fJ(H:Hp)(a:aj)(o:HO):Hp:=λb=>if b=a then some o else H b
theorem ky{H:Hp}{a:aj}{o:HO}:fJ H a o a=some o:=by unfold fJ;rw[aD rfl]
theorem fZ{H:Hp}{a b:aj}{o:HO}(h:b≠a):fJ H a o b=H b:=by unfold fJ;rw[aB h]
theorem Rt{H:Hp}{a b:aj}{o u:HO}(h:H a=some o)(h':H b=some u)(d:o≠u):a≠b:=by intro e;subst e;rw[h]at h';exact d (aG h')
theorem mR{H:Hp}{a b:aj}{o:HO}(h:H a=some o)(h':H b=none):a≠b:=by intro e;subst e;rw[h]at h';cases h'
noncomputable def kH(h:bK)(a:aj)(its:Array af):Prop:=∃o,h.get? a=some o/\o.cls=.type "tuple"/\(∃n,o.data=.seq its n)/\o.dict=none
theorem kH.is{h:bK}{a:aj}{its:Array af}(p:kH h a its):zA h a its:=let ⟨o,e,c,d,_⟩:=p;⟨o,e,c,d⟩
theorem kH.lt{h:bK}{a:aj}{its:Array af}(p:kH h a its):a < h.objs.size:=p.is.lt
theorem kH.new(h:bK)(its:Array af):kH (h.push { cls:=.type "tuple",data:=.seq its }) h.objs.size its:=⟨_,aF _ rfl,rfl,⟨_,rfl⟩,rfl⟩
section
variable(P:Program)(w:bN)
def eS(H:Hp)(h:bK)(a:aj):HO->Prop
 | .lst xs=>xs.length<=sizeLine/\∃(its:List af)(n:Nat),bU xs its/\h.get? a=some { cls:=.type "list",data:=.seq its.toArray n }
 | .tup xs=>xs.length<=sizeLine/\∃its:List af,bU xs its/\kH h a its.toArray
 | .dK cp=>cp.length<=sizeLine/\(a == cX)=false/\∃g,KV cp g/\h.DictOf (gH P w) a g
 | .dT cp => cp.length <= sizeLine /\ (a == cX) = false /\ ∃xs : List (List Key×aj×af),
   eQ (λ(p:List Key×V)(q:List Key×aj×af)=>p.1=q.1/\H q.2.1=some (.tup (p.1.map kV))/\RelV p.2 q.2.2) cp xs /\
   ∃o E ep,h.get? a=some o/\o.ExactDict/\o.data=.dict E ep/\E.toList=xs.map (ou (s_ (gH P w)))/\(xs.map (·.1)).Nodup
 | .set S n=>h.SetOf (pS P w) a S n
 | .ins C dx fs => H dx = some (.own a) /\ fs.length <= 1000 /\ dx ≠ a /\ h.get? a = some (qr C dx) /\
   ∃c,h.Ns1 dx c/\(∀f,py (fs.lookup f) (c f))/\Ce c (fs.map (·.1))
 | .own _=>∃o,h.get? a=some o
 | .xd fs=>∃c,h.Ns1 a c/\∀f,py (fs.lookup f) (c f)
 | .rng lo hi=>∃t u v,h.get? a=some { cls:=.type "range",data:=.fields #[.int lo t,.int hi u,.int 1 v] }
 | .frz o u=>h.get? a=some o/\eS H h a u
 | .tbl ps=>h.get? a=some { cls:=.none,data:=.fields ps }
 | .met f x=>h.get? a=some (pc (.ref f) (.ref x))
 | .ext φ=>φ h/\(∃o,h.get? a=some o)/\∀B l:bK,φ B->(∀o,B.get? a=some o->l.get? a=some o)->φ l
def mJ(H:Hp)(h:bK):Prop:=∀a o,H a=some o->eS P w H h a o
end
section
variable{P:Program}{w:bN}{H H':Hp}{h h':bK}{a:aj}{o:HO}
theorem eS.lt(x:eS P w H h a o):a < h.objs.size:=by
 cases o with
 |lst xs=>obtain⟨_,_,_,_,e⟩:=x;exact aK e
 |tup xs=>obtain⟨_,_,_,p⟩:=x;exact p.lt
 |dK cp=>obtain⟨_,_,_,_,o,_,_,e,_⟩:=x;exact aK e
 |dT cp=>obtain⟨_,_,_,_,o,_,_,e,_⟩:=x;exact aK e
 |set S n=>obtain⟨o,_,_,_,e,_⟩:=x;exact aK e
 |ins C dx fs=>obtain⟨_,_,_,e,_⟩:=x;exact aK e
 |own y=>obtain⟨_,e⟩:=x;exact aK e
 |xd fs=>obtain⟨_,⟨_,_,_,e,_⟩,_⟩:=x;exact aK e
 |rng lo hi=>obtain⟨_,_,_,e⟩:=x;exact aK e
 |frz ob u=>obtain⟨e,_⟩:=x;exact aK e
 |tbl ps=>exact aK (show h.get? a=some _ from x)
 |met f y=>exact aK (show h.get? a=some _ from x)
 |ext φ=>obtain⟨_,⟨_,e⟩,_⟩:=x;exact aK e
theorem eQ.mapP{α β:Type}{F G:α->β->Prop}:∀{l₁:List α}{l₂:List β},eQ F l₁ l₂->(∀a b,F a b->G a b)->eQ G l₁ l₂
 |_,_,.nil,_=>.nil
 |_,_,.cons r t,f=>.cons (f _ _ r) (eQ.mapP t f)
theorem eS.stay(x:eS P w H h a o)(k:∀b u,(b=a\/H b=some (.own a))->h.get? b=some u->h'.get? b=some u)
  (L:∀b,H b=some (.own a)->H' b=some (.own a)) (J:∀b xs,H b=some (.tup xs)->H' b=some (.tup xs)):eS P w H' h' a o:=by
 induction o with
 |lst xs=>obtain⟨z,its,n,r,e⟩:=x;exact⟨z,its,n,r,k _ _ (.inl rfl) e⟩
 |tup xs=>obtain⟨z,its,r,g,e,c⟩:=x;exact⟨z,its,r,g,k _ _ (.inl rfl) e,c⟩
 |dK cp=>obtain⟨z,y,G,r,g,l,ep,e,c⟩:=x;exact⟨z,y,G,r,g,l,ep,k _ _ (.inl rfl) e,c⟩
 |dT cp=>
  obtain⟨z,y,xs,r,g,l,ep,e,c⟩:=x;exact⟨z,y,xs,eQ.mapP r λp q z=>⟨z.1,J _ _ z.2.1,z.2.2⟩,g,l,ep,k _ _ (.inl rfl) e,c⟩
 |set S n=>obtain⟨g,l,ep,t,e,c⟩:=x;exact⟨g,l,ep,t,k _ _ (.inl rfl) e,c⟩
 |ins C dx fs=>
  obtain⟨d,z,I,e,E,⟨B,l,ep,O,c⟩,r⟩:=x;exact⟨L _ d,z,I,k _ _ (.inl rfl) e,E,⟨B,l,ep,k _ _ (.inr d) O,c⟩,r⟩
 |own y=>obtain⟨g,e⟩:=x;exact⟨g,k _ _ (.inl rfl) e⟩
 |xd fs=>obtain⟨E,⟨B,l,ep,e,c⟩,r⟩:=x;exact⟨E,⟨B,l,ep,k _ _ (.inl rfl) e,c⟩,r⟩
 |rng lo hi=>obtain⟨t,u,v,e⟩:=x;exact⟨t,u,v,k _ _ (.inl rfl) e⟩
 |frz g u ih=>obtain⟨e,q⟩:=x;exact⟨k _ _ (.inl rfl) e,ih q⟩
 |tbl ps=>
  have e:h.get? a=some { cls:=.none,data:=.fields ps }:=x
  show h'.get? a=some { cls:=.none,data:=.fields ps };exact k a _ (.inl rfl) e
 |met f y=>
  have e:h.get? a=some (pc (.ref f) (.ref y)):=x
  show h'.get? a=some (pc (.ref f) (.ref y));exact k a _ (.inl rfl) e
 |ext φ=>obtain⟨p,⟨o,e⟩,st⟩:=x;exact⟨st _ _ p λo q=>k _ _ (.inl rfl) q,⟨o,k _ _ (.inl rfl) e⟩,st⟩
theorem mJ.lt(x:mJ P w H h)(e:H a=some o):a < h.objs.size:=(x a o e).lt
theorem mJ.fresh(x:mJ P w H h)(e:h.objs.size<=a):H a=none:=by
 cases q:H a with
 |none=>rfl
 |some u=>exact bq (a_ (x.lt q) e) (cn _)
theorem mJ.kept(x:mJ P w H h)(k:∀b u,h.get? b=some u->h'.get? b=some u):mJ P w H h':=λa o e=>
 (x a o e).stay (λb u _ q=>k b u q) (λ_ q=>q) λ_ _ q=>q
theorem mJ.laid(x:mJ P w H h)(k:∀b u,h.get? b=some u->h'.get? b=some u)(B:h.objs.size<=a)(new:eS P w (fJ H a o) h' a o):mJ P w (fJ H a o) h':=λb u e=>by
 have g:=x.fresh B;by_cases l:b=a
 ·subst l;rw[ky]at e;cases e;exact new
 ·rw[fZ l]at e;exact (x b u e).stay (λc v _ q=>k c v q) (λc q=>by rw[fZ (mR q g)];exact q) λc xs q=>by rw[fZ (mR q g)];exact q
end
noncomputable def Rd(H:Hp)(a:aj)(u:HO):Prop:=H a=some u\/∃o,H a=some (.frz o u)
theorem Rd.ok{P:Program}{w:bN}{H:Hp}{h:bK}{a:aj}{u:HO}(r:Rd H a u)(x:mJ P w H h):eS P w H h a u:=by
 rcases r with r|⟨o,r⟩
 ·exact x a u r
 ·obtain⟨_,q⟩:=x a _ r;exact q
noncomputable def Eu:Option HO->Prop
 |some (.lst _)=>True
 |some (.dK _)=>True
 |some (.dT _)=>True
 |some (.set _ _)=>True
 |some (.ins _ _ _)=>True
 |some (.ext _)=>True
 |_=>False
section
variable{P:Program}{w:bN}{H:Hp}{h h':bK}{x e:aj}{o':HO}
theorem mJ.write(ok:mJ P w H h)(B:Eu (H x))(J:e=x\/H e=some (.own x))(k:∀b u,b≠e->h.get? b=some u->h'.get? b=some u)(G:∃u,h'.get? e=some u)
  (new:eS P w (fJ H x o') h' x o'):mJ P w (fJ H x o') h':=λb u q=>by
 have l:∀c y,H c=some (.own y)->c≠x:=λc y r z=>by subst z;rw[r]at B;exact B
 have o:∀c xs,H c=some (.tup xs)->c≠x:=λc xs r z=>by subst z;rw[r]at B;exact B
 by_cases E:b=x
 ·subst E;rw[ky]at q;cases q;exact new
 ·rw[fZ E]at q;by_cases g:b=e
  ·have I : H b = some (.own x) := by
     rcases J with z|z
     ·exact bq (g.trans z) E
     ·rw[g];exact z
   rw[q]at I;cases I;obtain⟨v,L⟩:=G;exact⟨v,by rw[g];exact L⟩
  ·refine (ok b u q).stay (λc v C r=>k c v ?_ r) (λc r=>by rw[fZ (l c b r)];exact r) λc xs r=>by rw[fZ (o c xs r)];exact r
   rcases C with rfl|C
   ·exact g
   ·rintro rfl
    rcases J with z|z
    ·exact l c b C z
    ·rw[C]at z;cases z;exact E rfl
end
structure Un(fs ex:List aj)(H H':Hp)(h h':bK):Prop where
 keep:∀b o,h.get? b=some o->H b=none->b∉fs->b∉ex->h'.get? b=some o
 slot:∀b o,h.get? b=some o->H b=none->b∈fs->b∉ex->∃sl,h'.get? b=some { o with slots:=sl }
 free:∀b o,h.get? b=some o->H b=none->b∉ex->H' b=none
 there:∀b o,h.get? b=some o->b∉ex->∃o',h'.get? b=some o'
 tups:∀b xs,H b=some (.tup xs)->H' b=some (.tup xs)
 frzs:∀b o u,H b=some (.frz o u)->H' b=some (.frz o u)
 tbls:∀b ps,H b=some (.tbl ps)->∃more,H' b=some (.tbl (ps++more))
section
variable{fs fx ex gc:List aj}{H H1 H2:Hp}{h h1 h2 h':bK}{a x e:aj}{o:HO}
theorem Un.any(u:Un fs ex H H1 h h1){b:aj}{c:Obj}(q:h.get? b=some c)(n:H b=none)(g:b∉ex):∃v,h1.get? b=some { c with slots:=v }:=by
 by_cases l:b∈fs
 ·exact u.slot b c q n l g
 ·exact⟨c.slots,u.keep b c q n l g⟩
theorem Un.kept(k:∀b u,h.get? b=some u->h'.get? b=some u):Un fs ex H H h h':=
 ⟨λb c q _ _ _=>k b c q,λb c q _ _ _=>⟨c.slots,k b c q⟩,λ_ _ _ n _=>n,λb c q _=>⟨c,k b c q⟩,λ_ _ q=>q,λ_ _ _ q=>q,λ_ g q=>⟨#[],by rw[q];simp⟩⟩
theorem Un.refl:Un fs ex H H h h:=Un.kept λ_ _ q=>q
theorem Un.laid(k:∀b u,h.get? b=some u->h'.get? b=some u)(g:h.objs.size<=a)(c:H a=none):Un fs ex H (fJ H a o) h h' where
 keep:=λb u q _ _ _=>k b u q
 slot:=λb u q _ _ _=>⟨u.slots,k b u q⟩
 free:=λb u q n _=>by rw[fZ (bz (a_ (aK q) g))];exact n
 there:=λb u q _=>⟨u,k b u q⟩
 tups:=λb xs q=>by rw[fZ (mR q c)];exact q
 frzs:=λb u xs q=>by rw[fZ (mR q c)];exact q
 tbls:=λb l q=>⟨#[],by rw[fZ (mR q c),q];simp⟩
theorem Un.write(g:Eu (H x))(E:e=x\/H e=some (.own x))(k:∀b u,b≠e->h.get? b=some u->h'.get? b=some u)(v:∃u,h'.get? e=some u):Un fs ex H (fJ H x o) h h':=by
 have B:∀b,H b=none->b≠x:=λb n z=>by subst z;rw[n]at g;exact g
 have C:∀b,H b=none->b≠e:=λb n z=>by
  subst z;rcases E with r|r
  ·exact B b n r
  ·rw[n]at r;cases r
 have l:∀b u,H b=some u->¬ Eu (some u)->b≠x:=λb u q nm z=>by subst z;rw[q]at g;exact nm g
 refine⟨λb u q n _ _=>k b u (C b n) q,λb u q n _ _=>⟨u.slots,k b u (C b n) q⟩,λb u q n _=>by rw[fZ (B b n)];exact n,λb u q _=>?_,
  λb xs q=>by rw[fZ (l b _ q λz=>z)];exact q,λb u xs q=>by rw[fZ (l b _ q λz=>z)];exact q,λb G q=>⟨#[],by rw[fZ (l b _ q λz=>z),q];simp⟩⟩
 by_cases c:b=e
 ·subst c;exact v
 ·exact⟨u,k b u c q⟩
end
noncomputable def trk(h:bK)(H:Hp):List aj:=(bG h.objs.size).filter λa=>(H a).isSome
def om(h:bK)(H:Hp):bK:=PySem.W.hideAll h (trk h H)
theorem Lj(h:bK)(H:Hp):(om h H).objs.size=h.objs.size:=PySem.W.hideAll_size _ _
theorem Ow{h:bK}{H:Hp}{b:aj}{o:Obj}(e:h.get? b=some o)(n:H b=none):(om h H).get? b=some o:=
 PySem.W.hideAll_get _ e λc=>by have q:(H b).isSome=true:=(iI.mp c).2;rw[n]at q;simp at q
theorem Na{h:bK}{H:Hp}{b:aj}{o:Obj}(e:(om h H).get? b=some o):h.get? b=some o/\H b=none:=by
 have c:h.get? b=some o:=PySem.W.of_hideAll (trk h H) e;refine⟨c,?_⟩;cases q:H b with
 |none=>rfl
 |some x=>
  have g:b∈trk h H:=iI.mpr ⟨j_.mpr (aK c),by simp[q]⟩;have z:(om h H).get? b=none:=PySem.W.hideAll_none (trk h H) g;rw[z]at e;cases e
noncomputable def lH(g h:bK)(L:aj):List (aj×Obj):=(bG h.objs.size).filterMap λa=>if a=L\/(g.get? a).isSome=true then none else (h.get? a).map λo=>(a,o)
theorem Nz{g h:bK}{L a:aj}{o:Obj}(q:a≠L)(l:g.get? a=none)(c:h.get? a=some o):(a,o)∈lH g h L:=
 lK.mpr ⟨a,j_.mpr (aK c),by simp[q,l,c]⟩
theorem Sy{g h:bK}{L:aj}{p:aj×Obj}(l:p∈lH g h L):p.1≠L/\g.get? p.1=none/\h.get? p.1=some p.2:=by
 obtain⟨b,_,e⟩:=lK.mp l;split at e
 ·cases e
 ·rename_i c;cases q:h.get? b with
  |none=>rw[q]at e;simp at e
  |some u=>
   rw[q]at e;simp only[cI,Option.some.injEq]at e;subst e;refine⟨λz=>c (.inl z),?_,q⟩
   show g.get? b=none;cases r:g.get? b with
   |none=>rfl
   |some v=>exact (c (.inr (by simp[r]))).elim
def rest(g h:bK)(L d:aj):List (aj×Obj):=(lH g h L).filter λp=>decide (p.1≠d)
theorem Uf{g h:bK}{L:aj}:News g L h (lH g h L):=λp l=>let ⟨a,b,c⟩:=Sy l;⟨c,a,b⟩
structure Mod(K:ah)(mg:Str->Option af)(base:bK):Prop where
 kin:K.In base
 glob:base.Ns cD mg
 blt:∃mb,base.Ns mG mb/\∀x:Str,x≠"__name__"->mb x=cV x
 nolimit:base.NoLimit
structure Cx where
 prog:Program
 w:bN
 K:ah
 mg:Str->Option af
 base:bK
 A:bH
 N:List Str
 s₀:ao
 H₀:Hp
 env:Env
 outer:List Env
 stack:List Env
 ex:List aj
 fn:Str->Bool
 calm:Bool
 pn:List (aj×Obj)
 xe:af->ao->Prop
noncomputable def fK(l:List Env):List aj:=l.filterMap (·.frame)
abbrev Cx.fs(X:Cx):List aj:=fK X.outer
noncomputable def GJ(sc:dD)(x:Str):Prop:=sc.names.lookup x=some .local\/sc.names.lookup x=some .cell\/sc.names.lookup x=some .free
noncomputable def Loc(sc:dD)(x:Str):Prop:=sc.names.lookup x=some .local\/sc.names.lookup x=some .cell
noncomputable def Look(env:Env)(h:bK)(m:Str->Option af)(x:Str)(u:af):Prop:=
 (env.kindOf x=some .local/\m x=some u)\/((env.kindOf x=some .cell\/env.kindOf x=some .free)/\∃c,env.cells.lookup x=some c/\h.IsCell c (some u))
structure Cx.Ok(X:Cx):Prop where
 mod:Mod X.K X.mg X.base
 kind:X.env.scope.kind=.function
 glob:X.env.globals=cD
 blt:X.env.builtins=mG
 above:X.s₀.heap.objs.size<=X.env.locals
 inj:∀x y c,X.env.cells.lookup x=some c->X.env.cells.lookup y=some c->x=y
 has:∀x,(X.env.kindOf x=some .cell\/X.env.kindOf x=some .free)->∃c,X.env.cells.lookup x=some c
 cab:∀x c,X.fn x=true->X.env.cells.lookup x=some c->X.s₀.heap.objs.size<=c
 hd:X.calm=true->X.A.handled=none
 frames:X.A.frames=some X.stack
 stk:X.stack=X.outer\/(X.stack=X.env::X.outer/\X.env.frame=some X.env.locals)
 exf:∀b∈X.ex,b≠X.env.locals/\∀x c,X.env.cells.lookup x=some c->c≠b
 bs:∀b o,X.base.get? b=some o->X.s₀.heap.get? b=some o/\X.H₀ b=none
 bsz:X.base.objs.size<=X.s₀.heap.objs.size
 noex:∀b o,X.base.get? b=some o->b∉X.ex
 exfs:∀b∈X.ex,b∉X.fs
 funs:X.s₀.heap.FunFrames X.base X.outer
 frf:∀b∈X.fs,X.H₀ b=none
structure Inv(X:Cx)(ar:List (aj×Obj))(σ:List (Option V))(H:Hp)(s:ao):Prop where
 ok:X.Ok
 os:s.os=X.s₀.os
 bare:lm s.gens
 base:Un X.fs X.ex X.H₀ H X.s₀.heap s.heap
 loc:∃m,s.heap.Ns X.env.locals m/\∀(i:Nat)(x:Str)(v:V),X.N[i]?=some x->σ[i]?=some (some v)->GJ X.env.scope x->∃u,RelV v u/\Look X.env s.heap m x u
 cell:∀x c,X.env.cells.lookup x=some c->∃v,s.heap.IsCell c v
 free:H X.env.locals=none
 freeC:∀x c,X.env.cells.lookup x=some c->H c=none
 pin:∀p∈X.pn++ar,s.heap.get? p.1=some p.2/\H p.1=none/\p.1≠X.env.locals/\p.1∉X.fs/\∀v,p.2.data≠.cell v
 hok:mJ X.prog X.w H s.heap
 len:σ.length=X.N.length
section
variable{X:Cx}{ar:List (aj×Obj)}{σ:List (Option V)}{H H':Hp}{s:ao}{h':bK}
theorem Cx.Ok.nofr(ok:X.Ok){b:aj}{o:Obj}(e:X.base.get? b=some o):b∉X.fs:=λc=>by have:=(ok.funs.mem c).1;rw[e]at this;cases this
theorem Inv.bs(I:Inv X ar σ H s):∀b o,X.base.get? b=some o->s.heap.get? b=some o/\H b=none:=λb o e=>
 ⟨I.base.keep b o (I.ok.bs b o e).1 (I.ok.bs b o e).2 (I.ok.nofr e) (I.ok.noex b o e),I.base.free b o (I.ok.bs b o e).1 (I.ok.bs b o e).2 (I.ok.noex b o e)⟩
theorem Inv.bk(I:Inv X ar σ H s):∀b o,X.base.get? b=some o->s.heap.get? b=some o:=λb o e=>(I.bs b o e).1
theorem Inv.mod(I:Inv X ar σ H s):Mod X.K X.mg X.base:=I.ok.mod
theorem Inv.kIn(I:Inv X ar σ H s):X.K.In s.heap:=I.ok.mod.kin.keeps I.bk
theorem Inv.fr(I:Inv X ar σ H s):∃m,Fr X.base X.env.locals s.heap m:=
 let ⟨m,hn,_⟩:=I.loc
 ⟨m,hn,I.bk,bZ I.ok.bsz I.ok.above⟩
theorem Inv.lt(I:Inv X ar σ H s):X.env.locals < s.heap.objs.size:=let ⟨_,hn,_⟩:=I.loc;hn.lt
theorem Inv.sz(I:Inv X ar σ H s):X.s₀.heap.objs.size<=s.heap.objs.size:=bZ I.ok.above (fH I.lt)
theorem Inv.nofs(I:Inv X ar σ H s){a:aj}(h:s.heap.objs.size<=a):a∉X.fs:=λg=>by obtain⟨_,o,c,_⟩:=I.ok.funs.mem g;exact bq (a_ (aK c) (bZ I.sz h)) (cn _)
theorem Inv.cne(I:Inv X ar σ H s):∀x c,X.env.cells.lookup x=some c->c≠X.env.locals:=λx c e z=>by obtain⟨v,o,l,hd⟩:=I.cell x c e;obtain⟨m,⟨o',q,ep,g,h,_⟩,_⟩:=I.loc;rw[z,g]at l;cases l;rw[h]at hd;cases hd
theorem Inv.funs(I:Inv X ar σ H s):s.heap.FunFrames X.base X.outer:=by
 have all:∀(l:List Env),(∀b∈fK l,b∈X.fs)->X.s₀.heap.FunFrames X.base l->s.heap.FunFrames X.base l:=by
  intro l
  induction l with
  |nil=>intro _ _;trivial
  |cons env r ih=>
   intro q C;obtain⟨E,⟨L,o,c,B,v,hd⟩,u⟩:=C;have h:L∈X.fs:=q L (by unfold fK;rw[oH,c];exact cE);obtain⟨G,e⟩:=I.base.slot L o v (I.ok.frf L h) h λz=>I.ok.exfs L z h;exact⟨E,⟨L,_,c,B,e,hd⟩,ih (λb g=>q b (by unfold fK;rw[oH,c];exact bD _ g)) u⟩
 exact all X.outer (λ_ g=>g) I.ok.funs
theorem Inv.stack(I:Inv X ar σ H s):s.heap.FunFrames X.base X.stack:=by
 rcases I.ok.stk with e|⟨e,g⟩
 ·rw[e];exact I.funs
 ·rw[e];obtain⟨m,c,_⟩:=I.loc;refine .cons (by rw[I.ok.kind];decide) g c ?_ I.funs;exact bK.get?_none_of_le (bZ I.ok.bsz I.ok.above)
theorem Inv.stkSub(I:Inv X ar σ H s):∀b∈fK X.stack,b∈X.env.locals::X.fs:=λb c=>by
 rcases I.ok.stk with e|⟨e,g⟩
 ·rw[e]at c;exact bD _ c
 ·rw[e]at c;unfold fK at c;rw[oH,g]at c;exact c
theorem Inv.stkFree(I:Inv X ar σ H s):∀b∈fK X.stack,H b=none:=λb c=>by
 rcases bn.mp (I.stkSub b c) with e|c
 ·rw[e];exact I.free
 ·obtain⟨_,o,g,_⟩:=I.ok.funs.mem c;exact I.base.free b o g (I.ok.frf b c) λz=>I.ok.exfs b z c
theorem Inv.step{g':Array GenState}{t':Nat}{d':Drawn}{ch:List aj}(I:Inv X ar σ H s)
  (B:∀b∈ch,(b∈X.ex\/X.s₀.heap.objs.size<=b)/\b≠X.env.locals/\(∀x c,X.env.cells.lookup x=some c->c≠b)/\∀p∈X.pn++ar,p.1≠b)
  (keep:∀b o,b≠X.env.locals->b∉X.fs->b∉ch->s.heap.get? b=some o->H b=none->h'.get? b=some o)
  (slot:∀b o,b≠X.env.locals->b∈X.fs->b∉ch->s.heap.get? b=some o->H b=none->∃sl,h'.get? b=some { o with slots:=sl }) (free:∀b o,b∉ch->s.heap.get? b=some o->H b=none->H' b=none)
  (there:∀b o,b∉ch->s.heap.get? b=some o->∃o',h'.get? b=some o')
  (tups:∀b xs,H b=some (.tup xs)->H' b=some (.tup xs)) (frzs:∀b o u,H b=some (.frz o u)->H' b=some (.frz o u)) (tbls:∀b U,H b=some (.tbl U)->∃more,H' b=some (.tbl (U++more)))
  (ns:∀m,s.heap.Ns X.env.locals m->h'.Ns X.env.locals m) (hok:mJ X.prog X.w H' h') (hg:lm g'):
  Inv X ar σ H' { s with heap:=h',gens:=g',drawn:=d',toks:=t' }:=by
 have O:∀b o,X.s₀.heap.get? b=some o->b≠X.env.locals:=λb o e=>bz (a_ (aK e) I.ok.above);have E:∀b o,X.s₀.heap.get? b=some o->b∉X.ex->b∉ch:=λb o e g J=>by
  rcases (B b J).1 with z|z
  ·exact g z
  ·exact bq (a_ (aK e) z) (cn _)
 have C:∀x c,X.env.cells.lookup x=some c->∀v,s.heap.IsCell c v->h'.IsCell c v:=λx c e v pq1=>by
  obtain⟨o,L,hd⟩:=pq1;have h:c∉ch:=λz=>(B c z).2.2.1 x c e rfl;by_cases hc:c∈X.fs
  ·obtain⟨sl,q⟩:=slot c o (I.cne x c e) hc h L (I.freeC x c e);exact⟨_,q,hd⟩
  ·exact⟨o,keep c o (I.cne x c e) hc h L (I.freeC x c e),hd⟩
 refine⟨I.ok,I.os,hg,⟨λb o e n J g=>?_,λb o e n J g=>?_,λb o e n g=>?_,λb o e g=>?_,λb xs e=>tups b xs (I.base.tups b xs e),λb o xs e=>frzs b o xs (I.base.frzs b o xs e),λb U e=>?_⟩,?_,λx c e=>?_,?_,λx c e=>?_,λp hp=>?_,hok,I.len⟩
 ·exact keep b o (O b o e) J (E b o e g) (I.base.keep b o e n J g) (I.base.free b o e n g)
 ·obtain⟨sl,G⟩:=I.base.slot b o e n J g;obtain⟨Y,Q⟩:=slot b _ (O b o e) J (E b o e g) G (I.base.free b o e n g);exact⟨Y,Q⟩
 ·obtain⟨o',G⟩:=I.base.there b o e g;exact free b o' (E b o e g) G (I.base.free b o e n g)
 ·obtain⟨o',G⟩:=I.base.there b o e g;exact there b o' (E b o e g) G
 ·obtain⟨g,G⟩:=I.base.tbls b U e;obtain⟨c,Q⟩:=tbls b _ G;exact⟨g++c,by rw[Q,Array.append_assoc]⟩
 ·obtain⟨m,g,h⟩:=I.loc;refine⟨m,ns m g,λi x v G Q o=>?_⟩;obtain⟨u,r,l⟩:=h i x v G Q o;refine⟨u,r,?_⟩;rcases l with l|⟨k,c,e,z⟩
  ·exact .inl l
  ·exact .inr ⟨k,c,e,C x c e _ z⟩
 ·obtain⟨v,z⟩:=I.cell x c e;exact⟨v,C x c e v z⟩
 ·obtain⟨m,⟨o,_,_,L,_⟩,_⟩:=I.loc;exact free _ o (λz=>(B _ z).2.1 rfl) L I.free
 ·obtain⟨v,o,L,hd⟩:=I.cell x c e;exact free c o (λz=>(B c z).2.2.1 x c e rfl) L (I.freeC x c e)
 ·obtain⟨e,n,g,c,d⟩:=I.pin p hp;have h:p.1∉ch:=λz=>(B p.1 z).2.2.2 p hp rfl;exact⟨keep p.1 p.2 g c h e n,free p.1 p.2 h e n,g,c,d⟩
theorem Inv.un{t':Nat}(I:Inv X ar σ H s)(u:Un X.fs [] H H' s.heap h')(hok:mJ X.prog X.w H' h'):Inv X ar σ H' { s with heap:=h',toks:=t' }:=by
 obtain⟨m,⟨o,J,ep,q,r⟩,_⟩:=id I.loc;obtain⟨E,C⟩:=u.any q I.free (by simp);exact I.step (g':=s.gens) (d':=s.drawn) (ch:=[]) (λ_ z=>nomatch z) (λb o _ g _ e n=>u.keep b o e n g (by simp)) (λb o _ g _ e n=>u.slot b o e n g (by simp)) (λb o _ e n=>u.free b o e n (by simp)) (λb o _ e=>u.there b o e (by simp)) u.tups u.frzs u.tbls (λG B=>by obtain⟨o',h,l,c,v⟩:=B;rw[q]at c;cases c;exact⟨_,h,l,C,v⟩) hok I.bare
theorem Inv.call{g':Array GenState}{t':Nat}{d':Drawn}{ch:List aj}(I:Inv X ar σ H s)(u:Un (fK X.stack) ch H H' s.heap h')(hok:mJ X.prog X.w H' h')(J:lm g')
  (l:∀b∈ch,(b∈X.ex\/X.s₀.heap.objs.size<=b)/\b≠X.env.locals/\(∀x c,X.env.cells.lookup x=some c->c≠b)/\∀p∈X.pn++ar,p.1≠b):
  Inv X ar σ H' { s with heap:=h',gens:=g',drawn:=d',toks:=t' }:=by
 obtain⟨m,⟨o,U,ep,C,r⟩,_⟩:=id I.loc;obtain⟨O,q⟩:=u.any C I.free λz=>(l _ z).2.1 rfl;exact I.step (ch:=ch) l (λb o q L g e n=>u.keep b o e n (λz=>(bn.mp (I.stkSub b z)).elim q L) g) (λb o _ _ g e n=>u.any e n g) (λb o g e n=>u.free b o e n g) (λb o g e=>u.there b o e g) u.tups u.frzs u.tbls (λQ G=>by obtain⟨o',v,B,h,E⟩:=G;rw[C]at h;cases h;exact⟨_,v,B,q,E⟩) hok J
theorem Inv.turned{t':Nat}{g:aj}(I:Inv X ar σ H s)(k:∀b o,b≠g->s.heap.get? b=some o->h'.get? b=some o)(E:H g=none)(B:g≠X.env.locals)
  (Q:g∈X.ex\/X.s₀.heap.objs.size<=g) (O:∀x c,X.env.cells.lookup x=some c->c≠g) (L:∀p∈X.pn++ar,p.1≠g):Inv X ar σ H { s with heap:=h',toks:=t' }:=by
 have l:∀b u,H b=some u->b≠g:=λb u e z=>by rw[z,E]at e;cases e
 refine I.step (g':=s.gens) (d':=s.drawn) (ch:=[g]) (λb J=>?_) (λb o _ _ h e _=>k b o (λz=>h (by simp[z])) e) (λb o _ _ h e _=>⟨o.slots,k b o (λz=>h (by simp[z])) e⟩) (λ_ _ _ _ n=>n)
  (λb o h e=>⟨o,k b o (λz=>h (by simp[z])) e⟩) (λ_ _ e=>e) (λ_ _ _ e=>e) (λb Y e=>⟨#[],by rw[e];simp⟩) (λm G=>?_) (λb u e=>?_) I.bare
 ·have e:b=g:=by simpa using J
  subst e;exact⟨Q,B,O,L⟩
 ·obtain⟨o,U,ep,C,r⟩:=G;exact⟨o,U,ep,k _ o (bX B) C,r⟩
 ·refine (I.hok b u e).stay (λc v h q=>k c v ?_ q) (λ_ q=>q) λ_ _ q=>q;rcases h with z|z
  ·rw[z];exact l b u e
  ·exact l c _ z
theorem Inv.tok(I:Inv X ar σ H s)(t:Nat):Inv X ar σ H { s with toks:=t }:=I.un (h':=s.heap) (t':=t) Un.refl I.hok
theorem Inv.kept{t':Nat}(I:Inv X ar σ H s)(k:∀b u,s.heap.get? b=some u->h'.get? b=some u):Inv X ar σ H { s with heap:=h',toks:=t' }:=I.un (Un.kept k) (I.hok.kept k)
theorem Inv.laid{a:aj}{o:HO}{t':Nat}(I:Inv X ar σ H s)(k:∀b u,s.heap.get? b=some u->h'.get? b=some u)(c:s.heap.objs.size<=a)(new:eS X.prog X.w (fJ H a o) h' a o):
  Inv X ar σ (fJ H a o) { s with heap:=h',toks:=t' }:=I.un (Un.laid k c (I.hok.fresh c)) (I.hok.laid k c new)
theorem Inv.write{x e:aj}{o:HO}{t':Nat}(I:Inv X ar σ H s)(g:Eu (H x))(h:e=x\/H e=some (.own x))(k:∀b u,b≠e->s.heap.get? b=some u->h'.get? b=some u)(c:∃u,h'.get? e=some u)
  (new:eS X.prog X.w (fJ H x o) h' x o):Inv X ar σ (fJ H x o) { s with heap:=h',toks:=t' }:=I.un (Un.write g h k c) (I.hok.write g h k c new)
theorem Inv.pins_of{c:List (aj×Obj)}(I:Inv X ar σ H s)(h:∀p∈c,s.heap.get? p.1=some p.2/\H p.1=none/\p.1≠X.env.locals/\p.1∉X.fs/\∀v,p.2.data≠.cell v):Inv X c σ H s:=
 ⟨I.ok,I.os,I.bare,I.base,I.loc,I.cell,I.free,I.freeC,λp g=>(aV.mp g).elim (λz=>I.pin p (cB _ z)) (h p),I.hok,I.len⟩
theorem OG{N:List Str}(c:N.Nodup){i j:Nat}{x:Str}(a:N[i]?=some x)(b:N[j]?=some x):i=j:=by obtain⟨o,h⟩:=ac.mp a;obtain⟨l,g⟩:=ac.mp b;exact (List.getElem_inj c).mp (h.trans g.symm)
theorem Hq{M:C4}{A:bH}{E:af->ao->Prop}{i:Nat}{x:Str}{v:V}{u:af}{Q:Unit->ao->Prop}(I:Inv X ar σ H s)(hN:X.N.Nodup)(hi:X.N[i]?=some x)(G:Loc X.env.scope x)(r:RelV v u)
  (h:∀s',Inv X ar (σ.set i (some v)) H s'->(∃a,cO a s.heap s'.heap/\(a=X.env.locals\/X.env.cells.lookup x=some a))->Q () s') (hf:X.fn x=true\/X.env.scope.names.lookup x=some .local:=by first|exact .inl rfl|exact .inr rfl|assumption):aJ M A (tf X.env x u) Q E s:=by
 obtain⟨m,hn,hl⟩:=id I.loc;have hcls:(X.env.scope.kind == .class||(X.env.scope.kind == .module&&X.env.locals != X.env.globals))=false:=by rw[I.ok.kind];rfl
 have hiσ:i < σ.length:=by rw[I.len];exact (ac.mp hi).1
 have cne:=I.cne;have l:∀{a:aj}{h':bK},(∃o,s.heap.get? a=some o/\H a=none)->cO a s.heap h'->mJ X.prog X.w H h':=λ{a h'}ha g b ob e=>by
  obtain⟨_,_,J⟩:=ha;refine (I.hok b ob e).stay (λc w' C q=>(g.2 c ?_).trans q) (λ_ q=>q) λ_ _ q=>q
  rintro rfl
  rcases C with rfl|C
  ·rw[J]at e;cases e
  ·rw[J]at C;cases C
 rcases G with O|O
 ·refine x_ O hn (λh' C g=>?_) hcls;obtain⟨E,_,_,v,_⟩:=id hn;refine h _ ⟨I.ok,I.os,I.bare,⟨λb o e n hb G=>?_,λb o e n hb G=>?_,I.base.free,λb o e G=>?_,I.base.tups,I.base.frzs,I.base.tbls⟩,⟨_,C,λj y v' B L e3=>?_⟩,λy c e=>?_,I.free,I.freeC,λp hp=>?_,l ⟨E,v,I.free⟩ g,by simpa using I.len⟩ ⟨_,g,.inl rfl⟩
  ·exact (g.2 b (bz (a_ (aK e) I.ok.above))).trans (I.base.keep b o e n hb G)
  ·obtain⟨sl,B⟩:=I.base.slot b o e n hb G;exact⟨sl,(g.2 b (bz (a_ (aK e) I.ok.above))).trans B⟩
  ·obtain⟨o',B⟩:=I.base.there b o e G;exact⟨o',(g.2 b (bz (a_ (aK e) I.ok.above))).trans B⟩
  ·by_cases U:j=i
   ·subst U;rw[hi]at B;cases B;rw[aw hiσ]at L;cases L;exact⟨u,r,.inl ⟨O,by simp⟩⟩
   ·rw[ag (bX U)]at L;obtain⟨u',r',q⟩:=hl j y v' B L e3;refine⟨u',r',?_⟩;rcases q with ⟨k,e⟩|⟨k,c,e,z⟩
    ·refine .inl ⟨k,?_⟩;have:y≠x:=λe=>U (OG hN B (e ▸ hi));simp[this,e]
    ·exact .inr ⟨k,c,e,z.sameBut g (cne y c e)⟩
  ·obtain⟨w',z⟩:=I.cell y c e;exact⟨w',z.sameBut g (cne y c e)⟩
  ·obtain⟨e,n,ne,nf,d⟩:=I.pin p hp;exact⟨(g.2 p.1 ne).trans e,n,ne,nf,d⟩
 ·have Y : X.fn x = true := by
    rcases hf with z|z
    ·exact z
    ·rw[z]at O;cases O
  obtain⟨c,C⟩:=I.ok.has x (.inl O);obtain⟨w',z⟩:=I.cell x c C;refine zB I.ok.kind O C z (λh' J g=>?_);obtain⟨oc,E,v⟩:=id z;refine h { s with heap:=h' } ⟨I.ok,I.os,I.bare,⟨λb o e n hb G=>?_,λb o e n hb G=>?_,I.base.free,λb o e G=>?_,I.base.tups,I.base.frzs,I.base.tbls⟩,⟨m,hn.sameBut g (bX (cne x c C)),λj y v' B L e3=>?_⟩,λy Q e=>?_,I.free,I.freeC,λp hp=>?_,l ⟨oc,E,I.freeC x c C⟩ g,by simpa using I.len⟩ ⟨c,g,.inr C⟩
  ·exact (g.2 b (bz (a_ (aK e) (I.ok.cab x c Y C)))).trans (I.base.keep b o e n hb G)
  ·obtain⟨sl,B⟩:=I.base.slot b o e n hb G;exact⟨sl,(g.2 b (bz (a_ (aK e) (I.ok.cab x c Y C)))).trans B⟩
  ·obtain⟨o',B⟩:=I.base.there b o e G;exact⟨o',(g.2 b (bz (a_ (aK e) (I.ok.cab x c Y C)))).trans B⟩
  ·by_cases U:j=i
   ·subst U;rw[hi]at B;cases B;rw[aw hiσ]at L;cases L;exact⟨u,r,.inr ⟨.inl O,c,C,J⟩⟩
   ·rw[ag (bX U)]at L;obtain⟨u',r',q⟩:=hl j y v' B L e3;refine⟨u',r',?_⟩;rcases q with q|⟨k,Q,e,h⟩
    ·exact .inl q
    ·refine .inr ⟨k,Q,e,h.sameBut g ?_⟩
     rintro rfl
     exact U (OG hN B (I.ok.inj _ _ _ e C ▸ hi))
  ·by_cases H:Q=c
   ·subst H;exact⟨_,J⟩
   ·obtain⟨l,h⟩:=I.cell y Q e;exact⟨l,h.sameBut g H⟩
  ·obtain⟨e,n,ne,nf,d⟩:=I.pin p hp;refine⟨(g.2 p.1 ?_).trans e,n,ne,nf,d⟩;intro q;rw[q,E]at e;have c:oc=p.2:=aG e;exact d w' (by rw[<- c];exact v)
theorem Ot{M:C4}{A:bH}{E:af->ao->Prop}{i:Nat}{x:Str}{v:V}{u:af}{Q:Unit->ao->Prop}(I:Inv X ar σ H s)(q:X.N.Nodup)(l:X.N[i]?=some x)(g:Loc X.env.scope x)(r:RelV v u)
  (h:∀c,Inv X ar (σ.set i (some v)) H c->Q () c) (o:X.fn x=true\/X.env.scope.names.lookup x=some .local:=by first|exact .inl rfl|exact .inr rfl|assumption):aJ M A (tf X.env x u) Q E s:=
 Hq I q l g r (λc B _=>h c B) o
theorem Inv.call'{g:ao}{ch:List aj}(I:Inv X ar σ H s)(l:g.os=s.os)(u:Un (fK X.stack) ch H H' s.heap g.heap)(hok:mJ X.prog X.w H' g.heap)(o:lm g.gens)
  (h:∀b∈ch,(b∈X.ex\/X.s₀.heap.objs.size<=b)/\b≠X.env.locals/\(∀x c,X.env.cells.lookup x=some c->c≠b)/\∀p∈X.pn++ar,p.1≠b):Inv X ar σ H' g:=by
 obtain⟨h',g',d',t',o'⟩:=g;have e:o'=s.os:=l;subst e;exact I.call (g':=g') (t':=t') (d':=d') u hok o h
end
abbrev XK:=af->Option aj->Hp->Prop
noncomputable abbrev St:=List (Option V)
abbrev VK:=V->Hp->Prop
abbrev TE:=St->Hp->VK->Prop
abbrev TT:=St->Hp->(Bool->Hp->Prop)->Prop
abbrev TA:=St->Hp->(List V->Hp->Prop)->Prop
structure Ends where
 nx:St->Hp->Prop
 rt:VK
 bk:St->Hp->Prop:=λ_ _=>False
 ct:St->Hp->Prop:=λ_ _=>False
abbrev TS:=Ends->St->Hp->Prop
def EP(X:Cx)(c:List (aj×Obj))(σ:St)(Q:VK)(u:af)(h:ao):Prop:=∃v g,Inv X c σ g h/\RelV v u/\Q v g
noncomputable def TP(X:Cx)(c:List (aj×Obj))(σ:St)(Q:Bool->Hp->Prop)(b:Bool)(h:ao):Prop:=∃g,Inv X c σ g h/\Q b g
def AP(X:Cx)(c:List (aj×Obj))(σ:St)(Q:List V->Hp->Prop)(l:List af)(o:ao):Prop:=∃g h,Inv X c σ h o/\bU g l/\Q g h
def SP(X:Cx)(c:List (aj×Obj))(D:Ends)(f:Flow)(h:ao):Prop:=
 match f with
 | .next=>∃σ' g,Inv X c σ' g h/\D.nx σ' g
 | .brk=>∃σ' g,Inv X c σ' g h/\D.bk σ' g
 | .cont=>∃σ' g,Inv X c σ' g h/\D.ct σ' g
 | .ret u=>∃v σ' g,Inv X c σ' g h/\RelV v u/\D.rt v g
def PE(X:Cx)(e:Expr)(t:TE):Prop:=
 ∀(ar:List (aj×Obj))(s:ao)(σ:St)(H:Hp)(Q:VK),Inv X ar σ H s->t σ H Q->aJ (bb X.prog X.w) X.A (eval e X.env) (EP X ar σ Q) X.xe s
def PT(X:Cx)(e:Expr)(t:TT):Prop:=
 ∀(ar:List (aj×Obj))(s:ao)(σ:St)(H:Hp)(Q:Bool->Hp->Prop),Inv X ar σ H s->t σ H Q->aJ (bb X.prog X.w) X.A (isTrue e X.env (eval e X.env)) (TP X ar σ Q) X.xe s
def PW(X:Cx)(e:Expr)(t:TT):Prop:=
 ∀(whole:Sem af)(ar:List (aj×Obj))(s:ao)(σ:St)(H:Hp)(Q:Bool->Hp->Prop),Inv X ar σ H s->t σ H Q->aJ (bb X.prog X.w) X.A (isTrue e X.env whole) (TP X ar σ Q) X.xe s
theorem PW.pt{X:Cx}{e:Expr}{t:TT}(h:PW X e t):PT X e t:=h _
def PA(X:Cx)(c:List Expr)(t:TA):Prop:=
 ∀(pos:Pos)(ar:List (aj×Obj))(s:ao)(σ:St)(H:Hp)(Q:List V->Hp->Prop),Inv X ar σ H s->t σ H Q->aJ (bb X.prog X.w) X.A (spliced (backTo pos (starEach c X.env))) (AP X ar σ Q) X.xe s
def PS(X:Cx)(st:Stmt)(t:TS):Prop:=
 ∀(ar:List (aj×Obj))(s:ao)(σ:St)(H:Hp)(D:Ends),Inv X ar σ H s->t D σ H->aJ (bb X.prog X.w) X.A (exec st X.env) (SP X ar D) X.xe s
def PSs(X:Cx)(st:List Stmt)(t:TS):Prop:=
 ∀(ar:List (aj×Obj))(s:ao)(σ:St)(H:Hp)(D:Ends),Inv X ar σ H s->t D σ H->aJ (bb X.prog X.w) X.A (execs st X.env) (SP X ar D) X.xe s
theorem gg{α:Type}{t:Sem α}{Q c:α->ao->Prop}{M:C4}{A:bH}{E:af->ao->Prop}{s:ao}(h:aJ M A t Q E s)(g:∀a s,Q a s->c a s):aJ M A t c E s:=gQ h g λ_ _ x=>x
section
variable{X:Cx}
noncomputable def xh(i:Nat):TE:=λσ H Q=>∃v,σ[i]?=some (some v)/\Q v H
noncomputable def tC(v:V):TE:=λ_ H Q=>Q v H
theorem Nm{i:Nat}{x:Str}{pos:Pos}(O:X.N[i]?=some x)(E:GJ X.env.scope x)(hd:(x == ("__debug__":Str))=false:=by decide)(B:(x == ("__classdict__":Str))=false:=by decide):PE X (.Name x pos) (xh i):=by
 intro q s σ H Q I h;obtain⟨v,e,h⟩:=h;obtain⟨m,G,L⟩:=I.loc;obtain⟨u,r,l⟩:=L i x v O e E;have fin:EP X q σ Q u s:=⟨v,H,I,r,h⟩
 rcases l with ⟨o,J⟩|⟨o,c,C,g⟩
 ·exact Cf (wpAny_loadName_local I.ok.kind o G J fin) hd
 ·rcases o with o|o
  ·exact Cf (wpAny_loadName_cell I.ok.kind o C g fin) hd
  ·exact Cf (wpAny_loadName_free I.ok.kind o C g fin B) hd
theorem OE{i j pos}:PE X (.Constant (.int i) j pos) (tC (.int i)):=λ_ _ _ H _ I h=>wpAny_Constant_int ⟨.int i,H,I.tok _,⟨_,rfl⟩,h⟩
theorem Wn{b j pos}:PE X (.Constant (.bool b) j pos) (tC (.bl b)):=λ_ _ _ H _ I h=>Constant_bool ⟨.bl b,H,I,rfl,h⟩
theorem X2{j pos}:PE X (.Constant .none j pos) (tC .non):=λ_ _ _ H _ I h=>Constant_none ⟨.non,H,I,rfl,h⟩
theorem Wu{x j pos}:PE X (.Constant (.str x) j pos) (tC (.str x)):=λ_ _ _ H _ I h=>Calls.Constant_str ⟨.str x,H,I.tok _,⟨_,rfl⟩,h⟩
noncomputable def Gl(X:Cx)(x:Str):Prop:=X.env.kindOf x=some .globalImplicit
theorem M3{E:af->ao->Prop}{c:List (aj×Obj)}{s:ao}{σ:St}{H:Hp}{x:Str}{u:af}{pos:Pos}{Q:af->ao->Prop}(I:Inv X c σ H s)(l:Gl X x)(g:X.mg x=some u)(h:Q u s)
  (hd:(x == ("__debug__":Str))=false:=by decide):aJ (bb X.prog X.w) X.A (eval (.Name x pos) X.env) Q E s:=
 rP I.ok.kind l (Calls.loadGlobal_global (by rw[I.ok.glob];exact I.mod.glob.keeps I.bk) g h) hd
theorem zP{E:af->ao->Prop}{c:List (aj×Obj)}{s:ao}{σ:St}{H:Hp}{x:Str}{u:af}{pos:Pos}{Q:af->ao->Prop}(I:Inv X c σ H s)(q:Gl X x)(o:X.mg x=none)(g:cV x=some u)(h:Q u s)
  (l:x≠"__name__":=by decide) (hd:(x == ("__debug__":Str))=false:=by decide):aJ (bb X.prog X.w) X.A (eval (.Name x pos) X.env) Q E s:=by
 obtain⟨C,B,v⟩:=I.mod.blt;exact rP I.ok.kind q (Calls.loadGlobal_builtin (by rw[I.ok.glob];exact I.mod.glob.keeps I.bk) o (by rw[I.ok.blt];exact B.keeps I.bk) ((v x l).trans g) h) hd
theorem Tn{x:Str}{v:V}{u:af}{pos:Pos}(o:Gl X x)(l:X.mg x=none)(c:cV x=some u)(r:RelV v u)(g:x≠"__name__":=by decide)(hd:(x == ("__debug__":Str))=false:=by decide):PE X (.Name x pos) (tC v):=
 λ_ _ _ H _ I h=>zP I o l c ⟨v,H,I,r,h⟩ g hd
variable{a b:Expr}{ta tb:TE}{pos:Pos}
variable{tA e7:TT}{rest:List Expr}
noncomputable def BP(t u:TT):TT:=λσ H Q=>t σ H λc g=>if c=true then u σ g Q else Q false g
noncomputable def X7(t u:TT):TT:=λσ H Q=>t σ H λc g=>if c=true then Q true g else u σ g Q
noncomputable def A7(t:TT):TT:=λσ H Q=>t σ H λc g=>Q (!c) g
theorem OV(l:PT X a tA):PW X (.BoolOp .And [a] pos) tA:=by
 intro wh g s σ H Q I h;refine isTrue_and (gg (l g s σ H Q I h) λc o e=>?_);cases c with
 |true=>exact isTrue_and_nil e
 |false=>exact e
theorem Se(l:PT X a tA):PW X (.BoolOp .Or [a] pos) tA:=by
 intro wh g s σ H Q I h;refine isTrue_or (gg (l g s σ H Q I h) λc o e=>?_);cases c with
 |false=>exact isTrue_or_nil e
 |true=>exact e
theorem Rz(C:PT X a tA)(B:PW X (.BoolOp .And (b::rest) pos) e7):PW X (.BoolOp .And (a::b::rest) pos) (BP tA e7):=by
 intro wh g s σ H Q I h;refine isTrue_and (gg (C g s σ H _ I h) λc v l=>?_);obtain⟨u,q,o⟩:=l;cases c with
 |true=>exact B wh g v σ u Q q o
 |false=>exact⟨u,q,o⟩
theorem Xn(C:PT X a tA)(B:PW X (.BoolOp .Or (b::rest) pos) e7):PW X (.BoolOp .Or (a::b::rest) pos) (X7 tA e7):=by
 intro wh g s σ H Q I h;refine isTrue_or (gg (C g s σ H _ I h) λc v l=>?_);obtain⟨u,q,o⟩:=l;cases c with
 |true=>exact⟨u,q,o⟩
 |false=>exact B wh g v σ u Q q o
theorem X5(l:PT X a tA):PT X (.UnaryOp .Not a pos) (A7 tA):=by intro g s σ H Q I h;exact isTrue_not (l g s σ H (λc o=>Q (!c) o) I h)
noncomputable def Fm(ta tb:TE):TE:=λσ H Q=>ta σ H λx g=>∃c,x=.bl c/\if c=true then tb σ g Q else Q (.bl false) g
noncomputable def HD(ta tb:TE):TE:=λσ H Q=>ta σ H λx g=>∃c,x=.bl c/\if c=true then Q (.bl true) g else tb σ g Q
noncomputable def Dw(ta:TE):TE:=λσ H Q=>ta σ H λx g=>∃c,x=.bl c/\Q (.bl (!c)) g
theorem TM{op}{t:TE}(h:PE X a t):PE X (.BoolOp op [a] pos) t:=λc s σ H Q I g=>BoolOp_one (h c s σ H Q I g)
theorem RN(G:PE X a ta)(E:PE X (.BoolOp .And (b::rest) pos) tb):PE X (.BoolOp .And (a::b::rest) pos) (Fm ta tb):=by
 intro g s σ H Q I h;refine BoolOp_and (gg (G g s σ H _ I h) λv B o=>?_);obtain⟨x,u,q,C,l⟩:=o;obtain⟨c,rfl,l⟩:=l;cases C;refine fD ?_;cases c with
 |true=>exact E g B σ u Q q l
 |false=>exact⟨.bl false,u,q,rfl,l⟩
theorem W9(G:PE X a ta)(E:PE X (.BoolOp .Or (b::rest) pos) tb):PE X (.BoolOp .Or (a::b::rest) pos) (HD ta tb):=by
 intro g s σ H Q I h;refine BoolOp_or (gg (G g s σ H _ I h) λv B o=>?_);obtain⟨x,u,q,C,l⟩:=o;obtain⟨c,rfl,l⟩:=l;cases C;refine fD ?_;cases c with
 |false=>exact E g B σ u Q q l
 |true=>exact⟨.bl true,u,q,rfl,l⟩
theorem WE(u:PE X a ta):PE X (.UnaryOp .Not a pos) (Dw ta):=by intro g s σ H Q I h;refine UnaryOp_ (gg (u g s σ H _ I h) λv E o=>?_);obtain⟨x,C,B,q,l⟩:=o;obtain⟨c,rfl,l⟩:=l;cases q;exact not_of (fD ⟨.bl (!c),C,B,rfl,l⟩)
noncomputable def RT(t:TT)(ta tb:TE):TE:=λσ H Q=>t σ H λc g=>if c=true then ta σ g Q else tb σ g Q
theorem OX{c:Expr}(B:PT X c tA)(E:PE X a ta)(C:PE X b tb):PE X (.IfExp c a b pos) (RT tA ta tb):=by
 intro g s σ H Q I h;refine wpAny_IfExp (gg (B g s σ H _ I h) λd o l=>?_);obtain⟨v,u,q⟩:=l;cases d with
 |true=>exact E g o σ v Q u q
 |false=>exact C g o σ v Q u q
end
def ii(K:ah)(H:Hp)(a:aj)(xs:List V):Prop:=
 Rd H a (.lst xs) \/
  ∃(o:Obj)(its:Array af)(n:Nat),K.lookup a=some o/\o.cls=.type "list"/\o.dict=none/\o.data=.seq its n/\its.size<=sizeLine/\bU xs its.toList
def iZ(K:ah)(H:Hp)(a:aj)(xs:List V):Prop:=
 Rd H a (.tup xs) \/
  ∃(o:Obj)(its:Array af)(n:Nat),K.lookup a=some o/\o.cls=.type "tuple"/\o.dict=none/\o.data=.seq its n/\its.size<=sizeLine/\bU xs its.toList
noncomputable def IZ:af->Option V
 | .none=>some .non
 | .bool b=>some (.bl b)
 | .int i _=>some (.int i)
 | .str x _=>some (.str x)
 | .bytes b _=>some (.byt b)
 | .float b _=>some (.flt b)
 | .ref a=>some (.ref a)
 | .type n=>some (.ty n)
 |_=>none
theorem RelV.abs{x:V}{u:af}(r:RelV x u):IZ u=some x:=by
 cases x with
 |non=>cases r;rfl
 |bl _=>cases r;rfl
 |int _=>obtain⟨t,rfl⟩:=r;rfl
 |str _=>obtain⟨t,rfl⟩:=r;rfl
 |byt _=>obtain⟨t,rfl⟩:=r;rfl
 |flt _=>obtain⟨t,rfl⟩:=r;rfl
 |ref _=>cases r;rfl
 |ty _=>cases r;rfl
theorem RelV.inj{x y:V}{u:af}(r:RelV x u)(q:RelV y u):x=y:=aG (r.abs.symm.trans q.abs)
theorem bU.inj:∀{xs ys:List V}{c:List af},bU xs c->bU ys c->xs=ys
 |_,_,_,.nil,.nil=>rfl
 |_,_,_,.cons r t,.cons r' t'=>by rw[r.inj r',bU.inj t t']
section
variable{X:Cx}{ar:List (aj×Obj)}{σ:St}{H:Hp}{s:ao}{a:aj}{xs ys:List V}
theorem ii.of{K:ah}(h:H a=some (.lst xs)):ii K H a xs:=.inl (.inl h)
theorem iZ.of{K:ah}(h:H a=some (.tup xs)):iZ K H a xs:=.inl (.inl h)
theorem Inv.list(I:Inv X ar σ H s)(h:ii X.K H a xs):∃its:List af,bU xs its/\PlainL s.heap a its.toArray/\xs.length<=sizeLine:=by
 rcases h with h|⟨o,its,n,g,l,hd,c,hz,r⟩
 ·obtain⟨z,its,n,r,e⟩:=h.ok I.hok;exact⟨its,r,⟨_,n,e,rfl,rfl,rfl⟩,z⟩
 ·refine⟨its.toList,r,⟨o,n,I.kIn a o g,l,hd,by simpa using c⟩,?_⟩;have e:=r.length;simp only[d_]at e;ext
theorem Inv.tupleD(I:Inv X ar σ H s)(h:iZ X.K H a xs):∃its:List af,bU xs its/\kH s.heap a its.toArray/\xs.length<=sizeLine:=by
 rcases h with h|⟨o,its,n,g,l,hd,c,hz,r⟩
 ·obtain⟨z,its,r,p⟩:=h.ok I.hok;exact⟨its,r,p,z⟩
 ·refine⟨its.toList,r,⟨o,I.kIn a o g,l,⟨n,by simpa using c⟩,hd⟩,?_⟩;have e:=r.length;simp only[d_]at e;ext
theorem Inv.tuple(I:Inv X ar σ H s)(h:iZ X.K H a xs):∃its:List af,bU xs its/\zA s.heap a its.toArray/\xs.length<=sizeLine:=let ⟨its,r,p,z⟩:=I.tupleD h;⟨its,r,p.is,z⟩
theorem Inv.list_inj(I:Inv X ar σ H s)(h:ii X.K H a xs)(h':ii X.K H a ys):xs=ys:=by
 obtain⟨its,r,⟨o,n,e,_,_,d⟩,_⟩:=I.list h;obtain⟨its',g,⟨o',l,c,_,_,d'⟩,_⟩:=I.list h';rw[e]at c;cases c;rw[d]at d';injection d' with d1 _
 have:its=its':=by simpa using cC Cg d1
 subst this;exact r.inj g
theorem Inv.tuple_inj(I:Inv X ar σ H s)(h:iZ X.K H a xs)(h':iZ X.K H a ys):xs=ys:=by
 obtain⟨its,r,⟨o,e,_,n,d⟩,_⟩:=I.tuple h;obtain⟨its',g,⟨o',c,_,l,d'⟩,_⟩:=I.tuple h';rw[e]at c;cases c;rw[d]at d';injection d' with d1 _
 have:its=its':=by simpa using cC Cg d1
 subst this;exact r.inj g
end
noncomputable abbrev Cx.wish(X:Cx)(E:af->ao->Prop):Cx:={ X with xe:=E }
abbrev Cx.nox(X:Cx):Cx:=X.wish λ_ _=>False
theorem Cx.Ok.wish{X:Cx}(ok:X.Ok)(E:af->ao->Prop):(X.wish E).Ok:=
 ⟨ok.mod,ok.kind,ok.glob,ok.blt,ok.above,ok.inj,ok.has,ok.cab,ok.hd,ok.frames,ok.stk,ok.exf,ok.bs,ok.bsz,ok.noex,ok.exfs,ok.funs,ok.frf⟩
theorem Cx.Ok.unwish{X:Cx}{E:af->ao->Prop}(ok:(X.wish E).Ok):X.Ok:=
 ⟨ok.mod,ok.kind,ok.glob,ok.blt,ok.above,ok.inj,ok.has,ok.cab,ok.hd,ok.frames,ok.stk,ok.exf,ok.bs,ok.bsz,ok.noex,ok.exfs,ok.funs,ok.frf⟩
section
variable{X:Cx}{ar:List (aj×Obj)}{σ:St}{H:Hp}{s:ao}{E:af->ao->Prop}
theorem Inv.wish(I:Inv X ar σ H s)(E:af->ao->Prop):Inv (X.wish E) ar σ H s:=⟨I.ok.wish E,I.os,I.bare,I.base,I.loc,I.cell,I.free,I.freeC,I.pin,I.hok,I.len⟩
theorem Inv.unwish(I:Inv (X.wish E) ar σ H s):Inv X ar σ H s:=⟨I.ok.unwish,I.os,I.bare,I.base,I.loc,I.cell,I.free,I.freeC,I.pin,I.hok,I.len⟩
theorem SP.unwish{D:Ends}{f:Flow}{g:ao}(h:SP (X.wish E) ar D f g):SP X ar D f g:=by
 cases f with
 |next=>obtain⟨σ',c,I,q⟩:=h;exact⟨σ',c,I.unwish,q⟩
 |brk=>obtain⟨σ',c,I,q⟩:=h;exact⟨σ',c,I.unwish,q⟩
 |cont=>obtain⟨σ',c,I,q⟩:=h;exact⟨σ',c,I.unwish,q⟩
 |ret u=>obtain⟨v,σ',c,I,r,q⟩:=h;exact⟨v,σ',c,I.unwish,r,q⟩
theorem PSs.nox{st:List Stmt}{t:TS}(h:PSs X.nox st t):PSs X st t:=λar s σ H D I c=>
 gQ (h ar s σ H D (I.wish _) c) (λ_ _ q=>q.unwish) λ_ _ z=>cT z
end
section
variable{X:Cx}{st:Stmt}{rest:List Stmt}{t u:TS}{e:Expr}{te:TE}{pos:Pos}
noncomputable def Fg:TS:=λD σ H=>D.nx σ H
noncomputable def IU(t u:TS):TS:=λD σ H=>t { D with nx:=u D } σ H
theorem ON:PSs X [] Fg:=λ_ _ σ H _ I h=>ue ⟨σ,H,I,h⟩
theorem Nv(o:PS X st t)(l:PSs X rest u):PSs X (st::rest) (IU t u):=by
 intro c s σ H D I h;refine FP (gg (o c s σ H { D with nx:=u D } I h) λf g q=>?_);cases f with
 |next=>
  obtain⟨σ',C,B,q⟩:=q;exact l c g σ' C D B q
 |ret v=>exact q
 |brk=>exact q
 |cont=>exact q
theorem Inv.quiet{c:List (aj×Obj)}{σ:St}{H:Hp}{s:ao}(I:Inv X c σ H s):interactive X.env=false:=by simp[interactive,I.ok.kind]
noncomputable def DE(te:TE):TS:=λD σ H=>te σ H λ_ c=>D.nx σ c
theorem Wh(q:PE X e te)(o:kt e none pos.line X.env=pure false:=by rfl):PS X (.Expr e pos) (DE te):=by intro g s σ H D I h;exact wpAny_Expr_any (gg (q g s σ H _ I h) λv E c=>by obtain⟨x,C,B,G,l⟩:=c;exact⟨σ,C,B,l⟩) I.quiet o
noncomputable def IY(te:TE):TS:=λD σ H=>te σ H D.rt
theorem NF(q:PE X e te):PS X (.Return (some e) pos) (IY te):=by intro g s σ H D I h;exact wpAny_Return_some (gg (q g s σ H _ I h) λv E c=>by obtain⟨x,C,B,l,o⟩:=c;exact⟨x,σ,C,B,l,o⟩)
noncomputable def Kz(c:TT)(t u:TS):TS:=λD σ H=>c σ H λb g=>if b=true then t D σ g else u D σ g
theorem SD{c:Expr}{a b:List Stmt}{o:TT}(E:PT X c o)(J:PSs X a t)(G:PSs X b u):PS X (.If c a b pos) (Kz o t u):=by
 intro g s σ H D I h;refine wpAny_If (gg (E g s σ H _ I h) λd q l=>?_);obtain⟨C,B,v⟩:=l;cases d with
 |true=>exact J g q σ C D B v
 |false=>exact G g q σ C D B v
noncomputable def AD:TS:=λ_ _ _=>False
theorem WN:PS X st AD:=λ_ _ _ _ _ _ h=>h.elim
end
abbrev TG:=V->St->Hp->(St->Hp->Prop)->Prop
abbrev yU:=List V->St->Hp->(St->Hp->Prop)->Prop
def PG(X:Cx)(c:Expr)(t:TG):Prop:=
 ∀(ar:List (aj×Obj))(s:ao)(σ:St)(H:Hp)(v:V)(u:af)(Q:St->Hp->Prop),Inv X ar σ H s->RelV v u->t v σ H Q ->
  aJ (bb X.prog X.w) X.A (ox c X.env u) (λ_ g=>∃σ' H',Inv X ar σ' H' g/\Q σ' H') X.xe s
def PGs(X:Cx)(c:List Expr)(t:yU):Prop:=
 ∀(ar:List (aj×Obj))(s:ao)(σ:St)(H:Hp)(vs:List V)(us:List af)(Q:St->Hp->Prop),Inv X ar σ H s->bU vs us->t vs σ H Q ->
  aJ (bb X.prog X.w) X.A (assignInOrder ((dI c X.env).map (·.2)) us) (λ_ g=>∃σ' H',Inv X ar σ' H' g/\Q σ' H') X.xe s
abbrev vF:=V->V->V->Hp->(Hp->Prop)->Prop
def PSet(X:Cx)(t:vF):Prop:=
 ∀(ar:List (aj×Obj))(s:ao)(σ:St)(H:Hp)(o i v:V)(ov iv u:af)(Q:Hp->Prop),Inv X ar σ H s->RelV o ov->RelV i iv->RelV v u->t o i v H Q ->
  aJ (bb X.prog X.w) X.A (oy ov iv u) (λ_ g=>∃c,Inv X ar σ c g/\Q c) X.xe s
abbrev GX:=V->V->Hp->VK->Prop
def Ld(X:Cx)(op:rQ)(t:GX):Prop:=
 ∀(ar:List (aj×Obj))(s:ao)(σ:St)(H:Hp)(x y:V)(v u:af)(Q:VK),Inv X ar σ H s->RelV x v->RelV y u->t x y H Q ->
  aJ (bb X.prog X.w) X.A (inplaceOp op v u) (EP X ar σ Q) X.xe s
section
variable{X:Cx}{pos:Pos}
noncomputable def tQ(i:Nat):TG:=λv σ H Q=>Q (σ.set i (some v)) H
theorem Ya{i:Nat}{x:Str}(q:X.N.Nodup)(l:X.N[i]?=some x)(g:Loc X.env.scope x)(o:X.fn x=true\/X.env.scope.names.lookup x=some .local:=by first|exact .inl rfl|exact .inr rfl|assumption):PG X (.Name x pos) (tQ i):=by intro c s σ H v u Q I r h;exact C5 (Ot I q l g r (λC B=>⟨_,H,B,h⟩) o)
noncomputable def Jc:yU:=λc σ H Q=>c=[]/\Q σ H
noncomputable def EB(t:TG)(u:yU):yU:=λc σ H Q=>∃v r,c=v::r/\t v σ H λσ' g=>u r σ' g Q
theorem Vx:PGs X [] Jc:=by intro c s σ H g l Q I r h;obtain⟨e,h⟩:=h;subst e;cases r;exact assignInOrder_nil ⟨σ,H,I,h⟩
theorem O5{e:Expr}{l:List Expr}{t:TG}{u:yU}(E:PG X e t)(C:PGs X l u)
  (B:(dI (e::l) X.env).map (·.2)=ox e X.env::(dI l X.env).map (·.2):=by rfl):PGs X (e::l) (EB t u):=by
 intro c s σ H O Y Q I r h;obtain⟨v,U,G,h⟩:=h;subst G;cases r with
 |cons r rr=>
  rw[B];refine assignInOrder_cons (gg (E c s σ H _ _ _ I r h) λ_ o g=>?_);obtain⟨σ1,L,J,q⟩:=g;exact C c o σ1 L _ _ Q J rr q
def Kr(K:ah)(n:Nat)(t:yU):TG:=λv σ H Q=>∃a xs,v=.ref a/\iZ K H a xs/\xs.length=n/\t xs σ H Q
theorem O8{g:List Expr}{k:Nat}{t:yU}{n:Nat}(O:X.calm=true)(h:PGs X g t)
  (J:(dI g X.env).length=n:=by rfl) (q:(dI g X.env).findIdx? (·.1)=none:=by rfl):PG X (.Tuple g k pos) (Kr X.K n t):=by
 intro c s σ H v u Q I r l;obtain⟨a,xs,U,G,L,l⟩:=l;subst U;cases r;obtain⟨its,B,E,hz⟩:=I.tuple G;refine assign_Tuple_tuple (I.ok.hd O) E (by simp[J,<- L,B.length]) q λh' C=>?_;have Y:Inv X c σ H { s with heap:=h' }:=I.kept (t':=s.toks) λb o e=>C b o (bz (aK e)) e;exact h c _ σ H xs _ Q Y (by simpa using B) l
noncomputable def Jr(to c:TE)(t:vF):TG:=λv σ H Q=>to σ H λo l=>c σ l λi h=>t o i v h λg=>Q σ g
theorem OT{o i:Expr}{to E:TE}{t:vF}(ho:PE X o to)(hi:PE X i E)(hs:PSet X t)
  (ha:∀v,ox (.Subscript o i pos) X.env v=(do
   let g <- lw [v] (eval o X.env)
   let C <- lw [v,g] (eval i X.env)
   xr pos
   lw [v,g,C] (oy g C v)
   C6 [v,g,C] []):=by intro _;rfl):PG X (.Subscript o i pos) (Jr to E t):=by
 intro c s σ H v u Q I r h;rw[ha];refine ab (c_ (gg (ho c s σ H _ I h) λg J B=>?_));obtain⟨x,H1,I1,O,q1⟩:=B;refine ab (c_ (gg (hi c J σ H1 _ I1 q1) λC G q=>?_));obtain⟨y,H2,I2,L,Y⟩:=q;refine ab (vX (ab (c_ (gg (hs c G σ H2 x y v g C u _ I2 O L r Y) λ_ s3 l=>?_))));obtain⟨H3,I3,U⟩:=l;exact wpAny_release ⟨σ,H3,I3,U⟩
noncomputable def zn(c:TE)(g:TG):TS:=λD σ H=>c σ H λx h=>g x σ h D.nx
theorem Ur{tg e : Expr}{l : TE}{g : TG}(J : PE X e l)(G : PG X tg g)(E : swapsWithSole [tg] e pos.line X.env = pure false := by rfl)(C : swappedStores [tg] e X.env = pure none := by rfl)
  (L:(dI [tg] X.env).map (·.2)=[ox tg X.env]:=by rfl):PS X (.Assign [tg] e pos) (zn l g):=by
 intro c s σ H D I h;refine wpAny_Assign_stores (gg (J c s σ H _ I h) λv o ⟨x,Q,O,u,B⟩=>?_) E C;rw[L];exact gg (G c o σ Q x v _ O u B) λ_ U q=>q
theorem XZ{i : Nat}{x : Str}{e : Expr}{l : TE}{c : Pos}(J : X.N.Nodup)(C : X.N[i]? = some x)(u : Loc X.env.scope x)(G : PE X e l)(B : kt e (some (.Name x c)) pos.line X.env = pure false := by rfl)(E : X.fn x = true \/ X.env.scope.names.lookup x = some .local := by first|exact .inl rfl|exact .inr rfl|assumption):
  PS X (.Assign [.Name x c] e pos) (zn l (tQ i)):=by
 intro g s σ H D I h;refine wpAny_Assign_Name (gg (G g s σ H _ I h) λv Y ⟨y,Q,O,o,q⟩=>?_) B;exact Ot O J C u o (λU L=>⟨_,Q,L,q⟩) E
noncomputable def FE(to l q:TE)(g:V->V->Hp->VK->Prop)(h:GX)(c:vF):TS:=λD σ H=>to σ H λo G=>l σ G λi E=>g o i E λx C=>q σ C λy B=>h x y B λz v=>c o i z v λu=>D.nx σ u
def EZ(X:Cx)(t:V->V->Hp->VK->Prop):Prop:=
 ∀(ar:List (aj×Obj))(s:ao)(σ:St)(H:Hp)(o i:V)(ov iv:af)(Q:VK),Inv X ar σ H s->RelV o ov->RelV i iv->t o i H Q ->
  aJ (bb X.prog X.w) X.A (pT ov iv) (EP X ar σ Q) X.xe s
theorem XR{o i e:Expr}{to Y te:TE}{l:V->V->Hp->VK->Prop}{C:GX}{g:vF}{op:rQ}{B:Pos}(ho:PE X o to)(hi:PE X i Y)(hg:EZ X l)(he:PE X e te)(hp:Ld X op C)(hs:PSet X g)
  (ha:∀q u new,augStore i q u new=(do lw [new,q,u] (oy q u new);C6 [new,q,u] [];pure .next):=by intros;rfl):PS X (.AugAssign (.Subscript o i B) op e pos) (FE to Y te l C g):=by
 intro c s σ H D I h;refine wpAny_AugAssign_SubscriptAny (gg (ho c s σ H _ I h) λq s1 ⟨U,H1,I1,r1,q1⟩=>?_) ha;refine gg (hi c s1 σ H1 _ I1 q1) λu s2 O=>?_;obtain⟨Q,H2,I2,r2,q2⟩:=O;refine gg (hg c s2 σ H2 U Q q u _ I2 r1 r2 q2) λold s3 L=>?_;obtain⟨x3,H3,I3,r3,q3⟩:=L;refine gg (he c s3 σ H3 _ I3 q3) λv s4 J=>?_;obtain⟨x4,H4,I4,r4,q4⟩:=J;refine gg (hp c s4 σ H4 x3 x4 old v _ I4 r3 r4 q4) λnew s5 G=>?_;obtain⟨x5,H5,I5,r5,q5⟩:=G;exact gg (hs c s5 σ H5 U Q x5 q u new _ I5 r1 r2 r5 q5) λ_ s6 E=>by obtain⟨H6,I6,q6⟩:=E;exact⟨σ,H6,I6,q6⟩
noncomputable def Xm(f:Int->Int->Int):GX:=λx y H Q=>∃i j,x=.int i/\y=.int j/\Q (.int (f i j)) H
theorem Qn:Ld X .Add (Xm λi j=>i+j):=by intro c s σ H x y v u Q I l g h;obtain⟨i,j,B,o,q⟩:=h;subst B;subst o;obtain⟨t,rfl⟩:=l;obtain⟨t',rfl⟩:=g;exact iadd_int ⟨.int _,H,I.tok _,⟨_,rfl⟩,q⟩
end
section
variable{X:Cx}{pos:Pos}
def Bv(c:TT)(tb:TS):TS:=λD σ H=>∃W:Nat->St->Hp->Prop,(∃m,W m σ H)/\∀m σ H,W m σ H ->
 c σ H λb h=>if b=true then ∃N:St->Hp->Prop,(∀σ' H',N σ' H'->∃g,g < m/\W g σ' H')/\tb { D with nx:=N,ct:=N,bk:=D.nx } σ h else D.nx σ h
theorem RG{c:Expr}{l:List Stmt}{Q:TT}{tb:TS}(U:tj (bb X.prog X.w) X.A X.env X.xe)(hc:PT X c Q)(hb:PSs X l tb):PS X (.While c l [] pos) (Bv Q tb):=by
 intro g s σ H D I h;obtain⟨W,⟨m0,w0⟩,o⟩:=h;refine wpAny_While (codeAny_whileLoop (λn s'=>∃σ' H',Inv X g σ' H' s'/\W n σ' H') ?_ m0 ⟨σ,H,I,w0⟩)
 rintro n s1 ⟨σ1,H1,I1,w1⟩
 refine g_ U (gg (hc g s1 σ1 H1 _ I1 (o n σ1 H1 w1)) λb s2 q=>?_);obtain⟨H2,I2,C⟩:=q;cases b with
 |true=>
  obtain⟨N,Y,C⟩:=C;rw[aD rfl];refine g_ U (gg (hb g s2 σ1 H2 _ I2 C) λf s3 B=>?_);cases f with
  |next=>
   obtain⟨σ3,u,O,G⟩:=B;obtain⟨J,L,E⟩:=Y σ3 u G;exact⟨J,L,σ3,u,O,E⟩
  |cont=>
   obtain⟨σ3,u,O,G⟩:=B;obtain⟨J,L,E⟩:=Y σ3 u G;exact⟨J,L,σ3,u,O,E⟩
  |brk=>exact B
  |ret v=>exact B
 |false=>
  rw[aB bv];exact ue ⟨σ1,H2,I2,C⟩
end
structure It where
 go:Nat->Hp->Prop
 yld:Nat->Hp->V->Hp->Prop
 stop:Nat->Hp->Prop
def pC(X:Cx)(g:List (aj×Obj))(H:Hp)(b:aj):Prop:=
 H b=none/\b≠X.env.locals/\b∉X.fs/\(b∈X.ex\/X.s₀.heap.objs.size<=b)/\(∀x c,X.env.cells.lookup x=some c->c≠b)/\∀p∈X.pn++g,p.1≠b
theorem Inv.fpOk{X:Cx}{g:List (aj×Obj)}{σ:St}{H l:Hp}{s:ao}{b:aj}(I:Inv X g σ H s)(h:s.heap.objs.size<=b)(u:l b=none):pC X g l b:=by
 refine⟨u,eE (a_ I.lt h),I.nofs h,.inr (bZ I.sz h),λx c e z=>?_,λp o z=>?_⟩
 ·obtain⟨v,q⟩:=I.cell x c e;exact bq (a_ q.lt (by rw[z];exact h)) (cn _)
 ·exact bq (a_ (aK (I.pin p o).1) (by rw[z];exact h)) (cn _)
structure t8(P:Program)(w:bN)(K:ah)(tg:Expr)(J:It)(fp:List aj)(it:aj)(tn:Nat->bK->Prop):Prop where
 mem:it∈fp
 obj:∀i h,tn i h->∀b∈fp,∃o,h.get? b=some o/\∀v,o.data≠.cell v
 keep:∀i h h',tn i h->(∀b∈fp,∀o,h.get? b=some o->h'.get? b=some o)->tn i h'
 item:∀(X:Cx),X.prog=P->X.w=w->X.K=K->X.calm=true->∀(i:Nat)(ar:List (aj×Obj))(s:ao)(σ:St)(H:Hp)(E:af->ao->Prop),Inv X ar σ H s->(∀b∈fp,pC X ar H b)->tn i s.heap->J.go i H ->
  aJ (bb P w) X.A (iU (.ref it)) (λr s1=>∃u,r=some u /\
   aJ (bb P w) X.A (oI tg (.ref it) u) (λ_ s2=>∃x H',Inv X ar σ H' s2/\RelV x u/\J.yld i H x H'/\tn (i+1) s2.heap/\∀b∈fp,H' b=none) E s1) E s
 done:∀(X:Cx),X.prog=P->X.w=w->X.K=K->X.calm=true->∀(i:Nat)(ar:List (aj×Obj))(s:ao)(σ:St)(H:Hp)(E:af->ao->Prop),Inv X ar σ H s->(∀b∈fp,pC X ar H b)->tn i s.heap->J.stop i H ->
  aJ (bb P w) X.A (iU (.ref it)) (λr s1=>r=none/\Inv X ar σ H s1) E s
 self:∀(A:bH)(i:Nat)(s:ao)(Q:af->ao->Prop)(E:af->ao->Prop),tn i s.heap->Q (.ref it) s->aJ (bb P w) A (Ch (.ref it)) Q E s
abbrev TI:=St->Hp->(It->Hp->Prop)->Prop
def NA(X:Cx)(c:List (aj×Obj))(σ:St)(tg:Expr)(R:It->Hp->Prop)(g:af)(o:ao):Prop:=
 ∃(q:aj)(fp:List aj)(l:Nat->bK->Prop)(J:It)(h:Hp),g=.ref q/\Inv X c σ h o/\t8 X.prog X.w X.K tg J fp q l/\l 0 o.heap/\(∀b∈fp,pC X c h b)/\R J h
def PI(X:Cx)(tg iter:Expr)(c:TI):Prop:=
 ∀(ar:List (aj×Obj))(s:ao)(σ:St)(H:Hp)(R:It->Hp->Prop),Inv X ar σ H s->c σ H R ->
  aJ (bb X.prog X.w) X.A (eval iter X.env) (λv g=>aJ (bb X.prog X.w) X.A (Ch v) (NA X ar σ tg R) X.xe g) X.xe s
theorem GK{M:C4}{A:bH}{E:af->ao->Prop}{s:ao}{tg:Expr}{l:aj}{u:af}{o:Obj}{n:String}{g:Array af}{Q:Unit->ao->Prop}(q:s.heap.get? l=some o)(B:o.cls=.type n)(hd:o.data=.fields g)
  (v:["enumerate","zip","dict_itemiterator","dict_reverseitemiterator","odict_iterator","itertools.zip_longest","itertools.pairwise"].contains n=false) (c:Q () s):aJ M A (oI tg (.ref l) u) Q E s:=by
 unfold oI;cases tg<;>first
  |exact au c
  | (cases u <;> first
    |exact au c
    | (refine ab (wpAny_load q ?_)
       rw[B,hd]
       show aJ M A (if (["enumerate","zip","dict_itemiterator","dict_reverseitemiterator","odict_iterator","itertools.zip_longest","itertools.pairwise"].contains n&&g[0]? == some (fB _))=true then _ else _) Q E s;rw[aB (by intro h;rw[v,sD]at h;cases h)];exact au c))
def Fx(K:ah)(a:aj):It:=
 ⟨λi H=>∃xs x,ii K H a xs/\xs[i]?=some x,λi H x c=>c=H/\∀xs,ii K H a xs->xs[i]?=some x,λi H=>∃xs,ii K H a xs/\xs.length<=i⟩
def KC(K:ah)(a:aj):It:=
 ⟨λi H=>∃xs x,iZ K H a xs/\xs[i]?=some x,λi H x c=>c=H/\∀xs,iZ K H a xs->xs[i]?=some x,λi H=>∃xs,iZ K H a xs/\xs.length<=i⟩
noncomputable def EC(lo:Int)(n:Nat):It:=⟨λi _=>i < n,λi H x c=>c=H/\x=.int (lo+i),λi _=>n<=i⟩
theorem Mt{P:Program}{w:bN}{K:ah}{tg:Expr}(a l:aj):t8 P w K tg (Fx K a) [l] l (λi h=>h.IsListIter l a i) where
 mem:=by simp
 obj:=λi h st b q=>by
  have e:b=l:=by simpa using q
  subst e;obtain⟨o,e,c,d⟩:=st;exact⟨o,e,λv z=>by rw[d]at z;cases z⟩
 keep:=λi h h' st k=>st.at λo e=>k l (by simp) o e
 item:=by intro X U O Y hc i g s σ H E I G st Q;subst U O Y;obtain⟨xs,x,C,L⟩:=Q;obtain⟨its,J,p,hz⟩:=I.list C;obtain⟨u,hu,ru⟩:=J.get L;obtain⟨f0,f1,f2,f3,f4,f5⟩:=G l (by simp);refine xt st p.isList (x:=u) (by simpa using hu) λh' B sb=>?_;have I1:Inv X g σ H { s with heap:=h' }:=I.turned (t':=s.toks) (λb o q e=>(sb.2 b q).trans e) f0 f1 f3 f4 f5;obtain⟨o,e,c,d⟩:=id B;exact⟨u,rfl,GK (s:={ s with heap:=h' }) e c d (by decide) ⟨x,H,I1,ru,⟨rfl,λys hy=>by rw[I.list_inj hy C];exact L⟩,B,λb q=>(G b q).1⟩⟩
 done:=by intro X U O Y hc i g s σ H E I G st Q;subst U O Y;obtain⟨xs,C,L⟩:=Q;obtain⟨its,J,p,hz⟩:=I.list C;obtain⟨f0,f1,f2,f3,f4,f5⟩:=G l (by simp);have hl:=J.length;exact yl (I.ok.hd hc) st p.isList (by simp;ext) λh' eb=>⟨rfl,I.turned (t':=s.toks) (λb o q e=>eb b o q e) f0 f1 f3 f4 f5⟩
 self:=λ_ _ _ _ _ st h=>wpAny_pyIter_listiter st h
theorem S7{P:Program}{w:bN}{K:ah}{tg:Expr}(a l:aj):t8 P w K tg (KC K a) [l] l (λi h=>h.IsTupleIter l a i) where
 mem:=by simp
 obj:=λi h st b q=>by
  have e:b=l:=by simpa using q
  subst e;obtain⟨o,e,c,d⟩:=st;exact⟨o,e,λv z=>by rw[d]at z;cases z⟩
 keep:=λi h h' st k=>st.at λo e=>k l (by simp) o e
 item:=by intro X U O Y hc i g s σ H E I G st Q;subst U O Y;obtain⟨xs,x,C,L⟩:=Q;obtain⟨its,J,p,hz⟩:=I.tuple C;obtain⟨u,hu,ru⟩:=J.get L;obtain⟨f0,f1,f2,f3,f4,f5⟩:=G l (by simp);refine wpAny_pyNext_tuple_item st (show s.heap.IsTuple a its.toArray from p) (x:=u) (by simpa using hu) λh' B sb=>?_;have I1:Inv X g σ H { s with heap:=h' }:=I.turned (t':=s.toks) (λb o q e=>(sb.2 b q).trans e) f0 f1 f3 f4 f5;obtain⟨o,e,c,d⟩:=id B;exact⟨u,rfl,GK (s:={ s with heap:=h' }) e c d (by decide) ⟨x,H,I1,ru,⟨rfl,λys hy=>by rw[I.tuple_inj hy C];exact L⟩,B,λb q=>(G b q).1⟩⟩
 done:=by intro X U O Y hc i g s σ H E I G st Q;subst U O Y;obtain⟨xs,C,L⟩:=Q;obtain⟨its,J,p,hz⟩:=I.tuple C;obtain⟨f0,f1,f2,f3,f4,f5⟩:=G l (by simp);have hl:=J.length;exact wpAny_pyNext_tuple_end (I.ok.hd hc) st (show s.heap.IsTuple a its.toArray from p) (by simp;ext) λh' eb=>⟨rfl,I.turned (t':=s.toks) (λb o q e=>eb b o q e) f0 f1 f3 f4 f5⟩
 self:=λ_ _ _ _ _ st h=>wpAny_pyIter_tupleiter st h
theorem Px{P:Program}{w:bN}{K:ah}{tg:Expr}(g:aj)(lo:Int)(n:Nat):t8 P w K tg (EC lo n) [g] g (λi h=>IsRangeIter h g (lo+(i:Nat)*1) ((n:Int)-(i:Nat)) 1) where
 mem:=by simp
 obj:=λi h st b l=>by
  have e:b=g:=by simpa using l
  subst e;exact⟨_,st,λv z=>by have z':Data.fields _=Data.cell v:=z;cases z'⟩
 keep:=λi h h' st k=>k g (by simp) _ st
 item:=by intro X J B L G i c s σ H E I u st C;subst J B L;obtain⟨f0,Y,f2,U,Q,O⟩:=u g (by simp);have W:=Walks.range (prog:=X.prog) (w:=X.w) (I.ok.hd G) g lo 1 n;refine W.item i s _ _ C st λv h' tk hv q kk=>?_;obtain⟨t,rfl⟩:=hv;have I1:Inv X c σ H { s with heap:=h',toks:=tk }:=I.turned (λb o l e=>kk b o (by simpa using l) e) f0 Y U Q O;refine⟨_,rfl,GK (s:={ s with heap:=h',toks:=tk }) (n:="range_iterator") q rfl rfl (by decide) ⟨.int (lo+i),H,I1,⟨t,?_⟩,⟨rfl,rfl⟩,q,λb l=>(u b l).1⟩⟩;rw[Int.mul_one]
 done:=by intro X J B L G i c s σ H E I u st C;subst J B L;obtain⟨f0,Y,f2,U,Q,O⟩:=u g (by simp);exact wpAny_pyNext_range_end (I.ok.hd G) st (by have:n<=i:=C;ext) λh' eb=>⟨rfl,I.turned (t':=s.toks) (λb o l e=>eb b o l e) f0 Y U Q O⟩
 self:=λ_ _ _ _ _ st h=>wpAny_pyIter_rangeiter st h
section
variable{X:Cx}{tg:Expr}
def Fk(K:ah)(g:TE):TI:=λσ H R=>g σ H λx c=>∃a,x=.ref a/\(∃xs,ii K c a xs)/\R (Fx K a) c
theorem V4{l:Expr}{C:TE}(L:PE X l C):PI X tg l (Fk X.K C):=by
 intro g s σ H R I h;refine gg (L g s σ H _ I h) λv u c=>?_;obtain⟨x,Q,B,E,G⟩:=c;obtain⟨a,e,⟨xs,J⟩,q⟩:=G;subst e;cases E;obtain⟨its,U,p,hz⟩:=B.list J;refine ik p.isList ?_;refine⟨u.heap.objs.size,[u.heap.objs.size],_,_,Q,rfl,B.kept (t':=u.toks) λb o e=>aq _ e,Mt a _,⟨_,aF _ rfl,rfl,rfl⟩,λb O=>?_,q⟩;have e:b=u.heap.objs.size:=by simpa using O
 subst e;exact B.fpOk (ay _) (B.hok.fresh (ay _))
theorem NT{g:List (aj×Obj)}{σ:St}{H:Hp}{s:ao}{R:It->Hp->Prop}{E:af->ao->Prop}{lo c:Int}{t u v:Tok}{h:Nat}(I:Inv X g σ H s)(L : -(2^62)<=lo)(J:lo < 2^62)(G : -(2^62)<=c)(C:c < 2^62)
  (q:R (EC lo (c-lo).toNat) H):aJ (bb X.prog X.w) X.A (Ch (.ref s.heap.objs.size)) (NA X g σ tg R) E { s with heap:=s.heap.push { cls:=.type "range",data:=.fields #[.int lo t,.int c u,.int 1 v] },toks:=h }:=by
 refine wpAny_pyIter_range (IsRange.new ..) (small_one L J G C) ?_;have l:Inv X g σ H { s with heap:=s.heap.push { cls:=.type "range",data:=.fields #[.int lo t,.int c u,.int 1 v] },toks:=h }:=I.kept λb o e=>aq _ e;refine⟨(s.heap.push { cls:=.type "range",data:=.fields #[.int lo t,.int c u,.int 1 v] }).objs.size,[(s.heap.push { cls:=.type "range",data:=.fields #[.int lo t,.int c u,.int 1 v] }).objs.size],_,_,H,rfl,
  l.kept (t':=h) λb o e=>aq _ e,Px _ lo (c-lo).toNat,?_,λb B=>?_,q⟩
 ·have Q:lo+((0:Nat):Int)*1=lo:=by simp
  have O:(((c-lo).toNat:Nat):Int)-((0:Nat):Int)=pU lo c 1:=by rw[rangeSize_one];split<;>ext
  show IsRangeIter _ _ (lo+((0:Nat):Int)*1) ((((c-lo).toNat:Nat):Int)-((0:Nat):Int)) 1;rw[Q,O];exact aF _ rfl
 ·have e:b=(s.heap.push { cls:=.type "range",data:=.fields #[.int lo t,.int c u,.int 1 v] }).objs.size:=by simpa using B
  subst e;exact l.fpOk (ay _) (l.hok.fresh (ay _))
def fT(g:TA):TI:=λσ H R=>g σ H λc h=>∃j:Int,c=[.int j] /\ -(2^62)<=j/\j < 2^62/\R (EC 0 j.toNat) h
def nh(g:TA):TI:=λσ H R=>g σ H λc h=>∃i j:Int,c=[.int i,.int j]/\(-(2^62)<=i/\i < 2^62 /\ -(2^62)<=j/\j < 2^62)/\R (EC i (j-i).toNat) h
theorem Xu{a:Expr}{l:TA}{p pos:Pos}(C:Gl X "range")(B:X.mg "range"=none)(E:PA X [a] l)(v:starEach [a] X.env=[(false,eval a X.env)]:=by rfl):PI X tg (.Call (.Name "range" p) [a] [] pos) (fT l):=by
 intro c s σ H R I h;refine Call_ (zP I C B boot_range (fm (gg (E pos c s σ H _ I h) λL O ⟨J,Q,G,o,g⟩=>?_) v rfl));obtain⟨j,e,g,u,q⟩:=g;subst e;cases o with
 |cons r rr=>
  cases rr;obtain⟨t,rfl⟩:=r;exact call_range_1 (NT G (by ext) (by ext) g u (by simpa using q))
theorem TW{a b : Expr}{o : TA}{p pos : Pos}(J : Gl X "range")(G : X.mg "range" = none)(L : PA X [a, b] o)(E : starEach [a, b] X.env = [(false, eval a X.env), (false, eval b X.env)] := by rfl)(g : starEach [b] X.env = [(false, eval b X.env)] := by rfl):
  PI X tg (.Call (.Name "range" p) [a,b] [] pos) (nh o):=by
 intro c s σ H R I h;refine Call_ (zP I J G boot_range (fm (gg (L pos c s σ H _ I h) λU Y ⟨Q,H1,O,u,l⟩=>?_) (by rw[E,g]) (by rw[g];rfl)));obtain⟨i,j,e,⟨l,C,B,v⟩,q⟩:=l;subst e;cases u with
 |cons r rr=>
  cases rr with
  |cons r' rr=>
   cases rr;obtain⟨t,rfl⟩:=r;obtain⟨t',rfl⟩:=r';exact call_range_2 (NT O l C B v q)
def JQ(l:TI)(g:TG)(tb:TS):TS:=λD σ H=>l σ H λJ q=>∃W:Nat->Nat->St->Hp->Prop,(∃m,W 0 m σ q)/\∀i m σ H,W i m σ H ->
 (J.stop i H/\D.nx σ H)\/(J.go i H/\∃N:St->Hp->Prop,(∀σ' c,N σ' c->∃h,h < m/\W (i+1) h σ' c)/\∀x c,J.yld i H x c->g x σ c λσ2 o=>tb { D with nx:=N,ct:=N,bk:=D.nx } σ2 o)
noncomputable def my(fp:List aj)(h:bK):List (aj×Obj):=fp.filterMap λb=>(h.get? b).map λo=>(b,o)
theorem F7{fp:List aj}{h:bK}{b:aj}{o:Obj}(c:b∈fp)(e:h.get? b=some o):(b,o)∈my fp h:=lK.mpr ⟨b,c,by rw[e];rfl⟩
theorem RI{fp:List aj}{h:bK}{p:aj×Obj}(c:p∈my fp h):p.1∈fp/\h.get? p.1=some p.2:=by
 obtain⟨b,g,e⟩:=lK.mp c;cases q:h.get? b with
 |none=>rw[q]at e;cases e
 |some o=>
  rw[q]at e;have l:(b,o)=p:=aG e;subst l;exact⟨g,q⟩
theorem Inv.pinned{c:List (aj×Obj)}{σ:St}{H:Hp}{s:ao}{fp:List aj}(I:Inv X c σ H s)(u:∀b∈fp,pC X c H b)(q:∀b∈fp,∃o,s.heap.get? b=some o/\∀v,o.data≠.cell v):Inv X (c++my fp s.heap) σ H s:=
 I.pins_of λp l=>(aV.mp l).elim (λz=>I.pin p (bE _ z)) λz=>by obtain⟨g,e⟩:=RI z;obtain⟨E,C,B,_⟩:=u p.1 g;obtain⟨o,h,d⟩:=q p.1 g;rw[e]at h;cases h;exact⟨e,E,C,B,d⟩
theorem Inv.unpinned{c g:List (aj×Obj)}{σ:St}{H:Hp}{s:ao}(I:Inv X (c++g) σ H s):Inv X c σ H s:=I.pins_of λp h=>I.pin p (bE _ (cB _ h))
theorem Tw{iter:Expr}{L:List Stmt}{wi:TI}{g:TG}{tb:TS}{pos:Pos}(hp:tj (bb X.prog X.w) X.A X.env X.xe)(hc:X.calm=true)(hi:PI X tg iter wi)(hg:PG X tg g)(q:PSs X L tb)
  (hs:∀x,fE iter X.env x=pure x:=by intro _;rfl):PS X (.For tg iter L [] pos) (JQ wi g tb):=by
 intro c s σ H D I h;refine wpAny_For (gg (hi c s σ H _ I h) λv s1 h1=>gg h1 λitv s2 h2=>?_) hs;obtain⟨it,fp,tn,J,H2,e,I2,T,st2,f2,W,⟨m0,w0⟩,Q⟩:=h2;subst e;have l:∀{E:Hp},(∀b∈fp,E b=none)->∀b∈fp,pC X c E b:=λhn b q=>⟨hn b q,(f2 b q).2⟩
 refine codeAny_forLoop_any (λn s'=>∃i σ' E,Inv X c σ' E s'/\tn i s'.heap/\(∀b∈fp,E b=none)/\W i n σ' E) ?_ m0 ⟨0,σ,H2,I2,st2,λb q=>(f2 b q).1,w0⟩
 rintro n s3 ⟨i,σ3,H3,I3,st3,fr3,w3⟩
 rcases Q i n σ3 H3 w3 with ⟨U,qn⟩|⟨go,N,hN,step⟩
 ·refine g_ hp (gg (T.done X rfl rfl rfl hc i c s3 σ3 H3 X.xe I3 (l fr3) st3 U) λr s4 g=>?_);obtain⟨hr,h⟩:=g;subst hr;exact ue ⟨σ3,H3,h,qn⟩
 ·refine g_ hp (gg (T.item X rfl rfl rfl hc i c s3 σ3 H3 X.xe I3 (l fr3) st3 go) λr s4 h=>?_);obtain⟨u,hr,h4⟩:=h;subst hr;refine g_ hp (gg h4 λ_ Q g=>?_);obtain⟨x,U,I5,r5,y5,O,J⟩:=g;have L:=I5.pinned (l J) (T.obj _ _ O);refine g_ hp (gg (hg _ Q σ3 U x u _ L r5 (step x U y5)) λ_ s6 Y=>?_);obtain⟨σ6,H6,I6,q6⟩:=Y;refine g_ hp (gg (q _ s6 σ6 H6 _ I6 q6) λf I G=>?_);have again:∀{σ7:St}{C:Hp},Inv X (c++my fp Q.heap) σ7 C I->N σ7 C->∃m,m < n/\∃i σ' E,Inv X c σ' E I/\tn i I.heap/\(∀b∈fp,E b=none)/\W i m σ' E:=λ{σ7 C}B H=>by obtain⟨m',hm,w7⟩:=hN σ7 C H;refine⟨m',hm,i+1,σ7,C,B.unpinned,T.keep _ _ _ O λb q o e=>(B.pin (b,o) (bE _ (bE _ (F7 q e)))).1,λb q=>?_,w7⟩;obtain⟨o,e,d⟩:=T.obj _ _ O b q;exact (B.pin (b,o) (bE _ (bE _ (F7 q e)))).2.1
  cases f with
  |next=>obtain⟨σ7,C,B,H⟩:=G;exact again B H
  |cont=>obtain⟨σ7,C,B,H⟩:=G;exact again B H
  |brk=>obtain⟨σ7,C,B,G⟩:=G;exact⟨σ7,C,B.unpinned,G⟩
  |ret v=>obtain⟨x7,σ7,C,B,r7,G⟩:=G;exact⟨x7,σ7,C,B.unpinned,r7,G⟩
end
abbrev R2:=V->V->Hp->VK->Prop
def OpR(X:Cx)(f:af->af->Sem af)(r:R2):Prop:=
 ∀(ar:List (aj×Obj))(s:ao)(σ:St)(H:Hp)(x y:V)(v u:af)(Q:VK),Inv X ar σ H s->RelV x v->RelV y u->r x y H Q ->
  aJ (bb X.prog X.w) X.A (f v u) (EP X ar σ Q) X.xe s
def DF(X:Cx)(f:af->Sem af)(r:V->Hp->VK->Prop):Prop:=
 ∀(ar:List (aj×Obj))(s:ao)(σ:St)(H:Hp)(x:V)(v:af)(Q:VK),Inv X ar σ H s->RelV x v->r x H Q ->
  aJ (bb X.prog X.w) X.A (f v) (EP X ar σ Q) X.xe s
def CallR(X:Cx)(f:af)(r:List V->Hp->VK->Prop):Prop:=
 ∀(ar:List (aj×Obj))(s:ao)(σ:St)(H:Hp)(xs:List V)(us:List af)(Q:VK),Inv X ar σ H s->bU xs us->r xs H Q ->
  aJ (bb X.prog X.w) X.A (call f us) (EP X ar σ Q) X.xe s
def KU(X:Cx)(r:V->Hp->(Bool->Hp->Prop)->Prop):Prop:=
 ∀(ar:List (aj×Obj))(s:ao)(σ:St)(H:Hp)(x:V)(v:af)(Q:Bool->Hp->Prop),Inv X ar σ H s->RelV x v->r x H Q ->
  aJ (bb X.prog X.w) X.A (truthy v) (TP X ar σ Q) X.xe s
noncomputable def DS(r:R2)(c tb:TE):TE:=λσ H Q=>c σ H λx h=>tb σ h λy g=>r x y g Q
noncomputable def Mf(r:V->Hp->VK->Prop)(c:TE):TE:=λσ H Q=>c σ H λx g=>r x g Q
noncomputable def rI(C:Int->Int->Prop)(g:Int->Int->V):R2:=λx y H Q=>∃i j,x=.int i/\y=.int j/\C i j/\Q (g i j) H
noncomputable def A4(g:Int->Int->V):R2:=λx y H Q=>∃i j,x=.int i/\y=.int j/\Q (g i j) H
noncomputable def rU(g:Int->V):V->Hp->VK->Prop:=λx H Q=>∃i,x=.int i/\Q (g i) H
section
variable{X:Cx}{a b c:Expr}{ta tb tc:TE}{pos:Pos}
theorem BQ(c:PE X a ta)(Y:PE X b tb){g:List (aj×Obj)}{s:ao}{σ:St}{H:Hp}{R:V->V->Hp->Prop}(I:Inv X g σ H s)
  (h:ta σ H λx C=>tb σ C λy l=>R x y l) {Q:af->ao->Prop}{f:af->af->Sem af}
  (U:∀v u B x y l,Inv X g σ l B->RelV x v->RelV y u->R x y l->aJ (bb X.prog X.w) X.A (f v u) Q X.xe B):
  aJ (bb X.prog X.w) X.A (eval a X.env) (λv s₁=>aJ (bb X.prog X.w) X.A (eval b X.env) (λu s₂=>aJ (bb X.prog X.w) X.A (f v u) Q X.xe s₂) X.xe s₁) X.xe s:=by
 refine gg (c g s σ H _ I h) λv E q=>?_;obtain⟨x,C,I1,J,O⟩:=q;refine gg (Y g E σ C _ I1 O) λu B o=>?_;obtain⟨y,l,I2,G,L⟩:=o;exact U v u B x y l I2 J G L
theorem LB{op:rQ}{r:R2}(C:OpR X (e_ op) r)(G:PE X a ta)(E:PE X b tb):PE X (.BinOp a op b pos) (DS r ta tb):=by intro g s σ H Q I h;exact wpAny_BinOp (BQ G E I h λv u l x y L J B o q=>C g l σ L x y v u Q J B o q)
theorem NO{op:UnaryOp}{r:V->Hp->VK->Prop}(B:DF X (C7 op) r)(C:PE X a ta):PE X (.UnaryOp op a pos) (Mf r ta):=by intro g s σ H Q I h;exact UnaryOp_ (gg (C g s σ H _ I h) λv o l=>by obtain⟨x,G,E,q,u⟩:=l;exact B g o σ G x v Q E q u)
theorem GU{f:af->af->Sem af}{C:Int->Int->Prop}{g:Int->Int->Int}
  (rule:∀(i j:Int)(t u:Tok)(s:ao)(Q:af->ao->Prop)(E:af->ao->Prop),C i j->Q (.int (g i j) s.toks) { s with toks:=s.toks+1 }->aJ (bb X.prog X.w) X.A (f (.int i t) (.int j u)) Q E s):
  OpR X f (rI C λi j=>.int (g i j)):=by
 intro l s σ H x y v u Q I B o h;obtain⟨i,j,rfl,rfl,G,q⟩:=h;obtain⟨t,rfl⟩:=B;obtain⟨t',rfl⟩:=o;exact rule i j t t' s _ _ G ⟨.int (g i j),H,I.tok _,⟨_,rfl⟩,q⟩
theorem Fh{f:af->af->Sem af}{g:Int->Int->Int}
  (rule:∀(i j:Int)(t u:Tok)(s:ao)(Q:af->ao->Prop)(E:af->ao->Prop),Q (.int (g i j) s.toks) { s with toks:=s.toks+1 }->aJ (bb X.prog X.w) X.A (f (.int i t) (.int j u)) Q E s):
  OpR X f (A4 λi j=>.int (g i j)):=by
 intro l s σ H x y v u Q I B o h;obtain⟨i,j,rfl,rfl,q⟩:=h;obtain⟨t,rfl⟩:=B;obtain⟨t',rfl⟩:=o;exact rule i j t t' s _ _ ⟨.int (g i j),H,I.tok _,⟨_,rfl⟩,q⟩
theorem AF{f:af->af->Sem af}{g:Int->Int->Bool}
  (rule:∀(i j:Int)(t u:Tok)(s:ao)(Q:af->ao->Prop)(E:af->ao->Prop),Q (.bool (g i j)) s->aJ (bb X.prog X.w) X.A (f (.int i t) (.int j u)) Q E s):
  OpR X f (A4 λi j=>.bl (g i j)):=by
 intro l s σ H x y v u Q I B o h;obtain⟨i,j,rfl,rfl,q⟩:=h;obtain⟨t,rfl⟩:=B;obtain⟨t',rfl⟩:=o;exact rule i j t t' s _ _ ⟨.bl (g i j),H,I,rfl,q⟩
noncomputable def K1(i j:Int):Prop:=0 < j/\j < 1073741824
noncomputable def K8(i j:Int):Prop:=0<=j/\j<=1000000/\i.natAbs < 2^64
noncomputable def Az(i j:Int):Prop:=(-(2^64) < i/\i < 2^64)\/(-(2^64) < j/\j < 2^64)
theorem Az.ok{i j:Int}(h:Az i j):IntMulOk i j:=by
 rcases h with ⟨l,g⟩|⟨l,g⟩
 ·exact .of_left (intBits_le_64 l g)
 ·exact .of_right (intBits_le_64 l g)
theorem P7:OpR X (e_ .Add) (A4 λi j=>.int (i+j)):=Fh λ_ _ _ _ _ _ _ q=>add_int q
theorem T3:OpR X (e_ .Sub) (A4 λi j=>.int (i-j)):=Fh λ_ _ _ _ _ _ _ q=>sub_int q
theorem Va:OpR X (e_ .Mult) (rI Az λi j=>.int (i*j)):=GU λ_ _ _ _ _ _ _ g q=>mul_int q g.ok
theorem Pu:OpR X (e_ .FloorDiv) (rI K1 λi j=>.int (i / j)):=GU λi j _ _ _ _ _ g q=>by have l:(0:Int) < j:=g.1;have h:j < 1073741824:=g.2;exact floordiv_int (by ext) (by rw[Int.fdiv_eq_ediv_of_nonneg i (by ext)];exact q) (.inl (PyProof.noPylong_small (by ext)))
theorem O4:OpR X (e_ .Mod) (rI (λ_ j=>0 < j) λi j=>.int (i % j)):=GU λi j _ _ _ _ _ g q=>by have h:(0:Int) < j:=g;exact mod_int' (by ext) (by rw[Int.fmod_eq_emod_of_nonneg i (by ext)];exact q)
theorem UV:OpR X (e_ .Pow) (rI K8 λi j=>.int (i^j.toNat)):=GU λ_ _ _ _ _ _ _ g q=>pow_int_small g.1 g.2.1 g.2.2 q
theorem Ri{f:af->Sem af}{g:Int->Int}
  (rule:∀(i:Int)(t:Tok)(s:ao)(Q:af->ao->Prop)(E:af->ao->Prop),Q (.int (g i) s.toks) { s with toks:=s.toks+1 }->aJ (bb X.prog X.w) X.A (f (.int i t)) Q E s):
  DF X f (rU λi=>.int (g i)):=by
 intro l s σ H x v Q I o h;obtain⟨i,rfl,q⟩:=h;obtain⟨t,rfl⟩:=o;exact rule i t s _ _ ⟨.int (g i),H,I.tok _,⟨_,rfl⟩,q⟩
theorem Mp:DF X (C7 .USub) (rU λi=>.int (-i)):=Ri λ_ _ _ _ _ q=>neg_int q
end
section
variable{X:Cx}{a b c:Expr}{ta tb tc:TE}{pos:Pos}
theorem OA{g:List (aj×Obj)}{σ:St}{H:Hp}{s:ao}{Q:VK}{k h:Bool}(I:Inv X g σ H s)(q:Q (.bl k) H)(e:k=h):EP X g σ Q (.bool h) s:=by subst e;exact⟨.bl k,H,I,rfl,q⟩
theorem Qr:OpR X (dB .Lt) (A4 λi j=>.bl (decide (i < j))):=AF λ_ _ _ _ _ _ _ q=>lt_int q
theorem Th:OpR X (dB .Gt) (A4 λi j=>.bl (decide (j < i))):=AF λ_ _ _ _ _ _ _ q=>gt_int q
theorem WX:OpR X (dB .GtE) (A4 λi j=>.bl (decide (j<=i))):=AF λ_ _ _ _ _ _ _ q=>ge_int q
theorem WP:OpR X (dB .Is) (λx y H Q=>y=.non/\Q (.bl (decide (x=.non))) H):=by
 intro l s σ H x y v u Q I g o h;obtain⟨rfl,q⟩:=h;cases o;refine is_none_gen (OA I q ?_);cases x<;>first
  | (cases g;rfl)
  | (obtain⟨t,rfl⟩:=g;rfl)
theorem Rv:OpR X (dB .IsNot) (λx y H Q=>y=.non/\Q (.bl (!decide (x=.non))) H):=by
 intro l s σ H x y v u Q I g o h;obtain⟨rfl,q⟩:=h;cases o;refine isnot_none_gen (OA I q ?_);cases x<;>first
  | (cases g;rfl)
  | (obtain⟨t,rfl⟩:=g;rfl)
theorem Yf(b:Expr){op:uL}(h:op≠.In:=by decide)(g:op≠.NotIn:=by decide):gC op b=false:=by
 have o:(op == uL.In)=false:=by cases op<;>first|rfl|exact bq rfl h
 have l:(op == uL.NotIn)=false:=by cases op<;>first|rfl|exact bq rfl g
 cases b<;>simp[gC,o,l]
theorem Oq{op:uL}{r:R2}(C:OpR X (dB op) r)(J:PE X a ta)(G:PE X b tb)(E:gC op b=false):PE X (.Compare a [op] [b] pos) (DS r ta tb):=by intro g s σ H Q I h;exact wpAny_Compare1 (BQ J G I h λv u l x y O L B o q=>C g l σ O x y v u Q L B o q) E
noncomputable def EU(t:TE):TT:=λσ H Q=>t σ H λx g=>∃k,x=.bl k/\Q k g
theorem L5{op:uL}{r:R2}(L:OpR X (dB op) r)(Y:PE X a ta)(U:PE X b tb)(O:gC op b=false):PT X (.Compare a [op] [b] pos) (EU (DS r ta tb)):=by
 intro g s σ H Q I h;refine wpAny_isTrue_Compare1 (gg (Y g s σ H _ I h) λv o ⟨x,H1,I1,C,J⟩=>gg (U g o σ H1 _ I1 J) λu l ⟨y,H2,I2,B,G⟩=>
  gg (L g l σ H2 x y v u _ I2 C B G) λc s3 ⟨z,H3,I3,q,k,e,E⟩=>?_) O
 subst e;cases q;exact fD ⟨H3,I3,E⟩
def BA(K:ah)(x:V)(H:Hp)(k:Bool):Prop:=
 match x with
 | .non=>k=false
 | .bl b=>k=b
 | .int i=>k=(i != 0)
 | .str y=>y.length<=sizeLine/\k=((y.length:Int) != 0)
 | .byt y=>y.size<=sizeLine/\k=((y.size:Int) != 0)
 | .ref p=>(∃xs,ii K H p xs/\k = !xs.isEmpty)\/(∃xs,iZ K H p xs/\k = !xs.isEmpty)\/∃g,H p=some (.dK g)/\k = !g.isEmpty
 |_=>False
theorem U1{κ:Type}{g:List (κ×V)}{h:List (κ×af)}(r:KV g h):(!h.isEmpty) = !g.isEmpty:=by cases r<;>rfl
theorem Nr{xs:List V}{its:List af}(r:bU xs its):(!its.toArray.isEmpty) = !xs.isEmpty:=by cases r<;>simp
theorem Ag:(sizeLine:Nat) < 2^63:=by rw[mX];decide
theorem XO:KU X (λx H Q=>∃k,BA X.K x H k/\Q k H):=by
 intro G s σ H x v Q I u h;obtain⟨k,e,q⟩:=h;have U:=Ag;have O:sizeLine=16777216:=mX;cases x with
 |non=>
  cases u;have g:k=false:=e;subst g;exact truthy_none ⟨H,I,q⟩
 |bl b=>
  cases u;have g:k=b:=e;subst g;exact fD ⟨H,I,q⟩
 |int i=>
  obtain⟨t,rfl⟩:=u;have g:k=(i != 0):=e;subst g;exact PySem.P.truthy_int ⟨H,I,q⟩
 |str y=>
  obtain⟨t,rfl⟩:=u;obtain⟨J,g⟩:y.length<=sizeLine/\k=((y.length:Int) != 0):=e;subst g;exact PySem.P.truthy_str (by ext) ⟨H,I.tok _,q⟩
 |byt y=>
  obtain⟨t,rfl⟩:=u;obtain⟨J,g⟩:y.size<=sizeLine/\k=((y.size:Int) != 0):=e;subst g;exact PySem.W.truthy_bytes (by ext) ⟨H,I.tok _,q⟩
 |ref p=>
  cases u;have g:(∃xs,ii X.K H p xs/\k = !xs.isEmpty)\/(∃xs,iZ X.K H p xs/\k = !xs.isEmpty)\/∃l,H p=some (.dK l)/\k = !l.isEmpty:=e;rcases g with ⟨xs,B,g⟩|⟨xs,B,g⟩|⟨l,B,g⟩
  ·subst g;obtain⟨its,r,E,hz⟩:=I.list B;have o:=r.length;exact wpAny_truthy_list E.isList (by simp only[aH];ext) ⟨H,I.tok _,by rw[Nr r];exact q⟩
  ·subst g;obtain⟨its,r,E,hz⟩:=I.tuple B;have o:=r.length;exact truthy_tuple E (by simp only[aH];ext) ⟨H,I.tok _,by rw[Nr r];exact q⟩
  ·subst g;obtain⟨hz,L,C,r,m⟩:l.length<=sizeLine/\(p == cX)=false/\∃C,KV l C/\s.heap.DictOf (gH X.prog X.w) p C:=I.hok p _ B;have o:l.length=C.length:=di r;exact wpAny_truthy_dict L m (by ext) ⟨H,I.tok _,by rw[U1 r];exact q⟩
 |_=>exact (show False from e).elim
theorem S0(E:PE X a ta)(C:∀whole,isTrue a X.env whole=(do let v <- whole; xr a.pos; lw [v] (truthy v))):
  PT X a (λσ H Q=>ta σ H λx o=>∃k,BA X.K x o k/\Q k o):=by
 intro g s σ H Q I h;exact isTrue_plain (gg (E g s σ H _ I h) λv q l=>by obtain⟨x,J,G,u,B⟩:=l;exact XO g q σ J x v Q G u B) (C _)
theorem Xg:OpR X (e_ .Add) (λx y H Q=>∃i j,x=.str i/\y=.str j/\i.length+j.length<=sizeLine/\Q (.str (i++j)) H):=by intro g s σ H x y v u Q I o l h;obtain⟨i,j,rfl,rfl,hz,q⟩:=h;obtain⟨t,rfl⟩:=o;obtain⟨t',rfl⟩:=l;exact add_str (λt' B=>⟨.str (i++j),H,I.tok _,⟨_,rfl⟩,q⟩) hz
theorem ut{x:V}{g:List af}(r:bU [x] g):∃u,g=[u]/\RelV x u:=by
 cases r with
 |cons r1 r2=>cases r2;exact⟨_,rfl,r1⟩
theorem LN{x y:V}{h:List af}(r:bU [x,y] h):∃u g,h=[u,g]/\RelV x u/\RelV y g:=by
 cases r with
 |cons r1 r2=>
  cases r2 with
  |cons r3 r4=>cases r4;exact⟨_,_,rfl,r1,r3⟩
theorem Pb(o:X.calm=true):CallR X (.builtin "min") (λxs H Q=>∃i j,xs=[.int i,.int j]/\Q (.int (if j < i then j else i)) H):=by
 intro l s σ H xs B Q I r h;obtain⟨i,j,rfl,q⟩:=h;obtain⟨u,v,rfl,⟨t,rfl⟩,⟨t',rfl⟩⟩:=LN r;refine min_two_ints (I.ok.hd o) λh' C k=>⟨_,H,I.kept k,?_,q⟩
 by_cases g:j < i
 ·rw[aD g,aD g];exact⟨_,rfl⟩
 ·rw[aB g,aB g];exact⟨_,rfl⟩
theorem Pw:CallR X (.type "int") (λxs H Q=>(∃i,xs=[.int i]/\Q (.int i) H)\/∃k,xs=[.bl k]/\Q (.int (if k then 1 else 0)) H):=by
 intro g s σ H xs o Q I r h;rcases h with ⟨i,rfl,q⟩|⟨k,rfl,q⟩
 ·obtain⟨u,rfl,t,rfl⟩:=ut r;exact call_int_int ⟨.int i,H,I,⟨_,rfl⟩,q⟩
 ·obtain⟨u,rfl,l⟩:=ut r;cases l;exact call_int_bool ⟨.int (if k then 1 else 0),H,I.tok _,⟨_,rfl⟩,q⟩
end
structure BH(h:bK)(x dx C:aj)(mA:Str->Option af):Prop where
 obj:h.get? x=some (qr C dx)
 ns:h.Ns1 dx mA
 ne:dx≠x
theorem PV{h:bK}{v:aj}{l:Str->Option af}(n:h.Ns1 v l):∃g,h.get? v=some g/\∀name,qZ name g=some (l name):=by
 obtain⟨o,u,ep,C,hd,G,_,E⟩:=n;refine⟨o,C,λname=>?_⟩;have e:=E name;unfold nsFind findBy at e;rw[<- Array.find?_toList]at e;unfold qZ;rw[hd];dsimp only;split
 ·rename_i y q;rw[q]at e;exact cC some e
 ·rename_i q;rw[q]at e;have a:u.toList.any (·.refKey)=false:=by rw[List.any_eq_false];intro y B;obtain⟨z,t,c⟩:=G y (Array.mem_toList_iff.mp B);simp[iJ.refKey,c]
  have H:¬ u.toList.any (·.refKey)=true:=by rw[a];exact bv
  rw[aB H];exact cC some e
theorem BH.look{h:bK}{x l C:aj}{g:Str->Option af}(I:BH h x l C g):∃c,PySem.W.InstAt h x (qr C l) C (some c)/\∀name,qZ name c=some (g name):=
 let ⟨c,ho,hl⟩:=PV I.ns
 ⟨c,⟨I.obj,rfl,rfl,ho⟩,hl⟩
theorem py.some_of{v:V}{o:Option af}(r:py (some v) o):∃u,o=some u/\RelV v u:=by
 cases o with
 |none=>exact (show False from r).elim
 |some u=>exact⟨u,rfl,r⟩
section
variable{P:Program}{w:bN}{H H':Hp}{h h':bK}{a C dx:aj}{fs fx:List (Str×V)}
theorem Q2(hok:mJ P w H h)(e:H a=some (.ins C dx fs)):∃c,BH h a dx C c/\(∀f,py (fs.lookup f) (c f))/\Ce c (fs.map (·.1))/\fs.length<=1000/\H dx=some (.own a):=by
 obtain⟨d,z,l,g,c,n,r,q⟩:=(show eS P w H h a (.ins C dx fs) from hok a _ e)
 exact⟨c,⟨g,n,l⟩,r,q,z,d⟩
end
structure JJ(K:ah)(C:aj):Prop where
 pg:vY K C Str.empty=true
 hd:PySem.W.hasDictIn K C=true
 po:PySem.W.plainOver K C=true
 sa:xw K (.ref C) "__setattr__"=some (some (.builtin "object.__setattr__"))
theorem JJ.get{K:ah}{C:aj}(c:JJ K C)(f:Str):vY K C f=true:=c.pg
section
variable{X:Cx}{o e value:Expr}{f:Str}{pos fj em:Pos}{ta tv:TE}
noncomputable def D3:V->V->Hp->VK->Prop:=λx y H Q=>∃i j,x=.int i/\y=.int j/\Q (.int (i-j)) H
end
section
variable{X:Cx}{ar:List (aj×Obj)}{σ:St}{H:Hp}{s:ao}{A:bH}{E:af->ao->Prop}{Q:af->ao->Prop}{c:af}{b:Bool}
inductive qj(K:ah)(H:Hp):V->af->Prop where
 |non:qj K H .non (.type "NoneType")
 |bl (x:Bool):qj K H (.bl x) (.type "bool")
 |int (i:Int):qj K H (.int i) (.type "int")
 |str (x:Str):qj K H (.str x) (.type "str")
 |flt (x:UInt64):qj K H (.flt x) (.type "float")
 |lst {a:aj}{xs:List V} (e:H a=some (.lst xs)):qj K H (.ref a) (.type "list")
 |frz {a:aj}{o:Obj}{xs:List V} (e:H a=some (.frz o (.lst xs))):qj K H (.ref a) (.type "list")
 |tup {a:aj}{xs:List V} (e:H a=some (.tup xs)):qj K H (.ref a) (.type "tuple")
 |dK {a:aj}{cp:List (Key×V)} (e:H a=some (.dK cp)):qj K H (.ref a) (.type "dict")
 |dT {a:aj}{cp:List (List Key×V)} (e:H a=some (.dT cp)):qj K H (.ref a) (.type "dict")
 |ins {a C dx : aj} {fs : List (Str×V)} (e : H a = some (.ins C dx fs)) (cl : JJ K C) (ha : xw K (.ref C) "__class__" = some (some (.builtin "object.__class__")))
   (hn:PySem.W.specialIn K (.builtin "object.__class__") "__get__"=some (some (.builtin "getset_descriptor.__get__"))) (htk:PySem.W.takesIn K (.builtin "object.__class__")=some true)
   (hm:PySem.W.mroIn K C (.type "object")=some true):qj K H (.ref a) (.ref C)
theorem GY{x:V}{u t:af}(I:Inv X ar σ H s)(g:RelV x u)(ty:qj X.K H x t)(e:fW X.K t c=some b)(h:∀B,Q (.bool b) { s with toks:=B }):
  aJ (bb X.prog X.w) A (call (.builtin "isinstance") [u,c]) Q E s:=by
 cases ty with
 |non=>cases (show u=bQ from g);exact df PySem.W.kitx_none I.kIn eX e nofun h
 |bl y=>cases (show u=dq y from g);exact df PySem.W.kitx_bool I.kIn eX e nofun h
 |int i=>obtain⟨t,q⟩:=(show ∃t,u=gh i t from g);cases q;exact df PySem.W.kitx_int I.kIn eX e nofun h
 |str y=>obtain⟨t,q⟩:=(show ∃t,u=iM y t from g);cases q;exact df PySem.W.kitx_str I.kIn eX e nofun h
 |flt y=>obtain⟨t,q⟩:=(show ∃t,u=C3 y t from g);cases q;exact df PySem.W.kitx_float I.kIn eX e nofun h
 |@lst a xs ea=>
  cases (show u=bc a from g);obtain⟨_,_,n,_,l⟩:=(show eS X.prog X.w H s.heap a (.lst xs) from I.hok a _ ea)
  exact df pe I.kIn ⟨_,l,rfl⟩ e nofun h
 |@frz a ob xs ea=>
  cases (show u=bc a from g);obtain⟨_,_,_,n,_,l⟩:=(show eS X.prog X.w H s.heap a (.frz ob (.lst xs)) from I.hok a _ ea)
  exact df pe I.kIn ⟨_,l,rfl⟩ e nofun h
 |@tup a xs ea=>
  cases (show u=bc a from g);obtain⟨_,_,_,p⟩:=(show eS X.prog X.w H s.heap a (.tup xs) from I.hok a _ ea)
  obtain⟨o,l,v,_⟩:=p;exact df uM I.kIn ⟨o,l,v⟩ e nofun h
 |@dK a cp ea=>
  cases (show u=bc a from g);obtain⟨_,_,L,_,p⟩:=(show eS X.prog X.w H s.heap a (.dK cp) from I.hok a _ ea)
  obtain⟨o,G,ep,l,v,_⟩:=p;exact df vm I.kIn ⟨o,l,v.1⟩ e nofun h
 |@dT a cp ea=>
  cases (show u=bc a from g);obtain⟨_,_,xs,_,o,G,ep,l,v,_⟩:=(show eS X.prog X.w H s.heap a (.dT cp) from I.hok a _ ea)
  exact df vm I.kIn ⟨o,l,v.1⟩ e nofun h
 |@ins a C dx fs ea cl ha hn htk hm=>
  cases (show u=bc a from g);obtain⟨Y,O,_⟩:=Q2 I.hok ea;obtain⟨U,J,_⟩:=O.look;exact df (PySem.W.kitx_own (cl.get _) cl.hd ha hn htk hm) I.kIn J e nofun h
end
structure ig(k:Nat)(A:bH):Prop where
 hd:A.handled=none
 dp:A.depth+3*k+5 < recursionLimit
 un:A.units+16*k+200 < dk
theorem ig.mono{j k:Nat}{A:bH}(r:ig k A)(h:j<=k):ig j A:=⟨r.hd,by have:=r.dp;ext,by have:=r.un;ext⟩
theorem ig.deeper{k:Nat}{A:bH}(r:ig (k+1) A)(env:Env):ig k (A.deeper env):=
 ⟨r.hd,by have:=r.dp;show A.depth+1+3*k+5 < _;ext,by have:=r.un;show A.units+3+16*k+200 < _;ext⟩
theorem ig.depth{k:Nat}{A:bH}(r:ig k A):A.depth < recursionLimit:=by have:=r.dp;ext
theorem ig.units{k:Nat}{A:bH}(r:ig k A):A.units+64 < dk:=by have:=r.un;ext
noncomputable def Kn:TA:=λ_ H Q=>Q [] H
noncomputable def D2(g:TE)(c:TA):TA:=λσ H Q=>g σ H λx l=>c σ l λxs h=>Q (x::xs) h
section
variable{X:Cx}{e:Expr}{es:List Expr}{te:TE}{t:TA}{pos:Pos}
theorem uk:PA X [] Kn:=λ_ _ _ _ H Q I h=>ww ⟨[],H,I,.nil,h⟩
theorem rA(J:PE X e te)(G:PA X es t)(E:starEach (e::es) X.env=(false,eval e X.env)::starEach es X.env:=by rfl):PA X (e::es) (D2 te t):=by
 intro pos c s σ H Q I h;rw[E]
 show aJ _ _ (spliced ((false,eval e X.env)::backTo pos (starEach es X.env))) _ _ s;refine vZ (gg (J c s σ H _ I h) λu o l=>?_);obtain⟨x,Y,O,v,C⟩:=l;exact gg (G pos c o σ Y _ O C) λus s2 g=>by obtain⟨xs,U,L,q,B⟩:=g;exact⟨x::xs,U,L,.cons v q,B⟩
def Ke(t:TA):TE:=λσ H Q=>t σ H λxs c=>xs.length<=sizeLine/\∀p,c p=none->Q (.ref p) (fJ c p (.tup xs))
def J8(t:TA):TE:=λσ H Q=>t σ H λxs c=>xs.length<=sizeLine/\∀p,c p=none->Q (.ref p) (fJ c p (.lst xs))
theorem Sa{v}(h:PA X es t):PE X (.Tuple es v pos) (Ke t):=by intro c s σ H Q I C;refine wpAny_Tuple_spliced (gg (h pos c s σ H _ I C) λB g ⟨xs,o,l,r,z,q⟩=>⟨by rw[<- r.length];exact z,?_⟩);have E:o g.heap.objs.size=none:=l.hok.fresh (ay _);refine⟨.ref g.heap.objs.size,fJ o g.heap.objs.size (.tup xs),l.laid (t':=g.toks) (λb u e=>aq _ e) (ay _) ?_,rfl,q _ E⟩;exact⟨z,B,r,⟨_,aF _ rfl,rfl,⟨_,rfl⟩,rfl⟩⟩
theorem PK(h:PA X es t):PE X (.List es pos) (J8 t):=by intro c s σ H Q I B;refine wpAny_List_spliced (gg (h pos c s σ H _ I B) λv g ⟨xs,o,l,r,z,q⟩=>⟨by rw[<- r.length];exact z,?_⟩);have C:o g.heap.objs.size=none:=l.hok.fresh (ay _);refine⟨.ref g.heap.objs.size,fJ o g.heap.objs.size (.lst xs),l.laid (t':=g.toks) (λb u e=>aq _ e) (ay _) ?_,rfl,q _ C⟩;exact⟨z,v,0,r,aF _ rfl⟩
end
abbrev Sp:=List V->Hp->VK->XK->Prop
abbrev xf:=List Env->Hp->ao->XK->af->ao->Prop
structure qF(P:Program)(w:bN)(K:ah)(mg:Str->Option af)(base:bK)(A:bH)(outer:List Env)(s:ao)(H:Hp):Prop where
 frames:A.frames=some outer
 mod:Mod K mg base
 bs:∀b o,base.get? b=some o->s.heap.get? b=some o/\H b=none
 bsz:base.objs.size<=s.heap.objs.size
 funs:s.heap.FunFrames base outer
 frf:∀b∈fK outer,H b=none
 hok:mJ P w H s.heap
 bare:lm s.gens
def CE(outer:List Env)(P:Program)(w:bN)(H:Hp)(s:ao)(Q:VK)(u:af)(c:ao):Prop:=
 ∃v g,c.os=s.os/\lm c.gens/\Un (fK outer) [] H g s.heap c.heap/\mJ P w g c.heap/\RelV v u/\Q v g
def CR(g:xf)(outer:List Env)(P:Program)(w:bN)(H:Hp)(s:ao)(Q:VK)(E:XK)(r:Result)(c:ao):Prop:=
 match r with
 | .ok (.ret u)=>CE outer P w H s Q u c
 | .ok _=>False
 | .error e=>g outer H s E e c
structure lW(P:Program)(w:bN)(K:ah)(mg:Str->Option af)(base:bK)(CX:xf)(k:Nat)(f:aj)(fd:cY)(ps:List Str)(sp:Sp):Prop where
 len:∀vs H Q E,sp vs H Q E->vs.length=ps.length
 run:∀(A:bH)(outer:List Env)(s:ao)(H:Hp)(args:Args)(us:List af)(vs:List V)(Q:VK)(E:XK),ig k A->qF P w K mg base A outer s H->rR s fd args (ps.zip us)->bU vs us->sp vs H Q E ->
  ke (bb P w) A (.call (.ref f) args) (CR CX outer P w H s Q E) s
section
variable{X:Cx}{ar:List (aj×Obj)}{σ:St}{H:Hp}{s s':ao}
theorem Inv.env0(I:Inv X ar σ H s):qF X.prog X.w X.K X.mg X.base X.A X.stack s H:=
 ⟨I.ok.frames,I.ok.mod,I.bs,bZ I.ok.bsz I.sz,I.stack,I.stkFree,I.hok,I.bare⟩
theorem Inv.after{Q:VK}{u:af}(I:Inv X ar σ H s)(h:CE X.stack X.prog X.w H s Q u s'):EP X ar σ Q u s':=by obtain⟨v,o,os,c,un,hok,r,q⟩:=h;obtain⟨hh,g,d,t,l⟩:=s';obtain rfl:l=s.os:=os;exact⟨v,o,I.call (h':=hh) (g':=g) (d':=d) (t':=t) (ch:=[]) un hok c (λb z=>bq z (by simp)),r,q⟩
end
noncomputable def DC(h:Sp)(c:List V)(E:XK)(t:TA):TE:=λσ H Q=>t σ H λg l=>h (g++c) l Q E
noncomputable def Binds(K:ah)(h:cY)(g:List Str)(ds:List af):Prop:=
 ∀(s:ao)(c:List af),K.In s.heap->(c++ds).length=g.length->rR s h ⟨c,[]⟩ (g.zip (c++ds))
theorem Binds.all{K:ah}{o:cY}{g:List Str}(h:∀c:List af,c.length=g.length->lE o ⟨c,[]⟩=pure (g.zip c)):Binds K o g []:=λs c _ l=>by rw[br]at l ⊢;exact .of_eq (h c l)
def sY(c:xf)(X:Cx)(E:XK):Prop:=∀(ar:List (aj×Obj))(σ:St)(H:Hp)(s:ao)(e:af)(s':ao),Inv X ar σ H s->c X.stack H s E e s'->X.xe e s'
section
variable{X:Cx}{CX:xf}{k:Nat}{f C:aj}{fd:cY}{ps:List Str}{sp:Sp}{eB:List V}{ds:List af}{E:XK}{x m:Str}{p pos ec:Pos}{e o:Expr}{es:List Expr}{ta:TE}{t:TA}
theorem W1{c:List (aj×Obj)}{σ:St}{H:Hp}{s:ao}{Q:VK}{g:List af}{q:List V}(F:lW X.prog X.w X.K X.mg X.base CX k f fd ps sp)(J:ig k X.A)(O:Binds X.K fd ps ds)(hd:bU eB ds)(G:sY CX X E)
  (I:Inv X c σ H s) (r:bU q g) (h:sp (q++eB) H Q E):aJ (bb X.prog X.w) X.A (call (.ref f) g) (EP X c σ Q) X.xe s:=by
 have v:bU (q++eB) (g++ds):=r.append hd;have L:(g++ds).length=ps.length:=by rw[<- v.length];exact F.len _ _ _ _ h
 refine uN (kI (F.run X.A X.stack s H ⟨g,[]⟩ (g++ds) (q++eB) Q E J I.env0 (O s g I.kIn L) v h) λr B l=>?_);cases r with
 |error e=>exact G c σ H s e B I l
 |ok fl=>
  cases fl with
  |ret u=>exact I.after l
  |next=>exact cT l
  |brk=>exact cT l
  |cont=>exact cT l
theorem Lw(F:lW X.prog X.w X.K X.mg X.base CX k f fd ps sp)(B:ig k X.A)(L:Gl X x)(G:X.mg x=some (.ref f))(J:cS X.K (.ref f)=true)(U:Binds X.K fd ps ds)(hd:bU eB ds)(v:sY CX X E)
  (Y:PA X (e::es) t) (l:(x == ("__debug__":Str))=false:=by decide) (O:starEach (e::es) X.env=(false,eval e X.env)::starEach es X.env:=by rfl) (g:(backTo pos (starEach es X.env)).any (·.1)=false:=by rfl):
  PE X (.Call (.Name x p) (e::es) [] pos) (DC sp eB E t):=by
 intro c s σ H Q I h;refine gR (M3 I L G ?_ l);refine uO (h₀:=X.base) I.ok.mod.kin J (gg (Y pos c s σ H _ I h) λC s1 ⟨o,H1,u,r,q⟩=>⟨u.kIn,?_⟩) O g;exact W1 F B U hd v u r q
end
section
variable{X:Cx}{CX:xf}{k:Nat}{f C:aj}{fd:cY}{ps ks:List Str}{sp:Sp}{E:XK}{x m:Str}{p pos ec ft:Pos}{e o:Expr}{es:List Expr}{kws:List lY}{te ta:TE}{t tk:TA}{nm:Option Str}
variable{g:List af->List af->List af}{gV:List V->List V->List V}
end
structure mB(N P:List Str)(sc:dD):Prop where
 kind:sc.kind=.function
 co:sc.isCoroutine=false
 gen:sc.isGenerator=false
 nd:N.Nodup
 pre:N.take P.length=P
 par:∀x∈P,sc.names.lookup x=some .local\/sc.names.lookup x=some .cell
 nofree:∀y∈sc.names,y.2≠.free
theorem Lz{kindOf:Str->Option dE}{x:Str}:∀{binds:List (Str×af)}{m:Str->Option af},(∀v,(x,v)∉binds)->pD kindOf binds m x=m x
 |[],_,_=>rfl
 | (n,v)::r,m,h=>by
  unfold pD;rw[Lz λw c=>h w (bD _ c)];split
  ·have:x≠n:=by rintro rfl;exact h v cE
   simp[this]
  ·rfl
theorem Nn{kindOf:Str->Option dE}{x:Str}:∀{binds:List (Str×af)}{m:Str->Option af},(∀v,(x,v)∉binds)->pE kindOf binds m x=m x
 |[],_,_=>rfl
 | (n,v)::r,m,h=>by
  unfold pE;rw[Nn λw c=>h w (bD _ c)];split
  ·rfl
  ·have:x≠n:=by rintro rfl;exact h v cE
   simp[this]
theorem HZ{kindOf:Str->Option dE}{x:Str}{v:af}: ∀{P:List Str}{c:List af}{i:Nat}{m:Str->Option af},P.Nodup->P[i]?=some x->c[i]?=some v->kindOf x=some .local ->
  pD kindOf (P.zip c) m x=some v
 |[],_,_,_,_,h,_,_=>by simp at h
 |_::_,[],_,_,_,_,h,_=>by simp at h
 |p::P,w::c,0,m,nd,h1,h2,hk=>by
  simp at h1 h2;subst h1;subst h2
  show pD kindOf ((p,w)::P.zip c) m p=_;unfold pD;rw[Lz λv g=>(eK.mp nd).1 (np g).1,aD hk];simp
 |p::P,w::c,i+1,m,nd,h1,h2,hk=>by show pD kindOf ((p,w)::P.zip c) m x=_;unfold pD;exact HZ (i:=i) (eK.mp nd).2 (by simpa using h1) (by simpa using h2) hk
theorem Ji{kindOf:Str->Option dE}{x:Str}{v:af}: ∀{P:List Str}{c:List af}{i:Nat}{m:Str->Option af},P.Nodup->P[i]?=some x->c[i]?=some v->kindOf x≠some .local ->
  pE kindOf (P.zip c) m x=some v
 |[],_,_,_,_,h,_,_=>by simp at h
 |_::_,[],_,_,_,_,h,_=>by simp at h
 |p::P,w::c,0,m,nd,h1,h2,hk=>by
  simp at h1 h2;subst h1;subst h2
  show pE kindOf ((p,w)::P.zip c) m p=_;unfold pE;rw[Nn λv g=>(eK.mp nd).1 (np g).1,aB hk];simp
 |p::P,w::c,i+1,m,nd,h1,h2,hk=>by show pE kindOf ((p,w)::P.zip c) m x=_;unfold pE;exact Ji (i:=i) (eK.mp nd).2 (by simpa using h1) (by simpa using h2) hk
noncomputable def start(N:List Str)(c:List V):St:=c.map some++aP (N.length-c.length) none
noncomputable def sN(h:xf)(P:Program)(w:bN)(K:ah)(mg:Str->Option af)(base:bK)(N:List Str)(qual:Str)(scope:dD)(f:aj)(g:af)(A:bH)(outer:List Env)(s:ao)(H:Hp)(E:XK):Cx where
 prog:=P
 w:=w
 K:=K
 mg:=mg
 base:=base
 A:=A.deeper (oz qual scope s.heap.objs.size f g)
 N:=N
 s₀:=s
 H₀:=H
 env:=oz qual scope s.heap.objs.size f g
 outer:=outer
 stack:=oz qual scope s.heap.objs.size f g::outer
 ex:=[]
 calm:=true
 fn:=λ_=>true
 pn:=[]
 xe:=λe l=>aJ (bb P w) (A.deeper (oz qual scope s.heap.objs.size f g)) (leaving (oz qual scope s.heap.objs.size f g) e) (λ_ c=>h outer H s E e c) (λo c=>h outer H s E o c) l
theorem EA{sc:dD}{n:Nat}{x:Str}(h:sc.names.lookup x=some .cell):∃c,(bM n sc.names []).lookup x=some c:=by have q:=iV sc.names n [] (.inl h);exact lV.mp q
theorem O3{CX:xf}{P:Program}{w:bN}{K:ah}{mg:Str->Option af}{base:bK}{N B:List Str}{qual:Str}{scope:dD}{f:aj}{Q:af}{A:bH}{outer:List Env}{s Y:ao}{H:Hp}{E:XK}{U:List af}{o:List V}
  (S:mB N B scope) (hd:A.handled=none) (l:qF P w K mg base A outer s H) (hl:o.length=B.length) (r:bU o U)
  (x:oA s s.heap.objs.size (pD (oz qual scope s.heap.objs.size f Q).kindOf (B.zip U) λ_=>none) (bM (s.heap.objs.size+1) scope.names []) (pE (oz qual scope s.heap.objs.size f Q).kindOf (B.zip U) λ_=>none) Y):
  Inv (sN CX P w K mg base N qual scope f Q A outer s H E) [] (start N o) H Y:=by
 have hpl:B.length<=N.length:=by have:=cC dP S.pre;rw[aZ]at this;ext
 obtain⟨O,tk,rfl,hk⟩:=x.done;have C:∀b:aj,b∉(sN CX P w K mg base N qual scope f Q A outer s H E).ex:=λb z=>bq (show b∈([]:List aj) from z) (by simp);refine⟨⟨l.mod,S.kind,rfl,rfl,ay _,λy z c O g=>?_,λy G=>?_,λy c _ h=>?_,λ_=>hd,ul l.frames,.inr ⟨rfl,rfl⟩,λb z=>bq z (C b),l.bs,l.bsz,λb _ _=>C b,λb z=>bq z (C b),l.funs,l.frf⟩,
  rfl,l.bare,Un.kept hk,⟨_,x.toInCall.ns,λi y v O g h3=>?_⟩,λy c h=>⟨_,x.cell y c h⟩,l.hok.fresh (ay _),λy c h=>?_,λp J=>bq (show p∈([]:List (aj×Obj)) from J) (by simp),l.hok.kept hk,?_⟩
 ·exact xy x.apart (aW O) (aW g)
 ·have G:scope.names.lookup y=some .cell\/scope.names.lookup y=some .free:=G;rcases G with G|G
  ·exact EA G
  ·exact bq rfl (S.nofree _ (aW G))
 ·exact fH (x.above y c (aW h))
 ·have L : i < o.length := by
    unfold start at g;by_cases L:i < o.length
    ·exact L
    ·rw[aM (by simpa using L)]at g;rw[fw]at g;split at g<;>cases g
  have l:o[i]?=some v:=by
   unfold start at g;rw[av (by simpa using L),ak]at g;cases e:o[i]? with
   |none=>rw[e]at g;cases g
   |some a=>rw[e]at g;cases g;rfl
  obtain⟨u,hu,h⟩:=r.get l;have J:B[i]?=some y:=by rw[<- S.pre,bO (by ext)];exact O
  have I:B.Nodup:=by rw[<- S.pre];exact S.nd.sublist (pV _ _)
  refine⟨u,h,?_⟩;rcases S.par y (az J) with k|k
  ·exact .inl ⟨k,HZ I J hu k⟩
  ·obtain⟨c,e⟩:=EA (n:=s.heap.objs.size+1) k;refine .inr ⟨.inl k,c,e,?_⟩;have q:=x.cell y c e;rw[Ji I J hu (by show scope.names.lookup y≠_;rw[k];decide)]at q;exact q
 ·exact l.hok.fresh (fH (x.above y c (aW h)))
 ·unfold start
  show _=N.length;rw[aE,ae,eU];ext
theorem L1{CX:xf}{P:Program}{w:bN}{K:ah}{mg:Str->Option af}{base:bK}{k:Nat}{f:aj}{name qual:Str}{g:nR}{h:List Stmt}{scope:dD}{dV kV doc pm c ct oc:af}{an od:Option aj}
  {osl:Array (Option af)}{N ps:List Str}{sp:Sp} (lk:K.lookup f=some ⟨oc,od,.func (cK name qual g h scope dV kV doc pm an c ct),osl⟩) (hcd:fX K c qual=true) (S:mB N ps scope)
  (len:∀l H Q E,sp l H Q E->l.length=ps.length)
  (G:∀(A:bH)(outer:List Env)(s:ao)(H:Hp)(l:List V)(Q:VK)(E:XK),ig k (A.deeper (oz qual scope s.heap.objs.size f c))->sp l H Q E ->
   ∃t,PSs (sN CX P w K mg base N qual scope f c A outer s H E) h t/\t { nx:=λ_ B=>Q .non B,rt:=Q } (start N l) H):
  lW P w K mg base CX (k+1) f (cK name qual g h scope dV kV doc pm an c ct) ps sp:=by
 refine⟨len,λA outer s H args us l Q E hr Y hb r U=>?_⟩;have hl:=len _ _ _ _ U;have KX:K.In s.heap:=Y.mod.kin.keeps λb o e=>(Y.bs b o e).1;have fv:s.heap.NoLimit:=Y.mod.nolimit.keeps λb o e=>(Y.bs b o e).1;have C:∀y∈ps.zip us,scope.names.lookup y.1=some .local\/(scope.names.lookup y.1=some .cell/\((bM (s.heap.objs.size+1) scope.names []).lookup y.1).isSome=true):=λO hy=>by
  obtain⟨n,v⟩:=O;rcases S.par n (np hy).1 with q|q
  ·exact .inl q
  ·exact .inr ⟨q,iV _ _ _ (.inl q)⟩
 refine ym hr.depth (KX _ _ lk) rfl S.co S.gen rfl (PySem.W.codeRec_of KX hcd) (hb _ _ _ _ ?_);refine wpAny_newFunctionEnv_cells S.kind C λenv he s1 x=>?_;subst he;refine⟨fv.keeps x.toInCall.keep,codeAny_func ?_⟩;obtain⟨t,ht,hq⟩:=G A outer s H l Q E (hr.deeper _) U;have I:Inv (sN CX P w K mg base N qual scope f c A outer s H E) [] (start N l) H s1:=O3 S hr.hd Y hl r x;refine gQ (ht [] s1 (start N l) H _ I hq) (λfl s' L=>?_) λe s' L=>L;have fin:∀{σ':St}{B:Hp}{v:V}{u:af},Inv (sN CX P w K mg base N qual scope f c A outer s H E) [] σ' B s'->RelV v u->Q v B->CE outer P w H s Q u s':=
  λ{σ' B v u}J rv q=>⟨v,B,J.os,J.bare,J.base,J.hok,rv,q⟩
 cases fl with
 |ret u=>
  obtain⟨v,σ',B,J,rv,q⟩:=L;exact fin J rv q
 |next=>
  obtain⟨σ',B,J,q⟩:=L;exact fin (v:=V.non) (u:=bQ) J rfl q
 |brk=>
  obtain⟨_,_,_,q⟩:=L;exact cT q
 |cont=>
  obtain⟨_,_,_,q⟩:=L;exact cT q
section
variable{X:Cx}{x:Str}{p pos:Pos}{e:Expr}{es:List Expr}{t:TA}{id T:String}{r:List V->Hp->VK->Prop}
noncomputable def Mx(r:List V->Hp->VK->Prop)(t:TA):TE:=λσ H Q=>t σ H λc g=>r c g Q
theorem Du(U : CallR X (.builtin id) r)(L : Gl X x)(J : X.mg x = none)(E : cV x = some (.builtin id))(Y : PA X (e :: es) t)(G : x ≠ "__name__" := by decide)(o : (x == ("__debug__" : Str)) = false := by decide)
  (O:starEach (e::es) X.env=(false,eval e X.env)::starEach es X.env:=by rfl) (l:(backTo pos (starEach es X.env)).any (·.1)=false:=by rfl):PE X (.Call (.Name x p) (e::es) [] pos) (Mx r t):=by
 intro c s σ H Q I h;refine gR (zP I L J E ?_ G o);exact PyProof.Rows.callWith_builtin1 (gg (Y pos c s σ H _ I h) λu v g=>by obtain⟨q,H1,I1,B,C⟩:=g;exact U c v σ H1 q u Q I1 B C) O l
theorem EG(U : CallR X (.type T) r)(L : Gl X x)(J : X.mg x = none)(E : cV x = some (.type T))(Y : PA X (e :: es) t)(G : x ≠ "__name__" := by decide)(o : (x == ("__debug__" : Str)) = false := by decide)
  (O:starEach (e::es) X.env=(false,eval e X.env)::starEach es X.env:=by rfl) (l:(backTo pos (starEach es X.env)).any (·.1)=false:=by rfl):PE X (.Call (.Name x p) (e::es) [] pos) (Mx r t):=by
 intro c s σ H Q I h;refine gR (zP I L J E ?_ G o);exact fm (gg (Y pos c s σ H _ I h) λu v g=>by obtain⟨q,H1,I1,B,C⟩:=g;exact U c v σ H1 q u Q I1 B C) O l
end
end L2
namespace HT
open PySem PyProof.Rows
section
open PySem.SeqAt
open PySem.AutoSeq1 (wpAny_loadPart')
open PySem.MeetsSeq PySem.MeetsSeq2 PySem.MeetsSeq3
end
section
variable{prog:Program}{w:bN}{A:bH}{E:af->ao->Prop}{s:ao}
theorem yY{t b:aj}{g ws:List af}{Q:af->ao->Prop}(L:zA s.heap t g.toArray)(O:zA s.heap b ws.toArray)(G:g≠[])
  (Y:ws=[]->Q (.ref t) s) (U:ws≠[]->Q (.ref s.heap.objs.size) { s with heap:=s.heap.push { cls:=.type "tuple",data:=.seq (g++ws).toArray } })
  (hsz:g.length+ws.length<=sizeLine):aJ (bb prog w) A (e_ .Add (.ref t) (.ref b)) Q E s:=by
 obtain⟨⟨cls,I,data,B⟩,v,H,n,hd⟩:=id L;obtain⟨⟨J,q,data2,h⟩,c,o,C,l⟩:=id O;simp only at H hd o l;subst H hd o l;have e:g.toArray++ws.toArray=(g++ws).toArray:=by simp
 by_cases u:ws=[]
 ·exact xz ⟨_, v, rfl⟩ ⟨_, c, rfl⟩ tm v5 mH lZ (lO _ _)
    (tuple_addW1 t b g.toArray ws.toArray n C I q B h (by simpa using G) (by simp[u])) ⟨v,c,Y u⟩
 ·refine xz ⟨_, v, rfl⟩ ⟨_, c, rfl⟩ tm v5 mH lZ (lO _ _)
    (tuple_addW2 t b g.toArray ws.toArray n C I q B h (by simpa using G) (by simpa using u) (by rw[aH,aH];exact hsz)) ⟨v,c,?_⟩
  rw[e];exact U u
noncomputable def gM(n d:Nat):Option Int->Nat
 |none=>d
 |some v=>if v < 0 then (v+(n:Int)).toNat else min v.toNat n
theorem W2(n d:Nat)(hd:d<=n)(o:Option Int):gM n d o<=n:=by
 cases o with
 |none=>exact hd
 |some v=>
  show (if v < 0 then (v+(n:Int)).toNat else min v.toNat n)<=n;by_cases c:v < 0
  ·rw[aD c];ext
  ·rw[aB c];exact Nat.min_le_right _ _
theorem M0(v:Int)(n d:Nat):(if v < 0 then max (v+(n:Int)) 0 else min v (n:Int))=((gM n d (some v):Nat):Int):=by
 show (if v < 0 then max (v+(n:Int)) 0 else min v (n:Int))=(((if v < 0 then (v+(n:Int)).toNat else min v.toNat n):Nat):Int)
 by_cases c:v < 0
 ·simp only[aD c];ext
 ·simp only[aB c];ext
theorem Q0(lo c:Option Int)(n:Nat):kJ lo c 1 (n:Int)=(((gM n 0 lo:Nat):Int),((gM n n c:Nat):Int)):=by
 have g:¬ ((1:Int) < 0):=by ext
 unfold kJ;simp only[g,if_false];refine Prod.ext ?_ ?_
 ·cases lo with
  |none=>rfl
  |some v=>exact M0 v n 0
 ·cases c with
  |none=>rfl
  |some v=>exact M0 v n n
theorem XG(i j:Nat):gI (i:Int) (j:Int) 1=j-i:=by
 unfold gI;have c:(1:Int) > 0:=by ext
 simp only[c,if_true,Int.ediv_one];split<;>ext
theorem MW{v:af}{o:Option Int}{Q:Option Int->ao->Prop}(p:tq v o)(h:Q o s):aJ (bb prog w) A (Builtin.Slice.slicePartIndex v) Q E s:=by
 cases p with
 |none=>exact slicePart_none h
 |int i t=>exact slicePart_int h
theorem Xt{u:aj}{q o:af}{lo g:Option Int}{n:Nat}{Q:Int×Int×Nat->ao->Prop}(C:s.heap.IsSliceOf u q o .none)(B:tq q lo)(v:tq o g)
  (h:Q (((gM n 0 lo:Nat):Int),1,gM n n g-gM n 0 lo) s):aJ (bb prog w) A (pf (.ref u) (pure (n:Int))) Q E s:=by
 obtain⟨os,c,G,l⟩:=id C;unfold pf Builtin.Slice.sliceFields;refine ab (ab (cU c l (x:=q) rfl (ab (cU c l (x:=o) rfl (ab (cU c l (x:=.none) rfl (au ?_)))))));refine ab (slicePart_none ?_)
 show aJ _ _ (if ((1:Int) == 0)=true then _ else _) _ _ s;rw[aB (by decide)];refine ab (MW B (ab (MW v (ab (au ?_)))))
 show aJ _ _ (match kJ lo g 1 (n:Int) with|(lo,g)=>pure (lo,(1:Int),gI lo g 1)) _ _ s;rw[Q0 lo g n]
 show aJ _ _ (pure (((gM n 0 lo:Nat):Int),(1:Int),gI ((gM n 0 lo:Nat):Int) ((gM n n g:Nat):Int) 1)) _ _ s;rw[XG];exact au h
theorem SW(xs:Array af)(i k:Nat):((bG k).filterMap λ(m:Nat)=>xs[((i:Int)+(m:Int)*1).toNat]?).toArray=((xs.toList.drop i).take k).toArray:=by
 have e:(λ(m:Nat)=>xs[((i:Int)+(m:Int)*1).toNat]?)=λm=>xs[i+m]?:=by
  funext m;have:((i:Int)+(m:Int)*1).toNat=i+m:=by ext
  rw[this]
 rw[e];have:=pick_run xs i k;rw[List.filterMap_map]at this;have c:((λx=>xs[x]?) ∘ λx=>i+x)=λm=>xs[i+m]?:=rfl;rw[c]at this;rw[this]
theorem oU{t o:aj}{items:Array af}{H G:af}{lo g:Option Int}{Q:af->ao->Prop}(l:zA s.heap t items)(I:s.heap.IsSliceOf o H G .none)(L:tq H lo)(J:tq G g)
  (O:¬ (gM items.size 0 lo=0/\gM items.size items.size g=items.size))
  (h:Q (.ref s.heap.objs.size) { s with heap:=s.heap.push { cls:=.type "tuple",data:=.seq ((items.toList.drop (gM items.size 0 lo)).take (gM items.size items.size g-gM items.size 0 lo)).toArray } })
  (hsz:items.size<=sizeLine):aJ (bb prog w) A (pT (.ref t) (.ref o)) Q E s:=by
 have c:sizeOk (.seq ((items.toList.drop (gM items.size 0 lo)).take (gM items.size items.size g-gM items.size 0 lo)).toArray):=by show ((items.toList.drop (gM items.size 0 lo)).take (gM items.size items.size g-gM items.size 0 lo)).toArray.size<=sizeLine;rw[aH,aZ,gq,d_];ext
 have hj:gM items.size items.size g<=items.size:=W2 _ _ (ay _) g;obtain⟨os,u,B,U⟩:=id I;have C:s.TypeIs (.ref o) "slice":=⟨os,u,B⟩
 unfold pT
 try with_reducible refine c_ ?_
 first|refine ab (au ?_)|skip
 refine ab (C8 l.typeIs (by decide) ?_);refine ab (b9 (name:=aA "__getitem__") l.typeIs nS
  (cF nS l.typeIs entry_tuple_getitem ?_ (args_tuple_getitem _ _)))
 show aJ _ _ (ph (.ref t) >>= _) _ _ s;refine ab (tupleItemsOf_ l ?_);refine ab (rS C ?_);rw[aD (by decide)];refine ab (Xt I L J ?_);have v:¬ ((((gM items.size 0 lo:Nat):Int) == 0&&(1:Int) == 1&&(gM items.size items.size g-gM items.size 0 lo) == items.size)=true):=by intro q;rw[bh,bh]at q;have q1:((gM items.size 0 lo:Nat):Int)=0:=eq_of_beq q.1.1;have Y:gM items.size items.size g-gM items.size 0 lo=items.size:=eq_of_beq q.2;exact O ⟨by ext,by ext⟩
 show aJ _ _ (if (((gM items.size 0 lo:Nat):Int) == 0&&(1:Int) == 1&&(gM items.size items.size g-gM items.size 0 lo) == items.size)=true then _ else _) _ _ s;rw[aB v,SW]
 first
  |exact ab (m:=gS _) (cg (au ⟨_,rfl,au h⟩) c)
  |exact ab (m:=gS _) (cg (ab (au (au ⟨_,rfl,au h⟩))) c)
  |exact ab (ab (m:=gS _) (cg (au (au ⟨_,rfl,au h⟩)) c))
  |exact ab (ab (m:=gS _) (cg (au ⟨_,rfl,au h⟩) c))
end
end HT
namespace L2
open PySem PySem.Spec PyProof.Rows
abbrev TO:=St->Hp->(Option Int->Hp->Prop)->Prop
def PO(X:Cx)(e:Option Expr)(t:TO):Prop:=
 ∀(ar:List (aj×Obj))(s:ao)(σ:St)(H:Hp)(Q:Option Int->Hp->Prop),Inv X ar σ H s->t σ H Q ->
  aJ (bb X.prog X.w) X.A (evalPart e X.env) (λu g=>∃o c,Inv X ar σ c g/\tq u o/\Q o c) X.xe s
noncomputable def zu:TO:=λ_ H Q=>Q none H
noncomputable def DH(t:TE):TO:=λσ H Q=>t σ H λx c=>∃i,x=.int i/\Q (some i) c
theorem Ka{g:List Int}:∀{c:List af},bU (g.map V.int) c->lx c g:=by
 induction g with
 |nil=>intro c r;rw[mY]at r;cases r;exact .nil
 |cons n g ih=>
  intro c r;rw[aO]at r;cases r with
  |cons r1 r2=>
   obtain⟨t,e⟩:=r1;subst e;exact .cons n t (ih r2)
section
variable{X:Cx}{e:Expr}{te:TE}{lo hi:Option Expr}{tl th:TO}{pos p2:Pos}
theorem Q8:PO X none zu:=by intro c s σ H Q I h;rw[v6];exact au ⟨none,H,I,.none,h⟩
theorem MI(h:PE X e te):PO X (some e) (DH te):=by intro g s σ H Q I v;rw[evalPart_some];refine gg (h g s σ H _ I v) λu E c=>?_;obtain⟨x,C,B,l,o⟩:=c;obtain⟨i,rfl,q⟩:=o;obtain⟨t,rfl⟩:=l;exact⟨some i,C,B,.int i t,q⟩
def KD(X:Cx)(r:V->Option Int->Option Int->Hp->VK->Prop):Prop:=
 ∀(ar:List (aj×Obj))(s:ao)(σ:St)(H:Hp)(x:V)(v vl vu:af)(lo hi:Option Int)(sl:aj)(Q:VK),Inv X ar σ H s->RelV x v->s.heap.IsSliceOf sl vl vu .none->tq vl lo->tq vu hi->r x lo hi H Q ->
  ∃T id,uP (.type T) "__getitem__"=pure (some (.builtin id))/\s.TypeIs v T/\aJ (bb X.prog X.w) X.A (pT v (.ref sl)) (EP X ar σ Q) X.xe s
noncomputable def T9(r:V->Option Int->Option Int->Hp->VK->Prop)(te:TE)(tl th:TO):TE:=λσ H Q=>te σ H λx h=>tl σ h λl g=>th σ g λu c=>r x l u c Q
theorem LQ{r:V->Option Int->Option Int->Hp->VK->Prop}(hr:KD X r)(he:PE X e te)(hl:PO X lo tl)(hu:PO X hi th):PE X (.Subscript e (.Slice lo hi none p2) pos) (T9 r te tl th):=by
 intro c s σ H Q I h;refine Ci (gg (he c s σ H _ I h) λv L B=>?_);obtain⟨x,H1,I1,O,q1⟩:=B;refine wpAny_Slice (gg (hl c L σ H1 _ I1 q1) λE J ⟨l,H2,I2,pl,Y⟩=>gg (hu c J σ H2 _ I2 Y) λC g o=>?_);obtain⟨u,G,I3,pu,U⟩:=o;rw[v6];refine au ?_;have I4:Inv X c σ G { g with heap:=g.heap.push { cls:=.type "slice",data:=.fields #[E,C,.none] } }:=I3.kept (t':=g.toks) λb ob q=>aq _ q;obtain⟨T,id,hT,ht,hg⟩:=hr c { g with heap:=g.heap.push { cls:=.type "slice",data:=.fields #[E,C,.none] } } σ G x v E C l u g.heap.objs.size Q I4 O (rB ..) pl pu U
 show aJ (bb X.prog X.w) X.A (v7 e (.Slice lo hi none p2) v (.ref g.heap.objs.size)) (EP X c σ Q) X.xe { g with heap:=g.heap.push { cls:=.type "slice",data:=.fields #[E,C,.none] } };exact zC (ops:=[.ref g.heap.objs.size,v]) ht hT hg (by with_unfolding_all rfl)
def ud(xs:List V)(lo hi:Option Int):List V:=(xs.drop (HT.gM xs.length 0 lo)).take (HT.gM xs.length xs.length hi-HT.gM xs.length 0 lo)
theorem MR(xs:List V)(lo hi:Option Int):(ud xs lo hi).length<=xs.length:=by unfold ud;rw[aZ,gq];ext
def IQ(K:ah):V->Option Int->Option Int->Hp->VK->Prop:=λx lo hi H Q=>∃a xs,x=.ref a/\iZ K H a xs /\
 ¬ (HT.gM xs.length 0 lo=0/\HT.gM xs.length xs.length hi=xs.length)/\∀p,H p=none->Q (.ref p) (fJ H p (.tup (ud xs lo hi)))
theorem Rf:KD X (IQ X.K):=by
 intro g s σ H x v O L lo hi U Q I u J C B h;obtain⟨a,xs,rfl,E,G,q⟩:=h;cases u;obtain⟨its,r,l,hz⟩:=I.tuple E;have c:its.toArray.size=xs.length:=by rw[aH];exact r.length.symm
 refine⟨"tuple",_,nS.lookup,l.typeIs,?_⟩;refine HT.oU l J C B (by rw[c];exact G) ?_ (by rw[c];exact hz);rw[c];refine⟨.ref s.heap.objs.size,_,I.laid (t':=s.toks) (o:=.tup (ud xs lo hi)) (λb Y q=>aq _ q) (ay _) ?_,rfl,q _ (I.hok.fresh (ay _))⟩;exact⟨bZ (MR xs lo hi) hz,_,(r.drop (HT.gM xs.length 0 lo)).take (HT.gM xs.length xs.length hi-HT.gM xs.length 0 lo),kH.new _ _⟩
def En(K:ah):R2:=λx y H Q=>∃a b xs ys,x=.ref a/\y=.ref b/\iZ K H a xs/\iZ K H b ys/\xs≠[]/\xs.length+ys.length<=sizeLine /\
 (ys=[]->Q (.ref a) H)/\(ys≠[]->∀p,H p=none->Q (.ref p) (fJ H p (.tup (xs++ys))))
theorem bU.nil_iff{xs:List V}{c:List af}(r:bU xs c):c=[]↔xs=[]:=by
 cases r with
 |nil=>simp
 |cons _ _=>simp
theorem Uu:OpR X (e_ .Add) (En X.K):=by intro l s σ H x y v u Q I E C h;obtain⟨a,b,xs,ys,rfl,rfl,Y,U,O,hz,J,G⟩:=h;cases E;cases C;obtain⟨its,g,L,_⟩:=I.tuple Y;obtain⟨B,c,p2,_⟩:=I.tuple U;refine HT.yY L p2 (λz=>O (g.nil_iff.mp z)) (λz=>⟨.ref a,H,I,rfl,J (c.nil_iff.mp z)⟩) (λz=>?_) (by rw[<- g.length,<- c.length];exact hz);refine⟨.ref s.heap.objs.size,_,I.laid (t':=s.toks) (o:=.tup (xs++ys)) (λb ob q=>aq _ q) (ay _) ?_,rfl,G (λw=>z (c.nil_iff.mpr w)) _ (I.hok.fresh (ay _))⟩;exact⟨by rw[aE];exact hz,_,g.append c,kH.new _ _⟩
end
noncomputable def mC(n:Nat)(i:Int):Option Nat:=if 0<=i then (if i < n then some i.toNat else none) else if -(n:Int)<=i then some (i+n).toNat else none
def vS{α:Type}(xs:List α)(i:Int):Option α:=(mC xs.length i).bind λj=>xs[j]?
theorem Nj{n:Nat}{i:Int}{j:Nat}(h:mC n i=some j):seqIndex? i n=some j/\j < n /\ -(n:Int)<=i/\i < n:=by
 unfold mC at h;by_cases g:0<=i
 ·rw[aD g]at h;by_cases c:i < n
  ·rw[aD c]at h;have e:i.toNat=j:=aG h;exact⟨by rw[tD g c,e],by ext,by ext,c⟩
  ·rw[aB c]at h;cases h
 ·rw[aB g]at h;by_cases c : -(n:Int)<=i
  ·rw[aD c]at h;have e:(i+n).toNat=j:=aG h;exact⟨by rw[rT (by ext) c,e],by ext,c,by ext⟩
  ·rw[aB c]at h;cases h
theorem Gw{α:Type}{xs:List α}{i:Int}{v:α}(h:vS xs i=some v):∃j,seqIndex? i xs.length=some j/\xs[j]?=some v/\j < xs.length /\ -(xs.length:Int)<=i/\i < xs.length:=by
 unfold vS at h;cases e:mC xs.length i with
 |none=>rw[e]at h;cases h
 |some j=>
  rw[e]at h;obtain⟨o,l,g,c⟩:=Nj e;exact⟨j,o,h,l,g,c⟩
noncomputable def qu(b:Expr):Prop:=∀o i,subscripted b false o i=operate [o,i] (pT o i)
def IxR(X:Cx)(r:R2):Prop:=
 ∀(g c:Expr)(ar:List (aj×Obj))(s:ao)(σ:St)(H:Hp)(x y:V)(v u:af)(Q:VK),Inv X ar σ H s->RelV x v->RelV y u->r x y H Q ->
  subscripted c false v u=operate [v,u] (pT v u)->aJ (bb X.prog X.w) X.A (v7 g c v u) (EP X ar σ Q) X.xe s
def Gx(X:Cx)(id:String)(r:V->List V->Hp->VK->Prop):Prop:=
 ∀(ar:List (aj×Obj))(s:ao)(σ:St)(H:Hp)(x:V)(xs:List V)(v:af)(us:List af)(Q:VK),Inv X ar σ H s->RelV x v->bU xs us->r x xs H Q ->
  aJ (bb X.prog X.w) X.A (call (.builtin id) (v::us)) (EP X ar σ Q) X.xe s
section
variable{X:Cx}{a b:Expr}{ta tb:TE}{pos:Pos}
theorem IxR.or{r C:R2}(h:IxR X r)(h':IxR X C):IxR X (λx y H Q=>r x y H Q\/C x y H Q):=by
 intro c g l s σ H x y v u Q I B o q E;rcases q with q|q
 ·exact h c g l s σ H x y v u Q I B o q E
 ·exact h' c g l s σ H x y v u Q I B o q E
theorem MB{r:R2}(C:IxR X r)(G:PE X a ta)(E:PE X b tb)(B:qu b):PE X (.Subscript a b pos) (DS r ta tb):=by intro c s σ H Q I h;exact Ci (BQ G E I h λv u g x y L J o l q=>C a b c g σ L x y v u Q J o l q (B _ _))
def Ca(K:ah):R2:=λx y H Q=>∃p xs i v,x=.ref p/\y=.int i/\ii K H p xs/\vS xs i=some v/\Q v H
def Ff(K:ah):R2:=λx y H Q=>∃p xs i v,x=.ref p/\y=.int i/\iZ K H p xs/\vS xs i=some v/\Q v H
def EE:R2:=λx y H Q=>∃z i c,x=.str z/\y=.int i/\z.length<=sizeLine/\vS z.cps.toList i=some c/\Q (.str ⟨#[c]⟩) H
theorem NI:IxR X (Ca X.K):=by
 intro l o c s σ H x y v u Q I Y U h G;obtain⟨p,xs,i,z,rfl,rfl,hq,he,q⟩:=h;cases Y;obtain⟨t,rfl⟩:=U;obtain⟨its,r,C,hz⟩:=I.list hq;obtain⟨j,g,h2,h3,h4,h5⟩:=Gw he;obtain⟨w,L,B⟩:=r.get h2;have hl:=r.length;have hn:=Ag;have fin:EP X c σ Q w s:=⟨z,H,I,B,q⟩
 by_cases J:0<=i
 ·have E : i.toNat = j := by rw[tD J h5]at g;exact aG g
  exact item_listR C.isList J (by ext) (by rw[E];simpa using L) fin G
 ·have E : (i+(its.toArray.size : Int)).toNat = j := by rw[rT (by ext) h4]at g;rw[aH,<- hl];exact aG g
  exact xA (x:=w) C.isList.typeIs rV.lookup
   (xB (Q:=λr O=>r=w/\EP X c σ Q r O) C.isList (by ext) (by rw[aH]<;>ext) (by ext) (by rw[E];simpa using L) ⟨rfl,fin⟩) G
theorem Qb:IxR X (Ff X.K):=by
 intro g l c s σ H x y v u Q I G E h J;obtain⟨p,xs,i,z,rfl,rfl,L,U,q⟩:=h;cases G;obtain⟨t,rfl⟩:=E;obtain⟨its,r,B,hz⟩:=I.tuple L;obtain⟨j,h1,Y,h3,h4,h5⟩:=Gw U;obtain⟨w,ew,o⟩:=r.get Y;have O:=r.length;have hn:=Ag;have fin:EP X c σ Q w s:=⟨z,H,I,o,q⟩
 exact xA (x:=w) B.typeIs slot_tuple_getitem.lookup
  (getItem_tuple (j:=j) (Q:=λr C=>r=w/\EP X c σ Q r C) B (by ext) (by ext) (by rw[aH,<- O];exact h1) (by simpa using ew) ⟨rfl,fin⟩) J
theorem O1:IxR X EE:=by
 intro g l o s σ H x y v u Q I E C h G;obtain⟨z,i,c,rfl,rfl,hz,L,q⟩:=h;obtain⟨t,rfl⟩:=E;obtain⟨t',rfl⟩:=C;obtain⟨j,B,Y,h3,U,O⟩:=Gw L;have J:z.cps.toList.length=z.length:=by simp[Str.length]
 rw[J]at B U O;have hn:=Ag;exact zC (typeIs_str s z t) slot_str_getitem.lookup (getItem_str (c:=c) (by have e1:decide (i < -(2^63:Int))=false:=aT (by ext);have e2:decide (i ≥ 2^63)=false:=aT (by ext);rw[e1,e2,Bool.or_false]) (by rw[B];simpa using Y) ⟨.str ⟨#[c]⟩,H,I.tok _,⟨_,rfl⟩,q⟩) G
def N9(K:ah):R2:=λx y H Q=>Ca K x y H Q\/Ff K x y H Q\/EE x y H Q
theorem Sn:IxR X (N9 X.K):=NI.or (Qb.or O1)
theorem VV(its:List af)(n j:Nat)(u:af):pF (·.setIfInBounds j u) { cls:=.type "list",data:=.seq its.toArray n }={ cls:=.type "list",data:=.seq (its.set j u).toArray n }:=by simp[pF]
theorem Inv.lst{c:List (aj×Obj)}{σ:St}{H:Hp}{s:ao}{p:aj}{xs:List V}(I:Inv X c σ H s)(h:H p=some (.lst xs)):
  ∃(its:List af)(n:Nat),bU xs its/\s.heap.get? p=some { cls:=.type "list",data:=.seq its.toArray n }/\xs.length<=sizeLine:=by
 obtain⟨z,its,n,r,e⟩:=I.hok p _ h;exact⟨its,n,r,e,z⟩
theorem Inv.lstUpd{c:List (aj×Obj)}{σ:St}{H:Hp}{s:ao}{p:aj}{xs ys:List V}{its its':List af}{n g:Nat}{f:Obj->Obj}(I:Inv X c σ H s)(h:H p=some (.lst xs))
  (o:s.heap.get? p=some { cls:=.type "list",data:=.seq its.toArray n }) (l:f { cls:=.type "list",data:=.seq its.toArray n }={ cls:=.type "list",data:=.seq its'.toArray g }) (r:bU ys its') (hz:ys.length<=sizeLine) (t:Nat):
  Inv X c σ (fJ H p (.lst ys)) { s with heap:=s.heap.update p f,toks:=t }:=by
 have e:(s.heap.update p f).get? p=some { cls:=.type "list",data:=.seq its'.toArray g }:=by rw[cG f o (by rw[l]<;>rfl),l]
 refine I.write (x:=p) (e:=p) (by rw[h];trivial) (.inl rfl) (λb u v q=>(da _ _ (bX v)).trans q) ⟨_,e⟩ ?_;exact⟨hz,its',g,r,e⟩
def Fz:V->V->V->Hp->(Hp->Prop)->Prop:=λo i v H Q=>∃p xs k j,o=.ref p/\i=.int k/\H p=some (.lst xs)/\mC xs.length k=some j/\Q (fJ H p (.lst (xs.set j v)))
theorem Ms:PSet X Fz:=by
 intro c s σ H o i v ov iv u Q I Y ri U h;obtain⟨p,xs,k,j,rfl,rfl,E,hj,q⟩:=h;cases Y;obtain⟨t,rfl⟩:=ri;obtain⟨its,n,r,l,hz⟩:=I.lst E;obtain⟨g,h2,J,G⟩:=Nj hj;have B:=r.length;have hn:=Ag;have O:Inv X c σ (fJ H p (.lst (xs.set j v))) { s with heap:=s.heap.update p (pF (·.setIfInBounds j u)) }:=
  I.lstUpd E l (VV its n j u) (r.set U j) (by rw[cL];exact hz) s.toks
 by_cases L:0<=k
 ·have C : k.toNat = j := by rw[tD L G]at g;exact aG g
  exact PySem.W.ki_setAt l L (by ext) (by rw[aH,<- B];exact G) (by rw[C];exact⟨_,O,q⟩)
 ·have C : (k+(its.toArray.size : Int)).toNat = j := by rw[rT (by ext) J]at g;rw[aH,<- B];exact aG g
  exact PySem.W.ki_setBack l (by ext) (by rw[aH,<- B];exact J) (by ext) (by rw[C];exact⟨_,O,q⟩)
theorem T8(lo c:Option Int)(n:Nat):(fL lo c none n).1=((HT.gM n 0 lo:Nat):Int)/\(fL lo c none n).2.1=((HT.gM n n c:Nat):Int)/\(fL lo c none n).2.2=1:=by
 refine⟨?_,?_,rfl⟩
 ·cases lo with
  |none=>simp[fL,HT.gM]
  |some i=>
   simp only[fL,HT.gM,pW,show (1:Int) > 0 by decide,if_true];by_cases h:i < 0
   ·simp only[h,if_true]<;>ext
   ·simp only[h,if_false]<;>ext
 ·cases c with
  |none=>simp[fL,HT.gM]
  |some i=>
   simp only[fL,HT.gM,pW,show (1:Int) > 0 by decide,if_true];by_cases h:i < 0
   ·simp only[h,if_true]<;>ext
   ·simp only[h,if_false]<;>ext
theorem Uh(its:List af)(lo c:Option Int):wx its.toArray lo c none=((its.drop (HT.gM its.length 0 lo)).take (HT.gM its.length its.length c-HT.gM its.length 0 lo)).toArray:=by obtain⟨l,h,g⟩:=T8 lo c its.toArray.size;unfold wx;rw[l,h,g];simp only[sliceRange_one,pick_run,aH]<;>rfl
def Ez(K:ah):V->Option Int->Option Int->Hp->VK->Prop:=λx lo c H Q=>∃a xs,x=.ref a/\ii K H a xs/\∀p,H p=none->Q (.ref p) (fJ H p (.lst (ud xs lo c)))
theorem Wj:KD X (Ez X.K):=by intro l s σ H x v O L lo g U Q I B J E C h;obtain⟨a,xs,rfl,G,q⟩:=h;cases B;obtain⟨its,r,u,hz⟩:=I.list G;have c:=r.length;refine⟨"list",_,rV.lookup,u.isList.typeIs,?_⟩;refine v8 u.isList J E C .none (by simp) ?_ (by rw[aH]<;>ext);rw[Uh,<- c];refine⟨.ref s.heap.objs.size,_,I.laid (t':=s.toks) (o:=.lst (ud xs lo g)) (λb Y q=>aq _ q) (ay _) ?_,rfl,q _ (I.hok.fresh (ay _))⟩;exact⟨bZ (MR xs lo g) hz,_,0,(r.drop (HT.gM xs.length 0 lo)).take (HT.gM xs.length xs.length g-HT.gM xs.length 0 lo),aF _ rfl⟩
noncomputable def n9:V->Bool
 | .non=>true
 | .bl _=>true
 | .int _=>true
 | .str _=>true
 |_=>false
noncomputable def yF:V->V->Bool
 | .non,.non=>true
 | .bl a,.bl b=>a == b
 | .bl a,.int b=>(if a then 1 else 0) == b
 | .int a,.bl b=>a == (if b then 1 else 0)
 | .int a,.int b=>a == b
 | .str a,.str b=>a == b
 |_,_=>false
theorem Pl{A:bH}{s:ao}{y x:V}{u v:af}(g:RelV y u)(c:RelV x v)(l:n9 y=true)(h:n9 x=true):FQ A s u v (yF y x):=by
 cases y with
 |non=>
  cases g;cases x with
  |non=>cases c;exact FQ.same _
  |bl b=>cases c;exact FQ.none_bool b
  |int b=>obtain⟨t,rfl⟩:=c;exact FQ.none_int b t
  |str b=>obtain⟨t,rfl⟩:=c;exact FQ.none_str b t
  |_=>exact bq (show false=true from h) bv
 |bl a=>
  cases g;cases x with
  |non=>cases c;exact FQ.bool_none a
  |bl b=>cases c;exact FQ.bool_bool a b
  |int b=>obtain⟨t,rfl⟩:=c;exact FQ.bool_int a b t
  |str b=>obtain⟨t,rfl⟩:=c;exact FQ.bool_str a b t
  |_=>exact bq (show false=true from h) bv
 |int a=>
  obtain⟨t',rfl⟩:=g;cases x with
  |non=>cases c;exact FQ.int_none a t'
  |bl b=>cases c;exact FQ.int_bool a t' b
  |int b=>obtain⟨t,rfl⟩:=c;exact FQ.int_int a t' b t
  |str b=>obtain⟨t,rfl⟩:=c;exact tz a t' b t
  |_=>exact bq (show false=true from h) bv
 |str a=>
  obtain⟨t',rfl⟩:=g;cases x with
  |non=>cases c;exact FQ.str_none a t'
  |bl b=>cases c;exact FQ.str_bool a t' b
  |int b=>obtain⟨t,rfl⟩:=c;exact tB a t' b t
  |str b=>obtain⟨t,rfl⟩:=c;exact FQ.str_str a t' b t
  |_=>exact bq (show false=true from h) bv
 |_=>exact bq (show false=true from l) bv
def uH(x:V)(u:af):Bool:=match u with
 | .none=>yF .non x
 | .bool b=>yF (.bl b) x
 | .int i _=>yF (.int i) x
 | .str z _=>yF (.str z) x
 |_=>false
theorem Lc{x y:V}{u:af}(r:RelV y u)(f:n9 y=true):uH x u=yF y x:=by
 cases y with
 |non=>cases r;rfl
 |bl b=>cases r;rfl
 |int i=>obtain⟨t,rfl⟩:=r;rfl
 |str z=>obtain⟨t,rfl⟩:=r;rfl
 |_=>exact bq (show false=true from f) bv
theorem FD{x:V}:∀{xs:List V}{c:List af},bU xs c->xs.all n9=true->c.any (uH x)=xs.any λy=>yF y x
 |_,_,.nil,_=>rfl
 |y::xs,u::c,.cons r t,f=>by rw[cj,bh]at f;rw[d9,d9,Lc r f.1,FD t f.2]
theorem Ey{A:bH}{s:ao}{x:V}{v:af}(g:RelV x v)(h:n9 x=true):∀{xs:List V}{c:List af},bU xs c->xs.all n9=true->∀u∈c,FQ A s u v (uH x u)
 |_,_,.nil,_=>λu hu=>by cases hu
 |y::xs,u::c,.cons r t,f=>λu' hu=>by
  rw[cj,bh]at f;rcases bn.mp hu with rfl|hu
  ·rw[Lc r f.1];exact Pl r g f.1 h
  ·exact Ey g h t f.2 u' hu
def Gv(x:V)(xs:List V):Bool:=xs.any λy=>yF y x
def Ib(K:ah)(c:Bool):R2:=λx y H Q=>∃p xs,y=.ref p/\(ii K H p xs\/iZ K H p xs)/\n9 x=true/\xs.all n9=true/\Q (.bl (if c then !Gv x xs else Gv x xs)) H
theorem Ma:OpR X (dB .In) (Ib X.K false):=by
 intro B s σ H x y v u Q I o E h;obtain⟨p,xs,rfl,c,C,fs,q⟩:=h;cases E;rcases c with c|c
 ·obtain⟨its,r,g,hz⟩:=I.list c;refine SeqAt.in_listAt (uH x) g.isList (λw l=>Ey o C r fs w (by simpa using l)) ⟨.bl _,H,I,rfl,?_⟩;rw[show its.toArray.any (uH x)=its.any (uH x) by simp,FD r fs];exact q
 ·obtain⟨its,r,g,hz⟩:=I.tuple c;refine SeqAt.in_tupleAt (uH x) g (λw l=>Ey o C r fs w (by simpa using l)) ⟨.bl _,H,I,rfl,?_⟩;rw[show its.toArray.any (uH x)=its.any (uH x) by simp,FD r fs];exact q
theorem XV:OpR X (dB .NotIn) (Ib X.K true):=by
 intro B s σ H x y v u Q I o E h;obtain⟨p,xs,rfl,c,C,fs,q⟩:=h;cases E;rcases c with c|c
 ·obtain⟨its,r,g,hz⟩:=I.list c;refine SeqAt.notIn_listAt (uH x) g.isList (λw l=>Ey o C r fs w (by simpa using l)) ⟨.bl _,H,I,rfl,?_⟩;rw[show its.toArray.any (uH x)=its.any (uH x) by simp,FD r fs];exact q
 ·obtain⟨its,r,g,hz⟩:=I.tuple c;refine SeqAt.notIn_tupleAt (uH x) g (λw l=>Ey o C r fs w (by simpa using l)) ⟨.bl _,H,I,rfl,?_⟩;rw[show its.toArray.any (uH x)=its.any (uH x) by simp,FD r fs];exact q
theorem Ve:CallR X (.builtin "len") (λxs H Q=>∃p ys,xs=[.ref p]/\(ii X.K H p ys\/iZ X.K H p ys)/\Q (.int ys.length) H):=by
 intro v s σ H xs C Q I r h;obtain⟨p,ys,rfl,g,q⟩:=h;obtain⟨u,rfl,B⟩:=ut r;cases B;have E:=Ag;rcases g with g|g
 ·obtain⟨its,l,o,hz⟩:=I.list g;have c:=l.length;exact Calls.call_len_list o.isList (by simp only[aH]<;>ext) ⟨.int ys.length,H,I.tok _,⟨s.toks+1,by rw[aH,c]⟩,q⟩
 ·obtain⟨its,l,o,hz⟩:=I.tuple g;have c:=l.length;exact len_tuple o (by simp only[aH]<;>ext) ⟨.int ys.length,H,I.tok _,⟨s.toks+1,by rw[aH,c]⟩,q⟩
theorem Sh:CallR X (.builtin "len") (λxs H Q=>∃z,xs=[.str z]/\z.length<=sizeLine/\Q (.int z.length) H):=by intro c s σ H xs g Q I r h;obtain⟨z,rfl,hz,q⟩:=h;obtain⟨u,rfl,t,rfl⟩:=ut r;have l:=Ag;exact len_str (by ext) ⟨.int z.length,H,I.tok _,⟨_,rfl⟩,q⟩
theorem CallR.or{f:af}{r l:List V->Hp->VK->Prop}(h:CallR X f r)(h':CallR X f l):CallR X f (λxs H Q=>r xs H Q\/l xs H Q):=by
 intro c s σ H xs g Q I rs q;rcases q with q|q
 ·exact h c s σ H xs g Q I rs q
 ·exact h' c s σ H xs g Q I rs q
theorem VU:CallR X (.type "list") (λxs H Q=>∃p ys,xs=[.ref p]/\(ii X.K H p ys\/iZ X.K H p ys)/\∀l,H l=none->Q (.ref l) (fJ H l (.lst ys))):=by
 intro v s σ H xs U Q I r h;obtain⟨p,ys,rfl,C,q⟩:=h;obtain⟨u,rfl,O⟩:=ut r;cases O;have fin : ∀(its : List af), bU ys its -> ys.length <= sizeLine -> ∀(h' : bK)(g : Nat), (∀b o', s.heap.get? b = some o' -> h'.get? b = some o') ->
   h'.get? s.heap.objs.size=some { cls:=.type "list",dict:=none,data:=.seq its.toArray g,slots:=#[] }->EP X v σ Q (.ref s.heap.objs.size) { s with heap:=h' }:=λits c hz h' g B e=>
  ⟨.ref s.heap.objs.size,_,I.laid (t':=s.toks) B (ay _) (show eS X.prog X.w _ h' _ (.lst ys) from ⟨hz,its,g,c,e⟩),rfl,q _ (I.hok.fresh (ay _))⟩
 rcases C with C|C
 ·obtain⟨its,c,G,hz⟩:=I.list C;have E:=c.length;obtain⟨o,J,L,n,hd⟩:=G.isList;exact call_list_seq p (.inl rfl) J L hd (λh' g B e=>fin its c hz h' g B e) (by simp only[aH]<;>ext)
 ·obtain⟨its,c,G,hz⟩:=I.tuple C;have E:=c.length;obtain⟨o,J,L,n,hd⟩:=G;exact call_list_seq p (.inr rfl) J L hd (λh' g B e=>fin its c hz h' g B e) (by simp only[aH]<;>ext)
theorem Ll:CallR X (.type "tuple") (λxs H Q=>∃p ys,xs=[.ref p]/\((ii X.K H p ys/\∀l,H l=none->Q (.ref l) (fJ H l (.tup ys)))\/(iZ X.K H p ys/\Q (.ref p) H))):=by
 intro c s σ H xs O Q I r h;obtain⟨p,ys,rfl,h⟩:=h;obtain⟨u,rfl,G⟩:=ut r;cases G;rcases h with ⟨B,q⟩|⟨B,q⟩
 ·obtain⟨its,g,v,hz⟩:=I.list B;have C:=g.length;refine call_tuple_list v.isList (λh' J=>?_) (by simp only[aH]<;>ext);have E:Inv X c σ H { s with heap:=h' }:=I.kept (t':=s.toks) J;have L:Inv X c σ (fJ H h'.objs.size (.tup ys)) { s with heap:=h'.push { cls:=.type "tuple",data:=.seq its.toArray } }:=
   E.laid (t':=s.toks) (λb o e=>aq _ e) (ay _) (show eS X.prog X.w _ _ _ (.tup ys) from ⟨hz,its,g,kH.new _ _⟩)
  exact⟨.ref h'.objs.size,_,L,rfl,q _ (E.hok.fresh (ay _))⟩
 ·obtain⟨its,g,v,hz⟩:=I.tuple B;exact call_tuple_same v ⟨.ref p,H,I,rfl,q⟩
def Km(K:ah)(T:String)(x:V)(H:Hp):Prop:=match x with
 | .str _=>T="str"
 | .int _=>T="int"
 | .ref p => (T = "list" /\ ∃xs, ii K H p xs) \/ (T = "tuple" /\ ∃o, K.lookup p = some o /\ o.cls = .type "tuple" /\ o.dict = none) \/
   (T="dict"/\((∃c,H p=some (.dK c))\/∃c,H p=some (.dT c)))\/(T="set"/\∃S n,H p=some (.set S n))
 |_=>False
theorem Of{h:List (aj×Obj)}{σ:St}{H:Hp}{s:ao}{T:String}{x:V}{v:af}(I:Inv X h σ H s)(r:RelV x v)(ty:Km X.K T x H):
  s.TypeIs v T/\∀a,v=.ref a->∃B,s.heap.get? a=some B/\B.dict=none:=by
 cases x with
 |str z=>
  obtain⟨t,rfl⟩:=r;cases (show T="str" from ty);exact⟨typeIs_str s z t,λ_ e=>nomatch e⟩
 |int i=>
  obtain⟨t,rfl⟩:=r;cases (show T="int" from ty);exact⟨Cj s i t,λ_ e=>nomatch e⟩
 |ref p=>
  cases r;rcases ty with ⟨rfl,xs,C⟩|⟨rfl,o,g,E,hd⟩|⟨rfl,g⟩|⟨rfl,S,n,g⟩
  ·obtain⟨its,_,u,_⟩:=I.list C;refine⟨u.isList.typeIs,λa e=>?_⟩;cases e;obtain⟨o,n,e,c,hd,_⟩:=u;exact⟨o,e,hd⟩
  ·refine⟨⟨o,I.kIn p o g,E⟩,λa e=>?_⟩;cases e;exact⟨o,I.kIn _ o g,hd⟩
  ·have z : ∃o, s.heap.get? p = some o /\ o.ExactDict := by
     rcases g with ⟨l,g⟩|⟨l,g⟩
     ·obtain⟨_,_,_,_,o,_,_,e,ex,_⟩:=I.hok p _ g;exact⟨o,e,ex⟩
     ·obtain⟨_,_,_,_,o,_,_,e,ex,_⟩:=I.hok p _ g;exact⟨o,e,ex⟩
   obtain⟨o,e,ex⟩:=z;refine⟨⟨o,e,ex.1⟩,λa q=>?_⟩;cases q;exact⟨o,e,ex.2.1⟩
  ·obtain⟨o,_,_,_,e,ex,_⟩:=I.hok p _ g;refine⟨⟨o,e,ex.1⟩,λa q=>?_⟩;cases q;exact⟨o,e,ex.2.1⟩
 |_=>exact cT ty
def IF(K:ah)(T:String)(r:V->List V->Hp->VK->Prop)(to:TE):TE:=λσ H Q=>to σ H λx c=>Km K T x c/\r x [] c Q
def Qw(K:ah)(T:String)(r:V->List V->Hp->VK->Prop)(to:TE)(t:TA):TE:=λσ H Q=>to σ H λx c=>Km K T x c/\t σ c λxs g=>r x xs g Q
variable{o e:Expr}{es:List Expr}{to:TE}{t:TA}{name:Str}{ec cx:Pos}{T id:String}{r:V->List V->Hp->VK->Prop}
theorem RU(J:PlainAttrs T)(slot:Slot T name id)(u:typeOf (.builtin id)=pure (.type "method_descriptor"))(O:Gx X id r)(L:PE X o to)
  (l:eL o name X.env (eval o X.env)=eval o X.env:=by rfl) (g:(ec.endLine == cx.line)=true:=by rfl):PE X (.Call (.Attribute o name ec) [] [] cx) (IF X.K T r to):=by
 intro c s σ H Q I h;refine wy l g (gg (L c s σ H _ I h) λv E q=>?_);obtain⟨x,H1,C,B,ty,G⟩:=q;obtain⟨Y,U⟩:=Of C B ty;exact⟨T,id,J,slot,u,Y,U,i5 rfl (vn (O c E σ H1 x [] v [] Q C B .nil G))⟩
theorem X3(pa:PlainAttrs T)(slot:Slot T name id)(E:typeOf (.builtin id)=pure (.type "method_descriptor"))(hm:Gx X id r)(ho:PE X o to)(ha:PA X (e::es) t)
  (q:eL o name X.env (eval o X.env)=eval o X.env:=by rfl)
  (C:((backTo cx (starEach (e::es) X.env)).all (λx => !x.1)&&(uQ cx (pG [] X.env)).all (λx=>x.1.isSome)
   && decide ((e::es).length+([]:List lY).length+(if ([]:List lY).isEmpty then 0 else 1) < 30))=true:=by rfl)
  (l:(ec.endLine == cx.line)=true:=by rfl) (hs:starEach (e::es) X.env=(false,eval e X.env)::starEach es X.env:=by rfl) (g:(backTo cx (starEach es X.env)).any (·.1)=false:=by rfl):
  PE X (.Call (.Attribute o name ec) (e::es) [] cx) (Qw X.K T r to t):=by
 intro c s σ H Q I h;refine xC q C l rfl (gg (ho c s σ H _ I h) λv s1 B=>?_);obtain⟨x,H1,L,G,ty,q1⟩:=B;obtain⟨h1,h2⟩:=Of L G ty;refine⟨T,id,pa,slot,E,h1,h2,?_⟩;have J:=ha cx c s1 σ H1 _ L q1;rw[hs]at J ⊢;refine i5 (by show (false||(backTo cx (starEach es X.env)).any (·.1))=false;rw[g]<;>rfl) (nU ?_);exact gg J λU Y u=>by obtain⟨O,H2,I2,r2,q2⟩:=u;exact hm c Y σ H2 x O v U Q I2 G r2 q2
end
def MH(X:Cx)(id:String)(r:V->List V->Hp->VK->Prop):Prop:=
 ∀(ar:List (aj×Obj))(s:ao)(σ:St)(H:Hp)(x:V)(xs:List V)(v:af)(us:List af)(Q:VK),Inv X ar σ H s->RelV x v->bU xs us->r x xs H Q ->
  aJ (bb X.prog X.w) X.A (call (.builtin id) (v::us)) (EP X ar σ Q) X.xe s
theorem bU.one{x:V}{c:List af}(h:bU [x] c):∃u,c=[u]/\RelV x u:=by
 cases h with
 |cons r h=>cases h;exact⟨_,rfl,r⟩
theorem bU.two{x y:V}{c:List af}(h:bU [x,y] c):∃u v,c=[u,v]/\RelV x u/\RelV y v:=by
 cases h with
 |cons r h=>cases h with
  |cons q h=>cases h;exact⟨_,_,rfl,r,q⟩
theorem bU.zero:∀{c:List af},bU [] c->c=[]
 |_,.nil=>rfl
theorem bU.dropLast{xs:List V}{c:List af}(h:bU xs c):bU xs.dropLast c.dropLast:=by
 induction h with
 |nil=>exact .nil
 |cons r t ih=>
  cases t with
  |nil=>exact .nil
  |cons q t'=>exact .cons r ih
theorem bU.reverse{xs:List V}{c:List af}(h:bU xs c):bU xs.reverse c.reverse:=by
 induction h with
 |nil=>exact .nil
 |cons r t ih=>rw[fV,fV];exact bU.append ih (.cons r .nil)
theorem bU.rep{xs:List V}{c:List af}(h:bU xs c):∀k:Nat,bU (aP k xs).flatten (aP k c).flatten
 |0=>.nil
 |k+1=>by rw[dN,dN,gT,gT];exact bU.append h (bU.rep h k)
theorem O0{α:Type}(l:List α):l.eraseIdx (l.length-1)=l.dropLast:=by
 induction l with
 |nil=>rfl
 |cons a r ih=>
  cases r with
  |nil=>rfl
  |cons b r=>
   have e:(a::b::r).length-1=((b::r).length-1)+1:=by have g:(a::b::r).length=r.length+2:=rfl;have c:(b::r).length=r.length+1:=rfl;ext
   rw[e,List.eraseIdx_cons_succ,ih]
   all_goals rfl
theorem LP(its:List af): ∀(k:Nat)(c:List af),
  wz (λh g=>h++g) c.toArray (aP k its.toArray)=(c++(aP k its).flatten).toArray
 |0,c=>by simp
 |k+1,c=>by
  have e:c.toArray++its.toArray=(c++its).toArray:=by simp
  have l:(c++its)++(aP k its).flatten=c++(aP (k+1) its).flatten:=by rw[dN,gT,bF]
  rw[<- l,<- LP its k (c++its),<- e,dN,rC]
section
variable{X:Cx}{ar:List (aj×Obj)}{σ:St}{H:Hp}{s:ao}{l b:aj}{xs ys zs:List V}
theorem Inv.lset{its its':List af}{n:Nat}{f:Array af->Array af}{t':Nat}(I:Inv X ar σ H s)(o:H l=some (.lst xs))
  (e:s.heap.get? l=some { cls:=.type "list",data:=.seq its.toArray n }) (g:f its.toArray=its'.toArray) (c:bU ys its') (hz:ys.length<=sizeLine):
  Inv X ar σ (fJ H l (.lst ys)) { s with heap:=s.heap.update l (pF f),toks:=t' }:=by
 have q:=PySem.IsL.update e f;rw[g]at q;refine I.write (x:=l) (e:=l) (by rw[o];exact trivial) (.inl rfl) (λv u h hu=>(da s.heap (pF f) (bX h)).trans hu) ⟨_,q⟩ ?_;exact⟨hz,its',_,c,q⟩
theorem Inv.lnew{its:List af}{t':Nat}(I:Inv X ar σ H s)(c:bU ys its)(hz:ys.length<=sizeLine):
  Inv X ar σ (fJ H s.heap.objs.size (.lst ys)) { s with heap:=s.heap.push { cls:=.type "list",data:=.seq its.toArray },toks:=t' }:=
 I.laid (λ_ _ q=>aq _ q) (ay _) ⟨hz,its,0,c,aF _ rfl⟩
theorem Inv.fresh(I:Inv X ar σ H s):H s.heap.objs.size=none:=I.hok.fresh (ay _)
theorem Inv.lstM(I:Inv X ar σ H s)(c:H l=some (.lst xs)):xs.length<=sizeLine/\∃(its:List af)(n:Nat),bU xs its/\xs.length=its.length/\s.heap.get? l=some { cls:=.type "list",data:=.seq its.toArray n }:=by obtain⟨z,its,n,r,e⟩:=I.hok l _ c;exact⟨z,its,n,r,r.length,e⟩
theorem X9{n:Nat}(h:n<=sizeLine):kR n=false:=by unfold kR;exact aT (by ext)
end
section
variable{X:Cx}
def yG:V->List V->Hp->VK->Prop:=λx c H Q=>∃l xs y,x=.ref l/\c=[y]/\H l=some (.lst xs)/\xs.length < sizeLine/\Q .non (fJ H l (.lst (xs++[y])))
theorem Mh:MH X "list.append" yG:=by intro c s σ H x E v G Q I o B h;obtain⟨l,xs,y,rfl,rfl,g,hz,q⟩:=h;cases o;obtain⟨u,rfl,C⟩:=B.one;obtain⟨z,its,n,r,J,e⟩:=I.lstM g;refine q_ F.slot_list_append ⟨_,e,rfl⟩ F.entry_list_append (F.args_list_append_2 _ _) (PySem.list_append l its.toArray n u (by rw[aH];ext)) ⟨e,?_⟩;refine⟨.non,_,I.lset (its':=its++[u]) g e (by simp) (r.append (.cons C .nil)) ?_,rfl,q⟩;rw[aE,uR];ext
def KW:V->List V->Hp->VK->Prop:=λx c H Q=>∃l xs y,x=.ref l/\c=[]/\H l=some (.lst xs)/\xs[xs.length-1]?=some y/\Q y (fJ H l (.lst xs.dropLast))
theorem Ul:MH X "list.pop" KW:=by
 intro o s σ H x O v U Q I C E h;obtain⟨l,xs,y,rfl,rfl,B,J,q⟩:=h;cases C;have g:=E.zero;subst g;obtain⟨z,its,n,r,L,e⟩:=I.lstM B;obtain⟨u,hu,G⟩:=r.get J;have c:its.toArray[its.toArray.size-1]?=some u:=by show its.toArray[its.length-1]?=some u;rw[<- dQ,<- L];exact hu
 refine q_ F.slot_list_pop ⟨_,e,rfl⟩ F.entry_list_pop (F.args_list_pop_1 _) (MeetsSeq.list_pop_last l its.toArray n u c (by rw[aH];ext)) ⟨e,?_⟩;refine⟨y,_,I.lset (its':=its.dropLast) B e ?_ r.dropLast ?_,G,q⟩
 ·show its.toArray.eraseIdxIfInBounds (its.toArray.size-1)=its.dropLast.toArray;rw[aH,List.eraseIdxIfInBounds_toArray,O0]
 ·rw[vo];ext
def Kl:R2:=λx y H Q=>∃l b xs zs,x=.ref l/\y=.ref b/\H l=some (.lst xs)/\H b=some (.lst zs)/\xs.length+zs.length<=sizeLine/\∀p,H p=none->Q (.ref p) (fJ H p (.lst (xs++zs)))
theorem Xv:OpR X (e_ .Add) Kl:=by
 intro g s σ H x y v u Q I B o h;obtain⟨l,b,xs,zs,rfl,rfl,G,J,hz,q⟩:=h;cases B;cases o;obtain⟨z,its,n,r,hl,e⟩:=I.lstM G;obtain⟨U,c,Y,C,E,O⟩:=I.lstM J;refine PySem.P.add_list e O ?_ (by rw[aH,aH];ext);have L:its.toArray++c.toArray=(its++c).toArray:=by simp
 rw[L];exact⟨.ref _,_,I.lnew (t':=s.toks) (r.append C) (by rw[aE];ext),rfl,q _ I.fresh⟩
def Jb:R2:=λx y H Q=>∃l k xs,x=.ref l/\y=.int k/\H l=some (.lst xs) /\ -(2^63)<=k/\k < 2^63/\xs.length*k.toNat<=sizeLine /\
 ∀p,H p=none->Q (.ref p) (fJ H p (.lst (aP k.toNat xs).flatten))
theorem R4{α:Type}(xs:List α)(k:Nat):(aP k xs).flatten.length=k*xs.length:=by
 induction k with
 |zero=>simp
 |succ k ih=>rw[dN,gT,aE,ih,qt,Nat.add_comm]
theorem XH:OpR X (e_ .Mult) Jb:=by
 intro J s σ H x y v u Q I Y O h;obtain⟨l,k,xs,rfl,rfl,hH,h1,h2,hz,q⟩:=h;cases Y;obtain⟨t,rfl⟩:=O;obtain⟨z,its,n,r,hl,e⟩:=I.lstM hH;have o:its.toArray.size*k.toNat<=sizeLine:=by rw[aH,<- hl];exact hz
 have C:¬ its.toArray.size*k.toNat > (2^63-1) / 8:=by
  have:(sizeLine:Nat)<=(2^63-1) / 8:=by decide
  ext
 have B:¬ (!Builtin.List.listFitsIndex k)=true:=by rw[fitsIndex_both h1 h2];exact bv
 have c:¬ kR (its.toArray.size*k.toNat)=true:=by rw[X9 o];exact bv
 have g:wz (λG E=>G++E) #[] (aP (if its.toArray.isEmpty=true then 0 else k.toNat) its.toArray)=(aP k.toNat its).flatten.toArray:=by
  have f0:∀m:Nat,wz (λG E=>G++E) #[] (aP m its.toArray)=(aP m its).flatten.toArray:=λm=>by have:=LP its m [];rw[nt]at this;exact this
  rw[f0];cases its with
  |nil=>simp
  |cons a r'=>rw[aB (by simp)]
 refine wpAny_binaryOp_repeat_ref (T:="list") (U:="int") (by decide) ⟨_,e,rfl⟩ (λL=>Cj L k t) noFill_list_mul F.fills_int_mul C9 repeat_list F.slot_int_index.lookup
  (q_ C9 (Cj s k t) F.entry_int_rmul (F.args_int_rmul_2 _ _) (int___rmul___int_list k t l its.toArray n)
   ⟨e,rfl,⟨_,e,rfl⟩,q_ F.slot_list_mul ⟨_,e,rfl⟩ F.entry_list_mul (F.args_list_mul_2 _ _) (AutoListH.list___mul___list_int_3 l its.toArray n k t B C c) ⟨e,?_⟩⟩)
 rw[g];exact⟨.ref _,_,I.lnew (t':=s.toks) (r.rep k.toNat) (by rw[R4,gF];exact hz),rfl,q _ I.fresh⟩
end
section
variable{prog:Program}{w:bN}{A:bH}{E:af->ao->Prop}{s:ao}
theorem Ye{a c n:Nat}(g:a<=c)(o:c<=n):fL (some (a:Int)) (some (c:Int)) none n=((a:Int),(c:Int),1):=by
 simp only[fL,pW];have l:¬ ((a:Int) < 0):=by ext
 have h:¬ ((c:Int) < 0):=by ext
 simp only[l,h,if_false,show (1:Int) > 0 by decide,if_true];congr 1
 ·ext
 ·congr 1;ext
end
end L2
namespace Att
open PySem PySem.W PySem.Calls PyProof.Rows
theorem UG{P:Params}{h:bK}:∀(c:List Int)(g:List af),WellAll P h g (c.map G6)->lx g c:=by
 intro c
 induction c with
 |nil=>
  intro g w;rw[mY]at w;cases w;exact .nil
 |cons n c ih=>
  intro g w;rw[aO]at w;cases w with
  |cons a b=>
   cases a;exact .cons _ _ (ih _ b)
theorem UN{l:OpenLaw}{n:Nat}(J:l.most=some n){P:Params}{h:bK}{args:List WData}{g:List af}
  (o:l.row.toRowW.claim.pre args=true) (C:WellAll P h g args):
  ∃a G c,g=[bc a]/\args=[WData.list (c.map G6)]/\h.get? a=some { cls:=.type "list",data:=.seq G.toArray }/\lx G c/\c.length<=n:=by
 have E:WShape.hasAll [] args [.list .int]=true:=(pre_splitW o).1;have H:l.pre.holds [] { args:=args }=true:=(pre_splitW o).2;obtain⟨d,r,rfl,Q,O⟩:=hasAllW_cons E;obtain rfl:=hasAllW_nil O;obtain⟨xs,rfl,L⟩:=hasW_list Q;obtain⟨c,rfl⟩:=items_int L;have u:c.length<=n:=by
  unfold OpenLaw.pre at H;have B:(WTm.not (.lt (.lit (.int (n:Int))) (.len (.arg 0)))).holds [] { args:=[.list (c.map .int)] }=true:=by have B:=(holds_andW H).1;rw[J]at B;exact B
  have v:=condW_of B (w_not (w_lt w_lit (w_len_list (w_arg rfl))));rw[ae]at v;refine ra λq=>?_;have I:(n:Int) < ((c.length:Nat):Int):=by ext
  first
   | (rw[bV I]at v;exact bq v (by decide))
   | (simp at v;ext)
 cases C with
 |cons w1 w2=>
  cases w2;cases w1 with
  |list ho hall=>exact⟨_,_,c,rfl,rfl,ho,UG c _ hall,u⟩
theorem Um(l:OpenLaw)(args:List WData):l.row.toRowW.claim.post args (.bool true) args=true:=
 postW_of (r:=l.row.toRowW) (X:=(true == true))
  (show C_ [] (.bool true) .bool=true by first|rfl|decide|simp[C_,WShape.arms,WShape.armsAll])
  (show (WTm.eq .res (.lit (.bool true))).value [] { args:=args,res:=some (.bool true),after:=args }=some (.bool (true == true)) from w_eq_bool (w_res rfl) w_lit) rfl
theorem tJ{l:OpenLaw}{n:Nat}{q:Program}{c:List Str}{XP:(Str->Option af)->bK->Prop}{YP:bN->bK->Prop}{d:DefRec}
  (hn:l.most=some n) (hdf:d.params.defaults=[])
  (call:∀(w:bN)(s₀ s₁:ao)(mg O:Str->Option af)(E:aj)(o:Obj)(L J h:af)(a:aj)(u:List af)(I:List Int),
   Ground q c [] XP w s₀ mg O s₁.heap->YP w s₁.heap ->
   s₁.heap.get? E=some o->o.data=.func (docDef d.name d.params d.body d.scope L J h)->s₁.heap.CodeRec J d.name->mg d.name=some (.ref E) ->
   s₁.heap.get? a=some { cls:=.type "list",data:=.seq u.toArray }->lx u I->I.length<=n->s₁.gens=#[] ->
   ke (bb l.prog w) lA (.call (.ref E) ⟨[.ref a],[]⟩) (λr H=>r=.ok (.ret (.bool true))/\OldK s₁.heap H.heap/\H.os=s₁.os/\lm H.gens) s₁):
  WalkO q c XP YP l.row.toRowW d [] (λf u=>v9 f u):=by
 intro w s₀ s₁ mg O G Y E o L J h dV kV ho hd hcd hD U hg args vals as v hlay hrd Q hlo;obtain rfl:dV=.none:=Dflts.none hD hdf;obtain rfl:kV=.none:=Dflts.noKw hD;obtain⟨a,u,I,rfl,rfl,B,g,C⟩:=UN hn v Q;refine enter_call (kI (call w s₀ s₁ mg O E o L J h a u I G Y ho (fd_plain hd) hcd U B g C hg) λr H hq=>?_);obtain⟨rfl,h2,h3,h4⟩:=hq;exact⟨.inl ⟨.bool true,.bool true,[],rfl,λ_=>rfl,.bool true,Um l _,λ_=>⟨sE,λ_ hm=>(nomatch hm)⟩⟩,h2,h3,h4⟩
end Att
namespace L2
open PySem PySem.Spec PyProof.Rows
theorem Hv:∀{c:List af}{g:List Int},lx c g->bU (g.map V.int) c
 |_,_,.nil=>.nil
 |_,_,.cons n t h=>.cons ⟨t,rfl⟩ (Hv h)
noncomputable def Dr(H:Hp):Prop:=∀b,H b=none\/∃o xs,H b=some (.frz o (.lst xs))
theorem Yd{P:Program}{w:bN}{K:ah}{mg mb:Str->Option af}{CX:xf}{k:Nat}{fa a:aj}{fd:cY}{x:Str}{sp:Sp}{s₁:ao}{E:List af}{L:List Int}
  (KX:K.In s₁.heap) (Q:s₁.heap.Ns cD mg) (g:s₁.heap.Ns mG mb) (hbb:∀x:Str,x≠"__name__"->mb x=cV x) (U:s₁.heap.NoLimit) (hg:s₁.gens=#[])
  (ha:s₁.heap.get? a=some { cls:=.type "list",data:=.seq E.toArray }) (hi:lx E L) (hl:L.length<=sizeLine) (hr:ig k lA)
  (F:∀base:bK,K.In base->base.Ns cD mg->lW P w K mg base CX k fa fd [x] sp) (G:∀(s:ao)(u:af),rR s fd ⟨[u],[]⟩ [(x,u)])
  (hsp:∀H:Hp,Dr H->ii K H a (L.map V.int)->sp [.ref a] H (λv _=>v=.bl true) λ_ _ _=>False)
  (hCX:∀H e l,CX [] H s₁ (λ_ _ _=>False) e l->False):
  ke (bb P w) lA (.call (.ref fa) ⟨[.ref a],[]⟩) (λr l=>r=.ok (.ret (.bool true))/\OldK s₁.heap l.heap/\l.os=s₁.os/\lm l.gens) s₁:=by
 have rv:=Hv hi;have O:=hi.length;have C : ∀H : Hp, Dr H -> ii K H a (L.map V.int) -> mJ P w H s₁.heap -> (∀b, H b ≠ none -> b = a) -> (H a ≠ none -> K.lookup a = none) ->
   ke (bb P w) lA (.call (.ref fa) ⟨[.ref a],[]⟩) (λr l=>r=.ok (.ret (.bool true))/\OldK s₁.heap l.heap/\l.os=s₁.os/\lm l.gens) s₁:=by
  intro H hO hS hok hA hK;have c:∀{b:aj}{o:Obj},s₁.heap.get? b=some o->H b=none->(om s₁.heap H).get? b=some o:=λe n=>Ow e n;have noA:∀{b:aj}{o:Obj}{es:Array iJ}{ep:Nat},s₁.heap.get? b=some o->o.data=.dict es ep->H b=none:=λ{b o es ep}e d=>by
   cases q:H b with
   |none=>rfl
   |some u=>
    have e':b=a:=hA b (by rw[q];simp);subst e';rw[ha]at e;cases e;have d':Data.seq E.toArray _=Data.dict es ep:=d;cases d'
  have B:∀{b:aj}{m:Str->Option af},s₁.heap.Ns b m->(om s₁.heap H).Ns b m:=λ{b m}J=>by obtain⟨o,es,ep,e,d,r⟩:=J;exact⟨o,es,ep,c e (noA e d),d,r⟩
  have Y:K.In (om s₁.heap H):=λb o e=>c (KX b o e) (by
   cases q:H b with
   |none=>rfl
   |some u=>
    have e':b=a:=hA b (by rw[q];simp);subst e';rw[hK (by rw[q];simp)]at e;cases e)
  have hM:Mod K mg (om s₁.heap H):=⟨Y,B Q,⟨mb,B g,hbb⟩,let ⟨mc,h1,h2⟩:=U;⟨mc,B h1,h2⟩⟩
  have e0:qF P w K mg (om s₁.heap H) lA [] s₁ H:=⟨rfl,hM,λb o e=>Na e,FR (Lj _ _),trivial,λb g=>bq (show b∈([]:List aj) from g) (by simp),hok,.of_eq hg⟩
  refine kI ((F _ Y (B Q)).run lA [] s₁ H ⟨[.ref a],[]⟩ [.ref a] [.ref a] _ _ hr e0 (G s₁ (.ref a)) (.cons rfl .nil) (hsp H hO hS)) λr l h=>?_;cases r with
  |error e=>exact (hCX H e l h).elim
  |ok fl=>
   cases fl with
   |next=>exact cT h
   |brk=>exact cT h
   |cont=>exact cT h
   |ret u=>
    obtain⟨v,H',os,bare,un,hok',r',q⟩:=h;have q':v=.bl true:=q;subst q';obtain rfl:u=dq true:=r';refine⟨rfl,OldK.of_keep λb o e=>?_,os,bare⟩;cases q:H b with
    |none=>exact un.keep b o e q (by intro z;exact bq (show b∈([]:List aj) from z) (by simp)) (by simp)
    |some u=>
     rcases hO b with z|⟨ob,xs,z⟩
     ·rw[q]at z;cases z
     ·have g:=un.frzs b ob _ z;obtain⟨c,_⟩:=hok b _ z;obtain⟨h,_⟩:=hok' b _ g;rw[e]at c;cases c;exact h
 cases hk:K.lookup a with
 |some o=>
  have e:=KX a o hk;rw[ha]at e;cases e;refine C (λ_=>none) (λ_=>.inl rfl) (.inr ⟨_,E.toArray,_,hk,rfl,rfl,rfl,by rw[aH,O];exact hl,by simpa using rv⟩) (λb u z=>by have I:(none:Option HO)=some u:=z;cases I) (λb z=>bq rfl z) λz=>bq rfl z
 |none=>
  refine C (λb=>if b=a then some (.frz { cls:=.type "list",data:=.seq E.toArray } (.lst (L.map V.int))) else none) (λb=>?_) (.inl (.inr ⟨{ cls:=.type "list",data:=.seq E.toArray },aD rfl⟩)) (λb u z=>?_) (λb z=>?_) λ_=>hk
  ·by_cases g:b=a
   ·exact .inr ⟨_,_,aD g⟩
   ·exact .inl (aB g)
  ·by_cases g:b=a
   ·have I:=(aD g).symm.trans z;cases I;subst g;exact⟨ha,by rw[ae];exact hl,E,_,rv,ha⟩
   ·have I:=(aB g).symm.trans z;cases I
  ·by_cases g:b=a
   ·exact g
   ·exact bq (aB g) z
noncomputable def fI(s:Stmt):nR:=match s with
 | .FunctionDef _ a _ _ _ _ _ _ _ _=>a
 |_=>{ posonlyargs:=[],args:=[],vararg:=none,kwonlyargs:=[],kw_defaults:=[],kwarg:=none,defaults:=[] }
noncomputable def dm(s:Stmt):List Stmt:=match s with
 | .FunctionDef _ _ b _ _ _ _ _ _ _=>b
 |_=>[]
noncomputable def bB(s:Stmt):dD:=match s with
 | .FunctionDef _ _ _ _ _ _ sc _ _ _=>sc
 |_=>{ kind:=.function,names:=[],isGenerator:=false,isCoroutine:=false }
noncomputable abbrev rm:xf:=λ_ _ _ _ _ _=>False
noncomputable abbrev E0:XK:=λ_ _ _=>False
theorem L8{X:Cx}:sY rm X E0:=λ_ _ _ _ _ _ _ h=>h.elim
structure xN(K:ah)(x qual:Str)(st:Stmt)(f:aj)(fd:cY):Prop where
 ex:∃(oc:af)(od:Option aj)(kV doc pm:af)(an:Option aj)(cdv ct:af)(osl:Array (Option af)),
  fd=cK x qual (fI st) (dm st) (bB st) .none kV doc pm an cdv ct/\K.lookup f=some ⟨oc,od,.func fd,osl⟩/\fX K cdv qual=true
 kp:cS K (.ref f)=true
section
variable{P:Program}{w:bN}{K:ah}{mg:Str->Option af}{base:bK}
theorem xN.binds{x qual:Str}{st:Stmt}{f:aj}{v:cY}{o:List Str}(F:xN K x qual st f v)
  (h:∀(kV c q:af)(u:Option aj)(g ct:af)(l:List af),l.length=o.length->lE (cK x qual (fI st) (dm st) (bB st) .none kV c q u g ct) ⟨l,[]⟩=pure (o.zip l)):Binds K v o []:=by
 obtain⟨G,E,kV,c,q,u,g,ct,B,rfl,H,C⟩:=F.ex;exact .all (h kV c q u g ct)
theorem LV{x qual:Str}{st:Stmt}{f:aj}{B:af}{v u:Option aj}{o:Array (Option af)}{kV h q g ct:af}(l:K.lookup f=some ⟨B,v,.func (cK x qual (fI st) (dm st) (bB st) .none kV h q u g ct),o⟩)
  (c:fX K g qual=true) (k:cS K (.ref f)=true):xN K x qual st f (cK x qual (fI st) (dm st) (bB st) .none kV h q u g ct):=⟨⟨B,v,kV,h,q,u,g,ct,o,rfl,l,c⟩,k⟩
end
section
variable{κ:Type}[DecidableEq κ]
noncomputable def qd(c:List (κ×V))(k:κ):Option V:=(c.find? λg=>decide (g.1=k)).map (·.2)
noncomputable def oR(c:List (κ×V))(k:κ)(v:V):List (κ×V):=
 if (c.any λg=>decide (g.1=k))=true then c.map (λg=>if g.1=k then (g.1,v) else g) else c++[(k,v)]
theorem GB{p:κ×V}{r:List (κ×V)}{k:κ}(e:p.1=k):qd (p::r) k=some p.2:=by simp[qd,cM,e]
theorem Gm{p:κ×V}{r:List (κ×V)}{k:κ}(e:¬ p.1=k):qd (p::r) k=qd r k:=by simp[qd,cM,e]
theorem OF(k:κ):∀c:List (κ×V),(c.any λg=>decide (g.1=k))=(qd c k).isSome
 |[]=>rfl
 |p::r=>by
  rw[d9];by_cases e:p.1=k
  ·simp only[GB e,bV e,Bool.true_or,oJ]
  ·rw[Gm e,aT e,Ck];exact OF k r
theorem M6(c:List (κ×V))(k:κ)(v:V):(oR c k v).length<=c.length+1:=by
 unfold oR;split
 ·rw[ae];ext
 ·rw[aE,bC,iK];ext
theorem py.isSome_eq{o:Option V}{u:Option af}(r:py o u):o.isSome=u.isSome:=by
 cases o with
 |none=>cases u with
  |none=>rfl
  |some _=>exact (show False from r).elim
 |some _=>cases u with
  |none=>exact (show False from r).elim
  |some _=>rfl
theorem KV.val{c:List (κ×V)}{l:List (κ×af)}(r:KV c l)(k:κ):py (qd c k) (rW l k):=by
 unfold KV at r
 induction r with
 |nil=>exact eX
 |@cons p q ps qs h t ih=>
  obtain⟨o,u⟩:=h;by_cases e:p.1=k
  ·have g:q.1=k:=o.symm.trans e;have b:rW (q::qs) k=some q.2:=by simp[rW,cM,g]
   rw[GB e,b];exact u
  ·have g:¬ q.1=k:=λz=>e (o.trans z);have b:rW (q::qs) k=rW qs k:=by simp[rW,cM,g]
   rw[Gm e,b];exact ih
theorem KV.any{c:List (κ×V)}{l:List (κ×af)}(r:KV c l)(k:κ):(c.any λg=>decide (g.1=k))=l.any λg=>decide (g.1=k):=by
 unfold KV at r
 induction r with
 |nil=>rfl
 |cons h t ih=>rw[d9,d9,ih,h.1]
theorem KV.repl{g:List (κ×V)}{o:List (κ×af)}(r:KV g o)(k:κ){y:V}{u:af}(v:RelV y u):
  KV (g.map λc=>if c.1=k then (c.1,y) else c) (o.map λc=>if c.1=k then (c.1,u) else c):=by
 unfold KV at r ⊢
 induction r with
 |nil=>exact .nil
 |@cons p q ps qs h t ih=>
  rw[aO,aO];refine .cons ?_ ih;obtain⟨l,B⟩:=h;by_cases e:p.1=k
  ·rw[aD e,aD (l.symm.trans e)];exact⟨l,v⟩
  ·rw[aB e,aB (λz=>e (l.trans z))];exact⟨l,B⟩
theorem KV.put{c:List (κ×V)}{g:List (κ×af)}(r:KV c g)(k:κ){y:V}{u:af}(h:RelV y u):KV (oR c k y) (stored g k u):=by
 unfold oR stored;rw[r.any k];by_cases e:(g.any λl=>decide (l.1=k))=true
 ·rw[aD e,aD e];exact r.repl k h
 ·rw[aB e,aB e];exact nF r ⟨rfl,h⟩
theorem KV.length{c:List (κ×V)}{g:List (κ×af)}(r:KV c g):c.length=g.length:=di r
end
theorem Gj{P:Program}{w:bN}{k:Key}{u:af}(r:RelV (kV k) u):(gH P w).is k u=true:=by
 cases k with
 |inl i=>obtain⟨t,e⟩:=(show ∃t,u=gh i t from r);subst e;exact S8 P w i t
 |inr x=>obtain⟨t,e⟩:=(show ∃t,u=iM x t from r);subst e;exact Pp P w x t
theorem Li{P:Program}{w:bN}:∀{ks:List Key}{c:List af},bU (ks.map kV) c->ItemsAre (gH P w) ks c
 |[],_,r=>by rw[mY]at r;cases r;exact .nil
 |k::ks,_,r=>by
  rw[aO]at r;cases r with
  |cons h t=>exact .cons (Gj h) (Li t)
abbrev KT(H:Hp):List (List Key×V)->List (List Key×aj×af)->Prop:=eQ λp q=>p.1=q.1/\H q.2.1=some (.tup (p.1.map kV))/\RelV p.2 q.2.2
theorem KT.val{H:Hp}{c:List (List Key×V)}{xs:List (List Key×aj×af)}(r:KT H c xs)(k:List Key):py (qd c k) ((lF xs k).map (·.2)):=by
 induction r with
 |nil=>exact eX
 |@cons p q ps qs h t ih=>
  obtain⟨l,_,o⟩:=h;by_cases e:p.1=k
  ·have g:q.1=k:=l.symm.trans e;have b:lF (q::qs) k=some q.2:=by simp[lF,cM,g]
   rw[GB e,b];exact o
  ·have g:¬ q.1=k:=λz=>e (l.trans z);have b:lF (q::qs) k=lF qs k:=by simp[lF,cM,g]
   rw[Gm e,b];exact ih
theorem KT.repl{H:Hp}{c:List (List Key×V)}{xs:List (List Key×aj×af)}(r:KT H c xs)(k:List Key){y:V}{u:af}(v:RelV y u):
  KT H (c.map λl=>if l.1=k then (l.1,y) else l) (xs.map (tE k u)):=by
 induction r with
 |nil=>exact .nil
 |@cons p q ps qs h t ih=>
  rw[aO,aO];refine .cons ?_ ih;obtain⟨g,o,B⟩:=h;unfold tE;by_cases e:p.1=k
  ·rw[aD e,aD (g.symm.trans e)];exact⟨g,o,v⟩
  ·rw[aB e,aB (λz=>e (g.trans z))];exact⟨g,o,B⟩
theorem KT.put{H:Hp}{c:List (List Key×V)}{xs:List (List Key×aj×af)}(r:KT H c xs)(k:List Key){b:aj}{y:V}{u:af}(l:H b=some (.tup (k.map kV)))(g:RelV y u):
  KT H (oR c k y) (lB xs k b u):=by
 have e:(c.any λh=>decide (h.1=k))=(lF xs k).isSome:=by rw[OF,(r.val k).isSome_eq,lP]
 unfold oR lB;rw[e];by_cases q:(lF xs k).isSome=true
 ·rw[aD q,aD q];exact r.repl k g
 ·rw[aB q,aB q];exact nF r ⟨rfl,l,g⟩
theorem KT.keeps{H g:Hp}{c:List (List Key×V)}{xs:List (List Key×aj×af)}(r:KT H c xs)(h:∀b ys,H b=some (.tup ys)->g b=some (.tup ys)):KT g c xs:=
 eQ.mapP r λ_ _ z=>⟨z.1,h _ _ z.2.1,z.2.2⟩
section
variable{P:Program}{w:bN}{H:Hp}{h:bK}{a:aj}
theorem LA{u:HO}(ok:mJ P w H h)(e:Rd H a u):eS P w H h a u:=e.ok ok
theorem F2{c:List (Key×V)}(ok:mJ P w H h)(e:Rd H a (.dK c)):c.length<=sizeLine/\(a == cX)=false/\∃g,KV c g/\h.DictOf (gH P w) a g:=
 show eS P w H h a (.dK c) from LA ok e
theorem Nw{c:List (Key×V)}(ok:mJ P w H h)(e:H a=some (.dK c)):c.length<=sizeLine/\(a == cX)=false/\∃g,KV c g/\h.DictOf (gH P w) a g:=F2 ok (.inl e)
theorem F1{ks:List Key}(ok:mJ P w H h)(e:H a=some (.tup (ks.map kV))):(s_ (gH P w)).is h ks a:=by
 obtain⟨_,its,r,o,l,g,⟨n,c⟩,_⟩:=(show eS P w H h a (.tup (ks.map kV)) from ok a _ e)
 exact⟨o,its.toArray,n,l,g,c,by simpa using Li r⟩
theorem J_{c:List (List Key×V)}(ok:mJ P w H h)(e:Rd H a (.dT c)): c.length<=sizeLine/\(a == cX)=false /\
  ∃xs,KT H c xs/\h.DictOfH (s_ (gH P w)) a xs:=by
 obtain⟨z,y,xs,r,o,G,ep,E,C,B,v,u⟩:=(show eS P w H h a (.dT c) from LA ok e)
 refine⟨z,y,xs,r,o,G,ep,E,C,B,v,λx g=>?_,u⟩;have all:∀{l:List (List Key×V)}{m:List (List Key×aj×af)},KT H l m->∀x∈m,(s_ (gH P w)).is h x.1 x.2.1:=by
  intro l m q
  induction q with
  |nil=>intro x g;exact nomatch g
  |@cons p q ps qs hq t ih=>
   intro x g;rcases bn.mp g with e|g
   ·subst e;exact F1 ok (by rw[<- hq.1];exact hq.2.1)
   ·exact ih x g
 exact all r x g
theorem Ra{c:List (List Key×V)}(ok:mJ P w H h)(e:H a=some (.dT c)): c.length<=sizeLine/\(a == cX)=false /\
  ∃xs,KT H c xs/\h.DictOfH (s_ (gH P w)) a xs:=J_ ok (.inl e)
end
def vQ(H:Hp)(a:aj)(y:V)(r:Option V):Prop:=
 (∃c k,Rd H a (.dK c)/\y=kV k/\r=qd c k)\/∃c k b,Rd H a (.dT c)/\y=.ref b/\H b=some (.tup (k.map kV))/\r=qd c k
def zw(H:Hp)(a:aj)(y v:V)(g:Hp):Prop:=
 (∃c k,H a=some (.dK c)/\y=kV k/\c.length < sizeLine/\g=fJ H a (.dK (oR c k v))) \/
 ∃c k b,H a=some (.dT c)/\y=.ref b/\H b=some (.tup (k.map kV))/\c.length < sizeLine/\g=fJ H a (.dT (oR c k v))
theorem vQ.k{H:Hp}{a:aj}{c:List (Key×V)}{k:Key}(e:H a=some (.dK c)):vQ H a (kV k) (qd c k):=.inl ⟨c,k,.inl e,rfl,rfl⟩
theorem zw.k{H:Hp}{a:aj}{c:List (Key×V)}{k:Key}{v:V}(e:H a=some (.dK c))(g:c.length < sizeLine):zw H a (kV k) v (fJ H a (.dK (oR c k v))):=.inl ⟨c,k,e,rfl,g,rfl⟩
section
variable{X:Cx}{ar:List (aj×Obj)}{σ:St}{H:Hp}{s:ao}{a:aj}{y v:V}{u r:af}{o:Option V}{A:bH}{E:af->ao->Prop}
theorem Inv.big(I:Inv X ar σ H s):cX < s.heap.objs.size:=by have h:cD < s.heap.objs.size:=(I.mod.glob.keeps I.bk).lt;exact nu (by decide) h
theorem So{Q:af->ao->Prop}(hu:A.units+1 < dk)(I:Inv X ar σ H s)(g:vQ H a y (some v))(Y:RelV y u)(h:∀B U,Inv X ar σ H U->RelV v B->Q B U):
  aJ (bb X.prog X.w) A (pT (.ref a) u) Q E s:=by
 rcases g with ⟨C,k,e,L,l⟩|⟨C,k,b,e,L,eb,l⟩
 ·subst L;obtain⟨z,hd,g,q,O⟩:=F2 I.hok e;obtain⟨B,G,c⟩:=py.some_of (v:=v) (o:=rW g k) (by rw[l];exact q.val k);exact wpAny_getItem_of (Gj Y) O.mapOf G (h B _ (I.tok _) c)
 ·subst L;cases (show u=bc b from Y);obtain⟨z,hd,xs,q,O⟩:=J_ I.hok e;obtain⟨B,G,c⟩:=py.some_of (v:=v) (o:=(lF xs k).map (·.2)) (by rw[l];exact q.val k);obtain⟨p,g,J⟩:=dH.mp G;refine Cm (rb hu) (F1 I.hok eb) O g ?_;rw[J];exact h B _ (I.tok _) c
theorem RB{Q:af->ao->Prop}(hu:A.units+1 < dk)(I:Inv X ar σ H s)(g:vQ H a y o)(L:RelV y u)(h:∀J,Inv X ar σ H J->Q (.bool (!o.isSome)) J):
  aJ (bb X.prog X.w) A (dB .NotIn u (.ref a)) Q E s:=by
 rcases g with ⟨B,k,e,C,l⟩|⟨B,k,b,e,C,O,l⟩
 ·subst C;obtain⟨z,hd,U,c,G⟩:=F2 I.hok e;refine wpAny_notIn_of (Gj L) hd G.mapOf ?_;rw[<- (c.val k).isSome_eq,<- l];exact h _ (I.tok _)
 ·subst C;cases (show u=bc b from L);obtain⟨z,hd,xs,c,G⟩:=J_ I.hok e;refine FS (rb hu) (F1 I.hok O) hd G ?_;have q:=(c.val k).isSome_eq;rw[lP]at q;rw[<- q,<- l];exact h _ (I.tok _)
theorem FK{h':bK}{t':Nat}{c:HO}(I:Inv X ar σ H s)(g:Eu (H a))(h:cO a s.heap h')(l:∃q,h'.get? a=some q)(new:eS X.prog X.w (fJ H a c) h' a c):
  Inv X ar σ (fJ H a c) { s with heap:=h',toks:=t' }:=
 I.write (x:=a) (e:=a) g (.inl rfl) (λb q B z=>(h.2 b B).trans z) l new
theorem VT{P:Program}{w:bN}{q:Hp}{h':bK}{c:List (Key×V)}{g:List (Key×af)}(z:c.length<=sizeLine)(hd:(a == cX)=false)(h:KV c g)(l:h'.DictOf (gH P w) a g):
  eS P w q h' a (.dK c):=⟨z,hd,g,h,l⟩
theorem Wy{H':Hp}{Q:Unit->ao->Prop}(hu:A.units+1 < dk)(I:Inv X ar σ H s)(g:zw H a y v H')(ry:RelV y u)(rv:RelV v r)(h:∀s',Inv X ar σ H' s'->Q () s'):
  aJ (bb X.prog X.w) A (oy (.ref a) u r) Q E s:=by
 rcases g with ⟨C,k,e,U,l,Y⟩|⟨C,k,b,e,U,eb,l,Y⟩
 ·subst U Y;obtain⟨z,hd,c,B,o⟩:=Nw I.hok e;have hz:c.length<=sizeLine:=by rw[<- B.length];exact z
  have O:(oR C k v).length<=sizeLine:=by have:=M6 C k v;ext
  refine wpAny_setItem_pairs (hsz:=hz) (Gj ry) o λh' G L=>h _ ?_;have g:∃q,h'.get? a=some q:=let ⟨q,_,_,J,_⟩:=G;⟨q,J⟩
  exact FK I (by rw[e];exact eX) L g (VT O hd (B.put k rv) G)
 ·subst U Y;cases (show u=bc b from ry);obtain⟨z,hd,xs,B,o⟩:=Ra I.hok e;have hz:xs.length<=sizeLine:=by rw[<- di B];exact z
  have O:(oR C k v).length<=sizeLine:=by have:=M6 C k v;ext
  refine wpAny_setItem_heap (hsz:=hz) (rb hu) (F1 I.hok eb) o λh' G L=>h _ ?_;obtain⟨q,es,ep,J,Q,H,E,_,l⟩:=G;refine FK I (by rw[e];exact eX) L ⟨q,J⟩ ⟨O,hd,_,(B.put k eb rv).keeps λc ys g=>?_,q,es,ep,J,Q,H,E,l⟩;rw[fZ (Rt g e nofun)];exact g
end
section
variable{X:Cx}{ar:List (aj×Obj)}{σ:St}{H:Hp}{s:ao}{a:aj}{cp:List (Key×V)}{k:Key}{u:af}{A:bH}{E:af->ao->Prop}
theorem V3{Q:af->ao->Prop}(I:Inv X ar σ H s)(e:Rd H a (.dK cp))(h:∀t g,Inv X ar σ H g->Q (.int cp.length t) g):aJ (bb X.prog X.w) A (call (.builtin "len") [.ref a]) Q E s:=by obtain⟨z,hd,o,c,l⟩:=F2 I.hok e;refine call_len_dict hd l (by rw[<- c.length];rw[mX]at z;ext) ?_;rw[<- c.length];exact h _ _ (I.tok _)
end
theorem Pj{P:Program}{w:bN}{H:Hp}(h:bK)(c:cX < h.objs.size):eS P w H (h.push { cls:=.type "dict",data:=.dict #[] }) h.objs.size (.dK []):=
 ⟨bY _,beq_eq_false_iff_ne.mpr (bX (bz c)),[],.nil,bK.DictOf.new h⟩
def AR:TE:=λ_ H Q=>∀p,H p=none->Q (.ref p) (fJ H p (.dK []))
section
variable{X:Cx}{pos:Pos}
theorem Ph:PE X (.Dict [] [] pos) AR:=λc s σ H Q I h=>
 FT ⟨.ref s.heap.objs.size,_,I.laid (a:=s.heap.objs.size) (o:=.dK []) (t':=s.toks) (λ_ _ q=>aq _ q) (ay _) (Pj s.heap I.big),rfl,h _ (I.hok.fresh (ay _))⟩
end
end L2
namespace MM
open PySem PySem.Spec PyProof.Rows L2
noncomputable abbrev KI:=Int ⊕ List Int
section
variable{prog:Program}{w:bN}
variable(prog w) in
inductive vP(h:bK):KI->af->Prop
 |one (i:Int) (t:Tok):vP h (.inl i) (.int i t)
 |row {k:List Int}{b:aj}:Cn (pS prog w) h k b->vP h (.inr k) (.ref b)
variable(prog w) in
inductive nK(h:bK):List KI->List af->Prop
 |nil:nK h [] []
 |cons {k:KI}{v:af}{ks:List KI}{vs:List af}:vP prog w h k v->nK h ks vs->nK h (k::ks) (v::vs)
variable(prog w) in
noncomputable def eM(h:bK)(ks:List KI)(a:aj):Prop:=∃o items n,h.get? a=some o/\o.cls=.type "tuple"/\o.data=.seq items n/\nK prog w h ks items.toList
theorem vP.inj{h:bK}{x y:KI}{v:af}(a:vP prog w h x v)(b:vP prog w h y v):x=y:=by
 cases a with
 |one i t=>cases b;rfl
 |row a=>cases b with
  |row b=>rw[a.inj b]
theorem nK.inj{h:bK}{x y:List KI}{c:List af}(a:nK prog w h x c)(b:nK prog w h y c):x=y:=by
 induction a generalizing y with
 |nil=>cases b;rfl
 |cons a t ih=>cases b with
  |cons b u=>rw[a.inj b,ih u]
theorem eM.typeIs{s:ao}{ks:List KI}{a:aj}(x:eM prog w s.heap ks a):s.TypeIs (.ref a) "tuple":=let ⟨o,_,_,ho,hc,_⟩:=x;⟨o,ho,hc⟩
theorem eM.inj{h:bK}{a:aj}{x y:List KI}(v:eM prog w h x a)(u:eM prog w h y a):x=y:=by
 obtain⟨o,items,n,B,_,hd,C⟩:=v;obtain⟨o',g,E,l,_,c,q⟩:=u;cases B.symm.trans l;rw[hd]at c;injection c with h1 _
 subst h1;exact C.inj q
theorem vP.keeps{h h':bK}{d:aj}{o:Obj}{l ep}(g:h.get? d=some o)(hd:o.data=.dict l ep)(c:cO d h h'):∀{x:KI}{v:af},vP prog w h x v->vP prog w h' x v
 |_,_,.one i t=>.one i t
 |_,_,.row a=>.row (a.keeps g hd c)
theorem nK.keeps{h h':bK}{d:aj}{o:Obj}{q ep}(l:h.get? d=some o)(hd:o.data=.dict q ep)(g:cO d h h'):∀{x:List KI}{c:List af},nK prog w h x c->nK prog w h' x c
 |_,_,.nil=>.nil
 |_,_,.cons a t=>.cons (a.keeps l hd g) (nK.keeps l hd g t)
theorem eM.keeps{h h':bK}{ks:List KI}{a d:aj}{o:Obj}{C ep}(x:eM prog w h ks a)(u:h.get? d=some o)(hd:o.data=.dict C ep)(q:cO d h h'):
  eM prog w h' ks a:=by
 obtain⟨o',items,n,g,B,c,v⟩:=x;have l:a≠d:=by
  rintro rfl
  obtain rfl:o'=o:=aG (g.symm.trans u);rw[hd]at c;exact nomatch c
 exact⟨o',items,n,(q.2 a l).trans g,B,c,v.keeps u hd q⟩
def AO:KI->Int
 | .inl i=>hashInt i
 | .inr r=>reduceHash (dC (r.map hashInt))
def o0(ks:List KI):Int:=reduceHash (dC (ks.map AO))
def I0:KI->Nat
 | .inl _=>1
 | .inr r=>r.length+1
def iE:List KI->Nat
 |[]=>0
 |k::ks=>I0 k+iE ks
variable{A:bH}{E:af->ao->Prop}{s:ao}
theorem HS(k:KI):∀(l:List KI),iE (l++[k])=iE l+I0 k
 |[]=>by simp[iE]
 |x::l=>by simp[iE,HS k l];ext
theorem Qm{k:KI}{v:af}{Q:Int->ao->Prop}(hu:A.units < dk)(c:vP prog w s.heap k v)(h:Q (AO k) { s with toks:=s.toks+I0 k }):aJ (bb prog w) A (pyHash v) Q E s:=by
 cases c with
 |one i t=>exact FN h
 |row c=>exact wpAny_pyHash_tuple (knd:=pS prog w) hu c h
theorem Vv{x y:KI}{u v:af}{Q:Bool->ao->Prop}(hu:A.units < dk)(C:vP prog w s.heap x u)(l:vP prog w s.heap y v)(h:Q (decide (x=y)) s):aJ (bb prog w) A (eqBool u v) Q E s:=by
 cases C with
 |one i t=>
  cases l with
  |one j t'=>
   refine sZ ?_;have e:(i == j)=decide ((lD i:KI)=lD j):=by
    by_cases z:i=j
    ·subst z;simp
    ·have B:¬ ((lD i:KI)=lD j):=λq=>z (by injection q);rw[aT B];exact beq_eq_false_iff_ne.mpr z
   first|(rw[e];exact h)|(simpa [e] using h)
  |row h2=>
   obtain⟨o,items,n,c,g,hd,_⟩:=h2;rw[aT (by simp)]at h;exact FQ.int_tuple i t ⟨o,c,g,n,hd⟩ hu prog w E Q h
 |row h1=>
  cases l with
  |one j t'=>
   obtain⟨o,items,n,c,g,hd,_⟩:=h1;rw[aT (by simp)]at h;exact FQ.tuple_int j t' ⟨o,c,g,n,hd⟩ hu prog w E Q h
  |@row k2 b h2=>
   refine wpAny_eqBool_tuple (knd:=pS prog w) hu h1 h2 ?_;simpa using h
theorem RH{ks:List KI}{a:aj}{Q:Int->ao->Prop}(hu:A.units+1 < dk)(q:eM prog w s.heap ks a)(h:Q (o0 ks) { s with toks:=s.toks+(iE ks+1) }):
  aJ (bb prog w) A (pyHash (.ref a)) Q E s:=by
 have g:=q.typeIs;obtain⟨o,items,n,u,_,hd,v⟩:=q;unfold pyHash
 first|unfold pyHashByItsType|skip
 first|refine ab (wpAny_cRoomFor_or (.inr (by ext)) ?_)|skip
 refine ab (oK g mN.lookup ?_)
 show aJ _ _ (if (some (Ai "tuple.__hash__") == some bQ)=true then _ else _) Q E s;rw[aB (by rw[beq_builtin_none];exact bv)];refine ab (oK g mN.lookup ?_)
 show aJ _ _ (callSpecialIfBoundUnlessNone? (.ref a) "__hash__" _ >>= _) Q E s;refine ab (wpAny_callSpecialIfBoundUnlessNone?_slot g mN (cF mN g F.entry_tuple_hash ?_ (F.args_tuple_hash_1 _)))
 show aJ _ _ (ph (.ref a) >>= _) _ _ s;refine ab (rf u hd ?_);refine ab ?_;rw[<- pi];refine nV _
  (λrest(b:Array Int)l=>∃done left,ks=done++left/\nK prog w s.heap left rest/\b.toList=done.map (AO)/\l={ s with toks:=s.toks+iE done })
  _ ?_ ?_ _ _ ⟨[],ks,rfl,v,rfl,rfl⟩
 ·rintro x rest b l ⟨done,left,rfl,hl,hb,rfl⟩
  cases hl with
  |@cons k b' ks' _ h1 hl'=>
   refine ab (Qm (k:=k) hu h1 ?_)
   first
    |exact au ⟨done++[k],ks',by simp,hl',by simp[hb],by simp[HS,pq]⟩
    |exact ab (au (au ⟨done++[k],ks',by simp,hl',by simp[hb],by simp[HS,pq]⟩))
 ·rintro b l ⟨done,left,rfl,hl,hb,rfl⟩
  cases hl;rw[br]at h
  show aJ _ _ (retInt (dC b.toList)) _ _ _;rw[hb];refine G7 ?_
  show aJ _ _ (if (decide (-(2:Int)^63<=dC (done.map (AO)))&&decide (dC (done.map (AO)) < 2^63))=true then _ else _) Q E _;unfold o0 reduceHash at h;by_cases c:(decide (-(2:Int)^63<=dC (done.map (AO)))&&decide (dC (done.map (AO)) < 2^63))=true
  ·rw[aD c];rw[aD c]at h;exact au (by simpa [pq] using h)
  ·rw[aB c];rw[aB c]at h;exact ab (gU (au (by simpa [pq] using h)))
theorem WS{x y:List KI}{a b:aj}{P:Fin->ao->Prop}(hu:A.units < dk)(hx:eM prog w s.heap x a)(Y:eM prog w s.heap y b)(h:P (.done (.ret (.bool (decide (x=y))))) s):
  aJ (bb prog w) A (Builtin.«tuple.__eq__» ⟨[.ref a,.ref b],[]⟩) P E s:=by
 have U:=Y.typeIs;obtain⟨oa,xs,na,H,_,Q,L⟩:=hx;obtain⟨ob,ys,nb,G,_,O,J⟩:=Y
 show aJ _ _ (Co (.ref b) (.type "tuple") >>= _) _ _ s;refine ab (fO U pj ?_);simp only[eZ,aY,if_false];refine ab (rf H Q ?_);refine ab (rf G O ?_);refine ab ?_;refine nV _
  (λrest r C=>r.1=none/\C=s/\∃B q g c,rest=List.zip g c/\nK prog w s.heap B g/\nK prog w s.heap q c/\decide (B=q)=decide (x=y)/\(g.length == c.length)=(xs.size == ys.size))
  _ ?_ ?_ _ _ ⟨rfl,rfl,x,y,xs.toList,ys.toList,rfl,L,J,rfl,by simp⟩
 ·rintro ⟨u,v⟩ rest r C ⟨hr,rfl,B,q,g,c,hz,hx',hy',hdec,hlen⟩
  cases hx' with
  |nil=>simp at hz
  |@cons k1 u' x'' xs'' h1 hx''=>
   cases hy' with
   |nil=>simp at hz
   |@cons k2 v' y'' ys'' h2 hy''=>
    simp only[List.zip_cons_cons,List.cons.injEq,Prod.mk.injEq]at hz;obtain⟨⟨rfl,rfl⟩,rfl⟩:=hz;refine ab (Vv (x:=k1) (y:=k2) hu h1 h2 ?_);by_cases I:k1=k2
    ·subst I;rw[bV rfl];simp only[eZ,aY,if_false];refine au ⟨rfl,rfl,x'',y'',xs'',ys'',rfl,hx'',hy'',?_,by simpa using hlen⟩;rw[<- hdec];by_cases l:x''=y''
     ·simp[l]
     ·simp[l]
    ·rw[aT I];simp only[kf,if_true];have o:decide (x=y)=false:=by rw[<- hdec];simp[I]
     rw[o]at h;exact ab (au (au (au h)))
 ·rintro ⟨r1,r2⟩ C ⟨hr,rfl,B,q,g,c,hz,hx',hy',hdec,hlen⟩
  simp only at hr;subst hr;refine au ?_;have o:(xs.size == ys.size)=decide (x=y):=by
   rw[<- hdec,<- hlen];cases hx' with
   |nil=>
    cases hy' with
    |nil=>simp
    |cons _ _=>simp
   |cons _ _=>
    cases hy' with
    |nil=>simp
    |cons _ _=>simp at hz
  show P (.done (.ret (.bool (xs.size == ys.size)))) C;rw[o];exact h
theorem QU{x y:List KI}{a b:aj}{Q:Bool->ao->Prop}(hu:A.units+1 < dk)(g:eM prog w s.heap x a)(l:eM prog w s.heap y b)(h:Q (decide (x=y)) s):
  aJ (bb prog w) A (eqBool (.ref a) (.ref b)) Q E s:=by
 unfold eqBool
 try with_reducible refine c_ ?_
 show aJ _ _ (if (bc a == bc b)=true then _ else _) Q E s;by_cases c:(bc a == bc b)=true
 ·rw[aD c];have e:a=b:=by have:=eq_of_beq c;injection this
  subst e;obtain rfl:=g.inj l;exact ab (gU (au (by simpa using h)))
 ·rw[aB c];exact ab (wpAny_richCompare_same_room (op:=.Eq) g.typeIs l.typeIs n_
   (cF n_ g.typeIs F.entry_tuple_eq (WS (by exact hu) g l ⟨_,rfl,nofun,fD h⟩) (F.args_tuple_eq_2 _ _)) (by ext))
theorem WU{n:Nat}{ks:List Int}{a:aj}{Q:Bool->ao->Prop}(l:Cn (pS prog w) s.heap ks a)(h:Q true s):aJ (bb prog w) A (pX (n+1) (.ref a)) Q E s:=by
 have q:=l.typeIs;obtain⟨o,items,n,B,_,hd,C⟩:=l;unfold pX;refine ab (oK q n_.lookup ?_)
 show aJ _ _ (Co (.ref a) (.type "tuple") >>= _) _ _ s;refine ab (fO q pj ?_);simp only[eZ,aY,if_false];refine ab (dA B hd ?_);refine ab ?_
 show aJ _ _ (forIn items _ _) _ _ s;rw[<- pi];refine nV _ (λrest r c=>r.1=none/\c=s/\∀v∈rest,carriedByValue v=true) _ ?_ ?_ _ _ ⟨rfl,rfl,C.byValue⟩
 ·rintro v rest r c ⟨hr,rfl,hall⟩
  rw[Db _ (hall v cE)];refine ab (au ?_);simp only[eZ,aY,if_false];exact au ⟨rfl,rfl,λu g=>hall u (bD _ g)⟩
 ·rintro ⟨r1,r2⟩ c ⟨hr,rfl,_⟩
  simp only at hr;subst hr;exact au h
theorem PX{n:Nat}{k:KI}{v:af}{Q:Bool->ao->Prop}(c:vP prog w s.heap k v)(h:Q true s):aJ (bb prog w) A (pX (n+1) v) Q E s:=by
 cases c with
 |one i t=>rw[Db _ (show carriedByValue (gh i t)=true from rfl)];exact au h
 |row c=>exact WU c h
theorem To{ks:List KI}{a:aj}{Q:Bool->ao->Prop}(g:eM prog w s.heap ks a)(h:Q true s):aJ (bb prog w) A (pX 8 (.ref a)) Q E s:=by
 have l:=g.typeIs;obtain⟨o,items,n,q,_,hd,u⟩:=g;unfold pX;refine ab (oK l n_.lookup ?_)
 show aJ _ _ (Co (.ref a) (.type "tuple") >>= _) _ _ s;refine ab (fO l pj ?_);simp only[eZ,aY,if_false];refine ab (dA q hd ?_);refine ab ?_
 show aJ _ _ (forIn items _ _) _ _ s;rw[<- pi];refine nV _ (λrest r c=>r.1=none/\c=s/\∃left,nK prog w s.heap left rest) _ ?_ ?_ _ _ ⟨rfl,rfl,ks,u⟩
 ·rintro v rest r c ⟨hr,rfl,left,hall⟩
  cases hall with
  |cons h1 hl=>
   refine ab (PX (n:=6) h1 ?_);simp only[eZ,aY,if_false];exact au ⟨rfl,rfl,_,hl⟩
 ·rintro ⟨r1,r2⟩ c ⟨hr,rfl,_⟩
  simp only at hr;subst hr;exact au h
end
def tW(prog:Program)(w:bN):uS prog w (List KI) where
 is:=eM prog w
 hash:=o0
 draws:=λks=>iE ks+1
 room:=λA=>A.units+1 < dk
 inj:=λg c=>g.inj c
 keeps:=λx q hd o=>x.keeps q hd o
 pyHash:=λhu l h=>RH hu l h
 eqBool:=λhu g c h=>QU hu g c h
 quiet:=λl h=>To l h
end MM
namespace MM
open PySem PyProof.Rows
noncomputable def rN(h:bK)(d:aj)(n:Nat):Prop:=∃o c,h.get? d=some o/\o.data=.dict c n
section
variable{prog:Program}{w:bN}{K:Type}[DecidableEq K]{knd:uS prog w K}{A:bH}{E:af->ao->Prop}{s:ao}{d a:aj}{k:K}{xs:List (K×aj×af)}
theorem M4{v:af}{Q:Unit->ao->Prop}(hu:knd.room A)(l:knd.is s.heap k a)(hm:s.heap.DictOfH knd d xs)(hp:rN s.heap d xs.length)(hsz:xs.length<=sizeLine)
  (h:∀h',h'.DictOfH knd d (lB xs k a v)->rN h' d (lB xs k a v).length->cO d s.heap h'->Q () { s with heap:=h',toks:=s.toks+knd.draws k }):
  aJ (bb prog w) A (Dc d (.ref a) v) Q E s:=by
 obtain⟨o,es,ep,g,hc,hd,L,B,I⟩:=id hm;obtain⟨o',es',C,O⟩:=hp;rw[g]at C;cases C;rw[hd]at O;cases O;unfold Dc;refine c_ (ab (knd.pyHash hu l ?_));unfold dictSetHashed;refine c_ (ab (Aj (s:={ s with toks:=s.toks+knd.draws k }) hu l g hd L B I (λH=>?_) λj p J=>?_))
 ·have G:k∉xs.map (·.1):=Ak H;have e0:=Dd H;have u:=storedH_new (a:=a) (v:=v) e0;have o:=lQ L;refine ab (gU (zD (hz:=by ext) (s:={ s with toks:=s.toks+knd.draws k }) g hd
   (h _ ⟨_,_,_,cG _ g (gu (dY hd _)),hc.mapDictKeys _,dY hd _,?_,?_,?_⟩ ?_ (cu ..))))
  ·rw[u];simp[L,ou]
  ·rw[u];intro x c;rcases aV.mp c with c|c
   ·exact knd.keeps (B x c) g hd (cu ..)
   ·cases aI.mp c;exact knd.keeps l g hd (cu ..)
  ·rw[u,bj,cP];refine⟨I,by simp,λx c y U=>?_⟩;cases aI.mp U;exact λe=>G ((show x=k from e) ▸ c)
  ·rw[u,aE];exact⟨_,_,cG _ g (gu (dY hd _)),dY hd _⟩
 ·have e0:=atKey_of_get I J;have u:=storedH_old e0 a v;have G:j < es.size:=by rw[lQ L];exact (ac.mp J).1
  have Y:(es.modify j λe=>{ hash:=e.hash,key:=e.key,val:=v }).toList=(xs.map (tE k v)).map (ou knd):=by
   apply fA;intro i;rw[dQ,Array.getElem?_modify,ak,ak];have o:es[i]?=(xs[i]?).map (ou knd):=by rw[<- dQ,L,ak]
   rw[o];by_cases z:j=i
   ·subst z;rw[aD rfl,J];simp[tE,ou]
   ·rw[aB z];cases c:xs[i]? with
    |none=>rfl
    |some x=>
     have l:x.1≠k:=λq=>by
      have E:(xs.map (·.1))[i]?=some k:=by rw[ak,c,<- q];rfl
      have C:(xs.map (·.1))[j]?=some k:=by rw[ak,J];rfl
      exact z ((eD (by rw[ae];exact (ac.mp J).1) I).mp (C.trans E.symm))
     simp[tE,l]
  refine ab (gU (ab (wpAny_updateDict (s:={ s with toks:=s.toks+knd.draws k }) g hd (wpAny_point
   (h _ ⟨_,_,_,cG _ g (gu (mT hd _)),hc.mapDict _,mT hd _,?_,?_,?_⟩ ?_ (cu ..))))))
  ·rw[u];exact Y
  ·rw[u];intro x c;obtain⟨y,U,e⟩:=cz.mp c;have q:=knd.keeps (B y U) g hd (cu s.heap d (Obj.mapDict λx=>x.modify j λe=>{ hash:=e.hash,key:=e.key,val:=v }));rw[<- e];unfold tE;split
   ·exact q
   ·exact q
  ·rw[u,e8];have:(xs.map ((λx=>x.1)∘tE k v))=xs.map (·.1):=dO λx _=>by show (tE k v x).1=x.1;unfold tE;split<;>rfl
   rw[this];exact I
  ·rw[u,ae];exact⟨_,_,cG _ g (gu (mT hd _)),mT hd _⟩
theorem Wr{v:af}{Q:Unit->ao->Prop}(hu:knd.room A.in1)(c:knd.is s.heap k a)(g:s.heap.DictOfH knd d xs)(l:rN s.heap d xs.length)(hsz:xs.length<=sizeLine)
  (h:∀h',h'.DictOfH knd d (lB xs k a v)->rN h' d (lB xs k a v).length->cO d s.heap h'->Q () { s with heap:=h',toks:=s.toks+knd.draws k }):
  aJ (bb prog w) A (oy (.ref d) (.ref a) v) Q E s:=by
 have T:=g.typeIs;unfold oy;refine c_ (ab (C8 T (by decide) (ab (b9 T yn (cF yn T F.entry_dict_setitem ?_ (F.args_dict_setitem_3 _ _ _))))));unfold Builtin.«dict.__setitem__»;refine ab (kS T ?_);rw[aB (by simp)]
 show aJ _ _ (Dc d (.ref a) v >>= _) _ _ s;refine ab (M4 hu c g l hsz λh' u q o=>au ⟨_,rfl,au (h h' u q o)⟩)
end
end MM
namespace MM
open PySem
inductive D where
 |non|bl (b:Bool)|int (i:Int)|str (x:Str)|tup (ds:List D)|lit (ds:List D)|ref (n:Nat)|dic (n:Nat)|exn (x:Str) (ds:List D)|fn (n:Nat)
inductive kz where
 |lam (e:FU)|dfn (s:FV)
inductive MO where
 |lst (ds:List D)|dct (b:Bool) (cp:List (D×D))|lam (e:FU)|tbl (x w:Str)|dcf (cp:List (D×D))|clo (c:kz) (vs:List D)|ded
noncomputable abbrev aX:=List MO
noncomputable abbrev V0:=D
inductive Rs(α:Type) where
 |ok (a:α) (s:aX)|exc (x:V0) (s:aX)|bad
def M(α:Type):=aX->Rs α
section
variable{α β:Type}
noncomputable def ret(a:α):M α:=λs=>.ok a s
noncomputable def bnd(m:M α)(f:α->M β):M β:=λs=>match m s with
 | .ok a s'=>f a s'
 | .exc x s'=>.exc x s'
 | .bad=>.bad
noncomputable def bad:M α:=λ_=>.bad
@[irreducible] def chk(c:Prop)[Decidable c](m:M α):M α:=if c then m else bad
end
noncomputable abbrev Loc:=List (Option D)
abbrev CE:=Loc->M D
abbrev CT:=Loc->M Bool
abbrev CA:=Loc->M (List D)
inductive sk where
 |next (l:Loc)|ret (d:D)|brk (l:Loc)|cnt (l:Loc)
abbrev CS:=Loc->M sk
noncomputable def fv:Nat:=2^24
noncomputable def alloc(o:MO):M D:=λs=>.ok (.ref s.length) (s++[o])
def getL(n:Nat):M (List D):=λs=>match s[n]? with
 |some (.lst ds)=>.ok ds s
 |_=>.bad
def putL(n:Nat)(ds:List D):M Unit:=λs=>match s[n]? with
 |some (.lst _)=>.ok () (s.set n (.lst ds))
 |_=>.bad
def getDc(n:Nat):M (Bool×List (D×D)):=λs=>match s[n]? with
 |some (.dct b cp)=>.ok (b,cp) s
 |_=>.bad
def sC(n:Nat)(b:Bool)(g:List (D×D)):M Unit:=λs=>match s[n]? with
 |some (.dct c _)=>if b=c then .ok () (s.set n (.dct b g)) else .bad
 |_=>.bad
mutual
noncomputable def oV:D->D->Bool
 | .int i,.int j=>decide (i=j)
 | .str x,.str y=>decide (x=y)
 | .tup xs,.tup ys=>lX xs ys
 |_,_=>false
noncomputable def lX:List D->List D->Bool
 |[],[]=>true
 |x::xs,y::ys=>oV x y&&lX xs ys
 |_,_=>false
end
noncomputable def oY:List D->Option (List Int)
 |[]=>some []
 | .int i::ds=>(oY ds).map (i::·)
 |_=>none
def ng:List D->Option (List (Int ⊕ List Int))
 |[]=>some []
 | .tup xs::ds=>match oY xs,ng ds with
  |some r,some rs=>some (.inr r::rs)
  |_,_=>none
 | .int i::ds=>(ng ds).map (.inl i::·)
 |_=>none
def stK:D->Option (List (Int ⊕ List Int))
 | .tup ds=>ng ds
 |_=>none
def pk:Bool->D->Bool
 |false,.int _=>true
 |false,.str _=>true
 |true,d=>(stK d).isSome
 |_,_=>false
def m9(c:List (D×D))(k:D):Option D:=(c.find? λp=>oV p.1 k).map (·.2)
def lN(c:List (D×D))(k v:D):List (D×D):=if (c.any λp=>oV p.1 k)=true then c.map λp=>if oV p.1 k=true then (p.1,v) else p else c++[(k,v)]
def xW(c more:List (D×D)):List (D×D):=more.foldl (λg p=>lN g p.1 p.2) c
def itemK(n:Nat)(k:D):M D:=bnd (getDc n) λp=>chk (pk p.1 k=true) (match m9 p.2 k with
 |some d=>ret d
 |none=>bad)
def storeK(n:Nat)(k v:D):M Unit:=bnd (getDc n) λp=>chk (pk p.1 k=true/\p.2.length < fv) (sC n p.1 (lN p.2 k v))
def hasK(n:Nat)(k:D):M Bool:=bnd (getDc n) λp=>chk (pk p.1 k=true) (ret (m9 p.2 k).isSome)
def wM:D->M (List D)
 | .tup ds=>ret ds
 | .lit ds=>ret ds
 | .ref n=>getL n
 |_=>bad
noncomputable def mC(n:Nat)(i:Int):Option Nat:=if 0<=i then (if i < n then some i.toNat else none) else (if -(n:Int)<=i then some (i+n).toNat else none)
def fG:D->D->M D
 | .int i,.int j=>ret (.int (i+j))
 | .str x,.str y=>chk (x.length+y.length<=fv) (ret (.str (x++y)))
 | .tup x,.tup y=>chk (x.length+y.length<=fv) (ret (.tup (x++y)))
 | .ref a,.ref b=>bnd (getL a) λx=>bnd (getL b) λy=>chk (x.length+y.length<=fv) (alloc (.lst (x++y)))
 |_,_=>bad
def sM:D->D->M D
 | .int i,.int j=>ret (.int (i-j))
 |_,_=>bad
noncomputable def pO(i j:Int):Prop:=(-(2^64) < i/\i < 2^64)\/(-(2^64) < j/\j < 2^64)
instance(i j:Int):Decidable (pO i j):=by unfold pO;infer_instance
def rM:D->D->M D
 | .int i,.int j=>chk (pO i j) (ret (.int (i*j)))
 |_,_=>bad
def r_:D->D->M D
 | .int i,.int j=>chk (0 < j/\j < 1073741824) (ret (.int (i / j)))
 |_,_=>bad
def oZ:D->D->M D
 | .int i,.int j=>chk (0 < j) (ret (.int (i % j)))
 |_,_=>bad
def xc:D->D->M D
 | .int i,.int j=>chk (0<=j/\j<=1000000/\i.natAbs < 2^64) (ret (.int (i^j.toNat)))
 |_,_=>bad
def t9:D->M D
 | .int i=>ret (.int (-i))
 |_=>bad
def Bk(p:Int->Int->Bool):D->D->M D
 | .int i,.int j=>ret (.bl (p i j))
 |_,_=>bad
def zq:=Bk λi j=>decide (i < j)
def wV:=Bk λi j=>decide (j < i)
def GI:=Bk λi j=>decide (j<=i)
noncomputable def nO(f:D->D->Option Bool):List D->List D->Option Bool
 |[],[]=>some true
 |x::xs,y::ys=>match f x y with
  |some true=>nO f xs ys
  |some false=>(nO f xs ys).map λ_=>false
  |none=>none
 |_::_,[]=>some false
 |[],_::_=>some false
noncomputable def GA(g:List D->List D->Option Bool):D->D->Option Bool
 | .non,.non=>some true
 | .non,.bl _=>some false
 | .non,.int _=>some false
 | .non,.str _=>some false
 | .non,.tup _=>some false
 | .bl _,.non=>some false
 | .bl a,.bl b=>some (a == b)
 | .bl a,.int b=>some ((if a then 1 else 0) == b)
 | .bl _,.str _=>some false
 | .bl _,.tup _=>some false
 | .int _,.non=>some false
 | .int a,.bl b=>some (a == (if b then 1 else 0))
 | .int a,.int b=>some (a == b)
 | .int _,.str _=>some false
 | .int _,.tup _=>some false
 | .str _,.non=>some false
 | .str _,.bl _=>some false
 | .str _,.int _=>some false
 | .str a,.str b=>some (a == b)
 | .str _,.tup _=>some false
 | .tup _,.non=>some false
 | .tup _,.bl _=>some false
 | .tup _,.int _=>some false
 | .tup _,.str _=>some false
 | .tup xs,.tup ys=>g xs ys
 |_,_=>none
def vA:Nat->D->D->Option Bool
 |0,d,e=>GA (λ_ _=>none) d e
 |n+1,d,e=>GA (nO (vA n)) d e
def Gn(d e:D):M Bool:=match d,e with
 | .ref a,.ref b=>bnd (getL a) λx=>bnd (getL b) λy=>match (if x.length=y.length then nO (vA 50) x y else some false) with
  |some r=>ret r
  |none=>bad
 | .ref a,.non=>bnd (getL a) λ_=>ret false
 | .non,.ref a=>bnd (getL a) λ_=>ret false
 |d,e=>match vA 50 d e with
  |some r=>ret r
  |none=>bad
def nY(d e:D):M D:=bnd (Gn d e) λb=>ret (.bl b)
def Cw(d e:D):M D:=bnd (Gn d e) λb=>ret (.bl !b)
def EM:D->M D
 | .non=>ret (.bl true)
 |_=>ret (.bl false)
def E2:D->M D
 | .non=>ret (.bl false)
 |_=>ret (.bl true)
def cJ(ds:List D)(i:Int):M D:=match mC ds.length i with
 |some k=>match ds[k]? with
  |some d=>ret d
  |none=>bad
 |none=>bad
def aR:D->D->M D
 | .tup ds,.int i=>cJ ds i
 | .lit ds,.int i=>cJ ds i
 | .ref n,.int i=>bnd (getL n) λds=>cJ ds i
 | .dic n,k=>itemK n k
 | .str x,.int i=>chk (x.length<=fv) (match mC x.length i with
  |some k=>match x.cps.toList[k]? with
   |some c=>ret (.str ⟨#[c]⟩)
   |none=>bad
  |none=>bad)
 |_,_=>bad
def y0:D->M Bool
 | .non=>ret false
 | .bl b=>ret b
 | .int i=>ret (i != 0)
 | .str x=>chk (x.length<=fv) (ret ((x.length:Int) != 0))
 | .tup ds=>ret (!ds.isEmpty)
 | .lit ds=>ret (!ds.isEmpty)
 | .ref n=>bnd (getL n) λds=>ret (!ds.isEmpty)
 | .dic _=>bad
 | .exn _ _=>bad
 | .fn _=>bad
def am(i:Nat):CE:=λl=>match l[i]? with
 |some (some d)=>ret d
 |_=>bad
def aN(d:D):CE:=λ_=>ret d
def c1(g:D->M D)(a:CE):CE:=λl=>bnd (a l) g
def c2(g:D->D->M D)(a b:CE):CE:=λl=>bnd (a l) λx=>bnd (b l) λy=>g x y
def bu:CA:=λ_=>ret []
def ax(a:CE)(r:CA):CA:=λl=>bnd (a l) λx=>bnd (r l) λxs=>ret (x::xs)
def dU(a:CA):CE:=λl=>bnd (a l) λxs=>chk (xs.length<=fv) (ret (.tup xs))
def Js(f g:D->D->M D)(a b c:CE):CE:=λl=>bnd (a l) λx=>bnd (b l) λy=>bnd (f x y) λz=>match z with
 | .bl true=>bnd (c l) λw=>g y w
 | .bl false=>ret (.bl false)
 |_=>bad
def tU(a b:CE):CE:=λl=>bnd (a l) λx=>match x with
 | .bl true=>b l
 | .bl false=>ret (.bl false)
 |_=>bad
def Cs(a b:CE):CE:=λl=>bnd (a l) λx=>match x with
 | .bl true=>ret (.bl true)
 | .bl false=>b l
 |_=>bad
def wL(a:CE):CE:=λl=>bnd (a l) λx=>match x with
 | .bl b=>ret (.bl !b)
 |_=>bad
def vJ(t:CT)(a b:CE):CE:=λl=>bnd (t l) λc=>if c=true then a l else b l
def bW(g:List D->M D)(a:CA):CE:=λl=>bnd (a l) g
def qW(a:CE):CT:=λl=>bnd (a l) y0
def db(a:CE):CT:=λl=>bnd (a l) λx=>match x with
 | .bl b=>ret b
 |_=>bad
def n0(a b:CT):CT:=λl=>bnd (a l) λc=>if c=true then b l else ret false
def rK(a b:CT):CT:=λl=>bnd (a l) λc=>if c=true then ret true else b l
def pM(a:CT):CT:=λl=>bnd (a l) λc=>ret !c
structure Wk where
 ds:List D
 same:aX->Prop
abbrev CI:=Loc->M Wk
open Classical in
def chkS(p:aX->Prop):M Unit:=λs=>if p s then .ok () s else .bad
noncomputable def dL:aX->Prop:=λ_=>True
noncomputable def kB(n:Nat)(ds:List D):aX->Prop:=λs=>s[n]?=some (.lst ds)
def ic(a:CE):CI:=λl=>bnd (a l) λx=>match x with
 | .tup ds=>ret ⟨ds,dL⟩
 | .lit ds=>ret ⟨ds,dL⟩
 | .ref n=>bnd (getL n) λds=>ret ⟨ds,kB n ds⟩
 |_=>bad
noncomputable def kY(lo:Int)(n:Nat):List D:=(bG n).map λk=>.int (lo+(k:Nat))
def fT(a:CE):CI:=λl=>bnd (a l) λx=>match x with
 | .int j=>chk (-(2^62)<=j/\j < 2^62) (ret ⟨kY 0 j.toNat,dL⟩)
 |_=>bad
def nh(a b:CE):CI:=λl=>bnd (a l) λx=>bnd (b l) λy=>match x,y with
 | .int i,.int j=>chk ((-(2^62)<=i/\i < 2^62)/\(-(2^62)<=j/\j < 2^62)) (ret ⟨kY i (j-i).toNat,dL⟩)
 |_,_=>bad
def wW(a:CA):CI:=λl=>bnd (a l) λds=>ret ⟨ds,dL⟩
def tL(a:CE):CI:=λl=>bnd (a l) λx=>match x with
 | .tup ds=>ret ⟨(kY 0 ds.length).zipWith (λi d=>.tup [i,d]) ds,dL⟩
 |_=>bad
abbrev CG:=D->Loc->M Loc
def aS(i:Nat):CG:=λd l=>ret (l.set i (some d))
def iD:List D->Loc->M Loc
 |[],l=>ret l
 |_,_=>bad
def cW(g:CG)(r:List D->Loc->M Loc):List D->Loc->M Loc
 |d::ds,l=>bnd (g d l) λc=>r ds c
 |_,_=>bad
def iq(n:Nat)(r:List D->Loc->M Loc):CG:=λd l=>match d with
 | .tup ds=>chk (ds.length=n) (r ds l)
 |_=>bad
noncomputable def gK(n:Nat)(caps:List Nat)(l:Loc):Loc:=aP n none++caps.map λi=>(l[i]?).join
def collect(g:CG)(t:CT)(e:CE)(same:aX->Prop):List D->Loc->M (List D)
 |[],_=>bnd (chkS same) λ_=>ret []
 |d::ds,l=>bnd (chkS same) λ_=>bnd (g d l) λc=>bnd (t c) λb=>if b=true then bnd (e c) λx=>bnd (collect g t e same ds c) λxs=>ret (x::xs) else collect g t e same ds c
def dF(n:Nat)(caps:List Nat)(i:CI)(g:CG)(t:CT)(e:CE):CA:=λl=>bnd (i l) λw=>chk (w.ds.length<=fv) (collect g t e w.same w.ds (gK n caps l))
noncomputable def gM(n d:Nat):Option Int->Nat
 |none=>d
 |some v=>if v < 0 then (v+(n:Int)).toNat else min v.toNat n
def cutD(xs:List D)(lo c:Option Int):List D:=(xs.drop (gM xs.length 0 lo)).take (gM xs.length xs.length c-gM xs.length 0 lo)
abbrev CO:=Loc->M (Option Int)
def tY:CO:=λ_=>ret none
def pQ(a:CE):CO:=λl=>bnd (a l) λx=>match x with
 | .int i=>ret (some i)
 |_=>bad
def qT(a:CE)(lo c:CO):CA:=λl=>bnd (a l) λx=>bnd (lo l) λi=>bnd (c l) λj=>match x with
 | .lit ds=>ret (cutD ds i j)
 | .ref n=>bnd (getL n) λds=>ret (cutD ds i j)
 |_=>bad
def nB(a:CE)(lo c:CO):CE:=λl=>bnd (a l) λx=>bnd (lo l) λi=>bnd (c l) λj=>match x with
 | .tup ds=>chk (¬(gM ds.length 0 i=0/\gM ds.length ds.length j=ds.length)) (ret (.tup (cutD ds i j)))
 |_=>bad
def bR:CT:=λ_=>ret true
def dZ(a:CA):CE:=λl=>bnd (a l) λds=>alloc (.lst ds)
def fU(a:CA):CA:=λl=>bnd (a l) λxs=>chk (xs.length<=fv) (ret xs)
def mE(a:CA)(b:CE):CE:=λl=>bnd (a l) λds=>bnd (b l) λi=>match i with
 | .int k=>cJ ds k
 |_=>bad
def gY(g:List D->M D)(a:CA):CE:=λl=>bnd (a l) g
def ba:CS:=λl=>ret (.next l)
def aQ(a b:CS):CS:=λl=>bnd (a l) λf=>match f with
 | .next l'=>b l'
 |f=>ret f
def b_(g:CG)(a:CE):CS:=λl=>bnd (a l) λd=>bnd (g d l) λc=>ret (.next c)
def eV(a:CE):CS:=λl=>bnd (a l) λd=>ret (.ret d)
def iF(a:CE):CS:=λl=>bnd (a l) λ_=>ret (.next l)
def n8(t:CT)(a b:CS):CS:=λl=>bnd (t l) λc=>if c=true then a l else b l
def Aw:CS:=λ_=>bad
def nQ(g:CG)(b:CS)(same:aX->Prop):List D->CS
 |[],l=>bnd (chkS same) λ_=>ret (.next l)
 |d::ds,l=>bnd (chkS same) λ_=>bnd (g d l) λc=>bnd (b c) λf=>match f with
  | .next l2=>nQ g b same ds l2
  | .cnt l2=>nQ g b same ds l2
  | .brk l2=>ret (.next l2)
  | .ret d=>ret (.ret d)
def kC(i:CI)(g:CG)(b:CS):CS:=λl=>bnd (i l) λw=>nQ g b w.same w.ds l
def wY:sk->M D
 | .ret d=>ret d
 | .next _=>ret .non
 |_=>bad
def b8(n:Nat)(c:CS)(ds:List D):M D:=bnd (c (ds.map some++aP (n-ds.length) none)) wY
def iT(o i v:D):M Unit:=match o,i with
 | .ref n,.int k=>bnd (getL n) λds=>match mC ds.length k with
  |some j=>putL n (ds.set j v)
  |none=>bad
 | .dic n,k=>storeK n k v
 |_,_=>bad
def gP(o i:CE):CG:=λv l=>bnd (o l) λy=>bnd (i l) λz=>bnd (iT y z v) λ_=>ret l
def gD:D->M D
 | .tup ds=>ret (.int ds.length)
 | .lit ds=>ret (.int ds.length)
 | .ref n=>bnd (getL n) λds=>ret (.int ds.length)
 | .str x=>chk (x.length<=fv) (ret (.int x.length))
 | .dic n=>bnd (getDc n) λp=>ret (.int p.2.length)
 |_=>bad
def u9(n:Nat)(v:D):M D:=bnd (getL n) λds=>chk (ds.length < fv) (bnd (putL n (ds++[v])) λ_=>ret .non)
def dJ(a b:CE):CE:=λl=>bnd (a l) λx=>match x with
 | .ref n=>bnd (b l) λv=>u9 n v
 |_=>bad
def intD:D->M D
 | .int i=>ret (.int i)
 | .bl b=>ret (.int (if b then 1 else 0))
 |_=>bad
def tupleD:D->M D
 | .tup ds=>ret (.tup ds)
 | .lit ds=>ret (.tup ds)
 | .ref n=>bnd (getL n) λds=>ret (.tup ds)
 |_=>bad
noncomputable def t7:D->Option (List String)
 | .non=>some ["NoneType"]
 | .bl _=>some ["bool","int"]
 | .int _=>some ["int"]
 | .str _=>some ["str"]
 | .tup _=>some ["tuple"]
 | .lit _=>some ["list"]
 | .ref _=>some ["list"]
 |_=>none
noncomputable def m6:List D->Option (List Int)
 |[]=>some []
 | .int i::ds=>(m6 ds).map (i::·)
 |_=>none
noncomputable def mF:List D->Option (List Bool)
 |[]=>some []
 | .bl b::ds=>(mF ds).map (b::·)
 |_=>none
def mz(ds:List D):M D:=match m6 ds with
 |some (n::ns)=>ret (.int (ns.foldl max n))
 |_=>bad
def vE(ds:List D):M D:=match mF ds with
 |some bs=>ret (.bl (bs.all id))
 |_=>bad
def kA(ds:List D):M D:=ret (.tup ds)
def ie(c:List String)(d:D):M D:=match t7 d with
 |some us=>ret (.bl (c.any λt=>us.contains t))
 |none=>bad
def yy:D->D->M D
 | .bl a,.bl b=>ret (.bl (a == b))
 |x,.non=>EM x
 |_,_=>bad
def r9:D->D->M D
 | .bl a,.bl b=>ret (.bl !(a == b))
 |x,.non=>E2 x
 |_,_=>bad
noncomputable def nZ:D->Bool
 | .non=>true
 | .bl _=>true
 | .int _=>true
 | .str _=>true
 |_=>false
noncomputable def yA:D->D->Bool
 | .non,.non=>true
 | .bl a,.bl b=>a == b
 | .bl a,.int b=>(if a then 1 else 0) == b
 | .int a,.bl b=>a == (if b then 1 else 0)
 | .int a,.int b=>a == b
 | .str a,.str b=>a == b
 |_,_=>false
def A0(x:D)(ds:List D):M D:=chk (nZ x=true/\ds.all nZ=true) (ret (.bl (ds.any λd=>yA d x)))
def Ek(x:D)(ds:List D):M D:=chk (nZ x=true/\ds.all nZ=true) (ret (.bl !(ds.any λd=>yA d x)))
def Yg(x y:D):M D:=match y with
 | .dic n=>bnd (hasK n x) λb=>ret (.bl b)
 |y=>bnd (wM y) (A0 x)
def sO(x y:D):M D:=match y with
 | .dic n=>bnd (hasK n x) λb=>ret (.bl !b)
 |y=>bnd (wM y) (Ek x)
noncomputable def uJ(b:Bool)(c:List (D×D)):M D:=λs=>.ok (.dic s.length) (s++[.dct b c])
def n6(b:Bool):CE:=λ_=>uJ b []
def qQ(a:CA)(b:CE):CA:=λl=>bnd (a l) λxs=>bnd (b l) λk=>match k with
 | .int k=>chk ((-(2^63)<=k/\k < 2^63)/\xs.length*k.toNat<=fv) (ret (aP k.toNat xs).flatten)
 |_=>bad
def pA(g:D->List D->M D)(a:CE)(b:CA):CE:=λl=>bnd (a l) λx=>bnd (b l) λds=>g x ds
def ve:D->D->M D
 | .int i,.int j=>ret (.int (min i j))
 |_,_=>bad
def ub(d:D):M D:=bnd (wM d) λds=>alloc (.lst ds)
def uF(a:CE):CE:=λl=>bnd (a l) λx=>match x with
 | .ref n=>bnd (getL n) λds=>match ds.getLast? with
  |some d=>bnd (putL n ds.dropLast) λ_=>ret d
  |none=>bad
 |_=>bad
def tR(a:CE):CA:=λl=>bnd (a l) λx=>match x with
 | .ref n=>getL n |> λm=>bnd m λds=>ret ds.reverse
 |_=>bad
def fu(t:CT)(b:CS):Nat->CS
 |0=>λ_=>bad
 |n+1 => λl => bnd (t l) λc => if c = true then bnd (b l) λf => match f with
   | .next l2=>fu t b n l2
   | .cnt l2=>fu t b n l2
   | .brk l2=>ret (.next l2)
   | .ret d=>ret (.ret d) else ret (.next l)
open Classical in
def kW(t:CT)(b:CS):CS:=λl s=>if h:∃n,(∀r,fu t b n l s=r->r≠.bad) then fu t b (choose h) l s else .bad
end MM
namespace MM
open PySem PySem.Spec PyProof.Rows L2
abbrev St:=L2.St
def xS(K:ah)(H:Hp)(a:aj)(xs:List V):Prop:=
 (∃o,H a=some (.frz o (.lst xs))) \/
  ∃(o:Obj)(its:Array af)(n:Nat),K.lookup a=some o/\o.cls=.type "list"/\o.dict=none/\o.data=.seq its n/\its.size<=sizeLine/\bU xs its.toList
theorem xS.seq{K:ah}{H:Hp}{a:aj}{xs:List V}(h:xS K H a xs):ii K H a xs:=by
 rcases h with ⟨o,h⟩|h
 ·exact .inl (.inr ⟨o,h⟩)
 ·exact .inr h
noncomputable def kO:HO->Nat
 | .lst _=>0
 | .dK _=>1
 | .ext _=>2
 | .tbl _=>4
 |_=>3
abbrev NK:=List KI
def nH(k:NK):Int:=o0 k
def zx(x:NK×aj×af):iJ:=⟨nH x.1,.ref x.2.1,x.2.2⟩
def Vc(a:aj)(g:List (NK×aj×V))(h:bK):Prop:=g.length<=sizeLine/\(a == cX)=false/\∃xs:List (NK×aj×af),eQ (λ(p:NK×aj×V)(q:NK×aj×af)=>p.1=q.1/\p.2.1=q.2.1/\RelV p.2.2 q.2.2) g xs /\
 ∃o c ep,h.get? a=some o/\o.ExactDict/\o.data=.dict c ep/\c.toList=xs.map zx/\(xs.map (·.1)).Nodup/\ep=xs.length
def iH(a:aj)(c:List (NK×aj×V)):HO:=.ext (Vc a c)
def Rq(a:aj)(g:List (NK×aj×V))(h:bK):Prop:=g.length<=sizeLine/\(a == cX)=false/\∃xs:List (NK×aj×af),eQ (λ(p:NK×aj×V)(q:NK×aj×af)=>p.1=q.1/\p.2.1=q.2.1/\RelV p.2.2 q.2.2) g xs /\
 ∃o c ep,h.get? a=some o/\o.ExactDict/\o.data=.dict c ep/\c.toList=xs.map zx/\(xs.map (·.1)).Nodup
def Ua(a:aj)(c:List (NK×aj×V)):HO:=.ext (Rq a c)
noncomputable def EI(r:List Int):D:=.tup (r.map .int)
def ia:KI->D
 | .inl i=>.int i
 | .inr r=>EI r
def r8(k:NK):D:=.tup (k.map ia)
def qo:Key->D
 | .inl i=>.int i
 | .inr x=>.str x
noncomputable def Fw(x:Str)(c:Array af):Prop:=x=aA "NoText"\/c[2]?=some bQ
mutual
inductive du(K:ah)(ρ:List aj)(H:Hp):V->D->Prop
 |non:du K ρ H .non .non
 |bl (b:Bool):du K ρ H (.bl b) (.bl b)
 |int (i:Int):du K ρ H (.int i) (.int i)
 |str (x:Str):du K ρ H (.str x) (.str x)
 |tup {a:aj}{vs:List V}{ds:List D} (h:iZ K H a vs) (r:bJ K ρ H vs ds):du K ρ H (.ref a) (.tup ds)
 |lit {a:aj}{vs:List V}{ds:List D} (h:xS K H a vs) (r:bJ K ρ H vs ds):du K ρ H (.ref a) (.lit ds)
 |ref {a:aj}{n:Nat} (k:∃o,H a=some o/\kO o=0) (h:ρ[n]?=some a):du K ρ H (.ref a) (.ref n)
 |dic {a:aj}{n:Nat} (k:∃o,H a=some o/\(kO o=1\/kO o=2)) (h:ρ[n]?=some a):du K ρ H (.ref a) (.dic n)
 |exn0 {a C:aj}{x:Str} (g:fP K cD x=some (some (.ref C))) (h:∃o,H a=some (.frz o (.own a))/\o.cls=.ref C):du K ρ H (.ref a) (.exn x [])
 |exn {a C dx:aj}{x f:Str}{v:V}{d:D} (g:fP K cD x=some (some (.ref C))) (h:∃o,H a=some (.frz o (.own a))/\o.cls=.ref C/\o.dict=some dx/\∃vs,o.data=.fields vs/\Fw x vs) (h2:H dx=some (.xd [(f,v)])) (r:du K ρ H v d):du K ρ H (.ref a) (.exn x [.str f,d])
 |fn {a:aj}{n:Nat} (h:ρ[n]?=some a):du K ρ H (.ref a) (.fn n)
inductive bJ(K:ah)(ρ:List aj)(H:Hp):List V->List D->Prop
 |nil:bJ K ρ H [] []
 |cons {v:V}{d:D}{vs:List V}{ds:List D} (r:du K ρ H v d) (t:bJ K ρ H vs ds):bJ K ρ H (v::vs) (d::ds)
end
def IN(K:ah)(ρ:List aj)(H:Hp)(v:V):D->Prop
 | .non=>v=.non
 | .bl b=>v=.bl b
 | .int i=>v=.int i
 | .str x=>v=.str x
 | .tup ds=>∃a c,v=.ref a/\iZ K H a c/\bJ K ρ H c ds
 | .lit ds=>∃a c,v=.ref a/\xS K H a c/\bJ K ρ H c ds
 | .ref n=>∃a,v=.ref a/\(∃o,H a=some o/\kO o=0)/\ρ[n]?=some a
 | .dic n=>∃a,v=.ref a/\(∃o,H a=some o/\(kO o=1\/kO o=2))/\ρ[n]?=some a
 | .fn n=>∃a,v=.ref a/\ρ[n]?=some a
 |_=>True
theorem du.inv{K:ah}{ρ:List aj}{H:Hp}{v:V}{d:D}(r:du K ρ H v d):IN K ρ H v d:=by
 cases r with
 |non=>rfl
 |bl=>rfl
 |int=>rfl
 |str=>rfl
 |tup h q=>exact⟨_,_,rfl,h,q⟩
 |lit h q=>exact⟨_,_,rfl,h,q⟩
 |ref k h=>exact⟨_,rfl,k,h⟩
 |dic k h=>exact⟨_,rfl,k,h⟩
 |exn0=>trivial
 |exn=>trivial
 |fn h=>exact⟨_,rfl,h⟩
noncomputable def oT(H:Hp)(c:aj)(q:Str):Prop:=∃g h t,H c=some (.frz g (.frz g (.own c)))/\g.data=.fields h/\h[1]?=some (.str q t)
def K6(H:Hp)(a:aj)(e:Expr):Prop:=∃g b sc p q c h ct,e=.Lambda g b sc p/\H a=some (.frz (wA "<lambda>" q g b sc [] h c ct) (.own a))/\oT H c q
noncomputable def TabOf(K:ah)(x:Str)(a:aj):Prop:=∃f o g c,fP K cD x=some (some (.ref f))/\K.lookup f=some o/\o.data=.func g/\g.code=.ref c/\eR K c a=true
noncomputable def wP(x w:Str):Str:=x++".<locals>."++w
def Kj(K:ah)(H:Hp)(a:aj)(x w:Str):Prop:=TabOf K x a/\∃g,H a=some (.tbl g)/\nW g.toList/\∀p v,lb p g.toList=some v->∃c,v=.ref c/\oT H c (wP x w)
def sq(K:ah)(ρ:List aj)(H:Hp)(p:Str×aj)(d:D):Prop:=∃o u v,H p.2=some (.frz o (.frz o (.own p.2)))/\o.data=.cell (some u)/\RelV v u/\du K ρ H v d
noncomputable def AV(c:kz)(o:cY)(q:Str)(u:aj)(cl:List (Str×aj)):Prop:=match c with
 | .lam e=>∃h b sc p l ct,e=.Lambda h b sc p/\o=PySem.W.kla_fn "<lambda>" q h b sc cl l (.ref u) ct
 | .dfn st=>∃nm h g ds rt B sc v E p C l ct,st=.FunctionDef nm h g ds rt B sc v E p/\o=pY nm q h g sc cl .none .none C l none (.ref u) ct
noncomputable def nM(names:List (Str×dE)):List Str:=((names.filter λy=>y.2 == .free).map (·.1)).reverse
def J4(K:ah)(ρ:List aj)(H:Hp)(a:aj)(c:kz)(l:List D):Prop:=∃o g q h cl,H a=some (.frz o (.own a))/\o.data=.func g/\AV c g q h cl/\oT H h q/\((cl.map (·.2)).Nodup/\cl.map (·.1)=nM g.scope.names)/\eQ (sq K ρ H) cl l
def nC(K:ah)(ρ:List aj)(H:Hp)(a:aj):MO->Prop
 | .lst ds=>∃h,H a=some (.lst h)/\bJ K ρ H h ds
 | .dct false cp=>∃g,H a=some (.dK g)/\eQ (λ(p:Key×V)(q:D×D)=>qo p.1=q.1/\du K ρ H p.2 q.2) g cp
 | .lam e=>K6 H a e
 | .tbl x w=>Kj K H a x w
 | .clo c h=>J4 K ρ H a c h
 | .ded=>∃o,H a=some (.frz o (.own a))
 | .dcf cp=>∃g,H a=some (Ua a g)/\eQ (λ(p:NK×aj×V)(q:D×D)=>r8 p.1=q.1/\du K ρ H (.ref p.2.1) q.1/\du K ρ H p.2.2 q.2) g cp
 | .dct true cp=>∃g,H a=some (iH a g)/\eQ (λ(p:NK×aj×V)(q:D×D)=>r8 p.1=q.1/\du K ρ H (.ref p.2.1) q.1/\du K ρ H p.2.2 q.2) g cp
structure SR(K:ah)(ρ:List aj)(H:Hp)(st:aX):Prop where
 len:ρ.length=st.length
 nd:ρ.Nodup
 ob:∀(n:Nat)(a:aj)(o:MO),ρ[n]?=some a->st[n]?=some o->nC K ρ H a o
noncomputable def LR(K:ah)(ρ:List aj)(H:Hp)(σ:St)(l:Loc):Prop:=
 σ.length=l.length/\∀(i:Nat)(d:D),l[i]?=some (some d)->∃v,σ[i]?=some (some v)/\du K ρ H v d
structure Ex(ρ:List aj)(H:Hp)(ρ':List aj)(H':Hp):Prop where
 pre:∃τ,ρ'=ρ++τ/\∀a∈τ,H a=none
 fix:∀a o,kO o=3->H a=some o->H' a=some o
 oth:∀a o,a∉ρ->H a=some o->H' a=some o
 knd:∀a o,H a=some o->∃o',H' a=some o'/\kO o'=kO o
structure Up(ρ:List aj)(H:Hp)(ρ':List aj)(H':Hp):Prop where
 pre:∃τ,ρ'=ρ++τ
 fix:∀a o,kO o=3->H a=some o->H' a=some o
 knd:∀a o,H a=some o->∃o',H' a=some o'/\kO o'=kO o
section
variable{K:ah}{ρ ρ1 ρ2:List aj}{H H1 H2:Hp}{st eh:aX}{v:V}{d:D}{vs:List V}{ds:List D}{a:aj}
theorem Ex.lst(x:Ex ρ H ρ1 H1)(a:aj)(xs:List V)(c:a∉ρ)(h:H a=some (.lst xs)):H1 a=some (.lst xs):=x.oth a _ c h
theorem Ex.trk(x:Ex ρ H ρ1 H1)(a:aj)(o:HO)(h:H a=some o):H1 a≠none:=by obtain⟨o',e,_⟩:=x.knd a o h;rw[e];exact λz=>nomatch z
theorem Ex.up(x:Ex ρ H ρ1 H1):Up ρ H ρ1 H1:=⟨let ⟨τ,e,_⟩:=x.pre;⟨τ,e⟩,x.fix,x.knd⟩
theorem Up.grow{τ:List aj}:Up ρ H (ρ++τ) H:=⟨⟨τ,rfl⟩,λ_ _ _ e=>e,λ_ o e=>⟨o,e,rfl⟩⟩
theorem Ex.refl:Ex ρ H ρ H:=⟨⟨[],by simp,by simp⟩,λ_ _ _ e=>e,λ_ _ _ e=>e,λ_ o e=>⟨o,e,rfl⟩⟩
theorem Ex.trans(x:Ex ρ H ρ1 H1)(y:Ex ρ1 H1 ρ2 H2):Ex ρ H ρ2 H2:=by
 obtain⟨τ1,rfl,l⟩:=x.pre;obtain⟨τ2,rfl,G⟩:=y.pre;refine⟨⟨τ1++τ2,by simp,λa c=>?_⟩,λa o g e=>y.fix a o g (x.fix a o g e),λa o h e=>?_,λa o e=>?_⟩
 ·rcases aV.mp c with c|c
  ·exact l a c
  ·cases q:H a with
   |none=>rfl
   |some o=>exact bq (G a c) (x.trk a o q)
 ·refine y.oth a o (λz=>?_) (x.oth a o h e);rcases aV.mp z with z|z
  ·exact h z
  ·rw[l a z]at e;cases e
 ·obtain⟨B,J,E⟩:=x.knd a o e;obtain⟨u,I,C⟩:=y.knd a B J;exact⟨u,I,C.trans E⟩
theorem Ex.new{o:HO}(h:H a=none):Ex ρ H ρ (fJ H a o):=
 ⟨⟨[],by simp,by simp⟩,λb u _ e=>by rw[fZ (mR e h)];exact e,λb u _ e=>by rw[fZ (mR e h)];exact e,
  λb u e=>⟨u,by rw[fZ (mR e h)];exact e,rfl⟩⟩
theorem Ex.newO{o:HO}(h:H a=none):Ex ρ H (ρ++[a]) (fJ H a o):=
 ⟨⟨[a],rfl,λb c=>by rw[aI]at c;rw[c];exact h⟩,(Ex.new (ρ:=ρ) h).fix,(Ex.new (ρ:=ρ) h).oth,(Ex.new (ρ:=ρ) h).knd⟩
theorem Ex.newL{vs:List V}(h:H a=none):Ex ρ H (ρ++[a]) (fJ H a (.lst vs)):=Ex.newO h
theorem iZ.mono(x:Up ρ H ρ1 H1)(h:iZ K H a vs):iZ K H1 a vs:=by
 rcases h with h|h
 ·rcases h with h|⟨o,h⟩
  ·exact .inl (.inl (x.fix a _ rfl h))
  ·exact .inl (.inr ⟨o,x.fix a _ rfl h⟩)
 ·exact .inr h
theorem xS.mono(x:Up ρ H ρ1 H1)(h:xS K H a vs):xS K H1 a vs:=by
 rcases h with ⟨o,h⟩|h
 ·exact .inl ⟨o,x.fix a _ rfl h⟩
 ·exact .inr h
theorem zY{α:Type}{l τ:List α}{n:Nat}{a:α}(h:l[n]?=some a):(l++τ)[n]?=some a:=by rw[av (ac.mp h).1];exact h
mutual
theorem du.up(x:Up ρ H ρ1 H1):∀{v:V}{d:D},du K ρ H v d->du K ρ1 H1 v d
 |_,_,.non=>.non
 |_,_,.bl b=>.bl b
 |_,_,.int i=>.int i
 |_,_,.str y=>.str y
 |_,_,.tup h r=>.tup (iZ.mono x h) (bJ.up x r)
 |_,_,.lit h r=>.lit (xS.mono x h) (bJ.up x r)
 |_,_,.ref ⟨o,ho,hk⟩ h=>by obtain⟨τ,e⟩:=x.pre;obtain⟨o',c,l⟩:=x.knd _ o ho;exact .ref ⟨o',c,l.trans hk⟩ (by rw[e];exact zY h)
 |_,_,.dic ⟨o,ho,hk⟩ h=>by obtain⟨τ,e⟩:=x.pre;obtain⟨o',c,l⟩:=x.knd _ o ho;exact .dic ⟨o',c,by rw[l];exact hk⟩ (by rw[e];exact zY h)
 |_,_,.fn h=>by obtain⟨τ,e⟩:=x.pre;exact .fn (by rw[e];exact zY h)
 |_,_,.exn0 g ⟨o,ho,hc⟩=>.exn0 g ⟨o,x.fix _ _ rfl ho,hc⟩
 |_,_,.exn g ⟨o,ho,hc⟩ h2 r=>.exn g ⟨o,x.fix _ _ rfl ho,hc⟩ (x.fix _ _ rfl h2) (du.up x r)
theorem bJ.up(x:Up ρ H ρ1 H1):∀{vs:List V}{ds:List D},bJ K ρ H vs ds->bJ K ρ1 H1 vs ds
 |_,_,.nil=>.nil
 |_,_,.cons r t=>.cons (du.up x r) (bJ.up x t)
end
theorem du.mono(r:du K ρ H v d)(x:Ex ρ H ρ1 H1):du K ρ1 H1 v d:=r.up x.up
theorem bJ.mono(r:bJ K ρ H vs ds)(x:Ex ρ H ρ1 H1):bJ K ρ1 H1 vs ds:=r.up x.up
theorem bJ.length:∀{vs:List V}{ds:List D},bJ K ρ H vs ds->vs.length=ds.length
 |_,_,.nil=>rfl
 |_,_,.cons _ t=>by simp[bJ.length t]
theorem bJ.get:∀{vs:List V}{ds:List D}{i:Nat}{d:D},bJ K ρ H vs ds->ds[i]?=some d->∃v,vs[i]?=some v/\du K ρ H v d
 |_,_,_,_,.nil,e=>by simp at e
 |_,_,0,_,.cons r _,e=>by simp at e;subst e;exact⟨_,rfl,r⟩
 |_,_,i+1,_,.cons _ t,e=>by obtain⟨v,g,c⟩:=bJ.get (i:=i) t (by simpa using e);exact⟨v,by simpa using g,c⟩
theorem bJ.app:∀{vs ws:List V}{ds c:List D},bJ K ρ H vs ds->bJ K ρ H ws c->bJ K ρ H (vs++ws) (ds++c)
 |_,_,_,_,.nil,s=>s
 |_,_,_,_,.cons r t,s=>.cons r (bJ.app t s)
theorem bJ.set:∀{vs:List V}{ds:List D}{v:V}{d:D}(i:Nat),bJ K ρ H vs ds->du K ρ H v d->bJ K ρ H (vs.set i v) (ds.set i d)
 |_,_,_,_,_,.nil,_=>.nil
 |_,_,_,_,0,.cons _ t,r=>.cons r t
 |_,_,_,_,i+1,.cons q t,r=>.cons q (bJ.set i t r)
theorem bJ.take:∀{vs:List V}{ds:List D}(n:Nat),bJ K ρ H vs ds->bJ K ρ H (vs.take n) (ds.take n)
 |_,_,0,_=>.nil
 |_,_,_+1,.nil=>.nil
 |_,_,n+1,.cons r t=>.cons r (bJ.take n t)
theorem bJ.drop:∀{vs:List V}{ds:List D}(n:Nat),bJ K ρ H vs ds->bJ K ρ H (vs.drop n) (ds.drop n)
 |_,_,0,r=>r
 |_,_,_+1,.nil=>.nil
 |_,_,n+1,.cons _ t=>bJ.drop n t
theorem LR.mono{σ:St}{l:Loc}(x:Ex ρ H ρ1 H1)(h:LR K ρ H σ l):LR K ρ1 H1 σ l:=
 ⟨h.1,λi d e=>let ⟨v,e1,r⟩:=h.2 i d e;⟨v,e1,r.mono x⟩⟩
theorem SR.at(s:SR K ρ H st){n:Nat}{o:MO}(e:st[n]?=some o):∃a,ρ[n]?=some a/\nC K ρ H a o:=by
 have c:n < ρ.length:=by rw[s.len];exact (ac.mp e).1
 have q:ρ[n]?=some ρ[n]:=ai c;exact⟨_,q,s.ob n _ o q e⟩
theorem SR.seq(s:SR K ρ H st){n:Nat}(e:st[n]?=some (.lst ds)):∃a vs,ρ[n]?=some a/\H a=some (.lst vs)/\bJ K ρ H vs ds:=by obtain⟨a,h,vs,q,r⟩:=s.at e;exact⟨a,vs,h,q,r⟩
theorem nC.ex{o:MO}(h:nC K ρ H a o):∃u,H a=some u:=by
 cases o with
 |lam e=>obtain⟨_,_,_,_,_,_,_,_,_,q,_⟩:=h;exact⟨_,q⟩
 |tbl x w=>obtain⟨_,_,q,_⟩:=h;exact⟨_,q⟩
 |dcf cp=>obtain⟨_,q,_⟩:=h;exact⟨_,q⟩
 |clo c vs=>obtain⟨_,_,_,_,_,q,_⟩:=h;exact⟨_,q⟩
 |ded=>obtain⟨_,q⟩:=h;exact⟨_,q⟩
 |lst ds=>obtain⟨vs,q,_⟩:=h;exact⟨_,q⟩
 |dct b cp=>cases b<;>(obtain⟨vs,q,_⟩:=h;exact⟨_,q⟩)
theorem SR.fresh(s:SR K ρ H st)(h:H a=none):a∉ρ:=λz=>by
 obtain⟨n,c⟩:=kN z;have g:n < st.length:=by rw[<- s.len];exact (ac.mp c).1
 obtain⟨u,q⟩:=nC.ex (s.ob n a _ c (ai g));rw[h]at q;cases q
theorem U3{n:Nat}{xs:List D}{c:aX}(h:getL n st=.ok xs c):c=st/\st[n]?=some (.lst xs):=by
 unfold getL at h;cases e:st[n]? with
 |none=>rw[e]at h;cases h
 |some o=>
  rw[e]at h;cases o with
  |lst ds=>cases h;exact⟨rfl,rfl⟩
  |_=>cases h
theorem eQ.mapS{α β:Type}{F G:α->β->Prop}:∀{l₁:List α}{l₂:List β},eQ F l₁ l₂->(∀a b,F a b->G a b)->eQ G l₁ l₂
 |_,_,.nil,_=>.nil
 |_,_,.cons r t,f=>.cons (f _ _ r) (eQ.mapS t f)
theorem oT.up{c:aj}{q:Str}(x:Up ρ H ρ1 H1)(h:oT H c q):oT H1 c q:=let ⟨oc,vs,t,e,r⟩:=h;⟨oc,vs,t,x.fix _ _ rfl e,r⟩
theorem sq.up{p:Str×aj}(x:Up ρ H ρ1 H1)(h:sq K ρ H p d):sq K ρ1 H1 p d:=let ⟨o,u,v,e1,e2,e3,r⟩:=h;⟨o,u,v,x.fix _ _ rfl e1,e2,e3,r.up x⟩
theorem nC.mono{o:MO}(x:Up ρ H ρ1 H1)(h:nC K ρ H a o)(g:∀u,H a=some u->H1 a=some u):nC K ρ1 H1 a o:=by
 cases o with
 |lam e=>
  obtain⟨G,b,sc,p,q,c,I,ct,E,C,B⟩:=h;exact⟨G,b,sc,p,q,c,I,ct,E,g _ C,B.up x⟩
 |tbl y w=>
  obtain⟨t,G,E,C,B⟩:=h;exact⟨t,G,g _ E,C,λp v z=>let ⟨c,a,b⟩:=B p v z;⟨c,a,b.up x⟩⟩
 |clo c vs=>
  obtain⟨o,J,q,U,cl,E,C,B,Q,O,L⟩:=h;exact⟨o,J,q,U,cl,g _ E,C,B,Q.up x,O,eQ.mapS L λ_ _ z=>z.up x⟩
 |ded=>obtain⟨u,e⟩:=h;exact⟨u,g _ e⟩
 |dcf cp=>
  obtain⟨l,q,r⟩:=h;exact⟨l,g _ q,eQ.mapS r λp q z=>⟨z.1,z.2.1.up x,z.2.2.up x⟩⟩
 |lst ds=>
  obtain⟨vs,q,r⟩:=h;exact⟨vs,g _ q,r.up x⟩
 |dct b cp=>
  cases b with
  |false=>
   obtain⟨l,q,r⟩:=h;exact⟨l,g _ q,eQ.mapS r λp q z=>⟨z.1,z.2.up x⟩⟩
  |true=>
   obtain⟨l,q,r⟩:=h;exact⟨l,g _ q,eQ.mapS r λp q z=>⟨z.1,z.2.1.up x,z.2.2.up x⟩⟩
theorem SR.new{o:HO}(s:SR K ρ H st)(h:H a=none):SR K ρ (fJ H a o) st:=
 ⟨s.len,s.nd,λn b c l g=>nC.mono (o:=c) (Ex.new (ρ:=ρ) h).up (s.ob n b c l g) λvs q=>by rw[fZ (mR q h)];exact q⟩
theorem SR.keepO{o':MO}(s:SR K ρ H st)(B:a∉ρ)(r:nC K ρ H a o'):SR K (ρ++[a]) H (st++[o']):=by
 have u:=s.len;have old:∀(n:Nat)(b:aj),(ρ++[a])[n]?=some b->(n < ρ.length/\ρ[n]?=some b)\/(n=ρ.length/\b=a):=λn b e=>by
  by_cases c:n < ρ.length
  ·rw[av c]at e;exact .inl ⟨c,e⟩
  ·rw[aM (by ext)]at e;have hz:n - ρ.length=0:=by
    cases q:n - ρ.length with
    |zero=>rfl
    |succ k=>rw[q]at e;simp at e
   rw[hz]at e;simp at e;exact .inr ⟨by ext,e.symm⟩
 refine⟨by simp[u],cP.mpr ⟨s.nd,by simp,λx C y l=>?_⟩,λn b o E g=>?_⟩
 ·rw[aI]at l;subst l;exact λz=>B (z ▸ C)
 ·rcases old n b E with ⟨c,h⟩|⟨c,h⟩
  ·rw[av (by ext)]at g;exact nC.mono (o:=o) Up.grow (s.ob n b o h g) λ_ q=>q
  ·subst h;have:o=o':=by rw[c,u,aM (ay _)]at g;simp at g;exact g.symm
   subst this;exact nC.mono (o:=o) Up.grow r λ_ q=>q
theorem SR.keep(s:SR K ρ H st)(h:H a=some (.lst vs))(c:a∉ρ)(r:bJ K ρ H vs ds):SR K (ρ++[a]) H (st++[.lst ds]):=s.keepO c ⟨vs,h,r⟩
theorem SR.putO(s:SR K ρ H st){n:Nat}{o':MO}{u u':HO}(E:n < st.length)(h:ρ[n]?=some a)(hu:H a=some u)(C:kO u≠3)(G:kO u'=kO u)(r:nC K ρ (fJ H a u') a o'):
  SR K ρ (fJ H a u') (st.set n o')/\Ex ρ H ρ (fJ H a u'):=by
 have x:Ex ρ H ρ (fJ H a u'):=by
  refine⟨⟨[],by simp,by simp⟩,λb o l q=>?_,λb xs B q=>?_,λb o q=>?_⟩
  ·have:b≠a:=λz=>by subst z;rw[hu]at q;cases q;exact C l
   rw[fZ this];exact q
  ·have:b≠a:=λz=>by subst z;exact B (az h)
   rw[fZ this];exact q
  ·by_cases z:b=a
   ·subst z;rw[hu]at q;cases q;exact⟨u',ky,G⟩
   ·exact⟨o,by rw[fZ z];exact q,rfl⟩
 refine⟨⟨by simp[s.len],s.nd,λm b o c g=>?_⟩,x⟩;by_cases z:m=n
 ·subst z;rw[h]at c;cases c;rw[aw E]at g;cases g;exact r
 ·rw[ag (bX z)]at g;refine nC.mono (o:=o) x.up (s.ob m b o c g) λI q=>?_;have:b≠a:=λw=>by subst w;exact z ((eD (ac.mp c).1 s.nd).mp (c.trans h.symm))
  rw[fZ this];exact q
theorem SR.put(s:SR K ρ H st){n:Nat}{ws:List V}(h:n < st.length)(l:ρ[n]?=some a)(c:H a=some (.lst ws))(r:bJ K ρ H vs ds):
  SR K ρ (fJ H a (.lst vs)) (st.set n (.lst ds))/\Ex ρ H ρ (fJ H a (.lst vs)):=by
 have u:Up ρ H ρ (fJ H a (.lst vs)):=by
  refine⟨⟨[],by simp⟩,λb o g q=>?_,λb o q=>?_⟩
  ·have:b≠a:=λz=>by subst z;rw[c]at q;cases q;exact nomatch g
   rw[fZ this];exact q
  ·by_cases z:b=a
   ·subst z;rw[c]at q;cases q;exact⟨_,ky,rfl⟩
   ·exact⟨o,by rw[fZ z];exact q,rfl⟩
 exact s.putO h l c (by show (0:Nat)≠3;decide) rfl ⟨vs,ky,r.up u⟩
theorem LX(k:∃o,H a=some o/\kO o=0):∃vs,H a=some (.lst vs):=by
 obtain⟨o,e,c⟩:=k;cases o with
 |lst vs=>exact⟨vs,e⟩
 |_=>exact nomatch c
noncomputable def aU{α:Type}(K:ah)(ρ:List aj)(H:Hp)(r:Rs α)(R:α->aX->List aj->Hp->Prop):Prop:=match r with
 | .ok a st=>∀ρ' H',Ex ρ H ρ' H'->SR K ρ' H' st->R a st ρ' H'
 |_=>False
theorem aU.left{α:Type}{r:Rs α}{R:α->aX->List aj->Hp->Prop}(x:Ex ρ H ρ1 H1)(h:aU K ρ H r R):aU K ρ1 H1 r R:=by
 cases r with
 |ok a st=>exact λρ' c y s=>h ρ' c (x.trans y) s
 |exc _ _=>exact h
 |bad=>exact h
theorem aU.imp{α:Type}{r:Rs α}{R g:α->aX->List aj->Hp->Prop}(h:aU K ρ H r R)(f:∀a st ρ' c,Ex ρ H ρ' c->SR K ρ' c st->R a st ρ' c->g a st ρ' c):aU K ρ H r g:=by
 cases r with
 |ok a st=>exact λρ' c y s=>f a st ρ' c y s (h ρ' c y s)
 |exc _ _=>exact h
 |bad=>exact h
theorem aU.bnd{α β:Type}{m:M α}{f:α->M β}{R:β->aX->List aj->Hp->Prop}(h:aU K ρ H (bnd m f st) R):aU K ρ H (m st) λa c ρ' g=>aU K ρ' g (f a c) R:=by
 unfold MM.bnd at h;cases e:m st with
 |ok a s'=>
  rw[e]at h;exact λρ' g y s=>h.left y
 |exc _ _=>rw[e]at h;exact h
 |bad=>rw[e]at h;exact h
theorem aU.ret{α:Type}{a:α}{R:α->aX->List aj->Hp->Prop}(h:aU K ρ H (MM.ret a st) R)(s:SR K ρ H st):R a st ρ H:=h ρ H Ex.refl s
theorem aU.chk{α:Type}{c:Prop}[Decidable c]{m:M α}{R:α->aX->List aj->Hp->Prop}(h:aU K ρ H (MM.chk c m st) R):c/\aU K ρ H (m st) R:=by
 unfold MM.chk at h;by_cases g:c
 ·rw[aD g]at h;exact⟨g,h⟩
 ·rw[aB g]at h;exact h.elim
theorem aU.getL{n:Nat}{R:List D->aX->List aj->Hp->Prop}(h:aU K ρ H (MM.getL n st) R)(s:SR K ρ H st):∃xs,st[n]?=some (.lst xs)/\R xs st ρ H:=by
 cases e:MM.getL n st with
 |ok xs s'=>
  obtain⟨rfl,q⟩:=U3 e;rw[e]at h;exact⟨xs,q,h ρ H Ex.refl s⟩
 |exc _ _=>rw[e]at h;exact h.elim
 |bad=>rw[e]at h;exact h.elim
def zO(K:ah)(f:CE):TE:=λσ H Q=>∃ρ l st,LR K ρ H σ l/\SR K ρ H st/\aU K ρ H (f l st) λd _ ρ' c=>∀v,du K ρ' c v d->Q v c
def qh(K:ah)(f:CT):TT:=λσ H Q=>∃ρ l st,LR K ρ H σ l/\SR K ρ H st/\aU K ρ H (f l st) λb _ _ c=>Q b c
def HL(K:ah)(f:CA):TA:=λσ H Q=>∃ρ l st,LR K ρ H σ l/\SR K ρ H st/\aU K ρ H (f l st) λds _ ρ' c=>∀vs,bJ K ρ' c vs ds->Q vs c
def Fj(K:ah)(f:CA):TE:=λσ H Q=>∃ρ l st,LR K ρ H σ l/\SR K ρ H st/\aU K ρ H (f l st) λds _ ρ' c=>∀a vs,H a=none->a∉ρ'->c a=some (.lst vs)->bJ K ρ' c vs ds->Q (.ref a) c
def wO(K:ah)(c:CS):TS:=λG σ H=>∃ρ l st,LR K ρ H σ l/\SR K ρ H st/\aU K ρ H (c l st) λf _ ρ' g=>match f with
 | .next l'=>∀σ',LR K ρ' g σ' l'->G.nx σ' g
 | .ret d=>∀v,du K ρ' g v d->G.rt v g
 | .brk l'=>∀σ',LR K ρ' g σ' l'->G.bk σ' g
 | .cnt l'=>∀σ',LR K ρ' g σ' l'->G.ct σ' g
def zj(K:ah)(g:CG):TG:=λv σ H Q=>∃ρ l st d,LR K ρ H σ l/\SR K ρ H st/\du K ρ H v d/\aU K ρ H (g d l st) λh _ ρ' c=>∀σ',LR K ρ' c σ' h->Q σ' c
def Ed(K:ah)(g:List D->Loc->M Loc):yU:=λvs σ H Q=>∃ρ l st ds,LR K ρ H σ l/\SR K ρ H st/\bJ K ρ H vs ds/\aU K ρ H (g ds l st) λh _ ρ' c=>∀σ',LR K ρ' c σ' h->Q σ' c
def qv(K:ah)(g:D->D->M D):R2:=λx y H Q=>∃ρ st d e,SR K ρ H st/\du K ρ H x d/\du K ρ H y e/\aU K ρ H (g d e st) λr _ ρ' c=>∀v,du K ρ' c v r->Q v c
def vR(K:ah)(g:D->M D):V->Hp->VK->Prop:=λx H Q=>∃ρ st d,SR K ρ H st/\du K ρ H x d/\aU K ρ H (g d st) λr _ ρ' c=>∀v,du K ρ' c v r->Q v c
def Q3(K:ah)(g:List D->M D):List V->Hp->VK->Prop:=λxs H Q=>∃ρ st ds,SR K ρ H st/\bJ K ρ H xs ds/\aU K ρ H (g ds st) λr _ ρ' c=>∀v,du K ρ' c v r->Q v c
def mr(K:ah)(n:Nat)(g:List D->M D):Sp:=λvs H Q _=>vs.length=n/\Q3 K g vs H Q
end
section
variable{X:Cx}{a b c:Expr}{pos:Pos}
abbrev SE(X:Cx)(e:Expr)(f:CE):Prop:=PE X e (zO X.K f)
abbrev SL(X:Cx)(e:Expr)(f:CA):Prop:=PE X e (Fj X.K f)
abbrev ST(X:Cx)(e:Expr)(f:CT):Prop:=PT X e (qh X.K f)
abbrev SA(X:Cx)(g:List Expr)(f:CA):Prop:=PA X g (HL X.K f)
abbrev SS(X:Cx)(s:Stmt)(f:CS):Prop:=PS X s (wO X.K f)
abbrev vO(X:Cx)(s:List Stmt)(f:CS):Prop:=PSs X s (wO X.K f)
theorem _root_.L2.PE.of{e:Expr}{t t':TE}(h:PE X e t)(f:∀σ H Q,t' σ H Q->t σ H Q):PE X e t':=λg s σ H Q I q=>h g s σ H Q I (f σ H Q q)
theorem _root_.L2.PT.of{e:Expr}{t t':TT}(h:PT X e t)(f:∀σ H Q,t' σ H Q->t σ H Q):PT X e t':=λg s σ H Q I q=>h g s σ H Q I (f σ H Q q)
theorem _root_.L2.PA.of{e:List Expr}{t t':TA}(h:PA X e t)(f:∀σ H Q,t' σ H Q->t σ H Q):PA X e t':=λpos g s σ H Q I q=>h pos g s σ H Q I (f σ H Q q)
theorem _root_.L2.PS.of{e:Stmt}{t t':TS}(h:PS X e t)(f:∀D σ H,t' D σ H->t D σ H):PS X e t':=λg s σ H D I q=>h g s σ H D I (f D σ H q)
theorem _root_.L2.PSs.of{e:List Stmt}{t t':TS}(h:PSs X e t)(f:∀D σ H,t' D σ H->t D σ H):PSs X e t':=λg s σ H D I q=>h g s σ H D I (f D σ H q)
theorem _root_.L2.PG.of{e:Expr}{t t':TG}(h:PG X e t)(f:∀v σ H Q,t' v σ H Q->t v σ H Q):PG X e t':=λg s σ H v u Q I r q=>h g s σ H v u Q I r (f v σ H Q q)
theorem _root_.L2.PGs.of{e:List Expr}{t t':yU}(h:PGs X e t)(f:∀v σ H Q,t' v σ H Q->t v σ H Q):PGs X e t':=λg s σ H v u Q I r q=>h g s σ H v u Q I r (f v σ H Q q)
theorem _root_.L2.OpR.of{f:af->af->Sem af}{r o:R2}(h:OpR X f r)(g:∀x y H Q,o x y H Q->r x y H Q):OpR X f o:=λl s σ H x y v u Q I C B q=>h l s σ H x y v u Q I C B (g x y H Q q)
theorem _root_.L2.CallR.of{f:af}{r o:List V->Hp->VK->Prop}(h:CallR X f r)(g:∀x H Q,o x H Q->r x H Q):CallR X f o:=λl s σ H x u Q I v q=>h l s σ H x u Q I v (g x H Q q)
variable{fa fb fc:CE}
theorem Ts(i:Nat){x:Str}(h:PE X (.Name x pos) (xh i)):SE X (.Name x pos) (am i):=h.of λσ H Q g=>by
 obtain⟨ρ,l,st,q,sr,p⟩:=g;unfold am at p;cases e:l[i]? with
 |none=>rw[e]at p;exact p.elim
 |some o=>
  rw[e]at p;cases o with
  |none=>exact p.elim
  |some d=>
   obtain⟨v,u,r⟩:=q.2 i d e;exact⟨v,u,p.ret sr v r⟩
theorem S3{i:Int}{j:Nat}:SE X (.Constant (.int i) j pos) (aN (.int i)):=(OE (i:=i) (j:=j) (pos:=pos)).of λσ H Q g=>by obtain⟨ρ,l,st,h,sr,p⟩:=g;exact p.ret sr _ (.int i)
theorem VS{i:Bool}{j:Nat}:SE X (.Constant (.bool i) j pos) (aN (.bl i)):=(Wn (b:=i) (j:=j) (pos:=pos)).of λσ H Q g=>by obtain⟨ρ,l,st,h,sr,p⟩:=g;exact p.ret sr _ (.bl i)
theorem Pf{j:Nat}:SE X (.Constant .none j pos) (aN .non):=(X2 (j:=j) (pos:=pos)).of λσ H Q g=>by obtain⟨ρ,l,st,h,sr,p⟩:=g;exact p.ret sr _ .non
theorem VY{i:Str}{j:Nat}:SE X (.Constant (.str i) j pos) (aN (.str i)):=(Wu (x:=i) (j:=j) (pos:=pos)).of λσ H Q g=>by obtain⟨ρ,l,st,h,sr,p⟩:=g;exact p.ret sr _ (.str i)
theorem Gu{g:D->D->M D}{r:R2}(Y:∀x y H Q,qv X.K g x y H Q->r x y H Q):∀σ H Q,zO X.K (c2 g fa fb) σ H Q->DS r (zO X.K fa) (zO X.K fb) σ H Q:=λσ H Q h=>
 by obtain⟨ρ,l,st,B,sr,p⟩:=h;exact⟨ρ,l,st,B,sr,p.bnd.imp λd q ρ1 H1 E I U v J=>⟨ρ1,l,q,B.mono E,I,U.bnd.imp λe o ρ2 c C G O u L=>Y _ _ _ _ ⟨ρ2,o,d,e,G,J.mono C,L,O⟩⟩⟩
theorem PU{op:rQ}{g:D->D->M D}(l:OpR X (e_ op) (qv X.K g))(q:SE X a fa)(o:SE X b fb):SE X (.BinOp a op b pos) (c2 g fa fb):=
 (LB l q o).of (Gu λ_ _ _ _ h=>h)
theorem XD{op:uL}{g:D->D->M D}(l:OpR X (dB op) (qv X.K g))(u:SE X a fa)(q:SE X b fb)(o:gC op b=false):SE X (.Compare a [op] [b] pos) (c2 g fa fb):=
 (Oq l u q o).of (Gu λ_ _ _ _ h=>h)
end
theorem _root_.Exists.el{α β γ:Type}{A B C:α->β->γ->Prop}{G:Prop}(h:∃a b c,A a b c/\B a b c/\C a b c)(k:∀a b c,A a b c->B a b c->C a b c->G):G:=by obtain⟨ρ,l,st,a,b,c⟩:=h;exact k ρ l st a b c
theorem zO.el{K:ah}{f:CE}{σ:St}{H:Hp}{Q:VK}{C:Prop}(h:zO K f σ H Q)(k:∀ρ l st,LR K ρ H σ l->SR K ρ H st->aU K ρ H (f l st) (λd _ ρ' g=>∀v,du K ρ' g v d->Q v g)->C):C:=by obtain⟨ρ,l,st,a,b,c⟩:=h;exact k ρ l st a b c
theorem qh.el{K:ah}{f:CT}{σ:St}{H:Hp}{Q:Bool->Hp->Prop}{C:Prop}(h:qh K f σ H Q)(k:∀ρ l st,LR K ρ H σ l->SR K ρ H st->aU K ρ H (f l st) (λb _ _ g=>Q b g)->C):C:=by obtain⟨ρ,l,st,a,b,c⟩:=h;exact k ρ l st a b c
theorem wO.el{K:ah}{c:CS}{σ:St}{H:Hp}{G:Ends}{C:Prop}(h:wO K c G σ H) (k:∀ρ l st,LR K ρ H σ l->SR K ρ H st->aU K ρ H (c l st) (λf _ ρ' g=>match f with
 | .next l'=>∀σ',LR K ρ' g σ' l'->G.nx σ' g
 | .ret d=>∀v,du K ρ' g v d->G.rt v g
 | .brk l'=>∀σ',LR K ρ' g σ' l'->G.bk σ' g
 | .cnt l'=>∀σ',LR K ρ' g σ' l'->G.ct σ' g)->C):C:=by
 obtain⟨ρ,l,st,a,b,c⟩:=h;exact k ρ l st a b c
end MM
namespace MM
open PySem PySem.Spec PyProof.Rows L2
theorem LD:∀(a b:List Int),lX (a.map .int) (b.map .int)=decide (a=b)
 |[],[]=>by simp[lX]
 |[],_::_=>by simp[lX]
 |_::_,[]=>by simp[lX]
 |x::xs,y::ys=>by
  rw[aO,aO]
  show (oV (.int x) (.int y)&&lX _ _)=_;rw[LD xs ys]
  show (decide (x=y)&&_)=_;simp[nv]
theorem Wi:∀(a b:KI),oV (ia a) (ia b)=decide (a=b)
 | .inl i,.inl j=>by
  show decide (i=j)=_;by_cases z:i=j
  ·subst z;simp
  ·rw[aT z,aT (λq=>z (by injection q))]
 | .inl i,.inr r=>by rw[aT (by simp)];rfl
 | .inr r,.inl i=>by rw[aT (by simp)];rfl
 | .inr r,.inr q=>by
  show lX (r.map .int) (q.map .int)=_;rw[LD];by_cases z:r=q
  ·subst z;simp
  ·rw[aT z,aT (λq=>z (by injection q))]
theorem NV:∀(a b:List KI),lX (a.map ia) (b.map ia)=decide (a=b)
 |[],[]=>by simp[lX]
 |[],_::_=>by simp[lX]
 |_::_,[]=>by simp[lX]
 |x::xs,y::ys=>by
  rw[aO,aO]
  show (oV (ia x) (ia y)&&lX _ _)=_;rw[NV xs ys,Wi];simp[nv]
theorem F6(a b:NK):oV (r8 a) (r8 b)=decide (a=b):=NV a b
theorem HV(a b:Key):oV (qo a) (qo b)=decide (a=b):=by cases a<;>cases b<;>simp[qo,oV]
theorem Le:∀{ds:List D}{r:List Int},oY ds=some r->ds=r.map .int
 |[],r,h=>by simp[oY]at h;subst h;rfl
 |d::ds,r,h=>by
  cases d with
  |int i=>
   unfold oY at h;cases e:oY ds with
   |none=>rw[e]at h;cases h
   |some q=>
    rw[e]at h;cases h;rw[aO,Le e]
  |_=>cases h
theorem HY:∀{ds:List D}{r:NK},ng ds=some r->ds=r.map ia
 |[],r,h=>by simp[ng]at h;subst h;rfl
 |d::ds,r,h=>by
  cases d with
  |tup xs=>
   unfold ng at h;cases e:oY xs with
   |none=>rw[e]at h;cases h
   |some q=>
    cases c:ng ds with
    |none=>rw[e,c]at h;cases h
    |some q2=>
     rw[e,c]at h;cases h;rw[aO,<- HY c]
     show _=D.tup (q.map .int)::ds;rw[<- Le e]
  |int i=>
   unfold ng at h;cases c:ng ds with
   |none=>rw[c]at h;cases h
   |some q2=>
    rw[c]at h;cases h;rw[aO,<- HY c];rfl
  |_=>cases h
theorem PD{d:D}{r:NK}(h:stK d=some r):d=r8 r:=by
 cases d with
 |tup ds=>show D.tup ds=D.tup _;rw[HY h]
 |_=>cases h
theorem EX{d:D}(h:pk true d=true):∃k,d=r8 k:=by
 cases e:stK d with
 |none=>
  have:pk true d=(stK d).isSome:=by cases d<;>rfl
  rw[this,e]at h;cases h
 |some k=>exact⟨k,PD e⟩
theorem JK{d:D}(h:pk false d=true):∃k,d=qo k:=by
 cases d with
 |int i=>exact⟨.inl i,rfl⟩
 |str x=>exact⟨.inr x,rfl⟩
 |_=>cases h
section
variable{X:Cx}{K:ah}{ρ:List aj}{H:Hp}{st:aX}{ar:List (aj×Obj)}{σ:St}{s:ao}{a b:aj}
theorem Hc{k:Key}{v:V}(r:du K ρ H v (qo k)):v=kV k:=by
 cases k with
 |inl i=>cases r;rfl
 |inr x=>cases r;rfl
abbrev KR(K:ah)(ρ:List aj)(H:Hp):List (Key×V)->List (D×D)->Prop:=eQ λ(p:Key×V)(q:D×D)=>qo p.1=q.1/\du K ρ H p.2 q.2
def RO(K:ah)(ρ:List aj)(H:Hp):Option V->Option D->Prop
 |some v,some d=>du K ρ H v d
 |none,none=>True
 |_,_=>False
theorem RO.some_of{o:Option V}{d:D}(h:RO K ρ H o (some d)):∃v,o=some v/\du K ρ H v d:=by
 cases o with
 |none=>exact h.elim
 |some v=>exact⟨v,rfl,h⟩
theorem RO.isSome_eq{o:Option V}{d:Option D}(h:RO K ρ H o d):o.isSome=d.isSome:=by cases o<;>cases d<;>first|rfl|exact h.elim
theorem KR.val{g:List (Key×V)}{c:List (D×D)}(r:KR K ρ H g c)(k:Key):RO K ρ H (qd g k) (m9 c (qo k)):=by
 induction r with
 |nil=>exact eX
 |@cons p q ps qs h t ih=>
  obtain⟨o,l⟩:=h;unfold m9;rw[cM,<- o,HV];by_cases e:p.1=k
  ·rw[GB e,bV e];exact l
  ·rw[Gm e,aT e];exact ih
theorem KR.any{g:List (Key×V)}{c:List (D×D)}(r:KR K ρ H g c)(k:Key):(g.any λl=>decide (l.1=k))=c.any λp=>oV p.1 (qo k):=by
 induction r with
 |nil=>rfl
 |@cons p q ps qs h t ih=>rw[d9,d9,ih,<- h.1,HV]
theorem KR.put{l:List (Key×V)}{c:List (D×D)}(r:KR K ρ H l c)(k:Key){v:V}{d:D}(g:du K ρ H v d):KR K ρ H (L2.oR l k v) (lN c (qo k) d):=by
 unfold L2.oR lN;rw[r.any k];by_cases e:(c.any λp=>oV p.1 (qo k))=true
 ·rw[aD e,aD e];clear e
  induction r with
  |nil=>exact .nil
  |@cons p q ps qs h t ih=>
   rw[aO,aO];refine .cons ?_ ih;rw[<- h.1,HV];by_cases e:p.1=k
   ·rw[aD e,aD (bV e)];exact⟨rfl,g⟩
   ·rw[aB e,aB (by rw[aT e];exact bv)];exact h
 ·rw[aB e,aB e];exact nF r ⟨rfl,g⟩
theorem KR.up{ρ1:List aj}{h:Hp}(x:Up ρ H ρ1 h){g:List (Key×V)}{c:List (D×D)}(r:KR K ρ H g c):KR K ρ1 h g c:=eQ.mapS r λ_ _ z=>⟨z.1,z.2.up x⟩
theorem KR.length{g:List (Key×V)}{c:List (D×D)}(r:KR K ρ H g c):g.length=c.length:=di r
abbrev NR(K:ah)(ρ:List aj)(H:Hp):List (NK×aj×V)->List (D×D)->Prop:=eQ λ(p:NK×aj×V)(q:D×D)=>r8 p.1=q.1/\du K ρ H (.ref p.2.1) q.1/\du K ρ H p.2.2 q.2
abbrev NX:List (NK×aj×V)->List (NK×aj×af)->Prop:=eQ λ(p:NK×aj×V)(q:NK×aj×af)=>p.1=q.1/\p.2.1=q.2.1/\RelV p.2.2 q.2.2
abbrev AG(X:Cx):uS X.prog X.w NK:=tW X.prog X.w
theorem M2{P:Program}{w:bN}:∀{r:List Int}{c:List V}{l:List af},bJ K ρ H c (r.map .int)->bU c l->ItemsAre (pS P w) r l
 |[],_,_,h,g=>by cases h;cases g;exact .nil
 |i::r,_,_,h,g=>by
  cases h with
  |cons h1 ht=>
   cases h1;cases g with
   |cons g1 gt=>
    obtain⟨t,e⟩:=g1;subst e;exact .cons (by show qx i (gh i t)=true;simp[qx]) (M2 ht gt)
theorem S4{r:List Int}{v:V}{u:af}(I:Inv X ar σ H s)(h:du X.K ρ H v (EI r))(g:RelV v u):∃b,u=.ref b/\Cn (pS X.prog X.w) s.heap r b:=by
 cases h with
 |@tup b vs ds h q=>
  have e:u=bc b:=g;subst e;obtain⟨its,c,⟨o,C,B,n,l⟩,_⟩:=I.tuple h;exact⟨b,rfl,o,its.toArray,n,C,B,l,by simpa using M2 q c⟩
theorem LS(I:Inv X ar σ H s):∀{k:NK}{c:List V}{l:List af},bJ X.K ρ H c (k.map ia)->bU c l->nK X.prog X.w s.heap k l
 |[],_,_,h,g=>by cases h;cases g;exact .nil
 |r::k,_,_,h,g=>by
  cases h with
  |cons h1 ht=>
   cases g with
   |cons g1 gt=>
    refine .cons ?_ (LS I ht gt);cases r with
    |inl i=>
     cases (show du X.K ρ H _ (.int i) from h1);obtain⟨t,e⟩:=g1;subst e;exact .one i t
    |inr r=>
     obtain⟨b,e,o⟩:=S4 I h1 g1;subst e;exact .row o
theorem C0{k:NK}{v:V}{u:af}(I:Inv X ar σ H s)(h:du X.K ρ H v (r8 k))(g:RelV v u):∃b,v=.ref b/\u=.ref b/\(AG X).is s.heap k b:=by
 cases h with
 |@tup b vs ds h q=>
  have e:u=bc b:=g;subst e;obtain⟨its,c,⟨o,C,B,n,l⟩,_⟩:=I.tuple h;exact⟨b,rfl,rfl,o,its.toArray,n,C,B,l,by simpa using LS I q c⟩
theorem yw{v:List (NK×aj×V)}{c:List (D×D)}(I:Inv X ar σ H s)(e:H a=some (iH a v))(r:NR X.K ρ H v c):
  v.length<=sizeLine/\(a == cX)=false/\∃xs,NX v xs/\s.heap.DictOfH (AG X) a xs/\rN s.heap a xs.length:=by
 obtain⟨⟨z,y,xs,E,o,u,ep,C,L,B,J,G,Y⟩,Q,O⟩:=(show eS X.prog X.w H s.heap a (iH a v) from I.hok a _ e)
 subst Y;refine⟨z,y,xs,E,⟨o,u,_,C,L,B,J,?_,G⟩,⟨o,u,C,B⟩⟩;clear C L B J G e z y Q O
 induction E generalizing c with
 |nil=>intro x l;exact nomatch l
 |@cons p q ps qs h t ih=>
  cases r with
  |cons g gt=>
   intro x l;rcases bn.mp l with e|l
   ·subst e;obtain⟨b,c,_,U⟩:=C0 I (by rw[g.1];exact g.2.1) (show RelV (.ref p.2.1) (.ref p.2.1) from rfl);cases c;rw[<- h.1,<- h.2.1];exact U
   ·exact ih gt x l
theorem E5{J:Hp}{h':bK}{P:Program}{w:bN}{q:List (NK×aj×V)}{xs:List (NK×aj×af)}(z:q.length<=sizeLine)(y:(a == cX)=false)(r:NX q xs)(I:h'.DictOfH (tW P w) a xs)(G:rN h' a xs.length):
  eS P w J h' a (iH a q):=by
 obtain⟨o,c,ep,g,h,u,C,_,B⟩:=I;obtain⟨L,E,l,v⟩:=G;rw[g]at l;cases l;rw[u]at v;cases v;refine⟨⟨z,y,xs,r,o,c,_,g,h,u,C,B,rfl⟩,⟨o,g⟩,?_⟩
 rintro l g2 ⟨z,y,xs,r,o,c,ep,g,h⟩ k
 exact⟨z,y,xs,r,o,c,ep,k o g,h⟩
noncomputable def valN(c:List (NK×aj×V))(k:NK):Option V:=(c.find? λp=>decide (p.1=k)).map (·.2.2)
noncomputable def putN(c:List (NK×aj×V))(k:NK)(b:aj)(v:V):List (NK×aj×V):=if (c.any λp=>decide (p.1=k))=true then c.map (λp=>if p.1=k then (p.1,p.2.1,v) else p) else c++[(k,b,v)]
theorem NR.val{g:List (NK×aj×V)}{c:List (D×D)}(r:NR K ρ H g c)(k:NK):RO K ρ H (valN g k) (m9 c (r8 k)):=by
 induction r with
 |nil=>exact eX
 |@cons p q ps qs h t ih=>
  obtain⟨o,_,l⟩:=h;unfold m9 valN;rw[cM,cM,<- o,F6];by_cases e:p.1=k
  ·rw[bV e];exact l
  ·rw[aT e];exact ih
theorem NX.val{c:List (NK×aj×V)}{xs:List (NK×aj×af)}(r:NX c xs)(k:NK):py (valN c k) ((lF xs k).map (·.2)):=by
 induction r with
 |nil=>exact eX
 |@cons p q ps qs h t ih=>
  obtain⟨l,_,g⟩:=h;unfold lF valN;rw[cM,cM,<- l];by_cases e:p.1=k
  ·rw[bV e];exact g
  ·rw[aT e];exact ih
theorem NX.put{g:List (NK×aj×V)}{xs:List (NK×aj×af)}(r:NX g xs)(k:NK)(b:aj){v:V}{u:af}(c:RelV v u):NX (putN g k b v) (lB xs k b u):=by
 have e:(g.any λp=>decide (p.1=k))=(lF xs k).isSome:=by
  clear c
  induction r with
  |nil=>rfl
  |@cons p q ps qs h t ih=>
   rw[d9,ih];unfold lF;rw[cM,<- h.1];by_cases e:p.1=k
   ·rw[bV e];rfl
   ·rw[aT e];rfl
 unfold putN lB;rw[e];by_cases q:(lF xs k).isSome=true
 ·rw[aD q,aD q];clear q e
  induction r with
  |nil=>exact .nil
  |@cons p q ps qs h t ih=>
   rw[aO,aO];refine .cons ?_ ih;unfold tE;by_cases e:p.1=k
   ·rw[aD e,aD (h.1.symm.trans e)];exact⟨h.1,h.2.1,c⟩
   ·rw[aB e,aB (λz=>e (h.1.trans z))];exact h
 ·rw[aB q,aB q];exact nF r ⟨rfl,rfl,c⟩
theorem NR.put{l:List (NK×aj×V)}{c:List (D×D)}(r:NR K ρ H l c)(k:NK)(b:aj){v:V}{d:D}(o:du K ρ H (.ref b) (r8 k))(g:du K ρ H v d):NR K ρ H (putN l k b v) (lN c (r8 k) d):=by
 have e:(l.any λp=>decide (p.1=k))=c.any λp=>oV p.1 (r8 k):=by
  clear o g
  induction r with
  |nil=>rfl
  |@cons p q ps qs h t ih=>rw[d9,d9,ih,<- h.1,F6]
 unfold putN lN;rw[e];clear e;by_cases e:(c.any λp=>oV p.1 (r8 k))=true
 ·rw[aD e,aD e];clear e
  induction r with
  |nil=>exact .nil
  |@cons p q ps qs h t ih=>
   rw[aO,aO];refine .cons ?_ ih;by_cases e:p.1=k
   ·have z:oV q.1 (r8 k)=true:=by rw[<- h.1,F6];exact bV e
    rw[aD e,aD z];exact⟨h.1,h.2.1,g⟩
   ·have z:¬ oV q.1 (r8 k)=true:=by rw[<- h.1,F6,aT e];exact bv
    rw[aB e,aB z];exact h
 ·rw[aB e,aB e];exact nF r ⟨rfl,o,g⟩
theorem NR.up{ρ1:List aj}{h:Hp}(x:Up ρ H ρ1 h){g:List (NK×aj×V)}{c:List (D×D)}(r:NR K ρ H g c):NR K ρ1 h g c:=eQ.mapS r λ_ _ z=>⟨z.1,z.2.1.up x,z.2.2.up x⟩
theorem NR.length{g:List (NK×aj×V)}{c:List (D×D)}(r:NR K ρ H g c):g.length=c.length:=di r
theorem Hu(c:List (NK×aj×V))(k:NK)(b:aj)(v:V):(putN c k b v).length<=c.length+1:=by
 unfold putN;split
 ·rw[ae];ext
 ·rw[aE,bC,iK];ext
theorem Uy{n:Nat}{p:Bool×List (D×D)}{c:aX}(h:getDc n st=.ok p c):c=st/\st[n]?=some (.dct p.1 p.2):=by
 unfold getDc at h;cases e:st[n]? with
 |none=>rw[e]at h;cases h
 |some o=>
  rw[e]at h;cases o with
  |dct b cp=>cases h;exact⟨rfl,rfl⟩
  |_=>cases h
theorem aU.getDc{n:Nat}{R:Bool×List (D×D)->aX->List aj->Hp->Prop}(h:aU K ρ H (MM.getDc n st) R)(s:SR K ρ H st):∃b c,st[n]?=some (.dct b c)/\R (b,c) st ρ H:=by
 cases e:MM.getDc n st with
 |ok xs s'=>
  obtain⟨rfl,q⟩:=Uy e;rw[e]at h;exact⟨xs.1,xs.2,q,h ρ H Ex.refl s⟩
 |exc _ _=>rw[e]at h;exact h.elim
 |bad=>rw[e]at h;exact h.elim
theorem Wm{b:Bool}{C:List (D×D)}{k d:D}{y:V}{u:af}{Q:af->ao->Prop}{E:af->ao->Prop}{A:bH}(hu:A.units+2 < dk)(I:Inv X ar σ H s)(g:nC X.K ρ H a (.dct b C))(Y:du X.K ρ H y k)(hk:pk b k=true)(hl:m9 C k=some d)(U:RelV y u)
  (h:∀v B G,Inv X ar σ H G->du X.K ρ H v d->RelV v B->Q B G):aJ (bb X.prog X.w) A (pT (.ref a) u) Q E s:=by
 cases b with
 |false=>
  obtain⟨es,e,r⟩:=g;obtain⟨k,rfl⟩:=JK hk;cases Hc Y;have q:=KR.val r k;rw[hl]at q;obtain⟨v,O,J⟩:=q.some_of;exact So (by ext) I (by have:=vQ.k (k:=k) e;rw[O]at this;exact this) U λB G I' l=>h v B G I' J l
 |true=>
  obtain⟨es,e,r⟩:=g;obtain⟨k,rfl⟩:=EX hk;have q:=NR.val r k;rw[hl]at q;obtain⟨v,O,J⟩:=q.some_of;obtain⟨_,hd,xs,rx,dd,de⟩:=yw I e r;obtain⟨c,e2,e3,hc⟩:=C0 I Y U;subst e3;obtain⟨B,hw,l⟩:=py.some_of (v:=v) (o:=(lF xs k).map (·.2)) (by rw[<- O];exact NX.val rx k);obtain⟨p,hp,L⟩:=dH.mp hw;refine Cm (knd:=AG X) (show A.in1.units+1 < dk from hu) hc dd hp ?_;rw[L];exact h v B _ (I.tok _) J l
theorem Xb{b:Bool}{l:List (D×D)}{k:D}{y:V}{u:af}{Q:af->ao->Prop}{E:af->ao->Prop}{A:bH}(hu:A.units+2 < dk)(I:Inv X ar σ H s)(g:nC X.K ρ H a (.dct b l))(B:du X.K ρ H y k)(C:pk b k=true)(v:RelV y u)
  (h:∀o,Inv X ar σ H o->Q (.bool (!(m9 l k).isSome)) o):aJ (bb X.prog X.w) A (dB .NotIn u (.ref a)) Q E s:=by
 cases b with
 |false=>
  obtain⟨L,e,r⟩:=g;obtain⟨k,rfl⟩:=JK C;cases Hc B;rw[<- (KR.val r k).isSome_eq]at h;exact RB (by ext) I (vQ.k (k:=k) e) v h
 |true=>
  obtain⟨L,e,r⟩:=g;obtain⟨k,rfl⟩:=EX C;rw[<- (NR.val r k).isSome_eq]at h;obtain⟨_,hd,xs,G,U,de⟩:=yw I e r;obtain⟨c,Y,O,J⟩:=C0 I B v;subst O;refine FS (knd:=AG X) (show A.in1.units+1 < dk from hu) J hd U ?_;have q:=(NX.val G k).isSome_eq;rw[lP]at q;rw[<- q];exact h _ (I.tok _)
theorem RE{n:Nat}{b:Bool}{l:List (D×D)}{k d:D}{y v:V}{u r':af}{Q:Unit->ao->Prop}{E:af->ao->Prop}{A:bH}(hu:A.units+2 < dk)(I:Inv X ar σ H s)(sr:SR X.K ρ H st)(U:ρ[n]?=some a)(hn:st[n]?=some (.dct b l))
  (L:du X.K ρ H y k) (hk:pk b k=true) (hl:l.length < sizeLine) (rv:du X.K ρ H v d) (ry:RelV y u) (rr:RelV v r')
  (h:∀H' G,Inv X ar σ H' G->SR X.K ρ H' (st.set n (.dct b (lN l k d)))->Ex ρ H ρ H'->Q () G):aJ (bb X.prog X.w) A (oy (.ref a) u r') Q E s:=by
 have B:=(ac.mp hn).1;have g:=sr.ob n a _ U hn;cases b with
 |false=>
  obtain⟨J,e,r⟩:=g;obtain⟨k,rfl⟩:=JK hk;cases Hc L;have w:=sr.putO (o':=.dct false (lN l (qo k) d)) (u':=.dK (L2.oR J k v)) B U e (by show (1:Nat)≠3;decide) rfl ⟨_,ky,(KR.put r k rv).up ?_⟩
  ·exact Wy (by ext) I (zw.k (k:=k) e (by rw[KR.length r];exact hl)) ry rr λG c=>h _ G c w.1 w.2
  ·refine⟨⟨[],by simp⟩,λc o O q=>?_,λc o q=>?_⟩
   ·rw[fZ λz=>by subst z;rw[e]at q;cases q;exact nomatch O];exact q
   ·by_cases z:c=a
    ·subst z;rw[e]at q;cases q;exact⟨_,ky,rfl⟩
    ·exact⟨o,by rw[fZ z];exact q,rfl⟩
 |true=>
  obtain⟨J,e,r⟩:=g;obtain⟨k,rfl⟩:=EX hk;obtain⟨_,hd,xs,rx,dd,de⟩:=yw I e r;obtain⟨c,e2,e3,hc⟩:=C0 I L ry;subst e2 e3;have w:=sr.putO (o':=.dct true (lN l (r8 k) d)) (u':=iH a (putN J k c v)) B U e (by show (2:Nat)≠3;decide) rfl ⟨_,ky,(NR.put r k c L rv).up ?_⟩
  ·have hz : xs.length <= sizeLine := by rw[<- di rx,NR.length r];ext
   refine Wr (knd:=AG X) (show A.in1.units+1 < dk from hu) hc dd de hz λh' C Y g=>h _ _ ?_ w.1 w.2;have l:∃q,h'.get? a=some q:=let ⟨q,_,_,hq,_⟩:=C;⟨q,hq⟩
   refine FK I (by rw[e];exact eX) g l (E5 ?_ hd (NX.put rx k c rr) C Y);have:=Hu J k c v;rw[NR.length r]at this;ext
  ·refine⟨⟨[],by simp⟩,λc o O q=>?_,λc o q=>?_⟩
   ·rw[fZ λz=>by subst z;rw[e]at q;cases q;exact nomatch O];exact q
   ·by_cases z:c=a
    ·subst z;rw[e]at q;cases q;exact⟨_,ky,rfl⟩
    ·exact⟨o,by rw[fZ z];exact q,rfl⟩
end
noncomputable abbrev zy:af->ao->Prop:=λ_ _=>False
noncomputable def zS(g:List Expr)(env:Env):Sem Bool:=forIn g true λc r=>if r=true then do let ok <- isTrue c env (eval c env);pure (mj ok) else pure (mj r)
section
variable{prog:Program}{w:bN}{A:bH}{R:Result->ao->Prop}{s:ao}
theorem Xl{l c iter:Expr}{g:List Expr}{scope:dD}{pos:Pos}{u o:af}{env:Env}(I:Nat->ao->Prop)
  (q:∀n s,I n s->aJ (bb prog w) A (iU u) (λr s₁=>match r with
   |none=>R (.ok .next) s₁
   |some v => aJ (bb prog w) A (oI c u v) (λ_ s₁' => aJ (bb prog w) A (ox c env v) (λ_ s₂ =>
     aJ (bb prog w) A (zS g env) (λok s₃=>
      if ok=true then aJ (bb prog w) A (eval l env) (λx s₄=>
       aJ (bb prog w) A (call (.builtin "list.append") [o,x]) (λ_ s₅=>∃m,m < n/\I m s₅) zy s₄) zy s₃
      else ∃m,m < n/\I m s₃) zy s₂) zy s₁') zy s₁) zy s)
  (n:Nat) (h:I n s):ke (bb prog w) A (.compLoop (.ListComp l [⟨c,iter,g,0⟩] scope pos) 0 u o env) R s:=by
 refine codeAny_loop rfl I (λn s B=>?_) n h
 show aJ _ A ((compTurn (.ListComp l [⟨c,iter,g,0⟩] scope pos) 0 u o env).onRaise (λx=>do noteFrame x env;theTreesLotGoes x)) _ _ s;refine wpAny_noted ?_;rw[compTurn_list];refine ab (vX (ab (gQ (q n s B) (λr s₁ h₁=>?_) λ_ _ h'=>h'.elim)));cases r with
 |none=>exact au h₁
 |some v=>
  refine ab (gQ h₁ (λ_ s₁' h₁'=>?_) λ_ _ h'=>h'.elim);refine ab (gQ h₁' (λ_ s₂ h₂=>ab (gQ h₂ (λok s₃ h₃=>?_) λ_ _ h'=>h'.elim)) λ_ _ h'=>h'.elim);cases ok with
  |false=>exact au ⟨rfl,h₃⟩
  |true=>
   exact ab (ab (gQ h₃ (λx s₄ h₄=>ab (gQ h₄ (λ_ s₅ h₅=>au (au ⟨rfl,h₅⟩)) λ_ _ h'=>h'.elim)) λ_ _ h'=>h'.elim))
end
noncomputable def iQ:List (Str×dE)->List (Str×aj)->List (Str×aj)->List (Str×aj)
 |[],_,acc=>acc
 | (n,k)::r,cells,acc=>iQ r cells (if k == .free then (match cells.lookup n with|some c=>(n,c)::acc|none=>acc) else acc)
theorem Iq{env:Env}: ∀(names:List (Str×dE))(acc:List (Str×aj)),(∀x,(x,bI)∈names->∃c,env.cells.lookup x=some c) ->
  (forIn names acc λ(x:Str×dE)r=>if (x.2 == bI)=true then (do let a <- cellOf env x.1;pure (mj ((x.1,a)::r)):Sem _) else pure (mj r))=(pure (iQ names env.cells acc):Sem _)
 |[],acc,_=>rfl
 | (n,k)::r,acc,h=>by
  rw[nw];by_cases l:(k == bI)=true
  ·have e:k=.free:=by simpa using l
   subst e;obtain⟨c,o⟩:=h n cE;have q:cellOf env n=pure c:=by unfold cellOf;rw[o]
   simp only[beq_self_eq_true,if_true,q];unfold iQ;simp only[beq_self_eq_true,if_true,o];exact Iq r ((n,c)::acc) λx g=>h x (bD _ g)
  ·simp only[l,if_false];unfold iQ;simp only[l,if_false];exact Iq r acc λx g=>h x (bD _ g)
theorem Ov{scope:dD}{env:Env}(h:∀x,(x,bI)∈scope.names->∃c,env.cells.lookup x=some c):uT scope env=pure (iQ scope.names env.cells []):=by have q:=Iq (env:=env) scope.names [] h;simp only[uT];exact cC (λm=>m >>= λg=>pure g) q
theorem vN{α:Type}{x y:Str}{v:α}{r:List (Str × α)}(h:x≠y):FW x ((y,v)::r)=r.lookup x:=by rw[kG];have:(x == y)=false:=beq_eq_false_iff_ne.mpr h;rw[this]
theorem lookup_cons_self{α:Type}{x:Str}{v:α}{r:List (Str × α)}:FW x ((x,v)::r)=some v:=by rw[kG,beq_self_eq_true]
theorem vk{cells:List (Str×aj)}{x:Str}{c:aj}:∀(names:List (Str×dE))(acc:List (Str×aj)),(iQ names cells acc).lookup x=some c->cells.lookup x=some c\/acc.lookup x=some c
 |[],acc,h=>.inr h
 | (n,k)::r,acc,h=>by
  unfold iQ at h;rcases vk r _ h with q|q
  ·exact .inl q
  ·split at q
   ·split at q
    ·rename_i o l;by_cases g:x=n
     ·subst g;rw[lookup_cons_self]at q;cases q;exact .inl l
     ·rw[vN g]at q;exact .inr q
    ·exact .inr q
   ·exact .inr q
theorem D9{cells:List (Str×aj)}{x:Str}{c:aj}(l:cells.lookup x=some c):∀(names:List (Str×dE))(acc:List (Str×aj)),((x,bI)∈names\/acc.lookup x=some c)->(∀d,acc.lookup x=some d->d=c)->(iQ names cells acc).lookup x=some c
 |[],acc,h,_=>by
  rcases h with h|h
  ·cases h
  ·exact h
 | (n,k)::r,acc,h,ha=>by
  unfold iQ;by_cases o:x=n
  ·subst o;by_cases q:(k == bI)=true
   ·rw[aD q,l];exact D9 l r _ (.inr lookup_cons_self) λd hd=>by rw[lookup_cons_self]at hd;cases hd;rfl
   ·rw[aB q];refine D9 l r _ ?_ ha;rcases h with h|h
    ·rcases bn.mp h with e|e
     ·cases e;exact bq rfl q
     ·exact .inl e
    ·exact .inr h
  ·have step : ∀g, g.lookup x = acc.lookup x -> (iQ r cells g).lookup x = some c := λg e => by
     refine D9 l r g ?_ (by rw[e];exact ha);rcases h with h|h
     ·rcases bn.mp h with z|z
      ·cases z;exact bq rfl o
      ·exact .inl z
     ·exact .inr (by rw[e];exact h)
   refine step _ ?_;split
   ·split
    ·exact vN o
    ·rfl
   ·rfl
theorem kQ{x:Str}{c:aj}:∀(names:List (Str×dE))(n:Nat)(acc:List (Str×aj)),(bM n names acc).lookup x=some c->n<=c\/acc.lookup x=some c
 |[],_,_,h=>.inr h
 | (y,k)::r,n,acc,h=>by
  unfold bM at h;split at h
  ·rcases kQ r (n+1) _ h with q|q
   ·exact .inl (by ext)
   ·by_cases g:x=y
    ·subst g;rw[lookup_cons_self]at q;cases q;exact .inl (ay _)
    ·rw[vN g]at q;exact .inr q
  ·exact kQ r n acc h
theorem JP: ∀(names:List (Str×dE))(n:Nat)(acc:List (Str×aj)),(∀x y c,acc.lookup x=some c->acc.lookup y=some c->x=y)->(∀x c,acc.lookup x=some c->c < n) ->
  ∀x y c,(bM n names acc).lookup x=some c->(bM n names acc).lookup y=some c->x=y
 |[],_,_,hi,_=>hi
 | (z,k)::r,n,acc,hi,hb=>by
  unfold bM;split
  ·refine JP r (n+1) _ (λx y c q g=>?_) (λx c h=>?_)
   ·by_cases o:x=z
    ·subst o;rw[lookup_cons_self]at q;cases q;by_cases l:y=x
     ·exact l.symm
     ·rw[vN l]at g;exact bq (hb y _ g) (cn _)
    ·rw[vN o]at q;by_cases l:y=z
     ·subst l;rw[lookup_cons_self]at g;cases g;exact bq (hb x _ q) (cn _)
     ·rw[vN l]at g;exact hi x y c q g
   ·by_cases o:x=z
    ·subst o;rw[lookup_cons_self]at h;cases h;exact kK _
    ·rw[vN o]at h;exact ml (hb x c h)
  ·exact JP r n acc hi hb
theorem kZ{x:Str}{c:aj}:∀(names:List (Str×dE))(h:bK)(acc:List (Str×aj)),(bM h.objs.size names acc).lookup x=some c->acc.lookup x=some c\/((wB h names).IsCell c none/\h.objs.size<=c)
 |[],_,_,q=>.inl q
 | (y,k)::r,h,acc,q=>by
  unfold bM at q;unfold wB;split at q
  ·rename_i g;rw[aD g];rw[<- cq h { cls:=.type "cell",data:=.cell none }]at q;rcases kZ r _ _ q with z|z
   ·by_cases l:x=y
    ·subst l;rw[lookup_cons_self]at z;cases z;refine .inr ⟨?_,ay _⟩;refine⟨{ cls:=.type "cell",data:=.cell none },lR r _ _ _ (aF _ rfl),rfl⟩
    ·rw[vN l]at z;exact .inl z
   ·refine .inr ⟨z.1,?_⟩;have:=z.2;rw[cq]at this;ext
  ·rename_i g;rw[aB g];exact kZ r h acc q
theorem Lb{x:Str}:∀(names:List (Str×dE))(n:Nat)(acc:List (Str×aj)),(x,fC)∉names->(bM n names acc).lookup x=acc.lookup x
 |[],_,_,_=>rfl
 | (y,k)::r,n,acc,h=>by
  unfold bM;split
  ·rename_i g;have e:k=.cell:=by simpa using g
   subst e;have c:x≠y:=λz=>h (by rw[z];exact cE);rw[Lb r (n+1) _ λz=>h (bD _ z),vN c]
  ·exact Lb r n acc λz=>h (bD _ z)
theorem Oz{α β:Type}(f:Str->α->β)(x:Str):∀(l:List (Str × α)),(l.map λp=>(p.1,f p.1 p.2)).lookup x=(l.lookup x).map (f x)
 |[]=>rfl
 | (y,v)::r=>by
  by_cases c:x=y
  ·subst c;rw[aO,lookup_cons_self,lookup_cons_self];rfl
  ·rw[aO,vN c,vN c];exact Oz f x r
theorem CZ(scope:dD)(env:Env)(x:Str):
  (kg scope env).names.lookup x=(scope.names.lookup x).map λk=>if (k == bI&&env.scope.kind == .function&&env.kindOf x == some .cell)=true then .cell else k:=by
 have e:(kg scope env).names=scope.names.map λp=>(p.1,(λ(n:Str)k=>if (k == bI&&env.scope.kind == .function&&env.kindOf n == some .cell)=true then fC else k) p.1 p.2):=by show scope.names.map _=_;congr 1;funext p;obtain⟨n,k⟩:=p;dsimp only;split<;>rfl
 rw[e];exact Oz (λ(n:Str)k=>if (k == bI&&env.scope.kind == .function&&env.kindOf n == some .cell)=true then fC else k) x scope.names
theorem Xk{M:C4}{A:bH}{E:af->ao->Prop}{s:ao}{scope:dD}{globals:aj}{cl:List (Str×aj)}{qual:Str}{env:Env}{Q:Env->ao->Prop}
  (h:Q { scope:=scope,locals:=s.heap.objs.size,globals:=globals,cells:=bM (s.heap.objs.size+1) scope.names cl,qual:=qual,func:=none,code:=env.code,frame:=env.frame,builtins:=env.builtins }
   { s with heap:=wB (s.heap.push { cls:=.type "dict",data:=.dict #[] }) scope.names }):aJ M A (pH scope globals cl [] qual none .none (some env)) Q E s:=by
 simp only[pH,oJ,if_true];refine ab (wpAny_alloc ?_);refine ab (wpAny_layCells _ (λname kind cells=>by cases c:kind == fC<;>simp[c]) _ _ _ _ ?_);rw[show ({ s with heap:=s.heap.push { cls:=.type "dict",data:=.dict #[] } }:ao).heap.objs.size=s.heap.objs.size+1 from cq ..];exact ab (au (au h))
def oG(X:Cx)(N:List Str)(scope:dD)(fp:List aj)(s:ao)(H:Hp):Cx where
 prog:=X.prog
 w:=X.w
 K:=X.K
 mg:=X.mg
 base:=X.base
 A:=X.A
 N:=N
 s₀:=s
 H₀:=H
 env:=compEnvC scope (bM (s.heap.objs.size+1) scope.names (iQ scope.names X.env.cells [])) s.heap.objs.size X.env
 outer:=X.stack
 stack:=X.stack
 ex:=fp
 fn:=λx=>decide (scope.names.lookup x=some .local\/scope.names.lookup x=some .cell)
 calm:=X.calm
 pn:=[]
 xe:=zy
structure g9(X:Cx)(scope:dD):Prop where
 kind:scope.kind=.function
 names:∀x∈scope.names,x.2=.local->scope.names.lookup x.1=some .local
 free:∀x,(x,bI)∈scope.names->X.env.kindOf x=some .cell\/X.env.kindOf x=some .free
 once:∀x,(x,bI)∈scope.names->(x,fC)∉scope.names
 own:∀x,(x,bI)∈scope.names->scope.names.lookup x≠some .local
noncomputable def yJ(n:Nat)(ix:List Nat)(σ:St):St:=aP n none++ix.map λi=>(σ[i]?).join
structure kn(X:Cx)(scope:dD)(N:List Str)(n:Nat)(ix:List Nat):Prop where
 len:N.length=n+ix.length
 cap:∀(j i:Nat)(x:Str),ix[j]?=some i->N[n+j]?=some x->X.N[i]?=some x/\scope.names.lookup x=some .free
theorem tV{cells:List (Str×aj)}{x:Str}{c:aj}:∀(names:List (Str×dE))(acc:List (Str×aj)),(iQ names cells acc).lookup x=some c->(x,bI)∈names\/acc.lookup x=some c
 |[],acc,h=>.inr h
 | (n,k)::r,acc,h=>by
  unfold iQ at h;rcases tV r _ h with q|q
  ·exact .inl (bD _ q)
  ·split at q
   ·rename_i l;have e:k=.free:=by simpa using l
    subst e;split at q
    ·by_cases g:x=n
     ·subst g;exact .inl cE
     ·rw[vN g]at q;exact .inr q
    ·exact .inr q
   ·exact .inr q
theorem WK{X:Cx}{scope:dD}{cells:List (Str×aj)}{x:Str}{c:aj}(h:(iQ scope.names cells []).lookup x=some c)(g:scope.names.lookup x=some .local\/scope.names.lookup x=some .cell)(S:g9 X scope):False:=by
 rcases tV _ _ h with q|q
 ·rcases g with z|z
  ·exact S.own x q z
  ·exact S.once x q (aW z)
 ·cases q
section
variable{X:Cx}{ar:List (aj×Obj)}{σ:St}{H:Hp}{s:ao}{scope:dD}{N:List Str}{fp:List aj}
theorem EY(I:Inv X ar σ H s){x:Str}{c:aj}(h:(iQ scope.names X.env.cells []).lookup x=some c):X.env.cells.lookup x=some c/\c < s.heap.objs.size/\(∃v,s.heap.IsCell c v)/\H c=none:=by
 rcases vk _ _ h with q|q
 ·obtain⟨v,z⟩:=I.cell x c q;exact⟨q,z.lt,⟨v,z⟩,I.freeC x c q⟩
 ·cases q
theorem TN(I:Inv X ar σ H s)(S:g9 X scope)(l:∀b∈fp,pC X ar H b)(B:∀b∈fp,b < s.heap.objs.size):(oG X N scope fp s H).Ok:=by
 have inj:∀x y c,(bM (s.heap.objs.size+1) scope.names (iQ scope.names X.env.cells [])).lookup x=some c->(bM (s.heap.objs.size+1) scope.names (iQ scope.names X.env.cells [])).lookup y=some c->x=y:=
  JP scope.names _ _ (λx y c h1 h2=>I.ok.inj x y c (EY I h1).1 (EY I h2).1) λx c h=>ml (EY I h).2.1
 refine⟨I.ok.mod,S.kind,I.ok.glob,I.ok.blt,ay _,inj,λx hx=>?_,λx c hf C=>?_,I.ok.hd,I.ok.frames,.inl rfl,λb v=>?_,I.bs,bZ I.ok.bsz I.sz,λb o e v=>?_,λb v z=>?_,I.stack,I.stkFree⟩
 ·have g:(kg scope X.env).names.lookup x=some .cell\/(kg scope X.env).names.lookup x=some .free:=hx;rw[CZ]at g;cases e:scope.names.lookup x with
  |none=>rw[e]at g;rcases g with z|z<;>cases z
  |some k=>
   refine lV.mp (iV scope.names _ _ ?_);cases k with
   |cell=>exact .inl e
   |free=>
    have Q:=aW e;obtain⟨c,C⟩:=I.ok.has x (S.free x Q);exact .inr (by rw[D9 C scope.names [] (.inl Q) λd hd=>by cases hd];rfl)
   |_=>
    rw[e]at g;rcases g with z|z<;>(simp at z)
 ·have u:(bM (s.heap.objs.size+1) scope.names (iQ scope.names X.env.cells [])).lookup x=some c:=C;rcases kQ _ _ _ u with q|q
  ·exact Nat.le_of_succ_le q
  ·exfalso
   have E:scope.names.lookup x=some .local\/scope.names.lookup x=some .cell:=of_decide_eq_true hf;exact WK q E S
 ·obtain⟨Y,O,L,J,G,U⟩:=l b v;refine⟨bz (B b v),λx c C z=>?_⟩;have u:(bM (s.heap.objs.size+1) scope.names (iQ scope.names X.env.cells [])).lookup x=some c:=C;rcases kQ _ _ _ u with q|q
  ·rw[z]at q;exact bq (a_ (ml (B b v)) q) (cn _)
  ·exact G x c (EY I q).1 z
 ·obtain⟨Y,O,L,J,G,U⟩:=l b v;rcases J with z|z
  ·exact I.ok.noex b o e z
  ·exact bq (a_ (a_ (aK e) I.ok.bsz) z) (cn _)
 ·obtain⟨Y,O,L,J,G,U⟩:=l b v;rcases bn.mp (I.stkSub b z) with q|q
  ·exact O q
  ·exact L q
noncomputable abbrev qM(h:bK)(scope:dD):bK:=wB (h.push { cls:=.type "dict",data:=.dict #[] }) scope.names
theorem LI(h:bK)(scope:dD):∀b o,h.get? b=some o->(qM h scope).get? b=some o:=λb o e=>lR _ _ b o (aq _ e)
theorem VC{n:Nat}{ix:List Nat}(I:Inv X ar σ H s)(S:g9 X scope)(T:kn X scope N n ix)(O:∀b∈fp,pC X ar H b)(L:∀b∈fp,b < s.heap.objs.size):
  Inv (oG X N scope fp s H) [] (yJ n ix σ) H { s with heap:=qM s.heap scope }:=by
 have B:=LI s.heap scope;have G:(qM s.heap scope).Ns s.heap.objs.size λ_=>none:=(Al s.heap (.type "dict")).keeps (lR _ _);have cells : ∀x c, (bM (s.heap.objs.size+1) scope.names (iQ scope.names X.env.cells [])).lookup x = some c ->
   (∃v,(qM s.heap scope).IsCell c v)/\H c=none:=λx c h=>by
  have h':(bM (s.heap.push { cls:=.type "dict",data:=.dict #[] }).objs.size scope.names (iQ scope.names X.env.cells [])).lookup x=some c:=by rw[cq];exact h
  rcases kZ _ _ _ h' with q|⟨q,z⟩
  ·obtain⟨_,_,⟨v,c⟩,hn⟩:=EY I q;exact⟨⟨v,c.keeps B⟩,hn⟩
  ·refine⟨⟨none,q⟩,I.hok.fresh ?_⟩;rw[cq]at z;ext
 refine⟨TN I S O L,rfl,I.bare,Un.kept B,⟨_,G,λi x v h1 h2 h3=>?_⟩,λx c h=>(cells x c h).1,I.hok.fresh (ay _),λx c h=>(cells x c h).2,λp hp=>bq (show p∈([]:List (aj×Obj)) from hp) (by simp),I.hok.kept B,?_⟩
 ·have U:N[i]?=some x:=h1;have g:(aP n none++ix.map λi=>(σ[i]?).join)[i]?=some (some v):=h2;have hi:n<=i:=ra λz=>by rw[av (by simpa using z),fw]at g;split at g<;>cases g
  rw[aM (by simpa using hi),eU,ak]at g;cases e:ix[i-n]? with
  |none=>rw[e]at g;cases g
  |some k=>
   rw[e]at g;have C:(σ[k]?).join=some v:=aG g;have O:σ[k]?=some (some v):=by
    cases q:σ[k]? with
    |none=>rw[q]at C;cases C
    |some o=>rw[q]at C;exact cC some C
   obtain⟨hN,l⟩:=T.cap (i-n) k x e (by rw[show n+(i-n)=i by ext];exact U);have J:=aW l;have Y:=S.free x J;obtain⟨m,hn,L⟩:=I.loc;obtain⟨u,G,H⟩:=L k x v hN O (by
    rcases Y with z|z
    ·exact .inr (.inl z)
    ·exact .inr (.inr z))
   have E:∃c,X.env.cells.lookup x=some c/\s.heap.IsCell c (some u):=by
    rcases H with ⟨z,_⟩|⟨_,c,Q,q⟩
    ·rcases Y with y|y<;>(rw[y]at z;cases z)
    ·exact⟨c,Q,q⟩
   obtain⟨c,Q,q⟩:=E;refine⟨u,G,.inr ⟨?_,c,?_,q.keeps B⟩⟩
   ·show (kg scope X.env).names.lookup x=some .cell\/(kg scope X.env).names.lookup x=some .free;rw[CZ,l,cI];by_cases h:(bI == bI&&X.env.scope.kind == .function&&X.env.kindOf x == some .cell)=true
    ·rw[aD h];exact .inl rfl
    ·rw[aB h];exact .inr rfl
   ·show (bM (s.heap.objs.size+1) scope.names (iQ scope.names X.env.cells [])).lookup x=some c;rw[Lb _ _ _ (S.once x J)];exact D9 Q scope.names [] (.inl J) λd hd=>by cases hd
 ·show (aP n none++ix.map λi=>(σ[i]?).join).length=N.length;rw[aE,eU,ae,T.len]
def vh(C:TI)(n:Nat)(ix:List Nat)(g:TG)(E:TT)(G:TE):TE:=λσ H Q=>C σ H λJ B=>∀l,B l=none->∃W:Nat->Nat->St->Hp->Prop,(∃m,W 0 m (yJ n ix σ) (fJ B l (.lst []))) /\
 ∀i m σ' h,W i m σ' h->(J.stop i h/\Q (.ref l) h)\/(J.go i h/\∀x u,J.yld i h x u->g x σ' u λσ2 I=>E σ2 I λb q=>
  if b=true then G σ2 q λv o=>∃ys,o l=some (.lst ys)/\ys.length < sizeLine/\∃c,c < m/\W (i+1) c σ2 (fJ o l (.lst (ys++[v]))) else ∃c,c < m/\W (i+1) c σ2 q)
def vI(X:Cx)(c:List Expr)(g:TT):Prop:=
 ∀(ar:List (aj×Obj))(s:ao)(σ:St)(H:Hp)(Q:Bool->Hp->Prop),Inv X ar σ H s->g σ H Q->aJ (bb X.prog X.w) X.A (zS c X.env) (TP X ar σ Q) X.xe s
theorem Tv:vI X [] (λ_ H Q=>Q true H):=λar s σ H Q I h=>wpAny_tests_nil ⟨H,I,h⟩
theorem P8{c:Expr}{g:TT}(h:PT X c g):vI X [c] g:=λar s σ H Q I q=>wpAny_tests_one (h ar s σ H Q I q)
structure vc(X:Cx)(ar:List (aj×Obj))(C:aj)(H:Hp)(s:ao):Prop where
 ns:∃m,s.heap.Ns C m
 free:H C=none
 loc:C≠X.env.locals
 cell:∀x c,X.env.cells.lookup x=some c->c≠C
 sz:X.s₀.heap.objs.size<=C
 pin:∀p∈X.pn++ar,p.1≠C
theorem vc.go{C:aj}{h':bK}(c:vc X ar C H s)(I:Inv X ar σ H s)(g:cO C s.heap h'):Inv X ar σ H { s with heap:=h' }:=
 I.turned (t':=s.toks) (λb o h e=>(g.2 b h).trans e) c.free c.loc (.inr c.sz) c.cell c.pin
theorem LH{elt B iter:Expr}{ifs:List Expr}{pos:Pos}{n:Nat}{ix:List Nat}{wi:TI}{g:TG}{tt:TT}{te:TE}{use:Option (af->Sem Unit)}{Q:af->ao->Prop}{QH:VK}
  (hc:X.calm=true) (S:g9 X scope) (T:kn X scope N n ix) (hi:PI X B iter wi)
  (blk:∀(fp:List aj)(s:ao)(H:Hp),PG (oG X N scope fp s H) B g/\vI (oG X N scope fp s H) ifs tt/\PE (oG X N scope fp s H) elt te)
  (hs:∀x,fE iter X.env x=pure x) (I:Inv X ar σ H s) (h:vh wi n ix g tt te σ H QH)
  (fin:∀(l C:aj)(G:Hp)(Y:ao),Inv X ar σ G Y->QH (.ref l) G->vc X ar C G Y->compPost (bb X.prog X.w) X.A X.xe use Q (.ref l) C (.ok .next) Y):
  aJ (bb X.prog X.w) X.A (comprehension (.ListComp elt [⟨B,iter,ifs,0⟩] scope pos) scope X.env (firstIterPos [⟨B,iter,ifs,0⟩] pos) (newList []) false (eval iter X.env) use) Q X.xe s:=by
 have hclos:uT scope X.env=pure (iQ scope.names X.env.cells []):=Ov λx hx=>I.ok.has x (S.free x hx);refine wpAny_comprehension_free rfl hs hclos S.kind S.names ?_;refine gg (hi ar s σ H _ I h) λv s1 h1=>gg h1 λitv U h2=>?_;obtain⟨it,fp,tn,J,H2,rfl,I2,TT,st2,f2,rest⟩:=h2;refine cg (hd:=by size_fits) ?_;have hf2:H2 U.heap.objs.size=none:=I2.hok.fresh (ay _);obtain⟨W,⟨m0,w0⟩,turn⟩:=rest _ hf2;have fl:∀b∈fp,b < U.heap.objs.size:=λb E=>by obtain⟨o,e,_⟩:=TT.obj _ _ st2 b E;exact aK e
 have f3:∀b∈fp,pC X ar (fJ H2 U.heap.objs.size (.lst [])) b:=λb E=>by obtain⟨f0,fr⟩:=f2 b E;refine⟨?_,fr⟩;rw[fZ (bz (fl b E))];exact f0
 have I3:Inv X ar σ (fJ H2 U.heap.objs.size (.lst [])) { U with heap:=U.heap.push { cls:=.type "list",dict:=none,data:=.seq ([]:List af).toArray } }:=
  I2.laid (t':=U.toks) (λb o e=>aq _ e) (ay _) ⟨bY _,[],0,.nil,aF _ rfl⟩
 have tn3:tn 0 (U.heap.push { cls:=.type "list",dict:=none,data:=.seq ([]:List af).toArray }):=TT.keep _ _ _ st2 λb E o e=>aq _ e;have fl3:∀b∈fp,b < (U.heap.push { cls:=.type "list",dict:=none,data:=.seq ([]:List af).toArray }).objs.size:=λb E=>by rw[cq];exact ml (fl b E)
 generalize U.heap.objs.size=l at *;generalize hs3:({ U with heap:=U.heap.push { cls:=.type "list",dict:=none,data:=.seq ([]:List af).toArray } }:ao)=L at *;have e3:U.heap.push { cls:=.type "list",dict:=none,data:=.seq ([]:List af).toArray }=L.heap:=by rw[<- hs3]
 rw[e3]at tn3 fl3;generalize fJ H2 l (.lst [])=O at *;refine Xk ?_;have I4:=VC (N:=N) (n:=n) (ix:=ix) I3 S T f3 fl3;obtain⟨bg,bt,be⟩:=blk fp L O;have tn4:tn 0 (qM L.heap scope):=TT.keep _ _ _ tn3 λb E o e=>LI _ _ _ _ e;have fr4:∀b∈fp,O b=none:=λb E=>(f3 b E).1
 show ke (bb X.prog X.w) X.A (.compStart (.ListComp elt [⟨B,iter,ifs,0⟩] scope pos) 0 (.ref it) (.ref l) (oG X N scope fp L O).env) (compPost (bb X.prog X.w) X.A X.xe use Q (.ref l) L.heap.objs.size) { L with heap:=qM L.heap scope };have fpx:∀{σ':St}{G:Hp}{Y:ao},Inv (oG X N scope fp L O) [] σ' G Y->(∀b∈fp,G b=none)->∀b∈fp,pC (oG X N scope fp L O) [] G b:=λI' hn b E=>by have q:=I'.ok.exf b E;exact⟨hn b E,q.1,I'.ok.exfs b E,.inl E,q.2,λp hp=>bq (show p∈([]:List (aj×Obj)) from hp) (by simp)⟩
 have hc':(oG X N scope fp L O).calm=true:=hc;have loop:ke (bb X.prog X.w) X.A (.compLoop (.ListComp elt [⟨B,iter,ifs,0⟩] scope pos) 0 (.ref it) (.ref l) (oG X N scope fp L O).env) (compPost (bb X.prog X.w) X.A X.xe use Q (.ref l) L.heap.objs.size) { L with heap:=qM L.heap scope }:=by
  refine Xl (λk Y=>∃i σ' G,Inv (oG X N scope fp L O) [] σ' G Y/\tn i Y.heap/\(∀b∈fp,G b=none)/\W i k σ' G) ?_ m0 ⟨0,_,O,I4,tn4,fr4,w0⟩
  rintro k s5 ⟨i,σ5,H5,I5,tn5,fr5,w5⟩
  rcases turn i k σ5 H5 w5 with ⟨stop,q⟩|⟨go,step⟩
  ·refine gg (TT.done (oG X N scope fp L O) rfl rfl rfl hc' i [] s5 σ5 H5 zy I5 (fpx I5 fr5) tn5 stop) λr s6 h=>?_;obtain⟨hr,g⟩:=h;subst hr;have G:Inv X ar σ H5 s6:=I3.call' g.os g.base g.hok g.bare λb E=>by obtain⟨I,C,H,B,u,o⟩:=f3 b E;exact⟨B,C,u,o⟩
   obtain⟨m,hn,_⟩:=g.loc;refine fin l L.heap.objs.size H5 s6 G q ⟨⟨m,hn⟩,g.free,eE I3.lt,λx c e=>?_,I3.sz,λp hp=>?_⟩
   ·obtain⟨v,z⟩:=I3.cell x c e;exact bz z.lt
   ·exact bz (aK (I3.pin p hp).1)
  ·refine gg (TT.item (oG X N scope fp L O) rfl rfl rfl hc' i [] s5 σ5 H5 zy I5 (fpx I5 fr5) tn5 go) λr s6 I=>?_;obtain⟨u,hr,h6⟩:=I;subst hr;refine gg h6 λ_ s7 H=>?_;obtain⟨x,H7,I7,r7,y7,c,fr7⟩:=H;have I7':=I7.pinned (fpx I7 fr7) (TT.obj _ _ c);refine gg (bg _ s7 σ5 H7 x u _ I7' r7 (step x H7 y7)) λ_ s8 C=>?_;obtain⟨σ8,H8,I8,q8⟩:=C;refine gg (bt _ s8 σ8 H8 _ I8 q8) λok s9 B=>?_;obtain⟨H9,I9,q9⟩:=B;have again : ∀{Y : ao}{G : Hp}, Inv (oG X N scope fp L O) ([] ++ my fp s7.heap) σ8 G Y -> (∃Q, Q < k /\ W (i+1) Q σ8 G) ->
     ∃m,m < k/\∃i σ' G,Inv (oG X N scope fp L O) [] σ' G Y/\tn i Y.heap/\(∀b∈fp,G b=none)/\W i m σ' G:=λ{Y G}I' q=>by
    obtain⟨Q,hm,w'⟩:=q;refine⟨Q,hm,i+1,σ8,G,I'.unpinned,TT.keep _ _ _ c λb E o e=>(I'.pin (b,o) (bE _ (bE _ (F7 E e)))).1,λb E=>?_,w'⟩;obtain⟨o,e,d⟩:=TT.obj _ _ c b E;exact (I'.pin (b,o) (bE _ (bE _ (F7 E e)))).2.1
   cases ok with
   |false=>exact again I9 q9
   |true=>
    refine gg (be _ s9 σ8 H9 _ I9 q9) λxv U h=>?_;obtain⟨v,J,I10,r10,ys,hy,hz,q10⟩:=h;refine gg (Mh (X:=oG X N scope fp L O) _ U σ8 J (.ref l) [v] (.ref l) [xv] (λ_ G=>G=fJ J l (.lst (ys++[v]))) I10 rfl (.cons r10 .nil) ⟨l,ys,v,rfl,rfl,hy,hz,rfl⟩) λ_ s11 g=>?_;obtain⟨_,H11,I11,_,e⟩:=g;subst e;exact again I11 q10
 exact codeAny_compStart_list loop (TT.self _ 0 _ _ _ tn4 loop)
theorem Vl{v o iter:Expr}{u:List Expr}{pos:Pos}{n:Nat}{ix:List Nat}{G:TI}{g:TG}{J:TT}{L:TE}
  (hc:X.calm=true) (S:g9 X scope) (T:kn X scope N n ix) (Y:PI X o iter G)
  (E:∀(fp:List aj)(s:ao)(H:Hp),PG (oG X N scope fp s H) o g/\vI (oG X N scope fp s H) u J/\PE (oG X N scope fp s H) v L)
  (O:∀x,fE iter X.env x=pure x:=by intro _;rfl):PE X (.ListComp v [⟨o,iter,u,0⟩] scope pos) (vh G n ix g J L):=by
 intro ar s σ H Q I h;rw[eval_ListComp];refine LH (use:=none) hc S T Y E O I h λl C H' s' I' q c=>?_;obtain⟨m,U⟩:=c.ns;exact⟨m,U,λh' B=>⟨.ref l,H',c.go I' B,rfl,q⟩⟩
theorem Vt{E o iter:Expr}{B:List Expr}{pos u G:Pos}{n i:Nat}{ix:List Nat}{wi:TI}{g:TG}{tt:TT}{te:TE}{x:Str}
  (hN:X.N.Nodup) (Y:X.N[i]?=some x) (hx:L2.Loc X.env.scope x) (hf:X.fn x=true\/X.env.scope.names.lookup x=some .local)
  (hc:X.calm=true) (S:g9 X scope) (T:kn X scope N n ix) (hi:PI X o iter wi)
  (blk:∀(fp:List aj)(s:ao)(H:Hp),PG (oG X N scope fp s H) o g/\vI (oG X N scope fp s H) B tt/\PE (oG X N scope fp s H) E te)
  (O:kt (.ListComp E [⟨o,iter,B,0⟩] scope pos) (some (.Name x u)) G.line X.env=pure true)
  (hs:∀x,fE iter X.env x=pure x:=by intro _;rfl):PS X (.Assign [.Name x u] (.ListComp E [⟨o,iter,B,0⟩] scope pos) G) (zn (vh wi n ix g tt te) (tQ i)):=by
 intro ar s σ H D I h;rw[exec_Assign_Name_used _ _ _ _ O];refine ab (vX (ab ?_))
 show aJ _ _ (comprehension (.ListComp E [⟨o,iter,B,0⟩] scope pos) scope X.env _ (newList []) false (eval iter X.env) (some (ox (.Name x u) X.env)) >>= λ_=>pure ()) _ _ s;refine ab (gQ (LH (use:=some (ox (.Name x u) X.env)) (Q:=λ_ L=>SP X ar D .next L) hc S T hi blk hs I h λl C H' L I' q c=>?_) (λ_ L hq=>au (au hq)) λ_ _ e=>e);obtain⟨m,hn⟩:=c.ns;refine C5 (Hq I' hN Y hx (v:=.ref l) rfl (λs2 I2 ⟨b,hb,hb2⟩=>?_) hf);have J:b≠C:=by
  rcases hb2 with z|z
  ·rw[z];exact c.loc.symm
  ·exact c.cell x b z
 refine⟨m,hn.sameBut hb J.symm,λh' U=>⟨_,H',?_,q⟩⟩;exact vc.go ⟨⟨m,hn.sameBut hb J.symm⟩,c.free,c.loc,c.cell,c.sz,c.pin⟩ I2 U
end
section
variable{X:Cx}{a b c e:Expr}{es:List Expr}{pos:Pos}{fa fb fc:CE}{ca cb:CA}{K:ah}{ρ:List aj}{H:Hp}{st:aX}
theorem zW{K:ah}{g:D->D->M D}{x y:V}{H:Hp}{Q:VK}(u:∀d e,(∃i j,d=D.int i/\e=D.int j)\/g d e=bad)(h:qv K g x y H Q):
  ∃(i j:Int)(ρ:List aj)(st:aX),x=.int i/\y=.int j/\SR K ρ H st/\aU K ρ H (g (.int i) (.int j) st) (λr _ ρ' l=>∀v,du K ρ' l v r->Q v l):=by
 obtain⟨ρ,st,d,e,sr,q,o,p⟩:=h;rcases u d e with ⟨i,j,E,C⟩|B
 ·subst E C;cases q;cases o;exact⟨_,_,ρ,st,rfl,rfl,sr,p⟩
 ·rw[B]at p;exact p.elim
theorem XU:OpR X (e_ .Sub) (qv X.K sM):=T3.of λx y H Q h=>by obtain⟨i,j,ρ,st,rfl,rfl,sr,p⟩:=zW (by intro d e;cases d<;>cases e<;>first|exact .inl ⟨_,_,rfl,rfl⟩|exact .inr rfl) h;exact⟨_,_,rfl,rfl,p.ret sr _ (.int _)⟩
theorem Qz:OpR X (e_ .Mult) (qv X.K rM):=Va.of λx y H Q h=>by obtain⟨i,j,ρ,st,rfl,rfl,sr,p⟩:=zW (by intro d e;cases d<;>cases e<;>first|exact .inl ⟨_,_,rfl,rfl⟩|exact .inr rfl) h;exact⟨_,_,rfl,rfl,p.chk.1,p.chk.2.ret sr _ (.int _)⟩
theorem WO:OpR X (e_ .FloorDiv) (qv X.K r_):=Pu.of λx y H Q h=>by obtain⟨i,j,ρ,st,rfl,rfl,sr,p⟩:=zW (by intro d e;cases d<;>cases e<;>first|exact .inl ⟨_,_,rfl,rfl⟩|exact .inr rfl) h;exact⟨_,_,rfl,rfl,p.chk.1,p.chk.2.ret sr _ (.int _)⟩
theorem Pa:OpR X (e_ .Mod) (qv X.K oZ):=O4.of λx y H Q h=>by obtain⟨i,j,ρ,st,rfl,rfl,sr,p⟩:=zW (by intro d e;cases d<;>cases e<;>first|exact .inl ⟨_,_,rfl,rfl⟩|exact .inr rfl) h;exact⟨_,_,rfl,rfl,p.chk.1,p.chk.2.ret sr _ (.int _)⟩
theorem Wf:OpR X (e_ .Pow) (qv X.K xc):=UV.of λx y H Q h=>by obtain⟨i,j,ρ,st,rfl,rfl,sr,p⟩:=zW (by intro d e;cases d<;>cases e<;>first|exact .inl ⟨_,_,rfl,rfl⟩|exact .inr rfl) h;exact⟨_,_,rfl,rfl,p.chk.1,p.chk.2.ret sr _ (.int _)⟩
theorem UO:OpR X (dB .Lt) (qv X.K zq):=Qr.of λx y H Q h=>by obtain⟨i,j,ρ,st,rfl,rfl,sr,p⟩:=zW (by intro d e;cases d<;>cases e<;>first|exact .inl ⟨_,_,rfl,rfl⟩|exact .inr rfl) h;exact⟨_,_,rfl,rfl,p.ret sr _ (.bl _)⟩
theorem Wc:OpR X (dB .Gt) (qv X.K wV):=Th.of λx y H Q h=>by obtain⟨i,j,ρ,st,rfl,rfl,sr,p⟩:=zW (by intro d e;cases d<;>cases e<;>first|exact .inl ⟨_,_,rfl,rfl⟩|exact .inr rfl) h;exact⟨_,_,rfl,rfl,p.ret sr _ (.bl _)⟩
theorem T4:OpR X (dB .GtE) (qv X.K GI):=WX.of λx y H Q h=>by obtain⟨i,j,ρ,st,rfl,rfl,sr,p⟩:=zW (by intro d e;cases d<;>cases e<;>first|exact .inl ⟨_,_,rfl,rfl⟩|exact .inr rfl) h;exact⟨_,_,rfl,rfl,p.ret sr _ (.bl _)⟩
theorem IB:SA X [] bu:=uk.of λσ H Q g=>g.el λρ l st h sr p=>p.ret sr [] .nil
theorem Kh(U:SE X e fa)(O:SA X es ca)(L:starEach (e::es) X.env=(false,eval e X.env)::starEach es X.env:=by rfl):SA X (e::es) (ax fa ca):=
 (rA U O L).of λσ H Q Y=>Y.el λρ l st o sr p=>⟨ρ,l,st,o,sr,p.bnd.imp λd g ρ1 H1 u E J v G=>⟨ρ1,l,g,o.mono u,E,J.bnd.imp λds B ρ2 H2 q C I c h=>I.ret C _ (.cons (G.mono q) h)⟩⟩
theorem TD{k:Nat}(h:SA X es ca):SE X (.Tuple es k pos) (dU ca):=(Sa h).of λσ H Q I=>I.el λρ l st E sr p=>⟨ρ,l,st,E,sr,p.bnd.imp λds u ρ1 O J v C L g=>by obtain⟨G,B⟩:=C.chk;refine⟨by rw[g.length];exact G,λq o=>?_⟩;exact B ρ1 _ (Ex.new o) (v.new o) _ (.tup (iZ.of ky) (g.mono (Ex.new o)))⟩
theorem Vq(h:SA X es ca):SL X (.List es pos) (fU ca):=(PK h).of λσ H Q U=>U.el λρ l st J sr p=>⟨ρ,l,st,J,sr,p.bnd.imp λds E ρ1 Y B v I C g=>by
 obtain⟨O,G⟩:=I.chk;refine⟨by rw[g.length];exact O,λq u=>?_⟩;have L:H q=none:=by
  cases z:H q with
  |none=>rfl
  |some o=>exact bq u (B.trk q o z)
 exact G ρ1 _ (Ex.new u) (v.new u) q C L (v.fresh u) ky (g.mono (Ex.new u))⟩
theorem aU.bnd0{α β:Type}{m:M α}{f:α->M β}{R:β->aX->List aj->Hp->Prop}(h:aU K ρ H (MM.bnd m f st) R):aU K ρ H (m st) λa g _ _=>aU K ρ H (f a g) R:=by
 unfold MM.bnd at h;cases e:m st with
 |ok a s'=>
  rw[e]at h;exact λρ' l y s=>h
 |exc _ _=>rw[e]at h;exact h
 |bad=>rw[e]at h;exact h
theorem RV(h:SL X e ca):SE X e (dZ ca):=h.of λσ H Q L=>L.el λρ l st I sr p=>⟨ρ,l,st,I,sr,p.bnd0.imp λds C ρ1 B o u E a O J G v q=>by
 have x:Ex ρ H (ρ1++[a]) B:=by
  obtain⟨τ,e,f⟩:=o.pre;refine⟨⟨τ++[a],by rw[e,bF],λb g=>?_⟩,o.fix,o.oth,o.knd⟩;rcases aV.mp g with g|g
  ·exact f b g
  ·rw[aI]at g;rw[g];exact J
 refine E (ρ1++[a]) B x (u.keep v G q) _ (.ref ⟨_,v,rfl⟩ ?_);rw[<- u.len];simp⟩
theorem _root_.L2.IxR.of{r C:R2}(h:IxR X r)(g:∀x y H Q,C x y H Q->r x y H Q):IxR X C:=λl o B s σ H x y v u Q I G E q J=>h l o B s σ H x y v u Q I G E (g x y H Q q) J
theorem aU.item{ds:List D}{i:Int}{R:D->aX->List aj->Hp->Prop}(h:aU K ρ H (cJ ds i st) R)(s:SR K ρ H st):∃k d,L2.mC ds.length i=some k/\ds[k]?=some d/\R d st ρ H:=by
 unfold cJ at h;cases e:MM.mC ds.length i with
 |none=>rw[e]at h;exact h.elim
 |some k=>
  rw[e]at h;cases g:ds[k]? with
  |none=>dsimp only at h;rw[g]at h;exact h.elim
  |some d=>dsimp only at h;rw[g]at h;exact⟨k,d,e,g,h.ret s⟩
theorem Eh{g:List V}{ds:List D}{i:Int}{k:Nat}{d:D}(r:bJ K ρ H g ds)(o:L2.mC ds.length i=some k)(l:ds[k]?=some d):∃v,vS g i=some v/\du K ρ H v d:=by obtain⟨v,e,h⟩:=r.get l;refine⟨v,?_,h⟩;unfold vS;rw[r.length,o];exact e
theorem aU.itemK{n:Nat}{k:D}{R:D->aX->List aj->Hp->Prop}(h:aU K ρ H (MM.itemK n k st) R)(s:SR K ρ H st):∃b g d,st[n]?=some (.dct b g)/\pk b k=true/\m9 g k=some d/\R d st ρ H:=by
 obtain⟨b,g,e,q⟩:=aU.getDc (aU.bnd h) s;obtain⟨u,l⟩:=aU.chk q;cases o:m9 g k with
 |none=>dsimp only at l;rw[o]at l;exact l.elim
 |some d=>dsimp only at l;rw[o]at l;exact⟨b,g,d,e,u,o,l.ret s⟩
theorem nC.dictIs{X:Cx}{h:List (aj×Obj)}{σ:St}{s:ao}{a:aj}{b:Bool}{l:List (D×D)}(I:Inv X h σ H s)(g:nC X.K ρ H a (.dct b l)):s.TypeIs (.ref a) "dict":=by
 cases b with
 |false=>
  obtain⟨es,e,r⟩:=g;obtain⟨_,_,q,_,o⟩:=Nw I.hok e;exact o.typeIs
 |true=>
  obtain⟨es,e,r⟩:=g;obtain⟨_,_,xs,_,o,_⟩:=yw I e r;exact o.typeIs
theorem T5(hu:X.A.units+60 < dk):IxR X (λx y H Q=>∃(ρ:List aj)(st:aX)(n:Nat)(a:aj)(b:Bool)(l:List (D×D))(k d:D),x=.ref a/\SR X.K ρ H st/\ρ[n]?=some a/\st[n]?=some (.dct b l)/\du X.K ρ H y k/\pk b k=true/\m9 l k=some d/\∀v,du X.K ρ H v d->Q v H):=by intro o B E s σ H x y v u Q I J G h U;obtain⟨ρ,st,n,a,b,l,k,d,ex,sr,ha,Y,O,hk,c,q⟩:=h;subst ex;cases J;have g:=sr.ob n a _ ha Y;exact zC (nC.dictIs I g) PySem.F.slot_dict_getitem.lookup (Wm (by ext) I g O hk c G λv w' s' I' L C=>⟨v,H,I',C,q v L⟩) U
theorem Xi{x y:V}{d e:D}{Q:VK}(sr:SR K ρ H st)(J:du K ρ H x d)(I:du K ρ H y e)(hd:∀n,d≠.dic n)(p:aU K ρ H (aR d e st) λr _ ρ' G=>∀v,du K ρ' G v r->Q v G):N9 K x y H Q:=by
 cases I with
 |int i=>
  cases J with
  |dic _ _=>exact bq rfl (hd _)
  |tup h r=>
   obtain⟨k,d,B,u,q⟩:=aU.item p sr;obtain⟨v,o,l⟩:=Eh r B u;exact .inr (.inl ⟨_,_,i,v,rfl,rfl,h,o,q v l⟩)
  |lit h r=>
   obtain⟨k,d,B,u,q⟩:=aU.item p sr;obtain⟨v,o,l⟩:=Eh r B u;exact .inl ⟨_,_,i,v,rfl,rfl,h.seq,o,q v l⟩
  |ref _ h=>
   obtain⟨xs,e,g⟩:=aU.getL (aU.bnd p) sr;obtain⟨a,O,E,L,r⟩:=sr.seq e;rw[h]at E;cases E;obtain⟨k,d,B,u,q⟩:=aU.item g sr;obtain⟨v,o,l⟩:=Eh r B u;exact .inl ⟨_,_,i,v,rfl,rfl,ii.of L,o,q v l⟩
  |str z=>
   obtain⟨hz,g⟩:=aU.chk p;cases e:MM.mC z.length i with
   |none=>rw[e]at g;exact g.elim
   |some k=>
    rw[e]at g;cases C:z.cps.toList[k]? with
    |none=>dsimp only at g;rw[C]at g;exact g.elim
    |some c=>
     dsimp only at g;rw[C]at g;refine .inr (.inr ⟨z,i,c,rfl,rfl,hz,?_,g.ret sr _ (.str _)⟩);unfold vS;rw[show z.cps.toList.length=z.length by simp[Str.length]]
     show (L2.mC z.length i).bind _=_;rw[show L2.mC z.length i=some k from e];exact C
  |_=>exact p.elim
 |_=>cases d<;>first|exact bq rfl (hd _)|exact p.elim
theorem QS(hu:X.A.units+60 < dk):IxR X (qv X.K aR):=(Sn.or (T5 hu)).of λx y H Q g=>by
 obtain⟨ρ,st,d,e,sr,u,l,p⟩:=g;by_cases hd:∃n,d=.dic n
 ·obtain⟨n,rfl⟩:=hd;cases u with
  |@dic a n _ h=>
   have C:aU X.K ρ H (itemK n e st) λr _ ρ' B=>∀(v:V),du X.K ρ' B v r->Q v B:=by cases l<;>exact p
   obtain⟨b,o,d,I,G,E,q⟩:=aU.itemK C sr;exact .inr ⟨ρ,st,n,a,b,o,e,d,rfl,sr,h,I,l,G,E,q⟩
 ·exact .inl (Xi sr u l (λn z=>hd ⟨n,z⟩) p)
theorem Pk(hu:X.A.units+60 < dk)(o:SE X a fa)(l:SE X b fb)(g:qu b):SE X (.Subscript a b pos) (c2 aR fa fb):=(MB (QS hu) o l g).of (Gu λ_ _ _ _ h=>h)
theorem U2(G:SL X a ca)(hb:SE X b fb)(hs:qu b):SE X (.Subscript a b pos) (mE ca fb):=(MB NI G hb hs).of λσ H Q h_=>h_.el λρ l st E sr p=>
 ⟨ρ,l,st,E,sr,p.bnd.imp λds g ρ1 H1 I O c a B G na hv h=>⟨ρ1,l,g,E.mono I,O,c.bnd.imp λe J ρ2 H2 o L C u Y=>by
  cases Y with
  |int i=>
   obtain⟨k,d,h1,h2,q⟩:=aU.item C L;obtain⟨v,h3,U⟩:=Eh (h.mono o) h1 h2;exact⟨a,B,i,v,rfl,rfl,ii.of (o.lst a B na hv),h3,q v U⟩
  |_=>exact C.elim⟩⟩
theorem Rh{E:xf}{k n:Nat}{f:aj}{C:cY}{B:List Str}{g:List D->M D}{x:Str}{p:Pos}(F:lW X.prog X.w X.K X.mg X.base E k f C B (mr X.K n g))(J:ig k X.A)(Y:Gl X x)(O:X.mg x=some (.ref f))
  (U:cS X.K (.ref f)=true) (hb:Binds X.K C B []) (I:sY E X E0) (ha:SA X (e::es) ca) (L:∀l st ds o,ca l st=.ok ds o->ds.length=n) (v:(x == ("__debug__":Str))=false:=by decide)
  (c:starEach (e::es) X.env=(false,eval e X.env)::starEach es X.env:=by rfl) (u:(backTo pos (starEach es X.env)).any (·.1)=false:=by rfl):SE X (.Call (.Name x p) (e::es) [] pos) (bW g ca):=
 (Lw F J Y O U hb .nil I ha v c u).of λσ H Q h_=>h_.el λρ l st G sr p=>⟨ρ,l,st,G,sr,by
  have q:=aU.bnd p;cases h:ca l st with
  |bad=>rw[h]at q;exact q
  |exc _ _=>rw[h]at q;exact q
  |ok ds eh=>
   rw[h]at q;intro ρ1 H1 x1 s1 vs rvs;refine⟨by rw[br,rvs.length];exact L l st ds eh h,ρ1,eh,ds,s1,by rw[br];exact rvs,q ρ1 H1 x1 s1⟩⟩
variable{ta tb:CT}
theorem Yc{d:D}{v:V}{R:Bool->aX->List aj->Hp->Prop}(p:aU K ρ H (y0 d st) R)(sr:SR K ρ H st)(o:du K ρ H v d):∃k,BA K v H k/\R k st ρ H:=by
 cases o with
 |non=>exact⟨false,rfl,p.ret sr⟩
 |bl b=>exact⟨b,rfl,p.ret sr⟩
 |int i=>exact⟨_,rfl,p.ret sr⟩
 |str x=>exact⟨_,⟨(aU.chk p).1,rfl⟩,(aU.chk p).2.ret sr⟩
 |@tup a g ds h r=>
  refine⟨!g.isEmpty,.inr (.inl ⟨g,h,rfl⟩),?_⟩;have:g.isEmpty=ds.isEmpty:=by have:=r.length;cases g<;>cases ds<;>simp_all
  rw[this];exact p.ret sr
 |@lit a g ds h r=>
  refine⟨!g.isEmpty,.inl ⟨g,h.seq,rfl⟩,?_⟩;have:g.isEmpty=ds.isEmpty:=by have:=r.length;cases g<;>cases ds<;>simp_all
  rw[this];exact p.ret sr
 |ref _ h=>
  obtain⟨ds,e,q⟩:=aU.getL (aU.bnd p) sr;obtain⟨a,g,l,u,r⟩:=sr.seq e;rw[h]at l;cases l;refine⟨!g.isEmpty,.inl ⟨g,ii.of u,rfl⟩,?_⟩;have:g.isEmpty=ds.isEmpty:=by have:=r.length;cases g<;>cases ds<;>simp_all
  rw[this];exact q.ret sr
 |_=>exact p.elim
theorem WF(C:SE X a fa)(B:∀whole,isTrue a X.env whole=(do let v <- whole;xr a.pos;lw [v] (truthy v)):=by intro _;rfl):ST X a (qW fa):=
 (S0 C B).of λσ H Q E=>E.el λρ l st u sr p=>⟨ρ,l,st,u,sr,p.bnd.imp λd g ρ1 I G h q v o=>Yc q h o⟩
theorem Vw{op:uL}{g:D->D->M D}(E:OpR X (dB op) (qv X.K g))(J:SE X a fa)(I:SE X b fb)(G:gC op b=false):ST X (.Compare a [op] [b] pos) (db (c2 g fa fb)):=
 (L5 E J I G).of λσ H Q L=>L.el λρ l st C sr p=>Gu (X:=X) (λ_ _ _ _ h=>h) _ _ _ ⟨ρ,l,st,C,sr,p.bnd.imp λd q ρ1 U O u o v B=>by
  cases B with
  |bl k=>exact⟨k,rfl,o.ret u⟩
  |_=>exact o.elim⟩
theorem PF(g:ST X a ta):PW X (.BoolOp .And [a] pos) (qh X.K ta):=OV g
theorem TZ(g:ST X a ta):PW X (.BoolOp .Or [a] pos) (qh X.K ta):=Se g
theorem _root_.L2.PW.of{e:Expr}{t t':TT}(h:PW X e t)(f:∀σ H Q,t' σ H Q->t σ H Q):PW X e t':=λwhole g s σ H Q I q=>h whole g s σ H Q I (f σ H Q q)
theorem Qy{rest:List Expr}(B:ST X a ta)(v:PW X (.BoolOp .And (b::rest) pos) (qh X.K tb)):PW X (.BoolOp .And (a::b::rest) pos) (qh X.K (n0 ta tb)):=
 (Rz B v).of λσ H Q C=>C.el λρ l st q sr p=>⟨ρ,l,st,q,sr,p.bnd.imp λc g ρ1 E u h o=>by
  cases c with
  |true=>exact⟨ρ1,l,g,q.mono u,h,o⟩
  |false=>exact o.ret h⟩
theorem UR{rest:List Expr}(B:ST X a ta)(v:PW X (.BoolOp .Or (b::rest) pos) (qh X.K tb)):PW X (.BoolOp .Or (a::b::rest) pos) (qh X.K (rK ta tb)):=
 (Xn B v).of λσ H Q C=>C.el λρ l st q sr p=>⟨ρ,l,st,q,sr,p.bnd.imp λc g ρ1 E u h o=>by
  cases c with
  |true=>exact o.ret h
  |false=>exact⟨ρ1,l,g,q.mono u,h,o⟩⟩
theorem Vg(u:ST X a ta):ST X (.UnaryOp .Not a pos) (pM ta):=(X5 u).of λσ H Q v=>v.el λρ l st q sr p=>⟨ρ,l,st,q,sr,p.bnd.imp λc g ρ1 C B h o=>o.ret h⟩
theorem Oy{op:BoolOp}(h:SE X a fa):SE X (.BoolOp op [a] pos) fa:=TM h
theorem Tq{rest:List Expr}(E:SE X a fa)(C:SE X (.BoolOp .And (b::rest) pos) fb):SE X (.BoolOp .And (a::b::rest) pos) (tU fa fb):=
 (RN E C).of λσ H Q G=>G.el λρ l st q sr p=>⟨ρ,l,st,q,sr,p.bnd.imp λd g ρ1 I u o h v B=>by
  cases B with
  |bl c=>
   refine⟨c,rfl,?_⟩;cases c with
   |true=>exact⟨ρ1,l,g,q.mono u,o,h⟩
   |false=>exact h.ret o _ (.bl false)
  |_=>exact h.elim⟩
theorem Sv{rest:List Expr}(E:SE X a fa)(C:SE X (.BoolOp .Or (b::rest) pos) fb):SE X (.BoolOp .Or (a::b::rest) pos) (Cs fa fb):=
 (W9 E C).of λσ H Q G=>G.el λρ l st q sr p=>⟨ρ,l,st,q,sr,p.bnd.imp λd g ρ1 I u o h v B=>by
  cases B with
  |bl c=>
   refine⟨c,rfl,?_⟩;cases c with
   |true=>exact h.ret o _ (.bl true)
   |false=>exact⟨ρ1,l,g,q.mono u,o,h⟩
  |_=>exact h.elim⟩
theorem VI(B : SE X a fa): SE X (.UnaryOp .Not a pos) (wL fa) := (WE B).of λσ H Q C => C.el λρ l st u sr p => ⟨ρ, l, st, u, sr, p.bnd.imp λd h ρ1 G E o g v q => by
  cases q with
  |bl c=>exact⟨c,rfl,g.ret o _ (.bl _)⟩
  |_=>exact g.elim⟩
theorem Pz(v : ST X c ta)(C : SE X a fa)(B : SE X b fb): SE X (.IfExp c a b pos) (vJ ta fa fb) := (OX v C B).of λσ H Q E => E.el λρ l st h sr p => ⟨ρ, l, st, h, sr, p.bnd.imp λk g ρ1 G o q u => by
  cases k with
  |true=>exact⟨ρ1,l,g,h.mono o,q,u⟩
  |false=>exact⟨ρ1,l,g,h.mono o,q,u⟩⟩
end
theorem LR.set{K:ah}{ρ:List aj}{H:Hp}{σ:St}{l:Loc}{v:V}{d:D}(h:LR K ρ H σ l)(i:Nat)(r:du K ρ H v d):LR K ρ H (σ.set i (some v)) (l.set i (some d)):=by
 refine⟨by simp[h.1],λj e q=>?_⟩;by_cases z:i=j
 ·subst z;by_cases c:i < l.length
  ·rw[aw c]at q;cases q;exact⟨v,by rw[aw (by rw[h.1];exact c)],r⟩
  ·rw[bT (by simp;ext)]at q;cases q
 ·rw[ag z]at q;obtain⟨w,o,g⟩:=h.2 j e q;exact⟨w,by rw[ag z];exact o,g⟩
theorem LR.start{K:ah}{ρ:List aj}{H:Hp}{N:List Str}{c:List V}{ds:List D}(r:bJ K ρ H c ds):LR K ρ H (L2.start N c) (ds.map some++aP (N.length-ds.length) none):=by
 have o:=r.length;unfold L2.start;refine⟨by simp[o],λi d e=>?_⟩;by_cases g:i < ds.length
 ·rw[av (by simpa using g),ak]at e;cases q:ds[i]? with
  |none=>rw[q]at e;cases e
  |some d'=>
   rw[q]at e;have u:d'=d:=aG (aG e);subst u;obtain⟨v,l,h⟩:=r.get q;refine⟨v,?_,h⟩;rw[av (by simp;ext),ak,l];rfl
 ·rw[aM (by simpa using g),fw]at e;split at e<;>cases e
section
variable{X:Cx}{a b c e tg:Expr}{es:List Expr}{s:Stmt}{ss:List Stmt}{pos:Pos}{fa fb fc:CE}{ca cb:CA}{ta tb:CT}{cs cr:CS}{K:ah}{ρ:List aj}{H:Hp}{st:aX}
abbrev SG(X:Cx)(e:Expr)(g:CG):Prop:=PG X e (zj X.K g)
abbrev BZ(X:Cx)(e:List Expr)(g:List D->Loc->M Loc):Prop:=PGs X e (Ed X.K g)
theorem XI{i:Nat}{x:Str}(h:PG X (.Name x pos) (tQ i)):SG X (.Name x pos) (aS i):=h.of λv σ H Q g=>by obtain⟨ρ,l,st,d,q,sr,o,p⟩:=g;exact p.ret sr _ (q.set i o)
theorem PB:BZ X [] iD:=Vx.of λq σ H Q g=>by
 obtain⟨ρ,l,st,ds,o,sr,h,p⟩:=g;cases h with
 |nil=>exact⟨rfl,p.ret sr σ o⟩
 |cons _ _=>exact p.elim
theorem W7{g:CG}{r:List D->Loc->M Loc}(L:SG X e g)(J:BZ X es r)(I:(dI (e::es) X.env).map (·.2)=ox e X.env::(dI es X.env).map (·.2):=by rfl):BZ X (e::es) (cW g r):=
 (O5 L J I).of λO σ H Q h=>by
  obtain⟨ρ,l,st,ds,E,sr,q,p⟩:=h;cases q with
  |nil=>exact p.elim
  |cons rv rt=>exact⟨_,_,rfl,ρ,l,st,_,E,sr,rv,(aU.bnd p).imp λG o ρ1 U v B C σ1 u=>⟨ρ1,G,o,_,u,B,rt.mono v,C⟩⟩
theorem T1{k n:Nat}{r:List D->Loc->M Loc}(C:X.calm=true)(h:BZ X es r)(B:(dI es X.env).length=n:=by rfl)(o:(dI es X.env).findIdx? (·.1)=none:=by rfl):SG X (.Tuple es k pos) (iq n r):=
 (O8 C h B o).of λv σ H Q g=>by
  obtain⟨ρ,l,st,d,u,sr,q,p⟩:=g;cases q with
  |tup h r=>exact⟨_,_,rfl,h,by rw[r.length];exact (aU.chk p).1,ρ,l,st,_,u,sr,r,(aU.chk p).2⟩
  |_=>exact p.elim
theorem V_:vO X [] ba:=ON.of λG σ H h=>h.el λρ l st g sr p=>p.ret sr σ g
theorem QG(C:SS X s cs)(B:vO X ss cr):vO X (s::ss) (aQ cs cr):=(Nv C B).of λG σ H v=>v.el λρ l st u sr p=>⟨ρ,l,st,u,sr,p.bnd.imp λf o ρ1 I E g h=>by
 cases f with
 |next l'=>exact λσ' q=>⟨ρ1,l',o,q,g,h⟩
 |ret d=>exact h.ret g
 |brk l'=>exact h.ret g
 |cnt l'=>exact h.ret g⟩
theorem Q_:SS X s Aw:=WN.of λG σ H g=>g.el λρ l st h sr p=>p.elim
theorem Sk(h:SE X e fa):SS X (.Return (some e) pos) (eV fa):=(NF h).of λG σ H C=>C.el λρ l st B sr p=>⟨ρ,l,st,B,sr,p.bnd.imp λd g ρ1 I E o u v q=>u.ret o v q⟩
theorem S_(h:SE X e fa)(C:kt e none pos.line X.env=pure false:=by rfl):SS X (.Expr e pos) (iF fa):=(Wh h C).of λG σ H E=>E.el λρ l st g sr p=>
 ⟨ρ,l,st,g,sr,p.bnd.imp λd q ρ1 J o u B v I=>B.ret u σ (g.mono o)⟩
theorem TX(v:ST X c ta)(C:vO X ss cs){sr:List Stmt}(B:vO X sr cr):SS X (.If c ss sr pos) (n8 ta cs cr):=(SD v C B).of λG σ H E=>E.el λρ l st h sr p=>
 ⟨ρ,l,st,h,sr,p.bnd.imp λk g ρ1 I o q u=>by
  cases k with
  |true=>exact⟨ρ1,l,g,h.mono o,q,u⟩
  |false=>exact⟨ρ1,l,g,h.mono o,q,u⟩⟩
theorem JU{g:CG}{q:TE}{tg:TG}(Y:∀σ H Q,zO X.K fa σ H Q->q σ H Q)(U:∀v σ H Q,zj X.K g v σ H Q->tg v σ H Q):∀G σ H,wO X.K (b_ g fa) G σ H->zn q tg G σ H:=λG σ H c=>c.el λρ l st u sr p=>
 Y _ _ _ ⟨ρ,l,st,u,sr,p.bnd.imp λd h ρ1 H1 B I O v J=>U _ _ _ _ ⟨ρ1,l,h,d,u.mono B,I,J,O.bnd.imp λl2 C ρ2 H2 x2 E L σ2 o=>L.ret E σ2 o⟩⟩
theorem Me{i:Nat}:∀v σ H Q,zj X.K (aS i) v σ H Q->tQ i v σ H Q:=λv σ H Q g=>by obtain⟨ρ,l,st,d,o,sr,h,p⟩:=g;exact p.ret sr _ (o.set i h)
theorem WG{i : Nat}{x : Str}{g : Pos}(B : X.N.Nodup)(q : X.N[i]? = some x)(l : L2.Loc X.env.scope x)(v : SE X e fa)(o : kt e (some (.Name x g)) pos.line X.env = pure false := by rfl)
  (u:X.fn x=true\/X.env.scope.names.lookup x=some .local:=by first|exact .inl rfl|exact .inr rfl|assumption):SS X (.Assign [.Name x g] e pos) (b_ (aS i) fa):=
 (XZ B q l v o u).of (JU (λ_ _ _ h=>h) Me)
theorem L6{g : CG}(u : SE X e fa)(q : SG X tg g)(o : swapsWithSole [tg] e pos.line X.env = pure false := by rfl)(l : swappedStores [tg] e X.env = pure none := by rfl)
  (v:(dI [tg] X.env).map (·.2)=[ox tg X.env]:=by rfl):SS X (.Assign [tg] e pos) (b_ g fa):=(Ur u q o l v).of (JU (λ_ _ _ h=>h) λ_ _ _ _ h=>h)
theorem aU.storeK{n:Nat}{k v:D}{R:Unit->aX->List aj->Hp->Prop}(h:aU K ρ H (MM.storeK n k v st) R)(s:SR K ρ H st):∃b g,st[n]?=some (.dct b g)/\pk b k=true/\g.length < fv/\aU K ρ H (.ok () (st.set n (.dct b (lN g k v)))) R:=by obtain⟨b,g,e,o⟩:=aU.getDc (aU.bnd h) s;obtain⟨⟨u,q⟩,l⟩:=aU.chk o;refine⟨b,g,e,u,q,?_⟩;unfold sC at l;rw[e]at l;simpa using l
def EK(X:Cx):V->V->V->Hp->(Hp->Prop)->Prop:=λo i v H Q=>∃(ρ:List aj)(st:aX)(n:Nat)(a:aj)(b:Bool)(cp:List (D×D))(k d:D),o=.ref a/\SR X.K ρ H st/\ρ[n]?=some a/\st[n]?=some (.dct b cp)/\du X.K ρ H i k/\pk b k=true/\cp.length < sizeLine/\du X.K ρ H v d /\
 ∀g,SR X.K ρ g (st.set n (.dct b (lN cp k d)))->Ex ρ H ρ g->Q g
theorem PZ(hu:X.A.units+60 < dk):PSet X (EK X):=by intro h s σ H o i v ov iv u Q I G L E g;obtain⟨ρ,st,n,a,b,U,k,d,eo,sr,ha,Y,J,hk,c,O,q⟩:=g;subst eo;cases G;exact RE (by ext) I sr ha Y J hk c O L E λl s' I' C B=>⟨l,I',q l C B⟩
theorem _root_.L2.PSet.or{t t':vF}(h:PSet X t)(h':PSet X t'):PSet X (λo i v H Q=>t o i v H Q\/t' o i v H Q):=by
 intro g s σ H o i v E G u Q I B C l q;rcases q with q|q
 ·exact h g s σ H o i v E G u Q I B C l q
 ·exact h' g s σ H o i v E G u Q I B C l q
theorem V7{to ti:CE}{o i:Expr}(hu:X.A.units+60 < dk)(ho:SE X o to)(hi:SE X i ti)
  (c:∀v,ox (.Subscript o i pos) X.env v=(do
   let ov <- lw [v] (eval o X.env)
   let iv <- lw [v,ov] (eval i X.env)
   xr pos
   lw [v,ov,iv] (oy ov iv v)
   C6 [v,ov,iv] []):=by intro _;rfl):SG X (.Subscript o i pos) (gP to ti):=
 (OT ho hi (Ms.or (PZ hu)) c).of λv σ H Q I=>by obtain⟨ρ,l,st,d,Y,sr,rv,p⟩:=I;exact⟨ρ,l,st,Y,sr,p.bnd.imp λy eh ρ1 H1 L s1 p1 u ru=>⟨ρ1,l,eh,Y.mono L,s1,p1.bnd.imp λz g ρ2 H2 J G U w B=>by
  have ru2:=ru.mono J;have rd:du X.K ρ2 H2 v d:=(rv.mono L).mono J;cases ru2 with
  |ref _ h=>
   cases B with
   |int k=>
    obtain⟨ds,e,O⟩:=aU.getL (aU.bnd (aU.bnd U)) G;obtain⟨a,vs,c,hv,r⟩:=G.seq e;rw[h]at c;cases c;cases e2:MM.mC ds.length k with
    |none=>rw[e2]at O;exact O.elim
    |some j=>
     rw[e2]at O;have hl:=(ac.mp e).1;obtain⟨E,C⟩:=G.put hl h hv (r.set j rd);refine .inl ⟨_,vs,k,j,rfl,rfl,hv,by rw[r.length];exact e2,?_⟩;have p4:aU X.K ρ2 H2 (putL _ (ds.set j d) g) _:=O;unfold putL at p4;rw[e]at p4;exact (p4 ρ2 _ C E).ret E σ (((Y.mono L).mono J).mono C)
   |_=>exact (aU.bnd U).elim
  |@dic a n _ h=>
   have p':aU X.K ρ2 H2 (storeK n z d g) λa st' ρ' H'=>aU X.K ρ' H' (MM.ret l st') λl' _ ρ' H'=>∀σ',LR X.K ρ' H' σ' l'->Q σ' H':=by cases B<;>exact aU.bnd U
   obtain⟨b,cp,e1,hk,hl,q⟩:=aU.storeK p' G;exact .inr ⟨ρ2,g,n,a,b,cp,z,d,rfl,G,h,e1,B,hk,hl,rd,λH3 E C=>(q ρ2 H3 C E).ret E σ (((Y.mono L).mono J).mono C)⟩
  |_=>exact (aU.bnd U).elim⟩⟩
theorem SY{P:Program}{w:bN}{K:ah}{mg:Str->Option af}{base:bK}{x qual:Str}{u:Stmt}{f:aj}{J:cY}{N G:List Str}{k:Nat}{o:CS}(F:xN K x qual u f J)(S:mB N G (bB u))
  (q:∀(g:af)(A:bH)(outer:List Env)(s:ao)(H:Hp)(E:XK),J.code=g->ig k (A.deeper (oz qual (bB u) s.heap.objs.size f g))->vO (sN rm P w K mg base N qual (bB u) f g A outer s H E).nox (dm u) o):
  lW P w K mg base rm (k+1) f J G (mr K G.length (b8 N.length o)):=by
 obtain⟨oc,od,kV,doc,pm,an,g,ct,c,rfl,lk,I⟩:=F.ex;refine L1 lk I S (λO H Q E h=>h.1) λA outer s H O Q E hr h=>⟨_,(q g A outer s H E rfl hr).nox,?_⟩
 obtain⟨hl,ρ,st,ds,sr,C,p⟩:=h;refine⟨ρ,_,st,LR.start C,sr,?_⟩;unfold b8 at p;exact p.bnd.imp λf U ρ1 H1 x1 L B=>by
  cases f with
  |next l=>exact λσ' _=>B.ret L _ .non
  |ret d=>exact λv Y=>B.ret L v Y
  |brk l=>exact B.elim
  |cnt l=>exact B.elim
noncomputable def GZ(K:ah)(ρ0:List aj)(h:Hp)(w:Wk)(J:It):Prop:=∀ρ H st,Ex ρ0 h ρ H->SR K ρ H st->w.same st->J.stop w.ds.length H/\∀(i:Nat)(d:D),w.ds[i]?=some d->J.go i H/\∀x g,J.yld i H x g->Ex ρ H ρ g/\SR K ρ g st/\du K ρ g x d
def ES(K:ah)(f:CI):TI:=λσ H R=>∃ρ l st,LR K ρ H σ l/\SR K ρ H st/\aU K ρ H (f l st) λw _ ρ' g=>∀J,GZ K ρ' g w J->R J g
abbrev SI(X:Cx)(tg e:Expr)(f:CI):Prop:=PI X tg e (ES X.K f)
theorem _root_.L2.PI.of{tg e:Expr}{t t':TI}(h:PI X tg e t)(f:∀σ H R,t' σ H R->t σ H R):PI X tg e t':=λg s σ H R I q=>h g s σ H R I (f σ H R q)
theorem Jq{ρ0:List aj}{B:Hp}{ds:List D}{p:aX->Prop}{a:aj}(h:∀ρ H st,Ex ρ0 B ρ H->SR K ρ H st->p st->∃g,ii K H a g/\bJ K ρ H g ds):GZ K ρ0 B ⟨ds,p⟩ (Fx K a):=λρ H st x s q=>by obtain⟨g,o,r⟩:=h ρ H st x s q;refine⟨⟨g,o,by rw[r.length];exact ay _⟩,λi d e=>?_⟩;obtain⟨v,u,C⟩:=r.get e;refine⟨⟨g,v,o,u⟩,λy I l=>?_⟩;obtain⟨G,E⟩:=l;subst G;have:=E g o;rw[u]at this;cases this;exact⟨Ex.refl,s,C⟩
theorem Ww{ρ0:List aj}{B:Hp}{ds:List D}{p:aX->Prop}{a:aj}(h:∀ρ H st,Ex ρ0 B ρ H->SR K ρ H st->p st->∃g,iZ K H a g/\bJ K ρ H g ds):GZ K ρ0 B ⟨ds,p⟩ (KC K a):=λρ H st x s q=>by obtain⟨g,o,r⟩:=h ρ H st x s q;refine⟨⟨g,o,by rw[r.length];exact ay _⟩,λi d e=>?_⟩;obtain⟨v,u,C⟩:=r.get e;refine⟨⟨g,v,o,u⟩,λy I l=>?_⟩;obtain⟨G,E⟩:=l;subst G;have:=E g o;rw[u]at this;cases this;exact⟨Ex.refl,s,C⟩
theorem NB{ρ0:List aj}{q:Hp}{lo:Int}{n:Nat}:GZ K ρ0 q ⟨kY lo n,dL⟩ (EC lo n):=λρ H st x s _=>by
 refine⟨by show n<=(kY lo n).length;unfold kY;simp,λi d e=>?_⟩;have h:i < n:=by have:=(ac.mp e).1;simpa [kY] using this
 refine⟨h,λy u g=>?_⟩;obtain⟨o,l⟩:=g;subst o l;have:d=.int (lo+(i:Nat)):=by unfold kY at e;rw[ak,gp h]at e;exact (aG e).symm
 subst this;exact⟨Ex.refl,s,.int _⟩
theorem R1{l:Expr}{L:TE}(U:PE X l L):PI X tg l (λσ H R=>L σ H λx B=>∃a,x=.ref a/\((∃xs,ii X.K B a xs)/\R (Fx X.K a) B\/(∃xs,iZ X.K B a xs)/\R (KC X.K a) B)):=by
 intro E s σ H R I h;refine gg (U E s σ H _ I h) λv g C=>?_;obtain⟨x,B,u,Q,a,e,q⟩:=C;subst e;cases Q;rcases q with ⟨⟨xs,G⟩,q⟩|⟨⟨xs,G⟩,q⟩
 ·obtain⟨its,O,p,hz⟩:=u.list G;refine ik p.isList ?_;refine⟨g.heap.objs.size,[g.heap.objs.size],_,_,B,rfl,u.kept (t':=g.toks) λb o e=>aq _ e,Mt a _,⟨_,aF _ rfl,rfl,rfl⟩,λb J=>?_,q⟩;have e:b=g.heap.objs.size:=by simpa using J
  subst e;exact u.fpOk (ay _) (u.hok.fresh (ay _))
 ·obtain⟨its,O,p,hz⟩:=u.tuple G;refine kq (show g.heap.IsTuple a its.toArray from p) ?_;refine⟨g.heap.objs.size,[g.heap.objs.size],_,_,B,rfl,u.kept (t':=g.toks) λb o e=>aq _ e,S7 a _,⟨_,aF _ rfl,rfl,rfl⟩,λb J=>?_,q⟩;have e:b=g.heap.objs.size:=by simpa using J
  subst e;exact u.fpOk (ay _) (u.hok.fresh (ay _))
theorem Tk(h:SE X e fa):SI X tg e (ic fa):=(R1 h).of λσ H R U=>U.el λρ l st L sr p=>⟨ρ,l,st,L,sr,p.bnd.imp λd G ρ1 H1 Y o B v I=>by
 cases I with
 |@tup a g ds h r=>exact⟨a,rfl,.inr ⟨⟨g,h⟩,B.ret o _ (Ww λρ H st x s _=>⟨g,iZ.mono x.up h,r.mono x⟩)⟩⟩
 |@lit a g ds h r=>exact⟨a,rfl,.inl ⟨⟨g,h.seq⟩,B.ret o _ (Jq λρ H st x s _=>⟨g,(xS.mono x.up h).seq,r.mono x⟩)⟩⟩
 |@ref a n _ h=>
  obtain⟨ds,e,J⟩:=aU.getL (aU.bnd B) o;obtain⟨a',g,E,Q,r⟩:=o.seq e;rw[h]at E;cases E;refine⟨a,rfl,.inl ⟨⟨g,ii.of Q⟩,J.ret o _ (Jq λρ H st x s q=>?_)⟩⟩;obtain⟨c,ws,u,O,C⟩:=s.seq q;obtain⟨τ,eτ,_⟩:=x.pre;rw[eτ,zY h]at u;cases u;exact⟨ws,ii.of O,C⟩
 |_=>exact B.elim⟩
theorem Xd(h:SL X e ca):SI X tg e (wW ca):=(V4 h).of λσ H R G=>G.el λρ l st E sr p=>⟨ρ,l,st,E,sr,p.bnd.imp λds u ρ1 L I v B a g J C q o=>
 ⟨a,rfl,⟨g,ii.of q⟩,B.ret v _ (Jq λρ H st x s _=>⟨g,ii.of (x.lst a g C q),o.mono x⟩)⟩⟩
theorem Vb{p:Pos}(C:Gl X "range")(B:X.mg "range"=none)(h:SE X a fa)(o:starEach [a] X.env=[(false,eval a X.env)]:=by rfl):SI X tg (.Call (.Name "range" p) [a] [] pos) (MM.fT fa):=
 (Xu (tg:=tg) (p:=p) (pos:=pos) C B (Kh h IB o) o).of λσ H R E=>E.el λρ l st v sr p=>⟨ρ,l,st,v,sr,by
  have q:=aU.bnd p;unfold ax
  show aU X.K ρ H (bnd (fa l) _ st) _;unfold MM.bnd;cases e:fa l st with
  |bad=>rw[e]at q;exact q
  |exc _ _=>rw[e]at q;exact q
  |ok d eh=>
   rw[e]at q
   show ∀ρ' H',Ex ρ H ρ' H'->SR X.K ρ' H' eh->_;intro ρ1 H1 x1 s1 vs rvs;have g:=q ρ1 H1 x1 s1;cases rvs with
   |cons rv rt=>
    cases rt;cases rv with
    |int j=>
     obtain⟨⟨I,G⟩,u⟩:=aU.chk g;exact⟨j,rfl,I,G,u.ret s1 _ NB⟩
    |_=>exact g.elim⟩
theorem aU.chkS{p:aX->Prop}{R:Unit->aX->List aj->Hp->Prop}(h:aU K ρ H (MM.chkS p st) R)(s:SR K ρ H st):p st/\R () st ρ H:=by
 unfold MM.chkS at h;by_cases g:p st
 ·rw[aD g]at h;exact⟨g,h ρ H Ex.refl s⟩
 ·rw[aB g]at h;exact h.elim
theorem Ub{iter:Expr}{u:List Stmt}{ci:CI}{g:CG}{cb:CS}(hp:tj (bb X.prog X.w) X.A X.env X.xe)(hc:X.calm=true)(hi:SI X tg iter ci)(hg:SG X tg g)(hb:vO X u cb)
  (hs:∀x,fE iter X.env x=pure x:=by intro _;rfl):SS X (.For tg iter u [] pos) (kC ci g cb):=(Tw hp hc hi hg hb hs).of λG σ H h_=>h_.el λρ l st lr sr p=>
 ⟨ρ,l,st,lr,sr,p.bnd.imp λw Y ρ1 H1 x1 s1 p1 J hJ=>by
  refine⟨λi m σ' h=>m=w.ds.length-i/\i<=w.ds.length/\∃ρ' l' st',Ex ρ1 H1 ρ' h/\LR X.K ρ' h σ' l'/\SR X.K ρ' h st'/\aU X.K ρ' h (nQ g cb w.same (w.ds.drop i) l' st') λf _ ρ' h=>match f with
   | .next l'=>∀σ',LR X.K ρ' h σ' l'->G.nx σ' h
   | .ret d=>∀v,du X.K ρ' h v d->G.rt v h
   | .brk l'=>∀σ',LR X.K ρ' h σ' l'->G.bk σ' h
   | .cnt l'=>∀σ',LR X.K ρ' h σ' l'->G.ct σ' h,⟨w.ds.length,by simp,bY _,ρ1,l,Y,Ex.refl,lr.mono x1,s1,p1⟩,?_⟩
  rintro i m σ2 H2 ⟨rfl,hi,ρ2,l2,st2,x2,lr2,s2,p2⟩
  by_cases B:i < w.ds.length
  ·have ed:w.ds.drop i=w.ds[i]::w.ds.drop (i+1):=dM B;rw[ed]at p2;unfold nQ at p2;obtain⟨c,p3⟩:=aU.chkS (aU.bnd p2) s2;obtain⟨_,go⟩:=hJ ρ2 H2 st2 x2 s2 c;obtain⟨g1,g2⟩:=go i w.ds[i] (ai B);refine .inr ⟨g1,λσ3 C=>∃ρ3 l3 st3,Ex ρ1 H1 ρ3 C/\LR X.K ρ3 C σ3 l3/\SR X.K ρ3 C st3/\aU X.K ρ3 C (nQ g cb w.same (w.ds.drop (i+1)) l3 st3) λf _ ρ' h=>match f with
    | .next l'=>∀σ',LR X.K ρ' h σ' l'->G.nx σ' h
    | .ret d=>∀v,du X.K ρ' h v d->G.rt v h
    | .brk l'=>∀σ',LR X.K ρ' h σ' l'->G.bk σ' h
    | .cnt l'=>∀σ',LR X.K ρ' h σ' l'->G.ct σ' h,λσ3 C q=>⟨_,by ext,rfl,B,q⟩,λy C hy=>?_⟩
   obtain⟨Q,s3,l⟩:=g2 y C hy;refine⟨ρ2,l2,st2,_,lr2.mono Q,s3,l,(aU.left Q (aU.bnd p3)).imp λl4 U ρ4 H4 J Y p4 σ4 u=>⟨ρ4,l4,U,u,Y,(aU.bnd p4).imp λf I ρ5 H5 H L O=>?_⟩⟩;have E:Ex ρ1 H1 ρ5 H5:=(x2.trans Q).trans (J.trans H);cases f with
   |next l5=>exact λσ5 o=>⟨ρ5,l5,I,E,o,L,O⟩
   |cnt l5=>exact λσ5 o=>⟨ρ5,l5,I,E,o,L,O⟩
   |brk l5=>exact λσ5 o=>O.ret L σ5 o
   |ret d=>exact λv l=>O.ret L v l
  ·have e:i=w.ds.length:=by ext
   subst e;rw[yo]at p2;unfold nQ at p2;obtain⟨c,p3⟩:=aU.chkS (aU.bnd p2) s2;obtain⟨g1,_⟩:=hJ ρ2 H2 st2 x2 s2 c;exact .inl ⟨g1,p3.ret s2 σ2 lr2⟩⟩
end
section
variable{X:Cx}{a b c e tg:Expr}{es:List Expr}{pos:Pos}{fa fb fc:CE}{ca cb:CA}{ta tb:CT}{K:ah}{ρ:List aj}{H:Hp}{st:aX}{x:Str}{p:Pos}{id T:String}
theorem Qd{n:Nat}{ix:List Nat}{σ:St}{l:Loc}(h:LR K ρ H σ l):LR K ρ H (yJ n ix σ) (gK n ix l):=by
 unfold yJ gK;refine⟨by simp,λi d e=>?_⟩;have u:n<=i:=ra λz=>by rw[av (by simpa using z),fw]at e;split at e<;>cases e
 rw[aM (by simpa using u),eU,ak]at e;cases q:ix[i-n]? with
 |none=>rw[q]at e;cases e
 |some k=>
  rw[q]at e;have g:(l[k]?).join=some d:=aG e;have E:l[k]?=some (some d):=by
   cases z:l[k]? with
   |none=>rw[z]at g;cases g
   |some o=>rw[z]at g;exact cC some g
  obtain⟨v,C,B⟩:=h.2 k d E;refine⟨v,?_,B⟩;rw[aM (by simpa using u),eU,ak,q]
  show some ((σ[k]?).join)=some (some v);rw[C];rfl
abbrev wI(X:Cx)(g:List Expr)(t:CT):Prop:=vI X g (qh X.K t)
theorem Pe:wI X [] bR:=λg s σ H Q I h=>h.el λρ l st o sr p=>Tv g s σ H Q I (p.ret sr)
theorem QF(h:ST X c ta):wI X [c] ta:=P8 h
theorem Ex.own{ρ':List aj}{l:Hp}{q:aj}{ws:List V}(x:Ex ρ H ρ' l)(h:H q=none):Ex ρ H ρ' (fJ l q (.lst ws)):=by
 have g:∀b o,H b=some o->b≠q:=λb o e z=>by rw[z,h]at e;cases e
 exact⟨x.pre,λb o u e=>by rw[fZ (g b o e)];exact x.fix b o u e,λb xs v e=>by rw[fZ (g b _ e)];exact x.oth b xs v e,λb o e=>by rw[fZ (g b o e)];exact x.knd b o e⟩
theorem Up.own{ρ':List aj}{g:Hp}{q:aj}{l ws:List V}(h:g q=some (.lst l)):Up ρ' g ρ' (fJ g q (.lst ws)):=
 ⟨⟨[],by simp⟩,λb o u e=>by rw[fZ λz=>by subst z;rw[h]at e;cases e;exact nomatch u];exact e,
  λb o e=>by
   by_cases z:b=q
   ·subst z;rw[h]at e;cases e;exact⟨_,ky,rfl⟩
   ·exact⟨o,by rw[fZ z];exact e,rfl⟩⟩
theorem LR.up{ρ':List aj}{g:Hp}{σ:St}{l:Loc}(x:Up ρ H ρ' g)(h:LR K ρ H σ l):LR K ρ' g σ l:=⟨h.1,λi d e=>let ⟨v,e1,r⟩:=h.2 i d e;⟨v,e1,r.up x⟩⟩
theorem SR.own{q:aj}{l ws:List V}(s:SR K ρ H st)(h:H q=some (.lst l))(u:q∉ρ):SR K ρ (fJ H q (.lst ws)) st:=
 ⟨s.len,s.nd,λn b o g v=>nC.mono (o:=o) (Up.own h) (s.ob n b o g v) λB e=>by rw[fZ (λ(z:b=q)=>u (by rw[<- z];exact az g))];exact e⟩
theorem Lp{ci:CI}{g:CG}{n:Nat}{ix:List Nat}:∀σ H Q,Fj K (dF n ix ci g ta fa) σ H Q->vh (ES K ci) n ix (zj K g) (qh K ta) (zO K fa) σ H Q:=λσ H Q h_=>h_.el λρ l st lr sr p=>
 ⟨ρ,l,st,lr,sr,p.bnd0.imp λw eh ρ1 H1 x1 s1 p1 J hJ q hq=>by
  obtain⟨hz,p2⟩:=aU.chk p1;have hn:H q=none:=by
   cases z:H q with
   |none=>rfl
   |some o=>exact bq hq (x1.trk q o z)
  obtain⟨J0,I⟩:∃J0:Nat->Nat->St->Hp->Prop,J0=λi m σ' O=>m=w.ds.length-i/\i<=w.ds.length/\∃ρ' l' st' done h,Ex ρ H ρ' O/\Ex ρ1 H1 ρ' O/\LR K ρ' O σ' l'/\SR K ρ' O st'/\q∉ρ'/\O q=some (.lst h)/\bJ K ρ' O h done/\done.length<=i /\
   aU K ρ H (collect g ta fa w.same (w.ds.drop i) l' st') (λrest B ρ2 u=>∀a ws,H a=none->a∉ρ2->u a=some (.lst ws)->bJ K ρ2 u ws (done++rest)->Q (.ref a) u):=⟨_,rfl⟩
  refine⟨J0,
   ⟨w.ds.length,by rw[I];exact⟨by simp,bY _,ρ1,gK n ix l,eh,[],[],x1.trans (Ex.new hq),Ex.new hq,Qd ((lr.mono x1).mono (Ex.new hq)),s1.new hq,s1.fresh hq,ky,.nil,bY _,p2⟩⟩,?_⟩
  intro i m σ2 u hj;rw[I]at hj;obtain⟨rfl,hi,ρ2,l2,B,done,h,L,y2,lr2,s2,nq,hv,C,hd,p3⟩:=hj;by_cases G:i < w.ds.length
  ·have ed:w.ds.drop i=w.ds[i]::w.ds.drop (i+1):=dM G;rw[ed]at p3;unfold collect at p3;obtain⟨sm,p4⟩:=aU.chkS (p3.bnd0.left L) s2;obtain⟨_,go⟩:=hJ ρ2 u B y2 s2 sm;obtain⟨g1,g2⟩:=go i w.ds[i] (ai G);refine .inr ⟨g1,λy H3 hy=>?_⟩;obtain⟨J,s3,rv⟩:=g2 y H3 hy;refine⟨ρ2,l2,B,_,lr2.mono J,s3,rv,(p4.bnd0.left (L.trans J)).imp λQ st4 ρ4 H4 x4 s4 p5 σ4 E=>⟨ρ4,Q,st4,E,s4,(p5.bnd0.left (L.trans (J.trans x4))).imp λb o ρ5 H5 H s5 p6=>?_⟩⟩;have U:Ex ρ2 u ρ5 H5:=J.trans (x4.trans H);have Y:∀{ρ':List aj}{O:Hp},Ex ρ2 u ρ' O->q∉ρ':=λz l=>by
    obtain⟨τ,e,f⟩:=z.pre;rw[e]at l;rcases aV.mp l with l|l
    ·exact nq l
    ·rw[f q l]at hv;cases hv
   cases b with
   |false=>exact⟨w.ds.length-(i+1),by ext,by rw[I];exact⟨rfl,G,ρ5,Q,o,done,h,L.trans U,y2.trans U,E.mono H,s5,Y U,U.lst q h nq hv,C.mono U,Nat.le_succ_of_le hd,p6⟩⟩
   |true=>
    refine⟨ρ5,Q,o,E.mono H,s5,(p6.bnd0.left (L.trans U)).imp λd st6 ρ6 H6 x6 s6 p7 v rv6=>?_⟩;have g:Ex ρ2 u ρ6 H6:=U.trans x6;have c:=g.lst q h nq hv;have u6:Up ρ6 H6 ρ6 (fJ H6 q (.lst (h++[v]))):=Up.own c;refine⟨h,c,?_,w.ds.length-(i+1),by ext,?_⟩
    ·have g:=C.length;have c:w.ds.length<=sizeLine:=hz;ext
    ·rw[I];refine⟨rfl,G,ρ6,Q,st6,done++[d],h++[v],(L.trans g).own hn,(y2.trans g).own hq,LR.up u6 ((E.mono H).mono x6),s6.own c (Y g),Y g,ky,
     bJ.app ((C.mono g).up u6) (.cons (rv6.up u6) .nil),by simp;ext,?_⟩
     refine p7.bnd0.imp λrest q ρ8 H8 o u B a ws U J O l=>?_;exact B ρ8 H8 o u a ws U J O (by rw[List.append_cons];exact l)
  ·have e:i=w.ds.length:=by ext
   subst e;rw[yo]at p3;unfold collect at p3;obtain⟨sm,p4⟩:=aU.chkS (p3.bnd0.left L) s2;obtain⟨g1,_⟩:=hJ ρ2 u B y2 s2 sm;refine .inl ⟨g1,p4 ρ2 u L s2 q h hn nq hv (by rw[br];exact C)⟩⟩
theorem UZ{scope:dD}{N:List Str}{h:List Expr}{n:Nat}{ix:List Nat}{o:CI}{g:CG}(v:X.calm=true)(S:g9 X scope)(T:kn X scope N n ix)(u:SI X tg b o)
  (l:∀(fp:List aj)(s:ao)(H:Hp),SG (oG X N scope fp s H) tg g/\wI (oG X N scope fp s H) h ta/\SE (oG X N scope fp s H) e fa)
  (q:∀x,fE b X.env x=pure x:=by intro _;rfl):SL X (.ListComp e [⟨tg,b,h,0⟩] scope pos) (dF n ix o g ta fa):=(Vl v S T u l q).of Lp
theorem Qq{scope:dD}{N:List Str}{q:List Expr}{n i:Nat}{ix:List Nat}{L:CI}{g:CG}{y:Str}{o h:Pos}
  (hN:X.N.Nodup) (E:X.N[i]?=some y) (hy:L2.Loc X.env.scope y) (hf:X.fn y=true\/X.env.scope.names.lookup y=some .local)
  (hc:X.calm=true) (S:g9 X scope) (T:kn X scope N n ix) (hi:SI X tg b L)
  (G:∀(fp:List aj)(s:ao)(H:Hp),SG (oG X N scope fp s H) tg g/\wI (oG X N scope fp s H) q ta/\SE (oG X N scope fp s H) e fa)
  (C:kt (.ListComp e [⟨tg,b,q,0⟩] scope pos) (some (.Name y o)) h.line X.env=pure true)
  (hs:∀x,fE b X.env x=pure x:=by intro _;rfl):SS X (.Assign [.Name y o] (.ListComp e [⟨tg,b,q,0⟩] scope pos) h) (b_ (aS i) (dZ (dF n ix L g ta fa))):=
 (Vt hN E hy hf hc S T hi G C hs).of (JU (λσ H Q h_=>h_.el λρ l st lr sr p=>Lp _ _ _ ⟨ρ,l,st,lr,sr,p.bnd0.imp λds U ρ1 O v I Y a vs ha c J B=>by
  have x:Ex ρ H (ρ1++[a]) O:=by
   obtain⟨τ,e,f⟩:=v.pre;refine⟨⟨τ++[a],by rw[e,bF],λb u=>?_⟩,v.fix,v.oth,v.knd⟩;rcases aV.mp u with u|u
   ·exact f b u
   ·rw[aI]at u;rw[u];exact ha
  refine Y (ρ1++[a]) O x (I.keep J c B) _ (.ref ⟨_,J,rfl⟩ ?_);rw[<- I.len];simp⟩) Me)
theorem KS{g : D -> M D}(O : CallR X (.builtin id) (λxs H Q => ∃v, xs = [v] /\ vR X.K g v H Q))(L : Gl X x)(J : X.mg x = none)(G : cV x = some (.builtin id))(U : SE X e fa)(I : x ≠ "__name__" := by decide)(o : (x == ("__debug__" : Str)) = false := by decide)
  (q:starEach [e] X.env=[(false,eval e X.env)]:=by rfl):SE X (.Call (.Name x p) [e] [] pos) (c1 g fa):=
 (Du O L J G (rA U uk q) I o q rfl).of λσ H Q Y=>Y.el λρ l st E sr p=>⟨ρ,l,st,E,sr,p.bnd.imp λd h ρ1 H1 c u C v B=>⟨v,rfl,ρ1,h,d,u,B,C⟩⟩
theorem Gy{g : D -> M D}(O : CallR X (.type T) (λxs H Q => ∃v, xs = [v] /\ vR X.K g v H Q))(L : Gl X x)(J : X.mg x = none)(G : cV x = some (.type T))(U : SE X e fa)(I : x ≠ "__name__" := by decide)(o : (x == ("__debug__" : Str)) = false := by decide)
  (q:starEach [e] X.env=[(false,eval e X.env)]:=by rfl):SE X (.Call (.Name x p) [e] [] pos) (c1 g fa):=
 (EG O L J G (rA U uk q) I o q rfl).of λσ H Q Y=>Y.el λρ l st E sr p=>⟨ρ,l,st,E,sr,p.bnd.imp λd h ρ1 H1 c u C v B=>⟨v,rfl,ρ1,h,d,u,B,C⟩⟩
def CU(K:ah)(g:List D->M D):List V->Hp->VK->Prop:=λxs H Q=>∃a h ρ st ds,xs=[.ref a]/\ii K H a h/\SR K ρ H st/\bJ K ρ H h ds/\aU K ρ H (g ds st) λr _ ρ' l=>∀v,du K ρ' l v r->Q v l
theorem NW{g : List D -> M D}(U : CallR X (.builtin id) (CU X.K g))(O : Gl X x)(L : X.mg x = none)(q : cV x = some (.builtin id))(B : SL X e ca)(J : x ≠ "__name__" := by decide)(u : (x == ("__debug__" : Str)) = false := by decide)
  (v:starEach [e] X.env=[(false,eval e X.env)]:=by rfl):SE X (.Call (.Name x p) [e] [] pos) (gY g ca):=
 (Du U O L q (rA B uk v) J u v rfl).of λσ H Q Y=>Y.el λρ l st I sr p=>⟨ρ,l,st,I,sr,p.bnd.imp λds h ρ1 H1 c E G a C B na q o=>⟨a,C,ρ1,h,ds,rfl,ii.of q,E,o,G⟩⟩
theorem Qf{g : List D -> M D}(U : CallR X (.type T) (CU X.K g))(O : Gl X x)(L : X.mg x = none)(q : cV x = some (.type T))(B : SL X e ca)(J : x ≠ "__name__" := by decide)(u : (x == ("__debug__" : Str)) = false := by decide)
  (v:starEach [e] X.env=[(false,eval e X.env)]:=by rfl):SE X (.Call (.Name x p) [e] [] pos) (gY g ca):=
 (EG U O L q (rA B uk v) J u v rfl).of λσ H Q Y=>Y.el λρ l st I sr p=>⟨ρ,l,st,I,sr,p.bnd.imp λds h ρ1 H1 c E G a C B na q o=>⟨a,C,ρ1,h,ds,rfl,ii.of q,E,o,G⟩⟩
theorem TF{prog:Program}{w:bN}{A:bH}{E:af->ao->Prop}{s:ao}{K:Type}[DecidableEq K]{knd:uS prog w K}{d:aj}{xs:List (K×aj×af)}{Q:af->ao->Prop}(hd:(d == cX)=false)(q:s.heap.DictOfH knd d xs)(hfit:(xs.length:Int) < 2^63)
  (h:Q (.int xs.length (s.toks+1)) { s with toks:=s.toks+1+1 }):aJ (bb prog w) A (call (.builtin "len") [.ref d]) Q E s:=by
 refine Calls.call_function_entry kind_len plain_len entry_len (args_len1 _) ?_;unfold Builtin.«len»;have l:MeetsIn prog w (Builtin.«dict.__len__» ⟨[.ref d],[]⟩) (λ_ R s=>∃xs,s.heap.DictOfH knd d xs/\R (.ok (.ret (.int xs.length s.toks))) { s with toks:=s.toks+1 }):=.of_wp λA R s g=>by
  obtain⟨xs,q,h⟩:=g;obtain⟨o,es,ep,v,G,u,B,_,C⟩:=q
  show aJ _ _ (dictSize d >>= _) _ _ s;unfold dictSize;refine ab (ab (fF v u (au ?_)))
  show aJ _ _ (Builtin.Dict.pendingCount d >>= _) _ _ s;refine ab (wpAny_pendingCount_other hd ?_);refine G7 ?_;rw[Nat.add_zero,lQ B];exact h
 refine ab (m:=oneArg "len" _) (au ?_);refine ab (m:=callSpecial? (.ref d) (aA "__len__")) (b9 (name:=aA "__len__") q.typeIs De
  (xD De q.typeIs F.entry_dict_len (F.args_dict_len_1 _) l ⟨xs,q,?_⟩))
 show aJ _ _ _ _ _ { s with toks:=s.toks+1 };refine ab (c_ (au ?_));refine ab (iA ?_)
 show aJ _ _ (if ((xs.length:Nat):Int) < 0 then _ else _) _ _ _;rw[aB (by ext)]
 show aJ _ _ (if ((xs.length:Nat):Int) ≥ 2^63 then _ else _) _ _ _;rw[aB (by ext)];exact ab (wpAny_mkInt (au ⟨_,rfl,h⟩))
theorem Qg:CallR X (.builtin "len") (λxs H Q=>∃(ρ:List aj)(st:aX)(n:Nat)(a:aj)(b:Bool)(l:List (D×D)),xs=[.ref a]/\SR X.K ρ H st/\ρ[n]?=some a/\st[n]?=some (.dct b l)/\Q (.int l.length) H):=by
 intro v s σ H xs L Q I r h;obtain⟨ρ,st,n,a,b,l,e,sr,E,C,q⟩:=h;subst e;obtain⟨u,rfl,B⟩:=ut r;cases B;have g:=sr.ob n a _ E C;cases b with
 |false=>
  obtain⟨es,e,r⟩:=g;rw[<- KR.length r]at q;exact V3 I (.inl e) λt O J=>⟨.int es.length,H,J,⟨t,rfl⟩,q⟩
 |true=>
  obtain⟨es,e,r⟩:=g;obtain⟨z,hd,xs,o,G,_⟩:=yw I e r;rw[<- NR.length r,di o]at q;have hz:xs.length<=sizeLine:=by rw[<- di o];exact z
  exact TF hd G (by rw[mX]at hz;ext) ⟨.int xs.length,H,I.tok _,⟨_,rfl⟩,q⟩
theorem SQ:CallR X (.builtin "len") (λxs H Q=>∃v,xs=[v]/\vR X.K gD v H Q):=((Ve.or Sh).or Qg).of λxs H Q l=>by
 obtain⟨v,e,ρ,st,d,sr,C,p⟩:=l;cases C with
 |@tup a g ds h r=>exact .inl (.inl ⟨a,g,e,.inr h,by rw[r.length];exact p.ret sr _ (.int _)⟩)
 |@lit a g ds h r=>exact .inl (.inl ⟨a,g,e,.inl h.seq,by rw[r.length];exact p.ret sr _ (.int _)⟩)
 |@ref a n _ h=>
  obtain⟨ds,u,o⟩:=aU.getL (aU.bnd p) sr;obtain⟨G,g,B,E,r⟩:=sr.seq u;rw[h]at B;cases B;exact .inl (.inl ⟨a,g,e,.inl (ii.of E),by rw[r.length];exact o.ret sr _ (.int _)⟩)
 |str z=>exact .inl (.inr ⟨z,e,(aU.chk p).1,(aU.chk p).2.ret sr _ (.int _)⟩)
 |@dic a n _ h=>
  obtain⟨b,q,u,o⟩:=aU.getDc (aU.bnd p) sr;exact .inr ⟨ρ,st,n,a,b,q,e,sr,h,u,o.ret sr _ (.int _)⟩
 |_=>exact p.elim
theorem Sl:CallR X (.type "int") (λxs H Q=>∃v,xs=[v]/\vR X.K intD v H Q):=Pw.of λxs H Q g=>by
 obtain⟨v,e,ρ,st,d,sr,h,p⟩:=g;cases h with
 |int i=>exact .inl ⟨i,e,p.ret sr _ (.int _)⟩
 |bl k=>exact .inr ⟨k,e,p.ret sr _ (.int _)⟩
 |_=>exact p.elim
theorem Ui:CallR X (.type "tuple") (λxs H Q=>∃v,xs=[v]/\vR X.K tupleD v H Q):=Ll.of λxs H Q q=>by
 obtain⟨v,e,ρ,st,d,sr,B,p⟩:=q;cases B with
 |@tup a o ds h r=>exact⟨a,o,e,.inr ⟨h,p.ret sr _ (.tup h r)⟩⟩
 |@lit a o ds h r=>exact⟨a,o,e,.inl ⟨h.seq,λl g=>p ρ _ (Ex.new g) (sr.new g) _ (.tup (iZ.of ky) (r.mono (Ex.new g)))⟩⟩
 |@ref a n _ h=>
  obtain⟨ds,G,C⟩:=aU.getL (aU.bnd p) sr;obtain⟨I,o,u,E,r⟩:=sr.seq G;rw[h]at u;cases u;exact⟨a,o,e,.inl ⟨ii.of E,λl g=>C ρ _ (Ex.new g) (sr.new g) _ (.tup (iZ.of ky) (r.mono (Ex.new g)))⟩⟩
 |_=>exact p.elim
theorem V6:CallR X (.type "tuple") (CU X.K kA):=Ll.of λxs H Q g=>
 by obtain⟨a,o,ρ,st,ds,e,q,sr,r,p⟩:=g;exact⟨a,o,e,.inl ⟨q,λl h=>p ρ _ (Ex.new h) (sr.new h) _ (.tup (iZ.of ky) (r.mono (Ex.new h)))⟩⟩
end
section
variable{X:Cx}{a b c e tg:Expr}{es:List Expr}{pos:Pos}{fa fb fc:CE}{ca cb:CA}{ta tb:CT}{K:ah}{ρ:List aj}{H:Hp}{st:aX}{x:Str}{p:Pos}{T:String}
theorem Jk{ds:List D}{o:List Int}{l:List V}(h:m6 ds=some o)(g:bJ K ρ H l ds):l=o.map V.int:=by
 induction ds generalizing o l with
 |nil=>cases g;cases h;rfl
 |cons d ds ih=>
  cases g with
  |cons r t=>
   cases r with
   |int i=>
    unfold m6 at h;cases q:m6 ds with
    |none=>rw[q]at h;cases h
    |some ms=>
     rw[q]at h;have h':i::ms=_:=aG h;subst h';rw[ih q t];rfl
   |_=>cases h
theorem M5:∀{ds:List D}{l:List Bool}{g:List V},mF ds=some l->bJ K ρ H g ds->g=l.map V.bl
 |[],_,_,h,.nil=>by cases h;rfl
 | .bl i::ds,_,_,h,.cons r t=>by
  unfold mF at h;cases q:mF ds with
  |none=>rw[q]at h;cases h
  |some ms=>
   rw[q]at h;have h':i::ms=_:=aG h;subst h';cases r;rw[M5 q t];rfl
 | .non::_,_,_,h,_=>by cases h
 | .int _::_,_,_,h,_=>by cases h
 | .str _::_,_,_,h,_=>by cases h
 | .tup _::_,_,_,h,_=>by cases h
 | .lit _::_,_,_,h,_=>by cases h
 | .ref _::_,_,_,h,_=>by cases h
theorem LF:∀{bs:List Bool}{g:List af},bU (bs.map V.bl) g->g=bs.map dq
 |[],_,.nil=>rfl
 |_::_,_,.cons r t=>by cases r;rw[LF t];rfl
theorem QR(hc:X.calm=true):CallR X (.builtin "all") (λxs H Q=>∃(l:aj)(bs:List Bool),xs=[.ref l]/\ii X.K H l (bs.map V.bl)/\Q (.bl (bs.all id)) H):=by
 intro O s σ H xs us Q I r h;obtain⟨l,bs,rfl,hq,q⟩:=h;obtain⟨u,rfl,rx⟩:=ut r;cases rx;obtain⟨its,rv,C,hz⟩:=I.list hq;have ei:=LF rv;subst ei;refine call_all_walk (ik C.isList ?_);have G:l < s.heap.objs.size:=by obtain⟨o,E,_⟩:=C.isList;exact aK E
 refine⟨s.heap.objs.size,_,_,_,_,_,λi=>(bs[i]?).getD true,rfl,v_ (A:=X.A.in1) (I.ok.hd hc) s.heap.objs.size l (bz G) (bs.map dq).toArray,⟨⟨_,aF _ rfl,rfl,rfl⟩,?_⟩,?_,λh' c J=>?_⟩
 ·obtain⟨o,E,c⟩:=C.isList;exact⟨o,aq _ E,c⟩
 ·intro i v h l o c L;have g:(bs.map dq)[i]?=some v:=by simpa using c
  rw[ak]at g;dsimp only at L;cases e:bs[i]? with
  |none=>rw[e]at g;cases g
  |some k=>
   rw[e]at g L;have:v=dq k:=(aG g).symm;subst this;exact fD L
 ·have e : (bG (bs.map dq).toArray.size).all (λi => (bs[i]?).getD true) = bs.all id := by
    have g:(bs.map dq).toArray.size=bs.length:=by simp
    rw[g,zE,dW,dW];constructor
    ·intro hh k J;obtain⟨i,B⟩:=kN J;have:=hh i (j_.mpr (ac.mp B).1);rw[B]at this;exact this
    ·intro hh i B;have U:=j_.mp B;rw[ai U];exact hh _ (bA U)
  rw[e];exact⟨.bl _,H,I.kept (t':=c) λb o Y=>J b o (by simp;exact bz (aK Y)) (aq _ Y),rfl,q⟩
theorem Ja:∀(g:List Int)(n:Int),g.foldl max n∈n::g/\∀a∈n::g,a<=g.foldl max n
 |[],n=>⟨by simp,by simp⟩
 |m::g,n=>by
  obtain⟨u,l⟩:=Ja g (max n m);rw[rC];refine⟨?_,λa q=>?_⟩
  ·rcases bn.mp u with e|e
   ·rw[e];by_cases o:n<=m
    ·rw[Int.max_eq_right o];simp
    ·rw[Int.max_eq_left (by ext)];simp
   ·exact bD _ (bD _ e)
  ·have h:=l (max n m) cE;rcases bn.mp q with e|e
   ·subst e;exact FX (Int.le_max_left ..) h
   ·rcases bn.mp e with e|e
    ·subst e;exact FX (Int.le_max_right ..) h
    ·exact l a (bD _ e)
theorem L9{g:List af}{h:List Int}(l:lx g h):∃xs,g.toArray=uU xs/\h=xs.toList.map (·.1):=by obtain⟨xs,e⟩:=l.allInts.items;exact⟨xs,e,by rw[<- l.numsOf,<- nums_intItems,<- e]⟩
theorem Ud(hc:X.calm=true):CallR X (.builtin "max") (λxs H Q=>∃(l:aj)(n:Int)(g:List Int),xs=[.ref l]/\ii X.K H l ((n::g).map V.int)/\Q (.int (g.foldl max n)) H):=by
 intro E s σ H xs us Q I r h;obtain⟨l,n,g,rfl,hq,q⟩:=h;obtain⟨u,rfl,Y⟩:=ut r;cases Y;obtain⟨its,c,pl,hz⟩:=I.list hq;obtain⟨ys,e,o⟩:=L9 (Ka c);have G:=pl.isList;rw[e]at G;have hsz:ys.size=g.length+1:=by have:=cC dP o;simpa using this.symm
 refine max_intList (I.ok.hd hc) G (by ext) λv h' U hv hk=>?_;obtain⟨t,rfl⟩:=zF hv;obtain⟨b1,O⟩:=argBest_gt (nX ys) (ys.size-1);obtain⟨L,f2⟩:=Ja g n;generalize mZ (λi j=>decide (nX ys i > nX ys j)) (ys.size-1)=k at b1 O ⊢;have B:nX ys k∈n::g:=by rw[o,zG];exact getD_mem (by rw[<- o];simp;ext)
 have C:g.foldl max n<=nX ys k:=by rw[o]at L;obtain⟨j,J,ej⟩:=mem_getD L;rw[<- ej,<- zG];exact O j (by rw[<- o]at J;simp at J;ext)
 have hM:nX ys k=g.foldl max n:=Am (f2 _ B) C;rw[hM];exact⟨.int _,H,I.kept (t':=U) hk,⟨t,rfl⟩,q⟩
theorem QM(l:X.calm=true):CallR X (.builtin "all") (CU X.K vE):=(QR l).of λxs H Q g=>by
 obtain⟨a,o,ρ,st,ds,e,h,sr,r,p⟩:=g;unfold vE at p;cases q:mF ds with
 |none=>rw[q]at p;exact p.elim
 |some bs=>
  rw[q]at p;have:=M5 q r;subst this;exact⟨a,bs,e,h,p.ret sr _ (.bl _)⟩
theorem Jo(l:X.calm=true):CallR X (.builtin "max") (CU X.K mz):=(Ud l).of λxs H Q g=>by
 obtain⟨a,o,ρ,st,ds,e,h,sr,r,p⟩:=g;unfold mz at p;cases q:m6 ds with
 |none=>rw[q]at p;exact p.elim
 |some ns=>
  rw[q]at p;have:=Jk q r;subst this;cases ns with
  |nil=>exact p.elim
  |cons n ns=>exact⟨a,n,ns,e,h,p.ret sr _ (.int _)⟩
structure su(T:String):Prop where
 non:∀K,fW K (.type "NoneType") (.type T)=some (["NoneType"].contains T)
 bl:∀K,fW K (.type "bool") (.type T)=some (["bool","int"].contains T)
 int:∀K,fW K (.type "int") (.type T)=some (["int"].contains T)
 str:∀K,fW K (.type "str") (.type T)=some (["str"].contains T)
 tup:∀K,fW K (.type "tuple") (.type T)=some (["tuple"].contains T)
 lst:∀K,fW K (.type "list") (.type T)=some (["list"].contains T)
theorem Pg:su "int":=⟨λ_=>rfl,λ_=>rfl,λ_=>rfl,λ_=>rfl,λ_=>rfl,λ_=>rfl⟩
theorem SH:su "bool":=⟨λ_=>rfl,λ_=>rfl,λ_=>rfl,λ_=>rfl,λ_=>rfl,λ_=>rfl⟩
theorem QV:su "tuple":=⟨λ_=>rfl,λ_=>rfl,λ_=>rfl,λ_=>rfl,λ_=>rfl,λ_=>rfl⟩
theorem JG{g:List (aj×Obj)}{σ:St}{s:ao}{Q:af->ao->Prop}{t:String}{u:aj}{k:Bool}(I:Inv X g σ H s)(l:∃o,s.heap.get? u=some o/\o.cls=.type t)(v:t="tuple"\/t="list")(e:fW X.K (.type t) (.type T)=some k)
  (h:∀q,Q (.bool k) { s with toks:=q }):aJ (bb X.prog X.w) X.A (call (.builtin "isinstance") [.ref u,.type T]) Q X.xe s:=by
 rcases v with rfl|rfl
 ·exact df uM I.kIn l e nofun h
 ·exact df pe I.kIn l e nofun h
theorem OW(B:su T):CallR X (.builtin "isinstance") (λxs H Q=>∃v,xs=[v,.ty T]/\vR X.K (ie [T]) v H Q):=by
 intro C s σ H xs us Q I r l;obtain⟨v,e,ρ,st,d,sr,c,p⟩:=l;subst e;obtain⟨u,Y,rfl,g,O⟩:=LN r;have ew:Y=vW T:=O;subst ew;have fin:∀k:Bool,Q (.bl k) H->∀L,EP X C σ Q (.bool k) { s with toks:=L }:=λk q L=>⟨.bl k,H,I.tok L,rfl,q⟩
 cases c with
 |non=>
  refine GY I g .non (B.non _) (fin _ ?_);simpa [ie,t7] using p.ret sr _ (.bl _)
 |bl k=>
  refine GY I g (.bl k) (B.bl _) (fin _ ?_);simpa [ie,t7] using p.ret sr _ (.bl _)
 |int k=>
  refine GY I g (.int k) (B.int _) (fin _ ?_);simpa [ie,t7] using p.ret sr _ (.bl _)
 |str k=>
  refine GY I g (.str k) (B.str _) (fin _ ?_);simpa [ie,t7] using p.ret sr _ (.bl _)
 |tup h r=>
  have J:u=bc _:=g;subst J;obtain⟨its,_,⟨o,G,E,_⟩,_⟩:=I.tuple h;refine JG I ⟨o,G,E⟩ (.inl rfl) (B.tup _) (fin _ ?_);simpa [ie,t7] using p.ret sr _ (.bl _)
 |lit h r=>
  have J:u=bc _:=g;subst J;obtain⟨its,_,U,_⟩:=I.list h.seq;obtain⟨o,G,E,_⟩:=U.isList;refine JG I ⟨o,G,E⟩ (.inr rfl) (B.lst _) (fin _ ?_);simpa [ie,t7] using p.ret sr _ (.bl _)
 |@ref a n kk h=>
  have J:u=bc _:=g;subst J;obtain⟨vs,hv⟩:=LX kk;obtain⟨its,_,U,_⟩:=I.list (ii.of hv);obtain⟨o,G,E,_⟩:=U.isList;refine JG I ⟨o,G,E⟩ (.inr rfl) (B.lst _) (fin _ ?_);simpa [ie,t7] using p.ret sr _ (.bl _)
 |_=>exact p.elim
theorem VE{y:Str}{g:Pos}(B:su T)(hg:Gl X "isinstance")(c:X.mg "isinstance"=none)(E:Gl X y)(C:X.mg y=none)(o:cV y=some (.type T))(ha:SE X e fa)(Y:cV "isinstance"=some (.builtin "isinstance"))
  (u:y≠"__name__":=by decide) (I:(y == ("__debug__":Str))=false:=by decide)
  (J:starEach [e,.Name y g] X.env=(false,eval e X.env)::starEach [.Name y g] X.env:=by rfl) (G:starEach [.Name y g] X.env=(false,eval (.Name y g) X.env)::starEach [] X.env:=by rfl) (q:(backTo pos (starEach [.Name y g] X.env)).any (·.1)=false:=by rfl):
  SE X (.Call (.Name "isinstance" p) [e,.Name y g] [] pos) (c1 (ie [T]) fa):=
 (Du (OW B) hg c Y (rA ha (rA (Tn (v:=.ty T) E C o rfl u I) uk G) J) (by decide) (by decide) J q).of λσ H Q h_=>h_.el λρ l st U sr p=>⟨ρ,l,st,U,sr,p.bnd.imp λd h ρ1 H1 x1 L g v O=>⟨v,rfl,ρ1,h,d,L,O,g⟩⟩
end
section
variable{X:Cx}{K:ah}{ρ:List aj}{H:Hp}{st:aX}{ar:List (aj×Obj)}{σ:St}{s:ao}
theorem Jy{f:D->D->Option Bool}:∀{xs ys:List D}{r:Bool},nO f xs ys=some r->∀(j:Nat)(x y:D),xs[j]?=some x->ys[j]?=some y->∃k,f x y=some k
 |[],_,_,_,j,x,y,h,_=>by cases j<;>cases h
 |_::_,[],_,_,j,x,y,_,h=>by cases j<;>cases h
 |a::xs,b::ys,r,h,j,x,y,hx,hy=>by
  unfold nO at h;cases e:f a b with
  |none=>rw[e]at h;cases h
  |some k=>
   cases j with
   |zero=>cases hx;cases hy;exact⟨k,e⟩
   |succ j=>
    rw[e]at h;have g:xs[j]?=some x:=hx;have c:ys[j]?=some y:=hy;cases k with
    |true=>exact Jy h j x y g c
    |false=>
     cases l:nO f xs ys with
     |none=>rw[l]at h;cases h
     |some r'=>exact Jy l j x y g c
noncomputable def C1(f:D->D->Option Bool)(xs ys:List D)(j:Nat):Bool:=match xs[j]?,ys[j]? with
 |some x,some y=>(f x y).getD false
 |_,_=>true
theorem NP{f:D->D->Option Bool}:∀{xs ys:List D}{r:Bool},nO f xs ys=some r->r=((bG (min xs.length ys.length)).all (C1 f xs ys)&&xs.length == ys.length)
 |[],[],_,h=>by cases h;rfl
 |_::_,[],_,h=>by cases h;simp
 |[],_::_,_,h=>by cases h;simp
 |a::xs,b::ys,r,h=>by
  have step:(bG (min (a::xs).length (b::ys).length)).all (C1 f (a::xs) (b::ys))=((f a b).getD false&&(bG (min xs.length ys.length)).all (C1 f xs ys)):=by
   have e:min (a::xs).length (b::ys).length=min xs.length ys.length+1:=by simp only[bC];ext
   rw[e,m4,cj,Df];rfl
  rw[step];unfold nO at h;cases e:f a b with
  |none=>rw[e]at h;cases h
  |some k=>
   rw[e]at h;cases k with
   |true=>
    have:=NP h;simp only[f_,Bool.true_and,bC];rw[this];congr 1;rw[zE];simp
   |false=>
    simp only[f_,sD];cases c:nO f xs ys with
    |none=>rw[c]at h;cases h
    |some r'=>rw[c]at h;cases h;rfl
theorem bU.at{c:List V}{g:List af}{j:Nat}{u:af}(r:bU c g)(h:g[j]?=some u):∃v,c[j]?=some v/\RelV v u:=by
 have q:=r.length;have l:j < c.length:=by rw[q];exact (ac.mp h).1
 obtain⟨u',e,o⟩:=r.get (ai l);rw[h]at e;cases e;exact⟨_,ai l,o⟩
theorem bJ.at{c:List V}{ds:List D}{j:Nat}{v:V}(r:bJ K ρ H c ds)(h:c[j]?=some v):∃d,ds[j]?=some d/\du K ρ H v d:=by
 have o:=r.length;have g:j < ds.length:=by rw[<- o];exact (ac.mp h).1
 obtain⟨q,e,l⟩:=r.get (ai g);rw[h]at e;cases e;exact⟨_,ai g,l⟩
theorem Nf{g:List D->List D->Option Bool}{v:V}{d e:D}{r:Bool}(I:Inv X ar σ H s)(q:∀xs ys l k,bJ X.K ρ H l xs->bJ X.K ρ H l ys->g xs ys=some k->k=true)(h:GA g d e=some r)(o:du X.K ρ H v d)(c:du X.K ρ H v e):r=true:=by
 cases o with
 |non=>cases c;cases h;rfl
 |bl b=>cases c;cases h;simp
 |int b=>cases c;cases h;simp
 |str b=>cases c;cases h;simp
 |tup h1 q1=>
  cases c with
  |tup h2 q2=>
   have:=I.tuple_inj h1 h2;subst this;exact q _ _ _ _ q1 q2 h
  |_=>cases h
 |_=>cases e<;>cases h
theorem Mv{f:D->D->Option Bool}(q:∀v d e k,du K ρ H v d->du K ρ H v e->f d e=some k->k=true){xs ys:List D}{g:List V}{k:Bool}(o:bJ K ρ H g xs)(l:bJ K ρ H g ys)(h:nO f xs ys=some k):k=true:=by
 induction xs generalizing ys g k with
 |nil=>cases o;cases l;cases h;rfl
 |cons x xs ih=>
  cases o with
  |cons a b=>cases l with
   |cons c d=>
    unfold nO at h;cases e:f _ _ with
    |none=>rw[e]at h;cases h
    |some k=>
     rw[e]at h;have:=q _ _ _ _ a c e;subst this;exact ih b d h
theorem Oo(I:Inv X ar σ H s):∀(n:Nat){v:V}{d e:D}{r:Bool},vA n d e=some r->du X.K ρ H v d->du X.K ρ H v e->r=true
 |0,_,_,_,_,h,r1,r2=>Nf I (λ_ _ _ _ _ _ z=>by cases z) h r1 r2
 |n+1,_,_,_,_,h,r1,r2=>Nf I (λxs ys o k l g z=>Mv (λv d e k a b c=>Oo I n c a b) l g z) h r1 r2
open SeqAt in
noncomputable abbrev Tr(A:bH)(s:ao)(g c:af)(r:Bool):Prop:=RcAt A s g c r/\RcNeAt A s g c (!r)/\EqAt A s g c r
open SeqAt in
theorem N7{g:List D->List D->Option Bool}{A:bH}{v w:V}{u l:af}{d e:D}{r:Bool}(I:Inv X ar σ H s)(hu:A.units < dk)
  (hg:∀xs ys k,g xs ys=some k->∀q ws its o,bJ X.K ρ H q xs->bJ X.K ρ H ws ys->bU q its->bU ws o ->
   ∃e:Nat->Bool,k=((bG (min its.length o.length)).all e&&its.length == o.length)/\∀(j:Nat)x y,its[j]?=some x->o[j]?=some y->EqAt A.in1 s x y (e j))
  (hs:∀xs ys q k,bJ X.K ρ H q xs->bJ X.K ρ H q ys->g xs ys=some k->k=true)
  (h:GA g d e=some r) (r1:du X.K ρ H v d) (B:du X.K ρ H w e) (v1:RelV v u) (v2:RelV w l):Tr A s u l r:=by
 cases r1 with
 |lit _ _=>cases e<;>cases h
 |ref _ _=>cases e<;>cases h
 |dic _ _=>cases e<;>cases h
 |exn0 _ _=>cases e<;>cases h
 |exn _ _ _ _=>cases e<;>cases h
 |fn _=>cases e<;>cases h
 |non=>
  cases (show u=bQ from v1);cases B with
  |non=>cases (show l=bQ from v2);cases h;exact⟨.none_none,.none_none,.same _⟩
  |bl b=>cases (show l=dq b from v2);cases h;exact⟨.none_bool b,.none_bool b,.none_bool b⟩
  |int b=>obtain⟨t,rfl⟩:=(show ∃t,l=gh b t from v2);cases h;exact⟨.none_int b t,.none_int b t,.none_int b t⟩
  |str b=>obtain⟨t,rfl⟩:=(show ∃t,l=iM b t from v2);cases h;exact⟨.none_str b t,.none_str b t,.none_str b t⟩
  |tup h2 q2=>cases (show l=bc _ from v2);cases h;obtain⟨_,_,p,_⟩:=I.tuple h2;exact⟨.none_tuple p hu,.none_tuple p hu,.none_tuple p hu⟩
  |_=>cases h
 |bl a=>
  cases (show u=dq a from v1);cases B with
  |non=>cases (show l=bQ from v2);cases h;exact⟨.bool_none a,.bool_none a,.bool_none a⟩
  |bl b=>cases (show l=dq b from v2);cases h;exact⟨.bool_bool a b,.bool_bool a b,.bool_bool a b⟩
  |int b=>obtain⟨t,rfl⟩:=(show ∃t,l=gh b t from v2);cases h;exact⟨.bool_int a b t,.bool_int a b t,.bool_int a b t⟩
  |str b=>obtain⟨t,rfl⟩:=(show ∃t,l=iM b t from v2);cases h;exact⟨.bool_str a b t,.bool_str a b t,.bool_str a b t⟩
  |tup h2 q2=>cases (show l=bc _ from v2);cases h;obtain⟨_,_,p,_⟩:=I.tuple h2;exact⟨.bool_tuple a p hu,.bool_tuple a p hu,.bool_tuple a p hu⟩
  |_=>cases h
 |int a=>
  obtain⟨c,rfl⟩:=(show ∃t,u=gh a t from v1)
  cases B with
  |non=>cases (show l=bQ from v2);cases h;exact⟨.int_none a c,.int_none a c,.int_none a c⟩
  |bl b=>cases (show l=dq b from v2);cases h;exact⟨.int_bool a c b,.int_bool a c b,.int_bool a c b⟩
  |int b=>obtain⟨t,rfl⟩:=(show ∃t,l=gh b t from v2);cases h;exact⟨.int_int a c b t,.int_int a c b t,.int_int a c b t⟩
  |str b=>obtain⟨t,rfl⟩:=(show ∃t,l=iM b t from v2);cases h;exact⟨.int_str a c b t,.int_str a c b t,.int_str a c b t⟩
  |tup h2 q2=>cases (show l=bc _ from v2);cases h;obtain⟨_,_,p,_⟩:=I.tuple h2;exact⟨.int_tuple a c p hu,.int_tuple a c p hu,.int_tuple a c p hu⟩
  |_=>cases h
 |str a=>
  obtain⟨c,rfl⟩:=(show ∃t,u=iM a t from v1)
  cases B with
  |non=>cases (show l=bQ from v2);cases h;exact⟨.str_none a c,.str_none a c,.str_none a c⟩
  |bl b=>cases (show l=dq b from v2);cases h;exact⟨.str_bool a c b,.str_bool a c b,.str_bool a c b⟩
  |int b=>obtain⟨t,rfl⟩:=(show ∃t,l=gh b t from v2);cases h;exact⟨.str_int a c b t,.str_int a c b t,.str_int a c b t⟩
  |str b=>obtain⟨t,rfl⟩:=(show ∃t,l=iM b t from v2);cases h;exact⟨.str_str a c b t,.str_str a c b t,.str_str a c b t⟩
  |tup h2 q2=>cases (show l=bc _ from v2);cases h;obtain⟨_,_,p,_⟩:=I.tuple h2;exact⟨.str_tuple a c p hu,.str_tuple a c p hu,.str_tuple a c p hu⟩
  |_=>cases h
 |@tup l1 q xs h1 q1=>
  cases (show u=bc _ from v1);obtain⟨its,Y,p,_⟩:=I.tuple h1;cases B with
  |non=>cases (show l=bQ from v2);cases h;exact⟨.tuple_none p hu,.tuple_none p hu,.tuple_none p hu⟩
  |bl b=>cases (show l=dq b from v2);cases h;exact⟨.tuple_bool b p hu,.tuple_bool b p hu,.tuple_bool b p hu⟩
  |int b=>obtain⟨t,rfl⟩:=(show ∃t,l=gh b t from v2);cases h;exact⟨.tuple_int b t p hu,.tuple_int b t p hu,.tuple_int b t p hu⟩
  |str b=>obtain⟨t,rfl⟩:=(show ∃t,l=iM b t from v2);cases h;exact⟨.tuple_str b t p hu,.tuple_str b t p hu,.tuple_str b t p hu⟩
  |@tup l2 ws ys h2 q2=>
   cases (show l=bc _ from v2);obtain⟨o,G,L,_⟩:=I.tuple h2;obtain⟨ef,ek,he⟩:=hg xs ys r h q ws its o q1 q2 Y G;have C:∀j(U:j < its.toArray.size)(Q:j < o.toArray.size),EqAt A.in1 s its.toArray[j] o.toArray[j] (ef j):=λj U Q=>
    he j _ _ (by rw[kP];exact ai (by simpa using U)) (by rw[kP];exact ai (by simpa using Q))
   have E:=RcAt.tuples (A:=A) (s:=s) p L hu C;have J:=RcNeAt.tuples (A:=A) (s:=s) p L hu C;simp only[aH]at E J;rw[<- ek]at E J;refine⟨E,J,?_⟩;by_cases O:l1=l2
   ·subst O;have:=I.tuple_inj h1 h2;subst this;rw[hs xs ys q r q1 q2 h];exact .same _
   ·exact .of_refs O E
  |_=>cases h
open SeqAt in
theorem Mz{n:Nat}{A:bH}(I:Inv X ar σ H s)
  (ih:∀{v w:V}{u q:af}{d e:D}{r:Bool},vA n d e=some r->du X.K ρ H v d->du X.K ρ H w e->RelV v u->RelV w q->EqAt A s u q r)
  {xs ys:List D}{k:Bool} (h:nO (vA n) xs ys=some k) {o ws:List V}{its c:List af} (E:bJ X.K ρ H o xs) (C:bJ X.K ρ H ws ys) (B:bU o its) (g:bU ws c):
  ∃e:Nat->Bool,k=((bG (min its.length c.length)).all e&&its.length == c.length)/\∀(j:Nat)x y,its[j]?=some x->c[j]?=some y->EqAt A s x y (e j):=by
 refine⟨C1 (vA n) xs ys,?_,λj x y hx hy=>?_⟩
 ·have l:=B.length;have c:=g.length;have Y:=E.length;have U:=C.length;rw[<- l,<- c,Y,U];exact NP h
 ·obtain⟨v,o,L⟩:=bU.at B hx;obtain⟨w,c,l⟩:=bU.at g hy;obtain⟨d,hd,Q⟩:=bJ.at E o;obtain⟨e,J,O⟩:=bJ.at C c;obtain⟨r,G⟩:=Jy h j d e hd J;have:C1 (vA n) xs ys j=r:=by unfold C1;rw[hd,J];dsimp only;rw[G];rfl
  rw[this];exact ih G Q O L l
open SeqAt in
theorem Ju(I:Inv X ar σ H s):∀(n:Nat){A:bH}{v w:V}{q o:af}{d e:D}{r:Bool},A.units+n < dk->vA n d e=some r->du X.K ρ H v d->du X.K ρ H w e->RelV v q->RelV w o->RcAt A s q o r/\RcNeAt A s q o (!r)/\EqAt A s q o r
 |0,_,_,_,_,_,_,_,_,hu,h,l,g,v1,v2=>N7 I hu (λ_ _ _ z=>by cases z) (λ_ _ _ _ _ _ z=>by cases z) h l g v1 v2
 | n+1, A, _, _, _, _, _, _, _, hu, h, l, g, v1, v2 => N7 I (by ext)
   (λxs ys k z G ws its E C B J u=>Mz I (λh l g v1 v2=>(Ju I n (A:=A.in1) (by show A.units+1+n < dk;ext) h l g v1 v2).2.2) z C B J u)
   (λxs ys G k C B z=>Mv (λv d e k a b c=>Oo I n c a b) C B z) h l g v1 v2
end
section
variable{X:Cx}{K:ah}{ρ:List aj}{H:Hp}{st:aX}{ar:List (aj×Obj)}{σ:St}{s:ao}
open SeqAt in
theorem LM(hu:X.A.units+60 < dk)(I:Inv X ar σ H s)(sr:SR X.K ρ H st){d e:D}{x y:V}{v u:af}{R:Bool->aX->List aj->Hp->Prop}(r1:du X.K ρ H x d)(J:du X.K ρ H y e)(rx:RelV x v)(ry:RelV y u)
  (p:aU X.K ρ H (Gn d e st) R):∃r,R r st ρ H/\RcAt X.A s v u r/\RcNeAt X.A s v u (!r):=by
 have g:X.A.units < dk:=by ext
 have E:aU X.K ρ H ((match vA 50 d e with|some r=>ret r|none=>bad:M Bool) st) R->∃r,R r st ρ H/\RcAt X.A s v u r/\RcNeAt X.A s v u (!r):=λq=>by
  cases h:vA 50 d e with
  |none=>rw[h]at q;exact q.elim
  |some r=>
   rw[h]at q;obtain⟨k1,k2,_⟩:=Ju I 50 (A:=X.A) (by ext) h r1 J rx ry;exact⟨r,q.ret sr,k1,k2⟩
 cases r1 with
 |non=>
  cases J with
  |@ref a n _ h=>
   obtain⟨ds,Y,L⟩:=aU.getL (aU.bnd p) sr;obtain⟨a',vs,B,O,r⟩:=sr.seq Y;rw[h]at B;cases B;cases (show v=bQ from rx);cases (show u=bc a from ry);obtain⟨_,_,l,_⟩:=I.list (ii.of O);exact⟨false,L.ret sr,.none_list l.isList g,.none_list l.isList g⟩
  |_=>exact E p
 |@ref a n _ h=>
  cases J with
  |non=>
   obtain⟨ds,Y,L⟩:=aU.getL (aU.bnd p) sr;obtain⟨a',vs,B,O,r⟩:=sr.seq Y;rw[h]at B;cases B;cases (show u=bQ from ry);cases (show v=bc a from rx);obtain⟨_,_,l,_⟩:=I.list (ii.of O);exact⟨false,L.ret sr,.list_none l.isList g,.list_none l.isList g⟩
  |@ref b m _ h'=>
   obtain⟨xs,Y,L⟩:=aU.getL (aU.bnd p) sr;obtain⟨ys,e3,C⟩:=aU.getL (aU.bnd L) sr;obtain⟨a',vs,B,O,q1⟩:=sr.seq Y;obtain⟨b',ws,hb,hw,q2⟩:=sr.seq e3;rw[h]at B;cases B;rw[h']at hb;cases hb;cases (show v=bc a from rx);cases (show u=bc b from ry);obtain⟨its,rv,l,_⟩:=I.list (ii.of O);obtain⟨c,G,o,_⟩:=I.list (ii.of hw);have l1:=rv.length;have l2:=G.length;have l3:=q1.length;have l4:=q2.length;by_cases hl:xs.length=ys.length
   ·rw[aD hl]at C;cases q:nO (vA 50) xs ys with
    |none=>rw[q]at C;exact C.elim
    |some r=>
     rw[q]at C;obtain⟨v,L,H⟩:=Mz (A:=X.A.in1) I (λh r1 J v1 v2=>(Ju I 50 (A:=X.A.in1) (by show X.A.units+1+50 < dk;ext) h r1 J v1 v2).2.2) q q1 q2 rv G;have hsz:its.toArray.size=c.toArray.size:=by rw[aH,aH];ext
     have U:∀j(E:j < its.toArray.size)(B:j < c.toArray.size),EqAt X.A.in1 s its.toArray[j] c.toArray[j] (v j):=λj E B=>
      H j _ _ (by rw[kP];exact ai (by simpa using E)) (by rw[kP];exact ai (by simpa using B))
     have u:(bG its.toArray.size).all v=r:=by
      rw[L,aH];have:its.length=c.length:=by ext
      rw[this];simp
     have k1:=RcAt.lists (A:=X.A) (s:=s) l.isList o.isList hsz g U;have k2:=RcNeAt.lists (A:=X.A) (s:=s) l.isList o.isList hsz g U;rw[u]at k1 k2;exact⟨r,C.ret sr,k1,k2⟩
   ·rw[aB hl]at C;have Q:(its.toArray.size != c.toArray.size)=true:=by rw[aH,aH];simp;ext
    exact⟨false,C.ret sr,.lists_lengths l.isList o.isList Q g,.lists_lengths l.isList o.isList Q g⟩
  |_=>exact E p
 |_=>cases e<;>exact E p
theorem Ry(hu:X.A.units+60 < dk):OpR X (dB .Eq) (qv X.K nY):=by intro ar s σ H x y v u Q I h g c;obtain⟨ρ,st,d,e,sr,o,l,p⟩:=c;obtain⟨r,q,B,_⟩:=LM hu I sr o l h g p.bnd;exact B _ _ _ _ ⟨.bl r,H,I,rfl,q.ret sr _ (.bl _)⟩
theorem Sq(hu:X.A.units+60 < dk):OpR X (dB .NotEq) (qv X.K Cw):=by intro ar s σ H x y v u Q I h g c;obtain⟨ρ,st,d,e,sr,o,l,p⟩:=c;obtain⟨r,q,_,B⟩:=LM hu I sr o l h g p.bnd;exact B _ _ _ _ ⟨.bl (!r),H,I,rfl,q.ret sr _ (.bl _)⟩
end
section
variable{X:Cx}{a b c e o tg:Expr}{es:List Expr}{pos ec cx:Pos}{fa fb fc:CE}{ca cb:CA}{ta tb:CT}{K:ah}{ρ:List aj}{H:Hp}{st:aX}{x:Str}{p:Pos}{T:String}
theorem SV(ho : SE X o fa)(E : SE X e fb)(u : eL o "append" X.env (eval o X.env) = eval o X.env := by rfl)
  (C:((backTo cx (starEach [e] X.env)).all (λx => !x.1)&&(uQ cx (pG [] X.env)).all (λx=>x.1.isSome)
   && decide ([e].length+([]:List lY).length+(if ([]:List lY).isEmpty then 0 else 1) < 30))=true:=by rfl)
  (q:(ec.endLine == cx.line)=true:=by rfl) (hs:starEach [e] X.env=(false,eval e X.env)::starEach [] X.env:=by rfl) (g:(backTo cx (starEach [] X.env)).any (·.1)=false:=by rfl):
  SE X (.Call (.Attribute o "append" ec) [e] [] cx) (dJ fa fb):=
 (X3 sF PySem.F.slot_list_append PySem.F.type_list_append Mh ho (rA E uk hs) u C q hs g).of λσ H Q h_=>h_.el λρ l st lr sr p=>⟨ρ,l,st,lr,sr,p.bnd.imp λd B ρ1 H1 x1 c p1 v rv=>by
  cases rv with
  |@ref a n kk h=>
   have hl:n < B.length:=by rw[<- c.len];exact (ac.mp h).1
   obtain⟨G,O⟩:=LX kk;refine⟨.inl ⟨rfl,G,ii.of O⟩,ρ1,l,B,lr.mono x1,c,(aU.bnd p1).imp λy st2 ρ2 H2 x2 I p2 w J=>?_⟩;have h2:ρ2[n]?=some a:=by obtain⟨τ,e,_⟩:=x2.pre;rw[e];exact zY h
   obtain⟨ds,U,p3⟩:=aU.getL (aU.bnd p2) I;obtain⟨a',vs,E,hv,r⟩:=I.seq U;rw[h2]at E;cases E;obtain⟨hz,p4⟩:=aU.chk p3;obtain⟨Y,x3⟩:=I.put (ac.mp U).1 h2 hv (bJ.app r (.cons J .nil));have L:=aU.bnd p4;unfold putL at L;rw[U]at L;exact⟨a,vs,w,rfl,rfl,hv,by rw[r.length];exact hz,(L ρ2 _ x3 Y).ret Y _ .non⟩
  |_=>exact p1.elim⟩
theorem Rl:OpR X (e_ .Add) (qv X.K fG):=by
 intro g s σ H x y v u Q I U O G;obtain⟨ρ,st,d,e,sr,r1,r2,p⟩:=G;cases d with
 |int i=>
  cases e with
  |int j=>
   cases r1.inv;cases r2.inv;exact P7 g s σ H _ _ v u Q I U O ⟨i,j,rfl,rfl,p.ret sr _ (.int _)⟩
  |_=>exact p.elim
 |str i=>
  cases e with
  |str j=>
   cases r1.inv;cases r2.inv;exact Xg g s σ H _ _ v u Q I U O ⟨i,j,rfl,rfl,(aU.chk p).1,(aU.chk p).2.ret sr _ (.str _)⟩
  |_=>exact p.elim
 |ref _=>
  cases e with
  |ref _=>
   obtain⟨_,rfl,_,h⟩:=r1.inv;obtain⟨_,rfl,_,h'⟩:=r2.inv;obtain⟨xs,e2,p1⟩:=aU.getL (aU.bnd p) sr;obtain⟨ys,e3,J⟩:=aU.getL (aU.bnd p1) sr;obtain⟨a',L,ha,hv,C⟩:=sr.seq e2;obtain⟨b',ws,hb,hw,B⟩:=sr.seq e3;rw[h]at ha;cases ha;rw[h']at hb;cases hb;obtain⟨hz,p3⟩:=aU.chk J;refine Xv g s σ H _ _ v u Q I U O ⟨_,_,L,ws,rfl,rfl,hv,hw,by rw[C.length,B.length];exact hz,λq l=>?_⟩;have nq:=sr.fresh l;have x1:Ex ρ H (ρ++[q]) (fJ H q (.lst (L++ws))):=Ex.newL l;refine p3 _ _ x1 ((sr.new l).keep ky nq ((bJ.app C B).mono (Ex.new l))) _ (.ref ⟨_,ky,rfl⟩ ?_);rw[<- sr.len];simp
  |_=>exact p.elim
 |tup xs=>
  cases e with
  |tup ys=>
   obtain⟨a1,L,rfl,h1,C⟩:=r1.inv;obtain⟨b1,ws,rfl,h2,B⟩:=r2.inv;obtain⟨hz,J⟩:=aU.chk p;by_cases hx:L=[]
   ·subst hx;cases C;obtain⟨its,v1,ht,_⟩:=I.tuple h1;obtain⟨l,v2,hb,_⟩:=I.tuple h2;cases v1;have ev:v=bc a1:=U;have eu:u=bc b1:=O;subst ev eu;obtain⟨⟨cls,dd,data,Q⟩,q,G,n,hd⟩:=ht;obtain⟨⟨L,h,data2,g⟩,Y,o,n2,c⟩:=hb;simp only at G hd o c;subst G hd o c;refine xz (E:=X.xe) ⟨_,q,rfl⟩ ⟨_,Y,rfl⟩ tm v5 mH lZ (lO _ _) (tuple_addW0 a1 b1 _ _ n n2 dd h Q g (by simp)) ⟨q,Y,?_⟩;exact⟨.ref b1,H,I,rfl,J.ret sr _ (.tup h2 B)⟩
   ·refine Uu g s σ H _ _ v u Q I U O ⟨_,_,L,ws,rfl,rfl,h1,h2,hx,by rw[C.length,B.length];exact hz,λc=>?_,λ_ q l=>?_⟩
    ·subst c;cases B;rw[br]at J;exact J.ret sr _ (.tup h1 C)
    ·exact J _ _ (Ex.new l) (sr.new l) _ (.tup (iZ.of ky) ((bJ.app C B).mono (Ex.new l)))
  |_=>exact p.elim
 |_=>cases e<;>exact p.elim
def Jt(K:ah)(f:CO):TO:=λσ H Q=>∃ρ l st,LR K ρ H σ l/\SR K ρ H st/\aU K ρ H (f l st) λo _ _ g=>Q o g
abbrev SO(X:Cx)(e:Option Expr)(f:CO):Prop:=PO X e (Jt X.K f)
theorem S9:SO X none tY:=λg s σ H Q I h=>h.el λρ l st q sr p=>Q8 g s σ H Q I (p.ret sr)
theorem T6(h:SE X e fa):SO X (some e) (pQ fa):=λg s σ H Q I G=>G.el λρ l st E sr p=>MI h g s σ H Q I ⟨ρ,l,st,E,sr,p.bnd.imp λd u ρ1 L J B q v C=>by
 cases C with
 |int i=>exact⟨i,rfl,q.ret B⟩
 |_=>exact q.elim⟩
theorem bJ.cut{g:List V}{ds:List D}(r:bJ K ρ H g ds)(lo h:Option Int):bJ K ρ H (ud g lo h) (cutD ds lo h):=by
 unfold ud cutD;have e:∀n d o,HT.gM n d o=MM.gM n d o:=λn d o=>by cases o<;>rfl
 rw[e,e,r.length];exact (r.drop _).take _
theorem QE{lo hi:Option Expr}{fl fh:CO}{c:Pos}(h:SE X e fa)(hl:SO X lo fl)(hh:SO X hi fh):SL X (.Subscript e (.Slice lo hi none c) pos) (qT fa fl fh):=
 (LQ Wj h hl hh).of λσ H Q h_=>h_.el λρ l st lr sr p=>⟨ρ,l,st,lr,sr,p.bnd0.imp λd O ρ1 H1 C s1 p1 v rv=>⟨ρ1,l,O,lr.mono C,s1,(p1.bnd0.left C).imp λi L ρ2 H2 E s2 c=>⟨ρ2,l,L,(lr.mono C).mono E,s2,(c.bnd0.left (C.trans E)).imp λj J ρ3 H3 x3 G Y=>by
  have U:=(rv.mono E).mono x3;have B:=C.trans (E.trans x3);have fin:∀{a:aj}{u:List V}{ds:List D},ii X.K H3 a u->bJ X.K ρ3 H3 u ds->aU X.K ρ H (ret (cutD ds i j) J) (λds _ ρ' H'=>∀a u,H a=none->a∉ρ'->H' a=some (.lst u)->bJ X.K ρ' H' u ds->Q (.ref a) H')->Ez X.K (.ref a) i j H3 Q:=λ{a u ds}hs r q=>
   ⟨a,u,rfl,hs,λI g=>by
    have hn:H I=none:=by
     cases z:H I with
     |none=>rfl
     |some o=>exact bq g (B.trk I o z)
    exact q ρ3 _ (B.trans (Ex.new g)) (G.new g) I _ hn (G.fresh g) ky ((bJ.cut r i j).mono (Ex.new g))⟩
  cases U with
  |lit h r=>exact fin h.seq r Y
  |ref _ h=>
   obtain⟨ds,e2,p4⟩:=aU.getL (Y.bnd0.left B) G;obtain⟨a',u,ha,hv,r⟩:=G.seq e2;rw[h]at ha;cases ha;exact fin (ii.of hv) r p4
  |_=>exact Y.elim⟩⟩⟩
end
open PySem.AutoSeq1 (wpAny_loadPart')
theorem WV(l:aj)(items:Array af)(n:Nat)(dct:Option aj)(B:Array (Option af)):
  Meets (Builtin.«enumerate.__new__» ⟨[.type "enumerate",.ref l],[]⟩) (λ_ R s=>s.heap.get? l=some { cls:=.type "tuple",dict:=dct,data:=.seq items n,slots:=B } /\
   R (.ok (.ret (.ref (s.heap.push { cls:=.type "tuple_iterator",data:=.fields #[.ref l,.int 0 0] }).objs.size)))
    { s with heap:=(s.heap.push { cls:=.type "tuple_iterator",data:=.fields #[.ref l,.int 0 0] }).push { cls:=.type "enumerate",data:=.fields #[.none,.bool false,.ref s.heap.objs.size,fB 0,.none,.none] } }):=
 .of_wp λprog w A R s h=>by
  obtain⟨C,g,d,v,os⟩:=s;obtain⟨o,h⟩:=h;have q:=sub_enumerate;have u:um (uo ⟨C,g,d,v,os⟩) l items:=⟨_,o,rfl,n,rfl⟩
  wp_walk using hU o;refine wpAny_stack_any λst=>au ?_;split
  ·rename_i c _ _ _ _ _;cases (c == vW "enumerate")<;>(wp_walk using hU o,kq u;exact⟨_,rfl,h⟩)
  ·wp_walk using hU o,kq u;exact⟨_,rfl,h⟩
section
variable{prog:Program}{w:bN}{A:bH}{E:af->ao->Prop}{s:ao}
theorem Wg{l:aj}{items:Array af}{Q:af->ao->Prop}(C:s.heap.IsTuple l items)
  (h:∀h',IsEnum h' (s.heap.objs.size+1) s.heap.objs.size 0 .none->h'.IsTupleIter s.heap.objs.size l 0->h'.objs.size=s.heap.objs.size+2->(∀b o,s.heap.get? b=some o->h'.get? b=some o)->Q (.ref (s.heap.objs.size+1)) { s with heap:=h' }):
  aJ (bb prog w) A (call (.type "enumerate") [.ref l]) Q E s:=by
 obtain⟨⟨c,dct,G,v⟩,B,g,n,hd⟩:=C
 replace g:c=.type "tuple":=g
 replace hd:G=.seq items n:=hd
 subst g hd;refine callType_new F.called_enumerate (by decide) (F.typeCall_enumerate_1 _) (F.newCall_enumerate_1 _) (λobj=>F.args_object_init_2 obj _) F.entry_enumerate_new (WV l items n dct v) ⟨B,?_⟩;have hz:(s.heap.push { cls:=.type "tuple_iterator",data:=.fields #[.ref l,.int 0 0] }).objs.size=s.heap.objs.size+1:=cq ..
 show _/\_;rw[hz];have u:IsEnum ((s.heap.push { cls:=.type "tuple_iterator",data:=.fields #[.ref l,.int 0 0] }).push { cls:=.type "enumerate",data:=.fields #[.none,.bool false,.ref s.heap.objs.size,fB 0,.none,.none] }) (s.heap.objs.size+1) s.heap.objs.size 0 .none:=by have q:=aF (s.heap.push { cls:=.type "tuple_iterator",data:=.fields #[.ref l,.int 0 0] }) (o:={ cls:=.type "enumerate",data:=.fields #[.none,.bool false,.ref s.heap.objs.size,fB 0,.none,.none] }) rfl;rw[hz]at q;exact q
 exact⟨⟨_,u,rfl⟩,h _ u ⟨_,aq _ (aF _ rfl),rfl,rfl⟩ (by rw[cq,hz]) λb o x=>aq _ (aq _ x)⟩
theorem Ox{g l:aj}{i:Nat}{items}{x:af}{Q:af->ao->Prop}(c:s.heap.IsTupleIter g l i)(B:s.heap.IsTuple l items)(v:items[i]?=some x)
  (G:∀h',h'.IsTupleIter g l (i+1)->cO g s.heap h'->Q x { s with heap:=h' }):aJ (bb prog w) A (cf (.ref g)) Q E s:=by
 obtain⟨o,h,C,hd⟩:=id c;obtain⟨H,q,_,I,u⟩:=B;unfold cf;refine ab (b9 (name:=aA "__next__") c.typeIs ir (cF ir c.typeIs tF ?_ (tw _)))
 show aJ _ _ (uV (.ref g) 0 >>= _) _ _ s;refine ab (cU h hd (x:=.ref l) rfl ?_)
 show aJ _ _ (if (bc l == bQ)=true then _ else _) _ _ s;rw[aB (show ¬ ((bc l == bQ)=true) from bv)]
 show aJ _ _ (uV (.ref g) 1 >>= _) _ _ s;refine ab (cU h hd (x:=.int i 0) rfl ?_)
 show aJ _ _ (lc (.ref l) >>= _) _ _ s;refine ab (dA q u ?_);simp only[bo,v];refine ab (mI h hd (by simp) (au ⟨x,rfl,au (G _ ⟨_,cG _ h (vp (lS hd _)),(yp ..).trans C,?_⟩ (cu ..))⟩));rw[lS hd];simp[fB]
theorem IR{g l:aj}{i:Nat}{items}{Q:af->ao->Prop}(hh:A.handled=none)(c:s.heap.IsTupleIter g l i)(B:s.heap.IsTuple l items)(v:items[i]?=none)
  (C:∀h' e,l_ g s.heap h'->(∃o,h'.get? e=some o/\o.cls=.type "StopIteration")->E (.ref e) { s with heap:=h' }):aJ (bb prog w) A (cf (.ref g)) Q E s:=by
 obtain⟨o,q,I,hd⟩:=id c;obtain⟨G,h,_,H,u⟩:=B;unfold cf;refine ab (b9 (name:=aA "__next__") c.typeIs ir (cF ir c.typeIs tF ?_ (tw _)))
 show aJ _ _ (uV (.ref g) 0 >>= _) _ _ s;refine ab (cU q hd (x:=.ref l) rfl ?_)
 show aJ _ _ (if (bc l == bQ)=true then _ else _) _ _ s;rw[aB (show ¬ ((bc l == bQ)=true) from bv)]
 show aJ _ _ (uV (.ref g) 1 >>= _) _ _ s;refine ab (cU q hd (x:=.int i 0) rfl ?_)
 show aJ _ _ (lc (.ref l) >>= _) _ _ s;refine ab (dA h u ?_);simp only[bo,v];refine ab (gU (ab (mI q hd (by simp) ?_)));show aJ _ _ (xE (.type "StopIteration") [] >>= _) _ _ _;refine ab ?_;simp only[xE,newTuple];refine ab (cg ?_ (by size_fits));refine ab (m:=kL _ _) (pI (a:=bQ) (by first|rfl|(simp only[kL];rfl)) (cg ?_ (by size_fits)));simp only[raiseNew];refine ab (wa ?_);first|rw[show A.in1.handled=none from hh]|rw[hh]
 exact ab (au (zH (C _ _ (((cu ..).extBut.push _).push _) ⟨_,aF _ rfl,rfl⟩)))
end
theorem PH{prog:Program}{w:bN}{A:bH}(hh:A.handled=none)(c l:aj)(u:l≠c)(items:Array af):
  Draws prog w A c [c,l] items.size (λi v=>items[i]?=some v) (λi h=>h.IsTupleIter c l i/\h.IsTuple l items) where
 live:=λ_ _ st=>let ⟨o,ho,_⟩:=st.1;⟨o,ho⟩
 frame:=λ_ _ _ st B=>⟨let ⟨o,e,r⟩:=st.1;⟨o,B c (by simp) o e,r⟩,let ⟨o,e,r⟩:=st.2;⟨o,B l (by simp) o e,r⟩⟩
 item:=λi s Q E C st G=>Ox st.1 st.2 (x:=items[i]) (by simp[C]) λh' q g=>G _ h' s.toks (by simp[C]) ⟨q,st.2.extBut g.extBut u⟩ g
 done:=λs Q E st H=>IR hh st.1 st.2 (by simp) H
def Ii(K:ah)(a:aj):It:=
 ⟨λi H=>∃xs x,iZ K H a xs/\xs[i]?=some x,λi H x c=>∃T v,x=.ref T/\H T=none/\(∀xs,iZ K H a xs->xs[i]?=some v)/\c=fJ H T (.tup [.int i,v]),λi H=>∃xs,iZ K H a xs/\xs.length<=i⟩
section
variable{X:Cx}{tg:Expr}{es:List Expr}{pos:Pos}{fa:CE}{K:ah}{ρ:List aj}{H:Hp}{st:aX}
theorem W4{P:Program}{w:bN}{k:Nat}(a e B:aj)(hei:e≠B):t8 P w K (.Tuple es k pos) (Ii K a) [e,B] e (λi h=>(∃old,IsEnum h e B i old)/\h.IsTupleIter B a i) where
 mem:=by simp
 obj:=λi h pq86 b L=>by
  obtain⟨⟨old,J⟩,l⟩:=pq86;rcases bn.mp L with z|z
  ·subst z;exact⟨_,J,λv q=>by cases q⟩
  ·have z':b=B:=by simpa using z
   subst z';obtain⟨o,e,c,d⟩:=l;exact⟨o,e,λv q=>by rw[d]at q;cases q⟩
 keep:=λi h h' pq87 kp=>by obtain⟨⟨old,J⟩,l⟩:=pq87;exact⟨⟨old,kp e (by simp) _ J⟩,let ⟨o,x,r⟩:=l;⟨o,kp B (by simp) o x,r⟩⟩
 item:=by
  intro X hP hw hK hc i O s σ H E I hf pq158 hg;obtain⟨⟨old,J⟩,l⟩:=pq158;subst hP hw hK;obtain⟨xs,x,hq,hx⟩:=hg;obtain⟨its,rv,p,hz⟩:=I.tuple hq;obtain⟨u,hu,ru⟩:=rv.get hx;have hlt:i < its.toArray.size:=by rw[aH];exact (ac.mp hu).1
  obtain⟨f0,f1,f2,f3,f4,f5⟩:=hf e (by simp);obtain⟨g0,g1,g2,g3,g4,g5⟩:=hf B (by simp);have hai:a≠B:=λz=>by obtain⟨o,G,c,_⟩:=l;obtain⟨o',e2,c',_⟩:=p;rw[z,G]at e2;cases e2;rw[c]at c';exact bq (vq c') (by decide)
  have hae:a≠e:=λz=>by obtain⟨o',e2,c',_⟩:=p;rw[z,J]at e2;cases e2;exact bq (vq c') (by decide)
  have D:=PH (prog:=X.prog) (w:=X.w) (A:=X.A.in1) (I.ok.hd hc) B a hai its.toArray;refine wpAny_pyNext_enum_itemD D J ⟨l,p⟩ hlt hei (by simp;exact⟨hei,hae.symm⟩) λy h' tk hP ho hst hT hsz hk=>?_;have ey:y=u:=by
   have:its.toArray[i]?=some u:=by simpa using hu
   rw[this]at hP;cases hP;rfl
  subst ey;refine⟨_,rfl,wpAny_letOwnedTupleGo_enum ho λh2 he2 hs2=>?_⟩;have Q:e < s.heap.objs.size:=aK J;have C:H s.heap.objs.size=none:=I.hok.fresh (ay _);have keep:∀b o,b≠e->b≠B->s.heap.get? b=some o->h2.get? b=some o:=λb o hb1 hb2 G=>(hs2.2 b hb1).trans (hk b o hb1 hb2 G);have hT2:h2.get? s.heap.objs.size=some { cls:=.type "tuple",data:=.seq #[.int i tk,y] }:=(hs2.2 _ (eE Q)).trans hT;have I2:Inv X O σ (fJ H s.heap.objs.size (.tup [.int i,x])) { s with heap:=h2,toks:=tk+1 }:=by
   have ne:∀b o,H b=some o->b≠e/\b≠B:=λb o q=>⟨λz=>(by rw[z,f0]at q;cases q),λz=>(by rw[z,g0]at q;cases q)⟩
   refine I.step (g':=s.gens) (d':=s.drawn) (ch:=[e,B]) (λb L=>?_) (λb o _ _ g G _=>keep b o (λz=>g (by simp[z])) (λz=>g (by simp[z])) G)
    (λb o _ _ g G _=>⟨o.slots,keep b o (λz=>g (by simp[z])) (λz=>g (by simp[z])) G⟩) (λb o g G n1=>by rw[fZ (bz (aK G))];exact n1) (λb o g G=>⟨o,keep b o (λz=>g (by simp[z])) (λz=>g (by simp[z])) G⟩)
    (λb ys q=>by rw[fZ (mR q C)];exact q) (λb o ys q=>by rw[fZ (mR q C)];exact q) (λb ps q=>⟨#[],by rw[fZ (mR q C),q];simp⟩) (λm hm=>?_) ?_ I.bare
   ·rcases bn.mp L with z|z
    ·subst z;exact⟨f3,f1,f4,f5⟩
    ·have z':b=B:=by simpa using z
     subst z';exact⟨g3,g1,g4,g5⟩
   ·obtain⟨o,c,ep,G,r⟩:=hm;exact⟨o,c,ep,keep _ o f1.symm g1.symm G,r⟩
   ·intro b o q;by_cases L:b=s.heap.objs.size
    ·subst L;rw[ky]at q;cases q;exact⟨by show 2<=sizeLine;decide,[.int i tk,y],.cons ⟨tk,rfl⟩ (.cons ru .nil),⟨_,hT2,rfl,⟨_,rfl⟩,rfl⟩⟩
    ·rw[fZ L]at q;have:=ne b o q;refine (I.hok b o q).stay (λc v g r=>keep c v ?_ ?_ r) (λc U=>by rw[fZ (mR U C)];exact U) λc ys U=>by rw[fZ (mR U C)];exact U
     ·rcases g with z|z
      ·rw[z];exact this.1
      ·exact (ne c _ z).1
     ·rcases g with z|z
      ·rw[z];exact this.2
      ·exact (ne c _ z).2
  refine⟨.ref s.heap.objs.size,_,I2,rfl,⟨_,x,rfl,C,λys hy=>by rw[I.tuple_inj hy hq];exact hx,rfl⟩,⟨⟨y,by simpa using he2⟩,let ⟨o,x1,r⟩:=hst.1;⟨o,(hs2.2 B hei.symm).trans x1,r⟩⟩,λb L=>?_⟩;rw[fZ]
  ·exact (hf b L).1
  ·intro z;have:b < s.heap.objs.size:=by
    rcases bn.mp L with q|q
    ·rw[q];exact Q
    ·have U:b=B:=by simpa using q
     rw[U];obtain⟨o,x1,_⟩:=l;exact aK x1
   exact bq this (by rw[z];exact cn _)
 done:=by
  intro X hP hw hK hc i O s σ H E I hf Y hg;obtain⟨⟨old,J⟩,l⟩:=Y;subst hP hw hK;obtain⟨xs,hq,hx⟩:=hg;obtain⟨its,rv,p,hz⟩:=I.tuple hq;obtain⟨g0,g1,g2,g3,g4,g5⟩:=hf B (by simp);have hl:=rv.length;have hT:s.TypeIs (.ref e) "enumerate":=⟨_,J,rfl⟩
  unfold iU;refine ab (i6 (b9 (name:=aA "__next__") hT wC (cF wC hT F.entry_enumerate_next ?_ (F.args_enumerate_next_1 _))))
  show aJ _ _ (uV (.ref e) 2 >>= _) _ _ _;refine ab (cU J rfl (x:=.ref B) rfl ?_);refine ab (IR (A:=X.A.in1) (I.ok.hd hc) l p (by simp;ext) λh' x he' pq88=>?_);obtain⟨o,ho,g⟩:=pq88;exact ab (fO (T:="StopIteration") (b:=true) ⟨o,ho,g⟩ pJ (au ⟨rfl,I.turned (t':=s.toks) (λb o L e=>he' b o L e) g0 g1 g3 g4 g5⟩))
 self:=λ_ _ _ _ _ pq89 h=>by obtain⟨⟨old,J⟩,_⟩:=pq89;exact Dg J h
theorem Tu{b : Expr}{p G : Pos}{k : Nat}(hg : Gl X "enumerate")(hm : X.mg "enumerate" = none)(h : SE X b fa)(hs : starEach [b] X.env = [(false, eval b X.env)] := by rfl):
  SI X (.Tuple es k G) (.Call (.Name "enumerate" p) [b] [] pos) (tL fa):=by
 intro g s σ H R I o;obtain⟨ρ,l,st,lr,sr,q⟩:=o;refine Call_ (zP I hg hm boot_enumerate (fm (gg (Kh h IB hs pos g s σ H (λY C=>∃a xs,Y=[.ref a]/\iZ X.K C a xs/\R (Ii X.K a) C) I ⟨ρ,l,st,lr,sr,?_⟩) λus c ⟨Y,C,U,r1,q1⟩=>?_) hs rfl))
 ·have E:=aU.bnd q
  show aU X.K ρ H (MM.bnd (fa l) _ st) _;unfold MM.bnd;cases e:fa l st with
  |bad=>rw[e]at E;exact E
  |exc _ _=>rw[e]at E;exact E
  |ok d eh=>
   rw[e]at E
   show ∀ρ' H',Ex ρ H ρ' H'->SR X.K ρ' H' eh->_;intro ρ1 C x1 c Y rvs;have Q:=E ρ1 C x1 c;cases rvs with
   |cons O rt=>
    cases rt;cases O with
    |@tup a ws ds ht r=>
     refine⟨a,ws,rfl,ht,Q.ret c _ ?_⟩;intro ρ2 H2 st2 x2 s2 _;have U:=r.length;have B:iZ X.K H2 a ws:=iZ.mono x2.up ht;have len:((kY 0 ds.length).zipWith (λi d=>D.tup [i,d]) ds).length=ds.length:=by simp[kY]
     refine⟨⟨ws,B,by rw[len,U];exact ay _⟩,λi d h=>?_⟩;have g:i < ds.length:=by rw[<- len];exact (ac.mp h).1
     have ed:d=.tup [.int i,ds[i]]:=by rw[kD,kY,ak,gp g,ai g]at h;have:=aG h;rw[<- this];simp
     subst ed;obtain⟨v,u,O⟩:=(r.mono x2).get (ai g);refine⟨⟨ws,v,B,u⟩,λy H3 J=>?_⟩;obtain⟨T,w,ey,G,L,eH⟩:=J;subst ey eH;have I:=L ws B;rw[u]at I;cases I;have o:Ex ρ2 H2 ρ2 (fJ H2 T (.tup [.int i,v])):=Ex.new G;exact⟨o,s2.new G,.tup (iZ.of ky) (.cons (.int _) (.cons (O.mono o) .nil))⟩
    |_=>exact Q.elim
 ·obtain⟨a,xs,e,B,G⟩:=q1;subst e;obtain⟨u,rfl,q⟩:=ut r1;cases q;obtain⟨its,O,Q,hz⟩:=U.tuple B;refine Wg Q λh' l h hsz v=>Dg l ?_;have H:Inv X g σ C { c with heap:=h' }:=U.kept (t':=c.toks) v;refine⟨c.heap.objs.size+1,[c.heap.objs.size+1,c.heap.objs.size],_,Ii X.K a,C,rfl,H,W4 a (c.heap.objs.size+1) c.heap.objs.size (Nat.succ_ne_self _),⟨⟨_,l⟩,h⟩,λb E=>?_,G⟩;have L:c.heap.objs.size<=b:=by
   rcases bn.mp E with z|z
   ·rw[z];exact wc _
   ·have o:b=c.heap.objs.size:=by simpa using z
    rw[o];exact ay _
  exact U.fpOk L (U.hok.fresh L)
end
section
variable{X:Cx}{K:ah}{ρ:List aj}{H:Hp}{st:aX}
theorem Pc:OpR X (dB .Is) (qv X.K yy):=by
 intro g s σ H x y v u Q I l h c;obtain⟨ρ,st,d,e,sr,q,o,p⟩:=c;cases e with
 |non=>
  cases o.inv;refine WP g s σ H x .non v u Q I l h ⟨rfl,?_⟩;cases q with
  |non=>exact p.ret sr _ (.bl true)
  |_=>exact p.ret sr _ (.bl false)
 |bl b=>
  cases d with
  |bl a=>
   cases q.inv;cases o.inv;cases (show v=dq a from l);cases (show u=dq b from h);refine wpAny_is_plain rfl ⟨.bl (a == b),H,I,?_,p.ret sr _ (.bl _)⟩;cases a<;>cases b<;>rfl
  |_=>exact p.elim
 |_=>cases d<;>exact p.elim
theorem Vh:OpR X (dB .IsNot) (qv X.K r9):=by
 intro g s σ H x y v u Q I l h c;obtain⟨ρ,st,d,e,sr,q,o,p⟩:=c;cases e with
 |non=>
  cases o.inv;refine Rv g s σ H x .non v u Q I l h ⟨rfl,?_⟩;cases q with
  |non=>exact p.ret sr _ (.bl false)
  |_=>exact p.ret sr _ (.bl true)
 |bl b=>
  cases d with
  |bl a=>
   cases q.inv;cases o.inv;cases (show v=dq a from l);cases (show u=dq b from h);refine wpAny_isNot_plain rfl ⟨.bl (!(a == b)),H,I,?_,p.ret sr _ (.bl _)⟩;cases a<;>cases b<;>rfl
  |_=>exact p.elim
 |_=>cases d<;>exact p.elim
theorem Go{v:V}{d:D}(r:du K ρ H v d)(h:nZ d=true):n9 v=true:=by cases r<;>first|rfl|cases h
theorem GH:∀{c:List V}{ds:List D},bJ K ρ H c ds->ds.all nZ=true->c.all n9=true
 |_,_,.nil,_=>rfl
 |_,_,.cons r t,h=>by rw[cj,bh]at h;rw[cj,bh];exact⟨Go r h.1,GH t h.2⟩
theorem Sw{v w:V}{d e:D}(r:du K ρ H v d)(q:du K ρ H w e)(h:nZ d=true)(h':nZ e=true):yF v w=yA d e:=by cases r<;>first|(cases q<;>first|rfl|cases h')|cases h
theorem Gd{w:V}{e:D}(q:du K ρ H w e)(h':nZ e=true):∀{c:List V}{ds:List D},bJ K ρ H c ds->ds.all nZ=true->Gv w c=ds.any λd=>yA d e
 |_,_,.nil,_=>rfl
 |_,_,.cons r t,h=>by rw[cj,bh]at h;have:=Gd q h' t h.2;unfold Gv at this ⊢;rw[d9,d9,this,Sw r q h.1 h']
theorem aU.hasK{n:Nat}{k:D}{R:Bool->aX->List aj->Hp->Prop}(h:aU K ρ H (MM.hasK n k st) R)(s:SR K ρ H st):∃b c,st[n]?=some (.dct b c)/\pk b k=true/\R (m9 c k).isSome st ρ H:=by obtain⟨b,c,e,l⟩:=aU.getDc (aU.bnd h) s;obtain⟨o,g⟩:=aU.chk l;exact⟨b,c,e,o,g.ret s⟩
theorem _root_.L2.OpR.orO{f:af->af->Sem af}{r o:R2}(h:OpR X f r)(h':OpR X f o):OpR X f (λx y H Q=>r x y H Q\/o x y H Q):=by
 intro c s σ H x y v u Q I l g q;rcases q with q|q
 ·exact h c s σ H x y v u Q I l g q
 ·exact h' c s σ H x y v u Q I l g q
theorem Ps(hu:X.A.units+60 < dk):OpR X (dB .NotIn) (λx y H Q=>∃(ρ:List aj)(st:aX)(n:Nat)(a:aj)(b:Bool)(g:List (D×D))(k:D),y=.ref a/\SR X.K ρ H st/\ρ[n]?=some a/\st[n]?=some (.dct b g)/\du X.K ρ H x k/\pk b k=true/\Q (.bl (!(m9 g k).isSome)) H):=by intro h s σ H x y v u Q I o l c;obtain⟨ρ,st,n,a,b,g,k,e,sr,G,C,B,E,q⟩:=c;subst e;cases l;exact Xb (by ext) I (sr.ob n a _ G C) B E o λL J=>⟨.bl _,H,J,rfl,q⟩
theorem Vk(hu:X.A.units+60 < dk):OpR X (dB .NotIn) (qv X.K sO):=(XV.orO (Ps hu)).of λx y H Q c=>by
 obtain⟨ρ,st,d,e,sr,o,J,p⟩:=c;have fin:∀{a:aj}{g:List V}{ds:List D}(B:ii X.K H a g\/iZ X.K H a g)(r:bJ X.K ρ H g ds)(l:aU X.K ρ H (Ek d ds st) λr _ ρ' I=>∀v,du X.K ρ' I v r->Q v I),Ib X.K true x (.ref a) H Q:=λB r l=>by obtain⟨⟨G,E⟩,L⟩:=aU.chk l;refine⟨_,_,rfl,B,Go o G,GH r E,?_⟩;rw[aD rfl,Gd o G r E];exact L.ret sr _ (.bl _)
 cases J with
 |tup h r=>exact .inl (fin (.inr h) r ((aU.bnd p).ret sr))
 |lit h r=>exact .inl (fin (.inl h.seq) r ((aU.bnd p).ret sr))
 |ref _ h=>
  obtain⟨ds,Y,l⟩:=aU.getL (aU.bnd p) sr;obtain⟨a',g,C,O,r⟩:=sr.seq Y;rw[h]at C;cases C;exact .inl (fin (.inl (ii.of O)) r l)
 |@dic a n _ h=>
  obtain⟨b,u,e1,U,q⟩:=aU.hasK (aU.bnd p) sr;exact .inr ⟨ρ,st,n,a,b,u,d,rfl,sr,h,e1,o,U,(q.ret sr) _ (.bl _)⟩
 |_=>exact (show False from p).elim
theorem Te:DF X (C7 .USub) (vR X.K t9):=by
 intro g s σ H x v Q I h c;obtain⟨ρ,st,d,sr,l,p⟩:=c;cases l with
 |int i=>exact Mp g s σ H _ v Q I h ⟨i,rfl,p.ret sr _ (.int _)⟩
 |_=>exact p.elim
end
section
variable{X:Cx}{a b c e o tg:Expr}{es:List Expr}{pos ec cx:Pos}{fa fb fc:CE}{ca cb:CA}{ta tb:CT}{K:ah}{ρ:List aj}{H:Hp}{st:aX}{x:Str}{p:Pos}{T id:String}{body:List Stmt}{cs:CS}
theorem UX{op:UnaryOp}{g:D->M D}(E:DF X (C7 op) (vR X.K g))(G:SE X a fa):SE X (.UnaryOp op a pos) (c1 g fa):=
 (NO E G).of λσ H Q I=>I.el λρ l st C sr p=>⟨ρ,l,st,C,sr,p.bnd.imp λd h ρ1 L J q B v u=>⟨ρ1,h,d,q,u,B⟩⟩
theorem V9(B:SE X a fa)(hb:SL X b cb)(hm:gC .In b=false):SE X (.Compare a [.In] [b] pos) (pA A0 fa cb):=
 (Oq Ma B hb hm).of λσ H Q h_=>h_.el λρ l st u sr p=>⟨ρ,l,st,u,sr,p.bnd.imp λd h ρ1 H1 I O o v U=>⟨ρ1,l,h,u.mono I,O,o.bnd.imp λds J ρ2 H2 G L c a vs B na hv g=>by obtain⟨⟨E,C⟩,Y⟩:=aU.chk c;have q:=U.mono G;refine⟨_,_,rfl,.inl (ii.of hv),Go q E,GH g C,?_⟩;rw[aB (by simp),Gd q E g C];exact Y.ret L _ (.bl _)⟩⟩
theorem W5(C:SE X a fa)(hb:SL X b cb)(hm:gC .In b=false):ST X (.Compare a [.In] [b] pos) (db (pA A0 fa cb)):=
 (L5 Ma C hb hm).of λσ H Q h_=>h_.el λρ l st B sr p=>⟨ρ,l,st,B,sr,p.bnd.bnd.imp λd h ρ1 H1 J O o v U=>⟨ρ1,l,h,B.mono J,O,o.bnd.imp λds L ρ2 H2 I q c a vs C na hv g=>by obtain⟨⟨G,E⟩,Y⟩:=aU.chk c;have u:=U.mono I;refine⟨_,_,rfl,.inl (ii.of hv),Go u G,GH g E,?_⟩;rw[aB (by simp),Gd u G g E];exact⟨_,rfl,(Y.ret q).ret q⟩⟩⟩
theorem RM:CallR X (.type "list") (λxs H Q=>∃v,xs=[v]/\vR X.K ub v H Q):=VU.of λxs H Q u=>by
 obtain⟨v,e,ρ,st,d,sr,I,p⟩:=u;have fin:∀{ds:List D}{q:List V}{l:aj}(r:bJ X.K ρ H q ds)(g:H l=none)(B:aU X.K ρ H (alloc (.lst ds) st) λr _ ρ' E=>∀v,du X.K ρ' E v r->Q v E),Q (.ref l) (fJ H l (.lst q)):=λ{ds q l}r g B=>by have J:=sr.fresh g;have G:SR X.K (ρ++[l]) (fJ H l (.lst q)) (st++[.lst ds]):=(sr.new g).keep ky J (r.mono (Ex.new g));refine B _ _ (Ex.newL g) G _ (.ref ⟨_,ky,rfl⟩ ?_);rw[<- sr.len];simp
 cases I with
 |@tup a q ds h r=>exact⟨a,q,e,.inr h,λl g=>fin r g ((aU.bnd p).ret sr)⟩
 |@lit a q ds h r=>exact⟨a,q,e,.inl h.seq,λl g=>fin r g ((aU.bnd p).ret sr)⟩
 |@ref a n _ h=>
  obtain⟨ds,O,B⟩:=aU.getL (aU.bnd p) sr;obtain⟨U,q,C,L,r⟩:=sr.seq O;rw[h]at C;cases C;exact⟨a,q,e,.inl (ii.of L),λl g=>fin r g B⟩
 |_=>exact (aU.bnd p).elim
theorem VQ{g : D -> D -> M D}(hc : CallR X (.builtin id) (λxs H Q => ∃v w, xs = [v, w] /\ qv X.K g v w H Q))(hg : Gl X x)(hm : X.mg x = none)(hv : cV x = some (.builtin id))(ha : SE X a fa)(hb : SE X b fb)(hn : x ≠ "__name__" := by decide)(G : (x == ("__debug__" : Str)) = false := by decide)
  (h:starEach [a,b] X.env=(false,eval a X.env)::starEach [b] X.env:=by rfl) (E:starEach [b] X.env=(false,eval b X.env)::starEach [] X.env:=by rfl) (C:(backTo pos (starEach [b] X.env)).any (λx=>x.fst)=false:=by rfl):SE X (.Call (.Name x p) [a,b] [] pos) (c2 g fa fb):=
 (Du hc hg hm hv (rA ha (rA hb uk E) h) hn G h C).of λσ H Q h_=>h_.el λρ l st I sr p=>⟨ρ,l,st,I,sr,p.bnd.imp λd u ρ1 H1 L U o v Y=>⟨ρ1,l,u,I.mono L,U,o.bnd.imp λe q ρ2 H2 J O c w B=>⟨v,w,rfl,ρ2,q,d,e,O,Y.mono J,B,c⟩⟩⟩
theorem Vs(q:X.calm=true):CallR X (.builtin "min") (λxs H Q=>∃v w,xs=[v,w]/\qv X.K ve v w H Q):=(Pb q).of λxs H Q g=>by
 obtain⟨v,w,e,ρ,st,B,u,sr,l,h,p⟩:=g;cases l with
 |int i=>
  cases h with
  |int j=>
   refine⟨i,j,e,?_⟩;have:(if j < i then j else i)=min i j:=by ext
   rw[this];exact p.ret sr _ (.int _)
  |_=>exact p.elim
 |_=>exact p.elim
theorem Xy(ho:SE X o fa)(q:eL o "pop" X.env (eval o X.env)=eval o X.env:=by rfl)(g:(ec.endLine == cx.line)=true:=by rfl):SE X (.Call (.Attribute o "pop" ec) [] [] cx) (uF fa):=
 (RU sF PySem.F.slot_list_pop PySem.F.type_list_pop Ul ho q g).of λσ H Q h_=>h_.el λρ l st lr sr p=>⟨ρ,l,st,lr,sr,p.bnd.imp λd c ρ1 H1 x1 C U v rv=>by
  cases rv with
  |@ref a n _ h=>
   obtain⟨ds,J,u⟩:=aU.getL (aU.bnd U) C;obtain⟨a',B,Y,G,r⟩:=C.seq J;rw[h]at Y;cases Y;cases I:ds.getLast? with
   |none=>rw[I]at u;exact u.elim
   |some d=>
    rw[I]at u;have hl:=(ac.mp J).1;have e4:ds[ds.length-1]?=some d:=by rw[<- List.getLast?_eq_getElem?];exact I
    obtain⟨y,hy,ry⟩:=r.get e4;have rd:bJ X.K ρ1 H1 B.dropLast ds.dropLast:=by rw[uW,uW,r.length];exact r.take _
    obtain⟨O,L⟩:=C.put hl h G rd;refine⟨.inl ⟨rfl,B,ii.of G⟩,a,B,y,rfl,rfl,G,by rw[r.length];exact hy,?_⟩;have E:=aU.bnd u;unfold putL at E;rw[J]at E;exact (E ρ1 _ L O).ret O _ (ry.mono L)
  |_=>exact U.elim⟩
theorem bJ.rev:∀{g:List V}{ds:List D},bJ K ρ H g ds->bJ K ρ H g.reverse ds.reverse
 |_,_,.nil=>.nil
 |_,_,.cons r t=>by rw[fV,fV];exact bJ.app (bJ.rev t) (.cons r .nil)
theorem Ux{p : Pos}(hg : Gl X "range")(hm : X.mg "range" = none)(h : SE X a fa)(h' : SE X b fb)(G : starEach [a, b] X.env = (false, eval a X.env) :: starEach [b] X.env := by rfl)(E : starEach [b] X.env = (false, eval b X.env) :: starEach [] X.env := by rfl)
  (hs:starEach [a,b] X.env=[(false,eval a X.env),(false,eval b X.env)]:=by rfl) (C:starEach [b] X.env=[(false,eval b X.env)]:=by rfl):SI X tg (.Call (.Name "range" p) [a,b] [] pos) (MM.nh fa fb):=
 (TW (tg:=tg) (p:=p) (pos:=pos) hg hm (rA h (rA h' uk E) G) hs C).of λσ H R h_=>h_.el λρ l st I sr p=>⟨ρ,l,st,I,sr,p.bnd.imp λd q ρ1 H1 L U o v Y=>⟨ρ1,l,q,I.mono L,U,o.bnd.imp λe O ρ2 H2 J Q B w g=>by
  have u:=Y.mono J;cases u with
  |int i=>
   cases g with
   |int j=>
    obtain⟨⟨⟨h1,h2⟩,h3,h4⟩,c⟩:=aU.chk B;exact⟨i,j,rfl,⟨h1,h2,h3,h4⟩,c.ret Q _ NB⟩
   |_=>exact B.elim
  |_=>cases g<;>exact B.elim⟩⟩
theorem T2(hp:tj (bb X.prog X.w) X.A X.env X.xe)(hc:ST X c ta)(hb:vO X body cs):SS X (.While c body [] pos) (kW ta cs):=(RG hp hc hb).of λG σ H h_=>h_.el λρ l st lr sr p=>by
 unfold kW at p;by_cases h:∃n,∀r,fu ta cs n l st=r->r≠.bad
 ·rw[dif_pos h]at p;generalize i7 h=n at p;refine⟨λm σ H=>∃ρ l st,LR X.K ρ H σ l/\SR X.K ρ H st/\aU X.K ρ H (fu ta cs m l st) λf _ ρ' g=>match f with
   | .next l'=>∀σ',LR X.K ρ' g σ' l'->G.nx σ' g
   | .ret d=>∀v,du X.K ρ' g v d->G.rt v g
   | .brk l'=>∀σ',LR X.K ρ' g σ' l'->G.bk σ' g
   | .cnt l'=>∀σ',LR X.K ρ' g σ' l'->G.ct σ' g,⟨n,ρ,l,st,lr,sr,p⟩,?_⟩
  intro m σ1 H1 u;obtain⟨ρ1,l1,O,B,Q,c⟩:=u;cases m with
  |zero=>exact c.elim
  |succ m=>
   refine⟨ρ1,l1,O,B,Q,(aU.bnd c).imp λk L ρ2 H2 U Y o=>?_⟩;cases k with
   |false=>exact o.ret Y _ (B.mono U)
   |true=>
    refine⟨λσ' g=>∃ρ l st,LR X.K ρ g σ' l/\SR X.K ρ g st/\aU X.K ρ g (fu ta cs m l st) _,λσ' g q=>⟨m,kK m,q⟩,ρ2,l1,L,B.mono U,Y,(aU.bnd o).imp λf E ρ3 H3 x3 I J=>?_⟩;cases f with
    |next l'=>exact λσ' C=>⟨ρ3,l',E,C,I,J⟩
    |ret d=>exact J.ret I
    |brk l'=>exact J.ret I
    |cnt l'=>exact λσ' C=>⟨ρ3,l',E,C,I,J⟩
 ·rw[dif_neg h]at p;exact p.elim
end
theorem WQ(its:List af):wx its.toArray none none (some (-1))=its.reverse.toArray:=by
 unfold wx;have e:sliceRange (fL none none (some (-1)) its.toArray.size).1 (fL none none (some (-1)) its.toArray.size).2.1 (fL none none (some (-1)) its.toArray.size).2.2=(bG its.toArray.size).map λk=>its.toArray.size-1-k:=picked_rev its.toArray.size;rw[e];congr 1;rw[aH];have key:∀n,n<=its.length->((bG n).map λk=>its.length-1-k).filterMap (λi=>its.toArray[i]?)=(its.drop (its.length-n)).reverse:=by
  intro n
  induction n with
  |zero=>intro _;simp
  |succ n ih=>
   intro l;rw[fS,bj,List.filterMap_append,ih (by ext)];have c:its.length-1-n < its.length:=by ext
   have:its.drop (its.length-(n+1))=its[its.length-1-n]::its.drop (its.length-n):=by
    have h:its.length-(n+1)=its.length-1-n:=by ext
    have g:its.length-n=its.length-1-n+1:=by ext
    rw[h,g];exact dM c
   rw[this,fV];congr 1;simp[c]
 have:=key its.length (ay _);rw[ff,sG]at this;exact this
section
variable{X:Cx}{e st:Expr}{pos p2 p3 p4:Pos}{fa:CE}{te:TE}{j:Nat}
def FA(K:ah):V->Hp->VK->Prop:=λx H Q=>∃a xs,x=.ref a/\ii K H a xs/\∀p,H p=none->Q (.ref p) (fJ H p (.lst xs.reverse))
theorem Xo(he:PE X e te):PE X (.Subscript e (.Slice none none (some (.UnaryOp .USub (.Constant (.int 1) j p3) p4)) p2) pos) (λσ H Q=>te σ H λx B=>FA X.K x B Q):=by
 intro c s σ H Q I h;refine Ci (gg (he c s σ H _ I h) λv O u=>?_);obtain⟨x,B,I1,U,Y⟩:=u;refine wpAny_Slice ?_;rw[v6];refine au (au ?_);have C:PE X (.UnaryOp .USub (.Constant (.int 1) j p3) p4) (Mf (rU λi=>.int (-i)) (tC (.int 1))):=NO Mp OE;refine gg (MI C c O σ B (λo H'=>o=some (-1)/\H'=B) I1 ⟨1,rfl,-1,rfl,rfl,rfl⟩) λG g l=>?_;obtain⟨o,H2,I2,ps,eo,eH⟩:=l;subst eo eH;obtain⟨a,xs,rfl,hx,q⟩:=Y;cases U;have E:Inv X c σ H2 { g with heap:=g.heap.push { cls:=.type "slice",data:=.fields #[.none,.none,G] } }:=I2.kept (t':=g.toks) λb ob q=>aq _ q;obtain⟨its,r,J,hz⟩:=E.list hx;have L:=r.length
 show aJ (bb X.prog X.w) X.A (v7 e _ (.ref a) (.ref g.heap.objs.size)) (EP X c σ Q) X.xe { g with heap:=g.heap.push { cls:=.type "slice",data:=.fields #[.none,.none,G] } };refine zC (ops:=[.ref a,.ref g.heap.objs.size]) J.isList.typeIs rV.lookup ?_ (by with_unfolding_all rfl);refine v8 J.isList (rB ..) .none .none ps (by simp) ?_ (by rw[aH]<;>ext);rw[WQ];refine⟨.ref _,_,E.laid (t':=g.toks) (o:=.lst xs.reverse) (λb ob q=>aq _ q) (ay _) ?_,rfl,q _ (E.hok.fresh (ay _))⟩;exact⟨by rw[List.length_reverse];exact hz,_,0,r.reverse,aF _ rfl⟩
theorem OS(h:SE X e fa):SL X (.Subscript e (.Slice none none (some (.UnaryOp .USub (.Constant (.int 1) j p3) p4)) p2) pos) (tR fa):=
 (Xo h).of λσ H Q U=>U.el λρ l st J sr p=>⟨ρ,l,st,J,sr,p.bnd0.imp λd G ρ1 H1 u g B v I=>by
  cases I with
  |@ref a n _ h=>
   obtain⟨ds,Y,p2⟩:=aU.getL (B.bnd0.left u) g;obtain⟨a',E,C,L,r⟩:=g.seq Y;rw[h]at C;cases C;refine⟨a,E,rfl,ii.of L,λq c=>?_⟩;have O:H q=none:=by
    cases z:H q with
    |none=>rfl
    |some o=>exact bq c (u.trk q o z)
   exact p2 ρ1 _ (u.trans (Ex.new c)) (g.new c) q _ O (g.fresh c) ky ((bJ.rev r).mono (Ex.new c))
  |_=>exact B.elim⟩
theorem Rn{lo I:Option Expr}{J L:CO}{p2:Pos}(h:SE X e fa)(hl:SO X lo J)(hh:SO X I L):SE X (.Subscript e (.Slice lo I none p2) pos) (nB fa J L):=
 (LQ Rf h hl hh).of λσ H Q h_=>h_.el λρ l st B sr p=>⟨ρ,l,st,B,sr,p.bnd.imp λd g ρ1 H1 G s1 p1 v rv=>⟨ρ1,l,g,B.mono G,s1,p1.bnd.imp λi c ρ2 H2 E s2 p2=>⟨ρ2,l,c,(B.mono G).mono E,s2,p2.bnd.imp λj U ρ3 H3 O Y p3=>by
  have u:=(rv.mono E).mono O;have e:∀n d o,HT.gM n d o=MM.gM n d o:=λn d o=>by cases o<;>rfl
  cases u with
  |@tup a vs ds h r=>
   obtain⟨hw,p4⟩:=aU.chk p3;exact⟨a,vs,rfl,h,by rw[e,e,r.length];exact hw,λq C=>p4 ρ3 _ (Ex.new C) (Y.new C) _ (.tup (iZ.of ky) ((bJ.cut r i j).mono (Ex.new C)))⟩
  |_=>exact p3.elim⟩⟩⟩
end
end MM
namespace MM
open PySem
def sB{α:Type}(n:Nat)(f:Nat->Nat->Bool):zI α->Option α
 | .ret a=>some a
 | .ask i j k=>if i < n/\j < n then sB n f (k (f i j)) else none
def qN:List D->Option (List (List Int))
 |[]=>some []
 | .tup xs::ds=>match m6 xs,qN ds with
  |some ns,some rs=>some (ns::rs)
  |_,_=>none
 |_=>none
noncomputable def uG:List Int->List Int->Bool
 |[],[]=>false
 |[],_::_=>true
 |_::_,[]=>false
 |a::as,b::bs=>if (a == b)=true then uG as bs else decide (a < b)
def tZ(ds:List D):Option (List D):=match qN ds with
 |some rows => if (rows.all λr => decide (0 < r.length)) = true /\ 2 <= ds.length /\ ds.length < 64 then (match sB ds.length (λi j => uG (rows.getD i []) (rows.getD j [])) (ma ds.length) with
   |some p=>if p.size<=1000 then some (p.toList.map λi=>ds.getD i .non) else none
   |none=>none) else none
 |none=>none
def o_:D->M D
 | .ref n=>bnd (getL n) λds=>match tZ ds with
  |some es=>alloc (.lst es)
  |none=>bad
 |_=>bad
open PySem.Spec PyProof.Rows L2
theorem M8{α:Type}{n:Nat}{f:Nat->Nat->Bool}{l:Nat->Nat->(Bool->ao->Prop)->ao->Prop}{G:α->ao->Prop}{s:ao}(o:∀i j C,i < n->j < n->C (f i j) s->l i j C s):
  ∀(t:zI α){a:α},sB n f t=some a->G a s->t.kasWp l G s
 | .ret b,a,h,g=>by cases h;exact g
 | .ask i j k,a,h,g=>by
  unfold sB at h;by_cases c:i < n/\j < n
  ·rw[aD c]at h;exact o i j _ c.1 c.2 (M8 o (k (f i j)) h g)
  ·rw[aB c]at h;cases h
section
variable{prog:Program}{w:bN}{A:bH}{s:ao}{Q:Bool->ao->Prop}
theorem Uc{as bs:List Int}{g ws:List af}(i:Nat){fin:Bool}(o:lx g as)(l:lx ws bs)(c:fin=decide (as.length < bs.length))(h:Q (uG as bs) s):PySem.W.KatLex prog w A true fin Q (g.zip ws) i s:=by
 induction as generalizing bs g ws i fin with
 |nil=>
  cases o;refine wD ?_;cases l with
  |nil=>rw[c];exact h
  |@cons b u vs bs r'=>
   rw[c];have:decide (([]:List Int).length < (b::bs).length)=true:=by simp
   rw[this];exact h
 |cons a as ih=>
  cases o with
  |cons _ t r=>cases l with
   |nil=>
    refine wD ?_;rw[c];have:decide ((a::as).length < ([]:List Int).length)=false:=by simp
    rw[this];exact h
   |@cons b u vs bs r'=>
    refine PySem.W.kat_cons (sZ ?_);unfold uG at h;by_cases e:(a == b)=true
    ·rw[e];rw[aD e]at h;exact PySem.W.kat_yes (ih (i+1) r r' (by rw[c];simp) h)
    ·have q:(a == b)=false:=by simpa using e
     rw[q];rw[aB e]at h;refine PySem.W.kat_no ?_;cases i with
     |zero=>exact oneLt_int h
     |succ i=>exact PySem.W.kat_one _ _ (lt_int h)
end
section
variable{X:Cx}{K:ah}{ρ:List aj}{H:Hp}{st:aX}
theorem Ou{c:List (aj×Obj)}{σ:St}{s:ao}(I:Inv X c σ H s): ∀{q:List V}{ds:List D}{its:List af}{rows:List (List Int)},bJ X.K ρ H q ds->bU q its->qN ds=some rows ->
  rows.length=ds.length/\∀(i:Nat)(h:i < ds.length),∃a xs,its[i]?=some (.ref a)/\zA s.heap a xs/\lx xs.toList (rows.getD i [])
 |_,_,_,rows,.nil,.nil,e=>by cases e;exact⟨rfl,λi h=>by simp at h⟩
 |_,_,_,rows,.cons (d:=d) (ds:=ds) r t,.cons ru tu,e=>by
  cases r with
  |@tup a vs' xs hq rr=>
   unfold qN at e;cases g:m6 xs with
   |none=>rw[g]at e;cases e
   |some ns=>
    cases o:qN ds with
    |none=>rw[g,o]at e;cases e
    |some rs=>
     rw[g,o]at e;cases e;obtain⟨E,J⟩:=Ou I t tu o;refine⟨by simp[E],λi G=>?_⟩;cases i with
     |succ i=>
      obtain⟨L,l,C,B,v⟩:=J i (by simpa using G);exact⟨L,l,by simpa using C,B,by simpa using v⟩
     |zero=>
      obtain⟨its',u,p,_⟩:=I.tuple hq;cases (show _=bc a from ru);have:=Jk g rr;subst this;exact⟨a,_,rfl,p,by simpa using Ka u⟩
  |_=>cases e
theorem W_{h:bK}{a:aj}{m c:Str->Option af}(x:h.Ns a m)(y:h.Ns a c):m=c:=by obtain⟨o,G,ep,E,C,_,B⟩:=x;obtain⟨o',u,v,l,g,_,q⟩:=y;rw[E]at l;cases l;rw[C]at g;cases g;funext n;rw[<- B n,q n]
theorem bJ.pick:∀{c:List V}{ds:List D}(i:Nat),bJ K ρ H c ds->du K ρ H (c.getD i .non) (ds.getD i .non)
 |_,_,_,.nil=>by simp;exact .non
 |_,_,0,.cons r t=>by simpa using r
 |_,_,i+1,.cons r t=>by simpa using bJ.pick i t
theorem bU.pick:∀{c:List V}{g:List af}(i:Nat),bU c g->RelV (c.getD i .non) (g.getD i .none)
 |_,_,_,.nil=>by simp;rfl
 |_,_,0,.cons r t=>by simpa using r
 |_,_,i+1,.cons r t=>by simpa using bU.pick i t
theorem bJ.picks{c:List V}{ds:List D}(r:bJ K ρ H c ds):∀(p:List Nat),bJ K ρ H (p.map λi=>c.getD i .non) (p.map λi=>ds.getD i .non)
 |[]=>.nil
 |i::p=>.cons (bJ.pick i r) (bJ.picks r p)
theorem bU.picks{c:List V}{g:List af}(r:bU c g):∀(p:List Nat),bU (p.map λi=>c.getD i .non) (p.map λi=>g.getD i .none)
 |[]=>.nil
 |i::p=>.cons (bU.pick i r) (bU.picks r p)
theorem UE{P:Program}{w:bN}{H:Hp}{h:bK}{a:aj}{o:HO}(x:eS P w H h a o):∃c,h.get? a=some c:=by
 cases o with
 |lst _=>obtain⟨_,_,_,_,e⟩:=x;exact⟨_,e⟩
 |tup _=>obtain⟨_,_,_,c,e,_⟩:=x;exact⟨_,e⟩
 |dK _=>obtain⟨_,_,_,_,c,_,_,e,_⟩:=x;exact⟨_,e⟩
 |dT _=>obtain⟨_,_,_,_,c,_,_,e,_⟩:=x;exact⟨_,e⟩
 |set _ _=>obtain⟨c,_,_,_,e,_⟩:=x;exact⟨_,e⟩
 |ins _ _ _=>obtain⟨_,_,_,e,_⟩:=x;exact⟨_,e⟩
 |own _=>obtain⟨_,e⟩:=x;exact⟨_,e⟩
 |xd _=>obtain⟨_,⟨_,_,_,e,_⟩,_⟩:=x;exact⟨_,e⟩
 |rng _ _=>obtain⟨_,_,_,e⟩:=x;exact⟨_,e⟩
 |frz _ _=>obtain⟨e,_⟩:=x;exact⟨_,e⟩
 |tbl _=>exact⟨_,(show h.get? a=some _ from x)⟩
 |met _ _=>exact⟨_,(show h.get? a=some _ from x)⟩
 |ext _=>obtain⟨_,⟨_,e⟩,_⟩:=x;exact⟨_,e⟩
theorem T7: CallR X (.builtin "sorted") (λxs H Q=>∃(l:aj)(vs:List V)(ρ:List aj)(ds:List D)(rows:List (List Int))(p:Array Nat),xs=[.ref l]/\ii X.K H l vs/\bJ X.K ρ H vs ds/\qN ds=some rows/\(rows.all λr=>decide (0 < r.length))=true/\2<=ds.length/\ds.length < 64 /\
  sB ds.length (λi j=>uG (rows.getD i []) (rows.getD j [])) (ma ds.length)=some p/\p.size<=1000/\∀q,H q=none->Q (.ref q) (fJ H q (.lst (p.toList.map λi=>vs.getD i .non)))):=by
 intro ar s σ H xs us Q I r h;obtain⟨l,vs,ρ,ds,rows,p,rfl,hq,rr,hrows,hall,h2,h64,hev,hps,q⟩:=h;obtain⟨u,rfl,rx⟩:=ut r;cases rx;obtain⟨its,rv,pl,hz⟩:=I.list hq;have l1:=rv.length;have l2:=rr.length;have hil:its.length=ds.length:=by ext
 obtain⟨hrl,hit⟩:=Ou I rr rv hrows;obtain⟨m,F⟩:=I.fr;have N:News X.base X.env.locals s.heap (lH X.base s.heap X.env.locals):=Uf;have neL:∀a xs,zA s.heap a xs->a≠X.env.locals:=λa xs ht e=>by obtain⟨o,L,hc,n,hd⟩:=ht;obtain⟨o',es,ep,E,hd',_⟩:=F.ns;rw[e,E]at L;cases L;rw[hd']at hd;cases hd
 have kept:∀h',Fr X.base X.env.locals h' m->News X.base X.env.locals h' (lH X.base s.heap X.env.locals)->∀b o,b≠X.env.locals->s.heap.get? b=some o->h'.get? b=some o:=λh' F' N' b o hb e=>by
  cases z:X.base.get? b with
  |some u=>
   have:=F.keep b u z;rw[e]at this;cases this;exact F'.keep b _ z
  |none=>exact (N' (b,o) (Nz hb z e)).1
 refine PySem.W.kat_sorted F N pl.isList (by ext) (by ext) λD Y h' F' N' hD=>?_;have N'':News X.base X.env.locals h' (lH X.base s.heap X.env.locals):=λz hz=>N' z (bD _ hz);have hDL:=(N' _ (cE ..)).2.1;have hDb:=(N' _ (cE ..)).2.2;have hDs:s.heap.get? D=none:=by
  cases z:s.heap.get? D with
  |none=>rfl
  |some o=>exact bq (hD _ (Nz hDL hDb z)) (cn _)
 have g:H D=none:=by
  cases z:H D with
  |none=>rfl
  |some o=>
   obtain⟨ob,e⟩:=UE (I.hok D o z);rw[hDs]at e;cases e
 have G:∀(i:Nat),i < ds.length->∃a xs o n,its[i]?=some (.ref a)/\h'.get? a=some o/\o.cls=.type "tuple"/\o.data=.seq xs n/\lx xs.toList (rows.getD i []):=λi hi=>by obtain⟨a,xs,e,ht,B⟩:=hit i hi;have hn:=neL a xs ht;obtain⟨o,L,hc,n,hd⟩:=ht;exact⟨a,xs,o,n,e,kept h' F' N'' a o hn L,hc,hd,B⟩
 have tups:∃fs:List af,wE h' its fs/\fs.length=its.length/\∀v∈fs,∃(k:Int)(t:Tok),v=.int k t:=by
  have gen:∀(ys:List af),(∀v∈ys,∃a xs o n,v=.ref a/\h'.get? a=some o/\o.cls=.type "tuple"/\o.data=.seq xs n/\∃(k:Int)(t:Tok),xs[0]?=some (.int k t))->∃fs:List af,wE h' ys fs/\fs.length=ys.length/\∀v∈fs,∃(k:Int)(t:Tok),v=.int k t:=by
   intro ys
   induction ys with
   |nil=>exact λ_=>⟨[],trivial,rfl,by simp⟩
   |cons y ys ih=>
    intro hy;obtain⟨fs,k1,k2,k3⟩:=ih λv hv=>hy v (by simp[hv]);obtain⟨a,xs,o,n,e,L,hc,hd,k,t,B⟩:=hy y (by simp);subst e;exact⟨.int k t::fs,wE.cons L hc hd B k1,by simp[k2],λv hv=>by
     rcases bn.mp hv with z|z
     ·exact⟨k,t,z⟩
     ·exact k3 v z⟩
  refine gen its λv hv=>?_;obtain⟨i,hi⟩:=kN hv;have hlt:i < ds.length:=by rw[<- hil];exact (ac.mp hi).1
  obtain⟨a,xs,o,n,e,L,hc,hd,B⟩:=G i hlt;rw[hi]at e;cases e;refine⟨a,xs,o,n,rfl,L,hc,hd,?_⟩;have U:0 < (rows.getD i []).length:=by
   have hr:i < rows.length:=by ext
   have:rows.getD i []=rows[i]:=by simp[hr]
   rw[this];have:=dW.mp hall rows[i] (bA hr);simpa using this
  cases O:rows.getD i [] with
  |nil=>rw[O]at U;simp at U
  |cons k ks=>
   rw[O]at B;cases hxs:xs.toList with
   |nil=>rw[hxs]at B;cases B
   |cons y ys=>
    rw[hxs]at B;cases B with
    |cons _ t r=>exact⟨k,t,by rw[<- dQ,hxs];rfl⟩
 obtain⟨fs,t1,t2,t3⟩:=tups;refine PySem.W.kat_kind (T:=.type "int") t1 (by ext) (λv hv=>?_) (by decide) ?_
 ·obtain⟨k,t,e⟩:=t3 v hv;subst e;exact PySem.W.Looks.of_pure rfl
 refine M8 (n:=ds.length) (f:=λi j=>uG (rows.getD i []) (rows.getD j [])) (λi j C hi hj hC=>?_) (ma its.length) (a:=p) (by rw[hil];exact hev) ?_
 ·obtain⟨a,xs,o,n,e,L,hc,hd,B⟩:=G i hi;obtain⟨b,ys,o',v,u,E,q,hd',hy⟩:=G j hj
  show aJ _ _ (keyLt' _ (its.getD i bQ) (its.getD j bQ)) _ _ _;have g:its.getD i bQ=.ref a:=by rw[lL,e];rfl
  have c:its.getD j bQ=.ref b:=by rw[lL,u];rfl
  rw[g,c];refine PySem.W.kat_lt L hd E hd' (Uc 0 B hy ?_ hC);have l:=xF B;have h:=xF hy;rw[<- l,<- h,d_,d_]
 ·refine PySem.W.KasFin.intro F' N' (PySem.W.UpdF.head (λz hz=>bz (hD z hz))) λB c G L=>?_;have U:News X.base X.env.locals B (lH X.base s.heap X.env.locals):=λz hz=>L z (bD _ hz);have v:=(L _ (cE ..)).1;have h:=kept B G U;have hsz:(p.toList.map λi=>vs.getD i V.non).length<=sizeLine:=by
   rw[ae,d_];have:1000<=sizeLine:=by decide
   ext
  have J:=I.free
  suffices I3:Inv X ar σ (fJ H D (.lst (p.toList.map λi=>vs.getD i V.non))) { s with heap:=B,gens:=s.gens,drawn:=s.drawn,toks:=s.toks } by exact⟨.ref D,fJ H D (.lst (p.toList.map λi=>vs.getD i V.non)),I3,rfl,q D g⟩
  refine I.step (g':=s.gens) (d':=s.drawn) (t':=s.toks) (ch:=[]) (λb hb=>by cases hb) (λb o C _ _ e _=>h b o C e) (λb o C _ _ e _=>⟨o.slots,h b o C e⟩)
   (λb o _ e O=>by rw[fZ (λz=>by rw[z,hDs]at e;cases e)];exact O)
   (λb o _ e=>by
    by_cases z:b=X.env.locals
    ·obtain⟨o',_,_,E,_⟩:=G.ns;exact⟨o',by rw[z];exact E⟩
    ·exact⟨o,h b o z e⟩)
   (λb ys e=>by rw[fZ (mR e g)];exact e) (λb o ys e=>by rw[fZ (mR e g)];exact e) (λb ps e=>⟨#[],by rw[fZ (mR e g),e];simp⟩)
   (λm' Q=>by rw[<- W_ F.ns Q];exact G.ns) ?_ I.bare
  intro a o e;by_cases z:a=D
  ·subst z;rw[ky]at e;cases e;exact⟨hsz,_,c,bU.picks rv p.toList,v⟩
  ·rw[fZ z]at e;refine (I.hok a o e).stay (λb u hb Y=>h b u (λl=>?_) Y) (λb Y=>by rw[fZ (mR Y g)];exact Y) (λb ys Y=>by rw[fZ (mR Y g)];exact Y);rcases hb with y|y
   ·rw[y]at l;rw[l,J]at e;cases e
   ·rw[l,J]at y;cases y
theorem UB:CallR X (.builtin "sorted") (λxs H Q=>∃v,xs=[v]/\vR X.K o_ v H Q):=T7.of λxs H Q g=>by
 obtain⟨v,e,ρ,st,d,sr,I,p⟩:=g;cases I with
 |@ref a n _ h=>
  obtain⟨ds,O,c⟩:=aU.getL (aU.bnd p) sr;obtain⟨U,C,E,L,r⟩:=sr.seq O;rw[h]at E;cases E;unfold tZ at c;cases u:qN ds with
  |none=>rw[u]at c;exact c.elim
  |some rows=>
   rw[u]at c;by_cases l:(rows.all λr=>decide (0 < r.length))=true/\2<=ds.length/\ds.length < 64
   ·simp only[aD l]at c;cases B:sB ds.length (λi j=>uG (rows.getD i []) (rows.getD j [])) (ma ds.length) with
    |none=>rw[B]at c;exact c.elim
    |some pp=>
     rw[B]at c;by_cases hz:pp.size<=1000
     ·simp only[aD hz]at c;refine⟨a,C,ρ,ds,rows,pp,e,ii.of L,r,u,l.1,l.2.1,l.2.2,B,hz,λq o=>?_⟩;have J:=sr.fresh o;have G:SR X.K (ρ++[q]) (fJ H q (.lst (pp.toList.map λi=>C.getD i V.non))) (st++[.lst (pp.toList.map λi=>ds.getD i D.non)]):=(sr.new o).keep ky J ((bJ.picks r pp.toList).mono (Ex.new o));refine c _ _ (Ex.newL o) G _ (.ref ⟨_,ky,rfl⟩ ?_);rw[<- sr.len];simp
     ·simp only[aB hz]at c;exact c.elim
   ·simp only[aB l]at c;exact c.elim
 |_=>exact p.elim
end
section
variable{X:Cx}{ar:List (aj×Obj)}{σ:St}{H:Hp}{s:ao}{h':bK}{ch:List aj}
theorem TY{t':Nat}(I:Inv X ar σ H s)(h:∀b∈ch,pC X ar H b)(keep:∀b o,b∉ch->s.heap.get? b=some o->h'.get? b=some o):Inv X ar σ H { s with heap:=h',toks:=t' }:=by
 have q:∀b o,H b=some o->b∉ch:=λb o e z=>by rw[(h b z).1]at e;cases e
 have B:X.env.locals∉ch:=λz=>(h _ z).2.1 rfl;refine I.step (g':=s.gens) (d':=s.drawn) (ch:=ch) (λb l=>?_) (λb o _ _ c e _=>keep b o c e) (λb o _ _ c e _=>⟨o.slots,keep b o c e⟩) (λb o _ _ e=>e) (λb o c e=>⟨o,keep b o c e⟩)
  (λb ys e=>e) (λb o ys e=>e) (λb O e=>⟨#[],by rw[e];simp⟩) (λm v=>?_) ?_ I.bare
 ·obtain⟨U,J,Q,G,E,C⟩:=h b l;exact⟨G,J,E,C⟩
 ·obtain⟨o,L,ep,e,r⟩:=v;exact⟨o,L,ep,keep _ o B e,r⟩
 ·intro a o e;refine (I.hok a o e).stay (λb u l g=>keep b u ?_ g) (λb g=>g) (λb ys g=>g);rcases l with y|y
  ·rw[y];exact q a o e
  ·exact q b _ y
theorem Xw{t':Nat}{T:aj}{l:List V}{its:List af}(I:Inv X ar σ H s)(q:∀b∈ch,pC X ar H b)(keep:∀b o,b∉ch->s.heap.get? b=some o->h'.get? b=some o)(C:s.heap.objs.size<=T)
  (hz:l.length<=sizeLine) (E:bU l its) (G:kH h' T its.toArray):Inv X ar σ (fJ H T (.tup l)) { s with heap:=h',toks:=t' }:=by
 have c:H T=none:=I.hok.fresh C;have B:∀b o,H b=some o->b∉ch:=λb o e z=>by rw[(q b z).1]at e;cases e
 have L:X.env.locals∉ch:=λz=>(q _ z).2.1 rfl;refine I.step (g':=s.gens) (d':=s.drawn) (ch:=ch) (λb v=>?_) (λb o _ _ h e _=>keep b o h e) (λb o _ _ h e _=>⟨o.slots,keep b o h e⟩) (λb o _ e n=>by rw[fZ (bz (a_ (aK e) C))];exact n) (λb o h e=>⟨o,keep b o h e⟩)
  (λb ys e=>by rw[fZ (mR e c)];exact e) (λb o ys e=>by rw[fZ (mR e c)];exact e) (λb ps e=>⟨#[],by rw[fZ (mR e c),e];simp⟩) (λm J=>?_) ?_ I.bare
 ·obtain⟨g,Y,c,U,Q,O⟩:=q b v;exact⟨U,Y,Q,O⟩
 ·obtain⟨o,c,ep,e,r⟩:=J;exact⟨o,c,ep,keep _ o L e,r⟩
 ·intro a o e;by_cases z:a=T
  ·subst z;rw[ky]at e;cases e;exact⟨hz,its,E,G⟩
  ·rw[fZ z]at e;refine (I.hok a o e).stay (λb u v g=>keep b u ?_ g) (λb g=>by rw[fZ (mR g c)];exact g) (λb ys g=>by rw[fZ (mR g c)];exact g);rcases v with y|y
   ·rw[y];exact B a o e
   ·exact B b _ y
end
structure CL(prog:Program)(w:bN)(A:bH)(it src:aj)(val:Nat->Option af)(P:Nat->bK->Prop):Prop where
 there:∀k h,P k h->∃o,h.get? it=some o
 keep:∀k h h',P k h->(∀b,b=it\/b=src->∀o,h.get? b=some o->h'.get? b=some o)->P k h'
 item:∀k x(s:ao)(Q:af->ao->Prop)(E:af->ao->Prop),P k s.heap->val k=some x->(∀h',P (k+1) h'->cO it s.heap h'->Q x { s with heap:=h' })->aJ (bb prog w) A (cf (.ref it)) Q E s
 done:∀k(s:ao)(Q:af->ao->Prop)(E:af->ao->Prop),P k s.heap->val k=none->(∀h' e,l_ it s.heap h'->(∃o,h'.get? e=some o/\o.cls=.type "StopIteration")->E (.ref e) { s with heap:=h' })->aJ (bb prog w) A (cf (.ref it)) Q E s
section
variable{prog:Program}{w:bN}{A:bH}{E:af->ao->Prop}{s:ao}{z tI tO i1 i2 l1 l2:aj}{v1 v2:Nat->Option af}{P1 P2:Nat->bK->Prop}{k:Nat}{u v:af}
theorem wl{l g b:aj}{val:Nat->Option af}{P:Nat->bK->Prop}{h h':bK}(S:CL prog w A l g val P)(x:P k h)(e:l_ b h h')(H:l≠b)(G:g≠b):P k h':=
 S.keep k h h' x λc C o B=>e c o (by rcases C with q|q<;>rw[q]<;>assumption) B
theorem Gh{a G:aj}{items:Array af}(hh:A.handled=none)(J:a≠G):CL prog w A G a (λi=>items[i]?) (λi h=>h.IsTupleIter G a i/\h.IsTuple a items) where
 there:=λk h B=>by obtain⟨⟨o,e,_⟩,_⟩:=B;exact⟨o,e⟩
 keep:=λk h h' l L=>by obtain⟨⟨o,e,r⟩,⟨o',v,U⟩⟩:=l;exact⟨⟨o,L G (.inl rfl) o e,r⟩,⟨o',L a (.inr rfl) o' v,U⟩⟩
 item:=λk x s Q E g I Y=>by obtain⟨H,C⟩:=g;exact Ox H C I λh' q O=>Y h' ⟨q,C.extBut O.extBut J⟩ O
 done:=λk s Q E c I u=>by obtain⟨H,C⟩:=c;exact IR hh H C I u
theorem Po{Q:af->ao->Prop}(D:ZipApart z tI tO i1 i2 l1 l2)(G:CL prog w A i1 l1 v1 P1)(C:CL prog w A i2 l2 v2 P2)(hz:oM s.heap z tI tO .none)(hi:iB s.heap tI (.ref i1) (.ref i2))(ho:iB s.heap tO u v)
  (p1:P1 k s.heap) (p2:P2 k s.heap) {x y:af} (hx:v1 k=some x) (hy:v2 k=some y)
  (hQ:∀h',oM h' z tI tO (fB s.heap.objs.size)->iB h' tO x y->P1 (k+1) h'->P2 (k+1) h'->iB h' s.heap.objs.size x y ->
   (∀c o,c≠z->c≠tO->c≠i1->c≠i2->s.heap.get? c=some o->h'.get? c=some o)->Q (.ref s.heap.objs.size) { s with heap:=h' }):
  aJ (bb prog w) A (Builtin.«zip.__next__» ⟨[.ref z],[]⟩) (λf s'=>∃r,f=.done (.ret r)/\Q r s') E s:=by
 show aJ _ _ (uV (.ref z) 2 >>= _) _ _ _;refine ab (cU hz rfl (x:=.bool false) rfl ?_);show aJ _ _ (uV (.ref z) 3 >>= _) _ _ _;refine ab (cU hz rfl (x:=.ref tI) rfl (ab (dA hi rfl ?_)));show aJ _ _ (eW (.ref z) >>= _) _ _ _;refine ab ?_;unfold eW;refine ab (cU hz rfl (x:=.none) rfl (au ?_));simp only[if_true];refine ab (gU (ab (cU hz rfl (x:=.ref tO) rfl (ab (dj hz (by simp) λha za U=>?_)))));have za':oM ha z tI tO .ellipsis:=za;refine ab ?_;simp only[yq,zJ,nw,sH];refine ab (ab (qy ?_));show aJ _ _ (cf (.ref i1) >>= _) _ _ _;refine ab (G.item k x _ _ _ (wl G p1 U.extBut D.i1z D.l1z) hx λhb q1 O=>au ?_);have ob:iB hb tO u v:=O.extBut _ _ D.TOi1 (U.extBut _ _ D.TOz ho);refine ab (dA ob rfl (ab (pK ob λB oc sc=>?_)));have oc':iB B tO x v:=oc;refine ab (iA (au ?_));refine ab (ab (qy ?_));show aJ _ _ (cf (.ref i2) >>= _) _ _ _;have p2c:P2 k B:=wl C (wl C (wl C p2 U.extBut D.i2z D.l2z) O.extBut D.i12.symm D.l2i1) sc.extBut D.TOi2.symm D.l2TO;refine ab (C.item k y _ _ _ p2c hy λhd q2 L=>au ?_);have od:iB hd tO x v:=L.extBut _ _ D.TOi2 oc';refine ab (dA od rfl (ab (pK od λg oe J=>?_)));have Y:iB g tO x y:=oe;refine ab (iA (au (au ?_)));refine ab (dA Y rfl (ab (wpAny_newTuple ?_)));have h:g.objs.size=s.heap.objs.size:=by rw[J.1,L.1,sc.1,O.1,U.1]
 have ze:oM g z tI tO .ellipsis:=J.extBut _ _ D.TOz.symm (L.extBut _ _ D.i2z.symm (sc.extBut _ _ D.TOz.symm (O.extBut _ _ D.i1z.symm za')));have all:∀c o,c≠z->c≠tO->c≠i1->c≠i2->s.heap.get? c=some o->g.get? c=some o:=λc o l n2 n3 n4 e=>J.extBut _ _ n2 (L.extBut _ _ n4 (sc.extBut _ _ n2 (O.extBut _ _ n3 (U.extBut _ _ l e))));have q1e:P1 (k+1) g:=wl G (wl G (wl G q1 sc.extBut D.TOi1.symm D.l1TO) L.extBut D.i12 D.l1i2) J.extBut D.TOi1.symm D.l1TO;have q2e:P2 (k+1) g:=wl C q2 J.extBut D.TOi2.symm D.l2TO;have H:z < g.objs.size:=aK ze
 show aJ _ _ (lM (.ref z) (.ref g.objs.size) >>= _) _ _ _;refine ab ?_;unfold lM;have zf:oM (g.push { cls:=.type "tuple",data:=.seq #[x,y] }) z tI tO .ellipsis:=aq _ ze;refine ab (dj zf (by simp) λhg zg sg=>?_);have zg':oM hg z tI tO (fB g.objs.size):=zg;refine dj zg' (by simp) λhh zh sh=>?_;have I:oM hh z tI tO (fB g.objs.size):=zh;have up:∀c o,c≠z->g.get? c=some o->hh.get? c=some o:=λc o l e=>sh.extBut _ _ l (sg.extBut _ _ l (aq _ e));have new:iB hh g.objs.size x y:=sh.extBut _ _ (eE H) (sg.extBut _ _ (eE H) (aF _ rfl));rw[h]at I new;refine au ⟨_,rfl,?_⟩;show Q (.ref g.objs.size) _;rw[h];exact hQ hh I (up _ _ D.TOz Y) (G.keep _ _ _ q1e λc B o e=>up c o (B.elim (λq=>by rw[q];exact D.i1z) (λq=>by rw[q];exact D.l1z)) e) (C.keep _ _ _ q2e λc B o e=>up c o (B.elim (λq=>by rw[q];exact D.i2z) (λq=>by rw[q];exact D.l2z)) e) new λc o l n2 n3 n4 e=>up c o l (all c o l n2 n3 n4 e)
theorem VN{Q:PySem.Fin->ao->Prop}(D:ZipApart z tI tO i1 i2 l1 l2)(S1:CL prog w A i1 l1 v1 P1)(O:CL prog w A i2 l2 v2 P2)(hz:oM s.heap z tI tO .none)(hi:iB s.heap tI (.ref i1) (.ref i2))(ho:iB s.heap tO u v)
  (p1:P1 k s.heap) (p2:P2 k s.heap) (J:v1 k=none\/v2 k=none)
  (hE:∀h' e,(∀c o,c≠z->c≠tO->c≠i1->c≠i2->s.heap.get? c=some o->h'.get? c=some o)->(∃o,h'.get? e=some o/\o.cls=.type "StopIteration")->E (.ref e) { s with heap:=h' }):
  aJ (bb prog w) A (Builtin.«zip.__next__» ⟨[.ref z],[]⟩) Q E s:=by
 show aJ _ _ (uV (.ref z) 2 >>= _) _ _ _;refine ab (cU hz rfl (x:=.bool false) rfl ?_);show aJ _ _ (uV (.ref z) 3 >>= _) _ _ _;refine ab (cU hz rfl (x:=.ref tI) rfl (ab (dA hi rfl ?_)));show aJ _ _ (eW (.ref z) >>= _) _ _ _;refine ab ?_;unfold eW;refine ab (cU hz rfl (x:=.none) rfl (au ?_));simp only[if_true];refine ab (gU (ab (cU hz rfl (x:=.ref tO) rfl (ab (dj hz (by simp) λha za G=>?_)))));have C:oM ha z tI tO .ellipsis:=za;refine ab ?_;simp only[yq,zJ,nw,sH];refine ab (ab (qy ?_));show aJ _ _ (cf (.ref i1) >>= _) _ _ _;have H:P1 k ha:=wl S1 p1 G.extBut D.i1z D.l1z;cases hx:v1 k with
 |none=>
  refine ab (S1.done k _ _ _ H hx λhb e g l=>?_);obtain⟨Y,B,L⟩:=l;have zb:oM hb z tI tO .ellipsis:=g _ _ D.i1z.symm C;have ne:e≠z:=λq=>by rw[q,zb]at B;cases B;simp at L
  exact dj zb (by simp) λhc _ sc=>hE hc e (λc o I _ n3 _ q=>sc.extBut _ _ I (g _ _ n3 (G.extBut _ _ I q))) ⟨Y,sc.extBut _ _ ne B,L⟩
 |some x=>
  have hy:v2 k=none:=J.resolve_left (by rw[hx];simp);refine ab (S1.item k x _ _ _ H hx λhb q1 g=>au ?_);have ob:iB hb tO u v:=g.extBut _ _ D.TOi1 (G.extBut _ _ D.TOz ho);refine ab (dA ob rfl (ab (pK ob λhc oc sc=>?_)));refine ab (iA (au ?_));refine ab (ab (qy ?_));show aJ _ _ (cf (.ref i2) >>= _) _ _ _;have U:P2 k hc:=wl O (wl O (wl O p2 G.extBut D.i2z D.l2z) g.extBut D.i12.symm D.l2i1) sc.extBut D.TOi2.symm D.l2TO;refine ab (O.done k _ _ _ U hy λhd e sd h=>?_);obtain⟨Y,B,L⟩:=h;have zd:oM hd z tI tO .ellipsis:=sd _ _ D.i2z.symm (sc.extBut _ _ D.TOz.symm (g.extBut _ _ D.i1z.symm C));have ne:e≠z:=λq=>by rw[q,zd]at B;cases B;simp at L
  exact dj zd (by simp) λhe _ se=>hE he e (λc o I n2 n3 n4 q=>se.extBut _ _ I (sd _ _ n4 (sc.extBut _ _ n2 (g.extBut _ _ n3 (G.extBut _ _ I q))))) ⟨Y,se.extBut _ _ ne B,L⟩
end
noncomputable abbrev uc(a:aj):Obj:={ cls:=.type "tuple_iterator",data:=.fields #[.ref a,.int 0 0] }
abbrev Ct(h:bK)(a:aj):bK:=h.push (uc a)
abbrev CW(h:bK)(a b:aj):bK:=(Ct h a).push (uc b)
abbrev CM(h:bK)(a b:aj):bK:=(CW h a b).push { cls:=.type "tuple",data:=.seq #[.ref h.objs.size,.ref (Ct h a).objs.size] }
abbrev Ef(h:bK)(a b:aj):bK:=(CM h a b).push { cls:=.type "tuple",data:=.seq #[.none,.none] }
abbrev xV(h:bK)(a b:aj):bK:=(Ef h a b).push { cls:=.type "zip",data:=.fields #[.none,.bool false,.bool false,.ref (CW h a b).objs.size,.ref (CM h a b).objs.size] }
theorem Sr(a b:aj)(xs ys:Array af):
  Meets (Builtin.«zip.__new__» ⟨[.type "zip",.ref a,.ref b],[]⟩) (λ_ R s=>s.heap.IsTuple a xs/\s.heap.IsTuple b ys/\R (.ok (.ret (.ref (Ef s.heap a b).objs.size))) { s with heap:=xV s.heap a b }):=
 .of_wp λprog w A R s h=>by
  obtain⟨q,g,d,c,os⟩:=s;obtain⟨C,B,h⟩:=h;have l:=sub_zip;have v:um (uo ⟨q,g,d,c,os⟩) a xs:=C;have u:um (uo ⟨q.push (uc a),g,d,c,os⟩) b ys:=let ⟨o,e,r⟩:=B;⟨o,aq _ e,r⟩
  wp_walk using kq v,kq u
  exact⟨_,rfl,h⟩
section
variable{prog:Program}{w:bN}{A:bH}{E:af->ao->Prop}{s:ao}
theorem Su{a b:aj}{xs ys:Array af}{Q:af->ao->Prop}(U:s.heap.IsTuple a xs)(O:s.heap.IsTuple b ys)
  (h:∀h',oM h' (s.heap.objs.size+4) (s.heap.objs.size+2) (s.heap.objs.size+3) .none->iB h' (s.heap.objs.size+2) (.ref s.heap.objs.size) (.ref (s.heap.objs.size+1))->iB h' (s.heap.objs.size+3) .none .none ->
   h'.IsTupleIter s.heap.objs.size a 0->h'.IsTupleIter (s.heap.objs.size+1) b 0->(∀c o,s.heap.get? c=some o->h'.get? c=some o)->Q (.ref (s.heap.objs.size+4)) { s with heap:=h' }):
  aJ (bb prog w) A (call (.type "zip") [.ref a,.ref b]) Q E s:=by
 refine callType_new F.called_zip (by decide) (F.typeCall_zip_2 _ _) (F.newCall_zip_2 _ _) (λobj=>F.args_object_init_3 obj _ _) F.entry_zip_new (Sr a b xs ys) ⟨U,O,?_⟩;have C:(Ct s.heap a).objs.size=s.heap.objs.size+1:=cq ..;have B:(CW s.heap a b).objs.size=s.heap.objs.size+2:=by rw[cq,C]
 have v:(CM s.heap a b).objs.size=s.heap.objs.size+3:=by rw[cq,B]
 have J:(Ef s.heap a b).objs.size=s.heap.objs.size+4:=by rw[cq,v]
 have g:∀c o,(Ef s.heap a b).get? c=some o->(xV s.heap a b).get? c=some o:=λc o e=>aq _ e;have l:∀c o,(CM s.heap a b).get? c=some o->(xV s.heap a b).get? c=some o:=λc o e=>g c o (aq _ e);have q:∀c o,(CW s.heap a b).get? c=some o->(xV s.heap a b).get? c=some o:=λc o e=>l c o (aq _ e);have up1:∀c o,(Ct s.heap a).get? c=some o->(xV s.heap a b).get? c=some o:=λc o e=>q c o (aq _ e);have u:oM (xV s.heap a b) (Ef s.heap a b).objs.size (CW s.heap a b).objs.size (CM s.heap a b).objs.size .none:=aF _ rfl;have G:iB (xV s.heap a b) (CM s.heap a b).objs.size .none .none:=g _ _ (aF _ rfl);have H:iB (xV s.heap a b) (CW s.heap a b).objs.size (.ref s.heap.objs.size) (.ref (Ct s.heap a).objs.size):=l _ _ (aF _ rfl);have I:(xV s.heap a b).get? (Ct s.heap a).objs.size=some (uc b):=q _ _ (aF _ rfl);have L:(xV s.heap a b).get? s.heap.objs.size=some (uc a):=up1 _ _ (aF _ rfl)
 show _/\_;rw[B,v,J]at u;rw[v]at G;rw[C,B]at H;rw[C]at I;rw[J];exact⟨⟨_,u,rfl⟩,h _ u H G ⟨_,L,rfl,rfl⟩ ⟨_,I,rfl,rfl⟩ λc o e=>up1 c o (aq _ e)⟩
end
def Cd(K:ah)(a b:aj):It:=
 ⟨λi H=>∃xs ys x y,iZ K H a xs/\iZ K H b ys/\xs[i]?=some x/\ys[i]?=some y,
  λi H r c=>∃T x y,r=.ref T/\H T=none/\(∀xs,iZ K H a xs->xs[i]?=some x)/\(∀ys,iZ K H b ys->ys[i]?=some y)/\c=fJ H T (.tup [x,y]),
  λi H=>∃xs ys,iZ K H a xs/\iZ K H b ys/\(xs.length<=i\/ys.length<=i)⟩
section
variable{X:Cx}{tg:Expr}{es:List Expr}{pos:Pos}{fa fb:CE}{K:ah}{ρ:List aj}{H:Hp}{st:aX}
noncomputable def Ki(z g c o l a b:aj)(i:Nat)(h:bK):Prop:=oM h z g c .none/\iB h g (.ref o) (.ref l)/\(∃u v,iB h c u v)/\h.IsTupleIter o a i/\h.IsTupleIter l b i
theorem vS{h h':bK}{c l:aj}{k:Nat}(x:h.IsTupleIter c l k)(e:∀o,h.get? c=some o->h'.get? c=some o):h'.IsTupleIter c l k:=let ⟨o,e1,r⟩:=x;⟨o,e o e1,r⟩
theorem XB{P:Program}{w:bN}{k:Nat}{z U tO i1 i2 a b:aj}(D:ZipApart z U tO i1 i2 a b):t8 P w K (.Tuple es k pos) (Cd K a b) [z,U,tO,i1,i2] z (Ki z U tO i1 i2 a b) where
 mem:=by simp
 obj:=λi h pq104 c l=>by
  obtain⟨B,G,⟨u,v,Q⟩,⟨o4,O,c4,d4⟩,⟨o5,L,c5,d5⟩⟩:=pq104;simp only[bn,im,or_false]at l;rcases l with e|e|e|e|e<;>subst e
  ·exact⟨_,B,λv q=>by cases q⟩
  ·exact⟨_,G,λv q=>by cases q⟩
  ·exact⟨_,Q,λv q=>by cases q⟩
  ·exact⟨_,O,λv q=>by rw[d4]at q;cases q⟩
  ·exact⟨_,L,λv q=>by rw[d5]at q;cases q⟩
 keep:=λi h h' pq105 kp=>by obtain⟨B,G,⟨u,v,Q⟩,O,L⟩:=pq105;exact⟨kp z (by simp) _ B,kp U (by simp) _ G,⟨u,v,kp tO (by simp) _ Q⟩,vS O λo e=>kp i1 (by simp) o e,vS L λo e=>kp i2 (by simp) o e⟩
 item:=by
  intro X hP hw hK l i J s σ H E I hf pq166 hg;obtain⟨B,G,⟨u,v,Q⟩,O,L⟩:=pq166;subst hP hw hK;obtain⟨xs,ys,x,y,qa,qb,hx,hy⟩:=hg;obtain⟨its,rv,p,hz⟩:=I.tuple qa;obtain⟨C,Y,p2,hz2⟩:=I.tuple qb;obtain⟨ux,hux,rux⟩:=rv.get hx;obtain⟨uy,huy,ruy⟩:=Y.get hy;have hT:s.TypeIs (.ref z) "zip":=⟨_,B,rfl⟩
  have S1:=Gh (prog:=X.prog) (w:=X.w) (A:=X.A.in1) (items:=its.toArray) (I.ok.hd l) D.l1i1;have S2:=Gh (prog:=X.prog) (w:=X.w) (A:=X.A.in1) (items:=C.toArray) (I.ok.hd l) D.l2i2;unfold iU;refine ab (i6 (b9 (name:=aA "__next__") hT og (cF og hT Cp (Po D S1 S2 B G Q ⟨O,p⟩ ⟨L,p2⟩ (x:=ux) (y:=uy) (by simpa using hux) (by simpa using huy) λh' g1 g2 g3 g4 g5 g7=>au ?_) (An _))));refine⟨_,rfl,wpAny_letOwnedTupleGo_zip g1 λh'' k1 k2=>?_⟩;have zlt:z < s.heap.objs.size:=aK B;have keep:∀c o,c∉[z,U,tO,i1,i2]->s.heap.get? c=some o->h''.get? c=some o:=λc o l e=>by simp only[bn,im,or_false,not_or]at l;exact (k2.2 c l.1).trans (g7 c o l.1 l.2.2.1 l.2.2.2.1 l.2.2.2.2 e)
  have hT:iB h'' s.heap.objs.size ux uy:=(k2.2 _ (eE zlt)).trans g5;have I2:Inv X J σ (fJ H s.heap.objs.size (.tup [x,y])) { s with heap:=h'',toks:=s.toks }:=
   Xw (its:=[ux,uy]) I hf keep (ay _) (by show 2<=sizeLine;decide) (.cons rux (.cons ruy .nil)) ⟨_,hT,rfl,⟨_,rfl⟩,rfl⟩
  have hTn:H s.heap.objs.size=none:=I.hok.fresh (ay _);refine⟨.ref s.heap.objs.size,_,I2,rfl,⟨_,x,y,rfl,hTn,λzs hzs=>by rw[I.tuple_inj hzs qa];exact hx,λzs hzs=>by rw[I.tuple_inj hzs qb];exact hy,rfl⟩,
   ⟨k1,(k2.2 U D.TIz).trans (g7 U _ D.TIz D.TITO D.TIi1 D.TIi2 G),⟨_,_,(k2.2 tO D.TOz).trans g2⟩,vS g3.1 λo e=>(k2.2 i1 D.i1z).trans e,vS g4.1 λo e=>(k2.2 i2 D.i2z).trans e⟩,λc l=>?_⟩
  rw[fZ]
  ·exact (hf c l).1
  ·intro e;have:∃o,s.heap.get? c=some o:=by
    simp only[bn,im,or_false]at l;rcases l with q|q|q|q|q<;>subst q
    ·exact⟨_,B⟩
    ·exact⟨_,G⟩
    ·exact⟨_,Q⟩
    ·obtain⟨o,e,_⟩:=O;exact⟨o,e⟩
    ·obtain⟨o,e,_⟩:=L;exact⟨o,e⟩
   obtain⟨o,g⟩:=this;have:=aK g;rw[e]at this;exact bq this (cn _)
 done:=by
  intro X hP hw hK l i J s σ H E I hf pq167 hg;obtain⟨B,G,⟨u,v,Q⟩,O,L⟩:=pq167;subst hP hw hK;obtain⟨xs,ys,qa,qb,hl⟩:=hg;obtain⟨its,rv,p,hz⟩:=I.tuple qa;obtain⟨C,Y,p2,hz2⟩:=I.tuple qb;have l1:=rv.length;have l2:=Y.length;have hT:s.TypeIs (.ref z) "zip":=⟨_,B,rfl⟩
  have S1:=Gh (prog:=X.prog) (w:=X.w) (A:=X.A.in1) (items:=its.toArray) (I.ok.hd l) D.l1i1;have S2:=Gh (prog:=X.prog) (w:=X.w) (A:=X.A.in1) (items:=C.toArray) (I.ok.hd l) D.l2i2;unfold iU;refine ab (i6 (b9 (name:=aA "__next__") hT og (cF og hT Cp (VN D S1 S2 B G Q ⟨O,p⟩ ⟨L,p2⟩ ?_ λh' e g ⟨o,q1,q2⟩=>?_) (An _))))
  ·rcases hl with hl|hl
   ·exact .inl (by simp;ext)
   ·exact .inr (by simp;ext)
  ·refine ab (fO (T:="StopIteration") (b:=true) ⟨o,q1,q2⟩ pJ (au ⟨rfl,TY (t':=s.toks) I hf λc o l e=>?_⟩));simp only[bn,im,or_false,not_or]at l;exact g c o l.1 l.2.2.1 l.2.2.2.1 l.2.2.2.2 e
 self:=λ_ _ _ _ _ pq107 h=>by obtain⟨B,_⟩:=pq107;exact FY B h
theorem Pt{a b:Expr}{Q:TA}{p B:Pos}{k:Nat}(hg:Gl X "zip")(hm:X.mg "zip"=none)(ha:PA X [a,b] Q)(hs:starEach [a,b] X.env=[(false,eval a X.env),(false,eval b X.env)])(C:starEach [b] X.env=[(false,eval b X.env)]):
  PI X (.Tuple es k B) (.Call (.Name "zip" p) [a,b] [] pos) (λσ H R=>Q σ H λO v=>∃u l xs ys,O=[.ref u,.ref l]/\iZ X.K v u xs/\iZ X.K v l ys/\R (Cd X.K u l) v):=by
 intro g s σ H R I h;refine Call_ (zP I hg hm boot_zip (fm (gg (ha pos g s σ H _ I h) λus c ⟨O,v,G,r1,q1⟩=>?_) (by rw[hs,C]) (by rw[C];rfl)));obtain⟨u,l,xs,ys,e,hx,hy,q⟩:=q1;subst e;cases r1 with
 |cons r rr=>
  cases rr with
  |cons r' rr=>
   cases rr;cases r;cases r';obtain⟨its,rv,Y,hz⟩:=G.tuple hx;obtain⟨its2,rv2,U,hz2⟩:=G.tuple hy;have L:u < c.heap.objs.size:=by obtain⟨o,e,_⟩:=id Y;exact aK e
   have J:l < c.heap.objs.size:=by obtain⟨o,e,_⟩:=id U;exact aK e
   refine Su Y U λh' g1 g2 g3 g4 g5 g7=>FY g1 ?_;have I2:Inv X g σ v { c with heap:=h' }:=G.kept (t':=c.toks) g7;refine⟨c.heap.objs.size+4,[c.heap.objs.size+4,c.heap.objs.size+2,c.heap.objs.size+3,c.heap.objs.size,c.heap.objs.size+1],_,Cd X.K u l,v,rfl,I2,XB (zipApart_new L J),⟨g1,g2,⟨_,_,g3⟩,g4,g5⟩,λb hb=>?_,q⟩;have E:c.heap.objs.size<=b:=by simp only[bn,im,or_false]at hb;rcases hb with e|e|e|e|e<;>rw[e]<;>ext
   exact G.fpOk E (G.hok.fresh E)
def tT(a b:CE):CI:=λl=>bnd (a l) λx=>bnd (b l) λy=>match x,y with
 | .tup ds,.tup es=>ret ⟨ds.zipWith (λp q=>.tup [p,q]) es,dL⟩
 |_,_=>bad
theorem Vf{a b : Expr}{p u : Pos}{k : Nat}(hg : Gl X "zip")(hm : X.mg "zip" = none)(h : SE X a fa)(h' : SE X b fb)(U : starEach [a, b] X.env = (false, eval a X.env) :: starEach [b] X.env := by rfl)(Q : starEach [b] X.env = (false, eval b X.env) :: starEach [] X.env := by rfl)
  (hs:starEach [a,b] X.env=[(false,eval a X.env),(false,eval b X.env)]:=by rfl) (O:starEach [b] X.env=[(false,eval b X.env)]:=by rfl):SI X (.Tuple es k u) (.Call (.Name "zip" p) [a,b] [] pos) (tT fa fb):=
 (Pt hg hm (rA h (rA h' uk Q) U) hs O).of λσ H R h_=>h_.el λρ l st lr sr p=>⟨ρ,l,st,lr,sr,p.bnd.imp λd I ρ1 H1 x1 s1 p1 v rv=>⟨ρ1,l,I,lr.mono x1,s1,p1.bnd.imp λe st2 ρ2 H2 x2 s2 L w B=>by
  have c:=rv.mono x2;cases c with
  |@tup a1 vs ds ha r=>
   cases B with
   |@tup a2 ws es' hb r'=>
    refine⟨a1,a2,vs,ws,rfl,ha,hb,L.ret s2 _ ?_⟩;intro ρ3 H3 st3 x3 s3 _;have q:iZ X.K H3 a1 vs:=iZ.mono x3.up ha;have o:iZ X.K H3 a2 ws:=iZ.mono x3.up hb;have r3:=r.mono x3;have C:=r'.mono x3;have l1:=r3.length;have l2:=C.length;refine⟨⟨vs,ws,q,o,?_⟩,λi d hd=>?_⟩
    ·show vs.length<=(ds.zipWith _ es').length\/ws.length<=(ds.zipWith _ es').length;rw[oO];ext
    ·rw[kD]at hd;cases E:ds[i]? with
     |none=>rw[E]at hd;cases hd
     |some d1=>
      cases Y:es'[i]? with
      |none=>rw[E,Y]at hd;cases hd
      |some d2=>
       rw[E,Y]at hd;have O:d=.tup [d1,d2]:=(aG hd).symm;subst O;obtain⟨v1,v,J⟩:=r3.get E;obtain⟨v2,u,c⟩:=C.get Y;refine⟨⟨vs,ws,v1,v2,q,o,v,u⟩,λy H4 g=>?_⟩;obtain⟨T,x,U,L,B,I,H,Q⟩:=g;subst L Q;have l:=I vs q;have h:=H ws o;rw[v]at l;cases l;rw[u]at h;cases h;have G:Ex ρ3 H3 ρ3 (fJ H3 T (.tup [v1,v2])):=Ex.new B;exact⟨G,s3.new B,.tup (iZ.of ky) (.cons (J.mono G) (.cons (c.mono G) .nil))⟩
   |_=>exact L.elim
  |_=>cases B<;>exact L.elim⟩⟩
end
theorem bU.reverse:∀{xs:List V}{c:List af},bU xs c->bU xs.reverse c.reverse
 |_,_,.nil=>.nil
 |_,_,.cons r t=>by rw[fV,fV];exact L2.bU.append (bU.reverse t) (.cons r .nil)
section
variable{X:Cx}{a b c e o tg:Expr}{es:List Expr}{pos fj ec cx p p':Pos}{fa fb fc:CE}{ca cb:CA}{K:ah}{ρ:List aj}{H:Hp}{st:aX}{te:TE}
theorem bJ.rep{g:List V}{ds:List D}(h:bJ K ρ H g ds):∀k:Nat,bJ K ρ H (aP k g).flatten (aP k ds).flatten
 |0=>.nil
 |k+1=>by rw[dN,dN,gT,gT];exact bJ.app h (bJ.rep h k)
theorem QK(O:SL X a ca)(hb:SE X b fb):SL X (.BinOp a .Mult b pos) (qQ ca fb):=
 (LB XH O hb).of λσ H Q h_=>h_.el λρ l st L sr p=>⟨ρ,l,st,L,sr,p.bnd0.imp λds E ρ1 H1 C Y p1 a G O na hv h=>⟨ρ1,l,E,L.mono C,Y,((p1.bnd0.left C)).imp λe U ρ2 H2 B I J u c=>by
  cases c with
  |int k=>
   obtain⟨⟨⟨h1,h2⟩,h3⟩,p3⟩:=aU.chk J;refine⟨a,k,G,rfl,rfl,B.lst a G na hv,h1,h2,by rw[h.length];exact h3,λq v=>?_⟩;have g:=C.trans B;have hn:H q=none:=by
    cases z:H q with
    |none=>rfl
    |some o=>exact bq v (g.trk q o z)
   exact p3 ρ2 _ (g.trans (Ex.new v)) (I.new v) q _ hn (I.fresh v) ky ((bJ.rep (h.mono B) k.toNat).mono (Ex.new v))
  |_=>exact J.elim⟩⟩
theorem WW:SE X (.Dict [] [] pos) (n6 false):=Ph.of λσ H Q g q h=>by obtain⟨ρ,l,st,u,sr,p⟩:=g;have p':∀ρ' H',Ex ρ H ρ' H'->SR X.K ρ' H' (st++[.dct false []])->∀v,du X.K ρ' H' v (.dic st.length)->Q v H':=p;refine p' (ρ++[q]) _ (Ex.newO h) ((sr.new h).keepO (sr.fresh h) ⟨[],ky,.nil⟩) _ (.dic ⟨_,ky,.inl rfl⟩ ?_);rw[<- sr.len];simp
def AU(X:Cx):TE:=λ_ H Q=>∀p,H p=none->Q (.ref p) (fJ H p (iH p []))
theorem Vr:PE X (.Dict [] [] pos) (AU X):=λg s σ H Q I h=>
 FT ⟨.ref s.heap.objs.size,_,I.laid (a:=s.heap.objs.size) (o:=iH s.heap.objs.size []) (t':=s.toks) (λ_ _ q=>aq _ q) (ay _)
  (E5 (P:=X.prog) (w:=X.w) (xs:=[]) (bY _) (beq_eq_false_iff_ne.mpr (bX (bz I.big))) .nil (tG s.heap) ⟨_,_,aF _ rfl,rfl⟩),rfl,h _ (I.hok.fresh (ay _))⟩
theorem WD:SE X (.Dict [] [] pos) (n6 true):=Vr.of λσ H Q g q h=>by obtain⟨ρ,l,st,u,sr,p⟩:=g;have p':∀ρ' H',Ex ρ H ρ' H'->SR X.K ρ' H' (st++[.dct true []])->∀v,du X.K ρ' H' v (.dic st.length)->Q v H':=p;refine p' (ρ++[q]) _ (Ex.newO h) ((sr.new h).keepO (sr.fresh h) ⟨[],ky,.nil⟩) _ (.dic ⟨_,ky,.inr rfl⟩ ?_);rw[<- sr.len];simp
end



































end MM
namespace MM
open PySem PyProof.Rows L2
section
variable{prog:Program}{w:bN}{K:Type}[DecidableEq K]{knd:uS prog w K}{A:bH}{E:af->ao->Prop}{s:ao}{d a:aj}{k:K}{xs:List (K×aj×af)}
theorem Ro{dflt:af}{Q:af->ao->Prop}(hu:knd.room A)
  (c:knd.is s.heap k a) (Y:s.heap.DictOfH knd d xs) (U:rN s.heap d xs.length) (hsz:xs.length<=sizeLine)
  (h1:∀p,lF xs k=some p->Q p.2 { s with toks:=s.toks+knd.draws k })
  (h2:lF xs k=none->∀h',h'.DictOfH knd d (lB xs k a dflt)->rN h' d (lB xs k a dflt).length->cO d s.heap h'->Q dflt { s with heap:=h',toks:=s.toks+knd.draws k }):
  aJ (bb prog w) A (uX d (.ref a) dflt) Q E s:=by
 obtain⟨o,es,ep,g,hc,hd,G,B,I⟩:=Y;obtain⟨o',es',l,C⟩:=U;rw[g]at l;cases l;rw[hd]at C;cases C;unfold uX;refine c_ ?_;refine ab (knd.pyHash hu c ?_);refine ab (Aj (s:={ s with toks:=s.toks+knd.draws k }) hu c g hd G B I (λu=>?_) λj p J=>?_)
 ·have q:k∉xs.map (·.1):=Ak u;have L:=Dd u;have H:=storedH_new (a:=a) (v:=dflt) L;have l:=lQ G;refine ab (gU (ab (zD (hz:=by ext) (s:={ s with toks:=s.toks+knd.draws k }) g hd (au
   (h2 L _ ⟨_,_,_,cG _ g (gu (dY hd _)),hc.mapDictKeys _,dY hd _,?_,?_,?_⟩ ?_ (cu ..))))))
  ·rw[H];simp[G,ou]
  ·rw[H];intro x h;rcases aV.mp h with h|h
   ·exact knd.keeps (B x h) g hd (cu ..)
   ·cases aI.mp h;exact knd.keeps c g hd (cu ..)
  ·rw[H,bj,cP];refine⟨I,by simp,λx h y O=>?_⟩;cases aI.mp O;exact λe=>q ((show x=k from e) ▸ h)
  ·rw[H,aE];exact⟨_,_,cG _ g (gu (dY hd _)),dY hd _⟩
 ·refine ab (fF (s:={ s with toks:=s.toks+knd.draws k }) g hd ?_);rw[entry_at G j,J];exact ab (gU (au (h1 p (atKey_of_get I J))))
theorem QD(hd:(d == cX)=false)(dflt:af):
  MeetsIn prog w (Builtin.«dict.setdefault» ⟨[.ref d,.ref a,dflt],[]⟩) (λA R s=>knd.room A.in1/\∃k xs,knd.is s.heap k a/\s.heap.DictOfH knd d xs/\rN s.heap d xs.length/\xs.length<=sizeLine /\
   (∀p,lF xs k=some p->R (.ok (.ret p.2)) { s with toks:=s.toks+knd.draws k }) /\
   (lF xs k=none->∀h',h'.DictOfH knd d (lB xs k a dflt)->rN h' d (lB xs k a dflt).length->cO d s.heap h'->R (.ok (.ret dflt)) { s with heap:=h',toks:=s.toks+knd.draws k })):=
 .of_wp λA R s z=>by
  obtain⟨hu,k,xs,c,q,l,hz,B,v⟩:=z;unfold Builtin.«dict.setdefault»;refine ab ?_;unfold Builtin.Dict.keyAndDefault;refine ab (kS q.typeIs ?_)
  show aJ _ _ (pure (d,bc a,some dflt)) _ _ s;refine au ?_
  show aJ _ _ (if (d == cX)=true then _ else (uX d (.ref a) dflt >>= _)) _ _ s;rw[aB (by rw[hd];exact bv)];exact ab (Ro hu c q l hz (λp l=>au ⟨p.2,rfl,B p l⟩) λu h' o h g=>au ⟨dflt,rfl,v u h' o h g⟩)
end
section
variable{X:Cx}{ar:List (aj×Obj)}{σ:St}{H:Hp}{s:ao}{ρ:List aj}{st:aX}{a:aj}
theorem RP{n:Nat}{g:List (D×D)}{k d:D}{y v:V}{u L:af}{Q:af->ao->Prop}{E:af->ao->Prop}{A:bH}(hu:A.units+2 < dk)(I:Inv X ar σ H s)(sr:SR X.K ρ H st)(ha:ρ[n]?=some a)(hn:st[n]?=some (.dct true g))
  (rk:du X.K ρ H y k) (hk:pk true k=true) (hl:g.length < sizeLine) (rv:du X.K ρ H v d) (ry:RelV y u) (rr:RelV v L)
  (h1:∀d',m9 g k=some d'->∀B w' C,Inv X ar σ H C->du X.K ρ H B d'->RelV B w'->Q w' C)
  (h2:m9 g k=none->∀H' C,Inv X ar σ H' C->SR X.K ρ H' (st.set n (.dct true (lN g k d)))->Ex ρ H ρ H'->Q L C):
  aJ (bb X.prog X.w) A (call (.builtin "dict.setdefault") [.ref a,u,L]) Q E s:=by
 have hlt:=(ac.mp hn).1;obtain⟨O,e,r⟩:=sr.ob n a _ ha hn;obtain⟨k,rfl⟩:=EX hk;obtain⟨_,hd,xs,U,dd,de⟩:=yw I e r;obtain⟨c,e2,e3,hc⟩:=C0 I rk ry;subst e2 e3;have w:=sr.putO (o':=.dct true (lN g (r8 k) d)) (u':=iH a (putN O k c v)) hlt ha e (by show (2:Nat)≠3;decide) rfl ⟨_,ky,(NR.put r k c rk rv).up ?_⟩
 ·have hz : xs.length <= sizeLine := by rw[<- di U,NR.length r];ext
  have l:=NR.val r k;have h:=NX.val U k;refine xD wd dd.typeIs F.entry_dict_setdefault (F.args_dict_setdefault_3 _ _ _) (QD (knd:=AG X) hd L) ⟨show A.in1.units+1 < dk from hu,k,xs,hc,dd,de,hz,λp Y=>?_,λY h' J o u=>?_⟩
  ·rw[Y]at h;cases G:valN O k with
   |none=>rw[G]at h;exact h.elim
   |some B=>
    rw[G]at l h;cases el:m9 g (r8 k) with
    |none=>rw[el]at l;exact l.elim
    |some d'=>
     rw[el]at l;exact h1 d' el B p.2 _ (I.tok _) l h
  ·rw[Y]at h;cases G:valN O k with
   |some B=>rw[G]at h;exact h.elim
   |none=>
    rw[G]at l;cases el:m9 g (r8 k) with
    |some d'=>rw[el]at l;exact l.elim
    |none=>
     refine h2 el _ _ ?_ w.1 w.2;have C:∃q,h'.get? a=some q:=let ⟨q,_,_,hq,_⟩:=J;⟨q,hq⟩
     refine FK I (by rw[e];exact eX) u C (E5 ?_ hd (NX.put U k c rr) J o);have:=Hu O k c v;rw[NR.length r]at this;ext
 ·refine⟨⟨[],by simp⟩,λc o g q=>?_,λc o q=>?_⟩
  ·rw[fZ λz=>by subst z;rw[e]at q;cases q;exact nomatch g];exact q
  ·by_cases z:c=a
   ·subst z;rw[e]at q;cases q;exact⟨_,ky,rfl⟩
   ·exact⟨o,by rw[fZ z];exact q,rfl⟩
end
open PySem.W
section
variable{prog:Program}{w:bN}{A:bH}{E:af->ao->Prop}{s:ao}{d it:aj}{es:Array iJ}{ep i:Nat}
noncomputable def mv(h:bK)(d:aj)(es:Array iJ)(ep:Nat):Prop:=∃o,h.get? d=some o/\o.ExactDict/\o.data=.dict es ep
theorem mv.typeIs(x:mv s.heap d es ep):s.TypeIs (.ref d) "dict":=by obtain⟨o,g,c,_⟩:=x;exact⟨o,g,c.1⟩
theorem mv.keep{h h':bK}(x:mv h d es ep)(k:∀o,h.get? d=some o->h'.get? d=some o):mv h' d es ep:=by obtain⟨o,g,r⟩:=x;exact⟨o,k o g,r⟩
theorem mv.lt{h:bK}(x:mv h d es ep):d < h.objs.size:=by obtain⟨o,g,_⟩:=x;exact aK g
theorem Mc{Q:af->ao->Prop}(hd:(d == cX)=false)(x:mv s.heap d es ep)
  (q:Q (.ref s.heap.objs.size) { s with heap:=s.heap.push { cls:=.type "dict_keyiterator",data:=.fields #[.ref d,.int 0 0,.int es.size 0,.int ep 0] } }):
  aJ (bb prog w) A (Ch (.ref d)) Q E s:=by
 have T:=x.typeIs;obtain⟨o,g,c,h⟩:=x;refine Dh T Cq (cF Cq T F.entry_dict_iter ?_ (F.args_dict_iter_1 _));unfold Builtin.«dict.__iter__» Builtin.Dict.dictSlotNone;refine ab (ab (kS T ?_))
 show aJ _ _ (pure (bc d)) _ _ s;refine au ?_
 show aJ _ _ (iL d >>= _) _ _ s;unfold iL;rw[aB (by rw[hd];exact bv)];refine ab (au (ab (fF g h (ab (kh g h ?_)))));refine ab (cg (au ⟨_,rfl,"dict_keyiterator",_,⟨_,aF _ rfl,rfl⟩,gW.lookup,?_⟩));simpa [fB] using q
theorem NH{e:iJ}{Q:Option af->ao->Prop}(z:s.heap.IsKeyIter it d i es.size ep)(x:mv s.heap d es ep)(C:es[i]?=some e)
  (q:∀h',h'.IsKeyIter it d (i+1) es.size ep->cO it s.heap h'->Q (some e.key) { s with heap:=h' }):aJ (bb prog w) A (iU (.ref it)) Q E s:=by
 have T:=z.typeIs;obtain⟨o,g,c,h⟩:=id z;obtain⟨G,u,H,v⟩:=x;unfold iU;refine ab (i6 (b9 (name:=aA "__next__") T gW (cF gW T sI ?_ (rX _))));refine ab (au (ab (ab ?_)))
 first|refine ab (gN T (au ?_))|refine ab (i8 T (au ?_))
 refine ab (pL g h ?_);have B:eJ "dict_keyiterator"=false:=by decide
 simp only[B,aY,if_false]
 show aJ _ _ (if (bc d == bQ)=true then _ else _) _ _ s;rw[aB (show ¬ ((bc d == bQ)=true) from bv)];refine ab (au (ab (fF u v ?_)));rw[aB (by simp)];refine ab (au (ab (kh u v ?_)));rw[aB (by simp)];refine au ?_;simp only[show ¬ ((i:Int) < 0) from by ext,if_false,bo,C];refine ab ?_
 first|refine ab (gN T (au ?_))|refine ab (i8 T (au ?_))
 refine ab (yr T ?_)
 show aJ _ _ (zK (.ref it) 1 (fB ((i:Int)+1)) >>= _) _ _ s;refine ab (mI g h (by simp) ?_);have l:(s.heap.update it (Di (·.setIfInBounds 1 (fB ((i:Int)+1))))).IsKeyIter it d (i+1) es.size ep:=
  ⟨_,cG _ g (vp (lS h _)),(yp ..).trans c,by rw[lS h];simp[fB]⟩
 refine ab (c_ (ab (yr (s:={ s with heap:=s.heap.update it (Di (·.setIfInBounds 1 (fB ((i:Int)+1)))) }) l.typeIs ?_)))
 show aJ _ _ (pure e.key) _ _ _;exact au (au ⟨_,rfl,au (q _ l (cu ..))⟩)
theorem Np{Q:Option af->ao->Prop}(hh:A.handled=none)(z:s.heap.IsKeyIter it d i es.size ep)(x:mv s.heap d es ep)(B:es[i]?=none)
  (q:∀h',l_ it s.heap h'->Q none { s with heap:=h' }):aJ (bb prog w) A (iU (.ref it)) Q E s:=by
 have T:=z.typeIs;obtain⟨o,g,c,l⟩:=id z;obtain⟨C,h,G,u⟩:=x;unfold iU;refine ab (i6 (b9 (name:=aA "__next__") T gW (cF gW T sI ?_ (rX _))));refine ab (au (ab (ab ?_)))
 first|refine ab (gN T (au ?_))|refine ab (i8 T (au ?_))
 refine ab (pL g l ?_);have v:eJ "dict_keyiterator"=false:=by decide
 simp only[v,aY,if_false]
 show aJ _ _ (if (bc d == bQ)=true then _ else _) _ _ s;rw[aB (show ¬ ((bc d == bQ)=true) from bv)];refine ab (au (ab (fF h u ?_)));rw[aB (by simp)];refine ab (au (ab (kh h u ?_)));rw[aB (by simp)];refine au ?_;simp only[show ¬ ((i:Int) < 0) from by ext,if_false,bo,B];refine ab ?_
 first|refine ab (gN T (au ?_))|refine ab (i8 T (au ?_))
 show aJ _ _ (zK (.ref it) 0 .none >>= _) _ _ s;refine ab (mI g l (by simp) ?_)
 show aJ _ _ (xE (.type "StopIteration") [] >>= _) _ _ _;refine ab ?_;simp only[xE,newTuple];refine ab (cg ?_ (by size_fits));refine ab (m:=kL _ _) (pI (a:=bQ) (by first|rfl|(simp only[kL];rfl)) (cg ?_ (by size_fits)));simp only[raiseNew];refine ab (wa ?_);rw[show A.in1.handled=none from hh];refine ab (au (zH ?_));refine ab (fO (T:="StopIteration") (b:=true) ⟨_,aF _ rfl,rfl⟩ pJ ?_);exact au (q _ (((cu ..).extBut.push _).push _))
theorem V1(hh:A.handled=none)(I d:aj)(B:d≠I)(es:Array iJ)(ep:Nat):
  Walks prog w A I [I,d] [I] es.size (λi v=>∃e,es[i]?=some e/\v=e.key) (λi h=>h.IsKeyIter I d i es.size ep/\mv h d es ep) where
 sub:=λb c=>by simp at c;simp[c]
 frame:=λ_ _ _ z k=>⟨z.1.at λo e=>k I (by simp) o e,z.2.keep λo e=>k d (by simp) o e⟩
 item:=λi s Q E C z q=>by
  have g:es[i]?=some es[i]:=by simp[C]
  refine NH z.1 z.2 g λh' u l=>?_;exact q _ h' s.toks ⟨_,g,rfl⟩ ⟨u,z.2.keep λo e=>l.extBut d o B e⟩ λb o c e=>l.extBut b o (λh=>c (by simp[h])) e
 done:=λs Q E z q=>Np hh z.1 z.2 (by simp) λh' G=>q h' s.toks λb o c e=>G b o (λh=>c (by simp[h])) e
 self:=λ_ _ _ _ z q=>zL z.1 q
theorem Yb(lo:(d == cX)=false):KdlSrc prog w "dict" d d es.size (λi v=>∃e,es[i]?=some e/\v=e.key) (λh=>mv h d es ep) where
 type:=λ_ x=>x.typeIs
 there:=λ_ x=>⟨x.lt,x.lt⟩
 keep:=λ_ _ x k=>x.keep λo e=>k d (.inl rfl) o e
 notList:=by decide
 notTuple:=by decide
 hint:=λ_ _ _ _ x q=>kdl_hint_dict x.typeIs q
 iter:=λ_ _ hh x=>⟨_,_,(λ_ _ q=>Mc lo x q),V1 hh _ d (bz x.lt) es ep,⟨⟨_,aF _ rfl,rfl,rfl⟩,x.keep λo e=>aq _ e⟩⟩
end
end MM
namespace MM
open PySem
def pz:D->M D
 | .dic n=>bnd (getDc n) λp=>chk (p.1=true) (alloc (.lst (p.2.map (·.1))))
 |_=>bad
def lJ(n:Nat)(k v:D):M D:=bnd (getDc n) λp=>chk (p.1=true/\pk true k=true/\p.2.length < fv) (match m9 p.2 k with
 |some d=>ret d
 |none=>bnd (sC n true (lN p.2 k v)) λ_=>ret v)
def oW(a b c:CE):CE:=λl=>bnd (a l) λx=>match x with
 | .dic n=>bnd (getDc n) λp=>chk (p.1=true) (bnd (b l) λy=>bnd (c l) λz=>lJ n y z)
 |_=>bad
def qK(g:List D->M D)(a:CA)(d:D):CE:=λl=>bnd (a l) λds=>g (ds++[d])
open PySem.W PyProof.Rows L2
section
variable{X:Cx}
theorem NX.refs{c:List (NK×aj×V)}{xs:List (NK×aj×af)}(r:NX c xs):L2.bU (c.map λp=>V.ref p.2.1) (xs.map λx=>bc x.2.1):=by
 induction r with
 |nil=>exact .nil
 |cons h t ih=>exact .cons (by dsimp only;rw[h.2.1];rfl) ih
theorem Xx(hc:X.calm=true):CallR X (.type "list") (λU H Q=>∃a C ρ E,U=[.ref a]/\H a=some (iH a C)/\NR X.K ρ H C E/\∀l,H l=none->Q (.ref l) (fJ H l (.lst (C.map λp=>V.ref p.2.1)))):=by
 intro Y s σ H U us Q I r h;obtain⟨a,C,ρ,E,rfl,e,nr,q⟩:=h;obtain⟨u,rfl,J⟩:=ut r;cases J;obtain⟨hz,hd,xs,J,dd,_⟩:=yw I e nr;obtain⟨o,O,ep,g,c,gd,he,_⟩:=id dd;have hn:O.size=xs.length:=lQ he;have hl:C.length=xs.length:=di J;refine kdl_call (Yb (ep:=ep) hd) (I.ok.hd hc) ⟨o,g,c,gd⟩ (by ext) λh' tk B c' kp hS v=>?_;have ea:B=(xs.map λx=>bc x.2.1).toArray:=by
  apply FZ;apply fA;intro i;rw[dQ,ak];cases L:xs[i]? with
  |none=>
   have:=List.getElem?_eq_none_iff.mp L;rw[mU (by rw[v.1];ext)];rfl
  |some x=>
   have hi:=(ac.mp L).1;have G:i < B.size:=by rw[v.1];ext
   rw[fQ G];obtain⟨en,e1,e2⟩:=v.2 i B[i] (fQ G);rw[entry_at he i,L]at e1;cases e1;rw[e2];rfl
 rw[ea]at hS;exact⟨.ref s.heap.objs.size,_,I.laid (t':=tk) kp (ay _) (show eS X.prog X.w _ h' _ (.lst (C.map λp=>V.ref p.2.1)) from ⟨by rw[ae];exact hz,_,c',J.refs,hS⟩),rfl,q _ (I.hok.fresh (ay _))⟩
theorem NR.keys{K:ah}{ρ:List aj}{H:Hp}{g:List (NK×aj×V)}{c:List (D×D)}(r:NR K ρ H g c):bJ K ρ H (g.map λp=>V.ref p.2.1) (c.map (·.1)):=by
 induction r with
 |nil=>exact .nil
 |cons h t ih=>exact .cons h.2.1 ih
theorem Xq(G:X.calm=true):CallR X (.type "list") (λxs H Q=>∃v,xs=[v]/\vR X.K pz v H Q):=(Xx G).of λxs H Q z=>by
 obtain⟨v,e,ρ,st,d,sr,u,p⟩:=z;cases u with
 |@dic a n _ h=>
  obtain⟨b,c,L,C⟩:=aU.getDc (aU.bnd p) sr;obtain⟨I,B⟩:=aU.chk C;cases (show b=true from I);obtain⟨o,J,r⟩:=sr.ob n a _ h L;refine⟨a,o,ρ,c,e,J,r,λl g=>?_⟩;have E:=sr.fresh g;have q:SR X.K (ρ++[l]) (fJ H l (.lst (o.map λp=>V.ref p.2.1))) (st++[.lst (c.map (·.1))]):=(sr.new g).keep ky E ((NR.keys r).mono (Ex.new g));refine B _ _ (Ex.newL g) q _ (.ref ⟨_,ky,rfl⟩ ?_);rw[<- sr.len];simp
 |_=>exact p.elim
theorem SF{o e:Expr}{u:List Expr}{to:TE}{t:TA}{name:Str}{C l:Pos}{id:String}{r:V->List V->Hp->VK->Prop}(slot:Slot "dict" name id)(U:typeOf (.builtin id)=pure (.type "method_descriptor"))(hm:Gx X id r)(ho:PE X o to)(ha:PA X (e::u) t)
  (G:eL o name X.env (eval o X.env)=eval o X.env)
  (L:((backTo l (starEach (e::u) X.env)).all (λx => !x.1)&&(uQ l (pG [] X.env)).all (λx=>x.1.isSome)&&decide ((e::u).length+([]:List lY).length+(if ([]:List lY).isEmpty then 0 else 1) < 30))=true)
  (E:(C.endLine == l.line)=true) (hs:starEach (e::u) X.env=(false,eval e X.env)::starEach u X.env) (B:(backTo l (starEach u X.env)).any (·.1)=false):
  PE X (.Call (.Attribute o name C) (e::u) [] l) (λσ H Q=>to σ H λx O=>(∃a u ρ J,x=.ref a/\O a=some (iH a u)/\NR X.K ρ O u J)/\t σ O λxs H2=>r x xs H2 Q):=by
 intro q s σ H Q I h;refine xC G L E rfl (gg (ho q s σ H _ I h) λv s1 z=>?_);obtain⟨x,O,I1,r1,⟨a,es',ρ,J,rfl,e1,nr⟩,q1⟩:=z;cases r1;obtain⟨_,_,_,_,dd,_⟩:=yw I1 e1 nr;have dd':=dd;obtain⟨ob,_,_,g,c,_⟩:=dd';refine⟨"dict",id,Ao,slot,U,dd.typeIs,λb Y=>by injection Y with Y;subst Y;exact⟨ob,g,c.2.1⟩,?_⟩;have hA:=ha l q s1 σ O _ I1 q1;rw[hs]at hA ⊢;refine i5 (by show (false||(backTo l (starEach u X.env)).any (·.1))=false;rw[B]<;>rfl) (nU (gg hA λus s2 z=>?_));obtain⟨vs,H2,I2,r2,q2⟩:=z;exact hm q s2 σ H2 (.ref a) vs _ us Q I2 rfl r2 q2
def u7(X:Cx):V->List V->Hp->VK->Prop:=λx h H Q=>∃(a:aj)(ρ:List aj)(st:aX)(n:Nat)(cp:List (D×D))(k d:D)(y v:V),x=.ref a/\h=[y,v]/\SR X.K ρ H st/\ρ[n]?=some a/\st[n]?=some (.dct true cp)/\du X.K ρ H y k/\pk true k=true/\cp.length < sizeLine/\du X.K ρ H v d /\
 (∀d',m9 cp k=some d'->∀g,du X.K ρ H g d'->Q g H)/\(m9 cp k=none->∀c,SR X.K ρ c (st.set n (.dct true (lN cp k d)))->Ex ρ H ρ c->Q v c)
theorem Wd(hu:X.A.units+60 < dk):Gx X "dict.setdefault" (u7 X):=by intro q s σ H x vs u us Q I J L h;obtain⟨a,ρ,st,n,cp,k,d,y,v,rfl,rfl,sr,ha,hn,O,hk,hl,U,h1,h2⟩:=h;cases J;obtain⟨u1,u2,rfl,Y,o⟩:=L.two;exact RP (by ext) I sr ha hn O hk hl U Y o (λd' e l w' G g r' c=>⟨l,H,g,c,h1 d' e l r'⟩) λe B G g E C=>⟨v,B,g,o,h2 e B E C⟩
theorem TU{o G q : Expr}{fa fb fc : CE}{u c : Pos}(hu : X.A.units+60 < dk)(ho : SE X o fa)(ha : SE X G fb)(hb : SE X q fc)(C : eL o "setdefault" X.env (eval o X.env) = eval o X.env := by rfl)
  (J:((backTo c (starEach [G,q] X.env)).all (λx => !x.1)&&(uQ c (pG [] X.env)).all (λx=>x.1.isSome)&&decide ([G,q].length+([]:List lY).length+(if ([]:List lY).isEmpty then 0 else 1) < 30))=true:=by rfl)
  (B:(u.endLine == c.line)=true:=by rfl) (hs:starEach [G,q] X.env=(false,eval G X.env)::starEach [q] X.env:=by rfl) (hs2:starEach [q] X.env=(false,eval q X.env)::starEach [] X.env:=by rfl) (g:(backTo c (starEach [q] X.env)).any (·.1)=false:=by rfl):
  SE X (.Call (.Attribute o "setdefault" u) [G,q] [] c) (oW fa fb fc):=
 (SF wd F.type_dict_setdefault (Wd hu) ho (rA ha (rA hb uk hs2) hs) C J B hs g).of λσ H Q h_=>h_.el λρ l st lr sr p=>⟨ρ,l,st,lr,sr,p.bnd.imp λd U ρ1 H1 x1 s1 p1 v rv=>by
  cases rv with
  |@dic a n kk h=>
   obtain⟨b,I,e0,p2⟩:=aU.getDc (aU.bnd p1) s1;obtain⟨hb0,p3⟩:=aU.chk p2;cases (show b=true from hb0);obtain⟨es0,e3,r0⟩:=s1.ob n a _ h e0;refine⟨⟨a,es0,ρ1,I,rfl,e3,r0⟩,?_⟩;refine⟨ρ1,l,U,lr.mono x1,s1,(aU.bnd p3).imp λdy O ρ2 H2 x2 s2 p4 y ry=>⟨ρ2,l,O,(lr.mono x1).mono x2,s2,(aU.bnd p4).imp λdz L ρ3 H3 x3 Y p5 z rz=>?_⟩⟩
   show u7 X (.ref a) [y,z] H3 Q;obtain⟨b,cp,e5,p6⟩:=aU.getDc (aU.bnd p5) Y;obtain⟨⟨hb5,hk,hl⟩,E⟩:=aU.chk p6;cases (show b=true from hb5);have h3:ρ3[n]?=some a:=by obtain⟨τ,e,_⟩:=(x2.trans x3).pre;rw[e];exact zY h
   refine⟨a,ρ3,L,n,cp,dy,dz,y,z,rfl,rfl,Y,h3,e5,ry.mono x3,hk,hl,rz,λd' e v' rv'=>?_,λe H' s4 x4=>?_⟩
   ·dsimp only at E;rw[e]at E;exact E.ret Y v' rv'
   ·dsimp only at E;rw[e]at E;have c:=aU.bnd E;unfold sC at c;rw[e5]at c;exact (c ρ3 _ x4 s4).ret s4 _ (rz.mono x4)
  |_=>exact p1.elim⟩
end
end MM
namespace MM
open PySem
noncomputable def vg(n:Nat)(ks:List D):aX->Prop:=λs=>∃c,s[n]?=some (.dct true c)/\c.map (·.1)=ks
def vU(a:CE):CI:=λl=>bnd (a l) λx=>match x with
 | .dic n=>bnd (getDc n) λp=>chk (p.1=true) (ret ⟨p.2.map (·.1),vg n (p.2.map (·.1))⟩)
 |_=>bad
open PySem.W PyProof.Rows L2
theorem Es{α β:Type}{F:α->β->Prop}:∀{l₁:List α}{l₂:List β}{i:Nat}{x:α},eQ F l₁ l₂->l₁[i]?=some x->∃y,l₂[i]?=some y/\F x y
 |_,_,_,_,.nil,e=>by simp at e
 |_,_,0,_,.cons r _,e=>by simp at e;subst e;exact⟨_,rfl,r⟩
 |_,_,i+1,_,.cons _ t,e=>by obtain⟨v,g,c⟩:=Es (i:=i) t (by simpa using e);exact⟨v,by simpa using g,c⟩
def N8(a:aj)(n:Nat):It:=
 ⟨λi H=>∃c p,H a=some (iH a c)/\c.length=n/\c[i]?=some p,λi H x g=>g=H/\∀c,H a=some (iH a c)->∃p,c[i]?=some p/\x=.ref p.2.1,λi H=>∃c,H a=some (iH a c)/\c.length=n/\n<=i⟩
section
variable{X:Cx}{ar:List (aj×Obj)}{σ:St}{H:Hp}{s:ao}{ρ:List aj}{st:aX}{a:aj}
theorem GS{g:List (NK×aj×V)}(I:Inv X ar σ H s)(e:H a=some (iH a g)):
  g.length<=sizeLine/\(a == cX)=false/\∃c,mv s.heap a c g.length/\c.size=g.length/\∀(i:Nat)(p:NK×aj×V),g[i]?=some p->∃v:iJ,c[i]?=some v/\v.key=.ref p.2.1:=by
 obtain⟨⟨z,y,xs,h,o,c,ep,L,J,G,u,U,E⟩,Q,O⟩:=(show eS X.prog X.w H s.heap a (iH a g) from I.hok a _ e)
 have l:g.length=xs.length:=di h;subst E;refine⟨z,y,c,⟨o,L,J,by rw[l];exact G⟩,?_,λi p C=>?_⟩
 ·rw[l,<- d_,u,ae]
 ·obtain⟨q,B,r⟩:=Es h C;refine⟨zx q,by rw[<- dQ,u,ak,B];rfl,?_⟩;rw[r.2.1];rfl
end
theorem PC{P:Program}{w:bN}{K:ah}{tg:Expr}(a g:aj)(n:Nat):t8 P w K tg (N8 a n) [g] g (λi h=>h.IsKeyIter g a i n n) where
 mem:=by simp
 obj:=λi h st b C=>by
  have e:b=g:=by simpa using C
  subst e;obtain⟨o,e,c,d⟩:=st;exact⟨o,e,λv z=>by rw[d]at z;cases z⟩
 keep:=λi h h' st k=>st.at λo e=>k g (by simp) o e
 item:=by
  intro X hP Y hK hc i l s σ H E I L st hg;subst hP Y hK;obtain⟨es,p,hq,hn,U⟩:=hg;obtain⟨_,_,G,O,hz,hk⟩:=GS I hq;obtain⟨u,hu,ku⟩:=hk i p U;obtain⟨f0,f1,f2,f3,f4,f5⟩:=L g (by simp);subst hn;have q:s.heap.IsKeyIter g a i G.size es.length:=by rw[hz];exact st
  refine NH q O hu λh' B sb=>?_;rw[hz]at B;have I1:Inv X l σ H { s with heap:=h' }:=I.turned (t':=s.toks) (λb o C e=>(sb.2 b C).trans e) f0 f1 f3 f4 f5;obtain⟨o,e,c,d⟩:=id B;exact⟨u.key,rfl,GK (s:={ s with heap:=h' }) e c d (by decide) ⟨.ref p.2.1,H,I1,ku,⟨rfl,λys hy=>by
   obtain⟨_,_,es2,en2,hz2,hk2⟩:=GS I hy;obtain⟨o1,g1,_,d1⟩:=O;obtain⟨o2,g2,_,Q⟩:=en2;rw[g1]at g2;cases g2;rw[d1]at Q;injection Q with Q d3
   subst Q;have hi:i < ys.length:=by rw[<- d3];exact (ac.mp U).1
   obtain⟨v,hv,J⟩:=hk2 i _ (ai hi);rw[hu]at hv;cases hv;rw[ku]at J;injection J with J
   exact⟨_,ai hi,by rw[J]⟩⟩,B,λb C=>(L b C).1⟩⟩
 done:=by
  intro X hP Y hK hc i l s σ H E I L st hg;subst hP Y hK;obtain⟨es,hq,hn,U⟩:=hg;obtain⟨_,_,G,O,hz,hk⟩:=GS I hq;obtain⟨f0,f1,f2,f3,f4,f5⟩:=L g (by simp);subst hn;have q:s.heap.IsKeyIter g a i G.size es.length:=by rw[hz];exact st
  exact Np (I.ok.hd hc) q O (by simp;ext) λh' eb=>⟨rfl,I.turned (t':=s.toks) (λb o C e=>eb b o C e) f0 f1 f3 f4 f5⟩
 self:=λ_ _ _ _ _ st h=>zL st h
section
variable{X:Cx}{tg e:Expr}{fa:CE}
theorem W6{l:Expr}{E:TE}(L:PE X l E):PI X tg l (λσ H R=>E σ H λx C=>∃a u,x=.ref a/\C a=some (iH a u)/\R (N8 a u.length) C):=by
 intro c s σ H R I h;refine gg (L c s σ H _ I h) λv g z=>?_;obtain⟨x,C,B,G,a,u,e,J,q⟩:=z;subst e;cases G;obtain⟨hz,hd,Q,U,sz,_⟩:=GS B J;refine Mc hd U ?_;refine⟨g.heap.objs.size,[g.heap.objs.size],_,_,C,rfl,B.kept (t':=g.toks) λb o e=>aq _ e,PC a _ u.length,⟨_,aF _ rfl,rfl,by rw[sz];rfl⟩,λb O=>?_,q⟩;have e:b=g.heap.objs.size:=by simpa using O
 subst e;exact B.fpOk (ay _) (B.hok.fresh (ay _))
theorem Tc(h:SE X e fa):SI X tg e (vU fa):=(W6 h).of λσ H R h_=>h_.el λρ l st lr sr p=>⟨ρ,l,st,lr,sr,p.bnd.imp λd O ρ1 H1 x1 u I v Q=>by
 cases Q with
 |@dic a n _ h=>
  obtain⟨b,C,e,p2⟩:=aU.getDc (aU.bnd I) u;obtain⟨hb,Y⟩:=aU.chk p2;cases (show b=true from hb);obtain⟨E,e3,r⟩:=u.ob n a _ h e;refine⟨a,E,rfl,e3,Y.ret u _ λρ H st x s q=>?_⟩;obtain⟨c,e4,L⟩:=q;have ha:ρ[n]?=some a:=by obtain⟨τ,eτ,_⟩:=x.pre;rw[eτ];exact zY h
  obtain⟨g,G,B⟩:=s.ob n a _ ha e4;have J:g.length=E.length:=by rw[NR.length B,NR.length r,<- ae (f:=(·.1)) (as:=c),L,ae]
  refine⟨⟨g,G,J,by show E.length<=(C.map (·.1)).length;rw[ae,NR.length r];exact ay _⟩,λi d hd=>?_⟩;have o:(c.map (·.1))[i]?=some d:=by rw[L];exact hd
  have hi:i < g.length:=by rw[NR.length B,<- ae (f:=(·.1)) (as:=c)];exact (ac.mp o).1
  refine⟨⟨g,_,G,J,ai hi⟩,λy H' z=>?_⟩;obtain⟨rfl,z⟩:=z;obtain⟨p,hp,rfl⟩:=z g G;refine⟨Ex.refl,s,?_⟩;obtain⟨q,hq,U⟩:=Es B hp;rw[ak,hq]at o;cases o;exact U.2.1
 |_=>exact I.elim⟩
end
end MM
namespace MM
open PySem PyProof.Rows L2
section
open PySem.Builtin.Str
variable{prog:Program}{w:bN}{A:bH}{E:af->ao->Prop}{s:ao}
end
abbrev CF:=Str->Loc->M D
end MM
namespace MM
noncomputable def sv(m:Nat):List Nat:=(bG 4).filter λi=>m.testBit i
open PySem PySem.W PyProof.Rows L2
def tb(c:Bool)(m:Nat):SetTable:=⟨7,(sv m).toArray,#[],0,c,0,true⟩
theorem vf:∀c:Bool,∀m:Nat,m < 16->∀v:Nat,v < 4->m.testBit v=false->(tb c m).freeSlot (v:Int)=some (v,false):=by nofun
theorem uu:∀c:Bool,∀m:Nat,m < 16->∀v:Nat,v < 4->m.testBit v=false->(tb c m).put v=(tb c (m ||| 1 <<< v),qz (tb c m).place v)/\(sv (m ||| 1 <<< v))=(sv m).take (qz (tb c m).place v)++v::(sv m).drop (qz (tb c m).place v)/\(m ||| 1 <<< v) < 16:=by nofun
end MM
namespace MM
open PySem PySem.Spec PyProof.Rows L2
structure qH(x:Str):Prop where
 d:(x == ("__debug__":Str))=false
 c:(x == ("__classdict__":Str))=false
 n:x≠"__name__"
theorem Py{x:Str}(h:((x == ("__debug__":Str))||(x == ("__classdict__":Str))||decide (x=("__name__":Str)))=false):qH x:=by rw[vt,vt]at h;exact⟨h.1.1,h.1.2,of_decide_eq_false h.2⟩
structure Sc(X:Cx)(sc:dD):Prop where
 vis:∀x k,sc.names.lookup x=some k->(k=.local\/k=.cell\/k=.free)->GJ X.env.scope x
 cel:∀x,(sc.names.lookup x=some .cell\/sc.names.lookup x=some .free)->(X.env.kindOf x=some .cell\/X.env.kindOf x=some .free)
 glo:∀x,sc.names.lookup x=some .globalImplicit->Gl X x
 loc:∀x k,sc.names.lookup x=some k->(k=.local\/k=.cell)->L2.Loc X.env.scope x/\(X.fn x=true\/X.env.scope.names.lookup x=some .local)
 calm:X.calm=true
theorem G_{P:Program}{w:bN}{K:ah}{mg:Str->Option af}{base:bK}{N:List Str}{qual:Str}{sc:dD}{f:aj}{g:af}{A:bH}{outer:List Env}{s:ao}{H:Hp}{E:XK}:
  Sc (sN rm P w K mg base N qual sc f g A outer s H E).nox sc where
 vis:=λx k h c=>by
  rcases c with z|z|z<;>subst z
  ·exact .inl h
  ·exact .inr (.inl h)
  ·exact .inr (.inr h)
 cel:=λx h=>h
 glo:=λx h=>h
 loc:=λx k h c=>⟨by rcases c with z|z<;>subst z;exact .inl h;exact .inr h,.inl rfl⟩
 calm:=rfl
theorem S5{X:Cx}{N:List Str}{scope:dD}{fp:List aj}{s:ao}{H:Hp}(l:X.calm=true):Sc (oG X N scope fp s H) scope where
 vis:=λx k h g=>by
  show (kg scope X.env).names.lookup x=_\/(kg scope X.env).names.lookup x=_\/(kg scope X.env).names.lookup x=_;rw[CZ,h,cI];rcases g with z|z|z<;>subst z
  ·exact .inl rfl
  ·exact .inr (.inl rfl)
  ·by_cases c:(bI == bI&&X.env.scope.kind == .function&&X.env.kindOf x == some .cell)=true
   ·rw[aD c];exact .inr (.inl rfl)
   ·rw[aB c];exact .inr (.inr rfl)
 cel:=λx h=>by
  show (kg scope X.env).names.lookup x=_\/(kg scope X.env).names.lookup x=_;rcases h with h|h<;>rw[CZ,h,cI]
  ·exact .inl rfl
  ·by_cases c:(bI == bI&&X.env.scope.kind == .function&&X.env.kindOf x == some .cell)=true
   ·rw[aD c];exact .inl rfl
   ·rw[aB c];exact .inr rfl
 glo:=λx h=>by show (kg scope X.env).names.lookup x=_;rw[CZ,h,cI];rfl
 loc:=λx k h g=>by
  refine⟨?_,.inl ?_⟩
  ·show (kg scope X.env).names.lookup x=_\/(kg scope X.env).names.lookup x=_;rw[CZ,h,cI];rcases g with z|z<;>subst z
   ·exact .inl rfl
   ·exact .inr rfl
  ·show decide (scope.names.lookup x=some .local\/scope.names.lookup x=some .cell)=true;rw[h];rcases g with z|z<;>subst z<;>decide
 calm:=l
noncomputable def sV(sc scope:dD):Bool:=
 (scope.kind == .function)&&scope.names.all (λp=>p.2 != .local||scope.names.lookup p.1 == some .local) &&
 scope.names.all (λp=>p.2 != .free||((sc.names.lookup p.1 == some .cell||sc.names.lookup p.1 == some .free) && !scope.names.contains (p.1,.cell)&&scope.names.lookup p.1 != some .local))
theorem LZ{X:Cx}{sc scope:dD}(S:Sc X sc)(h:sV sc scope=true):g9 X scope:=by
 unfold sV at h;rw[bh,bh]at h;obtain⟨⟨E,o⟩,l⟩:=h;rw[dW]at o l;have fr:∀x,(x,bI)∈scope.names->(sc.names.lookup x=some .cell\/sc.names.lookup x=some .free)/\(x,fC)∉scope.names/\scope.names.lookup x≠some .local:=λx c=>by have q:=l _ c;simp only[bne_self_eq_false,Ck,bh,kT,beq_iff_eq,xG,bne_iff_ne,ne_eq]at q;obtain⟨⟨v,g⟩,u⟩:=q;refine⟨v,λz=>?_,u⟩;have:scope.names.contains (x,fC)=true:=List.contains_iff_mem.mpr z;rw[this]at g;cases g
 refine⟨by simpa using E,λp B C=>?_,λx c=>S.cel x (fr x c).1,λx c=>(fr x c).2.1,λx c=>(fr x c).2.2⟩;have q:=o p B;rw[C]at q;simpa using q
noncomputable def qS(c:List Str)(scope:dD)(N:List Str)(n:Nat)(ix:List Nat):Bool:=
 N.length == n+ix.length&&(bG ix.length).all λj=>match ix[j]?,N[n+j]? with
  |some i,some x=>c[i]? == some x&&scope.names.lookup x == some .free
  |_,_=>false
theorem Lq{X:Cx}{g:List Str}{scope:dD}{N:List Str}{n:Nat}{ix:List Nat}(o:X.N=g)(h:qS g scope N n ix=true):kn X scope N n ix:=by unfold qS at h;rw[bh,dW]at h;refine⟨by simpa using h.1,λj i x c l=>?_⟩;have q:=h.2 j (j_.mpr (ac.mp c).1);rw[c,l]at q;simp only[bh,beq_iff_eq]at q;rw[o];exact q
section
variable{X:Cx}{sc:dD}{a b c e o tg:Expr}{es:List Expr}{pos p:Pos}{fa fb fc:CE}{ca cb:CA}{x:Str}{T id:String}
theorem JH(S:Sc X sc)(i:Nat)(l:X.N[i]?=some x){k:dE}(h:sc.names.lookup x=some k)(n:qH x)(g:k=.local\/k=.cell\/k=.free:=by decide):SE X (.Name x pos) (am i):=Ts i (Nm l (S.vis x k h g) n.d n.c)
theorem Qt(S:Sc X sc)(i:Nat)(l:X.N.Nodup)(q:X.N[i]?=some x){k:dE}(h:sc.names.lookup x=some k)(g:k=.local\/k=.cell:=by decide):SG X (.Name x pos) (aS i):=
 XI (Ya l q (S.loc x k h g).1 (S.loc x k h g).2)
theorem TQ(S : Sc X sc)(i : Nat)(q : X.N.Nodup)(B : X.N[i]? = some x){k : dE}(h : sc.names.lookup x = some k){g : Pos}(v : SE X e fa)(l : k = .local \/ k = .cell := by decide)(u : kt e (some (.Name x g)) pos.line X.env = pure false := by rfl):
  SS X (.Assign [.Name x g] e pos) (b_ (aS i) fa):=WG q B (S.loc x k h l).1 v u (S.loc x k h l).2
theorem SU{n:Nat}(h:∀l st ds g,ca l st=.ok ds g->ds.length=n):∀l st ds g,ax fa ca l st=.ok ds g->ds.length=n+1:=λl st ds g e=>by
 unfold ax bnd at e;cases q:fa l st with
 |ok d s1=>
  rw[q]at e;dsimp only at e;cases u:ca l s1 with
  |ok es s2=>
   rw[u]at e;have:=h l s1 es s2 u;cases e;simp[this]
  |exc _ _=>rw[u]at e;cases e
  |bad=>rw[u]at e;cases e
 |exc _ _=>rw[q]at e;cases e
 |bad=>rw[q]at e;cases e
theorem Qe:∀l st ds g,bu l st=.ok ds g->ds.length=0:=λl st ds g e=>by cases e;rfl
noncomputable def yQ(K:ah)(h:cY)(g:List Str):Prop:=∀(s:ao)(ws:List af),ws.length=g.length->rR s h ⟨[],g.zip ws⟩ (g.zip ws)
theorem Vy{k n:Nat}{f:aj}{B:cY}{v:List Str}{g:List D->M D}(S:Sc X sc)(h:sc.names.lookup x=some .globalImplicit)(F:lW X.prog X.w X.K X.mg X.base rm k f B v (mr X.K n g))(E:ig k X.A)(H:X.mg x=some (.ref f))
  (I:cS X.K (.ref f)=true) (L:Binds X.K B v []) (C:qH x) (O:SA X (e::es) ca) (G:∀l st ds q,ca l st=.ok ds q->ds.length=n)
  (J:starEach (e::es) X.env=(false,eval e X.env)::starEach es X.env:=by rfl) (u:(backTo pos (starEach es X.env)).any (·.1)=false:=by rfl):SE X (.Call (.Name x p) (e::es) [] pos) (bW g ca):=
 Rh F E (S.glo x h) H I L L8 O G C.d J u
end
theorem S6{k:Nat}{X:Cx}(h:ig k X.A):X.A.units+60 < dk:=by have:=h.units;ext
theorem ME{P:Program}{w:bN}{K:ah}{mg:Str->Option af}{base:bK}{x qual:Str}{l:Stmt}{f:aj}{q:cY}{N o:List Str}{k n m:Nat}{c:CS}(F:xN K x qual l f q)(S:mB N o (bB l))(u:o.length=n)(v:N.length=m)
  (g:∀(h:af)(A:bH)(outer:List Env)(s:ao)(H:Hp)(E:XK),q.code=h->ig k (A.deeper (oz qual (bB l) s.heap.objs.size f h))->vO (sN rm P w K mg base N qual (bB l) f h A outer s H E).nox (dm l) c):
  lW P w K mg base rm (k+1) f q o (mr K n (b8 m c)):=by
 subst u v;exact SY F S g
theorem MU{K:ah}{ρ:List aj}{H:Hp}:∀(c:List Int),bJ K ρ H (c.map V.int) (c.map D.int)
 |[]=>.nil
 |n::c=>.cons (.int n) (MU c)
@[elab_as_elim] theorem xR{A:Type}{P:List A->Prop}(h:∀a,P [a])(c:List A)(g:c.length=1):P c:=by
 cases c with
 |nil=>cases g
 |cons a t=>cases t with
  |nil=>exact h a
  |cons b u=>simp at g
@[elab_as_elim] theorem vB{A:Type}{P:List A->Prop}(h:∀o l,P [o,l])(c:List A)(g:c.length=2):P c:=by
 cases c with
 |nil=>cases g
 |cons a t=>exact xR (P:=λt=>P (a::t)) (h a) t (oP g)
@[elab_as_elim] theorem wq{A:Type}{P:List A->Prop}(h:∀q o l,P [q,o,l])(c:List A)(g:c.length=3):P c:=by
 cases c with
 |nil=>cases g
 |cons a t=>exact vB (P:=λt=>P (a::t)) (h a) t (oP g)
@[elab_as_elim] theorem xL{A:Type}{P:List A->Prop}(h:∀u q o l,P [u,q,o,l])(c:List A)(g:c.length=4):P c:=by
 cases c with
 |nil=>cases g
 |cons a t=>exact wq (P:=λt=>P (a::t)) (h a) t (oP g)
@[elab_as_elim] theorem Ky{A:Type}{P:List A->Prop}(h:∀v u q o l,P [v,u,q,o,l])(c:List A)(g:c.length=5):P c:=by
 cases c with
 |nil=>cases g
 |cons a t=>exact xL (P:=λt=>P (a::t)) (h a) t (oP g)
structure wN(K:ah)(x qual:Str)(st:Stmt)(f:aj)(fd:cY)(u:af):Prop where
 ex:∃(oc:af)(od:Option aj)(kV doc pm:af)(an:Option aj)(cdv ct:af)(osl:Array (Option af))(T:aj)(o:Obj)(n:Nat),
  fd=cK x qual (fI st) (dm st) (bB st) (.ref T) kV doc pm an cdv ct/\K.lookup f=some ⟨oc,od,.func fd,osl⟩/\fX K cdv qual=true/\K.lookup T=some o/\o.data=.seq #[u] n
 kp:cS K (.ref f)=true
section
variable{P:Program}{w:bN}{K:ah}{mg:Str->Option af}{base:bK}{x qual:Str}{st:Stmt}{f:aj}{fd:cY}{u:af}{ps:List Str}
theorem wN.binds{ds:List af}(F:wN K x qual st f fd u)
  (h:∀(T:aj)(kV c q:af)(v:Option aj)(g ct:af)(l:List af),(l++ds).length=ps.length->∃k:Option (Array af)->Sem (List (Str×af)),lE (cK x qual (fI st) (dm st) (bB st) (.ref T) kV c q v g ct) ⟨l,[]⟩=lc (.ref T) >>= k/\k (some #[u])=pure (ps.zip (l++ds))):Binds K fd ps ds:=by
 obtain⟨O,L,kV,c,q,v,g,ct,B,T,o,n,rfl,Q,G,lt,C⟩:=F.ex;intro s l J E;obtain⟨k,I,H⟩:=h T kV c q v g ct l E;exact rR.of_defaults (T:=T) rfl (J T o lt) C I H
theorem Qs{E:af}{C B:Option aj}{q:Array (Option af)}{kV h v g ct:af}{T:aj}{o:Obj}{n:Nat}(l:K.lookup f=some ⟨E,C,.func (cK x qual (fI st) (dm st) (bB st) (.ref T) kV h v B g ct),q⟩)
  (c:fX K g qual=true) (k:cS K (.ref f)=true) (lt:K.lookup T=some o) (G:o.data=.seq #[u] n):wN K x qual st f (cK x qual (fI st) (dm st) (bB st) (.ref T) kV h v B g ct) u:=
 ⟨⟨E,C,kV,h,v,B,g,ct,q,T,o,n,rfl,l,c,lt,G⟩,k⟩
theorem R8{N:List Str}{k n m:Nat}{g:CS}(F:wN K x qual st f fd u)(S:mB N ps (bB st))(hn:ps.length=n)(hm:N.length=m)
  (q:∀(c:af)(A:bH)(outer:List Env)(s:ao)(H:Hp)(E:XK),ig k (A.deeper (oz qual (bB st) s.heap.objs.size f c))->vO (sN rm P w K mg base N qual (bB st) f c A outer s H E).nox (dm st) g):
  lW P w K mg base rm (k+1) f fd ps (mr K n (b8 m g)):=by
 subst hn hm;obtain⟨oc,od,kV,doc,pm,an,c,ct,U,T,o,n,rfl,Y,G,lt,ht⟩:=F.ex;refine L1 Y G S (λJ H Q E h=>h.1) λA outer s H J Q E hr h=>⟨_,(q c A outer s H E hr).nox,?_⟩
 obtain⟨hl,ρ,st,ds,sr,C,p⟩:=h;refine⟨ρ,_,st,LR.start C,sr,?_⟩;unfold b8 at p;exact p.bnd.imp λf L ρ1 H1 x1 I B=>by
  cases f with
  |next l=>exact λσ' _=>B.ret I _ .non
  |ret d=>exact λv O=>B.ret I v O
  |brk l=>exact B.elim
  |cnt l=>exact B.elim
end
section
variable{X:Cx}{sc:dD}{e:Expr}{es:List Expr}{pos p:Pos}{ca:CA}{x:Str}
theorem TV{k n:Nat}{i:Int}{u:af}{f:aj}{C:cY}{B:List Str}{g:List D->M D}(S:Sc X sc)(h:sc.names.lookup x=some .globalImplicit)(F:lW X.prog X.w X.K X.mg X.base rm k f C B (mr X.K n g))(I:ig k X.A)(L:X.mg x=some (.ref f))
  (U:cS X.K (.ref f)=true) (hb:Binds X.K C B [u]) (hu:RelV (.int i) u) (E:qH x) (ha:SA X (e::es) ca) (J:∀l st ds o,ca l st=.ok ds o->ds.length+1=n)
  (Y:starEach (e::es) X.env=(false,eval e X.env)::starEach es X.env:=by rfl) (v:(backTo pos (starEach es X.env)).any (·.1)=false:=by rfl):SE X (.Call (.Name x p) (e::es) [] pos) (qK g ca (.int i)):=
 (Lw F I (S.glo x h) L U hb (.cons hu .nil) L8 ha E.d Y v).of λσ H Q h_=>h_.el λρ l st G sr p=>⟨ρ,l,st,G,sr,by
  have q:=aU.bnd p;cases c:ca l st with
  |bad=>rw[c]at q;exact q
  |exc _ _=>rw[c]at q;exact q
  |ok ds eh=>
   rw[c]at q;intro ρ1 H1 x1 s1 vs rvs;have O:=J l st ds eh c;exact⟨by rw[aE,rvs.length];exact O,ρ1,eh,ds++[.int i],s1,bJ.app rvs (.cons (.int i) .nil),q ρ1 H1 x1 s1⟩⟩
end
end MM
namespace MM
def o8:D->M D
 | .int n=>chk (-(2^62)<=n/\n<=1000) (alloc (.lst ((bG n.toNat).map λi:Nat=>D.int i)))
 |_=>bad
open PySem PySem.Spec PyProof.Rows L2
section
variable{X:Cx}
theorem WH:CallR X (.type "range") (λxs H Q=>∃n:Int,xs=[.int n]/\∀q,H q=none->Q (.ref q) (fJ H q (.rng 0 n))):=by intro c s σ H xs l Q I r h;obtain⟨n,rfl,q⟩:=h;obtain⟨u,rfl,g⟩:=ut r;obtain⟨t,rfl⟩:=g;refine call_range_1 ?_;exact⟨.ref s.heap.objs.size,_,I.laid (t':=_) (λb o e=>aq _ e) (ay _) (show eS X.prog X.w _ _ _ (.rng 0 n) from ⟨_,_,_,aF _ rfl⟩),rfl,q _ (I.hok.fresh (ay _))⟩
theorem Og:∀(n:Nat)(f:Nat->af),(∀i,i < n->∃t,f i=.int i t)->bU ((bG n).map λi:Nat=>V.int i) ((bG n).map f)
 |0,f,h=>.nil
 |n+1,f,h=>by rw[fS,bj,bj];exact (Og n f λi c=>h i (by ext)).append (.cons (let ⟨t,e⟩:=h n (by ext);⟨t,e⟩) .nil)
theorem XE(hc:X.calm=true):CallR X (.type "list") (λxs H Q=>∃(a:aj)(n:Int),xs=[.ref a]/\H a=some (.rng 0 n) /\ -(2^62)<=n/\n<=1000/\∀q,H q=none->Q (.ref q) (fJ H q (.lst ((bG n.toNat).map λi:Nat=>V.int i)))):=by
 intro E s σ H xs us Q I r h;obtain⟨a,n,rfl,Y,C,hn,q⟩:=h;obtain⟨u,rfl,L⟩:=ut r;cases L;obtain⟨t,u,v,g⟩:=(show eS X.prog X.w H s.heap a (.rng 0 n) from I.hok a _ Y)
 have hsz:pU 0 n 1=((n.toNat:Nat):Int):=by rw[rangeSize_one];split<;>ext
 refine call_list_range (n:=n.toNat) (I.ok.hd hc) g (small_one (by ext) (by ext) C (by ext)) hsz (by have:(2:Nat)^24=16777216:=rfl;ext) λh' J l c' O G c=>?_;have ea:l=((bG n.toNat).map λi=>(l[i]?).getD .none).toArray:=by
  apply FZ;apply fA;intro i;rw[dQ,ak];by_cases B:i < n.toNat
  ·rw[gp B,cI,fQ (by rw[c.1];exact B)];rfl
  ·rw[mU (by rw[c.1];ext),bT (by simp;ext)];rfl
 have U:bU ((bG n.toNat).map λi:Nat=>V.int i) ((bG n.toNat).map λi=>(l[i]?).getD .none):=Og _ _ λi B=>by
  have o:i < l.size:=by rw[c.1];exact B
  obtain⟨t,e⟩:=c.2 i l[i] (fQ o);refine⟨t,?_⟩;rw[fQ o,e];simp
 rw[ea]at G;exact⟨.ref s.heap.objs.size,_,I.laid (t':=J) O (ay _) (show eS X.prog X.w _ h' _ (.lst _) from ⟨by rw[ae,pZ];exact bZ (show n.toNat<=1000 by ext) (by decide),_,c',U,G⟩),rfl,q _ (I.hok.fresh (ay _))⟩
theorem MT{K:ah}{ρ:List aj}{H:Hp}:∀(l:List Nat),bJ K ρ H (l.map λi:Nat=>V.int i) (l.map λi:Nat=>D.int i)
 |[]=>.nil
 |i::l=>.cons (.int _) (MT l)
theorem Qh{e:Expr}{fa:CE}{u g c pos:Pos}(hc:X.calm=true)(J:Gl X "list")(E:X.mg "list"=none)(I:Gl X "range")(C:X.mg "range"=none)(ha:SE X e fa)
  (Y:starEach [e] X.env=[(false,eval e X.env)]:=by rfl)
  (h:starEach [Expr.Call (.Name "range" g) [e] [] c] X.env=[(false,eval (.Call (.Name "range" g) [e] [] c) X.env)]:=by rfl):SE X (.Call (.Name "list" u) [.Call (.Name "range" g) [e] [] c] [] pos) (c1 o8 fa):=
 (EG (XE hc) J E (by nofun) (rA (EG WH I C (by nofun) (rA ha uk Y) (by decide) (by decide) Y rfl) uk h) (by decide) (by decide) h rfl).of λσ H Q h_=>h_.el λρ l st lr sr p=>⟨ρ,l,st,lr,sr,p.bnd.imp λd B ρ1 H1 x1 O u v rv=>by
  cases rv with
  |int i=>
   obtain⟨⟨h0,h1⟩,g⟩:=aU.chk u;refine⟨i,rfl,λq U=>⟨q,i,rfl,ky,h0,h1,λl G=>?_⟩⟩;have L:=O.new (o:=.rng 0 i) U;have nl:=L.fresh G;have s3:SR X.K (ρ1++[l]) (fJ (fJ H1 q (.rng 0 i)) l (.lst ((bG i.toNat).map λi:Nat=>V.int i))) (B++[.lst ((bG i.toNat).map λi:Nat=>D.int i)]):=(L.new G).keep ky nl (MT _);refine g _ _ ((Ex.new U).trans (Ex.newL G)) s3 _ (.ref ⟨_,ky,rfl⟩ ?_);rw[<- O.len];simp
  |_=>exact u.elim⟩
end
noncomputable def Kt(h h':bK):Prop:=∀c o,h.get? c=some o->o.cls=.type "tuple"->h'.get? c=some o
structure PY(prog:Program)(w:bN)(K:Type)[DecidableEq K] where
 is:bK->K->aj->Prop
 hash:K->Int
 draws:K->Nat
 keep:∀{h h':bK}{k:K}{b:aj},Kt h h'->is h k b->is h' k b
 hashes:∀{A:bH}{E:af->ao->Prop}{s:ao}{k:K}{b:aj}{Q:Int->ao->Prop},A.units+1 < dk->is s.heap k b->Q (hash k) { s with toks:=s.toks+draws k }->aJ (bb prog w) A (pyHash (.ref b)) Q E s
 eqs:∀{A:bH}{E:af->ao->Prop}{s:ao}{x y:K}{a b:aj}{Q:Bool->ao->Prop},A.units+1 < dk->is s.heap x a->is s.heap y b->Q (decide (x=y)) s->aJ (bb prog w) A (eqBool (.ref a) (.ref b)) Q E s
 quiet:∀{A:bH}{E:af->ao->Prop}{s:ao}{k:K}{b:aj}{Q:Bool->ao->Prop},is s.heap k b->Q true s->aJ (bb prog w) A (pX 8 (.ref b)) Q E s
 cls:∀{A:bH}{E:af->ao->Prop}{s:ao}{k:K}{b:aj}{Q:Bool->ao->Prop},is s.heap k b->Q false s->aJ (bb prog w) A (ofAClassStatement 8 (.ref b)) Q E s
 byv:∀{A:bH}{E:af->ao->Prop}{s:ao}{k:K}{b:aj}{Q:Bool->ao->Prop},is s.heap k b->Q true s->aJ (bb prog w) A (hashByValue 8 (.ref b)) Q E s
section
variable{prog:Program}{w:bN}{K:Type}[DecidableEq K](T:PY prog w K)
variable{T}
variable{A:bH}{E:af->ao->Prop}{s:ao}{a:aj}{fy:Bool}{m:Nat}{key:Nat->K}{es:Array (Int×af)}
end
section
variable{prog:Program}{w:bN}{A:bH}{E:af->ao->Prop}{s:ao}
theorem items_int{k:List Int}{c:List af}(h:ItemsAre (pS prog w) k c):∀v∈c,∃i t,v=gh i t:=by
 induction h with
 |nil=>simp
 |cons h1 h2 ih=>
  intro v g;rcases bn.mp g with z|z
  ·subst z;cases v with
   |int i t=>exact⟨i,t,rfl⟩
   |_=>exact nomatch h1
  ·exact ih v z
end
end MM
namespace MM
def uz(g:List D->M D):D->M D
 | .ref n=>bnd (getL n) g
 |_=>bad
open PySem PySem.W PyProof.Rows L2
section
variable{X:Cx}
theorem Ly{b:af}{g:List D->M D}(h:CallR X b (CU X.K g)):CallR X b (λxs H Q=>∃v,xs=[v]/\vR X.K (uz g) v H Q):=h.of λxs H Q c=>by
 obtain⟨v,e,ρ,st,d,sr,q,p⟩:=c;cases q with
 |@ref a n _ h=>
  obtain⟨ds,C,u⟩:=aU.getL (aU.bnd p) sr;obtain⟨E,o,l,B,r⟩:=sr.seq C;rw[h]at l;cases l;exact⟨a,o,ρ,st,ds,e,ii.of B,sr,r,u⟩
 |_=>exact p.elim
end
end MM
namespace MM
def Bl(x y:D):M D:=match x,y with
 | .int a,.int b=>ret (.int (a+b))
 |_,_=>bad
open PySem
noncomputable def mM:MO->Bool
 | .clo _ _=>true
 |_=>false
def m7(o:MO):MO:=if mM o=true then .ded else o
def fM(n:Nat)(s:aX):aX:=s.take n++(s.drop n).map m7
open Classical in
def callC(g:List D->M D)(c:kz)(h ds:List D):M D:=λs=>match g (ds++[.fn s.length]) (s++[.clo c h]) with
 | .ok r s2=>if s.length < s2.length/\∀m:Nat,m < s.length->s2[m]?=s[m]?\/∃o:MO,s2[m]?=some o/\mM o=false then .ok r (fM s.length s2) else .bad
 |_=>.bad
noncomputable def qY(s:aX)(i:Nat)(o:MO):MO:=match s[i]? with
 |some (.clo c v)=>.clo c v
 |_=>o
open Classical in
def oo(g:List D->M D)(c ds:List D):M D:=λs=>match g (ds++c) (fM 0 s) with
 | .ok r s2=>if ∀(i:Nat)(o:MO),s[i]?=some o->mM o=true->s2[i]?=some MO.ded then .ok r (s2.mapIdx (qY s)) else .bad
 |_=>.bad
structure RK where
 n:Nat
 k:Nat
 g:List D->M D
open Classical in
def qD:List (kz×RK)->kz->List D->List D->M D
 |[],_,_=>λ_=>bad
 | (e,r)::l,x,vs=>if x=e then λds=>chk (ds.length=r.n) (oo r.g vs ds) else qD l x vs
def sS(l:Loc):List Nat->Option (List D)
 |[]=>some []
 |i::r=>match l[i]? with
  |some (some d)=>(sS l r).map (d::·)
  |_=>none
def oq(j:Nat)(x w:Str)(g:List D->M D)(c:kz)(is:List Nat)(i:Nat)(a:CA):CE:=λl s=>match s[j]?,sS (l.set i none) is with
 |some (.tbl y u),some vs=>if y=x/\u=w then bnd (a (l.set i none)) (λds=>callC g c vs ds) s else .bad
 |_,_=>.bad
structure RL where
 n:Nat
 k:Nat
 g:List D->M D
open Classical in
def ua:List (Expr×RL)->Expr->List D->M D
 |[],_=>λ_=>bad
 | (e,r)::l,x=>if x=e then λds=>chk (ds.length=r.n) (r.g ds) else ua l x
noncomputable abbrev WT:=List (Expr×RL)×List (kz×RK)
def qU(W:WT)(d:D)(ds:List D):M D:=λs=>match d with
 | .fn n=>match s[n]? with
  |some (.lam e)=>ua W.1 e ds s
  |some (.clo c vs)=>qD W.2 c vs ds s
  |_=>.bad
 |_=>.bad
def pB(W:WT)(a:CE)(r:CA):CE:=λl=>bnd (a l) λd=>bnd (r l) λds=>qU W d ds
open PySem.Spec PyProof.Rows L2
def BO(H:Hp)(P:aj)(q:Str):Prop:=∃tb,H P=some (.tbl tb)/\nW tb.toList/\∀p v,lb p tb.toList=some v->∃c,v=.ref c/\oT H c q
noncomputable def BMod(base:bK)(mg:Str->Option af):Prop:=∃g c,mg "__builtins__"=some (.ref g)/\g≠mG/\base.get? g=some c/\c.cls=.type "module"/\c.dict=some mG/\c.data=.plain
theorem TK{l m:Nat}{c:af}:∀(xs:List af),nW xs->nW (xs++[fB l,fB m,c])/\∀p v,lb p (xs++[fB l,fB m,c])=some v->lb p xs=some v\/v=c:=by
 intro xs h
 fun_induction nW xs with
 |case1=>
  refine⟨trivial,λp v z=>?_⟩;have g:(if ((l:Int) == p.line&&(m:Int) == p.col)=true then some c else none)=some v:=z;split at g
  ·exact .inr (aG g).symm
  ·cases g
 |case2 a t b u x rest ih=>
  obtain⟨q,o⟩:=ih h;refine⟨q,λp v z=>?_⟩;have g:(if (a == p.line&&b == p.col)=true then some x else lb p (rest++[fB l,fB m,c]))=some v:=z
  show (if (a == p.line&&b == p.col)=true then some x else lb p rest)=some v\/v=c;split at g
  ·rename_i w;rw[aD w];exact .inl g
  ·rename_i w;rw[aB w];exact o p v g
 |case3=>exact h.elim
section
variable{X:Cx}
structure AE(H H':Hp)(P:aj)(q:Str)(a c:aj)(ob:Obj):Prop where
 fresh:H a=none
 fn:H' a=some (.frz ob (.own a))
 cod:oT H' c q
 tab:BO H' P q
 keep:∀b o,b≠P->H b=some o->H' b=some o
theorem VL{ar:List (aj×Obj)}{σ:St}{H:Hp}{s:ao}{P:aj}{q:Str}{pos:Pos}{fobj:af->af->af->Obj}{Wp:(af->ao->Prop)->Prop}{Q:af->ao->Prop}(I:Inv X ar σ H s)(hT:BO H P q)(G:∀a b c,(fobj a b c).isFreed=false)
  (hit:∀tb cv Q,s.heap.get? P=some (d7 tb)->nW tb.toList->lb pos tb.toList=some cv->(∀(C B:af)(h':bK)tk,(∀b o,s.heap.get? b=some o->h'.get? b=some o)->s.heap.objs.size<=h'.objs.size->Q (.ref h'.objs.size) { s with heap:=h'.push (fobj cv C B),toks:=tk })->Wp Q)
  (new:∀tb Q,s.heap.get? P=some (d7 tb)->nW tb.toList->lb pos tb.toList=none->(∀(h:aj)(C B:af)(h':bK)tk,l_ P s.heap h'->s.heap.objs.size<=h->h < h'.objs.size->h'.CodeRec (.ref h) q->h'.get? P=some (d7 (tb++#[fB pos.line,fB pos.col,.ref h]))->Q (.ref h'.objs.size) { s with heap:=h'.push (fobj (.ref h) C B),toks:=tk })->Wp Q)
  (hQ:∀(a c:aj)(C B:af)L s',AE H L P q a c (fobj (.ref c) C B)->Inv X ar σ L s'->Q (.ref a) s'):Wp Q:=by
 obtain⟨tb,hP,ht,hco⟩:=hT;have hPo:s.heap.get? P=some (d7 tb):=I.hok P _ hP;cases hf:lb pos tb.toList with
 |some cv=>
  obtain⟨h,rfl,hcr⟩:=hco _ _ hf;refine hit tb _ Q hPo ht hf λC B h' tk hk hsz=>?_;have E:H h'.objs.size=none:=I.hok.fresh hsz;refine hQ _ h C B (fJ H h'.objs.size (.frz _ (.own h'.objs.size))) _ ⟨E,ky,?_,?_,λb o _ e=>?_⟩ (I.laid (t':=tk) (λb u e=>aq _ (hk b u e)) hsz ⟨aF _ (G _ _ _),_,aF _ (G _ _ _)⟩)
  ·obtain⟨O,vs,t,e,r⟩:=hcr;exact⟨O,vs,t,by rw[fZ (mR e E)];exact e,r⟩
  ·refine⟨tb,by rw[fZ (mR hP E)];exact hP,ht,λp v z=>?_⟩;obtain⟨c2,e2,O,vs,t,e,r⟩:=hco p v z;exact⟨c2,e2,O,vs,t,by rw[fZ (mR e E)];exact e,r⟩
  ·rw[fZ (mR e E)];exact e
 |none=>
  refine new tb Q hPo ht hf λh C B h' tk hx hge hlt hrec htb=>?_;obtain⟨c2,O,vs,t,e2,hoc,hdc,hv⟩:=hrec;cases e2;have hsz:s.heap.objs.size<=h'.objs.size:=fH (xH hge hlt);have E:H h'.objs.size=none:=I.hok.fresh hsz;have hfc:H h=none:=I.hok.fresh hge;have hcf:h≠h'.objs.size:=bz hlt;have G:=G (.ref h) C B;generalize hfo:fobj (.ref h) C B=fo at G;generalize htb':tb++#[fB pos.line,fB pos.col,.ref h]=U at htb;have ePc:P≠h:=mR hP hfc;have ePa:P≠h'.objs.size:=mR hP E;obtain⟨L,eH⟩:∃L,L=fJ (fJ (fJ H P (.tbl U)) h (.frz O (.frz O (.own h)))) h'.objs.size (.frz fo (.own h'.objs.size)):=⟨_,rfl⟩
  have eP:L P=some (.tbl U):=by rw[eH,fZ ePa,fZ ePc,ky]
  have eC:L h=some (.frz O (.frz O (.own h))):=by rw[eH,fZ hcf,ky]
  have eA:L h'.objs.size=some (.frz fo (.own h'.objs.size)):=by rw[eH,ky]
  have eO:∀b,b≠P->b≠h->b≠h'.objs.size->L b=H b:=λb h1 h2 h3=>by rw[eH,fZ h3,fZ h2,fZ h1]
  have old:∀b o,b≠P->H b=some o->L b=some o:=λb o h1 e=>by rw[eO b h1 (mR e hfc) (mR e E)];exact e
  have kp:∀b o,b≠P->s.heap.get? b=some o->(h'.push fo).get? b=some o:=λb o h1 e=>aq _ (hx b o h1 e);have Y:∀{b:aj},H b=none->b≠P:=λn z=>by rw[z,hP]at n;cases n
  have J:∀{b:aj}{u:HO},H b=some u->(∀ps,u≠.tbl ps)->b≠P:=λe n z=>by rw[z,hP]at e;exact n _ (aG e).symm
  have lt:∀b o,s.heap.get? b=some o->b≠h/\b≠h'.objs.size:=λb o e=>⟨bz (a_ (aK e) hge),bz (a_ (aK e) hsz)⟩
  have hok:mJ X.prog X.w L (h'.push fo):=λb u e=>by
   by_cases h1:b=P
   ·subst h1;rw[eP]at e;cases e;exact aq _ htb
   by_cases h2:b=h
   ·subst h2;rw[eC]at e;cases e;exact⟨aq _ hoc,aq _ hoc,_,aq _ hoc⟩
   by_cases h3:b=h'.objs.size
   ·subst h3;rw[eA]at e;cases e;exact⟨aF _ G,_,aF _ G⟩
   rw[eO b h1 h2 h3]at e;refine (I.hok b u e).stay (λb' v hb' g=>kp b' v ?_ g) (λb' g=>old _ _ (J g λ_ z=>nomatch z) g) λb' xs g=>old _ _ (J g λ_ z=>nomatch z) g;rcases hb' with z|z
   ·rw[z];exact h1
   ·exact J z λ_ w=>nomatch w
  refine hQ _ h C B L _ ⟨E,by rw[hfo];exact eA,⟨O,vs,t,eC,hdc,hv⟩,?_,old⟩ (I.step (g':=s.gens) (d':=s.drawn) (t':=tk) (h':=h'.push fo) (ch:=[]) (λ_ z=>nomatch z) (λb o _ _ _ e n=>kp b o (Y n) e) (λb o _ _ _ e n=>⟨o.slots,kp b o (Y n) e⟩)
   (λb o _ e n=>by rw[eO b (Y n) (lt b o e).1 (lt b o e).2];exact n) (λb o _ e=>?_) (λb xs e=>old _ _ (J e λ_ z=>nomatch z) e) (λb o u e=>old _ _ (J e λ_ z=>nomatch z) e) (λb ps' e=>?_) (λm hn=>?_) hok I.bare)
  ·have el:U.toList=tb.toList++[fB pos.line,fB pos.col,.ref h]:=by rw[<- htb',Array.toList_append]
   obtain⟨B,u⟩:=TK tb.toList ht (l:=pos.line) (m:=pos.col) (c:=.ref h);refine⟨U,eP,el ▸ B,λp v z=>?_⟩;rcases u p v (el ▸ z) with z|z
   ·obtain⟨c2,e2,o,g,q,e,r⟩:=hco p v z;exact⟨c2,e2,o,g,q,old _ _ (J e λ_ w=>nomatch w) e,r⟩
   ·exact⟨h,z,O,vs,t,eC,hdc,hv⟩
  ·by_cases z:b=P
   ·subst z;exact⟨_,aq _ htb⟩
   ·exact⟨o,kp b o z e⟩
  ·by_cases z:b=P
   ·subst z;rw[hP]at e;cases e;exact⟨_,by rw[eP,<- htb']⟩
   ·exact⟨#[],by rw[old _ _ z e];simp⟩
  ·exact (hn.extBut hx (Y I.free)).push _
theorem UL{c:List (aj×Obj)}{σ:St}{H:Hp}{s:ao}{P:aj}{tb:Array af}(v:BMod X.base X.mg)(I:Inv X c σ H s)(u:H P=some (.tbl tb)):s.heap.BuiltinsAt X.mg P/\cD≠P:=by
 have h:∀b o,X.base.get? b=some o->b≠P:=λb o e z=>by have:=(I.bs b o e).2;rw[z,u]at this;cases this
 refine⟨?_,?_⟩
 ·obtain⟨J,q,G,E,g,C,B,l⟩:=v;refine⟨J,q,G,E,λz=>?_,h _ _ g,I.bk _ _ g,C,B,l⟩;obtain⟨o,_,_,e,d,_⟩:=I.mod.glob;rw[<- z,g]at e;cases e;rw[l]at d;cases d
 ·obtain⟨o,_,_,e,_⟩:=I.mod.glob;exact h _ o e
theorem WB{K:ah}{c a b:aj}(h:eR K c a=true)(h':eR K c b=true):a=b:=by
 unfold eR at h h';split at h
 ·rename_i o _ l;rw[l]at h';simp only[bh]at h h';obtain⟨⟨⟨⟨⟨e,_⟩,_⟩,_⟩,_⟩,_⟩:=h;obtain⟨⟨⟨⟨⟨g,_⟩,_⟩,_⟩,_⟩,_⟩:=h';split at e
  ·rename_i u q;rw[q]at g;exact (beq_iff_eq.mp e).symm.trans (beq_iff_eq.mp g)
  ·cases e
 ·cases h
theorem TabOf.uniq{K:ah}{x:Str}{a b:aj}(h:TabOf K x a)(h':TabOf K x b):a=b:=by obtain⟨f,o,J,c,H,G,E,C,B⟩:=h;obtain⟨L,o',v,O,u,q,l,g,I⟩:=h';rw[H]at u;cases u;rw[G]at q;cases q;rw[E]at l;cases l;rw[C]at g;cases g;exact WB B I
def DZ(X:Cx)(x:Str):Prop:=∃f o g c P,fP X.K cD x=some (some (.ref f))/\X.K.lookup f=some o/\o.data=.func g/\g.code=.ref c/\eR X.K c P=true/\X.env.code=.ref c/\X.env.qual=x++".<locals>."/\BMod X.base X.mg
theorem TH{K:ah}{ρ:List aj}{H c:Hp}{st:aX}{j:Nat}{P a:aj}{x w:Str}(sr:SR K ρ H st)(l:ρ[j]?=some P)(G:st[j]?=some (.tbl x w))(fr:H a=none)(h:BO c P (wP x w))(keep:∀b o,b≠P->H b=some o->c b=some o):a∉ρ/\Ex ρ H (ρ++[a]) c/\SR K ρ c st:=by
 obtain⟨Q,tb,E,Y,U⟩:=sr.ob j P _ l G;obtain⟨g,C,L,J⟩:=h;have up:Up ρ H ρ c:=⟨⟨[],by simp⟩,λb o k e=>keep b o (λz=>by rw[z,E]at e;cases e;cases k) e,λb o e=>by
  by_cases z:b=P
  ·subst z;rw[E]at e;cases e;exact⟨_,C,rfl⟩
  ·exact⟨o,keep b o z e,rfl⟩⟩
 refine⟨sr.fresh fr,⟨⟨[a],rfl,λb I=>by rw[aI]at I;rw[I];exact fr⟩,up.fix,λb o O e=>keep b o (λz=>O (z ▸ az l)) e,up.knd⟩,⟨sr.len,sr.nd,λn b o B v=>?_⟩⟩;by_cases z:b=P
 ·subst z;have:n=j:=(eD (ac.mp B).1 sr.nd).mp (B.trans l.symm);subst this;rw[G]at v;cases v;exact⟨Q,g,C,L,J⟩
 ·exact nC.mono (o:=o) up (sr.ob n b o B v) λu q=>keep b u z q
def z_(P:Program)(w:bN)(K:ah)(mg:Str->Option af)(base:bK)(k n:Nat)(e:Expr)(g:List D->M D):Prop:=
 ∀(o:nR)(b:Expr)(sc:dD)(pos:Pos)(q:Str)(c:aj)(u ct:af),e=.Lambda o b sc pos->∀(A:bH)(outer:List Env)(s:ao)(H:Hp)(a:aj)(l:List af)(h:List V)(Q:VK),ig k A->qF P w K mg base A outer s H ->
  H a=some (.frz (wA "<lambda>" q o b sc [] u c ct) (.own a))->oT H c q->bU h l->mr K n g h H Q E0->ke (bb P w) A (.call (.ref a) ⟨l,[]⟩) (CR rm outer P w H s Q E0) s
end
noncomputable def xM(b:aj)(u:HO):Prop:=∃o v,u=.frz o (.frz o (.own b))/\o.data=.cell v
structure mV(cs:List aj)(H H':Hp):Prop where
 old:∀b,b∉cs->H' b=H b
 non:∀b∈cs,H b=none
 new:∀b∈cs,∃u,H' b=some u/\xM b u
section
variable{cs:List aj}{K:ah}{ρ:List aj}{H H' H1:Hp}{st:aX}{a:aj}
theorem mV.le(F:mV cs H H'):∀b o,H b=some o->H' b=some o:=λb o e=>by rw[F.old b λz=>by rw[F.non b z]at e;cases e];exact e
theorem mV.not(F:mV cs H H'){b:aj}{o:HO}(e:H' b=some o)(n:¬ xM b o):H b=some o:=by rw[<- F.old b λz=>by obtain⟨u,c,h⟩:=F.new b z;rw[e]at c;cases c;exact n h];exact e
theorem LJ{b:aj}{g:List V}:¬ xM b (.tup g):=λc=>by obtain⟨_,_,z,_⟩:=c;exact nomatch z
theorem VR{b:aj}{g:List V}:¬ xM b (.lst g):=λc=>by obtain⟨_,_,z,_⟩:=c;exact nomatch z
theorem WL{b:aj}{o:Obj}{g:List V}:¬ xM b (.frz o (.tup g)):=λc=>by obtain⟨_,_,z,_⟩:=c;injection z with _ z;cases z
theorem Pr{b:aj}{o:Obj}{g:List V}:¬ xM b (.frz o (.lst g)):=λc=>by obtain⟨_,_,z,_⟩:=c;injection z with _ z;cases z
theorem Cy{b c:aj}{o:Obj}:¬ xM b (.frz o (.own c)):=λg=>by obtain⟨_,_,z,_⟩:=g;injection z with _ z;cases z
theorem Vm{b:aj}{fs:List (Str×V)}:¬ xM b (.xd fs):=λc=>by obtain⟨_,_,z,_⟩:=c;exact nomatch z
theorem CK{b:aj}{o:HO}(h:kO o≠3):¬ xM b o:=λc=>by obtain⟨_,_,z,_⟩:=c;exact h (by rw[z];rfl)
theorem VM{b:aj}{o:Obj}{g:Array af}(h:o.data=.fields g):¬ xM b (.frz o (.frz o (.own b))):=λc=>by obtain⟨_,_,z,d⟩:=c;injection z with z;subst z;rw[h]at d;cases d
mutual
theorem du.letgo(F:mV cs H H'):∀{v:V}{d:D},du K ρ H' v d->du K ρ H v d
 |_,_,.non=>.non
 |_,_,.bl b=>.bl b
 |_,_,.int i=>.int i
 |_,_,.str y=>.str y
 |_, _, .tup h r => .tup (by
   rcases h with (h|⟨o,h⟩)|h
   ·exact .inl (.inl (F.not h LJ))
   ·exact .inl (.inr ⟨o,F.not h WL⟩)
   ·exact .inr h) (bJ.letgo F r)
 |_, _, .lit h r => .lit (by
   rcases h with ⟨o,h⟩|h
   ·exact .inl ⟨o,F.not h Pr⟩
   ·exact .inr h) (bJ.letgo F r)
 |_,_,.ref ⟨o,ho,c⟩ h=>.ref ⟨o,F.not ho (CK (by rw[c];decide)),c⟩ h
 |_,_,.dic ⟨o,ho,c⟩ h=>.dic ⟨o,F.not ho (CK (by rcases c with c|c<;>rw[c]<;>decide)),c⟩ h
 |_,_,.exn0 g ⟨o,ho,hc⟩=>.exn0 g ⟨o,F.not ho Cy,hc⟩
 |_,_,.exn g ⟨o,ho,hc⟩ h2 r=>.exn g ⟨o,F.not ho Cy,hc⟩ (F.not h2 Vm) (du.letgo F r)
 |_,_,.fn h=>.fn h
theorem bJ.letgo(F:mV cs H H'):∀{c:List V}{ds:List D},bJ K ρ H' c ds->bJ K ρ H c ds
 |_,_,.nil=>.nil
 |_,_,.cons r t=>.cons (du.letgo F r) (bJ.letgo F t)
end
theorem oT.letgo{c:aj}{q:Str}(F:mV cs H H')(h:oT H' c q):oT H c q:=let ⟨oc,vs,t,e,d,r⟩:=h;⟨oc,vs,t,F.not e (VM d),d,r⟩
theorem nC.letgo{o:MO}(F:mV cs H H')(n:mM o=false)(h:nC K ρ H' a o):nC K ρ H a o:=by
 cases o with
 |lam e=>
  obtain⟨l,b,sc,p,q,c,I,ct,E,C,B⟩:=h;exact⟨l,b,sc,p,q,c,I,ct,E,F.not C Cy,B.letgo F⟩
 |tbl y w=>
  obtain⟨t,l,E,C,B⟩:=h;exact⟨t,l,F.not E (CK (by show (4:Nat)≠3;decide)),C,λp v z=>let ⟨c,a,b⟩:=B p v z;⟨c,a,b.letgo F⟩⟩
 |lst ds=>
  obtain⟨G,q,r⟩:=h;exact⟨G,F.not q VR,r.letgo F⟩
 |dct b cp=>
  cases b with
  |false=>
   obtain⟨g,q,r⟩:=h;exact⟨g,F.not q (CK (by show (1:Nat)≠3;decide)),eQ.mapS r λp q z=>⟨z.1,z.2.letgo F⟩⟩
  |true=>
   obtain⟨g,q,r⟩:=h;exact⟨g,F.not q (CK (by show (2:Nat)≠3;decide)),eQ.mapS r λp q z=>⟨z.1,z.2.1.letgo F,z.2.2.letgo F⟩⟩
 |dcf cp=>
  obtain⟨g,q,r⟩:=h;exact⟨g,F.not q (CK (by show (2:Nat)≠3;decide)),eQ.mapS r λp q z=>⟨z.1,z.2.1.letgo F,z.2.2.letgo F⟩⟩
 |clo c G=>cases n
 |ded=>obtain⟨u,e⟩:=h;exact⟨u,F.not e Cy⟩
theorem mV.hok{P:Program}{w:bN}{h:bK}(F:mV cs H H')(x:mJ P w H' h):mJ P w H h:=λb o e=>by
 have l:b∉cs:=λz=>by rw[F.non b z]at e;cases e
 exact (x b o (F.le b o e)).stay (λ_ _ _ q=>q) (λc z=>F.not z (λg=>by obtain⟨_,_,z,_⟩:=g;exact nomatch z)) λc xs z=>F.not z LJ
theorem mV.hok'{P:Program}{w:bN}{h:bK}(F:mV cs H H')(x:mJ P w H h)(B:∀b∈cs,∀o u,H' b=some (.frz o u)->h.get? b=some o):mJ P w H' h:=λb o e=>by
 by_cases g:b∈cs
 ·obtain⟨u,l,C,v,rfl,d⟩:=F.new b g;rw[e]at l;cases l;have:=B b g _ _ e;exact⟨this,this,_,this⟩
 ·rw[F.old b g]at e;exact (x b o e).stay (λ_ _ _ q=>q) (λc z=>F.le c _ z) λc xs z=>F.le c _ z
end
end MM
namespace MM
open PySem PySem.Spec PyProof.Rows L2
section
variable{X:Cx}{ar:List (aj×Obj)}{σ:St}{H H':Hp}{s s':ao}{cs:List aj}
theorem VO(I:Inv X ar σ H s)(F:mV cs H H')(l:∀b∈cs,∀o u,H' b=some (.frz o u)->s.heap.get? b=some o)(c:∀b∈cs,X.s₀.heap.objs.size<=b/\b≠X.env.locals):qF X.prog X.w X.K X.mg X.base X.A X.stack s H':=by
 have e:=I.env0;refine⟨e.frames,e.mod,λb o q=>⟨(e.bs b o q).1,?_⟩,e.bsz,e.funs,λb g=>?_,F.hok' I.hok l,e.bare⟩
 ·rw[F.old b λz=>?_]
  ·exact (e.bs b o q).2
  ·exact bq (a_ (aK q) (bZ I.ok.bsz (c b z).1)) (cn _)
 ·rw[F.old b λz=>?_]
  ·exact e.frf b g
  ·rcases bn.mp (I.stkSub b g) with y|y
   ·exact (c b z).2 y
   ·obtain⟨_,o,h,_⟩:=I.ok.funs.mem y;exact bq (a_ (aK h) (c b z).1) (cn _)
theorem WA{Q:VK}{u:af}(I:Inv X ar σ H s)(F:mV cs H H')(hc:∀b∈cs,∀o u,H' b=some (.frz o u)->s.heap.get? b=some o)(h:L2.CE X.stack X.prog X.w H' s Q u s'):
  ∃v l,RelV v u/\Q v l/\(∀b∈cs,l b=H' b)/\∀E,mV cs E l->Inv X ar σ E s':=by
 obtain⟨v,l,os,C,un,hok,r,q⟩:=h;have U:∀b∈cs,l b=H' b:=λb c=>by obtain⟨w,e,o,x,rfl,d⟩:=F.new b c;rw[e,un.frzs b _ _ e]
 refine⟨v,l,r,q,U,λE G=>?_⟩;have at_:∀b o,b∈cs->s.heap.get? b=some o->s'.heap.get? b=some o:=λb o c e=>by obtain⟨w,Y,o',x,rfl,d⟩:=F.new b c;have O:=hc b c _ _ Y;rw[e]at O;cases O;exact (hok b _ ((U b c).trans Y)).1
 have L:∀b o,H b=some o->b∉cs:=λb o e z=>by rw[F.non b z]at e;cases e
 have up:∀b o,l b=some o->b∉cs->E b=some o:=λb o e z=>by rw[<- G.old b z];exact e
 obtain⟨hh,g,d,t,J⟩:=s';obtain rfl:J=s.os:=os;refine I.call (h':=hh) (g':=g) (d':=d) (t':=t) (ch:=[]) ⟨λb o e n c B=>?_,λb o e n c B=>?_,λb o e n B=>?_,un.there,λb xs e=>?_,λb o u e=>?_,λb ps e=>?_⟩ (G.hok hok) C (λb z=>bq z (by simp))
 ·by_cases z:b∈cs
  ·exact at_ b o z e
  ·exact un.keep b o e (by rw[F.old b z];exact n) c B
 ·by_cases z:b∈cs
  ·exact⟨o.slots,at_ b o z e⟩
  ·exact un.slot b o e (by rw[F.old b z];exact n) c B
 ·by_cases z:b∈cs
  ·exact G.non b z
  ·rw[<- G.old b z];exact un.free b o e (by rw[F.old b z];exact n) B
 ·exact up b _ (un.tups b xs (F.le b _ e)) (L b _ e)
 ·exact up b _ (un.frzs b o u (F.le b _ e)) (L b _ e)
 ·obtain⟨more,z⟩:=un.tbls b ps (F.le b _ e);exact⟨more,up b _ z (L b _ e)⟩
end
section
variable{K:ah}{ρ ρ1:List aj}{H H' H1 H2:Hp}{st eh:aX}{cs:List aj}
theorem mV.ex(F:mV cs H H')(G:mV cs H2 H1)(x:Ex ρ H' ρ1 H1):Ex ρ H ρ1 H2:=by
 have c:∀b o,H b=some o->b∉cs:=λb o e z=>by rw[F.non b z]at e;cases e
 have up:∀b o,H1 b=some o->b∉cs->H2 b=some o:=λb o e z=>by rw[<- G.old b z];exact e
 refine⟨?_,λb o k e=>up b o (x.fix b o k (F.le b o e)) (c b o e),λb o n e=>up b o (x.oth b o n (F.le b o e)) (c b o e),λb o e=>?_⟩
 ·obtain⟨τ,e,h⟩:=x.pre;refine⟨τ,e,λa g=>?_⟩;have:=h a g;cases q:H a with
  |none=>rfl
  |some o=>rw[F.le a o q]at this;cases this
 ·obtain⟨o',l,k⟩:=x.knd b o (F.le b o e);exact⟨o',up b o' l (c b o e),k⟩
theorem Mr{n m:Nat}:(fM n st)[m]?=if m < n then st[m]? else (st[m]?).map m7:=by
 unfold fM;by_cases h:m < n
 ·rw[aD h];by_cases c:m < (st.take n).length
  ·rw[av c,bO h]
  ·rw[aZ]at c;have g:st.length<=m:=by ext
   have l:st.length<=n:=by ext
   rw[bT (by rw[aE,ae,aZ,gq];ext),bT g]
 ·rw[aB h];by_cases c:n<=st.length
  ·rw[aM (by rw[aZ];ext),aZ,nI c,ak,wF,show n+(m-n)=m by ext]
  ·rw[bT (by rw[aE,ae,aZ,gq];ext),bT (by ext)];rfl
theorem SR.letgo{n:Nat}(F:mV cs H H')(G:mV cs H2 H1)(x:Ex ρ H' ρ1 H1)(sr:SR K ρ H st)(v:SR K ρ1 H1 eh)(Y:n<=st.length)(J:∀m,m < n->eh[m]?=st[m]?\/∃o,eh[m]?=some o/\mM o=false):SR K ρ1 H2 (fM n eh):=by
 have X:=F.ex G x;refine⟨?_,v.nd,λm b o C g=>?_⟩
 ·rw[v.len];unfold fM;rw[aE,ae,aZ,gq];ext
 ·rw[Mr]at g;by_cases h:m < n
  ·rw[aD h]at g;have plain:mM o=false->nC K ρ1 H2 b o:=λz=>nC.letgo G z (v.ob m b o C g);rcases J m h with z|⟨o',z,I⟩
   ·by_cases q:mM o=false
    ·exact plain q
    ·have E:m < ρ.length:=by rw[sr.len];ext
     obtain⟨τ,eτ,_⟩:=x.pre;have Q:ρ[m]?=some b:=by rw[eτ,av E]at C;exact C
     have l:=sr.ob m b o Q (by rw[<- z];exact g);refine nC.mono (o:=o) X.up l λu hu=>?_;cases o with
     |clo c vs=>
      obtain⟨o,L,q,U,cl,B,O⟩:=l;rw[hu]at B;cases B;exact X.fix b _ rfl hu
     |_=>exact bq rfl q
   ·rw[g]at z;cases z;exact plain I
  ·rw[aB h]at g;cases e:eh[m]? with
   |none=>rw[e]at g;cases g
   |some o'=>
    rw[e]at g;have l:=v.ob m b o' C e;by_cases q:mM o'=true
    ·rw[cI,m7,aD q]at g;cases g;cases o' with
     |clo c vs=>obtain⟨o,L,q,U,cl,B,O⟩:=l;exact⟨o,G.not B Cy⟩
     |_=>cases q
    ·rw[cI,m7,aB q]at g;cases g;exact nC.letgo G (xI.mpr q) l
end
theorem D5:∀(names:List (Str×dE))(n:Nat)(acc:List (Str×aj)),bM n names acc=bM n names []++acc
 |[],_,_=>rfl
 | (x,k)::r,n,acc=>by
  unfold bM;split
  ·rw[D5 r (n+1) ((x,n)::acc),D5 r (n+1) [(x,n)],bF];rfl
  ·exact D5 r n acc
theorem CJ{x:Str}:∀(a b:List (Str×aj)),(a++b).lookup x=(a.lookup x).or (b.lookup x)
 |[],_=>rfl
 | (y,c)::a,b=>by
  rw[io,kG,kG];cases x == y with
  |true=>rfl
  |false=>exact CJ a b
section
variable{M:C4}{A:bH}{E:af->ao->Prop}{s₀ s:ao}{m cm:Str->Option af}{env:Env}{own cl:List (Str×aj)}
theorem X_{n:Str}{v:af}{Q:Unit->ao->Prop}(x:oA s₀ env.locals m own cm s)(C:env.scope.kind=.function)(B:env.kindOf n=some .local)
  (h:∀q,oA s₀ env.locals (λy=>if y=n then some v else m y) own cm q->Q () q):aJ M A (tf env n v) Q E s:=by
 refine x_ B x.toInCall.ns (λh' l g=>h _ ⟨⟨?_,l,λb o e=>?_,x.toInCall.fresh⟩,λk c u=>?_,x.apart,x.above⟩) (by rw[C];rfl)
 ·obtain⟨h₁,G,rfl⟩:=x.toInCall.same;exact⟨h',_,rfl⟩
 ·exact g.extBut b o (bz (a_ (aK e) x.toInCall.fresh)) (x.toInCall.keep b o e)
 ·exact (x.cell k c u).sameBut g (eE (x.above k c (aW u)))
theorem stC{n:Str}{c:aj}{v:af}{Q:Unit->ao->Prop}(L:env.cells=own++cl)(x:oA s₀ env.locals m own cm s)(J:env.scope.kind=.function)(I:env.kindOf n=some .cell)
  (u:own.lookup n=some c) (h:∀H,oA s₀ env.locals m own (λy=>if y=n then some v else cm y) H->Q () H):aJ M A (tf env n v) Q E s:=by
 have B:=x.above n c (aW u);have C:env.cells.lookup n=some c:=by rw[L,CJ,u];rfl
 refine zB J I C (x.cell n c u) λh' G l=>h _ ⟨⟨?_,x.toInCall.ns.sameBut l (bz B),λb o e=>?_,x.toInCall.fresh⟩,λk O g=>?_,x.apart,x.above⟩
 ·obtain⟨h₁,U,rfl⟩:=x.toInCall.same;exact⟨h',_,rfl⟩
 ·exact l.extBut b o (bz (nu (a_ (aK e) x.toInCall.fresh) B)) (x.toInCall.keep b o e)
 ·by_cases q:k=n
  ·subst q;rw[u]at g;cases g;simpa using G
  ·rw[aB q];exact (x.cell k O g).sameBut l λe=>q (xy x.apart (aW g) (e ▸ aW u))
theorem KG(f:Str×af->PUnit->Sem (ForInStep PUnit))(H:∀n v u,f (n,v) u=(do tf env n v; pure (.yield ⟨⟩)))(C:env.scope.kind=.function)(I:env.cells=own++cl):
  ∀(binds:List (Str×af))(m cm:Str->Option af)(s:ao)(Q:PUnit->ao->Prop),oA s₀ env.locals m own cm s ->
   (∀x∈binds,env.kindOf x.1=some .local\/(env.kindOf x.1=some .cell/\(own.lookup x.1).isSome=true)) ->
   (∀o,oA s₀ env.locals (pD env.kindOf binds m) own (pE env.kindOf binds cm) o->Q ⟨⟩ o)->aJ M A (forIn binds ⟨⟩ f) Q E s
 |[],m,cm,s,Q,x,_,h=>by rw[sH];exact au (h s x)
 | (n,v)::r,m,cm,s,Q,x,hkind,h=>by
  rw[nw,H];have L:∀y∈r,env.kindOf y.1=some .local\/(env.kindOf y.1=some .cell/\(own.lookup y.1).isSome=true):=λy O=>hkind y (bD _ O);rcases hkind (n,v) cE with q|⟨q,J⟩
  ·refine ab (ab (X_ x C q λo G=>au (KG f H C I r _ _ o Q G L λl g=>h l ?_)));unfold pD pE;rw[aD q,aD q];exact g
  ·obtain⟨c,J⟩:=lV.mp J;have B:¬ env.kindOf n=some .local:=by rw[q];decide
   refine ab (ab (stC I x C q J λo G=>au (KG f H C I r _ _ o Q G L λl g=>h l ?_)));unfold pD pE;rw[aB B,aB B];exact g
theorem R5{scope:dD}{globals:aj}{binds:List (Str×af)}{qual:Str}{func:Option aj}{code:af}{builtins:aj}{Q:Env->ao->Prop}
  (u:scope.kind=.function)
  (g:∀x∈binds,scope.names.lookup x.1=some .local\/(scope.names.lookup x.1=some .cell/\((bM (s.heap.objs.size+1) scope.names []).lookup x.1).isSome=true))
  (B:∀env,env=newEnv scope s.heap.objs.size globals (bM (s.heap.objs.size+1) scope.names cl) qual func code none builtins ->
   ∀h,oA s env.locals (pD env.kindOf binds λ_=>none) (bM (s.heap.objs.size+1) scope.names []) (pE env.kindOf binds λ_=>none) h->Q env h):
  aJ M A (pH scope globals cl binds qual func code none builtins) Q E s:=by
 simp only[pH,vv,aY,if_false];refine ab (wpAny_alloc ?_);refine ab (wpAny_layCells _ (λname kind cells=>by cases q:kind == fC<;>simp[q]) _ _ _ _ ?_);have ok:=cellsFrom_ok scope.names (s.heap.push { cls:=.type "frame",data:=.dict #[] }) (s.heap.objs.size+1) [] ⟨λ_ _ l=>(nomatch l),sE⟩ (by rw[cq];exact ay _);rw[cq]at ok;rw[show ({ s with heap:=s.heap.push { cls:=.type "frame",data:=.dict #[] } }:ao).heap.objs.size=s.heap.objs.size+1 from cq ..];refine ab (KG (s₀:=s) (env:=newEnv scope s.heap.objs.size globals (bM (s.heap.objs.size+1) scope.names cl) qual func code none builtins) (cl:=cl) (own:=bM (s.heap.objs.size+1) scope.names [])
  _ (λ_ _ _=>rfl) u (D5 _ _ _) binds (λ_=>none) (λ_=>none) _ _
  ⟨⟨⟨_,_,rfl⟩,(Al s.heap (.type "frame")).keeps (lR _ _),λb o e=>lR _ _ b o (aq _ e),ay _⟩,
   λn c v=>(ok.empty n c (aW v)).1,ok.apart,λn c l=>(ok.empty n c l).2⟩
  g λh x=>au (B _ rfl h x))
end
structure qE(N ps fr:List Str)(sc:dD):Prop where
 kind:sc.kind=.function
 co:sc.isCoroutine=false
 gen:sc.isGenerator=false
 nd:N.Nodup
 pre:N.take (ps++fr).length=ps++fr
 par:∀x∈ps,sc.names.lookup x=some .local\/sc.names.lookup x=some .cell
 fre:∀x∈fr,sc.names.lookup x=some .free
 onl:∀x,(x,bI)∈sc.names->x∈fr
 noc:∀x∈fr,(x,fC)∉sc.names
theorem px{x:Str}{c:aj}:∀{names:List (Str×dE)}{n:Nat}{acc:List (Str×aj)},(x,c)∈bM n names acc->(x,fC)∈names\/(x,c)∈acc
 |[],_,_,h=>.inr h
 | (y,k)::r,n,acc,h=>by
  unfold bM at h;split at h
  ·rename_i g;have g:k=.cell:=by simpa using g
   subst g;rcases px h with z|z
   ·exact .inl (.tail _ z)
   ·rcases bn.mp z with z|z
    ·cases z;exact .inl (.head _)
    ·exact .inr z
  ·rcases px h with z|z
   ·exact .inl (.tail _ z)
   ·exact .inr z
theorem IS{p:Str×aj}:∀{cl:List (Str×aj)}{j:Nat},(cl.map (·.1)).Nodup->cl[j]?=some p->cl.lookup p.1=some p.2
 |[],_,_,h=>by simp at h
 | (y,c)::cl,0,_,h=>by cases h;exact uY
 | (y,c)::cl,j+1,hn,h=>by
  rw[aO,eK]at hn;have h':cl[j]?=some p:=by simpa using h
  have:(p.1 == y)=false:=beq_eq_false_iff_ne.mpr λz=>hn.1 (by rw[<- z];exact iw (f:=(·.1)) (az h'));rw[kG,this];exact IS hn.2 h'
noncomputable def qC(q:Str)(sc:dD)(L a:aj)(c:af)(cl:List (Str×aj)):Env:=newEnv sc L cD (bM (L+1) sc.names cl) (q++".<locals>.") (some a) c none mG
def CC(P:Program)(w:bN)(K:ah)(mg:Str->Option af)(base:bK)(N:List Str)(q:Str)(sc:dD)(f:aj)(c:af)(cl:List (Str×aj))(A:bH)(outer:List Env)(s:ao)(H:Hp):Cx where
 prog:=P
 w:=w
 K:=K
 mg:=mg
 base:=base
 A:=A.deeper (qC q sc s.heap.objs.size f c cl)
 N:=N
 s₀:=s
 H₀:=H
 env:=qC q sc s.heap.objs.size f c cl
 outer:=outer
 stack:=qC q sc s.heap.objs.size f c cl::outer
 ex:=[]
 calm:=true
 fn:=λx=>sc.names.lookup x == some .cell
 pn:=[]
 xe:=λ_ _=>False
section
variable{P:Program}{w:bN}{K:ah}{mg:Str->Option af}{base:bK}{N ps fr:List Str}{q:Str}{sc:dD}{f:aj}{cd:af}{cl:List (Str×aj)}{A:bH}{outer:List Env}{s s1:ao}{H:Hp}{us fg:List af}{vs ez:List V}
theorem WM:Sc (CC P w K mg base N q sc f cd cl A outer s H) sc where
 vis:=λx k h c=>by
  rcases c with z|z|z<;>subst z
  ·exact .inl h
  ·exact .inr (.inl h)
  ·exact .inr (.inr h)
 cel:=λx h=>h
 glo:=λx h=>h
 loc:=λx k h c=>by
  rcases c with z|z<;>subst z
  ·exact⟨.inl h,.inr h⟩
  ·exact⟨.inr h,.inl (by show (sc.names.lookup x == some .cell)=true;rw[h];rfl)⟩
 calm:=rfl
theorem Ut(S:qE N ps fr sc)(hd:A.handled=none)(I:qF P w K mg base A outer s H)(hl:vs.length=ps.length)(r:bU vs us)(E:cl.map (·.1)=fr)(hcl:ez.length=fr.length)(rc:bU ez fg)
  (hnd:(cl.map (·.2)).Nodup) (hc:∀(i:Nat)(p:Str×aj)(u:af),cl[i]?=some p->fg[i]?=some u->s.heap.IsCell p.2 (some u)) (hn:∀p∈cl,H p.2=none)
  (x:oA s s.heap.objs.size (pD (qC q sc s.heap.objs.size f cd cl).kindOf (ps.zip us) λ_=>none) (bM (s.heap.objs.size+1) sc.names []) (pE (qC q sc s.heap.objs.size f cd cl).kindOf (ps.zip us) λ_=>none) s1):
  Inv (CC P w K mg base N q sc f cd cl A outer s H) [] (L2.start N (vs++ez)) H s1:=by
 have hlen:(vs++ez).length=(ps++fr).length:=by rw[aE,aE,hl,hcl]
 have hpl:(ps++fr).length<=N.length:=by have:=cC dP S.pre;rw[aZ]at this;ext
 obtain⟨h1,tk,rfl,hk⟩:=x.done;have O:(ps++fr).Nodup:=by rw[<- S.pre];exact S.nd.sublist (pV _ _)
 have Q:ps.Nodup:=(cP.mp O).1;have L:∀b:aj,b∉(CC P w K mg base N q sc f cd cl A outer s H).ex:=λb z=>bq (show b∈([]:List aj) from z) (by simp);have ce:(qC q sc s.heap.objs.size f cd cl).cells=bM (s.heap.objs.size+1) sc.names []++cl:=D5 _ _ _;have B:∀y c,(qC q sc s.heap.objs.size f cd cl).cells.lookup y=some c->(bM (s.heap.objs.size+1) sc.names []).lookup y=some c\/((bM (s.heap.objs.size+1) sc.names []).lookup y=none/\cl.lookup y=some c):=λy c e=>by
  rw[ce,CJ]at e;cases e2:(bM (s.heap.objs.size+1) sc.names []).lookup y with
  |some d=>rw[e2]at e;exact .inl e
  |none=>rw[e2]at e;exact .inr ⟨rfl,e⟩
 have clu:∀p∈cl,∃u,s.heap.IsCell p.2 (some u):=λp g=>by
  obtain⟨i,C⟩:=aL.mp g;have hlt:i < fg.length:=by have h1:=(ac.mp C).1;have l:=cC dP E;have h3:=rc.length;rw[ae]at l;ext
  exact⟨_,hc i p _ C (ai hlt)⟩
 have clt:∀y c,cl.lookup y=some c->c < s.heap.objs.size:=λy c e=>by obtain⟨u,o,U,_⟩:=clu (y,c) (aW e);exact aK U
 refine⟨⟨I.mod,S.kind,rfl,rfl,ay _,λy z c h1 l=>?_,λy G=>?_,λy c Y h=>?_,λ_=>hd,ul I.frames,.inr ⟨rfl,rfl⟩,λb z=>bq z (L b),I.bs,I.bsz,λb _ _=>L b,λb z=>bq z (L b),I.funs,I.frf⟩,
  rfl,I.bare,Un.kept hk,⟨_,x.toInCall.ns,λi y v h1 l h3=>?_⟩,λy c h=>?_,I.hok.fresh (ay _),λy c h=>?_,λp g=>bq (show p∈([]:List (aj×Obj)) from g) (by simp),I.hok.kept hk,?_⟩
 ·rcases B y c h1 with a|⟨_,a⟩<;>rcases B z c l with b|⟨_,b⟩
  ·exact xy x.apart (aW a) (aW b)
  ·exact bq (clt _ _ b) (Nat.not_lt.mpr (fH (x.above y c (aW a))))
  ·exact bq (clt _ _ a) (Nat.not_lt.mpr (fH (x.above z c (aW b))))
  ·obtain⟨i,C⟩:=aL.mp (aW a);obtain⟨j,J⟩:=aL.mp (aW b);have:i=j:=(eD (by rw[ae];exact (ac.mp C).1) hnd).mp (by rw[ak,ak,C,J];rfl);subst this;rw[C]at J;cases J;rfl
 ·have G:sc.names.lookup y=some .cell\/sc.names.lookup y=some .free:=G
  show ∃c,(qC q sc s.heap.objs.size f cd cl).cells.lookup y=some c;rw[ce,CJ];rcases G with G|G
  ·obtain⟨c,e⟩:=EA (n:=s.heap.objs.size+1) G;exact⟨c,by rw[e];rfl⟩
  ·have h:=S.onl y (aW G);rw[<- E]at h;obtain⟨p,g,rfl⟩:=cz.mp h;cases e2:(bM (s.heap.objs.size+1) sc.names []).lookup p.1 with
   |some d=>exact⟨d,rfl⟩
   |none=>
    obtain⟨j,J⟩:=aL.mp g;exact⟨p.2,by rw[IS (by rw[E];exact (cP.mp O).2.1) J];rfl⟩
 ·have Y:(sc.names.lookup y == some .cell)=true:=Y;have Y:sc.names.lookup y=some .cell:=by simpa using Y
  rcases B y c h with a|⟨a,_⟩
  ·exact fH (x.above y c (aW a))
  ·obtain⟨d,e⟩:=EA (n:=s.heap.objs.size+1) Y;rw[e]at a;cases a
 ·have C : i < (vs ++ ez).length := by
    unfold L2.start at l;by_cases C:i < (vs++ez).length
    ·exact C
    ·rw[aM (by simpa using C)]at l;rw[fw]at l;split at l<;>cases l
  have h:(vs++ez)[i]?=some v:=by
   unfold L2.start at l;rw[av (by simpa using C),ak]at l;cases e:(vs++ez)[i]? with
   |none=>rw[e]at l;cases l
   |some a=>rw[e]at l;cases l;rfl
  have g:(ps++fr)[i]?=some y:=by rw[<- S.pre,bO (by ext)];exact h1
  by_cases H:i < vs.length
  ·rw[av H]at h;rw[av (by ext)]at g;obtain⟨u,hu,B⟩:=r.get h;refine⟨u,B,?_⟩;rcases S.par y (az g) with k|k
   ·exact .inl ⟨k,HZ Q g hu k⟩
   ·obtain⟨c,e⟩:=EA (n:=s.heap.objs.size+1) k;refine .inr ⟨.inl k,c,?_,?_⟩
    ·show (qC q sc s.heap.objs.size f cd cl).cells.lookup y=some c;rw[ce,CJ,e];rfl
    ·have q:=x.cell y c e;rw[Ji Q g hu (by show sc.names.lookup y≠_;rw[k];decide)]at q;exact q
  ·rw[aM (by ext)]at h g;rw[hl]at h;obtain⟨u,hu,B⟩:=rc.get h;have G:=az g;obtain⟨c,J⟩:∃c,cl[i-ps.length]?=some (y,c):=by
    rw[<- E,ak]at g;cases e:cl[i-ps.length]? with
    |none=>rw[e]at g;cases g
    |some p=>rw[e]at g;exact⟨p.2,by rw[<- aG g]⟩
   obtain⟨o,U,hd⟩:=hc _ _ u J hu;refine⟨u,B,.inr ⟨.inr (S.fre y G),c,?_,o,hk c o U,hd⟩⟩
   show (qC q sc s.heap.objs.size f cd cl).cells.lookup y=some c;rw[ce,CJ];have:(bM (s.heap.objs.size+1) sc.names []).lookup y=none:=by
    cases e:(bM (s.heap.objs.size+1) sc.names []).lookup y with
    |none=>rfl
    |some d=>
     rcases px (aW e) with z|z
     ·exact bq z (S.noc y G)
     ·cases z
   rw[this,IS (by rw[E];exact (cP.mp O).2.1) J];rfl
 ·rcases B y c h with a|⟨_,a⟩
  ·exact⟨_,x.cell y c a⟩
  ·obtain⟨u,o,U,hd⟩:=clu (y,c) (aW a);exact⟨some u,o,hk c o U,hd⟩
 ·rcases B y c h with a|⟨_,a⟩
  ·exact I.hok.fresh (fH (x.above y c (aW a)))
  ·exact hn (y,c) (aW a)
 ·unfold L2.start
  show _=N.length;rw[aE,ae,eU];ext
end
section
variable{K:ah}{ρ ρ2:List aj}{H H0 H2 H3:Hp}{st s2:aX}{cs:List aj}
theorem SR.kill0(G:mV cs H0 H)(sr:SR K ρ H st):SR K ρ H0 (fM 0 st):=by
 refine⟨?_,sr.nd,λm b o u g=>?_⟩
 ·rw[sr.len];unfold fM;simp
 ·rw[Mr,aB (by ext)]at g;cases e:st[m]? with
  |none=>rw[e]at g;cases g
  |some o'=>
   rw[e]at g;have h:=sr.ob m b o' u e;by_cases q:mM o'=true
   ·rw[cI,m7,aD q]at g;cases g;cases o' with
    |clo c vs=>obtain⟨o,v,q,C,cl,l,B⟩:=h;exact⟨o,G.not l Cy⟩
    |_=>cases q
   ·rw[cI,m7,aB q]at g;cases g;exact nC.letgo G (xI.mpr q) h
theorem mV.again(G:mV cs H0 H)(T:mV cs H2 H3)(c:∀b∈cs,H3 b=H b)(x:Ex ρ H0 ρ2 H2)(s:SR K ρ2 H2 s2):Ex ρ H ρ2 H3:=by
 have key:∀b o,H b=some o->(b∉cs->H0 b=some o):=λb o e n=>by rw[<- G.old b n];exact e
 refine⟨?_,λb o k e=>?_,λb o n e=>?_,λb o e=>?_⟩
 ·obtain⟨τ,e,h⟩:=x.pre;refine⟨τ,e,λa l=>?_⟩;have q:a∉cs:=λz=>by
   have B:=T.non a z;have:a∈ρ2:=by rw[e];exact bE _ l
   obtain⟨n,g⟩:=aL.mp this;have v:n < s2.length:=by rw[<- s.len];exact (ac.mp g).1
   obtain⟨u,hu⟩:=nC.ex (s.ob n a _ g (ai v));rw[B]at hu;cases hu
  have:=h a l;rw[<- G.old a q]at this;exact this
 ·by_cases z:b∈cs
  ·rw[c b z];exact e
  ·rw[T.old b z];exact x.fix b o k (key b o e z)
 ·by_cases z:b∈cs
  ·rw[c b z];exact e
  ·rw[T.old b z];exact x.oth b o n (key b o e z)
 ·by_cases z:b∈cs
  ·exact⟨o,by rw[c b z];exact e,rfl⟩
  ·obtain⟨o',C,k⟩:=x.knd b o (key b o e z);exact⟨o',by rw[T.old b z];exact C,k⟩
theorem SR.again(G:mV cs H0 H)(T:mV cs H2 H3)(L:∀b∈cs,H3 b=H b)(x:Ex ρ H0 ρ2 H2)(sr:SR K ρ H st)(s:SR K ρ2 H2 s2)(hd:∀(i:Nat)(o:MO),st[i]?=some o->mM o=true->s2[i]?=some MO.ded):SR K ρ2 H3 (s2.mapIdx (qY st)):=by
 have X:=G.again T L x s;refine⟨by rw[List.length_mapIdx];exact s.len,s.nd,λi b o C h=>?_⟩;rw[vw]at h;cases B:s2[i]? with
 |none=>rw[B]at h;cases h
 |some o'=>
  rw[B]at h;have g:o=qY st i o':=(aG h).symm;have rest:nC K ρ2 H3 b o':=nC.mono (o:=o') ⟨⟨[],by simp⟩,λb o _ e=>T.le b o e,λb o e=>⟨o,T.le b o e,rfl⟩⟩ (s.ob i b o' C B) λu q=>T.le b u q;unfold qY at g;cases l:st[i]? with
  |none=>rw[l]at g;rw[g];exact rest
  |some oi=>
   rw[l]at g;cases oi with
   |clo c v=>
    dsimp only at g;subst g;have J:i < ρ.length:=by rw[sr.len];exact (ac.mp l).1
    obtain⟨τ,eτ,_⟩:=x.pre;have O:ρ[i]?=some b:=by rw[eτ,av J]at C;exact C
    have E:=sr.ob i b _ O l;refine nC.mono (o:=.clo c v) X.up E λu hu=>?_;obtain⟨o,Q,q,Y,cl,I,U⟩:=E;rw[hu]at I;cases I;exact X.fix b _ rfl hu
   |_=>dsimp only at g;rw[g];exact rest
theorem L3{P:Program}{w:bN}{h:bK}(ok:mJ P w H h):∀{cl:List (Str×aj)}{vd:List D},eQ (sq K ρ H) cl vd->∃g l,bU g l/\bJ K ρ H g vd/\∀(i:Nat)(p:Str×aj)(u:af),cl[i]?=some p->l[i]?=some u->h.IsCell p.2 (some u)
 |[],_,r=>by cases r;exact⟨[],[],.nil,.nil,λi p u h=>by simp at h⟩
 |p::cl,_,r=>by
  cases r with
  |cons c t=>
   obtain⟨o,u,v,O,L,J,I⟩:=c;obtain⟨g,l,G,E,C⟩:=L3 ok t;refine⟨v::g,u::l,.cons J G,.cons I E,λi q u' B hu=>?_⟩;cases i with
   |zero=>cases B;cases hu;exact⟨o,(ok _ _ O).1,L⟩
   |succ i=>exact C i q u' (by simpa using B) (by simpa using hu)
end
def sf(P:Program)(w:bN)(K:ah)(mg:Str->Option af)(base:bK)(k n:Nat)(c:kz)(g:List D->M D):Prop:=
 ∀(A:bH)(outer:List Env)(s:ao)(H:Hp)(ρ:List aj)(st:aX)(m:Nat)(a:aj)(l ds:List D)(o:List af)(h:List V)(Q:VK),ig k A->qF P w K mg base A outer s H->SR K ρ H st->ρ[m]?=some a->st[m]?=some (.clo c l) ->
  bJ K ρ H h ds->bU h o->ds.length=n->aU K ρ H (oo g l ds st) (λr _ ρ' q=>∀v,du K ρ' q v r->Q v q)->ke (bb P w) A (.call (.ref a) ⟨o,[]⟩) (CR rm outer P w H s Q E0) s
theorem JI{α β:Type}{F:α->β->Prop}:∀{l₁:List α}{l₂:List β}{i:Nat}{x:α},eQ F l₁ l₂->l₁[i]?=some x->∃y,l₂[i]?=some y/\F x y
 |_,_,_,_,.nil,e=>by simp at e
 |_,_,0,_,.cons r _,e=>by simp at e;subst e;exact⟨_,rfl,r⟩
 |_,_,i+1,_,.cons _ t,e=>by obtain⟨v,g,c⟩:=JI (i:=i) t (by simpa using e);exact⟨v,by simpa using g,c⟩
section
variable{P:Program}{w:bN}{K:ah}{mg:Str->Option af}{base:bK}
theorem Qo{A:bH}{outer:List Env}{s J:ao}{H H0 I:Hp}{h:List aj}{Q:VK}{v:V}{u:af}(e0:qF P w K mg base A outer s H)(G:mV h H0 H)(un:Un (fK outer) [] H0 I s.heap J.heap)(hok:mJ P w I J.heap)(os:J.os=s.os)(U:lm J.gens)(rv:RelV v u)
  (hq:∀C,mV h I C->(∀b∈h,C b=H b)->Q v C):L2.CE outer P w H s Q u J:=by
 classical
 obtain⟨C,e3⟩:∃C:Hp,C=λb=>if b∈h then H b else I b:=⟨_,rfl⟩
 have l:∀b∈h,C b=H b:=λb c=>by rw[e3];exact aD c
 have B:∀b,b∉h->C b=I b:=λb c=>by rw[e3];exact aB c
 have Y:∀b o,H b=some o->b∉h->H0 b=some o:=λb o e n=>by rw[<- G.old b n];exact e
 have O:∀b∈h,∃o u,H b=some (.frz o u)/\s.heap.get? b=some o:=λb c=>by obtain⟨w',e,o,x,rfl,d⟩:=G.new b c;exact⟨o,_,e,(e0.hok b _ e).1⟩
 have T:mV h I C:=⟨B,λb c=>by obtain⟨o,u,e,g⟩:=O b c;exact un.free b o g (G.non b c) (by simp),λb c=>by rw[l b c];exact G.new b c⟩
 have nf:∀b∈h,b∉fK outer:=λb c z=>by obtain⟨o,u,e,g⟩:=O b c;rw[e0.frf b z]at e;cases e
 refine⟨v,C,os,U,⟨λb o e n c L=>?_,λb o e n c L=>?_,λb o e n L=>?_,un.there,λb xs e=>?_,λb o u e=>?_,λb p e=>?_⟩,T.hok' hok λb c o u e=>?_,rv,hq C T l⟩
 ·have E:b∉h:=λz=>by obtain⟨o,u,e,g⟩:=O b z;rw[n]at e;cases e
  exact un.keep b o e (by rw[<- G.old b E];exact n) c L
 ·have E:b∉h:=λz=>by obtain⟨o,u,e,g⟩:=O b z;rw[n]at e;cases e
  exact un.slot b o e (by rw[<- G.old b E];exact n) c L
 ·have E:b∉h:=λz=>by obtain⟨o,u,e,g⟩:=O b z;rw[n]at e;cases e
  rw[B b E];exact un.free b o e (by rw[<- G.old b E];exact n) L
 ·by_cases z:b∈h
  ·rw[l b z];exact e
  ·rw[B b z];exact un.tups b xs (Y b _ e z)
 ·by_cases z:b∈h
  ·rw[l b z];exact e
  ·rw[B b z];exact un.frzs b o u (Y b _ e z)
 ·by_cases z:b∈h
  ·exact⟨#[],by rw[l b z,e];simp⟩
  ·obtain⟨more,q⟩:=un.tbls b p (Y b _ e z);exact⟨more,by rw[B b z];exact q⟩
 ·rw[l b c]at e;have g:=(e0.hok b _ e).1;exact un.keep b o g (G.non b c) (nf b c) (by simp)
open Classical in
theorem Sj{k:Nat}{x:Str}{pa:nR}{C:List Stmt}{sc:dD}{ts:Option dD}{rt:Option Expr}{dx:List Expr}{tp:List TypeParam}{bd:Str}{pos:Pos}{N ps fr:List Str}{f:CS}{m n:Nat}(S:qE N ps fr sc)(hm:N.length=m)(hn:ps.length=n)(hfr:nM sc.names=fr)
  (hb:∀(q:Str)(cl:List (Str×aj))(dc pm O ct:af)(us:List af),us.length=ps.length->lE (pY x q pa C sc cl .none .none dc pm none O ct) ⟨us,[]⟩=pure (ps.zip us))
  (hbody:∀(q:Str)(a:aj)(O:af)(cl:List (Str×aj))(A:bH)(outer:List Env)(s:ao)(H:Hp),ig k (A.deeper (qC q sc s.heap.objs.size a O cl))->vO (CC P w K mg base N q sc a O cl A outer s H) C f):
  sf P w K mg base (k+1) n (.dfn (.FunctionDef x pa C dx rt tp sc ts bd pos)) (b8 m f):=by
 subst hm hn;intro A outer s H ρ st m a vd ds us vs Q hr c sr ha hst rs hv hl p;obtain⟨ob,fd,q,cd,cl,e1,e2,⟨nm,ps',body',ds',rt',tp',sc',ts',bd',p',dc,pm,ct,ee,ef⟩,e4,⟨e5,E⟩,e6⟩:=sr.ob m a _ ha hst;cases ee;subst ef;have E:cl.map (·.1)=fr:=E.trans hfr;have fv:s.heap.NoLimit:=c.mod.nolimit.keeps λb o e=>(c.bs b o e).1;obtain⟨oc,cvs',t,hc1,hc2,hc3⟩:=e4;obtain⟨L,fg,c1,c2,c3⟩:=L3 c.hok e6;obtain⟨h,h0⟩:∃h:Hp,h=λb=>if b∈cl.map (·.2) then none else H b:=⟨_,rfl⟩
 have G:mV (cl.map (·.2)) h H:=⟨λb hb=>by rw[h0];exact (aB hb).symm,λb hb=>by rw[h0];exact aD hb,λb hb=>by obtain⟨pr,hp,rfl⟩:=cz.mp hb;obtain⟨i,hi⟩:=aL.mp hp;obtain⟨d,_,o,u,v,f1,f2,_⟩:=JI e6 hi;exact⟨_,f1,o,_,rfl,f2⟩⟩
 have e00:qF P w K mg base A outer s h:=⟨c.frames,c.mod,λb o g=>⟨(c.bs b o g).1,by rw[h0];dsimp only;split;rfl;exact (c.bs b o g).2⟩,c.bsz,c.funs,λb hb'=>by rw[h0];dsimp only;split;rfl;exact c.frf b hb',G.hok c.hok,c.bare⟩
 have hvl:vs.length=ps.length:=by rw[rs.length];exact hl
 have hkind:∀y∈ps.zip us,sc.names.lookup y.1=some .local\/(sc.names.lookup y.1=some .cell/\((bM (s.heap.objs.size+1) sc.names []).lookup y.1).isSome=true):=λpq123 hy=>by
  obtain⟨n,v⟩:=pq123;rcases S.par n (np hy).1 with q|q
  ·exact .inl q
  ·exact .inr ⟨q,iV _ _ _ (.inl q)⟩
 refine ym hr.depth (c.hok a _ e1).1 e2 S.co S.gen rfl ⟨cd,oc,cvs',t,rfl,(c.hok cd _ hc1).1,hc2,hc3⟩ ?_;rw[hb q cl dc pm (.ref cd) ct us (by rw[<- hv.length];exact hvl)];refine au (R5 S.kind hkind λenv he s1 x=>?_);subst he;refine⟨fv.keeps x.toInCall.keep,codeAny_func ?_⟩;have hcl:L.length=fr.length:=by have h1:=cC dP E;rw[ae]at h1;rw[c2.length,<- di e6];exact h1
 have I:Inv (CC P w K mg base N q sc a (.ref cd) cl A outer s h) [] (L2.start N (vs++L)) h s1:=Ut S hr.hd e00 hvl hv E hcl c1 e5 c3 (λp hp=>G.non _ (iw hp)) x;unfold oo at p;cases eg:b8 N.length f (ds++vd) (fM 0 st) with
 |exc _ _=>rw[eg]at p;exact p.elim
 |bad=>rw[eg]at p;exact p.elim
 |ok r st2=>
  rw[eg]at p;dsimp only at p;by_cases hd:∀(i:Nat)(o:MO),st[i]?=some o->mM o=true->st2[i]?=some MO.ded
  ·rw[aD hd]at p;have rr:bJ K ρ h (vs++L) (ds++vd):=bJ.app (rs.letgo G) (c2.letgo G);have pb:aU K ρ h (b8 N.length f (ds++vd) (fM 0 st)) λr' st' ρ' B=>∀v,du K ρ' B v r'->∃ρ2,du K ρ2 B v r/\SR K ρ2 B st2/\Ex ρ h ρ2 B:=by rw[eg];exact λρ' B x' s' v U=>⟨ρ',U,s',x'⟩
   have fin:∀{σ':St}{E:Hp}{s2:ao}{v:V}{u:af},Inv (CC P w K mg base N q sc a (.ref cd) cl A outer s h) [] σ' E s2->RelV v u->(∃ρ2,du K ρ2 E v r/\SR K ρ2 E st2/\Ex ρ h ρ2 E)->L2.CE outer P w H s Q u s2:=λ{σ' E s2 v u}J U Y=>
    by obtain⟨ρ2,r2,C,x2⟩:=Y;exact Qo c G J.base J.hok J.os J.bare U λH3 T he=>p ρ2 H3 (G.again T he x2 C) (SR.again G T he x2 sr C hd) v (r2.up ⟨⟨[],by simp⟩,λb o _ e=>T.le b o e,λb o e=>⟨o,T.le b o e,rfl⟩⟩)
   refine gQ (hbody q a (.ref cd) cl A outer s h (hr.deeper _) [] s1 (L2.start N (vs++L)) h { nx:=λ_ B=>∃ρ2,du K ρ2 B .non r/\SR K ρ2 B st2/\Ex ρ h ρ2 B,rt:=λv B=>∃ρ2,du K ρ2 B v r/\SR K ρ2 B st2/\Ex ρ h ρ2 B } I ⟨ρ,_,_,LR.start rr,SR.kill0 G sr,?_⟩) (λfl s' g=>?_) λe s' g=>g.elim
   ·unfold b8 at pb;exact pb.bnd.imp λfl c ρ1 h g s1 O=>by
     cases fl with
     |next l=>exact λσ' _=>O.ret s1 _ .non
     |ret d=>exact λv U=>O.ret s1 v U
     |brk l=>exact O.elim
     |cnt l=>exact O.elim
   ·cases fl with
    |ret u=>
     obtain⟨v,σ',B,J,U,q⟩:=g;exact fin J U q
    |next=>
     obtain⟨σ',B,J,q⟩:=g;exact fin (v:=V.non) (u:=bQ) J rfl q
    |brk=>exact (by obtain⟨_,_,_,q⟩:=g;exact q.elim)
    |cont=>exact (by obtain⟨_,_,_,q⟩:=g;exact q.elim)
  ·rw[aB hd]at p;exact p.elim
end
section
variable{X:Cx}
theorem OH{K:ah}{ρ:List aj}{H:Hp}{st:aX}{e:Expr}{ds:List D}{R:D->aX->List aj->Hp->Prop}:∀{W:List (Expr×RL)},aU K ρ H (ua W e ds st) R->∃r,(e,r)∈W/\ds.length=r.n/\aU K ρ H (r.g ds st) R
 |[],h=>h.elim
 | (e',r)::W,h=>by
  unfold ua at h;by_cases z:e=e'
  ·rw[aD z]at h;obtain⟨g,c⟩:=aU.chk h;exact⟨r,z ▸ .head _,g,c⟩
  ·rw[aB z]at h;obtain⟨r,a,b⟩:=OH h;exact⟨r,.tail _ a,b⟩
theorem Lh{K:ah}{ρ:List aj}{H:Hp}{st:aX}{c:kz}{g ds:List D}{R:D->aX->List aj->Hp->Prop}:∀{W:List (kz×RK)},aU K ρ H (qD W c g ds st) R->∃r,(c,r)∈W/\ds.length=r.n/\aU K ρ H (oo r.g g ds st) R
 |[],h=>h.elim
 | (e',r)::W,h=>by
  unfold qD at h;by_cases z:c=e'
  ·rw[aD z]at h;obtain⟨o,l⟩:=aU.chk h;exact⟨r,z ▸ .head _,o,l⟩
  ·rw[aB z]at h;obtain⟨r,a,b⟩:=Lh h;exact⟨r,.tail _ a,b⟩
theorem UW{W:WT}{x:Str}{p pos:Pos}{e:Expr}{es:List Expr}{fa:CE}{ca:CA}(hW:∀e r,(e,r)∈W.1->z_ X.prog X.w X.K X.mg X.base r.k r.n e r.g/\ig r.k X.A)(hV:∀c r,(c,r)∈W.2->sf X.prog X.w X.K X.mg X.base r.k r.n c r.g/\ig r.k X.A)(hx:SE X (.Name x p) fa)(ha:SA X (e::es) ca)
  (he:starEach (e::es) X.env=(false,eval e X.env)::starEach es X.env:=by rfl) (hpl:(backTo pos (starEach es X.env)).any (·.1)=false:=by rfl):SE X (.Call (.Name x p) (e::es) [] pos) (pB W fa ca):=by
 intro L s σ H Q I Y;obtain⟨ρ,l,st,lr,sr,p⟩:=Y;refine gR (gg (hx L s σ H (λv H1=>∃ρ1 B d,LR X.K ρ1 H1 σ l/\SR X.K ρ1 H1 B/\du X.K ρ1 H1 v d/\aU X.K ρ1 H1 (bnd (ca l) (λds=>qU W d ds) B) λd _ ρ' H'=>∀v,du X.K ρ' H' v d->Q v H') I
  ⟨ρ,l,st,lr,sr,p.bnd.imp λd B ρ1 H1 x1 s1 p1 v rv=>⟨ρ1,B,d,lr.mono x1,s1,rv,p1⟩⟩) λu s1 ⟨v,H1,I1,r,ρ1,B,d,lr1,sr1,rv,p1⟩=>?_)
 have hA:=ha pos L s1 σ H1 (λvs O=>∃ρ2 g ds,SR X.K ρ2 O g/\du X.K ρ2 O v d/\bJ X.K ρ2 O vs ds/\aU X.K ρ2 O (qU W d ds g) λd _ ρ' H'=>∀v,du X.K ρ' H' v d->Q v H') I1
  ⟨ρ1,l,B,lr1,sr1,p1.bnd.imp λds g ρ2 O x2 s2 G vs rvs=>⟨ρ2,g,ds,s2,rv.mono x2,rvs,G⟩⟩
 rw[he]at hA ⊢;refine PySem.W.callWith_of (P:=λh=>∃a o fd,u=.ref a/\h.get? a=some o/\o.data=.func fd) (by show ((false||(backTo pos (starEach es X.env)).any (·.1))||false)=false;rw[hpl];rfl)
  (λh ⟨a,o,fd,eu,e1,e2⟩=>?_) (nU (gg hA λus s2 ⟨vs,O,I2,rv2,ρ2,g,ds,J,rd,U,G⟩=>?_))
 ·subst eu;refine⟨.frame,.inl rfl,(PySem.W.Looks.ld (part:=none) e1).andThen ?_⟩;simp only[e2];exact .now
 ·unfold qU at G;cases d with
  |fn n=>
   obtain⟨a,rfl,H⟩:=rd.inv;cases l:g[n]? with
   |none=>simp only[l]at G;exact G.elim
   |some ob=>
    simp only[l]at G;cases ob with
    |lam e'=>
     obtain⟨r',I,L,v⟩:=OH G;obtain⟨ok,B⟩:=hW _ _ I;obtain⟨a',E,ps,b,sc,h,q,c,pm,ct,e1,e2,Y⟩:=J.at l;rw[H]at E;cases E;cases (show u=bc a from r);refine⟨⟨a,_,_,rfl,(I2.hok a _ e2).1,rfl⟩,?_⟩;refine uN (kI (ok ps b sc h q c pm ct e1 X.A X.stack s2 O a us vs Q B I2.env0 e2 Y rv2 ⟨by rw[U.length];exact L,ρ2,g,ds,J,U,v⟩) λr s' C=>?_);cases r with
     |error e=>exact C.elim
     |ok fl=>
      cases fl with
      |ret u=>exact I2.after C
      |next=>exact cT C
      |brk=>exact cT C
      |cont=>exact cT C
    |clo c vd=>
     obtain⟨r',I,L,v⟩:=Lh G;obtain⟨ok,B⟩:=hV _ _ I;obtain⟨a',E,o,fd,q,cd,cl,e1,e2,Y⟩:=J.at l;rw[H]at E;cases E;cases (show u=bc a from r);refine⟨⟨a,_,_,rfl,(I2.hok a _ e1).1,e2⟩,?_⟩;refine uN (kI (ok X.A X.stack s2 O ρ2 g n a vd ds us vs Q B I2.env0 J H l U rv2 L v) λr s' C=>?_);cases r with
     |error e=>exact C.elim
     |ok fl=>
      cases fl with
      |ret u=>exact I2.after C
      |next=>exact cT C
      |brk=>exact cT C
      |cont=>exact cT C
    |_=>exact G.elim
  |_=>exact G.elim
end
theorem NM{cells:List (Str×aj)}:∀(names:List (Str×dE))(acc:List (Str×aj)),(∀x,(x,bI)∈names->∃c,cells.lookup x=some c)->(iQ names cells acc).map (·.1)=nM names++acc.map (·.1)
 |[],acc,_=>rfl
 | (n,k)::r,acc,h=>by
  unfold iQ;rw[NM r _ λx l=>h x (.tail _ l)];by_cases g:(k == bI)=true
  ·obtain rfl:k=.free:=by simpa using g
   obtain⟨c,o⟩:=h n (.head _);rw[aD g,o];simp[nM]
  ·rw[aB g];simp[nM,g]
theorem sx{cells:List (Str×aj)}{p:Str×aj}:∀(names:List (Str×dE))(acc:List (Str×aj)),p∈iQ names cells acc->(cells.lookup p.1=some p.2/\(p.1,bI)∈names)\/p∈acc
 |[],acc,h=>.inr h
 | (n,k)::r,acc,h=>by
  unfold iQ at h;rcases sx r _ h with q|q
  ·exact .inl ⟨q.1,.tail _ q.2⟩
  ·by_cases g:(k == bI)=true
   ·obtain rfl:k=.free:=by simpa using g
    rw[aD g]at q;cases e:cells.lookup n with
    |none=>rw[e]at q;exact .inr q
    |some c=>
     rw[e]at q;rcases bn.mp q with z|z
     ·subst z;exact .inl ⟨e,.head _⟩
     ·exact .inr z
   ·rw[aB g]at q;exact .inr q
theorem mV.up{g:List aj}{ρ:List aj}{H c:Hp}(F:mV g H c):Up ρ H ρ c:=⟨⟨[],by simp⟩,λb o _ e=>F.le b o e,λb o e=>⟨o,F.le b o e,rfl⟩⟩
theorem mV.sr{l:List aj}{K:ah}{ρ:List aj}{H c:Hp}{st:aX}(F:mV l H c)(s:SR K ρ H st):SR K ρ c st:=⟨s.len,s.nd,λn b o h g=>nC.mono (o:=o) F.up (s.ob n b o h g) λu q=>F.le b u q⟩
section
variable{X:Cx}{ar:List (aj×Obj)}{σ:St}{H:Hp}{s:ao}{ρ:List aj}{l:MM.Loc}{st:aX}
theorem Mq(I:Inv X ar σ H s)(E:LR X.K ρ H σ l): ∀{cl:List (Str×aj)}{is:List Nat}{vd:List D},sS l is=some vd->eQ (λ(p:Str×aj)i=>X.N[i]?=some p.1) cl is ->
  (∀p∈cl,X.env.cells.lookup p.1=some p.2/\(X.env.kindOf p.1=some .cell\/X.env.kindOf p.1=some .free))->eQ (λ(p:Str×aj)d=>∃o u v,s.heap.get? p.2=some o/\o.data=.cell (some u)/\RelV v u/\du X.K ρ H v d) cl vd
 |_,_,vd,e,.nil,_=>by cases e;exact .nil
 |p::cl,i::is,vd,e,.cons r t,h=>by
  unfold sS at e;cases B:l[i]? with
  |none=>rw[B]at e;cases e
  |some od=>
   cases od with
   |none=>rw[B]at e;cases e
   |some d=>
    rw[B]at e;cases C:sS l is with
    |none=>rw[C]at e;cases e
    |some vr=>
     rw[C]at e;cases e;refine .cons ?_ (Mq I E C t λq U=>h q (.tail _ U));obtain⟨h1,g⟩:=h p (.head _);obtain⟨v,ev,J⟩:=E.2 i d B;obtain⟨m,hn,hl⟩:=I.loc;have Q:GJ X.env.scope p.1:=.inr g;obtain⟨u,L,O⟩:=hl i p.1 v r ev Q;rcases O with ⟨z,_⟩|⟨_,c,G,o,Y,hd⟩
     ·rcases g with g|g<;>(rw[g]at z;cases z)
     ·rw[h1]at G;cases G;exact⟨o,u,v,Y,hd,L,J⟩
open Classical in
theorem P_{k n:Nat}{f a cd:aj}{fdG fd:cY}{ps:List Str}{g:List D->M D}{ob:Obj}{c:kz}{q:Str}{cl:List (Str×aj)}{is:List Nat}{vd ds:List D}{Y:List V}{O:List af}{H0:Hp}{ρ0:List aj}{Q:VK}(I:Inv X ar σ H s)
  (F:lW X.prog X.w X.K X.mg X.base rm k f fdG ps (mr X.K n g)) (hr:ig k X.A) (B:Binds X.K fdG ps []) (x0:Ex ρ0 H0 (ρ++[a]) H) (sr:SR X.K ρ H st) (na:a∉ρ) (lr:LR X.K ρ H σ l) (ha:H a=some (.frz ob (.own a))) (hd:ob.data=.func fd) (hf:AV c fd q cd cl) (hcd:oT H cd q)
  (hcl:cl.map (·.1)=nM fd.scope.names) (hnn:(cl.map (·.1)).Nodup) (L:∀p∈cl,X.env.cells.lookup p.1=some p.2/\(X.env.kindOf p.1=some .cell\/X.env.kindOf p.1=some .free)/\X.fn p.1=true) (hcap:eQ (λ(p:Str×aj)i=>X.N[i]?=some p.1) cl is) (hv:sS l is=some vd)
  (hn:ds.length+1=n) (rs:bJ X.K ρ H Y ds) (rv:bU Y O) (p:aU X.K ρ0 H0 (callC g c vd ds st) λd _ ρ' E=>∀v,du X.K ρ' E v d->Q v E):
  aJ (bb X.prog X.w) X.A (call (.ref f) (O++[.ref a])) (EP X ar σ Q) X.xe s:=by
 have cells:=Mq I lr hv hcap λp J=>⟨(L p J).1,(L p J).2.1⟩
 obtain⟨U,ecs⟩:∃U,U=cl.map (·.2):=⟨_,rfl⟩
 have C:∀b∈U,∃o u,s.heap.get? b=some o/\o.data=.cell (some u)/\H b=none/\X.s₀.heap.objs.size<=b/\b≠X.env.locals:=λb B=>by rw[ecs]at B;obtain⟨pr,J,rfl⟩:=cz.mp B;obtain⟨i,hi⟩:=aL.mp J;obtain⟨d,_,o,u,v,f1,f2,_⟩:=JI cells hi;obtain⟨h1,h2,h3⟩:=L pr J;exact⟨o,u,f1,f2,I.freeC _ _ h1,I.ok.cab _ _ h3 h1,I.cne _ _ h1⟩
 obtain⟨E,eH⟩:∃E:Hp,E=λb=>if b∈U then (s.heap.get? b).map (λo=>HO.frz o (.frz o (.own b))) else H b:=⟨_,rfl⟩
 have eI:∀b o,b∈U->s.heap.get? b=some o->E b=some (.frz o (.frz o (.own b))):=λb o B e=>by rw[eH];dsimp only;rw[aD B,e];rfl
 have G:mV U H E:=⟨λb B=>by rw[eH];exact aB B,λb B=>let ⟨_,_,_,_,z,_⟩:=C b B;z,λb B=>by obtain⟨o,u,e,d,_⟩:=C b B;exact⟨_,eI b o B e,o,_,rfl,d⟩⟩
 have hc:∀b∈U,∀o u,E b=some (.frz o u)->s.heap.get? b=some o:=λb B o u e=>by obtain⟨o',u',e',_⟩:=C b B;rw[eI b o' B e']at e;cases e;exact e'
 have e0:=VO I G hc λb B=>let ⟨_,_,_,_,_,z1,z2⟩:=C b B;⟨z1,z2⟩
 have nd:(cl.map (·.2)).Nodup:=by refine List.pairwise_iff_getElem.mpr λi j hi hj hij z=>?_;rw[mO,mO]at z;rw[ae]at hi hj;have h1:=(L _ (bA hi)).1;have h2:=(L _ (bA hj)).1;rw[z]at h1;have h3:=I.ok.inj _ _ _ h1 h2;have:=(List.pairwise_iff_getElem.mp hnn) i j (by rw[ae];exact hi) (by rw[ae];exact hj) hij;rw[mO,mO]at this;exact this h3
 have sr':SR X.K (ρ++[a]) E (st++[.clo c vd]):=(G.sr sr).keepO na ⟨ob,fd,q,cd,cl,G.le _ _ ha,hd,hf,hcd.up (ρ:=ρ) (ρ1:=ρ) G.up,⟨nd,hcl⟩,by
  have:∀{cl:List (Str×aj)}{vd:List D},(∀p∈cl,p.2∈U)->eQ (λ(p:Str×aj)d=>∃o u v,s.heap.get? p.2=some o/\o.data=.cell (some u)/\RelV v u/\du X.K ρ H v d) cl vd->eQ (sq X.K ρ E) cl vd:=by
   intro cl vd hm J
   induction J with
   |nil=>exact .nil
   |cons r t ih=>
    refine .cons ?_ (ih λp J=>hm p (.tail _ J));obtain⟨o,u,v,h1,h2,h3,h4⟩:=r;exact⟨o,u,v,eI _ _ (hm _ (.head _)) h1,h2,h3,h4.up G.up⟩
  exact this (λp J=>by rw[ecs];exact iw J) cells⟩
 have rs':bJ X.K (ρ++[a]) E (Y++[.ref a]) (ds++[.fn st.length]):=bJ.app ((rs.up G.up).up Up.grow) (.cons (.fn (by rw[<- sr.len];simp)) .nil);have rv':bU (Y++[.ref a]) (O++[.ref a]):=by
  have:∀{Y:List V}{O:List af},bU Y O->bU (Y++[.ref a]) (O++[.ref a]):=by
   intro Y O h
   induction h with
   |nil=>exact .cons rfl .nil
   |cons r t ih=>exact .cons r ih
  exact this rv
 unfold callC at p;cases eg:g (ds++[.fn st.length]) (st++[.clo c vd]) with
 |exc _ _=>rw[eg]at p;exact p.elim
 |bad=>rw[eg]at p;exact p.elim
 |ok r st2=>
  rw[eg]at p;dsimp only at p;by_cases hm:st.length < st2.length/\∀m:Nat,m < st.length->st2[m]?=st[m]?\/∃o:MO,st2[m]?=some o/\mM o=false
  ·rw[aD hm]at p;have Q:mr X.K n g (Y++[V.ref a]) E (λv h=>∃ρ1,SR X.K ρ1 h st2/\Ex (ρ++[a]) E ρ1 h/\du X.K ρ1 h v r) E0:=⟨by rw[rs'.length,aE];exact hn,ρ++[a],_,_,sr',rs',by rw[eg];exact λρ1 h H L v rv=>⟨ρ1,L,H,rv⟩⟩
   have hl:((O++[bc a])++[]).length=ps.length:=by rw[br,<- rv'.length];exact F.len _ _ _ _ Q
   have q:=B s (O++[.ref a]) I.kIn hl;rw[br]at q;refine uN (kI (F.run X.A X.stack s E ⟨O++[.ref a],[]⟩ _ _ _ E0 hr e0 q rv' Q) λr' s' l=>?_);cases r' with
   |error e=>exact l.elim
   |ok fl=>
    cases fl with
    |ret u=>
     obtain⟨v,h,r1,⟨ρ1,L,H,rr⟩,fz,inv⟩:=WA I G hc l;obtain⟨c,C⟩:∃c:Hp,c=λb=>if b∈U then none else h b:=⟨_,rfl⟩
     have J:mV U c h:=⟨λb B=>by rw[C];exact (aB B).symm,λb B=>by rw[C];exact aD B,λb B=>by rw[fz b B];exact G.new b B⟩
     have s2:SR X.K ρ1 c (fM st.length st2):=SR.letgo (st:=st++[.ded]) G J H (sr.keepO (o':=.ded) na ⟨_,ha⟩) L (by simp) λm o=>by rw[av o];exact hm.2 m o
     exact⟨v,c,inv c J,r1,p ρ1 c (x0.trans (G.ex J H)) s2 v (rr.letgo J)⟩
    |next=>exact cT l
    |brk=>exact cT l
    |cont=>exact cT l
  ·rw[aB hm]at p;exact p.elim
end
def CB(K:ah)(f:CA)(T:TE):TA:=λσ H Q=>∃ρ l st,LR K ρ H σ l/\SR K ρ H st/\aU K ρ H (f l st) λds _ ρ' h=>∀g,bJ K ρ' h g ds->T σ h λv c=>Q (g++[v]) c
theorem LU{v:V}:∀{g:List V}{h:List af},bU (g++[v]) h->∃c u,h=c++[u]/\bU g c/\RelV v u
 |[],_,.cons r .nil=>⟨[],_,rfl,.nil,r⟩
 |_::g,_,.cons r t=>by obtain⟨c,u,e,o,l⟩:=LU t;exact⟨_::c,u,by rw[e];rfl,.cons r o,l⟩
theorem Ex.made{ρ ρ1:List aj}{v q E:Hp}{a:aj}{o:HO}(c:Ex ρ v (ρ++[a]) q)(g:Ex ρ q ρ1 E)(G:a∉ρ)(B:q a=some o):Ex ρ v (ρ1++[a]) E/\a∉ρ1:=by
 obtain⟨τ,rfl,C⟩:=g.pre;refine⟨⟨⟨τ++[a],by rw[bF],λb J=>?_⟩,λb u k e=>g.fix b u k (c.fix b u k e),λb u n e=>g.oth b u n (c.oth b u n e),λb u e=>?_⟩,λz=>?_⟩
 ·rcases aV.mp J with z|z
  ·cases e:v b with
   |none=>rfl
   |some u=>
    obtain⟨u',h,_⟩:=c.knd b u e;rw[C b z]at h;cases h
  ·obtain⟨τ',h,L⟩:=c.pre;obtain rfl:=List.append_cancel_left h;exact L b z
 ·obtain⟨u',Q,I⟩:=c.knd b u e;obtain⟨l,O,H⟩:=g.knd b u' Q;exact⟨l,O,H.trans I⟩
 ·rcases aV.mp z with z|z
  ·exact G z
  ·rw[C a z]at B;cases B
section
variable{X:Cx}{e:Expr}{es:List Expr}{T:TE}{fa:CE}{ca:CA}
theorem XM(h:PE X e T)(g:starEach [e] X.env=[(false,eval e X.env)]:=by rfl):PA X [e] (CB X.K bu T):=
 (rA h uk g).of λσ H Q c=>by obtain⟨ρ,l,st,o,sr,p⟩:=c;exact p.ret sr [] .nil
theorem OO(U:SE X e fa)(O:PA X es (CB X.K ca T))(L:starEach (e::es) X.env=(false,eval e X.env)::starEach es X.env:=by rfl):PA X (e::es) (CB X.K (ax fa ca) T):=
 (rA U O L).of λσ H Q c=>by obtain⟨ρ,l,st,o,sr,p⟩:=c;exact⟨ρ,l,st,o,sr,p.bnd.imp λd g ρ1 H1 u E J v G=>⟨ρ1,l,g,o.mono u,E,J.bnd.imp λds B ρ2 H2 q C I Y h=>I.ret C _ (.cons (G.mono q) h)⟩⟩
structure sT(X:Cx)(names:List (Str×dE))(is:List Nat):Prop where
 cel:∀x,(x,bI)∈names->(X.env.kindOf x=some .cell\/X.env.kindOf x=some .free)/\X.fn x=true
 nd:(nM names).Nodup
 ix:eQ (λ(x:Str)i=>X.N[i]?=some x) (nM names) is
theorem sT.cl{names:List (Str×dE)}{is:List Nat}(h:sT X names is)(ok:X.Ok): ∃cl,iQ names X.env.cells []=cl/\cl.map (·.1)=nM names/\(cl.map (·.1)).Nodup /\
  (∀p∈cl,X.env.cells.lookup p.1=some p.2/\(X.env.kindOf p.1=some .cell\/X.env.kindOf p.1=some .free)/\X.fn p.1=true)/\eQ (λ(p:Str×aj)i=>X.N[i]?=some p.1) cl is:=by
 have g:(iQ names X.env.cells []).map (·.1)=nM names:=by rw[NM names [] λx l=>ok.has x (h.cel x l).1];simp
 refine⟨_,rfl,g,by rw[g];exact h.nd,λp o=>?_,?_⟩
 ·rcases sx names [] o with ⟨a,b⟩|z
  ·exact⟨a,h.cel _ b⟩
  ·cases z
 ·have : ∀(cl : List (Str×aj))(fr : List Str)(is : List Nat), cl.map (·.1) = fr -> eQ (λ(x : Str)i => X.N[i]? = some x) fr is -> eQ (λ(p : Str×aj)i => X.N[i]? = some p.1) cl is := by
    intro cl
    induction cl with
    |nil=>intro fr is e p;subst e;cases p;exact .nil
    |cons c cl ih=>intro fr is e p;subst e;cases p with|cons r t=>exact .cons r (ih _ _ rfl t)
  exact this _ _ _ g h.ix
def AX(K:ah)(g:List D->M D)(c:kz)(q:Str)(cl:List (Str×aj))(is:List Nat)(i:Nat)(ca:CA):TE:=λσ h Q=>∃ρ H0 l st a ob fd cd vd,Ex ρ H0 (ρ++[a]) h/\a∉ρ/\SR K ρ h st/\LR K ρ h σ l/\σ[i]?=some (some (.ref a))/\h a=some (.frz ob (.own a))/\ob.data=.func fd /\
 AV c fd q cd cl/\oT h cd q/\cl.map (·.1)=nM fd.scope.names/\sS l is=some vd/\aU K ρ H0 (bnd (ca l) (λds=>callC g c vd ds) st) λd _ ρ' o=>∀v,du K ρ' o v d->Q v o
theorem Sg{k n i:Nat}{f:aj}{H:cY}{ps:List Str}{g:List D->M D}{x:Str}{p pos:Pos}{c:kz}{q:Str}{cl:List (Str×aj)}{is:List Nat}(F:lW X.prog X.w X.K X.mg X.base rm k f H ps (mr X.K n g))(hr:ig k X.A)(hg:Gl X x)(hm:X.mg x=some (.ref f))
  (hk:cS X.K (.ref f)=true) (hb:Binds X.K H ps []) (ha:PA X (e::es) (CB X.K ca (xh i))) (hn:∀l st ds O,ca l st=.ok ds O->ds.length+1=n)
  (hnn:(cl.map (·.1)).Nodup) (hce:∀p∈cl,X.env.cells.lookup p.1=some p.2/\(X.env.kindOf p.1=some .cell\/X.env.kindOf p.1=some .free)/\X.fn p.1=true) (G:eQ (λ(p:Str×aj)i=>X.N[i]?=some p.1) cl is)
  (hdb:(x == ("__debug__":Str))=false:=by decide) (he:starEach (e::es) X.env=(false,eval e X.env)::starEach es X.env:=by rfl) (hpl:(backTo pos (starEach es X.env)).any (·.1)=false:=by rfl):
  PE X (.Call (.Name x p) (e::es) [] pos) (AX X.K g c q cl is i ca):=by
 intro C s σ Hm Q I h;obtain⟨ρ,H0,l,st,a,ob,fd,cd,vd,x0,na,sr,lr,hσ,E,hod,hfd,hcd,hfr,hv,o⟩:=h;unfold bnd at o;cases J:ca l st with
 |bad=>rw[J]at o;exact o.elim
 |exc _ _=>rw[J]at o;exact o.elim
 |ok ds eh=>
  rw[J]at o;refine gR (M3 I hg hm ?_ hdb);refine uO (h₀:=X.base) I.ok.mod.kin hk (gg (ha pos C s σ Hm (λzs L=>∃ρ1 B,zs=B++[.ref a]/\Ex ρ Hm ρ1 L/\SR X.K ρ1 L eh/\bJ X.K ρ1 L B ds) I ⟨ρ,l,st,lr,sr,?_⟩) λus s1 ⟨zs,L,I2,rv,ρ1,B,e1,v,U,rs⟩=>⟨I2.kIn,?_⟩) he hpl
  ·rw[J];exact λρ1 c v s1 B Y=>⟨_,hσ,ρ1,B,rfl,v,s1,Y⟩
  ·subst e1;obtain⟨l,u,rfl,c,q⟩:=LU rv;obtain rfl:u=bc a:=q;obtain⟨h,g⟩:=x0.made v na E;exact P_ I2 F hr hb h U g (lr.mono v) (v.fix _ _ rfl E) hod hfd (hcd.up v.up) hfr hnn hce G hv (hn _ _ _ _ J) rs c o
theorem LR.forget{K:ah}{ρ:List aj}{H:Hp}{σ:St}{l:MM.Loc}{i:Nat}{v:V}(h:LR K ρ H σ l):LR K ρ H (σ.set i (some v)) (l.set i none):=by
 refine⟨by rw[cL,cL];exact h.1,λj d e=>?_⟩;by_cases c:i=j
 ·subst c;rw[List.getElem?_set]at e;rw[aD rfl]at e;split at e<;>cases e
 ·rw[ag c]at e;obtain⟨u,g,r⟩:=h.2 j d e;exact⟨u,by rw[ag c];exact g,r⟩
theorem Uv{k n i j:Nat}{f:aj}{fdG:cY}{ps:List Str}{g:List D->M D}{u:D->M D}{id:String}{x y w bx:Str}{p pos bp U O h:Pos}{pa:nR}{B:List Stmt}{sc:dD}{is:List Nat}(L:DZ X y)(hN:X.N.Nodup)(hi:X.N[i]?=some w)(hkw:X.env.kindOf w=some .local)
  (hd0:pa.defaults=[]) (hk0:pa.kw_defaults=[]) (hann:annTrees pa none X.env=[]) (hdr:sT X sc.names is)
  (F:lW X.prog X.w X.K X.mg X.base rm k f fdG ps (mr X.K n g)) (hr:ig k X.A) (hg:Gl X x) (hm:X.mg x=some (.ref f)) (hk:cS X.K (.ref f)=true) (hb:Binds X.K fdG ps []) (ha:PA X (e::es) (CB X.K ca (xh i))) (hn:∀l st ds st',ca l st=.ok ds st'->ds.length+1=n)
  (hc:CallR X (.builtin id) (λxs H Q=>∃v,xs=[v]/\vR X.K u v H Q)) (hbg:Gl X bx) (hbm:X.mg bx=none) (hbv:cV bx=some (.builtin id)) (hbn:bx≠"__name__":=by decide) (hbdb:(bx == ("__debug__":Str))=false:=by decide)
  (hdb:(x == ("__debug__":Str))=false:=by decide) (he:starEach (e::es) X.env=(false,eval e X.env)::starEach es X.env:=by rfl) (hpl:(backTo pos (starEach es X.env)).any (·.1)=false:=by rfl):
  vO X [.FunctionDef w pa B [] none [] sc none w h,.Return (some (.Call (.Name bx bp) [.Call (.Name x p) (e::es) [] pos] [] U)) O] (eV (c1 u (oq j y w g (.dfn (.FunctionDef w pa B [] none [] sc none w h)) is i ca))):=by
 intro ar s σ H D I Y;obtain⟨ρ,l,st,lr,sr,pp⟩:=Y;obtain⟨cl,ecl,c1',c2',c3,c4⟩:=hdr.cl I.ok;obtain⟨f',o,fd,c,P,l1,l2,l3,l4,l5,l6,l7,l8⟩:=L;have hcl:uT sc X.env=pure cl:=by rw[Ov λz hz=>I.ok.has z (hdr.cel z hz).1,ecl]
 have E:=pp.bnd.bnd;unfold oq at E;cases ej:st[j]? with
 |none=>simp only[ej]at E;exact E.elim
 |some oj=>
  cases oj with
  |tbl y' w'=>
   cases ev:sS (l.set i none) is with
   |none=>simp only[ej,ev]at E;exact E.elim
   |some vd=>
    simp only[ej,ev]at E;by_cases hy:y'=y/\w'=w
    ·rw[aD hy]at E;obtain⟨rfl,rfl⟩:=hy;obtain⟨P',hP',hT,Y⟩:=sr.at ej;obtain rfl:P'=P:=hT.uniq ⟨f',o,fd,c,l1,l2,l3,l4,l5⟩;have u:=I.mod.glob.keeps I.bk;obtain⟨L,hgP⟩:=UL l8 I Y.choose_spec.1;have hC:=uq I.kIn l5;have hq:qualnameIn X.env w' w'=wP y' w':=by unfold qualnameIn;rw[hkw,l7];rfl
     refine FP (PySem.W.nestDef_K hd0 hk0 hann ?_);rw[hq];refine VL (Wp:=λQ=>aJ (bb X.prog X.w) X.A _ Q X.xe s) (fobj:=λcd ct C=>{ cls:=.type "function",data:=.func (pY w' (wP y' w') pa B sc cl .none .none C ((X.mg "__name__").getD .none) none cd ct) }) (pos:=h) I Y (λ_ _ _=>rfl) (λtb cv Q g ht hf k=>?_) (λtb Q g ht hf k=>?_) λa c' G C H' s' T J=>?_
     ·exact PySem.W.makeFunction_hit hcl I.ok.glob u l6 hC g ht hf L λG C h' tk hk hsz=>k G C h' tk hk hsz
     ·exact PySem.W.makeFunction_K hcl I.ok.glob u l6 hC g ht hf hgP L λc' G C h' tk q o l h c=>k c' G C h' tk q o l h c
     ·obtain⟨na,g,C⟩:=TH sr hP' ej T.fresh T.tab T.keep;refine Hq (v:=.ref a) J hN hi (.inl hkw) rfl (λG J' _=>?_) (.inr hkw);have o:Ex ρ H ρ H':=⟨⟨[],by simp⟩,g.fix,g.oth,g.knd⟩
      have rest:=Nv (NF (pos:=O) (Du (p:=bp) (pos:=U) hc hbg hbm hbv (rA (Sg (p:=p) (pos:=pos) (c:=.dfn (.FunctionDef w' pa B [] none [] sc none w' h)) (q:=wP y' w') F hr hg hm hk hb ha hn c2' c3 c4 hdb he hpl) uk rfl) hbn hbdb rfl rfl)) ON;refine rest ar G (σ.set i (some (.ref a))) H' D J' ?_;refine⟨ρ,H,l.set i none,st,a,_,_,c',vd,g,na,C,(lr.mono o).forget,?_,T.fn,rfl,⟨_,_,_,_,_,_,_,_,_,_,_,_,_,rfl,rfl⟩,T.cod,c1',ev,E.imp λd u ρ1 H1 x1 C p2 v rv=>?_⟩
      ·have hiσ:i < σ.length:=by rw[I.len];exact (ac.mp hi).1
       rw[aw hiσ]
      ·exact⟨v,rfl,ρ1,u,d,C,rv,p2.imp λh Q ρ2 l g Y c v2 L=>c.ret Y v2 L⟩
    ·rw[aB hy]at E;exact E.elim
  |_=>simp only[ej]at E;exact E.elim
end
set_option genInjectivity false in
structure RF where
 n:Nat
 k:Nat
 ps:List Str
 kw:Bool
 g:List D->M D
set_option genInjectivity false in
structure RC where
 sc:dD
 N:List Str
 k:Nat
 G:List (Str×RF)
 Z:List Str
 C:List (Str×D)
 H:List (Nat×Nat×Nat)
 top:Bool
 W:WT
 T:Option (Nat×Str)
noncomputable def RC.tag(c:RC)(p:Pos)(t:Nat):Bool:=c.H.contains (p.line,p.col,t)
noncomputable def RC.glo(c:RC)(x:Str):Bool:=c.sc.names.lookup x == some .globalImplicit
noncomputable def sX(x:Str):Bool := !((x == ("__debug__":Str))||(x == ("__classdict__":Str))||decide (x=("__name__":Str)))
theorem zZ{x:Str}(h:sX x=true):qH x:=Py (by unfold sX at h;simpa only[xG] using h)
def EO(K:ah)(g:cY)(c:List Str):Prop:=if c.getLast?=some (aA "most") then ∃u,RelV (.int 500) u/\Binds K g c [u] else yQ K g c
structure GF(P:Program)(w:bN)(K:ah)(mg:Str->Option af)(base:bK)(x:Str)(r:RF):Prop where
 ex:∃f fd,mg x=some (.ref f)/\lW P w K mg base rm r.k f fd r.ps (mr K r.n r.g)/\cS K (.ref f)=true/\Binds K fd r.ps []/\(r.kw=true->EO K fd r.ps)
def zV(P:Program)(w:bN)(K:ah)(mg:Str->Option af)(base:bK)(W:WT):Prop:=(∀e r,(e,r)∈W.1->z_ P w K mg base r.k r.n e r.g)/\∀c r,(c,r)∈W.2->sf P w K mg base r.k r.n c r.g
structure Good(X:Cx)(c:RC):Prop where
 S:Sc X c.sc
 N:X.N=c.N
 nd:X.N.Nodup
 hr:ig c.k X.A
 G:∀x r,c.G.lookup x=some r->GF X.prog X.w X.K X.mg X.base x r
 Z:∀x,c.Z.contains x=true->X.mg x=none
 C:∀x d,c.C.lookup x=some d->∃v u,X.mg x=some u/\RelV v u/\∀ρ H,du X.K ρ H v d
 ps:tj (bb X.prog X.w) X.A X.env X.xe
 kd:c.top=true->X.env.blockKind=.function/\∀x,X.env.kindOf x=c.sc.names.lookup x
 W:zV X.prog X.w X.K X.mg X.base c.W
 T:∀t,c.T=some t->DZ X t.2
theorem Good.hu{X:Cx}{c:RC}(g:Good X c):X.A.units+60 < dk:=S6 g.hr
noncomputable def qX:Expr->Bool
 | .Starred .. => false
 |_=>true
theorem qV{e:Expr}{c:List Expr}{env:Env}(h:qX e=true):starEach (e::c) env=(false,eval e env)::starEach c env:=by cases e<;>first|rfl|exact nomatch h
theorem Br{env:Env}{pos:Pos}:∀{c:List Expr},c.all qX=true->(backTo pos (starEach c env)).any (·.1)=false
 |[],_=>rfl
 |e::c,h=>by rw[cj,bh]at h;rw[qV h.1];exact Br h.2
theorem Mu{env:Env}{pos:Pos}:∀{c:List Expr},c.all qX=true->(backTo pos (starEach c env)).all (λx => !x.1)=true
 |[],_=>rfl
 |e::c,h=>by rw[cj,bh]at h;rw[qV h.1];exact Mu h.2
noncomputable def Hl:Expr->Bool
 | .ListComp .. => false
 | .SetComp .. => false
 | .DictComp .. => false
 |_=>true
theorem L_{e:Expr}{t:Option Expr}{n:Nat}{env:Env}(h:Hl e=true):kt e t n env=pure false:=by cases e<;>first|rfl|exact nomatch h
noncomputable def CH:Expr->Bool
 | .Set .. => false
 |_=>true
theorem JC{e:Expr}{env:Env}(h:CH e=true)(x:af):fE e env x=pure x:=by cases e<;>first|rfl|exact nomatch h
theorem GO{op:uL}{e:Expr}(h:CH e=true):gC op e=false:=by cases e<;>first|rfl|exact nomatch h
noncomputable def Ee:Expr->Bool
 | .Call _ [] _ _=>false
 |_=>true
theorem GD{e:Expr}{x:Str}{env:Env}{w:Sem af}(h:Ee e=true):eL e x env w=w:=by
 cases e with
 |Call f as ks p=>
  cases as with
  |nil=>exact nomatch h
  |cons a as=>unfold eL;cases f<;>rfl
 |_=>rfl
noncomputable def Gp:Expr->Bool
 | .Slice .. => false
 |_=>true
theorem EF{e:Expr}(h:Gp e=true):qu e:=by intro o i;cases e<;>first|rfl|exact nomatch h
noncomputable def Nq:Expr->Bool
 | .Compare .. => false
 | .BoolOp .. => false
 | .UnaryOp .. => false
 | .IfExp .. => false
 |_=>true
theorem XA{e:Expr}{env:Env}(h:Nq e=true)(w:Sem af):PySem.isTrue e env w=(do let v <- w;xr e.pos;lw [v] (truthy v)):=by cases e<;>first|rfl|exact nomatch h
abbrev Ei(c:RC)(x:Expr):={r:CE // ∀{X:Cx},Good X c->SE X x r}
abbrev ND(c:RC)(x:Expr):={r:CA // ∀{X:Cx},Good X c->SL X x r}
abbrev Oc(c:RC)(x:Expr):={r:CT // ∀{X:Cx},Good X c->ST X x r}
abbrev IM(c:RC)(tg x:Expr):={r:CI // ∀{X:Cx},Good X c->SI X tg x r}
abbrev Kc(c:RC)(x:Expr):={r:CG // ∀{X:Cx},Good X c->SG X x r}
abbrev MN(c:RC)(x:Stmt):={r:CS // ∀{X:Cx},Good X c->SS X x r}
set_option genInjectivity false in
structure sj where
 e:∀(c:RC)(x:Expr),Option (Ei c x)
 l:∀(c:RC)(x:Expr),Option (ND c x)
 t:∀(c:RC)(x:Expr),Option (Oc c x)
 i:∀(c:RC)(tg x:Expr),Option (IM c tg x)
 g:∀(c:RC)(x:Expr),Option (Kc c x)
 s:∀(c:RC)(x:Stmt),Option (MN c x)
abbrev lj:=sj->∀(c:RC)(x:Expr),Option (Ei c x)
abbrev CN:=sj->∀(c:RC)(x:Expr),Option (ND c x)
abbrev E3:=sj->∀(c:RC)(x:Expr),Option (Oc c x)
abbrev xp:=sj->∀(c:RC)(tg x:Expr),Option (IM c tg x)
abbrev Ge:=sj->∀(c:RC)(x:Expr),Option (Kc c x)
abbrev wo:=sj->∀(c:RC)(x:Stmt),Option (MN c x)
set_option genInjectivity false in
structure o6 where
 e:List lj
 l:List CN
 t:List E3
 i:List xp
 g:List Ge
 s:List wo
noncomputable def uC{α β:Type}(f:α->Option β):List α->Option β
 |[]=>none
 |a::as=>match f a with
  |some b=>some b
  |none=>uC f as
def pv(R:o6):Nat->sj
 |0=>⟨λ_ _=>none,λ_ _=>none,λ_ _=>none,λ_ _ _=>none,λ_ _=>none,λ_ _=>none⟩
 |n+1 => ⟨λc x => uC (λr => r (pv R n) c x) R.e, λc x => uC (λr => r (pv R n) c x) R.l, λc x => uC (λr => r (pv R n) c x) R.t,
   λc tg x=>uC (λr=>r (pv R n) c tg x) R.i,λc x=>uC (λr=>r (pv R n) c x) R.g,λc x=>uC (λr=>r (pv R n) c x) R.s⟩
noncomputable def wh{α:Type}(C:Prop)[Decidable C](k:C->Option α):Option α:=if h:C then k h else none
section
variable{β:Type}
section
variable{α:Type}(e:List α)
noncomputable def v0(k:e=[]->Option β):Option β:=match e,k with
 |[],k=>k rfl
 |_,_=>none
noncomputable def vC(k:∀a as,e=a::as->Option β):Option β:=match e,k with
 |a::as,k=>k a as rfl
 |_,_=>none
def v1(k:∀a,e=[a]->Option β):Option β:=vC e λa as h=>v0 as λc=>k a (c ▸ h)
def v2(k:∀a b,e=[a,b]->Option β):Option β:=vC e λa as h=>v1 as λb c=>k a b (c ▸ h)
end
section
variable{α:Type}(e:Option α)
noncomputable def oN(k:e=none->Option β):Option β:=match e,k with
 |none,k=>k rfl
 |_,_=>none
noncomputable def oS(k:∀a,e=some a->Option β):Option β:=match e,k with
 |some a,k=>k a rfl
 |_,_=>none
end
section
variable(e:Expr)
noncomputable def zR(k:∀x p,e=.Name x p->Option β):Option β:=match e,k with
 | .Name x p,k=>k x p rfl
 |_,_=>none
noncomputable def HR(k:∀f as ks p,e=.Call f as ks p->Option β):Option β:=match e,k with
 | .Call f as ks p,k=>k f as ks p rfl
 |_,_=>none
noncomputable def Qp(k:∀o x p,e=.Attribute o x p->Option β):Option β:=match e,k with
 | .Attribute o x p,k=>k o x p rfl
 |_,_=>none
noncomputable def Bt(k:∀a b p,e=.Subscript a b p->Option β):Option β:=match e,k with
 | .Subscript a b p,k=>k a b p rfl
 |_,_=>none
noncomputable def OJ(k:∀v n p,e=.Constant v n p->Option β):Option β:=match e,k with
 | .Constant v n p,k=>k v n p rfl
 |_,_=>none
noncomputable def MY(k:∀a o b p,e=.BinOp a o b p->Option β):Option β:=match e,k with
 | .BinOp a o b p,k=>k a o b p rfl
 |_,_=>none
noncomputable def Ue(k:∀a os bs p,e=.Compare a os bs p->Option β):Option β:=match e,k with
 | .Compare a os bs p,k=>k a os bs p rfl
 |_,_=>none
noncomputable def Ob(k:∀o c p,e=.BoolOp o c p->Option β):Option β:=match e,k with
 | .BoolOp o c p,k=>k o c p rfl
 |_,_=>none
noncomputable def FG(k:∀o a p,e=.UnaryOp o a p->Option β):Option β:=match e,k with
 | .UnaryOp o a p,k=>k o a p rfl
 |_,_=>none
noncomputable def RW(k:∀t a b p,e=.IfExp t a b p->Option β):Option β:=match e,k with
 | .IfExp t a b p,k=>k t a b p rfl
 |_,_=>none
noncomputable def F_(k:∀c n p,e=.Tuple c n p->Option β):Option β:=match e,k with
 | .Tuple c n p,k=>k c n p rfl
 |_,_=>none
noncomputable def U6(k:∀c p,e=.List c p->Option β):Option β:=match e,k with
 | .List c p,k=>k c p rfl
 |_,_=>none
noncomputable def PL(k:∀ks c p,e=.Dict ks c p->Option β):Option β:=match e,k with
 | .Dict ks c p,k=>k ks c p rfl
 |_,_=>none
noncomputable def No(k:∀a b s p,e=.Slice a b s p->Option β):Option β:=match e,k with
 | .Slice a b s p,k=>k a b s p rfl
 |_,_=>none
noncomputable def U_(k:∀x c sc p,e=.ListComp x c sc p->Option β):Option β:=match e,k with
 | .ListComp x c sc p,k=>k x c sc p rfl
 |_,_=>none
def CD(k:∀x p as q,e=.Call (.Name x p) as [] q->Option β):Option β:=HR e λf as ks q h=>zR f λx p g=>v0 ks λc=>k x p as q (g ▸ c ▸ h)
def Cv(k:∀x p a q,e=.Call (.Name x p) [a] [] q->Option β):Option β:=CD e λx p as q h=>v1 as λa c=>k x p a q (c ▸ h)
def Ha(k:∀x p a b q,e=.Call (.Name x p) [a,b] [] q->Option β):Option β:=CD e λx p as q h=>v2 as λa b c=>k x p a b q (c ▸ h)
def P6(k:∀x p y r a q c,e=.Call (.Name x p) [.Call (.Name y r) [a] [] q] [] c->Option β):Option β:=Cv e λx p b c h=>Cv b λy r a q g=>k x p y r a q c (g ▸ h)
def vM(k:∀o x p as q,e=.Call (.Attribute o x p) as [] q->Option β):Option β:=HR e λf as ks q h=>Qp f λo x p g=>v0 ks λc=>k o x p as q (g ▸ c ▸ h)
def Oi(k:∀a o b p,e=.Compare a [o] [b] p->Option β):Option β:=Ue e λa os bs p h=>v1 os λo g=>v1 bs λb c=>k a o b p (g ▸ c ▸ h)
def EV(k:∀a lo c p q,e=.Subscript a (.Slice lo c none p) q->Option β):Option β:=Bt e λa b q h=>No b λlo c s p l=>oN s λg=>k a lo c p q (g ▸ l ▸ h)
end
section
variable(e:Stmt)
noncomputable def Td(k:∀c a p,e=.Assign c a p->Option β):Option β:=match e,k with
 | .Assign c a p,k=>k c a p rfl
 |_,_=>none
noncomputable def VB(k:∀t o a p,e=.AugAssign t o a p->Option β):Option β:=match e,k with
 | .AugAssign t o a p,k=>k t o a p rfl
 |_,_=>none
noncomputable def L4(k:∀o p,e=.Return o p->Option β):Option β:=match e,k with
 | .Return o p,k=>k o p rfl
 |_,_=>none
noncomputable def QC(k:∀a p,e=.Expr a p->Option β):Option β:=match e,k with
 | .Expr a p,k=>k a p rfl
 |_,_=>none
noncomputable def Rj(k:∀t a b p,e=.If t a b p->Option β):Option β:=match e,k with
 | .If t a b p,k=>k t a b p rfl
 |_,_=>none
noncomputable def WI(k:∀t a b p,e=.While t a b p->Option β):Option β:=match e,k with
 | .While t a b p,k=>k t a b p rfl
 |_,_=>none
noncomputable def Tb(k:∀t i a b p,e=.For t i a b p->Option β):Option β:=match e,k with
 | .For t i a b p,k=>k t i a b p rfl
 |_,_=>none
noncomputable def Uo(k:∀a b p,e=.Raise a b p->Option β):Option β:=match e,k with
 | .Raise a b p,k=>k a b p rfl
 |_,_=>none
def Gc(k:∀t a p,e=.Assign [t] a p->Option β):Option β:=Td e λc a p h=>v1 c λt g=>k t a p (g ▸ h)
end
end
abbrev Wa(c:RC)(h:List Expr):={r:CA // (∀{X:Cx},Good X c->SA X h r)/\h.all qX=true/\∀l st ds g,r l st=.ok ds g->ds.length=h.length}
def vD(q:sj)(c:RC):∀h:List Expr,Option (Wa c h)
 |[]=>some ⟨bu,λ_=>IB,rfl,Qe⟩
 |e::h=>wh (qX e=true) λl=>(q.e c e).bind λf=>(vD q c h).bind λr=>some ⟨ax f.1 r.1,λg=>Kh (f.2 g) (r.2.1 g) (qV l),by rw[cj,l,r.2.2.1];rfl,SU r.2.2.2⟩
abbrev Q9(c:RC)(e:Option Expr):={r:CO // ∀{X:Cx},Good X c->SO X e r}
def yP(q:sj)(c:RC):∀e:Option Expr,Option (Q9 c e)
 |none=>some ⟨tY,λ_=>S9⟩
 |some e=>(q.e c e).bind λf=>some ⟨pQ f.1,λg=>T6 (f.2 g)⟩
abbrev E7(c:RC)(g:List Stmt):={r:CS // ∀{X:Cx},Good X c->vO X g r}
def qO(q:sj)(c:RC):∀h:List Stmt,Option (E7 c h)
 |[]=>some ⟨ba,λ_=>V_⟩
 |s::h=>(q.s c s).bind λa=>(qO q c h).bind λb=>some ⟨aQ a.1 b.1,λg=>QG (a.2 g) (b.2 g)⟩
def Fu(c:RC)(x:Str):Option {i:Nat // c.N[i]?=some x/\(c.sc.names.lookup x=some .local\/c.sc.names.lookup x=some .cell\/c.sc.names.lookup x=some .free)/\sX x=true}:=wh _ λh=>some ⟨c.N.idxOf x,h⟩
theorem Mj{X:Cx}{c:RC}{x:Str}{i:Nat}{p:Pos}(g:Good X c)(h:c.N[i]?=some x/\(c.sc.names.lookup x=some .local\/c.sc.names.lookup x=some .cell\/c.sc.names.lookup x=some .free)/\sX x=true):SE X (.Name x p) (am i):=by
 obtain⟨o,l,q⟩:=h;rw[<- g.N]at o;rcases l with l|l|l
 ·exact JH g.S _ o l (zZ q) (.inl rfl)
 ·exact JH g.S _ o l (zZ q) (.inr (.inl rfl))
 ·exact JH g.S _ o l (zZ q) (.inr (.inr rfl))
def Kd:lj:=λ_ c e=>zR e λx _ h=>(Fu c x).bind λi=>some ⟨am i.1,λg=>h ▸ Mj g i.2⟩
def Hg{α:Type}(l:List (Str × α))(x:Str):Option {a:α // l.lookup x=some a}:=oS (l.lookup x) λa h=>some ⟨a,h⟩
noncomputable def DR:Const->Option D
 | .int i=>some (.int i)
 | .str i=>some (.str i)
 | .bool i=>some (.bl i)
 | .none=>some .non
 |_=>none
theorem TR{X:Cx}{v:Const}{n:Nat}{p:Pos}{d:D}(h:DR v=some d):SE X (.Constant v n p) (aN d):=by
 cases v<;>cases h
 ·exact Pf
 ·exact VS
 ·exact S3
 ·exact VY
def Rm{α:Type}(o:Option α):Option {a:α // o=some a}:=oS o λa h=>some ⟨a,h⟩
def HC:lj:=λ_ _ e=>OJ e λv _ _ h=>(Rm (DR v)).bind λd=>some ⟨aN d.1,λ_=>h ▸ TR d.2⟩
def ED:lj:=λq c e=>(q.l c e).bind λa=>some ⟨dZ a.1,λg=>RV (a.2 g)⟩
abbrev U4(op:rQ)(f:D->D->M D):Prop:=∀{X:Cx},X.A.units+60 < dk->OpR X (e_ op) (qv X.K f)
abbrev Ti(op:uL)(f:D->D->M D):Prop:=∀{X:Cx},X.A.units+60 < dk->OpR X (dB op) (qv X.K f)
def CQ(o:rQ)(f:D->D->M D)(h:U4 o f):lj:=λq c e=>MY e λa op b _ v=>wh (op=o) λz=>(q.e c a).bind λu=>(q.e c b).bind λl=>some ⟨c2 f u.1 l.1,λg=>v ▸ z ▸ PU (h g.hu) (u.2 g) (l.2 g)⟩
abbrev VA(c:RC)(x:Expr):={r:CE // ∀{X:Cx},Good X c->SE X x r/\ST X x (db r)}
abbrev uI:=sj->∀(c:RC)(x:Expr),Option (VA c x)
noncomputable def uI.e(r:uI):lj:=λq c x=>(r q c x).bind λf=>some ⟨f.1,λg=>(f.2 g).1⟩
def uI.t(r:uI):E3:=λq c x=>(r q c x).bind λf=>some ⟨db f.1,λg=>(f.2 g).2⟩
def t_(o:uL)(f:D->D->M D)(h:Ti o f):uI:=λq c e=>Oi e λa op b _ v=>wh (op=o/\CH b=true) λz=>(q.e c a).bind λu=>(q.e c b).bind λl=>some ⟨c2 f u.1 l.1,λg=>v ▸ z.1 ▸ ⟨XD (h g.hu) (u.2 g) (l.2 g) (GO z.2),Vw (h g.hu) (u.2 g) (l.2 g) (GO z.2)⟩⟩
def Bz:uI:=λq c e=>Oi e λa op b _ h=>wh (op=.In/\CH b=true) λz=>(q.l c b).bind λl=>(q.e c a).bind λo=>some ⟨pA A0 o.1 l.1,λg=>by subst h;obtain⟨rfl,z⟩:=z;exact⟨V9 (o.2 g) (l.2 g) (GO z),W5 (o.2 g) (l.2 g) (GO z)⟩⟩
def E4(q:sj)(c:RC)(p:Pos):∀o:List Expr,Option (Ei c (.BoolOp .And o p))
 |[a]=>(q.e c a).bind λh=>some ⟨h.1,λg=>Oy (h.2 g)⟩
 |a::b::r=>(q.e c a).bind λh=>(E4 q c p (b::r)).bind λl=>some ⟨tU h.1 l.1,λg=>Tq (h.2 g) (l.2 g)⟩
 |_=>none
def OL(q:sj)(c:RC)(p:Pos):∀o:List Expr,Option (Ei c (.BoolOp .Or o p))
 |[a]=>(q.e c a).bind λh=>some ⟨h.1,λg=>Oy (h.2 g)⟩
 |a::b::r=>(q.e c a).bind λh=>(OL q c p (b::r)).bind λl=>some ⟨Cs h.1 l.1,λg=>Sv (h.2 g) (l.2 g)⟩
 |_=>none
def IC:lj:=λq c e=>Ob e λo l p h=>match o,h with
 | .And,h=>(E4 q c p l).bind λf=>some ⟨f.1,λg=>h ▸ f.2 g⟩
 | .Or,h=>(OL q c p l).bind λf=>some ⟨f.1,λg=>h ▸ f.2 g⟩
def KL:lj:=λq c e=>FG e λo a _ h=>wh (o=.Not) λz=>(q.e c a).bind λl=>some ⟨wL l.1,λg=>h ▸ z ▸ VI (l.2 g)⟩
def Ht:lj:=λq c e=>FG e λo a _ h=>wh (o=.USub) λz=>(q.e c a).bind λl=>some ⟨c1 t9 l.1,λg=>h ▸ z ▸ UX Te (l.2 g)⟩
def JF:lj:=λq c e=>RW e λt a b _ h=>(q.t c t).bind λl=>(q.e c a).bind λu=>(q.e c b).bind λo=>some ⟨vJ l.1 u.1 o.1,λg=>h ▸ Pz (l.2 g) (u.2 g) (o.2 g)⟩
def HX:lj:=λq c e=>F_ e λo _ _ h=>(vD q c o).bind λl=>some ⟨dU l.1,λg=>h ▸ TD (l.2.1 g)⟩
def zc:lj:=λq c e=>EV e λa lo v _ p h=>wh (c.tag p 1=true) λ_=>(q.e c a).bind λu=>(yP q c lo).bind λl=>(yP q c v).bind λo=>some ⟨nB u.1 l.1 o.1,λg=>h ▸ Rn (u.2 g) (l.2 g) (o.2 g)⟩
def yE:lj:=λq c e=>Bt e λa b _ h=>wh (Gp b=true) λz=>(q.l c a).bind λo=>(q.e c b).bind λl=>some ⟨mE o.1 l.1,λg=>h ▸ U2 (o.2 g) (l.2 g) (EF z)⟩
def D3:lj:=λq c e=>Bt e λa b _ h=>wh (Gp b=true) λz=>(q.e c a).bind λo=>(q.e c b).bind λl=>some ⟨c2 aR o.1 l.1,λg=>h ▸ Pk g.hu (o.2 g) (l.2 g) (EF z)⟩
theorem PP{X:Cx}{p:Pos}:∀{b:Bool},SE X (.Dict [] [] p) (n6 b)
 |false=>WW
 |true=>WD
def Eg:lj:=λ_ c e=>PL e λks g p h=>v0 ks λo=>v0 g λl=>some ⟨n6 (c.tag p 2),λ_=>h ▸ o ▸ l ▸ PP⟩
def FI(x:String)(f:CE->CE)(h:∀{X:Cx}{o:Expr}{v:CE}{u l:Pos},SE X o v->eL o (aA x) X.env (eval o X.env)=eval o X.env->(u.endLine == l.line)=true->SE X (.Call (.Attribute o (aA x) u) [] [] l) (f v)):lj:=
 λq c e=>vM e λo y G as E C=>v0 as λB=>wh (y=aA x/\Ee o=true/\(G.endLine == E.line)=true) λz=>(q.e c o).bind λv=>some ⟨f v.1,λg=>by subst C B;exact z.1 ▸ h (v.2 g) (GD z.2.1) z.2.2⟩
noncomputable abbrev G1(X:Cx)(c:Pos)(g:List Expr):Prop:=((backTo c (starEach g X.env)).all (λx => !x.1)&&(uQ c (pG [] X.env)).all (λx=>x.1.isSome)&&decide (g.length+([]:List lY).length+(if ([]:List lY).isEmpty then 0 else 1) < 30))=true
theorem DQ{X:Cx}{c:Pos}{g:List Expr}(h:g.all qX=true)(l:g.length < 30):G1 X c g:=by unfold G1;rw[Mu h];exact (bh _ _).mpr ⟨rfl,bV l⟩
def Fp(x:String)(f:CE->CE->CE)(ok:RC->Pos->Bool) (h:∀{X:Cx}{o e:Expr}{B v:CE}{u l:Pos},X.A.units+60 < dk->SE X o B->SE X e v->eL o (aA x) X.env (eval o X.env)=eval o X.env->G1 X l [e]->(u.endLine == l.line)=true ->
  starEach [e] X.env=(false,eval e X.env)::starEach [] X.env->(backTo l (starEach [] X.env)).any (·.1)=false->SE X (.Call (.Attribute o (aA x) u) [e] [] l) (f B v)):lj:=
 λq c e=>vM e λo y L as E J=>v1 as λa I=>wh (y=aA x/\Ee o=true/\qX a=true/\ok c E=true/\(L.endLine == E.line)=true) λz=>(q.e c o).bind λB=>(q.e c a).bind λv=>some ⟨f B.1 v.1,λg=>by subst J I;obtain⟨rfl,H,C,_,G⟩:=z;exact h g.hu (B.2 g) (v.2 g) (GD H) (DQ (by rw[cj,C];rfl) (vx rfl)) G (qV C) rfl⟩
def ET(x:String)(f:CE->CE->CE->CE) (h:∀{X:Cx}{o H u:Expr}{G E C:CE}{v l:Pos},X.A.units+60 < dk->SE X o G->SE X H E->SE X u C->eL o (aA x) X.env (eval o X.env)=eval o X.env->G1 X l [H,u]->(v.endLine == l.line)=true ->
  starEach [H,u] X.env=(false,eval H X.env)::starEach [u] X.env->starEach [u] X.env=(false,eval u X.env)::starEach [] X.env->(backTo l (starEach [u] X.env)).any (·.1)=false->SE X (.Call (.Attribute o (aA x) v) [H,u] [] l) (f G E C)):lj:=
 λq c e=>vM e λo y Y as U Q=>v2 as λa b O=>wh (y=aA x/\Ee o=true/\qX a=true/\qX b=true/\(Y.endLine == U.line)=true) λz=>(q.e c o).bind λG=>(q.e c a).bind λE=>(q.e c b).bind λC=>some ⟨f G.1 E.1 C.1,λg=>by subst Q O;obtain⟨rfl,L,I,B,J⟩:=z;exact h g.hu (G.2 g) (E.2 g) (C.2 g) (GD L) (DQ (by rw[cj,I,cj,B];rfl) (vx rfl)) J (qV I) (qV B) (Br (by rw[cj,B];rfl))⟩
def D8:lj:=λq c e=>CD e λx _ as _ H=>vC as λa as G=>(Hg c.G x).bind λr=>wh (c.glo x=true/\sX x=true/\r.1.k<=c.k/\r.1.n=(a::as).length) λz=>(vD q c (a::as)).bind λh=>some ⟨bW r.1.g h.1,λg=>by subst H G;obtain⟨E,C,v,u⟩:=z;obtain⟨f,I,m,F,o,B,_⟩:=(g.G _ _ r.2).ex;obtain⟨x,y,l⟩:=h.2;rw[cj,bh]at y;exact Vy g.S (beq_iff_eq.mp E) F (g.hr.mono v) m o B (zZ C) (x g) (by rw[u];exact l) (qV y.1) (Br y.2)⟩
def RC.bl(c:RC)(x:Str):Bool:=c.glo x&&c.Z.contains x
theorem Good.gl{X:Cx}{c:RC}(g:Good X c){x:Str}(h:c.bl x=true):Gl X x/\X.mg x=none:=by unfold RC.bl at h;rw[bh]at h;exact⟨g.S.glo _ (beq_iff_eq.mp h.1),g.Z _ h.2⟩
def sU(x:String)(ok:RC->Pos->Bool)(f:List D->M D)(h:∀{X:Cx}{e:Expr}{u:CA}{p pos:Pos},X.calm=true->X.A.units+60 < dk->Gl X (aA x)->X.mg (aA x)=none->SL X e u->starEach [e] X.env=[(false,eval e X.env)]->SE X (.Call (.Name (aA x) p) [e] [] pos) (gY f u)):lj:=
 λq c e=>Cv e λy _ a p e=>wh (y=aA x/\c.bl y=true/\qX a=true/\ok c p=true) λz=>(q.l c a).bind λo=>some ⟨gY f o.1,λg=>by subst e;obtain⟨rfl,l,v,_⟩:=z;exact h g.S.calm g.hu (g.gl l).1 (g.gl l).2 (o.2 g) (qV v)⟩
def uB(x:String)(ok:RC->Pos->Bool)(f:D->M D)(h:∀{X:Cx}{e:Expr}{l:CE}{p pos:Pos},X.calm=true->X.A.units+60 < dk->Gl X (aA x)->X.mg (aA x)=none->SE X e l->starEach [e] X.env=[(false,eval e X.env)]->SE X (.Call (.Name (aA x) p) [e] [] pos) (c1 f l)):lj:=
 λq c e=>Cv e λy _ a p e=>wh (y=aA x/\c.bl y=true/\qX a=true/\ok c p=true) λz=>(q.e c a).bind λl=>some ⟨c1 f l.1,λg=>by subst e;obtain⟨rfl,o,u,_⟩:=z;exact h g.S.calm g.hu (g.gl o).1 (g.gl o).2 (l.2 g) (qV u)⟩
def Jn(x:String)(ok:RC->Pos->Bool)(f:D->D->M D) (h:∀{X:Cx}{a b:Expr}{u o:CE}{p pos:Pos},X.calm=true->X.A.units+60 < dk->Gl X (aA x)->X.mg (aA x)=none->SE X a u->SE X b o->starEach [a,b] X.env=(false,eval a X.env)::starEach [b] X.env->starEach [b] X.env=(false,eval b X.env)::starEach [] X.env ->
  (backTo pos (starEach [b] X.env)).any (·.1)=false->SE X (.Call (.Name (aA x) p) [a,b] [] pos) (c2 f u o)):lj:=
 λq c e=>Ha e λy _ a b p e=>wh (y=aA x/\c.bl y=true/\qX a=true/\qX b=true/\ok c p=true) λz=>(q.e c a).bind λu=>(q.e c b).bind λo=>some ⟨c2 f u.1 o.1,λg=>by subst e;obtain⟨rfl,v,B,l,_⟩:=z;exact h g.S.calm g.hu (g.gl v).1 (g.gl v).2 (u.2 g) (o.2 g) (qV B) (qV l) (Br (by rw[cj,l];rfl))⟩
def Ip(x y:String)(ok:RC->Pos->Bool)(f:D->M D)(h:∀{X:Cx}{e:Expr}{o:CE}{p E pos l:Pos},X.calm=true->X.A.units+60 < dk->Gl X (aA x)->X.mg (aA x)=none->Gl X (aA y)->X.mg (aA y)=none->SE X e o->starEach [e] X.env=[(false,eval e X.env)]->SE X (.Call (.Name (aA x) p) [.Call (.Name (aA y) E) [e] [] l] [] pos) (c1 f o)):lj:=
 λq c e=>P6 e λv _ u _ a _ p e=>wh (v=aA x/\u=aA y/\c.bl v=true/\c.bl u=true/\qX a=true/\ok c p=true) λz=>(q.e c a).bind λo=>some ⟨c1 f o.1,λg=>by subst e;obtain⟨rfl,rfl,C,B,G,_⟩:=z;exact h g.S.calm g.hu (g.gl C).1 (g.gl C).2 (g.gl B).1 (g.gl B).2 (o.2 g) (qV G)⟩
def Be(y:String)(T:su y)(h:cV (aA y)=some (.type y))(B:aA y≠aA "__name__")(v:(aA y == aA "__debug__")=false):lj:=
 λq c e=>Ha e λz _ a b _ G=>zR b λx _ E=>wh (z=aA "isinstance"/\x=aA y/\c.bl z=true/\c.bl x=true/\qX a=true) λz=>(q.e c a).bind λu=>some ⟨c1 (ie [y]) u.1,λg=>by subst G E;obtain⟨rfl,rfl,o,l,C⟩:=z;exact VE T (g.gl o).1 (g.gl o).2 (g.gl l).1 (g.gl l).2 h (u.2 g) (by nofun) B v (qV C) rfl rfl⟩
section
def Iu:CN:=λq c e=>U6 e λo _ h=>(vD q c o).bind λl=>some ⟨fU l.1,λg=>h ▸ Vq (l.2.1 g)⟩
def AQ:CN:=λq c e=>MY e λa o b _ h=>wh (o=.Mult) λz=>(q.l c a).bind λu=>(q.e c b).bind λl=>some ⟨qQ u.1 l.1,λg=>h ▸ z ▸ QK (u.2 g) (l.2 g)⟩
def Ea:CN:=λq c e=>Bt e λa b _ h=>No b λlo u s _ I=>oN lo λH=>oN u λG=>oS s λs E=>FG s λo s _ C=>OJ s λv _ _ B=>wh (o=.USub/\v=.int 1) λz=>(q.e c a).bind λl=>some ⟨tR l.1,λg=>by subst h I H G E C B;exact z.1 ▸ z.2 ▸ OS (l.2 g)⟩
def B_:CN:=λq c e=>EV e λa lo v _ p h=>wh (c.tag p 1=false) λ_=>(q.e c a).bind λu=>(yP q c lo).bind λl=>(yP q c v).bind λo=>some ⟨qT u.1 l.1 o.1,λg=>h ▸ QE (u.2 g) (l.2 g) (o.2 g)⟩
noncomputable def xT:Nat->Expr->List Str
 |_,.Name x _=>[x]
 |n+1,.Tuple es _ _=>es.flatMap (xT n)
 |_,_=>[]
abbrev D4(c:RC)(g:List Expr):={r:CT // ∀{X:Cx},Good X c->wI X g r}
def IW(q:sj)(c:RC):∀h:List Expr,Option (D4 c h)
 |[]=>some ⟨bR,λ_=>Pe⟩
 |[t]=>(q.t c t).bind λf=>some ⟨f.1,λg=>QF (f.2 g)⟩
 |_=>none
noncomputable def RC.inn(c:RC)(sc:dD)(own:List Str):RC:={ c with sc:=sc,N:=own++c.N.filter λx=>sc.names.lookup x == some .free,top:=false,T:=none }
noncomputable def RC.ix(c:RC)(sc:dD):List Nat:=(c.N.filter λx=>sc.names.lookup x == some .free).map c.N.idxOf
def RC.cok(c:RC)(sc:dD)(own:List Str)(b:Expr):Prop:=sV c.sc sc=true/\qS c.N sc (c.inn sc own).N own.length (c.ix sc)=true/\(c.inn sc own).N.Nodup/\CH b=true
instance(c:RC)(sc:dD)(own:List Str)(b:Expr):Decidable (c.cok sc own b):=by unfold RC.cok;infer_instance
theorem Good.inn{X:Cx}{c:RC}(g:Good X c){sc:dD}{own:List Str}{b:Expr}(h:c.cok sc own b)(fp:List aj)(s:ao)(H:Hp):Good (oG X (c.inn sc own).N sc fp s H) (c.inn sc own):=
 ⟨S5 g.S.calm,rfl,h.2.2.1,g.hr,λx r z=>⟨(g.G x r z).ex⟩,g.Z,g.C,kE,nofun,g.W,λ_ z=>nomatch z⟩
set_option genInjectivity false in
structure JA(c:RC)(e:Expr) where
 x:Expr
 tg:Expr
 b:Expr
 ifs:List Expr
 sc:dD
 p:Pos
 eq:e=.ListComp x [⟨tg,b,ifs,0⟩] sc p
 ok:c.cok sc (xT 8 tg).eraseDups b
 i:IM c tg b
 g:Kc (c.inn sc (xT 8 tg).eraseDups) tg
 t:D4 (c.inn sc (xT 8 tg).eraseDups) ifs
 f:Ei (c.inn sc (xT 8 tg).eraseDups) x
def JA.r{c:RC}{e:Expr}(m:JA c e):CA:=dF (xT 8 m.tg).eraseDups.length (c.ix m.sc) m.i.1 m.g.1 m.t.1 m.f.1
theorem QT{a:Comprehension}(h:a.is_async=0):a=⟨a.target,a.iter,a.ifs,0⟩:=by cases a;exact cC _ h
def Dn(q:sj)(c:RC)(e:Expr):Option (JA c e):=U_ e λx o sc p h=>v1 o λa l=>wh (a.is_async=0/\c.cok sc (xT 8 a.target).eraseDups a.iter) λz=>
 (q.i c a.target a.iter).bind λu=>(q.g (c.inn sc (xT 8 a.target).eraseDups) a.target).bind λg=>(IW q (c.inn sc (xT 8 a.target).eraseDups) a.ifs).bind λt=>(q.e (c.inn sc (xT 8 a.target).eraseDups) x).bind λf=>
  some ⟨x,a.target,a.iter,a.ifs,sc,p,by rw[h,l,<- QT z.1],z.2,u,g,t,f⟩
def DD:CN:=λq c e=>(Dn q c e).bind λm=>some ⟨m.r,λg=>by obtain⟨x,tg,b,o,sc,p,rfl,ok,h,mg,mt,l⟩:=m;exact UZ g.S.calm (LZ g.S ok.1) (Lq g.N ok.2.1) (h.2 g) (λfp s H=>⟨mg.2 (g.inn ok fp s H),mt.2 (g.inn ok fp s H),l.2 (g.inn ok fp s H)⟩) (JC ok.2.2.2)⟩
abbrev MF(c:RC)(o:BoolOp)(g:List Expr):={r:CT // ∀{X:Cx}{p:Pos},Good X c->PW X (.BoolOp o g p) (qh X.K r)}
def zT(q:sj)(c:RC):∀o:List Expr,Option (MF c .And o)
 |[]=>none
 |[a]=>(q.t c a).bind λh=>some ⟨h.1,λg=>PF (h.2 g)⟩
 |a::b::r=>(q.t c a).bind λh=>(zT q c (b::r)).bind λl=>some ⟨n0 h.1 l.1,λg=>Qy (h.2 g) (l.2 g)⟩
def Dp(q:sj)(c:RC):∀o:List Expr,Option (MF c .Or o)
 |[]=>none
 |[a]=>(q.t c a).bind λh=>some ⟨h.1,λg=>TZ (h.2 g)⟩
 |a::b::r=>(q.t c a).bind λh=>(Dp q c (b::r)).bind λl=>some ⟨rK h.1 l.1,λg=>UR (h.2 g) (l.2 g)⟩
def BP:E3:=λq c e=>Ob e λo l p h=>match o,h with
 | .And,h=>(zT q c l).bind λf=>some ⟨f.1,λg=>h ▸ L2.PW.pt (f.2 g)⟩
 | .Or,h=>(Dp q c l).bind λf=>some ⟨f.1,λg=>h ▸ L2.PW.pt (f.2 g)⟩
def A7:E3:=λq c e=>FG e λo a _ h=>wh (o=.Not) λz=>(q.t c a).bind λf=>some ⟨pM f.1,λg=>h ▸ z ▸ Vg (f.2 g)⟩
def QN:E3:=λq c e=>wh (Nq e=true) λz=>(q.e c e).bind λf=>some ⟨qW f.1,λg=>WF (f.2 g) (XA z)⟩
noncomputable def Hh:Expr->Bool
 | .Tuple .. => true
 |_=>false
noncomputable def WC(tg:Expr):Prop:=∃c n p,tg=.Tuple c n p
theorem Lf{tg:Expr}(h:Hh tg=true):WC tg:=by cases tg<;>first|exact⟨_,_,_,rfl⟩|exact nomatch h
def Op(t:Expr->Bool)(x:String)(ok:RC->Pos->Bool)(f:CE->CI)(h:∀{X:Cx}{tg e:Expr}{l:CE}{p pos:Pos},t tg=true->Gl X (aA x)->X.mg (aA x)=none->SE X e l->starEach [e] X.env=[(false,eval e X.env)]->SI X tg (.Call (.Name (aA x) p) [e] [] pos) (f l)):xp:=
 λq c tg e=>Cv e λy _ a p e=>wh (y=aA x/\c.bl y=true/\qX a=true/\t tg=true/\ok c p=true) λz=>(q.e c a).bind λl=>some ⟨f l.1,λg=>by subst e;obtain⟨rfl,o,v,u,_⟩:=z;exact h u (g.gl o).1 (g.gl o).2 (l.2 g) (qV v)⟩
def OC(t:Expr->Bool)(x:String)(ok:RC->Pos->Bool)(f:CE->CE->CI) (h:∀{X:Cx}{tg a b:Expr}{u o:CE}{p pos:Pos},t tg=true->Gl X (aA x)->X.mg (aA x)=none->SE X a u->SE X b o->starEach [a,b] X.env=(false,eval a X.env)::starEach [b] X.env->starEach [b] X.env=(false,eval b X.env)::starEach [] X.env ->
  starEach [a,b] X.env=[(false,eval a X.env),(false,eval b X.env)]->SI X tg (.Call (.Name (aA x) p) [a,b] [] pos) (f u o)):xp:=
 λq c tg e=>Ha e λy _ a b p e=>wh (y=aA x/\c.bl y=true/\qX a=true/\qX b=true/\t tg=true/\ok c p=true) λz=>(q.e c a).bind λu=>(q.e c b).bind λo=>some ⟨f u.1 o.1,λg=>by subst e;obtain⟨rfl,B,v,l,C,_⟩:=z;exact h C (g.gl B).1 (g.gl B).2 (u.2 g) (o.2 g) (qV v) (qV l) (by rw[qV v,qV l];rfl)⟩
noncomputable abbrev FJ:Expr->Bool:=λ_=>true
noncomputable abbrev k_:RC->Pos->Bool:=λ_ _=>true
def yZ:xp:=Op FJ "range" k_ MM.fT λ_ g m a s=>Vb g m a s
def zp:xp:=OC FJ "range" k_ MM.nh λ_ g m a b s t u=>Ux g m a b s t u t
def AI(t:Bool):xp:=OC Hh "zip" (λc p=>c.tag p 7 == t) tT λh g m a b s t u=>by obtain⟨_,_,_,rfl⟩:=Lf h;exact Vf g m a b s t u t
def Bi:xp:=Op Hh "enumerate" k_ tL λh g m a s=>by obtain⟨_,_,_,rfl⟩:=Lf h;exact Tu g m a s
def Er:xp:=λq c _ e=>(q.l c e).bind λf=>some ⟨wW f.1,λg=>Xd (f.2 g)⟩
def E9:xp:=λq c _ e=>(q.e c e).bind λf=>some ⟨ic f.1,λg=>Tk (f.2 g)⟩
noncomputable abbrev Od(c:RC)(x:Str)(i:Nat):Prop:=c.N[i]?=some x/\(c.sc.names.lookup x=some .local\/c.sc.names.lookup x=some .cell)
def KP(c:RC)(x:Str):Option {i:Nat // Od c x i}:=wh _ λh=>some ⟨c.N.idxOf x,h⟩
theorem IA{X:Cx}{c:RC}(g:Good X c){x:Str}{i:Nat}(h:Od c x i):X.N[i]?=some x/\∃k,c.sc.names.lookup x=some k/\(k=.local\/k=.cell):=by
 refine⟨by rw[g.N];exact h.1,?_⟩;rcases h.2 with l|l
 ·exact⟨_,l,.inl rfl⟩
 ·exact⟨_,l,.inr rfl⟩
def Wo:Ge:=λ_ c e=>zR e λx _ h=>(KP c x).bind λi=>some ⟨aS i.1,λg=>by obtain⟨q,k,o,l⟩:=IA g i.2;exact h ▸ Qt g.S _ g.nd q o l⟩
abbrev HQ(c:RC)(g:List Expr):={r:List D->Loc->M Loc // ∀{X:Cx},Good X c->BZ X g r/\(dI g X.env).length=g.length/\(dI g X.env).findIdx? (·.1)=none}
theorem QP{X:Cx}{e:Expr}{c:List Expr}{a:CG}{b:List D->Loc->M Loc}(g:qX e=true)(l:SG X e a)(h:BZ X c b/\(dI c X.env).length=c.length/\(dI c X.env).findIdx? (·.1)=none):BZ X (e::c) (cW a b)/\(dI (e::c) X.env).length=(e::c).length/\(dI (e::c) X.env).findIdx? (·.1)=none:=by
 obtain⟨q,o,d⟩:=h;have eq:dI (e::c) X.env=(false,ox e X.env)::dI c X.env:=by cases e<;>first|rfl|exact nomatch g
 refine⟨W7 l q (by rw[eq];rfl),by rw[eq];exact cC (· + 1) o,?_⟩;rw[eq,List.findIdx?_cons,d];rfl
def L7(q:sj)(c:RC):∀h:List Expr,Option (HQ c h)
 |[]=>some ⟨iD,λ_=>⟨PB,rfl,rfl⟩⟩
 |e::h=>wh (qX e=true) λl=>(q.g c e).bind λa=>(L7 q c h).bind λb=>some ⟨cW a.1 b.1,λg=>QP l (a.2 g) (b.2 g)⟩
def DO:Ge:=λq c e=>F_ e λl _ _ h=>(L7 q c l).bind λf=>some ⟨iq l.length f.1,λg=>h ▸ T1 g.S.calm (f.2 g).1 (f.2 g).2.1 (f.2 g).2.2⟩
def EH:Ge:=λq c e=>Bt e λo i _ h=>wh (Gp i=true) λz=>(q.e c o).bind λf=>(q.e c i).bind λk=>some ⟨gP f.1 k.1,λg=>h ▸ V7 g.hu (f.2 g) (k.2 g) (λv=>by cases i<;>first|rfl|exact nomatch z)⟩
def E_:wo:=λq c e=>L4 e λo _ h=>oS o λa l=>(q.e c a).bind λf=>some ⟨eV f.1,λg=>h ▸ l ▸ Sk (f.2 g)⟩
def Em:wo:=λq c e=>QC e λa _ h=>wh (Hl a=true) λz=>(q.e c a).bind λf=>some ⟨iF f.1,λg=>h ▸ S_ (f.2 g) (L_ z)⟩
def zv:wo:=λ_ _ e=>Uo e λ_ _ _ h=>some ⟨Aw,λ_=>h ▸ Q_⟩
def KN:wo:=λq c e=>Rj e λt a b _ h=>(q.t c t).bind λl=>(qO q c a).bind λu=>(qO q c b).bind λo=>some ⟨n8 l.1 u.1 o.1,λg=>h ▸ TX (l.2 g) (u.2 g) (o.2 g)⟩
def yX:wo:=λq c e=>WI e λt a b _ h=>v0 b λu=>(q.t c t).bind λl=>(qO q c a).bind λo=>some ⟨kW l.1 o.1,λg=>h ▸ u ▸ T2 g.ps (l.2 g) (o.2 g)⟩
def FF:wo:=λq c e=>Tb e λtg l a b _ h=>v0 b λB=>wh (CH l=true) λz=>(q.i c tg l).bind λo=>(q.g c tg).bind λu=>(qO q c a).bind λv=>some ⟨kC o.1 u.1 v.1,λg=>h ▸ B ▸ Ub g.ps g.S.calm (o.2 g) (u.2 g) (v.2 g) (JC z)⟩
def Im:wo:=λq c e=>Gc e λt a _ h=>zR t λx _ l=>wh (Hl a=true\/(c.top=true/\c.sc.names.lookup x=some .cell)) λz=>(KP c x).bind λi=>(q.e c a).bind λf=>some ⟨b_ (aS i.1) f.1,λ{X}g=>by
 subst h l;obtain⟨l,k,C,B⟩:=IA g i.2;refine TQ g.S _ g.nd l C (f.2 g) B ?_;rcases z with u|⟨o,v⟩
 ·exact L_ u
 ·have e:(X.env.kindOf x == some dE.local)=false:=by rw[(g.kd o).2 x,v];rfl
  cases a<;>first|rfl|(unfold kt;simp only[e,Bool.and_false,sD])⟩
theorem Q7{X:Cx}{c:RC}(g:Good X c){e:Expr}{v:List Comprehension}{sc:dD}{p h:Pos}{y:Str}{n:Nat}(l:c.top=true)(q:c.sc.names.lookup y=some .local)(o:(h.line == p.line)=true)(u:(sc.names.any λz=>z.1 == y&&(z.2 == .local||z.2 == .cell))=false):
  kt (.ListComp e v sc p) (some (.Name y h)) n X.env=pure true:=by
 have C:(X.env.kindOf y == some dE.local)=true:=by rw[(g.kd l).2 y,q];rfl
 have B:(X.env.blockKind == uf)=true:=by rw[(g.kd l).1];rfl
 show (pure (X.env.blockKind == uf&&X.env.kindOf y == some dE.local&&h.line == p.line && !(sc.names.any λz=>z.1 == y&&(z.2 == .local||z.2 == .cell))):Sem Bool)=pure true;rw[C,B,o,u];rfl
def Cb:wo:=λq c s=>Gc s λt a _ h=>zR t λy v l=>(Dn q c a).bind λm=>wh (c.top=true/\c.sc.names.lookup y=some .local/\(v.line == m.p.line)=true/\(m.sc.names.any λz=>z.1 == y&&(z.2 == .local||z.2 == .cell))=false) λz=>(KP c y).bind λi=>some ⟨b_ (aS i.1) (dZ m.r),λg=>by subst h l;obtain⟨l,k,u,o⟩:=IA g i.2;obtain⟨x,tg,b,E,sc,p,rfl,ok,B,mg,mt,C⟩:=m;exact Qq g.nd l (g.S.loc _ _ u o).1 (g.S.loc _ _ u o).2 g.S.calm (LZ g.S ok.1) (Lq g.N ok.2.1) (B.2 g) (λfp s H=>⟨mg.2 (g.inn ok fp s H),mt.2 (g.inn ok fp s H),C.2 (g.inn ok fp s H)⟩) (Q7 g z.1 z.2.1 z.2.2.1 z.2.2.2) (JC ok.2.2.2)⟩
def DW:wo:=λq c s=>Gc s λt a _ h=>Bt t λo i p l=>(q.e c a).bind λf=>(q.g c (.Subscript o i p)).bind λk=>some ⟨b_ k.1 f.1,λg=>by subst h l;exact L6 (f.2 g) (k.2 g) (by cases a<;>rfl) (by cases a<;>rfl) rfl⟩
noncomputable def XS:Expr->Bool
 | .Tuple _ _ _=>false
 |_=>true
def DP:wo:=λq c s=>Gc s λt a _ h=>F_ t λo n p l=>wh (XS a=true) λz=>(q.e c a).bind λf=>(q.g c (.Tuple o n p)).bind λk=>some ⟨b_ k.1 f.1,λg=>by subst h l;exact L6 (f.2 g) (k.2 g) (by cases a<;>rfl) (by cases a<;>first|rfl|exact nomatch z) rfl⟩
section
variable{P:Program}{w:bN}{K:ah}{mg:Str->Option af}{base:bK}
variable(P w K mg base) in
def dh(l:List (Str×RF)):Prop:=∀x r,l.lookup x=some r->GF P w K mg base x r
theorem Uk:dh P w K mg base []:=λ_ _ h=>nomatch h
theorem Gq{l:List (Str×RF)}{x:Str}{r:RF}{f:aj}{c:cY}(m:mg x=some (.ref f))(F:lW P w K mg base rm r.k f c r.ps (mr K r.n r.g))(g:cS K (.ref f)=true)(b:Binds K c r.ps [])(o:r.kw=true->EO K c r.ps)(h:dh P w K mg base l):
  dh P w K mg base ((x,r)::l):=λy s z=>by
 by_cases e:y=x
 ·subst e;rw[uY]at z;cases z;exact⟨f,c,m,F,g,b,o⟩
 ·rw[vN e]at z;exact h y s z
def Ih(K:ah)(mg:Str->Option af)(base:bK)(x:Str)(f:aj)(g:cY):Prop:=∃c P,fP K cD x=some (some (.ref f))/\g.code=.ref c/\eR K c P=true/\BMod base mg
theorem LW(R:o6)(j:Nat){x:Str}{h:Stmt}{f:aj}{l:cY}{N o:List Str}{k n m:Nat}{g:CS}{G:List (Str×RF)}{Z:List Str}{C:List (Str×D)}{H:List (Nat×Nat×Nat)}{W:WT}{T:Option (Nat×Str)}(F:xN K x x h f l)(S:mB N o (bB h))(hn:o.length=n)(hm:N.length=m)
  (hG:dh P w K mg base G) (hZ:∀x,Z.contains x=true->mg x=none) (hC:∀x d,C.lookup x=some d->∃v u,mg x=some u/\RelV v u/\∀ρ H,du K ρ H v d)
  (hb:(qO (pv R j) ⟨bB h,N,k,G,Z,C,H,true,W,T⟩ (dm h)).map (·.1)=some g) (hW:zV P w K mg base W) (hT:∀t,T=some t->t.2=x/\Ih K mg base x f l):lW P w K mg base rm (k+1) f l o (mr K n (b8 m g)):=
 have ⟨v,_,e⟩:=dH.mp hb
 ME F S hn hm λcdv A outer s Hp E q hr=>e ▸ v.2 ⟨G_,rfl,S.nd,hr,hG,hZ,hC,kE,λ_=>⟨by show (if (bB h).kind.isAnnotationScope=true then _ else (bB h).kind)=_;rw[S.kind];rfl,λ_=>rfl⟩,hW,λt z=>by obtain⟨J,c,P,Q,B,O,L⟩:=hT t z;obtain⟨oc,od,kV,doc,pm,an,I,ct,U,e1,Y,_⟩:=F.ex;rw[J];exact⟨f,_,l,c,P,Q,Y,rfl,B,O,by rw[<- B,q];rfl,rfl,L⟩⟩
end
end
section
variable{K:ah}{mg:Str->Option af}
noncomputable def xY(mg:Str->Option af)(Z:List Str):Prop:=∀x,Z.contains x=true->mg x=none
theorem FL:xY mg []:=λ_ h=>nomatch h
theorem iR{a:Str}{l:List Str}(h:mg a=none)(t:xY mg l):xY mg (a::l):=λx z=>by
 rw[List.contains_cons,kT]at z;rcases z with z|z
 ·rw[beq_iff_eq.mp z];exact h
 ·exact t x z
def zU(K:ah)(mg:Str->Option af)(C:List (Str×D)):Prop:=∀x d,C.lookup x=some d->∃v u,mg x=some u/\RelV v u/\∀ρ H,du K ρ H v d
theorem Fc:zU K mg []:=λ_ _ h=>nomatch h
end
section
theorem ui{x:Str}(h:sX x=true):x≠"__name__":=(zZ h).n
def EN:lj:=sU "max" k_ mz λc _ g m a s=>NW (Jo c) g m (by nofun) a (ui (by nofun)) (by nofun) s
def Eo:lj:=sU "all" k_ vE λc _ g m a s=>NW (QM c) g m (by nofun) a (ui (by nofun)) (by nofun) s
def Et:lj:=sU "tuple" k_ kA λ_ _ g m a s=>Qf V6 g m (by nofun) a (ui (by nofun)) (by nofun) s
def zr:lj:=uB "sorted" k_ o_ λ_ _ g m a s=>KS UB g m (by nofun) a (ui (by nofun)) (by nofun) s
def HI:lj:=uB "len" k_ gD λ_ _ g m a s=>KS SQ g m (by nofun) a (ui (by nofun)) (by nofun) s
def HE:lj:=uB "int" k_ intD λ_ _ g m a s=>Gy Sl g m (by nofun) a (ui (by nofun)) (by nofun) s
def AA:lj:=uB "tuple" k_ tupleD λ_ _ g m a s=>Gy Ui g m (by nofun) a (ui (by nofun)) (by nofun) s
def DK:lj:=uB "list" k_ ub λ_ _ g m a s=>Gy RM g m (by nofun) a (ui (by nofun)) (by nofun) s
def Bm:lj:=uB "list" (λc p=>c.tag p 5) pz λc _ g m a s=>Gy (Xq c) g m (by nofun) a (ui (by nofun)) (by nofun) s
def ER:lj:=Jn "min" k_ ve λc _ g m a b o l h=>VQ (Vs c) g m (by nofun) a b (ui (by nofun)) (by nofun) o l h
def zk:lj:=Be "int" Pg (by nofun) (ui (by nofun)) (by nofun)
def xg:lj:=Be "bool" SH (by nofun) (ui (by nofun)) (by nofun)
def vV:lj:=Be "tuple" QV (by nofun) (ui (by nofun)) (by nofun)
def yS:lj:=Fp "append" dJ k_ λ_ o a b f l s p=>SV o a b f l s p
def KA:lj:=FI "pop" uF λo b l=>Xy o b l
def zm:lj:=ET "setdefault" oW λu o a b bs f l g c p=>TU u o a b bs f l g c p
def Fy:xp:=λq c _ e=>wh (c.tag e.pos 6=true) λ_=>(q.e c e).bind λf=>some ⟨vU f.1,λg=>Tc (f.2 g)⟩
end
section
def xi:lj:=Ip "list" "range" k_ o8 λc _ g m l h a s=>Qh c g m l h a s rfl
end
section
variable{P:Program}{w:bN}{K:ah}{mg:Str->Option af}{base:bK}
noncomputable def FnAt(K:ah)(mg:Str->Option af)(x:Str)(c:Stmt):Prop:=∃a g,xN K x x c a g/\mg x=some (.ref a)
theorem gZ{h:bK}{x:Str}{g:Stmt}{f:aj}{v E:Option aj}{q:Array (Option af)}{B kV C u o ct:af}(X:K.In h)(G:h.Ns cD mg)(a:fP K cD x=some (some (.ref f)))
  (l:K.lookup f=some ⟨B,v,.func (cK x x (fI g) (dm g) (bB g) .none kV C u E o ct),q⟩) (c:fX K o x=true) (k:cS K (.ref f)=true):FnAt K mg x g:=
 ⟨f,_,LV (st:=g) l c k,rY X G a⟩
noncomputable def uv(N P:List Str)(sc:dD):Bool:=(sc.kind == .function)&&(sc.isCoroutine == false)&&(sc.isGenerator == false)&&decide N.Nodup&&(N.take P.length == P)&&(P.all λx=>sc.names.lookup x == some .local||sc.names.lookup x == some .cell)&&(sc.names.all λy=>y.2 != .free)
theorem Gz{N P:List Str}{sc:dD}(h:uv N P sc=true):mB N P sc:=by unfold uv at h;simp only[bh,beq_iff_eq,decide_eq_true_eq,dW,kT,bne_iff_ne,ne_eq]at h;obtain⟨⟨⟨⟨⟨⟨v,u⟩,q⟩,o⟩,l⟩,g⟩,c⟩:=h;exact⟨v,u,q,o,l,g,c⟩
theorem M9(R:o6){r:List Str}{x:Str}{h:Stmt}{f:aj}{l:cY}{g:List Str}{k n m:Nat}{c:CS}{G:List (Str×RF)}{Z:List Str}{C:List (Str×D)}{H:List (Nat×Nat×Nat)}(F:xN K x x h f l)(S:uv (g++r) g (bB h)=true)
  (u:(qO (pv R 40) ⟨bB h,g++r,k,G,Z,C,H,true,([],[]),none⟩ (dm h)).map (·.1)=some c) (B:dh P w K mg base G) (v:xY mg Z) (E:zU K mg C) (o:g.length=n) (q:(g++r).length=m):lW P w K mg base rm (k+1) f l g (mr K n (b8 m c)):=
 LW R 40 F (Gz S) o q B v E u ⟨(λ_ _ z=>nomatch z),(λ_ _ z=>nomatch z)⟩ λ_ z=>nomatch z
theorem n5(R:o6){r:List Str}{x:Str}{l:Stmt}{c:List Str}{k n m:Nat}{B:Bool}{o:CS}{G:List (Str×RF)}{Z:List Str}{C:List (Str×D)}{H:List (Nat×Nat×Nat)}(F:FnAt K mg x l)(S:uv (c++r) c (bB l)=true)
  (b:∀(kV g q:af)(u:Option aj)(h ct:af)(v:List af),v.length=c.length->lE (cK x x (fI l) (dm l) (bB l) .none kV g q u h ct) { pos:=v }=pure (c.zip v))
  (L:B=true->∀(kV g q:af)(u:Option aj)(h ct:af)(s:ao)(ws:List af),ws.length=c.length->rR s (cK x x (fI l) (dm l) (bB l) .none kV g q u h ct) ⟨[],c.zip ws⟩ (c.zip ws))
  (hb:(qO (pv R 40) ⟨bB l,c++r,k,G,Z,C,H,true,([],[]),none⟩ (dm l)).map (·.1)=some o) (I:dh P w K mg base G) (hZ:xY mg Z) (hC:zU K mg C) (Q:c.length=n:=by rfl) (U:(c++r).length=m:=by rfl) (O:B=true->¬ c.getLast?=some (aA "most"):=by first|exact λz=>nomatch z|exact λ_=>by decide):dh P w K mg base ((x,⟨n,k+1,c,B,b8 m o⟩)::G):=by
 obtain⟨f,fd,F,E⟩:=F;refine Gq E (M9 R F S hb I hZ hC Q U) F.kp (F.binds b) (λz=>?_) I;obtain⟨oc,od,kV,g,q,u,h,ct,J,e,lk,hcd⟩:=F.ex;unfold EO;rw[aB (O z)];intro s ws Y;rw[e];exact L z kV g q u h ct s ws Y
end
section
def El:lj:=uB "max" k_ (uz mz) λc _ g m a s=>KS (Ly (Jo c)) g m (by nofun) a (ui (by nofun)) (by nofun) s
end
end MM
namespace PySem.SeqAt
open AutoSeq1 (wpAny_loadPart')
open MeetsSeq MeetsSeq2 MeetsSeq3 SeqRoads2
end PySem.SeqAt
namespace MM
open PySem PySem.Spec PyProof.Rows L2
noncomputable def A6(prog:Program)(w:bN)(A:bH)(op:uL)(P:Nat->af->Prop)(Kp:bK->Prop)(c:Nat->Nat->Bool):Prop:=
 ∀i j vi vj(s:ao)(Q:af->ao->Prop)(E:af->ao->Prop),Kp s.heap->P i vi->P j vj->Q (.bool (c i j)) s->aJ (bb prog w) A (richCompare op vi vj) Q E s
section
variable{X:Cx}{ar:List (aj×Obj)}{σ:St}{s:ao}{a:aj}{K:ah}{ρ:List aj}{H:Hp}{st:aX}
theorem VX{n:Nat}{g:List (D×D)}{k d:D}{y v:V}{u Y:af}{Q:Unit->ao->Prop}{E:af->ao->Prop}{A:bH}(hu:A.units+2 < dk)(I:Inv X ar σ H s)(sr:SR X.K ρ H st)(ha:ρ[n]?=some a)(hn:st[n]?=some (.dct true g))
  (U:du X.K ρ H y k) (hk:pk true k=true) (hl:g.length < sizeLine) (rv:du X.K ρ H v d) (ry:RelV y u) (rr:RelV v Y)
  (h:∀J L,Inv X ar σ J L->SR X.K ρ J (st.set n (.dct true (lN g k d)))->Ex ρ H ρ J->Q () L):aJ (bb X.prog X.w) A (Dc a u Y) Q E s:=by
 have B:=(ac.mp hn).1;obtain⟨C,e,r⟩:=sr.ob n a _ ha hn;obtain⟨k,rfl⟩:=EX hk;obtain⟨_,hd,xs,O,dd,de⟩:=yw I e r;obtain⟨c,e2,e3,hc⟩:=C0 I U ry;subst e2 e3;have up:Up ρ H ρ (fJ H a (iH a (putN C k c v))):=by
  refine⟨⟨[],by simp⟩,λc o no q=>?_,λc o q=>?_⟩
  ·rw[fZ λz=>by subst z;rw[e]at q;cases q;exact nomatch no];exact q
  ·by_cases z:c=a
   ·subst z;rw[e]at q;cases q;exact⟨_,ky,rfl⟩
   ·exact⟨o,by rw[fZ z];exact q,rfl⟩
 have w:=sr.putO (o':=.dct true (lN g (r8 k) d)) (u':=iH a (putN C k c v)) B ha e (by show (2:Nat)≠3;decide) rfl ⟨_,ky,(NR.put r k c U rv).up up⟩;have hz:xs.length<=sizeLine:=by rw[<- di O,NR.length r];ext
 refine M4 (knd:=AG X) (show A.units+1 < dk by ext) hc dd de hz λh' l G hs=>h _ _ ?_ w.1 w.2;have he:∃q,h'.get? a=some q:=let ⟨q,_,_,hq,_⟩:=l;⟨q,hq⟩
 refine FK I (by rw[e];exact eX) hs he (E5 ?_ hd (NX.put O k c rr) l G);have:=Hu C k c v;rw[NR.length r]at this;ext
end
section
def BX:lj:=λq c e=>CD e λx p as _ h=>vC as λa as v=>(Fu c x).bind λi=>wh ((c.W.1.all λr=>decide (r.2.k<=c.k))=true/\(c.W.2.all λr=>decide (r.2.k<=c.k))=true) λz=>(vD q c (a::as)).bind λu=>some ⟨pB c.W (am i.1) u.1,λg=>by subst h v;obtain⟨x,y,l⟩:=u.2;rw[cj,bh]at y;exact UW (λe r o=>⟨g.W.1 e r o,g.hr.mono (of_decide_eq_true (dW.mp z.1 _ o))⟩) (λe r o=>⟨g.W.2 e r o,g.hr.mono (of_decide_eq_true (dW.mp z.2 _ o))⟩) (Mj g i.2) (x g) (qV y.1) (Br y.2)⟩
end
section
variable{P:Program}{w:bN}{K:ah}{mg:Str->Option af}{base:bK}
theorem HK:zV P w K mg base ([],[]):=⟨(λ_ _ z=>nomatch z),(λ_ _ z=>nomatch z)⟩
theorem Rg{c:kz}{r:RK}{W:WT}(h:sf P w K mg base r.k r.n c r.g)(t:zV P w K mg base W):zV P w K mg base (W.1,(c,r)::W.2):=⟨t.1,λl g z=>by
 rcases bn.mp z with z|z
 ·cases z;exact h
 ·exact t.2 l g z⟩
theorem QB(R:o6){r:List Str}{x:Str}{h:Stmt}{c:List Str}{k n m:Nat}{g:CS}{G:List (Str×RF)}{Z:List Str}{C:List (Str×D)}{H:List (Nat×Nat×Nat)}{W:WT}(F:FnAt K mg x h)(S:uv (c++r) c (bB h)=true)
  (b:∀(kV q B:af)(U:Option aj)(u ct:af)(l:List af),l.length=c.length->lE (cK x x (fI h) (dm h) (bB h) .none kV q B U u ct) { pos:=l }=pure (c.zip l))
  (J:(qO (pv R 40) ⟨bB h,c++r,k,G,Z,C,H,true,W,none⟩ (dm h)).map (·.1)=some g) (v:dh P w K mg base G) (L:xY mg Z) (Q:zU K mg C) (O:zV P w K mg base W) (E:c.length=n:=by rfl) (I:(c++r).length=m:=by rfl):dh P w K mg base ((x,⟨n,k+1,c,false,b8 m g⟩)::G):=by
 obtain⟨f,Y,F,o⟩:=F;exact Gq o (LW R 40 F (Gz S) E I v L Q J O λ_ z=>nomatch z) F.kp (F.binds b) nofun v
noncomputable def wU(K:ah)(mg:Str->Option af)(x:Str)(h:Stmt):Prop:=∃a g c P,xN K x x h a g/\mg x=some (.ref a)/\fP K cD x=some (some (.ref a))/\g.code=.ref c/\eR K c P=true
end
theorem Dk{K:ah}{mg:Str->Option af}{h:bK}{x:Str}{g:Stmt}{f c P:aj}{u H:Option aj}{o:Array (Option af)}{v kV E q ct:af}(X:K.In h)(G:h.Ns cD mg)(a:fP K cD x=some (some (.ref f)))
  (l:K.lookup f=some ⟨v,u,.func (cK x x (fI g) (dm g) (bB g) .none kV E q H (.ref c) ct),o⟩) (C:fX K (.ref c) x=true) (k:cS K (.ref f)=true) (B:eR K c P=true):wU K mg x g:=
 ⟨f,_,c,P,LV (st:=g) l C k,rY X G a,a,rfl,B⟩
theorem AJ{K:ah}{x:Str}{f c P:aj}{v:af}{u:Option aj}{o:cY}{q:Array (Option af)}(g:fP K cD x=some (some (.ref f)))(l:K.lookup f=some ⟨v,u,.func o,q⟩)(B:o.code=.ref c)(h:eR K c P=true)(n:K.lookup P=none):TabOf K x P/\K.lookup P=none:=
 ⟨⟨f,_,o,c,g,l,rfl,B,h⟩,n⟩
theorem Pn{P:Program}{w:bN}{K:ah}{mg mb:Str->Option af}{k:Nat}{fa a:aj}{fd:cY}{x:Str}{g:List D->M D}{s₁:ao}{O:List af}{Y:List Int}{C:List (aj×Str×Str)}
  (KX:K.In s₁.heap) (hns:s₁.heap.Ns cD mg) (J:s₁.heap.Ns mG mb) (hbb:∀x:Str,x≠"__name__"->mb x=cV x) (hlim:s₁.heap.NoLimit) (hg:s₁.gens=#[]) (hB:BMod s₁.heap mg)
  (hnd:(C.map (·.1)).Nodup) (I:∀p∈C,s₁.heap.get? p.1=some (d7 #[])/\TabOf K p.2.1 p.1/\K.lookup p.1=none)
  (ha:s₁.heap.get? a=some { cls:=.type "list",data:=.seq O.toArray }) (hi:lx O Y) (hl:Y.length<=sizeLine) (hr:ig k lA)
  (F:∀base:bK,BMod base mg->lW P w K mg base rm k fa fd [x] (mr K 1 g)) (hbind:∀(s:ao)(u:af),rR s fd ⟨[u],[]⟩ [(x,u)])
  (hsp:∃st',g [.lit (Y.map D.int)] (C.map λp=>.tbl p.2.1 p.2.2)=.ok (.bl true) st'):
  ke (bb P w) lA (.call (.ref fa) ⟨[.ref a],[]⟩) (λr G=>r=.ok (.ret (.bool true))/\OldK s₁.heap G.heap/\G.os=s₁.os/\lm G.gens) s₁:=by
 have rv:=Hv hi;have lenV:=hi.length;have nT:∀b∈C.map (·.1),s₁.heap.get? b=some (d7 #[])/\K.lookup b=none:=λb J=>by obtain⟨p,hp,rfl⟩:=cz.mp J;exact⟨(I p hp).1,(I p hp).2.2⟩
 have naT:a∉C.map (·.1):=λz=>by have:=(nT a z).1;rw[ha]at this;cases this
 have L : ∀S : Option HO, (S = none \/ ∃o, S = some (.frz o (.lst (Y.map V.int))) /\ o = { cls := .type "list", data := .seq O.toArray }) -> (S ≠ none -> K.lookup a = none) -> ∀H : Hp, (H = λb => if b = a then S else if b ∈ C.map (·.1) then some (.tbl #[]) else none) -> xS K H a (Y.map V.int) ->
   ke (bb P w) lA (.call (.ref fa) ⟨[.ref a],[]⟩) (λr G=>r=.ok (.ret (.bool true))/\OldK s₁.heap G.heap/\G.os=s₁.os/\lm G.gens) s₁:=by
  intro S hS hK H eH fz;have eA:H a=S:=by rw[eH];exact aD rfl
  have eT:∀b∈C.map (·.1),H b=some (.tbl #[]):=λb J=>by
   rw[eH]
   show (if b=a then S else if b∈C.map (·.1) then some (.tbl #[]) else none)=_;have nz:¬ b=a:=λz=>naT (z ▸ J);rw[aB nz,aD J]
  have eN:∀b,b≠a->b∉C.map (·.1)->H b=none:=λb E B=>by
   rw[eH]
   show (if b=a then S else if b∈C.map (·.1) then some (.tbl #[]) else none)=_;rw[aB E,aB B]
  have hok:mJ P w H s₁.heap:=λb u e=>by
   by_cases E:b=a
   ·subst E;rw[eA]at e;rcases hS with z|⟨o,z,zo⟩
    ·rw[z]at e;cases e
    ·rw[z]at e;cases e;subst zo;exact⟨ha,by rw[ae];exact hl,O,_,rv,ha⟩
   ·by_cases B:b∈C.map (·.1)
    ·rw[eT b B]at e;cases e;exact (nT b B).1
    ·rw[eN b E B]at e;cases e
  have no:∀{b:aj}{o:Obj},s₁.heap.get? b=some o->o≠{ cls:=.type "list",data:=.seq O.toArray }->o≠d7 #[]->H b=none:=λ{b o}e n1 n2=>eN b (λz=>by subst z;rw[ha]at e;exact n1 (aG e).symm) λz=>by have:=(nT b z).1;rw[e]at this;exact n2 (aG this)
  have noD:∀{b:aj}{o:Obj}{es:Array iJ}{ep:Nat},s₁.heap.get? b=some o->o.data=.dict es ep->H b=none:=λe d=>no e (λz=>by subst z;cases d) λz=>by subst z;cases d
  have l:∀{b:aj}{o:Obj},s₁.heap.get? b=some o->H b=none->(om s₁.heap H).get? b=some o:=λe n=>Ow e n;have U:∀{b:aj}{m:Str->Option af},s₁.heap.Ns b m->(om s₁.heap H).Ns b m:=λ{b m}Q=>by obtain⟨o,es,ep,e,d,r⟩:=Q;exact⟨o,es,ep,l e (noD e d),d,r⟩
  have hKb:K.In (om s₁.heap H):=λb o e=>l (KX b o e) (by
   by_cases E:b=a
   ·subst E;rw[eA];rcases hS with z|⟨o',z,_⟩
    ·exact z
    ·rw[hK (by rw[z];simp)]at e;cases e
   ·exact eN b E λB=>by rw[(nT b B).2]at e;cases e)
  have hM:Mod K mg (om s₁.heap H):=⟨hKb,U hns,⟨mb,U J,hbb⟩,let ⟨mc,E,B⟩:=hlim;⟨mc,U E,B⟩⟩
  have hBb:BMod (om s₁.heap H) mg:=by obtain⟨bm,ob,E,B,h3,h4,h5,h6⟩:=hB;exact⟨bm,ob,E,B,l h3 (no h3 (λz=>by subst z;cases h6) λz=>by subst z;cases h6),h4,h5,h6⟩
  have e0:qF P w K mg (om s₁.heap H) lA [] s₁ H:=⟨rfl,hM,λb o e=>Na e,FR (Lj _ _),trivial,λb J=>bq (show b∈([]:List aj) from J) (by simp),hok,.of_eq hg⟩
  have sr:SR K (C.map (·.1)) H (C.map λp=>.tbl p.2.1 p.2.2):=⟨by simp,hnd,λn b o e1 e2=>by
   rw[ak]at e1 e2;cases e:C[n]? with
   |none=>rw[e]at e1;cases e1
   |some p=>
    rw[e]at e1 e2;cases e1;cases e2;have hp:=az e;exact⟨(I p hp).2.1,#[],eT _ (iw hp),trivial,λ_ _ z=>by cases z⟩⟩
  obtain⟨st',est⟩:=hsp;have sp:mr K 1 g [.ref a] H (λv _=>v=.bl true) E0:=⟨rfl,_,_,_,sr,.cons (.lit fz (MU Y)) .nil,by rw[est];intro ρ' H' _ _ v rv;cases rv;rfl⟩
  refine kI ((F _ hBb).run lA [] s₁ H ⟨[.ref a],[]⟩ [.ref a] [.ref a] _ _ hr e0 (hbind s₁ (.ref a)) (.cons rfl .nil) sp) λr G h=>?_;cases r with
  |error e=>exact h.elim
  |ok fl=>
   cases fl with
   |next=>exact cT h
   |brk=>exact cT h
   |cont=>exact cT h
   |ret u=>
    obtain⟨v,H',os,bare,un,hok',r',q⟩:=h;have q':v=.bl true:=q;subst q';obtain rfl:u=dq true:=r';have all:∀b o,s₁.heap.get? b=some o->G.heap.get? b=some o\/(b∈C.map (·.1)/\o=d7 #[]/\∃more,G.heap.get? b=some (d7 more)):=λb o e=>by
     by_cases E:b=a
     ·subst E;rcases hS with z|⟨o',z,zo⟩
      ·exact .inl (un.keep b o e (eA.trans z) (by intro z;exact bq (show b∈([]:List aj) from z) (by simp)) (by simp))
      ·have z2:=un.frzs b o' _ (eA.trans z);obtain⟨e2,_⟩:=hok' b _ z2;rw[ha]at e;cases e;subst zo;exact .inl e2
     ·by_cases B:b∈C.map (·.1)
      ·obtain⟨more,z2⟩:=un.tbls b #[] (eT b B);have:=(nT b B).1;rw[e]at this;exact .inr ⟨B,aG this,_,hok' b _ z2⟩
      ·exact .inl (un.keep b o e (eN b E B) (by intro z;exact bq (show b∈([]:List aj) from z) (by simp)) (by simp))
    refine⟨rfl,⟨λb o e=>?_,λb o e=>?_⟩,os,bare⟩
    ·rcases all b o e with z|⟨B,rfl,more,z⟩
     ·exact .inl z
     ·obtain⟨p,hp,rfl⟩:=cz.mp B;obtain⟨l,o',h,c,_,_,_,_,g⟩:=(I p hp).2.1;exact .inr (.inl ⟨((uq KX g).tab e).isCodeTable,rfl,#[],more,rfl,by rw[z];simp⟩)
    ·rcases all b o e with z|⟨_,_,more,z⟩
     ·exact⟨_,z⟩
     ·exact⟨_,z⟩
 cases hk:K.lookup a with
 |some o=>
  have e:=KX a o hk;rw[ha]at e;cases e;exact L none (.inl rfl) (λz=>bq rfl z) _ rfl (.inr ⟨_,O.toArray,_,hk,rfl,rfl,rfl,by rw[aH,lenV];exact hl,by simpa using rv⟩)
 |none=>exact L (some (.frz { cls:=.type "list",data:=.seq O.toArray } (.lst (Y.map V.int)))) (.inr ⟨_,rfl,rfl⟩) (λ_=>hk) _ rfl (.inl ⟨_,aD rfl⟩)
theorem QA{l:wG}{n k:Nat}{q:Program}{v:List Str}{XP:(Str->Option af)->bK->Prop}{YP:bN->bK->Prop}{d:DefRec}{K:Params->ah}{g:List D->M D}{x:Str}(E:List (aj×Str×Str))
  (hn:l.most=some n) (U:n<=sizeLine) (hdf:d.params.defaults=[]) (hr:ig k lA) (hY:∀(w:bN)(h:bK),YP w h->(K w.params).In h/\∀P∈E.map (·.1),h.get? P=some (d7 #[])) (Q:(E.map (·.1)).Nodup)
  (L:∀(w:bN),∀p∈E,TabOf (K w.params) p.2.1 p.1/\(K w.params).lookup p.1=none)
  (F:∀(w:bN)(mg:Str->Option af)(I:aj)(h:bK),(K w.params).In h->h.Ns cD mg->mg d.name=some (.ref I)->∃fd:cY,(∀(s:ao)(u:af),rR s fd ⟨[u],[]⟩ [(x,u)])/\∀base:bK,BMod base mg->lW l.prog w (K w.params) mg base rm k I fd [x] (mr (K w.params) 1 g))
  (O:∀H:List Int,H.length<=n->∃J,g [.lit (H.map D.int)] (E.map λp=>.tbl p.2.1 p.2.2)=.ok (.bl true) J):yt q v XP YP l.row.toRowW d [] (λf vs=>v9 f vs):=by
 refine Att.tJ hn hdf λw s₀ s₁ mg mb I o pm cd doc a vs H G Y ho hd hcd hmg C B c hg=>?_;obtain⟨KX,KT⟩:=hY w _ Y;obtain⟨fd,hb,hF⟩:=F w mg I _ KX G.T.g hmg;obtain⟨bm,ob,b1,b2,b3,b4,b5,b6⟩:=G.T.bmain;exact Pn KX G.T.g G.T.b G.T.builtins G.T.nolimit hg ⟨bm,ob,b1,b2,b3,b4,b5,b6⟩ Q (λp hp=>⟨KT _ (iw hp),L w p hp⟩) C B (bZ c U) hr hF hb (O H c)
noncomputable def Av(N c fr:List Str)(sc:dD):Bool:=(sc.kind == .function)&&(sc.isCoroutine == false)&&(sc.isGenerator == false)&&decide N.Nodup&&(N.take (c++fr).length == c++fr)&&(c.all λx=>sc.names.lookup x == some .local||sc.names.lookup x == some .cell)&&(fr.all λx=>sc.names.lookup x == some .free)&&(sc.names.all λy=>y.2 != .free||fr.contains y.1)&&(sc.names.all λy=>y.2 != .cell || !fr.contains y.1)
theorem RJ{N g fr:List Str}{sc:dD}(h:Av N g fr sc=true):qE N g fr sc:=by
 unfold Av at h;simp only[bh,beq_iff_eq,decide_eq_true_eq,dW,kT,bne_iff_ne,ne_eq]at h;obtain⟨⟨⟨⟨⟨⟨⟨⟨H,G⟩,E⟩,C⟩,B⟩,v⟩,u⟩,o⟩,l⟩:=h;refine⟨H,G,E,C,B,v,u,λx c=>?_,λx c z=>?_⟩
 ·rcases o _ c with q|q
  ·exact bq rfl q
  ·simpa using q
 ·rcases l _ z with q|q
  ·exact bq rfl q
  ·simp at q;exact q c
noncomputable def IJ(s:Stmt):Bool:=match s with
 | .FunctionDef .. => true
 |_=>false
noncomputable def defName(s:Stmt):Str:=match s with
 | .FunctionDef x .. => x
 |_=>""
section
variable{P:Program}{w:bN}{K:ah}{mg:Str->Option af}{base:bK}
theorem R6(R:o6){r nm fr:List Str}{st:Stmt}{k n m:Nat}{f:CS}{G:List (Str×RF)}{Z:List Str}{C:List (Str×D)}{H:List (Nat×Nat×Nat)}{W:WT}(E:IJ st=true)(S:Av (nm++fr++r) nm fr (bB st)=true)(g:nM (bB st).names=fr)
  (I:∀(q:Str)(cl:List (Str×aj))(dc pm c ct:af)(us:List af),us.length=nm.length->lE (pY (defName st) q (fI st) (dm st) (bB st) cl .none .none dc pm none c ct) ⟨us,[]⟩=pure (nm.zip us))
  (B:(qO (pv R 40) ⟨bB st,nm++fr++r,k,G,Z,C,H,true,W,none⟩ (dm st)).map (·.1)=some f) (O:dh P w K mg base G) (J:xY mg Z) (Q:zU K mg C) (L:zV P w K mg base W) (o:nm.length=n:=by rfl) (u:(nm++fr++r).length=m:=by rfl):
  sf P w K mg base (k+1) n (.dfn st) (b8 m f):=by
 have h:=RJ S;obtain⟨v,_,U⟩:=dH.mp B;cases st with
 |FunctionDef x a b d rt tp s ts bd p=>exact Sj h u o g I λq a' c cl A outer Y Hp l=>U ▸ v.2 ⟨WM,rfl,h.nd,l,O,J,Q,kE,λ_=>⟨by show (if s.kind.isAnnotationScope=true then _ else s.kind)=_;rw[show s.kind=_ from h.kind];rfl,λ_=>rfl⟩,L,λ_ z=>nomatch z⟩
 |_=>cases E
end
theorem E1{env:Env}:∀{l:List Arg},l.all (λa=>a.annotation.isNone)=true->annotationsOf l env=[]
 |[],_=>rfl
 |⟨n,none,p⟩::l,h=>by rw[cj,bh]at h;exact E1 (l:=l) h.2
 |⟨n,some a,p⟩::l,h=>by rw[cj,bh]at h;cases h.1
noncomputable def w9(a:nR):Bool:=a.posonlyargs.isEmpty&&a.vararg.isNone&&a.kwonlyargs.isEmpty&&a.kwarg.isNone&&a.defaults.isEmpty&&a.kw_defaults.isEmpty&&a.args.all λx=>x.annotation.isNone
theorem Wx{a:nR}{env:Env}(h:w9 a=true):a.defaults=[]/\a.kw_defaults=[]/\annTrees a none env=[]:=by
 obtain⟨G,E,g,H,I,c,d⟩:=a;unfold w9 at h;simp only[bh]at h;obtain⟨⟨⟨⟨⟨⟨C,B⟩,v⟩,u⟩,q⟩,o⟩,l⟩:=h;obtain rfl:=mP.mp C;obtain rfl:=mP.mp v;obtain rfl:=mP.mp q;obtain rfl:=mP.mp o;cases g with
 |some _=>cases B
 |none=>
  cases c with
  |some _=>cases u
  |none=>
   refine⟨rfl,rfl,?_⟩
   show annotationsOf (E++[]++[]++[]++[]) env++[]=[]
   rw[br,br,br,br,br];exact E1 l
section
noncomputable def TL{β:Type}(s:Stmt)(k:∀w a b sc p,s=.FunctionDef w a b [] none [] sc none w p->Option β):Option β:=match s,k with
 | .FunctionDef w a b [] none [] sc none w' p,k=>if h:w'=w then k w a b sc p (h ▸ rfl) else none
 |_,_=>none
abbrev Tp(c:RC)(i:Nat)(h:List Expr):={r:CA // (∀{X:Cx},Good X c->PA X h (CB X.K r (xh i)))/\h.all qX=true/\∀l st ds g,r l st=.ok ds g->ds.length+1=h.length}
def Do(q:sj)(c:RC)(i:Nat):∀v:List Expr,Option (Tp c i v)
 |[]=>none
 |[e] => zR e λx p h => wh ((c.N[i]? = some x /\ (c.sc.names.lookup x = some .local \/ c.sc.names.lookup x = some .cell \/ c.sc.names.lookup x = some .free)) /\ sX x = true) λz => some ⟨bu, λg => by
   subst h;have C:=zZ z.2;refine XM (Nm (by rw[g.N];exact z.1.1) ?_ C.d C.c);rcases z.1.2 with h|h|h
   ·exact g.S.vis _ _ h (.inl rfl)
   ·exact g.S.vis _ _ h (.inr (.inl rfl))
   ·exact g.S.vis _ _ h (.inr (.inr rfl)),by subst h;rfl,λl st ds u e=>by cases e;rfl⟩
 |e :: v => wh (qX e = true) λE => (q.e c e).bind λf => (Do q c i v).bind λr => some ⟨ax f.1 r.1, λg => OO (f.2 g) (r.2.1 g) (qV E), by rw [cj, E, r.2.2.1]; rfl, λl st ds u e => by
   unfold ax bnd at e;cases B:f.1 l st with
   |bad=>rw[B]at e;cases e
   |exc _ _=>rw[B]at e;cases e
   |ok d eh=>
    rw[B]at e;dsimp only at e;cases o:r.1 l eh with
    |bad=>rw[o]at e;cases e
    |exc _ _=>rw[o]at e;cases e
    |ok ds1 st2=>
     rw[o]at e;cases e;rw[bC,bC,r.2.2.2 l eh ds1 _ o]⟩
def AY(c:RC)(names:List (Str×dE)):Bool:=decide (nM names).Nodup&&((nM names).all λx=>c.N[c.N.idxOf x]? == some x)&&names.all λy=>y.2 != .free||c.sc.names.lookup y.1 == some .cell
theorem T_{X:Cx}{c:RC}{names:List (Str×dE)}(g:Good X c)(C:c.top=true)(h:AY c names=true):sT X names ((nM names).map c.N.idxOf):=by
 unfold AY at h;simp only[bh,decide_eq_true_eq,dW,kT,bne_iff_ne,ne_eq,beq_iff_eq]at h;obtain⟨⟨H,G⟩,E⟩:=h;refine⟨λx B=>?_,H,?_⟩
 ·rcases E _ B with z|z
  ·exact bq rfl z
  ·have u:X.env.kindOf x=some .cell:=((g.kd C).2 x).trans z;refine⟨.inl u,?_⟩;rcases (g.S.loc x .cell z (.inr rfl)).2 with q|q
   ·exact q
   ·have:X.env.kindOf x=some .local:=q;rw[u]at this;cases this
 ·have : ∀(l : List Str), (∀x ∈ l, c.N[c.N.idxOf x]? = some x) -> eQ (λ(x : Str)i => X.N[i]? = some x) l (l.map c.N.idxOf) := by
    intro l
    induction l with
    |nil=>exact λ_=>.nil
    |cons x l ih=>exact λo=>.cons (by rw[g.N];exact o x (.head _)) (ih λy v=>o y (.tail _ v))
  exact this _ G
def JL(q:sj)(c:RC)(I:List Stmt):Option (E7 c I):=
 v2 I λs1 s2 h=>TL s1 λw J u sc dp H=>L4 s2 λo rp G=>oS o λe E=>Cv e λQ bp e3 U C=>CD e3 λx p as pos h5=>vC as λa v h6=>oS c.T λt h7=>(Hg c.G x).bind λr=>
  wh ((Q=aA "max"/\c.bl Q=true)/\(c.glo x=true/\sX x=true/\r.1.k<=c.k/\r.1.n=(a::v).length)/\(c.top=true/\c.N[c.N.idxOf w]?=some w/\c.sc.names.lookup w=some .local)/\w9 J=true/\AY c sc.names=true) λz=>
   (Do q c (c.N.idxOf w) (a::v)).bind λO=>some ⟨eV (c1 (uz mz) (oq t.1 t.2 w r.1.g (.dfn (.FunctionDef w J u [] none [] sc none w dp)) ((nM sc.names).map c.N.idxOf) (c.N.idxOf w) O.1)),λg=>by subst h H G E C h5 h6;obtain⟨⟨rfl,Y⟩,⟨H,G,E,C⟩,⟨L,k2,k3⟩,ap,dw⟩:=z;obtain⟨f,fd,m,F,kp,B,_⟩:=(g.G _ _ r.2).ex;obtain⟨x',y,l⟩:=O.2;rw[cj,bh]at y;obtain⟨a1,a2,a3⟩:=Wx (env:=_) ap;exact Uv (g.T t h7) g.nd (by rw[g.N];exact k2) (((g.kd L).2 _).trans k3) a1 a2 a3 (T_ g L dw) F (g.hr.mono E) (g.S.glo _ (beq_iff_eq.mp H)) m kp B (x' g) (by rw[C];exact l) (Ly (Jo g.S.calm)) (g.gl Y).1 (g.gl Y).2 (by nofun) (ui (by nofun)) (by nofun) (zZ G).d (qV y.1) (Br y.2)⟩
end
section
variable{P:Program}{w:bN}{K:ah}{mg:Str->Option af}{base:bK}
theorem RQ(R:o6){r:List Str}{x:Str}{g:Stmt}{h:List Str}{j k n m:Nat}{l:CS}{G:List (Str×RF)}{Z:List Str}{C:List (Str×D)}{H:List (Nat×Nat×Nat)}(F:wU K mg x g)(S:uv (h++r) h (bB g)=true)
  (b:∀(kV o L:af)(Y:Option aj)(q ct:af)(u:List af),u.length=h.length->lE (cK x x (fI g) (dm g) (bB g) .none kV o L Y q ct) { pos:=u }=pure (h.zip u))
  (hb:(JL (pv R 40) ⟨bB g,h++r,k,G,Z,C,H,true,([],[]),some (j,x)⟩ (dm g)).map (·.1)=some l) (O:dh P w K mg base G) (hZ:xY mg Z) (hC:zU K mg C) (hB:BMod base mg) (hn:h.length=n:=by rfl) (hm:(h++r).length=m:=by rfl):dh P w K mg base ((x,⟨n,k+1,h,false,b8 m l⟩)::G):=by
 obtain⟨f,fd,c,P',F,B,h1,Q,h3⟩:=F;have J:=Gz S;have ⟨v,_,e⟩:=dH.mp hb;refine Gq B (ME F J hn hm λq A outer s Hp E I hr=>e ▸ v.2 ⟨G_,rfl,J.nd,hr,O,hZ,hC,kE,λ_=>⟨by show (if (bB g).kind.isAnnotationScope=true then _ else (bB g).kind)=_;rw[J.kind];rfl,λ_=>rfl⟩,HK,λt z=>?_⟩) F.kp (F.binds b) nofun O;cases z;obtain⟨oc,od,kV,o,L,Y,U,ct,osl,e1,lk,_⟩:=F.ex;exact⟨f,_,fd,c,P',h1,lk,rfl,Q,h3,by rw[<- Q,I];rfl,rfl,hB⟩
end
end MM
namespace MM
open PySem
abbrev At{α:Type}(_:α->aX->Prop):Type:=aX
inductive wp{α:Type}(m:M α)(Q:α->aX->Prop)(s:At Q):Prop
 |intro (a:α) (s':aX) (h:m s=.ok a s') (q:Q a s'):wp m Q s
theorem rJ{α:Type}{m:M α}{Q:α->aX->Prop}{s:aX}:wp m Q s=(match m s with
 | .ok a s'=>Q a s'
 |_=>False):=by
 apply propext;constructor
 ·rintro ⟨a,s',h,q⟩;rw[h];exact q
 ·intro h;cases e:m s with
  |ok a s'=>rw[e]at h;exact⟨a,s',e,h⟩
  |exc _ _=>rw[e]at h;exact h.elim
  |bad=>rw[e]at h;exact h.elim
section
variable{α β:Type}{Q:α->aX->Prop}{s:aX}
theorem dg{m:M α}{a:α}{c:aX}(h:m s=.ok a c):wp m Q s=Q a c:=by rw[rJ,h]
theorem u8{m:M α}(h:m s=.bad):wp m Q s=False:=by rw[rJ,h]
theorem nj{m:M β}{Q c:β->aX->Prop}{s:aX}(h:∀a g,Q a g=c a g):wp m Q s=wp m c s:=by rw[show Q=c from funext λa=>funext λt=>h a t]
theorem cR{a:α}:wp (ret a) Q s=Q a s:=dg rfl
theorem iy:wp (bad:M α) Q s=False:=u8 rfl
theorem d0{m:M β}{f:β->M α}:wp (bnd m f) Q s=wp m (λa c=>wp (f a) Q c) s:=by simp only[rJ];unfold bnd;cases m s<;>rfl
theorem eY{c:Prop}[Decidable c]{m:M α}:wp (chk c m) Q s=(c/\wp m Q s):=by
 unfold chk;by_cases h:c
 ·simp[h]
 ·simp[h,iy]
theorem gO{o:MO}{Q:D->aX->Prop}:wp (alloc o) Q s=Q (.ref s.length) (s++[o]):=dg rfl
theorem fk{n:Nat}{ds:List D}{Q:List D->aX->Prop}(h:s[n]?=some (.lst ds)):wp (getL n) Q s=Q ds s:=by rw[rJ];unfold getL;rw[h]
theorem nN{n:Nat}{ds c:List D}{Q:Unit->aX->Prop}(h:s[n]?=some (.lst ds)):wp (putL n c) Q s=Q () (s.set n (.lst c)):=by rw[rJ];unfold putL;rw[h]
theorem vK{m:M α}{g:α->aX->Prop}(h:wp m Q s)(f:∀a c,Q a c->g a c):wp m g s:=by
 simp only[rJ]at *;cases e:m s with
 |ok a c=>rw[e]at h;exact f a c h
 |exc _ _=>rw[e]at h;exact h
 |bad=>rw[e]at h;exact h
theorem F4{c:Prop}[Decidable c]{m n:M α}:wp (if c then m else n) Q s=if c then wp m Q s else wp n Q s:=by split<;>rfl
end
theorem Dt{ds:List D}{i:Int}{d:D}(c:0<=i)(h:ds[i.toNat]?=some d):cJ ds i=ret d:=by have g:i.toNat < ds.length:=(ac.mp h).1;unfold cJ MM.mC;rw[aD c,aD (by ext)];dsimp only;rw[h]
theorem wX{n:Nat}{b:CS}{ds:List D}{Q:D->aX->Prop}{s:aX}:wp (b8 n b ds) Q s=wp (b (ds.map some++aP (n-ds.length) none)) (λf c=>wp (wY f) Q c) s:=by unfold b8;rw[d0]
theorem Ss{g:CG}{b:CS}{same:aX->Prop}{Q:sk->aX->Prop}(W:List D->Loc->aX->Prop)
  (u:∀l s,W [] l s->wp (chkS same) (λ_ C=>Q (.next l) C) s)
  (o:∀d ds l s,W (d::ds) l s->wp (chkS same) (λ_ B=>wp (g d l) (λE v=>wp (b E) (λf c=>match f with
   | .next l2=>W ds l2 c
   | .cnt l2=>W ds l2 c
   | .brk l2=>Q (.next l2) c
   | .ret d=>Q (.ret d) c) v) B) s):∀ds l s,W ds l s->wp (nQ g b same ds l) Q s:=by
 intro ds
 induction ds with
 |nil=>
  intro l s h;unfold nQ;rw[d0];exact vK (u l s h) λ_ C q=>by rw[cR];exact q
 |cons d ds ih=>
  intro l s h;unfold nQ;rw[d0];refine vK (o d ds l s h) λ_ B q=>?_;rw[d0];refine vK q λE v q=>?_;rw[d0];refine vK q λf c q=>?_;cases f with
  |next l2=>exact ih l2 c q
  |cnt l2=>exact ih l2 c q
  |brk l2=>show wp (ret _) _ _;rw[cR];exact q
  |ret d=>show wp (ret _) _ _;rw[cR];exact q
theorem Ko{g:CG}{t:CT}{e:CE}{same:aX->Prop}{Q:List D->aX->Prop}(W:List D->List D->Loc->aX->Prop)
  (B:∀c l s,W c [] l s->wp (chkS same) (λ_ C=>Q c C) s)
  (u:∀c d ds l s,W c (d::ds) l s->wp (chkS same) (λ_ H=>wp (g d l) (λo G=>wp (t o) (λb v=>if b=true then wp (e o) (λx E=>W (c++[x]) ds o E) v else W c ds o v) G) H) s):
  ∀ds c l s,W c ds l s->wp (collect g t e same ds l) (λxs C=>Q (c++xs) C) s:=by
 intro ds
 induction ds with
 |nil=>
  intro c l s h;unfold collect;rw[d0];exact vK (B c l s h) λ_ C q=>by rw[cR,br];exact q
 |cons d ds ih=>
  intro c l s h;unfold collect;rw[d0];refine vK (u c d ds l s h) λ_ H q=>?_;rw[d0];refine vK q λo G q=>?_;rw[d0];refine vK q λb v q=>?_;cases b with
  |false=>exact ih c o v q
  |true=>
   show wp (bnd (e o) _) _ v;rw[d0];refine vK q λx E q=>?_;rw[d0];refine vK (ih (c++[x]) o E q) λxs I q=>?_;rw[cR];rw[bF]at q;exact q
theorem GW{e:CE}{xs:List D}{same:aX->Prop}{caps:Loc}{s:aX}{Q:List D->aX->Prop}(W:Nat->List D->aX->Prop)(E:∀i c s,W i c s->same s)(H:W 0 [] s)
  (g:∀(i:Nat)d c s,xs[i]?=some d->W i c s->wp (e (some d::caps)) (λx C=>W (i+1) (c++[x]) C) s) (u:∀c s,W xs.length c s->Q c s):
  wp (collect (aS 0) bR e same xs (none::caps)) Q s:=by
 have chk:∀{s:aX}{R:Unit->aX->Prop},same s->R () s->wp (chkS same) R s:=λh r=>by rw[rJ];unfold chkS;rw[aD h];exact r
 refine Ko (Q:=Q) (λc ds l s=>∃i B,ds=xs.drop i/\i<=xs.length/\l=B::caps/\W i c s) (λc l s ⟨i,B,v,G,_,w⟩=>?_) (λc d ds l s ⟨i,B,v,G,el,w⟩=>?_) xs [] _ s ⟨0,none,by simp,bY _,rfl,H⟩
 ·have : i = xs.length := by have:=cC dP v;simp at this;ext
  subst this;exact chk (E _ _ _ w) (u c s w)
 ·subst el;have o:i < xs.length:=by have:=cC dP v;simp at this;ext
  rw[dM o]at v;obtain⟨J,I⟩:=lG v;refine chk (E _ _ _ w) ?_
  show wp (ret _) _ s;rw[cR]
  show wp (ret true) _ s;rw[cR]
  show wp (e (some d::caps)) _ s;exact vK (g i d c s (by rw[J];exact ai o) w) λx C q=>⟨i+1,some d,I,o,rfl,q⟩
theorem Sx{n i:Nat}(h:i < n):(kY 0 n)[i]?=some (.int i):=by unfold kY;rw[ak,gp h];simp
theorem g8{n:Nat}(h:n<=1000):n<=fv:=bZ h (by decide)
theorem qp{n:Nat}(h:n<=1000):n < fv:=xH h (by decide)
theorem LC{g:CG}{b:CS}{same:aX->Prop}{xs:List D}{l:Loc}{s:aX}{Q:sk->aX->Prop}(W:Nat->Loc->aX->Prop)(G:∀i l s,W i l s->same s)(J:W 0 l s)
  (o:∀(i:Nat)d l s,xs[i]?=some d->W i l s->wp (g d l) (λE C=>wp (b E) (λf u=>match f with
   | .next l2=>W (i+1) l2 u
   | .cnt l2=>W (i+1) l2 u
   | .brk l2=>Q (.next l2) u
   | .ret d=>Q (.ret d) u) C) s) (v:∀l s,W xs.length l s->Q (.next l) s):wp (nQ g b same xs l) Q s:=by
 have chk:∀{s:aX}{R:Unit->aX->Prop},same s->R () s->wp (chkS same) R s:=λh r=>by rw[rJ];unfold chkS;rw[aD h];exact r
 refine Ss (λds l s=>∃i,ds=xs.drop i/\i<=xs.length/\W i l s) (λl s ⟨i,B,I,w⟩=>?_) (λd ds l s ⟨i,B,I,w⟩=>?_) xs l s ⟨0,by simp,bY _,J⟩
 ·have : i = xs.length := by have:=cC dP B;simp at this;ext
  subst this;exact chk (G _ _ _ w) (v l s w)
 ·have c : i < xs.length := by have:=cC dP B;simp at this;ext
  rw[dM c]at B;obtain⟨L,H⟩:=lG B;refine chk (G _ _ _ w) ?_;refine vK (o i d l s (by rw[L];exact ai c) w) λE C q=>vK q λf u q=>?_;cases f with
  |next l2=>exact⟨i+1,H,c,q⟩
  |cnt l2=>exact⟨i+1,H,c,q⟩
  |brk l2=>exact q
  |ret d=>exact q
end MM
local macro_rules|`(tactic| bv_omega)=>`(tactic| first|rfl|exact MM.dg rfl|exact MM.u8 rfl)
local macro_rules|`(tactic| ac_rfl)=>`(tactic| first|rfl|simp only[MM.cR,MM.gO,MM.iy]|(refine MM.nj λ_ _=>?_;simp only[MM.cR,MM.gO,MM.iy]))
namespace MM
open PySem
theorem nr{α:Sort u}{a b:α}(h:a=b):a=b:=h
section
variable{Q:D->aX->Prop}{R:sk->aX->Prop}{T:Bool->aX->Prop}{A:List D->aX->Prop}{G:Loc->aX->Prop}{I:Wk->aX->Prop}{s:aX}{l:Loc}
theorem qL{a b:CS}: wp (aQ a b l) R s=wp (a l) (λf c=>match f with
  | .next l'=>wp (b l') R c
  | .ret d=>R (.ret d) c
  | .brk l'=>R (.brk l') c
  | .cnt l'=>R (.cnt l') c) s:=by
 unfold aQ;rw[d0];congr 1;funext f c;cases f<;>first|bv_omega
theorem BC:wp (ba l) R s=R (.next l) s:=dg rfl
theorem wK{g:CG}{a:CE}:wp (b_ g a l) R s=wp (a l) (λd h=>wp (g d l) (λo c=>R (.next o) c) h) s:=by unfold b_;rw[d0];congr 1;funext d h;rw[d0];ac_rfl
theorem E6{a:CE}:wp (eV a l) R s=wp (a l) (λd c=>R (.ret d) c) s:=by unfold eV;rw[d0];ac_rfl
theorem DM{a:CE}:wp (iF a l) R s=wp (a l) (λd c=>R (.next l) c) s:=by unfold iF;rw[d0];ac_rfl
theorem FC{t:CT}{a b:CS}:wp (n8 t a b l) R s=wp (t l) (λc g=>if c=true then wp (a l) R g else wp (b l) R g) s:=by unfold n8;rw[d0];congr 1;funext c g;rw[F4]
theorem Ae{a:CE}: wp (db a l) T s=wp (a l) (λx c=>match x with
  | .bl b=>T b c
  |_=>False) s:=by
 unfold db;rw[d0];congr 1;funext x c;cases x<;>first|bv_omega
theorem Fv{a:CE}:wp (qW a l) T s=wp (a l) (λx c=>wp (y0 x) T c) s:=by unfold qW;rw[d0]
theorem FM{a:CT}:wp (pM a l) T s=wp (a l) (λx c=>T (!x) c) s:=by unfold pM;rw[d0];ac_rfl
theorem Ft{a b:CT}:wp (n0 a b l) T s=wp (a l) (λc g=>if c=true then wp (b l) T g else T false g) s:=by unfold n0;rw[d0];congr 1;funext c g;rw[F4];ac_rfl
theorem HB{a b:CT}:wp (rK a b l) T s=wp (a l) (λc g=>if c=true then T true g else wp (b l) T g) s:=by unfold rK;rw[d0];congr 1;funext c g;rw[F4];ac_rfl
theorem gB{i:Nat}{d:D}:wp (aS i d l) G s=G (l.set i (some d)) s:=dg rfl
theorem H_{d:D}{b:Option D}{r:Loc}{Q:Loc->aX->Prop}:wp (aS 0 d (b::r)) Q s=Q (some d::r) s:=gB
theorem Jw{c:Option D}{d:D}{b:Option D}{r:Loc}{Q:Loc->aX->Prop}:wp (aS 1 d (c::b::r)) Q s=Q (c::some d::r) s:=gB
theorem Ir{g c:Option D}{d:D}{b:Option D}{r:Loc}{Q:Loc->aX->Prop}:wp (aS 2 d (g::c::b::r)) Q s=Q (g::c::some d::r) s:=gB
theorem Jv{h g c:Option D}{d:D}{b:Option D}{r:Loc}{Q:Loc->aX->Prop}:wp (aS 3 d (h::g::c::b::r)) Q s=Q (h::g::c::some d::r) s:=gB
theorem BJ{o h g c:Option D}{d:D}{b:Option D}{r:Loc}{Q:Loc->aX->Prop}:wp (aS 4 d (o::h::g::c::b::r)) Q s=Q (o::h::g::c::some d::r) s:=gB
theorem E8{q o h g c:Option D}{d:D}{b:Option D}{r:Loc}{Q:Loc->aX->Prop}:wp (aS 5 d (q::o::h::g::c::b::r)) Q s=Q (q::o::h::g::c::some d::r) s:=gB
theorem EQ{u q o h g c:Option D}{d:D}{b:Option D}{r:Loc}{Q:Loc->aX->Prop}:wp (aS 6 d (u::q::o::h::g::c::b::r)) Q s=Q (u::q::o::h::g::c::some d::r) s:=gB
theorem K7{v u q o h g c:Option D}{d:D}{b:Option D}{r:Loc}{Q:Loc->aX->Prop}:wp (aS 7 d (v::u::q::o::h::g::c::b::r)) Q s=Q (v::u::q::o::h::g::c::some d::r) s:=gB
theorem JD{B v u q o h g c:Option D}{d:D}{b:Option D}{r:Loc}{Q:Loc->aX->Prop}:wp (aS 8 d (B::v::u::q::o::h::g::c::b::r)) Q s=Q (B::v::u::q::o::h::g::c::some d::r) s:=gB
theorem DX{C B v u q o h g c:Option D}{d:D}{b:Option D}{r:Loc}{Q:Loc->aX->Prop}:wp (aS 9 d (C::B::v::u::q::o::h::g::c::b::r)) Q s=Q (C::B::v::u::q::o::h::g::c::some d::r) s:=gB
theorem DY{E C B v u q o h g c:Option D}{d:D}{b:Option D}{r:Loc}{Q:Loc->aX->Prop}:wp (aS 10 d (E::C::B::v::u::q::o::h::g::c::b::r)) Q s=Q (E::C::B::v::u::q::o::h::g::c::some d::r) s:=gB
theorem Dm{H E C B v u q o h g c:Option D}{d:D}{b:Option D}{r:Loc}{Q:Loc->aX->Prop}:wp (aS 11 d (H::E::C::B::v::u::q::o::h::g::c::b::r)) Q s=Q (H::E::C::B::v::u::q::o::h::g::c::some d::r) s:=gB
theorem Dj{J H E C B v u q o h g c:Option D}{d:D}{b:Option D}{r:Loc}{Q:Loc->aX->Prop}:wp (aS 12 d (J::H::E::C::B::v::u::q::o::h::g::c::b::r)) Q s=Q (J::H::E::C::B::v::u::q::o::h::g::c::some d::r) s:=gB
theorem Bq{o i:CE}{d:D}:wp (gP o i d l) G s=wp (o l) (λy g=>wp (i l) (λz c=>wp (iT y z d) (λ_ h=>G l h) c) g) s:=by unfold gP;rw[d0];congr 1;funext y g;rw[d0];congr 1;funext z c;rw[d0];ac_rfl
theorem kX{i:Nat}: wp (am i l) Q s=match l[i]? with
  |some (some d)=>Q d s
  |_=>False:=by
 unfold am;rcases l[i]? with _|_|d<;>first|bv_omega
theorem D1{d:D}{r:Loc}:wp (am 0 (some d::r)) Q s=Q d s:=kX
theorem Fe{c:Option D}{d:D}{r:Loc}:wp (am 1 (c::some d::r)) Q s=Q d s:=kX
theorem IL{g c:Option D}{d:D}{r:Loc}:wp (am 2 (g::c::some d::r)) Q s=Q d s:=kX
theorem I_{h g c:Option D}{d:D}{r:Loc}:wp (am 3 (h::g::c::some d::r)) Q s=Q d s:=kX
theorem JV{o h g c:Option D}{d:D}{r:Loc}:wp (am 4 (o::h::g::c::some d::r)) Q s=Q d s:=kX
theorem D7{q o h g c:Option D}{d:D}{r:Loc}:wp (am 5 (q::o::h::g::c::some d::r)) Q s=Q d s:=kX
theorem JS{u q o h g c:Option D}{d:D}{r:Loc}:wp (am 6 (u::q::o::h::g::c::some d::r)) Q s=Q d s:=kX
theorem II{v u q o h g c:Option D}{d:D}{r:Loc}:wp (am 7 (v::u::q::o::h::g::c::some d::r)) Q s=Q d s:=kX
theorem JB{B v u q o h g c:Option D}{d:D}{r:Loc}:wp (am 8 (B::v::u::q::o::h::g::c::some d::r)) Q s=Q d s:=kX
theorem Ks{C B v u q o h g c:Option D}{d:D}{r:Loc}:wp (am 9 (C::B::v::u::q::o::h::g::c::some d::r)) Q s=Q d s:=kX
theorem Fa{H E C B v u q o h g c:Option D}{d:D}{r:Loc}:wp (am 11 (H::E::C::B::v::u::q::o::h::g::c::some d::r)) Q s=Q d s:=kX
theorem FH{J H E C B v u q o h g c:Option D}{d:D}{r:Loc}:wp (am 12 (J::H::E::C::B::v::u::q::o::h::g::c::some d::r)) Q s=Q d s:=kX
theorem Af{d:D}:wp (aN d l) Q s=Q d s:=dg rfl
theorem Jg{g:D->M D}{a:CE}:wp (c1 g a l) Q s=wp (a l) (λx c=>wp (g x) Q c) s:=by unfold c1;rw[d0]
theorem DV{g:D->D->M D}{a b:CE}:wp (c2 g a b l) Q s=wp (a l) (λx h=>wp (b l) (λy c=>wp (g x y) Q c) h) s:=by unfold c2;rw[d0];congr 1;funext x h;rw[d0]
theorem w8{g:List D->M D}{a:CA}:wp (bW g a l) Q s=wp (a l) (λx c=>wp (g x) Q c) s:=by unfold bW;rw[d0]
theorem Aa:wp (bu l) A s=A [] s:=dg rfl
theorem w_{a:CE}{r:CA}:wp (ax a r l) A s=wp (a l) (λx g=>wp (r l) (λxs c=>A (x::xs) c) g) s:=by unfold ax;rw[d0];congr 1;funext x g;rw[d0];ac_rfl
theorem D_{a:CA}:wp (dU a l) Q s=wp (a l) (λxs c=>xs.length<=fv/\Q (.tup xs) c) s:=by unfold dU;rw[d0];congr 1;funext x c;rw[eY];ac_rfl
theorem AN{a:CA}:wp (fU a l) A s=wp (a l) (λxs c=>xs.length<=fv/\A xs c) s:=by unfold fU;rw[d0];congr 1;funext x c;rw[eY];ac_rfl
theorem Ay{a:CA}:wp (dZ a l) Q s=wp (a l) (λxs c=>Q (.ref c.length) (c++[.lst xs])) s:=by unfold dZ;rw[d0];ac_rfl
theorem Ec{g:List D->M D}{a:CA}:wp (gY g a l) Q s=wp (a l) (λx c=>wp (g x) Q c) s:=by unfold gY;rw[d0]
theorem BU{n:Nat}{caps:List Nat}{i:CI}{g:CG}{t:CT}{e:CE}:wp (dF n caps i g t e l) A s=wp (i l) (λw c=>w.ds.length<=fv/\wp (collect g t e w.same w.ds (gK n caps l)) A c) s:=by unfold dF;rw[d0];congr 1;funext x c;rw[eY]
theorem Dy{i:CI}{g:CG}{b:CS}:wp (kC i g b l) R s=wp (i l) (λw c=>wp (nQ g b w.same w.ds l) R c) s:=by unfold kC;rw[d0]
theorem Ev{a:CE}: wp (MM.fT a l) I s=wp (a l) (λx c=>match x with
  | .int j=>(-(2^62)<=j/\j < 2^62)/\I ⟨kY 0 j.toNat,dL⟩ c
  |_=>False) s:=by
 unfold MM.fT;rw[d0];congr 1;funext x c;cases x<;>first|bv_omega|(dsimp only;rw[eY];ac_rfl)
theorem Bf{a:CE}: wp (ic a l) I s=wp (a l) (λx c=>match x with
  | .tup ds=>I ⟨ds,dL⟩ c
  | .lit ds=>I ⟨ds,dL⟩ c
  | .ref n=>wp (getL n) (λds g=>I ⟨ds,kB n ds⟩ g) c
  |_=>False) s:=by
 unfold ic;rw[d0];congr 1;funext x c;cases x<;>first|bv_omega|(dsimp only;rw[d0];ac_rfl)
theorem Ab{i j:Int}:wp (fG (.int i) (.int j)) Q s=Q (.int (i+j)) s:=dg rfl
theorem D0{i j:Int}:wp (sM (.int i) (.int j)) Q s=Q (.int (i-j)) s:=dg rfl
theorem Dz{i j:Int}:wp (rM (.int i) (.int j)) Q s=(pO i j/\Q (.int (i*j)) s):=by unfold rM;rw[eY];ac_rfl
theorem Ds{i j:Int}:wp (r_ (.int i) (.int j)) Q s=((0 < j/\j < 1073741824)/\Q (.int (i / j)) s):=by unfold r_;rw[eY];ac_rfl
theorem Fq{i j:Int}:wp (oZ (.int i) (.int j)) Q s=(0 < j/\Q (.int (i % j)) s):=by unfold oZ;rw[eY];ac_rfl
theorem La{i j:Int}:wp (zq (.int i) (.int j)) Q s=Q (.bl (decide (i < j))) s:=dg rfl
theorem J7{i j:Int}:wp (wV (.int i) (.int j)) Q s=Q (.bl (decide (j < i))) s:=dg rfl
theorem HF{i j:Int}:wp (GI (.int i) (.int j)) Q s=Q (.bl (decide (j<=i))) s:=dg rfl
theorem Jz{i j:Int}:wp (nY (.int i) (.int j)) Q s=Q (.bl (i == j)) s:=dg rfl
theorem qw{ds:List D}{i:Int}:wp (aR (.tup ds) (.int i)) Q s=wp (cJ ds i) Q s:=nr rfl
theorem yR{n:Nat}{i:Int}:wp (aR (.ref n) (.int i)) Q s=wp (getL n) (λds c=>wp (cJ ds i) Q c) s:=by unfold aR;rw[d0]
theorem xl{ds:List D}:wp (gD (.tup ds)) Q s=Q (.int ds.length) s:=dg rfl
theorem Au{n:Nat}:wp (gD (.ref n)) Q s=wp (getL n) (λds c=>Q (.int ds.length) c) s:=by unfold gD;rw[d0];ac_rfl
theorem BY{b:Bool}:wp (intD (.bl b)) Q s=Q (.int (if b then 1 else 0)) s:=dg rfl
theorem qR{n:Nat}{i:Int}{v:D}{U:Unit->aX->Prop}: wp (iT (.ref n) (.int i) v) U s=wp (getL n) (λds c=>wp (match MM.mC ds.length i with
  |some j=>putL n (ds.set j v)
  |none=>bad) U c) s:=by
 unfold iT;rw[d0]<;>congr 1
theorem B5{d:D}:wp (wY (.ret d)) Q s=Q d s:=dg rfl
theorem yC:wp (wY (.next l)) Q s=Q .non s:=dg rfl
end
theorem yM{a:CE}{lo o:CO}{A:List D->aX->Prop}{s:aX}{l:Loc}: wp (qT a lo o l) A s=wp (a l) (λx h=>wp (lo l) (λi g=>wp (o l) (λj c=>match x with
  | .lit ds=>A (cutD ds i j) c
  | .ref n=>wp (getL n) (λds q=>A (cutD ds i j) q) c
  |_=>False) g) h) s:=by
 unfold qT;rw[d0];congr 1;funext x h;rw[d0];congr 1;funext i g;rw[d0];congr 1;funext j c;cases x<;>first|bv_omega|(dsimp only;rw[d0];ac_rfl)
theorem AL{A:Option Int->aX->Prop}{s:aX}{l:Loc}:wp (tY l) A s=A none s:=dg rfl
theorem BM{a:CE}{A:Option Int->aX->Prop}{s:aX}{l:Loc}: wp (pQ a l) A s=wp (a l) (λx c=>match x with
  | .int i=>A (some i) c
  |_=>False) s:=by
 unfold pQ;rw[d0];congr 1;funext x c;cases x<;>first|bv_omega
theorem B7{a:CE}{I:Wk->aX->Prop}{s:aX}{l:Loc}: wp (tL a l) I s=wp (a l) (λx c=>match x with
  | .tup ds=>I ⟨(kY 0 ds.length).zipWith (λi d=>.tup [i,d]) ds,dL⟩ c
  |_=>False) s:=by
 unfold tL;rw[d0];congr 1;funext x c;cases x<;>first|bv_omega
theorem uw{n:Nat}{r:List D->Loc->M Loc}{ds:List D}{G:Loc->aX->Prop}{s:aX}{l:Loc}:wp (iq n r (.tup ds) l) G s=(ds.length=n/\wp (r ds l) G s):=by unfold iq;rw[eY]
theorem oX{g:CG}{r:List D->Loc->M Loc}{d:D}{ds:List D}{G:Loc->aX->Prop}{s:aX}{l:Loc}:wp (cW g r (d::ds) l) G s=wp (g d l) (λh c=>wp (r ds h) G c) s:=by unfold cW;rw[d0]
theorem uK{G:Loc->aX->Prop}{s:aX}{l:Loc}:wp (iD [] l) G s=G l s:=dg rfl
def dX(s c:aX):Prop:=∃t,c=s++t
theorem dX.refl(s:aX):dX s s:=⟨[],by simp⟩
theorem dX.snoc{s c:aX}(h:dX s c)(o:MO):dX s (c++[o]):=by obtain⟨t,e⟩:=h;exact⟨t++[o],by rw[e];simp⟩
theorem dX.trans{s g c:aX}(h:dX s g)(k:dX g c):dX s c:=by obtain⟨t,e⟩:=h;obtain⟨u,f⟩:=k;exact⟨t++u,by rw[f,e];simp⟩
theorem dX.at_{s c:aX}{n:Nat}{o:MO}(h:dX s c)(k:s[n]?=some o):c[n]?=some o:=by obtain⟨t,e⟩:=h;rw[e,av (ac.mp k).1];exact k
theorem R_{α:Type}(f:α->Int)(xs:List α):m6 (xs.map λx=>.int (f x))=some (xs.map f):=by
 induction xs with
 |nil=>rfl
 |cons x xs ih=>simp only[aO,m6,ih];ac_rfl
theorem NS{α:Type}{m:M α}{v:α}{s:aX}{Q:α->aX->Prop}(h:wp m (λa c=>a=v/\c=s) s):wp m Q s=Q v s:=by
 simp only[rJ]at *;cases e:m s with
 |ok a c=>rw[e]at h;obtain⟨l,g⟩:=h;subst l;subst g;ac_rfl
 |exc _ _=>rw[e]at h;exact h.elim
 |bad=>rw[e]at h;exact h.elim
theorem uD{a b:Nat}{x y:List D}{Q:D->aX->Prop}{s:aX}(g:s[a]?=some (.lst x))(c:s[b]?=some (.lst y)):wp (fG (.ref a) (.ref b)) Q s=(x.length+y.length<=fv/\Q (.ref s.length) (s++[.lst (x++y)])):=by unfold fG;rw[d0,fk g,d0,fk c,eY];ac_rfl
def yI(x:D)(p q:Prop):Prop:=match x with
 | .bl true=>p
 | .bl false=>q
 |_=>False
theorem sQ{p q:Prop}:yI (.bl true) p q=p:=nr rfl
theorem sR{p q:Prop}:yI (.bl false) p q=q:=nr rfl
section
variable{Q:D->aX->Prop}{T:Bool->aX->Prop}{R:sk->aX->Prop}{s:aX}{l:Loc}
theorem Bx{a b:CE}:wp (tU a b l) Q s=wp (a l) (λx c=>yI x (wp (b l) Q c) (Q (.bl false) c)) s:=by unfold tU;rw[d0];congr 1;funext x c;rcases x with _|b|_|_|_|_|_|_<;>first|bv_omega|(cases b<;>first|bv_omega)
theorem Dl{a b:CE}:wp (Cs a b l) Q s=wp (a l) (λx c=>yI x (Q (.bl true) c) (wp (b l) Q c)) s:=by unfold Cs;rw[d0];congr 1;funext x c;rcases x with _|b|_|_|_|_|_|_<;>first|bv_omega|(cases b<;>first|bv_omega)
theorem BW{a:CE}: wp (wL a l) Q s=wp (a l) (λx c=>match x with
  | .bl b=>Q (.bl !b) c
  |_=>False) s:=by
 unfold wL;rw[d0];congr 1;funext x c;cases x<;>first|bv_omega
theorem Fi{t:CT}{a b:CE}:wp (vJ t a b l) Q s=wp (t l) (λc g=>if c=true then wp (a l) Q g else wp (b l) Q g) s:=by unfold vJ;rw[d0];congr 1;funext c g;rw[F4]
theorem AT{b:Bool}:wp (y0 (.bl b)) T s=T b s:=dg rfl
theorem B3{ds:List D}:wp (kA ds) Q s=Q (.tup ds) s:=dg rfl
theorem sL{d:D}{ds:List D}:wp (cJ (d::ds) 0) Q s=Q d s:=by rw[Dt (d:=d) (by ext) rfl,cR]
theorem sK{d e:D}{ds:List D}:wp (cJ (d::e::ds) 1) Q s=Q e s:=by rw[Dt (d:=e) (by ext) rfl,cR]
theorem yH{d e f:D}{ds:List D}:wp (cJ (d::e::f::ds) 2) Q s=Q f s:=by rw[Dt (d:=f) (by ext) rfl,cR]
theorem yK{d e f g:D}{ds:List D}:wp (cJ (d::e::f::g::ds) 3) Q s=Q g s:=by rw[Dt (d:=g) (by ext) rfl,cR]
theorem qJ{ds:List D}{i:Nat}{d:D}(h:ds[i]?=some d):wp (cJ ds i) Q s=Q d s:=by rw[Dt (d:=d) (by ext) (by simpa using h),cR]
theorem Cc{a:CA}{I:Wk->aX->Prop}:wp (wW a l) I s=wp (a l) (λds c=>I ⟨ds,dL⟩ c) s:=by unfold wW;rw[d0];ac_rfl
end
noncomputable def bP(p:Prop):Bool:=@decide p (rD p)
theorem HM{p:Prop}:bP p=true↔p:=by unfold bP;exact @decide_eq_true_iff p (rD p)
theorem JM{p:Prop}(h:p):bP p=true:=HM.mpr h
theorem Jl{p:Prop}(h:¬p):bP p=false:=by
 cases e:bP p with
 |false=>rfl
 |true=>exact (h (HM.mp e)).elim
theorem Wq{b:Bool}{p:Prop}(h:b=true↔p):b=bP p:=by
 cases b with
 |true=>exact (JM (h.mp rfl)).symm
 |false=>exact (Jl λk=>by cases h.mpr k).symm
noncomputable def bw{α:Type}(n:Nat)(f:Nat->α):List α:=(bG n).map f
theorem zi{α:Type}{n i:Nat}{f:Nat->α}(h:i < n):(bw n f)[i]?=some (f i):=by unfold bw;rw[ak,gp h];ac_rfl
theorem zQ{α:Type}{n i:Nat}{f:Nat->α}{x:α}(h:(bw n f)[i]?=some x):i < n/\x=f i:=by
 have c:i < n:=by have:=(ac.mp h).1;simpa [bw] using this
 rw[zi c]at h;cases h;exact⟨c,rfl⟩
theorem mh{α:Type}{n:Nat}{f:Nat->α}:(bw n f).length=n:=by simp[bw]
theorem By{α:Type}{n:Nat}{f:Nat->α}:bw (n+1) f=bw n f++[f n]:=by unfold bw;rw[fS,bj];ac_rfl
theorem HN{α:Type}{n:Nat}{xs:List α}{f:Nat->α}(g:xs.length=n)(h:∀i,i < n->xs[i]?=some (f i)):xs=bw n f:=by
 apply fA;intro i;by_cases c:i < n
 ·rw[h i c,zi c]
 ·rw[bT (by ext),bT (by rw[mh];ext)]
theorem xQ{α:Type}{n:Nat}{f g:Nat->α}(h:∀i,i < n->f i=g i):bw n f=bw n g:=
 HN mh λi c=>by rw[zi c,h i c]
theorem Gk{α β:Type}{n:Nat}{f:Nat->α}{g:α->β}:(bw n f).map g=bw n λi=>g (f i):=by unfold bw;rw[e8];ac_rfl
theorem tX{n:Nat}:kY 0 n=bw n λi=>.int i:=by unfold kY bw;congr 1;funext k;simp
theorem Xr{n:Nat}{f:Nat->Bool}:mF (bw n λi=>.bl (f i))=some (bw n f):=by
 have:∀(xs:List Nat),mF (xs.map λi=>.bl (f i))=some (xs.map f):=by
  intro xs
  induction xs with
  |nil=>rfl
  |cons x xs ih=>simp only[aO,mF,ih];ac_rfl
 exact this _
theorem PN{n:Nat}{p:Nat->Prop}{Q:D->aX->Prop}{s:aX}:wp (vE (bw n λi=>.bl (bP (p i)))) Q s=Q (.bl (bP (∀i,i < n->p i))) s:=by unfold vE;rw[Xr];have:(bw n λi=>bP (p i)).all id=bP (∀i,i < n->p i):=Wq (by simp[bw,Df,HM]);dsimp only;rw[this,cR]
theorem OM{g:CG}{e:CE}{same:aX->Prop}{ds:List D}{E:Loc}{f:Nat->D}{Q:List D->aX->Prop}{s:aX}(I:Loc->Prop)(O:same s)(h0:I E)
  (h:∀i d l,ds[i]?=some d->I l->∃u,(∀G,wp (g d l) G s=G u s)/\I u/\∀Q,wp (e u) Q s=Q (f i) s):
  wp (collect g bR e same ds E) Q s=Q (bw ds.length f) s:=by
 have chk:∀{R:Unit->aX->Prop},R () s->wp (chkS same) R s:=λr=>by rw[rJ];unfold chkS;rw[aD O];exact r
 apply NS;refine Ko (Q:=λc o=>c=bw ds.length f/\o=s) (λc xs l o=>∃i,xs=ds.drop i/\i<=ds.length/\I l/\c=bw i f/\o=s) (λc l o ⟨i,v,U,_,C,B⟩=>?_) (λc d xs l o ⟨i,v,U,Y,C,B⟩=>?_) ds [] _ s ⟨0,by simp,bY _,h0,rfl,rfl⟩
 ·have : i = ds.length := by have:=cC dP v;simp at this;ext
  subst this;subst B;exact chk ⟨C,rfl⟩
 ·have q : i < ds.length := by have:=cC dP v;simp at this;ext
  rw[dM q]at v;obtain⟨g,c⟩:=lG v;obtain⟨u,L,J,H⟩:=h i d l (by rw[g];exact ai q) Y;subst B;refine chk ?_;rw[L]
  show wp (ret true) _ o;rw[cR]
  show wp (e u) _ o;rw[H];exact⟨i+1,c,q,J,by rw[C,By],rfl⟩
theorem Bh{e:CE}{same:aX->Prop}{ds:List D}{caps:Loc}{f:Nat->D}{Q:List D->aX->Prop}{s:aX}(g:same s)(h:∀i d,ds[i]?=some d->∀Q,wp (e (some d::caps)) Q s=Q (f i) s):
  wp (collect (aS 0) bR e same ds (none::caps)) Q s=Q (bw ds.length f) s:=
 OM (λl=>∃x,l=x::caps) g ⟨none,rfl⟩ λi d l hd c=>by obtain⟨x,el⟩:=c;exact⟨some d::caps,λG=>by rw[el,gB];rfl,⟨_,rfl⟩,h i d hd⟩
theorem Gr{e:CE}{same:aX->Prop}{ds:List D}{caps:Loc}{f:Nat->D}{Q:List D->aX->Prop}{s:aX}(g:same s)(h:∀i d,ds[i]?=some d->∃a b,d=.tup [a,b]/\∀Q,wp (e (some a::some b::caps)) Q s=Q (f i) s):
  wp (collect (iq 2 (cW (aS 0) (cW (aS 1) iD))) bR e same ds (none::none::caps)) Q s=Q (bw ds.length f) s:=
 OM (λl=>∃x y,l=x::y::caps) g ⟨none,none,rfl⟩ λi d l hd c=>by obtain⟨x,y,el⟩:=c;obtain⟨a,b,o,q⟩:=h i d hd;refine⟨some a::some b::caps,λG=>?_,⟨_,_,rfl⟩,q⟩;rw[o,el,uw,oX,gB,oX,gB,uK];exact propext ⟨λh=>h.2,λh=>⟨rfl,h⟩⟩
section
variable{n:Nat}{f:Nat->D}{Q:D->aX->Prop}{s:aX}
theorem yW{i:Nat}(h:i < n):wp (cJ (bw n f) (i:Int)) Q s=Q (f i) s:=qJ (zi h)
theorem QX(h:0 < n):wp (cJ (bw n f) 0) Q s=Q (f 0) s:=by have:=@qJ Q s (bw n f) 0 (f 0) (zi h);simpa using this
end
theorem tN{s:aX}:dL s:=trivial
theorem MG{g:CG}{b:CS}{same:aX->Prop}{n:Nat}{f:Nat->D}{l:Loc}{s:aX}{Q:sk->aX->Prop}(W:Nat->Loc->aX->Prop)(v:∀i l s,W i l s->same s)(C:W 0 l s)
  (c:∀(i:Nat)l s,i < n->W i l s->wp (g (f i) l) (λu q=>wp (b u) (λf o=>match f with
   | .next l2=>W (i+1) l2 o
   | .cnt l2=>W (i+1) l2 o
   | .brk l2=>Q (.next l2) o
   | .ret d=>Q (.ret d) o) q) s) (h:∀l s,W n l s->Q (.next l) s):wp (nQ g b same (bw n f) l) Q s:=
 LC W v C (λi d l s hd w=>by obtain⟨B,e⟩:=zQ hd;subst e;exact c i l s B w) (λl s w=>h l s (by rw[mh]at w;exact w))
theorem Tg{e:CE}{n:Nat}{f:Nat->D}{same:aX->Prop}{caps:Loc}{s:aX}{Q:List D->aX->Prop}(W:Nat->List D->aX->Prop)(o:∀i c s,W i c s->same s)(u:W 0 [] s)
  (g:∀(i:Nat)c s,i < n->W i c s->wp (e (some (f i)::caps)) (λx l=>W (i+1) (c++[x]) l) s) (h:∀c s,W n c s->Q c s):
  wp (collect (aS 0) bR e same (bw n f) (none::caps)) Q s:=
 GW W o u (λi d c s hd w=>by obtain⟨q,e⟩:=zQ hd;subst e;exact g i c s q w) (λc s w=>h c s (by rw[mh]at w;exact w))
theorem wm{e:CE}{same:aX->Prop}{n:Nat}{g:Nat->D}{caps:Loc}{f:Nat->D}{Q:List D->aX->Prop}{s:aX}(c:same s)(h:∀i,i < n->∀Q,wp (e (some (g i)::caps)) Q s=Q (f i) s):
  wp (collect (aS 0) bR e same (bw n g) (none::caps)) Q s=Q (bw n f) s:=by
 rw[Bh (f:=f) c (λi d hd=>by obtain⟨l,e⟩:=zQ hd;subst e;exact h i l),mh]
theorem XW{n:Nat}{f:Nat->D}:(kY 0 n).zipWith (λi d=>D.tup [i,d]) (bw n f)=bw n λi=>.tup [.int i,f i]:=by
 apply HN
 ·simp[kY,bw]
 ·intro i c;rw[kD,Sx c,zi c]
section
variable{Q:D->aX->Prop}{T:Bool->aX->Prop}{R:sk->aX->Prop}{A:List D->aX->Prop}{s:aX}{l:Loc}
theorem wZ{a b:CE}: wp (dJ a b l) Q s=wp (a l) (λx h=>match x with
  | .ref n=>wp (b l) (λv g=>wp (getL n) (λds c=>ds.length < fv/\wp (putL n (ds++[v])) (λ_ o=>Q .non o) c) g) h
  |_=>False) s:=by
 unfold dJ;rw[d0];congr 1;funext x h;cases x<;>first|bv_omega|(dsimp only;rw[d0];congr 1;funext v g;unfold u9;rw[d0];congr 1;funext ds c;rw[eY,d0];first|ac_rfl|(refine cC _ ?_;refine nj λ_ _=>?_;simp only[cR,gO,iy]))
theorem Fl{a:CE}: wp (uF a l) Q s=wp (a l) (λx g=>match x with
  | .ref n=>wp (getL n) (λds c=>match ds.getLast? with
   |some d=>wp (putL n ds.dropLast) (λ_ h=>Q d h) c
   |none=>False) g
  |_=>False) s:=by
 unfold uF;rw[d0];congr 1;funext x g;cases x<;>first|bv_omega|(dsimp only;rw[d0];congr 1;funext ds c;cases ds.getLast?<;>first|bv_omega|(dsimp only;rw[d0];first|ac_rfl|(refine cC _ ?_;refine nj λ_ _=>?_;simp only[cR,gO,iy])))
theorem AM{a:CE}: wp (tR a l) A s=wp (a l) (λx c=>match x with
  | .ref n=>wp (getL n) (λds g=>A ds.reverse g) c
  |_=>False) s:=by
 unfold tR;rw[d0];congr 1;funext x c;cases x<;>first|bv_omega|(dsimp only;rw[d0];first|ac_rfl|(refine cC _ ?_;refine nj λ_ _=>?_;simp only[cR,gO,iy]))
theorem yV{ds:List D}:wp (ub (.tup ds)) Q s=Q (.ref s.length) (s++[.lst ds]):=dg rfl
theorem wQ{n:Nat}:wp (tupleD (.ref n)) Q s=wp (getL n) (λds c=>Q (.tup ds) c) s:=by unfold tupleD;rw[d0];(try dsimp only);(try rw[d0]);refine nj λ_ _=>?_;simp only[cR,gO,iy]
theorem yz{a b:Str}:wp (nY (.str a) (.str b)) Q s=Q (.bl (a == b)) s:=dg rfl
theorem Bw{ds:List D}:wp (ie ["tuple"] (.tup ds)) Q s=Q (.bl true) s:=dg rfl
theorem AK{i:Int}:wp (ie ["int"] (.int i)) Q s=Q (.bl true) s:=dg rfl
theorem A8{i:Int}:wp (ie ["bool"] (.int i)) Q s=Q (.bl false) s:=dg rfl
theorem Fo{i:Int}:wp (t9 (.int i)) Q s=Q (.int (-i)) s:=dg rfl
theorem Bn{i j:Int}:wp (ve (.int i) (.int j)) Q s=Q (.int (min i j)) s:=dg rfl
theorem A5{a b:CE}{I:Wk->aX->Prop}: wp (MM.nh a b l) I s=wp (a l) (λx g=>wp (b l) (λy c=>match x,y with
  | .int i,.int j=>((-(2^62)<=i/\i < 2^62)/\(-(2^62)<=j/\j < 2^62))/\I ⟨kY i (j-i).toNat,dL⟩ c
  |_,_=>False) g) s:=by
 unfold MM.nh;rw[d0];congr 1;funext x g;rw[d0];congr 1;funext y c;cases x<;>cases y<;>first|bv_omega|(dsimp only;rw[eY];first|ac_rfl|(refine cC _ ?_;refine nj λ_ _=>?_;simp only[cR,gO,iy]))
theorem A9{x y:List D}:wp (fG (.tup x) (.tup y)) Q s=(x.length+y.length<=fv/\Q (.tup (x++y)) s):=by unfold fG;rw[eY];first|ac_rfl|(refine cC _ ?_;refine nj λ_ _=>?_;simp only[cR,gO,iy])
theorem xm{a:CA}{b:CE}: wp (mE a b l) Q s=wp (a l) (λds g=>wp (b l) (λi c=>match i with
  | .int k=>wp (cJ ds k) Q c
  |_=>False) g) s:=by
 unfold mE;rw[d0];congr 1;funext ds g;rw[d0];congr 1;funext i c;cases i<;>first|bv_omega
theorem yN{g:D->List D->M D}{a:CE}{b:CA}:wp (pA g a b l) Q s=wp (a l) (λx c=>wp (b l) (λds h=>wp (g x ds) Q h) c) s:=by unfold pA;rw[d0];congr 1;funext x c;rw[d0]
end
theorem DT{p q:Prop}:(if false=true then p else q)=q:=aB (by simp)
noncomputable def mx(f:Nat->Nat):Nat->Nat
 |0=>0
 |n+1=>max (mx f n) (f n)
theorem Kv{f:Nat->Nat}{n m:Nat}(h:∀i,i < n->f i<=m):mx f n<=m:=by
 induction n with
 |zero=>exact bY _
 |succ n ih=>unfold mx;exact Nat.max_le.mpr ⟨ih λi c=>h i (by ext),h n (by ext)⟩
theorem Gs{f:Nat->Nat}{n i:Nat}(h:i < n):f i<=mx f n:=by
 induction n with
 |zero=>ext
 |succ n ih=>
  unfold mx;by_cases e:i=n
  ·subst e;exact zM _ _
  ·exact bZ (ih (by ext)) (Ap _ _)
theorem Fs{f:Nat->Nat}{n:Nat}{Q:D->aX->Prop}{s:aX}(g:0 < n):wp (mz (bw n λi=>.int (f i:Nat))) Q s=Q (.int (mx f n:Nat)) s:=by
 obtain⟨k,rfl⟩:∃k,n=k+1:=⟨n-1,by ext⟩
 have c:∀(k:Nat),(((bG k).map (· + 1)).map λ(i:Nat)=>((f i:Nat):Int)).foldl max ((f 0:Nat):Int)=((mx f (k+1):Nat):Int):=by
  intro k
  induction k with
  |zero=>show ((f 0:Nat):Int)=((max 0 (f 0):Nat):Int);ext
  |succ k ih=>
   rw[fS,bj,bj,p0,ih]
   show max ((mx f (k+1):Nat):Int) ((f (k+1):Nat):Int)=((max (mx f (k+1)) (f (k+1)):Nat):Int)
   ext
 unfold mz bw;rw[R_ (λi=>((f i:Nat):Int)),m4,aO];dsimp only;rw[cR,<- c k]
theorem dX.put{s c:aX}{n:Nat}{o:MO}(h:dX s c)(g:s.length<=n):dX s (c.set n o):=by obtain⟨t,e⟩:=h;exact⟨t.set (n-s.length) o,by rw[e,nJ _ _ g]⟩
theorem dX.le{s c:aX}(h:dX s c):s.length<=c.length:=by obtain⟨t,e⟩:=h;rw[e];simp
theorem Je{t:CT}{b:CS}:∀(n:Nat)(l:Loc)(s:aX),fu t b n l s≠.bad->fu t b (n+1) l s=fu t b n l s
 |0,l,s,h=>(h rfl).elim
 |n+1,l,s,h=>by
  have g:∀k,fu t b (k+1) l s=(match t l s with
   | .ok true s1=>(match b l s1 with
    | .ok (.next l2) s2=>fu t b k l2 s2
    | .ok (.cnt l2) s2=>fu t b k l2 s2
    | .ok (.brk l2) s2=>.ok (.next l2) s2
    | .ok (.ret d) s2=>.ok (.ret d) s2
    | .exc x s2=>.exc x s2
    | .bad=>.bad)
   | .ok false s1=>.ok (.next l) s1
   | .exc x s1=>.exc x s1
   | .bad=>.bad):=λk=>by
   show bnd (t l) _ s=_;unfold bnd;cases t l s with
   |exc x s1=>rfl
   |bad=>rfl
   |ok c s1=>
    cases c with
    |false=>rfl
    |true=>
     show (bnd (b l) _) s1=_;unfold bnd;dsimp only;cases b l s1 with
     |exc x s2=>rfl
     |bad=>rfl
     |ok f s2=>cases f<;>first|bv_omega
  rw[g (n+1),g n];rw[g n]at h;cases o:t l s with
  |exc x s1=>rfl
  |bad=>rfl
  |ok c s1=>
   rw[o]at h;cases c with
   |false=>rfl
   |true=>
    dsimp only at h ⊢;cases q:b l s1 with
    |exc x s2=>rfl
    |bad=>rfl
    |ok f s2=>
     rw[q]at h;cases f with
     |next l2=>exact Je n l2 s2 h
     |cnt l2=>exact Je n l2 s2 h
     |brk l2=>rfl
     |ret d=>rfl
theorem NJ{t:CT}{b:CS}{n m:Nat}{l:Loc}{s:aX}(h:fu t b n l s≠.bad)(c:n<=m):fu t b m l s=fu t b n l s:=by
 induction m with
 | zero => have : n = 0 := by ext
           subst this;ac_rfl
 |succ m ih=>
  by_cases e:n=m+1
  ·subst e;ac_rfl
  ·have:=ih (by ext);rw[Je m l s (by rw[this];exact h),this]
theorem Vj{t:CT}{b:CS}{Q:sk->aX->Prop}{l:Loc}{s:aX}(W:Loc->aX->Prop)(μ:Loc->aX->Nat)(J:W l s)
  (H:∀l s,W l s->wp (t l) (λc B=>if c=true then wp (b l) (λf o=>match f with
   | .next l2=>W l2 o/\μ l2 o < μ l s
   | .cnt l2=>W l2 o/\μ l2 o < μ l s
   | .brk l2=>Q (.next l2) o
   | .ret d=>Q (.ret d) o) B else Q (.next l) B) s):wp (kW t b l) Q s:=by
 have key:∀(k:Nat)(l:Loc)(s:aX),μ l s < k->W l s->∃n,wp (fu t b n l) Q s:=by
  intro k
  induction k with
  |zero=>intro l s h;ext
  |succ k ih=>
   intro l s L w;have v:=H l s w;rw[rJ]at v;cases C:t l s with
   |exc x B=>rw[C]at v;exact v.elim
   |bad=>rw[C]at v;exact v.elim
   |ok c B=>
    rw[C]at v;cases c with
    |false=>
     refine⟨1,?_⟩
     show wp (bnd (t l) _) Q s;rw[d0,dg C]
     show wp (ret _) _ _;rw[cR];exact v
    |true=>
     have g:wp (b l) _ B:=v;rw[rJ]at g;cases E:b l B with
     |exc x o=>rw[E]at g;exact g.elim
     |bad=>rw[E]at g;exact g.elim
     |ok f o=>
      rw[E]at g;have go:∀(n:Nat),wp (match f with
       | .next l2=>fu t b n l2
       | .cnt l2=>fu t b n l2
       | .brk l2=>ret (.next l2)
       | .ret d=>ret (.ret d)) Q o->wp (fu t b (n+1) l) Q s:=λn q=>by
       show wp (bnd (t l) _) Q s;rw[d0,dg C,aD rfl,d0,dg E];exact q
      cases f with
      |next l2=>obtain⟨n,u⟩:=ih l2 o (by have:=g.2;ext) g.1;exact⟨n+1,go n u⟩
      |cnt l2=>obtain⟨n,u⟩:=ih l2 o (by have:=g.2;ext) g.1;exact⟨n+1,go n u⟩
      |brk l2=>exact⟨1,go 0 (by show wp (ret _) _ _;rw[cR];exact g)⟩
      |ret d=>exact⟨1,go 0 (by show wp (ret _) _ _;rw[cR];exact g)⟩
 obtain⟨n,u⟩:=key (μ l s+1) l s (kK _) J;have G:fu t b n l s≠.bad:=λe=>by rw[rJ]at u;rw[e]at u;exact u
 have ex:∃n,∀r,fu t b n l s=r->r≠.bad:=⟨n,λr e=>e ▸ G⟩
 rw[rJ];unfold kW;rw[dif_pos ex];have I:fu t b (i7 ex) l s≠.bad:=Classical.choose_spec ex _ rfl;have e:fu t b (i7 ex) l s=fu t b n l s:=by rw[<- NJ I (Ap (i7 ex) n),<- NJ G (zM (i7 ex) n)]
 rw[e];rw[rJ]at u;exact u
section
variable{Q:D->aX->Prop}{s:aX}{l:Loc}
theorem wT{a:CE}{lo o:CO}: wp (nB a lo o l) Q s=wp (a l) (λx h=>wp (lo l) (λi g=>wp (o l) (λj c=>match x with
  | .tup ds=>¬(gM ds.length 0 i=0/\gM ds.length ds.length j=ds.length)/\Q (.tup (cutD ds i j)) c
  |_=>False) g) h) s:=by
 unfold nB;rw[d0];congr 1;funext x h;rw[d0];congr 1;funext i g;rw[d0];congr 1;funext j c;cases x<;>first|bv_omega|(dsimp only;rw[eY];ac_rfl)
inductive Pd:Nat->D->Prop
 |non {n}:Pd n .non
 |bl {n} (b):Pd n (.bl b)
 |int {n} (i):Pd n (.int i)
 |str {n} (x):Pd n (.str x)
 |tup {n}{ds:List D} (h:∀d∈ds,Pd n d):Pd (n+1) (.tup ds)
theorem Pd.up{n:Nat}{d:D}(h:Pd n d):Pd (n+1) d:=by
 induction h with
 |non=>exact .non
 |bl b=>exact .bl b
 |int i=>exact .int i
 |str x=>exact .str x
 |tup h ih=>exact .tup ih
theorem NZ{f:D->D->Option Bool}:∀{ds:List D},(∀d∈ds,f d d=some true)->nO f ds ds=some true
 |[],_=>rfl
 |d::ds,h=>by unfold nO;rw[h d (by simp)];exact NZ λx c=>h x (by simp[c])
theorem Pd.eq{n:Nat}{d:D}(h:Pd n d):vA n d d=some true:=by
 induction h with
 |@non n=>cases n<;>first|bv_omega
 |@bl n b=>cases n<;>exact cC some (beq_self_eq_true b)
 |@int n i=>cases n<;>exact cC some (beq_self_eq_true i)
 |@str n x=>cases n<;>exact cC some (beq_self_eq_true x)
 |@tup n ds h ih=>exact NZ ih
theorem Pd.le{n m:Nat}{d:D}(h:Pd n d)(c:n<=m):Pd m d:=by
 induction m with
 | zero => have : n = 0 := by ext
           subst this;exact h
 |succ m ih=>
  by_cases e:n=m+1
  ·subst e;exact h
  ·exact (ih (by ext)).up
theorem WR{n:Nat}{ds:List D}(h:Pd n (.tup ds))(c:n<=50):wp (Cw (.tup ds) (.tup ds)) Q s=Q (.bl false) s:=by
 have:=(h.le c).eq;unfold Cw Gn;rw[d0];dsimp only;rw[this]
 first|rfl|exact dg rfl|exact (dg rfl).trans cR|(simp only[cR,iy];done)
end
theorem MV{α:Type}{n:Nat}{x:α}{f:Nat->α}: x::bw n f=bw (n+1) λd=>match d with
  |0=>x
  |d+1=>f d:=by
 unfold bw;rw[m4,aO,e8];ac_rfl
theorem N5{lo:Int}{n:Nat}:kY lo n=bw n λi=>.int (lo+i):=rfl
section
variable{α β:Type}{γ:Sort _}
theorem Ep{p:Prop}[Decidable p]:(decide p=true)=p:=_root_.decide_eq_true_eq
theorem HH{n:Nat}{a:α}:aP (n+1) a=a::aP n a:=nr rfl
theorem J9{a:α}:aP 0 a=[]:=nr rfl
theorem ID{x:Option α}:(some x).join=x:=nr rfl
theorem Ku{f:α->β}{a:α}{l:List α}:sJ f (a::l)=f a::sJ f l:=nr rfl
theorem Jp{f:α->β}:sJ f []=[]:=nr rfl
theorem IP{a:α}{l k:List α}:(a::l)++k=a::(l++k):=nr rfl
theorem He{l:List α}:[]++l=l:=nr rfl
theorem Iz{a:α}{l:List α}:(a::l)[0]?=some a:=nr rfl
theorem Hx{a:α}{l:List α}{i:Nat}:(a::l)[i+1]?=l[i]?:=by simp
theorem Jf{a b:α}{l:List α}:(a::l).set 0 b=b::l:=nr rfl
theorem Jd{a b:α}{l:List α}{i:Nat}:(a::l).set (i+1) b=a::l.set i b:=nr rfl
theorem K4{a:α}{l:List α}:(a::l).length=l.length+1:=nr rfl
theorem IH:([]:List α).length=0:=nr rfl
theorem Hn{c d:γ}:(if True then c else d)=c:=aD trivial
theorem KZ{c d:γ}:(if False then c else d)=d:=aB (λh=>h)
theorem Ic{p:Prop}:(p/\True)=p:=and_true p
theorem IK{p:Prop}:(True/\p)=p:=true_and p
theorem Il:(!true)=false:=nr rfl
theorem Hb:(!false)=true:=nr rfl
end
section
variable{Q:D->aX->Prop}{U:Unit->aX->Prop}{A:List D->aX->Prop}{s:aX}{l:Loc}
theorem wu{n:Nat}{b:Bool}{c:List (D×D)}{Q:Bool×List (D×D)->aX->Prop}(h:s[n]?=some (.dct b c)):wp (getDc n) Q s=Q (b,c) s:=by rw[rJ];unfold getDc;rw[h]
theorem LO{n:Nat}{b:Bool}{g c:List (D×D)}{Q:Unit->aX->Prop}(h:s[n]?=some (.dct b g)):wp (sC n b c) Q s=Q () (s.set n (.dct b c)):=by rw[rJ];unfold sC;rw[h];simp
theorem yT{n:Nat}{b:Bool}{c:List (D×D)}{k d:D}(h:s[n]?=some (.dct b c))(o:pk b k=true)(g:m9 c k=some d):wp (itemK n k) Q s=Q d s:=by unfold itemK;rw[d0,wu h,eY];dsimp only;rw[g,cR];exact propext ⟨λh=>h.2,λh=>⟨o,h⟩⟩
theorem CV{n:Nat}{b:Bool}{c:List (D×D)}{k v:D}(h:s[n]?=some (.dct b c))(o:pk b k=true)(g:c.length < fv):wp (storeK n k v) U s=U () (s.set n (.dct b (lN c k v))):=by unfold storeK;rw[d0,wu h,eY];dsimp only;rw[LO h];exact propext ⟨λh=>h.2,λh=>⟨⟨o,g⟩,h⟩⟩
theorem NE{n:Nat}{b:Bool}{c:List (D×D)}{k:D}{Q:Bool->aX->Prop}(h:s[n]?=some (.dct b c))(g:pk b k=true):wp (hasK n k) Q s=Q (m9 c k).isSome s:=by unfold hasK;rw[d0,wu h,eY,cR];exact propext ⟨λh=>h.2,λh=>⟨g,h⟩⟩
theorem yO{n:Nat}{k:D}:wp (aR (.dic n) k) Q s=wp (itemK n k) Q s:=by cases k<;>first|bv_omega
theorem Bs{n:Nat}{k v:D}:wp (iT (.dic n) k v) U s=wp (storeK n k v) U s:=by cases k<;>first|bv_omega
theorem yx{n:Nat}{k:D}:wp (sO k (.dic n)) Q s=wp (hasK n k) (λb c=>Q (.bl !b) c) s:=by unfold sO;rw[d0];ac_rfl
theorem ML{n:Nat}{b:Bool}{c:List (D×D)}(h:s[n]?=some (.dct b c)):wp (gD (.dic n)) Q s=Q (.int c.length) s:=by unfold gD;rw[d0,wu h];ac_rfl
theorem xq{b:Bool}:wp (n6 b l) Q s=Q (.dic s.length) (s++[.dct b []]):=dg rfl
end
theorem yD{a:CA}{b:CE}{A:List D->aX->Prop}{s:aX}{l:Loc}: wp (qQ a b l) A s=wp (a l) (λxs g=>wp (b l) (λk c=>match k with
  | .int k=>((-(2^63)<=k/\k < 2^63)/\xs.length*k.toNat<=fv)/\A (aP k.toNat xs).flatten c
  |_=>False) g) s:=by
 unfold qQ;rw[d0];congr 1;funext xs g;rw[d0];congr 1;funext k c;cases k<;>first|bv_omega|(dsimp only;rw[eY];ac_rfl)
theorem oF{α:Type}{l:List α}{a:α}:(l++[a])[l.length]?=some a:=by rw[aM (ay _),ff];ac_rfl
theorem ot{α:Type}{l:List α}{a b:α}{n:Nat}(h:l[n]?=some a):(l++[b])[n]?=some a:=by rw[av (ac.mp h).1];exact h
end MM
noncomputable def MM.xP:=aC @MM.qL<|aC @MM.BC<|aC @MM.wK<|aC @MM.E6<|aC @MM.DM<|aC @MM.FC<|aC @MM.Ae<|aC @MM.Bx<|aC @MM.Dl<|aC @MM.BW<|aC @MM.Fi<|aC @MM.AT<|aC @MM.B3<|aC @MM.sL<|aC @MM.sK<|aC @MM.yH<|aC @MM.yK<|aC @MM.Cc<|aC @MM.B7<|aC @MM.uw<|aC @MM.oX<|aC @MM.uK<|aC @MM.yM<|aC @MM.AL<|aC @MM.BM<|aC @MM.Fv<|aC @MM.FM<|aC @MM.Ft<|aC @MM.HB<|aC @MM.H_<|aC @MM.Jw<|aC @MM.Ir<|aC @MM.Jv<|aC @MM.BJ<|aC @MM.E8<|aC @MM.EQ<|aC @MM.K7<|aC @MM.JD<|aC @MM.DX<|aC @MM.DY<|aC @MM.Dm<|aC @MM.Dj<|aC @MM.Bq<|aC @MM.D1<|aC @MM.Fe<|aC @MM.IL<|aC @MM.I_<|aC @MM.JV<|aC @MM.D7<|aC @MM.JS<|aC @MM.II<|aC @MM.JB<|aC @MM.Ks<|aC @MM.Fa<|aC @MM.FH<|aC @MM.Af<|aC @MM.Jg<|aC @MM.DV<|aC @MM.w8<|aC @MM.Aa<|aC @MM.w_<|aC @MM.D_<|aC @MM.AN<|aC @MM.Ay<|aC @MM.Ec<|aC @MM.BU<|aC @MM.Dy<|aC @MM.Ev<|aC @MM.Bf<|aC @MM.Ab<|aC @MM.D0<|aC @MM.Dz<|aC @MM.Ds<|aC @MM.Fq<|aC @MM.La<|aC @MM.J7<|aC @MM.HF<|aC @MM.Jz<|aC @MM.qw<|aC @MM.yR<|aC @MM.xl<|aC @MM.Au<|aC @MM.BY<|aC @MM.qR<|aC @MM.B5<|aC @MM.yC<|aC @MM.wX<|aC @MM.cR<|aC @MM.eY<|aC @MM.gO<|aC @MM.wZ<|aC @MM.Fl<|aC @MM.AM<|aC @MM.yV<|aC @MM.wQ<|aC @MM.yz<|aC @MM.Bw<|aC @MM.AK<|aC @MM.A8<|aC @MM.Fo<|aC @MM.Bn<|aC @MM.A5<|aC @MM.A9<|aC @MM.xm<|aC @MM.yN<|aC @MM.wT<|aC @MM.yO<|aC @MM.Bs<|aC @MM.yx<|aC @MM.xq<|@MM.yD
local macro_rules
 | `(tactic| simp![$a,*])=>`(tactic| simp only[↓MM.xP,MM.gB,MM.kX,MM.sQ,MM.sR,MM.Ep,MM.HH,MM.J9,MM.ID,MM.Ku,MM.Jp,MM.IP,MM.He,MM.Iz,MM.Hx,MM.Jf,MM.Jd,MM.K4,MM.IH,Nat.reduceAdd,Nat.reduceSub,Int.reduceLE,Int.reduceLT,MM.Hn,MM.KZ,MM.Ic,MM.IK,beq_iff_eq,MM.DT,MM.Il,MM.Hb,Nat.reduceLT,Nat.reduceLeDiff,$a,*])
namespace MM
open PySem
theorem Ej:∀(N:Nat)(l:List Nat),l.Nodup->(∀x∈l,x < N)->l.length<=N
 |0,l,_,h=>by
  cases l with
  |nil=>exact ay _
  |cons x xs=>exact bq (h x (by simp)) (rZ _)
 |N+1,l,hn,h=>by
  by_cases o:N∈l
  ·have q := Ej N (l.erase N) (hn.erase N) (λx g => by have c:=(hn.mem_erase_iff).mp g;have:=h x c.2;have:=c.1;ext)
   rw[tH o]at q;ext
  ·have q := Ej N l hn (λx g => by have:=h x g;have:x≠N:=λe=>o (e ▸ g);ext)
   ext
noncomputable def rh(B:Nat):List Nat->Nat
 |[]=>0
 |x::xs=>x*B^xs.length+rh B xs
theorem Gf{B:Nat}:∀{xs:List Nat},(∀x∈xs,x < B)->rh B xs < B^xs.length
 |[],_=>by simp[rh]
 |x::xs,h=>by
  have l:=Gf (B:=B) (xs:=xs) λy c=>h y (by simp[c]);have g:=h x (by simp)
  show x*B^xs.length+rh B xs < B^(xs.length+1);rw[nA,gF (B^xs.length) B];have:(x+1)*B^xs.length<=B*B^xs.length:=oB _ g;rw[qt]at this;ext
theorem Nh{B:Nat}:∀{xs ys:List Nat},xs.length=ys.length->(∀x∈xs,x < B)->(∀x∈ys,x < B)->rh B xs=rh B ys->xs=ys
 |[],[],_,_,_,_=>rfl
 |x::xs,y::ys,hl,hx,hy,e=>by
  have c:xs.length=ys.length:=by simpa using hl
  have u:=Gf (B:=B) (xs:=xs) λz hz=>hx z (by simp[hz]);have g:=Gf (B:=B) (xs:=ys) λz hz=>hy z (by simp[hz]);have l:x*B^xs.length+rh B xs=y*B^ys.length+rh B ys:=e;rw[<- c]at l g;have q:x=y/\rh B xs=rh B ys:=by
   generalize B^xs.length=p at l u g;have o:0 < p:=by ext
   have C:(x*p+rh B xs) / p=x:=by rw[gF,iN o,iu u];simp
   have v:(y*p+rh B ys) / p=y:=by rw[gF,iN o,iu g];simp
   have h:x=y:=by rw[<- C,<- v,l]
   subst h;exact⟨rfl,by ext⟩
  rw[q.1,Nh c (λz hz=>hx z (by simp[hz])) (λz hz=>hy z (by simp[hz])) q.2]
noncomputable def pr:List Nat->Nat
 |[]=>1
 |b::bs=>b*pr bs
def m_:List Nat->List Nat->Nat
 |b::bs,x::xs=>x*pr bs+m_ bs xs
 |_,_=>0
theorem C2:∀{bs xs:List Nat},xs.length=bs.length->(∀(i b x:Nat),bs[i]?=some b->xs[i]?=some x->x < b)->m_ bs xs < pr bs
 |[],[],_,_=>by simp[m_,pr]
 |b::bs,x::xs,hl,h=>by
  have o:=C2 (bs:=bs) (xs:=xs) (by simpa using hl) λi b x g c=>h (i+1) b x (by simpa using g) (by simpa using c);have l:=h 0 b x rfl rfl
  show x*pr bs+m_ bs xs < b*pr bs;have:(x+1)*pr bs<=b*pr bs:=oB _ l;rw[qt]at this;ext
theorem NN:∀{bs xs ys:List Nat},xs.length=bs.length->ys.length=bs.length->(∀(i b x:Nat),bs[i]?=some b->xs[i]?=some x->x < b)->(∀(i b x:Nat),bs[i]?=some b->ys[i]?=some x->x < b)->m_ bs xs=m_ bs ys->xs=ys
 |[],[],[],_,_,_,_,_=>rfl
 |b::bs,x::xs,y::ys,hl,hl2,hx,hy,e=>by
  have g:∀(i b x:Nat),bs[i]?=some b->xs[i]?=some x->x < b:=λi b x l h=>hx (i+1) b x (by simpa using l) (by simpa using h);have c:∀(i b x:Nat),bs[i]?=some b->ys[i]?=some x->x < b:=λi b x l h=>hy (i+1) b x (by simpa using l) (by simpa using h);have B:=C2 (bs:=bs) (xs:=xs) (by simpa using hl) g;have v:=C2 (bs:=bs) (xs:=ys) (by simpa using hl2) c;have C:x*pr bs+m_ bs xs=y*pr bs+m_ bs ys:=e;have q:x=y/\m_ bs xs=m_ bs ys:=by
   generalize pr bs=p at C B v;have u:0 < p:=by ext
   have G:(x*p+m_ bs xs) / p=x:=by rw[gF,iN u,iu B];simp
   have E:(y*p+m_ bs ys) / p=y:=by rw[gF,iN u,iu v];simp
   have o:x=y:=by rw[<- G,<- E,C]
   subst o;exact⟨rfl,by ext⟩
  rw[q.1,NN (by simpa using hl) (by simpa using hl2) g c q.2]
theorem Io:∀(a b:List Nat),lX (a.map λn:Nat=>.int n) (b.map λn:Nat=>.int n)=decide (a=b)
 |[],[]=>by simp[lX]
 |[],_::_=>by simp[lX]
 |_::_,[]=>by simp[lX]
 |x::xs,y::ys=>by
  rw[aO,aO]
  show (oV (.int x) (.int y)&&lX _ _)=_;rw[Io xs ys]
  show (decide ((x:Int)=y)&&_)=_;have:decide ((x:Int)=y)=decide (x=y):=decide_eq_decide.mpr (by ext);rw[this];simp[nv]
theorem Mn:∀(a:List Nat),oY (a.map λn:Nat=>.int n)=some (a.map λn:Nat=>(n:Int))
 |[]=>rfl
 |x::xs=>by rw[aO,aO];unfold oY;rw[Mn xs];rfl
theorem UT(a b:List Nat):pk true (.tup [.tup (a.map λn:Nat=>.int n),.tup (b.map λn:Nat=>.int n)])=true:=by show (ng [.tup (a.map λn:Nat=>.int n),.tup (b.map λn:Nat=>.int n)]).isSome=true;simp only[ng,Mn];rfl
theorem TC(a b c d:List Nat):oV (.tup [.tup (a.map λn:Nat=>.int n),.tup (b.map λn:Nat=>.int n)]) (.tup [.tup (c.map λn:Nat=>.int n),.tup (d.map λn:Nat=>.int n)])=(decide (a=c)&&decide (b=d)):=by show (lX (a.map _) (c.map _)&&(lX (b.map _) (d.map _)&&true))=_;rw[Io,Io,Bool.and_true]
end MM
namespace MM
theorem tP{g:CG}{b:CS}{same:aX->Prop}{xs:List D}{l:Loc}{s:aX}{Q:sk->aX->Prop}(W:Nat->Loc->aX->Prop)(B:∀i l s,W i l s->same s)(C:W 0 l s)
  (c:∀(R:sk->aX->Prop)(i:Nat)d l s,(∀{q h},W (i+1) q h->R (.next q) h)->(∀{d h},Q (.ret d) h->R (.ret d) h)->xs[i]?=some d->W i l s->wp (g d l) (λv u=>wp (b v) R u) s) (o:∀l s,W xs.length l s->Q (.next l) s):wp (nQ g b same xs l) Q s:=
 LC W B C (λi d l s hd w=>c _ i d l s (λz=>z) (λz=>z) hd w) o
theorem EJ{t:CT}{b:CS}{Q:sk->aX->Prop}{l:Loc}{s:aX}(W:Loc->aX->Prop)(μ:Loc->aX->Nat)(v:W l s)
  (u:∀(R:sk->aX->Prop)l s,(∀{g h},W g h->μ g h < μ l s->R (.next g) h)->(∀{d o},Q (.ret d) o->R (.ret d) o)->W l s->wp (t l) (λc q=>if c=true then wp (b l) R q else Q (.next l) q) s):wp (kW t b l) Q s:=
 Vj W μ v λl s w => u (λf h => match f with
   | .next g=>W g h/\μ g h < μ l s
   | .cnt g=>W g h/\μ g h < μ l s
   | .brk g=>Q (.next g) h
   | .ret d=>Q (.ret d) h) l s (λa b=>⟨a,b⟩) (λz=>z) w
theorem Gg{g:CG}{b:CS}{same:aX->Prop}{n:Nat}{f:Nat->D}{l:Loc}{s:aX}{Q:sk->aX->Prop}(W:Nat->Loc->aX->Prop)(B:∀i l s,W i l s->same s)(E:W 0 l s)
  (c:∀(R:sk->aX->Prop)(i:Nat)l s,(∀{q o},W (i+1) q o->R (.next q) o)->i < n->W i l s->wp (g (f i) l) (λv u=>wp (b v) R u) s) (h:∀l s,W n l s->Q (.next l) s):wp (nQ g b same (bw n f) l) Q s:=
 MG W B E (λi l s C w=>c _ i l s (λz=>z) C w) h
theorem Fd{e:CE}{n:Nat}{f:Nat->D}{same:aX->Prop}{caps:Loc}{s:aX}{Q:List D->aX->Prop}(W:Nat->List D->aX->Prop)(o:∀i c s,W i c s->same s)(u:W 0 [] s)
  (g:∀(R:D->aX->Prop)(i:Nat)c s,(∀{x l},W (i+1) (c++[x]) l->R x l)->i < n->W i c s->wp (e (some (f i)::caps)) R s) (h:∀c s,W n c s->Q c s):
  wp (collect (aS 0) bR e same (bw n f) (none::caps)) Q s:=Tg W o u (λi c s q w=>g _ i c s (λz=>z) q w) h
def t5(c g h:CE):CS:=λl=>bnd (c l) λo=>bnd (g l) λi=>match o,i with
 | .ref n,.int k=>bnd (getL n) λds=>bnd (cJ ds k) λx=>bnd (h l) λy=>bnd (Bl x y) λz=>bnd (iT (.ref n) (.int k) z) λ_=>ret (.next l)
 |_,_=>bad
def qI(a:CE):CI:=λl=>bnd (a l) λx=>match x with
 | .dic n=>bnd (getDc n) λp=>chk (p.1=true) (ret ⟨p.2.map λq=>.tup [q.1,q.2],λs=>s[n]?=some (.dct true p.2)⟩)
 |_=>bad
def G3:D->Option (D×D)
 | .tup [k,v]=>if pk true k=true then some (k,v) else none
 |_=>none
def sP:List D->Option (List (D×D))
 |[]=>some []
 |d::ds=>(G3 d).bind λp=>(sP ds).map (p::·)
def m8(ds:List D):M D:=match sP ds with
 |some ps=>chk (ps.length<=1000) (uJ true (xW [] ps))
 |none=>bad
open PySem
def sy(g:CA)(c:CE):CE:=λl=>bnd (g l) λds=>bnd (c l) λd=>if ds.length=0 then ret d else mz ds
open PySem.Spec PyProof.Rows L2
open PySem.AutoSeq1 (wpAny_loadPart')
def Fx(K:ah)(a:aj):It:=
 ⟨λi H=>∃xs x,ii K H a xs/\xs[i]?=some x,λi H x c=>∃T v,x=.ref T/\H T=none/\(∀xs,ii K H a xs->xs[i]?=some v)/\c=fJ H T (.tup [.int i,v]),λi H=>∃xs,ii K H a xs/\xs.length<=i⟩
section
theorem bs{prog:Program}{w:bN}{A:bH}{E:af->ao->Prop}{s:ao}{l:aj}{Q:af×List af->ao->Prop}(h:Q (.builtin "list.__getattribute__",[.ref l]) s):aJ (bb prog w) A (bindSpecial (.builtin "list.__getattribute__") (.ref l)) Q E s:=by
 unfold bindSpecial;have c:typeOf (.builtin "list.__getattribute__")=pure (.type "wrapper_descriptor"):=by rfl
 rw[c];refine ab (au ?_);exact au h
theorem W3{prog:Program}{w:bN}{A:bH}{E:af->ao->Prop}{s:ao}{l:aj}{its:Array af}{n:Nat}{g:Array (Option af)}{Q:Option af->ao->Prop}(hh:A.handled=none)(o:s.heap.get? l=some { cls:=.type "list",data:=.seq its n,slots:=g })(h:∀h' c,(∀b u,s.heap.get? b=some u->h'.get? b=some u)->Q none { s with heap:=h',toks:=c }):
  aJ (bb prog w) A (getAttr? (.ref l) (aA "keys")) Q E s:=by
 have H:s.TypeIs (.ref l) "list":=⟨_,o,rfl⟩
 have O:uP (.type "list") (aA "__getattribute__")=pure (some (Ai "list.__getattribute__")):=by rfl
 have B:uP (.type "list") (aA "__getattr__")=pure none:=by rfl
 have v:uP (.type "list") (aA "keys")=pure none:=by rfl
 unfold getAttr?
 wp_walk using rS H
 refine bs ?_;refine q_ F.slot_list_getattribute ⟨_,o,rfl⟩ am_entry_list_getattribute (F.args_list_getattribute_2 _ _) (meets_getattribute_miss_list l its n g (aA "keys") _ v rfl) ⟨o,?_⟩;refine⟨hh,λh' c e q=>?_⟩;obtain⟨L,J,C⟩:=q.there;have I:oC { s with heap:=h',toks:=c } (.ref e) "AttributeError":=⟨_,C,rfl⟩
 have G:isSubtype (.type "AttributeError") (.type "AttributeError")=pure true:=by rw[isSubtype_type];kernel_rfl
 show aJ (bb prog w) A (Cr (.ref l) (.str (aA "keys") s.toks) (.type "list") (.ref e) none false false) _ _ { s with heap:=h',toks:=c };unfold Cr;refine ab (fO I G ?_);rw[aD rfl];unfold hookBehind;rw[aB (by decide),B];refine ab (au ?_);unfold hookOrError attributeErrorLeaves
 wp_walk
 exact h h' c λb u z=>q.keeps b u z
theorem GQ:plainId "dict.update.loop"=true:=by nofun
variable{prog:Program}{w:bN}
theorem OP{A:bH}{E:af->ao->Prop}{s:ao}{a:aj}{c v:af}{Q:List af->ao->Prop}(q:s.heap.IsTuple a #[c,v])(h:Q [c,v] s):aJ (bb prog w) A (qA (.ref a)) Q E s:=by
 obtain⟨⟨C,B,o,l⟩,e,g,n,hd⟩:=q;simp only at g hd;subst g hd;unfold qA;have u:s.TypeIs (.ref a) "tuple":=⟨_,e,rfl⟩
 wp_walk using rS u
 exact h
end
section
variable{X:Cx}{o i e:Expr}{fo fi fe:CE}{pos em:Pos}
theorem UQ:EZ X (Ca X.K):=by
 intro c s σ H x y v u Q I L J h;obtain⟨p,xs,i,z,rfl,rfl,O,Y,q⟩:=h;cases L;obtain⟨t,rfl⟩:=J;obtain⟨its,r,C,hz⟩:=I.list O;obtain⟨j,g,h2,h3,h4,o⟩:=Gw Y;obtain⟨w,G,l⟩:=r.get h2;have U:=r.length;have hn:=Ag;have fin:EP X c σ Q w s:=⟨z,H,I,l,q⟩
 by_cases E:0<=i
 ·have B : i.toNat = j := by rw[tD E o]at g;exact aG g
  exact wpAny_getItem_list C.isList E (by ext) (by rw[B];simpa using G) fin
 ·have B : (i+(its.toArray.size : Int)).toNat = j := by rw[rT (by ext) h4]at g;rw[aH,<- U];exact aG g
  exact xB C.isList (by ext) (by rw[aH]<;>ext) (by ext) (by rw[B];simpa using G) fin
theorem du.intI{K:ah}{ρ:List aj}{H:Hp}{v:V}{k:Int}(r:du K ρ H v (.int k)):v=.int k:=by cases r;rfl
theorem du.refI{K:ah}{ρ:List aj}{H:Hp}{v:V}{n:Nat}(r:du K ρ H v (.ref n)):∃a,v=.ref a/\ρ[n]?=some a:=by cases r with|ref _ h=>exact⟨_,rfl,h⟩
theorem OY(ho:SE X o fo)(hi:SE X i fi)(he:SE X e fe)(ha:∀ov iv new,augStore i ov iv new=(do lw [new,ov,iv] (oy ov iv new); C6 [new,ov,iv] []; pure .next)):
  SS X (.AugAssign (.Subscript o i em) .Add e pos) (t5 fo fi fe):=
 (XR ho hi UQ he Qn Ms ha).of λG σ H h_=>h_.el λρ l st lr sr p=>⟨ρ,l,st,lr,sr,p.bnd.imp λd eh ρ1 H1 x1 s1 p1 u ru=>⟨ρ1,l,eh,lr.mono x1,s1,p1.bnd.imp λz st2 ρ2 H2 x2 U p2 w B=>by
  have c:=ru.mono x2;have E:∀{ρ3 H3},Ex ρ2 H2 ρ3 H3->du X.K ρ3 H3 u d:=λx=>c.mono x;have sh:∃I k,d=.ref I/\z=.int k:=by
   clear E c B ru;cases d with
   |ref I=>
    cases z with
    |int k=>exact⟨I,k,rfl,rfl⟩
    |_=>exact p2.elim
   |_=>exact p2.elim
  obtain⟨I,k,rfl,rfl⟩:=sh;obtain⟨aa,rfl,h⟩:=c.refI;cases B.intI;obtain⟨ds,e,p3⟩:=aU.getL (aU.bnd p2) U;obtain⟨a,vs,ha,hv,r⟩:=U.seq e;rw[h]at ha;cases ha;obtain⟨j,dx,h1,h2,q⟩:=aU.item (aU.bnd p3) U;obtain⟨v,h3,rv⟩:=Eh r h1 h2;refine⟨_,vs,k,v,rfl,rfl,ii.of hv,h3,ρ2,l,st2,(lr.mono x1).mono x2,U,(aU.bnd q).imp λy st3 ρ3 H3 x3 Q p4 w g=>?_⟩;have C:=rv.mono x3;have sh2:∃i j,dx=.int i/\y=.int j:=by
   clear C g rv h2;cases dx with
   |int i=>
    cases y with
    |int j=>exact⟨i,j,rfl,rfl⟩
    |_=>exact p4.elim
   |_=>exact p4.elim
  obtain⟨i,j',rfl,rfl⟩:=sh2;cases C.intI;cases g.intI;refine⟨i,j',rfl,rfl,?_⟩;have p5:=(aU.bnd p4).ret Q;obtain⟨O,e',Y⟩:=aU.getL (aU.bnd (aU.bnd p5)) Q;obtain⟨a',vs',L,J,r'⟩:=Q.seq e';have h':ρ3[I]?=some aa:=by obtain⟨b,eb,h'⟩:=(E x3).refI;cases eb;exact h'
  rw[h']at L;cases L;cases e2:MM.mC O.length k with
  |none=>rw[e2]at Y;exact Y.elim
  |some m=>
   rw[e2]at Y;have hl:=(ac.mp e').1;obtain⟨s4,x4⟩:=Q.put hl h' J (r'.set m (.int (i+j')));refine⟨_,vs',k,m,rfl,rfl,J,by rw[r'.length];exact e2,?_⟩;have p7:aU X.K ρ3 H3 (putL _ (O.set m (.int (i+j'))) st3) _:=Y;unfold putL at p7;rw[e']at p7;exact (p7 ρ3 _ x4 s4).ret s4 σ ((((lr.mono x1).mono x2).mono x3).mono x4)⟩⟩
end
def BI:wo:=λq c e=>VB e λt o a _ h=>Bt t λx i p v=>FG i λn j l u=>wh (o=.Add/\n=.USub) λz=>(q.e c x).bind λf=>(q.e c (.UnaryOp n j l)).bind λk=>(q.e c a).bind λm=>some ⟨t5 f.1 k.1 m.1,λg=>by subst h v u;obtain⟨rfl,rfl⟩:=z;exact OY (f.2 g) (k.2 g) (m.2 g) (by intros;rfl)⟩
def Bu:lj:=λq c e=>CD e λx _ as _ U=>vC as λa as Q=>(Hg c.G x).bind λr=>wh (c.glo x=true/\sX x=true/\r.1.k<=c.k/\r.1.n=(a::as).length+1/\r.1.kw=true/\r.1.ps.getLast?=some (aA "most")) λz=>(vD q c (a::as)).bind λv=>some ⟨qK r.1.g v.1 (.int 500),λg=>by
 subst U Q;obtain⟨O,L,J,I,H,G⟩:=z;obtain⟨f,fd,m,F,E,B,h⟩:=(g.G _ _ r.2).ex;obtain⟨x,y,l⟩:=v.2;rw[cj,bh]at y
 replace h:=h H
 unfold EO at h;rw[aD G]at h;obtain⟨u,hu,Y⟩:=h;exact TV g.S (beq_iff_eq.mp O) F (g.hr.mono J) m E Y hu (zZ L) (x g) (λC st ds o z=>by rw[I,l C st ds o z]) (qV y.1) (Br y.2)⟩
section
variable{P:Program}{w:bN}{K:ah}{mg:Str->Option af}{base:bK}
def wR(K:ah)(mg:Str->Option af)(x:Str)(c:Stmt):Prop:=∃a g u,wN K x x c a g u/\mg x=some (.ref a)/\RelV (.int 500) u
theorem DA{h:bK}{x:Str}{g:Stmt}{f T:aj}{H L B:Option aj}{C u:Array (Option af)}{I kV J E o ct to:af}{q:Tok}{v:Nat}(X:K.In h)(G:h.Ns cD mg)(a:fP K cD x=some (some (.ref f)))
  (l:K.lookup f=some ⟨I,H,.func (cK x x (fI g) (dm g) (bB g) (.ref T) kV J E L o ct),C⟩) (c:fX K o x=true) (k:cS K (.ref f)=true) (t:K.lookup T=some ⟨to,B,.seq #[.int 500 q] v,u⟩):wR K mg x g:=
 ⟨f,_,_,Qs (st:=g) l c k t rfl,rY X G a,⟨_,rfl⟩⟩
theorem XJ(R:o6){r:List Str}{x:Str}{h:Stmt}{o:List Str}{k n m:Nat}{q:CS}{G:List (Str×RF)}{Z:List Str}{C:List (Str×D)}{H:List (Nat×Nat×Nat)}(F:wR K mg x h)(S:uv (o++r) o (bB h)=true)
  (b0:∀(u:af)(T:aj)(kV g B:af)(I:Option aj)(c ct:af)(l:List af),l.length=n->∃k:Option (Array af)->Sem (List (Str×af)),lE (cK x x (fI h) (dm h) (bB h) (.ref T) kV g B I c ct) ⟨l,[]⟩=lc (.ref T) >>= k/\k (some #[u])=pure (o.zip l))
  (b1:∀(u:af)(T:aj)(kV g B:af)(I:Option aj)(c ct:af)(l:List af),l.length+1=n->∃k:Option (Array af)->Sem (List (Str×af)),lE (cK x x (fI h) (dm h) (bB h) (.ref T) kV g B I c ct) ⟨l,[]⟩=lc (.ref T) >>= k/\k (some #[u])=pure (o.zip (l++[u])))
  (hb:(qO (pv R 40) ⟨bB h,o++r,k,G,Z,C,H,true,([],[]),none⟩ (dm h)).map (·.1)=some q) (U:dh P w K mg base G) (hZ:xY mg Z) (hC:zU K mg C) (hq:o.getLast?=some (aA "most")) (L:o.length=n:=by rfl) (hm:(o++r).length=m:=by rfl):dh P w K mg base ((x,⟨n,k+1,o,true,b8 m q⟩)::G):=by
 obtain⟨f,fd,u,F,O,hu⟩:=F;have Q:=Gz S;obtain⟨v,_,e⟩:=dH.mp hb;refine Gq O (R8 F Q L hm λc A outer s Hp E Y=>e ▸ v.2 ⟨G_,rfl,Q.nd,Y,U,hZ,hC,kE,λ_=>⟨by show (if (bB h).kind.isAnnotationScope=true then _ else (bB h).kind)=_;rw[Q.kind];rfl,λ_=>rfl⟩,⟨(λ_ _ z=>nomatch z),(λ_ _ z=>nomatch z)⟩,λ_ z=>nomatch z⟩) F.kp
  (F.binds λT kV g B I c ct l J=>?_) (λ_=>?_) U
 ·rw[br]at J ⊢;exact b0 u T kV g B I c ct l (J.trans L)
 ·unfold EO;rw[aD hq];exact⟨u,hu,F.binds λT kV g B I c ct l J=>b1 u T kV g B I c ct l (by rw[<- L,<- J,aE];rfl)⟩
end
end MM
namespace MM
open PySem PySem.W PyProof.Rows L2
section
variable{prog:Program}{w:bN}{A:bH}{E:af->ao->Prop}{s:ao}{d it:aj}{es:Array iJ}{ep i:Nat}
theorem R9(hd:(d == cX)=false):
  MeetsIn prog w (Builtin.«dict.items» ⟨[.ref d],[]⟩) (λ_ R s=>(∃es ep,mv s.heap d es ep)/\R (.ok (.ret (.ref s.heap.objs.size))) { s with heap:=s.heap.push { cls:=.type "dict_items",data:=.fields #[.ref d] } }):=
 .of_wp λA R s c=>by
  obtain⟨⟨es,ep,g⟩,h⟩:=c;unfold Builtin.«dict.items»;refine ab ?_;unfold Builtin.Dict.noArgs;refine ab (kS g.typeIs ?_)
  show aJ _ _ (pure d) _ _ s;refine au ?_
  show aJ _ _ (iL d >>= _) _ _ s;unfold iL;rw[aB (by rw[hd];exact bv)];exact ab (au (ab (cg (au ⟨_,rfl,h⟩))))
theorem T0{v:aj}{Q:af->ao->Prop}(h:s.heap.IsItemsView v d)(B:mv s.heap d es ep)
  (G:Q (.ref s.heap.objs.size) { s with heap:=s.heap.push { cls:=.type "dict_itemiterator",data:=.fields #[.none,.bool false,.ref d,.int 0 0,.int es.size 0,.int ep 0,.none,.none] } }):
  aJ (bb prog w) A (Ch (.ref v)) Q E s:=by
 obtain⟨H,l,C,q⟩:=id h;obtain⟨o,u,I,c⟩:=id B;refine Dh h.typeIs we (cF we h.typeIs F.entry_dict_items_iter ?_ (F.args_dict_items_iter_1 _));unfold Builtin.«dict_items.__iter__»;refine ab (au (ab ?_));unfold Builtin.Dict_items.dictOf;refine ab (cU l q (x:=.ref d) rfl (au (ab ?_)));unfold Builtin.Dict_items.newIterator;refine ab (fF u c (ab (kh u c ?_)));have g:eJ "dict_itemiterator"=true:=by decide
 simp only[g,if_true];refine cg (au ⟨_,rfl,"dict_itemiterator",_,⟨_,aF _ rfl,rfl⟩,gJ.lookup,?_⟩)
  (by simp only[sizeOk,lT,aH,aE,bC,iK,mX];ext)
 simpa [fB,lT] using G
theorem U5{c:iJ}{ok C:af}{Q:Option af->ao->Prop}(l:iC s.heap it d i es.size ep ok C)(O:mv s.heap d es ep)(L:es[i]?=some c)
  (Y:∀h',wg h' it d (i+1) es.size ep c.key c.val s.heap.objs.size->h'.get? s.heap.objs.size=some { cls:=.type "tuple",data:=.seq #[c.key,c.val] }->h'.objs.size=s.heap.objs.size+1 ->
   (∀b o,b≠it->s.heap.get? b=some o->h'.get? b=some o)->Q (some (.ref s.heap.objs.size)) { s with heap:=h' }):
  aJ (bb prog w) A (iU (.ref it)) Q E s:=by
 obtain⟨h,g,J,B,os⟩:=s;obtain⟨od,H,U,I⟩:=id O;have v:oC ⟨h,g,J,B,os⟩ (.ref it) "dict_itemiterator":=⟨_,l,rfl⟩
 unfold iU;refine ab (i6 (b9 (name:=aA "__next__") v gJ
  (cF gJ v r6 ?_ (rE _))))
 refine ab (au (ab (ab ?_)))
 first|refine ab (gG v (au ?_))|refine ab (iO v (au ?_))
 refine ab (pL l rfl ?_);have G:eJ "dict_itemiterator"=true:=by decide
 simp only[G,if_true]
 show aJ _ _ (if (bc d == bQ)=true then _ else _) _ _ _;rw[aB (show ¬ ((bc d == bQ)=true) from bv)];refine ab (au (ab (fF H I ?_)));rw[aB (by simp)];refine ab (au (ab (kh H I ?_)));rw[aB (by simp)];refine au ?_;simp only[show ¬ ((i:Int) < 0) from by ext,if_false,bo,L];refine ab ?_
 first|refine ab (gG v (au ?_))|refine ab (iO v (au ?_))
 refine ab (oD v ?_)
 show aJ _ _ (zK (.ref it) 3 (fB ((i:Int)+1)) >>= _) _ _ ⟨h,g,J,B,os⟩;refine ab (dj l (by simp) λh₁ he₁ hs₁=>?_)
 replace hs₁:cO it h h₁:=hs₁
 replace he₁:iC h₁ it d (i+1) es.size ep ok C:=by
  have e:((i+1:Nat):Int)=(i:Int)+1:=by ext
  unfold iC;rw[e];simpa [fB] using he₁
 have hT₁:oC ⟨h₁,g,J,B,os⟩ (.ref it) "dict_itemiterator":=⟨_,he₁,rfl⟩
 refine ab (c_ (ab (oD hT₁ (ab (oD hT₁ ?_)))))
 show aJ _ _ (mn (.ref it) 6 c.key c.val) _ _ ⟨h₁,g,J,B,os⟩;unfold mn;refine ab (wpAny_newTuple ?_);have he₂:iC (h₁.push { cls:=.type "tuple",data:=.seq #[c.key,c.val] }) it d (i+1) es.size ep ok C:=aq _ he₁;generalize hh₂:h₁.push { cls:=.type "tuple",data:=.seq #[c.key,c.val] }=h₂ at he₂;have hz₁:h₁.objs.size=h.objs.size:=hs₁.1;have q:it < h.objs.size:=aK l;have ht₂:h₂.get? h.objs.size=some { cls:=.type "tuple",data:=.seq #[c.key,c.val] }:=by rw[<- hh₂,<- hz₁];exact aF _ rfl
 have hz₂:h₂.objs.size=h.objs.size+1:=by rw[<- hh₂,cq,hz₁]
 have hk₂:∀b o,b≠it->h.get? b=some o->h₂.get? b=some o:=λb o u e=>by rw[<- hh₂];exact aq _ (hs₁.extBut b o u e)
 show aJ _ _ (lU (.ref it) >>= _) _ _ ⟨h₂,g,J,B,os⟩;rw[hz₁];clear hh₂ he₁ hs₁ hT₁ hz₁ h₁;refine ab ?_;unfold lU;refine ab (cU he₂ rfl (x:=.none) rfl (au ?_));simp only[if_true];refine ab (cU he₂ rfl (x:=ok) rfl (ab (cU he₂ rfl (x:=C) rfl ?_)));refine ab (dj he₂ (by simp) λh₃ he₃ hs₃=>?_)
 replace hs₃:cO it h₂ h₃:=hs₃
 replace he₃:iC h₃ it d (i+1) es.size ep c.key C:=he₃
 refine ab (dj he₃ (by simp) λh₄ he₄ hs₄=>?_)
 replace hs₄:cO it h₃ h₄:=hs₄
 replace he₄:iC h₄ it d (i+1) es.size ep c.key c.val:=he₄
 refine ab (dj he₄ (by simp) λh₅ he₅ hs₅=>?_)
 replace hs₅:cO it h₄ h₅:=hs₅
 replace he₅:wg h₅ it d (i+1) es.size ep c.key c.val h.objs.size:=he₅
 refine ab (dj he₅ (by simp) λh₆ he₆ hs₆=>?_)
 replace hs₆:cO it h₅ h₆:=hs₆
 replace he₆:wg h₆ it d (i+1) es.size ep c.key c.val h.objs.size:=he₆
 refine ab (iA (au (au ⟨_,rfl,au (Y h₆ he₆ ?_ ?_ ?_)⟩)))
 ·exact hs₆.extBut _ _ (eE q) (hs₅.extBut _ _ (eE q) (hs₄.extBut _ _ (eE q) (hs₃.extBut _ _ (eE q) ht₂)))
 ·show h₆.objs.size=h.objs.size+1;rw[hs₆.1,hs₅.1,hs₄.1,hs₃.1,hz₂]
 ·exact λb o u e=>hs₆.extBut b o u (hs₅.extBut b o u (hs₄.extBut b o u (hs₃.extBut b o u (hk₂ b o u e))))
theorem XY{ok q:af}{Q:Option af->ao->Prop}(hh:A.handled=none)(c:iC s.heap it d i es.size ep ok q)(v:mv s.heap d es ep)(u:es[i]?=none)
  (C:∀h',l_ it s.heap h'->Q none { s with heap:=h' }):aJ (bb prog w) A (iU (.ref it)) Q E s:=by
 obtain⟨G,l,B,o⟩:=id v;have g:s.TypeIs (.ref it) "dict_itemiterator":=⟨_,c,rfl⟩
 unfold iU;refine ab (i6 (b9 (name:=aA "__next__") g gJ
  (cF gJ g r6 ?_ (rE _))))
 refine ab (au (ab (ab ?_)))
 first|refine ab (gG g (au ?_))|refine ab (iO g (au ?_))
 refine ab (pL c rfl ?_);have h:eJ "dict_itemiterator"=true:=by decide
 simp only[h,if_true]
 show aJ _ _ (if (bc d == bQ)=true then _ else _) _ _ s;rw[aB (show ¬ ((bc d == bQ)=true) from bv)];refine ab (au (ab (fF l o ?_)));rw[aB (by simp)];refine ab (au (ab (kh l o ?_)));rw[aB (by simp)];refine au ?_;simp only[show ¬ ((i:Int) < 0) from by ext,if_false,bo,u];refine ab ?_
 first|refine ab (gG g (au ?_))|refine ab (iO g (au ?_))
 show aJ _ _ (zK (.ref it) 2 .none >>= _) _ _ s;refine ab (mI c rfl (by simp) ?_)
 show aJ _ _ (xE (.type "StopIteration") [] >>= _) _ _ _;refine ab ?_;simp only[xE,newTuple];refine ab (cg ?_ (by size_fits));refine ab (m:=kL _ _) (pI (a:=bQ) (by first|rfl|(simp only[kL];rfl)) ?_);refine cg ?_ (by size_fits);simp only[raiseNew];refine ab (wa ?_);rw[show A.in1.handled=none from hh];refine ab (au (zH ?_));refine ab (fO (T:="StopIteration") (b:=true) ⟨_,aF _ rfl,rfl⟩ pJ ?_);exact au (C _ (((cu ..).extBut.push _).push _))
end
def Hf(a:aj)(n:Nat):It:=
 ⟨λi H=>∃c p,H a=some (iH a c)/\c.length=n/\c[i]?=some p,λi H x g=>∃T k v,x=.ref T/\H T=none/\(∀c,H a=some (iH a c)->∃p,c[i]?=some p/\p.2.1=k/\p.2.2=v)/\g=fJ H T (.tup [.ref k,v]),λi H=>∃c,H a=some (iH a c)/\c.length=n/\n<=i⟩
section
variable{X:Cx}{ar:List (aj×Obj)}{σ:St}{H:Hp}{s:ao}{a:aj}
theorem EW{g:List (NK×aj×V)}(I:Inv X ar σ H s)(e:H a=some (iH a g)):
  (a == cX)=false/\∃c,mv s.heap a c g.length/\c.size=g.length/\∀(i:Nat)(p:NK×aj×V),g[i]?=some p->∃h:iJ,c[i]?=some h/\h.key=.ref p.2.1/\RelV p.2.2 h.val:=by
 obtain⟨⟨z,y,xs,l,o,c,ep,L,J,G,v,U,E⟩,Q,O⟩:=(show eS X.prog X.w H s.heap a (iH a g) from I.hok a _ e)
 have u:g.length=xs.length:=di l;subst E;refine⟨y,c,⟨o,L,J,by rw[u];exact G⟩,?_,λi p C=>?_⟩
 ·rw[u,<- d_,v,ae]
 ·obtain⟨q,B,r⟩:=Es l C;refine⟨zx q,by rw[<- dQ,v,ak,B];rfl,?_,r.2.2⟩;rw[r.2.1];rfl
theorem UJ{G ys:List (NK×aj×V)}(I:Inv X ar σ H s)(e:H a=some (iH a G))(e':H a=some (iH a ys)){i:Nat}{p:NK×aj×V}(h:G[i]?=some p):∃q,ys[i]?=some q/\q.2.1=p.2.1/\q.2.2=p.2.2:=by
 obtain⟨_,x1,o,z1,U⟩:=EW I e;obtain⟨_,x2,l,z2,Q⟩:=EW I e';obtain⟨o1,Y,_,d1⟩:=o;obtain⟨o2,E,_,g⟩:=l;rw[Y]at E;cases E;rw[d1]at g;injection g with g d3
 subst g;have C:i < ys.length:=by rw[<- d3];exact (ac.mp h).1
 obtain⟨u,hu,O,L⟩:=U i p h;obtain⟨v,B,c,J⟩:=Q i _ (ai C);rw[hu]at B;cases B;rw[O]at c;injection c with c
 exact⟨_,ai C,c.symm,RelV.inj J L⟩
end
theorem VZ{P:Program}{w:bN}{K:ah}{ts:List Expr}{k:Nat}{pos:Pos}(a l:aj)(n:Nat):t8 P w K (.Tuple ts k pos) (Hf a n) [l] l (λi h=>∃ok L,iC h l a i n n ok L) where
 mem:=by simp
 obj:=λi h pq141 b B=>by
  obtain⟨ok,L,st⟩:=pq141;have e:b=l:=by simpa using B
  subst e;exact⟨_,st,λv z=>by cases z⟩
 keep:=λi h h' pq142 k=>by obtain⟨ok,L,st⟩:=pq142;exact⟨ok,L,k l (by simp) _ st⟩
 item:=by
  intro X hP hw hK hc i O s σ H E I hf pq171 hg;obtain⟨ok,L,st⟩:=pq171;subst hP hw hK;obtain⟨es,p,hq,hn,hx⟩:=hg;obtain⟨_,G,en,hz,hk⟩:=EW I hq;obtain⟨u,hu,ku,ru⟩:=hk i p hx;obtain⟨f0,f1,f2,f3,f4,f5⟩:=hf l (by simp);subst hn;have U:iC s.heap l a i G.size es.length ok L:=by rw[hz];exact st
  refine U5 U en hu λh' ho hT hsz hk'=>?_;refine⟨_,rfl,wpAny_letOwnedTupleGo_items ho λh2 he2 hs2=>?_⟩;have hit:l < s.heap.objs.size:=aK st;have C:H s.heap.objs.size=none:=I.hok.fresh (ay _);have keep:∀b o,b≠l->s.heap.get? b=some o->h2.get? b=some o:=λb o B J=>(hs2.2 b B).trans (hk' b o B J);have hT2:h2.get? s.heap.objs.size=some { cls:=.type "tuple",data:=.seq #[u.key,u.val] }:=(hs2.2 _ (eE hit)).trans hT;have ne:∀b o,H b=some o->b≠l:=λb o q z=>by rw[z,f0]at q;cases q
  have I2:Inv X O σ (fJ H s.heap.objs.size (.tup [.ref p.2.1,p.2.2])) { s with heap:=h2,toks:=s.toks }:=by
   refine I.step (g':=s.gens) (d':=s.drawn) (ch:=[l]) (λb B=>?_) (λb o _ _ g J _=>keep b o (λz=>g (by simp[z])) J)
    (λb o _ _ g J _=>⟨o.slots,keep b o (λz=>g (by simp[z])) J⟩) (λb o g J n1=>by rw[fZ (bz (aK J))];exact n1) (λb o g J=>⟨o,keep b o (λz=>g (by simp[z])) J⟩)
    (λb ys q=>by rw[fZ (mR q C)];exact q) (λb o ys q=>by rw[fZ (mR q C)];exact q) (λb ps q=>⟨#[],by rw[fZ (mR q C),q];simp⟩) (λm hm=>?_) ?_ I.bare
   ·have c:b=l:=by simpa using B
    subst c;exact⟨f3,f1,f4,f5⟩
   ·obtain⟨o,G,ep,J,r⟩:=hm;exact⟨o,G,ep,keep _ o f1.symm J,r⟩
   ·intro b o q;by_cases B:b=s.heap.objs.size
    ·subst B;rw[ky]at q;cases q;exact⟨by show 2<=sizeLine;decide,[u.key,u.val],.cons ku (.cons ru .nil),⟨_,hT2,rfl,⟨_,rfl⟩,rfl⟩⟩
    ·rw[fZ B]at q;have:=ne b o q;refine (I.hok b o q).stay (λc v g r=>keep c v ?_ r) (λc Y=>by rw[fZ (mR Y C)];exact Y) λc ys Y=>by rw[fZ (mR Y C)];exact Y
     rcases g with z|z
     ·rw[z];exact this
     ·exact ne c _ z
  refine⟨.ref s.heap.objs.size,_,I2,rfl,⟨_,p.2.1,p.2.2,rfl,C,λys hy=>UJ I hq hy hx,rfl⟩,⟨_,_,by rw[hz]at he2;exact he2⟩,λb B=>?_⟩;rw[fZ]
  ·exact (hf b B).1
  ·intro z;have Y:b=l:=by simpa using B
   rw[<- z,Y]at hit;exact bq hit (cn _)
 done:=by
  intro X hP hw hK hc i O s σ H E I hf pq172 hg;obtain⟨ok,L,st⟩:=pq172;subst hP hw hK;obtain⟨es,hq,hn,hx⟩:=hg;obtain⟨_,G,en,hz,hk⟩:=EW I hq;obtain⟨f0,f1,f2,f3,f4,f5⟩:=hf l (by simp);subst hn;have U:iC s.heap l a i G.size es.length ok L:=by rw[hz];exact st
  exact XY (I.ok.hd hc) U en (by simp;ext) λh' eb=>⟨rfl,I.turned (t':=s.toks) (λb o B e=>eb b o B e) f0 f1 f3 f4 f5⟩
 self:=λA i s Q E pq143 h=>by obtain⟨ok,L,st⟩:=pq143;exact kcp_self st h
section
variable{X:Cx}{o:Expr}{fa:CE}{ts:List Expr}{k:Nat}{em ec cx:Pos}
theorem VP(ho:SE X o fa)(J:eL o "items" X.env (eval o X.env)=eval o X.env)(G:(ec.endLine == cx.line)=true):
  SI X (.Tuple ts k em) (.Call (.Attribute o "items" ec) [] [] cx) (qI fa):=by
 intro L s σ H R I E;obtain⟨ρ,l,st,lr,sr,q⟩:=E;refine wy J G (gg (ho L s σ H (λx Y=>∃a C,x=.ref a/\Y a=some (iH a C)/\R (Hf a C.length) Y) I ⟨ρ,l,st,lr,sr,(aU.bnd q).imp λd eh ρ1 Y x1 B p1 v rv=>?_⟩) λv B z=>?_)
 ·cases rv with
  |@dic a n _ h=>
   obtain⟨b,O,e,J⟩:=aU.getDc (aU.bnd p1) B;obtain⟨hb,I⟩:=aU.chk J;cases (show b=true from hb);obtain⟨C,e3,r⟩:=B.ob n a _ h e;refine⟨a,C,rfl,e3,I.ret B _ λρ H st x s q=>?_⟩;have Y:ρ[n]?=some a:=by obtain⟨τ,eτ,_⟩:=x.pre;rw[eτ];exact zY h
   obtain⟨u,l,g⟩:=s.ob n a _ Y q;have G:u.length=C.length:=by rw[NR.length g,NR.length r]
   refine⟨⟨u,l,G,by show C.length<=(O.map _).length;rw[ae,NR.length r];exact ay _⟩,λi d hd=>?_⟩;have U:i < u.length:=by rw[NR.length g];have:=(ac.mp hd).1;rw[ae]at this;exact this
   refine⟨⟨u,_,l,G,ai U⟩,λy H' z=>?_⟩;obtain⟨T,k,v,rfl,E,z,rfl⟩:=z;obtain⟨p,Q,rfl,rfl⟩:=z u l;obtain⟨q,L,o⟩:=Es g Q
   change (O.map _)[i]?=some d at hd
   rw[ak,L]at hd;cases hd;have c:Ex ρ H ρ (fJ H T (.tup [.ref p.2.1,p.2.2])):=Ex.new E;exact⟨c,s.new E,.tup (iZ.of ky) (.cons (o.2.1.mono c) (.cons (o.2.2.mono c) .nil))⟩
  |_=>exact p1.elim
 ·obtain⟨x,Y,h,G,a,C,rfl,J,H⟩:=z;cases G;obtain⟨hd,u,U,sz,_⟩:=EW h J;have q:=U;obtain⟨E,g,c,_⟩:=q;refine⟨"dict","dict.items",Ao,Aq,F.type_dict_items,U.typeIs,λb v=>by injection v with v;subst v;exact⟨E,g,c.2.1⟩,?_⟩;refine i5 rfl (vn (xD Aq U.typeIs F.entry_dict_items (F.args_dict_items_1 _) (R9 hd) ⟨⟨u,_,U⟩,?_⟩));have l:mv (B.heap.push { cls:=.type "dict_items",data:=.fields #[.ref a] }) a u C.length:=⟨E,aq _ g,c,by obtain⟨o',g',_,d'⟩:=U;rw[g]at g';cases g';exact d'⟩
  refine T0 (s:={ B with heap:=B.heap.push { cls:=.type "dict_items",data:=.fields #[.ref a] } }) ⟨_,aF _ rfl,rfl,rfl⟩ l ?_;have I:∀b o,B.heap.get? b=some o->((B.heap.push { cls:=.type "dict_items",data:=.fields #[.ref a] }).push { cls:=.type "dict_itemiterator",data:=.fields #[.none,.bool false,.ref a,.int 0 0,.int u.size 0,.int C.length 0,.none,.none] }).get? b=some o:=λb o e=>aq _ (aq _ e);have Q:B.heap.objs.size<=(B.heap.push { cls:=.type "dict_items",data:=.fields #[.ref a] }).objs.size:=by rw[cq];exact wc _
  refine⟨_,[(B.heap.push { cls:=.type "dict_items",data:=.fields #[.ref a] }).objs.size],_,Hf a C.length,Y,rfl,h.kept (t':=B.toks) I,VZ a _ C.length,⟨.none,.none,by rw[<- sz];rw[sz];exact (by rw[<- sz];exact aF _ rfl)⟩,λb hb=>?_,H⟩;have e:b=(B.heap.push { cls:=.type "dict_items",data:=.fields #[.ref a] }).objs.size:=by simpa using hb
  subst e;exact h.fpOk Q (h.hok.fresh Q)
end
def zl:xp:=λq c tg e=>vM e λo m p as v h=>v0 as λu=>F_ tg λ_ _ _ l=>wh (m=aA "items"/\(p.endLine == v.line)=true/\Ee o=true) λz=>(q.e c o).bind λf=>some ⟨qI f.1,λg=>by subst h u l;obtain⟨rfl,u,l⟩:=z;exact VP (f.2 g) (GD l) u⟩
end MM
namespace MM
open PySem PySem.Spec PyProof.Rows L2
theorem Wt(c:List (D×D))(k v:D):(lN c k v).length<=c.length+1:=by
 unfold lN;split
 ·rw[ae];exact wc _
 ·rw[aE];exact ay _
section
variable{X:Cx}{ar:List (aj×Obj)}{σ:St}{ρ:List aj}
theorem VD{H:Hp}{v:V}{d:D}{p:D×D}(r:du X.K ρ H v d)(h:G3 d=some p):∃(a:aj)(x y:V),v=.ref a/\iZ X.K H a [x,y]/\du X.K ρ H x p.1/\du X.K ρ H y p.2/\pk true p.1=true:=by
 unfold G3 at h;split at h
 ·split at h
  ·rename_i c;cases h;cases r with
   |tup hq rs=>
    cases rs with
    |cons r1 rs=>
     cases rs with
     |cons r2 rs=>
      cases rs;exact⟨_,_,_,rfl,hq,r1,r2,c⟩
  ·cases h
 ·cases h
theorem MS(hc:X.calm=true){A:bH}(hh:A.handled=none)(hu:A.units+10 < dk){R:Result->ao->Prop}(d g L:aj)(n:Nat)(ha:ρ[n]?=some d)(nL:L∉ρ)(O:List V)(all:List D):
  ∀(ds:List D)(B:List (D×D))(j:Nat)(i:Int)(tok:Tok)(s:ao)(H:Hp)(st:aX)(cp:List (D×D)),all.drop j=ds->sP ds=some B->Inv X ar σ H s->SR X.K ρ H st->st[n]?=some (.dct true cp)->H L=some (.lst O)->bJ X.K ρ H O all ->
  pC X ar H g->s.heap.IsListIter g L j->cp.length+ds.length < sizeLine ->
  (∀C G,Inv X ar σ C G->SR X.K ρ C (st.set n (.dct true (xW cp B)))->Ex ρ H ρ C->R (.ok (.ret .none)) G) ->
  ke (bb X.prog X.w) A (.builtin "dict.update.loop" ⟨[.ref d,.ref g,.int i tok,.none],[]⟩) R s
 |[],B,j,i,tok,s,H,st,cp,hd,h,I,sr,hn,hL,rs,hf,hi,hz,hR=>by
  cases h;obtain⟨f0,f1,f2,Y,U,Q⟩:=hf;obtain⟨its,rv,pl,_⟩:=I.list (ii.of hL);refine ki (b:=Builtin.«dict.update.loop») rfl ?_;rw[fR GQ _];unfold Builtin.«dict.update.loop»;simp only[];have hj:all.length<=j:=by have:=cC dP hd;simp at this;ext
  refine ab (yl (A:=A.in1) hh hi pl.isList (by rw[mU];rw[aH,<- rv.length,rs.length];exact hj) λh' hx=>?_)
  wp_walk
  refine hR H _ (I.turned (t':=s.toks) (λb o q e=>hx b o q e) f0 f1 Y U Q) ?_ Ex.refl;have:st.set n (.dct true (xW cp []))=st:=by show st.set n (.dct true cp)=st;obtain⟨h1,h2⟩:=ac.mp hn;rw[<- h2];exact List.set_getElem_self h1
  rw[this];exact sr
 |e::ds,B,j,i,tok,s,H,st,cp,hd,h,I,sr,hn,hL,rs,hf,hi,hz,hR=>by
  have hf':=hf;obtain⟨f0,f1,f2,Y,U,Q⟩:=hf;unfold sP at h;rw[tx]at h;obtain⟨p,hp1,h⟩:=h;rw[dH]at h;obtain⟨B,hps,rfl⟩:=h;obtain⟨its,rv,pl,_⟩:=I.list (ii.of hL);have hej:all[j]?=some e:=by have:=cC (·[0]?) hd;simpa using this
  obtain⟨v,hv,rve⟩:=rs.get hej;obtain⟨a,x,y,rfl,hq,rx,ry,hk⟩:=VD rve hp1;obtain⟨u,hu',ru⟩:=rv.get hv;cases ru;refine ki (b:=Builtin.«dict.update.loop») rfl ?_;rw[fR GQ _];unfold Builtin.«dict.update.loop»;simp only[];refine ab (xt (A:=A.in1) hi pl.isList (by simpa using hu') λh' l hs=>?_);have I1:Inv X ar σ H { s with heap:=h' }:=I.turned (t':=s.toks) (λb o q e=>(hs.2 b q).trans e) f0 f1 Y U Q;obtain⟨us,rus,pt,_⟩:=I1.tuple hq;obtain⟨ux,uy,rfl,r1,r2⟩:∃ux uy,us=[ux,uy]/\RelV x ux/\RelV y uy:=by
   cases rus with
   |cons r1 t=>
    cases t with
    |cons r2 t=>cases t;exact⟨_,_,rfl,r1,r2⟩
  refine ab (c_ (ab (kM (OP (s:={ s with heap:=h' }) pt ?_))));have I2:=I1.pinned (fp:=[g]) (λb q=>by rw[aI.mp q];exact hf') (λb q=>by rw[aI.mp q];obtain⟨o,J,c,dt⟩:=l;exact⟨o,J,λv z=>by rw[dt]at z;cases z⟩)
  refine c_ (VX (A:=A.in1) (by show A.units+1+2 < dk;ext) I2 sr ha hn rx hk (by simp at hz;ext) ry r1 r2 λC G I' sr' x'=>?_);refine au ⟨i9 GQ _,?_⟩;have hlt:=(ac.mp hn).1;have hi2:G.heap.IsListIter g L (j+1):=by
   obtain⟨o,J,r⟩:=l;refine⟨o,?_,r⟩;have hm:(g,o)∈ar++my [g] h':=by refine bE _ ?_;simp[my,J]
   exact (I'.pin (g,o) (bE _ hm)).1
  have hit:C g=none:=by
   obtain⟨o,J,r⟩:=l;have hm:(g,o)∈ar++my [g] h':=by refine bE _ ?_;simp[my,J]
   exact (I'.pin (g,o) (bE _ hm)).2.1
  refine MS hc hh hu d g L n ha nL O all ds B (j+1) (i+1) _ G C _ (lN cp p.1 p.2) (by rw[<- List.drop_drop,hd];rfl) hps I'.unpinned sr' (aw hlt) (x'.lst L O nL hL) (rs.mono x') ⟨hit,f1,f2,Y,U,Q⟩ hi2 (by have:=Wt cp p.1 p.2;simp at hz;ext) λH3 s3 I3 E x3=>?_;rw[List.set_set]at E;exact hR H3 s3 I3 E (x'.trans x3)
end
section
variable{X:Cx}
theorem Ni:∀{ds:List D}{ps:List (D×D)},sP ds=some ps->ps.length=ds.length
 |[],_,h=>by cases h;rfl
 |d::ds,ps,h=>by unfold sP at h;rw[tx]at h;obtain⟨p,_,h⟩:=h;rw[dH]at h;obtain⟨g,c,rfl⟩:=h;simp[Ni c]
def DL(K:ah)(g:List D->M D):List V->Hp->VK->Prop:=λxs H Q=>∃a c ρ st ds,xs=[.ref a]/\H a=some (.lst c)/\a∉ρ/\SR K ρ H st/\bJ K ρ H c ds/\aU K ρ H (g ds st) λr _ ρ' h=>∀v,du K ρ' h v r->Q v h
theorem Xe(hc:X.calm=true)(hu:X.A.units+60 < dk):CallR X (.type "dict") (DL X.K m8):=by
 intro l s σ H xs us Q I r h;obtain⟨L,vs,ρ,st,ds,rfl,hv,nL,sr,rs,p⟩:=h;obtain⟨u,rfl,rx⟩:=ut r;cases rx;unfold m8 at p;cases c:sP ds with
 |none=>rw[c]at p;exact p.elim
 |some ps=>
  rw[c]at p;obtain⟨hk,p2⟩:=aU.chk p;have hlen:=Ni c;obtain⟨its,rv,⟨⟨oc,od,odt,J⟩,n,g,c1,c2,c3⟩,hz⟩:=I.list (ii.of hv);simp only at c1 c2 c3;subst c1 c2 c3;have hh:=I.ok.hd hc;have hLd:L < s.heap.objs.size:=aK g;refine callType_codes (Q₁:=λobj s₁=>obj=.ref s.heap.objs.size/\s₁={ s with heap:=s.heap.push { cls:=.type "dict",data:=.dict #[] } }) F.kt_called_dict rfl F.entry_dict_init (kt_code_dict_new _ ⟨rfl,rfl⟩) λobj s₁ h₁=>?_;obtain⟨rfl,rfl⟩:=h₁;refine⟨⟨_,aF _ rfl,rfl⟩,F.args_dict_init_2 _ _,?_⟩;have hn:=I.hok.fresh (ay s.heap.objs.size);have I1:=I.laid (a:=s.heap.objs.size) (o:=iH s.heap.objs.size []) (h':=s.heap.push { cls:=.type "dict",data:=.dict #[] }) (t':=s.toks) (λ_ _ q=>aq _ q) (ay _)
   (E5 (P:=X.prog) (w:=X.w) (xs:=[]) (bY _) (beq_eq_false_iff_ne.mpr (bX (bz I.big))) .nil (tG s.heap) ⟨_,_,aF _ rfl,rfl⟩)
  have x0:Ex ρ H (ρ++[s.heap.objs.size]) (fJ H s.heap.objs.size (iH s.heap.objs.size [])):=Ex.newO hn;have s0:SR X.K (ρ++[s.heap.objs.size]) (fJ H s.heap.objs.size (iH s.heap.objs.size [])) (st++[.dct true []]):=(sr.new hn).keepO (sr.fresh hn) ⟨[],ky,.nil⟩;have C:(ρ++[s.heap.objs.size])[st.length]?=some s.heap.objs.size:=by rw[<- sr.len];simp
  have O:L≠s.heap.objs.size:=bz hLd;have hv1:fJ H s.heap.objs.size (iH s.heap.objs.size []) L=some (.lst vs):=by rw[fZ O];exact hv
  have nL1:L∉ρ++[s.heap.objs.size]:=by simp only[aV,aI,not_or];exact⟨nL,O⟩
  have Y:=rs.mono x0;have E:(s.heap.push { cls:=.type "dict",data:=.dict #[] }).get? L=some { cls:=.type "list",data:=.seq its.toArray n,slots:=J }:=aq _ g;have hT:oC { s with heap:=s.heap.push { cls:=.type "dict",data:=.dict #[] } } (.ref L) "list":=⟨_,E,rfl⟩
  unfold Builtin.«dict.__init__»
  wp_walk using rS hT,W3 (A:=X.A.in1.in1) hh E
  intro h' U kp;have I2:Inv X l σ _ { s with heap:=h',toks:=U }:=I1.kept (t':=U) kp;simp only[Option.isNone_none,if_true];refine ab (gU ?_);have hL2:h'.get? L=some { cls:=.type "list",data:=.seq its.toArray n,slots:=J }:=kp _ _ E;refine ab (ik ⟨_,hL2,rfl,n,rfl⟩ ?_);refine au ⟨i9 GQ _,?_⟩;have I3:Inv X l σ _ { s with heap:=h'.push { cls:=.type "list_iterator",data:=.fields #[.ref L,.int 0 0] },toks:=U }:=I2.kept (t':=U) λb o e=>aq _ e;refine MS (X:=X) (A:=X.A.in1) hc hh (by show X.A.units+1+10 < dk;ext) s.heap.objs.size h'.objs.size L st.length C nL1 vs ds ds ps 0 0 0 _ _ _ [] rfl c I3 s0 (by simp) hv1 Y (I2.fpOk (ay _) (I2.hok.fresh (ay _))) ⟨_,aF _ rfl,rfl,rfl⟩ (by rw[mX];simp;ext) λG s' I' B x'=>?_;refine⟨rfl,.ref s.heap.objs.size,G,I',rfl,?_⟩;have e1:(st++[MO.dct true []]).set st.length (.dct true (xW [] ps))=st++[.dct true (xW [] ps)]:=by simp
  rw[e1]at B;have p3:∀ρ' G,Ex ρ H ρ' G->SR X.K ρ' G (st++[.dct true (xW [] ps)])->∀v,du X.K ρ' G v (.dic st.length)->Q v G:=p2;obtain⟨es,ee,_⟩:=B.ob st.length _ (.dct true (xW [] ps)) C (by simp);exact p3 _ G (x0.trans x') B _ (.dic ⟨_,ee,.inr rfl⟩ C)
theorem Sb{e:Expr}{v:CA}{x:Str}{p pos:Pos}(U:CallR X (.type "dict") (DL X.K m8))(O:Gl X x)(L:X.mg x=none)(h:cV x=some (.type "dict"))(u:SL X e v)(J:x≠"__name__")(o:(x == ("__debug__":Str))=false)
  (q:starEach [e] X.env=[(false,eval e X.env)]):SE X (.Call (.Name x p) [e] [] pos) (gY m8 v):=
 (EG U O L h (rA u uk q) J o q rfl).of λσ H Q Y=>Y.el λρ l st I sr p=>⟨ρ,l,st,I,sr,p.bnd.imp λds c ρ1 H1 x1 C E a B u G h g=>⟨a,B,ρ1,c,ds,rfl,h,G,C,g,E⟩⟩
end
def B6:lj:=sU "dict" (λc p=>c.tag p 21) m8 λc u g m a s=>Sb (Xe c u) g m (by nofun) a (ui (by nofun)) (by nofun) s
section
variable{prog:Program}{w:bN}{A:bH}{R:Result->ao->Prop}{I:aj}{fp wr:List aj}{n:Nat}{P:Nat->af->Prop}{St:Nat->bK->Prop}{kw:List (Str×af)}{Kp:bK->Prop}
theorem UF(W:Walks prog w A.in1 I fp wr n P St)(bt:Nat->Nat->Bool)(hcmp:A6 prog w A.in1 .Gt P Kp bt)(S:aj)(hSf:S∉fp)
  (kp:∀h h':bK,Kp h->(∀b o,b∉wr->b≠S->h.get? b=some o->h'.get? b=some o)->Kp h'):
  ∀(k j:Nat)(s:ao)(G:af)(c:Nat),n-(j+1)=k->j+1<=n->St (j+1) s.heap->P (mZ bt j) G->Kp s.heap ->
  s.heap.get? S=some { cls:=.type "list",dict:=none,data:=.seq #[G,G] c,slots:=#[] } ->
  (∀v h' tk,P (mZ bt (n-1)) v->(∀b o,b∉wr->b≠S->s.heap.get? b=some o->h'.get? b=some o)->R (.ok (.ret v)) { s with heap:=h',toks:=tk }) ->
  ke (bb prog w) A (.builtin "max.loop" ⟨[.ref I,.none,.ref S],kw⟩) R s:=by
 have hSw:S∉wr:=λh=>hSf (W.sub _ h);have B:(toString "max"++toString ".loop":String)="max.loop":=by decide
 intro k
 induction k with
 |zero=>
  intro j s G c hk hj L H hK hS hR;have hin:j+1=n:=by ext
  refine ki iW ?_;rw[fR cZ _]
  show aJ _ A.in1 (lc (.ref S) >>= _) _ _ s;refine ab (dA hS rfl ?_)
  show aJ _ A.in1 (tryCatch (iU (.ref I)) _ >>= _) _ _ s;refine ab (kM (W.done s _ _ (hin ▸ L) λh' tk l=>?_));have E:=l S _ hSw hS
  show aJ _ A.in1 (updateSeq S (λ_=>#[]) >>= _) _ _ _;refine ab ?_;refine ug E rfl (ab (iA (au ?_)));refine hR G _ tk (by rw[<- hin];exact H) λb o q g e=>(da _ _ (bX g)).trans (l b o q e)
 |succ k ih=>
  intro j s G c hk hj L H hK hS hR;have O:j+1 < n:=by ext
  refine ki iW ?_;rw[fR cZ _]
  show aJ _ A.in1 (lc (.ref S) >>= _) _ _ s;refine ab (dA hS rfl ?_)
  show aJ _ A.in1 (tryCatch (iU (.ref I)) _ >>= _) _ _ s;refine ab (kM (W.item (j+1) s _ _ O L λv h' tk hP J l=>?_));have E:=l S _ hSw hS;have U:Kp h':=kp _ _ hK λb o hb _ e=>l b o hb e
  show aJ _ A.in1 (tryCatch (lw [v,v] (richCompare .Gt v G >>= _)) _ >>= _) _ _ _;refine ab (kM (c_ (ab (hcmp (j+1) (mZ bt j) v G _ _ _ U hP H ?_))));refine ab (c_ (fD ?_));refine ab (iA (au ?_));cases hb:bt (j+1) (mZ bt j) with
  |true=>
   simp only[if_true];refine ab ?_;refine ug E rfl (ab (iA ?_));rw[B];refine au ⟨i9 cZ _,ih (j+1) _ v _ (by ext) O (W.frame _ _ _ J λb hbf o e=>?_) (by simp only[mZ,hb,if_true];exact hP) (kp _ _ U λb o _ g e=>(da _ _ (bX g)).trans e) (cG _ E rfl)
    λv' Y u Q C=>?_⟩
   ·exact (da _ _ (λh:S=b=>hSf (by rw[h];exact hbf))).trans e
   ·exact hR v' Y u Q λb o q g e=>C b o q g ((da _ _ (bX g)).trans (l b o q e))
  |false=>
   simp only[aY,if_false];refine ab (iA ?_);rw[B];refine au ⟨i9 cZ _,ih (j+1) _ G c (by ext) O J (by simp only[mZ,hb,aY,if_false];exact H) U E λv' Y u Q C=>?_⟩;exact hR v' Y u Q λb o q g e=>C b o q g (l b o q e)
theorem SJ(W:Walks prog w A.in1 I fp wr n P St)(bt:Nat->Nat->Bool)(G:A6 prog w A.in1 .Gt P Kp bt)(S:aj)(u:S∉fp)
  (L:∀h h':bK,Kp h->(∀b o,b∉wr->b≠S->h.get? b=some o->h'.get? b=some o)->Kp h') (hn:0 < n) {s:ao}{c:Nat} (O:St 0 s.heap) (hK:Kp s.heap)
  (hS:s.heap.get? S=some { cls:=.type "list",dict:=none,data:=.seq #[] c,slots:=#[] })
  (hR:∀v h' tk,P (mZ bt (n-1)) v->(∀b o,b∉wr->b≠S->s.heap.get? b=some o->h'.get? b=some o)->R (.ok (.ret v)) { s with heap:=h',toks:=tk }):
  ke (bb prog w) A (.builtin "max.loop" ⟨[.ref I,.none,.ref S],kw⟩) R s:=by
 have U:S∉wr:=λh=>u (W.sub _ h);have l:(toString "max"++toString ".loop":String)="max.loop":=by decide
 refine ki iW ?_;rw[fR cZ _]
 show aJ _ A.in1 (lc (.ref S) >>= _) _ _ s;refine ab (dA hS rfl ?_)
 show aJ _ A.in1 (tryCatch (iU (.ref I)) _ >>= _) _ _ s;refine ab (kM (W.item 0 s _ _ hn O λv h' tk hP C q=>?_));have J:=q S _ U hS;have hK':Kp h':=L _ _ hK λb o hb _ e=>q b o hb e
 show aJ _ A.in1 (updateSeq S (λ_=>#[v,v]) >>= _) _ _ _;refine ab ?_;refine ug J rfl ?_;rw[l];refine au ⟨i9 cZ _,UF W bt G S u L _ 0 _ v _ rfl hn (W.frame _ _ _ C λb Q o e=>?_) hP (L _ _ hK' λb o _ g e=>(da _ _ (bX g)).trans e) (cG _ J rfl) λv' h'' B Y E=>?_⟩
 ·exact (da _ _ (λh:S=b=>u (by rw[h];exact Q))).trans e
 ·exact hR v' h'' B Y λb o H g e=>E b o H g ((da _ _ (bX g)).trans (q b o H e))
end
section
variable{prog:Program}{w:bN}{A:bH}{E:af->ao->Prop}{s:ao}
theorem MP(a v:af):argsOk "max" ⟨[a],[(aA "default",v)]⟩:=by unfold argsOk;kernel_rfl
theorem VG{l:aj}{items:Array af}{dv:Option af}{Q:af->ao->Prop}(hh:A.handled=none)(G:s.heap.IsList l items)(O:0 < items.size)(L:Nat->Nat->Bool)
  (u:A6 prog w A.in1 .Gt (λi v=>items[i]?=some v) (λh=>∀b o,s.heap.get? b=some o->h.get? b=some o) L)
  (U:∀v h' C,items[mZ L (items.size-1)]?=some v->(∀b o,s.heap.get? b=some o->h'.get? b=some o)->Q v { s with heap:=h',toks:=C }):
  aJ (bb prog w) A (call (.builtin "max") [.ref l] (dv.toList.map λd=>(aA "default",d))) Q E s:=by
 have c:(toString "max"++toString ".loop":String)="max.loop":=by decide
 have q:l < s.heap.objs.size:=by obtain⟨_,e,_⟩:=G;exact aK e
 refine rg wj vy vz (by cases dv with|none=>exact PySem.F.args_max1 _|some d=>exact MP _ _) ?_;have I:fY "max" ["key","default"] 0 ⟨[],dv.toList.map λd=>(aA "default",d)⟩=pure [none,dv]:=by cases dv<;>rfl
 show aJ _ A.in1 (fY "max" ["key","default"] 0 ⟨[],dv.toList.map λd=>(aA "default",d)⟩ >>= _) _ _ s;refine ab (pI I ?_);refine ab (au ?_);refine ab (ik G ?_);refine ab (cg ?_);have B:s.heap.objs.size < (s.heap.push { cls:=.type "list_iterator",data:=.fields #[.ref l,.int 0 0] }).objs.size:=by rw[cq];exact kK _
 have J:(s.heap.push { cls:=.type "list_iterator",data:=.fields #[.ref l,.int 0 0] }).objs.size∉[s.heap.objs.size,l]:=λg=>by
  rcases bn.mp g with e|g
  ·exact eE B e
  ·rw[aI.mp g]at B;exact bq (nu q B) (cn _)
 rw[c];refine au ⟨i9 cZ _,SJ (Kp:=λh=>∀b o,s.heap.get? b=some o->h.get? b=some o) (v_ (A:=A.in1) hh s.heap.objs.size l (bz q) items) L u _ J (λh h' hK H b o e=>H b o (λg=>?_) (λz=>?_) (hK b o e)) O ?_ ?_ (aF _ rfl) λv h' C Y H=>?_⟩
 ·exact bq (aK e) (by rw[aI.mp g];exact cn _)
 ·subst z;exact bq (nu (aK e) B) (cn _)
 ·exact⟨⟨_,aq _ (aF _ rfl),rfl,rfl⟩,(G.push _).push _⟩
 ·exact λb o e=>aq _ (aq _ e)
 ·refine U v h' C Y λb o e=>H b o (λg=>?_) (λz=>?_) (aq _ (aq _ e))
  ·exact bq (aK e) (by rw[aI.mp g];exact cn _)
  ·subst z;exact bq (nu (aK e) B) (cn _)
theorem Ql{l:aj}{items:Array af}{dv:af}{Q:af->ao->Prop}(hh:A.handled=none)(q:s.heap.IsList l items)(B:items.size=0)
  (G:∀(h':bK)(g:Nat),(∀b o,s.heap.get? b=some o->h'.get? b=some o)->Q dv { s with heap:=h',toks:=g }):
  aJ (bb prog w) A (call (.builtin "max") [.ref l] [(aA "default",dv)]) Q E s:=by
 have c:(toString "max"++toString ".loop":String)="max.loop":=by decide
 have h:l < s.heap.objs.size:=by obtain⟨_,e,_⟩:=q;exact aK e
 refine rg wj vy vz (MP _ _) ?_;have v:fY "max" ["key","default"] 0 ⟨[],[(aA "default",dv)]⟩=pure [none,some dv]:=rfl
 show aJ _ A.in1 (fY "max" ["key","default"] 0 ⟨[],[(aA "default",dv)]⟩ >>= _) _ _ s;refine ab (pI v ?_);refine ab (au ?_);refine ab (ik q ?_);refine ab (cg ?_);have H:s.heap.objs.size < (s.heap.push { cls:=.type "list_iterator",data:=.fields #[.ref l,.int 0 0] }).objs.size:=by rw[cq];exact kK _
 rw[c];have W:=v_ (prog:=prog) (w:=w) (A:=A.in1) hh s.heap.objs.size l (bz h) items;refine au ⟨i9 cZ _,ki iW ?_⟩;rw[fR cZ _]
 show aJ _ A.in1 (lc (.ref (s.heap.push { cls:=.type "list_iterator",data:=.fields #[.ref l,.int 0 0] }).objs.size) >>= _) _ _ _;refine ab (dA (aF _ rfl) rfl ?_)
 show aJ _ A.in1 (tryCatch (iU (.ref s.heap.objs.size)) _ >>= _) _ _ _;refine ab (kM (W.done _ _ _ ?_ λh' g u=>?_))
 ·rw[B];exact⟨⟨_,aq _ (aF _ rfl),rfl,rfl⟩,(q.push _).push _⟩
 ·show aJ _ A.in1 (PySem.rule _ >>= _) _ _ _;refine ab (gU (au ?_));refine G h' g λb o e=>u b o (λC=>?_) (aq _ (aq _ e));exact bq (aK e) (by rw[aI.mp C];exact cn _)
end
section
variable{X:Cx}{ar:List (aj×Obj)}{σ:St}{H:Hp}{s:ao}
theorem RA(hc:X.calm=true)(I:Inv X ar σ H s){l:aj}{n:Int}{c:List Int}{dv:af}{Q:VK}(h:ii X.K H l ((n::c).map V.int))(q:Q (.int (c.foldl max n)) H):aJ (bb X.prog X.w) X.A (call (.builtin "max") [.ref l] [(aA "default",dv)]) (EP X ar σ Q) X.xe s:=by
 obtain⟨its,rv,pl,hz⟩:=I.list h;obtain⟨ys,e,g⟩:=L9 (Ka rv);have C:=pl.isList;rw[e]at C;have hsz:ys.size=c.length+1:=by have:=cC dP g;simpa using this.symm
 refine VG (dv:=some dv) (I.ok.hd hc) C (by simp[uU];ext) (λi j=>decide (nX ys i > nX ys j)) (λi j U O s' Q E _ h1 h2 h=>CmpOf.ints_gt (P:=λi v=>(uU ys)[i]?=some v) (nX ys) (λ_ _=>zF) i j U O s' Q E h1 h2 h) λv h' Y B hk=>?_;have e2:(uU ys).size=ys.size:=by simp[uU]
 rw[e2]at B;obtain⟨t,rfl⟩:=zF B;obtain⟨b1,L⟩:=argBest_gt (nX ys) (ys.size-1);obtain⟨J,f2⟩:=Ja c n;generalize mZ (λi j=>decide (nX ys i > nX ys j)) (ys.size-1)=k at b1 L ⊢;have o:nX ys k∈n::c:=by rw[g,zG];exact getD_mem (by rw[<- g];simp;ext)
 have u:c.foldl max n<=nX ys k:=by rw[g]at J;obtain⟨j,G,ej⟩:=mem_getD J;rw[<- ej,<- zG];exact L j (by rw[<- g]at G;simp at G;ext)
 have:nX ys k=c.foldl max n:=Am (f2 _ o) u;rw[this];exact⟨.int (c.foldl max n),H,I.kept (t':=Y) hk,⟨t,rfl⟩,q⟩
end
section
variable{X:Cx}{e d:Expr}{ca:CA}{fd:CE}{p pos kp:Pos}
theorem VH(hc:X.calm=true)(hg:Gl X "max")(hm:X.mg "max"=none)(hv:cV "max"=some (.builtin "max"))(ha:SL X e ca)(hd:SE X d fd)
  (he:starEach [e] X.env=[(false,eval e X.env)]:=by rfl):SE X (.Call (.Name "max" p) [e] [⟨some "default",d,kp⟩] pos) (sy ca fd):=by
 intro E s σ H Q I h;obtain⟨ρ,l,st,lr,sr,q⟩:=h;have O:backTo pos (starEach [e] X.env)=(false,eval e X.env)::backTo pos (starEach [] X.env):=by rw[he];rfl
 refine gR (zP I hg hm hv ?_ (by decide) (by decide));refine PyProof.Rows.callWith_kw (e:=e) (rest:=[]) (kws:=[⟨some "default",d,kp⟩]) ?_ O (by rw[O];rfl) rfl rfl;rw[O]
 show aJ _ _ (spliced [(false,eval e X.env)]) _ _ s;unfold sy at q;refine vZ (gg (ha E s σ H (λx J=>∃a B ρ1 c ds,x=.ref a/\J a=some (.lst B)/\a∉ρ1/\SR X.K ρ1 J c/\bJ X.K ρ1 J B ds/\LR X.K ρ1 J σ l/\aU X.K ρ1 J (bnd (fd l) (λd=>if ds.length=0 then ret d else mz ds) c) λd x ρ' H'=>∀(v:V),du X.K ρ' H' v d->Q v H') I
  ⟨ρ,l,st,lr,sr,q.bnd.imp λds c ρ1 J x1 s1 q1 a B na0 na hl L=>⟨a,B,ρ1,c,ds,rfl,hl,na,s1,L,lr.mono x1,q1⟩⟩) λu s1 ⟨x,J,I1,r1,a,B,ρ1,c,ds,ex,hl,na,sr1,L,lr1,q1⟩=>ww ?_)
 subst ex;cases r1;refine PyProof.Rows.kws_cons (gg (hd E s1 σ J (λy G=>∃ρ2 g dd,SR X.K ρ2 G g/\G a=some (.lst B)/\bJ X.K ρ2 G B ds/\du X.K ρ2 G y dd/\aU X.K ρ2 G ((if ds.length=0 then ret dd else mz ds) g) λd x ρ' H'=>∀(v:V),du X.K ρ' H' v d->Q v H') I1
  ⟨ρ1,l,c,lr1,sr1,q1.bnd.imp λdd g ρ2 G x2 s2 o v rv=>⟨ρ2,g,dd,s2,x2.lst a B na hl,L.mono x2,rv,o⟩⟩) λw s2 ⟨y,G,I2,r2,ρ2,g,dd,U,Y,C,ry,o⟩=>PyProof.Rows.kws_nil ?_)
 show aJ _ _ (call (.builtin "max") [.ref a] [(aA "default",w)]) _ _ s2;by_cases h0:ds.length=0
 ·rw[aD h0]at o;obtain⟨its,rv,g,hz⟩:=I2.list (ii.of Y);have q:=rv.length;have l:=C.length;exact Ql (I2.ok.hd hc) g.isList (by rw[aH];ext) λh' c h=>⟨y,G,I2.kept (t':=c) h,r2,o.ret U y ry⟩
 ·rw[aB h0]at o;unfold mz at o;cases e:m6 ds with
  |none=>rw[e]at o;exact o.elim
  |some ps=>
   rw[e]at o;have:=Jk e C;subst this;cases ps with
   |nil=>exact o.elim
   |cons n ns=>exact RA hc I2 (ii.of Y) (o.ret U _ (.int _))
end
def Eb:lj:=λq c e=>HR e λf as ks _ h=>zR f λy _ E=>v1 as λa C=>v1 ks λk B=>wh (y=aA "max"/\k.arg=some (aA "default")/\c.bl y=true/\qX a=true) λz=>(q.l c a).bind λu=>(q.e c k.value).bind λo=>some ⟨sy u.1 o.1,λg=>by obtain⟨H,d,G⟩:=k;subst h E C B;obtain⟨rfl,rfl,l,v⟩:=z;exact VH g.S.calm (g.gl l).1 (g.gl l).2 (by nofun) (u.2 g) (o.2 g) (qV v)⟩
end MM
namespace My
open PySem MM
noncomputable def top(i:Nat):Stmt:=kr.main.body.getD i (.Pass ⟨0,0,0,0⟩)
noncomputable def tS:aX:=[.tbl "most_deeds" "worth"]
def jV: CS :=
  (aQ (eV (c2 aR (c2 aR (c2 aR (am 0) (am 1)) (am 2)) (aN (.int 0))))
  ba)
@[irreducible] def jk:List D->M D:=b8 3 jV
def yf: CS :=
  (aQ (eV (c2 aR (c2 aR (c2 aR (am 0) (am 1)) (am 2)) (aN (.int 1))))
  ba)
@[irreducible] def jF:List D->M D:=b8 3 yf
def j2: CS :=
  (aQ (b_ (aS 1) (dZ (fU (ax (dU bu) bu))))
  (aQ (kC (ic (c2 aR (am 0) (aN (.int 1)))) (aS 2)
   (aQ (b_ (aS 3) (dZ (fU bu)))
   (aQ (kC (ic (am 1)) (aS 4)
    (aQ (iF (dJ (am 3) (c2 fG (am 4) (dU (ax (aN (.int 0)) bu)))))
    (aQ (iF (dJ (am 3) (c2 fG (am 4) (dU (ax (aN (.int 1)) bu)))))
    ba)))
   (aQ (b_ (aS 1) (am 3))
   ba))))
  (aQ (eV (am 1))
  ba)))
@[irreducible] def jz:List D->M D:=b8 5 j2
def yh: CS :=
  (aQ (b_ (aS 2) (gY kA (dF 2 [] (tT (c2 aR (am 0) (aN (.int 1))) (am 1)) (iq 2 (cW (aS 0) (cW (aS 1) iD))) bR (c2 aR (c2 aR (am 0) (aN (.int 0))) (am 1)))))
  (aQ (eV (dU (ax (am 2) (ax (gY kA (dF 2 [] (ic (c2 aR (am 0) (aN (.int 0)))) (iq 2 (cW (aS 0) (cW (aS 1) iD))) bR (am 1))) bu))))
  ba))
@[irreducible] def jG:List D->M D:=b8 3 yh
def ye: CS :=
  (aQ (eV (c2 aR (c2 aR (c2 aR (c2 aR (am 0) (aN (.int 1))) (am 2)) (aN (.int 1))) (c2 aR (c2 aR (am 1) (aN (.int 0))) (am 2))))
  ba)
@[irreducible] def jb:List D->M D:=b8 3 ye
def yb: CS :=
  (aQ (eV (c2 fG (c2 fG (nB (am 0) tY (pQ (am 1))) (dU (ax (am 2) bu))) (nB (am 0) (pQ (c2 fG (am 1) (aN (.int 1)))) tY)))
  ba)
@[irreducible] def jd:List D->M D:=b8 3 yb
def jO: CS :=
  (aQ (eV (vJ (db (c2 nY (c2 aR (am 0) (aN (.int 0))) (aN (.str "settle")))) (c2 aR (am 0) (aN (.int 1))) (aN .non)))
  ba)
@[irreducible] def je:List D->M D:=b8 1 jO
def jP: CS :=
  (aQ (b_ (gP (am 2) (am 1)) (aN (.bl true)))
  (aQ (b_ (aS 4) (dZ (fU (ax (am 1) bu))))
  (aQ (b_ (aS 5) (dZ (fU (ax (aN (.int 0)) bu))))
  (aQ (kW (db (c2 wV (c1 gD (am 4)) (aN (.int 0))))
   (aQ (b_ (aS 6) (c2 aR (am 4) (c1 t9 (aN (.int 1)))))
   (aQ (n8 (db (c2 nY (c2 aR (am 5) (c1 t9 (aN (.int 1)))) (c1 gD (c2 aR (am 0) (am 6)))))
    (aQ (iF (dJ (am 3) (am 6)))
    (aQ (iF (uF (am 4)))
    (aQ (iF (uF (am 5)))
    ba)))
    (aQ (b_ (aS 7) (c2 aR (c2 aR (c2 aR (am 0) (am 6)) (c2 aR (am 5) (c1 t9 (aN (.int 1))))) (aN (.int 1))))
    (aQ (t5 (am 5) (c1 t9 (aN (.int 1))) (aN (.int 1)))
    (aQ (n8 (pM (qW (c2 aR (am 2) (am 7))))
     (aQ (b_ (gP (am 2) (am 7)) (aN (.bl true)))
     (aQ (iF (dJ (am 4) (am 7)))
     (aQ (iF (dJ (am 5) (aN (.int 0))))
     ba)))
     ba)
    ba))))
   ba)))
  ba))))
@[irreducible] def jn:List D->M D:=b8 8 jP
@[irreducible] def mK:FV:=(L2.dm (top 28)).getD 0 (.Pass ⟨0,0,0,0⟩)
def Ac: CS :=
  (aQ (eV (vJ (n0 (db (c2 nY (am 1) (am 3))) (db (c2 nY (c2 aR (bW jb (ax (am 2) (ax (c2 aR (c2 aR (am 4) (aN (.int 0))) (am 0)) (ax (am 1) bu)))) (aN (.int 1))) (am 5)))) (aN (.int 1)) (aN (.int 0))))
  ba)
def oQ:List D->M D:=b8 6 Ac
def rH:WT:=([],[(.dfn mK,⟨2,2,oQ⟩)])
def j0: CS :=
  (aQ (b_ (aS 3) (dZ (dF 1 [] (ic (am 0)) (aS 0) bR (aN (.int 0)))))
  (aQ (kC (ic (am 1)) (aS 4)
   (aQ (b_ (gP (am 3) (am 4)) (sy (dF 2 [2,3,4] (ic (c2 aR (am 0) (am 4))) (iq 2 (cW (aS 0) (cW (aS 1) iD))) bR (c2 fG (pB rH (am 2) (ax (am 4) (ax (am 0) bu))) (c2 aR (am 3) (am 1)))) (aN (.int 0))))
   ba))
  (aQ (eV (am 3))
  ba)))
@[irreducible] def ji:List D->M D:=b8 5 j0
def jS: CS :=
  (eV (c1 (uz mz) (oq 0 "most_deeds" "worth" ji (.dfn mK) [0,3,1,4] 5 (ax (c2 aR (am 1) (aN (.int 1))) (ax (am 2) bu)))))
@[irreducible] def jt:List D->M D:=b8 6 jS
def yc: CS :=
  (aQ (b_ (aS 2) (c2 fG (c2 rM (aN (.int 7919)) (am 1)) (aN (.int 104729))))
  (aQ (b_ (aS 3) (dZ (fU bu)))
  (aQ (kC (wW (qT (am 0) (pQ (am 1)) (pQ (aN (.int 63))))) (aS 4)
   (aQ (b_ (aS 2) (c2 oZ (c2 fG (c2 fG (c2 rM (am 2) (aN (.int 48271))) (c2 oZ (am 4) (aN (.int 2147483629)))) (aN (.int 1))) (aN (.int 2147483647))))
   (aQ (n8 (db (c2 GI (am 4) (c2 xc (aN (.int 10)) (aN (.int 18)))))
    (aQ (iF (dJ (am 3) (am 4)))
    ba)
    ba)
   ba)))
  (aQ (eV (dZ (fU (ax (am 2) (ax (aN (.int 0)) (ax (dZ (tR (am 3))) bu))))))
  ba))))
@[irreducible] def jH:List D->M D:=b8 5 yc
def j9: CS :=
  (aQ (kW (n0 (db (c2 nY (c2 aR (am 0) (aN (.int 1))) (aN (.int 0)))) (db (c2 wV (c1 gD (c2 aR (am 0) (aN (.int 2)))) (aN (.int 0)))))
   (aQ (b_ (gP (am 0) (aN (.int 1))) (uF (c2 aR (am 0) (aN (.int 2)))))
   ba))
  (aQ (n8 (db (c2 wV (c2 aR (am 0) (aN (.int 1))) (aN (.int 0))))
   (aQ (b_ (aS 2) (c2 oZ (c2 aR (am 0) (aN (.int 1))) (am 1)))
   (aQ (b_ (gP (am 0) (aN (.int 1))) (c2 r_ (c2 aR (am 0) (aN (.int 1))) (am 1)))
   (aQ (eV (am 2))
   ba)))
   ba)
  (aQ (b_ (aS 3) (c2 oZ (c2 fG (c2 rM (c2 aR (am 0) (aN (.int 0))) (aN (.int 48271))) (aN (.int 7919))) (aN (.int 2147483647))))
  (aQ (b_ (gP (am 0) (aN (.int 0))) (c2 fG (c2 oZ (c2 fG (c2 rM (am 3) (aN (.int 40692))) (aN (.int 12345))) (aN (.int 2147483399))) (aN (.int 1))))
  (aQ (eV (c2 oZ (c2 r_ (c2 fG (c2 rM (c2 oZ (c2 rM (am 3) (am 3)) (aN (.int 2147483629))) (aN (.int 31))) (c2 aR (am 0) (aN (.int 0)))) (aN (.int 64))) (am 1)))
  ba)))))
@[irreducible] def ja:List D->M D:=b8 4 j9
def jX: CS :=
  (aQ (b_ (aS 2) (bW ja (ax (am 0) (ax (aN (.int 6)) bu))))
  (aQ (b_ (aS 3) (c2 fG (aN (.int 1)) (bW ja (ax (am 0) (ax (am 1) bu)))))
  (aQ (n8 (db (c2 nY (am 2) (aN (.int 0))))
   (aQ (b_ (aS 3) (c2 ve (am 3) (aN (.int 3))))
   (aQ (eV (gY kA (dF 1 [3] (MM.fT (am 3)) (aS 0) bR (c2 fG (dU (ax (dU (ax (am 0) (ax (am 0) bu))) bu)) (gY kA (dF 1 [] (MM.fT (am 1)) (aS 0) bR (dU (ax (am 0) (ax (aN (.int 0)) bu)))))))))
   ba))
   ba)
  (aQ (n8 (db (c2 nY (am 2) (aN (.int 1))))
   (aQ (eV (gY kA (dF 1 [3] (MM.fT (am 3)) (aS 0) bR (gY kA (dF 1 [0] (MM.fT (am 1)) (aS 0) bR (dU (ax (am 0) (ax (am 1) bu))))))))
   ba)
   ba)
  (aQ (n8 (db (c2 nY (am 2) (aN (.int 2))))
   (aQ (eV (gY kA (dF 1 [3] (MM.fT (am 3)) (aS 0) bR (dU (ax (dU (ax (c2 oZ (c2 fG (am 0) (aN (.int 1))) (am 1)) (ax (am 0) bu))) bu)))))
   ba)
   ba)
  (aQ (n8 (n0 (db (c2 nY (am 2) (aN (.int 3)))) (db (c2 wV (am 3) (aN (.int 1)))))
   (aQ (b_ (aS 4) (dZ (dF 1 [3] (MM.nh (aN (.int 1)) (am 3)) (aS 0) bR (gY kA (dF 1 [0] (MM.nh (aN (.int 1)) (am 1)) (aS 0) bR (dU (ax (am 1) (ax (am 1) bu))))))))
   (aQ (eV (c2 fG (dU (ax (gY kA (dF 1 [] (MM.nh (aN (.int 1)) (am 3)) (aS 0) bR (dU (ax (am 0) (ax (am 0) bu))))) bu)) (c1 tupleD (am 4))))
   ba))
   ba)
  (aQ (b_ (aS 5) (c2 fG (aN (.int 1)) (bW ja (ax (am 0) (ax (aN (.int 4)) bu)))))
  (aQ (eV (gY kA (dF 1 [0,3,5] (MM.fT (am 3)) (aS 0) bR (gY kA (dF 1 [1,2] (MM.fT (am 3)) (aS 0) bR (dU (ax (bW ja (ax (am 1) (ax (am 2) bu))) (ax (bW ja (ax (am 1) (ax (aN (.int 4)) bu))) bu))))))))
  ba))))))))
@[irreducible] def jA:List D->M D:=b8 6 jX
def j8: CS :=
  (aQ (n8 (rK (db (c2 nY (c1 gD (am 1)) (aN (.int 0)))) (rK (n0 (qW (am 4)) (db (c2 nY (am 3) (c2 sM (am 2) (aN (.int 1)))))) (db (c2 nY (bW ja (ax (am 0) (ax (aN (.int 5)) bu))) (aN (.int 0))))))
   (aQ (eV (dU (ax (aN (.str "settle")) (ax (bW ja (ax (am 0) (ax (aN (.int 2)) bu))) bu))))
   ba)
   ba)
  (aQ (b_ (aS 5) (bW ja (ax (am 0) (ax (c1 gD (am 1)) bu))))
  (aQ (b_ (aS 6) (c2 aR (c2 aR (am 1) (am 5)) (aN (.int 0))))
  (aQ (b_ (aS 7) (bW ja (ax (am 0) (ax (c1 gD (c2 aR (am 6) (aN (.int 0)))) bu))))
  (aQ (b_ (aS 8) (dZ (fU bu)))
  (aQ (kC (MM.fT (c2 fG (aN (.int 1)) (gY mz (dF 1 [7] (ic (am 6)) (aS 0) bR (c2 aR (c2 aR (am 0) (am 1)) (aN (.int 1))))))) (aS 9)
   (aQ (n8 (qW (am 4))
    (aQ (iF (dJ (am 8) (c2 fG (c2 fG (am 3) (aN (.int 1))) (bW ja (ax (am 0) (ax (c2 sM (c2 sM (am 2) (am 3)) (aN (.int 1))) bu))))))
    ba)
    (aQ (iF (dJ (am 8) (bW ja (ax (am 0) (ax (am 2) bu)))))
    ba))
   ba))
  (aQ (eV (dU (ax (aN (.str "do")) (ax (am 5) (ax (am 7) (ax (c1 tupleD (am 8)) bu))))))
  ba)))))))
@[irreducible] def jw:List D->M D:=b8 10 j8
def j3: CS :=
  (aQ (b_ (aS 1) (dZ (fU bu)))
  (aQ (b_ (aS 2) (mE (fU (ax (aN (.int 0)) (ax (aN (.int 1)) (ax (aN (.int 1)) (ax (aN (.int 2)) (ax (aN (.int 2)) (ax (aN (.int 3)) (ax (aN (.int 1)) (ax (aN (.int 4)) bu))))))))) (bW ja (ax (am 0) (ax (aN (.int 8)) bu)))))
  (aQ (kC (MM.fT (am 2)) (aS 3)
   (aQ (b_ (aS 4) (bW jA (ax (am 0) (ax (mE (fU (ax (aN (.int 4)) (ax (aN (.int 4)) (ax (aN (.int 3)) (ax (aN (.int 2)) (ax (aN (.int 2)) bu)))))) (am 2)) bu))))
   (aQ (iF (dJ (am 1) (dU (ax (am 4) (ax (bW ja (ax (am 0) (ax (c1 gD (am 4)) bu))) bu)))))
   ba)))
  (aQ (b_ (aS 5) (dZ (fU bu)))
  (aQ (b_ (aS 6) (c2 fG (aN (.int 2)) (c1 intD (c2 nY (bW ja (ax (am 0) (ax (aN (.int 3)) bu))) (aN (.int 0))))))
  (aQ (b_ (aS 7) (c2 aR (mE (fU (ax (dZ (fU (ax (aN (.int 4)) (ax (aN (.int 4)) (ax (aN (.int 4)) (ax (aN (.int 4)) (ax (aN (.int 3)) bu))))))) (ax (dZ (fU (ax (aN (.int 3)) (ax (aN (.int 3)) (ax (aN (.int 2)) (ax (aN (.int 2)) (ax (aN (.int 2)) bu))))))) bu))) (c2 sM (am 6) (aN (.int 2)))) (am 2)))
  (aQ (b_ (aS 8) (bW ja (ax (am 0) (ax (aN (.int 4)) bu))))
  (aQ (kC (MM.fT (am 6)) (aS 3)
   (aQ (b_ (aS 9) (c2 fG (aN (.int 1)) (bW ja (ax (am 0) (ax (am 7) bu)))))
   (aQ (b_ (aS 10) (Cs (c2 zq (am 8) (aN (.int 2))) (tU (c2 nY (am 8) (aN (.int 2))) (c2 wV (am 3) (aN (.int 0))))))
   (aQ (b_ (aS 11) (gY kA (dF 1 [0,1,9,10] (MM.fT (am 9)) (aS 0) bR (bW jw (ax (am 1) (ax (am 2) (ax (am 3) (ax (am 0) (ax (am 4) bu)))))))))
   (aQ (b_ (aS 12) (dU (ax (aN (.int 0)) (ax (bW ja (ax (am 0) (ax (am 9) bu))) bu))))
   (aQ (n8 (db (c2 nY (bW ja (ax (am 0) (ax (aN (.int 2)) bu))) (aN (.int 1))))
    (aQ (b_ (aS 12) (dU (ax (bW ja (ax (am 0) (ax (am 9) bu))) (ax (bW ja (ax (am 0) (ax (am 9) bu))) bu))))
    ba)
    ba)
   (aQ (iF (dJ (am 5) (dU (ax (am 12) (ax (am 11) bu)))))
   ba)))))))
  (aQ (n8 (db (c2 nY (bW ja (ax (am 0) (ax (aN (.int 4)) bu))) (aN (.int 0))))
   (aQ (b_ (gP (am 5) (c1 t9 (aN (.int 1)))) (c2 aR (am 5) (aN (.int 0))))
   ba)
   ba)
  (aQ (eV (dU (ax (c1 tupleD (am 1)) (ax (c1 tupleD (am 5)) bu))))
  ba))))))))))
@[irreducible] def jy:List D->M D:=b8 13 j3
def jW: CS :=
  (aQ (b_ (aS 1) (dZ (fU (ax (dU bu) bu))))
  (aQ (kC (ic (c2 aR (am 0) (aN (.int 1)))) (aS 2)
   (aQ (b_ (aS 1) (c2 fG (dZ (dF 1 [] (ic (am 1)) (aS 0) bR (c2 fG (am 0) (dU (ax (aN (.int 0)) bu))))) (dZ (dF 1 [] (ic (am 1)) (aS 0) bR (c2 fG (am 0) (dU (ax (aN (.int 1)) bu)))))))
   ba))
  (aQ (eV (c1 o_ (am 1)))
  ba)))
@[irreducible] def jl:List D->M D:=b8 3 jW
def jY: CS :=
  (aQ (b_ (aS 2) (dZ (dF 1 [0,1] (MM.fT (c1 gD (am 1))) (aS 0) bR (c2 aR (c2 aR (c2 aR (c2 aR (am 1) (aN (.int 1))) (am 0)) (aN (.int 0))) (c2 aR (am 2) (am 0))))))
  (aQ (eV (dU (ax (c1 tupleD (am 2)) (ax (gY kA (dF 1 [] (ic (c2 aR (am 0) (aN (.int 0)))) (aS 0) bR (c2 aR (am 0) (aN (.int 1))))) bu))))
  ba))
@[irreducible] def jp:List D->M D:=b8 3 jY
def yg: CS :=
  (aQ (eV (c2 aR (c2 aR (c2 aR (c2 aR (am 0) (aN (.int 1))) (am 2)) (aN (.int 1))) (c2 aR (c2 aR (am 1) (aN (.int 0))) (am 2))))
  ba)
@[irreducible] def jh:List D->M D:=b8 3 yg
def jI: CS :=
  (aQ (b_ (aS 3) (bW jh (ax (am 0) (ax (am 1) (ax (am 2) bu)))))
  (aQ (n8 (db (c2 nY (c2 aR (am 3) (aN (.int 0))) (aN (.str "settle"))))
   (aQ (eV (am 1))
   ba)
   ba)
  (aQ (b_ (aS 4) (c1 ub (c2 aR (am 1) (aN (.int 0)))))
  (aQ (b_ (aS 5) (c1 ub (c2 aR (am 1) (aN (.int 1)))))
  (aQ (b_ (aS 6) (c2 aR (am 3) (aN (.int 1))))
  (aQ (b_ (iq 2 (cW (aS 7) (cW (aS 8) iD))) (c2 aR (c2 aR (c2 aR (c2 aR (c2 aR (am 0) (aN (.int 0))) (am 6)) (aN (.int 0))) (c2 aR (am 5) (am 6))) (c2 aR (am 3) (aN (.int 2)))))
  (aQ (b_ (gP (am 4) (am 2)) (c2 aR (c2 aR (am 3) (aN (.int 3))) (am 8)))
  (aQ (b_ (gP (am 5) (am 6)) (am 7))
  (aQ (eV (dU (ax (c1 tupleD (am 4)) (ax (c1 tupleD (am 5)) bu))))
  ba)))))))))
@[irreducible] def jc:List D->M D:=b8 9 jI
def j5: CS :=
  (aQ (b_ (aS 2) (dZ (fU bu)))
  (aQ (kC (MM.fT (c1 gD (c2 aR (am 0) (aN (.int 1))))) (aS 3)
   (aQ (n8 (db (c2 nY (c2 aR (bW jh (ax (am 0) (ax (am 1) (ax (am 3) bu)))) (aN (.int 0))) (aN (.str "do"))))
    (aQ (iF (dJ (am 2) (am 3)))
    ba)
    ba)
   ba))
  (aQ (eV (am 2))
  ba)))
@[irreducible] def ju:List D->M D:=b8 4 j5
def jT: CS :=
  (aQ (b_ (aS 1) (dZ (fU bu)))
  (aQ (b_ (aS 2) (n6 true))
  (aQ (kC (ic (bW jl (ax (am 0) bu))) (aS 3)
   (aQ (b_ (aS 4) (bW jp (ax (am 0) (ax (am 3) bu))))
   (aQ (n8 (db (c2 sO (am 4) (am 2)))
    (aQ (b_ (gP (am 2) (am 4)) (aN (.bl true)))
    (aQ (iF (dJ (am 1) (am 4)))
    ba))
    ba)
   ba)))
  (aQ (b_ (aS 5) (aN (.int 0)))
  (aQ (kW (db (c2 zq (am 5) (c1 gD (am 1))))
   (aQ (kC (ic (bW ju (ax (am 0) (ax (c2 aR (am 1) (am 5)) bu)))) (aS 6)
    (aQ (b_ (aS 4) (bW jc (ax (am 0) (ax (c2 aR (am 1) (am 5)) (ax (am 6) bu)))))
    (aQ (n8 (db (c2 sO (am 4) (am 2)))
     (aQ (b_ (gP (am 2) (am 4)) (aN (.bl true)))
     (aQ (iF (dJ (am 1) (am 4)))
     ba))
     ba)
    ba)))
   (aQ (b_ (aS 5) (c2 fG (am 5) (aN (.int 1))))
   ba)))
  (aQ (eV (am 1))
  ba))))))
@[irreducible] def jq:List D->M D:=b8 7 jT
def j1: CS :=
  (aQ (b_ (aS 2) (n6 true))
  (aQ (kC (ic (am 1)) (aS 3)
   (aQ (b_ (gP (am 2) (am 3)) (dZ (dF 1 [0,3] (ic (bW ju (ax (am 0) (ax (am 3) bu)))) (aS 0) bR (dU (ax (am 0) (ax (bW jc (ax (am 1) (ax (am 2) (ax (am 0) bu)))) bu))))))
   ba))
  (aQ (eV (am 2))
  ba)))
@[irreducible] def jx:List D->M D:=b8 4 j1
def jM: CS :=
  (aQ (b_ (aS 1) (gY m8 (dF 1 [] (vU (am 0)) (aS 0) bR (dU (ax (am 0) (ax (dZ (fU bu)) bu))))))
  (aQ (b_ (aS 2) (n6 true))
  (aQ (kC (qI (am 0)) (iq 2 (cW (aS 3) (cW (aS 4) iD)))
   (aQ (b_ (gP (am 2) (am 3)) (c1 gD (am 4)))
   (aQ (kC (ic (am 4)) (iq 2 (cW (aS 5) (cW (aS 6) iD)))
    (aQ (iF (dJ (c2 aR (am 1) (am 6)) (am 3)))
    ba))
   ba)))
  (aQ (b_ (aS 7) (dZ (dF 1 [2] (vU (am 0)) (aS 0) (db (c2 nY (c2 aR (am 1) (am 0)) (aN (.int 0)))) (am 0))))
  (aQ (b_ (aS 8) (aN (.int 0)))
  (aQ (kW (db (c2 zq (am 8) (c1 gD (am 7))))
   (aQ (kC (ic (c2 aR (am 1) (c2 aR (am 7) (am 8)))) (aS 3)
    (aQ (b_ (gP (am 2) (am 3)) (c2 sM (c2 aR (am 2) (am 3)) (aN (.int 1))))
    (aQ (n8 (db (c2 nY (c2 aR (am 2) (am 3)) (aN (.int 0))))
     (aQ (iF (dJ (am 7) (am 3)))
     ba)
     ba)
    ba)))
   (aQ (b_ (aS 8) (c2 fG (am 8) (aN (.int 1))))
   ba)))
  (aQ (eV (am 7))
  ba)))))))
@[irreducible] def jj:List D->M D:=b8 9 jM
def jZ: CS :=
  (aQ (eV (tU (c1 (ie ["int"]) (am 0)) (wL (c1 (ie ["bool"]) (am 0)))))
  ba)
@[irreducible] def jg:List D->M D:=b8 1 jZ
def j6: CS :=
  (aQ (b_ (aS 5) (n6 true))
  (aQ (kC (ic (am 3)) (aS 6)
   (aQ (b_ (aS 7) (dZ (fU (ax (aN (.int 0)) bu))))
   (aQ (kC (ic (c2 aR (am 2) (am 6))) (iq 2 (cW (aS 8) (cW (aS 9) iD)))
    (aQ (iF (dJ (am 7) (c2 fG (c2 aR (am 5) (am 9)) (c1 intD (tU (c2 nY (am 8) (am 4)) (c2 nY (c2 aR (bW jh (ax (am 0) (ax (am 6) (ax (am 4) bu)))) (aN (.int 1))) (am 1)))))))
    ba))
   (aQ (b_ (gP (am 5) (am 6)) (c1 (uz mz) (am 7)))
   ba))))
  (aQ (eV (gY mz (dF 1 [0,5] (ic (bW jl (ax (am 0) bu))) (aS 0) bR (c2 aR (am 2) (bW jp (ax (am 1) (ax (am 0) bu)))))))
  ba)))
@[irreducible] def jv:List D->M D:=b8 10 j6
def j4: CS :=
  (aQ (b_ (aS 3) (bW jb (ax (am 0) (ax (am 1) (ax (am 2) bu)))))
  (aQ (n8 (db (c2 nY (c2 aR (am 3) (aN (.int 0))) (aN (.str "settle"))))
   (aQ (eV (am 1))
   ba)
   ba)
  (aQ (b_ (aS 4) (c2 aR (am 3) (aN (.int 1))))
  (aQ (b_ (aS 5) (c2 aR (am 3) (aN (.int 2))))
  (aQ (b_ (aS 6) (c2 aR (c2 aR (c2 aR (am 0) (aN (.int 0))) (am 4)) (aN (.int 0))))
  (aQ (b_ (aS 7) (c2 aR (c2 aR (am 1) (aN (.int 1))) (am 4)))
  (aQ (b_ (aS 8) (c2 aR (c2 aR (am 3) (aN (.int 3))) (bW jF (ax (am 6) (ax (am 7) (ax (am 5) bu))))))
  (aQ (eV (dU (ax (bW jd (ax (c2 aR (am 1) (aN (.int 0))) (ax (am 2) (ax (am 8) bu)))) (ax (bW jd (ax (c2 aR (am 1) (aN (.int 1))) (ax (am 4) (ax (bW jk (ax (am 6) (ax (am 7) (ax (am 5) bu)))) bu)))) bu))))
  ba))))))))
@[irreducible] def jB:List D->M D:=b8 9 j4
def yd: CS :=
  (aQ (eV (gY kA (dF 1 [0,1] (MM.fT (c1 gD (c2 aR (am 0) (aN (.int 1))))) (aS 0) bR (bW je (ax (bW jb (ax (am 1) (ax (am 2) (ax (am 0) bu)))) bu)))))
  ba)
@[irreducible] def jC:List D->M D:=b8 2 yd
def yi: CS :=
  (aQ (eV (dZ (dF 2 [] (tL (bW jC (ax (am 0) (ax (am 1) bu)))) (iq 2 (cW (aS 0) (cW (aS 1) iD))) (db (c2 yy (am 1) (aN .non))) (am 0))))
  ba)
@[irreducible] def jL:List D->M D:=b8 2 yi
def jU: CS :=
  (aQ (b_ (aS 4) (dZ (fU bu)))
  (aQ (kC (ic (bW jL (ax (am 0) (ax (am 1) bu)))) (aS 5)
   (aQ (b_ (aS 6) (bW jB (ax (am 0) (ax (am 1) (ax (am 5) bu)))))
   (aQ (n8 (db (c2 sO (am 6) (am 3)))
    (aQ (b_ (gP (am 3) (am 6)) (c1 gD (am 2)))
    (aQ (iF (dJ (am 2) (am 6)))
    ba))
    ba)
   (aQ (iF (dJ (am 4) (dU (ax (am 5) (ax (c2 aR (am 3) (am 6)) bu)))))
   ba))))
  (aQ (eV (am 4))
  ba)))
@[irreducible] def js:List D->M D:=b8 7 jU
def jK: CS :=
  (aQ (b_ (aS 1) (dZ (fU bu)))
  (aQ (b_ (aS 2) (dZ (dF 1 [] (ic (am 0)) (aS 0) bR (aN (.bl false)))))
  (aQ (kC (MM.fT (c1 gD (am 0))) (aS 3)
   (aQ (n8 (pM (qW (c2 aR (am 2) (am 3))))
    (aQ (iF (bW jn (ax (am 0) (ax (am 3) (ax (am 2) (ax (am 1) bu))))))
    ba)
    ba)
   ba))
  (aQ (eV (am 1))
  ba))))
@[irreducible] def jm:List D->M D:=b8 4 jK
def jJ: CS :=
  (aQ (b_ (aS 1) (bW jm (ax (am 0) bu)))
  (aQ (b_ (aS 2) (dZ (dF 1 [] (ic (am 0)) (aS 0) bR (aN (.bl false)))))
  (aQ (kC (ic (am 1)) (aS 3)
   (aQ (n8 (pM (qW (gY vE (dF 2 [2] (ic (c2 aR (am 0) (am 3))) (iq 2 (cW (aS 0) (cW (aS 1) iD))) bR (c2 aR (am 2) (am 1))))))
    (aQ (eV (aN .non))
    ba)
    ba)
   (aQ (b_ (gP (am 2) (am 3)) (aN (.bl true)))
   ba)))
  (aQ (eV (am 1))
  ba))))
@[irreducible] def jf:List D->M D:=b8 4 jJ
def jQ: CS :=
  (aQ (b_ (aS 3) (bW jf (ax (c2 aR (am 1) (aN (.int 1))) bu)))
  (aQ (n8 (db (c2 yy (am 3) (aN .non)))
   (aQ (eV (aN .non))
   ba)
   ba)
  (aQ (eV (gY kA (dF 1 [0,1,2,3] (MM.fT (c1 gD (c2 aR (am 0) (aN (.int 1))))) (aS 0) bR (bW jt (ax (am 1) (ax (am 2) (ax (am 4) (ax (am 0) (ax (am 3) bu)))))))))
  ba)))
@[irreducible] def jo:List D->M D:=b8 4 jQ
def jR: CS :=
  (aQ (b_ (aS 3) (n6 true))
  (aQ (kC (ic (am 1)) (aS 4)
   (aQ (iF (oW (am 3) (am 4) (c1 gD (am 3))))
   ba))
  (aQ (b_ (aS 5) (c1 pz (am 3)))
  (aQ (b_ (aS 6) (dZ (fU bu)))
  (aQ (kW (db (c2 zq (c1 gD (am 6)) (c1 gD (am 5))))
   (aQ (n8 (n0 (db (c2 r9 (am 2) (aN .non))) (db (c2 wV (c1 gD (am 5)) (am 2))))
    (aQ Aw
    ba)
    ba)
   (aQ (iF (dJ (am 6) (bW js (ax (am 0) (ax (c2 aR (am 5) (c1 gD (am 6))) (ax (am 5) (ax (am 3) bu)))))))
   ba)))
  (aQ (eV (dU (ax (am 5) (ax (am 6) bu))))
  ba))))))
@[irreducible] def jr:List D->M D:=b8 7 jR
def ya: CS :=
  (aQ (b_ (aS 2) (dZ (dF 1 [0] (ic (bW jz (ax (am 0) bu))) (aS 0) bR (bW jG (ax (am 1) (ax (am 0) bu))))))
  (aQ (eV (bW jr (ax (am 0) (ax (am 2) (ax (am 1) bu)))))
  ba))
@[irreducible] def jD:List D->M D:=b8 3 ya
def j7: CS :=
  (aQ (eV (bW jo (ax (am 0) (ax (bW jD (ax (am 0) (ax (am 2) bu))) (ax (am 1) bu)))))
  ba)
@[irreducible] def jE:List D->M D:=b8 3 j7
def yj: CS :=
  (aQ (b_ (aS 1) (bW jy (ax (bW jH (ax (am 0) (ax (aN (.int 0)) bu))) bu)))
  (aQ (b_ (aS 2) (bW jx (ax (am 1) (ax (bW jq (ax (am 1) bu)) bu))))
  (aQ (b_ (aS 3) (bW jj (ax (am 2) bu)))
  (aQ (kC (ic (c2 fG (c1 o8 (c1 gD (c2 aR (am 1) (aN (.int 0))))) (dZ (qQ (fU (ax (aN (.int 0)) bu)) (c1 intD (c2 wV (c1 gD (c2 aR (am 1) (aN (.int 0)))) (aN (.int 0)))))))) (aS 4)
   (aQ (b_ (aS 5) (qK jE (ax (am 1) (ax (am 4) bu)) (.int 500)))
   (aQ (n8 (db (c2 zq (c1 gD (am 3)) (c1 gD (am 2))))
    (aQ (n8 (db (c2 r9 (am 5) (aN .non)))
     (aQ (eV (aN (.bl false)))
     ba)
     ba)
    ba)
    (aQ (b_ (aS 6) (gY kA (dF 1 [1,2,3,4] (MM.fT (c1 gD (c2 aR (am 1) (aN (.int 1))))) (aS 0) bR (bW jv (ax (am 1) (ax (am 4) (ax (am 2) (ax (am 3) (ax (am 0) bu)))))))))
    (aQ (n8 (rK (pM (qW (c1 (ie ["tuple"]) (am 5)))) (rK (db (c2 Cw (am 5) (am 6))) (db (pA A0 (aN (.bl false)) (dF 1 [] (ic (am 5)) (aS 0) bR (bW jg (ax (am 0) bu)))))))
     (aQ (eV (aN (.bl false)))
     ba)
     ba)
    ba)))
   ba)))
  (aQ (eV (aN (.bl true)))
  ba)))))
@[irreducible] def jN:List D->M D:=b8 7 yj
open PySem.Spec PyProof.Rows L2
set_option genInjectivity false in
structure Txt(K:ah)(mg:Str->Option af):Prop where
 f0:FnAt K mg "next_state" (top 4)
 f1:FnAt K mg "answer" (top 5)
 f2:FnAt K mg "inputs_of" (top 7)
 f3:FnAt K mg "begin" (top 9)
 f4:FnAt K mg "line_at" (top 10)
 f5:FnAt K mg "replaced" (top 12)
 f6:FnAt K mg "value_at" (top 14)
 f7:FnAt K mg "finish_from" (top 22)
 f8:FnAt K mg "most_from" (top 25)
 f9:wU K mg "most_deeds" (top 28)
 f10:FnAt K mg "_law_pot" (top 30)
 f11:FnAt K mg "_law_draw" (top 31)
 f12:FnAt K mg "_law_table" (top 32)
 f13:FnAt K mg "_law_line" (top 33)
 f14:FnAt K mg "_law_house" (top 34)
 f15:FnAt K mg "_law_inputs" (top 35)
 f16:FnAt K mg "_law_begin" (top 36)
 f17:FnAt K mg "_law_at" (top 37)
 f18:FnAt K mg "_law_behind" (top 38)
 f19:FnAt K mg "_law_free" (top 39)
 f20:FnAt K mg "_law_stands" (top 40)
 f21:FnAt K mg "_law_nexts" (top 41)
 f22:FnAt K mg "_law_downward" (top 42)
 f23:FnAt K mg "_law_whole" (top 43)
 f24:FnAt K mg "_law_most" (top 44)
 f25:FnAt K mg "behind" (top 11)
 f26:FnAt K mg "settled" (top 13)
 f27:FnAt K mg "free" (top 15)
 f28:FnAt K mg "steps_from" (top 19)
 f29:FnAt K mg "finish_order" (top 21)
 f30:FnAt K mg "falling_order" (top 23)
 f31:FnAt K mg "graph_deeds" (top 27)
 f32:FnAt K mg "graph_from" (top 18)
 f33:FnAt K mg "graph_of" (top 17)
 f34:wR K mg "deeds_at" (top 26)
 f35:FnAt K mg "law" (top 45)
 z:xY mg ["all","bool","dict","enumerate","int","isinstance","len","list","max","min","range","sorted","tuple","zip"]
 c:zU K mg []
section
variable{P:Program}{w:bN}{K:ah}{mg:Str->Option af}{base:bK}
def MZ:uI:=Bz
def Nu:uI:=t_ .Lt zq (λ_=>UO)
def Oh:uI:=t_ .Gt wV (λ_=>Wc)
def LY:uI:=t_ .GtE GI (λ_=>T4)
def MQ:uI:=t_ .Eq nY (λh=>Ry h)
def Lm:uI:=t_ .NotEq Cw (λh=>Sq h)
def Ml:uI:=t_ .Is yy (λ_=>Pc)
def Ny:uI:=t_ .IsNot r9 (λ_=>Vh)
def NC:uI:=t_ .NotIn sO (λh=>Vk h)
def RR:o6:=⟨[Kd,HC,D8,Bu,yE,MM.D3,HX,xi,Eb,BX,B6,EN,Eo,Et,Bm,El,zr,HI,HE,AA,DK,ER,zk,xg,vV,yS,KA,zm,zc,ED,CQ .Add fG (λ_=>Rl),CQ .Sub sM (λ_=>XU),CQ .Mult rM (λ_=>Qz),CQ .FloorDiv r_ (λ_=>WO),CQ .Mod oZ (λ_=>Pa),CQ .Pow xc (λ_=>Wf),MZ.e,Nu.e,Oh.e,LY.e,MQ.e,Lm.e,Ml.e,Ny.e,NC.e,IC,KL,Ht,JF,Eg],[Iu,DD,AQ,Ea,B_],[MZ.t,Nu.t,Oh.t,LY.t,MQ.t,Lm.t,Ml.t,Ny.t,NC.t,BP,A7,QN],[yZ,zp,Bi,AI true,Fy,zl,Er,E9],[Wo,DO,EH],[Im,E_,KN,Em,FF,yX,Cb,zv,BI,DW,DP]⟩
noncomputable abbrev hh:List (Nat×Nat×Nat):=[(25,53,7),(40,11,1),(40,41,1),(52,14,2),(55,13,5),(219,15,2),(235,17,2),(240,16,21),(240,57,6),(241,16,2),(246,45,6),(258,16,2)]
noncomputable def MC:List (Str×RF):=[]
theorem UC(T:Txt K mg)(c:BMod base mg):dh P w K mg base MC:=Uk
def KO:List (Str×RF):=("next_state",⟨3,1,["table","state","deed"],false,jk⟩)::MC
theorem W8(T:Txt K mg)(c:BMod base mg):dh P w K mg base KO:=by unfold KO jk;exact n5 RR (r:=[]) (H:=hh) T.f0 (by nofun) (λ_ _ _ _ _ _=>wq λ_ _ _=>rfl) nofun (by kernel_rfl) (UC T c) T.z T.c
def Ix:List (Str×RF):=("answer",⟨3,1,["table","state","deed"],false,jF⟩)::KO
theorem P0(T:Txt K mg)(c:BMod base mg):dh P w K mg base Ix:=by unfold Ix jF;exact n5 RR (r:=[]) (H:=hh) T.f1 (by nofun) (λ_ _ _ _ _ _=>wq λ_ _ _=>rfl) nofun (by kernel_rfl) (W8 T c) T.z T.c
def HA:List (Str×RF):=("inputs_of",⟨1,1,["house"],false,jz⟩)::Ix
theorem Tf(T:Txt K mg)(c:BMod base mg):dh P w K mg base HA:=by unfold HA jz;exact n5 RR (r:=["told","hand","longer","inputs"]) (H:=hh) T.f2 (by nofun) (λ_ _ _ _ _ _=>xR λ_=>rfl) nofun (by kernel_rfl) (P0 T c) T.z T.c
def HU:List (Str×RF):=("begin",⟨2,1,["house","inputs"],false,jG⟩)::HA
theorem Qu(T:Txt K mg)(c:BMod base mg):dh P w K mg base HU:=by unfold HU jG;exact n5 RR (r:=["lines"]) (H:=hh) T.f3 (by nofun) (λ_ _ _ _ _ _=>vB λ_ _=>rfl) nofun (by kernel_rfl) (Tf T c) T.z T.c
def HJ:List (Str×RF):=("line_at",⟨3,1,["house","stand","hand"],false,jb⟩)::HU
theorem P4(T:Txt K mg)(c:BMod base mg):dh P w K mg base HJ:=by unfold HJ jb;exact n5 RR (r:=[]) (H:=hh) T.f4 (by nofun) (λ_ _ _ _ _ _=>wq λ_ _ _=>rfl) nofun (by kernel_rfl) (Qu T c) T.z T.c
def HG:List (Str×RF):=("replaced",⟨3,1,["numbers","place","number"],false,jd⟩)::HJ
theorem Pm(T:Txt K mg)(c:BMod base mg):dh P w K mg base HG:=by unfold HG jd;exact n5 RR (r:=[]) (H:=hh) T.f5 (by nofun) (λ_ _ _ _ _ _=>wq λ_ _ _=>rfl) nofun (by kernel_rfl) (P4 T c) T.z T.c
def J3:List (Str×RF):=("value_at",⟨1,1,["line"],false,je⟩)::HG
theorem Wb(T:Txt K mg)(c:BMod base mg):dh P w K mg base J3:=by unfold J3 je;exact n5 RR (r:=[]) (H:=hh) T.f6 (by nofun) (λ_ _ _ _ _ _=>xR λ_=>rfl) nofun (by kernel_rfl) (Pm T c) T.z T.c
def Kb:List (Str×RF):=("finish_from",⟨4,1,["steps","root","seen","order"],false,jn⟩)::J3
theorem Nd(T:Txt K mg)(c:BMod base mg):dh P w K mg base Kb:=by unfold Kb jn;exact n5 RR (r:=["path","gone","here","there"]) (H:=hh) T.f7 (by nofun) (λ_ _ _ _ _ _=>xL λ_ _ _ _=>rfl) nofun (by kernel_rfl) (Wb T c) T.z T.c
theorem Tx(T:Txt K mg)(c:BMod base mg):sf P w K mg base 2 2 (.dfn mK) oQ:=by unfold oQ;exact R6 RR (r:=[]) (nm:=["here","mover"]) (fr:=["house","hand","graph","board"]) (k:=1) (H:=hh) (by kernel_rfl) (by kernel_rfl) (by kernel_rfl) (λ_ _ _ _ _ _=>vB λ_ _=>by kernel_rfl) (by kernel_rfl) (Nd T c) T.z T.c HK
theorem Jx(T:Txt K mg)(c:BMod base mg):zV P w K mg base rH:=(Rg (Tx T c) HK)
def JO:List (Str×RF):=("most_from",⟨3,3,["steps","order","worth"],false,ji⟩)::Kb
theorem PR(T:Txt K mg)(c:BMod base mg):dh P w K mg base JO:=by unfold JO ji;exact QB RR (r:=["told","here"]) (W:=rH) (H:=hh) T.f8 (by nofun) (λ_ _ _ _ _ _=>wq λ_ _ _=>rfl) (by kernel_rfl) (Nd T c) T.z T.c (Jx T c)
def Bc:List (Str×RF):=("most_deeds",⟨5,4,["house","graph","order","hand","board"],false,jt⟩)::JO
theorem Kk(T:Txt K mg)(c:BMod base mg):dh P w K mg base Bc:=by unfold Bc jt;exact RQ RR (r:=["worth"]) (j:=0) (H:=hh) T.f9 (by nofun) (λ_ _ _ _ _ _=>Ky λ_ _ _ _ _=>rfl) (by kernel_rfl) (PR T c) T.z T.c c
def BK:List (Str×RF):=("_law_pot",⟨2,1,["_law_script","_law_base"],false,jH⟩)::Bc
theorem Iw(T:Txt K mg)(c:BMod base mg):dh P w K mg base BK:=by unfold BK jH;exact n5 RR (r:=["_law_seed","_law_left","_law_cell"]) (H:=hh) T.f10 (by nofun) (λ_ _ _ _ _ _=>vB λ_ _=>rfl) nofun (by kernel_rfl) (Kk T c) T.z T.c
def AW:List (Str×RF):=("_law_draw",⟨2,1,["_law_pot_here","_law_many"],false,ja⟩)::BK
theorem J1(T:Txt K mg)(c:BMod base mg):dh P w K mg base AW:=by unfold AW ja;exact n5 RR (r:=["_law_digit","_law_one"]) (H:=hh) T.f11 (by nofun) (λ_ _ _ _ _ _=>vB λ_ _=>rfl) nofun (by kernel_rfl) (Iw T c) T.z T.c
def Bg:List (Str×RF):=("_law_table",⟨2,2,["_law_pot_here","_law_most_here"],false,jA⟩)::AW
theorem JX(T:Txt K mg)(c:BMod base mg):dh P w K mg base Bg:=by unfold Bg jA;exact n5 RR (r:=["_law_kind","_law_many","_law_kept","_law_deeds"]) (H:=hh) T.f12 (by nofun) (λ_ _ _ _ _ _=>vB λ_ _=>rfl) nofun (by kernel_rfl) (J1 T c) T.z T.c
def Ax:List (Str×RF):=("_law_line",⟨5,2,["_law_pot_here","_law_boards","_law_many","_law_k","_law_onward"],false,jw⟩)::Bg
theorem Hi(T:Txt K mg)(c:BMod base mg):dh P w K mg base Ax:=by unfold Ax jw;exact n5 RR (r:=["_law_b","_law_table_here","_law_d","_law_goals","_law_answer_told"]) (H:=hh) T.f13 (by nofun) (λ_ _ _ _ _ _=>Ky λ_ _ _ _ _=>rfl) nofun (by kernel_rfl) (JX T c) T.z T.c
def BD:List (Str×RF):=("_law_house",⟨1,3,["_law_pot_here"],false,jy⟩)::Ax
theorem K5(T:Txt K mg)(c:BMod base mg):dh P w K mg base BD:=by unfold BD jy;exact n5 RR (r:=["_law_boards","_law_count","_law_k","_law_table_here","_law_hands","_law_hands_many","_law_most_here","_law_way","_law_many","_law_onward","_law_lines","_law_begins"]) (H:=hh) T.f14 (by nofun) (λ_ _ _ _ _ _=>xR λ_=>rfl) nofun (by kernel_rfl) (Hi T c) T.z T.c
def B0:List (Str×RF):=("_law_inputs",⟨1,1,["_law_house_here"],false,jl⟩)::BD
theorem Hr(T:Txt K mg)(c:BMod base mg):dh P w K mg base B0:=by unfold B0 jl;exact n5 RR (r:=["_law_found","_law_hand"]) (H:=hh) T.f15 (by nofun) (λ_ _ _ _ _ _=>xR λ_=>rfl) nofun (by kernel_rfl) (K5 T c) T.z T.c
def BS:List (Str×RF):=("_law_begin",⟨2,1,["_law_house_here","_law_inputs_here"],false,jp⟩)::B0
theorem K3(T:Txt K mg)(c:BMod base mg):dh P w K mg base BS:=by unfold BS jp;exact n5 RR (r:=["_law_lines"]) (H:=hh) T.f16 (by nofun) (λ_ _ _ _ _ _=>vB λ_ _=>rfl) nofun (by kernel_rfl) (Hr T c) T.z T.c
def Bj:List (Str×RF):=("_law_at",⟨3,1,["_law_house_here","_law_stand","_law_hand"],false,jh⟩)::BS
theorem KJ(T:Txt K mg)(c:BMod base mg):dh P w K mg base Bj:=by unfold Bj jh;exact n5 RR (r:=[]) (H:=hh) T.f17 (by nofun) (λ_ _ _ _ _ _=>wq λ_ _ _=>rfl) nofun (by kernel_rfl) (K3 T c) T.z T.c
def Bb:List (Str×RF):=("_law_behind",⟨3,2,["_law_house_here","_law_stand","_law_hand"],false,jc⟩)::Bj
theorem Hj(T:Txt K mg)(c:BMod base mg):dh P w K mg base Bb:=by unfold Bb jc;exact n5 RR (r:=["_law_line_here","_law_lines","_law_states","_law_b","_law_after","_law_told_so"]) (H:=hh) T.f18 (by nofun) (λ_ _ _ _ _ _=>wq λ_ _ _=>rfl) nofun (by kernel_rfl) (KJ T c) T.z T.c
def BB:List (Str×RF):=("_law_free",⟨2,2,["_law_house_here","_law_stand"],false,ju⟩)::Bb
theorem Jj(T:Txt K mg)(c:BMod base mg):dh P w K mg base BB:=by unfold BB ju;exact n5 RR (r:=["_law_found","_law_k"]) (H:=hh) T.f19 (by nofun) (λ_ _ _ _ _ _=>vB λ_ _=>rfl) nofun (by kernel_rfl) (Hj T c) T.z T.c
def BG:List (Str×RF):=("_law_stands",⟨1,3,["_law_house_here"],false,jq⟩)::BB
theorem Ie(T:Txt K mg)(c:BMod base mg):dh P w K mg base BG:=by unfold BG jq;exact n5 RR (r:=["_law_found","_law_met","_law_inputs_here","_law_stand","_law_at_here","_law_hand"]) (H:=hh) T.f20 (by nofun) (λ_ _ _ _ _ _=>xR λ_=>rfl) nofun (by kernel_rfl) (Jj T c) T.z T.c
def A3:List (Str×RF):=("_law_nexts",⟨2,3,["_law_house_here","_law_stands_here"],false,jx⟩)::BG
theorem K_(T:Txt K mg)(c:BMod base mg):dh P w K mg base A3:=by unfold A3 jx;exact n5 RR (r:=["_law_found","_law_stand"]) (H:=hh) T.f21 (by nofun) (λ_ _ _ _ _ _=>vB λ_ _=>rfl) nofun (by kernel_rfl) (Ie T c) T.z T.c
def A1:List (Str×RF):=("_law_downward",⟨1,1,["_law_nexts_here"],false,jj⟩)::A3
theorem Iy(T:Txt K mg)(c:BMod base mg):dh P w K mg base A1:=by unfold A1 jj;exact n5 RR (r:=["_law_back","_law_left","_law_stand","_law_ways","_law_hand","_law_after","_law_row","_law_at_here"]) (H:=hh) T.f22 (by nofun) (λ_ _ _ _ _ _=>xR λ_=>rfl) nofun (by kernel_rfl) (K_ T c) T.z T.c
def B4:List (Str×RF):=("_law_whole",⟨1,1,["_law_found"],false,jg⟩)::A1
theorem Hk(T:Txt K mg)(c:BMod base mg):dh P w K mg base B4:=by unfold B4 jg;exact n5 RR (r:=[]) (H:=hh) T.f23 (by nofun) (λ_ _ _ _ _ _=>xR λ_=>rfl) nofun (by kernel_rfl) (Iy T c) T.z T.c
def BE:List (Str×RF):=("_law_most",⟨5,2,["_law_house_here","_law_board","_law_nexts_here","_law_row","_law_hand"],false,jv⟩)::B4
theorem K2(T:Txt K mg)(c:BMod base mg):dh P w K mg base BE:=by unfold BE jv;exact n5 RR (r:=["_law_best","_law_stand","_law_tallies","_law_other","_law_after"]) (H:=hh) T.f24 (by nofun) (λ_ _ _ _ _ _=>Ky λ_ _ _ _ _=>rfl) nofun (by kernel_rfl) (Hk T c) T.z T.c
def AH:List (Str×RF):=("behind",⟨3,2,["house","stand","hand"],false,jB⟩)::BE
theorem Ik(T:Txt K mg)(c:BMod base mg):dh P w K mg base AH:=by unfold AH jB;exact n5 RR (r:=["line","board","deed","table","state","goal"]) (H:=hh) T.f25 (by nofun) (λ_ _ _ _ _ _=>wq λ_ _ _=>rfl) nofun (by kernel_rfl) (K2 T c) T.z T.c
def A_:List (Str×RF):=("settled",⟨2,2,["house","stand"],false,jC⟩)::AH
theorem Jh(T:Txt K mg)(c:BMod base mg):dh P w K mg base A_:=by unfold A_ jC;exact n5 RR (r:=[]) (H:=hh) T.f26 (by nofun) (λ_ _ _ _ _ _=>vB λ_ _=>rfl) nofun (by kernel_rfl) (Ik T c) T.z T.c
def AZ:List (Str×RF):=("free",⟨2,3,["house","stand"],false,jL⟩)::A_
theorem JR(T:Txt K mg)(c:BMod base mg):dh P w K mg base AZ:=by unfold AZ jL;exact n5 RR (r:=[]) (H:=hh) T.f27 (by nofun) (λ_ _ _ _ _ _=>vB λ_ _=>rfl) nofun (by kernel_rfl) (Jh T c) T.z T.c
def BV:List (Str×RF):=("steps_from",⟨4,4,["house","stand","stands","numbers"],false,js⟩)::AZ
theorem JY(T:Txt K mg)(c:BMod base mg):dh P w K mg base BV:=by unfold BV js;exact n5 RR (r:=["steps","hand","there"]) (H:=hh) T.f28 (by nofun) (λ_ _ _ _ _ _=>xL λ_ _ _ _=>rfl) nofun (by kernel_rfl) (JR T c) T.z T.c
def Ba:List (Str×RF):=("finish_order",⟨1,2,["steps"],false,jm⟩)::BV
theorem Jm(T:Txt K mg)(c:BMod base mg):dh P w K mg base Ba:=by unfold Ba jm;exact n5 RR (r:=["order","seen","root"]) (H:=hh) T.f29 (by nofun) (λ_ _ _ _ _ _=>xR λ_=>rfl) nofun (by kernel_rfl) (JY T c) T.z T.c
def B9:List (Str×RF):=("falling_order",⟨1,3,["steps"],false,jf⟩)::Ba
theorem Kq(T:Txt K mg)(c:BMod base mg):dh P w K mg base B9:=by unfold B9 jf;exact n5 RR (r:=["order","ended","here"]) (H:=hh) T.f30 (by nofun) (λ_ _ _ _ _ _=>xR λ_=>rfl) nofun (by kernel_rfl) (Jm T c) T.z T.c
def Bo:List (Str×RF):=("graph_deeds",⟨3,5,["house","graph","board"],false,jo⟩)::B9
theorem Hz(T:Txt K mg)(c:BMod base mg):dh P w K mg base Bo:=by unfold Bo jo;exact n5 RR (r:=["order"]) (H:=hh) T.f31 (by nofun) (λ_ _ _ _ _ _=>wq λ_ _ _=>rfl) nofun (by kernel_rfl) (Kq T c) T.z T.c
def BF:List (Str×RF):=("graph_from",⟨3,5,["house","firsts","most"],false,jr⟩)::Bo
theorem IX(T:Txt K mg)(c:BMod base mg):dh P w K mg base BF:=by unfold BF jr;exact n5 RR (r:=["numbers","stand","stands","steps"]) (H:=hh) T.f32 (by nofun) (λ_ _ _ _ _ _=>wq λ_ _ _=>rfl) nofun (by kernel_rfl) (Hz T c) T.z T.c
def BR:List (Str×RF):=("graph_of",⟨2,6,["house","most"],false,jD⟩)::BF
theorem Iv(T:Txt K mg)(c:BMod base mg):dh P w K mg base BR:=by unfold BR jD;exact n5 RR (r:=["begins"]) (H:=hh) T.f33 (by nofun) (λ_ _ _ _ _ _=>vB λ_ _=>rfl) nofun (by kernel_rfl) (IX T c) T.z T.c
def D6:List (Str×RF):=("deeds_at",⟨3,7,["house","board","most"],true,jE⟩)::BR
theorem KY(T:Txt K mg)(h:BMod base mg):dh P w K mg base D6:=by unfold D6 jE;exact XJ RR (r:=[]) (H:=hh) T.f34 (by nofun) (λ_ _ _ _ _ _ _ _ c g=>wq (λ_ _ _=>⟨_,rfl,rfl⟩) c (by simpa using g)) (λ_ _ _ _ _ _ _ _ c g=>vB (λ_ _=>⟨_,rfl,rfl⟩) c (by simpa using g)) (by kernel_rfl) (Iv T h) T.z T.c rfl
theorem yk{a:aj}{c:cY}(F:xN K "law" "law" (top 45) a c)(T:Txt K mg)(g:BMod base mg):lW P w K mg base rm 8 a c ["_law_script"] (mr K 1 jN):=by unfold jN;exact M9 RR (r:=["_law_house_here","_law_nexts_here","_law_row","_law_board","_law_found","_law_due"]) (H:=hh) F (by nofun) (by kernel_rfl) (KY T g) T.z T.c rfl rfl
end
end My
namespace My
open MM
open PySem (Str)
theorem ij{s:aX}{n:Nat}{o:MO}(h:s[n]?=some o):n < s.length:=(ac.mp h).1
structure dS(s:aX)(p q:Nat):Prop where
 ne:p≠q
 ex:∃(x c:Int)(cs:List D),s[p]?=some (.lst [.int x,.int c,.ref q])/\s[q]?=some (.lst cs)/\0<=x/\x < 2147483648/\∀d∈cs,∃i:Int,d=.int i
structure Kept(p q:Nat)(s s':aX):Prop where
 le:s.length<=s'.length
 at_:∀n,n < s.length->n≠p->n≠q->s'[n]?=s[n]?
section
variable{p q:Nat}{s s1 s2:aX}{Q:D->aX->Prop}
theorem Kept.refl:Kept p q s s:=⟨ay _,λ_ _ _ _=>rfl⟩
theorem Kept.trans(h:Kept p q s s1)(k:Kept p q s1 s2):Kept p q s s2:=⟨bZ h.le k.le,λn l g c=>(k.at_ n (a_ l h.le) g c).trans (h.at_ n l g c)⟩
theorem Kept.same{n:Nat}{o:MO}(h:Kept p q s s1)(l:n≠p)(c:n≠q)(g:s[n]?=some o):s1[n]?=some o:=(h.at_ n (ij g) l c).trans g
theorem Kept.snoc{o:MO}(h:Kept p q s s1):Kept p q s (s1++[o]):=h.trans ⟨by simp,λn c _ _=>av c⟩
theorem Kept.put{n:Nat}{o:MO}(h:Kept p q s s1)(u:s.length<=n):Kept p q s (s1.set n o):=
 ⟨by simp;exact h.le,λm l g c=>by rw[ag (by ext)];exact h.at_ m l g c⟩
theorem dS.lt(h:dS s p q):p < s.length/\q < s.length:=by obtain⟨x,c,g,a,b,_⟩:=h.ex;exact⟨ij a,ij b⟩
theorem dS.snoc{o:MO}(h:dS s p q):dS (s++[o]) p q:=by obtain⟨x,c,g,a,b,r⟩:=h.ex;exact⟨h.ne,x,c,g,by rw[av (ij a)];exact a,by rw[av (ij b)];exact b,r⟩
theorem dS.put{n:Nat}{o:MO}(h:dS s p q)(l:n≠p)(g:n≠q):dS (s.set n o) p q:=by obtain⟨x,c,u,a,b,r⟩:=h.ex;exact⟨h.ne,x,c,u,by rw[ag l];exact a,by rw[ag g];exact b,r⟩
noncomputable def DN(s:aX)(p q:Nat)(x c:Int)(g:List D):Prop:=s[p]?=some (.lst [.int x,.int c,.ref q])/\s[q]?=some (.lst g)
theorem rj{k:Int}(hp:dS s p q)(O:0 < k)(hk2:k < 1073741824)(h:∀r u,0<=r->r < k->dS u p q->Kept p q s u->Q (.int r) u):wp (ja [.ref p,.int k]) Q s:=by
 obtain⟨x,c,g,I,J,hx0,hx1,C⟩:=hp.ex;have G:=hp.ne;have i3:MM.mC [D.int x,D.int c,D.ref q].length 1=some 1:=rfl
 (simp![ja];simp![j9])
 refine EJ (λl u=>l=[some (.ref p),some (.int k),none,none]/\∃c g,DN u p q x c g/\(∀d∈g,∃i:Int,d=.int i)/\Kept p q s u)
  (λl u=>match u[q]? with
   |some (.lst g)=>g.length
   |_=>0) ⟨rfl,c,g,⟨I,J⟩,C,Kept.refl⟩ (λRw l u up rt hW=>?_)
 obtain⟨el,c,g,⟨I,J⟩,C,H⟩:=hW;subst el;simp![↓fk I,↓fk J];by_cases hc:c=0/\0 < g.length
 ·obtain⟨c,U⟩:=hc;subst c;have O:decide ((0:Int) < (g.length:Nat))=true:=bV (by ext);rw[aD rfl,aD (by ext)];obtain⟨d,hd⟩:∃d,g.getLast?=some d:=⟨_,List.getLast?_eq_some_getLast (by intro e;rw[e]at U;simp at U)⟩
  obtain⟨i,o⟩:=C d (List.mem_of_getLast? hd);subst o;have h:(u.set q (.lst g.dropLast))[p]?=some (.lst [.int x,.int 0,.ref q]):=by rw[ag (bX G)];exact I
  have L:(u.set q (.lst g.dropLast))[q]?=some (.lst g.dropLast):=aw (ij J);have i3:MM.mC 3 1=some 1:=rfl;simp![↓fk I,↓fk J,hd,↓nN J,↓qR,↓fk h,i3,↓nN h];have B:((u.set q (.lst g.dropLast)).set p (.lst [.int x,.int i,.ref q]))[p]?=some (.lst [.int x,.int i,.ref q]):=aw (ij h);have l:((u.set q (.lst g.dropLast)).set p (.lst [.int x,.int i,.ref q]))[q]?=some (.lst g.dropLast):=by rw[ag G];exact L
  refine up ⟨rfl,i,g.dropLast,⟨B,l⟩,λd hd=>C d (List.dropLast_subset _ hd),⟨by simp;exact H.le,λn hn v E=>?_⟩⟩ ?_
  ·rw[ag (bX v),ag (bX E)];exact H.at_ n hn v E
  ·rw[l,J];simp only[vo];ext
 ·have fin : ∀(A B : Prop), (if c = 0 then (if 0 < (g.length : Int) then A else B) else B) = B := λA B => by
    by_cases Y:c=0
    ·rw[aD Y,aB (by ext)]
    ·rw[aB Y]
  rw[fin];have i3:MM.mC 3 1=some 1:=rfl;have i4:MM.mC 3 0=some 0:=rfl;have kp:∀o,Kept p q s (u.set p o):=λo=>⟨by simp;exact H.le,λn hn v E=>by rw[ag (bX v)];exact H.at_ n hn v E⟩
  have pt:∀(L c':Int),0<=L->L < 2147483648->dS (u.set p (.lst [.int L,.int c',.ref q])) p q:=λL c' l Y=>⟨G,L,c',g,aw (ij I),by rw[ag G];exact J,l,Y,C⟩
  have Q:∀a b:Int,0<=b->b < 10000000->pO a b:=λa b Y h2=>.inr ⟨by ext,by ext⟩;by_cases l:0 < c
  ·rw[aD l];simp![i3,↓nN I];exact⟨O,⟨O,hk2⟩,h _ _ (lg _ (by ext)) (iX _ O) (pt _ _ hx0 hx1) (kp _)⟩
  ·rw[aB l];have q:0<=(x*48271+7919) % 2147483647:=lg _ (by ext);have o:(x*48271+7919) % 2147483647 < 2147483647:=iX _ (by ext);generalize (x*48271+7919) % 2147483647=one at q o ⊢;have g:0<=(one*40692+12345) % 2147483399+1:=by have:=lg (one*40692+12345) (show (2147483399:Int)≠0 by ext);ext
   have c:(one*40692+12345) % 2147483399+1 < 2147483648:=by have:=iX (one*40692+12345) (show (0:Int) < 2147483399 by ext);ext
   generalize (one*40692+12345) % 2147483399+1=L at g c ⊢;have U:((0:Int) < 64/\(64:Int) < 1073741824):=by ext
   simp![i4,↓nN I,↓fk (aw (ij I)),U];exact⟨Q _ _ (by ext) (by ext),Q _ _ (by ext) (by ext),.inl ⟨by ext,by ext⟩,Q _ _ (by ext) (by ext),O,h _ _ (lg _ (by ext)) (iX _ O) (pt _ _ g c) (kp _)⟩
theorem We{E:List Int}(h:∀p q o,dS o p q->s.length<=p->s.length<=q->dX s o->Q (.ref p) o):wp (jH [.lit (E.map D.int),.int 0]) Q s:=by
 have l0:0<=fv:=bY _;have l3:3<=fv:=g8 (by ext);have m0:pO 7919 0:=.inl ⟨by ext,by ext⟩;have m2:∀a b:Int,0<=b->b < 10000000->pO a b:=λa b h1 h2=>.inr ⟨by ext,by ext⟩;have U:∀Q s,wp (xc (.int 10) (.int 18)) Q s=Q (.int 1000000000000000000) s:=λQ s=>by unfold xc;rw[eY,cR];exact propext ⟨λh=>h.2,λh=>⟨by decide,h⟩⟩
 generalize (1000000000000000000:Int)=big at U
 (simp![jH];simp![yc,l0,m0])
 have B:∀d∈cutD (E.map D.int) (some 0) (some 63),∃i:Int,d=.int i:=λd hd=>by unfold cutD at hd;obtain⟨i,_,e⟩:=cz.mp (List.mem_of_mem_drop (fq hd));exact⟨i,e.symm⟩
 have I:(cutD (E.map D.int) (some 0) (some 63)).length<=63:=by unfold cutD gM;simp;ext
 generalize cutD (E.map D.int) (some 0) (some 63)=cells at B I;refine tP (λi l o=>∃x J C,l=[some (.lit (E.map D.int)),some (.int 0),some (.int x),some (.ref s.length),J]/\(i=0\/(0<=x/\x < 2147483648))/\(i=0->x=104729)/\o[s.length]?=some (.lst C)/\(o.length=s.length+1/\dX s o)/\C.length<=i/\∀d∈C,∃i:Int,d=.int i) (λ_ _ _ _=>trivial) ⟨_,_,[],rfl,.inl rfl,λ_=>rfl,by simp,⟨by simp,(dX.refl _).snoc _⟩,ay _,by simp⟩ (λRw i d l o up rt hd O=>?_) (λl o O=>?_)
 ·obtain⟨x,J,C,el,Y,H,g,c,hl,u⟩:=O;subst el;obtain⟨v,G⟩:=B d (az hd);subst G;have Q:=(ac.mp hd).1;have c1:(0:Int) < 2147483629:=by ext
  have c2:(0:Int) < 2147483647:=by ext
  have L:0<=(x*48271+v % 2147483629+1) % 2147483647:=lg _ (by ext);have o:(x*48271+v % 2147483629+1) % 2147483647 < 2147483647:=iX _ (by ext);have q:pO x 48271:=m2 _ _ (by ext) (by ext);have E:C.length < fv:=qp (by ext);simp![↓U,↓fk g,↓nN g,q,c1,c2,E];generalize (x*48271+v % 2147483629+1) % 2147483647=I at L o ⊢;by_cases l:big<=v
  ·rw[aD l];refine up ⟨_,_,_,rfl,.inr ⟨L,by ext⟩,λh=>by ext,aw (ij g),⟨by simp[c.1],c.2.put (ay _)⟩,by simp;ext,λd hd=>?_⟩;rcases aV.mp hd with hd|hd
   ·exact u d hd
   ·exact⟨v,aI.mp hd⟩
  ·rw[aB l];exact up ⟨_,_,_,rfl,.inr ⟨L,by ext⟩,λh=>by ext,g,c,by ext,u⟩
 ·obtain⟨x,J,C,el,Y,H,g,c,hl,u⟩:=O;subst el;simp![↓fk g,l3];have G:0<=x/\x < 2147483648:=by
   rcases Y with h|h
   ·have:=H h;ext
   ·exact h
  obtain⟨c,hex⟩:=c;refine h _ o.length _ ⟨by simp,x,0,C.reverse,by simp,by simp,G.1,G.2,λd hd=>u d (List.mem_reverse.mp hd)⟩ (by simp;ext) (by ext) ((hex.snoc _).snoc _)
end
open PySem (Str)
def lC(S c:Nat)(nx un:Nat->Nat->Nat):D:=.tup (bw S λs=>.tup (bw c λd=>.tup [.int (nx s d:Nat),.int (un s d:Nat)]))
noncomputable def t6(S c:Nat)(nx un:Nat->Nat->Nat):Prop:=1<=S/\S<=4/\1<=c/\c<=4/\∀s d,s < S->d < c->nx s d < S/\un s d < 4
section
variable{p q:Nat}{s s1 s2:aX}{Q:D->aX->Prop}
theorem uj{m:Nat}(h:m<=100):(-(2^62)<=(m:Int)/\(m:Int) < 2^62):=by ext
theorem Xa{m n:Nat}{A:List D->aX->Prop}(O:dS s p q)(h1:1<=m)(h2:m<=4)(h:∀(f g:Nat->Nat)v,(∀i,i < n->f i < m/\g i < 4)->dS v p q->Kept p q s v->A (bw n λi=>.tup [.int (f i:Nat),.int (g i:Nat)]) v):
  wp (collect (aS 0) bR (dU (ax (bW ja (ax (am 1) (ax (am 2) bu))) (ax (bW ja (ax (am 1) (ax (aN (.int 4)) bu))) bu))) dL (bw n λi=>.int i) [none,some (.ref p),some (.int m)]) A s:=by
 refine Fd (λi l v=>∃f g:Nat->Nat,l=(bw i λi=>.tup [.int (f i:Nat),.int (g i:Nat)])/\(∀j,j < i->f j < m/\g j < 4)/\dS v p q/\Kept p q s v) (λ_ _ _ _=>trivial) ⟨λ_=>0,λ_=>0,rfl,λj G=>bq G (rZ _),O,Kept.refl⟩ (λRr i l s1 up hi U=>?_) (λl s1 c=>by obtain⟨f,g,H,u,o,B⟩:=c;rw[H];exact h f g s1 u o B);obtain⟨f,g,H,u,o,B⟩:=U;have I:2<=fv:=g8 (by ext);simp![I];refine rj o (by ext) (by ext) λa s2 Q a1 E L=>?_
 try simp![]
 refine rj E (by ext) (by ext) λb s3 Y b1 C J=>?_
 try simp![I]
 refine up ⟨λj=>if j=i then a.toNat else f j,λj=>if j=i then b.toNat else g j,?_,λj G=>?_,C,(B.trans L).trans J⟩
 ·rw[By,H];congr 1
  ·exact xQ λj G=>by dsimp only;rw[aB (by ext),aB (by ext)]
  ·dsimp only;rw[aD rfl,aD rfl,gz Q,gz Y]
 ·dsimp only;by_cases e:j=i
  ·rw[aD e,aD e];ext
  ·rw[aB e,aB e];exact u j (by ext)
theorem Lv{m n:Nat}{A:List D->aX->Prop}(L:dS s p q)(I:1<=m)(H:m<=4)(h3:1<=n)(h4:n<=4)(h:∀(nx un:Nat->Nat->Nat)v,t6 m n nx un->dS v p q->Kept p q s v->A (bw m λs=>.tup (bw n λd=>.tup [.int (nx s d:Nat),.int (un s d:Nat)])) v):
  wp (collect (aS 0) bR (gY kA (dF 1 [1,2] (MM.fT (am 3)) (aS 0) bR (dU (ax (bW ja (ax (am 1) (ax (am 2) bu))) (ax (bW ja (ax (am 1) (ax (aN (.int 4)) bu))) bu))))) dL (bw m λi=>.int i) [none,some (.ref p),some (.int m),some (.int n)]) A s:=by
 refine Fd (λi l v=>∃nx un:Nat->Nat->Nat,l=(bw i λs=>.tup (bw n λd=>.tup [.int (nx s d:Nat),.int (un s d:Nat)]))/\(∀s d,s < i->d < n->nx s d < m/\un s d < 4)/\dS v p q/\Kept p q s v) (λ_ _ _ _=>trivial) ⟨λ_ _=>0,λ_ _=>0,rfl,λj d E=>bq E (rZ _),L,Kept.refl⟩ (λRr i l s1 up hi Q=>?_) (λl s1 c=>by obtain⟨nx,un,G,u,o,B⟩:=c;rw[G];exact h nx un s1 ⟨I,H,h3,h4,u⟩ o B);obtain⟨nx,un,G,u,o,B⟩:=Q;have Y:=uj (show n<=100 by ext);have O:n<=fv:=g8 (by ext);simp![Y,gK,bo,tX,mh,O];refine Xa o I H λf g s2 U C J=>?_
 try simp![]
 refine up ⟨λj d=>if j=i then f d else nx j d,λj d=>if j=i then g d else un j d,?_,λj d E hd=>?_,C,B.trans J⟩
 ·rw[By,G];congr 1
  ·exact xQ λj E => by congr 1;exact xQ λd hd=>by dsimp only;rw[aB (by ext),aB (by ext)]
  ·congr 2;exact xQ λd hd=>by dsimp only;rw[aD rfl,aD rfl]
 ·dsimp only;by_cases e:j=i
  ·rw[aD e,aD e];exact U d hd
  ·rw[aB e,aB e];exact u j d (by ext) hd
theorem Vo{k:Nat}{A:List D->aX->Prop}(B:k<=3):wp (collect (aS 0) bR (c2 fG (dU (ax (dU (ax (am 0) (ax (am 0) bu))) bu)) (gY kA (dF 1 [] (MM.fT (am 1)) (aS 0) bR (dU (ax (am 0) (ax (aN (.int 0)) bu)))))) dL (bw k λi=>.int i) [none,some (.int k)]) A s=A (bw k λv=>.tup (.tup [.int (v:Nat),.int (v:Nat)]::bw k λv=>.tup [.int (v:Nat),.int 0])) s:=wm tN λv o Q=>by
 have l:1<=fv:=g8 (by ext);have g:2<=fv:=g8 (by ext);have C:=uj (show k<=100 by ext);have u:k<=fv:=g8 (by ext);have c:1+k<=fv:=g8 (by ext);have h:∀Q s,wp (collect (aS 0) bR (dU (ax (am 0) (ax (aN (.int 0)) bu))) dL (bw k λi=>.int i) [none]) Q s=Q (bw k λv=>.tup [.int (v:Nat),.int 0]) s:=λQ s=>wm tN λv o Q=>by simp![g]
 simp![l,g,C,gK,bo,tX,mh,u,↓h,c]
theorem UH{k:Nat}: D.tup (bw k λv=>.tup (.tup [.int (v:Nat),.int (v:Nat)]::bw k λv=>.tup [.int (v:Nat),.int 0]))=lC k (k+1) (λs d=>match d with
    |0=>s
    |d+1=>d) (λs d=>match d with
    |0=>s
    |_+1=>0):=by
 unfold lC;congr 1;exact xQ λv c=>by rw[MV];congr 1;exact xQ λd hd=>by cases d<;>rfl
theorem Uz{m:Nat}{A:List D->aX->Prop}(B:m<=4):wp (collect (aS 0) bR (gY kA (dF 1 [0] (MM.fT (am 1)) (aS 0) bR (dU (ax (am 0) (ax (am 1) bu))))) dL (bw m λi=>.int i) [none,some (.int m)]) A s=A (bw m λs=>.tup (bw m λv=>.tup [.int (v:Nat),.int (s:Nat)])) s:=wm tN λv o Q=>by
 have g:2<=fv:=g8 (by ext);have l:=uj (show m<=100 by ext);have h:m<=fv:=g8 (by ext);have c:∀Q s,wp (collect (aS 0) bR (dU (ax (am 0) (ax (am 1) bu))) dL (bw m λi=>.int i) [none,some (.int v)]) Q s=Q (bw m λu=>.tup [.int (u:Nat),.int (v:Nat)]) s:=λQ s=>wm tN λu hu Q=>by simp![g]
 simp![l,gK,bo,tX,mh,h,↓c]
theorem O7{m:Nat}{A:List D->aX->Prop}(l:1<=m):wp (collect (aS 0) bR (dU (ax (dU (ax (c2 oZ (c2 fG (am 0) (aN (.int 1))) (am 1)) (ax (am 0) bu))) bu)) dL (bw m λi=>.int i) [none,some (.int m)]) A s=A (bw m λs=>.tup [.tup [.int (((s+1) % m:Nat):Int),.int (s:Nat)]]) s:=wm tN λv u Q=>by
 have h:1<=fv:=g8 (by ext);have g:2<=fv:=g8 (by ext);have c:(0:Int) < (m:Nat):=by ext
 have o:((v:Int)+1) % (m:Int)=(((v+1) % m:Nat):Int):=by simp
 simp![h,g,c,o]
theorem Vi{m:Nat}{A:List D->aX->Prop}(E:m<=4):wp (collect (aS 0) bR (gY kA (dF 1 [0] (MM.nh (aN (.int 1)) (am 1)) (aS 0) bR (dU (ax (am 1) (ax (am 1) bu))))) dL (bw (m-1) λi=>.int (1+(i:Int))) [none,some (.int m)]) A s=A (bw (m-1) λs=>.tup (bw (m-1) λv=>.tup [.int (1+(s:Int)),.int (1+(s:Int))])) s:=wm tN λv C Q=>by
 have h:2<=fv:=g8 (by ext);have l:=uj (show m<=100 by ext);have o:((m:Int)-1).toNat=m-1:=by ext
 have c:m-1<=fv:=g8 (by ext);have B:(-(2^62)<=(1:Int)/\(1:Int) < 2^62):=by ext
 have g:∀Q s,wp (collect (aS 0) bR (dU (ax (am 1) (ax (am 1) bu))) dL (bw (m-1) λi=>.int (1+(i:Int))) [none,some (.int (1+(v:Int)))]) Q s=Q (bw (m-1) λu=>.tup [.int (1+(v:Int)),.int (1+(v:Int))]) s:=λQ s=>wm tN λu hu Q=>by simp![h]
 simp![B,l,gK,o,N5,mh,c,↓g]
theorem Vd{m:Nat}{A:List D->aX->Prop}:wp (collect (aS 0) bR (dU (ax (am 0) (ax (am 0) bu))) dL (bw (m-1) λi=>.int (1+(i:Int))) [none]) A s=A (bw (m-1) λv=>.tup [.int (1+(v:Int)),.int (1+(v:Int))]) s:=wm tN λu hu Q=>by have c:2<=fv:=g8 (by ext);simp![c]
theorem X4{n:Nat}: D.tup (.tup (bw n λv=>.tup [.int (1+(v:Int)),.int (1+(v:Int))])::bw n λs=>.tup (bw n λv=>.tup [.int (1+(s:Int)),.int (1+(s:Int))]))=lC (n+1) n (λs d=>match s with
     |0=>d+1
     |s+1=>s+1) (λs d=>match s with
     |0=>d+1
     |s+1=>s+1):=by
 unfold lC;rw[MV];congr 1;exact xQ λs c=>by
  cases s with
  |zero=>
   dsimp only;congr 1;exact xQ λd hd=>by rw[show (1+(d:Int))=((d+1:Nat):Int) by ext]
  |succ s=>
   dsimp only;congr 1;exact xQ λd hd=>by rw[show (1+(s:Int))=((s+1:Nat):Int) by ext]
theorem PQ{mo:Int}(mo1:1<=mo)(mo4:mo<=4)(hp:dS s p q)(h:∀S dn nx un s',t6 S dn nx un->(S:Int)<=mo->dS s' p q->Kept p q s s'->Q (lC S dn nx un) s'):wp (jA [.ref p,.int mo]) Q s:=by
 (simp![jA];simp![jX])
 refine rj hp (by ext) (by ext) λkind s1 kd0 kd1 hp1 k1=>?_
 try simp![]
 refine rj hp1 (by ext) (by ext) λr s2 O r1 u k2=>?_;have o:=k1.trans k2;have C:r=((r.toNat:Nat):Int):=(gz O).symm;generalize r.toNat=B at C;subst C;have E:(1+(B:Int))=((1+B:Nat):Int):=by ext
 have l:1<=1+B:=by ext
 have c:1+B<=4:=by ext
 have hmo:((1+B:Nat):Int)<=mo:=by ext
 simp![E]
 try rw[E]
 generalize 1+B=m at l c hmo;have l1:1<=fv:=g8 (by ext);by_cases c0:kind=0
 ·rw[aD c0];have g:min (m:Int) 3=((min m 3:Nat):Int):=by ext
  have Y:1<=min m 3:=by ext
  have U:min m 3<=3:=by ext
  have c:min m 3<=m:=by ext
  rw[g];generalize min m 3=k at Y U c;have J:=uj (show k<=100 by ext);have L:k<=fv:=g8 (by ext);have G:∀A s,wp (collect (aS 0) bR (c2 fG (dU (ax (dU (ax (am 0) (ax (am 0) bu))) bu)) (gY kA (dF 1 [] (MM.fT (am 1)) (aS 0) bR (dU (ax (am 0) (ax (aN (.int 0)) bu)))))) dL (bw k λi=>.int i) [none,some (.int k)]) A s=A (bw k λv=>.tup (.tup [.int (v:Nat),.int (v:Nat)]::bw k λv=>.tup [.int (v:Nat),.int 0])) s:=λA s=>Vo U;simp![J,gK,bo,tX,mh,L,↓G];rw[UH];refine h _ _ _ _ _ ⟨Y,by ext,by ext,by ext,λs d hs hd=>?_⟩ (by ext) u o;cases d with
  |zero=>exact⟨hs,by dsimp only;ext⟩
  |succ d=>exact⟨by dsimp only;ext,by dsimp only;ext⟩
 rw[aB c0];have J:=uj (show m<=100 by ext);have L:m<=fv:=g8 (by ext);by_cases c1:kind=1
 ·rw[aD c1];have G:∀A s,wp (collect (aS 0) bR (gY kA (dF 1 [0] (MM.fT (am 1)) (aS 0) bR (dU (ax (am 0) (ax (am 1) bu))))) dL (bw m λi=>.int i) [none,some (.int m)]) A s=A (bw m λs=>.tup (bw m λv=>.tup [.int (v:Nat),.int (s:Nat)])) s:=λA s=>Uz c;simp![J,gK,bo,tX,mh,L,↓G];exact h m m (λs d=>d) (λs d=>s) _ ⟨l,c,l,c,λs d hs hd=>⟨hd,by dsimp only;ext⟩⟩ (by ext) u o
 rw[aB c1];by_cases c2':kind=2
 ·rw[aD c2'];have G:∀A s,wp (collect (aS 0) bR (dU (ax (dU (ax (c2 oZ (c2 fG (am 0) (aN (.int 1))) (am 1)) (ax (am 0) bu))) bu)) dL (bw m λi=>.int i) [none,some (.int m)]) A s=A (bw m λs=>.tup [.tup [.int (((s+1) % m:Nat):Int),.int (s:Nat)]]) s:=λA s=>O7 l;simp![J,gK,bo,tX,mh,L,↓G];exact h m 1 (λs d=>(s+1) % m) (λs d=>s) _ ⟨l,c,by ext,by ext,λs d hs hd=>⟨Nat.mod_lt _ (by ext),by dsimp only;ext⟩⟩ (by ext) u o
 rw[aB c2'];by_cases c3:kind=3
 ·rw[aD c3];by_cases Y:(1:Int) < (m:Nat)
  ·rw[aD Y];have B:((m:Int)-1).toNat=m-1:=by ext
   have U:m-1<=fv:=g8 (by ext);have q:1+(m-1)<=fv:=g8 (by ext);have C:(-(2^62)<=(1:Int)/\(1:Int) < 2^62):=by ext
   have G:∀A s,wp (collect (aS 0) bR (gY kA (dF 1 [0] (MM.nh (aN (.int 1)) (am 1)) (aS 0) bR (dU (ax (am 1) (ax (am 1) bu))))) dL (bw (m-1) λi=>.int (1+(i:Int))) [none,some (.int m)]) A s=A (bw (m-1) λs=>.tup (bw (m-1) λv=>.tup [.int (1+(s:Int)),.int (1+(s:Int))])) s:=λA s=>Vi c;have l:∀A s,wp (collect (aS 0) bR (dU (ax (am 0) (ax (am 0) bu))) dL (bw (m-1) λi=>.int (1+(i:Int))) [none]) A s=A (bw (m-1) λv=>.tup [.int (1+(v:Int)),.int (1+(v:Int))]) s:=λA s=>Vd;have g:∀(ds:List D)Q,wp (getL s2.length) Q (s2++[MO.lst ds])=Q ds (s2++[MO.lst ds]):=λds Q=>fk (by simp);simp![C,J,gK,B,N5,mh,U,↓G,↓l,↓g,l1,q];rw[X4];refine h _ _ _ _ _ ⟨by ext,by ext,by ext,by ext,λs d hs hd=>?_⟩ (by ext) u.snoc o.snoc;cases s with
   |zero=>dsimp only;ext
   |succ s=>dsimp only;ext
  ·rw[aB Y];refine rj u (by ext) (by ext) λr s3 O r1 I k3=>?_;have C:r=((r.toNat:Nat):Int):=(gz O).symm;generalize r.toNat=B at C;subst C;have E:(1+(B:Int))=((1+B:Nat):Int):=by ext
   simp![E,J,gK,bo,tX,mh,L]
   try rw[E]
   refine Lv I l c (by ext) (by ext) λnx un s4 ok H k4=>?_;simp![];exact h _ _ _ _ _ ok (by ext) H ((o.trans k3).trans k4)
 ·rw[aB c3];refine rj u (by ext) (by ext) λr s3 O r1 I k3=>?_;have C:r=((r.toNat:Nat):Int):=(gz O).symm;generalize r.toNat=B at C;subst C;have E:(1+(B:Int))=((1+B:Nat):Int):=by ext
  simp![E,J,gK,bo,tX,mh,L]
  try rw[E]
  refine Lv I l c (by ext) (by ext) λnx un s4 ok H k4=>?_;simp![];exact h _ _ _ _ _ ok (by ext) H ((o.trans k3).trans k4)
end
open PySem (Str)
structure Bd where
 S:Nat
 dn:Nat
 nx:Nat->Nat->Nat
 un:Nat->Nat->Nat
 st:Nat
inductive Ln where
 |settle (v:Nat)
 |act (b d:Nat) (gs:List Nat)
structure Hd where
 b0:Nat
 b1:Nat
 lines:List Ln
structure Hs where
 boards:List Bd
 hands:List Hd
structure Sd where
 ls:List Nat
 ss:List Nat
 deriving DecidableEq
noncomputable def cH(n:Nat):D:=.int (n:Int)
def pR(b:Bd):D:=.tup [lC b.S b.dn b.nx b.un,cH b.st]
def mW:Ln->D
 | .settle v=>.tup [.str "settle",cH v]
 | .act b d gs=>.tup [.str "do",cH b,cH d,.tup (gs.map cH)]
def nE(h:Hd):D:=.tup [.tup [cH h.b0,cH h.b1],.tup (h.lines.map mW)]
def gX(h:Hs):D:=.tup [.tup (h.boards.map pR),.tup (h.hands.map nE)]
def cA(s:Sd):D:=.tup [.tup (s.ls.map cH),.tup (s.ss.map cH)]
def xj(b:Bd):Prop:=t6 b.S b.dn b.nx b.un/\b.st < b.S
def uE(bs:List Bd)(m:Nat):Ln->Prop
 | .settle v=>v < 2
 | .act b d gs=>∃c,bs[b]?=some c/\d < c.dn/\gs.length=1+mx (c.un · d) c.S/\∀g∈gs,g < m
def yL(bs:List Bd)(h:Hd):Prop:=h.b0 < h.lines.length/\h.b1 < h.lines.length/\h.lines.length<=12/\∀l∈h.lines,uE bs h.lines.length l
def iG(h:Hs):Prop:=h.boards.length<=7/\(∀b∈h.boards,xj b)/\2<=h.hands.length/\h.hands.length<=3/\∀x∈h.hands,yL h.boards x
noncomputable def km(h:Hs)(s:Sd):Prop:=s.ls.length=h.hands.length/\s.ss.length=h.boards.length/\(∀(k:Nat)hd l,h.hands[k]?=some hd->s.ls[k]?=some l->l < hd.lines.length)/\∀(b:Nat)bd x,h.boards[b]?=some bd->s.ss[b]?=some x->x < bd.S
theorem wJ{r:Int}(h:0<=r):∃n:Nat,r=(n:Int):=⟨r.toNat,(gz h).symm⟩
section
variable{p q:Nat}{s s1 s2:aX}{Q:D->aX->Prop}
theorem Uw{b:Bd}{d:Nat}{Q:D->aX->Prop}{s:aX}(h:t6 b.S b.dn b.nx b.un)(hd:d < b.dn):wp (collect (aS 0) bR (c2 aR (c2 aR (am 0) (am 1)) (aN (.int 1))) dL (bw b.S λs=>.tup (bw b.dn λd=>D.tup [.int (b.nx s d:Nat),.int (b.un s d:Nat)])) [none,some (.int d)]) (λx c=>wp (mz x) Q c) s=Q (.int (mx (b.un · d) b.S:Nat)) s:=by rw[wm (f:=λi=>.int (b.un i d:Nat)) tN (λi g Q=>by simp![↓yW hd])];exact Fs (f:=(b.un · d)) (by have:=h.1;ext)
theorem Tj{C:Nat}{bs:List Bd}{m k:Nat}{o:Bool}{T:Bool->aX->Prop}(u:dS s p q)(I:s[C]?=some (.lst (bs.map pR)))(U:k < m)(B:∀s1,dS s1 p q->Kept p q s s1->T true s1)(J:∀s1,(o=true->k+1 < m)->0 < bs.length->dS s1 p q->Kept p q s s1->T false s1):
  wp (rK (db (c2 nY (c1 gD (am 1)) (aN (.int 0)))) (rK (n0 (qW (am 4)) (db (c2 nY (am 3) (c2 sM (am 2) (aN (.int 1)))))) (db (c2 nY (bW ja (ax (am 0) (ax (aN (.int 5)) bu))) (aN (.int 0))))) [some (.ref p),some (.ref C),some (.int m),some (.int k),some (.bl o),none,none,none,none,none]) T s:=by
 simp![↓fk I,ae];by_cases hz:bs.length=0
 ·rw[aD (by ext)];exact B s u Kept.refl
 rw[aB (by ext)];have go:∀(g:o=true->k+1 < m)(R:D->aX->Prop)(H:∀(r:Int) l,R (.int r) l=T (r == 0) l),wp (ja [.ref p,.int 5]) R s:=λg R H=>by
  refine rj u (by ext) (by ext) λr s1 O L c E=>?_;rw[H];by_cases G:r=0
  ·have:(r == 0)=true:=by simp[G]
   rw[this];exact B s1 c E
  ·have:(r == 0)=false:=by simp[G]
   rw[this];exact J s1 g (by ext) c E
 cases o with
 |false=>
  simp only[aY,if_false];exact go (λh=>by cases h) _ λr l=>by simp![]
 |true=>
  simp only[if_true];by_cases v:k+1 < m
  ·rw[aB (by ext)];exact go (λ_=>v) _ λr l=>by simp![]
  ·rw[aD (by ext)];exact B s u Kept.refl
theorem Rb{nb:Nat}{bs:List Bd}{m k:Nat}{on:Bool}(hp:dS s p q)(hg:s[nb]?=some (.lst (bs.map pR)))(hnp:nb≠p)(hnq:nb≠q)(hbl:bs.length<=7)(hbd:∀x∈bs,xj x)(hk:k < m)(hm:m<=12)
  (h:∀ln E,uE bs m ln->dS E p q->Kept p q s E->Q (mW ln) E):wp (jw [.ref p,.ref nb,.int m,.int k,.bl on]) Q s:=by
 have l0:0<=fv:=bY _;have l2:2<=fv:=g8 (by ext);have l4:4<=fv:=g8 (by ext);simp only[jw,j8,↓wX,↓qL,↓FC,aO,mY,io,nt,bC,iK,Nat.reduceAdd,Nat.reduceSub,dN,List.replicate_zero];refine Tj hp hg hk (λs1 L k1=>?_) (λs1 hon hz L k1=>?_)
 ·simp![l2];refine rj L (by ext) (by ext) λv s2 v0 v1 c k2=>?_;obtain⟨n,e⟩:=wJ v0;subst e;simp![l2];exact h (.settle n) _ (by show n < 2;ext) c (k1.trans k2)
 ·have q2:∀Q,wp (getL nb) Q s1=Q (bs.map pR) s1:=λQ=>fk (k1.same hnp hnq hg);simp![↓q2,ae,aY,if_false];refine rj L (by ext) (by ext) λbi s2 bi0 bi1 hp2 k2=>?_;obtain⟨b,eb⟩:=wJ bi0;subst eb;have hb:b < bs.length:=by ext
  have Y:bs[b]?=some bs[b]:=ai hb;obtain⟨ok,hst⟩:=hbd bs[b] (bA hb);generalize bs[b]=c at Y ok hst;have q4:∀Q s,wp (cJ (bs.map pR) (b:Int)) Q s=Q (.tup [lC c.S c.dn c.nx c.un,cH c.st]) s:=λQ s=>qJ (by rw[ak,Y];rfl);have ok0:=ok;obtain⟨o1,o2,o3,o4,o5⟩:=ok;have tb:wp (aR (lC c.S c.dn c.nx c.un) (.int 0))=λQ s=>Q (D.tup (bw c.dn λd=>D.tup [.int (c.nx 0 d:Nat),.int (c.un 0 d:Nat)])) s:=by funext Q s;unfold lC;rw[qw,QX (by ext)]
  simp![↓fk ((k1.trans k2).same hnp hnq hg),↓q4,↓tb,mh];refine rj hp2 (by ext) (by ext) λdd o dd0 dd1 hp3 k3=>?_;obtain⟨d,ed⟩:=wJ dd0;subst ed;have hd:d < c.dn:=by ext
  have hS:c.S<=fv:=g8 (by ext);have mu:∀Q s,wp (collect (aS 0) bR (c2 aR (c2 aR (am 0) (am 1)) (aN (.int 1))) dL (bw c.S λs=>.tup (bw c.dn λd=>D.tup [.int (c.nx s d:Nat),.int (c.un s d:Nat)])) [none,some (.int d)]) (λx E=>wp (mz x) Q E) s=Q (.int (mx (c.un · d) c.S:Nat)) s:=λQ s=>Uw ok0 hd;have hmx:mx (c.un · d) c.S<=3:=Kv λi hi=>by have:=(o5 i d hi hd).2;ext
  have hm1:(1+((mx (c.un · d) c.S:Nat):Int))=((1+mx (c.un · d) c.S:Nat):Int):=by ext
  have hb1:=uj (show 1+mx (c.un · d) c.S<=100 by ext);simp![l0,lC,gK,mh,hS,↓mu,hm1,hb1,bo,tX];have J:=(k1.trans k2).trans k3;have hp4:dS (o++[.lst []]) p q:=hp3.snoc;have k4:Kept p q s (o++[.lst []]):=J.snoc;have g4:(o++[MO.lst []])[o.length]?=some (.lst []):=by simp
  have hlp:=hp3.lt;have hs3:s.length<=o.length:=J.le;generalize o++[MO.lst []]=s4 at hp4 k4 g4;refine Gg (n:=1+mx (c.un · d) c.S) (λi l E=>∃x9 B,l=[some (.ref p),some (.ref nb),some (.int m),some (.int k),some (.bl on),some (.int b),some (.tup (bw c.S λs=>.tup (bw c.dn λd=>D.tup [.int (c.nx s d:Nat),.int (c.un s d:Nat)]))),some (.int d),some (.ref o.length),x9]/\E[o.length]?=some (.lst (B.map cH))/\B.length=i/\(∀g∈B,g < m)/\dS E p q/\Kept p q s E) (λ_ _ _ _=>trivial) ⟨_,[],rfl,g4,rfl,by simp,hp4,k4⟩ (λRr i l E up hi hW=>?_) (λl E hW=>?_)
  ·obtain⟨x9,B,el,g,hl,U,H,O⟩:=hW;subst el;have app:∀v C,v < m->dS C p q->Kept p q E C->∃u:List Nat,(C.set o.length (.lst (B.map cH++[cH v])))[o.length]?=some (.lst (u.map cH))/\u.length=i+1/\(∀g∈u,g < m)/\dS (C.set o.length (.lst (B.map cH++[cH v]))) p q/\Kept p q s (C.set o.length (.lst (B.map cH++[cH v]))):=λv C Y G I=>by
    have c:C[o.length]?=some (.lst (B.map cH)):=I.same (by ext) (by ext) g;refine⟨B++[v],by rw[aw (ij c)];simp,by simp[hl],λx h=>?_,G.put (by ext) (by ext),(O.trans I).put hs3⟩;rcases aV.mp h with h|h
    ·exact U x h
    ·rw[aI]at h;rw[h];exact Y
   have L:B.length < fv:=qp (by ext);cases on with
   |true=>
    have hkm:=hon rfl;simp![if_true];refine rj H (by ext) (by ext) λr C J Q G I=>?_;obtain⟨v,l⟩:=wJ J;subst l;have c:C[o.length]?=some (.lst (B.map cH)):=I.same (by ext) (by ext) g;have l:D.int ((k:Int)+1+(v:Int))=cH (k+1+v):=by unfold cH;congr 1
    simp![↓fk c,↓nN c,ae,L,l];obtain⟨u,z⟩:=app (k+1+v) C (by ext) G I;exact up ⟨_,u,rfl,z⟩
   |false=>
    simp![aY,if_false];refine rj H (by ext) (by ext) λr C J Q G I=>?_;obtain⟨v,l⟩:=wJ J;subst l;have c:C[o.length]?=some (.lst (B.map cH)):=I.same (by ext) (by ext) g;simp![↓fk c,↓nN c,ae,L];obtain⟨u,z⟩:=app v C (by ext) G I;exact up ⟨_,u,rfl,z⟩
  ·obtain⟨x9,B,el,g,hl,U,H,O⟩:=hW;subst el;simp![↓fk g,l4];exact h (.act b d B) _ ⟨c,Y,hd,hl,U⟩ H O
end
open PySem (Str)
section
variable{p q:Nat}{s s1 s2:aX}{Q:D->aX->Prop}
theorem Qx{H:Nat}{bs:List Bd}{m:Nat}{on:Bool}{A:List D->aX->Prop}(hp:dS s p q)(hg:s[H]?=some (.lst (bs.map pR)))(G:H≠p)(E:H≠q)(U:bs.length<=7)(Y:∀x∈bs,xj x)(hm:m<=12)
  (h:∀(g:List Ln)C,g.length=m->(∀l∈g,uE bs m l)->dS C p q->Kept p q s C->A (g.map mW) C):
  wp (collect (aS 0) bR (bW jw (ax (am 1) (ax (am 2) (ax (am 3) (ax (am 0) (ax (am 4) bu)))))) dL (bw m λi=>.int i) [none,some (.ref p),some (.ref H),some (.int m),some (.bl on)]) A s:=by
 refine Fd (λi u C=>∃g:List Ln,u=g.map mW/\g.length=i/\(∀l∈g,uE bs m l)/\dS C p q/\Kept p q s C) (λ_ _ _ _=>trivial) ⟨[],rfl,rfl,by simp,hp,Kept.refl⟩ (λRr i u s1 up hi hW=>?_) (λu s1 o=>by obtain⟨g,Q,O,B,v,I⟩:=o;rw[Q];exact h g s1 O B v I);obtain⟨g,Q,O,B,v,I⟩:=hW;simp![];refine Rb v (I.same G E hg) G E U Y hi hm λln s2 L J k2=>?_;refine up ⟨g++[ln],by rw[Q];simp,by simp[O],λl c=>?_,J,I.trans k2⟩;rcases aV.mp c with c|c
 ·exact B l c
 ·rw[aI]at c;rw[c];exact L
theorem P5{r:Nat}(h:r < 8){Q:D->aX->Prop}{s:aX}(c:∀n:Nat,n<=4->Q (.int n) s):wp (cJ [.int 0,.int 1,.int 1,.int 2,.int 2,.int 3,.int 1,.int 4] (r:Int)) Q s:=by have:r=0\/r=1\/r=2\/r=3\/r=4\/r=5\/r=6\/r=7:=(by decide:∀r,r < 8->(r=0\/r=1\/r=2\/r=3\/r=4\/r=5\/r=6\/r=7)) r h;rcases this with e|e|e|e|e|e|e|e<;>subst e<;>rw[qJ (i:=_) rfl]<;>first|exact c 0 (by ext)|exact c 1 (by ext)|exact c 2 (by ext)|exact c 3 (by ext)|exact c 4 (by ext)
noncomputable def mS:Nat->Nat
 |0=>4
 |1=>4
 |2=>3
 |_=>2
noncomputable def Oj:Nat->Nat
 |0=>4
 |1=>4
 |2=>4
 |3=>4
 |_=>3
noncomputable def NL:Nat->Nat
 |0=>3
 |1=>3
 |2=>2
 |3=>2
 |_=>2
def mL(n c:Nat):Nat:=if n=2 then Oj c else NL c
theorem xL{r:Nat}(h:r<=4):r=0\/r=1\/r=2\/r=3\/r=4:=(by decide:∀r,r < 5->(r=0\/r=1\/r=2\/r=3\/r=4)) r (Nat.lt_succ_of_le h)
theorem U0{r:Nat}(h:r<=4){Q:D->aX->Prop}{s:aX}:wp (cJ [.int 4,.int 4,.int 3,.int 2,.int 2] (r:Int)) Q s=Q (.int (mS r)) s:=by rcases xL h with e|e|e|e|e<;>subst e<;>rw[qJ (i:=_) rfl]<;>rfl
theorem Uq{r:Nat}(h:r<=4){Q:D->aX->Prop}{s:aX}:wp (cJ [.int 4,.int 4,.int 4,.int 4,.int 3] (r:Int)) Q s=Q (.int (Oj r)) s:=by rcases xL h with e|e|e|e|e<;>subst e<;>rw[qJ (i:=_) rfl]<;>rfl
theorem UA{r:Nat}(h:r<=4){Q:D->aX->Prop}{s:aX}:wp (cJ [.int 3,.int 3,.int 2,.int 2,.int 2] (r:Int)) Q s=Q (.int (NL r)) s:=by rcases xL h with e|e|e|e|e<;>subst e<;>rw[qJ (i:=_) rfl]<;>rfl
theorem JT{r:Nat}(h:r<=4):1<=mS r/\mS r<=4:=by rcases xL h with e|e|e|e|e<;>subst e<;>decide
theorem IV{n r:Nat}(h:r<=4):1<=mL n r/\mL n r<=8:=by unfold mL;split<;>(rcases xL h with e|e|e|e|e<;>subst e<;>decide)
def xn(x:Hs):Prop:=iG x/\x.boards.length<=4/\(∀b∈x.boards,b.S<=mS x.boards.length)/\∀y∈x.hands,y.lines.length<=mL x.hands.length x.boards.length
theorem WZ{w k:Int}{l:Loc}{Q:D->aX->Prop}{s:aX}(c:l[8]?=some (some (.int w)))(g:l[3]?=some (some (.int k)))(h:∀b,Q (.bl b) s):wp (Cs (c2 zq (am 8) (aN (.int 2))) (tU (c2 nY (am 8) (aN (.int 2))) (c2 wV (am 3) (aN (.int 0)))) l) Q s:=by
 simp![c,g];by_cases a:w < 2
 ·have:decide (w < 2)=true:=bV a;rw[this];simp only[sQ];exact h _
 ·have:decide (w < 2)=false:=aT a;rw[this];simp only[sR];by_cases b:w=2
  ·have:(w == 2)=true:=by simp[b]
   rw[this];simp only[sQ];exact h _
  ·have:(w == 2)=false:=by simp[b]
   rw[this];simp only[sR];exact h _
theorem XN(hp:dS s p q)(h:∀x o,xn x->dS o p q->Kept p q s o->Q (gX x) o):wp (jy [.ref p]) Q s:=by
 have l0:0<=fv:=bY _;have l2:2<=fv:=g8 (by ext);have l8:8<=fv:=g8 (by ext);have l5:5<=fv:=g8 (by ext)
 (simp![jy];simp![j3,l0,l8])
 have hp1:dS (s++[.lst []]) p q:=hp.snoc;have k1:Kept p q s (s++[.lst []]):=Kept.refl.snoc;have g1:(s++[MO.lst []])[s.length]?=some (.lst []):=by simp
 have hlt:=hp.lt;generalize s++[MO.lst []]=s1 at hp1 k1 g1;refine rj hp1 (by ext) (by ext) λr s2 r0 r1 hp2 k2=>?_;obtain⟨rn,er⟩:=wJ r0;subst er;have g2:s2[s.length]?=some (.lst []):=k2.same (by ext) (by ext) g1;have k12:=k1.trans k2;simp![];refine P5 (by ext) λcnt B=>?_;have iS:∀(Q:D->aX->Prop)s,wp (cJ [.int 4,.int 4,.int 3,.int 2,.int 2] (cnt:Int)) Q s=Q (.int (mS cnt)) s:=λQ s=>U0 B;have bS:=JT B;have hb:=uj (show cnt<=100 by ext);simp![hb,bo,tX];refine Gg (n:=cnt) (λi l o=>∃x3 x4 bs,l=[some (.ref p),some (.ref s.length),some (.int cnt),x3,x4,none,none,none,none,none,none,none,none]/\o[s.length]?=some (.lst (bs.map pR))/\bs.length=i/\(∀x∈bs,xj x/\x.S<=mS cnt)/\dS o p q/\Kept p q s o) (λ_ _ _ _=>trivial) ⟨_,_,[],rfl,g2,rfl,by simp,hp2,k12⟩ (λRr i l o up hi hW=>?_) (λl o hW=>?_)
 ·obtain⟨x3,x4,bs,el,g,hl,L,hp',hk'⟩:=hW;subst el;simp![l5,↓iS];refine PQ (mo:=(mS cnt:Int)) (by ext) (by ext) hp' λS q nx un s3 ok B hp3 k3=>?_;have w1:wp (gD (lC S q nx un))=λQ s=>Q (.int S) s:=by funext Q s;unfold lC;rw[xl,mh]
  simp![↓w1];have E:=ok.1;have C:=ok.2.1;refine rj hp3 (by ext) (by ext) λst s4 h v hp4 k4=>?_;obtain⟨c,o⟩:=wJ h;subst o;have l:s4[s.length]?=some (.lst (bs.map pR)):=(k3.trans k4).same (by ext) (by ext) g;have l3:bs.length < fv:=qp (by ext);simp![↓fk l,↓nN l,l2,l3,ae];refine up ⟨_,_,bs++[⟨S,q,nx,un,c⟩],rfl,by rw[aw (ij l)];simp[pR,cH],by simp[hl],λx u=>?_,hp4.put (by ext) (by ext),((hk'.trans k3).trans k4).put (ay _)⟩;rcases aV.mp u with u|u
  ·exact L x u
  ·rw[aI]at u;rw[u];exact⟨⟨ok,by show c < S;ext⟩,by show S<=mS cnt;ext⟩
 ·obtain⟨x3,x4,bs,el,g,hl,L,hp',hk'⟩:=hW;subst el;simp![l0];have hp3:dS (o++[.lst []]) p q:=hp'.snoc;have k3:Kept p q s (o++[.lst []]):=hk'.snoc;have g3:(o++[MO.lst []])[o.length]?=some (.lst []):=by simp
  have g3':(o++[MO.lst []])[s.length]?=some (.lst (bs.map pR)):=by rw[av (ij g)];exact g
  have hlt':=hp'.lt;have v:=hk'.le;have hgl:=ij g;generalize o++[MO.lst []]=s3 at hp3 k3 g3 g3';refine rj hp3 (by ext) (by ext) λr3 s4 r30 r31 hp4 k4=>?_;have hn:∃n:Nat,(n=2\/n=3)/\(2+(if r3=0 then (1:Int) else 0))=(n:Int):=by
   by_cases e:r3=0
   ·exact⟨3,.inr rfl,by simp[e]⟩
   ·exact⟨2,.inl rfl,by simp[e]⟩
  obtain⟨n,hn23,en⟩:=hn;have hb:=uj (show n<=100 by ext);obtain⟨mm,LL,gm,hit,hLL⟩:∃(mm:Nat)(LL:List D),(s4++[MO.lst [.int 4,.int 4,.int 4,.int 4,.int 3]]++[MO.lst [.int 3,.int 3,.int 2,.int 2,.int 2]])[mm]?=some (.lst LL)/\(∀(Q:D->aX->Prop)s,wp (cJ [.ref s4.length,.ref (s4++[MO.lst [.int 4,.int 4,.int 4,.int 4,.int 3]]).length] ((n:Int)-2)) Q s=Q (.ref mm) s)/\∀(Q:D->aX->Prop)s,wp (cJ LL (cnt:Int)) Q s=Q (.int (mL n cnt)) s:=by
   rcases hn23 with rfl|rfl
   ·exact⟨_,_,ot oF,λQ s=>by rw[show ((2:Nat):Int)-2=0 from rfl,sL],λQ s=>Uq B⟩
   ·exact⟨_,_,oF,λQ s=>by rw[show ((3:Nat):Int)-2=1 from rfl,sK],λQ s=>UA B⟩
  have qm:∀Q,wp (getL mm) Q (s4++[MO.lst [.int 4,.int 4,.int 4,.int 4,.int 3]]++[MO.lst [.int 3,.int 3,.int 2,.int 2,.int 2]])=Q LL _:=λQ=>fk gm;have bL:=IV (n:=n) B;simp![en,l2,l5,↓hit,↓qm,↓hLL];have hp4':dS (s4++[MO.lst [.int 4,.int 4,.int 4,.int 4,.int 3]]++[MO.lst [.int 3,.int 3,.int 2,.int 2,.int 2]]) p q:=hp4.snoc.snoc;have k4':Kept p q s3 (s4++[MO.lst [.int 4,.int 4,.int 4,.int 4,.int 3]]++[MO.lst [.int 3,.int 3,.int 2,.int 2,.int 2]]):=k4.snoc.snoc;clear gm hit qm;generalize s4++[MO.lst [.int 4,.int 4,.int 4,.int 4,.int 3]]++[MO.lst [.int 3,.int 3,.int 2,.int 2,.int 2]]=s4' at hp4' k4'
  replace k4:=k4'
  have en':(2+(if (r3 == 0)=true then (1:Int) else 0))=(n:Int):=by rw[<- en];simp
  rw[en'];refine rj hp4' (by ext) (by ext) λway s5 w0 w1 hp5 k5=>?_;simp![en,hb,bo,tX];have g5:s5[o.length]?=some (.lst []):=(k4.trans k5).same (by ext) (by ext) g3;have g5':s5[s.length]?=some (.lst (bs.map pR)):=(k4.trans k5).same (by ext) (by ext) g3';have k35:=(k3.trans k4).trans k5;have J:∀x∈bs,xj x:=λx u=>(L x u).1;refine Gg (n:=n) (λi l s''=>∃x3 x8 x9 x10 x11 c,l=[some (.ref p),some (.ref s.length),some (.int cnt),x3,x4,some (.ref o.length),some (.int n),some (.int (mL n cnt)),some (.int way),x8,x9,x10,x11]/\s''[o.length]?=some (.lst (c.map nE))/\s''[s.length]?=some (.lst (bs.map pR))/\c.length=i/\(∀x∈c,yL bs x/\x.lines.length<=mL n cnt)/\dS s'' p q/\Kept p q s s'') (λ_ _ _ _=>trivial) ⟨_,_,_,_,_,[],rfl,g5,g5',rfl,by simp,hp5,k35⟩ (λRr i l s6 up hi hW=>?_) (λl s6 hW=>?_)
  ·obtain⟨x3,x8,x9,x10,x11,c,el,ga,gb,hl2,G,hp6,k6⟩:=hW;subst el
   try simp![]
   refine rj hp6 (by ext) (by ext) λr Y r0 r1 hp7 k7=>?_;obtain⟨rn,er⟩:=wJ r0;subst er;have hm:(1+(rn:Int))=((1+rn:Nat):Int):=by ext
   simp only[↓Ab,↓DX,↓qL,↓wK,hm];have hm1:1<=1+rn:=by ext
   have hm8:1+rn<=8:=by ext
   have hmm:1+rn<=mL n cnt:=by ext
   try rw[hm]
   generalize 1+rn=m at hm1 hm8 hmm;refine WZ rfl rfl λon=>?_;have hbm:=uj (show m<=100 by ext);have hlm:m<=fv:=g8 (by ext);simp![hbm,bo,tX,mh,hlm,gK];refine Qx hp7 (k7.same (by ext) (by ext) gb) (by ext) (by ext) (by ext) J (by ext) λI s8 hll hls hp8 k8=>?_
   try simp![]
   refine rj hp8 (by ext) (by ext) λv1 s9 v10 v11 hp9 k9=>?_;obtain⟨O,eb1⟩:=wJ v10;subst eb1;simp![l2];refine rj hp9 (by ext) (by ext) λt sa t0 t1 L ka=>?_;have l3:c.length < fv:=qp (by ext);have app:∀(h O:Nat)U,h < m->O < m->dS U p q->Kept p q s6 U->∃v:List Hd,(U.set o.length (.lst (c.map nE++[.tup [.tup [.int h,.int O],.tup (I.map mW)]])))[o.length]?=some (.lst (v.map nE))/\(U.set o.length (.lst (c.map nE++[.tup [.tup [.int h,.int O],.tup (I.map mW)]])))[s.length]?=some (.lst (bs.map pR))/\v.length=i+1/\(∀x∈v,yL bs x/\x.lines.length<=mL n cnt)/\dS (U.set o.length (.lst (c.map nE++[.tup [.tup [.int h,.int O],.tup (I.map mW)]]))) p q/\Kept p q s (U.set o.length (.lst (c.map nE++[.tup [.tup [.int h,.int O],.tup (I.map mW)]]))):=λh O U E h1 B C=>by
    have H:U[o.length]?=some (.lst (c.map nE)):=C.same (by ext) (by ext) ga;refine⟨c++[⟨h,O,I⟩],by rw[aw (ij H)];simp[nE,cH],by rw[ag (by ext)];exact C.same (by ext) (by ext) gb,by simp[hl2],λx u=>?_,B.put (by ext) (by ext),(k6.trans C).put v⟩;rcases aV.mp u with u|u
    ·exact G x u
    ·rw[aI]at u;rw[u];exact⟨⟨by show h < I.length;ext,by show O < I.length;ext,by show I.length<=12;ext,by show ∀l∈I,uE bs I.length l;rw[hll];exact hls⟩,by show I.length<=mL n cnt;ext⟩
   have g:=((k7.trans k8).trans k9).trans ka;by_cases ht:t=1
   ·subst ht;simp![l2,if_true];refine rj L (by ext) (by ext) λv2 U h I B C=>?_;obtain⟨O,u⟩:=wJ h;subst u
    try simp![l2]
    refine rj B (by ext) (by ext) λY sc Q G l E=>?_;obtain⟨J,q⟩:=wJ Q;subst q;have H:sc[o.length]?=some (.lst (c.map nE)):=((g.trans C).trans E).same (by ext) (by ext) ga;simp![l2,↓fk H,↓nN H,ae,l3];obtain⟨v,z⟩:=app O J sc (by ext) (by ext) l ((g.trans C).trans E);exact up ⟨_,_,_,_,_,v,rfl,z⟩
   ·have H:sa[o.length]?=some (.lst (c.map nE)):=g.same (by ext) (by ext) ga;simp![l2,↓fk H,↓nN H,ae,l3];rw[aB ht];obtain⟨v,z⟩:=app 0 O sa (by ext) (by ext) L g;exact up ⟨_,_,_,_,_,v,rfl,z⟩
  ·obtain⟨x3,x8,x9,x10,x11,c,el,ga,gb,hl2,G,hp6,k6⟩:=hW;subst el
   try simp![]
   refine rj hp6 (by ext) (by ext) λt Y t0 t1 hp7 k7=>?_;have H:Y[o.length]?=some (.lst (c.map nE)):=k7.same (by ext) (by ext) ga;have v:Y[s.length]?=some (.lst (bs.map pR)):=k7.same (by ext) (by ext) gb;by_cases ht:t=0
   ·subst ht;obtain⟨E,g,B⟩:∃E g,c=E::g:=by
     cases c with
     |nil=>simp at hl2;ext
     |cons a b=>exact⟨a,b,rfl⟩
    have U:∀Q s,wp (cJ (c.map nE) 0) Q s=Q (nE E) s:=λQ s=>by rw[B,aO,sL]
    have ix:MM.mC (c.map nE).length (-1)=some (c.length-1):=by unfold MM.mC;rw[ae,aB (by ext),aD (by ext)];congr 1;ext
    have e9:(c.map nE).set (c.length-1) (nE E)=(c.set (c.length-1) E).map nE:=by rw[p9]
    have ge:∀C,(Y.set o.length (MO.lst C))[s.length]?=some (.lst (bs.map pR)):=λC=>by rw[ag (by ext)];exact v
    have gf:∀C,(Y.set o.length (MO.lst C))[o.length]?=some (.lst C):=λC=>aw (ij H);have O:∀C Q,wp (getL s.length) Q (Y.set o.length (MO.lst C))=Q (bs.map pR) (Y.set o.length (MO.lst C)):=λC Q=>fk (ge C);have I:∀C Q,wp (getL o.length) Q (Y.set o.length (MO.lst C))=Q C (Y.set o.length (MO.lst C)):=λC Q=>fk (gf C);simp![if_true,↓fk H,↓U,↓qR,ix,↓nN H,e9,↓O,↓I,l2];have q:(c.set (c.length-1) E).length=n:=by rw[cL];ext
    have mem:∀x∈c.set (c.length-1) E,yL bs x/\x.lines.length<=mL n cnt:=λx u=>by
     rcases List.mem_or_eq_of_mem_set u with u|u
     ·exact G x u
     ·rw[u];exact G E (by rw[B];simp)
    exact h ⟨bs,c.set (c.length-1) E⟩ _ ⟨⟨by show bs.length<=7;ext,J,by show 2<=(c.set (c.length-1) E).length;ext,by show (c.set (c.length-1) E).length<=3;ext,λx u=>(mem x u).1⟩,by show bs.length<=4;ext,by show ∀b∈bs,b.S<=mS bs.length;rw[hl];exact λb hb=>(L b hb).2,by show ∀y∈c.set (c.length-1) E,y.lines.length<=mL (c.set (c.length-1) E).length bs.length;rw[q,hl];exact λy l=>(mem y l).2⟩ (hp7.put (by ext) (by ext)) ((k6.trans k7).put (by ext))
   ·simp![↓fk H,↓fk v,l2];rw[aB ht];exact h ⟨bs,c⟩ _ ⟨⟨by show bs.length<=7;ext,J,by show 2<=c.length;ext,by show c.length<=3;ext,λx u=>(G x u).1⟩,by show bs.length<=4;ext,by show ∀b∈bs,b.S<=mS bs.length;rw[hl];exact λb hb=>(L b hb).2,by show ∀y∈c,y.lines.length<=mL c.length bs.length;rw[hl2,hl];exact λy l=>(G y l).2⟩ hp7 (k6.trans k7)
end
open PySem (Str)
theorem Hy:((("settle":Str)) == "settle")=true:=by nofun
theorem K9:((("do":Str)) == "settle")=false:=by nofun
noncomputable def cQ(h:Hs)(s:Sd)(k:Nat):Ln:=((h.hands[k]?.bind λhd=>s.ls[k]?.bind λl=>hd.lines[l]?)).getD (.settle 0)
def ib(h:Hs)(s:Sd)(k:Nat):Sd:=match cQ h s k with
 | .settle _=>s
 | .act b d gs=>match h.boards[b]?,s.ss[b]? with
  |some bd,some x=>⟨s.ls.set k ((gs[bd.un x d]?).getD 0),s.ss.set b (bd.nx x d)⟩
  |_,_=>s
section
variable{p q:Nat}{s s1 s2:aX}{Q:D->aX->Prop}{h:Hs}{st:Sd}
theorem Cz{xs:List Nat}{i x:Nat}{Q:D->aX->Prop}{s:aX}(h:xs[i]?=some x):wp (cJ (xs.map cH) (i:Int)) Q s=Q (.int (x:Nat)) s:=qJ (by rw[ak,h];rfl)
theorem DG{k:Nat}(hh:iG h)(v:km h st)(B:k < h.hands.length):∃hd l,h.hands[k]?=some hd/\st.ls[k]?=some l/\l < hd.lines.length/\hd.lines[l]?=some (cQ h st k)/\uE h.boards hd.lines.length (cQ h st k):=by
 have c:h.hands[k]?=some h.hands[k]:=ai B;have o:k < st.ls.length:=by rw[v.1];exact B
 have u:st.ls[k]?=some st.ls[k]:=ai o;have g:=v.2.2.1 k _ _ c u;have E:h.hands[k].lines[st.ls[k]]?=some (h.hands[k].lines[st.ls[k]]):=ai g;have C:cQ h st k=h.hands[k].lines[st.ls[k]]:=by unfold cQ;rw[c,u];simp only[Option.bind_some,E,f_]
 refine⟨_,_,c,u,g,by rw[E,C],?_⟩;rw[C];exact (hh.2.2.2.2 _ (az c)).2.2.2 _ (bA g)
theorem HP{k:Nat}(hh:iG h)(u:km h st)(v:k < h.hands.length):wp (jb [gX h,cA st,.int k]) Q s=Q (mW (cQ h st k)) s:=by
 obtain⟨hd,l,E,C,G,B,_⟩:=DG hh u v;have o:∀Q s,wp (cJ (h.hands.map nE) (k:Int)) Q s=Q (.tup [.tup [cH hd.b0,cH hd.b1],.tup (hd.lines.map mW)]) s:=λQ s=>qJ (by rw[ak,E];rfl);have g:∀Q s,wp (cJ (st.ls.map cH) (k:Int)) Q s=Q (.int (l:Nat)) s:=λQ s=>Cz C;have c:∀Q s,wp (cJ (hd.lines.map mW) (l:Int)) Q s=Q (mW (cQ h st k)) s:=λQ s=>qJ (by rw[ak,B];rfl)
 (simp![jb];simp![ye,gX,cA,↓o,↓g,↓c])
theorem IT{k:Nat}(hh:iG h)(u:km h st)(v:k < h.hands.length):wp (jh [gX h,cA st,.int k]) Q s=Q (mW (cQ h st k)) s:=by
 obtain⟨hd,l,E,C,G,B,_⟩:=DG hh u v;have o:∀Q s,wp (cJ (h.hands.map nE) (k:Int)) Q s=Q (.tup [.tup [cH hd.b0,cH hd.b1],.tup (hd.lines.map mW)]) s:=λQ s=>qJ (by rw[ak,E];rfl);have g:∀Q s,wp (cJ (st.ls.map cH) (k:Int)) Q s=Q (.int (l:Nat)) s:=λQ s=>Cz C;have c:∀Q s,wp (cJ (hd.lines.map mW) (l:Int)) Q s=Q (mW (cQ h st k)) s:=λQ s=>qJ (by rw[ak,B];rfl)
 (simp![jh];simp![yg,gX,cA,↓o,↓g,↓c])
theorem JN{b d:Nat}{B:List Nat}{m:Nat}(hh:iG h)(C:km h st)(G:uE h.boards m (.act b d B)):∃c x g,h.boards[b]?=some c/\st.ss[b]?=some x/\x < c.S/\d < c.dn/\B[c.un x d]?=some g/\g < m/\c.nx x d < c.S/\t6 c.S c.dn c.nx c.un:=by
 obtain⟨c,l,hd,H,u⟩:=G;have I:=(ac.mp l).1;have v:b < st.ss.length:=by rw[C.2.1];exact I
 have E:st.ss[b]?=some st.ss[b]:=ai v;have o:=C.2.2.2 b c _ l E;obtain⟨ok,_⟩:=hh.2.1 c (az l);have hu:c.un st.ss[b] d < B.length:=by rw[H];have:c.un st.ss[b] d<=mx (c.un · d) c.S:=Gs (f:=(c.un · d)) o;ext
 exact⟨c,_,_,l,E,o,hd,ai hu,u _ (bA hu),(ok.2.2.2.2 _ _ o hd).1,ok⟩
theorem MK{xs:List D}{i:Nat}{v:D}(u:i < xs.length)(E:xs.length<=100):wp (jd [.tup xs,.int i,v]) Q s=Q (.tup (xs.set i v)) s:=by
 have c1:¬(gM xs.length 0 none=0/\gM xs.length xs.length (some (i:Int))=xs.length):=by unfold gM;simp only[bo];rw[aB (by ext)];ext
 have c:¬(gM xs.length 0 (some ((i:Int)+1))=0/\gM xs.length xs.length none=xs.length):=by unfold gM;dsimp only;rw[aB (by ext)];ext
 have C:cutD xs none (some (i:Int))=xs.take i:=by unfold cutD gM;simp only[bo];rw[aB (by ext),sG];congr 1;ext
 have B:cutD xs (some ((i:Int)+1)) none=xs.drop (i+1):=by
  unfold cutD gM;have:(if (i:Int)+1 < 0 then ((i:Int)+1+(xs.length:Int)).toNat else min ((i:Int)+1).toNat xs.length)=i+1:=by rw[aB (by ext)];ext
  simp only[this];exact m5 (by rw[gq];exact ay _)
 have o:1<=fv:=g8 (by ext);have l:(xs.take i).length+1<=fv:=g8 (by rw[aZ];ext);have g:(xs.take i++[v]).length+(xs.drop (i+1)).length<=fv:=g8 (by rw[aE,aZ,gq];simp;ext)
 (simp![jd];simp![yb,c1,c,not_false_eq_true,C,B,o,l])
 rw[List.set_eq_take_append_cons_drop,aD u];have:xs.take i++[v]++xs.drop (i+1)=xs.take i++v::xs.drop (i+1):=by simp
 rw[this];exact propext ⟨λz=>z.2,λz=>⟨g,z⟩⟩
theorem Kf{b d k:Nat}{l:List Nat}{c:Bd}{x g:Nat}(e:cQ h st k=.act b d l)(v:h.boards[b]?=some c)(u:st.ss[b]?=some x)(o:l[c.un x d]?=some g):ib h st k=⟨st.ls.set k g,st.ss.set b (c.nx x d)⟩:=by unfold ib;rw[e];dsimp only;rw[v,u];dsimp only;rw[o];rfl
theorem KH{v k:Nat}(e:cQ h st k=.settle v):ib h st k=st:=by unfold ib;rw[e]
theorem QQ{k:Nat}(hh:iG h)(o:km h st)(U:k < h.hands.length):km h (ib h st k):=by
 obtain⟨hd,l,e1,e2,hl,e3,ok⟩:=DG hh o U;cases el:cQ h st k with
 |settle v=>rw[KH el];exact o
 |act b d gs=>
  rw[el]at ok;obtain⟨bd,x,g,O,L,f3,f4,Q,q,Y,f8⟩:=JN hh o ok;rw[Kf el O L Q];refine⟨by show (st.ls.set k g).length=_;rw[cL];exact o.1,by show (st.ss.set b _).length=_;rw[cL];exact o.2.1,λB C J u H=>?_,λG E I u H=>?_⟩
  ·have c:(st.ls.set k g)[B]?=some J:=H;by_cases e:k=B
   ·subst e;rw[e1]at u;cases u;rw[aw (ac.mp e2).1]at c;cases c;exact q
   ·rw[ag e]at c;exact o.2.2.1 B C J u c
  ·have c:(st.ss.set b (bd.nx x d))[G]?=some I:=H;by_cases e:b=G
   ·subst e;rw[O]at u;cases u;rw[aw (ac.mp L).1]at c;cases c;exact Y
   ·rw[ag e]at c;exact o.2.2.2 G E I u c
theorem P9{c:Bd}{x d:Nat}(g:x < c.S)(hd:d < c.dn):wp (jk [lC c.S c.dn c.nx c.un,.int x,.int d]) Q s=Q (.int (c.nx x d:Nat)) s:=by (simp![jk];simp![jV,lC,↓yW g,↓yW hd])
theorem OQ{c:Bd}{x d:Nat}(g:x < c.S)(hd:d < c.dn):wp (jF [lC c.S c.dn c.nx c.un,.int x,.int d]) Q s=Q (.int (c.un x d:Nat)) s:=by (simp![jF];simp![yf,lC,↓yW g,↓yW hd])
theorem Lx{xs:List Nat}{i v:Nat}:(xs.map cH).set i (.int (v:Nat))=(xs.set i v).map cH:=by rw[p9];rfl
theorem RS{k:Nat}(hh:iG h)(o:km h st)(B:k < h.hands.length):wp (jB [gX h,cA st,.int k]) Q s=Q (cA (ib h st k)) s:=by
 obtain⟨hd,l,e1,e2,hl,e3,ok⟩:=DG hh o B;have w:∀Q s,wp (jb [gX h,cA st,.int k]) Q s=Q (mW (cQ h st k)) s:=λQ s=>HP hh o B;cases el:cQ h st k with
 |settle v=>
  rw[KH el];rw[el]at w;simp only[mW]at w
  (simp![jB];simp![j4,↓w,Hy])
 |act b d gs=>
  rw[el]at ok w;obtain⟨c,x,g,Y,E,U,O,L,f6,f7,f8⟩:=JN hh o ok;rw[Kf el Y E L];simp only[mW]at w;have u:k < (st.ls.map cH).length:=by rw[ae,o.1];exact B
  have C:b < (st.ss.map cH).length:=by rw[ae];exact (ac.mp E).1
  have z1:=o.1;have z2:=o.2.1;have z3:=hh.1;have z4:=hh.2.2.2.1;have w1:∀Q s,wp (cJ (h.boards.map pR) (b:Int)) Q s=Q (.tup [lC c.S c.dn c.nx c.un,cH c.st]) s:=λQ s=>qJ (by rw[ak,Y];rfl);have J:∀Q s,wp (cJ (st.ss.map cH) (b:Int)) Q s=Q (.int (x:Nat)) s:=λQ s=>Cz E;have I:∀Q s,wp (cJ (gs.map cH) ((c.un x d:Nat):Int)) Q s=Q (.int (g:Nat)) s:=λQ s=>Cz L;have w4:∀Q s,wp (jF [lC c.S c.dn c.nx c.un,.int x,.int d]) Q s=Q (.int (c.un x d:Nat)) s:=λQ s=>OQ U O;have q:∀Q s,wp (jk [lC c.S c.dn c.nx c.un,.int x,.int d]) Q s=Q (.int (c.nx x d:Nat)) s:=λQ s=>P9 U O;have H:∀Q s,wp (jd [.tup (st.ls.map cH),.int k,.int g]) Q s=Q (.tup ((st.ls.map cH).set k (.int g))) s:=λQ s=>MK u (by rw[ae];ext);have G:∀Q s,wp (jd [.tup (st.ss.map cH),.int b,.int (c.nx x d:Nat)]) Q s=Q (.tup ((st.ss.map cH).set b (.int (c.nx x d:Nat)))) s:=λQ s=>MK C (by rw[ae];ext);have l2:2<=fv:=g8 (by ext);unfold cH at w;have nd:∀n:Nat,D.int (n:Int)=cH n:=λ_=>rfl
  (simp![jB];simp![j4,↓w,K9,aY,if_false])
  unfold gX cA;unfold cH at J I H G ⊢;simp![↓w1,↓J,↓I,↓w4,↓q,↓H,↓G,l2];rw[p9,p9]
theorem OK{k:Nat}(hh:iG h)(B:km h st)(G:k < h.hands.length)(C:∀U,dX s U->Q (cA (ib h st k)) U):wp (jc [gX h,cA st,.int k]) Q s:=by
 obtain⟨hd,l,e1,e2,hl,e3,ok⟩:=DG hh B G;have w:∀Q s,wp (jh [gX h,cA st,.int k]) Q s=Q (mW (cQ h st k)) s:=λQ s=>IT hh B G;cases el:cQ h st k with
 |settle v=>
  rw[KH el]at C;rw[el]at w;simp only[mW]at w
  (simp![jc];simp![jI,↓w,Hy])
  exact C s (dX.refl _)
 |act b d gs=>
  rw[el]at ok w;obtain⟨o,x,g,f1,J,f3,f4,q,f6,f7,f8⟩:=JN hh B ok;rw[Kf el f1 J q]at C;simp only[mW]at w;have hkl:k < st.ls.length:=by rw[B.1];exact G
  have hbl:b < st.ss.length:=(ac.mp J).1;have l2:2<=fv:=g8 (by ext);unfold cH at w
  (simp![jc];simp![jI,↓w,K9,aY,if_false])
  unfold gX cA;simp![];have O:dX s (s++[.lst (st.ls.map cH)]):=(dX.refl _).snoc _;have Y:(s++[MO.lst (st.ls.map cH)])[s.length]?=some (.lst (st.ls.map cH)):=by simp
  have n1:(s++[MO.lst (st.ls.map cH)]).length=s.length+1:=by simp
  generalize s++[MO.lst (st.ls.map cH)]=s1 at O Y n1;have L:dX s (s1++[.lst (st.ss.map cH)]):=O.snoc _;have I:(s1++[MO.lst (st.ss.map cH)])[s1.length]?=some (.lst (st.ss.map cH)):=by simp
  have E:(s1++[MO.lst (st.ss.map cH)])[s.length]?=some (.lst (st.ls.map cH)):=(dX.snoc (dX.refl _) _).at_ Y;generalize s1++[MO.lst (st.ss.map cH)]=s2 at L I E;have w1:∀Q s,wp (cJ (h.boards.map pR) (b:Int)) Q s=Q (.tup [lC o.S o.dn o.nx o.un,cH o.st]) s:=λQ s=>qJ (by rw[ak,f1];rfl);have w2:∀Q s,wp (cJ (st.ss.map cH) (b:Int)) Q s=Q (.int (x:Nat)) s:=λQ s=>Cz J;have w3:∀Q s,wp (cJ (gs.map cH) ((o.un x d:Nat):Int)) Q s=Q (.int (g:Nat)) s:=λQ s=>Cz q;have H:∀c,(s2.set s.length (MO.lst c))[s1.length]?=some (.lst (st.ss.map cH)):=λc=>by rw[ag (by ext)];exact I
  have q4:∀c Q,wp (getL s1.length) Q (s2.set s.length (MO.lst c))=Q (st.ss.map cH) (s2.set s.length (MO.lst c)):=λc Q=>fk (H c);have q5:∀c fs Q,wp (putL s1.length fs) Q (s2.set s.length (MO.lst c))=Q () ((s2.set s.length (MO.lst c)).set s1.length (.lst fs)):=λc fs Q=>nN (H c);have g6:∀c fs,((s2.set s.length (MO.lst c)).set s1.length (MO.lst fs))[s1.length]?=some (.lst fs):=λc fs=>aw (ij (H c));have g7:∀c fs,((s2.set s.length (MO.lst c)).set s1.length (MO.lst fs))[s.length]?=some (.lst c):=λc fs=>by rw[ag (by ext),aw (ij E)]
  have q6:∀c fs Q,wp (getL s1.length) Q ((s2.set s.length (MO.lst c)).set s1.length (MO.lst fs))=Q fs ((s2.set s.length (MO.lst c)).set s1.length (MO.lst fs)):=λc fs Q=>fk (g6 c fs);have q7:∀c fs Q,wp (getL s.length) Q ((s2.set s.length (MO.lst c)).set s1.length (MO.lst fs))=Q c ((s2.set s.length (MO.lst c)).set s1.length (MO.lst fs)):=λc fs Q=>fk (g7 c fs);have i1:MM.mC (st.ls.map cH).length (k:Int)=some k:=by unfold MM.mC;rw[aD (by ext),aD (by rw[ae];ext)];rfl
  have i2:MM.mC (st.ss.map cH).length (b:Int)=some b:=by unfold MM.mC;rw[aD (by ext),aD (by rw[ae];ext)];rfl
  have tb:∀Q s,wp (aR (lC o.S o.dn o.nx o.un) (.int (x:Nat))) Q s=Q (.tup (bw o.dn λd=>D.tup [.int (o.nx x d:Nat),.int (o.un x d:Nat)])) s:=λQ s=>by unfold lC;rw[qw,yW f3]
  have u:=w3;unfold cH at u;simp![↓w1,↓fk I,↓w2,↓tb,↓yW f4,↓u,↓fk E,↓qR,i1,↓nN E,↓q4,i2,↓q5,↓q6,↓q7,l2];have fin:=C ((s2.set s.length (MO.lst ((st.ls.map cH).set k (.int (g:Nat))))).set s1.length (MO.lst ((st.ss.map cH).set b (.int (o.nx x d:Nat))))) ((L.put (ay _)).put (by ext));unfold cA at fin;dsimp only at fin;rw[<- Lx,<- Lx]at fin;exact fin
theorem V8{i:Int}:wp (jg [.int i]) Q s=Q (.bl true) s:=by (simp![jg];simp![jZ])
end
open PySem (Str)
noncomputable def o9:Nat->List (List D)
 |0=>[[]]
 |n+1=>((o9 n).map λx=>x++[.int 0])++((o9 n).map λx=>x++[.int 1])
noncomputable def i_:Nat->List (List D)
 |0=>[[]]
 |n+1=>((i_ n).map λx=>.int 0::x)++((i_ n).map λx=>.int 1::x)
theorem Ls:∀n,∀x∈o9 n,x.length=n
 |0,x,h=>by simp[o9]at h;simp[h]
 |n+1,x,h=>by simp only[o9,aV,cz]at h;rcases h with ⟨y,c,e⟩|⟨y,c,e⟩<;>rw[<- e]<;>simp[Ls n y c]
theorem Mw:∀n,(o9 n).length=2^n
 |0=>rfl
 |n+1=>by simp only[o9,aE,ae,Mw n,nA];ext
theorem Mo:∀n,(i_ n).length=2^n
 |0=>rfl
 |n+1=>by simp only[i_,aE,ae,Mo n,nA];ext
theorem B8:∀n,∀x∈i_ n,x.length=n/\∀(k:Nat)d,x[k]?=some d->d=.int 0\/d=.int 1
 |0,x,h=>by simp[i_]at h;simp[h]
 |n+1,x,h=>by
  simp only[i_,aV,cz]at h;rcases h with ⟨y,c,e⟩|⟨y,c,e⟩
  ·obtain⟨a,b⟩:=B8 n y c;rw[<- e];refine⟨by simp[a],λk d hd=>?_⟩;cases k with
   |zero=>exact .inl (by simpa using hd.symm)
   |succ k=>exact b k d (by simpa using hd)
  ·obtain⟨a,b⟩:=B8 n y c;rw[<- e];refine⟨by simp[a],λk d hd=>?_⟩;cases k with
   |zero=>exact .inr (by simpa using hd.symm)
   |succ k=>exact b k d (by simpa using hd)
theorem Sz:tZ ((o9 2).map D.tup)=some ((i_ 2).map D.tup):=by rfl
theorem US:tZ ((o9 3).map D.tup)=some ((i_ 3).map D.tup):=by rfl
section
variable{s:aX}{Q:D->aX->Prop}{h:Hs}
theorem N6{xs:List (List D)}{v:Int}{n:Nat}{A:List D->aX->Prop}(g:s[n]?=some (.lst (xs.map D.tup)))(q:∀x∈xs,x.length<=100):wp (collect (aS 0) bR (c2 fG (am 0) (dU (ax (aN (.int v)) bu))) (kB n (xs.map D.tup)) (xs.map D.tup) [none]) A s=A ((xs.map λx=>x++[.int v]).map D.tup) s:=by
 have o:1<=fv:=g8 (by ext);have:=@Bh (c2 fG (am 0) (dU (ax (aN (.int v)) bu))) (kB n (xs.map D.tup)) (xs.map D.tup) [] (λi=>.tup ((xs.getD i [])++[.int v])) A s g (λi d hd Q=>by
  rw[ak]at hd;cases ex:xs[i]? with
  |none=>rw[ex]at hd;cases hd
  |some x=>
   rw[ex]at hd;have B:d=.tup x:=(aG hd).symm;subst B;have l:x.length+1<=fv:=g8 (by have:=q x (az ex);ext);have u:xs.getD i []=x:=by rw[lL,ex];rfl
   simp![o,l,u])
 rw[this,ae];congr 1;symm;apply HN
 ·simp
 ·intro i c;rw[ak,ak,ai c];simp[c]
theorem MX(Y:h.hands.length=2\/h.hands.length=3)(U:∀r c,s.length<=r->c[r]?=some (.lst ((i_ h.hands.length).map D.tup))->dX s c->Q (.ref r) c):wp (jl [gX h]) Q s:=by
 have L:0<=fv:=bY _;have J:1<=fv:=g8 (by ext)
 (simp![jl];simp![jW,gX,L,J])
 refine tP (λi l c=>∃n B,l=[some (.tup [.tup (h.boards.map pR),.tup (h.hands.map nE)]),some (.ref n),B]/\c[n]?=some (.lst ((o9 i).map D.tup))/\dX s c) (λ_ _ _ _=>trivial) ⟨_,_,rfl,by simp[o9],(dX.refl _).snoc _⟩ (λRw i d l c up rt hd C=>?_) (λl c C=>?_)
 ·obtain⟨n,B,el,g,ex⟩:=C;subst el;have h:=(ac.mp hd).1;rw[ae]at h;have L:=Mw i;have Q:2^i<=8:=by
   have:i<=3:=by ext
   calc 2^i<=2^3:=Nat.pow_le_pow_right (by ext) this
    _=8:=rfl
  have o:∀x∈o9 i,x.length<=100:=λx O=>by have:=Ls i x O;ext
  have G:(o9 i).length<=fv:=g8 (by ext);have l:∀A,wp (collect (aS 0) bR (c2 fG (am 0) (dU (ax (aN (.int 0)) bu))) (kB n ((o9 i).map D.tup)) ((o9 i).map D.tup) [none]) A c=A (((o9 i).map λx=>x++[.int 0]).map D.tup) c:=λA=>N6 g o;simp![↓fk g,gK,ae,G,↓l];have u:dX c (c++[.lst (((o9 i).map λx=>x++[.int 0]).map D.tup)]):=(dX.refl _).snoc _;have I:(c++[MO.lst (((o9 i).map λx=>x++[.int 0]).map D.tup)])[c.length]?=some (.lst (((o9 i).map λx=>x++[.int 0]).map D.tup)):=by simp
  generalize c++[MO.lst (((o9 i).map λx=>x++[.int 0]).map D.tup)]=q at u I;have E:∀A,wp (collect (aS 0) bR (c2 fG (am 0) (dU (ax (aN (.int 1)) bu))) (kB n ((o9 i).map D.tup)) ((o9 i).map D.tup) [none]) A q=A (((o9 i).map λx=>x++[.int 1]).map D.tup) q:=λA=>N6 (u.at_ g) o;simp![↓fk (u.at_ g),gK,ae,G,↓E];have v:dX q (q++[.lst (((o9 i).map λx=>x++[.int 1]).map D.tup)]):=(dX.refl _).snoc _;have H:(q++[MO.lst (((o9 i).map λx=>x++[.int 1]).map D.tup)])[q.length]?=some (.lst (((o9 i).map λx=>x++[.int 1]).map D.tup)):=by simp
  generalize q++[MO.lst (((o9 i).map λx=>x++[.int 1]).map D.tup)]=J at v H;rw[uD (v.at_ I) H];refine⟨g8 (by simp;ext),?_⟩;simp![];refine up ⟨_,_,rfl,?_,((ex.trans u).trans v).snoc _⟩;simp[o9]
 ·obtain⟨n,B,el,g,ex⟩:=C;subst el;rw[ae]at g;have ks:tZ ((o9 h.hands.length).map D.tup)=some ((i_ h.hands.length).map D.tup):=by
   rcases Y with e|e<;>rw[e]
   ·exact Sz
   ·exact US
  have ws:∀Q,wp (o_ (.ref n)) Q c=Q (.ref c.length) (c++[.lst ((i_ h.hands.length).map D.tup)]):=λQ=>by unfold o_;rw[d0,fk g,ks];dsimp only;rw[gO]
  simp![↓ws];exact U _ _ ex.le (by simp) (ex.snoc _)
noncomputable def bf(h:Hs)(row:List D)(k:Nat):Nat:=match h.hands[k]?,row[k]? with
 |some hd,some (.int v)=>if v=0 then hd.b0 else hd.b1
 |_,_=>0
noncomputable def xK(h:Hs)(k:Nat):Nat:=(h.boards[k]?.map (·.st)).getD 0
def ip(h:Hs)(row:List D):Sd:=⟨bw h.hands.length (bf h row),bw h.boards.length (xK h)⟩
theorem Ws{row:List D}(hh:iG h)(E:row∈i_ h.hands.length):km h (ip h row):=by
 obtain⟨C,c⟩:=B8 _ row E;refine⟨mh,mh,λk hd l g u=>?_,λb H x g u=>?_⟩
 ·obtain⟨G,el⟩:=zQ u;obtain⟨B,o,_⟩:=hh.2.2.2.2 hd (az g);have q:k < row.length:=by ext
  have v:row[k]?=some row[k]:=ai q;rw[el];unfold bf;rcases c k _ v with e|e<;>rw[g,v,e]
  ·exact B
  ·exact o
 ·obtain⟨G,el⟩:=zQ u;obtain⟨_,o⟩:=hh.2.1 H (az g);rw[el];unfold xK;rw[g];exact o
theorem Mk{row:List D}{k:Nat}{Q:D->aX->Prop}(u:row∈i_ h.hands.length)(B:k < h.hands.length):∃(hd:Hd)(v:Int),h.hands[k]?=some hd/\row[k]?=some (.int v)/\(v=0/\bf h row k=hd.b0\/v=1/\bf h row k=hd.b1):=by
 obtain⟨q,g⟩:=B8 _ row u;have l:h.hands[k]?=some h.hands[k]:=ai B;have o:k < row.length:=by ext
 have c:row[k]?=some row[k]:=ai o;rcases g k _ c with e|e<;>rw[e]at c
 ·exact⟨_,0,l,c,.inl ⟨rfl,by unfold bf;rw[l,c];rfl⟩⟩
 ·exact⟨_,1,l,c,.inr ⟨rfl,by unfold bf;rw[l,c];rfl⟩⟩
theorem N_{row:List D}(hh:iG h)(q:row∈i_ h.hands.length)(J:∀l,dX s l->Q (cA (ip h row)) l):wp (jp [gX h,.tup row]) Q s:=by
 obtain⟨c,o⟩:=B8 _ row q;have z1:=hh.1;have z4:=hh.2.2.2.1;have O:=uj (show h.hands.length<=100 by ext);have I:h.hands.length<=fv:=g8 (by ext);have G:h.boards.length<=fv:=g8 (by ext);have H:2<=fv:=g8 (by ext);have w:∀A s,wp (collect (aS 0) bR (c2 aR (c2 aR (c2 aR (c2 aR (am 1) (aN (.int 1))) (am 0)) (aN (.int 0))) (c2 aR (am 2) (am 0))) dL (bw h.hands.length λi=>.int i) [none,some (.tup [.tup (h.boards.map pR),.tup (h.hands.map nE)]),some (.tup row)]) A s=A (bw h.hands.length λk=>cH (bf h row k)) s:=λA s=>wm tN λk L Q=>by obtain⟨hd,v,e1,e2,U⟩:=Mk (Q:=Q) q L;have E:∀Q s,wp (cJ (h.hands.map nE) (k:Int)) Q s=Q (.tup [.tup [cH hd.b0,cH hd.b1],.tup (hd.lines.map mW)]) s:=λQ s=>qJ (by rw[ak,e1];rfl);have C:∀Q s,wp (cJ row (k:Int)) Q s=Q (.int v) s:=λQ s=>qJ e2;rcases U with ⟨e,u⟩|⟨e,u⟩<;>subst e<;>rw[u]<;>simp![↓E,↓C]
 have B:∀A s,wp (collect (aS 0) bR (c2 aR (am 0) (aN (.int 1))) dL (h.boards.map pR) [none]) A s=A (bw h.boards.length λk=>cH (xK h k)) s:=λA s=>by
  have:=@Bh (c2 aR (am 0) (aN (.int 1))) dL (h.boards.map pR) [] (λk=>cH (xK h k)) A s tN (λi d hd Q=>by
   rw[ak]at hd;cases ex:h.boards[i]? with
   |none=>rw[ex]at hd;cases hd
   |some x=>
    rw[ex]at hd;have Y:d=pR x:=(aG hd).symm;subst Y;have eb:xK h i=x.st:=by unfold xK;rw[ex];rfl
    simp![pR,eb])
  rw[this,ae]
 have g:∀(ds:List D)Q,wp (getL s.length) Q (s++[MO.lst ds])=Q ds (s++[MO.lst ds]):=λds Q=>fk (by simp)
 (simp![jp];simp![jY,gX,c,O,gK,bo,tX,mh,I,↓w,↓g,ae,G,↓B,H])
 have fin:=J (s++[MO.lst (bw h.hands.length λk=>cH (bf h row k))]) ((dX.refl _).snoc _);unfold cA ip at fin;dsimp only at fin;rw[Gk,Gk]at fin;exact fin
end
open PySem (Str)
theorem Wz:((("do":Str)) == "do")=true:=by nofun
theorem Wl:((("settle":Str)) == "do")=false:=by nofun
theorem OI{g:CG}{t:CT}{e:CE}{same:aX->Prop}{ds:List D}{J:Loc}{f:Nat->D}{p:Nat->Bool}{Q:List D->aX->Prop}{s:aX}(I:Loc->Prop)(hs:same s)(h0:I J)
  (h:∀i d l,ds[i]?=some d->I l->∃u,(∀G,wp (g d l) G s=G u s)/\I u/\(∀T,wp (t u) T s=T (p i) s)/\∀Q,wp (e u) Q s=Q (f i) s):
  wp (collect g t e same ds J) Q s=Q (((bG ds.length).filter p).map f) s:=by
 have chk:∀{R:Unit->aX->Prop},R () s->wp (chkS same) R s:=λr=>by rw[rJ];unfold chkS;rw[aD hs];exact r
 apply NS;refine Ko (Q:=λc q=>c=((bG ds.length).filter p).map f/\q=s) (λc xs l q=>∃i,xs=ds.drop i/\i<=ds.length/\I l/\c=((bG i).filter p).map f/\q=s) (λc l q C=>?_) (λc d xs l q C=>?_) ds [] _ s ⟨0,by simp,bY _,h0,rfl,rfl⟩
 ·obtain⟨i,v,hi,_,B,E⟩:=C;have:i=ds.length:=by have:=cC dP v;simp at this;ext
  subst this;subst E;exact chk ⟨B,rfl⟩
 ·obtain⟨i,v,hi,g,B,E⟩:=C;have o:i < ds.length:=by have:=cC dP v;simp at this;ext
  rw[dM o]at v;obtain⟨q,O⟩:=lG v;obtain⟨u,c,H,U,Y⟩:=h i d l (by rw[q];exact ai o) g;subst E;refine chk ?_;rw[c,U];cases L:p i with
  |true=>
   rw[aD rfl,Y];exact⟨i+1,O,o,H,by rw[B,fS,iP,bj];simp[L],rfl⟩
  |false=>
   rw[aB (by simp)];exact⟨i+1,O,o,H,by rw[B,fS,iP,bj];simp[L],rfl⟩
def rO:Ln->D
 | .settle v=>cH v
 | .act _ _ _=>.non
noncomputable def pN:Ln->Bool
 | .settle _=>false
 | .act _ _ _=>true
def DU(h:Hs)(st:Sd):List D:=bw h.hands.length λk=>rO (cQ h st k)
def lI(h:Hs)(st:Sd)(n:Nat):List D:=((bG n).filter λk=>pN (cQ h st k)).map λk=>.int (k:Nat)
section
variable{s:aX}{Q:D->aX->Prop}{h:Hs}{st:Sd}
theorem Qj{c:Ln}:wp (je [mW c]) Q s=Q (rO c) s:=by
 cases c with
 |settle v=>(simp![je];simp![jO,mW,rO,Hy,if_true])
 |act b d gs=>(simp![je];simp![jO,mW,rO,K9,aY,if_false])
theorem JE{Q:D->aX->Prop}{s:aX}:wp (aR (gX h) (.int 1)) Q s=Q (.tup (h.hands.map nE)) s:=by unfold gX;rw[qw,sK]
theorem Vp(hh:iG h)(q:km h st):wp (jC [gX h,cA st]) Q s=Q (.tup (DU h st)) s:=by
 have B:=hh.2.2.2.1;have v:=uj (show h.hands.length<=100 by ext);have o:h.hands.length<=fv:=g8 (by ext);have l:∀Q s,wp (aR (gX h) (.int 1)) Q s=Q (.tup (h.hands.map nE)) s:=λQ s=>JE;have w:∀A s,wp (collect (aS 0) bR (bW je (ax (bW jb (ax (am 1) (ax (am 2) (ax (am 0) bu)))) bu)) dL (bw h.hands.length λi=>.int i) [none,some (gX h),some (cA st)]) A s=A (DU h st) s:=λA s=>wm tN λk u Q=>by have g:∀Q s,wp (jb [gX h,cA st,.int k]) Q s=Q (mW (cQ h st k)) s:=λQ s=>HP hh q u;have c:∀Q s,wp (je [mW (cQ h st k)]) Q s=Q (rO (cQ h st k)) s:=λQ s=>Qj;simp![↓g,↓c]
 (simp![jC];simp![yd,↓l,ae,v,gK,bo,tX,mh,o,↓w])
theorem XF{c:Ln}{T:Bool->aX->Prop}: wp (yy (rO c) .non) (λx g=>match x with
  | .bl b=>T b g
  |_=>False) s=T (pN c) s:=by
 cases c<;>(unfold rO pN cH yy EM;rw[cR])
theorem vf(hh:iG h)(o:km h st):wp (jL [gX h,cA st]) Q s=Q (.ref s.length) (s++[.lst (lI h st h.hands.length)]):=by
 have u:=hh.2.2.2.1;have g:h.hands.length<=fv:=g8 (by ext);have ws:∀Q s,wp (jC [gX h,cA st]) Q s=Q (.tup (bw h.hands.length λk=>rO (cQ h st k))) s:=λQ s=>Vp hh o;have w:∀A s,wp (collect (iq 2 (cW (aS 0) (cW (aS 1) iD))) (db (c2 yy (am 1) (aN .non))) (am 0) dL (bw h.hands.length λi=>.tup [.int i,rO (cQ h st i)]) [none,none]) A s=A (lI h st h.hands.length) s:=λA s=>by
  rw[OI (f:=λk=>.int (k:Nat)) (p:=λk=>pN (cQ h st k)) (λl=>∃x y,l=[x,y]) tN ⟨_,_,rfl⟩ (λi d l hd c=>by
   obtain⟨x,y,el⟩:=c;obtain⟨v,q⟩:=zQ hd;refine⟨[some (.int i),some (rO (cQ h st i))],λG=>?_,⟨_,_,rfl⟩,λT=>?_,λQ=>?_⟩
   ·rw[q,el,uw,oX,gB,oX,gB,uK];exact propext ⟨λh=>h.2,λh=>⟨rfl,h⟩⟩
   ·simp only[↓Ae,↓DV,↓kX,↓Af,uh,List.getElem?_cons_succ];exact XF
   ·simp only[↓kX,uh]),mh]
  rfl
 (simp![jL];simp![yi,↓ws,mh,XW,gK,g,↓w])
theorem Lu(hh:iG h)(H:km h st)(I:∀r c,s.length<=r->c[r]?=some (.lst (lI h st h.hands.length))->dX s c->Q (.ref r) c):wp (ju [gX h,cA st]) Q s:=by
 have O:=hh.2.2.2.1;have G:0<=fv:=bY _;have L:=uj (show h.hands.length<=100 by ext);have E:∀Q s,wp (aR (gX h) (.int 1)) Q s=Q (.tup (h.hands.map nE)) s:=λQ s=>JE
 (simp![ju];simp![j5,G,↓E,ae,L,bo,tX])
 refine Gg (n:=h.hands.length) (λi l c=>∃q,l=[some (gX h),some (cA st),some (.ref s.length),q]/\c[s.length]?=some (.lst (lI h st i))/\dX s c) (λ_ _ _ _=>trivial) ⟨_,rfl,by simp[lI],(dX.refl _).snoc _⟩ (λU i l c up J u=>?_) (λl c u=>?_)
 ·obtain⟨q,el,g,ex⟩:=u;subst el;have o:∀Q s,wp (jh [gX h,cA st,.int i]) Q s=Q (mW (cQ h st i)) s:=λQ s=>IT hh H J;have C:(lI h st i).length < fv:=qp (by unfold lI;rw[ae];exact bZ (kF _ _) (by rw[pZ];ext));cases el:cQ h st i with
  |settle v=>
   rw[el]at o;simp only[mW]at o;have B:lI h st (i+1)=lI h st i:=by unfold lI;rw[fS,iP];simp[el,pN]
   simp![↓o,Wl,aY,if_false];exact up ⟨_,rfl,by rw[B];exact g,ex⟩
  |act b d gs=>
   rw[el]at o;simp only[mW]at o;have B:lI h st (i+1)=lI h st i++[.int (i:Nat)]:=by unfold lI;rw[fS,iP];simp[el,pN]
   simp![↓o,Wz,if_true,↓fk g,↓nN g,C];exact up ⟨_,rfl,by rw[aw (ij g),B],ex.put (ay _)⟩
 ·obtain⟨q,el,g,ex⟩:=u;subst el;simp![];exact I _ _ (ay _) g ex
theorem O2{row:List D}{A:List D->aX->Prop}(l:row∈i_ h.hands.length):wp (collect (iq 2 (cW (aS 0) (cW (aS 1) iD))) bR (c2 aR (c2 aR (am 0) (aN (.int 0))) (am 1)) dL ((h.hands.map nE).zipWith (λp q=>D.tup [p,q]) row) [none,none]) A s=A (bw h.hands.length λk=>cH (bf h row k)) s:=by
 obtain⟨u,g⟩:=B8 _ row l;have c:((h.hands.map nE).zipWith (λp q=>D.tup [p,q]) row).length=h.hands.length:=by rw[oO,ae];ext
 rw[Gr (f:=λk=>cH (bf h row k)) (caps:=[]) tN (λi d hd=>by
  have B:i < h.hands.length:=by rw[<- c];exact (ac.mp hd).1
  obtain⟨C,v,H,G,E⟩:=Mk (Q:=λ_ _=>True) l B;rw[kD,ak,H,G]at hd;refine⟨_,_,(aG hd).symm,λQ=>?_⟩;rcases E with ⟨e,o⟩|⟨e,o⟩<;>subst e<;>rw[o]<;>simp![nE]),c]
theorem RY{row:List D}(hh:iG h)(v:row∈i_ h.hands.length):wp (jG [gX h,.tup row]) Q s=Q (cA (ip h row)) s:=by
 obtain⟨J,u⟩:=B8 _ row v;have U:=hh.1;have O:=hh.2.2.2.1;have H:2<=fv:=g8 (by ext);have G:h.boards.length<=fv:=g8 (by ext);have E:((h.hands.map nE).zipWith (λp q=>D.tup [p,q]) row).length<=fv:=g8 (by rw[oO,ae];ext);have c : ∀{a b : CE}{I : Wk -> aX -> Prop}{l : Loc}{s : aX}, wp (tT a b l) I s = wp (a l) (λx o => wp (b l) (λy g => match x, y with
   | .tup ds,.tup es=>I ⟨ds.zipWith (λp q=>.tup [p,q]) es,dL⟩ g
   |_,_=>False) o) s:=λ{a b I l s}=>by
  unfold tT;rw[d0];congr 1;funext x o;rw[d0];congr 1;funext y g;cases x<;>cases y<;>first|exact cR|exact iy|exact u8 rfl|exact dg rfl
 have C:∀A s,wp (collect (iq 2 (cW (aS 0) (cW (aS 1) iD))) bR (c2 aR (c2 aR (am 0) (aN (.int 0))) (am 1)) dL ((h.hands.map nE).zipWith (λp q=>D.tup [p,q]) row) [none,none]) A s=A (bw h.hands.length λk=>cH (bf h row k)) s:=λA s=>O2 v;have B:∀A s,wp (collect (iq 2 (cW (aS 0) (cW (aS 1) iD))) bR (am 1) dL (h.boards.map pR) [none,none]) A s=A (bw h.boards.length λk=>cH (xK h k)) s:=λA s=>by
  rw[Gr (f:=λk=>cH (xK h k)) (caps:=[]) tN (λi d hd=>by
   rw[ak]at hd;cases ex:h.boards[i]? with
   |none=>rw[ex]at hd;cases hd
   |some x=>
    rw[ex]at hd;have L:xK h i=x.st:=by unfold xK;rw[ex];rfl
    refine⟨_,_,(aG hd).symm,λQ=>?_⟩;rw[L];simp![]),ae]
 (simp![jG];simp![yh,gX,↓c,gK,E,↓C,ae,G,↓B,H])
 unfold cA ip;dsimp only;rw[Gk,Gk]
end
open PySem (Str)
noncomputable def yB:List Bd->Nat
 |[]=>1
 |b::bs=>b.S*yB bs
section
variable{s:aX}{Q:D->aX->Prop}{h:Hs}
def vG(h:Hs)(st:Sd):Nat:=rh (mL h.hands.length h.boards.length) st.ls*yB h.boards+m_ (h.boards.map (·.S)) st.ss
theorem HW:∀bs:List Bd,pr (bs.map (·.S))=yB bs
 |[]=>rfl
 |b::bs=>by show b.S*pr (bs.map (·.S))=b.S*yB bs;rw[HW bs]
theorem JW{B:Nat}{st:Sd}(l:km h st)(u:∀x∈h.hands,x.lines.length<=B):∀x∈st.ls,x < B:=λx q=>by
 obtain⟨k,o⟩:=kN q;have g:=(ac.mp o).1;have c:k < h.hands.length:=by rw[<- l.1];exact g
 have e:=ai c;have C:=l.2.2.1 k _ _ e o;have v:=u _ (bA c);ext
theorem Fb{st:Sd}(l:km h st):∀(i b x:Nat),(h.boards.map (·.S))[i]?=some b->st.ss[i]?=some x->x < b:=λi b x c g=>by
 rw[ak]at c;cases e:h.boards[i]? with
 |none=>rw[e]at c;cases c
 |some bd=>
  rw[e]at c;cases c;exact l.2.2.2 i bd x e g
theorem Ng{K:Nat}:∀{bs:List Bd},(∀b∈bs,b.S<=K)->yB bs<=K^bs.length
 |[],_=>ay _
 |b::bs,hb=>by have l:=Ng (bs:=bs) λx c=>hb x (by simp[c]);have g:=hb b (by simp);rw[bC,nA,gF];exact Nat.mul_le_mul g l
theorem Vu{n c:Nat}(g:n=2\/n=3)(l:c<=4):mL n c^n*mS c^c<=324:=by rcases g with rfl|rfl<;>rcases xL l with rfl|rfl|rfl|rfl|rfl<;>decide
theorem NY(g:xn h):∃B:Nat,(mL h.hands.length h.boards.length)=B/\(∀x∈h.hands,x.lines.length<=B)/\B^h.hands.length*yB h.boards<=324:=by obtain⟨hh,o,l,c⟩:=g;refine⟨_,rfl,c,bZ (Nat.mul_le_mul_left _ (Ng l)) (Vu ?_ o)⟩;have:=hh.2.2.1;have:=hh.2.2.2.1;ext
theorem O6{st:Sd}(o:xn h)(c:km h st):vG h st < 324:=by obtain⟨B,e,l,u⟩:=NY o;have g:=Gf (JW c l);have q:=C2 (by rw[ae];exact c.2.1) (Fb c);rw[HW]at q;unfold vG;rw[e];rw[c.1]at g;have:(rh B st.ls+1)*yB h.boards<=B^h.hands.length*yB h.boards:=oB _ g;rw[qt]at this;ext
theorem Xh{a b:Sd}(I:xn h)(g:km h a)(c:km h b)(e:vG h a=vG h b):a=b:=by
 obtain⟨B,J,v,L⟩:=NY I;have o:=C2 (by rw[ae];exact g.2.1) (Fb g);have l:=C2 (by rw[ae];exact c.2.1) (Fb c);rw[HW]at o l;unfold vG at e;rw[J]at e;have q:rh B a.ls=rh B b.ls/\m_ (h.boards.map (·.S)) a.ss=m_ (h.boards.map (·.S)) b.ss:=by
  generalize yB h.boards=p at e o l;have u:0 < p:=by ext
  have H:(rh B a.ls*p+m_ (h.boards.map (·.S)) a.ss) / p=rh B a.ls:=by rw[gF,iN u,iu o];simp
  have G:(rh B b.ls*p+m_ (h.boards.map (·.S)) b.ss) / p=rh B b.ls:=by rw[gF,iN u,iu l];simp
  have:rh B a.ls=rh B b.ls:=by rw[<- H,<- G,e]
  rw[this]at e;exact⟨this,by ext⟩
 have E:=Nh (by rw[g.1,c.1]) (JW g v) (JW c v) q.1;have C:=NN (by rw[ae];exact g.2.1) (by rw[ae];exact c.2.1) (Fb g) (Fb c) q.2;cases a;cases b;simp only at E C;rw[E,C]
theorem Nc{α β:Type}{f:α->β}:∀{l:List α},l.Nodup->(∀a∈l,∀b∈l,f a=f b->a=b)->(l.map f).Nodup
 |[],_,_=>oh
 |x::xs,hn,hi=>by obtain⟨v,u⟩:=eK.mp hn;rw[aO];refine eK.mpr ⟨λg=>?_,Nc u λa q b o=>hi a (by simp[q]) b (by simp[o])⟩;obtain⟨y,c,e⟩:=cz.mp g;have:=hi y (by simp[c]) x (by simp) e;exact v (this ▸ c)
theorem few{l:List Sd}(o:xn h)(u:l.Nodup)(c:∀x∈l,km h x):l.length<=324:=by
 have:=Ej 324 (l.map (vG h)) (Nc u λa g b v e=>Xh o (c a g) (c b v) e) (λx q=>by obtain⟨a,g,e⟩:=cz.mp q;rw[<- e];exact O6 o (c a g))
 rwa [ae]at this
theorem so(st:Sd):pk true (cA st)=true:=UT st.ls st.ss
theorem CY(a b:Sd):oV (cA a) (cA b)=decide (a=b):=by
 have:=TC a.ls a.ss b.ls b.ss
 show oV (cA a) (cA b)=_;unfold cA;refine this.trans ?_;cases a;cases b;simp only[Sd.mk.injEq,nv]
theorem Nt{order:List Sd}:∀{c:List (D×D)},c.map (·.1)=order.map cA->∀st,(m9 c (cA st)).isSome=decide (st∈order):=by
 induction order with
 |nil=>
  intro c g st;cases c with
  |nil=>rfl
  |cons p ps=>cases g
 |cons x xs ih=>
  intro c g st;cases c with
  |nil=>cases g
  |cons p ps=>
   rw[aO,aO]at g;obtain⟨o,l⟩:=lG g;unfold m9;rw[cM,o,CY];by_cases e:x=st
   ·rw[bV e];simp[e]
   ·rw[aT e];have:=ih l st;unfold m9 at this;rw[this];have q:¬ st=x:=λz=>e z.symm;simp[q]
theorem RZ{c:List (D×D)}{order:List Sd}{st:Sd}{v:D}(w:c.map (·.1)=order.map cA)(q:st∉order):(lN c (cA st) v).map (·.1)=(order++[st]).map cA:=by
 have g:=Nt w st;rw[aT q]at g;have u:(c.any λp=>oV p.1 (cA st))=false:=by
  cases e:c.any λp=>oV p.1 (cA st) with
  |false=>rfl
  |true=>
   obtain⟨p,o,l⟩:=yu.mp e;have:(c.find? λp=>oV p.1 (cA st)).isSome=true:=xJ.mpr ⟨p,o,l⟩;unfold m9 at g;rw[lP,this]at g;cases g
 unfold lN;rw[u,aB (by simp),bj,bj,w];rfl
end
noncomputable def iz(xs:List Sd)(x:Sd):List Sd:=if x∈xs then xs else xs++[x]
def fK(h:Hs)(st:Sd):List Nat:=(bG h.hands.length).filter λk=>pN (cQ h st k)
def o7(h:Hs)(x:Sd)(ks:List Nat)(xs:List Sd):List Sd:=ks.foldl (λys k=>iz ys (ib h x k)) xs
def mD(h:Hs)(rows:List (List D)):List Sd:=rows.foldl (λys row=>iz ys (ip h row)) []
def dR(h:Hs):Nat->List Sd
 |0=>mD h (i_ h.hands.length)
 |i+1=>match (dR h i)[i]? with
  |some x=>o7 h x (fK h x) (dR h i)
  |none=>dR h i
def Good(h:Hs)(xs:List Sd):Prop:=xs.Nodup/\∀x∈xs,km h x
section
variable{h:Hs}
theorem Nk{xs:List Sd}{x:Sd}(g:Good h xs)(l:km h x):Good h (iz xs x):=by
 unfold iz;by_cases e:x∈xs
 ·rw[aD e];exact g
 ·rw[aB e];refine⟨cP.mpr ⟨g.1,by simp,λa q b o=>?_⟩,λy c=>?_⟩
  ·rw[aI.mp o];exact λz=>e (z ▸ q)
  ·rcases aV.mp c with c|c
   ·exact g.2 y c
   ·rw[aI.mp c];exact l
theorem Gb(hh:iG h){x:Sd}(c:km h x):∀{ks:List Nat}{xs:List Sd},(∀k∈ks,k < h.hands.length)->Good h xs->Good h (o7 h x ks xs)
 |[],_,_,g=>g
 |k::ks,xs,hk,g=>Gb hh c (ks:=ks) (λy l=>hk y (by simp[l])) (Nk g (QQ hh c (hk k (by simp))))
theorem GC(hh:iG h):∀{rows:List (List D)}{xs:List Sd},(∀r∈rows,r∈i_ h.hands.length)->Good h xs->Good h (rows.foldl (λys row=>iz ys (ip h row)) xs)
 |[],_,_,g=>g
 |r::rows,xs,hr,g=>GC hh (rows:=rows) (λy c=>hr y (by simp[c])) (Nk g (Ws hh (hr r (by simp))))
theorem AS{st:Sd}{k:Nat}(c:k∈fK h st):k < h.hands.length:=j_.mp (iI.mp c).1
theorem wv(hh:iG h):∀i,Good h (dR h i)
 |0=>GC hh (λr c=>c) ⟨oh,by simp⟩
 |i+1=>by
  have g:=wv hh i;unfold dR;cases e:(dR h i)[i]? with
  |none=>exact g
  |some x=>exact Gb hh (g.2 x (az e)) (λk l=>AS l) g
theorem MJ(xs:List Sd)(x:Sd):∃t,iz xs x=xs++t:=by
 unfold iz;by_cases e:x∈xs
 ·exact⟨[],by rw[aD e];simp⟩
 ·exact⟨[x],by rw[aB e]⟩
theorem F8{x:Sd}:∀(ks:List Nat)(xs:List Sd),∃t,o7 h x ks xs=xs++t
 |[],xs=>⟨[],by simp[o7]⟩
 |k::ks,xs=>by
  obtain⟨t,e⟩:=MJ xs (ib h x k);obtain⟨u,f⟩:=F8 (x:=x) ks (iz xs (ib h x k));refine⟨t++u,?_⟩
  show o7 h x ks (iz xs (ib h x k))=_;rw[f,e,bF]
theorem GP(i:Nat):∃t,dR h (i+1)=dR h i++t:=by
 show ∃t,(match (dR h i)[i]? with
  |some x=>o7 h x (fK h x) (dR h i)
  |none=>dR h i)=_
 cases (dR h i)[i]? with
 |none=>exact⟨[],by simp⟩
 |some x=>exact F8 _ _
theorem M7{i j:Nat}(c:i<=j):(dR h i).length<=(dR h j).length:=by
 induction j with
 |zero=>cases Nat.le_zero.mp c;exact ay _
 |succ j ih=>
  by_cases e:i=j+1
  ·subst e;exact ay _
  ·obtain⟨t,g⟩:=GP (h:=h) j;rw[g,aE];have:=ih (by ext);ext
def sW(h:Hs)(i:Nat):Prop:=∀j,j < i->j < (dR h j).length
def rL(h:Hs)(i:Nat):Prop:=sW h i/\(dR h i).length<=i
theorem rL.uniq{i j:Nat}(a:rL h i)(b:rL h j):i=j:=by
 rcases Nat.lt_trichotomy i j with e|e|e
 ·have:=b.1 i e;have:=a.2;ext
 ·exact e
 ·have:=a.1 j e;have:=b.2;ext
theorem DJ(c:xn h){i:Nat}(g:sW h i):(dR h i).length<=324/\i<=324:=by
 have l:=few c (wv c.1 i).1 (wv c.1 i).2;refine⟨l,?_⟩;cases i with
 |zero=>ext
 |succ i=>
  have:=g i (by ext);have:=M7 (h:=h) (show i<=i+1 by ext);ext
end
open PySem (Str)
section
variable{s u:aX}{Q:D->aX->Prop}{h:Hs}{no nd:Nat}{xs:List Sd}
def zt(s:aX)(no nd:Nat)(xs:List Sd)(u:aX):Prop:=∃c,u[nd]?=some (.dct true c)/\u[no]?=some (.lst (xs.map cA))/\c.map (·.1)=xs.map cA/\dX s u
theorem zt.ext{u':aX}(f:zt s no nd xs u)(x:dX u u'):zt s no nd xs u':=by obtain⟨g,a,b,c,d⟩:=f;exact⟨g,x.at_ a,x.at_ b,c,d.trans x⟩
theorem Qi{c:List (D×D)}(w:c.map (·.1)=xs.map cA):c.length=xs.length:=by have:=cC dP w;simpa using this
theorem uu{st:Sd}{a J H G:Option D}{R:sk->aX->Prop}(B:no≠nd)(o:s.length<=no)(q:s.length<=nd)(I:zt s no nd xs u)(hl:xs.length<=400)
  (O:∀u',zt s no nd (iz xs st) u'->(∀n,n≠no->n≠nd->u'[n]?=u[n]?)->R (.next [a,some (.ref no),some (.dic nd),J,some (cA st),H,G]) u'):
  wp (n8 (db (c2 sO (am 4) (am 2))) (aQ (b_ (gP (am 2) (am 4)) (aN (.bl true))) (aQ (iF (dJ (am 1) (am 4))) ba)) ba [a,some (.ref no),some (.dic nd),J,some (cA st),H,G]) R u:=by
 obtain⟨c,l,C,w,L⟩:=I;have kl:=Qi w;have q1:∀Q,wp (hasK nd (cA st)) Q u=Q (m9 c (cA st)).isSome u:=λQ=>NE l (so st);simp![↓q1,Nt w];by_cases g:st∈xs
 ·rw[bV g];simp![eZ,aY,if_false];refine O u ⟨c,l,?_,?_,L⟩ λ_ _ _=>rfl
  ·unfold iz;rw[aD g];exact C
  ·unfold iz;rw[aD g];exact w
 ·rw[aT g];have G:∀v Q,wp (storeK nd (cA st) v) Q u=Q () (u.set nd (.dct true (lN c (cA st) v))):=λv Q=>CV l (so st) (qp (by ext));have U:∀v,(u.set nd (MO.dct true (lN c (cA st) v)))[no]?=some (.lst (xs.map cA)):=λv=>by rw[ag (by ext)];exact C
  have h:∀v Q,wp (getL no) Q (u.set nd (MO.dct true (lN c (cA st) v)))=Q (xs.map cA) (u.set nd (MO.dct true (lN c (cA st) v))):=λv Q=>fk (U v);have Y:∀v E Q,wp (putL no E) Q (u.set nd (MO.dct true (lN c (cA st) v)))=Q () ((u.set nd (MO.dct true (lN c (cA st) v))).set no (.lst E)):=λv E Q=>nN (U v);simp![kf,if_true,↓G,↓h,↓Y,ae];refine⟨qp (by ext),O _ ⟨_,by rw[ag B,aw (ij l)],?_,?_,(L.put q).put o⟩ λn I H=>by rw[ag (bX I),ag (bX H)]⟩
  ·unfold iz;rw[aB g,aw (by rw[cL];exact ij C),bj];rfl
  ·unfold iz;rw[aB g];exact RZ w g
theorem SM{st:Sd}:lI h st h.hands.length=(fK h st).map λk=>.int (k:Nat):=rfl
theorem LG{x:Sd}{ks:List Nat}{j k:Nat}(e:ks[j]?=some k):o7 h x (ks.take (j+1)) xs=iz (o7 h x (ks.take j) xs) (ib h x k):=by obtain⟨c,g⟩:=ac.mp e;rw[kj c,g];unfold o7;rw[p0];rfl
theorem Mm{rows:List (List D)}{j:Nat}{r:List D}(e:rows[j]?=some r):mD h (rows.take (j+1))=iz (mD h (rows.take j)) (ip h r):=by obtain⟨c,g⟩:=ac.mp e;rw[kj c,g];unfold mD;rw[p0];rfl
theorem PJ(L:xn h)(hq:∀i r u,rL h i->u[r]?=some (.lst ((dR h i).map cA))->s.length<=r->dX s u->Q (.ref r) u):wp (jq [gX h]) Q s:=by
 have hh:=L.1;have hn:h.hands.length=2\/h.hands.length=3:=by have:=hh.2.2.1;have:=hh.2.2.2.1;ext
 (simp![jq];simp![jT,bY])
 refine MX hn λr s1 hr gr x1=>?_;simp![↓fk gr];have f0:zt s s.length (s++[MO.lst []]).length [] s1:=⟨[],x1.at_ oF,x1.at_ (ot oF),rfl,(((dX.refl s).snoc _).snoc _).trans x1⟩
 have hr':(s++[MO.lst []]).length < r:=by
  have:(s++[MO.lst []]++[MO.dct true []]).length=(s++[MO.lst []]).length+1:=by simp
  ext
 have hne:s.length < (s++[MO.lst []]).length:=by simp
 generalize (s++[MO.lst []]).length=nd at f0 hr' hne ⊢;refine tP (λi l u=>∃B c,l=[some (gX h),some (.ref s.length),some (.dic nd),B,c,none,none]/\u[r]?=some (.lst ((i_ h.hands.length).map D.tup))/\zt s s.length nd (mD h ((i_ h.hands.length).take i)) u) (λ_ _ _ w=>by obtain⟨_,_,_,g,_⟩:=w;exact g)
  ⟨_,_,rfl,gr,f0⟩ (λRw1 i d l u up1 rt1 hd q=>?_) (λl u q=>?_)
 ·obtain⟨B,c,el,g,f⟩:=q;subst el;rw[ak]at hd;cases O:(i_ h.hands.length)[i]? with
  |none=>rw[O]at hd;cases hd
  |some row=>
   rw[O]at hd;have ed:d=.tup row:=(aG hd).symm;subst ed;have H:=az O;simp![];refine N_ hh H λu1 Y=>?_;simp only[↓BJ,↓qL];have I:Good h (mD h ((i_ h.hands.length).take i)):=GC hh (λr hr=>fq hr) ⟨oh,by simp⟩;have hl:=few L I.1 I.2;refine uu (by ext) (ay _) (by ext) (f.ext Y) (by ext) λo E l=>?_;simp![];refine up1 ⟨_,_,rfl,?_,?_⟩
   ·rw[l r (by ext) (by ext)];exact Y.at_ g
   ·rw[Mm O];exact E
 ·obtain⟨B,c,el,g,f⟩:=q;subst el;rw[ae,cN]at f;simp![];refine EJ (λl u=>∃(i:Nat)(B c G:Option D),l=[some (gX h),some (.ref s.length),some (.dic nd),B,c,some (.int i),G]/\sW h i/\zt s s.length nd (dR h i) u)
   (λ(l:Loc)(_:aX)=>match (l[5]?:Option (Option D)) with
    |some (some (D.int i))=>(1000-i).toNat
    |_=>0) ⟨0,_,_,_,rfl,λj hj=>bq hj (by ext),f⟩ (λRw2 l u O rt2 q=>?_)
  clear f g;obtain⟨i,B,c,G,el,go,f⟩:=q;subst el;obtain⟨hl,hi⟩:=DJ L go;have gl:u[s.length]?=some (.lst ((dR h i).map cA)):=by obtain⟨_,_,b,_⟩:=f;exact b
  simp![↓fk gl,ae];by_cases o:i < (dR h i).length
  ·rw[aD (by ext)];have ex:(dR h i)[i]?=some (dR h i)[i]:=ai o;have J:=(wv hh i).2 _ (bA o);have ew:dR h (i+1)=o7 h (dR h i)[i] (fK h (dR h i)[i]) (dR h i):=by
    show (match (dR h i)[i]? with
     |some x=>o7 h x (fK h x) (dR h i)
     |none=>dR h i)=_
    rw[ex]
   generalize (dR h i)[i]=x at ex J ew;have q2:∀(Q:D->aX->Prop)s,wp (cJ ((dR h i).map cA) (i:Int)) Q s=Q (cA x) s:=λQ s=>qJ (by rw[ak,ex];rfl);simp![↓q2];refine Lu hh J λr1 u1 hr1 C Y=>?_;rw[SM]at C;simp![↓fk C];have lu:nd < u.length:=by obtain⟨_,a,_⟩:=f;exact ij a
   refine tP (λj l u=>∃c G,l=[some (gX h),some (.ref s.length),some (.dic nd),B,c,some (.int i),G]/\u[r1]?=some (.lst ((fK h x).map λk=>.int (k:Nat)))/\zt s s.length nd (o7 h x ((fK h x).take j) (dR h i)) u) (λ_ _ _ w=>by obtain⟨_,_,_,g,_⟩:=w;exact g)
    ⟨_,_,rfl,C,f.ext Y⟩ (λRw3 j d l v H rt3 hd q=>?_) (λl v q=>?_)
   ·obtain⟨c,G,el,g2,E⟩:=q;subst el;rw[ak]at hd;cases U:(fK h x)[j]? with
    |none=>rw[U]at hd;cases hd
    |some k=>
     rw[U]at hd;have ed:d=.int (k:Nat):=(aG hd).symm;subst ed;have g:=AS (az U);obtain⟨t,et⟩:=F8 (h:=h) (x:=x) ((fK h x).take j) (dR h i);have O:v[s.length]?=some (.lst ((o7 h x ((fK h x).take j) (dR h i)).map cA)):=by obtain⟨_,_,b,_⟩:=E;exact b
     have u:∀(Q:D->aX->Prop)s,wp (cJ ((o7 h x ((fK h x).take j) (dR h i)).map cA) (i:Int)) Q s=Q (cA x) s:=λQ s=>qJ (by rw[et,ak,av o,ex];rfl);have I:=Gb hh J (λk g=>AS (fq g)) (wv hh i) (ks:=(fK h x).take j);have C:=few L I.1 I.2;simp![↓fk O,↓u];refine OK hh J g λv1 l=>?_;simp only[↓BJ,↓qL];refine uu (by ext) (ay _) (by ext) (E.ext l) (by ext) λv2 Y B=>?_;simp![];refine H ⟨_,_,rfl,?_,?_⟩
     ·rw[B r1 (by ext) (by ext)];exact l.at_ g2
     ·rw[LG U];exact Y
   ·obtain⟨c,G,el,g2,E⟩:=q;subst el;rw[ae,cN,<- ew]at E;simp![];refine O ⟨i+1,_,_,_,rfl,λj hj=>?_,E⟩ ?_
    ·by_cases e:j=i
     ·subst e;exact o
     ·exact go j (by ext)
    ·show (1000-((i:Int)+1)).toNat < (1000-(i:Int)).toNat;ext
  ·rw[aB (by ext)]
   try simp![]
   obtain⟨_,_,_,_,ex⟩:=f;exact hq i _ _ ⟨go,by ext⟩ gl (ay _) ex
end
open PySem (Str)
section
variable{s u:aX}{Q:D->aX->Prop}{h:Hs}{no nd:Nat}{xs:List Sd}{l:Loc}
theorem OD{a b c:CE}: wp (oW a b c l) Q s=wp (a l) (λx q=>match x with
  | .dic n=>wp (getDc n) (λp o=>p.1=true/\wp (b l) (λy g=>wp (c l) (λz v=>wp (lJ n y z) Q v) g) o) q
  |_=>False) s:=by
 unfold oW;rw[d0];refine nj λx q=>?_;cases x with
 |dic n=>
  dsimp only;rw[d0];refine nj λp o=>?_;rw[eY,d0];refine cC _ (nj λy g=>?_);rw[d0]
 |_=>exact u8 rfl
theorem Tl{n:Nat}{c:List (D×D)}{k v d:D}(g:s[n]?=some (.dct true c))(q:pk true k=true)(o:c.length < fv)(e:m9 c k=some d):wp (lJ n k v) Q s=Q d s:=by unfold lJ;rw[d0,wu g,eY];dsimp only;rw[e];dsimp only;rw[cR];exact propext ⟨λz=>z.2,λz=>⟨⟨rfl,q,o⟩,z⟩⟩
theorem U8{n:Nat}{c:List (D×D)}{k v:D}(g:s[n]?=some (.dct true c))(q:pk true k=true)(o:c.length < fv)(e:m9 c k=none):wp (lJ n k v) Q s=Q v (s.set n (.dct true (lN c k v))):=by unfold lJ;rw[d0,wu g,eY];dsimp only;rw[e];dsimp only;rw[d0,LO g,cR];exact propext ⟨λz=>z.2,λz=>⟨⟨rfl,q,o⟩,z⟩⟩
theorem OZ{n:Nat}{c:List (D×D)}(g:s[n]?=some (.dct true c)):wp (pz (.dic n)) Q s=Q (.ref s.length) (s++[.lst (c.map (·.1))]):=by unfold pz;dsimp only;rw[d0,wu g,eY,gO];exact propext ⟨λz=>z.2,λz=>⟨rfl,z⟩⟩
noncomputable def u_:Nat->List (List D)
 |0=>[[]]
 |n+1=>(u_ n).flatMap λx=>[x++[.int 0],x++[.int 1]]
theorem XC{n:Nat}(c:n=2\/n=3):u_ n=i_ n:=by rcases c with rfl|rfl<;>rfl
theorem N1:∀n,∀x∈u_ n,x.length=n
 |0,x,h=>by simp[u_]at h;simp[h]
 |n+1,x,h=>by obtain⟨y,c,e⟩:=yv.mp h;have:=N1 n y c;simp at e;rcases e with e|e<;>rw[e]<;>simp[this]
theorem L0:∀n,(u_ n).length=2^n
 |0=>rfl
 |n+1=>by
  have:∀l:List (List D),(l.flatMap λx=>[x++[D.int 0],x++[D.int 1]]).length=2*l.length:=by
   intro l
   induction l with
   |nil=>rfl
   |cons a t ih=>rw[md,aE,ih,bC];simp;ext
  show ((u_ n).flatMap _).length=_;rw[this,L0 n,nA];ext
theorem QW(hh:iG h)(hq:∀r u,s.length<=r->u[r]?=some (.lst ((i_ h.hands.length).map D.tup))->dX s u->Q (.ref r) u):wp (jz [gX h]) Q s:=by
 have hn:h.hands.length=2\/h.hands.length=3:=by have:=hh.2.2.1;have:=hh.2.2.2.1;ext
 have Y:1<=fv:=g8 (by ext);have wh:∀(Q:D->aX->Prop)s,wp (aR (gX h) (.int 1)) Q s=Q (.tup (h.hands.map nE)) s:=λQ s=>JE
 (simp![jz];simp![j2,bY,Y,↓wh])
 refine tP (λi l u=>∃(n:Nat)(O L q:Option D),l=[some (gX h),some (.ref n),O,L,q]/\s.length<=n/\u[n]?=some (.lst ((u_ i).map D.tup))/\dX s u) (λ_ _ _ _=>trivial)
  ⟨_,_,_,_,rfl,ay _,oF,(dX.refl _).snoc _⟩ (λRw1 i d l u up1 rt1 hd B=>?_) (λl u B=>?_)
 ·obtain⟨n,O,L,q,el,H,g,ex⟩:=B;subst el;have hi:=(ac.mp hd).1;rw[ae]at hi;have hi3:i < 3:=by ext
  have hcn:=L0 i;have hp:2^i<=8:=by rcases (show i=0\/i=1\/i=2 by ext) with rfl|rfl|rfl<;>decide
  have gn:(u++[MO.lst []])[n]?=some (.lst ((u_ i).map D.tup)):=ot g;have lnn:=ij g;simp![bY,↓fk gn];refine tP (λj l v=>∃q,l=[some (gX h),some (.ref n),some d,some (.ref u.length),q]/\v[n]?=some (.lst ((u_ i).map D.tup))/\v[u.length]?=some (.lst ((((u_ i).take j).flatMap λx=>[x++[.int 0],x++[.int 1]]).map D.tup))/\dX s v) (λ_ _ _ w=>by obtain⟨_,_,g,_⟩:=w;exact g)
   ⟨_,rfl,gn,oF,ex.snoc _⟩ (λRw2 j e l v U rt2 I B=>?_) (λl v B=>?_)
  ·obtain⟨q,el,g1,o,C⟩:=B;subst el;rw[ak]at I;cases J:(u_ i)[j]? with
   |none=>rw[J]at I;cases I
   |some row=>
    rw[J]at I;have ed:e=.tup row:=(aG I).symm;subst ed;obtain⟨hj,e2⟩:=ac.mp J;have hrl:=N1 i row (az J);have h:(u_ i).take (j+1)=(u_ i).take j++[row]:=by rw[kj hj,e2]
    generalize G:((u_ i).take j).flatMap (λx=>[x++[D.int 0],x++[D.int 1]])=ys at o;have hyl:ys.length<=16:=by
     have:∀l:List (List D),(l.flatMap λx=>[x++[D.int 0],x++[D.int 1]]).length=2*l.length:=by
      intro l
      induction l with
      |nil=>rfl
      |cons a t ih=>rw[md,aE,ih,bC];simp;ext
     rw[<- G,this,aZ];ext
    have g:∀c,(v.set u.length (MO.lst c))[u.length]?=some (.lst c):=λc=>aw (ij o);have L:∀c Q,wp (getL u.length) Q (v.set u.length (MO.lst c))=Q c (v.set u.length (MO.lst c)):=λc Q=>fk (g c);have H:∀c E Q,wp (putL u.length E) Q (v.set u.length (MO.lst c))=Q () ((v.set u.length (MO.lst c)).set u.length (.lst E)):=λc E Q=>nN (g c);have O:row.length+1<=fv:=g8 (by ext);simp![Y,O,↓fk o,↓nN o,↓L,↓H,aE,ae,bC,iK];have hu:=ex.le;refine⟨qp (by ext),qp (by ext),U ⟨_,rfl,?_,?_,(C.put hu).put hu⟩⟩
    ·rw[ag (by ext),ag (by ext)];exact g1
    ·rw[aw (by rw[cL];exact ij o),h,wk,G];simp
  ·obtain⟨q,el,g1,o,C⟩:=B;subst el;rw[ae,cN]at o;simp![];exact up1 ⟨_,_,_,_,rfl,by have:=ex.le;ext,o,C⟩
 ·obtain⟨n,O,L,q,el,H,g,ex⟩:=B;subst el;rw[ae,XC hn]at g;simp![];exact hq n u H g ex
def pP:List Sd->Nat->List (D×D)
 |[],_=>[]
 |x::xs,i=>(cA x,cH i)::pP xs (i+1)
theorem Dv{y:Sd}:∀(xs:List Sd)(i:Nat),m9 (pP xs i) (cA y)=if y∈xs then some (cH (i+xs.idxOf y)) else none
 |[],i=>rfl
 |x::xs,i=>by
  have c:=Dv (y:=y) xs (i+1);unfold m9 at c ⊢;rw[pP,cM];dsimp only;rw[CY];by_cases e:x=y
  ·subst e;simp
  ·have o:¬ y=x:=λz=>e z.symm;simp only[aT e];rw[c,rG];have:(x == y)=false:=by simp[e]
   rw[this];simp only[bn,o,false_or,cond_false];by_cases g:y∈xs
   ·simp only[g,if_true];congr 2;ext
   ·simp only[g,if_false]
theorem Ol{y:Sd}:∀(xs:List Sd)(i:Nat),pP (xs++[y]) i=pP xs i++[(cA y,cH (i+xs.length))]
 |[],i=>rfl
 |x::xs,i=>by rw[io,pP,pP,Ol xs (i+1),io,bC,show i+1+xs.length=i+(xs.length+1) by ext]
theorem Kg:∀(xs:List Sd)(i:Nat),(pP xs i).length=xs.length
 |[],i=>rfl
 |x::xs,i=>by rw[pP,bC,Kg xs,bC]
theorem Md:∀(xs:List Sd)(i:Nat),(pP xs i).map (·.1)=xs.map cA
 |[],i=>rfl
 |x::xs,i=>by rw[pP,aO,Md xs,aO]
theorem M1{y:Sd}(q:y∉xs):lN (pP xs 0) (cA y) (cH xs.length)=pP (xs++[y]) 0:=by
 have c:=Dv (y:=y) xs 0;rw[aB q]at c;have v:((pP xs 0).any λp=>oV p.1 (cA y))=false:=by
  cases e:(pP xs 0).any λp=>oV p.1 (cA y) with
  |false=>rfl
  |true=>
   obtain⟨p,o,g⟩:=yu.mp e;have:((pP xs 0).find? λp=>oV p.1 (cA y)).isSome=true:=xJ.mpr ⟨p,o,g⟩;unfold m9 at c;rw[Option.map_eq_none_iff]at c;rw[c]at this;cases this
 unfold lN;rw[v,aB (by simp),Ol,uZ]
theorem G8{y:Sd}:∀{xs t:List Sd},y∈xs->(xs++t).idxOf y=xs.idxOf y
 |x::xs,t,hy=>by
  rw[io,rG,rG];by_cases e:x=y
  ·subst e;simp
  ·have:(x == y)=false:=by simp[e]
   rw[this];simp only[cond_false];rw[G8 (by rcases bn.mp hy with z|z;exact bq z.symm e;exact z)]
def row(h:Hs)(x:Sd)(ks:List Nat)(xs:List Sd):List D:=ks.map λk=>.tup [cH k,cH (xs.idxOf (ib h x k))]
theorem O_{x:Sd}{ks:List Nat}{t:List Sd}(g:∀k∈ks,ib h x k∈xs):row h x ks (xs++t)=row h x ks xs:=by unfold row;refine dO λk c=>?_;rw[G8 (g k c)]
def Fn(s:aX)(no nd:Nat)(xs:List Sd)(u:aX):Prop:=u[nd]?=some (.dct true (pP xs 0))/\u[no]?=some (.lst (xs.map cA))/\dX s u
theorem Fn.ext{u':aX}(f:Fn s no nd xs u)(x:dX u u'):Fn s no nd xs u':=⟨x.at_ f.1,x.at_ f.2.1,f.2.2.trans x⟩
theorem Oa{x:Sd}:x∈iz xs x:=by
 unfold iz;by_cases e:x∈xs
 ·rw[aD e];exact e
 ·rw[aB e];simp
theorem Tz{x y:Sd}{ks:List Nat}(c:y∈xs):y∈o7 h x ks xs:=by obtain⟨t,e⟩:=F8 (h:=h) (x:=x) ks xs;rw[e];exact cB _ c
theorem G0{x:Sd}{k:Nat}:∀{ks:List Nat}{xs:List Sd},k∈ks->ib h x k∈o7 h x ks xs
 |j::ks,xs,c=>by
  show _∈o7 h x ks (iz xs (ib h x j));rcases bn.mp c with e|c
  ·subst e;exact Tz Oa
  ·exact G0 c
theorem O9{st:Sd}{a b H G:Option D}{R:sk->aX->Prop}(C:no≠nd)(q:s.length<=no)(B:s.length<=nd)(I:Fn s no nd xs u)(hl:xs.length<=400)
  (L:∀u',Fn s no nd (iz xs st) u'->(∀n,n≠no->n≠nd->u'[n]?=u[n]?)->R (.next [a,b,some (.ref no),some (.dic nd),H,G,some (cA st)]) u'):
  wp (n8 (db (c2 sO (am 6) (am 3))) (aQ (b_ (gP (am 3) (am 6)) (c1 gD (am 2))) (aQ (iF (dJ (am 2) (am 6))) ba)) ba [a,b,some (.ref no),some (.dic nd),H,G,some (cA st)]) R u:=by
 obtain⟨o,g,J⟩:=I;have l:∀Q,wp (hasK nd (cA st)) Q u=Q (m9 (pP xs 0) (cA st)).isSome u:=λQ=>NE o (so st);simp![↓l,Dv];by_cases c:st∈xs
 ·rw[aD c];simp![oJ,eZ,aY,if_false];refine L u ?_ λ_ _ _=>rfl;unfold iz;rw[aD c];exact⟨o,g,J⟩
 ·rw[aB c];have h:∀v Q,wp (storeK nd (cA st) v) Q u=Q () (u.set nd (.dct true (lN (pP xs 0) (cA st) v))):=λv Q=>CV o (so st) (qp (by rw[Kg];ext));have O:∀v,(u.set nd (MO.dct true (lN (pP xs 0) (cA st) v)))[no]?=some (.lst (xs.map cA)):=λv=>by rw[ag (by ext)];exact g
  have Y:∀v Q,wp (getL no) Q (u.set nd (MO.dct true (lN (pP xs 0) (cA st) v)))=Q (xs.map cA) (u.set nd (MO.dct true (lN (pP xs 0) (cA st) v))):=λv Q=>fk (O v);have U:∀v E Q,wp (putL no E) Q (u.set nd (MO.dct true (lN (pP xs 0) (cA st) v)))=Q () ((u.set nd (MO.dct true (lN (pP xs 0) (cA st) v))).set no (.lst E)):=λv E Q=>nN (O v);simp![vv,kf,if_true,↓fk g,↓h,↓Y,↓U,ae];refine⟨qp (by ext),L _ ?_ λn G l=>by rw[ag (bX G),ag (bX l)]⟩;unfold iz;rw[aB c];refine⟨?_,?_,(J.put B).put q⟩
  ·rw[ag C,aw (ij o)];have:=M1 c;unfold cH at this;rw[this]
  ·rw[aw (by rw[cL];exact ij g),bj];rfl
theorem Dx(hh:iG h){x:Sd}:(fK h x).length<=3:=by have c:=hh.2.2.2.1;have:=kF (λk=>pN (cQ h x k)) (bG h.hands.length);rw[pZ]at this;unfold fK;ext
theorem XX{x:Sd}(hc:xn h)(Y:km h x)(gx:Good h xs)(hne:no≠nd)(hso:s.length<=no)(hsd:s.length<=nd)(I:Fn s no nd xs u)
  (hq:∀u',Fn s no nd (o7 h x (fK h x) xs) u'->u'[u.length]?=some (.lst (row h x (fK h x) (o7 h x (fK h x) xs)))->(∀n,n < u.length->n≠no->n≠nd->u'[n]?=u[n]?)->Q (.ref u.length) u'):wp (js [gX h,cA x,.ref no,.dic nd]) Q u:=by
 have hh:=hc.1;have l2:2<=fv:=g8 (by ext);have wf:∀(Q:D->aX->Prop)s,wp (jL [gX h,cA x]) Q s=Q (.ref s.length) (s++[.lst ((fK h x).map λk=>.int (k:Nat))]):=λQ s=>vf hh Y;have G:(u++[MO.lst []]++[MO.lst ((fK h x).map λk=>.int (k:Nat))])[(u++[MO.lst []]).length]?=some (.lst ((fK h x).map λk=>.int (k:Nat))):=oF;have qf:∀Q,wp (getL (u++[MO.lst []]).length) Q (u++[MO.lst []]++[MO.lst ((fK h x).map λk=>.int (k:Nat))])=Q ((fK h x).map λk=>.int (k:Nat)) (u++[MO.lst []]++[MO.lst ((fK h x).map λk=>.int (k:Nat))]):=λQ=>fk G
 (simp![js];simp![jU,bY,↓wf,↓qf])
 have xu:dX u (u++[MO.lst []]++[MO.lst ((fK h x).map λk=>.int (k:Nat))]):=((dX.refl _).snoc _).snoc _;have gs:(u++[MO.lst []]++[MO.lst ((fK h x).map λk=>.int (k:Nat))])[u.length]?=some (.lst []):=ot oF;have lf:u.length < (u++[MO.lst []]).length:=by simp
 have lnd:nd < u.length:=ij I.1;have lno:no < u.length:=ij I.2.1;have f0:=I.ext xu;have k0:∀n,n < u.length->n≠no->n≠nd->(u++[MO.lst []]++[MO.lst ((fK h x).map λk=>.int (k:Nat))])[n]?=u[n]?:=λn hn _ _=>by rw[av (by rw[aE];ext),av hn]
 clear qf wf;generalize (u++[MO.lst []]).length=nr at G lf;generalize u++[MO.lst []]++[MO.lst ((fK h x).map λk=>.int (k:Nat))]=u0 at G gs f0 k0;refine tP (λj l v=>∃(L J:Option D),l=[some (gX h),some (cA x),some (.ref no),some (.dic nd),some (.ref u.length),L,J]/\v[nr]?=some (.lst ((fK h x).map λk=>.int (k:Nat)))/\v[u.length]?=some (.lst (row h x ((fK h x).take j) (o7 h x ((fK h x).take j) xs)))/\Fn s no nd (o7 h x ((fK h x).take j) xs) v/\∀n,n < u.length->n≠no->n≠nd->v[n]?=u[n]?) (λ_ _ _ w=>by obtain⟨_,_,_,g,_⟩:=w;exact g)
  ⟨_,_,rfl,G,gs,f0,k0⟩ (λRw3 j d l v O rt3 hd hW=>?_) (λl v hW=>?_)
 ·obtain⟨L,J,el,g1,H,f,U⟩:=hW;subst el;rw[ak]at hd;cases B:(fK h x)[j]? with
  |none=>rw[B]at hd;cases hd
  |some k=>
   rw[B]at hd;have ed:d=.int (k:Nat):=(aG hd).symm;subst ed;have g:=AS (az B);have hj:=(ac.mp B).1;have hj3:=Dx hh (x:=x);have wb:∀(Q:D->aX->Prop)s,wp (jB [gX h,cA x,.int k]) Q s=Q (cA (ib h x k)) s:=λQ s=>RS hh Y g;have gd:=Gb hh Y (λk g=>AS (fq g)) gx (ks:=(fK h x).take j);have hl2:=few hc gd.1 gd.2;have l:∀E∈(fK h x).take j,ib h x E∈o7 h x ((fK h x).take j) xs:=λE o=>G0 o;have v:=LG (h:=h) (xs:=xs) (x:=x) B;have tk:(fK h x).take (j+1)=(fK h x).take j++[k]:=by rw[dG,B];rfl
   have G:(row h x ((fK h x).take j) (o7 h x ((fK h x).take j) xs)).length<=3:=by unfold row;rw[ae,aZ];ext
   generalize o7 h x ((fK h x).take j) xs=ys at *;simp only[↓E8];rw[qL];simp only[↓wK,↓w8,↓w_,↓Aa,↓D1,↓Fe,↓D7,↓wb,↓EQ];rw[qL];refine O9 hne hso hsd f (by ext) λv2 f2 c=>?_;have q:v2[u.length]?=some (.lst (row h x ((fK h x).take j) ys)):=by rw[c _ (by ext) (by ext)];exact H
   obtain⟨b1,b2,b4⟩:=id f2;have C:=Dv (y:=ib h x k) (iz ys (ib h x k)) 0;rw[aD Oa,uZ]at C;have q1:∀Q,wp (itemK nd (cA (ib h x k))) Q v2=Q (cH ((iz ys (ib h x k)).idxOf (ib h x k))) v2:=λQ=>yT b1 (so _) C;simp![l2,↓q1,↓fk q,↓nN q];obtain⟨t,et⟩:=MJ ys (ib h x k);have er:row h x ((fK h x).take j) ys++[.tup [.int (k:Nat),cH ((iz ys (ib h x k)).idxOf (ib h x k))]]=row h x ((fK h x).take (j+1)) (iz ys (ib h x k)):=by rw[tk];unfold row;rw[bj];congr 1;refine dO λE o=>?_;rw[et,G8 (l E o)]
   refine⟨qp (by ext),O ⟨_,_,rfl,?_,?_,?_,λn hn h1 I=>?_⟩⟩
   ·rw[ag (by ext),c _ (by ext) (by ext)];exact g1
   ·rw[aw (ij q),er,v]
   ·rw[v];have c:s.length<=u.length:=by ext
    exact⟨by rw[ag (by ext)];exact b1,by rw[ag (by ext)];exact b2,b4.put c⟩
   ·rw[ag (by ext),c n h1 I];exact U n hn h1 I
 ·obtain⟨L,J,el,g1,H,f,U⟩:=hW;subst el;rw[ae,cN]at f H;simp![];exact hq v f H U
end
open PySem (Str)
section
variable{s u:aX}{Q:D->aX->Prop}{h:Hs}{no nd:Nat}{xs:List Sd}{l:Loc}
theorem SK{i:Int}:wp (r9 (.int i) .non) Q s=Q (.bl true) s:=dg rfl
def GV(h:Hs)(lo no nd c:Nat)(ys:List Sd)(rs:List D)(u:aX):Prop:=∀(j:Nat)(d:D),rs[j]?=some d->∃(r:Nat)(x:Sd),d=.ref r/\lo<=r/\r≠no/\r≠nd/\r≠c/\ys[j]?=some x/\u[r]?=some (.lst (row h x (fK h x) ys))/\∀k∈fK h x,ib h x k∈ys
theorem Uj{J most:Nat}(Y:xn h)(gf:s[J]?=some (.lst (((i_ h.hands.length).map (ip h)).map cA)))(hm:∀i,sW h i->(dR h i).length<=most)
  (hq:∀i no nd q rs u,rL h i->u[no]?=some (.lst ((dR h i).map cA))->s.length<=no->u[q]?=some (.lst rs)->rs.length=i->s.length<=q->GV h s.length no nd q (dR h i) rs u->dX s u->Q (.tup [.ref no,.ref q]) u):wp (jr [gX h,.ref J,.int most]) Q s:=by
 have hh:=Y.1;have hn:h.hands.length=2\/h.hands.length=3:=by have:=hh.2.2.1;have:=hh.2.2.2.1;ext
 have l2:2<=fv:=g8 (by ext);have lnf:=ij gf
 (simp![jr];simp![jR,↓fk (ot gf)])
 refine tP (λi l u=>∃(O:Option D),l=[some (gX h),some (.ref J),some (.int most),some (.dic s.length),O,none,none]/\u[J]?=some (.lst (((i_ h.hands.length).map (ip h)).map cA))/\u[s.length]?=some (.dct true (pP (mD h ((i_ h.hands.length).take i)) 0))/\dX s u) (λ_ _ _ w=>by obtain⟨_,_,g,_⟩:=w;exact g)
  ⟨_,rfl,ot gf,oF,(dX.refl _).snoc _⟩ (λRw1 i d l u up1 rt1 hd L=>?_) (λl u L=>?_)
 ·obtain⟨O,el,g1,o,ex⟩:=L;subst el;rw[ak,ak]at hd;cases l:(i_ h.hands.length)[i]? with
  |none=>rw[l]at hd;cases hd
  |some row=>
   rw[l]at hd;have ed:d=cA (ip h row):=(aG hd).symm;subst ed;have E:Good h (mD h ((i_ h.hands.length).take i)):=GC hh (λr I=>fq I) ⟨oh,by simp⟩;have hl:=few Y E.1 E.2;have q:=Mm (h:=h) l;generalize mD h ((i_ h.hands.length).take i)=fs at *;have G:=Kg fs 0;have C:∀(Q:D->aX->Prop),wp (gD (.dic s.length)) Q u=Q (cH fs.length) u:=λQ=>by rw[ML o,G];rfl
   have B:=Dv (y:=ip h row) fs 0;by_cases c:ip h row∈fs
   ·rw[aD c]at B;have g:∀v Q,wp (lJ s.length (cA (ip h row)) v) Q u=Q _ u:=λv Q=>Tl o (so _) (qp (by ext)) B;simp![↓OD,↓wu o,↓C,↓g];refine up1 ⟨_,rfl,g1,?_,ex⟩;rw[q];unfold iz;rw[aD c];exact o
   ·rw[aB c]at B;have g:∀v Q,wp (lJ s.length (cA (ip h row)) v) Q u=Q v (u.set s.length (.dct true (lN (pP fs 0) (cA (ip h row)) v))):=λv Q=>U8 o (so _) (qp (by ext)) B;simp![↓OD,↓wu o,↓C,↓g,M1 c];refine up1 ⟨_,rfl,by rw[ag (by ext)];exact g1,?_,ex.put (ay _)⟩;rw[aw (ij o),q];unfold iz;rw[aB c]
 ·obtain⟨O,el,g1,o,ex⟩:=L;subst el;rw[ae,ae,cN]at o;have qk:∀(Q:D->aX->Prop),wp (pz (.dic s.length)) Q u=Q (.ref u.length) (u++[.lst ((dR h 0).map cA)]):=λQ=>by rw[OZ o,Md];rfl
  simp![bY,↓qk];have lu:=ex.le;have f0:Fn s u.length s.length (dR h 0) (u++[MO.lst ((dR h 0).map cA)]++[MO.lst []]):=⟨ot (ot o),ot oF,(ex.snoc _).snoc _⟩
  have g3:(u++[MO.lst ((dR h 0).map cA)]++[MO.lst []])[(u++[MO.lst ((dR h 0).map cA)]).length]?=some (.lst []):=oF;have l3:u.length < (u++[MO.lst ((dR h 0).map cA)]).length:=by simp
  have l4:=ij o;clear qk;generalize (u++[MO.lst ((dR h 0).map cA)]).length=q at g3 l3;generalize u++[MO.lst ((dR h 0).map cA)]++[MO.lst []]=u0 at g3 f0;generalize u.length=no at *;refine EJ (λl v=>∃(i:Nat)(rs:List D),l=[some (gX h),some (.ref J),some (.int most),some (.dic s.length),O,some (.ref no),some (.ref q)]/\sW h i/\Fn s no s.length (dR h i) v/\v[q]?=some (.lst rs)/\rs.length=i/\GV h s.length no s.length q (dR h i) rs v)
   (λ(_:Loc)(v:aX)=>match (v[q]?:Option MO) with
    |some (.lst rs)=>1000-rs.length
    |_=>0) ⟨0,[],rfl,λj U=>bq U (by ext),f0,g3,rfl,λj d hd=>by simp at hd⟩ (λRw2 l v B rt2 L=>?_)
  obtain⟨i,rs,el,go,f,H,I,st⟩:=L;subst el;obtain⟨hl,hi⟩:=DJ Y go;have hmo:=hm i go;have gl:v[no]?=some (.lst ((dR h i).map cA)):=f.2.1;simp![↓fk gl,↓fk H,ae];by_cases G:i < (dR h i).length
  ·rw[aD (by ext)];have E:(dR h i)[i]?=some (dR h i)[i]:=ai G;have O:=(wv hh i).2 _ (bA G);have c:dR h (i+1)=o7 h (dR h i)[i] (fK h (dR h i)[i]) (dR h i):=by
    show (match (dR h i)[i]? with
     |some x=>o7 h x (fK h x) (dR h i)
     |none=>dR h i)=_
    rw[E]
   obtain⟨t,g⟩:=GP (h:=h) i;generalize (dR h i)[i]=x at E O c;have J:∀(Q:D->aX->Prop)s,wp (cJ ((dR h i).map cA) (rs.length:Nat)) Q s=Q (cA x) s:=λQ s=>qJ (by rw[ak,I,E];rfl);simp![↓SK,↓fk gl,↓fk H,↓J,ae];rw[aB (by ext)]
   try simp![↓fk gl,↓fk H,↓J,ae]
   refine XX Y O (wv hh i) (by ext) (by ext) (ay _) f λv2 f2 gv L=>?_;have l:=ij H;have C:v2[q]?=some (.lst rs):=by rw[L q l (by ext) (by ext)];exact H
   simp![↓fk C,↓nN C];have lvo:=ij gl;have lvd:=ij f.1;refine⟨qp (by ext),B ⟨i+1,_,rfl,λj U=>?_,?_,aw (ij C),by simp[I],λj d hd=>?_⟩ ?_⟩
   ·by_cases e:j=i
    ·subst e;exact G
    ·exact go j (by ext)
   ·rw[c];obtain⟨l,h,g⟩:=f2;exact⟨by rw[ag (by ext)];exact l,by rw[ag (by ext)];exact h,g.put (by ext)⟩
   ·by_cases U:j < rs.length
    ·rw[av U]at hd;obtain⟨r,y,ed,H,G,C,B,q,l,h⟩:=st j d hd;refine⟨r,y,ed,H,G,C,B,?_,?_,λk o=>?_⟩
     ·rw[g,av (ac.mp q).1];exact q
     ·rw[ag (bX B),L r (ij l) G C,g,O_ h];exact l
     ·rw[g];exact cB _ (h k o)
    ·have u : j = rs.length := by have:=(ac.mp hd).1;rw[aE]at this;simp at this;ext
     subst u;rw[aM (ay _),ff]at hd;cases hd;refine⟨v.length,x,rfl,by ext,by ext,by ext,by ext,?_,?_,λk o=>?_⟩
     ·rw[g,av (by ext),I];exact E
     ·rw[ag (by ext),c];exact gv
     ·rw[c];exact G0 o
   ·rw[aw (ij C),H];simp only[aE,uR];ext
  ·rw[aB (by ext)];simp![l2];exact hq i _ _ _ _ _ ⟨go,by ext⟩ gl (by ext) H I (by ext) st f.2.2
theorem VF{r:Nat}(hh:iG h)(g:u[r]?=some (.lst ((i_ h.hands.length).map D.tup)))(A:List D->aX->Prop):wp (collect (aS 0) bR (bW jG (ax (am 1) (ax (am 0) bu))) (kB r ((i_ h.hands.length).map D.tup)) ((i_ h.hands.length).map D.tup) [none,some (gX h)]) A u=A (((i_ h.hands.length).map (ip h)).map cA) u:=by
 rw[Bh (f:=λk=>((((i_ h.hands.length).map (ip h)).map cA)[k]?).getD .non) (show kB r _ u from g) (λk d hd Q=>by
  rw[ak]at hd;cases c:(i_ h.hands.length)[k]? with
  |none=>rw[c]at hd;cases hd
  |some row=>
   rw[c]at hd;have v:d=.tup row:=(aG hd).symm;subst v;have q:∀(Q:D->aX->Prop)s,wp (jG [gX h,.tup row]) Q s=Q (cA (ip h row)) s:=λQ s=>RY hh (az c);rw[ak,ak,c];simp![↓q,cI,f_])]
 congr 1;rw[ae];apply fA;intro k;by_cases o:k < (i_ h.hands.length).length
 ·rw[zi o,ak,ak,ai o];rfl
 ·rw[bT (by rw[mh];ext),bT (by rw[ae,ae];ext)]
theorem Rp{most:Nat}(q:xn h)(I:∀i,sW h i->(dR h i).length<=most)
  (E:∀i no nd c rs u,rL h i->u[no]?=some (.lst ((dR h i).map cA))->s.length<=no->u[c]?=some (.lst rs)->rs.length=i->s.length<=c->GV h s.length no nd c (dR h i) rs u->dX s u->Q (.tup [.ref no,.ref c]) u):wp (jD [gX h,.int most]) Q s:=by
 have hh:=q.1
 (simp![jD];simp![ya])
 refine QW hh λr u hr g ex=>?_;have w:=λA=>VF hh g A;have C:(i_ h.hands.length).length<=fv:=g8 (by rw[Mo];have l:=hh.2.2.1;have Y:=hh.2.2.2.1;rcases (show h.hands.length=2\/h.hands.length=3 by ext) with e|e<;>rw[e]<;>decide)
 simp![↓fk g,gK,↓w,ae,C];refine Uj q oF I λi no nd c rs v st L H J o G B O=>?_;simp![];have l1:=ex.le;have l2:=(ex.snoc (.lst (((i_ h.hands.length).map (ip h)).map cA))).le;refine E i no nd c rs v st L (by ext) J o (by ext) (λj d hd=>?_) ((ex.snoc _).trans O);obtain⟨r,x,U,e1,e⟩:=B j d hd;exact⟨r,x,U,by ext,e⟩
end
open PySem (Str)
inductive Rc(E:Nat->List (Nat×Nat)):Nat->Nat->Prop
 |refl (x:Nat):Rc E x x
 |step {x y:Nat}{p:Nat×Nat} (h:p∈E x) (r:Rc E p.2 y):Rc E x y
section
variable{E:Nat->List (Nat×Nat)}{n:Nat}{F P G:List Nat}{x y z:Nat}
theorem Rc.trans(a:Rc E x y)(b:Rc E y z):Rc E x z:=by
 induction a with
 |refl=>exact b
 |step h _ ih=>exact .step h (ih b)
theorem Rc.snoc{p:Nat×Nat}(a:Rc E x y)(h:p∈E y):Rc E x p.2:=a.trans (.step h (.refl _))
noncomputable def FO(E:Nat->List (Nat×Nat))(F:List Nat):Prop:=∀(i x:Nat),F[i]?=some x->∀a∈F.take (i+1),∀p∈E a,p.2∈F.take (i+1)\/Rc E p.2 x
structure DI(n:Nat)(E:Nat->List (Nat×Nat))(F P G:List Nat):Prop where
 nd:(F++P).Nodup
 lt:∀x∈F++P,x < n
 len:G.length=P.length
 cl:∀a∈F,∀p∈E a,p.2∈F++P
 pg:∀(j x g:Nat),P[j]?=some x->G[j]?=some g->g<=(E x).length/\∀p∈(E x).take g,p.2∈F++P
 ch:∀(i j x y:Nat),i<=j->P[i]?=some x->P[j]?=some y->Rc E x y
 fo:FO E F
theorem Hw:(F++(P++[x])).Perm (F++[x]++P):=by rw[bF];exact List.Perm.append_left F (List.perm_append_comm)
theorem DI.fin(I:DI n E F (P++[x]) (G++[(E x).length])):DI n E (F++[x]) P G:=by
 have v:=Hw (F:=F) (P:=P) (x:=x);have u:∀y,y∈F++(P++[x])->y∈F++[x]++P:=λy l=>v.mem_iff.mp l;have H:G.length=P.length:=by have:=I.len;simp at this;exact this
 have top:(P++[x])[P.length]?=some x:=by simp
 have tg:(G++[(E x).length])[P.length]?=some (E x).length:=by rw[<- H];simp
 obtain⟨_,h⟩:=I.pg P.length x _ top tg;rw[cN]at h;have at_:∀{j y:Nat},P[j]?=some y->(P++[x])[j]?=some y:=λe=>by rw[av (ac.mp e).1];exact e
 refine⟨v.nodup_iff.mp I.nd,λy l=>I.lt y (v.mem_iff.mpr l),H,λa c p o=>?_,λj y g l L=>?_,λi j a b B c U=>I.ch i j a b B (at_ c) (at_ U),λi y l a c p o=>?_⟩
 ·rcases aV.mp c with c|c
  ·exact u _ (I.cl a c p o)
  ·rw[aI.mp c]at o;exact u _ (h p o)
 ·obtain⟨q,Y⟩:=I.pg j y g (at_ l) (by rw[av (ac.mp L).1];exact L);exact⟨q,λp o=>u _ (Y p o)⟩
 ·by_cases Q:i < F.length
  ·rw[av Q]at l;rw[gE (by ext)]at c ⊢;exact I.fo i y l a c p o
  ·have C : i = F.length := by have:=(ac.mp l).1;rw[aE]at this;simp at this;ext
   subst C;rw[aM (ay _),ff]at l;cases l;rw[m5 (by simp)]at c ⊢;have O:p.2∈F++(P++[x]):=by
    rcases aV.mp c with c|c
    ·exact I.cl a c p o
    ·rw[aI.mp c]at o;exact h p o
   rcases aV.mp (u _ O) with q|q
   ·exact .inl q
   ·obtain⟨j,J⟩:=aL.mp q;exact .inr (I.ch j P.length _ x (fH (ac.mp J).1) (at_ J) top)
theorem Nx{g:Nat}{p:Nat×Nat}(h:(E x)[g]?=some p):(E x).take (g+1)=(E x).take g++[p]:=by rw[dG,h];rfl
theorem DI.old{g:Nat}{p:Nat×Nat}(I:DI n E F (P++[x]) (G++[g]))(v:(E x)[g]?=some p)(C:p.2∈F++(P++[x])):DI n E F (P++[x]) (G++[g+1]):=by
 have o:G.length=P.length:=by have:=I.len;simp at this;exact this
 refine⟨I.nd,I.lt,by simp[o],I.cl,λj y k l h=>?_,I.ch,I.fo⟩;by_cases B:j < G.length
 ·rw[av B]at h;exact I.pg j y k l (by rw[av B];exact h)
 ·have u : j = G.length := by have:=(ac.mp h).1;rw[aE]at this;simp at this;ext
  subst u;rw[aM (ay _),ff]at h;cases h;rw[o,aM (ay _),ff]at l;cases l;obtain⟨J,H⟩:=I.pg G.length x g (by rw[o];simp) (by simp);refine⟨(ac.mp v).1,λq c=>?_⟩;rw[Nx v]at c;rcases aV.mp c with c|c
  ·exact H q c
  ·rw[aI.mp c];exact C
theorem DI.new{g:Nat}{p:Nat×Nat}(I:DI n E F (P++[x]) (G++[g]))(U:(E x)[g]?=some p)(hs:p.2∉F++(P++[x]))(hn:p.2 < n):DI n E F (P++[x]++[p.2]) (G++[g+1]++[0]):=by
 have H:G.length=P.length:=by have:=I.len;simp at this;exact this
 have mo:∀{y},y∈F++(P++[x])->y∈F++(P++[x]++[p.2]):=λh=>by rw[<- bF];exact cB _ h
 have Q:p∈E x:=az U;have O:(P++[x])[P.length]?=some x:=by simp
 have u:(P++[x]).length=P.length+1:=by simp
 refine⟨?_,λy c=>?_,by simp[H],λa v q l=>mo (I.cl a v q l),λj y k c B=>?_,λi j a b Y v C=>?_,I.fo⟩
 ·rw[<- bF,cP];refine⟨I.nd,by simp,λa v b C e=>?_⟩;rw[aI]at C;subst C e;exact hs v
 ·rw[<- bF]at c;rcases aV.mp c with c|c
  ·exact I.lt y c
  ·rw[aI.mp c];exact hn
 ·by_cases L:j < P.length+1
  ·rw[av (by rw[u];exact L)]at c;rw[av (by simp[H];exact L)]at B;by_cases J:j < G.length
   ·rw[av J]at B;obtain⟨v,h⟩:=I.pg j y k c (by rw[av J];exact B);exact⟨v,λq l=>mo (h q l)⟩
   ·have o:j=G.length:=by ext
    subst o;rw[aM (ay _),ff]at B;cases B;rw[H,O]at c;cases c;obtain⟨v,h⟩:=I.pg G.length x g (by rw[H];exact O) (by simp);refine⟨(ac.mp U).1,λq l=>?_⟩;rw[Nx U]at l;rcases aV.mp l with l|l
    ·exact mo (h q l)
    ·rw[aI.mp l];simp
  ·have o : j = P.length+1 := by have:=(ac.mp c).1;rw[aE,u]at this;simp at this;ext
   subst o;rw[aM (by simp[H])]at B;simp[H]at B;subst B;exact⟨bY _,λq l=>by simp at l⟩
 ·by_cases L:j < P.length+1
  ·rw[av (by rw[u];ext)]at v;rw[av (by rw[u];exact L)]at C;exact I.ch i j a b Y v C
  ·have o : j = P.length+1 := by have:=(ac.mp C).1;rw[aE,u]at this;simp at this;ext
   subst o;rw[aM (by rw[u];exact ay _),u,ff]at C;cases C;by_cases g:i < P.length+1
   ·rw[av (by rw[u];exact g)]at v;exact (I.ch i P.length a x (by ext) v O).snoc Q
   ·have c:i=P.length+1:=by ext
    subst c;rw[aM (by rw[u];exact ay _),u,ff]at v;cases v;exact .refl _
theorem DI.root{r:Nat}(I:DI n E F [] [])(v:r∉F)(B:r < n):DI n E F [r] [0]:=by
 have mo:∀{y},y∈F++[]->y∈F++[r]:=λh=>by rw[br]at h;exact cB _ h
 refine⟨?_,λy c=>?_,rfl,λa g q o=>mo (I.cl a g q o),λj y k c u=>?_,λi j a b C g l=>?_,I.fo⟩
 ·rw[cP];refine⟨by have:=I.nd;rwa [br]at this,by simp,λa g b l e=>?_⟩;rw[aI]at l;subst l e;exact v g
 ·rcases aV.mp c with c|c
  ·exact I.lt y (cB _ c)
  ·rw[aI.mp c];exact B
 ·match j,c,u with
  |0,c,u=>cases u;exact⟨bY _,λq o=>by simp at o⟩
  |j+1,c,_=>simp at c
 ·match i,j,g,l with
  |0,0,g,l=>cases g;cases l;exact .refl _
  |0,j+1,_,l=>simp at l
  |i+1,_,g,_=>simp at g
theorem DI.nil:DI n E [] [] []:=⟨by simp,by simp,rfl,by simp,by simp,by simp,λi x h=>by simp at h⟩
noncomputable def xZ(E:Nat->List (Nat×Nat))(F G:List Nat):Nat:=F.length+(F.map λa=>(E a).length).sum+G.sum
theorem Lr{f:Nat->Nat}:∀{F:List Nat},(∀a∈F,f a<=3)->(F.map f).sum<=3*F.length
 |[],_=>by simp
 |a::F,h=>by have l:=h a (by simp);have g:=Lr (F:=F) λb c=>h b (by simp[c]);simp only[aO,gL,bC];ext
theorem Nl:∀{G:List Nat},(∀g∈G,g<=3)->G.sum<=3*G.length
 |[],_=>by simp
 |a::G,h=>by have o:=h a (by simp);have l:=Nl (G:=G) λb c=>h b (by simp[c]);simp only[gL,bC];ext
theorem DI.prg_le(I:DI n E F P G)(few:∀i,i < n->(E i).length<=3):xZ E F G<=7*n:=by
 have q:=Ej n (F++P) I.nd I.lt;rw[aE]at q;have v:=Lr (F:=F) (f:=λa=>(E a).length) λa o=>few a (I.lt a (cB _ o));have u:=Nl (G:=G) λg l=>by
  obtain⟨j,h⟩:=aL.mp l;have c:j < P.length:=by rw[<- I.len];exact (ac.mp h).1
  have:=(I.pg j _ g (ai c) h).1;have:=few P[j] (I.lt _ (bE _ (bA c)));ext
 have:=I.len;unfold xZ;ext
end
open PySem (Str)
section
variable{s u s0:aX}{Q:D->aX->Prop}{l:Loc}{E:Nat->List (Nat×Nat)}{n ns dr no root:Nat}{F P G:List Nat}
noncomputable def BL(p:Nat×Nat):D:=.tup [.int (p.1:Nat),.int (p.2:Nat)]
noncomputable def ia(x:Nat):D:=.int (x:Nat)
structure wn(n:Nat)(E:Nat->List (Nat×Nat))(ns:Nat)(u:aX):Prop where
 at_:∃rs:List Nat,u[ns]?=some (.lst (rs.map .ref))/\rs.length=n/\∀(i r:Nat),rs[i]?=some r->u[r]?=some (.lst ((E i).map BL))
 wf:∀i,i < n->∀p∈E i,p.2 < n
 few:∀i,i < n->(E i).length<=3
theorem wn.ext(g:wn n E ns s)(x:dX s u):wn n E ns u:=by obtain⟨⟨rs,B,v,q⟩,o,h⟩:=g;exact⟨⟨rs,x.at_ B,v,λi r c=>x.at_ (q i r c)⟩,o,h⟩
theorem wn.row(g:wn n E ns u){i:Nat}(v:i < n):∃(rs:List Nat)(r:Nat),(∀Q,wp (getL ns) Q u=Q (rs.map .ref) u)/\(∀(Q:D->aX->Prop)s,wp (cJ (rs.map D.ref) ((i:Nat):Int)) Q s=Q (.ref r) s)/\u[r]?=some (.lst ((E i).map BL))/\rs.length=n:=by
 obtain⟨⟨rs,q,o,h⟩,C,B⟩:=g;have c:i < rs.length:=by ext
 exact⟨rs,rs[i],λQ=>fk q,λQ s=>qJ (by rw[ak,ai c];rfl),h i _ (ai c),o⟩
theorem Kw{ds:List D}{d:D}:wp (cJ (ds++[d]) (-1)) Q s=Q d s:=by
 have e:cJ (ds++[d]) (-1)=ret d:=by
  unfold cJ;have:MM.mC (ds++[d]).length (-1)=some ds.length:=by unfold MM.mC;rw[aB (by ext),aD (by simp;ext)];simp;ext
  rw[this];dsimp only;rw[aM (ay _),ff];rfl
 rw[e,cR]
theorem RX{k:Nat}:MM.mC (k+1) (-1)=some k:=by unfold MM.mC;rw[aB (by ext),aD (by simp;ext)];simp;ext
theorem Xp{ds:List D}{d e:D}:(ds++[d]).set ds.length e=ds++[e]:=by rw[nJ _ _ (ay _),ff];rfl
theorem Qk{H I J:CE}{R:sk->aX->Prop}: wp (t5 H I J l) R s=wp (H l) (λo C=>wp (I l) (λi B=>match o,i with
  | .ref n,.int k=>wp (getL n) (λds v=>wp (cJ ds k) (λx q=>wp (J l) (λy h=>wp (Bl x y) (λz g=>wp (iT (.ref n) (.int k) z) (λ_ c=>R (.next l) c) g) h) q) v) B
  |_,_=>False) C) s:=by
 unfold t5;rw[d0];congr 1;funext o C;rw[d0];congr 1;funext i B;cases o with
 |ref n=>
  cases i with
  |int k=>
   rw[d0];congr 1;funext ds v;rw[d0];congr 1;funext x q;rw[d0];congr 1;funext y h;rw[d0];congr 1;funext z g;rw[d0];congr 1;funext z c;rw[cR]
  |_=>exact iy
 |_=>exact iy
theorem Us{i j:Int}:wp (Bl (.int i) (.int j)) Q s=Q (.int (i+j)) s:=dg rfl
theorem NG{f:Nat->D}{i:Nat}{v:D}(g:i < n):(bw n f).set i v=bw n λj=>if j=i then v else f j:=by
 apply fA;intro k;by_cases c:k < n
 ·rw[zi c];by_cases e:k=i
  ·subst e;rw[aw (by rw[mh];exact c),aD rfl]
  ·rw[ag (bX e),zi c,aB e]
 ·rw[bT (by rw[cL,mh];ext),bT (by rw[mh];ext)]
theorem GG{k i:Nat}(h:i < k):MM.mC k ((i:Nat):Int)=some i:=by unfold MM.mC;rw[aD (by ext),aD (by ext)];simp
def seen(n:Nat)(S:List Nat):List D:=bw n λi=>.bl (decide (i∈S))
theorem JZ{S:List Nat}{i:Nat}(c:i < n):(seen n S).set i (.bl true)=seen n (S++[i]):=by
 unfold seen;rw[NG c];congr 1;funext j;by_cases e:j=i
 ·subst e;simp
 ·simp[e]
theorem XT{S T:List Nat}(h:∀i,i∈S↔i∈T):seen n S=seen n T:=by unfold seen;congr 1;funext j;simp[h j]
theorem Ia{S:List Nat}{i:Nat}(c:i < n):wp (cJ (seen n S) ((i:Nat):Int)) Q s=Q (.bl (decide (i∈S))) s:=yW c
noncomputable def AC(E:Nat->List (Nat×Nat)):D->Nat
 | .int i=>(E i.toNat).length
 |_=>0
noncomputable def AB:D->Nat
 | .int i=>i.toNat
 |_=>0
theorem Cu:(F.map ia).length+((F.map ia).map (AC E)).sum+((G.map ia).map AB).sum=xZ E F G:=by
 have g:(F.map ia).map (AC E)=F.map λa=>(E a).length:=by rw[e8];exact dO λa _=>rfl
 have c:(G.map ia).map AB=G:=by rw[e8];exact (dO λa _=>rfl).trans (List.map_id G)
 unfold xZ;rw[g,c,ae]
theorem V5(g:wn n E ns s0)(x0:dX s0 s)(hs:s[dr]?=some (.lst (seen n F)))(ho:s[no]?=some (.lst (F.map ia)))(l1:s0.length<=dr)(l2:s0.length<=no)(hne:dr≠no)(I:DI n E F [] [])(hr:root < n)(hrF:root∉F)(hn:n<=400)
  (hq:∀c u,DI n E c [] []->(∀x∈F,x∈c)->root∈c->u[dr]?=some (.lst (seen n c))->u[no]?=some (.lst (c.map ia))->dX s0 u->(∀k,k < s.length->k≠dr->k≠no->u[k]?=s[k]?)->Q .non u):
  wp (jn [.ref ns,.int (root:Nat),.ref dr,.ref no]) Q s:=by
 have c1:1<=fv:=g8 (by ext);have ls:=ij hs;have lo:=ij ho;have q0:∀Q,wp (getL dr) Q s=Q (seen n F) s:=λQ=>fk hs;have ix:MM.mC (seen n F).length ((root:Nat):Int)=some root:=by unfold seen;rw[mh];exact GG hr
 have q1:∀es Q,wp (putL dr es) Q s=Q () (s.set dr (.lst es)):=λes Q=>nN hs
 (simp![jn];simp![jP,↓q0,ix,↓q1,c1,JZ hr])
 have e0:(s.set dr (MO.lst (seen n (F++[root])))).length=s.length:=cL;rw[e0];have a1:(s.set dr (MO.lst (seen n (F++[root])))++[MO.lst [.int (root:Nat)]]++[MO.lst [.int 0]])[dr]?=some (.lst (seen n (F++[root]))):=ot (ot (aw ls));have a2:(s.set dr (MO.lst (seen n (F++[root])))++[MO.lst [.int (root:Nat)]]++[MO.lst [.int 0]])[no]?=some (.lst (F.map ia)):=ot (ot (by rw[ag hne];exact ho));have a3:(s.set dr (MO.lst (seen n (F++[root])))++[MO.lst [.int (root:Nat)]]++[MO.lst [.int 0]])[s.length]?=some (.lst [.int (root:Nat)]):=ot (by rw[<- e0];exact oF);have a4:(s.set dr (MO.lst (seen n (F++[root])))++[MO.lst [.int (root:Nat)]]++[MO.lst [.int 0]])[s.length+1]?=some (.lst [.int 0]):=by
  have:s.length+1=(s.set dr (MO.lst (seen n (F++[root])))++[MO.lst [.int (root:Nat)]]).length:=by rw[aE,e0];rfl
  rw[this];exact oF
 have a5:dX s0 (s.set dr (MO.lst (seen n (F++[root])))++[MO.lst [.int (root:Nat)]]++[MO.lst [.int 0]]):=((x0.put l1).snoc _).snoc _;have a6:∀k,k < s.length->k≠dr->k≠no->(s.set dr (MO.lst (seen n (F++[root])))++[MO.lst [.int (root:Nat)]]++[MO.lst [.int 0]])[k]?=s[k]?:=λk L B _=>by rw[av (by rw[aE,e0];ext),av (by rw[e0];exact L),ag (bX B)]
 have e1:(s.set dr (MO.lst (seen n (F++[root])))++[MO.lst [.int (root:Nat)]]).length=s.length+1:=by rw[aE,e0];rfl
 try rw[e1]
 clear q0 q1;generalize s.set dr (MO.lst (seen n (F++[root])))++[MO.lst [.int (root:Nat)]]++[MO.lst [.int 0]]=s1 at *;refine EJ (λl v=>∃(c P G:List Nat)(y6 y7:Option D),l=[some (.ref ns),some (.int (root:Nat)),some (.ref dr),some (.ref no),some (.ref s.length),some (.ref (s.length+1)),y6,y7]/\DI n E c P G/\(∀x∈F++[root],x∈c++P)/\v[dr]?=some (.lst (seen n (c++P)))/\v[no]?=some (.lst (c.map ia))/\v[s.length]?=some (.lst (P.map ia))/\v[s.length+1]?=some (.lst (G.map ia))/\dX s0 v/\∀k,k < s.length->k≠dr->k≠no->v[k]?=s[k]?)
  (λ(_:Loc)(v:aX)=>match (v[no]?:Option MO),(v[s.length+1]?:Option MO) with
   |some (.lst os),some (.lst gs)=>10000-(os.length+(os.map (AC E)).sum+(gs.map AB).sum)
   |_,_=>0) ⟨F,[root],[0],_,_,rfl,I.root hrF hr,λx U=>U,a1,a2,a3,a4,a5,a6⟩ (λRw1 l v up1 rt1 hW=>?_)
 obtain⟨c,P,G,y6,y7,el,J,hin,b1,b2,b3,b4,b5,b6⟩:=hW;subst el;simp![↓fk b3,ae];have C:=Ej n (c++P) J.nd J.lt;rw[aE]at C;rcases u4 P with e|⟨q,x,e⟩
 ·subst e;have eG:G=[]:=mQ.mp J.len;subst eG;rw[aB (by simp)];rw[br]at b1;have g:∀x∈F++[root],x∈c:=λx U=>by have:=hin x U;rwa [br]at this
  exact hq c v J (λx U=>g x (cB _ U)) (g root (by simp)) b1 b2 b5 b6
 ·rw[u5]at e;subst e;obtain⟨h,gl,eG⟩:∃h gl,G=h++[gl]:=by
   rcases u4 G with z|⟨h,gl,z⟩
   ·have:=J.len;rw[z]at this;simp at this
   ·exact⟨h,gl,by rw[z,u5]⟩
  subst eG;have hl:h.length=q.length:=by have:=J.len;simp at this;exact this
  have U:x < n:=J.lt x (by simp);rw[aD (by simp)];obtain⟨rs,r,qg,qi,gr,hrs⟩:=(g.ext b5).row U;have pm:(q++[x]).map ia=q.map ia++[.int (x:Nat)]:=by rw[bj];rfl
  have gm:(h++[gl]).map ia=h.map ia++[.int (gl:Nat)]:=by rw[bj];rfl
  have qG:∀Q,wp (getL (s.length+1)) Q v=Q (h.map ia++[.int (gl:Nat)]) v:=λQ=>by rw[<- gm];exact fk b4
  have qP:∀Q,wp (getL s.length) Q v=Q (q.map ia++[.int (x:Nat)]) v:=λQ=>by rw[<- pm];exact fk b3
  have few:=(g.few x U)
  obtain⟨pg1,pg2⟩:=J.pg q.length x gl (by simp) (by rw[<- hl];simp);have hF:c.length<=400:=by ext
  have pr:=J.prg_le g.few;rw[pm,Kw];simp![↓qP,↓Kw,↓qG,↓qg,↓qi,↓fk gr,ae];have nP:no≠s.length:=by ext
  have nG:no≠s.length+1:=by ext
  have eP:dr≠s.length:=by ext
  have l:dr≠s.length+1:=by ext
  have kk:s.length≠s.length+1:=by ext
  have ls0:=x0.le;by_cases hg:gl=(E x).length
  ·rw[aD (by ext),fk b2];rw[nN b2];refine⟨qp (by rw[ae];ext),?_⟩;have d3:(v.set no (MO.lst (c.map ia++[.int (x:Nat)])))[s.length]?=some (.lst (q.map ia++[.int (x:Nat)])):=by rw[ag nP,<- pm];exact b3
   have u:(v.set no (MO.lst (c.map ia++[.int (x:Nat)])))[s.length+1]?=some (.lst (h.map ia++[.int (gl:Nat)])):=by rw[ag nG,<- gm];exact b4
   have I:(v.set no (MO.lst (c.map ia++[.int (x:Nat)])))[dr]?=some (.lst (seen n (c++(q++[x])))):=by rw[ag (bX hne)];exact b1
   have d2:(v.set no (MO.lst (c.map ia++[.int (x:Nat)])))[no]?=some (.lst ((c++[x]).map ia)):=by rw[aw (ij b2),bj];rfl
   have d5:dX s0 (v.set no (MO.lst (c.map ia++[.int (x:Nat)]))):=b5.put l2;have d6:∀k,k < s.length->k≠dr->k≠no->(v.set no (MO.lst (c.map ia++[.int (x:Nat)])))[k]?=s[k]?:=λk L B O=>by rw[ag (bX O)];exact b6 k L B O
   generalize v.set no (MO.lst (c.map ia++[.int (x:Nat)]))=v1 at *;have o:(v1.set s.length (MO.lst (q.map ia)))[s.length+1]?=some (.lst (h.map ia++[.int (gl:Nat)])):=by rw[ag kk];exact u
   simp![↓fk d3,↓nN d3,↓fk o,↓nN o,List.getLast?_concat,List.dropLast_concat];rw[hg]at J;have J2:=J.fin;refine up1 ⟨c++[x],q,h,_,_,rfl,J2,λy hy=>?_,?_,?_,?_,aw (by rw[cL];exact ij u),(d5.put (by ext)).put (by ext),λk L B O=>?_⟩ ?_
   ·exact Hw.mem_iff.mp (hin y hy)
   ·rw[ag (bX l),ag (bX eP),I,XT λi=>Hw.mem_iff]
   ·rw[ag (bX nG),ag (bX nP)];exact d2
   ·rw[ag (bX kk),aw (ij d3)]
   ·rw[ag (by ext),ag (by ext)];exact d6 k L B O
   ·rw[ag (bX nG),ag (bX nP),d2,aw (by rw[cL];exact ij u),b2,b4];dsimp only;rw[Cu,Cu];have B:=J2.prg_le g.few;have O:xZ E (c++[x]) h=xZ E c (h++[gl])+1:=by unfold xZ;simp only[aE,bj,kU,aO,mY,gL,p_,bC,iK];ext
    ext
  ·rw[aB (by ext)];have hgl:gl < (E x).length:=by ext
   obtain⟨p,hp⟩:∃p,(E x)[gl]?=some p:=⟨_,ai hgl⟩
   have Y:p.2 < n:=g.wf x U p (az hp);have qe:∀(Q:D->aX->Prop)s,wp (cJ ((E x).map BL) ((gl:Nat):Int)) Q s=Q (.tup [.int (p.1:Nat),.int (p.2:Nat)]) s:=λQ s=>qJ (by rw[ak,hp];rfl);have ixG:MM.mC (h.map ia++[D.int (gl:Nat)]).length (-1)=some h.length:=by rw[aE,ae];exact RX
   simp![↓Qk,↓Us,↓qg,↓qi,↓fk gr,↓qG,↓Kw,↓qe,↓nN b4,ixG];have G:(h.map ia++[D.int (gl:Nat)]).set h.length (.int ((gl:Nat)+1))=(h++[gl+1]).map ia:=by
    rw[bj];have:h.length=(h.map ia).length:=by rw[ae]
    rw[this,Xp];rfl
   rw[G];have I:(v.set (s.length+1) (MO.lst ((h++[gl+1]).map ia)))[dr]?=some (.lst (seen n (c++(q++[x])))):=by rw[ag (bX l)];exact b1
   have d2:(v.set (s.length+1) (MO.lst ((h++[gl+1]).map ia)))[no]?=some (.lst (c.map ia)):=by rw[ag (bX nG)];exact b2
   have d3:(v.set (s.length+1) (MO.lst ((h++[gl+1]).map ia)))[s.length]?=some (.lst ((q++[x]).map ia)):=by rw[ag (bX kk)];exact b3
   have u:(v.set (s.length+1) (MO.lst ((h++[gl+1]).map ia)))[s.length+1]?=some (.lst ((h++[gl+1]).map ia)):=aw (ij b4);have d5:dX s0 (v.set (s.length+1) (MO.lst ((h++[gl+1]).map ia))):=b5.put (by ext);have d6:∀k,k < s.length->k≠dr->k≠no->(v.set (s.length+1) (MO.lst ((h++[gl+1]).map ia)))[k]?=s[k]?:=λk L B O=>by rw[ag (by ext)];exact b6 k L B O
   have mu:∀H:List Nat,H.sum=gl+1+h.sum->xZ E c H=xZ E c (h++[gl])+1:=λH hH=>by unfold xZ;rw[hH];simp only[kU,gL,p_];ext
   generalize v.set (s.length+1) (MO.lst ((h++[gl+1]).map ia))=v1 at *;have q2:∀(Q:D->aX->Prop)s,wp (cJ (seen n (c++(q++[x]))) ((p.2:Nat):Int)) Q s=Q (.bl (decide (p.2∈c++(q++[x])))) s:=λQ s=>Ia Y;simp![↓fk I,↓q2];by_cases hm:p.2∈c++(q++[x])
   ·rw[bV hm];simp![eZ,aY,if_false];refine up1 ⟨c,q++[x],h++[gl+1],_,_,rfl,J.old hp hm,hin,I,d2,d3,u,d5,d6⟩ ?_;rw[d2,u,b2,b4];dsimp only;rw[Cu,Cu];have B:=(J.old hp hm).prg_le g.few;have:=mu (h++[gl+1]) (by simp only[kU,gL,p_];ext);ext
   ·rw[aT hm];have G:MM.mC (seen n (c++(q++[x]))).length ((p.2:Nat):Int)=some p.2:=by unfold seen;rw[mh];exact GG Y
    simp![kf,if_true,↓fk I,G,↓nN I,JZ Y];have f1:(v1.set dr (MO.lst (seen n (c++(q++[x])++[p.2]))))[dr]?=some (.lst (seen n (c++(q++[x]++[p.2])))):=by rw[aw (ij I),bF]
    have f2:(v1.set dr (MO.lst (seen n (c++(q++[x])++[p.2]))))[no]?=some (.lst (c.map ia)):=by rw[ag hne];exact d2
    have U:(v1.set dr (MO.lst (seen n (c++(q++[x])++[p.2]))))[s.length]?=some (.lst ((q++[x]).map ia)):=by rw[ag eP];exact d3
    have H:(v1.set dr (MO.lst (seen n (c++(q++[x])++[p.2]))))[s.length+1]?=some (.lst ((h++[gl+1]).map ia)):=by rw[ag l];exact u
    have f5:dX s0 (v1.set dr (MO.lst (seen n (c++(q++[x])++[p.2])))):=d5.put l1;have f6:∀k,k < s.length->k≠dr->k≠no->(v1.set dr (MO.lst (seen n (c++(q++[x])++[p.2]))))[k]?=s[k]?:=λk L B O=>by rw[ag (bX B)];exact d6 k L B O
    generalize v1.set dr (MO.lst (seen n (c++(q++[x])++[p.2])))=v2 at *;have E:∀o,(v2.set s.length o)[s.length+1]?=some (.lst ((h++[gl+1]).map ia)):=λo=>by rw[ag kk];exact H
    have r3:∀o Q,wp (getL (s.length+1)) Q (v2.set s.length o)=Q ((h++[gl+1]).map ia) (v2.set s.length o):=λo Q=>fk (E o);have r4:∀o es Q,wp (putL (s.length+1) es) Q (v2.set s.length o)=Q () ((v2.set s.length o).set (s.length+1) (.lst es)):=λo es Q=>nN (E o);simp![↓fk U,↓nN U,↓r3,↓r4];have J2:=J.new hp hm Y;have v:(q++[x]).length<=400:=by rw[aE]at C ⊢;simp at C ⊢;ext
    have hl3:(h++[gl+1]).length<=400:=by rw[aE]at v ⊢;simp at v ⊢;ext
    have eP2:(q++[x]).map ia++[D.int (p.2:Nat)]=(q++[x]++[p.2]).map ia:=by rw[bj (l₂:=[p.2])];rfl
    have eG3:(h++[gl+1]).map ia++[D.int 0]=(h++[gl+1]++[0]).map ia:=by rw[bj (l₂:=[0])];rfl
    rw[eP2,eG3];refine⟨qp (by rw[ae];ext),qp (by rw[ae];ext),up1 ⟨c,q++[x]++[p.2],h++[gl+1]++[0],_,_,rfl,J2,λy hy=>?_,?_,?_,?_,aw (by rw[cL];exact ij H),(f5.put (by ext)).put (by ext),λk L B O=>?_⟩ ?_⟩
    ·have:=hin y hy;rw[<- bF];exact cB _ this
    ·rw[ag (bX l),ag (bX eP)];exact f1
    ·rw[ag (bX nG),ag (bX nP)];exact f2
    ·rw[ag (bX kk),aw (ij U)]
    ·rw[ag (by ext),ag (by ext)];exact f6 k L B O
    ·rw[ag (bX nG),ag (bX nP),f2,aw (by rw[cL];exact ij H),b2,b4];dsimp only;rw[Cu,Cu];have B:=J2.prg_le g.few;have:=mu (h++[gl+1]++[0]) (by simp only[kU,gL,p_];ext);ext
end
open PySem (Str)
section
variable{s u s0:aX}{Q:D->aX->Prop}{l:Loc}{E:Nat->List (Nat×Nat)}{n ns dr no root:Nat}{F P G:List Nat}
theorem OB:(bw n λ_=>D.bl false)=seen n []:=by unfold seen;congr 1
theorem Tt:kY 0 n=bw n λk=>.int (k:Nat):=by unfold kY bw;exact dO λk _=>by rw[Int.zero_add]
theorem R3(g:wn n E ns s)(hn:n<=400)(hq:∀F r u,DI n E F [] []->(∀x,x < n->x∈F)->u[r]?=some (.lst (F.map ia))->s.length<=r->dX s u->Q (.ref r) u):wp (jm [.ref ns]) Q s:=by
 obtain⟨rs,h,c,h3⟩:=id g.at_;have q0:∀o Q,wp (getL ns) Q (s++[o])=Q (rs.map .ref) (s++[o]):=λo Q=>fk (ot h);have w:∀o(A:List D->aX->Prop),wp (collect (aS 0) bR (aN (.bl false)) (kB ns (rs.map D.ref)) (rs.map D.ref) [none]) A (s++[o])=A (seen n []) (s++[o]):=λo A=>by rw[Bh (f:=λ_=>.bl false) (show kB ns _ _ from ot h) (λk d hd Q=>by simp![]),ae,c,OB]
 have c1:n<=fv:=g8 (by ext)
 (simp![jm];simp![jK,bY,↓q0,gK,↓w,ae,c,c1])
 have q1:∀o o' Q,wp (getL ns) Q (s++[o]++[o'])=Q (rs.map .ref) (s++[o]++[o']):=λo o' Q=>fk (ot (ot h));rw[q1];have en:((rs.map D.ref).length:Int).toNat=n:=by rw[ae,c];simp
 refine⟨by rw[ae,c];exact⟨by ext,by ext⟩,?_⟩;rw[en,Tt];have G:(s++[MO.lst []]).length=s.length+1:=by simp
 rw[G];have a1:(s++[MO.lst []]++[MO.lst (seen n [])])[s.length+1]?=some (.lst (seen n [])):=by rw[<- G];exact oF
 have a2:(s++[MO.lst []]++[MO.lst (seen n [])])[s.length]?=some (.lst (([]:List Nat).map ia)):=ot oF;have a3:dX s (s++[MO.lst []]++[MO.lst (seen n [])]):=((dX.refl _).snoc _).snoc _;generalize s++[MO.lst []]++[MO.lst (seen n [])]=s1 at *;refine MG (λi l v=>∃(F:List Nat)(L:Option D),l=[some (.ref ns),some (.ref s.length),some (.ref (s.length+1)),L]/\DI n E F [] []/\(∀x,x < i->x∈F)/\v[s.length+1]?=some (.lst (seen n F))/\v[s.length]?=some (.lst (F.map ia))/\dX s v) (λ_ _ _ _=>tN)
  ⟨[],_,rfl,DI.nil,λx O=>bq O (by ext),a1,a2,a3⟩ (λi l v Y U=>?_) (λl v U=>?_)
 ·obtain⟨F,L,el,J,B,I,H,C⟩:=U;subst el;have l:∀(Q:D->aX->Prop)s,wp (cJ (seen n F) ((i:Nat):Int)) Q s=Q (.bl (decide (i∈F))) s:=λQ s=>Ia Y;simp![↓fk I,↓l];by_cases q:i∈F
  ·rw[bV q];simp![eZ,aY,if_false];refine⟨F,_,rfl,J,λx O=>?_,I,H,C⟩;by_cases e:x=i
   ·subst e;exact q
   ·exact B x (by ext)
  ·rw[aT q];simp![kf,if_true];refine V5 g C I H (by ext) (ay _) (by ext) J Y q hn λE u v h c c1 c2 o G=>?_;simp![];refine⟨E,_,rfl,v,λx O=>?_,c1,c2,o⟩;by_cases e:x=i
   ·subst e;exact c
   ·exact h x (B x (by ext))
 ·obtain⟨F,L,el,J,B,I,H,C⟩:=U;subst el;simp![];exact hq F _ v J B H (ay _) C
end
open PySem (Str)
section
variable{s u s0:aX}{Q:D->aX->Prop}{l:Loc}{E:Nat->List (Nat×Nat)}{n ns no nd lo:Nat}{h:Hs}{ys:List Sd}{rs:List D}
def eF(h:Hs)(ys:List Sd)(i:Nat):List (Nat×Nat):=match ys[i]? with
 |some x=>(fK h x).map λk=>(k,ys.idxOf (ib h x k))
 |none=>[]
theorem Nb:∀{rs:List D},(∀d∈rs,∃r,d=.ref r)->∃c:List Nat,rs=c.map .ref
 |[],_=>⟨[],rfl⟩
 |d::rs,hh=>by obtain⟨r,rfl⟩:=hh d (by simp);obtain⟨c,rfl⟩:=Nb (rs:=rs) λd hd=>hh d (by simp[hd]);exact⟨r::c,rfl⟩
theorem TJ(hh:iG h)(L:u[ns]?=some (.lst rs))(G:rs.length=ys.length)(B:GV h lo no nd ns ys rs u):wn ys.length (eF h ys) ns u:=by
 obtain⟨C,rfl⟩:=Nb (rs:=rs) λd hd=>by obtain⟨j,J⟩:=aL.mp hd;obtain⟨r,_,e,_⟩:=B j d J;exact⟨r,e⟩
 rw[ae]at G;have at_:∀(i r:Nat),C[i]?=some r->∃x,ys[i]?=some x/\u[r]?=some (.lst (row h x (fK h x) ys))/\∀k∈fK h x,ib h x k∈ys:=λi r g=>by obtain⟨O,x,e,_,_,_,_,c,v,q⟩:=B i (.ref r) (by rw[ak,g];rfl);cases e;exact⟨x,c,v,q⟩
 refine⟨⟨C,L,G,λi r g=>?_⟩,λi H p o=>?_,λi H=>?_⟩
 ·obtain⟨x,c,v,_⟩:=at_ i r g;rw[v];unfold eF row;rw[c,e8];rfl
 ·obtain⟨x,c,_,q⟩:=at_ i _ (ai (by ext));unfold eF at o;rw[c]at o;obtain⟨k,I,rfl⟩:=cz.mp o;exact ck.mpr (q k I)
 ·unfold eF;rw[ai H];dsimp only;rw[ae];exact Dx hh
theorem Om{i:Nat}(st:rL h i):(dR h i).length=i:=by
 have c:=st.2;refine Ar c ?_;rcases Nat.eq_zero_or_pos i with e|e
 ·ext
 ·have o:=st.1 (i-1) (by ext);have g:=M7 (h:=h) (i:=i-1) (j:=i) (by ext);ext
end
open PySem (Str)
def i0(R:List Sd)(f:Sd->D):List (D×D):=R.map λx=>(cA x,f x)
noncomputable def uA(f:Sd->D)(x:Sd)(v:D):Sd->D:=λy=>if y=x then v else f y
theorem zX{R:List Sd}{f:Sd->D}{x:Sd}:m9 (i0 R f) (cA x)=if x∈R then some (f x) else none:=by
 unfold m9 i0
 induction R with
 |nil=>rfl
 |cons y R ih=>
  rw[aO,cM];dsimp only;rw[CY];by_cases e:y=x
  ·subst e;rw[bV rfl,aD cE];rfl
  ·rw[aT e];dsimp only;rw[ih];by_cases c:x∈R
   ·rw[aD c,aD (bD _ c)]
   ·rw[aB c,aB λh=>c ((bn.mp h).resolve_left (bX e))]
theorem EL{R:List Sd}{f:Sd->D}{x:Sd}{v:D}:lN (i0 R f) (cA x) v=i0 (if x∈R then R else R++[x]) (uA f x v):=by
 have g:((i0 R f).any λp=>oV p.1 (cA x))=decide (x∈R):=by
  unfold i0;rw[List.any_map];apply zE.mpr;rw[yu,decide_eq_true_iff];constructor
  ·rintro ⟨y,c,e⟩
   have e:decide (y=x)=true:=by rw[<- CY];exact e
   rw[<- of_decide_eq_true e];exact c
  ·intro h;exact⟨x,h,by show oV (cA x) (cA x)=true;rw[CY,bV rfl]⟩
 unfold lN;rw[g];by_cases h:x∈R
 ·rw[aD (bV h),aD h];unfold i0;rw[e8];apply dO;intro y c
  show (if oV (cA y) (cA x)=true then (cA y,v) else (cA y,f y))=_;rw[CY];unfold uA;by_cases e:y=x
  ·rw[aD (bV e),aD e]
  ·rw[aB (by rw[aT e];simp),aB e]
 ·rw[aB (by rw[aT h];simp),aB h];unfold i0;rw[bj];congr 1
  ·apply dO;intro y c;unfold uA;rw[aB (λe:y=x=>h (by rw[<- e];exact c))]
  ·show [(cA x,v)]=[(cA x,uA f x v x)]
   unfold uA;rw[aD rfl]
theorem F9{ys:List Sd}{x:Sd}{i k:Nat}(l:ys.Nodup)(h:ys[i]?=some x)(o:x∈ys.take k):i < k:=by
 obtain⟨j,g⟩:=aL.mp o;have c:j < k:=by have:=(ac.mp g).1;rw[aZ]at this;ext
 rw[bO c]at g;have:=(eD (ac.mp h).1 l).mp (h.trans g.symm);ext
theorem Bp{R:List Sd}{f:Sd->D}:(i0 R f).length=R.length:=by unfold i0;rw[ae]
section
variable{s u:aX}{Q:D->aX->Prop}{l:Loc}{h:Hs}{ys zs:List Sd}
theorem Mg(hh:iG h):∀(m:Nat),sW h m->∀(j:Nat)(x:Sd),j < m->(dR h m)[j]?=some x->∀k∈fK h x,ib h x k∈dR h m
 |0,_,j,x,v,_,k,_=>by ext
 |m+1,go,j,x,v,hx,k,hk=>by
  obtain⟨t,B⟩:=GP (h:=h) m;have o:=go m (by ext);have g:(dR h m)[m]?=some (dR h m)[m]:=ai o;have C:dR h (m+1)=o7 h (dR h m)[m] (fK h (dR h m)[m]) (dR h m):=by
   show (match (dR h m)[m]? with
    |some x=>o7 h x (fK h x) (dR h m)
    |none=>dR h m)=_
   rw[g]
  have q:j < (dR h m).length:=by ext
  have c:(dR h m)[j]?=some x:=by rw[B,av q]at hx;exact hx
  by_cases e:j=m
  ·subst e;have:x=(dR h j)[j]:=aG (c.symm.trans g);subst this;rw[C];exact G0 hk
  ·rw[B];exact cB _ (Mg hh m (λj v=>go j (by ext)) j x (by ext) c k hk)
theorem Lo{i:Nat}(hh:iG h)(st:rL h i){x:Sd}(g:x∈dR h i){k:Nat}(o:k∈fK h x):ib h x k∈dR h i:=by obtain⟨j,c⟩:=aL.mp g;have:=(ac.mp c).1;have:=Om st;exact Mg hh i st.1 j x (by ext) c k o
def Ad(h:Hs)(x:Sd):List D:=(fK h x).map λk=>.tup [.int (k:Nat),cA (ib h x k)]
def IE(h:Hs)(lo:Nat)(zs:List Sd)(g:Nat)(u:aX):Prop:=∃c:Sd->Nat,u[g]?=some (.dct true (i0 zs λx=>.ref (c x)))/\∀x∈zs,lo<=c x/\c x≠g/\u[c x]?=some (.lst (Ad h x))
theorem R0{B:Nat}(hh:iG h)(J:s[B]?=some (.lst (ys.map cA)))(nd:ys.Nodup)(ok:∀x∈ys,km h x)(hl:ys.length<=324)
  (hq:∀u,IE h s.length ys s.length u->dX s u->Q (.dic s.length) u):wp (jx [gX h,.ref B]) Q s:=by
 have l2:2<=fv:=g8 (by ext);have ly:=ij J;have q0:∀Q,wp (getL B) Q (s++[MO.dct true []])=Q (ys.map cA) (s++[MO.dct true []]):=λQ=>fk (ot J)
 (simp![jx];simp![j1,↓q0])
 refine tP (λi l v=>∃(E:Option D),l=[some (gX h),some (.ref B),some (.dic s.length),E]/\IE h s.length (ys.take i) s.length v/\dX s v) (λ_ _ _ w=>by obtain⟨_,_,_,e⟩:=w;exact e.at_ J)
  ⟨_,rfl,⟨λ_=>0,oF,by simp⟩,(dX.refl _).snoc _⟩ (λRw1 i d l v up1 rt1 hd I=>?_) (λl v I=>?_)
 ·obtain⟨E,el,N,ex⟩:=I;subst el;rw[ak]at hd;cases o:ys[i]? with
  |none=>rw[o]at hd;cases hd
  |some x=>
   rw[o]at hd;cases hd;have u:=ok x (az o);obtain⟨U,g1,g2⟩:=N;have O:ys.take (i+1)=ys.take i++[x]:=by rw[dG,o];rfl
   have H:x∉ys.take i:=λz=>by have:=F9 nd o z;ext
   simp![];refine Lu hh u λr v1 hr B L=>?_;have lv:s.length < v.length:=ij g1;have f3:(fK h x).length<=3:=Dx hh;have q1:∀Q,wp (getL r) Q v1=Q ((fK h x).map λk=>.int (k:Nat)) v1:=λQ=>fk B;simp![↓q1,gK,ae];refine⟨g8 (by ext),?_⟩;refine GW (λj c v2=>c=((fK h x).take j).map (λk=>.tup [.int (k:Nat),cA (ib h x k)])/\dX v1 v2) (λj c v2 w=>w.2.at_ B) ⟨rfl,dX.refl _⟩ (λj d c v2 hd w=>?_) (λc v2 w=>?_)
   ·obtain⟨rfl,q⟩:=w;rw[ak]at hd;cases C:(fK h x)[j]? with
    |none=>rw[C]at hd;cases hd
    |some k=>
     rw[C]at hd;cases hd;simp![];refine OK hh u (AS (az C)) λc g=>?_;simp![l2];refine⟨?_,q.trans g⟩;rw[dG,C,bj];rfl
   ·obtain⟨rfl,q⟩:=w;rw[ae,cN];have g:dX v (v2++[MO.lst (Ad h x)]):=(L.trans q).snoc _;have J:=g.at_ g1;have o:v.length<=v2.length:=(L.trans q).le;have C:(v2++[MO.lst (Ad h x)])[v2.length]?=some (.lst (Ad h x)):=oF;have c:∀w Q,wp (storeK s.length (cA x) w) Q (v2++[MO.lst (Ad h x)])=Q () ((v2++[MO.lst (Ad h x)]).set s.length (.dct true (i0 (ys.take i++[x]) (uA (λx=>.ref (U x)) x w)))):=λw Q=>by rw[CV J (so x) (qp (by rw[Bp,aZ];ext)),EL,aB H]
    show wp _ _ (v2++[MO.lst (Ad h x)]);simp![↓c];refine up1 ⟨_,rfl,⟨λy=>if y=x then v2.length else U y,?_,λy l=>?_⟩,(ex.trans g).put (ay _)⟩
    ·rw[aw (ij J),O];congr 2;unfold i0 uA;refine dO λy _=>?_;dsimp only;split<;>rfl
    ·dsimp only;rw[O]at l;by_cases e:y=x
     ·subst e;rw[aD rfl];exact⟨by ext,by ext,by rw[ag (by ext)];exact C⟩
     ·rw[aB e];have G:y∈ys.take i:=by
       rcases aV.mp l with z|z
       ·exact z
       ·exact bq (aI.mp z) e
      obtain⟨B,Y,u⟩:=g2 y G;exact⟨B,Y,by rw[ag (bX Y)];exact g.at_ u⟩
 ·obtain⟨E,el,N,ex⟩:=I;subst el;rw[ae,cN]at N;simp![];exact hq v N ex
end
open PySem (Str)
section
variable{S:Sd->Sd->Prop}{x y z:Sd}{row:List Sd}{h:Hs}{ys:List Sd}
inductive TS(S:Sd->Sd->Prop):Sd->Sd->Prop
 |one {x y:Sd} (h:S x y):TS S x y
 |more {x y z:Sd} (h:S x y) (r:TS S y z):TS S x z
theorem TS.snoc(a:TS S x y)(b:S y z):TS S x z:=by
 induction a with
 |one h=>exact .more h (.one b)
 |more h _ ih=>exact .more h (ih b)
def Rk(S:Sd->Sd->Prop)(row:List Sd):Prop:=∀(i:Nat)z,row[i]?=some z->∀y,S z y->y∈row.take i
theorem Wv(q:Rk S row):∀{x y:Sd},TS S x y->∀m:Nat,row[m]?=some x->∃l:Nat,l < m/\row[l]?=some y:=by
 intro x y a
 induction a with
 |@one x y h=>
  intro m o;obtain⟨j,g⟩:=aL.mp (q m x o y h);have c:j < m:=by have:=(ac.mp g).1;rw[aZ]at this;ext
  rw[bO c]at g;exact⟨j,c,g⟩
 |@more x y z h _ ih=>
  intro m o;obtain⟨j,g⟩:=aL.mp (q m x o y h);have c:j < m:=by have:=(ac.mp g).1;rw[aZ]at this;ext
  rw[bO c]at g;obtain⟨l,v,u⟩:=ih j g;exact⟨l,by ext,u⟩
theorem Sf(g:Rk S row)(hz:z∈row):¬ TS S z z:=λa=>by
 have key:∀m:Nat,row[m]?=some z->False:=by
  intro m
  induction m using Nat.strongRecOn with
  |ind m ih=>
   intro c;obtain⟨l,q,o⟩:=Wv g a m c;exact ih l q o
 obtain⟨m,c⟩:=aL.mp hz;exact key m c
def y_(h:Hs)(x y:Sd):Prop:=∃k∈fK h x,ib h x k=y
theorem Gi{i k j:Nat}(c:ys[i]?=some x):(k,j)∈eF h ys i↔k∈fK h x/\ys.idxOf (ib h x k)=j:=by
 unfold eF;rw[c];dsimp only;rw[cz];constructor
 ·rintro ⟨k',hk,e⟩
  cases e;exact⟨hk,rfl⟩
 ·rintro ⟨hk,e⟩
  exact⟨k,hk,by rw[e]⟩
theorem xU(c:y∈ys):ys[ys.idxOf y]?=some y:=by have:=ck.mpr c;rw[ai this,List.getElem_idxOf this]
theorem Dq(cl:∀x∈ys,∀k∈fK h x,ib h x k∈ys){i j:Nat}(a:Rc (eF h ys) i j):∀{x y:Sd},ys[i]?=some x->ys[j]?=some y->x=y\/TS (y_ h) x y:=by
 induction a with
 |refl=>intro x y g c;rw[g]at c;cases c;exact .inl rfl
 |@step i j p hp _ ih=>
  intro x y g c;obtain⟨k,t⟩:=p;obtain⟨l,e⟩:=(Gi g).mp hp;have o:=cl x (az g) k l;have q:ys[t]?=some (ib h x k):=by rw[<- e];exact xU o
  rcases ih q c with z|z
  ·exact .inr (.one ⟨k,l,z⟩)
  ·exact .inr (.more ⟨k,l,rfl⟩ z)
end
section
variable{ys R:List Sd}{N:Sd->List (Nat×Sd)}{x y z:Sd}
noncomputable def tK(N:Sd->List (Nat×Sd))(R:List Sd)(z:Sd):Nat:=((N z).filter λp=>decide (p.2∉R)).length
theorem Ru(h:tK N R z=0):∀p∈N z,p.2∈R:=λp c=>qB λg=>by have:p∈(N z).filter λp=>decide (p.2∉R):=iI.mpr ⟨c,bV g⟩;rw[mQ.mp h]at this;cases this
noncomputable def F5(N:Sd->List (Nat×Sd))(x z:Sd):Nat:=((N z).filter λp=>decide (p.2=x)).length
theorem Lg(g:x∉R):tK N R z=tK N (R++[x]) z+F5 N x z:=by
 unfold tK F5;generalize N z=l
 induction l with
 |nil=>rfl
 |cons p l ih=>
  by_cases e:p.2=x
  ·have c:p.2∉R:=by rw[e];exact g
   have h:¬ p.2∉R++[x]:=by rw[e];simp
   rw[iY (by simpa using c),gA (by simpa using h),iY (by simpa using e)];simp only[bC];ext
  ·by_cases c:p.2∈R
   ·rw[gA (by simpa using c),gA (by simp[c]),gA (by simpa using e)];exact ih
   ·rw[iY (by simpa using c),iY (by simp[c,e]),gA (by simpa using e)];simp only[bC];ext
noncomputable def oE(ys:List Sd)(N:Sd->List (Nat×Sd))(x:Sd):List Sd:=ys.flatMap λz=>((N z).filter λp=>decide (p.2=x)).map λ_=>z
theorem M_(g:ys.Nodup):(oE ys N x).count z=if z∈ys then F5 N x z else 0:=by
 unfold oE
 induction ys with
 |nil=>rfl
 |cons y ys ih=>
  rw[eK]at g;rw[md,qc,ih g.2];have h:∀(l:List (Nat×Sd)),(l.map λ_=>y).count z=if z=y then l.length else 0:=λl=>by
   induction l with
   |nil=>simp
   |cons p l ihl=>
    rw[aO,List.count_cons,ihl];by_cases e:z=y
    ·subst e;simp
    ·have:(y == z)=false:=by simp;exact λq=>e q.symm
     simp[e,this]
  rw[h];by_cases e:z=y
  ·subst e;rw[aD rfl,aB g.1,aD (by simp)];rfl
  ·rw[aB e];by_cases c:z∈ys
   ·rw[aD c,aD (by simp[c]),uZ]
   ·rw[aB c,aB (by simp[c,e])]
end
open PySem (Str)
section
variable{s u:aX}{Q:D->aX->Prop}{l:Loc}{ys zs:List Sd}{N:Sd->List (Nat×Sd)}{F:Sd->D}{nd:Nat}
theorem Mb{a:CE}{I:Wk->aX->Prop}: wp (vU a l) I s=wp (a l) (λx g=>match x with
  | .dic n=>wp (getDc n) (λp c=>p.1=true/\I ⟨p.2.map (·.1),vg n (p.2.map (·.1))⟩ c) g
  |_=>False) s:=by
 unfold vU;rw[d0];congr 1;funext x s1;cases x<;>first|exact iy|(dsimp only;rw[d0];congr 1;funext p c;rw[eY,cR])
theorem UD{a:CE}{I:Wk->aX->Prop}: wp (qI a l) I s=wp (a l) (λx g=>match x with
  | .dic n=>wp (getDc n) (λp c=>p.1=true/\I ⟨p.2.map λq=>.tup [q.1,q.2],λs=>s[n]?=some (.dct true p.2)⟩ c) g
  |_=>False) s:=by
 unfold qI;rw[d0];congr 1;funext x s1;cases x<;>first|exact iy|(dsimp only;rw[d0];congr 1;funext p c;rw[eY,cR])
theorem Ga:(i0 ys F).map (·.1)=ys.map cA:=by unfold i0;rw[e8];rfl
theorem Lk:∀{ws zs:List Sd},(zs++ws).Nodup->xW (i0 zs F) (ws.map λx=>(cA x,F x))=i0 (zs++ws) F
 |[],zs,_=>by rw[br];rfl
 |w::ws,zs,hn=>by
  have g:w∉zs:=λz=>by rw[cP]at hn;exact hn.2.2 w z w (by simp) rfl
  have e:lN (i0 zs F) (cA w) (F w)=i0 (zs++[w]) F:=by
   rw[EL,aB g];congr 1;funext y;unfold uA;split
   ·rename_i h;rw[h]
   ·rfl
  have c:(zs++[w]++ws).Nodup:=by rw[bF];exact hn
  have:=Lk (ws:=ws) (zs:=zs++[w]) c;rw[bF]at this
  show xW (lN (i0 zs F) (cA w) (F w)) (ws.map λx=>(cA x,F x))=_;rw[e,this];rfl
theorem N2:∀ws:List Sd,sP (ws.map λx=>D.tup [cA x,F x])=some (ws.map λx=>(cA x,F x))
 |[]=>rfl
 |w::ws=>by rw[aO,sP,N2 ws];unfold G3;dsimp only;rw[aD (so w)];rfl
theorem Sm(c:ys.Nodup)(g:ys.length<=1000):wp (m8 (ys.map λx=>D.tup [cA x,F x])) Q s=Q (.dic s.length) (s++[.dct true (i0 ys F)]):=by unfold m8;rw[N2];dsimp only;have e:xW [] (ys.map λx=>(cA x,F x))=i0 ys F:=Lk (zs:=[]) c;rw[eY,e,ae];have:wp (uJ true (i0 ys F)) Q s=Q (.dic s.length) (s++[.dct true (i0 ys F)]):=dg rfl;rw[this];exact propext ⟨λz=>z.2,λz=>⟨g,z⟩⟩
theorem X6{A:List D->aX->Prop}(B:ys.Nodup)(g:s[nd]?=some (.dct true (i0 ys F)))(q:A (ys.map λx=>D.tup [cA x,.ref (s.length+ys.idxOf x)]) (s++aP ys.length (MO.lst []))):
  wp (collect (aS 0) bR (dU (ax (am 0) (ax (dZ (fU bu)) bu))) (vg nd (ys.map cA)) (ys.map cA) [none]) A s:=by
 have o:2<=fv:=g8 (by ext);refine GW (λi c v=>v=s++aP i (MO.lst [])/\c=(ys.take i).map λx=>D.tup [cA x,.ref (s.length+ys.idxOf x)]) (λi c v w=>?_) ⟨by simp,rfl⟩ (λi d c v hd w=>?_) (λc v w=>?_)
 ·rw[w.1];exact⟨i0 ys F,by rw[av (ij g)];exact g,Ga⟩
 ·obtain⟨rfl,rfl⟩:=w;rw[ak]at hd;cases h:ys[i]? with
  |none=>rw[h]at hd;cases hd
  |some x=>
   rw[h]at hd;cases hd;simp![bY,o];refine⟨by rw[bF,<- List.replicate_succ',dN],?_⟩;have E:ys.idxOf x=i:=by have:=xU (az h);have C:=ck.mpr (az h);exact (eD C B).mp (this.trans h.symm)
   rw[dG,h,bj,aE,eU]
   show _=_++[D.tup [cA x,.ref (s.length+ys.idxOf x)]]
   rw[E]
 ·obtain⟨rfl,rfl⟩:=w;rw[ae,cN];exact q
end
open PySem (Str)
section
variable{s u:aX}{Q:D->aX->Prop}{R:sk->aX->Prop}{l:Loc}{ys zs:List Sd}{N:Sd->List (Nat×Sd)}{nd nb nl bs:Nat}{x y:Sd}
def nD(p:Nat×Sd):D:=.tup [.int (p.1:Nat),cA p.2]
def GN(ys:List Sd)(N:Sd->List (Nat×Sd))(nd:Nat)(u:aX):Prop:=∃c:Sd->Nat,u[nd]?=some (.dct true (i0 ys λx=>.ref (c x)))/\∀x∈ys,u[c x]?=some (.lst ((N x).map nD))
def BN(ys:List Sd)(B:Sd->List Sd)(bs nb:Nat)(u:aX):Prop:=u[nb]?=some (.dct true (i0 ys λx=>.ref (bs+ys.idxOf x)))/\∀y∈ys,u[bs+ys.idxOf y]?=some (.lst ((B y).map cA))
def wS(zs:List Sd)(N:Sd->List (Nat×Sd))(x:Sd)(q:Nat)(y:Sd):List Sd:=oE zs N y++(((N x).take q).filter λp=>decide (p.2=y)).map λ_=>x
theorem LK{q:Nat}{p:Nat×Sd}(c:(N x)[q]?=some p):wS zs N x (q+1) y=wS zs N x q y++(if p.2=y then [x] else []):=by
 unfold wS;rw[dG,c]
 show oE zs N y++sJ _ (List.filter _ ((N x).take q++[p]))=_;rw[iP,bj,<- bF];congr 1;by_cases e:p.2=y
 ·simp[e]
 ·simp[e]
theorem QJ:wS zs N x (N x).length y=oE (zs++[x]) N y:=by unfold wS oE;rw[cN,wk];simp
theorem Xs(o:x∈ys)(g:y∈ys)(h:x≠y):ys.idxOf x≠ys.idxOf y:=λe=>by have c:=xU o;have q:=xU g;rw[e,q]at c;exact h (aG c).symm
noncomputable def mw(ys:List Sd)(N:Sd->List (Nat×Sd)):Nat:=(ys.map λx=>(N x).length).sum
theorem Mi(y:Sd):∀zs:List Sd,(oE zs N y).length<=mw zs N
 |[]=>by simp[oE,mw]
 |z::zs=>by have c:=Mi y zs;unfold oE mw at c ⊢;rw[md,aE,ae,aO,gL];have:=kF (λp:Nat×Sd=>decide (p.2=y)) (N z);ext
theorem OU:mw (zs++[x]) N=mw zs N+(N x).length:=by unfold mw;simp
theorem Qa{i:Nat}:∀{ys:List Sd},mw (ys.take i) N<=mw ys N:=by
 intro ys;have:ys=ys.take i++ys.drop i:=(List.take_append_drop i ys).symm;have c:mw ys N=mw (ys.take i) N+mw (ys.drop i) N:=by
  conv=>lhs;rw[this]
  unfold mw;rw[bj,kU]
 ext
theorem Ug{r:Nat}{I H g c:Option D}(hx:x∈ys)(cl:∀p∈N x,p.2∈ys)(ht:mw zs N+(N x).length<=1000)(hnb:bs+ys.length<=nb)(gr:s[r]?=some (.lst ((N x).map nD)))(hr:r < bs)(Y:dX s u)(hb0:s.length<=bs)(B:BN ys (oE zs N) bs nb u)
  (hq:∀g c v,BN ys (oE (zs++[x]) N) bs nb v->dX s v->(∀k,(k < bs\/nb < k)->v[k]?=u[k]?)->R (.next [I,some (.dic nb),H,some (cA x),some (.ref r),g,c,none,none]) v):
  wp (nQ (iq 2 (cW (aS 5) (cW (aS 6) iD))) (aQ (iF (dJ (c2 aR (am 1) (am 6)) (am 3))) ba) (kB r ((N x).map nD)) ((N x).map nD) [I,some (.dic nb),H,some (cA x),some (.ref r),g,c,none,none]) R u:=by
 refine tP (λq l v=>∃(g c:Option D),l=[I,some (.dic nb),H,some (cA x),some (.ref r),g,c,none,none]/\BN ys (wS zs N x q) bs nb v/\dX s v/\∀k,(k < bs\/nb < k)->v[k]?=u[k]?) (λ_ _ _ w=>by obtain⟨_,_,_,_,e,_⟩:=w;exact e.at_ gr)
  ⟨_,_,rfl,by have e:wS zs N x 0=oE zs N:=by { funext y;unfold wS;simp };rw[e];exact B,Y,λ_ _=>rfl⟩ (λRw1 q d l v up1 rt1 hd G=>?_) (λl v G=>?_)
 ·obtain⟨g,c,el,⟨U,o⟩,C,E⟩:=G;subst el;rw[ak]at hd;cases ep:(N x)[q]? with
  |none=>rw[ep]at hd;cases hd
  |some p=>
   rw[ep]at hd;cases hd;have h:=cl p (az ep);have H:=ck.mpr h;have l:∀Q,wp (itemK nb (cA p.2)) Q v=Q (.ref (bs+ys.idxOf p.2)) v:=λQ=>yT U (so _) (by rw[zX,aD h]);unfold nD;simp![↓l,↓fk (o p.2 h),↓nN (o p.2 h)];have u:=(ac.mp ep).1;have O:(wS zs N x q p.2).length < 1000:=by unfold wS;rw[aE,ae];have J:=Mi (N:=N) p.2 zs;have I:=kF (λt:Nat×Sd=>decide (t.2=p.2)) ((N x).take q);rw[aZ]at I;ext
   refine⟨qp (by rw[ae];ext),up1 ⟨_,_,rfl,⟨by rw[ag (by ext)];exact U,λy L=>?_⟩,C.put (by ext),λk B=>by rw[ag (by ext)];exact E k B⟩⟩;by_cases e:p.2=y
   ·subst e;rw[aw (ij (o p.2 h)),LK ep,aD rfl,bj];rfl
   ·rw[ag (by have:=Xs h L e;ext),LK ep,aB e,br];exact o y L
 ·obtain⟨g,c,el,J,C,E⟩:=G;subst el;rw[ae]at J;have e:wS zs N x (N x).length=oE (zs++[x]) N:=funext λy=>QJ;rw[e]at J;exact hq _ _ v J C E
end
open PySem (Str)
section
variable{s u:aX}{Q:D->aX->Prop}{R:sk->aX->Prop}{l:Loc}{ys zs:List Sd}{N:Sd->List (Nat×Sd)}{nd nb nl bs:Nat}{x y:Sd}
theorem Q6:(bG ys.length).map (λi=>ys[i]?)=ys.map some:=by
 apply fA;intro k;rw[ak,ak];by_cases c:k < ys.length
 ·rw[gp c,ai c];simp[c]
 ·rw[bT (by simp;ext),bT (l:=ys) (by ext)];rfl
theorem U9{P:Sd->Bool}:((bG ys.length).filter λi=>(ys[i]?.map P).getD false).map (λi=>(ys[i]?.map cA).getD .non)=(ys.filter P).map cA:=by
 have e:((bG ys.length).filter λi=>(ys[i]?.map P).getD false).map (λi=>(ys[i]?.map cA).getD .non)=(((bG ys.length).map (λi=>ys[i]?)).filter λo=>(o.map P).getD false).map λo=>(o.map cA).getD .non:=by rw[zN,e8];rfl
 rw[e,Q6,zN,e8];rfl
theorem CP:∀{R U:List Sd},R.Nodup->(∀x∈R,x∈U)->R.length<=U.length
 |[],_,_,_=>bY _
 |x::R,U,hn,h=>by rw[eK]at hn;have g:=h x (by simp);have:=CP (R:=R) (U:=U.erase x) hn.2 λy c=>(List.mem_erase_of_ne (λe:y=x=>hn.1 (by rw[<- e];exact c))).mpr (h y (by simp[c]));rw[tH g]at this;have:=ur g;simp only[bC];ext
structure KI(ys:List Sd)(N:Sd->List (Nat×Sd))(R:List Sd)(t:Nat)(L:Sd->Nat):Prop where
 nd:R.Nodup
 inn:∀z∈R,z∈ys
 lft:∀z∈ys,L z=tK N (R.take t) z
 zer:∀z∈ys,(L z=0↔z∈R)
 rk:∀(i:Nat)(z:Sd),R[i]?=some z->∀p∈N z,p.2∈R.take i
structure KQ(ys:List Sd)(N:Sd->List (Nat×Sd))(R:List Sd)(t:Nat)(x:Sd)(q:Nat)(A:List Sd)(L:Sd->Nat):Prop where
 nd:(R++A).Nodup
 inn:∀z∈R++A,z∈ys
 lft:∀z∈ys,L z+((oE ys N x).take q).count z=tK N (R.take t) z
 zer:∀z∈ys,(L z=0↔z∈R++A)
 new:∀z∈A,∀p∈N z,p.2∈R.take (t+1)
theorem KI.go{R:List Sd}{t:Nat}{L:Sd->Nat}(K:KI ys N R t L):KQ ys N R t x 0 [] L:=
 ⟨by rw[br];exact K.nd,by rw[br];exact K.inn,λz hz=>by rw[K.lft z hz];simp,λz hz=>by rw[br];exact K.zer z hz,by simp⟩
theorem KQ.end_{R A:List Sd}{t:Nat}{L:Sd->Nat}(G:ys.Nodup)(E:∀(i:Nat)(z:Sd),R[i]?=some z->∀p∈N z,p.2∈R.take i)(v:R[t]?=some x)(K:KQ ys N R t x (oE ys N x).length A L):KI ys N (R++A) (t+1) L:=by
 have I:=(ac.mp v).1;have C:(R++A).take (t+1)=R.take t++[x]:=by rw[gE (by ext),dG,v];rfl
 have o:R.Nodup:=(cP.mp K.nd).1;have q:x∉R.take t:=λz=>by have:=F9 o v z;ext
 refine⟨K.nd,K.inn,λz hz=>?_,K.zer,λi z c p B=>?_⟩
 ·have g:=K.lft z hz;rw[cN,M_ G,aD hz,Lg q]at g;rw[C];ext
 ·by_cases h:i < R.length
  ·rw[av h]at c;rw[gE (by ext)];exact E i z c p B
  ·rw[aM (by ext)]at c;have g:=K.new z (az c) p B;have H:R.take (t+1)=(R++A).take (t+1):=by rw[gE (by ext)]
   rw[H]at g;exact (List.take_subset_take_left _ (by ext)) g
theorem KQ.step{R A:List Sd}{t q:Nat}{L:Sd->Nat}{z:Sd}(O:ys.Nodup)(G:R[t]?=some x)(K:KQ ys N R t x q A L)(hz:(oE ys N x)[q]?=some z)(g:z∈ys):
  1<=L z/\KQ ys N R t x (q+1) (if L z-1=0 then A++[z] else A) (λy=>if y=z then L z-1 else L y):=by
 have Q:=(ac.mp G).1;have C:R.Nodup:=(cP.mp K.nd).1;have E:x∉R.take t:=λy=>by have:=F9 C G y;ext
 have H:(oE ys N x).take (q+1)=(oE ys N x).take q++[z]:=by rw[dG,hz];rfl
 have cl:((oE ys N x).take (q+1)).count z<=F5 N x z:=by have J:=M_ (N:=N) (x:=x) (z:=z) O;rw[aD g]at J;rw[<- J];exact List.Sublist.count_le z (pV _ _)
 have c1:((oE ys N x).take (q+1)).count z=((oE ys N x).take q).count z+1:=by rw[H,qc];simp
 have l:=Lg (N:=N) (z:=z) E;have u:=K.lft z g;have Y:1<=L z:=by ext
 have o:z∉R++A:=λy=>by have:=(K.zer z g).mpr y;ext
 have mem:∀y,(y∈R++(if L z-1=0 then A++[z] else A))↔(y∈R++A\/(L z-1=0/\y=z)):=λy=>by
  split
  ·rename_i e;rw[<- bF,aV,aI];simp[e]
  ·rename_i e;simp[e]
 refine⟨Y,?_,λy c=>?_,λy c=>?_,λy c=>?_,λy c p v=>?_⟩
 ·split
  ·rw[<- bF,cP];exact⟨K.nd,by simp,λa U b I e=>by rw[aI]at I;subst I e;exact o U⟩
  ·exact K.nd
 ·rcases (mem y).mp c with h|⟨_,rfl⟩
  ·exact K.inn y h
  ·exact g
 ·by_cases e:y=z
  ·subst e;rw[aD rfl,c1];ext
  ·rw[aB e,H,qc];have:[z].count y=0:=by rw[List.count_eq_zero];simp;exact e
   rw[this];exact K.lft y c
 ·rw[mem y];by_cases e:y=z
  ·subst e;rw[aD rfl];exact⟨λh=>.inr ⟨h,rfl⟩,λh=>h.elim (λw=>bq w o) λw=>w.1⟩
  ·rw[aB e,K.zer y c];exact⟨.inl,λh=>h.elim id λw=>bq w.2 e⟩
 ·by_cases e:L z-1=0
  ·rw[aD e]at c;rcases aV.mp c with h|h
   ·exact K.new y h p v
   ·rw[aI.mp h]at v;have B:R.take (t+1)=R.take t++[x]:=by rw[dG,G];rfl
    rw[B];exact Ru (by ext) p v
  ·rw[aB e]at c;exact K.new y c p v
theorem QY{i k:Nat}{o:MO}(c:k < i):(s++aP i o)[s.length+k]?=some o:=by rw[aM (by ext),show s.length+k-s.length=k by ext,fw,aD c]
theorem Ta(hn:ys.Nodup)(hl:ys.length<=324)(cl:∀x∈ys,∀p∈N x,p.2∈ys)(ht:mw ys N<=1000)(g:GN ys N nd s)
  (hq:∀(row:List Sd)(r:Nat)(u:aX),row.Nodup->(∀(i:Nat)(z:Sd),row[i]?=some z->∀p∈N z,p.2∈row.take i)->(∀z∈row,z∈ys)->(∀z∈ys,(∀p∈N z,p.2∈row)->z∈row)->u[r]?=some (.lst (row.map cA))->s.length<=r->dX s u->Q (.ref r) u):wp (jj [.dic nd]) Q s:=by
 obtain⟨rF,Y,g2⟩:=g;have lnd:=ij Y
 (simp![jj];simp![jM,↓Mb,↓wu Y,gK,Ga,ae])
 refine⟨g8 (by ext),?_⟩;refine X6 hn Y ?_;rw[Sm hn (by ext)];simp![];have e1:(s++aP ys.length (MO.lst [])).length=s.length+ys.length:=by simp
 have e2:(s++aP ys.length (MO.lst [])++[MO.dct true (i0 ys λx=>D.ref (s.length+ys.idxOf x))]).length=s.length+ys.length+1:=by simp;ext
 rw[e1,e2];have a1:(s++aP ys.length (MO.lst [])++[MO.dct true (i0 ys λx=>D.ref (s.length+ys.idxOf x))]++[MO.dct true []])[s.length+ys.length+1]?=some (.dct true (i0 (ys.take 0) λx=>.int ((N x).length:Nat))):=by rw[<- e2];exact oF
 have a2:BN ys (oE (ys.take 0) N) s.length (s.length+ys.length) (s++aP ys.length (MO.lst [])++[MO.dct true (i0 ys λx=>D.ref (s.length+ys.idxOf x))]++[MO.dct true []]):=
  ⟨ot (by rw[<- e1];exact oF),λy c=>ot (ot (QY (ck.mpr c)))⟩
 have a3:dX s (s++aP ys.length (MO.lst [])++[MO.dct true (i0 ys λx=>D.ref (s.length+ys.idxOf x))]++[MO.dct true []]):=⟨aP ys.length (MO.lst [])++[MO.dct true (i0 ys λx=>D.ref (s.length+ys.idxOf x))]++[MO.dct true []],by simp⟩
 generalize s++aP ys.length (MO.lst [])++[MO.dct true (i0 ys λx=>D.ref (s.length+ys.idxOf x))]++[MO.dct true []]=s1 at *;simp![↓UD,↓wu (a3.at_ Y)];refine tP (λi l v=>∃(h O H E:Option D),l=[some (.dic nd),some (.dic (s.length+ys.length)),some (.dic (s.length+ys.length+1)),h,O,H,E,none,none]/\v[s.length+ys.length+1]?=some (.dct true (i0 (ys.take i) λx=>.int ((N x).length:Nat)))/\BN ys (oE (ys.take i) N) s.length (s.length+ys.length) v/\dX s v) (λ_ _ _ w=>by obtain⟨_,_,_,_,_,_,_,e⟩:=w;exact e.at_ Y)
  ⟨_,_,_,_,rfl,a1,a2,a3⟩ (λRr i d l v up rt hd C=>?_) (λl v C=>?_)
 ·obtain⟨h,O,H,E,el,b1,b2,b3⟩:=C;subst el;unfold i0 at hd;rw[e8,ak]at hd;cases o:ys[i]? with
  |none=>rw[o]at hd;cases hd
  |some x=>
   rw[o]at hd;have U:d=D.tup [cA x,.ref (rF x)]:=(aG hd).symm;subst U;have I:=az o;have l:ys.take (i+1)=ys.take i++[x]:=by rw[dG,o];rfl
   have q:x∉ys.take i:=λz=>by have:=F9 hn o z;ext
   have g:=g2 x I;have J:=ij g;have hi:=(ac.mp o).1;have G:∀w Q,wp (storeK (s.length+ys.length+1) (cA x) w) Q v=Q () (v.set (s.length+ys.length+1) (.dct true (i0 (ys.take i++[x]) (uA (λx=>.int ((N x).length:Nat)) x w)))):=λw Q=>by rw[CV b1 (so x) (qp (by rw[Bp,aZ];ext)),EL,aB q]
   simp![↓fk (b3.at_ g),↓G,ae];have es:uA (λx=>D.int ((N x).length:Nat)) x (.int ((N x).length:Nat))=λx=>.int ((N x).length:Nat):=by
    funext y;unfold uA;split
    ·rename_i z;rw[z]
    ·rfl
   rw[es];have c1:(v.set (s.length+ys.length+1) (MO.dct true (i0 (ys.take i++[x]) λx=>.int ((N x).length:Nat))))[s.length+ys.length+1]?=some (.dct true (i0 (ys.take i++[x]) λx=>.int ((N x).length:Nat))):=aw (ij b1);have c2:BN ys (oE (ys.take i) N) s.length (s.length+ys.length) (v.set (s.length+ys.length+1) (MO.dct true (i0 (ys.take i++[x]) λx=>.int ((N x).length:Nat)))):=
    ⟨by rw[ag (by ext)];exact b2.1,λy c=>by rw[ag (by have:=ck.mpr c;ext)];exact b2.2 y c⟩
   have u:dX s (v.set (s.length+ys.length+1) (MO.dct true (i0 (ys.take i++[x]) λx=>.int ((N x).length:Nat)))):=b3.put (by ext);generalize v.set (s.length+ys.length+1) (MO.dct true (i0 (ys.take i++[x]) λx=>.int ((N x).length:Nat)))=v1 at *;rw[fk (u.at_ g)];have t1:mw (ys.take i) N+(N x).length<=1000:=by have:=Qa (N:=N) (i:=i+1) (ys:=ys);rw[l,OU]at this;ext
   refine Ug I (cl x I) t1 (ay _) g J u (ay _) c2 λH E v2 Y B L=>?_;simp![];refine up ⟨_,_,_,_,rfl,?_,by rw[l];exact Y,B⟩;rw[L _ (.inr (by ext)),l];exact c1
 ·obtain⟨h,O,H,E,el,b1,b2,b3⟩:=C;subst el;have en:((i0 ys λx=>D.ref (rF x)).map λq=>D.tup [q.1,q.2]).length=ys.length:=by rw[ae,Bp]
  rw[en,cN]at b1 b2;simp![↓Mb,↓wu (b3.at_ Y),gK,Ga,ae];refine⟨g8 (by ext),?_⟩;have u:∀(A:List D->aX->Prop),wp (collect (aS 0) (db (c2 nY (c2 aR (am 1) (am 0)) (aN (D.int 0)))) (am 0) (vg nd (ys.map cA)) (ys.map cA) [none,some (.dic (s.length+ys.length+1))]) A v=A ((ys.filter λx=>decide ((N x).length=0)).map cA) v:=λA=>by
   rw[OI (p:=λi=>(ys[i]?.map λx=>decide ((N x).length=0)).getD false) (f:=λi=>(ys[i]?.map cA).getD .non) (λl=>∃y,l=[y,some (.dic (s.length+ys.length+1))]) ⟨_,b3.at_ Y,Ga⟩ ⟨_,rfl⟩ (λi d l hd hI=>?_),ae,U9];obtain⟨y,rfl⟩:=hI;rw[ak]at hd;cases o:ys[i]? with
   |none=>rw[o]at hd;cases hd
   |some x=>
    rw[o]at hd;cases hd;have q6:∀Q,wp (itemK (s.length+ys.length+1) (cA x)) Q v=Q (.int ((N x).length:Nat)) v:=λQ=>yT b1 (so x) (by rw[zX,aD (az o)]);refine⟨[some (cA x),some (.dic (s.length+ys.length+1))],λG=>by simp![],⟨_,rfl⟩,λT=>?_,λQ=>by simp![cI,f_]⟩;simp![↓q6,cI,f_];have eb:(((N x).length:Int) == 0)=decide ((N x).length=0):=by
     by_cases e:(N x).length=0
     ·rw[e];rfl
     ·rw[aT e,beq_eq_false_iff_ne];ext
    rw[eb]
  rw[u];simp![];have lv:=ij b1;have w1:(v++[MO.lst ((ys.filter λx=>decide ((N x).length=0)).map cA)])[v.length]?=some (.lst ((ys.filter λx=>decide ((N x).length=0)).map cA)):=oF;have w2:=ot (b:=MO.lst ((ys.filter λx=>decide ((N x).length=0)).map cA)) b1;have w3:BN ys (oE ys N) s.length (s.length+ys.length) (v++[MO.lst ((ys.filter λx=>decide ((N x).length=0)).map cA)]):=⟨ot b2.1,λy c=>ot (b2.2 y c)⟩
  have w4:dX s (v++[MO.lst ((ys.filter λx=>decide ((N x).length=0)).map cA)]):=b3.snoc _;have K0:KI ys N (ys.filter λx=>decide ((N x).length=0)) 0 (λx=>(N x).length):=by
   refine⟨hn.filter _,λz hz=>(iI.mp hz).1,λz _=>?_,λz hz=>?_,λi z hi p hp=>?_⟩
   ·unfold tK;rw[List.filter_eq_self.mpr λp _=>by simp]
   ·rw[iI];simp[hz]
   ·have:=of_decide_eq_true (iI.mp (az hi)).2;rw[mQ.mp this]at hp;cases hp
  generalize hnr:v.length=nr at *;generalize v++[MO.lst ((ys.filter λx=>decide ((N x).length=0)).map cA)]=v1 at *;refine EJ (λl v=>∃(R:List Sd)(t:Nat)(L:Sd->Nat)(h O H E:Option D),l=[some (.dic nd),some (.dic (s.length+ys.length)),some (.dic (s.length+ys.length+1)),h,O,H,E,some (.ref nr),some (.int (t:Nat))]/\KI ys N R t L/\v[nr]?=some (.lst (R.map cA))/\v[s.length+ys.length+1]?=some (.dct true (i0 ys λx=>.int (L x:Nat)))/\BN ys (oE ys N) s.length (s.length+ys.length) v/\dX s v)
   (λ(l:Loc)(_:aX)=>match (l[8]?:Option (Option D)) with
    |some (some (D.int i))=>(1000-i).toNat
    |_=>0) ⟨_,0,_,_,_,_,_,rfl,K0,w1,w2,w3,w4⟩ (λRw l v upw rtw C=>?_)
  obtain⟨R,t,L,h,O,H,E,el,K,d1,d2,d3,d4⟩:=C;subst el;have hR:R.length<=324:=bZ (CP K.nd K.inn) hl;simp![↓fk d1,ae];by_cases ht':t < R.length
  ·rw[aD (by ext)];obtain⟨x,I⟩:∃x,R[t]?=some x:=⟨_,ai ht'⟩
   have U:=K.inn x (az I);have r2:∀(Q:D->aX->Prop)s,wp (cJ (R.map cA) ((t:Nat):Int)) Q s=Q (cA x) s:=λQ s=>qJ (by rw[ak,I];rfl);have r3:∀Q,wp (itemK (s.length+ys.length) (cA x)) Q v=Q (.ref (s.length+ys.idxOf x)) v:=λQ=>yT d3.1 (so x) (by rw[zX,aD U]);simp![↓fk d1,↓r2,↓r3,↓fk (d3.2 x U)];refine tP (λq l v=>∃(A:List Sd)(L:Sd->Nat)(h:Option D),l=[some (.dic nd),some (.dic (s.length+ys.length)),some (.dic (s.length+ys.length+1)),h,O,H,E,some (.ref nr),some (.int (t:Nat))]/\KQ ys N R t x q A L/\v[nr]?=some (.lst ((R++A).map cA))/\v[s.length+ys.length+1]?=some (.dct true (i0 ys λx=>.int (L x:Nat)))/\BN ys (oE ys N) s.length (s.length+ys.length) v/\dX s v) (λ_ _ _ w=>by obtain⟨_,_,_,_,_,_,_,e,_⟩:=w;exact e.2 x U)
    ⟨[],L,_,rfl,K.go,by rw[br];exact d1,d2,d3,d4⟩ (λRr q d l v up rt hd C=>?_) (λl v C=>?_)
   ·obtain⟨A,L,h,el,J,f1,o,G,f4⟩:=C;subst el;rw[ak]at hd;cases Y:(oE ys N x)[q]? with
    |none=>rw[Y]at hd;cases hd
    |some z=>
     rw[Y]at hd;cases hd;have B:z∈ys:=by have:=az Y;unfold oE at this;obtain⟨w,hw,hm⟩:=yv.mp this;obtain⟨_,_,rfl⟩:=cz.mp hm;exact hw
     obtain⟨hL,l⟩:=J.step hn I Y B;have hRA:(R++A).length<=324:=bZ (CP J.nd J.inn) hl;have t1:∀Q,wp (itemK (s.length+ys.length+1) (cA z)) Q v=Q (.int (L z:Nat)) v:=λQ=>yT o (so z) (by rw[zX,aD B]);have t2:∀w Q,wp (storeK (s.length+ys.length+1) (cA z) w) Q v=Q () (v.set (s.length+ys.length+1) (.dct true (i0 ys (uA (λx=>.int (L x:Nat)) z w)))):=λw Q=>by rw[CV o (so z) (qp (by rw[Bp];ext)),EL,aD B]
     simp![↓t1,↓t2];have es:uA (λx=>D.int (L x:Nat)) z (.int ((L z:Nat)-1))=λy=>D.int ((if y=z then L z-1 else L y:Nat):Int):=by
      funext y;unfold uA;split
      ·congr 1;ext
      ·rfl
     rw[es];have H:(v.set (s.length+ys.length+1) (MO.dct true (i0 ys λy=>D.int ((if y=z then L z-1 else L y:Nat):Int))))[s.length+ys.length+1]?=some (.dct true (i0 ys λy=>D.int ((if y=z then L z-1 else L y:Nat):Int))):=aw (ij o);have g:s.length+ys.length+1≠nr:=by ext
     have u:(v.set (s.length+ys.length+1) (MO.dct true (i0 ys λy=>D.int ((if y=z then L z-1 else L y:Nat):Int))))[nr]?=some (.lst ((R++A).map cA)):=by rw[ag g];exact f1
     have E:BN ys (oE ys N) s.length (s.length+ys.length) (v.set (s.length+ys.length+1) (MO.dct true (i0 ys λy=>D.int ((if y=z then L z-1 else L y:Nat):Int)))):=
      ⟨by rw[ag (by ext)];exact G.1,λy c=>by rw[ag (by have:=ck.mpr c;ext)];exact G.2 y c⟩
     have O:dX s (v.set (s.length+ys.length+1) (MO.dct true (i0 ys λy=>D.int ((if y=z then L z-1 else L y:Nat):Int)))):=f4.put (by ext);generalize v.set (s.length+ys.length+1) (MO.dct true (i0 ys λy=>D.int ((if y=z then L z-1 else L y:Nat):Int)))=v2 at *;have t3:∀Q,wp (itemK (s.length+ys.length+1) (cA z)) Q v2=Q (.int ((L z-1:Nat):Int)) v2:=λQ=>yT H (so z) (by rw[zX,aD B,aD rfl]);simp![↓t3];by_cases U:L z-1=0
     ·rw[aD U]at l;rw[aD (by ext)];simp![↓fk u,↓nN u,ae];refine⟨qp (by ext),up ⟨A++[z],_,_,rfl,l,?_,by rw[ag (bX g)];exact H,⟨by rw[ag (by ext)];exact E.1,λy c=>by rw[ag (by have:=ck.mpr c;ext)];exact E.2 y c⟩,O.put (by ext)⟩⟩;rw[aw (ij u),<- bF,bj (l₂:=[z])];rfl
     ·rw[aB U]at l;rw[aB (by ext)];exact up ⟨A,_,_,rfl,l,u,H,E,O⟩
   ·obtain⟨A,L,h,el,J,f1,o,G,f4⟩:=C;subst el;rw[ae]at J;simp![];refine upw ⟨R++A,t+1,L,_,_,_,_,rfl,J.end_ hn K.rk I,f1,o,G,f4⟩ ?_
    show (1000-((t:Int)+1)).toNat < (1000-(t:Int)).toNat;ext
  ·rw[aB (by ext)];exact hq R nr v K.nd K.rk K.inn (λz hz hp=>(K.zer z hz).mp (by rw[K.lft z hz,m5 (by ext)];unfold tK;rw[List.filter_eq_nil_iff.mpr λp c=>by simpa using hp p c];rfl)) d1 (by ext) d4
end
open PySem (Str)
theorem Ew{f g:Nat->Nat}:∀{n:Nat},(∀i,i < n->f i=g i)->mx f n=mx g n
 |0,_=>rfl
 |n+1,h=>by unfold mx;rw[Ew λi c=>h i (by ext),h n (by ext)]
def rl{α:Type}(v N:α->Nat)(L:List α):Nat:=mx (λi=>((L[i]?).map λx=>v x+N x).getD 0) L.length
theorem G5{α:Type}{v c N l:α->Nat}{L:List α}(h:∀x∈L,v x=c x/\N x=l x):rl v N L=rl c l L:=Ew λi g=>by
 rw[ai g]
 show v L[i]+N L[i]=c L[i]+l L[i];rw[(h _ (bA g)).1,(h _ (bA g)).2]
theorem MD{α β:Type}{v N:β->Nat}{g:α->β}{L:List α}:rl v N (L.map g)=rl (λx=>v (g x)) (λx=>N (g x)) L:=by unfold rl;rw[ae];exact Ew λi c=>by rw[ak,ai c];rfl
theorem Vz{α:Type}{m:M α}{s c:aX}{d:α}(h:∀Q:α->aX->Prop,wp m Q s=Q d c):m s=.ok d c:=by
 have:=h λa t=>a=d/\t=c;have w:wp m (λa t=>a=d/\t=c) s:=by rw[this];exact⟨rfl,rfl⟩
 cases w with
 |intro a t e q=>rw[e,q.1,q.2]
theorem Ig{v:aX}{i:Nat}:(fM 0 v)[i]?=(v[i]?).map m7:=by unfold fM;rw[List.take_zero,sG,nt,ak]
theorem Q4{v:aX}{i:Nat}{ds:List D}(h:v[i]?=some (.lst ds)):(fM 0 v)[i]?=some (.lst ds):=by rw[Ig,h];rfl
theorem VW{v:aX}:(fM 0 v).mapIdx (qY v)=v:=by
 apply fA;intro i;rw[vw,Ig];cases e:v[i]? with
 |none=>rfl
 |some o=>
  show some (qY v i (m7 o))=some o;unfold qY;rw[e];cases o<;>rfl
theorem Xz{g:List D->M D}{l ds:List D}{r:D}{v:aX}(h:∀Q:D->aX->Prop,wp (g (ds++l)) Q (fM 0 v)=Q r (fM 0 v)):oo g l ds v=.ok r v:=by unfold oo;rw[Vz h];refine (aD λi o e c=>?_).trans (by rw[VW]);rw[Ig,e];show some (m7 o)=_;unfold m7;rw[aD c]
theorem SN{g:List D->M D}{c:kz}{l ds:List D}{s:aX}{Q:D->aX->Prop}(h:wp (g (ds++[.fn s.length])) (λr u=>dX s u/\s.length < u.length/\Q r (fM s.length u)) (s++[.clo c l])):wp (callC g c l ds) Q s:=by
 cases h with
 |intro r u e q=>
  obtain⟨C,B,v⟩:=q;refine⟨r,fM s.length u,?_,v⟩;unfold callC;rw[e];refine aD ⟨B,λm o=>.inl ?_⟩;rw[ai o];exact C.at_ (ai o)
theorem UK{s u:aX}(h:dX s u):dX s (fM s.length u):=by obtain⟨t,rfl⟩:=h;exact⟨t.map m7,by unfold fM;rw[List.take_left,List.drop_left]⟩
theorem RD{u:aX}{n i:Nat}{ds:List D}(h:u[i]?=some (.lst ds)):(fM n u)[i]?=some (.lst ds):=by
 unfold fM;by_cases g:i < n
 ·have c:=(ac.mp h).1;rw[av (by rw[aZ];ext),bO g];exact h
 ·have c:=(ac.mp h).1;rw[aM (by rw[aZ];ext),aZ,nI (by ext),ak,wF,show n+(i-n)=i by ext,h];rfl
section
variable{s u s0:aX}{Q:D->aX->Prop}{l:Loc}{E:Nat->List (Nat×Nat)}{n ns nf no:Nat}{F:List Nat}
theorem UM{c:CA}{d:D}:wp (sy c (aN d) l) Q s=wp (c l) (λds g=>wp (if ds.length=0 then ret d else mz ds) Q g) s:=by unfold sy;rw[d0];refine nj λds h=>?_;rw[d0];exact dg rfl
theorem Ho{f:Nat->Nat}{k:Nat}:wp (if (bw k λi=>D.int (f i:Nat)).length=0 then ret (.int 0) else mz (bw k λi=>D.int (f i:Nat))) Q s=Q (.int (mx f k:Nat)) s:=by
 rw[mh];by_cases h:k=0
 ·subst h;rw[aD rfl,cR];rfl
 ·rw[aB h,Fs (by ext)]
theorem UU{f:CE}{a:CA}:wp (pB rH f a l) Q s=wp (f l) (λd c=>wp (a l) (λds g=>wp (qU rH d ds) Q g) c) s:=by unfold pB;rw[d0];congr 1;funext d c;rw[d0]
theorem QO{o:List D}{a b r:D}(g:s[nf]?=some (.clo (.dfn mK) o))(h:∀Q:D->aX->Prop,wp (oQ ([a,b]++o)) Q (fM 0 s)=Q r (fM 0 s)):wp (qU rH (.fn nf) [a,b]) Q s=Q r s:=by
 refine dg ?_
 show (match s[nf]? with|some (.lam e)=>ua rH.1 e [a,b] s|some (.clo c o)=>qD rH.2 c o [a,b] s|_=>.bad)=_;rw[g]
 show qD [(.dfn mK,⟨2,2,oQ⟩)] (.dfn mK) o [a,b] s=_;unfold qD;rw[aD rfl]
 show chk (2=2) (oo oQ o [a,b]) s=_;unfold chk;rw[aD rfl];exact Xz h
theorem Ij{v:aX}{k i:Nat}{ds:List D}{x:D}{R:Unit->aX->Prop}(g:v[k]?=some (.lst ds))(c:i < ds.length):wp (iT (.ref k) (.int ((i:Nat):Int)) x) R v=R () (v.set k (.lst (ds.set i x))):=by rw[qR,fk g,GG c];exact nN g
noncomputable def J5(E:Nat->List (Nat×Nat))(F:List Nat):Prop:=∀(i x:Nat),F[i]?=some x->∀p∈E x,p.2∈F.take i
theorem WJ{Y:List D}{wt:Nat->Nat->Nat}(g:wn n E ns s)(hn:n<=400)(go:s[no]?=some (.lst (F.map ia)))(nd:F.Nodup)(lt:∀x∈F,x < n)(al:∀x,x < n->x∈F)(H:J5 E F)(gl:s[nf]?=some (.clo (.dfn mK) Y))(hw:∀v x p,x < n->p∈E x->dX s v->∀Q:D->aX->Prop,wp (oQ ([.int (x:Nat),.int (p.1:Nat)]++Y)) Q (fM 0 v)=Q (.int (wt x p.1:Nat)) (fM 0 v))
  (hq:∀(N:Nat->Nat)(u:aX),(∀x,x < n->N x=rl (λp=>wt x p.1) (λp=>N p.2) (E x))->u[s.length]?=some (.lst (bw n λi=>.int (N i:Nat)))->dX s u->Q (.ref s.length) u):wp (ji [.ref ns,.ref no,.fn nf]) Q s:=by
 obtain⟨rs,h1,h2,h3⟩:=id g.at_;have c1:n<=fv:=g8 (by ext);have w:∀(A:List D->aX->Prop),wp (collect (aS 0) bR (aN (.int 0)) (kB ns (rs.map D.ref)) (rs.map D.ref) [none]) A s=A (bw n λ_=>.int 0) s:=λA=>by rw[Bh (f:=λ_=>.int 0) (show kB ns _ _ from h1) (λk d hd Q=>by simp![]),ae,h2]
 (simp![ji];simp![j0,↓fk h1,gK,↓w,ae,h2,c1])
 have a1:(s++[MO.lst (bw n λ_=>D.int 0)])[s.length]?=some (.lst (bw n λi=>.int ((λ_=>0:Nat->Nat) i:Nat))):=oF;have a3:dX s (s++[MO.lst (bw n λ_=>D.int 0)]):=(dX.refl _).snoc _;generalize s++[MO.lst (bw n λ_=>D.int 0)]=s1 at *;rw[fk (a3.at_ go)];refine tP (λi l v=>∃(N:Nat->Nat)(L:Option D),l=[some (.ref ns),some (.ref no),some (.fn nf),some (.ref s.length),L]/\(∀x∈F.take i,N x=rl (λp=>wt x p.1) (λp=>N p.2) (E x))/\v[s.length]?=some (.lst (bw n λi=>.int (N i:Nat)))/\dX s v) (λ_ _ _ w=>by obtain⟨_,_,_,_,_,e⟩:=w;exact e.at_ go)
  ⟨λ_=>0,_,rfl,by simp,a1,a3⟩ (λR i d l v up rt hd U=>?_) (λl v U=>?_)
 ·obtain⟨N,L,el,J,I,C⟩:=U;subst el;rw[ak]at hd;cases ex:F[i]? with
  |none=>rw[ex]at hd;cases hd
  |some x=>
   rw[ex]at hd;have ed:d=.int (x:Nat):=(aG hd).symm;subst ed;have h:=lt x (az ex);obtain⟨Y,r,k1,k2,l,k4⟩:=(g.ext C).row h;have u:F.take (i+1)=F.take i++[x]:=by rw[dG,ex];rfl
   have O:x∉F.take i:=λz=>by
    obtain⟨j,o⟩:=aL.mp z;have c:j < i:=by have:=(ac.mp o).1;rw[aZ]at this;ext
    rw[bO c]at o;exact bq ((eD (ac.mp o).1 nd).mp (o.trans ex.symm)) (bz c)
   have few:=g.few x h;have cc:∀(A:List D->aX->Prop),wp (collect (iq 2 (cW (aS 0) (cW (aS 1) iD))) bR (c2 fG (pB rH (am 2) (ax (am 4) (ax (am 0) bu))) (c2 aR (am 3) (am 1))) (kB r ((E x).map BL)) ((E x).map BL) [none,none,some (.fn nf),some (.ref s.length),some (.int (x:Nat))]) A v=A (bw (E x).length λi=>D.int ((((E x)[i]?.map λp=>wt x p.1+N p.2).getD 0:Nat):Int)) v:=λA=>by
    rw[Gr (caps:=[some (.fn nf),some (.ref s.length),some (.int (x:Nat))]) (f:=λi=>D.int ((((E x)[i]?.map λp=>wt x p.1+N p.2).getD 0:Nat):Int)) l (λj d hd=>?_),ae];rw[ak]at hd;cases ep:(E x)[j]? with
    |none=>rw[ep]at hd;cases hd
    |some p=>
     rw[ep]at hd;have G:=g.wf x h p (az ep);refine⟨_,_,(aG hd).symm,λQ=>?_⟩;have q3:∀(Q:D->aX->Prop)s,wp (cJ (bw n λi=>D.int (N i:Nat)) ((p.2:Nat):Int)) Q s=Q (.int (N p.2:Nat)) s:=λQ s=>yW G;have q4:∀Q,wp (qU rH (.fn nf) [.int (x:Nat),.int (p.1:Nat)]) Q v=Q (.int (wt x p.1:Nat)) v:=λQ=>QO (C.at_ gl) (hw v x p h (az ep) C);simp![↓UU,↓q4,↓fk I,↓q3,cI,f_];rw[show ((wt x p.1:Int)+(N p.2:Int))=((wt x p.1+N p.2:Nat):Int) by ext]
   have cl:(E x).length<=fv:=g8 (by ext);have mm:=λQ=>@Ho v Q (λi=>((E x)[i]?.map λp=>wt x p.1+N p.2).getD 0) (E x).length;have ln:s.length < v.length:=ij I;have gs:∀y R,wp (iT (.ref s.length) (.int ((x:Nat):Int)) y) R v=R () (v.set s.length (.lst ((bw n λi=>D.int (N i:Nat)).set x y))):=λy R=>Ij I (by rw[mh];exact h);simp![↓UM,↓k1,↓k2,↓fk l,gK,↓cc,ae,cl,↓mm,↓gs];refine up ⟨λy=>if y=x then rl (λp=>wt x p.1) (λp=>N p.2) (E x) else N y,_,rfl,λy B=>?_,?_,C.put (ay _)⟩
   ·have same:∀z,(∀p∈E z,p.2∈F.take i)->rl (λp=>wt z p.1) (λp:Nat×Nat=>if p.2=x then rl (λp=>wt x p.1) (λp=>N p.2) (E x) else N p.2) (E z)=rl (λp=>wt z p.1) (λp=>N p.2) (E z):=λz hz=>G5 λp G=>⟨rfl,aB λ(q:p.2=x)=>O (by rw[<- q];exact hz p G)⟩
    rw[u]at B;dsimp only;by_cases e:y=x
    ·subst e;rw[aD rfl,same y (H i y ex)]
    ·rw[aB e];rcases aV.mp B with B|B
     ·obtain⟨j,o⟩:=aL.mp B;have c:j < i:=by have:=(ac.mp o).1;rw[aZ]at this;ext
      rw[bO c]at o;rw[same y λp G=>fq (by rw[As,nI (fH c)];exact H j y o p G),J y B]
     ·exact bq (aI.mp B) e
   ·rw[aw ln,NG h];congr 3;funext j;dsimp only;by_cases e:j=x
    ·subst e;rw[aD rfl,aD rfl];rfl
    ·rw[aB e,aB e]
 ·obtain⟨N,L,el,J,I,C⟩:=U;subst el;simp![];rw[ae,cN]at J;exact hq N v (λx h=>J x (al x h)) I C
noncomputable def Xj(E:Nat->List (Nat×Nat))(x:Nat):Prop:=∃p∈E x,Rc E p.2 x
theorem QZ(g:wn n E ns s)(hn:n<=400)(h1:∀F r u,F.Nodup->(∀x∈F,x < n)->(∀x,x < n->x∈F)->J5 E F->u[r]?=some (.lst (F.map ia))->s.length<=r->dX s u->Q (.ref r) u)
  (h2:∀x u,x < n->Xj E x->dX s u->Q .non u):wp (jf [.ref ns]) Q s:=by
 (simp![jf];simp![jJ])
 refine R3 g hn λF no c I al go lo O=>?_;have g1:=g.ext O;obtain⟨rs,r1,r2,r3⟩:=id g1.at_;have c1:n<=fv:=g8 (by ext);have nd:F.Nodup:=by have:=I.nd;rwa [br]at this
 have lt:∀x∈F,x < n:=λx h=>I.lt x (by rw[br];exact h);have w:∀(A:List D->aX->Prop),wp (collect (aS 0) bR (aN (.bl false)) (kB ns (rs.map D.ref)) (rs.map D.ref) [none]) A c=A (seen n []) c:=λA=>by rw[Bh (f:=λ_=>.bl false) (show kB ns _ _ from r1) (λk d hd Q=>by simp![]),ae,r2,OB]
 simp![↓fk r1,gK,↓w,ae,r2,c1];have a1:(c++[MO.lst (seen n [])])[c.length]?=some (.lst (seen n (F.take 0))):=oF;have a3:dX c (c++[MO.lst (seen n [])]):=(dX.refl _).snoc _;generalize c++[MO.lst (seen n [])]=s2 at *;rw[fk (a3.at_ go)];refine tP (λi l v=>∃(L:Option D),l=[some (.ref ns),some (.ref no),some (.ref c.length),L]/\(∀(j x:Nat),j < i->F[j]?=some x->∀p∈E x,p.2∈F.take j)/\v[c.length]?=some (.lst (seen n (F.take i)))/\dX c v) (λ_ _ _ w=>by obtain⟨_,_,_,_,e⟩:=w;exact e.at_ go)
  ⟨_,rfl,λj x C=>bq C (by ext),a1,a3⟩ (λR i d l v up rt hd hW=>?_) (λl v hW=>?_)
 ·obtain⟨L,el,hF,H,G⟩:=hW;subst el;rw[ak]at hd;cases ex:F[i]? with
  |none=>rw[ex]at hd;cases hd
  |some x=>
   rw[ex]at hd;have ed:d=.int (x:Nat):=(aG hd).symm;subst ed;have h:=lt x (az ex);obtain⟨rs',r,k1,k2,k3,k4⟩:=(g1.ext G).row h;have U:F.take (i+1)=F.take i++[x]:=by rw[dG,ex];rfl
   have few:=g.few x h;have cc:∀(A:List D->aX->Prop),wp (collect (iq 2 (cW (aS 0) (cW (aS 1) iD))) bR (c2 aR (am 2) (am 1)) (kB r ((E x).map BL)) ((E x).map BL) [none,none,some (.ref c.length)]) A v=A (bw (E x).length λj=>D.bl (bP (∀p,(E x)[j]?=some p->p.2∈F.take i))) v:=λA=>by
    rw[Gr (caps:=[some (.ref c.length)]) (f:=λj=>D.bl (bP (∀p,(E x)[j]?=some p->p.2∈F.take i))) k3 (λj d hd=>?_),ae];rw[ak]at hd;cases ep:(E x)[j]? with
    |none=>rw[ep]at hd;cases hd
    |some p=>
     rw[ep]at hd;have o:=g.wf x h p (az ep);refine⟨_,_,(aG hd).symm,λQ=>?_⟩;have q3:∀(Q:D->aX->Prop)s,wp (cJ (seen n (F.take i)) ((p.2:Nat):Int)) Q s=Q (.bl (decide (p.2∈F.take i))) s:=λQ s=>Ia o;simp![↓fk H,↓q3];congr 2;by_cases e:p.2∈F.take i
     ·rw[bV e,JM λq c=>by cases c;exact e]
     ·rw[aT e,Jl λz=>e (z p rfl)]
   have cl:(E x).length<=fv:=g8 (by ext);simp![↓k1,↓k2,↓fk k3,gK,↓cc,ae,cl,↓PN];by_cases J:∀j,j < (E x).length->∀p,(E x)[j]?=some p->p.2∈F.take i
   ·rw[JM J];have q:c.length < v.length:=ij H;have Y:MM.mC (seen n (F.take i)).length ((x:Nat):Int)=some x:=GG (by unfold seen;rw[mh];exact h);simp![eZ,aY,if_false,↓fk H,Y,↓nN H];refine up ⟨_,rfl,λj y C l p o=>?_,?_,G.put (ay _)⟩
    ·by_cases e:j=i
     ·subst e;rw[ex]at l;cases l;obtain⟨m,g⟩:=aL.mp o;exact J m (ac.mp g).1 p g
     ·exact hF j y (by ext) l p o
    ·rw[aw q,JZ h,<- U]
   ·rw[Jl J];simp![kf,if_true];refine rt ?_
    show wp (wY (.ret .non)) Q v;simp![];refine h2 x v h ?_ (O.trans G);refine qB λu=>J λj C p o=>?_;have B:=az o;rcases I.fo i x ex x (by rw[U];simp) p B with z|z
    ·rw[U]at z;rcases aV.mp z with z|z
     ·exact z
     ·exact bq ⟨p,B,by rw[aI.mp z];exact .refl _⟩ u
    ·exact bq ⟨p,B,z⟩ u
 ·obtain⟨L,el,hF,H,G⟩:=hW;subst el;simp![];refine h1 F no v nd lt al (λj x C p o=>hF j x ?_ C p o) (G.at_ go) lo (O.trans G);rw[ae];exact (ac.mp C).1
end
open PySem (Str)
section
variable{s u s0 v:aX}{Q:D->aX->Prop}{l:Loc}{h:Hs}{ys:List Sd}{no ns nd nn:Nat}{N:Sd->Nat}
noncomputable def xX:Ln->Nat
 | .settle v=>v
 | .act b _ _=>b
def sw(h:Hs)(c g:Nat)(y:Sd)(k:Nat):Nat:=if k=c/\xX (cQ h y k)=g then 1 else 0
theorem NU{x:Ln}{s:aX}:wp (aR (mW x) (.int 1)) Q s=Q (.int (xX x:Nat)) s:=by cases x<;>exact dg rfl
theorem Q1{x k c g:Nat}{y:Sd}(hh:iG h)(G:km h y)(H:k < h.hands.length)(I:v[no]?=some (.lst (ys.map cA)))(J:ys[x]?=some y):wp (oQ ([.int (x:Nat),.int (k:Nat)]++[gX h,.int (c:Nat),.tup [.ref no,.ref ns],.int (g:Nat)])) Q v=Q (.int (sw h c g y k:Nat)) v:=by
 have E:∀Q s,wp (jb [gX h,cA y,.int k]) Q s=Q (mW (cQ h y k)) s:=λQ s=>HP hh G H;have C:∀(Q:D->aX->Prop)s,wp (cJ (ys.map cA) ((x:Nat):Int)) Q s=Q (cA y) s:=λQ s=>qJ (i:=x) (by rw[ak,J];rfl);have B:∀(Q:D->aX->Prop)s,wp (aR (mW (cQ h y k)) (.int 1)) Q s=Q (.int (xX (cQ h y k):Nat)) s:=λQ s=>NU;unfold oQ Ac;simp![↓fk I,↓E,↓C,↓B];unfold sw;by_cases q:k=c
 ·rw[aD (show (k:Int)=c by ext)];by_cases o:xX (cQ h y k)=g
  ·rw[aD (show ((xX (cQ h y k):Nat):Int)=g by ext),aD ⟨q,o⟩];rfl
  ·rw[aB (show ¬ ((xX (cQ h y k):Nat):Int)=g by ext),aB λz=>o z.2];rfl
 ·rw[aB (show ¬ (k:Int)=c by ext),aB λz=>q z.1];rfl
theorem VJ{g:List D->M D}{c:kz}{a:CA}{o:List D}(t:s[0]?=some (.tbl "most_deeds" "worth"))(e:sS (l.set 5 none) [0,3,1,4]=some o):
  wp (oq 0 "most_deeds" "worth" g c [0,3,1,4] 5 a l) Q s=wp (a (l.set 5 none)) (λds q=>wp (callC g c o ds) Q q) s:=by
 have:oq 0 "most_deeds" "worth" g c [0,3,1,4] 5 a l s=bnd (a (l.set 5 none)) (λds=>callC g c o ds) s:=by unfold oq;rw[t,e];exact aD ⟨rfl,rfl⟩
 rw[<- d0,rJ,rJ,this]
theorem Oe{r:Nat}{ds:List D}{f:List D->M D}(g:s[r]?=some (.lst ds)):wp (uz f (.ref r)) Q s=wp (f ds) Q s:=by unfold uz;rw[d0,fk g]
def DB(h:Hs)(ys:List Sd)(c g x k:Nat):Nat:=((ys[x]?).map λy=>sw h c g y k).getD 0
theorem SX{r c o:Nat}{F:List Nat}(hh:iG h)(E:∀y∈ys,km h y)(hl:ys.length<=324)(h0:0 < ys.length)(U:s[0]?=some (.tbl "most_deeds" "worth"))(gy:s[no]?=some (.lst (ys.map cA)))(g:wn ys.length (eF h ys) ns s)
  (hE:∀x p,x < ys.length->p∈eF h ys x->p.1 < h.hands.length) (go:s[r]?=some (.lst (F.map ia))) (nd:F.Nodup) (lt:∀x∈F,x < ys.length) (al:∀x,x < ys.length->x∈F) (H:J5 (eF h ys) F)
  (hq:∀(M:Nat->Nat)(u:aX),(∀x,x < ys.length->M x=rl (λp=>DB h ys c o x p.1) (λp=>M p.2) (eF h ys x))->dX s u->Q (.int (mx M ys.length:Nat)) u):wp (jt [gX h,.tup [.ref no,.ref ns],.ref r,.int (c:Nat),.int (o:Nat)]) Q s:=by
 have Y:=λQ=>@VJ s Q [some (gX h),some (.tup [.ref no,.ref ns]),some (.ref r),some (.int (c:Nat)),some (.int (o:Nat)),none] ji (.dfn mK) (ax (c2 aR (am 1) (aN (.int 1))) (ax (am 2) bu)) [gX h,.int (c:Nat),.tup [.ref no,.ref ns],.int (o:Nat)] U rfl
 (simp![jt];simp![jS,↓Y,List.set_cons_succ,wH])
 refine SN ?_;have q:dX s (s++[MO.clo (.dfn mK) [gX h,.int (c:Nat),.tup [.ref no,.ref ns],.int (o:Nat)]]):=(dX.refl _).snoc _;have gl:(s++[MO.clo (.dfn mK) [gX h,.int (c:Nat),.tup [.ref no,.ref ns],.int (o:Nat)]])[s.length]?=some (.clo (.dfn mK) [gX h,.int (c:Nat),.tup [.ref no,.ref ns],.int (o:Nat)]):=oF;generalize s++[MO.clo (.dfn mK) [gX h,.int (c:Nat),.tup [.ref no,.ref ns],.int (o:Nat)]]=C at *
 show wp (ji [.ref ns,.ref r,.fn s.length]) _ C;have l:s.length < C.length:=ij gl;refine WJ (wt:=DB h ys c o) (g.ext q) (by ext) (q.at_ go) nd lt al H gl (λv x p G hp J Q=>?_) λM u hM gm B=>?_
 ·have I:=ai G;rw[Q1 hh (E _ (bA G)) (hE x p G hp) (Q4 ((q.trans J).at_ gy)) I];unfold DB;rw[I];rfl
 ·refine⟨q.trans B,by have:=B.le;ext,?_⟩;have c:(fM s.length u)[C.length]?=some (.lst (bw ys.length λi=>.int (M i:Nat))):=RD gm;have L:=UK (q.trans B);generalize fM s.length u=O at *;simp![↓Oe c,↓Fs h0];exact hq M O hM L
end
open PySem (Str)
section
variable{s u s0 v:aX}{Q:D->aX->Prop}{l:Loc}{h:Hs}{ys:List Sd}{no ns nd nn:Nat}{N:Sd->Nat}
theorem TB{n:Nat}:wp (yy (.ref n) .non) Q s=Q (.bl false) s:=dg rfl
theorem X0:wp (yy .non .non) Q s=Q (.bl true) s:=dg rfl
def vL(h:Hs)(ys R:List Sd):Prop:=(∀x∈ys,x∈R)/\∀(i:Nat)(z:Sd),R[i]?=some z->∀k∈fK h z,ib h z k∈R.take i
def vH(h:Hs)(ys:List Sd)(c g:Nat)(M:Sd->Nat):Prop:=∀x∈ys,M x=rl (sw h c g x) (λk=>M (ib h x k)) (fK h x)
def vT(M:Sd->Nat)(ys:List Sd):Nat:=mx (λi=>((ys[i]?).map M).getD 0) ys.length
theorem Qc{c o:Nat}{M:Nat->Nat}(B:∀x∈ys,∀k∈fK h x,ib h x k∈ys)(C:∀x,x < ys.length->M x=rl (λp=>DB h ys c o x p.1) (λp=>M p.2) (eF h ys x)):vH h ys c o λx=>M (ys.idxOf x):=by
 intro x g;have q:=ck.mpr g
 show M (ys.idxOf x)=_;rw[C _ q];unfold eF;rw[xU g];refine MD.trans (G5 λk E=>⟨?_,rfl⟩);unfold DB;rw[xU g];rfl
theorem R7{M:Nat->Nat}(g:ys.Nodup):mx M ys.length=vT (λx=>M (ys.idxOf x)) ys:=Ew λi c=>by
 rw[ai c]
 show M i=M (ys.idxOf ys[i]);have:=(eD (ck.mpr (bA c)) g).mp ((xU (bA c)).trans (ai c).symm);rw[this]
theorem Vn{bd:Nat}(hh:iG h)(hn:ys.Nodup)(Y:∀y∈ys,km h y)(hl:ys.length<=324)(h0:0 < ys.length)(q:∀x∈ys,∀k∈fK h x,ib h x k∈ys)(t0:s[0]?=some (.tbl "most_deeds" "worth"))(gy:s[no]?=some (.lst (ys.map cA)))(g:wn ys.length (eF h ys) ns s)
  (h1:∀(M:Nat->Sd->Nat)R u,(∀k,k < h.hands.length->vH h ys k bd (M k))->vL h ys R->(∀x∈R,x∈ys)->dX s u->Q (.tup (bw h.hands.length λk=>.int (vT (M k) ys:Nat))) u)
  (h2:∀x u,x∈ys->TS (y_ h) x x->dX s u->Q .non u):wp (jo [gX h,.tup [.ref no,.ref ns],.int (bd:Nat)]) Q s:=by
 (simp![jo];simp![jQ])
 refine QZ g (by ext) (λF r U nd lt al H go lr I=>?_) (λx U c cy I=>?_)
 ·have l3:=hh.2.2.2.1;have G:=uj (show h.hands.length<=100 by ext);have q1:∀(Q:D->aX->Prop)s,wp (aR (gX h) (.int 1)) Q s=Q (.tup (h.hands.map nE)) s:=λQ s=>dg rfl;have c3:h.hands.length<=fv:=g8 (by ext);simp![↓TB,aY,if_false,↓q1,ae,G,tX,gK,bo,mh,c3];refine Fd (λi B v=>∃M:Nat->Sd->Nat,B=(bw i λk=>D.int (vT (M k) ys:Nat))/\(∀k,k < i->vH h ys k bd (M k))/\dX U v) (λ_ _ _ _=>trivial) ⟨λ_ _=>0,rfl,λk o=>bq o (by ext),dX.refl _⟩ (λR i B v up hi w=>?_) (λB v w=>?_)
  ·obtain⟨M,eo,hM,C⟩:=w;have O:=I.trans C;simp![];refine SX hh Y hl h0 (O.at_ t0) (O.at_ gy) (g.ext O) (λx p c l=>AS ((Gi (k:=p.1) (j:=p.2) (ai c)).mp l).1) (C.at_ go) nd lt al H λB u h v=>?_;refine up ⟨λk=>if k=i then (λx=>B (ys.idxOf x)) else M k,?_,λk o=>?_,C.trans v⟩
   ·rw[By,eo,R7 hn];congr 1
    ·exact xQ λk o=>by dsimp only;rw[aB (show ¬ k=i by ext)]
    ·dsimp only;rw[aD rfl]
   ·by_cases e:k=i
    ·subst e;simp only[if_true];exact Qc q h
    ·simp only[aB e];exact hM k (by ext)
  ·obtain⟨M,eo,hM,C⟩:=w;subst eo;simp![mh,c3];refine h1 M (F.map λi=>(ys[i]?).getD ⟨[],[]⟩) v hM ⟨λx c=>?_,λi z hz k o=>?_⟩ (λx c=>?_) (I.trans C)
   ·have hi:=ck.mpr c;exact cz.mpr ⟨ys.idxOf x,al _ hi,by rw[xU c];rfl⟩
   ·rw[ak]at hz;cases L:F[i]? with
    |none=>rw[L]at hz;cases hz
    |some j=>
     rw[L]at hz;have J:=lt j (az L);have g:z=ys[j]:=by have:=(aG hz).symm;dsimp only at this;rw[ai J]at this;exact this
     have E:ys[j]?=some z:=by rw[g];exact ai J
     have G:=q z (az E) k o;have:=H i j L (k,ys.idxOf (ib h z k)) ((Gi E).mpr ⟨o,rfl⟩);rw[<- List.map_take];exact cz.mpr ⟨_,this,by rw[xU G];rfl⟩
   ·obtain⟨j,J,rfl⟩:=cz.mp c;rw[ai (lt j J)];exact bA _
 ·simp![↓X0,if_true];obtain⟨⟨k,t⟩,l,g⟩:=cy;have E:=ai c;obtain⟨o,e⟩:=(Gi E).mp l;have G:=q ys[x] (bA c) k o;have u:ys[t]?=some (ib h ys[x] k):=by rw[<- e];exact xU G
  refine h2 ys[x] U (bA c) ?_ I;rcases Dq q g u E with z|z
  ·exact .one ⟨k,o,z⟩
  ·exact .more ⟨k,o,rfl⟩ z
end
open PySem (Str)
section
variable{s u s0 v:aX}{Q:D->aX->Prop}{l:Loc}{h:Hs}{ys:List Sd}{no ns nd nn:Nat}{N:Sd->Nat}
theorem Qv{xs:List Sd}{x y:Sd}:y∈iz xs x↔y∈xs\/y=x:=by
 unfold iz;by_cases e:x∈xs
 ·rw[aD e];exact⟨.inl,λz=>z.elim id λq=>q ▸ e⟩
 ·rw[aB e,aV,aI]
theorem GL{α:Type}{f:α->Sd}{y:Sd}:∀(as:List α)(xs:List Sd),y∈as.foldl (λys a=>iz ys (f a)) xs↔y∈xs\/∃a∈as,y=f a
 |[],xs=>by simp
 |a::as,xs=>by
  rw[rC,GL as,Qv];constructor
  ·rintro ((z|z)|⟨b,hb,e⟩)
   ·exact .inl z
   ·exact .inr ⟨a,.head _,z⟩
   ·exact .inr ⟨b,.tail _ hb,e⟩
  ·rintro (z|⟨b,hb,e⟩)
   ·exact .inl (.inl z)
   ·rcases bn.mp hb with q|q
    ·subst q;exact .inl (.inr e)
    ·exact .inr ⟨b,q,e⟩
theorem GR(i:Nat){row:List D}(c:row∈i_ h.hands.length):ip h row∈dR h i:=by
 induction i with
 |zero=>exact (GL _ _).mpr (.inr ⟨row,c,rfl⟩)
 |succ i ih=>obtain⟨t,e⟩:=GP (h:=h) i;rw[e];exact cB _ ih
theorem F0:∀(i:Nat)(x:Sd),x∈dR h i->∃row∈i_ h.hands.length,x=ip h row\/TS (y_ h) (ip h row) x
 |0,x,hx=>by
  rcases (GL _ _).mp hx with z|⟨row,g,e⟩
  ·cases z
  ·exact⟨row,g,.inl e⟩
 |i+1,x,hx=>by
  have c:x∈(match (dR h i)[i]? with
   |some x=>o7 h x (fK h x) (dR h i)
   |none=>dR h i):=hx
  cases e:(dR h i)[i]? with
  |none=>rw[e]at c;exact F0 i x c
  |some y=>
   rw[e]at c;rcases (GL (f:=λk=>ib h y k) _ _).mp c with z|⟨k,o,q⟩
   ·exact F0 i x z
   ·obtain⟨row,g,z⟩:=F0 i y (az e);refine⟨row,g,.inr ?_⟩;rcases z with z|z
    ·rw[<- z];exact .one ⟨k,o,q.symm⟩
    ·exact z.snoc ⟨k,o,q.symm⟩
theorem UY{α:Type}{v N:α->Nat}{L:List α}{x:α}(g:x∈L):v x+N x<=rl v N L:=by obtain⟨i,c⟩:=aL.mp g;have:=Gs (f:=λi=>((L[i]?).map λx=>v x+N x).getD 0) (ac.mp c).1;rw[c]at this;exact this
theorem X8{c C:Nat}{M:Sd->Nat}(q:∀x∈ys,∀k∈fK h x,ib h x k∈ys)(E:vH h ys c C M){x y:Sd}(a:TS (y_ h) x y):x∈ys->M y<=M x:=by
 have one:∀x y,y_ h x y->x∈ys->y∈ys/\M y<=M x:=λx y g o=>by obtain⟨k,B,e⟩:=g;have:=UY (v:=sw h c C x) (N:=λk=>M (ib h x k)) B;rw[<- E x o]at this;subst e;exact⟨q x o k B,by ext⟩
 induction a with
 |one a=>exact λo=>(one _ _ a o).2
 |more a _ ih=>exact λo=>bZ (ih (one _ _ a o).1) (one _ _ a o).2
theorem W0{o I i:Nat}{M:Sd->Nat}(C:∀x∈dR h i,∀k∈fK h x,ib h x k∈dR h i)(G:vH h (dR h i) o I M):
  vT M (dR h i)=mx (λj=>(((i_ h.hands.length)[j]?).map λrow=>M (ip h row)).getD 0) (i_ h.hands.length).length:=by
 apply Ar
 ·refine Kv λj g=>?_;rw[ai g]
  show M (dR h i)[j]<=_;obtain⟨row,E,z⟩:=F0 i _ (bA g);have H:M (dR h i)[j]<=M (ip h row):=by
   rcases z with z|z
   ·rw[<- z];exact ay _
   ·exact X8 C G z (GR i E)
  obtain⟨q,c⟩:=aL.mp E;have B:=Gs (f:=λj=>(((i_ h.hands.length)[j]?).map λrow=>M (ip h row)).getD 0) (ac.mp c).1;rw[c]at B;exact bZ H B
 ·refine Kv λj g=>?_;rw[ai g]
  show M (ip h (i_ h.hands.length)[j])<=_;obtain⟨q,c⟩:=aL.mp (GR i (bA g));have B:=Gs (f:=λj=>(((dR h i)[j]?).map M).getD 0) (ac.mp c).1;rw[c]at B;exact B
theorem vH.uniq{c G:Nat}{R:List Sd}{M C:Sd->Nat}(E:vL h ys R)(J:∀x∈R,x∈ys)(a:vH h ys c G M)(b:vH h ys c G C):∀x∈ys,M x=C x:=by
 have key:∀(m i:Nat)(z:Sd),i < m->R[i]?=some z->M z=C z:=λm=>by
  induction m with
  |zero=>intro i z B;ext
  |succ m ih=>
   intro i z B hz;have g:=J z (az hz);rw[a z g,b z g];refine G5 λk I=>⟨rfl,?_⟩
   obtain⟨j,q⟩:=aL.mp (E.2 i z hz k I);have o:j < i:=by have:=(ac.mp q).1;rw[aZ]at this;ext
   rw[bO o]at q;exact ih j _ (by ext) q
 intro x H;obtain⟨i,B⟩:=aL.mp (E.1 x H);exact key (i+1) i x (by ext) B
theorem Kx:∀n,0 < (i_ n).length
 |0=>by simp[i_]
 |n+1=>by have:=Kx n;simp[i_];ext
theorem X1{most q:Nat}(o:xn h)(J:∀i,sW h i->(dR h i).length<=most)(B:s[0]?=some (.tbl "most_deeds" "worth"))
  (Y:∀i(M:Nat->Sd->Nat)R u,rL h i->(∀k,k < h.hands.length->vH h (dR h i) k q (M k))->vL h (dR h i) R->(∀x∈R,x∈dR h i)->dX s u->Q (.tup (bw h.hands.length λk=>.int (vT (M k) (dR h i):Nat))) u)
  (U:∀i x u,rL h i->x∈dR h i->TS (y_ h) x x->dX s u->Q .non u):wp (jE [gX h,.int (q:Nat),.int (most:Nat)]) Q s:=by
 have hh:=o.1
 (simp![jE];simp![j7])
 refine Rp o J λi no nd ns rs u st gl I gs G H C ex=>?_;have len:=Om st;have g:=TJ (h:=h) (ys:=dR h i) hh gs (by ext) C;have L:(dR h i).length<=324:=(DJ o st.1).1;have l:0 < (dR h i).length:=ur (GR i (bA (Kx h.hands.length)));simp![];refine Vn hh (wv hh i).1 (wv hh i).2 L l (λx E k O=>Lo hh st E O) (ex.at_ B) gl g (λM R v a b c x=>?_) (λx v a b c=>?_)
 ·simp![];exact Y i M R v st a b c (ex.trans x)
 ·simp![];exact U i x v st a b (ex.trans c)
end
open PySem (Str)
section
variable{s u s0 v:aX}{Q:D->aX->Prop}{l:Loc}{h:Hs}{ys:List Sd}{no ns nd nn nr:Nat}{N:Sd->Nat}
def si(h:Hs)(x:Sd):List (Nat×Sd):=(fK h x).map λk=>(k,ib h x k)
theorem Q5{lo:Nat}(g:IE h lo ys nd u):GN ys (si h) nd u:=by obtain⟨c,B,q⟩:=g;refine⟨c,B,λx o=>?_⟩;rw[(q x o).2.2];unfold Ad nD si;rw[e8];rfl
theorem NQ(hh:iG h):∀zs:List Sd,mw zs (si h)<=3*zs.length
 |[]=>by simp[mw]
 |z::zs=>by have c:=NQ hh zs;unfold mw si at c ⊢;rw[aO,gL,ae,bC];have:=Dx hh (x:=z);ext
noncomputable def xO(f:Nat->Nat):Nat->Nat
 |0=>0
 |n+1=>f n
theorem MA(f:Nat->Nat):∀n,mx (xO f) (n+1)=mx f n
 |0=>rfl
 |n+1=>by show max (mx (xO f) (n+1)) (f n)=max (mx f n) (f n);rw[MA f n]
theorem WY{c B:Nat}{R:List Sd}(hh:iG h)(hys:∀y∈ys,km h y)(hl:ys.length<=324)(hk:c < h.hands.length)(hR:∀x∈R,x∈ys)(hnd:R.Nodup)(hf:vL h ys R)(hb:∀row∈i_ h.hands.length,ip h row∈ys)(g:GN ys (si h) nd s)(gr:s[nr]?=some (.lst (R.map cA)))
  (hq:∀M u,vH h ys c B M->dX s u->Q (.int (mx (λj=>(((i_ h.hands.length)[j]?).map λrow=>M (ip h row)).getD 0) (i_ h.hands.length).length:Nat)) u):wp (jv [gX h,.int (B:Nat),.dic nd,.ref nr,.int (c:Nat)]) Q s:=by
 obtain⟨rF,g1,g2⟩:=g
 (simp![jv];simp![j6,↓xq])
 have a1:(s++[MO.dct true []])[s.length]?=some (.dct true (i0 (R.take 0) λx=>.int ((λ_=>0:Sd->Nat) x:Nat))):=oF;have a3:dX s (s++[MO.dct true []]):=(dX.refl _).snoc _;generalize s++[MO.dct true []]=s1 at *;rw[fk (a3.at_ gr)];refine tP (λi l v=>∃(M:Sd->Nat)(y6 y7 U O:Option D),l=[some (gX h),some (.int (B:Nat)),some (.dic nd),some (.ref nr),some (.int (c:Nat)),some (.dic s.length),y6,y7,U,O]/\(∀x∈R.take i,M x=rl (sw h c B x) (λk=>M (ib h x k)) (fK h x))/\v[s.length]?=some (.dct true (i0 (R.take i) λx=>.int (M x:Nat)))/\dX s v) (λ_ _ _ w=>by obtain⟨_,_,_,_,_,_,_,_,e⟩:=w;exact e.at_ gr)
  ⟨λ_=>0,_,_,_,_,rfl,by simp,a1,a3⟩ (λA i d l v up rt hd L=>?_) (λl v L=>?_)
 ·obtain⟨M,y6,y7,U,O,el,hM,b1,b3⟩:=L;subst el;rw[ak]at hd;cases ex:R[i]? with
  |none=>rw[ex]at hd;cases hd
  |some x=>
   rw[ex]at hd;have ed:d=cA x:=(aG hd).symm;subst ed;have hx:=hR x (az ex);have q1:∀Q s,s[nd]?=some (.dct true (i0 ys λx=>D.ref (rF x)))->wp (itemK nd (cA x)) Q s=Q (.ref (rF x)) s:=λQ s g=>yT g (so x) (by rw[zX,aD hx]);have l1:1<=fv:=g8 (by ext);simp![l1];obtain⟨f,ef⟩:∃f:Nat->Nat,f=λq=>(((si h x)[q]?).map λp=>sw h c B x p.1+M p.2).getD 0:=⟨_,rfl⟩
   have e0:v++[MO.lst [D.int 0]]=v++[MO.lst (bw (0+1) λq=>D.int (xO f q:Nat))]:=rfl;rw[e0];have E:∀o,(v++[o])[rF x]?=some (.lst ((si h x).map nD)):=λo=>ot (b3.at_ (g2 x hx));rw[q1 _ _ (ot (b3.at_ g1))];simp![];rw[fk (E _)];refine tP (λj l v2=>∃(U O:Option D),l=[some (gX h),some (.int (B:Nat)),some (.dic nd),some (.ref nr),some (.int (c:Nat)),some (.dic s.length),some (cA x),some (.ref v.length),U,O]/\v2=v++[MO.lst (bw (j+1) λq=>D.int (xO f q:Nat))]) (λ_ _ _ w=>by obtain⟨_,_,_,e⟩:=w;rw[e];exact E _)
    ⟨_,_,rfl,rfl⟩ (λA2 j d l v2 Y rt2 hd L=>?_) (λl v2 L=>?_)
   ·obtain⟨z8,z9,el,I⟩:=L;subst el;rw[ak]at hd;cases ep:(si h x)[j]? with
    |none=>rw[ep]at hd;cases hd
    |some p=>
     rw[ep]at hd;have ed:d=D.tup [.int (p.1:Nat),cA p.2]:=(aG hd).symm;subst ed;obtain⟨k,g,rfl⟩:=cz.mp (az ep);have E:∀Q,wp (itemK s.length (cA (ib h x k))) Q v2=Q (.int (M (ib h x k):Nat)) v2:=λQ=>by rw[I];exact yT (ot b1) (so _) (by rw[zX,aD (hf.2 i x ex k g)])
     have u:∀Q s,wp (jh [gX h,cA x,.int c]) Q s=Q (mW (cQ h x c)) s:=λQ s=>IT hh (hys x hx) hk;have o:∀(Q:D->aX->Prop)s,wp (aR (mW (cQ h x c)) (.int 1)) Q s=Q (.int (xX (cQ h x c):Nat)) s:=λQ s=>NU;have J:f j=sw h c B x k+M (ib h x k):=by rw[ef];dsimp only;rw[ep];rfl
     have H:v2[v.length]?=some (.lst (bw (j+1) λq=>D.int (xO f q:Nat))):=by rw[I];exact oF
     have fin:∀w:Int,w=(sw h c B x k:Nat)->((bw (j+1) λq=>D.int (xO f q:Nat)).length < fv/\wp (putL v.length ((bw (j+1) λq=>D.int (xO f q:Nat))++[.int ((M (ib h x k):Int)+w)])) (λ_ C=>wp (ba [some (gX h),some (.int (B:Nat)),some (.dic nd),some (.ref nr),some (.int (c:Nat)),some (.dic s.length),some (cA x),some (.ref v.length),some (.int (k:Nat)),some (cA (ib h x k))]) A2 C) v2):=λw O=>by
      have G:j < 3:=by have:=(ac.mp ep).1;unfold si at this;rw[ae]at this;have:=Dx hh (x:=x);ext
      refine⟨by rw[mh];exact qp (by ext),?_⟩;rw[nN H];simp![];refine Y ⟨_,_,rfl,?_⟩;rw[I,nJ _ _ (ay _),ff,wH,By (n:=j+1)]
      show _=v++[MO.lst (_++[D.int (f j:Nat)])]
      rw[J,O,show ((M (ib h x k):Int)+(sw h c B x k:Nat))=((sw h c B x k+M (ib h x k):Nat):Int) by ext]
     simp![↓E,↓u,↓o,↓fk H];by_cases e:k=c
     ·subst e;rw[beq_self_eq_true,sQ];by_cases l:xX (cQ h x k)=B
      ·rw[aD (show ((xX (cQ h x k):Nat):Int)=B by ext)];exact fin 1 (by unfold sw;rw[aD ⟨rfl,l⟩];rfl)
      ·rw[aB (show ¬ ((xX (cQ h x k):Nat):Int)=B by ext)];exact fin 0 (by unfold sw;rw[aB λz=>l z.2];rfl)
     ·rw[show ((k:Int) == c)=false from beq_eq_false_iff_ne.mpr (by ext),sR];exact fin 0 (by unfold sw;rw[aB λz=>e z.1];rfl)
   ·obtain⟨z8,z9,el,I⟩:=L;subst el;rw[ae]at I;have H:v2[v.length]?=some (.lst (bw ((si h x).length+1) λq=>D.int (xO f q:Nat))):=by rw[I];exact oF
    have o:v2[s.length]?=some (.dct true (i0 (R.take i) λx=>.int (M x:Nat))):=by rw[I];exact ot b1
    have E:dX s v2:=by rw[I];exact b3.snoc _
    have g:R.take (i+1)=R.take i++[x]:=by rw[dG,ex];rfl
    have u:x∉R.take i:=λz=>by
     obtain⟨j,G⟩:=aL.mp z;have C:j < i:=by have:=(ac.mp G).1;rw[aZ]at this;ext
     rw[bO C]at G;exact bq ((eD (ac.mp G).1 hnd).mp (G.trans ex.symm)) (bz C)
    have O:mx (xO f) ((si h x).length+1)=rl (sw h c B x) (λk=>M (ib h x k)) (fK h x):=by
     rw[MA,ef]
     show rl (λp:Nat×Sd=>sw h c B x p.1) (λp=>M p.2) (si h x)=_;unfold si;exact MD
    have l:=λQ=>@Fs (xO f) ((si h x).length+1) Q v2 (by ext);rw[O]at l;simp![↓Oe H,↓l];have few:(R.take i).length<=324:=bZ (List.length_take_le' _ _) (bZ (CP hnd hR) hl);rw[CV o (so x) (by first|(rw[Bp];exact qp (by ext))|(rw[Bp];exact g8 (by ext))),EL,aB u,<- g];simp![];refine up ⟨λy=>if y=x then rl (sw h c B x) (λk=>M (ib h x k)) (fK h x) else M y,_,_,_,_,rfl,λy J=>?_,?_,E.put (ay _)⟩
    ·have same:∀z,(∀k∈fK h z,ib h z k∈R.take i)->rl (sw h c B z) (λk=>if ib h z k=x then rl (sw h c B x) (λk=>M (ib h x k)) (fK h x) else M (ib h z k)) (fK h z)=rl (sw h c B z) (λk=>M (ib h z k)) (fK h z):=λz hz=>G5 λk hk=>⟨rfl,aB λq=>u (by rw[<- q];exact hz k hk)⟩
     rw[g]at J;dsimp only;by_cases e:y=x
     ·subst e;rw[aD rfl,same y (hf.2 i y ex)]
     ·rw[aB e];rcases aV.mp J with J|J
      ·obtain⟨j,G⟩:=aL.mp J;have C:j < i:=by have:=(ac.mp G).1;rw[aZ]at this;ext
       rw[bO C]at G;rw[same y λk hk=>fq (by rw[As,nI (fH C)];exact hf.2 j y G k hk),hM y J]
      ·exact bq (aI.mp J) e
    ·rw[aw (ij o)];congr 3;unfold uA;funext y;by_cases e:y=x
     ·rw[aD e];dsimp only;rw[aD e]
     ·rw[aB e];dsimp only;rw[aB e]
 ·obtain⟨M,y6,y7,U,O,el,hM,b1,b3⟩:=L;subst el;rw[ae,cN]at hM b1;have o:vH h ys c B M:=λx hx=>hM x (hf.1 x hx);simp![];refine MX (by have:=hh.2.2.1;have:=hh.2.2.2.1;ext) λr v2 hr I C=>?_;simp![↓fk I,gK,ae];have il:(i_ h.hands.length).length<=8:=by
   have h3:h.hands.length=2\/h.hands.length=3:=by have:=hh.2.2.1;have:=hh.2.2.2.1;ext
   rcases h3 with e|e<;>rw[e]<;>simp[i_]
  refine⟨g8 (by ext),?_⟩;refine GW (λj E Y=>E=(bw j λq=>D.int ((((i_ h.hands.length)[q]?).map λrow=>M (ip h row)).getD 0:Nat))/\dX v2 Y) (λj E Y w=>w.2.at_ I) ⟨rfl,dX.refl _⟩ (λj d E Y hd w=>?_) (λE Y w=>?_)
  ·obtain⟨u,g⟩:=w;rw[ak]at hd;cases l:(i_ h.hands.length)[j]? with
   |none=>rw[l]at hd;cases hd
   |some row=>
    rw[l]at hd;have ed:d=D.tup row:=(aG hd).symm;subst ed;have H:=az l;simp![];refine N_ hh H λG v=>?_;have J:=(C.trans g).trans v;have c:∀Q,wp (itemK s.length (cA (ip h row))) Q G=Q (.int (M (ip h row):Nat)) G:=λQ=>yT (J.at_ b1) (so _) (by rw[zX,aD (hf.1 _ (hb row H))]);simp![↓c];exact⟨by rw[By,u,l];rfl,g.trans v⟩
  ·obtain⟨u,g⟩:=w;subst u;rw[ae,Fs (Kx _)];simp![];exact hq M Y o ((b3.trans C).trans g)
end
open PySem (Str)
section
variable{s u s0 v:aX}{Q:D->aX->Prop}{l:Loc}{h:Hs}{ys R row:List Sd}{no ns nd nn nr i:Nat}
theorem Rx{g:List D->M D}{a:CA}{d:D}:wp (qK g a d l) Q s=wp (a l) (λds c=>wp (g (ds++[d])) Q c) s:=by unfold qK;rw[d0]
theorem QI(q:vL h ys R)(H:∀x∈R,x∈ys)(B:∀z∈ys,(∀p∈si h z,p.2∈row)->z∈row):∀x∈ys,x∈row:=λx C=>by
 have key:∀(m j:Nat)(z:Sd),j < m->R[j]?=some z->z∈row:=λm=>by
  induction m with
  |zero=>intro j z o;ext
  |succ m ih=>
   intro j z o hz;refine B z (H z (az hz)) λp E=>?_;obtain⟨k,G,rfl⟩:=cz.mp E;obtain⟨t,c⟩:=aL.mp (q.2 j z hz k G);have g:t < j:=by have:=(ac.mp c).1;rw[aZ]at this;ext
   rw[bO g]at c;exact ih t _ (by ext) c
 obtain⟨j,o⟩:=aL.mp (q.1 x C);exact key (j+1) j x (by ext) o
theorem Xf{x:Sd}(C:x∈ys)(G:TS (y_ h) x x)(c:Rk (y_ h) row)(q:row.Nodup)(B:∀z∈row,z∈ys):row.length < ys.length:=by
 have g:x∉row:=λE=>Sf c E G;have:=CP (R:=x::row) (U:=ys) (eK.mpr ⟨g,q⟩) λy o=>by
  rcases bn.mp o with rfl|o
  ·exact C
  ·exact B y o
 simp at this;ext
theorem QL{L:Nat}{A:List D->aX->Prop}{M:Nat->Sd->Nat}(hh:iG h)(hl:(dR h i).length<=324)(q:∀x∈dR h i,∀k∈fK h x,ib h x k∈dR h i)(hM:∀k,k < h.hands.length->vH h (dR h i) k L (M k))(G:∀x∈row,x∈dR h i)(U:row.Nodup)(J:vL h (dR h i) row)
  (g:GN (dR h i) (si h) nd s) (gr:s[nr]?=some (.lst (row.map cA))) (hq:∀u,dX s u->A (bw h.hands.length λk=>.int (vT (M k) (dR h i):Nat)) u):
  wp (collect (aS 0) bR (bW jv (ax (am 1) (ax (am 4) (ax (am 2) (ax (am 3) (ax (am 0) bu)))))) dL (bw h.hands.length λk=>.int (k:Nat)) [none,some (gX h),some (.dic nd),some (.ref nr),some (.int (L:Nat))]) A s:=by
 refine Fd (λk c v=>c=(bw k λk=>D.int (vT (M k) (dR h i):Nat))/\dX s v) (λ_ _ _ _=>trivial) ⟨rfl,dX.refl _⟩ (λB k c v up H w=>?_) (λc v w=>?_)
 ·obtain⟨C,o⟩:=w;simp![];refine WY hh (wv hh i).2 hl H G U J (λrow Q=>GR i Q) (by obtain⟨Y,v,c⟩:=g;exact⟨Y,o.at_ v,λx l=>o.at_ (c x l)⟩) (o.at_ gr) λB u E O=>?_;refine up ⟨?_,o.trans O⟩;rw[By,C,<- W0 q E];have:vT B (dR h i)=vT (M k) (dR h i):=Ew λj I=>by rw[ai I];exact vH.uniq J G E (hM k H) _ (bA I)
  rw[this]
 ·obtain⟨C,o⟩:=w;subst C;exact hq v o
theorem Xc:wp (r9 .non .non) Q s=Q (.bl false) s:=dg rfl
theorem Si{n:Nat}(c:n<=1000):wp (o8 (.int (n:Nat))) Q s=Q (.ref s.length) (s++[.lst (bw n λi=>.int (i:Nat))]):=by
 refine dg ?_
 show chk _ _ s=_;unfold chk;rw[aD (by ext)];rfl
end
open PySem (Str)
theorem uD{Q:D->aX->Prop}{s:aX}{a b:Nat}{x y:List D}(h:s[a]?=some (.lst x))(g:s[b]?=some (.lst y))(c:x.length+y.length<=fv):wp (fG (.ref a) (.ref b)) Q s=Q (.ref s.length) (s++[.lst (x++y)]):=by show wp (bnd (getL a) λx=>bnd (getL b) λy=>chk (x.length+y.length<=fv) (alloc (.lst (x++y)))) Q s=_;rw[d0,fk h,d0,fk g];refine dg ?_;unfold chk;rw[aD c];rfl
theorem U7(ns:List Int)(hn:ns.length<=63)(s0:aX)(t0:s0[0]?=some (.tbl "most_deeds" "worth"))(Q:D->aX->Prop)(hQ:∀s,Q (.bl true) s):wp (jN [.lit (ns.map D.int)]) Q s0:=by
 have ls0:=ij t0
 (simp![jN];simp![yj])
 refine We λp q s1 hp1 lp lq x1=>?_;simp![];refine XN hp1 λh s2 hc hp2 k2=>?_;have hh:=hc.1;have t2:s2[0]?=some (.tbl "most_deeds" "worth"):=by rw[k2.at_ 0 (by have:=x1.le;ext) (by ext) (by ext)];exact x1.at_ t0
 simp![];have h500:∀j,sW h j->(dR h j).length<=500:=λj gj=>by have:=(DJ hc gj).1;ext
 refine PJ hc λi ny s3 st gy hr3 x3=>?_;have Y:=(DJ hc st.1).1;have J:=(wv hh i).1;have ho:=(wv hh i).2;have hcl:∀x∈dR h i,∀k∈fK h x,ib h x k∈dR h i:=λx I k g=>Lo hh st I g;have cl:∀x∈dR h i,∀p∈si h x,p.2∈dR h i:=λx I p hp=>by obtain⟨k,g,rfl⟩:=cz.mp hp;exact hcl x I k g
 have U:mw (dR h i) (si h)<=1000:=bZ (NQ hh (dR h i)) (by ext);simp![];refine R0 hh gy J ho Y λs4 nx x4=>?_;have G4:GN (dR h i) (si h) s3.length s4:=Q5 nx;have x24:=x3.trans x4;have t4:=x24.at_ t2;have gnx:∀{v},dX s4 v->GN (dR h i) (si h) s3.length v:=λc=>by obtain⟨rF,g1,g2⟩:=G4;exact⟨rF,c.at_ g1,λx I=>c.at_ (g2 x I)⟩
 have u:∀{v},dX s4 v->∀Q,wp (gD (.dic s3.length)) Q v=Q (.int ((dR h i).length:Nat)) v:=λc Q=>by obtain⟨rF,g1,_⟩:=gnx c;rw[ML g1,Bp]
 simp![];refine Ta J Y cl U G4 λrow r O rn rk ri rc gr lr x6=>?_;have qb:∀(Q:D->aX->Prop)s,wp (aR (gX h) (.int 0)) Q s=Q (.tup (h.boards.map pR)) s:=λQ s=>dg rfl;have rkS:Rk (y_ h) row:=λj z hz y hy=>by obtain⟨k,g,rfl⟩:=hy;exact rk j z hz (k,ib h z k) (cz.mpr ⟨k,g,rfl⟩)
 have b7:=hh.1;have hb:=uj (show h.boards.length<=100 by ext);have c7:h.boards.length<=fv:=g8 (by ext);have q0:=λQ s=>@Si s Q h.boards.length (by ext);simp![↓qb,ae,hb,c7,↓q0];have zb:(0:Int)<=(if (0:Int) < (h.boards.length:Int) then 1 else 0)/\(if (0:Int) < (h.boards.length:Int) then (1:Int) else 0)<=1:=by split<;>ext
 generalize (if (0:Int) < (h.boards.length:Int) then (1:Int) else 0)=z at *;refine⟨g8 (by ext),⟨⟨by ext,by ext⟩,g8 (by ext)⟩,?_⟩;have fl:(aP z.toNat [D.int 0]).flatten.length<=1:=by simp;ext
 have fz:∀d∈(aP z.toNat [D.int 0]).flatten,d=D.int ((0:Nat):Int):=λd hd=>by obtain⟨l,Y,hm⟩:=List.mem_flatten.mp hd;rw[(List.mem_replicate.mp Y).2]at hm;exact aI.mp hm
 generalize (aP z.toNat [D.int 0]).flatten=fs at *;rw[uD (ot oF) oF (by rw[mh];exact g8 (by ext))];have gw:(O++[MO.lst (bw h.boards.length λi=>D.int (i:Nat))]++[MO.lst fs]++[MO.lst ((bw h.boards.length λi=>D.int (i:Nat))++fs)])[(O++[MO.lst (bw h.boards.length λi=>D.int (i:Nat))]++[MO.lst fs]).length]?=some (.lst ((bw h.boards.length λi=>D.int (i:Nat))++fs)):=oF;have x7:dX O (O++[MO.lst (bw h.boards.length λi=>D.int (i:Nat))]++[MO.lst fs]++[MO.lst ((bw h.boards.length λi=>D.int (i:Nat))++fs)]):=(((dX.refl _).snoc _).snoc _).snoc _;generalize (O++[MO.lst (bw h.boards.length λi=>D.int (i:Nat))]++[MO.lst fs]).length=w at *;generalize O++[MO.lst (bw h.boards.length λi=>D.int (i:Nat))]++[MO.lst fs]++[MO.lst ((bw h.boards.length λi=>D.int (i:Nat))++fs)]=s7 at *;have isb:∀d∈(bw h.boards.length λi=>D.int (i:Nat))++fs,∃bd:Nat,d=.int (bd:Nat):=λd hd=>by
  rcases aV.mp hd with hd|hd
  ·obtain⟨j,c⟩:=aL.mp hd;exact⟨j,(zQ c).2⟩
  ·exact⟨0,fz d hd⟩
 generalize (bw h.boards.length λi=>D.int (i:Nat))++fs=L at *;simp![];rw[fk gw];refine tP (λj l v=>∃(y4 y5 y6:Option D),l=[some (D.lit (sJ D.int ns)),some (gX h),some (.dic s3.length),some (.ref r),y4,y5,y6]/\dX s7 v) (λ_ _ _ w=>by obtain⟨_,_,_,_,e⟩:=w;exact e.at_ gw)
  ⟨_,_,_,rfl,dX.refl _⟩ (λB j d l v up rt hd hW=>?_) (λl v hW=>?_)
 ·obtain⟨y4,y5,y6,el,c⟩:=hW;subst el;obtain⟨bd,rfl⟩:=isb d (az hd);have G:=(x6.trans x7).trans c;simp![↓Rx,io,nt];refine X1 (most:=500) hc h500 (G.at_ t4) (λi' M R v2 H hM hf hR E=>?_) (λi' x v2 H I cy E=>?_)
  ·cases st.uniq H;have C:=QI hf hR rc;have le:=CP J C;have l:=G.trans E;have v:=λQ=>u l Q;have o:=((x7.trans c).trans E).at_ gr;simp![↓fk o,ae,↓v];rw[aB (by ext)];have l3:=hh.2.2.2.1;have B:=uj (show h.hands.length<=100 by ext);have O:h.hands.length<=fv:=g8 (by ext);have q2:∀(Q:D->aX->Prop)s,wp (aR (gX h) (.int 1)) Q s=Q (.tup (h.hands.map nE)) s:=λQ s=>dg rfl;simp![↓q2,ae,B,tX,gK,bo,mh,O];refine QL hh Y hcl hM ri rn ⟨C,λj z hz k g=>rk j z hz (k,ib h z k) (cz.mpr ⟨k,g,rfl⟩)⟩ (gnx l) o λL q=>?_;have q5:∀i(Q:D->aX->Prop)s,wp (jg [.int i]) Q s=Q (.bl true) s:=λi Q s=>V8;have cc:∀(A:List D->aX->Prop),wp (collect (aS 0) bR (bW jg (ax (am 0) bu)) dL (bw h.hands.length λk=>D.int (vT (M k) (dR h i):Nat)) [none]) A L=A (bw h.hands.length λ_=>.bl true) L:=λA=>wm tN λk g Q=>by simp![↓q5]
   have pd:Pd 1 (.tup (bw h.hands.length λk=>D.int (vT (M k) (dR h i):Nat))):=.tup λd hd=>by obtain⟨k,g⟩:=aL.mp hd;rw[(zQ g).2];exact .int _
   have I:∀(Q:D->aX->Prop)s,wp (Cw (.tup (bw h.hands.length λk=>D.int (vT (M k) (dR h i):Nat))) (.tup (bw h.hands.length λk=>D.int (vT (M k) (dR h i):Nat)))) Q s=Q (.bl false) s:=λQ s=>WR pd (by ext);have U:∀(Q:D->aX->Prop)s,wp (A0 (.bl false) (bw h.hands.length λ_=>D.bl true)) Q s=Q (.bl false) s:=λQ s=>by
    have h3:h.hands.length=2\/h.hands.length=3:=by have:=hh.2.2.1;ext
    rcases h3 with e|e<;>rw[e]<;>refine dg ?_<;>unfold A0 chk<;>rw[aD (by decide)]<;>rfl
   simp![mh,O,gK,↓cc,↓I,↓U,aY,if_false];exact up ⟨_,_,_,rfl,(c.trans E).trans q⟩
  ·cases st.uniq H;have less:=Xf I cy rkS rn ri;have l:=G.trans E;have v:=λQ=>u l Q;have o:=((x7.trans c).trans E).at_ gr;simp![↓fk o,ae,↓v];rw[aD (by ext)];simp![↓Xc,aY,if_false];exact up ⟨_,_,_,rfl,c.trans E⟩
 ·obtain⟨y4,y5,y6,el,c⟩:=hW;subst el;simp![];exact hQ _
theorem OR{α:Type}{m:M α}{v:α}{s:aX}(h:wp m (λa _=>a=v) s):∃c,m s=.ok v c:=by
 rw[rJ]at h;cases e:m s with
 |ok a c=>rw[e]at h;exact⟨c,by rw[show a=v from h]⟩
 |exc _ _=>rw[e]at h;exact h.elim
 |bad=>rw[e]at h;exact h.elim
theorem xo(c:List Int)(h:c.length<=63):∃g,jN [.lit (c.map D.int)] tS=.ok (.bl true) g:=OR (m:=jN [.lit (c.map D.int)]) (v:=.bl true) (s:=tS) (U7 c h tS rfl (λa _=>a=.bl true) λ_=>rfl)
open PySem PySem.Spec PyProof.Rows L2
theorem IG{l:wG}{q:Program}{c:List Str}{XP:(Str->Option af)->bK->Prop}{O:bN->bK->Prop}{d:DefRec}{K:Params->ah}(Y:l.most=some 63)(J:d.params.defaults=[])(H:d.name="law")(o:List (aj×Str×Str))(I:(o.map (·.1)).Nodup)(G:(o.map λp=>MO.tbl p.2.1 p.2.2)=tS)
  (E:∀(w:bN),∀p∈o,TabOf (K w.params) p.2.1 p.1/\(K w.params).lookup p.1=none) (hY:∀(w:bN)(h:bK),O w h->(K w.params).In h/\∀P∈o.map (·.1),h.get? P=some (d7 #[])) (F:∀(w:bN)(mg:Str->Option af)(h:bK),(K w.params).In h->h.Ns cD mg->Txt (K w.params) mg):
  yt q c XP O l.row.toRowW d [] (λf Q=>v9 f Q):=by
 refine QA (n:=63) (k:=8) (x:="_law_script") (g:=jN) o Y (by decide) J ⟨rfl,by decide,by decide⟩ hY I E (λw mg fa h C B v=>?_) (λB hl=>by rw[G];exact xo B hl);have T:=F w mg h C B;obtain⟨a,fd,L,m⟩:=T.f35;rw[H,m]at v;cases v;refine⟨fd,λs u=>?_,λbase hB=>yk L T hB⟩;obtain⟨oc,od,kV,doc,pm,an,cdv,ct,U,e,lk,hcd⟩:=L.ex;rw[e];exact .of_eq rfl
end My
noncomputable def PySem.W.Fast.tw15804923468233585708:PySem.Program:=PySem.Challenge.pw_pactboards_k31_deeds_on_a_board
theorem PySem.W.Fast.te15804923468233585708:PySem.Challenge.pw_pactboards_k31_deeds_on_a_board=PySem.W.Fast.tw15804923468233585708:=rfl
namespace PySem.W.Fast
def tw4957262449093806908:=0
def tw6189106928106002965:=0
def tw15241965208452861377:=0
def tw5682372883335755264:=0
def tw3665781305852105063:=0
def tw3072563206082613918:=0
def tw13202360956907254913:=0
def tw1817599576513388119:=0
def tw7350717465224877696:=0
def tw5042528659750426678:=0
def tw18199706983080169683:=0
def tw4375593268481799856:=0
def tw16988761230835324299:=0
def tw387455716179398770:=0
def tw8465761684782448337:=0
def tw14123366242284082400:=0
def tw14532825601763613673:=0
def tw10285013537396769617:=0
def tw1271795409260895084:=0
def tw12207664490099987986:=0
def tw16343587022951909658:=0
def tw9997825824892750242:=0
def tw6903658870476622141:=0
def tw726787193265627712:=0
def tw1808846433067760741:=0
def tw4805523549143008063:=0
def tw17914693965954935799:=0
def tw1096660735929201129:=0
def tw8269346475574493699:=0
def tw10052013545938713356:=0
def tw3655356212663295906:=0
def tw15436999114088955908:=0
def tw7818158155420633038:=0
def tw7819357358581798737:=0
def tw5864566607384927360:=0
def tw5894385703090700551:=0
def tw1656694199990484206:=0
def tw1984013107454730290:=0
def tw10154738832702580444:=0
def tw13684601991167797166:=0
def tw128681224732653989:=0
def tw9170858398865924722:=0
def tw14347146873218327346:=0
def tw7471067734712145746:=0
def tw9498371716723674962:=0
def tw3020134521451057725:=0
def tw12697834172507414309:=0
def tw15969983623397176931:=0
def tw5490904697153823139:=0
def tw15068443035146060336:=0
def tw1676019010062131432:=0
def tw17562880333967807152:=0
def tw7192449297956690903:=0
def tw3667436492142665502:=0
def tw10981450352554090419:=0
def tw10273623616847374931:=0
def tw6587421750257933885:=0
def tw1417890642304254543:=0
def tw2597763144385894098:=0
def tw2660759889594630967:=0
def tw8543060828074795478:=0
def tw11199220815235071001:=0
def tw17228112156249456355:=0
def tw3296321408140305361:=0
def tw13307041993309401537:=0
def tw14647676142875374887:=0
def tw10631020310454012286:=0
def tw1001688959593135904:=0
def tw7554576059496523276:=0
def tw7060041379968497700:=0
def tw15980386937898011310:=0
def tw1198875227689086904:=0
def tw5183249687723350109:=0
def tw17180721083001841302:=0
def tw12203389335505688786:=0
def tw197657921935142313:=0
def tw6673289720895383901:=0
def tw13690430496642533760:=0
def tw10113901933918040306:=0
def tw1639584224914121964:=0
def tw16842115343822023995:=0
def tw9635985192159187750:=0
def tw11409316198647492230:=0
def tw15318689713673100684:=0
def tw2213825829547782865:=0
def tw10990238773844180608:=0
def tw16726733390599710330:=0
def tw13723718354857895220:=0
def tw12529657668582951508:=0
def tw5714423781360686087:=0
def tw15338590634006119017:=0
def tw9137231348899755112:=0
def tw18087933680329436487:=0
def tw7476051682451604672:=0
def tw13728131010214961721:=0
def tw11709119401799163223:=0
def tw10832556107705103727:=0
def tw3248749608678295641:=0
def tw11717028185271041537:=0
def tw5704696299541770243:=0
def tw4622180638540790716:=0
def tw13179408644173520417:=0
def tw11301146482167265858:=0
def tw10307971957248731495:=0
def tw15720751794787969417:=0
def tw13633921683972555519:=0
def tw4928906286481067389:=0
def tw13990201067088631136:=0
def tw14376189439334421431:=0
def tw17990441040674261704:=0
def tw3252146440868314150:=0
def tw10586101452755953962:=0
def tw15644083060497614219:=0
def tw14120462583831367334:=0
def tw362519876036198691:=0
def tw12777111413464930602:=0
def tw12229471444832585917:=0
def tw8656223785337188696:=0
def tw4581084959572890355:=0
def tw9960318673026509007:=0
def tw4197877781473971296:=0
def tw16998757600868543095:=0
def tw13500290871461996871:=0
def tw13812136573873463179:=0
def tw5181859472088497024:=0
def tw8896536728808752509:=0
def tw14908262896797998266:=0
def tw2631739942609974755:=0
def tw15298137122786319786:=0
def tw4624704180662748771:=0
def tw9337057386548577682:=0
def tw17980171006720228078:=0
def tw9707044348992306604:=0
def tw5888066666925865399:=0
def tw17969059451499111801:=0
def tw7574415783200272200:=0
def tw18181807546420629944:=0
def tw9994969110850574797:=0
def tw2444472450707643530:=0
def tw15555663662456410218:=0
def tw7020873166472313289:=0
def tw8334248079649886655:=0
def tw6975807508324642974:=0
def tw2138489543296723280:=0
def tw16852716323838949852:=0
def tw1421190312562770222:=0
def tw5305284338495812657:=0
def tw4142873904957072835:=0
def tw1856780902552949187:=0
def tw15426767563169341905:=0
end PySem.W.Fast
open PySem PySem.W PyProof.Rows
set_option maxHeartbeats 0 in
theorem PySem.Challenge.cw_pactboards_k31_deeds_on_a_board_holds : PySem.Challenge.rw_pactboards_k31_deeds_on_a_board.Holds := by
 w_on;o_law;k_head;(case hw=>w_witness2)
 k_fill
 refine My.IG (l:=PySem.Challenge.rw_pactboards_k31_deeds_on_a_board) rfl rfl rfl [(166,"most_deeds","worth")] (by decide) rfl ?T (λw h Y=>⟨PySem.W.km_in_of Y,PySem.W.km_tabs_of Y⟩) ?F
 case T=>
  intro w p hp;simp only[bn,im,or_false]at hp;rcases hp with rfl
  ·refine' MM.AJ ?tg0 ?tl0 ?tc0 ?th0 ?tn0
   case tg0|tl0=>k_is
   case tc0=>rfl
   case th0|tn0=>kernel_rfl
 case F=>
  intro w mg h KX G;refine' My.Txt.mk (MM.gZ KX G ?a0 ?l0 ?c0 ?k0) (MM.gZ KX G ?a1 ?l1 ?c1 ?k1) (MM.gZ KX G ?a2 ?l2 ?c2 ?k2) (MM.gZ KX G ?a3 ?l3 ?c3 ?k3) (MM.gZ KX G ?a4 ?l4 ?c4 ?k4) (MM.gZ KX G ?a5 ?l5 ?c5 ?k5) (MM.gZ KX G ?a6 ?l6 ?c6 ?k6) (MM.gZ KX G ?a7 ?l7 ?c7 ?k7) (MM.gZ KX G ?a8 ?l8 ?c8 ?k8) (MM.Dk (P:=166) KX G ?a9 ?l9 ?c9 ?k9 ?h9) (MM.gZ KX G ?a10 ?l10 ?c10 ?k10) (MM.gZ KX G ?a11 ?l11 ?c11 ?k11) (MM.gZ KX G ?a12 ?l12 ?c12 ?k12) (MM.gZ KX G ?a13 ?l13 ?c13 ?k13) (MM.gZ KX G ?a14 ?l14 ?c14 ?k14) (MM.gZ KX G ?a15 ?l15 ?c15 ?k15) (MM.gZ KX G ?a16 ?l16 ?c16 ?k16) (MM.gZ KX G ?a17 ?l17 ?c17 ?k17) (MM.gZ KX G ?a18 ?l18 ?c18 ?k18) (MM.gZ KX G ?a19 ?l19 ?c19 ?k19) (MM.gZ KX G ?a20 ?l20 ?c20 ?k20) (MM.gZ KX G ?a21 ?l21 ?c21 ?k21) (MM.gZ KX G ?a22 ?l22 ?c22 ?k22) (MM.gZ KX G ?a23 ?l23 ?c23 ?k23) (MM.gZ KX G ?a24 ?l24 ?c24 ?k24) (MM.gZ KX G ?a25 ?l25 ?c25 ?k25) (MM.gZ KX G ?a26 ?l26 ?c26 ?k26) (MM.gZ KX G ?a27 ?l27 ?c27 ?k27) (MM.gZ KX G ?a28 ?l28 ?c28 ?k28) (MM.gZ KX G ?a29 ?l29 ?c29 ?k29) (MM.gZ KX G ?a30 ?l30 ?c30 ?k30) (MM.gZ KX G ?a31 ?l31 ?c31 ?k31) (MM.gZ KX G ?a32 ?l32 ?c32 ?k32) (MM.gZ KX G ?a33 ?l33 ?c33 ?k33) (MM.DA KX G ?a34 ?l34 ?c34 ?k34 ?t34) (MM.gZ KX G ?a35 ?l35 ?c35 ?k35) (MM.iR (cw KX G ?z0) (MM.iR (cw KX G ?z1) (MM.iR (cw KX G ?z2) (MM.iR (cw KX G ?z3) (MM.iR (cw KX G ?z4) (MM.iR (cw KX G ?z5) (MM.iR (cw KX G ?z6) (MM.iR (cw KX G ?z7) (MM.iR (cw KX G ?z8) (MM.iR (cw KX G ?z9) (MM.iR (cw KX G ?z10) (MM.iR (cw KX G ?z11) (MM.iR (cw KX G ?z12) (MM.iR (cw KX G ?z13) MM.FL)))))))))))))) MM.Fc
  case a0|l0|c0|k0|a1|l1|c1|k1|a2|l2|c2|k2|a3|l3|c3|k3|a4|l4|c4|k4|a5|l5|c5|k5|a6|l6|c6|k6|a7|l7|c7|k7|a8|l8|c8|k8|a9|l9|c9|k9|a10|l10|c10|k10|a11|l11|c11|k11|a12|l12|c12|k12|a13|l13|c13|k13|a14|l14|c14|k14|a15|l15|c15|k15|a16|l16|c16|k16|a17|l17|c17|k17|a18|l18|c18|k18|a19|l19|c19|k19|a20|l20|c20|k20|a21|l21|c21|k21|a22|l22|c22|k22|a23|l23|c23|k23|a24|l24|c24|k24|a25|l25|c25|k25|a26|l26|c26|k26|a27|l27|c27|k27|a28|l28|c28|k28|a29|l29|c29|k29|a30|l30|c30|k30|a31|l31|c31|k31|a32|l32|c32|k32|a33|l33|c33|k33|a34|l34|c34|k34|t34|a35|l35|c35|k35|z0|z1|z2|z3|z4|z5|z6|z7|z8|z9|z10|z11|z12|z13=>k_is
  case h9=>kernel_rfl