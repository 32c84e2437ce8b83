import PyProof.Rows.All
import Wide.All
import OpenK.AllK
import Wide.FinOn
import PySem.Challenge.RW_pactboards_k32_whole_numbers_or_a_round
local macro_rules|`(tactic| nofun)=>`(tactic| decide +kernel)
local macro_rules|`(tactic| ext)=>`(tactic| first|lia|omega)
local macro_rules|`(())=>`(by ext)
open Lean in
local macro_rules|`(tactic| let $d:letDecl)=>do
 let rec p:Nat->Syntax->MacroM (TSyntax `rcasesPat)|0,_=>Macro.throwUnsupported|n+1,t=>do match t with
  |`(⟨$a,*⟩)=>`(rcasesPat| ⟨$(← a.getElems.mapM λx=>do `(Parser.Tactic.rcasesPatLo| $(← p n x):rcasesPat)),*⟩)
  |`(_)=>`(rcasesPat| _)
  |_=>`(rcasesPat| $(⟨t⟩):ident)
 if d.raw[0].isOfKind ``Parser.Term.letPatDecl then `(tactic| obtain $(← p 9 d.raw[0][0]):rcasesPat:=$(⟨d.raw[0][4]⟩))else`(tactic| have $d:letDecl)
set_option autoImplicit true
set_option relaxedAutoImplicit true
set_option compiler.extract_closed false
set_option genSizeOf false
set_option Elab.async false
set_option linter.all false
set_option maxRecDepth 100000
set_option maxHeartbeats 4000000
open And renaming intro->aG
open Array renaming ext'->Ip,forIn_toList->kz,getElem?_eq_getElem->m6,getElem?_eq_none->n_,getElem?_toList->fF,length_toList->fO,toList->DL
open Bool renaming and_eq_true->br,and_true->DV,decide_and->lY,eq_false_iff->zT,eq_iff_iff->sR,false_and->t5,false_eq_true->aR,false_ne_true->bD,false_or->DO,not_eq_true'->zR,not_false->iN,not_true->eU,or_eq_false_iff->wV,or_eq_true->lZ
open Classical renaming byContradiction->iH,choose->kS,propDecidable->sS
open False renaming elim->c_
open ForInStep renaming yield->nC
open Int renaming emod_lt_of_pos->kN,emod_nonneg->mr,le_antisymm->BU,le_trans->Io,toNat_natCast->bA,toNat_of_nonneg->ig
open List renaming all_cons->cI,all_eq_true->cU,all_map->EB,any_cons->d6,any_eq_false->zW,any_eq_true->e8,any_map->vN,append_assoc->bz,append_nil->bB,concat_eq_append->oV,cons_append->dA,dropLast_concat->xf,dropLast_eq_take->wn,drop_eq_getElem_cons->dF,drop_length->Ah,drop_zero->pj,eq_nil_or_concat->oU,eq_of_mem_replicate->uV,ext_getElem?->fq,filterMap_cons->pN,filter_append->qu,find?_cons->c8,flatMap_append->xV,flatMap_cons->zV,flatten_cons->zO,foldl_append->nB,foldl_cons->Bj,forIn_cons->kA,forIn_nil->mQ,getD_eq_getElem?_getD->fv,getElem?_append_left->av,getElem?_append_right->aM,getElem?_cons_zero->nZ,getElem?_drop->mT,getElem?_eq_getElem->af,getElem?_eq_none->cf,getElem?_eq_some_iff->ae,getElem?_inj->fu,getElem?_map->au,getElem?_mapIdx->wW,getElem?_of_mem->gG,getElem?_range->mq,getElem?_replicate->fN,getElem?_reverse->oR,getElem?_set_ne->aA,getElem?_set_self->aE,getElem?_take_of_lt->cq,getElem?_zipWith->eQ,getElem_map->lJ,getElem_mem->a_,getElem_toArray->lS,getLast?_concat->w_,idxOf_cons->sU,idxOf_lt_length_iff->fL,isEmpty_iff->iT,length->dZ,length_append->aB,length_cons->bU,length_drop->ia,length_dropLast->wS,length_filter_le->oT,length_map->ag,length_nil->gC,length_pos_iff->xW,length_pos_of_mem->vP,length_replicate->fH,length_reverse->g_,length_set->du,length_singleton->fY,length_take->bE,length_zipWith->hU,lookup->Il,lookup_cons->lI,lookup_cons_self->wu,map->BY,map_append->bC,map_congr_left->dP,map_cons->aT,map_map->kZ,map_nil->mz,map_set->vO,mem_append->aO,mem_append_left->bv,mem_append_right->bK,mem_cons->aX,mem_cons_of_mem->bF,mem_cons_self->cD,mem_filter->kt,mem_filterMap->mP,mem_iff_getElem?->aN,mem_map->bQ,mem_map_of_mem->i5,mem_of_getElem?->ax,mem_of_mem_take->gH,mem_range->dY,mem_singleton->aI,nil_append->eX,nodup_append->c9,nodup_cons->lW,nodup_nil->ua,not_mem_nil->cO,of_mem_zip->lX,range->b_,range'->Iq,range_succ->kC,range_succ_eq_map->ou,replicate->bw,replicate_succ->mj,replicate_succ'->xg,reverse_cons->gE,set_append_right->wv,size_toArray->aL,sum_append->kE,sum_cons->iw,sum_nil->rh,take_length->d9,take_of_length_le->oy,take_sublist->zJ,take_succ->iO,take_succ_eq_append_getElem->lc,zipIdx_cons->Aj,zipIdx_nil->Bo
open List.Pairwise renaming nil->t6
open List.cons renaming inj->mI
open Nat renaming add_assoc->qr,add_zero->Im,div_eq_of_lt->iZ,le_antisymm->B0,le_max_left->BX,le_max_right->Br,le_of_eq->Ih,le_of_lt->gK,le_of_not_lt->sK,le_refl->ay,le_succ->Jz,le_trans->c5,lt_irrefl->cT,lt_of_le_of_lt->zS,lt_of_lt_of_le->bh,lt_of_sub_eq_succ->wX,lt_succ_of_lt->nD,lt_succ_self->iW,lt_trans->oI,min_eq_left->tJ,mod_lt->zU,mul_add_div->kG,mul_comm->iY,mul_le_mul_right->pI,ne_of_gt->dm,ne_of_lt->bj,not_lt_zero->tL,pow_succ->oM,strongRecOn->tN,sub_self->fB,succ_mul->ww,zero_add->Ir,zero_le->bH
open Nat.succ renaming inj->lT
open Ne renaming symm->fI
open Option renaming bind_eq_some_iff->uH,getD_none->q_,getD_some->gX,isNone_none->w9,isNone_some->w8,isSome_iff_exists->fJ,isSome_map->kP,isSome_none->mD,isSome_some->km,map_eq_some_iff->cG,map_some->dJ
open Option.some renaming inj->aF
open Prod renaming ext->wQ
open PyProof.Rows renaming AllBare->mw,IntsAre->my,IsTup->Be,Subscript_->DM,callWith_type1->cz,envOfC->oH,kmb_tree->sM,slot_tuple_getitem->o8,subscriptTail->xK,subscriptTail_builtinR->zL,tail_any->Bh,wpAny_notIn_heap->Ii
open PyProof.Rows.IntsAre renaming length->zQ
open PySem renaming Addr->ak,Arguments->iM,Around->bM,BindsTo->tx,CmpOp->uO,DictEntry->lB,Expr->xO,FuncData->dq,Heap->bN,HeapKind->pc,InCallC->pH,IsItemIter->kg,IsItemIterOut->xT,IsPair->fG,IsPart->uE,IsTupleKey->DQ,IsZip->mH,ItemsOf->ED,Keyword->iD,MeetsIn->Ez,Model->Eo,NameKind->dL,Operator->qG,Paired->fw,PassesOwn->uC,Scope->dB,Shared->aq,Spec->dO,Stmt->Ik,TriplesOk->pd,Value->ah,World->bR,ZipApart->nU,argBest->ot,assign->pF,assignEach->d_,atKey->kR,atKey_none_of_get->Ey,atKey_of_get->tE,attributeBase->dS,backToKw->o9,behindInMarks->ij,binaryOp->fP,bindArgs->g9,bindC->qI,bindL->qH,bindSpecial->uU,bootBuiltins->dg,builtinLookup_eq_fast->iQ,builtinsNs->nL,cLine->cN,call->xN,call_meets->wg,call_meetsIn->tF,call_reversed_list->DU,callerA->mB,cellsFrom->bT,closureFor->nQ,codeAmong->mn,codeAny->ky,codeAny_builtin->fV,codeAny_call_function->Af,codeAny_mono->lL,collect->BW,compareOp->cS,concat_meets->zK,defaultsOf->DT,dictSet->Ew,dictSetDefault->wq,entryOfKey->pE,entry_at->Bp,eqIsQuiet->rb,eqIsQuiet_byValue->Ev,evalArgs_none->wR,evalPart_none->xJ,field->qL,firstArgMember->lN,foldedSetIterable->fS,getItem->qZ,getattributeRaised->DW,holding->lK,intItems->wj,intItems_at->Bk,intKind->qX,isInstance->DR,isSubtype_stop->nV,isSubtype_tuple_tuple->qh,keywordEach->lA,letOwnedTupleGo->pO,mainGlobals->cW,mem_of_lookup->bb,model->aY,name_of_addr->zI,newExc->zP,newFunctionEnv->qK,noFill_tuple_add->uD,not_mem_keys_of_get->BR,numAt->oq,numAt_eq->Bl,plainId_quiet->f_,pushCells->yH,pushCells_keeps->mZ,putAt->uR,pyIter->zH,pyNext->ip,rawInt->dU,relabel->k_,release->Er,seqIndex_neg->tz,seqIndex_of->uP,seqItems?->kB,seq_tuple_add->xI,setField->Bq,setItem->pG,sizeLine_eq->mG,size_of_entries->iL,sliceBounds->fZ,slicePick->yE,slot_list_getitem->tB,spliced->tq,standAt->zG,storeName->qY,storedH->mC,swapsWith->ly,sysModules->cJ,tupleKind->uB,tupleKind_room_in1->nO,typeLookup->nN,typeLookup_type->m5,typeOf->DN,unaryOp->Es,valueAt->tD,wpAny->aH,wpAny_Call_Name_kw->dM,wpAny_Call_method0_late->yF,wpAny_Call_method_late->zN,wpAny_Dict_empty->Ij,wpAny_Name->DK,wpAny_assign_Name->Ep,wpAny_attempt->il,wpAny_bind->ab,wpAny_call->wa,wpAny_callSpecial?_slot->bX,wpAny_call_entry->cA,wpAny_dictEntries->dH,wpAny_dictEpoch->gY,wpAny_dictFind_heap->rG,wpAny_eqBool_int->uA,wpAny_execs_cons->Ie,wpAny_execs_nil->vE,wpAny_field->cH,wpAny_fieldsOf->qN,wpAny_forIn_list->ml,wpAny_getItem_heap->DP,wpAny_getItem_list_neg->zM,wpAny_getItem_list_slice->xL,wpAny_handled->xQ,wpAny_holding->cw,wpAny_isInstance->eL,wpAny_isOneOf_itemiter->pK,wpAny_isOneOf_keyiter->Ak,wpAny_letGo->ke,wpAny_loadName_cell->BP,wpAny_loadName_local->Bg,wpAny_loadPart'->kX,wpAny_mono->fU,wpAny_newFunctionEnv_cells->we,wpAny_newObj_type->b9,wpAny_newTuple->wo,wpAny_nextOf_list_end->qj,wpAny_nextOf_list_item->lO,wpAny_notOrdered_dict->gF,wpAny_of_eq->ox,wpAny_onRaise->rQ,wpAny_passesOwn->iK,wpAny_pure->aj,wpAny_pyHash_int->Ib,wpAny_pyIter_enum->EC,wpAny_pyIter_list->g8,wpAny_pyIter_revIter->qO,wpAny_pyIter_slot->EE,wpAny_pyIter_tuple->nR,wpAny_pyIter_zip->uG,wpAny_ret_mkInt->Jy,wpAny_richCompare_same_room->vK,wpAny_rule->iE,wpAny_seqItems->dh,wpAny_sequenceKey->Et,wpAny_setField->nS,wpAny_setField_rec->dk,wpAny_specialOf->kY,wpAny_standAt->xH,wpAny_storeName_cell->Bf,wpAny_storeName_local->Ae,wpAny_throw->Bm,wpAny_truthy_bool->fR,wpAny_tryCatch->lP,wpAny_tupleItemsOf->sL,wpAny_typeNameOfWhole_itemiter->iq,wpAny_typeNameOfWhole_keyiter->iA,wpAny_typeNameOf_itemiter->kH,wpAny_typeNameOf_keyiter->kT,wpAny_typeOf->nu,wpAny_updateDictKeys->Bi,wpAny_updateSeq->vG,wpAny_updateSeq_pair->qM
open PySem.Around renaming frames_deeper->vJ,under_plainId->dX
open PySem.Builtin.Builtins renaming bindParams->gW
open PySem.Builtin.Dict renaming dictSlotArgs->qP,keyAndDefault->qt,pairItems->rR,samePairs->rS,showsAll->ie
open PySem.Builtin.Dict_items renaming ownedTupleFields->m7,ownedTupleIsFree->m8,ownsTuple->fC,pairFromOwner->nE
open PySem.Builtin.List renaming listExtendWith->qp,listLengthHint->qo,listSameRef->rg
open PySem.Builtin.Slice renaming sliceAdjust->lM,sliceApplied->p9,slicePlaces->ir
open PySem.Builtin.SmallTypes renaming nextOf->bI,ownedTupleHandOut->mR,ownedTupleIsFree->ck
open PySem.Builtin.Tuple renaming tupleExact->fA,tupleHashOf->dW,tupleItemsOf->p_
open PySem.Calls renaming Name_function_global->tw,callWith_builtin->kQ,evalArgs_plain->o_,spliced_cons->im,spliced_nil->iz
open PySem.Challenge renaming pw_pactboards_k32_whole_numbers_or_a_round->kh
open PySem.Data renaming fields->Ig
open PySem.F renaming args_dict_itemiterator_next_1->sT,args_dict_keyiterator_next_1->tH,args_tuple_add_2->mY,args_tuple_iterator_next_1->uF,args_zip_next_1->nY,entry_dict_itemiterator_next->tM,entry_dict_keyiterator_next->t7,entry_max->wZ,entry_max_loop->kM,entry_tuple_add->nt,entry_tuple_iterator_next->uS,entry_zip_next->oK,kind_max->xU,plainAttrs_dict->BV,plainAttrs_list->nv,plain_list_iadd->t8,plain_max->wY,plain_max_loop->dC,plain_tuple_new->t9,slot_dict_eq->vH,slot_dict_get->EG,slot_dict_itemiterator_next->iu,slot_dict_items->BZ,slot_dict_items_iter->xS,slot_dict_iter->DS,slot_dict_keyiterator_next->iF,slot_dict_len->EA,slot_dict_setdefault->xR,slot_dict_setitem->Ag,slot_enumerate_next->yK,slot_list_index->t_,slot_tuple_add->nM,slot_tuple_eq->pi,slot_tuple_hash->nX,slot_tuple_iterator_next->iX,slot_zip_next->gN
open PySem.Heap renaming ExtBut->nw,SameBut->cX,get?_push_of_some->am,get?_push_size->aC,get?_update_other->dG,get?_update_self->cY,lt_size->aK,size_push->cB
open PySem.Heap.DictOfH renaming new->uT
open PySem.Heap.IsSliceOf renaming new->sQ
open PySem.Heap.Ns renaming new->BS
open PySem.Heap.SameBut renaming update->cM
open PySem.NameKind renaming cell->fQ,free->bJ
open PySem.Obj renaming cls_mapFields->Ai,data_mapDict->n9,data_mapDictKeys->ff,data_mapFields->m4,isFreed_of_dict->ib,isFreed_of_fields->wT,mapFields->EF,mapSeq->qJ
open PySem.Paired renaming length->cZ,snoc->oQ
open PySem.PassesOwn renaming never->iR
open PySem.ScopeKind renaming function->vF
open PySem.SeqAt renaming EqAt->qd,notIn_listAt->xM
open PySem.SeqAt.EqAt renaming int_int->uQ,int_str->uM,str_int->uN
open PySem.Shared renaming TypeIs->pJ,heap->vL
open PySem.Str renaming ofString->aD
open PySem.Value renaming bool->dE,builtin->BQ,int->kF,isInt->rP,isStrOf->BO,none->cK,ref->bG,str->rF,type->Ic
open PySem.Value.type renaming inj->wU
open PySem.W renaming Frag->ai,KasT->Bn,KatTups->yJ,OpenLaw->yL,WalkO->Al,callWith_K->wc,cellsFrom_some->ik,codeHdIn->eZ,codeHd_of_K->pf,codeIn->gU,fnOf->cF,fnX->rf,kas_sort->nA,kat_nil->yI,keepIn->di,kla_fn->oJ,kla_obj->yG,methodObj->pZ,mg_of->tK,nsIn->gz,tabObj->fj
open PySem.W.WData renaming int->Jx
open PySem.W.WShape renaming has->Eu
open PySem.Walks renaming list->tG
open Sum renaming inl->mF,inr->rE
open True renaming intro->gM
noncomputable section
noncomputable def aJ:=@if_pos
noncomputable def az:=@if_neg
noncomputable def ba:=@decide_eq_false
noncomputable def bY:=@decide_eq_true
noncomputable def bo:=@absurd
noncomputable def cQ:=@congrArg
namespace L2
open PySem PySem.Spec PyProof.Rows
noncomputable abbrev Key:=Sum Int Str
def tU:Key->ah->Bool
 | .inl k,v=>rP k v| .inr x,v=>BO x v
def KD(w:bR):Key->Int
 | .inl k=>hashInt k| .inr x=>hashStr w x
theorem gi:∀{k:Key}{v:ah},tU k v=true->(∃i t,k=mF i/\v=kF i t)\/(∃x t,k=rE x/\v=rF x t)
 | .inl i,v,h=>by let⟨t,e⟩:=ah.isInt_shape (k:=i) (v:=v) h;exact .inl ⟨i,t,rfl,e⟩| .inr x,v,h=>by let⟨t,e⟩:=ah.isStrOf_shape (x:=x) (v:=v) h;exact .inr ⟨x,t,rfl,e⟩
def Qaa(i:Int)(t:Tok):tU (.inl i) (.int i t)=true:=by simp[tU,rP]
def Qab(x:Str)(t:Tok):tU (.inr x) (.str x t)=true:=by simp[tU,BO]
def Tx(a b:Int):decide ((mF a:Key)=mF b)=(a == b):=by
 by_cases e:a=b
 ·subst e;simp
 ·let h:¬ (mF a:Key)=mF b:=λq=>e (mF.inj q);rw[ba h];exact (beq_eq_false_iff_ne.mpr e).symm
def Qad(a b:Str):decide ((rE a:Key)=rE b)=decide (a=b):=by
 by_cases e:a=b
 ·subst e;simp
 ·let h:¬ (rE a:Key)=rE b:=λq=>e (rE.inj q);rw[ba h,ba e]
def U6(a:Int)(b:Str):decide ((mF a:Key)=rE b)=false:=ba nofun
def Zj(a:Str)(b:Int):decide ((rE a:Key)=mF b)=false:=ba nofun
def gL(prog:Program)(w:bR):PySem.KeyKind prog w Key where
 is:=tU
 hash:=KD w
 inj:=λv a b l g=>by
  rcases gi l with ⟨i,t,rfl,rfl⟩|⟨x,t,rfl,rfl⟩
  ·rcases gi g with ⟨j,u,rfl,e⟩|⟨y,u,rfl,e⟩
   ·injection e with e1 _;rw[e1]
   ·exact nomatch e
  ·rcases gi g with ⟨j,u,rfl,e⟩|⟨y,u,rfl,e⟩
   ·exact nomatch e
   ·injection e with e1 _;rw[e1]
 byValue:=λk v h=>by rcases gi h with ⟨i,t,rfl,rfl⟩|⟨x,t,rfl,rfl⟩<;>rfl
 pyHash:=λc h=>by
  rcases gi c with ⟨i,t,rfl,rfl⟩|⟨x,t,rfl,rfl⟩
  ·exact Ib h
  ·exact wpAny_pyHash_str h
 eqBool:=λhu c h=>by
  rcases gi hu with ⟨i,t,rfl,rfl⟩|⟨x,t,rfl,rfl⟩
  ·rcases gi c with ⟨j,u,rfl,rfl⟩|⟨y,u,rfl,rfl⟩
   ·rw[Tx]at h;exact uA h
   ·rw[U6]at h;exact uM i t y u _ _ _ _ h
  ·rcases gi c with ⟨j,u,rfl,rfl⟩|⟨y,u,rfl,rfl⟩
   ·rw[Zj]at h;exact uN x t j u _ _ _ _ h
   ·rw[Qad]at h;exact wpAny_eqBool_str h
 «strs»:=λk x t v h=>by
  rcases gi h with ⟨i,u,rfl,e⟩|⟨y,u,rfl,e⟩
  ·exact nomatch e
  ·injection e with e1 _
   subst e1;cases v<;>rfl
def Yg(prog:Program)(w:bR)(i:Int)(t:Tok):(gL prog w).is (.inl i) (.int i t)=true:=Qaa i t
def WH(prog:Program)(w:bR)(x:Str)(t:Tok):(gL prog w).is (.inr x) (.str x t)=true:=Qab x t
inductive V where
 |non|bl (b:Bool)|int (i:Int)|str (x:Str)|byt (b:Array UInt8)|flt (b:UInt64)|ref (a:ak)|ty (n:String)
 deriving DecidableEq
noncomputable def RelV:V->ah->Prop
 | .non,u=>u=cK| .bl b,u=>u=dE b| .int i,u=>∃t,u=kF i t| .str x,u=>∃t,u=rF x t| .byt b,u=>∃t,u=ah.bytes b t| .flt b,u=>∃t,u=ah.float b t| .ref a,u=>u=bG a| .ty n,u=>u=Ic n
abbrev cj:List V->List ah->Prop:=fw RelV
theorem cj.length(r:cj xs c):xs.length=c.length:=cZ r
theorem cj.get:∀{xs:List V}{c:List ah}{i:Nat}{x:V},cj xs c->xs[i]?=some x->∃u,c[i]?=some u/\RelV x u
 |_,_,_,_,.nil,e=>by simp at e|_,_,0,_,.cons r _,e=>by simp at e;subst e;exact⟨_,rfl,r⟩|_,_,i+1,x,.cons _ t,e=>by let⟨u,h,g⟩:=cj.get (i:=i) (x:=x) t (by simpa using e);exact⟨u,by simpa using h,g⟩
theorem cj.set(r:RelV x u):∀{xs:List V}{c:List ah}(i:Nat),cj xs c->cj (xs.set i x) (c.set i u)
 |_,_,_,.nil=>.nil|_,_,0,.cons _ t=>.cons r t|_,_,i+1,.cons q t=>.cons q (cj.set r i t)
theorem cj.append:∀{xs ys:List V}{c ws:List ah},cj xs c->cj ys ws->cj (xs++ys) (c++ws)
 |_,_,_,_,.nil,s=>s|_,_,_,_,.cons r t,s=>.cons r (cj.append t s)
theorem cj.take:∀{xs:List V}{c:List ah}(n:Nat),cj xs c->cj (xs.take n) (c.take n)
 |_,_,0,_=>.nil|_,_,_+1,.nil=>.nil|_,_,n+1,.cons r t=>.cons r (cj.take n t)
theorem cj.drop:∀{xs:List V}{c:List ah}(n:Nat),cj xs c->cj (xs.drop n) (c.drop n)
 |_,_,0,r=>r|_,_,_+1,.nil=>.nil|_,_,n+1,.cons _ t=>cj.drop n t
def rC:Option V->Option ah->Prop
 |some v,some u=>RelV v u|none,none=>True|_,_=>False
def KV{κ:Type}:List (κ×V)->List (κ×ah)->Prop:=fw λ(p:κ×V)(q:κ×ah)=>p.1=q.1/\RelV p.2 q.2
def kV:Key->V
 | .inl i=>.int i| .inr x=>.str x
inductive HO where
 |lst (xs:List V)|tup (xs:List V)|dK (ar:List (Key×V))|dT (ar:List (List Key×V))
 |set (S:Int->Bool) (n:Nat)|ins (C dx:ak) (fs:List (Str×V))|own (x:ak)|xd (fs:List (Str×V))|met (f x:ak)|rng (lo hi:Int)|frz (o:Obj) (u:HO)|tbl (ps:Array ah)|ext (φ:bN->Prop)
noncomputable abbrev Hp:=ak->Option HO
noncomputable def fT(H:Hp)(a:ak)(o:HO):Hp:=λb=>if b=a then some o else H b
def lH:fT H a o a=some o:=by unfold fT;rw[aJ rfl]
def gB(h:b≠a):fT H a o b=H b:=by unfold fT;rw[az h]
def Qak{H:Hp}(h:H a=some o)(h':H b=some u)(d:o≠u):a≠b:=by intro e;subst e;rw[h]at h';exact d (aF h')
def oZ{H:Hp}(h:H a=some o)(h':H b=none):a≠b:=by intro e;subst e;rw[h]at h';cases h'
noncomputable def lg(h:bN)(a:ak)(its:Array ah):Prop:=∃o,h.get? a=some o/\o.cls=.type "tuple"/\(∃n,o.data=.seq its n)/\o.dict=none
def lg.is(p:lg h a its):Be h a its:=let ⟨o,e,c,d,_⟩:=p;⟨o,e,c,d⟩
theorem lg.lt(p:lg h a its):a < h.objs.size:=p.is.lt
def lg.new(h:bN)(its:Array ah):lg (h.push { cls:=.type "tuple",data:=.seq its }) h.objs.size its:=⟨_,aC _ rfl,rfl,⟨_,rfl⟩,rfl⟩
section
variable(P:Program)(w:bR)
def gP(H:Hp)(h:bN)(a:ak):HO->Prop
 | .lst xs=>xs.length<=sizeLine/\∃(its:List ah)(n:Nat),cj xs its/\h.get? a=some { cls:=.type "list",data:=.seq its.toArray n }| .tup xs=>xs.length<=sizeLine/\∃its:List ah,cj xs its/\lg h a its.toArray| .dK ar=>ar.length<=sizeLine/\(a == cJ)=false/\∃g,KV ar g/\h.DictOf (gL P w) a g
 | .dT ar => ar.length <= sizeLine /\ (a == cJ) = false /\ ∃xs : List (List Key×ak×ah),
   fw (λ(p:List Key×V)(q:List Key×ak×ah)=>p.1=q.1/\H q.2.1=some (.tup (p.1.map kV))/\RelV p.2 q.2.2) ar xs /\
   ∃o es ep,h.get? a=some o/\o.ExactDict/\o.data=.dict es ep/\es.toList=xs.map (pE (uB (gL P w)))/\(xs.map (·.1)).Nodup
 | .set S n=>h.SetOf (qX P w) a S n
 | .ins C dx fs => H dx = some (.own a) /\ fs.length <= 1000 /\ dx ≠ a /\ h.get? a = some (PySem.W.instObj C dx) /\
   ∃c,h.Ns1 dx c/\(∀f,rC (fs.lookup f) (c f))/\PySem.Within c (fs.map (·.1))
 | .own _=>∃o,h.get? a=some o| .xd fs=>∃c,h.Ns1 a c/\∀f,rC (fs.lookup f) (c f)| .rng lo hi=>∃t u v,h.get? a=some { cls:=.type "range",data:=.fields #[.int lo t,.int hi u,.int 1 v] }| .frz o u=>h.get? a=some o/\gP H h a u| .tbl ps=>h.get? a=some { cls:=.none,data:=.fields ps }| .met f x=>h.get? a=some (pZ (.ref f) (.ref x))| .ext φ=>φ h/\(∃o,h.get? a=some o)/\∀B l:bN,φ B->(∀o,B.get? a=some o->l.get? a=some o)->φ l
def n0(H:Hp)(h:bN):Prop:=∀a o,H a=some o->gP P w H h a o
end
section
variable{H H':Hp}{h h':bN}{a:ak}
theorem gP.lt(x:gP P w H h a o):a < h.objs.size:=by
 cases o with|lst xs=>let⟨_,_,_,_,e⟩:=x;exact aK e|tup xs=>let⟨_,_,_,p⟩:=x;exact p.lt|dK ar=>let⟨_,_,_,_,o,_,_,e,_⟩:=x;exact aK e|dT ar=>let⟨_,_,_,_,o,_,_,e,_⟩:=x;exact aK e|set S n=>let⟨o,_,_,_,e,_⟩:=x;exact aK e|ins C dx fs=>let⟨_,_,_,e,_⟩:=x;exact aK e|own y=>let⟨_,e⟩:=x;exact aK e|xd fs=>let⟨_,⟨_,_,_,e,_⟩,_⟩:=x;exact aK e|rng lo hi=>let⟨_,_,_,e⟩:=x;exact aK e|frz ob u=>let⟨e,_⟩:=x;exact aK e|tbl ps=>exact aK (show h.get? a=some _ from x)|met f y=>exact aK (show h.get? a=some _ from x)|ext φ=>let⟨_,⟨_,e⟩,_⟩:=x;exact aK e
theorem fw.mapP{α β:Type}{F G:α->β->Prop}:∀{l₁:List α}{l₂:List β},fw F l₁ l₂->(∀a b,F a b->G a b)->fw G l₁ l₂
 |_,_,.nil,_=>.nil|_,_,.cons r t,f=>.cons (f _ _ r) (fw.mapP t f)
def gP.stay(x:gP P w H h a o)(k:∀b u,(b=a\/H b=some (.own a))->h.get? b=some u->h'.get? b=some u)(I:∀b,H b=some (.own a)->H' b=some (.own a)) (G:∀b xs,H b=some (.tup xs)->H' b=some (.tup xs)):gP P w H' h' a o:=by
 induction o with
 |lst xs=>let⟨z,its,n,r,e⟩:=x;exact⟨z,its,n,r,k _ _ (.inl rfl) e⟩|tup xs=>let⟨z,its,r,g,e,c⟩:=x;exact⟨z,its,r,g,k _ _ (.inl rfl) e,c⟩|dK ar=>let⟨z,y,E,r,g,es,ep,e,c⟩:=x;exact⟨z,y,E,r,g,es,ep,k _ _ (.inl rfl) e,c⟩|dT ar=>
  let⟨z,y,xs,r,g,es,ep,e,c⟩:=x;exact⟨z,y,xs,fw.mapP r λp q z=>⟨z.1,G _ _ z.2.1,z.2.2⟩,g,es,ep,k _ _ (.inl rfl) e,c⟩
 |set S n=>let⟨g,es,ep,t,e,c⟩:=x;exact⟨g,es,ep,t,k _ _ (.inl rfl) e,c⟩|ins C dx fs=>
  let⟨d,z,ne,e,B,⟨l,es,ep,J,c⟩,r⟩:=x;exact⟨I _ d,z,ne,k _ _ (.inl rfl) e,B,⟨l,es,ep,k _ _ (.inr d) J,c⟩,r⟩
 |own y=>let⟨g,e⟩:=x;exact⟨g,k _ _ (.inl rfl) e⟩|xd fs=>let⟨B,⟨l,es,ep,e,c⟩,r⟩:=x;exact⟨B,⟨l,es,ep,k _ _ (.inl rfl) e,c⟩,r⟩|rng lo hi=>let⟨t,u,v,e⟩:=x;exact⟨t,u,v,k _ _ (.inl rfl) e⟩|frz g u ih=>let⟨e,q⟩:=x;exact⟨k _ _ (.inl rfl) e,ih q⟩|tbl ps=>
  let e:h.get? a=some { cls:=.none,data:=.fields ps }:=x
  show h'.get? a=some { cls:=.none,data:=.fields ps };exact k a _ (.inl rfl) e
 |met f y=>
  let e:h.get? a=some (pZ (.ref f) (.ref y)):=x
  show h'.get? a=some (pZ (.ref f) (.ref y));exact k a _ (.inl rfl) e
 |ext φ=>let⟨p,⟨o,e⟩,st⟩:=x;exact⟨st _ _ p λo q=>k _ _ (.inl rfl) q,⟨o,k _ _ (.inl rfl) e⟩,st⟩
theorem n0.lt(x:n0 P w H h)(e:H a=some o):a < h.objs.size:=(x a o e).lt
def n0.fresh(x:n0 P w H h)(e:h.objs.size<=a):H a=none:=by
 cases q:H a with|none=>rfl|some u=>exact bo (bh (x.lt q) e) (cT _)
def n0.kept(x:n0 P w H h)(k:∀b u,h.get? b=some u->h'.get? b=some u):n0 P w H h':=λa o e=>
 (x a o e).stay (λb u _ q=>k b u q) (λ_ q=>q) λ_ _ q=>q
def n0.laid(x:n0 P w H h)(k:∀b u,h.get? b=some u->h'.get? b=some u)(B:h.objs.size<=a)(new:gP P w (fT H a o) h' a o):n0 P w (fT H a o) h':=λb u e=>by
 let g:=x.fresh B;by_cases l:b=a
 ·subst l;rw[lH]at e;cases e;exact new
 ·rw[gB l]at e;exact (x b u e).stay (λc v _ q=>k c v q) (λc q=>by rw[gB (oZ q g)];exact q) λc xs q=>by rw[gB (oZ q g)];exact q
end
noncomputable def Rd(H:Hp)(a:ak)(u:HO):Prop:=H a=some u\/∃o,H a=some (.frz o u)
def Rd.ok(r:Rd H a u)(x:n0 P w H h):gP P w H h a u:=by
 rcases r with r|⟨o,r⟩
 ·exact x a u r
 ·let⟨_,q⟩:=x a _ r;exact q
noncomputable def Fb:Option HO->Prop
 |some (.lst _)=>True|some (.dK _)=>True|some (.dT _)=>True|some (.set _ _)=>True|some (.ins _ _ _)=>True|some (.ext _)=>True|_=>False
section
variable{h h':bN}
def n0.write(ok:n0 P w H h)(B:Fb (H x))(J:e=x\/H e=some (.own x))(k:∀b u,b≠e->h.get? b=some u->h'.get? b=some u)(G:∃u,h'.get? e=some u)(new:gP P w (fT H x o') h' x o'):n0 P w (fT H x o') h':=λb u q=>by
 let l:∀c y,H c=some (.own y)->c≠x:=λc y r z=>by subst z;rw[r]at B;exact B
 let o:∀c xs,H c=some (.tup xs)->c≠x:=λc xs r z=>by subst z;rw[r]at B;exact B
 by_cases E:b=x
 ·subst E;rw[lH]at q;cases q;exact new
 ·rw[gB E]at q;by_cases g:b=e
  ·let I : H b = some (.own x) := by
     rcases J with z|z
     ·exact bo (g.trans z) E
     ·rw[g];exact z
   rw[q]at I;cases I;let⟨v,L⟩:=G;exact⟨v,by rw[g];exact L⟩
  ·refine (ok b u q).stay (λc v C r=>k c v ?_ r) (λc r=>by rw[gB (l c b r)];exact r) λc xs r=>by rw[gB (o c xs r)];exact r
   rcases C with rfl|C
   ·exact g
   ·rintro rfl
    rcases J with z|z
    ·exact l c b C z
    ·rw[C]at z;cases z;exact E rfl
end
structure Un(fs ex:List ak)(H H':Hp)(h h':bN):Prop where
 keep:∀b o,h.get? b=some o->H b=none->b∉fs->b∉ex->h'.get? b=some o
 slot:∀b o,h.get? b=some o->H b=none->b∈fs->b∉ex->∃sl,h'.get? b=some { o with slots:=sl }
 free:∀b o,h.get? b=some o->H b=none->b∉ex->H' b=none
 there:∀b o,h.get? b=some o->b∉ex->∃o',h'.get? b=some o'
 tups:∀b xs,H b=some (.tup xs)->H' b=some (.tup xs)
 frzs:∀b o u,H b=some (.frz o u)->H' b=some (.frz o u)
 tbls:∀b ps,H b=some (.tbl ps)->∃more,H' b=some (.tbl (ps++more))
section
variable{H H1 H2:Hp}{h h1 h2 h':bN}
def Un.any(u:Un fs ex H H1 h h1)(q:h.get? b=some c)(n:H b=none)(g:b∉ex):∃v,h1.get? b=some { c with slots:=v }:=by
 by_cases l:b∈fs
 ·exact u.slot b c q n l g
 ·exact⟨c.slots,u.keep b c q n l g⟩
def Un.kept(k:∀b u,h.get? b=some u->h'.get? b=some u):Un fs ex H H h h':=
 ⟨λb c q _ _ _=>k b c q,λb c q _ _ _=>⟨c.slots,k b c q⟩,λ_ _ _ n _=>n,λb c q _=>⟨c,k b c q⟩,λ_ _ q=>q,λ_ _ _ q=>q,λ_ ps q=>⟨#[],by rw[q];simp⟩⟩
def Un.refl:Un fs ex H H h h:=Un.kept λ_ _ q=>q
def Un.laid(k:∀b u,h.get? b=some u->h'.get? b=some u)(g:h.objs.size<=a)(c:H a=none):Un fs ex H (fT H a o) h h' where
 keep:=λb u q _ _ _=>k b u q
 slot:=λb u q _ _ _=>⟨u.slots,k b u q⟩
 free:=λb u q n _=>by rw[gB (bj (bh (aK q) g))];exact n
 there:=λb u q _=>⟨u,k b u q⟩
 tups:=λb xs q=>by rw[gB (oZ q c)];exact q
 frzs:=λb u xs q=>by rw[gB (oZ q c)];exact q
 tbls:=λb ps q=>⟨#[],by rw[gB (oZ q c),q];simp⟩
def Un.write(g:Fb (H x))(E:e=x\/H e=some (.own x))(k:∀b u,b≠e->h.get? b=some u->h'.get? b=some u)(v:∃u,h'.get? e=some u):Un fs ex H (fT H x o) h h':=by
 let B:∀b,H b=none->b≠x:=λb n z=>by subst z;rw[n]at g;exact g
 let C:∀b,H b=none->b≠e:=λb n z=>by
  subst z;rcases E with r|r
  ·exact B b n r
  ·rw[n]at r;cases r
 let l:∀b u,H b=some u->¬ Fb (some u)->b≠x:=λb u q nm z=>by subst z;rw[q]at g;exact nm g
 refine⟨λb u q n _ _=>k b u (C b n) q,λb u q n _ _=>⟨u.slots,k b u (C b n) q⟩,λb u q n _=>by rw[gB (B b n)];exact n,λb u q _=>?_,
  λb xs q=>by rw[gB (l b _ q λz=>z)];exact q,λb u xs q=>by rw[gB (l b _ q λz=>z)];exact q,λb ps q=>⟨#[],by rw[gB (l b _ q λz=>z),q];simp⟩⟩
 by_cases c:b=e
 ·subst c;exact v
 ·exact⟨u,k b u c q⟩
end
noncomputable def trk(h:bN)(H:Hp):List ak:=(b_ h.objs.size).filter λa=>(H a).isSome
def pB(h:bN)(H:Hp):bN:=PySem.W.hideAll h (trk h H)
def Qj(h:bN)(H:Hp):(pB h H).objs.size=h.objs.size:=PySem.W.hideAll_size _ _
def Q7{h:bN}{H:Hp}(e:h.get? b=some o)(n:H b=none):(pB h H).get? b=some o:=
 PySem.W.hideAll_get _ e λc=>by have q:(H b).isSome=true:=(kt.mp c).2;rw[n]at q;simp at q
def NA(e:(pB h H).get? b=some o):h.get? b=some o/\H b=none:=by
 let c:h.get? b=some o:=PySem.W.of_hideAll (trk h H) e;refine⟨c,?_⟩;cases q:H b with|none=>rfl|some x=>
  let g:b∈trk h H:=kt.mpr ⟨dY.mpr (aK c),by simp[q]⟩;let z:(pB h H).get? b=none:=PySem.W.hideAll_none (trk h H) g;rw[z]at e;cases e
noncomputable def mN(g h:bN)(L:ak):List (ak×Obj):=(b_ h.objs.size).filterMap λa=>if a=L\/(g.get? a).isSome=true then none else (h.get? a).map λo=>(a,o)
def Qv{g h:bN}(q:a≠L)(l:g.get? a=none)(c:h.get? a=some o):(a,o)∈mN g h L:=
 mP.mpr ⟨a,dY.mpr (aK c),by simp[q,l,c]⟩
def Sk(l:p∈mN g h L):p.1≠L/\g.get? p.1=none/\h.get? p.1=some p.2:=by
 let⟨b,_,e⟩:=mP.mp l;split at e
 ·cases e
 ·rename_i c;cases q:h.get? b with|none=>rw[q]at e;simp at e|some u=>
   rw[q]at e;simp only[dJ,Option.some.injEq]at e;subst e;refine⟨λz=>c (.inl z),?_,q⟩
   show g.get? b=none;cases r:g.get? b with|none=>rfl|some v=>exact (c (.inr (by simp[r]))).elim
def rest(g h:bN)(L d:ak):List (ak×Obj):=(mN g h L).filter λp=>decide (p.1≠d)
def SK:News g L h (mN g h L):=λp l=>let ⟨a,b,c⟩:=Sk l;⟨c,a,b⟩
structure Mod(K:ai)(mg:Str->Option ah)(base:bN):Prop where
 kin:K.In base
 glob:base.Ns cW mg
 blt:∃mb,base.Ns nL mb/\∀x:Str,x≠"__name__"->mb x=dg x
 nolimit:base.NoLimit
structure Cx where
 prog:Program
 w:bR
 K:ai
 mg:Str->Option ah
 base:bN
 A:bM
 N:List Str
 s₀:aq
 H₀:Hp
 env:Env
 outer:List Env
 stack:List Env
 ex:List ak
 fn:Str->Bool
 calm:Bool
 pn:List (ak×Obj)
 xe:ah->aq->Prop
noncomputable def e_(l:List Env):List ak:=l.filterMap (·.frame)
abbrev Cx.fs(X:Cx):List ak:=e_ X.outer
noncomputable def Fk(sc:dB)(x:Str):Prop:=sc.names.lookup x=some .local\/sc.names.lookup x=some .cell\/sc.names.lookup x=some .free
noncomputable def Loc(sc:dB)(x:Str):Prop:=sc.names.lookup x=some .local\/sc.names.lookup x=some .cell
noncomputable def Look(env:Env)(h:bN)(m:Str->Option ah)(x:Str)(u:ah):Prop:=
 (env.kindOf x=some .local/\m x=some u)\/((env.kindOf x=some .cell\/env.kindOf x=some .free)/\∃c,env.cells.lookup x=some c/\h.IsCell c (some u))
structure Cx.Ok(X:Cx):Prop where
 mod:Mod X.K X.mg X.base
 kind:X.env.scope.kind=.function
 glob:X.env.globals=cW
 blt:X.env.builtins=nL
 above:X.s₀.heap.objs.size<=X.env.locals
 inj:∀x y c,X.env.cells.lookup x=some c->X.env.cells.lookup y=some c->x=y
 has:∀x,(X.env.kindOf x=some .cell\/X.env.kindOf x=some .free)->∃c,X.env.cells.lookup x=some c
 cab:∀x c,X.fn x=true->X.env.cells.lookup x=some c->X.s₀.heap.objs.size<=c
 hd:X.calm=true->X.A.handled=none
 frames:X.A.frames=some X.stack
 stk:X.stack=X.outer\/(X.stack=X.env::X.outer/\X.env.frame=some X.env.locals)
 exf:∀b∈X.ex,b≠X.env.locals/\∀x c,X.env.cells.lookup x=some c->c≠b
 bs:∀b o,X.base.get? b=some o->X.s₀.heap.get? b=some o/\X.H₀ b=none
 bsz:X.base.objs.size<=X.s₀.heap.objs.size
 noex:∀b o,X.base.get? b=some o->b∉X.ex
 exfs:∀b∈X.ex,b∉X.fs
 funs:X.s₀.heap.FunFrames X.base X.outer
 frf:∀b∈X.fs,X.H₀ b=none
structure Inv(X:Cx)(ac:List (ak×Obj))(σ:List (Option V))(H:Hp)(s:aq):Prop where
 ok:X.Ok
 os:s.os=X.s₀.os
 bare:mw s.gens
 base:Un X.fs X.ex X.H₀ H X.s₀.heap s.heap
 loc:∃m,s.heap.Ns X.env.locals m/\∀(i:Nat)(x:Str)(v:V),X.N[i]?=some x->σ[i]?=some (some v)->Fk X.env.scope x->∃u,RelV v u/\Look X.env s.heap m x u
 cell:∀x c,X.env.cells.lookup x=some c->∃v,s.heap.IsCell c v
 free:H X.env.locals=none
 freeC:∀x c,X.env.cells.lookup x=some c->H c=none
 pin:∀p∈X.pn++ac,s.heap.get? p.1=some p.2/\H p.1=none/\p.1≠X.env.locals/\p.1∉X.fs/\∀v,p.2.data≠.cell v
 hok:n0 X.prog X.w H s.heap
 len:σ.length=X.N.length
section
variable{X:Cx}{ac:List (ak×Obj)}{σ:List (Option V)}{H H':Hp}{s:aq}{h':bN}
def Cx.Ok.nofr(ok:X.Ok)(e:X.base.get? b=some o):b∉X.fs:=λc=>by have:=(ok.funs.mem c).1;rw[e]at this;cases this
theorem Inv.bs(I:Inv X ac σ H s):∀b o,X.base.get? b=some o->s.heap.get? b=some o/\H b=none:=λb o e=>
 ⟨I.base.keep b o (I.ok.bs b o e).1 (I.ok.bs b o e).2 (I.ok.nofr e) (I.ok.noex b o e),I.base.free b o (I.ok.bs b o e).1 (I.ok.bs b o e).2 (I.ok.noex b o e)⟩
def Inv.bk(I:Inv X ac σ H s):∀b o,X.base.get? b=some o->s.heap.get? b=some o:=λb o e=>(I.bs b o e).1
theorem Inv.mod(I:Inv X ac σ H s):Mod X.K X.mg X.base:=I.ok.mod
def Inv.kIn(I:Inv X ac σ H s):X.K.In s.heap:=I.ok.mod.kin.keeps I.bk
def Inv.fr(I:Inv X ac σ H s):∃m,Fr X.base X.env.locals s.heap m:=
 let ⟨m,hn,_⟩:=I.loc
 ⟨m,hn,I.bk,c5 I.ok.bsz I.ok.above⟩
theorem Inv.lt(I:Inv X ac σ H s):X.env.locals < s.heap.objs.size:=let ⟨_,hn,_⟩:=I.loc;hn.lt
def Inv.sz(I:Inv X ac σ H s):X.s₀.heap.objs.size<=s.heap.objs.size:=c5 I.ok.above (gK I.lt)
def Inv.nofs(I:Inv X ac σ H s)(h:s.heap.objs.size<=a):a∉X.fs:=λg=>by let⟨_,o,c,_⟩:=I.ok.funs.mem g;exact bo (bh (aK c) (c5 I.sz h)) (cT _)
def Inv.cne(I:Inv X ac σ H s):∀x c,X.env.cells.lookup x=some c->c≠X.env.locals:=λx c e z=>by let⟨v,o,l,hd⟩:=I.cell x c e;let⟨m,⟨o',es,ep,g,h,_⟩,_⟩:=I.loc;rw[z,g]at l;cases l;rw[h]at hd;cases hd
theorem Inv.funs(I:Inv X ac σ H s):s.heap.FunFrames X.base X.outer:=by
 let all:∀(l:List Env),(∀b∈e_ l,b∈X.fs)->X.s₀.heap.FunFrames X.base l->s.heap.FunFrames X.base l:=by
  intro l
  induction l with
  |nil=>intro _ _;trivial
  |cons env r ih=>
   intro q C;let⟨E,⟨L,o,c,B,v,hd⟩,u⟩:=C;let h:L∈X.fs:=q L (by unfold e_;rw[pN,c];exact cD);let⟨G,e⟩:=I.base.slot L o v (I.ok.frf L h) h λz=>I.ok.exfs L z h;exact⟨E,⟨L,_,c,B,e,hd⟩,ih (λb g=>q b (by unfold e_;rw[pN,c];exact bF _ g)) u⟩
 exact all X.outer (λ_ g=>g) I.ok.funs
theorem Inv.stack(I:Inv X ac σ H s):s.heap.FunFrames X.base X.stack:=by
 rcases I.ok.stk with e|⟨e,g⟩
 ·rw[e];exact I.funs
 ·rw[e];let⟨m,c,_⟩:=I.loc;refine .cons (by rw[I.ok.kind];decide) g c ?_ I.funs;exact bN.get?_none_of_le (c5 I.ok.bsz I.ok.above)
def Inv.stkSub(I:Inv X ac σ H s):∀b∈e_ X.stack,b∈X.env.locals::X.fs:=λb c=>by
 rcases I.ok.stk with e|⟨e,g⟩
 ·rw[e]at c;exact bF _ c
 ·rw[e]at c;unfold e_ at c;rw[pN,g]at c;exact c
def Inv.stkFree(I:Inv X ac σ H s):∀b∈e_ X.stack,H b=none:=λb c=>by
 rcases aX.mp (I.stkSub b c) with e|c
 ·rw[e];exact I.free
 ·let⟨_,o,g,_⟩:=I.ok.funs.mem c;exact I.base.free b o g (I.ok.frf b c) λz=>I.ok.exfs b z c
def Inv.step{g':Array GenState}{t':Nat}{d':Drawn}{ch:List ak}(I:Inv X ac σ H s)(B:∀b∈ch,(b∈X.ex\/X.s₀.heap.objs.size<=b)/\b≠X.env.locals/\(∀x c,X.env.cells.lookup x=some c->c≠b)/\∀p∈X.pn++ac,p.1≠b)(keep:∀b o,b≠X.env.locals->b∉X.fs->b∉ch->s.heap.get? b=some o->H b=none->h'.get? b=some o)(slot:∀b o,b≠X.env.locals->b∈X.fs->b∉ch->s.heap.get? b=some o->H b=none->∃Y,h'.get? b=some { o with slots:=Y }) (free:∀b o,b∉ch->s.heap.get? b=some o->H b=none->H' b=none)(there:∀b o,b∉ch->s.heap.get? b=some o->∃o',h'.get? b=some o')(tups:∀b xs,H b=some (.tup xs)->H' b=some (.tup xs)) (frzs:∀b o u,H b=some (.frz o u)->H' b=some (.frz o u)) (tbls:∀b ps,H b=some (.tbl ps)->∃more,H' b=some (.tbl (ps++more)))(ns:∀m,s.heap.Ns X.env.locals m->h'.Ns X.env.locals m) (hok:n0 X.prog X.w H' h') (hg:mw g'):Inv X ac σ H' { s with heap:=h',gens:=g',drawn:=d',toks:=t' }:=by
 let O:∀b o,X.s₀.heap.get? b=some o->b≠X.env.locals:=λb o e=>bj (bh (aK e) I.ok.above);let E:∀b o,X.s₀.heap.get? b=some o->b∉X.ex->b∉ch:=λb o e g J=>by
  rcases (B b J).1 with z|z
  ·exact g z
  ·exact bo (bh (aK e) z) (cT _)
 let C:∀x c,X.env.cells.lookup x=some c->∀v,s.heap.IsCell c v->h'.IsCell c v:=λx c e v pq1=>by
  let⟨o,L,hd⟩:=pq1;let h:c∉ch:=λz=>(B c z).2.2.1 x c e rfl;by_cases hc:c∈X.fs
  ·let⟨Y,q⟩:=slot c o (I.cne x c e) hc h L (I.freeC x c e);exact⟨_,q,hd⟩
  ·exact⟨o,keep c o (I.cne x c e) hc h L (I.freeC x c e),hd⟩
 refine⟨I.ok,I.os,hg,⟨λb o e n J g=>?_,λb o e n J g=>?_,λb o e n g=>?_,λb o e g=>?_,λb xs e=>tups b xs (I.base.tups b xs e),λb o xs e=>frzs b o xs (I.base.frzs b o xs e),λb ps e=>?_⟩,?_,λx c e=>?_,?_,λx c e=>?_,λp hp=>?_,hok,I.len⟩
 ·exact keep b o (O b o e) J (E b o e g) (I.base.keep b o e n J g) (I.base.free b o e n g)
 ·let⟨Y,G⟩:=I.base.slot b o e n J g;let⟨U,Q⟩:=slot b _ (O b o e) J (E b o e g) G (I.base.free b o e n g);exact⟨U,Q⟩
 ·let⟨o',G⟩:=I.base.there b o e g;exact free b o' (E b o e g) G (I.base.free b o e n g)
 ·let⟨o',G⟩:=I.base.there b o e g;exact there b o' (E b o e g) G
 ·let⟨g,G⟩:=I.base.tbls b ps e;let⟨c,Q⟩:=tbls b _ G;exact⟨g++c,by rw[Q,Array.append_assoc]⟩
 ·let⟨m,g,h⟩:=I.loc;refine⟨m,ns m g,λi x v G Q o=>?_⟩;let⟨u,r,l⟩:=h i x v G Q o;refine⟨u,r,?_⟩;rcases l with l|⟨k,c,e,z⟩
  ·exact .inl l
  ·exact .inr ⟨k,c,e,C x c e _ z⟩
 ·let⟨v,z⟩:=I.cell x c e;exact⟨v,C x c e v z⟩
 ·let⟨m,⟨o,_,_,L,_⟩,_⟩:=I.loc;exact free _ o (λz=>(B _ z).2.1 rfl) L I.free
 ·let⟨v,o,L,hd⟩:=I.cell x c e;exact free c o (λz=>(B c z).2.2.1 x c e rfl) L (I.freeC x c e)
 ·let⟨e,n,ne,c,d⟩:=I.pin p hp;let h:p.1∉ch:=λz=>(B p.1 z).2.2.2 p hp rfl;exact⟨keep p.1 p.2 ne c h e n,free p.1 p.2 h e n,ne,c,d⟩
def Inv.un{t':Nat}(I:Inv X ac σ H s)(u:Un X.fs [] H H' s.heap h')(hok:n0 X.prog X.w H' h'):Inv X ac σ H' { s with heap:=h',toks:=t' }:=by
 let⟨m,⟨o,es,ep,q,r⟩,_⟩:=id I.loc;let⟨E,C⟩:=u.any q I.free (by simp);exact I.step (g':=s.gens) (d':=s.drawn) (ch:=[]) (λ_ z=>nomatch z) (λb o _ g _ e n=>u.keep b o e n g (by simp)) (λb o _ g _ e n=>u.slot b o e n g (by simp)) (λb o _ e n=>u.free b o e n (by simp)) (λb o _ e=>u.there b o e (by simp)) u.tups u.frzs u.tbls (λG B=>by let⟨o',h,l,c,v⟩:=B;rw[q]at c;cases c;exact⟨_,h,l,C,v⟩) hok I.bare
def Inv.call{t':Nat}(I:Inv X ac σ H s)(u:Un (e_ X.stack) ch H H' s.heap h')(hok:n0 X.prog X.w H' h')(J:mw g')(l:∀b∈ch,(b∈X.ex\/X.s₀.heap.objs.size<=b)/\b≠X.env.locals/\(∀x c,X.env.cells.lookup x=some c->c≠b)/\∀p∈X.pn++ac,p.1≠b):Inv X ac σ H' { s with heap:=h',gens:=g',drawn:=d',toks:=t' }:=by
 let⟨m,⟨o,es,ep,C,r⟩,_⟩:=id I.loc;let⟨O,q⟩:=u.any C I.free λz=>(l _ z).2.1 rfl;exact I.step (ch:=ch) l (λb o q L g e n=>u.keep b o e n (λz=>(aX.mp (I.stkSub b z)).elim q L) g) (λb o _ _ g e n=>u.any e n g) (λb o g e n=>u.free b o e n g) (λb o g e=>u.there b o e g) u.tups u.frzs u.tbls (λQ G=>by let⟨o',v,B,h,E⟩:=G;rw[C]at h;cases h;exact⟨_,v,B,q,E⟩) hok J
def Inv.turned{t':Nat}(I:Inv X ac σ H s)(k:∀b o,b≠g->s.heap.get? b=some o->h'.get? b=some o)(E:H g=none)(B:g≠X.env.locals)(Q:g∈X.ex\/X.s₀.heap.objs.size<=g) (O:∀x c,X.env.cells.lookup x=some c->c≠g) (L:∀p∈X.pn++ac,p.1≠g):Inv X ac σ H { s with heap:=h',toks:=t' }:=by
 let l:∀b u,H b=some u->b≠g:=λb u e z=>by rw[z,E]at e;cases e
 refine I.step (g':=s.gens) (d':=s.drawn) (ch:=[g]) (λb J=>?_) (λb o _ _ h e _=>k b o (λz=>h (by simp[z])) e) (λb o _ _ h e _=>⟨o.slots,k b o (λz=>h (by simp[z])) e⟩) (λ_ _ _ _ n=>n)
  (λb o h e=>⟨o,k b o (λz=>h (by simp[z])) e⟩) (λ_ _ e=>e) (λ_ _ _ e=>e) (λb ps e=>⟨#[],by rw[e];simp⟩) (λm G=>?_) (λb u e=>?_) I.bare
 ·let e:b=g:=by simpa using J
  subst e;exact⟨Q,B,O,L⟩
 ·let⟨o,es,ep,C,r⟩:=G;exact⟨o,es,ep,k _ o (fI B) C,r⟩
 ·refine (I.hok b u e).stay (λc v h q=>k c v ?_ q) (λ_ q=>q) λ_ _ q=>q;rcases h with z|z
  ·rw[z];exact l b u e
  ·exact l c _ z
def Inv.tok(I:Inv X ac σ H s)(t:Nat):Inv X ac σ H { s with toks:=t }:=I.un (h':=s.heap) (t':=t) Un.refl I.hok
theorem Inv.kept{t':Nat}(I:Inv X ac σ H s)(k:∀b u,s.heap.get? b=some u->h'.get? b=some u):Inv X ac σ H { s with heap:=h',toks:=t' }:=I.un (Un.kept k) (I.hok.kept k)
theorem Inv.laid{t':Nat}(I:Inv X ac σ H s)(k:∀b u,s.heap.get? b=some u->h'.get? b=some u)(c:s.heap.objs.size<=a)(new:gP X.prog X.w (fT H a o) h' a o):Inv X ac σ (fT H a o) { s with heap:=h',toks:=t' }:=I.un (Un.laid k c (I.hok.fresh c)) (I.hok.laid k c new)
theorem Inv.write{t':Nat}(I:Inv X ac σ H s)(g:Fb (H x))(h:e=x\/H e=some (.own x))(k:∀b u,b≠e->s.heap.get? b=some u->h'.get? b=some u)(c:∃u,h'.get? e=some u)(new:gP X.prog X.w (fT H x o) h' x o):Inv X ac σ (fT H x o) { s with heap:=h',toks:=t' }:=I.un (Un.write g h k c) (I.hok.write g h k c new)
def Inv.pins_of{c:List (ak×Obj)}(I:Inv X ac σ H s)(h:∀p∈c,s.heap.get? p.1=some p.2/\H p.1=none/\p.1≠X.env.locals/\p.1∉X.fs/\∀v,p.2.data≠.cell v):Inv X c σ H s:=
 ⟨I.ok,I.os,I.bare,I.base,I.loc,I.cell,I.free,I.freeC,λp g=>(aO.mp g).elim (λz=>I.pin p (bv _ z)) (h p),I.hok,I.len⟩
def R1{N:List Str}(c:N.Nodup){i j:Nat}(a:N[i]?=some x)(b:N[j]?=some x):i=j:=by let⟨o,h⟩:=ae.mp a;let⟨l,g⟩:=ae.mp b;exact (List.getElem_inj c).mp (h.trans g.symm)
def Nd{M:Eo}{i:Nat}{Q:Unit->aq->Prop}(I:Inv X ac σ H s)(hN:X.N.Nodup)(hi:X.N[i]?=some x)(G:Loc X.env.scope x)(r:RelV v u)(h:∀s',Inv X ac (σ.set i (some v)) H s'->(∃a,cX a s.heap s'.heap/\(a=X.env.locals\/X.env.cells.lookup x=some a))->Q Unit.unit s') (hf:X.fn x=true\/X.env.scope.names.lookup x=some .local:=by first|exact .inl rfl|exact .inr rfl|assumption):aH M A (qY X.env x u) Q E s:=by
 let⟨m,hn,hl⟩:=id I.loc;let hcls:(X.env.scope.kind == .class||(X.env.scope.kind == .module&&X.env.locals != X.env.globals))=false:=by rw[I.ok.kind];rfl
 let hiσ:i < σ.length:=by rw[I.len];exact (ae.mp hi).1
 let cne:=I.cne;let l:∀{a:ak}{h':bN},(∃o,s.heap.get? a=some o/\H a=none)->cX a s.heap h'->n0 X.prog X.w H h':=λ{a h'}ha g b ob e=>by
  let⟨_,_,J⟩:=ha;refine (I.hok b ob e).stay (λc w' C q=>(g.2 c ?_).trans q) (λ_ q=>q) λ_ _ q=>q
  rintro rfl
  rcases C with rfl|C
  ·rw[J]at e;cases e
  ·rw[J]at C;cases C
 rcases G with O|O
 ·refine Ae O hn (λh' C g=>?_) hcls;let⟨E,_,_,v,_⟩:=id hn;refine h _ ⟨I.ok,I.os,I.bare,⟨λb o e n hb G=>?_,λb o e n hb G=>?_,I.base.free,λb o e G=>?_,I.base.tups,I.base.frzs,I.base.tbls⟩,⟨_,C,λj y v' B L e3=>?_⟩,λy c e=>?_,I.free,I.freeC,λp hp=>?_,l ⟨E,v,I.free⟩ g,by simpa using I.len⟩ ⟨_,g,.inl rfl⟩
  ·exact (g.2 b (bj (bh (aK e) I.ok.above))).trans (I.base.keep b o e n hb G)
  ·let⟨sl,B⟩:=I.base.slot b o e n hb G;exact⟨sl,(g.2 b (bj (bh (aK e) I.ok.above))).trans B⟩
  ·let⟨o',B⟩:=I.base.there b o e G;exact⟨o',(g.2 b (bj (bh (aK e) I.ok.above))).trans B⟩
  ·by_cases U:j=i
   ·subst U;rw[hi]at B;cases B;rw[aE hiσ]at L;cases L;exact⟨u,r,.inl ⟨O,by simp⟩⟩
   ·rw[aA (fI U)]at L;let⟨u',r',q⟩:=hl j y v' B L e3;refine⟨u',r',?_⟩;rcases q with ⟨k,e⟩|⟨k,c,e,z⟩
    ·refine .inl ⟨k,?_⟩;have:y≠x:=λe=>U (R1 hN B (e ▸ hi));simp[this,e]
    ·exact .inr ⟨k,c,e,z.sameBut g (cne y c e)⟩
  ·let⟨w',z⟩:=I.cell y c e;exact⟨w',z.sameBut g (cne y c e)⟩
  ·let⟨e,n,ne,nf,d⟩:=I.pin p hp;exact⟨(g.2 p.1 ne).trans e,n,ne,nf,d⟩
 ·let Y : X.fn x = true := by
    rcases hf with z|z
    ·exact z
    ·rw[z]at O;cases O
  let⟨c,C⟩:=I.ok.has x (.inl O);let⟨w',z⟩:=I.cell x c C;refine Bf I.ok.kind O C z (λh' J g=>?_);let⟨oc,E,v⟩:=id z;refine h { s with heap:=h' } ⟨I.ok,I.os,I.bare,⟨λb o e n hb G=>?_,λb o e n hb G=>?_,I.base.free,λb o e G=>?_,I.base.tups,I.base.frzs,I.base.tbls⟩,⟨m,hn.sameBut g (fI (cne x c C)),λj y v' B L e3=>?_⟩,λy Q e=>?_,I.free,I.freeC,λp hp=>?_,l ⟨oc,E,I.freeC x c C⟩ g,by simpa using I.len⟩ ⟨c,g,.inr C⟩
  ·exact (g.2 b (bj (bh (aK e) (I.ok.cab x c Y C)))).trans (I.base.keep b o e n hb G)
  ·let⟨sl,B⟩:=I.base.slot b o e n hb G;exact⟨sl,(g.2 b (bj (bh (aK e) (I.ok.cab x c Y C)))).trans B⟩
  ·let⟨o',B⟩:=I.base.there b o e G;exact⟨o',(g.2 b (bj (bh (aK e) (I.ok.cab x c Y C)))).trans B⟩
  ·by_cases U:j=i
   ·subst U;rw[hi]at B;cases B;rw[aE hiσ]at L;cases L;exact⟨u,r,.inr ⟨.inl O,c,C,J⟩⟩
   ·rw[aA (fI U)]at L;let⟨u',r',q⟩:=hl j y v' B L e3;refine⟨u',r',?_⟩;rcases q with q|⟨k,Q,e,h⟩
    ·exact .inl q
    ·refine .inr ⟨k,Q,e,h.sameBut g ?_⟩
     rintro rfl
     exact U (R1 hN B (I.ok.inj _ _ _ e C ▸ hi))
  ·by_cases H:Q=c
   ·subst H;exact⟨_,J⟩
   ·let⟨l,h⟩:=I.cell y Q e;exact⟨l,h.sameBut g H⟩
  ·let⟨e,n,ne,nf,d⟩:=I.pin p hp;refine⟨(g.2 p.1 ?_).trans e,n,ne,nf,d⟩;intro q;rw[q,E]at e;let c:oc=p.2:=aF e;exact d w' (by rw[<- c];exact v)
def Kn{M:Eo}{i:Nat}{Q:Unit->aq->Prop}(I:Inv X ac σ H s)(q:X.N.Nodup)(l:X.N[i]?=some x)(g:Loc X.env.scope x)(r:RelV v u)(h:∀c,Inv X ac (σ.set i (some v)) H c->Q Unit.unit c) (o:X.fn x=true\/X.env.scope.names.lookup x=some .local:=by first|exact .inl rfl|exact .inr rfl|assumption):aH M A (qY X.env x u) Q E s:=
 Nd I q l g r (λc B _=>h c B) o
def Inv.call'{g:aq}(I:Inv X ac σ H s)(l:g.os=s.os)(u:Un (e_ X.stack) ch H H' s.heap g.heap)(hok:n0 X.prog X.w H' g.heap)(o:mw g.gens)(h:∀b∈ch,(b∈X.ex\/X.s₀.heap.objs.size<=b)/\b≠X.env.locals/\(∀x c,X.env.cells.lookup x=some c->c≠b)/\∀p∈X.pn++ac,p.1≠b):Inv X ac σ H' g:=by
 let⟨h',g',d',t',o'⟩:=g;let e:o'=s.os:=l;subst e;exact I.call (g':=g') (t':=t') (d':=d') u hok o h
end
abbrev XK:=ah->Option ak->Hp->Prop
noncomputable abbrev St:=List (Option V)
abbrev VK:=V->Hp->Prop
abbrev TE:=St->Hp->VK->Prop
abbrev TT:=St->Hp->(Bool->Hp->Prop)->Prop
abbrev TA:=St->Hp->(List V->Hp->Prop)->Prop
structure Ends where
 nx:St->Hp->Prop
 rt:VK
 bk:St->Hp->Prop:=λ_ _=>False
 ct:St->Hp->Prop:=λ_ _=>False
abbrev TS:=Ends->St->Hp->Prop
def EP(X:Cx)(c:List (ak×Obj))(σ:St)(Q:VK)(u:ah)(h:aq):Prop:=∃v g,Inv X c σ g h/\RelV v u/\Q v g
noncomputable def TP(X:Cx)(c:List (ak×Obj))(σ:St)(Q:Bool->Hp->Prop)(b:Bool)(h:aq):Prop:=∃g,Inv X c σ g h/\Q b g
def AP(X:Cx)(c:List (ak×Obj))(σ:St)(Q:List V->Hp->Prop)(l:List ah)(o:aq):Prop:=∃g h,Inv X c σ h o/\cj g l/\Q g h
def SP(X:Cx)(c:List (ak×Obj))(D:Ends)(f:Flow)(h:aq):Prop:=
 match f with| .next=>∃σ' g,Inv X c σ' g h/\D.nx σ' g| .brk=>∃σ' g,Inv X c σ' g h/\D.bk σ' g| .cont=>∃σ' g,Inv X c σ' g h/\D.ct σ' g| .ret u=>∃v σ' g,Inv X c σ' g h/\RelV v u/\D.rt v g
def PE(X:Cx)(e:Expr)(t:TE):Prop:=
 ∀(ac:List (ak×Obj))(s:aq)(σ:St)(H:Hp)(Q:VK),Inv X ac σ H s->t σ H Q->aH (aY X.prog X.w) X.A (eval e X.env) (EP X ac σ Q) X.xe s
def PT(X:Cx)(e:Expr)(t:TT):Prop:=
 ∀(ac:List (ak×Obj))(s:aq)(σ:St)(H:Hp)(Q:Bool->Hp->Prop),Inv X ac σ H s->t σ H Q->aH (aY X.prog X.w) X.A (isTrue e X.env (eval e X.env)) (TP X ac σ Q) X.xe s
def PW(X:Cx)(e:Expr)(t:TT):Prop:=
 ∀(whole:Sem ah)(ac:List (ak×Obj))(s:aq)(σ:St)(H:Hp)(Q:Bool->Hp->Prop),Inv X ac σ H s->t σ H Q->aH (aY X.prog X.w) X.A (isTrue e X.env whole) (TP X ac σ Q) X.xe s
def PW.pt(h:PW X e t):PT X e t:=h _
def PA(X:Cx)(es:List Expr)(t:TA):Prop:=
 ∀(pos:Pos)(ac:List (ak×Obj))(s:aq)(σ:St)(H:Hp)(Q:List V->Hp->Prop),Inv X ac σ H s->t σ H Q->aH (aY X.prog X.w) X.A (tq (backTo pos (starEach es X.env))) (AP X ac σ Q) X.xe s
def PS(X:Cx)(st:Stmt)(t:TS):Prop:=
 ∀(ac:List (ak×Obj))(s:aq)(σ:St)(H:Hp)(D:Ends),Inv X ac σ H s->t D σ H->aH (aY X.prog X.w) X.A (exec st X.env) (SP X ac D) X.xe s
def PSs(X:Cx)(st:List Stmt)(t:TS):Prop:=
 ∀(ac:List (ak×Obj))(s:aq)(σ:St)(H:Hp)(D:Ends),Inv X ac σ H s->t D σ H->aH (aY X.prog X.w) X.A (execs st X.env) (SP X ac D) X.xe s
def gA{α:Type}{t:Sem α}{Q c:α->aq->Prop}{M:Eo}(h:aH M A t Q E s)(g:∀a s,Q a s->c a s):aH M A t c E s:=fU h g λ_ _ x=>x
section
variable{X:Cx}
noncomputable def zy(i:Nat):TE:=λσ H Q=>∃v,σ[i]?=some (some v)/\Q v H
noncomputable def tC(v:V):TE:=λ_ H Q=>Q v H
def Qa{i:Nat}(O:X.N[i]?=some x)(E:Fk X.env.scope x)(hd:(x == ("__debug__":Str))=false:=by decide)(B:(x == ("__classdict__":Str))=false:=by decide):PE X (.Name x pos) (zy i):=by
 intro q s σ H Q I h;let⟨v,e,h⟩:=h;let⟨m,G,L⟩:=I.loc;let⟨u,r,l⟩:=L i x v O e E;let fin:EP X q σ Q u s:=⟨v,H,I,r,h⟩
 rcases l with ⟨o,J⟩|⟨o,c,C,g⟩
 ·exact DK (Bg I.ok.kind o G J fin) hd
 ·rcases o with o|o
  ·exact DK (BP I.ok.kind o C g fin) hd
  ·exact DK (wpAny_loadName_free I.ok.kind o C g fin B) hd
def Q_{i j pos}:PE X (.Constant (.int i) j pos) (tC (.int i)):=λ_ _ _ H _ I h=>wpAny_Constant_int ⟨.int i,H,I.tok _,⟨_,rfl⟩,h⟩
def Ud{b j pos}:PE X (.Constant (.bool b) j pos) (tC (.bl b)):=λ_ _ _ H _ I h=>Constant_bool ⟨.bl b,H,I,rfl,h⟩
def VH{j pos}:PE X (.Constant .none j pos) (tC .non):=λ_ _ _ H _ I h=>Constant_none ⟨.non,H,I,rfl,h⟩
def Qaz{x j pos}:PE X (.Constant (.str x) j pos) (tC (.str x)):=λ_ _ _ H _ I h=>Calls.Constant_str ⟨.str x,H,I.tok _,⟨_,rfl⟩,h⟩
noncomputable def Gl(X:Cx)(x:Str):Prop:=X.env.kindOf x=some .globalImplicit
def QJ{Q:ah->aq->Prop}(I:Inv X c σ H s)(l:Gl X x)(g:X.mg x=some u)(h:Q u s)(hd:(x == ("__debug__":Str))=false:=by decide):aH (aY X.prog X.w) X.A (eval (.Name x pos) X.env) Q E s:=
 tw I.ok.kind l (Calls.loadGlobal_global (by rw[I.ok.glob];exact I.mod.glob.keeps I.bk) g h) hd
def yy{Q:ah->aq->Prop}(I:Inv X c σ H s)(q:Gl X x)(o:X.mg x=none)(g:dg x=some u)(h:Q u s)(l:x≠"__name__":=by decide) (hd:(x == ("__debug__":Str))=false:=by decide):aH (aY X.prog X.w) X.A (eval (.Name x pos) X.env) Q E s:=by
 let⟨C,B,v⟩:=I.mod.blt;exact tw I.ok.kind q (Calls.loadGlobal_builtin (by rw[I.ok.glob];exact I.mod.glob.keeps I.bk) o (by rw[I.ok.blt];exact B.keeps I.bk) ((v x l).trans g) h) hd
variable{a b:Expr}{ta tb:TE}{pos:Pos}
variable{tA df:TT}{rest:List Expr}
noncomputable def DG(t u:TT):TT:=λσ H Q=>t σ H λc g=>if c=true then u σ g Q else Q false g
noncomputable def TQ(t u:TT):TT:=λσ H Q=>t σ H λc g=>if c=true then Q true g else u σ g Q
noncomputable def Ck(t:TT):TT:=λσ H Q=>t σ H λc g=>Q (!c) g
def Yn(l:PT X a tA):PW X (.BoolOp .And [a] pos) tA:=by
 intro wh g s σ H Q I h;refine isTrue_and (gA (l g s σ H Q I h) λc o e=>?_);cases c with|true=>exact isTrue_and_nil e|false=>exact e
def QaD(l:PT X a tA):PW X (.BoolOp .Or [a] pos) tA:=by
 intro wh g s σ H Q I h;refine isTrue_or (gA (l g s σ H Q I h) λc o e=>?_);cases c with|false=>exact isTrue_or_nil e|true=>exact e
def VS(C:PT X a tA)(B:PW X (.BoolOp .And (b::rest) pos) df):PW X (.BoolOp .And (a::b::rest) pos) (DG tA df):=by
 intro wh g s σ H Q I h;refine isTrue_and (gA (C g s σ H _ I h) λc v l=>?_);let⟨u,q,o⟩:=l;cases c with|true=>exact B wh g v σ u Q q o|false=>exact⟨u,q,o⟩
def QaF(C:PT X a tA)(B:PW X (.BoolOp .Or (b::rest) pos) df):PW X (.BoolOp .Or (a::b::rest) pos) (TQ tA df):=by
 intro wh g s σ H Q I h;refine isTrue_or (gA (C g s σ H _ I h) λc v l=>?_);let⟨u,q,o⟩:=l;cases c with|true=>exact⟨u,q,o⟩|false=>exact B wh g v σ u Q q o
def Zu(l:PT X a tA):PT X (.UnaryOp .Not a pos) (Ck tA):=by intro g s σ H Q I h;exact isTrue_not (l g s σ H (λc o=>Q (!c) o) I h)
noncomputable def F6(ta tb:TE):TE:=λσ H Q=>ta σ H λx g=>∃c,x=.bl c/\if c=true then tb σ g Q else Q (.bl false) g
noncomputable def Kh(ta tb:TE):TE:=λσ H Q=>ta σ H λx g=>∃c,x=.bl c/\if c=true then Q (.bl true) g else tb σ g Q
def VM{op}(h:PE X a t):PE X (.BoolOp op [a] pos) t:=λc s σ H Q I g=>BoolOp_one (h c s σ H Q I g)
def QaI(G:PE X a ta)(E:PE X (.BoolOp .And (b::rest) pos) tb):PE X (.BoolOp .And (a::b::rest) pos) (F6 ta tb):=by
 intro g s σ H Q I h;refine BoolOp_and (gA (G g s σ H _ I h) λv B o=>?_);let⟨x,u,q,C,l⟩:=o;let⟨c,rfl,l⟩:=l;cases C;refine fR ?_;cases c with|true=>exact E g B σ u Q q l|false=>exact⟨.bl false,u,q,rfl,l⟩
def QaJ(G:PE X a ta)(E:PE X (.BoolOp .Or (b::rest) pos) tb):PE X (.BoolOp .Or (a::b::rest) pos) (Kh ta tb):=by
 intro g s σ H Q I h;refine BoolOp_or (gA (G g s σ H _ I h) λv B o=>?_);let⟨x,u,q,C,l⟩:=o;let⟨c,rfl,l⟩:=l;cases C;refine fR ?_;cases c with|false=>exact E g B σ u Q q l|true=>exact⟨.bl true,u,q,rfl,l⟩
noncomputable def XQ(t:TT)(ta tb:TE):TE:=λσ H Q=>t σ H λc g=>if c=true then ta σ g Q else tb σ g Q
def Wt(B:PT X c tA)(E:PE X a ta)(C:PE X b tb):PE X (.IfExp c a b pos) (XQ tA ta tb):=by
 intro g s σ H Q I h;refine wpAny_IfExp (gA (B g s σ H _ I h) λd o l=>?_);let⟨v,u,q⟩:=l;cases d with|true=>exact E g o σ v Q u q|false=>exact C g o σ v Q u q
end
def io(K:ai)(H:Hp)(a:ak)(xs:List V):Prop:=
 Rd H a (.lst xs) \/
  ∃(o:Obj)(its:Array ah)(n:Nat),K.lookup a=some o/\o.cls=.type "list"/\o.dict=none/\o.data=.seq its n/\its.size<=sizeLine/\cj xs its.toList
def mU(K:ai)(H:Hp)(a:ak)(xs:List V):Prop:=
 Rd H a (.tup xs) \/
  ∃(o:Obj)(its:Array ah)(n:Nat),K.lookup a=some o/\o.cls=.type "tuple"/\o.dict=none/\o.data=.seq its n/\its.size<=sizeLine/\cj xs its.toList
noncomputable def JQ:ah->Option V
 | .none=>some .non| .bool b=>some (.bl b)| .int i _=>some (.int i)| .str x _=>some (.str x)| .bytes b _=>some (.byt b)| .float b _=>some (.flt b)| .ref a=>some (.ref a)| .type n=>some (.ty n)|_=>none
def RelV.abs(r:RelV x u):JQ u=some x:=by
 cases x with|non=>cases r;rfl|bl _=>cases r;rfl|int _=>let⟨t,rfl⟩:=r;rfl|str _=>let⟨t,rfl⟩:=r;rfl|byt _=>let⟨t,rfl⟩:=r;rfl|flt _=>let⟨t,rfl⟩:=r;rfl|ref _=>cases r;rfl|ty _=>cases r;rfl
def RelV.inj(r:RelV x u)(q:RelV y u):x=y:=aF (r.abs.symm.trans q.abs)
theorem cj.inj:∀{xs ys:List V}{c:List ah},cj xs c->cj ys c->xs=ys
 |_,_,_,.nil,.nil=>rfl|_,_,_,.cons r t,.cons r' t'=>by rw[r.inj r',cj.inj t t']
section
variable{H:Hp}
def io.of{K:ai}(h:H a=some (.lst xs)):io K H a xs:=.inl (.inl h)
def mU.of{K:ai}(h:H a=some (.tup xs)):mU K H a xs:=.inl (.inl h)
def Inv.list(I:Inv X ac σ H s)(h:io X.K H a xs):∃its:List ah,cj xs its/\PlainL s.heap a its.toArray/\xs.length<=sizeLine:=by
 rcases h with h|⟨o,its,n,g,l,hd,c,hz,r⟩
 ·let⟨z,its,n,r,e⟩:=h.ok I.hok;exact⟨its,r,⟨_,n,e,rfl,rfl,rfl⟩,z⟩
 ·refine⟨its.toList,r,⟨o,n,I.kIn a o g,l,hd,by simpa using c⟩,?_⟩;let e:=r.length;simp only[fO]at e;ext
def Inv.tupleD(I:Inv X ac σ H s)(h:mU X.K H a xs):∃its:List ah,cj xs its/\lg s.heap a its.toArray/\xs.length<=sizeLine:=by
 rcases h with h|⟨o,its,n,g,l,hd,c,hz,r⟩
 ·let⟨z,its,r,p⟩:=h.ok I.hok;exact⟨its,r,p,z⟩
 ·refine⟨its.toList,r,⟨o,I.kIn a o g,l,⟨n,by simpa using c⟩,hd⟩,?_⟩;let e:=r.length;simp only[fO]at e;ext
def Inv.tuple(I:Inv X ac σ H s)(h:mU X.K H a xs):∃its:List ah,cj xs its/\Be s.heap a its.toArray/\xs.length<=sizeLine:=let ⟨its,r,p,z⟩:=I.tupleD h;⟨its,r,p.is,z⟩
def Inv.list_inj(I:Inv X ac σ H s)(h:io X.K H a xs)(h':io X.K H a ys):xs=ys:=by
 let⟨its,r,⟨o,n,e,_,_,d⟩,_⟩:=I.list h;let⟨its',g,⟨o',l,c,_,_,d'⟩,_⟩:=I.list h';rw[e]at c;cases c;rw[d]at d';injection d' with d1 _
 have:its=its':=by simpa using cQ DL d1
 subst this;exact r.inj g
def Inv.tuple_inj(I:Inv X ac σ H s)(h:mU X.K H a xs)(h':mU X.K H a ys):xs=ys:=by
 let⟨its,r,⟨o,e,_,n,d⟩,_⟩:=I.tuple h;let⟨its',g,⟨o',c,_,l,d'⟩,_⟩:=I.tuple h';rw[e]at c;cases c;rw[d]at d';injection d' with d1 _
 have:its=its':=by simpa using cQ DL d1
 subst this;exact r.inj g
end
noncomputable abbrev Cx.wish(X:Cx)(E:ah->aq->Prop):Cx:={ X with xe:=E }
abbrev Cx.nox(X:Cx):Cx:=X.wish λ_ _=>False
theorem Cx.Ok.wish{X:Cx}(ok:X.Ok)(E:ah->aq->Prop):(X.wish E).Ok:=
 ⟨ok.mod,ok.kind,ok.glob,ok.blt,ok.above,ok.inj,ok.has,ok.cab,ok.hd,ok.frames,ok.stk,ok.exf,ok.bs,ok.bsz,ok.noex,ok.exfs,ok.funs,ok.frf⟩
def Cx.Ok.unwish{X:Cx}(ok:(X.wish E).Ok):X.Ok:=
 ⟨ok.mod,ok.kind,ok.glob,ok.blt,ok.above,ok.inj,ok.has,ok.cab,ok.hd,ok.frames,ok.stk,ok.exf,ok.bs,ok.bsz,ok.noex,ok.exfs,ok.funs,ok.frf⟩
section
variable{X:Cx}
theorem Inv.wish(I:Inv X ac σ H s)(E:ah->aq->Prop):Inv (X.wish E) ac σ H s:=⟨I.ok.wish E,I.os,I.bare,I.base,I.loc,I.cell,I.free,I.freeC,I.pin,I.hok,I.len⟩
theorem Inv.unwish(I:Inv (X.wish E) ac σ H s):Inv X ac σ H s:=⟨I.ok.unwish,I.os,I.bare,I.base,I.loc,I.cell,I.free,I.freeC,I.pin,I.hok,I.len⟩
theorem SP.unwish{D:Ends}(h:SP (X.wish E) ac D f g):SP X ac D f g:=by
 cases f with|next=>let⟨σ',c,I,q⟩:=h;exact⟨σ',c,I.unwish,q⟩|brk=>let⟨σ',c,I,q⟩:=h;exact⟨σ',c,I.unwish,q⟩|cont=>let⟨σ',c,I,q⟩:=h;exact⟨σ',c,I.unwish,q⟩|ret u=>let⟨v,σ',c,I,r,q⟩:=h;exact⟨v,σ',c,I.unwish,r,q⟩
theorem PE.nox(h:PE X.nox e t):PE X e t:=λac s σ H Q I g=>
 fU (h ac s σ H Q (I.wish _) g) (λ_ _ c=>by let⟨v,o,l,r,q⟩:=c;exact⟨v,o,l.unwish,r,q⟩) λ_ _ z=>c_ z
theorem PSs.nox{st:List Stmt}(h:PSs X.nox st t):PSs X st t:=λac s σ H D I c=>
 fU (h ac s σ H D (I.wish _) c) (λ_ _ q=>q.unwish) λ_ _ z=>c_ z
end
section
variable{X:Cx}{st:Stmt}{rest:List Stmt}{t u:TS}{te:TE}{pos:Pos}
noncomputable def HH:TS:=λD σ H=>D.nx σ H
noncomputable def Kd(t u:TS):TS:=λD σ H=>t { D with nx:=u D } σ H
def R0:PSs X [] HH:=λ_ _ σ H _ I h=>vE ⟨σ,H,I,h⟩
def OI(o:PS X st t)(l:PSs X rest u):PSs X (st::rest) (Kd t u):=by
 intro c s σ H D I h;refine Ie (gA (o c s σ H { D with nx:=u D } I h) λf g q=>?_);cases f with
 |next=>
  let⟨σ',C,B,q⟩:=q;exact l c g σ' C D B q
 |ret v=>exact q|brk=>exact q|cont=>exact q
def Inv.quiet(I:Inv X c σ H s):interactive X.env=false:=by simp[interactive,I.ok.kind]
noncomputable def F4(te:TE):TS:=λD σ H=>te σ H λ_ c=>D.nx σ c
def VU(q:PE X e te)(o:ly e none pos.line X.env=pure false:=by rfl):PS X (.Expr e pos) (F4 te):=by intro c s σ H D I h;exact wpAny_Expr_any (gA (q c s σ H _ I h) λv E g=>by let⟨x,C,B,G,l⟩:=g;exact⟨σ,C,B,l⟩) I.quiet o
noncomputable def LM(te:TE):TS:=λD σ H=>te σ H D.rt
def N2(q:PE X e te):PS X (.Return (some e) pos) (LM te):=by intro g s σ H D I h;exact wpAny_Return_some (gA (q g s σ H _ I h) λv E c=>by let⟨x,C,B,l,o⟩:=c;exact⟨x,σ,C,B,l,o⟩)
noncomputable def GP:TS:=λD _ H=>D.rt .non H
def Se:PS X (.Return none pos) GP:=λ_ _ σ H _ I h=>wpAny_Return_none ⟨.non,σ,H,I,rfl,h⟩
noncomputable def JN(c:TT)(t u:TS):TS:=λD σ H=>c σ H λb g=>if b=true then t D σ g else u D σ g
def Vi(E:PT X c o)(J:PSs X a t)(G:PSs X b u):PS X (.If c a b pos) (JN o t u):=by
 intro g s σ H D I h;refine wpAny_If (gA (E g s σ H _ I h) λd q l=>?_);let⟨C,B,v⟩:=l;cases d with|true=>exact J g q σ C D B v|false=>exact G g q σ C D B v
noncomputable def Ch:TS:=λ_ _ _=>False
def Yf:PS X st Ch:=λ_ _ _ _ _ _ h=>h.elim
end
abbrev TG:=V->St->Hp->(St->Hp->Prop)->Prop
abbrev Aw:=List V->St->Hp->(St->Hp->Prop)->Prop
def PG(X:Cx)(c:Expr)(t:TG):Prop:=
 ∀(ac:List (ak×Obj))(s:aq)(σ:St)(H:Hp)(v:V)(u:ah)(Q:St->Hp->Prop),Inv X ac σ H s->RelV v u->t v σ H Q ->
  aH (aY X.prog X.w) X.A (pF c X.env u) (λ_ g=>∃σ' H',Inv X ac σ' H' g/\Q σ' H') X.xe s
def PGs(X:Cx)(ts:List Expr)(t:Aw):Prop:=
 ∀(ac:List (ak×Obj))(s:aq)(σ:St)(H:Hp)(vs:List V)(us:List ah)(Q:St->Hp->Prop),Inv X ac σ H s->cj vs us->t vs σ H Q ->
  aH (aY X.prog X.w) X.A (assignInOrder ((d_ ts X.env).map (·.2)) us) (λ_ c=>∃σ' H',Inv X ac σ' H' c/\Q σ' H') X.xe s
abbrev xC:=V->V->V->Hp->(Hp->Prop)->Prop
def PSet(X:Cx)(t:xC):Prop:=
 ∀(ac:List (ak×Obj))(s:aq)(σ:St)(H:Hp)(o i v:V)(ov iv u:ah)(Q:Hp->Prop),Inv X ac σ H s->RelV o ov->RelV i iv->RelV v u->t o i v H Q ->
  aH (aY X.prog X.w) X.A (pG ov iv u) (λ_ g=>∃c,Inv X ac σ c g/\Q c) X.xe s
abbrev D4:=V->V->Hp->VK->Prop
def LO(X:Cx)(op:qG)(t:D4):Prop:=
 ∀(ac:List (ak×Obj))(s:aq)(σ:St)(H:Hp)(x y:V)(v u:ah)(Q:VK),Inv X ac σ H s->RelV x v->RelV y u->t x y H Q ->
  aH (aY X.prog X.w) X.A (inplaceOp op v u) (EP X ac σ Q) X.xe s
section
variable{X:Cx}{pos:Pos}
noncomputable def vA(i:Nat):TG:=λv σ H Q=>Q (σ.set i (some v)) H
def SY{i:Nat}(q:X.N.Nodup)(l:X.N[i]?=some x)(g:Loc X.env.scope x)(o:X.fn x=true\/X.env.scope.names.lookup x=some .local:=by first|exact .inl rfl|exact .inr rfl|assumption):PG X (.Name x pos) (vA i):=by intro c s σ H v u Q I r h;exact Ep (Kn I q l g r (λC B=>⟨_,H,B,h⟩) o)
noncomputable def Ls:Aw:=λc σ H Q=>c=[]/\Q σ H
noncomputable def Gv(t:TG)(u:Aw):Aw:=λc σ H Q=>∃v r,c=v::r/\t v σ H λσ' g=>u r σ' g Q
def ZK:PGs X [] Ls:=by intro c s σ H g l Q I r h;let⟨e,h⟩:=h;subst e;cases r;exact assignInOrder_nil ⟨σ,H,I,h⟩
def Uc(C:PG X e t)(B:PGs X es u)(q:(d_ (e::es) X.env).map (·.2)=pF e X.env::(d_ es X.env).map (·.2):=by rfl):PGs X (e::es) (Gv t u):=by
 intro c s σ H L U Q I r h;let⟨v,O,E,h⟩:=h;subst E;cases r with|cons r rr=>
  rw[q];refine assignInOrder_cons (gA (C c s σ H _ _ _ I r h) λ_ l g=>?_);let⟨σ1,J,G,o⟩:=g;exact B c l σ1 J _ _ Q G rr o
def JU(K:ai)(n:Nat)(t:Aw):TG:=λv σ H Q=>∃a xs,v=.ref a/\mU K H a xs/\xs.length=n/\t xs σ H Q
def SQ{k:Nat}{n:Nat}(L:X.calm=true)(h:PGs X es t)(G:(d_ es X.env).length=n:=by rfl) (l:(d_ es X.env).findIdx? (·.1)=none:=by rfl):PG X (.Tuple es k pos) (JU X.K n t):=by
 intro c s σ H v u Q I r g;let⟨a,xs,O,E,J,g⟩:=g;subst O;cases r;let⟨its,q,C,hz⟩:=I.tuple E;refine assign_Tuple_tuple (I.ok.hd L) C (by simp[G,<- J,q.length]) l λh' B=>?_;let U:Inv X c σ H { s with heap:=h' }:=I.kept (t':=s.toks) λb o e=>B b o (bj (aK e)) e;exact h c _ σ H xs _ Q U (by simpa using q) g
noncomputable def Ml(to c:TE)(t:xC):TG:=λv σ H Q=>to σ H λo l=>c σ l λi h=>t o i v h λg=>Q σ g
def WV(ho:PE X o to)(hi:PE X i E)(hs:PSet X t)(ha:∀v,pF (.Subscript o i pos) X.env v=(do
   let g <- lK [v] (eval o X.env)
   let C <- lK [v,g] (eval i X.env)
   zG pos
   lK [v,g,C] (pG g C v)
   Er [v,g,C] []):=by intro _;rfl):PG X (.Subscript o i pos) (Ml to E t):=by
 intro c s σ H v u Q I r h;rw[ha];refine ab (cw (gA (ho c s σ H _ I h) λg J B=>?_));let⟨x,H1,I1,O,q1⟩:=B;refine ab (cw (gA (hi c J σ H1 _ I1 q1) λC G q=>?_));let⟨y,H2,I2,L,Y⟩:=q;refine ab (xH (ab (cw (gA (hs c G σ H2 x y v g C u _ I2 O L r Y) λ_ s3 l=>?_))));let⟨H3,I3,U⟩:=l;exact wpAny_release ⟨σ,H3,I3,U⟩
noncomputable def Ax(c:TE)(g:TG):TS:=λD σ H=>c σ H λx h=>g x σ h D.nx
def SJ(J : PE X e l)(G : PG X tg g)(E : swapsWithSole [tg] e pos.line X.env = pure false := by rfl)(C : swappedStores [tg] e X.env = pure none := by rfl)
  (L:(d_ [tg] X.env).map (·.2)=[pF tg X.env]:=by rfl):PS X (.Assign [tg] e pos) (Ax l g):=by
 intro c s σ H D I h;refine wpAny_Assign_stores (gA (J c s σ H _ I h) λv o ⟨x,Q,O,u,B⟩=>?_) E C;rw[L];exact gA (G c o σ Q x v _ O u B) λ_ U q=>q
def T3{i : Nat}(J : X.N.Nodup)(C : X.N[i]? = some x)(u : Loc X.env.scope x)(G : PE X e l)(B : ly e (some (.Name x c)) pos.line X.env = pure false := by rfl)(E : X.fn x = true \/ X.env.scope.names.lookup x = some .local := by first|exact .inl rfl|exact .inr rfl|assumption):
  PS X (.Assign [.Name x c] e pos) (Ax l (vA i)):=by
 intro g s σ H D I h;refine wpAny_Assign_Name (gA (G g s σ H _ I h) λv Y ⟨y,Q,O,o,q⟩=>?_) B;exact Kn O J C u o (λU L=>⟨_,Q,L,q⟩) E
noncomputable def FQ(i:Nat)(g:TE)(c:D4):TS:=λD σ H=>∃x,σ[i]?=some (some x)/\g σ H λy l=>c x y l λz h=>D.nx (σ.set i (some z)) h
def YK{i : Nat}(hN : X.N.Nodup)(O : X.N[i]? = some x)(G : Loc X.env.scope x)(he : PE X e L)(ho : LO X op J)(hf : X.fn x = true \/ X.env.scope.names.lookup x = some .local := by first|exact .inl rfl|exact .inr rfl|assumption):
  PS X (.AugAssign (.Name x E) op e pos) (FQ i L J):=by
 intro g s σ H D I h;let⟨v,e1,h⟩:=h;let⟨m,hn,hl⟩:=I.loc;let vis:Fk X.env.scope x:=by rcases G with k|k;exact .inl k;exact .inr (.inl k)
 let⟨u,r,l⟩:=hl i x v O e1 vis;refine wpAny_AugAssign_Name ?_;let go:aH (aY X.prog X.w) X.A (eval e X.env) (λw s₂=>aH (aY X.prog X.w) X.A (inplaceOp op u w) (λr s₃=>aH (aY X.prog X.w) X.A (qY X.env x r) (λ_=>SP X g D .next) X.xe s₃) X.xe s₂) X.xe s:=by refine gA (he g s σ H _ I h) λw Q C=>?_;let⟨y,H1,I1,Y,q1⟩:=C;refine gA (ho g Q σ H1 v y u w _ I1 r Y q1) λz s2 B=>?_;let⟨zv,H2,I2,U,q2⟩:=B;exact Kn I2 hN O G U (λs3 I3=>⟨_,H2,I3,q2⟩) hf
 rcases l with ⟨o,hm⟩|⟨o,c,hc,q⟩
 ·exact Bg I.ok.kind o hn hm go
 ·rcases o with o|o
  ·exact BP I.ok.kind o hc q go
  ·rcases G with k|k
   ·have:X.env.scope.names.lookup x=some .free:=o;rw[k]at this;cases this
   ·have:X.env.scope.names.lookup x=some .free:=o;rw[k]at this;cases this
noncomputable def FF(to l q:TE)(g:V->V->Hp->VK->Prop)(h:D4)(c:xC):TS:=λD σ H=>to σ H λo G=>l σ G λi E=>g o i E λx C=>q σ C λy B=>h x y B λz v=>c o i z v λu=>D.nx σ u
def GB(X:Cx)(t:V->V->Hp->VK->Prop):Prop:=
 ∀(ac:List (ak×Obj))(s:aq)(σ:St)(H:Hp)(o i:V)(ov iv:ah)(Q:VK),Inv X ac σ H s->RelV o ov->RelV i iv->t o i H Q ->
  aH (aY X.prog X.w) X.A (qZ ov iv) (EP X ac σ Q) X.xe s
def Zq(ho:PE X o to)(hi:PE X i Y)(hg:GB X l)(he:PE X e te)(hp:LO X op C)(hs:PSet X g)(ha:∀q u new,augStore i q u new=(do lK [new,q,u] (pG q u new);Er [new,q,u] [];pure .next):=by intros;rfl):PS X (.AugAssign (.Subscript o i B) op e pos) (FF to Y te l C g):=by
 intro c s σ H D I h;refine wpAny_AugAssign_SubscriptAny (gA (ho c s σ H _ I h) λq s1 ⟨U,H1,I1,r1,q1⟩=>?_) ha;refine gA (hi c s1 σ H1 _ I1 q1) λu s2 O=>?_;let⟨Q,H2,I2,r2,q2⟩:=O;refine gA (hg c s2 σ H2 U Q q u _ I2 r1 r2 q2) λold s3 L=>?_;let⟨x3,H3,I3,r3,q3⟩:=L;refine gA (he c s3 σ H3 _ I3 q3) λv s4 J=>?_;let⟨x4,H4,I4,r4,q4⟩:=J;refine gA (hp c s4 σ H4 x3 x4 old v _ I4 r3 r4 q4) λnew s5 G=>?_;let⟨x5,H5,I5,r5,q5⟩:=G;exact gA (hs c s5 σ H5 U Q x5 q u new _ I5 r1 r2 r5 q5) λ_ s6 E=>by let⟨H6,I6,q6⟩:=E;exact⟨σ,H6,I6,q6⟩
noncomputable def N7(f:Int->Int->Int):D4:=λx y H Q=>∃i j,x=.int i/\y=.int j/\Q (.int (f i j)) H
def O6:LO X .Add (N7 λi j=>i+j):=by intro c s σ H x y v u Q I l g h;let⟨i,j,B,o,q⟩:=h;subst B;subst o;let⟨t,rfl⟩:=l;let⟨t',rfl⟩:=g;exact iadd_int ⟨.int _,H,I.tok _,⟨_,rfl⟩,q⟩
end
section
variable{X:Cx}
def Ds(c:TT)(tb:TS):TS:=λD σ H=>∃W:Nat->St->Hp->Prop,(∃m,W m σ H)/\∀m σ H,W m σ H ->
 c σ H λb h=>if b=true then ∃N:St->Hp->Prop,(∀σ' H',N σ' H'->∃g,g < m/\W g σ' H')/\tb { D with nx:=N,ct:=N,bk:=D.nx } σ h else D.nx σ h
def ZV{tb:TS}(U:uC (aY X.prog X.w) X.A X.env X.xe)(hc:PT X c Q)(hb:PSs X l tb):PS X (.While c l [] pos) (Ds Q tb):=by
 intro g s σ H D I h;let⟨W,⟨m0,w0⟩,o⟩:=h;refine wpAny_While (codeAny_whileLoop (λn s'=>∃σ' H',Inv X g σ' H' s'/\W n σ' H') ?_ m0 ⟨σ,H,I,w0⟩)
 rintro n s1 ⟨σ1,H1,I1,w1⟩
 refine iK U (gA (hc g s1 σ1 H1 _ I1 (o n σ1 H1 w1)) λb s2 q=>?_);let⟨H2,I2,C⟩:=q;cases b with
 |true=>
  let⟨N,Y,C⟩:=C;rw[aJ rfl];refine iK U (gA (hb g s2 σ1 H2 _ I2 C) λf s3 B=>?_);cases f with
  |next=>
   let⟨σ3,u,O,G⟩:=B;let⟨J,L,E⟩:=Y σ3 u G;exact⟨J,L,σ3,u,O,E⟩
  |cont=>
   let⟨σ3,u,O,G⟩:=B;let⟨J,L,E⟩:=Y σ3 u G;exact⟨J,L,σ3,u,O,E⟩
  |brk=>exact B|ret v=>exact B
 |false=>
  rw[az bD];exact vE ⟨σ1,H2,I2,C⟩
end
structure It where
 go:Nat->Hp->Prop
 yld:Nat->Hp->V->Hp->Prop
 stop:Nat->Hp->Prop
def pU(X:Cx)(g:List (ak×Obj))(H:Hp)(b:ak):Prop:=
 H b=none/\b≠X.env.locals/\b∉X.fs/\(b∈X.ex\/X.s₀.heap.objs.size<=b)/\(∀x c,X.env.cells.lookup x=some c->c≠b)/\∀p∈X.pn++g,p.1≠b
def Inv.fpOk{H l:Hp}(I:Inv X g σ H s)(h:s.heap.objs.size<=b)(u:l b=none):pU X g l b:=by
 refine⟨u,dm (bh I.lt h),I.nofs h,.inr (c5 I.sz h),λx c e z=>?_,λp o z=>?_⟩
 ·let⟨v,q⟩:=I.cell x c e;exact bo (bh q.lt (by rw[z];exact h)) (cT _)
 ·exact bo (bh (aK (I.pin p o).1) (by rw[z];exact h)) (cT _)
structure vv(P:Program)(w:bR)(K:ai)(tg:Expr)(J:It)(fp:List ak)(it:ak)(tn:Nat->bN->Prop):Prop where
 mem:it∈fp
 obj:∀i h,tn i h->∀b∈fp,∃o,h.get? b=some o/\∀v,o.data≠.cell v
 keep:∀i h h',tn i h->(∀b∈fp,∀o,h.get? b=some o->h'.get? b=some o)->tn i h'
 item:∀(X:Cx),X.prog=P->X.w=w->X.K=K->X.calm=true->∀(i:Nat)(ac:List (ak×Obj))(s:aq)(σ:St)(H:Hp)(E:ah->aq->Prop),Inv X ac σ H s->(∀b∈fp,pU X ac H b)->tn i s.heap->J.go i H ->
  aH (aY P w) X.A (ip (.ref it)) (λr s1=>∃u,r=some u /\
   aH (aY P w) X.A (pO tg (.ref it) u) (λ_ s2=>∃x H',Inv X ac σ H' s2/\RelV x u/\J.yld i H x H'/\tn (i+1) s2.heap/\∀b∈fp,H' b=none) E s1) E s
 done:∀(X:Cx),X.prog=P->X.w=w->X.K=K->X.calm=true->∀(i:Nat)(ac:List (ak×Obj))(s:aq)(σ:St)(H:Hp)(E:ah->aq->Prop),Inv X ac σ H s->(∀b∈fp,pU X ac H b)->tn i s.heap->J.stop i H ->
  aH (aY P w) X.A (ip (.ref it)) (λr s1=>r=none/\Inv X ac σ H s1) E s
 self:∀(A:bM)(i:Nat)(s:aq)(Q:ah->aq->Prop)(E:ah->aq->Prop),tn i s.heap->Q (.ref it) s->aH (aY P w) A (zH (.ref it)) Q E s
abbrev TI:=St->Hp->(It->Hp->Prop)->Prop
def RN(X:Cx)(c:List (ak×Obj))(σ:St)(tg:Expr)(R:It->Hp->Prop)(g:ah)(o:aq):Prop:=
 ∃(q:ak)(fp:List ak)(l:Nat->bN->Prop)(J:It)(h:Hp),g=.ref q/\Inv X c σ h o/\vv X.prog X.w X.K tg J fp q l/\l 0 o.heap/\(∀b∈fp,pU X c h b)/\R J h
def PI(X:Cx)(tg iter:Expr)(c:TI):Prop:=
 ∀(ac:List (ak×Obj))(s:aq)(σ:St)(H:Hp)(R:It->Hp->Prop),Inv X ac σ H s->c σ H R ->
  aH (aY X.prog X.w) X.A (eval iter X.env) (λv g=>aH (aY X.prog X.w) X.A (zH v) (RN X ac σ tg R) X.xe g) X.xe s
def I_{M:Eo}{s:aq}{Q:Unit->aq->Prop}(q:s.heap.get? l=some o)(B:o.cls=.type n)(hd:o.data=.fields g)(v:["enumerate","zip","dict_itemiterator","dict_reverseitemiterator","odict_iterator","itertools.zip_longest","itertools.pairwise"].contains n=false) (c:Q Unit.unit s):aH M A (pO tg (.ref l) u) Q E s:=by
 unfold pO;cases tg<;>first
  |exact aj c
  | (cases u <;> first
    |exact aj c
    | (refine ab (wpAny_load q ?_)
       rw[B,hd]
       show aH M A (if (["enumerate","zip","dict_itemiterator","dict_reverseitemiterator","odict_iterator","itertools.zip_longest","itertools.pairwise"].contains n&&g[0]? == some (dU _))=true then _ else _) Q E s;rw[az (by intro h;rw[v,t5]at h;cases h)];exact aj c))
def Jf(K:ai)(a:ak):It:=
 ⟨λi H=>∃xs x,io K H a xs/\xs[i]?=some x,λi H x c=>c=H/\∀xs,io K H a xs->xs[i]?=some x,λi H=>∃xs,io K H a xs/\xs.length<=i⟩
def MQ(K:ai)(a:ak):It:=
 ⟨λi H=>∃xs x,mU K H a xs/\xs[i]?=some x,λi H x c=>c=H/\∀xs,mU K H a xs->xs[i]?=some x,λi H=>∃xs,mU K H a xs/\xs.length<=i⟩
noncomputable def HE(lo:Int)(n:Nat):It:=⟨λi _=>i < n,λi H x c=>c=H/\x=.int (lo+i),λi _=>n<=i⟩
def QS{K:ai}(a l:ak):vv P w K tg (Jf K a) [l] l (λi h=>h.IsListIter l a i) where
 mem:=by simp
 obj:=λi h st b q=>by
  let e:b=l:=by simpa using q
  subst e;let⟨o,e,c,d⟩:=st;exact⟨o,e,λv z=>by rw[d]at z;cases z⟩
 keep:=λi h h' st k=>st.at λo e=>k l (by simp) o e
 item:=by intro X U O Y hc i g s σ H E I G st Q;subst U O Y;let⟨xs,x,C,L⟩:=Q;let⟨its,J,p,hz⟩:=I.list C;let⟨u,hu,ru⟩:=J.get L;let⟨f0,f1,f2,f3,f4,f5⟩:=G l (by simp);refine wpAny_pyNext_list_item st p.isList (x:=u) (by simpa using hu) λh' B sb=>?_;have I1:Inv X g σ H { s with heap:=h' }:=I.turned (t':=s.toks) (λb o q e=>(sb.2 b q).trans e) f0 f1 f3 f4 f5;let⟨o,e,c,d⟩:=id B;exact⟨u,rfl,I_ (s:={ s with heap:=h' }) e c d (by decide) ⟨x,H,I1,ru,⟨rfl,λys hy=>by rw[I.list_inj hy C];exact L⟩,B,λb q=>(G b q).1⟩⟩
 done:=by intro X U O Y hc i g s σ H E I G st Q;subst U O Y;let⟨xs,C,L⟩:=Q;let⟨its,J,p,hz⟩:=I.list C;let⟨f0,f1,f2,f3,f4,f5⟩:=G l (by simp);have hl:=J.length;exact wpAny_pyNext_list_end (I.ok.hd hc) st p.isList (by simp;ext) λh' eb=>⟨rfl,I.turned (t':=s.toks) (λb o q e=>eb b o q e) f0 f1 f3 f4 f5⟩
 self:=λ_ _ _ _ _ st h=>wpAny_pyIter_listiter st h
def W1{K:ai}(a l:ak):vv P w K tg (MQ K a) [l] l (λi h=>h.IsTupleIter l a i) where
 mem:=by simp
 obj:=λi h st b q=>by
  let e:b=l:=by simpa using q
  subst e;let⟨o,e,c,d⟩:=st;exact⟨o,e,λv z=>by rw[d]at z;cases z⟩
 keep:=λi h h' st k=>st.at λo e=>k l (by simp) o e
 item:=by intro X U O Y hc i g s σ H E I G st Q;subst U O Y;let⟨xs,x,C,L⟩:=Q;let⟨its,J,p,hz⟩:=I.tuple C;let⟨u,hu,ru⟩:=J.get L;let⟨f0,f1,f2,f3,f4,f5⟩:=G l (by simp);refine wpAny_pyNext_tuple_item st (show s.heap.IsTuple a its.toArray from p) (x:=u) (by simpa using hu) λh' B sb=>?_;have I1:Inv X g σ H { s with heap:=h' }:=I.turned (t':=s.toks) (λb o q e=>(sb.2 b q).trans e) f0 f1 f3 f4 f5;let⟨o,e,c,d⟩:=id B;exact⟨u,rfl,I_ (s:={ s with heap:=h' }) e c d (by decide) ⟨x,H,I1,ru,⟨rfl,λys hy=>by rw[I.tuple_inj hy C];exact L⟩,B,λb q=>(G b q).1⟩⟩
 done:=by intro X U O Y hc i g s σ H E I G st Q;subst U O Y;let⟨xs,C,L⟩:=Q;let⟨its,J,p,hz⟩:=I.tuple C;let⟨f0,f1,f2,f3,f4,f5⟩:=G l (by simp);have hl:=J.length;exact wpAny_pyNext_tuple_end (I.ok.hd hc) st (show s.heap.IsTuple a its.toArray from p) (by simp;ext) λh' eb=>⟨rfl,I.turned (t':=s.toks) (λb o q e=>eb b o q e) f0 f1 f3 f4 f5⟩
 self:=λ_ _ _ _ _ st h=>wpAny_pyIter_tupleiter st h
def Qa6{K:ai}(g:ak)(lo:Int)(n:Nat):vv P w K tg (HE lo n) [g] g (λi h=>IsRangeIter h g (lo+(i:Nat)*1) ((n:Int)-(i:Nat)) 1) where
 mem:=by simp
 obj:=λi h st b l=>by
  let e:b=g:=by simpa using l
  subst e;exact⟨_,st,λv z=>by have z':Ig _=Data.cell v:=z;cases z'⟩
 keep:=λi h h' st k=>k g (by simp) _ st
 item:=by intro X J B L G i c s σ H E I u st C;subst J B L;let⟨f0,Y,f2,U,Q,O⟩:=u g (by simp);have W:=Walks.range (prog:=X.prog) (w:=X.w) (I.ok.hd G) g lo 1 n;refine W.item i s _ _ C st λv h' tk hv q kk=>?_;let⟨t,rfl⟩:=hv;have I1:Inv X c σ H { s with heap:=h',toks:=tk }:=I.turned (λb o l e=>kk b o (by simpa using l) e) f0 Y U Q O;refine⟨_,rfl,I_ (s:={ s with heap:=h',toks:=tk }) (n:="range_iterator") q rfl rfl (by decide) ⟨.int (lo+i),H,I1,⟨t,?_⟩,⟨rfl,rfl⟩,q,λb l=>(u b l).1⟩⟩;rw[Int.mul_one]
 done:=by intro X J B L G i c s σ H E I u st C;subst J B L;let⟨f0,Y,f2,U,Q,O⟩:=u g (by simp);exact wpAny_pyNext_range_end (I.ok.hd G) st (by have:n<=i:=C;ext) λh' eb=>⟨rfl,I.turned (t':=s.toks) (λb o l e=>eb b o l e) f0 Y U Q O⟩
 self:=λ_ _ _ _ _ st h=>wpAny_pyIter_rangeiter st h
section
variable{X:Cx}
def Gu(K:ai)(g:TE):TI:=λσ H R=>g σ H λx c=>∃a,x=.ref a/\(∃xs,io K c a xs)/\R (Jf K a) c
def ZT(L:PE X l C):PI X tg l (Gu X.K C):=by
 intro g s σ H R I h;refine gA (L g s σ H _ I h) λv u c=>?_;let⟨x,Q,B,E,G⟩:=c;let⟨a,e,⟨xs,J⟩,q⟩:=G;subst e;cases E;let⟨its,U,p,hz⟩:=B.list J;refine g8 p.isList ?_;refine⟨u.heap.objs.size,[u.heap.objs.size],_,_,Q,rfl,B.kept (t':=u.toks) λb o e=>am _ e,QS a _,⟨_,aC _ rfl,rfl,rfl⟩,λb O=>?_,q⟩;let e:b=u.heap.objs.size:=by simpa using O
 subst e;exact B.fpOk (ay _) (B.hok.fresh (ay _))
def Py{R:It->Hp->Prop}{lo c:Int}{h:Nat}(I:Inv X g σ H s)(L : -(2^62)<=lo)(J:lo < 2^62)(G : -(2^62)<=c)(C:c < 2^62)(q:R (HE lo (c-lo).toNat) H):aH (aY X.prog X.w) X.A (zH (.ref s.heap.objs.size)) (RN X g σ tg R) E { s with heap:=s.heap.push { cls:=.type "range",data:=.fields #[.int lo t,.int c u,.int 1 v] },toks:=h }:=by
 refine wpAny_pyIter_range (IsRange.new ..) (small_one L J G C) ?_;let l:Inv X g σ H { s with heap:=s.heap.push { cls:=.type "range",data:=.fields #[.int lo t,.int c u,.int 1 v] },toks:=h }:=I.kept λb o e=>am _ e;refine⟨(s.heap.push { cls:=.type "range",data:=.fields #[.int lo t,.int c u,.int 1 v] }).objs.size,[(s.heap.push { cls:=.type "range",data:=.fields #[.int lo t,.int c u,.int 1 v] }).objs.size],_,_,H,rfl,
  l.kept (t':=h) λb o e=>am _ e,Qa6 _ lo (c-lo).toNat,?_,λb B=>?_,q⟩
 ·let Q:lo+((0:Nat):Int)*1=lo:=by simp
  let O:(((c-lo).toNat:Nat):Int)-((0:Nat):Int)=Builtin.Range.rangeSize lo c 1:=by rw[rangeSize_one];split<;>ext
  show IsRangeIter _ _ (lo+((0:Nat):Int)*1) ((((c-lo).toNat:Nat):Int)-((0:Nat):Int)) 1;rw[Q,O];exact aC _ rfl
 ·let e:b=(s.heap.push { cls:=.type "range",data:=.fields #[.int lo t,.int c u,.int 1 v] }).objs.size:=by simpa using B
  subst e;exact l.fpOk (ay _) (l.hok.fresh (ay _))
def gw(g:TA):TI:=λσ H R=>g σ H λc h=>∃j:Int,c=[.int j] /\ -(2^62)<=j/\j < 2^62/\R (HE 0 j.toNat) h
def oB(g:TA):TI:=λσ H R=>g σ H λc h=>∃i j:Int,c=[.int i,.int j]/\(-(2^62)<=i/\i < 2^62 /\ -(2^62)<=j/\j < 2^62)/\R (HE i (j-i).toNat) h
def Qa9(C:Gl X "range")(B:X.mg "range"=none)(E:PA X [a] l)(v:starEach [a] X.env=[(false,eval a X.env)]:=by rfl):PI X tg (.Call (.Name "range" p) [a] [] pos) (gw l):=by
 intro c s σ H R I h;refine Call_ (yy I C B boot_range (cz (gA (E pos c s σ H _ I h) λL O ⟨J,Q,G,o,g⟩=>?_) v rfl));let⟨j,e,g,u,q⟩:=g;subst e;cases o with|cons r rr=>
  cases rr;let⟨t,rfl⟩:=r;exact call_range_1 (Py G () () g u (by simpa using q))
def Qba(J : Gl X "range")(G : X.mg "range" = none)(L : PA X [a, b] o)(E : starEach [a, b] X.env = [(false, eval a X.env), (false, eval b X.env)] := by rfl)(g : starEach [b] X.env = [(false, eval b X.env)] := by rfl):
  PI X tg (.Call (.Name "range" p) [a,b] [] pos) (oB o):=by
 intro c s σ H R I h;refine Call_ (yy I J G boot_range (cz (gA (L pos c s σ H _ I h) λU Y ⟨Q,H1,O,u,l⟩=>?_) (by rw[E,g]) (by rw[g];rfl)));let⟨i,j,e,⟨l,C,B,v⟩,q⟩:=l;subst e;cases u with|cons r rr=>
  cases rr with|cons r' rr=>
   cases rr;let⟨t,rfl⟩:=r;let⟨t',rfl⟩:=r';exact call_range_2 (Py O l C B v q)
def KN(l:TI)(g:TG)(tb:TS):TS:=λD σ H=>l σ H λJ q=>∃W:Nat->Nat->St->Hp->Prop,(∃m,W 0 m σ q)/\∀i m σ H,W i m σ H ->
 (J.stop i H/\D.nx σ H)\/(J.go i H/\∃N:St->Hp->Prop,(∀σ' c,N σ' c->∃h,h < m/\W (i+1) h σ' c)/\∀x c,J.yld i H x c->g x σ c λσ2 o=>tb { D with nx:=N,ct:=N,bk:=D.nx } σ2 o)
noncomputable def qA(fp:List ak)(h:bN):List (ak×Obj):=fp.filterMap λb=>(h.get? b).map λo=>(b,o)
def HG{fp:List ak}{h:bN}(c:b∈fp)(e:h.get? b=some o):(b,o)∈qA fp h:=mP.mpr ⟨b,c,by rw[e];rfl⟩
def WU(c:p∈qA fp h):p.1∈fp/\h.get? p.1=some p.2:=by
 let⟨b,g,e⟩:=mP.mp c;cases q:h.get? b with|none=>rw[q]at e;cases e|some o=>
  rw[q]at e;let l:(b,o)=p:=aF e;subst l;exact⟨g,q⟩
def Inv.pinned{fp:List ak}(I:Inv X c σ H s)(u:∀b∈fp,pU X c H b)(q:∀b∈fp,∃o,s.heap.get? b=some o/\∀v,o.data≠.cell v):Inv X (c++qA fp s.heap) σ H s:=
 I.pins_of λp l=>(aO.mp l).elim (λz=>I.pin p (bK _ z)) λz=>by let⟨g,e⟩:=WU z;let⟨E,C,B,_⟩:=u p.1 g;let⟨o,h,d⟩:=q p.1 g;rw[e]at h;cases h;exact⟨e,E,C,B,d⟩
def Inv.unpinned(I:Inv X (c++g) σ H s):Inv X c σ H s:=I.pins_of λp h=>I.pin p (bK _ (bv _ h))
def S_{tb:TS}(hp:uC (aY X.prog X.w) X.A X.env X.xe)(hc:X.calm=true)(hi:PI X tg iter wi)(hg:PG X tg g)(q:PSs X L tb)(hs:∀x,fS iter X.env x=pure x:=by intro _;rfl):PS X (.For tg iter L [] pos) (KN wi g tb):=by
 intro c s σ H D I h;refine wpAny_For (gA (hi c s σ H _ I h) λv s1 h1=>gA h1 λitv s2 h2=>?_) hs;let⟨it,fp,tn,J,H2,e,I2,T,st2,f2,W,⟨m0,w0⟩,Q⟩:=h2;subst e;let l:∀{E:Hp},(∀b∈fp,E b=none)->∀b∈fp,pU X c E b:=λhn b q=>⟨hn b q,(f2 b q).2⟩
 refine codeAny_forLoop_any (λn s'=>∃i σ' E,Inv X c σ' E s'/\tn i s'.heap/\(∀b∈fp,E b=none)/\W i n σ' E) ?_ m0 ⟨0,σ,H2,I2,st2,λb q=>(f2 b q).1,w0⟩
 rintro n s3 ⟨i,σ3,H3,I3,st3,fr3,w3⟩
 rcases Q i n σ3 H3 w3 with ⟨U,qn⟩|⟨go,N,hN,step⟩
 ·refine iK hp (gA (T.done X rfl rfl rfl hc i c s3 σ3 H3 X.xe I3 (l fr3) st3 U) λr s4 g=>?_);let⟨hr,h⟩:=g;subst hr;exact vE ⟨σ3,H3,h,qn⟩
 ·refine iK hp (gA (T.item X rfl rfl rfl hc i c s3 σ3 H3 X.xe I3 (l fr3) st3 go) λr s4 h=>?_);let⟨u,hr,h4⟩:=h;subst hr;refine iK hp (gA h4 λ_ Q g=>?_);let⟨x,U,I5,r5,y5,O,J⟩:=g;let L:=I5.pinned (l J) (T.obj _ _ O);refine iK hp (gA (hg _ Q σ3 U x u _ L r5 (step x U y5)) λ_ s6 Y=>?_);let⟨σ6,H6,I6,q6⟩:=Y;refine iK hp (gA (q _ s6 σ6 H6 _ I6 q6) λf I G=>?_);let again:∀{σ7:St}{C:Hp},Inv X (c++qA fp Q.heap) σ7 C I->N σ7 C->∃m,m < n/\∃i σ' E,Inv X c σ' E I/\tn i I.heap/\(∀b∈fp,E b=none)/\W i m σ' E:=λ{σ7 C}B H=>by let⟨m',hm,w7⟩:=hN σ7 C H;refine⟨m',hm,i+1,σ7,C,B.unpinned,T.keep _ _ _ O λb q o e=>(B.pin (b,o) (bK _ (bK _ (HG q e)))).1,λb q=>?_,w7⟩;let⟨o,e,d⟩:=T.obj _ _ O b q;exact (B.pin (b,o) (bK _ (bK _ (HG q e)))).2.1
  cases f with|next=>let⟨σ7,C,B,H⟩:=G;exact again B H|cont=>let⟨σ7,C,B,H⟩:=G;exact again B H|brk=>let⟨σ7,C,B,G⟩:=G;exact⟨σ7,C,B.unpinned,G⟩|ret v=>let⟨x7,σ7,C,B,r7,G⟩:=G;exact⟨x7,σ7,C,B.unpinned,r7,G⟩
end
abbrev R2:=V->V->Hp->VK->Prop
def OpR(X:Cx)(f:ah->ah->Sem ah)(r:R2):Prop:=
 ∀(ac:List (ak×Obj))(s:aq)(σ:St)(H:Hp)(x y:V)(v u:ah)(Q:VK),Inv X ac σ H s->RelV x v->RelV y u->r x y H Q ->
  aH (aY X.prog X.w) X.A (f v u) (EP X ac σ Q) X.xe s
def HI(X:Cx)(f:ah->Sem ah)(r:V->Hp->VK->Prop):Prop:=
 ∀(ac:List (ak×Obj))(s:aq)(σ:St)(H:Hp)(x:V)(v:ah)(Q:VK),Inv X ac σ H s->RelV x v->r x H Q ->
  aH (aY X.prog X.w) X.A (f v) (EP X ac σ Q) X.xe s
def CallR(X:Cx)(f:ah)(r:List V->Hp->VK->Prop):Prop:=
 ∀(ac:List (ak×Obj))(s:aq)(σ:St)(H:Hp)(xs:List V)(us:List ah)(Q:VK),Inv X ac σ H s->cj xs us->r xs H Q ->
  aH (aY X.prog X.w) X.A (call f us) (EP X ac σ Q) X.xe s
def LZ(X:Cx)(r:V->Hp->(Bool->Hp->Prop)->Prop):Prop:=
 ∀(ac:List (ak×Obj))(s:aq)(σ:St)(H:Hp)(x:V)(v:ah)(Q:Bool->Hp->Prop),Inv X ac σ H s->RelV x v->r x H Q ->
  aH (aY X.prog X.w) X.A (truthy v) (TP X ac σ Q) X.xe s
noncomputable def EI(r:R2)(c tb:TE):TE:=λσ H Q=>c σ H λx h=>tb σ h λy g=>r x y g Q
noncomputable def NG(r:V->Hp->VK->Prop)(c:TE):TE:=λσ H Q=>c σ H λx g=>r x g Q
noncomputable def rI(C:Int->Int->Prop)(g:Int->Int->V):R2:=λx y H Q=>∃i j,x=.int i/\y=.int j/\C i j/\Q (g i j) H
noncomputable def Cf(g:Int->Int->V):R2:=λx y H Q=>∃i j,x=.int i/\y=.int j/\Q (g i j) H
noncomputable def rU(g:Int->V):V->Hp->VK->Prop:=λx H Q=>∃i,x=.int i/\Q (g i) H
section
variable{X:Cx}{ta tb tc:TE}
def CK(c:PE X a ta)(Y:PE X b tb){R:V->V->Hp->Prop}(I:Inv X g σ H s)(h:ta σ H λx C=>tb σ C λy l=>R x y l) {f:ah->ah->Sem ah}(U:∀v u B x y l,Inv X g σ l B->RelV x v->RelV y u->R x y l->aH (aY X.prog X.w) X.A (f v u) Q X.xe B):aH (aY X.prog X.w) X.A (eval a X.env) (λv s₁=>aH (aY X.prog X.w) X.A (eval b X.env) (λu s₂=>aH (aY X.prog X.w) X.A (f v u) Q X.xe s₂) X.xe s₁) X.xe s:=by
 refine gA (c g s σ H _ I h) λv E q=>?_;let⟨x,C,I1,J,O⟩:=q;refine gA (Y g E σ C _ I1 O) λu B o=>?_;let⟨y,l,I2,G,L⟩:=o;exact U v u B x y l I2 J G L
def Wj(C:OpR X (fP op) r)(G:PE X a ta)(E:PE X b tb):PE X (.BinOp a op b pos) (EI r ta tb):=by intro g s σ H Q I h;exact wpAny_BinOp (CK G E I h λv u l x y L J B o q=>C g l σ L x y v u Q J B o q)
def Pc(B:HI X (Es op) r)(C:PE X a ta):PE X (.UnaryOp op a pos) (NG r ta):=by intro g s σ H Q I h;exact UnaryOp_ (gA (C g s σ H _ I h) λv o l=>by let⟨x,G,E,q,u⟩:=l;exact B g o σ G x v Q E q u)
def uk{f:ah->ah->Sem ah}{C:Int->Int->Prop}{g:Int->Int->Int}(rule:∀(i j:Int)(t u:Tok)(s:aq)(Q:ah->aq->Prop)(E:ah->aq->Prop),C i j->Q (.int (g i j) s.toks) { s with toks:=s.toks+1 }->aH (aY X.prog X.w) X.A (f (.int i t) (.int j u)) Q E s):OpR X f (rI C λi j=>.int (g i j)):=by
 intro l s σ H x y v u Q I B o h;let⟨i,j,rfl,rfl,G,q⟩:=h;let⟨t,rfl⟩:=B;let⟨t',rfl⟩:=o;exact rule i j t t' s _ _ G ⟨.int (g i j),H,I.tok _,⟨_,rfl⟩,q⟩
def EX{f:ah->ah->Sem ah}{g:Int->Int->Int}(rule:∀(i j:Int)(t u:Tok)(s:aq)(Q:ah->aq->Prop)(E:ah->aq->Prop),Q (.int (g i j) s.toks) { s with toks:=s.toks+1 }->aH (aY X.prog X.w) X.A (f (.int i t) (.int j u)) Q E s):OpR X f (Cf λi j=>.int (g i j)):=by
 intro l s σ H x y v u Q I B o h;let⟨i,j,rfl,rfl,q⟩:=h;let⟨t,rfl⟩:=B;let⟨t',rfl⟩:=o;exact rule i j t t' s _ _ ⟨.int (g i j),H,I.tok _,⟨_,rfl⟩,q⟩
def DJ{f:ah->ah->Sem ah}{g:Int->Int->Bool}(rule:∀(i j:Int)(t u:Tok)(s:aq)(Q:ah->aq->Prop)(E:ah->aq->Prop),Q (.bool (g i j)) s->aH (aY X.prog X.w) X.A (f (.int i t) (.int j u)) Q E s):OpR X f (Cf λi j=>.bl (g i j)):=by
 intro l s σ H x y v u Q I B o h;let⟨i,j,rfl,rfl,q⟩:=h;let⟨t,rfl⟩:=B;let⟨t',rfl⟩:=o;exact rule i j t t' s _ _ ⟨.bl (g i j),H,I,rfl,q⟩
noncomputable def Kk(i j:Int):Prop:=0 < j/\j < 1073741824
noncomputable def Lf(i j:Int):Prop:=0<=j/\j<=1000000/\i.natAbs < 2^64
noncomputable def Ct(i j:Int):Prop:=(-(2^64) < i/\i < 2^64)\/(-(2^64) < j/\j < 2^64)
def Ct.ok{i j:Int}(h:Ct i j):IntMulOk i j:=by
 rcases h with ⟨l,g⟩|⟨l,g⟩
 ·exact .of_left (intBits_le_64 l g)
 ·exact .of_right (intBits_le_64 l g)
def ZO:OpR X (fP .Add) (Cf λi j=>.int (i+j)):=EX λ_ _ _ _ _ _ _ q=>add_int q
def Tz:OpR X (fP .Sub) (Cf λi j=>.int (i-j)):=EX λ_ _ _ _ _ _ _ q=>sub_int q
def Tq:OpR X (fP .Mult) (rI Ct λi j=>.int (i*j)):=uk λ_ _ _ _ _ _ _ g q=>mul_int q g.ok
def Qbj:OpR X (fP .FloorDiv) (rI Kk λi j=>.int (i / j)):=uk λi j _ _ _ _ _ g q=>by have l:(0:Int) < j:=g.1;have h:j < 1073741824:=g.2;exact floordiv_int () (by rw[Int.fdiv_eq_ediv_of_nonneg i ()];exact q) (.inl (PyProof.noPylong_small ()))
def XI:OpR X (fP .Mod) (rI (λ_ j=>0 < j) λi j=>.int (i % j)):=uk λi j _ _ _ _ _ g q=>by have h:(0:Int) < j:=g;exact mod_int' () (by rw[Int.fmod_eq_emod_of_nonneg i ()];exact q)
def Xc:OpR X (fP .Pow) (rI Lf λi j=>.int (i^j.toNat)):=uk λ_ _ _ _ _ _ _ g q=>pow_int_small g.1 g.2.1 g.2.2 q
def Xh{f:ah->Sem ah}{g:Int->Int}(rule:∀(i:Int)(t:Tok)(s:aq)(Q:ah->aq->Prop)(E:ah->aq->Prop),Q (.int (g i) s.toks) { s with toks:=s.toks+1 }->aH (aY X.prog X.w) X.A (f (.int i t)) Q E s):HI X f (rU λi=>.int (g i)):=by
 intro l s σ H x v Q I o h;let⟨i,rfl,q⟩:=h;let⟨t,rfl⟩:=o;exact rule i t s _ _ ⟨.int (g i),H,I.tok _,⟨_,rfl⟩,q⟩
def Ro:HI X (Es .USub) (rU λi=>.int (-i)):=Xh λ_ _ _ _ _ q=>neg_int q
end
section
variable{X:Cx}{a b c:Expr}{ta tb tc:TE}
def Pf{Q:VK}(I:Inv X g σ H s)(q:Q (.bl k) H)(e:k=h):EP X g σ Q (.bool h) s:=by subst e;exact⟨.bl k,H,I,rfl,q⟩
def Uh:OpR X (cS .Lt) (Cf λi j=>.bl (decide (i < j))):=DJ λ_ _ _ _ _ _ _ q=>lt_int q
def Yp:OpR X (cS .Gt) (Cf λi j=>.bl (decide (j < i))):=DJ λ_ _ _ _ _ _ _ q=>gt_int q
def V9:OpR X (cS .GtE) (Cf λi j=>.bl (decide (j<=i))):=DJ λ_ _ _ _ _ _ _ q=>ge_int q
def Xu:OpR X (cS .Is) (λx y H Q=>y=.non/\Q (.bl (decide (x=.non))) H):=by
 intro l s σ H x y v u Q I g o h;let⟨rfl,q⟩:=h;cases o;refine is_none_gen (Pf I q ?_);cases x<;>first
  | (cases g;rfl)| (let⟨t,rfl⟩:=g;rfl)
def Ss:OpR X (cS .IsNot) (λx y H Q=>y=.non/\Q (.bl (!decide (x=.non))) H):=by
 intro l s σ H x y v u Q I g o h;let⟨rfl,q⟩:=h;cases o;refine isnot_none_gen (Pf I q ?_);cases x<;>first
  | (cases g;rfl)| (let⟨t,rfl⟩:=g;rfl)
def Qbt(b:Expr)(h:op≠.In:=by decide)(g:op≠.NotIn:=by decide):ij op b=false:=by
 let o:(op == uO.In)=false:=by cases op<;>first|rfl|exact bo rfl h
 let l:(op == uO.NotIn)=false:=by cases op<;>first|rfl|exact bo rfl g
 cases b<;>simp[ij,o,l]
def PB(C:OpR X (cS op) r)(J:PE X a ta)(G:PE X b tb)(E:ij op b=false):PE X (.Compare a [op] [b] pos) (EI r ta tb):=by intro g s σ H Q I h;exact wpAny_Compare1 (CK J G I h λv u l x y O L B o q=>C g l σ O x y v u Q L B o q) E
noncomputable def Gw(t:TE):TT:=λσ H Q=>t σ H λx g=>∃k,x=.bl k/\Q k g
def O4(L:OpR X (cS op) r)(Y:PE X a ta)(U:PE X b tb)(O:ij op b=false):PT X (.Compare a [op] [b] pos) (Gw (EI r ta tb)):=by
 intro g s σ H Q I h;refine wpAny_isTrue_Compare1 (gA (Y g s σ H _ I h) λv o ⟨x,H1,I1,C,J⟩=>gA (U g o σ H1 _ I1 J) λu l ⟨y,H2,I2,B,G⟩=>
  gA (L g l σ H2 x y v u _ I2 C B G) λc s3 ⟨z,H3,I3,q,k,e,E⟩=>?_) O
 subst e;cases q;exact fR ⟨H3,I3,E⟩
def Dd(K:ai)(x:V)(H:Hp)(k:Bool):Prop:=
 match x with| .non=>k=false| .bl b=>k=b| .int i=>k=(i != 0)| .str y=>y.length<=sizeLine/\k=((y.length:Int) != 0)| .byt y=>y.size<=sizeLine/\k=((y.size:Int) != 0)| .ref p=>(∃xs,io K H p xs/\k = !xs.isEmpty)\/(∃xs,mU K H p xs/\k = !xs.isEmpty)\/∃g,H p=some (.dK g)/\k = !g.isEmpty|_=>False
def Vy{κ:Type}{g:List (κ×V)}{h:List (κ×ah)}(r:KV g h):(!h.isEmpty) = !g.isEmpty:=by cases r<;>rfl
def O1(r:cj xs its):(!its.toArray.isEmpty) = !xs.isEmpty:=by cases r<;>simp
def BH:(sizeLine:Nat) < 2^63:=by rw[mG];decide
def Qbz:LZ X (λx H Q=>∃k,Dd X.K x H k/\Q k H):=by
 intro G s σ H x v Q I u h;let⟨k,e,q⟩:=h;let U:=BH;let O:sizeLine=16777216:=mG;cases x with
 |non=>
  cases u;let g:k=false:=e;subst g;exact truthy_none ⟨H,I,q⟩
 |bl b=>
  cases u;let g:k=b:=e;subst g;exact fR ⟨H,I,q⟩
 |int i=>
  let⟨t,rfl⟩:=u;let g:k=(i != 0):=e;subst g;exact PySem.P.truthy_int ⟨H,I,q⟩
 |str y=>
  let⟨t,rfl⟩:=u;obtain⟨J,g⟩:y.length<=sizeLine/\k=((y.length:Int) != 0):=e;subst g;exact PySem.P.truthy_str () ⟨H,I.tok _,q⟩
 |byt y=>
  let⟨t,rfl⟩:=u;obtain⟨J,g⟩:y.size<=sizeLine/\k=((y.size:Int) != 0):=e;subst g;exact PySem.W.truthy_bytes () ⟨H,I.tok _,q⟩
 |ref p=>
  cases u;let g:(∃xs,io X.K H p xs/\k = !xs.isEmpty)\/(∃xs,mU X.K H p xs/\k = !xs.isEmpty)\/∃l,H p=some (.dK l)/\k = !l.isEmpty:=e;rcases g with ⟨xs,B,g⟩|⟨xs,B,g⟩|⟨l,B,g⟩
  ·subst g;let⟨its,r,E,hz⟩:=I.list B;let o:=r.length;exact wpAny_truthy_list E.isList (by simp only[aL];ext) ⟨H,I.tok _,by rw[O1 r];exact q⟩
  ·subst g;let⟨its,r,E,hz⟩:=I.tuple B;let o:=r.length;exact truthy_tuple E (by simp only[aL];ext) ⟨H,I.tok _,by rw[O1 r];exact q⟩
  ·subst g;obtain⟨hz,L,C,r,m⟩:l.length<=sizeLine/\(p == cJ)=false/\∃C,KV l C/\s.heap.DictOf (gL X.prog X.w) p C:=I.hok p _ B;let o:l.length=C.length:=cZ r;exact wpAny_truthy_dict L m () ⟨H,I.tok _,by rw[Vy r];exact q⟩
 |_=>exact (show False from e).elim
def Tv(E:PE X a ta)(C:∀whole,isTrue a X.env whole=(do let v <- whole; zG a.pos; lK [v] (truthy v))):
  PT X a (λσ H Q=>ta σ H λx o=>∃k,Dd X.K x o k/\Q k o):=by
 intro g s σ H Q I h;exact isTrue_plain (gA (E g s σ H _ I h) λv q l=>by let⟨x,J,G,u,B⟩:=l;exact Qbz g q σ J x v Q G u B) (C _)
def QbB:OpR X (fP .Add) (λx y H Q=>∃i j,x=.str i/\y=.str j/\i.length+j.length<=sizeLine/\Q (.str (i++j)) H):=by intro g s σ H x y v u Q I o l h;let⟨i,j,rfl,rfl,hz,q⟩:=h;let⟨t,rfl⟩:=o;let⟨t',rfl⟩:=l;exact add_str (λt' B=>⟨.str (i++j),H,I.tok _,⟨_,rfl⟩,q⟩) hz
def wJ(r:cj [x] g):∃u,g=[u]/\RelV x u:=by
 cases r with|cons r1 r2=>cases r2;exact⟨_,rfl,r1⟩
def U7(r:cj [x,y] h):∃u g,h=[u,g]/\RelV x u/\RelV y g:=by
 cases r with|cons r1 r2=>
  cases r2 with|cons r3 r4=>cases r4;exact⟨_,_,rfl,r1,r3⟩
def QbE(o:X.calm=true):CallR X (.builtin "min") (λxs H Q=>∃i j,xs=[.int i,.int j]/\Q (.int (if j < i then j else i)) H):=by
 intro l s σ H xs B Q I r h;let⟨i,j,rfl,q⟩:=h;let⟨u,v,rfl,⟨t,rfl⟩,⟨t',rfl⟩⟩:=U7 r;refine min_two_ints (I.ok.hd o) λh' C k=>⟨_,H,I.kept k,?_,q⟩
 by_cases g:j < i
 ·rw[aJ g,aJ g];exact⟨_,rfl⟩
 ·rw[az g,az g];exact⟨_,rfl⟩
def Um:CallR X (.type "int") (λxs H Q=>(∃i,xs=[.int i]/\Q (.int i) H)\/∃k,xs=[.bl k]/\Q (.int (if k then 1 else 0)) H):=by
 intro g s σ H xs o Q I r h;rcases h with ⟨i,rfl,q⟩|⟨k,rfl,q⟩
 ·let⟨u,rfl,t,rfl⟩:=wJ r;exact call_int_int ⟨.int i,H,I,⟨_,rfl⟩,q⟩
 ·let⟨u,rfl,l⟩:=wJ r;cases l;exact call_int_bool ⟨.int (if k then 1 else 0),H,I.tok _,⟨_,rfl⟩,q⟩
end
def rC.some_of(r:rC (some v) o):∃u,o=some u/\RelV v u:=by
 cases o with|none=>exact (show False from r).elim|some u=>exact⟨u,rfl,r⟩
section
noncomputable def Hb:V->V->Hp->VK->Prop:=λx y H Q=>∃i j,x=.int i/\y=.int j/\Q (.int (i-j)) H
end
structure iJ(k:Nat)(A:bM):Prop where
 hd:A.handled=none
 dp:A.depth+3*k+5 < recursionLimit
 un:A.units+16*k+200 < cN
def iJ.mono{j k:Nat}(r:iJ k A)(h:j<=k):iJ j A:=⟨r.hd,by have:=r.dp;ext,by have:=r.un;ext⟩
theorem iJ.deeper{k:Nat}(r:iJ (k+1) A)(env:Env):iJ k (A.deeper env):=
 ⟨r.hd,by have:=r.dp;show A.depth+1+3*k+5 < _;ext,by have:=r.un;show A.units+3+16*k+200 < _;ext⟩
theorem iJ.depth{k:Nat}(r:iJ k A):A.depth < recursionLimit:=by have:=r.dp;ext
theorem iJ.units{k:Nat}(r:iJ k A):A.units+64 < cN:=by have:=r.un;ext
noncomputable def M9:TA:=λ_ H Q=>Q [] H
noncomputable def FH(g:TE)(c:TA):TA:=λσ H Q=>g σ H λx l=>c σ l λxs h=>Q (x::xs) h
section
variable{t:TA}
def vI:PA X [] M9:=λ_ _ _ _ H Q I h=>iz ⟨[],H,I,.nil,h⟩
def sA(J:PE X e te)(G:PA X es t)(E:starEach (e::es) X.env=(false,eval e X.env)::starEach es X.env:=by rfl):PA X (e::es) (FH te t):=by
 intro pos c s σ H Q I h;rw[E]
 show aH _ _ (tq ((false,eval e X.env)::backTo pos (starEach es X.env))) _ _ s;refine im (gA (J c s σ H _ I h) λu o l=>?_);let⟨x,Y,O,v,C⟩:=l;exact gA (G pos c o σ Y _ O C) λus s2 g=>by let⟨xs,U,L,q,B⟩:=g;exact⟨x::xs,U,L,.cons v q,B⟩
def Ks(t:TA):TE:=λσ H Q=>t σ H λxs c=>xs.length<=sizeLine/\∀p,c p=none->Q (.ref p) (fT c p (.tup xs))
def KP(t:TA):TE:=λσ H Q=>t σ H λxs c=>xs.length<=sizeLine/\∀p,c p=none->Q (.ref p) (fT c p (.lst xs))
def QbK{v}(h:PA X es t):PE X (.Tuple es v pos) (Ks t):=by intro c s σ H Q I C;refine wpAny_Tuple_spliced (gA (h pos c s σ H _ I C) λB g ⟨xs,o,l,r,z,q⟩=>⟨by rw[<- r.length];exact z,?_⟩);let E:o g.heap.objs.size=none:=l.hok.fresh (ay _);refine⟨.ref g.heap.objs.size,fT o g.heap.objs.size (.tup xs),l.laid (t':=g.toks) (λb u e=>am _ e) (ay _) ?_,rfl,q _ E⟩;exact⟨z,B,r,⟨_,aC _ rfl,rfl,⟨_,rfl⟩,rfl⟩⟩
def Xa(h:PA X es t):PE X (.List es pos) (KP t):=by intro c s σ H Q I B;refine wpAny_List_spliced (gA (h pos c s σ H _ I B) λv g ⟨xs,o,l,r,z,q⟩=>⟨by rw[<- r.length];exact z,?_⟩);let C:o g.heap.objs.size=none:=l.hok.fresh (ay _);refine⟨.ref g.heap.objs.size,fT o g.heap.objs.size (.lst xs),l.laid (t':=g.toks) (λb u e=>am _ e) (ay _) ?_,rfl,q _ C⟩;exact⟨z,v,0,r,aC _ rfl⟩
end
abbrev Sp:=List V->Hp->VK->XK->Prop
abbrev zD:=List Env->Hp->aq->XK->ah->aq->Prop
structure rT(P:Program)(w:bR)(K:ai)(mg:Str->Option ah)(base:bN)(A:bM)(outer:List Env)(s:aq)(H:Hp):Prop where
 frames:A.frames=some outer
 mod:Mod K mg base
 bs:∀b o,base.get? b=some o->s.heap.get? b=some o/\H b=none
 bsz:base.objs.size<=s.heap.objs.size
 funs:s.heap.FunFrames base outer
 frf:∀b∈e_ outer,H b=none
 hok:n0 P w H s.heap
 bare:mw s.gens
def CE(outer:List Env)(P:Program)(w:bR)(H:Hp)(s:aq)(Q:VK)(u:ah)(c:aq):Prop:=
 ∃v g,c.os=s.os/\mw c.gens/\Un (e_ outer) [] H g s.heap c.heap/\n0 P w g c.heap/\RelV v u/\Q v g
def CR(g:zD)(outer:List Env)(P:Program)(w:bR)(H:Hp)(s:aq)(Q:VK)(E:XK)(r:Result)(c:aq):Prop:=
 match r with| .ok (.ret u)=>CE outer P w H s Q u c| .ok _=>False| .error e=>g outer H s E e c
structure mX(P:Program)(w:bR)(K:ai)(mg:Str->Option ah)(base:bN)(CX:zD)(k:Nat)(f:ak)(fd:dq)(ps:List Str)(sp:Sp):Prop where
 len:∀vs H Q E,sp vs H Q E->vs.length=ps.length
 run:∀(A:bM)(outer:List Env)(s:aq)(H:Hp)(args:Args)(us:List ah)(vs:List V)(Q:VK)(E:XK),iJ k A->rT P w K mg base A outer s H->tx s fd args (ps.zip us)->cj vs us->sp vs H Q E ->
  ky (aY P w) A (.call (.ref f) args) (CR CX outer P w H s Q E) s
section
def Inv.env0(I:Inv X ac σ H s):rT X.prog X.w X.K X.mg X.base X.A X.stack s H:=
 ⟨I.ok.frames,I.ok.mod,I.bs,c5 I.ok.bsz I.sz,I.stack,I.stkFree,I.hok,I.bare⟩
def Inv.after(I:Inv X ac σ H s)(h:CE X.stack X.prog X.w H s Q u s'):EP X ac σ Q u s':=by let⟨v,o,os,c,un,hok,r,q⟩:=h;let⟨hh,g,d,t,l⟩:=s';obtain rfl:l=s.os:=os;exact⟨v,o,I.call (h':=hh) (g':=g) (d':=d) (t':=t) (ch:=[]) un hok c (λb z=>bo z (by simp)),r,q⟩
end
noncomputable def Fj(h:Sp)(c:List V)(E:XK)(t:TA):TE:=λσ H Q=>t σ H λg l=>h (g++c) l Q E
noncomputable def Binds(K:ai)(g:dq)(ps:List Str)(ds:List ah):Prop:=
 ∀(s:aq)(c:List ah),K.In s.heap->(c++ds).length=ps.length->tx s g ⟨c,[]⟩ (ps.zip (c++ds))
def Binds.all{K:ai}{ps:List Str}(h:∀c:List ah,c.length=ps.length->g9 l ⟨c,[]⟩=pure (ps.zip c)):Binds K l ps []:=λs c _ g=>by rw[bB]at g ⊢;exact .of_eq (h c g)
def uh(c:zD)(X:Cx)(E:XK):Prop:=∀(ac:List (ak×Obj))(σ:St)(H:Hp)(s:aq)(e:ah)(s':aq),Inv X ac σ H s->c X.stack H s E e s'->X.xe e s'
section
variable{X:Cx}{k:Nat}
def XY(F:mX X.prog X.w X.K X.mg X.base CX k f fd ps sp)(J:iJ k X.A)(O:Binds X.K fd ps ds)(hd:cj cx ds)(G:uh CX X E)(I:Inv X c σ H s) (r:cj q g) (h:sp (q++cx) H Q E):aH (aY X.prog X.w) X.A (call (.ref f) g) (EP X c σ Q) X.xe s:=by
 let v:cj (q++cx) (g++ds):=r.append hd;let L:(g++ds).length=ps.length:=by rw[<- v.length];exact F.len _ _ _ _ h
 refine wa (lL (F.run X.A X.stack s H ⟨g,[]⟩ (g++ds) (q++cx) Q E J I.env0 (O s g I.kIn L) v h) λr B l=>?_);cases r with|error e=>exact G c σ H s e B I l|ok fl=>
  cases fl with|ret u=>exact I.after l|next=>exact c_ l|brk=>exact c_ l|cont=>exact c_ l
def Pw(F:mX X.prog X.w X.K X.mg X.base CX k f fd ps sp)(B:iJ k X.A)(L:Gl X x)(G:X.mg x=some (.ref f))(J:di X.K (.ref f)=true)(U:Binds X.K fd ps ds)(hd:cj cx ds)(v:uh CX X E)(Y:PA X (e::es) t) (l:(x == ("__debug__":Str))=false:=by decide) (O:starEach (e::es) X.env=(false,eval e X.env)::starEach es X.env:=by rfl) (g:(backTo pos (starEach es X.env)).any (·.1)=false:=by rfl):
  PE X (.Call (.Name x p) (e::es) [] pos) (Fj sp cx E t):=by
 intro c s σ H Q I h;refine dM (QJ I L G ?_ l);refine wc (h₀:=X.base) I.ok.mod.kin J (gA (Y pos c s σ H _ I h) λC s1 ⟨o,H1,u,r,q⟩=>⟨u.kIn,?_⟩) O g;exact XY F B U hd v u r q
end
section
variable{X:Cx}{CX:zD}{k:Nat}{f C:ak}{fd:dq}{ps ks:List Str}{sp:Sp}{E:XK}{x m:Str}{p pos a5 d5:Pos}{e o:Expr}{es:List Expr}{kws:List iD}{te ta:TE}{t tk:TA}{nm:Option Str}
variable{g:List ah->List ah->List ah}{gV:List V->List V->List V}
end
structure mJ(N P:List Str)(sc:dB):Prop where
 kind:sc.kind=.function
 co:sc.isCoroutine=false
 gen:sc.isGenerator=false
 nd:N.Nodup
 pre:N.take P.length=P
 par:∀x∈P,sc.names.lookup x=some .local\/sc.names.lookup x=some .cell
 nofree:∀y∈sc.names,y.2≠.free
theorem Pz{kindOf:Str->Option dL}:∀{binds:List (Str×ah)}{m:Str->Option ah},(∀v,(x,v)∉binds)->qH kindOf binds m x=m x
 |[],_,_=>rfl
 | (n,v)::r,m,h=>by
  unfold qH;rw[Pz λw c=>h w (bF _ c)];split
  ·have:x≠n:=by rintro rfl;exact h v cD
   simp[this]
  ·rfl
theorem QE{kindOf:Str->Option dL}:∀{binds:List (Str×ah)}{m:Str->Option ah},(∀v,(x,v)∉binds)->qI kindOf binds m x=m x
 |[],_,_=>rfl
 | (n,v)::r,m,h=>by
  unfold qI;rw[QE λw c=>h w (bF _ c)];split
  ·rfl
  ·have:x≠n:=by rintro rfl;exact h v cD
   simp[this]
theorem K0{kindOf:Str->Option dL}: ∀{P:List Str}{c:List ah}{i:Nat}{m:Str->Option ah},P.Nodup->P[i]?=some x->c[i]?=some v->kindOf x=some .local ->qH kindOf (P.zip c) m x=some v
 |[],_,_,_,_,h,_,_=>by simp at h|_::_,[],_,_,_,_,h,_=>by simp at h
 |p::P,w::c,0,m,nd,h1,h2,hk=>by
  simp at h1 h2;subst h1;subst h2
  show qH kindOf ((p,w)::P.zip c) m p=_;unfold qH;rw[Pz λv g=>(lW.mp nd).1 (lX g).1,aJ hk];simp
 |p::P,w::c,i+1,m,nd,h1,h2,hk=>by show qH kindOf ((p,w)::P.zip c) m x=_;unfold qH;exact K0 (i:=i) (lW.mp nd).2 (by simpa using h1) (by simpa using h2) hk
theorem M3{kindOf:Str->Option dL}: ∀{P:List Str}{c:List ah}{i:Nat}{m:Str->Option ah},P.Nodup->P[i]?=some x->c[i]?=some v->kindOf x≠some .local ->qI kindOf (P.zip c) m x=some v
 |[],_,_,_,_,h,_,_=>by simp at h|_::_,[],_,_,_,_,h,_=>by simp at h
 |p::P,w::c,0,m,nd,h1,h2,hk=>by
  simp at h1 h2;subst h1;subst h2
  show qI kindOf ((p,w)::P.zip c) m p=_;unfold qI;rw[QE λv g=>(lW.mp nd).1 (lX g).1,az hk];simp
 |p::P,w::c,i+1,m,nd,h1,h2,hk=>by show qI kindOf ((p,w)::P.zip c) m x=_;unfold qI;exact M3 (i:=i) (lW.mp nd).2 (by simpa using h1) (by simpa using h2) hk
noncomputable def start(N:List Str)(c:List V):St:=c.map some++bw (N.length-c.length) none
noncomputable def sD(h:zD)(P:Program)(w:bR)(K:ai)(mg:Str->Option ah)(base:bN)(N:List Str)(qual:Str)(scope:dB)(f:ak)(g:ah)(A:bM)(outer:List Env)(s:aq)(H:Hp)(E:XK):Cx where
 prog:=P
 w:=w
 K:=K
 mg:=mg
 base:=base
 A:=A.deeper (oH qual scope s.heap.objs.size f g)
 N:=N
 s₀:=s
 H₀:=H
 env:=oH qual scope s.heap.objs.size f g
 outer:=outer
 stack:=oH qual scope s.heap.objs.size f g::outer
 ex:=[]
 calm:=true
 fn:=λ_=>true
 pn:=[]
 xe:=λe l=>aH (aY P w) (A.deeper (oH qual scope s.heap.objs.size f g)) (leaving (oH qual scope s.heap.objs.size f g) e) (λ_ c=>h outer H s E e c) (λo c=>h outer H s E o c) l
def Hu{sc:dB}{n:Nat}(h:sc.names.lookup x=some .cell):∃c,(bT n sc.names []).lookup x=some c:=by let q:=ik sc.names n [] (.inl h);exact fJ.mp q
def Q2{K:ai}{A:bM}{o:List V}(S:mJ N ps scope) (hd:A.handled=none) (l:rT P w K mg base A outer s H) (hl:o.length=ps.length) (r:cj o Q)(x:pH s s.heap.objs.size (qH (oH qual scope s.heap.objs.size f O).kindOf (ps.zip Q) λ_=>none) (bT (s.heap.objs.size+1) scope.names []) (qI (oH qual scope s.heap.objs.size f O).kindOf (ps.zip Q) λ_=>none) U):Inv (sD CX P w K mg base N qual scope f O A outer s H E) [] (start N o) H U:=by
 let hpl:ps.length<=N.length:=by have:=cQ dZ S.pre;rw[bE]at this;ext
 let⟨L,tk,rfl,Y⟩:=x.done;let B:∀b:ak,b∉(sD CX P w K mg base N qual scope f O A outer s H E).ex:=λb z=>bo (show b∈([]:List ak) from z) (by simp);refine⟨⟨l.mod,S.kind,rfl,rfl,ay _,λy z c L g=>?_,λy C=>?_,λy c _ h=>?_,λ_=>hd,vJ l.frames,.inr ⟨rfl,rfl⟩,λb z=>bo z (B b),l.bs,l.bsz,λb _ _=>B b,λb z=>bo z (B b),l.funs,l.frf⟩,
  rfl,l.bare,Un.kept Y,⟨_,x.toInCall.ns,λi y v L g h3=>?_⟩,λy c h=>⟨_,x.cell y c h⟩,l.hok.fresh (ay _),λy c h=>?_,λp I=>bo (show p∈([]:List (ak×Obj)) from I) (by simp),l.hok.kept Y,?_⟩
 ·exact zI x.apart (bb L) (bb g)
 ·let C:scope.names.lookup y=some .cell\/scope.names.lookup y=some .free:=C;rcases C with C|C
  ·exact Hu C
  ·exact bo rfl (S.nofree _ (bb C))
 ·exact gK (x.above y c (bb h))
 ·let J : i < o.length := by
    unfold start at g;by_cases J:i < o.length
    ·exact J
    ·rw[aM (by simpa using J)]at g;rw[fN]at g;split at g<;>cases g
  let l:o[i]?=some v:=by
   unfold start at g;rw[av (by simpa using J),au]at g;cases e:o[i]? with|none=>rw[e]at g;cases g|some a=>rw[e]at g;cases g;rfl
  let⟨u,hu,h⟩:=r.get l;let I:ps[i]?=some y:=by rw[<- S.pre,cq ()];exact L
  let G:ps.Nodup:=by rw[<- S.pre];exact S.nd.sublist (zJ _ _)
  refine⟨u,h,?_⟩;rcases S.par y (ax I) with k|k
  ·exact .inl ⟨k,K0 G I hu k⟩
  ·let⟨c,e⟩:=Hu (n:=s.heap.objs.size+1) k;refine .inr ⟨.inl k,c,e,?_⟩;let q:=x.cell y c e;rw[M3 G I hu (by show scope.names.lookup y≠_;rw[k];decide)]at q;exact q
 ·exact l.hok.fresh (gK (x.above y c (bb h)))
 ·unfold start
  show _=N.length;rw[aB,ag,fH];ext
def Ow{K:ai}{k:Nat}{dV kV doc pm c ct oc:ah}{sp:Sp} (lk:K.lookup f=some ⟨oc,od,.func (cF name qual g h scope dV kV doc pm an c ct),osl⟩) (hcd:gU K c qual=true) (S:mJ N ps scope)(len:∀l H Q E,sp l H Q E->l.length=ps.length)(G:∀(A:bM)(outer:List Env)(s:aq)(H:Hp)(l:List V)(Q:VK)(E:XK),iJ k (A.deeper (oH qual scope s.heap.objs.size f c))->sp l H Q E ->∃t,PSs (sD CX P w K mg base N qual scope f c A outer s H E) h t/\t { nx:=λ_ B=>Q .non B,rt:=Q } (start N l) H):mX P w K mg base CX (k+1) f (cF name qual g h scope dV kV doc pm an c ct) ps sp:=by
 refine⟨len,λA outer s H args us l Q E hr Y hb r U=>?_⟩;let hl:=len _ _ _ _ U;let KX:K.In s.heap:=Y.mod.kin.keeps λb o e=>(Y.bs b o e).1;let fK:s.heap.NoLimit:=Y.mod.nolimit.keeps λb o e=>(Y.bs b o e).1;let C:∀y∈ps.zip us,scope.names.lookup y.1=some .local\/(scope.names.lookup y.1=some .cell/\((bT (s.heap.objs.size+1) scope.names []).lookup y.1).isSome=true):=λO hy=>by
  let⟨n,v⟩:=O;rcases S.par n (lX hy).1 with q|q
  ·exact .inl q
  ·exact .inr ⟨q,ik _ _ _ (.inl q)⟩
 refine Af hr.depth (KX _ _ lk) rfl S.co S.gen rfl (PySem.W.codeRec_of KX hcd) (hb _ _ _ _ ?_);refine we S.kind C λenv he s1 x=>?_;subst he;refine⟨fK.keeps x.toInCall.keep,codeAny_func ?_⟩;let⟨t,ht,hq⟩:=G A outer s H l Q E (hr.deeper _) U;let I:Inv (sD CX P w K mg base N qual scope f c A outer s H E) [] (start N l) H s1:=Q2 S hr.hd Y hl r x;refine fU (ht [] s1 (start N l) H _ I hq) (λfl s' L=>?_) λe s' L=>L;let fin:∀{σ':St}{B:Hp}{v:V}{u:ah},Inv (sD CX P w K mg base N qual scope f c A outer s H E) [] σ' B s'->RelV v u->Q v B->CE outer P w H s Q u s':=
  λ{σ' B v u}J rv q=>⟨v,B,J.os,J.bare,J.base,J.hok,rv,q⟩
 cases fl with
 |ret u=>
  let⟨v,σ',B,J,rv,q⟩:=L;exact fin J rv q
 |next=>
  let⟨σ',B,J,q⟩:=L;exact fin (v:=V.non) (u:=cK) J rfl q
 |brk=>
  let⟨_,_,_,q⟩:=L;exact c_ q
 |cont=>
  let⟨_,_,_,q⟩:=L;exact c_ q
section
variable{t:TA}{id T:String}{r:List V->Hp->VK->Prop}
noncomputable def ON(r:List V->Hp->VK->Prop)(t:TA):TE:=λσ H Q=>t σ H λc g=>r c g Q
def Jj(U : CallR X (.builtin id) r)(L : Gl X x)(J : X.mg x = none)(E : dg x = some (.builtin id))(Y : PA X (e :: es) t)(G : x ≠ "__name__" := by decide)(o : (x == ("__debug__" : Str)) = false := by decide)
  (O:starEach (e::es) X.env=(false,eval e X.env)::starEach es X.env:=by rfl) (l:(backTo pos (starEach es X.env)).any (·.1)=false:=by rfl):PE X (.Call (.Name x p) (e::es) [] pos) (ON r t):=by
 intro c s σ H Q I h;refine dM (yy I L J E ?_ G o);exact PyProof.Rows.callWith_builtin1 (gA (Y pos c s σ H _ I h) λu v g=>by let⟨q,H1,I1,B,C⟩:=g;exact U c v σ H1 q u Q I1 B C) O l
def Rj(U : CallR X (.type T) r)(L : Gl X x)(J : X.mg x = none)(E : dg x = some (.type T))(Y : PA X (e :: es) t)(G : x ≠ "__name__" := by decide)(o : (x == ("__debug__" : Str)) = false := by decide)
  (O:starEach (e::es) X.env=(false,eval e X.env)::starEach es X.env:=by rfl) (l:(backTo pos (starEach es X.env)).any (·.1)=false:=by rfl):PE X (.Call (.Name x p) (e::es) [] pos) (ON r t):=by
 intro c s σ H Q I h;refine dM (yy I L J E ?_ G o);exact cz (gA (Y pos c s σ H _ I h) λu v g=>by let⟨q,H1,I1,B,C⟩:=g;exact U c v σ H1 q u Q I1 B C) O l
end
end L2
namespace HT
open PySem PyProof.Rows
section
open PySem.SeqAt
open PySem.AutoSeq1 (wpAny_loadPart')
open PySem.MeetsSeq PySem.MeetsSeq2 PySem.MeetsSeq3
end
section
variable{s:aq}
def A_{g ws:List ah}{Q:ah->aq->Prop}(L:Be s.heap t g.toArray)(O:Be s.heap b ws.toArray)(G:g≠[])(Y:ws=[]->Q (.ref t) s) (U:ws≠[]->Q (.ref s.heap.objs.size) { s with heap:=s.heap.push { cls:=.type "tuple",data:=.seq (g++ws).toArray } })(hsz:g.length+ws.length<=sizeLine):aH (aY prog w) A (fP .Add (.ref t) (.ref b)) Q E s:=by
 let⟨⟨cls,I,data,B⟩,v,H,n,hd⟩:=id L;let⟨⟨J,q,data2,h⟩,c,o,C,l⟩:=id O;simp only at H hd o l;subst H hd o l;let e:g.toArray++ws.toArray=(g++ws).toArray:=by simp
 by_cases u:ws=[]
 ·exact zK ⟨_, v, rfl⟩ ⟨_, c, rfl⟩ uD xI nM nt (mY _ _)
    (tuple_addW1 t b g.toArray ws.toArray n C I q B h (by simpa using G) (by simp[u])) ⟨v,c,Y u⟩
 ·refine zK ⟨_, v, rfl⟩ ⟨_, c, rfl⟩ uD xI nM nt (mY _ _)
    (tuple_addW2 t b g.toArray ws.toArray n C I q B h (by simpa using G) (by simpa using u) (by rw[aL,aL];exact hsz)) ⟨v,c,?_⟩
  rw[e];exact U u
noncomputable def iy(n d:Nat):Option Int->Nat
 |none=>d|some v=>if v < 0 then (v+(n:Int)).toNat else min v.toNat n
def UK(n d:Nat)(hd:d<=n)(o:Option Int):iy n d o<=n:=by
 cases o with|none=>exact hd|some v=>
  show (if v < 0 then (v+(n:Int)).toNat else min v.toNat n)<=n;by_cases c:v < 0
  ·rw[aJ c];ext
  ·rw[az c];exact Nat.min_le_right _ _
def RH(v:Int)(n d:Nat):(if v < 0 then max (v+(n:Int)) 0 else min v (n:Int))=((iy n d (some v):Nat):Int):=by
 show (if v < 0 then max (v+(n:Int)) 0 else min v (n:Int))=(((if v < 0 then (v+(n:Int)).toNat else min v.toNat n):Nat):Int)
 by_cases c:v < 0
 ·simp only[aJ c];ext
 ·simp only[az c];ext
def Xf(lo c:Option Int)(n:Nat):lM lo c 1 (n:Int)=(((iy n 0 lo:Nat):Int),((iy n n c:Nat):Int)):=by
 let g:¬ ((1:Int) < 0):=by ext
 unfold lM;simp only[g,if_false];refine wQ ?_ ?_
 ·cases lo with|none=>rfl|some v=>exact RH v n 0
 ·cases c with|none=>rfl|some v=>exact RH v n n
def XR(i j:Nat):ir (i:Int) (j:Int) 1=j-i:=by
 unfold ir;let c:(1:Int) > 0:=by ext
 simp only[c,if_true,Int.ediv_one];split<;>ext
def OU{Q:Option Int->aq->Prop}(p:uE v o)(h:Q o s):aH (aY prog w) A (Builtin.Slice.slicePartIndex v) Q E s:=by
 cases p with|none=>exact slicePart_none h|int i t=>exact slicePart_int h
def T2{lo g:Option Int}{n:Nat}{Q:Int×Int×Nat->aq->Prop}(C:s.heap.IsSliceOf u q o .none)(B:uE q lo)(v:uE o g)(h:Q (((iy n 0 lo:Nat):Int),1,iy n n g-iy n 0 lo) s):aH (aY prog w) A (p9 (.ref u) (pure (n:Int))) Q E s:=by
 let⟨os,c,G,l⟩:=id C;unfold p9 Builtin.Slice.sliceFields;refine ab (ab (cH c l (x:=q) rfl (ab (cH c l (x:=o) rfl (ab (cH c l (x:=.none) rfl (aj ?_)))))));refine ab (slicePart_none ?_)
 show aH _ _ (if ((1:Int) == 0)=true then _ else _) _ _ s;rw[az (by decide)];refine ab (OU B (ab (OU v (ab (aj ?_)))))
 show aH _ _ (match lM lo g 1 (n:Int) with|(lo,g)=>pure (lo,(1:Int),ir lo g 1)) _ _ s;rw[Xf lo g n]
 show aH _ _ (pure (((iy n 0 lo:Nat):Int),(1:Int),ir ((iy n 0 lo:Nat):Int) ((iy n n g:Nat):Int) 1)) _ _ s;rw[XR];exact aj h
def XE(xs:Array ah)(i k:Nat):((b_ k).filterMap λ(m:Nat)=>xs[((i:Int)+(m:Int)*1).toNat]?).toArray=((xs.toList.drop i).take k).toArray:=by
 let e:(λ(m:Nat)=>xs[((i:Int)+(m:Int)*1).toNat]?)=λm=>xs[i+m]?:=by
  funext m;have:((i:Int)+(m:Int)*1).toNat=i+m:=by ext
  rw[this]
 rw[e];have:=pick_run xs i k;rw[List.filterMap_map]at this;let c:((λx=>xs[x]?) ∘ λx=>i+x)=λm=>xs[i+m]?:=rfl;rw[c]at this;rw[this]
def pR{lo g:Option Int}{Q:ah->aq->Prop}(l:Be s.heap t items)(I:s.heap.IsSliceOf o H G .none)(L:uE H lo)(J:uE G g)(O:¬ (iy items.size 0 lo=0/\iy items.size items.size g=items.size))(h:Q (.ref s.heap.objs.size) { s with heap:=s.heap.push { cls:=.type "tuple",data:=.seq ((items.toList.drop (iy items.size 0 lo)).take (iy items.size items.size g-iy items.size 0 lo)).toArray } })(hsz:items.size<=sizeLine):aH (aY prog w) A (qZ (.ref t) (.ref o)) Q E s:=by
 let c:sizeOk (.seq ((items.toList.drop (iy items.size 0 lo)).take (iy items.size items.size g-iy items.size 0 lo)).toArray):=by show ((items.toList.drop (iy items.size 0 lo)).take (iy items.size items.size g-iy items.size 0 lo)).toArray.size<=sizeLine;rw[aL,bE,ia,fO];ext
 let hj:iy items.size items.size g<=items.size:=UK _ _ (ay _) g;let⟨os,u,B,U⟩:=id I;let C:s.TypeIs (.ref o) "slice":=⟨os,u,B⟩
 unfold qZ
 try with_reducible refine cw ?_
 first|refine ab (aj ?_)|skip
 refine ab (Et l.typeIs (by decide) ?_);refine ab (bX (name:=aD "__getitem__") l.typeIs o8
  (cA o8 l.typeIs entry_tuple_getitem ?_ (args_tuple_getitem _ _)))
 show aH _ _ (p_ (.ref t) >>= _) _ _ s;refine ab (tupleItemsOf_ l ?_);refine ab (nu C ?_);rw[aJ (by decide)];refine ab (T2 I L J ?_);let v:¬ ((((iy items.size 0 lo:Nat):Int) == 0&&(1:Int) == 1&&(iy items.size items.size g-iy items.size 0 lo) == items.size)=true):=by intro q;rw[br,br]at q;let q1:((iy items.size 0 lo:Nat):Int)=0:=eq_of_beq q.1.1;let Y:iy items.size items.size g-iy items.size 0 lo=items.size:=eq_of_beq q.2;exact O ⟨by ext,by ext⟩
 show aH _ _ (if (((iy items.size 0 lo:Nat):Int) == 0&&(1:Int) == 1&&(iy items.size items.size g-iy items.size 0 lo) == items.size)=true then _ else _) _ _ s;rw[az v,XE]
 first
  |exact ab (m:=fA _) (b9 (aj ⟨_,rfl,aj h⟩) c)|exact ab (m:=fA _) (b9 (ab (aj (aj ⟨_,rfl,aj h⟩))) c)|exact ab (ab (m:=fA _) (b9 (aj (aj ⟨_,rfl,aj h⟩)) c))|exact ab (ab (m:=fA _) (b9 (aj ⟨_,rfl,aj h⟩) c))
end
end HT
namespace L2
open PySem PySem.Spec PyProof.Rows
abbrev TO:=St->Hp->(Option Int->Hp->Prop)->Prop
def PO(X:Cx)(e:Option Expr)(t:TO):Prop:=
 ∀(ac:List (ak×Obj))(s:aq)(σ:St)(H:Hp)(Q:Option Int->Hp->Prop),Inv X ac σ H s->t σ H Q ->
  aH (aY X.prog X.w) X.A (evalPart e X.env) (λu g=>∃o c,Inv X ac σ c g/\uE u o/\Q o c) X.xe s
noncomputable def AB:TO:=λ_ H Q=>Q none H
noncomputable def EJ(t:TE):TO:=λσ H Q=>t σ H λx c=>∃i,x=.int i/\Q (some i) c
def HV{g:List Int}:∀{c:List ah},cj (g.map V.int) c->my c g:=by
 induction g with
 |nil=>intro c r;rw[mz]at r;cases r;exact .nil
 |cons n g ih=>
  intro c r;rw[aT]at r;cases r with|cons r1 r2=>
   let⟨t,e⟩:=r1;subst e;exact .cons n t (ih r2)
section
variable{X:Cx}{te:TE}{lo hi:Option Expr}{tl th:TO}
def Tl:PO X none AB:=by intro c s σ H Q I h;rw[xJ];exact aj ⟨none,H,I,.none,h⟩
def PV(h:PE X e te):PO X (some e) (EJ te):=by intro g s σ H Q I v;rw[evalPart_some];refine gA (h g s σ H _ I v) λu E c=>?_;let⟨x,C,B,l,o⟩:=c;let⟨i,rfl,q⟩:=o;let⟨t,rfl⟩:=l;exact⟨some i,C,B,.int i t,q⟩
def Nf(X:Cx)(r:V->Option Int->Option Int->Hp->VK->Prop):Prop:=
 ∀(ac:List (ak×Obj))(s:aq)(σ:St)(H:Hp)(x:V)(v vl vu:ah)(lo hi:Option Int)(sl:ak)(Q:VK),Inv X ac σ H s->RelV x v->s.heap.IsSliceOf sl vl vu .none->uE vl lo->uE vu hi->r x lo hi H Q ->
  ∃T id,nN (.type T) "__getitem__"=pure (some (.builtin id))/\s.TypeIs v T/\aH (aY X.prog X.w) X.A (qZ v (.ref sl)) (EP X ac σ Q) X.xe s
noncomputable def YN(r:V->Option Int->Option Int->Hp->VK->Prop)(te:TE)(tl th:TO):TE:=λσ H Q=>te σ H λx h=>tl σ h λl g=>th σ g λu c=>r x l u c Q
def N5(hr:Nf X r)(he:PE X e te)(hl:PO X lo tl)(hu:PO X hi th):PE X (.Subscript e (.Slice lo hi none p2) pos) (YN r te tl th):=by
 intro c s σ H Q I h;refine DM (gA (he c s σ H _ I h) λv L B=>?_);let⟨x,H1,I1,O,q1⟩:=B;refine wpAny_Slice (gA (hl c L σ H1 _ I1 q1) λE J ⟨l,H2,I2,pl,Y⟩=>gA (hu c J σ H2 _ I2 Y) λC g o=>?_);let⟨u,G,I3,pu,U⟩:=o;rw[xJ];refine aj ?_;let I4:Inv X c σ G { g with heap:=g.heap.push { cls:=.type "slice",data:=.fields #[E,C,.none] } }:=I3.kept (t':=g.toks) λb ob q=>am _ q;let⟨T,id,hT,ht,hg⟩:=hr c { g with heap:=g.heap.push { cls:=.type "slice",data:=.fields #[E,C,.none] } } σ G x v E C l u g.heap.objs.size Q I4 O (sQ ..) pl pu U
 show aH (aY X.prog X.w) X.A (xK e (.Slice lo hi none p2) v (.ref g.heap.objs.size)) (EP X c σ Q) X.xe { g with heap:=g.heap.push { cls:=.type "slice",data:=.fields #[E,C,.none] } };exact Bh (ops:=[.ref g.heap.objs.size,v]) ht hT hg (by with_unfolding_all rfl)
def vq(xs:List V)(lo hi:Option Int):List V:=(xs.drop (HT.iy xs.length 0 lo)).take (HT.iy xs.length xs.length hi-HT.iy xs.length 0 lo)
def Qp(xs:List V)(lo hi:Option Int):(vq xs lo hi).length<=xs.length:=by unfold vq;rw[bE,ia];ext
def Lr(K:ai):V->Option Int->Option Int->Hp->VK->Prop:=λx lo hi H Q=>∃a xs,x=.ref a/\mU K H a xs /\
 ¬ (HT.iy xs.length 0 lo=0/\HT.iy xs.length xs.length hi=xs.length)/\∀p,H p=none->Q (.ref p) (fT H p (.tup (vq xs lo hi)))
def W4:Nf X (Lr X.K):=by
 intro g s σ H x v O L lo hi U Q I u J C B h;let⟨a,xs,rfl,E,G,q⟩:=h;cases u;let⟨its,r,l,hz⟩:=I.tuple E;let c:its.toArray.size=xs.length:=by rw[aL];exact r.length.symm
 refine⟨"tuple",_,o8.lookup,l.typeIs,?_⟩;refine HT.pR l J C B (by rw[c];exact G) ?_ (by rw[c];exact hz);rw[c];refine⟨.ref s.heap.objs.size,_,I.laid (t':=s.toks) (o:=.tup (vq xs lo hi)) (λb Y q=>am _ q) (ay _) ?_,rfl,q _ (I.hok.fresh (ay _))⟩;exact⟨c5 (Qp xs lo hi) hz,_,(r.drop (HT.iy xs.length 0 lo)).take (HT.iy xs.length xs.length hi-HT.iy xs.length 0 lo),lg.new _ _⟩
def Gm(K:ai):R2:=λx y H Q=>∃a b xs ys,x=.ref a/\y=.ref b/\mU K H a xs/\mU K H b ys/\xs≠[]/\xs.length+ys.length<=sizeLine /\
 (ys=[]->Q (.ref a) H)/\(ys≠[]->∀p,H p=none->Q (.ref p) (fT H p (.tup (xs++ys))))
def cj.nil_iff(r:cj xs c):c=[]↔xs=[]:=by
 cases r with|nil=>simp|cons _ _=>simp
def U2:OpR X (fP .Add) (Gm X.K):=by intro l s σ H x y v u Q I E C h;let⟨a,b,xs,ys,rfl,rfl,Y,U,O,hz,J,G⟩:=h;cases E;cases C;let⟨its,g,L,_⟩:=I.tuple Y;let⟨B,c,p2,_⟩:=I.tuple U;refine HT.A_ L p2 (λz=>O (g.nil_iff.mp z)) (λz=>⟨.ref a,H,I,rfl,J (c.nil_iff.mp z)⟩) (λz=>?_) (by rw[<- g.length,<- c.length];exact hz);refine⟨.ref s.heap.objs.size,_,I.laid (t':=s.toks) (o:=.tup (xs++ys)) (λb ob q=>am _ q) (ay _) ?_,rfl,G (λw=>z (c.nil_iff.mpr w)) _ (I.hok.fresh (ay _))⟩;exact⟨by rw[aB];exact hz,_,g.append c,lg.new _ _⟩
end
noncomputable def oz(n:Nat)(i:Int):Option Nat:=if 0<=i then (if i < n then some i.toNat else none) else if -(n:Int)<=i then some (i+n).toNat else none
def Bu{α:Type}(xs:List α)(i:Int):Option α:=(oz xs.length i).bind λj=>xs[j]?
def Ox{n:Nat}{i:Int}{j:Nat}(h:oz n i=some j):seqIndex? i n=some j/\j < n /\ -(n:Int)<=i/\i < n:=by
 unfold oz at h;by_cases g:0<=i
 ·rw[aJ g]at h;by_cases c:i < n
  ·rw[aJ c]at h;let e:i.toNat=j:=aF h;exact⟨by rw[uP g c,e],by ext,by ext,c⟩
  ·rw[az c]at h;cases h
 ·rw[az g]at h;by_cases c : -(n:Int)<=i
  ·rw[aJ c]at h;let e:(i+n).toNat=j:=aF h;exact⟨by rw[tz () c,e],by ext,c,by ext⟩
  ·rw[az c]at h;cases h
def IM{α:Type}{xs:List α}{i:Int}{v:α}(h:Bu xs i=some v):∃j,seqIndex? i xs.length=some j/\xs[j]?=some v/\j < xs.length /\ -(xs.length:Int)<=i/\i < xs.length:=by
 unfold Bu at h;cases e:oz xs.length i with|none=>rw[e]at h;cases h|some j=>
  rw[e]at h;let⟨o,l,g,c⟩:=Ox e;exact⟨j,o,h,l,g,c⟩
noncomputable def rH(b:Expr):Prop:=∀o i,subscripted b false o i=operate [o,i] (qZ o i)
def IxR(X:Cx)(r:R2):Prop:=
 ∀(g c:Expr)(ac:List (ak×Obj))(s:aq)(σ:St)(H:Hp)(x y:V)(v u:ah)(Q:VK),Inv X ac σ H s->RelV x v->RelV y u->r x y H Q ->
  subscripted c false v u=operate [v,u] (qZ v u)->aH (aY X.prog X.w) X.A (xK g c v u) (EP X ac σ Q) X.xe s
def Ef(X:Cx)(id:String)(r:V->List V->Hp->VK->Prop):Prop:=
 ∀(ac:List (ak×Obj))(s:aq)(σ:St)(H:Hp)(x:V)(xs:List V)(v:ah)(us:List ah)(Q:VK),Inv X ac σ H s->RelV x v->cj xs us->r x xs H Q ->
  aH (aY X.prog X.w) X.A (call (.builtin id) (v::us)) (EP X ac σ Q) X.xe s
section
variable{X:Cx}{a b:Expr}{ta tb:TE}{pos:Pos}
def IxR.or{r C:R2}(h:IxR X r)(h':IxR X C):IxR X (λx y H Q=>r x y H Q\/C x y H Q):=by
 intro c g l s σ H x y v u Q I B o q E;rcases q with q|q
 ·exact h c g l s σ H x y v u Q I B o q E
 ·exact h' c g l s σ H x y v u Q I B o q E
def OJ{r:R2}(C:IxR X r)(G:PE X a ta)(E:PE X b tb)(B:rH b):PE X (.Subscript a b pos) (EI r ta tb):=by intro c s σ H Q I h;exact DM (CK G E I h λv u g x y L J o l q=>C a b c g σ L x y v u Q J o l q (B _ _))
def De(K:ai):R2:=λx y H Q=>∃p xs i v,x=.ref p/\y=.int i/\io K H p xs/\Bu xs i=some v/\Q v H
def ER(K:ai):R2:=λx y H Q=>∃p xs i v,x=.ref p/\y=.int i/\mU K H p xs/\Bu xs i=some v/\Q v H
def Ga:R2:=λx y H Q=>∃z i c,x=.str z/\y=.int i/\z.length<=sizeLine/\Bu z.cps.toList i=some c/\Q (.str ⟨#[c]⟩) H
def PK:IxR X (De X.K):=by
 intro l o c s σ H x y v u Q I Y U h G;let⟨p,xs,i,z,rfl,rfl,hq,he,q⟩:=h;cases Y;let⟨t,rfl⟩:=U;let⟨its,r,C,hz⟩:=I.list hq;let⟨j,g,h2,h3,h4,h5⟩:=IM he;let⟨w,L,B⟩:=r.get h2;let hl:=r.length;let hn:=BH;let fin:EP X c σ Q w s:=⟨z,H,I,B,q⟩
 by_cases J:0<=i
 ·let E : i.toNat = j := by rw[uP J h5]at g;exact aF g
  exact item_listR C.isList J () (by rw[E];simpa using L) fin G
 ·let E : (i+(its.toArray.size : Int)).toNat = j := by rw[tz () h4]at g;rw[aL,<- hl];exact aF g
  exact zL (x:=w) C.isList.typeIs tB.lookup
   (zM (Q:=λr O=>r=w/\EP X c σ Q r O) C.isList () (by rw[aL]<;>ext) () (by rw[E];simpa using L) ⟨rfl,fin⟩) G
def ZE:IxR X (ER X.K):=by
 intro g l c s σ H x y v u Q I G E h J;let⟨p,xs,i,z,rfl,rfl,L,U,q⟩:=h;cases G;let⟨t,rfl⟩:=E;let⟨its,r,B,hz⟩:=I.tuple L;let⟨j,h1,Y,h3,h4,h5⟩:=IM U;let⟨w,ew,o⟩:=r.get Y;let O:=r.length;let hn:=BH;let fin:EP X c σ Q w s:=⟨z,H,I,o,q⟩
 exact zL (x:=w) B.typeIs slot_tuple_getitem.lookup
  (getItem_tuple (j:=j) (Q:=λr C=>r=w/\EP X c σ Q r C) B () () (by rw[aL,<- O];exact h1) (by simpa using ew) ⟨rfl,fin⟩) J
def Qcg:IxR X Ga:=by
 intro g l o s σ H x y v u Q I E C h G;let⟨z,i,c,rfl,rfl,hz,L,q⟩:=h;let⟨t,rfl⟩:=E;let⟨t',rfl⟩:=C;let⟨j,B,Y,h3,U,O⟩:=IM L;let J:z.cps.toList.length=z.length:=by simp[Str.length]
 rw[J]at B U O;let hn:=BH;exact Bh (typeIs_str s z t) slot_str_getitem.lookup (getItem_str (c:=c) (by have e1:decide (i < -(2^63:Int))=false:=ba ();have e2:decide (i ≥ 2^63)=false:=ba ();rw[e1,e2,Bool.or_false]) (by rw[B];simpa using Y) ⟨.str ⟨#[c]⟩,H,I.tok _,⟨_,rfl⟩,q⟩) G
def Pl(K:ai):R2:=λx y H Q=>De K x y H Q\/ER K x y H Q\/Ga x y H Q
def Qch:IxR X (Pl X.K):=PK.or (ZE.or Qcg)
def WN(its:List ah)(n j:Nat)(u:ah):qJ (·.setIfInBounds j u) { cls:=.type "list",data:=.seq its.toArray n }={ cls:=.type "list",data:=.seq (its.set j u).toArray n }:=by simp[qJ]
theorem Inv.lst(I:Inv X c σ H s)(h:H p=some (.lst xs)):∃(its:List ah)(n:Nat),cj xs its/\s.heap.get? p=some { cls:=.type "list",data:=.seq its.toArray n }/\xs.length<=sizeLine:=by
 let⟨z,its,n,r,e⟩:=I.hok p _ h;exact⟨its,n,r,e,z⟩
def Inv.lstUpd{its its':List ah}{n g:Nat}{f:Obj->Obj}(I:Inv X c σ H s)(h:H p=some (.lst xs))(o:s.heap.get? p=some { cls:=.type "list",data:=.seq its.toArray n }) (l:f { cls:=.type "list",data:=.seq its.toArray n }={ cls:=.type "list",data:=.seq its'.toArray g }) (r:cj ys its') (hz:ys.length<=sizeLine) (t:Nat):Inv X c σ (fT H p (.lst ys)) { s with heap:=s.heap.update p f,toks:=t }:=by
 let e:(s.heap.update p f).get? p=some { cls:=.type "list",data:=.seq its'.toArray g }:=by rw[cY f o (by rw[l]<;>rfl),l]
 refine I.write (x:=p) (e:=p) (by rw[h];trivial) (.inl rfl) (λb u v q=>(dG _ _ (fI v)).trans q) ⟨_,e⟩ ?_;exact⟨hz,its',g,r,e⟩
def Fw:V->V->V->Hp->(Hp->Prop)->Prop:=λo i v H Q=>∃p xs k j,o=.ref p/\i=.int k/\H p=some (.lst xs)/\oz xs.length k=some j/\Q (fT H p (.lst (xs.set j v)))
def Qu:PSet X Fw:=by
 intro c s σ H o i v ov iv u Q I Y ri U h;let⟨p,xs,k,j,rfl,rfl,E,hj,q⟩:=h;cases Y;let⟨t,rfl⟩:=ri;let⟨its,n,r,l,hz⟩:=I.lst E;let⟨g,h2,J,G⟩:=Ox hj;let B:=r.length;let hn:=BH;let O:Inv X c σ (fT H p (.lst (xs.set j v))) { s with heap:=s.heap.update p (qJ (·.setIfInBounds j u)) }:=
  I.lstUpd E l (WN its n j u) (r.set U j) (by rw[du];exact hz) s.toks
 by_cases L:0<=k
 ·let C : k.toNat = j := by rw[uP L G]at g;exact aF g
  exact PySem.W.ki_setAt l L () (by rw[aL,<- B];exact G) (by rw[C];exact⟨_,O,q⟩)
 ·let C : (k+(its.toArray.size : Int)).toNat = j := by rw[tz () J]at g;rw[aL,<- B];exact aF g
  exact PySem.W.ki_setBack l () (by rw[aL,<- B];exact J) () (by rw[C];exact⟨_,O,q⟩)
def Vx(lo c:Option Int)(n:Nat):(fZ lo c none n).1=((HT.iy n 0 lo:Nat):Int)/\(fZ lo c none n).2.1=((HT.iy n n c:Nat):Int)/\(fZ lo c none n).2.2=1:=by
 refine⟨?_,?_,rfl⟩
 ·cases lo with|none=>simp[fZ,HT.iy]|some i=>
   simp only[fZ,HT.iy,q_,show (1:Int) > 0 by decide,if_true];by_cases h:i < 0
   ·simp only[h,if_true]<;>ext
   ·simp only[h,if_false]<;>ext
 ·cases c with|none=>simp[fZ,HT.iy]|some i=>
   simp only[fZ,HT.iy,q_,show (1:Int) > 0 by decide,if_true];by_cases h:i < 0
   ·simp only[h,if_true]<;>ext
   ·simp only[h,if_false]<;>ext
def Tj(its:List ah)(lo c:Option Int):yE its.toArray lo c none=((its.drop (HT.iy its.length 0 lo)).take (HT.iy its.length its.length c-HT.iy its.length 0 lo)).toArray:=by let⟨l,h,g⟩:=Vx lo c its.toArray.size;unfold yE;rw[l,h,g];simp only[sliceRange_one,pick_run,aL]<;>rfl
def ES(K:ai):V->Option Int->Option Int->Hp->VK->Prop:=λx lo c H Q=>∃a xs,x=.ref a/\io K H a xs/\∀p,H p=none->Q (.ref p) (fT H p (.lst (vq xs lo c)))
def Qcm:Nf X (ES X.K):=by intro l s σ H x v O L lo g U Q I B J E C h;let⟨a,xs,rfl,G,q⟩:=h;cases B;let⟨its,r,u,hz⟩:=I.list G;let c:=r.length;refine⟨"list",_,tB.lookup,u.isList.typeIs,?_⟩;refine xL u.isList J E C .none (by simp) ?_ (by rw[aL]<;>ext);rw[Tj,<- c];refine⟨.ref s.heap.objs.size,_,I.laid (t':=s.toks) (o:=.lst (vq xs lo g)) (λb Y q=>am _ q) (ay _) ?_,rfl,q _ (I.hok.fresh (ay _))⟩;exact⟨c5 (Qp xs lo g) hz,_,0,(r.drop (HT.iy xs.length 0 lo)).take (HT.iy xs.length xs.length g-HT.iy xs.length 0 lo),aC _ rfl⟩
noncomputable def ph:V->Bool
 | .non=>true| .bl _=>true| .int _=>true| .str _=>true|_=>false
noncomputable def Am:V->V->Bool
 | .non,.non=>true| .bl a,.bl b=>a == b| .bl a,.int b=>(if a then 1 else 0) == b| .int a,.bl b=>a == (if b then 1 else 0)| .int a,.int b=>a == b| .str a,.str b=>a == b|_,_=>false
def Zh(g:RelV y u)(c:RelV x v)(l:ph y=true)(h:ph x=true):qd A s u v (Am y x):=by
 cases y with
 |non=>
  cases g;cases x with|non=>cases c;exact qd.same _|bl b=>cases c;exact qd.none_bool b|int b=>let⟨t,rfl⟩:=c;exact qd.none_int b t|str b=>let⟨t,rfl⟩:=c;exact qd.none_str b t|_=>exact bo (show false=true from h) bD
 |bl a=>
  cases g;cases x with|non=>cases c;exact qd.bool_none a|bl b=>cases c;exact qd.bool_bool a b|int b=>let⟨t,rfl⟩:=c;exact qd.bool_int a b t|str b=>let⟨t,rfl⟩:=c;exact qd.bool_str a b t|_=>exact bo (show false=true from h) bD
 |int a=>
  let⟨t',rfl⟩:=g;cases x with|non=>cases c;exact qd.int_none a t'|bl b=>cases c;exact qd.int_bool a t' b|int b=>let⟨t,rfl⟩:=c;exact uQ a t' b t|str b=>let⟨t,rfl⟩:=c;exact uM a t' b t|_=>exact bo (show false=true from h) bD
 |str a=>
  let⟨t',rfl⟩:=g;cases x with|non=>cases c;exact qd.str_none a t'|bl b=>cases c;exact qd.str_bool a t' b|int b=>let⟨t,rfl⟩:=c;exact uN a t' b t|str b=>let⟨t,rfl⟩:=c;exact qd.str_str a t' b t|_=>exact bo (show false=true from h) bD
 |_=>exact bo (show false=true from l) bD
def v4(x:V)(u:ah):Bool:=match u with| .none=>Am .non x| .bool b=>Am (.bl b) x| .int i _=>Am (.int i) x| .str z _=>Am (.str z) x|_=>false
def PD(r:RelV y u)(f:ph y=true):v4 x u=Am y x:=by
 cases y with|non=>cases r;rfl|bl b=>cases r;rfl|int i=>let⟨t,rfl⟩:=r;rfl|str z=>let⟨t,rfl⟩:=r;rfl|_=>exact bo (show false=true from f) bD
theorem Hz:∀{xs:List V}{c:List ah},cj xs c->xs.all ph=true->c.any (v4 x)=xs.any λy=>Am y x
 |_,_,.nil,_=>rfl|y::xs,u::c,.cons r t,f=>by rw[cI,br]at f;rw[d6,d6,PD r f.1,Hz t f.2]
theorem Fs(g:RelV x v)(h:ph x=true):∀{xs:List V}{c:List ah},cj xs c->xs.all ph=true->∀u∈c,qd A s u v (v4 x u)
 |_,_,.nil,_=>λu hu=>by cases hu
 |y::xs,u::c,.cons r t,f=>λu' hu=>by
  rw[cI,br]at f;rcases aX.mp hu with rfl|hu
  ·rw[PD r f.1];exact Zh r g f.1 h
  ·exact Fs g h t f.2 u' hu
def Jl(x:V)(xs:List V):Bool:=xs.any λy=>Am y x
def Jr(K:ai)(c:Bool):R2:=λx y H Q=>∃p xs,y=.ref p/\(io K H p xs\/mU K H p xs)/\ph x=true/\xs.all ph=true/\Q (.bl (if c then !Jl x xs else Jl x xs)) H
def JD:OpR X (cS .In) (Jr X.K false):=by
 intro B s σ H x y v u Q I o E h;let⟨p,xs,rfl,c,C,fs,q⟩:=h;cases E;rcases c with c|c
 ·let⟨its,r,g,hz⟩:=I.list c;refine SeqAt.in_listAt (v4 x) g.isList (λw l=>Fs o C r fs w (by simpa using l)) ⟨.bl _,H,I,rfl,?_⟩;rw[show its.toArray.any (v4 x)=its.any (v4 x) by simp,Hz r fs];exact q
 ·let⟨its,r,g,hz⟩:=I.tuple c;refine SeqAt.in_tupleAt (v4 x) g (λw l=>Fs o C r fs w (by simpa using l)) ⟨.bl _,H,I,rfl,?_⟩;rw[show its.toArray.any (v4 x)=its.any (v4 x) by simp,Hz r fs];exact q
def Vv:OpR X (cS .NotIn) (Jr X.K true):=by
 intro B s σ H x y v u Q I o E h;let⟨p,xs,rfl,c,C,fs,q⟩:=h;cases E;rcases c with c|c
 ·let⟨its,r,g,hz⟩:=I.list c;refine xM (v4 x) g.isList (λw l=>Fs o C r fs w (by simpa using l)) ⟨.bl _,H,I,rfl,?_⟩;rw[show its.toArray.any (v4 x)=its.any (v4 x) by simp,Hz r fs];exact q
 ·let⟨its,r,g,hz⟩:=I.tuple c;refine SeqAt.notIn_tupleAt (v4 x) g (λw l=>Fs o C r fs w (by simpa using l)) ⟨.bl _,H,I,rfl,?_⟩;rw[show its.toArray.any (v4 x)=its.any (v4 x) by simp,Hz r fs];exact q
def Ug:CallR X (.builtin "len") (λxs H Q=>∃p ys,xs=[.ref p]/\(io X.K H p ys\/mU X.K H p ys)/\Q (.int ys.length) H):=by
 intro v s σ H xs C Q I r h;let⟨p,ys,rfl,g,q⟩:=h;let⟨u,rfl,B⟩:=wJ r;cases B;let E:=BH;rcases g with g|g
 ·let⟨its,l,o,hz⟩:=I.list g;let c:=l.length;exact Calls.call_len_list o.isList (by simp only[aL]<;>ext) ⟨.int ys.length,H,I.tok _,⟨s.toks+1,by rw[aL,c]⟩,q⟩
 ·let⟨its,l,o,hz⟩:=I.tuple g;let c:=l.length;exact len_tuple o (by simp only[aL]<;>ext) ⟨.int ys.length,H,I.tok _,⟨s.toks+1,by rw[aL,c]⟩,q⟩
def Sh:CallR X (.builtin "len") (λxs H Q=>∃z,xs=[.str z]/\z.length<=sizeLine/\Q (.int z.length) H):=by intro c s σ H xs g Q I r h;let⟨z,rfl,hz,q⟩:=h;let⟨u,rfl,t,rfl⟩:=wJ r;let l:=BH;exact len_str () ⟨.int z.length,H,I.tok _,⟨_,rfl⟩,q⟩
def CallR.or{r l:List V->Hp->VK->Prop}(h:CallR X f r)(h':CallR X f l):CallR X f (λxs H Q=>r xs H Q\/l xs H Q):=by
 intro c s σ H xs g Q I rs q;rcases q with q|q
 ·exact h c s σ H xs g Q I rs q
 ·exact h' c s σ H xs g Q I rs q
def QB:CallR X (.type "tuple") (λxs H Q=>∃p ys,xs=[.ref p]/\((io X.K H p ys/\∀l,H l=none->Q (.ref l) (fT H l (.tup ys)))\/(mU X.K H p ys/\Q (.ref p) H))):=by
 intro c s σ H xs O Q I r h;let⟨p,ys,rfl,h⟩:=h;let⟨u,rfl,G⟩:=wJ r;cases G;rcases h with ⟨B,q⟩|⟨B,q⟩
 ·let⟨its,g,v,hz⟩:=I.list B;let C:=g.length;refine call_tuple_list v.isList (λh' J=>?_) (by simp only[aL]<;>ext);let E:Inv X c σ H { s with heap:=h' }:=I.kept (t':=s.toks) J;let L:Inv X c σ (fT H h'.objs.size (.tup ys)) { s with heap:=h'.push { cls:=.type "tuple",data:=.seq its.toArray } }:=
   E.laid (t':=s.toks) (λb o e=>am _ e) (ay _) (show gP X.prog X.w _ _ _ (.tup ys) from ⟨hz,its,g,lg.new _ _⟩)
  exact⟨.ref h'.objs.size,_,L,rfl,q _ (E.hok.fresh (ay _))⟩
 ·let⟨its,g,v,hz⟩:=I.tuple B;exact call_tuple_same v ⟨.ref p,H,I,rfl,q⟩
def MF(K:ai)(T:String)(x:V)(H:Hp):Prop:=match x with
 | .str _=>T="str"| .int _=>T="int"
 | .ref p => (T = "list" /\ ∃xs, io K H p xs) \/ (T = "tuple" /\ ∃o, K.lookup p = some o /\ o.cls = .type "tuple" /\ o.dict = none) \/
   (T="dict"/\((∃c,H p=some (.dK c))\/∃c,H p=some (.dT c)))\/(T="set"/\∃S n,H p=some (.set S n))
 |_=>False
def Ob(I:Inv X h σ H s)(r:RelV x v)(ty:MF X.K T x H):s.TypeIs v T/\∀a,v=.ref a->∃B,s.heap.get? a=some B/\B.dict=none:=by
 cases x with
 |str z=>
  let⟨t,rfl⟩:=r;cases (show T="str" from ty);exact⟨typeIs_str s z t,λ_ e=>nomatch e⟩
 |int i=>
  let⟨t,rfl⟩:=r;cases (show T="int" from ty);exact⟨typeIs_int s i t,λ_ e=>nomatch e⟩
 |ref p=>
  cases r;rcases ty with ⟨rfl,xs,C⟩|⟨rfl,o,g,E,hd⟩|⟨rfl,g⟩|⟨rfl,S,n,g⟩
  ·let⟨its,_,u,_⟩:=I.list C;refine⟨u.isList.typeIs,λa e=>?_⟩;cases e;let⟨o,n,e,c,hd,_⟩:=u;exact⟨o,e,hd⟩
  ·refine⟨⟨o,I.kIn p o g,E⟩,λa e=>?_⟩;cases e;exact⟨o,I.kIn _ o g,hd⟩
  ·let z : ∃o, s.heap.get? p = some o /\ o.ExactDict := by
     rcases g with ⟨l,g⟩|⟨l,g⟩
     ·let⟨_,_,_,_,o,_,_,e,ex,_⟩:=I.hok p _ g;exact⟨o,e,ex⟩
     ·let⟨_,_,_,_,o,_,_,e,ex,_⟩:=I.hok p _ g;exact⟨o,e,ex⟩
   let⟨o,e,ex⟩:=z;refine⟨⟨o,e,ex.1⟩,λa q=>?_⟩;cases q;exact⟨o,e,ex.2.1⟩
  ·let⟨o,_,_,_,e,ex,_⟩:=I.hok p _ g;refine⟨⟨o,e,ex.1⟩,λa q=>?_⟩;cases q;exact⟨o,e,ex.2.1⟩
 |_=>exact c_ ty
def MC(K:ai)(T:String)(r:V->List V->Hp->VK->Prop)(to:TE):TE:=λσ H Q=>to σ H λx c=>MF K T x c/\r x [] c Q
def UE(K:ai)(T:String)(r:V->List V->Hp->VK->Prop)(to:TE)(t:TA):TE:=λσ H Q=>to σ H λx c=>MF K T x c/\t σ c λxs g=>r x xs g Q
variable{o e:Expr}{es:List Expr}{to:TE}{t:TA}{name:Str}{a5 a0:Pos}{T id:String}{r:V->List V->Hp->VK->Prop}
def Tk(J:PlainAttrs T)(slot:Slot T name id)(u:DN (.builtin id)=pure (.type "method_descriptor"))(O:Ef X id r)(L:PE X o to)(l:dS o name X.env (eval o X.env)=eval o X.env:=by rfl) (g:(a5.endLine == a0.line)=true:=by rfl):PE X (.Call (.Attribute o name a5) [] [] a0) (MC X.K T r to):=by
 intro c s σ H Q I h;refine yF l g (gA (L c s σ H _ I h) λv E q=>?_);let⟨x,H1,C,B,ty,G⟩:=q;let⟨Y,U⟩:=Ob C B ty;exact⟨T,id,J,slot,u,Y,U,kQ rfl (wR (O c E σ H1 x [] v [] Q C B .nil G))⟩
def Pp(pa:PlainAttrs T)(slot:Slot T name id)(E:DN (.builtin id)=pure (.type "method_descriptor"))(hm:Ef X id r)(ho:PE X o to)(ha:PA X (e::es) t)(q:dS o name X.env (eval o X.env)=eval o X.env:=by rfl)
  (C:((backTo a0 (starEach (e::es) X.env)).all (λx => !x.1)&&(o9 a0 (lA [] X.env)).all (λx=>x.1.isSome)
   && decide ((e::es).length+([]:List iD).length+(if ([]:List iD).isEmpty then 0 else 1) < 30))=true:=by rfl)
  (l:(a5.endLine == a0.line)=true:=by rfl) (hs:starEach (e::es) X.env=(false,eval e X.env)::starEach es X.env:=by rfl) (g:(backTo a0 (starEach es X.env)).any (·.1)=false:=by rfl):
  PE X (.Call (.Attribute o name a5) (e::es) [] a0) (UE X.K T r to t):=by
 intro c s σ H Q I h;refine zN q C l rfl (gA (ho c s σ H _ I h) λv s1 B=>?_);let⟨x,H1,L,G,ty,q1⟩:=B;let⟨h1,h2⟩:=Ob L G ty;refine⟨T,id,pa,slot,E,h1,h2,?_⟩;let J:=ha a0 c s1 σ H1 _ L q1;rw[hs]at J ⊢;refine kQ (by show (false||(backTo a0 (starEach es X.env)).any (·.1))=false;rw[g]<;>rfl) (o_ ?_);exact gA J λU Y u=>by let⟨O,H2,I2,r2,q2⟩:=u;exact hm c Y σ H2 x O v U Q I2 G r2 q2
end
def PP(X:Cx)(id:String)(r:V->List V->Hp->VK->Prop):Prop:=
 ∀(ac:List (ak×Obj))(s:aq)(σ:St)(H:Hp)(x:V)(xs:List V)(v:ah)(us:List ah)(Q:VK),Inv X ac σ H s->RelV x v->cj xs us->r x xs H Q ->
  aH (aY X.prog X.w) X.A (call (.builtin id) (v::us)) (EP X ac σ Q) X.xe s
def cj.one{x:V}{c:List ah}(h:cj [x] c):∃u,c=[u]/\RelV x u:=by
 cases h with|cons r h=>cases h;exact⟨_,rfl,r⟩
def cj.two(h:cj [x,y] c):∃u v,c=[u,v]/\RelV x u/\RelV y v:=by
 cases h with
 |cons r h=>cases h with|cons q h=>cases h;exact⟨_,_,rfl,r,q⟩
theorem cj.zero:∀{c:List ah},cj [] c->c=[]
 |_,.nil=>rfl
theorem cj.dropLast(h:cj xs c):cj xs.dropLast c.dropLast:=by
 induction h with|nil=>exact .nil|cons r t ih=>
  cases t with|nil=>exact .nil|cons q t'=>exact .cons r ih
theorem cj.reverse(h:cj xs c):cj xs.reverse c.reverse:=by
 induction h with|nil=>exact .nil|cons r t ih=>rw[gE,gE];exact cj.append ih (.cons r .nil)
theorem cj.rep(h:cj xs c):∀k:Nat,cj (bw k xs).flatten (bw k c).flatten
 |0=>.nil|k+1=>by rw[mj,mj,zO,zO];exact cj.append h (cj.rep h k)
def YW{α:Type}(l:List α):l.eraseIdx (l.length-1)=l.dropLast:=by
 induction l with|nil=>rfl|cons a r ih=>
  cases r with|nil=>rfl|cons b r=>
   let e:(a::b::r).length-1=((b::r).length-1)+1:=by have g:(a::b::r).length=r.length+2:=rfl;have c:(b::r).length=r.length+1:=rfl;ext
   rw[e,List.eraseIdx_cons_succ,ih]
   all_goals rfl
section
def Inv.lset{its its':List ah}{n:Nat}{f:Array ah->Array ah}{t':Nat}(I:Inv X ac σ H s)(o:H l=some (.lst xs))(e:s.heap.get? l=some { cls:=.type "list",data:=.seq its.toArray n }) (g:f its.toArray=its'.toArray) (c:cj ys its') (hz:ys.length<=sizeLine):Inv X ac σ (fT H l (.lst ys)) { s with heap:=s.heap.update l (qJ f),toks:=t' }:=by
 let q:=PySem.IsL.update e f;rw[g]at q;refine I.write (x:=l) (e:=l) (by rw[o];exact trivial) (.inl rfl) (λv u h hu=>(dG s.heap (qJ f) (fI h)).trans hu) ⟨_,q⟩ ?_;exact⟨hz,its',_,c,q⟩
def Inv.lnew{t':Nat}(I:Inv X ac σ H s)(c:cj ys its)(hz:ys.length<=sizeLine):Inv X ac σ (fT H s.heap.objs.size (.lst ys)) { s with heap:=s.heap.push { cls:=.type "list",data:=.seq its.toArray },toks:=t' }:=
 I.laid (λ_ _ q=>am _ q) (ay _) ⟨hz,its,0,c,aC _ rfl⟩
theorem Inv.fresh(I:Inv X ac σ H s):H s.heap.objs.size=none:=I.hok.fresh (ay _)
def Inv.lstM(I:Inv X ac σ H s)(c:H l=some (.lst xs)):xs.length<=sizeLine/\∃(its:List ah)(n:Nat),cj xs its/\xs.length=its.length/\s.heap.get? l=some { cls:=.type "list",data:=.seq its.toArray n }:=by let⟨z,its,n,r,e⟩:=I.hok l _ c;exact⟨z,its,n,r,r.length,e⟩
end
section
def Az:V->List V->Hp->VK->Prop:=λx c H Q=>∃l xs y,x=.ref l/\c=[y]/\H l=some (.lst xs)/\xs.length < sizeLine/\Q .non (fT H l (.lst (xs++[y])))
def Qn:PP X "list.append" Az:=by intro c s σ H x E v G Q I o B h;let⟨l,xs,y,rfl,rfl,g,hz,q⟩:=h;cases o;let⟨u,rfl,C⟩:=B.one;let⟨z,its,n,r,J,e⟩:=I.lstM g;refine wg F.slot_list_append ⟨_,e,rfl⟩ F.entry_list_append (F.args_list_append_2 _ _) (PySem.list_append l its.toArray n u (by rw[aL];ext)) ⟨e,?_⟩;refine⟨.non,_,I.lset (its':=its++[u]) g e (by simp) (r.append (.cons C .nil)) ?_,rfl,q⟩;rw[aB,fY];ext
def LI:V->List V->Hp->VK->Prop:=λx c H Q=>∃l xs y,x=.ref l/\c=[]/\H l=some (.lst xs)/\xs[xs.length-1]?=some y/\Q y (fT H l (.lst xs.dropLast))
def We:PP X "list.pop" LI:=by
 intro o s σ H x O v U Q I C E h;let⟨l,xs,y,rfl,rfl,B,J,q⟩:=h;cases C;let g:=E.zero;subst g;let⟨z,its,n,r,L,e⟩:=I.lstM B;let⟨u,hu,G⟩:=r.get J;let c:its.toArray[its.toArray.size-1]?=some u:=by show its.toArray[its.length-1]?=some u;rw[<- fF,<- L];exact hu
 refine wg F.slot_list_pop ⟨_,e,rfl⟩ F.entry_list_pop (F.args_list_pop_1 _) (MeetsSeq.list_pop_last l its.toArray n u c (by rw[aL];ext)) ⟨e,?_⟩;refine⟨y,_,I.lset (its':=its.dropLast) B e ?_ r.dropLast ?_,G,q⟩
 ·show its.toArray.eraseIdxIfInBounds (its.toArray.size-1)=its.dropLast.toArray;rw[aL,List.eraseIdxIfInBounds_toArray,YW]
 ·rw[wS];ext
def Nr:R2:=λx y H Q=>∃l b xs zs,x=.ref l/\y=.ref b/\H l=some (.lst xs)/\H b=some (.lst zs)/\xs.length+zs.length<=sizeLine/\∀p,H p=none->Q (.ref p) (fT H p (.lst (xs++zs)))
def QcD:OpR X (fP .Add) Nr:=by
 intro g s σ H x y v u Q I B o h;let⟨l,b,xs,zs,rfl,rfl,G,J,hz,q⟩:=h;cases B;cases o;let⟨z,its,n,r,hl,e⟩:=I.lstM G;let⟨U,c,Y,C,E,O⟩:=I.lstM J;refine PySem.P.add_list e O ?_ (by rw[aL,aL];ext);let L:its.toArray++c.toArray=(its++c).toArray:=by simp
 rw[L];exact⟨.ref _,_,I.lnew (t':=s.toks) (r.append C) (by rw[aB];ext),rfl,q _ I.fresh⟩
end
section
def QcE{a c n:Nat}(g:a<=c)(o:c<=n):fZ (some (a:Int)) (some (c:Int)) none n=((a:Int),(c:Int),1):=by
 simp only[fZ,q_];let l:¬ ((a:Int) < 0):=by ext
 let h:¬ ((c:Int) < 0):=by ext
 simp only[l,h,if_false,show (1:Int) > 0 by decide,if_true];congr 1
 ·ext
 ·congr 1;ext
end
end L2
namespace Att
open PySem PySem.W PySem.Calls PyProof.Rows
def QcG:∀(c:List Int)(g:List ah),WellAll P h g (c.map Jx)->my g c:=by
 intro c
 induction c with
 |nil=>
  intro g w;rw[mz]at w;cases w;exact .nil
 |cons n c ih=>
  intro g w;rw[aT]at w;cases w with|cons a b=>
   cases a;exact .cons _ _ (ih _ b)
def Y8{l:OpenLaw}{n:Nat}(J:l.most=some n)(o:l.row.toRowW.claim.pre args=true) (C:WellAll P h g args):∃a G c,g=[bG a]/\args=[WData.list (c.map Jx)]/\h.get? a=some { cls:=.type "list",data:=.seq G.toArray }/\my G c/\c.length<=n:=by
 let E:WShape.hasAll [] args [.list .int]=true:=(pre_splitW o).1;let H:l.pre.holds [] { args:=args }=true:=(pre_splitW o).2;let⟨d,r,rfl,Q,O⟩:=hasAllW_cons E;obtain rfl:=hasAllW_nil O;let⟨xs,rfl,L⟩:=hasW_list Q;let⟨c,rfl⟩:=items_int L;let u:c.length<=n:=by
  unfold OpenLaw.pre at H;let B:(WTm.not (.lt (.lit (.int (n:Int))) (.len (.arg 0)))).holds [] { args:=[.list (c.map .int)] }=true:=by have B:=(holds_andW H).1;rw[J]at B;exact B
  let v:=condW_of B (w_not (w_lt w_lit (w_len_list (w_arg rfl))));rw[ag]at v;refine sK λq=>?_;let I:(n:Int) < ((c.length:Nat):Int):=by ext
  first
   | (rw[bY I]at v;exact bo v (by decide))| (simp at v;ext)
 cases C with|cons w1 w2=>
  cases w2;cases w1 with|list ho hall=>exact⟨_,_,c,rfl,rfl,ho,QcG c _ hall,u⟩
def Sb(l:OpenLaw)(args:List WData):l.row.toRowW.claim.post args (.bool true) args=true:=
 postW_of (r:=l.row.toRowW) (X:=(true == true))
  (show Eu [] (.bool true) .bool=true by first|rfl|decide|simp[Eu,WShape.arms,WShape.armsAll])
  (show (WTm.eq .res (.lit (.bool true))).value [] { args:=args,res:=some (.bool true),after:=args }=some (.bool (true == true)) from w_eq_bool (w_res rfl) w_lit) rfl
def vc{l:OpenLaw}{n:Nat}{YP:bR->bN->Prop}{d:DefRec}(hn:l.most=some n) (hdf:d.params.defaults=[])(call:∀(w:bR)(s₀ s₁:aq)(mg O:Str->Option ah)(E:ak)(o:Obj)(L J h:ah)(a:ak)(u:List ah)(I:List Int),Ground q c [] XP w s₀ mg O s₁.heap->YP w s₁.heap ->s₁.heap.get? E=some o->o.data=.func (docDef d.name d.params d.body d.scope L J h)->s₁.heap.CodeRec J d.name->mg d.name=some (.ref E) ->s₁.heap.get? a=some { cls:=.type "list",data:=.seq u.toArray }->my u I->I.length<=n->s₁.gens=#[] ->ky (aY l.prog w) mB (.call (.ref E) ⟨[.ref a],[]⟩) (λr H=>r=.ok (.ret (.bool true))/\OldK s₁.heap H.heap/\H.os=s₁.os/\mw H.gens) s₁):WalkO q c XP YP l.row.toRowW d [] (λf u=>xN f u):=by
 intro w s₀ s₁ mg O G Y E o L J h dV kV ho hd hcd hD U hg args vals as v hlay hrd Q hlo;obtain rfl:dV=.none:=Dflts.none hD hdf;obtain rfl:kV=.none:=Dflts.noKw hD;let⟨a,u,I,rfl,rfl,B,g,C⟩:=Y8 hn v Q;refine enter_call (lL (call w s₀ s₁ mg O E o L J h a u I G Y ho (fd_plain hd) hcd U B g C hg) λr H hq=>?_);let⟨rfl,h2,h3,h4⟩:=hq;exact⟨.inl ⟨.bool true,.bool true,[],rfl,λ_=>rfl,.bool true,Sb l _,λ_=>⟨t6,λ_ hm=>(nomatch hm)⟩⟩,h2,h3,h4⟩
end Att
namespace L2
open PySem PySem.Spec PyProof.Rows
theorem Kz:∀{c:List ah}{g:List Int},my c g->cj (g.map V.int) c
 |_,_,.nil=>.nil|_,_,.cons n t h=>.cons ⟨t,rfl⟩ (Kz h)
noncomputable def GH(H:Hp):Prop:=∀b,H b=none\/∃o xs,H b=some (.frz o (.lst xs))
def QcK{K:ai}{k:Nat}{s₁:aq}{E:List ah}(KX:K.In s₁.heap) (Q:s₁.heap.Ns cW mg) (g:s₁.heap.Ns nL mb) (hbb:∀x:Str,x≠"__name__"->mb x=dg x) (U:s₁.heap.NoLimit) (hg:s₁.gens=#[])(ha:s₁.heap.get? a=some { cls:=.type "list",data:=.seq E.toArray }) (hi:my E L) (hl:L.length<=sizeLine) (hr:iJ k mB)(F:∀base:bN,K.In base->base.Ns cW mg->mX P w K mg base CX k fa fd [x] sp) (G:∀(s:aq)(u:ah),tx s fd ⟨[u],[]⟩ [(x,u)])(hsp:∀H:Hp,GH H->io K H a (L.map V.int)->sp [.ref a] H (λv _=>v=.bl true) λ_ _ _=>False)(hCX:∀H e l,CX [] H s₁ (λ_ _ _=>False) e l->False):ky (aY P w) mB (.call (.ref fa) ⟨[.ref a],[]⟩) (λr l=>r=.ok (.ret (.bool true))/\OldK s₁.heap l.heap/\l.os=s₁.os/\mw l.gens) s₁:=by
 let rv:=Kz hi;let O:=hi.length;let C : ∀H : Hp, GH H -> io K H a (L.map V.int) -> n0 P w H s₁.heap -> (∀b, H b ≠ none -> b = a) -> (H a ≠ none -> K.lookup a = none) ->
   ky (aY P w) mB (.call (.ref fa) ⟨[.ref a],[]⟩) (λr l=>r=.ok (.ret (.bool true))/\OldK s₁.heap l.heap/\l.os=s₁.os/\mw l.gens) s₁:=by
  intro H hO hS hok hA hK;let c:∀{b:ak}{o:Obj},s₁.heap.get? b=some o->H b=none->(pB s₁.heap H).get? b=some o:=λe n=>Q7 e n;let noA:∀{b:ak}{o:Obj}{es:Array lB}{ep:Nat},s₁.heap.get? b=some o->o.data=.dict es ep->H b=none:=λ{b o es ep}e d=>by
   cases q:H b with|none=>rfl|some u=>
    let e':b=a:=hA b (by rw[q];simp);subst e';rw[ha]at e;cases e;let d':Data.seq E.toArray _=Data.dict es ep:=d;cases d'
  let B:∀{b:ak}{m:Str->Option ah},s₁.heap.Ns b m->(pB s₁.heap H).Ns b m:=λ{b m}J=>by let⟨o,es,ep,e,d,r⟩:=J;exact⟨o,es,ep,c e (noA e d),d,r⟩
  let Y:K.In (pB s₁.heap H):=λb o e=>c (KX b o e) (by
   cases q:H b with|none=>rfl|some u=>
    let e':b=a:=hA b (by rw[q];simp);subst e';rw[hK (by rw[q];simp)]at e;cases e)
  let hM:Mod K mg (pB s₁.heap H):=⟨Y,B Q,⟨mb,B g,hbb⟩,let ⟨mc,h1,h2⟩:=U;⟨mc,B h1,h2⟩⟩
  let e0:rT P w K mg (pB s₁.heap H) mB [] s₁ H:=⟨rfl,hM,λb o e=>NA e,Ih (Qj _ _),trivial,λb g=>bo (show b∈([]:List ak) from g) (by simp),hok,.of_eq hg⟩
  refine lL ((F _ Y (B Q)).run mB [] s₁ H ⟨[.ref a],[]⟩ [.ref a] [.ref a] _ _ hr e0 (G s₁ (.ref a)) (.cons rfl .nil) (hsp H hO hS)) λr l h=>?_;cases r with|error e=>exact (hCX H e l h).elim|ok fl=>
   cases fl with|next=>exact c_ h|brk=>exact c_ h|cont=>exact c_ h|ret u=>
    let⟨v,H',os,bare,un,hok',r',q⟩:=h;let q':v=.bl true:=q;subst q';obtain rfl:u=dE true:=r';refine⟨rfl,OldK.of_keep λb o e=>?_,os,bare⟩;cases q:H b with|none=>exact un.keep b o e q (by intro z;exact bo (show b∈([]:List ak) from z) (by simp)) (by simp)|some u=>
     rcases hO b with z|⟨ob,xs,z⟩
     ·rw[q]at z;cases z
     ·let g:=un.frzs b ob _ z;let⟨c,_⟩:=hok b _ z;let⟨h,_⟩:=hok' b _ g;rw[e]at c;cases c;exact h
 cases hk:K.lookup a with
 |some o=>
  let e:=KX a o hk;rw[ha]at e;cases e;refine C (λ_=>none) (λ_=>.inl rfl) (.inr ⟨_,E.toArray,_,hk,rfl,rfl,rfl,by rw[aL,O];exact hl,by simpa using rv⟩) (λb u z=>by have I:(none:Option HO)=some u:=z;cases I) (λb z=>bo rfl z) λz=>bo rfl z
 |none=>
  refine C (λb=>if b=a then some (.frz { cls:=.type "list",data:=.seq E.toArray } (.lst (L.map V.int))) else none) (λb=>?_) (.inl (.inr ⟨{ cls:=.type "list",data:=.seq E.toArray },aJ rfl⟩)) (λb u z=>?_) (λb z=>?_) λ_=>hk
  ·by_cases g:b=a
   ·exact .inr ⟨_,_,aJ g⟩
   ·exact .inl (az g)
  ·by_cases g:b=a
   ·let I:=(aJ g).symm.trans z;cases I;subst g;exact⟨ha,by rw[ag];exact hl,E,_,rv,ha⟩
   ·let I:=(az g).symm.trans z;cases I
  ·by_cases g:b=a
   ·exact g
   ·exact bo (az g) z
noncomputable def dN(s:Stmt):iM:=match s with| .FunctionDef _ a _ _ _ _ _ _ _ _=>a|_=>{ posonlyargs:=[],args:=[],vararg:=none,kwonlyargs:=[],kw_defaults:=[],kwarg:=none,defaults:=[] }
noncomputable def cP(s:Stmt):List Stmt:=match s with| .FunctionDef _ _ b _ _ _ _ _ _ _=>b|_=>[]
noncomputable def bc(s:Stmt):dB:=match s with| .FunctionDef _ _ _ _ _ _ sc _ _ _=>sc|_=>{ kind:=.function,names:=[],isGenerator:=false,isCoroutine:=false }
noncomputable abbrev rm:zD:=λ_ _ _ _ _ _=>False
noncomputable abbrev E0:XK:=λ_ _ _=>False
def OL:uh rm X E0:=λ_ _ _ _ _ _ _ h=>h.elim
structure zC(K:ai)(x qual:Str)(st:Stmt)(f:ak)(fd:dq):Prop where
 ex:∃(oc:ah)(od:Option ak)(kV doc pm:ah)(an:Option ak)(cdv ct:ah)(osl:Array (Option ah)),
  fd=cF x qual (dN st) (cP st) (bc st) .none kV doc pm an cdv ct/\K.lookup f=some ⟨oc,od,.func fd,osl⟩/\gU K cdv qual=true
 kp:di K (.ref f)=true
section
variable{K:ai}
def zC.binds{st:Stmt}{ps:List Str}(F:zC K x qual st f u)(h:∀(kV c o:ah)(q:Option ak)(g ct:ah)(l:List ah),l.length=ps.length->g9 (cF x qual (dN st) (cP st) (bc st) .none kV c o q g ct) ⟨l,[]⟩=pure (ps.zip l)):Binds K u ps []:=by
 let⟨E,C,kV,c,o,q,g,ct,v,rfl,G,B⟩:=F.ex;exact .all (h kV c o q g ct)
def Pu{st:Stmt}{kV h q g ct:ah}(l:K.lookup f=some ⟨B,v,.func (cF x qual (dN st) (cP st) (bc st) .none kV h q u g ct),o⟩)(c:gU K g qual=true) (k:di K (.ref f)=true):zC K x qual st f (cF x qual (dN st) (cP st) (bc st) .none kV h q u g ct):=⟨⟨B,v,kV,h,q,u,g,ct,o,rfl,l,c⟩,k⟩
end
section
variable{κ:Type}[DecidableEq κ]
noncomputable def rj(c:List (κ×V))(k:κ):Option V:=(c.find? λg=>decide (g.1=k)).map (·.2)
noncomputable def nG(c:List (κ×V))(k:κ)(v:V):List (κ×V):=
 if (c.any λg=>decide (g.1=k))=true then c.map (λg=>if g.1=k then (g.1,v) else g) else c++[(k,v)]
def Iz{p:κ×V}{r:List (κ×V)}{k:κ}(e:p.1=k):rj (p::r) k=some p.2:=by simp[rj,c8,e]
def Jh{p:κ×V}{r:List (κ×V)}{k:κ}(e:¬ p.1=k):rj (p::r) k=rj r k:=by simp[rj,c8,e]
theorem Qy(k:κ):∀c:List (κ×V),(c.any λg=>decide (g.1=k))=(rj c k).isSome
 |[]=>rfl
 |p::r=>by
  rw[d6];by_cases e:p.1=k
  ·simp only[Iz e,bY e,Bool.true_or,km]
  ·rw[Jh e,ba e,DO];exact Qy k r
def ML(c:List (κ×V))(k:κ)(v:V):(nG c k v).length<=c.length+1:=by
 unfold nG;split
 ·rw[ag];ext
 ·rw[aB,bU,gC];ext
def rC.isSome_eq(r:rC o u):o.isSome=u.isSome:=by
 cases o with
 |none=>cases u with|none=>rfl|some _=>exact (show False from r).elim
 |some _=>cases u with|none=>exact (show False from r).elim|some _=>rfl
def KV.val{c:List (κ×V)}{l:List (κ×ah)}(r:KV c l)(k:κ):rC (rj c k) (tD l k):=by
 unfold KV at r
 induction r with|nil=>exact gM|@cons p q ps qs h t ih=>
  let⟨o,u⟩:=h;by_cases e:p.1=k
  ·let g:q.1=k:=o.symm.trans e;let b:tD (q::qs) k=some q.2:=by simp[tD,c8,g]
   rw[Iz e,b];exact u
  ·let g:¬ q.1=k:=λz=>e (o.trans z);let b:tD (q::qs) k=tD qs k:=by simp[tD,c8,g]
   rw[Jh e,b];exact ih
theorem KV.any{c:List (κ×V)}{l:List (κ×ah)}(r:KV c l)(k:κ):(c.any λg=>decide (g.1=k))=l.any λg=>decide (g.1=k):=by
 unfold KV at r
 induction r with|nil=>rfl|cons h t ih=>rw[d6,d6,ih,h.1]
def KV.repl{g:List (κ×V)}{o:List (κ×ah)}(r:KV g o)(k:κ)(v:RelV y u):KV (g.map λc=>if c.1=k then (c.1,y) else c) (o.map λc=>if c.1=k then (c.1,u) else c):=by
 unfold KV at r ⊢
 induction r with|nil=>exact .nil|@cons p q ps qs h t ih=>
  rw[aT,aT];refine .cons ?_ ih;let⟨l,B⟩:=h;by_cases e:p.1=k
  ·rw[aJ e,aJ (l.symm.trans e)];exact⟨l,v⟩
  ·rw[az e,az (λz=>e (l.trans z))];exact⟨l,B⟩
def KV.put{c:List (κ×V)}{g:List (κ×ah)}(r:KV c g)(k:κ)(h:RelV y u):KV (nG c k y) (stored g k u):=by
 unfold nG stored;rw[r.any k];by_cases e:(g.any λl=>decide (l.1=k))=true
 ·rw[aJ e,aJ e];exact r.repl k h
 ·rw[az e,az e];exact oQ r ⟨rfl,h⟩
theorem KV.length{c:List (κ×V)}{g:List (κ×ah)}(r:KV c g):c.length=g.length:=cZ r
end
def DZ(r:RelV (kV k) u):(gL P w).is k u=true:=by
 cases k with|inl i=>let⟨t,e⟩:=(show ∃t,u=kF i t from r);subst e;exact Yg P w i t|inr x=>let⟨t,e⟩:=(show ∃t,u=rF x t from r);subst e;exact WH P w x t
theorem Pr:∀{ks:List Key}{c:List ah},cj (ks.map kV) c->ItemsAre (gL P w) ks c
 |[],_,r=>by rw[mz]at r;cases r;exact .nil
 |k::ks,_,r=>by
  rw[aT]at r;cases r with|cons h t=>exact .cons (DZ h) (Pr t)
abbrev KT(H:Hp):List (List Key×V)->List (List Key×ak×ah)->Prop:=fw λp q=>p.1=q.1/\H q.2.1=some (.tup (p.1.map kV))/\RelV p.2 q.2.2
def KT.val(r:KT H c xs)(k:List Key):rC (rj c k) ((kR xs k).map (·.2)):=by
 induction r with|nil=>exact gM|@cons p q ps qs h t ih=>
  let⟨l,_,o⟩:=h;by_cases e:p.1=k
  ·let g:q.1=k:=l.symm.trans e;let b:kR (q::qs) k=some q.2:=by simp[kR,c8,g]
   rw[Iz e,b];exact o
  ·let g:¬ q.1=k:=λz=>e (l.trans z);let b:kR (q::qs) k=kR qs k:=by simp[kR,c8,g]
   rw[Jh e,b];exact ih
def KT.repl(r:KT H c xs)(k:List Key)(v:RelV y u):KT H (c.map λl=>if l.1=k then (l.1,y) else l) (xs.map (uR k u)):=by
 induction r with|nil=>exact .nil|@cons p q ps qs h t ih=>
  rw[aT,aT];refine .cons ?_ ih;let⟨g,o,B⟩:=h;unfold uR;by_cases e:p.1=k
  ·rw[aJ e,aJ (g.symm.trans e)];exact⟨g,o,v⟩
  ·rw[az e,az (λz=>e (g.trans z))];exact⟨g,o,B⟩
def KT.put(r:KT H c xs)(k:List Key)(l:H b=some (.tup (k.map kV)))(g:RelV y u):KT H (nG c k y) (mC xs k b u):=by
 let e:(c.any λh=>decide (h.1=k))=(kR xs k).isSome:=by rw[Qy,(r.val k).isSome_eq,kP]
 unfold nG mC;rw[e];by_cases q:(kR xs k).isSome=true
 ·rw[aJ q,aJ q];exact r.repl k g
 ·rw[az q,az q];exact oQ r ⟨rfl,l,g⟩
def KT.keeps{H g:Hp}(r:KT H c xs)(h:∀b ys,H b=some (.tup ys)->g b=some (.tup ys)):KT g c xs:=
 fw.mapP r λ_ _ z=>⟨z.1,h _ _ z.2.1,z.2.2⟩
section
def PN(ok:n0 P w H h)(e:Rd H a u):gP P w H h a u:=e.ok ok
def GA(ok:n0 P w H h)(e:Rd H a (.dK c)):c.length<=sizeLine/\(a == cJ)=false/\∃g,KV c g/\h.DictOf (gL P w) a g:=
 show gP P w H h a (.dK c) from PN ok e
def Lw(ok:n0 P w H h)(e:H a=some (.dK c)):c.length<=sizeLine/\(a == cJ)=false/\∃g,KV c g/\h.DictOf (gL P w) a g:=GA ok (.inl e)
def Ge{ks:List Key}(ok:n0 P w H h)(e:H a=some (.tup (ks.map kV))):(uB (gL P w)).is h ks a:=by
 let⟨_,its,r,o,l,g,⟨n,c⟩,_⟩:=(show gP P w H h a (.tup (ks.map kV)) from ok a _ e)
 exact⟨o,its.toArray,n,l,g,c,by simpa using Pr r⟩
def IB(ok:n0 P w H h)(e:Rd H a (.dT c)): c.length<=sizeLine/\(a == cJ)=false /\∃xs,KT H c xs/\h.DictOfH (uB (gL P w)) a xs:=by
 let⟨z,y,xs,r,o,es,ep,E,C,B,v,u⟩:=(show gP P w H h a (.dT c) from PN ok e)
 refine⟨z,y,xs,r,o,es,ep,E,C,B,v,λx g=>?_,u⟩;let all:∀{l:List (List Key×V)}{m:List (List Key×ak×ah)},KT H l m->∀x∈m,(uB (gL P w)).is h x.1 x.2.1:=by
  intro l m q
  induction q with
  |nil=>intro x g;exact nomatch g
  |@cons p q ps qs hq t ih=>
   intro x g;rcases aX.mp g with e|g
   ·subst e;exact Ge ok (by rw[<- hq.1];exact hq.2.1)
   ·exact ih x g
 exact all r x g
def XZ(ok:n0 P w H h)(e:H a=some (.dT c)): c.length<=sizeLine/\(a == cJ)=false /\∃xs,KT H c xs/\h.DictOfH (uB (gL P w)) a xs:=IB ok (.inl e)
end
def vD(H:Hp)(a:ak)(y:V)(r:Option V):Prop:=
 (∃c k,Rd H a (.dK c)/\y=kV k/\r=rj c k)\/∃c k b,Rd H a (.dT c)/\y=.ref b/\H b=some (.tup (k.map kV))/\r=rj c k
def Av(H:Hp)(a:ak)(y v:V)(g:Hp):Prop:=
 (∃c k,H a=some (.dK c)/\y=kV k/\c.length < sizeLine/\g=fT H a (.dK (nG c k v))) \/
 ∃c k b,H a=some (.dT c)/\y=.ref b/\H b=some (.tup (k.map kV))/\c.length < sizeLine/\g=fT H a (.dT (nG c k v))
theorem vD.k{H:Hp}{k:Key}(e:H a=some (.dK c)):vD H a (kV k) (rj c k):=.inl ⟨c,k,.inl e,rfl,rfl⟩
theorem Av.k{H:Hp}{k:Key}(e:H a=some (.dK c))(g:c.length < sizeLine):Av H a (kV k) v (fT H a (.dK (nG c k v))):=.inl ⟨c,k,e,rfl,g,rfl⟩
section
variable{A:bM}
def Inv.big(I:Inv X ac σ H s):cJ < s.heap.objs.size:=by let h:cW < s.heap.objs.size:=(I.mod.glob.keeps I.bk).lt;exact oI (by decide) h
def WS{Q:ah->aq->Prop}(hu:A.units+1 < cN)(I:Inv X ac σ H s)(g:vD H a y (some v))(Y:RelV y u)(h:∀B U,Inv X ac σ H U->RelV v B->Q B U):aH (aY X.prog X.w) A (qZ (.ref a) u) Q E s:=by
 rcases g with ⟨C,k,e,L,l⟩|⟨C,k,b,e,L,eb,l⟩
 ·subst L;let⟨z,hd,g,q,O⟩:=GA I.hok e;let⟨B,G,c⟩:=rC.some_of (v:=v) (o:=tD g k) (by rw[l];exact q.val k);exact wpAny_getItem_of (DZ Y) O.mapOf G (h B _ (I.tok _) c)
 ·subst L;cases (show u=bG b from Y);let⟨z,hd,xs,q,O⟩:=IB I.hok e;let⟨B,G,c⟩:=rC.some_of (v:=v) (o:=(kR xs k).map (·.2)) (by rw[l];exact q.val k);let⟨p,g,J⟩:=cG.mp G;refine DP (nO hu) (Ge I.hok eb) O g ?_;rw[J];exact h B _ (I.tok _) c
def J4{Q:ah->aq->Prop}(hu:A.units+1 < cN)(I:Inv X ac σ H s)(g:vD H a y o)(L:RelV y u)(h:∀J,Inv X ac σ H J->Q (.bool o.isSome) J):aH (aY X.prog X.w) A (cS .In u (.ref a)) Q E s:=by
 rcases g with ⟨B,k,e,C,l⟩|⟨B,k,b,e,C,O,l⟩
 ·subst C;let⟨z,hd,U,c,G⟩:=GA I.hok e;refine wpAny_in_of (DZ L) hd G.mapOf ?_;rw[<- (c.val k).isSome_eq,<- l];exact h _ (I.tok _)
 ·subst C;cases (show u=bG b from L);let⟨z,hd,xs,c,G⟩:=IB I.hok e;refine wpAny_in_heap (nO hu) (Ge I.hok O) hd G ?_;let q:=(c.val k).isSome_eq;rw[kP]at q;rw[<- q,<- l];exact h _ (I.tok _)
def XX{Q:ah->aq->Prop}(hu:A.units+1 < cN)(I:Inv X ac σ H s)(g:vD H a y o)(L:RelV y u)(h:∀J,Inv X ac σ H J->Q (.bool (!o.isSome)) J):aH (aY X.prog X.w) A (cS .NotIn u (.ref a)) Q E s:=by
 rcases g with ⟨B,k,e,C,l⟩|⟨B,k,b,e,C,O,l⟩
 ·subst C;let⟨z,hd,U,c,G⟩:=GA I.hok e;refine wpAny_notIn_of (DZ L) hd G.mapOf ?_;rw[<- (c.val k).isSome_eq,<- l];exact h _ (I.tok _)
 ·subst C;cases (show u=bG b from L);let⟨z,hd,xs,c,G⟩:=IB I.hok e;refine Ii (nO hu) (Ge I.hok O) hd G ?_;let q:=(c.val k).isSome_eq;rw[kP]at q;rw[<- q,<- l];exact h _ (I.tok _)
def Eb{t':Nat}(I:Inv X ac σ H s)(g:Fb (H a))(h:cX a s.heap h')(l:∃q,h'.get? a=some q)(new:gP X.prog X.w (fT H a c) h' a c):Inv X ac σ (fT H a c) { s with heap:=h',toks:=t' }:=
 I.write (x:=a) (e:=a) g (.inl rfl) (λb q B z=>(h.2 b B).trans z) l new
def RM{h':bN}{c:List (Key×V)}(z:c.length<=sizeLine)(hd:(a == cJ)=false)(h:KV c g)(l:h'.DictOf (gL P w) a g):gP P w q h' a (.dK c):=⟨z,hd,g,h,l⟩
def Qc3{Q:Unit->aq->Prop}(hu:A.units+1 < cN)(I:Inv X ac σ H s)(g:Av H a y v H')(ry:RelV y u)(rv:RelV v r)(h:∀s',Inv X ac σ H' s'->Q Unit.unit s'):aH (aY X.prog X.w) A (pG (.ref a) u r) Q E s:=by
 rcases g with ⟨C,k,e,U,l,Y⟩|⟨C,k,b,e,U,eb,l,Y⟩
 ·subst U Y;let⟨z,hd,c,B,o⟩:=Lw I.hok e;let hz:c.length<=sizeLine:=by rw[<- B.length];exact z
  let O:(nG C k v).length<=sizeLine:=by have:=ML C k v;ext
  refine wpAny_setItem_pairs (hsz:=hz) (DZ ry) o λh' G L=>h _ ?_;let g:∃q,h'.get? a=some q:=let ⟨q,_,_,J,_⟩:=G;⟨q,J⟩
  exact Eb I (by rw[e];exact gM) L g (RM O hd (B.put k rv) G)
 ·subst U Y;cases (show u=bG b from ry);let⟨z,hd,xs,B,o⟩:=XZ I.hok e;let hz:xs.length<=sizeLine:=by rw[<- cZ B];exact z
  let O:(nG C k v).length<=sizeLine:=by have:=ML C k v;ext
  refine wpAny_setItem_heap (hsz:=hz) (nO hu) (Ge I.hok eb) o λh' G L=>h _ ?_;let⟨q,es,ep,J,Q,H,E,_,l⟩:=G;refine Eb I (by rw[e];exact gM) L ⟨q,J⟩ ⟨O,hd,_,(B.put k eb rv).keeps λc ys g=>?_,q,es,ep,J,Q,H,E,l⟩;rw[gB (Qak g e nofun)];exact g
end
section
def W2{Q:ah->aq->Prop}(I:Inv X ac σ H s)(e:Rd H a (.dK ar))(h:∀t g,Inv X ac σ H g->Q (.int ar.length t) g):aH (aY X.prog X.w) A (call (.builtin "len") [.ref a]) Q E s:=by let⟨z,hd,o,c,l⟩:=GA I.hok e;refine call_len_dict hd l (by rw[<- c.length];rw[mG]at z;ext) ?_;rw[<- c.length];exact h _ _ (I.tok _)
end
def Px(h:bN)(c:cJ < h.objs.size):gP P w H (h.push { cls:=.type "dict",data:=.dict #[] }) h.objs.size (.dK []):=
 ⟨bH _,beq_eq_false_iff_ne.mpr (fI (bj c)),[],.nil,bN.DictOf.new h⟩
def CQ:TE:=λ_ H Q=>∀p,H p=none->Q (.ref p) (fT H p (.dK []))
section
def Xs:PE X (.Dict [] [] pos) CQ:=λc s σ H Q I h=>
 Ij ⟨.ref s.heap.objs.size,_,I.laid (a:=s.heap.objs.size) (o:=.dK []) (t':=s.toks) (λ_ _ q=>am _ q) (ay _) (Px s.heap I.big),rfl,h _ (I.hok.fresh (ay _))⟩
end
def v6:List (TE×TE)->St->Hp->(List (V×V)->Hp->Prop)->Prop
 |[],_,H,Q=>Q [] H| (tk,tv)::r,σ,H,Q=>tk σ H λx h=>tv σ h λy g=>v6 r σ g λps c=>Q ((x,y)::ps) c
abbrev VV:List (V×V)->List (ah×ah)->Prop:=fw λp q=>RelV p.1 q.1/\RelV p.2 q.2
def IA(X:Cx)(pos:Pos)(keys:List (Option Expr))(c:List Expr)(g:List (TE×TE)):Prop:=
 ∀(ac:List (ak×Obj))(s:aq)(σ:St)(H:Hp)(Q:List (V×V)->Hp->Prop),Inv X ac σ H s->v6 g σ H Q ->
  aH (aY X.prog X.w) X.A (evalPairs (pairTrees keys c X.env pos)) (λl o=>∃ps h,Inv X ac σ h o/\VV ps l/\Q ps h) X.xe s
def Y1:IA X pos [] [] []:=λc s σ H Q I h=>pairTrees_nil_walk ⟨[],H,I,.nil,h⟩
def Z9(hk:PE X k B)(Y:PE X v q)(hr:IA X pos ks o g):IA X pos (some k::ks) (v::o) ((B,q)::g):=λc s σ H Q I h=>
 pairTrees_cons_walk (gA (hk c s σ H _ I h) λu E ⟨x,H1,I1,J,U⟩=>gA (Y c E σ H1 _ I1 U) λw2 C ⟨y,H2,I2,G,O⟩=>
  gA (hr c C σ H2 _ I2 O) λws s3 ⟨ps,H3,I3,l,L⟩=>⟨(x,y)::ps,H3,I3,.cons ⟨J,G⟩ l,L⟩)
def mW(c more:List (Key×V)):List (Key×V):=more.foldl (λg h=>nG g h.1 h.2) c
def KV.merge:∀{more:List (Key×V)}{rs:List (Key×ah)}{c:List (Key×V)}{g:List (Key×ah)},KV more rs->KV c g->KV (mW c more) (merged g rs):=by
 intro more rs c g r;unfold KV at r
 induction r generalizing c g with
 |nil=>intro q;exact q
 |@cons p q ps qs h t ih=>
  intro l;let e:KV (nG c p.1 p.2) (stored g q.1 q.2):=by have:=l.put p.1 h.2;rw[<- h.1];exact this
  exact ih e
theorem Qo:∀(more ar:List (Key×V)),(mW ar more).length<=ar.length+more.length
 |[],ar=>by show ar.length<=ar.length+0;ext
 |p::r,ar=>by
  let g:=Qo r (nG ar p.1 p.2);let c:=ML ar p.1 p.2
  show (mW (nG ar p.1 p.2) r).length<=_;rw[bU];ext
theorem Q5:∀{ar:List (Key×V)}{ws:List (ah×ah)},VV (ar.map λg=>(kV g.1,g.2)) ws->∃rs,Carries (gL P w) ws rs/\KV ar rs
 |[],_,r=>by rw[mz]at r;cases r;exact⟨[],gM,.nil⟩
 |p::ar,_,r=>by
  rw[aT]at r;cases r with|@cons a b as bs h t=>
   let⟨rs,c,q⟩:=Q5 (P:=P) (w:=w) t;let⟨o,l⟩:=b;exact⟨(p.1,l)::rs,⟨DZ h.1,rfl,c⟩,.cons ⟨rfl,h.2⟩ q⟩
def GU(g:List (TE×TE)):TE:=λσ H Q=>∀p,H p=none->v6 g σ (fT H p (.dK [])) λps l=>l p=some (.dK [])/\∃c:List (Key×V),ps=c.map (λh=>(kV h.1,h.2))/\c.length<=15/\Q (.ref p) (fT l p (.dK (mW [] c)))
def Qdb(h:IA X pos keys g l)(C:keys.all (·.isSome)=true)(hl:keys.length=g.length)(h0:keys≠[])(J:keys.length<=15):PE X (.Dict keys g pos) (GU l):=by
 intro v s σ H Q I q;let hn:=I.hok.fresh (ay s.heap.objs.size);let I1:=I.laid (a:=s.heap.objs.size) (o:=.dK []) (h':=s.heap.push { cls:=.type "dict",data:=.dict #[] }) (t':=s.toks) (λ_ _ q=>am _ q) (ay _) (Px s.heap I.big);refine wpAny_Dict_walk (knd:=gL X.prog X.w) C hl h0 J (gA (h v _ σ _ _ I1 (q _ hn)) λws s2 u=>?_);let⟨ps,H2,L,G,e,B,ep,lk,q2⟩:=u;subst ep;let⟨rs,c,U⟩:=Q5 (P:=X.prog) (w:=X.w) G;let⟨z,hd,O,Y,dd⟩:=Lw L.hok e;cases Y;refine⟨rs,c,dd,λh' E hs=>⟨.ref s.heap.objs.size,_,?_,rfl,q2⟩⟩;let hz:(mW [] B).length<=sizeLine:=by have h1:=Qo B [];rw[gC]at h1;rw[mG];ext
 let he:∃q,h'.get? s.heap.objs.size=some q:=let ⟨q,_,_,hq,_⟩:=E;⟨q,hq⟩
 exact Eb L (by rw[e];exact gM) hs he (RM hz hd (U.merge .nil) E)
structure M2(X:Cx)(o:Expr)(m:Str)(a5:Pos)(e f:Expr)(a0:Pos):Prop where
 base:dS o m X.env (eval o X.env)=eval o X.env
 few:((backTo a0 (starEach [e,f] X.env)).all (λx => !x.1)&&(o9 a0 (lA [] X.env)).all (λx=>x.1.isSome)
  && decide (([e,f]:List Expr).length+([]:List iD).length+(if ([]:List iD).isEmpty then 0 else 1) < 30))=true
 line:(a5.endLine == a0.line)=true
 trees:backTo a0 (starEach [e,f] X.env)=[(false,eval e X.env),(false,eval f X.env)]
end L2
namespace MM
open PySem PySem.Spec PyProof.Rows L2
noncomputable abbrev KI:=Int ⊕ List Int
section
variable{prog:Program}{w:bR}
variable(prog w) in
inductive xy(h:bN):KI->ah->Prop
 |one (i:Int) (t:Tok):xy h (.inl i) (.int i t)|row {k:List Int}{b:ak}:DQ (qX prog w) h k b->xy h (.inr k) (.ref b)
variable(prog w) in
inductive oY(h:bN):List KI->List ah->Prop
 |nil:oY h [] []|cons {k:KI}{v:ah}{ks:List KI}{vs:List ah}:xy prog w h k v->oY h ks vs->oY h (k::ks) (v::vs)
variable(prog w) in
noncomputable def fE(h:bN)(ks:List KI)(a:ak):Prop:=∃o items n,h.get? a=some o/\o.cls=.type "tuple"/\o.data=.seq items n/\oY prog w h ks items.toList
theorem xy.inj(a:xy prog w h x v)(b:xy prog w h y v):x=y:=by
 cases a with
 |one i t=>cases b;rfl
 |row a=>cases b with|row b=>rw[a.inj b]
theorem oY.inj(a:oY prog w h x c)(b:oY prog w h y c):x=y:=by
 induction a generalizing y with
 |nil=>cases b;rfl
 |cons a t ih=>cases b with|cons b u=>rw[a.inj b,ih u]
def fE.typeIs{s:aq}(x:fE prog w s.heap ks a):s.TypeIs (.ref a) "tuple":=let ⟨o,_,_,ho,hc,_⟩:=x;⟨o,ho,hc⟩
theorem fE.inj(v:fE prog w h x a)(u:fE prog w h y a):x=y:=by
 let⟨o,items,n,B,_,hd,C⟩:=v;let⟨o',g,E,l,_,c,q⟩:=u;cases B.symm.trans l;rw[hd]at c;injection c with h1 _
 subst h1;exact C.inj q
theorem xy.keeps{h h':bN}{es ep}(g:h.get? d=some o)(hd:o.data=.dict es ep)(c:cX d h h'):∀{x:KI}{v:ah},xy prog w h x v->xy prog w h' x v
 |_,_,.one i t=>.one i t|_,_,.row a=>.row (a.keeps g hd c)
theorem oY.keeps{h h':bN}{es ep}(l:h.get? d=some o)(hd:o.data=.dict es ep)(g:cX d h h'):∀{x:List KI}{c:List ah},oY prog w h x c->oY prog w h' x c
 |_,_,.nil=>.nil|_,_,.cons a t=>.cons (a.keeps l hd g) (oY.keeps l hd g t)
theorem fE.keeps{es ep}(x:fE prog w h ks a)(u:h.get? d=some o)(hd:o.data=.dict es ep)(q:cX d h h'):fE prog w h' ks a:=by
 let⟨o',items,n,g,B,c,v⟩:=x;let l:a≠d:=by
  rintro rfl
  obtain rfl:o'=o:=aF (g.symm.trans u);rw[hd]at c;exact nomatch c
 exact⟨o',items,n,(q.2 a l).trans g,B,c,v.keeps u hd q⟩
def CN:KI->Int
 | .inl i=>hashInt i| .inr r=>reduceHash (dW (r.map hashInt))
def pY(ks:List KI):Int:=reduceHash (dW (ks.map CN))
def LG:KI->Nat
 | .inl _=>1| .inr r=>r.length+1
def kj:List KI->Nat
 |[]=>0|k::ks=>LG k+kj ks
variable{A:bM}{E:ah->aq->Prop}{s:aq}
theorem JL(k:KI):∀(l:List KI),kj (l++[k])=kj l+LG k
 |[]=>by simp[kj]|x::l=>by simp[kj,JL k l];ext
def WK{Q:Int->aq->Prop}(hu:A.units < cN)(c:xy prog w s.heap k v)(h:Q (CN k) { s with toks:=s.toks+LG k }):aH (aY prog w) A (pyHash v) Q E s:=by
 cases c with|one i t=>exact Ib h|row c=>exact wpAny_pyHash_tuple (knd:=qX prog w) hu c h
def WQ{Q:Bool->aq->Prop}(hu:A.units < cN)(C:xy prog w s.heap x u)(l:xy prog w s.heap y v)(h:Q (decide (x=y)) s):aH (aY prog w) A (eqBool u v) Q E s:=by
 cases C with
 |one i t=>
  cases l with
  |one j t'=>
   refine uA ?_;let e:(i == j)=decide ((mF i:KI)=mF j):=by
    by_cases z:i=j
    ·subst z;simp
    ·let B:¬ ((mF i:KI)=mF j):=λq=>z (by injection q);rw[ba B];exact beq_eq_false_iff_ne.mpr z
   first|(rw[e];exact h)|(simpa [e] using h)
  |row h2=>
   let⟨o,items,n,c,g,hd,_⟩:=h2;rw[ba (by simp)]at h;exact qd.int_tuple i t ⟨o,c,g,n,hd⟩ hu prog w E Q h
 |row h1=>
  cases l with
  |one j t'=>
   let⟨o,items,n,c,g,hd,_⟩:=h1;rw[ba (by simp)]at h;exact qd.tuple_int j t' ⟨o,c,g,n,hd⟩ hu prog w E Q h
  |@row k2 b h2=>
   refine wpAny_eqBool_tuple (knd:=qX prog w) hu h1 h2 ?_;simpa using h
def Qdf{Q:Int->aq->Prop}(hu:A.units+1 < cN)(q:fE prog w s.heap ks a)(h:Q (pY ks) { s with toks:=s.toks+(kj ks+1) }):aH (aY prog w) A (pyHash (.ref a)) Q E s:=by
 let g:=q.typeIs;let⟨o,items,n,u,_,hd,v⟩:=q;unfold pyHash
 first|unfold pyHashByItsType|skip
 first|refine ab (wpAny_cRoomFor_or (.inr ()) ?_)|skip
 refine ab (kY g nX.lookup ?_)
 show aH _ _ (if (some (BQ "tuple.__hash__") == some cK)=true then _ else _) Q E s;rw[az (by rw[beq_builtin_none];exact bD)];refine ab (kY g nX.lookup ?_)
 show aH _ _ (callSpecialIfBoundUnlessNone? (.ref a) "__hash__" _ >>= _) Q E s;refine ab (wpAny_callSpecialIfBoundUnlessNone?_slot g nX (cA nX g F.entry_tuple_hash ?_ (F.args_tuple_hash_1 _)))
 show aH _ _ (p_ (.ref a) >>= _) _ _ s;refine ab (sL u hd ?_);refine ab ?_;rw[<- kz];refine ml _
  (λrest(b:Array Int)l=>∃done left,ks=done++left/\oY prog w s.heap left rest/\b.toList=done.map (CN)/\l={ s with toks:=s.toks+kj done })
  _ ?_ ?_ _ _ ⟨[],ks,rfl,v,rfl,rfl⟩
 ·rintro x rest b l ⟨done,left,rfl,hl,hb,rfl⟩
  cases hl with|@cons k b' ks' _ h1 hl'=>
   refine ab (WK (k:=k) hu h1 ?_)
   first
    |exact aj ⟨done++[k],ks',by simp,hl',by simp[hb],by simp[JL,qr]⟩|exact ab (aj (aj ⟨done++[k],ks',by simp,hl',by simp[hb],by simp[JL,qr]⟩))
 ·rintro b l ⟨done,left,rfl,hl,hb,rfl⟩
  cases hl;rw[bB]at h
  show aH _ _ (retInt (dW b.toList)) _ _ _;rw[hb];refine Jy ?_
  show aH _ _ (if (decide (-(2:Int)^63<=dW (done.map (CN)))&&decide (dW (done.map (CN)) < 2^63))=true then _ else _) Q E _;unfold pY reduceHash at h;by_cases c:(decide (-(2:Int)^63<=dW (done.map (CN)))&&decide (dW (done.map (CN)) < 2^63))=true
  ·rw[aJ c];rw[aJ c]at h;exact aj (by simpa [qr] using h)
  ·rw[az c];rw[az c]at h;exact ab (iE (aj (by simpa [qr] using h)))
def Ur{P:Fin->aq->Prop}(hu:A.units < cN)(hx:fE prog w s.heap x a)(Y:fE prog w s.heap y b)(h:P (.done (.ret (.bool (decide (x=y))))) s):aH (aY prog w) A (Builtin.«tuple.__eq__» ⟨[.ref a,.ref b],[]⟩) P E s:=by
 let U:=Y.typeIs;let⟨oa,xs,na,H,_,Q,L⟩:=hx;let⟨ob,ys,nb,G,_,O,J⟩:=Y
 show aH _ _ (DR (.ref b) (.type "tuple") >>= _) _ _ s;refine ab (eL U qh ?_);simp only[eU,aR,if_false];refine ab (sL H Q ?_);refine ab (sL G O ?_);refine ab ?_;refine ml _
  (λrest r C=>r.1=none/\C=s/\∃B q g c,rest=List.zip g c/\oY prog w s.heap B g/\oY prog w s.heap q c/\decide (B=q)=decide (x=y)/\(g.length == c.length)=(xs.size == ys.size))
  _ ?_ ?_ _ _ ⟨rfl,rfl,x,y,xs.toList,ys.toList,rfl,L,J,rfl,by simp⟩
 ·rintro ⟨u,v⟩ rest r C ⟨hr,rfl,B,q,g,c,hz,hx',hy',hdec,hlen⟩
  cases hx' with|nil=>simp at hz|@cons k1 u' x'' xs'' h1 hx''=>
   cases hy' with|nil=>simp at hz|@cons k2 v' y'' ys'' h2 hy''=>
    simp only[List.zip_cons_cons,List.cons.injEq,Prod.mk.injEq]at hz;let⟨⟨rfl,rfl⟩,rfl⟩:=hz;refine ab (WQ (x:=k1) (y:=k2) hu h1 h2 ?_);by_cases I:k1=k2
    ·subst I;rw[bY rfl];simp only[eU,aR,if_false];refine aj ⟨rfl,rfl,x'',y'',xs'',ys'',rfl,hx'',hy'',?_,by simpa using hlen⟩;rw[<- hdec];by_cases l:x''=y''
     ·simp[l]
     ·simp[l]
    ·rw[ba I];simp only[iN,if_true];let o:decide (x=y)=false:=by rw[<- hdec];simp[I]
     rw[o]at h;exact ab (aj (aj (aj h)))
 ·rintro ⟨r1,r2⟩ C ⟨hr,rfl,B,q,g,c,hz,hx',hy',hdec,hlen⟩
  simp only at hr;subst hr;refine aj ?_;let o:(xs.size == ys.size)=decide (x=y):=by
   rw[<- hdec,<- hlen];cases hx' with
   |nil=>
    cases hy' with|nil=>simp|cons _ _=>simp
   |cons _ _=>
    cases hy' with|nil=>simp|cons _ _=>simp at hz
  show P (.done (.ret (.bool (xs.size == ys.size)))) C;rw[o];exact h
def X9{Q:Bool->aq->Prop}(hu:A.units+1 < cN)(g:fE prog w s.heap x a)(l:fE prog w s.heap y b)(h:Q (decide (x=y)) s):aH (aY prog w) A (eqBool (.ref a) (.ref b)) Q E s:=by
 unfold eqBool
 try with_reducible refine cw ?_
 show aH _ _ (if (bG a == bG b)=true then _ else _) Q E s;by_cases c:(bG a == bG b)=true
 ·rw[aJ c];let e:a=b:=by have:=eq_of_beq c;injection this
  subst e;obtain rfl:=g.inj l;exact ab (iE (aj (by simpa using h)))
 ·rw[az c];exact ab (vK (op:=.Eq) g.typeIs l.typeIs pi
   (cA pi g.typeIs F.entry_tuple_eq (Ur (by exact hu) g l ⟨_,rfl,nofun,fR h⟩) (F.args_tuple_eq_2 _ _)) ())
def TM{n:Nat}{Q:Bool->aq->Prop}(l:DQ (qX prog w) s.heap ks a)(h:Q true s):aH (aY prog w) A (rb (n+1) (.ref a)) Q E s:=by
 let q:=l.typeIs;let⟨o,items,n,B,_,hd,C⟩:=l;unfold rb;refine ab (kY q pi.lookup ?_)
 show aH _ _ (DR (.ref a) (.type "tuple") >>= _) _ _ s;refine ab (eL q qh ?_);simp only[eU,aR,if_false];refine ab (dh B hd ?_);refine ab ?_
 show aH _ _ (forIn items _ _) _ _ s;rw[<- kz];refine ml _ (λrest r c=>r.1=none/\c=s/\∀v∈rest,carriedByValue v=true) _ ?_ ?_ _ _ ⟨rfl,rfl,C.byValue⟩
 ·rintro v rest r c ⟨hr,rfl,hall⟩
  rw[Ev _ (hall v cD)];refine ab (aj ?_);simp only[eU,aR,if_false];exact aj ⟨rfl,rfl,λu g=>hall u (bF _ g)⟩
 ·rintro ⟨r1,r2⟩ c ⟨hr,rfl,_⟩
  simp only at hr;subst hr;exact aj h
def Qdj{n:Nat}{Q:Bool->aq->Prop}(c:xy prog w s.heap k v)(h:Q true s):aH (aY prog w) A (rb (n+1) v) Q E s:=by
 cases c with|one i t=>rw[Ev _ (show carriedByValue (kF i t)=true from rfl)];exact aj h|row c=>exact TM c h
def Vm{Q:Bool->aq->Prop}(g:fE prog w s.heap ks a)(h:Q true s):aH (aY prog w) A (rb 8 (.ref a)) Q E s:=by
 let l:=g.typeIs;let⟨o,items,n,q,_,hd,u⟩:=g;unfold rb;refine ab (kY l pi.lookup ?_)
 show aH _ _ (DR (.ref a) (.type "tuple") >>= _) _ _ s;refine ab (eL l qh ?_);simp only[eU,aR,if_false];refine ab (dh q hd ?_);refine ab ?_
 show aH _ _ (forIn items _ _) _ _ s;rw[<- kz];refine ml _ (λrest r c=>r.1=none/\c=s/\∃left,oY prog w s.heap left rest) _ ?_ ?_ _ _ ⟨rfl,rfl,ks,u⟩
 ·rintro v rest r c ⟨hr,rfl,left,hall⟩
  cases hall with|cons h1 hl=>
   refine ab (Qdj (n:=6) h1 ?_);simp only[eU,aR,if_false];exact aj ⟨rfl,rfl,_,hl⟩
 ·rintro ⟨r1,r2⟩ c ⟨hr,rfl,_⟩
  simp only at hr;subst hr;exact aj h
end
def vf(prog:Program)(w:bR):pc prog w (List KI) where
 is:=fE prog w
 hash:=pY
 draws:=λks=>kj ks+1
 room:=λA=>A.units+1 < cN
 inj:=λg c=>g.inj c
 keeps:=λx q hd o=>x.keeps q hd o
 pyHash:=λhu l h=>Qdf hu l h
 eqBool:=λhu g c h=>X9 hu g c h
 quiet:=λl h=>Vm l h
end MM
namespace MM
open PySem PyProof.Rows
noncomputable def sV(h:bN)(d:ak)(n:Nat):Prop:=∃o es,h.get? d=some o/\o.data=.dict es n
section
variable{prog:Program}{w:bR}{K:Type}[DecidableEq K]{knd:pc prog w K}{A:bM}{s:aq}{k:K}{xs:List (K×ak×ah)}
def RT{Q:Unit->aq->Prop}(hu:knd.room A)(l:knd.is s.heap k a)(hm:s.heap.DictOfH knd d xs)(hp:sV s.heap d xs.length)(hsz:xs.length<=sizeLine)(h:∀h',h'.DictOfH knd d (mC xs k a v)->sV h' d (mC xs k a v).length->cX d s.heap h'->Q Unit.unit { s with heap:=h',toks:=s.toks+knd.draws k }):aH (aY prog w) A (Ew d (.ref a) v) Q E s:=by
 let⟨o,es,ep,g,hc,hd,L,B,I⟩:=id hm;let⟨o',es',C,O⟩:=hp;rw[g]at C;cases C;rw[hd]at O;cases O;unfold Ew;refine cw (ab (knd.pyHash hu l ?_));unfold dictSetHashed;refine cw (ab (rG (s:={ s with toks:=s.toks+knd.draws k }) hu l g hd L B I (λH=>?_) λj p J=>?_))
 ·let G:k∉xs.map (·.1):=BR H;let e0:=Ey H;let u:=storedH_new (a:=a) (v:=v) e0;let o:=iL L;refine ab (iE (Bi (hz:=by ext) (s:={ s with toks:=s.toks+knd.draws k }) g hd
   (h _ ⟨_,_,_,cY _ g (ib (ff hd _)),hc.mapDictKeys _,ff hd _,?_,?_,?_⟩ ?_ (cM ..))))
  ·rw[u];simp[L,pE]
  ·rw[u];intro x c;rcases aO.mp c with c|c
   ·exact knd.keeps (B x c) g hd (cM ..)
   ·cases aI.mp c;exact knd.keeps l g hd (cM ..)
  ·rw[u,bC,c9];refine⟨I,by simp,λx c y U=>?_⟩;cases aI.mp U;exact λe=>G ((show x=k from e) ▸ c)
  ·rw[u,aB];exact⟨_,_,cY _ g (ib (ff hd _)),ff hd _⟩
 ·let e0:=tE I J;let u:=storedH_old e0 a v;let G:j < es.size:=by rw[iL L];exact (ae.mp J).1
  let Y:(es.modify j λe=>{ hash:=e.hash,key:=e.key,val:=v }).toList=(xs.map (uR k v)).map (pE knd):=by
   apply fq;intro i;rw[fF,Array.getElem?_modify,au,au];let o:es[i]?=(xs[i]?).map (pE knd):=by rw[<- fF,L,au]
   rw[o];by_cases z:j=i
   ·subst z;rw[aJ rfl,J];simp[uR,pE]
   ·rw[az z];cases c:xs[i]? with|none=>rfl|some x=>
     let l:x.1≠k:=λq=>by
      let E:(xs.map (·.1))[i]?=some k:=by rw[au,c,<- q];rfl
      let C:(xs.map (·.1))[j]?=some k:=by rw[au,J];rfl
      exact z ((fu (by rw[ag];exact (ae.mp J).1) I).mp (C.trans E.symm))
     simp[uR,l]
  refine ab (iE (ab (wpAny_updateDict (s:={ s with toks:=s.toks+knd.draws k }) g hd (wpAny_point
   (h _ ⟨_,_,_,cY _ g (ib (n9 hd _)),hc.mapDict _,n9 hd _,?_,?_,?_⟩ ?_ (cM ..))))))
  ·rw[u];exact Y
  ·rw[u];intro x c;let⟨y,U,e⟩:=bQ.mp c;let q:=knd.keeps (B y U) g hd (cM s.heap d (Obj.mapDict λx=>x.modify j λe=>{ hash:=e.hash,key:=e.key,val:=v }));rw[<- e];unfold uR;split
   ·exact q
   ·exact q
  ·rw[u,kZ];have:(xs.map ((λx=>x.1)∘uR k v))=xs.map (·.1):=dP λx _=>by show (uR k v x).1=x.1;unfold uR;split<;>rfl
   rw[this];exact I
  ·rw[u,ag];exact⟨_,_,cY _ g (ib (n9 hd _)),n9 hd _⟩
def V5{Q:Unit->aq->Prop}(hu:knd.room A.in1)(c:knd.is s.heap k a)(g:s.heap.DictOfH knd d xs)(l:sV s.heap d xs.length)(hsz:xs.length<=sizeLine)(h:∀h',h'.DictOfH knd d (mC xs k a v)->sV h' d (mC xs k a v).length->cX d s.heap h'->Q Unit.unit { s with heap:=h',toks:=s.toks+knd.draws k }):aH (aY prog w) A (pG (.ref d) (.ref a) v) Q E s:=by
 let T:=g.typeIs;unfold pG;refine cw (ab (Et T (by decide) (ab (bX T Ag (cA Ag T F.entry_dict_setitem ?_ (F.args_dict_setitem_3 _ _ _))))));unfold Builtin.«dict.__setitem__»;refine ab (gF T ?_);rw[az (by simp)]
 show aH _ _ (Ew d (.ref a) v >>= _) _ _ s;refine ab (RT hu c g l hsz λh' u q o=>aj ⟨_,rfl,aj (h h' u q o)⟩)
end
end MM
namespace MM
open PySem
inductive D where
 |non|bl (b:Bool)|int (i:Int)|str (x:Str)|tup (ds:List D)|lit (ds:List D)|ref (n:Nat)|dic (n:Nat)|exn (x:Str) (ds:List D)|fn (n:Nat)
inductive lF where
 |lam (e:xO)|dfn (s:Ik)
inductive MO where
 |lst (ds:List D)|dct (b:Bool) (ar:List (D×D))|lam (e:xO)|tbl (x w:Str)|dcf (ar:List (D×D))|clo (c:lF) (vs:List D)|ded
noncomputable abbrev aV:=List MO
noncomputable abbrev TK:=D
inductive Rs(α:Type) where
 |ok (a:α) (s:aV)|exc (x:TK) (s:aV)|bad
def M(α:Type):=aV->Rs α
section
variable{α β:Type}
noncomputable def ret(a:α):M α:=λs=>.ok a s
noncomputable def bnd(m:M α)(f:α->M β):M β:=λs=>match m s with| .ok a s'=>f a s'| .exc x s'=>.exc x s'| .bad=>.bad
noncomputable def bad:M α:=λ_=>.bad
@[irreducible] def chk(c:Prop)[Decidable c](m:M α):M α:=if c then m else bad
end
noncomputable abbrev Loc:=List (Option D)
abbrev CE:=Loc->M D
abbrev CT:=Loc->M Bool
abbrev CA:=Loc->M (List D)
inductive vk where
 |next (l:Loc)|ret (d:D)|brk (l:Loc)|cnt (l:Loc)
abbrev CS:=Loc->M vk
noncomputable def fK:Nat:=2^24
noncomputable def alloc(o:MO):M D:=λs=>.ok (.ref s.length) (s++[o])
def getL(n:Nat):M (List D):=λs=>match s[n]? with|some (.lst ds)=>.ok ds s|_=>.bad
def putL(n:Nat)(ds:List D):M Unit:=λs=>match s[n]? with|some (.lst _)=>.ok Unit.unit (s.set n (.lst ds))|_=>.bad
def getDc(n:Nat):M (Bool×List (D×D)):=λs=>match s[n]? with|some (.dct b ar)=>.ok (b,ar) s|_=>.bad
def tP(n:Nat)(b:Bool)(g:List (D×D)):M Unit:=λs=>match s[n]? with|some (.dct c _)=>if b=c then .ok Unit.unit (s.set n (.dct b g)) else .bad|_=>.bad
mutual
noncomputable def kr:D->D->Bool
 | .int i,.int j=>decide (i=j)| .str x,.str y=>decide (x=y)| .tup xs,.tup ys=>iC xs ys|_,_=>false
noncomputable def iC:List D->List D->Bool
 |[],[]=>true|x::xs,y::ys=>kr x y&&iC xs ys|_,_=>false
end
noncomputable def kI:List D->Option (List Int)
 |[]=>some []| .int i::ds=>(kI ds).map (i::·)|_=>none
def kJ:List D->Option (List (Int ⊕ List Int))
 |[]=>some []
 | .tup xs::ds=>match kI xs,kJ ds with|some r,some rs=>some (.inr r::rs)|_,_=>none
 | .int i::ds=>(kJ ds).map (.inl i::·)|_=>none
def stK:D->Option (List (Int ⊕ List Int))
 | .tup ds=>kJ ds|_=>none
def om:Bool->D->Bool
 |false,.int _=>true|false,.str _=>true|true,d=>(stK d).isSome|_,_=>false
def m_(c:List (D×D))(k:D):Option D:=(c.find? λp=>kr p.1 k).map (·.2)
def nJ(c:List (D×D))(k v:D):List (D×D):=if (c.any λp=>kr p.1 k)=true then c.map λp=>if kr p.1 k=true then (p.1,v) else p else c++[(k,v)]
def wO(c more:List (D×D)):List (D×D):=more.foldl (λg p=>nJ g p.1 p.2) c
def itemK(n:Nat)(k:D):M D:=bnd (getDc n) λp=>chk (om p.1 k=true) (match m_ p.2 k with
 |some d=>ret d
 |none=>bad)
def storeK(n:Nat)(k v:D):M Unit:=bnd (getDc n) λp=>chk (om p.1 k=true/\p.2.length < fK) (tP n p.1 (nJ p.2 k v))
def hasK(n:Nat)(k:D):M Bool:=bnd (getDc n) λp=>chk (om p.1 k=true) (ret (m_ p.2 k).isSome)
def Bw:D->M (List D)
 | .tup ds=>ret ds| .lit ds=>ret ds| .ref n=>getL n|_=>bad
noncomputable def oz(n:Nat)(i:Int):Option Nat:=if 0<=i then (if i < n then some i.toNat else none) else (if -(n:Int)<=i then some (i+n).toNat else none)
def fX:D->D->M D
 | .int i,.int j=>ret (.int (i+j))| .str x,.str y=>chk (x.length+y.length<=fK) (ret (.str (x++y)))| .tup x,.tup y=>chk (x.length+y.length<=fK) (ret (.tup (x++y)))| .ref a,.ref b=>bnd (getL a) λx=>bnd (getL b) λy=>chk (x.length+y.length<=fK) (alloc (.lst (x++y)))|_,_=>bad
def uk(f:Int->Int->M D):D->D->M D
 | .int i,.int j=>f i j|_,_=>bad
def zB(f:Int->Int->M D)(d e:D):(∃i j,d=.int i/\e=.int j)\/uk f d e=bad:=by
 cases d<;>first|exact .inr rfl|skip
 cases e<;>first|exact .inr rfl|exact .inl ⟨_,_,rfl,rfl⟩
def vg:D->D->M D:=uk λi j=>ret (.int (i-j))
noncomputable def qQ(i j:Int):Prop:=(-(2^64) < i/\i < 2^64)\/(-(2^64) < j/\j < 2^64)
instance(i j:Int):Decidable (qQ i j):=by unfold qQ;infer_instance
def tf:D->D->M D:=uk λi j=>chk (qQ i j) (ret (.int (i*j)))
def tX:D->D->M D:=uk λi j=>chk (0 < j/\j < 1073741824) (ret (.int (i / j)))
def o0:D->D->M D:=uk λi j=>chk (0 < j) (ret (.int (i % j)))
def yY:D->D->M D:=uk λi j=>chk (0<=j/\j<=1000000/\i.natAbs < 2^64) (ret (.int (i^j.toNat)))
def s_:D->M D
 | .int i=>ret (.int (-i))|_=>bad
def Di(p:Int->Int->Bool):D->D->M D:=uk λi j=>ret (.bl (p i j))
def By:=Di λi j=>decide (i < j)
def vQ:=Di λi j=>decide (j < i)
def C0:=Di λi j=>decide (j<=i)
noncomputable def mE(f:D->D->Option Bool):List D->List D->Option Bool
 |[],[]=>some true
 |x::xs,y::ys=>match f x y with|some true=>mE f xs ys|some false=>(mE f xs ys).map λ_=>false|none=>none
 |_::_,[]=>some false|[],_::_=>some false
noncomputable def Jg(g:List D->List D->Option Bool):D->D->Option Bool
 | .non,.non=>some true| .non,.int _=>some false| .non,.tup _=>some false| .bl a,.bl b=>some (a == b)| .int _,.non=>some false| .int a,.int b=>some (a == b)| .int _,.tup _=>some false| .str a,.str b=>some (a == b)| .tup _,.non=>some false| .tup _,.int _=>some false| .tup xs,.tup ys=>g xs ys|_,_=>none
def uL:Nat->D->D->Option Bool
 |0,d,e=>Jg (λ_ _=>none) d e|n+1,d,e=>Jg (mE (uL n)) d e
def Ju(d e:D):M Bool:=match d,e with
 |d,e=>match uL 50 d e with|some r=>ret r|none=>bad
def oo(d e:D):M D:=bnd (Ju d e) λb=>ret (.bl b)
def B_(d e:D):M D:=bnd (Ju d e) λb=>ret (.bl !b)
def Gx:D->M D
 | .non=>ret (.bl true)|_=>ret (.bl false)
def GL:D->M D
 | .non=>ret (.bl false)|_=>ret (.bl true)
def cL(ds:List D)(i:Int):M D:=match oz ds.length i with
 |some k=>match ds[k]? with|some d=>ret d|none=>bad
 |none=>bad
def aZ:D->D->M D
 | .tup ds,.int i=>cL ds i| .lit ds,.int i=>cL ds i| .ref n,.int i=>bnd (getL n) λds=>cL ds i| .dic n,k=>itemK n k
 | .str x,.int i=>chk (x.length<=fK) (match oz x.length i with
  |some k=>match x.cps.toList[k]? with|some c=>ret (.str ⟨#[c]⟩)|none=>bad
  |none=>bad)
 |_,_=>bad
def A6:D->M Bool
 | .non=>ret false| .bl b=>ret b| .int i=>ret (i != 0)| .str x=>chk (x.length<=fK) (ret ((x.length:Int) != 0))| .tup ds=>ret (!ds.isEmpty)| .lit ds=>ret (!ds.isEmpty)| .ref n=>bnd (getL n) λds=>ret (!ds.isEmpty)| .dic _=>bad| .exn _ _=>bad| .fn _=>bad
def ao(i:Nat):CE:=λl=>match l[i]? with|some (some d)=>ret d|_=>bad
def aQ(d:D):CE:=λ_=>ret d
def c1(g:D->M D)(a:CE):CE:=λl=>bnd (a l) g
def c2(g:D->D->M D)(a b:CE):CE:=λl=>bnd (a l) λx=>bnd (b l) λy=>g x y
def bn:CA:=λ_=>ret []
def aw(a:CE)(r:CA):CA:=λl=>bnd (a l) λx=>bnd (r l) λxs=>ret (x::xs)
def eE(a:CA):CE:=λl=>bnd (a l) λxs=>chk (xs.length<=fK) (ret (.tup xs))
def KC(f g:D->D->M D)(a b c:CE):CE:=λl=>bnd (a l) λx=>bnd (b l) λy=>bnd (f x y) λz=>match z with| .bl true=>bnd (c l) λw=>g y w| .bl false=>ret (.bl false)|_=>bad
def ve(a b:CE):CE:=λl=>bnd (a l) λx=>match x with| .bl true=>b l| .bl false=>ret (.bl false)|_=>bad
def D2(a b:CE):CE:=λl=>bnd (a l) λx=>match x with| .bl true=>ret (.bl true)| .bl false=>b l|_=>bad
def cNot(a:CE):CE:=λl=>bnd (a l) λx=>match x with| .bl b=>ret (.bl !b)|_=>bad
def xi(t:CT)(a b:CE):CE:=λl=>bnd (t l) λc=>if c=true then a l else b l
def bO(g:List D->M D)(a:CA):CE:=λl=>bnd (a l) g
def sC(a:CE):CT:=λl=>bnd (a l) A6
def cV(a:CE):CT:=λl=>bnd (a l) λx=>match x with| .bl b=>ret b|_=>bad
def oG(a b:CT):CT:=λl=>bnd (a l) λc=>if c=true then b l else ret false
def sk(a b:CT):CT:=λl=>bnd (a l) λc=>if c=true then ret true else b l
def sH(a:CT):CT:=λl=>bnd (a l) λc=>ret !c
structure Wk where
 ds:List D
 same:aV->Prop
abbrev CI:=Loc->M Wk
open Classical in
def chkS(p:aV->Prop):M Unit:=λs=>if p s then .ok Unit.unit s else .bad
noncomputable def eS:aV->Prop:=λ_=>True
noncomputable def fW(n:Nat)(ds:List D):aV->Prop:=λs=>s[n]?=some (.lst ds)
def iV(a:CE):CI:=λl=>bnd (a l) λx=>match x with| .tup ds=>ret ⟨ds,eS⟩| .lit ds=>ret ⟨ds,eS⟩| .ref n=>bnd (getL n) λds=>ret ⟨ds,fW n ds⟩|_=>bad
noncomputable def i9(lo:Int)(n:Nat):List D:=(b_ n).map λk=>.int (lo+(k:Nat))
def gw(a:CE):CI:=λl=>bnd (a l) λx=>match x with| .int j=>chk (-(2^62)<=j/\j < 2^62) (ret ⟨i9 0 j.toNat,eS⟩)|_=>bad
def oB(a b:CE):CI:=λl=>bnd (a l) λx=>bnd (b l) λy=>match x,y with| .int i,.int j=>chk ((-(2^62)<=i/\i < 2^62)/\(-(2^62)<=j/\j < 2^62)) (ret ⟨i9 i (j-i).toNat,eS⟩)|_,_=>bad
def zl(a:CA):CI:=λl=>bnd (a l) λds=>ret ⟨ds,eS⟩
def vn(a:CE):CI:=λl=>bnd (a l) λx=>match x with| .tup ds=>ret ⟨(i9 0 ds.length).zipWith (λi d=>.tup [i,d]) ds,eS⟩|_=>bad
abbrev CG:=D->Loc->M Loc
def aS(i:Nat):CG:=λd l=>ret (l.set i (some d))
def gD:List D->Loc->M Loc
 |[],l=>ret l|_,_=>bad
def cC(g:CG)(r:List D->Loc->M Loc):List D->Loc->M Loc
 |d::ds,l=>bnd (g d l) λc=>r ds c|_,_=>bad
def gq(n:Nat)(r:List D->Loc->M Loc):CG:=λd l=>match d with| .tup ds=>chk (ds.length=n) (r ds l)|_=>bad
noncomputable def ii(n:Nat)(caps:List Nat)(l:Loc):Loc:=bw n none++caps.map λi=>(l[i]?).join
def collect(g:CG)(t:CT)(e:CE)(same:aV->Prop):List D->Loc->M (List D)
 |[],_=>bnd (chkS same) λ_=>ret []|d::ds,l=>bnd (chkS same) λ_=>bnd (g d l) λc=>bnd (t c) λb=>if b=true then bnd (e c) λx=>bnd (collect g t e same ds c) λxs=>ret (x::xs) else collect g t e same ds c
def dR(n:Nat)(caps:List Nat)(i:CI)(g:CG)(t:CT)(e:CE):CA:=λl=>bnd (i l) λw=>chk (w.ds.length<=fK) (collect g t e w.same w.ds (ii n caps l))
noncomputable def iy(n d:Nat):Option Int->Nat
 |none=>d|some v=>if v < 0 then (v+(n:Int)).toNat else min v.toNat n
def cutD(xs:List D)(lo c:Option Int):List D:=(xs.drop (iy xs.length 0 lo)).take (iy xs.length xs.length c-iy xs.length 0 lo)
abbrev CO:=Loc->M (Option Int)
def vh:CO:=λ_=>ret none
def qU(a:CE):CO:=λl=>bnd (a l) λx=>match x with| .int i=>ret (some i)|_=>bad
def sB(a:CE)(lo c:CO):CA:=λl=>bnd (a l) λx=>bnd (lo l) λi=>bnd (c l) λj=>match x with| .lit ds=>ret (cutD ds i j)| .ref n=>bnd (getL n) λds=>ret (cutD ds i j)|_=>bad
def oO(a:CE)(lo c:CO):CE:=λl=>bnd (a l) λx=>bnd (lo l) λi=>bnd (c l) λj=>match x with| .tup ds=>chk (¬(iy ds.length 0 i=0/\iy ds.length ds.length j=ds.length)) (ret (.tup (cutD ds i j)))|_=>bad
def bZ:CT:=λ_=>ret true
def eK(a:CA):CE:=λl=>bnd (a l) λds=>alloc (.lst ds)
def gh(a:CA):CA:=λl=>bnd (a l) λxs=>chk (xs.length<=fK) (ret xs)
def nI(a:CA)(b:CE):CE:=λl=>bnd (a l) λds=>bnd (b l) λi=>match i with| .int k=>cL ds k|_=>bad
def i_(g:List D->M D)(a:CA):CE:=λl=>bnd (a l) g
def aW:CS:=λl=>ret (.next l)
def aP(a b:CS):CS:=λl=>bnd (a l) λf=>match f with| .next l'=>b l'|f=>ret f
def b8(g:CG)(a:CE):CS:=λl=>bnd (a l) λd=>bnd (g d l) λc=>ret (.next c)
def dQ(a:CE):CS:=λl=>bnd (a l) λd=>ret (.ret d)
def kq(a:CE):CS:=λl=>bnd (a l) λ_=>ret (.next l)
def m9(t:CT)(a b:CS):CS:=λl=>bnd (t l) λc=>if c=true then a l else b l
def CM:CS:=λ_=>bad
def pz(g:CG)(b:CS)(same:aV->Prop):List D->CS
 |[],l=>bnd (chkS same) λ_=>ret (.next l)
 |d::ds,l=>bnd (chkS same) λ_=>bnd (g d l) λc=>bnd (b c) λf=>match f with| .next l2=>pz g b same ds l2| .cnt l2=>pz g b same ds l2| .brk l2=>ret (.next l2)| .ret d=>ret (.ret d)
def lE(i:CI)(g:CG)(b:CS):CS:=λl=>bnd (i l) λw=>pz g b w.same w.ds l
def yW:vk->M D
 | .ret d=>ret d| .next _=>ret .non|_=>bad
def bW(n:Nat)(c:CS)(ds:List D):M D:=bnd (c (ds.map some++bw (n-ds.length) none)) yW
def kL(o i v:D):M Unit:=match o,i with
 | .ref n,.int k=>bnd (getL n) λds=>match oz ds.length k with|some j=>putL n (ds.set j v)|none=>bad
 | .dic n,k=>storeK n k v|_,_=>bad
def kW(o i:CE):CG:=λv l=>bnd (o l) λy=>bnd (i l) λz=>bnd (kL y z v) λ_=>ret l
def gI:D->M D
 | .tup ds=>ret (.int ds.length)| .lit ds=>ret (.int ds.length)| .ref n=>bnd (getL n) λds=>ret (.int ds.length)| .str x=>chk (x.length<=fK) (ret (.int x.length))| .dic n=>bnd (getDc n) λp=>ret (.int p.2.length)|_=>bad
def wF(n:Nat)(v:D):M D:=bnd (getL n) λds=>chk (ds.length < fK) (bnd (putL n (ds++[v])) λ_=>ret .non)
def eM(a b:CE):CE:=λl=>bnd (a l) λx=>match x with| .ref n=>bnd (b l) λv=>wF n v|_=>bad
def intD:D->M D
 | .int i=>ret (.int i)| .bl b=>ret (.int (if b then 1 else 0))|_=>bad
def tupleD:D->M D
 | .tup ds=>ret (.tup ds)| .lit ds=>ret (.tup ds)| .ref n=>bnd (getL n) λds=>ret (.tup ds)|_=>bad
noncomputable def lQ:List D->Option (List Int)
 |[]=>some []| .int i::ds=>(lQ ds).map (i::·)|_=>none
noncomputable def i7:List D->Option (List Bool)
 |[]=>some []| .bl b::ds=>(i7 ds).map (b::·)|_=>none
def oD(ds:List D):M D:=match lQ ds with|some (n::ns)=>ret (.int (ns.foldl max n))|_=>bad
def xz(ds:List D):M D:=match i7 ds with|some bs=>ret (.bl (bs.all id))|_=>bad
def xA(ds:List D):M D:=match i7 ds with|some bs=>ret (.bl (bs.any id))|_=>bad
def lU(ds:List D):M D:=ret (.tup ds)
def tj:D->D->M D
 | .bl a,.bl b=>ret (.bl (a == b))|x,.non=>Gx x|_,_=>bad
def ng:D->D->M D
 | .bl a,.bl b=>ret (.bl !(a == b))|x,.non=>GL x|_,_=>bad
noncomputable def lD:D->Bool
 | .non=>true| .bl _=>true| .int _=>true| .str _=>true|_=>false
noncomputable def sY:D->D->Bool
 | .non,.non=>true| .bl a,.bl b=>a == b| .bl a,.int b=>(if a then 1 else 0) == b| .int a,.bl b=>a == (if b then 1 else 0)| .int a,.int b=>a == b| .str a,.str b=>a == b|_,_=>false
def yA(x:D)(ds:List D):M D:=chk (lD x=true/\ds.all lD=true) (ret (.bl (ds.any λd=>sY d x)))
def zF(x:D)(ds:List D):M D:=chk (lD x=true/\ds.all lD=true) (ret (.bl !(ds.any λd=>sY d x)))
def D8(x y:D):M D:=match y with| .dic n=>bnd (hasK n x) λb=>ret (.bl b)|y=>bnd (Bw y) (yA x)
def r_(x y:D):M D:=match y with| .dic n=>bnd (hasK n x) λb=>ret (.bl !b)|y=>bnd (Bw y) (zF x)
noncomputable def ul(b:Bool)(c:List (D×D)):M D:=λs=>.ok (.dic s.length) (s++[.dct b c])
def so(b:Bool):CE:=λ_=>ul b []
def pC(g:D->List D->M D)(a:CE)(b:CA):CE:=λl=>bnd (a l) λx=>bnd (b l) λds=>g x ds
def wH:D->D->M D:=uk λi j=>ret (.int (min i j))
def uZ(a:CE):CE:=λl=>bnd (a l) λx=>match x with
 | .ref n=>bnd (getL n) λds=>match ds.getLast? with|some d=>bnd (putL n ds.dropLast) λ_=>ret d|none=>bad
 |_=>bad
def u5(a:CE):CA:=λl=>bnd (a l) λx=>match x with| .ref n=>getL n |> λm=>bnd m λds=>ret ds.reverse|_=>bad
def fM(t:CT)(b:CS):Nat->CS
 |0=>λ_=>bad
 |n+1 => λl => bnd (t l) λc => if c = true then bnd (b l) λf => match f with| .next l2=>fM t b n l2| .cnt l2=>fM t b n l2| .brk l2=>ret (.next l2)| .ret d=>ret (.ret d) else ret (.next l)
open Classical in
def lj(t:CT)(b:CS):CS:=λl s=>if h:∃n,(∀r,fM t b n l s=r->r≠.bad) then fM t b (choose h) l s else .bad
end MM
namespace MM
open PySem PySem.Spec PyProof.Rows L2
abbrev St:=L2.St
def zY(K:ai)(H:Hp)(a:ak)(xs:List V):Prop:=
 (∃o,H a=some (.frz o (.lst xs))) \/
  ∃(o:Obj)(its:Array ah)(n:Nat),K.lookup a=some o/\o.cls=.type "list"/\o.dict=none/\o.data=.seq its n/\its.size<=sizeLine/\cj xs its.toList
def zY.seq{K:ai}(h:zY K H a xs):io K H a xs:=by
 rcases h with ⟨o,h⟩|h
 ·exact .inl (.inr ⟨o,h⟩)
 ·exact .inr h
noncomputable def kO:HO->Nat
 | .lst _=>0| .dK _=>1| .ext _=>2| .tbl _=>4|_=>3
abbrev NK:=List KI
def nH(k:NK):Int:=pY k
def CP(x:NK×ak×ah):lB:=⟨nH x.1,.ref x.2.1,x.2.2⟩
def Tu(a:ak)(es:List (NK×ak×V))(h:bN):Prop:=es.length<=sizeLine/\(a == cJ)=false/\∃xs:List (NK×ak×ah),fw (λ(p:NK×ak×V)(q:NK×ak×ah)=>p.1=q.1/\p.2.1=q.2.1/\RelV p.2.2 q.2.2) es xs /\
 ∃o c ep,h.get? a=some o/\o.ExactDict/\o.data=.dict c ep/\c.toList=xs.map CP/\(xs.map (·.1)).Nodup/\ep=xs.length
def mh(a:ak)(es:List (NK×ak×V)):HO:=.ext (Tu a es)
def Xg(a:ak)(es:List (NK×ak×V))(h:bN):Prop:=es.length<=sizeLine/\(a == cJ)=false/\∃xs:List (NK×ak×ah),fw (λ(p:NK×ak×V)(q:NK×ak×ah)=>p.1=q.1/\p.2.1=q.2.1/\RelV p.2.2 q.2.2) es xs /\
 ∃o c ep,h.get? a=some o/\o.ExactDict/\o.data=.dict c ep/\c.toList=xs.map CP/\(xs.map (·.1)).Nodup
def OD(a:ak)(es:List (NK×ak×V)):HO:=.ext (Xg a es)
noncomputable def GD(r:List Int):D:=.tup (r.map .int)
def gJ:KI->D
 | .inl i=>.int i| .inr r=>GD r
def rM(k:NK):D:=.tup (k.map gJ)
def pW:Key->D
 | .inl i=>.int i| .inr x=>.str x
noncomputable def Gh(x:Str)(c:Array ah):Prop:=x=aD "NoText"\/c[2]?=some cK
mutual
inductive dD(K:ai)(ρ:List ak)(H:Hp):V->D->Prop
 |non:dD K ρ H .non .non|bl (b:Bool):dD K ρ H (.bl b) (.bl b)|int (i:Int):dD K ρ H (.int i) (.int i)|str (x:Str):dD K ρ H (.str x) (.str x)|tup {a:ak}{vs:List V}{ds:List D} (h:mU K H a vs) (r:bV K ρ H vs ds):dD K ρ H (.ref a) (.tup ds)|lit {a:ak}{vs:List V}{ds:List D} (h:zY K H a vs) (r:bV K ρ H vs ds):dD K ρ H (.ref a) (.lit ds)|ref {a:ak}{n:Nat} (k:∃o,H a=some o/\kO o=0) (h:ρ[n]?=some a):dD K ρ H (.ref a) (.ref n)|dic {a:ak}{n:Nat} (k:∃o,H a=some o/\(kO o=1\/kO o=2)) (h:ρ[n]?=some a):dD K ρ H (.ref a) (.dic n)|exn0 {a C:ak}{x:Str} (g:gz K cW x=some (some (.ref C))) (h:∃o,H a=some (.frz o (.own a))/\o.cls=.ref C):dD K ρ H (.ref a) (.exn x [])|exn {a C dx:ak}{x f:Str}{v:V}{d:D} (g:gz K cW x=some (some (.ref C))) (h:∃o,H a=some (.frz o (.own a))/\o.cls=.ref C/\o.dict=some dx/\∃vs,o.data=.fields vs/\Gh x vs) (h2:H dx=some (.xd [(f,v)])) (r:dD K ρ H v d):dD K ρ H (.ref a) (.exn x [.str f,d])|fn {a:ak}{n:Nat} (h:ρ[n]?=some a):dD K ρ H (.ref a) (.fn n)
inductive bV(K:ai)(ρ:List ak)(H:Hp):List V->List D->Prop
 |nil:bV K ρ H [] []|cons {v:V}{d:D}{vs:List V}{ds:List D} (r:dD K ρ H v d) (t:bV K ρ H vs ds):bV K ρ H (v::vs) (d::ds)
end
def Kg(K:ai)(ρ:List ak)(H:Hp)(v:V):D->Prop
 | .non=>v=.non| .bl b=>v=.bl b| .int i=>v=.int i| .str x=>v=.str x| .tup ds=>∃a c,v=.ref a/\mU K H a c/\bV K ρ H c ds| .lit ds=>∃a c,v=.ref a/\zY K H a c/\bV K ρ H c ds| .ref n=>∃a,v=.ref a/\(∃o,H a=some o/\kO o=0)/\ρ[n]?=some a| .dic n=>∃a,v=.ref a/\(∃o,H a=some o/\(kO o=1\/kO o=2))/\ρ[n]?=some a| .fn n=>∃a,v=.ref a/\ρ[n]?=some a|_=>True
def dD.inv{K:ai}(r:dD K ρ H v d):Kg K ρ H v d:=by
 cases r with|non=>rfl|bl=>rfl|int=>rfl|str=>rfl|tup h q=>exact⟨_,_,rfl,h,q⟩|lit h q=>exact⟨_,_,rfl,h,q⟩|ref k h=>exact⟨_,rfl,k,h⟩|dic k h=>exact⟨_,rfl,k,h⟩|exn0=>trivial|exn=>trivial|fn h=>exact⟨_,rfl,h⟩
noncomputable def pT(H:Hp)(c:ak)(q:Str):Prop:=∃g h t,H c=some (.frz g (.frz g (.own c)))/\g.data=.fields h/\h[1]?=some (.str q t)
def ET(H:Hp)(a:ak)(e:Expr):Prop:=∃ps b sc p q c g ct,e=.Lambda ps b sc p/\H a=some (.frz (yG "<lambda>" q ps b sc [] g c ct) (.own a))/\pT H c q
noncomputable def TabOf(K:ai)(x:Str)(a:ak):Prop:=∃f o g c,gz K cW x=some (some (.ref f))/\K.lookup f=some o/\o.data=.func g/\g.code=.ref c/\eZ K c a=true
noncomputable def xm(x w:Str):Str:=x++".<locals>."++w
def JE(K:ai)(H:Hp)(a:ak)(x w:Str):Prop:=TabOf K x a/\∃ps,H a=some (.tbl ps)/\pd ps.toList/\∀p v,mn p ps.toList=some v->∃c,v=.ref c/\pT H c (xm x w)
def tR(K:ai)(ρ:List ak)(H:Hp)(p:Str×ak)(d:D):Prop:=∃o u v,H p.2=some (.frz o (.frz o (.own p.2)))/\o.data=.cell (some u)/\RelV v u/\dD K ρ H v d
noncomputable def Dg(c:lF)(l:dq)(q:Str)(o:ak)(cl:List (Str×ak)):Prop:=match c with| .lam e=>∃ps b sc p h ct,e=.Lambda ps b sc p/\l=oJ "<lambda>" q ps b sc cl h (.ref o) ct| .dfn st=>∃nm ps g ds rt u sc ts B p v h ct,st=.FunctionDef nm ps g ds rt u sc ts B p/\l=rf nm q ps g sc cl .none .none v h none (.ref o) ct
noncomputable def oX(names:List (Str×dL)):List Str:=((names.filter λy=>y.2 == .free).map (·.1)).reverse
def Ki(K:ai)(ρ:List ak)(H:Hp)(a:ak)(c:lF)(l:List D):Prop:=∃o g q h cl,H a=some (.frz o (.own a))/\o.data=.func g/\Dg c g q h cl/\pT H h q/\((cl.map (·.2)).Nodup/\cl.map (·.1)=oX g.scope.names)/\fw (tR K ρ H) cl l
def og(K:ai)(ρ:List ak)(H:Hp)(a:ak):MO->Prop
 | .lst ds=>∃g,H a=some (.lst g)/\bV K ρ H g ds| .dct false ar=>∃es,H a=some (.dK es)/\fw (λ(p:Key×V)(q:D×D)=>pW p.1=q.1/\dD K ρ H p.2 q.2) es ar| .lam e=>ET H a e| .tbl x w=>JE K H a x w| .clo c g=>Ki K ρ H a c g| .ded=>∃o,H a=some (.frz o (.own a))| .dcf ar=>∃es,H a=some (OD a es)/\fw (λ(p:NK×ak×V)(q:D×D)=>rM p.1=q.1/\dD K ρ H (.ref p.2.1) q.1/\dD K ρ H p.2.2 q.2) es ar| .dct true ar=>∃es,H a=some (mh a es)/\fw (λ(p:NK×ak×V)(q:D×D)=>rM p.1=q.1/\dD K ρ H (.ref p.2.1) q.1/\dD K ρ H p.2.2 q.2) es ar
structure SR(K:ai)(ρ:List ak)(H:Hp)(st:aV):Prop where
 len:ρ.length=st.length
 nd:ρ.Nodup
 ob:∀(n:Nat)(a:ak)(o:MO),ρ[n]?=some a->st[n]?=some o->og K ρ H a o
noncomputable def LR(K:ai)(ρ:List ak)(H:Hp)(σ:St)(l:Loc):Prop:=
 σ.length=l.length/\∀(i:Nat)(d:D),l[i]?=some (some d)->∃v,σ[i]?=some (some v)/\dD K ρ H v d
structure Ex(ρ:List ak)(H:Hp)(ρ':List ak)(H':Hp):Prop where
 pre:∃τ,ρ'=ρ++τ/\∀a∈τ,H a=none
 fix:∀a o,kO o=3->H a=some o->H' a=some o
 oth:∀a o,a∉ρ->H a=some o->H' a=some o
 knd:∀a o,H a=some o->∃o',H' a=some o'/\kO o'=kO o
structure Up(ρ:List ak)(H:Hp)(ρ':List ak)(H':Hp):Prop where
 pre:∃τ,ρ'=ρ++τ
 fix:∀a o,kO o=3->H a=some o->H' a=some o
 knd:∀a o,H a=some o->∃o',H' a=some o'/\kO o'=kO o
section
variable{K:ai}{H H1 H2:Hp}{st a7:aV}
theorem Ex.lst(x:Ex ρ H ρ1 H1)(a:ak)(xs:List V)(c:a∉ρ)(h:H a=some (.lst xs)):H1 a=some (.lst xs):=x.oth a _ c h
def Ex.trk(x:Ex ρ H ρ1 H1)(a:ak)(o:HO)(h:H a=some o):H1 a≠none:=by let⟨o',e,_⟩:=x.knd a o h;rw[e];exact λz=>nomatch z
def Ex.up(x:Ex ρ H ρ1 H1):Up ρ H ρ1 H1:=⟨let ⟨τ,e,_⟩:=x.pre;⟨τ,e⟩,x.fix,x.knd⟩
def Up.grow:Up ρ H (ρ++τ) H:=⟨⟨τ,rfl⟩,λ_ _ _ e=>e,λ_ o e=>⟨o,e,rfl⟩⟩
def Ex.refl:Ex ρ H ρ H:=⟨⟨[],by simp,by simp⟩,λ_ _ _ e=>e,λ_ _ _ e=>e,λ_ o e=>⟨o,e,rfl⟩⟩
theorem Ex.trans(x:Ex ρ H ρ1 H1)(y:Ex ρ1 H1 ρ2 H2):Ex ρ H ρ2 H2:=by
 let⟨τ1,rfl,l⟩:=x.pre;let⟨τ2,rfl,G⟩:=y.pre;refine⟨⟨τ1++τ2,by simp,λa c=>?_⟩,λa o g e=>y.fix a o g (x.fix a o g e),λa o h e=>?_,λa o e=>?_⟩
 ·rcases aO.mp c with c|c
  ·exact l a c
  ·cases q:H a with|none=>rfl|some o=>exact bo (G a c) (x.trk a o q)
 ·refine y.oth a o (λz=>?_) (x.oth a o h e);rcases aO.mp z with z|z
  ·exact h z
  ·rw[l a z]at e;cases e
 ·let⟨B,J,E⟩:=x.knd a o e;let⟨u,I,C⟩:=y.knd a B J;exact⟨u,I,C.trans E⟩
def Ex.new(h:H a=none):Ex ρ H ρ (fT H a o):=
 ⟨⟨[],by simp,by simp⟩,λb u _ e=>by rw[gB (oZ e h)];exact e,λb u _ e=>by rw[gB (oZ e h)];exact e,
  λb u e=>⟨u,by rw[gB (oZ e h)];exact e,rfl⟩⟩
def Ex.newO(h:H a=none):Ex ρ H (ρ++[a]) (fT H a o):=
 ⟨⟨[a],rfl,λb c=>by rw[aI]at c;rw[c];exact h⟩,(Ex.new (ρ:=ρ) h).fix,(Ex.new (ρ:=ρ) h).oth,(Ex.new (ρ:=ρ) h).knd⟩
def Ex.newL(h:H a=none):Ex ρ H (ρ++[a]) (fT H a (.lst vs)):=Ex.newO h
def mU.mono(x:Up ρ H ρ1 H1)(h:mU K H a vs):mU K H1 a vs:=by
 rcases h with h|h
 ·rcases h with h|⟨o,h⟩
  ·exact .inl (.inl (x.fix a _ rfl h))
  ·exact .inl (.inr ⟨o,x.fix a _ rfl h⟩)
 ·exact .inr h
def zY.mono(x:Up ρ H ρ1 H1)(h:zY K H a vs):zY K H1 a vs:=by
 rcases h with ⟨o,h⟩|h
 ·exact .inl ⟨o,x.fix a _ rfl h⟩
 ·exact .inr h
def xl{α:Type}{l τ:List α}{n:Nat}{a:α}(h:l[n]?=some a):(l++τ)[n]?=some a:=by rw[av (ae.mp h).1];exact h
mutual
theorem dD.up(x:Up ρ H ρ1 H1):∀{v:V}{d:D},dD K ρ H v d->dD K ρ1 H1 v d
 |_,_,.non=>.non|_,_,.bl b=>.bl b|_,_,.int i=>.int i|_,_,.str y=>.str y|_,_,.tup h r=>.tup (mU.mono x h) (bV.up x r)|_,_,.lit h r=>.lit (zY.mono x h) (bV.up x r)|_,_,.ref ⟨o,ho,hk⟩ h=>by let⟨τ,e⟩:=x.pre;let⟨o',c,l⟩:=x.knd _ o ho;exact .ref ⟨o',c,l.trans hk⟩ (by rw[e];exact xl h)|_,_,.dic ⟨o,ho,hk⟩ h=>by let⟨τ,e⟩:=x.pre;let⟨o',c,l⟩:=x.knd _ o ho;exact .dic ⟨o',c,by rw[l];exact hk⟩ (by rw[e];exact xl h)|_,_,.fn h=>by let⟨τ,e⟩:=x.pre;exact .fn (by rw[e];exact xl h)|_,_,.exn0 g ⟨o,ho,hc⟩=>.exn0 g ⟨o,x.fix _ _ rfl ho,hc⟩|_,_,.exn g ⟨o,ho,hc⟩ h2 r=>.exn g ⟨o,x.fix _ _ rfl ho,hc⟩ (x.fix _ _ rfl h2) (dD.up x r)
theorem bV.up(x:Up ρ H ρ1 H1):∀{vs:List V}{ds:List D},bV K ρ H vs ds->bV K ρ1 H1 vs ds
 |_,_,.nil=>.nil|_,_,.cons r t=>.cons (dD.up x r) (bV.up x t)
end
def dD.mono(r:dD K ρ H v d)(x:Ex ρ H ρ1 H1):dD K ρ1 H1 v d:=r.up x.up
def bV.mono(r:bV K ρ H vs ds)(x:Ex ρ H ρ1 H1):bV K ρ1 H1 vs ds:=r.up x.up
theorem bV.length:∀{vs:List V}{ds:List D},bV K ρ H vs ds->vs.length=ds.length
 |_,_,.nil=>rfl|_,_,.cons _ t=>by simp[bV.length t]
theorem bV.get:∀{vs:List V}{ds:List D}{i:Nat}{d:D},bV K ρ H vs ds->ds[i]?=some d->∃v,vs[i]?=some v/\dD K ρ H v d
 |_,_,_,_,.nil,e=>by simp at e|_,_,0,_,.cons r _,e=>by simp at e;subst e;exact⟨_,rfl,r⟩|_,_,i+1,_,.cons _ t,e=>by let⟨v,g,c⟩:=bV.get (i:=i) t (by simpa using e);exact⟨v,by simpa using g,c⟩
theorem bV.app:∀{vs ws:List V}{ds es:List D},bV K ρ H vs ds->bV K ρ H ws es->bV K ρ H (vs++ws) (ds++es)
 |_,_,_,_,.nil,s=>s|_,_,_,_,.cons r t,s=>.cons r (bV.app t s)
theorem bV.set:∀{vs:List V}{ds:List D}{v:V}{d:D}(i:Nat),bV K ρ H vs ds->dD K ρ H v d->bV K ρ H (vs.set i v) (ds.set i d)
 |_,_,_,_,_,.nil,_=>.nil|_,_,_,_,0,.cons _ t,r=>.cons r t|_,_,_,_,i+1,.cons q t,r=>.cons q (bV.set i t r)
theorem bV.take:∀{vs:List V}{ds:List D}(n:Nat),bV K ρ H vs ds->bV K ρ H (vs.take n) (ds.take n)
 |_,_,0,_=>.nil|_,_,_+1,.nil=>.nil|_,_,n+1,.cons r t=>.cons r (bV.take n t)
theorem bV.drop:∀{vs:List V}{ds:List D}(n:Nat),bV K ρ H vs ds->bV K ρ H (vs.drop n) (ds.drop n)
 |_,_,0,r=>r|_,_,_+1,.nil=>.nil|_,_,n+1,.cons _ t=>bV.drop n t
theorem LR.mono(x:Ex ρ H ρ1 H1)(h:LR K ρ H σ l):LR K ρ1 H1 σ l:=
 ⟨h.1,λi d e=>let ⟨v,e1,r⟩:=h.2 i d e;⟨v,e1,r.mono x⟩⟩
def SR.at(s:SR K ρ H st){n:Nat}(e:st[n]?=some o):∃a,ρ[n]?=some a/\og K ρ H a o:=by
 let c:n < ρ.length:=by rw[s.len];exact (ae.mp e).1
 let q:ρ[n]?=some ρ[n]:=af c;exact⟨_,q,s.ob n _ o q e⟩
def SR.seq(s:SR K ρ H st){n:Nat}(e:st[n]?=some (.lst ds)):∃a vs,ρ[n]?=some a/\H a=some (.lst vs)/\bV K ρ H vs ds:=by let⟨a,h,vs,q,r⟩:=s.at e;exact⟨a,vs,h,q,r⟩
def og.ex(h:og K ρ H a o):∃u,H a=some u:=by
 cases o with|lam e=>let⟨_,_,_,_,_,_,_,_,_,q,_⟩:=h;exact⟨_,q⟩|tbl x w=>let⟨_,_,q,_⟩:=h;exact⟨_,q⟩|dcf ar=>let⟨_,q,_⟩:=h;exact⟨_,q⟩|clo c vs=>let⟨_,_,_,_,_,q,_⟩:=h;exact⟨_,q⟩|ded=>let⟨_,q⟩:=h;exact⟨_,q⟩|lst ds=>let⟨vs,q,_⟩:=h;exact⟨_,q⟩|dct b ar=>cases b<;>(let⟨vs,q,_⟩:=h;exact⟨_,q⟩)
def SR.fresh(s:SR K ρ H st)(h:H a=none):a∉ρ:=λz=>by
 let⟨n,c⟩:=gG z;let g:n < st.length:=by rw[<- s.len];exact (ae.mp c).1
 let⟨u,q⟩:=og.ex (s.ob n a _ c (af g));rw[h]at q;cases q
def T8{n:Nat}(h:getL n st=.ok xs c):c=st/\st[n]?=some (.lst xs):=by
 unfold getL at h;cases e:st[n]? with|none=>rw[e]at h;cases h|some o=>
  rw[e]at h;cases o with|lst ds=>cases h;exact⟨rfl,rfl⟩|_=>cases h
theorem fw.mapS{α β:Type}{F G:α->β->Prop}:∀{l₁:List α}{l₂:List β},fw F l₁ l₂->(∀a b,F a b->G a b)->fw G l₁ l₂
 |_,_,.nil,_=>.nil|_,_,.cons r t,f=>.cons (f _ _ r) (fw.mapS t f)
def pT.up(x:Up ρ H ρ1 H1)(h:pT H c q):pT H1 c q:=let ⟨oc,vs,t,e,r⟩:=h;⟨oc,vs,t,x.fix _ _ rfl e,r⟩
theorem tR.up(x:Up ρ H ρ1 H1)(h:tR K ρ H p d):tR K ρ1 H1 p d:=let ⟨o,u,v,e1,e2,e3,r⟩:=h;⟨o,u,v,x.fix _ _ rfl e1,e2,e3,r.up x⟩
def og.mono(x:Up ρ H ρ1 H1)(h:og K ρ H a o)(g:∀u,H a=some u->H1 a=some u):og K ρ1 H1 a o:=by
 cases o with
 |lam e=>
  let⟨ps,b,sc,p,q,c,E,ct,C,B,l⟩:=h;exact⟨ps,b,sc,p,q,c,E,ct,C,g _ B,l.up x⟩
 |tbl y w=>
  let⟨t,ps,C,B,l⟩:=h;exact⟨t,ps,g _ C,B,λp v z=>let ⟨c,a,b⟩:=l p v z;⟨c,a,b.up x⟩⟩
 |clo c vs=>
  let⟨o,G,q,O,cl,C,B,l,L,J,I⟩:=h;exact⟨o,G,q,O,cl,g _ C,B,l,L.up x,J,fw.mapS I λ_ _ z=>z.up x⟩
 |ded=>let⟨u,e⟩:=h;exact⟨u,g _ e⟩|dcf ar=>
  let⟨es,q,r⟩:=h;exact⟨es,g _ q,fw.mapS r λp q z=>⟨z.1,z.2.1.up x,z.2.2.up x⟩⟩
 |lst ds=>
  let⟨vs,q,r⟩:=h;exact⟨vs,g _ q,r.up x⟩
 |dct b ar=>
  cases b with
  |false=>
   let⟨es,q,r⟩:=h;exact⟨es,g _ q,fw.mapS r λp q z=>⟨z.1,z.2.up x⟩⟩
  |true=>
   let⟨es,q,r⟩:=h;exact⟨es,g _ q,fw.mapS r λp q z=>⟨z.1,z.2.1.up x,z.2.2.up x⟩⟩
theorem SR.new(s:SR K ρ H st)(h:H a=none):SR K ρ (fT H a o) st:=
 ⟨s.len,s.nd,λn b c l g=>og.mono (o:=c) (Ex.new (ρ:=ρ) h).up (s.ob n b c l g) λvs q=>by rw[gB (oZ q h)];exact q⟩
def SR.keepO(s:SR K ρ H st)(B:a∉ρ)(r:og K ρ H a o'):SR K (ρ++[a]) H (st++[o']):=by
 let u:=s.len;let old:∀(n:Nat)(b:ak),(ρ++[a])[n]?=some b->(n < ρ.length/\ρ[n]?=some b)\/(n=ρ.length/\b=a):=λn b e=>by
  by_cases c:n < ρ.length
  ·rw[av c]at e;exact .inl ⟨c,e⟩
  ·rw[aM ()]at e;let hz:n - ρ.length=0:=by
    cases q:n - ρ.length with|zero=>rfl|succ k=>rw[q]at e;simp at e
   rw[hz]at e;simp at e;exact .inr ⟨by ext,e.symm⟩
 refine⟨by simp[u],c9.mpr ⟨s.nd,by simp,λx C y l=>?_⟩,λn b o E g=>?_⟩
 ·rw[aI]at l;subst l;exact λz=>B (z ▸ C)
 ·rcases old n b E with ⟨c,h⟩|⟨c,h⟩
  ·rw[av ()]at g;exact og.mono (o:=o) Up.grow (s.ob n b o h g) λ_ q=>q
  ·subst h;have:o=o':=by rw[c,u,aM (ay _)]at g;simp at g;exact g.symm
   subst this;exact og.mono (o:=o) Up.grow r λ_ q=>q
def SR.keep(s:SR K ρ H st)(h:H a=some (.lst vs))(c:a∉ρ)(r:bV K ρ H vs ds):SR K (ρ++[a]) H (st++[.lst ds]):=s.keepO c ⟨vs,h,r⟩
def SR.putO(s:SR K ρ H st){n:Nat}(E:n < st.length)(h:ρ[n]?=some a)(hu:H a=some u)(C:kO u≠3)(G:kO u'=kO u)(r:og K ρ (fT H a u') a o'):SR K ρ (fT H a u') (st.set n o')/\Ex ρ H ρ (fT H a u'):=by
 let x:Ex ρ H ρ (fT H a u'):=by
  refine⟨⟨[],by simp,by simp⟩,λb o l q=>?_,λb xs B q=>?_,λb o q=>?_⟩
  ·have:b≠a:=λz=>by subst z;rw[hu]at q;cases q;exact C l
   rw[gB this];exact q
  ·have:b≠a:=λz=>by subst z;exact B (ax h)
   rw[gB this];exact q
  ·by_cases z:b=a
   ·subst z;rw[hu]at q;cases q;exact⟨u',lH,G⟩
   ·exact⟨o,by rw[gB z];exact q,rfl⟩
 refine⟨⟨by simp[s.len],s.nd,λm b o c g=>?_⟩,x⟩;by_cases z:m=n
 ·subst z;rw[h]at c;cases c;rw[aE E]at g;cases g;exact r
 ·rw[aA (fI z)]at g;refine og.mono (o:=o) x.up (s.ob m b o c g) λI q=>?_;have:b≠a:=λw=>by subst w;exact z ((fu (ae.mp c).1 s.nd).mp (c.trans h.symm))
  rw[gB this];exact q
def SR.put(s:SR K ρ H st){n:Nat}(h:n < st.length)(l:ρ[n]?=some a)(c:H a=some (.lst ws))(r:bV K ρ H vs ds):SR K ρ (fT H a (.lst vs)) (st.set n (.lst ds))/\Ex ρ H ρ (fT H a (.lst vs)):=by
 let u:Up ρ H ρ (fT H a (.lst vs)):=by
  refine⟨⟨[],by simp⟩,λb o g q=>?_,λb o q=>?_⟩
  ·have:b≠a:=λz=>by subst z;rw[c]at q;cases q;exact nomatch g
   rw[gB this];exact q
  ·by_cases z:b=a
   ·subst z;rw[c]at q;cases q;exact⟨_,lH,rfl⟩
   ·exact⟨o,by rw[gB z];exact q,rfl⟩
 exact s.putO h l c (by show (0:Nat)≠3;decide) rfl ⟨vs,lH,r.up u⟩
def QG(k:∃o,H a=some o/\kO o=0):∃vs,H a=some (.lst vs):=by
 let⟨o,e,c⟩:=k;cases o with|lst vs=>exact⟨vs,e⟩|_=>exact nomatch c
noncomputable def aU{α:Type}(K:ai)(ρ:List ak)(H:Hp)(r:Rs α)(R:α->aV->List ak->Hp->Prop):Prop:=match r with| .ok a st=>∀ρ' H',Ex ρ H ρ' H'->SR K ρ' H' st->R a st ρ' H'|_=>False
def aU.left{α:Type}{r:Rs α}{R:α->aV->List ak->Hp->Prop}(x:Ex ρ H ρ1 H1)(h:aU K ρ H r R):aU K ρ1 H1 r R:=by
 cases r with|ok a st=>exact λρ' c y s=>h ρ' c (x.trans y) s|exc _ _=>exact h|bad=>exact h
def aU.imp{α:Type}{r:Rs α}{R g:α->aV->List ak->Hp->Prop}(h:aU K ρ H r R)(f:∀a st ρ' c,Ex ρ H ρ' c->SR K ρ' c st->R a st ρ' c->g a st ρ' c):aU K ρ H r g:=by
 cases r with|ok a st=>exact λρ' c y s=>f a st ρ' c y s (h ρ' c y s)|exc _ _=>exact h|bad=>exact h
theorem aU.bnd{α β:Type}{m:M α}{f:α->M β}{R:β->aV->List ak->Hp->Prop}(h:aU K ρ H (bnd m f st) R):aU K ρ H (m st) λa c ρ' g=>aU K ρ' g (f a c) R:=by
 unfold MM.bnd at h;cases e:m st with
 |ok a s'=>
  rw[e]at h;exact λρ' g y s=>h.left y
 |exc _ _=>rw[e]at h;exact h|bad=>rw[e]at h;exact h
theorem aU.ret{α:Type}{a:α}{R:α->aV->List ak->Hp->Prop}(h:aU K ρ H (MM.ret a st) R)(s:SR K ρ H st):R a st ρ H:=h ρ H Ex.refl s
theorem aU.chk{α:Type}{c:Prop}[Decidable c]{m:M α}{R:α->aV->List ak->Hp->Prop}(h:aU K ρ H (MM.chk c m st) R):c/\aU K ρ H (m st) R:=by
 unfold MM.chk at h;by_cases g:c
 ·rw[aJ g]at h;exact⟨g,h⟩
 ·rw[az g]at h;exact h.elim
theorem aU.getL{n:Nat}(h:aU K ρ H (MM.getL n st) R)(s:SR K ρ H st):∃xs,st[n]?=some (.lst xs)/\R xs st ρ H:=by
 cases e:MM.getL n st with
 |ok xs s'=>
  let⟨rfl,q⟩:=T8 e;rw[e]at h;exact⟨xs,q,h ρ H Ex.refl s⟩
 |exc _ _=>rw[e]at h;exact h.elim|bad=>rw[e]at h;exact h.elim
def A1(K:ai)(f:CE):TE:=λσ H Q=>∃ρ l st,LR K ρ H σ l/\SR K ρ H st/\aU K ρ H (f l st) λd _ ρ' c=>∀v,dD K ρ' c v d->Q v c
def rD(K:ai)(f:CT):TT:=λσ H Q=>∃ρ l st,LR K ρ H σ l/\SR K ρ H st/\aU K ρ H (f l st) λb _ _ c=>Q b c
def Ly(K:ai)(f:CA):TA:=λσ H Q=>∃ρ l st,LR K ρ H σ l/\SR K ρ H st/\aU K ρ H (f l st) λds _ ρ' c=>∀vs,bV K ρ' c vs ds->Q vs c
def E1(K:ai)(f:CA):TE:=λσ H Q=>∃ρ l st,LR K ρ H σ l/\SR K ρ H st/\aU K ρ H (f l st) λds _ ρ' c=>∀a vs,H a=none->a∉ρ'->c a=some (.lst vs)->bV K ρ' c vs ds->Q (.ref a) c
def xo(K:ai)(c:CS):TS:=λG σ H=>∃ρ l st,LR K ρ H σ l/\SR K ρ H st/\aU K ρ H (c l st) λf _ ρ' g=>match f with| .next l'=>∀σ',LR K ρ' g σ' l'->G.nx σ' g| .ret d=>∀v,dD K ρ' g v d->G.rt v g| .brk l'=>∀σ',LR K ρ' g σ' l'->G.bk σ' g| .cnt l'=>∀σ',LR K ρ' g σ' l'->G.ct σ' g
def AJ(K:ai)(g:CG):TG:=λv σ H Q=>∃ρ l st d,LR K ρ H σ l/\SR K ρ H st/\dD K ρ H v d/\aU K ρ H (g d l st) λh _ ρ' c=>∀σ',LR K ρ' c σ' h->Q σ' c
def EN(K:ai)(g:List D->Loc->M Loc):Aw:=λvs σ H Q=>∃ρ l st ds,LR K ρ H σ l/\SR K ρ H st/\bV K ρ H vs ds/\aU K ρ H (g ds l st) λh _ ρ' c=>∀σ',LR K ρ' c σ' h->Q σ' c
def qz(K:ai)(g:D->D->M D):R2:=λx y H Q=>∃ρ st d e,SR K ρ H st/\dD K ρ H x d/\dD K ρ H y e/\aU K ρ H (g d e st) λr _ ρ' c=>∀v,dD K ρ' c v r->Q v c
def xY(K:ai)(g:D->M D):V->Hp->VK->Prop:=λx H Q=>∃ρ st d,SR K ρ H st/\dD K ρ H x d/\aU K ρ H (g d st) λr _ ρ' c=>∀v,dD K ρ' c v r->Q v c
def Vb(K:ai)(g:List D->M D):List V->Hp->VK->Prop:=λxs H Q=>∃ρ st ds,SR K ρ H st/\bV K ρ H xs ds/\aU K ρ H (g ds st) λr _ ρ' c=>∀v,dD K ρ' c v r->Q v c
def nh(K:ai)(n:Nat)(g:List D->M D):Sp:=λvs H Q _=>vs.length=n/\Vb K g vs H Q
end
section
variable{X:Cx}{a b c:Expr}{pos:Pos}
abbrev SE(X:Cx)(e:Expr)(f:CE):Prop:=PE X e (A1 X.K f)
abbrev SL(X:Cx)(e:Expr)(f:CA):Prop:=PE X e (E1 X.K f)
abbrev ST(X:Cx)(e:Expr)(f:CT):Prop:=PT X e (rD X.K f)
abbrev SA(X:Cx)(es:List Expr)(f:CA):Prop:=PA X es (Ly X.K f)
abbrev SS(X:Cx)(s:Stmt)(f:CS):Prop:=PS X s (xo X.K f)
abbrev xr(X:Cx)(s:List Stmt)(f:CS):Prop:=PSs X s (xo X.K f)
def _root_.L2.PE.of{t t':TE}(h:PE X e t)(f:∀σ H Q,t' σ H Q->t σ H Q):PE X e t':=λg s σ H Q I q=>h g s σ H Q I (f σ H Q q)
def _root_.L2.PT.of{t t':TT}(h:PT X e t)(f:∀σ H Q,t' σ H Q->t σ H Q):PT X e t':=λg s σ H Q I q=>h g s σ H Q I (f σ H Q q)
def _root_.L2.PA.of{t t':TA}(h:PA X e t)(f:∀σ H Q,t' σ H Q->t σ H Q):PA X e t':=λpos g s σ H Q I q=>h pos g s σ H Q I (f σ H Q q)
def _root_.L2.PS.of{t t':TS}(h:PS X e t)(f:∀D σ H,t' D σ H->t D σ H):PS X e t':=λg s σ H D I q=>h g s σ H D I (f D σ H q)
def _root_.L2.PSs.of{t t':TS}(h:PSs X e t)(f:∀D σ H,t' D σ H->t D σ H):PSs X e t':=λg s σ H D I q=>h g s σ H D I (f D σ H q)
def _root_.L2.PG.of{t t':TG}(h:PG X e t)(f:∀v σ H Q,t' v σ H Q->t v σ H Q):PG X e t':=λg s σ H v u Q I r q=>h g s σ H v u Q I r (f v σ H Q q)
def _root_.L2.PGs.of{t t':Aw}(h:PGs X e t)(f:∀v σ H Q,t' v σ H Q->t v σ H Q):PGs X e t':=λg s σ H v u Q I r q=>h g s σ H v u Q I r (f v σ H Q q)
def _root_.L2.OpR.of{r o:R2}(h:OpR X f r)(g:∀x y H Q,o x y H Q->r x y H Q):OpR X f o:=λl s σ H x y v u Q I C B q=>h l s σ H x y v u Q I C B (g x y H Q q)
def _root_.L2.CallR.of{r o:List V->Hp->VK->Prop}(h:CallR X f r)(g:∀x H Q,o x H Q->r x H Q):CallR X f o:=λl s σ H x u Q I v q=>h l s σ H x u Q I v (g x H Q q)
variable{fa fb fc:CE}
def Qdq(i:Nat)(h:PE X (.Name x pos) (zy i)):SE X (.Name x pos) (ao i):=h.of λσ H Q g=>by
 let⟨ρ,l,st,q,sr,p⟩:=g;unfold ao at p;cases e:l[i]? with|none=>rw[e]at p;exact p.elim|some o=>
  rw[e]at p;cases o with|none=>exact p.elim|some d=>
   let⟨v,u,r⟩:=q.2 i d e;exact⟨v,u,p.ret sr v r⟩
def Zz{i:Int}{j:Nat}:SE X (.Constant (.int i) j pos) (aQ (.int i)):=(Q_ (i:=i) (j:=j) (pos:=pos)).of λσ H Q g=>by let⟨ρ,l,st,h,sr,p⟩:=g;exact p.ret sr _ (.int i)
def VR{j:Nat}:SE X (.Constant (.bool i) j pos) (aQ (.bl i)):=(Ud (b:=i) (j:=j) (pos:=pos)).of λσ H Q g=>by let⟨ρ,l,st,h,sr,p⟩:=g;exact p.ret sr _ (.bl i)
def UN{j:Nat}:SE X (.Constant .none j pos) (aQ .non):=(VH (j:=j) (pos:=pos)).of λσ H Q g=>by let⟨ρ,l,st,h,sr,p⟩:=g;exact p.ret sr _ .non
def Qdu{j:Nat}:SE X (.Constant (.str i) j pos) (aQ (.str i)):=(Qaz (x:=i) (j:=j) (pos:=pos)).of λσ H Q g=>by let⟨ρ,l,st,h,sr,p⟩:=g;exact p.ret sr _ (.str i)
def IV{r:R2}(Y:∀x y H Q,qz X.K g x y H Q->r x y H Q):∀σ H Q,A1 X.K (c2 g fa fb) σ H Q->EI r (A1 X.K fa) (A1 X.K fb) σ H Q:=λσ H Q h=>
 by let⟨ρ,l,st,B,sr,p⟩:=h;exact⟨ρ,l,st,B,sr,p.bnd.imp λd q ρ1 H1 E I U v J=>⟨ρ1,l,q,B.mono E,I,U.bnd.imp λe o ρ2 c C G O u L=>Y _ _ _ _ ⟨ρ2,o,d,e,G,J.mono C,L,O⟩⟩⟩
def ZR(l:OpR X (fP op) (qz X.K g))(q:SE X a fa)(o:SE X b fb):SE X (.BinOp a op b pos) (c2 g fa fb):=
 (Wj l q o).of (IV λ_ _ _ _ h=>h)
def YH(l:OpR X (cS op) (qz X.K g))(u:SE X a fa)(q:SE X b fb)(o:ij op b=false):SE X (.Compare a [op] [b] pos) (c2 g fa fb):=
 (PB l u q o).of (IV λ_ _ _ _ h=>h)
end
def _root_.Exists.el{α β γ:Type}{A B C:α->β->γ->Prop}{G:Prop}(h:∃a b c,A a b c/\B a b c/\C a b c)(k:∀a b c,A a b c->B a b c->C a b c->G):G:=by let⟨ρ,l,st,a,b,c⟩:=h;exact k ρ l st a b c
def A1.el{K:ai}{C:Prop}(h:A1 K f σ H Q)(k:∀ρ l st,LR K ρ H σ l->SR K ρ H st->aU K ρ H (f l st) (λd _ ρ' g=>∀v,dD K ρ' g v d->Q v g)->C):C:=by let⟨ρ,l,st,a,b,c⟩:=h;exact k ρ l st a b c
def rD.el{K:ai}{C:Prop}(h:rD K f σ H Q)(k:∀ρ l st,LR K ρ H σ l->SR K ρ H st->aU K ρ H (f l st) (λb _ _ g=>Q b g)->C):C:=by let⟨ρ,l,st,a,b,c⟩:=h;exact k ρ l st a b c
theorem xo.el{K:ai}{c:CS}{σ:St}{H:Hp}{G:Ends}{C:Prop}(h:xo K c G σ H) (k:∀ρ l st,LR K ρ H σ l->SR K ρ H st->aU K ρ H (c l st) (λf _ ρ' g=>match f with
 | .next l'=>∀σ',LR K ρ' g σ' l'->G.nx σ' g| .ret d=>∀v,dD K ρ' g v d->G.rt v g| .brk l'=>∀σ',LR K ρ' g σ' l'->G.bk σ' g
 | .cnt l'=>∀σ',LR K ρ' g σ' l'->G.ct σ' g)->C):C:=by
 let⟨ρ,l,st,a,b,c⟩:=h;exact k ρ l st a b c
end MM
namespace MM
open PySem PySem.Spec PyProof.Rows L2
theorem RZ:∀(a b:List Int),iC (a.map .int) (b.map .int)=decide (a=b)
 |[],[]=>by simp[iC]|[],_::_=>by simp[iC]|_::_,[]=>by simp[iC]
 |x::xs,y::ys=>by
  rw[aT,aT]
  show (kr (.int x) (.int y)&&iC _ _)=_;rw[RZ xs ys]
  show (decide (x=y)&&_)=_;simp[lY]
theorem T5:∀(a b:KI),kr (gJ a) (gJ b)=decide (a=b)
 | .inl i,.inl j=>by
  show decide (i=j)=_;by_cases z:i=j
  ·subst z;simp
  ·rw[ba z,ba (λq=>z (by injection q))]
 | .inl i,.inr r=>by rw[ba (by simp)];rfl| .inr r,.inl i=>by rw[ba (by simp)];rfl
 | .inr r,.inr q=>by
  show iC (r.map .int) (q.map .int)=_;rw[RZ];by_cases z:r=q
  ·subst z;simp
  ·rw[ba z,ba (λq=>z (by injection q))]
theorem QO:∀(a b:List KI),iC (a.map gJ) (b.map gJ)=decide (a=b)
 |[],[]=>by simp[iC]|[],_::_=>by simp[iC]|_::_,[]=>by simp[iC]
 |x::xs,y::ys=>by
  rw[aT,aT]
  show (kr (gJ x) (gJ y)&&iC _ _)=_;rw[QO xs ys,T5];simp[lY]
def Ej(a b:NK):kr (rM a) (rM b)=decide (a=b):=QO a b
def KW(a b:Key):kr (pW a) (pW b)=decide (a=b):=by cases a<;>cases b<;>simp[pW,kr]
theorem PR:∀{ds:List D}{r:List Int},kI ds=some r->ds=r.map .int
 |[],r,h=>by simp[kI]at h;subst h;rfl
 |d::ds,r,h=>by
  cases d with
  |int i=>
   unfold kI at h;cases e:kI ds with|none=>rw[e]at h;cases h|some q=>
    rw[e]at h;cases h;rw[aT,PR e]
  |_=>cases h
theorem Mz:∀{ds:List D}{r:NK},kJ ds=some r->ds=r.map gJ
 |[],r,h=>by simp[kJ]at h;subst h;rfl
 |d::ds,r,h=>by
  cases d with
  |tup xs=>
   unfold kJ at h;cases e:kI xs with|none=>rw[e]at h;cases h|some q=>
    cases c:kJ ds with|none=>rw[e,c]at h;cases h|some q2=>
     rw[e,c]at h;cases h;rw[aT,<- Mz c]
     show _=D.tup (q.map .int)::ds;rw[<- PR e]
  |int i=>
   unfold kJ at h;cases c:kJ ds with|none=>rw[c]at h;cases h|some q2=>
    rw[c]at h;cases h;rw[aT,<- Mz c];rfl
  |_=>cases h
def WP(h:stK d=some r):d=rM r:=by
 cases d with|tup ds=>show D.tup ds=D.tup _;rw[Mz h]|_=>cases h
def B6(h:om true d=true):∃k,d=rM k:=by
 cases e:stK d with
 |none=>
  have:om true d=(stK d).isSome:=by cases d<;>rfl
  rw[this,e]at h;cases h
 |some k=>exact⟨k,WP e⟩
def IT(h:om false d=true):∃k,d=pW k:=by
 cases d with|int i=>exact⟨.inl i,rfl⟩|str x=>exact⟨.inr x,rfl⟩|_=>cases h
section
variable{X:Cx}{K:ai}{ρ:List ak}{H:Hp}{st:aV}{a b:ak}
def Ji(r:dD K ρ H v (pW k)):v=kV k:=by
 cases k with|inl i=>cases r;rfl|inr x=>cases r;rfl
abbrev KR(K:ai)(ρ:List ak)(H:Hp):List (Key×V)->List (D×D)->Prop:=fw λ(p:Key×V)(q:D×D)=>pW p.1=q.1/\dD K ρ H p.2 q.2
def RO(K:ai)(ρ:List ak)(H:Hp):Option V->Option D->Prop
 |some v,some d=>dD K ρ H v d|none,none=>True|_,_=>False
def RO.some_of(h:RO K ρ H o (some d)):∃v,o=some v/\dD K ρ H v d:=by
 cases o with|none=>exact h.elim|some v=>exact⟨v,rfl,h⟩
def RO.isSome_eq(h:RO K ρ H o d):o.isSome=d.isSome:=by cases o<;>cases d<;>first|rfl|exact h.elim
def KR.val(r:KR K ρ H es c)(k:Key):RO K ρ H (rj es k) (m_ c (pW k)):=by
 induction r with|nil=>exact gM|@cons p q ps qs h t ih=>
  let⟨l,g⟩:=h;unfold m_;rw[c8,<- l,KW];by_cases e:p.1=k
  ·rw[Iz e,bY e];exact g
  ·rw[Jh e,ba e];exact ih
theorem KR.any(r:KR K ρ H es c)(k:Key):(es.any λg=>decide (g.1=k))=c.any λp=>kr p.1 (pW k):=by
 induction r with|nil=>rfl|@cons p q ps qs h t ih=>rw[d6,d6,ih,<- h.1,KW]
def KR.put(r:KR K ρ H es c)(k:Key)(g:dD K ρ H v d):KR K ρ H (L2.nG es k v) (nJ c (pW k) d):=by
 unfold L2.nG nJ;rw[r.any k];by_cases e:(c.any λp=>kr p.1 (pW k))=true
 ·rw[aJ e,aJ e];clear e
  induction r with|nil=>exact .nil|@cons p q ps qs h t ih=>
   rw[aT,aT];refine .cons ?_ ih;rw[<- h.1,KW];by_cases e:p.1=k
   ·rw[aJ e,aJ (bY e)];exact⟨rfl,g⟩
   ·rw[az e,az (by rw[ba e];exact bD)];exact h
 ·rw[az e,az e];exact oQ r ⟨rfl,g⟩
theorem KR.up(x:Up ρ H ρ1 g)(r:KR K ρ H es c):KR K ρ1 g es c:=fw.mapS r λ_ _ z=>⟨z.1,z.2.up x⟩
theorem KR.length(r:KR K ρ H es c):es.length=c.length:=cZ r
abbrev NR(K:ai)(ρ:List ak)(H:Hp):List (NK×ak×V)->List (D×D)->Prop:=fw λ(p:NK×ak×V)(q:D×D)=>rM p.1=q.1/\dD K ρ H (.ref p.2.1) q.1/\dD K ρ H p.2.2 q.2
abbrev NX:List (NK×ak×V)->List (NK×ak×ah)->Prop:=fw λ(p:NK×ak×V)(q:NK×ak×ah)=>p.1=q.1/\p.2.1=q.2.1/\RelV p.2.2 q.2.2
abbrev yR(X:Cx):pc X.prog X.w NK:=vf X.prog X.w
theorem Qh:∀{r:List Int}{c:List V}{l:List ah},bV K ρ H c (r.map .int)->cj c l->ItemsAre (qX P w) r l
 |[],_,_,h,g=>by cases h;cases g;exact .nil
 |i::r,_,_,h,g=>by
  cases h with|cons h1 ht=>
   cases h1;cases g with|cons g1 gt=>
    let⟨t,e⟩:=g1;subst e;exact .cons (by show rP i (kF i t)=true;simp[rP]) (Qh ht gt)
def Uq(I:Inv X ac σ H s)(h:dD X.K ρ H v (GD r))(g:RelV v u):∃b,u=.ref b/\DQ (qX X.prog X.w) s.heap r b:=by
 cases h with|@tup b vs ds h q=>
  let e:u=bG b:=g;subst e;let⟨its,c,⟨o,C,B,n,l⟩,_⟩:=I.tuple h;exact⟨b,rfl,o,its.toArray,n,C,B,l,by simpa using Qh q c⟩
theorem QZ(I:Inv X ac σ H s):∀{k:NK}{c:List V}{l:List ah},bV X.K ρ H c (k.map gJ)->cj c l->oY X.prog X.w s.heap k l
 |[],_,_,h,g=>by cases h;cases g;exact .nil
 |r::k,_,_,h,g=>by
  cases h with|cons h1 ht=>
   cases g with|cons g1 gt=>
    refine .cons ?_ (QZ I ht gt);cases r with
    |inl i=>
     cases (show dD X.K ρ H _ (.int i) from h1);let⟨t,e⟩:=g1;subst e;exact .one i t
    |inr r=>
     let⟨b,e,o⟩:=Uq I h1 g1;subst e;exact .row o
def AW(I:Inv X ac σ H s)(h:dD X.K ρ H v (rM k))(g:RelV v u):∃b,v=.ref b/\u=.ref b/\(yR X).is s.heap k b:=by
 cases h with|@tup b vs ds h q=>
  let e:u=bG b:=g;subst e;let⟨its,c,⟨o,C,B,n,l⟩,_⟩:=I.tuple h;exact⟨b,rfl,rfl,o,its.toArray,n,C,B,l,by simpa using QZ I q c⟩
def x_(I:Inv X ac σ H s)(e:H a=some (mh a es))(r:NR X.K ρ H es c):es.length<=sizeLine/\(a == cJ)=false/\∃xs,NX es xs/\s.heap.DictOfH (yR X) a xs/\sV s.heap a xs.length:=by
 let⟨⟨z,y,xs,C,o,u,ep,B,J,v,G,E,U⟩,O,L⟩:=(show gP X.prog X.w H s.heap a (mh a es) from I.hok a _ e)
 subst U;refine⟨z,y,xs,C,⟨o,u,_,B,J,v,G,?_,E⟩,⟨o,u,B,v⟩⟩;clear B J v G E e z y O L
 induction C generalizing c with
 |nil=>intro x l;exact nomatch l
 |@cons p q ps qs h t ih=>
  cases r with|cons g gt=>
   intro x l;rcases aX.mp l with e|l
   ·subst e;let⟨b,Y,_,Q⟩:=AW I (by rw[g.1];exact g.2.1) (show RelV (.ref p.2.1) (.ref p.2.1) from rfl);cases Y;rw[<- h.1,<- h.2.1];exact Q
   ·exact ih gt x l
def E7{h':bN}{es:List (NK×ak×V)}(z:es.length<=sizeLine)(y:(a == cJ)=false)(r:NX es xs)(G:h'.DictOfH (vf P w) a xs)(E:sV h' a xs.length):gP P w I h' a (mh a es):=by
 let⟨o,c,ep,g,h,q,B,_,v⟩:=G;let⟨J,C,l,u⟩:=E;rw[g]at l;cases l;rw[q]at u;cases u;refine⟨⟨z,y,xs,r,o,c,_,g,h,q,B,v,rfl⟩,⟨o,g⟩,?_⟩
 rintro l g2 ⟨z,y,xs,r,o,c,ep,g,h⟩ k
 exact⟨z,y,xs,r,o,c,ep,k o g,h⟩
noncomputable def valN(es:List (NK×ak×V))(k:NK):Option V:=(es.find? λp=>decide (p.1=k)).map (·.2.2)
noncomputable def putN(es:List (NK×ak×V))(k:NK)(b:ak)(v:V):List (NK×ak×V):=if (es.any λp=>decide (p.1=k))=true then es.map (λp=>if p.1=k then (p.1,p.2.1,v) else p) else es++[(k,b,v)]
def NR.val(r:NR K ρ H es c)(k:NK):RO K ρ H (valN es k) (m_ c (rM k)):=by
 induction r with|nil=>exact gM|@cons p q ps qs h t ih=>
  let⟨l,_,g⟩:=h;unfold m_ valN;rw[c8,c8,<- l,Ej];by_cases e:p.1=k
  ·rw[bY e];exact g
  ·rw[ba e];exact ih
def NX.val(r:NX es xs)(k:NK):rC (valN es k) ((kR xs k).map (·.2)):=by
 induction r with|nil=>exact gM|@cons p q ps qs h t ih=>
  let⟨g,_,c⟩:=h;unfold kR valN;rw[c8,c8,<- g];by_cases e:p.1=k
  ·rw[bY e];exact c
  ·rw[ba e];exact ih
def NX.put(r:NX es xs)(k:NK)(b:ak)(c:RelV v u):NX (putN es k b v) (mC xs k b u):=by
 let e:(es.any λp=>decide (p.1=k))=(kR xs k).isSome:=by
  clear c
  induction r with|nil=>rfl|@cons p q ps qs h t ih=>
   rw[d6,ih];unfold kR;rw[c8,<- h.1];by_cases e:p.1=k
   ·rw[bY e];rfl
   ·rw[ba e];rfl
 unfold putN mC;rw[e];by_cases q:(kR xs k).isSome=true
 ·rw[aJ q,aJ q];clear q e
  induction r with|nil=>exact .nil|@cons p q ps qs h t ih=>
   rw[aT,aT];refine .cons ?_ ih;unfold uR;by_cases e:p.1=k
   ·rw[aJ e,aJ (h.1.symm.trans e)];exact⟨h.1,h.2.1,c⟩
   ·rw[az e,az (λz=>e (h.1.trans z))];exact h
 ·rw[az q,az q];exact oQ r ⟨rfl,rfl,c⟩
def NR.put(r:NR K ρ H es c)(k:NK)(b:ak)(l:dD K ρ H (.ref b) (rM k))(g:dD K ρ H v d):NR K ρ H (putN es k b v) (nJ c (rM k) d):=by
 let e:(es.any λp=>decide (p.1=k))=c.any λp=>kr p.1 (rM k):=by
  clear l g
  induction r with|nil=>rfl|@cons p q ps qs h t ih=>rw[d6,d6,ih,<- h.1,Ej]
 unfold putN nJ;rw[e];clear e;by_cases e:(c.any λp=>kr p.1 (rM k))=true
 ·rw[aJ e,aJ e];clear e
  induction r with|nil=>exact .nil|@cons p q ps qs h t ih=>
   rw[aT,aT];refine .cons ?_ ih;by_cases e:p.1=k
   ·let z:kr q.1 (rM k)=true:=by rw[<- h.1,Ej];exact bY e
    rw[aJ e,aJ z];exact⟨h.1,h.2.1,g⟩
   ·let z:¬ kr q.1 (rM k)=true:=by rw[<- h.1,Ej,ba e];exact bD
    rw[az e,az z];exact h
 ·rw[az e,az e];exact oQ r ⟨rfl,l,g⟩
theorem NR.up(x:Up ρ H ρ1 g)(r:NR K ρ H es c):NR K ρ1 g es c:=fw.mapS r λ_ _ z=>⟨z.1,z.2.1.up x,z.2.2.up x⟩
theorem NR.length(r:NR K ρ H es c):es.length=c.length:=cZ r
def L3(es:List (NK×ak×V))(k:NK)(b:ak)(v:V):(putN es k b v).length<=es.length+1:=by
 unfold putN;split
 ·rw[ag];ext
 ·rw[aB,bU,gC];ext
def Zn{n:Nat}(h:getDc n st=.ok p c):c=st/\st[n]?=some (.dct p.1 p.2):=by
 unfold getDc at h;cases e:st[n]? with|none=>rw[e]at h;cases h|some o=>
  rw[e]at h;cases o with|dct b ar=>cases h;exact⟨rfl,rfl⟩|_=>cases h
theorem aU.getDc{n:Nat}(h:aU K ρ H (MM.getDc n st) R)(s:SR K ρ H st):∃b c,st[n]?=some (.dct b c)/\R (b,c) st ρ H:=by
 cases e:MM.getDc n st with
 |ok xs s'=>
  let⟨rfl,q⟩:=Zn e;rw[e]at h;exact⟨xs.1,xs.2,q,h ρ H Ex.refl s⟩
 |exc _ _=>rw[e]at h;exact h.elim|bad=>rw[e]at h;exact h.elim
def QdR{b:Bool}{Q:ah->aq->Prop}{A:bM}(hu:A.units+2 < cN)(I:Inv X ac σ H s)(g:og X.K ρ H a (.dct b C))(Y:dD X.K ρ H y k)(hk:om b k=true)(hl:m_ C k=some d)(U:RelV y u)(h:∀v B G,Inv X ac σ H G->dD X.K ρ H v d->RelV v B->Q B G):aH (aY X.prog X.w) A (qZ (.ref a) u) Q E s:=by
 cases b with
 |false=>
  let⟨es,e,r⟩:=g;let⟨k,rfl⟩:=IT hk;cases Ji Y;let q:=KR.val r k;rw[hl]at q;let⟨v,O,J⟩:=q.some_of;exact WS () I (by have:=vD.k (k:=k) e;rw[O]at this;exact this) U λB G I' l=>h v B G I' J l
 |true=>
  let⟨es,e,r⟩:=g;let⟨k,rfl⟩:=B6 hk;let q:=NR.val r k;rw[hl]at q;let⟨v,O,J⟩:=q.some_of;let⟨_,hd,xs,rx,dd,de⟩:=x_ I e r;let⟨c,e2,e3,hc⟩:=AW I Y U;subst e3;let⟨B,hw,l⟩:=rC.some_of (v:=v) (o:=(kR xs k).map (·.2)) (by rw[<- O];exact NX.val rx k);let⟨p,hp,L⟩:=cG.mp hw;refine DP (knd:=yR X) (show A.in1.units+1 < cN from hu) hc dd hp ?_;rw[L];exact h v B _ (I.tok _) J l
def QdS{b:Bool}{Q:ah->aq->Prop}{A:bM}(hu:A.units+2 < cN)(I:Inv X ac σ H s)(g:og X.K ρ H a (.dct b l))(B:dD X.K ρ H y k)(C:om b k=true)(v:RelV y u)(h:∀o,Inv X ac σ H o->Q (.bool (m_ l k).isSome) o):aH (aY X.prog X.w) A (cS .In u (.ref a)) Q E s:=by
 cases b with
 |false=>
  let⟨es,e,r⟩:=g;let⟨k,rfl⟩:=IT C;cases Ji B;rw[<- (KR.val r k).isSome_eq]at h;exact J4 () I (vD.k (k:=k) e) v h
 |true=>
  let⟨es,e,r⟩:=g;let⟨k,rfl⟩:=B6 C;rw[<- (NR.val r k).isSome_eq]at h;let⟨_,hd,xs,G,O,Y⟩:=x_ I e r;let⟨c,U,L,J⟩:=AW I B v;subst L;refine wpAny_in_heap (knd:=yR X) (show A.in1.units+1 < cN from hu) J hd O ?_;let q:=(NX.val G k).isSome_eq;rw[kP]at q;rw[<- q];exact h _ (I.tok _)
def QdT{b:Bool}{Q:ah->aq->Prop}{A:bM}(hu:A.units+2 < cN)(I:Inv X ac σ H s)(g:og X.K ρ H a (.dct b l))(B:dD X.K ρ H y k)(C:om b k=true)(v:RelV y u)(h:∀o,Inv X ac σ H o->Q (.bool (!(m_ l k).isSome)) o):aH (aY X.prog X.w) A (cS .NotIn u (.ref a)) Q E s:=by
 cases b with
 |false=>
  let⟨es,e,r⟩:=g;let⟨k,rfl⟩:=IT C;cases Ji B;rw[<- (KR.val r k).isSome_eq]at h;exact XX () I (vD.k (k:=k) e) v h
 |true=>
  let⟨es,e,r⟩:=g;let⟨k,rfl⟩:=B6 C;rw[<- (NR.val r k).isSome_eq]at h;let⟨_,hd,xs,G,O,Y⟩:=x_ I e r;let⟨c,U,L,J⟩:=AW I B v;subst L;refine Ii (knd:=yR X) (show A.in1.units+1 < cN from hu) J hd O ?_;let q:=(NX.val G k).isSome_eq;rw[kP]at q;rw[<- q];exact h _ (I.tok _)
def VL{n:Nat}{b:Bool}{Q:Unit->aq->Prop}{A:bM}(hu:A.units+2 < cN)(I:Inv X ac σ H s)(sr:SR X.K ρ H st)(O:ρ[n]?=some a)(hn:st[n]?=some (.dct b l))(J:dD X.K ρ H y k) (hk:om b k=true) (hl:l.length < sizeLine) (rv:dD X.K ρ H v d) (ry:RelV y u) (rr:RelV v r')(h:∀Y G,Inv X ac σ Y G->SR X.K ρ Y (st.set n (.dct b (nJ l k d)))->Ex ρ H ρ Y->Q Unit.unit G):aH (aY X.prog X.w) A (pG (.ref a) u r') Q E s:=by
 let B:=(ae.mp hn).1;let g:=sr.ob n a _ O hn;cases b with
 |false=>
  let⟨es,e,r⟩:=g;let⟨k,rfl⟩:=IT hk;cases Ji J;let w:=sr.putO (o':=.dct false (nJ l (pW k) d)) (u':=.dK (L2.nG es k v)) B O e (by show (1:Nat)≠3;decide) rfl ⟨_,lH,(KR.put r k rv).up ?_⟩
  ·exact Qc3 () I (Av.k (k:=k) e (by rw[KR.length r];exact hl)) ry rr λG c=>h _ G c w.1 w.2
  ·refine⟨⟨[],by simp⟩,λc o L q=>?_,λc o q=>?_⟩
   ·rw[gB λz=>by subst z;rw[e]at q;cases q;exact nomatch L];exact q
   ·by_cases z:c=a
    ·subst z;rw[e]at q;cases q;exact⟨_,lH,rfl⟩
    ·exact⟨o,by rw[gB z];exact q,rfl⟩
 |true=>
  let⟨es,e,r⟩:=g;let⟨k,rfl⟩:=B6 hk;let⟨_,hd,xs,rx,dd,de⟩:=x_ I e r;let⟨c,e2,e3,hc⟩:=AW I J ry;subst e2 e3;let w:=sr.putO (o':=.dct true (nJ l (rM k) d)) (u':=mh a (putN es k c v)) B O e (by show (2:Nat)≠3;decide) rfl ⟨_,lH,(NR.put r k c J rv).up ?_⟩
  ·let hz : xs.length <= sizeLine := by rw[<- cZ rx,NR.length r];ext
   refine V5 (knd:=yR X) (show A.in1.units+1 < cN from hu) hc dd de hz λh' C U g=>h _ _ ?_ w.1 w.2;let l:∃q,h'.get? a=some q:=let ⟨q,_,_,hq,_⟩:=C;⟨q,hq⟩
   refine Eb I (by rw[e];exact gM) g l (E7 ?_ hd (NX.put rx k c rr) C U);have:=L3 es k c v;rw[NR.length r]at this;ext
  ·refine⟨⟨[],by simp⟩,λc o L q=>?_,λc o q=>?_⟩
   ·rw[gB λz=>by subst z;rw[e]at q;cases q;exact nomatch L];exact q
   ·by_cases z:c=a
    ·subst z;rw[e]at q;cases q;exact⟨_,lH,rfl⟩
    ·exact⟨o,by rw[gB z];exact q,rfl⟩
end
noncomputable abbrev AF:ah->aq->Prop:=λ_ _=>False
noncomputable def Bv(g:List Expr)(env:Env):Sem Bool:=forIn g true λc r=>if r=true then do let ok <- isTrue c env (eval c env);pure (nC ok) else pure (nC r)
section
variable{R:Result->aq->Prop}
def Yr{l c iter:Expr}{g:List Expr}{scope:dB}{pos:Pos}{u o:ah}{env:Env}(I:Nat->aq->Prop)(q:∀n s,I n s->aH (aY prog w) A (ip u) (λr s₁=>match r with
   |none=>R (.ok .next) s₁
   |some v => aH (aY prog w) A (pO c u v) (λ_ s₁' => aH (aY prog w) A (pF c env v) (λ_ s₂ =>
     aH (aY prog w) A (Bv g env) (λok s₃=>
      if ok=true then aH (aY prog w) A (eval l env) (λx s₄=>
       aH (aY prog w) A (call (.builtin "list.append") [o,x]) (λ_ s₅=>∃m,m < n/\I m s₅) AF s₄) AF s₃
      else ∃m,m < n/\I m s₃) AF s₂) AF s₁') AF s₁) AF s)
  (n:Nat) (h:I n s):ky (aY prog w) A (.compLoop (.ListComp l [⟨c,iter,g,0⟩] scope pos) 0 u o env) R s:=by
 refine codeAny_loop rfl I (λn s B=>?_) n h
 show aH _ A ((compTurn (.ListComp l [⟨c,iter,g,0⟩] scope pos) 0 u o env).onRaise (λx=>do noteFrame x env;theTreesLotGoes x)) _ _ s;refine wpAny_noted ?_;rw[compTurn_list];refine ab (xH (ab (fU (q n s B) (λr s₁ h₁=>?_) λ_ _ h'=>h'.elim)));cases r with|none=>exact aj h₁|some v=>
  refine ab (fU h₁ (λ_ s₁' h₁'=>?_) λ_ _ h'=>h'.elim);refine ab (fU h₁' (λ_ s₂ h₂=>ab (fU h₂ (λok s₃ h₃=>?_) λ_ _ h'=>h'.elim)) λ_ _ h'=>h'.elim);cases ok with|false=>exact aj ⟨rfl,h₃⟩|true=>
   exact ab (ab (fU h₃ (λx s₄ h₄=>ab (fU h₄ (λ_ s₅ h₅=>aj (aj ⟨rfl,h₅⟩)) λ_ _ h'=>h'.elim)) λ_ _ h'=>h'.elim))
end
noncomputable def i6:List (Str×dL)->List (Str×ak)->List (Str×ak)->List (Str×ak)
 |[],_,acc=>acc| (n,k)::r,cells,acc=>i6 r cells (if k == .free then (match cells.lookup n with|some c=>(n,c)::acc|none=>acc) else acc)
theorem LU{env:Env}: ∀(names:List (Str×dL))(acc:List (Str×ak)),(∀x,(x,bJ)∈names->∃c,env.cells.lookup x=some c) ->(forIn names acc λ(x:Str×dL)r=>if (x.2 == bJ)=true then (do let a <- cellOf env x.1;pure (nC ((x.1,a)::r)):Sem _) else pure (nC r))=(pure (i6 names env.cells acc):Sem _)
 |[],acc,_=>rfl
 | (n,k)::r,acc,h=>by
  rw[kA];by_cases l:(k == bJ)=true
  ·let e:k=.free:=by simpa using l
   subst e;let⟨c,o⟩:=h n cD;let q:cellOf env n=pure c:=by unfold cellOf;rw[o]
   simp only[beq_self_eq_true,if_true,q];unfold i6;simp only[beq_self_eq_true,if_true,o];exact LU r ((n,c)::acc) λx g=>h x (bF _ g)
  ·simp only[l,if_false];unfold i6;simp only[l,if_false];exact LU r acc λx g=>h x (bF _ g)
def JT{scope:dB}{env:Env}(h:∀x,(x,bJ)∈scope.names->∃c,env.cells.lookup x=some c):nQ scope env=pure (i6 scope.names env.cells []):=by let q:=LU (env:=env) scope.names [] h;simp only[nQ];exact cQ (λm=>m >>= λg=>pure g) q
def xn{α:Type}{v:α}{r:List (Str × α)}(h:x≠y):Il x ((y,v)::r)=r.lookup x:=by rw[lI];have:(x == y)=false:=beq_eq_false_iff_ne.mpr h;rw[this]
def lookup_cons_self{α:Type}{v:α}{r:List (Str × α)}:Il x ((x,v)::r)=some v:=by rw[lI,beq_self_eq_true]
theorem wL:∀(names:List (Str×dL))(acc:List (Str×ak)),(i6 names cells acc).lookup x=some c->cells.lookup x=some c\/acc.lookup x=some c
 |[],acc,h=>.inr h
 | (n,k)::r,acc,h=>by
  unfold i6 at h;rcases wL r _ h with q|q
  ·exact .inl q
  ·split at q
   ·split at q
    ·rename_i o l;by_cases g:x=n
     ·subst g;rw[lookup_cons_self]at q;cases q;exact .inl l
     ·rw[xn g]at q;exact .inr q
    ·exact .inr q
   ·exact .inr q
theorem Fq{cells:List (Str×ak)}(l:cells.lookup x=some c):∀(names:List (Str×dL))(acc:List (Str×ak)),((x,bJ)∈names\/acc.lookup x=some c)->(∀d,acc.lookup x=some d->d=c)->(i6 names cells acc).lookup x=some c
 |[],acc,h,_=>by
  rcases h with h|h
  ·cases h
  ·exact h
 | (n,k)::r,acc,h,ha=>by
  unfold i6;by_cases o:x=n
  ·subst o;by_cases q:(k == bJ)=true
   ·rw[aJ q,l];exact Fq l r _ (.inr lookup_cons_self) λd hd=>by rw[lookup_cons_self]at hd;cases hd;rfl
   ·rw[az q];refine Fq l r _ ?_ ha;rcases h with h|h
    ·rcases aX.mp h with e|e
     ·cases e;exact bo rfl q
     ·exact .inl e
    ·exact .inr h
  ·let step : ∀g, g.lookup x = acc.lookup x -> (i6 r cells g).lookup x = some c := λg e => by
     refine Fq l r g ?_ (by rw[e];exact ha);rcases h with h|h
     ·rcases aX.mp h with z|z
      ·cases z;exact bo rfl o
      ·exact .inl z
     ·exact .inr (by rw[e];exact h)
   refine step _ ?_;split
   ·split
    ·exact xn o
    ·rfl
   ·rfl
theorem lV:∀(names:List (Str×dL))(n:Nat)(acc:List (Str×ak)),(bT n names acc).lookup x=some c->n<=c\/acc.lookup x=some c
 |[],_,_,h=>.inr h
 | (y,k)::r,n,acc,h=>by
  unfold bT at h;split at h
  ·rcases lV r (n+1) _ h with q|q
   ·exact .inl ()
   ·by_cases g:x=y
    ·subst g;rw[lookup_cons_self]at q;cases q;exact .inl (ay _)
    ·rw[xn g]at q;exact .inr q
  ·exact lV r n acc h
theorem Kc: ∀(names:List (Str×dL))(n:Nat)(acc:List (Str×ak)),(∀x y c,acc.lookup x=some c->acc.lookup y=some c->x=y)->(∀x c,acc.lookup x=some c->c < n) ->∀x y c,(bT n names acc).lookup x=some c->(bT n names acc).lookup y=some c->x=y
 |[],_,_,hi,_=>hi
 | (z,k)::r,n,acc,hi,hb=>by
  unfold bT;split
  ·refine Kc r (n+1) _ (λx y c q g=>?_) (λx c h=>?_)
   ·by_cases o:x=z
    ·subst o;rw[lookup_cons_self]at q;cases q;by_cases l:y=x
     ·exact l.symm
     ·rw[xn l]at g;exact bo (hb y _ g) (cT _)
    ·rw[xn o]at q;by_cases l:y=z
     ·subst l;rw[lookup_cons_self]at g;cases g;exact bo (hb x _ q) (cT _)
     ·rw[xn l]at g;exact hi x y c q g
   ·by_cases o:x=z
    ·subst o;rw[lookup_cons_self]at h;cases h;exact iW _
    ·rw[xn o]at h;exact nD (hb x c h)
  ·exact Kc r n acc hi hb
theorem md:∀(names:List (Str×dL))(h:bN)(acc:List (Str×ak)),(bT h.objs.size names acc).lookup x=some c->acc.lookup x=some c\/((yH h names).IsCell c none/\h.objs.size<=c)
 |[],_,_,q=>.inl q
 | (y,k)::r,h,acc,q=>by
  unfold bT at q;unfold yH;split at q
  ·rename_i g;rw[aJ g];rw[<- cB h { cls:=.type "cell",data:=.cell none }]at q;rcases md r _ _ q with z|z
   ·by_cases l:x=y
    ·subst l;rw[lookup_cons_self]at z;cases z;refine .inr ⟨?_,ay _⟩;refine⟨{ cls:=.type "cell",data:=.cell none },mZ r _ _ _ (aC _ rfl),rfl⟩
    ·rw[xn l]at z;exact .inl z
   ·refine .inr ⟨z.1,?_⟩;have:=z.2;rw[cB]at this;ext
  ·rename_i g;rw[az g];exact md r h acc q
theorem LX:∀(names:List (Str×dL))(n:Nat)(acc:List (Str×ak)),(x,fQ)∉names->(bT n names acc).lookup x=acc.lookup x
 |[],_,_,_=>rfl
 | (y,k)::r,n,acc,h=>by
  unfold bT;split
  ·rename_i g;let e:k=.cell:=by simpa using g
   subst e;let c:x≠y:=λz=>h (by rw[z];exact cD);rw[LX r (n+1) _ λz=>h (bF _ z),xn c]
  ·exact LX r n acc λz=>h (bF _ z)
theorem RY{α β:Type}(f:Str->α->β)(x:Str):∀(l:List (Str × α)),(l.map λp=>(p.1,f p.1 p.2)).lookup x=(l.lookup x).map (f x)
 |[]=>rfl
 | (y,v)::r=>by
  by_cases c:x=y
  ·subst c;rw[aT,lookup_cons_self,lookup_cons_self];rfl
  ·rw[aT,xn c,xn c];exact RY f x r
def D6(scope:dB)(env:Env)(x:Str):(k_ scope env).names.lookup x=(scope.names.lookup x).map λk=>if (k == bJ&&env.scope.kind == .function&&env.kindOf x == some .cell)=true then .cell else k:=by
 let e:(k_ scope env).names=scope.names.map λp=>(p.1,(λ(n:Str)k=>if (k == bJ&&env.scope.kind == .function&&env.kindOf n == some .cell)=true then fQ else k) p.1 p.2):=by show scope.names.map _=_;congr 1;funext p;let⟨n,k⟩:=p;dsimp only;split<;>rfl
 rw[e];exact RY (λ(n:Str)k=>if (k == bJ&&env.scope.kind == .function&&env.kindOf n == some .cell)=true then fQ else k) x scope.names
def Vo{M:Eo}{s:aq}{env:Env}{Q:Env->aq->Prop}(h:Q { scope:=scope,locals:=s.heap.objs.size,globals:=globals,cells:=bT (s.heap.objs.size+1) scope.names cl,qual:=qual,func:=none,code:=env.code,frame:=env.frame,builtins:=env.builtins } { s with heap:=yH (s.heap.push { cls:=.type "dict",data:=.dict #[] }) scope.names }):aH M A (qK scope globals cl [] qual none .none (some env)) Q E s:=by
 simp only[qK,km,if_true];refine ab (wpAny_alloc ?_);refine ab (wpAny_layCells _ (λname kind cells=>by cases c:kind == fQ<;>simp[c]) _ _ _ _ ?_);rw[show ({ s with heap:=s.heap.push { cls:=.type "dict",data:=.dict #[] } }:aq).heap.objs.size=s.heap.objs.size+1 from cB ..];exact ab (aj (aj h))
def pL(X:Cx)(N:List Str)(scope:dB)(fp:List ak)(s:aq)(H:Hp):Cx where
 prog:=X.prog
 w:=X.w
 K:=X.K
 mg:=X.mg
 base:=X.base
 A:=X.A
 N:=N
 s₀:=s
 H₀:=H
 env:=compEnvC scope (bT (s.heap.objs.size+1) scope.names (i6 scope.names X.env.cells [])) s.heap.objs.size X.env
 outer:=X.stack
 stack:=X.stack
 ex:=fp
 fn:=λx=>decide (scope.names.lookup x=some .local\/scope.names.lookup x=some .cell)
 calm:=X.calm
 pn:=[]
 xe:=AF
structure iI(X:Cx)(scope:dB):Prop where
 kind:scope.kind=.function
 names:∀x∈scope.names,x.2=.local->scope.names.lookup x.1=some .local
 free:∀x,(x,bJ)∈scope.names->X.env.kindOf x=some .cell\/X.env.kindOf x=some .free
 once:∀x,(x,bJ)∈scope.names->(x,fQ)∉scope.names
 own:∀x,(x,bJ)∈scope.names->scope.names.lookup x≠some .local
noncomputable def Ao(n:Nat)(ix:List Nat)(σ:St):St:=bw n none++ix.map λi=>(σ[i]?).join
structure lv(X:Cx)(scope:dB)(N:List Str)(n:Nat)(ix:List Nat):Prop where
 len:N.length=n+ix.length
 cap:∀(j i:Nat)(x:Str),ix[j]?=some i->N[n+j]?=some x->X.N[i]?=some x/\scope.names.lookup x=some .free
theorem vz:∀(names:List (Str×dL))(acc:List (Str×ak)),(i6 names cells acc).lookup x=some c->(x,bJ)∈names\/acc.lookup x=some c
 |[],acc,h=>.inr h
 | (n,k)::r,acc,h=>by
  unfold i6 at h;rcases vz r _ h with q|q
  ·exact .inl (bF _ q)
  ·split at q
   ·rename_i l;let e:k=.free:=by simpa using l
    subst e;split at q
    ·by_cases g:x=n
     ·subst g;exact .inl cD
     ·rw[xn g]at q;exact .inr q
    ·exact .inr q
   ·exact .inr q
def Ul{scope:dB}(h:(i6 scope.names cells []).lookup x=some c)(g:scope.names.lookup x=some .local\/scope.names.lookup x=some .cell)(S:iI X scope):False:=by
 rcases vz _ _ h with q|q
 ·rcases g with z|z
  ·exact S.own x q z
  ·exact S.once x q (bb z)
 ·cases q
section
variable{X:Cx}{ac:List (ak×Obj)}{σ:St}{H:Hp}{s:aq}{scope:dB}{fp:List ak}
def GX(I:Inv X ac σ H s)(h:(i6 scope.names X.env.cells []).lookup x=some c):X.env.cells.lookup x=some c/\c < s.heap.objs.size/\(∃v,s.heap.IsCell c v)/\H c=none:=by
 rcases wL _ _ h with q|q
 ·let⟨v,z⟩:=I.cell x c q;exact⟨q,z.lt,⟨v,z⟩,I.freeC x c q⟩
 ·cases q
def XG(I:Inv X ac σ H s)(S:iI X scope)(l:∀b∈fp,pU X ac H b)(B:∀b∈fp,b < s.heap.objs.size):(pL X N scope fp s H).Ok:=by
 let inj:∀x y c,(bT (s.heap.objs.size+1) scope.names (i6 scope.names X.env.cells [])).lookup x=some c->(bT (s.heap.objs.size+1) scope.names (i6 scope.names X.env.cells [])).lookup y=some c->x=y:=
  Kc scope.names _ _ (λx y c h1 h2=>I.ok.inj x y c (GX I h1).1 (GX I h2).1) λx c h=>nD (GX I h).2.1
 refine⟨I.ok.mod,S.kind,I.ok.glob,I.ok.blt,ay _,inj,λx hx=>?_,λx c hf C=>?_,I.ok.hd,I.ok.frames,.inl rfl,λb v=>?_,I.bs,c5 I.ok.bsz I.sz,λb o e v=>?_,λb v z=>?_,I.stack,I.stkFree⟩
 ·let g:(k_ scope X.env).names.lookup x=some .cell\/(k_ scope X.env).names.lookup x=some .free:=hx;rw[D6]at g;cases e:scope.names.lookup x with
  |none=>rw[e]at g;rcases g with z|z<;>cases z
  |some k=>
   refine fJ.mp (ik scope.names _ _ ?_);cases k with
   |cell=>exact .inl e|free=>
    let Q:=bb e;let⟨c,C⟩:=I.ok.has x (S.free x Q);exact .inr (by rw[Fq C scope.names [] (.inl Q) λd hd=>by cases hd];rfl)
   |_=>
    rw[e]at g;rcases g with z|z<;>(simp at z)
 ·let u:(bT (s.heap.objs.size+1) scope.names (i6 scope.names X.env.cells [])).lookup x=some c:=C;rcases lV _ _ _ u with q|q
  ·exact Nat.le_of_succ_le q
  ·exfalso
   let E:scope.names.lookup x=some .local\/scope.names.lookup x=some .cell:=of_decide_eq_true hf;exact Ul q E S
 ·let⟨Y,O,L,J,G,U⟩:=l b v;refine⟨bj (B b v),λx c C z=>?_⟩;let u:(bT (s.heap.objs.size+1) scope.names (i6 scope.names X.env.cells [])).lookup x=some c:=C;rcases lV _ _ _ u with q|q
  ·rw[z]at q;exact bo (bh (nD (B b v)) q) (cT _)
  ·exact G x c (GX I q).1 z
 ·let⟨Y,O,L,J,G,U⟩:=l b v;rcases J with z|z
  ·exact I.ok.noex b o e z
  ·exact bo (bh (bh (aK e) I.ok.bsz) z) (cT _)
 ·let⟨Y,O,L,J,G,U⟩:=l b v;rcases aX.mp (I.stkSub b z) with q|q
  ·exact O q
  ·exact L q
noncomputable abbrev sG(h:bN)(scope:dB):bN:=yH (h.push { cls:=.type "dict",data:=.dict #[] }) scope.names
def Qb(h:bN)(scope:dB):∀b o,h.get? b=some o->(sG h scope).get? b=some o:=λb o e=>mZ _ _ b o (am _ e)
def Qd9{n:Nat}(I:Inv X ac σ H s)(S:iI X scope)(T:lv X scope N n ix)(O:∀b∈fp,pU X ac H b)(L:∀b∈fp,b < s.heap.objs.size):Inv (pL X N scope fp s H) [] (Ao n ix σ) H { s with heap:=sG s.heap scope }:=by
 let B:=Qb s.heap scope;let G:(sG s.heap scope).Ns s.heap.objs.size λ_=>none:=(BS s.heap (.type "dict")).keeps (mZ _ _);let cells : ∀x c, (bT (s.heap.objs.size+1) scope.names (i6 scope.names X.env.cells [])).lookup x = some c ->
   (∃v,(sG s.heap scope).IsCell c v)/\H c=none:=λx c h=>by
  let h':(bT (s.heap.push { cls:=.type "dict",data:=.dict #[] }).objs.size scope.names (i6 scope.names X.env.cells [])).lookup x=some c:=by rw[cB];exact h
  rcases md _ _ _ h' with q|⟨q,z⟩
  ·let⟨_,_,⟨v,c⟩,hn⟩:=GX I q;exact⟨⟨v,c.keeps B⟩,hn⟩
  ·refine⟨⟨none,q⟩,I.hok.fresh ?_⟩;rw[cB]at z;ext
 refine⟨XG I S O L,rfl,I.bare,Un.kept B,⟨_,G,λi x v h1 h2 h3=>?_⟩,λx c h=>(cells x c h).1,I.hok.fresh (ay _),λx c h=>(cells x c h).2,λp hp=>bo (show p∈([]:List (ak×Obj)) from hp) (by simp),I.hok.kept B,?_⟩
 ·let U:N[i]?=some x:=h1;let g:(bw n none++ix.map λi=>(σ[i]?).join)[i]?=some (some v):=h2;let hi:n<=i:=sK λz=>by rw[av (by simpa using z),fN]at g;split at g<;>cases g
  rw[aM (by simpa using hi),fH,au]at g;cases e:ix[i-n]? with|none=>rw[e]at g;cases g|some k=>
   rw[e]at g;let C:(σ[k]?).join=some v:=aF g;let O:σ[k]?=some (some v):=by
    cases q:σ[k]? with|none=>rw[q]at C;cases C|some o=>rw[q]at C;exact cQ some C
   let⟨hN,l⟩:=T.cap (i-n) k x e (by rw[show n+(i-n)=i by ext];exact U);let J:=bb l;let Y:=S.free x J;let⟨m,hn,L⟩:=I.loc;let⟨u,G,H⟩:=L k x v hN O (by
    rcases Y with z|z
    ·exact .inr (.inl z)
    ·exact .inr (.inr z))
   let E:∃c,X.env.cells.lookup x=some c/\s.heap.IsCell c (some u):=by
    rcases H with ⟨z,_⟩|⟨_,c,Q,q⟩
    ·rcases Y with y|y<;>(rw[y]at z;cases z)
    ·exact⟨c,Q,q⟩
   let⟨c,Q,q⟩:=E;refine⟨u,G,.inr ⟨?_,c,?_,q.keeps B⟩⟩
   ·show (k_ scope X.env).names.lookup x=some .cell\/(k_ scope X.env).names.lookup x=some .free;rw[D6,l,dJ];by_cases h:(bJ == bJ&&X.env.scope.kind == .function&&X.env.kindOf x == some .cell)=true
    ·rw[aJ h];exact .inl rfl
    ·rw[az h];exact .inr rfl
   ·show (bT (s.heap.objs.size+1) scope.names (i6 scope.names X.env.cells [])).lookup x=some c;rw[LX _ _ _ (S.once x J)];exact Fq Q scope.names [] (.inl J) λd hd=>by cases hd
 ·show (bw n none++ix.map λi=>(σ[i]?).join).length=N.length;rw[aB,fH,ag,T.len]
def wA(C:TI)(n:Nat)(ix:List Nat)(g:TG)(E:TT)(G:TE):TE:=λσ H Q=>C σ H λJ B=>∀l,B l=none->∃W:Nat->Nat->St->Hp->Prop,(∃m,W 0 m (Ao n ix σ) (fT B l (.lst []))) /\
 ∀i m σ' h,W i m σ' h->(J.stop i h/\Q (.ref l) h)\/(J.go i h/\∀x u,J.yld i h x u->g x σ' u λσ2 I=>E σ2 I λb q=>
  if b=true then G σ2 q λv o=>∃ys,o l=some (.lst ys)/\ys.length < sizeLine/\∃c,c < m/\W (i+1) c σ2 (fT o l (.lst (ys++[v]))) else ∃c,c < m/\W (i+1) c σ2 q)
def xB(X:Cx)(c:List Expr)(g:TT):Prop:=
 ∀(ac:List (ak×Obj))(s:aq)(σ:St)(H:Hp)(Q:Bool->Hp->Prop),Inv X ac σ H s->g σ H Q->aH (aY X.prog X.w) X.A (Bv c X.env) (TP X ac σ Q) X.xe s
def Vz:xB X [] (λ_ H Q=>Q true H):=λac s σ H Q I h=>wpAny_tests_nil ⟨H,I,h⟩
def ZD(h:PT X c g):xB X [c] g:=λac s σ H Q I q=>wpAny_tests_one (h ac s σ H Q I q)
structure wB(X:Cx)(ac:List (ak×Obj))(C:ak)(H:Hp)(s:aq):Prop where
 ns:∃m,s.heap.Ns C m
 free:H C=none
 loc:C≠X.env.locals
 cell:∀x c,X.env.cells.lookup x=some c->c≠C
 sz:X.s₀.heap.objs.size<=C
 pin:∀p∈X.pn++ac,p.1≠C
def wB.go(c:wB X ac C H s)(I:Inv X ac σ H s)(g:cX C s.heap h'):Inv X ac σ H { s with heap:=h' }:=
 I.turned (t':=s.toks) (λb o h e=>(g.2 b h).trans e) c.free c.loc (.inr c.sz) c.cell c.pin
def Oz{n:Nat}(hc:X.calm=true) (S:iI X scope) (T:lv X scope N n ix) (hi:PI X B iter wi)(blk:∀(fp:List ak)(s:aq)(H:Hp),PG (pL X N scope fp s H) B g/\xB (pL X N scope fp s H) ifs tt/\PE (pL X N scope fp s H) elt te)(hs:∀x,fS iter X.env x=pure x) (I:Inv X ac σ H s) (h:wA wi n ix g tt te σ H QH)(fin:∀(l C:ak)(G:Hp)(Y:aq),Inv X ac σ G Y->QH (.ref l) G->wB X ac C G Y->compPost (aY X.prog X.w) X.A X.xe use Q (.ref l) C (.ok .next) Y):aH (aY X.prog X.w) X.A (comprehension (.ListComp elt [⟨B,iter,ifs,0⟩] scope pos) scope X.env (firstIterPos [⟨B,iter,ifs,0⟩] pos) (newList []) false (eval iter X.env) use) Q X.xe s:=by
 let hclos:nQ scope X.env=pure (i6 scope.names X.env.cells []):=JT λx hx=>I.ok.has x (S.free x hx);refine wpAny_comprehension_free rfl hs hclos S.kind S.names ?_;refine gA (hi ac s σ H _ I h) λv s1 h1=>gA h1 λitv U h2=>?_;let⟨it,fp,tn,J,H2,rfl,I2,TT,st2,f2,rest⟩:=h2;refine b9 (hd:=by size_fits) ?_;let hf2:H2 U.heap.objs.size=none:=I2.hok.fresh (ay _);let⟨W,⟨m0,w0⟩,turn⟩:=rest _ hf2;let fl:∀b∈fp,b < U.heap.objs.size:=λb E=>by let⟨o,e,_⟩:=TT.obj _ _ st2 b E;exact aK e
 let f3:∀b∈fp,pU X ac (fT H2 U.heap.objs.size (.lst [])) b:=λb E=>by let⟨f0,fr⟩:=f2 b E;refine⟨?_,fr⟩;rw[gB (bj (fl b E))];exact f0
 let I3:Inv X ac σ (fT H2 U.heap.objs.size (.lst [])) { U with heap:=U.heap.push { cls:=.type "list",dict:=none,data:=.seq ([]:List ah).toArray } }:=
  I2.laid (t':=U.toks) (λb o e=>am _ e) (ay _) ⟨bH _,[],0,.nil,aC _ rfl⟩
 let tn3:tn 0 (U.heap.push { cls:=.type "list",dict:=none,data:=.seq ([]:List ah).toArray }):=TT.keep _ _ _ st2 λb E o e=>am _ e;let fl3:∀b∈fp,b < (U.heap.push { cls:=.type "list",dict:=none,data:=.seq ([]:List ah).toArray }).objs.size:=λb E=>by rw[cB];exact nD (fl b E)
 generalize U.heap.objs.size=l at *;generalize hs3:({ U with heap:=U.heap.push { cls:=.type "list",dict:=none,data:=.seq ([]:List ah).toArray } }:aq)=L at *;let e3:U.heap.push { cls:=.type "list",dict:=none,data:=.seq ([]:List ah).toArray }=L.heap:=by rw[<- hs3]
 rw[e3]at tn3 fl3;generalize fT H2 l (.lst [])=O at *;refine Vo ?_;let I4:=Qd9 (N:=N) (n:=n) (ix:=ix) I3 S T f3 fl3;let⟨bg,bt,be⟩:=blk fp L O;let tn4:tn 0 (sG L.heap scope):=TT.keep _ _ _ tn3 λb E o e=>Qb _ _ _ _ e;let fr4:∀b∈fp,O b=none:=λb E=>(f3 b E).1
 show ky (aY X.prog X.w) X.A (.compStart (.ListComp elt [⟨B,iter,ifs,0⟩] scope pos) 0 (.ref it) (.ref l) (pL X N scope fp L O).env) (compPost (aY X.prog X.w) X.A X.xe use Q (.ref l) L.heap.objs.size) { L with heap:=sG L.heap scope };let fpx:∀{σ':St}{G:Hp}{Y:aq},Inv (pL X N scope fp L O) [] σ' G Y->(∀b∈fp,G b=none)->∀b∈fp,pU (pL X N scope fp L O) [] G b:=λI' hn b E=>by have q:=I'.ok.exf b E;exact⟨hn b E,q.1,I'.ok.exfs b E,.inl E,q.2,λp hp=>bo (show p∈([]:List (ak×Obj)) from hp) (by simp)⟩
 let hc':(pL X N scope fp L O).calm=true:=hc;let loop:ky (aY X.prog X.w) X.A (.compLoop (.ListComp elt [⟨B,iter,ifs,0⟩] scope pos) 0 (.ref it) (.ref l) (pL X N scope fp L O).env) (compPost (aY X.prog X.w) X.A X.xe use Q (.ref l) L.heap.objs.size) { L with heap:=sG L.heap scope }:=by
  refine Yr (λk Y=>∃i σ' G,Inv (pL X N scope fp L O) [] σ' G Y/\tn i Y.heap/\(∀b∈fp,G b=none)/\W i k σ' G) ?_ m0 ⟨0,_,O,I4,tn4,fr4,w0⟩
  rintro k s5 ⟨i,σ5,H5,I5,tn5,fr5,w5⟩
  rcases turn i k σ5 H5 w5 with ⟨stop,q⟩|⟨go,step⟩
  ·refine gA (TT.done (pL X N scope fp L O) rfl rfl rfl hc' i [] s5 σ5 H5 AF I5 (fpx I5 fr5) tn5 stop) λr s6 h=>?_;let⟨hr,g⟩:=h;subst hr;let G:Inv X ac σ H5 s6:=I3.call' g.os g.base g.hok g.bare λb E=>by let⟨I,C,H,B,u,o⟩:=f3 b E;exact⟨B,C,u,o⟩
   let⟨m,hn,_⟩:=g.loc;refine fin l L.heap.objs.size H5 s6 G q ⟨⟨m,hn⟩,g.free,dm I3.lt,λx c e=>?_,I3.sz,λp hp=>?_⟩
   ·let⟨v,z⟩:=I3.cell x c e;exact bj z.lt
   ·exact bj (aK (I3.pin p hp).1)
  ·refine gA (TT.item (pL X N scope fp L O) rfl rfl rfl hc' i [] s5 σ5 H5 AF I5 (fpx I5 fr5) tn5 go) λr s6 I=>?_;let⟨u,hr,h6⟩:=I;subst hr;refine gA h6 λ_ s7 H=>?_;let⟨x,H7,I7,r7,y7,c,fr7⟩:=H;let I7':=I7.pinned (fpx I7 fr7) (TT.obj _ _ c);refine gA (bg _ s7 σ5 H7 x u _ I7' r7 (step x H7 y7)) λ_ s8 C=>?_;let⟨σ8,H8,I8,q8⟩:=C;refine gA (bt _ s8 σ8 H8 _ I8 q8) λok s9 B=>?_;let⟨H9,I9,q9⟩:=B;let again : ∀{Y : aq}{G : Hp}, Inv (pL X N scope fp L O) ([] ++ qA fp s7.heap) σ8 G Y -> (∃Q, Q < k /\ W (i+1) Q σ8 G) ->
     ∃m,m < k/\∃i σ' G,Inv (pL X N scope fp L O) [] σ' G Y/\tn i Y.heap/\(∀b∈fp,G b=none)/\W i m σ' G:=λ{Y G}I' q=>by
    let⟨Q,hm,w'⟩:=q;refine⟨Q,hm,i+1,σ8,G,I'.unpinned,TT.keep _ _ _ c λb E o e=>(I'.pin (b,o) (bK _ (bK _ (HG E e)))).1,λb E=>?_,w'⟩;let⟨o,e,d⟩:=TT.obj _ _ c b E;exact (I'.pin (b,o) (bK _ (bK _ (HG E e)))).2.1
   cases ok with|false=>exact again I9 q9|true=>
    refine gA (be _ s9 σ8 H9 _ I9 q9) λxv U h=>?_;let⟨v,J,I10,r10,ys,hy,hz,q10⟩:=h;refine gA (Qn (X:=pL X N scope fp L O) _ U σ8 J (.ref l) [v] (.ref l) [xv] (λ_ G=>G=fT J l (.lst (ys++[v]))) I10 rfl (.cons r10 .nil) ⟨l,ys,v,rfl,rfl,hy,hz,rfl⟩) λ_ s11 g=>?_;let⟨_,H11,I11,_,e⟩:=g;subst e;exact again I11 q10
 exact codeAny_compStart_list loop (TT.self _ 0 _ _ _ tn4 loop)
def Tt{n:Nat}(hc:X.calm=true) (S:iI X scope) (T:lv X scope N n ix) (Y:PI X o iter G)(E:∀(fp:List ak)(s:aq)(H:Hp),PG (pL X N scope fp s H) o g/\xB (pL X N scope fp s H) u J/\PE (pL X N scope fp s H) v L)(O:∀x,fS iter X.env x=pure x:=by intro _;rfl):PE X (.ListComp v [⟨o,iter,u,0⟩] scope pos) (wA G n ix g J L):=by
 intro ac s σ H Q I h;rw[eval_ListComp];refine Oz (use:=none) hc S T Y E O I h λl C H' s' I' q c=>?_;let⟨m,U⟩:=c.ns;exact⟨m,U,λh' B=>⟨.ref l,H',c.go I' B,rfl,q⟩⟩
def W3{pos u G:Pos}{n i:Nat}(hN:X.N.Nodup) (Y:X.N[i]?=some x) (hx:L2.Loc X.env.scope x) (hf:X.fn x=true\/X.env.scope.names.lookup x=some .local)(hc:X.calm=true) (S:iI X scope) (T:lv X scope N n ix) (hi:PI X o iter wi)(blk:∀(fp:List ak)(s:aq)(H:Hp),PG (pL X N scope fp s H) o g/\xB (pL X N scope fp s H) B tt/\PE (pL X N scope fp s H) E te)(O:ly (.ListComp E [⟨o,iter,B,0⟩] scope pos) (some (.Name x u)) G.line X.env=pure true)(hs:∀x,fS iter X.env x=pure x:=by intro _;rfl):PS X (.Assign [.Name x u] (.ListComp E [⟨o,iter,B,0⟩] scope pos) G) (Ax (wA wi n ix g tt te) (vA i)):=by
 intro ac s σ H D I h;rw[exec_Assign_Name_used _ _ _ _ O];refine ab (xH (ab ?_))
 show aH _ _ (comprehension (.ListComp E [⟨o,iter,B,0⟩] scope pos) scope X.env _ (newList []) false (eval iter X.env) (some (pF (.Name x u) X.env)) >>= λ_=>pure Unit.unit) _ _ s;refine ab (fU (Oz (use:=some (pF (.Name x u) X.env)) (Q:=λ_ L=>SP X ac D .next L) hc S T hi blk hs I h λl C H' L I' q c=>?_) (λ_ L hq=>aj (aj hq)) λ_ _ e=>e);let⟨m,hn⟩:=c.ns;refine Ep (Nd I' hN Y hx (v:=.ref l) rfl (λs2 I2 ⟨b,hb,hb2⟩=>?_) hf);let J:b≠C:=by
  rcases hb2 with z|z
  ·rw[z];exact c.loc.symm
  ·exact c.cell x b z
 refine⟨m,hn.sameBut hb J.symm,λh' U=>⟨_,H',?_,q⟩⟩;exact wB.go ⟨⟨m,hn.sameBut hb J.symm⟩,c.free,c.loc,c.cell,c.sz,c.pin⟩ I2 U
end
section
variable{X:Cx}{a b c e:Expr}{es:List Expr}{pos:Pos}{fa fb fc:CE}{ca cb:CA}{K:ai}{ρ:List ak}{H:Hp}{st:aV}
def AC{K:ai}(h:qz K (uk f) x y H Q):∃(i j:Int)(ρ:List ak)(st:aV),x=.int i/\y=.int j/\SR K ρ H st/\aU K ρ H (f i j st) (λr _ ρ' g=>∀v,dD K ρ' g v r->Q v g):=by
 let⟨ρ,st,d,e,sr,o,l,p⟩:=h;rcases zB f d e with ⟨i,j,rfl,rfl⟩|q
 ·exact⟨i,j,ρ,st,o.inv,l.inv,sr,p⟩
 ·rw[q]at p;exact p.elim
def Qeg:OpR X (fP .Sub) (qz X.K vg):=Tz.of λx y H Q h=>by let⟨i,j,ρ,st,rfl,rfl,sr,p⟩:=AC h;exact⟨_,_,rfl,rfl,p.ret sr _ (.int _)⟩
def Tb:OpR X (fP .Mult) (qz X.K tf):=Tq.of λx y H Q h=>by let⟨i,j,ρ,st,rfl,rfl,sr,p⟩:=AC h;exact⟨_,_,rfl,rfl,p.chk.1,p.chk.2.ret sr _ (.int _)⟩
def Vg:OpR X (fP .FloorDiv) (qz X.K tX):=Qbj.of λx y H Q h=>by let⟨i,j,ρ,st,rfl,rfl,sr,p⟩:=AC h;exact⟨_,_,rfl,rfl,p.chk.1,p.chk.2.ret sr _ (.int _)⟩
def Uy:OpR X (fP .Mod) (qz X.K o0):=XI.of λx y H Q h=>by let⟨i,j,ρ,st,rfl,rfl,sr,p⟩:=AC h;exact⟨_,_,rfl,rfl,p.chk.1,p.chk.2.ret sr _ (.int _)⟩
def YA:OpR X (fP .Pow) (qz X.K yY):=Xc.of λx y H Q h=>by let⟨i,j,ρ,st,rfl,rfl,sr,p⟩:=AC h;exact⟨_,_,rfl,rfl,p.chk.1,p.chk.2.ret sr _ (.int _)⟩
def R7:OpR X (cS .Lt) (qz X.K By):=Uh.of λx y H Q h=>by let⟨i,j,ρ,st,rfl,rfl,sr,p⟩:=AC h;exact⟨_,_,rfl,rfl,p.ret sr _ (.bl _)⟩
def Sa:OpR X (cS .Gt) (qz X.K vQ):=Yp.of λx y H Q h=>by let⟨i,j,ρ,st,rfl,rfl,sr,p⟩:=AC h;exact⟨_,_,rfl,rfl,p.ret sr _ (.bl _)⟩
def WI:OpR X (cS .GtE) (qz X.K C0):=V9.of λx y H Q h=>by let⟨i,j,ρ,st,rfl,rfl,sr,p⟩:=AC h;exact⟨_,_,rfl,rfl,p.ret sr _ (.bl _)⟩
def OF:SA X [] bn:=vI.of λσ H Q g=>g.el λρ l st h sr p=>p.ret sr [] .nil
def OQ(U:SE X e fa)(O:SA X es ca)(L:starEach (e::es) X.env=(false,eval e X.env)::starEach es X.env:=by rfl):SA X (e::es) (aw fa ca):=
 (sA U O L).of λσ H Q Y=>Y.el λρ l st o sr p=>⟨ρ,l,st,o,sr,p.bnd.imp λd g ρ1 H1 u E J v G=>⟨ρ1,l,g,o.mono u,E,J.bnd.imp λds B ρ2 H2 q C I c h=>I.ret C _ (.cons (G.mono q) h)⟩⟩
def V0{k:Nat}(h:SA X es ca):SE X (.Tuple es k pos) (eE ca):=(QbK h).of λσ H Q I=>I.el λρ l st E sr p=>⟨ρ,l,st,E,sr,p.bnd.imp λds u ρ1 O J v C L g=>by let⟨G,B⟩:=C.chk;refine⟨by rw[g.length];exact G,λq o=>?_⟩;exact B ρ1 _ (Ex.new o) (v.new o) _ (.tup (mU.of lH) (g.mono (Ex.new o)))⟩
def WX(h:SA X es ca):SL X (.List es pos) (gh ca):=(Xa h).of λσ H Q U=>U.el λρ l st J sr p=>⟨ρ,l,st,J,sr,p.bnd.imp λds E ρ1 Y B v I C g=>by
 let⟨O,G⟩:=I.chk;refine⟨by rw[g.length];exact O,λq u=>?_⟩;let L:H q=none:=by
  cases z:H q with|none=>rfl|some o=>exact bo u (B.trk q o z)
 exact G ρ1 _ (Ex.new u) (v.new u) q C L (v.fresh u) lH (g.mono (Ex.new u))⟩
def aU.bnd0{α β:Type}{m:M α}{f:α->M β}{R:β->aV->List ak->Hp->Prop}(h:aU K ρ H (MM.bnd m f st) R):aU K ρ H (m st) λa g _ _=>aU K ρ H (f a g) R:=by
 unfold MM.bnd at h;cases e:m st with
 |ok a s'=>
  rw[e]at h;exact λρ' l y s=>h
 |exc _ _=>rw[e]at h;exact h|bad=>rw[e]at h;exact h
def Zb(h:SL X e ca):SE X e (eK ca):=h.of λσ H Q L=>L.el λρ l st I sr p=>⟨ρ,l,st,I,sr,p.bnd0.imp λds C ρ1 B o u E a O J G v q=>by
 let x:Ex ρ H (ρ1++[a]) B:=by
  let⟨τ,e,f⟩:=o.pre;refine⟨⟨τ++[a],by rw[e,bz],λb g=>?_⟩,o.fix,o.oth,o.knd⟩;rcases aO.mp g with g|g
  ·exact f b g
  ·rw[aI]at g;rw[g];exact J
 refine E (ρ1++[a]) B x (u.keep v G q) _ (.ref ⟨_,v,rfl⟩ ?_);rw[<- u.len];simp⟩
def _root_.L2.IxR.of{r C:R2}(h:IxR X r)(g:∀x y H Q,C x y H Q->r x y H Q):IxR X C:=λl o B s σ H x y v u Q I G E q J=>h l o B s σ H x y v u Q I G E (g x y H Q q) J
def aU.item{i:Int}(h:aU K ρ H (cL ds i st) R)(s:SR K ρ H st):∃k d,L2.oz ds.length i=some k/\ds[k]?=some d/\R d st ρ H:=by
 unfold cL at h;cases e:MM.oz ds.length i with|none=>rw[e]at h;exact h.elim|some k=>
  rw[e]at h;cases g:ds[k]? with|none=>dsimp only at h;rw[g]at h;exact h.elim|some d=>dsimp only at h;rw[g]at h;exact⟨k,d,e,g,h.ret s⟩
def GN{i:Int}{k:Nat}(r:bV K ρ H g ds)(o:L2.oz ds.length i=some k)(l:ds[k]?=some d):∃v,Bu g i=some v/\dD K ρ H v d:=by let⟨v,e,h⟩:=r.get l;refine⟨v,?_,h⟩;unfold Bu;rw[r.length,o];exact e
theorem aU.itemK{n:Nat}(h:aU K ρ H (MM.itemK n k st) R)(s:SR K ρ H st):∃b g d,st[n]?=some (.dct b g)/\om b k=true/\m_ g k=some d/\R d st ρ H:=by
 let⟨b,g,e,q⟩:=aU.getDc (aU.bnd h) s;let⟨u,l⟩:=aU.chk q;cases o:m_ g k with|none=>dsimp only at l;rw[o]at l;exact l.elim|some d=>dsimp only at l;rw[o]at l;exact⟨b,g,d,e,u,o,l.ret s⟩
def og.dictIs{a:ak}{b:Bool}(I:Inv X h σ H s)(g:og X.K ρ H a (.dct b l)):s.TypeIs (.ref a) "dict":=by
 cases b with
 |false=>
  let⟨es,e,r⟩:=g;let⟨_,_,q,_,o⟩:=Lw I.hok e;exact o.typeIs
 |true=>
  let⟨es,e,r⟩:=g;let⟨_,_,xs,_,o,_⟩:=x_ I e r;exact o.typeIs
def Uj(hu:X.A.units+60 < cN):IxR X (λx y H Q=>∃(ρ:List ak)(st:aV)(n:Nat)(a:ak)(b:Bool)(l:List (D×D))(k d:D),x=.ref a/\SR X.K ρ H st/\ρ[n]?=some a/\st[n]?=some (.dct b l)/\dD X.K ρ H y k/\om b k=true/\m_ l k=some d/\∀v,dD X.K ρ H v d->Q v H):=by intro o B E s σ H x y v u Q I J G h U;let⟨ρ,st,n,a,b,l,k,d,ex,sr,ha,Y,O,hk,c,q⟩:=h;subst ex;cases J;let g:=sr.ob n a _ ha Y;exact Bh (og.dictIs I g) PySem.F.slot_dict_getitem.lookup (QdR () I g O hk c G λv w' s' I' L C=>⟨v,H,I',C,q v L⟩) U
def YL{d e:D}{Q:VK}(sr:SR K ρ H st)(C:dD K ρ H x d)(J:dD K ρ H y e)(hd:∀n,d≠.dic n)(p:aU K ρ H (aZ d e st) λr _ ρ' I=>∀v,dD K ρ' I v r->Q v I):Pl K x y H Q:=by
 cases e with
 |int i=>
  obtain rfl:y=.int i:=J.inv;cases d with
  |dic _=>exact bo rfl (hd _)|tup ds=>
   let⟨_,_,rfl,h,r⟩:=C.inv;let⟨k,d,B,u,q⟩:=aU.item p sr;let⟨v,o,l⟩:=GN r B u;exact .inr (.inl ⟨_,_,i,v,rfl,rfl,h,o,q v l⟩)
  |lit ds=>
   let⟨_,_,rfl,h,r⟩:=C.inv;let⟨k,d,B,u,q⟩:=aU.item p sr;let⟨v,o,l⟩:=GN r B u;exact .inl ⟨_,_,i,v,rfl,rfl,h.seq,o,q v l⟩
  |ref n=>
   let⟨_,rfl,_,h⟩:=C.inv;let⟨xs,e,g⟩:=aU.getL (aU.bnd p) sr;let⟨a,O,G,L,r⟩:=sr.seq e;rw[h]at G;cases G;let⟨k,d,B,u,q⟩:=aU.item g sr;let⟨v,o,l⟩:=GN r B u;exact .inl ⟨_,_,i,v,rfl,rfl,io.of L,o,q v l⟩
  |str z=>
   obtain rfl:x=.str z:=C.inv;let⟨hz,g⟩:=aU.chk p;cases e:MM.oz z.length i with|none=>rw[e]at g;exact g.elim|some k=>
    rw[e]at g;cases E:z.cps.toList[k]? with|none=>dsimp only at g;rw[E]at g;exact g.elim|some c=>
     dsimp only at g;rw[E]at g;refine .inr (.inr ⟨z,i,c,rfl,rfl,hz,?_,g.ret sr _ (.str _)⟩);unfold Bu;rw[show z.cps.toList.length=z.length by simp[Str.length]]
     show (L2.oz z.length i).bind _=_;rw[show L2.oz z.length i=some k from e];exact E
  |_=>exact p.elim
 |_=>cases d<;>first|exact bo rfl (hd _)|exact p.elim
def X4(hu:X.A.units+60 < cN):IxR X (qz X.K aZ):=(Qch.or (Uj hu)).of λx y H Q g=>by
 let⟨ρ,st,d,e,sr,u,o,p⟩:=g;by_cases hd:∃n,d=.dic n
 ·let⟨n,rfl⟩:=hd;let⟨a,rfl,_,h⟩:=u.inv;let C:aU X.K ρ H (itemK n e st) λr _ ρ' B=>∀(v:V),dD X.K ρ' B v r->Q v B:=p;let⟨b,l,d,I,G,E,q⟩:=aU.itemK C sr;exact .inr ⟨ρ,st,n,a,b,l,e,d,rfl,sr,h,I,o,G,E,q⟩
 ·exact .inl (YL sr u o (λn z=>hd ⟨n,z⟩) p)
def Z2(hu:X.A.units+60 < cN)(o:SE X a fa)(l:SE X b fb)(g:rH b):SE X (.Subscript a b pos) (c2 aZ fa fb):=(OJ (X4 hu) o l g).of (IV λ_ _ _ _ h=>h)
def Ve(G:SL X a ca)(hb:SE X b fb)(hs:rH b):SE X (.Subscript a b pos) (nI ca fb):=(OJ PK G hb hs).of λσ H Q h_=>h_.el λρ l st E sr p=>
 ⟨ρ,l,st,E,sr,p.bnd.imp λds g ρ1 H1 I O c a B G na hv h=>⟨ρ1,l,g,E.mono I,O,c.bnd.imp λe J ρ2 H2 o L C u Y=>by
  cases e with
  |int i=>
   cases (show u=.int i from Y.inv);let⟨k,d,h1,h2,q⟩:=aU.item C L;let⟨v,h3,U⟩:=GN (h.mono o) h1 h2;exact⟨a,B,i,v,rfl,rfl,io.of (o.lst a B na hv),h3,q v U⟩
  |_=>exact C.elim⟩⟩
def Qey{k n:Nat}(F:mX X.prog X.w X.K X.mg X.base C k f B ps (nh X.K n g))(I:iJ k X.A)(U:Gl X x)(L:X.mg x=some (.ref f))(O:di X.K (.ref f)=true) (c:Binds X.K B ps []) (G:uh C X E0) (ha:SA X (e::es) ca) (J:∀l st ds o,ca l st=.ok ds o->ds.length=n) (v:(x == ("__debug__":Str))=false:=by decide)
  (Y:starEach (e::es) X.env=(false,eval e X.env)::starEach es X.env:=by rfl) (u:(backTo pos (starEach es X.env)).any (·.1)=false:=by rfl):SE X (.Call (.Name x p) (e::es) [] pos) (bO g ca):=
 (Pw F I U L O c .nil G ha v Y u).of λσ H Q h_=>h_.el λρ l st E sr p=>⟨ρ,l,st,E,sr,by
  let q:=aU.bnd p;cases h:ca l st with|bad=>rw[h]at q;exact q|exc _ _=>rw[h]at q;exact q|ok ds a7=>
   rw[h]at q;intro ρ1 H1 x1 s1 vs rvs;refine⟨by rw[bB,rvs.length];exact J l st ds a7 h,ρ1,a7,ds,s1,by rw[bB];exact rvs,q ρ1 H1 x1 s1⟩⟩
variable{ta tb:CT}
def X3(p:aU K ρ H (A6 d st) R)(sr:SR K ρ H st)(o:dD K ρ H v d):∃k,Dd K v H k/\R k st ρ H:=by
 cases o with
 |non=>exact⟨false,rfl,p.ret sr⟩|bl b=>exact⟨b,rfl,p.ret sr⟩|int i=>exact⟨_,rfl,p.ret sr⟩|str x=>exact⟨_,⟨(aU.chk p).1,rfl⟩,(aU.chk p).2.ret sr⟩|@tup a g ds h r=>
  refine⟨!g.isEmpty,.inr (.inl ⟨g,h,rfl⟩),?_⟩;have:g.isEmpty=ds.isEmpty:=by have:=r.length;cases g<;>cases ds<;>simp_all
  rw[this];exact p.ret sr
 |@lit a g ds h r=>
  refine⟨!g.isEmpty,.inl ⟨g,h.seq,rfl⟩,?_⟩;have:g.isEmpty=ds.isEmpty:=by have:=r.length;cases g<;>cases ds<;>simp_all
  rw[this];exact p.ret sr
 |ref _ h=>
  let⟨ds,e,q⟩:=aU.getL (aU.bnd p) sr;let⟨a,g,l,u,r⟩:=sr.seq e;rw[h]at l;cases l;refine⟨!g.isEmpty,.inl ⟨g,io.of u,rfl⟩,?_⟩;have:g.isEmpty=ds.isEmpty:=by have:=r.length;cases g<;>cases ds<;>simp_all
  rw[this];exact q.ret sr
 |_=>exact p.elim
def Tc(C:SE X a fa)(B:∀whole,isTrue a X.env whole=(do let v <- whole;zG a.pos;lK [v] (truthy v)):=by intro _;rfl):ST X a (sC fa):=
 (Tv C B).of λσ H Q E=>E.el λρ l st u sr p=>⟨ρ,l,st,u,sr,p.bnd.imp λd g ρ1 I G h q v o=>X3 q h o⟩
def UT(E:OpR X (cS op) (qz X.K g))(J:SE X a fa)(I:SE X b fb)(G:ij op b=false):ST X (.Compare a [op] [b] pos) (cV (c2 g fa fb)):=
 (O4 E J I G).of λσ H Q L=>L.el λρ l st C sr p=>IV (X:=X) (λ_ _ _ _ h=>h) _ _ _ ⟨ρ,l,st,C,sr,p.bnd.imp λd q ρ1 U O u o v B=>by
  cases d with
  |bl k=>cases (show v=.bl k from B.inv);exact⟨k,rfl,o.ret u⟩
  |_=>exact o.elim⟩
def WM(g:ST X a ta):PW X (.BoolOp .And [a] pos) (rD X.K ta):=Yn g
def XO(g:ST X a ta):PW X (.BoolOp .Or [a] pos) (rD X.K ta):=QaD g
def _root_.L2.PW.of{t t':TT}(h:PW X e t)(f:∀σ H Q,t' σ H Q->t σ H Q):PW X e t':=λwhole g s σ H Q I q=>h whole g s σ H Q I (f σ H Q q)
def Xe{rest:List Expr}(B:ST X a ta)(v:PW X (.BoolOp .And (b::rest) pos) (rD X.K tb)):PW X (.BoolOp .And (a::b::rest) pos) (rD X.K (oG ta tb)):=
 (VS B v).of λσ H Q C=>C.el λρ l st q sr p=>⟨ρ,l,st,q,sr,p.bnd.imp λc g ρ1 E u h o=>by
  cases c with
  |true=>exact⟨ρ1,l,g,q.mono u,h,o⟩
  |false=>exact o.ret h⟩
def UF{rest:List Expr}(B:ST X a ta)(v:PW X (.BoolOp .Or (b::rest) pos) (rD X.K tb)):PW X (.BoolOp .Or (a::b::rest) pos) (rD X.K (sk ta tb)):=
 (QaF B v).of λσ H Q C=>C.el λρ l st q sr p=>⟨ρ,l,st,q,sr,p.bnd.imp λc g ρ1 E u h o=>by
  cases c with
  |true=>exact o.ret h
  |false=>exact⟨ρ1,l,g,q.mono u,h,o⟩⟩
def Z1(u:ST X a ta):ST X (.UnaryOp .Not a pos) (sH ta):=(Zu u).of λσ H Q v=>v.el λρ l st q sr p=>⟨ρ,l,st,q,sr,p.bnd.imp λc g ρ1 C B h o=>o.ret h⟩
def QF(h:SE X a fa):SE X (.BoolOp op [a] pos) fa:=VM h
def UO{rest:List Expr}(E:SE X a fa)(C:SE X (.BoolOp .And (b::rest) pos) fb):SE X (.BoolOp .And (a::b::rest) pos) (ve fa fb):=
 (QaI E C).of λσ H Q G=>G.el λρ l st q sr p=>⟨ρ,l,st,q,sr,p.bnd.imp λd g ρ1 I u o h v B=>by
  cases d with
  |bl c=>
   cases (show v=.bl c from B.inv);refine⟨c,rfl,?_⟩;cases c with|true=>exact⟨ρ1,l,g,q.mono u,o,h⟩|false=>exact h.ret o _ (.bl false)
  |_=>exact h.elim⟩
def QeJ{rest:List Expr}(E:SE X a fa)(C:SE X (.BoolOp .Or (b::rest) pos) fb):SE X (.BoolOp .Or (a::b::rest) pos) (D2 fa fb):=
 (QaJ E C).of λσ H Q G=>G.el λρ l st q sr p=>⟨ρ,l,st,q,sr,p.bnd.imp λd g ρ1 I u o h v B=>by
  cases d with
  |bl c=>
   cases (show v=.bl c from B.inv);refine⟨c,rfl,?_⟩;cases c with|true=>exact h.ret o _ (.bl true)|false=>exact⟨ρ1,l,g,q.mono u,o,h⟩
  |_=>exact h.elim⟩
def QeK(v : ST X c ta)(C : SE X a fa)(B : SE X b fb): SE X (.IfExp c a b pos) (xi ta fa fb) := (Wt v C B).of λσ H Q E => E.el λρ l st h sr p => ⟨ρ, l, st, h, sr, p.bnd.imp λk g ρ1 G o q u => by
  cases k with
  |true=>exact⟨ρ1,l,g,h.mono o,q,u⟩
  |false=>exact⟨ρ1,l,g,h.mono o,q,u⟩⟩
end
theorem LR.set{K:ai}(h:LR K ρ H σ l)(i:Nat)(r:dD K ρ H v d):LR K ρ H (σ.set i (some v)) (l.set i (some d)):=by
 refine⟨by simp[h.1],λj e q=>?_⟩;by_cases z:i=j
 ·subst z;by_cases c:i < l.length
  ·rw[aE c]at q;cases q;exact⟨v,by rw[aE (by rw[h.1];exact c)],r⟩
  ·rw[cf (by simp;ext)]at q;cases q
 ·rw[aA z]at q;let⟨w,o,g⟩:=h.2 j e q;exact⟨w,by rw[aA z];exact o,g⟩
theorem LR.start{K:ai}(r:bV K ρ H c ds):LR K ρ H (L2.start N c) (ds.map some++bw (N.length-ds.length) none):=by
 let o:=r.length;unfold L2.start;refine⟨by simp[o],λi d e=>?_⟩;by_cases g:i < ds.length
 ·rw[av (by simpa using g),au]at e;cases q:ds[i]? with|none=>rw[q]at e;cases e|some d'=>
   rw[q]at e;let u:d'=d:=aF (aF e);subst u;let⟨v,l,h⟩:=r.get q;refine⟨v,?_,h⟩;rw[av (by simp;ext),au,l];rfl
 ·rw[aM (by simpa using g),fN]at e;split at e<;>cases e
section
variable{X:Cx}{a b c e tg:Expr}{pos:Pos}{ta tb:CT}{K:ai}{ρ:List ak}{H:Hp}{st:aV}
abbrev SG(X:Cx)(e:Expr)(g:CG):Prop:=PG X e (AJ X.K g)
abbrev Cd(X:Cx)(e:List Expr)(g:List D->Loc->M Loc):Prop:=PGs X e (EN X.K g)
def Z5{i:Nat}(h:PG X (.Name x pos) (vA i)):SG X (.Name x pos) (aS i):=h.of λv σ H Q g=>by let⟨ρ,l,st,d,q,sr,o,p⟩:=g;exact p.ret sr _ (q.set i o)
def US:Cd X [] gD:=ZK.of λq σ H Q g=>by
 let⟨ρ,l,st,ds,o,sr,h,p⟩:=g;cases h with|nil=>exact⟨rfl,p.ret sr σ o⟩|cons _ _=>exact p.elim
def SV(L:SG X e g)(J:Cd X es r)(I:(d_ (e::es) X.env).map (·.2)=pF e X.env::(d_ es X.env).map (·.2):=by rfl):Cd X (e::es) (cC g r):=
 (Uc L J I).of λO σ H Q h=>by
  let⟨ρ,l,st,ds,E,sr,q,p⟩:=h;cases q with|nil=>exact p.elim|cons rv rt=>exact⟨_,_,rfl,ρ,l,st,_,E,sr,rv,(aU.bnd p).imp λG o ρ1 U v B C σ1 u=>⟨ρ1,G,o,_,u,B,rt.mono v,C⟩⟩
def X2{k n:Nat}(C:X.calm=true)(h:Cd X es r)(B:(d_ es X.env).length=n:=by rfl)(o:(d_ es X.env).findIdx? (·.1)=none:=by rfl):SG X (.Tuple es k pos) (gq n r):=
 (SQ C h B o).of λv σ H Q g=>by
  let⟨ρ,l,st,d,u,sr,q,p⟩:=g;cases d with|tup ds_=>let⟨_,_,rfl,h,r⟩:=q.inv;exact⟨_,_,rfl,h,by rw[r.length];exact (aU.chk p).1,ρ,l,st,_,u,sr,r,(aU.chk p).2⟩|_=>exact p.elim
def TZ:xr X [] aW:=R0.of λG σ H h=>h.el λρ l st g sr p=>p.ret sr σ g
def XC(C:SS X s cs)(B:xr X ss cr):xr X (s::ss) (aP cs cr):=(OI C B).of λG σ H v=>v.el λρ l st u sr p=>⟨ρ,l,st,u,sr,p.bnd.imp λf o ρ1 I E g h=>by
 cases f with
 |next l'=>exact λσ' q=>⟨ρ1,l',o,q,g,h⟩|ret d=>exact h.ret g|brk l'=>exact h.ret g
 |cnt l'=>exact h.ret g⟩
def QeR:SS X s CM:=Yf.of λG σ H g=>g.el λρ l st h sr p=>p.elim
def TV(h:SE X e fa):SS X (.Return (some e) pos) (dQ fa):=(N2 h).of λG σ H C=>C.el λρ l st B sr p=>⟨ρ,l,st,B,sr,p.bnd.imp λd g ρ1 I E o u v q=>u.ret o v q⟩
def TC(h:SE X e fa)(C:ly e none pos.line X.env=pure false:=by rfl):SS X (.Expr e pos) (kq fa):=(VU h C).of λG σ H E=>E.el λρ l st g sr p=>
 ⟨ρ,l,st,g,sr,p.bnd.imp λd q ρ1 J o u B v I=>B.ret u σ (g.mono o)⟩
def T6(v:ST X c ta)(C:xr X ss cs)(B:xr X sr cr):SS X (.If c ss sr pos) (m9 ta cs cr):=(Vi v C B).of λG σ H E=>E.el λρ l st h sr p=>
 ⟨ρ,l,st,h,sr,p.bnd.imp λk g ρ1 I o q u=>by
  cases k with
  |true=>exact⟨ρ1,l,g,h.mono o,q,u⟩
  |false=>exact⟨ρ1,l,g,h.mono o,q,u⟩⟩
def Kw{q:TE}{tg:TG}(Y:∀σ H Q,A1 X.K fa σ H Q->q σ H Q)(U:∀v σ H Q,AJ X.K g v σ H Q->tg v σ H Q):∀G σ H,xo X.K (b8 g fa) G σ H->Ax q tg G σ H:=λG σ H c=>c.el λρ l st u sr p=>
 Y _ _ _ ⟨ρ,l,st,u,sr,p.bnd.imp λd h ρ1 H1 B I O v J=>U _ _ _ _ ⟨ρ1,l,h,d,u.mono B,I,J,O.bnd.imp λl2 C ρ2 H2 x2 E L σ2 o=>L.ret E σ2 o⟩⟩
def OV{i:Nat}:∀v σ H Q,AJ X.K (aS i) v σ H Q->vA i v σ H Q:=λv σ H Q g=>by let⟨ρ,l,st,d,o,sr,h,p⟩:=g;exact p.ret sr _ (o.set i h)
def SD{i : Nat}(B : X.N.Nodup)(q : X.N[i]? = some x)(l : L2.Loc X.env.scope x)(v : SE X e fa)(o : ly e (some (.Name x g)) pos.line X.env = pure false := by rfl)
  (u:X.fn x=true\/X.env.scope.names.lookup x=some .local:=by first|exact .inl rfl|exact .inr rfl|assumption):SS X (.Assign [.Name x g] e pos) (b8 (aS i) fa):=
 (T3 B q l v o u).of (Kw (λ_ _ _ h=>h) OV)
def ND(u : SE X e fa)(q : SG X tg g)(o : swapsWithSole [tg] e pos.line X.env = pure false := by rfl)(l : swappedStores [tg] e X.env = pure none := by rfl)
  (v:(d_ [tg] X.env).map (·.2)=[pF tg X.env]:=by rfl):SS X (.Assign [tg] e pos) (b8 g fa):=(SJ u q o l v).of (Kw (λ_ _ _ h=>h) λ_ _ _ _ h=>h)
theorem aU.storeK{n:Nat}(h:aU K ρ H (MM.storeK n k v st) R)(s:SR K ρ H st):∃b g,st[n]?=some (.dct b g)/\om b k=true/\g.length < fK/\aU K ρ H (.ok Unit.unit (st.set n (.dct b (nJ g k v)))) R:=by let⟨b,g,e,o⟩:=aU.getDc (aU.bnd h) s;let⟨⟨u,q⟩,l⟩:=aU.chk o;refine⟨b,g,e,u,q,?_⟩;unfold tP at l;rw[e]at l;simpa using l
def Gg(X:Cx):V->V->V->Hp->(Hp->Prop)->Prop:=λo i v H Q=>∃(ρ:List ak)(st:aV)(n:Nat)(a:ak)(b:Bool)(ar:List (D×D))(k d:D),o=.ref a/\SR X.K ρ H st/\ρ[n]?=some a/\st[n]?=some (.dct b ar)/\dD X.K ρ H i k/\om b k=true/\ar.length < sizeLine/\dD X.K ρ H v d /\
 ∀g,SR X.K ρ g (st.set n (.dct b (nJ ar k d)))->Ex ρ H ρ g->Q g
def Ux(hu:X.A.units+60 < cN):PSet X (Gg X):=by intro h s σ H o i v ov iv u Q I G L E g;let⟨ρ,st,n,a,b,U,k,d,eo,sr,ha,Y,J,hk,c,O,q⟩:=g;subst eo;cases G;exact VL () I sr ha Y J hk c O L E λl s' I' C B=>⟨l,I',q l C B⟩
def _root_.L2.PSet.or(h:PSet X t)(h':PSet X t'):PSet X (λo i v H Q=>t o i v H Q\/t' o i v H Q):=by
 intro g s σ H o i v E G u Q I B C l q;rcases q with q|q
 ·exact h g s σ H o i v E G u Q I B C l q
 ·exact h' g s σ H o i v E G u Q I B C l q
def Qe0(hu:X.A.units+60 < cN)(ho:SE X o to)(hi:SE X i ti)(ha:∀v,pF (.Subscript o i pos) X.env v=(do
   let ov <- lK [v] (eval o X.env)
   let iv <- lK [v,ov] (eval i X.env)
   zG pos
   lK [v,ov,iv] (pG ov iv v)
   Er [v,ov,iv] []):=by intro _;rfl):SG X (.Subscript o i pos) (kW to ti):=
 (WV ho hi (Qu.or (Ux hu)) ha).of λv σ H Q J=>by let⟨ρ,l,st,d,c,sr,rv,p⟩:=J;exact⟨ρ,l,st,c,sr,p.bnd.imp λy a7 ρ1 H1 O s1 p1 u ru=>⟨ρ1,l,a7,c.mono O,s1,p1.bnd.imp λz g ρ2 H2 L G Y w B=>by
  let I:=ru.mono L;let rd:dD X.K ρ2 H2 v d:=(rv.mono O).mono L;cases y with
  |ref n=>
   let⟨_,rfl,_,h⟩:=I.inv;cases z with
   |int k=>
    cases (show _=V.int k from B.inv);let⟨ds,e,U⟩:=aU.getL (aU.bnd (aU.bnd Y)) G;let⟨a,vs,ha,hv,r⟩:=G.seq e;rw[h]at ha;cases ha;cases e2:MM.oz ds.length k with|none=>rw[e2]at U;exact U.elim|some j=>
     rw[e2]at U;let hl:=(ae.mp e).1;let⟨E,C⟩:=G.put hl h hv (r.set j rd);refine .inl ⟨_,vs,k,j,rfl,rfl,hv,by rw[r.length];exact e2,?_⟩;let p4:aU X.K ρ2 H2 (putL _ (ds.set j d) g) _:=U;unfold putL at p4;rw[e]at p4;exact (p4 ρ2 _ C E).ret E σ (((c.mono O).mono L).mono C)
   |_=>exact (aU.bnd Y).elim
  |dic n=>
   let⟨a,rfl,_,h⟩:=I.inv;let p':aU X.K ρ2 H2 (storeK n z d g) λa st' ρ' H'=>aU X.K ρ' H' (MM.ret l st') λl' _ ρ' H'=>∀σ',LR X.K ρ' H' σ' l'->Q σ' H':=by cases B<;>exact aU.bnd Y
   let⟨b,ar,e1,hk,hl,q⟩:=aU.storeK p' G;exact .inr ⟨ρ2,g,n,a,b,ar,z,d,rfl,G,h,e1,B,hk,hl,rd,λH3 E C=>(q ρ2 H3 C E).ret E σ (((c.mono O).mono L).mono C)⟩
  |_=>exact (aU.bnd Y).elim⟩⟩
def Yw{K:ai}{k:Nat}(F:zC K x qual u f I)(S:mJ N ps (bc u))(q:∀(g:ah)(A:bM)(outer:List Env)(s:aq)(H:Hp)(E:XK),I.code=g->iJ k (A.deeper (oH qual (bc u) s.heap.objs.size f g))->xr (sD rm P w K mg base N qual (bc u) f g A outer s H E).nox (cP u) o):mX P w K mg base rm (k+1) f I ps (nh K ps.length (bW N.length o)):=by
 let⟨oc,od,kV,doc,pm,an,g,ct,Y,rfl,c,G⟩:=F.ex;refine Ow c G S (λL H Q E h=>h.1) λA outer s H L Q E hr h=>⟨_,(q g A outer s H E rfl hr).nox,?_⟩
 let⟨hl,ρ,st,ds,sr,C,p⟩:=h;refine⟨ρ,_,st,LR.start C,sr,?_⟩;unfold bW at p;exact p.bnd.imp λf O ρ1 H1 x1 J B=>by
  cases f with|next l=>exact λσ' _=>B.ret J _ .non|ret d=>exact λv U=>B.ret J v U|brk l=>exact B.elim|cnt l=>exact B.elim
noncomputable def IG(K:ai)(ρ0:List ak)(h:Hp)(w:Wk)(J:It):Prop:=∀ρ H st,Ex ρ0 h ρ H->SR K ρ H st->w.same st->J.stop w.ds.length H/\∀(i:Nat)(d:D),w.ds[i]?=some d->J.go i H/\∀x g,J.yld i H x g->Ex ρ H ρ g/\SR K ρ g st/\dD K ρ g x d
def GC(K:ai)(f:CI):TI:=λσ H R=>∃ρ l st,LR K ρ H σ l/\SR K ρ H st/\aU K ρ H (f l st) λw _ ρ' g=>∀J,IG K ρ' g w J->R J g
abbrev SI(X:Cx)(tg e:Expr)(f:CI):Prop:=PI X tg e (GC X.K f)
def _root_.L2.PI.of{t t':TI}(h:PI X tg e t)(f:∀σ H R,t' σ H R->t σ H R):PI X tg e t':=λg s σ H R I q=>h g s σ H R I (f σ H R q)
def L7{p:aV->Prop}{a:ak}(h:∀ρ H st,Ex ρ0 B ρ H->SR K ρ H st->p st->∃g,io K H a g/\bV K ρ H g ds):IG K ρ0 B ⟨ds,p⟩ (Jf K a):=λρ H st x s q=>by let⟨g,o,r⟩:=h ρ H st x s q;refine⟨⟨g,o,by rw[r.length];exact ay _⟩,λi d e=>?_⟩;let⟨v,u,C⟩:=r.get e;refine⟨⟨g,v,o,u⟩,λy I l=>?_⟩;let⟨G,E⟩:=l;subst G;have:=E g o;rw[u]at this;cases this;exact⟨Ex.refl,s,C⟩
def ZZ{p:aV->Prop}{a:ak}(h:∀ρ H st,Ex ρ0 B ρ H->SR K ρ H st->p st->∃g,mU K H a g/\bV K ρ H g ds):IG K ρ0 B ⟨ds,p⟩ (MQ K a):=λρ H st x s q=>by let⟨g,o,r⟩:=h ρ H st x s q;refine⟨⟨g,o,by rw[r.length];exact ay _⟩,λi d e=>?_⟩;let⟨v,u,C⟩:=r.get e;refine⟨⟨g,v,o,u⟩,λy I l=>?_⟩;let⟨G,E⟩:=l;subst G;have:=E g o;rw[u]at this;cases this;exact⟨Ex.refl,s,C⟩
def OG{lo:Int}{n:Nat}:IG K ρ0 q ⟨i9 lo n,eS⟩ (HE lo n):=λρ H st x s _=>by
 refine⟨by show n<=(i9 lo n).length;unfold i9;simp,λi d e=>?_⟩;let h:i < n:=by have:=(ae.mp e).1;simpa [i9] using this
 refine⟨h,λy u g=>?_⟩;let⟨o,l⟩:=g;subst o l;have:d=.int (lo+(i:Nat)):=by unfold i9 at e;rw[au,mq h]at e;exact (aF e).symm
 subst this;exact⟨Ex.refl,s,.int _⟩
def TF(U:PE X l L):PI X tg l (λσ H R=>L σ H λx B=>∃a,x=.ref a/\((∃xs,io X.K B a xs)/\R (Jf X.K a) B\/(∃xs,mU X.K B a xs)/\R (MQ X.K a) B)):=by
 intro E s σ H R I h;refine gA (U E s σ H _ I h) λv g C=>?_;let⟨x,B,u,Q,a,e,q⟩:=C;subst e;cases Q;rcases q with ⟨⟨xs,G⟩,q⟩|⟨⟨xs,G⟩,q⟩
 ·let⟨its,O,p,hz⟩:=u.list G;refine g8 p.isList ?_;refine⟨g.heap.objs.size,[g.heap.objs.size],_,_,B,rfl,u.kept (t':=g.toks) λb o e=>am _ e,QS a _,⟨_,aC _ rfl,rfl,rfl⟩,λb J=>?_,q⟩;let e:b=g.heap.objs.size:=by simpa using J
  subst e;exact u.fpOk (ay _) (u.hok.fresh (ay _))
 ·let⟨its,O,p,hz⟩:=u.tuple G;refine nR (show g.heap.IsTuple a its.toArray from p) ?_;refine⟨g.heap.objs.size,[g.heap.objs.size],_,_,B,rfl,u.kept (t':=g.toks) λb o e=>am _ e,W1 a _,⟨_,aC _ rfl,rfl,rfl⟩,λb J=>?_,q⟩;let e:b=g.heap.objs.size:=by simpa using J
  subst e;exact u.fpOk (ay _) (u.hok.fresh (ay _))
def Wx(h:SE X e fa):SI X tg e (iV fa):=(TF h).of λσ H R U=>U.el λρ l st L sr p=>⟨ρ,l,st,L,sr,p.bnd.imp λd I ρ1 H1 Y o B v E=>by
 cases d with
 |tup ds=>let⟨a,g,rfl,h,r⟩:=E.inv;exact⟨a,rfl,.inr ⟨⟨g,h⟩,B.ret o _ (ZZ λρ H st x s _=>⟨g,mU.mono x.up h,r.mono x⟩)⟩⟩|lit ds=>let⟨a,g,rfl,h,r⟩:=E.inv;exact⟨a,rfl,.inl ⟨⟨g,h.seq⟩,B.ret o _ (L7 λρ H st x s _=>⟨g,(zY.mono x.up h).seq,r.mono x⟩)⟩⟩|ref n=>
  let⟨a,rfl,_,h⟩:=E.inv;let⟨ds,e,J⟩:=aU.getL (aU.bnd B) o;let⟨a',g,G,Q,r⟩:=o.seq e;rw[h]at G;cases G;refine⟨a,rfl,.inl ⟨⟨g,io.of Q⟩,J.ret o _ (L7 λρ H st x s q=>?_)⟩⟩;let⟨c,ws,u,O,C⟩:=s.seq q;let⟨τ,eτ,_⟩:=x.pre;rw[eτ,xl h]at u;cases u;exact⟨ws,io.of O,C⟩
 |_=>exact B.elim⟩
def Qe7(h:SL X e ca):SI X tg e (zl ca):=(ZT h).of λσ H R G=>G.el λρ l st E sr p=>⟨ρ,l,st,E,sr,p.bnd.imp λds u ρ1 L I v B a g J C q o=>
 ⟨a,rfl,⟨g,io.of q⟩,B.ret v _ (L7 λρ H st x s _=>⟨g,io.of (x.lst a g C q),o.mono x⟩)⟩⟩
def Tg(C:Gl X "range")(B:X.mg "range"=none)(h:SE X a fa)(o:starEach [a] X.env=[(false,eval a X.env)]:=by rfl):SI X tg (.Call (.Name "range" p) [a] [] pos) (MM.gw fa):=
 (Qa9 (tg:=tg) (p:=p) (pos:=pos) C B (OQ h OF o) o).of λσ H R E=>E.el λρ l st v sr p=>⟨ρ,l,st,v,sr,by
  let q:=aU.bnd p;unfold aw
  show aU X.K ρ H (bnd (fa l) _ st) _;unfold MM.bnd;cases e:fa l st with|bad=>rw[e]at q;exact q|exc _ _=>rw[e]at q;exact q|ok d a7=>
   rw[e]at q
   show ∀ρ' H',Ex ρ H ρ' H'->SR X.K ρ' H' a7->_;intro ρ1 H1 x1 s1 vs rvs;let g:=q ρ1 H1 x1 s1;cases rvs with|cons rv rt=>
    cases rt;cases rv with
    |int j=>
     let⟨⟨I,G⟩,u⟩:=aU.chk g;exact⟨j,rfl,I,G,u.ret s1 _ OG⟩
    |_=>exact g.elim⟩
theorem aU.chkS(h:aU K ρ H (MM.chkS p st) R)(s:SR K ρ H st):p st/\R Unit.unit st ρ H:=by
 unfold MM.chkS at h;by_cases g:p st
 ·rw[aJ g]at h;exact⟨g,h ρ H Ex.refl s⟩
 ·rw[az g]at h;exact h.elim
def Qe9{cb:CS}(hp:uC (aY X.prog X.w) X.A X.env X.xe)(hc:X.calm=true)(hi:SI X tg iter ci)(hg:SG X tg g)(hb:xr X u cb)(hs:∀x,fS iter X.env x=pure x:=by intro _;rfl):SS X (.For tg iter u [] pos) (lE ci g cb):=(S_ hp hc hi hg hb hs).of λG σ H h_=>h_.el λρ l st lr sr p=>
 ⟨ρ,l,st,lr,sr,p.bnd.imp λw Y ρ1 H1 x1 s1 p1 J hJ=>by
  refine⟨λi m σ' h=>m=w.ds.length-i/\i<=w.ds.length/\∃ρ' l' st',Ex ρ1 H1 ρ' h/\LR X.K ρ' h σ' l'/\SR X.K ρ' h st'/\aU X.K ρ' h (pz g cb w.same (w.ds.drop i) l' st') λf _ ρ' h=>match f with
   | .next l'=>∀σ',LR X.K ρ' h σ' l'->G.nx σ' h| .ret d=>∀v,dD X.K ρ' h v d->G.rt v h| .brk l'=>∀σ',LR X.K ρ' h σ' l'->G.bk σ' h
   | .cnt l'=>∀σ',LR X.K ρ' h σ' l'->G.ct σ' h,⟨w.ds.length,by simp,bH _,ρ1,l,Y,Ex.refl,lr.mono x1,s1,p1⟩,?_⟩
  rintro i m σ2 H2 ⟨rfl,hi,ρ2,l2,st2,x2,lr2,s2,p2⟩
  by_cases B:i < w.ds.length
  ·let ed:w.ds.drop i=w.ds[i]::w.ds.drop (i+1):=dF B;rw[ed]at p2;unfold pz at p2;let⟨sm,p3⟩:=aU.chkS (aU.bnd p2) s2;let⟨_,go⟩:=hJ ρ2 H2 st2 x2 s2 sm;let⟨g1,g2⟩:=go i w.ds[i] (af B);refine .inr ⟨g1,λσ3 C=>∃ρ3 l3 st3,Ex ρ1 H1 ρ3 C/\LR X.K ρ3 C σ3 l3/\SR X.K ρ3 C st3/\aU X.K ρ3 C (pz g cb w.same (w.ds.drop (i+1)) l3 st3) λf _ ρ' h=>match f with
    | .next l'=>∀σ',LR X.K ρ' h σ' l'->G.nx σ' h| .ret d=>∀v,dD X.K ρ' h v d->G.rt v h| .brk l'=>∀σ',LR X.K ρ' h σ' l'->G.bk σ' h
    | .cnt l'=>∀σ',LR X.K ρ' h σ' l'->G.ct σ' h,λσ3 C q=>⟨_,by ext,rfl,B,q⟩,λy C hy=>?_⟩
   let⟨Q,Y,c⟩:=g2 y C hy;refine⟨ρ2,l2,st2,_,lr2.mono Q,Y,c,(aU.left Q (aU.bnd p3)).imp λl4 U ρ4 H4 H J p4 σ4 l=>⟨ρ4,l4,U,l,J,(aU.bnd p4).imp λf I ρ5 H5 u L O=>?_⟩⟩;let E:Ex ρ1 H1 ρ5 H5:=(x2.trans Q).trans (H.trans u);cases f with|next l5=>exact λσ5 o=>⟨ρ5,l5,I,E,o,L,O⟩|cnt l5=>exact λσ5 o=>⟨ρ5,l5,I,E,o,L,O⟩|brk l5=>exact λσ5 o=>O.ret L σ5 o|ret d=>exact λv c=>O.ret L v c
  ·let e:i=w.ds.length:=by ext
   subst e;rw[Ah]at p2;unfold pz at p2;let⟨sm,p3⟩:=aU.chkS (aU.bnd p2) s2;let⟨g1,_⟩:=hJ ρ2 H2 st2 x2 s2 sm;exact .inl ⟨g1,p3.ret s2 σ2 lr2⟩⟩
end
section
variable{X:Cx}{a b c e tg:Expr}{ta tb:CT}{K:ai}{ρ:List ak}{H:Hp}{st:aV}{id T:String}
def SN{n:Nat}(h:LR K ρ H σ l):LR K ρ H (Ao n ix σ) (ii n ix l):=by
 unfold Ao ii;refine⟨by simp,λi d e=>?_⟩;let u:n<=i:=sK λz=>by rw[av (by simpa using z),fN]at e;split at e<;>cases e
 rw[aM (by simpa using u),fH,au]at e;cases q:ix[i-n]? with|none=>rw[q]at e;cases e|some k=>
  rw[q]at e;let g:(l[k]?).join=some d:=aF e;let E:l[k]?=some (some d):=by
   cases z:l[k]? with|none=>rw[z]at g;cases g|some o=>rw[z]at g;exact cQ some g
  let⟨v,C,B⟩:=h.2 k d E;refine⟨v,?_,B⟩;rw[aM (by simpa using u),fH,au,q]
  show some ((σ[k]?).join)=some (some v);rw[C];rfl
abbrev y_(X:Cx)(g:List Expr)(t:CT):Prop:=xB X g (rD X.K t)
def XS:y_ X [] bZ:=λg s σ H Q I h=>h.el λρ l st o sr p=>Vz g s σ H Q I (p.ret sr)
def UZ(h:ST X c ta):y_ X [c] ta:=ZD h
def Ex.own(x:Ex ρ H ρ' g)(h:H q=none):Ex ρ H ρ' (fT g q (.lst ws)):=by
 let ne:∀b o,H b=some o->b≠q:=λb o e z=>by rw[z,h]at e;cases e
 exact⟨x.pre,λb o l e=>by rw[gB (ne b o e)];exact x.fix b o l e,λb xs u e=>by rw[gB (ne b _ e)];exact x.oth b xs u e,λb o e=>by rw[gB (ne b o e)];exact x.knd b o e⟩
def Up.own{g:Hp}(h:g q=some (.lst l)):Up ρ' g ρ' (fT g q (.lst ws)):=
 ⟨⟨[],by simp⟩,λb o u e=>by rw[gB λz=>by subst z;rw[h]at e;cases e;exact nomatch u];exact e,
  λb o e=>by
   by_cases z:b=q
   ·subst z;rw[h]at e;cases e;exact⟨_,lH,rfl⟩
   ·exact⟨o,by rw[gB z];exact e,rfl⟩⟩
theorem LR.up(x:Up ρ H ρ' g)(h:LR K ρ H σ l):LR K ρ' g σ l:=⟨h.1,λi d e=>let ⟨v,e1,r⟩:=h.2 i d e;⟨v,e1,r.up x⟩⟩
theorem SR.own(s:SR K ρ H st)(h:H q=some (.lst l))(u:q∉ρ):SR K ρ (fT H q (.lst ws)) st:=
 ⟨s.len,s.nd,λn b o g v=>og.mono (o:=o) (Up.own h) (s.ob n b o g v) λB e=>by rw[gB (λ(z:b=q)=>u (by rw[<- z];exact ax g))];exact e⟩
def N1{n:Nat}:∀σ H Q,E1 K (dR n ix ci g ta fa) σ H Q->wA (GC K ci) n ix (AJ K g) (rD K ta) (A1 K fa) σ H Q:=λσ H Q h_=>h_.el λρ l st lr sr p=>
 ⟨ρ,l,st,lr,sr,p.bnd0.imp λw a7 ρ1 H1 x1 s1 p1 J hJ q hq=>by
  let⟨hz,p2⟩:=aU.chk p1;let hn:H q=none:=by
   cases z:H q with|none=>rfl|some o=>exact bo hq (x1.trk q o z)
  obtain⟨J0,I⟩:∃J0:Nat->Nat->St->Hp->Prop,J0=λi m σ' O=>m=w.ds.length-i/\i<=w.ds.length/\∃ρ' l' st' done h,Ex ρ H ρ' O/\Ex ρ1 H1 ρ' O/\LR K ρ' O σ' l'/\SR K ρ' O st'/\q∉ρ'/\O q=some (.lst h)/\bV K ρ' O h done/\done.length<=i /\
   aU K ρ H (collect g ta fa w.same (w.ds.drop i) l' st') (λrest B ρ2 u=>∀a ws,H a=none->a∉ρ2->u a=some (.lst ws)->bV K ρ2 u ws (done++rest)->Q (.ref a) u):=⟨_,rfl⟩
  refine⟨J0,
   ⟨w.ds.length,by rw[I];exact⟨by simp,bH _,ρ1,ii n ix l,a7,[],[],x1.trans (Ex.new hq),Ex.new hq,SN ((lr.mono x1).mono (Ex.new hq)),s1.new hq,s1.fresh hq,lH,.nil,bH _,p2⟩⟩,?_⟩
  intro i m σ2 u hj;rw[I]at hj;let⟨rfl,hi,ρ2,l2,B,done,h,L,y2,lr2,s2,nq,hv,C,hd,p3⟩:=hj;by_cases G:i < w.ds.length
  ·let ed:w.ds.drop i=w.ds[i]::w.ds.drop (i+1):=dF G;rw[ed]at p3;unfold collect at p3;let⟨sm,p4⟩:=aU.chkS (p3.bnd0.left L) s2;let⟨_,go⟩:=hJ ρ2 u B y2 s2 sm;let⟨g1,g2⟩:=go i w.ds[i] (af G);refine .inr ⟨g1,λy H3 hy=>?_⟩;let⟨J,s3,rv⟩:=g2 y H3 hy;refine⟨ρ2,l2,B,_,lr2.mono J,s3,rv,(p4.bnd0.left (L.trans J)).imp λQ st4 ρ4 H4 x4 s4 p5 σ4 E=>⟨ρ4,Q,st4,E,s4,(p5.bnd0.left (L.trans (J.trans x4))).imp λb o ρ5 H5 H s5 p6=>?_⟩⟩;let U:Ex ρ2 u ρ5 H5:=J.trans (x4.trans H);let Y:∀{ρ':List ak}{O:Hp},Ex ρ2 u ρ' O->q∉ρ':=λz l=>by
    let⟨τ,e,f⟩:=z.pre;rw[e]at l;rcases aO.mp l with l|l
    ·exact nq l
    ·rw[f q l]at hv;cases hv
   cases b with|false=>exact⟨w.ds.length-(i+1),by ext,by rw[I];exact⟨rfl,G,ρ5,Q,o,done,h,L.trans U,y2.trans U,E.mono H,s5,Y U,U.lst q h nq hv,C.mono U,Nat.le_succ_of_le hd,p6⟩⟩|true=>
    refine⟨ρ5,Q,o,E.mono H,s5,(p6.bnd0.left (L.trans U)).imp λd st6 ρ6 H6 x6 s6 p7 v rv6=>?_⟩;let g:Ex ρ2 u ρ6 H6:=U.trans x6;let c:=g.lst q h nq hv;let u6:Up ρ6 H6 ρ6 (fT H6 q (.lst (h++[v]))):=Up.own c;refine⟨h,c,?_,w.ds.length-(i+1),by ext,?_⟩
    ·let g:=C.length;let c:w.ds.length<=sizeLine:=hz;ext
    ·rw[I];refine⟨rfl,G,ρ6,Q,st6,done++[d],h++[v],(L.trans g).own hn,(y2.trans g).own hq,LR.up u6 ((E.mono H).mono x6),s6.own c (Y g),Y g,lH,
     bV.app ((C.mono g).up u6) (.cons (rv6.up u6) .nil),by simp;ext,?_⟩
     refine p7.bnd0.imp λrest q ρ8 H8 o u B a ws U J O l=>?_;exact B ρ8 H8 o u a ws U J O (by rw[List.append_cons];exact l)
  ·let e:i=w.ds.length:=by ext
   subst e;rw[Ah]at p3;unfold collect at p3;let⟨sm,p4⟩:=aU.chkS (p3.bnd0.left L) s2;let⟨g1,_⟩:=hJ ρ2 u B y2 s2 sm;refine .inl ⟨g1,p4 ρ2 u L s2 q h hn nq hv (by rw[bB];exact C)⟩⟩
def Qfe{n:Nat}(v:X.calm=true)(S:iI X scope)(T:lv X scope N n ix)(u:SI X tg b o)(l:∀(fp:List ak)(s:aq)(H:Hp),SG (pL X N scope fp s H) tg g/\y_ (pL X N scope fp s H) h ta/\SE (pL X N scope fp s H) e fa)(q:∀x,fS b X.env x=pure x:=by intro _;rfl):SL X (.ListComp e [⟨tg,b,h,0⟩] scope pos) (dR n ix o g ta fa):=(Tt v S T u l q).of N1
def S3{n i:Nat}{o h:Pos}(hN:X.N.Nodup) (E:X.N[i]?=some y) (hy:L2.Loc X.env.scope y) (hf:X.fn y=true\/X.env.scope.names.lookup y=some .local)(hc:X.calm=true) (S:iI X scope) (T:lv X scope N n ix) (hi:SI X tg b L)(G:∀(fp:List ak)(s:aq)(H:Hp),SG (pL X N scope fp s H) tg g/\y_ (pL X N scope fp s H) q ta/\SE (pL X N scope fp s H) e fa)(C:ly (.ListComp e [⟨tg,b,q,0⟩] scope pos) (some (.Name y o)) h.line X.env=pure true)(hs:∀x,fS b X.env x=pure x:=by intro _;rfl):SS X (.Assign [.Name y o] (.ListComp e [⟨tg,b,q,0⟩] scope pos) h) (b8 (aS i) (eK (dR n ix L g ta fa))):=
 (W3 hN E hy hf hc S T hi G C hs).of (Kw (λσ H Q h_=>h_.el λρ l st lr sr p=>N1 _ _ _ ⟨ρ,l,st,lr,sr,p.bnd0.imp λds U ρ1 O v I Y a vs ha c J B=>by
  let x:Ex ρ H (ρ1++[a]) O:=by
   let⟨τ,e,f⟩:=v.pre;refine⟨⟨τ++[a],by rw[e,bz],λb u=>?_⟩,v.fix,v.oth,v.knd⟩;rcases aO.mp u with u|u
   ·exact f b u
   ·rw[aI]at u;rw[u];exact ha
  refine Y (ρ1++[a]) O x (I.keep J c B) _ (.ref ⟨_,J,rfl⟩ ?_);rw[<- I.len];simp⟩) OV)
def Jc(O : CallR X (.builtin id) (λxs H Q => ∃v, xs = [v] /\ xY X.K g v H Q))(L : Gl X x)(J : X.mg x = none)(G : dg x = some (.builtin id))(U : SE X e fa)(I : x ≠ "__name__" := by decide)(o : (x == ("__debug__" : Str)) = false := by decide)
  (q:starEach [e] X.env=[(false,eval e X.env)]:=by rfl):SE X (.Call (.Name x p) [e] [] pos) (c1 g fa):=
 (Jj O L J G (sA U vI q) I o q rfl).of λσ H Q Y=>Y.el λρ l st E sr p=>⟨ρ,l,st,E,sr,p.bnd.imp λd h ρ1 H1 c u C v B=>⟨v,rfl,ρ1,h,d,u,B,C⟩⟩
def Kl(O : CallR X (.type T) (λxs H Q => ∃v, xs = [v] /\ xY X.K g v H Q))(L : Gl X x)(J : X.mg x = none)(G : dg x = some (.type T))(U : SE X e fa)(I : x ≠ "__name__" := by decide)(o : (x == ("__debug__" : Str)) = false := by decide)
  (q:starEach [e] X.env=[(false,eval e X.env)]:=by rfl):SE X (.Call (.Name x p) [e] [] pos) (c1 g fa):=
 (Rj O L J G (sA U vI q) I o q rfl).of λσ H Q Y=>Y.el λρ l st E sr p=>⟨ρ,l,st,E,sr,p.bnd.imp λd h ρ1 H1 c u C v B=>⟨v,rfl,ρ1,h,d,u,B,C⟩⟩
def Bz(K:ai)(g:List D->M D):List V->Hp->VK->Prop:=λxs H Q=>∃a h ρ st ds,xs=[.ref a]/\io K H a h/\SR K ρ H st/\bV K ρ H h ds/\aU K ρ H (g ds st) λr _ ρ' l=>∀v,dD K ρ' l v r->Q v l
def IR(U : CallR X (.builtin id) (Bz X.K g))(O : Gl X x)(L : X.mg x = none)(q : dg x = some (.builtin id))(B : SL X e ca)(J : x ≠ "__name__" := by decide)(u : (x == ("__debug__" : Str)) = false := by decide)
  (v:starEach [e] X.env=[(false,eval e X.env)]:=by rfl):SE X (.Call (.Name x p) [e] [] pos) (i_ g ca):=
 (Jj U O L q (sA B vI v) J u v rfl).of λσ H Q Y=>Y.el λρ l st I sr p=>⟨ρ,l,st,I,sr,p.bnd.imp λds h ρ1 H1 c E G a C B na q o=>⟨a,C,ρ1,h,ds,rfl,io.of q,E,o,G⟩⟩
def Xk(U : CallR X (.type T) (Bz X.K g))(O : Gl X x)(L : X.mg x = none)(q : dg x = some (.type T))(B : SL X e ca)(J : x ≠ "__name__" := by decide)(u : (x == ("__debug__" : Str)) = false := by decide)
  (v:starEach [e] X.env=[(false,eval e X.env)]:=by rfl):SE X (.Call (.Name x p) [e] [] pos) (i_ g ca):=
 (Rj U O L q (sA B vI v) J u v rfl).of λσ H Q Y=>Y.el λρ l st I sr p=>⟨ρ,l,st,I,sr,p.bnd.imp λds h ρ1 H1 c E G a C B na q o=>⟨a,C,ρ1,h,ds,rfl,io.of q,E,o,G⟩⟩
def VZ{s:aq}{K:Type}[DecidableEq K]{knd:pc prog w K}{xs:List (K×ak×ah)}{Q:ah->aq->Prop}(hd:(d == cJ)=false)(q:s.heap.DictOfH knd d xs)(hfit:(xs.length:Int) < 2^63)(h:Q (.int xs.length (s.toks+1)) { s with toks:=s.toks+1+1 }):aH (aY prog w) A (call (.builtin "len") [.ref d]) Q E s:=by
 refine Calls.call_function_entry kind_len plain_len entry_len (args_len1 _) ?_;unfold Builtin.«len»;let l:Ez prog w (Builtin.«dict.__len__» ⟨[.ref d],[]⟩) (λ_ R s=>∃xs,s.heap.DictOfH knd d xs/\R (.ok (.ret (.int xs.length s.toks))) { s with toks:=s.toks+1 }):=.of_wp λA R s g=>by
  let⟨xs,q,h⟩:=g;let⟨o,es,ep,v,G,u,B,_,C⟩:=q
  show aH _ _ (dictSize d >>= _) _ _ s;unfold dictSize;refine ab (ab (dH v u (aj ?_)))
  show aH _ _ (Builtin.Dict.pendingCount d >>= _) _ _ s;refine ab (wpAny_pendingCount_other hd ?_);refine Jy ?_;rw[Im,iL B];exact h
 refine ab (m:=oneArg "len" _) (aj ?_);refine ab (m:=callSpecial? (.ref d) (aD "__len__")) (bX (name:=aD "__len__") q.typeIs EA
  (tF EA q.typeIs F.entry_dict_len (F.args_dict_len_1 _) l ⟨xs,q,?_⟩))
 show aH _ _ _ _ _ { s with toks:=s.toks+1 };refine ab (cw (aj ?_));refine ab (ke ?_)
 show aH _ _ (if ((xs.length:Nat):Int) < 0 then _ else _) _ _ _;rw[az ()]
 show aH _ _ (if ((xs.length:Nat):Int) ≥ 2^63 then _ else _) _ _ _;rw[az ()];exact ab (wpAny_mkInt (aj ⟨_,rfl,h⟩))
def V_:CallR X (.builtin "len") (λxs H Q=>∃(ρ:List ak)(st:aV)(n:Nat)(a:ak)(b:Bool)(l:List (D×D)),xs=[.ref a]/\SR X.K ρ H st/\ρ[n]?=some a/\st[n]?=some (.dct b l)/\Q (.int l.length) H):=by
 intro v s σ H xs L Q I r h;let⟨ρ,st,n,a,b,l,e,sr,E,C,q⟩:=h;subst e;let⟨u,rfl,B⟩:=wJ r;cases B;let g:=sr.ob n a _ E C;cases b with
 |false=>
  let⟨es,e,r⟩:=g;rw[<- KR.length r]at q;exact W2 I (.inl e) λt O J=>⟨.int es.length,H,J,⟨t,rfl⟩,q⟩
 |true=>
  let⟨es,e,r⟩:=g;let⟨z,hd,xs,o,G,_⟩:=x_ I e r;rw[<- NR.length r,cZ o]at q;let hz:xs.length<=sizeLine:=by rw[<- cZ o];exact z
  exact VZ hd G (by rw[mG]at hz;ext) ⟨.int xs.length,H,I.tok _,⟨_,rfl⟩,q⟩
def UR:CallR X (.builtin "len") (λxs H Q=>∃v,xs=[v]/\xY X.K gI v H Q):=((Ug.or Sh).or V_).of λxs H Q l=>by
 let⟨v,e,ρ,st,d,sr,C,p⟩:=l;cases C with
 |@tup a g ds h r=>exact .inl (.inl ⟨a,g,e,.inr h,by rw[r.length];exact p.ret sr _ (.int _)⟩)|@lit a g ds h r=>exact .inl (.inl ⟨a,g,e,.inl h.seq,by rw[r.length];exact p.ret sr _ (.int _)⟩)|@ref a n _ h=>
  let⟨ds,u,o⟩:=aU.getL (aU.bnd p) sr;let⟨G,g,B,E,r⟩:=sr.seq u;rw[h]at B;cases B;exact .inl (.inl ⟨a,g,e,.inl (io.of E),by rw[r.length];exact o.ret sr _ (.int _)⟩)
 |str z=>exact .inl (.inr ⟨z,e,(aU.chk p).1,(aU.chk p).2.ret sr _ (.int _)⟩)|@dic a n _ h=>
  let⟨b,q,u,o⟩:=aU.getDc (aU.bnd p) sr;exact .inr ⟨ρ,st,n,a,b,q,e,sr,h,u,o.ret sr _ (.int _)⟩
 |_=>exact p.elim
def ZN:CallR X (.type "int") (λxs H Q=>∃v,xs=[v]/\xY X.K intD v H Q):=Um.of λxs H Q g=>by
 let⟨v,e,ρ,st,d,sr,h,p⟩:=g;cases h with|int i=>exact .inl ⟨i,e,p.ret sr _ (.int _)⟩|bl k=>exact .inr ⟨k,e,p.ret sr _ (.int _)⟩|_=>exact p.elim
def YO:CallR X (.type "tuple") (λxs H Q=>∃v,xs=[v]/\xY X.K tupleD v H Q):=QB.of λxs H Q q=>by
 let⟨v,e,ρ,st,d,sr,B,p⟩:=q;cases B with
 |@tup a o ds h r=>exact⟨a,o,e,.inr ⟨h,p.ret sr _ (.tup h r)⟩⟩|@lit a o ds h r=>exact⟨a,o,e,.inl ⟨h.seq,λl g=>p ρ _ (Ex.new g) (sr.new g) _ (.tup (mU.of lH) (r.mono (Ex.new g)))⟩⟩|@ref a n _ h=>
  let⟨ds,G,C⟩:=aU.getL (aU.bnd p) sr;let⟨I,o,u,E,r⟩:=sr.seq G;rw[h]at u;cases u;exact⟨a,o,e,.inl ⟨io.of E,λl g=>C ρ _ (Ex.new g) (sr.new g) _ (.tup (mU.of lH) (r.mono (Ex.new g)))⟩⟩
 |_=>exact p.elim
def WG:CallR X (.type "tuple") (Bz X.K lU):=QB.of λxs H Q g=>
 by let⟨a,o,ρ,st,ds,e,q,sr,r,p⟩:=g;exact⟨a,o,e,.inl ⟨q,λl h=>p ρ _ (Ex.new h) (sr.new h) _ (.tup (mU.of lH) (r.mono (Ex.new h)))⟩⟩
end
section
variable{X:Cx}{ta tb:CT}{K:ai}{st:aV}
def Fz(h:lQ ds=some o)(g:bV K ρ H l ds):l=o.map V.int:=by
 induction ds generalizing o l with|nil=>cases g;cases h;rfl|cons d ds ih=>
  cases g with|cons r t=>
   cases r with
   |int i=>
    unfold lQ at h;cases q:lQ ds with|none=>rw[q]at h;cases h|some ms=>
     rw[q]at h;let h':i::ms=_:=aF h;subst h';rw[ih q t];rfl
   |_=>cases h
theorem Je:∀{ds:List D}{l:List Bool}{g:List V},i7 ds=some l->bV K ρ H g ds->g=l.map V.bl
 |[],_,_,h,.nil=>by cases h;rfl
 | .bl i::ds,_,_,h,.cons r t=>by
  unfold i7 at h;cases q:i7 ds with|none=>rw[q]at h;cases h|some ms=>
   rw[q]at h;let h':i::ms=_:=aF h;subst h';cases r;rw[Je q t];rfl
 | .non::_,_,_,h,_=>by cases h| .int _::_,_,_,h,_=>by cases h| .str _::_,_,_,h,_=>by cases h| .tup _::_,_,_,h,_=>by cases h| .lit _::_,_,_,h,_=>by cases h| .ref _::_,_,_,h,_=>by cases h
theorem MZ:∀{bs:List Bool}{g:List ah},cj (bs.map V.bl) g->g=bs.map dE
 |[],_,.nil=>rfl|_::_,_,.cons r t=>by cases r;rw[MZ t];rfl
def WJ(hc:X.calm=true):CallR X (.builtin "all") (λxs H Q=>∃(l:ak)(bs:List Bool),xs=[.ref l]/\io X.K H l (bs.map V.bl)/\Q (.bl (bs.all id)) H):=by
 intro O s σ H xs us Q I r h;let⟨l,bs,rfl,hq,q⟩:=h;let⟨u,rfl,rx⟩:=wJ r;cases rx;let⟨its,rv,C,hz⟩:=I.list hq;let ei:=MZ rv;subst ei;refine call_all_walk (g8 C.isList ?_);let G:l < s.heap.objs.size:=by let⟨o,E,_⟩:=C.isList;exact aK E
 refine⟨s.heap.objs.size,_,_,_,_,_,λi=>(bs[i]?).getD true,rfl,tG (A:=X.A.in1) (I.ok.hd hc) s.heap.objs.size l (bj G) (bs.map dE).toArray,⟨⟨_,aC _ rfl,rfl,rfl⟩,?_⟩,?_,λh' c J=>?_⟩
 ·let⟨o,E,c⟩:=C.isList;exact⟨o,am _ E,c⟩
 ·intro i v h l o c L;let g:(bs.map dE)[i]?=some v:=by simpa using c
  rw[au]at g;dsimp only at L;cases e:bs[i]? with|none=>rw[e]at g;cases g|some k=>
   rw[e]at g L;have:v=dE k:=(aF g).symm;subst this;exact fR L
 ·let e : (b_ (bs.map dE).toArray.size).all (λi => (bs[i]?).getD true) = bs.all id := by
    let g:(bs.map dE).toArray.size=bs.length:=by simp
    rw[g,sR,cU,cU];constructor
    ·intro hh k J;let⟨i,B⟩:=gG J;have:=hh i (dY.mpr (ae.mp B).1);rw[B]at this;exact this
    ·intro hh i B;let U:=dY.mp B;rw[af U];exact hh _ (a_ U)
  rw[e];exact⟨.bl _,H,I.kept (t':=c) λb o Y=>J b o (by simp;exact bj (aK Y)) (am _ Y),rfl,q⟩
def Qfu(hc:X.calm=true):CallR X (.builtin "any") (λxs H Q=>∃(l:ak)(bs:List Bool),xs=[.ref l]/\io X.K H l (bs.map V.bl)/\Q (.bl (bs.any id)) H):=by
 intro O s σ H xs us Q I r h;let⟨l,bs,rfl,hq,q⟩:=h;let⟨u,rfl,rx⟩:=wJ r;cases rx;let⟨its,rv,C,hz⟩:=I.list hq;let ei:=MZ rv;subst ei;refine call_any_walk (g8 C.isList ?_);let G:l < s.heap.objs.size:=by let⟨o,E,_⟩:=C.isList;exact aK E
 refine⟨s.heap.objs.size,_,_,_,_,_,λi=>(bs[i]?).getD true,rfl,tG (A:=X.A.in1) (I.ok.hd hc) s.heap.objs.size l (bj G) (bs.map dE).toArray,⟨⟨_,aC _ rfl,rfl,rfl⟩,?_⟩,?_,λh' c J=>?_⟩
 ·let⟨o,E,c⟩:=C.isList;exact⟨o,am _ E,c⟩
 ·intro i v h l o c L;let g:(bs.map dE)[i]?=some v:=by simpa using c
  rw[au]at g;dsimp only at L;cases e:bs[i]? with|none=>rw[e]at g;cases g|some k=>
   rw[e]at g L;have:v=dE k:=(aF g).symm;subst this;exact fR L
 ·let e : (b_ (bs.map dE).toArray.size).any (λi => (bs[i]?).getD true) = bs.any id := by
    let g:(bs.map dE).toArray.size=bs.length:=by simp
    rw[g,sR,e8,e8];constructor
    ·rintro ⟨i,B,hh⟩
     let U:=dY.mp B;rw[af U]at hh;exact⟨_,a_ U,hh⟩
    ·rintro ⟨k,J,hh⟩
     let⟨i,B⟩:=gG J;exact⟨i,dY.mpr (ae.mp B).1,by rw[B];exact hh⟩
  rw[e];exact⟨.bl _,H,I.kept (t':=c) λb o Y=>J b o (by simp;exact bj (aK Y)) (am _ Y),rfl,q⟩
theorem M5:∀(g:List Int)(n:Int),g.foldl max n∈n::g/\∀a∈n::g,a<=g.foldl max n
 |[],n=>⟨by simp,by simp⟩
 |m::g,n=>by
  let⟨u,l⟩:=M5 g (max n m);rw[Bj];refine⟨?_,λa q=>?_⟩
  ·rcases aX.mp u with e|e
   ·rw[e];by_cases o:n<=m
    ·rw[Int.max_eq_right o];simp
    ·rw[Int.max_eq_left ()];simp
   ·exact bF _ (bF _ e)
  ·let h:=l (max n m) cD;rcases aX.mp q with e|e
   ·subst e;exact Io (Int.le_max_left ..) h
   ·rcases aX.mp e with e|e
    ·subst e;exact Io (Int.le_max_right ..) h
    ·exact l a (bF _ e)
def IX(l:my g h):∃xs,g.toArray=wj xs/\h=xs.toList.map (·.1):=by let⟨xs,e⟩:=l.allInts.items;exact⟨xs,e,by rw[<- l.numsOf,<- nums_intItems,<- e]⟩
def U8(hc:X.calm=true):CallR X (.builtin "max") (λxs H Q=>∃(l:ak)(n:Int)(g:List Int),xs=[.ref l]/\io X.K H l ((n::g).map V.int)/\Q (.int (g.foldl max n)) H):=by
 intro E s σ H xs us Q I r h;let⟨l,n,g,rfl,hq,q⟩:=h;let⟨u,rfl,Y⟩:=wJ r;cases Y;let⟨its,c,pl,hz⟩:=I.list hq;let⟨ys,e,o⟩:=IX (HV c);let G:=pl.isList;rw[e]at G;let hsz:ys.size=g.length+1:=by have:=cQ dZ o;simpa using this.symm
 refine max_intList (I.ok.hd hc) G () λv h' U hv hk=>?_;let⟨t,rfl⟩:=Bk hv;let⟨b1,O⟩:=argBest_gt (oq ys) (ys.size-1);let⟨L,f2⟩:=M5 g n;generalize ot (λi j=>decide (oq ys i > oq ys j)) (ys.size-1)=k at b1 O ⊢;let B:oq ys k∈n::g:=by rw[o,Bl];exact getD_mem (by rw[<- o];simp;ext)
 let C:g.foldl max n<=oq ys k:=by rw[o]at L;let⟨j,J,ej⟩:=mem_getD L;rw[<- ej,<- Bl];exact O j (by rw[<- o]at J;simp at J;ext)
 let hM:oq ys k=g.foldl max n:=BU (f2 _ B) C;rw[hM];exact⟨.int _,H,I.kept (t':=U) hk,⟨t,rfl⟩,q⟩
def Xl(l:X.calm=true):CallR X (.builtin "all") (Bz X.K xz):=(WJ l).of λxs H Q g=>by
 let⟨a,o,ρ,st,ds,e,h,sr,r,p⟩:=g;unfold xz at p;cases q:i7 ds with|none=>rw[q]at p;exact p.elim|some bs=>
  rw[q]at p;have:=Je q r;subst this;exact⟨a,bs,e,h,p.ret sr _ (.bl _)⟩
def TN(l:X.calm=true):CallR X (.builtin "any") (Bz X.K xA):=(Qfu l).of λxs H Q g=>by
 let⟨a,o,ρ,st,ds,e,h,sr,r,p⟩:=g;unfold xA at p;cases q:i7 ds with|none=>rw[q]at p;exact p.elim|some bs=>
  rw[q]at p;have:=Je q r;subst this;exact⟨a,bs,e,h,p.ret sr _ (.bl _)⟩
def Lv(l:X.calm=true):CallR X (.builtin "max") (Bz X.K oD):=(U8 l).of λxs H Q g=>by
 let⟨a,o,ρ,st,ds,e,h,sr,r,p⟩:=g;unfold oD at p;cases q:lQ ds with|none=>rw[q]at p;exact p.elim|some ns=>
  rw[q]at p;have:=Fz q r;subst this;cases ns with|nil=>exact p.elim|cons n ns=>exact⟨a,n,ns,e,h,p.ret sr _ (.int _)⟩
end
section
variable{K:ai}{st:aV}{s:aq}
theorem L6:∀{xs ys:List D}{r:Bool},mE f xs ys=some r->∀(j:Nat)(x y:D),xs[j]?=some x->ys[j]?=some y->∃k,f x y=some k
 |[],_,_,_,j,x,y,h,_=>by cases j<;>cases h|_::_,[],_,_,j,x,y,_,h=>by cases j<;>cases h
 |a::xs,b::ys,r,h,j,x,y,hx,hy=>by
  unfold mE at h;cases e:f a b with|none=>rw[e]at h;cases h|some k=>
   cases j with|zero=>cases hx;cases hy;exact⟨k,e⟩|succ j=>
    rw[e]at h;let g:xs[j]?=some x:=hx;let c:ys[j]?=some y:=hy;cases k with|true=>exact L6 h j x y g c|false=>
     cases l:mE f xs ys with|none=>rw[l]at h;cases h|some r'=>exact L6 l j x y g c
noncomputable def D0(f:D->D->Option Bool)(xs ys:List D)(j:Nat):Bool:=match xs[j]?,ys[j]? with|some x,some y=>(f x y).getD false|_,_=>true
theorem P8:∀{xs ys:List D}{r:Bool},mE f xs ys=some r->r=((b_ (min xs.length ys.length)).all (D0 f xs ys)&&xs.length == ys.length)
 |[],[],_,h=>by cases h;rfl|_::_,[],_,h=>by cases h;simp|[],_::_,_,h=>by cases h;simp
 |a::xs,b::ys,r,h=>by
  let step:(b_ (min (a::xs).length (b::ys).length)).all (D0 f (a::xs) (b::ys))=((f a b).getD false&&(b_ (min xs.length ys.length)).all (D0 f xs ys)):=by
   let e:min (a::xs).length (b::ys).length=min xs.length ys.length+1:=by simp only[bU];ext
   rw[e,ou,cI,EB];rfl
  rw[step];unfold mE at h;cases e:f a b with|none=>rw[e]at h;cases h|some k=>
   rw[e]at h;cases k with
   |true=>
    have:=P8 h;simp only[gX,Bool.true_and,bU];rw[this];congr 1;rw[sR];simp
   |false=>
    simp only[gX,t5];cases c:mE f xs ys with|none=>rw[c]at h;cases h|some r'=>rw[c]at h;cases h;rfl
theorem cj.at{j:Nat}(r:cj c g)(h:g[j]?=some u):∃v,c[j]?=some v/\RelV v u:=by
 let q:=r.length;let l:j < c.length:=by rw[q];exact (ae.mp h).1
 let⟨u',e,o⟩:=r.get (af l);rw[h]at e;cases e;exact⟨_,af l,o⟩
theorem bV.at{j:Nat}(r:bV K ρ H c ds)(h:c[j]?=some v):∃d,ds[j]?=some d/\dD K ρ H v d:=by
 let o:=r.length;let g:j < ds.length:=by rw[<- o];exact (ae.mp h).1
 let⟨q,e,l⟩:=r.get (af g);rw[h]at e;cases e;exact⟨_,af g,l⟩
def Rt{g:List D->List D->Option Bool}(I:Inv X ac σ H s)(C:∀xs ys q k,bV X.K ρ H q xs->bV X.K ρ H q ys->g xs ys=some k->k=true)(h:Jg g d e=some r)(o:dD X.K ρ H v d)(l:dD X.K ρ H v e):r=true:=by
 cases d with
 | non => cases e <;> first|(cases h; rfl)|(cases h; done)|exact nomatch (show v = _ from o.inv).symm.trans (show v = _ from l.inv)|skip
          let⟨a,_,e,_⟩:=l.inv;exact nomatch (show v=_ from o.inv).symm.trans e
 |bl b=>
  cases e with|bl c=>cases (show v=_ from o.inv).symm.trans (show v=_ from l.inv);cases h;simp|_=>cases h
 |int b=>
  cases e with
  |int c=>cases (show v=_ from o.inv).symm.trans (show v=_ from l.inv);cases h;simp|non=>exact nomatch (show v=_ from o.inv).symm.trans (show v=_ from l.inv)|tup ys=>
   let⟨a,_,e,_⟩:=l.inv;exact nomatch (show v=_ from o.inv).symm.trans e
  |_=>cases h
 |str b=>
  cases e with|str c=>cases (show v=_ from o.inv).symm.trans (show v=_ from l.inv);cases h;simp|_=>cases h
 |tup xs=>
  let⟨a,q,rfl,G,B⟩:=o.inv;cases e with
  |tup ys=>
   let⟨J,ws,e,E,u⟩:=l.inv;cases e;have:=I.tuple_inj G E;subst this;exact C _ _ _ _ B u h
  |non=>exact nomatch (show V.ref a=_ from l.inv)|int b=>exact nomatch (show V.ref a=_ from l.inv)|_=>cases h
 |_=>cases h
def NT{f:D->D->Option Bool}(q:∀v d e k,dD K ρ H v d->dD K ρ H v e->f d e=some k->k=true)(o:bV K ρ H g xs)(l:bV K ρ H g ys)(h:mE f xs ys=some k):k=true:=by
 induction xs generalizing ys g k with|nil=>cases o;cases l;cases h;rfl|cons x xs ih=>
  cases o with
  |cons a b=>cases l with|cons c d=>
    unfold mE at h;cases e:f _ _ with|none=>rw[e]at h;cases h|some k=>
     rw[e]at h;have:=q _ _ _ _ a c e;subst this;exact ih b d h
theorem Kx(I:Inv X ac σ H s):∀(n:Nat){v:V}{d e:D}{r:Bool},uL n d e=some r->dD X.K ρ H v d->dD X.K ρ H v e->r=true
 |0,_,_,_,_,h,r1,r2=>Rt I (λ_ _ _ _ _ _ z=>by cases z) h r1 r2|n+1,_,_,_,_,h,r1,r2=>Rt I (λxs ys o k l g z=>NT (λv d e k a b c=>Kx I n c a b) l g z) h r1 r2
open SeqAt in
noncomputable abbrev Zs(A:bM)(s:aq)(g c:ah)(r:Bool):Prop:=RcAt A s g c r/\RcNeAt A s g c (!r)/\EqAt A s g c r
open SeqAt in
def Od{g:List D->List D->Option Bool}{A:bM}(I:Inv X ac σ H s)(hu:A.units < cN)(hg:∀xs ys k,g xs ys=some k->∀u ws its c,bV X.K ρ H u xs->bV X.K ρ H ws ys->cj u its->cj ws c ->∃e:Nat->Bool,k=((b_ (min its.length c.length)).all e&&its.length == c.length)/\∀(j:Nat)x y,its[j]?=some x->c[j]?=some y->EqAt A.in1 s x y (e j))(hs:∀xs ys u k,bV X.K ρ H u xs->bV X.K ρ H u ys->g xs ys=some k->k=true)(h:Jg g d e=some r) (E:dD X.K ρ H v d) (q:dD X.K ρ H w e) (v1:RelV v B) (v2:RelV w l):Zs A s B l r:=by
 cases d with
 |non=>
  cases (show v=_ from E.inv);cases (show B=cK from v1);cases e with
  |non=>cases (show w=_ from q.inv);cases (show l=cK from v2);cases h;exact⟨.none_none,.none_none,.same _⟩|int b=>cases (show w=_ from q.inv);let⟨t,rfl⟩:=(show ∃t,l=kF b t from v2);cases h;exact⟨.none_int b t,.none_int b t,.none_int b t⟩|tup ys=>
   let⟨Q,ws,rfl,C,J⟩:=q.inv;cases (show l=bG _ from v2);cases h;let⟨_,_,p,_⟩:=I.tuple C;exact⟨.none_tuple p hu,.none_tuple p hu,.none_tuple p hu⟩
  |_=>cases h
 |bl a=>
  cases e with|bl b=>cases (show v=_ from E.inv);cases (show w=_ from q.inv);cases (show B=dE a from v1);cases (show l=dE b from v2);cases h;exact⟨.bool_bool a b,.bool_bool a b,.bool_bool a b⟩|_=>cases h
 |int a=>
  cases (show v=_ from E.inv);let⟨o,rfl⟩:=(show ∃t,B=kF a t from v1)
  cases e with
  |non=>cases (show w=_ from q.inv);cases (show l=cK from v2);cases h;exact⟨.int_none a o,.int_none a o,.int_none a o⟩|int b=>cases (show w=_ from q.inv);let⟨t,rfl⟩:=(show ∃t,l=kF b t from v2);cases h;exact⟨.int_int a o b t,.int_int a o b t,.int_int a o b t⟩|tup ys=>
   let⟨Q,ws,rfl,C,J⟩:=q.inv;cases (show l=bG _ from v2);cases h;let⟨_,_,p,_⟩:=I.tuple C;exact⟨.int_tuple a o p hu,.int_tuple a o p hu,.int_tuple a o p hu⟩
  |_=>cases h
 |str a=>
  cases e with|str b=>cases (show v=_ from E.inv);cases (show w=_ from q.inv);let⟨o,rfl⟩:=(show ∃t,B=rF a t from v1);let⟨t,rfl⟩:=(show ∃t,l=rF b t from v2);cases h;exact⟨.str_str a o b t,.str_str a o b t,.str_str a o b t⟩|_=>cases h
 |tup xs=>
  let⟨l1,u,rfl,h1,Y⟩:=E.inv;cases (show B=bG _ from v1);let⟨its,rv,p,_⟩:=I.tuple h1;cases e with
  |non=>cases (show w=_ from q.inv);cases (show l=cK from v2);cases h;exact⟨.tuple_none p hu,.tuple_none p hu,.tuple_none p hu⟩|int b=>cases (show w=_ from q.inv);let⟨t,rfl⟩:=(show ∃t,l=kF b t from v2);cases h;exact⟨.tuple_int b t p hu,.tuple_int b t p hu,.tuple_int b t p hu⟩|tup ys=>
   let⟨Q,ws,rfl,C,J⟩:=q.inv;cases (show l=bG _ from v2);let⟨c,O,p2,_⟩:=I.tuple C;let⟨ef,ek,he⟩:=hg xs ys r h u ws its c Y J rv O;let G:∀j(a1:j < its.toArray.size)(a2:j < c.toArray.size),EqAt A.in1 s its.toArray[j] c.toArray[j] (ef j):=λj a1 a2=>
    he j _ _ (by rw[lS];exact af (by simpa using a1)) (by rw[lS];exact af (by simpa using a2))
   let L:=RcAt.tuples (A:=A) (s:=s) p p2 hu G;let U:=RcNeAt.tuples (A:=A) (s:=s) p p2 hu G;simp only[aL]at L U;rw[<- ek]at L U;refine⟨L,U,?_⟩;by_cases hl:l1=Q
   ·subst hl;have:=I.tuple_inj h1 C;subst this;rw[hs xs ys u r Y J h];exact .same _
   ·exact .of_refs hl L
  |_=>cases h
 |_=>cases h
open SeqAt in
def Ys{n:Nat}(I:Inv X ac σ H s)(ih:∀{v w:V}{u q:ah}{d e:D}{r:Bool},uL n d e=some r->dD X.K ρ H v d->dD X.K ρ H w e->RelV v u->RelV w q->EqAt A s u q r)(h:mE (uL n) xs ys=some k)  (E:bV X.K ρ H o xs) (C:bV X.K ρ H ws ys) (B:cj o its) (g:cj ws c):∃e:Nat->Bool,k=((b_ (min its.length c.length)).all e&&its.length == c.length)/\∀(j:Nat)x y,its[j]?=some x->c[j]?=some y->EqAt A s x y (e j):=by
 refine⟨D0 (uL n) xs ys,?_,λj x y hx hy=>?_⟩
 ·let l:=B.length;let c:=g.length;let Y:=E.length;let U:=C.length;rw[<- l,<- c,Y,U];exact P8 h
 ·let⟨v,o,L⟩:=cj.at B hx;let⟨w,c,l⟩:=cj.at g hy;let⟨d,hd,Q⟩:=bV.at E o;let⟨e,J,O⟩:=bV.at C c;let⟨r,G⟩:=L6 h j d e hd J;have:D0 (uL n) xs ys j=r:=by unfold D0;rw[hd,J];dsimp only;rw[G];rfl
  rw[this];exact ih G Q O L l
open SeqAt in
theorem Jp(I:Inv X ac σ H s):∀(n:Nat){A:bM}{v w:V}{q o:ah}{d e:D}{r:Bool},A.units+n < cN->uL n d e=some r->dD X.K ρ H v d->dD X.K ρ H w e->RelV v q->RelV w o->RcAt A s q o r/\RcNeAt A s q o (!r)/\EqAt A s q o r
 |0,_,_,_,_,_,_,_,_,hu,h,l,g,v1,v2=>Od I hu (λ_ _ _ z=>by cases z) (λ_ _ _ _ _ _ z=>by cases z) h l g v1 v2
 | n+1, A, _, _, _, _, _, _, _, hu, h, l, g, v1, v2 => Od I ()
   (λxs ys k z G ws its E C B J u=>Ys I (λh l g v1 v2=>(Jp I n (A:=A.in1) (by show A.units+1+n < cN;ext) h l g v1 v2).2.2) z C B J u)
   (λxs ys G k C B z=>NT (λv d e k a b c=>Kx I n c a b) C B z) h l g v1 v2
end
section
variable{X:Cx}{K:ai}{st:aV}
open SeqAt in
def NI(hu:X.A.units+60 < cN)(I:Inv X ac σ H s)(sr:SR X.K ρ H st)(B:dD X.K ρ H x d)(o:dD X.K ρ H y e)(l:RelV x v)(g:RelV y u)(p:aU X.K ρ H (Ju d e st) R):∃r,R r st ρ H/\RcAt X.A s v u r/\RcNeAt X.A s v u (!r):=by
 let G:X.A.units < cN:=by ext
 let c:aU X.K ρ H ((match uL 50 d e with|some r=>ret r|none=>bad:M Bool) st) R->∃r,R r st ρ H/\RcAt X.A s v u r/\RcNeAt X.A s v u (!r):=λq=>by
  cases h:uL 50 d e with|none=>rw[h]at q;exact q.elim|some r=>
   rw[h]at q;let⟨E,C,_⟩:=Jp I 50 (A:=X.A) () h B o l g;exact⟨r,q.ret sr,E,C⟩
 exact c p
def Tw(hu:X.A.units+60 < cN):OpR X (cS .Eq) (qz X.K oo):=by intro ac s σ H x y v u Q I h g c;let⟨ρ,st,d,e,sr,o,l,p⟩:=c;let⟨r,q,B,_⟩:=NI hu I sr o l h g p.bnd;exact B _ _ _ _ ⟨.bl r,H,I,rfl,q.ret sr _ (.bl _)⟩
def QfL(hu:X.A.units+60 < cN):OpR X (cS .NotEq) (qz X.K B_):=by intro ac s σ H x y v u Q I h g c;let⟨ρ,st,d,e,sr,o,l,p⟩:=c;let⟨r,q,_,B⟩:=NI hu I sr o l h g p.bnd;exact B _ _ _ _ ⟨.bl (!r),H,I,rfl,q.ret sr _ (.bl _)⟩
end
section
variable{X:Cx}{a b c e o tg:Expr}{pos a5 a0:Pos}{ta tb:CT}{K:ai}{ρ:List ak}{H:Hp}{st:aV}
def Vc(ho : SE X o fa)(E : SE X e fb)(u : dS o "append" X.env (eval o X.env) = eval o X.env := by rfl)
  (C:((backTo a0 (starEach [e] X.env)).all (λx => !x.1)&&(o9 a0 (lA [] X.env)).all (λx=>x.1.isSome)
   && decide ([e].length+([]:List iD).length+(if ([]:List iD).isEmpty then 0 else 1) < 30))=true:=by rfl)
  (q:(a5.endLine == a0.line)=true:=by rfl) (hs:starEach [e] X.env=(false,eval e X.env)::starEach [] X.env:=by rfl) (g:(backTo a0 (starEach [] X.env)).any (·.1)=false:=by rfl):
  SE X (.Call (.Attribute o "append" a5) [e] [] a0) (eM fa fb):=
 (Pp nv PySem.F.slot_list_append PySem.F.type_list_append Qn ho (sA E vI hs) u C q hs g).of λσ H Q h_=>h_.el λρ l st lr sr p=>⟨ρ,l,st,lr,sr,p.bnd.imp λd B ρ1 H1 x1 c p1 v rv=>by
  cases d with
  |ref n=>
   let⟨a,rfl,kk,h⟩:=rv.inv;let hl:n < B.length:=by rw[<- c.len];exact (ae.mp h).1
   let⟨G,O⟩:=QG kk;refine⟨.inl ⟨rfl,G,io.of O⟩,ρ1,l,B,lr.mono x1,c,(aU.bnd p1).imp λy st2 ρ2 H2 x2 I p2 w J=>?_⟩;let h2:ρ2[n]?=some a:=by let⟨τ,e,_⟩:=x2.pre;rw[e];exact xl h
   let⟨ds,U,p3⟩:=aU.getL (aU.bnd p2) I;let⟨a',vs,E,hv,r⟩:=I.seq U;rw[h2]at E;cases E;let⟨hz,p4⟩:=aU.chk p3;let⟨Y,x3⟩:=I.put (ae.mp U).1 h2 hv (bV.app r (.cons J .nil));let L:=aU.bnd p4;unfold putL at L;rw[U]at L;exact⟨a,vs,w,rfl,rfl,hv,by rw[r.length];exact hz,(L ρ2 _ x3 Y).ret Y _ .non⟩
  |_=>exact p1.elim⟩
def Yz:OpR X (fP .Add) (qz X.K fX):=by
 intro g s σ H x y v u Q I U O G;let⟨ρ,st,d,e,sr,r1,r2,p⟩:=G;cases d with
 |int i=>
  cases e with
  |int j=>
   cases r1.inv;cases r2.inv;exact ZO g s σ H _ _ v u Q I U O ⟨i,j,rfl,rfl,p.ret sr _ (.int _)⟩
  |_=>exact p.elim
 |str i=>
  cases e with
  |str j=>
   cases r1.inv;cases r2.inv;exact QbB g s σ H _ _ v u Q I U O ⟨i,j,rfl,rfl,(aU.chk p).1,(aU.chk p).2.ret sr _ (.str _)⟩
  |_=>exact p.elim
 |ref _=>
  cases e with
  |ref _=>
   let⟨_,rfl,_,h⟩:=r1.inv;let⟨_,rfl,_,h'⟩:=r2.inv;let⟨xs,e2,p1⟩:=aU.getL (aU.bnd p) sr;let⟨ys,e3,J⟩:=aU.getL (aU.bnd p1) sr;let⟨a',L,ha,hv,C⟩:=sr.seq e2;let⟨b',ws,hb,hw,B⟩:=sr.seq e3;rw[h]at ha;cases ha;rw[h']at hb;cases hb;let⟨hz,p3⟩:=aU.chk J;refine QcD g s σ H _ _ v u Q I U O ⟨_,_,L,ws,rfl,rfl,hv,hw,by rw[C.length,B.length];exact hz,λq l=>?_⟩;let nq:=sr.fresh l;let x1:Ex ρ H (ρ++[q]) (fT H q (.lst (L++ws))):=Ex.newL l;refine p3 _ _ x1 ((sr.new l).keep lH nq ((bV.app C B).mono (Ex.new l))) _ (.ref ⟨_,lH,rfl⟩ ?_);rw[<- sr.len];simp
  |_=>exact p.elim
 |tup xs=>
  cases e with
  |tup ys=>
   let⟨a1,L,rfl,h1,C⟩:=r1.inv;let⟨b1,ws,rfl,h2,B⟩:=r2.inv;let⟨hz,J⟩:=aU.chk p;by_cases hx:L=[]
   ·subst hx;cases C;let⟨its,v1,ht,_⟩:=I.tuple h1;let⟨l,v2,hb,_⟩:=I.tuple h2;cases v1;let ev:v=bG a1:=U;let eu:u=bG b1:=O;subst ev eu;let⟨⟨cls,dd,data,Q⟩,q,G,n,hd⟩:=ht;let⟨⟨L,h,data2,g⟩,Y,o,n2,c⟩:=hb;simp only at G hd o c;subst G hd o c;refine zK (E:=X.xe) ⟨_,q,rfl⟩ ⟨_,Y,rfl⟩ uD xI nM nt (mY _ _) (tuple_addW0 a1 b1 _ _ n n2 dd h Q g (by simp)) ⟨q,Y,?_⟩;exact⟨.ref b1,H,I,rfl,J.ret sr _ (.tup h2 B)⟩
   ·refine U2 g s σ H _ _ v u Q I U O ⟨_,_,L,ws,rfl,rfl,h1,h2,hx,by rw[C.length,B.length];exact hz,λc=>?_,λ_ q l=>?_⟩
    ·subst c;cases B;rw[bB]at J;exact J.ret sr _ (.tup h1 C)
    ·exact J _ _ (Ex.new l) (sr.new l) _ (.tup (mU.of lH) ((bV.app C B).mono (Ex.new l)))
  |_=>exact p.elim
 |_=>cases e<;>exact p.elim
def J3(K:ai)(f:CO):TO:=λσ H Q=>∃ρ l st,LR K ρ H σ l/\SR K ρ H st/\aU K ρ H (f l st) λo _ _ g=>Q o g
abbrev SO(X:Cx)(e:Option Expr)(f:CO):Prop:=PO X e (J3 X.K f)
def YY:SO X none vh:=λg s σ H Q I h=>h.el λρ l st q sr p=>Tl g s σ H Q I (p.ret sr)
def U1(h:SE X e fa):SO X (some e) (qU fa):=λg s σ H Q I G=>G.el λρ l st E sr p=>PV h g s σ H Q I ⟨ρ,l,st,E,sr,p.bnd.imp λd u ρ1 L J B q v C=>by
 cases d with
 |int i=>cases (show v=.int i from C.inv);exact⟨i,rfl,q.ret B⟩
 |_=>exact q.elim⟩
def bV.cut(r:bV K ρ H g ds)(lo h:Option Int):bV K ρ H (vq g lo h) (cutD ds lo h):=by
 unfold vq cutD;let e:∀n d o,HT.iy n d o=MM.iy n d o:=λn d o=>by cases o<;>rfl
 rw[e,e,r.length];exact (r.drop _).take _
def QfQ{lo hi:Option Expr}{c:Pos}(h:SE X e fa)(hl:SO X lo fl)(hh:SO X hi fh):SL X (.Subscript e (.Slice lo hi none c) pos) (sB fa fl fh):=
 (N5 Qcm h hl hh).of λσ H Q h_=>h_.el λρ l st lr sr p=>⟨ρ,l,st,lr,sr,p.bnd0.imp λd O ρ1 H1 C s1 p1 v rv=>⟨ρ1,l,O,lr.mono C,s1,(p1.bnd0.left C).imp λi L ρ2 H2 E s2 c=>⟨ρ2,l,L,(lr.mono C).mono E,s2,(c.bnd0.left (C.trans E)).imp λj J ρ3 H3 x3 G Y=>by
  let U:=(rv.mono E).mono x3;let B:=C.trans (E.trans x3);let fin:∀{a:ak}{u:List V}{ds:List D},io X.K H3 a u->bV X.K ρ3 H3 u ds->aU X.K ρ H (ret (cutD ds i j) J) (λds _ ρ' H'=>∀a u,H a=none->a∉ρ'->H' a=some (.lst u)->bV X.K ρ' H' u ds->Q (.ref a) H')->ES X.K (.ref a) i j H3 Q:=λ{a u ds}hs r q=>
   ⟨a,u,rfl,hs,λI g=>by
    let hn:H I=none:=by
     cases z:H I with|none=>rfl|some o=>exact bo g (B.trk I o z)
    exact q ρ3 _ (B.trans (Ex.new g)) (G.new g) I _ hn (G.fresh g) lH ((bV.cut r i j).mono (Ex.new g))⟩
  cases U with
  |lit h r=>exact fin h.seq r Y|ref _ h=>
   let⟨ds,e2,p4⟩:=aU.getL (Y.bnd0.left B) G;let⟨a',u,ha,hv,r⟩:=G.seq e2;rw[h]at ha;cases ha;exact fin (io.of hv) r p4
  |_=>exact Y.elim⟩⟩⟩
end
open PySem.AutoSeq1 (wpAny_loadPart')
def QfR(l:ak)(items:Array ah)(n:Nat)(dct:Option ak)(B:Array (Option ah)):Meets (Builtin.«enumerate.__new__» ⟨[.type "enumerate",.ref l],[]⟩) (λ_ R s=>s.heap.get? l=some { cls:=.type "tuple",dict:=dct,data:=.seq items n,slots:=B } /\R (.ok (.ret (.ref (s.heap.push { cls:=.type "tuple_iterator",data:=.fields #[.ref l,.int 0 0] }).objs.size))) { s with heap:=(s.heap.push { cls:=.type "tuple_iterator",data:=.fields #[.ref l,.int 0 0] }).push { cls:=.type "enumerate",data:=.fields #[.none,.bool false,.ref s.heap.objs.size,dU 0,.none,.none] } }):=
 .of_wp λprog w A R s h=>by
  let⟨C,g,d,v,os⟩:=s;let⟨o,h⟩:=h;let q:=sub_enumerate;let u:bN.IsTuple (vL ⟨C,g,d,v,os⟩) l items:=⟨_,o,rfl,n,rfl⟩
  wp_walk using kX o;refine wpAny_stack_any λst=>aj ?_;split
  ·rename_i c _ _ _ _ _;cases (c == Ic "enumerate")<;>(wp_walk using kX o,nR u;exact⟨_,rfl,h⟩)
  ·wp_walk using kX o,nR u;exact⟨_,rfl,h⟩
section
variable{A:bM}{E:ah->aq->Prop}{s:aq}
def QfS{Q:ah->aq->Prop}(C:s.heap.IsTuple l items)(h:∀h',IsEnum h' (s.heap.objs.size+1) s.heap.objs.size 0 .none->h'.IsTupleIter s.heap.objs.size l 0->h'.objs.size=s.heap.objs.size+2->(∀b o,s.heap.get? b=some o->h'.get? b=some o)->Q (.ref (s.heap.objs.size+1)) { s with heap:=h' }):aH (aY prog w) A (call (.type "enumerate") [.ref l]) Q E s:=by
 let⟨⟨c,dct,G,v⟩,B,g,n,hd⟩:=C
 replace g:c=.type "tuple":=g
 replace hd:G=.seq items n:=hd
 subst g hd;refine callType_new F.called_enumerate (by decide) (F.typeCall_enumerate_1 _) (F.newCall_enumerate_1 _) (λobj=>F.args_object_init_2 obj _) F.entry_enumerate_new (QfR l items n dct v) ⟨B,?_⟩;let hz:(s.heap.push { cls:=.type "tuple_iterator",data:=.fields #[.ref l,.int 0 0] }).objs.size=s.heap.objs.size+1:=cB ..
 show _/\_;rw[hz];let u:IsEnum ((s.heap.push { cls:=.type "tuple_iterator",data:=.fields #[.ref l,.int 0 0] }).push { cls:=.type "enumerate",data:=.fields #[.none,.bool false,.ref s.heap.objs.size,dU 0,.none,.none] }) (s.heap.objs.size+1) s.heap.objs.size 0 .none:=by have q:=aC (s.heap.push { cls:=.type "tuple_iterator",data:=.fields #[.ref l,.int 0 0] }) (o:={ cls:=.type "enumerate",data:=.fields #[.none,.bool false,.ref s.heap.objs.size,dU 0,.none,.none] }) rfl;rw[hz]at q;exact q
 exact⟨⟨_,u,rfl⟩,h _ u ⟨_,am _ (aC _ rfl),rfl,rfl⟩ (by rw[cB,hz]) λb o x=>am _ (am _ x)⟩
def Wg{i:Nat}{items}{Q:ah->aq->Prop}(c:s.heap.IsTupleIter g l i)(B:s.heap.IsTuple l items)(v:items[i]?=some x)(G:∀h',h'.IsTupleIter g l (i+1)->cX g s.heap h'->Q x { s with heap:=h' }):aH (aY prog w) A (bI (.ref g)) Q E s:=by
 let⟨o,h,C,hd⟩:=id c;let⟨H,q,_,I,u⟩:=B;unfold bI;refine ab (bX (name:=aD "__next__") c.typeIs iX (cA iX c.typeIs uS ?_ (uF _)))
 show aH _ _ (qL (.ref g) 0 >>= _) _ _ s;refine ab (cH h hd (x:=.ref l) rfl ?_)
 show aH _ _ (if (bG l == cK)=true then _ else _) _ _ s;rw[az (show ¬ ((bG l == cK)=true) from bD)]
 show aH _ _ (qL (.ref g) 1 >>= _) _ _ s;refine ab (cH h hd (x:=.int i 0) rfl ?_)
 show aH _ _ (kB (.ref l) >>= _) _ _ s;refine ab (dh q u ?_);simp only[bA,v];refine ab (nS h hd (by simp) (aj ⟨x,rfl,aj (G _ ⟨_,cY _ h (wT (m4 hd _)),(Ai ..).trans C,?_⟩ (cM ..))⟩));rw[m4 hd];simp[dU]
def Yv{i:Nat}{items}(hh:A.handled=none)(c:s.heap.IsTupleIter g l i)(B:s.heap.IsTuple l items)(v:items[i]?=none)(C:∀h' e,nw g s.heap h'->(∃o,h'.get? e=some o/\o.cls=.type "StopIteration")->E (.ref e) { s with heap:=h' }):aH (aY prog w) A (bI (.ref g)) Q E s:=by
 let⟨o,q,I,hd⟩:=id c;let⟨G,h,_,H,u⟩:=B;unfold bI;refine ab (bX (name:=aD "__next__") c.typeIs iX (cA iX c.typeIs uS ?_ (uF _)))
 show aH _ _ (qL (.ref g) 0 >>= _) _ _ s;refine ab (cH q hd (x:=.ref l) rfl ?_)
 show aH _ _ (if (bG l == cK)=true then _ else _) _ _ s;rw[az (show ¬ ((bG l == cK)=true) from bD)]
 show aH _ _ (qL (.ref g) 1 >>= _) _ _ s;refine ab (cH q hd (x:=.int i 0) rfl ?_)
 show aH _ _ (kB (.ref l) >>= _) _ _ s;refine ab (dh h u ?_);simp only[bA,v];refine ab (iE (ab (nS q hd (by simp) ?_)));show aH _ _ (zP (.type "StopIteration") [] >>= _) _ _ _;refine ab ?_;simp only[zP,newTuple];refine ab (b9 ?_ (by size_fits));refine ab (m:=lN _ _) (ox (a:=cK) (by first|rfl|(simp only[lN];rfl)) (b9 ?_ (by size_fits)));simp only[raiseNew];refine ab (xQ ?_);first|rw[show A.in1.handled=none from hh]|rw[hh]
 exact ab (aj (Bm (C _ _ (((cM ..).extBut.push _).push _) ⟨_,aC _ rfl,rfl⟩)))
end
section
variable{X:Cx}{K:ai}{st:aV}
def CB(r:dD K ρ H v d):tj d .non=ret (.bl (decide (v=.non))):=by cases r<;>rfl
def An(r:dD K ρ H v d):ng d .non=ret (.bl (!decide (v=.non))):=by cases r<;>rfl
def VQ:OpR X (cS .Is) (qz X.K tj):=by
 intro g s σ H x y v u Q I l h c;let⟨ρ,st,d,e,sr,q,o,p⟩:=c;cases e with
 |non=>
  cases o.inv;refine Xu g s σ H x .non v u Q I l h ⟨rfl,?_⟩;rw[CB q]at p;exact p.ret sr _ (.bl _)
 |bl b=>
  cases d with
  |bl a=>
   cases q.inv;cases o.inv;cases (show v=dE a from l);cases (show u=dE b from h);refine wpAny_is_plain rfl ⟨.bl (a == b),H,I,?_,p.ret sr _ (.bl _)⟩;cases a<;>cases b<;>rfl
  |_=>exact p.elim
 |_=>cases d<;>exact p.elim
def Yc:OpR X (cS .IsNot) (qz X.K ng):=by
 intro g s σ H x y v u Q I l h c;let⟨ρ,st,d,e,sr,q,o,p⟩:=c;cases e with
 |non=>
  cases o.inv;refine Ss g s σ H x .non v u Q I l h ⟨rfl,?_⟩;rw[An q]at p;exact p.ret sr _ (.bl _)
 |bl b=>
  cases d with
  |bl a=>
   cases q.inv;cases o.inv;cases (show v=dE a from l);cases (show u=dE b from h);refine wpAny_isNot_plain rfl ⟨.bl (!(a == b)),H,I,?_,p.ret sr _ (.bl _)⟩;cases a<;>cases b<;>rfl
  |_=>exact p.elim
 |_=>cases d<;>exact p.elim
def G0(r:dD K ρ H v d)(h:lD d=true):ph v=true:=by cases r<;>first|rfl|cases h
theorem Ff:∀{c:List V}{ds:List D},bV K ρ H c ds->ds.all lD=true->c.all ph=true
 |_,_,.nil,_=>rfl|_,_,.cons r t,h=>by rw[cI,br]at h;rw[cI,br];exact⟨G0 r h.1,Ff t h.2⟩
def To(r:dD K ρ H v d)(q:dD K ρ H w e)(h:lD d=true)(h':lD e=true):Am v w=sY d e:=by
 cases d<;>first|(cases h;done)|skip
 all_goals have r:=r.inv;cases (show v=_ from r);cases e<;>first|(cases h';done)|skip
 all_goals have q:=q.inv;cases (show w=_ from q);rfl
theorem EV(q:dD K ρ H w e)(h':lD e=true):∀{c:List V}{ds:List D},bV K ρ H c ds->ds.all lD=true->Jl w c=ds.any λd=>sY d e
 |_,_,.nil,_=>rfl|_,_,.cons r t,h=>by rw[cI,br]at h;have:=EV q h' t h.2;unfold Jl at this ⊢;rw[d6,d6,this,To r q h.1 h']
theorem aU.hasK{n:Nat}(h:aU K ρ H (MM.hasK n k st) R)(s:SR K ρ H st):∃b c,st[n]?=some (.dct b c)/\om b k=true/\R (m_ c k).isSome st ρ H:=by let⟨b,c,e,l⟩:=aU.getDc (aU.bnd h) s;let⟨o,g⟩:=aU.chk l;exact⟨b,c,e,o,g.ret s⟩
def _root_.L2.OpR.orO(h:OpR X f r)(h':OpR X f o):OpR X f (λx y H Q=>r x y H Q\/o x y H Q):=by
 intro c s σ H x y v u Q I l g q;rcases q with q|q
 ·exact h c s σ H x y v u Q I l g q
 ·exact h' c s σ H x y v u Q I l g q
def VJ(hu:X.A.units+60 < cN):OpR X (cS .In) (λx y H Q=>∃(ρ:List ak)(st:aV)(n:Nat)(a:ak)(b:Bool)(g:List (D×D))(k:D),y=.ref a/\SR X.K ρ H st/\ρ[n]?=some a/\st[n]?=some (.dct b g)/\dD X.K ρ H x k/\om b k=true/\Q (.bl (m_ g k).isSome) H):=by intro h s σ H x y v u Q I o l c;let⟨ρ,st,n,a,b,g,k,e,sr,G,C,B,E,q⟩:=c;subst e;cases l;exact QdS () I (sr.ob n a _ G C) B E o λL J=>⟨.bl _,H,J,rfl,q⟩
def Zr(hu:X.A.units+60 < cN):OpR X (cS .NotIn) (λx y H Q=>∃(ρ:List ak)(st:aV)(n:Nat)(a:ak)(b:Bool)(g:List (D×D))(k:D),y=.ref a/\SR X.K ρ H st/\ρ[n]?=some a/\st[n]?=some (.dct b g)/\dD X.K ρ H x k/\om b k=true/\Q (.bl (!(m_ g k).isSome)) H):=by intro h s σ H x y v u Q I o l c;let⟨ρ,st,n,a,b,g,k,e,sr,G,C,B,E,q⟩:=c;subst e;cases l;exact QdT () I (sr.ob n a _ G C) B E o λL J=>⟨.bl _,H,J,rfl,q⟩
def X5(hu:X.A.units+60 < cN):OpR X (cS .In) (qz X.K D8):=(JD.orO (VJ hu)).of λx y H Q c=>by
 let⟨ρ,st,d,e,sr,o,J,p⟩:=c;let fin:∀{a:ak}{g:List V}{ds:List D}(B:io X.K H a g\/mU X.K H a g)(r:bV X.K ρ H g ds)(l:aU X.K ρ H (yA d ds st) λr _ ρ' I=>∀v,dD X.K ρ' I v r->Q v I),Jr X.K false x (.ref a) H Q:=λB r l=>by let⟨⟨G,E⟩,L⟩:=aU.chk l;refine⟨_,_,rfl,B,G0 o G,Ff r E,?_⟩;rw[az (by simp),EV o G r E];exact L.ret sr _ (.bl _)
 cases J with
 |tup h r=>exact .inl (fin (.inr h) r ((aU.bnd p).ret sr))|lit h r=>exact .inl (fin (.inl h.seq) r ((aU.bnd p).ret sr))|ref _ h=>
  let⟨ds,Y,l⟩:=aU.getL (aU.bnd p) sr;let⟨a',g,C,O,r⟩:=sr.seq Y;rw[h]at C;cases C;exact .inl (fin (.inl (io.of O)) r l)
 |@dic a n _ h=>
  let⟨b,u,e1,U,q⟩:=aU.hasK (aU.bnd p) sr;exact .inr ⟨ρ,st,n,a,b,u,d,rfl,sr,h,e1,o,U,(q.ret sr) _ (.bl _)⟩
 |_=>exact (show False from p).elim
def Vf(hu:X.A.units+60 < cN):OpR X (cS .NotIn) (qz X.K r_):=(Vv.orO (Zr hu)).of λx y H Q c=>by
 let⟨ρ,st,d,e,sr,o,J,p⟩:=c;let fin:∀{a:ak}{g:List V}{ds:List D}(B:io X.K H a g\/mU X.K H a g)(r:bV X.K ρ H g ds)(l:aU X.K ρ H (zF d ds st) λr _ ρ' I=>∀v,dD X.K ρ' I v r->Q v I),Jr X.K true x (.ref a) H Q:=λB r l=>by let⟨⟨G,E⟩,L⟩:=aU.chk l;refine⟨_,_,rfl,B,G0 o G,Ff r E,?_⟩;rw[aJ rfl,EV o G r E];exact L.ret sr _ (.bl _)
 cases J with
 |tup h r=>exact .inl (fin (.inr h) r ((aU.bnd p).ret sr))|lit h r=>exact .inl (fin (.inl h.seq) r ((aU.bnd p).ret sr))|ref _ h=>
  let⟨ds,Y,l⟩:=aU.getL (aU.bnd p) sr;let⟨a',g,C,O,r⟩:=sr.seq Y;rw[h]at C;cases C;exact .inl (fin (.inl (io.of O)) r l)
 |@dic a n _ h=>
  let⟨b,u,e1,U,q⟩:=aU.hasK (aU.bnd p) sr;exact .inr ⟨ρ,st,n,a,b,u,d,rfl,sr,h,e1,o,U,(q.ret sr) _ (.bl _)⟩
 |_=>exact (show False from p).elim
def Zv:HI X (Es .USub) (xY X.K s_):=by
 intro g s σ H x v Q I h c;let⟨ρ,st,d,sr,l,p⟩:=c;cases l with|int i=>exact Ro g s σ H _ v Q I h ⟨i,rfl,p.ret sr _ (.int _)⟩|_=>exact p.elim
end
section
variable{X:Cx}{pos a5 a0:Pos}{ta tb:CT}{K:ai}{st:aV}{T id:String}
def Vh(E:HI X (Es op) (xY X.K g))(G:SE X a fa):SE X (.UnaryOp op a pos) (c1 g fa):=
 (Pc E G).of λσ H Q I=>I.el λρ l st C sr p=>⟨ρ,l,st,C,sr,p.bnd.imp λd h ρ1 L J q B v u=>⟨ρ1,h,d,q,u,B⟩⟩
def WY(B:SE X a fa)(hb:SL X b cb)(hm:ij .In b=false):SE X (.Compare a [.In] [b] pos) (pC yA fa cb):=
 (PB JD B hb hm).of λσ H Q h_=>h_.el λρ l st u sr p=>⟨ρ,l,st,u,sr,p.bnd.imp λd h ρ1 H1 I O o v U=>⟨ρ1,l,h,u.mono I,O,o.bnd.imp λds J ρ2 H2 G L c a vs B na hv g=>by let⟨⟨E,C⟩,Y⟩:=aU.chk c;have q:=U.mono G;refine⟨_,_,rfl,.inl (io.of hv),G0 q E,Ff g C,?_⟩;rw[az (by simp),EV q E g C];exact Y.ret L _ (.bl _)⟩⟩
def Sq(C:SE X a fa)(hb:SL X b cb)(hm:ij .In b=false):ST X (.Compare a [.In] [b] pos) (cV (pC yA fa cb)):=
 (O4 JD C hb hm).of λσ H Q h_=>h_.el λρ l st B sr p=>⟨ρ,l,st,B,sr,p.bnd.bnd.imp λd h ρ1 H1 J O o v U=>⟨ρ1,l,h,B.mono J,O,o.bnd.imp λds L ρ2 H2 I q c a vs C na hv g=>by let⟨⟨G,E⟩,Y⟩:=aU.chk c;have u:=U.mono I;refine⟨_,_,rfl,.inl (io.of hv),G0 u G,Ff g E,?_⟩;rw[az (by simp),EV u G g E];exact⟨_,rfl,(Y.ret q).ret q⟩⟩⟩
def VG(hc : CallR X (.builtin id) (λxs H Q => ∃v w, xs = [v, w] /\ qz X.K g v w H Q))(hg : Gl X x)(hm : X.mg x = none)(hv : dg x = some (.builtin id))(ha : SE X a fa)(hb : SE X b fb)(hn : x ≠ "__name__" := by decide)(G : (x == ("__debug__" : Str)) = false := by decide)
  (h:starEach [a,b] X.env=(false,eval a X.env)::starEach [b] X.env:=by rfl) (E:starEach [b] X.env=(false,eval b X.env)::starEach [] X.env:=by rfl) (C:(backTo pos (starEach [b] X.env)).any (λx=>x.fst)=false:=by rfl):SE X (.Call (.Name x p) [a,b] [] pos) (c2 g fa fb):=
 (Jj hc hg hm hv (sA ha (sA hb vI E) h) hn G h C).of λσ H Q h_=>h_.el λρ l st I sr p=>⟨ρ,l,st,I,sr,p.bnd.imp λd u ρ1 H1 L U o v Y=>⟨ρ1,l,u,I.mono L,U,o.bnd.imp λe q ρ2 H2 J O c w B=>⟨v,w,rfl,ρ2,q,d,e,O,Y.mono J,B,c⟩⟩⟩
def W_(l:X.calm=true):CallR X (.builtin "min") (λxs H Q=>∃v w,xs=[v,w]/\qz X.K wH v w H Q):=(QbE l).of λxs H Q g=>by
 let⟨v,w,e,h⟩:=g;let⟨i,j,ρ,st,rfl,rfl,sr,p⟩:=AC h;refine⟨i,j,e,?_⟩;have:(if j < i then j else i)=min i j:=by ext
 rw[this];exact p.ret sr _ (.int _)
def YS(ho:SE X o fa)(q:dS o "pop" X.env (eval o X.env)=eval o X.env:=by rfl)(g:(a5.endLine == a0.line)=true:=by rfl):SE X (.Call (.Attribute o "pop" a5) [] [] a0) (uZ fa):=
 (Tk nv PySem.F.slot_list_pop PySem.F.type_list_pop We ho q g).of λσ H Q h_=>h_.el λρ l st lr sr p=>⟨ρ,l,st,lr,sr,p.bnd.imp λd c ρ1 H1 x1 C U v rv=>by
  cases d with
  |ref n=>
   let⟨a,rfl,_,h⟩:=rv.inv;let⟨ds,J,u⟩:=aU.getL (aU.bnd U) C;let⟨a',B,Y,G,r⟩:=C.seq J;rw[h]at Y;cases Y;cases I:ds.getLast? with|none=>rw[I]at u;exact u.elim|some d=>
    rw[I]at u;let hl:=(ae.mp J).1;let e4:ds[ds.length-1]?=some d:=by rw[<- List.getLast?_eq_getElem?];exact I
    let⟨y,hy,ry⟩:=r.get e4;let rd:bV X.K ρ1 H1 B.dropLast ds.dropLast:=by rw[wn,wn,r.length];exact r.take _
    let⟨O,L⟩:=C.put hl h G rd;refine⟨.inl ⟨rfl,B,io.of G⟩,a,B,y,rfl,rfl,G,by rw[r.length];exact hy,?_⟩;let E:=aU.bnd u;unfold putL at E;rw[J]at E;exact (E ρ1 _ L O).ret O _ (ry.mono L)
  |_=>exact U.elim⟩
theorem bV.rev:∀{g:List V}{ds:List D},bV K ρ H g ds->bV K ρ H g.reverse ds.reverse
 |_,_,.nil=>.nil|_,_,.cons r t=>by rw[gE,gE];exact bV.app (bV.rev t) (.cons r .nil)
def Yl(hg : Gl X "range")(o : X.mg "range" = none)(h : SE X a fa)(h' : SE X b fb)(E : starEach [a, b] X.env = (false, eval a X.env) :: starEach [b] X.env := by rfl)(C : starEach [b] X.env = (false, eval b X.env) :: starEach [] X.env := by rfl)
  (c:starEach [a,b] X.env=[(false,eval a X.env),(false,eval b X.env)]:=by rfl) (B:starEach [b] X.env=[(false,eval b X.env)]:=by rfl):SI X tg (.Call (.Name "range" p) [a,b] [] pos) (MM.oB fa fb):=
 (Qba (tg:=tg) (p:=p) (pos:=pos) hg o (sA h (sA h' vI C) E) c B).of λσ H R h_=>h_.el λρ l st G sr p=>⟨ρ,l,st,G,sr,p.bnd.imp λd g ρ1 H1 I O Y v Q=>⟨ρ1,l,g,G.mono I,O,Y.bnd.imp λe J ρ2 H2 x2 L u w q=>by
  cases d with
  |int i=>
   cases e with
   |int j=>
    cases (show v=.int i from Q.inv);cases (show w=.int j from q.inv);let⟨⟨⟨h1,h2⟩,h3,h4⟩,U⟩:=aU.chk u;exact⟨i,j,rfl,⟨h1,h2,h3,h4⟩,U.ret L _ OG⟩
   |_=>exact u.elim
  |_=>exact u.elim⟩⟩
def Xn(hp:uC (aY X.prog X.w) X.A X.env X.xe)(hc:ST X c ta)(hb:xr X body cs):SS X (.While c body [] pos) (lj ta cs):=(ZV hp hc hb).of λG σ H h_=>h_.el λρ l st lr sr p=>by
 unfold lj at p;by_cases h:∃n,∀r,fM ta cs n l st=r->r≠.bad
 ·rw[dif_pos h]at p;generalize kS h=n at p;refine⟨λm σ H=>∃ρ l st,LR X.K ρ H σ l/\SR X.K ρ H st/\aU X.K ρ H (fM ta cs m l st) λf _ ρ' g=>match f with
   | .next l'=>∀σ',LR X.K ρ' g σ' l'->G.nx σ' g| .ret d=>∀v,dD X.K ρ' g v d->G.rt v g| .brk l'=>∀σ',LR X.K ρ' g σ' l'->G.bk σ' g
   | .cnt l'=>∀σ',LR X.K ρ' g σ' l'->G.ct σ' g,⟨n,ρ,l,st,lr,sr,p⟩,?_⟩
  intro m σ1 H1 u;let⟨ρ1,l1,O,B,Q,c⟩:=u;cases m with|zero=>exact c.elim|succ m=>
   refine⟨ρ1,l1,O,B,Q,(aU.bnd c).imp λk L ρ2 H2 U Y o=>?_⟩;cases k with|false=>exact o.ret Y _ (B.mono U)|true=>
    refine⟨λσ' g=>∃ρ l st,LR X.K ρ g σ' l/\SR X.K ρ g st/\aU X.K ρ g (fM ta cs m l st) _,λσ' g q=>⟨m,iW m,q⟩,ρ2,l1,L,B.mono U,Y,(aU.bnd o).imp λf E ρ3 H3 x3 I J=>?_⟩;cases f with|next l'=>exact λσ' C=>⟨ρ3,l',E,C,I,J⟩|ret d=>exact J.ret I|brk l'=>exact J.ret I|cnt l'=>exact λσ' C=>⟨ρ3,l',E,C,I,J⟩
 ·rw[dif_neg h]at p;exact p.elim
end
def Z8(its:List ah):yE its.toArray none none (some (-1))=its.reverse.toArray:=by
 unfold yE;let e:sliceRange (fZ none none (some (-1)) its.toArray.size).1 (fZ none none (some (-1)) its.toArray.size).2.1 (fZ none none (some (-1)) its.toArray.size).2.2=(b_ its.toArray.size).map λk=>its.toArray.size-1-k:=picked_rev its.toArray.size;rw[e];congr 1;rw[aL];let key:∀n,n<=its.length->((b_ n).map λk=>its.length-1-k).filterMap (λi=>its.toArray[i]?)=(its.drop (its.length-n)).reverse:=by
  intro n
  induction n with
  |zero=>intro _;simp
  |succ n ih=>
   intro l;rw[kC,bC,List.filterMap_append,ih ()];let c:its.length-1-n < its.length:=by ext
   have:its.drop (its.length-(n+1))=its[its.length-1-n]::its.drop (its.length-n):=by
    let h:its.length-(n+1)=its.length-1-n:=by ext
    let g:its.length-n=its.length-1-n+1:=by ext
    rw[h,g];exact dF c
   rw[this,gE];congr 1;simp[c]
 have:=key its.length (ay _);rw[fB,pj]at this;exact this
section
variable{e st:Expr}{j:Nat}
def FL(K:ai):V->Hp->VK->Prop:=λx H Q=>∃a xs,x=.ref a/\io K H a xs/\∀p,H p=none->Q (.ref p) (fT H p (.lst xs.reverse))
def Th(he:PE X e te):PE X (.Subscript e (.Slice none none (some (.UnaryOp .USub (.Constant (.int 1) j p3) p4)) p2) pos) (λσ H Q=>te σ H λx B=>FL X.K x B Q):=by
 intro c s σ H Q I h;refine DM (gA (he c s σ H _ I h) λv O u=>?_);let⟨x,B,I1,U,Y⟩:=u;refine wpAny_Slice ?_;rw[xJ];refine aj (aj ?_);let C:PE X (.UnaryOp .USub (.Constant (.int 1) j p3) p4) (NG (rU λi=>.int (-i)) (tC (.int 1))):=Pc Ro Q_;refine gA (PV C c O σ B (λo H'=>o=some (-1)/\H'=B) I1 ⟨1,rfl,-1,rfl,rfl,rfl⟩) λG g l=>?_;let⟨o,H2,I2,ps,eo,eH⟩:=l;subst eo eH;let⟨a,xs,rfl,hx,q⟩:=Y;cases U;let E:Inv X c σ H2 { g with heap:=g.heap.push { cls:=.type "slice",data:=.fields #[.none,.none,G] } }:=I2.kept (t':=g.toks) λb ob q=>am _ q;let⟨its,r,J,hz⟩:=E.list hx;let L:=r.length
 show aH (aY X.prog X.w) X.A (xK e _ (.ref a) (.ref g.heap.objs.size)) (EP X c σ Q) X.xe { g with heap:=g.heap.push { cls:=.type "slice",data:=.fields #[.none,.none,G] } };refine Bh (ops:=[.ref a,.ref g.heap.objs.size]) J.isList.typeIs tB.lookup ?_ (by with_unfolding_all rfl);refine xL J.isList (sQ ..) .none .none ps (by simp) ?_ (by rw[aL]<;>ext);rw[Z8];refine⟨.ref _,_,E.laid (t':=g.toks) (o:=.lst xs.reverse) (λb ob q=>am _ q) (ay _) ?_,rfl,q _ (E.hok.fresh (ay _))⟩;exact⟨by rw[g_];exact hz,_,0,r.reverse,aC _ rfl⟩
def Zt(h:SE X e fa):SL X (.Subscript e (.Slice none none (some (.UnaryOp .USub (.Constant (.int 1) j p3) p4)) p2) pos) (u5 fa):=
 (Th h).of λσ H Q U=>U.el λρ l st J sr p=>⟨ρ,l,st,J,sr,p.bnd0.imp λd G ρ1 H1 u g B v I=>by
  cases d with
  |ref n=>
   let⟨a,rfl,_,h⟩:=I.inv;let⟨ds,Y,p2⟩:=aU.getL (B.bnd0.left u) g;let⟨a',E,C,L,r⟩:=g.seq Y;rw[h]at C;cases C;refine⟨a,E,rfl,io.of L,λq c=>?_⟩;let O:H q=none:=by
    cases z:H q with|none=>rfl|some o=>exact bo c (u.trk q o z)
   exact p2 ρ1 _ (u.trans (Ex.new c)) (g.new c) q _ O (g.fresh c) lH ((bV.rev r).mono (Ex.new c))
  |_=>exact B.elim⟩
def Wm{lo I:Option Expr}(h:SE X e fa)(hl:SO X lo J)(hh:SO X I L):SE X (.Subscript e (.Slice lo I none p2) pos) (oO fa J L):=
 (N5 W4 h hl hh).of λσ H Q h_=>h_.el λρ l st B sr p=>⟨ρ,l,st,B,sr,p.bnd.imp λd g ρ1 H1 G s1 p1 v rv=>⟨ρ1,l,g,B.mono G,s1,p1.bnd.imp λi c ρ2 H2 E s2 p2=>⟨ρ2,l,c,(B.mono G).mono E,s2,p2.bnd.imp λj U ρ3 H3 O Y p3=>by
  let u:=(rv.mono E).mono O;let e:∀n d o,HT.iy n d o=MM.iy n d o:=λn d o=>by cases o<;>rfl
  cases u with
  |@tup a vs ds h r=>
   let⟨hw,p4⟩:=aU.chk p3;exact⟨a,vs,rfl,h,by rw[e,e,r.length];exact hw,λq C=>p4 ρ3 _ (Ex.new C) (Y.new C) _ (.tup (mU.of lH) ((bV.cut r i j).mono (Ex.new C)))⟩
  |_=>exact p3.elim⟩⟩⟩
end
end MM
namespace MM
open PySem
def tY{α:Type}(n:Nat)(f:Nat->Nat->Bool):Bn α->Option α
 | .ret a=>some a| .ask i j k=>if i < n/\j < n then tY n f (k (f i j)) else none
def rZ:List D->Option (List (List Int))
 |[]=>some []
 | .tup xs::ds=>match lQ xs,rZ ds with|some ns,some rs=>some (ns::rs)|_,_=>none
 |_=>none
noncomputable def vR:List Int->List Int->Bool
 |[],[]=>false|[],_::_=>true|_::_,[]=>false|a::as,b::bs=>if (a == b)=true then vR as bs else decide (a < b)
def u8(ds:List D):Option (List D):=match rZ ds with
 |some rows => if (rows.all λr => decide (0 < r.length)) = true /\ 2 <= ds.length /\ ds.length < 64 then (match tY ds.length (λi j => vR (rows.getD i []) (rows.getD j [])) (nA ds.length) with
   |some p=>if p.size<=1000 then some (p.toList.map λi=>ds.getD i .non) else none
   |none=>none) else none
 |none=>none
def pP:D->M D
 | .ref n=>bnd (getL n) λds=>match u8 ds with|some es=>alloc (.lst es)|none=>bad
 |_=>bad
open PySem.Spec PyProof.Rows L2
theorem Ra{α:Type}{n:Nat}{f:Nat->Nat->Bool}{l:Nat->Nat->(Bool->aq->Prop)->aq->Prop}{G:α->aq->Prop}(o:∀i j C,i < n->j < n->C (f i j) s->l i j C s):∀(t:Bn α){a:α},tY n f t=some a->G a s->t.kasWp l G s
 | .ret b,a,h,g=>by cases h;exact g
 | .ask i j k,a,h,g=>by
  unfold tY at h;by_cases c:i < n/\j < n
  ·rw[aJ c]at h;exact o i j _ c.1 c.2 (Ra o (k (f i j)) h g)
  ·rw[az c]at h;cases h
section
variable{Q:Bool->aq->Prop}
def U_{c bs:List Int}(i:Nat)(q:my l c)(o:my ws bs)(g:fin=decide (c.length < bs.length))(h:Q (vR c bs) s):PySem.W.KatLex prog w A true fin Q (l.zip ws) i s:=by
 induction c generalizing bs l ws i fin with
 |nil=>
  cases q;refine yI ?_;cases o with|nil=>rw[g];exact h|@cons b u vs bs r'=>
   rw[g];have:decide (([]:List Int).length < (b::bs).length)=true:=by simp
   rw[this];exact h
 |cons a c ih=>
  cases q with
  |cons _ t r=>cases o with
   |nil=>
    refine yI ?_;rw[g];have:decide ((a::c).length < ([]:List Int).length)=false:=by simp
    rw[this];exact h
   |@cons b u vs bs r'=>
    refine PySem.W.kat_cons (uA ?_);unfold vR at h;by_cases e:(a == b)=true
    ·rw[e];rw[aJ e]at h;exact PySem.W.kat_yes (ih (i+1) r r' (by rw[g];simp) h)
    ·let v:(a == b)=false:=by simpa using e
     rw[v];rw[az e]at h;refine PySem.W.kat_no ?_;cases i with|zero=>exact oneLt_int h|succ i=>exact PySem.W.kat_one _ _ (lt_int h)
end
section
variable{K:ai}{st:aV}
theorem RB(I:Inv X c σ H s): ∀{q:List V}{ds:List D}{its:List ah}{rows:List (List Int)},bV X.K ρ H q ds->cj q its->rZ ds=some rows ->rows.length=ds.length/\∀(i:Nat)(h:i < ds.length),∃a xs,its[i]?=some (.ref a)/\Be s.heap a xs/\my xs.toList (rows.getD i [])
 |_,_,_,rows,.nil,.nil,e=>by cases e;exact⟨rfl,λi h=>by simp at h⟩
 |_,_,_,rows,.cons (d:=d) (ds:=ds) r t,.cons ru tu,e=>by
  cases d with
  |tup xs=>
   let⟨a,u,rfl,L,B⟩:=r.inv;unfold rZ at e;cases g:lQ xs with|none=>rw[g]at e;cases e|some ns=>
    cases o:rZ ds with|none=>rw[g,o]at e;cases e|some rs=>
     rw[g,o]at e;cases e;let⟨J,Q⟩:=RB I t tu o;refine⟨by simp[J],λi O=>?_⟩;cases i with
     |succ i=>
      let⟨U,l,G,E,C⟩:=Q i (by simpa using O);exact⟨U,l,by simpa using G,E,by simpa using C⟩
     |zero=>
      let⟨its',v,p,_⟩:=I.tuple L;cases (show _=bG a from ru);have:=Fz g B;subst this;exact⟨a,_,rfl,p,by simpa using HV v⟩
  |_=>cases e
def Wi{h:bN}(x:h.Ns a m)(y:h.Ns a c):m=c:=by let⟨o,es,ep,E,C,_,B⟩:=x;let⟨o',u,v,l,g,_,q⟩:=y;rw[E]at l;cases l;rw[C]at g;cases g;funext n;rw[<- B n,q n]
theorem bV.pick:∀{c:List V}{ds:List D}(i:Nat),bV K ρ H c ds->dD K ρ H (c.getD i .non) (ds.getD i .non)
 |_,_,_,.nil=>by simp;exact .non|_,_,0,.cons r t=>by simpa using r|_,_,i+1,.cons r t=>by simpa using bV.pick i t
theorem cj.pick:∀{c:List V}{g:List ah}(i:Nat),cj c g->RelV (c.getD i .non) (g.getD i .none)
 |_,_,_,.nil=>by simp;rfl|_,_,0,.cons r t=>by simpa using r|_,_,i+1,.cons r t=>by simpa using cj.pick i t
theorem bV.picks(r:bV K ρ H c ds):∀(p:List Nat),bV K ρ H (p.map λi=>c.getD i .non) (p.map λi=>ds.getD i .non)
 |[]=>.nil|i::p=>.cons (bV.pick i r) (bV.picks r p)
theorem cj.picks(r:cj c g):∀(p:List Nat),cj (p.map λi=>c.getD i .non) (p.map λi=>g.getD i .none)
 |[]=>.nil|i::p=>.cons (cj.pick i r) (cj.picks r p)
def WF(x:gP P w H h a o):∃c,h.get? a=some c:=by
 cases o with|lst _=>let⟨_,_,_,_,e⟩:=x;exact⟨_,e⟩|tup _=>let⟨_,_,_,c,e,_⟩:=x;exact⟨_,e⟩|dK _=>let⟨_,_,_,_,c,_,_,e,_⟩:=x;exact⟨_,e⟩|dT _=>let⟨_,_,_,_,c,_,_,e,_⟩:=x;exact⟨_,e⟩|set _ _=>let⟨c,_,_,_,e,_⟩:=x;exact⟨_,e⟩|ins _ _ _=>let⟨_,_,_,e,_⟩:=x;exact⟨_,e⟩|own _=>let⟨_,e⟩:=x;exact⟨_,e⟩|xd _=>let⟨_,⟨_,_,_,e,_⟩,_⟩:=x;exact⟨_,e⟩|rng _ _=>let⟨_,_,_,e⟩:=x;exact⟨_,e⟩|frz _ _=>let⟨e,_⟩:=x;exact⟨_,e⟩|tbl _=>exact⟨_,(show h.get? a=some _ from x)⟩|met _ _=>exact⟨_,(show h.get? a=some _ from x)⟩|ext _=>let⟨_,⟨_,e⟩,_⟩:=x;exact⟨_,e⟩
def UM: CallR X (.builtin "sorted") (λxs H Q=>∃(l:ak)(vs:List V)(ρ:List ak)(ds:List D)(rows:List (List Int))(p:Array Nat),xs=[.ref l]/\io X.K H l vs/\bV X.K ρ H vs ds/\rZ ds=some rows/\(rows.all λr=>decide (0 < r.length))=true/\2<=ds.length/\ds.length < 64 /\tY ds.length (λi j=>vR (rows.getD i []) (rows.getD j [])) (nA ds.length)=some p/\p.size<=1000/\∀q,H q=none->Q (.ref q) (fT H q (.lst (p.toList.map λi=>vs.getD i .non)))):=by
 intro ac s σ H xs us Q I r h;let⟨l,vs,ρ,ds,rows,p,rfl,hq,rr,hrows,hall,h2,h64,hev,hps,q⟩:=h;let⟨u,rfl,rx⟩:=wJ r;cases rx;let⟨its,rv,pl,hz⟩:=I.list hq;let l1:=rv.length;let l2:=rr.length;let hil:its.length=ds.length:=by ext
 let⟨hrl,hit⟩:=RB I rr rv hrows;let⟨m,F⟩:=I.fr;let N:News X.base X.env.locals s.heap (mN X.base s.heap X.env.locals):=SK;let neL:∀a xs,Be s.heap a xs->a≠X.env.locals:=λa xs ht e=>by let⟨o,L,hc,n,hd⟩:=ht;let⟨o',es,ep,E,hd',_⟩:=F.ns;rw[e,E]at L;cases L;rw[hd']at hd;cases hd
 let kept:∀h',Fr X.base X.env.locals h' m->News X.base X.env.locals h' (mN X.base s.heap X.env.locals)->∀b o,b≠X.env.locals->s.heap.get? b=some o->h'.get? b=some o:=λh' F' N' b o hb e=>by
  cases z:X.base.get? b with
  |some u=>
   have:=F.keep b u z;rw[e]at this;cases this;exact F'.keep b _ z
  |none=>exact (N' (b,o) (Qv hb z e)).1
 refine PySem.W.kat_sorted F N pl.isList () () λD Y h' F' N' hD=>?_;let N'':News X.base X.env.locals h' (mN X.base s.heap X.env.locals):=λz hz=>N' z (bF _ hz);let hDL:=(N' _ (cD ..)).2.1;let hDb:=(N' _ (cD ..)).2.2;let hDs:s.heap.get? D=none:=by
  cases z:s.heap.get? D with|none=>rfl|some o=>exact bo (hD _ (Qv hDL hDb z)) (cT _)
 let g:H D=none:=by
  cases z:H D with|none=>rfl|some o=>
   let⟨ob,e⟩:=WF (I.hok D o z);rw[hDs]at e;cases e
 let G:∀(i:Nat),i < ds.length->∃a xs o n,its[i]?=some (.ref a)/\h'.get? a=some o/\o.cls=.type "tuple"/\o.data=.seq xs n/\my xs.toList (rows.getD i []):=λi hi=>by let⟨a,xs,e,ht,B⟩:=hit i hi;have hn:=neL a xs ht;let⟨o,L,hc,n,hd⟩:=ht;exact⟨a,xs,o,n,e,kept h' F' N'' a o hn L,hc,hd,B⟩
 let tups:∃fs:List ah,yJ h' its fs/\fs.length=its.length/\∀v∈fs,∃(k:Int)(t:Tok),v=.int k t:=by
  let gen:∀(ys:List ah),(∀v∈ys,∃a xs o n,v=.ref a/\h'.get? a=some o/\o.cls=.type "tuple"/\o.data=.seq xs n/\∃(k:Int)(t:Tok),xs[0]?=some (.int k t))->∃fs:List ah,yJ h' ys fs/\fs.length=ys.length/\∀v∈fs,∃(k:Int)(t:Tok),v=.int k t:=by
   intro ys
   induction ys with|nil=>exact λ_=>⟨[],trivial,rfl,by simp⟩|cons y ys ih=>
    intro hy;let⟨fs,k1,k2,k3⟩:=ih λv hv=>hy v (by simp[hv]);let⟨a,xs,o,n,e,L,hc,hd,k,t,B⟩:=hy y (by simp);subst e;exact⟨.int k t::fs,yJ.cons L hc hd B k1,by simp[k2],λv hv=>by
     rcases aX.mp hv with z|z
     ·exact⟨k,t,z⟩
     ·exact k3 v z⟩
  refine gen its λv hv=>?_;let⟨i,hi⟩:=gG hv;let hlt:i < ds.length:=by rw[<- hil];exact (ae.mp hi).1
  let⟨a,xs,o,n,e,L,hc,hd,B⟩:=G i hlt;rw[hi]at e;cases e;refine⟨a,xs,o,n,rfl,L,hc,hd,?_⟩;let U:0 < (rows.getD i []).length:=by
   let hr:i < rows.length:=by ext
   have:rows.getD i []=rows[i]:=by simp[hr]
   rw[this];have:=cU.mp hall rows[i] (a_ hr);simpa using this
  cases O:rows.getD i [] with|nil=>rw[O]at U;simp at U|cons k ks=>
   rw[O]at B;cases hxs:xs.toList with|nil=>rw[hxs]at B;cases B|cons y ys=>
    rw[hxs]at B;cases B with|cons _ t r=>exact⟨k,t,by rw[<- fF,hxs];rfl⟩
 let⟨fs,t1,t2,t3⟩:=tups;refine PySem.W.kat_kind (T:=.type "int") t1 () (λv hv=>?_) (by decide) ?_
 ·let⟨k,t,e⟩:=t3 v hv;subst e;exact PySem.W.Looks.of_pure rfl
 refine Ra (n:=ds.length) (f:=λi j=>vR (rows.getD i []) (rows.getD j [])) (λi j C hi hj hC=>?_) (nA its.length) (a:=p) (by rw[hil];exact hev) ?_
 ·let⟨a,xs,o,n,e,L,hc,hd,B⟩:=G i hi;let⟨b,ys,o',v,u,E,q,hd',hy⟩:=G j hj
  show aH _ _ (keyLt' _ (its.getD i cK) (its.getD j cK)) _ _ _;let g:its.getD i cK=.ref a:=by rw[fv,e];rfl
  let c:its.getD j cK=.ref b:=by rw[fv,u];rfl
  rw[g,c];refine PySem.W.kat_lt L hd E hd' (U_ 0 B hy ?_ hC);let l:=zQ B;let h:=zQ hy;rw[<- l,<- h,fO,fO]
 ·refine PySem.W.KasFin.intro F' N' (PySem.W.UpdF.head (λz hz=>bj (hD z hz))) λB c G L=>?_;let U:News X.base X.env.locals B (mN X.base s.heap X.env.locals):=λz hz=>L z (bF _ hz);let v:=(L _ (cD ..)).1;let h:=kept B G U;let hsz:(p.toList.map λi=>vs.getD i V.non).length<=sizeLine:=by
   rw[ag,fO];have:1000<=sizeLine:=by decide
   ext
  let J:=I.free
  suffices I3:Inv X ac σ (fT H D (.lst (p.toList.map λi=>vs.getD i V.non))) { s with heap:=B,gens:=s.gens,drawn:=s.drawn,toks:=s.toks } by exact⟨.ref D,fT H D (.lst (p.toList.map λi=>vs.getD i V.non)),I3,rfl,q D g⟩
  refine I.step (g':=s.gens) (d':=s.drawn) (t':=s.toks) (ch:=[]) (λb hb=>by cases hb) (λb o C _ _ e _=>h b o C e) (λb o C _ _ e _=>⟨o.slots,h b o C e⟩)
   (λb o _ e O=>by rw[gB (λz=>by rw[z,hDs]at e;cases e)];exact O)
   (λb o _ e=>by
    by_cases z:b=X.env.locals
    ·let⟨o',_,_,E,_⟩:=G.ns;exact⟨o',by rw[z];exact E⟩
    ·exact⟨o,h b o z e⟩)
   (λb ys e=>by rw[gB (oZ e g)];exact e) (λb o ys e=>by rw[gB (oZ e g)];exact e) (λb ps e=>⟨#[],by rw[gB (oZ e g),e];simp⟩)
   (λm' Q=>by rw[<- Wi F.ns Q];exact G.ns) ?_ I.bare
  intro a o e;by_cases z:a=D
  ·subst z;rw[lH]at e;cases e;exact⟨hsz,_,c,cj.picks rv p.toList,v⟩
  ·rw[gB z]at e;refine (I.hok a o e).stay (λb u hb Y=>h b u (λl=>?_) Y) (λb Y=>by rw[gB (oZ Y g)];exact Y) (λb ys Y=>by rw[gB (oZ Y g)];exact Y);rcases hb with y|y
   ·rw[y]at l;rw[l,J]at e;cases e
   ·rw[l,J]at y;cases y
def YZ:CallR X (.builtin "sorted") (λxs H Q=>∃v,xs=[v]/\xY X.K pP v H Q):=UM.of λxs H Q g=>by
 let⟨v,e,ρ,st,d,sr,I,p⟩:=g;cases I with
 |@ref a n _ h=>
  let⟨ds,O,c⟩:=aU.getL (aU.bnd p) sr;let⟨U,C,E,L,r⟩:=sr.seq O;rw[h]at E;cases E;unfold u8 at c;cases u:rZ ds with|none=>rw[u]at c;exact c.elim|some rows=>
   rw[u]at c;by_cases l:(rows.all λr=>decide (0 < r.length))=true/\2<=ds.length/\ds.length < 64
   ·simp only[aJ l]at c;cases B:tY ds.length (λi j=>vR (rows.getD i []) (rows.getD j [])) (nA ds.length) with|none=>rw[B]at c;exact c.elim|some pp=>
     rw[B]at c;by_cases hz:pp.size<=1000
     ·simp only[aJ hz]at c;refine⟨a,C,ρ,ds,rows,pp,e,io.of L,r,u,l.1,l.2.1,l.2.2,B,hz,λq o=>?_⟩;let J:=sr.fresh o;let G:SR X.K (ρ++[q]) (fT H q (.lst (pp.toList.map λi=>C.getD i V.non))) (st++[.lst (pp.toList.map λi=>ds.getD i D.non)]):=(sr.new o).keep lH J ((bV.picks r pp.toList).mono (Ex.new o));refine c _ _ (Ex.newL o) G _ (.ref ⟨_,lH,rfl⟩ ?_);rw[<- sr.len];simp
     ·simp only[az hz]at c;exact c.elim
   ·simp only[az l]at c;exact c.elim
 |_=>exact p.elim
end
section
variable{h':bN}{ch:List ak}
def Pt{t':Nat}(I:Inv X ac σ H s)(h:∀b∈ch,pU X ac H b)(keep:∀b o,b∉ch->s.heap.get? b=some o->h'.get? b=some o):Inv X ac σ H { s with heap:=h',toks:=t' }:=by
 let ne:∀b o,H b=some o->b∉ch:=λb o e z=>by rw[(h b z).1]at e;cases e
 let v:X.env.locals∉ch:=λz=>(h _ z).2.1 rfl;refine I.step (g':=s.gens) (d':=s.drawn) (ch:=ch) (λb l=>?_) (λb o _ _ c e _=>keep b o c e) (λb o _ _ c e _=>⟨o.slots,keep b o c e⟩) (λb o _ _ e=>e) (λb o c e=>⟨o,keep b o c e⟩)
  (λb ys e=>e) (λb o ys e=>e) (λb ps e=>⟨#[],by rw[e];simp⟩) (λm q=>?_) ?_ I.bare
 ·let⟨L,G,J,E,C,B⟩:=h b l;exact⟨E,G,C,B⟩
 ·let⟨o,es,ep,e,r⟩:=q;exact⟨o,es,ep,keep _ o v e,r⟩
 ·intro a o e;refine (I.hok a o e).stay (λb u l g=>keep b u ?_ g) (λb g=>g) (λb ys g=>g);rcases l with y|y
  ·rw[y];exact ne a o e
  ·exact ne b _ y
def La{t':Nat}{l:List V}(I:Inv X ac σ H s)(q:∀b∈ch,pU X ac H b)(keep:∀b o,b∉ch->s.heap.get? b=some o->h'.get? b=some o)(B:s.heap.objs.size<=T)(hz:l.length<=sizeLine) (C:cj l its) (E:lg h' T its.toArray):Inv X ac σ (fT H T (.tup l)) { s with heap:=h',toks:=t' }:=by
 let c:H T=none:=I.hok.fresh B;let ne:∀b o,H b=some o->b∉ch:=λb o e z=>by rw[(q b z).1]at e;cases e
 let J:X.env.locals∉ch:=λz=>(q _ z).2.1 rfl;refine I.step (g':=s.gens) (d':=s.drawn) (ch:=ch) (λb v=>?_) (λb o _ _ h e _=>keep b o h e) (λb o _ _ h e _=>⟨o.slots,keep b o h e⟩) (λb o _ e n=>by rw[gB (bj (bh (aK e) B))];exact n) (λb o h e=>⟨o,keep b o h e⟩)
  (λb ys e=>by rw[gB (oZ e c)];exact e) (λb o ys e=>by rw[gB (oZ e c)];exact e) (λb ps e=>⟨#[],by rw[gB (oZ e c),e];simp⟩) (λm G=>?_) ?_ I.bare
 ·let⟨c,U,Y,Q,O,L⟩:=q b v;exact⟨Q,U,O,L⟩
 ·let⟨o,es,ep,e,r⟩:=G;exact⟨o,es,ep,keep _ o J e,r⟩
 ·intro a o e;by_cases z:a=T
  ·subst z;rw[lH]at e;cases e;exact⟨hz,its,C,E⟩
  ·rw[gB z]at e;refine (I.hok a o e).stay (λb u v g=>keep b u ?_ g) (λb g=>by rw[gB (oZ g c)];exact g) (λb ys g=>by rw[gB (oZ g c)];exact g);rcases v with y|y
   ·rw[y];exact ne a o e
   ·exact ne b _ y
end
structure CY(prog:Program)(w:bR)(A:bM)(it src:ak)(val:Nat->Option ah)(P:Nat->bN->Prop):Prop where
 there:∀k h,P k h->∃o,h.get? it=some o
 keep:∀k h h',P k h->(∀b,b=it\/b=src->∀o,h.get? b=some o->h'.get? b=some o)->P k h'
 item:∀k x(s:aq)(Q:ah->aq->Prop)(E:ah->aq->Prop),P k s.heap->val k=some x->(∀h',P (k+1) h'->cX it s.heap h'->Q x { s with heap:=h' })->aH (aY prog w) A (bI (.ref it)) Q E s
 done:∀k(s:aq)(Q:ah->aq->Prop)(E:ah->aq->Prop),P k s.heap->val k=none->(∀h' e,nw it s.heap h'->(∃o,h'.get? e=some o/\o.cls=.type "StopIteration")->E (.ref e) { s with heap:=h' })->aH (aY prog w) A (bI (.ref it)) Q E s
section
variable{A:bM}{E:ah->aq->Prop}{s:aq}{v1 v2:Nat->Option ah}{P1 P2:Nat->bN->Prop}{k:Nat}
def xX{val:Nat->Option ah}{P:Nat->bN->Prop}(S:CY prog w A l g val P)(x:P k h)(e:nw b h h')(H:l≠b)(G:g≠b):P k h':=
 S.keep k h h' x λc C o B=>e c o (by rcases C with q|q<;>rw[q]<;>assumption) B
def XT{items:Array ah}(hh:A.handled=none)(J:a≠G):CY prog w A G a (λi=>items[i]?) (λi h=>h.IsTupleIter G a i/\h.IsTuple a items) where
 there:=λk h B=>by let⟨⟨o,e,_⟩,_⟩:=B;exact⟨o,e⟩
 keep:=λk h h' l L=>by let⟨⟨o,e,r⟩,⟨o',v,U⟩⟩:=l;exact⟨⟨o,L G (.inl rfl) o e,r⟩,⟨o',L a (.inr rfl) o' v,U⟩⟩
 item:=λk x s Q E g I Y=>by let⟨H,C⟩:=g;exact Wg H C I λh' q O=>Y h' ⟨q,C.extBut O.extBut J⟩ O
 done:=λk s Q E c I u=>by let⟨H,C⟩:=c;exact Yv hh H C I u
def X7{Q:ah->aq->Prop}(D:nU z tI tO i1 i2 l1 l2)(G:CY prog w A i1 l1 v1 P1)(C:CY prog w A i2 l2 v2 P2)(hz:mH s.heap z tI tO .none)(hi:fG s.heap tI (.ref i1) (.ref i2))(ho:fG s.heap tO u v)(p1:P1 k s.heap) (p2:P2 k s.heap)  (hx:v1 k=some x) (hy:v2 k=some y)(hQ:∀h',mH h' z tI tO (dU s.heap.objs.size)->fG h' tO x y->P1 (k+1) h'->P2 (k+1) h'->fG h' s.heap.objs.size x y ->(∀c o,c≠z->c≠tO->c≠i1->c≠i2->s.heap.get? c=some o->h'.get? c=some o)->Q (.ref s.heap.objs.size) { s with heap:=h' }):aH (aY prog w) A (Builtin.«zip.__next__» ⟨[.ref z],[]⟩) (λf s'=>∃r,f=.done (.ret r)/\Q r s') E s:=by
 show aH _ _ (qL (.ref z) 2 >>= _) _ _ _;refine ab (cH hz rfl (x:=.bool false) rfl ?_);show aH _ _ (qL (.ref z) 3 >>= _) _ _ _;refine ab (cH hz rfl (x:=.ref tI) rfl (ab (dh hi rfl ?_)));show aH _ _ (ck (.ref z) >>= _) _ _ _;refine ab ?_;unfold ck;refine ab (cH hz rfl (x:=.none) rfl (aj ?_));simp only[if_true];refine ab (iE (ab (cH hz rfl (x:=.ref tO) rfl (ab (dk hz (by simp) λha za U=>?_)))));let za':mH ha z tI tO .ellipsis:=za;refine ab ?_;simp only[Aj,Bo,kA,mQ];refine ab (ab (rQ ?_));show aH _ _ (bI (.ref i1) >>= _) _ _ _;refine ab (G.item k x _ _ _ (xX G p1 U.extBut D.i1z D.l1z) hx λhb q1 O=>aj ?_);let ob:fG hb tO u v:=O.extBut _ _ D.TOi1 (U.extBut _ _ D.TOz ho);refine ab (dh ob rfl (ab (qM ob λB oc sc=>?_)));let oc':fG B tO x v:=oc;refine ab (ke (aj ?_));refine ab (ab (rQ ?_));show aH _ _ (bI (.ref i2) >>= _) _ _ _;let p2c:P2 k B:=xX C (xX C (xX C p2 U.extBut D.i2z D.l2z) O.extBut D.i12.symm D.l2i1) sc.extBut D.TOi2.symm D.l2TO;refine ab (C.item k y _ _ _ p2c hy λhd q2 L=>aj ?_);let od:fG hd tO x v:=L.extBut _ _ D.TOi2 oc';refine ab (dh od rfl (ab (qM od λg oe J=>?_)));let Y:fG g tO x y:=oe;refine ab (ke (aj (aj ?_)));refine ab (dh Y rfl (ab (wo ?_)));let h:g.objs.size=s.heap.objs.size:=by rw[J.1,L.1,sc.1,O.1,U.1]
 let ze:mH g z tI tO .ellipsis:=J.extBut _ _ D.TOz.symm (L.extBut _ _ D.i2z.symm (sc.extBut _ _ D.TOz.symm (O.extBut _ _ D.i1z.symm za')));let all:∀c o,c≠z->c≠tO->c≠i1->c≠i2->s.heap.get? c=some o->g.get? c=some o:=λc o l n2 n3 n4 e=>J.extBut _ _ n2 (L.extBut _ _ n4 (sc.extBut _ _ n2 (O.extBut _ _ n3 (U.extBut _ _ l e))));let q1e:P1 (k+1) g:=xX G (xX G (xX G q1 sc.extBut D.TOi1.symm D.l1TO) L.extBut D.i12 D.l1i2) J.extBut D.TOi1.symm D.l1TO;let q2e:P2 (k+1) g:=xX C q2 J.extBut D.TOi2.symm D.l2TO;let H:z < g.objs.size:=aK ze
 show aH _ _ (mR (.ref z) (.ref g.objs.size) >>= _) _ _ _;refine ab ?_;unfold mR;let zf:mH (g.push { cls:=.type "tuple",data:=.seq #[x,y] }) z tI tO .ellipsis:=am _ ze;refine ab (dk zf (by simp) λhg zg sg=>?_);let zg':mH hg z tI tO (dU g.objs.size):=zg;refine dk zg' (by simp) λhh zh sh=>?_;let I:mH hh z tI tO (dU g.objs.size):=zh;let up:∀c o,c≠z->g.get? c=some o->hh.get? c=some o:=λc o l e=>sh.extBut _ _ l (sg.extBut _ _ l (am _ e));let new:fG hh g.objs.size x y:=sh.extBut _ _ (dm H) (sg.extBut _ _ (dm H) (aC _ rfl));rw[h]at I new;refine aj ⟨_,rfl,?_⟩;show Q (.ref g.objs.size) _;rw[h];exact hQ hh I (up _ _ D.TOz Y) (G.keep _ _ _ q1e λc B o e=>up c o (B.elim (λq=>by rw[q];exact D.i1z) (λq=>by rw[q];exact D.l1z)) e) (C.keep _ _ _ q2e λc B o e=>up c o (B.elim (λq=>by rw[q];exact D.i2z) (λq=>by rw[q];exact D.l2z)) e) new λc o l n2 n3 n4 e=>up c o l (all c o l n2 n3 n4 e)
def UA(D:nU z tI tO i1 i2 l1 l2)(S1:CY prog w A i1 l1 v1 P1)(O:CY prog w A i2 l2 v2 P2)(hz:mH s.heap z tI tO .none)(hi:fG s.heap tI (.ref i1) (.ref i2))(ho:fG s.heap tO u v)(p1:P1 k s.heap) (p2:P2 k s.heap) (J:v1 k=none\/v2 k=none)(hE:∀h' e,(∀c o,c≠z->c≠tO->c≠i1->c≠i2->s.heap.get? c=some o->h'.get? c=some o)->(∃o,h'.get? e=some o/\o.cls=.type "StopIteration")->E (.ref e) { s with heap:=h' }):aH (aY prog w) A (Builtin.«zip.__next__» ⟨[.ref z],[]⟩) Q E s:=by
 show aH _ _ (qL (.ref z) 2 >>= _) _ _ _;refine ab (cH hz rfl (x:=.bool false) rfl ?_);show aH _ _ (qL (.ref z) 3 >>= _) _ _ _;refine ab (cH hz rfl (x:=.ref tI) rfl (ab (dh hi rfl ?_)));show aH _ _ (ck (.ref z) >>= _) _ _ _;refine ab ?_;unfold ck;refine ab (cH hz rfl (x:=.none) rfl (aj ?_));simp only[if_true];refine ab (iE (ab (cH hz rfl (x:=.ref tO) rfl (ab (dk hz (by simp) λha za C=>?_)))));let B:mH ha z tI tO .ellipsis:=za;refine ab ?_;simp only[Aj,Bo,kA,mQ];refine ab (ab (rQ ?_));show aH _ _ (bI (.ref i1) >>= _) _ _ _;let H:P1 k ha:=xX S1 p1 C.extBut D.i1z D.l1z;cases hx:v1 k with
 |none=>
  refine ab (S1.done k _ _ _ H hx λhb e g G=>?_);let⟨Y,l,L⟩:=G;let zb:mH hb z tI tO .ellipsis:=g _ _ D.i1z.symm B;let ne:e≠z:=λq=>by rw[q,zb]at l;cases l;simp at L
  exact dk zb (by simp) λhc _ sc=>hE hc e (λc o I _ n3 _ q=>sc.extBut _ _ I (g _ _ n3 (C.extBut _ _ I q))) ⟨Y,sc.extBut _ _ ne l,L⟩
 |some x=>
  let hy:v2 k=none:=J.resolve_left (by rw[hx];simp);refine ab (S1.item k x _ _ _ H hx λhb q1 g=>aj ?_);let ob:fG hb tO u v:=g.extBut _ _ D.TOi1 (C.extBut _ _ D.TOz ho);refine ab (dh ob rfl (ab (qM ob λhc oc sc=>?_)));refine ab (ke (aj ?_));refine ab (ab (rQ ?_));show aH _ _ (bI (.ref i2) >>= _) _ _ _;let U:P2 k hc:=xX O (xX O (xX O p2 C.extBut D.i2z D.l2z) g.extBut D.i12.symm D.l2i1) sc.extBut D.TOi2.symm D.l2TO;refine ab (O.done k _ _ _ U hy λhd e sd h=>?_);let⟨Y,l,L⟩:=h;let zd:mH hd z tI tO .ellipsis:=sd _ _ D.i2z.symm (sc.extBut _ _ D.TOz.symm (g.extBut _ _ D.i1z.symm B));let ne:e≠z:=λq=>by rw[q,zd]at l;cases l;simp at L
  exact dk zd (by simp) λhe _ se=>hE he e (λc o I n2 n3 n4 q=>se.extBut _ _ I (sd _ _ n4 (sc.extBut _ _ n2 (g.extBut _ _ n3 (C.extBut _ _ I q))))) ⟨Y,se.extBut _ _ ne l,L⟩
end
def u_(a b:CE):CI:=λl=>bnd (a l) λx=>bnd (b l) λy=>match x,y with| .tup ds,.tup es=>ret ⟨ds.zipWith (λp q=>.tup [p,q]) es,eS⟩|_,_=>bad
end MM
namespace MM
open PySem
def qx(a:CE):CI:=λl=>bnd (a l) λx=>match x with| .ref n=>bnd (getL n) λds=>ret ⟨(i9 0 ds.length).zipWith (λi d=>.tup [i,d]) ds,fW n ds⟩|_=>bad
open PySem.Spec PyProof.Rows L2
def uY(t:Bool)(K:ai)(H:Hp)(a:ak)(xs:List V):Prop:=match t with|true=>mU K H a xs|false=>io K H a xs
noncomputable def tT(t:Bool)(h:bN)(a:ak)(xs:Array ah):Prop:=match t with|true=>h.IsTuple a xs|false=>h.IsList a xs
noncomputable def oW(t:Bool)(h:bN)(c a:ak)(i:Nat):Prop:=match t with|true=>h.IsTupleIter c a i|false=>h.IsListIter c a i
noncomputable def Cz:Bool->ak->Obj
 |true,a=>{ cls:=.type "tuple_iterator",data:=.fields #[.ref a,.int 0 0] }|false,a=>{ cls:=.type "list_iterator",data:=.fields #[.ref a,.int 0 0] }
section
variable{A:bM}{s:aq}{t u:Bool}{h h':bN}{a b it:ak}{xs ys:Array ah}{i:Nat}
def tT.there(p:tT t h a xs):∃o,h.get? a=some o:=by cases t<;>exact let ⟨o,e,_⟩:=p;⟨o,e⟩
def tT.keep(p:tT t h a xs)(k:∀o,h.get? a=some o->h'.get? a=some o):tT t h' a xs:=by cases t<;>exact let ⟨o,e,r⟩:=p;⟨o,k o e,r⟩
def oW.keep(p:oW t h it a i)(k:∀o,h.get? it=some o->h'.get? it=some o):oW t h' it a i:=by cases t<;>exact let ⟨o,e,r⟩:=p;⟨o,k o e,r⟩
def oW.obj(p:oW t h it a i):∃o,h.get? it=some o/\∀v,o.data≠.cell v:=by cases t<;>exact let ⟨o,e,_,d⟩:=p;⟨o,e,λv q=>by rw[d]at q;cases q⟩
def QC(e:h.get? it=some (Cz t a)):oW t h it a 0:=by cases t<;>exact⟨_,e,rfl,rfl⟩
def tT.ne(p:tT t h a xs)(q:oW u h it b i):a≠it:=λz=>by subst z;cases t<;>cases u<;>let⟨o,v,c,_⟩:=p<;>let⟨o',g,l,_⟩:=q<;>rw[v]at g<;>cases g<;>rw[c]at l<;>exact bo (wU l) (by decide)
def AR(hh:A.handled=none)(B:a≠it):CY prog w A it a (λi=>xs[i]?) (λi h=>oW t h it a i/\tT t h a xs):=by
 cases t
 ·exact⟨λk h v=>by let⟨⟨o,e,_⟩,_⟩:=v;exact⟨o,e⟩,λk h h' l I=>by let⟨p,q⟩:=l;exact⟨oW.keep (t:=false) p (I it (.inl rfl)),tT.keep (t:=false) q (I a (.inr rfl))⟩,λk x s Q E g H L=>by let⟨G,C⟩:=g;exact lO G C H λh' q J=>L h' ⟨q,tT.keep (t:=false) C λo e=>J.extBut a o B e⟩ J,λk s Q E c H O=>by let⟨G,C⟩:=c;exact qj hh G C H O⟩
 ·exact XT hh B
def Rn{Q:ah->aq->Prop}(p:tT t s.heap a xs)(c:Q (.ref s.heap.objs.size) { s with heap:=s.heap.push (Cz t a) }):aH (aY prog w) A (zH (.ref a)) Q E s:=by
 cases t
 ·exact g8 p c
 ·exact nR p c
def AN(I:Inv X c σ H s)(q:uY t X.K H a l):∃its,cj l its/\tT t s.heap a its.toArray:=by
 cases t
 ·let⟨its,g,p,_⟩:=I.list q;exact⟨its,g,p.isList⟩
 ·let⟨its,g,p,_⟩:=I.tuple q;exact⟨its,g,p⟩
def L5(I:Inv X c σ H s)(p:uY t X.K H a g)(q:uY t X.K H a ws):g=ws:=by
 cases t
 ·exact I.list_inj p q
 ·exact I.tuple_inj p q
abbrev D5(t:Bool)(h:bN)(a:ak):bN:=h.push (Cz t a)
abbrev D1(t u:Bool)(h:bN)(a b:ak):bN:=(D5 t h a).push (Cz u b)
abbrev En(t u:Bool)(h:bN)(a b:ak):bN:=(D1 t u h a b).push { cls:=.type "tuple",data:=.seq #[.ref h.objs.size,.ref (D5 t h a).objs.size] }
abbrev GZ(t u:Bool)(h:bN)(a b:ak):bN:=(En t u h a b).push { cls:=.type "tuple",data:=.seq #[.none,.none] }
abbrev z_(t u:Bool)(h:bN)(a b:ak):bN:=(GZ t u h a b).push { cls:=.type "zip",data:=.fields #[.none,.bool false,.bool false,.ref (D1 t u h a b).objs.size,.ref (En t u h a b).objs.size] }
def Ua(t u:Bool)(a b:ak)(xs ys:Array ah):Meets (Builtin.«zip.__new__» ⟨[.type "zip",.ref a,.ref b],[]⟩) (λ_ R s=>tT t s.heap a xs/\tT u s.heap b ys/\R (.ok (.ret (.ref (GZ t u s.heap a b).objs.size))) { s with heap:=z_ t u s.heap a b }):=
 .of_wp λprog w A R s h=>by
  let⟨q,g,d,c,os⟩:=s;let⟨G,C,h⟩:=h;let l:=sub_zip;let B:tT t (vL ⟨q,g,d,c,os⟩) a xs:=G;let v:tT u (vL ⟨q.push (Cz t a),g,d,c,os⟩) b ys:=C.keep λo e=>am _ e
  wp_walk using Rn B,Rn v
  exact⟨_,rfl,h⟩
def Uv{Q:ah->aq->Prop}(Y:tT t s.heap a xs)(U:tT u s.heap b ys)(h:∀h',mH h' (s.heap.objs.size+4) (s.heap.objs.size+2) (s.heap.objs.size+3) .none->fG h' (s.heap.objs.size+2) (.ref s.heap.objs.size) (.ref (s.heap.objs.size+1))->fG h' (s.heap.objs.size+3) .none .none ->oW t h' s.heap.objs.size a 0->oW u h' (s.heap.objs.size+1) b 0->(∀c o,s.heap.get? c=some o->h'.get? c=some o)->Q (.ref (s.heap.objs.size+4)) { s with heap:=h' }):aH (aY prog w) A (call (.type "zip") [.ref a,.ref b]) Q E s:=by
 refine callType_new F.called_zip (by decide) (F.typeCall_zip_2 _ _) (F.newCall_zip_2 _ _) (λobj=>F.args_object_init_3 obj _ _) F.entry_zip_new (Ua t u a b xs ys) ⟨Y,U,?_⟩;let G:(D5 t s.heap a).objs.size=s.heap.objs.size+1:=cB ..;let C:(D1 t u s.heap a b).objs.size=s.heap.objs.size+2:=by rw[cB,G]
 let B:(En t u s.heap a b).objs.size=s.heap.objs.size+3:=by rw[cB,C]
 let L:(GZ t u s.heap a b).objs.size=s.heap.objs.size+4:=by rw[cB,B]
 let g:∀{c o},(GZ t u s.heap a b).get? c=some o->(z_ t u s.heap a b).get? c=some o:=λe=>am _ e;let l:∀{c o},(En t u s.heap a b).get? c=some o->(z_ t u s.heap a b).get? c=some o:=λe=>g (am _ e);let q:∀{c o},(D1 t u s.heap a b).get? c=some o->(z_ t u s.heap a b).get? c=some o:=λe=>l (am _ e);let up1:∀{c o},(D5 t s.heap a).get? c=some o->(z_ t u s.heap a b).get? c=some o:=λe=>q (am _ e);let v:mH (z_ t u s.heap a b) (GZ t u s.heap a b).objs.size (D1 t u s.heap a b).objs.size (En t u s.heap a b).objs.size .none:=aC _ rfl;let H:fG (z_ t u s.heap a b) (En t u s.heap a b).objs.size .none .none:=g (aC _ rfl);let I:fG (z_ t u s.heap a b) (D1 t u s.heap a b).objs.size (.ref s.heap.objs.size) (.ref (D5 t s.heap a).objs.size):=l (aC _ rfl);let J:(z_ t u s.heap a b).get? (D5 t s.heap a).objs.size=some (Cz u b):=q (aC _ (by cases u<;>rfl));let O:(z_ t u s.heap a b).get? s.heap.objs.size=some (Cz t a):=up1 (aC _ (by cases t<;>rfl))
 show _/\_;rw[C,B,L]at v;rw[B]at H;rw[G,C]at I;rw[G]at J;rw[L];exact⟨⟨_,v,rfl⟩,h _ v I H (QC O) (QC J) λc o e=>up1 (am _ e)⟩
def Vj{Q:ah->aq->Prop}(p:tT t s.heap a xs)(h:∀h',IsEnum h' (s.heap.objs.size+1) s.heap.objs.size 0 .none->oW t h' s.heap.objs.size a 0->(∀b o,s.heap.get? b=some o->h'.get? b=some o)->Q (.ref (s.heap.objs.size+1)) { s with heap:=h' }):aH (aY prog w) A (call (.type "enumerate") [.ref a]) Q E s:=by
 cases t
 ·exact call_enumerate_list p λh' a b _ c=>h h' a b c
 ·exact QfS p λh' a b _ c=>h h' a b c
def YC(t:Bool)(hh:A.handled=none)(c:a≠it)(xs:Array ah):Draws prog w A it [it,a] xs.size (λi v=>xs[i]?=some v) (λi h=>oW t h it a i/\tT t h a xs) where
 live:=λi h st=>(AR (prog:=prog) (w:=w) hh c).there i h st
 frame:=λi h h' st B=>(AR (prog:=prog) (w:=w) hh c).keep i h h' st λb C o e=>B b (by rcases C with q|q<;>rw[q]<;>simp) o e
 item:=λi s Q E g st G=>(AR hh c).item i xs[i] s Q E st (by simp[g]) λh' p l=>G _ h' s.toks (by simp[g]) p l
 done:=λs Q E st H=>(AR hh c).done xs.size s Q E st (by simp) H
end
def Dh(t u:Bool)(K:ai)(a b:ak):It:=
 ⟨λi H=>∃xs ys x y,uY t K H a xs/\uY u K H b ys/\xs[i]?=some x/\ys[i]?=some y,
  λi H r c=>∃T x y,r=.ref T/\H T=none/\(∀xs,uY t K H a xs->xs[i]?=some x)/\(∀ys,uY u K H b ys->ys[i]?=some y)/\c=fT H T (.tup [x,y]),
  λi H=>∃xs ys,uY t K H a xs/\uY u K H b ys/\(xs.length<=i\/ys.length<=i)⟩
def Dp(t:Bool)(K:ai)(a:ak):It:=
 ⟨λi H=>∃xs x,uY t K H a xs/\xs[i]?=some x,λi H x c=>∃T v,x=.ref T/\H T=none/\(∀xs,uY t K H a xs->xs[i]?=some v)/\c=fT H T (.tup [.int i,v]),λi H=>∃xs,uY t K H a xs/\xs.length<=i⟩
def FU(t u:Bool)(z g c o l a b:ak)(i:Nat)(h:bN):Prop:=mH h z g c .none/\fG h g (.ref o) (.ref l)/\(∃u v,fG h c u v)/\oW t h o a i/\oW u h l b i
section
variable{es:List Expr}{K:ai}{st:aV}{t u:Bool}
def Oa{i:Nat}(p:FU t u z l g C B a b i h)(E:c∈[z,l,g,C,B]):∃o,h.get? c=some o/\∀v,o.data≠.cell v:=by
 let⟨O,L,⟨u,v,J⟩,I,G⟩:=p;simp only[aX,cO,or_false]at E;rcases E with e|e|e|e|e<;>subst e
 ·exact⟨_,O,λv q=>by cases q⟩
 ·exact⟨_,L,λv q=>by cases q⟩
 ·exact⟨_,J,λv q=>by cases q⟩
 ·exact I.obj
 ·exact G.obj
def Wq{k:Nat}(D:nU z C tO i1 i2 a b):vv P w K (.Tuple es k pos) (Dh t u K a b) [z,C,tO,i1,i2] z (FU t u z C tO i1 i2 a b) where
 mem:=by simp
 obj:=λi h p c l=>Oa p l
 keep:=λi h h' O kp=>by let⟨q,h2,⟨u,v,h3⟩,h4,h5⟩:=O;exact⟨kp z (by simp) _ q,kp C (by simp) _ h2,⟨u,v,kp tO (by simp) _ h3⟩,h4.keep λo e=>kp i1 (by simp) o e,h5.keep λo e=>kp i2 (by simp) o e⟩
 item:=by
  intro X hP hw hK l i B s σ H E I hf p0 hg;let⟨q,h2,⟨u0,v0,h3⟩,h4,h5⟩:=id p0;subst hP hw hK;let⟨xs,ys,x,y,qa,qb,hx,hy⟩:=hg;let⟨its,rv,p⟩:=AN I qa;let⟨its2,G,p2⟩:=AN I qb;let⟨ux,hux,rux⟩:=rv.get hx;let⟨uy,huy,ruy⟩:=G.get hy;let U:s.TypeIs (.ref z) "zip":=⟨_,q,rfl⟩
  unfold ip;refine ab (il (bX (name:=aD "__next__") U gN (cA gN U oK (X7 D (AR (I.ok.hd l) D.l1i1) (AR (I.ok.hd l) D.l2i2) q h2 h3 ⟨h4,p⟩ ⟨h5,p2⟩ (x:=ux) (y:=uy) (by simpa using hux) (by simpa using huy) λh' g1 g2 g3 g4 g5 g7=>aj ?_) (nY _))));refine⟨_,rfl,wpAny_letOwnedTupleGo_zip g1 λY k1 k2=>?_⟩;let zlt:z < s.heap.objs.size:=aK q;let keep:∀c o,c∉[z,C,tO,i1,i2]->s.heap.get? c=some o->Y.get? c=some o:=λc o l e=>by simp only[aX,cO,or_false,not_or]at l;exact (k2.2 c l.1).trans (g7 c o l.1 l.2.2.1 l.2.2.2.1 l.2.2.2.2 e)
  let U:fG Y s.heap.objs.size ux uy:=(k2.2 _ (dm zlt)).trans g5;let I2:Inv X B σ (fT H s.heap.objs.size (.tup [x,y])) { s with heap:=Y,toks:=s.toks }:=La (its:=[ux,uy]) I hf keep (ay _) (by show 2<=sizeLine;decide) (.cons rux (.cons ruy .nil)) ⟨_,U,rfl,⟨_,rfl⟩,rfl⟩;refine⟨.ref s.heap.objs.size,_,I2,rfl,⟨_,x,y,rfl,I.hok.fresh (ay _),λzs Q=>by rw[L5 I Q qa];exact hx,λzs Q=>by rw[L5 I Q qb];exact hy,rfl⟩,
   ⟨k1,(k2.2 C D.TIz).trans (g7 C _ D.TIz D.TITO D.TIi1 D.TIi2 h2),⟨_,_,(k2.2 tO D.TOz).trans g2⟩,g3.1.keep λo e=>(k2.2 i1 D.i1z).trans e,g4.1.keep λo e=>(k2.2 i2 D.i2z).trans e⟩,λc l=>?_⟩
  let⟨o,eo,_⟩:=Oa p0 l;rw[gB (bj (aK eo))];exact (hf c l).1
 done:=by
  intro X hP hw hK l i B s σ H E I hf J hg;let⟨q,h2,⟨u,v,h3⟩,h4,h5⟩:=J;subst hP hw hK;let⟨xs,ys,qa,qb,hl⟩:=hg;let⟨its,rv,p⟩:=AN I qa;let⟨its2,G,p2⟩:=AN I qb;let l1:=rv.length;let l2:=G.length;let U:s.TypeIs (.ref z) "zip":=⟨_,q,rfl⟩
  unfold ip;refine ab (il (bX (name:=aD "__next__") U gN (cA gN U oK (UA D (AR (I.ok.hd l) D.l1i1) (AR (I.ok.hd l) D.l2i2) q h2 h3 ⟨h4,p⟩ ⟨h5,p2⟩ ?_ λh' e g ⟨o,q1,q2⟩=>?_) (nY _))))
  ·rcases hl with hl|hl
   ·exact .inl (by simp;ext)
   ·exact .inr (by simp;ext)
  ·refine ab (eL (T:="StopIteration") (b:=true) ⟨o,q1,q2⟩ nV (aj ⟨rfl,Pt (t':=s.toks) I hf λc o l e=>?_⟩));simp only[aX,cO,or_false,not_or]at l;exact g c o l.1 l.2.2.1 l.2.2.2.1 l.2.2.2.2 e
 self:=λ_ _ _ _ _ L h=>by let⟨q,_⟩:=L;exact uG q h
def VD{k:Nat}(a e C:ak)(hei:e≠C):vv P w K (.Tuple es k pos) (Dp t K a) [e,C] e (λi h=>(∃old,IsEnum h e C i old)/\oW t h C a i) where
 mem:=by simp
 obj:=λi h Y b g=>by
  let⟨⟨old,l⟩,c⟩:=Y;simp only[aX,cO,or_false]at g;rcases g with z|z<;>subst z
  ·exact⟨_,l,λv q=>by cases q⟩
  ·exact c.obj
 keep:=λi h h' U kp=>by let⟨⟨old,l⟩,c⟩:=U;exact⟨⟨old,kp e (by simp) _ l⟩,c.keep λo x=>kp C (by simp) o x⟩
 item:=by
  intro X hP hw hK hc i B s σ H E I hf L hg;let⟨⟨old,l⟩,c⟩:=L;subst hP hw hK;let⟨xs,x,hq,hx⟩:=hg;let⟨its,rv,p⟩:=AN I hq;let⟨u,hu,ru⟩:=rv.get hx;let hlt:i < its.toArray.size:=by rw[aL];exact (ae.mp hu).1
  let hae:a≠e:=λz=>by subst z;cases t<;>let⟨o',e2,c',_⟩:=p<;>rw[l]at e2<;>cases e2<;>exact bo (wU c') (by decide)
  refine wpAny_pyNext_enum_itemD (YC t (prog:=X.prog) (w:=X.w) (A:=X.A.in1) (I.ok.hd hc) (p.ne c) its.toArray) l ⟨c,p⟩ hlt hei (by simp;exact⟨hei,hae.symm⟩) λy h' tk hP ho hst hT hsz hk=>?_;let ey:y=u:=by
   have:its.toArray[i]?=some u:=by simpa using hu
   rw[this]at hP;cases hP;rfl
  subst ey;refine⟨_,rfl,wpAny_letOwnedTupleGo_enum ho λh2 he2 hs2=>?_⟩;let G:e < s.heap.objs.size:=aK l;let hT2:h2.get? s.heap.objs.size=some { cls:=.type "tuple",data:=.seq #[.int i tk,y] }:=(hs2.2 _ (dm G)).trans hT;let I2:Inv X B σ (fT H s.heap.objs.size (.tup [.int i,x])) { s with heap:=h2,toks:=tk+1 }:=La (its:=[.int i tk,y]) I hf (λb o g e1=>by simp only[aX,cO,or_false,not_or]at g;exact (hs2.2 b g.1).trans (hk b o g.1 g.2 e1)) (ay _) (by show 2<=sizeLine;decide) (.cons ⟨tk,rfl⟩ (.cons ru .nil)) ⟨_,hT2,rfl,⟨_,rfl⟩,rfl⟩
  refine⟨.ref s.heap.objs.size,_,I2,rfl,⟨_,x,rfl,I.hok.fresh (ay _),λys hy=>by rw[L5 I hy hq];exact hx,rfl⟩,⟨⟨y,by simpa using he2⟩,hst.1.keep λo e=>(hs2.2 C hei.symm).trans e⟩,λb g=>?_⟩;rw[gB]
  ·exact (hf b g).1
  ·simp only[aX,cO,or_false]at g;rcases g with z|z<;>subst z
   ·exact bj G
   ·let⟨o,h,_⟩:=c.obj;exact bj (aK h)
 done:=by
  intro X hP hw hK hc i B s σ H E I hf J hg;let⟨⟨old,l⟩,c⟩:=J;subst hP hw hK;let⟨xs,hq,hx⟩:=hg;let⟨its,rv,p⟩:=AN I hq;let⟨g0,g1,g2,g3,g4,g5⟩:=hf C (by simp);let hl:=rv.length;let hT:s.TypeIs (.ref e) "enumerate":=⟨_,l,rfl⟩
  unfold ip;refine ab (il (bX (name:=aD "__next__") hT yK (cA yK hT F.entry_enumerate_next ?_ (F.args_enumerate_next_1 _))))
  show aH _ _ (qL (.ref e) 2 >>= _) _ _ _;refine ab (cH l rfl (x:=.ref C) rfl ?_);refine ab ((AR (A:=X.A.in1) (I.ok.hd hc) (p.ne c)).done i _ _ _ ⟨c,p⟩ (by simp;ext) λh' x he' Q=>?_);let⟨o,ho,hc'⟩:=Q;exact ab (eL (T:="StopIteration") (b:=true) ⟨o,ho,hc'⟩ nV (aj ⟨rfl,I.turned (t':=s.toks) (λb o g e=>he' b o g e) g0 g1 g3 g4 g5⟩))
 self:=λ_ _ _ _ _ O h=>by let⟨⟨old,l⟩,_⟩:=O;exact EC l h
def Y_{k:Nat}(hg:Gl X "zip")(hm:X.mg "zip"=none)(ha:PA X [a,b] U)(hs:starEach [a,b] X.env=[(false,eval a X.env),(false,eval b X.env)])(E:starEach [b] X.env=[(false,eval b X.env)]):PI X (.Tuple es k C) (.Call (.Name "zip" p) [a,b] [] pos) (λσ H R=>U σ H λQ B=>∃v l xs ys,Q=[.ref v,.ref l]/\uY t X.K B v xs/\uY u X.K B l ys/\R (Dh t u X.K v l) B):=by
 intro g s σ H R I h;refine Call_ (yy I hg hm boot_zip (cz (gA (ha pos g s σ H _ I h) λus c ⟨Q,B,J,r1,q1⟩=>?_) (by rw[hs,E]) (by rw[E];rfl)));let⟨v,l,xs,ys,e,hx,hy,q⟩:=q1;subst e;cases r1 with|cons r rr=>
  cases rr with|cons r' rr=>
   cases rr;cases r;cases r';let⟨its,rv,p1⟩:=AN J hx;let⟨its2,rv2,Y⟩:=AN J hy;let O:v < c.heap.objs.size:=by let⟨o,e⟩:=p1.there;exact aK e
   let L:l < c.heap.objs.size:=by let⟨o,e⟩:=Y.there;exact aK e
   refine Uv p1 Y λh' g1 g2 g3 g4 g5 g7=>uG g1 ?_;let I2:Inv X g σ B { c with heap:=h' }:=J.kept (t':=c.toks) g7;refine⟨c.heap.objs.size+4,[c.heap.objs.size+4,c.heap.objs.size+2,c.heap.objs.size+3,c.heap.objs.size,c.heap.objs.size+1],_,Dh t u X.K v l,B,rfl,I2,Wq (zipApart_new O L),⟨g1,g2,⟨_,_,g3⟩,g4,g5⟩,λb hb=>?_,q⟩;let G:c.heap.objs.size<=b:=by simp only[aX,cO,or_false]at hb;rcases hb with e|e|e|e|e<;>rw[e]<;>ext
   exact J.fpOk G (J.hok.fresh G)
def Wz{k:Nat}(hg:Gl X "enumerate")(hm:X.mg "enumerate"=none)(ha:PA X [b] E)(hs:starEach [b] X.env=[(false,eval b X.env)]):PI X (.Tuple es k l) (.Call (.Name "enumerate" p) [b] [] pos) (λσ H R=>E σ H λC q=>∃a xs,C=[.ref a]/\uY t X.K q a xs/\R (Dp t X.K a) q):=by
 intro g s σ H R I h;refine Call_ (yy I hg hm boot_enumerate (cz (gA (ha pos g s σ H _ I h) λus c ⟨C,q,v,O,Q⟩=>?_) hs rfl));let⟨a,xs,e,hq,hR⟩:=Q;subst e;let⟨u,rfl,L⟩:=wJ O;cases L;let⟨its,rv,U⟩:=AN v hq;refine Vj U λh' G B Y=>EC G ?_;let I2:Inv X g σ q { c with heap:=h' }:=v.kept (t':=c.toks) Y;refine⟨c.heap.objs.size+1,[c.heap.objs.size+1,c.heap.objs.size],_,Dp t X.K a,q,rfl,I2,VD a (c.heap.objs.size+1) c.heap.objs.size (Nat.succ_ne_self _),⟨⟨_,G⟩,B⟩,λb J=>?_,hR⟩;let o:c.heap.objs.size<=b:=by simp only[aX,cO,or_false]at J;rcases J with e|e<;>rw[e]<;>ext
 exact v.fpOk o (v.hok.fresh o)
def FC:Bool->D->M (List D×(aV->Prop))
 |true,.tup ds=>ret (ds,eS)|false,.ref n=>bnd (getL n) λds=>ret (ds,fW n ds)|_,_=>bad
def aU.sqx{α:Type}{f:List D×(aV->Prop)->M α}{R:α->aV->List ak->Hp->Prop}(p:aU K ρ H (MM.bnd (FC t d) f st) R)(G:dD K ρ H v d)(sr:SR K ρ H st):∃a ws ds sm,v=.ref a/\uY t K H a ws/\aU K ρ H (f (ds,sm) st) R/\∀ρ' g c,Ex ρ H ρ' g->SR K ρ' g c->(t=false->sm c)->∃l,uY t K g a l/\bV K ρ' g l ds:=by
 cases t
 ·cases d with
  |ref n=>
   obtain⟨a,rfl,I⟩:∃a,v=.ref a/\ρ[n]?=some a:=by cases G with|@ref a m _ h=>exact⟨_,rfl,h⟩
   let⟨ds,U,O⟩:=aU.getL (aU.bnd (aU.bnd p)) sr;let⟨u,J,q,Q,r⟩:=sr.seq U;rw[I]at q;cases q;refine⟨a,J,ds,fW n ds,rfl,io.of Q,O.ret sr,λρ' g c x E sm=>?_⟩;let⟨τ,eτ,_⟩:=x.pre;let⟨Y,B,o,C,L⟩:=E.seq (sm rfl);rw[eτ,xl I]at o;cases o;exact⟨B,io.of C,L⟩
  |_=>exact p.elim
 ·cases d with
  |tup ds=>
   obtain⟨a,ws,rfl,h,r⟩:∃a ws,v=.ref a/\mU K H a ws/\bV K ρ H ws ds:=by cases G with|tup h r=>exact⟨_,_,rfl,h,r⟩
   exact⟨a,ws,ds,eS,rfl,h,(aU.bnd p).ret sr,λρ' g c x E _=>⟨ws,mU.mono x.up h,r.mono x⟩⟩
  |_=>exact p.elim
def smX(t u:Bool)(P Q:aV->Prop):aV->Prop:=match t,u with|true,true=>eS|false,true=>P|true,false=>Q|false,false=>λs=>P s/\Q s
def zE(t u:Bool)(a b:CE):CI:=λl=>bnd (a l) λx=>bnd (b l) λy=>bnd (FC t x) λp=>bnd (FC u y) λq=>ret ⟨p.1.zipWith (λp q=>.tup [p,q]) q.1,smX t u p.2 q.2⟩
def vW(t:Bool)(a:CE):CI:=λl=>bnd (a l) λx=>bnd (FC t x) λp=>ret ⟨(i9 0 p.1.length).zipWith (λi d=>.tup [i,d]) p.1,p.2⟩
def NO{k:Nat}(t u:Bool)(hg:Gl X "zip")(hm:X.mg "zip"=none)(h:SE X a fa)(h':SE X b fb)(he1:starEach [a,b] X.env=(false,eval a X.env)::starEach [b] X.env)(he2:starEach [b] X.env=(false,eval b X.env)::starEach [] X.env)(hs:starEach [a,b] X.env=[(false,eval a X.env),(false,eval b X.env)]) (hs2:starEach [b] X.env=[(false,eval b X.env)]):SI X (.Tuple es k E) (.Call (.Name "zip" p) [a,b] [] pos) (zE t u fa fb):=
 (Y_ (t:=t) (u:=u) hg hm (sA h (sA h' vI he2) he1) hs hs2).of λσ H R h_=>h_.el λρ l st lr sr p=>⟨ρ,l,st,lr,sr,p.bnd.imp λd Q ρ1 H1 x1 s1 p1 v rv=>⟨ρ1,l,Q,lr.mono x1,s1,p1.bnd.imp λe st2 ρ2 H2 x2 U p2 w Y=>by
  let⟨a1,ws,ds,sm,rfl,q1,p3,I⟩:=aU.sqx p2 (rv.mono x2) U;let⟨a2,O,C,sm2,rfl,q2,p4,G⟩:=aU.sqx p3 Y U;refine⟨a1,a2,ws,O,rfl,q1,q2,p4.ret U _ ?_⟩;intro ρ3 H3 st3 x3 s3 sm3;let⟨g,B,r3⟩:=I ρ3 H3 st3 x3 s3 λe=>by subst e;cases u<;>first|exact sm3.1|exact sm3
  let⟨c,q,r4⟩:=G ρ3 H3 st3 x3 s3 λe=>by subst e;cases t<;>first|exact sm3.2|exact sm3
  let l1:=r3.length;let l2:=r4.length;refine⟨⟨g,c,B,q,?_⟩,λi d hd=>?_⟩
  ·show g.length<=(ds.zipWith _ C).length\/c.length<=(ds.zipWith _ C).length;rw[hU];ext
  ·rw[eQ]at hd;cases J:ds[i]? with|none=>rw[J]at hd;cases hd|some d1=>
    cases u:C[i]? with|none=>rw[J,u]at hd;cases hd|some d2=>
     rw[J,u]at hd;let Y:d=.tup [d1,d2]:=(aF hd).symm;subst Y;let⟨v1,I,l⟩:=r3.get J;let⟨v2,G,h⟩:=r4.get u;refine⟨⟨g,c,v1,v2,B,q,I,G⟩,λy H4 o=>?_⟩;let⟨T,x,y',U,H,Q,O,eH⟩:=o;subst U eH;let E:=Q g B;let v:=O c q;rw[I]at E;cases E;rw[G]at v;cases v;let L:Ex ρ3 H3 ρ3 (fT H3 T (.tup [v1,v2])):=Ex.new H;exact⟨L,s3.new H,.tup (mU.of lH) (.cons (l.mono L) (.cons (h.mono L) .nil))⟩⟩⟩
def Q0{k:Nat}(t:Bool)(hg:Gl X "enumerate")(hm:X.mg "enumerate"=none)(h:SE X b fa)(L:starEach [b] X.env=[(false,eval b X.env)]):SI X (.Tuple es k g) (.Call (.Name "enumerate" p) [b] [] pos) (vW t fa):=
 (Wz (t:=t) hg hm (sA h vI L) L).of λσ H R h_=>h_.el λρ l st lr sr p=>⟨ρ,l,st,lr,sr,p.bnd.imp λd U ρ1 H1 x1 J p1 v B=>by
  let⟨a1,ws,ds,sm,rfl,Y,u,k1⟩:=aU.sqx p1 B J;refine⟨a1,ws,rfl,Y,u.ret J _ ?_⟩;intro ρ2 H2 st2 x2 s2 sm2;let⟨q,C,r⟩:=k1 ρ2 H2 st2 x2 s2 λ_=>sm2;let hl:=r.length;let len:((i9 0 ds.length).zipWith (λi d=>D.tup [i,d]) ds).length=ds.length:=by simp[i9]
  refine⟨⟨q,C,by rw[len,hl];exact ay _⟩,λi d G=>?_⟩;let E:i < ds.length:=by rw[<- len];exact (ae.mp G).1
  let ed:d=.tup [.int i,ds[i]]:=by rw[eQ,i9,au,mq E,af E]at G;have:=aF G;rw[<- this];simp
  subst ed;let⟨v,o,B⟩:=r.get (af E);refine⟨⟨q,v,C,o⟩,λy H3 c=>?_⟩;let⟨T,w,ey,O,hw,eH⟩:=c;subst ey eH;let Q:=hw q C;rw[o]at Q;cases Q;let I:Ex ρ2 H2 ρ2 (fT H2 T (.tup [.int i,v])):=Ex.new O;exact⟨I,s2.new O,.tup (mU.of lH) (.cons (.int _) (.cons (B.mono I) .nil))⟩⟩
def u7(a b:CE):CI:=λl=>bnd (a l) λx=>bnd (b l) λy=>match x,y with| .ref m,.tup es=>bnd (getL m) λds=>ret ⟨ds.zipWith (λp q=>.tup [p,q]) es,fW m ds⟩|_,_=>bad
def Ed{α β:Type}{m:M α}{f g:α->M β}(h:∀x s,f x s=g x s):bnd m f s=bnd m g s:=by unfold bnd;cases m s<;>first|rfl|exact h _ _
def QgM:u_ fa fb=zE true true fa fb:=by
 funext l s;refine Ed λx s=>Ed λy s=>?_;cases x<;>first|rfl|skip
 cases y<;>rfl
def Wb{α:Type}{n:Nat}{f:List D->M α}(h:∀ds s,f ds s=.bad)(s:aV):.bad=bnd (getL n) f s:=by
 unfold bnd getL;cases s[n]? with|none=>rfl|some o=>cases o<;>first|rfl|exact (h _ _).symm
def Tp:u7 fa fb=zE false true fa fb:=by
 funext l s;refine Ed λx s=>Ed λy s=>?_;cases x<;>first|rfl|(cases y<;>rfl)|skip
 rename_i n;let e:∀{α:Type}(f:List D×(aV->Prop)->M α)s,bnd (FC false (.ref n)) f s=bnd (getL n) (λds=>f (ds,fW n ds)) s:=λf s=>by show bnd (bnd (getL n) _) f s=_;unfold bnd;cases getL n s<;>rfl
 refine Eq.trans ?_ (e _ s).symm;cases y<;>first|rfl|exact Wb (λ_ _=>rfl) s
def Sj:vn fa=vW true fa:=by funext l s;refine Ed λx s=>?_;cases x<;>rfl
def R9:qx fa=vW false fa:=by
 funext l s;refine Ed λx s=>?_;cases x<;>first|rfl|skip
 rename_i n
 show bnd (getL n) _ s=bnd (bnd (getL n) _) _ s;unfold bnd;cases getL n s<;>rfl
end
end MM
namespace PySem.F
def nolen_lri:nN (.type "list_reverseiterator") "__len__"=pure none:=by rw[m5,iQ];kernel_rfl
def hint_lri:nN (.type "list_reverseiterator") "__length_hint__"=pure (some (.builtin "list_reverseiterator.__length_hint__")):=by rw[m5,iQ];kernel_rfl
end PySem.F
namespace MM
open PySem PySem.Spec PyProof.Rows L2
section
variable{s:aq}
def TL{Q:Bool->aq->Prop}(l:s.TypeIs (.ref r) "list_reverseiterator")(h:Q false s):aH (aY prog w) A (qo (.ref r)) Q E s:=by
 unfold qo;refine ab (kY l PySem.F.nolen_lri ?_)
 show aH _ A (specialOf (bG r) (aD "__length_hint__") >>= _) _ _ _;refine ab (kY l PySem.F.hint_lri ?_);generalize c:("list_reverseiterator.__length_hint__":String)=g
 wp_delta
 rw[show splitId g=some ("list_reverseiterator","__length_hint__") from by subst c;decide +kernel];subst c;refine ab (eL (b:=true) l (by rw[isSubtype_type];kernel_rfl) ?_);exact aj h
end
def W9{g:List ah}(h:ED (λi v=>g.toArray[g.toArray.size-1-i]?=some v) c g.toArray.size):c=g.reverse.toArray:=by
 apply Ip;apply fq;intro i;let u:c.size=g.length:=by have:=h.1;simpa using this
 by_cases q:i < g.length
 ·let o:c[i]?=some (c[i]'()):=m6 ();let l:=h.2 i _ o;rw[fF,o];simp only[List.getElem?_toArray,aL]at l;rw[oR q];exact l.symm
 ·rw[cf (by simp;ext),cf (by simp;ext)]
theorem cj.reverse:∀{xs:List V}{c:List ah},cj xs c->cj xs.reverse c.reverse
 |_,_,.nil=>.nil|_,_,.cons r t=>by rw[gE,gE];exact L2.cj.append (cj.reverse t) (.cons r .nil)
section
variable{X:Cx}{pos a6 a5 a0 p p':Pos}{K:ai}{H:Hp}{st:aV}
def YR:SE X (.Dict [] [] pos) (so false):=Xs.of λσ H Q g q h=>by let⟨ρ,l,st,u,sr,p⟩:=g;have p':∀ρ' H',Ex ρ H ρ' H'->SR X.K ρ' H' (st++[.dct false []])->∀v,dD X.K ρ' H' v (.dic st.length)->Q v H':=p;refine p' (ρ++[q]) _ (Ex.newO h) ((sr.new h).keepO (sr.fresh h) ⟨[],lH,.nil⟩) _ (.dic ⟨_,lH,.inl rfl⟩ ?_);rw[<- sr.len];simp
def Dl(X:Cx):TE:=λ_ H Q=>∀p,H p=none->Q (.ref p) (fT H p (mh p []))
def QgU:PE X (.Dict [] [] pos) (Dl X):=λg s σ H Q I h=>
 Ij ⟨.ref s.heap.objs.size,_,I.laid (a:=s.heap.objs.size) (o:=mh s.heap.objs.size []) (t':=s.toks) (λ_ _ q=>am _ q) (ay _)
  (E7 (P:=X.prog) (w:=X.w) (xs:=[]) (bH _) (beq_eq_false_iff_ne.mpr (fI (bj I.big))) .nil (uT s.heap) ⟨_,_,aC _ rfl,rfl⟩),rfl,h _ (I.hok.fresh (ay _))⟩
def QgV:SE X (.Dict [] [] pos) (so true):=QgU.of λσ H Q g q h=>by let⟨ρ,l,st,u,sr,p⟩:=g;have p':∀ρ' H',Ex ρ H ρ' H'->SR X.K ρ' H' (st++[.dct true []])->∀v,dD X.K ρ' H' v (.dic st.length)->Q v H':=p;refine p' (ρ++[q]) _ (Ex.newO h) ((sr.new h).keepO (sr.fresh h) ⟨[],lH,.nil⟩) _ (.dic ⟨_,lH,.inr rfl⟩ ?_);rw[<- sr.len];simp
theorem KR.zip:∀{ks:List Key}{g:List V}{ds:List D},bV K ρ H g ds->KR K ρ H (ks.zip g) ((ks.map pW).zip ds)
 |[],_,_,_=>.nil|k::ks,_,_,.nil=>.nil|k::ks,_,_,.cons r t=>.cons ⟨rfl,r⟩ (KR.zip t)
theorem KR.merge:∀{more:List (Key×V)}{rs:List (D×D)}{es:List (Key×V)}{ar:List (D×D)},KR K ρ H more rs->KR K ρ H es ar->KR K ρ H (mW es more) (wO ar rs)
 |_,_,_,_,.nil,q=>q
 |_,_,es,ar,.cons (a:=p) (b:=q) (l₁:=ps) (l₂:=qs) h t,r=>by
  let z:=KR.put r p.1 h.2;rw[h.1]at z
  show KR K ρ H (mW (L2.nG es p.1 p.2) ps) (wO (nJ ar q.1 q.2) qs);exact KR.merge (more:=ps) (rs:=qs) t z
end
end MM
namespace MM
abbrev Bt(x:D)(ds:List D):Prop:=(stK x).isSome=true/\(ds.all λd=>(stK d).isSome)=true
def yM(x:D)(ds:List D):M D:=chk (Bt x ds) (ret (.bl !(ds.any λd=>kr d x)))
def wE(x y:D):M D:=match y with| .ref n=>bnd (getL n) (yM x)|_=>bad
open PySem PySem.Spec PyProof.Rows L2
theorem Oj:∀{xs ys:List D}{a b:List Int},kI xs=some a->kI ys=some b->mE (uL 0) xs ys=some (iC xs ys)
 |[],[],_,_,_,_=>rfl|[],_::_,_,_,_,_=>rfl|_::_,[],_,_,_,_=>rfl
 |x::xs,y::ys,a,b,h1,h2=>by
  obtain⟨i,rfl⟩:∃i,x=.int i:=by cases x<;>simp[kI]at h1 ⊢
  obtain⟨j,rfl⟩:∃i,y=.int i:=by cases y<;>simp[kI]at h2 ⊢
  cases l:kI xs with|none=>rw[kI,l]at h1;cases h1|some a'=>
   cases h:kI ys with|none=>rw[kI,h]at h2;cases h2|some b'=>
    let g:=Oj l h;let z:uL 0 (D.int i) (D.int j)=some (i == j):=rfl;by_cases c:i=j
    ·subst c;rw[mE,z];simp[g,iC,kr]
    ·let o:(i == j)=false:=by simpa using c
     rw[mE,z,o];simp[g,iC,kr,c]
def OY(h:kJ (x::xs)=some a):((∃i,x=.int i)\/∃c r,x=.tup c/\kI c=some r)/\∃l,kJ xs=some l:=by
 cases x with
 |int i=>
  unfold kJ at h;cases e:kJ xs with|none=>rw[e]at h;cases h|some q=>exact⟨.inl ⟨i,rfl⟩,q,rfl⟩
 |tup c=>
  unfold kJ at h;cases e:kI c with|none=>rw[e]at h;cases h|some r=>
   cases g:kJ xs with|none=>rw[e,g]at h;cases h|some q=>exact⟨.inr ⟨c,r,rfl,e⟩,q,rfl⟩
 |_=>cases h
theorem Rv:∀{xs ys:List D}{a b:List KI},kJ xs=some a->kJ ys=some b->mE (uL 1) xs ys=some (iC xs ys)
 |[],[],_,_,_,_=>rfl|[],_::_,_,_,_,_=>rfl|_::_,[],_,_,_,_=>rfl
 |x::xs,y::ys,a,b,h1,h2=>by
  let⟨B,I,G⟩:=OY h1;let⟨u,H,E⟩:=OY h2;let o:=Rv G E;let z:uL 1 x y=some (kr x y):=by
   rcases B with ⟨i,rfl⟩|⟨l,r,rfl,C⟩
   ·rcases u with ⟨j,rfl⟩|⟨h,q,rfl,v⟩
    ·show some (i == j)=some (decide (i=j));by_cases c:i=j
     ·subst c;simp
     ·rw[ba c,beq_eq_false_iff_ne.mpr c]
    ·rfl
   ·rcases u with ⟨j,rfl⟩|⟨h,q,rfl,v⟩
    ·rfl
    ·show mE (uL 0) l h=some (iC l h);exact Oj C v
  cases g:kr x y with|true=>rw[mE,z,g];simp[o,iC,g]|false=>rw[mE,z,g];simp[o,iC,g]
def NE(l:(stK d).isSome=true)(h:(stK e).isSome=true):uL 2 d e=some (kr d e):=by
 obtain⟨g,rfl⟩:∃i,d=.tup i:=by cases d<;>simp[stK]at l ⊢
 obtain⟨c,rfl⟩:∃i,e=.tup i:=by cases e<;>simp[stK]at h ⊢
 let⟨a,q⟩:=fJ.mp l;let⟨b,o⟩:=fJ.mp h
 show mE (uL 1) g c=some (iC g c);exact Rv (xs:=g) (ys:=c) q o
mutual
theorem RE:∀{a b c:D},kr a b=true->kr b c=true->kr a c=true
 | .int i,b,c,h1,h2=>by
  obtain⟨j,rfl⟩:∃j,b=.int j:=by cases b<;>simp[kr]at h1 ⊢
  obtain⟨k,rfl⟩:∃j,c=.int j:=by cases c<;>simp[kr]at h2 ⊢
  simp[kr]at h1 h2 ⊢;ext
 | .str i,b,c,h1,h2=>by
  obtain⟨j,rfl⟩:∃j,b=.str j:=by cases b<;>simp[kr]at h1 ⊢
  obtain⟨k,rfl⟩:∃j,c=.str j:=by cases c<;>simp[kr]at h2 ⊢
  simp[kr]at h1 h2 ⊢;rw[h1,h2]
 | .tup xs,b,c,h1,h2=>by
  obtain⟨ys,rfl⟩:∃j,b=.tup j:=by cases b<;>simp[kr]at h1 ⊢
  obtain⟨zs,rfl⟩:∃j,c=.tup j:=by cases c<;>simp[kr]at h2 ⊢
  rw[kr]at h1 h2 ⊢;exact rW h1 h2
 | .non,_,_,h1,_=>by simp[kr]at h1| .bl _,_,_,h1,_=>by simp[kr]at h1| .lit _,_,_,h1,_=>by simp[kr]at h1| .ref _,_,_,h1,_=>by simp[kr]at h1| .dic _,_,_,h1,_=>by simp[kr]at h1
theorem rW:∀{a b c:List D},iC a b=true->iC b c=true->iC a c=true
 |[],b,c,h1,h2=>by
  cases b with|nil=>exact h2|cons _ _=>simp[iC]at h1
 |x::xs,b,c,h1,h2=>by
  cases b with|nil=>simp[iC]at h1|cons y ys=>
   cases c with|nil=>simp[iC]at h2|cons z zs=>
    rw[iC,br]at h1 h2 ⊢;exact⟨RE h1.1 h2.1,rW h1.2 h2.2⟩
end
section
variable{X:Cx}
noncomputable def U3:ah->V
 | .none=>.non| .bool b=>.bl b| .int i _=>.int i| .str x _=>.str x| .bytes b _=>.byt b| .float b _=>.flt b| .ref a=>.ref a| .type n=>.ty n|_=>.non
def Rf(h:L2.RelV v u):v=U3 u:=by cases v<;>first|(have h:u=_:=h;subst h;rfl)|(let⟨t,e⟩:=h;subst e;rfl)
def Qg2(h:L2.RelV v u)(h':L2.RelV c u):v=c:=(Rf h).trans (Rf h').symm
def T_{A:bM}(I:Inv X ac σ H s)(hu:A.units+3 < cN)(r:bV X.K ρ H J ds)(rv:cj J its)(rx:dD X.K ρ H x d)(ru:L2.RelV x u)(O:Bt d ds):∃e:ah->Bool,(∀y∈its,qd A.in1 s y u (e y))/\∀(j:Nat)(z:ah),its[j]?=some z->∃c,ds[j]?=some c/\e z=kr c d:=by
 classical
 let at_:∀(j:Nat)(z:ah),its[j]?=some z->∃v c,ds[j]?=some c/\dD X.K ρ H v c/\L2.RelV v z:=λj z hz=>by let⟨v,hv,o⟩:=cj.at rv hz;let⟨c,hd,q⟩:=bV.at r hv;exact⟨v,c,hd,q,o⟩
 let ok:∀(j:Nat)(c:D),ds[j]?=some c->(stK c).isSome=true:=λj c h=>cU.mp O.2 c (ax h)
 refine let e:ah->Bool:=λz=>decide (∃(j:Nat)(c:D),its[j]?=some z/\ds[j]?=some c/\kr c d=true);?_
 let key:∀(j:Nat)(z:ah)(c:D),its[j]?=some z->ds[j]?=some c->e z=kr c d:=λj z c hz hd=>by
  cases E:kr c d with|true=>exact bY ⟨j,c,hz,hd,E⟩|false=>
   refine ba λg=>?_;let⟨L,G,B,l,C⟩:=g;let⟨v,d1,Y,r1,q1⟩:=at_ j z hz;let⟨v',d2,U,r2,q2⟩:=at_ L z B;rw[hd]at Y;cases Y;rw[l]at U;cases U;have:=Qg2 q1 q2;subst this;let t:=Kx I 2 (NE (ok j c hd) (ok L G l)) r1 r2;rw[RE t C]at E;cases E
 refine⟨e,λy hy=>?_,λj z hz=>?_⟩
 ·let⟨j,Q⟩:=gG hy;let⟨v,c,hd,q,o⟩:=at_ j y Q;rw[key j y c Q hd];exact (Jp I 2 (A:=A.in1) (by show A.units+1+2 < cN;ext) (NE (ok j c hd) O.1) q rx o ru).2.2
 ·let⟨v,c,hd,_,_⟩:=at_ j z hz;exact⟨c,hd,key j z c hz hd⟩
theorem RX{α β:Type}{p:α->Bool}{q:β->Bool}:∀{xs:List α}{ys:List β},xs.length=ys.length->(∀(j:Nat)(x:α),xs[j]?=some x->∃y,ys[j]?=some y/\p x=q y)->xs.any p=ys.any q
 |[],[],_,_=>rfl|x::xs,y::ys,hl,h=>by let⟨l,e,g⟩:=h 0 x rfl;cases e;rw[d6,d6,g,RX (by simpa using hl) λj x c=>h (j+1) x c]|[],_::_,hl,_=>by simp at hl|_::_,[],hl,_=>by simp at hl
def XN(hu:X.A.units+60 < cN):OpR X (cS .NotIn) (qz X.K wE):=by
 intro ac s σ H x y v u Q I B o c;let⟨ρ,st,d,e,sr,E,C,p⟩:=c;cases C with
 |ref _ h=>
  let⟨ds,e2,U⟩:=aU.getL (aU.bnd p) sr;let⟨a',vs,l,hv,r⟩:=sr.seq e2;rw[h]at l;cases l;cases o;let⟨hk,O⟩:=aU.chk U;let⟨its,g,L,hz⟩:=I.list (io.of hv);let⟨e,J,G⟩:=T_ (A:=X.A) I () r g E B hk;refine xM e L.isList (λw Y=>J w (by simpa using Y)) ⟨.bl _,H,I,rfl,?_⟩;rw[show its.toArray.any e=its.any e by simp,RX (q:=λdj=>kr dj d) (by rw[<- g.length,r.length]) G];exact O.ret sr _ (.bl _)
 |_=>exact (show False from p).elim
end
end MM
namespace MM
open PySem PyProof.Rows L2
section
variable{prog:Program}{w:bR}{K:Type}[DecidableEq K]{knd:pc prog w K}{A:bM}{s:aq}{k:K}{xs:List (K×ak×ah)}
def X6{dflt:ah}{Q:ah->aq->Prop}(hu:knd.room A)(c:knd.is s.heap k a) (Y:s.heap.DictOfH knd d xs) (U:sV s.heap d xs.length) (hsz:xs.length<=sizeLine)(h1:∀p,kR xs k=some p->Q p.2 { s with toks:=s.toks+knd.draws k })(h2:kR xs k=none->∀h',h'.DictOfH knd d (mC xs k a dflt)->sV h' d (mC xs k a dflt).length->cX d s.heap h'->Q dflt { s with heap:=h',toks:=s.toks+knd.draws k }):aH (aY prog w) A (wq d (.ref a) dflt) Q E s:=by
 let⟨o,es,ep,g,hc,hd,G,B,I⟩:=Y;let⟨o',es',l,C⟩:=U;rw[g]at l;cases l;rw[hd]at C;cases C;unfold wq;refine cw ?_;refine ab (knd.pyHash hu c ?_);refine ab (rG (s:={ s with toks:=s.toks+knd.draws k }) hu c g hd G B I (λu=>?_) λj p J=>?_)
 ·let q:k∉xs.map (·.1):=BR u;let L:=Ey u;let H:=storedH_new (a:=a) (v:=dflt) L;let l:=iL G;refine ab (iE (ab (Bi (hz:=by ext) (s:={ s with toks:=s.toks+knd.draws k }) g hd (aj
   (h2 L _ ⟨_,_,_,cY _ g (ib (ff hd _)),hc.mapDictKeys _,ff hd _,?_,?_,?_⟩ ?_ (cM ..))))))
  ·rw[H];simp[G,pE]
  ·rw[H];intro x h;rcases aO.mp h with h|h
   ·exact knd.keeps (B x h) g hd (cM ..)
   ·cases aI.mp h;exact knd.keeps c g hd (cM ..)
  ·rw[H,bC,c9];refine⟨I,by simp,λx h y O=>?_⟩;cases aI.mp O;exact λe=>q ((show x=k from e) ▸ h)
  ·rw[H,aB];exact⟨_,_,cY _ g (ib (ff hd _)),ff hd _⟩
 ·refine ab (dH (s:={ s with toks:=s.toks+knd.draws k }) g hd ?_);rw[Bp G j,J];exact ab (iE (aj (h1 p (tE I J))))
def T9(hd:(d == cJ)=false)(dflt:ah):Ez prog w (Builtin.«dict.setdefault» ⟨[.ref d,.ref a,dflt],[]⟩) (λA R s=>knd.room A.in1/\∃k xs,knd.is s.heap k a/\s.heap.DictOfH knd d xs/\sV s.heap d xs.length/\xs.length<=sizeLine /\(∀p,kR xs k=some p->R (.ok (.ret p.2)) { s with toks:=s.toks+knd.draws k }) /\(kR xs k=none->∀h',h'.DictOfH knd d (mC xs k a dflt)->sV h' d (mC xs k a dflt).length->cX d s.heap h'->R (.ok (.ret dflt)) { s with heap:=h',toks:=s.toks+knd.draws k })):=
 .of_wp λA R s z=>by
  let⟨hu,k,xs,c,q,l,hz,B,v⟩:=z;unfold Builtin.«dict.setdefault»;refine ab ?_;unfold qt;refine ab (gF q.typeIs ?_)
  show aH _ _ (pure (d,bG a,some dflt)) _ _ s;refine aj ?_
  show aH _ _ (if (d == cJ)=true then _ else (wq d (.ref a) dflt >>= _)) _ _ s;rw[az (by rw[hd];exact bD)];exact ab (X6 hu c q l hz (λp l=>aj ⟨p.2,rfl,B p l⟩) λu h' o h g=>aj ⟨dflt,rfl,v u h' o h g⟩)
end
section
variable{st:aV}
def Qg8{n:Nat}{Q:ah->aq->Prop}{A:bM}(hu:A.units+2 < cN)(I:Inv X ac σ H s)(sr:SR X.K ρ H st)(ha:ρ[n]?=some a)(hn:st[n]?=some (.dct true g))(rk:dD X.K ρ H y k) (hk:om true k=true) (hl:g.length < sizeLine) (rv:dD X.K ρ H v d) (ry:RelV y u) (rr:RelV v L)(h1:∀d',m_ g k=some d'->∀B w' C,Inv X ac σ H C->dD X.K ρ H B d'->RelV B w'->Q w' C)(h2:m_ g k=none->∀H' C,Inv X ac σ H' C->SR X.K ρ H' (st.set n (.dct true (nJ g k d)))->Ex ρ H ρ H'->Q L C):aH (aY X.prog X.w) A (call (.builtin "dict.setdefault") [.ref a,u,L]) Q E s:=by
 let Y:=(ae.mp hn).1;let⟨es,e,r⟩:=sr.ob n a _ ha hn;let⟨k,rfl⟩:=B6 hk;let⟨_,hd,xs,O,dd,de⟩:=x_ I e r;let⟨c,e2,e3,hc⟩:=AW I rk ry;subst e2 e3;let w:=sr.putO (o':=.dct true (nJ g (rM k) d)) (u':=mh a (putN es k c v)) Y ha e (by show (2:Nat)≠3;decide) rfl ⟨_,lH,(NR.put r k c rk rv).up ?_⟩
 ·let hz : xs.length <= sizeLine := by rw[<- cZ O,NR.length r];ext
  let l:=NR.val r k;let h:=NX.val O k;refine tF xR dd.typeIs F.entry_dict_setdefault (F.args_dict_setdefault_3 _ _ _) (T9 (knd:=yR X) hd L) ⟨show A.in1.units+1 < cN from hu,k,xs,hc,dd,de,hz,λp U=>?_,λU h' J o u=>?_⟩
  ·rw[U]at h;cases G:valN es k with|none=>rw[G]at h;exact h.elim|some B=>
    rw[G]at l h;cases el:m_ g (rM k) with|none=>rw[el]at l;exact l.elim|some d'=>
     rw[el]at l;exact h1 d' el B p.2 _ (I.tok _) l h
  ·rw[U]at h;cases G:valN es k with|some B=>rw[G]at h;exact h.elim|none=>
    rw[G]at l;cases el:m_ g (rM k) with|some d'=>rw[el]at l;exact l.elim|none=>
     refine h2 el _ _ ?_ w.1 w.2;let C:∃q,h'.get? a=some q:=let ⟨q,_,_,hq,_⟩:=J;⟨q,hq⟩
     refine Eb I (by rw[e];exact gM) u C (E7 ?_ hd (NX.put O k c rr) J o);have:=L3 es k c v;rw[NR.length r]at this;ext
 ·refine⟨⟨[],by simp⟩,λc o g q=>?_,λc o q=>?_⟩
  ·rw[gB λz=>by subst z;rw[e]at q;cases q;exact nomatch g];exact q
  ·by_cases z:c=a
   ·subst z;rw[e]at q;cases q;exact⟨_,lH,rfl⟩
   ·exact⟨o,by rw[gB z];exact q,rfl⟩
end
open PySem.W
section
variable{A:bM}{s:aq}{d it:ak}{es:Array lB}{ep i:Nat}
noncomputable def n6(h:bN)(d:ak)(es:Array lB)(ep:Nat):Prop:=∃o,h.get? d=some o/\o.ExactDict/\o.data=.dict es ep
def n6.typeIs(x:n6 s.heap d es ep):s.TypeIs (.ref d) "dict":=by let⟨o,g,c,_⟩:=x;exact⟨o,g,c.1⟩
def n6.keep{h h':bN}(x:n6 h d es ep)(k:∀o,h.get? d=some o->h'.get? d=some o):n6 h' d es ep:=by let⟨o,g,r⟩:=x;exact⟨o,k o g,r⟩
def n6.lt(x:n6 h d es ep):d < h.objs.size:=by let⟨o,g,_⟩:=x;exact aK g
def VB{Q:ah->aq->Prop}(hd:(d == cJ)=false)(x:n6 s.heap d es ep)(q:Q (.ref s.heap.objs.size) { s with heap:=s.heap.push { cls:=.type "dict_keyiterator",data:=.fields #[.ref d,.int 0 0,.int es.size 0,.int ep 0] } }):aH (aY prog w) A (zH (.ref d)) Q E s:=by
 let T:=x.typeIs;let⟨o,g,c,h⟩:=x;refine EE T DS (cA DS T F.entry_dict_iter ?_ (F.args_dict_iter_1 _));unfold Builtin.«dict.__iter__» Builtin.Dict.dictSlotNone;refine ab (ab (gF T ?_))
 show aH _ _ (pure (bG d)) _ _ s;refine aj ?_
 show aH _ _ (ie d >>= _) _ _ s;unfold ie;rw[az (by rw[hd];exact bD)];refine ab (aj (ab (dH g h (ab (gY g h ?_)))));refine ab (b9 (aj ⟨_,rfl,"dict_keyiterator",_,⟨_,aC _ rfl,rfl⟩,iF.lookup,?_⟩));simpa [dU] using q
def WW{Q:Option ah->aq->Prop}(z:s.heap.IsKeyIter it d i es.size ep)(x:n6 s.heap d es ep)(C:es[i]?=some e)(q:∀h',h'.IsKeyIter it d (i+1) es.size ep->cX it s.heap h'->Q (some e.key) { s with heap:=h' }):aH (aY prog w) A (ip (.ref it)) Q E s:=by
 let T:=z.typeIs;let⟨o,g,c,h⟩:=id z;let⟨G,u,H,v⟩:=x;unfold ip;refine ab (il (bX (name:=aD "__next__") T iF (cA iF T t7 ?_ (tH _))));refine ab (aj (ab (ab ?_)))
 first|refine ab (iA T (aj ?_))|refine ab (kT T (aj ?_))
 refine ab (qN g h ?_);let B:fC "dict_keyiterator"=false:=by decide
 simp only[B,aR,if_false]
 show aH _ _ (if (bG d == cK)=true then _ else _) _ _ s;rw[az (show ¬ ((bG d == cK)=true) from bD)];refine ab (aj (ab (dH u v ?_)));rw[az (by simp)];refine ab (aj (ab (gY u v ?_)));rw[az (by simp)];refine aj ?_;simp only[show ¬ ((i:Int) < 0) from by ext,if_false,bA,C];refine ab ?_
 first|refine ab (iA T (aj ?_))|refine ab (kT T (aj ?_))
 refine ab (Ak T ?_)
 show aH _ _ (Bq (.ref it) 1 (dU ((i:Int)+1)) >>= _) _ _ s;refine ab (nS g h (by simp) ?_);let l:(s.heap.update it (EF (·.setIfInBounds 1 (dU ((i:Int)+1))))).IsKeyIter it d (i+1) es.size ep:=
  ⟨_,cY _ g (wT (m4 h _)),(Ai ..).trans c,by rw[m4 h];simp[dU]⟩
 refine ab (cw (ab (Ak (s:={ s with heap:=s.heap.update it (EF (·.setIfInBounds 1 (dU ((i:Int)+1)))) }) l.typeIs ?_)))
 show aH _ _ (pure e.key) _ _ _;exact aj (aj ⟨_,rfl,aj (q _ l (cM ..))⟩)
def Qhb{Q:Option ah->aq->Prop}(hh:A.handled=none)(z:s.heap.IsKeyIter it d i es.size ep)(x:n6 s.heap d es ep)(B:es[i]?=none)(q:∀h',nw it s.heap h'->Q none { s with heap:=h' }):aH (aY prog w) A (ip (.ref it)) Q E s:=by
 let T:=z.typeIs;let⟨o,g,c,l⟩:=id z;let⟨C,h,G,u⟩:=x;unfold ip;refine ab (il (bX (name:=aD "__next__") T iF (cA iF T t7 ?_ (tH _))));refine ab (aj (ab (ab ?_)))
 first|refine ab (iA T (aj ?_))|refine ab (kT T (aj ?_))
 refine ab (qN g l ?_);let v:fC "dict_keyiterator"=false:=by decide
 simp only[v,aR,if_false]
 show aH _ _ (if (bG d == cK)=true then _ else _) _ _ s;rw[az (show ¬ ((bG d == cK)=true) from bD)];refine ab (aj (ab (dH h u ?_)));rw[az (by simp)];refine ab (aj (ab (gY h u ?_)));rw[az (by simp)];refine aj ?_;simp only[show ¬ ((i:Int) < 0) from by ext,if_false,bA,B];refine ab ?_
 first|refine ab (iA T (aj ?_))|refine ab (kT T (aj ?_))
 show aH _ _ (Bq (.ref it) 0 .none >>= _) _ _ s;refine ab (nS g l (by simp) ?_)
 show aH _ _ (zP (.type "StopIteration") [] >>= _) _ _ _;refine ab ?_;simp only[zP,newTuple];refine ab (b9 ?_ (by size_fits));refine ab (m:=lN _ _) (ox (a:=cK) (by first|rfl|(simp only[lN];rfl)) (b9 ?_ (by size_fits)));simp only[raiseNew];refine ab (xQ ?_);rw[show A.in1.handled=none from hh];refine ab (aj (Bm ?_));refine ab (eL (T:="StopIteration") (b:=true) ⟨_,aC _ rfl,rfl⟩ nV ?_);exact aj (q _ (((cM ..).extBut.push _).push _))
def Qhc(hh:A.handled=none)(I d:ak)(ne:d≠I)(es:Array lB)(ep:Nat):Walks prog w A I [I,d] [I] es.size (λi v=>∃e,es[i]?=some e/\v=e.key) (λi h=>h.IsKeyIter I d i es.size ep/\n6 h d es ep) where
 sub:=λb c=>by simp at c;simp[c]
 frame:=λ_ _ _ z k=>⟨z.1.at λo e=>k I (by simp) o e,z.2.keep λo e=>k d (by simp) o e⟩
 item:=λi s Q E B z q=>by
  let g:es[i]?=some es[i]:=by simp[B]
  refine WW z.1 z.2 g λh' u l=>?_;exact q _ h' s.toks ⟨_,g,rfl⟩ ⟨u,z.2.keep λo e=>l.extBut d o ne e⟩ λb o c e=>l.extBut b o (λh=>c (by simp[h])) e
 done:=λs Q E z q=>Qhb hh z.1 z.2 (by simp) λh' C=>q h' s.toks λb o c e=>C b o (λh=>c (by simp[h])) e
 self:=λ_ _ _ _ z q=>wpAny_pyIter_keyiter z.1 q
def V1(lo:(d == cJ)=false):KdlSrc prog w "dict" d d es.size (λi v=>∃e,es[i]?=some e/\v=e.key) (λh=>n6 h d es ep) where
 type:=λ_ x=>x.typeIs
 there:=λ_ x=>⟨x.lt,x.lt⟩
 keep:=λ_ _ x k=>x.keep λo e=>k d (.inl rfl) o e
 notList:=by decide
 notTuple:=by decide
 hint:=λ_ _ _ _ x q=>kdl_hint_dict x.typeIs q
 iter:=λ_ _ hh x=>⟨_,_,(λ_ _ q=>VB lo x q),Qhc hh _ d (bj x.lt) es ep,⟨⟨_,aC _ rfl,rfl,rfl⟩,x.keep λo e=>am _ e⟩⟩
end
end MM
namespace MM
open PySem
def qF:D->M D
 | .dic n=>bnd (getDc n) λp=>chk (p.1=true) (alloc (.lst (p.2.map (·.1))))|_=>bad
def mK(n:Nat)(k v:D):M D:=bnd (getDc n) λp=>chk (p.1=true/\om true k=true/\p.2.length < fK) (match m_ p.2 k with
 |some d=>ret d
 |none=>bnd (tP n true (nJ p.2 k v)) λ_=>ret v)
def pX(a b c:CE):CE:=λl=>bnd (a l) λx=>match x with| .dic n=>bnd (getDc n) λp=>chk (p.1=true) (bnd (b l) λy=>bnd (c l) λz=>mK n y z)|_=>bad
def l9(g:List D->M D)(a:CA)(d:D):CE:=λl=>bnd (a l) λds=>g (ds++[d])
open PySem.W PyProof.Rows L2
section
variable{X:Cx}
def NX.refs(r:NX es xs):L2.cj (es.map λp=>V.ref p.2.1) (xs.map λx=>bG x.2.1):=by
 induction r with|nil=>exact .nil|cons h t ih=>exact .cons (by dsimp only;rw[h.2.1];rfl) ih
def WB(hc:X.calm=true):CallR X (.type "list") (λO H Q=>∃a es ρ C,O=[.ref a]/\H a=some (mh a es)/\NR X.K ρ H es C/\∀l,H l=none->Q (.ref l) (fT H l (.lst (es.map λp=>V.ref p.2.1)))):=by
 intro U s σ H O us Q I r h;let⟨a,es,ρ,C,rfl,e,nr,q⟩:=h;let⟨u,rfl,G⟩:=wJ r;cases G;let⟨hz,hd,xs,G,dd,_⟩:=x_ I e nr;let⟨o,L,ep,g,c,gd,Y,_⟩:=id dd;let hn:L.size=xs.length:=iL Y;let hl:es.length=xs.length:=cZ G;refine kdl_call (V1 (ep:=ep) hd) (I.ok.hd hc) ⟨o,g,c,gd⟩ () λh' tk B c' kp hS v=>?_;let ea:B=(xs.map λx=>bG x.2.1).toArray:=by
  apply Ip;apply fq;intro i;rw[fF,au];cases J:xs[i]? with
  |none=>
   have:=List.getElem?_eq_none_iff.mp J;rw[n_ (by rw[v.1];ext)];rfl
  |some x=>
   let hi:=(ae.mp J).1;let E:i < B.size:=by rw[v.1];ext
   rw[m6 E];let⟨en,e1,e2⟩:=v.2 i B[i] (m6 E);rw[Bp Y i,J]at e1;cases e1;rw[e2];rfl
 rw[ea]at hS;exact⟨.ref s.heap.objs.size,_,I.laid (t':=tk) kp (ay _) (show gP X.prog X.w _ h' _ (.lst (es.map λp=>V.ref p.2.1)) from ⟨by rw[ag];exact hz,_,c',G.refs,hS⟩),rfl,q _ (I.hok.fresh (ay _))⟩
def NR.keys{K:ai}(r:NR K ρ H es c):bV K ρ H (es.map λp=>V.ref p.2.1) (c.map (·.1)):=by
 induction r with|nil=>exact .nil|cons h t ih=>exact .cons h.2.1 ih
def XA(E:X.calm=true):CallR X (.type "list") (λxs H Q=>∃v,xs=[v]/\xY X.K qF v H Q):=(WB E).of λxs H Q z=>by
 let⟨v,e,ρ,st,d,sr,q,p⟩:=z;cases d with
 |dic n=>
  let⟨a,rfl,_,h⟩:=q.inv;let⟨b,c,J,B⟩:=aU.getDc (aU.bnd p) sr;let⟨G,u⟩:=aU.chk B;cases (show b=true from G);let⟨es,I,r⟩:=sr.ob n a _ h J;refine⟨a,es,ρ,c,e,I,r,λl g=>?_⟩;let C:=sr.fresh g;let o:SR X.K (ρ++[l]) (fT H l (.lst (es.map λp=>V.ref p.2.1))) (st++[.lst (c.map (·.1))]):=(sr.new g).keep lH C ((NR.keys r).mono (Ex.new g));refine u _ _ (Ex.newL g) o _ (.ref ⟨_,lH,rfl⟩ ?_);rw[<- sr.len];simp
 |_=>exact p.elim
def Oi{B l:Pos}{id:String}(slot:Slot "dict" name id)(O:DN (.builtin id)=pure (.type "method_descriptor"))(hm:Ef X id r)(ho:PE X o to)(ha:PA X (e::es) t)(E:dS o name X.env (eval o X.env)=eval o X.env)(J:((backTo l (starEach (e::es) X.env)).all (λx => !x.1)&&(o9 l (lA [] X.env)).all (λx=>x.1.isSome)&&decide ((e::es).length+([]:List iD).length+(if ([]:List iD).isEmpty then 0 else 1) < 30))=true)
  (C:(B.endLine == l.line)=true) (hs:starEach (e::es) X.env=(false,eval e X.env)::starEach es X.env) (u:(backTo l (starEach es X.env)).any (·.1)=false):
  PE X (.Call (.Attribute o name B) (e::es) [] l) (λσ H Q=>to σ H λx L=>(∃a es ρ G,x=.ref a/\L a=some (mh a es)/\NR X.K ρ L es G)/\t σ L λxs H2=>r x xs H2 Q):=by
 intro q s σ H Q I h;refine zN E J C rfl (gA (ho q s σ H _ I h) λv s1 z=>?_);let⟨x,L,I1,r1,⟨a,es',ρ,G,rfl,e1,nr⟩,q1⟩:=z;cases r1;let⟨_,_,_,_,dd,_⟩:=x_ I1 e1 nr;let Y:=dd;let⟨ob,_,_,g,c,_⟩:=Y;refine⟨"dict",id,BV,slot,O,dd.typeIs,λb U=>by injection U with U;subst U;exact⟨ob,g,c.2.1⟩,?_⟩;let hA:=ha l q s1 σ L _ I1 q1;rw[hs]at hA ⊢;refine kQ (by show (false||(backTo l (starEach es X.env)).any (·.1))=false;rw[u]<;>rfl) (o_ (gA hA λus s2 z=>?_));let⟨vs,H2,I2,r2,q2⟩:=z;exact hm q s2 σ H2 (.ref a) vs _ us Q I2 rfl r2 q2
def wC(X:Cx):V->List V->Hp->VK->Prop:=λx h H Q=>∃(a:ak)(ρ:List ak)(st:aV)(n:Nat)(ar:List (D×D))(k d:D)(y v:V),x=.ref a/\h=[y,v]/\SR X.K ρ H st/\ρ[n]?=some a/\st[n]?=some (.dct true ar)/\dD X.K ρ H y k/\om true k=true/\ar.length < sizeLine/\dD X.K ρ H v d /\
 (∀d',m_ ar k=some d'->∀g,dD X.K ρ H g d'->Q g H)/\(m_ ar k=none->∀c,SR X.K ρ c (st.set n (.dct true (nJ ar k d)))->Ex ρ H ρ c->Q v c)
def Uw(hu:X.A.units+60 < cN):Ef X "dict.setdefault" (wC X):=by intro q s σ H x vs u us Q I J L h;let⟨a,ρ,st,n,ar,k,d,y,v,rfl,rfl,sr,ha,hn,O,hk,hl,U,h1,h2⟩:=h;cases J;let⟨u1,u2,rfl,Y,o⟩:=L.two;exact Qg8 () I sr ha hn O hk hl U Y o (λd' e l w' G g r' c=>⟨l,H,g,c,h1 d' e l r'⟩) λe B G g E C=>⟨v,B,g,o,h2 e B E C⟩
def ZB{u c : Pos}(hu : X.A.units+60 < cN)(ho : SE X o fa)(ha : SE X G fb)(hb : SE X q fc)(C : dS o "setdefault" X.env (eval o X.env) = eval o X.env := by rfl)
  (J:((backTo c (starEach [G,q] X.env)).all (λx => !x.1)&&(o9 c (lA [] X.env)).all (λx=>x.1.isSome)&&decide ([G,q].length+([]:List iD).length+(if ([]:List iD).isEmpty then 0 else 1) < 30))=true:=by rfl)
  (B:(u.endLine == c.line)=true:=by rfl) (hs:starEach [G,q] X.env=(false,eval G X.env)::starEach [q] X.env:=by rfl) (hs2:starEach [q] X.env=(false,eval q X.env)::starEach [] X.env:=by rfl) (g:(backTo c (starEach [q] X.env)).any (·.1)=false:=by rfl):
  SE X (.Call (.Attribute o "setdefault" u) [G,q] [] c) (pX fa fb fc):=
 (Oi xR F.type_dict_setdefault (Uw hu) ho (sA ha (sA hb vI hs2) hs) C J B hs g).of λσ H Q h_=>h_.el λρ l st lr sr p=>⟨ρ,l,st,lr,sr,p.bnd.imp λd U ρ1 H1 x1 s1 p1 v rv=>by
  cases d with
  |dic n=>
   let⟨a,rfl,kk,h⟩:=rv.inv;let⟨b,I,e0,p2⟩:=aU.getDc (aU.bnd p1) s1;let⟨hb0,p3⟩:=aU.chk p2;cases (show b=true from hb0);let⟨es0,e3,r0⟩:=s1.ob n a _ h e0;refine⟨⟨a,es0,ρ1,I,rfl,e3,r0⟩,?_⟩;refine⟨ρ1,l,U,lr.mono x1,s1,(aU.bnd p3).imp λdy O ρ2 H2 x2 s2 p4 y ry=>⟨ρ2,l,O,(lr.mono x1).mono x2,s2,(aU.bnd p4).imp λdz L ρ3 H3 x3 Y p5 z rz=>?_⟩⟩
   show wC X (.ref a) [y,z] H3 Q;let⟨b,ar,e5,p6⟩:=aU.getDc (aU.bnd p5) Y;let⟨⟨hb5,hk,hl⟩,E⟩:=aU.chk p6;cases (show b=true from hb5);let h3:ρ3[n]?=some a:=by let⟨τ,e,_⟩:=(x2.trans x3).pre;rw[e];exact xl h
   refine⟨a,ρ3,L,n,ar,dy,dz,y,z,rfl,rfl,Y,h3,e5,ry.mono x3,hk,hl,rz,λd' e v' rv'=>?_,λe H' s4 x4=>?_⟩
   ·dsimp only at E;rw[e]at E;exact E.ret Y v' rv'
   ·dsimp only at E;rw[e]at E;let c:=aU.bnd E;unfold tP at c;rw[e5]at c;exact (c ρ3 _ x4 s4).ret s4 _ (rz.mono x4)
  |_=>exact p1.elim⟩
end
theorem Dk{α β:Type}{F:α->β->Prop}:∀{l₁:List α}{l₂:List β}{i:Nat}{x:α},fw F l₁ l₂->l₁[i]?=some x->∃y,l₂[i]?=some y/\F x y
 |_,_,_,_,.nil,e=>by simp at e|_,_,0,_,.cons r _,e=>by simp at e;subst e;exact⟨_,rfl,r⟩|_,_,i+1,_,.cons _ t,e=>by let⟨v,g,c⟩:=Dk (i:=i) t (by simpa using e);exact⟨v,by simpa using g,c⟩
end MM
namespace MM
open PySem
def zt(a b c:CE):CE:=λl=>bnd (a l) λx=>match x with| .dic n=>bnd (getDc n) λp=>chk (p.1=true) (bnd (b l) λy=>bnd (c l) λz=>bnd (getDc n) λp=>chk (p.1=true/\om true y=true) (ret ((m_ p.2 y).getD z)))|_=>bad
open PySem.W PyProof.Rows L2
section
variable{prog:Program}{w:bR}{K:Type}[DecidableEq K]{knd:pc prog w K}{A:bM}{k:K}{xs:List (K×ak×ah)}
def Z4(hd:(d == cJ)=false)(dflt:ah):Ez prog w (Builtin.«dict.get» ⟨[.ref d,.ref a,dflt],[]⟩) (λA R s=>knd.room A.in1/\∃k xs,knd.is s.heap k a/\s.heap.DictOfH knd d xs/\R (.ok (.ret (((kR xs k).map (·.2)).getD dflt))) { s with toks:=s.toks+knd.draws k }):=
 .of_wp λA R s z=>by
  let⟨hu,k,xs,c,g,h⟩:=z;unfold Builtin.«dict.get»;refine ab ?_;unfold qt;refine ab (gF g.typeIs ?_)
  show aH _ _ (pure (d,bG a,some dflt)) _ _ s;refine aj ?_;dsimp only;refine ab (wpAny_dictGet_heap hu c g ?_);cases e:(kR xs k) with
  |some p=>
   rw[e]at h;exact aj ⟨_,rfl,h⟩
  |none=>
   rw[e]at h;dsimp only[Option.map];unfold Builtin.Dict.missed;rw[az (by rw[hd];exact bD)];exact ab (aj (aj ⟨_,rfl,h⟩))
end
section
variable{X:Cx}{H:Hp}{ρ:List ak}{st:aV}{a:ak}
def He(X:Cx):V->List V->Hp->VK->Prop:=λx g H Q=>∃(a:ak)(ρ:List ak)(st:aV)(n:Nat)(ar:List (D×D))(k d:D)(y v:V),x=.ref a/\g=[y,v]/\SR X.K ρ H st/\ρ[n]?=some a/\st[n]?=some (.dct true ar)/\dD X.K ρ H y k/\om true k=true/\dD X.K ρ H v d/\∀c,dD X.K ρ H c ((m_ ar k).getD d)->Q c H
def Zy(hu:X.A.units+60 < cN):Ef X "dict.get" (He X):=by
 intro ac s σ H x vs u us Q I C L h;let⟨a,ρ,st,n,o,k,d,y,v,rfl,rfl,sr,ha,hn,O,hk,U,q⟩:=h;cases C;let⟨u1,J,rfl,r1,Y⟩:=L.two;let⟨es,e,r⟩:=sr.ob n a _ ha hn;let⟨k,rfl⟩:=B6 hk;let⟨_,hd,xs,C,G,_⟩:=x_ I e r;let⟨c,e2,e3,hc⟩:=AW I O r1;subst e2 e3;let l:=NR.val r k;let g:=NX.val C k;refine tF EG G.typeIs F.entry_dict_get (F.args_dict_get_3 _ _ _) (Z4 (knd:=yR X) hd J) ⟨show X.A.in1.units+1 < cN from (by show X.A.units+1+1 < cN;ext),k,xs,hc,G,?_⟩;cases E:valN es k with
 |none=>
  rw[E]at l g;cases el:m_ o (rM k) with|some d'=>rw[el]at l;exact l.elim|none=>
   rw[el]at q;cases B:kR xs k with|some p=>rw[B]at g;exact g.elim|none=>exact⟨v,H,I.tok _,Y,q v U⟩
 |some v'=>
  rw[E]at l g;cases el:m_ o (rM k) with|none=>rw[el]at l;exact l.elim|some d'=>
   rw[el]at l q;cases B:kR xs k with|none=>rw[B]at g;exact g.elim|some p=>
    rw[B]at g;exact⟨v',H,I.tok _,g,q v' l⟩
def Xr{u c : Pos}(hu : X.A.units+60 < cN)(ho : SE X o fa)(ha : SE X E fb)(hb : SE X q fc)(C : dS o "get" X.env (eval o X.env) = eval o X.env := by rfl)
  (I:((backTo c (starEach [E,q] X.env)).all (λx => !x.1)&&(o9 c (lA [] X.env)).all (λx=>x.1.isSome)&&decide ([E,q].length+([]:List iD).length+(if ([]:List iD).isEmpty then 0 else 1) < 30))=true:=by rfl)
  (B:(u.endLine == c.line)=true:=by rfl) (hs:starEach [E,q] X.env=(false,eval E X.env)::starEach [q] X.env:=by rfl) (hs2:starEach [q] X.env=(false,eval q X.env)::starEach [] X.env:=by rfl) (g:(backTo c (starEach [q] X.env)).any (·.1)=false:=by rfl):
  SE X (.Call (.Attribute o "get" u) [E,q] [] c) (zt fa fb fc):=
 (Oi EG F.type_dict_get (Zy hu) ho (sA ha (sA hb vI hs2) hs) C I B hs g).of λσ H Q h_=>h_.el λρ l st lr sr p=>⟨ρ,l,st,lr,sr,p.bnd.imp λd O ρ1 H1 x1 Y p1 v rv=>by
  cases d with
  |dic n=>
   let⟨a,rfl,kk,h⟩:=rv.inv;let⟨b,G,e0,p2⟩:=aU.getDc (aU.bnd p1) Y;let⟨hb0,p3⟩:=aU.chk p2;cases (show b=true from hb0);let⟨es0,e3,r0⟩:=Y.ob n a _ h e0;refine⟨⟨a,es0,ρ1,G,rfl,e3,r0⟩,?_⟩;refine⟨ρ1,l,O,lr.mono x1,Y,(aU.bnd p3).imp λdy L ρ2 H2 x2 s2 p4 y ry=>⟨ρ2,l,L,(lr.mono x1).mono x2,s2,(aU.bnd p4).imp λdz J ρ3 H3 x3 U p5 z rz=>?_⟩⟩
   show He X (.ref a) [y,z] H3 Q;let⟨b,ar,e5,p6⟩:=aU.getDc (aU.bnd p5) U;let⟨⟨hb5,hk⟩,p7⟩:=aU.chk p6;cases (show b=true from hb5);let h3:ρ3[n]?=some a:=by let⟨τ,e,_⟩:=(x2.trans x3).pre;rw[e];exact xl h
   exact⟨a,ρ3,J,n,ar,dy,dz,y,z,rfl,rfl,U,h3,e5,ry.mono x3,hk,rz,λv' rv'=>p7.ret U v' rv'⟩
  |_=>exact p1.elim⟩
end
end MM
namespace MM
open PySem PyProof.Rows L2
section
open PySem.Builtin.Str
variable{prog:Program}{w:bR}{A:bM}{E:ah->aq->Prop}{s:aq}
end
abbrev CF:=Str->Loc->M D
end MM
namespace MM
noncomputable def sv(m:Nat):List Nat:=(b_ 4).filter λi=>m.testBit i
open PySem PySem.W PyProof.Rows L2
def tb(c:Bool)(m:Nat):SetTable:=⟨7,(sv m).toArray,#[],0,c,0,true⟩
def rO:∀c:Bool,∀m:Nat,m < 16->∀v:Nat,v < 4->m.testBit v=false->(tb c m).freeSlot (v:Int)=some (v,false):=by nofun
end MM
namespace MM
open PySem PySem.Spec PyProof.Rows L2
structure su(x:Str):Prop where
 d:(x == ("__debug__":Str))=false
 c:(x == ("__classdict__":Str))=false
 n:x≠"__name__"
def X_(h:((x == ("__debug__":Str))||(x == ("__classdict__":Str))||decide (x=("__name__":Str)))=false):su x:=by rw[wV,wV]at h;exact⟨h.1.1,h.1.2,of_decide_eq_false h.2⟩
structure Sc(X:Cx)(sc:dB):Prop where
 vis:∀x k,sc.names.lookup x=some k->(k=.local\/k=.cell\/k=.free)->Fk X.env.scope x
 cel:∀x,(sc.names.lookup x=some .cell\/sc.names.lookup x=some .free)->(X.env.kindOf x=some .cell\/X.env.kindOf x=some .free)
 glo:∀x,sc.names.lookup x=some .globalImplicit->Gl X x
 loc:∀x k,sc.names.lookup x=some k->(k=.local\/k=.cell)->L2.Loc X.env.scope x/\(X.fn x=true\/X.env.scope.names.lookup x=some .local)
 calm:X.calm=true
def IY{K:ai}:Sc (sD rm P w K mg base N qual sc f g A outer s H E).nox sc where
 vis:=λx k h c=>by
  rcases c with z|z|z<;>subst z
  ·exact .inl h
  ·exact .inr (.inl h)
  ·exact .inr (.inr h)
 cel:=λx h=>h
 glo:=λx h=>h
 loc:=λx k h c=>⟨by rcases c with z|z<;>subst z;exact .inl h;exact .inr h,.inl rfl⟩
 calm:=rfl
def TH{X:Cx}(l:X.calm=true):Sc (pL X N scope fp s H) scope where
 vis:=λx k h g=>by
  show (k_ scope X.env).names.lookup x=_\/(k_ scope X.env).names.lookup x=_\/(k_ scope X.env).names.lookup x=_;rw[D6,h,dJ];rcases g with z|z|z<;>subst z
  ·exact .inl rfl
  ·exact .inr (.inl rfl)
  ·by_cases c:(bJ == bJ&&X.env.scope.kind == .function&&X.env.kindOf x == some .cell)=true
   ·rw[aJ c];exact .inr (.inl rfl)
   ·rw[az c];exact .inr (.inr rfl)
 cel:=λx h=>by
  show (k_ scope X.env).names.lookup x=_\/(k_ scope X.env).names.lookup x=_;rcases h with h|h<;>rw[D6,h,dJ]
  ·exact .inl rfl
  ·by_cases c:(bJ == bJ&&X.env.scope.kind == .function&&X.env.kindOf x == some .cell)=true
   ·rw[aJ c];exact .inl rfl
   ·rw[az c];exact .inr rfl
 glo:=λx h=>by show (k_ scope X.env).names.lookup x=_;rw[D6,h,dJ];rfl
 loc:=λx k h g=>by
  refine⟨?_,.inl ?_⟩
  ·show (k_ scope X.env).names.lookup x=_\/(k_ scope X.env).names.lookup x=_;rw[D6,h,dJ];rcases g with z|z<;>subst z
   ·exact .inl rfl
   ·exact .inr rfl
  ·show decide (scope.names.lookup x=some .local\/scope.names.lookup x=some .cell)=true;rw[h];rcases g with z|z<;>subst z<;>decide
 calm:=l
noncomputable def ub(sc scope:dB):Bool:=
 (scope.kind == .function)&&scope.names.all (λp=>p.2 != .local||scope.names.lookup p.1 == some .local) &&
 scope.names.all (λp=>p.2 != .free||((sc.names.lookup p.1 == some .cell||sc.names.lookup p.1 == some .free) && !scope.names.contains (p.1,.cell)&&scope.names.lookup p.1 != some .local))
def NY(S:Sc X sc)(h:ub sc scope=true):iI X scope:=by
 unfold ub at h;rw[br,br]at h;let⟨⟨E,o⟩,l⟩:=h;rw[cU]at o l;let fr:∀x,(x,bJ)∈scope.names->(sc.names.lookup x=some .cell\/sc.names.lookup x=some .free)/\(x,fQ)∉scope.names/\scope.names.lookup x≠some .local:=λx c=>by have q:=l _ c;simp only[bne_self_eq_false,DO,br,lZ,beq_iff_eq,zR,bne_iff_ne,ne_eq]at q;let⟨⟨v,g⟩,u⟩:=q;refine⟨v,λz=>?_,u⟩;have:scope.names.contains (x,fQ)=true:=List.contains_iff_mem.mpr z;rw[this]at g;cases g
 refine⟨by simpa using E,λp B C=>?_,λx c=>S.cel x (fr x c).1,λx c=>(fr x c).2.1,λx c=>(fr x c).2.2⟩;let q:=o p B;rw[C]at q;simpa using q
noncomputable def sq(c:List Str)(scope:dB)(N:List Str)(n:Nat)(ix:List Nat):Bool:=
 N.length == n+ix.length&&(b_ ix.length).all λj=>match ix[j]?,N[n+j]? with|some i,some x=>c[i]? == some x&&scope.names.lookup x == some .free|_,_=>false
def Qd{X:Cx}{n:Nat}(o:X.N=g)(h:sq g scope N n ix=true):lv X scope N n ix:=by unfold sq at h;rw[br,cU]at h;refine⟨by simpa using h.1,λj i x c l=>?_⟩;let q:=h.2 j (dY.mpr (ae.mp c).1);rw[c,l]at q;simp only[br,beq_iff_eq]at q;rw[o];exact q
section
variable{pos p:Pos}{ca cb:CA}{T id:String}
def Li(S:Sc X sc)(i:Nat)(l:X.N[i]?=some x)(h:sc.names.lookup x=some k)(n:su x)(g:k=.local\/k=.cell\/k=.free:=by decide):SE X (.Name x pos) (ao i):=Qdq i (Qa l (S.vis x k h g) n.d n.c)
def VX(S:Sc X sc)(i:Nat)(l:X.N.Nodup)(q:X.N[i]?=some x)(h:sc.names.lookup x=some k)(g:k=.local\/k=.cell:=by decide):SG X (.Name x pos) (aS i):=
 Z5 (SY l q (S.loc x k h g).1 (S.loc x k h g).2)
def Wu(S : Sc X sc)(i : Nat)(q : X.N.Nodup)(B : X.N[i]? = some x)(h : sc.names.lookup x = some k)(v : SE X e fa)(l : k = .local \/ k = .cell := by decide)(u : ly e (some (.Name x g)) pos.line X.env = pure false := by rfl):
  SS X (.Assign [.Name x g] e pos) (b8 (aS i) fa):=SD q B (S.loc x k h l).1 v u (S.loc x k h l).2
def UJ{n:Nat}(h:∀l st ds g,ca l st=.ok ds g->ds.length=n):∀l st ds g,aw fa ca l st=.ok ds g->ds.length=n+1:=λl st ds g e=>by
 unfold aw bnd at e;cases q:fa l st with
 |ok d s1=>
  rw[q]at e;dsimp only at e;cases u:ca l s1 with
  |ok es s2=>
   rw[u]at e;have:=h l s1 es s2 u;cases e;simp[this]
  |exc _ _=>rw[u]at e;cases e|bad=>rw[u]at e;cases e
 |exc _ _=>rw[q]at e;cases e|bad=>rw[q]at e;cases e
def Us:∀l st ds g,bn l st=.ok ds g->ds.length=0:=λl st ds g e=>by cases e;rfl
noncomputable def A8(K:ai)(g:dq)(ps:List Str):Prop:=∀(s:aq)(ws:List ah),ws.length=ps.length->tx s g ⟨[],ps.zip ws⟩ (ps.zip ws)
def Uk{k n:Nat}(S:Sc X sc)(h:sc.names.lookup x=some .globalImplicit)(F:mX X.prog X.w X.K X.mg X.base rm k f v ps (nh X.K n g))(C:iJ k X.A)(G:X.mg x=some (.ref f))(H:di X.K (.ref f)=true) (J:Binds X.K v ps []) (B:su x) (L:SA X (e::es) ca) (E:∀l st ds q,ca l st=.ok ds q->ds.length=n)(I:starEach (e::es) X.env=(false,eval e X.env)::starEach es X.env:=by rfl) (u:(backTo pos (starEach es X.env)).any (·.1)=false:=by rfl):SE X (.Call (.Name x p) (e::es) [] pos) (bO g ca):=
 Qey F C (S.glo x h) G H J OL L E B.d I u
end
def VA{k:Nat}{X:Cx}(h:iJ k X.A):X.A.units+60 < cN:=by have:=h.units;ext
def R4{K:ai}{k n m:Nat}(F:zC K x qual l f o)(S:mJ N ps (bc l))(q:ps.length=n)(u:N.length=m)(g:∀(h:ah)(A:bM)(outer:List Env)(s:aq)(H:Hp)(E:XK),o.code=h->iJ k (A.deeper (oH qual (bc l) s.heap.objs.size f h))->xr (sD rm P w K mg base N qual (bc l) f h A outer s H E).nox (cP l) c):mX P w K mg base rm (k+1) f o ps (nh K n (bW m c)):=by
 subst q u;exact Yw F S g
theorem RS{K:ai}:∀(c:List Int),bV K ρ H (c.map V.int) (c.map D.int)
 |[]=>.nil|n::c=>.cons (.int n) (RS c)
@[elab_as_elim] def Em{A:Type}{P:List A->Prop}(h:∀a,P [a])(c:List A)(g:c.length=1):P c:=by
 cases c with
 |nil=>cases g
 |cons a t=>cases t with|nil=>exact h a|cons b u=>simp at g
@[elab_as_elim] def CJ{A:Type}{P:List A->Prop}(h:∀o l,P [o,l])(c:List A)(g:c.length=2):P c:=by
 cases c with|nil=>cases g|cons a t=>exact Em (P:=λt=>P (a::t)) (h a) t (lT g)
@[elab_as_elim] def Iv{A:Type}{P:List A->Prop}(h:∀q o l,P [q,o,l])(c:List A)(g:c.length=3):P c:=by
 cases c with|nil=>cases g|cons a t=>exact CJ (P:=λt=>P (a::t)) (h a) t (lT g)
@[elab_as_elim] def Ad{A:Type}{P:List A->Prop}(h:∀u q o l,P [u,q,o,l])(c:List A)(g:c.length=4):P c:=by
 cases c with|nil=>cases g|cons a t=>exact Iv (P:=λt=>P (a::t)) (h a) t (lT g)
@[elab_as_elim] def RI{A:Type}{P:List A->Prop}(h:∀v u q o l,P [v,u,q,o,l])(c:List A)(g:c.length=5):P c:=by
 cases c with|nil=>cases g|cons a t=>exact Ad (P:=λt=>P (a::t)) (h a) t (lT g)
structure yV(K:ai)(x qual:Str)(st:Stmt)(f:ak)(fd:dq)(u:ah):Prop where
 ex:∃(oc:ah)(od:Option ak)(kV doc pm:ah)(an:Option ak)(cdv ct:ah)(osl:Array (Option ah))(T:ak)(o:Obj)(n:Nat),
  fd=cF x qual (dN st) (cP st) (bc st) (.ref T) kV doc pm an cdv ct/\K.lookup f=some ⟨oc,od,.func fd,osl⟩/\gU K cdv qual=true/\K.lookup T=some o/\o.data=.seq #[u] n
 kp:di K (.ref f)=true
section
variable{K:ai}{st:Stmt}{ps:List Str}
def yV.binds(F:yV K x qual st f fd u)(h:∀(T:ak)(kV c q:ah)(v:Option ak)(g ct:ah)(l:List ah),(l++ds).length=ps.length->∃k:Option (Array ah)->Sem (List (Str×ah)),g9 (cF x qual (dN st) (cP st) (bc st) (.ref T) kV c q v g ct) ⟨l,[]⟩=kB (.ref T) >>= k/\k (some #[u])=pure (ps.zip (l++ds))):Binds K fd ps ds:=by
 let⟨O,L,kV,c,q,v,g,ct,B,T,o,n,rfl,Q,G,lt,C⟩:=F.ex;intro s l J E;let⟨k,I,H⟩:=h T kV c q v g ct l E;exact tx.of_defaults (T:=T) rfl (J T o lt) C I H
def Wh{kV h v g ct:ah}{n:Nat}(l:K.lookup f=some ⟨E,C,.func (cF x qual (dN st) (cP st) (bc st) (.ref T) kV h v B g ct),q⟩)(c:gU K g qual=true) (k:di K (.ref f)=true) (lt:K.lookup T=some o) (G:o.data=.seq #[u] n):yV K x qual st f (cF x qual (dN st) (cP st) (bc st) (.ref T) kV h v B g ct) u:=
 ⟨⟨E,C,kV,h,v,B,g,ct,q,T,o,n,rfl,l,c,lt,G⟩,k⟩
def S5{k n m:Nat}(F:yV K x qual st f fd u)(S:mJ N ps (bc st))(hn:ps.length=n)(hm:N.length=m)(q:∀(c:ah)(A:bM)(outer:List Env)(s:aq)(H:Hp)(E:XK),iJ k (A.deeper (oH qual (bc st) s.heap.objs.size f c))->xr (sD rm P w K mg base N qual (bc st) f c A outer s H E).nox (cP st) g):mX P w K mg base rm (k+1) f fd ps (nh K n (bW m g)):=by
 subst hn hm;let⟨oc,od,kV,doc,pm,an,c,ct,U,T,o,n,rfl,Y,G,lt,ht⟩:=F.ex;refine Ow Y G S (λJ H Q E h=>h.1) λA outer s H J Q E hr h=>⟨_,(q c A outer s H E hr).nox,?_⟩
 let⟨hl,ρ,st,ds,sr,C,p⟩:=h;refine⟨ρ,_,st,LR.start C,sr,?_⟩;unfold bW at p;exact p.bnd.imp λf L ρ1 H1 x1 I B=>by
  cases f with|next l=>exact λσ' _=>B.ret I _ .non|ret d=>exact λv O=>B.ret I v O|brk l=>exact B.elim|cnt l=>exact B.elim
end
section
def Vq{k n:Nat}{i:Int}(S:Sc X sc)(h:sc.names.lookup x=some .globalImplicit)(F:mX X.prog X.w X.K X.mg X.base rm k f B ps (nh X.K n g))(G:iJ k X.A)(J:X.mg x=some (.ref f))(O:di X.K (.ref f)=true) (Y:Binds X.K B ps [u]) (hu:RelV (.int i) u) (C:su x) (ha:SA X (e::es) ca) (I:∀l st ds o,ca l st=.ok ds o->ds.length+1=n)(U:starEach (e::es) X.env=(false,eval e X.env)::starEach es X.env:=by rfl) (v:(backTo pos (starEach es X.env)).any (·.1)=false:=by rfl):SE X (.Call (.Name x p) (e::es) [] pos) (l9 g ca (.int i)):=
 (Pw F G (S.glo x h) J O Y (.cons hu .nil) OL ha C.d U v).of λσ H Q h_=>h_.el λρ l st E sr p=>⟨ρ,l,st,E,sr,by
  let q:=aU.bnd p;cases c:ca l st with|bad=>rw[c]at q;exact q|exc _ _=>rw[c]at q;exact q|ok ds a7=>
   rw[c]at q;intro ρ1 H1 x1 s1 vs rvs;let L:=I l st ds a7 c;exact⟨by rw[aB,rvs.length];exact L,ρ1,a7,ds++[.int i],s1,bV.app rvs (.cons (.int i) .nil),q ρ1 H1 x1 s1⟩⟩
end
noncomputable def Kt(h h':bN):Prop:=∀c o,h.get? c=some o->o.cls=.type "tuple"->h'.get? c=some o
structure VW(prog:Program)(w:bR)(K:Type)[DecidableEq K] where
 is:bN->K->ak->Prop
 hash:K->Int
 draws:K->Nat
 keep:∀{h h':bN}{k:K}{b:ak},Kt h h'->is h k b->is h' k b
 hashes:∀{A:bM}{E:ah->aq->Prop}{s:aq}{k:K}{b:ak}{Q:Int->aq->Prop},A.units+1 < cN->is s.heap k b->Q (hash k) { s with toks:=s.toks+draws k }->aH (aY prog w) A (pyHash (.ref b)) Q E s
 eqs:∀{A:bM}{E:ah->aq->Prop}{s:aq}{x y:K}{a b:ak}{Q:Bool->aq->Prop},A.units+1 < cN->is s.heap x a->is s.heap y b->Q (decide (x=y)) s->aH (aY prog w) A (eqBool (.ref a) (.ref b)) Q E s
 quiet:∀{A:bM}{E:ah->aq->Prop}{s:aq}{k:K}{b:ak}{Q:Bool->aq->Prop},is s.heap k b->Q true s->aH (aY prog w) A (rb 8 (.ref b)) Q E s
 cls:∀{A:bM}{E:ah->aq->Prop}{s:aq}{k:K}{b:ak}{Q:Bool->aq->Prop},is s.heap k b->Q false s->aH (aY prog w) A (ofAClassStatement 8 (.ref b)) Q E s
 byv:∀{A:bM}{E:ah->aq->Prop}{s:aq}{k:K}{b:ak}{Q:Bool->aq->Prop},is s.heap k b->Q true s->aH (aY prog w) A (hashByValue 8 (.ref b)) Q E s
section
variable{prog:Program}{w:bR}{K:Type}[DecidableEq K](T:VW prog w K)
variable{T}
variable{A:bM}{E:ah->aq->Prop}{s:aq}{a:ak}{ec:Bool}{m:Nat}{key:Nat->K}{es:Array (Int×ah)}
end
section
def items_int(h:ItemsAre (qX prog w) k c):∀v∈c,∃i t,v=kF i t:=by
 induction h with|nil=>simp|cons h1 h2 ih=>
  intro v g;rcases aX.mp g with z|z
  ·subst z;cases v with|int i t=>exact⟨i,t,rfl⟩|_=>exact nomatch h1
  ·exact ih v z
end
end MM
namespace MM
def xG(g:List D->M D):D->M D
 | .ref n=>bnd (getL n) g|_=>bad
open PySem PySem.W PyProof.Rows L2
section
def Q9(h:CallR X b (Bz X.K g)):CallR X b (λxs H Q=>∃v,xs=[v]/\xY X.K (xG g) v H Q):=h.of λxs H Q c=>by
 let⟨v,e,ρ,st,d,sr,q,p⟩:=c;cases q with
 |@ref a n _ h=>
  let⟨ds,C,u⟩:=aU.getL (aU.bnd p) sr;let⟨E,o,l,B,r⟩:=sr.seq C;rw[h]at l;cases l;exact⟨a,o,ρ,st,ds,e,io.of B,sr,r,u⟩
 |_=>exact p.elim
end
end MM
namespace MM
def u4:D->D->M D:=uk λa b=>ret (.int (a+b))
def sw:D->M D
 | .ref n=>bnd (getL n) λds=>ret (.tup ds.reverse)|_=>bad
def sf(a b:CE):CE:=λl=>bnd (a l) λk=>bnd (b l) λv=>match k with| .int i=>ul false (wO [] [(.int i,v)])|_=>bad
open PySem
noncomputable def nW:MO->Bool
 | .clo _ _=>true|_=>false
def oA(o:MO):MO:=if nW o=true then .ded else o
def gO(n:Nat)(s:aV):aV:=s.take n++(s.drop n).map oA
open Classical in
def callC(g:List D->M D)(c:lF)(h ds:List D):M D:=λs=>match g (ds++[.fn s.length]) (s++[.clo c h]) with| .ok r s2=>if s.length < s2.length/\∀m:Nat,m < s.length->s2[m]?=s[m]?\/∃o:MO,s2[m]?=some o/\nW o=false then .ok r (gO s.length s2) else .bad|_=>.bad
noncomputable def r8(s:aV)(i:Nat)(o:MO):MO:=match s[i]? with|some (.clo c v)=>.clo c v|_=>o
open Classical in
def px(g:List D->M D)(c ds:List D):M D:=λs=>match g (ds++c) (gO 0 s) with| .ok r s2=>if ∀(i:Nat)(o:MO),s[i]?=some o->nW o=true->s2[i]?=some MO.ded then .ok r (s2.mapIdx (r8 s)) else .bad|_=>.bad
structure RK where
 n:Nat
 k:Nat
 g:List D->M D
open Classical in
def qR:List (lF×RK)->lF->List D->List D->M D
 |[],_,_=>λ_=>bad| (e,r)::l,x,vs=>if x=e then λds=>chk (ds.length=r.n) (px r.g vs ds) else qR l x vs
def um(l:Loc):List Nat->Option (List D)
 |[]=>some []
 |i::r=>match l[i]? with|some (some d)=>(um l r).map (d::·)|_=>none
def py(j:Nat)(x w:Str)(g:List D->M D)(c:lF)(is:List Nat)(i:Nat)(a:CA):CE:=λl s=>match s[j]?,um (l.set i none) is with|some (.tbl y u),some vs=>if y=x/\u=w then bnd (a (l.set i none)) (λds=>callC g c vs ds) s else .bad|_,_=>.bad
def vV(j:Nat)(x:Str)(e:Expr):CE:=λ_ s=>match s[j]? with|some (.tbl y w)=>if y=x/\w="<lambda>" then .ok (.fn s.length) (s++[.lam e]) else .bad|_=>.bad
structure RL where
 n:Nat
 k:Nat
 g:List D->M D
open Classical in
def qT:List (Expr×RL)->Expr->List D->M D
 |[],_=>λ_=>bad| (e,r)::l,x=>if x=e then λds=>chk (ds.length=r.n) (r.g ds) else qT l x
noncomputable abbrev WT:=List (Expr×RL)×List (lF×RK)
def pS(W:WT)(d:D)(ds:List D):M D:=λs=>match d with
 | .fn n=>match s[n]? with|some (.lam e)=>qT W.1 e ds s|some (.clo c vs)=>qR W.2 c vs ds s|_=>.bad
 |_=>.bad
def qv(W:WT)(a:CE)(r:CA):CE:=λl=>bnd (a l) λd=>bnd (r l) λds=>pS W d ds
noncomputable def uw(m:Nat)(f:CE)(ds:List D):M D:=f (ds.map some++bw (m-ds.length) none)
open PySem.Spec PyProof.Rows L2
def zj(H:Hp)(P:ak)(q:Str):Prop:=∃tb,H P=some (.tbl tb)/\pd tb.toList/\∀p v,mn p tb.toList=some v->∃c,v=.ref c/\pT H c q
structure GW(H H':Hp)(P:ak)(q:Str)(a:ak)(e:Expr):Prop where
 fresh:H a=none
 lam:ET H' a e
 tab:zj H' P q
 keep:∀b o,b≠P->H b=some o->H' b=some o
def L9(P:ak)(q:Str)(e:Expr):TE:=λσ H Q=>zj H P q/\∀a c,GW H c P q a e->Q (.ref a) c
noncomputable def BMod(base:bN)(mg:Str->Option ah):Prop:=∃g c,mg "__builtins__"=some (.ref g)/\g≠nL/\base.get? g=some c/\c.cls=.type "module"/\c.dict=some nL/\c.data=.plain
def W8{l m:Nat}:∀(xs:List ah),pd xs->pd (xs++[dU l,dU m,c])/\∀p v,mn p (xs++[dU l,dU m,c])=some v->mn p xs=some v\/v=c:=by
 intro xs h
 fun_induction pd xs with
 |case1=>
  refine⟨trivial,λp v z=>?_⟩;let g:(if ((l:Int) == p.line&&(m:Int) == p.col)=true then some c else none)=some v:=z;split at g
  ·exact .inr (aF g).symm
  ·cases g
 |case2 a t b u x rest ih=>
  let⟨q,o⟩:=ih h;refine⟨q,λp v z=>?_⟩;let g:(if (a == p.line&&b == p.col)=true then some x else mn p (rest++[dU l,dU m,c]))=some v:=z
  show (if (a == p.line&&b == p.col)=true then some x else mn p rest)=some v\/v=c;split at g
  ·rename_i w;rw[aJ w];exact .inl g
  ·rename_i w;rw[az w];exact o p v g
 |case3=>exact h.elim
section
variable{X:Cx}
structure Cc(H H':Hp)(P:ak)(q:Str)(a c:ak)(ob:Obj):Prop where
 fresh:H a=none
 fn:H' a=some (.frz ob (.own a))
 cod:pT H' c q
 tab:zj H' P q
 keep:∀b o,b≠P->H b=some o->H' b=some o
def Oq{fobj:ah->ah->ah->Obj}{Wp:(ah->aq->Prop)->Prop}(I:Inv X ac σ H s)(hT:zj H P q)(G:∀a b c,(fobj a b c).isFreed=false)(hit:∀tb cv Q,s.heap.get? P=some (fj tb)->pd tb.toList->mn pos tb.toList=some cv->(∀(C B:ah)(h':bN)tk,(∀b o,s.heap.get? b=some o->h'.get? b=some o)->s.heap.objs.size<=h'.objs.size->Q (.ref h'.objs.size) { s with heap:=h'.push (fobj cv C B),toks:=tk })->Wp Q)(new:∀tb Q,s.heap.get? P=some (fj tb)->pd tb.toList->mn pos tb.toList=none->(∀(h:ak)(C B:ah)(h':bN)tk,nw P s.heap h'->s.heap.objs.size<=h->h < h'.objs.size->h'.CodeRec (.ref h) q->h'.get? P=some (fj (tb++#[dU pos.line,dU pos.col,.ref h]))->Q (.ref h'.objs.size) { s with heap:=h'.push (fobj (.ref h) C B),toks:=tk })->Wp Q)(hQ:∀(a c:ak)(C B:ah)L s',Cc H L P q a c (fobj (.ref c) C B)->Inv X ac σ L s'->Q (.ref a) s'):Wp Q:=by
 let⟨tb,hP,ht,hco⟩:=hT;let hPo:s.heap.get? P=some (fj tb):=I.hok P _ hP;cases hf:mn pos tb.toList with
 |some cv=>
  let⟨h,rfl,hcr⟩:=hco _ _ hf;refine hit tb _ Q hPo ht hf λC B h' tk hk hsz=>?_;let E:H h'.objs.size=none:=I.hok.fresh hsz;refine hQ _ h C B (fT H h'.objs.size (.frz _ (.own h'.objs.size))) _ ⟨E,lH,?_,?_,λb o _ e=>?_⟩ (I.laid (t':=tk) (λb u e=>am _ (hk b u e)) hsz ⟨aC _ (G _ _ _),_,aC _ (G _ _ _)⟩)
  ·let⟨O,vs,t,e,r⟩:=hcr;exact⟨O,vs,t,by rw[gB (oZ e E)];exact e,r⟩
  ·refine⟨tb,by rw[gB (oZ hP E)];exact hP,ht,λp v z=>?_⟩;let⟨c2,e2,O,vs,t,e,r⟩:=hco p v z;exact⟨c2,e2,O,vs,t,by rw[gB (oZ e E)];exact e,r⟩
  ·rw[gB (oZ e E)];exact e
 |none=>
  refine new tb Q hPo ht hf λh C B h' tk hx hge hlt hrec htb=>?_;let⟨c2,O,vs,t,e2,hoc,hdc,hv⟩:=hrec;cases e2;let hsz:s.heap.objs.size<=h'.objs.size:=gK (zS hge hlt);let E:H h'.objs.size=none:=I.hok.fresh hsz;let hfc:H h=none:=I.hok.fresh hge;let hcf:h≠h'.objs.size:=bj hlt;let G:=G (.ref h) C B;generalize hfo:fobj (.ref h) C B=fo at G;generalize htb':tb++#[dU pos.line,dU pos.col,.ref h]=U at htb;let ePc:P≠h:=oZ hP hfc;let ePa:P≠h'.objs.size:=oZ hP E;obtain⟨L,eH⟩:∃L,L=fT (fT (fT H P (.tbl U)) h (.frz O (.frz O (.own h)))) h'.objs.size (.frz fo (.own h'.objs.size)):=⟨_,rfl⟩
  let eP:L P=some (.tbl U):=by rw[eH,gB ePa,gB ePc,lH]
  let eC:L h=some (.frz O (.frz O (.own h))):=by rw[eH,gB hcf,lH]
  let eA:L h'.objs.size=some (.frz fo (.own h'.objs.size)):=by rw[eH,lH]
  let eO:∀b,b≠P->b≠h->b≠h'.objs.size->L b=H b:=λb h1 h2 h3=>by rw[eH,gB h3,gB h2,gB h1]
  let old:∀b o,b≠P->H b=some o->L b=some o:=λb o h1 e=>by rw[eO b h1 (oZ e hfc) (oZ e E)];exact e
  let kp:∀b o,b≠P->s.heap.get? b=some o->(h'.push fo).get? b=some o:=λb o h1 e=>am _ (hx b o h1 e);let Y:∀{b:ak},H b=none->b≠P:=λn z=>by rw[z,hP]at n;cases n
  let J:∀{b:ak}{u:HO},H b=some u->(∀ps,u≠.tbl ps)->b≠P:=λe n z=>by rw[z,hP]at e;exact n _ (aF e).symm
  let lt:∀b o,s.heap.get? b=some o->b≠h/\b≠h'.objs.size:=λb o e=>⟨bj (bh (aK e) hge),bj (bh (aK e) hsz)⟩
  let hok:n0 X.prog X.w L (h'.push fo):=λb u e=>by
   by_cases h1:b=P
   ·subst h1;rw[eP]at e;cases e;exact am _ htb
   by_cases h2:b=h
   ·subst h2;rw[eC]at e;cases e;exact⟨am _ hoc,am _ hoc,_,am _ hoc⟩
   by_cases h3:b=h'.objs.size
   ·subst h3;rw[eA]at e;cases e;exact⟨aC _ G,_,aC _ G⟩
   rw[eO b h1 h2 h3]at e;refine (I.hok b u e).stay (λb' v hb' g=>kp b' v ?_ g) (λb' g=>old _ _ (J g λ_ z=>nomatch z) g) λb' xs g=>old _ _ (J g λ_ z=>nomatch z) g;rcases hb' with z|z
   ·rw[z];exact h1
   ·exact J z λ_ w=>nomatch w
  refine hQ _ h C B L _ ⟨E,by rw[hfo];exact eA,⟨O,vs,t,eC,hdc,hv⟩,?_,old⟩ (I.step (g':=s.gens) (d':=s.drawn) (t':=tk) (h':=h'.push fo) (ch:=[]) (λ_ z=>nomatch z) (λb o _ _ _ e n=>kp b o (Y n) e) (λb o _ _ _ e n=>⟨o.slots,kp b o (Y n) e⟩)
   (λb o _ e n=>by rw[eO b (Y n) (lt b o e).1 (lt b o e).2];exact n) (λb o _ e=>?_) (λb xs e=>old _ _ (J e λ_ z=>nomatch z) e) (λb o u e=>old _ _ (J e λ_ z=>nomatch z) e) (λb ps' e=>?_) (λm hn=>?_) hok I.bare)
  ·let el:U.toList=tb.toList++[dU pos.line,dU pos.col,.ref h]:=by rw[<- htb',Array.toList_append]
   let⟨B,u⟩:=W8 tb.toList ht (l:=pos.line) (m:=pos.col) (c:=.ref h);refine⟨U,eP,el ▸ B,λp v z=>?_⟩;rcases u p v (el ▸ z) with z|z
   ·let⟨c2,e2,o,g,q,e,r⟩:=hco p v z;exact⟨c2,e2,o,g,q,old _ _ (J e λ_ w=>nomatch w) e,r⟩
   ·exact⟨h,z,O,vs,t,eC,hdc,hv⟩
  ·by_cases z:b=P
   ·subst z;exact⟨_,am _ htb⟩
   ·exact⟨o,kp b o z e⟩
  ·by_cases z:b=P
   ·subst z;rw[hP]at e;cases e;exact⟨_,by rw[eP,<- htb']⟩
   ·exact⟨#[],by rw[old _ _ z e];simp⟩
  ·exact (hn.extBut hx (Y I.free)).push _
def RV{tb:Array ah}(v:BMod X.base X.mg)(I:Inv X c σ H s)(u:H P=some (.tbl tb)):s.heap.BuiltinsAt X.mg P/\cW≠P:=by
 let h:∀b o,X.base.get? b=some o->b≠P:=λb o e z=>by have:=(I.bs b o e).2;rw[z,u]at this;cases this
 refine⟨?_,?_⟩
 ·let⟨J,q,G,E,g,C,B,l⟩:=v;refine⟨J,q,G,E,λz=>?_,h _ _ g,I.bk _ _ g,C,B,l⟩;let⟨o,_,_,e,d,_⟩:=I.mod.glob;rw[<- z,g]at e;cases e;rw[l]at d;cases d
 ·let⟨o,_,_,e,_⟩:=I.mod.glob;exact h _ o e
def Yh(g:X.env.code=.ref c)(hc:eZ X.K c P=true)(hB:BMod X.base X.mg)(hq:X.env.qual++"<lambda>"=q)(hd:DT ps X.env=([],[]))(v:nQ sc X.env=pure []):PE X (.Lambda ps b sc pos) (L9 P q (.Lambda ps b sc pos)):=by
 intro O s σ H Q I l;let⟨Y,hQ⟩:=l;refine PySem.W.kla_eval hd ?_;rw[hq];let u:=I.mod.glob.keeps I.bk;let⟨U,E⟩:=RV hB I Y.choose_spec.1;let hC:=pf I.kIn hc;refine Oq (Wp:=λQ=>aH (aY X.prog X.w) X.A _ Q X.xe s) (fobj:=λcd ct _=>{ cls:=.type "function",data:=.func (oJ "<lambda>" q ps b sc [] ((X.mg "__name__").getD .none) cd ct) }) (pos:=pos) I Y (λ_ _ _=>rfl) (λtb cv Q o C G k=>?_) (λtb Q o C G k=>?_) λa L h doc H' s' T J=>?_
 ·exact PySem.W.kla_makeFunctionHit v I.ok.glob u g hC o C G U λh h' B c hsz=>k h .none h' B c hsz
 ·exact PySem.W.kla_makeFunction v I.ok.glob u g hC o C G E U λL h h' B J H q l c=>k L h .none h' B J H q l c
 ·exact⟨.ref a,H',J,rfl,hQ _ _ ⟨T.fresh,⟨ps,b,sc,pos,q,L,_,h,rfl,T.fn,T.cod⟩,T.tab,T.keep⟩⟩
def YD{K:ai}(h:eZ K c a=true)(h':eZ K c b=true):a=b:=by
 unfold eZ at h h';split at h
 ·rename_i o _ l;rw[l]at h';simp only[br]at h h';obtain⟨⟨⟨⟨⟨e,_⟩,_⟩,_⟩,_⟩,_⟩:=h;obtain⟨⟨⟨⟨⟨g,_⟩,_⟩,_⟩,_⟩,_⟩:=h';split at e
  ·rename_i u q;rw[q]at g;exact (beq_iff_eq.mp e).symm.trans (beq_iff_eq.mp g)
  ·cases e
 ·cases h
def TabOf.uniq{K:ai}(h:TabOf K x a)(h':TabOf K x b):a=b:=by let⟨f,o,J,c,H,G,E,C,B⟩:=h;let⟨L,o',v,O,u,q,l,g,I⟩:=h';rw[H]at u;cases u;rw[G]at q;cases q;rw[E]at l;cases l;rw[C]at g;cases g;exact YD B I
def C9(X:Cx)(x:Str):Prop:=∃f o g c P,gz X.K cW x=some (some (.ref f))/\X.K.lookup f=some o/\o.data=.func g/\g.code=.ref c/\eZ X.K c P=true/\X.env.code=.ref c/\X.env.qual=x++".<locals>."/\BMod X.base X.mg
def P4{K:ai}{st:aV}{j:Nat}(sr:SR K ρ H st)(l:ρ[j]?=some P)(G:st[j]?=some (.tbl x w))(fr:H a=none)(h:zj c P (xm x w))(keep:∀b o,b≠P->H b=some o->c b=some o):a∉ρ/\Ex ρ H (ρ++[a]) c/\SR K ρ c st:=by
 let⟨Q,tb,E,Y,U⟩:=sr.ob j P _ l G;let⟨g,C,L,J⟩:=h;let up:Up ρ H ρ c:=⟨⟨[],by simp⟩,λb o k e=>keep b o (λz=>by rw[z,E]at e;cases e;cases k) e,λb o e=>by
  by_cases z:b=P
  ·subst z;rw[E]at e;cases e;exact⟨_,C,rfl⟩
  ·exact⟨o,keep b o z e,rfl⟩⟩
 refine⟨sr.fresh fr,⟨⟨[a],rfl,λb I=>by rw[aI]at I;rw[I];exact fr⟩,up.fix,λb o O e=>keep b o (λz=>O (z ▸ ax l)) e,up.knd⟩,⟨sr.len,sr.nd,λn b o B v=>?_⟩⟩;by_cases z:b=P
 ·subst z;have:n=j:=(fu (ae.mp B).1 sr.nd).mp (B.trans l.symm);subst this;rw[G]at v;cases v;exact⟨Q,g,C,L,J⟩
 ·exact og.mono (o:=o) up (sr.ob n b o B v) λu q=>keep b u z q
def V8{j:Nat}(L:C9 X x)(hd:DT ps X.env=([],[]))(h:nQ sc X.env=pure []):SE X (.Lambda ps b sc pos) (vV j x (.Lambda ps b sc pos)):=by
 let⟨f,o,fd,c,P,l1,l2,l3,l4,v,Y,U,O⟩:=L;refine (Yh (q:=xm x "<lambda>") Y v O (by rw[U];rfl) hd h).of λσ H Q h_=>h_.el λρ l st lr sr p=>?_;unfold vV at p;cases e:st[j]? with|none=>rw[e]at p;exact p.elim|some ob=>
  rw[e]at p;cases ob with
  |tbl y w=>
   replace p:aU X.K ρ H (if y=x/\w="<lambda>" then Rs.ok (D.fn st.length) (st++[MO.lam (.Lambda ps b sc pos)]) else Rs.bad) _:=p
   by_cases g:y=x/\w="<lambda>"
   ·rw[aJ g]at p;let⟨rfl,rfl⟩:=g;let⟨l,u,h,tb,G,E,C⟩:=sr.at e;obtain rfl:l=P:=h.uniq ⟨f,o,fd,c,l1,l2,l3,l4,v⟩;refine⟨⟨tb,G,E,C⟩,λa q T=>?_⟩;let⟨J,B,I⟩:=P4 sr u e T.fresh T.tab T.keep;refine p (ρ++[a]) q B (I.keepO J T.lam) _ (.fn ?_);rw[<- sr.len];simp
   ·rw[az g]at p;exact p.elim
  |_=>exact p.elim
def sJ(P:Program)(w:bR)(K:ai)(mg:Str->Option ah)(base:bN)(k n:Nat)(e:Expr)(g:List D->M D):Prop:=
 ∀(ps:iM)(b:Expr)(sc:dB)(pos:Pos)(q:Str)(c:ak)(o ct:ah),e=.Lambda ps b sc pos->∀(A:bM)(outer:List Env)(s:aq)(H:Hp)(a:ak)(l:List ah)(h:List V)(Q:VK),iJ k A->rT P w K mg base A outer s H ->
  H a=some (.frz (yG "<lambda>" q ps b sc [] o c ct) (.own a))->pT H c q->cj h l->nh K n g h H Q E0->ky (aY P w) A (.call (.ref a) ⟨l,[]⟩) (CR rm outer P w H s Q E0) s
def XB{K:ai}{k m:Nat}(S:mJ N nm sc)(hm:N.length=m)(hb:∀(q:Str)(L g ct:ah)(C:List ah),C.length=nm.length->g9 (oJ "<lambda>" q ps b sc [] L g ct) ⟨C,[]⟩=pure (nm.zip C))(E:∀(q:Str)(a:ak)(g:ah)(A:bM)(outer:List Env)(s:aq)(H:Hp),iJ k (A.deeper (oH q sc s.heap.objs.size a g))->SE (sD rm P w K mg base N q sc a g A outer s H E0).nox b f):sJ P w K mg base (k+1) nm.length (.Lambda ps b sc pos) (uw m f):=by
 subst hm;intro ps' b' sc' a6 q c L ct he A outer s H a C G Q Y B ha hc hv O;cases he;let⟨hl,ρ,st,ds,sr,rs,p⟩:=O;let KX:K.In s.heap:=B.mod.kin.keeps λb o e=>(B.bs b o e).1;let fK:s.heap.NoLimit:=B.mod.nolimit.keeps λb o e=>(B.bs b o e).1;let⟨oc,a9,t,hc1,hc2,hc3⟩:=hc;let l:∀y∈nm.zip C,sc.names.lookup y.1=some .local\/(sc.names.lookup y.1=some .cell/\((bT (s.heap.objs.size+1) sc.names []).lookup y.1).isSome=true):=λh hy=>by
  let⟨n,v⟩:=h;rcases S.par n (lX hy).1 with q|q
  ·exact .inl q
  ·exact .inr ⟨q,ik _ _ _ (.inl q)⟩
 refine PySem.W.kla_callFunE Y.depth (B.hok a _ ha).1 rfl S.co S.gen rfl ⟨c,oc,a9,t,rfl,(B.hok c _ hc1).1,hc2,hc3⟩ ?_;rw[hb q L (.ref c) ct C (by rw[<- hv.length];exact hl)];refine aj (we S.kind l λenv he s1 x=>?_);subst he;refine⟨fK.keeps x.toInCall.keep,PySem.W.kla_codeExpr ?_⟩;let I:Inv (sD rm P w K mg base N q sc a (.ref c) A outer s H E0) [] (start N G) H s1:=Q2 S Y.hd B hl hv x;let lr:LR K ρ H (start N G) (ds.map some++bw (N.length-ds.length) none):=LR.start rs;refine fU ((E q a (.ref c) A outer s H (Y.deeper _)).nox [] s1 (start N G) H Q I ⟨ρ,_,st,lr,sr,p⟩) (λu s' U=>?_) λe s' U=>U;let⟨v,H',J,rv,qq⟩:=U;exact⟨v,H',J.os,J.bare,J.base,J.hok,rv,qq⟩
end
noncomputable def zX(b:ak)(u:HO):Prop:=∃o v,u=.frz o (.frz o (.own b))/\o.data=.cell v
structure oh(cs:List ak)(H H':Hp):Prop where
 old:∀b,b∉cs->H' b=H b
 non:∀b∈cs,H b=none
 new:∀b∈cs,∃u,H' b=some u/\zX b u
section
variable{K:ai}{st:aV}
def oh.le(F:oh cs H H'):∀b o,H b=some o->H' b=some o:=λb o e=>by rw[F.old b λz=>by rw[F.non b z]at e;cases e];exact e
def oh.not(F:oh cs H H')(e:H' b=some o)(n:¬ zX b o):H b=some o:=by rw[<- F.old b λz=>by let⟨u,c,h⟩:=F.new b z;rw[e]at c;cases c;exact n h];exact e
def Qi:¬ zX b (.tup g):=λc=>by let⟨_,_,z,_⟩:=c;exact nomatch z
def SM:¬ zX b (.lst g):=λc=>by let⟨_,_,z,_⟩:=c;exact nomatch z
def VT:¬ zX b (.frz o (.tup g)):=λc=>by let⟨_,_,z,_⟩:=c;injection z with _ z;cases z
def V4:¬ zX b (.frz o (.lst g)):=λc=>by let⟨_,_,z,_⟩:=c;injection z with _ z;cases z
def D3:¬ zX b (.frz o (.own c)):=λg=>by let⟨_,_,z,_⟩:=g;injection z with _ z;cases z
def Ue:¬ zX b (.xd fs):=λc=>by let⟨_,_,z,_⟩:=c;exact nomatch z
def D7(h:kO o≠3):¬ zX b o:=λc=>by let⟨_,_,z,_⟩:=c;exact h (by rw[z];rfl)
def YT{o:Obj}(h:o.data=.fields g):¬ zX b (.frz o (.frz o (.own b))):=λc=>by let⟨_,_,z,d⟩:=c;injection z with z;subst z;rw[h]at d;cases d
mutual
theorem dD.letgo(F:oh cs H H'):∀{v:V}{d:D},dD K ρ H' v d->dD K ρ H v d
 |_,_,.non=>.non|_,_,.bl b=>.bl b|_,_,.int i=>.int i|_,_,.str y=>.str y
 |_, _, .tup h r => .tup (by
   rcases h with (h|⟨o,h⟩)|h
   ·exact .inl (.inl (F.not h Qi))
   ·exact .inl (.inr ⟨o,F.not h VT⟩)
   ·exact .inr h) (bV.letgo F r)
 |_, _, .lit h r => .lit (by
   rcases h with ⟨o,h⟩|h
   ·exact .inl ⟨o,F.not h V4⟩
   ·exact .inr h) (bV.letgo F r)
 |_,_,.ref ⟨o,ho,c⟩ h=>.ref ⟨o,F.not ho (D7 (by rw[c];decide)),c⟩ h|_,_,.dic ⟨o,ho,c⟩ h=>.dic ⟨o,F.not ho (D7 (by rcases c with c|c<;>rw[c]<;>decide)),c⟩ h|_,_,.exn0 g ⟨o,ho,hc⟩=>.exn0 g ⟨o,F.not ho D3,hc⟩|_,_,.exn g ⟨o,ho,hc⟩ h2 r=>.exn g ⟨o,F.not ho D3,hc⟩ (F.not h2 Ue) (dD.letgo F r)|_,_,.fn h=>.fn h
theorem bV.letgo(F:oh cs H H'):∀{c:List V}{ds:List D},bV K ρ H' c ds->bV K ρ H c ds
 |_,_,.nil=>.nil|_,_,.cons r t=>.cons (dD.letgo F r) (bV.letgo F t)
end
def pT.letgo(F:oh cs H H')(h:pT H' c q):pT H c q:=let ⟨oc,vs,t,e,d,r⟩:=h;⟨oc,vs,t,F.not e (YT d),d,r⟩
theorem og.letgo(F:oh cs H H')(n:nW o=false)(h:og K ρ H' a o):og K ρ H a o:=by
 cases o with
 |lam e=>
  let⟨ps,b,sc,p,q,c,E,ct,B,l,g⟩:=h;exact⟨ps,b,sc,p,q,c,E,ct,B,F.not l D3,g.letgo F⟩
 |tbl y w=>
  let⟨t,ps,B,l,g⟩:=h;exact⟨t,ps,F.not B (D7 (by show (4:Nat)≠3;decide)),l,λp v z=>let ⟨c,a,b⟩:=g p v z;⟨c,a,b.letgo F⟩⟩
 |lst ds=>
  let⟨C,q,r⟩:=h;exact⟨C,F.not q SM,r.letgo F⟩
 |dct b ar=>
  cases b with
  |false=>
   let⟨es,q,r⟩:=h;exact⟨es,F.not q (D7 (by show (1:Nat)≠3;decide)),fw.mapS r λp q z=>⟨z.1,z.2.letgo F⟩⟩
  |true=>
   let⟨es,q,r⟩:=h;exact⟨es,F.not q (D7 (by show (2:Nat)≠3;decide)),fw.mapS r λp q z=>⟨z.1,z.2.1.letgo F,z.2.2.letgo F⟩⟩
 |dcf ar=>
  let⟨es,q,r⟩:=h;exact⟨es,F.not q (D7 (by show (2:Nat)≠3;decide)),fw.mapS r λp q z=>⟨z.1,z.2.1.letgo F,z.2.2.letgo F⟩⟩
 |clo c C=>cases n|ded=>let⟨u,e⟩:=h;exact⟨u,F.not e D3⟩
def oh.hok(F:oh cs H H')(x:n0 P w H' h):n0 P w H h:=λb o e=>by
 let l:b∉cs:=λz=>by rw[F.non b z]at e;cases e
 exact (x b o (F.le b o e)).stay (λ_ _ _ q=>q) (λc z=>F.not z (λg=>by let⟨_,_,z,_⟩:=g;exact nomatch z)) λc xs z=>F.not z Qi
def oh.hok'(F:oh cs H H')(x:n0 P w H h)(B:∀b∈cs,∀o u,H' b=some (.frz o u)->h.get? b=some o):n0 P w H' h:=λb o e=>by
 by_cases g:b∈cs
 ·let⟨u,l,C,v,rfl,d⟩:=F.new b g;rw[e]at l;cases l;have:=B b g _ _ e;exact⟨this,this,_,this⟩
 ·rw[F.old b g]at e;exact (x b o e).stay (λ_ _ _ q=>q) (λc z=>F.le c _ z) λc xs z=>F.le c _ z
end
end MM
namespace MM
open PySem PySem.Spec PyProof.Rows L2
section
def Y7(I:Inv X ac σ H s)(F:oh cs H H')(l:∀b∈cs,∀o u,H' b=some (.frz o u)->s.heap.get? b=some o)(c:∀b∈cs,X.s₀.heap.objs.size<=b/\b≠X.env.locals):rT X.prog X.w X.K X.mg X.base X.A X.stack s H':=by
 let e:=I.env0;refine⟨e.frames,e.mod,λb o q=>⟨(e.bs b o q).1,?_⟩,e.bsz,e.funs,λb g=>?_,F.hok' I.hok l,e.bare⟩
 ·rw[F.old b λz=>?_]
  ·exact (e.bs b o q).2
  ·exact bo (bh (aK q) (c5 I.ok.bsz (c b z).1)) (cT _)
 ·rw[F.old b λz=>?_]
  ·exact e.frf b g
  ·rcases aX.mp (I.stkSub b g) with y|y
   ·exact (c b z).2 y
   ·let⟨_,o,h,_⟩:=I.ok.funs.mem y;exact bo (bh (aK h) (c b z).1) (cT _)
def UQ(I:Inv X ac σ H s)(F:oh cs H H')(hc:∀b∈cs,∀o u,H' b=some (.frz o u)->s.heap.get? b=some o)(h:L2.CE X.stack X.prog X.w H' s Q u s'):∃v l,RelV v u/\Q v l/\(∀b∈cs,l b=H' b)/\∀E,oh cs E l->Inv X ac σ E s':=by
 let⟨v,l,os,C,un,hok,r,q⟩:=h;let U:∀b∈cs,l b=H' b:=λb c=>by let⟨w,e,o,x,rfl,d⟩:=F.new b c;rw[e,un.frzs b _ _ e]
 refine⟨v,l,r,q,U,λE G=>?_⟩;let at_:∀b o,b∈cs->s.heap.get? b=some o->s'.heap.get? b=some o:=λb o c e=>by let⟨w,Y,o',x,rfl,d⟩:=F.new b c;have O:=hc b c _ _ Y;rw[e]at O;cases O;exact (hok b _ ((U b c).trans Y)).1
 let L:∀b o,H b=some o->b∉cs:=λb o e z=>by rw[F.non b z]at e;cases e
 let up:∀b o,l b=some o->b∉cs->E b=some o:=λb o e z=>by rw[<- G.old b z];exact e
 let⟨hh,g,d,t,J⟩:=s';obtain rfl:J=s.os:=os;refine I.call (h':=hh) (g':=g) (d':=d) (t':=t) (ch:=[]) ⟨λb o e n c B=>?_,λb o e n c B=>?_,λb o e n B=>?_,un.there,λb xs e=>?_,λb o u e=>?_,λb ps e=>?_⟩ (G.hok hok) C (λb z=>bo z (by simp))
 ·by_cases z:b∈cs
  ·exact at_ b o z e
  ·exact un.keep b o e (by rw[F.old b z];exact n) c B
 ·by_cases z:b∈cs
  ·exact⟨o.slots,at_ b o z e⟩
  ·exact un.slot b o e (by rw[F.old b z];exact n) c B
 ·by_cases z:b∈cs
  ·exact G.non b z
  ·rw[<- G.old b z];exact un.free b o e (by rw[F.old b z];exact n) B
 ·exact up b _ (un.tups b xs (F.le b _ e)) (L b _ e)
 ·exact up b _ (un.frzs b o u (F.le b _ e)) (L b _ e)
 ·let⟨more,z⟩:=un.tbls b ps (F.le b _ e);exact⟨more,up b _ z (L b _ e)⟩
end
section
variable{K:ai}{st a7:aV}
def oh.ex(F:oh cs H H')(G:oh cs H2 H1)(x:Ex ρ H' ρ1 H1):Ex ρ H ρ1 H2:=by
 let c:∀b o,H b=some o->b∉cs:=λb o e z=>by rw[F.non b z]at e;cases e
 let up:∀b o,H1 b=some o->b∉cs->H2 b=some o:=λb o e z=>by rw[<- G.old b z];exact e
 refine⟨?_,λb o k e=>up b o (x.fix b o k (F.le b o e)) (c b o e),λb o n e=>up b o (x.oth b o n (F.le b o e)) (c b o e),λb o e=>?_⟩
 ·let⟨τ,e,h⟩:=x.pre;refine⟨τ,e,λa g=>?_⟩;have:=h a g;cases q:H a with|none=>rfl|some o=>rw[F.le a o q]at this;cases this
 ·let⟨o',l,k⟩:=x.knd b o (F.le b o e);exact⟨o',up b o' l (c b o e),k⟩
def P0{n m:Nat}:(gO n st)[m]?=if m < n then st[m]? else (st[m]?).map oA:=by
 unfold gO;by_cases h:m < n
 ·rw[aJ h];by_cases c:m < (st.take n).length
  ·rw[av c,cq h]
  ·rw[bE]at c;let g:st.length<=m:=by ext
   let l:st.length<=n:=by ext
   rw[cf (by rw[aB,ag,bE,ia];ext),cf g]
 ·rw[az h];by_cases c:n<=st.length
  ·rw[aM (by rw[bE];ext),bE,tJ c,au,mT,show n+(m-n)=m by ext]
  ·rw[cf (by rw[aB,ag,bE,ia];ext),cf ()];rfl
theorem SR.letgo{n:Nat}(F:oh cs H H')(G:oh cs H2 H1)(x:Ex ρ H' ρ1 H1)(sr:SR K ρ H st)(v:SR K ρ1 H1 a7)(Y:n<=st.length)(J:∀m,m < n->a7[m]?=st[m]?\/∃o,a7[m]?=some o/\nW o=false):SR K ρ1 H2 (gO n a7):=by
 let X:=F.ex G x;refine⟨?_,v.nd,λm b o C g=>?_⟩
 ·rw[v.len];unfold gO;rw[aB,ag,bE,ia];ext
 ·rw[P0]at g;by_cases h:m < n
  ·rw[aJ h]at g;let plain:nW o=false->og K ρ1 H2 b o:=λz=>og.letgo G z (v.ob m b o C g);rcases J m h with z|⟨o',z,I⟩
   ·by_cases q:nW o=false
    ·exact plain q
    ·let E:m < ρ.length:=by rw[sr.len];ext
     let⟨τ,eτ,_⟩:=x.pre;let Q:ρ[m]?=some b:=by rw[eτ,av E]at C;exact C
     let l:=sr.ob m b o Q (by rw[<- z];exact g);refine og.mono (o:=o) X.up l λu hu=>?_;cases o with
     |clo c vs=>
      let⟨o,L,q,U,cl,B,O⟩:=l;rw[hu]at B;cases B;exact X.fix b _ rfl hu
     |_=>exact bo rfl q
   ·rw[g]at z;cases z;exact plain I
  ·rw[az h]at g;cases e:a7[m]? with|none=>rw[e]at g;cases g|some o'=>
    rw[e]at g;let l:=v.ob m b o' C e;by_cases q:nW o'=true
    ·rw[dJ,oA,aJ q]at g;cases g;cases o' with|clo c vs=>let⟨o,L,q,U,cl,B,O⟩:=l;exact⟨o,G.not B D3⟩|_=>cases q
    ·rw[dJ,oA,az q]at g;cases g;exact og.letgo G (zT.mpr q) l
end
theorem Fa:∀(names:List (Str×dL))(n:Nat)(acc:List (Str×ak)),bT n names acc=bT n names []++acc
 |[],_,_=>rfl
 | (x,k)::r,n,acc=>by
  unfold bT;split
  ·rw[Fa r (n+1) ((x,n)::acc),Fa r (n+1) [(x,n)],bz];rfl
  ·exact Fa r n acc
theorem DX:∀(a b:List (Str×ak)),(a++b).lookup x=(a.lookup x).or (b.lookup x)
 |[],_=>rfl
 | (y,c)::a,b=>by
  rw[dA,lI,lI];cases x == y with|true=>rfl|false=>exact DX a b
section
variable{M:Eo}{s₀ s:aq}{m cm:Str->Option ah}{env:Env}
def Zk{Q:Unit->aq->Prop}(x:pH s₀ env.locals m own cm s)(C:env.scope.kind=.function)(B:env.kindOf n=some .local)(h:∀q,pH s₀ env.locals (λy=>if y=n then some v else m y) own cm q->Q Unit.unit q):aH M A (qY env n v) Q E s:=by
 refine Ae B x.toInCall.ns (λh' l g=>h _ ⟨⟨?_,l,λb o e=>?_,x.toInCall.fresh⟩,λk c u=>?_,x.apart,x.above⟩) (by rw[C];rfl)
 ·let⟨h₁,G,rfl⟩:=x.toInCall.same;exact⟨h',_,rfl⟩
 ·exact g.extBut b o (bj (bh (aK e) x.toInCall.fresh)) (x.toInCall.keep b o e)
 ·exact (x.cell k c u).sameBut g (dm (x.above k c (bb u)))
def stC{Q:Unit->aq->Prop}(L:env.cells=own++cl)(x:pH s₀ env.locals m own cm s)(J:env.scope.kind=.function)(I:env.kindOf n=some .cell)(u:own.lookup n=some c) (h:∀H,pH s₀ env.locals m own (λy=>if y=n then some v else cm y) H->Q Unit.unit H):aH M A (qY env n v) Q E s:=by
 let B:=x.above n c (bb u);let C:env.cells.lookup n=some c:=by rw[L,DX,u];rfl
 refine Bf J I C (x.cell n c u) λh' G l=>h _ ⟨⟨?_,x.toInCall.ns.sameBut l (bj B),λb o e=>?_,x.toInCall.fresh⟩,λk O g=>?_,x.apart,x.above⟩
 ·let⟨h₁,U,rfl⟩:=x.toInCall.same;exact⟨h',_,rfl⟩
 ·exact l.extBut b o (bj (oI (bh (aK e) x.toInCall.fresh) B)) (x.toInCall.keep b o e)
 ·by_cases q:k=n
  ·subst q;rw[u]at g;cases g;simpa using G
  ·rw[az q];exact (x.cell k O g).sameBut l λe=>q (zI x.apart (bb g) (e ▸ bb u))
theorem JB(f:Str×ah->PUnit->Sem (ForInStep PUnit))(H:∀n v u,f (n,v) u=(do qY env n v; pure (.yield ⟨⟩)))(C:env.scope.kind=.function)(I:env.cells=own++cl):
  ∀(binds:List (Str×ah))(m cm:Str->Option ah)(s:aq)(Q:PUnit->aq->Prop),pH s₀ env.locals m own cm s ->
   (∀x∈binds,env.kindOf x.1=some .local\/(env.kindOf x.1=some .cell/\(own.lookup x.1).isSome=true)) ->
   (∀o,pH s₀ env.locals (qH env.kindOf binds m) own (qI env.kindOf binds cm) o->Q ⟨⟩ o)->aH M A (forIn binds ⟨⟩ f) Q E s
 |[],m,cm,s,Q,x,_,h=>by rw[mQ];exact aj (h s x)
 | (n,v)::r,m,cm,s,Q,x,hkind,h=>by
  rw[kA,H];let L:∀y∈r,env.kindOf y.1=some .local\/(env.kindOf y.1=some .cell/\(own.lookup y.1).isSome=true):=λy O=>hkind y (bF _ O);rcases hkind (n,v) cD with q|⟨q,J⟩
  ·refine ab (ab (Zk x C q λo G=>aj (JB f H C I r _ _ o Q G L λl g=>h l ?_)));unfold qH qI;rw[aJ q,aJ q];exact g
  ·let⟨c,J⟩:=fJ.mp J;let B:¬ env.kindOf n=some .local:=by rw[q];decide
   refine ab (ab (stC I x C q J λo G=>aj (JB f H C I r _ _ o Q G L λl g=>h l ?_)));unfold qH qI;rw[az B,az B];exact g
def Qh0{scope:dB}{binds:List (Str×ah)}{code:ah}{Q:Env->aq->Prop}(u:scope.kind=.function)(g:∀x∈binds,scope.names.lookup x.1=some .local\/(scope.names.lookup x.1=some .cell/\((bT (s.heap.objs.size+1) scope.names []).lookup x.1).isSome=true))(B:∀env,env=newEnv scope s.heap.objs.size globals (bT (s.heap.objs.size+1) scope.names cl) qual func code none builtins ->∀h,pH s env.locals (qH env.kindOf binds λ_=>none) (bT (s.heap.objs.size+1) scope.names []) (qI env.kindOf binds λ_=>none) h->Q env h):aH M A (qK scope globals cl binds qual func code none builtins) Q E s:=by
 simp only[qK,mD,aR,if_false];refine ab (wpAny_alloc ?_);refine ab (wpAny_layCells _ (λname kind cells=>by cases q:kind == fQ<;>simp[q]) _ _ _ _ ?_);let ok:=cellsFrom_ok scope.names (s.heap.push { cls:=.type "frame",data:=.dict #[] }) (s.heap.objs.size+1) [] ⟨λ_ _ l=>(nomatch l),t6⟩ (by rw[cB];exact ay _);rw[cB]at ok;rw[show ({ s with heap:=s.heap.push { cls:=.type "frame",data:=.dict #[] } }:aq).heap.objs.size=s.heap.objs.size+1 from cB ..];refine ab (JB (s₀:=s) (env:=newEnv scope s.heap.objs.size globals (bT (s.heap.objs.size+1) scope.names cl) qual func code none builtins) (cl:=cl) (own:=bT (s.heap.objs.size+1) scope.names [])
  _ (λ_ _ _=>rfl) u (Fa _ _ _) binds (λ_=>none) (λ_=>none) _ _
  ⟨⟨⟨_,_,rfl⟩,(BS s.heap (.type "frame")).keeps (mZ _ _),λb o e=>mZ _ _ b o (am _ e),ay _⟩,
   λn c v=>(ok.empty n c (bb v)).1,ok.apart,λn c l=>(ok.empty n c l).2⟩
  g λh x=>aj (B _ rfl h x))
end
structure sy(N ps fr:List Str)(sc:dB):Prop where
 kind:sc.kind=.function
 co:sc.isCoroutine=false
 gen:sc.isGenerator=false
 nd:N.Nodup
 pre:N.take (ps++fr).length=ps++fr
 par:∀x∈ps,sc.names.lookup x=some .local\/sc.names.lookup x=some .cell
 fre:∀x∈fr,sc.names.lookup x=some .free
 onl:∀x,(x,bJ)∈sc.names->x∈fr
 noc:∀x∈fr,(x,fQ)∉sc.names
theorem qB:∀{names:List (Str×dL)}{n:Nat}{acc:List (Str×ak)},(x,c)∈bT n names acc->(x,fQ)∈names\/(x,c)∈acc
 |[],_,_,h=>.inr h
 | (y,k)::r,n,acc,h=>by
  unfold bT at h;split at h
  ·rename_i g;let g:k=.cell:=by simpa using g
   subst g;rcases qB h with z|z
   ·exact .inl (.tail _ z)
   ·rcases aX.mp z with z|z
    ·cases z;exact .inl (.head _)
    ·exact .inr z
  ·rcases qB h with z|z
   ·exact .inl (.tail _ z)
   ·exact .inr z
theorem K7:∀{cl:List (Str×ak)}{j:Nat},(cl.map (·.1)).Nodup->cl[j]?=some p->cl.lookup p.1=some p.2
 |[],_,_,h=>by simp at h| (y,c)::cl,0,_,h=>by cases h;exact wu
 | (y,c)::cl,j+1,hn,h=>by
  rw[aT,lW]at hn;let h':cl[j]?=some p:=by simpa using h
  have:(p.1 == y)=false:=beq_eq_false_iff_ne.mpr λz=>hn.1 (by rw[<- z];exact i5 (f:=(·.1)) (ax h'));rw[lI,this];exact K7 hn.2 h'
noncomputable def rV(q:Str)(sc:dB)(L a:ak)(c:ah)(cl:List (Str×ak)):Env:=newEnv sc L cW (bT (L+1) sc.names cl) (q++".<locals>.") (some a) c none nL
def Ea(P:Program)(w:bR)(K:ai)(mg:Str->Option ah)(base:bN)(N:List Str)(q:Str)(sc:dB)(f:ak)(c:ah)(cl:List (Str×ak))(A:bM)(outer:List Env)(s:aq)(H:Hp):Cx where
 prog:=P
 w:=w
 K:=K
 mg:=mg
 base:=base
 A:=A.deeper (rV q sc s.heap.objs.size f c cl)
 N:=N
 s₀:=s
 H₀:=H
 env:=rV q sc s.heap.objs.size f c cl
 outer:=outer
 stack:=rV q sc s.heap.objs.size f c cl::outer
 ex:=[]
 calm:=true
 fn:=λx=>sc.names.lookup x == some .cell
 pn:=[]
 xe:=λ_ _=>False
section
variable{K:ai}{cl:List (Str×ak)}{A:bM}{vs a9:List V}
def WA:Sc (Ea P w K mg base N q sc f cd cl A outer s H) sc where
 vis:=λx k h c=>by
  rcases c with z|z|z<;>subst z
  ·exact .inl h
  ·exact .inr (.inl h)
  ·exact .inr (.inr h)
 cel:=λx h=>h
 glo:=λx h=>h
 loc:=λx k h c=>by
  rcases c with z|z<;>subst z
  ·exact⟨.inl h,.inr h⟩
  ·exact⟨.inr h,.inl (by show (sc.names.lookup x == some .cell)=true;rw[h];rfl)⟩
 calm:=rfl
def Qh3(S:sy N ps fr sc)(hd:A.handled=none)(I:rT P w K mg base A outer s H)(hl:vs.length=ps.length)(r:cj vs us)(E:cl.map (·.1)=fr)(hcl:a9.length=fr.length)(rc:cj a9 d4)(hnd:(cl.map (·.2)).Nodup) (hc:∀(i:Nat)(p:Str×ak)(u:ah),cl[i]?=some p->d4[i]?=some u->s.heap.IsCell p.2 (some u)) (hn:∀p∈cl,H p.2=none)(x:pH s s.heap.objs.size (qH (rV q sc s.heap.objs.size f cd cl).kindOf (ps.zip us) λ_=>none) (bT (s.heap.objs.size+1) sc.names []) (qI (rV q sc s.heap.objs.size f cd cl).kindOf (ps.zip us) λ_=>none) s1):Inv (Ea P w K mg base N q sc f cd cl A outer s H) [] (L2.start N (vs++a9)) H s1:=by
 let hlen:(vs++a9).length=(ps++fr).length:=by rw[aB,aB,hl,hcl]
 let hpl:(ps++fr).length<=N.length:=by have:=cQ dZ S.pre;rw[bE]at this;ext
 let⟨h1,tk,rfl,hk⟩:=x.done;let O:(ps++fr).Nodup:=by rw[<- S.pre];exact S.nd.sublist (zJ _ _)
 let Q:ps.Nodup:=(c9.mp O).1;let L:∀b:ak,b∉(Ea P w K mg base N q sc f cd cl A outer s H).ex:=λb z=>bo (show b∈([]:List ak) from z) (by simp);let ce:(rV q sc s.heap.objs.size f cd cl).cells=bT (s.heap.objs.size+1) sc.names []++cl:=Fa _ _ _;let B:∀y c,(rV q sc s.heap.objs.size f cd cl).cells.lookup y=some c->(bT (s.heap.objs.size+1) sc.names []).lookup y=some c\/((bT (s.heap.objs.size+1) sc.names []).lookup y=none/\cl.lookup y=some c):=λy c e=>by
  rw[ce,DX]at e;cases e2:(bT (s.heap.objs.size+1) sc.names []).lookup y with|some d=>rw[e2]at e;exact .inl e|none=>rw[e2]at e;exact .inr ⟨rfl,e⟩
 let clu:∀p∈cl,∃u,s.heap.IsCell p.2 (some u):=λp g=>by
  let⟨i,C⟩:=aN.mp g;let hlt:i < d4.length:=by have h1:=(ae.mp C).1;have l:=cQ dZ E;have h3:=rc.length;rw[ag]at l;ext
  exact⟨_,hc i p _ C (af hlt)⟩
 let clt:∀y c,cl.lookup y=some c->c < s.heap.objs.size:=λy c e=>by let⟨u,o,U,_⟩:=clu (y,c) (bb e);exact aK U
 refine⟨⟨I.mod,S.kind,rfl,rfl,ay _,λy z c h1 l=>?_,λy G=>?_,λy c Y h=>?_,λ_=>hd,vJ I.frames,.inr ⟨rfl,rfl⟩,λb z=>bo z (L b),I.bs,I.bsz,λb _ _=>L b,λb z=>bo z (L b),I.funs,I.frf⟩,
  rfl,I.bare,Un.kept hk,⟨_,x.toInCall.ns,λi y v h1 l h3=>?_⟩,λy c h=>?_,I.hok.fresh (ay _),λy c h=>?_,λp g=>bo (show p∈([]:List (ak×Obj)) from g) (by simp),I.hok.kept hk,?_⟩
 ·rcases B y c h1 with a|⟨_,a⟩<;>rcases B z c l with b|⟨_,b⟩
  ·exact zI x.apart (bb a) (bb b)
  ·exact bo (clt _ _ b) (Nat.not_lt.mpr (gK (x.above y c (bb a))))
  ·exact bo (clt _ _ a) (Nat.not_lt.mpr (gK (x.above z c (bb b))))
  ·let⟨i,C⟩:=aN.mp (bb a);let⟨j,J⟩:=aN.mp (bb b);have:i=j:=(fu (by rw[ag];exact (ae.mp C).1) hnd).mp (by rw[au,au,C,J];rfl);subst this;rw[C]at J;cases J;rfl
 ·let G:sc.names.lookup y=some .cell\/sc.names.lookup y=some .free:=G
  show ∃c,(rV q sc s.heap.objs.size f cd cl).cells.lookup y=some c;rw[ce,DX];rcases G with G|G
  ·let⟨c,e⟩:=Hu (n:=s.heap.objs.size+1) G;exact⟨c,by rw[e];rfl⟩
  ·let h:=S.onl y (bb G);rw[<- E]at h;let⟨p,g,rfl⟩:=bQ.mp h;cases e2:(bT (s.heap.objs.size+1) sc.names []).lookup p.1 with|some d=>exact⟨d,rfl⟩|none=>
    let⟨j,J⟩:=aN.mp g;exact⟨p.2,by rw[K7 (by rw[E];exact (c9.mp O).2.1) J];rfl⟩
 ·let Y:(sc.names.lookup y == some .cell)=true:=Y;let Y:sc.names.lookup y=some .cell:=by simpa using Y
  rcases B y c h with a|⟨a,_⟩
  ·exact gK (x.above y c (bb a))
  ·let⟨d,e⟩:=Hu (n:=s.heap.objs.size+1) Y;rw[e]at a;cases a
 ·let C : i < (vs ++ a9).length := by
    unfold L2.start at l;by_cases C:i < (vs++a9).length
    ·exact C
    ·rw[aM (by simpa using C)]at l;rw[fN]at l;split at l<;>cases l
  let h:(vs++a9)[i]?=some v:=by
   unfold L2.start at l;rw[av (by simpa using C),au]at l;cases e:(vs++a9)[i]? with|none=>rw[e]at l;cases l|some a=>rw[e]at l;cases l;rfl
  let g:(ps++fr)[i]?=some y:=by rw[<- S.pre,cq ()];exact h1
  by_cases H:i < vs.length
  ·rw[av H]at h;rw[av ()]at g;let⟨u,hu,B⟩:=r.get h;refine⟨u,B,?_⟩;rcases S.par y (ax g) with k|k
   ·exact .inl ⟨k,K0 Q g hu k⟩
   ·let⟨c,e⟩:=Hu (n:=s.heap.objs.size+1) k;refine .inr ⟨.inl k,c,?_,?_⟩
    ·show (rV q sc s.heap.objs.size f cd cl).cells.lookup y=some c;rw[ce,DX,e];rfl
    ·let q:=x.cell y c e;rw[M3 Q g hu (by show sc.names.lookup y≠_;rw[k];decide)]at q;exact q
  ·rw[aM ()]at h g;rw[hl]at h;let⟨u,hu,B⟩:=rc.get h;let G:=ax g;obtain⟨c,J⟩:∃c,cl[i-ps.length]?=some (y,c):=by
    rw[<- E,au]at g;cases e:cl[i-ps.length]? with|none=>rw[e]at g;cases g|some p=>rw[e]at g;exact⟨p.2,by rw[<- aF g]⟩
   let⟨o,U,hd⟩:=hc _ _ u J hu;refine⟨u,B,.inr ⟨.inr (S.fre y G),c,?_,o,hk c o U,hd⟩⟩
   show (rV q sc s.heap.objs.size f cd cl).cells.lookup y=some c;rw[ce,DX];have:(bT (s.heap.objs.size+1) sc.names []).lookup y=none:=by
    cases e:(bT (s.heap.objs.size+1) sc.names []).lookup y with|none=>rfl|some d=>
     rcases qB (bb e) with z|z
     ·exact bo z (S.noc y G)
     ·cases z
   rw[this,K7 (by rw[E];exact (c9.mp O).2.1) J];rfl
 ·rcases B y c h with a|⟨_,a⟩
  ·exact⟨_,x.cell y c a⟩
  ·let⟨u,o,U,hd⟩:=clu (y,c) (bb a);exact⟨some u,o,hk c o U,hd⟩
 ·rcases B y c h with a|⟨_,a⟩
  ·exact I.hok.fresh (gK (x.above y c (bb a)))
  ·exact hn (y,c) (bb a)
 ·unfold L2.start
  show _=N.length;rw[aB,ag,fH];ext
end
section
variable{K:ai}{st s2:aV}
def SR.kill0(G:oh cs H0 H)(sr:SR K ρ H st):SR K ρ H0 (gO 0 st):=by
 refine⟨?_,sr.nd,λm b o u g=>?_⟩
 ·rw[sr.len];unfold gO;simp
 ·rw[P0,az ()]at g;cases e:st[m]? with|none=>rw[e]at g;cases g|some o'=>
   rw[e]at g;let h:=sr.ob m b o' u e;by_cases q:nW o'=true
   ·rw[dJ,oA,aJ q]at g;cases g;cases o' with|clo c vs=>let⟨o,v,q,C,cl,l,B⟩:=h;exact⟨o,G.not l D3⟩|_=>cases q
   ·rw[dJ,oA,az q]at g;cases g;exact og.letgo G (zT.mpr q) h
def oh.again(G:oh cs H0 H)(T:oh cs H2 H3)(c:∀b∈cs,H3 b=H b)(x:Ex ρ H0 ρ2 H2)(s:SR K ρ2 H2 s2):Ex ρ H ρ2 H3:=by
 let key:∀b o,H b=some o->(b∉cs->H0 b=some o):=λb o e n=>by rw[<- G.old b n];exact e
 refine⟨?_,λb o k e=>?_,λb o n e=>?_,λb o e=>?_⟩
 ·let⟨τ,e,h⟩:=x.pre;refine⟨τ,e,λa l=>?_⟩;let q:a∉cs:=λz=>by
   let B:=T.non a z;have:a∈ρ2:=by rw[e];exact bK _ l
   let⟨n,g⟩:=aN.mp this;let v:n < s2.length:=by rw[<- s.len];exact (ae.mp g).1
   let⟨u,hu⟩:=og.ex (s.ob n a _ g (af v));rw[B]at hu;cases hu
  have:=h a l;rw[<- G.old a q]at this;exact this
 ·by_cases z:b∈cs
  ·rw[c b z];exact e
  ·rw[T.old b z];exact x.fix b o k (key b o e z)
 ·by_cases z:b∈cs
  ·rw[c b z];exact e
  ·rw[T.old b z];exact x.oth b o n (key b o e z)
 ·by_cases z:b∈cs
  ·exact⟨o,by rw[c b z];exact e,rfl⟩
  ·let⟨o',C,k⟩:=x.knd b o (key b o e z);exact⟨o',by rw[T.old b z];exact C,k⟩
theorem SR.again(G:oh cs H0 H)(T:oh cs H2 H3)(J:∀b∈cs,H3 b=H b)(x:Ex ρ H0 ρ2 H2)(sr:SR K ρ H st)(s:SR K ρ2 H2 s2)(hd:∀(i:Nat)(o:MO),st[i]?=some o->nW o=true->s2[i]?=some MO.ded):SR K ρ2 H3 (s2.mapIdx (r8 st)):=by
 let X:=G.again T J x s;refine⟨by rw[List.length_mapIdx];exact s.len,s.nd,λi b o B h=>?_⟩;rw[wW]at h;cases es:s2[i]? with|none=>rw[es]at h;cases h|some o'=>
  rw[es]at h;let g:o=r8 st i o':=(aF h).symm;let rest:og K ρ2 H3 b o':=og.mono (o:=o') ⟨⟨[],by simp⟩,λb o _ e=>T.le b o e,λb o e=>⟨o,T.le b o e,rfl⟩⟩ (s.ob i b o' B es) λu q=>T.le b u q;unfold r8 at g;cases l:st[i]? with|none=>rw[l]at g;rw[g];exact rest|some oi=>
   rw[l]at g;cases oi with
   |clo c v=>
    dsimp only at g;subst g;let I:i < ρ.length:=by rw[sr.len];exact (ae.mp l).1
    let⟨τ,eτ,_⟩:=x.pre;let L:ρ[i]?=some b:=by rw[eτ,av I]at B;exact B
    let C:=sr.ob i b _ L l;refine og.mono (o:=.clo c v) X.up C λu hu=>?_;let⟨o,O,q,U,cl,E,Q⟩:=C;rw[hu]at E;cases E;exact X.fix b _ rfl hu
   |_=>dsimp only at g;rw[g];exact rest
theorem Q4(ok:n0 P w H h):∀{cl:List (Str×ak)}{vd:List D},fw (tR K ρ H) cl vd->∃g l,cj g l/\bV K ρ H g vd/\∀(i:Nat)(p:Str×ak)(u:ah),cl[i]?=some p->l[i]?=some u->h.IsCell p.2 (some u)
 |[],_,r=>by cases r;exact⟨[],[],.nil,.nil,λi p u h=>by simp at h⟩
 |p::cl,_,r=>by
  cases r with|cons c t=>
   let⟨o,u,v,O,L,J,I⟩:=c;let⟨g,l,G,E,C⟩:=Q4 ok t;refine⟨v::g,u::l,.cons J G,.cons I E,λi q u' B hu=>?_⟩;cases i with|zero=>cases B;cases hu;exact⟨o,(ok _ _ O).1,L⟩|succ i=>exact C i q u' (by simpa using B) (by simpa using hu)
end
def sx(P:Program)(w:bR)(K:ai)(mg:Str->Option ah)(base:bN)(k n:Nat)(c:lF)(g:List D->M D):Prop:=
 ∀(A:bM)(outer:List Env)(s:aq)(H:Hp)(ρ:List ak)(st:aV)(m:Nat)(a:ak)(l ds:List D)(o:List ah)(h:List V)(Q:VK),iJ k A->rT P w K mg base A outer s H->SR K ρ H st->ρ[m]?=some a->st[m]?=some (.clo c l) ->
  bV K ρ H h ds->cj h o->ds.length=n->aU K ρ H (px g l ds st) (λr _ ρ' q=>∀v,dD K ρ' q v r->Q v q)->ky (aY P w) A (.call (.ref a) ⟨o,[]⟩) (CR rm outer P w H s Q E0) s
theorem J9{α β:Type}{F:α->β->Prop}:∀{l₁:List α}{l₂:List β}{i:Nat}{x:α},fw F l₁ l₂->l₁[i]?=some x->∃y,l₂[i]?=some y/\F x y
 |_,_,_,_,.nil,e=>by simp at e|_,_,0,_,.cons r _,e=>by simp at e;subst e;exact⟨_,rfl,r⟩|_,_,i+1,_,.cons _ t,e=>by let⟨v,g,c⟩:=J9 (i:=i) t (by simpa using e);exact⟨v,by simpa using g,c⟩
section
variable{K:ai}
def Qh6{s J:aq}{Q:VK}(e0:rT P w K mg base A outer s H)(G:oh h H0 H)(un:Un (e_ outer) [] H0 I s.heap J.heap)(hok:n0 P w I J.heap)(os:J.os=s.os)(U:mw J.gens)(rv:RelV v u)(hq:∀C,oh h I C->(∀b∈h,C b=H b)->Q v C):L2.CE outer P w H s Q u J:=by
 classical
 obtain⟨C,e3⟩:∃C:Hp,C=λb=>if b∈h then H b else I b:=⟨_,rfl⟩
 let l:∀b∈h,C b=H b:=λb c=>by rw[e3];exact aJ c
 let B:∀b,b∉h->C b=I b:=λb c=>by rw[e3];exact az c
 let Y:∀b o,H b=some o->b∉h->H0 b=some o:=λb o e n=>by rw[<- G.old b n];exact e
 let O:∀b∈h,∃o u,H b=some (.frz o u)/\s.heap.get? b=some o:=λb c=>by let⟨w',e,o,x,rfl,d⟩:=G.new b c;exact⟨o,_,e,(e0.hok b _ e).1⟩
 let T:oh h I C:=⟨B,λb c=>by let⟨o,u,e,g⟩:=O b c;exact un.free b o g (G.non b c) (by simp),λb c=>by rw[l b c];exact G.new b c⟩
 let nf:∀b∈h,b∉e_ outer:=λb c z=>by let⟨o,u,e,g⟩:=O b c;rw[e0.frf b z]at e;cases e
 refine⟨v,C,os,U,⟨λb o e n c L=>?_,λb o e n c L=>?_,λb o e n L=>?_,un.there,λb xs e=>?_,λb o u e=>?_,λb p e=>?_⟩,T.hok' hok λb c o u e=>?_,rv,hq C T l⟩
 ·let E:b∉h:=λz=>by let⟨o,u,e,g⟩:=O b z;rw[n]at e;cases e
  exact un.keep b o e (by rw[<- G.old b E];exact n) c L
 ·let E:b∉h:=λz=>by let⟨o,u,e,g⟩:=O b z;rw[n]at e;cases e
  exact un.slot b o e (by rw[<- G.old b E];exact n) c L
 ·let E:b∉h:=λz=>by let⟨o,u,e,g⟩:=O b z;rw[n]at e;cases e
  rw[B b E];exact un.free b o e (by rw[<- G.old b E];exact n) L
 ·by_cases z:b∈h
  ·rw[l b z];exact e
  ·rw[B b z];exact un.tups b xs (Y b _ e z)
 ·by_cases z:b∈h
  ·rw[l b z];exact e
  ·rw[B b z];exact un.frzs b o u (Y b _ e z)
 ·by_cases z:b∈h
  ·exact⟨#[],by rw[l b z,e];simp⟩
  ·let⟨more,q⟩:=un.tbls b p (Y b _ e z);exact⟨more,by rw[B b z];exact q⟩
 ·rw[l b c]at e;let g:=(e0.hok b _ e).1;exact un.keep b o g (G.non b c) (nf b c) (by simp)
open Classical in
def Xq{k:Nat}{m n:Nat}(S:sy N ps fr sc)(hm:N.length=m)(hn:ps.length=n)(hfr:oX sc.names=fr)(hb:∀(q:Str)(cl:List (Str×ak))(dc pm O ct:ah)(us:List ah),us.length=ps.length->g9 (rf x q pa C sc cl .none .none dc pm none O ct) ⟨us,[]⟩=pure (ps.zip us))(hbody:∀(q:Str)(a:ak)(O:ah)(cl:List (Str×ak))(A:bM)(outer:List Env)(s:aq)(H:Hp),iJ k (A.deeper (rV q sc s.heap.objs.size a O cl))->xr (Ea P w K mg base N q sc a O cl A outer s H) C f):sx P w K mg base (k+1) n (.dfn (.FunctionDef x pa C dx rt tp sc ts bd pos)) (bW m f):=by
 subst hm hn;intro A outer s H ρ st m a vd ds us vs Q hr c sr ha hst rs hv hl p;let⟨ob,fd,q,cd,cl,e1,e2,⟨nm,ps',body',ds',rt',tp',sc',ts',bd',p',dc,pm,ct,ee,ef⟩,e4,⟨e5,E⟩,e6⟩:=sr.ob m a _ ha hst;cases ee;subst ef;let E:cl.map (·.1)=fr:=E.trans hfr;let fK:s.heap.NoLimit:=c.mod.nolimit.keeps λb o e=>(c.bs b o e).1;let⟨oc,cvs',t,hc1,hc2,hc3⟩:=e4;let⟨L,d4,c1,c2,c3⟩:=Q4 c.hok e6;obtain⟨h,h0⟩:∃h:Hp,h=λb=>if b∈cl.map (·.2) then none else H b:=⟨_,rfl⟩
 let G:oh (cl.map (·.2)) h H:=⟨λb hb=>by rw[h0];exact (az hb).symm,λb hb=>by rw[h0];exact aJ hb,λb hb=>by let⟨pr,hp,rfl⟩:=bQ.mp hb;let⟨i,hi⟩:=aN.mp hp;let⟨d,_,o,u,v,f1,f2,_⟩:=J9 e6 hi;exact⟨_,f1,o,_,rfl,f2⟩⟩
 let e00:rT P w K mg base A outer s h:=⟨c.frames,c.mod,λb o g=>⟨(c.bs b o g).1,by rw[h0];dsimp only;split;rfl;exact (c.bs b o g).2⟩,c.bsz,c.funs,λb hb'=>by rw[h0];dsimp only;split;rfl;exact c.frf b hb',G.hok c.hok,c.bare⟩
 let hvl:vs.length=ps.length:=by rw[rs.length];exact hl
 let hkind:∀y∈ps.zip us,sc.names.lookup y.1=some .local\/(sc.names.lookup y.1=some .cell/\((bT (s.heap.objs.size+1) sc.names []).lookup y.1).isSome=true):=λpq131 hy=>by
  let⟨n,v⟩:=pq131;rcases S.par n (lX hy).1 with q|q
  ·exact .inl q
  ·exact .inr ⟨q,ik _ _ _ (.inl q)⟩
 refine Af hr.depth (c.hok a _ e1).1 e2 S.co S.gen rfl ⟨cd,oc,cvs',t,rfl,(c.hok cd _ hc1).1,hc2,hc3⟩ ?_;rw[hb q cl dc pm (.ref cd) ct us (by rw[<- hv.length];exact hvl)];refine aj (Qh0 S.kind hkind λenv he s1 x=>?_);subst he;refine⟨fK.keeps x.toInCall.keep,codeAny_func ?_⟩;let hcl:L.length=fr.length:=by have h1:=cQ dZ E;rw[ag]at h1;rw[c2.length,<- cZ e6];exact h1
 let I:Inv (Ea P w K mg base N q sc a (.ref cd) cl A outer s h) [] (L2.start N (vs++L)) h s1:=Qh3 S hr.hd e00 hvl hv E hcl c1 e5 c3 (λp hp=>G.non _ (i5 hp)) x;unfold px at p;cases eg:bW N.length f (ds++vd) (gO 0 st) with|exc _ _=>rw[eg]at p;exact p.elim|bad=>rw[eg]at p;exact p.elim|ok r st2=>
  rw[eg]at p;dsimp only at p;by_cases hd:∀(i:Nat)(o:MO),st[i]?=some o->nW o=true->st2[i]?=some MO.ded
  ·rw[aJ hd]at p;let rr:bV K ρ h (vs++L) (ds++vd):=bV.app (rs.letgo G) (c2.letgo G);let pb:aU K ρ h (bW N.length f (ds++vd) (gO 0 st)) λr' st' ρ' B=>∀v,dD K ρ' B v r'->∃ρ2,dD K ρ2 B v r/\SR K ρ2 B st2/\Ex ρ h ρ2 B:=by rw[eg];exact λρ' B x' s' v U=>⟨ρ',U,s',x'⟩
   let fin:∀{σ':St}{E:Hp}{s2:aq}{v:V}{u:ah},Inv (Ea P w K mg base N q sc a (.ref cd) cl A outer s h) [] σ' E s2->RelV v u->(∃ρ2,dD K ρ2 E v r/\SR K ρ2 E st2/\Ex ρ h ρ2 E)->L2.CE outer P w H s Q u s2:=λ{σ' E s2 v u}J U Y=>
    by let⟨ρ2,r2,C,x2⟩:=Y;exact Qh6 c G J.base J.hok J.os J.bare U λH3 T he=>p ρ2 H3 (G.again T he x2 C) (SR.again G T he x2 sr C hd) v (r2.up ⟨⟨[],by simp⟩,λb o _ e=>T.le b o e,λb o e=>⟨o,T.le b o e,rfl⟩⟩)
   refine fU (hbody q a (.ref cd) cl A outer s h (hr.deeper _) [] s1 (L2.start N (vs++L)) h { nx:=λ_ B=>∃ρ2,dD K ρ2 B .non r/\SR K ρ2 B st2/\Ex ρ h ρ2 B,rt:=λv B=>∃ρ2,dD K ρ2 B v r/\SR K ρ2 B st2/\Ex ρ h ρ2 B } I ⟨ρ,_,_,LR.start rr,SR.kill0 G sr,?_⟩) (λfl s' g=>?_) λe s' g=>g.elim
   ·unfold bW at pb;exact pb.bnd.imp λfl c ρ1 h g s1 O=>by
     cases fl with|next l=>exact λσ' _=>O.ret s1 _ .non|ret d=>exact λv U=>O.ret s1 v U|brk l=>exact O.elim|cnt l=>exact O.elim
   ·cases fl with
    |ret u=>
     let⟨v,σ',B,J,U,q⟩:=g;exact fin J U q
    |next=>
     let⟨σ',B,J,q⟩:=g;exact fin (v:=V.non) (u:=cK) J rfl q
    |brk=>exact (by let⟨_,_,_,q⟩:=g;exact q.elim)|cont=>exact (by let⟨_,_,_,q⟩:=g;exact q.elim)
  ·rw[az hd]at p;exact p.elim
end
section
variable{X:Cx}
theorem Q3{K:ai}{st:aV}:∀{W:List (Expr×RL)},aU K ρ H (qT W e ds st) R->∃r,(e,r)∈W/\ds.length=r.n/\aU K ρ H (r.g ds st) R
 |[],h=>h.elim
 | (e',r)::W,h=>by
  unfold qT at h;by_cases z:e=e'
  ·rw[aJ z]at h;let⟨g,c⟩:=aU.chk h;exact⟨r,z ▸ .head _,g,c⟩
  ·rw[az z]at h;let⟨r,a,b⟩:=Q3 h;exact⟨r,.tail _ a,b⟩
theorem OR{K:ai}{st:aV}:∀{W:List (lF×RK)},aU K ρ H (qR W c g ds st) R->∃r,(c,r)∈W/\ds.length=r.n/\aU K ρ H (px r.g g ds st) R
 |[],h=>h.elim
 | (e',r)::W,h=>by
  unfold qR at h;by_cases z:c=e'
  ·rw[aJ z]at h;let⟨o,l⟩:=aU.chk h;exact⟨r,z ▸ .head _,o,l⟩
  ·rw[az z]at h;let⟨r,a,b⟩:=OR h;exact⟨r,.tail _ a,b⟩
def UU{W:WT}{e:Expr}(hW:∀e r,(e,r)∈W.1->sJ X.prog X.w X.K X.mg X.base r.k r.n e r.g/\iJ r.k X.A)(hV:∀c r,(c,r)∈W.2->sx X.prog X.w X.K X.mg X.base r.k r.n c r.g/\iJ r.k X.A)(hx:SE X (.Name x p) fa)(ha:SA X (e::es) ca)(he:starEach (e::es) X.env=(false,eval e X.env)::starEach es X.env:=by rfl) (hpl:(backTo pos (starEach es X.env)).any (·.1)=false:=by rfl):SE X (.Call (.Name x p) (e::es) [] pos) (qv W fa ca):=by
 intro L s σ H Q I Y;let⟨ρ,l,st,lr,sr,p⟩:=Y;refine dM (gA (hx L s σ H (λv H1=>∃ρ1 B d,LR X.K ρ1 H1 σ l/\SR X.K ρ1 H1 B/\dD X.K ρ1 H1 v d/\aU X.K ρ1 H1 (bnd (ca l) (λds=>pS W d ds) B) λd _ ρ' H'=>∀v,dD X.K ρ' H' v d->Q v H') I
  ⟨ρ,l,st,lr,sr,p.bnd.imp λd B ρ1 H1 x1 s1 p1 v rv=>⟨ρ1,B,d,lr.mono x1,s1,rv,p1⟩⟩) λu s1 ⟨v,H1,I1,r,ρ1,B,d,lr1,sr1,rv,p1⟩=>?_)
 let hA:=ha pos L s1 σ H1 (λvs O=>∃ρ2 g ds,SR X.K ρ2 O g/\dD X.K ρ2 O v d/\bV X.K ρ2 O vs ds/\aU X.K ρ2 O (pS W d ds g) λd _ ρ' H'=>∀v,dD X.K ρ' H' v d->Q v H') I1
  ⟨ρ1,l,B,lr1,sr1,p1.bnd.imp λds g ρ2 O x2 s2 G vs rvs=>⟨ρ2,g,ds,s2,rv.mono x2,rvs,G⟩⟩
 rw[he]at hA ⊢;refine PySem.W.callWith_of (P:=λh=>∃a o fd,u=.ref a/\h.get? a=some o/\o.data=.func fd) (by show ((false||(backTo pos (starEach es X.env)).any (·.1))||false)=false;rw[hpl];rfl)
  (λh ⟨a,o,fd,eu,e1,e2⟩=>?_) (o_ (gA hA λus s2 ⟨vs,O,I2,rv2,ρ2,g,ds,J,rd,U,G⟩=>?_))
 ·subst eu;refine⟨.frame,.inl rfl,(PySem.W.Looks.ld (part:=none) e1).andThen ?_⟩;simp only[e2];exact .now
 ·unfold pS at G;cases d with
  |fn n=>
   let⟨a,rfl,H⟩:=rd.inv;cases l:g[n]? with|none=>simp only[l]at G;exact G.elim|some ob=>
    simp only[l]at G;cases ob with
    |lam e'=>
     let⟨r',I,L,v⟩:=Q3 G;let⟨ok,B⟩:=hW _ _ I;let⟨a',E,ps,b,sc,h,q,c,pm,ct,e1,e2,Y⟩:=J.at l;rw[H]at E;cases E;cases (show u=bG a from r);refine⟨⟨a,_,_,rfl,(I2.hok a _ e2).1,rfl⟩,?_⟩;refine wa (lL (ok ps b sc h q c pm ct e1 X.A X.stack s2 O a us vs Q B I2.env0 e2 Y rv2 ⟨by rw[U.length];exact L,ρ2,g,ds,J,U,v⟩) λr s' C=>?_);cases r with|error e=>exact C.elim|ok fl=>
      cases fl with|ret u=>exact I2.after C|next=>exact c_ C|brk=>exact c_ C|cont=>exact c_ C
    |clo c vd=>
     let⟨r',I,L,v⟩:=OR G;let⟨ok,B⟩:=hV _ _ I;let⟨a',E,o,fd,q,cd,cl,e1,e2,Y⟩:=J.at l;rw[H]at E;cases E;cases (show u=bG a from r);refine⟨⟨a,_,_,rfl,(I2.hok a _ e1).1,e2⟩,?_⟩;refine wa (lL (ok X.A X.stack s2 O ρ2 g n a vd ds us vs Q B I2.env0 J H l U rv2 L v) λr s' C=>?_);cases r with|error e=>exact C.elim|ok fl=>
      cases fl with|ret u=>exact I2.after C|next=>exact c_ C|brk=>exact c_ C|cont=>exact c_ C
    |_=>exact G.elim
  |_=>exact G.elim
end
theorem Ql{cells:List (Str×ak)}:∀(names:List (Str×dL))(acc:List (Str×ak)),(∀x,(x,bJ)∈names->∃c,cells.lookup x=some c)->(i6 names cells acc).map (·.1)=oX names++acc.map (·.1)
 |[],acc,_=>rfl
 | (n,k)::r,acc,h=>by
  unfold i6;rw[Ql r _ λx l=>h x (.tail _ l)];by_cases g:(k == bJ)=true
  ·obtain rfl:k=.free:=by simpa using g
   let⟨c,o⟩:=h n (.head _);rw[aJ g,o];simp[oX]
  ·rw[az g];simp[oX,g]
theorem tZ:∀(names:List (Str×dL))(acc:List (Str×ak)),p∈i6 names cells acc->(cells.lookup p.1=some p.2/\(p.1,bJ)∈names)\/p∈acc
 |[],acc,h=>.inr h
 | (n,k)::r,acc,h=>by
  unfold i6 at h;rcases tZ r _ h with q|q
  ·exact .inl ⟨q.1,.tail _ q.2⟩
  ·by_cases g:(k == bJ)=true
   ·obtain rfl:k=.free:=by simpa using g
    rw[aJ g]at q;cases e:cells.lookup n with|none=>rw[e]at q;exact .inr q|some c=>
     rw[e]at q;rcases aX.mp q with z|z
     ·subst z;exact .inl ⟨e,.head _⟩
     ·exact .inr z
   ·rw[az g]at q;exact .inr q
def oh.up(F:oh g H c):Up ρ H ρ c:=⟨⟨[],by simp⟩,λb o _ e=>F.le b o e,λb o e=>⟨o,F.le b o e,rfl⟩⟩
def oh.sr{K:ai}{st:aV}(F:oh l H c)(s:SR K ρ H st):SR K ρ c st:=⟨s.len,s.nd,λn b o h g=>og.mono (o:=o) F.up (s.ob n b o h g) λu q=>F.le b u q⟩
section
variable{st:aV}
theorem Ru(I:Inv X ac σ H s)(E:LR X.K ρ H σ l): ∀{cl:List (Str×ak)}{is:List Nat}{vd:List D},um l is=some vd->fw (λ(p:Str×ak)i=>X.N[i]?=some p.1) cl is ->(∀p∈cl,X.env.cells.lookup p.1=some p.2/\(X.env.kindOf p.1=some .cell\/X.env.kindOf p.1=some .free))->fw (λ(p:Str×ak)d=>∃o u v,s.heap.get? p.2=some o/\o.data=.cell (some u)/\RelV v u/\dD X.K ρ H v d) cl vd
 |_,_,vd,e,.nil,_=>by cases e;exact .nil
 |p::cl,i::is,vd,e,.cons r t,h=>by
  unfold um at e;cases B:l[i]? with|none=>rw[B]at e;cases e|some od=>
   cases od with|none=>rw[B]at e;cases e|some d=>
    rw[B]at e;cases C:um l is with|none=>rw[C]at e;cases e|some vr=>
     rw[C]at e;cases e;refine .cons ?_ (Ru I E C t λq U=>h q (.tail _ U));let⟨h1,g⟩:=h p (.head _);let⟨v,ev,J⟩:=E.2 i d B;let⟨m,hn,hl⟩:=I.loc;let Q:Fk X.env.scope p.1:=.inr g;let⟨u,L,O⟩:=hl i p.1 v r ev Q;rcases O with ⟨z,_⟩|⟨_,c,G,o,Y,hd⟩
     ·rcases g with g|g<;>(rw[g]at z;cases z)
     ·rw[h1]at G;cases G;exact⟨o,u,v,Y,hd,L,J⟩
open Classical in
def R6{k n:Nat}{vd ds:List D}{Q:VK}(I:Inv X ac σ H s)(F:mX X.prog X.w X.K X.mg X.base rm k f fdG ps (nh X.K n g)) (hr:iJ k X.A) (B:Binds X.K fdG ps []) (x0:Ex ρ0 H0 (ρ++[a]) H) (sr:SR X.K ρ H st) (na:a∉ρ) (lr:LR X.K ρ H σ l) (ha:H a=some (.frz ob (.own a))) (hd:ob.data=.func fd) (hf:Dg c fd q cd cl) (hcd:pT H cd q)(hcl:cl.map (·.1)=oX fd.scope.names) (hnn:(cl.map (·.1)).Nodup) (L:∀p∈cl,X.env.cells.lookup p.1=some p.2/\(X.env.kindOf p.1=some .cell\/X.env.kindOf p.1=some .free)/\X.fn p.1=true) (hcap:fw (λ(p:Str×ak)i=>X.N[i]?=some p.1) cl is) (hv:um l is=some vd)(hn:ds.length+1=n) (rs:bV X.K ρ H Y ds) (rv:cj Y O) (p:aU X.K ρ0 H0 (callC g c vd ds st) λd _ ρ' E=>∀v,dD X.K ρ' E v d->Q v E):aH (aY X.prog X.w) X.A (call (.ref f) (O++[.ref a])) (EP X ac σ Q) X.xe s:=by
 let cells:=Ru I lr hv hcap λp J=>⟨(L p J).1,(L p J).2.1⟩
 obtain⟨U,ecs⟩:∃U,U=cl.map (·.2):=⟨_,rfl⟩
 let C:∀b∈U,∃o u,s.heap.get? b=some o/\o.data=.cell (some u)/\H b=none/\X.s₀.heap.objs.size<=b/\b≠X.env.locals:=λb B=>by rw[ecs]at B;let⟨pr,J,rfl⟩:=bQ.mp B;let⟨i,hi⟩:=aN.mp J;let⟨d,_,o,u,v,f1,f2,_⟩:=J9 cells hi;let⟨h1,h2,h3⟩:=L pr J;exact⟨o,u,f1,f2,I.freeC _ _ h1,I.ok.cab _ _ h3 h1,I.cne _ _ h1⟩
 obtain⟨E,eH⟩:∃E:Hp,E=λb=>if b∈U then (s.heap.get? b).map (λo=>HO.frz o (.frz o (.own b))) else H b:=⟨_,rfl⟩
 let eI:∀b o,b∈U->s.heap.get? b=some o->E b=some (.frz o (.frz o (.own b))):=λb o B e=>by rw[eH];dsimp only;rw[aJ B,e];rfl
 let G:oh U H E:=⟨λb B=>by rw[eH];exact az B,λb B=>let ⟨_,_,_,_,z,_⟩:=C b B;z,λb B=>by let⟨o,u,e,d,_⟩:=C b B;exact⟨_,eI b o B e,o,_,rfl,d⟩⟩
 let hc:∀b∈U,∀o u,E b=some (.frz o u)->s.heap.get? b=some o:=λb B o u e=>by let⟨o',u',e',_⟩:=C b B;rw[eI b o' B e']at e;cases e;exact e'
 let e0:=Y7 I G hc λb B=>let ⟨_,_,_,_,_,z1,z2⟩:=C b B;⟨z1,z2⟩
 let nd:(cl.map (·.2)).Nodup:=by refine List.pairwise_iff_getElem.mpr λi j hi hj hij z=>?_;rw[lJ,lJ]at z;rw[ag]at hi hj;let h1:=(L _ (a_ hi)).1;let h2:=(L _ (a_ hj)).1;rw[z]at h1;let h3:=I.ok.inj _ _ _ h1 h2;have:=(List.pairwise_iff_getElem.mp hnn) i j (by rw[ag];exact hi) (by rw[ag];exact hj) hij;rw[lJ,lJ]at this;exact this h3
 let sr':SR X.K (ρ++[a]) E (st++[.clo c vd]):=(G.sr sr).keepO na ⟨ob,fd,q,cd,cl,G.le _ _ ha,hd,hf,hcd.up (ρ:=ρ) (ρ1:=ρ) G.up,⟨nd,hcl⟩,by
  have:∀{cl:List (Str×ak)}{vd:List D},(∀p∈cl,p.2∈U)->fw (λ(p:Str×ak)d=>∃o u v,s.heap.get? p.2=some o/\o.data=.cell (some u)/\RelV v u/\dD X.K ρ H v d) cl vd->fw (tR X.K ρ E) cl vd:=by
   intro cl vd hm J
   induction J with|nil=>exact .nil|cons r t ih=>
    refine .cons ?_ (ih λp J=>hm p (.tail _ J));let⟨o,u,v,h1,h2,h3,h4⟩:=r;exact⟨o,u,v,eI _ _ (hm _ (.head _)) h1,h2,h3,h4.up G.up⟩
  exact this (λp J=>by rw[ecs];exact i5 J) cells⟩
 let rs':bV X.K (ρ++[a]) E (Y++[.ref a]) (ds++[.fn st.length]):=bV.app ((rs.up G.up).up Up.grow) (.cons (.fn (by rw[<- sr.len];simp)) .nil);let rv':cj (Y++[.ref a]) (O++[.ref a]):=by
  have:∀{Y:List V}{O:List ah},cj Y O->cj (Y++[.ref a]) (O++[.ref a]):=by
   intro Y O h
   induction h with|nil=>exact .cons rfl .nil|cons r t ih=>exact .cons r ih
  exact this rv
 unfold callC at p;cases eg:g (ds++[.fn st.length]) (st++[.clo c vd]) with|exc _ _=>rw[eg]at p;exact p.elim|bad=>rw[eg]at p;exact p.elim|ok r st2=>
  rw[eg]at p;dsimp only at p;by_cases hm:st.length < st2.length/\∀m:Nat,m < st.length->st2[m]?=st[m]?\/∃o:MO,st2[m]?=some o/\nW o=false
  ·rw[aJ hm]at p;let Q:nh X.K n g (Y++[V.ref a]) E (λv h=>∃ρ1,SR X.K ρ1 h st2/\Ex (ρ++[a]) E ρ1 h/\dD X.K ρ1 h v r) E0:=⟨by rw[rs'.length,aB];exact hn,ρ++[a],_,_,sr',rs',by rw[eg];exact λρ1 h H L v rv=>⟨ρ1,L,H,rv⟩⟩
   let hl:((O++[bG a])++[]).length=ps.length:=by rw[bB,<- rv'.length];exact F.len _ _ _ _ Q
   let q:=B s (O++[.ref a]) I.kIn hl;rw[bB]at q;refine wa (lL (F.run X.A X.stack s E ⟨O++[.ref a],[]⟩ _ _ _ E0 hr e0 q rv' Q) λr' s' l=>?_);cases r' with|error e=>exact l.elim|ok fl=>
    cases fl with
    |ret u=>
     let⟨v,h,r1,⟨ρ1,L,H,rr⟩,fz,inv⟩:=UQ I G hc l;obtain⟨c,C⟩:∃c:Hp,c=λb=>if b∈U then none else h b:=⟨_,rfl⟩
     let J:oh U c h:=⟨λb B=>by rw[C];exact (az B).symm,λb B=>by rw[C];exact aJ B,λb B=>by rw[fz b B];exact G.new b B⟩
     let s2:SR X.K ρ1 c (gO st.length st2):=SR.letgo (st:=st++[.ded]) G J H (sr.keepO (o':=.ded) na ⟨_,ha⟩) L (by simp) λm o=>by rw[av o];exact hm.2 m o
     exact⟨v,c,inv c J,r1,p ρ1 c (x0.trans (G.ex J H)) s2 v (rr.letgo J)⟩
    |next=>exact c_ l|brk=>exact c_ l|cont=>exact c_ l
  ·rw[az hm]at p;exact p.elim
end
def Ek(K:ai)(f:CA)(T:TE):TA:=λσ H Q=>∃ρ l st,LR K ρ H σ l/\SR K ρ H st/\aU K ρ H (f l st) λds _ ρ' h=>∀g,bV K ρ' h g ds->T σ h λv c=>Q (g++[v]) c
theorem Pk:∀{g:List V}{h:List ah},cj (g++[v]) h->∃c u,h=c++[u]/\cj g c/\RelV v u
 |[],_,.cons r .nil=>⟨[],_,rfl,.nil,r⟩|_::g,_,.cons r t=>by let⟨c,u,e,o,l⟩:=Pk t;exact⟨_::c,u,by rw[e];rfl,.cons r o,l⟩
def Ex.made(c:Ex ρ v (ρ++[a]) q)(g:Ex ρ q ρ1 E)(G:a∉ρ)(B:q a=some o):Ex ρ v (ρ1++[a]) E/\a∉ρ1:=by
 let⟨τ,rfl,C⟩:=g.pre;refine⟨⟨⟨τ++[a],by rw[bz],λb J=>?_⟩,λb u k e=>g.fix b u k (c.fix b u k e),λb u n e=>g.oth b u n (c.oth b u n e),λb u e=>?_⟩,λz=>?_⟩
 ·rcases aO.mp J with z|z
  ·cases e:v b with|none=>rfl|some u=>
    let⟨u',h,_⟩:=c.knd b u e;rw[C b z]at h;cases h
  ·let⟨τ',h,L⟩:=c.pre;obtain rfl:=List.append_cancel_left h;exact L b z
 ·let⟨u',Q,I⟩:=c.knd b u e;let⟨l,O,H⟩:=g.knd b u' Q;exact⟨l,O,H.trans I⟩
 ·rcases aO.mp z with z|z
  ·exact G z
  ·rw[C a z]at B;cases B
section
variable{X:Cx}{ca:CA}
def Y6(h:PE X e T)(g:starEach [e] X.env=[(false,eval e X.env)]:=by rfl):PA X [e] (Ek X.K bn T):=
 (sA h vI g).of λσ H Q c=>by let⟨ρ,l,st,o,sr,p⟩:=c;exact p.ret sr [] .nil
def SW(U:SE X e fa)(O:PA X es (Ek X.K ca T))(L:starEach (e::es) X.env=(false,eval e X.env)::starEach es X.env:=by rfl):PA X (e::es) (Ek X.K (aw fa ca) T):=
 (sA U O L).of λσ H Q c=>by let⟨ρ,l,st,o,sr,p⟩:=c;exact⟨ρ,l,st,o,sr,p.bnd.imp λd g ρ1 H1 u E J v G=>⟨ρ1,l,g,o.mono u,E,J.bnd.imp λds B ρ2 H2 q C I Y h=>I.ret C _ (.cons (G.mono q) h)⟩⟩
structure ur(X:Cx)(names:List (Str×dL))(is:List Nat):Prop where
 cel:∀x,(x,bJ)∈names->(X.env.kindOf x=some .cell\/X.env.kindOf x=some .free)/\X.fn x=true
 nd:(oX names).Nodup
 ix:fw (λ(x:Str)i=>X.N[i]?=some x) (oX names) is
theorem ur.cl(h:ur X names is)(ok:X.Ok): ∃cl,i6 names X.env.cells []=cl/\cl.map (·.1)=oX names/\(cl.map (·.1)).Nodup /\(∀p∈cl,X.env.cells.lookup p.1=some p.2/\(X.env.kindOf p.1=some .cell\/X.env.kindOf p.1=some .free)/\X.fn p.1=true)/\fw (λ(p:Str×ak)i=>X.N[i]?=some p.1) cl is:=by
 let g:(i6 names X.env.cells []).map (·.1)=oX names:=by rw[Ql names [] λx l=>ok.has x (h.cel x l).1];simp
 refine⟨_,rfl,g,by rw[g];exact h.nd,λp o=>?_,?_⟩
 ·rcases tZ names [] o with ⟨a,b⟩|z
  ·exact⟨a,h.cel _ b⟩
  ·cases z
 ·let : ∀(cl : List (Str×ak))(fr : List Str)(is : List Nat), cl.map (·.1) = fr -> fw (λ(x : Str)i => X.N[i]? = some x) fr is -> fw (λ(p : Str×ak)i => X.N[i]? = some p.1) cl is := by
    intro cl
    induction cl with
    |nil=>intro fr is e p;subst e;cases p;exact .nil
    |cons c cl ih=>intro fr is e p;subst e;cases p with|cons r t=>exact .cons r (ih _ _ rfl t)
  exact this _ _ _ g h.ix
def B7(K:ai)(g:List D->M D)(c:lF)(q:Str)(cl:List (Str×ak))(is:List Nat)(i:Nat)(ca:CA):TE:=λσ h Q=>∃ρ H0 l st a ob fd cd vd,Ex ρ H0 (ρ++[a]) h/\a∉ρ/\SR K ρ h st/\LR K ρ h σ l/\σ[i]?=some (some (.ref a))/\h a=some (.frz ob (.own a))/\ob.data=.func fd /\
 Dg c fd q cd cl/\pT h cd q/\cl.map (·.1)=oX fd.scope.names/\um l is=some vd/\aU K ρ H0 (bnd (ca l) (λds=>callC g c vd ds) st) λd _ ρ' o=>∀v,dD K ρ' o v d->Q v o
def Vs{k n i:Nat}{cl:List (Str×ak)}(F:mX X.prog X.w X.K X.mg X.base rm k f H ps (nh X.K n g))(hr:iJ k X.A)(hg:Gl X x)(hm:X.mg x=some (.ref f))(hk:di X.K (.ref f)=true) (hb:Binds X.K H ps []) (ha:PA X (e::es) (Ek X.K ca (zy i))) (hn:∀l st ds O,ca l st=.ok ds O->ds.length+1=n)(hnn:(cl.map (·.1)).Nodup) (hce:∀p∈cl,X.env.cells.lookup p.1=some p.2/\(X.env.kindOf p.1=some .cell\/X.env.kindOf p.1=some .free)/\X.fn p.1=true) (G:fw (λ(p:Str×ak)i=>X.N[i]?=some p.1) cl is)(hdb:(x == ("__debug__":Str))=false:=by decide) (he:starEach (e::es) X.env=(false,eval e X.env)::starEach es X.env:=by rfl) (hpl:(backTo pos (starEach es X.env)).any (·.1)=false:=by rfl):
  PE X (.Call (.Name x p) (e::es) [] pos) (B7 X.K g c q cl is i ca):=by
 intro C s σ Hm Q I h;let⟨ρ,H0,l,st,a,ob,fd,cd,vd,x0,na,sr,lr,hσ,E,hod,hfd,hcd,hfr,hv,o⟩:=h;unfold bnd at o;cases J:ca l st with|bad=>rw[J]at o;exact o.elim|exc _ _=>rw[J]at o;exact o.elim|ok ds a7=>
  rw[J]at o;refine dM (QJ I hg hm ?_ hdb);refine wc (h₀:=X.base) I.ok.mod.kin hk (gA (ha pos C s σ Hm (λzs L=>∃ρ1 B,zs=B++[.ref a]/\Ex ρ Hm ρ1 L/\SR X.K ρ1 L a7/\bV X.K ρ1 L B ds) I ⟨ρ,l,st,lr,sr,?_⟩) λus s1 ⟨zs,L,I2,rv,ρ1,B,e1,v,U,rs⟩=>⟨I2.kIn,?_⟩) he hpl
  ·rw[J];exact λρ1 c v s1 B Y=>⟨_,hσ,ρ1,B,rfl,v,s1,Y⟩
  ·subst e1;let⟨l,u,rfl,c,q⟩:=Pk rv;obtain rfl:u=bG a:=q;let⟨h,g⟩:=x0.made v na E;exact R6 I2 F hr hb h U g (lr.mono v) (v.fix _ _ rfl E) hod hfd (hcd.up v.up) hfr hnn hce G hv (hn _ _ _ _ J) rs c o
def LR.forget{K:ai}{i:Nat}(h:LR K ρ H σ l):LR K ρ H (σ.set i (some v)) (l.set i none):=by
 refine⟨by rw[du,du];exact h.1,λj d e=>?_⟩;by_cases c:i=j
 ·subst c;rw[List.getElem?_set]at e;rw[aJ rfl]at e;split at e<;>cases e
 ·rw[aA c]at e;let⟨u,g,r⟩:=h.2 j d e;exact⟨u,by rw[aA c];exact g,r⟩
def Ub{k n i j:Nat}{id:String}{pa:iM}{sc:dB}(L:C9 X y)(hN:X.N.Nodup)(hi:X.N[i]?=some w)(hkw:X.env.kindOf w=some .local)(hd0:pa.defaults=[]) (hk0:pa.kw_defaults=[]) (hann:annTrees pa none X.env=[]) (hdr:ur X sc.names is)(F:mX X.prog X.w X.K X.mg X.base rm k f fdG ps (nh X.K n g)) (hr:iJ k X.A) (hg:Gl X x) (hm:X.mg x=some (.ref f)) (hk:di X.K (.ref f)=true) (hb:Binds X.K fdG ps []) (ha:PA X (e::es) (Ek X.K ca (zy i))) (hn:∀l st ds st',ca l st=.ok ds st'->ds.length+1=n)(hc:CallR X (.builtin id) (λxs H Q=>∃v,xs=[v]/\xY X.K u v H Q)) (hbg:Gl X bx) (hbm:X.mg bx=none) (hbv:dg bx=some (.builtin id)) (hbn:bx≠"__name__":=by decide) (hbdb:(bx == ("__debug__":Str))=false:=by decide)
  (hdb:(x == ("__debug__":Str))=false:=by decide) (he:starEach (e::es) X.env=(false,eval e X.env)::starEach es X.env:=by rfl) (hpl:(backTo pos (starEach es X.env)).any (·.1)=false:=by rfl):
  xr X [.FunctionDef w pa B [] none [] sc none w h,.Return (some (.Call (.Name bx bp) [.Call (.Name x p) (e::es) [] pos] [] U)) O] (dQ (c1 u (py j y w g (.dfn (.FunctionDef w pa B [] none [] sc none w h)) is i ca))):=by
 intro ac s σ H D I Y;let⟨ρ,l,st,lr,sr,pp⟩:=Y;let⟨cl,ecl,c1',c2',c3,c4⟩:=hdr.cl I.ok;let⟨f',o,fd,c,P,l1,l2,l3,l4,l5,l6,l7,l8⟩:=L;let hcl:nQ sc X.env=pure cl:=by rw[JT λz hz=>I.ok.has z (hdr.cel z hz).1,ecl]
 let E:=pp.bnd.bnd;unfold py at E;cases ej:st[j]? with|none=>simp only[ej]at E;exact E.elim|some oj=>
  cases oj with
  |tbl y' w'=>
   cases ev:um (l.set i none) is with|none=>simp only[ej,ev]at E;exact E.elim|some vd=>
    simp only[ej,ev]at E;by_cases hy:y'=y/\w'=w
    ·rw[aJ hy]at E;let⟨rfl,rfl⟩:=hy;let⟨P',hP',hT,Y⟩:=sr.at ej;obtain rfl:P'=P:=hT.uniq ⟨f',o,fd,c,l1,l2,l3,l4,l5⟩;let u:=I.mod.glob.keeps I.bk;let⟨L,hgP⟩:=RV l8 I Y.choose_spec.1;let hC:=pf I.kIn l5;let hq:qualnameIn X.env w' w'=xm y' w':=by unfold qualnameIn;rw[hkw,l7];rfl
     refine Ie (PySem.W.nestDef_K hd0 hk0 hann ?_);rw[hq];refine Oq (Wp:=λQ=>aH (aY X.prog X.w) X.A _ Q X.xe s) (fobj:=λcd ct C=>{ cls:=.type "function",data:=.func (rf w' (xm y' w') pa B sc cl .none .none C ((X.mg "__name__").getD .none) none cd ct) }) (pos:=h) I Y (λ_ _ _=>rfl) (λtb cv Q g ht hf k=>?_) (λtb Q g ht hf k=>?_) λa c' G C H' s' T J=>?_
     ·exact PySem.W.makeFunction_hit hcl I.ok.glob u l6 hC g ht hf L λG C h' tk hk hsz=>k G C h' tk hk hsz
     ·exact PySem.W.makeFunction_K hcl I.ok.glob u l6 hC g ht hf hgP L λc' G C h' tk q o l h c=>k c' G C h' tk q o l h c
     ·let⟨na,g,C⟩:=P4 sr hP' ej T.fresh T.tab T.keep;refine Nd (v:=.ref a) J hN hi (.inl hkw) rfl (λG J' _=>?_) (.inr hkw);let o:Ex ρ H ρ H':=⟨⟨[],by simp⟩,g.fix,g.oth,g.knd⟩
      let rest:=OI (N2 (pos:=O) (Jj (p:=bp) (pos:=U) hc hbg hbm hbv (sA (Vs (p:=p) (pos:=pos) (c:=.dfn (.FunctionDef w' pa B [] none [] sc none w' h)) (q:=xm y' w') F hr hg hm hk hb ha hn c2' c3 c4 hdb he hpl) vI rfl) hbn hbdb rfl rfl)) R0;refine rest ac G (σ.set i (some (.ref a))) H' D J' ?_;refine⟨ρ,H,l.set i none,st,a,_,_,c',vd,g,na,C,(lr.mono o).forget,?_,T.fn,rfl,⟨_,_,_,_,_,_,_,_,_,_,_,_,_,rfl,rfl⟩,T.cod,c1',ev,E.imp λd u ρ1 H1 x1 C p2 v rv=>?_⟩
      ·let hiσ:i < σ.length:=by rw[I.len];exact (ae.mp hi).1
       rw[aE hiσ]
      ·exact⟨v,rfl,ρ1,u,d,C,rv,p2.imp λh Q ρ2 l g Y c v2 L=>c.ret Y v2 L⟩
    ·rw[az hy]at E;exact E.elim
  |_=>simp only[ej]at E;exact E.elim
end
set_option genInjectivity false in
structure RF where
 n:Nat
 k:Nat
 ps:List Str
 kw:Bool
 g:List D->M D
set_option genInjectivity false in
structure RC where
 sc:dB
 N:List Str
 k:Nat
 G:List (Str×RF)
 Z:List Str
 C:List (Str×D)
 H:List (Nat×Nat×Nat)
 top:Bool
 W:WT
 T:Option (Nat×Str)
noncomputable def RC.tag(c:RC)(p:Pos)(t:Nat):Bool:=c.H.contains (p.line,p.col,t)
noncomputable def RC.glo(c:RC)(x:Str):Bool:=c.sc.names.lookup x == some .globalImplicit
noncomputable def ui(x:Str):Bool := !((x == ("__debug__":Str))||(x == ("__classdict__":Str))||decide (x=("__name__":Str)))
def Bx(h:ui x=true):su x:=X_ (by unfold ui at h;simpa only[zR] using h)
def Fx(K:ai)(c:dq)(ps:List Str):Prop:=if ps.getLast?=some (aD "most") then ∃u,RelV (.int 500) u/\Binds K c ps [u] else A8 K c ps
structure GF(P:Program)(w:bR)(K:ai)(mg:Str->Option ah)(base:bN)(x:Str)(r:RF):Prop where
 ex:∃f fd,mg x=some (.ref f)/\mX P w K mg base rm r.k f fd r.ps (nh K r.n r.g)/\di K (.ref f)=true/\Binds K fd r.ps []/\(r.kw=true->Fx K fd r.ps)
def yN(P:Program)(w:bR)(K:ai)(mg:Str->Option ah)(base:bN)(W:WT):Prop:=(∀e r,(e,r)∈W.1->sJ P w K mg base r.k r.n e r.g)/\∀c r,(c,r)∈W.2->sx P w K mg base r.k r.n c r.g
structure Good(X:Cx)(c:RC):Prop where
 S:Sc X c.sc
 N:X.N=c.N
 nd:X.N.Nodup
 hr:iJ c.k X.A
 G:∀x r,c.G.lookup x=some r->GF X.prog X.w X.K X.mg X.base x r
 Z:∀x,c.Z.contains x=true->X.mg x=none
 C:∀x d,c.C.lookup x=some d->∃v u,X.mg x=some u/\RelV v u/\∀ρ H,dD X.K ρ H v d
 ps:uC (aY X.prog X.w) X.A X.env X.xe
 kd:c.top=true->X.env.blockKind=.function/\∀x,X.env.kindOf x=c.sc.names.lookup x
 W:yN X.prog X.w X.K X.mg X.base c.W
 T:∀t,c.T=some t->C9 X t.2
def Good.hu(g:Good X c):X.A.units+60 < cN:=VA g.hr
noncomputable def rN:Expr->Bool
 | .Starred .. => false|_=>true
def rJ(h:rN e=true):starEach (e::es) env=(false,eval e env)::starEach es env:=by cases e<;>first|rfl|exact nomatch h
theorem Cv:∀{es:List Expr},es.all rN=true->(backTo pos (starEach es env)).any (·.1)=false
 |[],_=>rfl|e::es,h=>by rw[cI,br]at h;rw[rJ h.1];exact Cv h.2
theorem Ri:∀{es:List Expr},es.all rN=true->(backTo pos (starEach es env)).all (λx => !x.1)=true
 |[],_=>rfl|e::es,h=>by rw[cI,br]at h;rw[rJ h.1];exact Ri h.2
noncomputable def Na:Expr->Bool
 | .ListComp .. => false| .SetComp .. => false| .DictComp .. => false|_=>true
def OK{n:Nat}(h:Na e=true):ly e t n env=pure false:=by cases e<;>first|rfl|exact nomatch h
noncomputable def Ec:Expr->Bool
 | .Set .. => false|_=>true
def LJ(h:Ec e=true)(x:ah):fS e env x=pure x:=by cases e<;>first|rfl|exact nomatch h
def Ja(h:Ec e=true):ij op e=false:=by cases e<;>first|rfl|exact nomatch h
noncomputable def Fy:Expr->Bool
 | .Call _ [] _ _=>false|_=>true
def IZ(h:Fy e=true):dS e x env w=w:=by
 cases e with
 |Call f as ks p=>
  cases as with|nil=>exact nomatch h|cons a as=>unfold dS;cases f<;>rfl
 |_=>rfl
noncomputable def Jw:Expr->Bool
 | .Slice .. => false|_=>true
def FY(h:Jw e=true):rH e:=by intro o i;cases e<;>first|rfl|exact nomatch h
noncomputable def NC:Expr->Bool
 | .Compare .. => false| .BoolOp .. => false| .UnaryOp .. => false| .IfExp .. => false|_=>true
def WL(h:NC e=true)(w:Sem ah):PySem.isTrue e env w=(do let v <- w;zG e.pos;lK [v] (truthy v)):=by cases e<;>first|rfl|exact nomatch h
abbrev HM(c:RC)(x:Expr):={r:CE // ∀{X:Cx},Good X c->SE X x r}
abbrev Rx(c:RC)(x:Expr):={r:CA // ∀{X:Cx},Good X c->SL X x r}
abbrev NS(c:RC)(x:Expr):={r:CT // ∀{X:Cx},Good X c->ST X x r}
abbrev LF(c:RC)(tg x:Expr):={r:CI // ∀{X:Cx},Good X c->SI X tg x r}
abbrev JX(c:RC)(x:Expr):={r:CG // ∀{X:Cx},Good X c->SG X x r}
abbrev OW(c:RC)(x:Stmt):={r:CS // ∀{X:Cx},Good X c->SS X x r}
set_option genInjectivity false in
structure tV where
 e:∀(c:RC)(x:Expr),Option (HM c x)
 l:∀(c:RC)(x:Expr),Option (Rx c x)
 t:∀(c:RC)(x:Expr),Option (NS c x)
 i:∀(c:RC)(tg x:Expr),Option (LF c tg x)
 g:∀(c:RC)(x:Expr),Option (JX c x)
 s:∀(c:RC)(x:Stmt),Option (OW c x)
abbrev ma:=tV->∀(c:RC)(x:Expr),Option (HM c x)
abbrev EK:=tV->∀(c:RC)(x:Expr),Option (Rx c x)
abbrev FE:=tV->∀(c:RC)(x:Expr),Option (NS c x)
abbrev xh:=tV->∀(c:RC)(tg x:Expr),Option (LF c tg x)
abbrev IP:=tV->∀(c:RC)(x:Expr),Option (JX c x)
abbrev wz:=tV->∀(c:RC)(x:Stmt),Option (OW c x)
set_option genInjectivity false in
structure mO where
 e:List ma
 l:List EK
 t:List FE
 i:List xh
 g:List IP
 s:List wz
noncomputable def v5{α β:Type}(f:α->Option β):List α->Option β
 |[]=>none
 |a::as=>match f a with|some b=>some b|none=>v5 f as
def n8(R:mO):Nat->tV
 |0=>⟨λ_ _=>none,λ_ _=>none,λ_ _=>none,λ_ _ _=>none,λ_ _=>none,λ_ _=>none⟩
 |n+1 => ⟨λc x => v5 (λr => r (n8 R n) c x) R.e, λc x => v5 (λr => r (n8 R n) c x) R.l, λc x => v5 (λr => r (n8 R n) c x) R.t,
   λc tg x=>v5 (λr=>r (n8 R n) c tg x) R.i,λc x=>v5 (λr=>r (n8 R n) c x) R.g,λc x=>v5 (λr=>r (n8 R n) c x) R.s⟩
noncomputable def wh{α:Type}(C:Prop)[Decidable C](k:C->Option α):Option α:=if h:C then k h else none
section
variable{β:Type}
section
variable{α:Type}(e:List α)
noncomputable def v0(k:e=[]->Option β):Option β:=match e,k with|[],k=>k rfl|_,_=>none
noncomputable def vC(k:∀a c,e=a::c->Option β):Option β:=match e,k with|a::c,k=>k a c rfl|_,_=>none
def v1(k:∀a,e=[a]->Option β):Option β:=vC e λa g h=>v0 g λc=>k a (c ▸ h)
def v2(k:∀a b,e=[a,b]->Option β):Option β:=vC e λa g h=>v1 g λb c=>k a b (c ▸ h)
end
section
variable{α:Type}(e:Option α)
noncomputable def oN(k:e=none->Option β):Option β:=match e,k with|none,k=>k rfl|_,_=>none
noncomputable def oS(k:∀a,e=some a->Option β):Option β:=match e,k with|some a,k=>k a rfl|_,_=>none
end
section
variable(e:Expr)
noncomputable def BG(k:∀x p,e=.Name x p->Option β):Option β:=match e,k with| .Name x p,k=>k x p rfl|_,_=>none
noncomputable def L8(k:∀f c ks p,e=.Call f c ks p->Option β):Option β:=match e,k with| .Call f c ks p,k=>k f c ks p rfl|_,_=>none
noncomputable def vAt(k:∀o x p,e=.Attribute o x p->Option β):Option β:=match e,k with| .Attribute o x p,k=>k o x p rfl|_,_=>none
noncomputable def Df(k:∀a b p,e=.Subscript a b p->Option β):Option β:=match e,k with| .Subscript a b p,k=>k a b p rfl|_,_=>none
noncomputable def QU(k:∀v n p,e=.Constant v n p->Option β):Option β:=match e,k with| .Constant v n p,k=>k v n p rfl|_,_=>none
noncomputable def TJ(k:∀a o b p,e=.BinOp a o b p->Option β):Option β:=match e,k with| .BinOp a o b p,k=>k a o b p rfl|_,_=>none
noncomputable def Z0(k:∀a os bs p,e=.Compare a os bs p->Option β):Option β:=match e,k with| .Compare a os bs p,k=>k a os bs p rfl|_,_=>none
noncomputable def PF(k:∀o es p,e=.BoolOp o es p->Option β):Option β:=match e,k with| .BoolOp o es p,k=>k o es p rfl|_,_=>none
noncomputable def Jk(k:∀o a p,e=.UnaryOp o a p->Option β):Option β:=match e,k with| .UnaryOp o a p,k=>k o a p rfl|_,_=>none
noncomputable def VN(k:∀t a b p,e=.IfExp t a b p->Option β):Option β:=match e,k with| .IfExp t a b p,k=>k t a b p rfl|_,_=>none
noncomputable def IK(k:∀es n p,e=.Tuple es n p->Option β):Option β:=match e,k with| .Tuple es n p,k=>k es n p rfl|_,_=>none
noncomputable def WO(k:∀es p,e=.List es p->Option β):Option β:=match e,k with| .List es p,k=>k es p rfl|_,_=>none
noncomputable def Qr(k:∀ks c p,e=.Dict ks c p->Option β):Option β:=match e,k with| .Dict ks c p,k=>k ks c p rfl|_,_=>none
noncomputable def Rz(k:∀a b s p,e=.Slice a b s p->Option β):Option β:=match e,k with| .Slice a b s p,k=>k a b s p rfl|_,_=>none
noncomputable def X0(k:∀x c sc p,e=.ListComp x c sc p->Option β):Option β:=match e,k with| .ListComp x c sc p,k=>k x c sc p rfl|_,_=>none
def D_(k:∀x p c q,e=.Call (.Name x p) c [] q->Option β):Option β:=L8 e λf c ks q h=>BG f λx p l=>v0 ks λg=>k x p c q (l ▸ g ▸ h)
def Cu(k:∀x p a q,e=.Call (.Name x p) [a] [] q->Option β):Option β:=D_ e λx p g q h=>v1 g λa c=>k x p a q (c ▸ h)
def Mh(k:∀x p a b q,e=.Call (.Name x p) [a,b] [] q->Option β):Option β:=D_ e λx p g q h=>v2 g λa b c=>k x p a b q (c ▸ h)
def Yq(k:∀x p y r a q c,e=.Call (.Name x p) [.Call (.Name y r) [a] [] q] [] c->Option β):Option β:=Cu e λx p b c h=>Cu b λy r a q g=>k x p y r a q c (g ▸ h)
def vM(k:∀o x p c q,e=.Call (.Attribute o x p) c [] q->Option β):Option β:=L8 e λf c ks q h=>vAt f λo x p l=>v0 ks λg=>k o x p c q (l ▸ g ▸ h)
def R3(k:∀a o b p,e=.Compare a [o] [b] p->Option β):Option β:=Z0 e λa os bs p h=>v1 os λo g=>v1 bs λb c=>k a o b p (g ▸ c ▸ h)
def Hh(k:∀a lo c p q,e=.Subscript a (.Slice lo c none p) q->Option β):Option β:=Df e λa b q h=>Rz b λlo c s p l=>oN s λg=>k a lo c p q (g ▸ l ▸ h)
end
section
variable(e:Stmt)
noncomputable def uAs(k:∀ts a p,e=.Assign ts a p->Option β):Option β:=match e,k with| .Assign ts a p,k=>k ts a p rfl|_,_=>none
noncomputable def RA(k:∀t o a p,e=.AugAssign t o a p->Option β):Option β:=match e,k with| .AugAssign t o a p,k=>k t o a p rfl|_,_=>none
noncomputable def MB(k:∀o p,e=.Return o p->Option β):Option β:=match e,k with| .Return o p,k=>k o p rfl|_,_=>none
noncomputable def uEx(k:∀a p,e=.Expr a p->Option β):Option β:=match e,k with| .Expr a p,k=>k a p rfl|_,_=>none
noncomputable def uIf(k:∀t a b p,e=.If t a b p->Option β):Option β:=match e,k with| .If t a b p,k=>k t a b p rfl|_,_=>none
noncomputable def uWh(k:∀t a b p,e=.While t a b p->Option β):Option β:=match e,k with| .While t a b p,k=>k t a b p rfl|_,_=>none
noncomputable def Vl(k:∀t i a b p,e=.For t i a b p->Option β):Option β:=match e,k with| .For t i a b p,k=>k t i a b p rfl|_,_=>none
noncomputable def VF(k:∀a b p,e=.Raise a b p->Option β):Option β:=match e,k with| .Raise a b p,k=>k a b p rfl|_,_=>none
def IL(k:∀t a p,e=.Assign [t] a p->Option β):Option β:=uAs e λts a p h=>v1 ts λt c=>k t a p (c ▸ h)
end
end
abbrev Zm(c:RC)(es:List Expr):={r:CA // (∀{X:Cx},Good X c->SA X es r)/\es.all rN=true/\∀l st ds g,r l st=.ok ds g->ds.length=es.length}
def xp(q:tV)(c:RC):∀es:List Expr,Option (Zm c es)
 |[]=>some ⟨bn,λ_=>OF,rfl,Us⟩|e::es=>wh (rN e=true) λh=>(q.e c e).bind λf=>(xp q c es).bind λr=>some ⟨aw f.1 r.1,λg=>OQ (f.2 g) (r.2.1 g) (rJ h),by rw[cI,h,r.2.2.1];rfl,UJ r.2.2.2⟩
abbrev Xz(c:RC)(e:Option Expr):={r:CO // ∀{X:Cx},Good X c->SO X e r}
def AQ(q:tV)(c:RC):∀e:Option Expr,Option (Xz c e)
 |none=>some ⟨vh,λ_=>YY⟩|some e=>(q.e c e).bind λf=>some ⟨qU f.1,λg=>U1 (f.2 g)⟩
abbrev Hk(c:RC)(g:List Stmt):={r:CS // ∀{X:Cx},Good X c->xr X g r}
def pA(q:tV)(c:RC):∀h:List Stmt,Option (Hk c h)
 |[]=>some ⟨aW,λ_=>TZ⟩|s::h=>(q.s c s).bind λa=>(pA q c h).bind λb=>some ⟨aP a.1 b.1,λg=>XC (a.2 g) (b.2 g)⟩
def EO(c:RC)(x:Str):Option {i:Nat // c.N[i]?=some x/\(c.sc.names.lookup x=some .local\/c.sc.names.lookup x=some .cell\/c.sc.names.lookup x=some .free)/\ui x=true}:=wh _ λh=>some ⟨c.N.idxOf x,h⟩
def QR{i:Nat}(g:Good X c)(h:c.N[i]?=some x/\(c.sc.names.lookup x=some .local\/c.sc.names.lookup x=some .cell\/c.sc.names.lookup x=some .free)/\ui x=true):SE X (.Name x p) (ao i):=by
 let⟨o,l,q⟩:=h;rw[<- g.N]at o;rcases l with l|l|l
 ·exact Li g.S _ o l (Bx q) (.inl rfl)
 ·exact Li g.S _ o l (Bx q) (.inr (.inl rfl))
 ·exact Li g.S _ o l (Bx q) (.inr (.inr rfl))
def LP:ma:=λ_ c e=>BG e λx _ h=>(EO c x).bind λi=>some ⟨ao i.1,λg=>h ▸ QR g i.2⟩
def JF{α:Type}(l:List (Str × α))(x:Str):Option {a:α // l.lookup x=some a}:=oS (l.lookup x) λa h=>some ⟨a,h⟩
noncomputable def HL:Const->Option D
 | .int i=>some (.int i)| .str i=>some (.str i)| .bool i=>some (.bl i)| .none=>some .non|_=>none
def Uf{n:Nat}(h:HL v=some d):SE X (.Constant v n p) (aQ d):=by
 cases v<;>cases h
 ·exact UN
 ·exact VR
 ·exact Zz
 ·exact Qdu
def UL{α:Type}(o:Option α):Option {a:α // o=some a}:=oS o λa h=>some ⟨a,h⟩
def KS:ma:=λ_ _ e=>QU e λv _ _ h=>(UL (HL v)).bind λd=>some ⟨aQ d.1,λ_=>h ▸ Uf d.2⟩
def Gs:ma:=λq c e=>(q.l c e).bind λa=>some ⟨eK a.1,λg=>Zb (a.2 g)⟩
abbrev OpU(op:qG)(f:D->D->M D):Prop:=∀{X:Cx},X.A.units+60 < cN->OpR X (fP op) (qz X.K f)
abbrev Qw(op:uO)(f:D->D->M D):Prop:=∀{X:Cx},X.A.units+60 < cN->OpR X (cS op) (qz X.K f)
def Eg(o:qG)(f:D->D->M D)(h:OpU o f):ma:=λq c e=>TJ e λa op b _ v=>wh (op=o) λz=>(q.e c a).bind λu=>(q.e c b).bind λl=>some ⟨c2 f u.1 l.1,λg=>v ▸ z ▸ ZR (h g.hu) (u.2 g) (l.2 g)⟩
abbrev SU(c:RC)(x:Expr):={r:CE // ∀{X:Cx},Good X c->SE X x r/\ST X x (cV r)}
abbrev uc:=tV->∀(c:RC)(x:Expr),Option (SU c x)
noncomputable def uc.e(r:uc):ma:=λq c x=>(r q c x).bind λf=>some ⟨f.1,λg=>(f.2 g).1⟩
def uc.t(r:uc):FE:=λq c x=>(r q c x).bind λf=>some ⟨cV f.1,λg=>(f.2 g).2⟩
def sX(o:uO)(f:D->D->M D)(h:Qw o f):uc:=λq c e=>R3 e λa op b _ v=>wh (op=o/\Ec b=true) λz=>(q.e c a).bind λu=>(q.e c b).bind λl=>some ⟨c2 f u.1 l.1,λg=>v ▸ z.1 ▸ ⟨YH (h g.hu) (u.2 g) (l.2 g) (Ja z.2),UT (h g.hu) (u.2 g) (l.2 g) (Ja z.2)⟩⟩
def BF(t:Nat)(o:uO)(f:D->D->M D)(h:Qw o f):uc:=λq c e=>wh (c.tag e.pos t=true) λ_=>sX o f h q c e
def CW:uc:=λq c e=>R3 e λa op b _ h=>wh (op=.In/\Ec b=true) λz=>(q.l c b).bind λl=>(q.e c a).bind λo=>some ⟨pC yA o.1 l.1,λg=>by subst h;let⟨rfl,z⟩:=z;exact⟨WY (o.2 g) (l.2 g) (Ja z),Sq (o.2 g) (l.2 g) (Ja z)⟩⟩
def Hi(q:tV)(c:RC)(p:Pos):∀es:List Expr,Option (HM c (.BoolOp .And es p))
 |[a]=>(q.e c a).bind λh=>some ⟨h.1,λg=>QF (h.2 g)⟩|a::b::r=>(q.e c a).bind λh=>(Hi q c p (b::r)).bind λl=>some ⟨ve h.1 l.1,λg=>UO (h.2 g) (l.2 g)⟩|_=>none
def Rp(q:tV)(c:RC)(p:Pos):∀es:List Expr,Option (HM c (.BoolOp .Or es p))
 |[a]=>(q.e c a).bind λh=>some ⟨h.1,λg=>QF (h.2 g)⟩|a::b::r=>(q.e c a).bind λh=>(Rp q c p (b::r)).bind λl=>some ⟨D2 h.1 l.1,λg=>QeJ (h.2 g) (l.2 g)⟩|_=>none
def Nl:ma:=λq c e=>PF e λo es p h=>match o,h with| .And,h=>(Hi q c p es).bind λf=>some ⟨f.1,λg=>h ▸ f.2 g⟩| .Or,h=>(Rp q c p es).bind λf=>some ⟨f.1,λg=>h ▸ f.2 g⟩
def JZ:ma:=λq c e=>Jk e λo a _ h=>wh (o=.USub) λz=>(q.e c a).bind λl=>some ⟨c1 s_ l.1,λg=>h ▸ z ▸ Vh Zv (l.2 g)⟩
def Mp:ma:=λq c e=>VN e λt a b _ h=>(q.t c t).bind λl=>(q.e c a).bind λu=>(q.e c b).bind λo=>some ⟨xi l.1 u.1 o.1,λg=>h ▸ QeK (l.2 g) (u.2 g) (o.2 g)⟩
def J7:ma:=λq c e=>IK e λes _ _ h=>(xp q c es).bind λl=>some ⟨eE l.1,λg=>h ▸ V0 (l.2.1 g)⟩
def AZ:ma:=λq c e=>Hh e λa lo v _ p h=>wh (c.tag p 1=true) λ_=>(q.e c a).bind λu=>(AQ q c lo).bind λl=>(AQ q c v).bind λo=>some ⟨oO u.1 l.1 o.1,λg=>h ▸ Wm (u.2 g) (l.2 g) (o.2 g)⟩
def AA:ma:=λq c e=>Df e λa b _ h=>wh (Jw b=true) λz=>(q.l c a).bind λo=>(q.e c b).bind λl=>some ⟨nI o.1 l.1,λg=>h ▸ Ve (o.2 g) (l.2 g) (FY z)⟩
def Hb:ma:=λq c e=>Df e λa b _ h=>wh (Jw b=true) λz=>(q.e c a).bind λo=>(q.e c b).bind λl=>some ⟨c2 aZ o.1 l.1,λg=>h ▸ Z2 g.hu (o.2 g) (l.2 g) (FY z)⟩
theorem ZX:∀{b:Bool},SE X (.Dict [] [] p) (so b)
 |false=>YR|true=>QgV
def HB:ma:=λ_ c e=>Qr e λks g p h=>v0 ks λo=>v0 g λl=>some ⟨so (c.tag p 2),λ_=>h ▸ o ▸ l ▸ ZX⟩
def E3(x:String)(f:CE->CE)(h:∀{X:Cx}{o:Expr}{v:CE}{u l:Pos},SE X o v->dS o (aD x) X.env (eval o X.env)=eval o X.env->(u.endLine == l.line)=true->SE X (.Call (.Attribute o (aD x) u) [] [] l) (f v)):ma:=
 λq c e=>vM e λo y H G E C=>v0 G λB=>wh (y=aD x/\Fy o=true/\(H.endLine == E.line)=true) λz=>(q.e c o).bind λv=>some ⟨f v.1,λg=>by subst C B;exact z.1 ▸ h (v.2 g) (IZ z.2.1) z.2.2⟩
noncomputable abbrev Jb(X:Cx)(c:Pos)(es:List Expr):Prop:=((backTo c (starEach es X.env)).all (λx => !x.1)&&(o9 c (lA [] X.env)).all (λx=>x.1.isSome)&&decide (es.length+([]:List iD).length+(if ([]:List iD).isEmpty then 0 else 1) < 30))=true
def EU{es:List Expr}(h:es.all rN=true)(g:es.length < 30):Jb X c es:=by unfold Jb;rw[Ri h];exact (br _ _).mpr ⟨rfl,bY g⟩
def BN(x:String)(f:CE->CE->CE)(ok:RC->Pos->Bool) (h:∀{X:Cx}{o e:Expr}{B v:CE}{u l:Pos},X.A.units+60 < cN->SE X o B->SE X e v->dS o (aD x) X.env (eval o X.env)=eval o X.env->Jb X l [e]->(u.endLine == l.line)=true ->starEach [e] X.env=(false,eval e X.env)::starEach [] X.env->(backTo l (starEach [] X.env)).any (·.1)=false->SE X (.Call (.Attribute o (aD x) u) [e] [] l) (f B v)):ma:=
 λq c e=>vM e λo y O L E J=>v1 L λa I=>wh (y=aD x/\Fy o=true/\rN a=true/\ok c E=true/\(O.endLine == E.line)=true) λz=>(q.e c o).bind λB=>(q.e c a).bind λv=>some ⟨f B.1 v.1,λg=>by subst J I;let⟨rfl,H,C,_,G⟩:=z;exact h g.hu (B.2 g) (v.2 g) (IZ H) (EU (by rw[cI,C];rfl) (wX rfl)) G (rJ C) rfl⟩
def BD(x:String)(f:CE->CE->CE->CE) (h:∀{X:Cx}{o H u:Expr}{G E C:CE}{v l:Pos},X.A.units+60 < cN->SE X o G->SE X H E->SE X u C->dS o (aD x) X.env (eval o X.env)=eval o X.env->Jb X l [H,u]->(v.endLine == l.line)=true ->starEach [H,u] X.env=(false,eval H X.env)::starEach [u] X.env->starEach [u] X.env=(false,eval u X.env)::starEach [] X.env->(backTo l (starEach [u] X.env)).any (·.1)=false->SE X (.Call (.Attribute o (aD x) v) [H,u] [] l) (f G E C)):ma:=
 λq c e=>vM e λo y ap Y U Q=>v2 Y λa b O=>wh (y=aD x/\Fy o=true/\rN a=true/\rN b=true/\(ap.endLine == U.line)=true) λz=>(q.e c o).bind λG=>(q.e c a).bind λE=>(q.e c b).bind λC=>some ⟨f G.1 E.1 C.1,λg=>by subst Q O;let⟨rfl,L,I,B,J⟩:=z;exact h g.hu (G.2 g) (E.2 g) (C.2 g) (IZ L) (EU (by rw[cI,I,cI,B];rfl) (wX rfl)) J (rJ I) (rJ B) (Cv (by rw[cI,B];rfl))⟩
def HX:ma:=λq c e=>D_ e λx _ h _ I=>vC h λa h H=>(JF c.G x).bind λr=>wh (c.glo x=true/\ui x=true/\r.1.k<=c.k/\r.1.n=(a::h).length) λz=>(xp q c (a::h)).bind λo=>some ⟨bO r.1.g o.1,λg=>by subst I H;let⟨G,E,C,v⟩:=z;let⟨f,J,m,F,u,B,_⟩:=(g.G _ _ r.2).ex;let⟨x,y,l⟩:=o.2;rw[cI,br]at y;exact Uk g.S (beq_iff_eq.mp G) F (g.hr.mono C) m u B (Bx E) (x g) (by rw[v];exact l) (rJ y.1) (Cv y.2)⟩
def RC.bl(c:RC)(x:Str):Bool:=c.glo x&&c.Z.contains x
def Good.gl(g:Good X c)(h:c.bl x=true):Gl X x/\X.mg x=none:=by unfold RC.bl at h;rw[br]at h;exact⟨g.S.glo _ (beq_iff_eq.mp h.1),g.Z _ h.2⟩
def r6(x:String)(ok:RC->Pos->Bool)(f:List D->M D)(h:∀{X:Cx}{e:Expr}{u:CA}{p pos:Pos},X.calm=true->X.A.units+60 < cN->Gl X (aD x)->X.mg (aD x)=none->SL X e u->starEach [e] X.env=[(false,eval e X.env)]->SE X (.Call (.Name (aD x) p) [e] [] pos) (i_ f u)):ma:=
 λq c e=>Cu e λy _ a p e=>wh (y=aD x/\c.bl y=true/\rN a=true/\ok c p=true) λz=>(q.l c a).bind λo=>some ⟨i_ f o.1,λg=>by subst e;let⟨rfl,l,v,_⟩:=z;exact h g.S.calm g.hu (g.gl l).1 (g.gl l).2 (o.2 g) (rJ v)⟩
def v9(x:String)(ok:RC->Pos->Bool)(f:D->M D)(h:∀{X:Cx}{e:Expr}{l:CE}{p pos:Pos},X.calm=true->X.A.units+60 < cN->Gl X (aD x)->X.mg (aD x)=none->SE X e l->starEach [e] X.env=[(false,eval e X.env)]->SE X (.Call (.Name (aD x) p) [e] [] pos) (c1 f l)):ma:=
 λq c e=>Cu e λy _ a p e=>wh (y=aD x/\c.bl y=true/\rN a=true/\ok c p=true) λz=>(q.e c a).bind λl=>some ⟨c1 f l.1,λg=>by subst e;let⟨rfl,o,u,_⟩:=z;exact h g.S.calm g.hu (g.gl o).1 (g.gl o).2 (l.2 g) (rJ u)⟩
def Ku(x:String)(ok:RC->Pos->Bool)(f:D->D->M D) (h:∀{X:Cx}{a b:Expr}{u o:CE}{p pos:Pos},X.calm=true->X.A.units+60 < cN->Gl X (aD x)->X.mg (aD x)=none->SE X a u->SE X b o->starEach [a,b] X.env=(false,eval a X.env)::starEach [b] X.env->starEach [b] X.env=(false,eval b X.env)::starEach [] X.env ->(backTo pos (starEach [b] X.env)).any (·.1)=false->SE X (.Call (.Name (aD x) p) [a,b] [] pos) (c2 f u o)):ma:=
 λq c e=>Mh e λy _ a b p e=>wh (y=aD x/\c.bl y=true/\rN a=true/\rN b=true/\ok c p=true) λz=>(q.e c a).bind λu=>(q.e c b).bind λo=>some ⟨c2 f u.1 o.1,λg=>by subst e;let⟨rfl,v,B,l,_⟩:=z;exact h g.S.calm g.hu (g.gl v).1 (g.gl v).2 (u.2 g) (o.2 g) (rJ B) (rJ l) (Cv (by rw[cI,l];rfl))⟩
def LV(x y:String)(ok:RC->Pos->Bool)(f:D->M D)(h:∀{X:Cx}{e:Expr}{o:CE}{p E pos l:Pos},X.calm=true->X.A.units+60 < cN->Gl X (aD x)->X.mg (aD x)=none->Gl X (aD y)->X.mg (aD y)=none->SE X e o->starEach [e] X.env=[(false,eval e X.env)]->SE X (.Call (.Name (aD x) p) [.Call (.Name (aD y) E) [e] [] l] [] pos) (c1 f o)):ma:=
 λq c e=>Yq e λv _ u _ a _ p e=>wh (v=aD x/\u=aD y/\c.bl v=true/\c.bl u=true/\rN a=true/\ok c p=true) λz=>(q.e c a).bind λo=>some ⟨c1 f o.1,λg=>by subst e;let⟨rfl,rfl,C,B,G,_⟩:=z;exact h g.S.calm g.hu (g.gl C).1 (g.gl C).2 (g.gl B).1 (g.gl B).2 (o.2 g) (rJ G)⟩
section
def Nm:EK:=λq c e=>WO e λes _ h=>(xp q c es).bind λl=>some ⟨gh l.1,λg=>h ▸ WX (l.2.1 g)⟩
def EW:EK:=λq c e=>Df e λa b _ h=>Rz b λlo u s _ I=>oN lo λH=>oN u λG=>oS s λs E=>Jk s λo s _ C=>QU s λv _ _ B=>wh (o=.USub/\v=.int 1) λz=>(q.e c a).bind λl=>some ⟨u5 l.1,λg=>by subst h I H G E C B;exact z.1 ▸ z.2 ▸ Zt (l.2 g)⟩
def CV:EK:=λq c e=>Hh e λa lo v _ p h=>wh (c.tag p 1=false) λ_=>(q.e c a).bind λu=>(AQ q c lo).bind λl=>(AQ q c v).bind λo=>some ⟨sB u.1 l.1 o.1,λg=>h ▸ QfQ (u.2 g) (l.2 g) (o.2 g)⟩
noncomputable def zZ:Nat->Expr->List Str
 |_,.Name x _=>[x]|n+1,.Tuple es _ _=>es.flatMap (zZ n)|_,_=>[]
abbrev Gn(c:RC)(es:List Expr):={r:CT // ∀{X:Cx},Good X c->y_ X es r}
def Ma(q:tV)(c:RC):∀es:List Expr,Option (Gn c es)
 |[]=>some ⟨bZ,λ_=>XS⟩|[t]=>(q.t c t).bind λf=>some ⟨f.1,λg=>UZ (f.2 g)⟩|_=>none
noncomputable def RC.inn(c:RC)(sc:dB)(own:List Str):RC:={ c with sc:=sc,N:=own++c.N.filter λx=>sc.names.lookup x == some .free,top:=false,T:=none }
noncomputable def RC.ix(c:RC)(sc:dB):List Nat:=(c.N.filter λx=>sc.names.lookup x == some .free).map c.N.idxOf
def RC.cok(c:RC)(sc:dB)(own:List Str)(b:Expr):Prop:=ub c.sc sc=true/\sq c.N sc (c.inn sc own).N own.length (c.ix sc)=true/\(c.inn sc own).N.Nodup/\Ec b=true
instance(c:RC)(sc:dB)(own:List Str)(b:Expr):Decidable (c.cok sc own b):=by unfold RC.cok;infer_instance
theorem Good.inn(g:Good X c)(h:c.cok sc own b)(fp:List ak)(s:aq)(H:Hp):Good (pL X (c.inn sc own).N sc fp s H) (c.inn sc own):=
 ⟨TH g.S.calm,rfl,h.2.2.1,g.hr,λx r z=>⟨(g.G x r z).ex⟩,g.Z,g.C,iR,nofun,g.W,λ_ z=>nomatch z⟩
set_option genInjectivity false in
structure Kj(c:RC)(e:Expr) where
 x:Expr
 tg:Expr
 b:Expr
 ifs:List Expr
 sc:dB
 p:Pos
 eq:e=.ListComp x [⟨tg,b,ifs,0⟩] sc p
 ok:c.cok sc (zZ 8 tg).eraseDups b
 i:LF c tg b
 g:JX (c.inn sc (zZ 8 tg).eraseDups) tg
 t:Gn (c.inn sc (zZ 8 tg).eraseDups) ifs
 f:HM (c.inn sc (zZ 8 tg).eraseDups) x
def Kj.r{c:RC}{e:Expr}(m:Kj c e):CA:=dR (zZ 8 m.tg).eraseDups.length (c.ix m.sc) m.i.1 m.g.1 m.t.1 m.f.1
def V7{a:Comprehension}(h:a.is_async=0):a=⟨a.target,a.iter,a.ifs,0⟩:=by cases a;exact cQ _ h
def Gd(q:tV)(c:RC)(e:Expr):Option (Kj c e):=X0 e λx o sc p h=>v1 o λa l=>wh (a.is_async=0/\c.cok sc (zZ 8 a.target).eraseDups a.iter) λz=>
 (q.i c a.target a.iter).bind λu=>(q.g (c.inn sc (zZ 8 a.target).eraseDups) a.target).bind λg=>(Ma q (c.inn sc (zZ 8 a.target).eraseDups) a.ifs).bind λt=>(q.e (c.inn sc (zZ 8 a.target).eraseDups) x).bind λf=>
  some ⟨x,a.target,a.iter,a.ifs,sc,p,by rw[h,l,<- V7 z.1],z.2,u,g,t,f⟩
def FZ:EK:=λq c e=>(Gd q c e).bind λm=>some ⟨m.r,λg=>by let⟨x,tg,b,o,sc,p,rfl,ok,h,mg,mt,l⟩:=m;exact Qfe g.S.calm (NY g.S ok.1) (Qd g.N ok.2.1) (h.2 g) (λfp s H=>⟨mg.2 (g.inn ok fp s H),mt.2 (g.inn ok fp s H),l.2 (g.inn ok fp s H)⟩) (LJ ok.2.2.2)⟩
abbrev OE(c:RC)(o:BoolOp)(es:List Expr):={r:CT // ∀{X:Cx}{p:Pos},Good X c->PW X (.BoolOp o es p) (rD X.K r)}
def BK(q:tV)(c:RC):∀es:List Expr,Option (OE c .And es)
 |[]=>none|[a]=>(q.t c a).bind λh=>some ⟨h.1,λg=>WM (h.2 g)⟩|a::b::r=>(q.t c a).bind λh=>(BK q c (b::r)).bind λl=>some ⟨oG h.1 l.1,λg=>Xe (h.2 g) (l.2 g)⟩
def Hq(q:tV)(c:RC):∀es:List Expr,Option (OE c .Or es)
 |[]=>none|[a]=>(q.t c a).bind λh=>some ⟨h.1,λg=>XO (h.2 g)⟩|a::b::r=>(q.t c a).bind λh=>(Hq q c (b::r)).bind λl=>some ⟨sk h.1 l.1,λg=>UF (h.2 g) (l.2 g)⟩
def DG:FE:=λq c e=>PF e λo es p h=>match o,h with| .And,h=>(BK q c es).bind λf=>some ⟨f.1,λg=>h ▸ L2.PW.pt (f.2 g)⟩| .Or,h=>(Hq q c es).bind λf=>some ⟨f.1,λg=>h ▸ L2.PW.pt (f.2 g)⟩
def Ck:FE:=λq c e=>Jk e λo a _ h=>wh (o=.Not) λz=>(q.t c a).bind λf=>some ⟨sH f.1,λg=>h ▸ z ▸ Z1 (f.2 g)⟩
def Vd:FE:=λq c e=>wh (NC e=true) λz=>(q.e c e).bind λf=>some ⟨sC f.1,λg=>Tc (f.2 g) (WL z)⟩
noncomputable def Fe:Expr->Bool
 | .Tuple .. => true|_=>false
noncomputable def TpT(tg:Expr):Prop:=∃es n p,tg=.Tuple es n p
def Iw(h:Fe tg=true):TpT tg:=by cases tg<;>first|exact⟨_,_,_,rfl⟩|exact nomatch h
def IU(t:Expr->Bool)(x:String)(ok:RC->Pos->Bool)(f:CE->CI)(h:∀{X:Cx}{tg e:Expr}{l:CE}{p pos:Pos},t tg=true->Gl X (aD x)->X.mg (aD x)=none->SE X e l->starEach [e] X.env=[(false,eval e X.env)]->SI X tg (.Call (.Name (aD x) p) [e] [] pos) (f l)):xh:=
 λq c tg e=>Cu e λy _ a p e=>wh (y=aD x/\c.bl y=true/\rN a=true/\t tg=true/\ok c p=true) λz=>(q.e c a).bind λl=>some ⟨f l.1,λg=>by subst e;let⟨rfl,o,v,u,_⟩:=z;exact h u (g.gl o).1 (g.gl o).2 (l.2 g) (rJ v)⟩
def K8(t:Expr->Bool)(x:String)(ok:RC->Pos->Bool)(f:CE->CE->CI) (h:∀{X:Cx}{tg a b:Expr}{u o:CE}{p pos:Pos},t tg=true->Gl X (aD x)->X.mg (aD x)=none->SE X a u->SE X b o->starEach [a,b] X.env=(false,eval a X.env)::starEach [b] X.env->starEach [b] X.env=(false,eval b X.env)::starEach [] X.env ->starEach [a,b] X.env=[(false,eval a X.env),(false,eval b X.env)]->SI X tg (.Call (.Name (aD x) p) [a,b] [] pos) (f u o)):xh:=
 λq c tg e=>Mh e λy _ a b p e=>wh (y=aD x/\c.bl y=true/\rN a=true/\rN b=true/\t tg=true/\ok c p=true) λz=>(q.e c a).bind λu=>(q.e c b).bind λo=>some ⟨f u.1 o.1,λg=>by subst e;let⟨rfl,B,v,l,C,_⟩:=z;exact h C (g.gl B).1 (g.gl B).2 (u.2 g) (o.2 g) (rJ v) (rJ l) (by rw[rJ v,rJ l];rfl)⟩
noncomputable abbrev DA:Expr->Bool:=λ_=>true
noncomputable abbrev kU:RC->Pos->Bool:=λ_ _=>true
def AO:xh:=IU DA "range" kU MM.gw λ_ g m a s=>Tg g m a s
def A2:xh:=K8 DA "range" kU MM.oB λ_ g m a b s t u=>Yl g m a b s t u t
def DH(t:Bool):xh:=K8 Fe "zip" (λc p=>c.tag p 7 == t) u_ λh g m a b s t u=>by let⟨_,_,_,rfl⟩:=Iw h;rw[QgM];exact NO true true g m a b s t u t
def Dj:xh:=IU Fe "enumerate" kU vn λh g m a s=>by let⟨_,_,_,rfl⟩:=Iw h;rw[Sj];exact Q0 true g m a s
def EM:xh:=λq c _ e=>(q.l c e).bind λf=>some ⟨zl f.1,λg=>Qe7 (f.2 g)⟩
def G7:xh:=λq c _ e=>(q.e c e).bind λf=>some ⟨iV f.1,λg=>Wx (f.2 g)⟩
noncomputable abbrev Ph(c:RC)(x:Str)(i:Nat):Prop:=c.N[i]?=some x/\(c.sc.names.lookup x=some .local\/c.sc.names.lookup x=some .cell)
def Jn(c:RC)(x:Str):Option {i:Nat // Ph c x i}:=wh _ λh=>some ⟨c.N.idxOf x,h⟩
def Js(g:Good X c){i:Nat}(h:Ph c x i):X.N[i]?=some x/\∃k,c.sc.names.lookup x=some k/\(k=.local\/k=.cell):=by
 refine⟨by rw[g.N];exact h.1,?_⟩;rcases h.2 with l|l
 ·exact⟨_,l,.inl rfl⟩
 ·exact⟨_,l,.inr rfl⟩
def Wl:IP:=λ_ c e=>BG e λx _ h=>(Jn c x).bind λi=>some ⟨aS i.1,λg=>by let⟨q,k,o,l⟩:=Js g i.2;exact h ▸ VX g.S _ g.nd q o l⟩
abbrev Nj(c:RC)(es:List Expr):={r:List D->Loc->M Loc // ∀{X:Cx},Good X c->Cd X es r/\(d_ es X.env).length=es.length/\(d_ es X.env).findIdx? (·.1)=none}
def Ym(c:rN e=true)(g:SG X e a)(h:Cd X es b/\(d_ es X.env).length=es.length/\(d_ es X.env).findIdx? (·.1)=none):Cd X (e::es) (cC a b)/\(d_ (e::es) X.env).length=(e::es).length/\(d_ (e::es) X.env).findIdx? (·.1)=none:=by
 let⟨o,l,d⟩:=h;let eq:d_ (e::es) X.env=(false,pF e X.env)::d_ es X.env:=by cases e<;>first|rfl|exact nomatch c
 refine⟨SV g o (by rw[eq];rfl),by rw[eq];exact cQ (· + 1) l,?_⟩;rw[eq,List.findIdx?_cons,d];rfl
def NH(q:tV)(c:RC):∀es:List Expr,Option (Nj c es)
 |[]=>some ⟨gD,λ_=>⟨US,rfl,rfl⟩⟩|e::es=>wh (rN e=true) λh=>(q.g c e).bind λa=>(NH q c es).bind λb=>some ⟨cC a.1 b.1,λg=>Ym h (a.2 g) (b.2 g)⟩
def G8:IP:=λq c e=>IK e λes _ _ h=>(NH q c es).bind λf=>some ⟨gq es.length f.1,λg=>h ▸ X2 g.S.calm (f.2 g).1 (f.2 g).2.1 (f.2 g).2.2⟩
def Gp:IP:=λq c e=>Df e λo i _ h=>wh (Jw i=true) λz=>(q.e c o).bind λf=>(q.e c i).bind λk=>some ⟨kW f.1 k.1,λg=>h ▸ Qe0 g.hu (f.2 g) (k.2 g) (λv=>by cases i<;>first|rfl|exact nomatch z)⟩
def FN:wz:=λq c e=>MB e λo _ h=>oS o λa l=>(q.e c a).bind λf=>some ⟨dQ f.1,λg=>h ▸ l ▸ TV (f.2 g)⟩
def E5:wz:=λq c e=>uEx e λa _ h=>wh (Na a=true) λz=>(q.e c a).bind λf=>some ⟨kq f.1,λg=>h ▸ TC (f.2 g) (OK z)⟩
def AL:wz:=λ_ _ e=>VF e λ_ _ _ h=>some ⟨CM,λ_=>h ▸ QeR⟩
def MU:wz:=λq c e=>uIf e λt a b _ h=>(q.t c t).bind λl=>(pA q c a).bind λu=>(pA q c b).bind λo=>some ⟨m9 l.1 u.1 o.1,λg=>h ▸ T6 (l.2 g) (u.2 g) (o.2 g)⟩
def A4:wz:=λq c e=>uWh e λt a b _ h=>v0 b λu=>(q.t c t).bind λl=>(pA q c a).bind λo=>some ⟨lj l.1 o.1,λg=>h ▸ u ▸ Xn g.ps (l.2 g) (o.2 g)⟩
def FV:wz:=λq c e=>Vl e λtg l a b _ h=>v0 b λB=>wh (Ec l=true) λz=>(q.i c tg l).bind λo=>(q.g c tg).bind λu=>(pA q c a).bind λv=>some ⟨lE o.1 u.1 v.1,λg=>h ▸ B ▸ Qe9 g.ps g.S.calm (o.2 g) (u.2 g) (v.2 g) (LJ z)⟩
def LB:wz:=λq c e=>IL e λt a _ h=>BG t λx _ l=>wh (Na a=true\/(c.top=true/\c.sc.names.lookup x=some .cell)) λz=>(Jn c x).bind λi=>(q.e c a).bind λf=>some ⟨b8 (aS i.1) f.1,λ{X}g=>by
 subst h l;let⟨l,k,C,B⟩:=Js g i.2;refine Wu g.S _ g.nd l C (f.2 g) B ?_;rcases z with u|⟨o,v⟩
 ·exact OK u
 ·let e:(X.env.kindOf x == some dL.local)=false:=by rw[(g.kd o).2 x,v];rfl
  cases a<;>first|rfl|(unfold ly;simp only[e,Bool.and_false,t5])⟩
def V3(g:Good X c){sc:dB}{p h:Pos}{n:Nat}(l:c.top=true)(q:c.sc.names.lookup y=some .local)(o:(h.line == p.line)=true)(u:(sc.names.any λz=>z.1 == y&&(z.2 == .local||z.2 == .cell))=false):ly (.ListComp e v sc p) (some (.Name y h)) n X.env=pure true:=by
 let C:(X.env.kindOf y == some dL.local)=true:=by rw[(g.kd l).2 y,q];rfl
 let B:(X.env.blockKind == vF)=true:=by rw[(g.kd l).1];rfl
 show (pure (X.env.blockKind == vF&&X.env.kindOf y == some dL.local&&h.line == p.line && !(sc.names.any λz=>z.1 == y&&(z.2 == .local||z.2 == .cell))):Sem Bool)=pure true;rw[C,B,o,u];rfl
def Dx:wz:=λq c s=>IL s λt a _ h=>BG t λy v l=>(Gd q c a).bind λm=>wh (c.top=true/\c.sc.names.lookup y=some .local/\(v.line == m.p.line)=true/\(m.sc.names.any λz=>z.1 == y&&(z.2 == .local||z.2 == .cell))=false) λz=>(Jn c y).bind λi=>some ⟨b8 (aS i.1) (eK m.r),λg=>by subst h l;let⟨l,k,u,o⟩:=Js g i.2;let⟨x,tg,b,E,sc,p,rfl,ok,B,mg,mt,C⟩:=m;exact S3 g.nd l (g.S.loc _ _ u o).1 (g.S.loc _ _ u o).2 g.S.calm (NY g.S ok.1) (Qd g.N ok.2.1) (B.2 g) (λfp s H=>⟨mg.2 (g.inn ok fp s H),mt.2 (g.inn ok fp s H),C.2 (g.inn ok fp s H)⟩) (V3 g z.1 z.2.1 z.2.2.1 z.2.2.2) (LJ ok.2.2.2)⟩
def Hr:wz:=λq c s=>IL s λt a _ h=>Df t λo i p l=>(q.e c a).bind λf=>(q.g c (.Subscript o i p)).bind λk=>some ⟨b8 k.1 f.1,λg=>by subst h l;exact ND (f.2 g) (k.2 g) (by cases a<;>rfl) (by cases a<;>rfl) rfl⟩
noncomputable def S0:Expr->Bool
 | .Tuple _ _ _=>false|_=>true
def Fg:wz:=λq c s=>IL s λt a _ h=>IK t λes n p l=>wh (S0 a=true) λz=>(q.e c a).bind λf=>(q.g c (.Tuple es n p)).bind λk=>some ⟨b8 k.1 f.1,λg=>by subst h l;exact ND (f.2 g) (k.2 g) (by cases a<;>rfl) (by cases a<;>first|rfl|exact nomatch z) rfl⟩
section
variable{P:Program}{w:bR}{K:ai}{mg:Str->Option ah}{base:bN}
variable(P w K mg base) in
def cR(l:List (Str×RF)):Prop:=∀x r,l.lookup x=some r->GF P w K mg base x r
def Z6:cR P w K mg base []:=λ_ _ h=>nomatch h
def Fd{r:RF}(m:mg x=some (.ref f))(F:mX P w K mg base rm r.k f c r.ps (nh K r.n r.g))(g:di K (.ref f)=true)(b:Binds K c r.ps [])(o:r.kw=true->Fx K c r.ps)(h:cR P w K mg base l):cR P w K mg base ((x,r)::l):=λy s z=>by
 by_cases e:y=x
 ·subst e;rw[wu]at z;cases z;exact⟨f,c,m,F,g,b,o⟩
 ·rw[xn e]at z;exact h y s z
def Mc(K:ai)(mg:Str->Option ah)(base:bN)(x:Str)(f:ak)(g:dq):Prop:=∃c P,gz K cW x=some (some (.ref f))/\g.code=.ref c/\eZ K c P=true/\BMod base mg
def J1(R:mO)(j:Nat){k n m:Nat}{Z:List Str}{C:List (Str×D)}(F:zC K x x h f l)(S:mJ N ps (bc h))(hn:ps.length=n)(hm:N.length=m)(hG:cR P w K mg base G) (hZ:∀x,Z.contains x=true->mg x=none) (hC:∀x d,C.lookup x=some d->∃v u,mg x=some u/\RelV v u/\∀ρ H,dD K ρ H v d)(hb:(pA (n8 R j) ⟨bc h,N,k,G,Z,C,H,true,W,T⟩ (cP h)).map (·.1)=some g) (hW:yN P w K mg base W) (hT:∀t,T=some t->t.2=x/\Mc K mg base x f l):mX P w K mg base rm (k+1) f l ps (nh K n (bW m g)):=
 have ⟨v,_,e⟩:=cG.mp hb
 R4 F S hn hm λcdv A outer s Hp E o Y=>e ▸ v.2 ⟨IY,rfl,S.nd,Y,hG,hZ,hC,iR,λ_=>⟨by show (if (bc h).kind.isAnnotationScope=true then _ else (bc h).kind)=_;rw[S.kind];rfl,λ_=>rfl⟩,hW,λt z=>by let⟨I,c,P,O,q,L,J⟩:=hT t z;let⟨oc,od,kV,doc,pm,an,B,ct,Q,e1,U,_⟩:=F.ex;rw[I];exact⟨f,_,l,c,P,O,U,rfl,q,L,by rw[<- q,o];rfl,rfl,J⟩⟩
end
end
section
variable{K:ai}{mg:Str->Option ah}
noncomputable def vT(mg:Str->Option ah)(Z:List Str):Prop:=∀x,Z.contains x=true->mg x=none
def HU:vT mg []:=λ_ h=>nomatch h
def CH(h:mg a=none)(t:vT mg l):vT mg (a::l):=λx z=>by
 rw[List.contains_cons,lZ]at z;rcases z with z|z
 ·rw[beq_iff_eq.mp z];exact h
 ·exact t x z
def xD(K:ai)(mg:Str->Option ah)(C:List (Str×D)):Prop:=∀x d,C.lookup x=some d->∃v u,mg x=some u/\RelV v u/\∀ρ H,dD K ρ H v d
def Fo:xD K mg []:=λ_ _ h=>nomatch h
end
section
def wP(h:ui x=true):x≠"__name__":=(Bx h).n
def GG:ma:=r6 "max" kU oD λc _ g m a s=>IR (Lv c) g m (by nofun) a (wP (by nofun)) (by nofun) s
def HJ:ma:=r6 "all" kU xz λc _ g m a s=>IR (Xl c) g m (by nofun) a (wP (by nofun)) (by nofun) s
def FK:ma:=r6 "any" kU xA λc _ g m a s=>IR (TN c) g m (by nofun) a (wP (by nofun)) (by nofun) s
def HK:ma:=r6 "tuple" kU lU λ_ _ g m a s=>Xk WG g m (by nofun) a (wP (by nofun)) (by nofun) s
def Aq:ma:=v9 "sorted" kU pP λ_ _ g m a s=>Jc YZ g m (by nofun) a (wP (by nofun)) (by nofun) s
def Mg:ma:=v9 "len" kU gI λ_ _ g m a s=>Jc UR g m (by nofun) a (wP (by nofun)) (by nofun) s
def KH:ma:=v9 "int" kU intD λ_ _ g m a s=>Kl ZN g m (by nofun) a (wP (by nofun)) (by nofun) s
def DD:ma:=v9 "tuple" kU tupleD λ_ _ g m a s=>Kl YO g m (by nofun) a (wP (by nofun)) (by nofun) s
def C7:ma:=v9 "list" (λc p=>c.tag p 5) qF λc _ g m a s=>Kl (XA c) g m (by nofun) a (wP (by nofun)) (by nofun) s
def F7:ma:=Ku "min" kU wH λc _ g m a b o l h=>VG (W_ c) g m (by nofun) a b (wP (by nofun)) (by nofun) o l h
def AE:ma:=BN "append" eM kU λ_ o a b f l s p=>Vc o a b f l s p
def KQ:ma:=E3 "pop" uZ λo b l=>YS o b l
def MN:ma:=BD "get" zt λu o a b bs f l g c p=>Xr u o a b bs f l g c p
def AT:ma:=BD "setdefault" pX λu o a b bs f l g c p=>ZB u o a b bs f l g c p
end
section
variable{P:Program}{K:ai}{mg:Str->Option ah}
noncomputable def FnAt(K:ai)(mg:Str->Option ah)(x:Str)(c:Stmt):Prop:=∃a g,zC K x x c a g/\mg x=some (.ref a)
def Mu{B kV C u o ct:ah}(X:K.In h)(G:h.Ns cW mg)(a:gz K cW x=some (some (.ref f)))(l:K.lookup f=some ⟨B,v,.func (cF x x (dN g) (cP g) (bc g) .none kV C u E o ct),q⟩) (c:gU K o x=true) (k:di K (.ref f)=true):FnAt K mg x g:=
 ⟨f,_,Pu (st:=g) l c k,tK X G a⟩
noncomputable def rA(N P:List Str)(sc:dB):Bool:=(sc.kind == .function)&&(sc.isCoroutine == false)&&(sc.isGenerator == false)&&decide N.Nodup&&(N.take P.length == P)&&(P.all λx=>sc.names.lookup x == some .local||sc.names.lookup x == some .cell)&&(sc.names.all λy=>y.2 != .free)
def Ee{N P:List Str}(h:rA N P sc=true):mJ N P sc:=by unfold rA at h;simp only[br,beq_iff_eq,decide_eq_true_eq,cU,lZ,bne_iff_ne,ne_eq]at h;obtain⟨⟨⟨⟨⟨⟨v,u⟩,q⟩,o⟩,l⟩,g⟩,c⟩:=h;exact⟨v,u,q,o,l,g,c⟩
def N8(R:mO){k n m:Nat}(F:zC K x x g f h)(S:rA (ps++r) ps (bc g)=true)(q:(pA (n8 R 40) ⟨bc g,ps++r,k,G,Z,C,H,true,([],[]),none⟩ (cP g)).map (·.1)=some c) (v:cR P w K mg base G) (u:vT mg Z) (B:xD K mg C) (l:ps.length=n) (o:(ps++r).length=m):mX P w K mg base rm (k+1) f h ps (nh K n (bW m c)):=
 J1 R 40 F (Ee S) l o v u B q ⟨(λ_ _ z=>nomatch z),(λ_ _ z=>nomatch z)⟩ λ_ z=>nomatch z
def IQ(R:mO){k n m:Nat}(F:FnAt K mg x h)(S:rA (ps++r) ps (bc h)=true)(b:∀(kV c o:ah)(q:Option ak)(g ct:ah)(u:List ah),u.length=ps.length->g9 (cF x x (dN h) (cP h) (bc h) .none kV c o q g ct) { pos:=u }=pure (ps.zip u))(J:v=true->∀(kV c o:ah)(q:Option ak)(g ct:ah)(s:aq)(ws:List ah),ws.length=ps.length->tx s (cF x x (dN h) (cP h) (bc h) .none kV c o q g ct) ⟨[],ps.zip ws⟩ (ps.zip ws))(hb:(pA (n8 R 40) ⟨bc h,ps++r,k,G,Z,C,H,true,([],[]),none⟩ (cP h)).map (·.1)=some l) (E:cR P w K mg base G) (hZ:vT mg Z) (hC:xD K mg C) (O:ps.length=n:=by rfl) (Q:(ps++r).length=m:=by rfl) (L:v=true->¬ ps.getLast?=some (aD "most"):=by first|exact λz=>nomatch z|exact λ_=>by decide):cR P w K mg base ((x,⟨n,k+1,ps,v,bW m l⟩)::G):=by
 let⟨f,fd,F,B⟩:=F;refine Fd B (N8 R F S hb E hZ hC O Q) F.kp (F.binds b) (λz=>?_) E;let⟨oc,od,kV,c,o,q,g,ct,I,e,lk,Y⟩:=F.ex;unfold Fx;rw[az (L z)];intro s ws U;rw[e];exact J z kV c o q g ct s ws U
end
section
def Gi:ma:=v9 "max" kU (xG oD) λc _ g m a s=>Jc (Q9 (Lv c)) g m (by nofun) a (wP (by nofun)) (by nofun) s
end
section
variable{X:Cx}
def QiG{i:Nat}:∀G σ H,xo X.K (b8 (aS i) (c2 u4 (ao i) fa)) G σ H->FQ i (A1 X.K fa) (N7 λi j=>i+j) G σ H:=λG σ H J=>J.el λρ l st u sr p=>by
 let c:=p.bnd.bnd;unfold ao at c;cases e:l[i]? with|none=>rw[e]at c;exact c.elim|some o=>
  rw[e]at c;cases o with|none=>exact c.elim|some d=>
   let⟨v,L,r⟩:=u.2 i d e;let E:=c.ret sr;refine⟨v,L,ρ,l,st,u,sr,E.bnd.imp λy C ρ1 O B g q w h=>?_⟩;rcases zB (λa b=>ret (.int (a+b))) d y with ⟨a,b,rfl,rfl⟩|I
   ·exact⟨a,b,r.inv,h.inv,(q.ret g).bnd.ret g |>.ret g _ ((u.mono B).set i (.int _))⟩
   ·rw[show u4 d y=bad from I]at q;exact q.elim
def ZL(S : Sc X sc)(i : Nat)(l : X.N.Nodup)(q : X.N[i]? = some x)(h : sc.names.lookup x = some k)(o : SE X e fa)(g : k = .local \/ k = .cell := by decide):
  SS X (.AugAssign (.Name x c) .Add e pos) (b8 (aS i) (c2 u4 (ao i) fa)):=(YK l q (S.loc x k h g).1 o O6 (S.loc x k h g).2).of QiG
end
def Hc:wz:=λq c e=>RA e λt o a _ h=>BG t λx _ l=>wh (o=.Add) λz=>(Jn c x).bind λi=>(q.e c a).bind λf=>some ⟨b8 (aS i.1) (c2 u4 (ao i.1) f.1),λg=>by subst h l z;let⟨l,k,v,u⟩:=Js g i.2;exact ZL g.S _ g.nd l v (f.2 g) u⟩
section
variable{A:bM}{s:aq}
def Sn{Q:List ah->aq->Prop}{items:Array ah}(hh:A.handled=none)(h:s.heap.IsRevIter I l ((items.size:Int)-1))(Y:s.heap.IsList l items)(H:l≠I)(hn:items.size<=sizeLine)(hQ:∀(h':bN)(tk:Nat)(B:Array ah),(∀b o,b≠I->s.heap.get? b=some o->h'.get? b=some o)->ED (λi v=>items[items.size-1-i]?=some v) B items.size->Q B.toList { s with heap:=h',toks:=tk }):aH (aY prog w) A (BW (.ref I)) Q E s:=by
 let hI:I < s.heap.objs.size:=let ⟨_,e,_⟩:=h;aK e
 let hL:l < s.heap.objs.size:=let ⟨_,e,_⟩:=Y;aK e
 unfold BW;refine ab (wpAny_runValue (fV PySem.F.entry_proto_collect ?_));rw[dX PySem.F.plain_proto_collect _]
 show aH _ A.in1 (newList [] >>= λl=>again (.builtin "list.__iadd__" ⟨[l,.ref I],[]⟩)) _ _ s;refine ab (b9 ?_);refine aj ⟨f_ t8 _,fV PySem.F.entry_list_iadd ?_⟩;rw[dX t8 _];let hS₁:(s.heap.push { cls:=.type "list",data:=.seq ([]:List ah).toArray }).get? s.heap.objs.size=some { cls:=.type "list",data:=.seq ([]:List ah).toArray }:=aC _ rfl
 show aH _ A.in1 (qp (.ref s.heap.objs.size) (.ref I) (.ref s.heap.objs.size)) _ _ _;let c:(s.heap.push { cls:=.type "list",data:=.seq ([]:List ah).toArray }).IsRevIter I l ((items.size:Int)-1):=let ⟨o,e,x⟩:=h;⟨o,am _ e,x⟩
 let J:(s.heap.push { cls:=.type "list",data:=.seq ([]:List ah).toArray }).IsList l items:=let ⟨o,e,x⟩:=Y;⟨o,am _ e,x⟩
 let W:=Walks.listRev (prog:=prog) (w:=w) (A:=A.in1) hh I l H items;let L:s.heap.objs.size∉[I,l]:=by simp only[aX,cO,or_false,not_or];exact⟨dm hI,dm hL⟩
 let C:0<=items.size/\(s.heap.push { cls:=.type "list",data:=.seq ([]:List ah).toArray }).IsRevIter I l ((items.size:Int)-1-((0:Nat):Int))/\(s.heap.push { cls:=.type "list",data:=.seq ([]:List ah).toArray }).IsList l items:=⟨bH _,by rw[show (items.size:Int)-1-((0:Nat):Int)=(items.size:Int)-1 by ext];exact c,J⟩
 unfold qp;refine ab (nu c.typeIs ?_);let h1:rg (.ref s.heap.objs.size) (.ref I)=false:=by simp[rg,dm hI]
 rw[az (by rw[h1];decide)];refine ab (qO c ?_);refine ab (cw (TL c.typeIs ?_));rw[az (by decide)];refine aj ⟨f_ PySem.F.plain_extend_loop _,codeAny_extend_loopS W.toS hn _ L _ items.size 0 _ _ _ rfl (bH _) C hS₁ (ED.nil _) λG u c' U O q=>?_⟩
 show aH _ A (load s.heap.objs.size >>= _) _ _ G;refine ab (wpAny_load O ?_);rw[Moved.eq_with U];refine aj (hQ G.heap G.toks u (λb o hb e=>U.heap b o (λg=>?_) (am _ e)) q);rcases aX.mp g with e'|g
 ·exact bj (aK e) e'
 ·exact hb (aI.mp g)
def Zp{Q₁:ah->aq->Prop}{items:Array ah}(hh:A.handled=none)(q:s.heap.IsRevIter I l ((items.size:Int)-1))(O:s.heap.IsList l items)(B:l≠I)(hsz:items.size<=sizeLine)(h:∀(h':bN)(u:Nat)(c:Array ah),(∀b o,b≠I->s.heap.get? b=some o->h'.get? b=some o)->ED (λi v=>items[items.size-1-i]?=some v) c items.size->Q₁ (.ref h'.objs.size) { s with heap:=h'.push { cls:=.type "tuple",data:=.seq c },toks:=u }):ky (aY prog w) A (.call (.builtin "tuple.__new__") ⟨[.type "tuple",.ref I],[]⟩) (wants Q₁ E) s:=by
 refine codeAny_of_tree ?_
 show aH _ A.in1 (do checkBuiltinCall "tuple.__new__" ⟨[.type "tuple",.ref I],[]⟩;again (.builtin "tuple.__new__" ⟨[.type "tuple",.ref I],[]⟩)) _ _ s;refine ab (ox (PySem.F.newCall_tuple_1 _) (aj ⟨f_ t9 _,fV PySem.F.entry_tuple_new ?_⟩));rw[dX t9 _];let H:=sub_tuple_self;let C:=init_tuple_lookup;let J:=madeHere_tuple;let G:=q.typeIs
 wp_walk using nu G,Sn (A:=A.in1) hh q O B hsz
 intro h' u c L g
 show aH _ _ (fA c.toList.toArray >>= λv=>PySem.ret v) _ _ _;unfold fA;refine ab (b9 ?_ (by show c.toList.toArray.size<=sizeLine;simp only[Array.toArray_toList];rw[g.1];exact hsz));refine aj ?_;let e:c.toList.toArray=c:=by simp
 rw[e];exact h h' u c L g
def QiK{Q:ah->aq->Prop}{items:Array ah}(hh:A.handled=none)(u:s.heap.IsRevIter I l ((items.size:Int)-1))(C:s.heap.IsList l items)(q:l≠I)(hsz:items.size<=sizeLine)(G:∀(h':bN)(h:Nat)(c:Array ah),(∀b o,b≠I->s.heap.get? b=some o->h'.get? b=some o)->ED (λi v=>items[items.size-1-i]?=some v) c items.size->Q (.ref h'.objs.size) { s with heap:=h'.push { cls:=.type "tuple",data:=.seq c },toks:=h }):aH (aY prog w) A (call (.type "tuple") [.ref I]) Q E s:=by
 refine callType_codes (Q₁:=λobj s₁=>s₁.TypeIs obj "tuple"/\Q obj s₁) PySem.F.called_tuple (PySem.F.typeCall_tuple_1 _) PySem.F.entry_object_init
  (Zp hh u C q hsz λh' h c B g=>⟨⟨_,aC _ rfl,rfl⟩,G h' h c B g⟩) λobj s₁ h₁=>?_
 exact⟨h₁.1,PySem.F.args_object_init_2 obj _,object_init_meets PySem.F.called_tuple.init.lookup PySem.F.called_tuple.made (by decide) prog w A.in1 _ s₁ ⟨h₁.1,rfl,h₁.2⟩⟩
end
section
variable{X:Cx}{a b c e o tg:Expr}{K:ai}{st:aV}
def QiL(hc:X.calm=true)(hg:Gl X "tuple")(hm:X.mg "tuple"=none)(hv:dg "tuple"=some (.type "tuple"))(Y:Gl X "reversed")(O:X.mg "reversed"=none)(L:dg "reversed"=some (.type "reversed"))(ha:PE X e te)(he:starEach [e] X.env=[(false,eval e X.env)]:=by rfl) (v:starEach [.Call (.Name "reversed" p') [e] [] a6] X.env=[(false,eval (.Call (.Name "reversed" p') [e] [] a6) X.env)]:=by rfl):
  PE X (.Call (.Name "tuple" p) [.Call (.Name "reversed" p') [e] [] a6] [] pos) (λσ H Q=>te σ H λx C=>∃a xs,x=.ref a/\io X.K C a xs/\∀q,C q=none->Q (.ref q) (fT C q (.tup xs.reverse))):=by
 intro g s σ H Q I h;refine dM (yy I hg hm hv ?_ (by decide) (by decide));refine cz ?_ v rfl;rw[v]
 show aH _ _ (tq [(false,eval (.Call (.Name "reversed" p') [e] [] a6) X.env)]) _ _ s;refine im ?_;refine dM (yy I Y O L ?_ (by decide) (by decide));refine cz ?_ he rfl;rw[he]
 show aH _ _ (tq [(false,eval e X.env)]) _ _ s;refine im (gA (ha g s σ H _ I h) λu G ⟨x,C,c,r1,a,xs,ex,hx,q⟩=>iz ?_);subst ex;cases r1;let⟨its,rv,J,hz⟩:=c.list hx;let hlen:=rv.length;refine DU J.isList (iz ?_);let U:a < G.heap.objs.size:=let ⟨_,e,_⟩:=J.isList;aK e
 refine QiK (l:=a) (items:=its.toArray) (c.ok.hd hc) ⟨_,aC _ rfl,rfl,rfl⟩ (let ⟨o,e,x⟩:=J.isList;⟨o,am _ e,x⟩) (bj U) (by simp only[aL];ext) λh' E acc hk B=>?_;rw[W9 B];let kp:∀b u,G.heap.get? b=some u->h'.get? b=some u:=λb u e=>hk b u (bj (aK e)) (am _ e);let I2:Inv X g σ C { G with heap:=h',toks:=E }:=c.kept (t':=E) kp;exact⟨.ref _,_,I2.laid (t':=E) (o:=.tup xs.reverse) (λb o e=>am _ e) (ay _) (show gP X.prog X.w _ _ _ (.tup xs.reverse) from ⟨by rw[g_];exact hz,its.reverse,rv.reverse,lg.new _ _⟩),rfl,q _ (I2.hok.fresh (ay _))⟩
def U9(hc:X.calm=true)(hg:Gl X "tuple")(hm:X.mg "tuple"=none)(C:dg "tuple"=some (.type "tuple"))(I:Gl X "reversed")(G:X.mg "reversed"=none)(B:dg "reversed"=some (.type "reversed"))(g:SE X e fa)(he:starEach [e] X.env=[(false,eval e X.env)]:=by rfl) (J:starEach [.Call (.Name "reversed" p') [e] [] a6] X.env=[(false,eval (.Call (.Name "reversed" p') [e] [] a6) X.env)]:=by rfl):
  SE X (.Call (.Name "tuple" p) [.Call (.Name "reversed" p') [e] [] a6] [] pos) (c1 sw fa):=
 (QiL hc hg hm C I G B g he J).of λσ H Q h_=>h_.el λρ l st o sr p=>⟨ρ,l,st,o,sr,p.bnd.imp λd U ρ1 H1 x1 u L v Y=>by
  cases d with
  |ref n=>
   let⟨a,rfl,_,h⟩:=Y.inv;let⟨ds,e2,c⟩:=aU.getL (aU.bnd L) u;let⟨a',O,g,C,r⟩:=u.seq e2;rw[h]at g;cases g;exact⟨a,O,rfl,io.of C,λq E=>c ρ1 _ (Ex.new E) (u.new E) _ (.tup (mU.of lH) ((bV.rev r).mono (Ex.new E)))⟩
  |_=>exact L.elim⟩
end
def AV:ma:=LV "tuple" "reversed" kU sw λc _ g m l h a s=>U9 c g m (by nofun) l h (by nofun) a s rfl
section
def VO(ha:SE X a fa)(B:SE X b fb):SE X (.Dict [some a] [b] pos) (sf fa fb):=by
 refine (Qdb (Z9 ha B Y1) rfl rfl nofun (by simp)).of λσ H Q E q I=>?_;let⟨ρ,l,st,lr,sr,p⟩:=E;let hn:=sr.fresh I;let O:Ex ρ H ρ (fT H q (.dK [])):=Ex.new I;refine⟨ρ,l,st,lr.mono O,sr.new I,(p.bnd0.left O).imp λk a7 ρ1 H1 Y s1 p1 v rv=>⟨ρ1,l,a7,(lr.mono O).mono Y,s1,(p1.bnd0.left (O.trans Y)).imp λd C ρ2 L U h p2 w rw'=>?_⟩⟩;cases k with
 |int i=>
  cases (show v=.int i from rv.inv);let g:=Y.trans U;let G:L q=some (.dK []):=g.oth q _ hn lH;refine⟨G,[(.inl i,w)],rfl,by simp,?_⟩;let ne:∀b o,H b=some o->b≠q:=λb o e z=>by rw[z,I]at e;cases e
  let J:q∉ρ2:=by
   let⟨τ,e,f⟩:=g.pre;rw[e];intro z;rcases aO.mp z with z|z
   ·exact hn z
   ·have:=f q z;rw[lH]at this;cases this
  let up:Up ρ2 L ρ2 (fT L q (.dK (mW [] [(.inl i,w)]))):=by
   refine⟨⟨[],by simp⟩,λc o no w=>?_,λc o w=>?_⟩
   ·rw[gB λz=>by subst z;rw[G]at w;cases w;exact nomatch no];exact w
   ·by_cases z:c=q
    ·subst z;rw[G]at w;cases w;exact⟨_,lH,rfl⟩
    ·exact⟨o,by rw[gB z];exact w,rfl⟩
  let s2:SR X.K ρ2 (fT L q (.dK (mW [] [(.inl i,w)]))) C:=⟨h.len,h.nd,λn b o e1 e2=>og.mono (o:=o) up (h.ob n b o e1 e2) λu w=>by rw[gB (λ(z:b=q)=>J (by rw[<- z];exact ax e1))];exact w⟩
  let x2:Ex ρ H (ρ2++[q]) (fT L q (.dK (mW [] [(.inl i,w)]))):=by
   let⟨τ,e,f⟩:=g.pre;refine⟨⟨τ++[q],by rw[e,bz],λb B=>?_⟩,λb o no e=>?_,λb o nb e=>?_,λb o e=>?_⟩
   ·rcases aO.mp B with B|B
    ·let z:=f b B;by_cases w:b=q
     ·subst w;exact I
     ·rw[gB w]at z;exact z
    ·rw[aI]at B;rw[B];exact I
   ·rw[gB (ne b o e)];exact g.fix b o no (by rw[gB (ne b o e)];exact e)
   ·rw[gB (ne b o e)];exact g.oth b o nb (by rw[gB (ne b o e)];exact e)
   ·let⟨o',h,c⟩:=g.knd b o (by rw[gB (ne b o e)];exact e);exact⟨o',by rw[gB (ne b o e)];exact h,c⟩
  let p3:∀ρ' H',Ex ρ H ρ' H'->SR X.K ρ' H' (C++[.dct false (wO [] (([.inl i].map pW).zip [d]))])->∀v,dD X.K ρ' H' v (.dic C.length)->Q v H':=p2;refine p3 _ _ x2 (s2.keepO J ⟨_,lH,KR.merge (KR.zip (ks:=[.inl i]) (bV.cons (rw'.up up) .nil)) .nil⟩) _ (.dic ⟨_,lH,.inl rfl⟩ ?_);rw[<- h.len];simp
 |_=>exact p2.elim
end
def B8:ma:=λq c e=>Qr e λks u _ h=>v1 ks λa E=>oS a λk C=>v1 u λv B=>(q.e c k).bind λo=>(q.e c v).bind λl=>some ⟨sf o.1 l.1,λg=>by subst h E C B;exact VO (o.2 g) (l.2 g)⟩
end MM
namespace PySem.SeqAt
open AutoSeq1 (wpAny_loadPart')
open MeetsSeq MeetsSeq2 MeetsSeq3 SeqRoads2
end PySem.SeqAt
namespace MM
open PySem PySem.Spec PyProof.Rows L2
noncomputable def Dr(prog:Program)(w:bR)(A:bM)(op:uO)(P:Nat->ah->Prop)(Kp:bN->Prop)(c:Nat->Nat->Bool):Prop:=
 ∀i j vi vj(s:aq)(Q:ah->aq->Prop)(E:ah->aq->Prop),Kp s.heap->P i vi->P j vj->Q (.bool (c i j)) s->aH (aY prog w) A (richCompare op vi vj) Q E s
section
variable{K:ai}{st:aV}
def Ui{n:Nat}{Q:Unit->aq->Prop}{A:bM}(hu:A.units+2 < cN)(I:Inv X ac σ H s)(sr:SR X.K ρ H st)(ha:ρ[n]?=some a)(Y:st[n]?=some (.dct true g))(O:dD X.K ρ H y k) (hk:om true k=true) (hl:g.length < sizeLine) (rv:dD X.K ρ H v d) (ry:RelV y u) (rr:RelV v U)(h:∀G J,Inv X ac σ G J->SR X.K ρ G (st.set n (.dct true (nJ g k d)))->Ex ρ H ρ G->Q Unit.unit J):aH (aY X.prog X.w) A (Ew a u U) Q E s:=by
 let B:=(ae.mp Y).1;let⟨es,e,r⟩:=sr.ob n a _ ha Y;let⟨k,rfl⟩:=B6 hk;let⟨_,hd,xs,L,dd,de⟩:=x_ I e r;let⟨c,e2,e3,hc⟩:=AW I O ry;subst e2 e3;let up:Up ρ H ρ (fT H a (mh a (putN es k c v))):=by
  refine⟨⟨[],by simp⟩,λc o no q=>?_,λc o q=>?_⟩
  ·rw[gB λz=>by subst z;rw[e]at q;cases q;exact nomatch no];exact q
  ·by_cases z:c=a
   ·subst z;rw[e]at q;cases q;exact⟨_,lH,rfl⟩
   ·exact⟨o,by rw[gB z];exact q,rfl⟩
 let w:=sr.putO (o':=.dct true (nJ g (rM k) d)) (u':=mh a (putN es k c v)) B ha e (by show (2:Nat)≠3;decide) rfl ⟨_,lH,(NR.put r k c O rv).up up⟩;let hz:xs.length<=sizeLine:=by rw[<- cZ L,NR.length r];ext
 refine RT (knd:=yR X) (show A.units+1 < cN by ext) hc dd de hz λh' l C hs=>h _ _ ?_ w.1 w.2;let he:∃q,h'.get? a=some q:=let ⟨q,_,_,hq,_⟩:=l;⟨q,hq⟩
 refine Eb I (by rw[e];exact gM) hs he (E7 ?_ hd (NX.put L k c rr) l C);have:=L3 es k c v;rw[NR.length r]at this;ext
end
section
def Zw{β:Type}(e:Expr)(k:∀a b s p,e=.Lambda a b s p->Option β):Option β:=match e,k with| .Lambda a b s p,k=>k a b s p rfl|_,_=>none
def Tf{a:iM}(h:a.defaults.isEmpty=true/\a.kw_defaults.isEmpty=true):DT a env=([],[]):=by let⟨B,v,u,q,c,o,d⟩:=a;let⟨l,g⟩:=h;obtain rfl:d=[]:=iT.mp l;obtain rfl:c=[]:=iT.mp g;rfl
def S7{sc:dB}(h:sc.names.all (λy=>y.2 != .free)=true):nQ sc env=pure []:=by
 let z:∀x,(x,bJ)∈sc.names->False:=λx g=>by have:=cU.mp h _ g;simp at this
 rw[JT λx g=>(z x g).elim];congr 1;have:∀(l:List (Str×dL))(c:List (Str×ak)),(∀x,(x,bJ)∉l)->i6 l env.cells c=c:=λl=>by
  induction l with|nil=>exact λ_ _=>rfl|cons y l ih=>
   intro c o;let⟨n,k⟩:=y;unfold i6;let q:(k == bJ)=false:=by
    rw[beq_eq_false_iff_ne]
    rintro rfl
    exact o n (.head _)
   simp only[q,aR,if_false];exact ih c λx g=>o x (.tail _ g)
 exact this _ _ λx g=>z x g
def Le:ma:=λ_ c e=>Zw e λa b s p h=>oS c.T λt l=>wh ((a.defaults.isEmpty=true/\a.kw_defaults.isEmpty=true)/\s.names.all (λy=>y.2 != .free)=true) λz=>some ⟨vV t.1 t.2 (.Lambda a b s p),λg=>h ▸ V8 (g.T t l) (Tf z.1) (S7 z.2)⟩
def Dy:ma:=λq c e=>D_ e λx p u _ h=>vC u λa u B=>(EO c x).bind λi=>wh ((c.W.1.all λr=>decide (r.2.k<=c.k))=true/\(c.W.2.all λr=>decide (r.2.k<=c.k))=true) λz=>(xp q c (a::u)).bind λv=>some ⟨qv c.W (ao i.1) v.1,λg=>by subst h B;let⟨x,y,l⟩:=v.2;rw[cI,br]at y;exact UU (λe r o=>⟨g.W.1 e r o,g.hr.mono (of_decide_eq_true (cU.mp z.1 _ o))⟩) (λe r o=>⟨g.W.2 e r o,g.hr.mono (of_decide_eq_true (cU.mp z.2 _ o))⟩) (QR g i.2) (x g) (rJ y.1) (Cv y.2)⟩
end
def B4(e:Expr):iM:=match e with| .Lambda a _ _ _=>a|_=>{ posonlyargs:=[],args:=[],vararg:=none,kwonlyargs:=[],kw_defaults:=[],kwarg:=none,defaults:=[] }
def AX(e:Expr):Expr:=match e with| .Lambda _ b _ _=>b|e=>e
def v_(e:Expr):dB:=match e with| .Lambda _ _ s _=>s|_=>{ kind:=.function,names:=[],isGenerator:=false,isCoroutine:=false }
def GY(e:Expr):Pos:=match e with| .Lambda _ _ _ p=>p|_=>⟨0,0,0,0⟩
def Mo(s:Stmt):Expr:=match s with| .Return (some e) _=>e| .Assign _ e _=>e|_=>.Name "" ⟨0,0,0,0⟩
def CD(n:Nat)(e:Expr):Expr:=match e with| .Call _ as _ _=>as.getD n e| .BinOp a _ b _=>if n=0 then a else b|_=>e
section
variable{P:Program}{K:ai}{mg:Str->Option ah}
def Gz:yN P w K mg base ([],[]):=⟨(λ_ _ z=>nomatch z),(λ_ _ z=>nomatch z)⟩
def SH{r:RL}(h:sJ P w K mg base r.k r.n e r.g)(t:yN P w K mg base W):yN P w K mg base ((e,r)::W.1,W.2):=⟨λg c z=>by
 rcases aX.mp z with z|z
 ·cases z;exact h
 ·exact t.1 g c z,t.2⟩
def Ww{r:RK}(h:sx P w K mg base r.k r.n c r.g)(t:yN P w K mg base W):yN P w K mg base (W.1,(c,r)::W.2):=⟨t.1,λl g z=>by
 rcases aX.mp z with z|z
 ·cases z;exact h
 ·exact t.2 l g z⟩
def Te(R:mO){k n m:Nat}(I:e=.Lambda (B4 e) (AX e) (v_ e) (GY e))(S:rA (nm++r) nm (v_ e)=true)(J:∀(q:Str)(l c ct:ah)(g:List ah),g.length=nm.length->g9 (oJ "<lambda>" q (B4 e) (AX e) (v_ e) [] l c ct) ⟨g,[]⟩=pure (nm.zip g))(E:((n8 R 40).e ⟨v_ e,nm++r,k,G,Z,C,H,true,W,none⟩ (AX e)).map (·.1)=some f) (Q:cR P w K mg base G) (L:vT mg Z) (U:xD K mg C) (O:yN P w K mg base W) (u:nm.length=n:=by rfl) (B:(nm++r).length=m:=by rfl):
  sJ P w K mg base (k+1) n e (uw m f):=by
 subst u;let h:=Ee S;let⟨v,_,Y⟩:=cG.mp E;have:sJ P w K mg base (k+1) nm.length (.Lambda (B4 e) (AX e) (v_ e) (GY e)) (uw m f):=XB h B J λq a' c A outer s' Hp o=>Y ▸ v.2 ⟨IY,rfl,h.nd,o,Q,L,U,iR,λ_=>⟨by show (if (v_ e).kind.isAnnotationScope=true then _ else (v_ e).kind)=_;rw[h.kind];rfl,λ_=>rfl⟩,O,λ_ z=>nomatch z⟩;rw[<- I]at this;exact this
def Sv(R:mO){k n m:Nat}(F:FnAt K mg x g)(S:rA (ps++r) ps (bc g)=true)(b:∀(kV o v:ah)(Q:Option ak)(q ct:ah)(h:List ah),h.length=ps.length->g9 (cF x x (dN g) (cP g) (bc g) .none kV o v Q q ct) { pos:=h }=pure (ps.zip h))(I:(pA (n8 R 40) ⟨bc g,ps++r,k,G,Z,C,H,true,W,none⟩ (cP g)).map (·.1)=some c) (u:cR P w K mg base G) (J:vT mg Z) (O:xD K mg C) (L:yN P w K mg base W) (B:ps.length=n:=by rfl) (E:(ps++r).length=m:=by rfl):cR P w K mg base ((x,⟨n,k+1,ps,false,bW m c⟩)::G):=by
 let⟨f,U,F,l⟩:=F;exact Fd l (J1 R 40 F (Ee S) B E u J O I L λ_ z=>nomatch z) F.kp (F.binds b) nofun u
noncomputable def uW(K:ai)(mg:Str->Option ah)(x:Str)(h:Stmt):Prop:=∃a g c P,zC K x x h a g/\mg x=some (.ref a)/\gz K cW x=some (some (.ref a))/\g.code=.ref c/\eZ K c P=true
def ZG(R:mO){j k n m:Nat}(F:uW K mg x h)(S:rA (ps++r) ps (bc h)=true)(b:∀(kV q B:ah)(an:Option ak)(u ct:ah)(l:List ah),l.length=ps.length->g9 (cF x x (dN h) (cP h) (bc h) .none kV q B an u ct) { pos:=l }=pure (ps.zip l))(J:(pA (n8 R 40) ⟨bc h,ps++r,k,G,Z,C,H,true,([],[]),some (j,x)⟩ (cP h)).map (·.1)=some g) (v:cR P w K mg base G) (L:vT mg Z) (O:xD K mg C) (Q:BMod base mg) (E:ps.length=n:=by rfl) (I:(ps++r).length=m:=by rfl):cR P w K mg base ((x,⟨n,k+1,ps,false,bW m g⟩)::G):=by
 let⟨f,fd,c,P',F,o,h1,Y,U⟩:=F;exact Fd o (J1 R 40 F (Ee S) E I v L O J Gz λt z=>by cases z;exact⟨rfl,c,P',h1,Y,U,Q⟩) F.kp (F.binds b) nofun v
end
def BB{K:ai}{v kV E q ct:ah}(X:K.In h)(G:h.Ns cW mg)(a:gz K cW x=some (some (.ref f)))(l:K.lookup f=some ⟨v,u,.func (cF x x (dN g) (cP g) (bc g) .none kV E q H (.ref c) ct),o⟩) (C:gU K (.ref c) x=true) (k:di K (.ref f)=true) (B:eZ K c P=true):uW K mg x g:=
 ⟨f,_,c,P,Pu (st:=g) l C k,tK X G a,a,rfl,B⟩
def B3{K:ai}(g:gz K cW x=some (some (.ref f)))(l:K.lookup f=some ⟨v,u,.func o,q⟩)(B:o.code=.ref c)(h:eZ K c P=true)(n:K.lookup P=none):TabOf K x P/\K.lookup P=none:=
 ⟨⟨f,_,o,c,g,l,rfl,B,h⟩,n⟩
def V6{K:ai}{k:Nat}{s₁:aq}{L:List ah}{ts:List (ak×Str×Str)}(KX:K.In s₁.heap) (hns:s₁.heap.Ns cW mg) (I:s₁.heap.Ns nL mb) (hbb:∀x:Str,x≠"__name__"->mb x=dg x) (hlim:s₁.heap.NoLimit) (hg:s₁.gens=#[]) (hB:BMod s₁.heap mg)(hnd:(ts.map (·.1)).Nodup) (G:∀p∈ts,s₁.heap.get? p.1=some (fj #[])/\TabOf K p.2.1 p.1/\K.lookup p.1=none)(ha:s₁.heap.get? a=some { cls:=.type "list",data:=.seq L.toArray }) (hi:my L U) (hl:U.length<=sizeLine) (hr:iJ k mB)(F:∀base:bN,BMod base mg->mX P w K mg base rm k fa fd [x] (nh K 1 g)) (hbind:∀(s:aq)(u:ah),tx s fd ⟨[u],[]⟩ [(x,u)])(hsp:∃st',g [.lit (U.map D.int)] (ts.map λp=>.tbl p.2.1 p.2.2)=.ok (.bl true) st'):ky (aY P w) mB (.call (.ref fa) ⟨[.ref a],[]⟩) (λr E=>r=.ok (.ret (.bool true))/\OldK s₁.heap E.heap/\E.os=s₁.os/\mw E.gens) s₁:=by
 let rv:=Kz hi;let lenV:=hi.length;let nT:∀b∈ts.map (·.1),s₁.heap.get? b=some (fj #[])/\K.lookup b=none:=λb I=>by let⟨p,Y,rfl⟩:=bQ.mp I;exact⟨(G p Y).1,(G p Y).2.2⟩
 let naT:a∉ts.map (·.1):=λz=>by have:=(nT a z).1;rw[ha]at this;cases this
 let J : ∀S : Option HO, (S = none \/ ∃o, S = some (.frz o (.lst (U.map V.int))) /\ o = { cls := .type "list", data := .seq L.toArray }) -> (S ≠ none -> K.lookup a = none) -> ∀H : Hp, (H = λb => if b = a then S else if b ∈ ts.map (·.1) then some (.tbl #[]) else none) -> zY K H a (U.map V.int) ->
   ky (aY P w) mB (.call (.ref fa) ⟨[.ref a],[]⟩) (λr E=>r=.ok (.ret (.bool true))/\OldK s₁.heap E.heap/\E.os=s₁.os/\mw E.gens) s₁:=by
  intro S hS hK H eH fz;let eA:H a=S:=by rw[eH];exact aJ rfl
  let eT:∀b∈ts.map (·.1),H b=some (.tbl #[]):=λb I=>by
   rw[eH]
   show (if b=a then S else if b∈ts.map (·.1) then some (.tbl #[]) else none)=_;let nz:¬ b=a:=λz=>naT (z ▸ I);rw[az nz,aJ I]
  let eN:∀b,b≠a->b∉ts.map (·.1)->H b=none:=λb C B=>by
   rw[eH]
   show (if b=a then S else if b∈ts.map (·.1) then some (.tbl #[]) else none)=_;rw[az C,az B]
  let hok:n0 P w H s₁.heap:=λb u e=>by
   by_cases C:b=a
   ·subst C;rw[eA]at e;rcases hS with z|⟨o,z,zo⟩
    ·rw[z]at e;cases e
    ·rw[z]at e;cases e;subst zo;exact⟨ha,by rw[ag];exact hl,L,_,rv,ha⟩
   ·by_cases B:b∈ts.map (·.1)
    ·rw[eT b B]at e;cases e;exact (nT b B).1
    ·rw[eN b C B]at e;cases e
  let no:∀{b:ak}{o:Obj},s₁.heap.get? b=some o->o≠{ cls:=.type "list",data:=.seq L.toArray }->o≠fj #[]->H b=none:=λ{b o}e n1 n2=>eN b (λz=>by subst z;rw[ha]at e;exact n1 (aF e).symm) λz=>by have:=(nT b z).1;rw[e]at this;exact n2 (aF this)
  let noD:∀{b:ak}{o:Obj}{es:Array lB}{ep:Nat},s₁.heap.get? b=some o->o.data=.dict es ep->H b=none:=λe d=>no e (λz=>by subst z;cases d) λz=>by subst z;cases d
  let l:∀{b:ak}{o:Obj},s₁.heap.get? b=some o->H b=none->(pB s₁.heap H).get? b=some o:=λe n=>Q7 e n;let Q:∀{b:ak}{m:Str->Option ah},s₁.heap.Ns b m->(pB s₁.heap H).Ns b m:=λ{b m}O=>by let⟨o,es,ep,e,d,r⟩:=O;exact⟨o,es,ep,l e (noD e d),d,r⟩
  let hKb:K.In (pB s₁.heap H):=λb o e=>l (KX b o e) (by
   by_cases C:b=a
   ·subst C;rw[eA];rcases hS with z|⟨o',z,_⟩
    ·exact z
    ·rw[hK (by rw[z];simp)]at e;cases e
   ·exact eN b C λB=>by rw[(nT b B).2]at e;cases e)
  let hM:Mod K mg (pB s₁.heap H):=⟨hKb,Q hns,⟨mb,Q I,hbb⟩,let ⟨mc,C,B⟩:=hlim;⟨mc,Q C,B⟩⟩
  let hBb:BMod (pB s₁.heap H) mg:=by let⟨bm,ob,C,B,h3,h4,h5,h6⟩:=hB;exact⟨bm,ob,C,B,l h3 (no h3 (λz=>by subst z;cases h6) λz=>by subst z;cases h6),h4,h5,h6⟩
  let e0:rT P w K mg (pB s₁.heap H) mB [] s₁ H:=⟨rfl,hM,λb o e=>NA e,Ih (Qj _ _),trivial,λb I=>bo (show b∈([]:List ak) from I) (by simp),hok,.of_eq hg⟩
  let sr:SR K (ts.map (·.1)) H (ts.map λp=>.tbl p.2.1 p.2.2):=⟨by simp,hnd,λn b o e1 e2=>by
   rw[au]at e1 e2;cases e:ts[n]? with|none=>rw[e]at e1;cases e1|some p=>
    rw[e]at e1 e2;cases e1;cases e2;let Y:=ax e;exact⟨(G p Y).2.1,#[],eT _ (i5 Y),trivial,λ_ _ z=>by cases z⟩⟩
  let⟨st',est⟩:=hsp;let sp:nh K 1 g [.ref a] H (λv _=>v=.bl true) E0:=⟨rfl,_,_,_,sr,.cons (.lit fz (RS U)) .nil,by rw[est];intro ρ' H' _ _ v rv;cases rv;rfl⟩
  refine lL ((F _ hBb).run mB [] s₁ H ⟨[.ref a],[]⟩ [.ref a] [.ref a] _ _ hr e0 (hbind s₁ (.ref a)) (.cons rfl .nil) sp) λr E h=>?_;cases r with|error e=>exact h.elim|ok fl=>
   cases fl with|next=>exact c_ h|brk=>exact c_ h|cont=>exact c_ h|ret u=>
    let⟨v,H',os,bare,un,hok',r',q⟩:=h;let q':v=.bl true:=q;subst q';obtain rfl:u=dE true:=r';let all:∀b o,s₁.heap.get? b=some o->E.heap.get? b=some o\/(b∈ts.map (·.1)/\o=fj #[]/\∃more,E.heap.get? b=some (fj more)):=λb o e=>by
     by_cases C:b=a
     ·subst C;rcases hS with z|⟨o',z,zo⟩
      ·exact .inl (un.keep b o e (eA.trans z) (by intro z;exact bo (show b∈([]:List ak) from z) (by simp)) (by simp))
      ·let z2:=un.frzs b o' _ (eA.trans z);let⟨e2,_⟩:=hok' b _ z2;rw[ha]at e;cases e;subst zo;exact .inl e2
     ·by_cases B:b∈ts.map (·.1)
      ·let⟨more,z2⟩:=un.tbls b #[] (eT b B);have:=(nT b B).1;rw[e]at this;exact .inr ⟨B,aF this,_,hok' b _ z2⟩
      ·exact .inl (un.keep b o e (eN b C B) (by intro z;exact bo (show b∈([]:List ak) from z) (by simp)) (by simp))
    refine⟨rfl,⟨λb o e=>?_,λb o e=>?_⟩,os,bare⟩
    ·rcases all b o e with z|⟨B,rfl,more,z⟩
     ·exact .inl z
     ·let⟨p,Y,rfl⟩:=bQ.mp B;let⟨l,o',h,c,_,_,_,_,g⟩:=(G p Y).2.1;exact .inr (.inl ⟨((pf KX g).tab e).isCodeTable,rfl,#[],more,rfl,by rw[z];simp⟩)
    ·rcases all b o e with z|⟨_,_,more,z⟩
     ·exact⟨_,z⟩
     ·exact⟨_,z⟩
 cases hk:K.lookup a with
 |some o=>
  let e:=KX a o hk;rw[ha]at e;cases e;exact J none (.inl rfl) (λz=>bo rfl z) _ rfl (.inr ⟨_,L.toArray,_,hk,rfl,rfl,rfl,by rw[aL,lenV];exact hl,by simpa using rv⟩)
 |none=>exact J (some (.frz { cls:=.type "list",data:=.seq L.toArray } (.lst (U.map V.int)))) (.inr ⟨_,rfl,rfl⟩) (λ_=>hk) _ rfl (.inl ⟨_,aJ rfl⟩)
def UD{l:yL}{n k:Nat}{YP:bR->bN->Prop}{d:DefRec}{K:Params->ai}(ts:List (ak×Str×Str))(hn:l.most=some n) (Q:n<=sizeLine) (hdf:d.params.defaults=[]) (hr:iJ k mB) (hY:∀(w:bR)(h:bN),YP w h->(K w.params).In h/\∀P∈ts.map (·.1),h.get? P=some (fj #[])) (O:(ts.map (·.1)).Nodup)(J:∀(w:bR),∀p∈ts,TabOf (K w.params) p.2.1 p.1/\(K w.params).lookup p.1=none)(F:∀(w:bR)(mg:Str->Option ah)(H:ak)(h:bN),(K w.params).In h->h.Ns cW mg->mg d.name=some (.ref H)->∃fd:dq,(∀(s:aq)(u:ah),tx s fd ⟨[u],[]⟩ [(x,u)])/\∀base:bN,BMod base mg->mX l.prog w (K w.params) mg base rm k H fd [x] (nh (K w.params) 1 g))(L:∀E:List Int,E.length<=n->∃I,g [.lit (E.map D.int)] (ts.map λp=>.tbl p.2.1 p.2.2)=.ok (.bl true) I):Al q v XP YP l.row.toRowW d [] (λf vs=>xN f vs):=by
 refine Att.vc hn hdf λw s₀ s₁ mg mb H o pm cd doc a vs E G Y ho hd hcd U C B c hg=>?_;let⟨KX,KT⟩:=hY w _ Y;let⟨fd,hb,hF⟩:=F w mg H _ KX G.T.g U;let⟨bm,ob,b1,b2,b3,b4,b5,b6⟩:=G.T.bmain;exact V6 KX G.T.g G.T.b G.T.builtins G.T.nolimit hg ⟨bm,ob,b1,b2,b3,b4,b5,b6⟩ O (λp hp=>⟨KT _ (i5 hp),J w p hp⟩) C B (c5 c Q) hr hF hb (L E c)
noncomputable def DB(N ps fr:List Str)(sc:dB):Bool:=(sc.kind == .function)&&(sc.isCoroutine == false)&&(sc.isGenerator == false)&&decide N.Nodup&&(N.take (ps++fr).length == ps++fr)&&(ps.all λx=>sc.names.lookup x == some .local||sc.names.lookup x == some .cell)&&(fr.all λx=>sc.names.lookup x == some .free)&&(sc.names.all λy=>y.2 != .free||fr.contains y.1)&&(sc.names.all λy=>y.2 != .cell || !fr.contains y.1)
def Qi1(h:DB N ps fr sc=true):sy N ps fr sc:=by
 unfold DB at h;simp only[br,beq_iff_eq,decide_eq_true_eq,cU,lZ,bne_iff_ne,ne_eq]at h;obtain⟨⟨⟨⟨⟨⟨⟨⟨G,E⟩,C⟩,B⟩,v⟩,u⟩,o⟩,l⟩,g⟩:=h;refine⟨G,E,C,B,v,u,o,λx c=>?_,λx c z=>?_⟩
 ·rcases l _ c with q|q
  ·exact bo rfl q
  ·simpa using q
 ·rcases g _ z with q|q
  ·exact bo rfl q
  ·simp at q;exact q c
noncomputable def zx(s:Stmt):Pos:=match s with| .FunctionDef _ _ _ _ _ _ _ _ _ p=>p|_=>⟨0,0,0,0⟩
noncomputable def defName(s:Stmt):Str:=match s with| .FunctionDef x .. => x|_=>""
section
variable{K:ai}
def Td(R:mO){st:Stmt}{k n m:Nat}(E:st=.FunctionDef (defName st) (dN st) (cP st) [] none [] (bc st) none (defName st) (zx st))(S:DB (nm++fr++r) nm fr (bc st)=true)(g:oX (bc st).names=fr)(I:∀(q:Str)(cl:List (Str×ak))(dc pm c ct:ah)(us:List ah),us.length=nm.length->g9 (rf (defName st) q (dN st) (cP st) (bc st) cl .none .none dc pm none c ct) ⟨us,[]⟩=pure (nm.zip us))(B:(pA (n8 R 40) ⟨bc st,nm++fr++r,k,G,Z,C,H,true,W,none⟩ (cP st)).map (·.1)=some f) (O:cR P w K mg base G) (J:vT mg Z) (Q:xD K mg C) (L:yN P w K mg base W) (o:nm.length=n:=by rfl) (u:(nm++fr++r).length=m:=by rfl):
  sx P w K mg base (k+1) n (.dfn st) (bW m f):=by
 let h:=Qi1 S;let⟨v,_,U⟩:=cG.mp B;have:sx P w K mg base (k+1) n (.dfn (.FunctionDef (defName st) (dN st) (cP st) [] none [] (bc st) none (defName st) (zx st))) (bW m f):=Xq h u o g I λq a' c cl A outer Y Hp l=>U ▸ v.2 ⟨WA,rfl,h.nd,l,O,J,Q,iR,λ_=>⟨by show (if (bc st).kind.isAnnotationScope=true then _ else (bc st).kind)=_;rw[h.kind];rfl,λ_=>rfl⟩,L,λ_ z=>nomatch z⟩;rw[<- E]at this;exact this
end
theorem Hy:∀{l:List Arg},l.all (λa=>a.annotation.isNone)=true->annotationsOf l env=[]
 |[],_=>rfl|⟨n,none,p⟩::l,h=>by rw[cI,br]at h;exact Hy (l:=l) h.2|⟨n,some a,p⟩::l,h=>by rw[cI,br]at h;cases h.1
noncomputable def zn(a:iM):Bool:=a.posonlyargs.isEmpty&&a.vararg.isNone&&a.kwonlyargs.isEmpty&&a.kwarg.isNone&&a.defaults.isEmpty&&a.kw_defaults.isEmpty&&a.args.all λx=>x.annotation.isNone
def Yx(h:zn a=true):a.defaults=[]/\a.kw_defaults=[]/\annTrees a none env=[]:=by
 let⟨G,E,g,H,I,c,d⟩:=a;unfold zn at h;simp only[br]at h;obtain⟨⟨⟨⟨⟨⟨C,B⟩,v⟩,u⟩,q⟩,o⟩,l⟩:=h;obtain rfl:=iT.mp C;obtain rfl:=iT.mp v;obtain rfl:=iT.mp q;obtain rfl:=iT.mp o;cases g with|some _=>cases B|none=>
  cases c with|some _=>cases u|none=>
   refine⟨rfl,rfl,?_⟩
   show annotationsOf (E++[]++[]++[]++[]) env++[]=[]
   rw[bB,bB,bB,bB,bB];exact Hy l
section
noncomputable def T0{β:Type}(s:Stmt)(k:∀w a b sc p,s=.FunctionDef w a b [] none [] sc none w p->Option β):Option β:=match s,k with| .FunctionDef w a b [] none [] sc none w' p,k=>if h:w'=w then k w a b sc p (h ▸ rfl) else none|_,_=>none
abbrev Yk(c:RC)(i:Nat)(es:List Expr):={r:CA // (∀{X:Cx},Good X c->PA X es (Ek X.K r (zy i)))/\es.all rN=true/\∀l st ds g,r l st=.ok ds g->ds.length+1=es.length}
def Fp(q:tV)(c:RC)(i:Nat):∀es:List Expr,Option (Yk c i es)
 |[]=>none
 |[e] => BG e λx p h => wh ((c.N[i]? = some x /\ (c.sc.names.lookup x = some .local \/ c.sc.names.lookup x = some .cell \/ c.sc.names.lookup x = some .free)) /\ ui x = true) λz => some ⟨bn, λg => by
   subst h;let B:=Bx z.2;refine Y6 (Qa (by rw[g.N];exact z.1.1) ?_ B.d B.c);rcases z.1.2 with h|h|h
   ·exact g.S.vis _ _ h (.inl rfl)
   ·exact g.S.vis _ _ h (.inr (.inl rfl))
   ·exact g.S.vis _ _ h (.inr (.inr rfl)),by subst h;rfl,λl st ds u e=>by cases e;rfl⟩
 |e :: es => wh (rN e = true) λC => (q.e c e).bind λf => (Fp q c i es).bind λr => some ⟨aw f.1 r.1, λg => SW (f.2 g) (r.2.1 g) (rJ C), by rw [cI, C, r.2.2.1]; rfl, λl st ds u e => by
   unfold aw bnd at e;cases v:f.1 l st with|bad=>rw[v]at e;cases e|exc _ _=>rw[v]at e;cases e|ok d a7=>
    rw[v]at e;dsimp only at e;cases o:r.1 l a7 with|bad=>rw[o]at e;cases e|exc _ _=>rw[o]at e;cases e|ok ds1 st2=>
     rw[o]at e;cases e;rw[bU,bU,r.2.2.2 l a7 ds1 _ o]⟩
def DC(c:RC)(names:List (Str×dL)):Bool:=decide (oX names).Nodup&&((oX names).all λx=>c.N[c.N.idxOf x]? == some x)&&names.all λy=>y.2 != .free||c.sc.names.lookup y.1 == some .cell
def Ye(g:Good X c)(C:c.top=true)(h:DC c names=true):ur X names ((oX names).map c.N.idxOf):=by
 unfold DC at h;simp only[br,decide_eq_true_eq,cU,lZ,bne_iff_ne,ne_eq,beq_iff_eq]at h;let⟨⟨H,G⟩,E⟩:=h;refine⟨λx B=>?_,H,?_⟩
 ·rcases E _ B with z|z
  ·exact bo rfl z
  ·let u:X.env.kindOf x=some .cell:=((g.kd C).2 x).trans z;refine⟨.inl u,?_⟩;rcases (g.S.loc x .cell z (.inr rfl)).2 with q|q
   ·exact q
   ·have:X.env.kindOf x=some .local:=q;rw[u]at this;cases this
 ·let : ∀(l : List Str), (∀x ∈ l, c.N[c.N.idxOf x]? = some x) -> fw (λ(x : Str)i => X.N[i]? = some x) l (l.map c.N.idxOf) := by
    intro l
    induction l with|nil=>exact λ_=>.nil|cons x l ih=>exact λo=>.cons (by rw[g.N];exact o x (.head _)) (ih λy v=>o y (.tail _ v))
  exact this _ G
def Mn(q:tV)(c:RC)(I:List Stmt):Option (Hk c I):=
 v2 I λs1 s2 h=>T0 s1 λw J u sc dp H=>MB s2 λo rp G=>oS o λe E=>Cu e λQ bp e3 U C=>D_ e3 λx p as pos h5=>vC as λa v h6=>oS c.T λt h7=>(JF c.G x).bind λr=>
  wh ((Q=aD "max"/\c.bl Q=true)/\(c.glo x=true/\ui x=true/\r.1.k<=c.k/\r.1.n=(a::v).length)/\(c.top=true/\c.N[c.N.idxOf w]?=some w/\c.sc.names.lookup w=some .local)/\zn J=true/\DC c sc.names=true) λz=>
   (Fp q c (c.N.idxOf w) (a::v)).bind λO=>some ⟨dQ (c1 (xG oD) (py t.1 t.2 w r.1.g (.dfn (.FunctionDef w J u [] none [] sc none w dp)) ((oX sc.names).map c.N.idxOf) (c.N.idxOf w) O.1)),λg=>by subst h H G E C h5 h6;let⟨⟨rfl,Y⟩,⟨H,G,E,C⟩,⟨L,k2,k3⟩,ap,dw⟩:=z;let⟨f,fd,m,F,kp,B,_⟩:=(g.G _ _ r.2).ex;let⟨x',y,l⟩:=O.2;rw[cI,br]at y;let⟨a1,a2,a3⟩:=Yx (env:=_) ap;exact Ub (g.T t h7) g.nd (by rw[g.N];exact k2) (((g.kd L).2 _).trans k3) a1 a2 a3 (Ye g L dw) F (g.hr.mono E) (g.S.glo _ (beq_iff_eq.mp H)) m kp B (x' g) (by rw[C];exact l) (Q9 (Lv g.S.calm)) (g.gl Y).1 (g.gl Y).2 (by nofun) (wP (by nofun)) (by nofun) (Bx G).d (rJ y.1) (Cv y.2)⟩
end
section
variable{K:ai}
def Uo(R:mO){j k n m:Nat}(F:uW K mg x g)(S:rA (ps++r) ps (bc g)=true)(b:∀(kV l J:ah)(U:Option ak)(o ct:ah)(q:List ah),q.length=ps.length->g9 (cF x x (dN g) (cP g) (bc g) .none kV l J U o ct) { pos:=q }=pure (ps.zip q))(hb:(Mn (n8 R 40) ⟨bc g,ps++r,k,G,Z,C,H,true,([],[]),some (j,x)⟩ (cP g)).map (·.1)=some h) (L:cR P w K mg base G) (hZ:vT mg Z) (hC:xD K mg C) (hB:BMod base mg) (hn:ps.length=n:=by rfl) (hm:(ps++r).length=m:=by rfl):cR P w K mg base ((x,⟨n,k+1,ps,false,bW m h⟩)::G):=by
 let⟨f,fd,c,P',F,u,h1,O,h3⟩:=F;let I:=Ee S;let ⟨v,_,e⟩:=cG.mp hb;refine Fd u (R4 F I hn hm λo A outer s Hp E B hr=>e ▸ v.2 ⟨IY,rfl,I.nd,hr,L,hZ,hC,iR,λ_=>⟨by show (if (bc g).kind.isAnnotationScope=true then _ else (bc g).kind)=_;rw[I.kind];rfl,λ_=>rfl⟩,Gz,λt z=>?_⟩) F.kp (F.binds b) nofun L;cases z;let⟨oc,od,kV,l,J,U,Q,ct,Y,e1,lk,_⟩:=F.ex;exact⟨f,_,fd,c,P',h1,lk,rfl,O,h3,by rw[<- O,B];rfl,rfl,hB⟩
end
end MM
namespace MM
open PySem
abbrev At{α:Type}(_:α->aV->Prop):Type:=aV
inductive wp{α:Type}(m:M α)(Q:α->aV->Prop)(s:At Q):Prop
 |intro (a:α) (s':aV) (h:m s=.ok a s') (q:Q a s'):wp m Q s
theorem sN{α:Type}{m:M α}{Q:α->aV->Prop}{s:aV}:wp m Q s=(match m s with
 | .ok a s'=>Q a s'
 |_=>False):=by
 apply propext;constructor
 ·rintro ⟨a,s',h,q⟩;rw[h];exact q
 ·intro h;cases e:m s with|ok a s'=>rw[e]at h;exact⟨a,s',e,h⟩|exc _ _=>rw[e]at h;exact h.elim|bad=>rw[e]at h;exact h.elim
section
variable{α β:Type}{Q:α->aV->Prop}{s:aV}
def c6{m:M α}{a:α}(h:m s=.ok a c):wp m Q s=Q a c:=by rw[sN,h]
def vt{m:M α}(h:m s=.bad):wp m Q s=False:=by rw[sN,h]
def iU{m:M β}{Q c:β->aV->Prop}(h:∀a g,Q a g=c a g):wp m Q s=wp m c s:=by rw[show Q=c from funext λa=>funext λt=>h a t]
def cE{a:α}:wp (ret a) Q s=Q a s:=c6 rfl
def gQ:wp (bad:M α) Q s=False:=vt rfl
def d8{m:M β}{f:β->M α}:wp (bnd m f) Q s=wp m (λa c=>wp (f a) Q c) s:=by simp only[sN];unfold bnd;cases m s<;>rfl
def eJ{c:Prop}[Decidable c]{m:M α}:wp (chk c m) Q s=(c/\wp m Q s):=by
 unfold chk;by_cases h:c
 ·simp[h]
 ·simp[h,gQ]
def gR{o:MO}{Q:D->aV->Prop}:wp (alloc o) Q s=Q (.ref s.length) (s++[o]):=c6 rfl
def eV{n:Nat}{Q:List D->aV->Prop}(h:s[n]?=some (.lst ds)):wp (getL n) Q s=Q ds s:=by rw[sN];unfold getL;rw[h]
def oC{n:Nat}{Q:Unit->aV->Prop}(h:s[n]?=some (.lst ds)):wp (putL n es) Q s=Q Unit.unit (s.set n (.lst es)):=by rw[sN];unfold putL;rw[h]
def wM{m:M α}{g:α->aV->Prop}(h:wp m Q s)(f:∀a c,Q a c->g a c):wp m g s:=by
 simp only[sN]at *;cases e:m s with|ok a c=>rw[e]at h;exact f a c h|exc _ _=>rw[e]at h;exact h|bad=>rw[e]at h;exact h
def II{c:Prop}[Decidable c]{m n:M α}:wp (if c then m else n) Q s=if c then wp m Q s else wp n Q s:=by split<;>rfl
end
def Ft{ds:List D}{i:Int}(c:0<=i)(h:ds[i.toNat]?=some d):cL ds i=ret d:=by let g:i.toNat < ds.length:=(ae.mp h).1;unfold cL MM.oz;rw[aJ c,aJ ()];dsimp only;rw[h]
def zr{n:Nat}{b:CS}{ds:List D}{Q:D->aV->Prop}{s:aV}:wp (bW n b ds) Q s=wp (b (ds.map some++bw (n-ds.length) none)) (λf c=>wp (yW f) Q c) s:=by unfold bW;rw[d8]
def Qje{g:CG}{b:CS}{same:aV->Prop}{Q:vk->aV->Prop}(W:List D->Loc->aV->Prop)(u:∀l s,W [] l s->wp (chkS same) (λ_ C=>Q (.next l) C) s)(o:∀d ds l s,W (d::ds) l s->wp (chkS same) (λ_ B=>wp (g d l) (λE v=>wp (b E) (λf c=>match f with
   | .next l2=>W ds l2 c| .cnt l2=>W ds l2 c| .brk l2=>Q (.next l2) c
   | .ret d=>Q (.ret d) c) v) B) s):∀ds l s,W ds l s->wp (pz g b same ds l) Q s:=by
 intro ds
 induction ds with
 |nil=>
  intro l s h;unfold pz;rw[d8];exact wM (u l s h) λ_ C q=>by rw[cE];exact q
 |cons d ds ih=>
  intro l s h;unfold pz;rw[d8];refine wM (o d ds l s h) λ_ B q=>?_;rw[d8];refine wM q λE v q=>?_;rw[d8];refine wM q λf c q=>?_;cases f with|next l2=>exact ih l2 c q|cnt l2=>exact ih l2 c q|brk l2=>show wp (ret _) _ _;rw[cE];exact q|ret d=>show wp (ret _) _ _;rw[cE];exact q
def IS{g:CG}{t:CT}{e:CE}{same:aV->Prop}{Q:List D->aV->Prop}(W:List D->List D->Loc->aV->Prop)(B:∀c l s,W c [] l s->wp (chkS same) (λ_ C=>Q c C) s)(u:∀c d ds l s,W c (d::ds) l s->wp (chkS same) (λ_ H=>wp (g d l) (λo G=>wp (t o) (λb v=>if b=true then wp (e o) (λx E=>W (c++[x]) ds o E) v else W c ds o v) G) H) s):
  ∀ds c l s,W c ds l s->wp (collect g t e same ds l) (λxs C=>Q (c++xs) C) s:=by
 intro ds
 induction ds with
 |nil=>
  intro c l s h;unfold collect;rw[d8];exact wM (B c l s h) λ_ C q=>by rw[cE,bB];exact q
 |cons d ds ih=>
  intro c l s h;unfold collect;rw[d8];refine wM (u c d ds l s h) λ_ H q=>?_;rw[d8];refine wM q λo G q=>?_;rw[d8];refine wM q λb v q=>?_;cases b with|false=>exact ih c o v q|true=>
   show wp (bnd (e o) _) _ v;rw[d8];refine wM q λx E q=>?_;rw[d8];refine wM (ih (c++[x]) o E q) λxs I q=>?_;rw[cE];rw[bz]at q;exact q
def P7{e:CE}{xs:List D}{same:aV->Prop}{Q:List D->aV->Prop}(W:Nat->List D->aV->Prop)(E:∀i c s,W i c s->same s)(H:W 0 [] s)(g:∀(i:Nat)d c s,xs[i]?=some d->W i c s->wp (e (some d::caps)) (λx C=>W (i+1) (c++[x]) C) s) (u:∀c s,W xs.length c s->Q c s):wp (collect (aS 0) bZ e same xs (none::caps)) Q s:=by
 let chk:∀{s:aV}{R:Unit->aV->Prop},same s->R Unit.unit s->wp (chkS same) R s:=λh r=>by rw[sN];unfold chkS;rw[aJ h];exact r
 refine IS (Q:=Q) (λc ds l s=>∃i B,ds=xs.drop i/\i<=xs.length/\l=B::caps/\W i c s) (λc l s ⟨i,B,v,G,_,w⟩=>?_) (λc d ds l s ⟨i,B,v,G,el,w⟩=>?_) xs [] _ s ⟨0,none,by simp,bH _,rfl,H⟩
 ·let : i = xs.length := by have:=cQ dZ v;simp at this;ext
  subst this;exact chk (E _ _ _ w) (u c s w)
 ·subst el;let o:i < xs.length:=by have:=cQ dZ v;simp at this;ext
  rw[dF o]at v;let⟨J,I⟩:=mI v;refine chk (E _ _ _ w) ?_
  show wp (ret _) _ s;rw[cE]
  show wp (ret true) _ s;rw[cE]
  show wp (e (some d::caps)) _ s;exact wM (g i d c s (by rw[J];exact af o) w) λx C q=>⟨i+1,some d,I,o,rfl,q⟩
def Sy{n i:Nat}(h:i < n):(i9 0 n)[i]?=some (.int i):=by unfold i9;rw[au,mq h];simp
def iB{n:Nat}(h:n<=1000):n<=fK:=c5 h (by decide)
def rK{n:Nat}(h:n<=1000):n < fK:=zS h (by decide)
def PJ{g:CG}{b:CS}{same:aV->Prop}{xs:List D}{l:Loc}{s:aV}{Q:vk->aV->Prop}(W:Nat->Loc->aV->Prop)(G:∀i l s,W i l s->same s)(J:W 0 l s)(o:∀(i:Nat)d l s,xs[i]?=some d->W i l s->wp (g d l) (λE C=>wp (b E) (λf u=>match f with
   | .next l2=>W (i+1) l2 u| .cnt l2=>W (i+1) l2 u| .brk l2=>Q (.next l2) u
   | .ret d=>Q (.ret d) u) C) s) (v:∀l s,W xs.length l s->Q (.next l) s):wp (pz g b same xs l) Q s:=by
 let chk:∀{s:aV}{R:Unit->aV->Prop},same s->R Unit.unit s->wp (chkS same) R s:=λh r=>by rw[sN];unfold chkS;rw[aJ h];exact r
 refine Qje (λds l s=>∃i,ds=xs.drop i/\i<=xs.length/\W i l s) (λl s ⟨i,B,I,w⟩=>?_) (λd ds l s ⟨i,B,I,w⟩=>?_) xs l s ⟨0,by simp,bH _,J⟩
 ·let : i = xs.length := by have:=cQ dZ B;simp at this;ext
  subst this;exact chk (G _ _ _ w) (v l s w)
 ·let c : i < xs.length := by have:=cQ dZ B;simp at this;ext
  rw[dF c]at B;let⟨L,H⟩:=mI B;refine chk (G _ _ _ w) ?_;refine wM (o i d l s (by rw[L];exact af c) w) λE C q=>wM q λf u q=>?_;cases f with|next l2=>exact⟨i+1,H,c,q⟩|cnt l2=>exact⟨i+1,H,c,q⟩|brk l2=>exact q|ret d=>exact q
end MM
local macro_rules|`(tactic| bv_omega)=>`(tactic| first|rfl|exact MM.c6 rfl|exact MM.vt rfl)
local macro_rules|`(tactic| ac_rfl)=>`(tactic| first|rfl|simp only[MM.cE,MM.gR,MM.gQ]|(refine MM.iU λ_ _=>?_;simp only[MM.cE,MM.gR,MM.gQ]))
namespace MM
open PySem
def nr{α:Sort u}{a b:α}(h:a=b):a=b:=h
section
variable{Q:D->aV->Prop}{R:vk->aV->Prop}{T:Bool->aV->Prop}{A:List D->aV->Prop}{G:Loc->aV->Prop}{I:Wk->aV->Prop}{s:aV}{l:Loc}
def u9{a b:CS}: wp (aP a b l) R s=wp (a l) (λf c=>match f with
  | .next l'=>wp (b l') R c| .ret d=>R (.ret d) c| .brk l'=>R (.brk l') c
  | .cnt l'=>R (.cnt l') c) s:=by
 unfold aP;rw[d8];congr 1;funext f c;cases f<;>first|bv_omega
def r9:wp (aW l) R s=R (.next l) s:=c6 rfl
def yZ{g:CG}{a:CE}:wp (b8 g a l) R s=wp (a l) (λd h=>wp (g d l) (λo c=>R (.next o) c) h) s:=by unfold b8;rw[d8];congr 1;funext d h;rw[d8];ac_rfl
def EQ{a:CE}:wp (dQ a l) R s=wp (a l) (λd c=>R (.ret d) c) s:=by unfold dQ;rw[d8];ac_rfl
def G_{a:CE}:wp (kq a l) R s=wp (a l) (λd c=>R (.next l) c) s:=by unfold kq;rw[d8];ac_rfl
def G6{t:CT}{a b:CS}:wp (m9 t a b l) R s=wp (t l) (λc g=>if c=true then wp (a l) R g else wp (b l) R g) s:=by unfold m9;rw[d8];congr 1;funext c g;rw[II]
def BC{a:CE}: wp (cV a l) T s=wp (a l) (λx c=>match x with
  | .bl b=>T b c
  |_=>False) s:=by
 unfold cV;rw[d8];congr 1;funext x c;cases x<;>first|bv_omega
def F9{a:CE}:wp (sC a l) T s=wp (a l) (λx c=>wp (A6 x) T c) s:=by unfold sC;rw[d8]
def Gy{a:CT}:wp (sH a l) T s=wp (a l) (λx c=>T (!x) c) s:=by unfold sH;rw[d8];ac_rfl
def FG{a b:CT}:wp (oG a b l) T s=wp (a l) (λc g=>if c=true then wp (b l) T g else T false g) s:=by unfold oG;rw[d8];congr 1;funext c g;rw[II];ac_rfl
def Kb{a b:CT}:wp (sk a b l) T s=wp (a l) (λc g=>if c=true then T true g else wp (b l) T g) s:=by unfold sk;rw[d8];congr 1;funext c g;rw[II];ac_rfl
def gS{i:Nat}:wp (aS i d l) G s=G (l.set i (some d)) s:=c6 rfl
def K9{c:Option D}{d:D}{b:Option D}{r:Loc}{Q:Loc->aV->Prop}:wp (aS 1 d (c::b::r)) Q s=Q (c::some d::r) s:=gS
def Ni{g c:Option D}{d:D}{b:Option D}{r:Loc}{Q:Loc->aV->Prop}:wp (aS 2 d (g::c::b::r)) Q s=Q (g::c::some d::r) s:=gS
def M1{h g c:Option D}{d:D}{b:Option D}{r:Loc}{Q:Loc->aV->Prop}:wp (aS 3 d (h::g::c::b::r)) Q s=Q (h::g::c::some d::r) s:=gS
def Ka{o h g c:Option D}{d:D}{b:Option D}{r:Loc}{Q:Loc->aV->Prop}:wp (aS 4 d (o::h::g::c::b::r)) Q s=Q (o::h::g::c::some d::r) s:=gS
def F0{q o h g c:Option D}{d:D}{b:Option D}{r:Loc}{Q:Loc->aV->Prop}:wp (aS 5 d (q::o::h::g::c::b::r)) Q s=Q (q::o::h::g::c::some d::r) s:=gS
def B2{u q o h g c:Option D}{d:D}{b:Option D}{r:Loc}{Q:Loc->aV->Prop}:wp (aS 6 d (u::q::o::h::g::c::b::r)) Q s=Q (u::q::o::h::g::c::some d::r) s:=gS
def KY{v u q o h g c:Option D}{d:D}{b:Option D}{r:Loc}{Q:Loc->aV->Prop}:wp (aS 7 d (v::u::q::o::h::g::c::b::r)) Q s=Q (v::u::q::o::h::g::c::some d::r) s:=gS
def Lp{B v u q o h g c:Option D}{d:D}{b:Option D}{r:Loc}{Q:Loc->aV->Prop}:wp (aS 8 d (B::v::u::q::o::h::g::c::b::r)) Q s=Q (B::v::u::q::o::h::g::c::some d::r) s:=gS
def Fc{C B v u q o h g c:Option D}{d:D}{b:Option D}{r:Loc}{Q:Loc->aV->Prop}:wp (aS 9 d (C::B::v::u::q::o::h::g::c::b::r)) Q s=Q (C::B::v::u::q::o::h::g::c::some d::r) s:=gS
def Go{E C B v u q o h g c:Option D}{d:D}{b:Option D}{r:Loc}{Q:Loc->aV->Prop}:wp (aS 10 d (E::C::B::v::u::q::o::h::g::c::b::r)) Q s=Q (E::C::B::v::u::q::o::h::g::c::some d::r) s:=gS
def G4{H E C B v u q o h g c:Option D}{d:D}{b:Option D}{r:Loc}{Q:Loc->aV->Prop}:wp (aS 11 d (H::E::C::B::v::u::q::o::h::g::c::b::r)) Q s=Q (H::E::C::B::v::u::q::o::h::g::c::some d::r) s:=gS
def EH{J H E C B v u q o h g c:Option D}{d:D}{b:Option D}{r:Loc}{Q:Loc->aV->Prop}:wp (aS 12 d (J::H::E::C::B::v::u::q::o::h::g::c::b::r)) Q s=Q (J::H::E::C::B::v::u::q::o::h::g::c::some d::r) s:=gS
def Du{o i:CE}{d:D}:wp (kW o i d l) G s=wp (o l) (λy g=>wp (i l) (λz c=>wp (kL y z d) (λ_ h=>G l h) c) g) s:=by unfold kW;rw[d8];congr 1;funext y g;rw[d8];congr 1;funext z c;rw[d8];ac_rfl
def lR{i:Nat}: wp (ao i l) Q s=match l[i]? with|some (some d)=>Q d s|_=>False:=by
 unfold ao;rcases l[i]? with _|_|d<;>first|bv_omega
def Fu{d:D}{r:Loc}:wp (ao 0 (some d::r)) Q s=Q d s:=lR
def A5{c:Option D}{d:D}{r:Loc}:wp (ao 1 (c::some d::r)) Q s=Q d s:=lR
def JK{g c:Option D}{d:D}{r:Loc}:wp (ao 2 (g::c::some d::r)) Q s=Q d s:=lR
def MT{h g c:Option D}{d:D}{r:Loc}:wp (ao 3 (h::g::c::some d::r)) Q s=Q d s:=lR
def LD{o h g c:Option D}{d:D}{r:Loc}:wp (ao 4 (o::h::g::c::some d::r)) Q s=Q d s:=lR
def Gc{q o h g c:Option D}{d:D}{r:Loc}:wp (ao 5 (q::o::h::g::c::some d::r)) Q s=Q d s:=lR
def No{u q o h g c:Option D}{d:D}{r:Loc}:wp (ao 6 (u::q::o::h::g::c::some d::r)) Q s=Q d s:=lR
def KO{v u q o h g c:Option D}{d:D}{r:Loc}:wp (ao 7 (v::u::q::o::h::g::c::some d::r)) Q s=Q d s:=lR
def JG{B v u q o h g c:Option D}{d:D}{r:Loc}:wp (ao 8 (B::v::u::q::o::h::g::c::some d::r)) Q s=Q d s:=lR
def KJ{C B v u q o h g c:Option D}{d:D}{r:Loc}:wp (ao 9 (C::B::v::u::q::o::h::g::c::some d::r)) Q s=Q d s:=lR
def Gf{E C B v u q o h g c:Option D}{d:D}{r:Loc}:wp (ao 10 (E::C::B::v::u::q::o::h::g::c::some d::r)) Q s=Q d s:=lR
def Hn{H E C B v u q o h g c:Option D}{d:D}{r:Loc}:wp (ao 11 (H::E::C::B::v::u::q::o::h::g::c::some d::r)) Q s=Q d s:=lR
def HQ{J H E C B v u q o h g c:Option D}{d:D}{r:Loc}:wp (ao 12 (J::H::E::C::B::v::u::q::o::h::g::c::some d::r)) Q s=Q d s:=lR
def wG{d:D}:wp (aQ d l) Q s=Q d s:=c6 rfl
def JC{g:D->M D}{a:CE}:wp (c1 g a l) Q s=wp (a l) (λx c=>wp (g x) Q c) s:=by unfold c1;rw[d8]
def Fh{g:D->D->M D}{a b:CE}:wp (c2 g a b l) Q s=wp (a l) (λx h=>wp (b l) (λy c=>wp (g x y) Q c) h) s:=by unfold c2;rw[d8];congr 1;funext x h;rw[d8]
def yO{g:List D->M D}{a:CA}:wp (bO g a l) Q s=wp (a l) (λx c=>wp (g x) Q c) s:=by unfold bO;rw[d8]
def BL:wp (bn l) A s=A [] s:=c6 rfl
def y0{a:CE}{r:CA}:wp (aw a r l) A s=wp (a l) (λx g=>wp (r l) (λxs c=>A (x::xs) c) g) s:=by unfold aw;rw[d8];congr 1;funext x g;rw[d8];ac_rfl
def Gq{a:CA}:wp (eE a l) Q s=wp (a l) (λxs c=>xs.length<=fK/\Q (.tup xs) c) s:=by unfold eE;rw[d8];congr 1;funext x c;rw[eJ];ac_rfl
def Cg{a:CA}:wp (gh a l) A s=wp (a l) (λxs c=>xs.length<=fK/\A xs c) s:=by unfold gh;rw[d8];congr 1;funext x c;rw[eJ];ac_rfl
def Cr{a:CA}:wp (eK a l) Q s=wp (a l) (λxs c=>Q (.ref c.length) (c++[.lst xs])) s:=by unfold eK;rw[d8];ac_rfl
def Ho{g:List D->M D}{a:CA}:wp (i_ g a l) Q s=wp (a l) (λx c=>wp (g x) Q c) s:=by unfold i_;rw[d8]
def Co{n:Nat}{caps:List Nat}{i:CI}{g:CG}{t:CT}{e:CE}:wp (dR n caps i g t e l) A s=wp (i l) (λw c=>w.ds.length<=fK/\wp (collect g t e w.same w.ds (ii n caps l)) A c) s:=by unfold dR;rw[d8];congr 1;funext x c;rw[eJ]
def G9{i:CI}{g:CG}{b:CS}:wp (lE i g b l) R s=wp (i l) (λw c=>wp (pz g b w.same w.ds l) R c) s:=by unfold lE;rw[d8]
def HS{a:CE}: wp (MM.gw a l) I s=wp (a l) (λx c=>match x with
  | .int j=>(-(2^62)<=j/\j < 2^62)/\I ⟨i9 0 j.toNat,eS⟩ c
  |_=>False) s:=by
 unfold MM.gw;rw[d8];congr 1;funext x c;cases x<;>first|bv_omega|(dsimp only;rw[eJ];ac_rfl)
def C2{a:CE}: wp (iV a l) I s=wp (a l) (λx c=>match x with
  | .tup ds=>I ⟨ds,eS⟩ c| .lit ds=>I ⟨ds,eS⟩ c| .ref n=>wp (getL n) (λds g=>I ⟨ds,fW n ds⟩ g) c
  |_=>False) s:=by
 unfold iV;rw[d8];congr 1;funext x c;cases x<;>first|bv_omega|(dsimp only;rw[d8];ac_rfl)
def BE{i j:Int}:wp (fX (.int i) (.int j)) Q s=Q (.int (i+j)) s:=c6 rfl
def Hl{i j:Int}:wp (vg (.int i) (.int j)) Q s=Q (.int (i-j)) s:=c6 rfl
def GS{i j:Int}:wp (tf (.int i) (.int j)) Q s=(qQ i j/\Q (.int (i*j)) s):=by unfold tf uk;rw[eJ];ac_rfl
def Hv{i j:Int}:wp (tX (.int i) (.int j)) Q s=((0 < j/\j < 1073741824)/\Q (.int (i / j)) s):=by unfold tX uk;rw[eJ];ac_rfl
def GR{i j:Int}:wp (o0 (.int i) (.int j)) Q s=(0 < j/\Q (.int (i % j)) s):=by unfold o0 uk;rw[eJ];ac_rfl
def Kq{i j:Int}:wp (By (.int i) (.int j)) Q s=Q (.bl (decide (i < j))) s:=c6 rfl
def LH{i j:Int}:wp (vQ (.int i) (.int j)) Q s=Q (.bl (decide (j < i))) s:=c6 rfl
def Ms{i j:Int}:wp (C0 (.int i) (.int j)) Q s=Q (.bl (decide (j<=i))) s:=c6 rfl
def Ll{i j:Int}:wp (oo (.int i) (.int j)) Q s=Q (.bl (i == j)) s:=c6 rfl
def Md{i j:Int}:wp (B_ (.int i) (.int j)) Q s=Q (.bl !(i == j)) s:=c6 rfl
def uf{ds:List D}{i:Int}:wp (aZ (.tup ds) (.int i)) Q s=wp (cL ds i) Q s:=nr rfl
def AI{n:Nat}{i:Int}:wp (aZ (.ref n) (.int i)) Q s=wp (getL n) (λds c=>wp (cL ds i) Q c) s:=by unfold aZ;rw[d8]
def zc{ds:List D}:wp (gI (.tup ds)) Q s=Q (.int ds.length) s:=c6 rfl
def Cq{n:Nat}:wp (gI (.ref n)) Q s=wp (getL n) (λds c=>Q (.int ds.length) c) s:=by unfold gI;rw[d8];ac_rfl
def C3{b:Bool}:wp (intD (.bl b)) Q s=Q (.int (if b then 1 else 0)) s:=c6 rfl
def ue{n:Nat}{i:Int}{v:D}{U:Unit->aV->Prop}: wp (kL (.ref n) (.int i) v) U s=wp (getL n) (λds c=>wp (match MM.oz ds.length i with
  |some j=>putL n (ds.set j v)
  |none=>bad) U c) s:=by
 unfold kL;rw[d8]<;>congr 1
def DE{d:D}:wp (yW (.ret d)) Q s=Q d s:=c6 rfl
def AD:wp (yW (.next l)) Q s=Q .non s:=c6 rfl
end
def Ap{a:CE}{lo o:CO}{A:List D->aV->Prop}{s:aV}{l:Loc}: wp (sB a lo o l) A s=wp (a l) (λx h=>wp (lo l) (λi g=>wp (o l) (λj c=>match x with
  | .lit ds=>A (cutD ds i j) c| .ref n=>wp (getL n) (λds q=>A (cutD ds i j) q) c
  |_=>False) g) h) s:=by
 unfold sB;rw[d8];congr 1;funext x h;rw[d8];congr 1;funext i g;rw[d8];congr 1;funext j c;cases x<;>first|bv_omega|(dsimp only;rw[d8];ac_rfl)
def C1{A:Option Int->aV->Prop}{s:aV}{l:Loc}:wp (vh l) A s=A none s:=c6 rfl
def Dq{a:CE}{A:Option Int->aV->Prop}{s:aV}{l:Loc}: wp (qU a l) A s=wp (a l) (λx c=>match x with
  | .int i=>A (some i) c
  |_=>False) s:=by
 unfold qU;rw[d8];congr 1;funext x c;cases x<;>first|bv_omega
def C5{a:CE}{I:Wk->aV->Prop}{s:aV}{l:Loc}: wp (vn a l) I s=wp (a l) (λx c=>match x with
  | .tup ds=>I ⟨(i9 0 ds.length).zipWith (λi d=>.tup [i,d]) ds,eS⟩ c
  |_=>False) s:=by
 unfold vn;rw[d8];congr 1;funext x c;cases x<;>first|bv_omega
def uz{n:Nat}{r:List D->Loc->M Loc}{ds:List D}{G:Loc->aV->Prop}{s:aV}{l:Loc}:wp (gq n r (.tup ds) l) G s=(ds.length=n/\wp (r ds l) G s):=by unfold gq;rw[eJ]
def nK{g:CG}{r:List D->Loc->M Loc}{d:D}{ds:List D}{G:Loc->aV->Prop}{s:aV}{l:Loc}:wp (cC g r (d::ds) l) G s=wp (g d l) (λh c=>wp (r ds h) G c) s:=by unfold cC;rw[d8]
def ut{G:Loc->aV->Prop}{s:aV}{l:Loc}:wp (gD [] l) G s=G l s:=c6 rfl
def eD(s c:aV):Prop:=∃t,c=s++t
def eD.refl(s:aV):eD s s:=⟨[],by simp⟩
def eD.snoc(h:eD s c)(o:MO):eD s (c++[o]):=by let⟨t,e⟩:=h;exact⟨t++[o],by rw[e];simp⟩
def eD.trans(h:eD s g)(k:eD g c):eD s c:=by let⟨t,e⟩:=h;let⟨u,f⟩:=k;exact⟨t++u,by rw[f,e];simp⟩
def eD.at_{n:Nat}(h:eD s c)(k:s[n]?=some o):c[n]?=some o:=by let⟨t,e⟩:=h;rw[e,av (ae.mp k).1];exact k
def Qjl{α:Type}(f:α->Int)(xs:List α):lQ (xs.map λx=>.int (f x))=some (xs.map f):=by
 induction xs with|nil=>rfl|cons x xs ih=>simp only[aT,lQ,ih];ac_rfl
def Pm{α:Type}{m:M α}{v:α}{Q:α->aV->Prop}(h:wp m (λa c=>a=v/\c=s) s):wp m Q s=Q v s:=by
 simp only[sN]at *;cases e:m s with|ok a c=>rw[e]at h;let⟨l,g⟩:=h;subst l;subst g;ac_rfl|exc _ _=>rw[e]at h;exact h.elim|bad=>rw[e]at h;exact h.elim
def S6{a b:Nat}{s:aV}(g:s[a]?=some (.lst x))(c:s[b]?=some (.lst y)):wp (fX (.ref a) (.ref b)) Q s=(x.length+y.length<=fK/\Q (.ref s.length) (s++[.lst (x++y)])):=by unfold fX;rw[d8,eV g,d8,eV c,eJ];ac_rfl
def A9(x:D)(p q:Prop):Prop:=match x with| .bl true=>p| .bl false=>q|_=>False
def vU{p q:Prop}:A9 (.bl true) p q=p:=nr rfl
def vZ{p q:Prop}:A9 (.bl false) p q=q:=nr rfl
section
variable{Q:D->aV->Prop}{T:Bool->aV->Prop}{s:aV}{l:Loc}
def DF{a b:CE}:wp (ve a b l) Q s=wp (a l) (λx c=>A9 x (wp (b l) Q c) (Q (.bl false) c)) s:=by unfold ve;rw[d8];congr 1;funext x c;rcases x with _|b|_|_|_|_|_|_<;>first|bv_omega|(cases b<;>first|bv_omega)
def Fv{a b:CE}:wp (D2 a b l) Q s=wp (a l) (λx c=>A9 x (Q (.bl true) c) (wp (b l) Q c)) s:=by unfold D2;rw[d8];congr 1;funext x c;rcases x with _|b|_|_|_|_|_|_<;>first|bv_omega|(cases b<;>first|bv_omega)
def F5{t:CT}{a b:CE}:wp (xi t a b l) Q s=wp (t l) (λc g=>if c=true then wp (a l) Q g else wp (b l) Q g) s:=by unfold xi;rw[d8];congr 1;funext c g;rw[II]
def Cj{b:Bool}:wp (A6 (.bl b)) T s=T b s:=c6 rfl
def HY{a b:Bool}:wp (B_ (.bl a) (.bl b)) Q s=Q (.bl !(a == b)) s:=c6 rfl
def Cy{ds:List D}:wp (lU ds) Q s=Q (.tup ds) s:=c6 rfl
def uq{d:D}{ds:List D}:wp (cL (d::ds) 0) Q s=Q d s:=by rw[Ft (d:=d) () rfl,cE]
def uu{d e:D}{ds:List D}:wp (cL (d::e::ds) 1) Q s=Q e s:=by rw[Ft (d:=e) () rfl,cE]
def AK{d e f:D}{ds:List D}:wp (cL (d::e::f::ds) 2) Q s=Q f s:=by rw[Ft (d:=f) () rfl,cE]
def AG{d e f g:D}{ds:List D}:wp (cL (d::e::f::g::ds) 3) Q s=Q g s:=by rw[Ft (d:=g) () rfl,cE]
def rL{ds:List D}{i:Nat}{d:D}(h:ds[i]?=some d):wp (cL ds i) Q s=Q d s:=by rw[Ft (d:=d) () (by simpa using h),cE]
def C4{a:CA}{I:Wk->aV->Prop}:wp (zl a l) I s=wp (a l) (λds c=>I ⟨ds,eS⟩ c) s:=by unfold zl;rw[d8];ac_rfl
end
noncomputable def bP(p:Prop):Bool:=@decide p (sS p)
def HC{p:Prop}:bP p=true↔p:=by unfold bP;exact @decide_eq_true_iff p (sS p)
def Mb{p:Prop}(h:p):bP p=true:=HC.mpr h
def M7{p:Prop}(h:¬p):bP p=false:=by
 cases e:bP p with|false=>rfl|true=>exact (h (HC.mp e)).elim
def J_{p:Prop}(h:b=true↔p):b=bP p:=by
 cases b with|true=>exact (Mb (h.mp rfl)).symm|false=>exact (M7 λk=>by cases h.mpr k).symm
noncomputable def bu{α:Type}(n:Nat)(f:Nat->α):List α:=(b_ n).map f
def wI{α:Type}{n i:Nat}{f:Nat->α}(h:i < n):(bu n f)[i]?=some (f i):=by unfold bu;rw[au,mq h];ac_rfl
def Ca{α:Type}{n i:Nat}{f:Nat->α}{x:α}(h:(bu n f)[i]?=some x):i < n/\x=f i:=by
 let c:i < n:=by have:=(ae.mp h).1;simpa [bu] using this
 rw[wI c]at h;cases h;exact⟨c,rfl⟩
def l_{α:Type}{n:Nat}{f:Nat->α}:(bu n f).length=n:=by simp[bu]
def z6{α:Type}{n:Nat}{f:Nat->α}:bu (n+1) f=bu n f++[f n]:=by unfold bu;rw[kC,bC];ac_rfl
def E4{α:Type}{n:Nat}{xs:List α}{f:Nat->α}(g:xs.length=n)(h:∀i,i < n->xs[i]?=some (f i)):xs=bu n f:=by
 apply fq;intro i;by_cases c:i < n
 ·rw[h i c,wI c]
 ·rw[cf (),cf (by rw[l_];ext)]
def zm{α:Type}{n:Nat}{f g:Nat->α}(h:∀i,i < n->f i=g i):bu n f=bu n g:=
 E4 l_ λi c=>by rw[wI c,h i c]
def K6{α β:Type}{n:Nat}{f:Nat->α}{g:α->β}:(bu n f).map g=bu n λi=>g (f i):=by unfold bu;rw[kZ];ac_rfl
def uj{n:Nat}:i9 0 n=bu n λi=>.int i:=by unfold i9 bu;congr 1;funext k;simp
def Pa{n:Nat}{f:Nat->Bool}:i7 (bu n λi=>.bl (f i))=some (bu n f):=by
 have:∀(xs:List Nat),i7 (xs.map λi=>.bl (f i))=some (xs.map f):=by
  intro xs
  induction xs with|nil=>rfl|cons x xs ih=>simp only[aT,i7,ih];ac_rfl
 exact this _
def Yd{n:Nat}{p:Nat->Prop}:wp (xz (bu n λi=>.bl (bP (p i)))) Q s=Q (.bl (bP (∀i,i < n->p i))) s:=by unfold xz;rw[Pa];have:(bu n λi=>bP (p i)).all id=bP (∀i,i < n->p i):=J_ (by simp[bu,EB,HC]);dsimp only;rw[this,cE]
def QjF{n:Nat}{p:Nat->Prop}:wp (xA (bu n λi=>.bl (bP (p i)))) Q s=Q (.bl (bP (∃i,i < n/\p i))) s:=by unfold xA;rw[Pa];have:(bu n λi=>bP (p i)).any id=bP (∃i,i < n/\p i):=J_ (by simp[bu,vN,HC]);dsimp only;rw[this,cE]
def Q6{g:CG}{e:CE}{same:aV->Prop}{ds:List D}{f:Nat->D}(I:Loc->Prop)(L:same s)(Y:I C)(h:∀i d l,ds[i]?=some d->I l->∃u,(∀G,wp (g d l) G s=G u s)/\I u/\∀Q,wp (e u) Q s=Q (f i) s):wp (collect g bZ e same ds C) Q s=Q (bu ds.length f) s:=by
 let chk:∀{R:Unit->aV->Prop},R Unit.unit s->wp (chkS same) R s:=λr=>by rw[sN];unfold chkS;rw[aJ L];exact r
 apply Pm;refine IS (Q:=λc o=>c=bu ds.length f/\o=s) (λc xs l o=>∃i,xs=ds.drop i/\i<=ds.length/\I l/\c=bu i f/\o=s) (λc l o ⟨i,v,O,_,B,es⟩=>?_) (λc d xs l o ⟨i,v,O,U,B,es⟩=>?_) ds [] _ s ⟨0,by simp,bH _,Y,rfl,rfl⟩
 ·let : i = ds.length := by have:=cQ dZ v;simp at this;ext
  subst this;subst es;exact chk ⟨B,rfl⟩
 ·let q : i < ds.length := by have:=cQ dZ v;simp at this;ext
  rw[dF q]at v;let⟨g,c⟩:=mI v;let⟨u,J,H,E⟩:=h i d l (by rw[g];exact af q) U;subst es;refine chk ?_;rw[J]
  show wp (ret true) _ o;rw[cE]
  show wp (e u) _ o;rw[E];exact⟨i+1,c,q,H,by rw[B,z6],rfl⟩
def Cn{e:CE}{same:aV->Prop}{ds:List D}{caps:Loc}{f:Nat->D}{Q:List D->aV->Prop}{s:aV}(g:same s)(h:∀i d,ds[i]?=some d->∀Q,wp (e (some d::caps)) Q s=Q (f i) s):wp (collect (aS 0) bZ e same ds (none::caps)) Q s=Q (bu ds.length f) s:=
 Q6 (λl=>∃x,l=x::caps) g ⟨none,rfl⟩ λi d l hd c=>by let⟨x,el⟩:=c;exact⟨some d::caps,λG=>by rw[el,gS];rfl,⟨_,rfl⟩,h i d hd⟩
def Ei{e:CE}{same:aV->Prop}{ds:List D}{f:Nat->D}(g:same s)(h:∀i d,ds[i]?=some d->∃a b,d=.tup [a,b]/\∀Q,wp (e (some a::some b::caps)) Q s=Q (f i) s):wp (collect (gq 2 (cC (aS 0) (cC (aS 1) gD))) bZ e same ds (none::none::caps)) Q s=Q (bu ds.length f) s:=
 Q6 (λl=>∃x y,l=x::y::caps) g ⟨none,none,rfl⟩ λi d l hd c=>by let⟨x,y,el⟩:=c;let⟨a,b,o,q⟩:=h i d hd;refine⟨some a::some b::caps,λG=>?_,⟨_,_,rfl⟩,q⟩;rw[o,el,uz,nK,gS,nK,gS,ut];exact propext ⟨λh=>h.2,λh=>⟨rfl,h⟩⟩
section
variable{n:Nat}{f:Nat->D}
def xj{i:Nat}(h:i < n):wp (cL (bu n f) (i:Int)) Q s=Q (f i) s:=rL (wI h)
def Vk(h:0 < n):wp (cL (bu n f) 0) Q s=Q (f 0) s:=by have:=@rL Q s (bu n f) 0 (f 0) (wI h);simpa using this
end
def vX:eS s:=trivial
def OA{g:CG}{b:CS}{same:aV->Prop}{n:Nat}{f:Nat->D}{l:Loc}{s:aV}{Q:vk->aV->Prop}(W:Nat->Loc->aV->Prop)(v:∀i l s,W i l s->same s)(C:W 0 l s)(c:∀(i:Nat)l s,i < n->W i l s->wp (g (f i) l) (λu q=>wp (b u) (λf o=>match f with
   | .next l2=>W (i+1) l2 o| .cnt l2=>W (i+1) l2 o| .brk l2=>Q (.next l2) o
   | .ret d=>Q (.ret d) o) q) s) (h:∀l s,W n l s->Q (.next l) s):wp (pz g b same (bu n f) l) Q s:=
 PJ W v C (λi d l s hd w=>by let⟨B,e⟩:=Ca hd;subst e;exact c i l s B w) (λl s w=>h l s (by rw[l_]at w;exact w))
def QjN{e:CE}{n:Nat}{f:Nat->D}{same:aV->Prop}{Q:List D->aV->Prop}(W:Nat->List D->aV->Prop)(o:∀i c s,W i c s->same s)(u:W 0 [] s)(g:∀(i:Nat)c s,i < n->W i c s->wp (e (some (f i)::caps)) (λx l=>W (i+1) (c++[x]) l) s) (h:∀c s,W n c s->Q c s):wp (collect (aS 0) bZ e same (bu n f) (none::caps)) Q s:=
 P7 W o u (λi d c s hd w=>by let⟨q,e⟩:=Ca hd;subst e;exact g i c s q w) (λc s w=>h c s (by rw[l_]at w;exact w))
def yB{e:CE}{same:aV->Prop}{n:Nat}{g:Nat->D}{f:Nat->D}(c:same s)(h:∀i,i < n->∀Q,wp (e (some (g i)::caps)) Q s=Q (f i) s):wp (collect (aS 0) bZ e same (bu n g) (none::caps)) Q s=Q (bu n f) s:=by
 rw[Cn (f:=f) c (λi d hd=>by let⟨l,e⟩:=Ca hd;subst e;exact h i l),l_]
def Za{n:Nat}{f:Nat->D}:(i9 0 n).zipWith (λi d=>D.tup [i,d]) (bu n f)=bu n λi=>.tup [.int i,f i]:=by
 apply E4
 ·simp[i9,bu]
 ·intro i c;rw[eQ,Sy c,wI c]
section
variable{Q:D->aV->Prop}{A:List D->aV->Prop}{s:aV}{l:Loc}
def yP{a b:CE}: wp (eM a b l) Q s=wp (a l) (λx h=>match x with
  | .ref n=>wp (b l) (λv g=>wp (getL n) (λds c=>ds.length < fK/\wp (putL n (ds++[v])) (λ_ o=>Q .non o) c) g) h
  |_=>False) s:=by
 unfold eM;rw[d8];congr 1;funext x h;cases x<;>first|bv_omega|(dsimp only;rw[d8];congr 1;funext v g;unfold wF;rw[d8];congr 1;funext ds c;rw[eJ,d8];first|ac_rfl|(refine cQ _ ?_;refine iU λ_ _=>?_;simp only[cE,gR,gQ]))
def FP{a:CE}: wp (uZ a l) Q s=wp (a l) (λx g=>match x with
  | .ref n=>wp (getL n) (λds c=>match ds.getLast? with
   |some d=>wp (putL n ds.dropLast) (λ_ h=>Q d h) c
   |none=>False) g
  |_=>False) s:=by
 unfold uZ;rw[d8];congr 1;funext x g;cases x<;>first|bv_omega|(dsimp only;rw[d8];congr 1;funext ds c;cases ds.getLast?<;>first|bv_omega|(dsimp only;rw[d8];first|ac_rfl|(refine cQ _ ?_;refine iU λ_ _=>?_;simp only[cE,gR,gQ])))
def Dw{a:CE}: wp (u5 a l) A s=wp (a l) (λx c=>match x with
  | .ref n=>wp (getL n) (λds g=>A ds.reverse g) c
  |_=>False) s:=by
 unfold u5;rw[d8];congr 1;funext x c;cases x<;>first|bv_omega|(dsimp only;rw[d8];first|ac_rfl|(refine cQ _ ?_;refine iU λ_ _=>?_;simp only[cE,gR,gQ]))
def yX{n:Nat}:wp (tupleD (.ref n)) Q s=wp (getL n) (λds c=>Q (.tup ds) c) s:=by unfold tupleD;rw[d8];(try dsimp only);(try rw[d8]);refine iU λ_ _=>?_;simp only[cE,gR,gQ]
def A7{a b:Str}:wp (oo (.str a) (.str b)) Q s=Q (.bl (a == b)) s:=c6 rfl
def FJ{i:Int}:wp (s_ (.int i)) Q s=Q (.int (-i)) s:=c6 rfl
def Db{i j:Int}:wp (wH (.int i) (.int j)) Q s=Q (.int (min i j)) s:=c6 rfl
def C_{a b:CE}{I:Wk->aV->Prop}: wp (MM.oB a b l) I s=wp (a l) (λx g=>wp (b l) (λy c=>match x,y with
  | .int i,.int j=>((-(2^62)<=i/\i < 2^62)/\(-(2^62)<=j/\j < 2^62))/\I ⟨i9 i (j-i).toNat,eS⟩ c
  |_,_=>False) g) s:=by
 unfold MM.oB;rw[d8];congr 1;funext x g;rw[d8];congr 1;funext y c;cases x<;>first|bv_omega|skip
 cases y<;>first|bv_omega|(dsimp only;rw[eJ];first|ac_rfl|(refine cQ _ ?_;refine iU λ_ _=>?_;simp only[cE,gR,gQ]))
def B9{x y:List D}:wp (fX (.tup x) (.tup y)) Q s=(x.length+y.length<=fK/\Q (.tup (x++y)) s):=by unfold fX;rw[eJ];first|ac_rfl|(refine cQ _ ?_;refine iU λ_ _=>?_;simp only[cE,gR,gQ])
def yQ{a:CA}{b:CE}: wp (nI a b l) Q s=wp (a l) (λds g=>wp (b l) (λi c=>match i with
  | .int k=>wp (cL ds k) Q c
  |_=>False) g) s:=by
 unfold nI;rw[d8];congr 1;funext ds g;rw[d8];congr 1;funext i c;cases i<;>first|bv_omega
def Ay{g:D->List D->M D}{a:CE}{b:CA}:wp (pC g a b l) Q s=wp (a l) (λx c=>wp (b l) (λds h=>wp (g x ds) Q h) c) s:=by unfold pC;rw[d8];congr 1;funext x c;rw[d8]
def Sm:wp (yA x ds) Q s=((lD x=true/\ds.all lD=true)/\Q (.bl (ds.any λd=>sY d x)) s):=by unfold yA;rw[eJ];first|ac_rfl|(refine cQ _ ?_;refine iU λ_ _=>?_;simp only[cE,gR,gQ])
def VI:wp (zF x ds) Q s=((lD x=true/\ds.all lD=true)/\Q (.bl !(ds.any λd=>sY d x)) s):=by unfold zF;rw[eJ];first|ac_rfl|(refine cQ _ ?_;refine iU λ_ _=>?_;simp only[cE,gR,gQ])
end
def FD{p q:Prop}:(if false=true then p else q)=q:=az (by simp)
noncomputable def mx(f:Nat->Nat):Nat->Nat
 |0=>0|n+1=>max (mx f n) (f n)
def M8{f:Nat->Nat}{n m:Nat}(h:∀i,i < n->f i<=m):mx f n<=m:=by
 induction n with|zero=>exact bH _|succ n ih=>unfold mx;exact Nat.max_le.mpr ⟨ih λi c=>h i (),h n ()⟩
def MG{f:Nat->Nat}{n i:Nat}(h:i < n):f i<=mx f n:=by
 induction n with|zero=>ext|succ n ih=>
  unfold mx;by_cases e:i=n
  ·subst e;exact Br _ _
  ·exact c5 (ih ()) (BX _ _)
def J5{f:Nat->Nat}{n:Nat}(g:0 < n):wp (oD (bu n λi=>.int (f i:Nat))) Q s=Q (.int (mx f n:Nat)) s:=by
 obtain⟨k,rfl⟩:∃k,n=k+1:=⟨n-1,by ext⟩
 let c:∀(k:Nat),(((b_ k).map (· + 1)).map λ(i:Nat)=>((f i:Nat):Int)).foldl max ((f 0:Nat):Int)=((mx f (k+1):Nat):Int):=by
  intro k
  induction k with|zero=>show ((f 0:Nat):Int)=((max 0 (f 0):Nat):Int);ext|succ k ih=>
   rw[kC,bC,bC,nB,ih]
   show max ((mx f (k+1):Nat):Int) ((f (k+1):Nat):Int)=((max (mx f (k+1)) (f (k+1)):Nat):Int)
   ext
 unfold oD bu;rw[Qjl (λi=>((f i:Nat):Int)),ou,aT];dsimp only;rw[cE,<- c k]
def eD.put{n:Nat}(h:eD s c)(g:s.length<=n):eD s (c.set n o):=by let⟨t,e⟩:=h;exact⟨t.set (n-s.length) o,by rw[e,wv _ _ g]⟩
def eD.le(h:eD s c):s.length<=c.length:=by let⟨t,e⟩:=h;rw[e];simp
theorem Nk:∀(n:Nat)(l:Loc)(s:aV),fM t b n l s≠.bad->fM t b (n+1) l s=fM t b n l s
 |0,l,s,h=>(h rfl).elim
 |n+1,l,s,h=>by
  let g:∀k,fM t b (k+1) l s=(match t l s with
   | .ok true s1=>(match b l s1 with
    | .ok (.next l2) s2=>fM t b k l2 s2| .ok (.cnt l2) s2=>fM t b k l2 s2| .ok (.brk l2) s2=>.ok (.next l2) s2| .ok (.ret d) s2=>.ok (.ret d) s2| .exc x s2=>.exc x s2
    | .bad=>.bad)
   | .ok false s1=>.ok (.next l) s1| .exc x s1=>.exc x s1
   | .bad=>.bad):=λk=>by
   show bnd (t l) _ s=_;unfold bnd;cases t l s with|exc x s1=>rfl|bad=>rfl|ok c s1=>
    cases c with|false=>rfl|true=>
     show (bnd (b l) _) s1=_;unfold bnd;dsimp only;cases b l s1 with|exc x s2=>rfl|bad=>rfl|ok f s2=>cases f<;>first|bv_omega
  rw[g (n+1),g n];rw[g n]at h;cases o:t l s with|exc x s1=>rfl|bad=>rfl|ok c s1=>
   rw[o]at h;cases c with|false=>rfl|true=>
    dsimp only at h ⊢;cases q:b l s1 with|exc x s2=>rfl|bad=>rfl|ok f s2=>
     rw[q]at h;cases f with|next l2=>exact Nk n l2 s2 h|cnt l2=>exact Nk n l2 s2 h|brk l2=>rfl|ret d=>rfl
def PL{n m:Nat}(h:fM t b n l s≠.bad)(c:n<=m):fM t b m l s=fM t b n l s:=by
 induction m with
 | zero => have : n = 0 := by ext
           subst this;ac_rfl
 |succ m ih=>
  by_cases e:n=m+1
  ·subst e;ac_rfl
  ·have:=ih ();rw[Nk m l s (by rw[this];exact h),this]
def X8{t:CT}{b:CS}{Q:vk->aV->Prop}{l:Loc}{s:aV}(W:Loc->aV->Prop)(μ:Loc->aV->Nat)(J:W l s)(H:∀l s,W l s->wp (t l) (λc B=>if c=true then wp (b l) (λf o=>match f with
   | .next l2=>W l2 o/\μ l2 o < μ l s| .cnt l2=>W l2 o/\μ l2 o < μ l s| .brk l2=>Q (.next l2) o
   | .ret d=>Q (.ret d) o) B else Q (.next l) B) s):wp (lj t b l) Q s:=by
 let key:∀(k:Nat)(l:Loc)(s:aV),μ l s < k->W l s->∃n,wp (fM t b n l) Q s:=by
  intro k
  induction k with
  |zero=>intro l s h;ext
  |succ k ih=>
   intro l s L w;let v:=H l s w;rw[sN]at v;cases C:t l s with|exc x B=>rw[C]at v;exact v.elim|bad=>rw[C]at v;exact v.elim|ok c B=>
    rw[C]at v;cases c with
    |false=>
     refine⟨1,?_⟩
     show wp (bnd (t l) _) Q s;rw[d8,c6 C]
     show wp (ret _) _ _;rw[cE];exact v
    |true=>
     let g:wp (b l) _ B:=v;rw[sN]at g;cases E:b l B with|exc x o=>rw[E]at g;exact g.elim|bad=>rw[E]at g;exact g.elim|ok f o=>
      rw[E]at g;let go:∀(n:Nat),wp (match f with
       | .next l2=>fM t b n l2| .cnt l2=>fM t b n l2| .brk l2=>ret (.next l2)
       | .ret d=>ret (.ret d)) Q o->wp (fM t b (n+1) l) Q s:=λn q=>by
       show wp (bnd (t l) _) Q s;rw[d8,c6 C,aJ rfl,d8,c6 E];exact q
      cases f with|next l2=>let⟨n,u⟩:=ih l2 o (by have:=g.2;ext) g.1;exact⟨n+1,go n u⟩|cnt l2=>let⟨n,u⟩:=ih l2 o (by have:=g.2;ext) g.1;exact⟨n+1,go n u⟩|brk l2=>exact⟨1,go 0 (by show wp (ret _) _ _;rw[cE];exact g)⟩|ret d=>exact⟨1,go 0 (by show wp (ret _) _ _;rw[cE];exact g)⟩
 let⟨n,u⟩:=key (μ l s+1) l s (iW _) J;let G:fM t b n l s≠.bad:=λe=>by rw[sN]at u;rw[e]at u;exact u
 let ex:∃n,∀r,fM t b n l s=r->r≠.bad:=⟨n,λr e=>e ▸ G⟩
 rw[sN];unfold lj;rw[dif_pos ex];let I:fM t b (kS ex) l s≠.bad:=Classical.choose_spec ex _ rfl;let e:fM t b (kS ex) l s=fM t b n l s:=by rw[<- PL I (BX (kS ex) n),<- PL G (Br (kS ex) n)]
 rw[e];rw[sN]at u;exact u
section
variable{Q:D->aV->Prop}{s:aV}{l:Loc}
def zi{a:CE}{lo o:CO}: wp (oO a lo o l) Q s=wp (a l) (λx h=>wp (lo l) (λi g=>wp (o l) (λj c=>match x with
  | .tup ds=>¬(iy ds.length 0 i=0/\iy ds.length ds.length j=ds.length)/\Q (.tup (cutD ds i j)) c
  |_=>False) g) h) s:=by
 unfold oO;rw[d8];congr 1;funext x h;rw[d8];congr 1;funext i g;rw[d8];congr 1;funext j c;cases x<;>first|bv_omega|(dsimp only;rw[eJ];ac_rfl)
inductive Pd:Nat->D->Prop
 |non {n}:Pd n .non|bl {n} (b):Pd n (.bl b)|int {n} (i):Pd n (.int i)|str {n} (x):Pd n (.str x)|tup {n}{ds:List D} (h:∀d∈ds,Pd n d):Pd (n+1) (.tup ds)
def Pd.up{n:Nat}(h:Pd n d):Pd (n+1) d:=by
 induction h with|non=>exact .non|bl b=>exact .bl b|int i=>exact .int i|str x=>exact .str x|tup h ih=>exact .tup ih
theorem OS{f:D->D->Option Bool}:∀{ds:List D},(∀d∈ds,f d d=some true)->mE f ds ds=some true
 |[],_=>rfl|d::ds,h=>by unfold mE;rw[h d (by simp)];exact OS λx c=>h x (by simp[c])
def Pd.eq{n:Nat}(h:Pd n d):uL n d d=some true:=by
 induction h with
 |@non n=>cases n<;>first|bv_omega
 |@bl n b=>cases n<;>exact cQ some (beq_self_eq_true b)|@int n i=>cases n<;>exact cQ some (beq_self_eq_true i)|@str n x=>cases n<;>exact cQ some (beq_self_eq_true x)|@tup n ds h ih=>exact OS ih
def Pd.le{n m:Nat}(h:Pd n d)(c:n<=m):Pd m d:=by
 induction m with
 | zero => have : n = 0 := by ext
           subst this;exact h
 |succ m ih=>
  by_cases e:n=m+1
  ·subst e;exact h
  ·exact (ih ()).up
def SF{n:Nat}(h:Pd n (.tup ds))(c:n<=50):wp (oo (.tup ds) (.tup ds)) Q s=Q (.bl true) s:=by
 have:=(h.le c).eq;unfold oo Ju;rw[d8];dsimp only;rw[this]
 first|rfl|exact c6 rfl|exact (c6 rfl).trans cE|(simp only[cE,gQ];done)
end
def QQ{α:Type}{n:Nat}{x:α}{f:Nat->α}: x::bu n f=bu (n+1) λd=>match d with|0=>x|d+1=>f d:=by
 unfold bu;rw[ou,aT,kZ];ac_rfl
theorem Ry{lo:Int}{n:Nat}:i9 lo n=bu n λi=>.int (lo+i):=rfl
section
variable{α β:Type}{γ:Sort _}
def HP{p:Prop}[Decidable p]:(decide p=true)=p:=_root_.decide_eq_true_eq
def KG{n:Nat}{a:α}:bw (n+1) a=a::bw n a:=nr rfl
def Mi{a:α}:bw 0 a=[]:=nr rfl
def Ko{x:Option α}:(some x).join=x:=nr rfl
def Nw{f:α->β}{a:α}{l:List α}:BY f (a::l)=f a::BY f l:=nr rfl
def JY{f:α->β}:BY f []=[]:=nr rfl
def Nb{a:α}{l k:List α}:(a::l)++k=a::(l++k):=nr rfl
def Nx{l:List α}:[]++l=l:=nr rfl
def LN{a:α}{l:List α}:(a::l)[0]?=some a:=nr rfl
def M6{a:α}{l:List α}{i:Nat}:(a::l)[i+1]?=l[i]?:=by simp
def MR{a b:α}{l:List α}:(a::l).set 0 b=b::l:=nr rfl
def JJ{a b:α}{l:List α}{i:Nat}:(a::l).set (i+1) b=a::l.set i b:=nr rfl
def Lg{a:α}{l:List α}:(a::l).length=l.length+1:=nr rfl
def KU:([]:List α).length=0:=nr rfl
def MW{c d:γ}:(if True then c else d)=c:=aJ trivial
def MJ{c d:γ}:(if False then c else d)=d:=az (λh=>h)
def MH{p:Prop}:(p/\True)=p:=and_true p
def Nv{p:Prop}:(True/\p)=p:=true_and p
def JS:(!true)=false:=nr rfl
def Lm:(!false)=true:=nr rfl
end
section
variable{Q:D->aV->Prop}{U:Unit->aV->Prop}{s:aV}{l:Loc}
def yS{n:Nat}{Q:Bool×List (D×D)->aV->Prop}(h:s[n]?=some (.dct b c)):wp (getDc n) Q s=Q (b,c) s:=by rw[sN];unfold getDc;rw[h]
def P5{n:Nat}{Q:Unit->aV->Prop}(h:s[n]?=some (.dct b g)):wp (tP n b c) Q s=Q Unit.unit (s.set n (.dct b c)):=by rw[sN];unfold tP;rw[h];simp
def Hx{n:Nat}(h:s[n]?=some (.dct b c))(o:om b k=true)(g:m_ c k=some d):wp (itemK n k) Q s=Q d s:=by unfold itemK;rw[d8,yS h,eJ];dsimp only;rw[g,cE];exact propext ⟨λh=>h.2,λh=>⟨o,h⟩⟩
def KL{n:Nat}(h:s[n]?=some (.dct b c))(o:om b k=true)(g:c.length < fK):wp (storeK n k v) U s=U Unit.unit (s.set n (.dct b (nJ c k v))):=by unfold storeK;rw[d8,yS h,eJ];dsimp only;rw[P5 h];exact propext ⟨λh=>h.2,λh=>⟨⟨o,g⟩,h⟩⟩
def O8{n:Nat}{Q:Bool->aV->Prop}(h:s[n]?=some (.dct b c))(g:om b k=true):wp (hasK n k) Q s=Q (m_ c k).isSome s:=by unfold hasK;rw[d8,yS h,eJ,cE];exact propext ⟨λh=>h.2,λh=>⟨g,h⟩⟩
def As{n:Nat}{k:D}:wp (aZ (.dic n) k) Q s=wp (itemK n k) Q s:=by cases k<;>first|bv_omega
def Dm{n:Nat}{k v:D}:wp (kL (.dic n) k v) U s=wp (storeK n k v) U s:=by cases k<;>first|bv_omega
def AS{n:Nat}{k:D}:wp (r_ k (.dic n)) Q s=wp (hasK n k) (λb c=>Q (.bl !b) c) s:=by unfold r_;rw[d8];ac_rfl
def Ya{n:Nat}(h:s[n]?=some (.dct b c)):wp (gI (.dic n)) Q s=Q (.int c.length) s:=by unfold gI;rw[d8,yS h];ac_rfl
def CZ{b:Bool}:wp (so b l) Q s=Q (.dic s.length) (s++[.dct b []]):=c6 rfl
end
def o7{α:Type}{l:List α}{a:α}:(l++[a])[l.length]?=some a:=by rw[aM (ay _),fB];ac_rfl
def uI{α:Type}{l:List α}{a b:α}{n:Nat}(h:l[n]?=some a):(l++[b])[n]?=some a:=by rw[av (ae.mp h).1];exact h
end MM
noncomputable def MM.xP:=aG @MM.u9<|aG @MM.r9<|aG @MM.yZ<|aG @MM.EQ<|aG @MM.G_<|aG @MM.G6<|aG @MM.BC<|aG @MM.DF<|aG @MM.Fv<|aG @MM.F5<|aG @MM.Cj<|aG @MM.HY<|aG @MM.Cy<|aG @MM.uq<|aG @MM.uu<|aG @MM.AK<|aG @MM.AG<|aG @MM.C4<|aG @MM.C5<|aG @MM.uz<|aG @MM.nK<|aG @MM.ut<|aG @MM.Ap<|aG @MM.C1<|aG @MM.Dq<|aG @MM.F9<|aG @MM.Gy<|aG @MM.FG<|aG @MM.Kb<|aG @MM.K9<|aG @MM.Ni<|aG @MM.M1<|aG @MM.Ka<|aG @MM.F0<|aG @MM.B2<|aG @MM.KY<|aG @MM.Lp<|aG @MM.Fc<|aG @MM.Go<|aG @MM.G4<|aG @MM.EH<|aG @MM.Du<|aG @MM.Fu<|aG @MM.A5<|aG @MM.JK<|aG @MM.MT<|aG @MM.LD<|aG @MM.Gc<|aG @MM.No<|aG @MM.KO<|aG @MM.JG<|aG @MM.KJ<|aG @MM.Gf<|aG @MM.Hn<|aG @MM.HQ<|aG @MM.wG<|aG @MM.JC<|aG @MM.Fh<|aG @MM.yO<|aG @MM.BL<|aG @MM.y0<|aG @MM.Gq<|aG @MM.Cg<|aG @MM.Cr<|aG @MM.Ho<|aG @MM.Co<|aG @MM.G9<|aG @MM.HS<|aG @MM.C2<|aG @MM.BE<|aG @MM.Hl<|aG @MM.GS<|aG @MM.Hv<|aG @MM.GR<|aG @MM.Kq<|aG @MM.LH<|aG @MM.Ms<|aG @MM.Ll<|aG @MM.Md<|aG @MM.uf<|aG @MM.AI<|aG @MM.zc<|aG @MM.Cq<|aG @MM.C3<|aG @MM.ue<|aG @MM.DE<|aG @MM.AD<|aG @MM.zr<|aG @MM.cE<|aG @MM.eJ<|aG @MM.gR<|aG @MM.yP<|aG @MM.FP<|aG @MM.Dw<|aG @MM.yX<|aG @MM.A7<|aG @MM.FJ<|aG @MM.Db<|aG @MM.C_<|aG @MM.B9<|aG @MM.yQ<|aG @MM.Ay<|aG @MM.zi<|aG @MM.As<|aG @MM.Dm<|aG @MM.AS<|@MM.CZ
local macro_rules
 | `(tactic| simp![$a,*])=>`(tactic| simp only[↓MM.xP,MM.gS,MM.lR,MM.vU,MM.vZ,MM.HP,MM.KG,MM.Mi,MM.Ko,MM.Nw,MM.JY,MM.Nb,MM.Nx,MM.LN,MM.M6,MM.MR,MM.JJ,MM.Lg,MM.KU,Nat.reduceAdd,Nat.reduceSub,Int.reduceLE,Int.reduceLT,MM.MW,MM.MJ,MM.MH,MM.Nv,beq_iff_eq,MM.FD,MM.JS,MM.Lm,Nat.reduceLT,Nat.reduceLeDiff,$a,*])
namespace MM
open PySem
theorem BA:∀(N:Nat)(l:List Nat),l.Nodup->(∀x∈l,x < N)->l.length<=N
 |0,l,_,h=>by
  cases l with|nil=>exact ay _|cons x xs=>exact bo (h x (by simp)) (tL _)
 |N+1,l,hn,h=>by
  by_cases o:N∈l
  ·let q := BA N (l.erase N) (hn.erase N) (λx g => by have c:=(hn.mem_erase_iff).mp g;have:=h x c.2;have:=c.1;ext)
   rw[List.length_erase_of_mem o]at q;ext
  ·let q := BA N l hn (λx g => by have:=h x g;have:x≠N:=λe=>o (e ▸ g);ext)
   ext
noncomputable def sP(B:Nat):List Nat->Nat
 |[]=>0|x::xs=>x*B^xs.length+sP B xs
theorem Jm{B:Nat}:∀{xs:List Nat},(∀x∈xs,x < B)->sP B xs < B^xs.length
 |[],_=>by simp[sP]
 |x::xs,h=>by
  let l:=Jm (B:=B) (xs:=xs) λy c=>h y (by simp[c]);let g:=h x (by simp)
  show x*B^xs.length+sP B xs < B^(xs.length+1);rw[oM,iY (B^xs.length) B];have:(x+1)*B^xs.length<=B*B^xs.length:=pI _ g;rw[ww]at this;ext
theorem Qx{B:Nat}:∀{xs ys:List Nat},xs.length=ys.length->(∀x∈xs,x < B)->(∀x∈ys,x < B)->sP B xs=sP B ys->xs=ys
 |[],[],_,_,_,_=>rfl
 |x::xs,y::ys,hl,hx,hy,e=>by
  let c:xs.length=ys.length:=by simpa using hl
  let u:=Jm (B:=B) (xs:=xs) λz hz=>hx z (by simp[hz]);let g:=Jm (B:=B) (xs:=ys) λz hz=>hy z (by simp[hz]);let l:x*B^xs.length+sP B xs=y*B^ys.length+sP B ys:=e;rw[<- c]at l g;let q:x=y/\sP B xs=sP B ys:=by
   generalize B^xs.length=p at l u g;let o:0 < p:=by ext
   let C:(x*p+sP B xs) / p=x:=by rw[iY,kG o,iZ u];simp
   let v:(y*p+sP B ys) / p=y:=by rw[iY,kG o,iZ g];simp
   let h:x=y:=by rw[<- C,<- v,l]
   subst h;exact⟨rfl,by ext⟩
  rw[q.1,Qx c (λz hz=>hx z (by simp[hz])) (λz hz=>hy z (by simp[hz])) q.2]
noncomputable def pr:List Nat->Nat
 |[]=>1|b::bs=>b*pr bs
def oE:List Nat->List Nat->Nat
 |b::bs,x::xs=>x*pr bs+oE bs xs|_,_=>0
theorem El:∀{bs xs:List Nat},xs.length=bs.length->(∀(i b x:Nat),bs[i]?=some b->xs[i]?=some x->x < b)->oE bs xs < pr bs
 |[],[],_,_=>by simp[oE,pr]
 |b::bs,x::xs,hl,h=>by
  let o:=El (bs:=bs) (xs:=xs) (by simpa using hl) λi b x g c=>h (i+1) b x (by simpa using g) (by simpa using c);let l:=h 0 b x rfl rfl
  show x*pr bs+oE bs xs < b*pr bs;have:(x+1)*pr bs<=b*pr bs:=pI _ l;rw[ww]at this;ext
theorem Qt:∀{bs xs ys:List Nat},xs.length=bs.length->ys.length=bs.length->(∀(i b x:Nat),bs[i]?=some b->xs[i]?=some x->x < b)->(∀(i b x:Nat),bs[i]?=some b->ys[i]?=some x->x < b)->oE bs xs=oE bs ys->xs=ys
 |[],[],[],_,_,_,_,_=>rfl
 |b::bs,x::xs,y::ys,hl,hl2,hx,hy,e=>by
  let g:∀(i b x:Nat),bs[i]?=some b->xs[i]?=some x->x < b:=λi b x l h=>hx (i+1) b x (by simpa using l) (by simpa using h);let c:∀(i b x:Nat),bs[i]?=some b->ys[i]?=some x->x < b:=λi b x l h=>hy (i+1) b x (by simpa using l) (by simpa using h);let B:=El (bs:=bs) (xs:=xs) (by simpa using hl) g;let v:=El (bs:=bs) (xs:=ys) (by simpa using hl2) c;let C:x*pr bs+oE bs xs=y*pr bs+oE bs ys:=e;let q:x=y/\oE bs xs=oE bs ys:=by
   generalize pr bs=p at C B v;let u:0 < p:=by ext
   let G:(x*p+oE bs xs) / p=x:=by rw[iY,kG u,iZ B];simp
   let E:(y*p+oE bs ys) / p=y:=by rw[iY,kG u,iZ v];simp
   let o:x=y:=by rw[<- G,<- E,C]
   subst o;exact⟨rfl,by ext⟩
  rw[q.1,Qt (by simpa using hl) (by simpa using hl2) g c q.2]
theorem L0:∀(a b:List Nat),iC (a.map λn:Nat=>.int n) (b.map λn:Nat=>.int n)=decide (a=b)
 |[],[]=>by simp[iC]|[],_::_=>by simp[iC]|_::_,[]=>by simp[iC]
 |x::xs,y::ys=>by
  rw[aT,aT]
  show (kr (.int x) (.int y)&&iC _ _)=_;rw[L0 xs ys]
  show (decide ((x:Int)=y)&&_)=_;have:decide ((x:Int)=y)=decide (x=y):=decide_eq_decide.mpr ();rw[this];simp[lY]
theorem QX:∀(a:List Nat),kI (a.map λn:Nat=>.int n)=some (a.map λn:Nat=>(n:Int))
 |[]=>rfl|x::xs=>by rw[aT,aT];unfold kI;rw[QX xs];rfl
def Zg(a b:List Nat):om true (.tup [.tup (a.map λn:Nat=>.int n),.tup (b.map λn:Nat=>.int n)])=true:=by show (kJ [.tup (a.map λn:Nat=>.int n),.tup (b.map λn:Nat=>.int n)]).isSome=true;simp only[kJ,QX];rfl
def T1(a b c d:List Nat):kr (.tup [.tup (a.map λn:Nat=>.int n),.tup (b.map λn:Nat=>.int n)]) (.tup [.tup (c.map λn:Nat=>.int n),.tup (d.map λn:Nat=>.int n)])=(decide (a=c)&&decide (b=d)):=by show (iC (a.map _) (c.map _)&&(iC (b.map _) (d.map _)&&true))=_;rw[L0,L0,DV]
end MM
namespace MM
def uK{g:CG}{b:CS}{same:aV->Prop}{xs:List D}{Q:vk->aV->Prop}(W:Nat->Loc->aV->Prop)(B:∀i l s,W i l s->same s)(C:W 0 l s)(c:∀(R:vk->aV->Prop)(i:Nat)d l s,(∀{q h},W (i+1) q h->R (.next q) h)->(∀{d h},Q (.ret d) h->R (.ret d) h)->xs[i]?=some d->W i l s->wp (g d l) (λv u=>wp (b v) R u) s) (o:∀l s,W xs.length l s->Q (.next l) s):wp (pz g b same xs l) Q s:=
 PJ W B C (λi d l s hd w=>c _ i d l s (λz=>z) (λz=>z) hd w) o
def Dv{t:CT}{b:CS}{Q:vk->aV->Prop}(W:Loc->aV->Prop)(μ:Loc->aV->Nat)(v:W l s)(u:∀(R:vk->aV->Prop)l s,(∀{g h},W g h->μ g h < μ l s->R (.next g) h)->(∀{d o},Q (.ret d) o->R (.ret d) o)->W l s->wp (t l) (λc q=>if c=true then wp (b l) R q else Q (.next l) q) s):wp (lj t b l) Q s:=
 X8 W μ v λl s w => u (λf h => match f with
   | .next g=>W g h/\μ g h < μ l s| .cnt g=>W g h/\μ g h < μ l s| .brk g=>Q (.next g) h
   | .ret d=>Q (.ret d) h) l s (λa b=>⟨a,b⟩) (λz=>z) w
def Mt{g:CG}{b:CS}{same:aV->Prop}{n:Nat}{f:Nat->D}{Q:vk->aV->Prop}(W:Nat->Loc->aV->Prop)(B:∀i l s,W i l s->same s)(E:W 0 l s)(c:∀(R:vk->aV->Prop)(i:Nat)l s,(∀{q o},W (i+1) q o->R (.next q) o)->i < n->W i l s->wp (g (f i) l) (λv u=>wp (b v) R u) s) (h:∀l s,W n l s->Q (.next l) s):wp (pz g b same (bu n f) l) Q s:=
 OA W B E (λi l s C w=>c _ i l s (λz=>z) C w) h
def Dn{e:CE}{n:Nat}{f:Nat->D}{same:aV->Prop}{Q:List D->aV->Prop}(W:Nat->List D->aV->Prop)(o:∀i c s,W i c s->same s)(u:W 0 [] s)(g:∀(R:D->aV->Prop)(i:Nat)c s,(∀{x l},W (i+1) (c++[x]) l->R x l)->i < n->W i c s->wp (e (some (f i)::caps)) R s) (h:∀c s,W n c s->Q c s):wp (collect (aS 0) bZ e same (bu n f) (none::caps)) Q s:=QjN W o u (λi c s q w=>g _ i c s (λz=>z) q w) h
structure qW(s:aV)(A:List Nat)(v:aV)(C:List (List D)):Prop where
 le:s.length<=v.length
 len:A.length=C.length
 oth:∀k,k < s.length->k∉A->v[k]?=s[k]?
 at_:∀(i a:Nat)(ds:List D),A[i]?=some a->C[i]?=some ds->v[a]?=some (.lst ds)
section
variable{i a n:Nat}
def qW.nil:qW s [] s []:=⟨ay _,rfl,λ_ _ _=>rfl,λ_ _ _ h=>by simp at h⟩
def qW.snoc'{w:aV}(K:qW s A v C)(l:v.length<=w.length)(o:∀k,k < v.length->w[k]?=v[k]?)(g:w[a]?=some (.lst ds)):qW s (A++[a]) w (C++[ds]):=by
 refine⟨c5 K.le l,by simp[K.len],λk q B=>(o k (bh q K.le)).trans (K.oth k q λz=>B (by simp[z])),λi b es c h=>?_⟩;by_cases u:i < A.length
 ·rw[av u]at c;rw[av (K.len ▸ u)]at h;have:=K.at_ i b es c h;rw[o b (ae.mp this).1];exact this
 ·rw[aM ()]at c;rw[aM (by rw[<- K.len];ext),<- K.len]at h;cases e:i-A.length with|zero=>rw[e]at c h;cases c;cases h;exact g|succ n=>rw[e]at c;simp at c
def qW.old(K:qW s A v C)(g:v[a]?=some (.lst ds)):qW s (A++[a]) v (C++[ds]):=K.snoc' (ay _) (λ_ _=>rfl) g
def qW.snoc(K:qW s A v C)(h:v.length=n):qW s (A++[n]) (v++[.lst ds]) (C++[ds]):=K.snoc' (by simp) (λk c=>av c) (by subst h;exact o7)
def qW.put(K:qW s A v C)(q:A.Nodup)(h:A[i]?=some a):qW s A (v.set a (.lst es)) (C.set i es):=by
 refine⟨by rw[du];exact K.le,by rw[du];exact K.len,λk u l=>?_,λj b ds g c=>?_⟩
 ·rw[aA λe:a=k=>l (by rw[<- e];exact ax h)];exact K.oth k u l
 ·by_cases e:i=j
  ·subst e;rw[h]at g;cases g;let o:i < C.length:=K.len ▸ (ae.mp h).1;rw[aE o]at c;cases c;exact aE (ae.mp (K.at_ i a _ h (af o))).1
  ·rw[aA e]at c;rw[aA λz=>e ((fu (ae.mp h).1 q).mp (by rw[h,g,z]))];exact K.at_ j b ds g c
def qW.cg(K:qW s A v C)(h:C=C'):qW s A v C':=h ▸ K
theorem qW.ext(K:qW s A v C)(x:eD s0 s)(h:∀a∈A,s0.length<=a):eD s0 v:=by
 let g:=x.le;refine⟨v.drop s0.length,fq λk=>?_⟩;by_cases c:k < s0.length
 ·rw[av c,K.oth k () λz=>by have:=h k z;ext];exact (x.at_ (af c)).trans (af c).symm
 ·have:=K.le;rw[aM (),mT,show s0.length+(k-s0.length)=k by ext]
end
def uX(c g h:CE):CS:=λl=>bnd (c l) λo=>bnd (g l) λi=>match o,i with| .ref n,.int k=>bnd (getL n) λds=>bnd (cL ds k) λx=>bnd (h l) λy=>bnd (u4 x y) λz=>bnd (kL (.ref n) (.int k) z) λ_=>ret (.next l)|_,_=>bad
def rY(a:CE):CI:=λl=>bnd (a l) λx=>match x with| .dic n=>bnd (getDc n) λp=>chk (p.1=true) (ret ⟨p.2.map λq=>.tup [q.1,q.2],λs=>s[n]?=some (.dct true p.2)⟩)|_=>bad
def zp(a:CE):CI:=λl=>bnd (a l) λx=>match x with| .ref n=>bnd (getL n) λds=>ret ⟨ds.reverse,λs=>s[n]?=some (.lst ds)⟩|_=>bad
def oP(a b:CE):CE:=λl=>bnd (a l) λo=>match o with
 | .ref n=>bnd (b l) λx=>bnd (getL n) λds=>match x,i7 ds with| .bl k,some bs=>chk (bs.contains k=true/\bs.length<=fK) (ret (.int (bs.findIdx (· == k):Nat)))|_,_=>bad
 |_=>bad
def Qq:D->Option (D×D)
 | .tup [k,v]=>if om true k=true then some (k,v) else none|_=>none
def sZ:List D->Option (List (D×D))
 |[]=>some []|d::ds=>(Qq d).bind λp=>(sZ ds).map (p::·)
def uo(ds:List D):M D:=match sZ ds with|some ps=>chk (ps.length<=1000) (ul true (wO [] ps))|none=>bad
open PySem
def tQ(g:CA)(c:CE):CE:=λl=>bnd (g l) λds=>bnd (c l) λd=>if ds.length=0 then ret d else oD ds
def rX(d e:D):M D:=match d,e with| .ref m,.ref n=>bnd (getL m) λks=>bnd (getL n) λc=>uo (ks.zipWith (λp q=>.tup [p,q]) c)|_,_=>bad
def getDf(n:Nat):M (List (D×D)):=λs=>match s[n]? with|some (.dct true ar)=>.ok ar s|some (.dcf ar)=>.ok ar s|_=>.bad
noncomputable def C8:D->Prop
 | .int _=>True|_=>False
open Classical in
def xF(d e:D):M D:=match d,e with| .dic m,.dic n=>bnd (getDf m) λa=>bnd (getDf n) λb=>chk (a=b/\∀p∈a,C8 p.2) (ret (.bl true))|_,_=>bad
end MM
namespace MM
def vo(ds:List D):M D:=match lQ ds with|some ns=>ret (.int ns.sum)|none=>bad
def vm:D->M D
 | .tup ds=>vo ds|_=>bad
open PySem PySem.Spec PyProof.Rows L2
section
def AM:xh:=IU Fe "enumerate" (λc p=>c.tag p 16) qx λh g m a s=>by let⟨_,_,_,rfl⟩:=Iw h;rw[R9];exact Q0 false g m a s
end
section
def bs{Q:ah×List ah->aq->Prop}(h:Q (.builtin "list.__getattribute__",[.ref l]) s):aH (aY prog w) A (uU (.builtin "list.__getattribute__") (.ref l)) Q E s:=by
 unfold uU;let c:DN (.builtin "list.__getattribute__")=pure (.type "wrapper_descriptor"):=by rfl
 rw[c];refine ab (aj ?_);exact aj h
def IE:plainId "dict.update.loop"=true:=by nofun
variable{prog:Program}{w:bR}
def Vu{s:aq}{Q:List ah->aq->Prop}(q:s.heap.IsTuple a #[c,v])(h:Q [c,v] s):aH (aY prog w) A (rR (.ref a)) Q E s:=by
 let⟨⟨C,B,o,l⟩,e,g,n,hd⟩:=q;simp only at g hd;subst g hd;unfold rR;let u:s.TypeIs (.ref a) "tuple":=⟨_,e,rfl⟩
 wp_walk using nu u
 exact h
end
section
def S8:GB X (De X.K):=by
 intro c s σ H x y v u Q I L J h;let⟨p,xs,i,z,rfl,rfl,O,Y,q⟩:=h;cases L;let⟨t,rfl⟩:=J;let⟨its,r,C,hz⟩:=I.list O;let⟨j,g,h2,h3,h4,o⟩:=IM Y;let⟨w,G,l⟩:=r.get h2;let U:=r.length;let hn:=BH;let fin:EP X c σ Q w s:=⟨z,H,I,l,q⟩
 by_cases E:0<=i
 ·let B : i.toNat = j := by rw[uP E o]at g;exact aF g
  exact wpAny_getItem_list C.isList E () (by rw[B];simpa using G) fin
 ·let B : (i+(its.toArray.size : Int)).toNat = j := by rw[tz () h4]at g;rw[aL,<- U];exact aF g
  exact zM C.isList () (by rw[aL]<;>ext) () (by rw[B];simpa using G) fin
theorem dD.intI{K:ai}{k:Int}(r:dD K ρ H v (.int k)):v=.int k:=by cases r;rfl
def dD.refI{K:ai}{n:Nat}(r:dD K ρ H v (.ref n)):∃a,v=.ref a/\ρ[n]?=some a:=by cases r with|ref _ h=>exact⟨_,rfl,h⟩
def Qkp(ho:SE X o fo)(hi:SE X i fi)(he:SE X e fe)(ha:∀ov iv new,augStore i ov iv new=(do lK [new,ov,iv] (pG ov iv new); Er [new,ov,iv] []; pure .next)):
  SS X (.AugAssign (.Subscript o i cp) .Add e pos) (uX fo fi fe):=
 (Zq ho hi S8 he O6 Qu ha).of λG σ H h_=>h_.el λρ l st lr sr p=>⟨ρ,l,st,lr,sr,p.bnd.imp λd a7 ρ1 H1 x1 s1 p1 u ru=>⟨ρ1,l,a7,lr.mono x1,s1,p1.bnd.imp λz st2 ρ2 H2 x2 U p2 w B=>by
  let c:=ru.mono x2;let E:∀{ρ3 H3},Ex ρ2 H2 ρ3 H3->dD X.K ρ3 H3 u d:=λx=>c.mono x;let sh:∃I k,d=.ref I/\z=.int k:=by
   clear E c B ru;cases d with
   |ref I=>
    cases z with|int k=>exact⟨I,k,rfl,rfl⟩|_=>exact p2.elim
   |_=>exact p2.elim
  let⟨I,k,rfl,rfl⟩:=sh;let⟨aa,rfl,h⟩:=c.refI;cases B.intI;let⟨ds,e,p3⟩:=aU.getL (aU.bnd p2) U;let⟨a,vs,ha,hv,r⟩:=U.seq e;rw[h]at ha;cases ha;let⟨j,dx,h1,h2,q⟩:=aU.item (aU.bnd p3) U;let⟨v,h3,rv⟩:=GN r h1 h2;refine⟨_,vs,k,v,rfl,rfl,io.of hv,h3,ρ2,l,st2,(lr.mono x1).mono x2,U,(aU.bnd q).imp λy st3 ρ3 H3 x3 Q p4 w g=>?_⟩;let C:=rv.mono x3;let sh2:∃i j,dx=.int i/\y=.int j:=by
   clear C g rv h2;cases dx with
   |int i=>
    cases y with|int j=>exact⟨i,j,rfl,rfl⟩|_=>exact p4.elim
   |_=>exact p4.elim
  let⟨i,j',rfl,rfl⟩:=sh2;cases C.intI;cases g.intI;refine⟨i,j',rfl,rfl,?_⟩;let p5:=(aU.bnd p4).ret Q;let⟨O,e',Y⟩:=aU.getL (aU.bnd (aU.bnd p5)) Q;let⟨a',vs',L,J,r'⟩:=Q.seq e';let h':ρ3[I]?=some aa:=by let⟨b,eb,h'⟩:=(E x3).refI;cases eb;exact h'
  rw[h']at L;cases L;cases e2:MM.oz O.length k with|none=>rw[e2]at Y;exact Y.elim|some m=>
   rw[e2]at Y;let hl:=(ae.mp e').1;let⟨s4,x4⟩:=Q.put hl h' J (r'.set m (.int (i+j')));refine⟨_,vs',k,m,rfl,rfl,J,by rw[r'.length];exact e2,?_⟩;let p7:aU X.K ρ3 H3 (putL _ (O.set m (.int (i+j'))) st3) _:=Y;unfold putL at p7;rw[e']at p7;exact (p7 ρ3 _ x4 s4).ret s4 σ ((((lr.mono x1).mono x2).mono x3).mono x4)⟩⟩
end
def Dt:wz:=λq c e=>RA e λt o a _ h=>Df t λx i p v=>Jk i λn j l u=>wh (o=.Add/\n=.USub) λz=>(q.e c x).bind λf=>(q.e c (.UnaryOp n j l)).bind λk=>(q.e c a).bind λm=>some ⟨uX f.1 k.1 m.1,λg=>by subst h v u;let⟨rfl,rfl⟩:=z;exact Qkp (f.2 g) (k.2 g) (m.2 g) (by intros;rfl)⟩
def Ci:ma:=λq c e=>D_ e λx _ o _ Y=>vC o λa o U=>(JF c.G x).bind λr=>wh (c.glo x=true/\ui x=true/\r.1.k<=c.k/\r.1.n=(a::o).length+1/\r.1.kw=true/\r.1.ps.getLast?=some (aD "most")) λz=>(xp q c (a::o)).bind λC=>some ⟨l9 r.1.g C.1 (.int 500),λg=>by
 subst Y U;let⟨Q,O,L,J,I,H⟩:=z;let⟨f,fd,m,F,G,B,h⟩:=(g.G _ _ r.2).ex;let⟨x,y,l⟩:=C.2;rw[cI,br]at y
 replace h:=h I
 unfold Fx at h;rw[aJ H]at h;let⟨u,hu,B1⟩:=h;exact Vq g.S (beq_iff_eq.mp Q) F (g.hr.mono L) m G B1 hu (Bx O) (x g) (λE st ds v z=>by rw[J,l E st ds v z]) (rJ y.1) (Cv y.2)⟩
section
variable{K:ai}{mg:Str->Option ah}
def sE(K:ai)(mg:Str->Option ah)(x:Str)(c:Stmt):Prop:=∃a g u,yV K x x c a g u/\mg x=some (.ref a)/\RelV (.int 500) u
def Hg{H kV I C o ct to:ah}{u:Nat}(X:K.In h)(G:h.Ns cW mg)(a:gz K cW x=some (some (.ref f)))(l:K.lookup f=some ⟨H,E,.func (cF x x (dN g) (cP g) (bc g) (.ref T) kV I C J o ct),B⟩) (c:gU K o x=true) (k:di K (.ref f)=true) (t:K.lookup T=some ⟨to,v,.seq #[.int 500 q] u,ts⟩):sE K mg x g:=
 ⟨f,_,_,Wh (st:=g) l c k t rfl,tK X G a,⟨_,rfl⟩⟩
def TU(R:mO){k n m:Nat}(F:sE K mg x h)(S:rA (ps++r) ps (bc h)=true)(b0:∀(u:ah)(T:ak)(kV g q:ah)(B:Option ak)(c ct:ah)(l:List ah),l.length=n->∃k:Option (Array ah)->Sem (List (Str×ah)),g9 (cF x x (dN h) (cP h) (bc h) (.ref T) kV g q B c ct) ⟨l,[]⟩=kB (.ref T) >>= k/\k (some #[u])=pure (ps.zip l))(b1:∀(u:ah)(T:ak)(kV g q:ah)(B:Option ak)(c ct:ah)(l:List ah),l.length+1=n->∃k:Option (Array ah)->Sem (List (Str×ah)),g9 (cF x x (dN h) (cP h) (bc h) (.ref T) kV g q B c ct) ⟨l,[]⟩=kB (.ref T) >>= k/\k (some #[u])=pure (ps.zip (l++[u])))(hb:(pA (n8 R 40) ⟨bc h,ps++r,k,G,Z,C,H,true,([],[]),none⟩ (cP h)).map (·.1)=some o) (Q:cR P w K mg base G) (hZ:vT mg Z) (hC:xD K mg C) (Y:ps.getLast?=some (aD "most")) (J:ps.length=n:=by rfl) (hm:(ps++r).length=m:=by rfl):cR P w K mg base ((x,⟨n,k+1,ps,true,bW m o⟩)::G):=by
 let⟨f,fd,u,F,L,hu⟩:=F;let O:=Ee S;let⟨v,_,e⟩:=cG.mp hb;refine Fd L (S5 F O J hm λc A outer s Hp E U=>e ▸ v.2 ⟨IY,rfl,O.nd,U,Q,hZ,hC,iR,λ_=>⟨by show (if (bc h).kind.isAnnotationScope=true then _ else (bc h).kind)=_;rw[O.kind];rfl,λ_=>rfl⟩,⟨(λ_ _ z=>nomatch z),(λ_ _ z=>nomatch z)⟩,λ_ z=>nomatch z⟩) F.kp
  (F.binds λT kV g q B c ct l I=>?_) (λ_=>?_) Q
 ·rw[bB]at I ⊢;exact b0 u T kV g q B c ct l (I.trans J)
 ·unfold Fx;rw[aJ Y];exact⟨u,hu,F.binds λT kV g q B c ct l I=>b1 u T kV g q B c ct l (by rw[<- J,<- I,aB];rfl)⟩
end
def UI:SS X (.Return none pos) (dQ (aQ .non)):=Se.of λG σ H c=>c.el λρ l st g sr p=>((p.bnd.ret sr).ret sr) .non .non
def Ce:wz:=λ_ _ e=>MB e λo _ h=>oN o λc=>some ⟨dQ (aQ .non),λ_=>h ▸ c ▸ UI⟩
end MM
namespace MM
open PySem PySem.W PyProof.Rows L2
section
variable{A:bM}{s:aq}{es:Array lB}{ep i:Nat}
def Xw(hd:(d == cJ)=false):Ez prog w (Builtin.«dict.items» ⟨[.ref d],[]⟩) (λ_ R s=>(∃es ep,n6 s.heap d es ep)/\R (.ok (.ret (.ref s.heap.objs.size))) { s with heap:=s.heap.push { cls:=.type "dict_items",data:=.fields #[.ref d] } }):=
 .of_wp λA R s c=>by
  let⟨⟨es,ep,g⟩,h⟩:=c;unfold Builtin.«dict.items»;refine ab ?_;unfold Builtin.Dict.noArgs;refine ab (gF g.typeIs ?_)
  show aH _ _ (pure d) _ _ s;refine aj ?_
  show aH _ _ (ie d >>= _) _ _ s;unfold ie;rw[az (by rw[hd];exact bD)];exact ab (aj (ab (b9 (aj ⟨_,rfl,h⟩))))
def Zl{Q:ah->aq->Prop}(h:s.heap.IsItemsView v d)(B:n6 s.heap d es ep)(G:Q (.ref s.heap.objs.size) { s with heap:=s.heap.push { cls:=.type "dict_itemiterator",data:=.fields #[.none,.bool false,.ref d,.int 0 0,.int es.size 0,.int ep 0,.none,.none] } }):aH (aY prog w) A (zH (.ref v)) Q E s:=by
 let⟨H,l,C,q⟩:=id h;let⟨o,u,I,c⟩:=id B;refine EE h.typeIs xS (cA xS h.typeIs F.entry_dict_items_iter ?_ (F.args_dict_items_iter_1 _));unfold Builtin.«dict_items.__iter__»;refine ab (aj (ab ?_));unfold Builtin.Dict_items.dictOf;refine ab (cH l q (x:=.ref d) rfl (aj (ab ?_)));unfold Builtin.Dict_items.newIterator;refine ab (dH u c (ab (gY u c ?_)));let g:fC "dict_itemiterator"=true:=by decide
 simp only[g,if_true];refine b9 (aj ⟨_,rfl,"dict_itemiterator",_,⟨_,aC _ rfl,rfl⟩,iu.lookup,?_⟩)
  (by simp only[sizeOk,m7,aL,aB,bU,gC,mG];ext)
 simpa [dU,m7] using G
def Qku{Q:Option ah->aq->Prop}(l:kg s.heap it d i es.size ep ok C)(O:n6 s.heap d es ep)(L:es[i]?=some c)(Y:∀h',xT h' it d (i+1) es.size ep c.key c.val s.heap.objs.size->h'.get? s.heap.objs.size=some { cls:=.type "tuple",data:=.seq #[c.key,c.val] }->h'.objs.size=s.heap.objs.size+1 ->(∀b o,b≠it->s.heap.get? b=some o->h'.get? b=some o)->Q (some (.ref s.heap.objs.size)) { s with heap:=h' }):aH (aY prog w) A (ip (.ref it)) Q E s:=by
 let⟨h,g,J,B,os⟩:=s;let⟨od,H,U,I⟩:=id O;let v:pJ ⟨h,g,J,B,os⟩ (.ref it) "dict_itemiterator":=⟨_,l,rfl⟩
 unfold ip;refine ab (il (bX (name:=aD "__next__") v iu
  (cA iu v tM ?_ (sT _))))
 refine ab (aj (ab (ab ?_)))
 first|refine ab (iq v (aj ?_))|refine ab (kH v (aj ?_))
 refine ab (qN l rfl ?_);let G:fC "dict_itemiterator"=true:=by decide
 simp only[G,if_true]
 show aH _ _ (if (bG d == cK)=true then _ else _) _ _ _;rw[az (show ¬ ((bG d == cK)=true) from bD)];refine ab (aj (ab (dH H I ?_)));rw[az (by simp)];refine ab (aj (ab (gY H I ?_)));rw[az (by simp)];refine aj ?_;simp only[show ¬ ((i:Int) < 0) from by ext,if_false,bA,L];refine ab ?_
 first|refine ab (iq v (aj ?_))|refine ab (kH v (aj ?_))
 refine ab (pK v ?_)
 show aH _ _ (Bq (.ref it) 3 (dU ((i:Int)+1)) >>= _) _ _ ⟨h,g,J,B,os⟩;refine ab (dk l (by simp) λh₁ he₁ hs₁=>?_)
 replace hs₁:cX it h h₁:=hs₁
 replace he₁:kg h₁ it d (i+1) es.size ep ok C:=by
  let e:((i+1:Nat):Int)=(i:Int)+1:=by ext
  unfold kg;rw[e];simpa [dU] using he₁
 let hT₁:pJ ⟨h₁,g,J,B,os⟩ (.ref it) "dict_itemiterator":=⟨_,he₁,rfl⟩
 refine ab (cw (ab (pK hT₁ (ab (pK hT₁ ?_)))))
 show aH _ _ (nE (.ref it) 6 c.key c.val) _ _ ⟨h₁,g,J,B,os⟩;unfold nE;refine ab (wo ?_);let he₂:kg (h₁.push { cls:=.type "tuple",data:=.seq #[c.key,c.val] }) it d (i+1) es.size ep ok C:=am _ he₁;generalize hh₂:h₁.push { cls:=.type "tuple",data:=.seq #[c.key,c.val] }=h₂ at he₂;let hz₁:h₁.objs.size=h.objs.size:=hs₁.1;let q:it < h.objs.size:=aK l;let ht₂:h₂.get? h.objs.size=some { cls:=.type "tuple",data:=.seq #[c.key,c.val] }:=by rw[<- hh₂,<- hz₁];exact aC _ rfl
 let hz₂:h₂.objs.size=h.objs.size+1:=by rw[<- hh₂,cB,hz₁]
 let hk₂:∀b o,b≠it->h.get? b=some o->h₂.get? b=some o:=λb o u e=>by rw[<- hh₂];exact am _ (hs₁.extBut b o u e)
 show aH _ _ (m8 (.ref it) >>= _) _ _ ⟨h₂,g,J,B,os⟩;rw[hz₁];clear hh₂ he₁ hs₁ hT₁ hz₁ h₁;refine ab ?_;unfold m8;refine ab (cH he₂ rfl (x:=.none) rfl (aj ?_));simp only[if_true];refine ab (cH he₂ rfl (x:=ok) rfl (ab (cH he₂ rfl (x:=C) rfl ?_)));refine ab (dk he₂ (by simp) λh₃ he₃ hs₃=>?_)
 replace hs₃:cX it h₂ h₃:=hs₃
 replace he₃:kg h₃ it d (i+1) es.size ep c.key C:=he₃
 refine ab (dk he₃ (by simp) λh₄ he₄ hs₄=>?_)
 replace hs₄:cX it h₃ h₄:=hs₄
 replace he₄:kg h₄ it d (i+1) es.size ep c.key c.val:=he₄
 refine ab (dk he₄ (by simp) λh₅ he₅ hs₅=>?_)
 replace hs₅:cX it h₄ h₅:=hs₅
 replace he₅:xT h₅ it d (i+1) es.size ep c.key c.val h.objs.size:=he₅
 refine ab (dk he₅ (by simp) λh₆ he₆ hs₆=>?_)
 replace hs₆:cX it h₅ h₆:=hs₆
 replace he₆:xT h₆ it d (i+1) es.size ep c.key c.val h.objs.size:=he₆
 refine ab (ke (aj (aj ⟨_,rfl,aj (Y h₆ he₆ ?_ ?_ ?_)⟩)))
 ·exact hs₆.extBut _ _ (dm q) (hs₅.extBut _ _ (dm q) (hs₄.extBut _ _ (dm q) (hs₃.extBut _ _ (dm q) ht₂)))
 ·show h₆.objs.size=h.objs.size+1;rw[hs₆.1,hs₅.1,hs₄.1,hs₃.1,hz₂]
 ·exact λb o u e=>hs₆.extBut b o u (hs₅.extBut b o u (hs₄.extBut b o u (hs₃.extBut b o u (hk₂ b o u e))))
def Xb{Q:Option ah->aq->Prop}(hh:A.handled=none)(c:kg s.heap it d i es.size ep ok q)(v:n6 s.heap d es ep)(u:es[i]?=none)(C:∀h',nw it s.heap h'->Q none { s with heap:=h' }):aH (aY prog w) A (ip (.ref it)) Q E s:=by
 let⟨G,l,B,o⟩:=id v;let g:s.TypeIs (.ref it) "dict_itemiterator":=⟨_,c,rfl⟩
 unfold ip;refine ab (il (bX (name:=aD "__next__") g iu
  (cA iu g tM ?_ (sT _))))
 refine ab (aj (ab (ab ?_)))
 first|refine ab (iq g (aj ?_))|refine ab (kH g (aj ?_))
 refine ab (qN c rfl ?_);let h:fC "dict_itemiterator"=true:=by decide
 simp only[h,if_true]
 show aH _ _ (if (bG d == cK)=true then _ else _) _ _ s;rw[az (show ¬ ((bG d == cK)=true) from bD)];refine ab (aj (ab (dH l o ?_)));rw[az (by simp)];refine ab (aj (ab (gY l o ?_)));rw[az (by simp)];refine aj ?_;simp only[show ¬ ((i:Int) < 0) from by ext,if_false,bA,u];refine ab ?_
 first|refine ab (iq g (aj ?_))|refine ab (kH g (aj ?_))
 show aH _ _ (Bq (.ref it) 2 .none >>= _) _ _ s;refine ab (nS c rfl (by simp) ?_)
 show aH _ _ (zP (.type "StopIteration") [] >>= _) _ _ _;refine ab ?_;simp only[zP,newTuple];refine ab (b9 ?_ (by size_fits));refine ab (m:=lN _ _) (ox (a:=cK) (by first|rfl|(simp only[lN];rfl)) ?_);refine b9 ?_ (by size_fits);simp only[raiseNew];refine ab (xQ ?_);rw[show A.in1.handled=none from hh];refine ab (aj (Bm ?_));refine ab (eL (T:="StopIteration") (b:=true) ⟨_,aC _ rfl,rfl⟩ nV ?_);exact aj (C _ (((cM ..).extBut.push _).push _))
end
def Ld(a:ak)(n:Nat):It:=
 ⟨λi H=>∃es p,H a=some (mh a es)/\es.length=n/\es[i]?=some p,λi H x c=>∃T k v,x=.ref T/\H T=none/\(∀es,H a=some (mh a es)->∃p,es[i]?=some p/\p.2.1=k/\p.2.2=v)/\c=fT H T (.tup [.ref k,v]),λi H=>∃es,H a=some (mh a es)/\es.length=n/\n<=i⟩
section
def FI(I:Inv X ac σ H s)(e:H a=some (mh a es)):(a == cJ)=false/\∃c,n6 s.heap a c es.length/\c.size=es.length/\∀(i:Nat)(p:NK×ak×V),es[i]?=some p->∃g:lB,c[i]?=some g/\g.key=.ref p.2.1/\RelV p.2.2 g.val:=by
 let⟨⟨z,y,xs,h,o,c,ep,J,G,E,u,Q,C⟩,O,L⟩:=(show gP X.prog X.w H s.heap a (mh a es) from I.hok a _ e)
 let l:es.length=xs.length:=cZ h;subst C;refine⟨y,c,⟨o,J,G,by rw[l];exact E⟩,?_,λi p B=>?_⟩
 ·rw[l,<- fO,u,ag]
 ·let⟨q,v,r⟩:=Dk h B;refine⟨CP q,by rw[<- fF,u,au,v];rfl,?_,r.2.2⟩;rw[r.2.1];rfl
def Qkx(I:Inv X ac σ H s)(e:H a=some (mh a es))(Y:H a=some (mh a ys)){i:Nat}(h:es[i]?=some p):∃q,ys[i]?=some q/\q.2.1=p.2.1/\q.2.2=p.2.2:=by
 let⟨_,x1,o,z1,Q⟩:=FI I e;let⟨_,x2,l,z2,O⟩:=FI I Y;let⟨o1,U,_,d1⟩:=o;let⟨o2,E,_,g⟩:=l;rw[U]at E;cases E;rw[d1]at g;injection g with g d3
 subst g;let C:i < ys.length:=by rw[<- d3];exact (ae.mp h).1
 let⟨u,hu,L,J⟩:=Q i p h;let⟨v,B,c,G⟩:=O i _ (af C);rw[hu]at B;cases B;rw[L]at c;injection c with c
 exact⟨_,af C,c.symm,RelV.inj G J⟩
end
def VP{K:ai}{k:Nat}(a l:ak)(n:Nat):vv P w K (.Tuple ts k pos) (Ld a n) [l] l (λi h=>∃ok L,kg h l a i n n ok L) where
 mem:=by simp
 obj:=λi h pq151 b B=>by
  let⟨ok,L,st⟩:=pq151;let e:b=l:=by simpa using B
  subst e;exact⟨_,st,λv z=>by cases z⟩
 keep:=λi h h' pq152 k=>by let⟨ok,L,st⟩:=pq152;exact⟨ok,L,k l (by simp) _ st⟩
 item:=by
  intro X hP hw hK hc i O s σ H E I hf pq191 hg;let⟨ok,L,st⟩:=pq191;subst hP hw hK;let⟨es,p,hq,hn,hx⟩:=hg;let⟨_,G,en,hz,hk⟩:=FI I hq;let⟨u,hu,ku,ru⟩:=hk i p hx;let⟨f0,f1,f2,f3,f4,f5⟩:=hf l (by simp);subst hn;let U:kg s.heap l a i G.size es.length ok L:=by rw[hz];exact st
  refine Qku U en hu λh' ho hT hsz hk'=>?_;refine⟨_,rfl,wpAny_letOwnedTupleGo_items ho λh2 he2 hs2=>?_⟩;let hit:l < s.heap.objs.size:=aK st;let C:H s.heap.objs.size=none:=I.hok.fresh (ay _);let keep:∀b o,b≠l->s.heap.get? b=some o->h2.get? b=some o:=λb o B J=>(hs2.2 b B).trans (hk' b o B J);let hT2:h2.get? s.heap.objs.size=some { cls:=.type "tuple",data:=.seq #[u.key,u.val] }:=(hs2.2 _ (dm hit)).trans hT;let ne:∀b o,H b=some o->b≠l:=λb o q z=>by rw[z,f0]at q;cases q
  let I2:Inv X O σ (fT H s.heap.objs.size (.tup [.ref p.2.1,p.2.2])) { s with heap:=h2,toks:=s.toks }:=by
   refine I.step (g':=s.gens) (d':=s.drawn) (ch:=[l]) (λb B=>?_) (λb o _ _ g J _=>keep b o (λz=>g (by simp[z])) J)
    (λb o _ _ g J _=>⟨o.slots,keep b o (λz=>g (by simp[z])) J⟩) (λb o g J n1=>by rw[gB (bj (aK J))];exact n1) (λb o g J=>⟨o,keep b o (λz=>g (by simp[z])) J⟩)
    (λb ys q=>by rw[gB (oZ q C)];exact q) (λb o ys q=>by rw[gB (oZ q C)];exact q) (λb ps q=>⟨#[],by rw[gB (oZ q C),q];simp⟩) (λm hm=>?_) ?_ I.bare
   ·let c:b=l:=by simpa using B
    subst c;exact⟨f3,f1,f4,f5⟩
   ·let⟨o,G,ep,J,r⟩:=hm;exact⟨o,G,ep,keep _ o f1.symm J,r⟩
   ·intro b o q;by_cases B:b=s.heap.objs.size
    ·subst B;rw[lH]at q;cases q;exact⟨by show 2<=sizeLine;decide,[u.key,u.val],.cons ku (.cons ru .nil),⟨_,hT2,rfl,⟨_,rfl⟩,rfl⟩⟩
    ·rw[gB B]at q;have:=ne b o q;refine (I.hok b o q).stay (λc v g r=>keep c v ?_ r) (λc Y=>by rw[gB (oZ Y C)];exact Y) λc ys Y=>by rw[gB (oZ Y C)];exact Y
     rcases g with z|z
     ·rw[z];exact this
     ·exact ne c _ z
  refine⟨.ref s.heap.objs.size,_,I2,rfl,⟨_,p.2.1,p.2.2,rfl,C,λys hy=>Qkx I hq hy hx,rfl⟩,⟨_,_,by rw[hz]at he2;exact he2⟩,λb B=>?_⟩;rw[gB]
  ·exact (hf b B).1
  ·intro z;let Y:b=l:=by simpa using B
   rw[<- z,Y]at hit;exact bo hit (cT _)
 done:=by
  intro X hP hw hK hc i O s σ H E I hf pq192 hg;let⟨ok,L,st⟩:=pq192;subst hP hw hK;let⟨es,hq,hn,hx⟩:=hg;let⟨_,G,en,hz,hk⟩:=FI I hq;let⟨f0,f1,f2,f3,f4,f5⟩:=hf l (by simp);subst hn;let U:kg s.heap l a i G.size es.length ok L:=by rw[hz];exact st
  exact Xb (I.ok.hd hc) U en (by simp;ext) λh' eb=>⟨rfl,I.turned (t':=s.toks) (λb o B e=>eb b o B e) f0 f1 f3 f4 f5⟩
 self:=λA i s Q E pq153 h=>by let⟨ok,L,st⟩:=pq153;exact kcp_self st h
section
variable{k:Nat}{cp a5 a0:Pos}
def YM(ho:SE X o fa)(G:dS o "items" X.env (eval o X.env)=eval o X.env)(E:(a5.endLine == a0.line)=true):SI X (.Tuple ts k cp) (.Call (.Attribute o "items" a5) [] [] a0) (rY fa):=by
 intro J s σ H R I C;let⟨ρ,l,st,lr,sr,q⟩:=C;refine yF G E (gA (ho J s σ H (λx U=>∃a es,x=.ref a/\U a=some (mh a es)/\R (Ld a es.length) U) I ⟨ρ,l,st,lr,sr,(aU.bnd q).imp λd a7 ρ1 U x1 B p1 v rv=>?_⟩) λv B z=>?_)
 ·cases d with
  |dic n=>
   let⟨a,rfl,_,h⟩:=rv.inv;let⟨b,L,e,I⟩:=aU.getDc (aU.bnd p1) B;let⟨hb,G⟩:=aU.chk I;cases (show b=true from hb);let⟨es,Y,r⟩:=B.ob n a _ h e;refine⟨a,es,rfl,Y,G.ret B _ λρ H st x s q=>?_⟩;let U:ρ[n]?=some a:=by let⟨τ,eτ,_⟩:=x.pre;rw[eτ];exact xl h
   let⟨u,l,g⟩:=s.ob n a _ U q;let E:u.length=es.length:=by rw[NR.length g,NR.length r]
   refine⟨⟨u,l,E,by show es.length<=(L.map _).length;rw[ag,NR.length r];exact ay _⟩,λi d hd=>?_⟩;let Q:i < u.length:=by rw[NR.length g];have:=(ae.mp hd).1;rw[ag]at this;exact this
   refine⟨⟨u,_,l,E,af Q⟩,λy H' z=>?_⟩;let⟨T,k,v,rfl,C,z,rfl⟩:=z;let⟨p,O,rfl,rfl⟩:=z u l;let⟨q,J,o⟩:=Dk g O
   change (L.map _)[i]?=some d at hd
   rw[au,J]at hd;cases hd;let c:Ex ρ H ρ (fT H T (.tup [.ref p.2.1,p.2.2])):=Ex.new C;exact⟨c,s.new C,.tup (mU.of lH) (.cons (o.2.1.mono c) (.cons (o.2.2.mono c) .nil))⟩
  |_=>exact p1.elim
 ·let⟨x,U,Y,C,a,es,rfl,H,E⟩:=z;cases C;let⟨hd,u,Q,sz,_⟩:=FI Y H;let l:=Q;let⟨v,g,c,_⟩:=l;refine⟨"dict","dict.items",BV,BZ,F.type_dict_items,Q.typeIs,λb q=>by injection q with q;subst q;exact⟨v,g,c.2.1⟩,?_⟩;refine kQ rfl (wR (tF BZ Q.typeIs F.entry_dict_items (F.args_dict_items_1 _) (Xw hd) ⟨⟨u,_,Q⟩,?_⟩));let h:n6 (B.heap.push { cls:=.type "dict_items",data:=.fields #[.ref a] }) a u es.length:=⟨v,am _ g,c,by let⟨o',g',_,d'⟩:=Q;rw[g]at g';cases g';exact d'⟩
  refine Zl (s:={ B with heap:=B.heap.push { cls:=.type "dict_items",data:=.fields #[.ref a] } }) ⟨_,aC _ rfl,rfl,rfl⟩ h ?_;let G:∀b o,B.heap.get? b=some o->((B.heap.push { cls:=.type "dict_items",data:=.fields #[.ref a] }).push { cls:=.type "dict_itemiterator",data:=.fields #[.none,.bool false,.ref a,.int 0 0,.int u.size 0,.int es.length 0,.none,.none] }).get? b=some o:=λb o e=>am _ (am _ e);let O:B.heap.objs.size<=(B.heap.push { cls:=.type "dict_items",data:=.fields #[.ref a] }).objs.size:=by rw[cB];exact Jz _
  refine⟨_,[(B.heap.push { cls:=.type "dict_items",data:=.fields #[.ref a] }).objs.size],_,Ld a es.length,U,rfl,Y.kept (t':=B.toks) G,VP a _ es.length,⟨.none,.none,by rw[<- sz];rw[sz];exact (by rw[<- sz];exact aC _ rfl)⟩,λb hb=>?_,E⟩;let e:b=(B.heap.push { cls:=.type "dict_items",data:=.fields #[.ref a] }).objs.size:=by simpa using hb
  subst e;exact Y.fpOk O (Y.hok.fresh O)
end
def Bc:xh:=λq c tg e=>vM e λo m p B v h=>v0 B λu=>IK tg λ_ _ _ l=>wh (m=aD "items"/\(p.endLine == v.line)=true/\Fy o=true) λz=>(q.e c o).bind λf=>some ⟨rY f.1,λg=>by subst h u l;let⟨rfl,u,l⟩:=z;exact YM (f.2 g) (IZ l) u⟩
def NF(K:ai)(a:ak)(n:Nat):It:=
 ⟨λi H=>∃xs x,io K H a xs/\xs.length=n/\xs[n-1-i]?=some x/\i < n,λi H x c=>c=H/\∀xs,io K H a xs->xs[n-1-i]?=some x,λi H=>n<=i⟩
def UV{K:ai}(a q:ak)(n:Nat):vv P w K tg (NF K a n) [q] q (λi h=>i<=n/\h.IsRevIter q a ((n:Int)-1-(i:Nat))) where
 mem:=by simp
 obj:=λi h L b O=>by
  let⟨_,st⟩:=L;let e:b=q:=by simpa using O
  subst e;let⟨o,e,c,d⟩:=st;exact⟨o,e,λv z=>by rw[d]at z;cases z⟩
 keep:=λi h h' J k=>by let⟨hi,st⟩:=J;exact⟨hi,st.at λo e=>k q (by simp) o e⟩
 item:=by
  intro X hP hw hK hc i g s σ H E I U C hg;let⟨hi,st⟩:=C;subst hP hw hK;let⟨xs,x,hq,hn,hx,hlt⟩:=hg;let⟨its,rv,pl,hz⟩:=I.list hq;let⟨u,hu,ru⟩:=rv.get hx;let⟨f0,f1,f2,f3,f4,f5⟩:=U q (by simp);let ej:((n-1-i:Nat):Int)=(n:Int)-1-(i:Nat):=by ext
  let Y:s.heap.IsRevIter q a ((n-1-i:Nat):Int):=by rw[ej];exact st
  refine wpAny_pyNext_rev_item Y pl.isList (x:=u) (by simpa using hu) λh' Q sb=>?_;let I1:Inv X g σ H { s with heap:=h' }:=I.turned (t':=s.toks) (λb o O e=>(sb.2 b O).trans e) f0 f1 f3 f4 f5;let⟨o,e,c,d⟩:=id Q;exact⟨u,rfl,I_ (s:={ s with heap:=h' }) e c d (by decide) ⟨x,H,I1,ru,⟨rfl,λys hy=>by rw[I.list_inj hy hq];exact hx⟩,⟨hlt,by rw[show (n:Int)-1-((i+1:Nat):Int)=((n-1-i:Nat):Int)-1 by ext];exact Q⟩,λb O=>(U b O).1⟩⟩
 done:=by intro X hP hw hK hc i g s σ H E I U B hg;let⟨hi,st⟩:=B;subst hP hw hK;let⟨f0,f1,f2,f3,f4,f5⟩:=U q (by simp);have hg':n<=i:=hg;exact wpAny_pyNext_rev_end (l:=a) (I.ok.hd hc) (by rw[show (-1:Int)=(n:Int)-1-(i:Nat) by ext];exact st) λh' eb=>⟨rfl,I.turned (t':=s.toks) (λb o O e=>eb b o O e) f0 f1 f3 f4 f5⟩
 self:=λ_ _ _ _ _ G h=>by let⟨_,st⟩:=G;exact qO st h
section
def Su(hg : Gl X "reversed")(hm : X.mg "reversed" = none)(hv : dg "reversed" = some (.type "reversed"))(h : SE X e fa)(he : starEach [e] X.env = [(false, eval e X.env)] := by rfl):
  SI X tg (.Call (.Name "reversed" p) [e] [] pos) (zp fa):=by
 intro J s σ H R I C;let⟨ρ,l,st,lr,sr,q⟩:=C;refine dM (yy I hg hm hv ?_ (by decide) (by decide));refine cz ?_ he rfl;rw[he]
 show aH _ _ (tq [(false,eval e X.env)]) _ _ s;refine im (gA (h J s σ H (λx Y=>∃a xs,x=.ref a/\io X.K Y a xs/\R (NF X.K a xs.length) Y) I ⟨ρ,l,st,lr,sr,(aU.bnd q).imp λd a7 ρ1 Y x1 g p1 v G=>?_⟩) λu g ⟨x,Y,I1,r1,a,xs,ex,hx,q1⟩=>iz ?_)
 ·cases d with
  |ref n=>
   let⟨a,rfl,_,h⟩:=G.inv;let⟨ds,e2,Y⟩:=aU.getL (aU.bnd p1) g;let⟨a',ws,u,hv,r⟩:=g.seq e2;rw[h]at u;cases u;refine⟨a,ws,rfl,io.of hv,Y.ret g _ λρ2 H2 J I o sm=>?_⟩;let⟨a2,B,O,l,q⟩:=o.seq sm;let⟨τ,eτ,_⟩:=I.pre;rw[eτ,xl h]at O;cases O;let hl:=q.length;let E:=r.length;let L:io X.K H2 a B:=io.of l;refine⟨by show ws.length<=ds.reverse.length;rw[g_];ext,λi d C=>?_⟩;let hi:i < ds.length:=by have:=(ae.mp C).1;rw[g_]at this;exact this
   let U:ds.reverse[i]?=some d:=C;rw[oR hi]at U;let⟨v,c,G⟩:=q.get U;rw[E.symm.trans rfl]at c;refine⟨⟨B,v,L,by ext,by rw[show ws.length-1-i=ds.length-1-i by ext];first|exact c|(rw[E]at c;exact c),by ext⟩,λy H3 H=>?_⟩;let⟨rfl,z⟩:=H;let Q:=z B L;rw[show ws.length-1-i=ds.length-1-i by ext]at Q;let ev:y=v:=by
    first
    | (rw[c]at Q;exact (aF Q).symm)| (rw[E]at c;rw[c]at Q;exact (aF Q).symm)
   subst ev;exact⟨Ex.refl,o,G⟩
  |_=>exact p1.elim
 ·subst ex;cases r1;let⟨its,G,h,hz⟩:=I1.list hx;let c:=G.length;refine DU h.isList ?_;refine qO (s:={ g with heap:=_ }) ⟨_,aC _ rfl,rfl,rfl⟩ ?_;refine⟨g.heap.objs.size,[g.heap.objs.size],_,_,Y,rfl,I1.kept (t':=g.toks) λb o e=>am _ e,UV a _ xs.length,⟨bH _,⟨_,aC _ rfl,rfl,by show (Ig _)=_;rw[show ((its.toArray.size:Int)-1)=(xs.length:Int)-1-((0:Nat):Int) by rw[aL];ext]⟩⟩,λb l=>?_,q1⟩;let e:b=g.heap.objs.size:=by simpa using l
  subst e;exact I1.fpOk (ay _) (I1.hok.fresh (ay _))
end
def FX:xh:=IU DA "reversed" kU zp λ_ g m a s=>Su g m (by nofun) a s
end MM
namespace MM
open PySem PySem.Spec PyProof.Rows L2
section
variable{X:Cx}
noncomputable def vB(k:Bool):ah->Bool
 | .bool b=>b == k|_=>false
def Bb:V->List V->Hp->VK->Prop:=λx ys H Q=>∃(l:ak)(bs:List Bool)(k:Bool),x=.ref l/\ys=[.bl k]/\H l=some (.lst (bs.map V.bl))/\bs.contains k=true/\bs.length<=fK/\Q (.int (bs.findIdx (· == k):Nat)) H
def Xj(hu:X.A.units+60 < cN):Ef X "list.index" Bb:=by
 intro ac s σ H x vs v us Q I rx rv h;let⟨l,bs,k,rfl,rfl,hv,C,hlim,q⟩:=h;cases rx;let⟨u,rfl,ru⟩:=rv.one;obtain rfl:u=dE k:=ru;let⟨its,B,pl,hz⟩:=I.list (io.of hv);let hl:its.length=bs.length:=by rw[<- B.length,ag]
 let c:∀(j:Nat)(w:ah),its[j]?=some w->∃b,bs[j]?=some b/\w=.bool b:=λj w E=>by
  let g:j < (bs.map V.bl).length:=by rw[ag,<- hl];exact (ae.mp E).1
  let⟨w',J,G⟩:=B.get (af g);rw[E]at J;cases J;rw[lJ]at G;rw[ag]at g;exact⟨bs[j],af g,G⟩
 let g:(bs.findIdx (· == k)) < bs.length:=List.findIdx_lt_length.mpr (by
  let⟨b,hb,e⟩:=e8.mp (show bs.any (· == k)=true by rw[e8];exact⟨k,List.contains_iff_mem.mp C,by simp⟩)
  exact⟨b,hb,e⟩)
 let U:fK < 2^60:=by decide
 let⟨⟨cls,dd,data,sl⟩,ho,hc,n,hd⟩:=id pl.isList;simp only at hc hd;subst hc hd;refine wg t_ ⟨_,ho,rfl⟩ PySem.F.entry_list_index (PySem.F.args_list_index_2 _ _)
  (SeqAt.list_indexAt l its.toArray n dd sl (.bool k) (vB k) (bs.findIdx (· == k)) (by simp only[aL];ext) () ?_ ?_) ⟨ho,λw E=>?_,⟨.int _,H,I.tok _,⟨_,rfl⟩,q⟩⟩
 ·let J:(bs.findIdx (· == k)) < its.length:=by ext
  let⟨b,o,L⟩:=c _ _ (af J);simp only[lS];rw[L];rw[af g]at o;cases o;exact List.findIdx_getElem (w:=g)
 ·intro m g O;simp only[aL]at g;let⟨b,o,L⟩:=c _ _ (af g);simp only[lS];rw[L];let G:m < bs.length:=by ext
  rw[af G]at o;cases o;have:=List.not_of_lt_findIdx O;simpa [vB] using this
 ·let⟨j,Y⟩:=aN.mp (show w∈its by simpa using E);let⟨b,_,rfl⟩:=c _ _ Y;exact (Jp (X:=X) (ρ:=[]) (v:=.bl b) (w:=.bl k) (d:=.bl b) (e:=.bl k) I 0 (by show X.A.units+1+0 < cN;ext) rfl (.bl b) (.bl k) rfl rfl).2.2
def QkD{q c:Pos}(hu:X.A.units+60 < cN)(ho:SE X o fa)(G:SE X e fb)(B:dS o "index" X.env (eval o X.env)=eval o X.env)(E:((backTo c (starEach [e] X.env)).all (λx => !x.1)&&(o9 c (lA [] X.env)).all (λx=>x.1.isSome)&& decide ([e].length+([]:List iD).length+(if ([]:List iD).isEmpty then 0 else 1) < 30))=true)
  (u:(q.endLine == c.line)=true) (hs:starEach [e] X.env=(false,eval e X.env)::starEach [] X.env) (g:(backTo c (starEach [] X.env)).any (·.1)=false):
  SE X (.Call (.Attribute o "index" q) [e] [] c) (oP fa fb):=
 (Pp nv t_ PySem.F.type_list_index (Xj hu) ho (sA G vI hs) B E u hs g).of λσ H Q h_=>h_.el λρ l st lr sr p=>⟨ρ,l,st,lr,sr,p.bnd.imp λd J ρ1 H1 x1 s1 p1 v rv=>by
  cases d with
  |ref n=>
   let⟨a,rfl,kk,h⟩:=rv.inv;let⟨I,hv0⟩:=QG kk;refine⟨.inl ⟨rfl,I,io.of hv0⟩,ρ1,l,J,lr.mono x1,s1,(aU.bnd p1).imp λy st2 ρ2 H2 x2 L p2 w O=>?_⟩;let h2:ρ2[n]?=some a:=by let⟨τ,e,_⟩:=x2.pre;rw[e];exact xl h
   let⟨ds,e2,C⟩:=aU.getL (aU.bnd p2) L;let⟨a',vs,G,hv,r⟩:=L.seq e2;rw[h2]at G;cases G;cases O with
   |bl k=>
    cases eb:i7 ds with|none=>rw[eb]at C;exact C.elim|some bs=>
     rw[eb]at C;let⟨⟨Y,U⟩,p4⟩:=aU.chk C;have:=Je eb r;subst this;exact⟨a,bs,k,rfl,rfl,hv,Y,U,p4.ret L _ (.int _)⟩
   |_=>exact C.elim
  |_=>exact p1.elim⟩
end
end MM
namespace MM
def AU:ma:=BN "index" oP (λc p=>c.tag p 20) λu o a b f l s p=>QkD u o a b f l s p
open PySem PySem.Spec PyProof.Rows L2
def ZU(c:List (D×D))(k v:D):(nJ c k v).length<=c.length+1:=by
 unfold nJ;split
 ·rw[ag];exact Jz _
 ·rw[aB];exact ay _
section
theorem RJ:∀{ds:List D}{ps:List (D×D)},sZ ds=some ps->ps.length=ds.length
 |[],_,h=>by cases h;rfl|d::ds,ps,h=>by unfold sZ at h;rw[uH]at h;let⟨p,_,h⟩:=h;rw[cG]at h;let⟨g,c,rfl⟩:=h;simp[RJ c]
end
section
variable{A:bM}{R:Result->aq->Prop}{n:Nat}{P:Nat->ah->Prop}{St:Nat->bN->Prop}
def W6(W:Walks prog w A.in1 I fp wr n P St)(bt:Nat->Nat->Bool)(hcmp:Dr prog w A.in1 .Gt P Kp bt)(S:ak)(hSf:S∉fp)(kp:∀h h':bN,Kp h->(∀b o,b∉wr->b≠S->h.get? b=some o->h'.get? b=some o)->Kp h'):∀(k j:Nat)(s:aq)(G:ah)(c:Nat),n-(j+1)=k->j+1<=n->St (j+1) s.heap->P (ot bt j) G->Kp s.heap ->s.heap.get? S=some { cls:=.type "list",dict:=none,data:=.seq #[G,G] c,slots:=#[] } ->(∀v h' tk,P (ot bt (n-1)) v->(∀b o,b∉wr->b≠S->s.heap.get? b=some o->h'.get? b=some o)->R (.ok (.ret v)) { s with heap:=h',toks:=tk }) ->ky (aY prog w) A (.builtin "max.loop" ⟨[.ref I,.none,.ref S],kw⟩) R s:=by
 let hSw:S∉wr:=λh=>hSf (W.sub _ h);let B:(toString "max"++toString ".loop":String)="max.loop":=by decide
 intro k
 induction k with
 |zero=>
  intro j s G c hk hj L H hK hS hR;let hin:j+1=n:=by ext
  refine fV kM ?_;rw[dX dC _]
  show aH _ A.in1 (kB (.ref S) >>= _) _ _ s;refine ab (dh hS rfl ?_)
  show aH _ A.in1 (tryCatch (ip (.ref I)) _ >>= _) _ _ s;refine ab (lP (W.done s _ _ (hin ▸ L) λh' tk l=>?_));let E:=l S _ hSw hS
  show aH _ A.in1 (updateSeq S (λ_=>#[]) >>= _) _ _ _;refine ab ?_;refine vG E rfl (ab (ke (aj ?_)));refine hR G _ tk (by rw[<- hin];exact H) λb o q g e=>(dG _ _ (fI g)).trans (l b o q e)
 |succ k ih=>
  intro j s G c hk hj L H hK hS hR;let O:j+1 < n:=by ext
  refine fV kM ?_;rw[dX dC _]
  show aH _ A.in1 (kB (.ref S) >>= _) _ _ s;refine ab (dh hS rfl ?_)
  show aH _ A.in1 (tryCatch (ip (.ref I)) _ >>= _) _ _ s;refine ab (lP (W.item (j+1) s _ _ O L λv h' tk hP J l=>?_));let E:=l S _ hSw hS;let U:Kp h':=kp _ _ hK λb o hb _ e=>l b o hb e
  show aH _ A.in1 (tryCatch (lK [v,v] (richCompare .Gt v G >>= _)) _ >>= _) _ _ _;refine ab (lP (cw (ab (hcmp (j+1) (ot bt j) v G _ _ _ U hP H ?_))));refine ab (cw (fR ?_));refine ab (ke (aj ?_));cases hb:bt (j+1) (ot bt j) with
  |true=>
   simp only[if_true];refine ab ?_;refine vG E rfl (ab (ke ?_));rw[B];refine aj ⟨f_ dC _,ih (j+1) _ v _ () O (W.frame _ _ _ J λb hbf o e=>?_) (by simp only[ot,hb,if_true];exact hP) (kp _ _ U λb o _ g e=>(dG _ _ (fI g)).trans e) (cY _ E rfl)
    λv' Y u Q C=>?_⟩
   ·exact (dG _ _ (λh:S=b=>hSf (by rw[h];exact hbf))).trans e
   ·exact hR v' Y u Q λb o q g e=>C b o q g ((dG _ _ (fI g)).trans (l b o q e))
  |false=>
   simp only[aR,if_false];refine ab (ke ?_);rw[B];refine aj ⟨f_ dC _,ih (j+1) _ G c () O J (by simp only[ot,hb,aR,if_false];exact H) U E λv' Y u Q C=>?_⟩;exact hR v' Y u Q λb o q g e=>C b o q g (l b o q e)
def UX(W:Walks prog w A.in1 I fp wr n P St)(bt:Nat->Nat->Bool)(G:Dr prog w A.in1 .Gt P Kp bt)(S:ak)(u:S∉fp)(L:∀h h':bN,Kp h->(∀b o,b∉wr->b≠S->h.get? b=some o->h'.get? b=some o)->Kp h') (hn:0 < n) {s:aq}{c:Nat} (O:St 0 s.heap) (hK:Kp s.heap)(hS:s.heap.get? S=some { cls:=.type "list",dict:=none,data:=.seq #[] c,slots:=#[] })(hR:∀v h' tk,P (ot bt (n-1)) v->(∀b o,b∉wr->b≠S->s.heap.get? b=some o->h'.get? b=some o)->R (.ok (.ret v)) { s with heap:=h',toks:=tk }):ky (aY prog w) A (.builtin "max.loop" ⟨[.ref I,.none,.ref S],kw⟩) R s:=by
 let U:S∉wr:=λh=>u (W.sub _ h);let l:(toString "max"++toString ".loop":String)="max.loop":=by decide
 refine fV kM ?_;rw[dX dC _]
 show aH _ A.in1 (kB (.ref S) >>= _) _ _ s;refine ab (dh hS rfl ?_)
 show aH _ A.in1 (tryCatch (ip (.ref I)) _ >>= _) _ _ s;refine ab (lP (W.item 0 s _ _ hn O λv h' tk hP C q=>?_));let J:=q S _ U hS;let hK':Kp h':=L _ _ hK λb o hb _ e=>q b o hb e
 show aH _ A.in1 (updateSeq S (λ_=>#[v,v]) >>= _) _ _ _;refine ab ?_;refine vG J rfl ?_;rw[l];refine aj ⟨f_ dC _,W6 W bt G S u L _ 0 _ v _ rfl hn (W.frame _ _ _ C λb Q o e=>?_) hP (L _ _ hK' λb o _ g e=>(dG _ _ (fI g)).trans e) (cY _ J rfl) λv' h'' B Y E=>?_⟩
 ·exact (dG _ _ (λh:S=b=>u (by rw[h];exact Q))).trans e
 ·exact hR v' h'' B Y λb o H g e=>E b o H g ((dG _ _ (fI g)).trans (q b o H e))
end
section
variable{A:bM}{s:aq}
def Pn(a v:ah):argsOk "max" ⟨[a],[(aD "default",v)]⟩:=by unfold argsOk;kernel_rfl
def UY{dv:Option ah}{Q:ah->aq->Prop}(hh:A.handled=none)(G:s.heap.IsList l items)(O:0 < items.size)(L:Nat->Nat->Bool)(u:Dr prog w A.in1 .Gt (λi v=>items[i]?=some v) (λh=>∀b o,s.heap.get? b=some o->h.get? b=some o) L)(U:∀v h' C,items[ot L (items.size-1)]?=some v->(∀b o,s.heap.get? b=some o->h'.get? b=some o)->Q v { s with heap:=h',toks:=C }):aH (aY prog w) A (call (.builtin "max") [.ref l] (dv.toList.map λd=>(aD "default",d))) Q E s:=by
 let c:(toString "max"++toString ".loop":String)="max.loop":=by decide
 let q:l < s.heap.objs.size:=by let⟨_,e,_⟩:=G;exact aK e
 refine sM xU wY wZ (by cases dv with|none=>exact PySem.F.args_max1 _|some d=>exact Pn _ _) ?_;let I:gW "max" ["key","default"] 0 ⟨[],dv.toList.map λd=>(aD "default",d)⟩=pure [none,dv]:=by cases dv<;>rfl
 show aH _ A.in1 (gW "max" ["key","default"] 0 ⟨[],dv.toList.map λd=>(aD "default",d)⟩ >>= _) _ _ s;refine ab (ox I ?_);refine ab (aj ?_);refine ab (g8 G ?_);refine ab (b9 ?_);let B:s.heap.objs.size < (s.heap.push { cls:=.type "list_iterator",data:=.fields #[.ref l,.int 0 0] }).objs.size:=by rw[cB];exact iW _
 let J:(s.heap.push { cls:=.type "list_iterator",data:=.fields #[.ref l,.int 0 0] }).objs.size∉[s.heap.objs.size,l]:=λg=>by
  rcases aX.mp g with e|g
  ·exact dm B e
  ·rw[aI.mp g]at B;exact bo (oI q B) (cT _)
 rw[c];refine aj ⟨f_ dC _,UX (Kp:=λh=>∀b o,s.heap.get? b=some o->h.get? b=some o) (tG (A:=A.in1) hh s.heap.objs.size l (bj q) items) L u _ J (λh h' hK H b o e=>H b o (λg=>?_) (λz=>?_) (hK b o e)) O ?_ ?_ (aC _ rfl) λv h' C Y H=>?_⟩
 ·exact bo (aK e) (by rw[aI.mp g];exact cT _)
 ·subst z;exact bo (oI (aK e) B) (cT _)
 ·exact⟨⟨_,am _ (aC _ rfl),rfl,rfl⟩,(G.push _).push _⟩
 ·exact λb o e=>am _ (am _ e)
 ·refine U v h' C Y λb o e=>H b o (λg=>?_) (λz=>?_) (am _ (am _ e))
  ·exact bo (aK e) (by rw[aI.mp g];exact cT _)
  ·subst z;exact bo (oI (aK e) B) (cT _)
def UG{Q:ah->aq->Prop}(hh:A.handled=none)(q:s.heap.IsList l items)(B:items.size=0)(G:∀(h':bN)(g:Nat),(∀b o,s.heap.get? b=some o->h'.get? b=some o)->Q dv { s with heap:=h',toks:=g }):aH (aY prog w) A (call (.builtin "max") [.ref l] [(aD "default",dv)]) Q E s:=by
 let c:(toString "max"++toString ".loop":String)="max.loop":=by decide
 let h:l < s.heap.objs.size:=by let⟨_,e,_⟩:=q;exact aK e
 refine sM xU wY wZ (Pn _ _) ?_;let v:gW "max" ["key","default"] 0 ⟨[],[(aD "default",dv)]⟩=pure [none,some dv]:=rfl
 show aH _ A.in1 (gW "max" ["key","default"] 0 ⟨[],[(aD "default",dv)]⟩ >>= _) _ _ s;refine ab (ox v ?_);refine ab (aj ?_);refine ab (g8 q ?_);refine ab (b9 ?_);let H:s.heap.objs.size < (s.heap.push { cls:=.type "list_iterator",data:=.fields #[.ref l,.int 0 0] }).objs.size:=by rw[cB];exact iW _
 rw[c];let W:=tG (prog:=prog) (w:=w) (A:=A.in1) hh s.heap.objs.size l (bj h) items;refine aj ⟨f_ dC _,fV kM ?_⟩;rw[dX dC _]
 show aH _ A.in1 (kB (.ref (s.heap.push { cls:=.type "list_iterator",data:=.fields #[.ref l,.int 0 0] }).objs.size) >>= _) _ _ _;refine ab (dh (aC _ rfl) rfl ?_)
 show aH _ A.in1 (tryCatch (ip (.ref s.heap.objs.size)) _ >>= _) _ _ _;refine ab (lP (W.done _ _ _ ?_ λh' g u=>?_))
 ·rw[B];exact⟨⟨_,am _ (aC _ rfl),rfl,rfl⟩,(q.push _).push _⟩
 ·show aH _ A.in1 (PySem.rule _ >>= _) _ _ _;refine ab (iE (aj ?_));refine G h' g λb o e=>u b o (λC=>?_) (am _ (am _ e));exact bo (aK e) (by rw[aI.mp C];exact cT _)
end
section
variable{X:Cx}
def Yo(hc:X.calm=true)(I:Inv X ac σ H s){n:Int}{Q:VK}(h:io X.K H l ((n::c).map V.int))(q:Q (.int (c.foldl max n)) H):aH (aY X.prog X.w) X.A (call (.builtin "max") [.ref l] [(aD "default",dv)]) (EP X ac σ Q) X.xe s:=by
 let⟨its,rv,pl,hz⟩:=I.list h;let⟨ys,e,g⟩:=IX (HV rv);let C:=pl.isList;rw[e]at C;let hsz:ys.size=c.length+1:=by have:=cQ dZ g;simpa using this.symm
 refine UY (dv:=some dv) (I.ok.hd hc) C (by simp[wj];ext) (λi j=>decide (oq ys i > oq ys j)) (λi j U O s' Q E _ h1 h2 h=>CmpOf.ints_gt (P:=λi v=>(wj ys)[i]?=some v) (oq ys) (λ_ _=>Bk) i j U O s' Q E h1 h2 h) λv h' Y B hk=>?_;let e2:(wj ys).size=ys.size:=by simp[wj]
 rw[e2]at B;let⟨t,rfl⟩:=Bk B;let⟨b1,L⟩:=argBest_gt (oq ys) (ys.size-1);let⟨J,f2⟩:=M5 c n;generalize ot (λi j=>decide (oq ys i > oq ys j)) (ys.size-1)=k at b1 L ⊢;let o:oq ys k∈n::c:=by rw[g,Bl];exact getD_mem (by rw[<- g];simp;ext)
 let u:c.foldl max n<=oq ys k:=by rw[g]at J;let⟨j,G,ej⟩:=mem_getD J;rw[<- ej,<- Bl];exact L j (by rw[<- g]at G;simp at G;ext)
 have:oq ys k=c.foldl max n:=BU (f2 _ o) u;rw[this];exact⟨.int (c.foldl max n),H,I.kept (t':=Y) hk,⟨t,rfl⟩,q⟩
end
section
variable{X:Cx}
def WE(hc:X.calm=true)(hg:Gl X "max")(hm:X.mg "max"=none)(hv:dg "max"=some (.builtin "max"))(ha:SL X e ca)(hd:SE X d fd)(he:starEach [e] X.env=[(false,eval e X.env)]:=by rfl):SE X (.Call (.Name "max" p) [e] [⟨some "default",d,kp⟩] pos) (tQ ca fd):=by
 intro E s σ H Q I h;let⟨ρ,l,st,lr,sr,q⟩:=h;let O:backTo pos (starEach [e] X.env)=(false,eval e X.env)::backTo pos (starEach [] X.env):=by rw[he];rfl
 refine dM (yy I hg hm hv ?_ (by decide) (by decide));refine PyProof.Rows.callWith_kw (e:=e) (rest:=[]) (kws:=[⟨some "default",d,kp⟩]) ?_ O (by rw[O];rfl) rfl rfl;rw[O]
 show aH _ _ (tq [(false,eval e X.env)]) _ _ s;unfold tQ at q;refine im (gA (ha E s σ H (λx J=>∃a B ρ1 c ds,x=.ref a/\J a=some (.lst B)/\a∉ρ1/\SR X.K ρ1 J c/\bV X.K ρ1 J B ds/\LR X.K ρ1 J σ l/\aU X.K ρ1 J (bnd (fd l) (λd=>if ds.length=0 then ret d else oD ds) c) λd x ρ' H'=>∀(v:V),dD X.K ρ' H' v d->Q v H') I
  ⟨ρ,l,st,lr,sr,q.bnd.imp λds c ρ1 J x1 s1 q1 a B na0 na hl L=>⟨a,B,ρ1,c,ds,rfl,hl,na,s1,L,lr.mono x1,q1⟩⟩) λu s1 ⟨x,J,I1,r1,a,B,ρ1,c,ds,ex,hl,na,sr1,L,lr1,q1⟩=>iz ?_)
 subst ex;cases r1;refine PyProof.Rows.kws_cons (gA (hd E s1 σ J (λy G=>∃ρ2 g dd,SR X.K ρ2 G g/\G a=some (.lst B)/\bV X.K ρ2 G B ds/\dD X.K ρ2 G y dd/\aU X.K ρ2 G ((if ds.length=0 then ret dd else oD ds) g) λd x ρ' H'=>∀(v:V),dD X.K ρ' H' v d->Q v H') I1
  ⟨ρ1,l,c,lr1,sr1,q1.bnd.imp λdd g ρ2 G x2 s2 o v rv=>⟨ρ2,g,dd,s2,x2.lst a B na hl,L.mono x2,rv,o⟩⟩) λw s2 ⟨y,G,I2,r2,ρ2,g,dd,U,Y,C,ry,o⟩=>PyProof.Rows.kws_nil ?_)
 show aH _ _ (call (.builtin "max") [.ref a] [(aD "default",w)]) _ _ s2;by_cases h0:ds.length=0
 ·rw[aJ h0]at o;let⟨its,rv,g,hz⟩:=I2.list (io.of Y);let q:=rv.length;let l:=C.length;exact UG (I2.ok.hd hc) g.isList (by rw[aL];ext) λh' c h=>⟨y,G,I2.kept (t':=c) h,r2,o.ret U y ry⟩
 ·rw[az h0]at o;unfold oD at o;cases e:lQ ds with|none=>rw[e]at o;exact o.elim|some ps=>
   rw[e]at o;have:=Fz e C;subst this;cases ps with|nil=>exact o.elim|cons n ns=>exact Yo hc I2 (io.of Y) (o.ret U _ (.int _))
end
def H_:ma:=λq c e=>L8 e λf G ks _ h=>BG f λy _ E=>v1 G λa C=>v1 ks λk B=>wh (y=aD "max"/\k.arg=some (aD "default")/\c.bl y=true/\rN a=true) λz=>(q.l c a).bind λu=>(q.e c k.value).bind λo=>some ⟨tQ u.1 o.1,λg=>by let⟨I,d,H⟩:=k;subst h E C B;let⟨rfl,rfl,l,v⟩:=z;exact WE g.S.calm (g.gl l).1 (g.gl l).2 (by nofun) (u.2 g) (o.2 g) (rJ v)⟩
abbrev yD(h:bN)(z TI TO:ak)(g c:ah):Prop:=h.get? z=some { cls:=.type "zip",dict:=none,data:=.fields #[g,c,.bool false,.ref TI,.ref TO],slots:=#[] }
section
variable{A:bM}{E:ah->aq->Prop}{s:aq}
def ZC{Q:Option Obj->aq->Prop}(h:s.heap.get? a=some o)(g:Q (some o) s):aH (aY prog w) A (loadIfAlive a) Q E s:=by show aH (aY prog w) A (.loadIfAlive a .pure) Q E s;intro p q c;rw[Sem.wp_loadIfAlive,h];exact aj (M:=aY prog w) (A:=A) (E:=E) g p q c
def VY:entryFor table "zip.__getattribute__"=some Builtin.«object.__getattribute__»:=
 entryFor_alias (id':="object.__getattribute__") (by kernel_rfl) (by nofun) (by nofun) (by kernel_rfl)
def ZI(z TI TO : ak)(name : Str)(u : Tok)(l : nN (.type "zip") name = pure none)(c : (["__module__", "__name__", "__qualname__", "__doc__", "__annotations__"] : List Str).contains name = false)(hsz : name.length+100 <= sizeLine := by size_fits):
  Meets (Builtin.«object.__getattribute__» ⟨[.ref z,.str name u],[]⟩) (λA R s=>mH s.heap z TI TO .none/\raisesAttr (.ref z) name A R s):=
 Meets.of_wp λprog w A R s h=>by
  let⟨v,g,d,o,os⟩:=s;let⟨q,h⟩:=h;let B:(⟨v,g,d,o,os⟩:aq).TypeIs (.ref z) "zip":=⟨_,q,rfl⟩
  unfold Builtin.«object.__getattribute__»
  repeat (any_goals (first|assumption|wp_step))
  simp only[c,aR,if_false]
  repeat (any_goals (first|assumption|wp_step))
  exact wpAny_raiseAttrError h.1 h.2 (attrMsg_fits (by nofun) hsz)
def YE{Q:ah×List ah->aq->Prop}(h:Q (.builtin "zip.__getattribute__",[.ref l]) s):aH (aY prog w) A (uU (.builtin "zip.__getattribute__") (.ref l)) Q E s:=by
 unfold uU;let c:DN (.builtin "zip.__getattribute__")=pure (.type "wrapper_descriptor"):=by rfl
 rw[c];refine ab (aj ?_);exact aj h
def ZY{z TI TO:ak}{Q:Option ah->aq->Prop}(hh:A.handled=none)(g:mH s.heap z TI TO .none)(h:∀h' c,(∀b u,s.heap.get? b=some u->h'.get? b=some u)->Q none { s with heap:=h',toks:=c }):aH (aY prog w) A (getAttr? (.ref z) (aD "keys")) Q E s:=by
 let C:s.TypeIs (.ref z) "zip":=⟨_,g,rfl⟩
 let J:nN (.type "zip") (aD "__getattribute__")=pure (some (BQ "zip.__getattribute__")):=by rw[m5,iQ];kernel_rfl
 let q:nN (.type "zip") (aD "__getattr__")=pure none:=by rw[m5,iQ];kernel_rfl
 let o:nN (.type "zip") (aD "keys")=pure none:=by rw[m5,iQ];kernel_rfl
 unfold getAttr?
 wp_walk using nu C
 refine YE ?_;refine wg F.slot_zip_getattribute ⟨_,g,rfl⟩ VY (F.args_zip_getattribute_2 _ _) (ZI z TI TO (aD "keys") _ o rfl) ⟨g,?_⟩;refine⟨hh,λh' c e l=>?_⟩;let⟨I,H,v⟩:=l.there;let G:pJ { s with heap:=h',toks:=c } (.ref e) "AttributeError":=⟨_,v,rfl⟩
 let B:isSubtype (.type "AttributeError") (.type "AttributeError")=pure true:=by rw[isSubtype_type];kernel_rfl
 show aH (aY prog w) A (DW (.ref z) (.str (aD "keys") s.toks) (.type "zip") (.ref e) none false false) _ _ { s with heap:=h',toks:=c };unfold DW;refine ab (eL G B ?_);rw[aJ rfl];unfold hookBehind;rw[az (by decide),q];refine ab (aj ?_);unfold hookOrError attributeErrorLeaves
 wp_walk
 exact h h' c λb u z=>l.keeps b u z
def MA(h:bN)(z TI TO:ak):Prop:=mH h z TI TO .none\/∃(T:ak)(o:Obj)(c:Bool),yD h z TI TO (dU T) (.bool c)/\h.get? T=some o
def Pj{z TI TO T:ak}{Q:Bool->aq->Prop}(hz:yD s.heap z TI TO (dU T) (.bool h))(q:s.heap.get? T=some o)(l:∀h',yD h' z TI TO (dU T) (.bool true)->cX z s.heap h'->Q false { s with heap:=h' }):aH (aY prog w) A (ck (.ref z)) Q E s:=by
 unfold ck;refine ab (cH hz rfl (x:=dU T) rfl ?_);refine ab (ZC (a:=(T:Int).toNat) (by rw[bA];exact q) ?_);simp only[w8,aR,if_false];refine ab (cH hz rfl (x:=.bool h) rfl ?_);cases h with
 |true=>
  rw[az (by decide)];exact aj (l _ hz ⟨rfl,λ_ _=>rfl⟩)
 |false=>
  rw[aJ (by decide)];exact ab (dk hz (by simp) λh' c g=>aj (l h' c g))
def Y3{z TI TO h g q l T:ak}{B u:Nat}{Q:ah->aq->Prop}(D:nU z TI TO h g q l)(hz:yD s.heap z TI TO (dU T) (.bool f1)) (O:s.heap.get? T=some o) (H:fG s.heap TI (.ref h) (.ref g))(h1:s.heap.IsListIter h q B) (Y:s.heap.IsListIter g l u) (G:s.heap.IsList q xs) (C:s.heap.IsList l ys) (L:xs[B]?=some x) (J:ys[u]?=some y)(U:∀h',yD h' z TI TO (dU T) (.bool true)->h'.IsListIter h q (B+1)->h'.IsListIter g l (u+1)->fG h' s.heap.objs.size x y->h'.objs.size=s.heap.objs.size+1 ->(∀c o,c≠z->c≠h->c≠g->s.heap.get? c=some o->h'.get? c=some o)->Q (.ref s.heap.objs.size) { s with heap:=h' }):aH (aY prog w) A (Builtin.«zip.__next__» ⟨[.ref z],[]⟩) (λfin I=>∃v,fin=.done (.ret v)/\Q v I) E s:=by
 show aH _ _ (qL (.ref z) 2 >>= _) _ _ _;refine ab (cH hz rfl (x:=.bool false) rfl ?_)
 show aH _ _ (qL (.ref z) 3 >>= _) _ _ _;refine ab (cH hz rfl (x:=.ref TI) rfl ?_);refine ab (dh H rfl ?_)
 show aH _ _ (ck (.ref z) >>= _) _ _ _;refine ab (Pj hz O λh₁ hz₁ hs₁=>?_);simp only[aR,if_false];refine ab ?_;rw[<- kz];simp only[kA,mQ];refine ab (ab (cw ?_))
 show aH _ _ (bI (.ref h) >>= _) _ _ _;refine ab (lO (h1.extBut hs₁.extBut D.i1z) (G.extBut hs₁.extBut D.l1z) L λh₂ h1₂ hs₂=>aj (aj ?_));refine ab (ab (cw ?_))
 show aH _ _ (bI (.ref g) >>= _) _ _ _;refine ab (lO ((Y.extBut hs₁.extBut D.i2z).extBut hs₂.extBut D.i12.symm) ((C.extBut hs₁.extBut D.l2z).extBut hs₂.extBut D.l2i1) J λh₄ h2₄ hs₄=>aj (aj (aj ?_)));let hsz:h₄.objs.size=s.heap.objs.size:=by rw[hs₄.1,hs₂.1,hs₁.1]
 refine ab (wo (hsz:=by show 2<=sizeLine;decide) (aj ⟨_,rfl,?_⟩))
 show Q (.ref h₄.objs.size) { s with heap:=h₄.push { cls:=.type "tuple",data:=.seq #[x,y] } };let up:∀c o,h₄.get? c=some o->(h₄.push { cls:=.type "tuple",data:=.seq #[x,y] }).get? c=some o:=λc o e=>am _ e;rw[hsz];refine U _ (up _ _ (hs₄.extBut _ _ D.i2z.symm (hs₂.extBut _ _ D.i1z.symm hz₁))) ((h1₂.extBut hs₄.extBut D.i12).at λo e=>up _ o e) (h2₄.at λo e=>up _ o e) ?_ (by rw[cB,hsz]) λc o c1 c2 c3 e=>up _ _ (hs₄.extBut _ _ c3 (hs₂.extBut _ _ c2 (hs₁.extBut _ _ c1 e)));rw[<- hsz];exact aC _ rfl
def QkT{z TI TO l g B v T:ak}{G C:Nat}(hh:A.handled=none)(D:nU z TI TO l g B v)(hz:yD s.heap z TI TO (dU T) (.bool f1)) (hT:s.heap.get? T=some o) (L:fG s.heap TI (.ref l) (.ref g))(Y:s.heap.IsListIter l B G) (h2:s.heap.IsListIter g v C) (q:s.heap.IsList B xs) (I:s.heap.IsList v ys) (u:xs[G]?=none\/ys[C]?=none)(U:∀h' e,(∀c o,c≠z->c≠TO->c≠l->c≠g->s.heap.get? c=some o->h'.get? c=some o)->(∃o,h'.get? e=some o/\o.cls=.type "StopIteration")->E (.ref e) { s with heap:=h' }):aH (aY prog w) A (Builtin.«zip.__next__» ⟨[.ref z],[]⟩) Q E s:=by
 show aH _ _ (qL (.ref z) 2 >>= _) _ _ _;refine ab (cH hz rfl (x:=.bool false) rfl ?_)
 show aH _ _ (qL (.ref z) 3 >>= _) _ _ _;refine ab (cH hz rfl (x:=.ref TI) rfl ?_);refine ab (dh L rfl ?_)
 show aH _ _ (ck (.ref z) >>= _) _ _ _;refine ab (Pj hz hT λh₁ hz₁ hs₁=>?_);simp only[aR,if_false];refine ab ?_;rw[<- kz];simp only[kA,mQ];refine ab (ab (cw ?_))
 show aH _ _ (bI (.ref l) >>= _) _ _ _;cases H:xs[G]? with
 |none=>
  exact ab (qj hh (Y.extBut hs₁.extBut D.i1z) (q.extBut hs₁.extBut D.l1z) H λh₂ e hs₂ J=>U h₂ e (λc o c1 _ O _ x=>hs₂ _ _ O (hs₁.extBut _ _ c1 x)) J)
 |some x=>
  let hy:ys[C]?=none:=by rcases u with h|h;rw[H]at h;cases h;exact h
  refine ab (lO (Y.extBut hs₁.extBut D.i1z) (q.extBut hs₁.extBut D.l1z) H λh₂ h1₂ hs₂=>aj (aj ?_));refine ab (ab (cw ?_))
  show aH _ _ (bI (.ref g) >>= _) _ _ _;exact ab (qj hh ((h2.extBut hs₁.extBut D.i2z).extBut hs₂.extBut D.i12.symm) ((I.extBut hs₁.extBut D.l2z).extBut hs₂.extBut D.l2i1) hy λh₄ e hs₄ J=>U h₄ e (λc o c1 c2 O c4 x=>hs₄ _ _ c4 (hs₂.extBut _ _ O (hs₁.extBut _ _ c1 x))) J)
def U5{z TI TO h g G C:ak}{J I:Nat}{Q:Option ah->aq->Prop}(D:nU z TI TO h g G C)(hz:MA s.heap z TI TO) (B:fG s.heap TI (.ref h) (.ref g)) (v:fG s.heap TO a b)(h1:s.heap.IsListIter h G J) (h2:s.heap.IsListIter g C I) (q:s.heap.IsList G xs) (l:s.heap.IsList C ys) (hx:xs[J]?=some x) (hy:ys[I]?=some y)(hQ:∀(h':bN)(T:ak)(L:Bool),yD h' z TI TO (dU T) (.bool L)->(T=s.heap.objs.size\/(yD s.heap z TI TO (dU T) (.bool true)\/yD s.heap z TI TO (dU T) (.bool false)))->(∃a b,fG h' TO a b)->h'.IsListIter h G (J+1)->h'.IsListIter g C (I+1)->fG h' s.heap.objs.size x y->h'.objs.size=s.heap.objs.size+1 ->(∀c o,c≠z->c≠TO->c≠h->c≠g->s.heap.get? c=some o->h'.get? c=some o)->Q (some (.ref s.heap.objs.size)) { s with heap:=h' }):aH (aY prog w) A (ip (.ref z)) Q E s:=by
 rcases hz with hz|⟨T,o,L,hz,hT⟩
 ·exact wpAny_pyNext_zip_item D hz B v h1 h2 q l hx hy λh' a1 c a3 Y U O H=>hQ h' _ _ a1 (.inl rfl) ⟨_,_,c⟩ a3 Y U O H
 ·let u:s.TypeIs (.ref z) "zip":=⟨_,hz,rfl⟩
  unfold ip;exact ab (il (bX (name:=aD "__next__") u gN
   (cA gN u oK
    (Y3 D hz hT B h1 h2 q l hx hy λh' a1 a3 Y U O H=>aj (hQ h' T true a1 (.inr (by cases L;exact .inr hz;exact .inl hz)) ⟨_,_,H TO _ D.TOz D.TOi1 D.TOi2 v⟩ a3 Y U O λc o c1 _ h g e=>H c o c1 h g e)) (nY _))))
def Nn{z TI TO B v G C:ak}{J I:Nat}{Q:Option ah->aq->Prop}(hh:A.handled=none)(D:nU z TI TO B v G C)(hz:MA s.heap z TI TO) (u:fG s.heap TI (.ref B) (.ref v)) (H:fG s.heap TO a b)(U:s.heap.IsListIter B G J) (O:s.heap.IsListIter v C I) (l:s.heap.IsList G xs) (h:s.heap.IsList C ys) (g:xs[J]?=none\/ys[I]?=none)(L:∀h',(∀c o,c≠z->c≠TO->c≠B->c≠v->s.heap.get? c=some o->h'.get? c=some o)->Q none { s with heap:=h' }):aH (aY prog w) A (ip (.ref z)) Q E s:=by
 rcases hz with hz|⟨T,o,f1,hz,hT⟩
 ·exact wpAny_pyNext_zip_end hh D hz u H U O l h g L
 ·let q:s.TypeIs (.ref z) "zip":=⟨_,hz,rfl⟩
  unfold ip;refine ab (il (bX (name:=aD "__next__") q gN
   (cA gN q oK (QkT hh D hz hT u U O l h g λh' e c v=>?_) (nY _))))
  let⟨o,Y,B⟩:=v;refine ab (eL (T:="StopIteration") (b:=true) ⟨o,Y,B⟩ nV ?_);exact aj (L _ c)
end
section
variable{X:Cx}{ρ:List ak}
def Sw{ks es:List D}{j:Nat}(h:(ks.zipWith (λp q=>D.tup [p,q]) es).drop j=e::ds):∃k v,ks[j]?=some k/\es[j]?=some v/\e=.tup [k,v]:=by
 have:=cQ (·[0]?) h;simp only[mT,nZ,Im,eQ]at this;cases c:ks[j]? with|none=>rw[c]at this;cases this|some k=>
  cases g:es[j]? with|none=>rw[c,g]at this;cases this|some v=>rw[c,g]at this;exact⟨k,v,rfl,rfl,(aF this).symm⟩
noncomputable def ZW(z o l g c a b:ak)(i:Nat)(h:bN):Prop:=fG h o (.ref g) (.ref c)/\(∃u v,fG h l u v)/\h.IsListIter g a i/\h.IsListIter c b i
def ZF(H:Hp)(z g c:ak)(h:bN):Prop:=mH h z g c .none\/∃(T:ak)(o:Bool)(l:List V),yD h z g c (dU T) (.bool o)/\H T=some (.tup l)
def ZF.st{s:aq}(h:ZF H z g c s.heap)(I:Inv X ac σ H s):MA s.heap z g c:=by
 rcases h with h|⟨T,q,u,h,l⟩
 ·exact .inl h
 ·let⟨_,_,_,o,e,_⟩:=I.hok T _ l;exact .inr ⟨T,o,q,h,e⟩
def Po(a:yD h z g c o v)(b:yD h z g c l u):o=l:=by
 have:=aF (Eq.trans (Eq.symm a) b);injection this with _ _ q
 injection q with q
 simp at q;exact q.1
theorem Ol(l:X.calm=true){A:bM}(hh:A.handled=none)(hu:A.units+10 < cN){R:Result->aq->Prop}(Dz:nU z C G Q O L1 L2)(d:ak)(n m1 m2:Nat)(ha:ρ[n]?=some d)(a1:ρ[m1]?=some L1)(a2:ρ[m2]?=some L2)(n1:n≠m1)(n2:n≠m2)(ks es:List D):∀(ds:List D)(ps:List (D×D))(j:Nat)(i:Int)(tok:Tok)(s:aq)(H:Hp)(st:aV)(ar:List (D×D)),(ks.zipWith (λp q=>D.tup [p,q]) es).drop j=ds->sZ ds=some ps->Inv X ac σ H s->SR X.K ρ H st->st[n]?=some (.dct true ar)->st[m1]?=some (.lst ks)->st[m2]?=some (.lst es) ->(∀b∈[z,C,G,Q,O],pU X ac H b)->ZW z C G Q O L1 L2 j s.heap->ZF H z C G s.heap->ar.length+ds.length < sizeLine ->(∀H' s',Inv X ac σ H' s'->SR X.K ρ H' (st.set n (.dct true (wO ar ps)))->Ex ρ H ρ H'->R (.ok (.ret .none)) s') ->ky (aY X.prog X.w) A (.builtin "dict.update.loop" ⟨[.ref d,.ref z,.int i tok,.none],[]⟩) R s
 |[],ps,j,i,tok,s,H,st,ar,hd,hp,I,sr,hn,L,e2,hf,⟨w1,⟨u,v,w2⟩,w3,w4⟩,zf,hz,hR=>by
  cases hp;let⟨b1,vs,Y,hv,r⟩:=sr.seq L;let⟨b2,ws,U,hw,r'⟩:=sr.seq e2;rw[a1]at Y;cases Y;rw[a2]at U;cases U;let⟨its,rv,pl,_⟩:=I.list (io.of hv);let⟨its2,rv2,pl2,_⟩:=I.list (io.of hw);refine fV (b:=Builtin.«dict.update.loop») rfl ?_;rw[dX IE _];unfold Builtin.«dict.update.loop»;simp only[];let hj:(ks.zipWith (λp q=>D.tup [p,q]) es).length<=j:=by have:=cQ dZ hd;simp at this;simp;ext
  rw[hU]at hj;let l1:=rv.length;let l2:=rv2.length;let l3:=r.length;let l4:=r'.length;refine ab (Nn (A:=A.in1) hh Dz (zf.st I) w1 w2 w3 w4 pl.isList pl2.isList (by
   rcases Nat.le_total ks.length es.length with q|q
   ·exact .inl (n_ (by rw[aL];ext))
   ·exact .inr (n_ (by rw[aL];ext))) λh' g=>?_)
  wp_walk
  refine hR H _ (Pt (t':=s.toks) I hf λc o l e=>?_) ?_ Ex.refl
  ·simp only[aX,cO,or_false,not_or]at l;exact g c o l.1 l.2.2.1 l.2.2.2.1 l.2.2.2.2 e
  ·let : st.set n (.dct true (wO ar [])) = st := by show st.set n (.dct true ar)=st;let⟨g,c⟩:=ae.mp hn;rw[<- c];exact List.set_getElem_self g
   rw[this];exact sr
 |e::ds,ps,j,i,tok,s,H,st,ar,hd,hp,I,sr,hn,L,e2,hf,⟨w1,⟨u0,v0,w2⟩,w3,w4⟩,zf,hz,hR=>by
  unfold sZ at hp;rw[uH]at hp;let⟨p,E,hp⟩:=hp;rw[cG]at hp;let⟨ps,hps,rfl⟩:=hp;let⟨k,v,hk0,hv0,rfl⟩:=Sw hd;obtain⟨hkk,ep⟩:om true k=true/\(k,v)=p:=by
   replace E:(if om true k=true then some (k,v) else none)=some p:=E
   by_cases q:om true k=true
   ·rw[aJ q]at E;exact⟨q,aF E⟩
   ·rw[az q]at E;cases E
  subst ep;let⟨b1,vs,Y,hv,r⟩:=sr.seq L;let⟨b2,ws,U,hw,r'⟩:=sr.seq e2;rw[a1]at Y;cases Y;rw[a2]at U;cases U;let⟨its,rv,pl,_⟩:=I.list (io.of hv);let⟨its2,rv2,pl2,_⟩:=I.list (io.of hw);let⟨x,hx,rx⟩:=r.get hk0;let⟨y,hy,ry⟩:=r'.get hv0;let⟨ux,hux,rux⟩:=rv.get hx;let⟨uy,huy,ruy⟩:=rv2.get hy;refine fV (b:=Builtin.«dict.update.loop») rfl ?_;rw[dX IE _];unfold Builtin.«dict.update.loop»;simp only[];refine ab (U5 (A:=A.in1) Dz (zf.st I) w1 w2 w3 w4 pl.isList pl2.isList (x:=ux) (y:=uy) (by simpa using hux) (by simpa using huy) λh' T f1 g1 gT g2 g3 g4 g5 g6 g7=>?_);let keep:∀c o,c∉[z,C,G,Q,O]->s.heap.get? c=some o->h'.get? c=some o:=λc o l e=>by simp only[aX,cO,or_false,not_or]at l;exact g7 c o l.1 l.2.2.1 l.2.2.2.1 l.2.2.2.2 e
  let hTn:H s.heap.objs.size=none:=I.hok.fresh (ay _);let I1:Inv X ac σ (fT H s.heap.objs.size (.tup [x,y])) { s with heap:=h',toks:=s.toks }:=
   La (its:=[ux,uy]) I hf keep (ay _) (by show 2<=sizeLine;decide) (.cons rux (.cons ruy .nil)) ⟨_,g5,rfl,⟨_,rfl⟩,rfl⟩
  let x4:Ex ρ H ρ (fT H s.heap.objs.size (.tup [x,y])):=Ex.new hTn;let s4:=sr.new (o:=.tup [x,y]) hTn;let lt:∀c∈[z,C,G,Q,O],∃o,s.heap.get? c=some o:=λc l=>by
   simp only[aX,cO,or_false]at l;rcases l with q|q|q|q|q<;>subst q
   ·rcases zf with h|⟨T,f1,vs,h,hT⟩
    ·exact⟨_,h⟩
    ·exact⟨_,h⟩
   ·exact⟨_,w1⟩
   ·exact⟨_,w2⟩
   ·let⟨o,e,_⟩:=w3;exact⟨o,e⟩
   ·let⟨o,e,_⟩:=w4;exact⟨o,e⟩
  let hf1:∀b∈[z,C,G,Q,O],pU X ac (fT H s.heap.objs.size (.tup [x,y])) b:=λb J=>by let⟨f0,fr⟩:=hf b J;let⟨o,eo⟩:=lt b J;exact⟨by rw[gB (bj (aK eo))];exact f0,fr⟩
  let zf1:ZF (fT H s.heap.objs.size (.tup [x,y])) z C G h':=by
   rcases gT with q|q
   ·subst q;exact .inr ⟨_,f1,_,g1,lH⟩
   ·rcases zf with h|⟨l,o,g,h,c⟩
    ·rcases q with q|q<;>cases Po h q
    ·let : (T : Int) = l := by rcases q with q|q<;>· have:=Po q h;injection this
     have:T=l:=by exact_mod_cast this
     subst this;exact .inr ⟨T,f1,g,g1,by rw[gB (oZ c hTn)];exact c⟩
  let tI1:fG h' C (.ref Q) (.ref O):=g7 C _ Dz.TIz Dz.TITO Dz.TIi1 Dz.TIi2 w1;refine ab (cw (ab (lP (Vu (s:={ s with heap:=h' }) ⟨_,g5,rfl,_,rfl⟩ ?_))));let I2:=I1.pinned (fp:=[z,C,G,Q,O]) hf1 (λb J=>by
   simp only[aX,cO,or_false]at J;rcases J with q|q|q|q|q<;>subst q
   ·exact⟨_,g1,λv z=>by cases z⟩
   ·exact⟨_,tI1,λv z=>by cases z⟩
   ·let⟨a,b,g2⟩:=g2;exact⟨_,g2,λv z=>by cases z⟩
   ·let⟨o,L,c,dt⟩:=g3;exact⟨o,L,λv z=>by rw[dt]at z;cases z⟩
   ·let⟨o,L,c,dt⟩:=g4;exact⟨o,L,λv z=>by rw[dt]at z;cases z⟩)
  refine cw (Ui (A:=A.in1) (by show A.units+1+2 < cN;ext) I2 s4 ha hn (rx.mono x4) hkk (by simp at hz;ext) (ry.mono x4) rux ruy λH' s' I' sr' x'=>?_);refine aj ⟨f_ IE _,?_⟩;let hlt:=(ae.mp hn).1;let B:∀b o,b∈[z,C,G,Q,O]->h'.get? b=some o->s'.heap.get? b=some o/\H' b=none:=λb o J e=>by have hm:(b,o)∈ac++qA [z,C,G,Q,O] h':=bK _ (HG J e);have:=I'.pin (b,o) (bK _ hm);exact⟨this.1,this.2.1⟩
  let x5:=x4.trans x';refine Ol l hh hu Dz d n m1 m2 ha a1 a2 n1 n2 ks es ds ps (j+1) (i+1) _ s' H' _ (nJ ar k v) (by rw[<- List.drop_drop,hd];rfl) hps I'.unpinned sr' (aE hlt) (by rw[aA n1];exact L) (by rw[aA n2];exact e2) (λb J=>?_) ?_ ?_ (by have:=ZU ar k v;simp at hz;ext) λH3 s3 I3 sr3 x3=>?_
  ·let⟨f0,fr⟩:=hf b J;obtain⟨o,eo⟩:∃o,h'.get? b=some o:=by
    simp only[aX,cO,or_false]at J;rcases J with q|q|q|q|q<;>subst q
    ·exact⟨_,g1⟩
    ·exact⟨_,tI1⟩
    ·let⟨a,b,g2⟩:=g2;exact⟨_,g2⟩
    ·let⟨o,L,_⟩:=g3;exact⟨o,L⟩
    ·let⟨o,L,_⟩:=g4;exact⟨o,L⟩
   exact⟨(B b o J eo).2,fr⟩
  ·let⟨a,b,g2⟩:=g2;exact⟨(B C _ (by simp) tI1).1,⟨a,b,(B G _ (by simp) g2).1⟩,g3.at λo e=>(B Q o (by simp) e).1,g4.at λo e=>(B O o (by simp) e).1⟩
  ·rcases zf1 with q|⟨T,f1,vs,q,hT⟩
   ·exact .inl (B z _ (by simp) q).1
   ·exact .inr ⟨T,f1,vs,(B z _ (by simp) q).1,x'.fix T _ rfl hT⟩
  ·rw[List.set_set]at sr3;exact hR H3 s3 I3 sr3 (x5.trans x3)
end
section
variable{X:Cx}
def QkY(hc:X.calm=true)(hu:X.A.units+60 < cN){st:aV}{Q:VK}{m1 Y:Nat}(I:Inv X g σ H s)(sr:SR X.K ρ H st)(a1:ρ[m1]?=some L)(a2:ρ[Y]?=some L2)(U:st[m1]?=some (.lst ks))(e2:st[Y]?=some (.lst es))(hv:H L=some (.lst vs)) (hw:H L2=some (.lst ws)) (G:sZ (ks.zipWith (λp q=>D.tup [p,q]) es)=some ps) (hk:ps.length<=1000) (p2:∀ρ' C,Ex ρ H ρ' C->SR X.K ρ' C (st++[.dct true (wO [] ps)])->∀v,dD X.K ρ' C v (.dic st.length)->Q v C):aH (aY X.prog X.w) X.A (call (.type "zip") [.ref L,.ref L2]) (λu s1=>aH (aY X.prog X.w) X.A (call (.type "dict") [u]) (EP X g σ Q) X.xe s1) X.xe s:=by
 let hh:=I.ok.hd hc;let⟨its,rv,pl,_⟩:=I.list (io.of hv);let⟨its2,rv2,E,_⟩:=I.list (io.of hw);let lt1:L < s.heap.objs.size:=by let⟨o,e,_⟩:=pl.isList;exact aK e
 let lt2:L2 < s.heap.objs.size:=by let⟨o,e,_⟩:=E.isList;exact aK e
 refine call_zip_2 pl.isList E.isList λh' O g2 g3 g4 g5 g6 g7=>?_;let I1:Inv X g σ H { s with heap:=h' }:=I.kept (t':=s.toks) g7;generalize hZ:s.heap.objs.size+4=z at O ⊢;refine callType_codes (Q₁:=λobj s₁=>obj=.ref h'.objs.size/\s₁={ s with heap:=h'.push { cls:=.type "dict",data:=.dict #[] } }) F.kt_called_dict rfl F.entry_dict_init (kt_code_dict_new _ ⟨rfl,rfl⟩) λobj s₁ h₁=>?_;let⟨rfl,rfl⟩:=h₁;refine⟨⟨_,aC _ rfl,rfl⟩,F.args_dict_init_2 _ _,?_⟩;let hn:=I1.hok.fresh (ay h'.objs.size);let I2:=I1.laid (a:=h'.objs.size) (o:=mh h'.objs.size []) (h':=h'.push { cls:=.type "dict",data:=.dict #[] }) (t':=s.toks) (λ_ _ q=>am _ q) (ay _)
  (E7 (P:=X.prog) (w:=X.w) (xs:=[]) (bH _) (beq_eq_false_iff_ne.mpr (fI (bj I1.big))) .nil (uT h') ⟨_,_,aC _ rfl,rfl⟩)
 let x0:Ex ρ H (ρ++[h'.objs.size]) (fT H h'.objs.size (mh h'.objs.size [])):=Ex.newO hn;let s0:SR X.K (ρ++[h'.objs.size]) (fT H h'.objs.size (mh h'.objs.size [])) (st++[.dct true []]):=(sr.new hn).keepO (sr.fresh hn) ⟨[],lH,.nil⟩;let l:(ρ++[h'.objs.size])[st.length]?=some h'.objs.size:=by rw[<- sr.len];simp
 let z1:mH (h'.push { cls:=.type "dict",data:=.dict #[] }) z (s.heap.objs.size+2) (s.heap.objs.size+3) .none:=am _ O;let hT:pJ { s with heap:=h'.push { cls:=.type "dict",data:=.dict #[] } } (.ref z) "zip":=⟨_,z1,rfl⟩
 unfold Builtin.«dict.__init__»
 wp_walk using nu hT,ZY (A:=X.A.in1.in1) hh z1
 intro h3 tk kp;let I3:Inv X g σ _ { s with heap:=h3,toks:=tk }:=I2.kept (t':=tk) kp;simp only[w9,if_true];refine ab (iE ?_);let up:∀c o,h'.get? c=some o->h3.get? c=some o:=λc o e=>kp _ _ (am _ e);refine ab (uG (up _ _ O) ?_);refine aj ⟨f_ IE _,?_⟩;let l1:=(ae.mp U).1;let l2:=(ae.mp e2).1;let J:=RJ G;let Dz:nU z (s.heap.objs.size+2) (s.heap.objs.size+3) s.heap.objs.size (s.heap.objs.size+1) L L2:=by rw[<- hZ];exact zipApart_new lt1 lt2
 refine Ol (X:=X) (A:=X.A.in1) hc hh (by show X.A.units+1+10 < cN;ext) Dz h'.objs.size st.length m1 Y l (xl a1) (xl a2) (dm l1) (dm l2) ks es _ ps 0 0 0 _ _ _ [] rfl G I3 s0 (by simp) (by rw[av l1];exact U) (by rw[av l2];exact e2) (λb hb=>?_) ⟨up _ _ g2,⟨_,_,up _ _ g3⟩,g4.at λo e=>up _ o e,g5.at λo e=>up _ o e⟩ (.inl (up _ _ O)) (by rw[mG,gC,pj,<- J];ext) λC s' I' h x'=>?_
 ·let B : s.heap.objs.size <= b /\ h'.objs.size > b := by simp only[aX,cO,or_false]at hb;rcases hb with e|e|e|e|e<;>rw[e]<;>constructor<;>ext
  refine I.fpOk B.1 ?_;rw[gB (bj B.2)];exact I.hok.fresh B.1
 ·refine⟨rfl,.ref h'.objs.size,C,I',rfl,?_⟩;let U:(st++[MO.dct true []]).set st.length (.dct true (wO [] ps))=st++[.dct true (wO [] ps)]:=by simp
  rw[U]at h;let⟨es,c,_⟩:=h.ob st.length _ (.dct true (wO [] ps)) l (by simp);exact p2 _ C (x0.trans x') h _ (.dic ⟨_,c,.inr rfl⟩ l)
def Zc(hc:X.calm=true)(hu:X.A.units+60 < cN)(hg:Gl X "dict")(hm:X.mg "dict"=none)(hg2:Gl X "zip")(hm2:X.mg "zip"=none)(ha:SE X a fa)(hb:SE X b fb)(hs:starEach [a,b] X.env=(false,eval a X.env)::starEach [b] X.env) (C:starEach [b] X.env=(false,eval b X.env)::starEach [] X.env):SE X (.Call (.Name "dict" p) [.Call (.Name "zip" p') [a,b] [] a6] [] pos) (c2 rX fa fb):=by
 intro B s σ H Q I h;let E:starEach [.Call (.Name "zip" p') [a,b] [] a6] X.env=[(false,eval (.Call (.Name "zip" p') [a,b] [] a6) X.env)]:=rfl;refine dM (yy I hg hm (show dg "dict"=some (.type "dict") by nofun) ?_ (by decide) (by decide));refine cz ?_ E rfl;rw[E]
 show aH _ _ (tq [(false,eval (.Call (.Name "zip" p') [a,b] [] a6) X.env)]) _ _ s;refine im ?_;refine dM (yy I hg2 hm2 boot_zip ?_ (by decide) (by decide));refine cz (gA ((sA ha (sA hb vI C) hs) a6 B s σ H (λL o=>∃v w d e ρ st,L=[v,w]/\SR X.K ρ o st/\dD X.K ρ o v d/\dD X.K ρ o w e/\aU X.K ρ o (rX d e st) λd x ρ' H'=>∀(v:V),dD X.K ρ' H' v d->Q v H') I ?_) λus s1 ⟨L,o,I1,r1,v,w,d,e,ρ,st,ev,sr,Y,c,q⟩=>?_) hs (by rw[C];rfl)
 ·exact h.el λρ l st g sr p=>⟨ρ,l,st,g,sr,p.bnd.imp λd U ρ1 o u s1 E v Y=>⟨ρ1,l,U,g.mono u,s1,E.bnd.imp λe O ρ2 G q B C w c=>⟨v,w,d,e,ρ2,O,rfl,B,Y.mono q,c,C⟩⟩⟩
 ·subst ev;let⟨C,B,rfl,O,I⟩:=r1.two;unfold rX at q;cases d with
  |ref m=>
   cases e with
   |ref n=>
    let⟨U,rfl,_,v⟩:=Y.inv;let⟨Q,rfl,_,o⟩:=c.inv;cases (show C=bG U from O);cases (show B=bG Q from I);let⟨ks,l,H⟩:=aU.getL (aU.bnd q) sr;let⟨es,h,u⟩:=aU.getL (aU.bnd H) sr;let⟨c1,L,J,hv,_⟩:=sr.seq l;let⟨c2,ws,G,hw,_⟩:=sr.seq h;rw[v]at J;cases J;rw[o]at G;cases G;unfold uo at u;cases g:sZ (ks.zipWith (λp q=>D.tup [p,q]) es) with|none=>rw[g]at u;exact u.elim|some ps=>
     rw[g]at u;let⟨hk,E⟩:=aU.chk u;exact fU (QkY hc hu I1 sr v o l h hv hw g hk E) (λ_ _ z=>iz z) λ_ _ z=>z
   |_=>exact q.elim
  |_=>exact q.elim
end
def Dc:ma:=λr c e=>Cu e λx _ z _ h=>Mh z λy _ a b _ C=>wh (x=aD "dict"/\y=aD "zip"/\c.bl x=true/\c.bl y=true/\rN a=true/\rN b=true) λw=>(r.e c a).bind λv=>(r.e c b).bind λu=>some ⟨c2 rX v.1 u.1,λg=>by subst h C;let⟨rfl,rfl,q,l,B,o⟩:=w;exact Zc g.S.calm g.hu (g.gl q).1 (g.gl q).2 (g.gl l).1 (g.gl l).2 (v.2 g) (u.2 g) (rJ B) (rJ o)⟩
open PySem.W
section
variable{A:bM}{s:aq}
def ZS{K:Type}[DecidableEq K]{knd:pc prog w K}{xs ys:List (K×ak×ah)}{Q:Bool->aq->Prop}(hu:knd.room A)(ha:(a == cJ)=false)(hb:(b == cJ)=false)(da:s.heap.DictOfH knd a xs) (db:s.heap.DictOfH knd b ys) (hl:xs.length=ys.length) (he:∀(i:Nat)(x:K×ak×ah),xs[i]?=some x->∃y:K×ak×ah,ys[i]?=some y/\y.1=x.1/\qd A s x.2.2 y.2.2 true) (h:Q true s):aH (aY prog w) A (rS nm a b) Q E s:=by
 let⟨oa,es,ep,g,_,l,I,hia,hna⟩:=da;let⟨ob,es',ep',u,_,G,C,hib,B⟩:=db;let la:=iL I;let lb:=iL C;unfold rS ie;rw[az (show ¬ (a == cJ)=true by rw[ha];exact bD),az (show ¬ (b == cJ)=true by rw[hb];exact bD)];refine ab (aj (ab (aj ?_)));refine ab (dH g l ?_);dsimp only;refine ab (dH u G ?_);rw[az (by rw[la,lb,hl];simp)];refine ab (gY g l ?_);refine ab ?_;rw[Std.Legacy.Range.forIn_eq_forIn_range'];simp only[Std.Legacy.Range.size,Nat.sub_zero,Nat.add_sub_cancel,Nat.div_one];refine ml _ (λrest q O=>O=s/\q=(none,Unit.unit)/\∃i,rest=Iq i (es.size-i)/\i<=es.size) _ ?_ ?_ _ _ ⟨rfl,rfl,0,by simp,bH _⟩
 ·rintro x rest q O ⟨rfl,rfl,i,hr,hi⟩
  let Y:i < es.size:=by
   rcases Nat.lt_or_ge i es.size with h|h
   ·exact h
   ·rw[Nat.sub_eq_zero_of_le h]at hr;simp at hr
  obtain⟨rfl,o⟩:x=i/\rest=Iq (i+1) (es.size-(i+1)):=by
   let e:es.size-i=(es.size-(i+1))+1:=by ext
   rw[e,List.range'_succ]at hr;injection hr with Q L
   exact⟨Q,L⟩
  refine ab (dH g l ?_);let hx:x < xs.length:=by ext
  obtain⟨k,c,v,E⟩:∃k c v,xs[x]=(k,c,v):=⟨_,_,_,rfl⟩
  let hx?:xs[x]?=some (k,c,v):=by rw[af hx,E]
  let⟨⟨k',c',v'⟩,hy?,J,H⟩:=he x _ hx?;simp only at J H;subst J;rw[Bp I x,hx?]
  show aH _ _ (lK [.ref c,v] _ >>= _) _ _ _;refine ab (cw (ab (rG (k:=k') hu (hia _ (ax hx?)) u G C hib B (λU=>bo hy? (U x _)) λj p hj=>?_)));refine ab (dH u G ?_);let ep:p=(c',v'):=by have Q:=tE B hj;have L:=tE B hy?;rw[Q]at L;exact aF L
  subst ep;rw[Bp C j,hj];refine cw (H prog w _ _ ?_)
  show aH _ _ (if (!true)=true then _ else _) _ _ _;rw[az (by decide)];refine ab (gY g l ?_);rw[az (by simp)];exact aj ⟨rfl,rfl,x+1,o,Y⟩
 ·rintro q O ⟨rfl,rfl,i,hr,hi⟩
  exact aj h
def eqN{K:Type}[DecidableEq K]{knd:pc prog w K}{xs ys:List (K×ak×ah)}{Q:ah->aq->Prop}(hr:knd.room A.in1)(hu:A.units < cN)(ha:(a == cJ)=false)(hb:(b == cJ)=false)(da:s.heap.DictOfH knd a xs) (db:s.heap.DictOfH knd b ys) (hl:xs.length=ys.length) (he:∀(i:Nat)(x:K×ak×ah),xs[i]?=some x->∃y:K×ak×ah,ys[i]?=some y/\y.1=x.1/\qd A.in1 s x.2.2 y.2.2 true) (h:Q (.bool true) s):aH (aY prog w) A (cS .Eq (.ref a) (.ref b)) Q E s:=by
 refine vK (op:=.Eq) da.typeIs db.typeIs vH (cA vH da.typeIs PySem.F.entry_dict_eq ?_ (PySem.F.args_dict_eq_2 _ _)) hu
 show aH _ _ (qP "__eq__" ⟨[.ref a,.ref b],[]⟩ >>= _) _ _ s;refine ab ?_;unfold qP;refine ab (gF da.typeIs ?_)
 show aH _ _ (pure (bG a,bG b)) _ _ s;refine aj ?_;refine ab (eL (T:="dict") db.typeIs PySem.F.sub_dict_dict ?_);simp only[eU,aR,if_false];refine ab (aj (ab (aj ?_)));refine ab (ZS hr ha hb da db hl he ?_);refine aj ⟨_,rfl,?_,?_⟩
 ·exact λx=>nomatch x
 ·simpa using h
end
section
variable{X:Cx}{K:ai}{st:aV}
theorem aU.getDf{n:Nat}(h:aU K ρ H (MM.getDf n st) R)(s:SR K ρ H st):∃c,(st[n]?=some (.dct true c)\/st[n]?=some (.dcf c))/\R c st ρ H:=by
 unfold MM.getDf at h;cases e:st[n]? with|none=>rw[e]at h;exact h.elim|some o=>
  rw[e]at h;cases o with
  |dct b c=>
   cases b with|false=>exact h.elim|true=>exact⟨c,.inl rfl,h ρ H Ex.refl s⟩
  |dcf c=>exact⟨c,.inr rfl,h ρ H Ex.refl s⟩|_=>exact h.elim
def NV{n:Nat}(I:Inv X ac σ H s)(sr:SR X.K ρ H st)(O:ρ[n]?=some a)(e:st[n]?=some (.dct true c)\/st[n]?=some (.dcf c)):∃es xs,NR X.K ρ H es c/\NX es xs/\es.length<=sizeLine/\(a == cJ)=false/\s.heap.DictOfH (yR X) a xs/\∃u,H a=some u/\kO u=2:=by
 rcases e with e|e
 ·let⟨es,l,r⟩:=sr.ob n a _ O e;let⟨G,E,xs,C,B,_⟩:=x_ I l r;exact⟨es,xs,r,C,G,E,B,_,l,rfl⟩
 ·let⟨es,l,r⟩:=sr.ob n a _ O e;let⟨⟨z,y,xs,L,o,J,ep,G,E,C,B,Q⟩,Y,U⟩:=(show gP X.prog X.w H s.heap a (OD a es) from I.hok a _ l)
  refine⟨es,xs,r,L,z,y,⟨o,J,ep,G,E,C,B,?_,Q⟩,_,l,rfl⟩;clear G E C B Q e l z y Y U
  induction L generalizing c with
  |nil=>intro x v;exact nomatch v
  |@cons p q ps qs h t ih=>
   cases r with|cons g gt=>
    intro x v;rcases aX.mp v with e|v
    ·subst e;let⟨b,l,_,u⟩:=AW I (by rw[g.1];exact g.2.1) (show RelV (.ref p.2.1) (.ref p.2.1) from rfl);cases l;rw[<- h.1,<- h.2.1];exact u
    ·exact ih gt x v
open Classical in
def Zi(hu:X.A.units+60 < cN):OpR X (cS .Eq) (qz X.K xF):=by
 intro ac s σ H x y v u Q I rx ry h;let⟨ρ,st,d,e,sr,r1,r2,p⟩:=h;unfold xF at p;cases d with
 |dic m=>
  cases e with
  |dic n=>
   let⟨a,rfl,_,ha⟩:=r1.inv;let⟨b,rfl,_,hb⟩:=r2.inv;cases (show v=bG a from rx);cases (show u=bG b from ry);let⟨k1,e1,p1⟩:=aU.getDf (aU.bnd p) sr;let⟨k2,e2,p2⟩:=aU.getDf (aU.bnd p1) sr;let⟨⟨C,hi⟩,p3⟩:=aU.chk p2;let C:k1=k2:=C;subst C;let⟨es,xs,U,G,z1,y1,d1,_⟩:=NV I sr ha e1;let⟨c,xs2,O,E,z2,y2,d2,_⟩:=NV I sr hb e2;let l1:=cZ U;let l2:=cZ O;let l3:=cZ G;let l4:=cZ E;refine eqN (knd:=yR X) (show X.A.in1.units+1 < cN by show X.A.units+1+1 < cN;ext) () y1 y2 d1 d2 () (λi x hx=>?_) ⟨.bl true,H,I,rfl,p3.ret sr _ (.bl true)⟩;let o:i < es.length:=by rw[l3];exact (ae.mp hx).1
   let l:i < c.length:=by ext
   let⟨q1,g1,f1⟩:=Dk G (af o);let⟨q2,g2,f2⟩:=Dk E (af l);let⟨c1,L,B⟩:=Dk U (af o);let⟨c2,J,q⟩:=Dk O (af l);rw[hx]at g1;cases g1;rw[L]at J;cases J;refine⟨q2,g2,?_,?_⟩
   ·have:rM es[i].1=rM c[i].1:=B.1.trans q.1.symm;have:=Ej es[i].1 c[i].1;rw[B.1,q.1,<- q.1,Ej,bY rfl]at this;rw[<- f2.1,<- f1.1];exact (of_decide_eq_true this.symm).symm
   ·let g:=hi _ (ax L);cases l:c1.2 with
    |int j=>
     let u:=B.2.2;let o:=q.2.2;rw[l]at u o;let I:=u.inv;let H:=o.inv;let h:=f1.2.2;let Y:=f2.2.2;rw[show es[i].2.2=V.int j from I]at h;rw[show c[i].2.2=V.int j from H]at Y;let⟨C,G⟩:=h;let⟨v,E⟩:=Y;rw[G,E];have:=uQ (A:=X.A.in1) (s:=s) j C j v;rw[beq_self_eq_true]at this;exact this
    |_=>rw[l]at g;exact g.elim
  |_=>exact p.elim
 |_=>exact p.elim
end
end MM
namespace MM
open PySem PySem.Spec PyProof.Rows L2
section
variable{X:Cx}
def Of{ys:Array (Int×Tok)}(g:c=ys.toList.map (·.1)):preSum (oq ys) ys.size=c.sum:=by rw[preSum_eq,oy (by simp),g]
def R5(J:X.calm=true):CallR X (.builtin "sum") (Bz X.K vo):=by
 intro c s σ H xs U Q I r h;let⟨a,O,ρ,st,ds,rfl,E,sr,B,p⟩:=h;let⟨u,rfl,o⟩:=wJ r;cases o;unfold vo at p;cases q:lQ ds with|none=>rw[q]at p;exact p.elim|some ns=>
  rw[q]at p;have:=Fz q B;subst this;let⟨its,v,C,hz⟩:=I.list E;let⟨ys,e,L⟩:=IX (HV v);let g:=C.isList;rw[e]at g;refine sum_intListG (I.ok.hd J) g λh' l t' G=>?_;rw[Of L];exact⟨.int _,H,I.kept (t':=l) G,⟨t',rfl⟩,p.ret sr _ (.int _)⟩
def Z7(E:X.calm=true):CallR X (.builtin "sum") (λxs H Q=>∃v,xs=[v]/\xY X.K vm v H Q):=by
 intro l s σ H xs J Q I r h;let⟨v,rfl,ρ,st,d,sr,c,p⟩:=h;let⟨u,rfl,B⟩:=wJ r;cases c with
 |@tup a vs ds ha rr=>
  cases B;unfold vm vo at p;cases q:lQ ds with|none=>simp only[q]at p;exact p.elim|some ns=>
   simp only[q]at p;have:=Fz q rr;subst this;let⟨its,c,g,hz⟩:=I.tuple ha;let⟨ys,e,G⟩:=IX (HV c);rw[e]at g;refine PySem.W.ktm_sumG (I.ok.hd E) g λh' o t' C=>?_;rw[Of G];exact⟨.int _,H,I.kept (t':=o) C,⟨t',rfl⟩,p.ret sr _ (.int _)⟩
 |_=>exact p.elim
def Hf:ma:=r6 "sum" kU vo λc _ g m a s=>IR (R5 c) g m (by nofun) a (wP (by nofun)) (by nofun) s
def G3:ma:=v9 "sum" kU vm λc _ g m a s=>Jc (Z7 c) g m (by nofun) a (wP (by nofun)) (by nofun) s
end
section
def Cw:xh:=K8 Fe "zip" (λc p=>c.tag p 28) u7 λh g m a b s t u=>by let⟨_,_,_,rfl⟩:=Iw h;rw[Tp];exact NO false true g m a b s t u t
end
def v8(c:Stmt):List Str:=((bc c).names.filter λp=>p.2 == .local||p.2 == .cell).map (·.1)
def vw(c:Stmt):List Str:=(v8 c).take (dN c).args.length
def qE(x:Str)(c:Stmt)(n k:Nat)(g:List D->M D)(G:List (Str×RF)):List (Str×RF):=(x,⟨n,k+1,vw c,false,g⟩)::G
def qD(x:Str)(c:Stmt)(n k:Nat)(g:List D->M D)(G:List (Str×RF)):List (Str×RF):=(x,⟨n,k+1,vw c,true,g⟩)::G
section
variable{K:ai}{k:Nat}
def AH:vw sd++(v8 sd).drop (dN sd).args.length=v8 sd:=List.take_append_drop ..
def pv(R : mO)(H : List (Nat×Nat×Nat))(n : Nat)(F : FnAt K mg x sd)(L : cR P w K mg base G)(J : vT mg Z)(O : xD K mg C)(I : (pA (n8 R 40) ⟨bc sd, v8 sd, k, G, Z, C, H, true, ([], []), none⟩ (cP sd)).map (λv => bW (v8 sd).length v.1) = some g := by kernel_rfl)
  (S:rA (v8 sd) (vw sd) (bc sd)=true:=by kernel_rfl) (u:(vw sd).length=n:=by kernel_rfl)
  (b:∀(kV c o:ah)(q:Option ak)(h ct:ah)(l:List ah),l.length=n->g9 (cF x x (dN sd) (cP sd) (bc sd) .none kV c o q h ct) { pos:=l }=pure ((vw sd).zip l):=by first|exact λ_ _ _ _ _ _=>Em λ_=>by kernel_rfl|exact λ_ _ _ _ _ _=>CJ λ_ _=>by kernel_rfl|exact λ_ _ _ _ _ _=>Iv λ_ _ _=>by kernel_rfl|exact λ_ _ _ _ _ _=>Ad λ_ _ _ _=>by kernel_rfl|exact λ_ _ _ _ _ _=>RI λ_ _ _ _ _=>by kernel_rfl):
  cR P w K mg base (qE x sd n k g G):=by
 let⟨v,B,rfl⟩:=cG.mp I;exact IQ R (r:=(v8 sd).drop (dN sd).args.length) (ps:=vw sd) (H:=H) F (by rw[AH];exact S) (λkV c o q h ct l E=>b kV c o q h ct l (E.trans u)) nofun (by rw[AH,B];rfl) L J O u (by rw[AH]) nofun
def IH(R : mO)(H : List (Nat×Nat×Nat))(n : Nat)(F : sE K mg x sd)(Q : cR P w K mg base G)(O : vT mg Z)(U : xD K mg C)(L : (pA (n8 R 40) ⟨bc sd, v8 sd, k, G, Z, C, H, true, ([], []), none⟩ (cP sd)).map (λv => bW (v8 sd).length v.1) = some g := by kernel_rfl)
  (S:rA (v8 sd) (vw sd) (bc sd)=true:=by kernel_rfl) (J:(vw sd).length=n:=by kernel_rfl) (I:(vw sd).getLast?=some (aD "most"):=by kernel_rfl)
  (b0:∀(u:ah)(T:ak)(kV h o:ah)(B:Option ak)(l ct:ah)(c:List ah),c.length=n->∃k:Option (Array ah)->Sem (List (Str×ah)),g9 (cF x x (dN sd) (cP sd) (bc sd) (.ref T) kV h o B l ct) ⟨c,[]⟩=kB (.ref T) >>= k/\k (some #[u])=pure ((vw sd).zip c):=by first|exact λ_ _ _ _ _ _ _ _=>CJ λ_ _=>⟨_,rfl,by kernel_rfl⟩|exact λ_ _ _ _ _ _ _ _=>Iv λ_ _ _=>⟨_,rfl,by kernel_rfl⟩)
  (Y:∀(u:ah)(T:ak)(kV h o:ah)(B:Option ak)(l ct:ah)(c:List ah),c.length+1=n->∃k:Option (Array ah)->Sem (List (Str×ah)),g9 (cF x x (dN sd) (cP sd) (bc sd) (.ref T) kV h o B l ct) ⟨c,[]⟩=kB (.ref T) >>= k/\k (some #[u])=pure ((vw sd).zip (c++[u])):=by first|exact λ_ _ _ _ _ _ _ _ c q=>Em (λ_=>⟨_,rfl,by kernel_rfl⟩) c (lT q)|exact λ_ _ _ _ _ _ _ _ c q=>CJ (λ_ _=>⟨_,rfl,by kernel_rfl⟩) c (lT q)):
  cR P w K mg base (qD x sd n k g G):=by
 let⟨v,E,rfl⟩:=cG.mp L;exact TU R (r:=(v8 sd).drop (dN sd).args.length) (ps:=vw sd) (H:=H) F (by rw[AH];exact S) b0 Y (by rw[AH,E];rfl) Q O U I J (by rw[AH])
def MP(R : mO)(H : List (Nat×Nat×Nat)){n : Nat}(F : zC K x x sd f c)(B : cR P w K mg base G)(u : vT mg Z)(E : xD K mg C)(q : (pA (n8 R 40) ⟨bc sd, v8 sd, k, G, Z, C, H, true, ([], []), none⟩ (cP sd)).map (λv => bW (v8 sd).length v.1) = some g := by kernel_rfl)
  (S:rA (v8 sd) (vw sd) (bc sd)=true:=by kernel_rfl) (o:(vw sd).length=n:=by kernel_rfl) (l:vw sd=ps:=by kernel_rfl):mX P w K mg base rm (k+1) f c ps (nh K n g):=by
 subst l;let⟨v,h,rfl⟩:=cG.mp q;exact N8 R (r:=(v8 sd).drop (dN sd).args.length) (ps:=vw sd) (H:=H) F (by rw[AH];exact S) (by rw[AH,h];rfl) B u E o (by rw[AH])
end
end MM
namespace My
open PySem MM
noncomputable def top(i:Nat):Stmt:=kh.main.body.getD i (.Pass ⟨0,0,0,0⟩)
noncomputable def tS:aV:=[.tbl "most_deeds" "worth",.tbl "graph_numbers" "<lambda>"]
def j4:CS:=(aP (dQ (c2 aZ (c2 aZ (c2 aZ (ao 0) (ao 1)) (ao 2)) (aQ (.int 0)))) aW)
@[irreducible] def jo:List D->M D:=bW 3 j4
def yq:CS:=(aP (dQ (c2 aZ (c2 aZ (c2 aZ (ao 0) (ao 1)) (ao 2)) (aQ (.int 1)))) aW)
@[irreducible] def jJ:List D->M D:=bW 3 yq
def ya:CS:=(aP (b8 (aS 1) (eK (gh (aw (eE bn) bn)))) (aP (lE (iV (c2 aZ (ao 0) (aQ (.int 1)))) (aS 2) (aP (b8 (aS 3) (eK (gh bn))) (aP (lE (iV (ao 1)) (aS 4) (aP (kq (eM (ao 3) (c2 fX (ao 4) (eE (aw (aQ (.int 0)) bn))))) (aP (kq (eM (ao 3) (c2 fX (ao 4) (eE (aw (aQ (.int 1)) bn))))) aW))) (aP (b8 (aS 1) (ao 3)) aW)))) (aP (dQ (ao 1)) aW)))
@[irreducible] def jE:List D->M D:=bW 5 ya
def yt:CS:=(aP (b8 (aS 2) (i_ lU (dR 2 [] (u_ (c2 aZ (ao 0) (aQ (.int 1))) (ao 1)) (gq 2 (cC (aS 0) (cC (aS 1) gD))) bZ (c2 aZ (c2 aZ (ao 0) (aQ (.int 0))) (ao 1))))) (aP (dQ (eE (aw (ao 2) (aw (i_ lU (dR 2 [] (iV (c2 aZ (ao 0) (aQ (.int 0)))) (gq 2 (cC (aS 0) (cC (aS 1) gD))) bZ (ao 1))) bn)))) aW))
@[irreducible] def jA:List D->M D:=bW 3 yt
def yl:CS:=(aP (dQ (c2 aZ (c2 aZ (c2 aZ (c2 aZ (ao 0) (aQ (.int 1))) (ao 2)) (aQ (.int 1))) (c2 aZ (c2 aZ (ao 1) (aQ (.int 0))) (ao 2)))) aW)
@[irreducible] def je:List D->M D:=bW 3 yl
def yh:CS:=(aP (dQ (c2 fX (c2 fX (oO (ao 0) vh (qU (ao 1))) (eE (aw (ao 2) bn))) (oO (ao 0) (qU (c2 fX (ao 1) (aQ (.int 1)))) vh))) aW)
@[irreducible] def jl:List D->M D:=bW 3 yh
def jT:CS:=(aP (dQ (xi (cV (c2 oo (c2 aZ (ao 0) (aQ (.int 0))) (aQ (.str "settle")))) (c2 aZ (ao 0) (aQ (.int 1))) (aQ .non))) aW)
@[irreducible] def jj:List D->M D:=bW 1 jT
def yg:CS:=(aP (b8 (aS 2) (eK (gh bn))) (aP (b8 (aS 3) (c2 aZ (ao 0) (ao 1))) (aP (lj (cV (c2 ng (ao 3) (aQ .non))) (aP (kq (eM (ao 2) (c2 aZ (ao 3) (aQ (.int 1))))) (aP (b8 (aS 3) (c2 aZ (ao 0) (c2 aZ (ao 3) (aQ (.int 0))))) aW))) (aP (dQ (c1 sw (ao 2))) aW))))
@[irreducible] def jH:List D->M D:=bW 4 yg
def jU:CS:=(aP (b8 (kW (ao 2) (ao 1)) (aQ (.bl true))) (aP (b8 (aS 4) (eK (gh (aw (ao 1) bn)))) (aP (b8 (aS 5) (eK (gh (aw (aQ (.int 0)) bn)))) (aP (lj (cV (c2 vQ (c1 gI (ao 4)) (aQ (.int 0)))) (aP (b8 (aS 6) (c2 aZ (ao 4) (c1 s_ (aQ (.int 1))))) (aP (m9 (cV (c2 oo (c2 aZ (ao 5) (c1 s_ (aQ (.int 1)))) (c1 gI (c2 aZ (ao 0) (ao 6))))) (aP (kq (eM (ao 3) (ao 6))) (aP (kq (uZ (ao 4))) (aP (kq (uZ (ao 5))) aW))) (aP (b8 (aS 7) (c2 aZ (c2 aZ (c2 aZ (ao 0) (ao 6)) (c2 aZ (ao 5) (c1 s_ (aQ (.int 1))))) (aQ (.int 1)))) (aP (uX (ao 5) (c1 s_ (aQ (.int 1))) (aQ (.int 1))) (aP (m9 (sH (sC (c2 aZ (ao 2) (ao 7)))) (aP (b8 (kW (ao 2) (ao 7)) (aQ (.bl true))) (aP (kq (eM (ao 4) (ao 7))) (aP (kq (eM (ao 5) (aQ (.int 0)))) aW))) aW) aW)))) aW))) aW))))
@[irreducible] def jr:List D->M D:=bW 8 jU
def yp:CS:=(aP (b8 (aS 1) (eK (dR 1 [] (iV (ao 0)) (aS 0) bZ (eK (gh bn))))) (aP (lE (qx (ao 0)) (gq 2 (cC (aS 2) (cC (aS 3) gD))) (aP (lE (iV (ao 3)) (gq 2 (cC (aS 4) (cC (aS 5) gD))) (aP (kq (eM (c2 aZ (ao 1) (ao 5)) (ao 2))) aW)) aW)) (aP (dQ (ao 1)) aW)))
@[irreducible] def jK:List D->M D:=bW 6 yp
def j9:CS:=(aP (m9 (cV (c2 ng (c2 aZ (ao 2) (ao 1)) (aQ .non))) (aP (dQ (aQ .non)) aW) aW) (aP (b8 (kW (ao 2) (ao 1)) (ao 3)) (aP (b8 (aS 4) (eK (gh (aw (ao 1) bn)))) (aP (lj (cV (c2 vQ (c1 gI (ao 4)) (aQ (.int 0)))) (aP (b8 (aS 5) (uZ (ao 4))) (aP (lE (iV (c2 aZ (ao 0) (ao 5))) (aS 6) (aP (m9 (cV (c2 tj (c2 aZ (ao 2) (ao 6)) (aQ .non))) (aP (b8 (kW (ao 2) (ao 6)) (ao 3)) (aP (kq (eM (ao 4) (ao 6))) aW)) aW) aW)) aW))) aW))))
@[irreducible] def jD:List D->M D:=bW 7 j9
@[irreducible] def mM:xO:=CD 2 (CD 1 (CD 0 (Mo ((L2.cP (top 33)).getD 3 (.Pass ⟨0,0,0,0⟩)))))
def vx:List D->M D:=uw 2 (aQ (.int 1))
@[irreducible] def oF:Ik:=(L2.cP (top 39)).getD 0 (.Pass ⟨0,0,0,0⟩)
def BJ: CS :=
  (aP (dQ (xi (oG (cV (c2 oo (ao 1) (ao 3))) (cV (c2 oo (c2 aZ (bO je (aw (ao 2) (aw (c2 aZ (c2 aZ (ao 4) (aQ (.int 0))) (ao 0)) (aw (ao 1) bn)))) (aQ (.int 1))) (ao 5)))) (aQ (.int 1)) (aQ (.int 0))))
  aW)
def qS:List D->M D:=bW 6 BJ
def pV:WT:=([(mM,⟨2,1,vx⟩)],[(.dfn oF,⟨2,2,qS⟩)])
def yc:CS:=(aP (b8 (aS 3) (eK (dR 1 [] (iV (ao 0)) (aS 0) bZ (aQ (.int 0))))) (aP (lE (iV (ao 1)) (aS 4) (aP (b8 (kW (ao 3) (ao 4)) (tQ (dR 2 [2,3,4] (iV (c2 aZ (ao 0) (ao 4))) (gq 2 (cC (aS 0) (cC (aS 1) gD))) bZ (c2 fX (qv pV (ao 2) (aw (ao 4) (aw (ao 0) bn))) (c2 aZ (ao 3) (ao 1)))) (aQ (.int 0)))) aW)) (aP (dQ (ao 3)) aW)))
@[irreducible] def jd:List D->M D:=bW 5 yc
def jX:CS:=(dQ (c1 (xG oD) (py 0 "most_deeds" "worth" jd (.dfn oF) [0,3,1,4] 5 (aw (c2 aZ (ao 1) (aQ (.int 1))) (aw (ao 2) bn)))))
@[irreducible] def jm:List D->M D:=bW 6 jX
def ym:CS:=(aP (b8 (aS 2) (c2 fX (c2 tf (aQ (.int 7919)) (ao 1)) (aQ (.int 104729)))) (aP (b8 (aS 3) (eK (gh bn))) (aP (lE (zl (sB (ao 0) (qU (ao 1)) (qU (aQ (.int 63))))) (aS 4) (aP (b8 (aS 2) (c2 o0 (c2 fX (c2 fX (c2 tf (ao 2) (aQ (.int 48271))) (c2 o0 (ao 4) (aQ (.int 2147483629)))) (aQ (.int 1))) (aQ (.int 2147483647)))) (aP (m9 (cV (c2 C0 (ao 4) (c2 yY (aQ (.int 10)) (aQ (.int 18))))) (aP (kq (eM (ao 3) (ao 4))) aW) aW) aW))) (aP (dQ (eK (gh (aw (ao 2) (aw (aQ (.int 0)) (aw (eK (u5 (ao 3))) bn)))))) aW))))
@[irreducible] def jN:List D->M D:=bW 5 ym
def ye:CS:=(aP (lj (oG (cV (c2 oo (c2 aZ (ao 0) (aQ (.int 1))) (aQ (.int 0)))) (cV (c2 vQ (c1 gI (c2 aZ (ao 0) (aQ (.int 2)))) (aQ (.int 0))))) (aP (b8 (kW (ao 0) (aQ (.int 1))) (uZ (c2 aZ (ao 0) (aQ (.int 2))))) aW)) (aP (m9 (cV (c2 vQ (c2 aZ (ao 0) (aQ (.int 1))) (aQ (.int 0)))) (aP (b8 (aS 2) (c2 o0 (c2 aZ (ao 0) (aQ (.int 1))) (ao 1))) (aP (b8 (kW (ao 0) (aQ (.int 1))) (c2 tX (c2 aZ (ao 0) (aQ (.int 1))) (ao 1))) (aP (dQ (ao 2)) aW))) aW) (aP (b8 (aS 3) (c2 o0 (c2 fX (c2 tf (c2 aZ (ao 0) (aQ (.int 0))) (aQ (.int 48271))) (aQ (.int 7919))) (aQ (.int 2147483647)))) (aP (b8 (kW (ao 0) (aQ (.int 0))) (c2 fX (c2 o0 (c2 fX (c2 tf (ao 3) (aQ (.int 40692))) (aQ (.int 12345))) (aQ (.int 2147483399))) (aQ (.int 1)))) (aP (dQ (c2 o0 (c2 tX (c2 fX (c2 tf (c2 o0 (c2 tf (ao 3) (ao 3)) (aQ (.int 2147483629))) (aQ (.int 31))) (c2 aZ (ao 0) (aQ (.int 0)))) (aQ (.int 64))) (ao 1))) aW)))))
@[irreducible] def ja:List D->M D:=bW 4 ye
def yb:CS:=(aP (b8 (aS 2) (bO ja (aw (ao 0) (aw (aQ (.int 6)) bn)))) (aP (b8 (aS 3) (c2 fX (aQ (.int 1)) (bO ja (aw (ao 0) (aw (ao 1) bn))))) (aP (m9 (cV (c2 oo (ao 2) (aQ (.int 0)))) (aP (b8 (aS 3) (c2 wH (ao 3) (aQ (.int 3)))) (aP (dQ (i_ lU (dR 1 [3] (MM.gw (ao 3)) (aS 0) bZ (c2 fX (eE (aw (eE (aw (ao 0) (aw (ao 0) bn))) bn)) (i_ lU (dR 1 [] (MM.gw (ao 1)) (aS 0) bZ (eE (aw (ao 0) (aw (aQ (.int 0)) bn))))))))) aW)) aW) (aP (m9 (cV (c2 oo (ao 2) (aQ (.int 1)))) (aP (dQ (i_ lU (dR 1 [3] (MM.gw (ao 3)) (aS 0) bZ (i_ lU (dR 1 [0] (MM.gw (ao 1)) (aS 0) bZ (eE (aw (ao 0) (aw (ao 1) bn)))))))) aW) aW) (aP (m9 (cV (c2 oo (ao 2) (aQ (.int 2)))) (aP (dQ (i_ lU (dR 1 [3] (MM.gw (ao 3)) (aS 0) bZ (eE (aw (eE (aw (c2 o0 (c2 fX (ao 0) (aQ (.int 1))) (ao 1)) (aw (ao 0) bn))) bn))))) aW) aW) (aP (m9 (oG (cV (c2 oo (ao 2) (aQ (.int 3)))) (cV (c2 vQ (ao 3) (aQ (.int 1))))) (aP (b8 (aS 4) (eK (dR 1 [3] (MM.oB (aQ (.int 1)) (ao 3)) (aS 0) bZ (i_ lU (dR 1 [0] (MM.oB (aQ (.int 1)) (ao 1)) (aS 0) bZ (eE (aw (ao 1) (aw (ao 1) bn)))))))) (aP (dQ (c2 fX (eE (aw (i_ lU (dR 1 [] (MM.oB (aQ (.int 1)) (ao 3)) (aS 0) bZ (eE (aw (ao 0) (aw (ao 0) bn))))) bn)) (c1 tupleD (ao 4)))) aW)) aW) (aP (b8 (aS 5) (c2 fX (aQ (.int 1)) (bO ja (aw (ao 0) (aw (aQ (.int 4)) bn))))) (aP (dQ (i_ lU (dR 1 [0,3,5] (MM.gw (ao 3)) (aS 0) bZ (i_ lU (dR 1 [1,2] (MM.gw (ao 3)) (aS 0) bZ (eE (aw (bO ja (aw (ao 1) (aw (ao 2) bn))) (aw (bO ja (aw (ao 1) (aw (aQ (.int 4)) bn))) bn)))))))) aW))))))))
@[irreducible] def jC:List D->M D:=bW 6 yb
def yf:CS:=(aP (m9 (sk (cV (c2 oo (c1 gI (ao 1)) (aQ (.int 0)))) (sk (oG (sC (ao 4)) (cV (c2 oo (ao 3) (c2 vg (ao 2) (aQ (.int 1)))))) (cV (c2 oo (bO ja (aw (ao 0) (aw (aQ (.int 5)) bn))) (aQ (.int 0)))))) (aP (dQ (eE (aw (aQ (.str "settle")) (aw (bO ja (aw (ao 0) (aw (aQ (.int 2)) bn))) bn)))) aW) aW) (aP (b8 (aS 5) (bO ja (aw (ao 0) (aw (c1 gI (ao 1)) bn)))) (aP (b8 (aS 6) (c2 aZ (c2 aZ (ao 1) (ao 5)) (aQ (.int 0)))) (aP (b8 (aS 7) (bO ja (aw (ao 0) (aw (c1 gI (c2 aZ (ao 6) (aQ (.int 0)))) bn)))) (aP (b8 (aS 8) (eK (gh bn))) (aP (lE (MM.gw (c2 fX (aQ (.int 1)) (i_ oD (dR 1 [7] (iV (ao 6)) (aS 0) bZ (c2 aZ (c2 aZ (ao 0) (ao 1)) (aQ (.int 1))))))) (aS 9) (aP (m9 (sC (ao 4)) (aP (kq (eM (ao 8) (c2 fX (c2 fX (ao 3) (aQ (.int 1))) (bO ja (aw (ao 0) (aw (c2 vg (c2 vg (ao 2) (ao 3)) (aQ (.int 1))) bn)))))) aW) (aP (kq (eM (ao 8) (bO ja (aw (ao 0) (aw (ao 2) bn))))) aW)) aW)) (aP (dQ (eE (aw (aQ (.str "do")) (aw (ao 5) (aw (ao 7) (aw (c1 tupleD (ao 8)) bn)))))) aW)))))))
@[irreducible] def jx:List D->M D:=bW 10 yf
def j8:CS:=(aP (b8 (aS 1) (eK (gh bn))) (aP (b8 (aS 2) (nI (gh (aw (aQ (.int 0)) (aw (aQ (.int 1)) (aw (aQ (.int 1)) (aw (aQ (.int 2)) (aw (aQ (.int 2)) (aw (aQ (.int 3)) (aw (aQ (.int 1)) (aw (aQ (.int 4)) bn))))))))) (bO ja (aw (ao 0) (aw (aQ (.int 8)) bn))))) (aP (lE (MM.gw (ao 2)) (aS 3) (aP (b8 (aS 4) (bO jC (aw (ao 0) (aw (nI (gh (aw (aQ (.int 4)) (aw (aQ (.int 4)) (aw (aQ (.int 3)) (aw (aQ (.int 2)) (aw (aQ (.int 2)) bn)))))) (ao 2)) bn)))) (aP (kq (eM (ao 1) (eE (aw (ao 4) (aw (bO ja (aw (ao 0) (aw (c1 gI (ao 4)) bn))) bn))))) aW))) (aP (b8 (aS 5) (eK (gh bn))) (aP (b8 (aS 6) (c2 fX (aQ (.int 2)) (c1 intD (c2 oo (bO ja (aw (ao 0) (aw (aQ (.int 3)) bn))) (aQ (.int 0)))))) (aP (b8 (aS 7) (c2 aZ (nI (gh (aw (eK (gh (aw (aQ (.int 4)) (aw (aQ (.int 4)) (aw (aQ (.int 4)) (aw (aQ (.int 4)) (aw (aQ (.int 3)) bn))))))) (aw (eK (gh (aw (aQ (.int 3)) (aw (aQ (.int 3)) (aw (aQ (.int 2)) (aw (aQ (.int 2)) (aw (aQ (.int 2)) bn))))))) bn))) (c2 vg (ao 6) (aQ (.int 2)))) (ao 2))) (aP (b8 (aS 8) (bO ja (aw (ao 0) (aw (aQ (.int 4)) bn)))) (aP (lE (MM.gw (ao 6)) (aS 3) (aP (b8 (aS 9) (c2 fX (aQ (.int 1)) (bO ja (aw (ao 0) (aw (ao 7) bn))))) (aP (b8 (aS 10) (D2 (c2 By (ao 8) (aQ (.int 2))) (ve (c2 oo (ao 8) (aQ (.int 2))) (c2 vQ (ao 3) (aQ (.int 0)))))) (aP (b8 (aS 11) (i_ lU (dR 1 [0,1,9,10] (MM.gw (ao 9)) (aS 0) bZ (bO jx (aw (ao 1) (aw (ao 2) (aw (ao 3) (aw (ao 0) (aw (ao 4) bn))))))))) (aP (b8 (aS 12) (eE (aw (aQ (.int 0)) (aw (bO ja (aw (ao 0) (aw (ao 9) bn))) bn)))) (aP (m9 (cV (c2 oo (bO ja (aw (ao 0) (aw (aQ (.int 2)) bn))) (aQ (.int 1)))) (aP (b8 (aS 12) (eE (aw (bO ja (aw (ao 0) (aw (ao 9) bn))) (aw (bO ja (aw (ao 0) (aw (ao 9) bn))) bn)))) aW) aW) (aP (kq (eM (ao 5) (eE (aw (ao 12) (aw (ao 11) bn))))) aW))))))) (aP (m9 (cV (c2 oo (bO ja (aw (ao 0) (aw (aQ (.int 4)) bn))) (aQ (.int 0)))) (aP (b8 (kW (ao 5) (c1 s_ (aQ (.int 1)))) (c2 aZ (ao 5) (aQ (.int 0)))) aW) aW) (aP (dQ (eE (aw (c1 tupleD (ao 1)) (aw (c1 tupleD (ao 5)) bn)))) aW))))))))))
@[irreducible] def jB:List D->M D:=bW 13 j8
def jZ:CS:=(aP (b8 (aS 1) (eK (gh (aw (eE bn) bn)))) (aP (lE (iV (c2 aZ (ao 0) (aQ (.int 1)))) (aS 2) (aP (b8 (aS 1) (c2 fX (eK (dR 1 [] (iV (ao 1)) (aS 0) bZ (c2 fX (ao 0) (eE (aw (aQ (.int 0)) bn))))) (eK (dR 1 [] (iV (ao 1)) (aS 0) bZ (c2 fX (ao 0) (eE (aw (aQ (.int 1)) bn))))))) aW)) (aP (dQ (c1 pP (ao 1))) aW)))
@[irreducible] def jv:List D->M D:=bW 3 jZ
def yr:CS:=(aP (dQ (c2 aZ (c2 aZ (c2 aZ (c2 aZ (ao 0) (aQ (.int 1))) (ao 2)) (aQ (.int 1))) (c2 aZ (c2 aZ (ao 1) (aQ (.int 0))) (ao 2)))) aW)
@[irreducible] def jS:List D->M D:=bW 3 yr
def jY:CS:=(aP (b8 (aS 2) (so true)) (aP (lE (iV (ao 1)) (gq 2 (cC (aS 3) (cC (aS 4) gD))) (aP (b8 (aS 5) (eE (aw (c2 aZ (bO jS (aw (ao 0) (aw (ao 3) (aw (ao 4) bn)))) (aQ (.int 1))) (aw (ao 4) bn)))) (aP (b8 (kW (ao 2) (ao 5)) (c2 fX (zt (ao 2) (ao 5) (aQ (.int 0))) (aQ (.int 1)))) aW))) (aP (dQ (ao 2)) aW)))
@[irreducible] def jt:List D->M D:=bW 6 jY
def yd:CS:=(aP (b8 (aS 3) (bO je (aw (ao 0) (aw (ao 1) (aw (ao 2) bn))))) (aP (m9 (cV (c2 oo (c2 aZ (ao 3) (aQ (.int 0))) (aQ (.str "settle")))) (aP (dQ (ao 1)) aW) aW) (aP (b8 (aS 4) (c2 aZ (ao 3) (aQ (.int 1)))) (aP (b8 (aS 5) (c2 aZ (ao 3) (aQ (.int 2)))) (aP (b8 (aS 6) (c2 aZ (c2 aZ (c2 aZ (ao 0) (aQ (.int 0))) (ao 4)) (aQ (.int 0)))) (aP (b8 (aS 7) (c2 aZ (c2 aZ (ao 1) (aQ (.int 1))) (ao 4))) (aP (b8 (aS 8) (c2 aZ (c2 aZ (ao 3) (aQ (.int 3))) (bO jJ (aw (ao 6) (aw (ao 7) (aw (ao 5) bn)))))) (aP (dQ (eE (aw (bO jl (aw (c2 aZ (ao 1) (aQ (.int 0))) (aw (ao 2) (aw (ao 8) bn)))) (aw (bO jl (aw (c2 aZ (ao 1) (aQ (.int 1))) (aw (ao 4) (aw (bO jo (aw (ao 6) (aw (ao 7) (aw (ao 5) bn)))) bn)))) bn)))) aW))))))))
@[irreducible] def jb:List D->M D:=bW 9 yd
def yv:CS:=(aP (b8 (aS 3) (eK (gh (aw (ao 1) bn)))) (aP (lE (iV (ao 2)) (aS 4) (aP (kq (eM (ao 3) (bO jb (aw (ao 0) (aw (c2 aZ (ao 3) (c1 s_ (aQ (.int 1)))) (aw (ao 4) bn)))))) aW)) (aP (dQ (ao 3)) aW)))
@[irreducible] def yo:List D->M D:=bW 5 yv
def yn:CS:=(aP (dQ (i_ lU (dR 1 [0,1] (MM.gw (c1 gI (c2 aZ (ao 0) (aQ (.int 1))))) (aS 0) bZ (bO jj (aw (bO je (aw (ao 1) (aw (ao 2) (aw (ao 0) bn)))) bn))))) aW)
@[irreducible] def jG:List D->M D:=bW 2 yn
def yu:CS:=(aP (dQ (eK (dR 2 [] (vn (bO jG (aw (ao 0) (aw (ao 1) bn)))) (gq 2 (cC (aS 0) (cC (aS 1) gD))) (cV (c2 tj (ao 1) (aQ .non))) (ao 0)))) aW)
@[irreducible] def jy:List D->M D:=bW 2 yu
def j0:CS:=(aP (b8 (aS 4) (eK (gh bn))) (aP (lE (iV (bO jy (aw (ao 0) (aw (ao 1) bn)))) (aS 5) (aP (b8 (aS 6) (bO jb (aw (ao 0) (aw (ao 1) (aw (ao 5) bn))))) (aP (m9 (cV (c2 r_ (ao 6) (ao 3))) (aP (b8 (kW (ao 3) (ao 6)) (c1 gI (ao 2))) (aP (kq (eM (ao 2) (ao 6))) aW)) aW) (aP (kq (eM (ao 4) (eE (aw (ao 5) (aw (c2 aZ (ao 3) (ao 6)) bn))))) aW)))) (aP (dQ (ao 4)) aW)))
@[irreducible] def jz:List D->M D:=bW 7 j0
def jQ:CS:=(aP (b8 (aS 3) (sf (ao 1) (aQ .non))) (aP (b8 (aS 4) (eK (gh (aw (ao 1) bn)))) (aP (b8 (aS 5) (aQ (.int 0))) (aP (lj (cV (c2 By (ao 5) (c1 gI (ao 4)))) (aP (b8 (aS 6) (c2 aZ (ao 4) (ao 5))) (aP (lE (iV (c2 aZ (ao 0) (ao 6))) (gq 2 (cC (aS 7) (cC (aS 8) gD))) (aP (m9 (sC (c2 aZ (ao 2) (ao 8))) (aP (dQ (c2 fX (bO jH (aw (ao 3) (aw (ao 6) bn))) (eE (aw (ao 7) bn)))) aW) aW) (aP (m9 (cV (c2 r_ (ao 8) (ao 3))) (aP (b8 (kW (ao 3) (ao 8)) (eE (aw (ao 6) (aw (ao 7) bn)))) (aP (kq (eM (ao 4) (ao 8))) aW)) aW) aW))) (aP (b8 (aS 5) (c2 u4 (ao 5) (aQ (.int 1)))) aW)))) (aP (dQ (aQ .non)) aW)))))
@[irreducible] def jp:List D->M D:=bW 9 jQ
def jR:CS:=(aP (b8 (aS 1) (eK (gh bn))) (aP (b8 (aS 2) (eK (dR 1 [] (iV (ao 0)) (aS 0) bZ (aQ (.bl false))))) (aP (lE (MM.gw (c1 gI (ao 0))) (aS 3) (aP (m9 (sH (sC (c2 aZ (ao 2) (ao 3)))) (aP (kq (bO jr (aw (ao 0) (aw (ao 3) (aw (ao 2) (aw (ao 1) bn)))))) aW) aW) aW)) (aP (dQ (ao 1)) aW))))
@[irreducible] def jh:List D->M D:=bW 4 jR
def jO:CS:=(aP (b8 (aS 1) (bO jh (aw (ao 0) bn))) (aP (b8 (aS 2) (eK (dR 1 [] (iV (ao 0)) (aS 0) bZ (aQ (.bl false))))) (aP (lE (iV (ao 1)) (aS 3) (aP (m9 (sH (sC (i_ xz (dR 2 [2] (iV (c2 aZ (ao 0) (ao 3))) (gq 2 (cC (aS 0) (cC (aS 1) gD))) bZ (c2 aZ (ao 2) (ao 1)))))) (aP (dQ (aQ .non)) aW) aW) (aP (b8 (kW (ao 2) (ao 3)) (aQ (.bl true))) aW))) (aP (dQ (ao 1)) aW))))
@[irreducible] def jc:List D->M D:=bW 4 jO
def j6:CS:=(aP (b8 (aS 1) (bO jK (aw (ao 0) bn))) (aP (b8 (aS 2) (eK (dR 1 [] (iV (ao 0)) (aS 0) bZ (aQ .non)))) (aP (lE (zp (bO jh (aw (ao 0) bn))) (aS 3) (aP (kq (bO jD (aw (ao 1) (aw (ao 3) (aw (ao 2) (aw (ao 3) bn)))))) aW)) (aP (dQ (eK (dR 2 [2] (qx (ao 0)) (gq 2 (cC (aS 0) (cC (aS 1) gD))) bZ (i_ xA (dR 2 [0,2] (iV (ao 1)) (gq 2 (cC (aS 0) (cC (aS 1) gD))) bZ (c2 oo (c2 aZ (ao 3) (ao 1)) (c2 aZ (ao 3) (ao 2)))))))) aW))))
@[irreducible] def jF:List D->M D:=bW 4 j6
def jM:CS:=(aP (b8 (aS 1) (c2 aZ (ao 0) (aQ (.int 1)))) (aP (b8 (aS 2) (bO jc (aw (ao 1) bn))) (aP (m9 (cV (c2 tj (ao 2) (aQ .non))) (aP (dQ (aQ .non)) aW) aW) (aP (dQ (c2 rX (c2 aZ (ao 0) (aQ (.int 0))) (bO jd (aw (ao 1) (aw (ao 2) (aw (vV 1 "graph_numbers" mM) bn)))))) aW))))
@[irreducible] def jg:List D->M D:=bW 3 jM
def jW:CS:=(aP (b8 (aS 1) (bO jF (aw (ao 0) bn))) (aP (m9 (cV (c2 r_ (aQ (.bl true)) (ao 1))) (aP (dQ (aQ .non)) aW) aW) (aP (b8 (aS 2) (oP (ao 1) (aQ (.bl true)))) (aP (dQ (eE (aw (ao 2) (aw (bO jp (aw (ao 0) (aw (ao 2) (aw (eK (dR 1 [2] (MM.gw (c1 gI (ao 0))) (aS 0) bZ (c2 oo (ao 0) (ao 1)))) bn)))) bn)))) aW))))
@[irreducible] def jq:List D->M D:=bW 3 jW
def jV:CS:=(aP (b8 (aS 3) (bO jc (aw (c2 aZ (ao 1) (aQ (.int 1))) bn))) (aP (m9 (cV (c2 tj (ao 3) (aQ .non))) (aP (dQ (aQ .non)) aW) aW) (aP (dQ (i_ lU (dR 1 [0,1,2,3] (MM.gw (c1 gI (c2 aZ (ao 0) (aQ (.int 1))))) (aS 0) bZ (bO jm (aw (ao 1) (aw (ao 2) (aw (ao 4) (aw (ao 0) (aw (ao 3) bn))))))))) aW)))
@[irreducible] def js:List D->M D:=bW 4 jV
def j1:CS:=(aP (b8 (aS 4) (eK (gh bn))) (aP (lj (oG (cV (c2 vQ (c1 gI (bO jy (aw (ao 0) (aw (ao 2) bn)))) (aQ (.int 0)))) (cV (c2 By (c1 gI (ao 4)) (aQ (.int 400))))) (aP (b8 (aS 5) (bO jy (aw (ao 0) (aw (ao 2) bn)))) (aP (b8 (aS 6) (c2 aZ (ao 5) (aQ (.int 0)))) (aP (m9 (cV (c2 vQ (c1 gI (ao 3)) (aQ (.int 0)))) (aP (b8 (aS 6) (c2 aZ (ao 5) (c2 o0 (c2 aZ (ao 3) (c2 o0 (c1 gI (ao 4)) (c1 gI (ao 3)))) (c1 gI (ao 5))))) aW) (aP (lE (iV (ao 5)) (aS 7) (aP (m9 (cV (c2 vQ (c2 aZ (ao 1) (bO jb (aw (ao 0) (aw (ao 2) (aw (ao 7) bn))))) (c2 aZ (ao 1) (bO jb (aw (ao 0) (aw (ao 2) (aw (ao 6) bn))))))) (aP (b8 (aS 6) (ao 7)) aW) aW) aW)) aW)) (aP (kq (eM (ao 4) (eE (aw (ao 2) (aw (ao 6) bn))))) (aP (m9 (cV (c2 C0 (c2 aZ (ao 1) (bO jb (aw (ao 0) (aw (ao 2) (aw (ao 6) bn))))) (c2 aZ (ao 1) (ao 2)))) (aP (dQ (aQ .non)) aW) aW) (aP (b8 (aS 2) (bO jb (aw (ao 0) (aw (ao 2) (aw (ao 6) bn))))) aW))))))) (aP (m9 (cV (c2 B_ (c2 aZ (ao 1) (ao 2)) (aQ (.int 0)))) (aP (dQ (aQ .non)) aW) aW) (aP (dQ (ao 4)) aW))))
@[irreducible] def jn:List D->M D:=bW 8 j1
def j3:CS:=(aP (b8 (aS 3) (so true)) (aP (lE (iV (ao 1)) (aS 4) (aP (kq (pX (ao 3) (ao 4) (c1 gI (ao 3)))) aW)) (aP (b8 (aS 5) (c1 qF (ao 3))) (aP (b8 (aS 6) (eK (gh bn))) (aP (lj (cV (c2 By (c1 gI (ao 6)) (c1 gI (ao 5)))) (aP (m9 (oG (cV (c2 ng (ao 2) (aQ .non))) (cV (c2 vQ (c1 gI (ao 5)) (ao 2)))) (aP CM aW) aW) (aP (kq (eM (ao 6) (bO jz (aw (ao 0) (aw (c2 aZ (ao 5) (c1 gI (ao 6))) (aw (ao 5) (aw (ao 3) bn))))))) aW))) (aP (dQ (eE (aw (ao 5) (aw (ao 6) bn)))) aW))))))
@[irreducible] def ju:List D->M D:=bW 7 j3
def yj:CS:=(aP (b8 (aS 2) (eK (dR 1 [0] (iV (bO jE (aw (ao 0) bn))) (aS 0) bZ (bO jA (aw (ao 1) (aw (ao 0) bn)))))) (aP (dQ (bO ju (aw (ao 0) (aw (ao 2) (aw (ao 1) bn))))) aW))
@[irreducible] def jk:List D->M D:=bW 3 yj
def j2:CS:=(aP (dQ (bO jg (aw (bO jk (aw (ao 0) (aw (ao 1) bn))) bn))) aW)
@[irreducible] def ji:List D->M D:=bW 2 j2
def yk:CS:=(aP (b8 (aS 2) (bO jk (aw (ao 0) (aw (ao 1) bn)))) (aP (b8 (aS 3) (bO jq (aw (c2 aZ (ao 2) (aQ (.int 1))) bn))) (aP (m9 (cV (c2 tj (ao 3) (aQ .non))) (aP (dQ (aQ .non)) aW) aW) (aP (dQ (eE (aw (c2 aZ (c2 aZ (ao 2) (aQ (.int 0))) (c2 aZ (ao 3) (aQ (.int 0)))) (aw (c2 aZ (ao 3) (aQ (.int 1))) bn)))) aW))))
@[irreducible] def jI:List D->M D:=bW 4 yk
def yi:CS:=(aP (dQ (bO js (aw (ao 0) (aw (bO jk (aw (ao 0) (aw (ao 2) bn))) (aw (ao 1) bn))))) aW)
@[irreducible] def jw:List D->M D:=bW 3 yi
def jL:CS:=(aP (b8 (aS 4) (bO jn (aw (ao 0) (aw (ao 1) (aw (ao 2) (aw (ao 3) bn)))))) (aP (b8 (aS 5) (bO jn (aw (ao 0) (aw (ao 1) (aw (ao 2) (aw (eK (gh bn)) bn)))))) (aP (m9 (sk (cV (c2 tj (ao 4) (aQ .non))) (sk (cV (c2 tj (ao 5) (aQ .non))) (cV (c2 B_ (c1 gI (ao 5)) (c2 aZ (ao 1) (ao 2)))))) (aP (dQ (aQ (.bl false))) aW) aW) (aP (b8 (aS 6) (eK (dR 1 [0] (MM.gw (c1 gI (c2 aZ (ao 0) (aQ (.int 0))))) (aS 0) bZ (l9 jw (aw (ao 1) (aw (ao 0) bn)) (.int 500))))) (aP (lE (iV (eE (aw (ao 4) (aw (ao 5) bn)))) (aS 7) (aP (lE (rY (bO jt (aw (ao 0) (aw (ao 7) bn)))) (gq 2 (cC (gq 2 (cC (aS 8) (cC (aS 9) gD))) (cC (aS 10) gD))) (aP (m9 (cV (c2 vQ (ao 10) (c2 aZ (c2 aZ (ao 6) (ao 8)) (ao 9)))) (aP (dQ (aQ (.bl false))) aW) aW) aW)) aW)) (aP (dQ (c2 C0 (i_ vo (dR 1 [] (iV (ao 6)) (aS 0) bZ (c1 vm (ao 0)))) (c1 gI (ao 5)))) aW))))))
@[irreducible] def jf:List D->M D:=bW 11 jL
def j7:CS:=(aP (dQ (c2 aZ (bO jk (aw (ao 0) (aw (ao 1) bn))) (aQ (.int 0)))) aW)
@[irreducible] def jP:List D->M D:=bW 2 j7
def yw:CS:=(aP (b8 (aS 1) (bO jN (aw (ao 0) (aw (aQ (.int 0)) bn)))) (aP (b8 (aS 2) (bO jB (aw (ao 1) bn))) (aP (b8 (aS 3) (bO jv (aw (ao 2) bn))) (aP (b8 (aS 4) (bO jA (aw (ao 2) (aw (c2 aZ (ao 3) (bO ja (aw (ao 1) (aw (c1 gI (ao 3)) bn)))) bn)))) (aP (b8 (aS 5) (eK (dR 1 [1] (MM.gw (c2 fX (aQ (.int 1)) (bO ja (aw (ao 1) (aw (aQ (.int 12)) bn))))) (aS 0) bZ (bO ja (aw (ao 1) (aw (aQ (.int 6)) bn)))))) (aP (b8 (aS 6) (l9 ji (aw (ao 2) bn) (.int 500))) (aP (b8 (aS 7) (l9 jI (aw (ao 2) bn) (.int 500))) (aP (m9 (cV (c2 B_ (c2 tj (ao 6) (aQ .non)) (c2 ng (ao 7) (aQ .non)))) (aP (dQ (aQ (.bl false))) aW) aW) (aP (m9 (cV (c2 ng (ao 6) (aQ .non))) (aP (dQ (ve (bO jf (aw (ao 2) (aw (ao 6) (aw (ao 4) (aw (ao 5) bn))))) (c2 xF (l9 ji (aw (ao 2) bn) (.int 500)) (ao 6)))) aW) aW) (aP (m9 (cV (pC yA (aQ (.bl false)) (dR 1 [2] (MM.gw (c1 gI (c2 aZ (ao 2) (aQ (.int 0))))) (aS 0) bZ (c2 tj (l9 jw (aw (ao 1) (aw (ao 0) bn)) (.int 500)) (aQ .non))))) (aP (dQ (aQ (.bl false))) aW) aW) (aP (b8 (gq 2 (cC (aS 8) (cC (aS 9) gD))) (ao 7)) (aP (m9 (sk (cV (c2 wE (ao 8) (l9 jP (aw (ao 2) bn) (.int 500)))) (cV (c2 oo (c1 gI (ao 9)) (aQ (.int 0))))) (aP (dQ (aQ (.bl false))) aW) aW) (aP (b8 (aS 10) (bO yo (aw (ao 2) (aw (ao 8) (aw (ao 9) bn))))) (aP (m9 (cV (pC yA (aQ (.bl false)) (dR 2 [2] (u7 (ao 10) (ao 9)) (gq 2 (cC (aS 0) (cC (aS 1) gD))) bZ (c2 D8 (ao 1) (bO jy (aw (ao 2) (aw (ao 0) bn))))))) (aP (dQ (aQ (.bl false))) aW) aW) (aP (dQ (ve (c2 oo (c2 aZ (ao 10) (c1 s_ (aQ (.int 1)))) (ao 8)) (c2 tj (l9 ji (aw (ao 2) bn) (.int 500)) (aQ .non)))) aW)))))))))))))))
@[irreducible] def j5:List D->M D:=bW 11 yw
open PySem.Spec PyProof.Rows L2
set_option genInjectivity false in
structure Txt(K:ai)(mg:Str->Option ah):Prop where
 f0:FnAt K mg "next_state" (top 4)
 f1:FnAt K mg "answer" (top 5)
 f2:FnAt K mg "inputs_of" (top 7)
 f3:FnAt K mg "begin" (top 9)
 f4:FnAt K mg "line_at" (top 10)
 f5:FnAt K mg "replaced" (top 12)
 f6:FnAt K mg "value_at" (top 15)
 f7:FnAt K mg "turns_to" (top 24)
 f8:FnAt K mg "finish_from" (top 26)
 f9:FnAt K mg "turned" (top 28)
 f10:FnAt K mg "mark_from" (top 29)
 f11:FnAt K mg "most_from" (top 34)
 f12:uW K mg "most_deeds" (top 39)
 f13:FnAt K mg "_law_pot" (top 41)
 f14:FnAt K mg "_law_draw" (top 42)
 f15:FnAt K mg "_law_table" (top 43)
 f16:FnAt K mg "_law_line" (top 44)
 f17:FnAt K mg "_law_house" (top 45)
 f18:FnAt K mg "_law_inputs" (top 46)
 f19:FnAt K mg "_law_at" (top 48)
 f20:FnAt K mg "_law_counts" (top 51)
 f21:FnAt K mg "behind" (top 11)
 f22:FnAt K mg "run" (top 13)
 f23:FnAt K mg "settled" (top 14)
 f24:FnAt K mg "free" (top 16)
 f25:FnAt K mg "steps_from" (top 21)
 f26:FnAt K mg "least_way_on" (top 23)
 f27:FnAt K mg "finish_order" (top 25)
 f28:FnAt K mg "falling_order" (top 27)
 f29:FnAt K mg "on_rounds" (top 30)
 f30:uW K mg "graph_numbers" (top 33)
 f31:FnAt K mg "first_round" (top 36)
 f32:FnAt K mg "graph_deeds" (top 38)
 f33:FnAt K mg "_law_walked" (top 52)
 f34:FnAt K mg "graph_from" (top 20)
 f35:FnAt K mg "graph_of" (top 19)
 f36:sE K mg "numbers_of" (top 32)
 f37:sE K mg "round_of" (top 35)
 f38:sE K mg "deeds_at" (top 37)
 f39:FnAt K mg "_law_good_right" (top 53)
 f40:sE K mg "stands_of" (top 18)
 f41:FnAt K mg "law" (top 54)
 z:vT mg ["all","any","dict","enumerate","int","len","list","max","min","range","reversed","sorted","sum","tuple","zip"]
 c:xD K mg []
section
variable{K:ai}
def RQ:uc:=CW
def Oc:uc:=BF 3 .NotIn wE (λh=>XN h)
def PM:uc:=BF 27 .Eq xF (λh=>Zi h)
def QM:uc:=sX .Lt By (λ_=>R7)
def Ps:uc:=sX .Gt vQ (λ_=>Sa)
def N_:uc:=sX .GtE C0 (λ_=>WI)
def RW:uc:=sX .Eq oo (λh=>Tw h)
def QN:uc:=sX .NotEq B_ (λh=>QfL h)
def O5:uc:=sX .Is tj (λ_=>VQ)
def QW:uc:=sX .IsNot ng (λ_=>Yc)
def EZ:uc:=sX .In D8 (λh=>X5 h)
def HD:uc:=sX .NotIn r_ (λh=>Vf h)
def RR:mO:=⟨[LP,KS,HX,Ci,AA,MM.Hb,J7,H_,Dc,Le,Dy,GG,HJ,FK,HK,C7,AV,AU,Gi,Aq,Hf,G3,Mg,KH,DD,F7,AE,KQ,MN,AT,AZ,Gs,Eg .Add fX (λ_=>Yz),Eg .Sub vg (λ_=>Qeg),Eg .Mult tf (λ_=>Tb),Eg .FloorDiv tX (λ_=>Vg),Eg .Mod o0 (λ_=>Uy),Eg .Pow yY (λ_=>YA),RQ.e,Oc.e,PM.e,QM.e,Ps.e,N_.e,RW.e,QN.e,O5.e,QW.e,EZ.e,HD.e,Nl,JZ,Mp,HB,B8],[Nm,FZ,EW,CV],[RQ.t,Oc.t,PM.t,QM.t,Ps.t,N_.t,RW.t,QN.t,O5.t,QW.t,EZ.t,HD.t,DG,Ck,Vd],[AO,A2,AM,Dj,Cw,DH true,Bc,FX,EM,G7],[Wl,G8,Gp],[LB,FN,MU,E5,FV,A4,Dx,AL,Hc,Dt,Ce,Hr,Fg]⟩
noncomputable abbrev hh:List (Nat×Nat×Nat):=[(25,53,7),(40,11,1),(40,41,1),(59,14,2),(62,13,5),(134,22,16),(154,89,16),(179,12,20),(289,19,2),(334,90,27),(338,7,3),(341,89,28)]
noncomputable def Qz:List (Str×RF):=[]
def Y0(T:Txt K mg)(c:BMod base mg):cR P w K mg base Qz:=Z6
def Qs:List (Str×RF):=qE "next_state" (top 4) 3 0 jo Qz
def Wa(T:Txt K mg)(c:BMod base mg):cR P w K mg base Qs:=pv RR hh 3 T.f0 (Y0 T c) T.z T.c
def OH:List (Str×RF):=qE "answer" (top 5) 3 0 jJ Qs
def Vp(T:Txt K mg)(c:BMod base mg):cR P w K mg base OH:=pv RR hh 3 T.f1 (Wa T c) T.z T.c
def Rq:List (Str×RF):=qE "inputs_of" (top 7) 1 0 jE OH
def Yj(T:Txt K mg)(c:BMod base mg):cR P w K mg base Rq:=pv RR hh 1 T.f2 (Vp T c) T.z T.c
def QP:List (Str×RF):=qE "begin" (top 9) 2 0 jA Rq
def TW(T:Txt K mg)(c:BMod base mg):cR P w K mg base QP:=pv RR hh 2 T.f3 (Yj T c) T.z T.c
def N6:List (Str×RF):=qE "line_at" (top 10) 3 0 je QP
def Wf(T:Txt K mg)(c:BMod base mg):cR P w K mg base N6:=pv RR hh 3 T.f4 (TW T c) T.z T.c
def Qm:List (Str×RF):=qE "replaced" (top 12) 3 0 jl N6
def TX(T:Txt K mg)(c:BMod base mg):cR P w K mg base Qm:=pv RR hh 3 T.f5 (Wf T c) T.z T.c
def QV:List (Str×RF):=qE "value_at" (top 15) 1 0 jj Qm
def Xi(T:Txt K mg)(c:BMod base mg):cR P w K mg base QV:=pv RR hh 1 T.f6 (TX T c) T.z T.c
def OC:List (Str×RF):=qE "turns_to" (top 24) 2 0 jH QV
def S9(T:Txt K mg)(c:BMod base mg):cR P w K mg base OC:=pv RR hh 2 T.f7 (Xi T c) T.z T.c
def Q8:List (Str×RF):=qE "finish_from" (top 26) 4 0 jr OC
def W5(T:Txt K mg)(c:BMod base mg):cR P w K mg base Q8:=pv RR hh 4 T.f8 (S9 T c) T.z T.c
def Cp:List (Str×RF):=("turned",⟨1,1,["steps"],false,jK⟩)::Q8
def L4(T:Txt K mg)(c:BMod base mg):cR P w K mg base Cp:=by unfold Cp jK;exact IQ RR (r:=["back","here","ways","hand","there"]) (H:=hh) T.f9 (by nofun) (λ_ _ _ _ _ _=>Em λ_=>rfl) nofun (by kernel_rfl) (W5 T c) T.z T.c
def HN:List (Str×RF):=qE "mark_from" (top 29) 4 0 jD Cp
def Do(T:Txt K mg)(c:BMod base mg):cR P w K mg base HN:=pv RR hh 4 T.f10 (L4 T c) T.z T.c
def Uz(T:Txt K mg)(c:BMod base mg):sJ P w K mg base 1 2 mM vx:=by unfold vx;exact Te RR (r:=[]) (nm:=["here","hand"]) (k:=0) (H:=hh) (by kernel_rfl) (by kernel_rfl) (λ_ _ _ _=>CJ λ_ _=>by kernel_rfl) (by kernel_rfl) (Do T c) T.z T.c Gz
def Wd(T:Txt K mg)(c:BMod base mg):sx P w K mg base 2 2 (.dfn oF) qS:=by unfold qS;exact Td RR (r:=[]) (nm:=["here","mover"]) (fr:=["house","hand","graph","board"]) (k:=1) (H:=hh) (by kernel_rfl) (by kernel_rfl) (by kernel_rfl) (λ_ _ _ _ _ _=>CJ λ_ _=>by kernel_rfl) (by kernel_rfl) (Do T c) T.z T.c Gz
def J8(T:Txt K mg)(c:BMod base mg):yN P w K mg base pV:=(SH (Uz T c) (Ww (Wd T c) Gz))
def B5:List (Str×RF):=("most_from",⟨3,3,["steps","order","worth"],false,jd⟩)::HN
def KA(T:Txt K mg)(c:BMod base mg):cR P w K mg base B5:=by unfold B5 jd;exact Sv RR (r:=["told","here"]) (W:=pV) (H:=hh) T.f11 (by nofun) (λ_ _ _ _ _ _=>Iv λ_ _ _=>rfl) (by kernel_rfl) (Do T c) T.z T.c (J8 T c)
def Cb:List (Str×RF):=("most_deeds",⟨5,4,["house","graph","order","hand","board"],false,jm⟩)::B5
def Km(T:Txt K mg)(c:BMod base mg):cR P w K mg base Cb:=by unfold Cb jm;exact Uo RR (r:=["worth"]) (j:=0) (H:=hh) T.f12 (by nofun) (λ_ _ _ _ _ _=>RI λ_ _ _ _ _=>rfl) (by kernel_rfl) (KA T c) T.z T.c c
def HA:List (Str×RF):=qE "_law_pot" (top 41) 2 0 jN Cb
def Kf(T:Txt K mg)(c:BMod base mg):cR P w K mg base HA:=pv RR hh 2 T.f13 (Km T c) T.z T.c
def GI:List (Str×RF):=qE "_law_draw" (top 42) 2 0 ja HA
def Nq(T:Txt K mg)(c:BMod base mg):cR P w K mg base GI:=pv RR hh 2 T.f14 (Kf T c) T.z T.c
def E2:List (Str×RF):=qE "_law_table" (top 43) 2 1 jC GI
def Lk(T:Txt K mg)(c:BMod base mg):cR P w K mg base E2:=pv RR hh 2 T.f15 (Nq T c) T.z T.c
def GJ:List (Str×RF):=qE "_law_line" (top 44) 5 1 jx E2
def Ng(T:Txt K mg)(c:BMod base mg):cR P w K mg base GJ:=pv RR hh 5 T.f16 (Lk T c) T.z T.c
def E9:List (Str×RF):=qE "_law_house" (top 45) 1 2 jB GJ
def Lu(T:Txt K mg)(c:BMod base mg):cR P w K mg base E9:=pv RR hh 1 T.f17 (Ng T c) T.z T.c
def FT:List (Str×RF):=qE "_law_inputs" (top 46) 1 0 jv E9
def Mj(T:Txt K mg)(c:BMod base mg):cR P w K mg base FT:=pv RR hh 1 T.f18 (Lu T c) T.z T.c
def Gj:List (Str×RF):=qE "_law_at" (top 48) 3 0 jS FT
def Mw(T:Txt K mg)(c:BMod base mg):cR P w K mg base Gj:=pv RR hh 3 T.f19 (Mj T c) T.z T.c
def F8:List (Str×RF):=qE "_law_counts" (top 51) 2 1 jt Gj
def Ky(T:Txt K mg)(c:BMod base mg):cR P w K mg base F8:=pv RR hh 2 T.f20 (Mw T c) T.z T.c
def E6:List (Str×RF):=qE "behind" (top 11) 3 1 jb F8
def MV(T:Txt K mg)(c:BMod base mg):cR P w K mg base E6:=pv RR hh 3 T.f21 (Ky T c) T.z T.c
def E_:List (Str×RF):=qE "run" (top 13) 3 2 yo E6
def LA(T:Txt K mg)(c:BMod base mg):cR P w K mg base E_:=pv RR hh 3 T.f22 (MV T c) T.z T.c
def GQ:List (Str×RF):=qE "settled" (top 14) 2 1 jG E_
def Kr(T:Txt K mg)(c:BMod base mg):cR P w K mg base GQ:=pv RR hh 2 T.f23 (LA T c) T.z T.c
def F_:List (Str×RF):=qE "free" (top 16) 2 2 jy GQ
def Ke(T:Txt K mg)(c:BMod base mg):cR P w K mg base F_:=pv RR hh 2 T.f24 (Kr T c) T.z T.c
def FM:List (Str×RF):=qE "steps_from" (top 21) 4 3 jz F_
def Lz(T:Txt K mg)(c:BMod base mg):cR P w K mg base FM:=pv RR hh 4 T.f25 (Ke T c) T.z T.c
def Gr:List (Str×RF):=qE "least_way_on" (top 23) 3 1 jp FM
def LY(T:Txt K mg)(c:BMod base mg):cR P w K mg base Gr:=pv RR hh 3 T.f26 (Lz T c) T.z T.c
def FS:List (Str×RF):=qE "finish_order" (top 25) 1 1 jh Gr
def ME(T:Txt K mg)(c:BMod base mg):cR P w K mg base FS:=pv RR hh 1 T.f27 (LY T c) T.z T.c
def C6:List (Str×RF):=("falling_order",⟨1,3,["steps"],false,jc⟩)::FS
def LC(T:Txt K mg)(c:BMod base mg):cR P w K mg base C6:=by unfold C6 jc;exact IQ RR (r:=["order","ended","here"]) (H:=hh) T.f28 (by nofun) (λ_ _ _ _ _ _=>Em λ_=>rfl) nofun (by kernel_rfl) (ME T c) T.z T.c
def FW:List (Str×RF):=qE "on_rounds" (top 30) 1 2 jF C6
def MK(T:Txt K mg)(c:BMod base mg):cR P w K mg base FW:=pv RR hh 1 T.f29 (LC T c) T.z T.c
def Cs:List (Str×RF):=("graph_numbers",⟨1,4,["graph"],false,jg⟩)::FW
def JP(T:Txt K mg)(c:BMod base mg):cR P w K mg base Cs:=by unfold Cs jg;exact ZG RR (r:=["steps","order"]) (j:=1) (H:=hh) T.f30 (by nofun) (λ_ _ _ _ _ _=>Em λ_=>rfl) (by kernel_rfl) (MK T c) T.z T.c c
def Gb:List (Str×RF):=qE "first_round" (top 36) 1 3 jq Cs
def Kv(T:Txt K mg)(c:BMod base mg):cR P w K mg base Gb:=pv RR hh 1 T.f31 (JP T c) T.z T.c
def Ht:List (Str×RF):=qE "graph_deeds" (top 38) 3 4 js Gb
def Lh(T:Txt K mg)(c:BMod base mg):cR P w K mg base Ht:=pv RR hh 3 T.f32 (Kv T c) T.z T.c
def Hw:List (Str×RF):=qE "_law_walked" (top 52) 4 3 jn Ht
def Lq(T:Txt K mg)(c:BMod base mg):cR P w K mg base Hw:=pv RR hh 4 T.f33 (Lh T c) T.z T.c
def HW:List (Str×RF):=qE "graph_from" (top 20) 3 4 ju Hw
def JH(T:Txt K mg)(c:BMod base mg):cR P w K mg base HW:=pv RR hh 3 T.f34 (Lq T c) T.z T.c
def GV:List (Str×RF):=qE "graph_of" (top 19) 2 5 jk HW
def Np(T:Txt K mg)(c:BMod base mg):cR P w K mg base GV:=pv RR hh 2 T.f35 (JH T c) T.z T.c
def Ha:List (Str×RF):=qD "numbers_of" (top 32) 2 6 ji GV
def M4(T:Txt K mg)(c:BMod base mg):cR P w K mg base Ha:=IH RR hh 2 T.f36 (Np T c) T.z T.c
def FA:List (Str×RF):=qD "round_of" (top 35) 2 6 jI Ha
def Nh(T:Txt K mg)(c:BMod base mg):cR P w K mg base FA:=IH RR hh 2 T.f37 (M4 T c) T.z T.c
def Hj:List (Str×RF):=qD "deeds_at" (top 37) 3 6 jw FA
def KZ(T:Txt K mg)(c:BMod base mg):cR P w K mg base Hj:=IH RR hh 3 T.f38 (Nh T c) T.z T.c
def CU:List (Str×RF):=("_law_good_right",⟨4,8,["_law_house_here","_law_numbers","_law_stand","_law_picks"],false,jf⟩)::Hj
def LQ(T:Txt K mg)(c:BMod base mg):cR P w K mg base CU:=by unfold CU jf;exact IQ RR (r:=["_law_drawn","_law_longest","_law_told_so","_law_row","_law_board","_law_hand","_law_many"]) (H:=hh) T.f39 (by nofun) (λ_ _ _ _ _ _=>Ad λ_ _ _ _=>rfl) nofun (by kernel_rfl) (KZ T c) T.z T.c
def Lc:List (Str×RF):=qD "stands_of" (top 18) 2 6 jP CU
def Mv(T:Txt K mg)(c:BMod base mg):cR P w K mg base Lc:=IH RR hh 2 T.f40 (LQ T c) T.z T.c
def yx(F:zC K "law" "law" (top 54) a c)(T:Txt K mg)(g:BMod base mg):mX P w K mg base rm 9 a c ["_law_script"] (nh K 1 j5):=MP RR hh F (Mv T g) T.z T.c
end
end My
namespace My
open MM
open PySem (Str)
def lG{s:aV}{n:Nat}(h:s[n]?=some o):n < s.length:=(ae.mp h).1
structure d7(s:aV)(p q:Nat):Prop where
 ne:p≠q
 ex:∃(x c:Int)(cs:List D),s[p]?=some (.lst [.int x,.int c,.ref q])/\s[q]?=some (.lst cs)/\0<=x/\x < 2147483648/\∀d∈cs,∃i:Int,d=.int i
structure Kept(p q:Nat)(s s':aV):Prop where
 le:s.length<=s'.length
 at_:∀n,n < s.length->n≠p->n≠q->s'[n]?=s[n]?
section
variable{p q:Nat}{s s1 s2:aV}{Q:D->aV->Prop}
def Kept.refl:Kept p q s s:=⟨ay _,λ_ _ _ _=>rfl⟩
theorem Kept.trans(h:Kept p q s s1)(k:Kept p q s1 s2):Kept p q s s2:=⟨c5 h.le k.le,λn l g c=>(k.at_ n (bh l h.le) g c).trans (h.at_ n l g c)⟩
def Kept.same{n:Nat}(h:Kept p q s s1)(l:n≠p)(c:n≠q)(g:s[n]?=some o):s1[n]?=some o:=(h.at_ n (lG g) l c).trans g
def Kept.snoc(h:Kept p q s s1):Kept p q s (s1++[o]):=h.trans ⟨by simp,λn c _ _=>av c⟩
def Kept.put{n:Nat}(h:Kept p q s s1)(u:s.length<=n):Kept p q s (s1.set n o):=
 ⟨by simp;exact h.le,λm l g c=>by rw[aA ()];exact h.at_ m l g c⟩
def d7.lt(h:d7 s p q):p < s.length/\q < s.length:=by let⟨x,c,g,a,b,_⟩:=h.ex;exact⟨lG a,lG b⟩
def d7.snoc(h:d7 s p q):d7 (s++[o]) p q:=by let⟨x,c,g,a,b,r⟩:=h.ex;exact⟨h.ne,x,c,g,by rw[av (lG a)];exact a,by rw[av (lG b)];exact b,r⟩
def d7.put{n:Nat}(h:d7 s p q)(l:n≠p)(g:n≠q):d7 (s.set n o) p q:=by let⟨x,c,u,a,b,r⟩:=h.ex;exact⟨h.ne,x,c,u,by rw[aA l];exact a,by rw[aA g];exact b,r⟩
noncomputable def EL(s:aV)(p q:Nat)(x c:Int)(g:List D):Prop:=s[p]?=some (.lst [.int x,.int c,.ref q])/\s[q]?=some (.lst g)
def rB{k:Int}(hp:d7 s p q)(O:0 < k)(hk2:k < 1073741824)(h:∀r u,0<=r->r < k->d7 u p q->Kept p q s u->Q (.int r) u):wp (ja [.ref p,.int k]) Q s:=by
 let⟨x,c,g,I,J,hx0,hx1,C⟩:=hp.ex;let G:=hp.ne;let i3:MM.oz [D.int x,D.int c,D.ref q].length 1=some 1:=rfl
 (simp![ja];simp![ye])
 refine Dv (λl u=>l=[some (.ref p),some (.int k),none,none]/\∃c g,EL u p q x c g/\(∀d∈g,∃i:Int,d=.int i)/\Kept p q s u)
  (λl u=>match u[q]? with
   |some (.lst g)=>g.length
   |_=>0) ⟨rfl,c,g,⟨I,J⟩,C,Kept.refl⟩ (λRw l u up rt hW=>?_)
 let⟨el,c,g,⟨I,J⟩,C,H⟩:=hW;subst el;simp![↓eV I,↓eV J];by_cases hc:c=0/\0 < g.length
 ·let⟨c,U⟩:=hc;subst c;let O:decide ((0:Int) < (g.length:Nat))=true:=bY ();rw[aJ rfl,aJ ()];obtain⟨d,hd⟩:∃d,g.getLast?=some d:=⟨_,List.getLast?_eq_some_getLast (by intro e;rw[e]at U;simp at U)⟩
  let⟨i,o⟩:=C d (List.mem_of_getLast? hd);subst o;let h:(u.set q (.lst g.dropLast))[p]?=some (.lst [.int x,.int 0,.ref q]):=by rw[aA (fI G)];exact I
  let L:(u.set q (.lst g.dropLast))[q]?=some (.lst g.dropLast):=aE (lG J);let i3:MM.oz 3 1=some 1:=rfl;simp![↓eV I,↓eV J,hd,↓oC J,↓ue,↓eV h,i3,↓oC h];let B:((u.set q (.lst g.dropLast)).set p (.lst [.int x,.int i,.ref q]))[p]?=some (.lst [.int x,.int i,.ref q]):=aE (lG h);let l:((u.set q (.lst g.dropLast)).set p (.lst [.int x,.int i,.ref q]))[q]?=some (.lst g.dropLast):=by rw[aA G];exact L
  refine up ⟨rfl,i,g.dropLast,⟨B,l⟩,λd hd=>C d (List.dropLast_subset _ hd),⟨by simp;exact H.le,λn hn v E=>?_⟩⟩ ?_
  ·rw[aA (fI v),aA (fI E)];exact H.at_ n hn v E
  ·rw[l,J];simp only[wS];ext
 ·let fin : ∀(A B : Prop), (if c = 0 then (if 0 < (g.length : Int) then A else B) else B) = B := λA B => by
    by_cases Y:c=0
    ·rw[aJ Y,az ()]
    ·rw[az Y]
  rw[fin];let i3:MM.oz 3 1=some 1:=rfl;let i4:MM.oz 3 0=some 0:=rfl;let kp:∀o,Kept p q s (u.set p o):=λo=>⟨by simp;exact H.le,λn hn v E=>by rw[aA (fI v)];exact H.at_ n hn v E⟩
  let pt:∀(L c':Int),0<=L->L < 2147483648->d7 (u.set p (.lst [.int L,.int c',.ref q])) p q:=λL c' l Y=>⟨G,L,c',g,aE (lG I),by rw[aA G];exact J,l,Y,C⟩
  let Q:∀a b:Int,0<=b->b < 10000000->qQ a b:=λa b Y h2=>.inr ⟨by ext,by ext⟩;by_cases l:0 < c
  ·rw[aJ l];simp![i3,↓oC I];exact⟨O,⟨O,hk2⟩,h _ _ (mr _ ()) (kN _ O) (pt _ _ hx0 hx1) (kp _)⟩
  ·rw[az l];let q:0<=(x*48271+7919) % 2147483647:=mr _ ();let o:(x*48271+7919) % 2147483647 < 2147483647:=kN _ ();generalize (x*48271+7919) % 2147483647=one at q o ⊢;let g:0<=(one*40692+12345) % 2147483399+1:=by have:=mr (one*40692+12345) (show (2147483399:Int)≠0 by ext);ext
   let c:(one*40692+12345) % 2147483399+1 < 2147483648:=by have:=kN (one*40692+12345) (show (0:Int) < 2147483399 by ext);ext
   generalize (one*40692+12345) % 2147483399+1=L at g c ⊢;let U:((0:Int) < 64/\(64:Int) < 1073741824):=by ext
   simp![i4,↓oC I,↓eV (aE (lG I)),U];exact⟨Q _ _ () (),Q _ _ () (),.inl ⟨by ext,by ext⟩,Q _ _ () (),O,h _ _ (mr _ ()) (kN _ O) (pt _ _ g c) (kp _)⟩
def Ta{E:List Int}(h:∀p q o,d7 o p q->s.length<=p->s.length<=q->eD s o->Q (.ref p) o):wp (jN [.lit (E.map D.int),.int 0]) Q s:=by
 let l0:0<=fK:=bH _;let l3:3<=fK:=iB ();let m0:qQ 7919 0:=.inl ⟨by ext,by ext⟩;let m2:∀a b:Int,0<=b->b < 10000000->qQ a b:=λa b h1 h2=>.inr ⟨by ext,by ext⟩;let U:∀Q s,wp (yY (.int 10) (.int 18)) Q s=Q (.int 1000000000000000000) s:=λQ s=>by unfold yY uk;rw[eJ,cE];exact propext ⟨λh=>h.2,λh=>⟨by decide,h⟩⟩
 generalize (1000000000000000000:Int)=big at U
 (simp![jN];simp![ym,l0,m0])
 let B:∀d∈cutD (E.map D.int) (some 0) (some 63),∃i:Int,d=.int i:=λd hd=>by unfold cutD at hd;let⟨i,_,e⟩:=bQ.mp (List.mem_of_mem_drop (gH hd));exact⟨i,e.symm⟩
 let I:(cutD (E.map D.int) (some 0) (some 63)).length<=63:=by unfold cutD iy;simp;ext
 generalize cutD (E.map D.int) (some 0) (some 63)=cells at B I;refine uK (λi l o=>∃x J C,l=[some (.lit (E.map D.int)),some (.int 0),some (.int x),some (.ref s.length),J]/\(i=0\/(0<=x/\x < 2147483648))/\(i=0->x=104729)/\o[s.length]?=some (.lst C)/\(o.length=s.length+1/\eD s o)/\C.length<=i/\∀d∈C,∃i:Int,d=.int i) (λ_ _ _ _=>trivial) ⟨_,_,[],rfl,.inl rfl,λ_=>rfl,by simp,⟨by simp,(eD.refl _).snoc _⟩,ay _,by simp⟩ (λRw i d l o up rt hd O=>?_) (λl o O=>?_)
 ·let⟨x,J,C,el,Y,H,g,c,hl,u⟩:=O;subst el;let⟨v,G⟩:=B d (ax hd);subst G;let Q:=(ae.mp hd).1;let c1:(0:Int) < 2147483629:=by ext
  let c2:(0:Int) < 2147483647:=by ext
  let L:0<=(x*48271+v % 2147483629+1) % 2147483647:=mr _ ();let o:(x*48271+v % 2147483629+1) % 2147483647 < 2147483647:=kN _ ();let q:qQ x 48271:=m2 _ _ () ();let E:C.length < fK:=rK ();simp![↓U,↓eV g,↓oC g,q,c1,c2,E];generalize (x*48271+v % 2147483629+1) % 2147483647=I at L o ⊢;by_cases l:big<=v
  ·rw[aJ l];refine up ⟨_,_,_,rfl,.inr ⟨L,by ext⟩,λh=>by ext,aE (lG g),⟨by simp[c.1],c.2.put (ay _)⟩,by simp;ext,λd hd=>?_⟩;rcases aO.mp hd with hd|hd
   ·exact u d hd
   ·exact⟨v,aI.mp hd⟩
  ·rw[az l];exact up ⟨_,_,_,rfl,.inr ⟨L,by ext⟩,λh=>by ext,g,c,by ext,u⟩
 ·let⟨x,J,C,el,Y,H,g,c,hl,u⟩:=O;subst el;simp![↓eV g,l3];let G:0<=x/\x < 2147483648:=by
   rcases Y with h|h
   ·have:=H h;ext
   ·exact h
  let⟨c,hex⟩:=c;refine h _ o.length _ ⟨by simp,x,0,C.reverse,by simp,by simp,G.1,G.2,λd hd=>u d (List.mem_reverse.mp hd)⟩ (by simp;ext) () ((hex.snoc _).snoc _)
end
open PySem (Str)
def nF(S c:Nat)(nx un:Nat->Nat->Nat):D:=.tup (bu S λs=>.tup (bu c λd=>.tup [.int (nx s d:Nat),.int (un s d:Nat)]))
noncomputable def vy(S c:Nat)(nx un:Nat->Nat->Nat):Prop:=1<=S/\S<=4/\1<=c/\c<=4/\∀s d,s < S->d < c->nx s d < S/\un s d < 4
section
variable{p q:Nat}{Q:D->aV->Prop}
def wx{m:Nat}(h:m<=100):(-(2^62)<=(m:Int)/\(m:Int) < 2^62):=by ext
def Qlf{m n:Nat}{A:List D->aV->Prop}(O:d7 s p q)(h1:1<=m)(h2:m<=4)(h:∀(f g:Nat->Nat)v,(∀i,i < n->f i < m/\g i < 4)->d7 v p q->Kept p q s v->A (bu n λi=>.tup [.int (f i:Nat),.int (g i:Nat)]) v):wp (collect (aS 0) bZ (eE (aw (bO ja (aw (ao 1) (aw (ao 2) bn))) (aw (bO ja (aw (ao 1) (aw (aQ (.int 4)) bn))) bn))) eS (bu n λi=>.int i) [none,some (.ref p),some (.int m)]) A s:=by
 refine Dn (λi l v=>∃f g:Nat->Nat,l=(bu i λi=>.tup [.int (f i:Nat),.int (g i:Nat)])/\(∀j,j < i->f j < m/\g j < 4)/\d7 v p q/\Kept p q s v) (λ_ _ _ _=>trivial) ⟨λ_=>0,λ_=>0,rfl,λj G=>bo G (tL _),O,Kept.refl⟩ (λRr i l s1 up hi U=>?_) (λl s1 c=>by let⟨f,g,H,u,o,B⟩:=c;rw[H];exact h f g s1 u o B);let⟨f,g,H,u,o,B⟩:=U;let I:2<=fK:=iB ();simp![I];refine rB o () () λa s2 Q a1 E L=>?_
 try simp![]
 refine rB E () () λb s3 Y b1 C J=>?_
 try simp![I]
 refine up ⟨λj=>if j=i then a.toNat else f j,λj=>if j=i then b.toNat else g j,?_,λj G=>?_,C,(B.trans L).trans J⟩
 ·rw[z6,H];congr 1
  ·exact zm λj G=>by dsimp only;rw[az (),az ()]
  ·dsimp only;rw[aJ rfl,aJ rfl,ig Q,ig Y]
 ·dsimp only;by_cases e:j=i
  ·rw[aJ e,aJ e];ext
  ·rw[az e,az e];exact u j ()
def RP{m n:Nat}{A:List D->aV->Prop}(L:d7 s p q)(I:1<=m)(H:m<=4)(h3:1<=n)(h4:n<=4)(h:∀(nx un:Nat->Nat->Nat)v,vy m n nx un->d7 v p q->Kept p q s v->A (bu m λs=>.tup (bu n λd=>.tup [.int (nx s d:Nat),.int (un s d:Nat)])) v):wp (collect (aS 0) bZ (i_ lU (dR 1 [1,2] (MM.gw (ao 3)) (aS 0) bZ (eE (aw (bO ja (aw (ao 1) (aw (ao 2) bn))) (aw (bO ja (aw (ao 1) (aw (aQ (.int 4)) bn))) bn))))) eS (bu m λi=>.int i) [none,some (.ref p),some (.int m),some (.int n)]) A s:=by
 refine Dn (λi l v=>∃nx un:Nat->Nat->Nat,l=(bu i λs=>.tup (bu n λd=>.tup [.int (nx s d:Nat),.int (un s d:Nat)]))/\(∀s d,s < i->d < n->nx s d < m/\un s d < 4)/\d7 v p q/\Kept p q s v) (λ_ _ _ _=>trivial) ⟨λ_ _=>0,λ_ _=>0,rfl,λj d E=>bo E (tL _),L,Kept.refl⟩ (λRr i l s1 up hi Q=>?_) (λl s1 c=>by let⟨nx,un,G,u,o,B⟩:=c;rw[G];exact h nx un s1 ⟨I,H,h3,h4,u⟩ o B);let⟨nx,un,G,u,o,B⟩:=Q;let Y:=wx (show n<=100 by ext);let O:n<=fK:=iB ();simp![Y,ii,bA,uj,l_,O];refine Qlf o I H λf g s2 U C J=>?_
 try simp![]
 refine up ⟨λj d=>if j=i then f d else nx j d,λj d=>if j=i then g d else un j d,?_,λj d E hd=>?_,C,B.trans J⟩
 ·rw[z6,G];congr 1
  ·exact zm λj E => by congr 1;exact zm λd hd=>by dsimp only;rw[az (),az ()]
  ·congr 2;exact zm λd hd=>by dsimp only;rw[aJ rfl,aJ rfl]
 ·dsimp only;by_cases e:j=i
  ·rw[aJ e,aJ e];exact U d hd
  ·rw[az e,az e];exact u j d () hd
def Qlh{k:Nat}(B:k<=3):wp (collect (aS 0) bZ (c2 fX (eE (aw (eE (aw (ao 0) (aw (ao 0) bn))) bn)) (i_ lU (dR 1 [] (MM.gw (ao 1)) (aS 0) bZ (eE (aw (ao 0) (aw (aQ (.int 0)) bn)))))) eS (bu k λi=>.int i) [none,some (.int k)]) A s=A (bu k λv=>.tup (.tup [.int (v:Nat),.int (v:Nat)]::bu k λv=>.tup [.int (v:Nat),.int 0])) s:=yB vX λv o Q=>by
 let l:1<=fK:=iB ();let g:2<=fK:=iB ();let C:=wx (show k<=100 by ext);let u:k<=fK:=iB ();let c:1+k<=fK:=iB ();let h:∀Q s,wp (collect (aS 0) bZ (eE (aw (ao 0) (aw (aQ (.int 0)) bn))) eS (bu k λi=>.int i) [none]) Q s=Q (bu k λv=>.tup [.int (v:Nat),.int 0]) s:=λQ s=>yB vX λv o Q=>by simp![g]
 simp![l,g,C,ii,bA,uj,l_,u,↓h,c]
def TR{k:Nat}: D.tup (bu k λv=>.tup (.tup [.int (v:Nat),.int (v:Nat)]::bu k λv=>.tup [.int (v:Nat),.int 0]))=nF k (k+1) (λs d=>match d with
    |0=>s|d+1=>d) (λs d=>match d with
    |0=>s
    |_+1=>0):=by
 unfold nF;congr 1;exact zm λv c=>by rw[QQ];congr 1;exact zm λd hd=>by cases d<;>rfl
def YJ{m:Nat}(B:m<=4):wp (collect (aS 0) bZ (i_ lU (dR 1 [0] (MM.gw (ao 1)) (aS 0) bZ (eE (aw (ao 0) (aw (ao 1) bn))))) eS (bu m λi=>.int i) [none,some (.int m)]) A s=A (bu m λs=>.tup (bu m λv=>.tup [.int (v:Nat),.int (s:Nat)])) s:=yB vX λv o Q=>by
 let g:2<=fK:=iB ();let l:=wx (show m<=100 by ext);let h:m<=fK:=iB ();let c:∀Q s,wp (collect (aS 0) bZ (eE (aw (ao 0) (aw (ao 1) bn))) eS (bu m λi=>.int i) [none,some (.int v)]) Q s=Q (bu m λu=>.tup [.int (u:Nat),.int (v:Nat)]) s:=λQ s=>yB vX λu hu Q=>by simp![g]
 simp![l,ii,bA,uj,l_,h,↓c]
def Zo{m:Nat}(l:1<=m):wp (collect (aS 0) bZ (eE (aw (eE (aw (c2 o0 (c2 fX (ao 0) (aQ (.int 1))) (ao 1)) (aw (ao 0) bn))) bn)) eS (bu m λi=>.int i) [none,some (.int m)]) A s=A (bu m λs=>.tup [.tup [.int (((s+1) % m:Nat):Int),.int (s:Nat)]]) s:=yB vX λv u Q=>by
 let h:1<=fK:=iB ();let g:2<=fK:=iB ();let c:(0:Int) < (m:Nat):=by ext
 let o:((v:Int)+1) % (m:Int)=(((v+1) % m:Nat):Int):=by simp
 simp![h,g,c,o]
def XH{m:Nat}(E:m<=4):wp (collect (aS 0) bZ (i_ lU (dR 1 [0] (MM.oB (aQ (.int 1)) (ao 1)) (aS 0) bZ (eE (aw (ao 1) (aw (ao 1) bn))))) eS (bu (m-1) λi=>.int (1+(i:Int))) [none,some (.int m)]) A s=A (bu (m-1) λs=>.tup (bu (m-1) λv=>.tup [.int (1+(s:Int)),.int (1+(s:Int))])) s:=yB vX λv C Q=>by
 let h:2<=fK:=iB ();let l:=wx (show m<=100 by ext);let o:((m:Int)-1).toNat=m-1:=by ext
 let c:m-1<=fK:=iB ();let B:(-(2^62)<=(1:Int)/\(1:Int) < 2^62):=by ext
 let g:∀Q s,wp (collect (aS 0) bZ (eE (aw (ao 1) (aw (ao 1) bn))) eS (bu (m-1) λi=>.int (1+(i:Int))) [none,some (.int (1+(v:Int)))]) Q s=Q (bu (m-1) λu=>.tup [.int (1+(v:Int)),.int (1+(v:Int))]) s:=λQ s=>yB vX λu hu Q=>by simp![h]
 simp![B,l,ii,o,Ry,l_,c,↓g]
def ZQ{m:Nat}:wp (collect (aS 0) bZ (eE (aw (ao 0) (aw (ao 0) bn))) eS (bu (m-1) λi=>.int (1+(i:Int))) [none]) A s=A (bu (m-1) λv=>.tup [.int (1+(v:Int)),.int (1+(v:Int))]) s:=yB vX λu hu Q=>by have c:2<=fK:=iB ();simp![c]
def Y9{n:Nat}: D.tup (.tup (bu n λv=>.tup [.int (1+(v:Int)),.int (1+(v:Int))])::bu n λs=>.tup (bu n λv=>.tup [.int (1+(s:Int)),.int (1+(s:Int))]))=nF (n+1) n (λs d=>match s with
     |0=>d+1|s+1=>s+1) (λs d=>match s with
     |0=>d+1
     |s+1=>s+1):=by
 unfold nF;rw[QQ];congr 1;exact zm λs c=>by
  cases s with
  |zero=>
   dsimp only;congr 1;exact zm λd hd=>by rw[show (1+(d:Int))=((d+1:Nat):Int) by ext]
  |succ s=>
   dsimp only;congr 1;exact zm λd hd=>by rw[show (1+(s:Int))=((s+1:Nat):Int) by ext]
def Sx{mo:Int}(mo1:1<=mo)(mo4:mo<=4)(hp:d7 s p q)(h:∀S dn nx un s',vy S dn nx un->(S:Int)<=mo->d7 s' p q->Kept p q s s'->Q (nF S dn nx un) s'):wp (jC [.ref p,.int mo]) Q s:=by
 (simp![jC];simp![yb])
 refine rB hp () () λkind s1 kd0 kd1 hp1 k1=>?_
 try simp![]
 refine rB hp1 () () λr s2 O r1 u k2=>?_;let o:=k1.trans k2;let C:r=((r.toNat:Nat):Int):=(ig O).symm;generalize r.toNat=B at C;subst C;let E:(1+(B:Int))=((1+B:Nat):Int):=by ext
 let l:1<=1+B:=by ext
 let c:1+B<=4:=by ext
 let hmo:((1+B:Nat):Int)<=mo:=by ext
 simp![E]
 try rw[E]
 generalize 1+B=m at l c hmo;let l1:1<=fK:=iB ();by_cases c0:kind=0
 ·rw[aJ c0];let g:min (m:Int) 3=((min m 3:Nat):Int):=by ext
  let Y:1<=min m 3:=by ext
  let U:min m 3<=3:=by ext
  let c:min m 3<=m:=by ext
  rw[g];generalize min m 3=k at Y U c;let J:=wx (show k<=100 by ext);let L:k<=fK:=iB ();let G:∀A s,wp (collect (aS 0) bZ (c2 fX (eE (aw (eE (aw (ao 0) (aw (ao 0) bn))) bn)) (i_ lU (dR 1 [] (MM.gw (ao 1)) (aS 0) bZ (eE (aw (ao 0) (aw (aQ (.int 0)) bn)))))) eS (bu k λi=>.int i) [none,some (.int k)]) A s=A (bu k λv=>.tup (.tup [.int (v:Nat),.int (v:Nat)]::bu k λv=>.tup [.int (v:Nat),.int 0])) s:=λA s=>Qlh U;simp![J,ii,bA,uj,l_,L,↓G];rw[TR];refine h _ _ _ _ _ ⟨Y,by ext,by ext,by ext,λs d hs hd=>?_⟩ () u o;cases d with|zero=>exact⟨hs,by dsimp only;ext⟩|succ d=>exact⟨by dsimp only;ext,by dsimp only;ext⟩
 rw[az c0];let J:=wx (show m<=100 by ext);let L:m<=fK:=iB ();by_cases c1:kind=1
 ·rw[aJ c1];let G:∀A s,wp (collect (aS 0) bZ (i_ lU (dR 1 [0] (MM.gw (ao 1)) (aS 0) bZ (eE (aw (ao 0) (aw (ao 1) bn))))) eS (bu m λi=>.int i) [none,some (.int m)]) A s=A (bu m λs=>.tup (bu m λv=>.tup [.int (v:Nat),.int (s:Nat)])) s:=λA s=>YJ c;simp![J,ii,bA,uj,l_,L,↓G];exact h m m (λs d=>d) (λs d=>s) _ ⟨l,c,l,c,λs d hs hd=>⟨hd,by dsimp only;ext⟩⟩ () u o
 rw[az c1];by_cases c2':kind=2
 ·rw[aJ c2'];let G:∀A s,wp (collect (aS 0) bZ (eE (aw (eE (aw (c2 o0 (c2 fX (ao 0) (aQ (.int 1))) (ao 1)) (aw (ao 0) bn))) bn)) eS (bu m λi=>.int i) [none,some (.int m)]) A s=A (bu m λs=>.tup [.tup [.int (((s+1) % m:Nat):Int),.int (s:Nat)]]) s:=λA s=>Zo l;simp![J,ii,bA,uj,l_,L,↓G];exact h m 1 (λs d=>(s+1) % m) (λs d=>s) _ ⟨l,c,by ext,by ext,λs d hs hd=>⟨zU _ (),by dsimp only;ext⟩⟩ () u o
 rw[az c2'];by_cases c3:kind=3
 ·rw[aJ c3];by_cases Y:(1:Int) < (m:Nat)
  ·rw[aJ Y];let B:((m:Int)-1).toNat=m-1:=by ext
   let U:m-1<=fK:=iB ();let q:1+(m-1)<=fK:=iB ();let C:(-(2^62)<=(1:Int)/\(1:Int) < 2^62):=by ext
   let G:∀A s,wp (collect (aS 0) bZ (i_ lU (dR 1 [0] (MM.oB (aQ (.int 1)) (ao 1)) (aS 0) bZ (eE (aw (ao 1) (aw (ao 1) bn))))) eS (bu (m-1) λi=>.int (1+(i:Int))) [none,some (.int m)]) A s=A (bu (m-1) λs=>.tup (bu (m-1) λv=>.tup [.int (1+(s:Int)),.int (1+(s:Int))])) s:=λA s=>XH c;let l:∀A s,wp (collect (aS 0) bZ (eE (aw (ao 0) (aw (ao 0) bn))) eS (bu (m-1) λi=>.int (1+(i:Int))) [none]) A s=A (bu (m-1) λv=>.tup [.int (1+(v:Int)),.int (1+(v:Int))]) s:=λA s=>ZQ;let g:∀(ds:List D)Q,wp (getL s2.length) Q (s2++[MO.lst ds])=Q ds (s2++[MO.lst ds]):=λds Q=>eV (by simp);simp![C,J,ii,B,Ry,l_,U,↓G,↓l,↓g,l1,q];rw[Y9];refine h _ _ _ _ _ ⟨by ext,by ext,by ext,by ext,λs d hs hd=>?_⟩ () u.snoc o.snoc;cases s with|zero=>dsimp only;ext|succ s=>dsimp only;ext
  ·rw[az Y];refine rB u () () λr s3 O r1 I k3=>?_;let C:r=((r.toNat:Nat):Int):=(ig O).symm;generalize r.toNat=B at C;subst C;let E:(1+(B:Int))=((1+B:Nat):Int):=by ext
   simp![E,J,ii,bA,uj,l_,L]
   try rw[E]
   refine RP I l c () () λnx un s4 ok H k4=>?_;simp![];exact h _ _ _ _ _ ok () H ((o.trans k3).trans k4)
 ·rw[az c3];refine rB u () () λr s3 O r1 I k3=>?_;let C:r=((r.toNat:Nat):Int):=(ig O).symm;generalize r.toNat=B at C;subst C;let E:(1+(B:Int))=((1+B:Nat):Int):=by ext
  simp![E,J,ii,bA,uj,l_,L]
  try rw[E]
  refine RP I l c () () λnx un s4 ok H k4=>?_;simp![];exact h _ _ _ _ _ ok () H ((o.trans k3).trans k4)
end
open PySem (Str)
structure Bd where
 S:Nat
 dn:Nat
 nx:Nat->Nat->Nat
 un:Nat->Nat->Nat
 st:Nat
inductive Ln where
 |settle (v:Nat)|act (b d:Nat) (gs:List Nat)
structure Hd where
 b0:Nat
 b1:Nat
 lines:List Ln
structure Hs where
 boards:List Bd
 hands:List Hd
structure Sd where
 ls:List Nat
 ss:List Nat
 deriving DecidableEq
noncomputable def eY(n:Nat):D:=.int (n:Int)
def tm(b:Bd):D:=.tup [nF b.S b.dn b.nx b.un,eY b.st]
def qC:Ln->D
 | .settle v=>.tup [.str "settle",eY v]| .act b d gs=>.tup [.str "do",eY b,eY d,.tup (gs.map eY)]
def pM(h:Hd):D:=.tup [.tup [eY h.b0,eY h.b1],.tup (h.lines.map qC)]
def ki(h:Hs):D:=.tup [.tup (h.boards.map tm),.tup (h.hands.map pM)]
def eW(s:Sd):D:=.tup [.tup (s.ls.map eY),.tup (s.ss.map eY)]
def yU(b:Bd):Prop:=vy b.S b.dn b.nx b.un/\b.st < b.S
def vS(bs:List Bd)(m:Nat):Ln->Prop
 | .settle v=>v < 2| .act b d gs=>∃c,bs[b]?=some c/\d < c.dn/\gs.length=1+mx (c.un · d) c.S/\∀g∈gs,g < m
def A3(bs:List Bd)(h:Hd):Prop:=h.b0 < h.lines.length/\h.b1 < h.lines.length/\h.lines.length<=12/\∀l∈h.lines,vS bs h.lines.length l
def kK(h:Hs):Prop:=h.boards.length<=7/\(∀b∈h.boards,yU b)/\2<=h.hands.length/\h.hands.length<=3/\∀x∈h.hands,A3 h.boards x
noncomputable def j_(h:Hs)(s:Sd):Prop:=s.ls.length=h.hands.length/\s.ss.length=h.boards.length/\(∀(k:Nat)hd l,h.hands[k]?=some hd->s.ls[k]?=some l->l < hd.lines.length)/\∀(b:Nat)bd x,h.boards[b]?=some bd->s.ss[b]?=some x->x < bd.S
def wD{r:Int}(h:0<=r):∃n:Nat,r=(n:Int):=⟨r.toNat,(ig h).symm⟩
section
variable{p q:Nat}{Q:D->aV->Prop}
def WC{b:Bd}{d:Nat}(h:vy b.S b.dn b.nx b.un)(hd:d < b.dn):wp (collect (aS 0) bZ (c2 aZ (c2 aZ (ao 0) (ao 1)) (aQ (.int 1))) eS (bu b.S λs=>.tup (bu b.dn λd=>D.tup [.int (b.nx s d:Nat),.int (b.un s d:Nat)])) [none,some (.int d)]) (λx c=>wp (oD x) Q c) s=Q (.int (mx (b.un · d) b.S:Nat)) s:=by rw[yB (f:=λi=>.int (b.un i d:Nat)) vX (λi g Q=>by simp![↓xj hd])];exact J5 (f:=(b.un · d)) (by have:=h.1;ext)
def Y4{C:Nat}{bs:List Bd}{m k:Nat}{T:Bool->aV->Prop}(u:d7 s p q)(I:s[C]?=some (.lst (bs.map tm)))(U:k < m)(B:∀s1,d7 s1 p q->Kept p q s s1->T true s1)(J:∀s1,(o=true->k+1 < m)->0 < bs.length->d7 s1 p q->Kept p q s s1->T false s1):wp (sk (cV (c2 oo (c1 gI (ao 1)) (aQ (.int 0)))) (sk (oG (sC (ao 4)) (cV (c2 oo (ao 3) (c2 vg (ao 2) (aQ (.int 1)))))) (cV (c2 oo (bO ja (aw (ao 0) (aw (aQ (.int 5)) bn))) (aQ (.int 0))))) [some (.ref p),some (.ref C),some (.int m),some (.int k),some (.bl o),none,none,none,none,none]) T s:=by
 simp![↓eV I,ag];by_cases hz:bs.length=0
 ·rw[aJ ()];exact B s u Kept.refl
 rw[az ()];let go:∀(g:o=true->k+1 < m)(R:D->aV->Prop)(H:∀(r:Int) l,R (.int r) l=T (r == 0) l),wp (ja [.ref p,.int 5]) R s:=λg R H=>by
  refine rB u () () λr s1 O L c E=>?_;rw[H];by_cases G:r=0
  ·have:(r == 0)=true:=by simp[G]
   rw[this];exact B s1 c E
  ·have:(r == 0)=false:=by simp[G]
   rw[this];exact J s1 g () c E
 cases o with
 |false=>
  simp only[aR,if_false];exact go (λh=>by cases h) _ λr l=>by simp![]
 |true=>
  simp only[if_true];by_cases v:k+1 < m
  ·rw[az ()];exact go (λ_=>v) _ λr l=>by simp![]
  ·rw[aJ ()];exact B s u Kept.refl
def Qls{nb:Nat}{bs:List Bd}{m k:Nat}(hp:d7 s p q)(hg:s[nb]?=some (.lst (bs.map tm)))(hnp:nb≠p)(hnq:nb≠q)(hbl:bs.length<=7)(hbd:∀x∈bs,yU x)(hk:k < m)(hm:m<=12)(h:∀ln E,vS bs m ln->d7 E p q->Kept p q s E->Q (qC ln) E):wp (jx [.ref p,.ref nb,.int m,.int k,.bl on]) Q s:=by
 let l0:0<=fK:=bH _;let l2:2<=fK:=iB ();let l4:4<=fK:=iB ();simp only[jx,yf,↓zr,↓u9,↓G6,aT,mz,dA,eX,bU,gC,Nat.reduceAdd,Nat.reduceSub,mj,List.replicate_zero];refine Y4 hp hg hk (λs1 L k1=>?_) (λs1 hon hz L k1=>?_)
 ·simp![l2];refine rB L () () λv s2 v0 v1 c k2=>?_;let⟨n,e⟩:=wD v0;subst e;simp![l2];exact h (.settle n) _ (by show n < 2;ext) c (k1.trans k2)
 ·let q2:∀Q,wp (getL nb) Q s1=Q (bs.map tm) s1:=λQ=>eV (k1.same hnp hnq hg);simp![↓q2,ag,aR,if_false];refine rB L () () λbi s2 bi0 bi1 hp2 k2=>?_;let⟨b,eb⟩:=wD bi0;subst eb;let hb:b < bs.length:=by ext
  let Y:bs[b]?=some bs[b]:=af hb;let⟨ok,hst⟩:=hbd bs[b] (a_ hb);generalize bs[b]=c at Y ok hst;let q4:∀Q s,wp (cL (bs.map tm) (b:Int)) Q s=Q (.tup [nF c.S c.dn c.nx c.un,eY c.st]) s:=λQ s=>rL (by rw[au,Y];rfl);let ok0:=ok;let⟨o1,o2,o3,o4,o5⟩:=ok;let tb:wp (aZ (nF c.S c.dn c.nx c.un) (.int 0))=λQ s=>Q (D.tup (bu c.dn λd=>D.tup [.int (c.nx 0 d:Nat),.int (c.un 0 d:Nat)])) s:=by funext Q s;unfold nF;rw[uf,Vk ()]
  simp![↓eV ((k1.trans k2).same hnp hnq hg),↓q4,↓tb,l_];refine rB hp2 () () λdd o dd0 dd1 hp3 k3=>?_;let⟨d,ed⟩:=wD dd0;subst ed;let hd:d < c.dn:=by ext
  let hS:c.S<=fK:=iB ();let mu:∀Q s,wp (collect (aS 0) bZ (c2 aZ (c2 aZ (ao 0) (ao 1)) (aQ (.int 1))) eS (bu c.S λs=>.tup (bu c.dn λd=>D.tup [.int (c.nx s d:Nat),.int (c.un s d:Nat)])) [none,some (.int d)]) (λx E=>wp (oD x) Q E) s=Q (.int (mx (c.un · d) c.S:Nat)) s:=λQ s=>WC ok0 hd;let hmx:mx (c.un · d) c.S<=3:=M8 λi hi=>by have:=(o5 i d hi hd).2;ext
  let hm1:(1+((mx (c.un · d) c.S:Nat):Int))=((1+mx (c.un · d) c.S:Nat):Int):=by ext
  let hb1:=wx (show 1+mx (c.un · d) c.S<=100 by ext);simp![l0,nF,ii,l_,hS,↓mu,hm1,hb1,bA,uj];let J:=(k1.trans k2).trans k3;let hp4:d7 (o++[.lst []]) p q:=hp3.snoc;let k4:Kept p q s (o++[.lst []]):=J.snoc;let g4:(o++[MO.lst []])[o.length]?=some (.lst []):=by simp
  let hlp:=hp3.lt;let hs3:s.length<=o.length:=J.le;generalize o++[MO.lst []]=s4 at hp4 k4 g4;refine Mt (n:=1+mx (c.un · d) c.S) (λi l E=>∃x9 B,l=[some (.ref p),some (.ref nb),some (.int m),some (.int k),some (.bl on),some (.int b),some (.tup (bu c.S λs=>.tup (bu c.dn λd=>D.tup [.int (c.nx s d:Nat),.int (c.un s d:Nat)]))),some (.int d),some (.ref o.length),x9]/\E[o.length]?=some (.lst (B.map eY))/\B.length=i/\(∀g∈B,g < m)/\d7 E p q/\Kept p q s E) (λ_ _ _ _=>trivial) ⟨_,[],rfl,g4,rfl,by simp,hp4,k4⟩ (λRr i l E up hi hW=>?_) (λl E hW=>?_)
  ·let⟨x9,B,el,g,hl,U,H,O⟩:=hW;subst el;let app:∀v C,v < m->d7 C p q->Kept p q E C->∃u:List Nat,(C.set o.length (.lst (B.map eY++[eY v])))[o.length]?=some (.lst (u.map eY))/\u.length=i+1/\(∀g∈u,g < m)/\d7 (C.set o.length (.lst (B.map eY++[eY v]))) p q/\Kept p q s (C.set o.length (.lst (B.map eY++[eY v]))):=λv C Y G I=>by
    let c:C[o.length]?=some (.lst (B.map eY)):=I.same () () g;refine⟨B++[v],by rw[aE (lG c)];simp,by simp[hl],λx h=>?_,G.put () (),(O.trans I).put hs3⟩;rcases aO.mp h with h|h
    ·exact U x h
    ·rw[aI]at h;rw[h];exact Y
   let L:B.length < fK:=rK ();cases on with
   |true=>
    let hkm:=hon rfl;simp![if_true];refine rB H () () λr C J Q G I=>?_;let⟨v,l⟩:=wD J;subst l;let c:C[o.length]?=some (.lst (B.map eY)):=I.same () () g;let l:D.int ((k:Int)+1+(v:Int))=eY (k+1+v):=by unfold eY;congr 1
    simp![↓eV c,↓oC c,ag,L,l];let⟨u,z⟩:=app (k+1+v) C () G I;exact up ⟨_,u,rfl,z⟩
   |false=>
    simp![aR,if_false];refine rB H () () λr C J Q G I=>?_;let⟨v,l⟩:=wD J;subst l;let c:C[o.length]?=some (.lst (B.map eY)):=I.same () () g;simp![↓eV c,↓oC c,ag,L];let⟨u,z⟩:=app v C () G I;exact up ⟨_,u,rfl,z⟩
  ·let⟨x9,B,el,g,hl,U,H,O⟩:=hW;subst el;simp![↓eV g,l4];exact h (.act b d B) _ ⟨c,Y,hd,hl,U⟩ H O
end
open PySem (Str)
section
variable{p q:Nat}{Q:D->aV->Prop}
def UW{H:Nat}{bs:List Bd}{m:Nat}{A:List D->aV->Prop}(hp:d7 s p q)(hg:s[H]?=some (.lst (bs.map tm)))(G:H≠p)(E:H≠q)(U:bs.length<=7)(Y:∀x∈bs,yU x)(hm:m<=12)(h:∀(g:List Ln)C,g.length=m->(∀l∈g,vS bs m l)->d7 C p q->Kept p q s C->A (g.map qC) C):wp (collect (aS 0) bZ (bO jx (aw (ao 1) (aw (ao 2) (aw (ao 3) (aw (ao 0) (aw (ao 4) bn)))))) eS (bu m λi=>.int i) [none,some (.ref p),some (.ref H),some (.int m),some (.bl on)]) A s:=by
 refine Dn (λi u C=>∃g:List Ln,u=g.map qC/\g.length=i/\(∀l∈g,vS bs m l)/\d7 C p q/\Kept p q s C) (λ_ _ _ _=>trivial) ⟨[],rfl,rfl,by simp,hp,Kept.refl⟩ (λRr i u s1 up hi hW=>?_) (λu s1 o=>by let⟨g,Q,O,B,v,I⟩:=o;rw[Q];exact h g s1 O B v I);let⟨g,Q,O,B,v,I⟩:=hW;simp![];refine Qls v (I.same G E hg) G E U Y hi hm λln s2 L J k2=>?_;refine up ⟨g++[ln],by rw[Q];simp,by simp[O],λl c=>?_,J,I.trans k2⟩;rcases aO.mp c with c|c
 ·exact B l c
 ·rw[aI]at c;rw[c];exact L
def Qlu{r:Nat}(h:r < 8){Q:D->aV->Prop}(c:∀n:Nat,n<=4->Q (.int n) s):wp (cL [.int 0,.int 1,.int 1,.int 2,.int 2,.int 3,.int 1,.int 4] (r:Int)) Q s:=by have:r=0\/r=1\/r=2\/r=3\/r=4\/r=5\/r=6\/r=7:=(by decide:∀r,r < 8->(r=0\/r=1\/r=2\/r=3\/r=4\/r=5\/r=6\/r=7)) r h;rcases this with e|e|e|e|e|e|e|e<;>subst e<;>rw[rL (i:=_) rfl]<;>first|exact c 0 ()|exact c 1 ()|exact c 2 ()|exact c 3 ()|exact c 4 ()
noncomputable def mS:Nat->Nat
 |0=>4|1=>4|2=>3|_=>2
noncomputable def Qf:Nat->Nat
 |0=>4|1=>4|2=>4|3=>4|_=>3
noncomputable def O_:Nat->Nat
 |0=>3|1=>3|2=>2|3=>2|_=>2
def mL(n c:Nat):Nat:=if n=2 then Qf c else O_ c
def Ad{r:Nat}(h:r<=4):r=0\/r=1\/r=2\/r=3\/r=4:=(by decide:∀r,r < 5->(r=0\/r=1\/r=2\/r=3\/r=4)) r (Nat.lt_succ_of_le h)
def Sr{r:Nat}(h:r<=4):wp (cL [.int 4,.int 4,.int 3,.int 2,.int 2] (r:Int)) Q s=Q (.int (mS r)) s:=by rcases Ad h with e|e|e|e|e<;>subst e<;>rw[rL (i:=_) rfl]<;>rfl
def Qlw{r:Nat}(h:r<=4):wp (cL [.int 4,.int 4,.int 4,.int 4,.int 3] (r:Int)) Q s=Q (.int (Qf r)) s:=by rcases Ad h with e|e|e|e|e<;>subst e<;>rw[rL (i:=_) rfl]<;>rfl
def Sf{r:Nat}(h:r<=4):wp (cL [.int 3,.int 3,.int 2,.int 2,.int 2] (r:Int)) Q s=Q (.int (O_ r)) s:=by rcases Ad h with e|e|e|e|e<;>subst e<;>rw[rL (i:=_) rfl]<;>rfl
def JV{r:Nat}(h:r<=4):1<=mS r/\mS r<=4:=by rcases Ad h with e|e|e|e|e<;>subst e<;>decide
def L_{n r:Nat}(h:r<=4):1<=mL n r/\mL n r<=8:=by unfold mL;split<;>(rcases Ad h with e|e|e|e|e<;>subst e<;>decide)
def xt(x:Hs):Prop:=kK x/\x.boards.length<=4/\(∀b∈x.boards,b.S<=mS x.boards.length)/\∀y∈x.hands,y.lines.length<=mL x.hands.length x.boards.length
def W7{w k:Int}{l:Loc}{Q:D->aV->Prop}(c:l[8]?=some (some (.int w)))(g:l[3]?=some (some (.int k)))(h:∀b,Q (.bl b) s):wp (D2 (c2 By (ao 8) (aQ (.int 2))) (ve (c2 oo (ao 8) (aQ (.int 2))) (c2 vQ (ao 3) (aQ (.int 0)))) l) Q s:=by
 simp![c,g];by_cases a:w < 2
 ·have:decide (w < 2)=true:=bY a;rw[this];simp only[vU];exact h _
 ·have:decide (w < 2)=false:=ba a;rw[this];simp only[vZ];by_cases b:w=2
  ·have:(w == 2)=true:=by simp[b]
   rw[this];simp only[vU];exact h _
  ·have:(w == 2)=false:=by simp[b]
   rw[this];simp only[vZ];exact h _
def U0(hp:d7 s p q)(h:∀x o,xt x->d7 o p q->Kept p q s o->Q (ki x) o):wp (jB [.ref p]) Q s:=by
 let l0:0<=fK:=bH _;let l2:2<=fK:=iB ();let l8:8<=fK:=iB ();let l5:5<=fK:=iB ()
 (simp![jB];simp![j8,l0,l8])
 let hp1:d7 (s++[.lst []]) p q:=hp.snoc;let k1:Kept p q s (s++[.lst []]):=Kept.refl.snoc;let g1:(s++[MO.lst []])[s.length]?=some (.lst []):=by simp
 let hlt:=hp.lt;generalize s++[MO.lst []]=s1 at hp1 k1 g1;refine rB hp1 () () λr s2 r0 r1 hp2 k2=>?_;let⟨rn,er⟩:=wD r0;subst er;let g2:s2[s.length]?=some (.lst []):=k2.same () () g1;let k12:=k1.trans k2;simp![];refine Qlu () λcnt B=>?_;let iS:∀(Q:D->aV->Prop)s,wp (cL [.int 4,.int 4,.int 3,.int 2,.int 2] (cnt:Int)) Q s=Q (.int (mS cnt)) s:=λQ s=>Sr B;let bS:=JV B;let hb:=wx (show cnt<=100 by ext);simp![hb,bA,uj];refine Mt (n:=cnt) (λi l o=>∃x3 x4 bs,l=[some (.ref p),some (.ref s.length),some (.int cnt),x3,x4,none,none,none,none,none,none,none,none]/\o[s.length]?=some (.lst (bs.map tm))/\bs.length=i/\(∀x∈bs,yU x/\x.S<=mS cnt)/\d7 o p q/\Kept p q s o) (λ_ _ _ _=>trivial) ⟨_,_,[],rfl,g2,rfl,by simp,hp2,k12⟩ (λRr i l o up hi hW=>?_) (λl o hW=>?_)
 ·let⟨x3,x4,bs,el,g,hl,J,hp',hk'⟩:=hW;subst el;simp![l5,↓iS];refine Sx (mo:=(mS cnt:Int)) () () hp' λS q nx un s3 ok B hp3 k3=>?_;let w1:wp (gI (nF S q nx un))=λQ s=>Q (.int S) s:=by funext Q s;unfold nF;rw[zc,l_]
  simp![↓w1];let E:=ok.1;let C:=ok.2.1;refine rB hp3 () () λst Y h v hp4 k4=>?_;let⟨c,o⟩:=wD h;subst o;let l:Y[s.length]?=some (.lst (bs.map tm)):=(k3.trans k4).same () () g;let l3:bs.length < fK:=rK ();simp![↓eV l,↓oC l,l2,l3,ag];refine up ⟨_,_,bs++[⟨S,q,nx,un,c⟩],rfl,by rw[aE (lG l)];simp[tm,eY],by simp[hl],λx u=>?_,hp4.put () (),((hk'.trans k3).trans k4).put (ay _)⟩;rcases aO.mp u with u|u
  ·exact J x u
  ·rw[aI]at u;rw[u];exact⟨⟨ok,by show c < S;ext⟩,by show S<=mS cnt;ext⟩
 ·let⟨x3,x4,bs,el,g,hl,J,hp',hk'⟩:=hW;subst el;simp![l0];let hp3:d7 (o++[.lst []]) p q:=hp'.snoc;let k3:Kept p q s (o++[.lst []]):=hk'.snoc;let g3:(o++[MO.lst []])[o.length]?=some (.lst []):=by simp
  let g3':(o++[MO.lst []])[s.length]?=some (.lst (bs.map tm)):=by rw[av (lG g)];exact g
  let hlt':=hp'.lt;let v:=hk'.le;let hgl:=lG g;generalize o++[MO.lst []]=s3 at hp3 k3 g3 g3';refine rB hp3 () () λr3 Y r30 r31 hp4 k4=>?_;let hn:∃n:Nat,(n=2\/n=3)/\(2+(if r3=0 then (1:Int) else 0))=(n:Int):=by
   by_cases e:r3=0
   ·exact⟨3,.inr rfl,by simp[e]⟩
   ·exact⟨2,.inl rfl,by simp[e]⟩
  let⟨n,hn23,en⟩:=hn;let hb:=wx (show n<=100 by ext);obtain⟨mm,LL,gm,hit,hLL⟩:∃(mm:Nat)(LL:List D),(Y++[MO.lst [.int 4,.int 4,.int 4,.int 4,.int 3]]++[MO.lst [.int 3,.int 3,.int 2,.int 2,.int 2]])[mm]?=some (.lst LL)/\(∀(Q:D->aV->Prop)s,wp (cL [.ref Y.length,.ref (Y++[MO.lst [.int 4,.int 4,.int 4,.int 4,.int 3]]).length] ((n:Int)-2)) Q s=Q (.ref mm) s)/\∀(Q:D->aV->Prop)s,wp (cL LL (cnt:Int)) Q s=Q (.int (mL n cnt)) s:=by
   rcases hn23 with rfl|rfl
   ·exact⟨_,_,uI o7,λQ s=>by rw[show ((2:Nat):Int)-2=0 from rfl,uq],λQ s=>Qlw B⟩
   ·exact⟨_,_,o7,λQ s=>by rw[show ((3:Nat):Int)-2=1 from rfl,uu],λQ s=>Sf B⟩
  let qm:∀Q,wp (getL mm) Q (Y++[MO.lst [.int 4,.int 4,.int 4,.int 4,.int 3]]++[MO.lst [.int 3,.int 3,.int 2,.int 2,.int 2]])=Q LL _:=λQ=>eV gm;let bL:=L_ (n:=n) B;simp![en,l2,l5,↓hit,↓qm,↓hLL];let hp4':d7 (Y++[MO.lst [.int 4,.int 4,.int 4,.int 4,.int 3]]++[MO.lst [.int 3,.int 3,.int 2,.int 2,.int 2]]) p q:=hp4.snoc.snoc;let k4':Kept p q s3 (Y++[MO.lst [.int 4,.int 4,.int 4,.int 4,.int 3]]++[MO.lst [.int 3,.int 3,.int 2,.int 2,.int 2]]):=k4.snoc.snoc;clear gm hit qm;generalize Y++[MO.lst [.int 4,.int 4,.int 4,.int 4,.int 3]]++[MO.lst [.int 3,.int 3,.int 2,.int 2,.int 2]]=s4' at hp4' k4'
  replace k4:=k4'
  let en':(2+(if (r3 == 0)=true then (1:Int) else 0))=(n:Int):=by rw[<- en];simp
  rw[en'];refine rB hp4' () () λway s5 w0 w1 hp5 k5=>?_;simp![en,hb,bA,uj];let g5:s5[o.length]?=some (.lst []):=(k4.trans k5).same () () g3;let g5':s5[s.length]?=some (.lst (bs.map tm)):=(k4.trans k5).same () () g3';let k35:=(k3.trans k4).trans k5;let I:∀x∈bs,yU x:=λx u=>(J x u).1;refine Mt (n:=n) (λi l s''=>∃x3 x8 x9 x10 x11 c,l=[some (.ref p),some (.ref s.length),some (.int cnt),x3,x4,some (.ref o.length),some (.int n),some (.int (mL n cnt)),some (.int way),x8,x9,x10,x11]/\s''[o.length]?=some (.lst (c.map pM))/\s''[s.length]?=some (.lst (bs.map tm))/\c.length=i/\(∀x∈c,A3 bs x/\x.lines.length<=mL n cnt)/\d7 s'' p q/\Kept p q s s'') (λ_ _ _ _=>trivial) ⟨_,_,_,_,_,[],rfl,g5,g5',rfl,by simp,hp5,k35⟩ (λRr i l s6 up hi hW=>?_) (λl s6 hW=>?_)
  ·let⟨x3,x8,x9,x10,x11,c,el,ga,gb,hl2,E,hp6,k6⟩:=hW;subst el
   try simp![]
   refine rB hp6 () () λr U r0 r1 hp7 k7=>?_;let⟨rn,er⟩:=wD r0;subst er;let hm:(1+(rn:Int))=((1+rn:Nat):Int):=by ext
   simp only[↓BE,↓Fc,↓u9,↓yZ,hm];let hm1:1<=1+rn:=by ext
   let hm8:1+rn<=8:=by ext
   let hmm:1+rn<=mL n cnt:=by ext
   try rw[hm]
   generalize 1+rn=m at hm1 hm8 hmm;refine W7 rfl rfl λon=>?_;let hbm:=wx (show m<=100 by ext);let hlm:m<=fK:=iB ();simp![hbm,bA,uj,l_,hlm,ii];refine UW hp7 (k7.same () () gb) () () () I () λH s8 hll hls hp8 k8=>?_
   try simp![]
   refine rB hp8 () () λv1 s9 v10 v11 hp9 k9=>?_;let⟨L,eb1⟩:=wD v10;subst eb1;simp![l2];refine rB hp9 () () λt sa t0 t1 Q ka=>?_;let l3:c.length < fK:=rK ();let app:∀(h L:Nat)O,h < m->L < m->d7 O p q->Kept p q s6 O->∃v:List Hd,(O.set o.length (.lst (c.map pM++[.tup [.tup [.int h,.int L],.tup (H.map qC)]])))[o.length]?=some (.lst (v.map pM))/\(O.set o.length (.lst (c.map pM++[.tup [.tup [.int h,.int L],.tup (H.map qC)]])))[s.length]?=some (.lst (bs.map tm))/\v.length=i+1/\(∀x∈v,A3 bs x/\x.lines.length<=mL n cnt)/\d7 (O.set o.length (.lst (c.map pM++[.tup [.tup [.int h,.int L],.tup (H.map qC)]]))) p q/\Kept p q s (O.set o.length (.lst (c.map pM++[.tup [.tup [.int h,.int L],.tup (H.map qC)]]))):=λh L O C h1 B J=>by
    let G:O[o.length]?=some (.lst (c.map pM)):=J.same () () ga;refine⟨c++[⟨h,L,H⟩],by rw[aE (lG G)];simp[pM,eY],by rw[aA ()];exact J.same () () gb,by simp[hl2],λx u=>?_,B.put () (),(k6.trans J).put v⟩;rcases aO.mp u with u|u
    ·exact E x u
    ·rw[aI]at u;rw[u];exact⟨⟨by show h < H.length;ext,by show L < H.length;ext,by show H.length<=12;ext,by show ∀l∈H,vS bs H.length l;rw[hll];exact hls⟩,by show H.length<=mL n cnt;ext⟩
   let g:=((k7.trans k8).trans k9).trans ka;by_cases ht:t=1
   ·subst ht;simp![l2,if_true];refine rB Q () () λv2 O h H B J=>?_;let⟨L,u⟩:=wD h;subst u
    try simp![l2]
    refine rB B () () λU sc Y E l C=>?_;let⟨I,q⟩:=wD Y;subst q;let G:sc[o.length]?=some (.lst (c.map pM)):=((g.trans J).trans C).same () () ga;simp![l2,↓eV G,↓oC G,ag,l3];let⟨v,z⟩:=app L I sc () () l ((g.trans J).trans C);exact up ⟨_,_,_,_,_,v,rfl,z⟩
   ·let G:sa[o.length]?=some (.lst (c.map pM)):=g.same () () ga;simp![l2,↓eV G,↓oC G,ag,l3];rw[az ht];let⟨v,z⟩:=app 0 L sa () () Q g;exact up ⟨_,_,_,_,_,v,rfl,z⟩
  ·let⟨x3,x8,x9,x10,x11,c,el,ga,gb,hl2,E,hp6,k6⟩:=hW;subst el
   try simp![]
   refine rB hp6 () () λt U t0 t1 hp7 k7=>?_;let G:U[o.length]?=some (.lst (c.map pM)):=k7.same () () ga;let v:U[s.length]?=some (.lst (bs.map tm)):=k7.same () () gb;by_cases ht:t=0
   ·subst ht;obtain⟨C,g,B⟩:∃C g,c=C::g:=by
     cases c with|nil=>simp at hl2;ext|cons a b=>exact⟨a,b,rfl⟩
    let O:∀Q s,wp (cL (c.map pM) 0) Q s=Q (pM C) s:=λQ s=>by rw[B,aT,uq]
    let ix:MM.oz (c.map pM).length (-1)=some (c.length-1):=by unfold MM.oz;rw[ag,az (),aJ ()];congr 1;ext
    let e9:(c.map pM).set (c.length-1) (pM C)=(c.set (c.length-1) C).map pM:=by rw[vO]
    let ge:∀es,(U.set o.length (MO.lst es))[s.length]?=some (.lst (bs.map tm)):=λes=>by rw[aA ()];exact v
    let Y:∀es,(U.set o.length (MO.lst es))[o.length]?=some (.lst es):=λes=>aE (lG G);let L:∀es Q,wp (getL s.length) Q (U.set o.length (MO.lst es))=Q (bs.map tm) (U.set o.length (MO.lst es)):=λes Q=>eV (ge es);let H:∀es Q,wp (getL o.length) Q (U.set o.length (MO.lst es))=Q es (U.set o.length (MO.lst es)):=λes Q=>eV (Y es);simp![if_true,↓eV G,↓O,↓ue,ix,↓oC G,e9,↓L,↓H,l2];let q:(c.set (c.length-1) C).length=n:=by rw[du];ext
    let mem:∀x∈c.set (c.length-1) C,A3 bs x/\x.lines.length<=mL n cnt:=λx u=>by
     rcases List.mem_or_eq_of_mem_set u with u|u
     ·exact E x u
     ·rw[u];exact E C (by rw[B];simp)
    exact h ⟨bs,c.set (c.length-1) C⟩ _ ⟨⟨by show bs.length<=7;ext,I,by show 2<=(c.set (c.length-1) C).length;ext,by show (c.set (c.length-1) C).length<=3;ext,λx u=>(mem x u).1⟩,by show bs.length<=4;ext,by show ∀b∈bs,b.S<=mS bs.length;rw[hl];exact λb hb=>(J b hb).2,by show ∀y∈c.set (c.length-1) C,y.lines.length<=mL (c.set (c.length-1) C).length bs.length;rw[q,hl];exact λy l=>(mem y l).2⟩ (hp7.put () ()) ((k6.trans k7).put ())
   ·simp![↓eV G,↓eV v,l2];rw[az ht];exact h ⟨bs,c⟩ _ ⟨⟨by show bs.length<=7;ext,I,by show 2<=c.length;ext,by show c.length<=3;ext,λx u=>(E x u).1⟩,by show bs.length<=4;ext,by show ∀b∈bs,b.S<=mS bs.length;rw[hl];exact λb hb=>(J b hb).2,by show ∀y∈c,y.lines.length<=mL c.length bs.length;rw[hl2,hl];exact λy l=>(E y l).2⟩ hp7 (k6.trans k7)
end
open PySem (Str)
def NJ:((("settle":Str)) == "settle")=true:=by nofun
def QI:((("do":Str)) == "settle")=false:=by nofun
noncomputable def dI(h:Hs)(s:Sd)(k:Nat):Ln:=((h.hands[k]?.bind λhd=>s.ls[k]?.bind λl=>hd.lines[l]?)).getD (.settle 0)
def iG(h:Hs)(s:Sd)(k:Nat):Sd:=match dI h s k with
 | .settle _=>s
 | .act b d gs=>match h.boards[b]?,s.ss[b]? with|some bd,some x=>⟨s.ls.set k ((gs[bd.un x d]?).getD 0),s.ss.set b (bd.nx x d)⟩|_,_=>s
section
variable{p q:Nat}{s s1 s2:aV}{Q:D->aV->Prop}{h:Hs}{st:Sd}
def ID{xs:List Nat}{i x:Nat}(h:xs[i]?=some x):wp (cL (xs.map eY) (i:Int)) Q s=Q (.int (x:Nat)) s:=rL (by rw[au,h];rfl)
def F1{k:Nat}(hh:kK h)(v:j_ h st)(B:k < h.hands.length):∃hd l,h.hands[k]?=some hd/\st.ls[k]?=some l/\l < hd.lines.length/\hd.lines[l]?=some (dI h st k)/\vS h.boards hd.lines.length (dI h st k):=by
 let c:h.hands[k]?=some h.hands[k]:=af B;let o:k < st.ls.length:=by rw[v.1];exact B
 let u:st.ls[k]?=some st.ls[k]:=af o;let g:=v.2.2.1 k _ _ c u;let E:h.hands[k].lines[st.ls[k]]?=some (h.hands[k].lines[st.ls[k]]):=af g;let C:dI h st k=h.hands[k].lines[st.ls[k]]:=by unfold dI;rw[c,u];simp only[Option.bind_some,E,gX]
 refine⟨_,_,c,u,g,by rw[E,C],?_⟩;rw[C];exact (hh.2.2.2.2 _ (ax c)).2.2.2 _ (a_ g)
def LS{k:Nat}(hh:kK h)(u:j_ h st)(v:k < h.hands.length):wp (je [ki h,eW st,.int k]) Q s=Q (qC (dI h st k)) s:=by
 let⟨hd,l,E,C,G,B,_⟩:=F1 hh u v;let o:∀Q s,wp (cL (h.hands.map pM) (k:Int)) Q s=Q (.tup [.tup [eY hd.b0,eY hd.b1],.tup (hd.lines.map qC)]) s:=λQ s=>rL (by rw[au,E];rfl);let g:∀Q s,wp (cL (st.ls.map eY) (k:Int)) Q s=Q (.int (l:Nat)) s:=λQ s=>ID C;let c:∀Q s,wp (cL (hd.lines.map qC) (l:Int)) Q s=Q (qC (dI h st k)) s:=λQ s=>rL (by rw[au,B];rfl)
 (simp![je];simp![yl,ki,eW,↓o,↓g,↓c])
def Yt{k:Nat}(hh:kK h)(u:j_ h st)(v:k < h.hands.length):wp (jS [ki h,eW st,.int k]) Q s=Q (qC (dI h st k)) s:=by
 let⟨hd,l,E,C,G,B,_⟩:=F1 hh u v;let o:∀Q s,wp (cL (h.hands.map pM) (k:Int)) Q s=Q (.tup [.tup [eY hd.b0,eY hd.b1],.tup (hd.lines.map qC)]) s:=λQ s=>rL (by rw[au,E];rfl);let g:∀Q s,wp (cL (st.ls.map eY) (k:Int)) Q s=Q (.int (l:Nat)) s:=λQ s=>ID C;let c:∀Q s,wp (cL (hd.lines.map qC) (l:Int)) Q s=Q (qC (dI h st k)) s:=λQ s=>rL (by rw[au,B];rfl)
 (simp![jS];simp![yr,ki,eW,↓o,↓g,↓c])
def Oo{b d:Nat}{m:Nat}(hh:kK h)(C:j_ h st)(G:vS h.boards m (.act b d B)):∃c x g,h.boards[b]?=some c/\st.ss[b]?=some x/\x < c.S/\d < c.dn/\B[c.un x d]?=some g/\g < m/\c.nx x d < c.S/\vy c.S c.dn c.nx c.un:=by
 let⟨c,l,hd,H,u⟩:=G;let I:=(ae.mp l).1;let v:b < st.ss.length:=by rw[C.2.1];exact I
 let E:st.ss[b]?=some st.ss[b]:=af v;let o:=C.2.2.2 b c _ l E;let⟨ok,_⟩:=hh.2.1 c (ax l);let hu:c.un st.ss[b] d < B.length:=by rw[H];have:c.un st.ss[b] d<=mx (c.un · d) c.S:=MG (f:=(c.un · d)) o;ext
 exact⟨c,_,_,l,E,o,hd,af hu,u _ (a_ hu),(ok.2.2.2.2 _ _ o hd).1,ok⟩
def Oy{xs:List D}{i:Nat}(u:i < xs.length)(E:xs.length<=100):wp (jl [.tup xs,.int i,v]) Q s=Q (.tup (xs.set i v)) s:=by
 let c1:¬(iy xs.length 0 none=0/\iy xs.length xs.length (some (i:Int))=xs.length):=by unfold iy;simp only[bA];rw[az ()];ext
 let c:¬(iy xs.length 0 (some ((i:Int)+1))=0/\iy xs.length xs.length none=xs.length):=by unfold iy;dsimp only;rw[az ()];ext
 let C:cutD xs none (some (i:Int))=xs.take i:=by unfold cutD iy;simp only[bA];rw[az (),pj];congr 1;ext
 let B:cutD xs (some ((i:Int)+1)) none=xs.drop (i+1):=by
  unfold cutD iy;have:(if (i:Int)+1 < 0 then ((i:Int)+1+(xs.length:Int)).toNat else min ((i:Int)+1).toNat xs.length)=i+1:=by rw[az ()];ext
  simp only[this];exact oy (by rw[ia];exact ay _)
 let o:1<=fK:=iB ();let l:(xs.take i).length+1<=fK:=iB (by rw[bE];ext);let g:(xs.take i++[v]).length+(xs.drop (i+1)).length<=fK:=iB (by rw[aB,bE,ia];simp;ext)
 (simp![jl];simp![yh,c1,c,not_false_eq_true,C,B,o,l])
 rw[List.set_eq_take_append_cons_drop,aJ u];have:xs.take i++[v]++xs.drop (i+1)=xs.take i++v::xs.drop (i+1):=by simp
 rw[this];exact propext ⟨λz=>z.2,λz=>⟨g,z⟩⟩
def Oe{b d k:Nat}{x g:Nat}(e:dI h st k=.act b d l)(v:h.boards[b]?=some c)(u:st.ss[b]?=some x)(o:l[c.un x d]?=some g):iG h st k=⟨st.ls.set k g,st.ss.set b (c.nx x d)⟩:=by unfold iG;rw[e];dsimp only;rw[v,u];dsimp only;rw[o];rfl
def OO{v k:Nat}(e:dI h st k=.settle v):iG h st k=st:=by unfold iG;rw[e]
def NB{k:Nat}(hh:kK h)(o:j_ h st)(U:k < h.hands.length):j_ h (iG h st k):=by
 let⟨hd,l,e1,e2,hl,e3,ok⟩:=F1 hh o U;cases el:dI h st k with|settle v=>rw[OO el];exact o|act b d gs=>
  rw[el]at ok;let⟨bd,x,g,O,L,f3,f4,Q,q,Y,f8⟩:=Oo hh o ok;rw[Oe el O L Q];refine⟨by show (st.ls.set k g).length=_;rw[du];exact o.1,by show (st.ss.set b _).length=_;rw[du];exact o.2.1,λB C J u H=>?_,λG E I u H=>?_⟩
  ·let c:(st.ls.set k g)[B]?=some J:=H;by_cases e:k=B
   ·subst e;rw[e1]at u;cases u;rw[aE (ae.mp e2).1]at c;cases c;exact q
   ·rw[aA e]at c;exact o.2.2.1 B C J u c
  ·let c:(st.ss.set b (bd.nx x d))[G]?=some I:=H;by_cases e:b=G
   ·subst e;rw[O]at u;cases u;rw[aE (ae.mp L).1]at c;cases c;exact Y
   ·rw[aA e]at c;exact o.2.2.2 G E I u c
def XJ{c:Bd}{x d:Nat}(g:x < c.S)(hd:d < c.dn):wp (jo [nF c.S c.dn c.nx c.un,.int x,.int d]) Q s=Q (.int (c.nx x d:Nat)) s:=by (simp![jo];simp![j4,nF,↓xj g,↓xj hd])
def Vn{c:Bd}{x d:Nat}(g:x < c.S)(hd:d < c.dn):wp (jJ [nF c.S c.dn c.nx c.un,.int x,.int d]) Q s=Q (.int (c.un x d:Nat)) s:=by (simp![jJ];simp![yq,nF,↓xj g,↓xj hd])
def Fl{k:Nat}(hh:kK h)(o:j_ h st)(B:k < h.hands.length):wp (jb [ki h,eW st,.int k]) Q s=Q (eW (iG h st k)) s:=by
 let⟨hd,l,e1,e2,hl,e3,ok⟩:=F1 hh o B;let w:∀Q s,wp (je [ki h,eW st,.int k]) Q s=Q (qC (dI h st k)) s:=λQ s=>LS hh o B;cases el:dI h st k with
 |settle v=>
  rw[OO el];rw[el]at w;simp only[qC]at w
  (simp![jb];simp![yd,↓w,NJ])
 |act b d gs=>
  rw[el]at ok w;let⟨c,x,g,Y,E,U,O,L,f6,f7,f8⟩:=Oo hh o ok;rw[Oe el Y E L];simp only[qC]at w;let u:k < (st.ls.map eY).length:=by rw[ag,o.1];exact B
  let C:b < (st.ss.map eY).length:=by rw[ag];exact (ae.mp E).1
  let z1:=o.1;let z2:=o.2.1;let z3:=hh.1;let z4:=hh.2.2.2.1;let w1:∀Q s,wp (cL (h.boards.map tm) (b:Int)) Q s=Q (.tup [nF c.S c.dn c.nx c.un,eY c.st]) s:=λQ s=>rL (by rw[au,Y];rfl);let J:∀Q s,wp (cL (st.ss.map eY) (b:Int)) Q s=Q (.int (x:Nat)) s:=λQ s=>ID E;let I:∀Q s,wp (cL (gs.map eY) ((c.un x d:Nat):Int)) Q s=Q (.int (g:Nat)) s:=λQ s=>ID L;let w4:∀Q s,wp (jJ [nF c.S c.dn c.nx c.un,.int x,.int d]) Q s=Q (.int (c.un x d:Nat)) s:=λQ s=>Vn U O;let q:∀Q s,wp (jo [nF c.S c.dn c.nx c.un,.int x,.int d]) Q s=Q (.int (c.nx x d:Nat)) s:=λQ s=>XJ U O;let H:∀Q s,wp (jl [.tup (st.ls.map eY),.int k,.int g]) Q s=Q (.tup ((st.ls.map eY).set k (.int g))) s:=λQ s=>Oy u (by rw[ag];ext);let G:∀Q s,wp (jl [.tup (st.ss.map eY),.int b,.int (c.nx x d:Nat)]) Q s=Q (.tup ((st.ss.map eY).set b (.int (c.nx x d:Nat)))) s:=λQ s=>Oy C (by rw[ag];ext);let l2:2<=fK:=iB ();unfold eY at w;let nd:∀n:Nat,D.int (n:Int)=eY n:=λ_=>rfl
  (simp![jb];simp![yd,↓w,QI,aR,if_false])
  unfold ki eW;unfold eY at J I H G ⊢;simp![↓w1,↓J,↓I,↓w4,↓q,↓H,↓G,l2];rw[vO,vO]
def UB{s:Sd}:Pd 2 (eW s):=.tup λd hd=>by
 let c:∀(xs:List Nat),Pd 1 (.tup (xs.map eY)):=λxs=>.tup λd hd=>by let⟨n,_,e⟩:=bQ.mp hd;rw[<- e];exact .int _
 simp at hd;rcases hd with e|e<;>rw[e]<;>exact c _
end
open PySem (Str)
def d7.ext{p q:Nat}(h:d7 s p q)(x:eD s g):d7 g p q:=by let⟨a,c,u,o,l,r⟩:=h.ex;exact⟨h.ne,a,c,u,x.at_ o,x.at_ l,r⟩
noncomputable def pQ:Nat->List (List D)
 |0=>[[]]|n+1=>((pQ n).map λx=>x++[.int 0])++((pQ n).map λx=>x++[.int 1])
noncomputable def mv:Nat->List (List D)
 |0=>[[]]|n+1=>((mv n).map λx=>.int 0::x)++((mv n).map λx=>.int 1::x)
theorem PQ:∀n,∀x∈pQ n,x.length=n
 |0,x,h=>by simp[pQ]at h;simp[h]|n+1,x,h=>by simp only[pQ,aO,bQ]at h;rcases h with ⟨y,c,e⟩|⟨y,c,e⟩<;>rw[<- e]<;>simp[PQ n y c]
theorem RG:∀n,(pQ n).length=2^n
 |0=>rfl|n+1=>by simp only[pQ,aB,ag,RG n,oM];ext
theorem M_:∀n,(mv n).length=2^n
 |0=>rfl|n+1=>by simp only[mv,aB,ag,M_ n,oM];ext
theorem Eh:∀n,∀x∈mv n,x.length=n/\∀(k:Nat)d,x[k]?=some d->d=.int 0\/d=.int 1
 |0,x,h=>by simp[mv]at h;simp[h]
 |n+1,x,h=>by
  simp only[mv,aO,bQ]at h;rcases h with ⟨y,c,e⟩|⟨y,c,e⟩
  ·let⟨a,b⟩:=Eh n y c;rw[<- e];refine⟨by simp[a],λk d hd=>?_⟩;cases k with|zero=>exact .inl (by simpa using hd.symm)|succ k=>exact b k d (by simpa using hd)
  ·let⟨a,b⟩:=Eh n y c;rw[<- e];refine⟨by simp[a],λk d hd=>?_⟩;cases k with|zero=>exact .inr (by simpa using hd.symm)|succ k=>exact b k d (by simpa using hd)
theorem WD:u8 ((pQ 2).map D.tup)=some ((mv 2).map D.tup):=by rfl
theorem U4:u8 ((pQ 3).map D.tup)=some ((mv 3).map D.tup):=by rfl
section
variable{s:aV}{Q:D->aV->Prop}{h:Hs}
def NP{xs:List (List D)}{v:Int}{n:Nat}(g:s[n]?=some (.lst (xs.map D.tup)))(q:∀x∈xs,x.length<=100):wp (collect (aS 0) bZ (c2 fX (ao 0) (eE (aw (aQ (.int v)) bn))) (fW n (xs.map D.tup)) (xs.map D.tup) [none]) A s=A ((xs.map λx=>x++[.int v]).map D.tup) s:=by
 let o:1<=fK:=iB ();have:=@Cn (c2 fX (ao 0) (eE (aw (aQ (.int v)) bn))) (fW n (xs.map D.tup)) (xs.map D.tup) [] (λi=>.tup ((xs.getD i [])++[.int v])) A s g (λi d hd Q=>by
  rw[au]at hd;cases ex:xs[i]? with|none=>rw[ex]at hd;cases hd|some x=>
   rw[ex]at hd;let B:d=.tup x:=(aF hd).symm;subst B;let l:x.length+1<=fK:=iB (by have:=q x (ax ex);ext);let u:xs.getD i []=x:=by rw[fv,ex];rfl
   simp![o,l,u])
 rw[this,ag];congr 1;symm;apply E4
 ·simp
 ·intro i c;rw[au,au,af c];simp[c]
def QlW(Y:h.hands.length=2\/h.hands.length=3)(U:∀r c,s.length<=r->c[r]?=some (.lst ((mv h.hands.length).map D.tup))->eD s c->Q (.ref r) c):wp (jv [ki h]) Q s:=by
 let L:0<=fK:=bH _;let J:1<=fK:=iB ()
 (simp![jv];simp![jZ,ki,L,J])
 refine uK (λi l c=>∃n B,l=[some (.tup [.tup (h.boards.map tm),.tup (h.hands.map pM)]),some (.ref n),B]/\c[n]?=some (.lst ((pQ i).map D.tup))/\eD s c) (λ_ _ _ _=>trivial) ⟨_,_,rfl,by simp[pQ],(eD.refl _).snoc _⟩ (λRw i d l c up rt hd C=>?_) (λl c C=>?_)
 ·let⟨n,B,el,g,ex⟩:=C;subst el;let h:=(ae.mp hd).1;rw[ag]at h;let L:=RG i;let Q:2^i<=8:=by
   have:i<=3:=by ext
   calc 2^i<=2^3:=Nat.pow_le_pow_right () this
    _=8:=rfl
  let o:∀x∈pQ i,x.length<=100:=λx O=>by have:=PQ i x O;ext
  let G:(pQ i).length<=fK:=iB ();let l:∀A,wp (collect (aS 0) bZ (c2 fX (ao 0) (eE (aw (aQ (.int 0)) bn))) (fW n ((pQ i).map D.tup)) ((pQ i).map D.tup) [none]) A c=A (((pQ i).map λx=>x++[.int 0]).map D.tup) c:=λA=>NP g o;simp![↓eV g,ii,ag,G,↓l];let u:eD c (c++[.lst (((pQ i).map λx=>x++[.int 0]).map D.tup)]):=(eD.refl _).snoc _;let I:(c++[MO.lst (((pQ i).map λx=>x++[.int 0]).map D.tup)])[c.length]?=some (.lst (((pQ i).map λx=>x++[.int 0]).map D.tup)):=by simp
  generalize c++[MO.lst (((pQ i).map λx=>x++[.int 0]).map D.tup)]=q at u I;let E:∀A,wp (collect (aS 0) bZ (c2 fX (ao 0) (eE (aw (aQ (.int 1)) bn))) (fW n ((pQ i).map D.tup)) ((pQ i).map D.tup) [none]) A q=A (((pQ i).map λx=>x++[.int 1]).map D.tup) q:=λA=>NP (u.at_ g) o;simp![↓eV (u.at_ g),ii,ag,G,↓E];let v:eD q (q++[.lst (((pQ i).map λx=>x++[.int 1]).map D.tup)]):=(eD.refl _).snoc _;let H:(q++[MO.lst (((pQ i).map λx=>x++[.int 1]).map D.tup)])[q.length]?=some (.lst (((pQ i).map λx=>x++[.int 1]).map D.tup)):=by simp
  generalize q++[MO.lst (((pQ i).map λx=>x++[.int 1]).map D.tup)]=J at v H;rw[S6 (v.at_ I) H];refine⟨iB (by simp;ext),?_⟩;simp![];refine up ⟨_,_,rfl,?_,((ex.trans u).trans v).snoc _⟩;simp[pQ]
 ·let⟨n,B,el,g,ex⟩:=C;subst el;rw[ag]at g;let ks:u8 ((pQ h.hands.length).map D.tup)=some ((mv h.hands.length).map D.tup):=by
   rcases Y with e|e<;>rw[e]
   ·exact WD
   ·exact U4
  let ws:∀Q,wp (pP (.ref n)) Q c=Q (.ref c.length) (c++[.lst ((mv h.hands.length).map D.tup)]):=λQ=>by unfold pP;rw[d8,eV g,ks];dsimp only;rw[gR]
  simp![↓ws];exact U _ _ ex.le (by simp) (ex.snoc _)
noncomputable def bf(h:Hs)(row:List D)(k:Nat):Nat:=match h.hands[k]?,row[k]? with|some hd,some (.int v)=>if v=0 then hd.b0 else hd.b1|_,_=>0
noncomputable def DY(h:Hs)(k:Nat):Nat:=(h.boards[k]?.map (·.st)).getD 0
def nj(h:Hs)(row:List D):Sd:=⟨bu h.hands.length (bf h row),bu h.boards.length (DY h)⟩
def Ut{row:List D}(hh:kK h)(E:row∈mv h.hands.length):j_ h (nj h row):=by
 let⟨C,c⟩:=Eh _ row E;refine⟨l_,l_,λk hd l g u=>?_,λb H x g u=>?_⟩
 ·let⟨G,el⟩:=Ca u;let⟨B,o,_⟩:=hh.2.2.2.2 hd (ax g);let q:k < row.length:=by ext
  let v:row[k]?=some row[k]:=af q;rw[el];unfold bf;rcases c k _ v with e|e<;>rw[g,v,e]
  ·exact B
  ·exact o
 ·let⟨G,el⟩:=Ca u;let⟨_,o⟩:=hh.2.1 H (ax g);rw[el];unfold DY;rw[g];exact o
def Yb{row:List D}{k:Nat}{Q:D->aV->Prop}(u:row∈mv h.hands.length)(B:k < h.hands.length):∃(hd:Hd)(v:Int),h.hands[k]?=some hd/\row[k]?=some (.int v)/\(v=0/\bf h row k=hd.b0\/v=1/\bf h row k=hd.b1):=by
 let⟨q,g⟩:=Eh _ row u;let l:h.hands[k]?=some h.hands[k]:=af B;let o:k < row.length:=by ext
 let c:row[k]?=some row[k]:=af o;rcases g k _ c with e|e<;>rw[e]at c
 ·exact⟨_,0,l,c,.inl ⟨rfl,by unfold bf;rw[l,c];rfl⟩⟩
 ·exact⟨_,1,l,c,.inr ⟨rfl,by unfold bf;rw[l,c];rfl⟩⟩
end
open PySem (Str)
def Tr{g:CG}{t:CT}{e:CE}{same:aV->Prop}{ds:List D}{f:Nat->D}{p:Nat->Bool}(I:Loc->Prop)(hs:same s)(h0:I H)(h:∀i d l,ds[i]?=some d->I l->∃u,(∀G,wp (g d l) G s=G u s)/\I u/\(∀T,wp (t u) T s=T (p i) s)/\∀Q,wp (e u) Q s=Q (f i) s):wp (collect g t e same ds H) Q s=Q (((b_ ds.length).filter p).map f) s:=by
 let chk:∀{R:Unit->aV->Prop},R Unit.unit s->wp (chkS same) R s:=λr=>by rw[sN];unfold chkS;rw[aJ hs];exact r
 apply Pm;refine IS (Q:=λc q=>c=((b_ ds.length).filter p).map f/\q=s) (λc xs l q=>∃i,xs=ds.drop i/\i<=ds.length/\I l/\c=((b_ i).filter p).map f/\q=s) (λc l q C=>?_) (λc d xs l q C=>?_) ds [] _ s ⟨0,by simp,bH _,h0,rfl,rfl⟩
 ·let⟨i,v,hi,_,B,es⟩:=C;have:i=ds.length:=by have:=cQ dZ v;simp at this;ext
  subst this;subst es;exact chk ⟨B,rfl⟩
 ·let⟨i,v,hi,c,B,es⟩:=C;let o:i < ds.length:=by have:=cQ dZ v;simp at this;ext
  rw[dF o]at v;let⟨g,L⟩:=mI v;let⟨u,Y,E,O,U⟩:=h i d l (by rw[g];exact af o) c;subst es;refine chk ?_;rw[Y,O];cases J:p i with
  |true=>
   rw[aJ rfl,U];exact⟨i+1,L,o,E,by rw[B,kC,qu,bC];simp[J],rfl⟩
  |false=>
   rw[az (by simp)];exact⟨i+1,L,o,E,by rw[B,kC,qu,bC];simp[J],rfl⟩
def sW:Ln->D
 | .settle v=>eY v| .act _ _ _=>.non
noncomputable def si:Ln->Bool
 | .settle _=>false| .act _ _ _=>true
def G5(h:Hs)(st:Sd):List D:=bu h.hands.length λk=>sW (dI h st k)
def zu(h:Hs)(st:Sd)(n:Nat):List D:=((b_ n).filter λk=>si (dI h st k)).map λk=>.int (k:Nat)
section
variable{s:aV}{Q:D->aV->Prop}{h:Hs}{st:Sd}
def ZP:wp (jj [qC c]) Q s=Q (sW c) s:=by
 cases c with|settle v=>(simp![jj];simp![jT,qC,sW,NJ,if_true])|act b d gs=>(simp![jj];simp![jT,qC,sW,QI,aR,if_false])
def PH:wp (aZ (ki h) (.int 1)) Q s=Q (.tup (h.hands.map pM)) s:=by unfold ki;rw[uf,uu]
def Ql2(hh:kK h)(q:j_ h st):wp (jG [ki h,eW st]) Q s=Q (.tup (G5 h st)) s:=by
 let B:=hh.2.2.2.1;let v:=wx (show h.hands.length<=100 by ext);let o:h.hands.length<=fK:=iB ();let l:∀Q s,wp (aZ (ki h) (.int 1)) Q s=Q (.tup (h.hands.map pM)) s:=λQ s=>PH;let w:∀A s,wp (collect (aS 0) bZ (bO jj (aw (bO je (aw (ao 1) (aw (ao 2) (aw (ao 0) bn)))) bn)) eS (bu h.hands.length λi=>.int i) [none,some (ki h),some (eW st)]) A s=A (G5 h st) s:=λA s=>yB vX λk u Q=>by have g:∀Q s,wp (je [ki h,eW st,.int k]) Q s=Q (qC (dI h st k)) s:=λQ s=>LS hh q u;have c:∀Q s,wp (jj [qC (dI h st k)]) Q s=Q (sW (dI h st k)) s:=λQ s=>ZP;simp![↓g,↓c]
 (simp![jG];simp![yn,↓l,ag,v,ii,bA,uj,l_,o,↓w])
def Ze{c:Ln}{T:Bool->aV->Prop}: wp (tj (sW c) .non) (λx g=>match x with
  | .bl b=>T b g
  |_=>False) s=T (si c) s:=by
 cases c<;>(unfold sW si eY tj Gx;rw[cE])
def rO(hh:kK h)(o:j_ h st):wp (jy [ki h,eW st]) Q s=Q (.ref s.length) (s++[.lst (zu h st h.hands.length)]):=by
 let u:=hh.2.2.2.1;let g:h.hands.length<=fK:=iB ();let ws:∀Q s,wp (jG [ki h,eW st]) Q s=Q (.tup (bu h.hands.length λk=>sW (dI h st k))) s:=λQ s=>Ql2 hh o;let w:∀A s,wp (collect (gq 2 (cC (aS 0) (cC (aS 1) gD))) (cV (c2 tj (ao 1) (aQ .non))) (ao 0) eS (bu h.hands.length λi=>.tup [.int i,sW (dI h st i)]) [none,none]) A s=A (zu h st h.hands.length) s:=λA s=>by
  rw[Tr (f:=λk=>.int (k:Nat)) (p:=λk=>si (dI h st k)) (λl=>∃x y,l=[x,y]) vX ⟨_,_,rfl⟩ (λi d l hd c=>by
   let⟨x,y,el⟩:=c;let⟨v,q⟩:=Ca hd;refine⟨[some (.int i),some (sW (dI h st i))],λG=>?_,⟨_,_,rfl⟩,λT=>?_,λQ=>?_⟩
   ·rw[q,el,uz,nK,gS,nK,gS,ut];exact propext ⟨λh=>h.2,λh=>⟨rfl,h⟩⟩
   ·simp only[↓BC,↓Fh,↓lR,↓wG,nZ,List.getElem?_cons_succ];exact Ze
   ·simp only[↓lR,nZ]),l_]
  rfl
 (simp![jy];simp![yu,↓ws,l_,Za,ii,g,↓w])
def Wo{row:List D}(l:row∈mv h.hands.length):wp (collect (gq 2 (cC (aS 0) (cC (aS 1) gD))) bZ (c2 aZ (c2 aZ (ao 0) (aQ (.int 0))) (ao 1)) eS ((h.hands.map pM).zipWith (λp q=>D.tup [p,q]) row) [none,none]) A s=A (bu h.hands.length λk=>eY (bf h row k)) s:=by
 let⟨u,g⟩:=Eh _ row l;let c:((h.hands.map pM).zipWith (λp q=>D.tup [p,q]) row).length=h.hands.length:=by rw[hU,ag];ext
 rw[Ei (f:=λk=>eY (bf h row k)) (caps:=[]) vX (λi d hd=>by
  let B:i < h.hands.length:=by rw[<- c];exact (ae.mp hd).1
  let⟨C,v,H,G,E⟩:=Yb (Q:=λ_ _=>True) l B;rw[eQ,au,H,G]at hd;refine⟨_,_,(aF hd).symm,λQ=>?_⟩;rcases E with ⟨e,o⟩|⟨e,o⟩<;>subst e<;>rw[o]<;>simp![pM]),c]
def OX{row:List D}(hh:kK h)(v:row∈mv h.hands.length):wp (jA [ki h,.tup row]) Q s=Q (eW (nj h row)) s:=by
 let⟨J,u⟩:=Eh _ row v;let U:=hh.1;let O:=hh.2.2.2.1;let H:2<=fK:=iB ();let G:h.boards.length<=fK:=iB ();let E:((h.hands.map pM).zipWith (λp q=>D.tup [p,q]) row).length<=fK:=iB (by rw[hU,ag];ext);let c : ∀{a b : CE}{I : Wk -> aV -> Prop}{l : Loc}{s : aV}, wp (u_ a b l) I s = wp (a l) (λx o => wp (b l) (λy g => match x, y with
   | .tup ds,.tup es=>I ⟨ds.zipWith (λp q=>.tup [p,q]) es,eS⟩ g
   |_,_=>False) o) s:=λ{a b I l s}=>by
  unfold u_;rw[d8];congr 1;funext x o;rw[d8];congr 1;funext y g;cases x<;>cases y<;>first|exact cE|exact gQ|exact vt rfl|exact c6 rfl
 let C:∀A s,wp (collect (gq 2 (cC (aS 0) (cC (aS 1) gD))) bZ (c2 aZ (c2 aZ (ao 0) (aQ (.int 0))) (ao 1)) eS ((h.hands.map pM).zipWith (λp q=>D.tup [p,q]) row) [none,none]) A s=A (bu h.hands.length λk=>eY (bf h row k)) s:=λA s=>Wo v;let B:∀A s,wp (collect (gq 2 (cC (aS 0) (cC (aS 1) gD))) bZ (ao 1) eS (h.boards.map tm) [none,none]) A s=A (bu h.boards.length λk=>eY (DY h k)) s:=λA s=>by
  rw[Ei (f:=λk=>eY (DY h k)) (caps:=[]) vX (λi d hd=>by
   rw[au]at hd;cases ex:h.boards[i]? with|none=>rw[ex]at hd;cases hd|some x=>
    rw[ex]at hd;let L:DY h i=x.st:=by unfold DY;rw[ex];rfl
    refine⟨_,_,(aF hd).symm,λQ=>?_⟩;rw[L];simp![]),ag]
 (simp![jA];simp![yt,ki,↓c,ii,E,↓C,ag,G,↓B,H])
 unfold eW nj;dsimp only;rw[K6,K6]
end
open PySem (Str)
noncomputable def Ar:List Bd->Nat
 |[]=>1|b::bs=>b.S*Ar bs
section
variable{h:Hs}
def xq(h:Hs)(st:Sd):Nat:=sP (mL h.hands.length h.boards.length) st.ls*Ar h.boards+oE (h.boards.map (·.S)) st.ss
theorem Mq:∀bs:List Bd,pr (bs.map (·.S))=Ar bs
 |[]=>rfl|b::bs=>by show b.S*pr (bs.map (·.S))=b.S*Ar bs;rw[Mq bs]
def JA{B:Nat}{st:Sd}(l:j_ h st)(u:∀x∈h.hands,x.lines.length<=B):∀x∈st.ls,x < B:=λx q=>by
 let⟨k,o⟩:=gG q;let g:=(ae.mp o).1;let c:k < h.hands.length:=by rw[<- l.1];exact g
 let e:=af c;let C:=l.2.2.1 k _ _ e o;let v:=u _ (a_ c);ext
def Gk{st:Sd}(l:j_ h st):∀(i b x:Nat),(h.boards.map (·.S))[i]?=some b->st.ss[i]?=some x->x < b:=λi b x c g=>by
 rw[au]at c;cases e:h.boards[i]? with|none=>rw[e]at c;cases c|some bd=>
  rw[e]at c;cases c;exact l.2.2.2 i bd x e g
theorem Ov{K:Nat}:∀{bs:List Bd},(∀b∈bs,b.S<=K)->Ar bs<=K^bs.length
 |[],_=>ay _|b::bs,hb=>by have l:=Ov (bs:=bs) λx c=>hb x (by simp[c]);have g:=hb b (by simp);rw[bU,oM,iY];exact Nat.mul_le_mul g l
def Qma{n c:Nat}(g:n=2\/n=3)(l:c<=4):mL n c^n*mS c^c<=324:=by rcases g with rfl|rfl<;>rcases Ad l with rfl|rfl|rfl|rfl|rfl<;>decide
def PX(g:xt h):∃B:Nat,(mL h.hands.length h.boards.length)=B/\(∀x∈h.hands,x.lines.length<=B)/\B^h.hands.length*Ar h.boards<=324:=by let⟨hh,o,l,c⟩:=g;refine⟨_,rfl,c,c5 (Nat.mul_le_mul_left _ (Ov l)) (Qma ?_ o)⟩;have:=hh.2.2.1;have:=hh.2.2.2.1;ext
def XV{st:Sd}(o:xt h)(c:j_ h st):xq h st < 324:=by let⟨B,e,l,u⟩:=PX o;let g:=Jm (JA c l);let q:=El (by rw[ag];exact c.2.1) (Gk c);rw[Mq]at q;unfold xq;rw[e];rw[c.1]at g;have:(sP B st.ls+1)*Ar h.boards<=B^h.hands.length*Ar h.boards:=pI _ g;rw[ww]at this;ext
def Qmd(I:xt h)(g:j_ h a)(c:j_ h b)(e:xq h a=xq h b):a=b:=by
 let⟨B,J,v,L⟩:=PX I;let o:=El (by rw[ag];exact g.2.1) (Gk g);let l:=El (by rw[ag];exact c.2.1) (Gk c);rw[Mq]at o l;unfold xq at e;rw[J]at e;let q:sP B a.ls=sP B b.ls/\oE (h.boards.map (·.S)) a.ss=oE (h.boards.map (·.S)) b.ss:=by
  generalize Ar h.boards=p at e o l;let u:0 < p:=by ext
  let H:(sP B a.ls*p+oE (h.boards.map (·.S)) a.ss) / p=sP B a.ls:=by rw[iY,kG u,iZ o];simp
  let G:(sP B b.ls*p+oE (h.boards.map (·.S)) b.ss) / p=sP B b.ls:=by rw[iY,kG u,iZ l];simp
  have:sP B a.ls=sP B b.ls:=by rw[<- H,<- G,e]
  rw[this]at e;exact⟨this,by ext⟩
 let E:=Qx (by rw[g.1,c.1]) (JA g v) (JA c v) q.1;let C:=Qt (by rw[ag];exact g.2.1) (by rw[ag];exact c.2.1) (Gk g) (Gk c) q.2;cases a;cases b;simp only at E C;rw[E,C]
theorem O0{α β:Type}{f:α->β}:∀{l:List α},l.Nodup->(∀a∈l,∀b∈l,f a=f b->a=b)->(l.map f).Nodup
 |[],_,_=>ua|x::xs,hn,hi=>by let⟨v,u⟩:=lW.mp hn;rw[aT];refine lW.mpr ⟨λg=>?_,O0 u λa q b o=>hi a (by simp[q]) b (by simp[o])⟩;let⟨y,c,e⟩:=bQ.mp g;have:=hi y (by simp[c]) x (by simp) e;exact v (this ▸ c)
def few{l:List Sd}(o:xt h)(u:l.Nodup)(c:∀x∈l,j_ h x):l.length<=324:=by
 have:=BA 324 (l.map (xq h)) (O0 u λa g b v e=>Qmd o (c a g) (c b v) e) (λx q=>by let⟨a,g,e⟩:=bQ.mp q;rw[<- e];exact XV o (c a g))
 rwa [ag]at this
def Ab(st:Sd):om true (eW st)=true:=Zg st.ls st.ss
def IW(a b:Sd):kr (eW a) (eW b)=decide (a=b):=by
 have:=T1 a.ls a.ss b.ls b.ss
 show kr (eW a) (eW b)=_;unfold eW;refine this.trans ?_;cases a;cases b;simp only[Sd.mk.injEq,lY]
end
noncomputable def lC(xs:List Sd)(x:Sd):List Sd:=if x∈xs then xs else xs++[x]
def e_(h:Hs)(st:Sd):List Nat:=(b_ h.hands.length).filter λk=>si (dI h st k)
def sI(h:Hs)(x:Sd)(ks:List Nat)(xs:List Sd):List Sd:=ks.foldl (λys k=>lC ys (iG h x k)) xs
def pq(h:Hs)(rows:List (List D)):List Sd:=rows.foldl (λys row=>lC ys (nj h row)) []
def fD(h:Hs):Nat->List Sd
 |0=>pq h (mv h.hands.length)
 |i+1=>match (fD h i)[i]? with|some x=>sI h x (e_ h x) (fD h i)|none=>fD h i
def Good(h:Hs)(xs:List Sd):Prop:=xs.Nodup/\∀x∈xs,j_ h x
section
variable{h:Hs}
def Op(g:Good h xs)(l:j_ h x):Good h (lC xs x):=by
 unfold lC;by_cases e:x∈xs
 ·rw[aJ e];exact g
 ·rw[az e];refine⟨c9.mpr ⟨g.1,by simp,λa q b o=>?_⟩,λy c=>?_⟩
  ·rw[aI.mp o];exact λz=>e (z ▸ q)
  ·rcases aO.mp c with c|c
   ·exact g.2 y c
   ·rw[aI.mp c];exact l
theorem JM(hh:kK h)(c:j_ h x):∀{ks:List Nat}{xs:List Sd},(∀k∈ks,k < h.hands.length)->Good h xs->Good h (sI h x ks xs)
 |[],_,_,g=>g|k::ks,xs,hk,g=>JM hh c (ks:=ks) (λy l=>hk y (by simp[l])) (Op g (NB hh c (hk k (by simp))))
theorem Nt(hh:kK h):∀{rows:List (List D)}{xs:List Sd},(∀r∈rows,r∈mv h.hands.length)->Good h xs->Good h (rows.foldl (λys row=>lC ys (nj h row)) xs)
 |[],_,_,g=>g|r::rows,xs,hr,g=>Nt hh (rows:=rows) (λy c=>hr y (by simp[c])) (Op g (Ut hh (hr r (by simp))))
def xE{st:Sd}{k:Nat}(c:k∈e_ h st):k < h.hands.length:=dY.mp (kt.mp c).1
theorem z0(hh:kK h):∀i,Good h (fD h i)
 |0=>Nt hh (λr c=>c) ⟨ua,by simp⟩
 |i+1=>by
  let g:=z0 hh i;unfold fD;cases e:(fD h i)[i]? with|none=>exact g|some x=>exact JM hh (g.2 x (ax e)) (λk l=>xE l) g
def Ny(xs:List Sd)(x:Sd):∃t,lC xs x=xs++t:=by
 unfold lC;by_cases e:x∈xs
 ·exact⟨[],by rw[aJ e];simp⟩
 ·exact⟨[x],by rw[az e]⟩
theorem JO:∀(ks:List Nat)(xs:List Sd),∃t,sI h x ks xs=xs++t
 |[],xs=>⟨[],by simp[sI]⟩
 |k::ks,xs=>by
  let⟨t,e⟩:=Ny xs (iG h x k);let⟨u,f⟩:=JO (x:=x) ks (lC xs (iG h x k));refine⟨t++u,?_⟩
  show sI h x ks (lC xs (iG h x k))=_;rw[f,e,bz]
def Iu(i:Nat):∃t,fD h (i+1)=fD h i++t:=by
 show ∃t,(match (fD h i)[i]? with
  |some x=>sI h x (e_ h x) (fD h i)
  |none=>fD h i)=_
 cases (fD h i)[i]? with|none=>exact⟨[],by simp⟩|some x=>exact JO _ _
def Om{i j:Nat}(c:i<=j):(fD h i).length<=(fD h j).length:=by
 induction j with|zero=>cases Nat.le_zero.mp c;exact ay _|succ j ih=>
  by_cases e:i=j+1
  ·subst e;exact ay _
  ·let⟨t,g⟩:=Iu (h:=h) j;rw[g,aB];have:=ih ();ext
def sF(h:Hs)(i:Nat):Prop:=∀j,j < i->j < (fD h j).length
def qw(h:Hs)(i:Nat):Prop:=sF h i/\(fD h i).length<=i
def qw.uniq{i j:Nat}(a:qw h i)(b:qw h j):i=j:=by
 rcases Nat.lt_trichotomy i j with e|e|e
 ·have:=b.1 i e;have:=a.2;ext
 ·exact e
 ·have:=a.1 j e;have:=b.2;ext
def CL(c:xt h){i:Nat}(g:sF h i):(fD h i).length<=324/\i<=324:=by
 let l:=few c (z0 c.1 i).1 (z0 c.1 i).2;refine⟨l,?_⟩;cases i with|zero=>ext|succ i=>
  have:=g i ();have:=Om (h:=h) (show i<=i+1 by ext);ext
end
open PySem (Str)
section
variable{no nd:Nat}
theorem NN{st:Sd}:zu h st h.hands.length=(e_ h st).map λk=>.int (k:Nat):=rfl
def Xm{ks:List Nat}{j k:Nat}(e:ks[j]?=some k):sI h x (ks.take (j+1)) xs=lC (sI h x (ks.take j) xs) (iG h x k):=by let⟨c,g⟩:=ae.mp e;rw[lc c,g];unfold sI;rw[nB];rfl
def Qmt{rows:List (List D)}{j:Nat}(e:rows[j]?=some r):pq h (rows.take (j+1))=lC (pq h (rows.take j)) (nj h r):=by let⟨c,g⟩:=ae.mp e;rw[lc c,g];unfold pq;rw[nB];rfl
end
open PySem (Str)
section
variable{s u:aV}{Q:D->aV->Prop}{h:Hs}{no nd:Nat}{xs:List Sd}
def O9{a b c:CE}: wp (pX a b c l) Q s=wp (a l) (λx q=>match x with
  | .dic n=>wp (getDc n) (λp o=>p.1=true/\wp (b l) (λy g=>wp (c l) (λz v=>wp (mK n y z) Q v) g) o) q
  |_=>False) s:=by
 unfold pX;rw[d8];refine iU λx q=>?_;cases x with
 |dic n=>
  dsimp only;rw[d8];refine iU λp o=>?_;rw[eJ,d8];refine cQ _ (iU λy g=>?_);rw[d8]
 |_=>exact vt rfl
def UC{n:Nat}(g:s[n]?=some (.dct true c))(q:om true k=true)(o:c.length < fK)(e:m_ c k=some d):wp (mK n k v) Q s=Q d s:=by unfold mK;rw[d8,yS g,eJ];dsimp only;rw[e];dsimp only;rw[cE];exact propext ⟨λz=>z.2,λz=>⟨⟨rfl,q,o⟩,z⟩⟩
def WR{n:Nat}(g:s[n]?=some (.dct true c))(q:om true k=true)(o:c.length < fK)(e:m_ c k=none):wp (mK n k v) Q s=Q v (s.set n (.dct true (nJ c k v))):=by unfold mK;rw[d8,yS g,eJ];dsimp only;rw[e];dsimp only;rw[d8,P5 g,cE];exact propext ⟨λz=>z.2,λz=>⟨⟨rfl,q,o⟩,z⟩⟩
def WZ{n:Nat}(g:s[n]?=some (.dct true c)):wp (qF (.dic n)) Q s=Q (.ref s.length) (s++[.lst (c.map (·.1))]):=by unfold qF;dsimp only;rw[d8,yS g,eJ,gR];exact propext ⟨λz=>z.2,λz=>⟨rfl,z⟩⟩
noncomputable def vp:Nat->List (List D)
 |0=>[[]]|n+1=>(vp n).flatMap λx=>[x++[.int 0],x++[.int 1]]
def T4{n:Nat}(c:n=2\/n=3):vp n=mv n:=by rcases c with rfl|rfl<;>rfl
theorem RU:∀n,∀x∈vp n,x.length=n
 |0,x,h=>by simp[vp]at h;simp[h]|n+1,x,h=>by let⟨y,c,e⟩:=List.mem_flatMap.mp h;have:=RU n y c;simp at e;rcases e with e|e<;>rw[e]<;>simp[this]
theorem OZ:∀n,(vp n).length=2^n
 |0=>rfl
 |n+1=>by
  have:∀l:List (List D),(l.flatMap λx=>[x++[D.int 0],x++[D.int 1]]).length=2*l.length:=by
   intro l
   induction l with|nil=>rfl|cons a t ih=>rw[zV,aB,ih,bU];simp;ext
  show ((vp n).flatMap _).length=_;rw[this,OZ n,oM];ext
def Ti(hh:kK h)(hq:∀r u,s.length<=r->u[r]?=some (.lst ((mv h.hands.length).map D.tup))->eD s u->Q (.ref r) u):wp (jE [ki h]) Q s:=by
 let hn:h.hands.length=2\/h.hands.length=3:=by have:=hh.2.2.1;have:=hh.2.2.2.1;ext
 let U:1<=fK:=iB ();let wh:∀(Q:D->aV->Prop)s,wp (aZ (ki h) (.int 1)) Q s=Q (.tup (h.hands.map pM)) s:=λQ s=>PH
 (simp![jE];simp![ya,bH,U,↓wh])
 refine uK (λi l u=>∃(n:Nat)(L J o:Option D),l=[some (ki h),some (.ref n),L,J,o]/\s.length<=n/\u[n]?=some (.lst ((vp i).map D.tup))/\eD s u) (λ_ _ _ _=>trivial)
  ⟨_,_,_,_,rfl,ay _,o7,(eD.refl _).snoc _⟩ (λRw1 i d l u up1 rt1 hd q=>?_) (λl u q=>?_)
 ·let⟨n,L,J,o,el,G,g,ex⟩:=q;subst el;let hi:=(ae.mp hd).1;rw[ag]at hi;let hi3:i < 3:=by ext
  let hcn:=OZ i;let hp:2^i<=8:=by rcases (show i=0\/i=1\/i=2 by ext) with rfl|rfl|rfl<;>decide
  let Y:(u++[MO.lst []])[n]?=some (.lst ((vp i).map D.tup)):=uI g;let lnn:=lG g;simp![bH,↓eV Y];refine uK (λj l v=>∃o,l=[some (ki h),some (.ref n),some d,some (.ref u.length),o]/\v[n]?=some (.lst ((vp i).map D.tup))/\v[u.length]?=some (.lst ((((vp i).take j).flatMap λx=>[x++[.int 0],x++[.int 1]]).map D.tup))/\eD s v) (λ_ _ _ w=>by let⟨_,_,g,_⟩:=w;exact g)
   ⟨_,rfl,Y,o7,ex.snoc _⟩ (λRw2 j e l v O rt2 H q=>?_) (λl v q=>?_)
  ·let⟨o,el,g1,c,B⟩:=q;subst el;rw[au]at H;cases I:(vp i)[j]? with|none=>rw[I]at H;cases H|some row=>
    rw[I]at H;let ed:e=.tup row:=(aF H).symm;subst ed;let⟨hj,e2⟩:=ae.mp I;let hrl:=RU i row (ax I);let h:(vp i).take (j+1)=(vp i).take j++[row]:=by rw[lc hj,e2]
    generalize E:((vp i).take j).flatMap (λx=>[x++[D.int 0],x++[D.int 1]])=ys at c;let Y:ys.length<=16:=by
     have:∀l:List (List D),(l.flatMap λx=>[x++[D.int 0],x++[D.int 1]]).length=2*l.length:=by
      intro l
      induction l with|nil=>rfl|cons a t ih=>rw[zV,aB,ih,bU];simp;ext
     rw[<- E,this,bE];ext
    let g:∀es,(v.set u.length (MO.lst es))[u.length]?=some (.lst es):=λes=>aE (lG c);let J:∀es Q,wp (getL u.length) Q (v.set u.length (MO.lst es))=Q es (v.set u.length (MO.lst es)):=λes Q=>eV (g es);let G:∀es C Q,wp (putL u.length C) Q (v.set u.length (MO.lst es))=Q Unit.unit ((v.set u.length (MO.lst es)).set u.length (.lst C)):=λes C Q=>oC (g es);let L:row.length+1<=fK:=iB ();simp![U,L,↓eV c,↓oC c,↓J,↓G,aB,ag,bU,gC];let hu:=ex.le;refine⟨rK (),rK (),O ⟨_,rfl,?_,?_,(B.put hu).put hu⟩⟩
    ·rw[aA (),aA ()];exact g1
    ·rw[aE (by rw[du];exact lG c),h,xV,E];simp
  ·let⟨o,el,g1,c,B⟩:=q;subst el;rw[ag,d9]at c;simp![];exact up1 ⟨_,_,_,_,rfl,by have:=ex.le;ext,c,B⟩
 ·let⟨n,L,J,o,el,G,g,ex⟩:=q;subst el;rw[ag,T4 hn]at g;simp![];exact hq n u G g ex
def qV:List Sd->Nat->List (D×D)
 |[],_=>[]|x::xs,i=>(eW x,eY i)::qV xs (i+1)
theorem HF:∀(xs:List Sd)(i:Nat),m_ (qV xs i) (eW y)=if y∈xs then some (eY (i+xs.idxOf y)) else none
 |[],i=>rfl
 |x::xs,i=>by
  let c:=HF (y:=y) xs (i+1);unfold m_ at c ⊢;rw[qV,c8];dsimp only;rw[IW];by_cases e:x=y
  ·subst e;simp
  ·let o:¬ y=x:=λz=>e z.symm;simp only[ba e];rw[c,sU];have:(x == y)=false:=by simp[e]
   rw[this];simp only[aX,o,false_or,cond_false];by_cases g:y∈xs
   ·simp only[g,if_true];congr 2;ext
   ·simp only[g,if_false]
theorem Ot:∀(xs:List Sd)(i:Nat),qV (xs++[y]) i=qV xs i++[(eW y,eY (i+xs.length))]
 |[],i=>rfl|x::xs,i=>by rw[dA,qV,qV,Ot xs (i+1),dA,bU,show i+1+xs.length=i+(xs.length+1) by ext]
theorem Me:∀(xs:List Sd)(i:Nat),(qV xs i).length=xs.length
 |[],i=>rfl|x::xs,i=>by rw[qV,bU,Me xs,bU]
theorem Rm:∀(xs:List Sd)(i:Nat),(qV xs i).map (·.1)=xs.map eW
 |[],i=>rfl|x::xs,i=>by rw[qV,aT,Rm xs,aT]
def Qk(q:y∉xs):nJ (qV xs 0) (eW y) (eY xs.length)=qV (xs++[y]) 0:=by
 let c:=HF (y:=y) xs 0;rw[az q]at c;let v:((qV xs 0).any λp=>kr p.1 (eW y))=false:=by
  cases e:(qV xs 0).any λp=>kr p.1 (eW y) with|false=>rfl|true=>
   let⟨p,o,g⟩:=e8.mp e;have:((qV xs 0).find? λp=>kr p.1 (eW y)).isSome=true:=List.find?_isSome.mpr ⟨p,o,g⟩;unfold m_ at c;rw[Option.map_eq_none_iff]at c;rw[c]at this;cases this
 unfold nJ;rw[v,az (by simp),Ot,Ir]
theorem MX:∀{xs t:List Sd},y∈xs->(xs++t).idxOf y=xs.idxOf y
 |x::xs,t,hy=>by
  rw[dA,sU,sU];by_cases e:x=y
  ·subst e;simp
  ·have:(x == y)=false:=by simp[e]
   rw[this];simp only[cond_false];rw[MX (by rcases aX.mp hy with z|z;exact bo z.symm e;exact z)]
def row(h:Hs)(x:Sd)(ks:List Nat)(xs:List Sd):List D:=ks.map λk=>.tup [eY k,eY (xs.idxOf (iG h x k))]
def Zf{ks:List Nat}(g:∀k∈ks,iG h x k∈xs):row h x ks (xs++t)=row h x ks xs:=by unfold row;refine dP λk c=>?_;rw[MX (g k c)]
def Fn(s:aV)(no nd:Nat)(xs:List Sd)(u:aV):Prop:=u[nd]?=some (.dct true (qV xs 0))/\u[no]?=some (.lst (xs.map eW))/\eD s u
def Fn.ext(f:Fn s no nd xs u)(x:eD u u'):Fn s no nd xs u':=⟨x.at_ f.1,x.at_ f.2.1,f.2.2.trans x⟩
def OT:x∈lC xs x:=by
 unfold lC;by_cases e:x∈xs
 ·rw[aJ e];exact e
 ·rw[az e];simp
def XW(c:y∈xs):y∈sI h x ks xs:=by let⟨t,e⟩:=JO (h:=h) (x:=x) ks xs;rw[e];exact bv _ c
theorem Iy{k:Nat}:∀{ks:List Nat}{xs:List Sd},k∈ks->iG h x k∈sI h x ks xs
 |j::ks,xs,c=>by
  show _∈sI h x ks (lC xs (iG h x j));rcases aX.mp c with e|c
  ·subst e;exact XW OT
  ·exact Iy c
def Wr{st:Sd}{R:vk->aV->Prop}(C:no≠nd)(q:s.length<=no)(B:s.length<=nd)(I:Fn s no nd xs u)(hl:xs.length<=400)(J:∀u',Fn s no nd (lC xs st) u'->(∀n,n≠no->n≠nd->u'[n]?=u[n]?)->R (.next [a,b,some (.ref no),some (.dic nd),G,E,some (eW st)]) u'):wp (m9 (cV (c2 r_ (ao 6) (ao 3))) (aP (b8 (kW (ao 3) (ao 6)) (c1 gI (ao 2))) (aP (kq (eM (ao 2) (ao 6))) aW)) aW [a,b,some (.ref no),some (.dic nd),G,E,some (eW st)]) R u:=by
 let⟨o,g,H⟩:=I;let h:∀Q,wp (hasK nd (eW st)) Q u=Q (m_ (qV xs 0) (eW st)).isSome u:=λQ=>O8 o (Ab st);simp![↓h,HF];by_cases c:st∈xs
 ·rw[aJ c];simp![km,eU,aR,if_false];refine J u ?_ λ_ _ _=>rfl;unfold lC;rw[aJ c];exact⟨o,g,H⟩
 ·rw[az c];let Y:∀v Q,wp (storeK nd (eW st) v) Q u=Q Unit.unit (u.set nd (.dct true (nJ (qV xs 0) (eW st) v))):=λv Q=>KL o (Ab st) (rK (by rw[Me];ext));let L:∀v,(u.set nd (MO.dct true (nJ (qV xs 0) (eW st) v)))[no]?=some (.lst (xs.map eW)):=λv=>by rw[aA ()];exact g
  let U:∀v Q,wp (getL no) Q (u.set nd (MO.dct true (nJ (qV xs 0) (eW st) v)))=Q (xs.map eW) (u.set nd (MO.dct true (nJ (qV xs 0) (eW st) v))):=λv Q=>eV (L v);let O:∀v es Q,wp (putL no es) Q (u.set nd (MO.dct true (nJ (qV xs 0) (eW st) v)))=Q Unit.unit ((u.set nd (MO.dct true (nJ (qV xs 0) (eW st) v))).set no (.lst es)):=λv es Q=>oC (L v);simp![mD,iN,if_true,↓eV g,↓Y,↓U,↓O,ag];refine⟨rK (),J _ ?_ λn h l=>by rw[aA (fI h),aA (fI l)]⟩;unfold lC;rw[az c];refine⟨?_,?_,(H.put B).put q⟩
  ·rw[aA C,aE (lG o)];have:=Qk c;unfold eY at this;rw[this]
  ·rw[aE (by rw[du];exact lG g),bC];rfl
def Ou(hh:kK h):(e_ h x).length<=3:=by let c:=hh.2.2.2.1;have:=oT (λk=>si (dI h x k)) (b_ h.hands.length);rw[List.length_range]at this;unfold e_;ext
def Xo(hc:xt h)(Y:j_ h x)(gx:Good h xs)(hne:no≠nd)(hso:s.length<=no)(hsd:s.length<=nd)(I:Fn s no nd xs u)(hq:∀u',Fn s no nd (sI h x (e_ h x) xs) u'->u'[u.length]?=some (.lst (row h x (e_ h x) (sI h x (e_ h x) xs)))->(∀n,n < u.length->n≠no->n≠nd->u'[n]?=u[n]?)->Q (.ref u.length) u'):wp (jz [ki h,eW x,.ref no,.dic nd]) Q u:=by
 let hh:=hc.1;let l2:2<=fK:=iB ();let wf:∀(Q:D->aV->Prop)s,wp (jy [ki h,eW x]) Q s=Q (.ref s.length) (s++[.lst ((e_ h x).map λk=>.int (k:Nat))]):=λQ s=>rO hh Y;let G:(u++[MO.lst []]++[MO.lst ((e_ h x).map λk=>.int (k:Nat))])[(u++[MO.lst []]).length]?=some (.lst ((e_ h x).map λk=>.int (k:Nat))):=o7;let qf:∀Q,wp (getL (u++[MO.lst []]).length) Q (u++[MO.lst []]++[MO.lst ((e_ h x).map λk=>.int (k:Nat))])=Q ((e_ h x).map λk=>.int (k:Nat)) (u++[MO.lst []]++[MO.lst ((e_ h x).map λk=>.int (k:Nat))]):=λQ=>eV G
 (simp![jz];simp![j0,bH,↓wf,↓qf])
 let xu:eD u (u++[MO.lst []]++[MO.lst ((e_ h x).map λk=>.int (k:Nat))]):=((eD.refl _).snoc _).snoc _;let gs:(u++[MO.lst []]++[MO.lst ((e_ h x).map λk=>.int (k:Nat))])[u.length]?=some (.lst []):=uI o7;let lf:u.length < (u++[MO.lst []]).length:=by simp
 let lnd:nd < u.length:=lG I.1;let lno:no < u.length:=lG I.2.1;let f0:=I.ext xu;let k0:∀n,n < u.length->n≠no->n≠nd->(u++[MO.lst []]++[MO.lst ((e_ h x).map λk=>.int (k:Nat))])[n]?=u[n]?:=λn hn _ _=>by rw[av (by rw[aB];ext),av hn]
 clear qf wf;generalize (u++[MO.lst []]).length=nr at G lf;generalize u++[MO.lst []]++[MO.lst ((e_ h x).map λk=>.int (k:Nat))]=u0 at G gs f0 k0;refine uK (λj l v=>∃(L J:Option D),l=[some (ki h),some (eW x),some (.ref no),some (.dic nd),some (.ref u.length),L,J]/\v[nr]?=some (.lst ((e_ h x).map λk=>.int (k:Nat)))/\v[u.length]?=some (.lst (row h x ((e_ h x).take j) (sI h x ((e_ h x).take j) xs)))/\Fn s no nd (sI h x ((e_ h x).take j) xs) v/\∀n,n < u.length->n≠no->n≠nd->v[n]?=u[n]?) (λ_ _ _ w=>by let⟨_,_,_,g,_⟩:=w;exact g)
  ⟨_,_,rfl,G,gs,f0,k0⟩ (λRw3 j d l v O rt3 hd hW=>?_) (λl v hW=>?_)
 ·let⟨L,J,el,g1,H,f,U⟩:=hW;subst el;rw[au]at hd;cases B:(e_ h x)[j]? with|none=>rw[B]at hd;cases hd|some k=>
   rw[B]at hd;let ed:d=.int (k:Nat):=(aF hd).symm;subst ed;let g:=xE (ax B);let hj:=(ae.mp B).1;let hj3:=Ou hh (x:=x);let wb:∀(Q:D->aV->Prop)s,wp (jb [ki h,eW x,.int k]) Q s=Q (eW (iG h x k)) s:=λQ s=>Fl hh Y g;let gd:=JM hh Y (λk g=>xE (gH g)) gx (ks:=(e_ h x).take j);let hl2:=few hc gd.1 gd.2;let l:∀E∈(e_ h x).take j,iG h x E∈sI h x ((e_ h x).take j) xs:=λE o=>Iy o;let v:=Xm (h:=h) (xs:=xs) (x:=x) B;let tk:(e_ h x).take (j+1)=(e_ h x).take j++[k]:=by rw[iO,B];rfl
   let G:(row h x ((e_ h x).take j) (sI h x ((e_ h x).take j) xs)).length<=3:=by unfold row;rw[ag,bE];ext
   generalize sI h x ((e_ h x).take j) xs=ys at *;simp only[↓F0];rw[u9];simp only[↓yZ,↓yO,↓y0,↓BL,↓Fu,↓A5,↓Gc,↓wb,↓B2];rw[u9];refine Wr hne hso hsd f () λv2 f2 c=>?_;let q:v2[u.length]?=some (.lst (row h x ((e_ h x).take j) ys)):=by rw[c _ () ()];exact H
   let⟨b1,b2,b4⟩:=id f2;let C:=HF (y:=iG h x k) (lC ys (iG h x k)) 0;rw[aJ OT,Ir]at C;let q1:∀Q,wp (itemK nd (eW (iG h x k))) Q v2=Q (eY ((lC ys (iG h x k)).idxOf (iG h x k))) v2:=λQ=>Hx b1 (Ab _) C;simp![l2,↓q1,↓eV q,↓oC q];let⟨t,et⟩:=Ny ys (iG h x k);let er:row h x ((e_ h x).take j) ys++[.tup [.int (k:Nat),eY ((lC ys (iG h x k)).idxOf (iG h x k))]]=row h x ((e_ h x).take (j+1)) (lC ys (iG h x k)):=by rw[tk];unfold row;rw[bC];congr 1;refine dP λE o=>?_;rw[et,MX (l E o)]
   refine⟨rK (),O ⟨_,_,rfl,?_,?_,?_,λn hn h1 I=>?_⟩⟩
   ·rw[aA (),c _ () ()];exact g1
   ·rw[aE (lG q),er,v]
   ·rw[v];let c:s.length<=u.length:=by ext
    exact⟨by rw[aA ()];exact b1,by rw[aA ()];exact b2,b4.put c⟩
   ·rw[aA (),c n h1 I];exact U n hn h1 I
 ·let⟨L,J,el,g1,H,f,U⟩:=hW;subst el;rw[ag,d9]at f H;simp![];exact hq v f H U
end
open PySem (Str)
section
variable{s u:aV}{Q:D->aV->Prop}{h:Hs}{no nd:Nat}
def YB{i:Int}:wp (ng (.int i) .non) Q s=Q (.bl true) s:=c6 rfl
def Jd(h:Hs)(lo no nd c:Nat)(ys:List Sd)(rs:List D)(u:aV):Prop:=∀(j:Nat)(d:D),rs[j]?=some d->∃(r:Nat)(x:Sd),d=.ref r/\lo<=r/\r≠no/\r≠nd/\r≠c/\ys[j]?=some x/\u[r]?=some (.lst (row h x (e_ h x) ys))/\∀k∈e_ h x,iG h x k∈ys
def TD{L o:Nat}(hc:xt h)(gf:s[L]?=some (.lst (((mv h.hands.length).map (nj h)).map eW)))(hm:∀i,sF h i->(fD h i).length<=o)(hq:∀i no nd B rs u,qw h i->u[no]?=some (.lst ((fD h i).map eW))->s.length<=no->u[B]?=some (.lst rs)->rs.length=i->s.length<=B->Jd h s.length no nd B (fD h i) rs u->eD s u->Q (.tup [.ref no,.ref B]) u):wp (ju [ki h,.ref L,.int o]) Q s:=by
 let hh:=hc.1;let hn:h.hands.length=2\/h.hands.length=3:=by have:=hh.2.2.1;have:=hh.2.2.2.1;ext
 let l2:2<=fK:=iB ();let lnf:=lG gf
 (simp![ju];simp![j3,↓eV (uI gf)])
 refine uK (λi l u=>∃(U:Option D),l=[some (ki h),some (.ref L),some (.int o),some (.dic s.length),U,none,none]/\u[L]?=some (.lst (((mv h.hands.length).map (nj h)).map eW))/\u[s.length]?=some (.dct true (qV (pq h ((mv h.hands.length).take i)) 0))/\eD s u) (λ_ _ _ w=>by let⟨_,_,g,_⟩:=w;exact g)
  ⟨_,rfl,uI gf,o7,(eD.refl _).snoc _⟩ (λRw1 i d l u up1 rt1 hd O=>?_) (λl u O=>?_)
 ·let⟨U,el,g1,q,ex⟩:=O;subst el;rw[au,au]at hd;cases l:(mv h.hands.length)[i]? with|none=>rw[l]at hd;cases hd|some row=>
   rw[l]at hd;let ed:d=eW (nj h row):=(aF hd).symm;subst ed;let E:Good h (pq h ((mv h.hands.length).take i)):=Nt hh (λr J=>gH J) ⟨ua,by simp⟩;let hl:=few hc E.1 E.2;let o:=Qmt (h:=h) l;generalize pq h ((mv h.hands.length).take i)=fs at *;let G:=Me fs 0;let B:∀(Q:D->aV->Prop),wp (gI (.dic s.length)) Q u=Q (eY fs.length) u:=λQ=>by rw[Ya q,G];rfl
   let C:=HF (y:=nj h row) fs 0;by_cases c:nj h row∈fs
   ·rw[aJ c]at C;let g:∀v Q,wp (mK s.length (eW (nj h row)) v) Q u=Q _ u:=λv Q=>UC q (Ab _) (rK ()) C;simp![↓O9,↓yS q,↓B,↓g];refine up1 ⟨_,rfl,g1,?_,ex⟩;rw[o];unfold lC;rw[aJ c];exact q
   ·rw[az c]at C;let g:∀v Q,wp (mK s.length (eW (nj h row)) v) Q u=Q v (u.set s.length (.dct true (nJ (qV fs 0) (eW (nj h row)) v))):=λv Q=>WR q (Ab _) (rK ()) C;simp![↓O9,↓yS q,↓B,↓g,Qk c];refine up1 ⟨_,rfl,by rw[aA ()];exact g1,?_,ex.put (ay _)⟩;rw[aE (lG q),o];unfold lC;rw[az c]
 ·let⟨U,el,g1,q,ex⟩:=O;subst el;rw[ag,ag,d9]at q;let qk:∀(Q:D->aV->Prop),wp (qF (.dic s.length)) Q u=Q (.ref u.length) (u++[.lst ((fD h 0).map eW)]):=λQ=>by rw[WZ q,Rm];rfl
  simp![bH,↓qk];let lu:=ex.le;let f0:Fn s u.length s.length (fD h 0) (u++[MO.lst ((fD h 0).map eW)]++[MO.lst []]):=⟨uI (uI q),uI o7,(ex.snoc _).snoc _⟩
  let g3:(u++[MO.lst ((fD h 0).map eW)]++[MO.lst []])[(u++[MO.lst ((fD h 0).map eW)]).length]?=some (.lst []):=o7;let l3:u.length < (u++[MO.lst ((fD h 0).map eW)]).length:=by simp
  let l4:=lG q;clear qk;generalize (u++[MO.lst ((fD h 0).map eW)]).length=B at g3 l3;generalize u++[MO.lst ((fD h 0).map eW)]++[MO.lst []]=u0 at g3 f0;generalize u.length=no at *;refine Dv (λl v=>∃(i:Nat)(rs:List D),l=[some (ki h),some (.ref L),some (.int o),some (.dic s.length),U,some (.ref no),some (.ref B)]/\sF h i/\Fn s no s.length (fD h i) v/\v[B]?=some (.lst rs)/\rs.length=i/\Jd h s.length no s.length B (fD h i) rs v)
   (λ(_:Loc)(v:aV)=>match (v[B]?:Option MO) with
    |some (.lst rs)=>1000-rs.length
    |_=>0) ⟨0,[],rfl,λj Y=>bo Y (),f0,g3,rfl,λj d hd=>by simp at hd⟩ (λRw2 l v C rt2 O=>?_)
  let⟨i,rs,el,go,f,I,J,st⟩:=O;subst el;let⟨hl,hi⟩:=CL hc go;let hmo:=hm i go;let gl:v[no]?=some (.lst ((fD h i).map eW)):=f.2.1;simp![↓eV gl,↓eV I,ag];by_cases H:i < (fD h i).length
  ·rw[aJ ()];let G:(fD h i)[i]?=some (fD h i)[i]:=af H;let O:=(z0 hh i).2 _ (a_ H);let c:fD h (i+1)=sI h (fD h i)[i] (e_ h (fD h i)[i]) (fD h i):=by
    show (match (fD h i)[i]? with
     |some x=>sI h x (e_ h x) (fD h i)
     |none=>fD h i)=_
    rw[G]
   let⟨t,g⟩:=Iu (h:=h) i;generalize (fD h i)[i]=x at G O c;let u:∀(Q:D->aV->Prop)s,wp (cL ((fD h i).map eW) (rs.length:Nat)) Q s=Q (eW x) s:=λQ s=>rL (by rw[au,J,G];rfl);simp![↓YB,↓eV gl,↓eV I,↓u,ag];rw[az ()]
   try simp![↓eV gl,↓eV I,↓u,ag]
   refine Xo hc O (z0 hh i) () () (ay _) f λv2 f2 gv L=>?_;let l:=lG I;let E:v2[B]?=some (.lst rs):=by rw[L B l () ()];exact I
   simp![↓eV E,↓oC E];let lvo:=lG gl;let lvd:=lG f.1;refine⟨rK (),C ⟨i+1,_,rfl,λj Y=>?_,?_,aE (lG E),by simp[J],λj d hd=>?_⟩ ?_⟩
   ·by_cases e:j=i
    ·subst e;exact H
    ·exact go j ()
   ·rw[c];let⟨l,h,g⟩:=f2;exact⟨by rw[aA ()];exact l,by rw[aA ()];exact h,g.put ()⟩
   ·by_cases Y:j < rs.length
    ·rw[av Y]at hd;let⟨r,y,ed,E,C,B,u,l,h,U⟩:=st j d hd;refine⟨r,y,ed,E,C,B,u,?_,?_,λk o=>?_⟩
     ·rw[g,av (ae.mp l).1];exact l
     ·rw[aA (fI u),L r (lG h) C B,g,Zf U];exact h
     ·rw[g];exact bv _ (U k o)
    ·let q : j = rs.length := by have:=(ae.mp hd).1;rw[aB]at this;simp at this;ext
     subst q;rw[aM (ay _),fB]at hd;cases hd;refine⟨v.length,x,rfl,by ext,by ext,by ext,by ext,?_,?_,λk o=>?_⟩
     ·rw[g,av (),J];exact G
     ·rw[aA (),c];exact gv
     ·rw[c];exact Iy o
   ·rw[aE (lG E),I];simp only[aB,fY];ext
  ·rw[az ()];simp![l2];exact hq i _ _ _ _ _ ⟨go,by ext⟩ gl () I J () st f.2.2
def XU{r:Nat}(hh:kK h)(g:u[r]?=some (.lst ((mv h.hands.length).map D.tup)))(A:List D->aV->Prop):wp (collect (aS 0) bZ (bO jA (aw (ao 1) (aw (ao 0) bn))) (fW r ((mv h.hands.length).map D.tup)) ((mv h.hands.length).map D.tup) [none,some (ki h)]) A u=A (((mv h.hands.length).map (nj h)).map eW) u:=by
 rw[Cn (f:=λk=>((((mv h.hands.length).map (nj h)).map eW)[k]?).getD .non) (show fW r _ u from g) (λk d hd Q=>by
  rw[au]at hd;cases c:(mv h.hands.length)[k]? with|none=>rw[c]at hd;cases hd|some row=>
   rw[c]at hd;let v:d=.tup row:=(aF hd).symm;subst v;let q:∀(Q:D->aV->Prop)s,wp (jA [ki h,.tup row]) Q s=Q (eW (nj h row)) s:=λQ s=>OX hh (ax c);rw[au,au,c];simp![↓q,dJ,gX])]
 congr 1;rw[ag];apply fq;intro k;by_cases o:k < (mv h.hands.length).length
 ·rw[wI o,au,au,af o];rfl
 ·rw[cf (by rw[l_];ext),cf (by rw[ag,ag];ext)]
def I0{c:Nat}(v:xt h)(J:∀i,sF h i->(fD h i).length<=c)(G:∀i no nd o rs u,qw h i->u[no]?=some (.lst ((fD h i).map eW))->s.length<=no->u[o]?=some (.lst rs)->rs.length=i->s.length<=o->Jd h s.length no nd o (fD h i) rs u->eD s u->Q (.tup [.ref no,.ref o]) u):wp (jk [ki h,.int c]) Q s:=by
 let hh:=v.1
 (simp![jk];simp![yj])
 refine Ti hh λr u hr g ex=>?_;let w:=λA=>XU hh g A;let E:(mv h.hands.length).length<=fK:=iB (by rw[M_];have z3:=hh.2.2.1;have l:=hh.2.2.2.1;rcases (show h.hands.length=2\/h.hands.length=3 by ext) with e|e<;>rw[e]<;>decide)
 simp![↓eV g,ii,↓w,ag,E];refine TD v o7 J λi no nd o rs B st O I L q H C U=>?_;simp![];let l1:=ex.le;let l2:=(ex.snoc (.lst (((mv h.hands.length).map (nj h)).map eW))).le;refine G i no nd o rs B st O () L q () (λj d hd=>?_) ((ex.snoc _).trans U);let⟨r,x,Y,e1,e⟩:=C j d hd;exact⟨r,x,Y,by ext,e⟩
end
open PySem (Str)
inductive Rc(E:Nat->List (Nat×Nat)):Nat->Nat->Prop
 |refl (x:Nat):Rc E x x|step {x y:Nat}{p:Nat×Nat} (h:p∈E x) (r:Rc E p.2 y):Rc E x y
section
variable{E:Nat->List (Nat×Nat)}{n:Nat}{F P G:List Nat}{x y z:Nat}
def Rc.trans(a:Rc E x y)(b:Rc E y z):Rc E x z:=by
 induction a with|refl=>exact b|step h _ ih=>exact .step h (ih b)
def Rc.snoc(a:Rc E x y)(h:p∈E y):Rc E x p.2:=a.trans (.step h (.refl _))
noncomputable def FO(E:Nat->List (Nat×Nat))(F:List Nat):Prop:=∀(i x:Nat),F[i]?=some x->∀a∈F.take (i+1),∀p∈E a,p.2∈F.take (i+1)\/Rc E p.2 x
structure DI(n:Nat)(E:Nat->List (Nat×Nat))(F P G:List Nat):Prop where
 nd:(F++P).Nodup
 lt:∀x∈F++P,x < n
 len:G.length=P.length
 cl:∀a∈F,∀p∈E a,p.2∈F++P
 pg:∀(j x g:Nat),P[j]?=some x->G[j]?=some g->g<=(E x).length/\∀p∈(E x).take g,p.2∈F++P
 ch:∀(i j x y:Nat),i<=j->P[i]?=some x->P[j]?=some y->Rc E x y
 fo:FO E F
def Mr:(F++(P++[x])).Perm (F++[x]++P):=by rw[bz];exact List.Perm.append_left F (List.perm_append_comm)
def DI.fin(I:DI n E F (P++[x]) (G++[(E x).length])):DI n E (F++[x]) P G:=by
 let v:=Mr (F:=F) (P:=P) (x:=x);let u:∀y,y∈F++(P++[x])->y∈F++[x]++P:=λy l=>v.mem_iff.mp l;let H:G.length=P.length:=by have:=I.len;simp at this;exact this
 let top:(P++[x])[P.length]?=some x:=by simp
 let tg:(G++[(E x).length])[P.length]?=some (E x).length:=by rw[<- H];simp
 let⟨_,h⟩:=I.pg P.length x _ top tg;rw[d9]at h;let at_:∀{j y:Nat},P[j]?=some y->(P++[x])[j]?=some y:=λe=>by rw[av (ae.mp e).1];exact e
 refine⟨v.nodup_iff.mp I.nd,λy l=>I.lt y (v.mem_iff.mpr l),H,λa c p o=>?_,λj y g l L=>?_,λi j a b B c U=>I.ch i j a b B (at_ c) (at_ U),λi y l a c p o=>?_⟩
 ·rcases aO.mp c with c|c
  ·exact u _ (I.cl a c p o)
  ·rw[aI.mp c]at o;exact u _ (h p o)
 ·let⟨q,Y⟩:=I.pg j y g (at_ l) (by rw[av (ae.mp L).1];exact L);exact⟨q,λp o=>u _ (Y p o)⟩
 ·by_cases Q:i < F.length
  ·rw[av Q]at l;rw[List.take_append_of_le_length ()]at c ⊢;exact I.fo i y l a c p o
  ·let C : i = F.length := by have:=(ae.mp l).1;rw[aB]at this;simp at this;ext
   subst C;rw[aM (ay _),fB]at l;cases l;rw[oy (by simp)]at c ⊢;let O:p.2∈F++(P++[x]):=by
    rcases aO.mp c with c|c
    ·exact I.cl a c p o
    ·rw[aI.mp c]at o;exact h p o
   rcases aO.mp (u _ O) with q|q
   ·exact .inl q
   ·let⟨j,J⟩:=aN.mp q;exact .inr (I.ch j P.length _ x (gK (ae.mp J).1) (at_ J) top)
def HR{g:Nat}(h:(E x)[g]?=some p):(E x).take (g+1)=(E x).take g++[p]:=by rw[iO,h];rfl
def DI.old{g:Nat}(I:DI n E F (P++[x]) (G++[g]))(v:(E x)[g]?=some p)(C:p.2∈F++(P++[x])):DI n E F (P++[x]) (G++[g+1]):=by
 let o:G.length=P.length:=by have:=I.len;simp at this;exact this
 refine⟨I.nd,I.lt,by simp[o],I.cl,λj y k l h=>?_,I.ch,I.fo⟩;by_cases B:j < G.length
 ·rw[av B]at h;exact I.pg j y k l (by rw[av B];exact h)
 ·let u : j = G.length := by have:=(ae.mp h).1;rw[aB]at this;simp at this;ext
  subst u;rw[aM (ay _),fB]at h;cases h;rw[o,aM (ay _),fB]at l;cases l;let⟨J,H⟩:=I.pg G.length x g (by rw[o];simp) (by simp);refine⟨(ae.mp v).1,λq c=>?_⟩;rw[HR v]at c;rcases aO.mp c with c|c
  ·exact H q c
  ·rw[aI.mp c];exact C
def DI.new{g:Nat}(I:DI n E F (P++[x]) (G++[g]))(U:(E x)[g]?=some p)(hs:p.2∉F++(P++[x]))(hn:p.2 < n):DI n E F (P++[x]++[p.2]) (G++[g+1]++[0]):=by
 let H:G.length=P.length:=by have:=I.len;simp at this;exact this
 let mo:∀{y},y∈F++(P++[x])->y∈F++(P++[x]++[p.2]):=λh=>by rw[<- bz];exact bv _ h
 let Q:p∈E x:=ax U;let O:(P++[x])[P.length]?=some x:=by simp
 let u:(P++[x]).length=P.length+1:=by simp
 refine⟨?_,λy c=>?_,by simp[H],λa v q l=>mo (I.cl a v q l),λj y k c B=>?_,λi j a b Y v C=>?_,I.fo⟩
 ·rw[<- bz,c9];refine⟨I.nd,by simp,λa v b C e=>?_⟩;rw[aI]at C;subst C e;exact hs v
 ·rw[<- bz]at c;rcases aO.mp c with c|c
  ·exact I.lt y c
  ·rw[aI.mp c];exact hn
 ·by_cases L:j < P.length+1
  ·rw[av (by rw[u];exact L)]at c;rw[av (by simp[H];exact L)]at B;by_cases J:j < G.length
   ·rw[av J]at B;let⟨v,h⟩:=I.pg j y k c (by rw[av J];exact B);exact⟨v,λq l=>mo (h q l)⟩
   ·let o:j=G.length:=by ext
    subst o;rw[aM (ay _),fB]at B;cases B;rw[H,O]at c;cases c;let⟨v,h⟩:=I.pg G.length x g (by rw[H];exact O) (by simp);refine⟨(ae.mp U).1,λq l=>?_⟩;rw[HR U]at l;rcases aO.mp l with l|l
    ·exact mo (h q l)
    ·rw[aI.mp l];simp
  ·let o : j = P.length+1 := by have:=(ae.mp c).1;rw[aB,u]at this;simp at this;ext
   subst o;rw[aM (by simp[H])]at B;simp[H]at B;subst B;exact⟨bH _,λq l=>by simp at l⟩
 ·by_cases L:j < P.length+1
  ·rw[av (by rw[u];ext)]at v;rw[av (by rw[u];exact L)]at C;exact I.ch i j a b Y v C
  ·let o : j = P.length+1 := by have:=(ae.mp C).1;rw[aB,u]at this;simp at this;ext
   subst o;rw[aM (by rw[u];exact ay _),u,fB]at C;cases C;by_cases g:i < P.length+1
   ·rw[av (by rw[u];exact g)]at v;exact (I.ch i P.length a x () v O).snoc Q
   ·let c:i=P.length+1:=by ext
    subst c;rw[aM (by rw[u];exact ay _),u,fB]at v;cases v;exact .refl _
def DI.root{r:Nat}(I:DI n E F [] [])(v:r∉F)(B:r < n):DI n E F [r] [0]:=by
 let mo:∀{y},y∈F++[]->y∈F++[r]:=λh=>by rw[bB]at h;exact bv _ h
 refine⟨?_,λy c=>?_,rfl,λa g q o=>mo (I.cl a g q o),λj y k c u=>?_,λi j a b C g l=>?_,I.fo⟩
 ·rw[c9];refine⟨by have:=I.nd;rwa [bB]at this,by simp,λa g b l e=>?_⟩;rw[aI]at l;subst l e;exact v g
 ·rcases aO.mp c with c|c
  ·exact I.lt y (bv _ c)
  ·rw[aI.mp c];exact B
 ·match j,c,u with|0,c,u=>cases u;exact⟨bH _,λq o=>by simp at o⟩|j+1,c,_=>simp at c
 ·match i,j,g,l with|0,0,g,l=>cases g;cases l;exact .refl _|0,j+1,_,l=>simp at l|i+1,_,g,_=>simp at g
def DI.nil:DI n E [] [] []:=⟨by simp,by simp,rfl,by simp,by simp,by simp,λi x h=>by simp at h⟩
noncomputable def zk(E:Nat->List (Nat×Nat))(F G:List Nat):Nat:=F.length+(F.map λa=>(E a).length).sum+G.sum
theorem Rh{f:Nat->Nat}:∀{F:List Nat},(∀a∈F,f a<=3)->(F.map f).sum<=3*F.length
 |[],_=>by simp|a::F,h=>by have l:=h a (by simp);have g:=Rh (F:=F) λb c=>h b (by simp[c]);simp only[aT,iw,bU];ext
theorem PY:∀{G:List Nat},(∀g∈G,g<=3)->G.sum<=3*G.length
 |[],_=>by simp|a::G,h=>by have o:=h a (by simp);have l:=PY (G:=G) λb c=>h b (by simp[c]);simp only[iw,bU];ext
def DI.prg_le(I:DI n E F P G)(few:∀i,i < n->(E i).length<=3):zk E F G<=7*n:=by
 let q:=BA n (F++P) I.nd I.lt;rw[aB]at q;let v:=Rh (F:=F) (f:=λa=>(E a).length) λa o=>few a (I.lt a (bv _ o));let u:=PY (G:=G) λg l=>by
  let⟨j,h⟩:=aN.mp l;let c:j < P.length:=by rw[<- I.len];exact (ae.mp h).1
  have:=(I.pg j _ g (af c) h).1;have:=few P[j] (I.lt _ (bK _ (a_ c)));ext
 have:=I.len;unfold zk;ext
end
open PySem (Str)
section
variable{s u s0:aV}{Q:D->aV->Prop}{E:Nat->List (Nat×Nat)}{n ns a8 no root:Nat}{F P G:List Nat}
noncomputable def yz(p:Nat×Nat):D:=.tup [.int (p.1:Nat),.int (p.2:Nat)]
noncomputable def gJ(x:Nat):D:=.int (x:Nat)
structure ug(n:Nat)(E:Nat->List (Nat×Nat))(ns:Nat)(u:aV):Prop where
 at_:∃rs:List Nat,u[ns]?=some (.lst (rs.map .ref))/\rs.length=n/\∀(i r:Nat),rs[i]?=some r->u[r]?=some (.lst ((E i).map yz))
 wf:∀i,i < n->∀p∈E i,p.2 < n
 few:∀i,i < n->(E i).length<=3
def ug.ext(g:ug n E ns s)(x:eD s u):ug n E ns u:=by let⟨⟨rs,B,v,q⟩,o,h⟩:=g;exact⟨⟨rs,x.at_ B,v,λi r c=>x.at_ (q i r c)⟩,o,h⟩
def ug.row(g:ug n E ns u){i:Nat}(v:i < n):∃(rs:List Nat)(r:Nat),(∀Q,wp (getL ns) Q u=Q (rs.map .ref) u)/\(∀(Q:D->aV->Prop)s,wp (cL (rs.map D.ref) ((i:Nat):Int)) Q s=Q (.ref r) s)/\u[r]?=some (.lst ((E i).map yz))/\rs.length=n:=by
 let⟨⟨rs,q,o,h⟩,C,B⟩:=g;let c:i < rs.length:=by ext
 exact⟨rs,rs[i],λQ=>eV q,λQ s=>rL (by rw[au,af c];rfl),h i _ (af c),o⟩
def ug.row0(g:ug n E ns s0){i:Nat}(q:i < n):∃(rs:List Nat)(r:Nat),(∀{v},eD s0 v->v[ns]?=some (.lst (rs.map .ref))/\v[r]?=some (.lst ((E i).map yz)))/\(∀(Q:D->aV->Prop)s,wp (cL (rs.map D.ref) ((i:Nat):Int)) Q s=Q (.ref r) s)/\rs.length=n:=by let⟨rs,o,h,c⟩:=g.at_;let e:=af (show i < rs.length by ext);exact⟨rs,_,λx=>⟨x.at_ o,x.at_ (c i _ e)⟩,λQ s=>rL (by rw[au,e];rfl),h⟩
def GK:wp (cL (ds++[d]) (-1)) Q s=Q d s:=by
 let e:cL (ds++[d]) (-1)=ret d:=by
  unfold cL;have:MM.oz (ds++[d]).length (-1)=some ds.length:=by unfold MM.oz;rw[az (),aJ (by simp;ext)];simp;ext
  rw[this];dsimp only;rw[aM (ay _),fB];rfl
 rw[e,cE]
def Xt{k:Nat}:MM.oz (k+1) (-1)=some k:=by unfold MM.oz;rw[az (),aJ (by simp;ext)];simp;ext
def X1:(ds++[d]).set ds.length e=ds++[e]:=by rw[wv _ _ (ay _),fB];rfl
def TB{H I J:CE}{R:vk->aV->Prop}: wp (uX H I J l) R s=wp (H l) (λo C=>wp (I l) (λi B=>match o,i with
  | .ref n,.int k=>wp (getL n) (λds v=>wp (cL ds k) (λx q=>wp (J l) (λy h=>wp (u4 x y) (λz g=>wp (kL (.ref n) (.int k) z) (λ_ c=>R (.next l) c) g) h) q) v) B
  |_,_=>False) C) s:=by
 unfold uX;rw[d8];congr 1;funext o C;rw[d8];congr 1;funext i B;cases o with
 |ref n=>
  cases i with
  |int k=>
   rw[d8];congr 1;funext ds v;rw[d8];congr 1;funext x q;rw[d8];congr 1;funext y h;rw[d8];congr 1;funext z g;rw[d8];congr 1;funext z c;rw[cE]
  |_=>exact gQ
 |_=>exact gQ
def Pq{i j:Int}:wp (u4 (.int i) (.int j)) Q s=Q (.int (i+j)) s:=c6 rfl
def Nc{f:Nat->D}{i:Nat}(g:i < n):(bu n f).set i v=bu n λj=>if j=i then v else f j:=by
 apply fq;intro k;by_cases c:k < n
 ·rw[wI c];by_cases e:k=i
  ·subst e;rw[aE (by rw[l_];exact c),aJ rfl]
  ·rw[aA (fI e),wI c,az e]
 ·rw[cf (by rw[du,l_];ext),cf (by rw[l_];ext)]
def IC{k i:Nat}(h:i < k):MM.oz k ((i:Nat):Int)=some i:=by unfold MM.oz;rw[aJ (),aJ ()];simp
def seen(n:Nat)(S:List Nat):List D:=bu n λi=>.bl (decide (i∈S))
def Lb{i:Nat}(c:i < n):(seen n S).set i (.bl true)=seen n (S++[i]):=by
 unfold seen;rw[Nc c];congr 1;funext j;by_cases e:j=i
 ·subst e;simp
 ·simp[e]
def Qm5{S T:List Nat}(h:∀i,i∈S↔i∈T):seen n S=seen n T:=by unfold seen;congr 1;funext j;simp[h j]
def Lo{i:Nat}(c:i < n):wp (cL (seen n S) ((i:Nat):Int)) Q s=Q (.bl (decide (i∈S))) s:=xj c
noncomputable def zA(E:Nat->List (Nat×Nat)):D->Nat
 | .int i=>(E i.toNat).length|_=>0
noncomputable def zw:D->Nat
 | .int i=>i.toNat|_=>0
def NQ:(F.map gJ).length+((F.map gJ).map (zA E)).sum+((G.map gJ).map zw).sum=zk E F G:=by
 let g:(F.map gJ).map (zA E)=F.map λa=>(E a).length:=by rw[kZ];exact dP λa _=>rfl
 let c:(G.map gJ).map zw=G:=by rw[kZ];exact (dP λa _=>rfl).trans (List.map_id G)
 unfold zk;rw[g,c,ag]
def YU(g:ug n E ns s0)(x0:eD s0 s)(hs:s[a8]?=some (.lst (seen n F)))(ho:s[no]?=some (.lst (F.map gJ)))(l1:s0.length<=a8)(l2:s0.length<=no)(hne:a8≠no)(I:DI n E F [] [])(hr:root < n)(hrF:root∉F)(hn:n<=400)(hq:∀c u,DI n E c [] []->(∀x∈F,x∈c)->root∈c->u[a8]?=some (.lst (seen n c))->u[no]?=some (.lst (c.map gJ))->eD s0 u->(∀k,k < s.length->k≠a8->k≠no->u[k]?=s[k]?)->Q .non u):wp (jr [.ref ns,.int (root:Nat),.ref a8,.ref no]) Q s:=by
 let c1:1<=fK:=iB ();let ix:∀(L:List Nat){t:Nat},t < n->MM.oz (seen n L).length ((t:Nat):Int)=some t:=λL t ht=>by unfold seen;rw[l_];exact IC ht
 let ls:=lG hs;let lo:=lG ho;let lx:=x0.le;let Y:[a8,no,s.length,s.length+1].Nodup:=by simp;ext
 let hA:∀a∈[a8,no,s.length,s.length+1],s0.length<=a:=by simp;ext
 (simp![jr];simp![jU,↓eV hs,ix F hr,↓oC hs,c1,Lb hr])
 let e0:(s.set a8 (MO.lst (seen n (F++[root])))).length=s.length:=du;let e1:(s.set a8 (MO.lst (seen n (F++[root])))++[MO.lst [.int (root:Nat)]]).length=s.length+1:=by rw[aB,e0];rfl
 let K:qW s [a8,no,s.length,s.length+1] (s.set a8 (MO.lst (seen n (F++[root])))++[MO.lst [.int (root:Nat)]]++[MO.lst [.int 0]]) [seen n (F++[root]),F.map gJ,[root].map gJ,[0].map gJ]:=(((((qW.nil.old hs).old ho).put (i:=0) (by simpa using hne) rfl).snoc e0).snoc e1)
 rw[e0]
 try rw[e1]
 generalize s.set a8 (MO.lst (seen n (F++[root])))++[MO.lst [.int (root:Nat)]]++[MO.lst [.int 0]]=s1 at *;refine Dv (λl v=>∃(c P G:List Nat)(y6 y7:Option D),l=[some (.ref ns),some (.int (root:Nat)),some (.ref a8),some (.ref no),some (.ref s.length),some (.ref (s.length+1)),y6,y7]/\DI n E c P G/\(∀x∈F++[root],x∈c++P)/\qW s [a8,no,s.length,s.length+1] v [seen n (c++P),c.map gJ,P.map gJ,G.map gJ])
  (λ(_:Loc)(v:aV)=>match (v[no]?:Option MO),(v[s.length+1]?:Option MO) with
   |some (.lst os),some (.lst gs)=>10000-(os.length+(os.map (zA E)).sum+(gs.map zw).sum)
   |_,_=>0) ⟨F,[root],[0],_,_,rfl,I.root hrF hr,λx hx=>hx,K⟩ (λRw1 l v up1 rt1 hW=>?_)
 clear K;let⟨c,P,G,y6,y7,el,J,B,K⟩:=hW;subst el;let b2:=K.at_ 1 _ _ rfl rfl;let b4:=K.at_ 3 _ _ rfl rfl;simp![↓eV (K.at_ 2 _ _ rfl rfl),ag];let C:=BA n (c++P) J.nd J.lt;rw[aB]at C;rcases oU P with e|⟨q,x,e⟩
 ·subst e;let eG:G=[]:=List.length_eq_zero_iff.mp J.len;subst eG;rw[az (by simp)];rw[bB]at K B;exact hq c v J (λx hx=>B x (bv _ hx)) (B root (by simp)) (K.at_ 0 _ _ rfl rfl) b2 (K.ext x0 hA) λk g h1 h2=>K.oth k g (by simp;ext)
 rw[oV]at e;subst e;obtain⟨h,gl,eG⟩:∃h gl,G=h++[gl]:=by
  rcases oU G with z|⟨h,gl,z⟩
  ·have:=J.len;rw[z]at this;simp at this
  ·exact⟨h,gl,by rw[z,oV]⟩
 subst eG;let hl:h.length=q.length:=by have:=J.len;simp at this;exact this
 let hx:x < n:=J.lt x (by simp);rw[aJ (by simp)];let⟨rs,r,qg,qi,gr,hrs⟩:=(g.ext (K.ext x0 hA)).row hx;let o:∀(L:List Nat)(y:Nat),(L++[y]).map gJ=L.map gJ++[.int (y:Nat)]:=λL y=>by rw[bC];rfl
 rw[o q x,o h gl]at K;rw[o h gl]at b4;let few:=(g.few x hx)
 let⟨pg1,pg2⟩:=J.pg q.length x gl (by simp) (by rw[<- hl];simp);let pr:=J.prg_le g.few;rw[o q x,GK];simp![↓eV (K.at_ 2 _ _ rfl rfl),↓GK,↓eV b4,↓qg,↓qi,↓eV gr,ag];let mu : ∀{w : aV}{F2 G2 : List Nat}, w[no]? = some (.lst (F2.map gJ)) -> w[s.length+1]? = some (.lst (G2.map gJ)) -> zk E F2 G2 <= 7*n -> zk E F2 G2 = zk E c (h ++ [gl])+1 -> (match (w[no]? : Option MO), (w[s.length+1]? : Option MO) with
   |some (.lst os),some (.lst gs)=>10000-(os.length+(os.map (zA E)).sum+(gs.map zw).sum)|_,_=>0) < (match (v[no]?:Option MO),(v[s.length+1]?:Option MO) with
   |some (.lst os),some (.lst gs)=>10000-(os.length+(os.map (zA E)).sum+(gs.map zw).sum)
   |_,_=>0):=λg1 g2 h1 h2=>by
  rw[g1,g2,b2,b4,<- o h gl];dsimp only;rw[NQ,NQ,h2];exact Nat.sub_lt_sub_left () (iW _)
 by_cases hg:gl=(E x).length
 ·let O:=K.put (i:=1) (es:=c.map gJ++[.int (x:Nat)]) Y rfl;let K2:=O.put (i:=2) (es:=q.map gJ) Y rfl;let K3:=K2.put (i:=3) (es:=h.map gJ) Y rfl;rw[aJ (),eV b2,oC b2];refine⟨rK (by rw[ag];ext),?_⟩;simp![↓eV (O.at_ 2 _ _ rfl rfl),↓oC (O.at_ 2 _ _ rfl rfl),↓eV (K2.at_ 3 _ _ rfl rfl),↓oC (K2.at_ 3 _ _ rfl rfl),w_,xf];rw[hg]at J;let J2:=J.fin;refine up1 ⟨c++[x],q,h,_,_,rfl,J2,λy hy=>Mr.mem_iff.mp (B y hy),by rw[o c x,<- Qm5 λi=>Mr.mem_iff];exact K3⟩ (mu (by rw[o c x];exact K3.at_ 1 _ _ rfl rfl) (K3.at_ 3 _ _ rfl rfl) (J2.prg_le g.few) ?_);unfold zk;simp only[aB,bC,kE,aT,mz,iw,rh,bU,gC];ext
 ·rw[az ()];let L:gl < (E x).length:=by ext
  obtain⟨p,v⟩:∃p,(E x)[gl]?=some p:=⟨_,af L⟩
  let U:p.2 < n:=g.wf x hx p (ax v);let qe:∀(Q:D->aV->Prop)s,wp (cL ((E x).map yz) ((gl:Nat):Int)) Q s=Q (.tup [.int (p.1:Nat),.int (p.2:Nat)]) s:=λQ s=>rL (by rw[au,v];rfl);let I:MM.oz (h.map gJ++[D.int (gl:Nat)]).length (-1)=some h.length:=by rw[aB,ag];exact Xt
  let u:(h.map gJ++[D.int (gl:Nat)]).set h.length (.int ((gl:Nat)+1))=(h++[gl+1]).map gJ:=by
   have:h.length=(h.map gJ).length:=by rw[ag]
   rw[o,this,X1];rfl
  let O:=K.put (i:=3) (es:=(h++[gl+1]).map gJ) Y rfl;let q2:∀(Q:D->aV->Prop)s,wp (cL (seen n (c++(q++[x]))) ((p.2:Nat):Int)) Q s=Q (.bl (decide (p.2∈c++(q++[x])))) s:=λQ s=>Lo U;simp![↓TB,↓Pq,↓qg,↓qi,↓eV gr,↓eV b4,↓GK,↓qe,↓oC b4,I];rw[u];simp![↓eV (O.at_ 0 _ _ rfl rfl),↓q2];let l:∀H:List Nat,H.sum=gl+1+h.sum->zk E c H=zk E c (h++[gl])+1:=λH hH=>by unfold zk;rw[hH];simp only[kE,iw,rh];ext
  by_cases G:p.2∈c++(q++[x])
  ·rw[bY G];simp![eU,aR,if_false];exact up1 ⟨c,q++[x],h++[gl+1],_,_,rfl,J.old v G,B,by rw[o q x];exact O⟩ (mu (O.at_ 1 _ _ rfl rfl) (O.at_ 3 _ _ rfl rfl) ((J.old v G).prg_le g.few) (l _ (by simp only[kE,iw,rh];ext)))
  ·let K2:=O.put (i:=0) (es:=seen n (c++(q++[x])++[p.2])) Y rfl;let K3:=K2.put (i:=2) (es:=q.map gJ++[.int (x:Nat)]++[.int (p.2:Nat)]) Y rfl;let H:=K3.put (i:=3) (es:=(h++[gl+1]).map gJ++[.int 0]) Y rfl;rw[ba G];simp![iN,if_true,↓eV (O.at_ 0 _ _ rfl rfl),ix _ U,↓oC (O.at_ 0 _ _ rfl rfl),Lb U,↓eV (K2.at_ 2 _ _ rfl rfl),↓oC (K2.at_ 2 _ _ rfl rfl),↓eV (K3.at_ 3 _ _ rfl rfl),↓oC (K3.at_ 3 _ _ rfl rfl)];let J2:=J.new v G U;let E:q.length+1<=400:=by rw[aB]at C;simp at C;ext
   let u:=H.cg (C':=[seen n (c++(q++[x]++[p.2])),c.map gJ,(q++[x]++[p.2]).map gJ,(h++[gl+1]++[0]).map gJ]) (by rw[o (q++[x]),o q x,o (h++[gl+1]) 0,<- bz c (q++[x]) [p.2]];rfl);refine⟨rK (by simp;ext),rK (by simp;ext),up1 ⟨c,q++[x]++[p.2],h++[gl+1]++[0],_,_,rfl,J2,λy hy=>?_,u⟩ (mu (u.at_ 1 _ _ rfl rfl) (u.at_ 3 _ _ rfl rfl) (J2.prg_le g.few) (l _ (by simp only[kE,iw,rh];ext)))⟩;rw[<- bz];exact bv _ (B y hy)
end
open PySem (Str)
section
variable{Q:D->aV->Prop}{E:Nat->List (Nat×Nat)}{n ns a8 no root:Nat}{F P G:List Nat}
def Pb:(bu n λ_=>D.bl false)=seen n []:=by unfold seen;congr 1
def Xv:i9 0 n=bu n λk=>.int (k:Nat):=by unfold i9 bu;exact dP λk _=>by rw[Int.zero_add]
def PC(g:ug n E ns s)(hn:n<=400)(hq:∀F r u,DI n E F [] []->(∀x,x < n->x∈F)->u[r]?=some (.lst (F.map gJ))->s.length<=r->eD s u->Q (.ref r) u):wp (jh [.ref ns]) Q s:=by
 let⟨rs,h,c,h3⟩:=id g.at_;let q0:∀o Q,wp (getL ns) Q (s++[o])=Q (rs.map .ref) (s++[o]):=λo Q=>eV (uI h);let w:∀o(A:List D->aV->Prop),wp (collect (aS 0) bZ (aQ (.bl false)) (fW ns (rs.map D.ref)) (rs.map D.ref) [none]) A (s++[o])=A (seen n []) (s++[o]):=λo A=>by rw[Cn (f:=λ_=>.bl false) (show fW ns _ _ from uI h) (λk d hd Q=>by simp![]),ag,c,Pb]
 let c1:n<=fK:=iB ()
 (simp![jh];simp![jR,bH,↓q0,ii,↓w,ag,c,c1])
 let q1:∀o o' Q,wp (getL ns) Q (s++[o]++[o'])=Q (rs.map .ref) (s++[o]++[o']):=λo o' Q=>eV (uI (uI h));rw[q1];let en:((rs.map D.ref).length:Int).toNat=n:=by rw[ag,c];simp
 refine⟨by rw[ag,c];exact⟨by ext,by ext⟩,?_⟩;rw[en,Xv];let G:(s++[MO.lst []]).length=s.length+1:=by simp
 rw[G];let a1:(s++[MO.lst []]++[MO.lst (seen n [])])[s.length+1]?=some (.lst (seen n [])):=by rw[<- G];exact o7
 let a2:(s++[MO.lst []]++[MO.lst (seen n [])])[s.length]?=some (.lst (([]:List Nat).map gJ)):=uI o7;let a3:eD s (s++[MO.lst []]++[MO.lst (seen n [])]):=((eD.refl _).snoc _).snoc _;generalize s++[MO.lst []]++[MO.lst (seen n [])]=s1 at *;refine OA (λi l v=>∃(F:List Nat)(L:Option D),l=[some (.ref ns),some (.ref s.length),some (.ref (s.length+1)),L]/\DI n E F [] []/\(∀x,x < i->x∈F)/\v[s.length+1]?=some (.lst (seen n F))/\v[s.length]?=some (.lst (F.map gJ))/\eD s v) (λ_ _ _ _=>vX)
  ⟨[],_,rfl,DI.nil,λx O=>bo O (),a1,a2,a3⟩ (λi l v Y U=>?_) (λl v U=>?_)
 ·let⟨F,L,el,J,B,I,H,C⟩:=U;subst el;let l:∀(Q:D->aV->Prop)s,wp (cL (seen n F) ((i:Nat):Int)) Q s=Q (.bl (decide (i∈F))) s:=λQ s=>Lo Y;simp![↓eV I,↓l];by_cases q:i∈F
  ·rw[bY q];simp![eU,aR,if_false];refine⟨F,_,rfl,J,λx O=>?_,I,H,C⟩;by_cases e:x=i
   ·subst e;exact q
   ·exact B x ()
  ·rw[ba q];simp![iN,if_true];refine YU g C I H () (ay _) () J Y q hn λE u v h c c1 c2 o G=>?_;simp![];refine⟨E,_,rfl,v,λx O=>?_,c1,c2,o⟩;by_cases e:x=i
   ·subst e;exact c
   ·exact h x (B x ())
 ·let⟨F,L,el,J,B,I,H,C⟩:=U;subst el;simp![];exact hq F _ v J B H (ay _) C
end
open PySem (Str)
section
variable{s u s0:aV}{E:Nat->List (Nat×Nat)}{n ns no nd lo:Nat}{h:Hs}{ys:List Sd}
def eF(h:Hs)(ys:List Sd)(i:Nat):List (Nat×Nat):=match ys[i]? with|some x=>(e_ h x).map λk=>(k,ys.idxOf (iG h x k))|none=>[]
theorem NZ:∀{rs:List D},(∀d∈rs,∃r,d=.ref r)->∃c:List Nat,rs=c.map .ref
 |[],_=>⟨[],rfl⟩|d::rs,hh=>by let⟨r,rfl⟩:=hh d (by simp);let⟨c,rfl⟩:=NZ (rs:=rs) λd hd=>hh d (by simp[hd]);exact⟨r::c,rfl⟩
def Mm(hh:kK h)(L:u[ns]?=some (.lst rs))(G:rs.length=ys.length)(B:Jd h lo no nd ns ys rs u):ug ys.length (eF h ys) ns u:=by
 let⟨C,rfl⟩:=NZ (rs:=rs) λd hd=>by let⟨j,J⟩:=aN.mp hd;let⟨r,_,e,_⟩:=B j d J;exact⟨r,e⟩
 rw[ag]at G;let at_:∀(i r:Nat),C[i]?=some r->∃x,ys[i]?=some x/\u[r]?=some (.lst (row h x (e_ h x) ys))/\∀k∈e_ h x,iG h x k∈ys:=λi r g=>by let⟨O,x,e,_,_,_,_,c,v,q⟩:=B i (.ref r) (by rw[au,g];rfl);cases e;exact⟨x,c,v,q⟩
 refine⟨⟨C,L,G,λi r g=>?_⟩,λi H p o=>?_,λi H=>?_⟩
 ·let⟨x,c,v,_⟩:=at_ i r g;rw[v];unfold eF row;rw[c,kZ];rfl
 ·let⟨x,c,_,q⟩:=at_ i _ (af ());unfold eF at o;rw[c]at o;let⟨k,I,rfl⟩:=bQ.mp o;exact fL.mpr (q k I)
 ·unfold eF;rw[af H];dsimp only;rw[ag];exact Ou hh
def Jo{i:Nat}(st:qw h i):(fD h i).length=i:=by
 let c:=st.2;refine B0 c ?_;rcases Nat.eq_zero_or_pos i with e|e
 ·ext
 ·let o:=st.1 (i-1) ();let g:=Om (h:=h) (i:=i-1) (j:=i) ();ext
end
open PySem (Str)
def sO(R:List Sd)(f:Sd->D):List (D×D):=R.map λx=>(eW x,f x)
noncomputable def AY{α:Type}[DecidableEq α](f:α->D)(x:α)(v:D):α->D:=λy=>if y=x then v else f y
section
variable{α:Type}[DecidableEq α]{kf:α->D}{R:List α}{f:α->D}{x:α}
def E8(g:∀a b,kr (kf a) (kf b)=decide (a=b)):m_ (R.map λx=>(kf x,f x)) (kf x)=if x∈R then some (f x) else none:=by
 unfold m_
 induction R with|nil=>rfl|cons y R ih=>
  rw[aT,c8];dsimp only;rw[g];by_cases e:y=x
  ·subst e;rw[bY rfl,aJ cD];rfl
  ·rw[ba e];dsimp only;rw[ih];by_cases c:x∈R
   ·rw[aJ c,aJ (bF _ c)]
   ·rw[az c,az λh=>c ((aX.mp h).resolve_left (fI e))]
def Fm(g:∀a b,kr (kf a) (kf b)=decide (a=b)):nJ (R.map λx=>(kf x,f x)) (kf x) v=(if x∈R then R else R++[x]).map λy=>(kf y,AY f x v y):=by
 let l:((R.map λx=>(kf x,f x)).any λp=>kr p.1 (kf x))=decide (x∈R):=by
  rw[vN];apply sR.mpr;rw[e8,decide_eq_true_iff];constructor
  ·rintro ⟨y,c,e⟩
   let e:decide (y=x)=true:=by rw[<- g];exact e
   rw[<- of_decide_eq_true e];exact c
  ·intro h;exact⟨x,h,by show kr (kf x) (kf x)=true;rw[g,bY rfl]⟩
 unfold nJ;rw[l];by_cases h:x∈R
 ·rw[aJ (bY h),aJ h,kZ];apply dP;intro y c
  show (if kr (kf y) (kf x)=true then (kf y,v) else (kf y,f y))=_;rw[g];unfold AY;by_cases e:y=x
  ·rw[aJ (bY e),aJ e]
  ·rw[az (by rw[ba e];simp),az e]
 ·rw[az (by rw[ba h];simp),az h,bC];congr 1
  ·apply dP;intro y c;unfold AY;rw[az (λe:y=x=>h (by rw[<- e];exact c))]
  ·show [(kf x,v)]=[(kf x,AY f x v x)]
   unfold AY;rw[aJ rfl]
end
def Rl:m_ (sO R f) (eW x)=if x∈R then some (f x) else none:=E8 IW
def XM:nJ (sO R f) (eW x) v=sO (if x∈R then R else R++[x]) (AY f x v):=Fm IW
section
theorem OB(hh:kK h):∀(m:Nat),sF h m->∀(j:Nat)(x:Sd),j < m->(fD h m)[j]?=some x->∀k∈e_ h x,iG h x k∈fD h m
 |0,_,j,x,v,_,k,_=>by ext
 |m+1,go,j,x,v,hx,k,hk=>by
  let⟨t,B⟩:=Iu (h:=h) m;let o:=go m ();let g:(fD h m)[m]?=some (fD h m)[m]:=af o;let C:fD h (m+1)=sI h (fD h m)[m] (e_ h (fD h m)[m]) (fD h m):=by
   show (match (fD h m)[m]? with
    |some x=>sI h x (e_ h x) (fD h m)
    |none=>fD h m)=_
   rw[g]
  let q:j < (fD h m).length:=by ext
  let c:(fD h m)[j]?=some x:=by rw[B,av q]at hx;exact hx
  by_cases e:j=m
  ·subst e;have:x=(fD h j)[j]:=aF (c.symm.trans g);subst this;rw[C];exact Iy hk
  ·rw[B];exact bv _ (OB hh m (λj v=>go j ()) j x () c k hk)
def Ia{i:Nat}(hh:kK h)(st:qw h i)(g:x∈fD h i){k:Nat}(o:k∈e_ h x):iG h x k∈fD h i:=by let⟨j,c⟩:=aN.mp g;have:=(ae.mp c).1;have:=Jo st;exact OB hh i st.1 j x () c k o
end
open PySem (Str)
section
variable{S:Sd->Sd->Prop}{x y z:Sd}{row:List Sd}{h:Hs}{ys:List Sd}
inductive TS(S:Sd->Sd->Prop):Sd->Sd->Prop
 |one {x y:Sd} (h:S x y):TS S x y|more {x y z:Sd} (h:S x y) (r:TS S y z):TS S x z
def Rk(S:Sd->Sd->Prop)(row:List Sd):Prop:=∀(i:Nat)z,row[i]?=some z->∀y,S z y->y∈row.take i
def Y5(q:Rk S row):∀{x y:Sd},TS S x y->∀m:Nat,row[m]?=some x->∃l:Nat,l < m/\row[l]?=some y:=by
 intro x y a
 induction a with
 |@one x y h=>
  intro m o;let⟨j,g⟩:=aN.mp (q m x o y h);let c:j < m:=by have:=(ae.mp g).1;rw[bE]at this;ext
  rw[cq c]at g;exact⟨j,c,g⟩
 |@more x y z h _ ih=>
  intro m o;let⟨j,g⟩:=aN.mp (q m x o y h);let c:j < m:=by have:=(ae.mp g).1;rw[bE]at this;ext
  rw[cq c]at g;let⟨l,v,u⟩:=ih j g;exact⟨l,by ext,u⟩
def Sg(g:Rk S row)(hz:z∈row):¬ TS S z z:=λa=>by
 let key:∀m:Nat,row[m]?=some z->False:=by
  intro m
  induction m using tN with|ind m ih=>
   intro c;let⟨l,q,o⟩:=Y5 g a m c;exact ih l q o
 let⟨m,c⟩:=aN.mp hz;exact key m c
def Ba(h:Hs)(x y:Sd):Prop:=∃k∈e_ h x,iG h x k=y
def HZ{i k j:Nat}(c:ys[i]?=some x):(k,j)∈eF h ys i↔k∈e_ h x/\ys.idxOf (iG h x k)=j:=by
 unfold eF;rw[c];dsimp only;rw[bQ];constructor
 ·rintro ⟨k',hk,e⟩
  cases e;exact⟨hk,rfl⟩
 ·rintro ⟨hk,e⟩
  exact⟨k,hk,by rw[e]⟩
def A0(c:y∈ys):ys[ys.idxOf y]?=some y:=by have:=fL.mpr c;rw[af this,List.getElem_idxOf this]
def Fi(cl:∀x∈ys,∀k∈e_ h x,iG h x k∈ys){i j:Nat}(a:Rc (eF h ys) i j):∀{x y:Sd},ys[i]?=some x->ys[j]?=some y->x=y\/TS (Ba h) x y:=by
 induction a with
 |refl=>intro x y g c;rw[g]at c;cases c;exact .inl rfl
 |@step i j p hp _ ih=>
  intro x y g c;let⟨k,t⟩:=p;let⟨l,e⟩:=(HZ g).mp hp;let o:=cl x (ax g) k l;let q:ys[t]?=some (iG h x k):=by rw[<- e];exact A0 o
  rcases ih q c with z|z
  ·exact .inr (.one ⟨k,l,z⟩)
  ·exact .inr (.more ⟨k,l,rfl⟩ z)
end
open PySem (Str)
section
variable{ys zs:List Sd}{F:Sd->D}{nd:Nat}
def S4{a:CE}{I:Wk->aV->Prop}: wp (rY a l) I s=wp (a l) (λx g=>match x with
  | .dic n=>wp (getDc n) (λp c=>p.1=true/\I ⟨p.2.map λq=>.tup [q.1,q.2],λs=>s[n]?=some (.dct true p.2)⟩ c) g
  |_=>False) s:=by
 unfold rY;rw[d8];congr 1;funext x s1;cases x<;>first|exact gQ|(dsimp only;rw[d8];congr 1;funext p c;rw[eJ,cE])
theorem Nz:∀{ws zs:List Sd},(zs++ws).Nodup->wO (sO zs F) (ws.map λx=>(eW x,F x))=sO (zs++ws) F
 |[],zs,_=>by rw[bB];rfl
 |w::ws,zs,hn=>by
  let g:w∉zs:=λz=>by rw[c9]at hn;exact hn.2.2 w z w (by simp) rfl
  let e:nJ (sO zs F) (eW w) (F w)=sO (zs++[w]) F:=by
   rw[XM,az g];congr 1;funext y;unfold AY;split
   ·rename_i h;rw[h]
   ·rfl
  let c:(zs++[w]++ws).Nodup:=by rw[bz];exact hn
  have:=Nz (ws:=ws) (zs:=zs++[w]) c;rw[bz]at this
  show wO (nJ (sO zs F) (eW w) (F w)) (ws.map λx=>(eW x,F x))=_;rw[e,this];rfl
theorem Qg:∀ws:List Sd,sZ (ws.map λx=>D.tup [eW x,F x])=some (ws.map λx=>(eW x,F x))
 |[]=>rfl|w::ws=>by rw[aT,sZ,Qg ws];unfold Qq;dsimp only;rw[aJ (Ab w)];rfl
def Tn(c:ys.Nodup)(g:ys.length<=1000):wp (uo (ys.map λx=>D.tup [eW x,F x])) Q s=Q (.dic s.length) (s++[.dct true (sO ys F)]):=by unfold uo;rw[Qg];dsimp only;let e:wO [] (ys.map λx=>(eW x,F x))=sO ys F:=Nz (zs:=[]) c;rw[eJ,e,ag];have:wp (ul true (sO ys F)) Q s=Q (.dic s.length) (s++[.dct true (sO ys F)]):=c6 rfl;rw[this];exact propext ⟨λz=>z.2,λz=>⟨g,z⟩⟩
end
open PySem (Str)
theorem Jq{f g:Nat->Nat}:∀{n:Nat},(∀i,i < n->f i=g i)->mx f n=mx g n
 |0,_=>rfl|n+1,h=>by unfold mx;rw[Jq λi c=>h i (),h n ()]
def vY{α:Type}(v N:α->Nat)(L:List α):Nat:=mx (λi=>((L[i]?).map λx=>v x+N x).getD 0) L.length
def LK{α:Type}{v c N l:α->Nat}{L:List α}(h:∀x∈L,v x=c x/\N x=l x):vY v N L=vY c l L:=Jq λi g=>by
 rw[af g]
 show v L[i]+N L[i]=c L[i]+l L[i];rw[(h _ (a_ g)).1,(h _ (a_ g)).2]
def Qnt{α β:Type}{v N:β->Nat}{g:α->β}{L:List α}:vY v N (L.map g)=vY (λx=>v (g x)) (λx=>N (g x)) L:=by unfold vY;rw[ag];exact Jq λi c=>by rw[au,af c];rfl
def Xd{α:Type}{m:M α}{d:α}(h:∀Q:α->aV->Prop,wp m Q s=Q d c):m s=.ok d c:=by
 have:=h λa t=>a=d/\t=c;let w:wp m (λa t=>a=d/\t=c) s:=by rw[this];exact⟨rfl,rfl⟩
 cases w with|intro a t e q=>rw[e,q.1,q.2]
def MY{i:Nat}:(gO 0 v)[i]?=(v[i]?).map oA:=by unfold gO;rw[List.take_zero,pj,eX,au]
def Z3{v:aV}{i:Nat}(h:v[i]?=some (.lst ds)):(gO 0 v)[i]?=some (.lst ds):=by rw[MY,h];rfl
def Qnx:(gO 0 v).mapIdx (r8 v)=v:=by
 apply fq;intro i;rw[wW,MY];cases e:v[i]? with|none=>rfl|some o=>
  show some (r8 v i (oA o))=some o;unfold r8;rw[e];cases o<;>rfl
def Qny{g:List D->M D}(h:∀Q:D->aV->Prop,wp (g (ds++l)) Q (gO 0 v)=Q r (gO 0 v)):px g l ds v=.ok r v:=by unfold px;rw[Xd h];refine (aJ λi o e c=>?_).trans (by rw[Qnx]);rw[MY,e];show some (oA o)=_;unfold oA;rw[aJ c]
def Yu{g:List D->M D}{s:aV}(h:wp (g (ds++[.fn s.length])) (λr u=>eD s u/\s.length < u.length/\Q r (gO s.length u)) (s++[.clo c l])):wp (callC g c l ds) Q s:=by
 cases h with|intro r u e q=>
  let⟨C,B,v⟩:=q;refine⟨r,gO s.length u,?_,v⟩;unfold callC;rw[e];refine aJ ⟨B,λm o=>.inl ?_⟩;rw[af o];exact C.at_ (af o)
def QnA(h:eD s u):eD s (gO s.length u):=by let⟨t,rfl⟩:=h;exact⟨t.map oA,by unfold gO;rw[List.take_left,List.drop_left]⟩
def ZH{u:aV}{n i:Nat}(h:u[i]?=some (.lst ds)):(gO n u)[i]?=some (.lst ds):=by
 unfold gO;by_cases g:i < n
 ·let c:=(ae.mp h).1;rw[av (by rw[bE];ext),cq g];exact h
 ·let c:=(ae.mp h).1;rw[aM (by rw[bE];ext),bE,tJ (),au,mT,show n+(i-n)=i by ext,h];rfl
section
variable{s u s0:aV}{Q:D->aV->Prop}{E:Nat->List (Nat×Nat)}{n ns nf no:Nat}{F:List Nat}
def VE:wp (tQ c (aQ d) l) Q s=wp (c l) (λds g=>wp (if ds.length=0 then ret d else oD ds) Q g) s:=by unfold tQ;rw[d8];refine iU λds h=>?_;rw[d8];exact c6 rfl
def M0{f:Nat->Nat}{k:Nat}:wp (if (bu k λi=>D.int (f i:Nat)).length=0 then ret (.int 0) else oD (bu k λi=>D.int (f i:Nat))) Q s=Q (.int (mx f k:Nat)) s:=by
 rw[l_];by_cases h:k=0
 ·subst h;rw[aJ rfl,cE];rfl
 ·rw[az h,J5 ()]
def R_:wp (qv pV f a l) Q s=wp (f l) (λd c=>wp (a l) (λds g=>wp (pS pV d ds) Q g) c) s:=by unfold qv;rw[d8];congr 1;funext d c;rw[d8]
def R8(g:s[nf]?=some (.clo (.dfn oF) o))(h:∀Q:D->aV->Prop,wp (qS ([a,b]++o)) Q (gO 0 s)=Q r (gO 0 s)):wp (pS pV (.fn nf) [a,b]) Q s=Q r s:=by
 refine c6 ?_
 show (match s[nf]? with|some (.lam e)=>qT pV.1 e [a,b] s|some (.clo c o)=>qR pV.2 c o [a,b] s|_=>.bad)=_;rw[g]
 show qR [(.dfn oF,⟨2,2,qS⟩)] (.dfn oF) o [a,b] s=_;unfold qR;rw[aJ rfl]
 show chk (2=2) (px qS o [a,b]) s=_;unfold chk;rw[aJ rfl];exact Qny h
def UP(g:s[nf]?=some (.lam mM)):wp (pS pV (.fn nf) [a,b]) Q s=Q (.int 1) s:=by
 refine c6 ?_
 show (match s[nf]? with|some (.lam e)=>qT pV.1 e [a,b] s|some (.clo c vs)=>qR pV.2 c vs [a,b] s|_=>.bad)=_;rw[g]
 show qT [(mM,⟨2,1,vx⟩)] mM [a,b] s=_;unfold qT;rw[aJ rfl]
 show chk (2=2) (vx [a,b]) s=_;unfold chk;rw[aJ rfl];rfl
def MD{v:aV}{k i:Nat}(g:v[k]?=some (.lst ds))(c:i < ds.length):wp (kL (.ref k) (.int ((i:Nat):Int)) x) R v=R Unit.unit (v.set k (.lst (ds.set i x))):=by rw[ue,eV g,IC c];exact oC g
noncomputable def IJ(E:Nat->List (Nat×Nat))(F:List Nat):Prop:=∀(i x:Nat),F[i]?=some x->∀p∈E x,p.2∈F.take i
def Qc{wt:Nat->Nat->Nat}(g:ug n E ns s)(hn:n<=400)(go:s[no]?=some (.lst (F.map gJ)))(nd:F.Nodup)(lt:∀x∈F,x < n)(al:∀x,x < n->x∈F)(G:IJ E F)(hw:∀v x p,x < n->p∈E x->eD s v->∀Q:D->aV->Prop,wp (pS pV (.fn nf) [.int (x:Nat),.int (p.1:Nat)]) Q v=Q (.int (wt x p.1:Nat)) v)(hq:∀(N:Nat->Nat)(u:aV),(∀x,x < n->N x=vY (λp=>wt x p.1) (λp=>N p.2) (E x))->u[s.length]?=some (.lst (bu n λi=>.int (N i:Nat)))->eD s u->Q (.ref s.length) u):wp (jd [.ref ns,.ref no,.fn nf]) Q s:=by
 let⟨rs,h1,h2,h3⟩:=id g.at_;let c1:n<=fK:=iB ();let w:∀(A:List D->aV->Prop),wp (collect (aS 0) bZ (aQ (.int 0)) (fW ns (rs.map D.ref)) (rs.map D.ref) [none]) A s=A (bu n λ_=>.int 0) s:=λA=>by rw[Cn (f:=λ_=>.int 0) (show fW ns _ _ from h1) (λk d hd Q=>by simp![]),ag,h2]
 (simp![jd];simp![yc,↓eV h1,ii,↓w,ag,h2,c1])
 let a1:(s++[MO.lst (bu n λ_=>D.int 0)])[s.length]?=some (.lst (bu n λi=>.int ((λ_=>0:Nat->Nat) i:Nat))):=o7;let a3:eD s (s++[MO.lst (bu n λ_=>D.int 0)]):=(eD.refl _).snoc _;generalize s++[MO.lst (bu n λ_=>D.int 0)]=s1 at *;rw[eV (a3.at_ go)];refine uK (λi l v=>∃(N:Nat->Nat)(L:Option D),l=[some (.ref ns),some (.ref no),some (.fn nf),some (.ref s.length),L]/\(∀x∈F.take i,N x=vY (λp=>wt x p.1) (λp=>N p.2) (E x))/\v[s.length]?=some (.lst (bu n λi=>.int (N i:Nat)))/\eD s v) (λ_ _ _ w=>by let⟨_,_,_,_,_,e⟩:=w;exact e.at_ go)
  ⟨λ_=>0,_,rfl,by simp,a1,a3⟩ (λR i d l v up rt hd U=>?_) (λl v U=>?_)
 ·let⟨N,L,el,J,I,H⟩:=U;subst el;rw[au]at hd;cases ex:F[i]? with|none=>rw[ex]at hd;cases hd|some x=>
   rw[ex]at hd;let ed:d=.int (x:Nat):=(aF hd).symm;subst ed;let h:=lt x (ax ex);let⟨u,r,k1,k2,Y,k4⟩:=(g.ext H).row h;let l:F.take (i+1)=F.take i++[x]:=by rw[iO,ex];rfl
   let O:x∉F.take i:=λz=>by
    let⟨j,o⟩:=aN.mp z;let c:j < i:=by have:=(ae.mp o).1;rw[bE]at this;ext
    rw[cq c]at o;exact bo ((fu (ae.mp o).1 nd).mp (o.trans ex.symm)) (bj c)
   let few:=g.few x h;let cc:∀(A:List D->aV->Prop),wp (collect (gq 2 (cC (aS 0) (cC (aS 1) gD))) bZ (c2 fX (qv pV (ao 2) (aw (ao 4) (aw (ao 0) bn))) (c2 aZ (ao 3) (ao 1))) (fW r ((E x).map yz)) ((E x).map yz) [none,none,some (.fn nf),some (.ref s.length),some (.int (x:Nat))]) A v=A (bu (E x).length λi=>D.int ((((E x)[i]?.map λp=>wt x p.1+N p.2).getD 0:Nat):Int)) v:=λA=>by
    rw[Ei (caps:=[some (.fn nf),some (.ref s.length),some (.int (x:Nat))]) (f:=λi=>D.int ((((E x)[i]?.map λp=>wt x p.1+N p.2).getD 0:Nat):Int)) Y (λj d hd=>?_),ag];rw[au]at hd;cases ep:(E x)[j]? with|none=>rw[ep]at hd;cases hd|some p=>
     rw[ep]at hd;let C:=g.wf x h p (ax ep);refine⟨_,_,(aF hd).symm,λQ=>?_⟩;let q3:∀(Q:D->aV->Prop)s,wp (cL (bu n λi=>D.int (N i:Nat)) ((p.2:Nat):Int)) Q s=Q (.int (N p.2:Nat)) s:=λQ s=>xj C;let q4:∀Q,wp (pS pV (.fn nf) [.int (x:Nat),.int (p.1:Nat)]) Q v=Q (.int (wt x p.1:Nat)) v:=hw v x p h (ax ep) H;simp![↓R_,↓q4,↓eV I,↓q3,dJ,gX];rw[show ((wt x p.1:Int)+(N p.2:Int))=((wt x p.1+N p.2:Nat):Int) by ext]
   let cl:(E x).length<=fK:=iB ();let mm:=λQ=>@M0 v Q (λi=>((E x)[i]?.map λp=>wt x p.1+N p.2).getD 0) (E x).length;let ln:s.length < v.length:=lG I;let gs:∀y R,wp (kL (.ref s.length) (.int ((x:Nat):Int)) y) R v=R Unit.unit (v.set s.length (.lst ((bu n λi=>D.int (N i:Nat)).set x y))):=λy R=>MD I (by rw[l_];exact h);simp![↓VE,↓k1,↓k2,↓eV Y,ii,↓cc,ag,cl,↓mm,↓gs];refine up ⟨λy=>if y=x then vY (λp=>wt x p.1) (λp=>N p.2) (E x) else N y,_,rfl,λy B=>?_,?_,H.put (ay _)⟩
   ·let same:∀z,(∀p∈E z,p.2∈F.take i)->vY (λp=>wt z p.1) (λp:Nat×Nat=>if p.2=x then vY (λp=>wt x p.1) (λp=>N p.2) (E x) else N p.2) (E z)=vY (λp=>wt z p.1) (λp=>N p.2) (E z):=λz hz=>LK λp C=>⟨rfl,az λ(q:p.2=x)=>O (by rw[<- q];exact hz p C)⟩
    rw[l]at B;dsimp only;by_cases e:y=x
    ·subst e;rw[aJ rfl,same y (G i y ex)]
    ·rw[az e];rcases aO.mp B with B|B
     ·let⟨j,o⟩:=aN.mp B;let c:j < i:=by have:=(ae.mp o).1;rw[bE]at this;ext
      rw[cq c]at o;rw[same y λp C=>gH (by rw[List.take_take,tJ (gK c)];exact G j y o p C),J y B]
     ·exact bo (aI.mp B) e
   ·rw[aE ln,Nc h];congr 3;funext j;dsimp only;by_cases e:j=x
    ·subst e;rw[aJ rfl,aJ rfl];rfl
    ·rw[az e,az e]
 ·let⟨N,L,el,J,I,H⟩:=U;subst el;simp![];rw[ag,d9]at J;exact hq N v (λx h=>J x (al x h)) I H
noncomputable def Aa(E:Nat->List (Nat×Nat))(x:Nat):Prop:=∃p∈E x,Rc E p.2 x
def NM(g:ug n E ns s)(hn:n<=400)(h1:∀F r u,F.Nodup->(∀x∈F,x < n)->(∀x,x < n->x∈F)->IJ E F->u[r]?=some (.lst (F.map gJ))->s.length<=r->eD s u->Q (.ref r) u)(h2:∀x u,x < n->Aa E x->eD s u->Q .non u):wp (jc [.ref ns]) Q s:=by
 (simp![jc];simp![jO])
 refine PC g hn λF no c I al go lo O=>?_;let g1:=g.ext O;let⟨rs,r1,r2,r3⟩:=id g1.at_;let c1:n<=fK:=iB ();let nd:F.Nodup:=by have:=I.nd;rwa [bB]at this
 let lt:∀x∈F,x < n:=λx h=>I.lt x (by rw[bB];exact h);let w:∀(A:List D->aV->Prop),wp (collect (aS 0) bZ (aQ (.bl false)) (fW ns (rs.map D.ref)) (rs.map D.ref) [none]) A c=A (seen n []) c:=λA=>by rw[Cn (f:=λ_=>.bl false) (show fW ns _ _ from r1) (λk d hd Q=>by simp![]),ag,r2,Pb]
 simp![↓eV r1,ii,↓w,ag,r2,c1];let a1:(c++[MO.lst (seen n [])])[c.length]?=some (.lst (seen n (F.take 0))):=o7;let a3:eD c (c++[MO.lst (seen n [])]):=(eD.refl _).snoc _;generalize c++[MO.lst (seen n [])]=s2 at *;rw[eV (a3.at_ go)];refine uK (λi l v=>∃(L:Option D),l=[some (.ref ns),some (.ref no),some (.ref c.length),L]/\(∀(j x:Nat),j < i->F[j]?=some x->∀p∈E x,p.2∈F.take j)/\v[c.length]?=some (.lst (seen n (F.take i)))/\eD c v) (λ_ _ _ w=>by let⟨_,_,_,_,e⟩:=w;exact e.at_ go)
  ⟨_,rfl,λj x C=>bo C (),a1,a3⟩ (λR i d l v up rt hd hW=>?_) (λl v hW=>?_)
 ·let⟨L,el,hF,H,G⟩:=hW;subst el;rw[au]at hd;cases ex:F[i]? with|none=>rw[ex]at hd;cases hd|some x=>
   rw[ex]at hd;let ed:d=.int (x:Nat):=(aF hd).symm;subst ed;let h:=lt x (ax ex);let⟨rs',r,k1,k2,k3,k4⟩:=(g1.ext G).row h;let U:F.take (i+1)=F.take i++[x]:=by rw[iO,ex];rfl
   let few:=g.few x h;let cc:∀(A:List D->aV->Prop),wp (collect (gq 2 (cC (aS 0) (cC (aS 1) gD))) bZ (c2 aZ (ao 2) (ao 1)) (fW r ((E x).map yz)) ((E x).map yz) [none,none,some (.ref c.length)]) A v=A (bu (E x).length λj=>D.bl (bP (∀p,(E x)[j]?=some p->p.2∈F.take i))) v:=λA=>by
    rw[Ei (caps:=[some (.ref c.length)]) (f:=λj=>D.bl (bP (∀p,(E x)[j]?=some p->p.2∈F.take i))) k3 (λj d hd=>?_),ag];rw[au]at hd;cases ep:(E x)[j]? with|none=>rw[ep]at hd;cases hd|some p=>
     rw[ep]at hd;let o:=g.wf x h p (ax ep);refine⟨_,_,(aF hd).symm,λQ=>?_⟩;let q3:∀(Q:D->aV->Prop)s,wp (cL (seen n (F.take i)) ((p.2:Nat):Int)) Q s=Q (.bl (decide (p.2∈F.take i))) s:=λQ s=>Lo o;simp![↓eV H,↓q3];congr 2;by_cases e:p.2∈F.take i
     ·rw[bY e,Mb λq c=>by cases c;exact e]
     ·rw[ba e,M7 λz=>e (z p rfl)]
   let cl:(E x).length<=fK:=iB ();simp![↓k1,↓k2,↓eV k3,ii,↓cc,ag,cl,↓Yd];by_cases J:∀j,j < (E x).length->∀p,(E x)[j]?=some p->p.2∈F.take i
   ·rw[Mb J];let q:c.length < v.length:=lG H;let Y:MM.oz (seen n (F.take i)).length ((x:Nat):Int)=some x:=IC (by unfold seen;rw[l_];exact h);simp![eU,aR,if_false,↓eV H,Y,↓oC H];refine up ⟨_,rfl,λj y C l p o=>?_,?_,G.put (ay _)⟩
    ·by_cases e:j=i
     ·subst e;rw[ex]at l;cases l;let⟨m,g⟩:=aN.mp o;exact J m (ae.mp g).1 p g
     ·exact hF j y () l p o
    ·rw[aE q,Lb h,<- U]
   ·rw[M7 J];simp![iN,if_true];refine rt ?_
    show wp (yW (.ret .non)) Q v;simp![];refine h2 x v h ?_ (O.trans G);refine iH λu=>J λj C p o=>?_;let B:=ax o;rcases I.fo i x ex x (by rw[U];simp) p B with z|z
    ·rw[U]at z;rcases aO.mp z with z|z
     ·exact z
     ·exact bo ⟨p,B,by rw[aI.mp z];exact .refl _⟩ u
    ·exact bo ⟨p,B,z⟩ u
 ·let⟨L,el,hF,H,G⟩:=hW;subst el;simp![];refine h1 F no v nd lt al (λj x C p o=>hF j x ?_ C p o) (G.at_ go) lo (O.trans G);rw[ag];exact (ae.mp C).1
end
open PySem (Str)
section
variable{s u s0 v:aV}{Q:D->aV->Prop}{l:Loc}{h:Hs}{ys:List Sd}{no ns nd nn:Nat}
noncomputable def Au:Ln->Nat
 | .settle v=>v| .act b _ _=>b
def tW(h:Hs)(c g:Nat)(y:Sd)(k:Nat):Nat:=if k=c/\Au (dI h y k)=g then 1 else 0
def QT{x:Ln}{s:aV}:wp (aZ (qC x) (.int 1)) Q s=Q (.int (Au x:Nat)) s:=by cases x<;>exact c6 rfl
def YI{x k c g:Nat}(hh:kK h)(G:j_ h y)(H:k < h.hands.length)(I:v[no]?=some (.lst (ys.map eW)))(J:ys[x]?=some y):wp (qS ([.int (x:Nat),.int (k:Nat)]++[ki h,.int (c:Nat),.tup [.ref no,.ref ns],.int (g:Nat)])) Q v=Q (.int (tW h c g y k:Nat)) v:=by
 let E:∀Q s,wp (je [ki h,eW y,.int k]) Q s=Q (qC (dI h y k)) s:=λQ s=>LS hh G H;let C:∀(Q:D->aV->Prop)s,wp (cL (ys.map eW) ((x:Nat):Int)) Q s=Q (eW y) s:=λQ s=>rL (i:=x) (by rw[au,J];rfl);let B:∀(Q:D->aV->Prop)s,wp (aZ (qC (dI h y k)) (.int 1)) Q s=Q (.int (Au (dI h y k):Nat)) s:=λQ s=>QT;unfold qS BJ;simp![↓eV I,↓E,↓C,↓B];unfold tW;by_cases q:k=c
 ·rw[aJ (show (k:Int)=c by ext)];by_cases o:Au (dI h y k)=g
  ·rw[aJ (show ((Au (dI h y k):Nat):Int)=g by ext),aJ ⟨q,o⟩];rfl
  ·rw[az (show ¬ ((Au (dI h y k):Nat):Int)=g by ext),az λz=>o z.2];rfl
 ·rw[az (show ¬ (k:Int)=c by ext),az λz=>q z.1];rfl
def Xx{g:List D->M D}{c:lF}{a:CA}{o:List D}(t:s[0]?=some (.tbl "most_deeds" "worth"))(e:um (l.set 5 none) [0,3,1,4]=some o):wp (py 0 "most_deeds" "worth" g c [0,3,1,4] 5 a l) Q s=wp (a (l.set 5 none)) (λds q=>wp (callC g c o ds) Q q) s:=by
 have:py 0 "most_deeds" "worth" g c [0,3,1,4] 5 a l s=bnd (a (l.set 5 none)) (λds=>callC g c o ds) s:=by unfold py;rw[t,e];exact aJ ⟨rfl,rfl⟩
 rw[<- d8,sN,sN,this]
def QnL{r:Nat}(g:s[r]?=some (.lst ds)):wp (xG f (.ref r)) Q s=wp (f ds) Q s:=by unfold xG;rw[d8,eV g]
noncomputable def wN(ys:List Sd)(wt:Sd->Nat->Nat)(x k:Nat):Nat:=((ys[x]?).map λy=>wt y k).getD 0
def SX{r c o:Nat}{F:List Nat}(hh:kK h)(E:∀y∈ys,j_ h y)(hl:ys.length<=324)(h0:0 < ys.length)(U:s[0]?=some (.tbl "most_deeds" "worth"))(gy:s[no]?=some (.lst (ys.map eW)))(g:ug ys.length (eF h ys) ns s)(hE:∀x p,x < ys.length->p∈eF h ys x->p.1 < h.hands.length) (go:s[r]?=some (.lst (F.map gJ))) (nd:F.Nodup) (lt:∀x∈F,x < ys.length) (al:∀x,x < ys.length->x∈F) (H:IJ (eF h ys) F)(hq:∀(M:Nat->Nat)(u:aV),(∀x,x < ys.length->M x=vY (λp=>wN ys (tW h c o) x p.1) (λp=>M p.2) (eF h ys x))->eD s u->Q (.int (mx M ys.length:Nat)) u):wp (jm [ki h,.tup [.ref no,.ref ns],.ref r,.int (c:Nat),.int (o:Nat)]) Q s:=by
 let Y:=λQ=>@Xx s Q [some (ki h),some (.tup [.ref no,.ref ns]),some (.ref r),some (.int (c:Nat)),some (.int (o:Nat)),none] jd (.dfn oF) (aw (c2 aZ (ao 1) (aQ (.int 1))) (aw (ao 2) bn)) [ki h,.int (c:Nat),.tup [.ref no,.ref ns],.int (o:Nat)] U rfl
 (simp![jm];simp![jX,↓Y,List.set_cons_succ,List.set_cons_zero])
 refine Yu ?_;let q:eD s (s++[MO.clo (.dfn oF) [ki h,.int (c:Nat),.tup [.ref no,.ref ns],.int (o:Nat)]]):=(eD.refl _).snoc _;let gl:(s++[MO.clo (.dfn oF) [ki h,.int (c:Nat),.tup [.ref no,.ref ns],.int (o:Nat)]])[s.length]?=some (.clo (.dfn oF) [ki h,.int (c:Nat),.tup [.ref no,.ref ns],.int (o:Nat)]):=o7;generalize s++[MO.clo (.dfn oF) [ki h,.int (c:Nat),.tup [.ref no,.ref ns],.int (o:Nat)]]=C at *
 show wp (jd [.ref ns,.ref r,.fn s.length]) _ C;let l:s.length < C.length:=lG gl;refine Qc (wt:=wN ys (tW h c o)) (g.ext q) () (q.at_ go) nd lt al H (λv x p G hp I Q=>R8 (I.at_ gl) λQ=>?_) λM u hM gm B=>?_
 ·let J:=af G;rw[YI hh (E _ (a_ G)) (hE x p G hp) (Z3 ((q.trans I).at_ gy)) J];unfold wN;rw[J];rfl
 ·refine⟨q.trans B,by have:=B.le;ext,?_⟩;let c:(gO s.length u)[C.length]?=some (.lst (bu ys.length λi=>.int (M i:Nat))):=ZH gm;let L:=QnA (q.trans B);generalize gO s.length u=O at *;simp![↓QnL c,↓J5 h0];exact hq M O hM L
end
open PySem (Str)
section
variable{s u s0 v:aV}{Q:D->aV->Prop}{h:Hs}{ys:List Sd}{no ns nd nn:Nat}
def JR{n:Nat}:wp (tj (.ref n) .non) Q s=Q (.bl false) s:=c6 rfl
def D9:wp (tj .non .non) Q s=Q (.bl true) s:=c6 rfl
def v7(h:Hs)(ys R:List Sd):Prop:=(∀x∈ys,x∈R)/\∀(i:Nat)(z:Sd),R[i]?=some z->∀k∈e_ h z,iG h z k∈R.take i
def uJ(h:Hs)(ys:List Sd)(wt:Sd->Nat->Nat)(M:Sd->Nat):Prop:=∀x∈ys,M x=vY (wt x) (λk=>M (iG h x k)) (e_ h x)
def CC(M:Sd->Nat)(ys:List Sd):Nat:=mx (λi=>((ys[i]?).map M).getD 0) ys.length
def Pg{M:Nat->Nat}(o:∀x∈ys,∀k∈e_ h x,iG h x k∈ys)(q:∀x,x < ys.length->M x=vY (λp=>wN ys wt x p.1) (λp=>M p.2) (eF h ys x)):uJ h ys wt λx=>M (ys.idxOf x):=by
 intro x c;let g:=fL.mpr c
 show M (ys.idxOf x)=_;rw[q _ g];unfold eF;rw[A0 c];refine Qnt.trans (LK λk B=>⟨?_,rfl⟩);unfold wN;rw[A0 c];rfl
def QnQ{M:Nat->Nat}(g:ys.Nodup):mx M ys.length=CC (λx=>M (ys.idxOf x)) ys:=Jq λi c=>by
 rw[af c]
 show M i=M (ys.idxOf ys[i]);have:=(fu (fL.mpr (a_ c)) g).mp ((A0 (a_ c)).trans (af c).symm);rw[this]
def Rg{F:List Nat}(q:∀x∈ys,∀k∈e_ h x,iG h x k∈ys)(nd:F.Nodup)(lt:∀x∈F,x < ys.length)(J:∀x,x < ys.length->x∈F)(B:IJ (eF h ys) F):∃R:List Sd,v7 h ys R/\R.length<=ys.length/\∀x∈R,x∈ys:=by
 refine⟨F.map λi=>(ys[i]?).getD ⟨[],[]⟩,⟨λx c=>?_,λi z hz k E=>?_⟩,?_,λx c=>?_⟩
 ·let G:=fL.mpr c;exact bQ.mpr ⟨ys.idxOf x,J _ G,by rw[A0 c];rfl⟩
 ·rw[au]at hz;cases o:F[i]? with|none=>rw[o]at hz;cases hz|some j=>
   rw[o]at hz;let g:=lt j (ax o);let I:z=ys[j]:=by have:=(aF hz).symm;dsimp only at this;rw[af g]at this;exact this
   let C:ys[j]?=some z:=by rw[I];exact af g
   let H:=q z (ax C) k E;have:=B i j o (k,ys.idxOf (iG h z k)) ((HZ C).mpr ⟨E,rfl⟩);rw[<- List.map_take];exact bQ.mpr ⟨_,this,by rw[A0 H];rfl⟩
 ·rw[ag];exact BA _ _ nd lt
 ·let⟨j,g,rfl⟩:=bQ.mp c;rw[af (lt j g)];exact a_ _
def v7.none_(f:v7 h ys R)(g:x∈ys):¬ TS (Ba h) x x:=Sg (row:=R) (λj z hz y c=>by let⟨k,o,e⟩:=c;exact e ▸ f.2 j z hz k o) (f.1 x g)
def Jt(c:∀x∈ys,∀k∈e_ h x,iG h x k∈ys){x:Nat}(q:x < ys.length)(G:Aa (eF h ys) x):TS (Ba h) ys[x] ys[x]:=by
 let⟨⟨k,t⟩,B,rc⟩:=G;let o:=af q;let⟨g,e⟩:=(HZ o).mp B;let C:=c ys[x] (a_ q) k g;let E:ys[t]?=some (iG h ys[x] k):=by rw[<- e];exact A0 C
 rcases Fi c rc E o with z|z
 ·exact .one ⟨k,g,z⟩
 ·exact .more ⟨k,g,rfl⟩ z
def Sz{Y:Nat}(hh:kK h)(hn:ys.Nodup)(I:∀y∈ys,j_ h y)(hl:ys.length<=324)(h0:0 < ys.length)(o:∀x∈ys,∀k∈e_ h x,iG h x k∈ys)(t0:s[0]?=some (.tbl "most_deeds" "worth"))(gy:s[no]?=some (.lst (ys.map eW)))(g:ug ys.length (eF h ys) ns s)(h1:∀(M:Nat->Sd->Nat)u,(∀k,k < h.hands.length->uJ h ys (tW h k Y) (M k))->(∀x∈ys,¬ TS (Ba h) x x)->eD s u->Q (.tup (bu h.hands.length λk=>.int (CC (M k) ys:Nat))) u)(h2:∀x u,x∈ys->TS (Ba h) x x->eD s u->Q .non u):wp (js [ki h,.tup [.ref no,.ref ns],.int (Y:Nat)]) Q s:=by
 (simp![js];simp![jV])
 refine NM g () (λF r H nd lt al C go lr E=>?_) (λx H q cy E=>?_)
 ·let l3:=hh.2.2.2.1;let hb:=wx (show h.hands.length<=100 by ext);let q1:∀(Q:D->aV->Prop)s,wp (aZ (ki h) (.int 1)) Q s=Q (.tup (h.hands.map pM)) s:=λQ s=>c6 rfl;let l:h.hands.length<=fK:=iB ();simp![↓JR,aR,if_false,↓q1,ag,hb,uj,ii,bA,l_,l];refine Dn (λi c v=>∃M:Nat->Sd->Nat,c=(bu i λk=>D.int (CC (M k) ys:Nat))/\(∀k,k < i->uJ h ys (tW h k Y) (M k))/\eD H v) (λ_ _ _ _=>trivial) ⟨λ_ _=>0,rfl,λk J=>bo J (),eD.refl _⟩ (λR i c v up hi w=>?_) (λc v w=>?_)
  ·let⟨M,U,O,B⟩:=w;let G:=E.trans B;simp![];refine SX hh I hl h0 (G.at_ t0) (G.at_ gy) (g.ext G) (λx p q h=>xE ((HZ (k:=p.1) (j:=p.2) (af q)).mp h).1) (B.at_ go) nd lt al C λl u L c=>?_;refine up ⟨λk=>if k=i then (λx=>l (ys.idxOf x)) else M k,?_,λk J=>?_,B.trans c⟩
   ·rw[z6,U,QnQ hn];congr 1
    ·exact zm λk J=>by dsimp only;rw[az (show ¬ k=i by ext)]
    ·dsimp only;rw[aJ rfl]
   ·by_cases e:k=i
    ·subst e;simp only[if_true];exact Pg o L
    ·simp only[az e];exact O k ()
  ·let⟨M,U,O,B⟩:=w;subst U;simp![l_,l];let⟨R,c,_⟩:=Rg o nd lt al C;exact h1 M v O (λx q=>c.none_ q) (E.trans B)
 ·simp![↓D9,if_true];exact h2 ys[x] H (a_ q) (Jt o q cy) E
end
open PySem (Str)
section
variable{s u s0 v:aV}{Q:D->aV->Prop}{h:Hs}{no ns nd nn:Nat}
def So:y∈lC xs x↔y∈xs\/y=x:=by
 unfold lC;by_cases e:x∈xs
 ·rw[aJ e];exact⟨.inl,λz=>z.elim id λq=>q ▸ e⟩
 ·rw[az e,aO,aI]
theorem PZ{α:Type}{f:α->Sd}:∀(c:List α)(xs:List Sd),y∈c.foldl (λys a=>lC ys (f a)) xs↔y∈xs\/∃a∈c,y=f a
 |[],xs=>by simp
 |a::c,xs=>by
  rw[Bj,PZ c,So];constructor
  ·rintro ((z|z)|⟨b,hb,e⟩)
   ·exact .inl z
   ·exact .inr ⟨a,.head _,z⟩
   ·exact .inr ⟨b,.tail _ hb,e⟩
  ·rintro (z|⟨b,hb,e⟩)
   ·exact .inl (.inl z)
   ·rcases aX.mp hb with q|q
    ·subst q;exact .inl (.inr e)
    ·exact .inr ⟨b,q,e⟩
def NU(i:Nat){row:List D}(c:row∈mv h.hands.length):nj h row∈fD h i:=by
 induction i with|zero=>exact (PZ _ _).mpr (.inr ⟨row,c,rfl⟩)|succ i ih=>let⟨t,e⟩:=Iu (h:=h) i;rw[e];exact bv _ ih
def Xp{α:Type}{v N:α->Nat}{L:List α}{x:α}(g:x∈L):v x+N x<=vY v N L:=by let⟨i,c⟩:=aN.mp g;have:=MG (f:=λi=>((L[i]?).map λx=>v x+N x).getD 0) (ae.mp c).1;rw[c]at this;exact this
def uJ.uniq{M B:Sd->Nat}(C:v7 h ys R)(H:∀x∈R,x∈ys)(a:uJ h ys wt M)(b:uJ h ys wt B):∀x∈ys,M x=B x:=by
 let key:∀(m i:Nat)(z:Sd),i < m->R[i]?=some z->M z=B z:=λm=>by
  induction m with
  |zero=>intro i z q;ext
  |succ m ih=>
   intro i z q hz;let c:=H z (ax hz);rw[a z c,b z c];refine LK λk G=>⟨rfl,?_⟩
   let⟨j,o⟩:=aN.mp (C.2 i z hz k G);let g:j < i:=by have:=(ae.mp o).1;rw[bE]at this;ext
   rw[cq g]at o;exact ih j _ () o
 intro x E;let⟨i,q⟩:=aN.mp (C.1 x E);exact key (i+1) i x () q
theorem N9:∀n,0 < (mv n).length
 |0=>by simp[mv]|n+1=>by have:=N9 n;simp[mv];ext
def P_{o B:Nat}(q:xt h)(L:∀i,sF h i->(fD h i).length<=o)(C:s[0]?=some (.tbl "most_deeds" "worth"))(l:∀i(M:Nat->Sd->Nat)u,qw h i->(∀k,k < h.hands.length->uJ h (fD h i) (tW h k B) (M k))->(∀x∈fD h i,¬ TS (Ba h) x x)->eD s u->Q (.tup (bu h.hands.length λk=>.int (CC (M k) (fD h i):Nat))) u)(Y:∀i x u,qw h i->x∈fD h i->TS (Ba h) x x->eD s u->Q .non u):wp (jw [ki h,.int (B:Nat),.int (o:Nat)]) Q s:=by
 let hh:=q.1
 (simp![jw];simp![yi])
 refine I0 q L λi no nd ns rs u st gl J gs H I E ex=>?_;let len:=Jo st;let g:=Mm (h:=h) (ys:=fD h i) hh gs () E;let O:(fD h i).length<=324:=(CL q st.1).1;let h0:0 < (fD h i).length:=vP (NU i (a_ (N9 h.hands.length)));simp![];refine Sz hh (z0 hh i).1 (z0 hh i).2 O h0 (λx G k U=>Ia hh st G U) (ex.at_ C) gl g (λM v a b x=>?_) (λx v a b c=>?_)
 ·simp![];exact l i M v st a b (ex.trans x)
 ·simp![];exact Y i x v st a b (ex.trans c)
end
open PySem (Str)
section
variable{s u s0:aV}{Q:D->aV->Prop}{ys:List Sd}{no ns nd nn:Nat}{N:Sd->Nat}
def Wn{n:Nat}:wp (tj (.dic n) .non) Q s=Q (.bl false) s:=c6 rfl
def Sl(t:s[1]?=some (.tbl "graph_numbers" "<lambda>")):wp (vV 1 "graph_numbers" mM l) Q s=Q (.fn s.length) (s++[.lam mM]):=by refine c6 ?_;unfold vV;rw[t];exact aJ ⟨rfl,rfl⟩
def Qn2(c:ys.Nodup):(ys.map eW).zipWith (λp q=>D.tup [p,q]) (bu ys.length λi=>((ys[i]?).map F).getD .non)=ys.map λx=>D.tup [eW x,F x]:=by
 apply fq;intro i;rw[eQ,au,au];cases e:ys[i]? with|none=>rfl|some x=>rw[wI (ae.mp e).1,e];rfl
def Ws{F:Sd->D}{r:Nat}(c:ys.Nodup)(g:ys.length<=1000)(q:s[no]?=some (.lst (ys.map eW)))(o:s[r]?=some (.lst (bu ys.length λi=>((ys[i]?).map F).getD .non))):wp (rX (.ref no) (.ref r)) Q s=Q (.dic s.length) (s++[.dct true (sO ys F)]):=by unfold rX;rw[d8,eV q,d8,eV o,Qn2 c];exact Tn c g
noncomputable def Ac:Sd->Nat->Nat:=λ_ _=>1
def Wc(J:ys.Nodup)(hl:ys.length<=324)(q:∀x∈ys,∀k∈e_ h x,iG h x k∈ys)(l:s[1]?=some (.tbl "graph_numbers" "<lambda>"))(gy:s[no]?=some (.lst (ys.map eW)))(g:ug ys.length (eF h ys) ns s)(h1:∀N R d u,uJ h ys Ac N->v7 h ys R->R.length<=ys.length->(∀x∈R,x∈ys)->u[d]?=some (.dct true (sO ys λx=>.int (N x:Nat)))->s.length<=d->eD s u->Q (.dic d) u)(h2:∀x u,x < ys.length->Aa (eF h ys) x->eD s u->Q .non u):wp (jg [.tup [.ref no,.ref ns]]) Q s:=by
 (simp![jg];simp![jM])
 refine NM g () (λF r c nd lt O B go lr E=>?_) (λx c H cy E=>?_)
 ·let q0:∀Q,wp (vV 1 "graph_numbers" mM [some (.tup [.ref no,.ref ns]),some (.ref ns),some (.ref r)]) Q c=Q (.fn c.length) (c++[.lam mM]):=λQ=>Sl (E.at_ l);simp![↓JR,aR,if_false,↓q0];let I:eD c (c++[MO.lam mM]):=(eD.refl _).snoc _;let gl:(c++[MO.lam mM])[c.length]?=some (.lam mM):=o7;generalize c++[MO.lam mM]=u at *;let C:=E.trans I;refine Qc (wt:=wN ys Ac) (g.ext C) () (I.at_ go) nd lt O B (λv x p H hp Y Q=>?_) λM h hM L G=>?_
  ·rw[UP (Y.at_ gl)];unfold wN;rw[af H];rfl
  let ge:(bu ys.length λi=>D.int (M i:Nat))=bu ys.length λi=>((ys[i]?).map λx=>D.int (M (ys.idxOf x):Nat)).getD .non:=by
   refine E4 l_ λi o=>?_;rw[wI o,af o]
   show some (D.int (M i:Nat))=some (D.int (M (ys.idxOf ys[i]):Nat));have:=(fu (fL.mpr (a_ o)) J).mp ((A0 (a_ o)).trans (af o).symm);rw[this]
  rw[ge]at L;let U:=λQ=>@Ws h Q ys no (λx=>D.int (M (ys.idxOf x):Nat)) u.length J () ((C.trans G).at_ gy) L;simp![↓U];let⟨R,f1,f2,f3⟩:=Rg q nd lt O B;exact h1 (λx=>M (ys.idxOf x)) R _ _ (Pg q hM) f1 f2 f3 o7 (by have:=(C.trans G).le;ext) ((C.trans G).snoc _)
 ·simp![↓D9,if_true];exact h2 x c H cy E
def JW{o:Nat}(q:xt h)(J:∀i,sF h i->(fD h i).length<=o)(B:s[1]?=some (.tbl "graph_numbers" "<lambda>"))(Y:∀i N R d u,qw h i->uJ h (fD h i) Ac N->v7 h (fD h i) R->R.length<=(fD h i).length->(∀x∈R,x∈fD h i)->u[d]?=some (.dct true (sO (fD h i) λx=>.int (N x:Nat)))->s.length<=d->eD s u->Q (.dic d) u)(U:∀i x u,qw h i->x < (fD h i).length->Aa (eF h (fD h i)) x->eD s u->Q .non u):wp (ji [ki h,.int (o:Nat)]) Q s:=by
 let hh:=q.1
 (simp![ji];simp![j2])
 refine I0 q J λi no nd ns rs u st gl I l G H C ex=>?_;let len:=Jo st;let g:=Mm (h:=h) (ys:=fD h i) hh l () C;let L:(fD h i).length<=324:=(CL q st.1).1;simp![];refine Wc (z0 hh i).1 L (λx E k O=>Ia hh st E O) (ex.at_ B) gl g (λN R d v a b b' c e f x=>?_) (λx v a b c=>?_)
 ·simp![];exact Y i N R d v st a b b' c e (by have:=ex.le;ext) (ex.trans x)
 ·simp![];exact U i x v st a b (ex.trans c)
end
open PySem (Str)
section
variable{E:Nat->List (Nat×Nat)}{n:Nat}{F P G:List Nat}{x y z v:Nat}
def Rc.lt(g:∀i,i < n->∀p∈E i,p.2 < n)(h:Rc E x y)(c:x < n):y < n:=by
 induction h with|refl=>exact c|step h _ ih=>exact ih (g _ c _ h)
def YQ{i:Nat}(H:FO E F)(q:F[i]?=some x){a:Nat}(h:Rc E a v)(l:v∉F.take (i+1))(o:a∈F.take (i+1)):∃b,Rc E a b/\Rc E b v/\Rc E b x/\b∉F.take (i+1):=by
 induction h with|refl=>exact bo o l|@step a' _ p hp r ih=>
  by_cases g:p.2∈F.take (i+1)
  ·let⟨b,c,C,B,u⟩:=ih l g;exact⟨b,.step hp c,C,B,u⟩
  ·rcases H i x q a' o p hp with c|c
   ·exact bo c g
   ·exact⟨p.2,.step hp (.refl _),r,c,g⟩
def NW{i k:Nat}(h:F[i]?=some x)(c:i < k):x∈F.take k:=by refine ax (i:=i) ?_;rw[cq c];exact h
def Qn8{i k:Nat}(l:F.Nodup)(h:F[i]?=some x)(o:x∈F.take k):i < k:=by
 let⟨j,g⟩:=aN.mp o;let c:j < k:=by have:=(ae.mp g).1;rw[bE]at this;ext
 rw[cq c]at g;have:=(fu (ae.mp h).1 l).mp (h.trans g.symm);ext
theorem G1(u:FO E F)(o:F.Nodup)(all:∀x,x < n->x∈F)(lt:∀x∈F,x < n)(l:∀i,i < n->∀p∈E i,p.2 < n):∀(d i x v m:Nat),F.length-i<=d->F[i]?=some x->F[m]?=some v->Rc E x v->∃k w,F[k]?=some w/\m<=k/\Rc E x w/\Rc E w x
 |0,i,x,v,m,hd,hx,_,_=>by have:=(ae.mp hx).1;ext
 |d+1,i,x,v,m,hd,hx,hv,h=>by
  by_cases J:m<=i
  ·exact⟨i,x,hx,J,.refl _,.refl _⟩
  ·let c:v∉F.take (i+1):=λz=>by have:=Qn8 o hv z;ext
   let⟨b,q,G,Y,U⟩:=YQ u hx h c (NW hx ());let Q:b∈F:=all b (q.lt l (lt x (ax hx)));let⟨j,g⟩:=aN.mp Q;let O:i < j:=by refine iH λz=>U (NW g ())
   let L:=(ae.mp g).1;let⟨k,w,I,H,C,B⟩:=G1 u o all lt l d j b v m () g hv G;exact⟨k,w,I,H,q.trans C,B.trans Y⟩
structure MI(n:Nat)(E:Nat->List (Nat×Nat))(F:List Nat)(m:Nat)(mk:Nat->Option Nat):Prop where
 done:∀(k w:Nat),m<=k->F[k]?=some w->(mk w).isSome=true
 own:∀v r,mk v=some r->r < n/\Rc E v r/\Rc E r v
 same:∀v w,v < n->w < n->Rc E v w->Rc E w v->mk v=mk w
 lt:∀v r,mk v=some r->v < n
def MI.start:MI n E F F.length (λ_=>none):=⟨λk w g c=>by have:=(ae.mp c).1;ext,λv r h=>(nomatch h),λ_ _ _ _ _ _=>rfl,λv r h=>(nomatch h)⟩
def MI.skip{m root:Nat}{mk:Nat->Option Nat}(I:MI n E F (m+1) mk)(g:F[m]?=some root)(h:(mk root).isSome=true):MI n E F m mk:=
 ⟨λk w l c=>by
  by_cases e:k=m
  ·subst e;rw[g]at c;cases c;exact h
  ·exact I.done k w () c,I.own,I.same,I.lt⟩
def MI.mark{m root:Nat}{mk:Nat->Option Nat}{S:List Nat}(fo:FO E F)(nd:F.Nodup)(all:∀x,x < n->x∈F)(lt:∀x∈F,x < n)(C:∀i,i < n->∀p∈E i,p.2 < n)(I:MI n E F (m+1) mk) (B:F[m]?=some root) (J:mk root=none) (Q:root∈S) (o:∀v∈S,v < n/\mk v=none/\Rc E v root) (s2:∀v,v < n->mk v=none->∀p∈E v,p.2∈S->v∈S):MI n E F m (λv=>if v∈S then some root else mk v):=by
 let U:=lt root (ax B);let O:∀v∈S,Rc E root v:=λv c=>by
  let⟨g,l,h3⟩:=o v c;let⟨i,hi⟩:=aN.mp (all v g);let⟨k,w,H,k2,G,Y⟩:=G1 fo nd all lt C _ i v root m (ay _) hi B h3;by_cases e:k=m
  ·subst e;rw[B]at H;cases H;exact Y
  ·have:=I.done k w () H;rw[<- I.same v w g (G.lt C g) G Y,l]at this;cases this
 let u:∀v,v < n->Rc E v root->Rc E root v->v∈S:=λv c a b=>by
  let key:∀{a t:Nat},Rc E a t->t=root->a < n->Rc E root a->a∈S:=by
   intro a t h
   induction h with
   |refl=>intro e _ _;rw[e];exact Q
   |@step a' _ p hp r ih=>
    intro e L q;let hm:=ih e (C _ L _ hp) (q.snoc hp);refine s2 a' L ?_ p hp hm;rw[I.same a' root L U (by rw[<- e];exact .step hp r) q];exact J
  exact key a rfl c b
 refine⟨λk w g l=>?_,λv r h=>?_,λv w c hw a b=>?_,λv r h=>?_⟩
 ·by_cases e:k=m
  ·subst e;rw[B]at l;cases l;rw[aJ Q];rfl
  ·split
   ·rfl
   ·exact I.done k w () l
 ·split at h
  ·rename_i c;cases h;exact⟨U,(o v c).2.2,O v c⟩
  ·exact I.own v r h
 ·by_cases g:v∈S
  ·have:w∈S:=u w hw (b.trans (o v g).2.2) ((O v g).trans a);rw[aJ g,aJ this]
  ·have:w∉S:=λl=>g (u v c (a.trans (o w l).2.2) ((O w l).trans b));rw[az g,az this];exact I.same v w c hw a b
 ·split at h
  ·rename_i c;exact (o v c).1
  ·exact I.lt v r h
def MI.eq_iff{mk:Nat->Option Nat}(I:MI n E F 0 mk)(all:∀x,x < n->x∈F){a b:Nat}(o:a < n)(u:b < n):mk a=mk b↔Rc E a b/\Rc E b a:=by refine⟨λe=>?_,λc=>by let⟨h,g⟩:=c;exact I.same a b o u h g⟩;let⟨i,q⟩:=aN.mp (all a o);have:=I.done i a (bH _) q;let⟨r,l⟩:=fJ.mp this;let⟨_,h,g⟩:=I.own a r l;let⟨_,C,B⟩:=I.own b r (by rw[<- e];exact l);exact⟨h.trans B,C.trans g⟩
def MI.cyc{mk:Nat->Option Nat}(I:MI n E F 0 mk)(all:∀x,x < n->x∈F)(o:∀i,i < n->∀p∈E i,p.2 < n){i:Nat}(l:i < n):(∃p∈E i,mk p.2=mk i)↔Aa E i:=
 ⟨λg=>by let⟨p,h,e⟩:=g;exact⟨p,h,((I.eq_iff all (o i l p h) l).mp e).1⟩,λc=>by let⟨p,h,r⟩:=c;exact⟨p,h,(I.eq_iff all (o i l p h) l).mpr ⟨r,.step h (.refl _)⟩⟩⟩
end
open PySem (Str)
section
variable{s u s0:aV}{Q:D->aV->Prop}{E:Nat->List (Nat×Nat)}{n ns nb i j:Nat}
noncomputable def bk(E:Nat->List (Nat×Nat))(i j:Nat):List Nat:=(b_ i).flatMap λa=>((E a).filter λp=>decide (p.2=j)).map λ_=>a
def RD{a:Nat}:a∈bk E i j↔a < i/\∃p∈E a,p.2=j:=by
 unfold bk;rw[List.mem_flatMap];constructor
 ·rintro ⟨b,hb,hm⟩
  let⟨p,c,rfl⟩:=bQ.mp hm;let⟨h,g⟩:=kt.mp c;exact⟨dY.mp hb,p,h,of_decide_eq_true g⟩
 ·rintro ⟨ha,p,c,e⟩
  exact⟨a,dY.mpr ha,bQ.mpr ⟨p,kt.mpr ⟨c,bY e⟩,rfl⟩⟩
def Q1:bk E (i+1) j=bk E i j++((E i).filter λp=>decide (p.2=j)).map λ_=>i:=by unfold bk;rw[kC,xV];simp
def bq(E:Nat->List (Nat×Nat))(i q j:Nat):List Nat:=bk E i j++(((E i).take q).filter λp=>decide (p.2=j)).map λ_=>i
theorem OP(few:∀i,i < n->(E i).length<=3):∀i,i<=n->(bk E i j).length<=3*i
 |0,_=>by simp[bk]|i+1,hi=>by rw[Q1,aB,ag];have h:=OP few i ();have g:=oT (λp=>decide (p.2=j)) (E i);have c:=few i ();ext
structure IN(n:Nat)(B:Nat->List Nat)(nb:Nat)(u:aV):Prop where
 at_:∃bs:Nat,u[nb]?=some (.lst (bu n λj=>.ref (bs+j)))/\∀j,j < n->u[bs+j]?=some (.lst ((B j).map gJ))
def PU{a:CE}{I:Wk->aV->Prop}: wp (qx a l) I s=wp (a l) (λx g=>match x with
  | .ref n=>wp (getL n) (λds c=>I ⟨(i9 0 ds.length).zipWith (λi d=>.tup [i,d]) ds,fW n ds⟩ c) g
  |_=>False) s:=by
 unfold qx;rw[d8];congr 1;funext x s1;cases x<;>first|exact gQ|(dsimp only;rw[d8];congr 1;funext ds c;rw[cE])
def Qod{k:Nat}(c:k < i):(s++bw i o)[s.length+k]?=some o:=by rw[aM (),show s.length+k-s.length=k by ext,fN,aJ c]
def Rb{ds:List D}(h:((i9 0 ds.length).zipWith (λi d=>D.tup [i,d]) ds)[i]?=some e):∃d,ds[i]?=some d/\e=.tup [.int (i:Nat),d]:=by
 rw[uj,eQ]at h;let c:i < ds.length:=by
  refine iH λz=>?_;rw[cf (l:=ds) ()]at h;cases g:(bu ds.length λi=>D.int (i:Nat))[i]? with|none=>rw[g]at h;cases h|some _=>rw[g]at h;cases h
 rw[wI c,af c]at h;cases h;exact⟨_,af c,rfl⟩
def QL{q:Nat}(c:(E i)[q]?=some p):bq E i (q+1) j=bq E i q j++(if p.2=j then [i] else []):=by
 unfold bq;rw[HR c,qu,bC,<- bz];congr 1;by_cases e:p.2=j
 ·simp[e]
 ·simp[e]
def Qog:bq E i (E i).length j=bk E (i+1) j:=by unfold bq;rw[d9,Q1]
def Qoh{q:Nat}(few:∀i,i < n->(E i).length<=3)(c:i < n):(bq E i q j).length<=3*n:=by unfold bq;rw[aB,ag];let o:=OP (j:=j) few i ();let g:=oT (λp:Nat×Nat=>decide (p.2=j)) ((E i).take q);let h:=few i c;rw[bE]at g;ext
def Xy(g:ug n E ns s)(hn:n<=324)(hq:∀r u,IN n (bk E n) r u->s.length<=r->eD s u->Q (.ref r) u):wp (jK [.ref ns]) Q s:=by
 let⟨rs,I,J,h3⟩:=id g.at_;let c1:n<=fK:=iB ()
 (simp![jK];simp![yp,↓eV I,ii,ag,J,c1])
 refine P7 (λi h v=>v=s++bw i (MO.lst [])/\h=bu i λj=>.ref (s.length+j)) (λi h v w=>by rw[w.1];show _=_;rw[av (lG I)];exact I) ⟨by simp,rfl⟩ (λi d h v hd w=>?_) (λh v w=>?_)
 ·let⟨rfl,rfl⟩:=w;simp![bH];refine⟨by rw[bz,<- xg,mj],?_⟩;rw[z6,aB,fH]
 ·let⟨rfl,rfl⟩:=w;rw[ag,J];let a1:(s++bw n (MO.lst [])++[MO.lst (bu n λj=>.ref (s.length+j))])[(s++bw n (MO.lst [])).length]?=some (.lst (bu n λj=>.ref (s.length+j))):=o7;let a2:∀j,j < n->(s++bw n (MO.lst [])++[MO.lst (bu n λj=>.ref (s.length+j))])[s.length+j]?=some (.lst ((bk E 0 j).map gJ)):=λj G=>uI (Qod G);let a3:eD s (s++bw n (MO.lst [])++[MO.lst (bu n λj=>.ref (s.length+j))]):=⟨bw n (MO.lst [])++[MO.lst (bu n λj=>.ref (s.length+j))],by rw[bz]⟩
  let a4:s.length+n<=(s++bw n (MO.lst [])).length:=by simp
  generalize (s++bw n (MO.lst [])).length=nb at *;generalize s++bw n (MO.lst [])++[MO.lst (bu n λj=>.ref (s.length+j))]=s1 at *;simp![↓PU,↓eV (a3.at_ I)];refine uK (λi l v=>∃(h Y C B:Option D),l=[some (.ref ns),some (.ref nb),h,Y,C,B]/\v[nb]?=some (.lst (bu n λj=>.ref (s.length+j)))/\(∀j,j < n->v[s.length+j]?=some (.lst ((bk E i j).map gJ)))/\eD s v) (λ_ _ _ w=>by let⟨_,_,_,_,_,_,_,g⟩:=w;exact g.at_ I)
   ⟨_,_,_,_,rfl,a1,a2,a3⟩ (λRw1 i d l v up1 rt1 hd H=>?_) (λl v H=>?_)
  ·let⟨h,Y,C,B,el,b1,U,O⟩:=H;subst el;let⟨dd,c,rfl⟩:=Rb hd;rw[au]at c;cases L:rs[i]? with|none=>rw[L]at c;cases c|some r=>
    rw[L]at c;cases c;let hi:i < n:=by rw[<- J];exact (ae.mp L).1
    let gr:=h3 i r L;let lr:=lG gr;simp![↓eV (O.at_ gr)];refine uK (λq l v=>∃(C B:Option D),l=[some (.ref ns),some (.ref nb),some (.int (i:Nat)),some (.ref r),C,B]/\v[nb]?=some (.lst (bu n λj=>.ref (s.length+j)))/\(∀j,j < n->v[s.length+j]?=some (.lst ((bq E i q j).map gJ)))/\eD s v) (λ_ _ _ w=>by let⟨_,_,_,_,_,g⟩:=w;exact g.at_ gr)
     ⟨_,_,rfl,b1,λj G=>by rw[U j G];simp[bq],O⟩ (λRw2 q d l v u rt2 hd H=>?_) (λl v H=>?_)
    ·let⟨C,B,el,c1,c2,c3⟩:=H;subst el;rw[au]at hd;cases ep:(E i)[q]? with|none=>rw[ep]at hd;cases hd|some p=>
      rw[ep]at hd;cases hd;let o:=g.wf i hi p (ax ep);let c:∀(Q:D->aV->Prop)I,wp (cL (bu n λj=>D.ref (s.length+j)) ((p.2:Nat):Int)) Q I=Q (.ref (s.length+p.2)) I:=λQ I=>xj o;unfold yz;simp![↓eV c1,↓c,↓eV (c2 p.2 o),↓oC (c2 p.2 o)];let h:=Qoh (q:=q) (j:=p.2) g.few hi;refine⟨rK (by rw[ag];ext),u ⟨_,_,rfl,by rw[aA ()];exact c1,λj G=>?_,c3.put ()⟩⟩;by_cases e:p.2=j
      ·subst e;rw[aE (lG (c2 p.2 o)),QL ep,aJ rfl,bC];rfl
      ·rw[aA (),QL ep,az e,bB];exact c2 j G
    ·let⟨C,B,el,c1,c2,c3⟩:=H;subst el;rw[ag]at c2;simp![];exact up1 ⟨_,_,_,_,rfl,c1,λj G=>by rw[c2 j G,Qog],c3⟩
  ·let⟨h,Y,C,B,el,b1,U,O⟩:=H;subst el;let c:((i9 0 (rs.map D.ref).length).zipWith (λi d=>D.tup [i,d]) (rs.map D.ref)).length=n:=by simp[i9,J]
   rw[c]at U;simp![];exact hq _ v ⟨⟨s.length,b1,U⟩⟩ () O
end
open PySem (Str)
section
variable{s u s0:aV}{Q:D->aV->Prop}{E:Nat->List (Nat×Nat)}{n ns nb nm root:Nat}{mk:Nat->Option Nat}{S N W:List Nat}
def IN.row{B:Nat->List Nat}(b:IN n B nb s0){j:Nat}(c:j < n):∃(ds:List D)(r:Nat),(∀{v},eD s0 v->v[nb]?=some (.lst ds)/\v[r]?=some (.lst ((B j).map gJ)))/\∀(Q:D->aV->Prop)s,wp (cL ds ((j:Nat):Int)) Q s=Q (.ref r) s:=by let⟨⟨bs,h,g⟩⟩:=b;exact⟨_,bs+j,λe=>⟨e.at_ h,e.at_ (g j c)⟩,λQ s=>xj c⟩
def wK:Option Nat->D
 |none=>.non|some r=>.int (r:Nat)
def gZ(n:Nat)(mk:Nat->Option Nat):List D:=bu n λi=>wK (mk i)
noncomputable def iP(root:Nat)(mk:Nat->Option Nat)(S:List Nat):Nat->Option Nat:=λv=>if v∈S then some root else mk v
def Mf{t:Nat}(c:t < n):(gZ n (iP root mk S)).set t (.int (root:Nat))=gZ n (iP root mk (S++[t])):=by
 unfold gZ;rw[Nc c];congr 1;funext j;unfold iP;by_cases e:j=t
 ·subst e;simp[wK]
 ·rw[az e];by_cases h:j∈S
  ·rw[aJ h,aJ (by simp[h])]
  ·rw[az h,az (by simp[h,e])]
noncomputable def ud:D->Bool
 | .non=>false|_=>true
def Vw{t:Nat}(c:t < n)(o:iP root mk S t=none):(gZ n (iP root mk (S++[t]))).countP ud=(gZ n (iP root mk S)).countP ud+1:=by
 rw[<- Mf c];let g:t < (gZ n (iP root mk S)).length:=by unfold gZ;rw[l_];exact c
 rw[List.countP_set g];have:(gZ n (iP root mk S))[t]=.non:=by have:=wI (f:=λi=>wK (iP root mk S i)) c;rw[o]at this;have h:=af g;exact aF (h.symm.trans this)
 rw[this];rfl
def YG:wp (tj (wK m) .non) Q s=Q (.bl m.isNone) s:=by cases m<;>exact c6 rfl
def Yy:wp (ng (wK m) .non) Q s=Q (.bl m.isSome) s:=by cases m<;>exact c6 rfl
def Ix{t:Nat}(c:t < n):wp (cL (gZ n mk) ((t:Nat):Int)) Q s=Q (wK (mk t)) s:=xj c
structure MS(n:Nat)(E:Nat->List (Nat×Nat))(root:Nat)(mk:Nat->Option Nat)(S:List Nat):Prop where
 a1:root∈S
 a2:∀v∈S,v < n/\mk v=none/\Rc E v root
def Qoo{v:Nat}(h:iP root mk S v=none):v∉S/\mk v=none:=by
 unfold iP at h;split at h
 ·cases h
 ·rename_i c;exact⟨c,h⟩
def Wv{v:Nat}(h:iP root mk S v≠none):v∈S\/mk v≠none:=by
 unfold iP at h;split at h
 ·rename_i c;exact .inl c
 ·exact .inr h
def Qoq(g:IN n (bk E n) nb s0)(x0:eD s0 s)(U:s[nm]?=some (.lst (gZ n mk)))(l1:s0.length<=nm)(hr:root < n)(O:n<=324)(wf:∀i,i < n->∀p∈E i,p.2 < n)(h1:∀r,mk root=some r->Q .non s)(h2:mk root=none->∀S u,MS n E root mk S->(∀a∈S,∀b∈bk E n a,b∈S\/mk b≠none)->u[nm]?=some (.lst (gZ n (iP root mk S)))->eD s0 u->(∀k,k < s.length->k≠nm->u[k]?=s[k]?)->Q .non u):wp (jD [.ref nb,.int (root:Nat),.ref nm,.int (root:Nat)]) Q s:=by
 let q1:∀(Q:D->aV->Prop)s,wp (cL (gZ n mk) ((root:Nat):Int)) Q s=Q (wK (mk root)) s:=λQ s=>Ix hr;let c1:1<=fK:=iB ();let lm:=lG U;let lx:=x0.le;let nd:[nm,s.length].Nodup:=by simp;ext
 let hA:∀a∈[nm,s.length],s0.length<=a:=by simp;ext
 let ix:∀(f:Nat->Option Nat){t:Nat},t < n->MM.oz (gZ n f).length ((t:Nat):Int)=some t:=λf t ht=>by unfold gZ;rw[l_];exact IC ht
 let cle:∀f,(gZ n f).countP ud<=324:=λf=>by have:=List.countP_le_length (p:=ud) (l:=gZ n f);unfold gZ at this ⊢;rw[l_]at this;ext
 (simp![jD];simp![j9,↓eV U,↓q1,↓Yy])
 cases G:mk root with
 |some r=>
  simp![km,if_true];exact h1 r G
 |none=>
  let eset:(gZ n mk).set root (.int (root:Nat))=gZ n (iP root mk [root]):=by
   let e0:gZ n mk=gZ n (iP root mk []):=by unfold gZ iP;congr 1
   rw[e0,Mf hr];try rfl
  simp![mD,aR,if_false,↓eV U,ix mk hr,↓oC U,eset,c1];let el0:(s.set nm (MO.lst (gZ n (iP root mk [root])))).length=s.length:=du;rw[el0];let K:qW s [nm,s.length] (s.set nm (MO.lst (gZ n (iP root mk [root])))++[MO.lst [.int (root:Nat)]]) [gZ n (iP root mk [root]),[root].map gJ]:=((qW.nil.old U).put (i:=0) (by simp) rfl).snoc el0;generalize s.set nm (MO.lst (gZ n (iP root mk [root])))++[MO.lst [.int (root:Nat)]]=s1 at *;refine Dv (λl v=>∃(S W:List Nat)(y5 y6:Option D),l=[some (.ref nb),some (.int (root:Nat)),some (.ref nm),some (.int (root:Nat)),some (.ref s.length),y5,y6]/\MS n E root mk S/\W.Nodup/\(∀w∈W,w∈S)/\(∀a∈S,a∉W->∀b∈bk E n a,b∈S\/mk b≠none)/\qW s [nm,s.length] v [gZ n (iP root mk S),W.map gJ])
   (λ(_:Loc)(v:aV)=>match (v[nm]?:Option MO),(v[s.length]?:Option MO) with
    |some (.lst ms),some (.lst ws)=>2*(1000-ms.countP ud)+ws.length
    |_,_=>0) ⟨[root],[root],_,_,rfl,⟨by simp,λv hv=>by rw[aI.mp hv];exact⟨hr,G,.refl _⟩⟩,by simp,λw L=>L,λa I O=>bo I O,K⟩ (λRw1 l v up1 rt1 Y=>?_)
  clear K;let⟨S,W,y5,y6,el,M,b0,b1,b2,K⟩:=Y;subst el;simp![↓eV (K.at_ 1 _ _ rfl rfl),ag];rcases oU W with e|⟨B,x,e⟩
  ·subst e;rw[az (by simp)];exact h2 G S v M (λa I=>b2 a I (by simp)) (K.at_ 0 _ _ rfl rfl) (K.ext x0 hA) λk c h=>K.oth k c (by simp;ext)
  rw[oV]at e;subst e;rw[aJ (by simp)];let hxS:=b1 x (by simp);let⟨hx,_,hxr⟩:=M.a2 x hxS;let hmu:(match (v[nm]?:Option MO),(v[s.length]?:Option MO) with
   |some (.lst ms),some (.lst ws)=>2*(1000-ms.countP ud)+ws.length
   |_,_=>0)=2*(1000-(gZ n (iP root mk S)).countP ud)+(B.length+1):=by
   rw[K.at_ 0 _ _ rfl rfl,K.at_ 1 _ _ rfl rfl];simp
  let wm:(B++[x]).map gJ=B.map gJ++[.int (x:Nat)]:=by rw[bC];rfl
  rw[wm]at K ⊢;let K1:=K.put (i:=1) (es:=B.map gJ) nd rfl;simp![w_,xf,↓oC (K.at_ 1 _ _ rfl rfl)];let H:∀{N:List Nat},∀w∈B++N,w∈S++N:=λw L=>by
   rcases aO.mp L with h|h
   ·exact bv _ (b1 w (bv _ h))
   ·exact bK _ h
  clear K;generalize v.set s.length (MO.lst (B.map gJ))=v1 at *;let⟨ds,r,gr,qi⟩:=g.row hx;let⟨gb,gv⟩:=gr (K1.ext x0 hA);simp![↓eV gb,↓qi,↓eV gv];refine uK (λq l v=>∃(N:List Nat)(y6:Option D),l=[some (.ref nb),some (.int (root:Nat)),some (.ref nm),some (.int (root:Nat)),some (.ref s.length),some (.int (x:Nat)),y6]/\MS n E root mk (S++N)/\(∀b∈(bk E n x).take q,b∈S++N\/mk b≠none)/\(B++N).Nodup/\(gZ n (iP root mk (S++N))).countP ud=(gZ n (iP root mk S)).countP ud+N.length/\qW s [nm,s.length] v [gZ n (iP root mk (S++N)),(B++N).map gJ]) (λ_ _ _ w=>by let⟨_,_,_,_,_,_,_,K⟩:=w;exact (gr (K.ext x0 hA)).2)
   ⟨[],_,rfl,by rw[bB];exact M,by simp,by rw[bB];exact (c9.mp b0).1,by rw[bB];rfl,by rw[bB,bB];exact K1⟩ (λRw2 q d l v2 J rt2 hd Y=>?_) (λl v2 Y=>?_)
  ·let⟨N,y6',el,M2,f1,f0,f4,K⟩:=Y;subst el;rw[au]at hd;cases g:(bk E n x)[q]? with|none=>rw[g]at hd;cases hd|some b=>
    rw[g]at hd;cases hd;let⟨C,p,U,l⟩:=RD.mp (ax g);let G:(bk E n x).take (q+1)=(bk E n x).take q++[b]:=by rw[iO,g];rfl
    let O:∀(Q:D->aV->Prop)s,wp (cL (gZ n (iP root mk (S++N))) ((b:Nat):Int)) Q s=Q (wK (iP root mk (S++N) b)) s:=λQ s=>Ix C;unfold gJ;simp![↓eV (K.at_ 0 _ _ rfl rfl),↓O,↓YG];cases h:iP root mk (S++N) b with
    |some t=>
     simp![w8,aR,if_false];refine J ⟨N,_,rfl,M2,λc o=>?_,f0,f4,K⟩;rw[G]at o;rcases aO.mp o with o|o
     ·exact f1 c o
     ·rw[aI.mp o];exact Wv (by rw[h];simp)
    |none=>
     let⟨g1,g2⟩:=Qoo h;let v:=K.put (i:=0) (es:=gZ n (iP root mk (S++N++[b]))) nd rfl;let K3:=(v.put (i:=1) (es:=(B++N).map gJ++[.int (b:Nat)]) nd rfl).cg (C':=[gZ n (iP root mk (S++(N++[b]))),(B++(N++[b])).map gJ]) (by rw[<- bz,<- bz,bC (l₂:=[b])];rfl);simp![w9,if_true,↓eV (K.at_ 0 _ _ rfl rfl),ix _ C,↓oC (K.at_ 0 _ _ rfl rfl),Mf C,↓eV (v.at_ 1 _ _ rfl rfl),↓oC (v.at_ 1 _ _ rfl rfl)];let u:(B++N).length<=1000:=c5 (BA n _ f0 λw L=>(M2.a2 w (H w L)).1) ();refine⟨rK (by rw[ag];exact u),J ⟨N++[b],_,rfl,⟨by rw[<- bz];exact bv _ M2.a1,λc o=>?_⟩,λc o=>?_,?_,?_,K3⟩⟩
     ·rw[<- bz]at o;rcases aO.mp o with o|o
      ·exact M2.a2 c o
      ·rw[aI.mp o];exact⟨C,g2,.step U (by rw[l];exact hxr)⟩
     ·rw[G]at o;rw[<- bz];rcases aO.mp o with o|o
      ·exact (f1 c o).imp (λz=>bv _ z) id
      ·exact .inl (bK _ o)
     ·rw[<- bz,c9];refine⟨f0,by simp,λa I c o e=>?_⟩;rw[aI]at o;subst o e;exact g1 (H _ I)
     ·rw[<- bz,Vw C h,f4,aB];rfl
  ·let⟨N,y6',el,M2,f1,f0,f4,K⟩:=Y;subst el;rw[ag,d9]at f1;simp![];refine up1 ⟨S++N,B++N,_,_,rfl,M2,f0,H,λa I O b C=>?_,K⟩ ?_
   ·let c:a∈S:=(aO.mp I).resolve_right λz=>O (bK _ z);by_cases e:a=x
    ·subst e;exact f1 b C
    ·exact (b2 a c (λz => by
       rcases aO.mp z with z|z
       ·exact O (bv _ z)
       ·exact e (aI.mp z)) b C).imp (λz=>bv _ z) id
   ·refine Nat.lt_of_lt_of_eq ?_ hmu.symm;rw[K.at_ 0 _ _ rfl rfl,K.at_ 1 _ _ rfl rfl];dsimp only;rw[ag,f4,aB];have:=cle (iP root mk (S++N));ext
end
open PySem (Str)
section
variable{Q:D->aV->Prop}{E:Nat->List (Nat×Nat)}{n ns nb nm root:Nat}{mk:Nat->Option Nat}
def TY{a:CE}{I:Wk->aV->Prop}: wp (zp a l) I s=wp (a l) (λx g=>match x with
  | .ref n=>wp (getL n) (λds c=>I ⟨ds.reverse,λs=>s[n]?=some (.lst ds)⟩ c) g
  |_=>False) s:=by
 unfold zp;rw[d8];congr 1;funext x s1;cases x<;>first|exact gQ|(dsimp only;rw[d8];congr 1;funext ds c;rw[cE])
def YX:wp (oo (wK a) (wK b)) Q s=Q (.bl (decide (a=b))) s:=by
 cases a with
 |none=>
  cases b with|none=>exact c6 rfl|some b=>exact c6 rfl
 |some a=>
  cases b with|none=>exact c6 rfl|some b=>
   have:oo (wK (some a)) (wK (some b)) s=.ok (.bl (decide (some a=some b))) s:=by
    show oo (.int (a:Nat)) (.int (b:Nat)) s=_;let e:((a:Int) == (b:Int))=decide (some a=some b):=by
     by_cases h:a=b
     ·subst h;simp
     ·simp[h];ext
    rw[<- e];rfl
   exact c6 this
def Qot(g:ug n E ns s)(hn:n<=324)(hq:∀(cy:Nat->Bool)r u,(∀i,i < n->(cy i=true↔Aa E i))->u[r]?=some (.lst (bu n λi=>.bl (cy i)))->s.length<=r->eD s u->Q (.ref r) u):wp (jF [.ref ns]) Q s:=by
 let⟨rs,O,L,h3⟩:=id g.at_;let c1:n<=fK:=iB ()
 (simp![jF];simp![j6])
 refine Xy g hn λnb u hb hnb ex=>?_;let gu:=g.ext ex;let w:∀(A:List D->aV->Prop),wp (collect (aS 0) bZ (aQ .non) (fW ns (rs.map D.ref)) (rs.map D.ref) [none]) A u=A (gZ n λ_=>none) u:=λA=>by rw[Cn (f:=λ_=>.non) (show fW ns _ _ from ex.at_ O) (λk d hd Q=>by simp![]),ag,L];rfl
 simp![↓eV (ex.at_ O),ii,↓w,ag,L,c1,↓TY];refine PC (gu.ext ((eD.refl _).snoc _)) () λF ro v J all go hro ev=>?_;let nd:F.Nodup:=by have:=J.nd;rwa [bB]at this
 let lt:∀x∈F,x < n:=λx hx=>J.lt x (bv _ hx);let exv:eD u v:=((eD.refl _).snoc _).trans ev;let gm:v[u.length]?=some (.lst (gZ n λ_=>none)):=ev.at_ o7;let lro:u.length < ro:=by
  have:(u++[MO.lst (gZ n λ_=>none)]).length=u.length+1:=by simp
  ext
 simp![↓eV go];refine uK (λi l v=>∃(mk:Nat->Option Nat)(y3:Option D),l=[some (.ref ns),some (.ref nb),some (.ref u.length),y3]/\MI n E F (F.length-i) mk/\v[u.length]?=some (.lst (gZ n mk))/\v[ro]?=some (.lst (F.map gJ))/\eD u v) (λ_ _ _ w=>by let⟨_,_,_,_,_,g,_⟩:=w;exact g)
  ⟨_,_,rfl,MI.start,gm,go,exv⟩ (λRw1 i d l v2 up1 rt1 hd hW=>?_) (λl v2 hW=>?_)
 ·let⟨mk,y3,el,I,b1,Y,U⟩:=hW;subst el;let C:i < F.length:=by have:=(ae.mp hd).1;rw[g_,ag]at this;exact this
  rw[oR (by rw[ag];exact C),ag,au]at hd;cases o:F[F.length-1-i]? with|none=>rw[o]at hd;cases hd|some root=>
   rw[o]at hd;cases hd;let u:=lt root (ax o);let E:F.length-i=(F.length-1-i)+1:=by ext
   rw[E]at I;let H:F.length-(i+1)=F.length-1-i:=by ext
   unfold gJ;simp![];refine Qoq (mk:=mk) hb U b1 (ay _) u hn g.wf (λr B=>?_) λB S Q M l O L G=>?_
   ·simp![];exact up1 ⟨mk,_,rfl,by rw[H];exact I.skip o (by rw[B];rfl),b1,Y,U⟩
   ·simp![];refine up1 ⟨iP root mk S,_,rfl,?_,O,by rw[G ro (lG Y) ()];exact Y,L⟩;rw[H];exact MI.mark J.fo nd all lt g.wf I o B M.a1 M.a2 λv q h p hp c=>(l p.2 c v (RD.mpr ⟨q,p,hp,rfl⟩)).resolve_right λz=>z h
 ·let⟨mk,y3,el,I,b1,Y,U⟩:=hW;subst el;rw[g_,ag,fB]at I;let G:=ex.trans U;simp![↓PU,↓eV (G.at_ O),ii];let le:((i9 0 (rs.map D.ref).length).zipWith (λi d=>D.tup [i,d]) (rs.map D.ref)).length=n:=by simp[i9,L]
  rw[le];refine⟨c1,?_⟩;rw[Ei (f:=λi=>.bl (bP (∃q,q < (E i).length/\mk ((E i).getD q (0,0)).2=mk i))) (show fW ns _ _ from G.at_ O) (λi d hd=>?_),le]
  ·simp![];refine hq (λi=>bP (∃q,q < (E i).length/\mk ((E i).getD q (0,0)).2=mk i)) _ _ (λi C=>?_) o7 (by have:=G.le;ext) (G.snoc _);rw[HC,<- I.cyc all g.wf C];constructor
   ·rintro ⟨q,c,e⟩
    rw[fv,af c]at e;exact⟨_,a_ c,e⟩
   ·rintro ⟨p,hp,e⟩
    let⟨q,c⟩:=aN.mp hp;refine⟨q,(ae.mp c).1,?_⟩;rw[fv,c];exact e
  ·let⟨c,h,rfl⟩:=Rb hd;rw[au]at h;cases o:rs[i]? with|none=>rw[o]at h;cases h|some r=>
    rw[o]at h;cases h;let C:i < n:=by rw[<- L];exact (ae.mp o).1
    refine⟨_,_,rfl,λQ=>?_⟩;let v:=G.at_ (h3 i r o);let few:=g.few i C;let B:∀(A:List D->aV->Prop),wp (collect (gq 2 (cC (aS 0) (cC (aS 1) gD))) bZ (c2 oo (c2 aZ (ao 3) (ao 1)) (c2 aZ (ao 3) (ao 2))) (fW r ((E i).map yz)) ((E i).map yz) [none,none,some (.int (i:Nat)),some (.ref u.length)]) A v2=A (bu (E i).length λq=>.bl (bP (mk ((E i).getD q (0,0)).2=mk i))) v2:=λA=>by
     rw[Ei (f:=λq=>.bl (bP (mk ((E i).getD q (0,0)).2=mk i))) (show fW r _ _ from v) (λq d hd=>?_),ag];rw[au]at hd;cases ep:(E i)[q]? with|none=>rw[ep]at hd;cases hd|some p=>
      rw[ep]at hd;cases hd;refine⟨_,_,rfl,λQ=>?_⟩;let l:=g.wf i C p (ax ep);let J:∀(Q:D->aV->Prop)s,wp (cL (gZ n mk) ((p.2:Nat):Int)) Q s=Q (wK (mk p.2)) s:=λQ s=>Ix l;let H:∀(Q:D->aV->Prop)s,wp (cL (gZ n mk) ((i:Nat):Int)) Q s=Q (wK (mk i)) s:=λQ s=>Ix C;simp![↓eV b1,↓J,↓H,↓YX];rw[fv,ep,gX];rw[show decide (mk p.2=mk i)=bP (mk p.2=mk i) from J_ decide_eq_true_iff]
    simp![↓eV v,ii,↓B,ag,↓QjF];exact eq_iff_iff.mpr ⟨λz=>z.2,λz=>⟨iB (),z⟩⟩
end
open PySem (Str)
section
inductive Wy(E:Nat->List (Nat×Nat)):Nat->List Nat->Nat->Prop
 |nil (x:Nat):Wy E x [] x|cons {x y k j:Nat}{w:List Nat} (hp:(k,j)∈E x) (r:Wy E j w y):Wy E x (k::w) y
variable{E:Nat->List (Nat×Nat)}{n a t q x y z k j:Nat}{w v:List Nat}{P:List (Nat×List Nat)}
def Wy.snoc(a:Wy E x w y)(c:(k,j)∈E y):Wy E x (w++[k]) j:=by
 induction a with|nil=>exact .cons c (.nil _)|cons h r ih=>exact .cons h (ih c)
def Wy.rc(a:Wy E x w y):Rc E x y:=by
 induction a with|nil=>exact .refl _|cons h r ih=>exact .step h ih
structure BI(n:Nat)(E:Nat->List (Nat×Nat))(a:Nat)(P:List (Nat×List Nat))(t q:Nat):Prop where
 hd:a∈P.map (·.1)
 wy:∀p∈P,Wy E a p.2 p.1/\p.1 < n
 nd:(P.map (·.1)).Nodup
 pr:∀(i:Nat)p,P[i]?=some p->i < t->∀e∈E p.1,e.2≠a/\e.2∈P.map (·.1)
 cu:∀p,P[t]?=some p->∀e∈(E p.1).take q,e.2≠a/\e.2∈P.map (·.1)
def BI.start(l:a < n):BI n E a [(a,[])] 0 0:=
 ⟨by simp,λp c=>by rw[aI.mp c];exact⟨.nil _,l⟩,by simp,λi p _ g=>bo g (),λp _ e h=>by simp at h⟩
def BI.old(I:BI n E a P t q)(l:P[t]?=some (x,w))(u:(E x)[q]?=some (k,j))(c:j≠a)(o:j∈P.map (·.1)):BI n E a P t (q+1):=
 ⟨I.hd,I.wy,I.nd,I.pr,λp h e g=>by
  rw[l]at h;cases h;rw[HR u]at g;rcases aO.mp g with z|z
  ·exact I.cu _ l e z
  ·rw[aI.mp z];exact⟨c,o⟩⟩
def BI.new(I:BI n E a P t q)(g:P[t]?=some (x,w))(G:(E x)[q]?=some (k,j))(l:j < n)(o:j≠a)(L:j∉P.map (·.1)):BI n E a (P++[(j,w++[k])]) t (q+1):=by
 let J:=(ae.mp g).1;let up:∀{z},z∈P.map (·.1)->z∈(P++[(j,w++[k])]).map (·.1):=λh=>by rw[bC];exact bv _ h
 let at_:∀{i:Nat}{p},(P++[(j,w++[k])])[i]?=some p->i < P.length->P[i]?=some p:=λh u=>by rwa [av u]at h
 refine⟨up I.hd,λp h=>?_,?_,λi p h u e c=>?_,λp h e c=>?_⟩
 ·rcases aO.mp h with z|z
  ·exact I.wy p z
  ·rw[aI.mp z];exact⟨(I.wy _ (ax g)).1.snoc (ax G),l⟩
 ·rw[bC];refine c9.mpr ⟨I.nd,by simp,λy H z hz e=>L ?_⟩;let O:z=j:=by simpa using hz
  rw[<- O,<- e];exact H
 ·let⟨C,B⟩:=I.pr i p (at_ h ()) u e c;exact⟨C,up B⟩
 ·let h:=at_ h J;rw[g]at h;cases h;rw[HR G]at c;rcases aO.mp c with z|z
  ·let⟨C,B⟩:=I.cu _ g e z;exact⟨C,up B⟩
  ·rw[aI.mp z];exact⟨o,by simp⟩
def BI.next(I:BI n E a P t (E x).length)(l:P[t]?=some (x,w)):BI n E a P (t+1) 0:=
 ⟨I.hd,I.wy,I.nd,λi p h o e g=>by
  by_cases c:i=t
  ·subst c;rw[l]at h;cases h;exact I.cu _ l e (by rw[d9];exact g)
  ·exact I.pr i p h () e g,λp _ e g=>by simp at g⟩
def BI.none(I:BI n E a P t q)(u:P.length<=t):¬ Aa E a:=by
 let cl:∀x∈P.map (·.1),∀e∈E x,e.2≠a/\e.2∈P.map (·.1):=λx c e o=>by let⟨p,g,rfl⟩:=bQ.mp c;let⟨i,l⟩:=aN.mp g;exact I.pr i p l (by have:=(ae.mp l).1;ext) e o
 let key:∀{x y:Nat},Rc E x y->x∈P.map (·.1)->y=a->x=a:=λr=>by
  induction r with|refl=>exact λ_ e=>e|step h r ih=>exact λc e=>bo (ih (cl _ c _ h).2 e) (cl _ c _ h).1
 rintro ⟨p,g,r⟩
 exact (cl a I.hd p g).1 (key r (cl a I.hd p g).2 rfl)
end
open PySem (Str)
section
variable{s u:aV}{Q:D->aV->Prop}{E:Nat->List (Nat×Nat)}{n ns dr nc a t q x k j:Nat}{w:List Nat}{P:List (Nat×List Nat)}{cv:Nat->D}{L:List Nat}
noncomputable def uv(L:List Nat)(cv:Nat->D):List (D×D):=L.map λy=>(D.int (y:Nat),cv y)
def QK{i j:Nat}:kr (.int (i:Nat)) (.int (j:Nat))=decide (i=j):=by
 rw[kr];by_cases e:i=j
 ·subst e;simp
 ·simp[e];ext
theorem Jv{y:Nat}:∀L:List Nat,m_ (uv L cv) (.int (y:Nat))=if y∈L then some (cv y) else none
 |[]=>rfl
 |z::L=>by
  let g:=Jv (y:=y) L;unfold m_ uv at g ⊢;rw[aT,c8];dsimp only;rw[QK];by_cases e:z=y
  ·subst e;simp
  ·rw[ba e];dsimp only;rw[g];let o:¬ y=z:=λh=>e h.symm;by_cases c:y∈L
   ·rw[aJ c,aJ (by simp[c])]
   ·rw[az c,az (by simp[c,o])]
def Si{y:Nat}(g:y∉L):nJ (uv L cv) (.int (y:Nat)) v=uv (L++[y]) λz=>if z=y then v else cv z:=by
 let h:((uv L cv).any λp=>kr p.1 (.int (y:Nat)))=false:=by rw[zW];intro p c;unfold uv at c;let⟨z,hz,rfl⟩:=bQ.mp c;rw[QK];have:z≠y:=λe=>g (e ▸ hz);simp[this]
 unfold nJ;rw[h,az (by simp)];unfold uv;rw[bC];congr 1
 ·refine dP λz hz=>?_;have:z≠y:=λe=>g (e ▸ hz)
  show _=(D.int (z:Nat),if z=y then v else cv z)
  rw[az this]
 ·simp
def Cm(P:List (Nat×List Nat))(cv:Nat->D):Prop:=∀(i:Nat)p,P[i]?=some p->(p.2=[]/\cv p.1=.non)\/∃(c:Nat)(r:Nat×List Nat)(k:Nat),c < i/\P[c]?=some r/\p.2=r.2++[k]/\cv p.1=.tup [.int (r.1:Nat),.int (k:Nat)]
def Og:wp (ng (.tup ds) .non) Q s=Q (.bl true) s:=c6 rfl
def Lj:wp (ng .non .non) Q s=Q (.bl false) s:=c6 rfl
def Qoz{j:Nat}(g:s[nc]?=some (.dct false (uv (P.map (·.1)) cv)))(C:Cm P cv)(hl:P.length<=900)(I:P[j]?=some p)(hq:∀u,eD s u->Q (.tup (p.2.map gJ)) u):wp (jH [.dic nc,.int (p.1:Nat)]) Q s:=by
 let hj:=(ae.mp I).1;let O:∀i:Nat,om false (.int (i:Nat))=true:=λi=>rfl;let vp:∀{c:Nat}{r:Nat×List Nat},P[c]?=some r->r.1∈P.map (·.1):=λh=>bQ.mpr ⟨_,ax h,rfl⟩;let L:∀Q,wp (itemK nc (.int (p.1:Nat))) Q (s++[MO.lst []])=Q (cv p.1) (s++[MO.lst []]):=λQ=>Hx (uI g) (O _) (by rw[Jv,aJ (vp I)]);let lnc:=lG g
 (simp![jH];simp![yg,bH,↓L])
 refine Dv (λl u=>∃(c:Nat)(q:Nat×List Nat)(ts:List Nat),l=[some (.dic nc),some (.int (p.1:Nat)),some (.ref s.length),some (cv q.1)]/\c<=j/\c+ts.length<=j/\P[c]?=some q/\p.2=q.2++ts.reverse/\u[s.length]?=some (.lst (ts.map gJ))/\u[nc]?=some (.dct false (uv (P.map (·.1)) cv))/\eD s u)
  (λ(_:Loc)(u:aV)=>match (u[s.length]?:Option MO) with
   |some (.lst ts)=>1000-ts.length
   |_=>0) ⟨j,p,[],rfl,ay _,ay _,I,by simp,o7,uI g,(eD.refl _).snoc _⟩ (λRw1 l u up1 Y hW=>?_)
 let⟨c,q,ts,el,hc,hts,H,U,o,g2,ex⟩:=hW;subst el;rcases C c q H with ⟨J,B⟩|⟨i,G,k,hi,B,J,e3⟩
 ·rw[B];let w:∀Q,wp (sw (.ref s.length)) Q u=Q (.tup (p.2.map gJ)) u:=λQ=>by unfold sw;rw[d8,eV o,cE,U,J,eX,List.map_reverse]
  simp![↓Lj,aR,if_false,↓w];exact hq u ex
 ·rw[e3];let v:∀es,(u.set s.length (MO.lst es))[nc]?=some (.dct false (uv (P.map (·.1)) cv)):=λes=>by rw[aA ()];exact g2
  let E:∀es Q,wp (itemK nc (.int (G.1:Nat))) Q (u.set s.length (MO.lst es))=Q (cv G.1) (u.set s.length (MO.lst es)):=λes Q=>Hx (v es) (O _) (by rw[Jv,aJ (vp B)]);simp![↓Og,if_true,↓eV o,↓oC o,↓E,ag];refine⟨rK (),up1 ⟨i,G,ts++[k],rfl,by ext,by simp;ext,B,by rw[U,J];simp,by rw[aE (lG o),bC];rfl,v _,ex.put (ay _)⟩ ?_⟩;rw[aE (lG o),o];simp only[aB,fY,ag];ext
def ZM(C:Cm P cv):∀(i:Nat)(p:Nat×List Nat),P[i]?=some p->p.2.length<=i:=by
 intro i
 induction i using tN with|ind i ih=>
  intro p g;rcases C i p g with ⟨e,_⟩|⟨c,r,k,v,o,h,_⟩
  ·rw[e];exact bH _
  ·have:=ih c v r o;rw[h];simp;ext
def LW(s:aV)(P:List (Nat×List Nat))(v:aV):Prop:=∃cv,v[s.length]?=some (.dct false (uv (P.map (·.1)) cv))/\v[s.length+1]?=some (.lst (P.map λp:Nat×List Nat=>D.int (p.1:Nat)))/\Cm P cv/\eD s v
theorem LW.put{v:aV}(q:v[s.length]?=some (.dct false (uv (P.map (·.1)) cv)))(l:v[s.length+1]?=some (.lst (P.map λp:Nat×List Nat=>D.int (p.1:Nat))))(C:Cm P cv)(ex:eD s v)(J:j∉P.map (·.1))(G:P[t]?=some (x,w)):LW s (P++[(j,w++[k])]) ((v.set s.length (.dct false (uv (P.map (·.1)++[j]) λz=>if z=j then .tup [.int (x:Nat),.int (k:Nat)] else cv z))).set (s.length+1) (.lst ((P.map λp:Nat×List Nat=>D.int (p.1:Nat))++[.int (j:Nat)]))):=by
 let B:=(ae.mp G).1;let g:∀{i:Nat}{p:Nat×List Nat},P[i]?=some p->p.1≠j:=λh e=>J (e ▸ bQ.mpr ⟨_,ax h,rfl⟩);refine⟨λz=>if z=j then .tup [.int (x:Nat),.int (k:Nat)] else cv z,?_,?_,λi p c=>?_,(ex.put (ay _)).put ()⟩
 ·rw[aA (),aE (lG q),bC];rfl
 ·rw[aE (by rw[du];exact lG l),bC];rfl
 ·by_cases o:i < P.length
  ·rw[av o]at c;dsimp only;rw[az (g c)];rcases C i p c with h|⟨I,r,H,Y,U,O⟩
   ·exact .inl h
   ·exact .inr ⟨I,r,H,Y,by rw[av ()];exact U,O⟩
  ·let e : i = P.length := by have:=(ae.mp c).1;rw[aB]at this;simp at this;ext
   subst e;rw[aM (ay _),fB]at c;cases c;dsimp only;rw[aJ rfl];exact .inr ⟨t,(x,w),k,B,by rw[av B];exact G,rfl,rfl⟩
def ZJ(g:ug n E ns s)(gg:s[dr]?=some (.lst (bu n λi=>.bl (decide (i=a)))))(ha:a < n)(hn:n<=324)(h1:∀w k u,w.length<=324->Wy E a (w++[k]) a->eD s u->Q (.tup ((w++[k]).map gJ)) u) (h2:∀u,¬ Aa E a->eD s u->Q .non u):wp (jp [.ref ns,.int (a:Nat),.ref dr]) Q s:=by
 let c1:1<=fK:=iB ();let wd:∀(Q:D->aV->Prop)l,wp (sf (ao 1) (aQ .non) (some (.ref ns)::some (.int (a:Nat))::l)) Q s=Q (.dic s.length) (s++[.dct false (uv [a] λ_=>.non)]):=λQ l=>by unfold sf;rw[d8,A5,d8,wG];exact c6 rfl
 (simp![jp];simp![jQ,↓wd,c1])
 let e1:(s++[MO.dct false (uv [a] λ_=>D.non)]).length=s.length+1:=by simp
 rw[e1];let W0:LW s [(a,[])] (s++[MO.dct false (uv [a] λ_=>D.non)]++[MO.lst [D.int (a:Nat)]]):=
  ⟨λ_=>.non,uI o7,by rw[<- e1];exact o7,λi p L=>by
   match i,L with
   |0,L=>cases L;exact .inl ⟨rfl,rfl⟩
   |i+1,L=>simp at L,((eD.refl _).snoc _).snoc _⟩
 clear wd;generalize s++[MO.dct false (uv [a] λ_=>D.non)]++[MO.lst [D.int (a:Nat)]]=s1 at *;let h:∀{P t q},BI n E a P t q->P.length<=324:=λ{P t q}I=>by
  have:=BA n (P.map (·.1)) I.nd λy hy=>by let⟨p,c,rfl⟩:=bQ.mp hy;exact (I.wy p c).2
  rw[ag]at this;ext
 refine Dv (λl v=>∃(P:List (Nat×List Nat))(t:Nat)(y6 H G:Option D),l=[some (.ref ns),some (.int (a:Nat)),some (.ref dr),some (.dic s.length),some (.ref (s.length+1)),some (.int (t:Nat)),y6,H,G]/\BI n E a P t 0/\LW s P v)
  (λ(l:Loc)(_:aV)=>match (l[5]?:Option (Option D)) with
   |some (some (D.int i))=>(1000-i).toNat
   |_=>0) ⟨[(a,[])],0,_,_,_,rfl,BI.start ha,W0⟩ (λRw2 l v up2 rt2 hW=>?_)
 let⟨P,t,y6,H,G,el,I,W⟩:=hW;subst el;let hl:=h I;let⟨cv,b1,b2,C,ex⟩:=id W;simp![↓eV b2,ag];by_cases ht:t < P.length
 ·rw[aJ ()];obtain⟨⟨x,w⟩,c⟩:∃p,P[t]?=some p:=⟨_,af ht⟩
  let hx:=(I.wy _ (ax c)).2;let q2:∀(Q:D->aV->Prop)s,wp (cL (P.map λp:Nat×List Nat=>D.int (p.1:Nat)) ((t:Nat):Int)) Q s=Q (.int (x:Nat)) s:=λQ s=>rL (by rw[au,c];rfl);let⟨rs,r,L,qi,hrs⟩:=g.row0 hx;let⟨gn,gr⟩:=L ex;simp![↓eV b2,↓q2,↓eV gn,↓qi,↓eV gr];refine uK (λq l v=>∃(P:List (Nat×List Nat))(H G:Option D),l=[some (.ref ns),some (.int (a:Nat)),some (.ref dr),some (.dic s.length),some (.ref (s.length+1)),some (.int (t:Nat)),some (.int (x:Nat)),H,G]/\BI n E a P t q/\P[t]?=some (x,w)/\LW s P v) (λ_ _ _ z=>by let⟨_,_,_,_,_,_,_,_,_,_,e⟩:=z;exact (L e).2)
   ⟨P,_,_,rfl,I,c,W⟩ (λRw3 q d l v2 U rt3 hd hW=>?_) (λl v2 hW=>?_)
  ·let⟨P,H,G,el,I,c,W⟩:=hW;subst el;let hl:=h I;rw[au]at hd;cases O:(E x)[q]? with|none=>rw[O]at hd;cases hd|some e=>
    rw[O]at hd;cases hd;let⟨k,j⟩:=e;let Y:=g.wf x hx (k,j) (ax O);let⟨cv,b1,b2,C,ex⟩:=id W;let q4:∀(Q:D->aV->Prop)s,wp (cL (bu n λi=>D.bl (decide (i=a))) ((j:Nat):Int)) Q s=Q (.bl (decide (j=a))) s:=λQ s=>xj Y;unfold yz;simp![↓eV (ex.at_ gg),↓q4];by_cases v:j=a
    ·subst v;rw[aJ rfl];refine Qoz (P:=P) (p:=(x,w)) b1 C () c λu L=>?_;let g:w.length<=t:=ZM C t (x,w) c;let B:=(ae.mp c).1;simp![c1,ag];refine⟨iB (by simp;ext),?_⟩;have:=h1 w k u () ((I.wy _ (ax c)).1.snoc (ax O)) (ex.trans L);rw[bC]at this;refine rt3 (rt2 ?_);simp![];exact this
    ·rw[az v];let q:∀Q,wp (hasK s.length (.int (j:Nat))) Q v2=Q (m_ (uv (P.map (·.1)) cv) (.int (j:Nat))).isSome v2:=λQ=>O8 b1 rfl;rw[q,Jv];by_cases J:j∈P.map (·.1)
     ·rw[aJ J];simp![km,eU,aR,if_false];exact U ⟨P,_,_,rfl,I.old c O v J,c,W⟩
     ·rw[az J];simp![mD,iN,if_true];rw[KL b1 rfl (rK (by unfold uv;rw[ag,ag];ext)),Si J];let l:∀o,(v2.set s.length o)[s.length+1]?=some (.lst (P.map λp:Nat×List Nat=>D.int (p.1:Nat))):=λo=>by rw[aA ()];exact b2
      let h:∀o Q,wp (getL (s.length+1)) Q (v2.set s.length o)=Q (P.map λp:Nat×List Nat=>D.int (p.1:Nat)) (v2.set s.length o):=λo Q=>eV (l o);let g:∀o es Q,wp (putL (s.length+1) es) Q (v2.set s.length o)=Q Unit.unit ((v2.set s.length o).set (s.length+1) (.lst es)):=λo es Q=>oC (l o);simp![↓h,↓g,ag];let B:=(ae.mp c).1;refine⟨?_,rK (),U ⟨P++[(j,w++[k])],_,_,rfl,I.new c O Y v J,by rw[av B];exact c,LW.put b1 b2 C ex J c⟩⟩
      first|exact iB ()|exact rK ()
  ·let⟨P,H,G,el,I,c,W⟩:=hW;subst el;let hl:=h I;rw[ag]at I;let B:=(ae.mp c).1;simp![↓Pq];refine up2 ⟨P,t+1,_,_,_,rfl,I.next c,W⟩ ?_
   show (1000-((t:Int)+1)).toNat < (1000-(t:Int)).toNat;ext
 ·rw[az ()];exact h2 v (I.none ()) ex
end
open PySem (Str)
section
variable{s u:aV}{Q:D->aV->Prop}{E:Nat->List (Nat×Nat)}{n ns:Nat}
def Yi{c:Nat->Bool}{r:Nat}(g:s[r]?=some (.lst (bu n λi=>.bl (c i)))):wp (r_ (.bl true) (.ref r)) Q s=Q (.bl !((b_ n).any c)) s:=by
 let e:r_ (.bl true) (.ref r)=bnd (getL r) (zF (.bl true)):=rfl;rw[e,d8,eV g,VI];let q:(bu n λi=>D.bl (c i)).all lD=true:=by simp[bu,lD]
 let o:((bu n λi=>D.bl (c i)).any λd=>sY d (.bl true))=(b_ n).any c:=by
  unfold bu;rw[vN];congr 1;funext i
  show (c i == true)=c i;simp
 rw[o];exact propext ⟨λz=>z.2,λz=>⟨⟨rfl,q⟩,z⟩⟩
theorem QD{c:Nat->Bool}:∀L:List Nat,i7 (L.map λi=>D.bl (c i))=some (L.map c)
 |[]=>rfl|i::L=>by rw[aT,i7,QD L];rfl
def QoE{o:Nat->Bool}{r:Nat}{f:Nat}(g:s[r]?=some (.lst (bu n λi=>.bl (o i))))(L:n<=900)(q:f < n)(v:o f=true)(J:∀i,i < f->o i=false)(C B:CE)(l:Loc)(I:∀Q s,wp (C l) Q s=Q (.ref r) s)(H:∀Q s,wp (B l) Q s=Q (.bl true) s):wp (oP C B l) Q s=Q (.int (f:Nat)) s:=by
 let e:((b_ n).map o).findIdx (· == true)=f:=by rw[List.findIdx_eq (by simp;exact q)];refine⟨by simp[v],λj G=>?_⟩;simp[J j G]
 let c:((b_ n).map o).contains true=true:=by rw[List.contains_iff_mem,bQ];exact⟨f,dY.mpr q,v⟩
 unfold oP;rw[d8,I];dsimp only;rw[d8,H,d8,eV g];unfold bu;rw[QD];dsimp only;rw[eJ,cE,e];exact propext ⟨λz=>z.2,λz=>⟨⟨c,iB (by simp;ext)⟩,z⟩⟩
def FR(n:Nat)(E:Nat->List (Nat×Nat))(o:Option (Nat×List Nat)):Prop:=match o with|none=>∀i,i < n->¬ Aa E i|some (f,w)=>f < n/\w.length<=400/\w≠[]/\Wy E f w f
def Mk:Option (Nat×List Nat)->D
 |none=>.non|some (f,w)=>.tup [.int (f:Nat),.tup (w.map gJ)]
theorem P6{c:Nat->Bool}:∀(n:Nat),(∃i,i < n/\c i=true)->∃f,f < n/\c f=true/\∀i,i < f->c i=false
 |0,⟨i,hi,_⟩=>by ext
 |n+1,⟨i,hi,e⟩=>by
  by_cases h:∃i,i < n/\c i=true
  ·let⟨f,q,o⟩:=P6 n h;exact⟨f,by ext,o⟩
  ·have:i=n:=iH λz=>h ⟨i,by ext,e⟩;subst this;exact⟨i,by ext,e,λj g=>by
    cases z:c j with
    |false=>rfl
    |true=>exact bo ⟨j,g,z⟩ h⟩
def Va(g:ug n E ns s)(U:n<=324)(O:∀o u,FR n E o->eD s u->Q (Mk o) u):wp (jq [.ref ns]) Q s:=by
 let l2:2<=fK:=iB ();let c1:n<=fK:=iB ()
 (simp![jq];simp![jW])
 refine Qot g U λH r u q h hr ex=>?_;let q0:∀(Q:D->aV->Prop),wp (r_ (.bl true) (.ref r)) Q u=Q (.bl !((b_ n).any H)) u:=λQ=>Yi h;simp![↓q0];by_cases G:∃i,i < n/\H i=true
 ·let J : (b_ n).any H = true := by let⟨i,c,e⟩:=G;exact e8.mpr ⟨i,dY.mpr c,e⟩
  rw[J];let⟨f,C,Y,h2⟩:=P6 n G;let q1:∀(Q:D->aV->Prop)l,wp (oP (ao 1) (aQ (.bl true)) (some (.ref ns)::some (.ref r)::l)) Q u=Q (.int (f:Nat)) u:=λQ l=>QoE h () C Y h2 _ _ _ (λQ s=>A5) (λQ s=>wG);let⟨rs,E,o,t3⟩:=g.at_;simp![eU,aR,if_false,↓q1,↓eV (ex.at_ E),ag,o,ii];let en:((n:Nat):Int).toNat=n:=by simp
  rw[en,uj];refine⟨⟨by ext,by ext⟩,by rw[l_];exact c1,?_⟩;rw[yB (f:=λi=>.bl (decide (i=f))) vX (λi c Q=>by
   simp![];have:((i:Int) == (f:Int))=decide (i=f):=by
    by_cases e:i=f
    ·subst e;simp
    ·simp[e];ext
   first|rw[this]|simp only[this])]
  simp![];let B:eD s (u++[MO.lst (bu n λi=>D.bl (decide (i=f)))]):=ex.snoc _;refine ZJ (g.ext B) o7 C U (λw k v lw ha L=>?_) λv I L=>bo ((q f C).mp Y) I;simp![l2];exact O (some (f,w++[k])) v ⟨C,by simp;ext,by simp,ha⟩ (B.trans L)
 ·let J : (b_ n).any H = false := by rw[zW];intro i c e;exact G ⟨i,dY.mp c,e⟩
  rw[J];simp![iN,if_true];exact O none u (λi c g=>G ⟨i,c,(q i c).mpr g⟩) ex
end
open PySem (Str)
section
variable{Q:D->aV->Prop}
def GO(ys:List Sd):Option (Nat×List Nat)->D
 |none=>.non|some (f,w)=>.tup [(ys[f]?.map eW).getD .non,.tup (w.map gJ)]
def T7:wp (tj (.tup ds) .non) Q s=Q (.bl false) s:=c6 rfl
def NL{c:Nat}(B:xt h)(l:∀i,sF h i->(fD h i).length<=c)(E:∀i o u,qw h i->FR (fD h i).length (eF h (fD h i)) o->eD s u->Q (GO (fD h i) o) u):wp (jI [ki h,.int (c:Nat)]) Q s:=by
 let hh:=B.1;let J:2<=fK:=iB ()
 (simp![jI];simp![yk])
 refine I0 B l λi no nd ns rs u st gl U gs L O H ex=>?_;let len:=Jo st;let g:=Mm (h:=h) (ys:=fD h i) hh gs () H;let Y:(fD h i).length<=324:=(CL B st.1).1;simp![];refine Va g Y λo v C q=>?_;cases o with
 |none=>
  unfold Mk;simp![↓D9,if_true];exact E i none v st C (ex.trans q)
 |some p=>
  let⟨f,w⟩:=p;let G:f < (fD h i).length:=C.1;let I:∀(Q:D->aV->Prop)s,wp (cL ((fD h i).map eW) ((f:Nat):Int)) Q s=Q (eW (fD h i)[f]) s:=λQ s=>rL (by rw[au,af G];rfl);unfold Mk;simp![↓T7,aR,if_false,↓eV (q.at_ gl),↓I,J];have:=E i (some (f,w)) v st C (ex.trans q);unfold GO at this;dsimp only at this;rw[af G]at this;exact this
end
open PySem (Str)
section
inductive yC(h:Hs)(x:Sd):List (Sd×Nat)->Sd->Prop
 |nil:yC h x [] x|snoc {row:List (Sd×Nat)}{y:Sd}{k:Nat} (a:yC h x row y) (hk:k∈e_ h y):yC h x (row++[(y,k)]) (iG h y k)
def o6(wt:Sd->Nat->Nat)(row:List (Sd×Nat)):Nat:=(row.map λp=>wt p.1 p.2).sum
def pD(p:Sd×Nat):D:=.tup [eW p.1,.int (p.2:Nat)]
variable{s u v:aV}{Q:D->aV->Prop}{l:Loc}{h:Hs}{ys:List Sd}{nd np:Nat}{N M:Sd->Nat}{x y:Sd}{wt:Sd->Nat->Nat}{row:List (Sd×Nat)}
def IF{k:Nat}(o:uJ h ys wt M)(c:y∈ys)(g:k∈e_ h y):wt y k+M (iG h y k)<=M y:=by have:=Xp (v:=wt y) (N:=λk=>M (iG h y k)) g;rw[<- o y c]at this;exact this
def yC.mem(c:∀x∈ys,∀k∈e_ h x,iG h x k∈ys)(g:x∈ys)(a:yC h x row y):y∈ys:=by
 induction a with|nil=>exact g|snoc a hk ih=>exact c _ ih _ hk
def Mx{k:Nat}:o6 wt (row++[(y,k)])=o6 wt row+wt y k:=by unfold o6;rw[bC,kE];simp
def yC.le(c:∀x∈ys,∀k∈e_ h x,iG h x k∈ys)(o:uJ h ys wt M)(g:x∈ys)(a:yC h x row y):o6 wt row+M y<=M x:=by
 induction a with|nil=>unfold o6;simp|snoc a hk ih=>
  have:=IF o (a.mem c g) hk;rw[Mx];ext
theorem Lx:∀row:List (Sd×Nat),o6 Ac row=row.length
 |[]=>rfl
 |p::row=>by
  have:=Lx row;unfold o6 at this ⊢;rw[aT,iw,this]
  show 1+row.length=_;rw[bU];ext
def XF(g:uJ h ys wt M)(c:y∈ys)(e:e_ h y=[]):M y=0:=by rw[g y c,e];rfl
def Vr{k:Nat}(o:uJ h ys Ac M)(c:y∈ys)(q:k∈e_ h y)(top:∀j∈e_ h y,M (iG h y j)<=M (iG h y k)):M y=1+M (iG h y k):=by
 refine B0 ?_ (IF o c q);rw[o y c];refine M8 λi g=>?_;rw[af g]
 show 1+M (iG h y (e_ h y)[i])<=_;have:=top _ (a_ g);ext
def O7{g:List Nat}(hh:kK h)(H:∀y∈ys,j_ h y)(C:∀x∈ys,∀k∈e_ h x,iG h x k∈ys)(hN:uJ h ys Ac N)(hx:x∈ys)(hl:N x<=324)(gd:s[nd]?=some (.dct true (sO ys λx=>.int (N x:Nat))))(gp:s[np]?=some (.lst (g.map gJ)))(hq:∀r row y u,yC h x row y->e_ h y=[]->(g=[]->row.length=N x)->u[r]?=some (.lst (row.map pD))->s.length<=r->eD s u->Q (.ref r) u):wp (jn [ki h,.dic nd,eW x,.ref np]) Q s:=by
 let qn:∀{v:aV},eD s v->∀{y:Sd},y∈ys->∀Q,wp (itemK nd (eW y)) Q v=Q (.int (N y:Nat)) v:=λ{v}e{y}o Q=>Hx (e.at_ gd) (Ab y) (by rw[Rl,aJ o]);let l2:2<=fK:=iB ()
 (simp![jn];simp![j1,bH])
 refine Dv (λl v=>∃(y:Sd)(row:List (Sd×Nat))(y5 y6 I:Option D),l=[some (ki h),some (.dic nd),some (eW y),some (.ref np),some (.ref s.length),y5,y6,I]/\yC h x row y/\(g=[]->row.length+N y=N x)/\v[s.length]?=some (.lst (row.map pD))/\eD s v)
  (λ(_:Loc)(v:aV)=>match (v[s.length]?:Option MO) with
   |some (.lst ts)=>1000-ts.length
   |_=>0) ⟨x,[],_,_,_,rfl,.nil,λ_=>by simp,o7,(eD.refl _).snoc _⟩ (λR l v up rt hW=>?_)
 let⟨y,row,y5,y6,I,el,wk,hp,g4,ex⟩:=hW;subst el;let o:=wk.mem C hx;let le:=wk.le C hN hx;rw[Lx]at le;let qf:=λQ v=>@rO v Q h y hh (H y o);rw[NN]at qf;let q1:∀(v:aV)Q,wp (getL v.length) Q (v++[MO.lst ((e_ h y).map λk=>D.int (k:Nat))])=Q ((e_ h y).map λk=>D.int (k:Nat)) (v++[MO.lst ((e_ h y).map λk=>D.int (k:Nat))]):=λv Q=>eV o7;let x1:eD v (v++[MO.lst ((e_ h y).map λk=>D.int (k:Nat))]):=(eD.refl _).snoc _;let U:=x1.at_ g4;simp![↓qf,↓q1,ag];by_cases fe:e_ h y=[]
 ·let g:=XF hN o fe;let G:=ex.trans x1;generalize v++[MO.lst ((e_ h y).map λk=>D.int (k:Nat))]=v1 at *;let c:=qn G o;rw[fe];rw[az (by simp)];simp![↓c];rw[g,az (by simp)];exact hq _ row y v1 wk fe (λe=>by have:=hp e;ext) U (ay _) G
 obtain⟨k0,ks,fk⟩:∃k0 ks,e_ h y=k0::ks:=List.exists_cons_of_ne_nil fe;let L:k0∈e_ h y:=by rw[fk];simp
 let lf:0 < (e_ h y).length:=vP L;let ny:=IF hN o L;let rest:∀(k:Nat)(y5 I:Option D)(v2:aV),k∈e_ h y->(g=[]->∀j∈e_ h y,N (iG h y j)<=N (iG h y k))->eD v v2->wp (aP (kq (eM (ao 4) (eE (aw (ao 2) (aw (ao 6) bn))))) (aP (m9 (cV (c2 C0 (c2 aZ (ao 1) (bO jb (aw (ao 0) (aw (ao 2) (aw (ao 6) bn))))) (c2 aZ (ao 1) (ao 2)))) (aP (dQ (aQ .non)) aW) aW) (aP (b8 (aS 2) (bO jb (aw (ao 0) (aw (ao 2) (aw (ao 6) bn))))) aW)) [some (ki h),some (.dic nd),some (eW y),some (.ref np),some (.ref s.length),y5,some (.int (k:Nat)),I]) R v2:=λk y5 I v2 q top J=>by
  let hb:=C y o k q;let qb:=λQ v=>@Fl v Q h y k hh (H y o) (xE q);let O:=J.at_ g4;let n1:=IF hN o q;let Y:eD s (v2.set s.length (.lst (row.map pD++[.tup [eW y,.int (k:Nat)]]))):=(ex.trans J).put (ay _);let gs:(v2.set s.length (.lst (row.map pD++[.tup [eW y,.int (k:Nat)]])))[s.length]?=some (.lst ((row++[(y,k)]).map pD)):=by rw[aE (lG O),bC];rfl
  simp![l2,↓eV O,↓oC O,ag];refine⟨rK (),?_⟩;generalize v2.set s.length (.lst (row.map pD++[.tup [eW y,.int (k:Nat)]]))=v3 at *;let q2:=qn Y hb;let q3:=qn Y o;simp![↓qb,↓q2,↓q3];unfold Ac at n1;rw[az ()];refine up ⟨iG h y k,row++[(y,k)],_,_,_,rfl,wk.snoc q,λe=>?_,gs,Y⟩ ?_
  ·have:=hp e;have:=Vr hN o q (top e);rw[aB,fY];ext
  ·rw[gs,g4];simp only[ag,aB,fY];ext
 unfold Ac at ny;rw[aJ ()];simp![↓eV U,ag];rw[aJ ()];let G:=ex.trans x1;generalize v++[MO.lst ((e_ h y).map λk=>D.int (k:Nat))]=v1 at *;let J:eD v1 (v1++[MO.lst ((e_ h y).map λk=>D.int (k:Nat))]):=(eD.refl _).snoc _;let gf:(v1++[MO.lst ((e_ h y).map λk=>D.int (k:Nat))])[v1.length]?=some (.lst ((e_ h y).map λk=>D.int (k:Nat))):=o7;let E:=G.trans J;simp![↓qf];generalize v1++[MO.lst ((e_ h y).map λk=>D.int (k:Nat))]=v2 at *;let i0:∀(Q:D->aV->Prop)s,wp (cL ((e_ h y).map λk=>D.int (k:Nat)) 0) Q s=Q (.int (k0:Nat)) s:=λQ s=>rL (i:=0) (by rw[fk];rfl);simp![↓eV gf,↓i0,↓eV (E.at_ gp),ag];by_cases pe:g=[]
 ·rw[az (by rw[pe];simp)];refine uK (λi l v3=>∃(k:Nat)(I:Option D),l=[some (ki h),some (.dic nd),some (eW y),some (.ref np),some (.ref s.length),some (.ref v1.length),some (.int (k:Nat)),I]/\k∈e_ h y/\(∀j∈(e_ h y).take i,N (iG h y j)<=N (iG h y k))/\v3=v2) (λ_ _ _ z=>by let⟨_,_,_,_,_,e⟩:=z;rw[e];exact gf)
   ⟨k0,_,rfl,L,by simp,rfl⟩ (λR2 i d l v3 g rt2 hd hW=>?_) (λl v3 hW=>?_)
  ·let⟨k,z7,el,q,u,e⟩:=hW;subst el;subst e;rw[au]at hd;cases G:(e_ h y)[i]? with|none=>rw[G]at hd;cases hd|some j=>
    rw[G]at hd;let I:d=.int (j:Nat):=(aF hd).symm;subst I;let U:=ax G;let qb:=λQ v=>@Fl v Q h y k hh (H y o) (xE q);let l:=λQ v=>@Fl v Q h y j hh (H y o) (xE U);let q2:=qn E (C y o k q);let q3:=qn E (C y o j U);let Y:(e_ h y).take (i+1)=(e_ h y).take i++[j]:=by rw[iO,G];rfl
    simp![↓qb,↓l,↓q2,↓q3];by_cases c:N (iG h y k) < N (iG h y j)
    ·rw[aJ ()];refine g ⟨j,_,rfl,U,λO B=>?_,rfl⟩;rw[Y]at B;rcases aO.mp B with z|z
     ·have:=u O z;ext
     ·rw[aI.mp z];exact ay _
    ·rw[az ()];refine g ⟨k,_,rfl,q,λO B=>?_,rfl⟩;rw[Y]at B;rcases aO.mp B with z|z
     ·exact u O z
     ·rw[aI.mp z];ext
  ·let⟨k,z7,el,q,u,e⟩:=hW;subst el;subst e;rw[ag,d9]at u;simp only[r9];exact rest k _ _ _ q (λ_=>u) (x1.trans J)
 ·let l:=xW.mpr pe;rw[aJ ()];simp![↓eV (J.at_ U),↓eV (E.at_ gp),ag];refine⟨by ext,?_⟩;let u:row.length % g.length < g.length:=zU _ l;let c:g[row.length % g.length] % (e_ h y).length < (e_ h y).length:=zU _ lf;let q:∀(Q:D->aV->Prop)s,wp (cL (g.map gJ) ((row.length:Int) % (g.length:Int))) Q s=Q (.int (g[row.length % g.length]:Nat)) s:=λQ s=>rL (i:=row.length % g.length) (by rw[au,af u];rfl);let o:∀(Q:D->aV->Prop)s,wp (cL ((e_ h y).map λk=>D.int (k:Nat)) ((g[row.length % g.length]:Int) % ((e_ h y).length:Int))) Q s=Q (.int ((e_ h y)[g[row.length % g.length] % (e_ h y).length]:Nat)) s:=λQ s=>rL (i:=g[row.length % g.length] % (e_ h y).length) (by rw[au,af c];rfl);simp![↓q,↓eV gf,ag];refine⟨by ext,?_⟩;rw[o];simp only[B2,r9];exact rest _ _ _ _ (a_ c) (λe=>bo e pe) (x1.trans J)
end
open PySem (Str)
section
variable{s u v:aV}{Q:D->aV->Prop}{h:Hs}{ys:List Sd}{nr:Nat}{row:List (Sd×Nat)}
def V2{A B C:CE}: wp (zt A B C l) Q s=wp (A l) (λx E=>match x with
  | .dic n=>wp (getDc n) (λp q=>p.1=true/\wp (B l) (λy o=>wp (C l) (λz g=>wp (getDc n) (λp c=>(p.1=true/\om true y=true)/\Q ((m_ p.2 y).getD z) c) g) o) q) E
  |_=>False) s:=by
 unfold zt;rw[d8];refine iU λx E=>?_;cases x<;>first|exact vt rfl|skip
 dsimp only;rw[d8];refine iU λp q=>?_;rw[eJ,d8];congr 1;refine iU λy o=>?_;rw[d8];refine iU λz g=>?_;rw[d8];refine iU λp c=>?_;rw[eJ,cE]
noncomputable def kD(p:Nat×Nat):D:=.tup [.int (p.1:Nat),.int (p.2:Nat)]
def P9(a b:Nat×Nat):kr (kD a) (kD b)=decide (a=b):=by show (decide ((a.1:Int)=(b.1:Nat))&&(decide ((a.2:Int)=(b.2:Nat))&&true))=_;rw[DV,<- lY];exact decide_eq_decide.mpr ⟨λe=>wQ () (),λe=>by rw[e];exact⟨rfl,rfl⟩⟩
def QA{k:Nat}(hh:kK h)(o:j_ h y)(c:k∈e_ h y):Au (dI h y k) < h.boards.length:=by
 let⟨hd,l,_,_,_,_,ok⟩:=F1 hh o (xE c);let g:si (dI h y k)=true:=(kt.mp c).2;cases e:dI h y k with|settle v=>rw[e]at g;cases g|act b d gs=>
  rw[e]at ok;let⟨B,q,_⟩:=ok;exact (ae.mp q).1
def yC.all(g:∀x∈ys,∀k∈e_ h x,iG h x k∈ys)(o:x∈ys)(a:yC h x row y):∀p∈row,p.1∈ys/\p.2∈e_ h p.1:=by
 induction a with
 |nil=>intro p c;cases c
 |snoc a hk ih=>
  intro p c;rcases aO.mp c with z|z
  ·exact ih p z
  ·rw[aI.mp z];exact⟨a.mem g o,hk⟩
def Bs(h:Hs)(row:List (Sd×Nat))(p:Nat×Nat):D:=.int (o6 (tW h p.2 p.1) row:Nat)
def Ts(hh:kK h)(gr:s[nr]?=some (.lst (row.map pD)))(ok:∀p∈row,j_ h p.1/\p.2∈e_ h p.1)(hl:row.length<=400)(hq:∀(K:List (Nat×Nat))u,(∀p∈K,p.1 < h.boards.length/\p.2 < h.hands.length)->u[s.length]?=some (.dct true (K.map λp=>(kD p,Bs h row p)))->eD s u->Q (.dic s.length) u):wp (jt [ki h,.ref nr]) Q s:=by
 let l2:2<=fK:=iB ();let L:∀o:MO,(s++[o])[nr]?=some (.lst (row.map pD)):=λo=>uI gr
 (simp![jt];simp![jY,↓eV (L _)])
 refine uK (λi l v=>∃(K:List (Nat×Nat))(G E C:Option D),l=[some (ki h),some (.ref nr),some (.dic s.length),G,E,C]/\(∀p∈K,p.1 < h.boards.length/\p.2 < h.hands.length)/\(∀p,p∉K->o6 (tW h p.2 p.1) (row.take i)=0)/\K.length<=i/\v[s.length]?=some (.dct true (K.map λp=>(kD p,Bs h (row.take i) p)))/\eD s v) (λ_ _ _ z=>by let⟨_,_,_,_,_,_,_,_,_,e⟩:=z;exact e.at_ gr)
  ⟨[],_,_,_,rfl,by simp,λp _=>by simp[o6],by simp,o7,(eD.refl _).snoc _⟩ (λR i d l v up rt hd J=>?_) (λl v J=>?_)
 ·let⟨K,G,E,C,el,B,H,k3,g,ex⟩:=J;subst el;rw[au]at hd;cases ep:row[i]? with|none=>rw[ep]at hd;cases hd|some p=>
   rw[ep]at hd;let ed:d=pD p:=(aF hd).symm;subst ed;let⟨y,k⟩:=p;let⟨Y,I⟩:=ok _ (ax ep);let hi:=(ae.mp ep).1;let O:row.take (i+1)=row.take i++[(y,k)]:=by rw[iO,ep];rfl
   let qa:=λQ v=>@Yt v Q h y k hh Y (xE I);let U:=λQ v=>@QT Q (dI h y k) v;let l:=QA hh Y I;generalize u:Au (dI h y k)=b at U l;let e0:(m_ (K.map λp=>(kD p,Bs h (row.take i) p)) (.tup [.int (b:Nat),.int (k:Nat)])).getD (.int 0)=.int (o6 (tW h k b) (row.take i):Nat):=by
    rw[show D.tup [.int (b:Nat),.int (k:Nat)]=kD (b,k) from rfl,E8 P9];by_cases q:(b,k)∈K
    ·rw[aJ q];rfl
    ·rw[az q,H _ q];rfl
   unfold pD;simp![↓qa,↓U,l2,↓V2,↓yS g];refine⟨rfl,?_⟩;rw[e0];simp![];rw[KL g rfl (rK (by rw[ag];ext)),show D.tup [.int (b:Nat),.int (k:Nat)]=kD (b,k) from rfl,Fm P9,r9];have L:∀p:Nat×Nat,AY (Bs h (row.take i)) (b,k) (.int ((o6 (tW h k b) (row.take i):Nat)+1:Int)) p=Bs h (row.take (i+1)) p:=λp=>by
    unfold AY Bs;rw[O,Mx];unfold tW;rw[u];by_cases e:p=(b,k)
    ·rw[aJ e,e,aJ ⟨rfl,rfl⟩];rfl
    ·rw[az e,az λz=>e (wQ z.2.symm z.1.symm)];rfl
   refine up ⟨if (b,k)∈K then K else K++[(b,k)],_,_,_,rfl,λp c=>?_,λp c=>?_,?_,?_,ex.put (ay _)⟩
   ·split at c
    ·exact B p c
    ·rcases aO.mp c with z|z
     ·exact B p z
     ·rw[aI.mp z];exact⟨l,xE I⟩
   ·let o : p ∉ K /\ p ≠ (b, k) := by
      split at c
      ·rename_i z;exact⟨c,λe=>c (by rw[e];exact z)⟩
      ·exact⟨λz=>c (bv _ z),λe=>c (by rw[e];simp)⟩
    rw[O,Mx,H p o.1];unfold tW;rw[u,az λz=>o.2 (wQ z.2.symm z.1.symm)]
   ·split
    ·ext
    ·rw[aB,fY];ext
   ·rw[aE (lG g)];simp only[L];by_cases q:(b,k)∈K<;>simp only[q,if_true,if_false]
 ·let⟨K,G,E,C,el,B,H,k3,g,ex⟩:=J;subst el;simp![];rw[ag,d9]at g;exact hq K v B g ex
end
open PySem (Str)
section
variable{s u v:aV}{Q:D->aV->Prop}{h:Hs}{ys:List Sd}{nr nd np:Nat}{row:List (Sd×Nat)}
def BM:wp (l9 g a d l) Q s=wp (a l) (λds c=>wp (g (ds++[d])) Q c) s:=by unfold l9;rw[d8]
noncomputable def sm(f:Nat->Nat):Nat->Nat
 |0=>0|n+1=>sm f n+f n
theorem EY{f g:Nat->Nat}:∀{n:Nat},(∀i,i < n->f i<=g i)->sm f n<=sm g n
 |0,_=>ay _|n+1,e=>Nat.add_le_add (EY λi c=>e i ()) (e n ())
theorem Pe{f g:Nat->Nat}:∀n:Nat,sm (λi=>f i+g i) n=sm f n+sm g n
 |0=>rfl|n+1=>by simp only[sm,Pe n];ext
theorem JI{j c:Nat}:∀{n:Nat},j < n->c<=sm (λi=>if j=i then c else 0) n
 |n+1,hj=>by
  simp only[sm];by_cases e:j=n
  ·rw[aJ e];ext
  ·have:=JI (c:=c) (n:=n) (show j < n by ext);ext
def YF{f:Nat->Nat}:∀n:Nat,lQ (bu n λk=>D.int (f k:Nat))=some (bu n λk=>(f k:Int)):=λn=>by
 unfold bu;generalize b_ n=L
 induction L with|nil=>rfl|cons a L ih=>rw[aT,lQ,ih];rfl
theorem OM{f:Nat->Nat}:∀n:Nat,(bu n λk=>(f k:Int)).sum=(sm f n:Nat)
 |0=>rfl|n+1=>by rw[z6,kE,OM n];simp[sm]
def Oh{f:Nat->Nat}{n:Nat}:wp (vo (bu n λk=>D.int (f k:Nat))) Q s=Q (.int (sm f n:Nat)) s:=by unfold vo;rw[YF,<- OM];exact cE
theorem QY{B H:Nat}:∀{row:List (Sd×Nat)},(∀p∈row,Au (dI h p.1 p.2) < B/\p.2 < H)->row.length<=sm (λb=>sm (λk=>o6 (tW h k b) row) H) B
 |[],_=>bH _
 | (y,j)::row,ok=>by
  let E:=QY (B:=B) (H:=H) (row:=row) λp c=>ok p (bF _ c);let⟨o,g⟩:=ok (y,j) cD;let e:∀b k,o6 (tW h k b) ((y,j)::row)=tW h k b y j+o6 (tW h k b) row:=λb k=>by unfold o6;rw[aT,iw]
  simp only[e,Pe];have:1<=sm (λb=>sm (λk=>tW h k b y j) H) B:=c5 (JI o) (EY λb _=>by
   split
   ·rename_i C;exact c5 (JI g) (EY λk _=>by
     unfold tW;split
     ·rename_i q;rw[aJ ⟨q,C⟩];exact ay _
     ·exact bH _)
   ·exact bH _)
  rw[bU];ext
def O2{M:Sd->Nat}(g:x∈ys):M x<=CC M ys:=by let⟨j,c⟩:=aN.mp g;have:=MG (f:=λi=>((ys[i]?).map M).getD 0) (ae.mp c).1;rw[c]at this;exact this
def ZA(h:Hs)(ys:List Sd)(G:Nat->Nat->Nat)(n:Nat):Prop:=∀b,b < n->∀k,k < h.hands.length->∃M,uJ h ys (tW h k b) M/\G b k=CC M ys
def xZ(h:Hs)(G:Nat->Nat->Nat)(b:Nat):D:=.tup (bu h.hands.length λk=>.int (G b k:Nat))
def XD{pk:List Nat}{i:Nat}(hc:xt h)(st:qw h i)(t0:s[0]?=some (.tbl "most_deeds" "worth"))(no:∀x∈fD h i,¬ TS (Ba h) x x)(hN:uJ h (fD h i) Ac N)(g:x∈fD h i)(hl:N x<=324)(gd:s[nd]?=some (.dct true (sO (fD h i) λx=>.int (N x:Nat))))(gp:s[np]?=some (.lst (pk.map gJ)))(hq:∀u,eD s u->Q (.bl true) u):wp (jf [ki h,.dic nd,eW x,.ref np]) Q s:=by
 let hh:=hc.1;let C:=(z0 hh i).2;let c:∀x∈fD h i,∀k∈e_ h x,iG h x k∈fD h i:=λx g k hk=>Ia hh st g hk;let h500:∀j,sF h j->(fD h j).length<=500:=λj gj=>by have:=(CL hc gj).1;ext
 (simp![jf];simp![jL])
 refine O7 hh C c hN g hl gd gp λr1 row1 y1 s1 w1 f1 _ g1 _ x1=>?_;simp![bH];let x2:eD s1 (s1++[MO.lst []]):=(eD.refl _).snoc _;let g2:(s1++[MO.lst []])[s1.length]?=some (.lst (([]:List Nat).map gJ)):=o7;generalize s1++[MO.lst []]=s2 at *;let x12:=x1.trans x2;refine O7 hh C c hN g hl (x12.at_ gd) g2 λr3 H y3 s3 B f3 e3 g3 _ x3=>?_;let e3:=e3 rfl;let J:=x12.trans x3;let q1:∀Q,wp (itemK nd (eW x)) Q s3=Q (.int (N x:Nat)) s3:=λQ=>Hx (J.at_ gd) (Ab x) (by rw[Rl,aJ g]);let qb:∀(Q:D->aV->Prop)s,wp (aZ (ki h) (.int 0)) Q s=Q (.tup (h.boards.map tm)) s:=λQ s=>c6 rfl;let b7:=hh.1;let I:=wx (show h.boards.length<=100 by ext);let c7:h.boards.length<=fK:=iB ();simp![↓JR,↓eV g3,↓q1,ag,e3];rw[az (by simp)];simp![↓qb,ag,I,uj,bA,l_,c7,ii];refine Dn (λj O v=>∃G,O=bu j (xZ h G)/\ZA h (fD h i) G j/\eD s3 v) (λ_ _ _ _=>trivial) ⟨λ_ _=>0,rfl,λb I=>bo I (),eD.refl _⟩ (λR j O v up hj w=>?_) (λO v w=>?_)
 ·let⟨G,eo,hG,xv⟩:=w;simp![↓BM,dA,eX];refine P_ hc h500 ((J.trans xv).at_ t0) (λo M u L hM _ g=>?_) (λo l u L c ts g=>?_)
  ·cases st.uniq L;refine up ⟨λb k=>if b=j then CC (M k) (fD h i) else G b k,?_,λb I k hk=>?_,xv.trans g⟩
   ·rw[z6,eo];congr 1
    ·exact zm λb I=>by unfold xZ;simp only[az (show ¬ b=j by ext)]
    ·unfold xZ;simp only[if_true]
   ·by_cases e:b=j
    ·subst e;simp only[if_true];exact⟨M k,hM k hk,rfl⟩
    ·simp only[az e];exact hG b () k hk
  ·cases st.uniq L;exact bo ts (no l c)
 let⟨G,eo,hG,xv⟩:=w;subst eo;simp![l_,c7];let x4:eD v (v++[MO.lst (bu h.boards.length (xZ h G))]):=(eD.refl _).snoc _;let g4:(v++[MO.lst (bu h.boards.length (xZ h G))])[v.length]?=some (.lst (bu h.boards.length (xZ h G))):=o7;let l2:2<=fK:=iB ();simp![l2];let q:=xv.trans x4;generalize v++[MO.lst (bu h.boards.length (xZ h G))]=v1 at *;let rows:∀(j:Nat)d,[D.ref r1,D.ref r3][j]?=some d->∃r row y,d=.ref r/\yC h x row y/\v1[r]?=some (.lst (row.map pD)):=λj d hd=>by
  match j,hd with|0,hd=>exact⟨r1,row1,y1,(aF hd).symm,w1,((x2.trans x3).trans q).at_ g1⟩|1,hd=>exact⟨r3,H,y3,(aF hd).symm,B,q.at_ g3⟩|j+2,hd=>simp at hd
 refine uK (λj l w=>∃(y7 y8 y9 o:Option D),l=[some (ki h),some (.dic nd),some (eW x),some (.ref np),some (.ref r1),some (.ref r3),some (.ref v.length),y7,y8,y9,o]/\eD v1 w) (λ_ _ _ _=>trivial) ⟨_,_,_,_,rfl,eD.refl _⟩ (λR j d l w up rt hd U=>?_) (λl w U=>?_)
 ·let⟨y7,y8,y9,o,el,E⟩:=U;subst el;let⟨r,row,y,O,J,gr⟩:=rows j d hd;subst O;let ra:=J.all c g;let rl:=J.le c hN g;rw[Lx]at rl;simp![↓S4];refine Ts hh (E.at_ gr) (λp Y=>⟨C _ (ra p Y).1,(ra p Y).2⟩) () λK w2 hK g5 q=>?_;simp![↓yS g5];refine uK (λj l B=>∃(y8 y9 o:Option D),l=[some (ki h),some (.dic nd),some (eW x),some (.ref np),some (.ref r1),some (.ref r3),some (.ref v.length),some (.ref r),y8,y9,o]/\B=w2) (λ_ _ _ z=>by let⟨_,_,_,_,e⟩:=z;rw[e];exact g5) ⟨_,_,_,rfl,rfl⟩ (λR2 j d l B L rt2 hd U=>?_) (λl B U=>?_)
  ·let⟨z8,z9,I,el,e⟩:=U;subst el;subst e;rw[au,au]at hd;cases ep:K[j]? with|none=>rw[ep]at hd;cases hd|some p=>
    rw[ep]at hd;let O:d=.tup [kD p,Bs h row p]:=(aF hd).symm;subst O;let⟨H,u⟩:=hK p (ax ep);let⟨M,hM,eG⟩:=hG p.1 H p.2 u;let le:=J.le c hM g;let CJ:=O2 (M:=M) g;let o:∀(Q:D->aV->Prop)s,wp (cL (bu h.boards.length (xZ h G)) (p.1:Nat)) Q s=Q (xZ h G p.1) s:=λQ s=>xj H;let l:∀(Q:D->aV->Prop)s,wp (aZ (xZ h G p.1) (.int (p.2:Nat))) Q s=Q (.int (G p.1 p.2:Nat)) s:=λQ s=>xj u;unfold kD Bs;simp![↓eV ((E.trans q).at_ g4),↓o,↓l];rw[az ()];exact L ⟨_,_,_,rfl,rfl⟩
  ·let⟨z8,z9,I,el,e⟩:=U;subst el;subst e;simp only[r9];exact up ⟨_,_,_,_,rfl,E.trans q⟩
 ·let⟨y7,y8,y9,o,el,E⟩:=U;subst el;let l:∀(A:List D->aV->Prop),wp (collect (aS 0) bZ (c1 vm (ao 0)) (fW v.length (bu h.boards.length (xZ h G))) (bu h.boards.length (xZ h G)) [none]) A w=A (bu h.boards.length λb=>.int (sm (G b) h.hands.length:Nat)) w:=λA=>by refine yB (E.at_ g4) λb I Q=>?_;simp![];exact Oh
  simp![↓eV (E.at_ g4),ii,↓l,l_,c7,↓Oh,↓eV ((q.trans E).at_ g3),ag];let fin:H.length<=sm (λk=>sm (G k) h.hands.length) h.boards.length:=c5 (QY λp Y=>⟨QA hh (C _ (B.all c g p Y).1) (B.all c g p Y).2,xE (B.all c g p Y).2⟩) (EY λb I=>EY λk hk=>by let⟨M,hM,eG⟩:=hG b I k hk;have:=B.le c hM g;have:=O2 (M:=M) g;ext)
  rw[bY ()];exact hq w ((J.trans q).trans E)
end
open PySem (Str)
section
def Y2{e:CE}{xs:List (D×D)}{same:aV->Prop}{Q:List D->aV->Prop}(W:Nat->List D->aV->Prop)(G:∀i c s,W i c s->same s)(I:W 0 [] s)(g:∀(i:Nat)d c s,xs[i]?=some d->W i c s->wp (e (some d.1::some d.2::caps)) (λx E=>W (i+1) (c++[x]) E) s) (u:∀c s,W xs.length c s->Q c s):wp (collect (gq 2 (cC (aS 0) (cC (aS 1) gD))) bZ e same (xs.map λd=>.tup [d.1,d.2]) (none::none::caps)) Q s:=by
 let chk:∀{s:aV}{R:Unit->aV->Prop},same s->R Unit.unit s->wp (chkS same) R s:=λh r=>by rw[sN];unfold chkS;rw[aJ h];exact r
 refine IS (Q:=Q) (λc ds l s=>∃i C B,ds=(xs.drop i).map (λd=>.tup [d.1,d.2])/\i<=xs.length/\l=C::B::caps/\W i c s) (λc l s ⟨i,C,B,v,H,_,w⟩=>?_) (λc d ds l s ⟨i,C,B,v,H,el,w⟩=>?_) _ [] _ s ⟨0,none,none,by simp,bH _,rfl,I⟩
 ·let : i = xs.length := by have:=cQ dZ v;simp at this;ext
  subst this;exact chk (G _ _ _ w) (u c s w)
 ·subst el;let o:i < xs.length:=by have:=cQ dZ v;simp at this;ext
  rw[dF o,aT]at v;let⟨L,J⟩:=mI v;refine chk (G _ _ _ w) ?_;subst L;rw[uz,nK,gS,nK,gS,ut];refine⟨rfl,?_⟩
  show wp (ret true) _ s;rw[cE];exact wM (g i _ c s (af o) w) λx E q=>⟨i+1,_,_,J,o,rfl,q⟩
end
section
variable{s u v:aV}{Q:D->aV->Prop}{h:Hs}{ys:List Sd}{st:Sd}
def O3{n:Nat}:(bw n (D.bl true)).all lD=true/\((bw n (D.bl true)).any λd=>sY d (.bl false))=false:=by
 constructor
 ·rw[cU];intro d hd;rw[uV hd];rfl
 ·rw[zT];intro z;rw[e8]at z;let⟨d,hd,e⟩:=z;rw[uV hd]at e;cases e
def Qe{n:Nat}:wp (yA (.bl false) (bw n (.bl true))) Q s=Q (.bl false) s:=by unfold yA;rw[eJ,cE,O3.2];exact propext ⟨λz=>z.2,λz=>⟨⟨rfl,O3.1⟩,z⟩⟩
def n5(h:Hs)(st:Sd)(ts:List Nat):Sd:=ts.foldl (λx k=>iG h x k) st
theorem K_(hh:kK h):∀{ts:List Nat}{st:Sd},j_ h st->(∀t∈ts,t < h.hands.length)->j_ h (n5 h st ts)
 |[],st,hs,_=>hs|t::ts,st,hs,ht=>K_ hh (ts:=ts) (NB hh hs (ht t cD)) λx c=>ht x (bF _ c)
def mV(h:Hs)(st:Sd)(ts:List Nat)(n:Nat):List D:=bu n λi=>eW (n5 h st (ts.take i))
def Uu{ts:List Nat}(hh:kK h)(L:j_ h st)(G:∀t∈ts,t < h.hands.length)(hl:ts.length<=900)(O:∀c,c[s.length]?=some (.lst (mV h st ts (ts.length+1)))->eD s c->Q (.ref s.length) c):wp (yo [ki h,eW st,.tup (ts.map gJ)]) Q s:=by
 let J:1<=fK:=iB ()
 (simp![yo];simp![yv,J])
 refine uK (λi l c=>∃q,l=[some (ki h),some (eW st),some (.tup (ts.map gJ)),some (.ref s.length),q]/\c[s.length]?=some (.lst (mV h st ts (i+1)))/\eD s c) (λ_ _ _ _=>trivial) ⟨_,rfl,by simp[mV,bu,n5],(eD.refl _).snoc _⟩ (λR i d l c up rt hd C=>?_) (λl c C=>?_)
 ·let⟨q,el,o,E⟩:=C;subst el;rw[au]at hd;cases g:ts[i]? with|none=>rw[g]at hd;cases hd|some t=>
   rw[g]at hd;let U:d=.int (t:Nat):=(aF hd).symm;subst U;let l:=(ae.mp g).1;let c:mV h st ts (i+1)=mV h st ts i++[eW (n5 h st (ts.take i))]:=z6;let v:∀Q s,wp (cL (mV h st ts (i+1)) (-1)) Q s=Q (eW (n5 h st (ts.take i))) s:=λQ s=>by rw[c];exact GK
   let B:j_ h (n5 h st (ts.take i)):=K_ hh L λx g=>G x (gH g);let H:=λQ s=>@Fl s Q h (n5 h st (ts.take i)) t hh B (G t (ax g));let I:(mV h st ts (i+1)).length < fK:=rK (by unfold mV;rw[l_];ext);simp![↓eV o,↓v,↓H,↓oC o,I];refine up ⟨_,rfl,?_,E.put (ay _)⟩;rw[aE (lG o)];let u:n5 h st (ts.take (i+1))=iG h (n5 h st (ts.take i)) t:=by rw[List.take_add_one,g];unfold n5;rw[nB];rfl
   let Y:mV h st ts (i+1+1)=mV h st ts (i+1)++[eW (n5 h st (ts.take (i+1)))]:=z6;rw[Y,u]
 ·let⟨q,el,o,E⟩:=C;subst el;rw[ag]at o;simp![];exact O c o E
def UH{m:Nat}(g:u[m]?=some (.lst (ys.map eW)))(c:st∈ys):wp (wE (eW st) (.ref m)) Q u=Q (.bl false) u:=by show wp (bnd (getL m) (yM (eW st))) Q u=_;rw[d8,eV g];unfold yM;let e:((ys.map eW).any λd=>kr d (eW st))=true:=e8.mpr ⟨_,bQ.mpr ⟨st,c,rfl⟩,by rw[IW,bY rfl]⟩;rw[eJ,cE,e];exact propext ⟨λz=>z.2,λz=>⟨⟨Ab st,cU.mpr λd hd=>by let⟨y,_,e⟩:=bQ.mp hd;rw[<- e];exact Ab y⟩,z⟩⟩
def Z_{n k:Nat}{L:List Nat}(g:u[n]?=some (.lst (L.map λk=>D.int (k:Nat))))(c:k∈L):wp (D8 (.int (k:Nat)) (.ref n)) Q u=Q (.bl true) u:=by show wp (bnd (getL n) (yA (.int (k:Nat)))) Q u=_;let e:((L.map λk=>D.int (k:Nat)).any λd=>sY d (.int (k:Nat)))=true:=e8.mpr ⟨_,bQ.mpr ⟨k,c,rfl⟩,by simp[sY]⟩;rw[d8,eV g,Sm,e];exact propext ⟨λz=>z.2,λz=>⟨⟨rfl,cU.mpr λd hd=>by let⟨y,_,e⟩:=bQ.mp hd;rw[<- e];rfl⟩,z⟩⟩
def Qpa(g:∀x∈ys,∀k∈e_ h x,iG h x k∈ys){i j:Nat}(a:Wy (eF h ys) i w j):∀{x y:Sd},ys[i]?=some x->ys[j]?=some y->n5 h x w=y/\∀(t k:Nat),w[t]?=some k->k∈e_ h (n5 h x (w.take t)):=by
 induction a with|nil=>exact λc o=>⟨aF (c.symm.trans o),λt k e=>by cases e⟩|@cons i y k j w hp r ih=>
  intro x z c o;let⟨q,e⟩:=(HZ c).mp hp;let C:=g x (ax c) k q;let⟨G,E⟩:=ih (x:=iG h x k) (by rw[<- e];exact A0 C) o;refine⟨G,λt B e=>?_⟩;cases t with|zero=>cases e;exact q|succ t=>exact E t B e
def Zx{E:Nat->List (Nat×Nat)}{i:Nat}(a:Wy E i w i)(c:w≠[]):Aa E i:=by
 cases a with|nil=>exact bo rfl c|cons hp r=>exact⟨_,hp,r.rc⟩
def YV{m:Nat}{w:List Nat}{A:List D->aV->Prop}(hh:kK h)(I:j_ h st)(C:∀(t k:Nat),w[t]?=some k->k∈e_ h (n5 h st (w.take t)))(U:w.length<=900)(g:u[m]?=some (.lst (mV h st w (w.length+1))))(J:∀v,eD u v->A (bw w.length (.bl true)) v):wp (collect (gq 2 (cC (aS 0) (cC (aS 1) gD))) bZ (c2 D8 (ao 1) (bO jy (aw (ao 2) (aw (ao 0) bn)))) (fW m (mV h st w (w.length+1))) ((mV h st w (w.length+1)).zipWith (λp q=>D.tup [p,q]) (w.map gJ)) [none,none,some (ki h)]) A u:=by
 let e:(mV h st w (w.length+1)).zipWith (λp q=>D.tup [p,q]) (w.map gJ)=(bu w.length λj=>(eW (n5 h st (w.take j)),((w[j]?).map gJ).getD .non)).map λd=>.tup [d.1,d.2]:=by rw[K6];refine E4 (by unfold mV;rw[hU,l_,ag];ext) λj o=>?_;unfold mV;rw[eQ,wI (),au,af o];rfl
 rw[e];refine Y2 (λj c v=>c=bw j (.bl true)/\eD u v) (λ_ _ _ z=>z.2.at_ g) ⟨rfl,eD.refl _⟩ (λj d c v hd z=>?_) (λc v z=>?_)
 ·let⟨o,rfl⟩:=Ca hd;let E:=K_ hh I (ts:=w.take j) λt H=>by let⟨a,O⟩:=aN.mp (gH H);exact xE (C a t O)
  let L:=C j _ (af o);let B:=λQ v=>@rO v Q h (n5 h st (w.take j)) hh E;rw[NN]at B;rw[af o];let G:∀Q,wp (D8 (.int (w[j]:Nat)) (.ref v.length)) Q (v++[MO.lst ((e_ h (n5 h st (w.take j))).map λk=>D.int (k:Nat))])=Q (.bl true) _:=λQ=>Z_ o7 L;simp![dJ,gX];unfold gJ;simp![↓B,↓G];exact⟨by rw[z.1];exact xg.symm,z.2.snoc _⟩
 ·rw[l_]at z;rw[z.1];exact J v z.2
end
open PySem (Str)
section
variable{s u v:aV}{Q:D->aV->Prop}{ys:List Sd}
def Qpd{n:Nat}:wp (ng (.dic n) .non) Q s=Q (.bl true) s:=c6 rfl
def Vt{a b:CE}{I:Wk->aV->Prop}: wp (u7 a b l) I s=wp (a l) (λx o=>wp (b l) (λy g=>match x,y with
  | .ref m,.tup es=>wp (getL m) (λds c=>I ⟨ds.zipWith (λp q=>.tup [p,q]) es,fW m ds⟩ c) g
  |_,_=>False) o) s:=by
 unfold u7;rw[d8];refine iU λx o=>?_;rw[d8];refine iU λy g=>?_;cases x<;>first|exact gQ|skip
 cases y<;>first|exact gQ|skip
 dsimp only;rw[d8];refine iU λds c=>?_;rw[cE]
open Classical in
def Zd{m n:Nat}{f:Sd->Nat}(C:s[m]?=some (.dct true (sO ys λx=>.int (f x:Nat))))(B:s[n]?=some (.dct true (sO ys λx=>.int (f x:Nat)))):wp (xF (.dic m) (.dic n)) Q s=Q (.bl true) s:=by let o:∀{m c}{Q:List (D×D)->aV->Prop},s[m]?=some (.dct true c)->wp (getDf m) Q s=Q c s:=λ{m c Q}g=>c6 (by unfold getDf;rw[g]);unfold xF;rw[d8,o C,d8,o B,eJ,cE];exact propext ⟨λz=>z.2,λz=>⟨⟨rfl,λp q=>by let⟨y,_,e⟩:=bQ.mp q;rw[<- e];trivial⟩,z⟩⟩
def Qpg(f:v7 h ys R)(q:∀x∈R,x∈ys)(B:uJ h ys Ac N):∀(j:Nat)(z:Sd),R[j]?=some z->N z<=j:=by
 intro j
 induction j using tN with|ind j ih=>
  intro z hz;rw[B z (q z (ax hz))];refine M8 λi o=>?_;rw[af o]
  show 1+N (iG h z (e_ h z)[i])<=j;let⟨t,g⟩:=aN.mp (f.2 j z hz _ (a_ o));let c:t < j:=by have:=(ae.mp g).1;rw[bE]at this;ext
  rw[cq c]at g;have:=ih t c _ g;ext
def VC(ns:List Int)(hn:ns.length<=63)(s0:aV)(t0:s0[0]?=some (.tbl "most_deeds" "worth"))(L:s0[1]?=some (.tbl "graph_numbers" "<lambda>"))(Q:D->aV->Prop)(hQ:∀s,Q (.bl true) s):wp (j5 [.lit (ns.map D.int)]) Q s0:=by
 let ls0:=lG L
 (simp![j5];simp![yw])
 refine Ta λp q s1 hp1 lp lq x1=>?_;simp![];refine U0 hp1 λh s2 I l k2=>?_;let hh:=I.1;let h23:h.hands.length=2\/h.hands.length=3:=by have:=hh.2.2.1;have:=hh.2.2.2.1;ext
 simp![];refine QlW h23 λr s3 lr g3 x3=>?_;simp![↓eV g3,ag];let ic:=M_ h.hands.length;let i8:0 < (mv h.hands.length).length/\(mv h.hands.length).length<=8:=by rw[ic];rcases h23 with e|e<;>rw[e]<;>decide
 let lt2:=l.lt;refine rB (l.ext x3) () () λd s4 d0 d1 hp4 k4=>?_;let⟨dn,rfl⟩:=wD d0;let hd:dn < (mv h.hands.length).length:=by ext
 let g4:=k4.same () () g3;let q4:∀(Q:D->aV->Prop)s,wp (cL ((mv h.hands.length).map D.tup) (dn:Nat)) Q s=Q (.tup (mv h.hands.length)[dn]) s:=λQ s=>rL (by rw[au,af hd];rfl);let hr:=a_ hd;let q5:=λQ s=>@OX s Q h (mv h.hands.length)[dn] hh hr;generalize (mv h.hands.length)[dn]=row at *;simp![↓eV g4,↓q4,↓q5];refine rB hp4 () () λc s5 c0 c1 hp5 k5=>?_;let⟨cn,rfl⟩:=wD c0;simp![ii];let e1:(1+(cn:Int)).toNat=cn+1:=by ext
 rw[e1,uj];refine⟨⟨by ext,by ext⟩,by rw[l_];exact iB (),?_⟩;refine Dn (λj E v=>∃J:List Nat,E=J.map gJ/\J.length=j/\d7 v p q/\Kept p q s5 v) (λ_ _ _ _=>trivial) ⟨[],rfl,rfl,hp5,Kept.refl⟩ (λR j E v up hj w=>?_) (λE v w=>?_)
 ·let⟨J,e1,h,hv,kv⟩:=w;simp![];refine rB hv () () λa s6 o q c g=>?_;let⟨l,rfl⟩:=wD o;exact up ⟨J++[l],by rw[e1,bC];rfl,by rw[aB,h];rfl,c,kv.trans g⟩
 let⟨J,rfl,pl,hv,kv⟩:=w;let tt:∀{n:Nat}{o:MO},s0[n]?=some o->v[n]?=some o:=λ{n o}t=>by have ln:=lG t;have:=x1.le;have:=k2.le;exact kv.same () () (k5.same () () (k4.same () () (x3.at_ (k2.same () () (x1.at_ t)))))
 let t0:=tt t0;let L:=tt L;clear tt;simp![ag,pl,↓BM,dA,eX];let x6:eD v (v++[MO.lst (J.map gJ)]):=(eD.refl _).snoc _;let g6:(v++[MO.lst (J.map gJ)])[v.length]?=some (.lst (J.map gJ)):=o7;let t0:=x6.at_ t0;let L:=x6.at_ L;generalize v++[MO.lst (J.map gJ)]=s6 at *;clear k2 k4 k5 kv hp1 l hp4 hp5 hv x6;let C:∀j,sF h j->(fD h j).length<=500:=λj gj=>by have:=(CL I gj).1;ext
 refine JW I C L (λi N R nd s7 st hN hf hRl hR g7 _ x7=>?_) (λi x s7 st G cy x7=>?_)
 ·let H:∀x∈fD h i,∀k∈e_ h x,iG h x k∈fD h i:=λx G k hk=>Ia hh st G hk;let Y:∀x∈fD h i,¬ TS (Ba h) x x:=λx G=>hf.none_ G;let hb:=NU (h:=h) i hr;simp![↓BM,dA,eX];refine NL I C λO o s8 g fo U=>?_;cases st.uniq g;cases o with
  |some p=>
   let⟨f,w⟩:=p;let⟨f1,f2,f3,f4⟩:=fo;exact bo (Jt H f1 (Zx f4 f3)) (Y _ (a_ _))
  |none=>
   unfold GO;simp![↓Wn,↓Lj,↓Qpd];let v:N (nj h row)<=324:=by let⟨j,hj⟩:=aN.mp (hf.1 _ hb);have:=Qpg hf hR hN j _ hj;have:=(ae.mp hj).1;have:=(CL I st.1).1;ext
   refine XD I st ((x7.trans U).at_ t0) Y hN hb v (U.at_ g7) ((x7.trans U).at_ g6) λB u=>?_;let c:=U.trans u;simp![↓BM,dA,eX];refine JW I C ((x7.trans c).at_ L) (λO N' R' nd' sa g l _ _ _ ga _ xa=>?_) (λO x sa g G cy xa=>?_)
   ·cases st.uniq g;let e:(sO (fD h i) λx=>.int (N' x:Nat))=sO (fD h i) λx=>.int (N x:Nat):=by unfold sO;exact dP λx G=>by dsimp only;rw[uJ.uniq hf hR hN l x G]
    rw[e]at ga;let q:=λQ=>@Zd sa Q (fD h i) nd' nd N ga ((c.trans xa).at_ g7);simp![↓q];exact hQ _
   ·cases st.uniq g;exact bo (Jt H G cy) (Y _ (a_ _))
 ·let H:∀x∈fD h i,∀k∈e_ h x,iG h x k∈fD h i:=λx G k hk=>Ia hh st G hk;let ts:=Jt H G cy;let hm:=a_ G;simp![↓BM,dA,eX];refine NL I C λO o s8 g fo U=>?_;cases st.uniq g;cases o with|none=>exact bo cy (fo x G)|some p=>
   let⟨f,w⟩:=p;let⟨f1,f2,f3,f4⟩:=fo;let l:=af f1;let eR:GO (fD h i) (some (f,w))=.tup [eW (fD h i)[f],.tup (w.map gJ)]:=by unfold GO;dsimp only;rw[l];rfl
   rw[eR];let hs:=(z0 hh i).2 _ (a_ f1);let⟨w1,w2⟩:=Qpa H f4 l l;let fm:=a_ f1;generalize (fD h i)[f]=B at *;let qb:∀(Q:D->aV->Prop)s,wp (aZ (ki h) (.int 0)) Q s=Q (.tup (h.boards.map tm)) s:=λQ s=>c6 rfl;let b7:=hh.1;let hb:=wx (show h.boards.length<=100 by ext);let c7:h.boards.length<=fK:=iB ();simp![↓D9,↓Og,↓Lj,↓qb,ag,hb,uj,bA,l_,c7,ii];refine Dn (λj E v=>E=bw j (.bl true)/\eD s8 v) (λ_ _ _ _=>trivial) ⟨rfl,eD.refl _⟩ (λR j E v up hj z=>?_) (λE v z=>?_)
   ·simp![↓BM,dA,eX];refine P_ I C (((x7.trans U).trans z.2).at_ t0) (λO M u g _ Y J=>?_) (λO c u g _ _ J=>?_)
    ·cases st.uniq g;exact bo ts (Y _ hm)
    ·simp![↓D9];exact up ⟨by rw[z.1];exact xg.symm,z.2.trans J⟩
   let⟨rfl,xv⟩:=z;simp![↓Qe,↓BM,dA,eX]
   (simp![jP];simp![j7])
   refine I0 I C λO Y nd ns' rs sa g ga _ _ _ _ _ xa=>?_;cases st.uniq g;let qn:=λQ=>@UH sa Q (fD h i) B Y ga fm;simp![↓qn,ag];let wl:0 < w.length:=xW.mpr f3;rw[az (by simp;ext)];refine Uu hh hs (λt ht=>by let⟨a,ha⟩:=aN.mp ht;exact xE (w2 a t ha)) () λsb q xb=>?_;simp![↓Vt,↓eV q,ii];refine⟨iB (by rw[hU,ag];ext),?_⟩;refine YV hh hs w2 () q λsc xc=>?_;let e0:mV h B w (w.length+1)=mV h B w w.length++[eW B]:=by have:mV h B w (w.length+1)=mV h B w w.length++[eW (n5 h B (w.take w.length))]:=z6;rw[this,d9,w1]
   let ql:∀(Q:D->aV->Prop)s,wp (cL (mV h B w (w.length+1)) (-1)) Q s=Q (eW B) s:=λQ s=>by rw[e0];exact GK
   let qe:∀(Q:D->aV->Prop)s,wp (oo (eW B) (eW B)) Q s=Q (.bl true) s:=λQ s=>SF UB ();simp![↓Qe,↓eV (xc.at_ q),↓ql,↓qe,↓BM,dA,eX];refine JW I C (((((((x7.trans U).trans xv).trans xa).trans xb).trans xc)).at_ L) (λO N' R' nd' sd g _ c _ _ _ _ _=>?_) (λO x sd g _ _ _=>?_)
   ·cases st.uniq g;exact bo ts (c.none_ hm)
   ·simp![↓D9];exact hQ _
def Qpi{α:Type}{m:M α}{v:α}(h:wp m (λa _=>a=v) s):∃c,m s=.ok v c:=by
 rw[sN]at h;cases e:m s with|ok a c=>rw[e]at h;exact⟨c,by rw[show a=v from h]⟩|exc _ _=>rw[e]at h;exact h.elim|bad=>rw[e]at h;exact h.elim
def yT(c:List Int)(h:c.length<=63):∃g,j5 [.lit (c.map D.int)] tS=.ok (.bl true) g:=Qpi (m:=j5 [.lit (c.map D.int)]) (v:=.bl true) (s:=tS) (VC c h tS rfl rfl (λa _=>a=.bl true) λ_=>rfl)
end
open PySem PySem.Spec PyProof.Rows L2
def Nu{l:yL}{J:bR->bN->Prop}{d:DefRec}{K:Params->ai}(U:l.most=some 63)(I:d.params.defaults=[])(G:d.name="law")(ts:List (ak×Str×Str))(H:(ts.map (·.1)).Nodup)(E:(ts.map λp=>MO.tbl p.2.1 p.2.2)=tS)(C:∀(w:bR),∀p∈ts,TabOf (K w.params) p.2.1 p.1/\(K w.params).lookup p.1=none) (hY:∀(w:bR)(h:bN),J w h->(K w.params).In h/\∀P∈ts.map (·.1),h.get? P=some (fj #[])) (F:∀(w:bR)(mg:Str->Option ah)(h:bN),(K w.params).In h->h.Ns cW mg->Txt (K w.params) mg):Al q c XP J l.row.toRowW d [] (λf O=>xN f O):=by
 refine UD (n:=63) (k:=9) (x:="_law_script") (g:=j5) ts U (by decide) I ⟨rfl,by decide,by decide⟩ hY H C (λw mg fa h B v o=>?_) (λv Y=>by rw[E];exact yT v Y);let T:=F w mg h B v;let⟨a,fd,L,m⟩:=T.f41;rw[G,m]at o;cases o;refine⟨fd,λs u=>?_,λbase hB=>yx L T hB⟩;let⟨oc,od,kV,doc,pm,an,cdv,ct,Q,e,lk,hcd⟩:=L.ex;rw[e];exact .of_eq rfl
end My
noncomputable def PySem.W.Fast.tw12153168566685660270:PySem.Program:=PySem.Challenge.pw_pactboards_k32_whole_numbers_or_a_round
theorem PySem.W.Fast.te12153168566685660270:PySem.Challenge.pw_pactboards_k32_whole_numbers_or_a_round=PySem.W.Fast.tw12153168566685660270:=rfl
namespace PySem.W.Fast
def tw17310996927615956575:=0
def tw1259742246292098797:=0
def tw572982872822474874:=0
def tw13976980172317699626:=0
def tw11467318861355898439:=0
def tw16133383980013649688:=0
def tw16273845686059419628:=0
def tw1208084363045579829:=0
def tw2363702144646942993:=0
def tw13834710653220135354:=0
def tw15337412904011312665:=0
def tw12036643115718374148:=0
def tw12022418272752923434:=0
def tw16390339283104447870:=0
def tw14180403588095683379:=0
def tw4672648974483322635:=0
def tw18083630338371626527:=0
def tw12834989937906541002:=0
def tw9974918833451137163:=0
def tw4008180063087893468:=0
def tw4154289031353199978:=0
def tw11466494979974990027:=0
def tw16647851750469305295:=0
def tw10743108903213289772:=0
def tw1510258253255322850:=0
def tw9464077712183247137:=0
def tw7313317290461234164:=0
def tw4744388625294639911:=0
def tw2455594640809678172:=0
def tw8646665106868941072:=0
def tw683052629816214962:=0
def tw7863261196582496688:=0
def tw13646907024392741145:=0
def tw5751008989577773004:=0
def tw14321525349760884535:=0
def tw13206153359270023336:=0
def tw7335594450110188361:=0
def tw17682330980953859339:=0
def tw2925015228837587630:=0
def tw10600619865645793696:=0
def tw17060463250476500921:=0
def tw9089352866422073279:=0
def tw12436259324777376324:=0
def tw16646814768168276010:=0
def tw14197266733679517195:=0
def tw13006689858267840691:=0
def tw2160650652646444591:=0
def tw7854264657393205097:=0
def tw2498777933563682053:=0
def tw10912999181915266305:=0
def tw3691163125571687241:=0
def tw7077210687084359567:=0
def tw4401820718058105402:=0
def tw17628744754872171470:=0
def tw4784299140052318737:=0
def tw828769910870987928:=0
def tw10782450060215795313:=0
def tw15277613997012186072:=0
def tw5195748443322225909:=0
def tw12827069429107621773:=0
def tw8378388518887865073:=0
def tw3606853452758948967:=0
def tw17263669291644933765:=0
def tw6524264733262749665:=0
def tw10769688280092793475:=0
def tw17675135536040568257:=0
def tw1576134412428205007:=0
def tw8308303475376672328:=0
def tw12722289158306484280:=0
def tw853167437273257037:=0
def tw14319238862865136644:=0
def tw7743745886760823141:=0
def tw8643127392301110218:=0
def tw8372689615774226036:=0
def tw14527652397623530200:=0
def tw15812450247062600132:=0
def tw10847921909968016795:=0
def tw6612764902367506009:=0
def tw230323093334126274:=0
def tw5886398332642572064:=0
def tw14874032782631810072:=0
def tw11854564076319390852:=0
def tw13324925778541149717:=0
def tw6523765073071274287:=0
def tw4366503882979312:=0
def tw13090859197202905122:=0
def tw16734546197499282087:=0
def tw16959944203286518954:=0
def tw14990083052534243965:=0
def tw12896441153375054733:=0
def tw9343201288188284803:=0
def tw13167062115586160616:=0
def tw8526533583875563880:=0
def tw8550023572126211016:=0
def tw16811559584434888434:=0
def tw4684954197550607448:=0
def tw17366007321644092699:=0
def tw2659178522428189498:=0
def tw16170172628892592041:=0
def tw10375992162359649615:=0
def tw647946291230615904:=0
def tw17024932278599799435:=0
def tw15542216807708251359:=0
def tw2022133835228510383:=0
def tw4003817293250485641:=0
def tw15864757985299438107:=0
def tw16951370857924199361:=0
def tw486453399619536434:=0
def tw18331249111703024428:=0
def tw2862819345194801339:=0
def tw9428265184511465799:=0
def tw17113909664410292116:=0
def tw1455820548238905734:=0
def tw1283537503609247282:=0
def tw3374208385310737459:=0
def tw6844999387019294292:=0
def tw2720238930023726555:=0
def tw6490241104761036290:=0
def tw1806075060406953603:=0
def tw11148058287358876080:=0
def tw18129741919187821918:=0
def tw4493243208299875953:=0
def tw1915577765582355570:=0
def tw17072551654893708410:=0
def tw516883212314109663:=0
def tw15834614548204746266:=0
def tw11956444970197790969:=0
def tw6331766778246322740:=0
def tw15663313679100005704:=0
def tw12608166859722247003:=0
def tw9600752706192050718:=0
def tw5925916084681589051:=0
def tw6750238697017855108:=0
def tw12568609141450984137:=0
def tw4666896192900954277:=0
def tw13538039265224910659:=0
def tw17379481991610943909:=0
def tw8959869364146205528:=0
def tw15379282479771422614:=0
def tw8267090100321468713:=0
def tw6535298883734712780:=0
def tw1195150418610490012:=0
def tw9268338083930454942:=0
def tw15856481819465489336:=0
def tw7646402646455959969:=0
def tw7084876503809652394:=0
def tw14053791702932986853:=0
def tw2151558378622170569:=0
def tw12850939505700237183:=0
def tw10513052165858451233:=0
end PySem.W.Fast
open PySem PySem.W PyProof.Rows
set_option maxHeartbeats 0 in
theorem PySem.Challenge.cw_pactboards_k32_whole_numbers_or_a_round_holds : PySem.Challenge.rw_pactboards_k32_whole_numbers_or_a_round.Holds := by
 w_on;o_law;k_head;(case hw=>w_witness2)
 k_fill
 refine My.Nu (l:=PySem.Challenge.rw_pactboards_k32_whole_numbers_or_a_round) rfl rfl rfl [(240,"most_deeds","worth"),(202,"graph_numbers","<lambda>")] (by decide) rfl ?T (λw h Y=>⟨PySem.W.km_in_of Y,PySem.W.km_tabs_of Y⟩) ?F
 case T=>
  intro w p hp;simp only[aX,cO,or_false]at hp;rcases hp with rfl|rfl<;>(refine' MM.B3 ?a ?b ?c ?d ?e;(case a|b=>k_is);(case c=>rfl);(case d|e=>kernel_rfl))
 case F=>
  intro w mg h KX G;constructor
  case f12=>refine' MM.BB (P:=240) KX G ?u ?v ?x ?y ?t;(case u|v|x|y=>k_is);(case t=>kernel_rfl)
  case f30=>refine' MM.BB (P:=202) KX G ?u ?v ?x ?y ?t;(case u|v|x|y=>k_is);(case t=>kernel_rfl)
  all_goals first|(refine' MM.Mu KX G ?u ?v ?x ?y;(case u|v|x|y=>k_is))|(refine' MM.Hg KX G ?u ?v ?x ?y ?t;(case u|v|x|y|t=>k_is))|exact MM.Fo|(repeat' first|exact MM.HU|refine' MM.CH (PySem.W.mg_none_of KX G ?_) ?_|k_is)