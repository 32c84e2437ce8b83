import PyProof.Rows.All
import Wide.All
import OpenK.AllK
import Wide.FinOn
import PySem.Challenge.RW_pactboards_k89_whole_a_hand_left_out
local macro_rules|`(tactic| nofun)=>`(tactic| decide +kernel)
local macro_rules|`(tactic| ext)=>`(tactic| first|lia|omega)
local macro_rules|`(())=>`(by ext)
open Lean in
local macro_rules|`(tactic| let $d:letDecl)=>do
 let rec p:Nat->Syntax->MacroM (TSyntax `rcasesPat)|0,_=>Macro.throwUnsupported|n+1,t=>do match t with
  |`(⟨$a,*⟩)=>`(rcasesPat| ⟨$(← a.getElems.mapM λx=>do `(Parser.Tactic.rcasesPatLo| $(← p n x):rcasesPat)),*⟩)
  |`(_)=>`(rcasesPat| _)
  |_=>`(rcasesPat| $(⟨t⟩):ident)
 if d.raw[0].isOfKind ``Parser.Term.letPatDecl then `(tactic| obtain $(← p 9 d.raw[0][0]):rcasesPat:=$(⟨d.raw[0][4]⟩))else`(tactic| have $d:letDecl)
set_option autoImplicit true
set_option relaxedAutoImplicit true
set_option compiler.extract_closed false
set_option genSizeOf false
set_option Elab.async false
set_option linter.all false
set_option maxRecDepth 100000
set_option maxHeartbeats 4000000
open And renaming intro->aJ
open Array renaming ext'->HC,forIn_toList->i6,getElem?_eq_getElem->mQ,getElem?_eq_none->kA,getElem?_toList->fu,length_toList->fG,toList->Df
open Bool renaming and_eq_true->bv,decide_and->oq,eq_false_iff->zw,eq_iff_iff->sH,false_and->tR,false_eq_true->aK,false_ne_true->bE,false_or->Dk,not_eq_true'->zt,not_false->fO,not_true->dS,or_eq_false_iff->wA,or_eq_true->lI
open Classical renaming byContradiction->iu,choose->ky,propDecidable->sI
open False renaming elim->c9
open ForInStep renaming yield->m6
open Int renaming emod_lt_of_pos->kj,emod_nonneg->lS,le_antisymm->Bp,le_trans->HB,toNat_natCast->bC,toNat_of_nonneg->gN
open List renaming all_cons->cE,all_eq_true->dW,all_map->D8,any_cons->eU,any_eq_false->qX,any_eq_true->iI,any_map->vn,append_assoc->br,append_nil->bu,concat_eq_append->oF,cons_append->kY,dropLast_concat->wH,dropLast_eq_take->vU,drop_drop->Bw,drop_eq_getElem_cons->dZ,drop_length->zK,drop_zero->mz,eq_nil_or_concat->oE,ext_getElem?->eW,filterMap_cons->px,filter_append->mE,find?_cons->c5,flatMap_append->xC,flatMap_cons->qV,flatten_cons->zm,foldl_append->m5,foldl_cons->AM,forIn_cons->i7,forIn_nil->mB,getD_eq_getElem?_getD->eY,getElem?_append_left->ao,getElem?_append_right->aE,getElem?_cons_zero->nK,getElem?_drop->mD,getElem?_eq_getElem->ae,getElem?_eq_none->bX,getElem?_eq_some_iff->ac,getElem?_inj->eX,getElem?_map->av,getElem?_mapIdx->wB,getElem?_of_mem->lB,getElem?_range->lR,getElem?_replicate->fD,getElem?_reverse->oA,getElem?_set_ne->aB,getElem?_set_self->aF,getElem?_take_of_lt->cj,getElem?_zipWith->d9,getElem_map->kZ,getElem_mem->bo,getElem_toArray->fY,getLast?_concat->wG,idxOf_cons->lJ,idxOf_lt_length_iff->fB,isEmpty_iff->iK,length->d7,length_append->aC,length_cons->b8,length_drop->gK,length_dropLast->ww,length_filter_le->oD,length_map->af,length_nil->fU,length_replicate->fw,length_reverse->gG,length_set->dq,length_singleton->kU,length_take->bB,length_zipWith->iQ,lookup->Hz,lookup_cons->kX,lookup_cons_self->vY,map->Bt,map_append->bw,map_congr_left->cJ,map_cons->aV,map_map->iH,map_nil->lV,map_set->vo,mem_append->aP,mem_append_left->bz,mem_append_right->bn,mem_cons->aR,mem_cons_of_mem->bO,mem_cons_self->cP,mem_filter->ig,mem_filterMap->my,mem_flatMap->nM,mem_iff_getElem?->aQ,mem_map->bH,mem_map_of_mem->iR,mem_of_getElem?->ax,mem_of_mem_take->lD,mem_range->bY,mem_singleton->aA,nil_append->sK,nodup_append->c7,nodup_cons->lG,nodup_nil->tY,not_mem_nil->cI,of_mem_zip->lH,range->bT,range'->HE,range_succ->ij,range_succ_eq_map->nW,replicate->bQ,replicate_succ->lO,reverse_cons->fX,set_append_right->v7,set_getElem_self->v8,set_set->Ec,size_toArray->aI,sum_append->ou,sum_cons->lw,sum_nil->qW,take_left'->sL,take_length->eK,take_of_length_le->g_,take_sublist->zc,take_succ->mF,take_succ_eq_append_getElem->kF,zipIdx_cons->zM,zipIdx_nil->AS
open List.Pairwise renaming nil->tT
open List.cons renaming inj->oC
open Nat renaming add_assoc->pY,add_zero->HA,div_eq_of_lt->AW,le_max_left->Bs,le_max_right->AV,le_of_eq->Hv,le_of_lt->f_,le_of_not_lt->sw,le_refl->aw,le_succ->I0,le_trans->cW,le_zero->xB,lt_irrefl->cM,lt_of_le_of_lt->zu,lt_of_lt_of_le->bb,lt_of_sub_eq_succ->wC,lt_succ_of_lt->m7,lt_succ_self->iN,lt_trans->om,lt_trichotomy->rD,min_eq_left->oB,mul_add_div->Bu,mul_assoc->ve,mul_comm->rA,mul_le_mul->Ds,ne_of_gt->dk,ne_of_lt->ba,not_lt_zero->tq,pow_succ->rC,strongRecOn->tx,sub_self->eE,sub_zero->rB,zero_add->HF,zero_le->bU
open Nat.succ renaming inj->lC
open Ne renaming symm->ff
open Option renaming bind_eq_some_iff->m9,getD_none->qR,getD_some->iC,isNone_none->pz,isNone_some->wF,isSome_iff_exists->iP,isSome_map->pX,isSome_none->gX,isSome_some->gW,map_eq_some_iff->ck,map_some->dR
open Option.some renaming inj->aM
open PyProof.Rows renaming AllBare->lT,IntsAre->lU,IsTup->xO,Subscript_->Di,args_tuple_getitem->Dh,callWith_type1->cw,entry_tuple_getitem->Bm,envOfC->oh,kmb_tree->sA,slot_tuple_getitem->dM,subscriptTail->xo,subscriptTail_builtinR->zj,tail_any->AK,wpAny_notIn_heap->Hw
open PyProof.Rows.IntsAre renaming length->zr
open PySem renaming Addr->ak,Arguments->iB,Around->bI,BindsTo->sU,CmpOp->uB,DictEntry->kP,Expr->xr,FuncData->dm,Heap->bK,HeapKind->qx,InCallC->pi,IsItemIter->iY,IsItemIterOut->xz,IsPair->fv,IsPart->qu,IsTupleKey->Dm,IsZip->ma,ItemsOf->D_,Keyword->i5,Model->DZ,NameKind->dG,Operator->qp,Paired->eZ,PassesOwn->uq,Result->Dg,Scope->du,Shared->am,Spec->dL,Stmt->Hy,TriplesOk->oQ,Value->ag,World->bM,ZipApart->nC,argBest->nV,assign->pf,assignEach->dX,atKey->l_,atKey_none_of_get->D6,atKey_of_get->s_,attributeBase->dY,attributeErrorLeaves->AY,backToKw->qw,behindInMarks->kr,binaryOp->fH,bindArgs->gE,bindC->qt,bindL->qr,bindSpecial->uG,bootBuiltins->cZ,builtinLookup_eq_fast->iF,builtinsNs->nv,cLine->cS,call->xq,callType_codes->vZ,call_meets->su,call_meetsIn->zn,call_reversed_list->Dq,callerA->lW,cellsFrom->bR,closureFor->ny,codeAmong->lQ,codeAny->iG,codeAny_builtin->eQ,codeAny_call_function->zI,codeAny_mono->lc,collect->Br,compareOp->dH,concat_meets->zi,defaultsOf->Dp,dictSet->D5,dictSetDefault->vX,entryOfKey->pe,entry_at->AT,eqIsQuiet->qS,eqIsQuiet_byValue->D4,evalArgs_none->wv,evalPart_none->xn,field->qz,firstArgMember->lj,foldedSetIterable->fL,getAttr?->AX,getItem->nU,getattributeRaised->nE,holding->k_,intItems->vT,intItems_at->AN,intKind->qP,isInstance->Dn,isSubtype_stop->nD,isSubtype_tuple_tuple->pS,isSubtype_type->vW,keywordEach->l9,kt_code_dict_new->HD,letOwnedTupleGo->py,mainGlobals->cO,mem_of_lookup->a_,model->aY,name_of_addr->y_,newExc->zp,newFunctionEnv->qy,noFill_tuple_add->ur,not_mem_keys_of_get->Bn,numAt->oR,numAt_eq->AO,plainId_quiet->fm,pushCells->xT,pushCells_keeps->mN,putAt->uE,pyIter->y0,pyNext->ic,rawInt->dP,relabel->kE,release->D1,seqIndex_neg->sW,seqIndex_of->uC,seqItems?->i9,seq_tuple_add->xm,setField->AU,setItem->ph,sizeLine_eq->kN,size_of_entries->iA,sliceBounds->fP,slicePick->xQ,slot_list_getitem->sX,spliced->sS,standAt->yZ,storeName->qQ,storedH->lX,swapsWith->kM,sysModules->cH,tupleKind->uo,tupleKind_room_in1->sx,typeLookup->iW,typeLookup_type->mP,typeOf->Dj,unaryOp->D2,valueAt->sZ,wpAny->aG,wpAny_Call_Name_kw->dJ,wpAny_Call_method0_late->xR,wpAny_Call_method_late->zl,wpAny_Dict_empty->Hx,wpAny_Name->De,wpAny_assign_Name->D0,wpAny_attempt->gR,wpAny_bind->ab,wpAny_call->vQ,wpAny_callSpecial?_slot->bN,wpAny_call_entry->b_,wpAny_dictEntries->dD,wpAny_dictEpoch->gC,wpAny_dictFind_heap->rm,wpAny_eqBool_int->um,wpAny_execs_cons->Ht,wpAny_execs_nil->u8,wpAny_field->cD,wpAny_fieldsOf->qB,wpAny_forIn_list->lP,wpAny_getItem_heap->Dl,wpAny_getItem_list_neg->zk,wpAny_getItem_list_slice->xp,wpAny_handled->xt,wpAny_holding->bV,wpAny_isInstance->dN,wpAny_isOneOf_itemiter->pk,wpAny_isOneOf_keyiter->zN,wpAny_letGo->iX,wpAny_loadName_cell->Bl,wpAny_loadName_local->AJ,wpAny_loadPart'->kC,wpAny_mono->fM,wpAny_newFunctionEnv_cells->vS,wpAny_newObj_type->b9,wpAny_newTuple->vV,wpAny_nextOf_list_end->pT,wpAny_nextOf_list_item->lv,wpAny_notOrdered_dict->iE,wpAny_of_eq->nX,wpAny_onRaise->rL,wpAny_passesOwn->iz,wpAny_pure->ai,wpAny_pyHash_int->Hq,wpAny_pyIter_enum->D9,wpAny_pyIter_list->fK,wpAny_pyIter_revIter->qC,wpAny_pyIter_slot->Ea,wpAny_pyIter_tuple->nA,wpAny_pyIter_zip->uv,wpAny_pyNext_list_end->zH,wpAny_pyNext_list_item->y9,wpAny_ret_mkInt->IZ,wpAny_richCompare_same_room->vk,wpAny_rule->fV,wpAny_seqItems->dg,wpAny_sequenceKey->sV,wpAny_setField->nB,wpAny_setField_rec->dj,wpAny_specialOf->kD,wpAny_standAt->xl,wpAny_storeName_cell->AI,wpAny_storeName_local->zG,wpAny_throw->AQ,wpAny_truthy_bool->fJ,wpAny_tryCatch->iZ,wpAny_tupleItemsOf->sy,wpAny_typeNameOfWhole_itemiter->ie,wpAny_typeNameOfWhole_keyiter->iq,wpAny_typeNameOf_itemiter->i_,wpAny_typeNameOf_keyiter->kz,wpAny_typeOf->gF,wpAny_updateDictKeys->AL,wpAny_updateSeq->u_,wpAny_updateSeq_pair->qA
open PySem.Around renaming frames_deeper->vh,under_plainId->c6
open PySem.Builtin.Builtins renaming bindParams->gA
open PySem.Builtin.Dict renaming dictSlotArgs->qF,pairItems->rM,samePairs->rN,showsAll->gM
open PySem.Builtin.Dict_items renaming ownedTupleFields->mR,ownedTupleIsFree->mT,ownsTuple->fj,pairFromOwner->m8
open PySem.Builtin.List renaming listExtendWith->pV,listLengthHint->pU,listSameRef->qU
open PySem.Builtin.Slice renaming sliceAdjust->lg,sliceApplied->pR,slicePlaces->ii
open PySem.Builtin.SmallTypes renaming nextOf->bF,ownedTupleHandOut->mC,ownedTupleIsFree->cf
open PySem.Builtin.Tuple renaming tupleExact->e8,tupleHashOf->dQ,tupleItemsOf->kT
open PySem.Calls renaming Name_function_global->sT,callWith_builtin->kt,evalArgs_plain->oP,spliced_cons->g9,spliced_nil->ip
open PySem.Challenge renaming pw_pactboards_k89_whole_a_hand_left_out->j_
open PySem.Data renaming fields->Hu
open PySem.F renaming args_dict_init_2->AZ,args_dict_itemiterator_next_1->sJ,args_dict_keyiterator_next_1->tj,args_tuple_add_2->mM,args_tuple_iterator_next_1->uu,args_zip_next_1->nJ,entry_dict_init->Bx,entry_dict_itemiterator_next->tw,entry_dict_keyiterator_next->tU,entry_max->wE,entry_max_loop->ki,entry_tuple_add->mX,entry_tuple_iterator_next->uF,entry_zip_next->ot,kind_max->xA,kt_called_dict->Dr,plainAttrs_dict->Bq,plainAttrs_list->mY,plain_list_iadd->tV,plain_max->wD,plain_max_loop->dA,plain_tuple_new->tW,slot_dict_itemiterator_next->ik,slot_dict_items->Bv,slot_dict_items_iter->xy,slot_dict_iter->Do,slot_dict_keyiterator_next->ir,slot_dict_len->D7,slot_dict_ne->vc,slot_dict_setdefault->xw,slot_dict_setitem->zJ,slot_enumerate_next->xW,slot_list_index->tX,slot_tuple_add->nw,slot_tuple_eq->oZ,slot_tuple_hash->nI,slot_tuple_iterator_next->iO,slot_zip_next->gj
open PySem.Heap renaming ExtBut->mZ,SameBut->cR,get?_push_of_some->aj,get?_push_size->ay,get?_update_other->dC,get?_update_self->cT,lt_size->aL,size_push->cA
open PySem.Heap.DictOfH renaming new->o0
open PySem.Heap.IsSliceOf renaming new->sG
open PySem.Heap.Ns renaming new->Bo
open PySem.Heap.SameBut renaming update->cG
open PySem.NameKind renaming cell->fI,free->bG
open PySem.Obj renaming cls_mapFields->zL,data_mapDict->nR,data_mapDictKeys->eM,data_mapFields->mO,isFreed_of_dict->gL,isFreed_of_fields->wx,mapFields->Eb,mapSeq->qv
open PySem.Paired renaming length->cV,snoc->oz
open PySem.PassesOwn renaming never->iJ
open PySem.ScopeKind renaming function->u9
open PySem.SeqAt renaming EqAt->sY
open PySem.SeqAt.EqAt renaming int_int->uD,int_str->uz,str_int->uA
open PySem.Shared renaming TypeIs->kW,heap->vm
open PySem.Str renaming ofString->az
open PySem.Value renaming bool->dB,builtin->ut,int->kS,isInt->rK,isStrOf->Bk,none->cB,ref->bD,str->rj,type->Hr
open PySem.Value.type renaming inj->wz
open PySem.W renaming Frag->ah,KasT->AR,KatTups->xV,OpenLaw->xX,WalkO->zO,callWith_K->vR,cellsFrom_some->gQ,codeHdIn->eB,codeHd_of_K->oT,codeIn->gz,fnOf->cC,fnX->qT,kas_sort->m4,kat_nil->xU,keepIn->di,kla_fn->oo,kla_obj->xS,methodObj->pQ,mg_of->tm,nsIn->fR,tabObj->eS
open PySem.W.WData renaming int->IY
open PySem.W.WShape renaming has->D3
open PySem.Walks renaming list->tf
open Sum renaming inl->lZ,inr->rh
open True renaming intro->gi
noncomputable section
noncomputable def aH:=@if_pos
noncomputable def aD:=@if_neg
noncomputable def bc:=@decide_eq_false
noncomputable def cz:=@decide_eq_true
noncomputable def bh:=@absurd
noncomputable def c_:=@congrArg
namespace L2
open PySem PySem.Spec PyProof.Rows
noncomputable abbrev Key:=Sum Int Str
def tF:Key->ag->Bool
 | .inl k,v=>rK k v| .inr x,v=>Bk x v
def Lk(w:bM):Key->Int
 | .inl k=>hashInt k| .inr x=>hashStr w x
theorem fQ:∀{k:Key}{v:ag},tF k v=true->(∃i t,k=lZ i/\v=kS i t)\/(∃x t,k=rh x/\v=rj x t)
 | .inl i,v,h=>by let⟨t,e⟩:=ag.isInt_shape (k:=i) (v:=v) h;exact .inl ⟨i,t,rfl,e⟩| .inr x,v,h=>by let⟨t,e⟩:=ag.isStrOf_shape (x:=x) (v:=v) h;exact .inr ⟨x,t,rfl,e⟩
def Sm(i:Int)(t:Tok):tF (.inl i) (.int i t)=true:=by simp[tF,rK]
def Xn(x:Str)(t:Tok):tF (.inr x) (.str x t)=true:=by simp[tF,Bk]
def Qac(a b:Int):decide ((lZ a:Key)=lZ b)=(a == b):=by
 by_cases e:a=b
 ·subst e;simp
 ·let h:¬ (lZ a:Key)=lZ b:=λq=>e (lZ.inj q);rw[bc h];exact (beq_eq_false_iff_ne.mpr e).symm
def Yk(a b:Str):decide ((rh a:Key)=rh b)=decide (a=b):=by
 by_cases e:a=b
 ·subst e;simp
 ·let h:¬ (rh a:Key)=rh b:=λq=>e (rh.inj q);rw[bc h,bc e]
def Yr(a:Int)(b:Str):decide ((lZ a:Key)=rh b)=false:=bc nofun
def Wf(a:Str)(b:Int):decide ((rh a:Key)=lZ b)=false:=bc nofun
def gh(prog:Program)(w:bM):PySem.KeyKind prog w Key where
 is:=tF
 hash:=Lk w
 inj:=λv a b l g=>by
  rcases fQ l with ⟨i,t,rfl,rfl⟩|⟨x,t,rfl,rfl⟩
  ·rcases fQ g with ⟨j,u,rfl,e⟩|⟨y,u,rfl,e⟩
   ·injection e with e1 _;rw[e1]
   ·exact nomatch e
  ·rcases fQ g with ⟨j,u,rfl,e⟩|⟨y,u,rfl,e⟩
   ·exact nomatch e
   ·injection e with e1 _;rw[e1]
 byValue:=λk v h=>by rcases fQ h with ⟨i,t,rfl,rfl⟩|⟨x,t,rfl,rfl⟩<;>rfl
 pyHash:=λc h=>by
  rcases fQ c with ⟨i,t,rfl,rfl⟩|⟨x,t,rfl,rfl⟩
  ·exact Hq h
  ·exact wpAny_pyHash_str h
 eqBool:=λhu c h=>by
  rcases fQ hu with ⟨i,t,rfl,rfl⟩|⟨x,t,rfl,rfl⟩
  ·rcases fQ c with ⟨j,u,rfl,rfl⟩|⟨y,u,rfl,rfl⟩
   ·rw[Qac]at h;exact um h
   ·rw[Yr]at h;exact uz i t y u _ _ _ _ h
  ·rcases fQ c with ⟨j,u,rfl,rfl⟩|⟨y,u,rfl,rfl⟩
   ·rw[Wf]at h;exact uA x t j u _ _ _ _ h
   ·rw[Yk]at h;exact wpAny_eqBool_str h
 «strs»:=λk x t v h=>by
  rcases fQ h with ⟨i,u,rfl,e⟩|⟨y,u,rfl,e⟩
  ·exact nomatch e
  ·injection e with e1 _
   subst e1;cases v<;>rfl
def Xo(prog:Program)(w:bM)(i:Int)(t:Tok):(gh prog w).is (.inl i) (.int i t)=true:=Sm i t
def Wo(prog:Program)(w:bM)(x:Str)(t:Tok):(gh prog w).is (.inr x) (.str x t)=true:=Xn x t
inductive V where
 |non|bl (b:Bool)|int (i:Int)|str (x:Str)|byt (b:Array UInt8)|flt (b:UInt64)|ref (a:ak)|ty (n:String)
 deriving DecidableEq
noncomputable def RelV:V->ag->Prop
 | .non,u=>u=cB| .bl b,u=>u=dB b| .int i,u=>∃t,u=kS i t| .str x,u=>∃t,u=rj x t| .byt b,u=>∃t,u=ag.bytes b t| .flt b,u=>∃t,u=ag.float b t| .ref a,u=>u=bD a| .ty n,u=>u=Hr n
abbrev cq:List V->List ag->Prop:=eZ RelV
theorem cq.length(r:cq xs c):xs.length=c.length:=cV r
theorem cq.get:∀{xs:List V}{c:List ag}{i:Nat}{x:V},cq xs c->xs[i]?=some x->∃u,c[i]?=some u/\RelV x u
 |_,_,_,_,.nil,e=>by simp at e|_,_,0,_,.cons r _,e=>by simp at e;subst e;exact⟨_,rfl,r⟩|_,_,i+1,x,.cons _ t,e=>by let⟨u,h,g⟩:=cq.get (i:=i) (x:=x) t (by simpa using e);exact⟨u,by simpa using h,g⟩
theorem cq.set(r:RelV x u):∀{xs:List V}{c:List ag}(i:Nat),cq xs c->cq (xs.set i x) (c.set i u)
 |_,_,_,.nil=>.nil|_,_,0,.cons _ t=>.cons r t|_,_,i+1,.cons q t=>.cons q (cq.set r i t)
theorem cq.append:∀{xs ys:List V}{c ws:List ag},cq xs c->cq ys ws->cq (xs++ys) (c++ws)
 |_,_,_,_,.nil,s=>s|_,_,_,_,.cons r t,s=>.cons r (cq.append t s)
theorem cq.take:∀{xs:List V}{c:List ag}(n:Nat),cq xs c->cq (xs.take n) (c.take n)
 |_,_,0,_=>.nil|_,_,_+1,.nil=>.nil|_,_,n+1,.cons r t=>.cons r (cq.take n t)
theorem cq.drop:∀{xs:List V}{c:List ag}(n:Nat),cq xs c->cq (xs.drop n) (c.drop n)
 |_,_,0,r=>r|_,_,_+1,.nil=>.nil|_,_,n+1,.cons _ t=>cq.drop n t
def rb:Option V->Option ag->Prop
 |some v,some u=>RelV v u|none,none=>True|_,_=>False
def KV{κ:Type}:List (κ×V)->List (κ×ag)->Prop:=eZ λ(p:κ×V)(q:κ×ag)=>p.1=q.1/\RelV p.2 q.2
def kV:Key->V
 | .inl i=>.int i| .inr x=>.str x
inductive HO where
 |lst (xs:List V)|tup (xs:List V)|dK (a6:List (Key×V))|dT (a6:List (List Key×V))
 |set (S:Int->Bool) (n:Nat)|ins (C dx:ak) (fs:List (Str×V))|own (x:ak)|xd (fs:List (Str×V))|met (f x:ak)|rng (lo hi:Int)|frz (o:Obj) (u:HO)|tbl (ps:Array ag)|ext (φ:bK->Prop)
noncomputable abbrev Hp:=ak->Option HO
noncomputable def fE(H:Hp)(a:ak)(o:HO):Hp:=λb=>if b=a then some o else H b
def kL:fE H a o a=some o:=by unfold fE;rw[aH rfl]
def fS(h:b≠a):fE H a o b=H b:=by unfold fE;rw[aD h]
def R6{H:Hp}(h:H a=some o)(h':H b=some u)(d:o≠u):a≠b:=by intro e;subst e;rw[h]at h';exact d (aM h')
def oJ{H:Hp}(h:H a=some o)(h':H b=none):a≠b:=by intro e;subst e;rw[h]at h';cases h'
def kJ(h:bK)(a:ak)(its:Array ag):Prop:=∃o,h.get? a=some o/\o.cls=.type "tuple"/\(∃n,o.data=.seq its n)/\o.dict=none
def kJ.is(p:kJ h a its):xO h a its:=let ⟨o,e,c,d,_⟩:=p;⟨o,e,c,d⟩
theorem kJ.lt(p:kJ h a its):a < h.objs.size:=p.is.lt
def kJ.new(h:bK)(its:Array ag):kJ (h.push { cls:=.type "tuple",data:=.seq its }) h.objs.size its:=⟨_,ay _ rfl,rfl,⟨_,rfl⟩,rfl⟩
section
variable(P:Program)(w:bM)
def gp(H:Hp)(h:bK)(a:ak):HO->Prop
 | .lst xs=>xs.length<=sizeLine/\∃(its:List ag)(n:Nat),cq xs its/\h.get? a=some { cls:=.type "list",data:=.seq its.toArray n }| .tup xs=>xs.length<=sizeLine/\∃its:List ag,cq xs its/\kJ h a its.toArray| .dK a6=>a6.length<=sizeLine/\(a == cH)=false/\∃g,KV a6 g/\h.DictOf (gh P w) a g
 | .dT a6 => a6.length <= sizeLine /\ (a == cH) = false /\ ∃xs : List (List Key×ak×ag),
   eZ (λ(p:List Key×V)(q:List Key×ak×ag)=>p.1=q.1/\H q.2.1=some (.tup (p.1.map kV))/\RelV p.2 q.2.2) a6 xs /\
   ∃o es ep,h.get? a=some o/\o.ExactDict/\o.data=.dict es ep/\es.toList=xs.map (pe (uo (gh P w)))/\(xs.map (·.1)).Nodup
 | .set S n=>h.SetOf (qP P w) a S n
 | .ins C dx fs => H dx = some (.own a) /\ fs.length <= 1000 /\ dx ≠ a /\ h.get? a = some (PySem.W.instObj C dx) /\
   ∃c,h.Ns1 dx c/\(∀f,rb (fs.lookup f) (c f))/\PySem.Within c (fs.map (·.1))
 | .own _=>∃o,h.get? a=some o| .xd fs=>∃c,h.Ns1 a c/\∀f,rb (fs.lookup f) (c f)| .rng lo hi=>∃t u v,h.get? a=some { cls:=.type "range",data:=.fields #[.int lo t,.int hi u,.int 1 v] }| .frz o u=>h.get? a=some o/\gp H h a u| .tbl ps=>h.get? a=some { cls:=.none,data:=.fields ps }| .met f x=>h.get? a=some (pQ (.ref f) (.ref x))| .ext φ=>φ h/\(∃o,h.get? a=some o)/\∀B l:bK,φ B->(∀o,B.get? a=some o->l.get? a=some o)->φ l
def nN(H:Hp)(h:bK):Prop:=∀a o,H a=some o->gp P w H h a o
end
section
variable{H H':Hp}{h h':bK}{a:ak}
theorem gp.lt(x:gp P w H h a o):a < h.objs.size:=by
 cases o with|lst xs=>let⟨_,_,_,_,e⟩:=x;exact aL e|tup xs=>let⟨_,_,_,p⟩:=x;exact p.lt|dK a6=>let⟨_,_,_,_,o,_,_,e,_⟩:=x;exact aL e|dT a6=>let⟨_,_,_,_,o,_,_,e,_⟩:=x;exact aL e|set S n=>let⟨o,_,_,_,e,_⟩:=x;exact aL e|ins C dx fs=>let⟨_,_,_,e,_⟩:=x;exact aL e|own y=>let⟨_,e⟩:=x;exact aL e|xd fs=>let⟨_,⟨_,_,_,e,_⟩,_⟩:=x;exact aL e|rng lo hi=>let⟨_,_,_,e⟩:=x;exact aL e|frz ob u=>let⟨e,_⟩:=x;exact aL e|tbl ps=>exact aL (show h.get? a=some _ from x)|met f y=>exact aL (show h.get? a=some _ from x)|ext φ=>let⟨_,⟨_,e⟩,_⟩:=x;exact aL e
theorem eZ.mapP{α β:Type}{F G:α->β->Prop}:∀{l₁:List α}{l₂:List β},eZ F l₁ l₂->(∀a b,F a b->G a b)->eZ G l₁ l₂
 |_,_,.nil,_=>.nil|_,_,.cons r t,f=>.cons (f _ _ r) (eZ.mapP t f)
def gp.stay(x:gp P w H h a o)(k:∀b u,(b=a\/H b=some (.own a))->h.get? b=some u->h'.get? b=some u)(I:∀b,H b=some (.own a)->H' b=some (.own a)) (G:∀b xs,H b=some (.tup xs)->H' b=some (.tup xs)):gp P w H' h' a o:=by
 induction o with
 |lst xs=>let⟨z,its,n,r,e⟩:=x;exact⟨z,its,n,r,k _ _ (.inl rfl) e⟩|tup xs=>let⟨z,its,r,g,e,c⟩:=x;exact⟨z,its,r,g,k _ _ (.inl rfl) e,c⟩|dK a6=>let⟨z,y,E,r,g,es,ep,e,c⟩:=x;exact⟨z,y,E,r,g,es,ep,k _ _ (.inl rfl) e,c⟩|dT a6=>
  let⟨z,y,xs,r,g,es,ep,e,c⟩:=x;exact⟨z,y,xs,eZ.mapP r λp q z=>⟨z.1,G _ _ z.2.1,z.2.2⟩,g,es,ep,k _ _ (.inl rfl) e,c⟩
 |set S n=>let⟨g,es,ep,t,e,c⟩:=x;exact⟨g,es,ep,t,k _ _ (.inl rfl) e,c⟩|ins C dx fs=>
  let⟨d,z,ne,e,B,⟨l,es,ep,J,c⟩,r⟩:=x;exact⟨I _ d,z,ne,k _ _ (.inl rfl) e,B,⟨l,es,ep,k _ _ (.inr d) J,c⟩,r⟩
 |own y=>let⟨g,e⟩:=x;exact⟨g,k _ _ (.inl rfl) e⟩|xd fs=>let⟨B,⟨l,es,ep,e,c⟩,r⟩:=x;exact⟨B,⟨l,es,ep,k _ _ (.inl rfl) e,c⟩,r⟩|rng lo hi=>let⟨t,u,v,e⟩:=x;exact⟨t,u,v,k _ _ (.inl rfl) e⟩|frz g u ih=>let⟨e,q⟩:=x;exact⟨k _ _ (.inl rfl) e,ih q⟩|tbl ps=>
  let e:h.get? a=some { cls:=.none,data:=.fields ps }:=x
  show h'.get? a=some { cls:=.none,data:=.fields ps };exact k a _ (.inl rfl) e
 |met f y=>
  let e:h.get? a=some (pQ (.ref f) (.ref y)):=x
  show h'.get? a=some (pQ (.ref f) (.ref y));exact k a _ (.inl rfl) e
 |ext φ=>let⟨p,⟨o,e⟩,st⟩:=x;exact⟨st _ _ p λo q=>k _ _ (.inl rfl) q,⟨o,k _ _ (.inl rfl) e⟩,st⟩
theorem nN.lt(x:nN P w H h)(e:H a=some o):a < h.objs.size:=(x a o e).lt
def nN.fresh(x:nN P w H h)(e:h.objs.size<=a):H a=none:=by
 cases q:H a with|none=>rfl|some u=>exact bh (bb (x.lt q) e) (cM _)
def nN.kept(x:nN P w H h)(k:∀b u,h.get? b=some u->h'.get? b=some u):nN P w H h':=λa o e=>
 (x a o e).stay (λb u _ q=>k b u q) (λ_ q=>q) λ_ _ q=>q
def nN.laid(x:nN P w H h)(k:∀b u,h.get? b=some u->h'.get? b=some u)(B:h.objs.size<=a)(new:gp P w (fE H a o) h' a o):nN P w (fE H a o) h':=λb u e=>by
 let g:=x.fresh B;by_cases l:b=a
 ·subst l;rw[kL]at e;cases e;exact new
 ·rw[fS l]at e;exact (x b u e).stay (λc v _ q=>k c v q) (λc q=>by rw[fS (oJ q g)];exact q) λc xs q=>by rw[fS (oJ q g)];exact q
end
def Rd(H:Hp)(a:ak)(u:HO):Prop:=H a=some u\/∃o,H a=some (.frz o u)
def Rd.ok(r:Rd H a u)(x:nN P w H h):gp P w H h a u:=by
 rcases r with r|⟨o,r⟩
 ·exact x a u r
 ·let⟨_,q⟩:=x a _ r;exact q
noncomputable def E6:Option HO->Prop
 |some (.lst _)=>True|some (.dK _)=>True|some (.dT _)=>True|some (.set _ _)=>True|some (.ins _ _ _)=>True|some (.ext _)=>True|_=>False
section
variable{h h':bK}
def nN.write(ok:nN P w H h)(B:E6 (H x))(J:e=x\/H e=some (.own x))(k:∀b u,b≠e->h.get? b=some u->h'.get? b=some u)(G:∃u,h'.get? e=some u)(new:gp P w (fE H x o') h' x o'):nN P w (fE H x o') h':=λb u q=>by
 let l:∀c y,H c=some (.own y)->c≠x:=λc y r z=>by subst z;rw[r]at B;exact B
 let o:∀c xs,H c=some (.tup xs)->c≠x:=λc xs r z=>by subst z;rw[r]at B;exact B
 by_cases E:b=x
 ·subst E;rw[kL]at q;cases q;exact new
 ·rw[fS E]at q;by_cases g:b=e
  ·let I : H b = some (.own x) := by
     rcases J with z|z
     ·exact bh (g.trans z) E
     ·rw[g];exact z
   rw[q]at I;cases I;let⟨v,L⟩:=G;exact⟨v,by rw[g];exact L⟩
  ·refine (ok b u q).stay (λc v C r=>k c v ?_ r) (λc r=>by rw[fS (l c b r)];exact r) λc xs r=>by rw[fS (o c xs r)];exact r
   rcases C with rfl|C
   ·exact g
   ·rintro rfl
    rcases J with z|z
    ·exact l c b C z
    ·rw[C]at z;cases z;exact E rfl
end
structure Un(fs ex:List ak)(H H':Hp)(h h':bK):Prop where
 keep:∀b o,h.get? b=some o->H b=none->b∉fs->b∉ex->h'.get? b=some o
 slot:∀b o,h.get? b=some o->H b=none->b∈fs->b∉ex->∃sl,h'.get? b=some { o with slots:=sl }
 free:∀b o,h.get? b=some o->H b=none->b∉ex->H' b=none
 there:∀b o,h.get? b=some o->b∉ex->∃o',h'.get? b=some o'
 tups:∀b xs,H b=some (.tup xs)->H' b=some (.tup xs)
 frzs:∀b o u,H b=some (.frz o u)->H' b=some (.frz o u)
 tbls:∀b ps,H b=some (.tbl ps)->∃more,H' b=some (.tbl (ps++more))
section
variable{H H1 H2:Hp}{h h1 h2 h':bK}
def Un.any(u:Un fs ex H H1 h h1)(q:h.get? b=some c)(n:H b=none)(g:b∉ex):∃v,h1.get? b=some { c with slots:=v }:=by
 by_cases l:b∈fs
 ·exact u.slot b c q n l g
 ·exact⟨c.slots,u.keep b c q n l g⟩
def Un.kept(k:∀b u,h.get? b=some u->h'.get? b=some u):Un fs ex H H h h':=
 ⟨λb c q _ _ _=>k b c q,λb c q _ _ _=>⟨c.slots,k b c q⟩,λ_ _ _ n _=>n,λb c q _=>⟨c,k b c q⟩,λ_ _ q=>q,λ_ _ _ q=>q,λ_ ps q=>⟨#[],by rw[q];simp⟩⟩
def Un.refl:Un fs ex H H h h:=Un.kept λ_ _ q=>q
def Un.laid(k:∀b u,h.get? b=some u->h'.get? b=some u)(g:h.objs.size<=a)(c:H a=none):Un fs ex H (fE H a o) h h' where
 keep:=λb u q _ _ _=>k b u q
 slot:=λb u q _ _ _=>⟨u.slots,k b u q⟩
 free:=λb u q n _=>by rw[fS (ba (bb (aL q) g))];exact n
 there:=λb u q _=>⟨u,k b u q⟩
 tups:=λb xs q=>by rw[fS (oJ q c)];exact q
 frzs:=λb u xs q=>by rw[fS (oJ q c)];exact q
 tbls:=λb ps q=>⟨#[],by rw[fS (oJ q c),q];simp⟩
def Un.write(g:E6 (H x))(E:e=x\/H e=some (.own x))(k:∀b u,b≠e->h.get? b=some u->h'.get? b=some u)(v:∃u,h'.get? e=some u):Un fs ex H (fE H x o) h h':=by
 let B:∀b,H b=none->b≠x:=λb n z=>by subst z;rw[n]at g;exact g
 let C:∀b,H b=none->b≠e:=λb n z=>by
  subst z;rcases E with r|r
  ·exact B b n r
  ·rw[n]at r;cases r
 let l:∀b u,H b=some u->¬ E6 (some u)->b≠x:=λb u q nm z=>by subst z;rw[q]at g;exact nm g
 refine⟨λb u q n _ _=>k b u (C b n) q,λb u q n _ _=>⟨u.slots,k b u (C b n) q⟩,λb u q n _=>by rw[fS (B b n)];exact n,λb u q _=>?_,
  λb xs q=>by rw[fS (l b _ q λz=>z)];exact q,λb u xs q=>by rw[fS (l b _ q λz=>z)];exact q,λb ps q=>⟨#[],by rw[fS (l b _ q λz=>z),q];simp⟩⟩
 by_cases c:b=e
 ·subst c;exact v
 ·exact⟨u,k b u c q⟩
end
noncomputable def trk(h:bK)(H:Hp):List ak:=(bT h.objs.size).filter λa=>(H a).isSome
def pc(h:bK)(H:Hp):bK:=PySem.W.hideAll h (trk h H)
def NG(h:bK)(H:Hp):(pc h H).objs.size=h.objs.size:=PySem.W.hideAll_size _ _
def RM{h:bK}{H:Hp}(e:h.get? b=some o)(n:H b=none):(pc h H).get? b=some o:=
 PySem.W.hideAll_get _ e λc=>by have q:(H b).isSome=true:=(ig.mp c).2;rw[n]at q;simp at q
def Rh(e:(pc h H).get? b=some o):h.get? b=some o/\H b=none:=by
 let c:h.get? b=some o:=PySem.W.of_hideAll (trk h H) e;refine⟨c,?_⟩;cases q:H b with|none=>rfl|some x=>
  let g:b∈trk h H:=ig.mpr ⟨bY.mpr (aL c),by simp[q]⟩;let z:(pc h H).get? b=none:=PySem.W.hideAll_none (trk h H) g;rw[z]at e;cases e
noncomputable def md(g h:bK)(L:ak):List (ak×Obj):=(bT h.objs.size).filterMap λa=>if a=L\/(g.get? a).isSome=true then none else (h.get? a).map λo=>(a,o)
def NA{g h:bK}(q:a≠L)(l:g.get? a=none)(c:h.get? a=some o):(a,o)∈md g h L:=
 my.mpr ⟨a,bY.mpr (aL c),by simp[q,l,c]⟩
def UQ(l:p∈md g h L):p.1≠L/\g.get? p.1=none/\h.get? p.1=some p.2:=by
 let⟨b,_,e⟩:=my.mp l;split at e
 ·cases e
 ·rename_i c;cases q:h.get? b with|none=>rw[q]at e;simp at e|some u=>
   rw[q]at e;simp only[dR,Option.some.injEq]at e;subst e;refine⟨λz=>c (.inl z),?_,q⟩
   show g.get? b=none;cases r:g.get? b with|none=>rfl|some v=>exact (c (.inr (by simp[r]))).elim
def rest(g h:bK)(L d:ak):List (ak×Obj):=(md g h L).filter λp=>decide (p.1≠d)
def ZB:News g L h (md g h L):=λp l=>let ⟨a,b,c⟩:=UQ l;⟨c,a,b⟩
structure Mod(K:ah)(mg:Str->Option ag)(base:bK):Prop where
 kin:K.In base
 glob:base.Ns cO mg
 blt:∃mb,base.Ns nv mb/\∀x:Str,x≠"__name__"->mb x=cZ x
 nolimit:base.NoLimit
structure Cx where
 prog:Program
 w:bM
 K:ah
 mg:Str->Option ag
 base:bK
 A:bI
 N:List Str
 s₀:am
 H₀:Hp
 env:Env
 outer:List Env
 stack:List Env
 ex:List ak
 fn:Str->Bool
 calm:Bool
 pn:List (ak×Obj)
 xe:ag->am->Prop
noncomputable def gB(l:List Env):List ak:=l.filterMap (·.frame)
abbrev Cx.fs(X:Cx):List ak:=gB X.outer
def Fv(sc:du)(x:Str):Prop:=sc.names.lookup x=some .local\/sc.names.lookup x=some .cell\/sc.names.lookup x=some .free
def Loc(sc:du)(x:Str):Prop:=sc.names.lookup x=some .local\/sc.names.lookup x=some .cell
noncomputable def Look(env:Env)(h:bK)(m:Str->Option ag)(x:Str)(u:ag):Prop:=
 (env.kindOf x=some .local/\m x=some u)\/((env.kindOf x=some .cell\/env.kindOf x=some .free)/\∃c,env.cells.lookup x=some c/\h.IsCell c (some u))
structure Cx.Ok(X:Cx):Prop where
 mod:Mod X.K X.mg X.base
 kind:X.env.scope.kind=.function
 glob:X.env.globals=cO
 blt:X.env.builtins=nv
 above:X.s₀.heap.objs.size<=X.env.locals
 inj:∀x y c,X.env.cells.lookup x=some c->X.env.cells.lookup y=some c->x=y
 has:∀x,(X.env.kindOf x=some .cell\/X.env.kindOf x=some .free)->∃c,X.env.cells.lookup x=some c
 cab:∀x c,X.fn x=true->X.env.cells.lookup x=some c->X.s₀.heap.objs.size<=c
 hd:X.calm=true->X.A.handled=none
 frames:X.A.frames=some X.stack
 stk:X.stack=X.outer\/(X.stack=X.env::X.outer/\X.env.frame=some X.env.locals)
 exf:∀b∈X.ex,b≠X.env.locals/\∀x c,X.env.cells.lookup x=some c->c≠b
 bs:∀b o,X.base.get? b=some o->X.s₀.heap.get? b=some o/\X.H₀ b=none
 bsz:X.base.objs.size<=X.s₀.heap.objs.size
 noex:∀b o,X.base.get? b=some o->b∉X.ex
 exfs:∀b∈X.ex,b∉X.fs
 funs:X.s₀.heap.FunFrames X.base X.outer
 frf:∀b∈X.fs,X.H₀ b=none
structure Inv(X:Cx)(ar:List (ak×Obj))(σ:List (Option V))(H:Hp)(s:am):Prop where
 ok:X.Ok
 os:s.os=X.s₀.os
 bare:lT s.gens
 base:Un X.fs X.ex X.H₀ H X.s₀.heap s.heap
 loc:∃m,s.heap.Ns X.env.locals m/\∀(i:Nat)(x:Str)(v:V),X.N[i]?=some x->σ[i]?=some (some v)->Fv X.env.scope x->∃u,RelV v u/\Look X.env s.heap m x u
 cell:∀x c,X.env.cells.lookup x=some c->∃v,s.heap.IsCell c v
 free:H X.env.locals=none
 freeC:∀x c,X.env.cells.lookup x=some c->H c=none
 pin:∀p∈X.pn++ar,s.heap.get? p.1=some p.2/\H p.1=none/\p.1≠X.env.locals/\p.1∉X.fs/\∀v,p.2.data≠.cell v
 hok:nN X.prog X.w H s.heap
 len:σ.length=X.N.length
section
variable{X:Cx}{ar:List (ak×Obj)}{σ:List (Option V)}{H H':Hp}{s:am}{h':bK}
def Cx.Ok.nofr(ok:X.Ok)(e:X.base.get? b=some o):b∉X.fs:=λc=>by have:=(ok.funs.mem c).1;rw[e]at this;cases this
theorem Inv.bs(I:Inv X ar σ H s):∀b o,X.base.get? b=some o->s.heap.get? b=some o/\H b=none:=λb o e=>
 ⟨I.base.keep b o (I.ok.bs b o e).1 (I.ok.bs b o e).2 (I.ok.nofr e) (I.ok.noex b o e),I.base.free b o (I.ok.bs b o e).1 (I.ok.bs b o e).2 (I.ok.noex b o e)⟩
def Inv.bk(I:Inv X ar σ H s):∀b o,X.base.get? b=some o->s.heap.get? b=some o:=λb o e=>(I.bs b o e).1
theorem Inv.mod(I:Inv X ar σ H s):Mod X.K X.mg X.base:=I.ok.mod
def Inv.kIn(I:Inv X ar σ H s):X.K.In s.heap:=I.ok.mod.kin.keeps I.bk
def Inv.fr(I:Inv X ar σ H s):∃m,Fr X.base X.env.locals s.heap m:=
 let ⟨m,hn,_⟩:=I.loc
 ⟨m,hn,I.bk,cW I.ok.bsz I.ok.above⟩
theorem Inv.lt(I:Inv X ar σ H s):X.env.locals < s.heap.objs.size:=let ⟨_,hn,_⟩:=I.loc;hn.lt
def Inv.sz(I:Inv X ar σ H s):X.s₀.heap.objs.size<=s.heap.objs.size:=cW I.ok.above (f_ I.lt)
def Inv.nofs(I:Inv X ar σ H s)(h:s.heap.objs.size<=a):a∉X.fs:=λg=>by let⟨_,o,c,_⟩:=I.ok.funs.mem g;exact bh (bb (aL c) (cW I.sz h)) (cM _)
def Inv.cne(I:Inv X ar σ H s):∀x c,X.env.cells.lookup x=some c->c≠X.env.locals:=λx c e z=>by let⟨v,o,l,hd⟩:=I.cell x c e;let⟨m,⟨o',es,ep,g,h,_⟩,_⟩:=I.loc;rw[z,g]at l;cases l;rw[h]at hd;cases hd
theorem Inv.funs(I:Inv X ar σ H s):s.heap.FunFrames X.base X.outer:=by
 let all:∀(l:List Env),(∀b∈gB l,b∈X.fs)->X.s₀.heap.FunFrames X.base l->s.heap.FunFrames X.base l:=by
  intro l
  induction l with
  |nil=>intro _ _;trivial
  |cons env r ih=>
   intro q C;let⟨E,⟨L,o,c,B,v,hd⟩,u⟩:=C;let h:L∈X.fs:=q L (by unfold gB;rw[px,c];exact cP);let⟨G,e⟩:=I.base.slot L o v (I.ok.frf L h) h λz=>I.ok.exfs L z h;exact⟨E,⟨L,_,c,B,e,hd⟩,ih (λb g=>q b (by unfold gB;rw[px,c];exact bO _ g)) u⟩
 exact all X.outer (λ_ g=>g) I.ok.funs
theorem Inv.stack(I:Inv X ar σ H s):s.heap.FunFrames X.base X.stack:=by
 rcases I.ok.stk with e|⟨e,g⟩
 ·rw[e];exact I.funs
 ·rw[e];let⟨m,c,_⟩:=I.loc;refine .cons (by rw[I.ok.kind];decide) g c ?_ I.funs;exact bK.get?_none_of_le (cW I.ok.bsz I.ok.above)
def Inv.stkSub(I:Inv X ar σ H s):∀b∈gB X.stack,b∈X.env.locals::X.fs:=λb c=>by
 rcases I.ok.stk with e|⟨e,g⟩
 ·rw[e]at c;exact bO _ c
 ·rw[e]at c;unfold gB at c;rw[px,g]at c;exact c
def Inv.stkFree(I:Inv X ar σ H s):∀b∈gB X.stack,H b=none:=λb c=>by
 rcases aR.mp (I.stkSub b c) with e|c
 ·rw[e];exact I.free
 ·let⟨_,o,g,_⟩:=I.ok.funs.mem c;exact I.base.free b o g (I.ok.frf b c) λz=>I.ok.exfs b z c
def Inv.step{g':Array GenState}{t':Nat}{d':Drawn}{ch:List ak}(I:Inv X ar σ H s)(B:∀b∈ch,(b∈X.ex\/X.s₀.heap.objs.size<=b)/\b≠X.env.locals/\(∀x c,X.env.cells.lookup x=some c->c≠b)/\∀p∈X.pn++ar,p.1≠b)(keep:∀b o,b≠X.env.locals->b∉X.fs->b∉ch->s.heap.get? b=some o->H b=none->h'.get? b=some o)(slot:∀b o,b≠X.env.locals->b∈X.fs->b∉ch->s.heap.get? b=some o->H b=none->∃Y,h'.get? b=some { o with slots:=Y }) (free:∀b o,b∉ch->s.heap.get? b=some o->H b=none->H' b=none)(there:∀b o,b∉ch->s.heap.get? b=some o->∃o',h'.get? b=some o')(tups:∀b xs,H b=some (.tup xs)->H' b=some (.tup xs)) (frzs:∀b o u,H b=some (.frz o u)->H' b=some (.frz o u)) (tbls:∀b ps,H b=some (.tbl ps)->∃more,H' b=some (.tbl (ps++more)))(ns:∀m,s.heap.Ns X.env.locals m->h'.Ns X.env.locals m) (hok:nN X.prog X.w H' h') (hg:lT g'):Inv X ar σ H' { s with heap:=h',gens:=g',drawn:=d',toks:=t' }:=by
 let O:∀b o,X.s₀.heap.get? b=some o->b≠X.env.locals:=λb o e=>ba (bb (aL e) I.ok.above);let E:∀b o,X.s₀.heap.get? b=some o->b∉X.ex->b∉ch:=λb o e g J=>by
  rcases (B b J).1 with z|z
  ·exact g z
  ·exact bh (bb (aL e) z) (cM _)
 let C:∀x c,X.env.cells.lookup x=some c->∀v,s.heap.IsCell c v->h'.IsCell c v:=λx c e v pq1=>by
  let⟨o,L,hd⟩:=pq1;let h:c∉ch:=λz=>(B c z).2.2.1 x c e rfl;by_cases hc:c∈X.fs
  ·let⟨Y,q⟩:=slot c o (I.cne x c e) hc h L (I.freeC x c e);exact⟨_,q,hd⟩
  ·exact⟨o,keep c o (I.cne x c e) hc h L (I.freeC x c e),hd⟩
 refine⟨I.ok,I.os,hg,⟨λb o e n J g=>?_,λb o e n J g=>?_,λb o e n g=>?_,λb o e g=>?_,λb xs e=>tups b xs (I.base.tups b xs e),λb o xs e=>frzs b o xs (I.base.frzs b o xs e),λb ps e=>?_⟩,?_,λx c e=>?_,?_,λx c e=>?_,λp hp=>?_,hok,I.len⟩
 ·exact keep b o (O b o e) J (E b o e g) (I.base.keep b o e n J g) (I.base.free b o e n g)
 ·let⟨Y,G⟩:=I.base.slot b o e n J g;let⟨U,Q⟩:=slot b _ (O b o e) J (E b o e g) G (I.base.free b o e n g);exact⟨U,Q⟩
 ·let⟨o',G⟩:=I.base.there b o e g;exact free b o' (E b o e g) G (I.base.free b o e n g)
 ·let⟨o',G⟩:=I.base.there b o e g;exact there b o' (E b o e g) G
 ·let⟨g,G⟩:=I.base.tbls b ps e;let⟨c,Q⟩:=tbls b _ G;exact⟨g++c,by rw[Q,Array.append_assoc]⟩
 ·let⟨m,g,h⟩:=I.loc;refine⟨m,ns m g,λi x v G Q o=>?_⟩;let⟨u,r,l⟩:=h i x v G Q o;refine⟨u,r,?_⟩;rcases l with l|⟨k,c,e,z⟩
  ·exact .inl l
  ·exact .inr ⟨k,c,e,C x c e _ z⟩
 ·let⟨v,z⟩:=I.cell x c e;exact⟨v,C x c e v z⟩
 ·let⟨m,⟨o,_,_,L,_⟩,_⟩:=I.loc;exact free _ o (λz=>(B _ z).2.1 rfl) L I.free
 ·let⟨v,o,L,hd⟩:=I.cell x c e;exact free c o (λz=>(B c z).2.2.1 x c e rfl) L (I.freeC x c e)
 ·let⟨e,n,ne,c,d⟩:=I.pin p hp;let h:p.1∉ch:=λz=>(B p.1 z).2.2.2 p hp rfl;exact⟨keep p.1 p.2 ne c h e n,free p.1 p.2 h e n,ne,c,d⟩
def Inv.un{t':Nat}(I:Inv X ar σ H s)(u:Un X.fs [] H H' s.heap h')(hok:nN X.prog X.w H' h'):Inv X ar σ H' { s with heap:=h',toks:=t' }:=by
 let⟨m,⟨o,es,ep,q,r⟩,_⟩:=id I.loc;let⟨E,C⟩:=u.any q I.free (by simp);exact I.step (g':=s.gens) (d':=s.drawn) (ch:=[]) (λ_ z=>nomatch z) (λb o _ g _ e n=>u.keep b o e n g (by simp)) (λb o _ g _ e n=>u.slot b o e n g (by simp)) (λb o _ e n=>u.free b o e n (by simp)) (λb o _ e=>u.there b o e (by simp)) u.tups u.frzs u.tbls (λG B=>by let⟨o',h,l,c,v⟩:=B;rw[q]at c;cases c;exact⟨_,h,l,C,v⟩) hok I.bare
def Inv.call{t':Nat}(I:Inv X ar σ H s)(u:Un (gB X.stack) ch H H' s.heap h')(hok:nN X.prog X.w H' h')(J:lT g')(l:∀b∈ch,(b∈X.ex\/X.s₀.heap.objs.size<=b)/\b≠X.env.locals/\(∀x c,X.env.cells.lookup x=some c->c≠b)/\∀p∈X.pn++ar,p.1≠b):Inv X ar σ H' { s with heap:=h',gens:=g',drawn:=d',toks:=t' }:=by
 let⟨m,⟨o,es,ep,C,r⟩,_⟩:=id I.loc;let⟨O,q⟩:=u.any C I.free λz=>(l _ z).2.1 rfl;exact I.step (ch:=ch) l (λb o q L g e n=>u.keep b o e n (λz=>(aR.mp (I.stkSub b z)).elim q L) g) (λb o _ _ g e n=>u.any e n g) (λb o g e n=>u.free b o e n g) (λb o g e=>u.there b o e g) u.tups u.frzs u.tbls (λQ G=>by let⟨o',v,B,h,E⟩:=G;rw[C]at h;cases h;exact⟨_,v,B,q,E⟩) hok J
def Inv.turned{t':Nat}(I:Inv X ar σ H s)(k:∀b o,b≠g->s.heap.get? b=some o->h'.get? b=some o)(E:H g=none)(B:g≠X.env.locals)(Q:g∈X.ex\/X.s₀.heap.objs.size<=g) (O:∀x c,X.env.cells.lookup x=some c->c≠g) (L:∀p∈X.pn++ar,p.1≠g):Inv X ar σ H { s with heap:=h',toks:=t' }:=by
 let l:∀b u,H b=some u->b≠g:=λb u e z=>by rw[z,E]at e;cases e
 refine I.step (g':=s.gens) (d':=s.drawn) (ch:=[g]) (λb J=>?_) (λb o _ _ h e _=>k b o (λz=>h (by simp[z])) e) (λb o _ _ h e _=>⟨o.slots,k b o (λz=>h (by simp[z])) e⟩) (λ_ _ _ _ n=>n)
  (λb o h e=>⟨o,k b o (λz=>h (by simp[z])) e⟩) (λ_ _ e=>e) (λ_ _ _ e=>e) (λb ps e=>⟨#[],by rw[e];simp⟩) (λm G=>?_) (λb u e=>?_) I.bare
 ·let e:b=g:=by simpa using J
  subst e;exact⟨Q,B,O,L⟩
 ·let⟨o,es,ep,C,r⟩:=G;exact⟨o,es,ep,k _ o (ff B) C,r⟩
 ·refine (I.hok b u e).stay (λc v h q=>k c v ?_ q) (λ_ q=>q) λ_ _ q=>q;rcases h with z|z
  ·rw[z];exact l b u e
  ·exact l c _ z
def Inv.tok(I:Inv X ar σ H s)(t:Nat):Inv X ar σ H { s with toks:=t }:=I.un (h':=s.heap) (t':=t) Un.refl I.hok
theorem Inv.kept{t':Nat}(I:Inv X ar σ H s)(k:∀b u,s.heap.get? b=some u->h'.get? b=some u):Inv X ar σ H { s with heap:=h',toks:=t' }:=I.un (Un.kept k) (I.hok.kept k)
theorem Inv.laid{t':Nat}(I:Inv X ar σ H s)(k:∀b u,s.heap.get? b=some u->h'.get? b=some u)(c:s.heap.objs.size<=a)(new:gp X.prog X.w (fE H a o) h' a o):Inv X ar σ (fE H a o) { s with heap:=h',toks:=t' }:=I.un (Un.laid k c (I.hok.fresh c)) (I.hok.laid k c new)
theorem Inv.write{t':Nat}(I:Inv X ar σ H s)(g:E6 (H x))(h:e=x\/H e=some (.own x))(k:∀b u,b≠e->s.heap.get? b=some u->h'.get? b=some u)(c:∃u,h'.get? e=some u)(new:gp X.prog X.w (fE H x o) h' x o):Inv X ar σ (fE H x o) { s with heap:=h',toks:=t' }:=I.un (Un.write g h k c) (I.hok.write g h k c new)
def Inv.pins_of{c:List (ak×Obj)}(I:Inv X ar σ H s)(h:∀p∈c,s.heap.get? p.1=some p.2/\H p.1=none/\p.1≠X.env.locals/\p.1∉X.fs/\∀v,p.2.data≠.cell v):Inv X c σ H s:=
 ⟨I.ok,I.os,I.bare,I.base,I.loc,I.cell,I.free,I.freeC,λp g=>(aP.mp g).elim (λz=>I.pin p (bz _ z)) (h p),I.hok,I.len⟩
def Nw{N:List Str}(c:N.Nodup){i j:Nat}(a:N[i]?=some x)(b:N[j]?=some x):i=j:=by let⟨o,h⟩:=ac.mp a;let⟨l,g⟩:=ac.mp b;exact (List.getElem_inj c).mp (h.trans g.symm)
def Jd{M:DZ}{i:Nat}{Q:Unit->am->Prop}(I:Inv X ar σ H s)(hN:X.N.Nodup)(hi:X.N[i]?=some x)(G:Loc X.env.scope x)(r:RelV v u)(h:∀s',Inv X ar (σ.set i (some v)) H s'->(∃a,cR a s.heap s'.heap/\(a=X.env.locals\/X.env.cells.lookup x=some a))->Q Unit.unit s') (hf:X.fn x=true\/X.env.scope.names.lookup x=some .local:=by first|exact .inl rfl|exact .inr rfl|assumption):aG M A (qQ X.env x u) Q E s:=by
 let⟨m,hn,hl⟩:=id I.loc;let hcls:(X.env.scope.kind == .class||(X.env.scope.kind == .module&&X.env.locals != X.env.globals))=false:=by rw[I.ok.kind];rfl
 let hiσ:i < σ.length:=by rw[I.len];exact (ac.mp hi).1
 let cne:=I.cne;let l:∀{a:ak}{h':bK},(∃o,s.heap.get? a=some o/\H a=none)->cR a s.heap h'->nN X.prog X.w H h':=λ{a h'}ha g b ob e=>by
  let⟨_,_,J⟩:=ha;refine (I.hok b ob e).stay (λc w' C q=>(g.2 c ?_).trans q) (λ_ q=>q) λ_ _ q=>q
  rintro rfl
  rcases C with rfl|C
  ·rw[J]at e;cases e
  ·rw[J]at C;cases C
 rcases G with O|O
 ·refine zG O hn (λh' C g=>?_) hcls;let⟨E,_,_,v,_⟩:=id hn;refine h _ ⟨I.ok,I.os,I.bare,⟨λb o e n hb G=>?_,λb o e n hb G=>?_,I.base.free,λb o e G=>?_,I.base.tups,I.base.frzs,I.base.tbls⟩,⟨_,C,λj y v' B L e3=>?_⟩,λy c e=>?_,I.free,I.freeC,λp hp=>?_,l ⟨E,v,I.free⟩ g,by simpa using I.len⟩ ⟨_,g,.inl rfl⟩
  ·exact (g.2 b (ba (bb (aL e) I.ok.above))).trans (I.base.keep b o e n hb G)
  ·let⟨sl,B⟩:=I.base.slot b o e n hb G;exact⟨sl,(g.2 b (ba (bb (aL e) I.ok.above))).trans B⟩
  ·let⟨o',B⟩:=I.base.there b o e G;exact⟨o',(g.2 b (ba (bb (aL e) I.ok.above))).trans B⟩
  ·by_cases U:j=i
   ·subst U;rw[hi]at B;cases B;rw[aF hiσ]at L;cases L;exact⟨u,r,.inl ⟨O,by simp⟩⟩
   ·rw[aB (ff U)]at L;let⟨u',r',q⟩:=hl j y v' B L e3;refine⟨u',r',?_⟩;rcases q with ⟨k,e⟩|⟨k,c,e,z⟩
    ·refine .inl ⟨k,?_⟩;have:y≠x:=λe=>U (Nw hN B (e ▸ hi));simp[this,e]
    ·exact .inr ⟨k,c,e,z.sameBut g (cne y c e)⟩
  ·let⟨w',z⟩:=I.cell y c e;exact⟨w',z.sameBut g (cne y c e)⟩
  ·let⟨e,n,ne,nf,d⟩:=I.pin p hp;exact⟨(g.2 p.1 ne).trans e,n,ne,nf,d⟩
 ·let Y : X.fn x = true := by
    rcases hf with z|z
    ·exact z
    ·rw[z]at O;cases O
  let⟨c,C⟩:=I.ok.has x (.inl O);let⟨w',z⟩:=I.cell x c C;refine AI I.ok.kind O C z (λh' J g=>?_);let⟨oc,E,v⟩:=id z;refine h { s with heap:=h' } ⟨I.ok,I.os,I.bare,⟨λb o e n hb G=>?_,λb o e n hb G=>?_,I.base.free,λb o e G=>?_,I.base.tups,I.base.frzs,I.base.tbls⟩,⟨m,hn.sameBut g (ff (cne x c C)),λj y v' B L e3=>?_⟩,λy Q e=>?_,I.free,I.freeC,λp hp=>?_,l ⟨oc,E,I.freeC x c C⟩ g,by simpa using I.len⟩ ⟨c,g,.inr C⟩
  ·exact (g.2 b (ba (bb (aL e) (I.ok.cab x c Y C)))).trans (I.base.keep b o e n hb G)
  ·let⟨sl,B⟩:=I.base.slot b o e n hb G;exact⟨sl,(g.2 b (ba (bb (aL e) (I.ok.cab x c Y C)))).trans B⟩
  ·let⟨o',B⟩:=I.base.there b o e G;exact⟨o',(g.2 b (ba (bb (aL e) (I.ok.cab x c Y C)))).trans B⟩
  ·by_cases U:j=i
   ·subst U;rw[hi]at B;cases B;rw[aF hiσ]at L;cases L;exact⟨u,r,.inr ⟨.inl O,c,C,J⟩⟩
   ·rw[aB (ff U)]at L;let⟨u',r',q⟩:=hl j y v' B L e3;refine⟨u',r',?_⟩;rcases q with q|⟨k,Q,e,h⟩
    ·exact .inl q
    ·refine .inr ⟨k,Q,e,h.sameBut g ?_⟩
     rintro rfl
     exact U (Nw hN B (I.ok.inj _ _ _ e C ▸ hi))
  ·by_cases H:Q=c
   ·subst H;exact⟨_,J⟩
   ·let⟨l,h⟩:=I.cell y Q e;exact⟨l,h.sameBut g H⟩
  ·let⟨e,n,ne,nf,d⟩:=I.pin p hp;refine⟨(g.2 p.1 ?_).trans e,n,ne,nf,d⟩;intro q;rw[q,E]at e;let c:oc=p.2:=aM e;exact d w' (by rw[<- c];exact v)
def LX{M:DZ}{i:Nat}{Q:Unit->am->Prop}(I:Inv X ar σ H s)(q:X.N.Nodup)(l:X.N[i]?=some x)(g:Loc X.env.scope x)(r:RelV v u)(h:∀c,Inv X ar (σ.set i (some v)) H c->Q Unit.unit c) (o:X.fn x=true\/X.env.scope.names.lookup x=some .local:=by first|exact .inl rfl|exact .inr rfl|assumption):aG M A (qQ X.env x u) Q E s:=
 Jd I q l g r (λc B _=>h c B) o
def Inv.call'{g:am}(I:Inv X ar σ H s)(l:g.os=s.os)(u:Un (gB X.stack) ch H H' s.heap g.heap)(hok:nN X.prog X.w H' g.heap)(o:lT g.gens)(h:∀b∈ch,(b∈X.ex\/X.s₀.heap.objs.size<=b)/\b≠X.env.locals/\(∀x c,X.env.cells.lookup x=some c->c≠b)/\∀p∈X.pn++ar,p.1≠b):Inv X ar σ H' g:=by
 let⟨h',g',d',t',o'⟩:=g;let e:o'=s.os:=l;subst e;exact I.call (g':=g') (t':=t') (d':=d') u hok o h
end
abbrev XK:=ag->Option ak->Hp->Prop
noncomputable abbrev St:=List (Option V)
abbrev VK:=V->Hp->Prop
abbrev TE:=St->Hp->VK->Prop
abbrev TT:=St->Hp->(Bool->Hp->Prop)->Prop
abbrev TA:=St->Hp->(List V->Hp->Prop)->Prop
structure Ends where
 nx:St->Hp->Prop
 rt:VK
 bk:St->Hp->Prop:=λ_ _=>False
 ct:St->Hp->Prop:=λ_ _=>False
abbrev TS:=Ends->St->Hp->Prop
def EP(X:Cx)(c:List (ak×Obj))(σ:St)(Q:VK)(u:ag)(h:am):Prop:=∃v g,Inv X c σ g h/\RelV v u/\Q v g
def TP(X:Cx)(c:List (ak×Obj))(σ:St)(Q:Bool->Hp->Prop)(b:Bool)(h:am):Prop:=∃g,Inv X c σ g h/\Q b g
def AP(X:Cx)(c:List (ak×Obj))(σ:St)(Q:List V->Hp->Prop)(l:List ag)(o:am):Prop:=∃g h,Inv X c σ h o/\cq g l/\Q g h
def SP(X:Cx)(c:List (ak×Obj))(D:Ends)(f:Flow)(h:am):Prop:=
 match f with| .next=>∃σ' g,Inv X c σ' g h/\D.nx σ' g| .brk=>∃σ' g,Inv X c σ' g h/\D.bk σ' g| .cont=>∃σ' g,Inv X c σ' g h/\D.ct σ' g| .ret u=>∃v σ' g,Inv X c σ' g h/\RelV v u/\D.rt v g
def PE(X:Cx)(e:Expr)(t:TE):Prop:=
 ∀(ar:List (ak×Obj))(s:am)(σ:St)(H:Hp)(Q:VK),Inv X ar σ H s->t σ H Q->aG (aY X.prog X.w) X.A (eval e X.env) (EP X ar σ Q) X.xe s
def PT(X:Cx)(e:Expr)(t:TT):Prop:=
 ∀(ar:List (ak×Obj))(s:am)(σ:St)(H:Hp)(Q:Bool->Hp->Prop),Inv X ar σ H s->t σ H Q->aG (aY X.prog X.w) X.A (isTrue e X.env (eval e X.env)) (TP X ar σ Q) X.xe s
def PW(X:Cx)(e:Expr)(t:TT):Prop:=
 ∀(whole:Sem ag)(ar:List (ak×Obj))(s:am)(σ:St)(H:Hp)(Q:Bool->Hp->Prop),Inv X ar σ H s->t σ H Q->aG (aY X.prog X.w) X.A (isTrue e X.env whole) (TP X ar σ Q) X.xe s
def PW.pt(h:PW X e t):PT X e t:=h _
def PA(X:Cx)(es:List Expr)(t:TA):Prop:=
 ∀(pos:Pos)(ar:List (ak×Obj))(s:am)(σ:St)(H:Hp)(Q:List V->Hp->Prop),Inv X ar σ H s->t σ H Q->aG (aY X.prog X.w) X.A (sS (backTo pos (starEach es X.env))) (AP X ar σ Q) X.xe s
def PS(X:Cx)(st:Stmt)(t:TS):Prop:=
 ∀(ar:List (ak×Obj))(s:am)(σ:St)(H:Hp)(D:Ends),Inv X ar σ H s->t D σ H->aG (aY X.prog X.w) X.A (exec st X.env) (SP X ar D) X.xe s
def PSs(X:Cx)(st:List Stmt)(t:TS):Prop:=
 ∀(ar:List (ak×Obj))(s:am)(σ:St)(H:Hp)(D:Ends),Inv X ar σ H s->t D σ H->aG (aY X.prog X.w) X.A (execs st X.env) (SP X ar D) X.xe s
def fT{α:Type}{t:Sem α}{Q c:α->am->Prop}{M:DZ}(h:aG M A t Q E s)(g:∀a s,Q a s->c a s):aG M A t c E s:=fM h g λ_ _ x=>x
section
variable{X:Cx}
noncomputable def yM(i:Nat):TE:=λσ H Q=>∃v,σ[i]?=some (some v)/\Q v H
noncomputable def tC(v:V):TE:=λ_ H Q=>Q v H
def OX{i:Nat}(O:X.N[i]?=some x)(E:Fv X.env.scope x)(hd:(x == ("__debug__":Str))=false:=by decide)(B:(x == ("__classdict__":Str))=false:=by decide):PE X (.Name x pos) (yM i):=by
 intro q s σ H Q I h;let⟨v,e,h⟩:=h;let⟨m,G,L⟩:=I.loc;let⟨u,r,l⟩:=L i x v O e E;let fin:EP X q σ Q u s:=⟨v,H,I,r,h⟩
 rcases l with ⟨o,J⟩|⟨o,c,C,g⟩
 ·exact De (AJ I.ok.kind o G J fin) hd
 ·rcases o with o|o
  ·exact De (Bl I.ok.kind o C g fin) hd
  ·exact De (wpAny_loadName_free I.ok.kind o C g fin B) hd
def No{i j pos}:PE X (.Constant (.int i) j pos) (tC (.int i)):=λ_ _ _ H _ I h=>wpAny_Constant_int ⟨.int i,H,I.tok _,⟨_,rfl⟩,h⟩
def Z1{b j pos}:PE X (.Constant (.bool b) j pos) (tC (.bl b)):=λ_ _ _ H _ I h=>Constant_bool ⟨.bl b,H,I,rfl,h⟩
def Zf{j pos}:PE X (.Constant .none j pos) (tC .non):=λ_ _ _ H _ I h=>Constant_none ⟨.non,H,I,rfl,h⟩
def Uz{x j pos}:PE X (.Constant (.str x) j pos) (tC (.str x)):=λ_ _ _ H _ I h=>Calls.Constant_str ⟨.str x,H,I.tok _,⟨_,rfl⟩,h⟩
def Gl(X:Cx)(x:Str):Prop:=X.env.kindOf x=some .globalImplicit
def Qq{Q:ag->am->Prop}(I:Inv X c σ H s)(l:Gl X x)(g:X.mg x=some u)(h:Q u s)(hd:(x == ("__debug__":Str))=false:=by decide):aG (aY X.prog X.w) X.A (eval (.Name x pos) X.env) Q E s:=
 sT I.ok.kind l (Calls.loadGlobal_global (by rw[I.ok.glob];exact I.mod.glob.keeps I.bk) g h) hd
def xF{Q:ag->am->Prop}(I:Inv X c σ H s)(q:Gl X x)(o:X.mg x=none)(g:cZ x=some u)(h:Q u s)(l:x≠"__name__":=by decide) (hd:(x == ("__debug__":Str))=false:=by decide):aG (aY X.prog X.w) X.A (eval (.Name x pos) X.env) Q E s:=by
 let⟨C,B,v⟩:=I.mod.blt;exact sT I.ok.kind q (Calls.loadGlobal_builtin (by rw[I.ok.glob];exact I.mod.glob.keeps I.bk) o (by rw[I.ok.blt];exact B.keeps I.bk) ((v x l).trans g) h) hd
variable{a b:Expr}{ta tb:TE}{pos:Pos}
variable{tA d5:TT}{rest:List Expr}
noncomputable def B0(t u:TT):TT:=λσ H Q=>t σ H λc g=>if c=true then u σ g Q else Q false g
noncomputable def tOr(t u:TT):TT:=λσ H Q=>t σ H λc g=>if c=true then Q true g else u σ g Q
noncomputable def B6(t:TT):TT:=λσ H Q=>t σ H λc g=>Q (!c) g
def QaC(l:PT X a tA):PW X (.BoolOp .And [a] pos) tA:=by
 intro wh g s σ H Q I h;refine isTrue_and (fT (l g s σ H Q I h) λc o e=>?_);cases c with|true=>exact isTrue_and_nil e|false=>exact e
def UI(l:PT X a tA):PW X (.BoolOp .Or [a] pos) tA:=by
 intro wh g s σ H Q I h;refine isTrue_or (fT (l g s σ H Q I h) λc o e=>?_);cases c with|false=>exact isTrue_or_nil e|true=>exact e
def W5(C:PT X a tA)(B:PW X (.BoolOp .And (b::rest) pos) d5):PW X (.BoolOp .And (a::b::rest) pos) (B0 tA d5):=by
 intro wh g s σ H Q I h;refine isTrue_and (fT (C g s σ H _ I h) λc v l=>?_);let⟨u,q,o⟩:=l;cases c with|true=>exact B wh g v σ u Q q o|false=>exact⟨u,q,o⟩
def Zt(C:PT X a tA)(B:PW X (.BoolOp .Or (b::rest) pos) d5):PW X (.BoolOp .Or (a::b::rest) pos) (tOr tA d5):=by
 intro wh g s σ H Q I h;refine isTrue_or (fT (C g s σ H _ I h) λc v l=>?_);let⟨u,q,o⟩:=l;cases c with|true=>exact⟨u,q,o⟩|false=>exact B wh g v σ u Q q o
def Z5(l:PT X a tA):PT X (.UnaryOp .Not a pos) (B6 tA):=by intro g s σ H Q I h;exact isTrue_not (l g s σ H (λc o=>Q (!c) o) I h)
noncomputable def GO(ta tb:TE):TE:=λσ H Q=>ta σ H λx g=>∃c,x=.bl c/\if c=true then tb σ g Q else Q (.bl false) g
noncomputable def Jx(ta tb:TE):TE:=λσ H Q=>ta σ H λx g=>∃c,x=.bl c/\if c=true then Q (.bl true) g else tb σ g Q
def WE{op}(h:PE X a t):PE X (.BoolOp op [a] pos) t:=λc s σ H Q I g=>BoolOp_one (h c s σ H Q I g)
def Y6(G:PE X a ta)(E:PE X (.BoolOp .And (b::rest) pos) tb):PE X (.BoolOp .And (a::b::rest) pos) (GO ta tb):=by
 intro g s σ H Q I h;refine BoolOp_and (fT (G g s σ H _ I h) λv B o=>?_);let⟨x,u,q,C,l⟩:=o;let⟨c,rfl,l⟩:=l;cases C;refine fJ ?_;cases c with|true=>exact E g B σ u Q q l|false=>exact⟨.bl false,u,q,rfl,l⟩
def U6(G:PE X a ta)(E:PE X (.BoolOp .Or (b::rest) pos) tb):PE X (.BoolOp .Or (a::b::rest) pos) (Jx ta tb):=by
 intro g s σ H Q I h;refine BoolOp_or (fT (G g s σ H _ I h) λv B o=>?_);let⟨x,u,q,C,l⟩:=o;let⟨c,rfl,l⟩:=l;cases C;refine fJ ?_;cases c with|false=>exact E g B σ u Q q l|true=>exact⟨.bl true,u,q,rfl,l⟩
noncomputable def Xq(t:TT)(ta tb:TE):TE:=λσ H Q=>t σ H λc g=>if c=true then ta σ g Q else tb σ g Q
def QaK(B:PT X c tA)(E:PE X a ta)(C:PE X b tb):PE X (.IfExp c a b pos) (Xq tA ta tb):=by
 intro g s σ H Q I h;refine wpAny_IfExp (fT (B g s σ H _ I h) λd o l=>?_);let⟨v,u,q⟩:=l;cases d with|true=>exact E g o σ v Q u q|false=>exact C g o σ v Q u q
end
def gS(K:ah)(H:Hp)(a:ak)(xs:List V):Prop:=
 Rd H a (.lst xs) \/
  ∃(o:Obj)(its:Array ag)(n:Nat),K.lookup a=some o/\o.cls=.type "list"/\o.dict=none/\o.data=.seq its n/\its.size<=sizeLine/\cq xs its.toList
def ml(K:ah)(H:Hp)(a:ak)(xs:List V):Prop:=
 Rd H a (.tup xs) \/
  ∃(o:Obj)(its:Array ag)(n:Nat),K.lookup a=some o/\o.cls=.type "tuple"/\o.dict=none/\o.data=.seq its n/\its.size<=sizeLine/\cq xs its.toList
noncomputable def M8:ag->Option V
 | .none=>some .non| .bool b=>some (.bl b)| .int i _=>some (.int i)| .str x _=>some (.str x)| .bytes b _=>some (.byt b)| .float b _=>some (.flt b)| .ref a=>some (.ref a)| .type n=>some (.ty n)|_=>none
def RelV.abs(r:RelV x u):M8 u=some x:=by
 cases x with|non=>cases r;rfl|bl _=>cases r;rfl|int _=>let⟨t,rfl⟩:=r;rfl|str _=>let⟨t,rfl⟩:=r;rfl|byt _=>let⟨t,rfl⟩:=r;rfl|flt _=>let⟨t,rfl⟩:=r;rfl|ref _=>cases r;rfl|ty _=>cases r;rfl
def RelV.inj(r:RelV x u)(q:RelV y u):x=y:=aM (r.abs.symm.trans q.abs)
theorem cq.inj:∀{xs ys:List V}{c:List ag},cq xs c->cq ys c->xs=ys
 |_,_,_,.nil,.nil=>rfl|_,_,_,.cons r t,.cons r' t'=>by rw[r.inj r',cq.inj t t']
section
variable{H:Hp}
def gS.of{K:ah}(h:H a=some (.lst xs)):gS K H a xs:=.inl (.inl h)
def ml.of{K:ah}(h:H a=some (.tup xs)):ml K H a xs:=.inl (.inl h)
def Inv.list(I:Inv X ar σ H s)(h:gS X.K H a xs):∃its:List ag,cq xs its/\PlainL s.heap a its.toArray/\xs.length<=sizeLine:=by
 rcases h with h|⟨o,its,n,g,l,hd,c,hz,r⟩
 ·let⟨z,its,n,r,e⟩:=h.ok I.hok;exact⟨its,r,⟨_,n,e,rfl,rfl,rfl⟩,z⟩
 ·refine⟨its.toList,r,⟨o,n,I.kIn a o g,l,hd,by simpa using c⟩,?_⟩;let e:=r.length;simp only[fG]at e;ext
def Inv.tupleD(I:Inv X ar σ H s)(h:ml X.K H a xs):∃its:List ag,cq xs its/\kJ s.heap a its.toArray/\xs.length<=sizeLine:=by
 rcases h with h|⟨o,its,n,g,l,hd,c,hz,r⟩
 ·let⟨z,its,r,p⟩:=h.ok I.hok;exact⟨its,r,p,z⟩
 ·refine⟨its.toList,r,⟨o,I.kIn a o g,l,⟨n,by simpa using c⟩,hd⟩,?_⟩;let e:=r.length;simp only[fG]at e;ext
def Inv.tuple(I:Inv X ar σ H s)(h:ml X.K H a xs):∃its:List ag,cq xs its/\xO s.heap a its.toArray/\xs.length<=sizeLine:=let ⟨its,r,p,z⟩:=I.tupleD h;⟨its,r,p.is,z⟩
def Inv.list_inj(I:Inv X ar σ H s)(h:gS X.K H a xs)(h':gS X.K H a ys):xs=ys:=by
 let⟨its,r,⟨o,n,e,_,_,d⟩,_⟩:=I.list h;let⟨its',g,⟨o',l,c,_,_,d'⟩,_⟩:=I.list h';rw[e]at c;cases c;rw[d]at d';injection d' with d1 _
 have:its=its':=by simpa using c_ Df d1
 subst this;exact r.inj g
def Inv.tuple_inj(I:Inv X ar σ H s)(h:ml X.K H a xs)(h':ml X.K H a ys):xs=ys:=by
 let⟨its,r,⟨o,e,_,n,d⟩,_⟩:=I.tuple h;let⟨its',g,⟨o',c,_,l,d'⟩,_⟩:=I.tuple h';rw[e]at c;cases c;rw[d]at d';injection d' with d1 _
 have:its=its':=by simpa using c_ Df d1
 subst this;exact r.inj g
end
noncomputable abbrev Cx.wish(X:Cx)(E:ag->am->Prop):Cx:={ X with xe:=E }
abbrev Cx.nox(X:Cx):Cx:=X.wish λ_ _=>False
theorem Cx.Ok.wish{X:Cx}(ok:X.Ok)(E:ag->am->Prop):(X.wish E).Ok:=
 ⟨ok.mod,ok.kind,ok.glob,ok.blt,ok.above,ok.inj,ok.has,ok.cab,ok.hd,ok.frames,ok.stk,ok.exf,ok.bs,ok.bsz,ok.noex,ok.exfs,ok.funs,ok.frf⟩
def Cx.Ok.unwish{X:Cx}(ok:(X.wish E).Ok):X.Ok:=
 ⟨ok.mod,ok.kind,ok.glob,ok.blt,ok.above,ok.inj,ok.has,ok.cab,ok.hd,ok.frames,ok.stk,ok.exf,ok.bs,ok.bsz,ok.noex,ok.exfs,ok.funs,ok.frf⟩
section
variable{X:Cx}
theorem Inv.wish(I:Inv X ar σ H s)(E:ag->am->Prop):Inv (X.wish E) ar σ H s:=⟨I.ok.wish E,I.os,I.bare,I.base,I.loc,I.cell,I.free,I.freeC,I.pin,I.hok,I.len⟩
theorem Inv.unwish(I:Inv (X.wish E) ar σ H s):Inv X ar σ H s:=⟨I.ok.unwish,I.os,I.bare,I.base,I.loc,I.cell,I.free,I.freeC,I.pin,I.hok,I.len⟩
theorem SP.unwish{D:Ends}(h:SP (X.wish E) ar D f g):SP X ar D f g:=by
 cases f with|next=>let⟨σ',c,I,q⟩:=h;exact⟨σ',c,I.unwish,q⟩|brk=>let⟨σ',c,I,q⟩:=h;exact⟨σ',c,I.unwish,q⟩|cont=>let⟨σ',c,I,q⟩:=h;exact⟨σ',c,I.unwish,q⟩|ret u=>let⟨v,σ',c,I,r,q⟩:=h;exact⟨v,σ',c,I.unwish,r,q⟩
theorem PE.nox(h:PE X.nox e t):PE X e t:=λar s σ H Q I g=>
 fM (h ar s σ H Q (I.wish _) g) (λ_ _ c=>by let⟨v,o,l,r,q⟩:=c;exact⟨v,o,l.unwish,r,q⟩) λ_ _ z=>c9 z
theorem PSs.nox{st:List Stmt}(h:PSs X.nox st t):PSs X st t:=λar s σ H D I c=>
 fM (h ar s σ H D (I.wish _) c) (λ_ _ q=>q.unwish) λ_ _ z=>c9 z
end
section
variable{st:Stmt}{rest:List Stmt}{t u:TS}{te:TE}{pos:Pos}
noncomputable def GR:TS:=λD σ H=>D.nx σ H
noncomputable def Nj(t u:TS):TS:=λD σ H=>t { D with nx:=u D } σ H
def PC:PSs X [] GR:=λ_ _ σ H _ I h=>u8 ⟨σ,H,I,h⟩
def Pd(o:PS X st t)(l:PSs X rest u):PSs X (st::rest) (Nj t u):=by
 intro c s σ H D I h;refine Ht (fT (o c s σ H { D with nx:=u D } I h) λf g q=>?_);cases f with
 |next=>
  let⟨σ',C,B,q⟩:=q;exact l c g σ' C D B q
 |ret v=>exact q|brk=>exact q|cont=>exact q
def Inv.quiet(I:Inv X c σ H s):interactive X.env=false:=by simp[interactive,I.ok.kind]
noncomputable def E5(te:TE):TS:=λD σ H=>te σ H λ_ c=>D.nx σ c
def YC(q:PE X e te)(o:kM e none pos.line X.env=pure false:=by rfl):PS X (.Expr e pos) (E5 te):=by intro c s σ H D I h;exact wpAny_Expr_any (fT (q c s σ H _ I h) λv E g=>by let⟨x,C,B,G,l⟩:=g;exact⟨σ,C,B,l⟩) I.quiet o
noncomputable def Mm(te:TE):TS:=λD σ H=>te σ H D.rt
def OO(q:PE X e te):PS X (.Return (some e) pos) (Mm te):=by intro g s σ H D I h;exact wpAny_Return_some (fT (q g s σ H _ I h) λv E c=>by let⟨x,C,B,l,o⟩:=c;exact⟨x,σ,C,B,l,o⟩)
noncomputable def Ej:TS:=λD _ H=>D.rt .non H
def WL:PS X (.Return none pos) Ej:=λ_ _ σ H _ I h=>wpAny_Return_none ⟨.non,σ,H,I,rfl,h⟩
noncomputable def MN(c:TT)(t u:TS):TS:=λD σ H=>c σ H λb g=>if b=true then t D σ g else u D σ g
def X4(E:PT X c o)(J:PSs X a t)(G:PSs X b u):PS X (.If c a b pos) (MN o t u):=by
 intro g s σ H D I h;refine wpAny_If (fT (E g s σ H _ I h) λd q l=>?_);let⟨C,B,v⟩:=l;cases d with|true=>exact J g q σ C D B v|false=>exact G g q σ C D B v
noncomputable def CP:TS:=λ_ _ _=>False
def Zy:PS X st CP:=λ_ _ _ _ _ _ h=>h.elim
end
abbrev TG:=V->St->Hp->(St->Hp->Prop)->Prop
abbrev As:=List V->St->Hp->(St->Hp->Prop)->Prop
def PG(X:Cx)(c:Expr)(t:TG):Prop:=
 ∀(ar:List (ak×Obj))(s:am)(σ:St)(H:Hp)(v:V)(u:ag)(Q:St->Hp->Prop),Inv X ar σ H s->RelV v u->t v σ H Q ->
  aG (aY X.prog X.w) X.A (pf c X.env u) (λ_ g=>∃σ' H',Inv X ar σ' H' g/\Q σ' H') X.xe s
def PGs(X:Cx)(ts:List Expr)(t:As):Prop:=
 ∀(ar:List (ak×Obj))(s:am)(σ:St)(H:Hp)(vs:List V)(us:List ag)(Q:St->Hp->Prop),Inv X ar σ H s->cq vs us->t vs σ H Q ->
  aG (aY X.prog X.w) X.A (assignInOrder ((dX ts X.env).map (·.2)) us) (λ_ c=>∃σ' H',Inv X ar σ' H' c/\Q σ' H') X.xe s
abbrev wQ:=V->V->V->Hp->(Hp->Prop)->Prop
def PSet(X:Cx)(t:wQ):Prop:=
 ∀(ar:List (ak×Obj))(s:am)(σ:St)(H:Hp)(o i v:V)(ov iv u:ag)(Q:Hp->Prop),Inv X ar σ H s->RelV o ov->RelV i iv->RelV v u->t o i v H Q ->
  aG (aY X.prog X.w) X.A (ph ov iv u) (λ_ g=>∃c,Inv X ar σ c g/\Q c) X.xe s
abbrev Dv:=V->V->Hp->VK->Prop
def MF(X:Cx)(op:qp)(t:Dv):Prop:=
 ∀(ar:List (ak×Obj))(s:am)(σ:St)(H:Hp)(x y:V)(v u:ag)(Q:VK),Inv X ar σ H s->RelV x v->RelV y u->t x y H Q ->
  aG (aY X.prog X.w) X.A (inplaceOp op v u) (EP X ar σ Q) X.xe s
section
variable{X:Cx}{pos:Pos}
noncomputable def uS(i:Nat):TG:=λv σ H Q=>Q (σ.set i (some v)) H
def SX{i:Nat}(q:X.N.Nodup)(l:X.N[i]?=some x)(g:Loc X.env.scope x)(o:X.fn x=true\/X.env.scope.names.lookup x=some .local:=by first|exact .inl rfl|exact .inr rfl|assumption):PG X (.Name x pos) (uS i):=by intro c s σ H v u Q I r h;exact D0 (LX I q l g r (λC B=>⟨_,H,B,h⟩) o)
noncomputable def K_:As:=λc σ H Q=>c=[]/\Q σ H
noncomputable def EV(t:TG)(u:As):As:=λc σ H Q=>∃v r,c=v::r/\t v σ H λσ' g=>u r σ' g Q
def Sl:PGs X [] K_:=by intro c s σ H g l Q I r h;let⟨e,h⟩:=h;subst e;cases r;exact assignInOrder_nil ⟨σ,H,I,h⟩
def Tt(C:PG X e t)(B:PGs X es u)(q:(dX (e::es) X.env).map (·.2)=pf e X.env::(dX es X.env).map (·.2):=by rfl):PGs X (e::es) (EV t u):=by
 intro c s σ H L U Q I r h;let⟨v,O,E,h⟩:=h;subst E;cases r with|cons r rr=>
  rw[q];refine assignInOrder_cons (fT (C c s σ H _ _ _ I r h) λ_ l g=>?_);let⟨σ1,J,G,o⟩:=g;exact B c l σ1 J _ _ Q G rr o
def Jc(K:ah)(n:Nat)(t:As):TG:=λv σ H Q=>∃a xs,v=.ref a/\ml K H a xs/\xs.length=n/\t xs σ H Q
def XO{k:Nat}{n:Nat}(L:X.calm=true)(h:PGs X es t)(G:(dX es X.env).length=n:=by rfl) (l:(dX es X.env).findIdx? (·.1)=none:=by rfl):PG X (.Tuple es k pos) (Jc X.K n t):=by
 intro c s σ H v u Q I r g;let⟨a,xs,O,E,J,g⟩:=g;subst O;cases r;let⟨its,q,C,hz⟩:=I.tuple E;refine assign_Tuple_tuple (I.ok.hd L) C (by simp[G,<- J,q.length]) l λh' B=>?_;let U:Inv X c σ H { s with heap:=h' }:=I.kept (t':=s.toks) λb o e=>B b o (ba (aL e)) e;exact h c _ σ H xs _ Q U (by simpa using q) g
noncomputable def L5(to c:TE)(t:wQ):TG:=λv σ H Q=>to σ H λo l=>c σ l λi h=>t o i v h λg=>Q σ g
def QaW(ho:PE X o to)(hi:PE X i E)(hs:PSet X t)(ha:∀v,pf (.Subscript o i pos) X.env v=(do
   let g <- k_ [v] (eval o X.env)
   let C <- k_ [v,g] (eval i X.env)
   yZ pos
   k_ [v,g,C] (ph g C v)
   D1 [v,g,C] []):=by intro _;rfl):PG X (.Subscript o i pos) (L5 to E t):=by
 intro c s σ H v u Q I r h;rw[ha];refine ab (bV (fT (ho c s σ H _ I h) λg J B=>?_));let⟨x,H1,I1,O,q1⟩:=B;refine ab (bV (fT (hi c J σ H1 _ I1 q1) λC G q=>?_));let⟨y,H2,I2,L,Y⟩:=q;refine ab (xl (ab (bV (fT (hs c G σ H2 x y v g C u _ I2 O L r Y) λ_ s3 l=>?_))));let⟨H3,I3,U⟩:=l;exact wpAny_release ⟨σ,H3,I3,U⟩
noncomputable def Ac(c:TE)(g:TG):TS:=λD σ H=>c σ H λx h=>g x σ h D.nx
def YE(J : PE X e l)(G : PG X tg g)(E : swapsWithSole [tg] e pos.line X.env = pure false := by rfl)(C : swappedStores [tg] e X.env = pure none := by rfl)
  (L:(dX [tg] X.env).map (·.2)=[pf tg X.env]:=by rfl):PS X (.Assign [tg] e pos) (Ac l g):=by
 intro c s σ H D I h;refine wpAny_Assign_stores (fT (J c s σ H _ I h) λv o ⟨x,Q,O,u,B⟩=>?_) E C;rw[L];exact fT (G c o σ Q x v _ O u B) λ_ U q=>q
def Vr{i : Nat}(J : X.N.Nodup)(C : X.N[i]? = some x)(u : Loc X.env.scope x)(G : PE X e l)(B : kM e (some (.Name x c)) pos.line X.env = pure false := by rfl)(E : X.fn x = true \/ X.env.scope.names.lookup x = some .local := by first|exact .inl rfl|exact .inr rfl|assumption):
  PS X (.Assign [.Name x c] e pos) (Ac l (uS i)):=by
 intro g s σ H D I h;refine wpAny_Assign_Name (fT (G g s σ H _ I h) λv Y ⟨y,Q,O,o,q⟩=>?_) B;exact LX O J C u o (λU L=>⟨_,Q,L,q⟩) E
noncomputable def G0(i:Nat)(g:TE)(c:Dv):TS:=λD σ H=>∃x,σ[i]?=some (some x)/\g σ H λy l=>c x y l λz h=>D.nx (σ.set i (some z)) h
def U8{i : Nat}(hN : X.N.Nodup)(O : X.N[i]? = some x)(G : Loc X.env.scope x)(he : PE X e L)(ho : MF X op J)(hf : X.fn x = true \/ X.env.scope.names.lookup x = some .local := by first|exact .inl rfl|exact .inr rfl|assumption):
  PS X (.AugAssign (.Name x E) op e pos) (G0 i L J):=by
 intro g s σ H D I h;let⟨v,e1,h⟩:=h;let⟨m,hn,hl⟩:=I.loc;let vis:Fv X.env.scope x:=by rcases G with k|k;exact .inl k;exact .inr (.inl k)
 let⟨u,r,l⟩:=hl i x v O e1 vis;refine wpAny_AugAssign_Name ?_;let go:aG (aY X.prog X.w) X.A (eval e X.env) (λw s₂=>aG (aY X.prog X.w) X.A (inplaceOp op u w) (λr s₃=>aG (aY X.prog X.w) X.A (qQ X.env x r) (λ_=>SP X g D .next) X.xe s₃) X.xe s₂) X.xe s:=by refine fT (he g s σ H _ I h) λw Q C=>?_;let⟨y,H1,I1,Y,q1⟩:=C;refine fT (ho g Q σ H1 v y u w _ I1 r Y q1) λz s2 B=>?_;let⟨zv,H2,I2,U,q2⟩:=B;exact LX I2 hN O G U (λs3 I3=>⟨_,H2,I3,q2⟩) hf
 rcases l with ⟨o,hm⟩|⟨o,c,hc,q⟩
 ·exact AJ I.ok.kind o hn hm go
 ·rcases o with o|o
  ·exact Bl I.ok.kind o hc q go
  ·rcases G with k|k
   ·have:X.env.scope.names.lookup x=some .free:=o;rw[k]at this;cases this
   ·have:X.env.scope.names.lookup x=some .free:=o;rw[k]at this;cases this
noncomputable def EF(to l q:TE)(g:V->V->Hp->VK->Prop)(h:Dv)(c:wQ):TS:=λD σ H=>to σ H λo G=>l σ G λi E=>g o i E λx C=>q σ C λy B=>h x y B λz v=>c o i z v λu=>D.nx σ u
def ET(X:Cx)(t:V->V->Hp->VK->Prop):Prop:=
 ∀(ar:List (ak×Obj))(s:am)(σ:St)(H:Hp)(o i:V)(ov iv:ag)(Q:VK),Inv X ar σ H s->RelV o ov->RelV i iv->t o i H Q ->
  aG (aY X.prog X.w) X.A (nU ov iv) (EP X ar σ Q) X.xe s
def Qa0(ho:PE X o to)(hi:PE X i Y)(hg:ET X l)(he:PE X e te)(hp:MF X op C)(hs:PSet X g)(ha:∀q u new,augStore i q u new=(do k_ [new,q,u] (ph q u new);D1 [new,q,u] [];pure .next):=by intros;rfl):PS X (.AugAssign (.Subscript o i B) op e pos) (EF to Y te l C g):=by
 intro c s σ H D I h;refine wpAny_AugAssign_SubscriptAny (fT (ho c s σ H _ I h) λq s1 ⟨U,H1,I1,r1,q1⟩=>?_) ha;refine fT (hi c s1 σ H1 _ I1 q1) λu s2 O=>?_;let⟨Q,H2,I2,r2,q2⟩:=O;refine fT (hg c s2 σ H2 U Q q u _ I2 r1 r2 q2) λold s3 L=>?_;let⟨x3,H3,I3,r3,q3⟩:=L;refine fT (he c s3 σ H3 _ I3 q3) λv s4 J=>?_;let⟨x4,H4,I4,r4,q4⟩:=J;refine fT (hp c s4 σ H4 x3 x4 old v _ I4 r3 r4 q4) λnew s5 G=>?_;let⟨x5,H5,I5,r5,q5⟩:=G;exact fT (hs c s5 σ H5 U Q x5 q u new _ I5 r1 r2 r5 q5) λ_ s6 E=>by let⟨H6,I6,q6⟩:=E;exact⟨σ,H6,I6,q6⟩
noncomputable def RH(f:Int->Int->Int):Dv:=λx y H Q=>∃i j,x=.int i/\y=.int j/\Q (.int (f i j)) H
def NY:MF X .Add (RH λi j=>i+j):=by intro c s σ H x y v u Q I l g h;let⟨i,j,B,o,q⟩:=h;subst B;subst o;let⟨t,rfl⟩:=l;let⟨t',rfl⟩:=g;exact iadd_int ⟨.int _,H,I.tok _,⟨_,rfl⟩,q⟩
end
section
variable{X:Cx}
def Ca(c:TT)(tb:TS):TS:=λD σ H=>∃W:Nat->St->Hp->Prop,(∃m,W m σ H)/\∀m σ H,W m σ H ->
 c σ H λb h=>if b=true then ∃N:St->Hp->Prop,(∀σ' H',N σ' H'->∃g,g < m/\W g σ' H')/\tb { D with nx:=N,ct:=N,bk:=D.nx } σ h else D.nx σ h
def WZ{tb:TS}(U:uq (aY X.prog X.w) X.A X.env X.xe)(hc:PT X c Q)(hb:PSs X l tb):PS X (.While c l [] pos) (Ca Q tb):=by
 intro g s σ H D I h;let⟨W,⟨m0,w0⟩,o⟩:=h;refine wpAny_While (codeAny_whileLoop (λn s'=>∃σ' H',Inv X g σ' H' s'/\W n σ' H') ?_ m0 ⟨σ,H,I,w0⟩)
 rintro n s1 ⟨σ1,H1,I1,w1⟩
 refine iz U (fT (hc g s1 σ1 H1 _ I1 (o n σ1 H1 w1)) λb s2 q=>?_);let⟨H2,I2,C⟩:=q;cases b with
 |true=>
  let⟨N,Y,C⟩:=C;rw[aH rfl];refine iz U (fT (hb g s2 σ1 H2 _ I2 C) λf s3 B=>?_);cases f with
  |next=>
   let⟨σ3,u,O,G⟩:=B;let⟨J,L,E⟩:=Y σ3 u G;exact⟨J,L,σ3,u,O,E⟩
  |cont=>
   let⟨σ3,u,O,G⟩:=B;let⟨J,L,E⟩:=Y σ3 u G;exact⟨J,L,σ3,u,O,E⟩
  |brk=>exact B|ret v=>exact B
 |false=>
  rw[aD bE];exact u8 ⟨σ1,H2,I2,C⟩
end
structure It where
 go:Nat->Hp->Prop
 yld:Nat->Hp->V->Hp->Prop
 stop:Nat->Hp->Prop
def o_(X:Cx)(g:List (ak×Obj))(H:Hp)(b:ak):Prop:=
 H b=none/\b≠X.env.locals/\b∉X.fs/\(b∈X.ex\/X.s₀.heap.objs.size<=b)/\(∀x c,X.env.cells.lookup x=some c->c≠b)/\∀p∈X.pn++g,p.1≠b
def Inv.fpOk{H l:Hp}(I:Inv X g σ H s)(h:s.heap.objs.size<=b)(u:l b=none):o_ X g l b:=by
 refine⟨u,dk (bb I.lt h),I.nofs h,.inr (cW I.sz h),λx c e z=>?_,λp o z=>?_⟩
 ·let⟨v,q⟩:=I.cell x c e;exact bh (bb q.lt (by rw[z];exact h)) (cM _)
 ·exact bh (bb (aL (I.pin p o).1) (by rw[z];exact h)) (cM _)
structure u5(P:Program)(w:bM)(K:ah)(tg:Expr)(J:It)(fp:List ak)(it:ak)(tn:Nat->bK->Prop):Prop where
 mem:it∈fp
 obj:∀i h,tn i h->∀b∈fp,∃o,h.get? b=some o/\∀v,o.data≠.cell v
 keep:∀i h h',tn i h->(∀b∈fp,∀o,h.get? b=some o->h'.get? b=some o)->tn i h'
 item:∀(X:Cx),X.prog=P->X.w=w->X.K=K->X.calm=true->∀(i:Nat)(ar:List (ak×Obj))(s:am)(σ:St)(H:Hp)(E:ag->am->Prop),Inv X ar σ H s->(∀b∈fp,o_ X ar H b)->tn i s.heap->J.go i H ->
  aG (aY P w) X.A (ic (.ref it)) (λr s1=>∃u,r=some u /\
   aG (aY P w) X.A (py tg (.ref it) u) (λ_ s2=>∃x H',Inv X ar σ H' s2/\RelV x u/\J.yld i H x H'/\tn (i+1) s2.heap/\∀b∈fp,H' b=none) E s1) E s
 done:∀(X:Cx),X.prog=P->X.w=w->X.K=K->X.calm=true->∀(i:Nat)(ar:List (ak×Obj))(s:am)(σ:St)(H:Hp)(E:ag->am->Prop),Inv X ar σ H s->(∀b∈fp,o_ X ar H b)->tn i s.heap->J.stop i H ->
  aG (aY P w) X.A (ic (.ref it)) (λr s1=>r=none/\Inv X ar σ H s1) E s
 self:∀(A:bI)(i:Nat)(s:am)(Q:ag->am->Prop)(E:ag->am->Prop),tn i s.heap->Q (.ref it) s->aG (aY P w) A (y0 (.ref it)) Q E s
abbrev TI:=St->Hp->(It->Hp->Prop)->Prop
def Rv(X:Cx)(c:List (ak×Obj))(σ:St)(tg:Expr)(R:It->Hp->Prop)(g:ag)(o:am):Prop:=
 ∃(q:ak)(fp:List ak)(l:Nat->bK->Prop)(J:It)(h:Hp),g=.ref q/\Inv X c σ h o/\u5 X.prog X.w X.K tg J fp q l/\l 0 o.heap/\(∀b∈fp,o_ X c h b)/\R J h
def PI(X:Cx)(tg iter:Expr)(c:TI):Prop:=
 ∀(ar:List (ak×Obj))(s:am)(σ:St)(H:Hp)(R:It->Hp->Prop),Inv X ar σ H s->c σ H R ->
  aG (aY X.prog X.w) X.A (eval iter X.env) (λv g=>aG (aY X.prog X.w) X.A (y0 v) (Rv X ar σ tg R) X.xe g) X.xe s
def Ic{M:DZ}{s:am}{Q:Unit->am->Prop}(q:s.heap.get? l=some o)(B:o.cls=.type n)(hd:o.data=.fields g)(v:["enumerate","zip","dict_itemiterator","dict_reverseitemiterator","odict_iterator","itertools.zip_longest","itertools.pairwise"].contains n=false) (c:Q Unit.unit s):aG M A (py tg (.ref l) u) Q E s:=by
 unfold py;cases tg<;>first
  |exact ai c
  | (cases u <;> first
    |exact ai c
    | (refine ab (wpAny_load q ?_)
       rw[B,hd]
       show aG M A (if (["enumerate","zip","dict_itemiterator","dict_reverseitemiterator","odict_iterator","itertools.zip_longest","itertools.pairwise"].contains n&&g[0]? == some (dP _))=true then _ else _) Q E s;rw[aD (by intro h;rw[v,tR]at h;cases h)];exact ai c))
def IN(K:ah)(a:ak):It:=
 ⟨λi H=>∃xs x,gS K H a xs/\xs[i]?=some x,λi H x c=>c=H/\∀xs,gS K H a xs->xs[i]?=some x,λi H=>∃xs,gS K H a xs/\xs.length<=i⟩
def L9(K:ah)(a:ak):It:=
 ⟨λi H=>∃xs x,ml K H a xs/\xs[i]?=some x,λi H x c=>c=H/\∀xs,ml K H a xs->xs[i]?=some x,λi H=>∃xs,ml K H a xs/\xs.length<=i⟩
noncomputable def Fj(lo:Int)(n:Nat):It:=⟨λi _=>i < n,λi H x c=>c=H/\x=.int (lo+i),λi _=>n<=i⟩
def Ro{K:ah}(a l:ak):u5 P w K tg (IN K a) [l] l (λi h=>h.IsListIter l a i) where
 mem:=by simp
 obj:=λi h st b q=>by
  let e:b=l:=by simpa using q
  subst e;let⟨o,e,c,d⟩:=st;exact⟨o,e,λv z=>by rw[d]at z;cases z⟩
 keep:=λi h h' st k=>st.at λo e=>k l (by simp) o e
 item:=by intro X U O Y hc i g s σ H E I G st Q;subst U O Y;let⟨xs,x,C,L⟩:=Q;let⟨its,J,p,hz⟩:=I.list C;let⟨u,hu,ru⟩:=J.get L;let⟨f0,f1,f2,f3,f4,f5⟩:=G l (by simp);refine y9 st p.isList (x:=u) (by simpa using hu) λh' B sb=>?_;have I1:Inv X g σ H { s with heap:=h' }:=I.turned (t':=s.toks) (λb o q e=>(sb.2 b q).trans e) f0 f1 f3 f4 f5;let⟨o,e,c,d⟩:=id B;exact⟨u,rfl,Ic (s:={ s with heap:=h' }) e c d (by decide) ⟨x,H,I1,ru,⟨rfl,λys hy=>by rw[I.list_inj hy C];exact L⟩,B,λb q=>(G b q).1⟩⟩
 done:=by intro X U O Y hc i g s σ H E I G st Q;subst U O Y;let⟨xs,C,L⟩:=Q;let⟨its,J,p,hz⟩:=I.list C;let⟨f0,f1,f2,f3,f4,f5⟩:=G l (by simp);have hl:=J.length;exact zH (I.ok.hd hc) st p.isList (by simp;ext) λh' eb=>⟨rfl,I.turned (t':=s.toks) (λb o q e=>eb b o q e) f0 f1 f3 f4 f5⟩
 self:=λ_ _ _ _ _ st h=>wpAny_pyIter_listiter st h
def Th{K:ah}(a l:ak):u5 P w K tg (L9 K a) [l] l (λi h=>h.IsTupleIter l a i) where
 mem:=by simp
 obj:=λi h st b q=>by
  let e:b=l:=by simpa using q
  subst e;let⟨o,e,c,d⟩:=st;exact⟨o,e,λv z=>by rw[d]at z;cases z⟩
 keep:=λi h h' st k=>st.at λo e=>k l (by simp) o e
 item:=by intro X U O Y hc i g s σ H E I G st Q;subst U O Y;let⟨xs,x,C,L⟩:=Q;let⟨its,J,p,hz⟩:=I.tuple C;let⟨u,hu,ru⟩:=J.get L;let⟨f0,f1,f2,f3,f4,f5⟩:=G l (by simp);refine wpAny_pyNext_tuple_item st (show s.heap.IsTuple a its.toArray from p) (x:=u) (by simpa using hu) λh' B sb=>?_;have I1:Inv X g σ H { s with heap:=h' }:=I.turned (t':=s.toks) (λb o q e=>(sb.2 b q).trans e) f0 f1 f3 f4 f5;let⟨o,e,c,d⟩:=id B;exact⟨u,rfl,Ic (s:={ s with heap:=h' }) e c d (by decide) ⟨x,H,I1,ru,⟨rfl,λys hy=>by rw[I.tuple_inj hy C];exact L⟩,B,λb q=>(G b q).1⟩⟩
 done:=by intro X U O Y hc i g s σ H E I G st Q;subst U O Y;let⟨xs,C,L⟩:=Q;let⟨its,J,p,hz⟩:=I.tuple C;let⟨f0,f1,f2,f3,f4,f5⟩:=G l (by simp);have hl:=J.length;exact wpAny_pyNext_tuple_end (I.ok.hd hc) st (show s.heap.IsTuple a its.toArray from p) (by simp;ext) λh' eb=>⟨rfl,I.turned (t':=s.toks) (λb o q e=>eb b o q e) f0 f1 f3 f4 f5⟩
 self:=λ_ _ _ _ _ st h=>wpAny_pyIter_tupleiter st h
def Uh{K:ah}(g:ak)(lo:Int)(n:Nat):u5 P w K tg (Fj lo n) [g] g (λi h=>IsRangeIter h g (lo+(i:Nat)*1) ((n:Int)-(i:Nat)) 1) where
 mem:=by simp
 obj:=λi h st b l=>by
  let e:b=g:=by simpa using l
  subst e;exact⟨_,st,λv z=>by have z':Hu _=Data.cell v:=z;cases z'⟩
 keep:=λi h h' st k=>k g (by simp) _ st
 item:=by intro X J B L G i c s σ H E I u st C;subst J B L;let⟨f0,Y,f2,U,Q,O⟩:=u g (by simp);have W:=Walks.range (prog:=X.prog) (w:=X.w) (I.ok.hd G) g lo 1 n;refine W.item i s _ _ C st λv h' tk hv q kk=>?_;let⟨t,rfl⟩:=hv;have I1:Inv X c σ H { s with heap:=h',toks:=tk }:=I.turned (λb o l e=>kk b o (by simpa using l) e) f0 Y U Q O;refine⟨_,rfl,Ic (s:={ s with heap:=h',toks:=tk }) (n:="range_iterator") q rfl rfl (by decide) ⟨.int (lo+i),H,I1,⟨t,?_⟩,⟨rfl,rfl⟩,q,λb l=>(u b l).1⟩⟩;rw[Int.mul_one]
 done:=by intro X J B L G i c s σ H E I u st C;subst J B L;let⟨f0,Y,f2,U,Q,O⟩:=u g (by simp);exact wpAny_pyNext_range_end (I.ok.hd G) st (by have:n<=i:=C;ext) λh' eb=>⟨rfl,I.turned (t':=s.toks) (λb o l e=>eb b o l e) f0 Y U Q O⟩
 self:=λ_ _ _ _ _ st h=>wpAny_pyIter_rangeiter st h
section
variable{X:Cx}
def Ek(K:ah)(g:TE):TI:=λσ H R=>g σ H λx c=>∃a,x=.ref a/\(∃xs,gS K c a xs)/\R (IN K a) c
def Y2(L:PE X l C):PI X tg l (Ek X.K C):=by
 intro g s σ H R I h;refine fT (L g s σ H _ I h) λv u c=>?_;let⟨x,Q,B,E,G⟩:=c;let⟨a,e,⟨xs,J⟩,q⟩:=G;subst e;cases E;let⟨its,U,p,hz⟩:=B.list J;refine fK p.isList ?_;refine⟨u.heap.objs.size,[u.heap.objs.size],_,_,Q,rfl,B.kept (t':=u.toks) λb o e=>aj _ e,Ro a _,⟨_,ay _ rfl,rfl,rfl⟩,λb O=>?_,q⟩;let e:b=u.heap.objs.size:=by simpa using O
 subst e;exact B.fpOk (aw _) (B.hok.fresh (aw _))
def Pm{R:It->Hp->Prop}{lo c:Int}{h:Nat}(I:Inv X g σ H s)(L : -(2^62)<=lo)(J:lo < 2^62)(G : -(2^62)<=c)(C:c < 2^62)(q:R (Fj lo (c-lo).toNat) H):aG (aY X.prog X.w) X.A (y0 (.ref s.heap.objs.size)) (Rv X g σ tg R) E { s with heap:=s.heap.push { cls:=.type "range",data:=.fields #[.int lo t,.int c u,.int 1 v] },toks:=h }:=by
 refine wpAny_pyIter_range (IsRange.new ..) (small_one L J G C) ?_;let l:Inv X g σ H { s with heap:=s.heap.push { cls:=.type "range",data:=.fields #[.int lo t,.int c u,.int 1 v] },toks:=h }:=I.kept λb o e=>aj _ e;refine⟨(s.heap.push { cls:=.type "range",data:=.fields #[.int lo t,.int c u,.int 1 v] }).objs.size,[(s.heap.push { cls:=.type "range",data:=.fields #[.int lo t,.int c u,.int 1 v] }).objs.size],_,_,H,rfl,
  l.kept (t':=h) λb o e=>aj _ e,Uh _ lo (c-lo).toNat,?_,λb B=>?_,q⟩
 ·let Q:lo+((0:Nat):Int)*1=lo:=by simp
  let O:(((c-lo).toNat:Nat):Int)-((0:Nat):Int)=Builtin.Range.rangeSize lo c 1:=by rw[rangeSize_one];split<;>ext
  show IsRangeIter _ _ (lo+((0:Nat):Int)*1) ((((c-lo).toNat:Nat):Int)-((0:Nat):Int)) 1;rw[Q,O];exact ay _ rfl
 ·let e:b=(s.heap.push { cls:=.type "range",data:=.fields #[.int lo t,.int c u,.int 1 v] }).objs.size:=by simpa using B
  subst e;exact l.fpOk (aw _) (l.hok.fresh (aw _))
def fN(g:TA):TI:=λσ H R=>g σ H λc h=>∃j:Int,c=[.int j] /\ -(2^62)<=j/\j < 2^62/\R (Fj 0 j.toNat) h
def n8(g:TA):TI:=λσ H R=>g σ H λc h=>∃i j:Int,c=[.int i,.int j]/\(-(2^62)<=i/\i < 2^62 /\ -(2^62)<=j/\j < 2^62)/\R (Fj i (j-i).toNat) h
def Qa9(C:Gl X "range")(B:X.mg "range"=none)(E:PA X [a] l)(v:starEach [a] X.env=[(false,eval a X.env)]:=by rfl):PI X tg (.Call (.Name "range" p) [a] [] pos) (fN l):=by
 intro c s σ H R I h;refine Call_ (xF I C B boot_range (cw (fT (E pos c s σ H _ I h) λL O ⟨J,Q,G,o,g⟩=>?_) v rfl));let⟨j,e,g,u,q⟩:=g;subst e;cases o with|cons r rr=>
  cases rr;let⟨t,rfl⟩:=r;exact call_range_1 (Pm G () () g u (by simpa using q))
def TN(J : Gl X "range")(G : X.mg "range" = none)(L : PA X [a, b] o)(E : starEach [a, b] X.env = [(false, eval a X.env), (false, eval b X.env)] := by rfl)(g : starEach [b] X.env = [(false, eval b X.env)] := by rfl):
  PI X tg (.Call (.Name "range" p) [a,b] [] pos) (n8 o):=by
 intro c s σ H R I h;refine Call_ (xF I J G boot_range (cw (fT (L pos c s σ H _ I h) λU Y ⟨Q,H1,O,u,l⟩=>?_) (by rw[E,g]) (by rw[g];rfl)));let⟨i,j,e,⟨l,C,B,v⟩,q⟩:=l;subst e;cases u with|cons r rr=>
  cases rr with|cons r' rr=>
   cases rr;let⟨t,rfl⟩:=r;let⟨t',rfl⟩:=r';exact call_range_2 (Pm O l C B v q)
def J4(l:TI)(g:TG)(tb:TS):TS:=λD σ H=>l σ H λJ q=>∃W:Nat->Nat->St->Hp->Prop,(∃m,W 0 m σ q)/\∀i m σ H,W i m σ H ->
 (J.stop i H/\D.nx σ H)\/(J.go i H/\∃N:St->Hp->Prop,(∀σ' c,N σ' c->∃h,h < m/\W (i+1) h σ' c)/\∀x c,J.yld i H x c->g x σ c λσ2 o=>tb { D with nx:=N,ct:=N,bk:=D.nx } σ2 o)
noncomputable def mG(fp:List ak)(h:bK):List (ak×Obj):=fp.filterMap λb=>(h.get? b).map λo=>(b,o)
def GA{fp:List ak}{h:bK}(c:b∈fp)(e:h.get? b=some o):(b,o)∈mG fp h:=my.mpr ⟨b,c,by rw[e];rfl⟩
def XS(c:p∈mG fp h):p.1∈fp/\h.get? p.1=some p.2:=by
 let⟨b,g,e⟩:=my.mp c;cases q:h.get? b with|none=>rw[q]at e;cases e|some o=>
  rw[q]at e;let l:(b,o)=p:=aM e;subst l;exact⟨g,q⟩
def Inv.pinned{fp:List ak}(I:Inv X c σ H s)(u:∀b∈fp,o_ X c H b)(q:∀b∈fp,∃o,s.heap.get? b=some o/\∀v,o.data≠.cell v):Inv X (c++mG fp s.heap) σ H s:=
 I.pins_of λp l=>(aP.mp l).elim (λz=>I.pin p (bn _ z)) λz=>by let⟨g,e⟩:=XS z;let⟨E,C,B,_⟩:=u p.1 g;let⟨o,h,d⟩:=q p.1 g;rw[e]at h;cases h;exact⟨e,E,C,B,d⟩
def Inv.unpinned(I:Inv X (c++g) σ H s):Inv X c σ H s:=I.pins_of λp h=>I.pin p (bn _ (bz _ h))
def W1{tb:TS}(hp:uq (aY X.prog X.w) X.A X.env X.xe)(hc:X.calm=true)(hi:PI X tg iter wi)(hg:PG X tg g)(q:PSs X L tb)(hs:∀x,fL iter X.env x=pure x:=by intro _;rfl):PS X (.For tg iter L [] pos) (J4 wi g tb):=by
 intro c s σ H D I h;refine wpAny_For (fT (hi c s σ H _ I h) λv s1 h1=>fT h1 λitv s2 h2=>?_) hs;let⟨it,fp,tn,J,H2,e,I2,T,st2,f2,W,⟨m0,w0⟩,Q⟩:=h2;subst e;let l:∀{E:Hp},(∀b∈fp,E b=none)->∀b∈fp,o_ X c E b:=λhn b q=>⟨hn b q,(f2 b q).2⟩
 refine codeAny_forLoop_any (λn s'=>∃i σ' E,Inv X c σ' E s'/\tn i s'.heap/\(∀b∈fp,E b=none)/\W i n σ' E) ?_ m0 ⟨0,σ,H2,I2,st2,λb q=>(f2 b q).1,w0⟩
 rintro n s3 ⟨i,σ3,H3,I3,st3,fr3,w3⟩
 rcases Q i n σ3 H3 w3 with ⟨U,qn⟩|⟨go,N,hN,step⟩
 ·refine iz hp (fT (T.done X rfl rfl rfl hc i c s3 σ3 H3 X.xe I3 (l fr3) st3 U) λr s4 g=>?_);let⟨hr,h⟩:=g;subst hr;exact u8 ⟨σ3,H3,h,qn⟩
 ·refine iz hp (fT (T.item X rfl rfl rfl hc i c s3 σ3 H3 X.xe I3 (l fr3) st3 go) λr s4 h=>?_);let⟨u,hr,h4⟩:=h;subst hr;refine iz hp (fT h4 λ_ Q g=>?_);let⟨x,U,I5,r5,y5,O,J⟩:=g;let L:=I5.pinned (l J) (T.obj _ _ O);refine iz hp (fT (hg _ Q σ3 U x u _ L r5 (step x U y5)) λ_ s6 Y=>?_);let⟨σ6,H6,I6,q6⟩:=Y;refine iz hp (fT (q _ s6 σ6 H6 _ I6 q6) λf I G=>?_);let again:∀{σ7:St}{C:Hp},Inv X (c++mG fp Q.heap) σ7 C I->N σ7 C->∃m,m < n/\∃i σ' E,Inv X c σ' E I/\tn i I.heap/\(∀b∈fp,E b=none)/\W i m σ' E:=λ{σ7 C}B H=>by let⟨m',hm,w7⟩:=hN σ7 C H;refine⟨m',hm,i+1,σ7,C,B.unpinned,T.keep _ _ _ O λb q o e=>(B.pin (b,o) (bn _ (bn _ (GA q e)))).1,λb q=>?_,w7⟩;let⟨o,e,d⟩:=T.obj _ _ O b q;exact (B.pin (b,o) (bn _ (bn _ (GA q e)))).2.1
  cases f with|next=>let⟨σ7,C,B,H⟩:=G;exact again B H|cont=>let⟨σ7,C,B,H⟩:=G;exact again B H|brk=>let⟨σ7,C,B,G⟩:=G;exact⟨σ7,C,B.unpinned,G⟩|ret v=>let⟨x7,σ7,C,B,r7,G⟩:=G;exact⟨x7,σ7,C,B.unpinned,r7,G⟩
end
abbrev R2:=V->V->Hp->VK->Prop
def OpR(X:Cx)(f:ag->ag->Sem ag)(r:R2):Prop:=
 ∀(ar:List (ak×Obj))(s:am)(σ:St)(H:Hp)(x y:V)(v u:ag)(Q:VK),Inv X ar σ H s->RelV x v->RelV y u->r x y H Q ->
  aG (aY X.prog X.w) X.A (f v u) (EP X ar σ Q) X.xe s
def G3(X:Cx)(f:ag->Sem ag)(r:V->Hp->VK->Prop):Prop:=
 ∀(ar:List (ak×Obj))(s:am)(σ:St)(H:Hp)(x:V)(v:ag)(Q:VK),Inv X ar σ H s->RelV x v->r x H Q ->
  aG (aY X.prog X.w) X.A (f v) (EP X ar σ Q) X.xe s
def CallR(X:Cx)(f:ag)(r:List V->Hp->VK->Prop):Prop:=
 ∀(ar:List (ak×Obj))(s:am)(σ:St)(H:Hp)(xs:List V)(us:List ag)(Q:VK),Inv X ar σ H s->cq xs us->r xs H Q ->
  aG (aY X.prog X.w) X.A (call f us) (EP X ar σ Q) X.xe s
def JY(X:Cx)(r:V->Hp->(Bool->Hp->Prop)->Prop):Prop:=
 ∀(ar:List (ak×Obj))(s:am)(σ:St)(H:Hp)(x:V)(v:ag)(Q:Bool->Hp->Prop),Inv X ar σ H s->RelV x v->r x H Q ->
  aG (aY X.prog X.w) X.A (truthy v) (TP X ar σ Q) X.xe s
noncomputable def Gq(r:R2)(c tb:TE):TE:=λσ H Q=>c σ H λx h=>tb σ h λy g=>r x y g Q
noncomputable def PF(r:V->Hp->VK->Prop)(c:TE):TE:=λσ H Q=>c σ H λx g=>r x g Q
noncomputable def rI(C:Int->Int->Prop)(g:Int->Int->V):R2:=λx y H Q=>∃i j,x=.int i/\y=.int j/\C i j/\Q (g i j) H
noncomputable def C5(g:Int->Int->V):R2:=λx y H Q=>∃i j,x=.int i/\y=.int j/\Q (g i j) H
noncomputable def rU(g:Int->V):V->Hp->VK->Prop:=λx H Q=>∃i,x=.int i/\Q (g i) H
section
variable{X:Cx}{ta tb tc:TE}
def C4(c:PE X a ta)(Y:PE X b tb){R:V->V->Hp->Prop}(I:Inv X g σ H s)(h:ta σ H λx C=>tb σ C λy l=>R x y l) {f:ag->ag->Sem ag}(U:∀v u B x y l,Inv X g σ l B->RelV x v->RelV y u->R x y l->aG (aY X.prog X.w) X.A (f v u) Q X.xe B):aG (aY X.prog X.w) X.A (eval a X.env) (λv s₁=>aG (aY X.prog X.w) X.A (eval b X.env) (λu s₂=>aG (aY X.prog X.w) X.A (f v u) Q X.xe s₂) X.xe s₁) X.xe s:=by
 refine fT (c g s σ H _ I h) λv E q=>?_;let⟨x,C,I1,J,O⟩:=q;refine fT (Y g E σ C _ I1 O) λu B o=>?_;let⟨y,l,I2,G,L⟩:=o;exact U v u B x y l I2 J G L
def Y_(C:OpR X (fH op) r)(G:PE X a ta)(E:PE X b tb):PE X (.BinOp a op b pos) (Gq r ta tb):=by intro g s σ H Q I h;exact wpAny_BinOp (C4 G E I h λv u l x y L J B o q=>C g l σ L x y v u Q J B o q)
def Oz(B:G3 X (D2 op) r)(C:PE X a ta):PE X (.UnaryOp op a pos) (PF r ta):=by intro g s σ H Q I h;exact UnaryOp_ (fT (C g s σ H _ I h) λv o l=>by let⟨x,G,E,q,u⟩:=l;exact B g o σ G x v Q E q u)
def ui{f:ag->ag->Sem ag}{C:Int->Int->Prop}{g:Int->Int->Int}(rule:∀(i j:Int)(t u:Tok)(s:am)(Q:ag->am->Prop)(E:ag->am->Prop),C i j->Q (.int (g i j) s.toks) { s with toks:=s.toks+1 }->aG (aY X.prog X.w) X.A (f (.int i t) (.int j u)) Q E s):OpR X f (rI C λi j=>.int (g i j)):=by
 intro l s σ H x y v u Q I B o h;let⟨i,j,rfl,rfl,G,q⟩:=h;let⟨t,rfl⟩:=B;let⟨t',rfl⟩:=o;exact rule i j t t' s _ _ G ⟨.int (g i j),H,I.tok _,⟨_,rfl⟩,q⟩
def FQ{f:ag->ag->Sem ag}{g:Int->Int->Int}(rule:∀(i j:Int)(t u:Tok)(s:am)(Q:ag->am->Prop)(E:ag->am->Prop),Q (.int (g i j) s.toks) { s with toks:=s.toks+1 }->aG (aY X.prog X.w) X.A (f (.int i t) (.int j u)) Q E s):OpR X f (C5 λi j=>.int (g i j)):=by
 intro l s σ H x y v u Q I B o h;let⟨i,j,rfl,rfl,q⟩:=h;let⟨t,rfl⟩:=B;let⟨t',rfl⟩:=o;exact rule i j t t' s _ _ ⟨.int (g i j),H,I.tok _,⟨_,rfl⟩,q⟩
def C3{f:ag->ag->Sem ag}{g:Int->Int->Bool}(rule:∀(i j:Int)(t u:Tok)(s:am)(Q:ag->am->Prop)(E:ag->am->Prop),Q (.bool (g i j)) s->aG (aY X.prog X.w) X.A (f (.int i t) (.int j u)) Q E s):OpR X f (C5 λi j=>.bl (g i j)):=by
 intro l s σ H x y v u Q I B o h;let⟨i,j,rfl,rfl,q⟩:=h;let⟨t,rfl⟩:=B;let⟨t',rfl⟩:=o;exact rule i j t t' s _ _ ⟨.bl (g i j),H,I,rfl,q⟩
def Mu(i j:Int):Prop:=0 < j/\j < 1073741824
def LY(i j:Int):Prop:=0<=j/\j<=1000000/\i.natAbs < 2^64
def Cc(i j:Int):Prop:=(-(2^64) < i/\i < 2^64)\/(-(2^64) < j/\j < 2^64)
def Cc.ok{i j:Int}(h:Cc i j):IntMulOk i j:=by
 rcases h with ⟨l,g⟩|⟨l,g⟩
 ·exact .of_left (intBits_le_64 l g)
 ·exact .of_right (intBits_le_64 l g)
def Xx:OpR X (fH .Add) (C5 λi j=>.int (i+j)):=FQ λ_ _ _ _ _ _ _ q=>add_int q
def Vj:OpR X (fH .Sub) (C5 λi j=>.int (i-j)):=FQ λ_ _ _ _ _ _ _ q=>sub_int q
def Xy:OpR X (fH .Mult) (rI Cc λi j=>.int (i*j)):=ui λ_ _ _ _ _ _ _ g q=>mul_int q g.ok
def UB:OpR X (fH .FloorDiv) (rI Mu λi j=>.int (i / j)):=ui λi j _ _ _ _ _ g q=>by have l:(0:Int) < j:=g.1;have h:j < 1073741824:=g.2;exact floordiv_int () (by rw[Int.fdiv_eq_ediv_of_nonneg i ()];exact q) (.inl (PyProof.noPylong_small ()))
def Qbk:OpR X (fH .Mod) (rI (λ_ j=>0 < j) λi j=>.int (i % j)):=ui λi j _ _ _ _ _ g q=>by have h:(0:Int) < j:=g;exact mod_int' () (by rw[Int.fmod_eq_emod_of_nonneg i ()];exact q)
def WW:OpR X (fH .Pow) (rI LY λi j=>.int (i^j.toNat)):=ui λ_ _ _ _ _ _ _ g q=>pow_int_small g.1 g.2.1 g.2.2 q
def unI{f:ag->Sem ag}{g:Int->Int}(rule:∀(i:Int)(t:Tok)(s:am)(Q:ag->am->Prop)(E:ag->am->Prop),Q (.int (g i) s.toks) { s with toks:=s.toks+1 }->aG (aY X.prog X.w) X.A (f (.int i t)) Q E s):G3 X f (rU λi=>.int (g i)):=by
 intro l s σ H x v Q I o h;let⟨i,rfl,q⟩:=h;let⟨t,rfl⟩:=o;exact rule i t s _ _ ⟨.int (g i),H,I.tok _,⟨_,rfl⟩,q⟩
def Qb:G3 X (D2 .USub) (rU λi=>.int (-i)):=unI λ_ _ _ _ _ q=>neg_int q
end
section
variable{X:Cx}{a b c:Expr}{ta tb tc:TE}
def N5{Q:VK}(I:Inv X g σ H s)(q:Q (.bl k) H)(e:k=h):EP X g σ Q (.bool h) s:=by subst e;exact⟨.bl k,H,I,rfl,q⟩
def XU:OpR X (dH .Lt) (C5 λi j=>.bl (decide (i < j))):=C3 λ_ _ _ _ _ _ _ q=>lt_int q
def Va:OpR X (dH .Gt) (C5 λi j=>.bl (decide (j < i))):=C3 λ_ _ _ _ _ _ _ q=>gt_int q
def Uw:OpR X (dH .GtE) (C5 λi j=>.bl (decide (j<=i))):=C3 λ_ _ _ _ _ _ _ q=>ge_int q
def SY:OpR X (dH .Is) (λx y H Q=>y=.non/\Q (.bl (decide (x=.non))) H):=by
 intro l s σ H x y v u Q I g o h;let⟨rfl,q⟩:=h;cases o;refine is_none_gen (N5 I q ?_);cases x<;>first
  | (cases g;rfl)| (let⟨t,rfl⟩:=g;rfl)
def Vy:OpR X (dH .IsNot) (λx y H Q=>y=.non/\Q (.bl (!decide (x=.non))) H):=by
 intro l s σ H x y v u Q I g o h;let⟨rfl,q⟩:=h;cases o;refine isnot_none_gen (N5 I q ?_);cases x<;>first
  | (cases g;rfl)| (let⟨t,rfl⟩:=g;rfl)
def Qbt(b:Expr)(h:op≠.In:=by decide)(g:op≠.NotIn:=by decide):kr op b=false:=by
 let o:(op == uB.In)=false:=by cases op<;>first|rfl|exact bh rfl h
 let l:(op == uB.NotIn)=false:=by cases op<;>first|rfl|exact bh rfl g
 cases b<;>simp[kr,o,l]
def XE(C:OpR X (dH op) r)(J:PE X a ta)(G:PE X b tb)(E:kr op b=false):PE X (.Compare a [op] [b] pos) (Gq r ta tb):=by intro g s σ H Q I h;exact wpAny_Compare1 (C4 J G I h λv u l x y O L B o q=>C g l σ O x y v u Q L B o q) E
noncomputable def Gb(t:TE):TT:=λσ H Q=>t σ H λx g=>∃k,x=.bl k/\Q k g
def T3(L:OpR X (dH op) r)(Y:PE X a ta)(U:PE X b tb)(O:kr op b=false):PT X (.Compare a [op] [b] pos) (Gb (Gq r ta tb)):=by
 intro g s σ H Q I h;refine wpAny_isTrue_Compare1 (fT (Y g s σ H _ I h) λv o ⟨x,H1,I1,C,J⟩=>fT (U g o σ H1 _ I1 J) λu l ⟨y,H2,I2,B,G⟩=>
  fT (L g l σ H2 x y v u _ I2 C B G) λc s3 ⟨z,H3,I3,q,k,e,E⟩=>?_) O
 subst e;cases q;exact fJ ⟨H3,I3,E⟩
def Cr(K:ah)(x:V)(H:Hp)(k:Bool):Prop:=
 match x with| .non=>k=false| .bl b=>k=b| .int i=>k=(i != 0)| .str y=>y.length<=sizeLine/\k=((y.length:Int) != 0)| .byt y=>y.size<=sizeLine/\k=((y.size:Int) != 0)| .ref p=>(∃xs,gS K H p xs/\k = !xs.isEmpty)\/(∃xs,ml K H p xs/\k = !xs.isEmpty)\/∃g,H p=some (.dK g)/\k = !g.isEmpty|_=>False
def Y9{κ:Type}{g:List (κ×V)}{h:List (κ×ag)}(r:KV g h):(!h.isEmpty) = !g.isEmpty:=by cases r<;>rfl
def Q6(r:cq xs its):(!its.toArray.isEmpty) = !xs.isEmpty:=by cases r<;>simp
def Bb:(sizeLine:Nat) < 2^63:=by rw[kN];decide
def S0:JY X (λx H Q=>∃k,Cr X.K x H k/\Q k H):=by
 intro G s σ H x v Q I u h;let⟨k,e,q⟩:=h;let U:=Bb;let O:sizeLine=16777216:=kN;cases x with
 |non=>
  cases u;let g:k=false:=e;subst g;exact truthy_none ⟨H,I,q⟩
 |bl b=>
  cases u;let g:k=b:=e;subst g;exact fJ ⟨H,I,q⟩
 |int i=>
  let⟨t,rfl⟩:=u;let g:k=(i != 0):=e;subst g;exact PySem.P.truthy_int ⟨H,I,q⟩
 |str y=>
  let⟨t,rfl⟩:=u;obtain⟨J,g⟩:y.length<=sizeLine/\k=((y.length:Int) != 0):=e;subst g;exact PySem.P.truthy_str () ⟨H,I.tok _,q⟩
 |byt y=>
  let⟨t,rfl⟩:=u;obtain⟨J,g⟩:y.size<=sizeLine/\k=((y.size:Int) != 0):=e;subst g;exact PySem.W.truthy_bytes () ⟨H,I.tok _,q⟩
 |ref p=>
  cases u;let g:(∃xs,gS X.K H p xs/\k = !xs.isEmpty)\/(∃xs,ml X.K H p xs/\k = !xs.isEmpty)\/∃l,H p=some (.dK l)/\k = !l.isEmpty:=e;rcases g with ⟨xs,B,g⟩|⟨xs,B,g⟩|⟨l,B,g⟩
  ·subst g;let⟨its,r,E,hz⟩:=I.list B;let o:=r.length;exact wpAny_truthy_list E.isList (by simp only[aI];ext) ⟨H,I.tok _,by rw[Q6 r];exact q⟩
  ·subst g;let⟨its,r,E,hz⟩:=I.tuple B;let o:=r.length;exact truthy_tuple E (by simp only[aI];ext) ⟨H,I.tok _,by rw[Q6 r];exact q⟩
  ·subst g;obtain⟨hz,L,C,r,m⟩:l.length<=sizeLine/\(p == cH)=false/\∃C,KV l C/\s.heap.DictOf (gh X.prog X.w) p C:=I.hok p _ B;let o:l.length=C.length:=cV r;exact wpAny_truthy_dict L m () ⟨H,I.tok _,by rw[Y9 r];exact q⟩
 |_=>exact (show False from e).elim
def Xp(E:PE X a ta)(C:∀whole,isTrue a X.env whole=(do let v <- whole; yZ a.pos; k_ [v] (truthy v))):
  PT X a (λσ H Q=>ta σ H λx o=>∃k,Cr X.K x o k/\Q k o):=by
 intro g s σ H Q I h;exact isTrue_plain (fT (E g s σ H _ I h) λv q l=>by let⟨x,J,G,u,B⟩:=l;exact S0 g q σ J x v Q G u B) (C _)
def U4:OpR X (fH .Add) (λx y H Q=>∃i j,x=.str i/\y=.str j/\i.length+j.length<=sizeLine/\Q (.str (i++j)) H):=by intro g s σ H x y v u Q I o l h;let⟨i,j,rfl,rfl,hz,q⟩:=h;let⟨t,rfl⟩:=o;let⟨t',rfl⟩:=l;exact add_str (λt' B=>⟨.str (i++j),H,I.tok _,⟨_,rfl⟩,q⟩) hz
def w8(r:cq [x] g):∃u,g=[u]/\RelV x u:=by
 cases r with|cons r1 r2=>cases r2;exact⟨_,rfl,r1⟩
def ZC(r:cq [x,y] h):∃u g,h=[u,g]/\RelV x u/\RelV y g:=by
 cases r with|cons r1 r2=>
  cases r2 with|cons r3 r4=>cases r4;exact⟨_,_,rfl,r1,r3⟩
def QbE(o:X.calm=true):CallR X (.builtin "min") (λxs H Q=>∃i j,xs=[.int i,.int j]/\Q (.int (if j < i then j else i)) H):=by
 intro l s σ H xs B Q I r h;let⟨i,j,rfl,q⟩:=h;let⟨u,v,rfl,⟨t,rfl⟩,⟨t',rfl⟩⟩:=ZC r;refine min_two_ints (I.ok.hd o) λh' C k=>⟨_,H,I.kept k,?_,q⟩
 by_cases g:j < i
 ·rw[aH g,aH g];exact⟨_,rfl⟩
 ·rw[aD g,aD g];exact⟨_,rfl⟩
def QbF:CallR X (.type "int") (λxs H Q=>(∃i,xs=[.int i]/\Q (.int i) H)\/∃k,xs=[.bl k]/\Q (.int (if k then 1 else 0)) H):=by
 intro g s σ H xs o Q I r h;rcases h with ⟨i,rfl,q⟩|⟨k,rfl,q⟩
 ·let⟨u,rfl,t,rfl⟩:=w8 r;exact call_int_int ⟨.int i,H,I,⟨_,rfl⟩,q⟩
 ·let⟨u,rfl,l⟩:=w8 r;cases l;exact call_int_bool ⟨.int (if k then 1 else 0),H,I.tok _,⟨_,rfl⟩,q⟩
end
def rb.some_of(r:rb (some v) o):∃u,o=some u/\RelV v u:=by
 cases o with|none=>exact (show False from r).elim|some u=>exact⟨u,rfl,r⟩
section
noncomputable def FF:V->V->Hp->VK->Prop:=λx y H Q=>∃i j,x=.int i/\y=.int j/\Q (.int (i-j)) H
end
structure iw(k:Nat)(A:bI):Prop where
 hd:A.handled=none
 dp:A.depth+3*k+5 < recursionLimit
 un:A.units+16*k+200 < cS
def iw.mono{j k:Nat}(r:iw k A)(h:j<=k):iw j A:=⟨r.hd,by have:=r.dp;ext,by have:=r.un;ext⟩
theorem iw.deeper{k:Nat}(r:iw (k+1) A)(env:Env):iw k (A.deeper env):=
 ⟨r.hd,by have:=r.dp;show A.depth+1+3*k+5 < _;ext,by have:=r.un;show A.units+3+16*k+200 < _;ext⟩
theorem iw.depth{k:Nat}(r:iw k A):A.depth < recursionLimit:=by have:=r.dp;ext
theorem iw.units{k:Nat}(r:iw k A):A.units+64 < cS:=by have:=r.un;ext
noncomputable def Mt:TA:=λ_ H Q=>Q [] H
noncomputable def Em(g:TE)(c:TA):TA:=λσ H Q=>g σ H λx l=>c σ l λxs h=>Q (x::xs) h
section
variable{t:TA}
def vg:PA X [] Mt:=λ_ _ _ _ H Q I h=>ip ⟨[],H,I,.nil,h⟩
def sB(J:PE X e te)(G:PA X es t)(E:starEach (e::es) X.env=(false,eval e X.env)::starEach es X.env:=by rfl):PA X (e::es) (Em te t):=by
 intro pos c s σ H Q I h;rw[E]
 show aG _ _ (sS ((false,eval e X.env)::backTo pos (starEach es X.env))) _ _ s;refine g9 (fT (J c s σ H _ I h) λu o l=>?_);let⟨x,Y,O,v,C⟩:=l;exact fT (G pos c o σ Y _ O C) λus s2 g=>by let⟨xs,U,L,q,B⟩:=g;exact⟨x::xs,U,L,.cons v q,B⟩
def Ks(t:TA):TE:=λσ H Q=>t σ H λxs c=>xs.length<=sizeLine/\∀p,c p=none->Q (.ref p) (fE c p (.tup xs))
def Je(t:TA):TE:=λσ H Q=>t σ H λxs c=>xs.length<=sizeLine/\∀p,c p=none->Q (.ref p) (fE c p (.lst xs))
def UO{v}(h:PA X es t):PE X (.Tuple es v pos) (Ks t):=by intro c s σ H Q I C;refine wpAny_Tuple_spliced (fT (h pos c s σ H _ I C) λB g ⟨xs,o,l,r,z,q⟩=>⟨by rw[<- r.length];exact z,?_⟩);let E:o g.heap.objs.size=none:=l.hok.fresh (aw _);refine⟨.ref g.heap.objs.size,fE o g.heap.objs.size (.tup xs),l.laid (t':=g.toks) (λb u e=>aj _ e) (aw _) ?_,rfl,q _ E⟩;exact⟨z,B,r,⟨_,ay _ rfl,rfl,⟨_,rfl⟩,rfl⟩⟩
def UF(h:PA X es t):PE X (.List es pos) (Je t):=by intro c s σ H Q I B;refine wpAny_List_spliced (fT (h pos c s σ H _ I B) λv g ⟨xs,o,l,r,z,q⟩=>⟨by rw[<- r.length];exact z,?_⟩);let C:o g.heap.objs.size=none:=l.hok.fresh (aw _);refine⟨.ref g.heap.objs.size,fE o g.heap.objs.size (.lst xs),l.laid (t':=g.toks) (λb u e=>aj _ e) (aw _) ?_,rfl,q _ C⟩;exact⟨z,v,0,r,ay _ rfl⟩
end
abbrev Sp:=List V->Hp->VK->XK->Prop
abbrev yx:=List Env->Hp->am->XK->ag->am->Prop
structure r_(P:Program)(w:bM)(K:ah)(mg:Str->Option ag)(base:bK)(A:bI)(outer:List Env)(s:am)(H:Hp):Prop where
 frames:A.frames=some outer
 mod:Mod K mg base
 bs:∀b o,base.get? b=some o->s.heap.get? b=some o/\H b=none
 bsz:base.objs.size<=s.heap.objs.size
 funs:s.heap.FunFrames base outer
 frf:∀b∈gB outer,H b=none
 hok:nN P w H s.heap
 bare:lT s.gens
def CE(outer:List Env)(P:Program)(w:bM)(H:Hp)(s:am)(Q:VK)(u:ag)(c:am):Prop:=
 ∃v g,c.os=s.os/\lT c.gens/\Un (gB outer) [] H g s.heap c.heap/\nN P w g c.heap/\RelV v u/\Q v g
def CR(g:yx)(outer:List Env)(P:Program)(w:bM)(H:Hp)(s:am)(Q:VK)(E:XK)(r:Dg)(c:am):Prop:=
 match r with| .ok (.ret u)=>CE outer P w H s Q u c| .ok _=>False| .error e=>g outer H s E e c
structure mI(P:Program)(w:bM)(K:ah)(mg:Str->Option ag)(base:bK)(CX:yx)(k:Nat)(f:ak)(fd:dm)(ps:List Str)(sp:Sp):Prop where
 len:∀vs H Q E,sp vs H Q E->vs.length=ps.length
 run:∀(A:bI)(outer:List Env)(s:am)(H:Hp)(args:Args)(us:List ag)(vs:List V)(Q:VK)(E:XK),iw k A->r_ P w K mg base A outer s H->sU s fd args (ps.zip us)->cq vs us->sp vs H Q E ->
  iG (aY P w) A (.call (.ref f) args) (CR CX outer P w H s Q E) s
section
def Inv.env0(I:Inv X ar σ H s):r_ X.prog X.w X.K X.mg X.base X.A X.stack s H:=
 ⟨I.ok.frames,I.ok.mod,I.bs,cW I.ok.bsz I.sz,I.stack,I.stkFree,I.hok,I.bare⟩
def Inv.after(I:Inv X ar σ H s)(h:CE X.stack X.prog X.w H s Q u s'):EP X ar σ Q u s':=by let⟨v,o,os,c,un,hok,r,q⟩:=h;let⟨hh,g,d,t,l⟩:=s';obtain rfl:l=s.os:=os;exact⟨v,o,I.call (h':=hh) (g':=g) (d':=d) (t':=t) (ch:=[]) un hok c (λb z=>bh z (by simp)),r,q⟩
end
noncomputable def GV(h:Sp)(c:List V)(E:XK)(t:TA):TE:=λσ H Q=>t σ H λg l=>h (g++c) l Q E
noncomputable def Binds(K:ah)(g:dm)(ps:List Str)(ds:List ag):Prop:=
 ∀(s:am)(c:List ag),K.In s.heap->(c++ds).length=ps.length->sU s g ⟨c,[]⟩ (ps.zip (c++ds))
def Binds.all{K:ah}{ps:List Str}(h:∀c:List ag,c.length=ps.length->gE l ⟨c,[]⟩=pure (ps.zip c)):Binds K l ps []:=λs c _ g=>by rw[bu]at g ⊢;exact .of_eq (h c g)
def uj(c:yx)(X:Cx)(E:XK):Prop:=∀(ar:List (ak×Obj))(σ:St)(H:Hp)(s:am)(e:ag)(s':am),Inv X ar σ H s->c X.stack H s E e s'->X.xe e s'
section
variable{X:Cx}{k:Nat}
def QbM(F:mI X.prog X.w X.K X.mg X.base CX k f fd ps sp)(J:iw k X.A)(O:Binds X.K fd ps ds)(hd:cq d4 ds)(G:uj CX X E)(I:Inv X c σ H s) (r:cq q g) (h:sp (q++d4) H Q E):aG (aY X.prog X.w) X.A (call (.ref f) g) (EP X c σ Q) X.xe s:=by
 let v:cq (q++d4) (g++ds):=r.append hd;let L:(g++ds).length=ps.length:=by rw[<- v.length];exact F.len _ _ _ _ h
 refine vQ (lc (F.run X.A X.stack s H ⟨g,[]⟩ (g++ds) (q++d4) Q E J I.env0 (O s g I.kIn L) v h) λr B l=>?_);cases r with|error e=>exact G c σ H s e B I l|ok fl=>
  cases fl with|ret u=>exact I.after l|next=>exact c9 l|brk=>exact c9 l|cont=>exact c9 l
def NB(F:mI X.prog X.w X.K X.mg X.base CX k f fd ps sp)(B:iw k X.A)(L:Gl X x)(G:X.mg x=some (.ref f))(J:di X.K (.ref f)=true)(U:Binds X.K fd ps ds)(hd:cq d4 ds)(v:uj CX X E)(Y:PA X (e::es) t) (l:(x == ("__debug__":Str))=false:=by decide) (O:starEach (e::es) X.env=(false,eval e X.env)::starEach es X.env:=by rfl) (g:(backTo pos (starEach es X.env)).any (·.1)=false:=by rfl):
  PE X (.Call (.Name x p) (e::es) [] pos) (GV sp d4 E t):=by
 intro c s σ H Q I h;refine dJ (Qq I L G ?_ l);refine vR (h₀:=X.base) I.ok.mod.kin J (fT (Y pos c s σ H _ I h) λC s1 ⟨o,H1,u,r,q⟩=>⟨u.kIn,?_⟩) O g;exact QbM F B U hd v u r q
end
section
variable{X:Cx}{CX:yx}{k:Nat}{f C:ak}{fd:dm}{ps ks:List Str}{sp:Sp}{E:XK}{x m:Str}{p pos a8 em:Pos}{e o:Expr}{es:List Expr}{kws:List i5}{te ta:TE}{t tk:TA}{nm:Option Str}
variable{g:List ag->List ag->List ag}{gV:List V->List V->List V}
end
structure mh(N P:List Str)(sc:du):Prop where
 kind:sc.kind=.function
 co:sc.isCoroutine=false
 gen:sc.isGenerator=false
 nd:N.Nodup
 pre:N.take P.length=P
 par:∀x∈P,sc.names.lookup x=some .local\/sc.names.lookup x=some .cell
 nofree:∀y∈sc.names,y.2≠.free
theorem RY{kindOf:Str->Option dG}:∀{binds:List (Str×ag)}{m:Str->Option ag},(∀v,(x,v)∉binds)->qr kindOf binds m x=m x
 |[],_,_=>rfl
 | (n,v)::r,m,h=>by
  unfold qr;rw[RY λw c=>h w (bO _ c)];split
  ·have:x≠n:=by rintro rfl;exact h v cP
   simp[this]
  ·rfl
theorem N_{kindOf:Str->Option dG}:∀{binds:List (Str×ag)}{m:Str->Option ag},(∀v,(x,v)∉binds)->qt kindOf binds m x=m x
 |[],_,_=>rfl
 | (n,v)::r,m,h=>by
  unfold qt;rw[N_ λw c=>h w (bO _ c)];split
  ·rfl
  ·have:x≠n:=by rintro rfl;exact h v cP
   simp[this]
theorem ME{kindOf:Str->Option dG}: ∀{P:List Str}{c:List ag}{i:Nat}{m:Str->Option ag},P.Nodup->P[i]?=some x->c[i]?=some v->kindOf x=some .local ->qr kindOf (P.zip c) m x=some v
 |[],_,_,_,_,h,_,_=>by simp at h|_::_,[],_,_,_,_,h,_=>by simp at h
 |p::P,w::c,0,m,nd,h1,h2,hk=>by
  simp at h1 h2;subst h1;subst h2
  show qr kindOf ((p,w)::P.zip c) m p=_;unfold qr;rw[RY λv g=>(lG.mp nd).1 (lH g).1,aH hk];simp
 |p::P,w::c,i+1,m,nd,h1,h2,hk=>by show qr kindOf ((p,w)::P.zip c) m x=_;unfold qr;exact ME (i:=i) (lG.mp nd).2 (by simpa using h1) (by simpa using h2) hk
theorem Ky{kindOf:Str->Option dG}: ∀{P:List Str}{c:List ag}{i:Nat}{m:Str->Option ag},P.Nodup->P[i]?=some x->c[i]?=some v->kindOf x≠some .local ->qt kindOf (P.zip c) m x=some v
 |[],_,_,_,_,h,_,_=>by simp at h|_::_,[],_,_,_,_,h,_=>by simp at h
 |p::P,w::c,0,m,nd,h1,h2,hk=>by
  simp at h1 h2;subst h1;subst h2
  show qt kindOf ((p,w)::P.zip c) m p=_;unfold qt;rw[N_ λv g=>(lG.mp nd).1 (lH g).1,aD hk];simp
 |p::P,w::c,i+1,m,nd,h1,h2,hk=>by show qt kindOf ((p,w)::P.zip c) m x=_;unfold qt;exact Ky (i:=i) (lG.mp nd).2 (by simpa using h1) (by simpa using h2) hk
noncomputable def start(N:List Str)(c:List V):St:=c.map some++bQ (N.length-c.length) none
noncomputable def rZ(h:yx)(P:Program)(w:bM)(K:ah)(mg:Str->Option ag)(base:bK)(N:List Str)(qual:Str)(scope:du)(f:ak)(g:ag)(A:bI)(outer:List Env)(s:am)(H:Hp)(E:XK):Cx where
 prog:=P
 w:=w
 K:=K
 mg:=mg
 base:=base
 A:=A.deeper (oh qual scope s.heap.objs.size f g)
 N:=N
 s₀:=s
 H₀:=H
 env:=oh qual scope s.heap.objs.size f g
 outer:=outer
 stack:=oh qual scope s.heap.objs.size f g::outer
 ex:=[]
 calm:=true
 fn:=λ_=>true
 pn:=[]
 xe:=λe l=>aG (aY P w) (A.deeper (oh qual scope s.heap.objs.size f g)) (leaving (oh qual scope s.heap.objs.size f g) e) (λ_ c=>h outer H s E e c) (λo c=>h outer H s E o c) l
def E8{sc:du}{n:Nat}(h:sc.names.lookup x=some .cell):∃c,(bR n sc.names []).lookup x=some c:=by let q:=gQ sc.names n [] (.inl h);exact iP.mp q
def OD{K:ah}{A:bI}{o:List V}(S:mh N ps scope) (hd:A.handled=none) (l:r_ P w K mg base A outer s H) (hl:o.length=ps.length) (r:cq o Q)(x:pi s s.heap.objs.size (qr (oh qual scope s.heap.objs.size f O).kindOf (ps.zip Q) λ_=>none) (bR (s.heap.objs.size+1) scope.names []) (qt (oh qual scope s.heap.objs.size f O).kindOf (ps.zip Q) λ_=>none) U):Inv (rZ CX P w K mg base N qual scope f O A outer s H E) [] (start N o) H U:=by
 let hpl:ps.length<=N.length:=by have:=c_ d7 S.pre;rw[bB]at this;ext
 let⟨L,tk,rfl,Y⟩:=x.done;let B:∀b:ak,b∉(rZ CX P w K mg base N qual scope f O A outer s H E).ex:=λb z=>bh (show b∈([]:List ak) from z) (by simp);refine⟨⟨l.mod,S.kind,rfl,rfl,aw _,λy z c L g=>?_,λy C=>?_,λy c _ h=>?_,λ_=>hd,vh l.frames,.inr ⟨rfl,rfl⟩,λb z=>bh z (B b),l.bs,l.bsz,λb _ _=>B b,λb z=>bh z (B b),l.funs,l.frf⟩,
  rfl,l.bare,Un.kept Y,⟨_,x.toInCall.ns,λi y v L g h3=>?_⟩,λy c h=>⟨_,x.cell y c h⟩,l.hok.fresh (aw _),λy c h=>?_,λp I=>bh (show p∈([]:List (ak×Obj)) from I) (by simp),l.hok.kept Y,?_⟩
 ·exact y_ x.apart (a_ L) (a_ g)
 ·let C:scope.names.lookup y=some .cell\/scope.names.lookup y=some .free:=C;rcases C with C|C
  ·exact E8 C
  ·exact bh rfl (S.nofree _ (a_ C))
 ·exact f_ (x.above y c (a_ h))
 ·let J : i < o.length := by
    unfold start at g;by_cases J:i < o.length
    ·exact J
    ·rw[aE (by simpa using J)]at g;rw[fD]at g;split at g<;>cases g
  let l:o[i]?=some v:=by
   unfold start at g;rw[ao (by simpa using J),av]at g;cases e:o[i]? with|none=>rw[e]at g;cases g|some a=>rw[e]at g;cases g;rfl
  let⟨u,hu,h⟩:=r.get l;let I:ps[i]?=some y:=by rw[<- S.pre,cj ()];exact L
  let G:ps.Nodup:=by rw[<- S.pre];exact S.nd.sublist (zc _ _)
  refine⟨u,h,?_⟩;rcases S.par y (ax I) with k|k
  ·exact .inl ⟨k,ME G I hu k⟩
  ·let⟨c,e⟩:=E8 (n:=s.heap.objs.size+1) k;refine .inr ⟨.inl k,c,e,?_⟩;let q:=x.cell y c e;rw[Ky G I hu (by show scope.names.lookup y≠_;rw[k];decide)]at q;exact q
 ·exact l.hok.fresh (f_ (x.above y c (a_ h)))
 ·unfold start
  show _=N.length;rw[aC,af,fw];ext
def Qj{K:ah}{k:Nat}{dV kV doc pm c ct oc:ag}{sp:Sp} (lk:K.lookup f=some ⟨oc,od,.func (cC name qual g h scope dV kV doc pm an c ct),osl⟩) (hcd:gz K c qual=true) (S:mh N ps scope)(len:∀l H Q E,sp l H Q E->l.length=ps.length)(G:∀(A:bI)(outer:List Env)(s:am)(H:Hp)(l:List V)(Q:VK)(E:XK),iw k (A.deeper (oh qual scope s.heap.objs.size f c))->sp l H Q E ->∃t,PSs (rZ CX P w K mg base N qual scope f c A outer s H E) h t/\t { nx:=λ_ B=>Q .non B,rt:=Q } (start N l) H):mI P w K mg base CX (k+1) f (cC name qual g h scope dV kV doc pm an c ct) ps sp:=by
 refine⟨len,λA outer s H args us l Q E hr Y hb r U=>?_⟩;let hl:=len _ _ _ _ U;let KX:K.In s.heap:=Y.mod.kin.keeps λb o e=>(Y.bs b o e).1;let eV:s.heap.NoLimit:=Y.mod.nolimit.keeps λb o e=>(Y.bs b o e).1;let C:∀y∈ps.zip us,scope.names.lookup y.1=some .local\/(scope.names.lookup y.1=some .cell/\((bR (s.heap.objs.size+1) scope.names []).lookup y.1).isSome=true):=λO hy=>by
  let⟨n,v⟩:=O;rcases S.par n (lH hy).1 with q|q
  ·exact .inl q
  ·exact .inr ⟨q,gQ _ _ _ (.inl q)⟩
 refine zI hr.depth (KX _ _ lk) rfl S.co S.gen rfl (PySem.W.codeRec_of KX hcd) (hb _ _ _ _ ?_);refine vS S.kind C λenv he s1 x=>?_;subst he;refine⟨eV.keeps x.toInCall.keep,codeAny_func ?_⟩;let⟨t,ht,hq⟩:=G A outer s H l Q E (hr.deeper _) U;let I:Inv (rZ CX P w K mg base N qual scope f c A outer s H E) [] (start N l) H s1:=OD S hr.hd Y hl r x;refine fM (ht [] s1 (start N l) H _ I hq) (λfl s' L=>?_) λe s' L=>L;let fin:∀{σ':St}{B:Hp}{v:V}{u:ag},Inv (rZ CX P w K mg base N qual scope f c A outer s H E) [] σ' B s'->RelV v u->Q v B->CE outer P w H s Q u s':=
  λ{σ' B v u}J rv q=>⟨v,B,J.os,J.bare,J.base,J.hok,rv,q⟩
 cases fl with
 |ret u=>
  let⟨v,σ',B,J,rv,q⟩:=L;exact fin J rv q
 |next=>
  let⟨σ',B,J,q⟩:=L;exact fin (v:=V.non) (u:=cB) J rfl q
 |brk=>
  let⟨_,_,_,q⟩:=L;exact c9 q
 |cont=>
  let⟨_,_,_,q⟩:=L;exact c9 q
section
variable{t:TA}{id T:String}{r:List V->Hp->VK->Prop}
noncomputable def O9(r:List V->Hp->VK->Prop)(t:TA):TE:=λσ H Q=>t σ H λc g=>r c g Q
def HP(U : CallR X (.builtin id) r)(L : Gl X x)(J : X.mg x = none)(E : cZ x = some (.builtin id))(Y : PA X (e :: es) t)(G : x ≠ "__name__" := by decide)(o : (x == ("__debug__" : Str)) = false := by decide)
  (O:starEach (e::es) X.env=(false,eval e X.env)::starEach es X.env:=by rfl) (l:(backTo pos (starEach es X.env)).any (·.1)=false:=by rfl):PE X (.Call (.Name x p) (e::es) [] pos) (O9 r t):=by
 intro c s σ H Q I h;refine dJ (xF I L J E ?_ G o);exact PyProof.Rows.callWith_builtin1 (fT (Y pos c s σ H _ I h) λu v g=>by let⟨q,H1,I1,B,C⟩:=g;exact U c v σ H1 q u Q I1 B C) O l
def Kg(U : CallR X (.type T) r)(L : Gl X x)(J : X.mg x = none)(E : cZ x = some (.type T))(Y : PA X (e :: es) t)(G : x ≠ "__name__" := by decide)(o : (x == ("__debug__" : Str)) = false := by decide)
  (O:starEach (e::es) X.env=(false,eval e X.env)::starEach es X.env:=by rfl) (l:(backTo pos (starEach es X.env)).any (·.1)=false:=by rfl):PE X (.Call (.Name x p) (e::es) [] pos) (O9 r t):=by
 intro c s σ H Q I h;refine dJ (xF I L J E ?_ G o);exact cw (fT (Y pos c s σ H _ I h) λu v g=>by let⟨q,H1,I1,B,C⟩:=g;exact U c v σ H1 q u Q I1 B C) O l
end
end L2
namespace HT
open PySem PyProof.Rows
section
open PySem.SeqAt
open PySem.AutoSeq1 (wpAny_loadPart')
open PySem.MeetsSeq PySem.MeetsSeq2 PySem.MeetsSeq3
end
section
variable{s:am}
def Al{g ws:List ag}{Q:ag->am->Prop}(L:xO s.heap t g.toArray)(O:xO s.heap b ws.toArray)(G:g≠[])(Y:ws=[]->Q (.ref t) s) (U:ws≠[]->Q (.ref s.heap.objs.size) { s with heap:=s.heap.push { cls:=.type "tuple",data:=.seq (g++ws).toArray } })(hsz:g.length+ws.length<=sizeLine):aG (aY prog w) A (fH .Add (.ref t) (.ref b)) Q E s:=by
 let⟨⟨cls,I,data,B⟩,v,H,n,hd⟩:=id L;let⟨⟨J,q,data2,h⟩,c,o,C,l⟩:=id O;simp only at H hd o l;subst H hd o l;let e:g.toArray++ws.toArray=(g++ws).toArray:=by simp
 by_cases u:ws=[]
 ·exact zi ⟨_, v, rfl⟩ ⟨_, c, rfl⟩ ur xm nw mX (mM _ _)
    (tuple_addW1 t b g.toArray ws.toArray n C I q B h (by simpa using G) (by simp[u])) ⟨v,c,Y u⟩
 ·refine zi ⟨_, v, rfl⟩ ⟨_, c, rfl⟩ ur xm nw mX (mM _ _)
    (tuple_addW2 t b g.toArray ws.toArray n C I q B h (by simpa using G) (by simpa using u) (by rw[aI,aI];exact hsz)) ⟨v,c,?_⟩
  rw[e];exact U u
noncomputable def gU(n d:Nat):Option Int->Nat
 |none=>d|some v=>if v < 0 then (v+(n:Int)).toNat else min v.toNat n
def QbX(n d:Nat)(hd:d<=n)(o:Option Int):gU n d o<=n:=by
 cases o with|none=>exact hd|some v=>
  show (if v < 0 then (v+(n:Int)).toNat else min v.toNat n)<=n;by_cases c:v < 0
  ·rw[aH c];ext
  ·rw[aD c];exact Nat.min_le_right _ _
def PQ(v:Int)(n d:Nat):(if v < 0 then max (v+(n:Int)) 0 else min v (n:Int))=((gU n d (some v):Nat):Int):=by
 show (if v < 0 then max (v+(n:Int)) 0 else min v (n:Int))=(((if v < 0 then (v+(n:Int)).toNat else min v.toNat n):Nat):Int)
 by_cases c:v < 0
 ·simp only[aH c];ext
 ·simp only[aD c];ext
def Wu(lo c:Option Int)(n:Nat):lg lo c 1 (n:Int)=(((gU n 0 lo:Nat):Int),((gU n n c:Nat):Int)):=by
 let g:¬ ((1:Int) < 0):=by ext
 unfold lg;simp only[g,if_false];refine Prod.ext ?_ ?_
 ·cases lo with|none=>rfl|some v=>exact PQ v n 0
 ·cases c with|none=>rfl|some v=>exact PQ v n n
def Ui(i j:Nat):ii (i:Int) (j:Int) 1=j-i:=by
 unfold ii;let c:(1:Int) > 0:=by ext
 simp only[c,if_true,Int.ediv_one];split<;>ext
def QN{Q:Option Int->am->Prop}(p:qu v o)(h:Q o s):aG (aY prog w) A (Builtin.Slice.slicePartIndex v) Q E s:=by
 cases p with|none=>exact slicePart_none h|int i t=>exact slicePart_int h
def Pa{lo g:Option Int}{n:Nat}{Q:Int×Int×Nat->am->Prop}(C:s.heap.IsSliceOf u q o .none)(B:qu q lo)(v:qu o g)(h:Q (((gU n 0 lo:Nat):Int),1,gU n n g-gU n 0 lo) s):aG (aY prog w) A (pR (.ref u) (pure (n:Int))) Q E s:=by
 let⟨os,c,G,l⟩:=id C;unfold pR Builtin.Slice.sliceFields;refine ab (ab (cD c l (x:=q) rfl (ab (cD c l (x:=o) rfl (ab (cD c l (x:=.none) rfl (ai ?_)))))));refine ab (slicePart_none ?_)
 show aG _ _ (if ((1:Int) == 0)=true then _ else _) _ _ s;rw[aD (by decide)];refine ab (QN B (ab (QN v (ab (ai ?_)))))
 show aG _ _ (match lg lo g 1 (n:Int) with|(lo,g)=>pure (lo,(1:Int),ii lo g 1)) _ _ s;rw[Wu lo g n]
 show aG _ _ (pure (((gU n 0 lo:Nat):Int),(1:Int),ii ((gU n 0 lo:Nat):Int) ((gU n n g:Nat):Int) 1)) _ _ s;rw[Ui];exact ai h
def Qb3(xs:Array ag)(i k:Nat):((bT k).filterMap λ(m:Nat)=>xs[((i:Int)+(m:Int)*1).toNat]?).toArray=((xs.toList.drop i).take k).toArray:=by
 let e:(λ(m:Nat)=>xs[((i:Int)+(m:Int)*1).toNat]?)=λm=>xs[i+m]?:=by
  funext m;have:((i:Int)+(m:Int)*1).toNat=i+m:=by ext
  rw[this]
 rw[e];have:=pick_run xs i k;rw[List.filterMap_map]at this;let c:((λx=>xs[x]?) ∘ λx=>i+x)=λm=>xs[i+m]?:=rfl;rw[c]at this;rw[this]
def pI{lo g:Option Int}{Q:ag->am->Prop}(l:xO s.heap t items)(I:s.heap.IsSliceOf o H G .none)(L:qu H lo)(J:qu G g)(O:¬ (gU items.size 0 lo=0/\gU items.size items.size g=items.size))(h:Q (.ref s.heap.objs.size) { s with heap:=s.heap.push { cls:=.type "tuple",data:=.seq ((items.toList.drop (gU items.size 0 lo)).take (gU items.size items.size g-gU items.size 0 lo)).toArray } })(hsz:items.size<=sizeLine):aG (aY prog w) A (nU (.ref t) (.ref o)) Q E s:=by
 let c:sizeOk (.seq ((items.toList.drop (gU items.size 0 lo)).take (gU items.size items.size g-gU items.size 0 lo)).toArray):=by show ((items.toList.drop (gU items.size 0 lo)).take (gU items.size items.size g-gU items.size 0 lo)).toArray.size<=sizeLine;rw[aI,bB,gK,fG];ext
 let hj:gU items.size items.size g<=items.size:=QbX _ _ (aw _) g;let⟨os,u,B,U⟩:=id I;let C:s.TypeIs (.ref o) "slice":=⟨os,u,B⟩
 unfold nU
 try with_reducible refine bV ?_
 first|refine ab (ai ?_)|skip
 refine ab (sV l.typeIs (by decide) ?_);refine ab (bN (name:=az "__getitem__") l.typeIs dM
  (b_ dM l.typeIs Bm ?_ (Dh _ _)))
 show aG _ _ (kT (.ref t) >>= _) _ _ s;refine ab (tupleItemsOf_ l ?_);refine ab (gF C ?_);rw[aH (by decide)];refine ab (Pa I L J ?_);let v:¬ ((((gU items.size 0 lo:Nat):Int) == 0&&(1:Int) == 1&&(gU items.size items.size g-gU items.size 0 lo) == items.size)=true):=by intro q;rw[bv,bv]at q;let q1:((gU items.size 0 lo:Nat):Int)=0:=eq_of_beq q.1.1;let Y:gU items.size items.size g-gU items.size 0 lo=items.size:=eq_of_beq q.2;exact O ⟨by ext,by ext⟩
 show aG _ _ (if (((gU items.size 0 lo:Nat):Int) == 0&&(1:Int) == 1&&(gU items.size items.size g-gU items.size 0 lo) == items.size)=true then _ else _) _ _ s;rw[aD v,Qb3]
 first
  |exact ab (m:=e8 _) (b9 (ai ⟨_,rfl,ai h⟩) c)|exact ab (m:=e8 _) (b9 (ab (ai (ai ⟨_,rfl,ai h⟩))) c)|exact ab (ab (m:=e8 _) (b9 (ai (ai ⟨_,rfl,ai h⟩)) c))|exact ab (ab (m:=e8 _) (b9 (ai ⟨_,rfl,ai h⟩) c))
end
end HT
namespace L2
open PySem PySem.Spec PyProof.Rows
abbrev TO:=St->Hp->(Option Int->Hp->Prop)->Prop
def PO(X:Cx)(e:Option Expr)(t:TO):Prop:=
 ∀(ar:List (ak×Obj))(s:am)(σ:St)(H:Hp)(Q:Option Int->Hp->Prop),Inv X ar σ H s->t σ H Q ->
  aG (aY X.prog X.w) X.A (evalPart e X.env) (λu g=>∃o c,Inv X ar σ c g/\qu u o/\Q o c) X.xe s
noncomputable def An:TO:=λ_ H Q=>Q none H
noncomputable def Fu(t:TE):TO:=λσ H Q=>t σ H λx c=>∃i,x=.int i/\Q (some i) c
def MU{g:List Int}:∀{c:List ag},cq (g.map V.int) c->lU c g:=by
 induction g with
 |nil=>intro c r;rw[lV]at r;cases r;exact .nil
 |cons n g ih=>
  intro c r;rw[aV]at r;cases r with|cons r1 r2=>
   let⟨t,e⟩:=r1;subst e;exact .cons n t (ih r2)
section
variable{X:Cx}{te:TE}{lo hi:Option Expr}{tl th:TO}
def Qb5:PO X none An:=by intro c s σ H Q I h;rw[xn];exact ai ⟨none,H,I,.none,h⟩
def Pp(h:PE X e te):PO X (some e) (Fu te):=by intro g s σ H Q I v;rw[evalPart_some];refine fT (h g s σ H _ I v) λu E c=>?_;let⟨x,C,B,l,o⟩:=c;let⟨i,rfl,q⟩:=o;let⟨t,rfl⟩:=l;exact⟨some i,C,B,.int i t,q⟩
def Ir(X:Cx)(r:V->Option Int->Option Int->Hp->VK->Prop):Prop:=
 ∀(ar:List (ak×Obj))(s:am)(σ:St)(H:Hp)(x:V)(v vl vu:ag)(lo hi:Option Int)(sl:ak)(Q:VK),Inv X ar σ H s->RelV x v->s.heap.IsSliceOf sl vl vu .none->qu vl lo->qu vu hi->r x lo hi H Q ->
  ∃T id,iW (.type T) "__getitem__"=pure (some (.builtin id))/\s.TypeIs v T/\aG (aY X.prog X.w) X.A (nU v (.ref sl)) (EP X ar σ Q) X.xe s
noncomputable def YK(r:V->Option Int->Option Int->Hp->VK->Prop)(te:TE)(tl th:TO):TE:=λσ H Q=>te σ H λx h=>tl σ h λl g=>th σ g λu c=>r x l u c Q
def O2(hr:Ir X r)(he:PE X e te)(hl:PO X lo tl)(hu:PO X hi th):PE X (.Subscript e (.Slice lo hi none p2) pos) (YK r te tl th):=by
 intro c s σ H Q I h;refine Di (fT (he c s σ H _ I h) λv L B=>?_);let⟨x,H1,I1,O,q1⟩:=B;refine wpAny_Slice (fT (hl c L σ H1 _ I1 q1) λE J ⟨l,H2,I2,pl,Y⟩=>fT (hu c J σ H2 _ I2 Y) λC g o=>?_);let⟨u,G,I3,pu,U⟩:=o;rw[xn];refine ai ?_;let I4:Inv X c σ G { g with heap:=g.heap.push { cls:=.type "slice",data:=.fields #[E,C,.none] } }:=I3.kept (t':=g.toks) λb ob q=>aj _ q;let⟨T,id,hT,ht,hg⟩:=hr c { g with heap:=g.heap.push { cls:=.type "slice",data:=.fields #[E,C,.none] } } σ G x v E C l u g.heap.objs.size Q I4 O (sG ..) pl pu U
 show aG (aY X.prog X.w) X.A (xo e (.Slice lo hi none p2) v (.ref g.heap.objs.size)) (EP X c σ Q) X.xe { g with heap:=g.heap.push { cls:=.type "slice",data:=.fields #[E,C,.none] } };exact AK (ops:=[.ref g.heap.objs.size,v]) ht hT hg (by with_unfolding_all rfl)
def t8(xs:List V)(lo hi:Option Int):List V:=(xs.drop (HT.gU xs.length 0 lo)).take (HT.gU xs.length xs.length hi-HT.gU xs.length 0 lo)
def Px(xs:List V)(lo hi:Option Int):(t8 xs lo hi).length<=xs.length:=by unfold t8;rw[bB,gK];ext
def Mg(K:ah):V->Option Int->Option Int->Hp->VK->Prop:=λx lo hi H Q=>∃a xs,x=.ref a/\ml K H a xs /\
 ¬ (HT.gU xs.length 0 lo=0/\HT.gU xs.length xs.length hi=xs.length)/\∀p,H p=none->Q (.ref p) (fE H p (.tup (t8 xs lo hi)))
def Qb9:Ir X (Mg X.K):=by
 intro g s σ H x v O L lo hi U Q I u J C B h;let⟨a,xs,rfl,E,G,q⟩:=h;cases u;let⟨its,r,l,hz⟩:=I.tuple E;let c:its.toArray.size=xs.length:=by rw[aI];exact r.length.symm
 refine⟨"tuple",_,dM.lookup,l.typeIs,?_⟩;refine HT.pI l J C B (by rw[c];exact G) ?_ (by rw[c];exact hz);rw[c];refine⟨.ref s.heap.objs.size,_,I.laid (t':=s.toks) (o:=.tup (t8 xs lo hi)) (λb Y q=>aj _ q) (aw _) ?_,rfl,q _ (I.hok.fresh (aw _))⟩;exact⟨cW (Px xs lo hi) hz,_,(r.drop (HT.gU xs.length 0 lo)).take (HT.gU xs.length xs.length hi-HT.gU xs.length 0 lo),kJ.new _ _⟩
def F5(K:ah):R2:=λx y H Q=>∃a b xs ys,x=.ref a/\y=.ref b/\ml K H a xs/\ml K H b ys/\xs≠[]/\xs.length+ys.length<=sizeLine /\
 (ys=[]->Q (.ref a) H)/\(ys≠[]->∀p,H p=none->Q (.ref p) (fE H p (.tup (xs++ys))))
def cq.nil_iff(r:cq xs c):c=[]↔xs=[]:=by
 cases r with|nil=>simp|cons _ _=>simp
def Zm:OpR X (fH .Add) (F5 X.K):=by intro l s σ H x y v u Q I E C h;let⟨a,b,xs,ys,rfl,rfl,Y,U,O,hz,J,G⟩:=h;cases E;cases C;let⟨its,g,L,_⟩:=I.tuple Y;let⟨B,c,p2,_⟩:=I.tuple U;refine HT.Al L p2 (λz=>O (g.nil_iff.mp z)) (λz=>⟨.ref a,H,I,rfl,J (c.nil_iff.mp z)⟩) (λz=>?_) (by rw[<- g.length,<- c.length];exact hz);refine⟨.ref s.heap.objs.size,_,I.laid (t':=s.toks) (o:=.tup (xs++ys)) (λb ob q=>aj _ q) (aw _) ?_,rfl,G (λw=>z (c.nil_iff.mpr w)) _ (I.hok.fresh (aw _))⟩;exact⟨by rw[aC];exact hz,_,g.append c,kJ.new _ _⟩
end
noncomputable def n_(n:Nat)(i:Int):Option Nat:=if 0<=i then (if i < n then some i.toNat else none) else if -(n:Int)<=i then some (i+n).toNat else none
def A8{α:Type}(xs:List α)(i:Int):Option α:=(n_ xs.length i).bind λj=>xs[j]?
def NU{n:Nat}{i:Int}{j:Nat}(h:n_ n i=some j):seqIndex? i n=some j/\j < n /\ -(n:Int)<=i/\i < n:=by
 unfold n_ at h;by_cases g:0<=i
 ·rw[aH g]at h;by_cases c:i < n
  ·rw[aH c]at h;let e:i.toNat=j:=aM h;exact⟨by rw[uC g c,e],by ext,by ext,c⟩
  ·rw[aD c]at h;cases h
 ·rw[aD g]at h;by_cases c : -(n:Int)<=i
  ·rw[aH c]at h;let e:(i+n).toNat=j:=aM h;exact⟨by rw[sW () c,e],by ext,c,by ext⟩
  ·rw[aD c]at h;cases h
def HG{α:Type}{xs:List α}{i:Int}{v:α}(h:A8 xs i=some v):∃j,seqIndex? i xs.length=some j/\xs[j]?=some v/\j < xs.length /\ -(xs.length:Int)<=i/\i < xs.length:=by
 unfold A8 at h;cases e:n_ xs.length i with|none=>rw[e]at h;cases h|some j=>
  rw[e]at h;let⟨o,l,g,c⟩:=NU e;exact⟨j,o,h,l,g,c⟩
noncomputable def rH(b:Expr):Prop:=∀o i,subscripted b false o i=operate [o,i] (nU o i)
def IxR(X:Cx)(r:R2):Prop:=
 ∀(g c:Expr)(ar:List (ak×Obj))(s:am)(σ:St)(H:Hp)(x y:V)(v u:ag)(Q:VK),Inv X ar σ H s->RelV x v->RelV y u->r x y H Q ->
  subscripted c false v u=operate [v,u] (nU v u)->aG (aY X.prog X.w) X.A (xo g c v u) (EP X ar σ Q) X.xe s
def Gr(X:Cx)(id:String)(r:V->List V->Hp->VK->Prop):Prop:=
 ∀(ar:List (ak×Obj))(s:am)(σ:St)(H:Hp)(x:V)(xs:List V)(v:ag)(us:List ag)(Q:VK),Inv X ar σ H s->RelV x v->cq xs us->r x xs H Q ->
  aG (aY X.prog X.w) X.A (call (.builtin id) (v::us)) (EP X ar σ Q) X.xe s
section
variable{X:Cx}{a b:Expr}{ta tb:TE}{pos:Pos}
def IxR.or{r C:R2}(h:IxR X r)(h':IxR X C):IxR X (λx y H Q=>r x y H Q\/C x y H Q):=by
 intro c g l s σ H x y v u Q I B o q E;rcases q with q|q
 ·exact h c g l s σ H x y v u Q I B o q E
 ·exact h' c g l s σ H x y v u Q I B o q E
def RT{r:R2}(C:IxR X r)(G:PE X a ta)(E:PE X b tb)(B:rH b):PE X (.Subscript a b pos) (Gq r ta tb):=by intro c s σ H Q I h;exact Di (C4 G E I h λv u g x y L J o l q=>C a b c g σ L x y v u Q J o l q (B _ _))
def Ce(K:ah):R2:=λx y H Q=>∃p xs i v,x=.ref p/\y=.int i/\gS K H p xs/\A8 xs i=some v/\Q v H
def FE(K:ah):R2:=λx y H Q=>∃p xs i v,x=.ref p/\y=.int i/\ml K H p xs/\A8 xs i=some v/\Q v H
def FC:R2:=λx y H Q=>∃z i c,x=.str z/\y=.int i/\z.length<=sizeLine/\A8 z.cps.toList i=some c/\Q (.str ⟨#[c]⟩) H
def Q3:IxR X (Ce X.K):=by
 intro l o c s σ H x y v u Q I Y U h G;let⟨p,xs,i,z,rfl,rfl,hq,he,q⟩:=h;cases Y;let⟨t,rfl⟩:=U;let⟨its,r,C,hz⟩:=I.list hq;let⟨j,g,h2,h3,h4,h5⟩:=HG he;let⟨w,L,B⟩:=r.get h2;let hl:=r.length;let hn:=Bb;let fin:EP X c σ Q w s:=⟨z,H,I,B,q⟩
 by_cases J:0<=i
 ·let E : i.toNat = j := by rw[uC J h5]at g;exact aM g
  exact item_listR C.isList J () (by rw[E];simpa using L) fin G
 ·let E : (i+(its.toArray.size : Int)).toNat = j := by rw[sW () h4]at g;rw[aI,<- hl];exact aM g
  exact zj (x:=w) C.isList.typeIs sX.lookup
   (zk (Q:=λr O=>r=w/\EP X c σ Q r O) C.isList () (by rw[aI]<;>ext) () (by rw[E];simpa using L) ⟨rfl,fin⟩) G
def Sx:IxR X (FE X.K):=by
 intro g l c s σ H x y v u Q I G E h J;let⟨p,xs,i,z,rfl,rfl,L,U,q⟩:=h;cases G;let⟨t,rfl⟩:=E;let⟨its,r,B,hz⟩:=I.tuple L;let⟨j,h1,Y,h3,h4,h5⟩:=HG U;let⟨w,ew,o⟩:=r.get Y;let O:=r.length;let hn:=Bb;let fin:EP X c σ Q w s:=⟨z,H,I,o,q⟩
 exact zj (x:=w) B.typeIs slot_tuple_getitem.lookup
  (getItem_tuple (j:=j) (Q:=λr C=>r=w/\EP X c σ Q r C) B () () (by rw[aI,<- O];exact h1) (by simpa using ew) ⟨rfl,fin⟩) J
def Zw:IxR X FC:=by
 intro g l o s σ H x y v u Q I E C h G;let⟨z,i,c,rfl,rfl,hz,L,q⟩:=h;let⟨t,rfl⟩:=E;let⟨t',rfl⟩:=C;let⟨j,B,Y,h3,U,O⟩:=HG L;let J:z.cps.toList.length=z.length:=by simp[Str.length]
 rw[J]at B U O;let hn:=Bb;exact AK (typeIs_str s z t) slot_str_getitem.lookup (getItem_str (c:=c) (by have e1:decide (i < -(2^63:Int))=false:=bc ();have e2:decide (i ≥ 2^63)=false:=bc ();rw[e1,e2,Bool.or_false]) (by rw[B];simpa using Y) ⟨.str ⟨#[c]⟩,H,I.tok _,⟨_,rfl⟩,q⟩) G
def Qo(K:ah):R2:=λx y H Q=>Ce K x y H Q\/FE K x y H Q\/FC x y H Q
def VN:IxR X (Qo X.K):=Q3.or (Sx.or Zw)
def S8(its:List ag)(n j:Nat)(u:ag):qv (·.setIfInBounds j u) { cls:=.type "list",data:=.seq its.toArray n }={ cls:=.type "list",data:=.seq (its.set j u).toArray n }:=by simp[qv]
theorem Inv.lst(I:Inv X c σ H s)(h:H p=some (.lst xs)):∃(its:List ag)(n:Nat),cq xs its/\s.heap.get? p=some { cls:=.type "list",data:=.seq its.toArray n }/\xs.length<=sizeLine:=by
 let⟨z,its,n,r,e⟩:=I.hok p _ h;exact⟨its,n,r,e,z⟩
def Inv.lstUpd{its its':List ag}{n g:Nat}{f:Obj->Obj}(I:Inv X c σ H s)(h:H p=some (.lst xs))(o:s.heap.get? p=some { cls:=.type "list",data:=.seq its.toArray n }) (l:f { cls:=.type "list",data:=.seq its.toArray n }={ cls:=.type "list",data:=.seq its'.toArray g }) (r:cq ys its') (hz:ys.length<=sizeLine) (t:Nat):Inv X c σ (fE H p (.lst ys)) { s with heap:=s.heap.update p f,toks:=t }:=by
 let e:(s.heap.update p f).get? p=some { cls:=.type "list",data:=.seq its'.toArray g }:=by rw[cT f o (by rw[l]<;>rfl),l]
 refine I.write (x:=p) (e:=p) (by rw[h];trivial) (.inl rfl) (λb u v q=>(dC _ _ (ff v)).trans q) ⟨_,e⟩ ?_;exact⟨hz,its',g,r,e⟩
def Fl:V->V->V->Hp->(Hp->Prop)->Prop:=λo i v H Q=>∃p xs k j,o=.ref p/\i=.int k/\H p=some (.lst xs)/\n_ xs.length k=some j/\Q (fE H p (.lst (xs.set j v)))
def Qd:PSet X Fl:=by
 intro c s σ H o i v ov iv u Q I Y ri U h;let⟨p,xs,k,j,rfl,rfl,E,hj,q⟩:=h;cases Y;let⟨t,rfl⟩:=ri;let⟨its,n,r,l,hz⟩:=I.lst E;let⟨g,h2,J,G⟩:=NU hj;let B:=r.length;let hn:=Bb;let O:Inv X c σ (fE H p (.lst (xs.set j v))) { s with heap:=s.heap.update p (qv (·.setIfInBounds j u)) }:=
  I.lstUpd E l (S8 its n j u) (r.set U j) (by rw[dq];exact hz) s.toks
 by_cases L:0<=k
 ·let C : k.toNat = j := by rw[uC L G]at g;exact aM g
  exact PySem.W.ki_setAt l L () (by rw[aI,<- B];exact G) (by rw[C];exact⟨_,O,q⟩)
 ·let C : (k+(its.toArray.size : Int)).toNat = j := by rw[sW () J]at g;rw[aI,<- B];exact aM g
  exact PySem.W.ki_setBack l () (by rw[aI,<- B];exact J) () (by rw[C];exact⟨_,O,q⟩)
def Vl(lo c:Option Int)(n:Nat):(fP lo c none n).1=((HT.gU n 0 lo:Nat):Int)/\(fP lo c none n).2.1=((HT.gU n n c:Nat):Int)/\(fP lo c none n).2.2=1:=by
 refine⟨?_,?_,rfl⟩
 ·cases lo with|none=>simp[fP,HT.gU]|some i=>
   simp only[fP,HT.gU,qR,show (1:Int) > 0 by decide,if_true];by_cases h:i < 0
   ·simp only[h,if_true]<;>ext
   ·simp only[h,if_false]<;>ext
 ·cases c with|none=>simp[fP,HT.gU]|some i=>
   simp only[fP,HT.gU,qR,show (1:Int) > 0 by decide,if_true];by_cases h:i < 0
   ·simp only[h,if_true]<;>ext
   ·simp only[h,if_false]<;>ext
def W2(its:List ag)(lo c:Option Int):xQ its.toArray lo c none=((its.drop (HT.gU its.length 0 lo)).take (HT.gU its.length its.length c-HT.gU its.length 0 lo)).toArray:=by let⟨l,h,g⟩:=Vl lo c its.toArray.size;unfold xQ;rw[l,h,g];simp only[sliceRange_one,pick_run,aI]<;>rfl
def GK(K:ah):V->Option Int->Option Int->Hp->VK->Prop:=λx lo c H Q=>∃a xs,x=.ref a/\gS K H a xs/\∀p,H p=none->Q (.ref p) (fE H p (.lst (t8 xs lo c)))
def YU:Ir X (GK X.K):=by intro l s σ H x v O L lo g U Q I B J E C h;let⟨a,xs,rfl,G,q⟩:=h;cases B;let⟨its,r,u,hz⟩:=I.list G;let c:=r.length;refine⟨"list",_,sX.lookup,u.isList.typeIs,?_⟩;refine xp u.isList J E C .none (by simp) ?_ (by rw[aI]<;>ext);rw[W2,<- c];refine⟨.ref s.heap.objs.size,_,I.laid (t':=s.toks) (o:=.lst (t8 xs lo g)) (λb Y q=>aj _ q) (aw _) ?_,rfl,q _ (I.hok.fresh (aw _))⟩;exact⟨cW (Px xs lo g) hz,_,0,(r.drop (HT.gU xs.length 0 lo)).take (HT.gU xs.length xs.length g-HT.gU xs.length 0 lo),ay _ rfl⟩
noncomputable def oW:V->Bool
 | .non=>true| .bl _=>true| .int _=>true| .str _=>true|_=>false
noncomputable def Ap:V->V->Bool
 | .non,.non=>true| .bl a,.bl b=>a == b| .bl a,.int b=>(if a then 1 else 0) == b| .int a,.bl b=>a == (if b then 1 else 0)| .int a,.int b=>a == b| .str a,.str b=>a == b|_,_=>false
def Qcn(g:RelV y u)(c:RelV x v)(l:oW y=true)(h:oW x=true):sY A s u v (Ap y x):=by
 cases y with
 |non=>
  cases g;cases x with|non=>cases c;exact sY.same _|bl b=>cases c;exact sY.none_bool b|int b=>let⟨t,rfl⟩:=c;exact sY.none_int b t|str b=>let⟨t,rfl⟩:=c;exact sY.none_str b t|_=>exact bh (show false=true from h) bE
 |bl a=>
  cases g;cases x with|non=>cases c;exact sY.bool_none a|bl b=>cases c;exact sY.bool_bool a b|int b=>let⟨t,rfl⟩:=c;exact sY.bool_int a b t|str b=>let⟨t,rfl⟩:=c;exact sY.bool_str a b t|_=>exact bh (show false=true from h) bE
 |int a=>
  let⟨t',rfl⟩:=g;cases x with|non=>cases c;exact sY.int_none a t'|bl b=>cases c;exact sY.int_bool a t' b|int b=>let⟨t,rfl⟩:=c;exact uD a t' b t|str b=>let⟨t,rfl⟩:=c;exact uz a t' b t|_=>exact bh (show false=true from h) bE
 |str a=>
  let⟨t',rfl⟩:=g;cases x with|non=>cases c;exact sY.str_none a t'|bl b=>cases c;exact sY.str_bool a t' b|int b=>let⟨t,rfl⟩:=c;exact uA a t' b t|str b=>let⟨t,rfl⟩:=c;exact sY.str_str a t' b t|_=>exact bh (show false=true from h) bE
 |_=>exact bh (show false=true from l) bE
def Av(x:V)(u:ag):Bool:=match u with| .none=>Ap .non x| .bool b=>Ap (.bl b) x| .int i _=>Ap (.int i) x| .str z _=>Ap (.str z) x|_=>false
def QR(r:RelV y u)(f:oW y=true):Av x u=Ap y x:=by
 cases y with|non=>cases r;rfl|bl b=>cases r;rfl|int i=>let⟨t,rfl⟩:=r;rfl|str z=>let⟨t,rfl⟩:=r;rfl|_=>exact bh (show false=true from f) bE
theorem Lj:∀{xs:List V}{c:List ag},cq xs c->xs.all oW=true->c.any (Av x)=xs.any λy=>Ap y x
 |_,_,.nil,_=>rfl|y::xs,u::c,.cons r t,f=>by rw[cE,bv]at f;rw[eU,eU,QR r f.1,Lj t f.2]
theorem KH(g:RelV x v)(h:oW x=true):∀{xs:List V}{c:List ag},cq xs c->xs.all oW=true->∀u∈c,sY A s u v (Av x u)
 |_,_,.nil,_=>λu hu=>by cases hu
 |y::xs,u::c,.cons r t,f=>λu' hu=>by
  rw[cE,bv]at f;rcases aR.mp hu with rfl|hu
  ·rw[QR r f.1];exact Qcn r g f.1 h
  ·exact KH g h t f.2 u' hu
def Il(x:V)(xs:List V):Bool:=xs.any λy=>Ap y x
def N1(K:ah)(c:Bool):R2:=λx y H Q=>∃p xs,y=.ref p/\(gS K H p xs\/ml K H p xs)/\oW x=true/\xs.all oW=true/\Q (.bl (if c then !Il x xs else Il x xs)) H
def TU:OpR X (dH .NotIn) (N1 X.K true):=by
 intro B s σ H x y v u Q I o E h;let⟨p,xs,rfl,c,C,fs,q⟩:=h;cases E;rcases c with c|c
 ·let⟨its,r,g,hz⟩:=I.list c;refine SeqAt.notIn_listAt (Av x) g.isList (λw l=>KH o C r fs w (by simpa using l)) ⟨.bl _,H,I,rfl,?_⟩;rw[show its.toArray.any (Av x)=its.any (Av x) by simp,Lj r fs];exact q
 ·let⟨its,r,g,hz⟩:=I.tuple c;refine SeqAt.notIn_tupleAt (Av x) g (λw l=>KH o C r fs w (by simpa using l)) ⟨.bl _,H,I,rfl,?_⟩;rw[show its.toArray.any (Av x)=its.any (Av x) by simp,Lj r fs];exact q
def R3:CallR X (.builtin "len") (λxs H Q=>∃p ys,xs=[.ref p]/\(gS X.K H p ys\/ml X.K H p ys)/\Q (.int ys.length) H):=by
 intro v s σ H xs C Q I r h;let⟨p,ys,rfl,g,q⟩:=h;let⟨u,rfl,B⟩:=w8 r;cases B;let E:=Bb;rcases g with g|g
 ·let⟨its,l,o,hz⟩:=I.list g;let c:=l.length;exact Calls.call_len_list o.isList (by simp only[aI]<;>ext) ⟨.int ys.length,H,I.tok _,⟨s.toks+1,by rw[aI,c]⟩,q⟩
 ·let⟨its,l,o,hz⟩:=I.tuple g;let c:=l.length;exact len_tuple o (by simp only[aI]<;>ext) ⟨.int ys.length,H,I.tok _,⟨s.toks+1,by rw[aI,c]⟩,q⟩
def Ug:CallR X (.builtin "len") (λxs H Q=>∃z,xs=[.str z]/\z.length<=sizeLine/\Q (.int z.length) H):=by intro c s σ H xs g Q I r h;let⟨z,rfl,hz,q⟩:=h;let⟨u,rfl,t,rfl⟩:=w8 r;let l:=Bb;exact len_str () ⟨.int z.length,H,I.tok _,⟨_,rfl⟩,q⟩
def CallR.or{r l:List V->Hp->VK->Prop}(h:CallR X f r)(h':CallR X f l):CallR X f (λxs H Q=>r xs H Q\/l xs H Q):=by
 intro c s σ H xs g Q I rs q;rcases q with q|q
 ·exact h c s σ H xs g Q I rs q
 ·exact h' c s σ H xs g Q I rs q
def Np:CallR X (.type "tuple") (λxs H Q=>∃p ys,xs=[.ref p]/\((gS X.K H p ys/\∀l,H l=none->Q (.ref l) (fE H l (.tup ys)))\/(ml X.K H p ys/\Q (.ref p) H))):=by
 intro c s σ H xs O Q I r h;let⟨p,ys,rfl,h⟩:=h;let⟨u,rfl,G⟩:=w8 r;cases G;rcases h with ⟨B,q⟩|⟨B,q⟩
 ·let⟨its,g,v,hz⟩:=I.list B;let C:=g.length;refine call_tuple_list v.isList (λh' J=>?_) (by simp only[aI]<;>ext);let E:Inv X c σ H { s with heap:=h' }:=I.kept (t':=s.toks) J;let L:Inv X c σ (fE H h'.objs.size (.tup ys)) { s with heap:=h'.push { cls:=.type "tuple",data:=.seq its.toArray } }:=
   E.laid (t':=s.toks) (λb o e=>aj _ e) (aw _) (show gp X.prog X.w _ _ _ (.tup ys) from ⟨hz,its,g,kJ.new _ _⟩)
  exact⟨.ref h'.objs.size,_,L,rfl,q _ (E.hok.fresh (aw _))⟩
 ·let⟨its,g,v,hz⟩:=I.tuple B;exact call_tuple_same v ⟨.ref p,H,I,rfl,q⟩
def JX(K:ah)(T:String)(x:V)(H:Hp):Prop:=match x with
 | .str _=>T="str"| .int _=>T="int"
 | .ref p => (T = "list" /\ ∃xs, gS K H p xs) \/ (T = "tuple" /\ ∃o, K.lookup p = some o /\ o.cls = .type "tuple" /\ o.dict = none) \/
   (T="dict"/\((∃c,H p=some (.dK c))\/∃c,H p=some (.dT c)))\/(T="set"/\∃S n,H p=some (.set S n))
 |_=>False
def NC(I:Inv X h σ H s)(r:RelV x v)(ty:JX X.K T x H):s.TypeIs v T/\∀a,v=.ref a->∃B,s.heap.get? a=some B/\B.dict=none:=by
 cases x with
 |str z=>
  let⟨t,rfl⟩:=r;cases (show T="str" from ty);exact⟨typeIs_str s z t,λ_ e=>nomatch e⟩
 |int i=>
  let⟨t,rfl⟩:=r;cases (show T="int" from ty);exact⟨typeIs_int s i t,λ_ e=>nomatch e⟩
 |ref p=>
  cases r;rcases ty with ⟨rfl,xs,C⟩|⟨rfl,o,g,E,hd⟩|⟨rfl,g⟩|⟨rfl,S,n,g⟩
  ·let⟨its,_,u,_⟩:=I.list C;refine⟨u.isList.typeIs,λa e=>?_⟩;cases e;let⟨o,n,e,c,hd,_⟩:=u;exact⟨o,e,hd⟩
  ·refine⟨⟨o,I.kIn p o g,E⟩,λa e=>?_⟩;cases e;exact⟨o,I.kIn _ o g,hd⟩
  ·let z : ∃o, s.heap.get? p = some o /\ o.ExactDict := by
     rcases g with ⟨l,g⟩|⟨l,g⟩
     ·let⟨_,_,_,_,o,_,_,e,ex,_⟩:=I.hok p _ g;exact⟨o,e,ex⟩
     ·let⟨_,_,_,_,o,_,_,e,ex,_⟩:=I.hok p _ g;exact⟨o,e,ex⟩
   let⟨o,e,ex⟩:=z;refine⟨⟨o,e,ex.1⟩,λa q=>?_⟩;cases q;exact⟨o,e,ex.2.1⟩
  ·let⟨o,_,_,_,e,ex,_⟩:=I.hok p _ g;refine⟨⟨o,e,ex.1⟩,λa q=>?_⟩;cases q;exact⟨o,e,ex.2.1⟩
 |_=>exact c9 ty
def Lf(K:ah)(T:String)(r:V->List V->Hp->VK->Prop)(to:TE):TE:=λσ H Q=>to σ H λx c=>JX K T x c/\r x [] c Q
def WU(K:ah)(T:String)(r:V->List V->Hp->VK->Prop)(to:TE)(t:TA):TE:=λσ H Q=>to σ H λx c=>JX K T x c/\t σ c λxs g=>r x xs g Q
variable{o e:Expr}{es:List Expr}{to:TE}{t:TA}{name:Str}{a8 a7:Pos}{T id:String}{r:V->List V->Hp->VK->Prop}
def ZS(J:PlainAttrs T)(slot:Slot T name id)(u:Dj (.builtin id)=pure (.type "method_descriptor"))(O:Gr X id r)(L:PE X o to)(l:dY o name X.env (eval o X.env)=eval o X.env:=by rfl) (g:(a8.endLine == a7.line)=true:=by rfl):PE X (.Call (.Attribute o name a8) [] [] a7) (Lf X.K T r to):=by
 intro c s σ H Q I h;refine xR l g (fT (L c s σ H _ I h) λv E q=>?_);let⟨x,H1,C,B,ty,G⟩:=q;let⟨Y,U⟩:=NC C B ty;exact⟨T,id,J,slot,u,Y,U,kt rfl (wv (O c E σ H1 x [] v [] Q C B .nil G))⟩
def NM(pa:PlainAttrs T)(slot:Slot T name id)(E:Dj (.builtin id)=pure (.type "method_descriptor"))(hm:Gr X id r)(ho:PE X o to)(ha:PA X (e::es) t)(q:dY o name X.env (eval o X.env)=eval o X.env:=by rfl)
  (C:((backTo a7 (starEach (e::es) X.env)).all (λx => !x.1)&&(qw a7 (l9 [] X.env)).all (λx=>x.1.isSome)
   && decide ((e::es).length+([]:List i5).length+(if ([]:List i5).isEmpty then 0 else 1) < 30))=true:=by rfl)
  (l:(a8.endLine == a7.line)=true:=by rfl) (hs:starEach (e::es) X.env=(false,eval e X.env)::starEach es X.env:=by rfl) (g:(backTo a7 (starEach es X.env)).any (·.1)=false:=by rfl):
  PE X (.Call (.Attribute o name a8) (e::es) [] a7) (WU X.K T r to t):=by
 intro c s σ H Q I h;refine zl q C l rfl (fT (ho c s σ H _ I h) λv s1 B=>?_);let⟨x,H1,L,G,ty,q1⟩:=B;let⟨h1,h2⟩:=NC L G ty;refine⟨T,id,pa,slot,E,h1,h2,?_⟩;let J:=ha a7 c s1 σ H1 _ L q1;rw[hs]at J ⊢;refine kt (by show (false||(backTo a7 (starEach es X.env)).any (·.1))=false;rw[g]<;>rfl) (oP ?_);exact fT J λU Y u=>by let⟨O,H2,I2,r2,q2⟩:=u;exact hm c Y σ H2 x O v U Q I2 G r2 q2
end
def Qi(X:Cx)(id:String)(r:V->List V->Hp->VK->Prop):Prop:=
 ∀(ar:List (ak×Obj))(s:am)(σ:St)(H:Hp)(x:V)(xs:List V)(v:ag)(us:List ag)(Q:VK),Inv X ar σ H s->RelV x v->cq xs us->r x xs H Q ->
  aG (aY X.prog X.w) X.A (call (.builtin id) (v::us)) (EP X ar σ Q) X.xe s
def cq.one{x:V}{c:List ag}(h:cq [x] c):∃u,c=[u]/\RelV x u:=by
 cases h with|cons r h=>cases h;exact⟨_,rfl,r⟩
def cq.two(h:cq [x,y] c):∃u v,c=[u,v]/\RelV x u/\RelV y v:=by
 cases h with
 |cons r h=>cases h with|cons q h=>cases h;exact⟨_,_,rfl,r,q⟩
theorem cq.zero:∀{c:List ag},cq [] c->c=[]
 |_,.nil=>rfl
theorem cq.dropLast(h:cq xs c):cq xs.dropLast c.dropLast:=by
 induction h with|nil=>exact .nil|cons r t ih=>
  cases t with|nil=>exact .nil|cons q t'=>exact .cons r ih
theorem cq.reverse(h:cq xs c):cq xs.reverse c.reverse:=by
 induction h with|nil=>exact .nil|cons r t ih=>rw[fX,fX];exact cq.append ih (.cons r .nil)
theorem cq.rep(h:cq xs c):∀k:Nat,cq (bQ k xs).flatten (bQ k c).flatten
 |0=>.nil|k+1=>by rw[lO,lO,zm,zm];exact cq.append h (cq.rep h k)
def YI{α:Type}(l:List α):l.eraseIdx (l.length-1)=l.dropLast:=by
 induction l with|nil=>rfl|cons a r ih=>
  cases r with|nil=>rfl|cons b r=>
   let e:(a::b::r).length-1=((b::r).length-1)+1:=by have g:(a::b::r).length=r.length+2:=rfl;have c:(b::r).length=r.length+1:=rfl;ext
   rw[e,List.eraseIdx_cons_succ,ih]
   all_goals rfl
section
def Inv.lset{its its':List ag}{n:Nat}{f:Array ag->Array ag}{t':Nat}(I:Inv X ar σ H s)(o:H l=some (.lst xs))(e:s.heap.get? l=some { cls:=.type "list",data:=.seq its.toArray n }) (g:f its.toArray=its'.toArray) (c:cq ys its') (hz:ys.length<=sizeLine):Inv X ar σ (fE H l (.lst ys)) { s with heap:=s.heap.update l (qv f),toks:=t' }:=by
 let q:=PySem.IsL.update e f;rw[g]at q;refine I.write (x:=l) (e:=l) (by rw[o];exact trivial) (.inl rfl) (λv u h hu=>(dC s.heap (qv f) (ff h)).trans hu) ⟨_,q⟩ ?_;exact⟨hz,its',_,c,q⟩
def Inv.lnew{t':Nat}(I:Inv X ar σ H s)(c:cq ys its)(hz:ys.length<=sizeLine):Inv X ar σ (fE H s.heap.objs.size (.lst ys)) { s with heap:=s.heap.push { cls:=.type "list",data:=.seq its.toArray },toks:=t' }:=
 I.laid (λ_ _ q=>aj _ q) (aw _) ⟨hz,its,0,c,ay _ rfl⟩
theorem Inv.fresh(I:Inv X ar σ H s):H s.heap.objs.size=none:=I.hok.fresh (aw _)
def Inv.lstM(I:Inv X ar σ H s)(c:H l=some (.lst xs)):xs.length<=sizeLine/\∃(its:List ag)(n:Nat),cq xs its/\xs.length=its.length/\s.heap.get? l=some { cls:=.type "list",data:=.seq its.toArray n }:=by let⟨z,its,n,r,e⟩:=I.hok l _ c;exact⟨z,its,n,r,r.length,e⟩
end
section
def AA:V->List V->Hp->VK->Prop:=λx c H Q=>∃l xs y,x=.ref l/\c=[y]/\H l=some (.lst xs)/\xs.length < sizeLine/\Q .non (fE H l (.lst (xs++[y])))
def Ov:Qi X "list.append" AA:=by intro c s σ H x E v G Q I o B h;let⟨l,xs,y,rfl,rfl,g,hz,q⟩:=h;cases o;let⟨u,rfl,C⟩:=B.one;let⟨z,its,n,r,J,e⟩:=I.lstM g;refine su F.slot_list_append ⟨_,e,rfl⟩ F.entry_list_append (F.args_list_append_2 _ _) (PySem.list_append l its.toArray n u (by rw[aI];ext)) ⟨e,?_⟩;refine⟨.non,_,I.lset (its':=its++[u]) g e (by simp) (r.append (.cons C .nil)) ?_,rfl,q⟩;rw[aC,kU];ext
def Mh:V->List V->Hp->VK->Prop:=λx c H Q=>∃l xs y,x=.ref l/\c=[]/\H l=some (.lst xs)/\xs[xs.length-1]?=some y/\Q y (fE H l (.lst xs.dropLast))
def QcB:Qi X "list.pop" Mh:=by
 intro o s σ H x O v U Q I C E h;let⟨l,xs,y,rfl,rfl,B,J,q⟩:=h;cases C;let g:=E.zero;subst g;let⟨z,its,n,r,L,e⟩:=I.lstM B;let⟨u,hu,G⟩:=r.get J;let c:its.toArray[its.toArray.size-1]?=some u:=by show its.toArray[its.length-1]?=some u;rw[<- fu,<- L];exact hu
 refine su F.slot_list_pop ⟨_,e,rfl⟩ F.entry_list_pop (F.args_list_pop_1 _) (MeetsSeq.list_pop_last l its.toArray n u c (by rw[aI];ext)) ⟨e,?_⟩;refine⟨y,_,I.lset (its':=its.dropLast) B e ?_ r.dropLast ?_,G,q⟩
 ·show its.toArray.eraseIdxIfInBounds (its.toArray.size-1)=its.dropLast.toArray;rw[aI,List.eraseIdxIfInBounds_toArray,YI]
 ·rw[ww];ext
def JQ:R2:=λx y H Q=>∃l b xs zs,x=.ref l/\y=.ref b/\H l=some (.lst xs)/\H b=some (.lst zs)/\xs.length+zs.length<=sizeLine/\∀p,H p=none->Q (.ref p) (fE H p (.lst (xs++zs)))
def Y5:OpR X (fH .Add) JQ:=by
 intro g s σ H x y v u Q I B o h;let⟨l,b,xs,zs,rfl,rfl,G,J,hz,q⟩:=h;cases B;cases o;let⟨z,its,n,r,hl,e⟩:=I.lstM G;let⟨U,c,Y,C,E,O⟩:=I.lstM J;refine PySem.P.add_list e O ?_ (by rw[aI,aI];ext);let L:its.toArray++c.toArray=(its++c).toArray:=by simp
 rw[L];exact⟨.ref _,_,I.lnew (t':=s.toks) (r.append C) (by rw[aC];ext),rfl,q _ I.fresh⟩
end
section
def QcD{a c n:Nat}(g:a<=c)(o:c<=n):fP (some (a:Int)) (some (c:Int)) none n=((a:Int),(c:Int),1):=by
 simp only[fP,qR];let l:¬ ((a:Int) < 0):=by ext
 let h:¬ ((c:Int) < 0):=by ext
 simp only[l,h,if_false,show (1:Int) > 0 by decide,if_true];congr 1
 ·ext
 ·congr 1;ext
end
end L2
namespace Att
open PySem PySem.W PySem.Calls PyProof.Rows
def YH:∀(c:List Int)(g:List ag),WellAll P h g (c.map IY)->lU g c:=by
 intro c
 induction c with
 |nil=>
  intro g w;rw[lV]at w;cases w;exact .nil
 |cons n c ih=>
  intro g w;rw[aV]at w;cases w with|cons a b=>
   cases a;exact .cons _ _ (ih _ b)
def Zj{l:OpenLaw}{n:Nat}(J:l.most=some n)(o:l.row.toRowW.claim.pre args=true) (C:WellAll P h g args):∃a G c,g=[bD a]/\args=[WData.list (c.map IY)]/\h.get? a=some { cls:=.type "list",data:=.seq G.toArray }/\lU G c/\c.length<=n:=by
 let E:WShape.hasAll [] args [.list .int]=true:=(pre_splitW o).1;let H:l.pre.holds [] { args:=args }=true:=(pre_splitW o).2;let⟨d,r,rfl,Q,O⟩:=hasAllW_cons E;obtain rfl:=hasAllW_nil O;let⟨xs,rfl,L⟩:=hasW_list Q;let⟨c,rfl⟩:=items_int L;let u:c.length<=n:=by
  unfold OpenLaw.pre at H;let B:(WTm.not (.lt (.lit (.int (n:Int))) (.len (.arg 0)))).holds [] { args:=[.list (c.map .int)] }=true:=by have B:=(holds_andW H).1;rw[J]at B;exact B
  let v:=condW_of B (w_not (w_lt w_lit (w_len_list (w_arg rfl))));rw[af]at v;refine sw λq=>?_;let I:(n:Int) < ((c.length:Nat):Int):=by ext
  first
   | (rw[cz I]at v;exact bh v (by decide))| (simp at v;ext)
 cases C with|cons w1 w2=>
  cases w2;cases w1 with|list ho hall=>exact⟨_,_,c,rfl,rfl,ho,YH c _ hall,u⟩
def TR(l:OpenLaw)(args:List WData):l.row.toRowW.claim.post args (.bool true) args=true:=
 postW_of (r:=l.row.toRowW) (X:=(true == true))
  (show D3 [] (.bool true) .bool=true by first|rfl|decide|simp[D3,WShape.arms,WShape.armsAll])
  (show (WTm.eq .res (.lit (.bool true))).value [] { args:=args,res:=some (.bool true),after:=args }=some (.bool (true == true)) from w_eq_bool (w_res rfl) w_lit) rfl
def uV{l:OpenLaw}{n:Nat}{YP:bM->bK->Prop}{d:DefRec}(hn:l.most=some n) (hdf:d.params.defaults=[])(call:∀(w:bM)(s₀ s₁:am)(mg O:Str->Option ag)(E:ak)(o:Obj)(L J h:ag)(a:ak)(u:List ag)(I:List Int),Ground q c [] XP w s₀ mg O s₁.heap->YP w s₁.heap ->s₁.heap.get? E=some o->o.data=.func (docDef d.name d.params d.body d.scope L J h)->s₁.heap.CodeRec J d.name->mg d.name=some (.ref E) ->s₁.heap.get? a=some { cls:=.type "list",data:=.seq u.toArray }->lU u I->I.length<=n->s₁.gens=#[] ->iG (aY l.prog w) lW (.call (.ref E) ⟨[.ref a],[]⟩) (λr H=>r=.ok (.ret (.bool true))/\OldK s₁.heap H.heap/\H.os=s₁.os/\lT H.gens) s₁):WalkO q c XP YP l.row.toRowW d [] (λf u=>xq f u):=by
 intro w s₀ s₁ mg O G Y E o L J h dV kV ho hd hcd hD U hg args vals as v hlay hrd Q hlo;obtain rfl:dV=.none:=Dflts.none hD hdf;obtain rfl:kV=.none:=Dflts.noKw hD;let⟨a,u,I,rfl,rfl,B,g,C⟩:=Zj hn v Q;refine enter_call (lc (call w s₀ s₁ mg O E o L J h a u I G Y ho (fd_plain hd) hcd U B g C hg) λr H hq=>?_);let⟨rfl,h2,h3,h4⟩:=hq;exact⟨.inl ⟨.bool true,.bool true,[],rfl,λ_=>rfl,.bool true,TR l _,λ_=>⟨tT,λ_ hm=>(nomatch hm)⟩⟩,h2,h3,h4⟩
end Att
namespace L2
open PySem PySem.Spec PyProof.Rows
theorem J_:∀{c:List ag}{g:List Int},lU c g->cq (g.map V.int) c
 |_,_,.nil=>.nil|_,_,.cons n t h=>.cons ⟨t,rfl⟩ (J_ h)
def F0(H:Hp):Prop:=∀b,H b=none\/∃o xs,H b=some (.frz o (.lst xs))
def QcJ{K:ah}{k:Nat}{s₁:am}{E:List ag}(KX:K.In s₁.heap) (Q:s₁.heap.Ns cO mg) (g:s₁.heap.Ns nv mb) (hbb:∀x:Str,x≠"__name__"->mb x=cZ x) (U:s₁.heap.NoLimit) (hg:s₁.gens=#[])(ha:s₁.heap.get? a=some { cls:=.type "list",data:=.seq E.toArray }) (hi:lU E L) (hl:L.length<=sizeLine) (hr:iw k lW)(F:∀base:bK,K.In base->base.Ns cO mg->mI P w K mg base CX k fa fd [x] sp) (G:∀(s:am)(u:ag),sU s fd ⟨[u],[]⟩ [(x,u)])(hsp:∀H:Hp,F0 H->gS K H a (L.map V.int)->sp [.ref a] H (λv _=>v=.bl true) λ_ _ _=>False)(hCX:∀H e l,CX [] H s₁ (λ_ _ _=>False) e l->False):iG (aY P w) lW (.call (.ref fa) ⟨[.ref a],[]⟩) (λr l=>r=.ok (.ret (.bool true))/\OldK s₁.heap l.heap/\l.os=s₁.os/\lT l.gens) s₁:=by
 let rv:=J_ hi;let O:=hi.length;let C : ∀H : Hp, F0 H -> gS K H a (L.map V.int) -> nN P w H s₁.heap -> (∀b, H b ≠ none -> b = a) -> (H a ≠ none -> K.lookup a = none) ->
   iG (aY P w) lW (.call (.ref fa) ⟨[.ref a],[]⟩) (λr l=>r=.ok (.ret (.bool true))/\OldK s₁.heap l.heap/\l.os=s₁.os/\lT l.gens) s₁:=by
  intro H hO hS hok hA hK;let c:∀{b:ak}{o:Obj},s₁.heap.get? b=some o->H b=none->(pc s₁.heap H).get? b=some o:=λe n=>RM e n;let noA:∀{b:ak}{o:Obj}{es:Array kP}{ep:Nat},s₁.heap.get? b=some o->o.data=.dict es ep->H b=none:=λ{b o es ep}e d=>by
   cases q:H b with|none=>rfl|some u=>
    let e':b=a:=hA b (by rw[q];simp);subst e';rw[ha]at e;cases e;let d':Data.seq E.toArray _=Data.dict es ep:=d;cases d'
  let B:∀{b:ak}{m:Str->Option ag},s₁.heap.Ns b m->(pc s₁.heap H).Ns b m:=λ{b m}J=>by let⟨o,es,ep,e,d,r⟩:=J;exact⟨o,es,ep,c e (noA e d),d,r⟩
  let Y:K.In (pc s₁.heap H):=λb o e=>c (KX b o e) (by
   cases q:H b with|none=>rfl|some u=>
    let e':b=a:=hA b (by rw[q];simp);subst e';rw[hK (by rw[q];simp)]at e;cases e)
  let hM:Mod K mg (pc s₁.heap H):=⟨Y,B Q,⟨mb,B g,hbb⟩,let ⟨mc,h1,h2⟩:=U;⟨mc,B h1,h2⟩⟩
  let e0:r_ P w K mg (pc s₁.heap H) lW [] s₁ H:=⟨rfl,hM,λb o e=>Rh e,Hv (NG _ _),trivial,λb g=>bh (show b∈([]:List ak) from g) (by simp),hok,.of_eq hg⟩
  refine lc ((F _ Y (B Q)).run lW [] s₁ H ⟨[.ref a],[]⟩ [.ref a] [.ref a] _ _ hr e0 (G s₁ (.ref a)) (.cons rfl .nil) (hsp H hO hS)) λr l h=>?_;cases r with|error e=>exact (hCX H e l h).elim|ok fl=>
   cases fl with|next=>exact c9 h|brk=>exact c9 h|cont=>exact c9 h|ret u=>
    let⟨v,H',os,bare,un,hok',r',q⟩:=h;let q':v=.bl true:=q;subst q';obtain rfl:u=dB true:=r';refine⟨rfl,OldK.of_keep λb o e=>?_,os,bare⟩;cases q:H b with|none=>exact un.keep b o e q (by intro z;exact bh (show b∈([]:List ak) from z) (by simp)) (by simp)|some u=>
     rcases hO b with z|⟨ob,xs,z⟩
     ·rw[q]at z;cases z
     ·let g:=un.frzs b ob _ z;let⟨c,_⟩:=hok b _ z;let⟨h,_⟩:=hok' b _ g;rw[e]at c;cases c;exact h
 cases hk:K.lookup a with
 |some o=>
  let e:=KX a o hk;rw[ha]at e;cases e;refine C (λ_=>none) (λ_=>.inl rfl) (.inr ⟨_,E.toArray,_,hk,rfl,rfl,rfl,by rw[aI,O];exact hl,by simpa using rv⟩) (λb u z=>by have I:(none:Option HO)=some u:=z;cases I) (λb z=>bh rfl z) λz=>bh rfl z
 |none=>
  refine C (λb=>if b=a then some (.frz { cls:=.type "list",data:=.seq E.toArray } (.lst (L.map V.int))) else none) (λb=>?_) (.inl (.inr ⟨{ cls:=.type "list",data:=.seq E.toArray },aH rfl⟩)) (λb u z=>?_) (λb z=>?_) λ_=>hk
  ·by_cases g:b=a
   ·exact .inr ⟨_,_,aH g⟩
   ·exact .inl (aD g)
  ·by_cases g:b=a
   ·let I:=(aH g).symm.trans z;cases I;subst g;exact⟨ha,by rw[af];exact hl,E,_,rv,ha⟩
   ·let I:=(aD g).symm.trans z;cases I
  ·by_cases g:b=a
   ·exact g
   ·exact bh (aD g) z
noncomputable def dO(s:Stmt):iB:=match s with| .FunctionDef _ a _ _ _ _ _ _ _ _=>a|_=>{ posonlyargs:=[],args:=[],vararg:=none,kwonlyargs:=[],kw_defaults:=[],kwarg:=none,defaults:=[] }
noncomputable def cK(s:Stmt):List Stmt:=match s with| .FunctionDef _ _ b _ _ _ _ _ _ _=>b|_=>[]
noncomputable def bj(s:Stmt):du:=match s with| .FunctionDef _ _ _ _ _ _ sc _ _ _=>sc|_=>{ kind:=.function,names:=[],isGenerator:=false,isCoroutine:=false }
noncomputable abbrev q_:yx:=λ_ _ _ _ _ _=>False
noncomputable abbrev E0:XK:=λ_ _ _=>False
def RX:uj q_ X E0:=λ_ _ _ _ _ _ _ h=>h.elim
structure yw(K:ah)(x qual:Str)(st:Stmt)(f:ak)(fd:dm):Prop where
 ex:∃(oc:ag)(od:Option ak)(kV doc pm:ag)(an:Option ak)(cdv ct:ag)(osl:Array (Option ag)),
  fd=cC x qual (dO st) (cK st) (bj st) .none kV doc pm an cdv ct/\K.lookup f=some ⟨oc,od,.func fd,osl⟩/\gz K cdv qual=true
 kp:di K (.ref f)=true
section
variable{K:ah}
def yw.binds{st:Stmt}{ps:List Str}(F:yw K x qual st f u)(h:∀(kV c o:ag)(q:Option ak)(g ct:ag)(l:List ag),l.length=ps.length->gE (cC x qual (dO st) (cK st) (bj st) .none kV c o q g ct) ⟨l,[]⟩=pure (ps.zip l)):Binds K u ps []:=by
 let⟨E,C,kV,c,o,q,g,ct,v,rfl,G,B⟩:=F.ex;exact .all (h kV c o q g ct)
def OB{st:Stmt}{kV h q g ct:ag}(l:K.lookup f=some ⟨B,v,.func (cC x qual (dO st) (cK st) (bj st) .none kV h q u g ct),o⟩)(c:gz K g qual=true) (k:di K (.ref f)=true):yw K x qual st f (cC x qual (dO st) (cK st) (bj st) .none kV h q u g ct):=⟨⟨B,v,kV,h,q,u,g,ct,o,rfl,l,c⟩,k⟩
end
def AB(H c:Hp):Prop:=∀b o,H b=some o->c b=some o
section
variable{κ:Type}[DecidableEq κ]
noncomputable def qZ(c:List (κ×V))(k:κ):Option V:=(c.find? λkv=>decide (kv.1=k)).map (·.2)
noncomputable def ng(c:List (κ×V))(k:κ)(v:V):List (κ×V):=
 if (c.any λkv=>decide (kv.1=k))=true then c.map (λkv=>if kv.1=k then (kv.1,v) else kv) else c++[(k,v)]
def IJ{p:κ×V}{r:List (κ×V)}{k:κ}(e:p.1=k):qZ (p::r) k=some p.2:=by simp[qZ,c5,e]
def HW{p:κ×V}{r:List (κ×V)}{k:κ}(e:¬ p.1=k):qZ (p::r) k=qZ r k:=by simp[qZ,c5,e]
theorem RV(k:κ):∀c:List (κ×V),(c.any λkv=>decide (kv.1=k))=(qZ c k).isSome
 |[]=>rfl
 |p::r=>by
  rw[eU];by_cases e:p.1=k
  ·simp only[IJ e,cz e,Bool.true_or,gW]
  ·rw[HW e,bc e,Dk];exact RV k r
def Kj(c:List (κ×V))(k:κ)(v:V):(ng c k v).length<=c.length+1:=by
 unfold ng;split
 ·rw[af];ext
 ·rw[aC,b8,fU];ext
def rb.isSome_eq(r:rb o u):o.isSome=u.isSome:=by
 cases o with
 |none=>cases u with|none=>rfl|some _=>exact (show False from r).elim
 |some _=>cases u with|none=>exact (show False from r).elim|some _=>rfl
def KV.val{c:List (κ×V)}{l:List (κ×ag)}(r:KV c l)(k:κ):rb (qZ c k) (sZ l k):=by
 unfold KV at r
 induction r with|nil=>exact gi|@cons p q ps qs h t ih=>
  let⟨o,u⟩:=h;by_cases e:p.1=k
  ·let g:q.1=k:=o.symm.trans e;let b:sZ (q::qs) k=some q.2:=by simp[sZ,c5,g]
   rw[IJ e,b];exact u
  ·let g:¬ q.1=k:=λz=>e (o.trans z);let b:sZ (q::qs) k=sZ qs k:=by simp[sZ,c5,g]
   rw[HW e,b];exact ih
theorem KV.any{c:List (κ×V)}{g:List (κ×ag)}(r:KV c g)(k:κ):(c.any λkv=>decide (kv.1=k))=g.any λkv=>decide (kv.1=k):=by
 unfold KV at r
 induction r with|nil=>rfl|cons h t ih=>rw[eU,eU,ih,h.1]
def KV.repl{c:List (κ×V)}{l:List (κ×ag)}(r:KV c l)(k:κ)(o:RelV y u):KV (c.map λkv=>if kv.1=k then (kv.1,y) else kv) (l.map λkv=>if kv.1=k then (kv.1,u) else kv):=by
 unfold KV at r ⊢
 induction r with|nil=>exact .nil|@cons p q ps qs h t ih=>
  rw[aV,aV];refine .cons ?_ ih;let⟨g,v⟩:=h;by_cases e:p.1=k
  ·rw[aH e,aH (g.symm.trans e)];exact⟨g,o⟩
  ·rw[aD e,aD (λz=>e (g.trans z))];exact⟨g,v⟩
def KV.put{c:List (κ×V)}{g:List (κ×ag)}(r:KV c g)(k:κ)(h:RelV y u):KV (ng c k y) (stored g k u):=by
 unfold ng stored;rw[r.any k];by_cases e:(g.any λkv=>decide (kv.1=k))=true
 ·rw[aH e,aH e];exact r.repl k h
 ·rw[aD e,aD e];exact oz r ⟨rfl,h⟩
theorem KV.length{c:List (κ×V)}{g:List (κ×ag)}(r:KV c g):c.length=g.length:=cV r
end
def Ge(r:RelV (kV k) u):(gh P w).is k u=true:=by
 cases k with|inl i=>let⟨t,e⟩:=(show ∃t,u=kS i t from r);subst e;exact Xo P w i t|inr x=>let⟨t,e⟩:=(show ∃t,u=rj x t from r);subst e;exact Wo P w x t
theorem Qg:∀{ks:List Key}{c:List ag},cq (ks.map kV) c->ItemsAre (gh P w) ks c
 |[],_,r=>by rw[lV]at r;cases r;exact .nil
 |k::ks,_,r=>by
  rw[aV]at r;cases r with|cons h t=>exact .cons (Ge h) (Qg t)
abbrev KT(H:Hp):List (List Key×V)->List (List Key×ak×ag)->Prop:=eZ λp q=>p.1=q.1/\H q.2.1=some (.tup (p.1.map kV))/\RelV p.2 q.2.2
def KT.val(r:KT H c xs)(k:List Key):rb (qZ c k) ((l_ xs k).map (·.2)):=by
 induction r with|nil=>exact gi|@cons p q ps qs h t ih=>
  let⟨l,_,o⟩:=h;by_cases e:p.1=k
  ·let g:q.1=k:=l.symm.trans e;let b:l_ (q::qs) k=some q.2:=by simp[l_,c5,g]
   rw[IJ e,b];exact o
  ·let g:¬ q.1=k:=λz=>e (l.trans z);let b:l_ (q::qs) k=l_ qs k:=by simp[l_,c5,g]
   rw[HW e,b];exact ih
def KT.repl(r:KT H c xs)(k:List Key)(o:RelV y u):KT H (c.map λkv=>if kv.1=k then (kv.1,y) else kv) (xs.map (uE k u)):=by
 induction r with|nil=>exact .nil|@cons p q ps qs h t ih=>
  rw[aV,aV];refine .cons ?_ ih;let⟨g,l,v⟩:=h;unfold uE;by_cases e:p.1=k
  ·rw[aH e,aH (g.symm.trans e)];exact⟨g,l,o⟩
  ·rw[aD e,aD (λz=>e (g.trans z))];exact⟨g,l,v⟩
def KT.put(r:KT H c xs)(k:List Key)(h:H b=some (.tup (k.map kV)))(g:RelV y u):KT H (ng c k y) (lX xs k b u):=by
 let e:(c.any λkv=>decide (kv.1=k))=(l_ xs k).isSome:=by rw[RV,(r.val k).isSome_eq,pX]
 unfold ng lX;rw[e];by_cases q:(l_ xs k).isSome=true
 ·rw[aH q,aH q];exact r.repl k g
 ·rw[aD q,aD q];exact oz r ⟨rfl,h,g⟩
def KT.keeps{H g:Hp}(r:KT H c xs)(h:∀b ys,H b=some (.tup ys)->g b=some (.tup ys)):KT g c xs:=
 eZ.mapP r λ_ _ z=>⟨z.1,h _ _ z.2.1,z.2.2⟩
section
def Q0(ok:nN P w H h)(e:Rd H a u):gp P w H h a u:=e.ok ok
def Iy(ok:nN P w H h)(e:Rd H a (.dK c)):c.length<=sizeLine/\(a == cH)=false/\∃g,KV c g/\h.DictOf (gh P w) a g:=
 show gp P w H h a (.dK c) from Q0 ok e
def KL(ok:nN P w H h)(e:H a=some (.dK c)):c.length<=sizeLine/\(a == cH)=false/\∃g,KV c g/\h.DictOf (gh P w) a g:=Iy ok (.inl e)
def HI{ks:List Key}(ok:nN P w H h)(e:H a=some (.tup (ks.map kV))):(uo (gh P w)).is h ks a:=by
 let⟨_,its,r,o,l,g,⟨n,c⟩,_⟩:=(show gp P w H h a (.tup (ks.map kV)) from ok a _ e)
 exact⟨o,its.toArray,n,l,g,c,by simpa using Qg r⟩
def LD(ok:nN P w H h)(e:Rd H a (.dT c)): c.length<=sizeLine/\(a == cH)=false /\∃xs,KT H c xs/\h.DictOfH (uo (gh P w)) a xs:=by
 let⟨z,y,xs,r,o,es,ep,E,C,B,v,u⟩:=(show gp P w H h a (.dT c) from Q0 ok e)
 refine⟨z,y,xs,r,o,es,ep,E,C,B,v,λx g=>?_,u⟩;let all:∀{l:List (List Key×V)}{m:List (List Key×ak×ag)},KT H l m->∀x∈m,(uo (gh P w)).is h x.1 x.2.1:=by
  intro l m q
  induction q with
  |nil=>intro x g;exact nomatch g
  |@cons p q ps qs hq t ih=>
   intro x g;rcases aR.mp g with e|g
   ·subst e;exact HI ok (by rw[<- hq.1];exact hq.2.1)
   ·exact ih x g
 exact all r x g
def VS(ok:nN P w H h)(e:H a=some (.dT c)): c.length<=sizeLine/\(a == cH)=false /\∃xs,KT H c xs/\h.DictOfH (uo (gh P w)) a xs:=LD ok (.inl e)
end
def w_(H:Hp)(a:ak)(y:V)(r:Option V):Prop:=
 (∃c k,Rd H a (.dK c)/\y=kV k/\r=qZ c k)\/∃c k b,Rd H a (.dT c)/\y=.ref b/\H b=some (.tup (k.map kV))/\r=qZ c k
def zY(H:Hp)(a:ak)(y v:V)(g:Hp):Prop:=
 (∃c k,H a=some (.dK c)/\y=kV k/\c.length < sizeLine/\g=fE H a (.dK (ng c k v))) \/
 ∃c k b,H a=some (.dT c)/\y=.ref b/\H b=some (.tup (k.map kV))/\c.length < sizeLine/\g=fE H a (.dT (ng c k v))
theorem w_.k{H:Hp}{k:Key}(e:H a=some (.dK c)):w_ H a (kV k) (qZ c k):=.inl ⟨c,k,.inl e,rfl,rfl⟩
theorem zY.k{H:Hp}{k:Key}(e:H a=some (.dK c))(g:c.length < sizeLine):zY H a (kV k) v (fE H a (.dK (ng c k v))):=.inl ⟨c,k,e,rfl,g,rfl⟩
section
variable{A:bI}
def Inv.big(I:Inv X ar σ H s):cH < s.heap.objs.size:=by let h:cO < s.heap.objs.size:=(I.mod.glob.keeps I.bk).lt;exact om (by decide) h
def UX{Q:ag->am->Prop}(hu:A.units+1 < cS)(I:Inv X ar σ H s)(g:w_ H a y (some v))(Y:RelV y u)(h:∀B U,Inv X ar σ H U->RelV v B->Q B U):aG (aY X.prog X.w) A (nU (.ref a) u) Q E s:=by
 rcases g with ⟨C,k,e,L,l⟩|⟨C,k,b,e,L,eb,l⟩
 ·subst L;let⟨z,hd,g,q,O⟩:=Iy I.hok e;let⟨B,G,c⟩:=rb.some_of (v:=v) (o:=sZ g k) (by rw[l];exact q.val k);exact wpAny_getItem_of (Ge Y) O.mapOf G (h B _ (I.tok _) c)
 ·subst L;cases (show u=bD b from Y);let⟨z,hd,xs,q,O⟩:=LD I.hok e;let⟨B,G,c⟩:=rb.some_of (v:=v) (o:=(l_ xs k).map (·.2)) (by rw[l];exact q.val k);let⟨p,g,J⟩:=ck.mp G;refine Dl (sx hu) (HI I.hok eb) O g ?_;rw[J];exact h B _ (I.tok _) c
def XV{Q:ag->am->Prop}(hu:A.units+1 < cS)(I:Inv X ar σ H s)(g:w_ H a y o)(L:RelV y u)(h:∀J,Inv X ar σ H J->Q (.bool (!o.isSome)) J):aG (aY X.prog X.w) A (dH .NotIn u (.ref a)) Q E s:=by
 rcases g with ⟨B,k,e,C,l⟩|⟨B,k,b,e,C,O,l⟩
 ·subst C;let⟨z,hd,U,c,G⟩:=Iy I.hok e;refine wpAny_notIn_of (Ge L) hd G.mapOf ?_;rw[<- (c.val k).isSome_eq,<- l];exact h _ (I.tok _)
 ·subst C;cases (show u=bD b from L);let⟨z,hd,xs,c,G⟩:=LD I.hok e;refine Hw (sx hu) (HI I.hok O) hd G ?_;let q:=(c.val k).isSome_eq;rw[pX]at q;rw[<- q,<- l];exact h _ (I.tok _)
def DY{t':Nat}(I:Inv X ar σ H s)(g:E6 (H a))(h:cR a s.heap h')(l:∃q,h'.get? a=some q)(new:gp X.prog X.w (fE H a c) h' a c):Inv X ar σ (fE H a c) { s with heap:=h',toks:=t' }:=
 I.write (x:=a) (e:=a) g (.inl rfl) (λb q B z=>(h.2 b B).trans z) l new
def Of{h':bK}{c:List (Key×V)}(z:c.length<=sizeLine)(hd:(a == cH)=false)(h:KV c g)(l:h'.DictOf (gh P w) a g):gp P w q h' a (.dK c):=⟨z,hd,g,h,l⟩
def Ts{Q:Unit->am->Prop}(hu:A.units+1 < cS)(I:Inv X ar σ H s)(g:zY H a y v H')(ry:RelV y u)(rv:RelV v r)(h:∀s',Inv X ar σ H' s'->Q Unit.unit s'):aG (aY X.prog X.w) A (ph (.ref a) u r) Q E s:=by
 rcases g with ⟨C,k,e,U,l,Y⟩|⟨C,k,b,e,U,eb,l,Y⟩
 ·subst U Y;let⟨z,hd,c,B,o⟩:=KL I.hok e;let hz:c.length<=sizeLine:=by rw[<- B.length];exact z
  let O:(ng C k v).length<=sizeLine:=by have:=Kj C k v;ext
  refine wpAny_setItem_pairs (hsz:=hz) (Ge ry) o λh' G L=>h _ ?_;let g:∃q,h'.get? a=some q:=let ⟨q,_,_,J,_⟩:=G;⟨q,J⟩
  exact DY I (by rw[e];exact gi) L g (Of O hd (B.put k rv) G)
 ·subst U Y;cases (show u=bD b from ry);let⟨z,hd,xs,B,o⟩:=VS I.hok e;let hz:xs.length<=sizeLine:=by rw[<- cV B];exact z
  let O:(ng C k v).length<=sizeLine:=by have:=Kj C k v;ext
  refine wpAny_setItem_heap (hsz:=hz) (sx hu) (HI I.hok eb) o λh' G L=>h _ ?_;let⟨q,es,ep,J,Q,H,E,_,l⟩:=G;refine DY I (by rw[e];exact gi) L ⟨q,J⟩ ⟨O,hd,_,(B.put k eb rv).keeps λc ys g=>?_,q,es,ep,J,Q,H,E,l⟩;rw[fS (R6 g e nofun)];exact g
end
section
def Wq{Q:ag->am->Prop}(I:Inv X ar σ H s)(e:Rd H a (.dK a6))(h:∀t g,Inv X ar σ H g->Q (.int a6.length t) g):aG (aY X.prog X.w) A (call (.builtin "len") [.ref a]) Q E s:=by let⟨z,hd,o,c,l⟩:=Iy I.hok e;refine call_len_dict hd l (by rw[<- c.length];rw[kN]at z;ext) ?_;rw[<- c.length];exact h _ _ (I.tok _)
end
def Rg(h:bK)(c:cH < h.objs.size):gp P w H (h.push { cls:=.type "dict",data:=.dict #[] }) h.objs.size (.dK []):=
 ⟨bU _,beq_eq_false_iff_ne.mpr (ff (ba c)),[],.nil,bK.DictOf.new h⟩
def CW:TE:=λ_ H Q=>∀p,H p=none->Q (.ref p) (fE H p (.dK []))
section
def Qc5:PE X (.Dict [] [] pos) CW:=λc s σ H Q I h=>
 Hx ⟨.ref s.heap.objs.size,_,I.laid (a:=s.heap.objs.size) (o:=.dK []) (t':=s.toks) (λ_ _ q=>aj _ q) (aw _) (Rg s.heap I.big),rfl,h _ (I.hok.fresh (aw _))⟩
end
def vz:List (TE×TE)->St->Hp->(List (V×V)->Hp->Prop)->Prop
 |[],_,H,Q=>Q [] H| (tk,tv)::r,σ,H,Q=>tk σ H λx h=>tv σ h λy g=>vz r σ g λps c=>Q ((x,y)::ps) c
abbrev VV:List (V×V)->List (ag×ag)->Prop:=eZ λp q=>RelV p.1 q.1/\RelV p.2 q.2
def IQ(X:Cx)(pos:Pos)(keys:List (Option Expr))(c:List Expr)(g:List (TE×TE)):Prop:=
 ∀(ar:List (ak×Obj))(s:am)(σ:St)(H:Hp)(Q:List (V×V)->Hp->Prop),Inv X ar σ H s->vz g σ H Q ->
  aG (aY X.prog X.w) X.A (evalPairs (pairTrees keys c X.env pos)) (λl o=>∃ps h,Inv X ar σ h o/\VV ps l/\Q ps h) X.xe s
def R8:IQ X pos [] [] []:=λc s σ H Q I h=>pairTrees_nil_walk ⟨[],H,I,.nil,h⟩
def Tb(hk:PE X k B)(Y:PE X v q)(hr:IQ X pos ks o g):IQ X pos (some k::ks) (v::o) ((B,q)::g):=λc s σ H Q I h=>
 pairTrees_cons_walk (fT (hk c s σ H _ I h) λu E ⟨x,H1,I1,J,U⟩=>fT (Y c E σ H1 _ I1 U) λw2 C ⟨y,H2,I2,G,O⟩=>
  fT (hr c C σ H2 _ I2 O) λws s3 ⟨ps,H3,I3,l,L⟩=>⟨(x,y)::ps,H3,I3,.cons ⟨J,G⟩ l,L⟩)
def mJ(c more:List (Key×V)):List (Key×V):=more.foldl (λg kv=>ng g kv.1 kv.2) c
def KV.merge:∀{more:List (Key×V)}{rs:List (Key×ag)}{c:List (Key×V)}{g:List (Key×ag)},KV more rs->KV c g->KV (mJ c more) (merged g rs):=by
 intro more rs c g r;unfold KV at r
 induction r generalizing c g with
 |nil=>intro q;exact q
 |@cons p q ps qs h t ih=>
  intro l;let e:KV (ng c p.1 p.2) (stored g q.1 q.2):=by have:=l.put p.1 h.2;rw[<- h.1];exact this
  exact ih e
theorem OA:∀(more a6:List (Key×V)),(mJ a6 more).length<=a6.length+more.length
 |[],a6=>by show a6.length<=a6.length+0;ext
 |p::r,a6=>by
  let g:=OA r (ng a6 p.1 p.2);let c:=Kj a6 p.1 p.2
  show (mJ (ng a6 p.1 p.2) r).length<=_;rw[b8];ext
theorem Pl:∀{a6:List (Key×V)}{ws:List (ag×ag)},VV (a6.map λkv=>(kV kv.1,kv.2)) ws->∃rs,Carries (gh P w) ws rs/\KV a6 rs
 |[],_,r=>by rw[lV]at r;cases r;exact⟨[],gi,.nil⟩
 |p::a6,_,r=>by
  rw[aV]at r;cases r with|@cons a b as bs h t=>
   let⟨rs,c,q⟩:=Pl (P:=P) (w:=w) t;let⟨l,g⟩:=b;exact⟨(p.1,g)::rs,⟨Ge h.1,rfl,c⟩,.cons ⟨rfl,h.2⟩ q⟩
def GP(g:List (TE×TE)):TE:=λσ H Q=>∀p,H p=none->vz g σ (fE H p (.dK [])) λps h=>h p=some (.dK [])/\∃c:List (Key×V),ps=c.map (λkv=>(kV kv.1,kv.2))/\c.length<=15/\Q (.ref p) (fE h p (.dK (mJ [] c)))
def YS(h:IQ X pos keys g l)(C:keys.all (·.isSome)=true)(hl:keys.length=g.length)(h0:keys≠[])(J:keys.length<=15):PE X (.Dict keys g pos) (GP l):=by
 intro v s σ H Q I q;let hn:=I.hok.fresh (aw s.heap.objs.size);let I1:=I.laid (a:=s.heap.objs.size) (o:=.dK []) (h':=s.heap.push { cls:=.type "dict",data:=.dict #[] }) (t':=s.toks) (λ_ _ q=>aj _ q) (aw _) (Rg s.heap I.big);refine wpAny_Dict_walk (knd:=gh X.prog X.w) C hl h0 J (fT (h v _ σ _ _ I1 (q _ hn)) λws s2 u=>?_);let⟨ps,H2,L,G,e,B,ep,lk,q2⟩:=u;subst ep;let⟨rs,c,U⟩:=Pl (P:=X.prog) (w:=X.w) G;let⟨z,hd,O,Y,dd⟩:=KL L.hok e;cases Y;refine⟨rs,c,dd,λh' E hs=>⟨.ref s.heap.objs.size,_,?_,rfl,q2⟩⟩;let hz:(mJ [] B).length<=sizeLine:=by have h1:=OA B [];rw[fU]at h1;rw[kN];ext
 let he:∃q,h'.get? s.heap.objs.size=some q:=let ⟨q,_,_,hq,_⟩:=E;⟨q,hq⟩
 exact DY L (by rw[e];exact gi) hs he (Of hz hd (U.merge .nil) E)
structure M2(X:Cx)(o:Expr)(m:Str)(a8:Pos)(e f:Expr)(a7:Pos):Prop where
 base:dY o m X.env (eval o X.env)=eval o X.env
 few:((backTo a7 (starEach [e,f] X.env)).all (λx => !x.1)&&(qw a7 (l9 [] X.env)).all (λx=>x.1.isSome)
  && decide (([e,f]:List Expr).length+([]:List i5).length+(if ([]:List i5).isEmpty then 0 else 1) < 30))=true
 line:(a8.endLine == a7.line)=true
 trees:backTo a7 (starEach [e,f] X.env)=[(false,eval e X.env),(false,eval f X.env)]
end L2
namespace MM
open PySem PySem.Spec PyProof.Rows L2
noncomputable abbrev KI:=Int ⊕ List Int
section
variable{prog:Program}{w:bM}
variable(prog w) in
inductive xc(h:bK):KI->ag->Prop
 |one (i:Int) (t:Tok):xc h (.inl i) (.int i t)|row {k:List Int}{b:ak}:Dm (qP prog w) h k b->xc h (.inr k) (.ref b)
variable(prog w) in
inductive oO(h:bK):List KI->List ag->Prop
 |nil:oO h [] []|cons {k:KI}{v:ag}{ks:List KI}{vs:List ag}:xc prog w h k v->oO h ks vs->oO h (k::ks) (v::vs)
variable(prog w) in
noncomputable def fq(h:bK)(ks:List KI)(a:ak):Prop:=∃o items n,h.get? a=some o/\o.cls=.type "tuple"/\o.data=.seq items n/\oO prog w h ks items.toList
theorem xc.inj(a:xc prog w h x v)(b:xc prog w h y v):x=y:=by
 cases a with
 |one i t=>cases b;rfl
 |row a=>cases b with|row b=>rw[a.inj b]
theorem oO.inj(a:oO prog w h x c)(b:oO prog w h y c):x=y:=by
 induction a generalizing y with
 |nil=>cases b;rfl
 |cons a t ih=>cases b with|cons b u=>rw[a.inj b,ih u]
def fq.typeIs{s:am}(x:fq prog w s.heap ks a):s.TypeIs (.ref a) "tuple":=let ⟨o,_,_,ho,hc,_⟩:=x;⟨o,ho,hc⟩
theorem fq.inj(v:fq prog w h x a)(u:fq prog w h y a):x=y:=by
 let⟨o,items,n,B,_,hd,C⟩:=v;let⟨o',g,E,l,_,c,q⟩:=u;cases B.symm.trans l;rw[hd]at c;injection c with h1 _
 subst h1;exact C.inj q
theorem xc.keeps{h h':bK}{es ep}(g:h.get? d=some o)(hd:o.data=.dict es ep)(c:cR d h h'):∀{x:KI}{v:ag},xc prog w h x v->xc prog w h' x v
 |_,_,.one i t=>.one i t|_,_,.row a=>.row (a.keeps g hd c)
theorem oO.keeps{h h':bK}{es ep}(l:h.get? d=some o)(hd:o.data=.dict es ep)(g:cR d h h'):∀{x:List KI}{c:List ag},oO prog w h x c->oO prog w h' x c
 |_,_,.nil=>.nil|_,_,.cons a t=>.cons (a.keeps l hd g) (oO.keeps l hd g t)
theorem fq.keeps{es ep}(x:fq prog w h ks a)(u:h.get? d=some o)(hd:o.data=.dict es ep)(q:cR d h h'):fq prog w h' ks a:=by
 let⟨o',items,n,g,B,c,v⟩:=x;let l:a≠d:=by
  rintro rfl
  obtain rfl:o'=o:=aM (g.symm.trans u);rw[hd]at c;exact nomatch c
 exact⟨o',items,n,(q.2 a l).trans g,B,c,v.keeps u hd q⟩
def BZ:KI->Int
 | .inl i=>hashInt i| .inr r=>reduceHash (dQ (r.map hashInt))
def pK(ks:List KI):Int:=reduceHash (dQ (ks.map BZ))
def Ju:KI->Nat
 | .inl _=>1| .inr r=>r.length+1
def i0:List KI->Nat
 |[]=>0|k::ks=>Ju k+i0 ks
variable{A:bI}{E:ag->am->Prop}{s:am}
theorem Ka(k:KI):∀(l:List KI),i0 (l++[k])=i0 l+Ju k
 |[]=>by simp[i0]|x::l=>by simp[i0,Ka k l];ext
def W_{Q:Int->am->Prop}(hu:A.units < cS)(c:xc prog w s.heap k v)(h:Q (BZ k) { s with toks:=s.toks+Ju k }):aG (aY prog w) A (pyHash v) Q E s:=by
 cases c with|one i t=>exact Hq h|row c=>exact wpAny_pyHash_tuple (knd:=qP prog w) hu c h
def YZ{Q:Bool->am->Prop}(hu:A.units < cS)(C:xc prog w s.heap x u)(l:xc prog w s.heap y v)(h:Q (decide (x=y)) s):aG (aY prog w) A (eqBool u v) Q E s:=by
 cases C with
 |one i t=>
  cases l with
  |one j t'=>
   refine um ?_;let e:(i == j)=decide ((lZ i:KI)=lZ j):=by
    by_cases z:i=j
    ·subst z;simp
    ·let B:¬ ((lZ i:KI)=lZ j):=λq=>z (by injection q);rw[bc B];exact beq_eq_false_iff_ne.mpr z
   first|(rw[e];exact h)|(simpa [e] using h)
  |row h2=>
   let⟨o,items,n,c,g,hd,_⟩:=h2;rw[bc (by simp)]at h;exact sY.int_tuple i t ⟨o,c,g,n,hd⟩ hu prog w E Q h
 |row h1=>
  cases l with
  |one j t'=>
   let⟨o,items,n,c,g,hd,_⟩:=h1;rw[bc (by simp)]at h;exact sY.tuple_int j t' ⟨o,c,g,n,hd⟩ hu prog w E Q h
  |@row k2 b h2=>
   refine wpAny_eqBool_tuple (knd:=qP prog w) hu h1 h2 ?_;simpa using h
def R0{Q:Int->am->Prop}(hu:A.units+1 < cS)(q:fq prog w s.heap ks a)(h:Q (pK ks) { s with toks:=s.toks+(i0 ks+1) }):aG (aY prog w) A (pyHash (.ref a)) Q E s:=by
 let g:=q.typeIs;let⟨o,items,n,u,_,hd,v⟩:=q;unfold pyHash
 first|unfold pyHashByItsType|skip
 first|refine ab (wpAny_cRoomFor_or (.inr ()) ?_)|skip
 refine ab (kD g nI.lookup ?_)
 show aG _ _ (if (some (ut "tuple.__hash__") == some cB)=true then _ else _) Q E s;rw[aD (by rw[beq_builtin_none];exact bE)];refine ab (kD g nI.lookup ?_)
 show aG _ _ (callSpecialIfBoundUnlessNone? (.ref a) "__hash__" _ >>= _) Q E s;refine ab (wpAny_callSpecialIfBoundUnlessNone?_slot g nI (b_ nI g F.entry_tuple_hash ?_ (F.args_tuple_hash_1 _)))
 show aG _ _ (kT (.ref a) >>= _) _ _ s;refine ab (sy u hd ?_);refine ab ?_;rw[<- i6];refine lP _
  (λrest(b:Array Int)l=>∃done left,ks=done++left/\oO prog w s.heap left rest/\b.toList=done.map (BZ)/\l={ s with toks:=s.toks+i0 done })
  _ ?_ ?_ _ _ ⟨[],ks,rfl,v,rfl,rfl⟩
 ·rintro x rest b l ⟨done,left,rfl,hl,hb,rfl⟩
  cases hl with|@cons k b' ks' _ h1 hl'=>
   refine ab (W_ (k:=k) hu h1 ?_)
   first
    |exact ai ⟨done++[k],ks',by simp,hl',by simp[hb],by simp[Ka,pY]⟩|exact ab (ai (ai ⟨done++[k],ks',by simp,hl',by simp[hb],by simp[Ka,pY]⟩))
 ·rintro b l ⟨done,left,rfl,hl,hb,rfl⟩
  cases hl;rw[bu]at h
  show aG _ _ (retInt (dQ b.toList)) _ _ _;rw[hb];refine IZ ?_
  show aG _ _ (if (decide (-(2:Int)^63<=dQ (done.map (BZ)))&&decide (dQ (done.map (BZ)) < 2^63))=true then _ else _) Q E _;unfold pK reduceHash at h;by_cases c:(decide (-(2:Int)^63<=dQ (done.map (BZ)))&&decide (dQ (done.map (BZ)) < 2^63))=true
  ·rw[aH c];rw[aH c]at h;exact ai (by simpa [pY] using h)
  ·rw[aD c];rw[aD c]at h;exact ab (fV (ai (by simpa [pY] using h)))
def Wa{P:Fin->am->Prop}(hu:A.units < cS)(hx:fq prog w s.heap x a)(Y:fq prog w s.heap y b)(h:P (.done (.ret (.bool (decide (x=y))))) s):aG (aY prog w) A (Builtin.«tuple.__eq__» ⟨[.ref a,.ref b],[]⟩) P E s:=by
 let U:=Y.typeIs;let⟨oa,xs,na,H,_,Q,L⟩:=hx;let⟨ob,ys,nb,G,_,O,J⟩:=Y
 show aG _ _ (Dn (.ref b) (.type "tuple") >>= _) _ _ s;refine ab (dN U pS ?_);simp only[dS,aK,if_false];refine ab (sy H Q ?_);refine ab (sy G O ?_);refine ab ?_;refine lP _
  (λrest r C=>r.1=none/\C=s/\∃B q g c,rest=List.zip g c/\oO prog w s.heap B g/\oO prog w s.heap q c/\decide (B=q)=decide (x=y)/\(g.length == c.length)=(xs.size == ys.size))
  _ ?_ ?_ _ _ ⟨rfl,rfl,x,y,xs.toList,ys.toList,rfl,L,J,rfl,by simp⟩
 ·rintro ⟨u,v⟩ rest r C ⟨hr,rfl,B,q,g,c,hz,hx',hy',hdec,hlen⟩
  cases hx' with|nil=>simp at hz|@cons k1 u' x'' xs'' h1 hx''=>
   cases hy' with|nil=>simp at hz|@cons k2 v' y'' ys'' h2 hy''=>
    simp only[List.zip_cons_cons,List.cons.injEq,Prod.mk.injEq]at hz;let⟨⟨rfl,rfl⟩,rfl⟩:=hz;refine ab (YZ (x:=k1) (y:=k2) hu h1 h2 ?_);by_cases I:k1=k2
    ·subst I;rw[cz rfl];simp only[dS,aK,if_false];refine ai ⟨rfl,rfl,x'',y'',xs'',ys'',rfl,hx'',hy'',?_,by simpa using hlen⟩;rw[<- hdec];by_cases l:x''=y''
     ·simp[l]
     ·simp[l]
    ·rw[bc I];simp only[fO,if_true];let o:decide (x=y)=false:=by rw[<- hdec];simp[I]
     rw[o]at h;exact ab (ai (ai (ai h)))
 ·rintro ⟨r1,r2⟩ C ⟨hr,rfl,B,q,g,c,hz,hx',hy',hdec,hlen⟩
  simp only at hr;subst hr;refine ai ?_;let o:(xs.size == ys.size)=decide (x=y):=by
   rw[<- hdec,<- hlen];cases hx' with
   |nil=>
    cases hy' with|nil=>simp|cons _ _=>simp
   |cons _ _=>
    cases hy' with|nil=>simp|cons _ _=>simp at hz
  show P (.done (.ret (.bool (xs.size == ys.size)))) C;rw[o];exact h
def YV{Q:Bool->am->Prop}(hu:A.units+1 < cS)(g:fq prog w s.heap x a)(l:fq prog w s.heap y b)(h:Q (decide (x=y)) s):aG (aY prog w) A (eqBool (.ref a) (.ref b)) Q E s:=by
 unfold eqBool
 try with_reducible refine bV ?_
 show aG _ _ (if (bD a == bD b)=true then _ else _) Q E s;by_cases c:(bD a == bD b)=true
 ·rw[aH c];let e:a=b:=by have:=eq_of_beq c;injection this
  subst e;obtain rfl:=g.inj l;exact ab (fV (ai (by simpa using h)))
 ·rw[aD c];exact ab (vk (op:=.Eq) g.typeIs l.typeIs oZ
   (b_ oZ g.typeIs F.entry_tuple_eq (Wa (by exact hu) g l ⟨_,rfl,nofun,fJ h⟩) (F.args_tuple_eq_2 _ _)) ())
def TF{n:Nat}{Q:Bool->am->Prop}(l:Dm (qP prog w) s.heap ks a)(h:Q true s):aG (aY prog w) A (qS (n+1) (.ref a)) Q E s:=by
 let q:=l.typeIs;let⟨o,items,n,B,_,hd,C⟩:=l;unfold qS;refine ab (kD q oZ.lookup ?_)
 show aG _ _ (Dn (.ref a) (.type "tuple") >>= _) _ _ s;refine ab (dN q pS ?_);simp only[dS,aK,if_false];refine ab (dg B hd ?_);refine ab ?_
 show aG _ _ (forIn items _ _) _ _ s;rw[<- i6];refine lP _ (λrest r c=>r.1=none/\c=s/\∀v∈rest,carriedByValue v=true) _ ?_ ?_ _ _ ⟨rfl,rfl,C.byValue⟩
 ·rintro v rest r c ⟨hr,rfl,hall⟩
  rw[D4 _ (hall v cP)];refine ab (ai ?_);simp only[dS,aK,if_false];exact ai ⟨rfl,rfl,λu g=>hall u (bO _ g)⟩
 ·rintro ⟨r1,r2⟩ c ⟨hr,rfl,_⟩
  simp only at hr;subst hr;exact ai h
def Uo{n:Nat}{Q:Bool->am->Prop}(c:xc prog w s.heap k v)(h:Q true s):aG (aY prog w) A (qS (n+1) v) Q E s:=by
 cases c with|one i t=>rw[D4 _ (show carriedByValue (kS i t)=true from rfl)];exact ai h|row c=>exact TF c h
def Tq{Q:Bool->am->Prop}(g:fq prog w s.heap ks a)(h:Q true s):aG (aY prog w) A (qS 8 (.ref a)) Q E s:=by
 let l:=g.typeIs;let⟨o,items,n,q,_,hd,u⟩:=g;unfold qS;refine ab (kD l oZ.lookup ?_)
 show aG _ _ (Dn (.ref a) (.type "tuple") >>= _) _ _ s;refine ab (dN l pS ?_);simp only[dS,aK,if_false];refine ab (dg q hd ?_);refine ab ?_
 show aG _ _ (forIn items _ _) _ _ s;rw[<- i6];refine lP _ (λrest r c=>r.1=none/\c=s/\∃left,oO prog w s.heap left rest) _ ?_ ?_ _ _ ⟨rfl,rfl,ks,u⟩
 ·rintro v rest r c ⟨hr,rfl,left,hall⟩
  cases hall with|cons h1 hl=>
   refine ab (Uo (n:=6) h1 ?_);simp only[dS,aK,if_false];exact ai ⟨rfl,rfl,_,hl⟩
 ·rintro ⟨r1,r2⟩ c ⟨hr,rfl,_⟩
  simp only at hr;subst hr;exact ai h
end
def uP(prog:Program)(w:bM):qx prog w (List KI) where
 is:=fq prog w
 hash:=pK
 draws:=λks=>i0 ks+1
 room:=λA=>A.units+1 < cS
 inj:=λg c=>g.inj c
 keeps:=λx q hd o=>x.keeps q hd o
 pyHash:=λhu l h=>R0 hu l h
 eqBool:=λhu g c h=>YV hu g c h
 quiet:=λl h=>Tq l h
end MM
namespace MM
open PySem PyProof.Rows
def sO(h:bK)(d:ak)(n:Nat):Prop:=∃o es,h.get? d=some o/\o.data=.dict es n
section
variable{prog:Program}{w:bM}{K:Type}[DecidableEq K]{knd:qx prog w K}{A:bI}{s:am}{k:K}{xs:List (K×ak×ag)}
def Q_{Q:Unit->am->Prop}(hu:knd.room A)(l:knd.is s.heap k a)(hm:s.heap.DictOfH knd d xs)(hp:sO s.heap d xs.length)(hsz:xs.length<=sizeLine)(h:∀h',h'.DictOfH knd d (lX xs k a v)->sO h' d (lX xs k a v).length->cR d s.heap h'->Q Unit.unit { s with heap:=h',toks:=s.toks+knd.draws k }):aG (aY prog w) A (D5 d (.ref a) v) Q E s:=by
 let⟨o,es,ep,g,hc,hd,L,B,I⟩:=id hm;let⟨o',es',C,O⟩:=hp;rw[g]at C;cases C;rw[hd]at O;cases O;unfold D5;refine bV (ab (knd.pyHash hu l ?_));unfold dictSetHashed;refine bV (ab (rm (s:={ s with toks:=s.toks+knd.draws k }) hu l g hd L B I (λH=>?_) λj p J=>?_))
 ·let G:k∉xs.map (·.1):=Bn H;let e0:=D6 H;let u:=storedH_new (a:=a) (v:=v) e0;let o:=iA L;refine ab (fV (AL (hz:=by ext) (s:={ s with toks:=s.toks+knd.draws k }) g hd
   (h _ ⟨_,_,_,cT _ g (gL (eM hd _)),hc.mapDictKeys _,eM hd _,?_,?_,?_⟩ ?_ (cG ..))))
  ·rw[u];simp[L,pe]
  ·rw[u];intro x c;rcases aP.mp c with c|c
   ·exact knd.keeps (B x c) g hd (cG ..)
   ·cases aA.mp c;exact knd.keeps l g hd (cG ..)
  ·rw[u,bw,c7];refine⟨I,by simp,λx c y U=>?_⟩;cases aA.mp U;exact λe=>G ((show x=k from e) ▸ c)
  ·rw[u,aC];exact⟨_,_,cT _ g (gL (eM hd _)),eM hd _⟩
 ·let e0:=s_ I J;let u:=storedH_old e0 a v;let E:j < es.size:=by rw[iA L];exact (ac.mp J).1
  let Y:(es.modify j λe=>{ hash:=e.hash,key:=e.key,val:=v }).toList=(xs.map (uE k v)).map (pe knd):=by
   apply eW;intro i;rw[fu,Array.getElem?_modify,av,av];let o:es[i]?=(xs[i]?).map (pe knd):=by rw[<- fu,L,av]
   rw[o];by_cases z:j=i
   ·subst z;rw[aH rfl,J];simp[uE,pe]
   ·rw[aD z];cases c:xs[i]? with|none=>rfl|some x=>
     let l:x.1≠k:=λq=>by
      let a1:(xs.map (·.1))[i]?=some k:=by rw[av,c,<- q];rfl
      let C:(xs.map (·.1))[j]?=some k:=by rw[av,J];rfl
      exact z ((eX (by rw[af];exact (ac.mp J).1) I).mp (C.trans a1.symm))
     simp[uE,l]
  refine ab (fV (ab (wpAny_updateDict (s:={ s with toks:=s.toks+knd.draws k }) g hd (wpAny_point
   (h _ ⟨_,_,_,cT _ g (gL (nR hd _)),hc.mapDict _,nR hd _,?_,?_,?_⟩ ?_ (cG ..))))))
  ·rw[u];exact Y
  ·rw[u];intro x c;let⟨y,U,e⟩:=bH.mp c;let q:=knd.keeps (B y U) g hd (cG s.heap d (Obj.mapDict λx=>x.modify j λe=>{ hash:=e.hash,key:=e.key,val:=v }));rw[<- e];unfold uE;split
   ·exact q
   ·exact q
  ·rw[u,iH];have:(xs.map ((λx=>x.1)∘uE k v))=xs.map (·.1):=cJ λx _=>by show (uE k v x).1=x.1;unfold uE;split<;>rfl
   rw[this];exact I
  ·rw[u,af];exact⟨_,_,cT _ g (gL (nR hd _)),nR hd _⟩
def VF{Q:Unit->am->Prop}(hu:knd.room A.in1)(c:knd.is s.heap k a)(g:s.heap.DictOfH knd d xs)(l:sO s.heap d xs.length)(hsz:xs.length<=sizeLine)(h:∀h',h'.DictOfH knd d (lX xs k a v)->sO h' d (lX xs k a v).length->cR d s.heap h'->Q Unit.unit { s with heap:=h',toks:=s.toks+knd.draws k }):aG (aY prog w) A (ph (.ref d) (.ref a) v) Q E s:=by
 let T:=g.typeIs;unfold ph;refine bV (ab (sV T (by decide) (ab (bN T zJ (b_ zJ T F.entry_dict_setitem ?_ (F.args_dict_setitem_3 _ _ _))))));unfold Builtin.«dict.__setitem__»;refine ab (iE T ?_);rw[aD (by simp)]
 show aG _ _ (D5 d (.ref a) v >>= _) _ _ s;refine ab (Q_ hu c g l hsz λh' a1 q o=>ai ⟨_,rfl,ai (h h' a1 q o)⟩)
end
end MM
namespace MM
open PySem
inductive D where
 |non|bl (b:Bool)|int (i:Int)|str (x:Str)|tup (ds:List D)|lit (ds:List D)|ref (n:Nat)|dic (n:Nat)|exn (x:Str) (ds:List D)|fn (n:Nat)
inductive kR where
 |lam (e:xr)|dfn (s:Hy)
inductive MO where
 |lst (ds:List D)|dct (b:Bool) (a6:List (D×D))|lam (e:xr)|tbl (x w:Str)|dcf (a6:List (D×D))|clo (c:kR) (vs:List D)|ded
noncomputable abbrev aZ:=List MO
noncomputable abbrev TB:=D
inductive Rs(α:Type) where
 |ok (a:α) (s:aZ)|exc (x:TB) (s:aZ)|bad
def M(α:Type):=aZ->Rs α
section
variable{α β:Type}
noncomputable def ret(a:α):M α:=λs=>.ok a s
noncomputable def bnd(m:M α)(f:α->M β):M β:=λs=>match m s with| .ok a s'=>f a s'| .exc x s'=>.exc x s'| .bad=>.bad
noncomputable def bad:M α:=λ_=>.bad
@[irreducible] def chk(c:Prop)[Decidable c](m:M α):M α:=if c then m else bad
end
noncomputable abbrev Loc:=List (Option D)
abbrev CE:=Loc->M D
abbrev CT:=Loc->M Bool
abbrev CA:=Loc->M (List D)
inductive uU where
 |next (l:Loc)|ret (d:D)|brk (l:Loc)|cnt (l:Loc)
abbrev CS:=Loc->M uU
noncomputable def eV:Nat:=2^24
noncomputable def alloc(o:MO):M D:=λs=>.ok (.ref s.length) (s++[o])
def getL(n:Nat):M (List D):=λs=>match s[n]? with|some (.lst ds)=>.ok ds s|_=>.bad
def putL(n:Nat)(ds:List D):M Unit:=λs=>match s[n]? with|some (.lst _)=>.ok Unit.unit (s.set n (.lst ds))|_=>.bad
def getDc(n:Nat):M (Bool×List (D×D)):=λs=>match s[n]? with|some (.dct b a6)=>.ok (b,a6) s|_=>.bad
def tG(n:Nat)(b:Bool)(g:List (D×D)):M Unit:=λs=>match s[n]? with|some (.dct c _)=>if b=c then .ok Unit.unit (s.set n (.dct b g)) else .bad|_=>.bad
mutual
noncomputable def oM:D->D->Bool
 | .int i,.int j=>decide (i=j)| .str x,.str y=>decide (x=y)| .tup xs,.tup ys=>mW xs ys|_,_=>false
noncomputable def mW:List D->List D->Bool
 |[],[]=>true|x::xs,y::ys=>oM x y&&mW xs ys|_,_=>false
end
noncomputable def pF:List D->Option (List Int)
 |[]=>some []| .int i::ds=>(pF ds).map (i::·)|_=>none
def n6:List D->Option (List (Int ⊕ List Int))
 |[]=>some []
 | .tup xs::ds=>match pF xs,n6 ds with|some r,some rs=>some (.inr r::rs)|_,_=>none
 | .int i::ds=>(n6 ds).map (.inl i::·)|_=>none
def stK:D->Option (List (Int ⊕ List Int))
 | .tup ds=>n6 ds|_=>none
def oY:Bool->D->Bool
 |false,.int _=>true|false,.str _=>true|true,d=>(stK d).isSome|_,_=>false
def m_(c:List (D×D))(k:D):Option D:=(c.find? λp=>oM p.1 k).map (·.2)
def mK(c:List (D×D))(k v:D):List (D×D):=if (c.any λp=>oM p.1 k)=true then c.map λp=>if oM p.1 k=true then (p.1,v) else p else c++[(k,v)]
def tJ(c more:List (D×D)):List (D×D):=more.foldl (λg p=>mK g p.1 p.2) c
def itemK(n:Nat)(k:D):M D:=bnd (getDc n) λp=>chk (oY p.1 k=true) (match m_ p.2 k with
 |some d=>ret d
 |none=>bad)
def storeK(n:Nat)(k v:D):M Unit:=bnd (getDc n) λp=>chk (oY p.1 k=true/\p.2.length < eV) (tG n p.1 (mK p.2 k v))
def hasK(n:Nat)(k:D):M Bool:=bnd (getDc n) λp=>chk (oY p.1 k=true) (ret (m_ p.2 k).isSome)
def A_:D->M (List D)
 | .tup ds=>ret ds| .lit ds=>ret ds| .ref n=>getL n|_=>bad
noncomputable def n_(n:Nat)(i:Int):Option Nat:=if 0<=i then (if i < n then some i.toNat else none) else (if -(n:Int)<=i then some (i+n).toNat else none)
def fF:D->D->M D
 | .int i,.int j=>ret (.int (i+j))| .str x,.str y=>chk (x.length+y.length<=eV) (ret (.str (x++y)))| .tup x,.tup y=>chk (x.length+y.length<=eV) (ret (.tup (x++y)))| .ref a,.ref b=>bnd (getL a) λx=>bnd (getL b) λy=>chk (x.length+y.length<=eV) (alloc (.lst (x++y)))|_,_=>bad
def ui(f:Int->Int->M D):D->D->M D
 | .int i,.int j=>f i j|_,_=>bad
def yV(f:Int->Int->M D)(d e:D):(∃i j,d=.int i/\e=.int j)\/ui f d e=bad:=by
 cases d<;>first|exact .inr rfl|skip
 cases e<;>first|exact .inr rfl|exact .inl ⟨_,_,rfl,rfl⟩
def uc:D->D->M D:=ui λi j=>ret (.int (i-j))
def qN(i j:Int):Prop:=(-(2^64) < i/\i < 2^64)\/(-(2^64) < j/\j < 2^64)
instance(i j:Int):Decidable (qN i j):=by unfold qN;infer_instance
def sQ:D->D->M D:=ui λi j=>chk (qN i j) (ret (.int (i*j)))
def tQ:D->D->M D:=ui λi j=>chk (0 < j/\j < 1073741824) (ret (.int (i / j)))
def pB:D->D->M D:=ui λi j=>chk (0 < j) (ret (.int (i % j)))
def yC:D->D->M D:=ui λi j=>chk (0<=j/\j<=1000000/\i.natAbs < 2^64) (ret (.int (i^j.toNat)))
def uW:D->M D
 | .int i=>ret (.int (-i))|_=>bad
def B7(p:Int->Int->Bool):D->D->M D:=ui λi j=>ret (.bl (p i j))
def Cf:=B7 λi j=>decide (i < j)
def wZ:=B7 λi j=>decide (j < i)
def Io:=B7 λi j=>decide (j<=i)
noncomputable def og(f:D->D->Option Bool):List D->List D->Option Bool
 |[],[]=>some true
 |x::xs,y::ys=>match f x y with|some true=>og f xs ys|some false=>(og f xs ys).map λ_=>false|none=>none
 |_::_,[]=>some false|[],_::_=>some false
noncomputable def Iq(g:List D->List D->Option Bool):D->D->Option Bool
 | .non,.non=>some true| .non,.int _=>some false| .bl a,.bl b=>some (a == b)| .int _,.non=>some false| .int a,.int b=>some (a == b)| .str a,.str b=>some (a == b)| .tup xs,.tup ys=>g xs ys|_,_=>none
def p9:Nat->D->D->Option Bool
 |0,d,e=>Iq (λ_ _=>none) d e|n+1,d,e=>Iq (og (p9 n)) d e
def Kh(d e:D):M Bool:=match d,e with
 | .ref a,.ref b=>bnd (getL a) λx=>bnd (getL b) λy=>match (if x.length=y.length then og (p9 50) x y else some false) with|some r=>ret r|none=>bad
 | .ref a,.non=>bnd (getL a) λ_=>ret false| .non,.ref a=>bnd (getL a) λ_=>ret false
 |d,e=>match p9 50 d e with|some r=>ret r|none=>bad
def nj(d e:D):M D:=bnd (Kh d e) λb=>ret (.bl b)
def wk(d e:D):M D:=bnd (Kh d e) λb=>ret (.bl !b)
def Gc:D->M D
 | .non=>ret (.bl true)|_=>ret (.bl false)
def Hj:D->M D
 | .non=>ret (.bl false)|_=>ret (.bl true)
def cY(ds:List D)(i:Int):M D:=match n_ ds.length i with
 |some k=>match ds[k]? with|some d=>ret d|none=>bad
 |none=>bad
def aW:D->D->M D
 | .tup ds,.int i=>cY ds i| .lit ds,.int i=>cY ds i| .ref n,.int i=>bnd (getL n) λds=>cY ds i| .dic n,k=>itemK n k
 | .str x,.int i=>chk (x.length<=eV) (match n_ x.length i with
  |some k=>match x.cps.toList[k]? with|some c=>ret (.str ⟨#[c]⟩)|none=>bad
  |none=>bad)
 |_,_=>bad
def zZ:D->M Bool
 | .non=>ret false| .bl b=>ret b| .int i=>ret (i != 0)| .str x=>chk (x.length<=eV) (ret ((x.length:Int) != 0))| .tup ds=>ret (!ds.isEmpty)| .lit ds=>ret (!ds.isEmpty)| .ref n=>bnd (getL n) λds=>ret (!ds.isEmpty)| .dic _=>bad| .exn _ _=>bad| .fn _=>bad
def aq(i:Nat):CE:=λl=>match l[i]? with|some (some d)=>ret d|_=>bad
def aN(d:D):CE:=λ_=>ret d
def c1(g:D->M D)(a:CE):CE:=λl=>bnd (a l) g
def c2(g:D->D->M D)(a b:CE):CE:=λl=>bnd (a l) λx=>bnd (b l) λy=>g x y
def aX:CA:=λ_=>ret []
def au(a:CE)(r:CA):CA:=λl=>bnd (a l) λx=>bnd (r l) λxs=>ret (x::xs)
def c8(a:CA):CE:=λl=>bnd (a l) λxs=>chk (xs.length<=eV) (ret (.tup xs))
def JH(f g:D->D->M D)(a b c:CE):CE:=λl=>bnd (a l) λx=>bnd (b l) λy=>bnd (f x y) λz=>match z with| .bl true=>bnd (c l) λw=>g y w| .bl false=>ret (.bl false)|_=>bad
def vE(a b:CE):CE:=λl=>bnd (a l) λx=>match x with| .bl true=>b l| .bl false=>ret (.bl false)|_=>bad
def DG(a b:CE):CE:=λl=>bnd (a l) λx=>match x with| .bl true=>ret (.bl true)| .bl false=>b l|_=>bad
def YX(a:CE):CE:=λl=>bnd (a l) λx=>match x with| .bl b=>ret (.bl !b)|_=>bad
def wW(t:CT)(a b:CE):CE:=λl=>bnd (t l) λc=>if c=true then a l else b l
def bJ(g:List D->M D)(a:CA):CE:=λl=>bnd (a l) g
def pZ(a:CE):CT:=λl=>bnd (a l) zZ
def cX(a:CE):CT:=λl=>bnd (a l) λx=>match x with| .bl b=>ret b|_=>bad
def oX(a b:CT):CT:=λl=>bnd (a l) λc=>if c=true then b l else ret false
def sR(a b:CT):CT:=λl=>bnd (a l) λc=>if c=true then ret true else b l
def pJ(a:CT):CT:=λl=>bnd (a l) λc=>ret !c
structure Wk where
 ds:List D
 same:aZ->Prop
abbrev CI:=Loc->M Wk
open Classical in
def chkS(p:aZ->Prop):M Unit:=λs=>if p s then .ok Unit.unit s else .bad
def d6:aZ->Prop:=λ_=>True
def gw(n:Nat)(ds:List D):aZ->Prop:=λs=>s[n]?=some (.lst ds)
def iV(a:CE):CI:=λl=>bnd (a l) λx=>match x with| .tup ds=>ret ⟨ds,d6⟩| .lit ds=>ret ⟨ds,d6⟩| .ref n=>bnd (getL n) λds=>ret ⟨ds,gw n ds⟩|_=>bad
noncomputable def iL(lo:Int)(n:Nat):List D:=(bT n).map λk=>.int (lo+(k:Nat))
def fN(a:CE):CI:=λl=>bnd (a l) λx=>match x with| .int j=>chk (-(2^62)<=j/\j < 2^62) (ret ⟨iL 0 j.toNat,d6⟩)|_=>bad
def n8(a b:CE):CI:=λl=>bnd (a l) λx=>bnd (b l) λy=>match x,y with| .int i,.int j=>chk ((-(2^62)<=i/\i < 2^62)/\(-(2^62)<=j/\j < 2^62)) (ret ⟨iL i (j-i).toNat,d6⟩)|_,_=>bad
def yS(a:CA):CI:=λl=>bnd (a l) λds=>ret ⟨ds,d6⟩
def uK(a:CE):CI:=λl=>bnd (a l) λx=>match x with| .tup ds=>ret ⟨(iL 0 ds.length).zipWith (λi d=>.tup [i,d]) ds,d6⟩|_=>bad
abbrev CG:=D->Loc->M Loc
def aS(i:Nat):CG:=λd l=>ret (l.set i (some d))
def g8:List D->Loc->M Loc
 |[],l=>ret l|_,_=>bad
def cL(g:CG)(r:List D->Loc->M Loc):List D->Loc->M Loc
 |d::ds,l=>bnd (g d l) λc=>r ds c|_,_=>bad
def gI(n:Nat)(r:List D->Loc->M Loc):CG:=λd l=>match d with| .tup ds=>chk (ds.length=n) (r ds l)|_=>bad
noncomputable def im(n:Nat)(caps:List Nat)(l:Loc):Loc:=bQ n none++caps.map λi=>(l[i]?).join
def collect(g:CG)(t:CT)(e:CE)(same:aZ->Prop):List D->Loc->M (List D)
 |[],_=>bnd (chkS same) λ_=>ret []|d::ds,l=>bnd (chkS same) λ_=>bnd (g d l) λc=>bnd (t c) λb=>if b=true then bnd (e c) λx=>bnd (collect g t e same ds c) λxs=>ret (x::xs) else collect g t e same ds c
def dU(n:Nat)(caps:List Nat)(i:CI)(g:CG)(t:CT)(e:CE):CA:=λl=>bnd (i l) λw=>chk (w.ds.length<=eV) (collect g t e w.same w.ds (im n caps l))
noncomputable def gU(n d:Nat):Option Int->Nat
 |none=>d|some v=>if v < 0 then (v+(n:Int)).toNat else min v.toNat n
def cutD(xs:List D)(lo c:Option Int):List D:=(xs.drop (gU xs.length 0 lo)).take (gU xs.length xs.length c-gU xs.length 0 lo)
abbrev CO:=Loc->M (Option Int)
def oU:CO:=λ_=>ret none
def mV(a:CE):CO:=λl=>bnd (a l) λx=>match x with| .int i=>ret (some i)|_=>bad
def sf(a:CE)(lo c:CO):CA:=λl=>bnd (a l) λx=>bnd (lo l) λi=>bnd (c l) λj=>match x with| .lit ds=>ret (cutD ds i j)| .ref n=>bnd (getL n) λds=>ret (cutD ds i j)|_=>bad
def b7:CT:=λ_=>ret true
def eR(a:CA):CE:=λl=>bnd (a l) λds=>alloc (.lst ds)
def gJ(a:CA):CA:=λl=>bnd (a l) λxs=>chk (xs.length<=eV) (ret xs)
def nh(a:CA)(b:CE):CE:=λl=>bnd (a l) λds=>bnd (b l) λi=>match i with| .int k=>cY ds k|_=>bad
def iM(g:List D->M D)(a:CA):CE:=λl=>bnd (a l) g
def aU:CS:=λl=>ret (.next l)
def aO(a b:CS):CS:=λl=>bnd (a l) λf=>match f with| .next l'=>b l'|f=>ret f
def cn(g:CG)(a:CE):CS:=λl=>bnd (a l) λd=>bnd (g d l) λc=>ret (.next c)
def dF(a:CE):CS:=λl=>bnd (a l) λd=>ret (.ret d)
def kH(a:CE):CS:=λl=>bnd (a l) λ_=>ret (.next l)
def mr(t:CT)(a b:CS):CS:=λl=>bnd (t l) λc=>if c=true then a l else b l
def BX:CS:=λ_=>bad
def o7(g:CG)(b:CS)(same:aZ->Prop):List D->CS
 |[],l=>bnd (chkS same) λ_=>ret (.next l)
 |d::ds,l=>bnd (chkS same) λ_=>bnd (g d l) λc=>bnd (b c) λf=>match f with| .next l2=>o7 g b same ds l2| .cnt l2=>o7 g b same ds l2| .brk l2=>ret (.next l2)| .ret d=>ret (.ret d)
def kg(i:CI)(g:CG)(b:CS):CS:=λl=>bnd (i l) λw=>o7 g b w.same w.ds l
def wM:uU->M D
 | .ret d=>ret d| .next _=>ret .non|_=>bad
def bZ(n:Nat)(c:CS)(ds:List D):M D:=bnd (c (ds.map some++bQ (n-ds.length) none)) wM
def ke(o i v:D):M Unit:=match o,i with
 | .ref n,.int k=>bnd (getL n) λds=>match n_ ds.length k with|some j=>putL n (ds.set j v)|none=>bad
 | .dic n,k=>storeK n k v|_,_=>bad
def kB(o i:CE):CG:=λv l=>bnd (o l) λy=>bnd (i l) λz=>bnd (ke y z v) λ_=>ret l
def gO:D->M D
 | .tup ds=>ret (.int ds.length)| .lit ds=>ret (.int ds.length)| .ref n=>bnd (getL n) λds=>ret (.int ds.length)| .str x=>chk (x.length<=eV) (ret (.int x.length))| .dic n=>bnd (getDc n) λp=>ret (.int p.2.length)|_=>bad
def v_(n:Nat)(v:D):M D:=bnd (getL n) λds=>chk (ds.length < eV) (bnd (putL n (ds++[v])) λ_=>ret .non)
def e_(a b:CE):CE:=λl=>bnd (a l) λx=>match x with| .ref n=>bnd (b l) λv=>v_ n v|_=>bad
def intD:D->M D
 | .int i=>ret (.int i)| .bl b=>ret (.int (if b then 1 else 0))|_=>bad
def tupleD:D->M D
 | .tup ds=>ret (.tup ds)| .lit ds=>ret (.tup ds)| .ref n=>bnd (getL n) λds=>ret (.tup ds)|_=>bad
noncomputable def n5:List D->Option (List Int)
 |[]=>some []| .int i::ds=>(n5 ds).map (i::·)|_=>none
noncomputable def iU:List D->Option (List Bool)
 |[]=>some []| .bl b::ds=>(iU ds).map (b::·)|_=>none
def n0(ds:List D):M D:=match n5 ds with|some (n::ns)=>ret (.int (ns.foldl max n))|_=>bad
def wK(ds:List D):M D:=match iU ds with|some bs=>ret (.bl (bs.all id))|_=>bad
def wY(ds:List D):M D:=match iU ds with|some bs=>ret (.bl (bs.any id))|_=>bad
def lE(ds:List D):M D:=ret (.tup ds)
def sP:D->D->M D
 | .bl a,.bl b=>ret (.bl (a == b))|x,.non=>Gc x|_,_=>bad
def mw:D->D->M D
 | .bl a,.bl b=>ret (.bl !(a == b))|x,.non=>Hj x|_,_=>bad
noncomputable def mn:D->Bool
 | .non=>true| .bl _=>true| .int _=>true| .str _=>true|_=>false
noncomputable def wP:D->D->Bool
 | .non,.non=>true| .bl a,.bl b=>a == b| .bl a,.int b=>(if a then 1 else 0) == b| .int a,.bl b=>a == (if b then 1 else 0)| .int a,.int b=>a == b| .str a,.str b=>a == b|_,_=>false
def XB(x:D)(ds:List D):M D:=chk (mn x=true/\ds.all mn=true) (ret (.bl (ds.any λd=>wP d x)))
def yT(x:D)(ds:List D):M D:=chk (mn x=true/\ds.all mn=true) (ret (.bl !(ds.any λd=>wP d x)))
def inD(x y:D):M D:=match y with| .dic n=>bnd (hasK n x) λb=>ret (.bl b)|y=>bnd (A_ y) (XB x)
def qY(x y:D):M D:=match y with| .dic n=>bnd (hasK n x) λb=>ret (.bl !b)|y=>bnd (A_ y) (yT x)
noncomputable def t9(b:Bool)(c:List (D×D)):M D:=λs=>.ok (.dic s.length) (s++[.dct b c])
def rS(b:Bool):CE:=λ_=>t9 b []
def wu:D->D->M D:=ui λi j=>ret (.int (min i j))
def u7(a:CE):CE:=λl=>bnd (a l) λx=>match x with
 | .ref n=>bnd (getL n) λds=>match ds.getLast? with|some d=>bnd (putL n ds.dropLast) λ_=>ret d|none=>bad
 |_=>bad
def uJ(a:CE):CA:=λl=>bnd (a l) λx=>match x with| .ref n=>getL n |> λm=>bnd m λds=>ret ds.reverse|_=>bad
def fC(t:CT)(b:CS):Nat->CS
 |0=>λ_=>bad
 |n+1 => λl => bnd (t l) λc => if c = true then bnd (b l) λf => match f with| .next l2=>fC t b n l2| .cnt l2=>fC t b n l2| .brk l2=>ret (.next l2)| .ret d=>ret (.ret d) else ret (.next l)
open Classical in
def kK(t:CT)(b:CS):CS:=λl s=>if h:∃n,(∀r,fC t b n l s=r->r≠.bad) then fC t b (choose h) l s else .bad
end MM
namespace MM
open PySem PySem.Spec PyProof.Rows L2
abbrev St:=L2.St
def zA(K:ah)(H:Hp)(a:ak)(xs:List V):Prop:=
 (∃o,H a=some (.frz o (.lst xs))) \/
  ∃(o:Obj)(its:Array ag)(n:Nat),K.lookup a=some o/\o.cls=.type "list"/\o.dict=none/\o.data=.seq its n/\its.size<=sizeLine/\cq xs its.toList
def zA.seq{K:ah}(h:zA K H a xs):gS K H a xs:=by
 rcases h with ⟨o,h⟩|h
 ·exact .inl (.inr ⟨o,h⟩)
 ·exact .inr h
noncomputable def kO:HO->Nat
 | .lst _=>0| .dK _=>1| .ext _=>2| .tbl _=>4|_=>3
abbrev NK:=List KI
def nH(k:NK):Int:=pK k
def Cg(x:NK×ak×ag):kP:=⟨nH x.1,.ref x.2.1,x.2.2⟩
def ZJ(a:ak)(es:List (NK×ak×V))(h:bK):Prop:=es.length<=sizeLine/\(a == cH)=false/\∃xs:List (NK×ak×ag),eZ (λ(p:NK×ak×V)(q:NK×ak×ag)=>p.1=q.1/\p.2.1=q.2.1/\RelV p.2.2 q.2.2) es xs /\
 ∃o c ep,h.get? a=some o/\o.ExactDict/\o.data=.dict c ep/\c.toList=xs.map Cg/\(xs.map (·.1)).Nodup/\ep=xs.length
def kI(a:ak)(es:List (NK×ak×V)):HO:=.ext (ZJ a es)
def R5(a:ak)(es:List (NK×ak×V))(h:bK):Prop:=es.length<=sizeLine/\(a == cH)=false/\∃xs:List (NK×ak×ag),eZ (λ(p:NK×ak×V)(q:NK×ak×ag)=>p.1=q.1/\p.2.1=q.2.1/\RelV p.2.2 q.2.2) es xs /\
 ∃o c ep,h.get? a=some o/\o.ExactDict/\o.data=.dict c ep/\c.toList=xs.map Cg/\(xs.map (·.1)).Nodup
def N6(a:ak)(es:List (NK×ak×V)):HO:=.ext (R5 a es)
noncomputable def Ga(r:List Int):D:=.tup (r.map .int)
def il:KI->D
 | .inl i=>.int i| .inr r=>Ga r
def sF(k:NK):D:=.tup (k.map il)
def pD:Key->D
 | .inl i=>.int i| .inr x=>.str x
def EJ(x:Str)(c:Array ag):Prop:=x=az "NoText"\/c[2]?=some cB
mutual
inductive dE(K:ah)(ρ:List ak)(H:Hp):V->D->Prop
 |non:dE K ρ H .non .non|bl (b:Bool):dE K ρ H (.bl b) (.bl b)|int (i:Int):dE K ρ H (.int i) (.int i)|str (x:Str):dE K ρ H (.str x) (.str x)|tup {a:ak}{vs:List V}{ds:List D} (h:ml K H a vs) (r:bW K ρ H vs ds):dE K ρ H (.ref a) (.tup ds)|lit {a:ak}{vs:List V}{ds:List D} (h:zA K H a vs) (r:bW K ρ H vs ds):dE K ρ H (.ref a) (.lit ds)|ref {a:ak}{n:Nat} (k:∃o,H a=some o/\kO o=0) (h:ρ[n]?=some a):dE K ρ H (.ref a) (.ref n)|dic {a:ak}{n:Nat} (k:∃o,H a=some o/\(kO o=1\/kO o=2)) (h:ρ[n]?=some a):dE K ρ H (.ref a) (.dic n)|exn0 {a C:ak}{x:Str} (g:fR K cO x=some (some (.ref C))) (h:∃o,H a=some (.frz o (.own a))/\o.cls=.ref C):dE K ρ H (.ref a) (.exn x [])|exn {a C dx:ak}{x f:Str}{v:V}{d:D} (g:fR K cO x=some (some (.ref C))) (h:∃o,H a=some (.frz o (.own a))/\o.cls=.ref C/\o.dict=some dx/\∃vs,o.data=.fields vs/\EJ x vs) (h2:H dx=some (.xd [(f,v)])) (r:dE K ρ H v d):dE K ρ H (.ref a) (.exn x [.str f,d])|fn {a:ak}{n:Nat} (h:ρ[n]?=some a):dE K ρ H (.ref a) (.fn n)
inductive bW(K:ah)(ρ:List ak)(H:Hp):List V->List D->Prop
 |nil:bW K ρ H [] []|cons {v:V}{d:D}{vs:List V}{ds:List D} (r:dE K ρ H v d) (t:bW K ρ H vs ds):bW K ρ H (v::vs) (d::ds)
end
def Mq(K:ah)(ρ:List ak)(H:Hp)(v:V):D->Prop
 | .non=>v=.non| .bl b=>v=.bl b| .int i=>v=.int i| .str x=>v=.str x| .tup ds=>∃a c,v=.ref a/\ml K H a c/\bW K ρ H c ds| .lit ds=>∃a c,v=.ref a/\zA K H a c/\bW K ρ H c ds| .ref n=>∃a,v=.ref a/\(∃o,H a=some o/\kO o=0)/\ρ[n]?=some a| .dic n=>∃a,v=.ref a/\(∃o,H a=some o/\(kO o=1\/kO o=2))/\ρ[n]?=some a| .fn n=>∃a,v=.ref a/\ρ[n]?=some a|_=>True
def dE.inv{K:ah}(r:dE K ρ H v d):Mq K ρ H v d:=by
 cases r with|non=>rfl|bl=>rfl|int=>rfl|str=>rfl|tup h q=>exact⟨_,_,rfl,h,q⟩|lit h q=>exact⟨_,_,rfl,h,q⟩|ref k h=>exact⟨_,rfl,k,h⟩|dic k h=>exact⟨_,rfl,k,h⟩|exn0=>trivial|exn=>trivial|fn h=>exact⟨_,rfl,h⟩
def pE(H:Hp)(c:ak)(q:Str):Prop:=∃g h t,H c=some (.frz g (.frz g (.own c)))/\g.data=.fields h/\h[1]?=some (.str q t)
def FL(H:Hp)(a:ak)(e:Expr):Prop:=∃ps b sc p q c g ct,e=.Lambda ps b sc p/\H a=some (.frz (xS "<lambda>" q ps b sc [] g c ct) (.own a))/\pE H c q
def TabOf(K:ah)(x:Str)(a:ak):Prop:=∃f o g c,fR K cO x=some (some (.ref f))/\K.lookup f=some o/\o.data=.func g/\g.code=.ref c/\eB K c a=true
noncomputable def xh(x w:Str):Str:=x++".<locals>."++w
def Md(K:ah)(H:Hp)(a:ak)(x w:Str):Prop:=TabOf K x a/\∃ps,H a=some (.tbl ps)/\oQ ps.toList/\∀p v,lQ p ps.toList=some v->∃c,v=.ref c/\pE H c (xh x w)
def tE(K:ah)(ρ:List ak)(H:Hp)(p:Str×ak)(d:D):Prop:=∃o u v,H p.2=some (.frz o (.frz o (.own p.2)))/\o.data=.cell (some u)/\RelV v u/\dE K ρ H v d
noncomputable def B4(c:kR)(l:dm)(q:Str)(o:ak)(cl:List (Str×ak)):Prop:=match c with| .lam e=>∃ps b sc p h ct,e=.Lambda ps b sc p/\l=oo "<lambda>" q ps b sc cl h (.ref o) ct| .dfn st=>∃nm ps g ds rt tp sc ts bd p u h ct,st=.FunctionDef nm ps g ds rt tp sc ts bd p/\l=qT nm q ps g sc cl .none .none u h none (.ref o) ct
noncomputable def oG(names:List (Str×dG)):List Str:=((names.filter λy=>y.2 == .free).map (·.1)).reverse
def Jj(K:ah)(ρ:List ak)(H:Hp)(a:ak)(c:kR)(l:List D):Prop:=∃o g q h cl,H a=some (.frz o (.own a))/\o.data=.func g/\B4 c g q h cl/\pE H h q/\((cl.map (·.2)).Nodup/\cl.map (·.1)=oG g.scope.names)/\eZ (tE K ρ H) cl l
def n9(K:ah)(ρ:List ak)(H:Hp)(a:ak):MO->Prop
 | .lst ds=>∃g,H a=some (.lst g)/\bW K ρ H g ds| .dct false a6=>∃es,H a=some (.dK es)/\eZ (λ(p:Key×V)(q:D×D)=>pD p.1=q.1/\dE K ρ H p.2 q.2) es a6| .lam e=>FL H a e| .tbl x w=>Md K H a x w| .clo c g=>Jj K ρ H a c g| .ded=>∃o,H a=some (.frz o (.own a))| .dcf a6=>∃es,H a=some (N6 a es)/\eZ (λ(p:NK×ak×V)(q:D×D)=>sF p.1=q.1/\dE K ρ H (.ref p.2.1) q.1/\dE K ρ H p.2.2 q.2) es a6| .dct true a6=>∃es,H a=some (kI a es)/\eZ (λ(p:NK×ak×V)(q:D×D)=>sF p.1=q.1/\dE K ρ H (.ref p.2.1) q.1/\dE K ρ H p.2.2 q.2) es a6
structure SR(K:ah)(ρ:List ak)(H:Hp)(st:aZ):Prop where
 len:ρ.length=st.length
 nd:ρ.Nodup
 ob:∀(n:Nat)(a:ak)(o:MO),ρ[n]?=some a->st[n]?=some o->n9 K ρ H a o
noncomputable def LR(K:ah)(ρ:List ak)(H:Hp)(σ:St)(l:Loc):Prop:=
 σ.length=l.length/\∀(i:Nat)(d:D),l[i]?=some (some d)->∃v,σ[i]?=some (some v)/\dE K ρ H v d
structure Ex(ρ:List ak)(H:Hp)(ρ':List ak)(H':Hp):Prop where
 pre:∃τ,ρ'=ρ++τ/\∀a∈τ,H a=none
 fix:∀a o,kO o=3->H a=some o->H' a=some o
 oth:∀a o,a∉ρ->H a=some o->H' a=some o
 knd:∀a o,H a=some o->∃o',H' a=some o'/\kO o'=kO o
structure Up(ρ:List ak)(H:Hp)(ρ':List ak)(H':Hp):Prop where
 pre:∃τ,ρ'=ρ++τ
 fix:∀a o,kO o=3->H a=some o->H' a=some o
 knd:∀a o,H a=some o->∃o',H' a=some o'/\kO o'=kO o
section
variable{K:ah}{H H1 H2:Hp}{st cp:aZ}
theorem Ex.lst(x:Ex ρ H ρ1 H1)(a:ak)(xs:List V)(c:a∉ρ)(h:H a=some (.lst xs)):H1 a=some (.lst xs):=x.oth a _ c h
def Ex.trk(x:Ex ρ H ρ1 H1)(a:ak)(o:HO)(h:H a=some o):H1 a≠none:=by let⟨o',e,_⟩:=x.knd a o h;rw[e];exact λz=>nomatch z
def Ex.up(x:Ex ρ H ρ1 H1):Up ρ H ρ1 H1:=⟨let ⟨τ,e,_⟩:=x.pre;⟨τ,e⟩,x.fix,x.knd⟩
def Up.grow:Up ρ H (ρ++τ) H:=⟨⟨τ,rfl⟩,λ_ _ _ e=>e,λ_ o e=>⟨o,e,rfl⟩⟩
def Ex.refl:Ex ρ H ρ H:=⟨⟨[],by simp,by simp⟩,λ_ _ _ e=>e,λ_ _ _ e=>e,λ_ o e=>⟨o,e,rfl⟩⟩
theorem Ex.trans(x:Ex ρ H ρ1 H1)(y:Ex ρ1 H1 ρ2 H2):Ex ρ H ρ2 H2:=by
 let⟨τ1,rfl,l⟩:=x.pre;let⟨τ2,rfl,G⟩:=y.pre;refine⟨⟨τ1++τ2,by simp,λa c=>?_⟩,λa o g e=>y.fix a o g (x.fix a o g e),λa o h e=>?_,λa o e=>?_⟩
 ·rcases aP.mp c with c|c
  ·exact l a c
  ·cases q:H a with|none=>rfl|some o=>exact bh (G a c) (x.trk a o q)
 ·refine y.oth a o (λz=>?_) (x.oth a o h e);rcases aP.mp z with z|z
  ·exact h z
  ·rw[l a z]at e;cases e
 ·let⟨B,J,E⟩:=x.knd a o e;let⟨u,I,C⟩:=y.knd a B J;exact⟨u,I,C.trans E⟩
def Ex.new(h:H a=none):Ex ρ H ρ (fE H a o):=
 ⟨⟨[],by simp,by simp⟩,λb u _ e=>by rw[fS (oJ e h)];exact e,λb u _ e=>by rw[fS (oJ e h)];exact e,
  λb u e=>⟨u,by rw[fS (oJ e h)];exact e,rfl⟩⟩
def Ex.newO(h:H a=none):Ex ρ H (ρ++[a]) (fE H a o):=
 ⟨⟨[a],rfl,λb c=>by rw[aA]at c;rw[c];exact h⟩,(Ex.new (ρ:=ρ) h).fix,(Ex.new (ρ:=ρ) h).oth,(Ex.new (ρ:=ρ) h).knd⟩
def Ex.newL(h:H a=none):Ex ρ H (ρ++[a]) (fE H a (.lst vs)):=Ex.newO h
def ml.mono(x:Up ρ H ρ1 H1)(h:ml K H a vs):ml K H1 a vs:=by
 rcases h with h|h
 ·rcases h with h|⟨o,h⟩
  ·exact .inl (.inl (x.fix a _ rfl h))
  ·exact .inl (.inr ⟨o,x.fix a _ rfl h⟩)
 ·exact .inr h
def zA.mono(x:Up ρ H ρ1 H1)(h:zA K H a vs):zA K H1 a vs:=by
 rcases h with ⟨o,h⟩|h
 ·exact .inl ⟨o,x.fix a _ rfl h⟩
 ·exact .inr h
def xE{α:Type}{l τ:List α}{n:Nat}{a:α}(h:l[n]?=some a):(l++τ)[n]?=some a:=by rw[ao (ac.mp h).1];exact h
mutual
theorem dE.up(x:Up ρ H ρ1 H1):∀{v:V}{d:D},dE K ρ H v d->dE K ρ1 H1 v d
 |_,_,.non=>.non|_,_,.bl b=>.bl b|_,_,.int i=>.int i|_,_,.str y=>.str y|_,_,.tup h r=>.tup (ml.mono x h) (bW.up x r)|_,_,.lit h r=>.lit (zA.mono x h) (bW.up x r)|_,_,.ref ⟨o,ho,hk⟩ h=>by let⟨τ,e⟩:=x.pre;let⟨o',c,l⟩:=x.knd _ o ho;exact .ref ⟨o',c,l.trans hk⟩ (by rw[e];exact xE h)|_,_,.dic ⟨o,ho,hk⟩ h=>by let⟨τ,e⟩:=x.pre;let⟨o',c,l⟩:=x.knd _ o ho;exact .dic ⟨o',c,by rw[l];exact hk⟩ (by rw[e];exact xE h)|_,_,.fn h=>by let⟨τ,e⟩:=x.pre;exact .fn (by rw[e];exact xE h)|_,_,.exn0 g ⟨o,ho,hc⟩=>.exn0 g ⟨o,x.fix _ _ rfl ho,hc⟩|_,_,.exn g ⟨o,ho,hc⟩ h2 r=>.exn g ⟨o,x.fix _ _ rfl ho,hc⟩ (x.fix _ _ rfl h2) (dE.up x r)
theorem bW.up(x:Up ρ H ρ1 H1):∀{vs:List V}{ds:List D},bW K ρ H vs ds->bW K ρ1 H1 vs ds
 |_,_,.nil=>.nil|_,_,.cons r t=>.cons (dE.up x r) (bW.up x t)
end
def dE.mono(r:dE K ρ H v d)(x:Ex ρ H ρ1 H1):dE K ρ1 H1 v d:=r.up x.up
def bW.mono(r:bW K ρ H vs ds)(x:Ex ρ H ρ1 H1):bW K ρ1 H1 vs ds:=r.up x.up
theorem bW.length:∀{vs:List V}{ds:List D},bW K ρ H vs ds->vs.length=ds.length
 |_,_,.nil=>rfl|_,_,.cons _ t=>by simp[bW.length t]
theorem bW.get:∀{vs:List V}{ds:List D}{i:Nat}{d:D},bW K ρ H vs ds->ds[i]?=some d->∃v,vs[i]?=some v/\dE K ρ H v d
 |_,_,_,_,.nil,e=>by simp at e|_,_,0,_,.cons r _,e=>by simp at e;subst e;exact⟨_,rfl,r⟩|_,_,i+1,_,.cons _ t,e=>by let⟨v,g,c⟩:=bW.get (i:=i) t (by simpa using e);exact⟨v,by simpa using g,c⟩
theorem bW.app:∀{vs ws:List V}{ds es:List D},bW K ρ H vs ds->bW K ρ H ws es->bW K ρ H (vs++ws) (ds++es)
 |_,_,_,_,.nil,s=>s|_,_,_,_,.cons r t,s=>.cons r (bW.app t s)
theorem bW.set:∀{vs:List V}{ds:List D}{v:V}{d:D}(i:Nat),bW K ρ H vs ds->dE K ρ H v d->bW K ρ H (vs.set i v) (ds.set i d)
 |_,_,_,_,_,.nil,_=>.nil|_,_,_,_,0,.cons _ t,r=>.cons r t|_,_,_,_,i+1,.cons q t,r=>.cons q (bW.set i t r)
theorem bW.take:∀{vs:List V}{ds:List D}(n:Nat),bW K ρ H vs ds->bW K ρ H (vs.take n) (ds.take n)
 |_,_,0,_=>.nil|_,_,_+1,.nil=>.nil|_,_,n+1,.cons r t=>.cons r (bW.take n t)
theorem bW.drop:∀{vs:List V}{ds:List D}(n:Nat),bW K ρ H vs ds->bW K ρ H (vs.drop n) (ds.drop n)
 |_,_,0,r=>r|_,_,_+1,.nil=>.nil|_,_,n+1,.cons _ t=>bW.drop n t
theorem LR.mono(x:Ex ρ H ρ1 H1)(h:LR K ρ H σ l):LR K ρ1 H1 σ l:=
 ⟨h.1,λi d e=>let ⟨v,e1,r⟩:=h.2 i d e;⟨v,e1,r.mono x⟩⟩
def SR.at(s:SR K ρ H st){n:Nat}(e:st[n]?=some o):∃a,ρ[n]?=some a/\n9 K ρ H a o:=by
 let c:n < ρ.length:=by rw[s.len];exact (ac.mp e).1
 let q:ρ[n]?=some ρ[n]:=ae c;exact⟨_,q,s.ob n _ o q e⟩
def SR.seq(s:SR K ρ H st){n:Nat}(e:st[n]?=some (.lst ds)):∃a vs,ρ[n]?=some a/\H a=some (.lst vs)/\bW K ρ H vs ds:=by let⟨a,h,vs,q,r⟩:=s.at e;exact⟨a,vs,h,q,r⟩
def n9.ex(h:n9 K ρ H a o):∃u,H a=some u:=by
 cases o with|lam e=>let⟨_,_,_,_,_,_,_,_,_,q,_⟩:=h;exact⟨_,q⟩|tbl x w=>let⟨_,_,q,_⟩:=h;exact⟨_,q⟩|dcf a6=>let⟨_,q,_⟩:=h;exact⟨_,q⟩|clo c vs=>let⟨_,_,_,_,_,q,_⟩:=h;exact⟨_,q⟩|ded=>let⟨_,q⟩:=h;exact⟨_,q⟩|lst ds=>let⟨vs,q,_⟩:=h;exact⟨_,q⟩|dct b a6=>cases b<;>(let⟨vs,q,_⟩:=h;exact⟨_,q⟩)
def SR.fresh(s:SR K ρ H st)(h:H a=none):a∉ρ:=λz=>by
 let⟨n,c⟩:=lB z;let g:n < st.length:=by rw[<- s.len];exact (ac.mp c).1
 let⟨u,q⟩:=n9.ex (s.ob n a _ c (ae g));rw[h]at q;cases q
def Ut{n:Nat}(h:getL n st=.ok xs c):c=st/\st[n]?=some (.lst xs):=by
 unfold getL at h;cases e:st[n]? with|none=>rw[e]at h;cases h|some o=>
  rw[e]at h;cases o with|lst ds=>cases h;exact⟨rfl,rfl⟩|_=>cases h
theorem eZ.mapS{α β:Type}{F G:α->β->Prop}:∀{l₁:List α}{l₂:List β},eZ F l₁ l₂->(∀a b,F a b->G a b)->eZ G l₁ l₂
 |_,_,.nil,_=>.nil|_,_,.cons r t,f=>.cons (f _ _ r) (eZ.mapS t f)
def pE.up(x:Up ρ H ρ1 H1)(h:pE H c q):pE H1 c q:=let ⟨oc,vs,t,e,r⟩:=h;⟨oc,vs,t,x.fix _ _ rfl e,r⟩
theorem tE.up(x:Up ρ H ρ1 H1)(h:tE K ρ H p d):tE K ρ1 H1 p d:=let ⟨o,u,v,e1,e2,e3,r⟩:=h;⟨o,u,v,x.fix _ _ rfl e1,e2,e3,r.up x⟩
def n9.mono(x:Up ρ H ρ1 H1)(h:n9 K ρ H a o)(g:∀u,H a=some u->H1 a=some u):n9 K ρ1 H1 a o:=by
 cases o with
 |lam e=>
  let⟨ps,b,sc,p,q,c,E,ct,C,B,l⟩:=h;exact⟨ps,b,sc,p,q,c,E,ct,C,g _ B,l.up x⟩
 |tbl y w=>
  let⟨t,ps,C,B,l⟩:=h;exact⟨t,ps,g _ C,B,λp v z=>let ⟨c,a,b⟩:=l p v z;⟨c,a,b.up x⟩⟩
 |clo c vs=>
  let⟨o,G,q,O,cl,C,B,l,L,J,I⟩:=h;exact⟨o,G,q,O,cl,g _ C,B,l,L.up x,J,eZ.mapS I λ_ _ z=>z.up x⟩
 |ded=>let⟨u,e⟩:=h;exact⟨u,g _ e⟩|dcf a6=>
  let⟨es,q,r⟩:=h;exact⟨es,g _ q,eZ.mapS r λp q z=>⟨z.1,z.2.1.up x,z.2.2.up x⟩⟩
 |lst ds=>
  let⟨vs,q,r⟩:=h;exact⟨vs,g _ q,r.up x⟩
 |dct b a6=>
  cases b with
  |false=>
   let⟨es,q,r⟩:=h;exact⟨es,g _ q,eZ.mapS r λp q z=>⟨z.1,z.2.up x⟩⟩
  |true=>
   let⟨es,q,r⟩:=h;exact⟨es,g _ q,eZ.mapS r λp q z=>⟨z.1,z.2.1.up x,z.2.2.up x⟩⟩
theorem SR.new(s:SR K ρ H st)(h:H a=none):SR K ρ (fE H a o) st:=
 ⟨s.len,s.nd,λn b c l g=>n9.mono (o:=c) (Ex.new (ρ:=ρ) h).up (s.ob n b c l g) λvs q=>by rw[fS (oJ q h)];exact q⟩
def SR.keepO(s:SR K ρ H st)(B:a∉ρ)(r:n9 K ρ H a o'):SR K (ρ++[a]) H (st++[o']):=by
 let u:=s.len;let old:∀(n:Nat)(b:ak),(ρ++[a])[n]?=some b->(n < ρ.length/\ρ[n]?=some b)\/(n=ρ.length/\b=a):=λn b e=>by
  by_cases c:n < ρ.length
  ·rw[ao c]at e;exact .inl ⟨c,e⟩
  ·rw[aE ()]at e;let hz:n - ρ.length=0:=by
    cases q:n - ρ.length with|zero=>rfl|succ k=>rw[q]at e;simp at e
   rw[hz]at e;simp at e;exact .inr ⟨by ext,e.symm⟩
 refine⟨by simp[u],c7.mpr ⟨s.nd,by simp,λx C y l=>?_⟩,λn b o E g=>?_⟩
 ·rw[aA]at l;subst l;exact λz=>B (z ▸ C)
 ·rcases old n b E with ⟨c,h⟩|⟨c,h⟩
  ·rw[ao ()]at g;exact n9.mono (o:=o) Up.grow (s.ob n b o h g) λ_ q=>q
  ·subst h;have:o=o':=by rw[c,u,aE (aw _)]at g;simp at g;exact g.symm
   subst this;exact n9.mono (o:=o) Up.grow r λ_ q=>q
def SR.keep(s:SR K ρ H st)(h:H a=some (.lst vs))(c:a∉ρ)(r:bW K ρ H vs ds):SR K (ρ++[a]) H (st++[.lst ds]):=s.keepO c ⟨vs,h,r⟩
def SR.putO(s:SR K ρ H st){n:Nat}(E:n < st.length)(h:ρ[n]?=some a)(hu:H a=some u)(C:kO u≠3)(G:kO u'=kO u)(r:n9 K ρ (fE H a u') a o'):SR K ρ (fE H a u') (st.set n o')/\Ex ρ H ρ (fE H a u'):=by
 let x:Ex ρ H ρ (fE H a u'):=by
  refine⟨⟨[],by simp,by simp⟩,λb o l q=>?_,λb xs B q=>?_,λb o q=>?_⟩
  ·have:b≠a:=λz=>by subst z;rw[hu]at q;cases q;exact C l
   rw[fS this];exact q
  ·have:b≠a:=λz=>by subst z;exact B (ax h)
   rw[fS this];exact q
  ·by_cases z:b=a
   ·subst z;rw[hu]at q;cases q;exact⟨u',kL,G⟩
   ·exact⟨o,by rw[fS z];exact q,rfl⟩
 refine⟨⟨by simp[s.len],s.nd,λm b o c g=>?_⟩,x⟩;by_cases z:m=n
 ·subst z;rw[h]at c;cases c;rw[aF E]at g;cases g;exact r
 ·rw[aB (ff z)]at g;refine n9.mono (o:=o) x.up (s.ob m b o c g) λI q=>?_;have:b≠a:=λw=>by subst w;exact z ((eX (ac.mp c).1 s.nd).mp (c.trans h.symm))
  rw[fS this];exact q
def SR.put(s:SR K ρ H st){n:Nat}(h:n < st.length)(l:ρ[n]?=some a)(c:H a=some (.lst ws))(r:bW K ρ H vs ds):SR K ρ (fE H a (.lst vs)) (st.set n (.lst ds))/\Ex ρ H ρ (fE H a (.lst vs)):=by
 let u:Up ρ H ρ (fE H a (.lst vs)):=by
  refine⟨⟨[],by simp⟩,λb o g q=>?_,λb o q=>?_⟩
  ·have:b≠a:=λz=>by subst z;rw[c]at q;cases q;exact nomatch g
   rw[fS this];exact q
  ·by_cases z:b=a
   ·subst z;rw[c]at q;cases q;exact⟨_,kL,rfl⟩
   ·exact⟨o,by rw[fS z];exact q,rfl⟩
 exact s.putO h l c (by show (0:Nat)≠3;decide) rfl ⟨vs,kL,r.up u⟩
def Ru(k:∃o,H a=some o/\kO o=0):∃vs,H a=some (.lst vs):=by
 let⟨o,e,c⟩:=k;cases o with|lst vs=>exact⟨vs,e⟩|_=>exact nomatch c
noncomputable def aT{α:Type}(K:ah)(ρ:List ak)(H:Hp)(r:Rs α)(R:α->aZ->List ak->Hp->Prop):Prop:=match r with| .ok a st=>∀ρ' H',Ex ρ H ρ' H'->SR K ρ' H' st->R a st ρ' H'|_=>False
def aT.left{α:Type}{r:Rs α}{R:α->aZ->List ak->Hp->Prop}(x:Ex ρ H ρ1 H1)(h:aT K ρ H r R):aT K ρ1 H1 r R:=by
 cases r with|ok a st=>exact λρ' c y s=>h ρ' c (x.trans y) s|exc _ _=>exact h|bad=>exact h
def aT.imp{α:Type}{r:Rs α}{R g:α->aZ->List ak->Hp->Prop}(h:aT K ρ H r R)(f:∀a st ρ' c,Ex ρ H ρ' c->SR K ρ' c st->R a st ρ' c->g a st ρ' c):aT K ρ H r g:=by
 cases r with|ok a st=>exact λρ' c y s=>f a st ρ' c y s (h ρ' c y s)|exc _ _=>exact h|bad=>exact h
theorem aT.bnd{α β:Type}{m:M α}{f:α->M β}{R:β->aZ->List ak->Hp->Prop}(h:aT K ρ H (bnd m f st) R):aT K ρ H (m st) λa c ρ' g=>aT K ρ' g (f a c) R:=by
 unfold MM.bnd at h;cases e:m st with
 |ok a s'=>
  rw[e]at h;exact λρ' g y s=>h.left y
 |exc _ _=>rw[e]at h;exact h|bad=>rw[e]at h;exact h
theorem aT.ret{α:Type}{a:α}{R:α->aZ->List ak->Hp->Prop}(h:aT K ρ H (MM.ret a st) R)(s:SR K ρ H st):R a st ρ H:=h ρ H Ex.refl s
theorem aT.chk{α:Type}{c:Prop}[Decidable c]{m:M α}{R:α->aZ->List ak->Hp->Prop}(h:aT K ρ H (MM.chk c m st) R):c/\aT K ρ H (m st) R:=by
 unfold MM.chk at h;by_cases g:c
 ·rw[aH g]at h;exact⟨g,h⟩
 ·rw[aD g]at h;exact h.elim
theorem aT.getL{n:Nat}(h:aT K ρ H (MM.getL n st) R)(s:SR K ρ H st):∃xs,st[n]?=some (.lst xs)/\R xs st ρ H:=by
 cases e:MM.getL n st with
 |ok xs s'=>
  let⟨rfl,q⟩:=Ut e;rw[e]at h;exact⟨xs,q,h ρ H Ex.refl s⟩
 |exc _ _=>rw[e]at h;exact h.elim|bad=>rw[e]at h;exact h.elim
def Au(K:ah)(f:CE):TE:=λσ H Q=>∃ρ l st,LR K ρ H σ l/\SR K ρ H st/\aT K ρ H (f l st) λd _ ρ' c=>∀v,dE K ρ' c v d->Q v c
def rg(K:ah)(f:CT):TT:=λσ H Q=>∃ρ l st,LR K ρ H σ l/\SR K ρ H st/\aT K ρ H (f l st) λb _ _ c=>Q b c
def Ja(K:ah)(f:CA):TA:=λσ H Q=>∃ρ l st,LR K ρ H σ l/\SR K ρ H st/\aT K ρ H (f l st) λds _ ρ' c=>∀vs,bW K ρ' c vs ds->Q vs c
def FJ(K:ah)(f:CA):TE:=λσ H Q=>∃ρ l st,LR K ρ H σ l/\SR K ρ H st/\aT K ρ H (f l st) λds _ ρ' c=>∀a vs,H a=none->a∉ρ'->c a=some (.lst vs)->bW K ρ' c vs ds->Q (.ref a) c
def xf(K:ah)(c:CS):TS:=λG σ H=>∃ρ l st,LR K ρ H σ l/\SR K ρ H st/\aT K ρ H (c l st) λf _ ρ' g=>match f with| .next l'=>∀σ',LR K ρ' g σ' l'->G.nx σ' g| .ret d=>∀v,dE K ρ' g v d->G.rt v g| .brk l'=>∀σ',LR K ρ' g σ' l'->G.bk σ' g| .cnt l'=>∀σ',LR K ρ' g σ' l'->G.ct σ' g
def AF(K:ah)(g:CG):TG:=λv σ H Q=>∃ρ l st d,LR K ρ H σ l/\SR K ρ H st/\dE K ρ H v d/\aT K ρ H (g d l st) λh _ ρ' c=>∀σ',LR K ρ' c σ' h->Q σ' c
def Gx(K:ah)(g:List D->Loc->M Loc):As:=λvs σ H Q=>∃ρ l st ds,LR K ρ H σ l/\SR K ρ H st/\bW K ρ H vs ds/\aT K ρ H (g ds l st) λh _ ρ' c=>∀σ',LR K ρ' c σ' h->Q σ' c
def ra(K:ah)(g:D->D->M D):R2:=λx y H Q=>∃ρ st d e,SR K ρ H st/\dE K ρ H x d/\dE K ρ H y e/\aT K ρ H (g d e st) λr _ ρ' c=>∀v,dE K ρ' c v r->Q v c
def yG(K:ah)(g:D->M D):V->Hp->VK->Prop:=λx H Q=>∃ρ st d,SR K ρ H st/\dE K ρ H x d/\aT K ρ H (g d st) λr _ ρ' c=>∀v,dE K ρ' c v r->Q v c
def Uj(K:ah)(g:List D->M D):List V->Hp->VK->Prop:=λxs H Q=>∃ρ st ds,SR K ρ H st/\bW K ρ H xs ds/\aT K ρ H (g ds st) λr _ ρ' c=>∀v,dE K ρ' c v r->Q v c
def mU(K:ah)(n:Nat)(g:List D->M D):Sp:=λvs H Q _=>vs.length=n/\Uj K g vs H Q
end
section
variable{X:Cx}{a b c:Expr}{pos:Pos}
abbrev SE(X:Cx)(e:Expr)(f:CE):Prop:=PE X e (Au X.K f)
abbrev SL(X:Cx)(e:Expr)(f:CA):Prop:=PE X e (FJ X.K f)
abbrev ST(X:Cx)(e:Expr)(f:CT):Prop:=PT X e (rg X.K f)
abbrev SA(X:Cx)(es:List Expr)(f:CA):Prop:=PA X es (Ja X.K f)
abbrev SS(X:Cx)(s:Stmt)(f:CS):Prop:=PS X s (xf X.K f)
abbrev xj(X:Cx)(s:List Stmt)(f:CS):Prop:=PSs X s (xf X.K f)
def _root_.L2.PE.of{t t':TE}(h:PE X e t)(f:∀σ H Q,t' σ H Q->t σ H Q):PE X e t':=λg s σ H Q I q=>h g s σ H Q I (f σ H Q q)
def _root_.L2.PT.of{t t':TT}(h:PT X e t)(f:∀σ H Q,t' σ H Q->t σ H Q):PT X e t':=λg s σ H Q I q=>h g s σ H Q I (f σ H Q q)
def _root_.L2.PA.of{t t':TA}(h:PA X e t)(f:∀σ H Q,t' σ H Q->t σ H Q):PA X e t':=λpos g s σ H Q I q=>h pos g s σ H Q I (f σ H Q q)
def _root_.L2.PS.of{t t':TS}(h:PS X e t)(f:∀D σ H,t' D σ H->t D σ H):PS X e t':=λg s σ H D I q=>h g s σ H D I (f D σ H q)
def _root_.L2.PSs.of{t t':TS}(h:PSs X e t)(f:∀D σ H,t' D σ H->t D σ H):PSs X e t':=λg s σ H D I q=>h g s σ H D I (f D σ H q)
def _root_.L2.PG.of{t t':TG}(h:PG X e t)(f:∀v σ H Q,t' v σ H Q->t v σ H Q):PG X e t':=λg s σ H v u Q I r q=>h g s σ H v u Q I r (f v σ H Q q)
def _root_.L2.PGs.of{t t':As}(h:PGs X e t)(f:∀v σ H Q,t' v σ H Q->t v σ H Q):PGs X e t':=λg s σ H v u Q I r q=>h g s σ H v u Q I r (f v σ H Q q)
def _root_.L2.OpR.of{r o:R2}(h:OpR X f r)(g:∀x y H Q,o x y H Q->r x y H Q):OpR X f o:=λl s σ H x y v u Q I C B q=>h l s σ H x y v u Q I C B (g x y H Q q)
def _root_.L2.CallR.of{r o:List V->Hp->VK->Prop}(h:CallR X f r)(g:∀x H Q,o x H Q->r x H Q):CallR X f o:=λl s σ H x u Q I v q=>h l s σ H x u Q I v (g x H Q q)
variable{fa fb fc:CE}
def SW(i:Nat)(h:PE X (.Name x pos) (yM i)):SE X (.Name x pos) (aq i):=h.of λσ H Q g=>by
 let⟨ρ,l,st,q,sr,p⟩:=g;unfold aq at p;cases e:l[i]? with|none=>rw[e]at p;exact p.elim|some o=>
  rw[e]at p;cases o with|none=>exact p.elim|some d=>
   let⟨v,u,r⟩:=q.2 i d e;exact⟨v,u,p.ret sr v r⟩
def WB{i:Int}{j:Nat}:SE X (.Constant (.int i) j pos) (aN (.int i)):=(No (i:=i) (j:=j) (pos:=pos)).of λσ H Q g=>by let⟨ρ,l,st,h,sr,p⟩:=g;exact p.ret sr _ (.int i)
def WJ{j:Nat}:SE X (.Constant (.bool i) j pos) (aN (.bl i)):=(Z1 (b:=i) (j:=j) (pos:=pos)).of λσ H Q g=>by let⟨ρ,l,st,h,sr,p⟩:=g;exact p.ret sr _ (.bl i)
def Qds{j:Nat}:SE X (.Constant .none j pos) (aN .non):=(Zf (j:=j) (pos:=pos)).of λσ H Q g=>by let⟨ρ,l,st,h,sr,p⟩:=g;exact p.ret sr _ .non
def Qdt{j:Nat}:SE X (.Constant (.str i) j pos) (aN (.str i)):=(Uz (x:=i) (j:=j) (pos:=pos)).of λσ H Q g=>by let⟨ρ,l,st,h,sr,p⟩:=g;exact p.ret sr _ (.str i)
def Ia{r:R2}(Y:∀x y H Q,ra X.K g x y H Q->r x y H Q):∀σ H Q,Au X.K (c2 g fa fb) σ H Q->Gq r (Au X.K fa) (Au X.K fb) σ H Q:=λσ H Q h=>
 by let⟨ρ,l,st,B,sr,p⟩:=h;exact⟨ρ,l,st,B,sr,p.bnd.imp λd q ρ1 H1 E I U v J=>⟨ρ1,l,q,B.mono E,I,U.bnd.imp λe o ρ2 c C G O u L=>Y _ _ _ _ ⟨ρ2,o,d,e,G,J.mono C,L,O⟩⟩⟩
def Uf(l:OpR X (fH op) (ra X.K g))(q:SE X a fa)(o:SE X b fb):SE X (.BinOp a op b pos) (c2 g fa fb):=
 (Y_ l q o).of (Ia λ_ _ _ _ h=>h)
def Wc(l:OpR X (dH op) (ra X.K g))(u:SE X a fa)(q:SE X b fb)(o:kr op b=false):SE X (.Compare a [op] [b] pos) (c2 g fa fb):=
 (XE l u q o).of (Ia λ_ _ _ _ h=>h)
end
def _root_.Exists.el{α β γ:Type}{A B C:α->β->γ->Prop}{G:Prop}(h:∃a b c,A a b c/\B a b c/\C a b c)(k:∀a b c,A a b c->B a b c->C a b c->G):G:=by let⟨ρ,l,st,a,b,c⟩:=h;exact k ρ l st a b c
def Au.el{K:ah}{C:Prop}(h:Au K f σ H Q)(k:∀ρ l st,LR K ρ H σ l->SR K ρ H st->aT K ρ H (f l st) (λd _ ρ' g=>∀v,dE K ρ' g v d->Q v g)->C):C:=by let⟨ρ,l,st,a,b,c⟩:=h;exact k ρ l st a b c
def rg.el{K:ah}{C:Prop}(h:rg K f σ H Q)(k:∀ρ l st,LR K ρ H σ l->SR K ρ H st->aT K ρ H (f l st) (λb _ _ g=>Q b g)->C):C:=by let⟨ρ,l,st,a,b,c⟩:=h;exact k ρ l st a b c
theorem xf.el{K:ah}{c:CS}{σ:St}{H:Hp}{G:Ends}{C:Prop}(h:xf K c G σ H) (k:∀ρ l st,LR K ρ H σ l->SR K ρ H st->aT K ρ H (c l st) (λf _ ρ' g=>match f with
 | .next l'=>∀σ',LR K ρ' g σ' l'->G.nx σ' g| .ret d=>∀v,dE K ρ' g v d->G.rt v g| .brk l'=>∀σ',LR K ρ' g σ' l'->G.bk σ' g
 | .cnt l'=>∀σ',LR K ρ' g σ' l'->G.ct σ' g)->C):C:=by
 let⟨ρ,l,st,a,b,c⟩:=h;exact k ρ l st a b c
end MM
namespace MM
open PySem PySem.Spec PyProof.Rows L2
theorem PR:∀(a b:List Int),mW (a.map .int) (b.map .int)=decide (a=b)
 |[],[]=>by simp[mW]|[],_::_=>by simp[mW]|_::_,[]=>by simp[mW]
 |x::xs,y::ys=>by
  rw[aV,aV]
  show (oM (.int x) (.int y)&&mW _ _)=_;rw[PR xs ys]
  show (decide (x=y)&&_)=_;simp[oq]
theorem Um:∀(a b:KI),oM (il a) (il b)=decide (a=b)
 | .inl i,.inl j=>by
  show decide (i=j)=_;by_cases z:i=j
  ·subst z;simp
  ·rw[bc z,bc (λq=>z (by injection q))]
 | .inl i,.inr r=>by rw[bc (by simp)];rfl| .inr r,.inl i=>by rw[bc (by simp)];rfl
 | .inr r,.inr q=>by
  show mW (r.map .int) (q.map .int)=_;rw[PR];by_cases z:r=q
  ·subst z;simp
  ·rw[bc z,bc (λq=>z (by injection q))]
theorem Rj:∀(a b:List KI),mW (a.map il) (b.map il)=decide (a=b)
 |[],[]=>by simp[mW]|[],_::_=>by simp[mW]|_::_,[]=>by simp[mW]
 |x::xs,y::ys=>by
  rw[aV,aV]
  show (oM (il x) (il y)&&mW _ _)=_;rw[Rj xs ys,Um];simp[oq]
def DV(a b:NK):oM (sF a) (sF b)=decide (a=b):=Rj a b
def MK(a b:Key):oM (pD a) (pD b)=decide (a=b):=by cases a<;>cases b<;>simp[pD,oM]
theorem PM:∀{ds:List D}{r:List Int},pF ds=some r->ds=r.map .int
 |[],r,h=>by simp[pF]at h;subst h;rfl
 |d::ds,r,h=>by
  cases d with
  |int i=>
   unfold pF at h;cases e:pF ds with|none=>rw[e]at h;cases h|some q=>
    rw[e]at h;cases h;rw[aV,PM e]
  |_=>cases h
theorem Lw:∀{ds:List D}{r:NK},n6 ds=some r->ds=r.map il
 |[],r,h=>by simp[n6]at h;subst h;rfl
 |d::ds,r,h=>by
  cases d with
  |tup xs=>
   unfold n6 at h;cases e:pF xs with|none=>rw[e]at h;cases h|some q=>
    cases c:n6 ds with|none=>rw[e,c]at h;cases h|some q2=>
     rw[e,c]at h;cases h;rw[aV,<- Lw c]
     show _=D.tup (q.map .int)::ds;rw[<- PM e]
  |int i=>
   unfold n6 at h;cases c:n6 ds with|none=>rw[c]at h;cases h|some q2=>
    rw[c]at h;cases h;rw[aV,<- Lw c];rfl
  |_=>cases h
def Vu(h:stK d=some r):d=sF r:=by
 cases d with|tup ds=>show D.tup ds=D.tup _;rw[Lw h]|_=>cases h
def EY(h:oY true d=true):∃k,d=sF k:=by
 cases e:stK d with
 |none=>
  have:oY true d=(stK d).isSome:=by cases d<;>rfl
  rw[this,e]at h;cases h
 |some k=>exact⟨k,Vu e⟩
def Jo(h:oY false d=true):∃k,d=pD k:=by
 cases d with|int i=>exact⟨.inl i,rfl⟩|str x=>exact⟨.inr x,rfl⟩|_=>cases h
section
variable{X:Cx}{K:ah}{ρ:List ak}{H:Hp}{st:aZ}{a b:ak}
def Jz(r:dE K ρ H v (pD k)):v=kV k:=by
 cases k with|inl i=>cases r;rfl|inr x=>cases r;rfl
abbrev KR(K:ah)(ρ:List ak)(H:Hp):List (Key×V)->List (D×D)->Prop:=eZ λ(p:Key×V)(q:D×D)=>pD p.1=q.1/\dE K ρ H p.2 q.2
def RO(K:ah)(ρ:List ak)(H:Hp):Option V->Option D->Prop
 |some v,some d=>dE K ρ H v d|none,none=>True|_,_=>False
def RO.some_of(h:RO K ρ H o (some d)):∃v,o=some v/\dE K ρ H v d:=by
 cases o with|none=>exact h.elim|some v=>exact⟨v,rfl,h⟩
def RO.isSome_eq(h:RO K ρ H o d):o.isSome=d.isSome:=by cases o<;>cases d<;>first|rfl|exact h.elim
def KR.val(r:KR K ρ H es c)(k:Key):RO K ρ H (qZ es k) (m_ c (pD k)):=by
 induction r with|nil=>exact gi|@cons p q ps qs h t ih=>
  let⟨l,g⟩:=h;unfold m_;rw[c5,<- l,MK];by_cases e:p.1=k
  ·rw[IJ e,cz e];exact g
  ·rw[HW e,bc e];exact ih
theorem KR.any(r:KR K ρ H es c)(k:Key):(es.any λkv=>decide (kv.1=k))=c.any λp=>oM p.1 (pD k):=by
 induction r with|nil=>rfl|@cons p q ps qs h t ih=>rw[eU,eU,ih,<- h.1,MK]
def KR.put(r:KR K ρ H es c)(k:Key)(g:dE K ρ H v d):KR K ρ H (L2.ng es k v) (mK c (pD k) d):=by
 unfold L2.ng mK;rw[r.any k];by_cases e:(c.any λp=>oM p.1 (pD k))=true
 ·rw[aH e,aH e];clear e
  induction r with|nil=>exact .nil|@cons p q ps qs h t ih=>
   rw[aV,aV];refine .cons ?_ ih;rw[<- h.1,MK];by_cases e:p.1=k
   ·rw[aH e,aH (cz e)];exact⟨rfl,g⟩
   ·rw[aD e,aD (by rw[bc e];exact bE)];exact h
 ·rw[aD e,aD e];exact oz r ⟨rfl,g⟩
theorem KR.up(x:Up ρ H ρ1 g)(r:KR K ρ H es c):KR K ρ1 g es c:=eZ.mapS r λ_ _ z=>⟨z.1,z.2.up x⟩
theorem KR.length(r:KR K ρ H es c):es.length=c.length:=cV r
abbrev NR(K:ah)(ρ:List ak)(H:Hp):List (NK×ak×V)->List (D×D)->Prop:=eZ λ(p:NK×ak×V)(q:D×D)=>sF p.1=q.1/\dE K ρ H (.ref p.2.1) q.1/\dE K ρ H p.2.2 q.2
abbrev NX:List (NK×ak×V)->List (NK×ak×ag)->Prop:=eZ λ(p:NK×ak×V)(q:NK×ak×ag)=>p.1=q.1/\p.2.1=q.2.1/\RelV p.2.2 q.2.2
abbrev AG(X:Cx):qx X.prog X.w NK:=uP X.prog X.w
theorem Pn:∀{r:List Int}{c:List V}{l:List ag},bW K ρ H c (r.map .int)->cq c l->ItemsAre (qP P w) r l
 |[],_,_,h,g=>by cases h;cases g;exact .nil
 |i::r,_,_,h,g=>by
  cases h with|cons h1 ht=>
   cases h1;cases g with|cons g1 gt=>
    let⟨t,e⟩:=g1;subst e;exact .cons (by show rK i (kS i t)=true;simp[rK]) (Pn ht gt)
def Yx(I:Inv X ar σ H s)(h:dE X.K ρ H v (Ga r))(g:RelV v u):∃b,u=.ref b/\Dm (qP X.prog X.w) s.heap r b:=by
 cases h with|@tup b vs ds h q=>
  let e:u=bD b:=g;subst e;let⟨its,c,⟨o,C,B,n,l⟩,_⟩:=I.tuple h;exact⟨b,rfl,o,its.toArray,n,C,B,l,by simpa using Pn q c⟩
theorem NP(I:Inv X ar σ H s):∀{k:NK}{c:List V}{l:List ag},bW X.K ρ H c (k.map il)->cq c l->oO X.prog X.w s.heap k l
 |[],_,_,h,g=>by cases h;cases g;exact .nil
 |r::k,_,_,h,g=>by
  cases h with|cons h1 ht=>
   cases g with|cons g1 gt=>
    refine .cons ?_ (NP I ht gt);cases r with
    |inl i=>
     cases (show dE X.K ρ H _ (.int i) from h1);let⟨t,e⟩:=g1;subst e;exact .one i t
    |inr r=>
     let⟨b,e,o⟩:=Yx I h1 g1;subst e;exact .row o
def BH(I:Inv X ar σ H s)(h:dE X.K ρ H v (sF k))(g:RelV v u):∃b,v=.ref b/\u=.ref b/\(AG X).is s.heap k b:=by
 cases h with|@tup b vs ds h q=>
  let e:u=bD b:=g;subst e;let⟨its,c,⟨o,C,B,n,l⟩,_⟩:=I.tuple h;exact⟨b,rfl,rfl,o,its.toArray,n,C,B,l,by simpa using NP I q c⟩
def zB(I:Inv X ar σ H s)(e:H a=some (kI a es))(r:NR X.K ρ H es c):es.length<=sizeLine/\(a == cH)=false/\∃xs,NX es xs/\s.heap.DictOfH (AG X) a xs/\sO s.heap a xs.length:=by
 let⟨⟨z,y,xs,C,o,u,ep,B,J,v,G,E,U⟩,O,L⟩:=(show gp X.prog X.w H s.heap a (kI a es) from I.hok a _ e)
 subst U;refine⟨z,y,xs,C,⟨o,u,_,B,J,v,G,?_,E⟩,⟨o,u,B,v⟩⟩;clear B J v G E e z y O L
 induction C generalizing c with
 |nil=>intro x l;exact nomatch l
 |@cons p q ps qs h t ih=>
  cases r with|cons g gt=>
   intro x l;rcases aR.mp l with e|l
   ·subst e;let⟨b,Y,_,Q⟩:=BH I (by rw[g.1];exact g.2.1) (show RelV (.ref p.2.1) (.ref p.2.1) from rfl);cases Y;rw[<- h.1,<- h.2.1];exact Q
   ·exact ih gt x l
def Dx{h':bK}{es:List (NK×ak×V)}(z:es.length<=sizeLine)(y:(a == cH)=false)(r:NX es xs)(G:h'.DictOfH (uP P w) a xs)(E:sO h' a xs.length):gp P w I h' a (kI a es):=by
 let⟨o,c,ep,g,h,q,B,_,v⟩:=G;let⟨J,C,l,u⟩:=E;rw[g]at l;cases l;rw[q]at u;cases u;refine⟨⟨z,y,xs,r,o,c,_,g,h,q,B,v,rfl⟩,⟨o,g⟩,?_⟩
 rintro l g2 ⟨z,y,xs,r,o,c,ep,g,h⟩ k
 exact⟨z,y,xs,r,o,c,ep,k o g,h⟩
noncomputable def valN(es:List (NK×ak×V))(k:NK):Option V:=(es.find? λp=>decide (p.1=k)).map (·.2.2)
noncomputable def putN(es:List (NK×ak×V))(k:NK)(b:ak)(v:V):List (NK×ak×V):=if (es.any λp=>decide (p.1=k))=true then es.map (λp=>if p.1=k then (p.1,p.2.1,v) else p) else es++[(k,b,v)]
def NR.val(r:NR K ρ H es c)(k:NK):RO K ρ H (valN es k) (m_ c (sF k)):=by
 induction r with|nil=>exact gi|@cons p q ps qs h t ih=>
  let⟨l,_,g⟩:=h;unfold m_ valN;rw[c5,c5,<- l,DV];by_cases e:p.1=k
  ·rw[cz e];exact g
  ·rw[bc e];exact ih
def NX.val(r:NX es xs)(k:NK):rb (valN es k) ((l_ xs k).map (·.2)):=by
 induction r with|nil=>exact gi|@cons p q ps qs h t ih=>
  let⟨g,_,c⟩:=h;unfold l_ valN;rw[c5,c5,<- g];by_cases e:p.1=k
  ·rw[cz e];exact c
  ·rw[bc e];exact ih
def NX.put(r:NX es xs)(k:NK)(b:ak)(c:RelV v u):NX (putN es k b v) (lX xs k b u):=by
 let e:(es.any λp=>decide (p.1=k))=(l_ xs k).isSome:=by
  clear c
  induction r with|nil=>rfl|@cons p q ps qs h t ih=>
   rw[eU,ih];unfold l_;rw[c5,<- h.1];by_cases e:p.1=k
   ·rw[cz e];rfl
   ·rw[bc e];rfl
 unfold putN lX;rw[e];by_cases q:(l_ xs k).isSome=true
 ·rw[aH q,aH q];clear q e
  induction r with|nil=>exact .nil|@cons p q ps qs h t ih=>
   rw[aV,aV];refine .cons ?_ ih;unfold uE;by_cases e:p.1=k
   ·rw[aH e,aH (h.1.symm.trans e)];exact⟨h.1,h.2.1,c⟩
   ·rw[aD e,aD (λz=>e (h.1.trans z))];exact h
 ·rw[aD q,aD q];exact oz r ⟨rfl,rfl,c⟩
def NR.put(r:NR K ρ H es c)(k:NK)(b:ak)(l:dE K ρ H (.ref b) (sF k))(g:dE K ρ H v d):NR K ρ H (putN es k b v) (mK c (sF k) d):=by
 let e:(es.any λp=>decide (p.1=k))=c.any λp=>oM p.1 (sF k):=by
  clear l g
  induction r with|nil=>rfl|@cons p q ps qs h t ih=>rw[eU,eU,ih,<- h.1,DV]
 unfold putN mK;rw[e];clear e;by_cases e:(c.any λp=>oM p.1 (sF k))=true
 ·rw[aH e,aH e];clear e
  induction r with|nil=>exact .nil|@cons p q ps qs h t ih=>
   rw[aV,aV];refine .cons ?_ ih;by_cases e:p.1=k
   ·let z:oM q.1 (sF k)=true:=by rw[<- h.1,DV];exact cz e
    rw[aH e,aH z];exact⟨h.1,h.2.1,g⟩
   ·let z:¬ oM q.1 (sF k)=true:=by rw[<- h.1,DV,bc e];exact bE
    rw[aD e,aD z];exact h
 ·rw[aD e,aD e];exact oz r ⟨rfl,l,g⟩
theorem NR.up(x:Up ρ H ρ1 g)(r:NR K ρ H es c):NR K ρ1 g es c:=eZ.mapS r λ_ _ z=>⟨z.1,z.2.1.up x,z.2.2.up x⟩
theorem NR.length(r:NR K ρ H es c):es.length=c.length:=cV r
def KG(es:List (NK×ak×V))(k:NK)(b:ak)(v:V):(putN es k b v).length<=es.length+1:=by
 unfold putN;split
 ·rw[af];ext
 ·rw[aC,b8,fU];ext
def V4{n:Nat}(h:getDc n st=.ok p c):c=st/\st[n]?=some (.dct p.1 p.2):=by
 unfold getDc at h;cases e:st[n]? with|none=>rw[e]at h;cases h|some o=>
  rw[e]at h;cases o with|dct b a6=>cases h;exact⟨rfl,rfl⟩|_=>cases h
theorem aT.getDc{n:Nat}(h:aT K ρ H (MM.getDc n st) R)(s:SR K ρ H st):∃b c,st[n]?=some (.dct b c)/\R (b,c) st ρ H:=by
 cases e:MM.getDc n st with
 |ok xs s'=>
  let⟨rfl,q⟩:=V4 e;rw[e]at h;exact⟨xs.1,xs.2,q,h ρ H Ex.refl s⟩
 |exc _ _=>rw[e]at h;exact h.elim|bad=>rw[e]at h;exact h.elim
def Sb{b:Bool}{Q:ag->am->Prop}{A:bI}(hu:A.units+2 < cS)(I:Inv X ar σ H s)(g:n9 X.K ρ H a (.dct b C))(Y:dE X.K ρ H y k)(hk:oY b k=true)(hl:m_ C k=some d)(U:RelV y u)(h:∀v B G,Inv X ar σ H G->dE X.K ρ H v d->RelV v B->Q B G):aG (aY X.prog X.w) A (nU (.ref a) u) Q E s:=by
 cases b with
 |false=>
  let⟨es,e,r⟩:=g;let⟨k,rfl⟩:=Jo hk;cases Jz Y;let q:=KR.val r k;rw[hl]at q;let⟨v,O,J⟩:=q.some_of;exact UX () I (by have:=w_.k (k:=k) e;rw[O]at this;exact this) U λB G I' l=>h v B G I' J l
 |true=>
  let⟨es,e,r⟩:=g;let⟨k,rfl⟩:=EY hk;let q:=NR.val r k;rw[hl]at q;let⟨v,O,J⟩:=q.some_of;let⟨_,hd,xs,rx,dd,de⟩:=zB I e r;let⟨c,e2,e3,hc⟩:=BH I Y U;subst e3;let⟨B,hw,l⟩:=rb.some_of (v:=v) (o:=(l_ xs k).map (·.2)) (by rw[<- O];exact NX.val rx k);let⟨p,hp,L⟩:=ck.mp hw;refine Dl (knd:=AG X) (show A.in1.units+1 < cS from hu) hc dd hp ?_;rw[L];exact h v B _ (I.tok _) J l
def QdR{b:Bool}{Q:ag->am->Prop}{A:bI}(hu:A.units+2 < cS)(I:Inv X ar σ H s)(g:n9 X.K ρ H a (.dct b l))(B:dE X.K ρ H y k)(C:oY b k=true)(v:RelV y u)(h:∀o,Inv X ar σ H o->Q (.bool (!(m_ l k).isSome)) o):aG (aY X.prog X.w) A (dH .NotIn u (.ref a)) Q E s:=by
 cases b with
 |false=>
  let⟨es,e,r⟩:=g;let⟨k,rfl⟩:=Jo C;cases Jz B;rw[<- (KR.val r k).isSome_eq]at h;exact XV () I (w_.k (k:=k) e) v h
 |true=>
  let⟨es,e,r⟩:=g;let⟨k,rfl⟩:=EY C;rw[<- (NR.val r k).isSome_eq]at h;let⟨_,hd,xs,G,O,Y⟩:=zB I e r;let⟨c,U,L,J⟩:=BH I B v;subst L;refine Hw (knd:=AG X) (show A.in1.units+1 < cS from hu) J hd O ?_;let q:=(NX.val G k).isSome_eq;rw[pX]at q;rw[<- q];exact h _ (I.tok _)
def Vg{n:Nat}{b:Bool}{Q:Unit->am->Prop}{A:bI}(hu:A.units+2 < cS)(I:Inv X ar σ H s)(sr:SR X.K ρ H st)(O:ρ[n]?=some a)(hn:st[n]?=some (.dct b l))(J:dE X.K ρ H y k) (hk:oY b k=true) (hl:l.length < sizeLine) (rv:dE X.K ρ H v d) (ry:RelV y u) (rr:RelV v r')(h:∀Y G,Inv X ar σ Y G->SR X.K ρ Y (st.set n (.dct b (mK l k d)))->Ex ρ H ρ Y->Q Unit.unit G):aG (aY X.prog X.w) A (ph (.ref a) u r') Q E s:=by
 let B:=(ac.mp hn).1;let g:=sr.ob n a _ O hn;cases b with
 |false=>
  let⟨es,e,r⟩:=g;let⟨k,rfl⟩:=Jo hk;cases Jz J;let w:=sr.putO (o':=.dct false (mK l (pD k) d)) (u':=.dK (L2.ng es k v)) B O e (by show (1:Nat)≠3;decide) rfl ⟨_,kL,(KR.put r k rv).up ?_⟩
  ·exact Ts () I (zY.k (k:=k) e (by rw[KR.length r];exact hl)) ry rr λG c=>h _ G c w.1 w.2
  ·refine⟨⟨[],by simp⟩,λc o L q=>?_,λc o q=>?_⟩
   ·rw[fS λz=>by subst z;rw[e]at q;cases q;exact nomatch L];exact q
   ·by_cases z:c=a
    ·subst z;rw[e]at q;cases q;exact⟨_,kL,rfl⟩
    ·exact⟨o,by rw[fS z];exact q,rfl⟩
 |true=>
  let⟨es,e,r⟩:=g;let⟨k,rfl⟩:=EY hk;let⟨_,hd,xs,rx,dd,de⟩:=zB I e r;let⟨c,e2,e3,hc⟩:=BH I J ry;subst e2 e3;let w:=sr.putO (o':=.dct true (mK l (sF k) d)) (u':=kI a (putN es k c v)) B O e (by show (2:Nat)≠3;decide) rfl ⟨_,kL,(NR.put r k c J rv).up ?_⟩
  ·let hz : xs.length <= sizeLine := by rw[<- cV rx,NR.length r];ext
   refine VF (knd:=AG X) (show A.in1.units+1 < cS from hu) hc dd de hz λh' C U g=>h _ _ ?_ w.1 w.2;let l:∃q,h'.get? a=some q:=let ⟨q,_,_,hq,_⟩:=C;⟨q,hq⟩
   refine DY I (by rw[e];exact gi) g l (Dx ?_ hd (NX.put rx k c rr) C U);have:=KG es k c v;rw[NR.length r]at this;ext
  ·refine⟨⟨[],by simp⟩,λc o L q=>?_,λc o q=>?_⟩
   ·rw[fS λz=>by subst z;rw[e]at q;cases q;exact nomatch L];exact q
   ·by_cases z:c=a
    ·subst z;rw[e]at q;cases q;exact⟨_,kL,rfl⟩
    ·exact⟨o,by rw[fS z];exact q,rfl⟩
end
noncomputable abbrev Ad:ag->am->Prop:=λ_ _=>False
noncomputable def A7(g:List Expr)(env:Env):Sem Bool:=forIn g true λc r=>if r=true then do let ok <- isTrue c env (eval c env);pure (m6 ok) else pure (m6 r)
section
variable{R:Dg->am->Prop}
def QdT{l c iter:Expr}{g:List Expr}{scope:du}{pos:Pos}{u o:ag}{env:Env}(I:Nat->am->Prop)(q:∀n s,I n s->aG (aY prog w) A (ic u) (λr s₁=>match r with
   |none=>R (.ok .next) s₁
   |some v => aG (aY prog w) A (py c u v) (λ_ s₁' => aG (aY prog w) A (pf c env v) (λ_ s₂ =>
     aG (aY prog w) A (A7 g env) (λok s₃=>
      if ok=true then aG (aY prog w) A (eval l env) (λx s₄=>
       aG (aY prog w) A (call (.builtin "list.append") [o,x]) (λ_ s₅=>∃m,m < n/\I m s₅) Ad s₄) Ad s₃
      else ∃m,m < n/\I m s₃) Ad s₂) Ad s₁') Ad s₁) Ad s)
  (n:Nat) (h:I n s):iG (aY prog w) A (.compLoop (.ListComp l [⟨c,iter,g,0⟩] scope pos) 0 u o env) R s:=by
 refine codeAny_loop rfl I (λn s B=>?_) n h
 show aG _ A ((compTurn (.ListComp l [⟨c,iter,g,0⟩] scope pos) 0 u o env).onRaise (λx=>do noteFrame x env;theTreesLotGoes x)) _ _ s;refine wpAny_noted ?_;rw[compTurn_list];refine ab (xl (ab (fM (q n s B) (λr s₁ h₁=>?_) λ_ _ h'=>h'.elim)));cases r with|none=>exact ai h₁|some v=>
  refine ab (fM h₁ (λ_ s₁' h₁'=>?_) λ_ _ h'=>h'.elim);refine ab (fM h₁' (λ_ s₂ h₂=>ab (fM h₂ (λok s₃ h₃=>?_) λ_ _ h'=>h'.elim)) λ_ _ h'=>h'.elim);cases ok with|false=>exact ai ⟨rfl,h₃⟩|true=>
   exact ab (ab (fM h₃ (λx s₄ h₄=>ab (fM h₄ (λ_ s₅ h₅=>ai (ai ⟨rfl,h₅⟩)) λ_ _ h'=>h'.elim)) λ_ _ h'=>h'.elim))
end
noncomputable def iT:List (Str×dG)->List (Str×ak)->List (Str×ak)->List (Str×ak)
 |[],_,acc=>acc| (n,k)::r,cells,acc=>iT r cells (if k == .free then (match cells.lookup n with|some c=>(n,c)::acc|none=>acc) else acc)
theorem JW{env:Env}: ∀(names:List (Str×dG))(acc:List (Str×ak)),(∀x,(x,bG)∈names->∃c,env.cells.lookup x=some c) ->(forIn names acc λ(x:Str×dG)r=>if (x.2 == bG)=true then (do let a <- cellOf env x.1;pure (m6 ((x.1,a)::r)):Sem _) else pure (m6 r))=(pure (iT names env.cells acc):Sem _)
 |[],acc,_=>rfl
 | (n,k)::r,acc,h=>by
  rw[i7];by_cases l:(k == bG)=true
  ·let e:k=.free:=by simpa using l
   subst e;let⟨c,o⟩:=h n cP;let q:cellOf env n=pure c:=by unfold cellOf;rw[o]
   simp only[beq_self_eq_true,if_true,q];unfold iT;simp only[beq_self_eq_true,if_true,o];exact JW r ((n,c)::acc) λx g=>h x (bO _ g)
  ·simp only[l,if_false];unfold iT;simp only[l,if_false];exact JW r acc λx g=>h x (bO _ g)
def MR{scope:du}{env:Env}(h:∀x,(x,bG)∈scope.names->∃c,env.cells.lookup x=some c):ny scope env=pure (iT scope.names env.cells []):=by let q:=JW (env:=env) scope.names [] h;simp only[ny];exact c_ (λm=>m >>= λg=>pure g) q
def wT{α:Type}{v:α}{r:List (Str × α)}(h:x≠y):Hz x ((y,v)::r)=r.lookup x:=by rw[kX];have:(x == y)=false:=beq_eq_false_iff_ne.mpr h;rw[this]
def lookup_cons_self{α:Type}{v:α}{r:List (Str × α)}:Hz x ((x,v)::r)=some v:=by rw[kX,beq_self_eq_true]
theorem wg:∀(names:List (Str×dG))(acc:List (Str×ak)),(iT names cells acc).lookup x=some c->cells.lookup x=some c\/acc.lookup x=some c
 |[],acc,h=>.inr h
 | (n,k)::r,acc,h=>by
  unfold iT at h;rcases wg r _ h with q|q
  ·exact .inl q
  ·split at q
   ·split at q
    ·rename_i o l;by_cases g:x=n
     ·subst g;rw[lookup_cons_self]at q;cases q;exact .inl l
     ·rw[wT g]at q;exact .inr q
    ·exact .inr q
   ·exact .inr q
theorem F9{cells:List (Str×ak)}(l:cells.lookup x=some c):∀(names:List (Str×dG))(acc:List (Str×ak)),((x,bG)∈names\/acc.lookup x=some c)->(∀d,acc.lookup x=some d->d=c)->(iT names cells acc).lookup x=some c
 |[],acc,h,_=>by
  rcases h with h|h
  ·cases h
  ·exact h
 | (n,k)::r,acc,h,ha=>by
  unfold iT;by_cases o:x=n
  ·subst o;by_cases q:(k == bG)=true
   ·rw[aH q,l];exact F9 l r _ (.inr lookup_cons_self) λd hd=>by rw[lookup_cons_self]at hd;cases hd;rfl
   ·rw[aD q];refine F9 l r _ ?_ ha;rcases h with h|h
    ·rcases aR.mp h with e|e
     ·cases e;exact bh rfl q
     ·exact .inl e
    ·exact .inr h
  ·let step : ∀g, g.lookup x = acc.lookup x -> (iT r cells g).lookup x = some c := λg e => by
     refine F9 l r g ?_ (by rw[e];exact ha);rcases h with h|h
     ·rcases aR.mp h with z|z
      ·cases z;exact bh rfl o
      ·exact .inl z
     ·exact .inr (by rw[e];exact h)
   refine step _ ?_;split
   ·split
    ·exact wT o
    ·rfl
   ·rfl
theorem lF:∀(names:List (Str×dG))(n:Nat)(acc:List (Str×ak)),(bR n names acc).lookup x=some c->n<=c\/acc.lookup x=some c
 |[],_,_,h=>.inr h
 | (y,k)::r,n,acc,h=>by
  unfold bR at h;split at h
  ·rcases lF r (n+1) _ h with q|q
   ·exact .inl ()
   ·by_cases g:x=y
    ·subst g;rw[lookup_cons_self]at q;cases q;exact .inl (aw _)
    ·rw[wT g]at q;exact .inr q
  ·exact lF r n acc h
theorem Mf: ∀(names:List (Str×dG))(n:Nat)(acc:List (Str×ak)),(∀x y c,acc.lookup x=some c->acc.lookup y=some c->x=y)->(∀x c,acc.lookup x=some c->c < n) ->∀x y c,(bR n names acc).lookup x=some c->(bR n names acc).lookup y=some c->x=y
 |[],_,_,hi,_=>hi
 | (z,k)::r,n,acc,hi,hb=>by
  unfold bR;split
  ·refine Mf r (n+1) _ (λx y c q g=>?_) (λx c h=>?_)
   ·by_cases o:x=z
    ·subst o;rw[lookup_cons_self]at q;cases q;by_cases l:y=x
     ·exact l.symm
     ·rw[wT l]at g;exact bh (hb y _ g) (cM _)
    ·rw[wT o]at q;by_cases l:y=z
     ·subst l;rw[lookup_cons_self]at g;cases g;exact bh (hb x _ q) (cM _)
     ·rw[wT l]at g;exact hi x y c q g
   ·by_cases o:x=z
    ·subst o;rw[lookup_cons_self]at h;cases h;exact iN _
    ·rw[wT o]at h;exact m7 (hb x c h)
  ·exact Mf r n acc hi hb
theorem lM:∀(names:List (Str×dG))(h:bK)(acc:List (Str×ak)),(bR h.objs.size names acc).lookup x=some c->acc.lookup x=some c\/((xT h names).IsCell c none/\h.objs.size<=c)
 |[],_,_,q=>.inl q
 | (y,k)::r,h,acc,q=>by
  unfold bR at q;unfold xT;split at q
  ·rename_i g;rw[aH g];rw[<- cA h { cls:=.type "cell",data:=.cell none }]at q;rcases lM r _ _ q with z|z
   ·by_cases l:x=y
    ·subst l;rw[lookup_cons_self]at z;cases z;refine .inr ⟨?_,aw _⟩;refine⟨{ cls:=.type "cell",data:=.cell none },mN r _ _ _ (ay _ rfl),rfl⟩
    ·rw[wT l]at z;exact .inl z
   ·refine .inr ⟨z.1,?_⟩;have:=z.2;rw[cA]at this;ext
  ·rename_i g;rw[aD g];exact lM r h acc q
theorem Mx:∀(names:List (Str×dG))(n:Nat)(acc:List (Str×ak)),(x,fI)∉names->(bR n names acc).lookup x=acc.lookup x
 |[],_,_,_=>rfl
 | (y,k)::r,n,acc,h=>by
  unfold bR;split
  ·rename_i g;let e:k=.cell:=by simpa using g
   subst e;let c:x≠y:=λz=>h (by rw[z];exact cP);rw[Mx r (n+1) _ λz=>h (bO _ z),wT c]
  ·exact Mx r n acc λz=>h (bO _ z)
theorem QQ{α β:Type}(f:Str->α->β)(x:Str):∀(l:List (Str × α)),(l.map λp=>(p.1,f p.1 p.2)).lookup x=(l.lookup x).map (f x)
 |[]=>rfl
 | (y,v)::r=>by
  by_cases c:x=y
  ·subst c;rw[aV,lookup_cons_self,lookup_cons_self];rfl
  ·rw[aV,wT c,wT c];exact QQ f x r
def DC(scope:du)(env:Env)(x:Str):(kE scope env).names.lookup x=(scope.names.lookup x).map λk=>if (k == bG&&env.scope.kind == .function&&env.kindOf x == some .cell)=true then .cell else k:=by
 let e:(kE scope env).names=scope.names.map λp=>(p.1,(λ(n:Str)k=>if (k == bG&&env.scope.kind == .function&&env.kindOf n == some .cell)=true then fI else k) p.1 p.2):=by show scope.names.map _=_;congr 1;funext p;let⟨n,k⟩:=p;dsimp only;split<;>rfl
 rw[e];exact QQ (λ(n:Str)k=>if (k == bG&&env.scope.kind == .function&&env.kindOf n == some .cell)=true then fI else k) x scope.names
def Qd2{M:DZ}{s:am}{env:Env}{Q:Env->am->Prop}(h:Q { scope:=scope,locals:=s.heap.objs.size,globals:=globals,cells:=bR (s.heap.objs.size+1) scope.names cl,qual:=qual,func:=none,code:=env.code,frame:=env.frame,builtins:=env.builtins } { s with heap:=xT (s.heap.push { cls:=.type "dict",data:=.dict #[] }) scope.names }):aG M A (qy scope globals cl [] qual none .none (some env)) Q E s:=by
 simp only[qy,gW,if_true];refine ab (wpAny_alloc ?_);refine ab (wpAny_layCells _ (λname kind cells=>by cases c:kind == fI<;>simp[c]) _ _ _ _ ?_);rw[show ({ s with heap:=s.heap.push { cls:=.type "dict",data:=.dict #[] } }:am).heap.objs.size=s.heap.objs.size+1 from cA ..];exact ab (ai (ai h))
def pq(X:Cx)(N:List Str)(scope:du)(fp:List ak)(s:am)(H:Hp):Cx where
 prog:=X.prog
 w:=X.w
 K:=X.K
 mg:=X.mg
 base:=X.base
 A:=X.A
 N:=N
 s₀:=s
 H₀:=H
 env:=compEnvC scope (bR (s.heap.objs.size+1) scope.names (iT scope.names X.env.cells [])) s.heap.objs.size X.env
 outer:=X.stack
 stack:=X.stack
 ex:=fp
 fn:=λx=>decide (scope.names.lookup x=some .local\/scope.names.lookup x=some .cell)
 calm:=X.calm
 pn:=[]
 xe:=Ad
structure iy(X:Cx)(scope:du):Prop where
 kind:scope.kind=.function
 names:∀x∈scope.names,x.2=.local->scope.names.lookup x.1=some .local
 free:∀x,(x,bG)∈scope.names->X.env.kindOf x=some .cell\/X.env.kindOf x=some .free
 once:∀x,(x,bG)∈scope.names->(x,fI)∉scope.names
 own:∀x,(x,bG)∈scope.names->scope.names.lookup x≠some .local
noncomputable def z0(n:Nat)(ix:List Nat)(σ:St):St:=bQ n none++ix.map λi=>(σ[i]?).join
structure kG(X:Cx)(scope:du)(N:List Str)(n:Nat)(ix:List Nat):Prop where
 len:N.length=n+ix.length
 cap:∀(j i:Nat)(x:Str),ix[j]?=some i->N[n+j]?=some x->X.N[i]?=some x/\scope.names.lookup x=some .free
theorem uT:∀(names:List (Str×dG))(acc:List (Str×ak)),(iT names cells acc).lookup x=some c->(x,bG)∈names\/acc.lookup x=some c
 |[],acc,h=>.inr h
 | (n,k)::r,acc,h=>by
  unfold iT at h;rcases uT r _ h with q|q
  ·exact .inl (bO _ q)
  ·split at q
   ·rename_i l;let e:k=.free:=by simpa using l
    subst e;split at q
    ·by_cases g:x=n
     ·subst g;exact .inl cP
     ·rw[wT g]at q;exact .inr q
    ·exact .inr q
   ·exact .inr q
def Qd3{scope:du}(h:(iT scope.names cells []).lookup x=some c)(g:scope.names.lookup x=some .local\/scope.names.lookup x=some .cell)(S:iy X scope):False:=by
 rcases uT _ _ h with q|q
 ·rcases g with z|z
  ·exact S.own x q z
  ·exact S.once x q (a_ z)
 ·cases q
section
variable{X:Cx}{ar:List (ak×Obj)}{σ:St}{H:Hp}{s:am}{scope:du}{fp:List ak}
def Gi(I:Inv X ar σ H s)(h:(iT scope.names X.env.cells []).lookup x=some c):X.env.cells.lookup x=some c/\c < s.heap.objs.size/\(∃v,s.heap.IsCell c v)/\H c=none:=by
 rcases wg _ _ h with q|q
 ·let⟨v,z⟩:=I.cell x c q;exact⟨q,z.lt,⟨v,z⟩,I.freeC x c q⟩
 ·cases q
def Y7(I:Inv X ar σ H s)(S:iy X scope)(l:∀b∈fp,o_ X ar H b)(B:∀b∈fp,b < s.heap.objs.size):(pq X N scope fp s H).Ok:=by
 let inj:∀x y c,(bR (s.heap.objs.size+1) scope.names (iT scope.names X.env.cells [])).lookup x=some c->(bR (s.heap.objs.size+1) scope.names (iT scope.names X.env.cells [])).lookup y=some c->x=y:=
  Mf scope.names _ _ (λx y c h1 h2=>I.ok.inj x y c (Gi I h1).1 (Gi I h2).1) λx c h=>m7 (Gi I h).2.1
 refine⟨I.ok.mod,S.kind,I.ok.glob,I.ok.blt,aw _,inj,λx hx=>?_,λx c hf C=>?_,I.ok.hd,I.ok.frames,.inl rfl,λb v=>?_,I.bs,cW I.ok.bsz I.sz,λb o e v=>?_,λb v z=>?_,I.stack,I.stkFree⟩
 ·let g:(kE scope X.env).names.lookup x=some .cell\/(kE scope X.env).names.lookup x=some .free:=hx;rw[DC]at g;cases e:scope.names.lookup x with
  |none=>rw[e]at g;rcases g with z|z<;>cases z
  |some k=>
   refine iP.mp (gQ scope.names _ _ ?_);cases k with
   |cell=>exact .inl e|free=>
    let Q:=a_ e;let⟨c,C⟩:=I.ok.has x (S.free x Q);exact .inr (by rw[F9 C scope.names [] (.inl Q) λd hd=>by cases hd];rfl)
   |_=>
    rw[e]at g;rcases g with z|z<;>(simp at z)
 ·let u:(bR (s.heap.objs.size+1) scope.names (iT scope.names X.env.cells [])).lookup x=some c:=C;rcases lF _ _ _ u with q|q
  ·exact Nat.le_of_succ_le q
  ·exfalso
   let E:scope.names.lookup x=some .local\/scope.names.lookup x=some .cell:=of_decide_eq_true hf;exact Qd3 q E S
 ·let⟨Y,O,L,J,G,U⟩:=l b v;refine⟨ba (B b v),λx c C z=>?_⟩;let u:(bR (s.heap.objs.size+1) scope.names (iT scope.names X.env.cells [])).lookup x=some c:=C;rcases lF _ _ _ u with q|q
  ·rw[z]at q;exact bh (bb (m7 (B b v)) q) (cM _)
  ·exact G x c (Gi I q).1 z
 ·let⟨Y,O,L,J,G,U⟩:=l b v;rcases J with z|z
  ·exact I.ok.noex b o e z
  ·exact bh (bb (bb (aL e) I.ok.bsz) z) (cM _)
 ·let⟨Y,O,L,J,G,U⟩:=l b v;rcases aR.mp (I.stkSub b z) with q|q
  ·exact O q
  ·exact L q
noncomputable abbrev si(h:bK)(scope:du):bK:=xT (h.push { cls:=.type "dict",data:=.dict #[] }) scope.names
def QO(h:bK)(scope:du):∀b o,h.get? b=some o->(si h scope).get? b=some o:=λb o e=>mN _ _ b o (aj _ e)
def X5{n:Nat}(I:Inv X ar σ H s)(S:iy X scope)(T:kG X scope N n ix)(O:∀b∈fp,o_ X ar H b)(L:∀b∈fp,b < s.heap.objs.size):Inv (pq X N scope fp s H) [] (z0 n ix σ) H { s with heap:=si s.heap scope }:=by
 let B:=QO s.heap scope;let G:(si s.heap scope).Ns s.heap.objs.size λ_=>none:=(Bo s.heap (.type "dict")).keeps (mN _ _);let cells : ∀x c, (bR (s.heap.objs.size+1) scope.names (iT scope.names X.env.cells [])).lookup x = some c ->
   (∃v,(si s.heap scope).IsCell c v)/\H c=none:=λx c h=>by
  let h':(bR (s.heap.push { cls:=.type "dict",data:=.dict #[] }).objs.size scope.names (iT scope.names X.env.cells [])).lookup x=some c:=by rw[cA];exact h
  rcases lM _ _ _ h' with q|⟨q,z⟩
  ·let⟨_,_,⟨v,c⟩,hn⟩:=Gi I q;exact⟨⟨v,c.keeps B⟩,hn⟩
  ·refine⟨⟨none,q⟩,I.hok.fresh ?_⟩;rw[cA]at z;ext
 refine⟨Y7 I S O L,rfl,I.bare,Un.kept B,⟨_,G,λi x v h1 h2 h3=>?_⟩,λx c h=>(cells x c h).1,I.hok.fresh (aw _),λx c h=>(cells x c h).2,λp hp=>bh (show p∈([]:List (ak×Obj)) from hp) (by simp),I.hok.kept B,?_⟩
 ·let U:N[i]?=some x:=h1;let g:(bQ n none++ix.map λi=>(σ[i]?).join)[i]?=some (some v):=h2;let hi:n<=i:=sw λz=>by rw[ao (by simpa using z),fD]at g;split at g<;>cases g
  rw[aE (by simpa using hi),fw,av]at g;cases e:ix[i-n]? with|none=>rw[e]at g;cases g|some k=>
   rw[e]at g;let C:(σ[k]?).join=some v:=aM g;let O:σ[k]?=some (some v):=by
    cases q:σ[k]? with|none=>rw[q]at C;cases C|some o=>rw[q]at C;exact c_ some C
   let⟨hN,l⟩:=T.cap (i-n) k x e (by rw[show n+(i-n)=i by ext];exact U);let J:=a_ l;let Y:=S.free x J;let⟨m,hn,L⟩:=I.loc;let⟨u,G,H⟩:=L k x v hN O (by
    rcases Y with z|z
    ·exact .inr (.inl z)
    ·exact .inr (.inr z))
   let E:∃c,X.env.cells.lookup x=some c/\s.heap.IsCell c (some u):=by
    rcases H with ⟨z,_⟩|⟨_,c,Q,q⟩
    ·rcases Y with y|y<;>(rw[y]at z;cases z)
    ·exact⟨c,Q,q⟩
   let⟨c,Q,q⟩:=E;refine⟨u,G,.inr ⟨?_,c,?_,q.keeps B⟩⟩
   ·show (kE scope X.env).names.lookup x=some .cell\/(kE scope X.env).names.lookup x=some .free;rw[DC,l,dR];by_cases h:(bG == bG&&X.env.scope.kind == .function&&X.env.kindOf x == some .cell)=true
    ·rw[aH h];exact .inl rfl
    ·rw[aD h];exact .inr rfl
   ·show (bR (s.heap.objs.size+1) scope.names (iT scope.names X.env.cells [])).lookup x=some c;rw[Mx _ _ _ (S.once x J)];exact F9 Q scope.names [] (.inl J) λd hd=>by cases hd
 ·show (bQ n none++ix.map λi=>(σ[i]?).join).length=N.length;rw[aC,fw,af,T.len]
def wn(C:TI)(n:Nat)(ix:List Nat)(g:TG)(E:TT)(G:TE):TE:=λσ H Q=>C σ H λJ B=>∀l,B l=none->∃W:Nat->Nat->St->Hp->Prop,(∃m,W 0 m (z0 n ix σ) (fE B l (.lst []))) /\
 ∀i m σ' h,W i m σ' h->(J.stop i h/\Q (.ref l) h)\/(J.go i h/\∀x u,J.yld i h x u->g x σ' u λσ2 I=>E σ2 I λb q=>
  if b=true then G σ2 q λv o=>∃ys,o l=some (.lst ys)/\ys.length < sizeLine/\∃c,c < m/\W (i+1) c σ2 (fE o l (.lst (ys++[v]))) else ∃c,c < m/\W (i+1) c σ2 q)
def wX(X:Cx)(c:List Expr)(g:TT):Prop:=
 ∀(ar:List (ak×Obj))(s:am)(σ:St)(H:Hp)(Q:Bool->Hp->Prop),Inv X ar σ H s->g σ H Q->aG (aY X.prog X.w) X.A (A7 c X.env) (TP X ar σ Q) X.xe s
def Qd8:wX X [] (λ_ H Q=>Q true H):=λar s σ H Q I h=>wpAny_tests_nil ⟨H,I,h⟩
def YB(h:PT X c g):wX X [c] g:=λar s σ H Q I q=>wpAny_tests_one (h ar s σ H Q I q)
structure wj(X:Cx)(ar:List (ak×Obj))(C:ak)(H:Hp)(s:am):Prop where
 ns:∃m,s.heap.Ns C m
 free:H C=none
 loc:C≠X.env.locals
 cell:∀x c,X.env.cells.lookup x=some c->c≠C
 sz:X.s₀.heap.objs.size<=C
 pin:∀p∈X.pn++ar,p.1≠C
def wj.go(c:wj X ar C H s)(I:Inv X ar σ H s)(g:cR C s.heap h'):Inv X ar σ H { s with heap:=h' }:=
 I.turned (t':=s.toks) (λb o h e=>(g.2 b h).trans e) c.free c.loc (.inr c.sz) c.cell c.pin
def Oj{n:Nat}(hc:X.calm=true) (S:iy X scope) (T:kG X scope N n ix) (hi:PI X B iter wi)(blk:∀(fp:List ak)(s:am)(H:Hp),PG (pq X N scope fp s H) B g/\wX (pq X N scope fp s H) ifs tt/\PE (pq X N scope fp s H) elt te)(hs:∀x,fL iter X.env x=pure x) (I:Inv X ar σ H s) (h:wn wi n ix g tt te σ H QH)(fin:∀(l C:ak)(G:Hp)(Y:am),Inv X ar σ G Y->QH (.ref l) G->wj X ar C G Y->compPost (aY X.prog X.w) X.A X.xe use Q (.ref l) C (.ok .next) Y):aG (aY X.prog X.w) X.A (comprehension (.ListComp elt [⟨B,iter,ifs,0⟩] scope pos) scope X.env (firstIterPos [⟨B,iter,ifs,0⟩] pos) (newList []) false (eval iter X.env) use) Q X.xe s:=by
 let hclos:ny scope X.env=pure (iT scope.names X.env.cells []):=MR λx hx=>I.ok.has x (S.free x hx);refine wpAny_comprehension_free rfl hs hclos S.kind S.names ?_;refine fT (hi ar s σ H _ I h) λv s1 h1=>fT h1 λitv U h2=>?_;let⟨it,fp,tn,J,H2,rfl,I2,TT,st2,f2,rest⟩:=h2;refine b9 (hd:=by size_fits) ?_;let hf2:H2 U.heap.objs.size=none:=I2.hok.fresh (aw _);let⟨W,⟨m0,w0⟩,turn⟩:=rest _ hf2;let fl:∀b∈fp,b < U.heap.objs.size:=λb E=>by let⟨o,e,_⟩:=TT.obj _ _ st2 b E;exact aL e
 let f3:∀b∈fp,o_ X ar (fE H2 U.heap.objs.size (.lst [])) b:=λb E=>by let⟨f0,fr⟩:=f2 b E;refine⟨?_,fr⟩;rw[fS (ba (fl b E))];exact f0
 let I3:Inv X ar σ (fE H2 U.heap.objs.size (.lst [])) { U with heap:=U.heap.push { cls:=.type "list",dict:=none,data:=.seq ([]:List ag).toArray } }:=
  I2.laid (t':=U.toks) (λb o e=>aj _ e) (aw _) ⟨bU _,[],0,.nil,ay _ rfl⟩
 let tn3:tn 0 (U.heap.push { cls:=.type "list",dict:=none,data:=.seq ([]:List ag).toArray }):=TT.keep _ _ _ st2 λb E o e=>aj _ e;let fl3:∀b∈fp,b < (U.heap.push { cls:=.type "list",dict:=none,data:=.seq ([]:List ag).toArray }).objs.size:=λb E=>by rw[cA];exact m7 (fl b E)
 generalize U.heap.objs.size=l at *;generalize hs3:({ U with heap:=U.heap.push { cls:=.type "list",dict:=none,data:=.seq ([]:List ag).toArray } }:am)=L at *;let e3:U.heap.push { cls:=.type "list",dict:=none,data:=.seq ([]:List ag).toArray }=L.heap:=by rw[<- hs3]
 rw[e3]at tn3 fl3;generalize fE H2 l (.lst [])=O at *;refine Qd2 ?_;let I4:=X5 (N:=N) (n:=n) (ix:=ix) I3 S T f3 fl3;let⟨bg,bt,be⟩:=blk fp L O;let tn4:tn 0 (si L.heap scope):=TT.keep _ _ _ tn3 λb E o e=>QO _ _ _ _ e;let fr4:∀b∈fp,O b=none:=λb E=>(f3 b E).1
 show iG (aY X.prog X.w) X.A (.compStart (.ListComp elt [⟨B,iter,ifs,0⟩] scope pos) 0 (.ref it) (.ref l) (pq X N scope fp L O).env) (compPost (aY X.prog X.w) X.A X.xe use Q (.ref l) L.heap.objs.size) { L with heap:=si L.heap scope };let fpx:∀{σ':St}{G:Hp}{Y:am},Inv (pq X N scope fp L O) [] σ' G Y->(∀b∈fp,G b=none)->∀b∈fp,o_ (pq X N scope fp L O) [] G b:=λI' hn b E=>by have q:=I'.ok.exf b E;exact⟨hn b E,q.1,I'.ok.exfs b E,.inl E,q.2,λp hp=>bh (show p∈([]:List (ak×Obj)) from hp) (by simp)⟩
 let hc':(pq X N scope fp L O).calm=true:=hc;let loop:iG (aY X.prog X.w) X.A (.compLoop (.ListComp elt [⟨B,iter,ifs,0⟩] scope pos) 0 (.ref it) (.ref l) (pq X N scope fp L O).env) (compPost (aY X.prog X.w) X.A X.xe use Q (.ref l) L.heap.objs.size) { L with heap:=si L.heap scope }:=by
  refine QdT (λk Y=>∃i σ' G,Inv (pq X N scope fp L O) [] σ' G Y/\tn i Y.heap/\(∀b∈fp,G b=none)/\W i k σ' G) ?_ m0 ⟨0,_,O,I4,tn4,fr4,w0⟩
  rintro k s5 ⟨i,σ5,H5,I5,tn5,fr5,w5⟩
  rcases turn i k σ5 H5 w5 with ⟨stop,q⟩|⟨go,step⟩
  ·refine fT (TT.done (pq X N scope fp L O) rfl rfl rfl hc' i [] s5 σ5 H5 Ad I5 (fpx I5 fr5) tn5 stop) λr s6 h=>?_;let⟨hr,g⟩:=h;subst hr;let G:Inv X ar σ H5 s6:=I3.call' g.os g.base g.hok g.bare λb E=>by let⟨I,C,H,B,u,o⟩:=f3 b E;exact⟨B,C,u,o⟩
   let⟨m,hn,_⟩:=g.loc;refine fin l L.heap.objs.size H5 s6 G q ⟨⟨m,hn⟩,g.free,dk I3.lt,λx c e=>?_,I3.sz,λp hp=>?_⟩
   ·let⟨v,z⟩:=I3.cell x c e;exact ba z.lt
   ·exact ba (aL (I3.pin p hp).1)
  ·refine fT (TT.item (pq X N scope fp L O) rfl rfl rfl hc' i [] s5 σ5 H5 Ad I5 (fpx I5 fr5) tn5 go) λr s6 I=>?_;let⟨u,hr,h6⟩:=I;subst hr;refine fT h6 λ_ s7 H=>?_;let⟨x,H7,I7,r7,y7,c,fr7⟩:=H;let I7':=I7.pinned (fpx I7 fr7) (TT.obj _ _ c);refine fT (bg _ s7 σ5 H7 x u _ I7' r7 (step x H7 y7)) λ_ s8 C=>?_;let⟨σ8,H8,I8,q8⟩:=C;refine fT (bt _ s8 σ8 H8 _ I8 q8) λok s9 B=>?_;let⟨H9,I9,q9⟩:=B;let again : ∀{Y : am}{G : Hp}, Inv (pq X N scope fp L O) ([] ++ mG fp s7.heap) σ8 G Y -> (∃Q, Q < k /\ W (i+1) Q σ8 G) ->
     ∃m,m < k/\∃i σ' G,Inv (pq X N scope fp L O) [] σ' G Y/\tn i Y.heap/\(∀b∈fp,G b=none)/\W i m σ' G:=λ{Y G}I' q=>by
    let⟨Q,hm,w'⟩:=q;refine⟨Q,hm,i+1,σ8,G,I'.unpinned,TT.keep _ _ _ c λb E o e=>(I'.pin (b,o) (bn _ (bn _ (GA E e)))).1,λb E=>?_,w'⟩;let⟨o,e,d⟩:=TT.obj _ _ c b E;exact (I'.pin (b,o) (bn _ (bn _ (GA E e)))).2.1
   cases ok with|false=>exact again I9 q9|true=>
    refine fT (be _ s9 σ8 H9 _ I9 q9) λxv U h=>?_;let⟨v,J,I10,r10,ys,hy,hz,q10⟩:=h;refine fT (Ov (X:=pq X N scope fp L O) _ U σ8 J (.ref l) [v] (.ref l) [xv] (λ_ G=>G=fE J l (.lst (ys++[v]))) I10 rfl (.cons r10 .nil) ⟨l,ys,v,rfl,rfl,hy,hz,rfl⟩) λ_ s11 g=>?_;let⟨_,H11,I11,_,e⟩:=g;subst e;exact again I11 q10
 exact codeAny_compStart_list loop (TT.self _ 0 _ _ _ tn4 loop)
def Ub{n:Nat}(hc:X.calm=true) (S:iy X scope) (T:kG X scope N n ix) (Y:PI X o iter G)(E:∀(fp:List ak)(s:am)(H:Hp),PG (pq X N scope fp s H) o g/\wX (pq X N scope fp s H) u J/\PE (pq X N scope fp s H) v L)(O:∀x,fL iter X.env x=pure x:=by intro _;rfl):PE X (.ListComp v [⟨o,iter,u,0⟩] scope pos) (wn G n ix g J L):=by
 intro ar s σ H Q I h;rw[eval_ListComp];refine Oj (use:=none) hc S T Y E O I h λl C H' s' I' q c=>?_;let⟨m,U⟩:=c.ns;exact⟨m,U,λh' B=>⟨.ref l,H',c.go I' B,rfl,q⟩⟩
def Wn{pos u G:Pos}{n i:Nat}(hN:X.N.Nodup) (Y:X.N[i]?=some x) (hx:L2.Loc X.env.scope x) (hf:X.fn x=true\/X.env.scope.names.lookup x=some .local)(hc:X.calm=true) (S:iy X scope) (T:kG X scope N n ix) (hi:PI X o iter wi)(blk:∀(fp:List ak)(s:am)(H:Hp),PG (pq X N scope fp s H) o g/\wX (pq X N scope fp s H) B tt/\PE (pq X N scope fp s H) E te)(O:kM (.ListComp E [⟨o,iter,B,0⟩] scope pos) (some (.Name x u)) G.line X.env=pure true)(hs:∀x,fL iter X.env x=pure x:=by intro _;rfl):PS X (.Assign [.Name x u] (.ListComp E [⟨o,iter,B,0⟩] scope pos) G) (Ac (wn wi n ix g tt te) (uS i)):=by
 intro ar s σ H D I h;rw[exec_Assign_Name_used _ _ _ _ O];refine ab (xl (ab ?_))
 show aG _ _ (comprehension (.ListComp E [⟨o,iter,B,0⟩] scope pos) scope X.env _ (newList []) false (eval iter X.env) (some (pf (.Name x u) X.env)) >>= λ_=>pure Unit.unit) _ _ s;refine ab (fM (Oj (use:=some (pf (.Name x u) X.env)) (Q:=λ_ L=>SP X ar D .next L) hc S T hi blk hs I h λl C H' L I' q c=>?_) (λ_ L hq=>ai (ai hq)) λ_ _ e=>e);let⟨m,hn⟩:=c.ns;refine D0 (Jd I' hN Y hx (v:=.ref l) rfl (λs2 I2 ⟨b,hb,hb2⟩=>?_) hf);let J:b≠C:=by
  rcases hb2 with z|z
  ·rw[z];exact c.loc.symm
  ·exact c.cell x b z
 refine⟨m,hn.sameBut hb J.symm,λh' U=>⟨_,H',?_,q⟩⟩;exact wj.go ⟨⟨m,hn.sameBut hb J.symm⟩,c.free,c.loc,c.cell,c.sz,c.pin⟩ I2 U
end
section
variable{X:Cx}{a b c e:Expr}{es:List Expr}{pos:Pos}{fa fb fc:CE}{ca cb:CA}{K:ah}{ρ:List ak}{H:Hp}{st:aZ}
def Aa{K:ah}(h:ra K (ui f) x y H Q):∃(i j:Int)(ρ:List ak)(st:aZ),x=.int i/\y=.int j/\SR K ρ H st/\aT K ρ H (f i j st) (λr _ ρ' g=>∀v,dE K ρ' g v r->Q v g):=by
 let⟨ρ,st,d,e,sr,o,l,p⟩:=h;rcases yV f d e with ⟨i,j,rfl,rfl⟩|q
 ·exact⟨i,j,ρ,st,o.inv,l.inv,sr,p⟩
 ·rw[q]at p;exact p.elim
def Zs:OpR X (fH .Sub) (ra X.K uc):=Vj.of λx y H Q h=>by let⟨i,j,ρ,st,rfl,rfl,sr,p⟩:=Aa h;exact⟨_,_,rfl,rfl,p.ret sr _ (.int _)⟩
def UM:OpR X (fH .Mult) (ra X.K sQ):=Xy.of λx y H Q h=>by let⟨i,j,ρ,st,rfl,rfl,sr,p⟩:=Aa h;exact⟨_,_,rfl,rfl,p.chk.1,p.chk.2.ret sr _ (.int _)⟩
def W4:OpR X (fH .FloorDiv) (ra X.K tQ):=UB.of λx y H Q h=>by let⟨i,j,ρ,st,rfl,rfl,sr,p⟩:=Aa h;exact⟨_,_,rfl,rfl,p.chk.1,p.chk.2.ret sr _ (.int _)⟩
def TJ:OpR X (fH .Mod) (ra X.K pB):=Qbk.of λx y H Q h=>by let⟨i,j,ρ,st,rfl,rfl,sr,p⟩:=Aa h;exact⟨_,_,rfl,rfl,p.chk.1,p.chk.2.ret sr _ (.int _)⟩
def YY:OpR X (fH .Pow) (ra X.K yC):=WW.of λx y H Q h=>by let⟨i,j,ρ,st,rfl,rfl,sr,p⟩:=Aa h;exact⟨_,_,rfl,rfl,p.chk.1,p.chk.2.ret sr _ (.int _)⟩
def Qej:OpR X (dH .Lt) (ra X.K Cf):=XU.of λx y H Q h=>by let⟨i,j,ρ,st,rfl,rfl,sr,p⟩:=Aa h;exact⟨_,_,rfl,rfl,p.ret sr _ (.bl _)⟩
def Zr:OpR X (dH .Gt) (ra X.K wZ):=Va.of λx y H Q h=>by let⟨i,j,ρ,st,rfl,rfl,sr,p⟩:=Aa h;exact⟨_,_,rfl,rfl,p.ret sr _ (.bl _)⟩
def V6:OpR X (dH .GtE) (ra X.K Io):=Uw.of λx y H Q h=>by let⟨i,j,ρ,st,rfl,rfl,sr,p⟩:=Aa h;exact⟨_,_,rfl,rfl,p.ret sr _ (.bl _)⟩
def Qp:SA X [] aX:=vg.of λσ H Q g=>g.el λρ l st h sr p=>p.ret sr [] .nil
def Pq(U:SE X e fa)(O:SA X es ca)(L:starEach (e::es) X.env=(false,eval e X.env)::starEach es X.env:=by rfl):SA X (e::es) (au fa ca):=
 (sB U O L).of λσ H Q Y=>Y.el λρ l st o sr p=>⟨ρ,l,st,o,sr,p.bnd.imp λd g ρ1 H1 u E J v G=>⟨ρ1,l,g,o.mono u,E,J.bnd.imp λds B ρ2 H2 q C I c h=>I.ret C _ (.cons (G.mono q) h)⟩⟩
def Vd{k:Nat}(h:SA X es ca):SE X (.Tuple es k pos) (c8 ca):=(UO h).of λσ H Q I=>I.el λρ l st E sr p=>⟨ρ,l,st,E,sr,p.bnd.imp λds u ρ1 O J v C L g=>by let⟨G,B⟩:=C.chk;refine⟨by rw[g.length];exact G,λq o=>?_⟩;exact B ρ1 _ (Ex.new o) (v.new o) _ (.tup (ml.of kL) (g.mono (Ex.new o)))⟩
def VP(h:SA X es ca):SL X (.List es pos) (gJ ca):=(UF h).of λσ H Q U=>U.el λρ l st J sr p=>⟨ρ,l,st,J,sr,p.bnd.imp λds E ρ1 Y B v I C g=>by
 let⟨O,G⟩:=I.chk;refine⟨by rw[g.length];exact O,λq u=>?_⟩;let L:H q=none:=by
  cases z:H q with|none=>rfl|some o=>exact bh u (B.trk q o z)
 exact G ρ1 _ (Ex.new u) (v.new u) q C L (v.fresh u) kL (g.mono (Ex.new u))⟩
def aT.bnd0{α β:Type}{m:M α}{f:α->M β}{R:β->aZ->List ak->Hp->Prop}(h:aT K ρ H (MM.bnd m f st) R):aT K ρ H (m st) λa g _ _=>aT K ρ H (f a g) R:=by
 unfold MM.bnd at h;cases e:m st with
 |ok a s'=>
  rw[e]at h;exact λρ' l y s=>h
 |exc _ _=>rw[e]at h;exact h|bad=>rw[e]at h;exact h
def Z_(h:SL X e ca):SE X e (eR ca):=h.of λσ H Q L=>L.el λρ l st I sr p=>⟨ρ,l,st,I,sr,p.bnd0.imp λds C ρ1 B o u E a O J G v q=>by
 let x:Ex ρ H (ρ1++[a]) B:=by
  let⟨τ,e,f⟩:=o.pre;refine⟨⟨τ++[a],by rw[e,br],λb g=>?_⟩,o.fix,o.oth,o.knd⟩;rcases aP.mp g with g|g
  ·exact f b g
  ·rw[aA]at g;rw[g];exact J
 refine E (ρ1++[a]) B x (u.keep v G q) _ (.ref ⟨_,v,rfl⟩ ?_);rw[<- u.len];simp⟩
def _root_.L2.IxR.of{r C:R2}(h:IxR X r)(g:∀x y H Q,C x y H Q->r x y H Q):IxR X C:=λl o B s σ H x y v u Q I G E q J=>h l o B s σ H x y v u Q I G E (g x y H Q q) J
def aT.item{i:Int}(h:aT K ρ H (cY ds i st) R)(s:SR K ρ H st):∃k d,L2.n_ ds.length i=some k/\ds[k]?=some d/\R d st ρ H:=by
 unfold cY at h;cases e:MM.n_ ds.length i with|none=>rw[e]at h;exact h.elim|some k=>
  rw[e]at h;cases g:ds[k]? with|none=>dsimp only at h;rw[g]at h;exact h.elim|some d=>dsimp only at h;rw[g]at h;exact⟨k,d,e,g,h.ret s⟩
def EK{i:Int}{k:Nat}(r:bW K ρ H g ds)(o:L2.n_ ds.length i=some k)(l:ds[k]?=some d):∃v,A8 g i=some v/\dE K ρ H v d:=by let⟨v,e,h⟩:=r.get l;refine⟨v,?_,h⟩;unfold A8;rw[r.length,o];exact e
theorem aT.itemK{n:Nat}(h:aT K ρ H (MM.itemK n k st) R)(s:SR K ρ H st):∃b g d,st[n]?=some (.dct b g)/\oY b k=true/\m_ g k=some d/\R d st ρ H:=by
 let⟨b,g,e,q⟩:=aT.getDc (aT.bnd h) s;let⟨u,l⟩:=aT.chk q;cases o:m_ g k with|none=>dsimp only at l;rw[o]at l;exact l.elim|some d=>dsimp only at l;rw[o]at l;exact⟨b,g,d,e,u,o,l.ret s⟩
def n9.dictIs{a:ak}{b:Bool}(I:Inv X h σ H s)(g:n9 X.K ρ H a (.dct b l)):s.TypeIs (.ref a) "dict":=by
 cases b with
 |false=>
  let⟨es,e,r⟩:=g;let⟨_,_,q,_,o⟩:=KL I.hok e;exact o.typeIs
 |true=>
  let⟨es,e,r⟩:=g;let⟨_,_,xs,_,o,_⟩:=zB I e r;exact o.typeIs
def Qes(hu:X.A.units+60 < cS):IxR X (λx y H Q=>∃(ρ:List ak)(st:aZ)(n:Nat)(a:ak)(b:Bool)(l:List (D×D))(k d:D),x=.ref a/\SR X.K ρ H st/\ρ[n]?=some a/\st[n]?=some (.dct b l)/\dE X.K ρ H y k/\oY b k=true/\m_ l k=some d/\∀v,dE X.K ρ H v d->Q v H):=by intro o B E s σ H x y v u Q I J G h U;let⟨ρ,st,n,a,b,l,k,d,ex,sr,ha,Y,O,hk,c,q⟩:=h;subst ex;cases J;let g:=sr.ob n a _ ha Y;exact AK (n9.dictIs I g) PySem.F.slot_dict_getitem.lookup (Sb () I g O hk c G λv w' s' I' L C=>⟨v,H,I',C,q v L⟩) U
def Sy{d e:D}{Q:VK}(sr:SR K ρ H st)(C:dE K ρ H x d)(J:dE K ρ H y e)(hd:∀n,d≠.dic n)(p:aT K ρ H (aW d e st) λr _ ρ' I=>∀v,dE K ρ' I v r->Q v I):Qo K x y H Q:=by
 cases e with
 |int i=>
  obtain rfl:y=.int i:=J.inv;cases d with
  |dic _=>exact bh rfl (hd _)|tup ds=>
   let⟨_,_,rfl,h,r⟩:=C.inv;let⟨k,d,B,u,q⟩:=aT.item p sr;let⟨v,o,l⟩:=EK r B u;exact .inr (.inl ⟨_,_,i,v,rfl,rfl,h,o,q v l⟩)
  |lit ds=>
   let⟨_,_,rfl,h,r⟩:=C.inv;let⟨k,d,B,u,q⟩:=aT.item p sr;let⟨v,o,l⟩:=EK r B u;exact .inl ⟨_,_,i,v,rfl,rfl,h.seq,o,q v l⟩
  |ref n=>
   let⟨_,rfl,_,h⟩:=C.inv;let⟨xs,e,g⟩:=aT.getL (aT.bnd p) sr;let⟨a,O,G,L,r⟩:=sr.seq e;rw[h]at G;cases G;let⟨k,d,B,u,q⟩:=aT.item g sr;let⟨v,o,l⟩:=EK r B u;exact .inl ⟨_,_,i,v,rfl,rfl,gS.of L,o,q v l⟩
  |str z=>
   obtain rfl:x=.str z:=C.inv;let⟨hz,g⟩:=aT.chk p;cases e:MM.n_ z.length i with|none=>rw[e]at g;exact g.elim|some k=>
    rw[e]at g;cases E:z.cps.toList[k]? with|none=>dsimp only at g;rw[E]at g;exact g.elim|some c=>
     dsimp only at g;rw[E]at g;refine .inr (.inr ⟨z,i,c,rfl,rfl,hz,?_,g.ret sr _ (.str _)⟩);unfold A8;rw[show z.cps.toList.length=z.length by simp[Str.length]]
     show (L2.n_ z.length i).bind _=_;rw[show L2.n_ z.length i=some k from e];exact E
  |_=>exact p.elim
 |_=>cases d<;>first|exact bh rfl (hd _)|exact p.elim
def ixd(hu:X.A.units+60 < cS):IxR X (ra X.K aW):=(VN.or (Qes hu)).of λx y H Q g=>by
 let⟨ρ,st,d,e,sr,u,o,p⟩:=g;by_cases hd:∃n,d=.dic n
 ·let⟨n,rfl⟩:=hd;let⟨a,rfl,_,h⟩:=u.inv;let C:aT X.K ρ H (itemK n e st) λr _ ρ' B=>∀(v:V),dE X.K ρ' B v r->Q v B:=p;let⟨b,l,d,I,G,E,q⟩:=aT.itemK C sr;exact .inr ⟨ρ,st,n,a,b,l,e,d,rfl,sr,h,I,o,G,E,q⟩
 ·exact .inl (Sy sr u o (λn z=>hd ⟨n,z⟩) p)
def X1(hu:X.A.units+60 < cS)(o:SE X a fa)(l:SE X b fb)(g:rH b):SE X (.Subscript a b pos) (c2 aW fa fb):=(RT (ixd hu) o l g).of (Ia λ_ _ _ _ h=>h)
def Tl(G:SL X a ca)(hb:SE X b fb)(hs:rH b):SE X (.Subscript a b pos) (nh ca fb):=(RT Q3 G hb hs).of λσ H Q h_=>h_.el λρ l st E sr p=>
 ⟨ρ,l,st,E,sr,p.bnd.imp λds g ρ1 H1 I O c a B G na hv h=>⟨ρ1,l,g,E.mono I,O,c.bnd.imp λe J ρ2 H2 o L C u Y=>by
  cases e with
  |int i=>
   cases (show u=.int i from Y.inv);let⟨k,d,h1,h2,q⟩:=aT.item C L;let⟨v,h3,U⟩:=EK (h.mono o) h1 h2;exact⟨a,B,i,v,rfl,rfl,gS.of (o.lst a B na hv),h3,q v U⟩
  |_=>exact C.elim⟩⟩
def VL{k n:Nat}(F:mI X.prog X.w X.K X.mg X.base C k f B ps (mU X.K n g))(I:iw k X.A)(U:Gl X x)(L:X.mg x=some (.ref f))(O:di X.K (.ref f)=true) (c:Binds X.K B ps []) (G:uj C X E0) (ha:SA X (e::es) ca) (J:∀l st ds o,ca l st=.ok ds o->ds.length=n) (v:(x == ("__debug__":Str))=false:=by decide)
  (Y:starEach (e::es) X.env=(false,eval e X.env)::starEach es X.env:=by rfl) (u:(backTo pos (starEach es X.env)).any (·.1)=false:=by rfl):SE X (.Call (.Name x p) (e::es) [] pos) (bJ g ca):=
 (NB F I U L O c .nil G ha v Y u).of λσ H Q h_=>h_.el λρ l st E sr p=>⟨ρ,l,st,E,sr,by
  let q:=aT.bnd p;cases h:ca l st with|bad=>rw[h]at q;exact q|exc _ _=>rw[h]at q;exact q|ok ds cp=>
   rw[h]at q;intro ρ1 H1 x1 s1 vs rvs;refine⟨by rw[bu,rvs.length];exact J l st ds cp h,ρ1,cp,ds,s1,by rw[bu];exact rvs,q ρ1 H1 x1 s1⟩⟩
variable{ta tb:CT}
def Vx(p:aT K ρ H (zZ d st) R)(sr:SR K ρ H st)(o:dE K ρ H v d):∃k,Cr K v H k/\R k st ρ H:=by
 cases o with
 |non=>exact⟨false,rfl,p.ret sr⟩|bl b=>exact⟨b,rfl,p.ret sr⟩|int i=>exact⟨_,rfl,p.ret sr⟩|str x=>exact⟨_,⟨(aT.chk p).1,rfl⟩,(aT.chk p).2.ret sr⟩|@tup a g ds h r=>
  refine⟨!g.isEmpty,.inr (.inl ⟨g,h,rfl⟩),?_⟩;have:g.isEmpty=ds.isEmpty:=by have:=r.length;cases g<;>cases ds<;>simp_all
  rw[this];exact p.ret sr
 |@lit a g ds h r=>
  refine⟨!g.isEmpty,.inl ⟨g,h.seq,rfl⟩,?_⟩;have:g.isEmpty=ds.isEmpty:=by have:=r.length;cases g<;>cases ds<;>simp_all
  rw[this];exact p.ret sr
 |ref _ h=>
  let⟨ds,e,q⟩:=aT.getL (aT.bnd p) sr;let⟨a,g,l,u,r⟩:=sr.seq e;rw[h]at l;cases l;refine⟨!g.isEmpty,.inl ⟨g,gS.of u,rfl⟩,?_⟩;have:g.isEmpty=ds.isEmpty:=by have:=r.length;cases g<;>cases ds<;>simp_all
  rw[this];exact q.ret sr
 |_=>exact p.elim
def Xr(C:SE X a fa)(B:∀whole,isTrue a X.env whole=(do let v <- whole;yZ a.pos;k_ [v] (truthy v)):=by intro _;rfl):ST X a (pZ fa):=
 (Xp C B).of λσ H Q E=>E.el λρ l st u sr p=>⟨ρ,l,st,u,sr,p.bnd.imp λd g ρ1 I G h q v o=>Vx q h o⟩
def X8(E:OpR X (dH op) (ra X.K g))(J:SE X a fa)(I:SE X b fb)(G:kr op b=false):ST X (.Compare a [op] [b] pos) (cX (c2 g fa fb)):=
 (T3 E J I G).of λσ H Q L=>L.el λρ l st C sr p=>Ia (X:=X) (λ_ _ _ _ h=>h) _ _ _ ⟨ρ,l,st,C,sr,p.bnd.imp λd q ρ1 U O u o v B=>by
  cases d with
  |bl k=>cases (show v=.bl k from B.inv);exact⟨k,rfl,o.ret u⟩
  |_=>exact o.elim⟩
def QeA(g:ST X a ta):PW X (.BoolOp .And [a] pos) (rg X.K ta):=QaC g
def VO(g:ST X a ta):PW X (.BoolOp .Or [a] pos) (rg X.K ta):=UI g
def _root_.L2.PW.of{t t':TT}(h:PW X e t)(f:∀σ H Q,t' σ H Q->t σ H Q):PW X e t':=λwhole g s σ H Q I q=>h whole g s σ H Q I (f σ H Q q)
def Y8{rest:List Expr}(B:ST X a ta)(v:PW X (.BoolOp .And (b::rest) pos) (rg X.K tb)):PW X (.BoolOp .And (a::b::rest) pos) (rg X.K (oX ta tb)):=
 (W5 B v).of λσ H Q C=>C.el λρ l st q sr p=>⟨ρ,l,st,q,sr,p.bnd.imp λc g ρ1 E u h o=>by
  cases c with
  |true=>exact⟨ρ1,l,g,q.mono u,h,o⟩
  |false=>exact o.ret h⟩
def SH{rest:List Expr}(B:ST X a ta)(v:PW X (.BoolOp .Or (b::rest) pos) (rg X.K tb)):PW X (.BoolOp .Or (a::b::rest) pos) (rg X.K (sR ta tb)):=
 (Zt B v).of λσ H Q C=>C.el λρ l st q sr p=>⟨ρ,l,st,q,sr,p.bnd.imp λc g ρ1 E u h o=>by
  cases c with
  |true=>exact o.ret h
  |false=>exact⟨ρ1,l,g,q.mono u,h,o⟩⟩
def UY(u:ST X a ta):ST X (.UnaryOp .Not a pos) (pJ ta):=(Z5 u).of λσ H Q v=>v.el λρ l st q sr p=>⟨ρ,l,st,q,sr,p.bnd.imp λc g ρ1 C B h o=>o.ret h⟩
def N8(h:SE X a fa):SE X (.BoolOp op [a] pos) fa:=WE h
def QeG{rest:List Expr}(E:SE X a fa)(C:SE X (.BoolOp .And (b::rest) pos) fb):SE X (.BoolOp .And (a::b::rest) pos) (vE fa fb):=
 (Y6 E C).of λσ H Q G=>G.el λρ l st q sr p=>⟨ρ,l,st,q,sr,p.bnd.imp λd g ρ1 I u o h v B=>by
  cases d with
  |bl c=>
   cases (show v=.bl c from B.inv);refine⟨c,rfl,?_⟩;cases c with|true=>exact⟨ρ1,l,g,q.mono u,o,h⟩|false=>exact h.ret o _ (.bl false)
  |_=>exact h.elim⟩
def UA{rest:List Expr}(E:SE X a fa)(C:SE X (.BoolOp .Or (b::rest) pos) fb):SE X (.BoolOp .Or (a::b::rest) pos) (DG fa fb):=
 (U6 E C).of λσ H Q G=>G.el λρ l st q sr p=>⟨ρ,l,st,q,sr,p.bnd.imp λd g ρ1 I u o h v B=>by
  cases d with
  |bl c=>
   cases (show v=.bl c from B.inv);refine⟨c,rfl,?_⟩;cases c with|true=>exact h.ret o _ (.bl true)|false=>exact⟨ρ1,l,g,q.mono u,o,h⟩
  |_=>exact h.elim⟩
def Ys(v : ST X c ta)(C : SE X a fa)(B : SE X b fb): SE X (.IfExp c a b pos) (wW ta fa fb) := (QaK v C B).of λσ H Q E => E.el λρ l st h sr p => ⟨ρ, l, st, h, sr, p.bnd.imp λk g ρ1 G o q u => by
  cases k with
  |true=>exact⟨ρ1,l,g,h.mono o,q,u⟩
  |false=>exact⟨ρ1,l,g,h.mono o,q,u⟩⟩
end
theorem LR.set{K:ah}(h:LR K ρ H σ l)(i:Nat)(r:dE K ρ H v d):LR K ρ H (σ.set i (some v)) (l.set i (some d)):=by
 refine⟨by simp[h.1],λj e q=>?_⟩;by_cases z:i=j
 ·subst z;by_cases c:i < l.length
  ·rw[aF c]at q;cases q;exact⟨v,by rw[aF (by rw[h.1];exact c)],r⟩
  ·rw[bX (by simp;ext)]at q;cases q
 ·rw[aB z]at q;let⟨w,o,g⟩:=h.2 j e q;exact⟨w,by rw[aB z];exact o,g⟩
theorem LR.start{K:ah}(r:bW K ρ H c ds):LR K ρ H (L2.start N c) (ds.map some++bQ (N.length-ds.length) none):=by
 let o:=r.length;unfold L2.start;refine⟨by simp[o],λi d e=>?_⟩;by_cases g:i < ds.length
 ·rw[ao (by simpa using g),av]at e;cases q:ds[i]? with|none=>rw[q]at e;cases e|some d'=>
   rw[q]at e;let u:d'=d:=aM (aM e);subst u;let⟨v,l,h⟩:=r.get q;refine⟨v,?_,h⟩;rw[ao (by simp;ext),av,l];rfl
 ·rw[aE (by simpa using g),fD]at e;split at e<;>cases e
section
variable{X:Cx}{a b c e tg:Expr}{pos:Pos}{ta tb:CT}{K:ah}{ρ:List ak}{H:Hp}{st:aZ}
abbrev SG(X:Cx)(e:Expr)(g:CG):Prop:=PG X e (AF X.K g)
abbrev BP(X:Cx)(e:List Expr)(g:List D->Loc->M Loc):Prop:=PGs X e (Gx X.K g)
def YD{i:Nat}(h:PG X (.Name x pos) (uS i)):SG X (.Name x pos) (aS i):=h.of λv σ H Q g=>by let⟨ρ,l,st,d,q,sr,o,p⟩:=g;exact p.ret sr _ (q.set i o)
def S5:BP X [] g8:=Sl.of λq σ H Q g=>by
 let⟨ρ,l,st,ds,o,sr,h,p⟩:=g;cases h with|nil=>exact⟨rfl,p.ret sr σ o⟩|cons _ _=>exact p.elim
def Y1(L:SG X e g)(J:BP X es r)(I:(dX (e::es) X.env).map (·.2)=pf e X.env::(dX es X.env).map (·.2):=by rfl):BP X (e::es) (cL g r):=
 (Tt L J I).of λO σ H Q h=>by
  let⟨ρ,l,st,ds,E,sr,q,p⟩:=h;cases q with|nil=>exact p.elim|cons rv rt=>exact⟨_,_,rfl,ρ,l,st,_,E,sr,rv,(aT.bnd p).imp λG o ρ1 U v B C σ1 u=>⟨ρ1,G,o,_,u,B,rt.mono v,C⟩⟩
def UH{k n:Nat}(C:X.calm=true)(h:BP X es r)(B:(dX es X.env).length=n:=by rfl)(o:(dX es X.env).findIdx? (·.1)=none:=by rfl):SG X (.Tuple es k pos) (gI n r):=
 (XO C h B o).of λv σ H Q g=>by
  let⟨ρ,l,st,d,u,sr,q,p⟩:=g;cases d with|tup ds_=>let⟨_,_,rfl,h,r⟩:=q.inv;exact⟨_,_,rfl,h,by rw[r.length];exact (aT.chk p).1,ρ,l,st,_,u,sr,r,(aT.chk p).2⟩|_=>exact p.elim
def Xh:xj X [] aU:=PC.of λG σ H h=>h.el λρ l st g sr p=>p.ret sr σ g
def Xb(C:SS X s cs)(B:xj X ss cr):xj X (s::ss) (aO cs cr):=(Pd C B).of λG σ H v=>v.el λρ l st u sr p=>⟨ρ,l,st,u,sr,p.bnd.imp λf o ρ1 I E g h=>by
 cases f with
 |next l'=>exact λσ' q=>⟨ρ1,l',o,q,g,h⟩|ret d=>exact h.ret g|brk l'=>exact h.ret g
 |cnt l'=>exact h.ret g⟩
def YL:SS X s BX:=Zy.of λG σ H g=>g.el λρ l st h sr p=>p.elim
def ZM(h:SE X e fa):SS X (.Return (some e) pos) (dF fa):=(OO h).of λG σ H C=>C.el λρ l st B sr p=>⟨ρ,l,st,B,sr,p.bnd.imp λd g ρ1 I E o u v q=>u.ret o v q⟩
def Xg(h:SE X e fa)(C:kM e none pos.line X.env=pure false:=by rfl):SS X (.Expr e pos) (kH fa):=(YC h C).of λG σ H E=>E.el λρ l st g sr p=>
 ⟨ρ,l,st,g,sr,p.bnd.imp λd q ρ1 J o u B v I=>B.ret u σ (g.mono o)⟩
def XF(v:ST X c ta)(C:xj X ss cs)(B:xj X sr cr):SS X (.If c ss sr pos) (mr ta cs cr):=(X4 v C B).of λG σ H E=>E.el λρ l st h sr p=>
 ⟨ρ,l,st,h,sr,p.bnd.imp λk g ρ1 I o q u=>by
  cases k with
  |true=>exact⟨ρ1,l,g,h.mono o,q,u⟩
  |false=>exact⟨ρ1,l,g,h.mono o,q,u⟩⟩
def LV{q:TE}{tg:TG}(Y:∀σ H Q,Au X.K fa σ H Q->q σ H Q)(U:∀v σ H Q,AF X.K g v σ H Q->tg v σ H Q):∀G σ H,xf X.K (cn g fa) G σ H->Ac q tg G σ H:=λG σ H c=>c.el λρ l st u sr p=>
 Y _ _ _ ⟨ρ,l,st,u,sr,p.bnd.imp λd h ρ1 H1 B I O v J=>U _ _ _ _ ⟨ρ1,l,h,d,u.mono B,I,J,O.bnd.imp λl2 C ρ2 H2 x2 E L σ2 o=>L.ret E σ2 o⟩⟩
def QI{i:Nat}:∀v σ H Q,AF X.K (aS i) v σ H Q->uS i v σ H Q:=λv σ H Q g=>by let⟨ρ,l,st,d,o,sr,h,p⟩:=g;exact p.ret sr _ (o.set i h)
def WQ{i : Nat}(B : X.N.Nodup)(q : X.N[i]? = some x)(l : L2.Loc X.env.scope x)(v : SE X e fa)(o : kM e (some (.Name x g)) pos.line X.env = pure false := by rfl)
  (u:X.fn x=true\/X.env.scope.names.lookup x=some .local:=by first|exact .inl rfl|exact .inr rfl|assumption):SS X (.Assign [.Name x g] e pos) (cn (aS i) fa):=
 (Vr B q l v o u).of (LV (λ_ _ _ h=>h) QI)
def Pg(u : SE X e fa)(q : SG X tg g)(o : swapsWithSole [tg] e pos.line X.env = pure false := by rfl)(l : swappedStores [tg] e X.env = pure none := by rfl)
  (v:(dX [tg] X.env).map (·.2)=[pf tg X.env]:=by rfl):SS X (.Assign [tg] e pos) (cn g fa):=(YE u q o l v).of (LV (λ_ _ _ h=>h) λ_ _ _ _ h=>h)
theorem aT.storeK{n:Nat}(h:aT K ρ H (MM.storeK n k v st) R)(s:SR K ρ H st):∃b g,st[n]?=some (.dct b g)/\oY b k=true/\g.length < eV/\aT K ρ H (.ok Unit.unit (st.set n (.dct b (mK g k v)))) R:=by let⟨b,g,e,o⟩:=aT.getDc (aT.bnd h) s;let⟨⟨u,q⟩,l⟩:=aT.chk o;refine⟨b,g,e,u,q,?_⟩;unfold tG at l;rw[e]at l;simpa using l
def G7(X:Cx):V->V->V->Hp->(Hp->Prop)->Prop:=λo i v H Q=>∃(ρ:List ak)(st:aZ)(n:Nat)(a:ak)(b:Bool)(a6:List (D×D))(k d:D),o=.ref a/\SR X.K ρ H st/\ρ[n]?=some a/\st[n]?=some (.dct b a6)/\dE X.K ρ H i k/\oY b k=true/\a6.length < sizeLine/\dE X.K ρ H v d /\
 ∀g,SR X.K ρ g (st.set n (.dct b (mK a6 k d)))->Ex ρ H ρ g->Q g
def VG(hu:X.A.units+60 < cS):PSet X (G7 X):=by intro h s σ H o i v ov iv u Q I G L E g;let⟨ρ,st,n,a,b,U,k,d,eo,sr,ha,Y,J,hk,c,O,q⟩:=g;subst eo;cases G;exact Vg () I sr ha Y J hk c O L E λl s' I' C B=>⟨l,I',q l C B⟩
def _root_.L2.PSet.or(h:PSet X t)(h':PSet X t'):PSet X (λo i v H Q=>t o i v H Q\/t' o i v H Q):=by
 intro g s σ H o i v E G u Q I B C l q;rcases q with q|q
 ·exact h g s σ H o i v E G u Q I B C l q
 ·exact h' g s σ H o i v E G u Q I B C l q
def US(hu:X.A.units+60 < cS)(ho:SE X o to)(hi:SE X i ti)(ha:∀v,pf (.Subscript o i pos) X.env v=(do
   let ov <- k_ [v] (eval o X.env)
   let iv <- k_ [v,ov] (eval i X.env)
   yZ pos
   k_ [v,ov,iv] (ph ov iv v)
   D1 [v,ov,iv] []):=by intro _;rfl):SG X (.Subscript o i pos) (kB to ti):=
 (QaW ho hi (Qd.or (VG hu)) ha).of λv σ H Q J=>by let⟨ρ,l,st,d,c,sr,rv,p⟩:=J;exact⟨ρ,l,st,c,sr,p.bnd.imp λy cp ρ1 H1 O s1 p1 u ru=>⟨ρ1,l,cp,c.mono O,s1,p1.bnd.imp λz g ρ2 H2 L G Y w B=>by
  let I:=ru.mono L;let rd:dE X.K ρ2 H2 v d:=(rv.mono O).mono L;cases y with
  |ref n=>
   let⟨_,rfl,_,h⟩:=I.inv;cases z with
   |int k=>
    cases (show _=V.int k from B.inv);let⟨ds,e,U⟩:=aT.getL (aT.bnd (aT.bnd Y)) G;let⟨a,vs,ha,hv,r⟩:=G.seq e;rw[h]at ha;cases ha;cases e2:MM.n_ ds.length k with|none=>rw[e2]at U;exact U.elim|some j=>
     rw[e2]at U;let hl:=(ac.mp e).1;let⟨E,C⟩:=G.put hl h hv (r.set j rd);refine .inl ⟨_,vs,k,j,rfl,rfl,hv,by rw[r.length];exact e2,?_⟩;let p4:aT X.K ρ2 H2 (putL _ (ds.set j d) g) _:=U;unfold putL at p4;rw[e]at p4;exact (p4 ρ2 _ C E).ret E σ (((c.mono O).mono L).mono C)
   |_=>exact (aT.bnd Y).elim
  |dic n=>
   let⟨a,rfl,_,h⟩:=I.inv;let p':aT X.K ρ2 H2 (storeK n z d g) λa st' ρ' H'=>aT X.K ρ' H' (MM.ret l st') λl' _ ρ' H'=>∀σ',LR X.K ρ' H' σ' l'->Q σ' H':=by cases B<;>exact aT.bnd Y
   let⟨b,a6,e1,hk,hl,q⟩:=aT.storeK p' G;exact .inr ⟨ρ2,g,n,a,b,a6,z,d,rfl,G,h,e1,B,hk,hl,rd,λH3 E C=>(q ρ2 H3 C E).ret E σ (((c.mono O).mono L).mono C)⟩
  |_=>exact (aT.bnd Y).elim⟩⟩
def Xt{K:ah}{k:Nat}(F:yw K x qual u f I)(S:mh N ps (bj u))(q:∀(g:ag)(A:bI)(outer:List Env)(s:am)(H:Hp)(E:XK),I.code=g->iw k (A.deeper (oh qual (bj u) s.heap.objs.size f g))->xj (rZ q_ P w K mg base N qual (bj u) f g A outer s H E).nox (cK u) o):mI P w K mg base q_ (k+1) f I ps (mU K ps.length (bZ N.length o)):=by
 let⟨oc,od,kV,doc,pm,an,g,ct,Y,rfl,c,G⟩:=F.ex;refine Qj c G S (λL H Q E h=>h.1) λA outer s H L Q E hr h=>⟨_,(q g A outer s H E rfl hr).nox,?_⟩
 let⟨hl,ρ,st,ds,sr,C,p⟩:=h;refine⟨ρ,_,st,LR.start C,sr,?_⟩;unfold bZ at p;exact p.bnd.imp λf O ρ1 H1 x1 J B=>by
  cases f with|next l=>exact λσ' _=>B.ret J _ .non|ret d=>exact λv U=>B.ret J v U|brk l=>exact B.elim|cnt l=>exact B.elim
noncomputable def HZ(K:ah)(ρ0:List ak)(h:Hp)(w:Wk)(J:It):Prop:=∀ρ H st,Ex ρ0 h ρ H->SR K ρ H st->w.same st->J.stop w.ds.length H/\∀(i:Nat)(d:D),w.ds[i]?=some d->J.go i H/\∀x g,J.yld i H x g->Ex ρ H ρ g/\SR K ρ g st/\dE K ρ g x d
def FD(K:ah)(f:CI):TI:=λσ H R=>∃ρ l st,LR K ρ H σ l/\SR K ρ H st/\aT K ρ H (f l st) λw _ ρ' g=>∀J,HZ K ρ' g w J->R J g
abbrev SI(X:Cx)(tg e:Expr)(f:CI):Prop:=PI X tg e (FD X.K f)
def _root_.L2.PI.of{t t':TI}(h:PI X tg e t)(f:∀σ H R,t' σ H R->t σ H R):PI X tg e t':=λg s σ H R I q=>h g s σ H R I (f σ H R q)
def LI{p:aZ->Prop}{a:ak}(h:∀ρ H st,Ex ρ0 B ρ H->SR K ρ H st->p st->∃g,gS K H a g/\bW K ρ H g ds):HZ K ρ0 B ⟨ds,p⟩ (IN K a):=λρ H st x s q=>by let⟨g,o,r⟩:=h ρ H st x s q;refine⟨⟨g,o,by rw[r.length];exact aw _⟩,λi d e=>?_⟩;let⟨v,u,C⟩:=r.get e;refine⟨⟨g,v,o,u⟩,λy I l=>?_⟩;let⟨G,E⟩:=l;subst G;have:=E g o;rw[u]at this;cases this;exact⟨Ex.refl,s,C⟩
def Qe1{p:aZ->Prop}{a:ak}(h:∀ρ H st,Ex ρ0 B ρ H->SR K ρ H st->p st->∃g,ml K H a g/\bW K ρ H g ds):HZ K ρ0 B ⟨ds,p⟩ (L9 K a):=λρ H st x s q=>by let⟨g,o,r⟩:=h ρ H st x s q;refine⟨⟨g,o,by rw[r.length];exact aw _⟩,λi d e=>?_⟩;let⟨v,u,C⟩:=r.get e;refine⟨⟨g,v,o,u⟩,λy I l=>?_⟩;let⟨G,E⟩:=l;subst G;have:=E g o;rw[u]at this;cases this;exact⟨Ex.refl,s,C⟩
def QM{lo:Int}{n:Nat}:HZ K ρ0 q ⟨iL lo n,d6⟩ (Fj lo n):=λρ H st x s _=>by
 refine⟨by show n<=(iL lo n).length;unfold iL;simp,λi d e=>?_⟩;let h:i < n:=by have:=(ac.mp e).1;simpa [iL] using this
 refine⟨h,λy u g=>?_⟩;let⟨o,l⟩:=g;subst o l;have:d=.int (lo+(i:Nat)):=by unfold iL at e;rw[av,lR h]at e;exact (aM e).symm
 subst this;exact⟨Ex.refl,s,.int _⟩
def Tx(U:PE X l L):PI X tg l (λσ H R=>L σ H λx B=>∃a,x=.ref a/\((∃xs,gS X.K B a xs)/\R (IN X.K a) B\/(∃xs,ml X.K B a xs)/\R (L9 X.K a) B)):=by
 intro E s σ H R I h;refine fT (U E s σ H _ I h) λv g C=>?_;let⟨x,B,u,Q,a,e,q⟩:=C;subst e;cases Q;rcases q with ⟨⟨xs,G⟩,q⟩|⟨⟨xs,G⟩,q⟩
 ·let⟨its,O,p,hz⟩:=u.list G;refine fK p.isList ?_;refine⟨g.heap.objs.size,[g.heap.objs.size],_,_,B,rfl,u.kept (t':=g.toks) λb o e=>aj _ e,Ro a _,⟨_,ay _ rfl,rfl,rfl⟩,λb J=>?_,q⟩;let e:b=g.heap.objs.size:=by simpa using J
  subst e;exact u.fpOk (aw _) (u.hok.fresh (aw _))
 ·let⟨its,O,p,hz⟩:=u.tuple G;refine nA (show g.heap.IsTuple a its.toArray from p) ?_;refine⟨g.heap.objs.size,[g.heap.objs.size],_,_,B,rfl,u.kept (t':=g.toks) λb o e=>aj _ e,Th a _,⟨_,ay _ rfl,rfl,rfl⟩,λb J=>?_,q⟩;let e:b=g.heap.objs.size:=by simpa using J
  subst e;exact u.fpOk (aw _) (u.hok.fresh (aw _))
def UR(h:SE X e fa):SI X tg e (iV fa):=(Tx h).of λσ H R U=>U.el λρ l st L sr p=>⟨ρ,l,st,L,sr,p.bnd.imp λd I ρ1 H1 Y o B v E=>by
 cases d with
 |tup ds=>let⟨a,g,rfl,h,r⟩:=E.inv;exact⟨a,rfl,.inr ⟨⟨g,h⟩,B.ret o _ (Qe1 λρ H st x s _=>⟨g,ml.mono x.up h,r.mono x⟩)⟩⟩|lit ds=>let⟨a,g,rfl,h,r⟩:=E.inv;exact⟨a,rfl,.inl ⟨⟨g,h.seq⟩,B.ret o _ (LI λρ H st x s _=>⟨g,(zA.mono x.up h).seq,r.mono x⟩)⟩⟩|ref n=>
  let⟨a,rfl,_,h⟩:=E.inv;let⟨ds,e,J⟩:=aT.getL (aT.bnd B) o;let⟨a',g,G,Q,r⟩:=o.seq e;rw[h]at G;cases G;refine⟨a,rfl,.inl ⟨⟨g,gS.of Q⟩,J.ret o _ (LI λρ H st x s q=>?_)⟩⟩;let⟨c,ws,u,O,C⟩:=s.seq q;let⟨τ,eτ,_⟩:=x.pre;rw[eτ,xE h]at u;cases u;exact⟨ws,gS.of O,C⟩
 |_=>exact B.elim⟩
def V3(h:SL X e ca):SI X tg e (yS ca):=(Y2 h).of λσ H R G=>G.el λρ l st E sr p=>⟨ρ,l,st,E,sr,p.bnd.imp λds u ρ1 L I v B a g J C q o=>
 ⟨a,rfl,⟨g,gS.of q⟩,B.ret v _ (LI λρ H st x s _=>⟨g,gS.of (x.lst a g C q),o.mono x⟩)⟩⟩
def Ue(C:Gl X "range")(B:X.mg "range"=none)(h:SE X a fa)(o:starEach [a] X.env=[(false,eval a X.env)]:=by rfl):SI X tg (.Call (.Name "range" p) [a] [] pos) (MM.fN fa):=
 (Qa9 (tg:=tg) (p:=p) (pos:=pos) C B (Pq h Qp o) o).of λσ H R E=>E.el λρ l st v sr p=>⟨ρ,l,st,v,sr,by
  let q:=aT.bnd p;unfold au
  show aT X.K ρ H (bnd (fa l) _ st) _;unfold MM.bnd;cases e:fa l st with|bad=>rw[e]at q;exact q|exc _ _=>rw[e]at q;exact q|ok d cp=>
   rw[e]at q
   show ∀ρ' H',Ex ρ H ρ' H'->SR X.K ρ' H' cp->_;intro ρ1 H1 x1 s1 vs rvs;let g:=q ρ1 H1 x1 s1;cases rvs with|cons rv rt=>
    cases rt;cases rv with
    |int j=>
     let⟨⟨I,G⟩,u⟩:=aT.chk g;exact⟨j,rfl,I,G,u.ret s1 _ QM⟩
    |_=>exact g.elim⟩
theorem aT.chkS(h:aT K ρ H (MM.chkS p st) R)(s:SR K ρ H st):p st/\R Unit.unit st ρ H:=by
 unfold MM.chkS at h;by_cases g:p st
 ·rw[aH g]at h;exact⟨g,h ρ H Ex.refl s⟩
 ·rw[aD g]at h;exact h.elim
def VH{cb:CS}(hp:uq (aY X.prog X.w) X.A X.env X.xe)(hc:X.calm=true)(hi:SI X tg iter ci)(hg:SG X tg g)(hb:xj X u cb)(hs:∀x,fL iter X.env x=pure x:=by intro _;rfl):SS X (.For tg iter u [] pos) (kg ci g cb):=(W1 hp hc hi hg hb hs).of λG σ H h_=>h_.el λρ l st lr sr p=>
 ⟨ρ,l,st,lr,sr,p.bnd.imp λw Y ρ1 H1 x1 s1 p1 J hJ=>by
  refine⟨λi m σ' h=>m=w.ds.length-i/\i<=w.ds.length/\∃ρ' l' st',Ex ρ1 H1 ρ' h/\LR X.K ρ' h σ' l'/\SR X.K ρ' h st'/\aT X.K ρ' h (o7 g cb w.same (w.ds.drop i) l' st') λf _ ρ' h=>match f with
   | .next l'=>∀σ',LR X.K ρ' h σ' l'->G.nx σ' h| .ret d=>∀v,dE X.K ρ' h v d->G.rt v h| .brk l'=>∀σ',LR X.K ρ' h σ' l'->G.bk σ' h
   | .cnt l'=>∀σ',LR X.K ρ' h σ' l'->G.ct σ' h,⟨w.ds.length,by simp,bU _,ρ1,l,Y,Ex.refl,lr.mono x1,s1,p1⟩,?_⟩
  rintro i m σ2 H2 ⟨rfl,hi,ρ2,l2,st2,x2,lr2,s2,p2⟩
  by_cases B:i < w.ds.length
  ·let ed:w.ds.drop i=w.ds[i]::w.ds.drop (i+1):=dZ B;rw[ed]at p2;unfold o7 at p2;let⟨c,p3⟩:=aT.chkS (aT.bnd p2) s2;let⟨_,go⟩:=hJ ρ2 H2 st2 x2 s2 c;let⟨g1,g2⟩:=go i w.ds[i] (ae B);refine .inr ⟨g1,λσ3 C=>∃ρ3 l3 st3,Ex ρ1 H1 ρ3 C/\LR X.K ρ3 C σ3 l3/\SR X.K ρ3 C st3/\aT X.K ρ3 C (o7 g cb w.same (w.ds.drop (i+1)) l3 st3) λf _ ρ' h=>match f with
    | .next l'=>∀σ',LR X.K ρ' h σ' l'->G.nx σ' h| .ret d=>∀v,dE X.K ρ' h v d->G.rt v h| .brk l'=>∀σ',LR X.K ρ' h σ' l'->G.bk σ' h
    | .cnt l'=>∀σ',LR X.K ρ' h σ' l'->G.ct σ' h,λσ3 C q=>⟨_,by ext,rfl,B,q⟩,λy C hy=>?_⟩
   let⟨Q,s3,l⟩:=g2 y C hy;refine⟨ρ2,l2,st2,_,lr2.mono Q,s3,l,(aT.left Q (aT.bnd p3)).imp λl4 U ρ4 H4 J Y p4 σ4 u=>⟨ρ4,l4,U,u,Y,(aT.bnd p4).imp λf I ρ5 H5 H L O=>?_⟩⟩;let E:Ex ρ1 H1 ρ5 H5:=(x2.trans Q).trans (J.trans H);cases f with|next l5=>exact λσ5 o=>⟨ρ5,l5,I,E,o,L,O⟩|cnt l5=>exact λσ5 o=>⟨ρ5,l5,I,E,o,L,O⟩|brk l5=>exact λσ5 o=>O.ret L σ5 o|ret d=>exact λv l=>O.ret L v l
  ·let e:i=w.ds.length:=by ext
   subst e;rw[zK]at p2;unfold o7 at p2;let⟨c,p3⟩:=aT.chkS (aT.bnd p2) s2;let⟨g1,_⟩:=hJ ρ2 H2 st2 x2 s2 c;exact .inl ⟨g1,p3.ret s2 σ2 lr2⟩⟩
end
section
variable{X:Cx}{a b c e tg:Expr}{ta tb:CT}{K:ah}{ρ:List ak}{H:Hp}{st:aZ}{id T:String}
def TL{n:Nat}(h:LR K ρ H σ l):LR K ρ H (z0 n ix σ) (im n ix l):=by
 unfold z0 im;refine⟨by simp,λi d e=>?_⟩;let u:n<=i:=sw λz=>by rw[ao (by simpa using z),fD]at e;split at e<;>cases e
 rw[aE (by simpa using u),fw,av]at e;cases q:ix[i-n]? with|none=>rw[q]at e;cases e|some k=>
  rw[q]at e;let g:(l[k]?).join=some d:=aM e;let E:l[k]?=some (some d):=by
   cases z:l[k]? with|none=>rw[z]at g;cases g|some o=>rw[z]at g;exact c_ some g
  let⟨v,C,B⟩:=h.2 k d E;refine⟨v,?_,B⟩;rw[aE (by simpa using u),fw,av,q]
  show some ((σ[k]?).join)=some (some v);rw[C];rfl
abbrev yJ(X:Cx)(g:List Expr)(t:CT):Prop:=wX X g (rg X.K t)
def TH:yJ X [] b7:=λg s σ H Q I h=>h.el λρ l st o sr p=>Qd8 g s σ H Q I (p.ret sr)
def Zi(h:ST X c ta):yJ X [c] ta:=YB h
def Ex.own(x:Ex ρ H ρ' g)(h:H q=none):Ex ρ H ρ' (fE g q (.lst ws)):=by
 let ne:∀b o,H b=some o->b≠q:=λb o e z=>by rw[z,h]at e;cases e
 exact⟨x.pre,λb o l e=>by rw[fS (ne b o e)];exact x.fix b o l e,λb xs u e=>by rw[fS (ne b _ e)];exact x.oth b xs u e,λb o e=>by rw[fS (ne b o e)];exact x.knd b o e⟩
def Up.own{g:Hp}(h:g q=some (.lst l)):Up ρ' g ρ' (fE g q (.lst ws)):=
 ⟨⟨[],by simp⟩,λb o u e=>by rw[fS λz=>by subst z;rw[h]at e;cases e;exact nomatch u];exact e,
  λb o e=>by
   by_cases z:b=q
   ·subst z;rw[h]at e;cases e;exact⟨_,kL,rfl⟩
   ·exact⟨o,by rw[fS z];exact e,rfl⟩⟩
theorem LR.up(x:Up ρ H ρ' g)(h:LR K ρ H σ l):LR K ρ' g σ l:=⟨h.1,λi d e=>let ⟨v,e1,r⟩:=h.2 i d e;⟨v,e1,r.up x⟩⟩
theorem SR.own(s:SR K ρ H st)(h:H q=some (.lst l))(u:q∉ρ):SR K ρ (fE H q (.lst ws)) st:=
 ⟨s.len,s.nd,λn b o g v=>n9.mono (o:=o) (Up.own h) (s.ob n b o g v) λB e=>by rw[fS (λ(z:b=q)=>u (by rw[<- z];exact ax g))];exact e⟩
def Ow{n:Nat}:∀σ H Q,FJ K (dU n ix ci g ta fa) σ H Q->wn (FD K ci) n ix (AF K g) (rg K ta) (Au K fa) σ H Q:=λσ H Q h_=>h_.el λρ l st lr sr p=>
 ⟨ρ,l,st,lr,sr,p.bnd0.imp λw cp ρ1 H1 x1 s1 p1 J hJ q hq=>by
  let⟨hz,p2⟩:=aT.chk p1;let hn:H q=none:=by
   cases z:H q with|none=>rfl|some o=>exact bh hq (x1.trk q o z)
  obtain⟨J0,I⟩:∃J0:Nat->Nat->St->Hp->Prop,J0=λi m σ' O=>m=w.ds.length-i/\i<=w.ds.length/\∃ρ' l' st' done h,Ex ρ H ρ' O/\Ex ρ1 H1 ρ' O/\LR K ρ' O σ' l'/\SR K ρ' O st'/\q∉ρ'/\O q=some (.lst h)/\bW K ρ' O h done/\done.length<=i /\
   aT K ρ H (collect g ta fa w.same (w.ds.drop i) l' st') (λrest B ρ2 u=>∀a ws,H a=none->a∉ρ2->u a=some (.lst ws)->bW K ρ2 u ws (done++rest)->Q (.ref a) u):=⟨_,rfl⟩
  refine⟨J0,
   ⟨w.ds.length,by rw[I];exact⟨by simp,bU _,ρ1,im n ix l,cp,[],[],x1.trans (Ex.new hq),Ex.new hq,TL ((lr.mono x1).mono (Ex.new hq)),s1.new hq,s1.fresh hq,kL,.nil,bU _,p2⟩⟩,?_⟩
  intro i m σ2 u hj;rw[I]at hj;let⟨rfl,hi,ρ2,l2,B,done,h,L,y2,lr2,s2,nq,hv,C,hd,p3⟩:=hj;by_cases G:i < w.ds.length
  ·let ed:w.ds.drop i=w.ds[i]::w.ds.drop (i+1):=dZ G;rw[ed]at p3;unfold collect at p3;let⟨sm,p4⟩:=aT.chkS (p3.bnd0.left L) s2;let⟨_,go⟩:=hJ ρ2 u B y2 s2 sm;let⟨g1,g2⟩:=go i w.ds[i] (ae G);refine .inr ⟨g1,λy H3 hy=>?_⟩;let⟨J,s3,rv⟩:=g2 y H3 hy;refine⟨ρ2,l2,B,_,lr2.mono J,s3,rv,(p4.bnd0.left (L.trans J)).imp λQ st4 ρ4 H4 x4 s4 p5 σ4 E=>⟨ρ4,Q,st4,E,s4,(p5.bnd0.left (L.trans (J.trans x4))).imp λb o ρ5 H5 H s5 p6=>?_⟩⟩;let U:Ex ρ2 u ρ5 H5:=J.trans (x4.trans H);let Y:∀{ρ':List ak}{O:Hp},Ex ρ2 u ρ' O->q∉ρ':=λz l=>by
    let⟨τ,e,f⟩:=z.pre;rw[e]at l;rcases aP.mp l with l|l
    ·exact nq l
    ·rw[f q l]at hv;cases hv
   cases b with|false=>exact⟨w.ds.length-(i+1),by ext,by rw[I];exact⟨rfl,G,ρ5,Q,o,done,h,L.trans U,y2.trans U,E.mono H,s5,Y U,U.lst q h nq hv,C.mono U,Nat.le_succ_of_le hd,p6⟩⟩|true=>
    refine⟨ρ5,Q,o,E.mono H,s5,(p6.bnd0.left (L.trans U)).imp λd st6 ρ6 H6 x6 s6 p7 v rv6=>?_⟩;let g:Ex ρ2 u ρ6 H6:=U.trans x6;let c:=g.lst q h nq hv;let u6:Up ρ6 H6 ρ6 (fE H6 q (.lst (h++[v]))):=Up.own c;refine⟨h,c,?_,w.ds.length-(i+1),by ext,?_⟩
    ·let g:=C.length;let c:w.ds.length<=sizeLine:=hz;ext
    ·rw[I];refine⟨rfl,G,ρ6,Q,st6,done++[d],h++[v],(L.trans g).own hn,(y2.trans g).own hq,LR.up u6 ((E.mono H).mono x6),s6.own c (Y g),Y g,kL,
     bW.app ((C.mono g).up u6) (.cons (rv6.up u6) .nil),by simp;ext,?_⟩
     refine p7.bnd0.imp λrest q ρ8 H8 o u B a ws U J O l=>?_;exact B ρ8 H8 o u a ws U J O (by rw[List.append_cons];exact l)
  ·let e:i=w.ds.length:=by ext
   subst e;rw[zK]at p3;unfold collect at p3;let⟨sm,p4⟩:=aT.chkS (p3.bnd0.left L) s2;let⟨g1,_⟩:=hJ ρ2 u B y2 s2 sm;refine .inl ⟨g1,p4 ρ2 u L s2 q h hn nq hv (by rw[bu];exact C)⟩⟩
def TM{n:Nat}(v:X.calm=true)(S:iy X scope)(T:kG X scope N n ix)(u:SI X tg b o)(l:∀(fp:List ak)(s:am)(H:Hp),SG (pq X N scope fp s H) tg g/\yJ (pq X N scope fp s H) h ta/\SE (pq X N scope fp s H) e fa)(q:∀x,fL b X.env x=pure x:=by intro _;rfl):SL X (.ListComp e [⟨tg,b,h,0⟩] scope pos) (dU n ix o g ta fa):=(Ub v S T u l q).of Ow
def ZA{n i:Nat}{o h:Pos}(hN:X.N.Nodup) (E:X.N[i]?=some y) (hy:L2.Loc X.env.scope y) (hf:X.fn y=true\/X.env.scope.names.lookup y=some .local)(hc:X.calm=true) (S:iy X scope) (T:kG X scope N n ix) (hi:SI X tg b L)(G:∀(fp:List ak)(s:am)(H:Hp),SG (pq X N scope fp s H) tg g/\yJ (pq X N scope fp s H) q ta/\SE (pq X N scope fp s H) e fa)(C:kM (.ListComp e [⟨tg,b,q,0⟩] scope pos) (some (.Name y o)) h.line X.env=pure true)(hs:∀x,fL b X.env x=pure x:=by intro _;rfl):SS X (.Assign [.Name y o] (.ListComp e [⟨tg,b,q,0⟩] scope pos) h) (cn (aS i) (eR (dU n ix L g ta fa))):=
 (Wn hN E hy hf hc S T hi G C hs).of (LV (λσ H Q h_=>h_.el λρ l st lr sr p=>Ow _ _ _ ⟨ρ,l,st,lr,sr,p.bnd0.imp λds U ρ1 O v I Y a vs ha c J B=>by
  let x:Ex ρ H (ρ1++[a]) O:=by
   let⟨τ,e,f⟩:=v.pre;refine⟨⟨τ++[a],by rw[e,br],λb u=>?_⟩,v.fix,v.oth,v.knd⟩;rcases aP.mp u with u|u
   ·exact f b u
   ·rw[aA]at u;rw[u];exact ha
  refine Y (ρ1++[a]) O x (I.keep J c B) _ (.ref ⟨_,J,rfl⟩ ?_);rw[<- I.len];simp⟩) QI)
def M7(O : CallR X (.builtin id) (λxs H Q => ∃v, xs = [v] /\ yG X.K g v H Q))(L : Gl X x)(J : X.mg x = none)(G : cZ x = some (.builtin id))(U : SE X e fa)(I : x ≠ "__name__" := by decide)(o : (x == ("__debug__" : Str)) = false := by decide)
  (q:starEach [e] X.env=[(false,eval e X.env)]:=by rfl):SE X (.Call (.Name x p) [e] [] pos) (c1 g fa):=
 (HP O L J G (sB U vg q) I o q rfl).of λσ H Q Y=>Y.el λρ l st E sr p=>⟨ρ,l,st,E,sr,p.bnd.imp λd h ρ1 H1 c u C v B=>⟨v,rfl,ρ1,h,d,u,B,C⟩⟩
def JV(O : CallR X (.type T) (λxs H Q => ∃v, xs = [v] /\ yG X.K g v H Q))(L : Gl X x)(J : X.mg x = none)(G : cZ x = some (.type T))(U : SE X e fa)(I : x ≠ "__name__" := by decide)(o : (x == ("__debug__" : Str)) = false := by decide)
  (q:starEach [e] X.env=[(false,eval e X.env)]:=by rfl):SE X (.Call (.Name x p) [e] [] pos) (c1 g fa):=
 (Kg O L J G (sB U vg q) I o q rfl).of λσ H Q Y=>Y.el λρ l st E sr p=>⟨ρ,l,st,E,sr,p.bnd.imp λd h ρ1 H1 c u C v B=>⟨v,rfl,ρ1,h,d,u,B,C⟩⟩
def BD(K:ah)(g:List D->M D):List V->Hp->VK->Prop:=λxs H Q=>∃a h ρ st ds,xs=[.ref a]/\gS K H a h/\SR K ρ H st/\bW K ρ H h ds/\aT K ρ H (g ds st) λr _ ρ' l=>∀v,dE K ρ' l v r->Q v l
def Jf(U : CallR X (.builtin id) (BD X.K g))(O : Gl X x)(L : X.mg x = none)(q : cZ x = some (.builtin id))(B : SL X e ca)(J : x ≠ "__name__" := by decide)(u : (x == ("__debug__" : Str)) = false := by decide)
  (v:starEach [e] X.env=[(false,eval e X.env)]:=by rfl):SE X (.Call (.Name x p) [e] [] pos) (iM g ca):=
 (HP U O L q (sB B vg v) J u v rfl).of λσ H Q Y=>Y.el λρ l st I sr p=>⟨ρ,l,st,I,sr,p.bnd.imp λds h ρ1 H1 c E G a C B na q o=>⟨a,C,ρ1,h,ds,rfl,gS.of q,E,o,G⟩⟩
def Ur(U : CallR X (.type T) (BD X.K g))(O : Gl X x)(L : X.mg x = none)(q : cZ x = some (.type T))(B : SL X e ca)(J : x ≠ "__name__" := by decide)(u : (x == ("__debug__" : Str)) = false := by decide)
  (v:starEach [e] X.env=[(false,eval e X.env)]:=by rfl):SE X (.Call (.Name x p) [e] [] pos) (iM g ca):=
 (Kg U O L q (sB B vg v) J u v rfl).of λσ H Q Y=>Y.el λρ l st I sr p=>⟨ρ,l,st,I,sr,p.bnd.imp λds h ρ1 H1 c E G a C B na q o=>⟨a,C,ρ1,h,ds,rfl,gS.of q,E,o,G⟩⟩
def Uq{s:am}{K:Type}[DecidableEq K]{knd:qx prog w K}{xs:List (K×ak×ag)}{Q:ag->am->Prop}(hd:(d == cH)=false)(q:s.heap.DictOfH knd d xs)(hfit:(xs.length:Int) < 2^63)(h:Q (.int xs.length (s.toks+1)) { s with toks:=s.toks+1+1 }):aG (aY prog w) A (call (.builtin "len") [.ref d]) Q E s:=by
 refine Calls.call_function_entry kind_len plain_len entry_len (args_len1 _) ?_;unfold Builtin.«len»;let l:MeetsIn prog w (Builtin.«dict.__len__» ⟨[.ref d],[]⟩) (λ_ R s=>∃xs,s.heap.DictOfH knd d xs/\R (.ok (.ret (.int xs.length s.toks))) { s with toks:=s.toks+1 }):=.of_wp λA R s g=>by
  let⟨xs,q,h⟩:=g;let⟨o,es,ep,v,G,u,B,_,C⟩:=q
  show aG _ _ (dictSize d >>= _) _ _ s;unfold dictSize;refine ab (ab (dD v u (ai ?_)))
  show aG _ _ (Builtin.Dict.pendingCount d >>= _) _ _ s;refine ab (wpAny_pendingCount_other hd ?_);refine IZ ?_;rw[HA,iA B];exact h
 refine ab (m:=oneArg "len" _) (ai ?_);refine ab (m:=callSpecial? (.ref d) (az "__len__")) (bN (name:=az "__len__") q.typeIs D7
  (zn D7 q.typeIs F.entry_dict_len (F.args_dict_len_1 _) l ⟨xs,q,?_⟩))
 show aG _ _ _ _ _ { s with toks:=s.toks+1 };refine ab (bV (ai ?_));refine ab (iX ?_)
 show aG _ _ (if ((xs.length:Nat):Int) < 0 then _ else _) _ _ _;rw[aD ()]
 show aG _ _ (if ((xs.length:Nat):Int) ≥ 2^63 then _ else _) _ _ _;rw[aD ()];exact ab (wpAny_mkInt (ai ⟨_,rfl,h⟩))
def XD:CallR X (.builtin "len") (λxs H Q=>∃(ρ:List ak)(st:aZ)(n:Nat)(a:ak)(b:Bool)(l:List (D×D)),xs=[.ref a]/\SR X.K ρ H st/\ρ[n]?=some a/\st[n]?=some (.dct b l)/\Q (.int l.length) H):=by
 intro v s σ H xs L Q I r h;let⟨ρ,st,n,a,b,l,e,sr,E,C,q⟩:=h;subst e;let⟨u,rfl,B⟩:=w8 r;cases B;let g:=sr.ob n a _ E C;cases b with
 |false=>
  let⟨es,e,r⟩:=g;rw[<- KR.length r]at q;exact Wq I (.inl e) λt O J=>⟨.int es.length,H,J,⟨t,rfl⟩,q⟩
 |true=>
  let⟨es,e,r⟩:=g;let⟨z,hd,xs,o,G,_⟩:=zB I e r;rw[<- NR.length r,cV o]at q;let hz:xs.length<=sizeLine:=by rw[<- cV o];exact z
  exact Uq hd G (by rw[kN]at hz;ext) ⟨.int xs.length,H,I.tok _,⟨_,rfl⟩,q⟩
def Qfk:CallR X (.builtin "len") (λxs H Q=>∃v,xs=[v]/\yG X.K gO v H Q):=((R3.or Ug).or XD).of λxs H Q l=>by
 let⟨v,e,ρ,st,d,sr,C,p⟩:=l;cases C with
 |@tup a g ds h r=>exact .inl (.inl ⟨a,g,e,.inr h,by rw[r.length];exact p.ret sr _ (.int _)⟩)|@lit a g ds h r=>exact .inl (.inl ⟨a,g,e,.inl h.seq,by rw[r.length];exact p.ret sr _ (.int _)⟩)|@ref a n _ h=>
  let⟨ds,u,o⟩:=aT.getL (aT.bnd p) sr;let⟨G,g,B,E,r⟩:=sr.seq u;rw[h]at B;cases B;exact .inl (.inl ⟨a,g,e,.inl (gS.of E),by rw[r.length];exact o.ret sr _ (.int _)⟩)
 |str z=>exact .inl (.inr ⟨z,e,(aT.chk p).1,(aT.chk p).2.ret sr _ (.int _)⟩)|@dic a n _ h=>
  let⟨b,q,u,o⟩:=aT.getDc (aT.bnd p) sr;exact .inr ⟨ρ,st,n,a,b,q,e,sr,h,u,o.ret sr _ (.int _)⟩
 |_=>exact p.elim
def XM:CallR X (.type "int") (λxs H Q=>∃v,xs=[v]/\yG X.K intD v H Q):=QbF.of λxs H Q g=>by
 let⟨v,e,ρ,st,d,sr,h,p⟩:=g;cases h with|int i=>exact .inl ⟨i,e,p.ret sr _ (.int _)⟩|bl k=>exact .inr ⟨k,e,p.ret sr _ (.int _)⟩|_=>exact p.elim
def Sf:CallR X (.type "tuple") (λxs H Q=>∃v,xs=[v]/\yG X.K tupleD v H Q):=Np.of λxs H Q q=>by
 let⟨v,e,ρ,st,d,sr,B,p⟩:=q;cases B with
 |@tup a o ds h r=>exact⟨a,o,e,.inr ⟨h,p.ret sr _ (.tup h r)⟩⟩|@lit a o ds h r=>exact⟨a,o,e,.inl ⟨h.seq,λl g=>p ρ _ (Ex.new g) (sr.new g) _ (.tup (ml.of kL) (r.mono (Ex.new g)))⟩⟩|@ref a n _ h=>
  let⟨ds,G,C⟩:=aT.getL (aT.bnd p) sr;let⟨I,o,u,E,r⟩:=sr.seq G;rw[h]at u;cases u;exact⟨a,o,e,.inl ⟨gS.of E,λl g=>C ρ _ (Ex.new g) (sr.new g) _ (.tup (ml.of kL) (r.mono (Ex.new g)))⟩⟩
 |_=>exact p.elim
def Qfn:CallR X (.type "tuple") (BD X.K lE):=Np.of λxs H Q g=>
 by let⟨a,o,ρ,st,ds,e,q,sr,r,p⟩:=g;exact⟨a,o,e,.inl ⟨q,λl h=>p ρ _ (Ex.new h) (sr.new h) _ (.tup (ml.of kL) (r.mono (Ex.new h)))⟩⟩
end
section
variable{X:Cx}{ta tb:CT}{K:ah}{st:aZ}
def Ng(h:n5 ds=some o)(g:bW K ρ H l ds):l=o.map V.int:=by
 induction ds generalizing o l with|nil=>cases g;cases h;rfl|cons d ds ih=>
  cases g with|cons r t=>
   cases r with
   |int i=>
    unfold n5 at h;cases q:n5 ds with|none=>rw[q]at h;cases h|some ms=>
     rw[q]at h;let h':i::ms=_:=aM h;subst h';rw[ih q t];rfl
   |_=>cases h
theorem HS:∀{ds:List D}{l:List Bool}{g:List V},iU ds=some l->bW K ρ H g ds->g=l.map V.bl
 |[],_,_,h,.nil=>by cases h;rfl
 | .bl i::ds,_,_,h,.cons r t=>by
  unfold iU at h;cases q:iU ds with|none=>rw[q]at h;cases h|some ms=>
   rw[q]at h;let h':i::ms=_:=aM h;subst h';cases r;rw[HS q t];rfl
 | .non::_,_,_,h,_=>by cases h| .int _::_,_,_,h,_=>by cases h| .str _::_,_,_,h,_=>by cases h| .tup _::_,_,_,h,_=>by cases h| .lit _::_,_,_,h,_=>by cases h| .ref _::_,_,_,h,_=>by cases h
theorem M4:∀{bs:List Bool}{g:List ag},cq (bs.map V.bl) g->g=bs.map dB
 |[],_,.nil=>rfl|_::_,_,.cons r t=>by cases r;rw[M4 t];rfl
def T4(hc:X.calm=true):CallR X (.builtin "all") (λxs H Q=>∃(l:ak)(bs:List Bool),xs=[.ref l]/\gS X.K H l (bs.map V.bl)/\Q (.bl (bs.all id)) H):=by
 intro O s σ H xs us Q I r h;let⟨l,bs,rfl,hq,q⟩:=h;let⟨u,rfl,rx⟩:=w8 r;cases rx;let⟨its,rv,C,hz⟩:=I.list hq;let ei:=M4 rv;subst ei;refine call_all_walk (fK C.isList ?_);let G:l < s.heap.objs.size:=by let⟨o,E,_⟩:=C.isList;exact aL E
 refine⟨s.heap.objs.size,_,_,_,_,_,λi=>(bs[i]?).getD true,rfl,tf (A:=X.A.in1) (I.ok.hd hc) s.heap.objs.size l (ba G) (bs.map dB).toArray,⟨⟨_,ay _ rfl,rfl,rfl⟩,?_⟩,?_,λh' c J=>?_⟩
 ·let⟨o,E,c⟩:=C.isList;exact⟨o,aj _ E,c⟩
 ·intro i v h l o c L;let g:(bs.map dB)[i]?=some v:=by simpa using c
  rw[av]at g;dsimp only at L;cases e:bs[i]? with|none=>rw[e]at g;cases g|some k=>
   rw[e]at g L;have:v=dB k:=(aM g).symm;subst this;exact fJ L
 ·let e : (bT (bs.map dB).toArray.size).all (λi => (bs[i]?).getD true) = bs.all id := by
    let g:(bs.map dB).toArray.size=bs.length:=by simp
    rw[g,sH,dW,dW];constructor
    ·intro hh k J;let⟨i,B⟩:=lB J;have:=hh i (bY.mpr (ac.mp B).1);rw[B]at this;exact this
    ·intro hh i B;let U:=bY.mp B;rw[ae U];exact hh _ (bo U)
  rw[e];exact⟨.bl _,H,I.kept (t':=c) λb o Y=>J b o (by simp;exact ba (aL Y)) (aj _ Y),rfl,q⟩
def Tj(hc:X.calm=true):CallR X (.builtin "any") (λxs H Q=>∃(l:ak)(bs:List Bool),xs=[.ref l]/\gS X.K H l (bs.map V.bl)/\Q (.bl (bs.any id)) H):=by
 intro O s σ H xs us Q I r h;let⟨l,bs,rfl,hq,q⟩:=h;let⟨u,rfl,rx⟩:=w8 r;cases rx;let⟨its,rv,C,hz⟩:=I.list hq;let ei:=M4 rv;subst ei;refine call_any_walk (fK C.isList ?_);let G:l < s.heap.objs.size:=by let⟨o,E,_⟩:=C.isList;exact aL E
 refine⟨s.heap.objs.size,_,_,_,_,_,λi=>(bs[i]?).getD true,rfl,tf (A:=X.A.in1) (I.ok.hd hc) s.heap.objs.size l (ba G) (bs.map dB).toArray,⟨⟨_,ay _ rfl,rfl,rfl⟩,?_⟩,?_,λh' c J=>?_⟩
 ·let⟨o,E,c⟩:=C.isList;exact⟨o,aj _ E,c⟩
 ·intro i v h l o c L;let g:(bs.map dB)[i]?=some v:=by simpa using c
  rw[av]at g;dsimp only at L;cases e:bs[i]? with|none=>rw[e]at g;cases g|some k=>
   rw[e]at g L;have:v=dB k:=(aM g).symm;subst this;exact fJ L
 ·let e : (bT (bs.map dB).toArray.size).any (λi => (bs[i]?).getD true) = bs.any id := by
    let g:(bs.map dB).toArray.size=bs.length:=by simp
    rw[g,sH,iI,iI];constructor
    ·rintro ⟨i,B,hh⟩
     let U:=bY.mp B;rw[ae U]at hh;exact⟨_,bo U,hh⟩
    ·rintro ⟨k,J,hh⟩
     let⟨i,B⟩:=lB J;exact⟨i,bY.mpr (ac.mp B).1,by rw[B];exact hh⟩
  rw[e];exact⟨.bl _,H,I.kept (t':=c) λb o Y=>J b o (by simp;exact ba (aL Y)) (aj _ Y),rfl,q⟩
theorem JG:∀(g:List Int)(n:Int),g.foldl max n∈n::g/\∀a∈n::g,a<=g.foldl max n
 |[],n=>⟨by simp,by simp⟩
 |m::g,n=>by
  let⟨u,l⟩:=JG g (max n m);rw[AM];refine⟨?_,λa q=>?_⟩
  ·rcases aR.mp u with e|e
   ·rw[e];by_cases o:n<=m
    ·rw[Int.max_eq_right o];simp
    ·rw[Int.max_eq_left ()];simp
   ·exact bO _ (bO _ e)
  ·let h:=l (max n m) cP;rcases aR.mp q with e|e
   ·subst e;exact HB (Int.le_max_left ..) h
   ·rcases aR.mp e with e|e
    ·subst e;exact HB (Int.le_max_right ..) h
    ·exact l a (bO _ e)
def Qx(l:lU g h):∃xs,g.toArray=vT xs/\h=xs.toList.map (·.1):=by let⟨xs,e⟩:=l.allInts.items;exact⟨xs,e,by rw[<- l.numsOf,<- nums_intItems,<- e]⟩
def VX(hc:X.calm=true):CallR X (.builtin "max") (λxs H Q=>∃(l:ak)(n:Int)(g:List Int),xs=[.ref l]/\gS X.K H l ((n::g).map V.int)/\Q (.int (g.foldl max n)) H):=by
 intro E s σ H xs us Q I r h;let⟨l,n,g,rfl,hq,q⟩:=h;let⟨u,rfl,Y⟩:=w8 r;cases Y;let⟨its,c,pl,hz⟩:=I.list hq;let⟨ys,e,o⟩:=Qx (MU c);let G:=pl.isList;rw[e]at G;let hsz:ys.size=g.length+1:=by have:=c_ d7 o;simpa using this.symm
 refine max_intList (I.ok.hd hc) G () λv h' U hv hk=>?_;let⟨t,rfl⟩:=AN hv;let⟨b1,O⟩:=argBest_gt (oR ys) (ys.size-1);let⟨L,f2⟩:=JG g n;generalize nV (λi j=>decide (oR ys i > oR ys j)) (ys.size-1)=k at b1 O ⊢;let B:oR ys k∈n::g:=by rw[o,AO];exact getD_mem (by rw[<- o];simp;ext)
 let C:g.foldl max n<=oR ys k:=by rw[o]at L;let⟨j,J,ej⟩:=mem_getD L;rw[<- ej,<- AO];exact O j (by rw[<- o]at J;simp at J;ext)
 let hM:oR ys k=g.foldl max n:=Bp (f2 _ B) C;rw[hM];exact⟨.int _,H,I.kept (t':=U) hk,⟨t,rfl⟩,q⟩
def Zb(l:X.calm=true):CallR X (.builtin "all") (BD X.K wK):=(T4 l).of λxs H Q g=>by
 let⟨a,o,ρ,st,ds,e,h,sr,r,p⟩:=g;unfold wK at p;cases q:iU ds with|none=>rw[q]at p;exact p.elim|some bs=>
  rw[q]at p;have:=HS q r;subst this;exact⟨a,bs,e,h,p.ret sr _ (.bl _)⟩
def Zd(l:X.calm=true):CallR X (.builtin "any") (BD X.K wY):=(Tj l).of λxs H Q g=>by
 let⟨a,o,ρ,st,ds,e,h,sr,r,p⟩:=g;unfold wY at p;cases q:iU ds with|none=>rw[q]at p;exact p.elim|some bs=>
  rw[q]at p;have:=HS q r;subst this;exact⟨a,bs,e,h,p.ret sr _ (.bl _)⟩
def Nf(l:X.calm=true):CallR X (.builtin "max") (BD X.K n0):=(VX l).of λxs H Q g=>by
 let⟨a,o,ρ,st,ds,e,h,sr,r,p⟩:=g;unfold n0 at p;cases q:n5 ds with|none=>rw[q]at p;exact p.elim|some ns=>
  rw[q]at p;have:=Ng q r;subst this;cases ns with|nil=>exact p.elim|cons n ns=>exact⟨a,n,ns,e,h,p.ret sr _ (.int _)⟩
end
section
variable{K:ah}{st:aZ}{s:am}
theorem J7:∀{xs ys:List D}{r:Bool},og f xs ys=some r->∀(j:Nat)(x y:D),xs[j]?=some x->ys[j]?=some y->∃k,f x y=some k
 |[],_,_,_,j,x,y,h,_=>by cases j<;>cases h|_::_,[],_,_,j,x,y,_,h=>by cases j<;>cases h
 |a::xs,b::ys,r,h,j,x,y,hx,hy=>by
  unfold og at h;cases e:f a b with|none=>rw[e]at h;cases h|some k=>
   cases j with|zero=>cases hx;cases hy;exact⟨k,e⟩|succ j=>
    rw[e]at h;let g:xs[j]?=some x:=hx;let c:ys[j]?=some y:=hy;cases k with|true=>exact J7 h j x y g c|false=>
     cases l:og f xs ys with|none=>rw[l]at h;cases h|some r'=>exact J7 l j x y g c
noncomputable def DH(f:D->D->Option Bool)(xs ys:List D)(j:Nat):Bool:=match xs[j]?,ys[j]? with|some x,some y=>(f x y).getD false|_,_=>true
theorem OS:∀{xs ys:List D}{r:Bool},og f xs ys=some r->r=((bT (min xs.length ys.length)).all (DH f xs ys)&&xs.length == ys.length)
 |[],[],_,h=>by cases h;rfl|_::_,[],_,h=>by cases h;simp|[],_::_,_,h=>by cases h;simp
 |a::xs,b::ys,r,h=>by
  let step:(bT (min (a::xs).length (b::ys).length)).all (DH f (a::xs) (b::ys))=((f a b).getD false&&(bT (min xs.length ys.length)).all (DH f xs ys)):=by
   let e:min (a::xs).length (b::ys).length=min xs.length ys.length+1:=by simp only[b8];ext
   rw[e,nW,cE,D8];rfl
  rw[step];unfold og at h;cases e:f a b with|none=>rw[e]at h;cases h|some k=>
   rw[e]at h;cases k with
   |true=>
    have:=OS h;simp only[iC,Bool.true_and,b8];rw[this];congr 1;rw[sH];simp
   |false=>
    simp only[iC,tR];cases c:og f xs ys with|none=>rw[c]at h;cases h|some r'=>rw[c]at h;cases h;rfl
theorem cq.at{j:Nat}(r:cq c g)(h:g[j]?=some u):∃v,c[j]?=some v/\RelV v u:=by
 let q:=r.length;let l:j < c.length:=by rw[q];exact (ac.mp h).1
 let⟨u',e,o⟩:=r.get (ae l);rw[h]at e;cases e;exact⟨_,ae l,o⟩
theorem bW.at{j:Nat}(r:bW K ρ H c ds)(h:c[j]?=some v):∃d,ds[j]?=some d/\dE K ρ H v d:=by
 let o:=r.length;let g:j < ds.length:=by rw[<- o];exact (ac.mp h).1
 let⟨q,e,l⟩:=r.get (ae g);rw[h]at e;cases e;exact⟨_,ae g,l⟩
def P0{g:List D->List D->Option Bool}(I:Inv X ar σ H s)(C:∀xs ys q k,bW X.K ρ H q xs->bW X.K ρ H q ys->g xs ys=some k->k=true)(h:Iq g d e=some r)(o:dE X.K ρ H v d)(l:dE X.K ρ H v e):r=true:=by
 cases d with
 |non=>cases e<;>first|(cases h;rfl)|(cases h;done)|exact nomatch (show v=_ from o.inv).symm.trans (show v=_ from l.inv)|skip
 |bl b=>
  cases e with|bl c=>cases (show v=_ from o.inv).symm.trans (show v=_ from l.inv);cases h;simp|_=>cases h
 |int b=>
  cases e with|int c=>cases (show v=_ from o.inv).symm.trans (show v=_ from l.inv);cases h;simp|non=>exact nomatch (show v=_ from o.inv).symm.trans (show v=_ from l.inv)|_=>cases h
 |str b=>
  cases e with|str c=>cases (show v=_ from o.inv).symm.trans (show v=_ from l.inv);cases h;simp|_=>cases h
 |tup xs=>
  let⟨a,q,rfl,G,B⟩:=o.inv;cases e with
  |tup ys=>
   let⟨J,ws,e,E,u⟩:=l.inv;cases e;have:=I.tuple_inj G E;subst this;exact C _ _ _ _ B u h
  |_=>cases h
 |_=>cases h
def Ra{f:D->D->Option Bool}(q:∀v d e k,dE K ρ H v d->dE K ρ H v e->f d e=some k->k=true)(o:bW K ρ H g xs)(l:bW K ρ H g ys)(h:og f xs ys=some k):k=true:=by
 induction xs generalizing ys g k with|nil=>cases o;cases l;cases h;rfl|cons x xs ih=>
  cases o with
  |cons a b=>cases l with|cons c d=>
    unfold og at h;cases e:f _ _ with|none=>rw[e]at h;cases h|some k=>
     rw[e]at h;have:=q _ _ _ _ a c e;subst this;exact ih b d h
theorem Qz(I:Inv X ar σ H s):∀(n:Nat){v:V}{d e:D}{r:Bool},p9 n d e=some r->dE X.K ρ H v d->dE X.K ρ H v e->r=true
 |0,_,_,_,_,h,r1,r2=>P0 I (λ_ _ _ _ _ _ z=>by cases z) h r1 r2|n+1,_,_,_,_,h,r1,r2=>P0 I (λxs ys o k l g z=>Ra (λv d e k a b c=>Qz I n c a b) l g z) h r1 r2
open SeqAt in
noncomputable abbrev Zu(A:bI)(s:am)(g c:ag)(r:Bool):Prop:=RcAt A s g c r/\RcNeAt A s g c (!r)/\EqAt A s g c r
open SeqAt in
def Pb{g:List D->List D->Option Bool}{A:bI}(I:Inv X ar σ H s)(hu:A.units < cS)(hg:∀xs ys k,g xs ys=some k->∀q ws its c,bW X.K ρ H q xs->bW X.K ρ H ws ys->cq q its->cq ws c ->∃e:Nat->Bool,k=((bT (min its.length c.length)).all e&&its.length == c.length)/\∀(j:Nat)x y,its[j]?=some x->c[j]?=some y->EqAt A.in1 s x y (e j))(hs:∀xs ys q k,bW X.K ρ H q xs->bW X.K ρ H q ys->g xs ys=some k->k=true)(h:Iq g d e=some r) (C:dE X.K ρ H v d) (B:dE X.K ρ H w e) (v1:RelV v u) (v2:RelV w o):Zu A s u o r:=by
 cases d with
 |non=>
  cases (show v=_ from C.inv);cases (show u=cB from v1);cases e with|non=>cases (show w=_ from B.inv);cases (show o=cB from v2);cases h;exact⟨.none_none,.none_none,.same _⟩|int b=>cases (show w=_ from B.inv);let⟨t,rfl⟩:=(show ∃t,o=kS b t from v2);cases h;exact⟨.none_int b t,.none_int b t,.none_int b t⟩|_=>cases h
 |bl a=>
  cases e with|bl b=>cases (show v=_ from C.inv);cases (show w=_ from B.inv);cases (show u=dB a from v1);cases (show o=dB b from v2);cases h;exact⟨.bool_bool a b,.bool_bool a b,.bool_bool a b⟩|_=>cases h
 |int a=>
  cases (show v=_ from C.inv);let⟨l,rfl⟩:=(show ∃t,u=kS a t from v1)
  cases e with|non=>cases (show w=_ from B.inv);cases (show o=cB from v2);cases h;exact⟨.int_none a l,.int_none a l,.int_none a l⟩|int b=>cases (show w=_ from B.inv);let⟨t,rfl⟩:=(show ∃t,o=kS b t from v2);cases h;exact⟨.int_int a l b t,.int_int a l b t,.int_int a l b t⟩|_=>cases h
 |str a=>
  cases e with|str b=>cases (show v=_ from C.inv);cases (show w=_ from B.inv);let⟨l,rfl⟩:=(show ∃t,u=rj a t from v1);let⟨t,rfl⟩:=(show ∃t,o=rj b t from v2);cases h;exact⟨.str_str a l b t,.str_str a l b t,.str_str a l b t⟩|_=>cases h
 |tup xs=>
  let⟨l1,q,rfl,h1,Q⟩:=C.inv;cases (show u=bD _ from v1);let⟨its,rv,p,_⟩:=I.tuple h1;cases e with
  |tup ys=>
   let⟨l2,ws,rfl,h2,O⟩:=B.inv;cases (show o=bD _ from v2);let⟨c,J,U,_⟩:=I.tuple h2;let⟨ef,ek,he⟩:=hg xs ys r h q ws its c Q O rv J;let E:∀j(a1:j < its.toArray.size)(a2:j < c.toArray.size),EqAt A.in1 s its.toArray[j] c.toArray[j] (ef j):=λj a1 a2=>
    he j _ _ (by rw[fY];exact ae (by simpa using a1)) (by rw[fY];exact ae (by simpa using a2))
   let G:=RcAt.tuples (A:=A) (s:=s) p U hu E;let L:=RcNeAt.tuples (A:=A) (s:=s) p U hu E;simp only[aI]at G L;rw[<- ek]at G L;refine⟨G,L,?_⟩;by_cases Y:l1=l2
   ·subst Y;have:=I.tuple_inj h1 h2;subst this;rw[hs xs ys q r Q O h];exact .same _
   ·exact .of_refs Y G
  |_=>cases h
 |_=>cases h
open SeqAt in
def PD{n:Nat}(I:Inv X ar σ H s)(ih:∀{v w:V}{u q:ag}{d e:D}{r:Bool},p9 n d e=some r->dE X.K ρ H v d->dE X.K ρ H w e->RelV v u->RelV w q->EqAt A s u q r)(h:og (p9 n) xs ys=some k)  (E:bW X.K ρ H o xs) (C:bW X.K ρ H ws ys) (B:cq o its) (g:cq ws c):∃e:Nat->Bool,k=((bT (min its.length c.length)).all e&&its.length == c.length)/\∀(j:Nat)x y,its[j]?=some x->c[j]?=some y->EqAt A s x y (e j):=by
 refine⟨DH (p9 n) xs ys,?_,λj x y hx hy=>?_⟩
 ·let l:=B.length;let c:=g.length;let Y:=E.length;let U:=C.length;rw[<- l,<- c,Y,U];exact OS h
 ·let⟨v,o,L⟩:=cq.at B hx;let⟨w,c,l⟩:=cq.at g hy;let⟨d,hd,Q⟩:=bW.at E o;let⟨e,J,O⟩:=bW.at C c;let⟨r,G⟩:=J7 h j d e hd J;have:DH (p9 n) xs ys j=r:=by unfold DH;rw[hd,J];dsimp only;rw[G];rfl
  rw[this];exact ih G Q O L l
open SeqAt in
theorem HM(I:Inv X ar σ H s):∀(n:Nat){A:bI}{v w:V}{q o:ag}{d e:D}{r:Bool},A.units+n < cS->p9 n d e=some r->dE X.K ρ H v d->dE X.K ρ H w e->RelV v q->RelV w o->RcAt A s q o r/\RcNeAt A s q o (!r)/\EqAt A s q o r
 |0,_,_,_,_,_,_,_,_,hu,h,l,g,v1,v2=>Pb I hu (λ_ _ _ z=>by cases z) (λ_ _ _ _ _ _ z=>by cases z) h l g v1 v2
 | n+1, A, _, _, _, _, _, _, _, hu, h, l, g, v1, v2 => Pb I ()
   (λxs ys k z G ws its E C B J u=>PD I (λh l g v1 v2=>(HM I n (A:=A.in1) (by show A.units+1+n < cS;ext) h l g v1 v2).2.2) z C B J u)
   (λxs ys G k C B z=>Ra (λv d e k a b c=>Qz I n c a b) C B z) h l g v1 v2
end
section
variable{X:Cx}{K:ah}{st:aZ}
open SeqAt in
def RN(hu:X.A.units+60 < cS)(I:Inv X ar σ H s)(sr:SR X.K ρ H st)(J:dE X.K ρ H x d)(G:dE X.K ρ H y e)(rx:RelV x v)(ry:RelV y u)(p:aT X.K ρ H (Kh d e st) R):∃r,R r st ρ H/\RcAt X.A s v u r/\RcNeAt X.A s v u (!r):=by
 let g:X.A.units < cS:=by ext
 let E:aT X.K ρ H ((match p9 50 d e with|some r=>ret r|none=>bad:M Bool) st) R->∃r,R r st ρ H/\RcAt X.A s v u r/\RcNeAt X.A s v u (!r):=λq=>by
  cases h:p9 50 d e with|none=>rw[h]at q;exact q.elim|some r=>
   rw[h]at q;let⟨k1,k2,_⟩:=HM I 50 (A:=X.A) () h J G rx ry;exact⟨r,q.ret sr,k1,k2⟩
 cases d with
 |non=>
  cases e with
  |ref n=>
   obtain⟨a,rfl,_,h⟩:∃a,y=.ref a/\_/\_:=G.inv;cases (show x=.non from J.inv);let⟨ds,e2,O⟩:=aT.getL (aT.bnd p) sr;let⟨a',vs,B,Q,r⟩:=sr.seq e2;rw[h]at B;cases B;cases (show v=cB from rx);cases (show u=bD a from ry);let⟨_,_,l,_⟩:=I.list (gS.of Q);exact⟨false,O.ret sr,.none_list l.isList g,.none_list l.isList g⟩
  |_=>exact E p
 |ref n=>
  cases e with
  |non=>
   obtain⟨a,rfl,_,h⟩:∃a,x=.ref a/\_/\_:=J.inv;cases (show y=.non from G.inv);let⟨ds,e2,O⟩:=aT.getL (aT.bnd p) sr;let⟨a',vs,B,Q,r⟩:=sr.seq e2;rw[h]at B;cases B;cases (show u=cB from ry);cases (show v=bD a from rx);let⟨_,_,l,_⟩:=I.list (gS.of Q);exact⟨false,O.ret sr,.list_none l.isList g,.list_none l.isList g⟩
  |ref m=>
   obtain⟨a,rfl,_,h⟩:∃a,x=.ref a/\_/\_:=J.inv;obtain⟨b,rfl,_,h'⟩:∃a,y=.ref a/\_/\_:=G.inv;let⟨xs,e2,O⟩:=aT.getL (aT.bnd p) sr;let⟨ys,e3,C⟩:=aT.getL (aT.bnd O) sr;let⟨a',vs,B,Q,q1⟩:=sr.seq e2;let⟨b',ws,hb,hw,q2⟩:=sr.seq e3;rw[h]at B;cases B;rw[h']at hb;cases hb;cases (show v=bD a from rx);cases (show u=bD b from ry);let⟨its,rv,l,_⟩:=I.list (gS.of Q);let⟨c,L,o,_⟩:=I.list (gS.of hw);let l1:=rv.length;let l2:=L.length;let l3:=q1.length;let l4:=q2.length;by_cases hl:xs.length=ys.length
   ·rw[aH hl]at C;cases q:og (p9 50) xs ys with|none=>rw[q]at C;exact C.elim|some r=>
     rw[q]at C;let⟨v,H,E⟩:=PD (A:=X.A.in1) I (λh J G v1 v2=>(HM I 50 (A:=X.A.in1) (by show X.A.units+1+50 < cS;ext) h J G v1 v2).2.2) q q1 q2 rv L;let hsz:its.toArray.size=c.toArray.size:=by rw[aI,aI];ext
     let Y:∀j(a1:j < its.toArray.size)(B:j < c.toArray.size),EqAt X.A.in1 s its.toArray[j] c.toArray[j] (v j):=λj a1 B=>
      E j _ _ (by rw[fY];exact ae (by simpa using a1)) (by rw[fY];exact ae (by simpa using B))
     let u:(bT its.toArray.size).all v=r:=by
      rw[H,aI];have:its.length=c.length:=by ext
      rw[this];simp
     let k1:=RcAt.lists (A:=X.A) (s:=s) l.isList o.isList hsz g Y;let k2:=RcNeAt.lists (A:=X.A) (s:=s) l.isList o.isList hsz g Y;rw[u]at k1 k2;exact⟨r,C.ret sr,k1,k2⟩
   ·rw[aD hl]at C;let U:(its.toArray.size != c.toArray.size)=true:=by rw[aI,aI];simp;ext
    exact⟨false,C.ret sr,.lists_lengths l.isList o.isList U g,.lists_lengths l.isList o.isList U g⟩
  |_=>exact E p
 |_=>cases e<;>exact E p
def Z0(hu:X.A.units+60 < cS):OpR X (dH .Eq) (ra X.K nj):=by intro ar s σ H x y v u Q I h g c;let⟨ρ,st,d,e,sr,o,l,p⟩:=c;let⟨r,q,B,_⟩:=RN hu I sr o l h g p.bnd;exact B _ _ _ _ ⟨.bl r,H,I,rfl,q.ret sr _ (.bl _)⟩
def QfJ(hu:X.A.units+60 < cS):OpR X (dH .NotEq) (ra X.K wk):=by intro ar s σ H x y v u Q I h g c;let⟨ρ,st,d,e,sr,o,l,p⟩:=c;let⟨r,q,_,B⟩:=RN hu I sr o l h g p.bnd;exact B _ _ _ _ ⟨.bl (!r),H,I,rfl,q.ret sr _ (.bl _)⟩
end
section
variable{X:Cx}{a b c e o tg:Expr}{pos a8 a7:Pos}{ta tb:CT}{K:ah}{ρ:List ak}{H:Hp}{st:aZ}
def Yy(ho : SE X o fa)(E : SE X e fb)(u : dY o "append" X.env (eval o X.env) = eval o X.env := by rfl)
  (C:((backTo a7 (starEach [e] X.env)).all (λx => !x.1)&&(qw a7 (l9 [] X.env)).all (λx=>x.1.isSome)
   && decide ([e].length+([]:List i5).length+(if ([]:List i5).isEmpty then 0 else 1) < 30))=true:=by rfl)
  (q:(a8.endLine == a7.line)=true:=by rfl) (hs:starEach [e] X.env=(false,eval e X.env)::starEach [] X.env:=by rfl) (g:(backTo a7 (starEach [] X.env)).any (·.1)=false:=by rfl):
  SE X (.Call (.Attribute o "append" a8) [e] [] a7) (e_ fa fb):=
 (NM mY PySem.F.slot_list_append PySem.F.type_list_append Ov ho (sB E vg hs) u C q hs g).of λσ H Q h_=>h_.el λρ l st lr sr p=>⟨ρ,l,st,lr,sr,p.bnd.imp λd B ρ1 H1 x1 c p1 v rv=>by
  cases d with
  |ref n=>
   let⟨a,rfl,kk,h⟩:=rv.inv;let hl:n < B.length:=by rw[<- c.len];exact (ac.mp h).1
   let⟨G,O⟩:=Ru kk;refine⟨.inl ⟨rfl,G,gS.of O⟩,ρ1,l,B,lr.mono x1,c,(aT.bnd p1).imp λy st2 ρ2 H2 x2 I p2 w J=>?_⟩;let h2:ρ2[n]?=some a:=by let⟨τ,e,_⟩:=x2.pre;rw[e];exact xE h
   let⟨ds,U,p3⟩:=aT.getL (aT.bnd p2) I;let⟨a',vs,E,hv,r⟩:=I.seq U;rw[h2]at E;cases E;let⟨hz,p4⟩:=aT.chk p3;let⟨Y,x3⟩:=I.put (ac.mp U).1 h2 hv (bW.app r (.cons J .nil));let L:=aT.bnd p4;unfold putL at L;rw[U]at L;exact⟨a,vs,w,rfl,rfl,hv,by rw[r.length];exact hz,(L ρ2 _ x3 Y).ret Y _ .non⟩
  |_=>exact p1.elim⟩
def X2:OpR X (fH .Add) (ra X.K fF):=by
 intro g s σ H x y v u Q I U O G;let⟨ρ,st,d,e,sr,r1,r2,p⟩:=G;cases d with
 |int i=>
  cases e with
  |int j=>
   cases r1.inv;cases r2.inv;exact Xx g s σ H _ _ v u Q I U O ⟨i,j,rfl,rfl,p.ret sr _ (.int _)⟩
  |_=>exact p.elim
 |str i=>
  cases e with
  |str j=>
   cases r1.inv;cases r2.inv;exact U4 g s σ H _ _ v u Q I U O ⟨i,j,rfl,rfl,(aT.chk p).1,(aT.chk p).2.ret sr _ (.str _)⟩
  |_=>exact p.elim
 |ref _=>
  cases e with
  |ref _=>
   let⟨_,rfl,_,h⟩:=r1.inv;let⟨_,rfl,_,h'⟩:=r2.inv;let⟨xs,e2,p1⟩:=aT.getL (aT.bnd p) sr;let⟨ys,e3,J⟩:=aT.getL (aT.bnd p1) sr;let⟨a',L,ha,hv,C⟩:=sr.seq e2;let⟨b',ws,hb,hw,B⟩:=sr.seq e3;rw[h]at ha;cases ha;rw[h']at hb;cases hb;let⟨hz,p3⟩:=aT.chk J;refine Y5 g s σ H _ _ v u Q I U O ⟨_,_,L,ws,rfl,rfl,hv,hw,by rw[C.length,B.length];exact hz,λq l=>?_⟩;let nq:=sr.fresh l;let x1:Ex ρ H (ρ++[q]) (fE H q (.lst (L++ws))):=Ex.newL l;refine p3 _ _ x1 ((sr.new l).keep kL nq ((bW.app C B).mono (Ex.new l))) _ (.ref ⟨_,kL,rfl⟩ ?_);rw[<- sr.len];simp
  |_=>exact p.elim
 |tup xs=>
  cases e with
  |tup ys=>
   let⟨a1,L,rfl,h1,C⟩:=r1.inv;let⟨b1,ws,rfl,h2,B⟩:=r2.inv;let⟨hz,J⟩:=aT.chk p;by_cases hx:L=[]
   ·subst hx;cases C;let⟨its,v1,ht,_⟩:=I.tuple h1;let⟨l,v2,hb,_⟩:=I.tuple h2;cases v1;let ev:v=bD a1:=U;let eu:u=bD b1:=O;subst ev eu;let⟨⟨cls,dd,data,Q⟩,q,G,n,hd⟩:=ht;let⟨⟨L,h,data2,g⟩,Y,o,n2,c⟩:=hb;simp only at G hd o c;subst G hd o c;refine zi (E:=X.xe) ⟨_,q,rfl⟩ ⟨_,Y,rfl⟩ ur xm nw mX (mM _ _) (tuple_addW0 a1 b1 _ _ n n2 dd h Q g (by simp)) ⟨q,Y,?_⟩;exact⟨.ref b1,H,I,rfl,J.ret sr _ (.tup h2 B)⟩
   ·refine Zm g s σ H _ _ v u Q I U O ⟨_,_,L,ws,rfl,rfl,h1,h2,hx,by rw[C.length,B.length];exact hz,λc=>?_,λ_ q l=>?_⟩
    ·subst c;cases B;rw[bu]at J;exact J.ret sr _ (.tup h1 C)
    ·exact J _ _ (Ex.new l) (sr.new l) _ (.tup (ml.of kL) ((bW.app C B).mono (Ex.new l)))
  |_=>exact p.elim
 |_=>cases e<;>exact p.elim
def Nn(K:ah)(f:CO):TO:=λσ H Q=>∃ρ l st,LR K ρ H σ l/\SR K ρ H st/\aT K ρ H (f l st) λo _ _ g=>Q o g
abbrev SO(X:Cx)(e:Option Expr)(f:CO):Prop:=PO X e (Nn X.K f)
def Vz:SO X none oU:=λg s σ H Q I h=>h.el λρ l st q sr p=>Qb5 g s σ H Q I (p.ret sr)
def UP(h:SE X e fa):SO X (some e) (mV fa):=λg s σ H Q I G=>G.el λρ l st E sr p=>Pp h g s σ H Q I ⟨ρ,l,st,E,sr,p.bnd.imp λd u ρ1 L J B q v C=>by
 cases d with
 |int i=>cases (show v=.int i from C.inv);exact⟨i,rfl,q.ret B⟩
 |_=>exact q.elim⟩
def bW.cut(r:bW K ρ H g ds)(lo h:Option Int):bW K ρ H (t8 g lo h) (cutD ds lo h):=by
 unfold t8 cutD;let e:∀n d o,HT.gU n d o=MM.gU n d o:=λn d o=>by cases o<;>rfl
 rw[e,e,r.length];exact (r.drop _).take _
def Vc{lo hi:Option Expr}{c:Pos}(h:SE X e fa)(hl:SO X lo fl)(hh:SO X hi fh):SL X (.Subscript e (.Slice lo hi none c) pos) (sf fa fl fh):=
 (O2 YU h hl hh).of λσ H Q h_=>h_.el λρ l st lr sr p=>⟨ρ,l,st,lr,sr,p.bnd0.imp λd O ρ1 H1 C s1 p1 v rv=>⟨ρ1,l,O,lr.mono C,s1,(p1.bnd0.left C).imp λi L ρ2 H2 E s2 c=>⟨ρ2,l,L,(lr.mono C).mono E,s2,(c.bnd0.left (C.trans E)).imp λj J ρ3 H3 x3 G Y=>by
  let U:=(rv.mono E).mono x3;let B:=C.trans (E.trans x3);let fin:∀{a:ak}{u:List V}{ds:List D},gS X.K H3 a u->bW X.K ρ3 H3 u ds->aT X.K ρ H (ret (cutD ds i j) J) (λds _ ρ' H'=>∀a u,H a=none->a∉ρ'->H' a=some (.lst u)->bW X.K ρ' H' u ds->Q (.ref a) H')->GK X.K (.ref a) i j H3 Q:=λ{a u ds}hs r q=>
   ⟨a,u,rfl,hs,λI g=>by
    let hn:H I=none:=by
     cases z:H I with|none=>rfl|some o=>exact bh g (B.trk I o z)
    exact q ρ3 _ (B.trans (Ex.new g)) (G.new g) I _ hn (G.fresh g) kL ((bW.cut r i j).mono (Ex.new g))⟩
  cases U with
  |lit h r=>exact fin h.seq r Y|ref _ h=>
   let⟨ds,e2,p4⟩:=aT.getL (Y.bnd0.left B) G;let⟨a',u,ha,hv,r⟩:=G.seq e2;rw[h]at ha;cases ha;exact fin (gS.of hv) r p4
  |_=>exact Y.elim⟩⟩⟩
end
open PySem.AutoSeq1 (wpAny_loadPart')
def S7(l:ak)(items:Array ag)(n:Nat)(dct:Option ak)(B:Array (Option ag)):Meets (Builtin.«enumerate.__new__» ⟨[.type "enumerate",.ref l],[]⟩) (λ_ R s=>s.heap.get? l=some { cls:=.type "tuple",dict:=dct,data:=.seq items n,slots:=B } /\R (.ok (.ret (.ref (s.heap.push { cls:=.type "tuple_iterator",data:=.fields #[.ref l,.int 0 0] }).objs.size))) { s with heap:=(s.heap.push { cls:=.type "tuple_iterator",data:=.fields #[.ref l,.int 0 0] }).push { cls:=.type "enumerate",data:=.fields #[.none,.bool false,.ref s.heap.objs.size,dP 0,.none,.none] } }):=
 .of_wp λprog w A R s h=>by
  let⟨C,g,d,v,os⟩:=s;let⟨o,h⟩:=h;let q:=sub_enumerate;let u:bK.IsTuple (vm ⟨C,g,d,v,os⟩) l items:=⟨_,o,rfl,n,rfl⟩
  wp_walk using kC o;refine wpAny_stack_any λst=>ai ?_;split
  ·rename_i c _ _ _ _ _;cases (c == Hr "enumerate")<;>(wp_walk using kC o,nA u;exact⟨_,rfl,h⟩)
  ·wp_walk using kC o,nA u;exact⟨_,rfl,h⟩
section
variable{A:bI}{E:ag->am->Prop}{s:am}
def QfQ{Q:ag->am->Prop}(C:s.heap.IsTuple l items)(h:∀h',IsEnum h' (s.heap.objs.size+1) s.heap.objs.size 0 .none->h'.IsTupleIter s.heap.objs.size l 0->h'.objs.size=s.heap.objs.size+2->(∀b o,s.heap.get? b=some o->h'.get? b=some o)->Q (.ref (s.heap.objs.size+1)) { s with heap:=h' }):aG (aY prog w) A (call (.type "enumerate") [.ref l]) Q E s:=by
 let⟨⟨c,dct,G,v⟩,B,g,n,hd⟩:=C
 replace g:c=.type "tuple":=g
 replace hd:G=.seq items n:=hd
 subst g hd;refine callType_new F.called_enumerate (by decide) (F.typeCall_enumerate_1 _) (F.newCall_enumerate_1 _) (λobj=>F.args_object_init_2 obj _) F.entry_enumerate_new (S7 l items n dct v) ⟨B,?_⟩;let hz:(s.heap.push { cls:=.type "tuple_iterator",data:=.fields #[.ref l,.int 0 0] }).objs.size=s.heap.objs.size+1:=cA ..
 show _/\_;rw[hz];let u:IsEnum ((s.heap.push { cls:=.type "tuple_iterator",data:=.fields #[.ref l,.int 0 0] }).push { cls:=.type "enumerate",data:=.fields #[.none,.bool false,.ref s.heap.objs.size,dP 0,.none,.none] }) (s.heap.objs.size+1) s.heap.objs.size 0 .none:=by have q:=ay (s.heap.push { cls:=.type "tuple_iterator",data:=.fields #[.ref l,.int 0 0] }) (o:={ cls:=.type "enumerate",data:=.fields #[.none,.bool false,.ref s.heap.objs.size,dP 0,.none,.none] }) rfl;rw[hz]at q;exact q
 exact⟨⟨_,u,rfl⟩,h _ u ⟨_,aj _ (ay _ rfl),rfl,rfl⟩ (by rw[cA,hz]) λb o x=>aj _ (aj _ x)⟩
def X9{i:Nat}{items}{Q:ag->am->Prop}(c:s.heap.IsTupleIter g l i)(B:s.heap.IsTuple l items)(v:items[i]?=some x)(G:∀h',h'.IsTupleIter g l (i+1)->cR g s.heap h'->Q x { s with heap:=h' }):aG (aY prog w) A (bF (.ref g)) Q E s:=by
 let⟨o,h,C,hd⟩:=id c;let⟨H,q,_,I,u⟩:=B;unfold bF;refine ab (bN (name:=az "__next__") c.typeIs iO (b_ iO c.typeIs uF ?_ (uu _)))
 show aG _ _ (qz (.ref g) 0 >>= _) _ _ s;refine ab (cD h hd (x:=.ref l) rfl ?_)
 show aG _ _ (if (bD l == cB)=true then _ else _) _ _ s;rw[aD (show ¬ ((bD l == cB)=true) from bE)]
 show aG _ _ (qz (.ref g) 1 >>= _) _ _ s;refine ab (cD h hd (x:=.int i 0) rfl ?_)
 show aG _ _ (i9 (.ref l) >>= _) _ _ s;refine ab (dg q u ?_);simp only[bC,v];refine ab (nB h hd (by simp) (ai ⟨x,rfl,ai (G _ ⟨_,cT _ h (wx (mO hd _)),(zL ..).trans C,?_⟩ (cG ..))⟩));rw[mO hd];simp[dP]
def Vn{i:Nat}{items}(hh:A.handled=none)(c:s.heap.IsTupleIter g l i)(B:s.heap.IsTuple l items)(v:items[i]?=none)(C:∀h' e,mZ g s.heap h'->(∃o,h'.get? e=some o/\o.cls=.type "StopIteration")->E (.ref e) { s with heap:=h' }):aG (aY prog w) A (bF (.ref g)) Q E s:=by
 let⟨o,q,I,hd⟩:=id c;let⟨G,h,_,H,u⟩:=B;unfold bF;refine ab (bN (name:=az "__next__") c.typeIs iO (b_ iO c.typeIs uF ?_ (uu _)))
 show aG _ _ (qz (.ref g) 0 >>= _) _ _ s;refine ab (cD q hd (x:=.ref l) rfl ?_)
 show aG _ _ (if (bD l == cB)=true then _ else _) _ _ s;rw[aD (show ¬ ((bD l == cB)=true) from bE)]
 show aG _ _ (qz (.ref g) 1 >>= _) _ _ s;refine ab (cD q hd (x:=.int i 0) rfl ?_)
 show aG _ _ (i9 (.ref l) >>= _) _ _ s;refine ab (dg h u ?_);simp only[bC,v];refine ab (fV (ab (nB q hd (by simp) ?_)));show aG _ _ (zp (.type "StopIteration") [] >>= _) _ _ _;refine ab ?_;simp only[zp,newTuple];refine ab (b9 ?_ (by size_fits));refine ab (m:=lj _ _) (nX (a:=cB) (by first|rfl|(simp only[lj];rfl)) (b9 ?_ (by size_fits)));simp only[raiseNew];refine ab (xt ?_);first|rw[show A.in1.handled=none from hh]|rw[hh]
 exact ab (ai (AQ (C _ _ (((cG ..).extBut.push _).push _) ⟨_,ay _ rfl,rfl⟩)))
end
section
variable{X:Cx}{K:ah}{st:aZ}
def YM(r:dE K ρ H v d):sP d .non=ret (.bl (decide (v=.non))):=by cases r<;>rfl
def T_(r:dE K ρ H v d):mw d .non=ret (.bl (!decide (v=.non))):=by cases r<;>rfl
def Xf:OpR X (dH .Is) (ra X.K sP):=by
 intro g s σ H x y v u Q I l h c;let⟨ρ,st,d,e,sr,q,o,p⟩:=c;cases e with
 |non=>
  cases o.inv;refine SY g s σ H x .non v u Q I l h ⟨rfl,?_⟩;rw[YM q]at p;exact p.ret sr _ (.bl _)
 |bl b=>
  cases d with
  |bl a=>
   cases q.inv;cases o.inv;cases (show v=dB a from l);cases (show u=dB b from h);refine wpAny_is_plain rfl ⟨.bl (a == b),H,I,?_,p.ret sr _ (.bl _)⟩;cases a<;>cases b<;>rfl
  |_=>exact p.elim
 |_=>cases d<;>exact p.elim
def QfW:OpR X (dH .IsNot) (ra X.K mw):=by
 intro g s σ H x y v u Q I l h c;let⟨ρ,st,d,e,sr,q,o,p⟩:=c;cases e with
 |non=>
  cases o.inv;refine Vy g s σ H x .non v u Q I l h ⟨rfl,?_⟩;rw[T_ q]at p;exact p.ret sr _ (.bl _)
 |bl b=>
  cases d with
  |bl a=>
   cases q.inv;cases o.inv;cases (show v=dB a from l);cases (show u=dB b from h);refine wpAny_isNot_plain rfl ⟨.bl (!(a == b)),H,I,?_,p.ret sr _ (.bl _)⟩;cases a<;>cases b<;>rfl
  |_=>exact p.elim
 |_=>cases d<;>exact p.elim
def OF(r:dE K ρ H v d)(h:mn d=true):oW v=true:=by cases r<;>first|rfl|cases h
theorem OK:∀{c:List V}{ds:List D},bW K ρ H c ds->ds.all mn=true->c.all oW=true
 |_,_,.nil,_=>rfl|_,_,.cons r t,h=>by rw[cE,bv]at h;rw[cE,bv];exact⟨OF r h.1,OK t h.2⟩
def S_(r:dE K ρ H v d)(q:dE K ρ H w e)(h:mn d=true)(h':mn e=true):Ap v w=wP d e:=by
 cases d<;>first|(cases h;done)|skip
 all_goals have r:=r.inv;cases (show v=_ from r);cases e<;>first|(cases h';done)|skip
 all_goals have q:=q.inv;cases (show w=_ from q);rfl
theorem P6(q:dE K ρ H w e)(h':mn e=true):∀{c:List V}{ds:List D},bW K ρ H c ds->ds.all mn=true->Il w c=ds.any λd=>wP d e
 |_,_,.nil,_=>rfl|_,_,.cons r t,h=>by rw[cE,bv]at h;have:=P6 q h' t h.2;unfold Il at this ⊢;rw[eU,eU,this,S_ r q h.1 h']
theorem aT.hasK{n:Nat}(h:aT K ρ H (MM.hasK n k st) R)(s:SR K ρ H st):∃b c,st[n]?=some (.dct b c)/\oY b k=true/\R (m_ c k).isSome st ρ H:=by let⟨b,c,e,l⟩:=aT.getDc (aT.bnd h) s;let⟨o,g⟩:=aT.chk l;exact⟨b,c,e,o,g.ret s⟩
def _root_.L2.OpR.orO(h:OpR X f r)(h':OpR X f o):OpR X f (λx y H Q=>r x y H Q\/o x y H Q):=by
 intro c s σ H x y v u Q I l g q;rcases q with q|q
 ·exact h c s σ H x y v u Q I l g q
 ·exact h' c s σ H x y v u Q I l g q
def Sj(hu:X.A.units+60 < cS):OpR X (dH .NotIn) (λx y H Q=>∃(ρ:List ak)(st:aZ)(n:Nat)(a:ak)(b:Bool)(g:List (D×D))(k:D),y=.ref a/\SR X.K ρ H st/\ρ[n]?=some a/\st[n]?=some (.dct b g)/\dE X.K ρ H x k/\oY b k=true/\Q (.bl (!(m_ g k).isSome)) H):=by intro h s σ H x y v u Q I o l c;let⟨ρ,st,n,a,b,g,k,e,sr,G,C,B,E,q⟩:=c;subst e;cases l;exact QdR () I (sr.ob n a _ G C) B E o λL J=>⟨.bl _,H,J,rfl,q⟩
def Qf2(hu:X.A.units+60 < cS):OpR X (dH .NotIn) (ra X.K qY):=(TU.orO (Sj hu)).of λx y H Q c=>by
 let⟨ρ,st,d,e,sr,o,J,p⟩:=c;let fin:∀{a:ak}{g:List V}{ds:List D}(B:gS X.K H a g\/ml X.K H a g)(r:bW X.K ρ H g ds)(l:aT X.K ρ H (yT d ds st) λr _ ρ' I=>∀v,dE X.K ρ' I v r->Q v I),N1 X.K true x (.ref a) H Q:=λB r l=>by let⟨⟨G,E⟩,L⟩:=aT.chk l;refine⟨_,_,rfl,B,OF o G,OK r E,?_⟩;rw[aH rfl,P6 o G r E];exact L.ret sr _ (.bl _)
 cases J with
 |tup h r=>exact .inl (fin (.inr h) r ((aT.bnd p).ret sr))|lit h r=>exact .inl (fin (.inl h.seq) r ((aT.bnd p).ret sr))|ref _ h=>
  let⟨ds,Y,l⟩:=aT.getL (aT.bnd p) sr;let⟨a',g,C,O,r⟩:=sr.seq Y;rw[h]at C;cases C;exact .inl (fin (.inl (gS.of O)) r l)
 |@dic a n _ h=>
  let⟨b,u,e1,U,q⟩:=aT.hasK (aT.bnd p) sr;exact .inr ⟨ρ,st,n,a,b,u,d,rfl,sr,h,e1,o,U,(q.ret sr) _ (.bl _)⟩
 |_=>exact (show False from p).elim
def SM:G3 X (D2 .USub) (yG X.K uW):=by
 intro g s σ H x v Q I h c;let⟨ρ,st,d,sr,l,p⟩:=c;cases l with|int i=>exact Qb g s σ H _ v Q I h ⟨i,rfl,p.ret sr _ (.int _)⟩|_=>exact p.elim
end
section
variable{X:Cx}{pos a8 a7:Pos}{ta tb:CT}{K:ah}{st:aZ}{T id:String}
def Qf4(E:G3 X (D2 op) (yG X.K g))(G:SE X a fa):SE X (.UnaryOp op a pos) (c1 g fa):=
 (Oz E G).of λσ H Q I=>I.el λρ l st C sr p=>⟨ρ,l,st,C,sr,p.bnd.imp λd h ρ1 L J q B v u=>⟨ρ1,h,d,q,u,B⟩⟩
def U9(hc : CallR X (.builtin id) (λxs H Q => ∃v w, xs = [v, w] /\ ra X.K g v w H Q))(hg : Gl X x)(hm : X.mg x = none)(hv : cZ x = some (.builtin id))(ha : SE X a fa)(hb : SE X b fb)(hn : x ≠ "__name__" := by decide)(G : (x == ("__debug__" : Str)) = false := by decide)
  (h:starEach [a,b] X.env=(false,eval a X.env)::starEach [b] X.env:=by rfl) (E:starEach [b] X.env=(false,eval b X.env)::starEach [] X.env:=by rfl) (C:(backTo pos (starEach [b] X.env)).any (λx=>x.fst)=false:=by rfl):SE X (.Call (.Name x p) [a,b] [] pos) (c2 g fa fb):=
 (HP hc hg hm hv (sB ha (sB hb vg E) h) hn G h C).of λσ H Q h_=>h_.el λρ l st I sr p=>⟨ρ,l,st,I,sr,p.bnd.imp λd u ρ1 H1 L U o v Y=>⟨ρ1,l,u,I.mono L,U,o.bnd.imp λe q ρ2 H2 J O c w B=>⟨v,w,rfl,ρ2,q,d,e,O,Y.mono J,B,c⟩⟩⟩
def Td(l:X.calm=true):CallR X (.builtin "min") (λxs H Q=>∃v w,xs=[v,w]/\ra X.K wu v w H Q):=(QbE l).of λxs H Q g=>by
 let⟨v,w,e,h⟩:=g;let⟨i,j,ρ,st,rfl,rfl,sr,p⟩:=Aa h;refine⟨i,j,e,?_⟩;have:(if j < i then j else i)=min i j:=by ext
 rw[this];exact p.ret sr _ (.int _)
def Qf7(ho:SE X o fa)(q:dY o "pop" X.env (eval o X.env)=eval o X.env:=by rfl)(g:(a8.endLine == a7.line)=true:=by rfl):SE X (.Call (.Attribute o "pop" a8) [] [] a7) (u7 fa):=
 (ZS mY PySem.F.slot_list_pop PySem.F.type_list_pop QcB ho q g).of λσ H Q h_=>h_.el λρ l st lr sr p=>⟨ρ,l,st,lr,sr,p.bnd.imp λd c ρ1 H1 x1 C U v rv=>by
  cases d with
  |ref n=>
   let⟨a,rfl,_,h⟩:=rv.inv;let⟨ds,J,u⟩:=aT.getL (aT.bnd U) C;let⟨a',B,Y,G,r⟩:=C.seq J;rw[h]at Y;cases Y;cases I:ds.getLast? with|none=>rw[I]at u;exact u.elim|some d=>
    rw[I]at u;let hl:=(ac.mp J).1;let e4:ds[ds.length-1]?=some d:=by rw[<- List.getLast?_eq_getElem?];exact I
    let⟨y,hy,ry⟩:=r.get e4;let rd:bW X.K ρ1 H1 B.dropLast ds.dropLast:=by rw[vU,vU,r.length];exact r.take _
    let⟨O,L⟩:=C.put hl h G rd;refine⟨.inl ⟨rfl,B,gS.of G⟩,a,B,y,rfl,rfl,G,by rw[r.length];exact hy,?_⟩;let E:=aT.bnd u;unfold putL at E;rw[J]at E;exact (E ρ1 _ L O).ret O _ (ry.mono L)
  |_=>exact U.elim⟩
theorem bW.rev:∀{g:List V}{ds:List D},bW K ρ H g ds->bW K ρ H g.reverse ds.reverse
 |_,_,.nil=>.nil|_,_,.cons r t=>by rw[fX,fX];exact bW.app (bW.rev t) (.cons r .nil)
def Ua(hg : Gl X "range")(o : X.mg "range" = none)(h : SE X a fa)(h' : SE X b fb)(E : starEach [a, b] X.env = (false, eval a X.env) :: starEach [b] X.env := by rfl)(C : starEach [b] X.env = (false, eval b X.env) :: starEach [] X.env := by rfl)
  (c:starEach [a,b] X.env=[(false,eval a X.env),(false,eval b X.env)]:=by rfl) (B:starEach [b] X.env=[(false,eval b X.env)]:=by rfl):SI X tg (.Call (.Name "range" p) [a,b] [] pos) (MM.n8 fa fb):=
 (TN (tg:=tg) (p:=p) (pos:=pos) hg o (sB h (sB h' vg C) E) c B).of λσ H R h_=>h_.el λρ l st G sr p=>⟨ρ,l,st,G,sr,p.bnd.imp λd g ρ1 H1 I O Y v Q=>⟨ρ1,l,g,G.mono I,O,Y.bnd.imp λe J ρ2 H2 x2 L u w q=>by
  cases d with
  |int i=>
   cases e with
   |int j=>
    cases (show v=.int i from Q.inv);cases (show w=.int j from q.inv);let⟨⟨⟨h1,h2⟩,h3,h4⟩,U⟩:=aT.chk u;exact⟨i,j,rfl,⟨h1,h2,h3,h4⟩,U.ret L _ QM⟩
   |_=>exact u.elim
  |_=>exact u.elim⟩⟩
def Vb(hp:uq (aY X.prog X.w) X.A X.env X.xe)(hc:ST X c ta)(hb:xj X body cs):SS X (.While c body [] pos) (kK ta cs):=(WZ hp hc hb).of λG σ H h_=>h_.el λρ l st lr sr p=>by
 unfold kK at p;by_cases h:∃n,∀r,fC ta cs n l st=r->r≠.bad
 ·rw[dif_pos h]at p;generalize ky h=n at p;refine⟨λm σ H=>∃ρ l st,LR X.K ρ H σ l/\SR X.K ρ H st/\aT X.K ρ H (fC ta cs m l st) λf _ ρ' g=>match f with
   | .next l'=>∀σ',LR X.K ρ' g σ' l'->G.nx σ' g| .ret d=>∀v,dE X.K ρ' g v d->G.rt v g| .brk l'=>∀σ',LR X.K ρ' g σ' l'->G.bk σ' g
   | .cnt l'=>∀σ',LR X.K ρ' g σ' l'->G.ct σ' g,⟨n,ρ,l,st,lr,sr,p⟩,?_⟩
  intro m σ1 H1 u;let⟨ρ1,l1,O,B,Q,c⟩:=u;cases m with|zero=>exact c.elim|succ m=>
   refine⟨ρ1,l1,O,B,Q,(aT.bnd c).imp λk L ρ2 H2 U Y o=>?_⟩;cases k with|false=>exact o.ret Y _ (B.mono U)|true=>
    refine⟨λσ' g=>∃ρ l st,LR X.K ρ g σ' l/\SR X.K ρ g st/\aT X.K ρ g (fC ta cs m l st) _,λσ' g q=>⟨m,iN m,q⟩,ρ2,l1,L,B.mono U,Y,(aT.bnd o).imp λf E ρ3 H3 x3 I J=>?_⟩;cases f with|next l'=>exact λσ' C=>⟨ρ3,l',E,C,I,J⟩|ret d=>exact J.ret I|brk l'=>exact J.ret I|cnt l'=>exact λσ' C=>⟨ρ3,l',E,C,I,J⟩
 ·rw[dif_neg h]at p;exact p.elim
end
def Qga(its:List ag):xQ its.toArray none none (some (-1))=its.reverse.toArray:=by
 unfold xQ;let e:sliceRange (fP none none (some (-1)) its.toArray.size).1 (fP none none (some (-1)) its.toArray.size).2.1 (fP none none (some (-1)) its.toArray.size).2.2=(bT its.toArray.size).map λk=>its.toArray.size-1-k:=picked_rev its.toArray.size;rw[e];congr 1;rw[aI];let key:∀n,n<=its.length->((bT n).map λk=>its.length-1-k).filterMap (λi=>its.toArray[i]?)=(its.drop (its.length-n)).reverse:=by
  intro n
  induction n with
  |zero=>intro _;simp
  |succ n ih=>
   intro l;rw[ij,bw,List.filterMap_append,ih ()];let c:its.length-1-n < its.length:=by ext
   have:its.drop (its.length-(n+1))=its[its.length-1-n]::its.drop (its.length-n):=by
    let h:its.length-(n+1)=its.length-1-n:=by ext
    let g:its.length-n=its.length-1-n+1:=by ext
    rw[h,g];exact dZ c
   rw[this,fX];congr 1;simp[c]
 have:=key its.length (aw _);rw[eE,mz]at this;exact this
section
variable{e st:Expr}{j:Nat}
def F1(K:ah):V->Hp->VK->Prop:=λx H Q=>∃a xs,x=.ref a/\gS K H a xs/\∀p,H p=none->Q (.ref p) (fE H p (.lst xs.reverse))
def U_(he:PE X e te):PE X (.Subscript e (.Slice none none (some (.UnaryOp .USub (.Constant (.int 1) j p3) p4)) p2) pos) (λσ H Q=>te σ H λx B=>F1 X.K x B Q):=by
 intro c s σ H Q I h;refine Di (fT (he c s σ H _ I h) λv O u=>?_);let⟨x,B,I1,U,Y⟩:=u;refine wpAny_Slice ?_;rw[xn];refine ai (ai ?_);let C:PE X (.UnaryOp .USub (.Constant (.int 1) j p3) p4) (PF (rU λi=>.int (-i)) (tC (.int 1))):=Oz Qb No;refine fT (Pp C c O σ B (λo H'=>o=some (-1)/\H'=B) I1 ⟨1,rfl,-1,rfl,rfl,rfl⟩) λG g l=>?_;let⟨o,H2,I2,ps,eo,eH⟩:=l;subst eo eH;let⟨a,xs,rfl,hx,q⟩:=Y;cases U;let E:Inv X c σ H2 { g with heap:=g.heap.push { cls:=.type "slice",data:=.fields #[.none,.none,G] } }:=I2.kept (t':=g.toks) λb ob q=>aj _ q;let⟨its,r,J,hz⟩:=E.list hx;let L:=r.length
 show aG (aY X.prog X.w) X.A (xo e _ (.ref a) (.ref g.heap.objs.size)) (EP X c σ Q) X.xe { g with heap:=g.heap.push { cls:=.type "slice",data:=.fields #[.none,.none,G] } };refine AK (ops:=[.ref a,.ref g.heap.objs.size]) J.isList.typeIs sX.lookup ?_ (by with_unfolding_all rfl);refine xp J.isList (sG ..) .none .none ps (by simp) ?_ (by rw[aI]<;>ext);rw[Qga];refine⟨.ref _,_,E.laid (t':=g.toks) (o:=.lst xs.reverse) (λb ob q=>aj _ q) (aw _) ?_,rfl,q _ (E.hok.fresh (aw _))⟩;exact⟨by rw[gG];exact hz,_,0,r.reverse,ay _ rfl⟩
def Zq(h:SE X e fa):SL X (.Subscript e (.Slice none none (some (.UnaryOp .USub (.Constant (.int 1) j p3) p4)) p2) pos) (uJ fa):=
 (U_ h).of λσ H Q U=>U.el λρ l st J sr p=>⟨ρ,l,st,J,sr,p.bnd0.imp λd G ρ1 H1 u g B v I=>by
  cases d with
  |ref n=>
   let⟨a,rfl,_,h⟩:=I.inv;let⟨ds,Y,p2⟩:=aT.getL (B.bnd0.left u) g;let⟨a',E,C,L,r⟩:=g.seq Y;rw[h]at C;cases C;refine⟨a,E,rfl,gS.of L,λq c=>?_⟩;let O:H q=none:=by
    cases z:H q with|none=>rfl|some o=>exact bh c (u.trk q o z)
   exact p2 ρ1 _ (u.trans (Ex.new c)) (g.new c) q _ O (g.fresh c) kL ((bW.rev r).mono (Ex.new c))
  |_=>exact B.elim⟩
end
end MM
namespace MM
open PySem
def tH{α:Type}(n:Nat)(f:Nat->Nat->Bool):AR α->Option α
 | .ret a=>some a| .ask i j k=>if i < n/\j < n then tH n f (k (f i j)) else none
def r9:List D->Option (List (List Int))
 |[]=>some []
 | .tup xs::ds=>match n5 xs,r9 ds with|some ns,some rs=>some (ns::rs)|_,_=>none
 |_=>none
noncomputable def vv:List Int->List Int->Bool
 |[],[]=>false|[],_::_=>true|_::_,[]=>false|a::as,b::bs=>if (a == b)=true then vv as bs else decide (a < b)
def uN(ds:List D):Option (List D):=match r9 ds with
 |some rows => if (rows.all λr => decide (0 < r.length)) = true /\ 2 <= ds.length /\ ds.length < 64 then (match tH ds.length (λi j => vv (rows.getD i []) (rows.getD j [])) (m4 ds.length) with
   |some p=>if p.size<=1000 then some (p.toList.map λi=>ds.getD i .non) else none
   |none=>none) else none
 |none=>none
def pC:D->M D
 | .ref n=>bnd (getL n) λds=>match uN ds with|some es=>alloc (.lst es)|none=>bad
 |_=>bad
open PySem.Spec PyProof.Rows L2
theorem Rq{α:Type}{n:Nat}{f:Nat->Nat->Bool}{l:Nat->Nat->(Bool->am->Prop)->am->Prop}{G:α->am->Prop}(o:∀i j C,i < n->j < n->C (f i j) s->l i j C s):∀(t:AR α){a:α},tH n f t=some a->G a s->t.kasWp l G s
 | .ret b,a,h,g=>by cases h;exact g
 | .ask i j k,a,h,g=>by
  unfold tH at h;by_cases c:i < n/\j < n
  ·rw[aH c]at h;exact o i j _ c.1 c.2 (Rq o (k (f i j)) h g)
  ·rw[aD c]at h;cases h
section
variable{Q:Bool->am->Prop}
def VE{c bs:List Int}(i:Nat)(q:lU l c)(o:lU ws bs)(g:fin=decide (c.length < bs.length))(h:Q (vv c bs) s):PySem.W.KatLex prog w A true fin Q (l.zip ws) i s:=by
 induction c generalizing bs l ws i fin with
 |nil=>
  cases q;refine xU ?_;cases o with|nil=>rw[g];exact h|@cons b u vs bs r'=>
   rw[g];have:decide (([]:List Int).length < (b::bs).length)=true:=by simp
   rw[this];exact h
 |cons a c ih=>
  cases q with
  |cons _ t r=>cases o with
   |nil=>
    refine xU ?_;rw[g];have:decide ((a::c).length < ([]:List Int).length)=false:=by simp
    rw[this];exact h
   |@cons b u vs bs r'=>
    refine PySem.W.kat_cons (um ?_);unfold vv at h;by_cases e:(a == b)=true
    ·rw[e];rw[aH e]at h;exact PySem.W.kat_yes (ih (i+1) r r' (by rw[g];simp) h)
    ·let v:(a == b)=false:=by simpa using e
     rw[v];rw[aD e]at h;refine PySem.W.kat_no ?_;cases i with|zero=>exact oneLt_int h|succ i=>exact PySem.W.kat_one _ _ (lt_int h)
end
section
variable{K:ah}{st:aZ}
theorem Qm(I:Inv X c σ H s): ∀{q:List V}{ds:List D}{its:List ag}{rows:List (List Int)},bW X.K ρ H q ds->cq q its->r9 ds=some rows ->rows.length=ds.length/\∀(i:Nat)(h:i < ds.length),∃a xs,its[i]?=some (.ref a)/\xO s.heap a xs/\lU xs.toList (rows.getD i [])
 |_,_,_,rows,.nil,.nil,e=>by cases e;exact⟨rfl,λi h=>by simp at h⟩
 |_,_,_,rows,.cons (d:=d) (ds:=ds) r t,.cons ru tu,e=>by
  cases d with
  |tup xs=>
   let⟨a,u,rfl,L,B⟩:=r.inv;unfold r9 at e;cases g:n5 xs with|none=>rw[g]at e;cases e|some ns=>
    cases o:r9 ds with|none=>rw[g,o]at e;cases e|some rs=>
     rw[g,o]at e;cases e;let⟨J,Q⟩:=Qm I t tu o;refine⟨by simp[J],λi O=>?_⟩;cases i with
     |succ i=>
      let⟨U,l,G,E,C⟩:=Q i (by simpa using O);exact⟨U,l,by simpa using G,E,by simpa using C⟩
     |zero=>
      let⟨its',v,p,_⟩:=I.tuple L;cases (show _=bD a from ru);have:=Ng g B;subst this;exact⟨a,_,rfl,p,by simpa using MU v⟩
  |_=>cases e
def Qgg{h:bK}(x:h.Ns a m)(y:h.Ns a c):m=c:=by let⟨o,es,ep,E,C,_,B⟩:=x;let⟨o',u,v,l,g,_,q⟩:=y;rw[E]at l;cases l;rw[C]at g;cases g;funext n;rw[<- B n,q n]
theorem bW.pick:∀{c:List V}{ds:List D}(i:Nat),bW K ρ H c ds->dE K ρ H (c.getD i .non) (ds.getD i .non)
 |_,_,_,.nil=>by simp;exact .non|_,_,0,.cons r t=>by simpa using r|_,_,i+1,.cons r t=>by simpa using bW.pick i t
theorem cq.pick:∀{c:List V}{g:List ag}(i:Nat),cq c g->RelV (c.getD i .non) (g.getD i .none)
 |_,_,_,.nil=>by simp;rfl|_,_,0,.cons r t=>by simpa using r|_,_,i+1,.cons r t=>by simpa using cq.pick i t
theorem bW.picks(r:bW K ρ H c ds):∀(p:List Nat),bW K ρ H (p.map λi=>c.getD i .non) (p.map λi=>ds.getD i .non)
 |[]=>.nil|i::p=>.cons (bW.pick i r) (bW.picks r p)
theorem cq.picks(r:cq c g):∀(p:List Nat),cq (p.map λi=>c.getD i .non) (p.map λi=>g.getD i .none)
 |[]=>.nil|i::p=>.cons (cq.pick i r) (cq.picks r p)
def Ww(x:gp P w H h a o):∃c,h.get? a=some c:=by
 cases o with|lst _=>let⟨_,_,_,_,e⟩:=x;exact⟨_,e⟩|tup _=>let⟨_,_,_,c,e,_⟩:=x;exact⟨_,e⟩|dK _=>let⟨_,_,_,_,c,_,_,e,_⟩:=x;exact⟨_,e⟩|dT _=>let⟨_,_,_,_,c,_,_,e,_⟩:=x;exact⟨_,e⟩|set _ _=>let⟨c,_,_,_,e,_⟩:=x;exact⟨_,e⟩|ins _ _ _=>let⟨_,_,_,e,_⟩:=x;exact⟨_,e⟩|own _=>let⟨_,e⟩:=x;exact⟨_,e⟩|xd _=>let⟨_,⟨_,_,_,e,_⟩,_⟩:=x;exact⟨_,e⟩|rng _ _=>let⟨_,_,_,e⟩:=x;exact⟨_,e⟩|frz _ _=>let⟨e,_⟩:=x;exact⟨_,e⟩|tbl _=>exact⟨_,(show h.get? a=some _ from x)⟩|met _ _=>exact⟨_,(show h.get? a=some _ from x)⟩|ext _=>let⟨_,⟨_,e⟩,_⟩:=x;exact⟨_,e⟩
def VW: CallR X (.builtin "sorted") (λxs H Q=>∃(l:ak)(vs:List V)(ρ:List ak)(ds:List D)(rows:List (List Int))(p:Array Nat),xs=[.ref l]/\gS X.K H l vs/\bW X.K ρ H vs ds/\r9 ds=some rows/\(rows.all λr=>decide (0 < r.length))=true/\2<=ds.length/\ds.length < 64 /\tH ds.length (λi j=>vv (rows.getD i []) (rows.getD j [])) (m4 ds.length)=some p/\p.size<=1000/\∀q,H q=none->Q (.ref q) (fE H q (.lst (p.toList.map λi=>vs.getD i .non)))):=by
 intro ar s σ H xs us Q I r h;let⟨l,vs,ρ,ds,rows,p,rfl,hq,rr,hrows,hall,h2,h64,hev,hps,q⟩:=h;let⟨u,rfl,rx⟩:=w8 r;cases rx;let⟨its,rv,pl,hz⟩:=I.list hq;let l1:=rv.length;let l2:=rr.length;let hil:its.length=ds.length:=by ext
 let⟨hrl,hit⟩:=Qm I rr rv hrows;let⟨m,F⟩:=I.fr;let N:News X.base X.env.locals s.heap (md X.base s.heap X.env.locals):=ZB;let neL:∀a xs,xO s.heap a xs->a≠X.env.locals:=λa xs ht e=>by let⟨o,L,hc,n,hd⟩:=ht;let⟨o',es,ep,E,hd',_⟩:=F.ns;rw[e,E]at L;cases L;rw[hd']at hd;cases hd
 let kept:∀h',Fr X.base X.env.locals h' m->News X.base X.env.locals h' (md X.base s.heap X.env.locals)->∀b o,b≠X.env.locals->s.heap.get? b=some o->h'.get? b=some o:=λh' F' N' b o hb e=>by
  cases z:X.base.get? b with
  |some u=>
   have:=F.keep b u z;rw[e]at this;cases this;exact F'.keep b _ z
  |none=>exact (N' (b,o) (NA hb z e)).1
 refine PySem.W.kat_sorted F N pl.isList () () λD Y h' F' N' hD=>?_;let N'':News X.base X.env.locals h' (md X.base s.heap X.env.locals):=λz hz=>N' z (bO _ hz);let hDL:=(N' _ (cP ..)).2.1;let hDb:=(N' _ (cP ..)).2.2;let hDs:s.heap.get? D=none:=by
  cases z:s.heap.get? D with|none=>rfl|some o=>exact bh (hD _ (NA hDL hDb z)) (cM _)
 let g:H D=none:=by
  cases z:H D with|none=>rfl|some o=>
   let⟨ob,e⟩:=Ww (I.hok D o z);rw[hDs]at e;cases e
 let G:∀(i:Nat),i < ds.length->∃a xs o n,its[i]?=some (.ref a)/\h'.get? a=some o/\o.cls=.type "tuple"/\o.data=.seq xs n/\lU xs.toList (rows.getD i []):=λi hi=>by let⟨a,xs,e,ht,B⟩:=hit i hi;have hn:=neL a xs ht;let⟨o,L,hc,n,hd⟩:=ht;exact⟨a,xs,o,n,e,kept h' F' N'' a o hn L,hc,hd,B⟩
 let tups:∃fs:List ag,xV h' its fs/\fs.length=its.length/\∀v∈fs,∃(k:Int)(t:Tok),v=.int k t:=by
  let gen:∀(ys:List ag),(∀v∈ys,∃a xs o n,v=.ref a/\h'.get? a=some o/\o.cls=.type "tuple"/\o.data=.seq xs n/\∃(k:Int)(t:Tok),xs[0]?=some (.int k t))->∃fs:List ag,xV h' ys fs/\fs.length=ys.length/\∀v∈fs,∃(k:Int)(t:Tok),v=.int k t:=by
   intro ys
   induction ys with|nil=>exact λ_=>⟨[],trivial,rfl,by simp⟩|cons y ys ih=>
    intro hy;let⟨fs,k1,k2,k3⟩:=ih λv hv=>hy v (by simp[hv]);let⟨a,xs,o,n,e,L,hc,hd,k,t,B⟩:=hy y (by simp);subst e;exact⟨.int k t::fs,xV.cons L hc hd B k1,by simp[k2],λv hv=>by
     rcases aR.mp hv with z|z
     ·exact⟨k,t,z⟩
     ·exact k3 v z⟩
  refine gen its λv hv=>?_;let⟨i,hi⟩:=lB hv;let hlt:i < ds.length:=by rw[<- hil];exact (ac.mp hi).1
  let⟨a,xs,o,n,e,L,hc,hd,B⟩:=G i hlt;rw[hi]at e;cases e;refine⟨a,xs,o,n,rfl,L,hc,hd,?_⟩;let U:0 < (rows.getD i []).length:=by
   let hr:i < rows.length:=by ext
   have:rows.getD i []=rows[i]:=by simp[hr]
   rw[this];have:=dW.mp hall rows[i] (bo hr);simpa using this
  cases O:rows.getD i [] with|nil=>rw[O]at U;simp at U|cons k ks=>
   rw[O]at B;cases hxs:xs.toList with|nil=>rw[hxs]at B;cases B|cons y ys=>
    rw[hxs]at B;cases B with|cons _ t r=>exact⟨k,t,by rw[<- fu,hxs];rfl⟩
 let⟨fs,t1,t2,t3⟩:=tups;refine PySem.W.kat_kind (T:=.type "int") t1 () (λv hv=>?_) (by decide) ?_
 ·let⟨k,t,e⟩:=t3 v hv;subst e;exact PySem.W.Looks.of_pure rfl
 refine Rq (n:=ds.length) (f:=λi j=>vv (rows.getD i []) (rows.getD j [])) (λi j C hi hj hC=>?_) (m4 its.length) (a:=p) (by rw[hil];exact hev) ?_
 ·let⟨a,xs,o,n,e,L,hc,hd,B⟩:=G i hi;let⟨b,ys,o',v,u,E,q,hd',hy⟩:=G j hj
  show aG _ _ (keyLt' _ (its.getD i cB) (its.getD j cB)) _ _ _;let g:its.getD i cB=.ref a:=by rw[eY,e];rfl
  let c:its.getD j cB=.ref b:=by rw[eY,u];rfl
  rw[g,c];refine PySem.W.kat_lt L hd E hd' (VE 0 B hy ?_ hC);let l:=zr B;let h:=zr hy;rw[<- l,<- h,fG,fG]
 ·refine PySem.W.KasFin.intro F' N' (PySem.W.UpdF.head (λz hz=>ba (hD z hz))) λB c G L=>?_;let U:News X.base X.env.locals B (md X.base s.heap X.env.locals):=λz hz=>L z (bO _ hz);let v:=(L _ (cP ..)).1;let h:=kept B G U;let hsz:(p.toList.map λi=>vs.getD i V.non).length<=sizeLine:=by
   rw[af,fG];have:1000<=sizeLine:=by decide
   ext
  let J:=I.free
  suffices I3:Inv X ar σ (fE H D (.lst (p.toList.map λi=>vs.getD i V.non))) { s with heap:=B,gens:=s.gens,drawn:=s.drawn,toks:=s.toks } by exact⟨.ref D,fE H D (.lst (p.toList.map λi=>vs.getD i V.non)),I3,rfl,q D g⟩
  refine I.step (g':=s.gens) (d':=s.drawn) (t':=s.toks) (ch:=[]) (λb hb=>by cases hb) (λb o C _ _ e _=>h b o C e) (λb o C _ _ e _=>⟨o.slots,h b o C e⟩)
   (λb o _ e O=>by rw[fS (λz=>by rw[z,hDs]at e;cases e)];exact O)
   (λb o _ e=>by
    by_cases z:b=X.env.locals
    ·let⟨o',_,_,E,_⟩:=G.ns;exact⟨o',by rw[z];exact E⟩
    ·exact⟨o,h b o z e⟩)
   (λb ys e=>by rw[fS (oJ e g)];exact e) (λb o ys e=>by rw[fS (oJ e g)];exact e) (λb ps e=>⟨#[],by rw[fS (oJ e g),e];simp⟩)
   (λm' Q=>by rw[<- Qgg F.ns Q];exact G.ns) ?_ I.bare
  intro a o e;by_cases z:a=D
  ·subst z;rw[kL]at e;cases e;exact⟨hsz,_,c,cq.picks rv p.toList,v⟩
  ·rw[fS z]at e;refine (I.hok a o e).stay (λb u hb Y=>h b u (λl=>?_) Y) (λb Y=>by rw[fS (oJ Y g)];exact Y) (λb ys Y=>by rw[fS (oJ Y g)];exact Y);rcases hb with y|y
   ·rw[y]at l;rw[l,J]at e;cases e
   ·rw[l,J]at y;cases y
def U7:CallR X (.builtin "sorted") (λxs H Q=>∃v,xs=[v]/\yG X.K pC v H Q):=VW.of λxs H Q g=>by
 let⟨v,e,ρ,st,d,sr,I,p⟩:=g;cases I with
 |@ref a n _ h=>
  let⟨ds,O,c⟩:=aT.getL (aT.bnd p) sr;let⟨U,C,E,L,r⟩:=sr.seq O;rw[h]at E;cases E;unfold uN at c;cases u:r9 ds with|none=>rw[u]at c;exact c.elim|some rows=>
   rw[u]at c;by_cases l:(rows.all λr=>decide (0 < r.length))=true/\2<=ds.length/\ds.length < 64
   ·simp only[aH l]at c;cases B:tH ds.length (λi j=>vv (rows.getD i []) (rows.getD j [])) (m4 ds.length) with|none=>rw[B]at c;exact c.elim|some pp=>
     rw[B]at c;by_cases hz:pp.size<=1000
     ·simp only[aH hz]at c;refine⟨a,C,ρ,ds,rows,pp,e,gS.of L,r,u,l.1,l.2.1,l.2.2,B,hz,λq o=>?_⟩;let J:=sr.fresh o;let G:SR X.K (ρ++[q]) (fE H q (.lst (pp.toList.map λi=>C.getD i V.non))) (st++[.lst (pp.toList.map λi=>ds.getD i D.non)]):=(sr.new o).keep kL J ((bW.picks r pp.toList).mono (Ex.new o));refine c _ _ (Ex.newL o) G _ (.ref ⟨_,kL,rfl⟩ ?_);rw[<- sr.len];simp
     ·simp only[aD hz]at c;exact c.elim
   ·simp only[aD l]at c;exact c.elim
 |_=>exact p.elim
end
section
variable{h':bK}{ch:List ak}
def O5{t':Nat}(I:Inv X ar σ H s)(h:∀b∈ch,o_ X ar H b)(keep:∀b o,b∉ch->s.heap.get? b=some o->h'.get? b=some o):Inv X ar σ H { s with heap:=h',toks:=t' }:=by
 let ne:∀b o,H b=some o->b∉ch:=λb o e z=>by rw[(h b z).1]at e;cases e
 let v:X.env.locals∉ch:=λz=>(h _ z).2.1 rfl;refine I.step (g':=s.gens) (d':=s.drawn) (ch:=ch) (λb l=>?_) (λb o _ _ c e _=>keep b o c e) (λb o _ _ c e _=>⟨o.slots,keep b o c e⟩) (λb o _ _ e=>e) (λb o c e=>⟨o,keep b o c e⟩)
  (λb ys e=>e) (λb o ys e=>e) (λb ps e=>⟨#[],by rw[e];simp⟩) (λm q=>?_) ?_ I.bare
 ·let⟨L,G,J,E,C,B⟩:=h b l;exact⟨E,G,C,B⟩
 ·let⟨o,es,ep,e,r⟩:=q;exact⟨o,es,ep,keep _ o v e,r⟩
 ·intro a o e;refine (I.hok a o e).stay (λb u l g=>keep b u ?_ g) (λb g=>g) (λb ys g=>g);rcases l with y|y
  ·rw[y];exact ne a o e
  ·exact ne b _ y
def JN{t':Nat}{l:List V}(I:Inv X ar σ H s)(q:∀b∈ch,o_ X ar H b)(keep:∀b o,b∉ch->s.heap.get? b=some o->h'.get? b=some o)(B:s.heap.objs.size<=T)(hz:l.length<=sizeLine) (C:cq l its) (E:kJ h' T its.toArray):Inv X ar σ (fE H T (.tup l)) { s with heap:=h',toks:=t' }:=by
 let c:H T=none:=I.hok.fresh B;let ne:∀b o,H b=some o->b∉ch:=λb o e z=>by rw[(q b z).1]at e;cases e
 let J:X.env.locals∉ch:=λz=>(q _ z).2.1 rfl;refine I.step (g':=s.gens) (d':=s.drawn) (ch:=ch) (λb v=>?_) (λb o _ _ h e _=>keep b o h e) (λb o _ _ h e _=>⟨o.slots,keep b o h e⟩) (λb o _ e n=>by rw[fS (ba (bb (aL e) B))];exact n) (λb o h e=>⟨o,keep b o h e⟩)
  (λb ys e=>by rw[fS (oJ e c)];exact e) (λb o ys e=>by rw[fS (oJ e c)];exact e) (λb ps e=>⟨#[],by rw[fS (oJ e c),e];simp⟩) (λm G=>?_) ?_ I.bare
 ·let⟨c,U,Y,Q,O,L⟩:=q b v;exact⟨Q,U,O,L⟩
 ·let⟨o,es,ep,e,r⟩:=G;exact⟨o,es,ep,keep _ o J e,r⟩
 ·intro a o e;by_cases z:a=T
  ·subst z;rw[kL]at e;cases e;exact⟨hz,its,C,E⟩
  ·rw[fS z]at e;refine (I.hok a o e).stay (λb u v g=>keep b u ?_ g) (λb g=>by rw[fS (oJ g c)];exact g) (λb ys g=>by rw[fS (oJ g c)];exact g);rcases v with y|y
   ·rw[y];exact ne a o e
   ·exact ne b _ y
end
structure Bz(prog:Program)(w:bM)(A:bI)(it src:ak)(val:Nat->Option ag)(P:Nat->bK->Prop):Prop where
 there:∀k h,P k h->∃o,h.get? it=some o
 keep:∀k h h',P k h->(∀b,b=it\/b=src->∀o,h.get? b=some o->h'.get? b=some o)->P k h'
 item:∀k x(s:am)(Q:ag->am->Prop)(E:ag->am->Prop),P k s.heap->val k=some x->(∀h',P (k+1) h'->cR it s.heap h'->Q x { s with heap:=h' })->aG (aY prog w) A (bF (.ref it)) Q E s
 done:∀k(s:am)(Q:ag->am->Prop)(E:ag->am->Prop),P k s.heap->val k=none->(∀h' e,mZ it s.heap h'->(∃o,h'.get? e=some o/\o.cls=.type "StopIteration")->E (.ref e) { s with heap:=h' })->aG (aY prog w) A (bF (.ref it)) Q E s
section
variable{A:bI}{E:ag->am->Prop}{s:am}{v1 v2:Nat->Option ag}{P1 P2:Nat->bK->Prop}{k:Nat}
def xG{val:Nat->Option ag}{P:Nat->bK->Prop}(S:Bz prog w A l g val P)(x:P k h)(e:mZ b h h')(H:l≠b)(G:g≠b):P k h':=
 S.keep k h h' x λc C o B=>e c o (by rcases C with q|q<;>rw[q]<;>assumption) B
def Qgn{items:Array ag}(hh:A.handled=none)(J:a≠G):Bz prog w A G a (λi=>items[i]?) (λi h=>h.IsTupleIter G a i/\h.IsTuple a items) where
 there:=λk h B=>by let⟨⟨o,e,_⟩,_⟩:=B;exact⟨o,e⟩
 keep:=λk h h' l L=>by let⟨⟨o,e,r⟩,⟨o',v,U⟩⟩:=l;exact⟨⟨o,L G (.inl rfl) o e,r⟩,⟨o',L a (.inr rfl) o' v,U⟩⟩
 item:=λk x s Q E g I Y=>by let⟨H,C⟩:=g;exact X9 H C I λh' q O=>Y h' ⟨q,C.extBut O.extBut J⟩ O
 done:=λk s Q E c I u=>by let⟨H,C⟩:=c;exact Vn hh H C I u
def Y4{Q:ag->am->Prop}(D:nC z tI tO i1 i2 l1 l2)(G:Bz prog w A i1 l1 v1 P1)(C:Bz prog w A i2 l2 v2 P2)(hz:ma s.heap z tI tO .none)(hi:fv s.heap tI (.ref i1) (.ref i2))(ho:fv s.heap tO u v)(p1:P1 k s.heap) (p2:P2 k s.heap)  (hx:v1 k=some x) (hy:v2 k=some y)(hQ:∀h',ma h' z tI tO (dP s.heap.objs.size)->fv h' tO x y->P1 (k+1) h'->P2 (k+1) h'->fv h' s.heap.objs.size x y ->(∀c o,c≠z->c≠tO->c≠i1->c≠i2->s.heap.get? c=some o->h'.get? c=some o)->Q (.ref s.heap.objs.size) { s with heap:=h' }):aG (aY prog w) A (Builtin.«zip.__next__» ⟨[.ref z],[]⟩) (λf s'=>∃r,f=.done (.ret r)/\Q r s') E s:=by
 show aG _ _ (qz (.ref z) 2 >>= _) _ _ _;refine ab (cD hz rfl (x:=.bool false) rfl ?_);show aG _ _ (qz (.ref z) 3 >>= _) _ _ _;refine ab (cD hz rfl (x:=.ref tI) rfl (ab (dg hi rfl ?_)));show aG _ _ (cf (.ref z) >>= _) _ _ _;refine ab ?_;unfold cf;refine ab (cD hz rfl (x:=.none) rfl (ai ?_));simp only[if_true];refine ab (fV (ab (cD hz rfl (x:=.ref tO) rfl (ab (dj hz (by simp) λha za U=>?_)))));let za':ma ha z tI tO .ellipsis:=za;refine ab ?_;simp only[zM,AS,i7,mB];refine ab (ab (rL ?_));show aG _ _ (bF (.ref i1) >>= _) _ _ _;refine ab (G.item k x _ _ _ (xG G p1 U.extBut D.i1z D.l1z) hx λhb q1 O=>ai ?_);let ob:fv hb tO u v:=O.extBut _ _ D.TOi1 (U.extBut _ _ D.TOz ho);refine ab (dg ob rfl (ab (qA ob λB oc sc=>?_)));let oc':fv B tO x v:=oc;refine ab (iX (ai ?_));refine ab (ab (rL ?_));show aG _ _ (bF (.ref i2) >>= _) _ _ _;let p2c:P2 k B:=xG C (xG C (xG C p2 U.extBut D.i2z D.l2z) O.extBut D.i12.symm D.l2i1) sc.extBut D.TOi2.symm D.l2TO;refine ab (C.item k y _ _ _ p2c hy λhd q2 L=>ai ?_);let od:fv hd tO x v:=L.extBut _ _ D.TOi2 oc';refine ab (dg od rfl (ab (qA od λg oe J=>?_)));let Y:fv g tO x y:=oe;refine ab (iX (ai (ai ?_)));refine ab (dg Y rfl (ab (vV ?_)));let h:g.objs.size=s.heap.objs.size:=by rw[J.1,L.1,sc.1,O.1,U.1]
 let ze:ma g z tI tO .ellipsis:=J.extBut _ _ D.TOz.symm (L.extBut _ _ D.i2z.symm (sc.extBut _ _ D.TOz.symm (O.extBut _ _ D.i1z.symm za')));let all:∀c o,c≠z->c≠tO->c≠i1->c≠i2->s.heap.get? c=some o->g.get? c=some o:=λc o l n2 n3 n4 e=>J.extBut _ _ n2 (L.extBut _ _ n4 (sc.extBut _ _ n2 (O.extBut _ _ n3 (U.extBut _ _ l e))));let q1e:P1 (k+1) g:=xG G (xG G (xG G q1 sc.extBut D.TOi1.symm D.l1TO) L.extBut D.i12 D.l1i2) J.extBut D.TOi1.symm D.l1TO;let q2e:P2 (k+1) g:=xG C q2 J.extBut D.TOi2.symm D.l2TO;let H:z < g.objs.size:=aL ze
 show aG _ _ (mC (.ref z) (.ref g.objs.size) >>= _) _ _ _;refine ab ?_;unfold mC;let zf:ma (g.push { cls:=.type "tuple",data:=.seq #[x,y] }) z tI tO .ellipsis:=aj _ ze;refine ab (dj zf (by simp) λhg zg sg=>?_);let zg':ma hg z tI tO (dP g.objs.size):=zg;refine dj zg' (by simp) λhh zh sh=>?_;let I:ma hh z tI tO (dP g.objs.size):=zh;let up:∀c o,c≠z->g.get? c=some o->hh.get? c=some o:=λc o l e=>sh.extBut _ _ l (sg.extBut _ _ l (aj _ e));let new:fv hh g.objs.size x y:=sh.extBut _ _ (dk H) (sg.extBut _ _ (dk H) (ay _ rfl));rw[h]at I new;refine ai ⟨_,rfl,?_⟩;show Q (.ref g.objs.size) _;rw[h];exact hQ hh I (up _ _ D.TOz Y) (G.keep _ _ _ q1e λc B o e=>up c o (B.elim (λq=>by rw[q];exact D.i1z) (λq=>by rw[q];exact D.l1z)) e) (C.keep _ _ _ q2e λc B o e=>up c o (B.elim (λq=>by rw[q];exact D.i2z) (λq=>by rw[q];exact D.l2z)) e) new λc o l n2 n3 n4 e=>up c o l (all c o l n2 n3 n4 e)
def Qgp(D:nC z tI tO i1 i2 l1 l2)(S1:Bz prog w A i1 l1 v1 P1)(O:Bz prog w A i2 l2 v2 P2)(hz:ma s.heap z tI tO .none)(hi:fv s.heap tI (.ref i1) (.ref i2))(ho:fv s.heap tO u v)(p1:P1 k s.heap) (p2:P2 k s.heap) (J:v1 k=none\/v2 k=none)(hE:∀h' e,(∀c o,c≠z->c≠tO->c≠i1->c≠i2->s.heap.get? c=some o->h'.get? c=some o)->(∃o,h'.get? e=some o/\o.cls=.type "StopIteration")->E (.ref e) { s with heap:=h' }):aG (aY prog w) A (Builtin.«zip.__next__» ⟨[.ref z],[]⟩) Q E s:=by
 show aG _ _ (qz (.ref z) 2 >>= _) _ _ _;refine ab (cD hz rfl (x:=.bool false) rfl ?_);show aG _ _ (qz (.ref z) 3 >>= _) _ _ _;refine ab (cD hz rfl (x:=.ref tI) rfl (ab (dg hi rfl ?_)));show aG _ _ (cf (.ref z) >>= _) _ _ _;refine ab ?_;unfold cf;refine ab (cD hz rfl (x:=.none) rfl (ai ?_));simp only[if_true];refine ab (fV (ab (cD hz rfl (x:=.ref tO) rfl (ab (dj hz (by simp) λha za B=>?_)))));let l:ma ha z tI tO .ellipsis:=za;refine ab ?_;simp only[zM,AS,i7,mB];refine ab (ab (rL ?_));show aG _ _ (bF (.ref i1) >>= _) _ _ _;let H:P1 k ha:=xG S1 p1 B.extBut D.i1z D.l1z;cases hx:v1 k with
 |none=>
  refine ab (S1.done k _ _ _ H hx λhb e g G=>?_);let⟨Y,h,L⟩:=G;let zb:ma hb z tI tO .ellipsis:=g _ _ D.i1z.symm l;let ne:e≠z:=λq=>by rw[q,zb]at h;cases h;simp at L
  exact dj zb (by simp) λhc _ sc=>hE hc e (λc o I _ n3 _ q=>sc.extBut _ _ I (g _ _ n3 (B.extBut _ _ I q))) ⟨Y,sc.extBut _ _ ne h,L⟩
 |some x=>
  let hy:v2 k=none:=J.resolve_left (by rw[hx];simp);refine ab (S1.item k x _ _ _ H hx λhb q1 g=>ai ?_);let ob:fv hb tO u v:=g.extBut _ _ D.TOi1 (B.extBut _ _ D.TOz ho);refine ab (dg ob rfl (ab (qA ob λhc oc sc=>?_)));refine ab (iX (ai ?_));refine ab (ab (rL ?_));show aG _ _ (bF (.ref i2) >>= _) _ _ _;let U:P2 k hc:=xG O (xG O (xG O p2 B.extBut D.i2z D.l2z) g.extBut D.i12.symm D.l2i1) sc.extBut D.TOi2.symm D.l2TO;refine ab (O.done k _ _ _ U hy λhd e sd C=>?_);let⟨Y,h,L⟩:=C;let zd:ma hd z tI tO .ellipsis:=sd _ _ D.i2z.symm (sc.extBut _ _ D.TOz.symm (g.extBut _ _ D.i1z.symm l));let ne:e≠z:=λq=>by rw[q,zd]at h;cases h;simp at L
  exact dj zd (by simp) λhe _ se=>hE he e (λc o I n2 n3 n4 q=>se.extBut _ _ I (sd _ _ n4 (sc.extBut _ _ n2 (g.extBut _ _ n3 (B.extBut _ _ I q))))) ⟨Y,se.extBut _ _ ne h,L⟩
end
def qH(a b:CE):CI:=λl=>bnd (a l) λx=>bnd (b l) λy=>match x,y with| .tup ds,.tup es=>ret ⟨ds.zipWith (λp q=>.tup [p,q]) es,d6⟩|_,_=>bad
end MM
namespace MM
open PySem
def qd(a:CE):CI:=λl=>bnd (a l) λx=>match x with| .ref n=>bnd (getL n) λds=>ret ⟨(iL 0 ds.length).zipWith (λi d=>.tup [i,d]) ds,gw n ds⟩|_=>bad
open PySem.Spec PyProof.Rows L2
def uL(t:Bool)(K:ah)(H:Hp)(a:ak)(xs:List V):Prop:=match t with|true=>ml K H a xs|false=>gS K H a xs
def tL(t:Bool)(h:bK)(a:ak)(xs:Array ag):Prop:=match t with|true=>h.IsTuple a xs|false=>h.IsList a xs
def oH(t:Bool)(h:bK)(c a:ak)(i:Nat):Prop:=match t with|true=>h.IsTupleIter c a i|false=>h.IsListIter c a i
noncomputable def Cv:Bool->ak->Obj
 |true,a=>{ cls:=.type "tuple_iterator",data:=.fields #[.ref a,.int 0 0] }|false,a=>{ cls:=.type "list_iterator",data:=.fields #[.ref a,.int 0 0] }
section
variable{A:bI}{s:am}{t u:Bool}{h h':bK}{a b it:ak}{xs ys:Array ag}{i:Nat}
def tL.there(p:tL t h a xs):∃o,h.get? a=some o:=by cases t<;>exact let ⟨o,e,_⟩:=p;⟨o,e⟩
def tL.keep(p:tL t h a xs)(k:∀o,h.get? a=some o->h'.get? a=some o):tL t h' a xs:=by cases t<;>exact let ⟨o,e,r⟩:=p;⟨o,k o e,r⟩
def oH.keep(p:oH t h it a i)(k:∀o,h.get? it=some o->h'.get? it=some o):oH t h' it a i:=by cases t<;>exact let ⟨o,e,r⟩:=p;⟨o,k o e,r⟩
def oH.obj(p:oH t h it a i):∃o,h.get? it=some o/\∀v,o.data≠.cell v:=by cases t<;>exact let ⟨o,e,_,d⟩:=p;⟨o,e,λv q=>by rw[d]at q;cases q⟩
def Q9(e:h.get? it=some (Cv t a)):oH t h it a 0:=by cases t<;>exact⟨_,e,rfl,rfl⟩
def tL.ne(p:tL t h a xs)(q:oH u h it b i):a≠it:=λz=>by subst z;cases t<;>cases u<;>let⟨o,v,c,_⟩:=p<;>let⟨o',g,l,_⟩:=q<;>rw[v]at g<;>cases g<;>rw[c]at l<;>exact bh (wz l) (by decide)
def z_(hh:A.handled=none)(B:a≠it):Bz prog w A it a (λi=>xs[i]?) (λi h=>oH t h it a i/\tL t h a xs):=by
 cases t
 ·exact⟨λk h v=>by let⟨⟨o,e,_⟩,_⟩:=v;exact⟨o,e⟩,λk h h' l I=>by let⟨p,q⟩:=l;exact⟨oH.keep (t:=false) p (I it (.inl rfl)),tL.keep (t:=false) q (I a (.inr rfl))⟩,λk x s Q E g H L=>by let⟨G,C⟩:=g;exact lv G C H λh' q J=>L h' ⟨q,tL.keep (t:=false) C λo e=>J.extBut a o B e⟩ J,λk s Q E c H O=>by let⟨G,C⟩:=c;exact pT hh G C H O⟩
 ·exact Qgn hh B
def Q8{Q:ag->am->Prop}(p:tL t s.heap a xs)(c:Q (.ref s.heap.objs.size) { s with heap:=s.heap.push (Cv t a) }):aG (aY prog w) A (y0 (.ref a)) Q E s:=by
 cases t
 ·exact fK p c
 ·exact nA p c
def z6(I:Inv X c σ H s)(q:uL t X.K H a l):∃its,cq l its/\tL t s.heap a its.toArray:=by
 cases t
 ·let⟨its,g,p,_⟩:=I.list q;exact⟨its,g,p.isList⟩
 ·let⟨its,g,p,_⟩:=I.tuple q;exact⟨its,g,p⟩
def KS(I:Inv X c σ H s)(p:uL t X.K H a g)(q:uL t X.K H a ws):g=ws:=by
 cases t
 ·exact I.list_inj p q
 ·exact I.tuple_inj p q
abbrev DR(t:Bool)(h:bK)(a:ak):bK:=h.push (Cv t a)
abbrev Dt(t u:Bool)(h:bK)(a b:ak):bK:=(DR t h a).push (Cv u b)
abbrev DJ(t u:Bool)(h:bK)(a b:ak):bK:=(Dt t u h a b).push { cls:=.type "tuple",data:=.seq #[.ref h.objs.size,.ref (DR t h a).objs.size] }
abbrev Gg(t u:Bool)(h:bK)(a b:ak):bK:=(DJ t u h a b).push { cls:=.type "tuple",data:=.seq #[.none,.none] }
abbrev zC(t u:Bool)(h:bK)(a b:ak):bK:=(Gg t u h a b).push { cls:=.type "zip",data:=.fields #[.none,.bool false,.bool false,.ref (Dt t u h a b).objs.size,.ref (DJ t u h a b).objs.size] }
def XN(t u:Bool)(a b:ak)(xs ys:Array ag):Meets (Builtin.«zip.__new__» ⟨[.type "zip",.ref a,.ref b],[]⟩) (λ_ R s=>tL t s.heap a xs/\tL u s.heap b ys/\R (.ok (.ret (.ref (Gg t u s.heap a b).objs.size))) { s with heap:=zC t u s.heap a b }):=
 .of_wp λprog w A R s h=>by
  let⟨q,g,d,c,os⟩:=s;let⟨G,C,h⟩:=h;let l:=sub_zip;let B:tL t (vm ⟨q,g,d,c,os⟩) a xs:=G;let v:tL u (vm ⟨q.push (Cv t a),g,d,c,os⟩) b ys:=C.keep λo e=>aj _ e
  wp_walk using Q8 B,Q8 v
  exact⟨_,rfl,h⟩
def TD{Q:ag->am->Prop}(Y:tL t s.heap a xs)(U:tL u s.heap b ys)(h:∀h',ma h' (s.heap.objs.size+4) (s.heap.objs.size+2) (s.heap.objs.size+3) .none->fv h' (s.heap.objs.size+2) (.ref s.heap.objs.size) (.ref (s.heap.objs.size+1))->fv h' (s.heap.objs.size+3) .none .none ->oH t h' s.heap.objs.size a 0->oH u h' (s.heap.objs.size+1) b 0->(∀c o,s.heap.get? c=some o->h'.get? c=some o)->Q (.ref (s.heap.objs.size+4)) { s with heap:=h' }):aG (aY prog w) A (call (.type "zip") [.ref a,.ref b]) Q E s:=by
 refine callType_new F.called_zip (by decide) (F.typeCall_zip_2 _ _) (F.newCall_zip_2 _ _) (λobj=>F.args_object_init_3 obj _ _) F.entry_zip_new (XN t u a b xs ys) ⟨Y,U,?_⟩;let G:(DR t s.heap a).objs.size=s.heap.objs.size+1:=cA ..;let C:(Dt t u s.heap a b).objs.size=s.heap.objs.size+2:=by rw[cA,G]
 let B:(DJ t u s.heap a b).objs.size=s.heap.objs.size+3:=by rw[cA,C]
 let L:(Gg t u s.heap a b).objs.size=s.heap.objs.size+4:=by rw[cA,B]
 let g:∀{c o},(Gg t u s.heap a b).get? c=some o->(zC t u s.heap a b).get? c=some o:=λe=>aj _ e;let l:∀{c o},(DJ t u s.heap a b).get? c=some o->(zC t u s.heap a b).get? c=some o:=λe=>g (aj _ e);let q:∀{c o},(Dt t u s.heap a b).get? c=some o->(zC t u s.heap a b).get? c=some o:=λe=>l (aj _ e);let up1:∀{c o},(DR t s.heap a).get? c=some o->(zC t u s.heap a b).get? c=some o:=λe=>q (aj _ e);let v:ma (zC t u s.heap a b) (Gg t u s.heap a b).objs.size (Dt t u s.heap a b).objs.size (DJ t u s.heap a b).objs.size .none:=ay _ rfl;let H:fv (zC t u s.heap a b) (DJ t u s.heap a b).objs.size .none .none:=g (ay _ rfl);let I:fv (zC t u s.heap a b) (Dt t u s.heap a b).objs.size (.ref s.heap.objs.size) (.ref (DR t s.heap a).objs.size):=l (ay _ rfl);let J:(zC t u s.heap a b).get? (DR t s.heap a).objs.size=some (Cv u b):=q (ay _ (by cases u<;>rfl));let O:(zC t u s.heap a b).get? s.heap.objs.size=some (Cv t a):=up1 (ay _ (by cases t<;>rfl))
 show _/\_;rw[C,B,L]at v;rw[B]at H;rw[G,C]at I;rw[G]at J;rw[L];exact⟨⟨_,v,rfl⟩,h _ v I H (Q9 O) (Q9 J) λc o e=>up1 (aj _ e)⟩
def V8{Q:ag->am->Prop}(p:tL t s.heap a xs)(h:∀h',IsEnum h' (s.heap.objs.size+1) s.heap.objs.size 0 .none->oH t h' s.heap.objs.size a 0->(∀b o,s.heap.get? b=some o->h'.get? b=some o)->Q (.ref (s.heap.objs.size+1)) { s with heap:=h' }):aG (aY prog w) A (call (.type "enumerate") [.ref a]) Q E s:=by
 cases t
 ·exact call_enumerate_list p λh' a b _ c=>h h' a b c
 ·exact QfQ p λh' a b _ c=>h h' a b c
def WP(t:Bool)(hh:A.handled=none)(c:a≠it)(xs:Array ag):Draws prog w A it [it,a] xs.size (λi v=>xs[i]?=some v) (λi h=>oH t h it a i/\tL t h a xs) where
 live:=λi h st=>(z_ (prog:=prog) (w:=w) hh c).there i h st
 frame:=λi h h' st B=>(z_ (prog:=prog) (w:=w) hh c).keep i h h' st λb C o e=>B b (by rcases C with q|q<;>rw[q]<;>simp) o e
 item:=λi s Q E g st G=>(z_ hh c).item i xs[i] s Q E st (by simp[g]) λh' p l=>G _ h' s.toks (by simp[g]) p l
 done:=λs Q E st H=>(z_ hh c).done xs.size s Q E st (by simp) H
end
def BC(t u:Bool)(K:ah)(a b:ak):It:=
 ⟨λi H=>∃xs ys x y,uL t K H a xs/\uL u K H b ys/\xs[i]?=some x/\ys[i]?=some y,
  λi H r c=>∃T x y,r=.ref T/\H T=none/\(∀xs,uL t K H a xs->xs[i]?=some x)/\(∀ys,uL u K H b ys->ys[i]?=some y)/\c=fE H T (.tup [x,y]),
  λi H=>∃xs ys,uL t K H a xs/\uL u K H b ys/\(xs.length<=i\/ys.length<=i)⟩
def CU(t:Bool)(K:ah)(a:ak):It:=
 ⟨λi H=>∃xs x,uL t K H a xs/\xs[i]?=some x,λi H x c=>∃T v,x=.ref T/\H T=none/\(∀xs,uL t K H a xs->xs[i]?=some v)/\c=fE H T (.tup [.int i,v]),λi H=>∃xs,uL t K H a xs/\xs.length<=i⟩
def F_(t u:Bool)(z g c o l a b:ak)(i:Nat)(h:bK):Prop:=ma h z g c .none/\fv h g (.ref o) (.ref l)/\(∃u v,fv h c u v)/\oH t h o a i/\oH u h l b i
section
variable{K:ah}{st:aZ}{t u:Bool}
def NL{i:Nat}(p:F_ t u z l g C B a b i h)(E:c∈[z,l,g,C,B]):∃o,h.get? c=some o/\∀v,o.data≠.cell v:=by
 let⟨O,L,⟨u,v,J⟩,I,G⟩:=p;simp only[aR,cI,or_false]at E;rcases E with e|e|e|e|e<;>subst e
 ·exact⟨_,O,λv q=>by cases q⟩
 ·exact⟨_,L,λv q=>by cases q⟩
 ·exact⟨_,J,λv q=>by cases q⟩
 ·exact I.obj
 ·exact G.obj
def Ye{k:Nat}(D:nC z C tO i1 i2 a b):u5 P w K (.Tuple es k pos) (BC t u K a b) [z,C,tO,i1,i2] z (F_ t u z C tO i1 i2 a b) where
 mem:=by simp
 obj:=λi h p c l=>NL p l
 keep:=λi h h' O kp=>by let⟨q,h2,⟨u,v,h3⟩,h4,h5⟩:=O;exact⟨kp z (by simp) _ q,kp C (by simp) _ h2,⟨u,v,kp tO (by simp) _ h3⟩,h4.keep λo e=>kp i1 (by simp) o e,h5.keep λo e=>kp i2 (by simp) o e⟩
 item:=by
  intro X hP hw hK l i B s σ H E I hf p0 hg;let⟨q,h2,⟨u0,v0,h3⟩,h4,h5⟩:=id p0;subst hP hw hK;let⟨xs,ys,x,y,qa,qb,hx,hy⟩:=hg;let⟨its,rv,p⟩:=z6 I qa;let⟨its2,G,p2⟩:=z6 I qb;let⟨ux,hux,rux⟩:=rv.get hx;let⟨uy,huy,ruy⟩:=G.get hy;let U:s.TypeIs (.ref z) "zip":=⟨_,q,rfl⟩
  unfold ic;refine ab (gR (bN (name:=az "__next__") U gj (b_ gj U ot (Y4 D (z_ (I.ok.hd l) D.l1i1) (z_ (I.ok.hd l) D.l2i2) q h2 h3 ⟨h4,p⟩ ⟨h5,p2⟩ (x:=ux) (y:=uy) (by simpa using hux) (by simpa using huy) λh' g1 g2 g3 g4 g5 g7=>ai ?_) (nJ _))));refine⟨_,rfl,wpAny_letOwnedTupleGo_zip g1 λY k1 k2=>?_⟩;let zlt:z < s.heap.objs.size:=aL q;let keep:∀c o,c∉[z,C,tO,i1,i2]->s.heap.get? c=some o->Y.get? c=some o:=λc o l e=>by simp only[aR,cI,or_false,not_or]at l;exact (k2.2 c l.1).trans (g7 c o l.1 l.2.2.1 l.2.2.2.1 l.2.2.2.2 e)
  let U:fv Y s.heap.objs.size ux uy:=(k2.2 _ (dk zlt)).trans g5;let I2:Inv X B σ (fE H s.heap.objs.size (.tup [x,y])) { s with heap:=Y,toks:=s.toks }:=JN (its:=[ux,uy]) I hf keep (aw _) (by show 2<=sizeLine;decide) (.cons rux (.cons ruy .nil)) ⟨_,U,rfl,⟨_,rfl⟩,rfl⟩;refine⟨.ref s.heap.objs.size,_,I2,rfl,⟨_,x,y,rfl,I.hok.fresh (aw _),λzs Q=>by rw[KS I Q qa];exact hx,λzs Q=>by rw[KS I Q qb];exact hy,rfl⟩,
   ⟨k1,(k2.2 C D.TIz).trans (g7 C _ D.TIz D.TITO D.TIi1 D.TIi2 h2),⟨_,_,(k2.2 tO D.TOz).trans g2⟩,g3.1.keep λo e=>(k2.2 i1 D.i1z).trans e,g4.1.keep λo e=>(k2.2 i2 D.i2z).trans e⟩,λc l=>?_⟩
  let⟨o,eo,_⟩:=NL p0 l;rw[fS (ba (aL eo))];exact (hf c l).1
 done:=by
  intro X hP hw hK l i B s σ H E I hf J hg;let⟨q,h2,⟨u,v,h3⟩,h4,h5⟩:=J;subst hP hw hK;let⟨xs,ys,qa,qb,hl⟩:=hg;let⟨its,rv,p⟩:=z6 I qa;let⟨its2,G,p2⟩:=z6 I qb;let l1:=rv.length;let l2:=G.length;let U:s.TypeIs (.ref z) "zip":=⟨_,q,rfl⟩
  unfold ic;refine ab (gR (bN (name:=az "__next__") U gj (b_ gj U ot (Qgp D (z_ (I.ok.hd l) D.l1i1) (z_ (I.ok.hd l) D.l2i2) q h2 h3 ⟨h4,p⟩ ⟨h5,p2⟩ ?_ λh' e g ⟨o,q1,q2⟩=>?_) (nJ _))))
  ·rcases hl with hl|hl
   ·exact .inl (by simp;ext)
   ·exact .inr (by simp;ext)
  ·refine ab (dN (T:="StopIteration") (b:=true) ⟨o,q1,q2⟩ nD (ai ⟨rfl,O5 (t':=s.toks) I hf λc o l e=>?_⟩));simp only[aR,cI,or_false,not_or]at l;exact g c o l.1 l.2.2.1 l.2.2.2.1 l.2.2.2.2 e
 self:=λ_ _ _ _ _ L h=>by let⟨q,_⟩:=L;exact uv q h
def W7{k:Nat}(a e C:ak)(hei:e≠C):u5 P w K (.Tuple es k pos) (CU t K a) [e,C] e (λi h=>(∃old,IsEnum h e C i old)/\oH t h C a i) where
 mem:=by simp
 obj:=λi h Y b g=>by
  let⟨⟨old,l⟩,c⟩:=Y;simp only[aR,cI,or_false]at g;rcases g with z|z<;>subst z
  ·exact⟨_,l,λv q=>by cases q⟩
  ·exact c.obj
 keep:=λi h h' U kp=>by let⟨⟨old,l⟩,c⟩:=U;exact⟨⟨old,kp e (by simp) _ l⟩,c.keep λo x=>kp C (by simp) o x⟩
 item:=by
  intro X hP hw hK hc i B s σ H E I hf L hg;let⟨⟨old,l⟩,c⟩:=L;subst hP hw hK;let⟨xs,x,hq,hx⟩:=hg;let⟨its,rv,p⟩:=z6 I hq;let⟨u,hu,ru⟩:=rv.get hx;let hlt:i < its.toArray.size:=by rw[aI];exact (ac.mp hu).1
  let hae:a≠e:=λz=>by subst z;cases t<;>let⟨o',e2,c',_⟩:=p<;>rw[l]at e2<;>cases e2<;>exact bh (wz c') (by decide)
  refine wpAny_pyNext_enum_itemD (WP t (prog:=X.prog) (w:=X.w) (A:=X.A.in1) (I.ok.hd hc) (p.ne c) its.toArray) l ⟨c,p⟩ hlt hei (by simp;exact⟨hei,hae.symm⟩) λy h' tk hP ho hst hT hsz hk=>?_;let ey:y=u:=by
   have:its.toArray[i]?=some u:=by simpa using hu
   rw[this]at hP;cases hP;rfl
  subst ey;refine⟨_,rfl,wpAny_letOwnedTupleGo_enum ho λh2 he2 hs2=>?_⟩;let G:e < s.heap.objs.size:=aL l;let hT2:h2.get? s.heap.objs.size=some { cls:=.type "tuple",data:=.seq #[.int i tk,y] }:=(hs2.2 _ (dk G)).trans hT;let I2:Inv X B σ (fE H s.heap.objs.size (.tup [.int i,x])) { s with heap:=h2,toks:=tk+1 }:=JN (its:=[.int i tk,y]) I hf (λb o g e1=>by simp only[aR,cI,or_false,not_or]at g;exact (hs2.2 b g.1).trans (hk b o g.1 g.2 e1)) (aw _) (by show 2<=sizeLine;decide) (.cons ⟨tk,rfl⟩ (.cons ru .nil)) ⟨_,hT2,rfl,⟨_,rfl⟩,rfl⟩
  refine⟨.ref s.heap.objs.size,_,I2,rfl,⟨_,x,rfl,I.hok.fresh (aw _),λys hy=>by rw[KS I hy hq];exact hx,rfl⟩,⟨⟨y,by simpa using he2⟩,hst.1.keep λo e=>(hs2.2 C hei.symm).trans e⟩,λb g=>?_⟩;rw[fS]
  ·exact (hf b g).1
  ·simp only[aR,cI,or_false]at g;rcases g with z|z<;>subst z
   ·exact ba G
   ·let⟨o,h,_⟩:=c.obj;exact ba (aL h)
 done:=by
  intro X hP hw hK hc i B s σ H E I hf J hg;let⟨⟨old,l⟩,c⟩:=J;subst hP hw hK;let⟨xs,hq,hx⟩:=hg;let⟨its,rv,p⟩:=z6 I hq;let⟨g0,g1,g2,g3,g4,g5⟩:=hf C (by simp);let hl:=rv.length;let hT:s.TypeIs (.ref e) "enumerate":=⟨_,l,rfl⟩
  unfold ic;refine ab (gR (bN (name:=az "__next__") hT xW (b_ xW hT F.entry_enumerate_next ?_ (F.args_enumerate_next_1 _))))
  show aG _ _ (qz (.ref e) 2 >>= _) _ _ _;refine ab (cD l rfl (x:=.ref C) rfl ?_);refine ab ((z_ (A:=X.A.in1) (I.ok.hd hc) (p.ne c)).done i _ _ _ ⟨c,p⟩ (by simp;ext) λh' x he' Q=>?_);let⟨o,ho,hc'⟩:=Q;exact ab (dN (T:="StopIteration") (b:=true) ⟨o,ho,hc'⟩ nD (ai ⟨rfl,I.turned (t':=s.toks) (λb o g e=>he' b o g e) g0 g1 g3 g4 g5⟩))
 self:=λ_ _ _ _ _ O h=>by let⟨⟨old,l⟩,_⟩:=O;exact D9 l h
def Z3{k:Nat}(hg:Gl X "zip")(hm:X.mg "zip"=none)(ha:PA X [a,b] U)(hs:starEach [a,b] X.env=[(false,eval a X.env),(false,eval b X.env)])(E:starEach [b] X.env=[(false,eval b X.env)]):PI X (.Tuple es k C) (.Call (.Name "zip" p) [a,b] [] pos) (λσ H R=>U σ H λQ B=>∃v l xs ys,Q=[.ref v,.ref l]/\uL t X.K B v xs/\uL u X.K B l ys/\R (BC t u X.K v l) B):=by
 intro g s σ H R I h;refine Call_ (xF I hg hm boot_zip (cw (fT (ha pos g s σ H _ I h) λus c ⟨Q,B,J,r1,q1⟩=>?_) (by rw[hs,E]) (by rw[E];rfl)));let⟨v,l,xs,ys,e,hx,hy,q⟩:=q1;subst e;cases r1 with|cons r rr=>
  cases rr with|cons r' rr=>
   cases rr;cases r;cases r';let⟨its,rv,p1⟩:=z6 J hx;let⟨its2,rv2,Y⟩:=z6 J hy;let O:v < c.heap.objs.size:=by let⟨o,e⟩:=p1.there;exact aL e
   let L:l < c.heap.objs.size:=by let⟨o,e⟩:=Y.there;exact aL e
   refine TD p1 Y λh' g1 g2 g3 g4 g5 g7=>uv g1 ?_;let I2:Inv X g σ B { c with heap:=h' }:=J.kept (t':=c.toks) g7;refine⟨c.heap.objs.size+4,[c.heap.objs.size+4,c.heap.objs.size+2,c.heap.objs.size+3,c.heap.objs.size,c.heap.objs.size+1],_,BC t u X.K v l,B,rfl,I2,Ye (zipApart_new O L),⟨g1,g2,⟨_,_,g3⟩,g4,g5⟩,λb hb=>?_,q⟩;let G:c.heap.objs.size<=b:=by simp only[aR,cI,or_false]at hb;rcases hb with e|e|e|e|e<;>rw[e]<;>ext
   exact J.fpOk G (J.hok.fresh G)
def QgD{k:Nat}(hg:Gl X "enumerate")(hm:X.mg "enumerate"=none)(ha:PA X [b] E)(hs:starEach [b] X.env=[(false,eval b X.env)]):PI X (.Tuple es k l) (.Call (.Name "enumerate" p) [b] [] pos) (λσ H R=>E σ H λC q=>∃a xs,C=[.ref a]/\uL t X.K q a xs/\R (CU t X.K a) q):=by
 intro g s σ H R I h;refine Call_ (xF I hg hm boot_enumerate (cw (fT (ha pos g s σ H _ I h) λus c ⟨C,q,v,O,Q⟩=>?_) hs rfl));let⟨a,xs,e,hq,hR⟩:=Q;subst e;let⟨u,rfl,L⟩:=w8 O;cases L;let⟨its,rv,U⟩:=z6 v hq;refine V8 U λh' G B Y=>D9 G ?_;let I2:Inv X g σ q { c with heap:=h' }:=v.kept (t':=c.toks) Y;refine⟨c.heap.objs.size+1,[c.heap.objs.size+1,c.heap.objs.size],_,CU t X.K a,q,rfl,I2,W7 a (c.heap.objs.size+1) c.heap.objs.size (Nat.succ_ne_self _),⟨⟨_,G⟩,B⟩,λb J=>?_,hR⟩;let o:c.heap.objs.size<=b:=by simp only[aR,cI,or_false]at J;rcases J with e|e<;>rw[e]<;>ext
 exact v.fpOk o (v.hok.fresh o)
def IF:Bool->D->M (List D×(aZ->Prop))
 |true,.tup ds=>ret (ds,d6)|false,.ref n=>bnd (getL n) λds=>ret (ds,gw n ds)|_,_=>bad
def aT.sqx{α:Type}{f:List D×(aZ->Prop)->M α}{R:α->aZ->List ak->Hp->Prop}(p:aT K ρ H (MM.bnd (IF t d) f st) R)(I:dE K ρ H v d)(sr:SR K ρ H st):∃a ws ds B,v=.ref a/\uL t K H a ws/\aT K ρ H (f (ds,B) st) R/\∀ρ' g c,Ex ρ H ρ' g->SR K ρ' g c->(t=false->B c)->∃l,uL t K g a l/\bW K ρ' g l ds:=by
 cases t
 ·cases d with
  |ref n=>
   obtain⟨a,rfl,J⟩:∃a,v=.ref a/\ρ[n]?=some a:=by cases I with|@ref a m _ h=>exact⟨_,rfl,h⟩
   let⟨ds,Y,Q⟩:=aT.getL (aT.bnd (aT.bnd p)) sr;let⟨a1,L,q,U,r⟩:=sr.seq Y;rw[J]at q;cases q;refine⟨a,L,ds,gw n ds,rfl,gS.of U,Q.ret sr,λρ' g c x G B=>?_⟩;let⟨τ,eτ,_⟩:=x.pre;let⟨u,C,o,E,O⟩:=G.seq (B rfl);rw[eτ,xE J]at o;cases o;exact⟨C,gS.of E,O⟩
  |_=>exact p.elim
 ·cases d with
  |tup ds=>
   obtain⟨a,ws,rfl,h,r⟩:∃a ws,v=.ref a/\ml K H a ws/\bW K ρ H ws ds:=by cases I with|tup h r=>exact⟨_,_,rfl,h,r⟩
   exact⟨a,ws,ds,d6,rfl,h,(aT.bnd p).ret sr,λρ' g c x G _=>⟨ws,ml.mono x.up h,r.mono x⟩⟩
  |_=>exact p.elim
def XY(t u:Bool)(P Q:aZ->Prop):aZ->Prop:=match t,u with|true,true=>d6|false,true=>P|true,false=>Q|false,false=>λs=>P s/\Q s
def A2(t u:Bool)(a b:CE):CI:=λl=>bnd (a l) λx=>bnd (b l) λy=>bnd (IF t x) λp=>bnd (IF u y) λq=>ret ⟨p.1.zipWith (λp q=>.tup [p,q]) q.1,XY t u p.2 q.2⟩
def vG(t:Bool)(a:CE):CI:=λl=>bnd (a l) λx=>bnd (IF t x) λp=>ret ⟨(iL 0 p.1.length).zipWith (λi d=>.tup [i,d]) p.1,p.2⟩
def Zc{k:Nat}(t u:Bool)(hg:Gl X "zip")(hm:X.mg "zip"=none)(h:SE X a fa)(h':SE X b fb)(he1:starEach [a,b] X.env=(false,eval a X.env)::starEach [b] X.env)(he2:starEach [b] X.env=(false,eval b X.env)::starEach [] X.env)(hs:starEach [a,b] X.env=[(false,eval a X.env),(false,eval b X.env)]) (hs2:starEach [b] X.env=[(false,eval b X.env)]):SI X (.Tuple es k E) (.Call (.Name "zip" p) [a,b] [] pos) (A2 t u fa fb):=
 (Z3 (t:=t) (u:=u) hg hm (sB h (sB h' vg he2) he1) hs hs2).of λσ H R h_=>h_.el λρ l st lr sr p=>⟨ρ,l,st,lr,sr,p.bnd.imp λd Q ρ1 H1 x1 s1 p1 v rv=>⟨ρ1,l,Q,lr.mono x1,s1,p1.bnd.imp λe st2 ρ2 H2 x2 U p2 w Y=>by
  let⟨a1,ws,ds,sm,rfl,q1,p3,I⟩:=aT.sqx p2 (rv.mono x2) U;let⟨a2,O,C,sm2,rfl,q2,p4,G⟩:=aT.sqx p3 Y U;refine⟨a1,a2,ws,O,rfl,q1,q2,p4.ret U _ ?_⟩;intro ρ3 H3 st3 x3 s3 sm3;let⟨g,B,r3⟩:=I ρ3 H3 st3 x3 s3 λe=>by subst e;cases u<;>first|exact sm3.1|exact sm3
  let⟨c,q,r4⟩:=G ρ3 H3 st3 x3 s3 λe=>by subst e;cases t<;>first|exact sm3.2|exact sm3
  let l1:=r3.length;let l2:=r4.length;refine⟨⟨g,c,B,q,?_⟩,λi d hd=>?_⟩
  ·show g.length<=(ds.zipWith _ C).length\/c.length<=(ds.zipWith _ C).length;rw[iQ];ext
  ·rw[d9]at hd;cases J:ds[i]? with|none=>rw[J]at hd;cases hd|some d1=>
    cases u:C[i]? with|none=>rw[J,u]at hd;cases hd|some d2=>
     rw[J,u]at hd;let Y:d=.tup [d1,d2]:=(aM hd).symm;subst Y;let⟨v1,I,l⟩:=r3.get J;let⟨v2,G,h⟩:=r4.get u;refine⟨⟨g,c,v1,v2,B,q,I,G⟩,λy H4 o=>?_⟩;let⟨T,x,y',U,H,Q,O,eH⟩:=o;subst U eH;let E:=Q g B;let v:=O c q;rw[I]at E;cases E;rw[G]at v;cases v;let L:Ex ρ3 H3 ρ3 (fE H3 T (.tup [v1,v2])):=Ex.new H;exact⟨L,s3.new H,.tup (ml.of kL) (.cons (l.mono L) (.cons (h.mono L) .nil))⟩⟩⟩
def Qv{k:Nat}(t:Bool)(hg:Gl X "enumerate")(hm:X.mg "enumerate"=none)(h:SE X b fa)(L:starEach [b] X.env=[(false,eval b X.env)]):SI X (.Tuple es k g) (.Call (.Name "enumerate" p) [b] [] pos) (vG t fa):=
 (QgD (t:=t) hg hm (sB h vg L) L).of λσ H R h_=>h_.el λρ l st lr sr p=>⟨ρ,l,st,lr,sr,p.bnd.imp λd U ρ1 H1 x1 J p1 v B=>by
  let⟨a1,ws,ds,sm,rfl,Y,u,k1⟩:=aT.sqx p1 B J;refine⟨a1,ws,rfl,Y,u.ret J _ ?_⟩;intro ρ2 H2 st2 x2 s2 sm2;let⟨q,C,r⟩:=k1 ρ2 H2 st2 x2 s2 λ_=>sm2;let hl:=r.length;let len:((iL 0 ds.length).zipWith (λi d=>D.tup [i,d]) ds).length=ds.length:=by simp[iL]
  refine⟨⟨q,C,by rw[len,hl];exact aw _⟩,λi d G=>?_⟩;let E:i < ds.length:=by rw[<- len];exact (ac.mp G).1
  let ed:d=.tup [.int i,ds[i]]:=by rw[d9,iL,av,lR E,ae E]at G;have:=aM G;rw[<- this];simp
  subst ed;let⟨v,o,B⟩:=r.get (ae E);refine⟨⟨q,v,C,o⟩,λy H3 c=>?_⟩;let⟨T,w,ey,O,hw,eH⟩:=c;subst ey eH;let Q:=hw q C;rw[o]at Q;cases Q;let I:Ex ρ2 H2 ρ2 (fE H2 T (.tup [.int i,v])):=Ex.new O;exact⟨I,s2.new O,.tup (ml.of kL) (.cons (.int _) (.cons (B.mono I) .nil))⟩⟩
def IB{α β:Type}{m:M α}{f g:α->M β}(h:∀x s,f x s=g x s):bnd m f s=bnd m g s:=by unfold bnd;cases m s<;>first|rfl|exact h _ _
def QgH:qH fa fb=A2 true true fa fb:=by
 funext l s;refine IB λx s=>IB λy s=>?_;cases x<;>first|rfl|skip
 cases y<;>rfl
def Tn:uK fa=vG true fa:=by funext l s;refine IB λx s=>?_;cases x<;>rfl
def Za:qd fa=vG false fa:=by
 funext l s;refine IB λx s=>?_;cases x<;>first|rfl|skip
 rename_i n
 show bnd (getL n) _ s=bnd (bnd (getL n) _) _ s;unfold bnd;cases getL n s<;>rfl
end
end MM
namespace PySem.F
def nolen_lri:iW (.type "list_reverseiterator") "__len__"=pure none:=by rw[mP,iF];kernel_rfl
def hint_lri:iW (.type "list_reverseiterator") "__length_hint__"=pure (some (.builtin "list_reverseiterator.__length_hint__")):=by rw[mP,iF];kernel_rfl
end PySem.F
namespace MM
open PySem PySem.Spec PyProof.Rows L2
section
variable{s:am}
def Y3{Q:Bool->am->Prop}(l:s.TypeIs (.ref r) "list_reverseiterator")(h:Q false s):aG (aY prog w) A (pU (.ref r)) Q E s:=by
 unfold pU;refine ab (kD l PySem.F.nolen_lri ?_)
 show aG _ A (specialOf (bD r) (az "__length_hint__") >>= _) _ _ _;refine ab (kD l PySem.F.hint_lri ?_);generalize c:("list_reverseiterator.__length_hint__":String)=g
 wp_delta
 rw[show splitId g=some ("list_reverseiterator","__length_hint__") from by subst c;decide +kernel];subst c;refine ab (dN (b:=true) l (by rw[vW];kernel_rfl) ?_);exact ai h
end
def WR{g:List ag}(h:D_ (λi v=>g.toArray[g.toArray.size-1-i]?=some v) c g.toArray.size):c=g.reverse.toArray:=by
 apply HC;apply eW;intro i;let u:c.size=g.length:=by have:=h.1;simpa using this
 by_cases q:i < g.length
 ·let o:c[i]?=some (c[i]'()):=mQ ();let l:=h.2 i _ o;rw[fu,o];simp only[List.getElem?_toArray,aI]at l;rw[oA q];exact l.symm
 ·rw[bX (by simp;ext),bX (by simp;ext)]
theorem cq.reverse:∀{xs:List V}{c:List ag},cq xs c->cq xs.reverse c.reverse
 |_,_,.nil=>.nil|_,_,.cons r t=>by rw[fX,fX];exact L2.cq.append (cq.reverse t) (.cons r .nil)
section
variable{X:Cx}{pos a9 a8 a7 p p':Pos}{K:ah}{H:Hp}{st:aZ}
def XG:SE X (.Dict [] [] pos) (rS false):=Qc5.of λσ H Q g q h=>by let⟨ρ,l,st,u,sr,p⟩:=g;have p':∀ρ' H',Ex ρ H ρ' H'->SR X.K ρ' H' (st++[.dct false []])->∀v,dE X.K ρ' H' v (.dic st.length)->Q v H':=p;refine p' (ρ++[q]) _ (Ex.newO h) ((sr.new h).keepO (sr.fresh h) ⟨[],kL,.nil⟩) _ (.dic ⟨_,kL,.inl rfl⟩ ?_);rw[<- sr.len];simp
def Cn(X:Cx):TE:=λ_ H Q=>∀p,H p=none->Q (.ref p) (fE H p (kI p []))
def U0:PE X (.Dict [] [] pos) (Cn X):=λg s σ H Q I h=>
 Hx ⟨.ref s.heap.objs.size,_,I.laid (a:=s.heap.objs.size) (o:=kI s.heap.objs.size []) (t':=s.toks) (λ_ _ q=>aj _ q) (aw _)
  (Dx (P:=X.prog) (w:=X.w) (xs:=[]) (bU _) (beq_eq_false_iff_ne.mpr (ff (ba I.big))) .nil (o0 s.heap) ⟨_,_,ay _ rfl,rfl⟩),rfl,h _ (I.hok.fresh (aw _))⟩
def Uv:SE X (.Dict [] [] pos) (rS true):=U0.of λσ H Q g q h=>by let⟨ρ,l,st,u,sr,p⟩:=g;have p':∀ρ' H',Ex ρ H ρ' H'->SR X.K ρ' H' (st++[.dct true []])->∀v,dE X.K ρ' H' v (.dic st.length)->Q v H':=p;refine p' (ρ++[q]) _ (Ex.newO h) ((sr.new h).keepO (sr.fresh h) ⟨[],kL,.nil⟩) _ (.dic ⟨_,kL,.inr rfl⟩ ?_);rw[<- sr.len];simp
theorem KR.zip:∀{ks:List Key}{g:List V}{ds:List D},bW K ρ H g ds->KR K ρ H (ks.zip g) ((ks.map pD).zip ds)
 |[],_,_,_=>.nil|k::ks,_,_,.nil=>.nil|k::ks,_,_,.cons r t=>.cons ⟨rfl,r⟩ (KR.zip t)
theorem KR.merge:∀{more:List (Key×V)}{rs:List (D×D)}{es:List (Key×V)}{a6:List (D×D)},KR K ρ H more rs->KR K ρ H es a6->KR K ρ H (mJ es more) (tJ a6 rs)
 |_,_,_,_,.nil,q=>q
 |_,_,es,a6,.cons (a:=p) (b:=q) (l₁:=ps) (l₂:=qs) h t,r=>by
  let z:=KR.put r p.1 h.2;rw[h.1]at z
  show KR K ρ H (mJ (L2.ng es p.1 p.2) ps) (tJ (mK a6 q.1 q.2) qs);exact KR.merge (more:=ps) (rs:=qs) t z
end



































end MM
namespace MM
open PySem PyProof.Rows L2
section
variable{prog:Program}{w:bM}{K:Type}[DecidableEq K]{knd:qx prog w K}{A:bI}{s:am}{k:K}{xs:List (K×ak×ag)}
def QgQ{dflt:ag}{Q:ag->am->Prop}(hu:knd.room A)(c:knd.is s.heap k a) (Y:s.heap.DictOfH knd d xs) (U:sO s.heap d xs.length) (hsz:xs.length<=sizeLine)(h1:∀p,l_ xs k=some p->Q p.2 { s with toks:=s.toks+knd.draws k })(h2:l_ xs k=none->∀h',h'.DictOfH knd d (lX xs k a dflt)->sO h' d (lX xs k a dflt).length->cR d s.heap h'->Q dflt { s with heap:=h',toks:=s.toks+knd.draws k }):aG (aY prog w) A (vX d (.ref a) dflt) Q E s:=by
 let⟨o,es,ep,g,hc,hd,G,B,I⟩:=Y;let⟨o',es',l,C⟩:=U;rw[g]at l;cases l;rw[hd]at C;cases C;unfold vX;refine bV ?_;refine ab (knd.pyHash hu c ?_);refine ab (rm (s:={ s with toks:=s.toks+knd.draws k }) hu c g hd G B I (λu=>?_) λj p J=>?_)
 ·let q:k∉xs.map (·.1):=Bn u;let L:=D6 u;let H:=storedH_new (a:=a) (v:=dflt) L;let l:=iA G;refine ab (fV (ab (AL (hz:=by ext) (s:={ s with toks:=s.toks+knd.draws k }) g hd (ai
   (h2 L _ ⟨_,_,_,cT _ g (gL (eM hd _)),hc.mapDictKeys _,eM hd _,?_,?_,?_⟩ ?_ (cG ..))))))
  ·rw[H];simp[G,pe]
  ·rw[H];intro x h;rcases aP.mp h with h|h
   ·exact knd.keeps (B x h) g hd (cG ..)
   ·cases aA.mp h;exact knd.keeps c g hd (cG ..)
  ·rw[H,bw,c7];refine⟨I,by simp,λx h y O=>?_⟩;cases aA.mp O;exact λe=>q ((show x=k from e) ▸ h)
  ·rw[H,aC];exact⟨_,_,cT _ g (gL (eM hd _)),eM hd _⟩
 ·refine ab (dD (s:={ s with toks:=s.toks+knd.draws k }) g hd ?_);rw[AT G j,J];exact ab (fV (ai (h1 p (s_ I J))))
def YR(hd:(d == cH)=false)(dflt:ag):MeetsIn prog w (Builtin.«dict.setdefault» ⟨[.ref d,.ref a,dflt],[]⟩) (λA R s=>knd.room A.in1/\∃k xs,knd.is s.heap k a/\s.heap.DictOfH knd d xs/\sO s.heap d xs.length/\xs.length<=sizeLine /\(∀p,l_ xs k=some p->R (.ok (.ret p.2)) { s with toks:=s.toks+knd.draws k }) /\(l_ xs k=none->∀h',h'.DictOfH knd d (lX xs k a dflt)->sO h' d (lX xs k a dflt).length->cR d s.heap h'->R (.ok (.ret dflt)) { s with heap:=h',toks:=s.toks+knd.draws k })):=
 .of_wp λA R s z=>by
  let⟨hu,k,xs,c,q,l,hz,B,v⟩:=z;unfold Builtin.«dict.setdefault»;refine ab ?_;unfold Builtin.Dict.keyAndDefault;refine ab (iE q.typeIs ?_)
  show aG _ _ (pure (d,bD a,some dflt)) _ _ s;refine ai ?_
  show aG _ _ (if (d == cH)=true then _ else (vX d (.ref a) dflt >>= _)) _ _ s;rw[aD (by rw[hd];exact bE)];exact ab (QgQ hu c q l hz (λp l=>ai ⟨p.2,rfl,B p l⟩) λu h' o h g=>ai ⟨dflt,rfl,v u h' o h g⟩)
end
section
variable{st:aZ}
def S4{n:Nat}{Q:ag->am->Prop}{A:bI}(hu:A.units+2 < cS)(I:Inv X ar σ H s)(sr:SR X.K ρ H st)(ha:ρ[n]?=some a)(hn:st[n]?=some (.dct true g))(rk:dE X.K ρ H y k) (hk:oY true k=true) (hl:g.length < sizeLine) (rv:dE X.K ρ H v d) (ry:RelV y u) (rr:RelV v L)(h1:∀d',m_ g k=some d'->∀B w' C,Inv X ar σ H C->dE X.K ρ H B d'->RelV B w'->Q w' C)(h2:m_ g k=none->∀H' C,Inv X ar σ H' C->SR X.K ρ H' (st.set n (.dct true (mK g k d)))->Ex ρ H ρ H'->Q L C):aG (aY X.prog X.w) A (call (.builtin "dict.setdefault") [.ref a,u,L]) Q E s:=by
 let Y:=(ac.mp hn).1;let⟨es,e,r⟩:=sr.ob n a _ ha hn;let⟨k,rfl⟩:=EY hk;let⟨_,hd,xs,O,dd,de⟩:=zB I e r;let⟨c,e2,e3,hc⟩:=BH I rk ry;subst e2 e3;let w:=sr.putO (o':=.dct true (mK g (sF k) d)) (u':=kI a (putN es k c v)) Y ha e (by show (2:Nat)≠3;decide) rfl ⟨_,kL,(NR.put r k c rk rv).up ?_⟩
 ·let hz : xs.length <= sizeLine := by rw[<- cV O,NR.length r];ext
  let l:=NR.val r k;let h:=NX.val O k;refine zn xw dd.typeIs F.entry_dict_setdefault (F.args_dict_setdefault_3 _ _ _) (YR (knd:=AG X) hd L) ⟨show A.in1.units+1 < cS from hu,k,xs,hc,dd,de,hz,λp U=>?_,λU h' J o u=>?_⟩
  ·rw[U]at h;cases G:valN es k with|none=>rw[G]at h;exact h.elim|some B=>
    rw[G]at l h;cases el:m_ g (sF k) with|none=>rw[el]at l;exact l.elim|some d'=>
     rw[el]at l;exact h1 d' el B p.2 _ (I.tok _) l h
  ·rw[U]at h;cases G:valN es k with|some B=>rw[G]at h;exact h.elim|none=>
    rw[G]at l;cases el:m_ g (sF k) with|some d'=>rw[el]at l;exact l.elim|none=>
     refine h2 el _ _ ?_ w.1 w.2;let C:∃q,h'.get? a=some q:=let ⟨q,_,_,hq,_⟩:=J;⟨q,hq⟩
     refine DY I (by rw[e];exact gi) u C (Dx ?_ hd (NX.put O k c rr) J o);have:=KG es k c v;rw[NR.length r]at this;ext
 ·refine⟨⟨[],by simp⟩,λc o g q=>?_,λc o q=>?_⟩
  ·rw[fS λz=>by subst z;rw[e]at q;cases q;exact nomatch g];exact q
  ·by_cases z:c=a
   ·subst z;rw[e]at q;cases q;exact⟨_,kL,rfl⟩
   ·exact⟨o,by rw[fS z];exact q,rfl⟩
end
open PySem.W
section
variable{A:bI}{s:am}{d it:ak}{es:Array kP}{ep i:Nat}
noncomputable def nO(h:bK)(d:ak)(es:Array kP)(ep:Nat):Prop:=∃o,h.get? d=some o/\o.ExactDict/\o.data=.dict es ep
def nO.typeIs(x:nO s.heap d es ep):s.TypeIs (.ref d) "dict":=by let⟨o,g,c,_⟩:=x;exact⟨o,g,c.1⟩
def nO.keep{h h':bK}(x:nO h d es ep)(k:∀o,h.get? d=some o->h'.get? d=some o):nO h' d es ep:=by let⟨o,g,r⟩:=x;exact⟨o,k o g,r⟩
def nO.lt(x:nO h d es ep):d < h.objs.size:=by let⟨o,g,_⟩:=x;exact aL g
def ZT{Q:ag->am->Prop}(hd:(d == cH)=false)(x:nO s.heap d es ep)(q:Q (.ref s.heap.objs.size) { s with heap:=s.heap.push { cls:=.type "dict_keyiterator",data:=.fields #[.ref d,.int 0 0,.int es.size 0,.int ep 0] } }):aG (aY prog w) A (y0 (.ref d)) Q E s:=by
 let T:=x.typeIs;let⟨o,g,c,h⟩:=x;refine Ea T Do (b_ Do T F.entry_dict_iter ?_ (F.args_dict_iter_1 _));unfold Builtin.«dict.__iter__» Builtin.Dict.dictSlotNone;refine ab (ab (iE T ?_))
 show aG _ _ (pure (bD d)) _ _ s;refine ai ?_
 show aG _ _ (gM d >>= _) _ _ s;unfold gM;rw[aD (by rw[hd];exact bE)];refine ab (ai (ab (dD g h (ab (gC g h ?_)))));refine ab (b9 (ai ⟨_,rfl,"dict_keyiterator",_,⟨_,ay _ rfl,rfl⟩,ir.lookup,?_⟩));simpa [dP] using q
def Vv{Q:Option ag->am->Prop}(z:s.heap.IsKeyIter it d i es.size ep)(x:nO s.heap d es ep)(B:es[i]?=some e)(q:∀h',h'.IsKeyIter it d (i+1) es.size ep->cR it s.heap h'->Q (some e.key) { s with heap:=h' }):aG (aY prog w) A (ic (.ref it)) Q E s:=by
 let T:=z.typeIs;let⟨o,g,c,h⟩:=id z;let⟨C,u,G,dx⟩:=x;unfold ic;refine ab (gR (bN (name:=az "__next__") T ir (b_ ir T tU ?_ (tj _))));refine ab (ai (ab (ab ?_)))
 first|refine ab (iq T (ai ?_))|refine ab (kz T (ai ?_))
 refine ab (qB g h ?_);let v:fj "dict_keyiterator"=false:=by decide
 simp only[v,aK,if_false]
 show aG _ _ (if (bD d == cB)=true then _ else _) _ _ s;rw[aD (show ¬ ((bD d == cB)=true) from bE)];refine ab (ai (ab (dD u dx ?_)));rw[aD (by simp)];refine ab (ai (ab (gC u dx ?_)));rw[aD (by simp)];refine ai ?_;simp only[show ¬ ((i:Int) < 0) from by ext,if_false,bC,B];refine ab ?_
 first|refine ab (iq T (ai ?_))|refine ab (kz T (ai ?_))
 refine ab (zN T ?_)
 show aG _ _ (AU (.ref it) 1 (dP ((i:Int)+1)) >>= _) _ _ s;refine ab (nB g h (by simp) ?_);let l:(s.heap.update it (Eb (·.setIfInBounds 1 (dP ((i:Int)+1))))).IsKeyIter it d (i+1) es.size ep:=
  ⟨_,cT _ g (wx (mO h _)),(zL ..).trans c,by rw[mO h];simp[dP]⟩
 refine ab (bV (ab (zN (s:={ s with heap:=s.heap.update it (Eb (·.setIfInBounds 1 (dP ((i:Int)+1)))) }) l.typeIs ?_)))
 show aG _ _ (pure e.key) _ _ _;exact ai (ai ⟨_,rfl,ai (q _ l (cG ..))⟩)
def VT{Q:Option ag->am->Prop}(hh:A.handled=none)(z:s.heap.IsKeyIter it d i es.size ep)(x:nO s.heap d es ep)(v:es[i]?=none)(q:∀h',mZ it s.heap h'->Q none { s with heap:=h' }):aG (aY prog w) A (ic (.ref it)) Q E s:=by
 let T:=z.typeIs;let⟨o,g,c,l⟩:=id z;let⟨B,h,C,dx⟩:=x;unfold ic;refine ab (gR (bN (name:=az "__next__") T ir (b_ ir T tU ?_ (tj _))));refine ab (ai (ab (ab ?_)))
 first|refine ab (iq T (ai ?_))|refine ab (kz T (ai ?_))
 refine ab (qB g l ?_);let u:fj "dict_keyiterator"=false:=by decide
 simp only[u,aK,if_false]
 show aG _ _ (if (bD d == cB)=true then _ else _) _ _ s;rw[aD (show ¬ ((bD d == cB)=true) from bE)];refine ab (ai (ab (dD h dx ?_)));rw[aD (by simp)];refine ab (ai (ab (gC h dx ?_)));rw[aD (by simp)];refine ai ?_;simp only[show ¬ ((i:Int) < 0) from by ext,if_false,bC,v];refine ab ?_
 first|refine ab (iq T (ai ?_))|refine ab (kz T (ai ?_))
 show aG _ _ (AU (.ref it) 0 .none >>= _) _ _ s;refine ab (nB g l (by simp) ?_)
 show aG _ _ (zp (.type "StopIteration") [] >>= _) _ _ _;refine ab ?_;simp only[zp,newTuple];refine ab (b9 ?_ (by size_fits));refine ab (m:=lj _ _) (nX (a:=cB) (by first|rfl|(simp only[lj];rfl)) (b9 ?_ (by size_fits)));simp only[raiseNew];refine ab (xt ?_);rw[show A.in1.handled=none from hh];refine ab (ai (AQ ?_));refine ab (dN (T:="StopIteration") (b:=true) ⟨_,ay _ rfl,rfl⟩ nD ?_);exact ai (q _ (((cG ..).extBut.push _).push _))
def QgW(hh:A.handled=none)(I d:ak)(ne:d≠I)(es:Array kP)(ep:Nat):Walks prog w A I [I,d] [I] es.size (λi v=>∃e,es[i]?=some e/\v=e.key) (λi h=>h.IsKeyIter I d i es.size ep/\nO h d es ep) where
 sub:=λb c=>by simp at c;simp[c]
 frame:=λ_ _ _ z k=>⟨z.1.at λo e=>k I (by simp) o e,z.2.keep λo e=>k d (by simp) o e⟩
 item:=λi s Q E B z q=>by
  let g:es[i]?=some es[i]:=by simp[B]
  refine Vv z.1 z.2 g λh' u l=>?_;exact q _ h' s.toks ⟨_,g,rfl⟩ ⟨u,z.2.keep λo e=>l.extBut d o ne e⟩ λb o c e=>l.extBut b o (λh=>c (by simp[h])) e
 done:=λs Q E z q=>VT hh z.1 z.2 (by simp) λh' C=>q h' s.toks λb o c e=>C b o (λh=>c (by simp[h])) e
 self:=λ_ _ _ _ z q=>wpAny_pyIter_keyiter z.1 q
def Yb(lo:(d == cH)=false):KdlSrc prog w "dict" d d es.size (λi v=>∃e,es[i]?=some e/\v=e.key) (λh=>nO h d es ep) where
 type:=λ_ x=>x.typeIs
 there:=λ_ x=>⟨x.lt,x.lt⟩
 keep:=λ_ _ x k=>x.keep λo e=>k d (.inl rfl) o e
 notList:=by decide
 notTuple:=by decide
 hint:=λ_ _ _ _ x q=>kdl_hint_dict x.typeIs q
 iter:=λ_ _ hh x=>⟨_,_,(λ_ _ q=>ZT lo x q),QgW hh _ d (ba x.lt) es ep,⟨⟨_,ay _ rfl,rfl,rfl⟩,x.keep λo e=>aj _ e⟩⟩
end
end MM
namespace MM
open PySem
def qc:D->M D
 | .dic n=>bnd (getDc n) λp=>chk (p.1=true) (alloc (.lst (p.2.map (·.1))))|_=>bad
def mv(n:Nat)(k v:D):M D:=bnd (getDc n) λp=>chk (p.1=true/\oY true k=true/\p.2.length < eV) (match m_ p.2 k with
 |some d=>ret d
 |none=>bnd (tG n true (mK p.2 k v)) λ_=>ret v)
def pN(a b c:CE):CE:=λl=>bnd (a l) λx=>match x with| .dic n=>bnd (getDc n) λp=>chk (p.1=true) (bnd (b l) λy=>bnd (c l) λz=>mv n y z)|_=>bad
def hU(g:List D->M D)(a:CA)(d:D):CE:=λl=>bnd (a l) λds=>g (ds++[d])
open PySem.W PyProof.Rows L2
section
variable{X:Cx}
def NX.refs(r:NX es xs):L2.cq (es.map λp=>V.ref p.2.1) (xs.map λx=>bD x.2.1):=by
 induction r with|nil=>exact .nil|cons h t ih=>exact .cons (by dsimp only;rw[h.2.1];rfl) ih
def T2(hc:X.calm=true):CallR X (.type "list") (λO H Q=>∃a es ρ C,O=[.ref a]/\H a=some (kI a es)/\NR X.K ρ H es C/\∀l,H l=none->Q (.ref l) (fE H l (.lst (es.map λp=>V.ref p.2.1)))):=by
 intro U s σ H O us Q I r h;let⟨a,es,ρ,C,rfl,e,nr,q⟩:=h;let⟨u,rfl,G⟩:=w8 r;cases G;let⟨hz,hd,xs,G,dd,_⟩:=zB I e nr;let⟨o,L,ep,g,c,gd,Y,_⟩:=id dd;let hn:L.size=xs.length:=iA Y;let hl:es.length=xs.length:=cV G;refine kdl_call (Yb (ep:=ep) hd) (I.ok.hd hc) ⟨o,g,c,gd⟩ () λh' tk B c' kp hS v=>?_;let ea:B=(xs.map λx=>bD x.2.1).toArray:=by
  apply HC;apply eW;intro i;rw[fu,av];cases J:xs[i]? with
  |none=>
   have:=List.getElem?_eq_none_iff.mp J;rw[kA (by rw[v.1];ext)];rfl
  |some x=>
   let hi:=(ac.mp J).1;let E:i < B.size:=by rw[v.1];ext
   rw[mQ E];let⟨en,e1,e2⟩:=v.2 i B[i] (mQ E);rw[AT Y i,J]at e1;cases e1;rw[e2];rfl
 rw[ea]at hS;exact⟨.ref s.heap.objs.size,_,I.laid (t':=tk) kp (aw _) (show gp X.prog X.w _ h' _ (.lst (es.map λp=>V.ref p.2.1)) from ⟨by rw[af];exact hz,_,c',G.refs,hS⟩),rfl,q _ (I.hok.fresh (aw _))⟩
def NR.keys{K:ah}(r:NR K ρ H es c):bW K ρ H (es.map λp=>V.ref p.2.1) (c.map (·.1)):=by
 induction r with|nil=>exact .nil|cons h t ih=>exact .cons h.2.1 ih
def YJ(E:X.calm=true):CallR X (.type "list") (λxs H Q=>∃v,xs=[v]/\yG X.K qc v H Q):=(T2 E).of λxs H Q z=>by
 let⟨v,e,ρ,st,d,sr,q,p⟩:=z;cases d with
 |dic n=>
  let⟨a,rfl,_,h⟩:=q.inv;let⟨b,c,J,B⟩:=aT.getDc (aT.bnd p) sr;let⟨G,u⟩:=aT.chk B;cases (show b=true from G);let⟨es,I,r⟩:=sr.ob n a _ h J;refine⟨a,es,ρ,c,e,I,r,λl g=>?_⟩;let C:=sr.fresh g;let o:SR X.K (ρ++[l]) (fE H l (.lst (es.map λp=>V.ref p.2.1))) (st++[.lst (c.map (·.1))]):=(sr.new g).keep kL C ((NR.keys r).mono (Ex.new g));refine u _ _ (Ex.newL g) o _ (.ref ⟨_,kL,rfl⟩ ?_);rw[<- sr.len];simp
 |_=>exact p.elim
def Wx{B l:Pos}{id:String}(slot:Slot "dict" name id)(O:Dj (.builtin id)=pure (.type "method_descriptor"))(hm:Gr X id r)(ho:PE X o to)(ha:PA X (e::es) t)(E:dY o name X.env (eval o X.env)=eval o X.env)(J:((backTo l (starEach (e::es) X.env)).all (λx => !x.1)&&(qw l (l9 [] X.env)).all (λx=>x.1.isSome)&&decide ((e::es).length+([]:List i5).length+(if ([]:List i5).isEmpty then 0 else 1) < 30))=true)
  (C:(B.endLine == l.line)=true) (hs:starEach (e::es) X.env=(false,eval e X.env)::starEach es X.env) (u:(backTo l (starEach es X.env)).any (·.1)=false):
  PE X (.Call (.Attribute o name B) (e::es) [] l) (λσ H Q=>to σ H λx L=>(∃a es ρ G,x=.ref a/\L a=some (kI a es)/\NR X.K ρ L es G)/\t σ L λxs H2=>r x xs H2 Q):=by
 intro q s σ H Q I h;refine zl E J C rfl (fT (ho q s σ H _ I h) λv s1 z=>?_);let⟨x,L,I1,r1,⟨a,es',ρ,G,rfl,e1,nr⟩,q1⟩:=z;cases r1;let⟨_,_,_,_,dd,_⟩:=zB I1 e1 nr;let Y:=dd;let⟨ob,_,_,g,c,_⟩:=Y;refine⟨"dict",id,Bq,slot,O,dd.typeIs,λb U=>by injection U with U;subst U;exact⟨ob,g,c.2.1⟩,?_⟩;let hA:=ha l q s1 σ L _ I1 q1;rw[hs]at hA ⊢;refine kt (by show (false||(backTo l (starEach es X.env)).any (·.1))=false;rw[u]<;>rfl) (oP (fT hA λus s2 z=>?_));let⟨vs,H2,I2,r2,q2⟩:=z;exact hm q s2 σ H2 (.ref a) vs _ us Q I2 rfl r2 q2
def wl(X:Cx):V->List V->Hp->VK->Prop:=λx h H Q=>∃(a:ak)(ρ:List ak)(st:aZ)(n:Nat)(a6:List (D×D))(k d:D)(y v:V),x=.ref a/\h=[y,v]/\SR X.K ρ H st/\ρ[n]?=some a/\st[n]?=some (.dct true a6)/\dE X.K ρ H y k/\oY true k=true/\a6.length < sizeLine/\dE X.K ρ H v d /\
 (∀d',m_ a6 k=some d'->∀g,dE X.K ρ H g d'->Q g H)/\(m_ a6 k=none->∀c,SR X.K ρ c (st.set n (.dct true (mK a6 k d)))->Ex ρ H ρ c->Q v c)
def Xe(hu:X.A.units+60 < cS):Gr X "dict.setdefault" (wl X):=by intro q s σ H x vs u us Q I J L h;let⟨a,ρ,st,n,a6,k,d,y,v,rfl,rfl,sr,ha,hn,O,hk,hl,U,h1,h2⟩:=h;cases J;let⟨u1,u2,rfl,Y,o⟩:=L.two;exact S4 () I sr ha hn O hk hl U Y o (λd' e l w' G g r' c=>⟨l,H,g,c,h1 d' e l r'⟩) λe B G g E C=>⟨v,B,g,o,h2 e B E C⟩
def Qg2{u c : Pos}(hu : X.A.units+60 < cS)(ho : SE X o fa)(ha : SE X G fb)(hb : SE X q fc)(C : dY o "setdefault" X.env (eval o X.env) = eval o X.env := by rfl)
  (J:((backTo c (starEach [G,q] X.env)).all (λx => !x.1)&&(qw c (l9 [] X.env)).all (λx=>x.1.isSome)&&decide ([G,q].length+([]:List i5).length+(if ([]:List i5).isEmpty then 0 else 1) < 30))=true:=by rfl)
  (B:(u.endLine == c.line)=true:=by rfl) (hs:starEach [G,q] X.env=(false,eval G X.env)::starEach [q] X.env:=by rfl) (hs2:starEach [q] X.env=(false,eval q X.env)::starEach [] X.env:=by rfl) (g:(backTo c (starEach [q] X.env)).any (·.1)=false:=by rfl):
  SE X (.Call (.Attribute o "setdefault" u) [G,q] [] c) (pN fa fb fc):=
 (Wx xw F.type_dict_setdefault (Xe hu) ho (sB ha (sB hb vg hs2) hs) C J B hs g).of λσ H Q h_=>h_.el λρ l st lr sr p=>⟨ρ,l,st,lr,sr,p.bnd.imp λd U ρ1 H1 x1 s1 p1 v rv=>by
  cases d with
  |dic n=>
   let⟨a,rfl,kk,h⟩:=rv.inv;let⟨b,I,e0,p2⟩:=aT.getDc (aT.bnd p1) s1;let⟨hb0,p3⟩:=aT.chk p2;cases (show b=true from hb0);let⟨es0,e3,r0⟩:=s1.ob n a _ h e0;refine⟨⟨a,es0,ρ1,I,rfl,e3,r0⟩,?_⟩;refine⟨ρ1,l,U,lr.mono x1,s1,(aT.bnd p3).imp λdy O ρ2 H2 x2 s2 p4 y ry=>⟨ρ2,l,O,(lr.mono x1).mono x2,s2,(aT.bnd p4).imp λdz L ρ3 H3 x3 Y p5 z rz=>?_⟩⟩
   show wl X (.ref a) [y,z] H3 Q;let⟨b,a6,e5,p6⟩:=aT.getDc (aT.bnd p5) Y;let⟨⟨hb5,hk,hl⟩,E⟩:=aT.chk p6;cases (show b=true from hb5);let h3:ρ3[n]?=some a:=by let⟨τ,e,_⟩:=(x2.trans x3).pre;rw[e];exact xE h
   refine⟨a,ρ3,L,n,a6,dy,dz,y,z,rfl,rfl,Y,h3,e5,ry.mono x3,hk,hl,rz,λd' e v' rv'=>?_,λe H' s4 x4=>?_⟩
   ·dsimp only at E;rw[e]at E;exact E.ret Y v' rv'
   ·dsimp only at E;rw[e]at E;let c:=aT.bnd E;unfold tG at c;rw[e5]at c;exact (c ρ3 _ x4 s4).ret s4 _ (rz.mono x4)
  |_=>exact p1.elim⟩
end
theorem BW{α β:Type}{F:α->β->Prop}:∀{l₁:List α}{l₂:List β}{i:Nat}{x:α},eZ F l₁ l₂->l₁[i]?=some x->∃y,l₂[i]?=some y/\F x y
 |_,_,_,_,.nil,e=>by simp at e|_,_,0,_,.cons r _,e=>by simp at e;subst e;exact⟨_,rfl,r⟩|_,_,i+1,_,.cons _ t,e=>by let⟨v,g,c⟩:=BW (i:=i) t (by simpa using e);exact⟨v,by simpa using g,c⟩
end MM
namespace MM
open PySem PyProof.Rows L2
section
open PySem.Builtin.Str
variable{prog:Program}{w:bM}{A:bI}{E:ag->am->Prop}{s:am}
end
abbrev CF:=Str->Loc->M D
end MM
namespace MM
noncomputable def sv(m:Nat):List Nat:=(bT 4).filter λi=>m.testBit i
open PySem PySem.W PyProof.Rows L2
def tb(c:Bool)(m:Nat):SetTable:=⟨7,(sv m).toArray,#[],0,c,0,true⟩
def wq:∀c:Bool,∀m:Nat,m < 16->∀v:Nat,v < 4->m.testBit v=false->(tb c m).freeSlot (v:Int)=some (v,false):=by nofun
end MM
namespace MM
open PySem PySem.Spec PyProof.Rows L2
structure rW(x:Str):Prop where
 d:(x == ("__debug__":Str))=false
 c:(x == ("__classdict__":Str))=false
 n:x≠"__name__"
def UG(h:((x == ("__debug__":Str))||(x == ("__classdict__":Str))||decide (x=("__name__":Str)))=false):rW x:=by rw[wA,wA]at h;exact⟨h.1.1,h.1.2,of_decide_eq_false h.2⟩
structure Sc(X:Cx)(sc:du):Prop where
 vis:∀x k,sc.names.lookup x=some k->(k=.local\/k=.cell\/k=.free)->Fv X.env.scope x
 cel:∀x,(sc.names.lookup x=some .cell\/sc.names.lookup x=some .free)->(X.env.kindOf x=some .cell\/X.env.kindOf x=some .free)
 glo:∀x,sc.names.lookup x=some .globalImplicit->Gl X x
 loc:∀x k,sc.names.lookup x=some k->(k=.local\/k=.cell)->L2.Loc X.env.scope x/\(X.fn x=true\/X.env.scope.names.lookup x=some .local)
 calm:X.calm=true
def HK{K:ah}:Sc (rZ q_ P w K mg base N qual sc f g A outer s H E).nox sc where
 vis:=λx k h c=>by
  rcases c with z|z|z<;>subst z
  ·exact .inl h
  ·exact .inr (.inl h)
  ·exact .inr (.inr h)
 cel:=λx h=>h
 glo:=λx h=>h
 loc:=λx k h c=>⟨by rcases c with z|z<;>subst z;exact .inl h;exact .inr h,.inl rfl⟩
 calm:=rfl
def Sv{X:Cx}(l:X.calm=true):Sc (pq X N scope fp s H) scope where
 vis:=λx k h g=>by
  show (kE scope X.env).names.lookup x=_\/(kE scope X.env).names.lookup x=_\/(kE scope X.env).names.lookup x=_;rw[DC,h,dR];rcases g with z|z|z<;>subst z
  ·exact .inl rfl
  ·exact .inr (.inl rfl)
  ·by_cases c:(bG == bG&&X.env.scope.kind == .function&&X.env.kindOf x == some .cell)=true
   ·rw[aH c];exact .inr (.inl rfl)
   ·rw[aD c];exact .inr (.inr rfl)
 cel:=λx h=>by
  show (kE scope X.env).names.lookup x=_\/(kE scope X.env).names.lookup x=_;rcases h with h|h<;>rw[DC,h,dR]
  ·exact .inl rfl
  ·by_cases c:(bG == bG&&X.env.scope.kind == .function&&X.env.kindOf x == some .cell)=true
   ·rw[aH c];exact .inl rfl
   ·rw[aD c];exact .inr rfl
 glo:=λx h=>by show (kE scope X.env).names.lookup x=_;rw[DC,h,dR];rfl
 loc:=λx k h g=>by
  refine⟨?_,.inl ?_⟩
  ·show (kE scope X.env).names.lookup x=_\/(kE scope X.env).names.lookup x=_;rw[DC,h,dR];rcases g with z|z<;>subst z
   ·exact .inl rfl
   ·exact .inr rfl
  ·show decide (scope.names.lookup x=some .local\/scope.names.lookup x=some .cell)=true;rw[h];rcases g with z|z<;>subst z<;>decide
 calm:=l
noncomputable def ub(sc scope:du):Bool:=
 (scope.kind == .function)&&scope.names.all (λp=>p.2 != .local||scope.names.lookup p.1 == some .local) &&
 scope.names.all (λp=>p.2 != .free||((sc.names.lookup p.1 == some .cell||sc.names.lookup p.1 == some .free) && !scope.names.contains (p.1,.cell)&&scope.names.lookup p.1 != some .local))
def PU(S:Sc X sc)(h:ub sc scope=true):iy X scope:=by
 unfold ub at h;rw[bv,bv]at h;let⟨⟨E,o⟩,l⟩:=h;rw[dW]at o l;let fr:∀x,(x,bG)∈scope.names->(sc.names.lookup x=some .cell\/sc.names.lookup x=some .free)/\(x,fI)∉scope.names/\scope.names.lookup x≠some .local:=λx c=>by have q:=l _ c;simp only[bne_self_eq_false,Dk,bv,lI,beq_iff_eq,zt,bne_iff_ne,ne_eq]at q;let⟨⟨v,g⟩,u⟩:=q;refine⟨v,λz=>?_,u⟩;have:scope.names.contains (x,fI)=true:=List.contains_iff_mem.mpr z;rw[this]at g;cases g
 refine⟨by simpa using E,λp B C=>?_,λx c=>S.cel x (fr x c).1,λx c=>(fr x c).2.1,λx c=>(fr x c).2.2⟩;let q:=o p B;rw[C]at q;simpa using q
noncomputable def rT(c:List Str)(scope:du)(N:List Str)(n:Nat)(ix:List Nat):Bool:=
 N.length == n+ix.length&&(bT ix.length).all λj=>match ix[j]?,N[n+j]? with|some i,some x=>c[i]? == some x&&scope.names.lookup x == some .free|_,_=>false
def QW{X:Cx}{n:Nat}(o:X.N=g)(h:rT g scope N n ix=true):kG X scope N n ix:=by unfold rT at h;rw[bv,dW]at h;refine⟨by simpa using h.1,λj i x c l=>?_⟩;let q:=h.2 j (bY.mpr (ac.mp c).1);rw[c,l]at q;simp only[bv,beq_iff_eq]at q;rw[o];exact q
section
variable{pos p:Pos}{ca cb:CA}{T id:String}
def MT(S:Sc X sc)(i:Nat)(l:X.N[i]?=some x)(h:sc.names.lookup x=some k)(n:rW x)(g:k=.local\/k=.cell\/k=.free:=by decide):SE X (.Name x pos) (aq i):=SW i (OX l (S.vis x k h g) n.d n.c)
def Ta(S:Sc X sc)(i:Nat)(l:X.N.Nodup)(q:X.N[i]?=some x)(h:sc.names.lookup x=some k)(g:k=.local\/k=.cell:=by decide):SG X (.Name x pos) (aS i):=
 YD (SX l q (S.loc x k h g).1 (S.loc x k h g).2)
def ZP(S : Sc X sc)(i : Nat)(q : X.N.Nodup)(B : X.N[i]? = some x)(h : sc.names.lookup x = some k)(v : SE X e fa)(l : k = .local \/ k = .cell := by decide)(u : kM e (some (.Name x g)) pos.line X.env = pure false := by rfl):
  SS X (.Assign [.Name x g] e pos) (cn (aS i) fa):=WQ q B (S.loc x k h l).1 v u (S.loc x k h l).2
def Yj{n:Nat}(h:∀l st ds g,ca l st=.ok ds g->ds.length=n):∀l st ds g,au fa ca l st=.ok ds g->ds.length=n+1:=λl st ds g e=>by
 unfold au bnd at e;cases q:fa l st with
 |ok d s1=>
  rw[q]at e;dsimp only at e;cases u:ca l s1 with
  |ok es s2=>
   rw[u]at e;have:=h l s1 es s2 u;cases e;simp[this]
  |exc _ _=>rw[u]at e;cases e|bad=>rw[u]at e;cases e
 |exc _ _=>rw[q]at e;cases e|bad=>rw[q]at e;cases e
def Z4:∀l st ds g,aX l st=.ok ds g->ds.length=0:=λl st ds g e=>by cases e;rfl
noncomputable def z9(K:ah)(g:dm)(ps:List Str):Prop:=∀(s:am)(ws:List ag),ws.length=ps.length->sU s g ⟨[],ps.zip ws⟩ (ps.zip ws)
def TQ{k n:Nat}(S:Sc X sc)(h:sc.names.lookup x=some .globalImplicit)(F:mI X.prog X.w X.K X.mg X.base q_ k f v ps (mU X.K n g))(C:iw k X.A)(G:X.mg x=some (.ref f))(H:di X.K (.ref f)=true) (J:Binds X.K v ps []) (B:rW x) (L:SA X (e::es) ca) (E:∀l st ds q,ca l st=.ok ds q->ds.length=n)(I:starEach (e::es) X.env=(false,eval e X.env)::starEach es X.env:=by rfl) (u:(backTo pos (starEach es X.env)).any (·.1)=false:=by rfl):SE X (.Call (.Name x p) (e::es) [] pos) (bJ g ca):=
 VL F C (S.glo x h) G H J RX L E B.d I u
end
def Yd{k:Nat}{X:Cx}(h:iw k X.A):X.A.units+60 < cS:=by have:=h.units;ext
def QP{K:ah}{k n m:Nat}(F:yw K x qual l f o)(S:mh N ps (bj l))(q:ps.length=n)(u:N.length=m)(g:∀(h:ag)(A:bI)(outer:List Env)(s:am)(H:Hp)(E:XK),o.code=h->iw k (A.deeper (oh qual (bj l) s.heap.objs.size f h))->xj (rZ q_ P w K mg base N qual (bj l) f h A outer s H E).nox (cK l) c):mI P w K mg base q_ (k+1) f o ps (mU K n (bZ m c)):=by
 subst q u;exact Xt F S g
theorem O1{K:ah}:∀(c:List Int),bW K ρ H (c.map V.int) (c.map D.int)
 |[]=>.nil|n::c=>.cons (.int n) (O1 c)
@[elab_as_elim] def DA{A:Type}{P:List A->Prop}(h:∀a,P [a])(c:List A)(g:c.length=1):P c:=by
 cases c with
 |nil=>cases g
 |cons a t=>cases t with|nil=>exact h a|cons b u=>simp at g
@[elab_as_elim] def DW{A:Type}{P:List A->Prop}(h:∀a0 a1,P [a0,a1])(c:List A)(g:c.length=2):P c:=by
 cases c with|nil=>cases g|cons a t=>exact DA (P:=λt=>P (a::t)) (h a) t (lC g)
@[elab_as_elim] def HJ{A:Type}{P:List A->Prop}(h:∀a0 a1 l,P [a0,a1,l])(c:List A)(g:c.length=3):P c:=by
 cases c with|nil=>cases g|cons a t=>exact DW (P:=λt=>P (a::t)) (h a) t (lC g)
@[elab_as_elim] def Ag{A:Type}{P:List A->Prop}(h:∀a0 a1 o l,P [a0,a1,o,l])(c:List A)(g:c.length=4):P c:=by
 cases c with|nil=>cases g|cons a t=>exact HJ (P:=λt=>P (a::t)) (h a) t (lC g)
@[elab_as_elim] def N9{A:Type}{P:List A->Prop}(h:∀a0 a1 q o l,P [a0,a1,q,o,l])(c:List A)(g:c.length=5):P c:=by
 cases c with|nil=>cases g|cons a t=>exact Ag (P:=λt=>P (a::t)) (h a) t (lC g)
structure yQ(K:ah)(x qual:Str)(st:Stmt)(f:ak)(fd:dm)(u:ag):Prop where
 ex:∃(oc:ag)(od:Option ak)(kV doc pm:ag)(an:Option ak)(cdv ct:ag)(osl:Array (Option ag))(T:ak)(o:Obj)(n:Nat),
  fd=cC x qual (dO st) (cK st) (bj st) (.ref T) kV doc pm an cdv ct/\K.lookup f=some ⟨oc,od,.func fd,osl⟩/\gz K cdv qual=true/\K.lookup T=some o/\o.data=.seq #[u] n
 kp:di K (.ref f)=true
section
variable{K:ah}{st:Stmt}{ps:List Str}
def yQ.binds(F:yQ K x qual st f fd u)(h:∀(T:ak)(kV c q:ag)(v:Option ak)(g ct:ag)(l:List ag),(l++ds).length=ps.length->∃k:Option (Array ag)->Sem (List (Str×ag)),gE (cC x qual (dO st) (cK st) (bj st) (.ref T) kV c q v g ct) ⟨l,[]⟩=i9 (.ref T) >>= k/\k (some #[u])=pure (ps.zip (l++ds))):Binds K fd ps ds:=by
 let⟨O,L,kV,c,q,v,g,ct,B,T,o,n,rfl,Q,G,lt,C⟩:=F.ex;intro s l J E;let⟨k,I,H⟩:=h T kV c q v g ct l E;exact sU.of_defaults (T:=T) rfl (J T o lt) C I H
def Se{kV h v g ct:ag}{n:Nat}(l:K.lookup f=some ⟨E,C,.func (cC x qual (dO st) (cK st) (bj st) (.ref T) kV h v B g ct),q⟩)(c:gz K g qual=true) (k:di K (.ref f)=true) (lt:K.lookup T=some o) (G:o.data=.seq #[u] n):yQ K x qual st f (cC x qual (dO st) (cK st) (bj st) (.ref T) kV h v B g ct) u:=
 ⟨⟨E,C,kV,h,v,B,g,ct,q,T,o,n,rfl,l,c,lt,G⟩,k⟩
def V1{k n m:Nat}(F:yQ K x qual st f fd u)(S:mh N ps (bj st))(hn:ps.length=n)(hm:N.length=m)(q:∀(c:ag)(A:bI)(outer:List Env)(s:am)(H:Hp)(E:XK),iw k (A.deeper (oh qual (bj st) s.heap.objs.size f c))->xj (rZ q_ P w K mg base N qual (bj st) f c A outer s H E).nox (cK st) g):mI P w K mg base q_ (k+1) f fd ps (mU K n (bZ m g)):=by
 subst hn hm;let⟨oc,od,kV,doc,pm,an,c,ct,U,T,o,n,rfl,Y,G,lt,ht⟩:=F.ex;refine Qj Y G S (λJ H Q E h=>h.1) λA outer s H J Q E hr h=>⟨_,(q c A outer s H E hr).nox,?_⟩
 let⟨hl,ρ,st,ds,sr,C,p⟩:=h;refine⟨ρ,_,st,LR.start C,sr,?_⟩;unfold bZ at p;exact p.bnd.imp λf L ρ1 H1 x1 I B=>by
  cases f with|next l=>exact λσ' _=>B.ret I _ .non|ret d=>exact λv O=>B.ret I v O|brk l=>exact B.elim|cnt l=>exact B.elim
end
section
def Vf{k n:Nat}{i:Int}(S:Sc X sc)(h:sc.names.lookup x=some .globalImplicit)(F:mI X.prog X.w X.K X.mg X.base q_ k f B ps (mU X.K n g))(G:iw k X.A)(J:X.mg x=some (.ref f))(O:di X.K (.ref f)=true) (Y:Binds X.K B ps [u]) (hu:RelV (.int i) u) (C:rW x) (ha:SA X (e::es) ca) (I:∀l st ds o,ca l st=.ok ds o->ds.length+1=n)(U:starEach (e::es) X.env=(false,eval e X.env)::starEach es X.env:=by rfl) (v:(backTo pos (starEach es X.env)).any (·.1)=false:=by rfl):SE X (.Call (.Name x p) (e::es) [] pos) (hU g ca (.int i)):=
 (NB F G (S.glo x h) J O Y (.cons hu .nil) RX ha C.d U v).of λσ H Q h_=>h_.el λρ l st E sr p=>⟨ρ,l,st,E,sr,by
  let q:=aT.bnd p;cases c:ca l st with|bad=>rw[c]at q;exact q|exc _ _=>rw[c]at q;exact q|ok ds cp=>
   rw[c]at q;intro ρ1 H1 x1 s1 vs rvs;let L:=I l st ds cp c;exact⟨by rw[aC,rvs.length];exact L,ρ1,cp,ds++[.int i],s1,bW.app rvs (.cons (.int i) .nil),q ρ1 H1 x1 s1⟩⟩
end
def Kt(h h':bK):Prop:=∀c o,h.get? c=some o->o.cls=.type "tuple"->h'.get? c=some o
structure Zn(prog:Program)(w:bM)(K:Type)[DecidableEq K] where
 is:bK->K->ak->Prop
 hash:K->Int
 draws:K->Nat
 keep:∀{h h':bK}{k:K}{b:ak},Kt h h'->is h k b->is h' k b
 hashes:∀{A:bI}{E:ag->am->Prop}{s:am}{k:K}{b:ak}{Q:Int->am->Prop},A.units+1 < cS->is s.heap k b->Q (hash k) { s with toks:=s.toks+draws k }->aG (aY prog w) A (pyHash (.ref b)) Q E s
 eqs:∀{A:bI}{E:ag->am->Prop}{s:am}{x y:K}{a b:ak}{Q:Bool->am->Prop},A.units+1 < cS->is s.heap x a->is s.heap y b->Q (decide (x=y)) s->aG (aY prog w) A (eqBool (.ref a) (.ref b)) Q E s
 quiet:∀{A:bI}{E:ag->am->Prop}{s:am}{k:K}{b:ak}{Q:Bool->am->Prop},is s.heap k b->Q true s->aG (aY prog w) A (qS 8 (.ref b)) Q E s
 cls:∀{A:bI}{E:ag->am->Prop}{s:am}{k:K}{b:ak}{Q:Bool->am->Prop},is s.heap k b->Q false s->aG (aY prog w) A (ofAClassStatement 8 (.ref b)) Q E s
 byv:∀{A:bI}{E:ag->am->Prop}{s:am}{k:K}{b:ak}{Q:Bool->am->Prop},is s.heap k b->Q true s->aG (aY prog w) A (hashByValue 8 (.ref b)) Q E s
section
variable{prog:Program}{w:bM}{K:Type}[DecidableEq K](T:Zn prog w K)
variable{T}
variable{A:bI}{E:ag->am->Prop}{s:am}{a:ak}{e7:Bool}{m:Nat}{key:Nat->K}{es:Array (Int×ag)}
end
section
def items_int(h:ItemsAre (qP prog w) k c):∀v∈c,∃i t,v=kS i t:=by
 induction h with|nil=>simp|cons h1 h2 ih=>
  intro v g;rcases aR.mp g with z|z
  ·subst z;cases v with|int i t=>exact⟨i,t,rfl⟩|_=>exact nomatch h1
  ·exact ih v z
end
end MM
namespace MM
def wL(g:List D->M D):D->M D
 | .ref n=>bnd (getL n) g|_=>bad
open PySem PySem.W PyProof.Rows L2
section
def Ny(h:CallR X b (BD X.K g)):CallR X b (λxs H Q=>∃v,xs=[v]/\yG X.K (wL g) v H Q):=h.of λxs H Q c=>by
 let⟨v,e,ρ,st,d,sr,q,p⟩:=c;cases q with
 |@ref a n _ h=>
  let⟨ds,C,u⟩:=aT.getL (aT.bnd p) sr;let⟨E,o,l,B,r⟩:=sr.seq C;rw[h]at l;cases l;exact⟨a,o,ρ,st,ds,e,gS.of B,sr,r,u⟩
 |_=>exact p.elim
end
end MM
namespace MM
def uX:D->D->M D:=ui λa b=>ret (.int (a+b))
def sq:D->M D
 | .ref n=>bnd (getL n) λds=>ret (.tup ds.reverse)|_=>bad
def rQ(a b:CE):CE:=λl=>bnd (a l) λk=>bnd (b l) λv=>match k with| .int i=>t9 false (tJ [] [(.int i,v)])|_=>bad
open PySem
noncomputable def nF:MO->Bool
 | .clo _ _=>true|_=>false
def nZ(o:MO):MO:=if nF o=true then .ded else o
def gq(n:Nat)(s:aZ):aZ:=s.take n++(s.drop n).map nZ
open Classical in
def callC(g:List D->M D)(c:kR)(h ds:List D):M D:=λs=>match g (ds++[.fn s.length]) (s++[.clo c h]) with| .ok r s2=>if s.length < s2.length/\∀m:Nat,m < s.length->s2[m]?=s[m]?\/∃o:MO,s2[m]?=some o/\nF o=false then .ok r (gq s.length s2) else .bad|_=>.bad
noncomputable def sk(s:aZ)(i:Nat)(o:MO):MO:=match s[i]? with|some (.clo c v)=>.clo c v|_=>o
open Classical in
def o9(g:List D->M D)(c ds:List D):M D:=λs=>match g (ds++c) (gq 0 s) with| .ok r s2=>if ∀(i:Nat)(o:MO),s[i]?=some o->nF o=true->s2[i]?=some MO.ded then .ok r (s2.mapIdx (sk s)) else .bad|_=>.bad
structure RK where
 n:Nat
 k:Nat
 g:List D->M D
open Classical in
def qO:List (kR×RK)->kR->List D->List D->M D
 |[],_,_=>λ_=>bad| (e,r)::l,x,vs=>if x=e then λds=>chk (ds.length=r.n) (o9 r.g vs ds) else qO l x vs
def uh(l:Loc):List Nat->Option (List D)
 |[]=>some []
 |i::r=>match l[i]? with|some (some d)=>(uh l r).map (d::·)|_=>none
def o6(j:Nat)(x w:Str)(g:List D->M D)(c:kR)(is:List Nat)(i:Nat)(a:CA):CE:=λl s=>match s[j]?,uh (l.set i none) is with|some (.tbl y u),some vs=>if y=x/\u=w then bnd (a (l.set i none)) (λds=>callC g c vs ds) s else .bad|_,_=>.bad
def vx(j:Nat)(x:Str)(e:Expr):CE:=λ_ s=>match s[j]? with|some (.tbl y w)=>if y=x/\w="<lambda>" then .ok (.fn s.length) (s++[.lam e]) else .bad|_=>.bad
structure RL where
 n:Nat
 k:Nat
 g:List D->M D
open Classical in
def qJ:List (Expr×RL)->Expr->List D->M D
 |[],_=>λ_=>bad| (e,r)::l,x=>if x=e then λds=>chk (ds.length=r.n) (r.g ds) else qJ l x
noncomputable abbrev WT:=List (Expr×RL)×List (kR×RK)
def pH(W:WT)(d:D)(ds:List D):M D:=λs=>match d with
 | .fn n=>match s[n]? with|some (.lam e)=>qJ W.1 e ds s|some (.clo c vs)=>qO W.2 c vs ds s|_=>.bad
 |_=>.bad
def qj(W:WT)(a:CE)(r:CA):CE:=λl=>bnd (a l) λd=>bnd (r l) λds=>pH W d ds
noncomputable def vK(m:Nat)(f:CE)(ds:List D):M D:=f (ds.map some++bQ (m-ds.length) none)
open PySem.Spec PyProof.Rows L2
def yP(H:Hp)(P:ak)(q:Str):Prop:=∃tb,H P=some (.tbl tb)/\oQ tb.toList/\∀p v,lQ p tb.toList=some v->∃c,v=.ref c/\pE H c q
structure Ef(H H':Hp)(P:ak)(q:Str)(a:ak)(e:Expr):Prop where
 fresh:H a=none
 lam:FL H' a e
 tab:yP H' P q
 keep:∀b o,b≠P->H b=some o->H' b=some o
def LN(P:ak)(q:Str)(e:Expr):TE:=λσ H Q=>yP H P q/\∀a c,Ef H c P q a e->Q (.ref a) c
def BMod(base:bK)(mg:Str->Option ag):Prop:=∃g c,mg "__builtins__"=some (.ref g)/\g≠nv/\base.get? g=some c/\c.cls=.type "module"/\c.dict=some nv/\c.data=.plain
def Qhl{l m:Nat}:∀(xs:List ag),oQ xs->oQ (xs++[dP l,dP m,c])/\∀p v,lQ p (xs++[dP l,dP m,c])=some v->lQ p xs=some v\/v=c:=by
 intro xs h
 fun_induction oQ xs with
 |case1=>
  refine⟨trivial,λp v z=>?_⟩;let g:(if ((l:Int) == p.line&&(m:Int) == p.col)=true then some c else none)=some v:=z;split at g
  ·exact .inr (aM g).symm
  ·cases g
 |case2 a t b u x rest ih=>
  let⟨q,o⟩:=ih h;refine⟨q,λp v z=>?_⟩;let g:(if (a == p.line&&b == p.col)=true then some x else lQ p (rest++[dP l,dP m,c]))=some v:=z
  show (if (a == p.line&&b == p.col)=true then some x else lQ p rest)=some v\/v=c;split at g
  ·rename_i w;rw[aH w];exact .inl g
  ·rename_i w;rw[aD w];exact o p v g
 |case3=>exact h.elim
section
variable{X:Cx}
structure BM(H H':Hp)(P:ak)(q:Str)(a c:ak)(ob:Obj):Prop where
 fresh:H a=none
 fn:H' a=some (.frz ob (.own a))
 cod:pE H' c q
 tab:yP H' P q
 keep:∀b o,b≠P->H b=some o->H' b=some o
def Nq{fobj:ag->ag->ag->Obj}{Wp:(ag->am->Prop)->Prop}(I:Inv X ar σ H s)(hT:yP H P q)(G:∀a b c,(fobj a b c).isFreed=false)(hit:∀tb cv Q,s.heap.get? P=some (eS tb)->oQ tb.toList->lQ pos tb.toList=some cv->(∀(C B:ag)(h':bK)tk,(∀b o,s.heap.get? b=some o->h'.get? b=some o)->s.heap.objs.size<=h'.objs.size->Q (.ref h'.objs.size) { s with heap:=h'.push (fobj cv C B),toks:=tk })->Wp Q)(new:∀tb Q,s.heap.get? P=some (eS tb)->oQ tb.toList->lQ pos tb.toList=none->(∀(h:ak)(C B:ag)(h':bK)tk,mZ P s.heap h'->s.heap.objs.size<=h->h < h'.objs.size->h'.CodeRec (.ref h) q->h'.get? P=some (eS (tb++#[dP pos.line,dP pos.col,.ref h]))->Q (.ref h'.objs.size) { s with heap:=h'.push (fobj (.ref h) C B),toks:=tk })->Wp Q)(hQ:∀(a c:ak)(C B:ag)L s',BM H L P q a c (fobj (.ref c) C B)->Inv X ar σ L s'->Q (.ref a) s'):Wp Q:=by
 let⟨tb,hP,ht,hco⟩:=hT;let hPo:s.heap.get? P=some (eS tb):=I.hok P _ hP;cases hf:lQ pos tb.toList with
 |some cv=>
  let⟨h,rfl,hcr⟩:=hco _ _ hf;refine hit tb _ Q hPo ht hf λC B h' tk hk hsz=>?_;let E:H h'.objs.size=none:=I.hok.fresh hsz;refine hQ _ h C B (fE H h'.objs.size (.frz _ (.own h'.objs.size))) _ ⟨E,kL,?_,?_,λb o _ e=>?_⟩ (I.laid (t':=tk) (λb u e=>aj _ (hk b u e)) hsz ⟨ay _ (G _ _ _),_,ay _ (G _ _ _)⟩)
  ·let⟨O,vs,t,e,r⟩:=hcr;exact⟨O,vs,t,by rw[fS (oJ e E)];exact e,r⟩
  ·refine⟨tb,by rw[fS (oJ hP E)];exact hP,ht,λp v z=>?_⟩;let⟨c2,e2,O,vs,t,e,r⟩:=hco p v z;exact⟨c2,e2,O,vs,t,by rw[fS (oJ e E)];exact e,r⟩
  ·rw[fS (oJ e E)];exact e
 |none=>
  refine new tb Q hPo ht hf λh C B h' tk hx hge hlt hrec htb=>?_;let⟨c2,O,vs,t,e2,hoc,hdc,hv⟩:=hrec;cases e2;let hsz:s.heap.objs.size<=h'.objs.size:=f_ (zu hge hlt);let E:H h'.objs.size=none:=I.hok.fresh hsz;let hfc:H h=none:=I.hok.fresh hge;let hcf:h≠h'.objs.size:=ba hlt;let G:=G (.ref h) C B;generalize hfo:fobj (.ref h) C B=fo at G;generalize htb':tb++#[dP pos.line,dP pos.col,.ref h]=U at htb;let ePc:P≠h:=oJ hP hfc;let ePa:P≠h'.objs.size:=oJ hP E;obtain⟨L,eH⟩:∃L,L=fE (fE (fE H P (.tbl U)) h (.frz O (.frz O (.own h)))) h'.objs.size (.frz fo (.own h'.objs.size)):=⟨_,rfl⟩
  let eP:L P=some (.tbl U):=by rw[eH,fS ePa,fS ePc,kL]
  let eC:L h=some (.frz O (.frz O (.own h))):=by rw[eH,fS hcf,kL]
  let eA:L h'.objs.size=some (.frz fo (.own h'.objs.size)):=by rw[eH,kL]
  let eO:∀b,b≠P->b≠h->b≠h'.objs.size->L b=H b:=λb h1 h2 h3=>by rw[eH,fS h3,fS h2,fS h1]
  let old:∀b o,b≠P->H b=some o->L b=some o:=λb o h1 e=>by rw[eO b h1 (oJ e hfc) (oJ e E)];exact e
  let kp:∀b o,b≠P->s.heap.get? b=some o->(h'.push fo).get? b=some o:=λb o h1 e=>aj _ (hx b o h1 e);let Y:∀{b:ak},H b=none->b≠P:=λn z=>by rw[z,hP]at n;cases n
  let J:∀{b:ak}{u:HO},H b=some u->(∀ps,u≠.tbl ps)->b≠P:=λe n z=>by rw[z,hP]at e;exact n _ (aM e).symm
  let lt:∀b o,s.heap.get? b=some o->b≠h/\b≠h'.objs.size:=λb o e=>⟨ba (bb (aL e) hge),ba (bb (aL e) hsz)⟩
  let hok:nN X.prog X.w L (h'.push fo):=λb u e=>by
   by_cases h1:b=P
   ·subst h1;rw[eP]at e;cases e;exact aj _ htb
   by_cases h2:b=h
   ·subst h2;rw[eC]at e;cases e;exact⟨aj _ hoc,aj _ hoc,_,aj _ hoc⟩
   by_cases h3:b=h'.objs.size
   ·subst h3;rw[eA]at e;cases e;exact⟨ay _ G,_,ay _ G⟩
   rw[eO b h1 h2 h3]at e;refine (I.hok b u e).stay (λb' v hb' g=>kp b' v ?_ g) (λb' g=>old _ _ (J g λ_ z=>nomatch z) g) λb' xs g=>old _ _ (J g λ_ z=>nomatch z) g;rcases hb' with z|z
   ·rw[z];exact h1
   ·exact J z λ_ w=>nomatch w
  refine hQ _ h C B L _ ⟨E,by rw[hfo];exact eA,⟨O,vs,t,eC,hdc,hv⟩,?_,old⟩ (I.step (g':=s.gens) (d':=s.drawn) (t':=tk) (h':=h'.push fo) (ch:=[]) (λ_ z=>nomatch z) (λb o _ _ _ e n=>kp b o (Y n) e) (λb o _ _ _ e n=>⟨o.slots,kp b o (Y n) e⟩)
   (λb o _ e n=>by rw[eO b (Y n) (lt b o e).1 (lt b o e).2];exact n) (λb o _ e=>?_) (λb xs e=>old _ _ (J e λ_ z=>nomatch z) e) (λb o u e=>old _ _ (J e λ_ z=>nomatch z) e) (λb ps' e=>?_) (λm hn=>?_) hok I.bare)
  ·let el:U.toList=tb.toList++[dP pos.line,dP pos.col,.ref h]:=by rw[<- htb',Array.toList_append]
   let⟨B,u⟩:=Qhl tb.toList ht (l:=pos.line) (m:=pos.col) (c:=.ref h);refine⟨U,eP,el ▸ B,λp v z=>?_⟩;rcases u p v (el ▸ z) with z|z
   ·let⟨c2,e2,o,g,q,e,r⟩:=hco p v z;exact⟨c2,e2,o,g,q,old _ _ (J e λ_ w=>nomatch w) e,r⟩
   ·exact⟨h,z,O,vs,t,eC,hdc,hv⟩
  ·by_cases z:b=P
   ·subst z;exact⟨_,aj _ htb⟩
   ·exact⟨o,kp b o z e⟩
  ·by_cases z:b=P
   ·subst z;rw[hP]at e;cases e;exact⟨_,by rw[eP,<- htb']⟩
   ·exact⟨#[],by rw[old _ _ z e];simp⟩
  ·exact (hn.extBut hx (Y I.free)).push _
def Py{tb:Array ag}(v:BMod X.base X.mg)(I:Inv X c σ H s)(u:H P=some (.tbl tb)):s.heap.BuiltinsAt X.mg P/\cO≠P:=by
 let h:∀b o,X.base.get? b=some o->b≠P:=λb o e z=>by have:=(I.bs b o e).2;rw[z,u]at this;cases this
 refine⟨?_,?_⟩
 ·let⟨J,q,G,E,g,C,B,l⟩:=v;refine⟨J,q,G,E,λz=>?_,h _ _ g,I.bk _ _ g,C,B,l⟩;let⟨o,_,_,e,d,_⟩:=I.mod.glob;rw[<- z,g]at e;cases e;rw[l]at d;cases d
 ·let⟨o,_,_,e,_⟩:=I.mod.glob;exact h _ o e
def XT(g:X.env.code=.ref c)(hc:eB X.K c P=true)(hB:BMod X.base X.mg)(hq:X.env.qual++"<lambda>"=q)(hd:Dp ps X.env=([],[]))(v:ny sc X.env=pure []):PE X (.Lambda ps b sc pos) (LN P q (.Lambda ps b sc pos)):=by
 intro O s σ H Q I l;let⟨Y,hQ⟩:=l;refine PySem.W.kla_eval hd ?_;rw[hq];let u:=I.mod.glob.keeps I.bk;let⟨U,E⟩:=Py hB I Y.choose_spec.1;let hC:=oT I.kIn hc;refine Nq (Wp:=λQ=>aG (aY X.prog X.w) X.A _ Q X.xe s) (fobj:=λcd ct _=>{ cls:=.type "function",data:=.func (oo "<lambda>" q ps b sc [] ((X.mg "__name__").getD .none) cd ct) }) (pos:=pos) I Y (λ_ _ _=>rfl) (λtb cv Q o C G k=>?_) (λtb Q o C G k=>?_) λa L h doc H' s' T J=>?_
 ·exact PySem.W.kla_makeFunctionHit v I.ok.glob u g hC o C G U λh h' B c hsz=>k h .none h' B c hsz
 ·exact PySem.W.kla_makeFunction v I.ok.glob u g hC o C G E U λL h h' B a1 H q l c=>k L h .none h' B a1 H q l c
 ·exact⟨.ref a,H',J,rfl,hQ _ _ ⟨T.fresh,⟨ps,b,sc,pos,q,L,_,h,rfl,T.fn,T.cod⟩,T.tab,T.keep⟩⟩
def UW{K:ah}(h:eB K c a=true)(h':eB K c b=true):a=b:=by
 unfold eB at h h';split at h
 ·rename_i o _ l;rw[l]at h';simp only[bv]at h h';obtain⟨⟨⟨⟨⟨e,_⟩,_⟩,_⟩,_⟩,_⟩:=h;obtain⟨⟨⟨⟨⟨g,_⟩,_⟩,_⟩,_⟩,_⟩:=h';split at e
  ·rename_i u q;rw[q]at g;exact (beq_iff_eq.mp e).symm.trans (beq_iff_eq.mp g)
  ·cases e
 ·cases h
def TabOf.uniq{K:ah}(h:TabOf K x a)(h':TabOf K x b):a=b:=by let⟨f,o,J,c,H,G,E,C,B⟩:=h;let⟨L,o',v,O,u,q,l,g,I⟩:=h';rw[H]at u;cases u;rw[G]at q;cases q;rw[E]at l;cases l;rw[C]at g;cases g;exact UW B I
def Co(X:Cx)(x:Str):Prop:=∃f o g c P,fR X.K cO x=some (some (.ref f))/\X.K.lookup f=some o/\o.data=.func g/\g.code=.ref c/\eB X.K c P=true/\X.env.code=.ref c/\X.env.qual=x++".<locals>."/\BMod X.base X.mg
def Qc{K:ah}{st:aZ}{j:Nat}(sr:SR K ρ H st)(l:ρ[j]?=some P)(G:st[j]?=some (.tbl x w))(fr:H a=none)(h:yP c P (xh x w))(keep:∀b o,b≠P->H b=some o->c b=some o):a∉ρ/\Ex ρ H (ρ++[a]) c/\SR K ρ c st:=by
 let⟨Q,tb,E,Y,U⟩:=sr.ob j P _ l G;let⟨g,C,L,J⟩:=h;let up:Up ρ H ρ c:=⟨⟨[],by simp⟩,λb o k e=>keep b o (λz=>by rw[z,E]at e;cases e;cases k) e,λb o e=>by
  by_cases z:b=P
  ·subst z;rw[E]at e;cases e;exact⟨_,C,rfl⟩
  ·exact⟨o,keep b o z e,rfl⟩⟩
 refine⟨sr.fresh fr,⟨⟨[a],rfl,λb I=>by rw[aA]at I;rw[I];exact fr⟩,up.fix,λb o O e=>keep b o (λz=>O (z ▸ ax l)) e,up.knd⟩,⟨sr.len,sr.nd,λn b o B v=>?_⟩⟩;by_cases z:b=P
 ·subst z;have:n=j:=(eX (ac.mp B).1 sr.nd).mp (B.trans l.symm);subst this;rw[G]at v;cases v;exact⟨Q,g,C,L,J⟩
 ·exact n9.mono (o:=o) up (sr.ob n b o B v) λu q=>keep b u z q
def UE{j:Nat}(L:Co X x)(hd:Dp ps X.env=([],[]))(h:ny sc X.env=pure []):SE X (.Lambda ps b sc pos) (vx j x (.Lambda ps b sc pos)):=by
 let⟨f,o,fd,c,P,l1,l2,l3,l4,v,Y,U,O⟩:=L;refine (XT (q:=xh x "<lambda>") Y v O (by rw[U];rfl) hd h).of λσ H Q h_=>h_.el λρ l st lr sr p=>?_;unfold vx at p;cases e:st[j]? with|none=>rw[e]at p;exact p.elim|some ob=>
  rw[e]at p;cases ob with
  |tbl y w=>
   replace p:aT X.K ρ H (if y=x/\w="<lambda>" then Rs.ok (D.fn st.length) (st++[MO.lam (.Lambda ps b sc pos)]) else Rs.bad) _:=p
   by_cases g:y=x/\w="<lambda>"
   ·rw[aH g]at p;let⟨rfl,rfl⟩:=g;let⟨l,u,h,tb,G,E,C⟩:=sr.at e;obtain rfl:l=P:=h.uniq ⟨f,o,fd,c,l1,l2,l3,l4,v⟩;refine⟨⟨tb,G,E,C⟩,λa q T=>?_⟩;let⟨J,B,I⟩:=Qc sr u e T.fresh T.tab T.keep;refine p (ρ++[a]) q B (I.keepO J T.lam) _ (.fn ?_);rw[<- sr.len];simp
   ·rw[aD g]at p;exact p.elim
  |_=>exact p.elim
def tB(P:Program)(w:bM)(K:ah)(mg:Str->Option ag)(base:bK)(k n:Nat)(e:Expr)(g:List D->M D):Prop:=
 ∀(ps:iB)(b:Expr)(sc:du)(pos:Pos)(q:Str)(c:ak)(o ct:ag),e=.Lambda ps b sc pos->∀(A:bI)(outer:List Env)(s:am)(H:Hp)(a:ak)(l:List ag)(h:List V)(Q:VK),iw k A->r_ P w K mg base A outer s H ->
  H a=some (.frz (xS "<lambda>" q ps b sc [] o c ct) (.own a))->pE H c q->cq h l->mU K n g h H Q E0->iG (aY P w) A (.call (.ref a) ⟨l,[]⟩) (CR q_ outer P w H s Q E0) s
def Wh{K:ah}{k m:Nat}(S:mh N nm sc)(hm:N.length=m)(hb:∀(q:Str)(L g ct:ag)(C:List ag),C.length=nm.length->gE (oo "<lambda>" q ps b sc [] L g ct) ⟨C,[]⟩=pure (nm.zip C))(E:∀(q:Str)(a:ak)(g:ag)(A:bI)(outer:List Env)(s:am)(H:Hp),iw k (A.deeper (oh q sc s.heap.objs.size a g))->SE (rZ q_ P w K mg base N q sc a g A outer s H E0).nox b f):tB P w K mg base (k+1) nm.length (.Lambda ps b sc pos) (vK m f):=by
 subst hm;intro ps' b' sc' a9 q c L ct he A outer s H a C G Q Y B ha hc hv O;cases he;let⟨hl,ρ,st,ds,sr,rs,p⟩:=O;let KX:K.In s.heap:=B.mod.kin.keeps λb o e=>(B.bs b o e).1;let eV:s.heap.NoLimit:=B.mod.nolimit.keeps λb o e=>(B.bs b o e).1;let⟨oc,df,t,hc1,hc2,hc3⟩:=hc;let l:∀y∈nm.zip C,sc.names.lookup y.1=some .local\/(sc.names.lookup y.1=some .cell/\((bR (s.heap.objs.size+1) sc.names []).lookup y.1).isSome=true):=λh hy=>by
  let⟨n,v⟩:=h;rcases S.par n (lH hy).1 with q|q
  ·exact .inl q
  ·exact .inr ⟨q,gQ _ _ _ (.inl q)⟩
 refine PySem.W.kla_callFunE Y.depth (B.hok a _ ha).1 rfl S.co S.gen rfl ⟨c,oc,df,t,rfl,(B.hok c _ hc1).1,hc2,hc3⟩ ?_;rw[hb q L (.ref c) ct C (by rw[<- hv.length];exact hl)];refine ai (vS S.kind l λenv he s1 x=>?_);subst he;refine⟨eV.keeps x.toInCall.keep,PySem.W.kla_codeExpr ?_⟩;let I:Inv (rZ q_ P w K mg base N q sc a (.ref c) A outer s H E0) [] (start N G) H s1:=OD S Y.hd B hl hv x;let lr:LR K ρ H (start N G) (ds.map some++bQ (N.length-ds.length) none):=LR.start rs;refine fM ((E q a (.ref c) A outer s H (Y.deeper _)).nox [] s1 (start N G) H Q I ⟨ρ,_,st,lr,sr,p⟩) (λu s' U=>?_) λe s' U=>U;let⟨v,H',J,rv,qq⟩:=U;exact⟨v,H',J.os,J.bare,J.base,J.hok,rv,qq⟩
end
def zE(b:ak)(u:HO):Prop:=∃o v,u=.frz o (.frz o (.own b))/\o.data=.cell v
structure nS(cs:List ak)(H H':Hp):Prop where
 old:∀b,b∉cs->H' b=H b
 non:∀b∈cs,H b=none
 new:∀b∈cs,∃u,H' b=some u/\zE b u
section
variable{K:ah}{st:aZ}
def nS.le(F:nS cs H H'):∀b o,H b=some o->H' b=some o:=λb o e=>by rw[F.old b λz=>by rw[F.non b z]at e;cases e];exact e
def nS.not(F:nS cs H H')(e:H' b=some o)(n:¬ zE b o):H b=some o:=by rw[<- F.old b λz=>by let⟨u,c,h⟩:=F.new b z;rw[e]at c;cases c;exact n h];exact e
def ON:¬ zE b (.tup g):=λc=>by let⟨_,_,z,_⟩:=c;exact nomatch z
def YG:¬ zE b (.lst g):=λc=>by let⟨_,_,z,_⟩:=c;exact nomatch z
def Zl:¬ zE b (.frz o (.tup g)):=λc=>by let⟨_,_,z,_⟩:=c;injection z with _ z;cases z
def Qhw:¬ zE b (.frz o (.lst g)):=λc=>by let⟨_,_,z,_⟩:=c;injection z with _ z;cases z
def DN:¬ zE b (.frz o (.own c)):=λg=>by let⟨_,_,z,_⟩:=g;injection z with _ z;cases z
def Sn:¬ zE b (.xd fs):=λc=>by let⟨_,_,z,_⟩:=c;exact nomatch z
def DK(h:kO o≠3):¬ zE b o:=λc=>by let⟨_,_,z,_⟩:=c;exact h (by rw[z];rfl)
def Ws{o:Obj}(h:o.data=.fields g):¬ zE b (.frz o (.frz o (.own b))):=λc=>by let⟨_,_,z,d⟩:=c;injection z with z;subst z;rw[h]at d;cases d
mutual
theorem dE.letgo(F:nS cs H H'):∀{v:V}{d:D},dE K ρ H' v d->dE K ρ H v d
 |_,_,.non=>.non|_,_,.bl b=>.bl b|_,_,.int i=>.int i|_,_,.str y=>.str y
 |_, _, .tup h r => .tup (by
   rcases h with (h|⟨o,h⟩)|h
   ·exact .inl (.inl (F.not h ON))
   ·exact .inl (.inr ⟨o,F.not h Zl⟩)
   ·exact .inr h) (bW.letgo F r)
 |_, _, .lit h r => .lit (by
   rcases h with ⟨o,h⟩|h
   ·exact .inl ⟨o,F.not h Qhw⟩
   ·exact .inr h) (bW.letgo F r)
 |_,_,.ref ⟨o,ho,c⟩ h=>.ref ⟨o,F.not ho (DK (by rw[c];decide)),c⟩ h|_,_,.dic ⟨o,ho,c⟩ h=>.dic ⟨o,F.not ho (DK (by rcases c with c|c<;>rw[c]<;>decide)),c⟩ h|_,_,.exn0 g ⟨o,ho,hc⟩=>.exn0 g ⟨o,F.not ho DN,hc⟩|_,_,.exn g ⟨o,ho,hc⟩ h2 r=>.exn g ⟨o,F.not ho DN,hc⟩ (F.not h2 Sn) (dE.letgo F r)|_,_,.fn h=>.fn h
theorem bW.letgo(F:nS cs H H'):∀{c:List V}{ds:List D},bW K ρ H' c ds->bW K ρ H c ds
 |_,_,.nil=>.nil|_,_,.cons r t=>.cons (dE.letgo F r) (bW.letgo F t)
end
def pE.letgo(F:nS cs H H')(h:pE H' c q):pE H c q:=let ⟨oc,vs,t,e,d,r⟩:=h;⟨oc,vs,t,F.not e (Ws d),d,r⟩
theorem n9.letgo(F:nS cs H H')(n:nF o=false)(h:n9 K ρ H' a o):n9 K ρ H a o:=by
 cases o with
 |lam e=>
  let⟨ps,b,sc,p,q,c,E,ct,B,l,g⟩:=h;exact⟨ps,b,sc,p,q,c,E,ct,B,F.not l DN,g.letgo F⟩
 |tbl y w=>
  let⟨t,ps,B,l,g⟩:=h;exact⟨t,ps,F.not B (DK (by show (4:Nat)≠3;decide)),l,λp v z=>let ⟨c,a,b⟩:=g p v z;⟨c,a,b.letgo F⟩⟩
 |lst ds=>
  let⟨C,q,r⟩:=h;exact⟨C,F.not q YG,r.letgo F⟩
 |dct b a6=>
  cases b with
  |false=>
   let⟨es,q,r⟩:=h;exact⟨es,F.not q (DK (by show (1:Nat)≠3;decide)),eZ.mapS r λp q z=>⟨z.1,z.2.letgo F⟩⟩
  |true=>
   let⟨es,q,r⟩:=h;exact⟨es,F.not q (DK (by show (2:Nat)≠3;decide)),eZ.mapS r λp q z=>⟨z.1,z.2.1.letgo F,z.2.2.letgo F⟩⟩
 |dcf a6=>
  let⟨es,q,r⟩:=h;exact⟨es,F.not q (DK (by show (2:Nat)≠3;decide)),eZ.mapS r λp q z=>⟨z.1,z.2.1.letgo F,z.2.2.letgo F⟩⟩
 |clo c C=>cases n|ded=>let⟨u,e⟩:=h;exact⟨u,F.not e DN⟩
def nS.hok(F:nS cs H H')(x:nN P w H' h):nN P w H h:=λb o e=>by
 let l:b∉cs:=λz=>by rw[F.non b z]at e;cases e
 exact (x b o (F.le b o e)).stay (λ_ _ _ q=>q) (λc z=>F.not z (λg=>by let⟨_,_,z,_⟩:=g;exact nomatch z)) λc xs z=>F.not z ON
def nS.hok'(F:nS cs H H')(x:nN P w H h)(B:∀b∈cs,∀o u,H' b=some (.frz o u)->h.get? b=some o):nN P w H' h:=λb o e=>by
 by_cases g:b∈cs
 ·let⟨u,l,C,v,rfl,d⟩:=F.new b g;rw[e]at l;cases l;have:=B b g _ _ e;exact⟨this,this,_,this⟩
 ·rw[F.old b g]at e;exact (x b o e).stay (λ_ _ _ q=>q) (λc z=>F.le c _ z) λc xs z=>F.le c _ z
end
end MM
namespace MM
open PySem PySem.Spec PyProof.Rows L2
section
def U1(I:Inv X ar σ H s)(F:nS cs H H')(l:∀b∈cs,∀o u,H' b=some (.frz o u)->s.heap.get? b=some o)(c:∀b∈cs,X.s₀.heap.objs.size<=b/\b≠X.env.locals):r_ X.prog X.w X.K X.mg X.base X.A X.stack s H':=by
 let e:=I.env0;refine⟨e.frames,e.mod,λb o q=>⟨(e.bs b o q).1,?_⟩,e.bsz,e.funs,λb g=>?_,F.hok' I.hok l,e.bare⟩
 ·rw[F.old b λz=>?_]
  ·exact (e.bs b o q).2
  ·exact bh (bb (aL q) (cW I.ok.bsz (c b z).1)) (cM _)
 ·rw[F.old b λz=>?_]
  ·exact e.frf b g
  ·rcases aR.mp (I.stkSub b g) with y|y
   ·exact (c b z).2 y
   ·let⟨_,o,h,_⟩:=I.ok.funs.mem y;exact bh (bb (aL h) (c b z).1) (cM _)
def Ya(I:Inv X ar σ H s)(F:nS cs H H')(hc:∀b∈cs,∀o u,H' b=some (.frz o u)->s.heap.get? b=some o)(h:L2.CE X.stack X.prog X.w H' s Q u s'):∃v l,RelV v u/\Q v l/\(∀b∈cs,l b=H' b)/\∀E,nS cs E l->Inv X ar σ E s':=by
 let⟨v,l,os,C,un,hok,r,q⟩:=h;let U:∀b∈cs,l b=H' b:=λb c=>by let⟨w,e,o,x,rfl,d⟩:=F.new b c;rw[e,un.frzs b _ _ e]
 refine⟨v,l,r,q,U,λE G=>?_⟩;let at_:∀b o,b∈cs->s.heap.get? b=some o->s'.heap.get? b=some o:=λb o c e=>by let⟨w,Y,o',x,rfl,d⟩:=F.new b c;have O:=hc b c _ _ Y;rw[e]at O;cases O;exact (hok b _ ((U b c).trans Y)).1
 let L:∀b o,H b=some o->b∉cs:=λb o e z=>by rw[F.non b z]at e;cases e
 let up:∀b o,l b=some o->b∉cs->E b=some o:=λb o e z=>by rw[<- G.old b z];exact e
 let⟨hh,g,d,t,J⟩:=s';obtain rfl:J=s.os:=os;refine I.call (h':=hh) (g':=g) (d':=d) (t':=t) (ch:=[]) ⟨λb o e n c B=>?_,λb o e n c B=>?_,λb o e n B=>?_,un.there,λb xs e=>?_,λb o u e=>?_,λb ps e=>?_⟩ (G.hok hok) C (λb z=>bh z (by simp))
 ·by_cases z:b∈cs
  ·exact at_ b o z e
  ·exact un.keep b o e (by rw[F.old b z];exact n) c B
 ·by_cases z:b∈cs
  ·exact⟨o.slots,at_ b o z e⟩
  ·exact un.slot b o e (by rw[F.old b z];exact n) c B
 ·by_cases z:b∈cs
  ·exact G.non b z
  ·rw[<- G.old b z];exact un.free b o e (by rw[F.old b z];exact n) B
 ·exact up b _ (un.tups b xs (F.le b _ e)) (L b _ e)
 ·exact up b _ (un.frzs b o u (F.le b _ e)) (L b _ e)
 ·let⟨more,z⟩:=un.tbls b ps (F.le b _ e);exact⟨more,up b _ z (L b _ e)⟩
end
section
variable{K:ah}{st cp:aZ}
def nS.ex(F:nS cs H H')(G:nS cs H2 H1)(x:Ex ρ H' ρ1 H1):Ex ρ H ρ1 H2:=by
 let c:∀b o,H b=some o->b∉cs:=λb o e z=>by rw[F.non b z]at e;cases e
 let up:∀b o,H1 b=some o->b∉cs->H2 b=some o:=λb o e z=>by rw[<- G.old b z];exact e
 refine⟨?_,λb o k e=>up b o (x.fix b o k (F.le b o e)) (c b o e),λb o n e=>up b o (x.oth b o n (F.le b o e)) (c b o e),λb o e=>?_⟩
 ·let⟨τ,e,h⟩:=x.pre;refine⟨τ,e,λa g=>?_⟩;have:=h a g;cases q:H a with|none=>rfl|some o=>rw[F.le a o q]at this;cases this
 ·let⟨o',l,k⟩:=x.knd b o (F.le b o e);exact⟨o',up b o' l (c b o e),k⟩
def Op{n m:Nat}:(gq n st)[m]?=if m < n then st[m]? else (st[m]?).map nZ:=by
 unfold gq;by_cases h:m < n
 ·rw[aH h];by_cases c:m < (st.take n).length
  ·rw[ao c,cj h]
  ·rw[bB]at c;let g:st.length<=m:=by ext
   let l:st.length<=n:=by ext
   rw[bX (by rw[aC,af,bB,gK];ext),bX g]
 ·rw[aD h];by_cases c:n<=st.length
  ·rw[aE (by rw[bB];ext),bB,oB c,av,mD,show n+(m-n)=m by ext]
  ·rw[bX (by rw[aC,af,bB,gK];ext),bX ()];rfl
theorem SR.letgo{n:Nat}(F:nS cs H H')(G:nS cs H2 H1)(x:Ex ρ H' ρ1 H1)(sr:SR K ρ H st)(v:SR K ρ1 H1 cp)(Y:n<=st.length)(J:∀m,m < n->cp[m]?=st[m]?\/∃o,cp[m]?=some o/\nF o=false):SR K ρ1 H2 (gq n cp):=by
 let X:=F.ex G x;refine⟨?_,v.nd,λm b o C g=>?_⟩
 ·rw[v.len];unfold gq;rw[aC,af,bB,gK];ext
 ·rw[Op]at g;by_cases h:m < n
  ·rw[aH h]at g;let plain:nF o=false->n9 K ρ1 H2 b o:=λz=>n9.letgo G z (v.ob m b o C g);rcases J m h with z|⟨o',z,I⟩
   ·by_cases q:nF o=false
    ·exact plain q
    ·let E:m < ρ.length:=by rw[sr.len];ext
     let⟨τ,eτ,_⟩:=x.pre;let Q:ρ[m]?=some b:=by rw[eτ,ao E]at C;exact C
     let l:=sr.ob m b o Q (by rw[<- z];exact g);refine n9.mono (o:=o) X.up l λu hu=>?_;cases o with
     |clo c vs=>
      let⟨o,L,q,U,cl,B,O⟩:=l;rw[hu]at B;cases B;exact X.fix b _ rfl hu
     |_=>exact bh rfl q
   ·rw[g]at z;cases z;exact plain I
  ·rw[aD h]at g;cases e:cp[m]? with|none=>rw[e]at g;cases g|some o'=>
    rw[e]at g;let l:=v.ob m b o' C e;by_cases q:nF o'=true
    ·rw[dR,nZ,aH q]at g;cases g;cases o' with|clo c vs=>let⟨o,L,q,U,cl,B,O⟩:=l;exact⟨o,G.not B DN⟩|_=>cases q
    ·rw[dR,nZ,aD q]at g;cases g;exact n9.letgo G (zw.mpr q) l
end
theorem Fh:∀(names:List (Str×dG))(n:Nat)(acc:List (Str×ak)),bR n names acc=bR n names []++acc
 |[],_,_=>rfl
 | (x,k)::r,n,acc=>by
  unfold bR;split
  ·rw[Fh r (n+1) ((x,n)::acc),Fh r (n+1) [(x,n)],br];rfl
  ·exact Fh r n acc
theorem DO:∀(a b:List (Str×ak)),(a++b).lookup x=(a.lookup x).or (b.lookup x)
 |[],_=>rfl
 | (y,c)::a,b=>by
  rw[kY,kX,kX];cases x == y with|true=>rfl|false=>exact DO a b
section
variable{M:DZ}{s₀ s:am}{m cm:Str->Option ag}{env:Env}
def VJ{Q:Unit->am->Prop}(x:pi s₀ env.locals m own cm s)(C:env.scope.kind=.function)(B:env.kindOf n=some .local)(h:∀q,pi s₀ env.locals (λy=>if y=n then some v else m y) own cm q->Q Unit.unit q):aG M A (qQ env n v) Q E s:=by
 refine zG B x.toInCall.ns (λh' l g=>h _ ⟨⟨?_,l,λb o e=>?_,x.toInCall.fresh⟩,λk c u=>?_,x.apart,x.above⟩) (by rw[C];rfl)
 ·let⟨h₁,G,rfl⟩:=x.toInCall.same;exact⟨h',_,rfl⟩
 ·exact g.extBut b o (ba (bb (aL e) x.toInCall.fresh)) (x.toInCall.keep b o e)
 ·exact (x.cell k c u).sameBut g (dk (x.above k c (a_ u)))
def stC{Q:Unit->am->Prop}(L:env.cells=own++cl)(x:pi s₀ env.locals m own cm s)(J:env.scope.kind=.function)(I:env.kindOf n=some .cell)(u:own.lookup n=some c) (h:∀H,pi s₀ env.locals m own (λy=>if y=n then some v else cm y) H->Q Unit.unit H):aG M A (qQ env n v) Q E s:=by
 let B:=x.above n c (a_ u);let C:env.cells.lookup n=some c:=by rw[L,DO,u];rfl
 refine AI J I C (x.cell n c u) λh' G l=>h _ ⟨⟨?_,x.toInCall.ns.sameBut l (ba B),λb o e=>?_,x.toInCall.fresh⟩,λk O g=>?_,x.apart,x.above⟩
 ·let⟨h₁,U,rfl⟩:=x.toInCall.same;exact⟨h',_,rfl⟩
 ·exact l.extBut b o (ba (om (bb (aL e) x.toInCall.fresh) B)) (x.toInCall.keep b o e)
 ·by_cases q:k=n
  ·subst q;rw[u]at g;cases g;simpa using G
  ·rw[aD q];exact (x.cell k O g).sameBut l λe=>q (y_ x.apart (a_ g) (e ▸ a_ u))
theorem JM(f:Str×ag->PUnit->Sem (ForInStep PUnit))(H:∀n v u,f (n,v) u=(do qQ env n v; pure (.yield ⟨⟩)))(C:env.scope.kind=.function)(I:env.cells=own++cl):
  ∀(binds:List (Str×ag))(m cm:Str->Option ag)(s:am)(Q:PUnit->am->Prop),pi s₀ env.locals m own cm s ->
   (∀x∈binds,env.kindOf x.1=some .local\/(env.kindOf x.1=some .cell/\(own.lookup x.1).isSome=true)) ->
   (∀o,pi s₀ env.locals (qr env.kindOf binds m) own (qt env.kindOf binds cm) o->Q ⟨⟩ o)->aG M A (forIn binds ⟨⟩ f) Q E s
 |[],m,cm,s,Q,x,_,h=>by rw[mB];exact ai (h s x)
 | (n,v)::r,m,cm,s,Q,x,hkind,h=>by
  rw[i7,H];let L:∀y∈r,env.kindOf y.1=some .local\/(env.kindOf y.1=some .cell/\(own.lookup y.1).isSome=true):=λy O=>hkind y (bO _ O);rcases hkind (n,v) cP with q|⟨q,J⟩
  ·refine ab (ab (VJ x C q λo G=>ai (JM f H C I r _ _ o Q G L λl g=>h l ?_)));unfold qr qt;rw[aH q,aH q];exact g
  ·let⟨c,J⟩:=iP.mp J;let B:¬ env.kindOf n=some .local:=by rw[q];decide
   refine ab (ab (stC I x C q J λo G=>ai (JM f H C I r _ _ o Q G L λl g=>h l ?_)));unfold qr qt;rw[aD B,aD B];exact g
def Sq{scope:du}{binds:List (Str×ag)}{code:ag}{Q:Env->am->Prop}(u:scope.kind=.function)(g:∀x∈binds,scope.names.lookup x.1=some .local\/(scope.names.lookup x.1=some .cell/\((bR (s.heap.objs.size+1) scope.names []).lookup x.1).isSome=true))(B:∀env,env=newEnv scope s.heap.objs.size globals (bR (s.heap.objs.size+1) scope.names cl) qual func code none builtins ->∀h,pi s env.locals (qr env.kindOf binds λ_=>none) (bR (s.heap.objs.size+1) scope.names []) (qt env.kindOf binds λ_=>none) h->Q env h):aG M A (qy scope globals cl binds qual func code none builtins) Q E s:=by
 simp only[qy,gX,aK,if_false];refine ab (wpAny_alloc ?_);refine ab (wpAny_layCells _ (λname kind cells=>by cases q:kind == fI<;>simp[q]) _ _ _ _ ?_);let ok:=cellsFrom_ok scope.names (s.heap.push { cls:=.type "frame",data:=.dict #[] }) (s.heap.objs.size+1) [] ⟨λ_ _ l=>(nomatch l),tT⟩ (by rw[cA];exact aw _);rw[cA]at ok;rw[show ({ s with heap:=s.heap.push { cls:=.type "frame",data:=.dict #[] } }:am).heap.objs.size=s.heap.objs.size+1 from cA ..];refine ab (JM (s₀:=s) (env:=newEnv scope s.heap.objs.size globals (bR (s.heap.objs.size+1) scope.names cl) qual func code none builtins) (cl:=cl) (own:=bR (s.heap.objs.size+1) scope.names [])
  _ (λ_ _ _=>rfl) u (Fh _ _ _) binds (λ_=>none) (λ_=>none) _ _
  ⟨⟨⟨_,_,rfl⟩,(Bo s.heap (.type "frame")).keeps (mN _ _),λb o e=>mN _ _ b o (aj _ e),aw _⟩,
   λn c v=>(ok.empty n c (a_ v)).1,ok.apart,λn c l=>(ok.empty n c l).2⟩
  g λh x=>ai (B _ rfl h x))
end
structure r8(N ps fr:List Str)(sc:du):Prop where
 kind:sc.kind=.function
 co:sc.isCoroutine=false
 gen:sc.isGenerator=false
 nd:N.Nodup
 pre:N.take (ps++fr).length=ps++fr
 par:∀x∈ps,sc.names.lookup x=some .local\/sc.names.lookup x=some .cell
 fre:∀x∈fr,sc.names.lookup x=some .free
 onl:∀x,(x,bG)∈sc.names->x∈fr
 noc:∀x∈fr,(x,fI)∉sc.names
theorem qo:∀{names:List (Str×dG)}{n:Nat}{acc:List (Str×ak)},(x,c)∈bR n names acc->(x,fI)∈names\/(x,c)∈acc
 |[],_,_,h=>.inr h
 | (y,k)::r,n,acc,h=>by
  unfold bR at h;split at h
  ·rename_i g;let g:k=.cell:=by simpa using g
   subst g;rcases qo h with z|z
   ·exact .inl (.tail _ z)
   ·rcases aR.mp z with z|z
    ·cases z;exact .inl (.head _)
    ·exact .inr z
  ·rcases qo h with z|z
   ·exact .inl (.tail _ z)
   ·exact .inr z
theorem LH:∀{cl:List (Str×ak)}{j:Nat},(cl.map (·.1)).Nodup->cl[j]?=some p->cl.lookup p.1=some p.2
 |[],_,_,h=>by simp at h| (y,c)::cl,0,_,h=>by cases h;exact vY
 | (y,c)::cl,j+1,hn,h=>by
  rw[aV,lG]at hn;let h':cl[j]?=some p:=by simpa using h
  have:(p.1 == y)=false:=beq_eq_false_iff_ne.mpr λz=>hn.1 (by rw[<- z];exact iR (f:=(·.1)) (ax h'));rw[kX,this];exact LH hn.2 h'
noncomputable def rY(q:Str)(sc:du)(L a:ak)(c:ag)(cl:List (Str×ak)):Env:=newEnv sc L cO (bR (L+1) sc.names cl) (q++".<locals>.") (some a) c none nv
def DS(P:Program)(w:bM)(K:ah)(mg:Str->Option ag)(base:bK)(N:List Str)(q:Str)(sc:du)(f:ak)(c:ag)(cl:List (Str×ak))(A:bI)(outer:List Env)(s:am)(H:Hp):Cx where
 prog:=P
 w:=w
 K:=K
 mg:=mg
 base:=base
 A:=A.deeper (rY q sc s.heap.objs.size f c cl)
 N:=N
 s₀:=s
 H₀:=H
 env:=rY q sc s.heap.objs.size f c cl
 outer:=outer
 stack:=rY q sc s.heap.objs.size f c cl::outer
 ex:=[]
 calm:=true
 fn:=λx=>sc.names.lookup x == some .cell
 pn:=[]
 xe:=λ_ _=>False
section
variable{K:ah}{cl:List (Str×ak)}{A:bI}{vs df:List V}
def TV:Sc (DS P w K mg base N q sc f cd cl A outer s H) sc where
 vis:=λx k h c=>by
  rcases c with z|z|z<;>subst z
  ·exact .inl h
  ·exact .inr (.inl h)
  ·exact .inr (.inr h)
 cel:=λx h=>h
 glo:=λx h=>h
 loc:=λx k h c=>by
  rcases c with z|z<;>subst z
  ·exact⟨.inl h,.inr h⟩
  ·exact⟨.inr h,.inl (by show (sc.names.lookup x == some .cell)=true;rw[h];rfl)⟩
 calm:=rfl
def U2(S:r8 N ps fr sc)(hd:A.handled=none)(I:r_ P w K mg base A outer s H)(hl:vs.length=ps.length)(r:cq vs us)(E:cl.map (·.1)=fr)(hcl:df.length=fr.length)(rc:cq df eh)(hnd:(cl.map (·.2)).Nodup) (hc:∀(i:Nat)(p:Str×ak)(u:ag),cl[i]?=some p->eh[i]?=some u->s.heap.IsCell p.2 (some u)) (hn:∀p∈cl,H p.2=none)(x:pi s s.heap.objs.size (qr (rY q sc s.heap.objs.size f cd cl).kindOf (ps.zip us) λ_=>none) (bR (s.heap.objs.size+1) sc.names []) (qt (rY q sc s.heap.objs.size f cd cl).kindOf (ps.zip us) λ_=>none) s1):Inv (DS P w K mg base N q sc f cd cl A outer s H) [] (L2.start N (vs++df)) H s1:=by
 let hlen:(vs++df).length=(ps++fr).length:=by rw[aC,aC,hl,hcl]
 let hpl:(ps++fr).length<=N.length:=by have:=c_ d7 S.pre;rw[bB]at this;ext
 let⟨h1,tk,rfl,hk⟩:=x.done;let O:(ps++fr).Nodup:=by rw[<- S.pre];exact S.nd.sublist (zc _ _)
 let Q:ps.Nodup:=(c7.mp O).1;let L:∀b:ak,b∉(DS P w K mg base N q sc f cd cl A outer s H).ex:=λb z=>bh (show b∈([]:List ak) from z) (by simp);let ce:(rY q sc s.heap.objs.size f cd cl).cells=bR (s.heap.objs.size+1) sc.names []++cl:=Fh _ _ _;let B:∀y c,(rY q sc s.heap.objs.size f cd cl).cells.lookup y=some c->(bR (s.heap.objs.size+1) sc.names []).lookup y=some c\/((bR (s.heap.objs.size+1) sc.names []).lookup y=none/\cl.lookup y=some c):=λy c e=>by
  rw[ce,DO]at e;cases e2:(bR (s.heap.objs.size+1) sc.names []).lookup y with|some d=>rw[e2]at e;exact .inl e|none=>rw[e2]at e;exact .inr ⟨rfl,e⟩
 let clu:∀p∈cl,∃u,s.heap.IsCell p.2 (some u):=λp g=>by
  let⟨i,C⟩:=aQ.mp g;let hlt:i < eh.length:=by have h1:=(ac.mp C).1;have l:=c_ d7 E;have h3:=rc.length;rw[af]at l;ext
  exact⟨_,hc i p _ C (ae hlt)⟩
 let clt:∀y c,cl.lookup y=some c->c < s.heap.objs.size:=λy c e=>by let⟨u,o,U,_⟩:=clu (y,c) (a_ e);exact aL U
 refine⟨⟨I.mod,S.kind,rfl,rfl,aw _,λy z c h1 l=>?_,λy G=>?_,λy c Y h=>?_,λ_=>hd,vh I.frames,.inr ⟨rfl,rfl⟩,λb z=>bh z (L b),I.bs,I.bsz,λb _ _=>L b,λb z=>bh z (L b),I.funs,I.frf⟩,
  rfl,I.bare,Un.kept hk,⟨_,x.toInCall.ns,λi y v h1 l h3=>?_⟩,λy c h=>?_,I.hok.fresh (aw _),λy c h=>?_,λp g=>bh (show p∈([]:List (ak×Obj)) from g) (by simp),I.hok.kept hk,?_⟩
 ·rcases B y c h1 with a|⟨_,a⟩<;>rcases B z c l with b|⟨_,b⟩
  ·exact y_ x.apart (a_ a) (a_ b)
  ·exact bh (clt _ _ b) (Nat.not_lt.mpr (f_ (x.above y c (a_ a))))
  ·exact bh (clt _ _ a) (Nat.not_lt.mpr (f_ (x.above z c (a_ b))))
  ·let⟨i,C⟩:=aQ.mp (a_ a);let⟨j,J⟩:=aQ.mp (a_ b);have:i=j:=(eX (by rw[af];exact (ac.mp C).1) hnd).mp (by rw[av,av,C,J];rfl);subst this;rw[C]at J;cases J;rfl
 ·let G:sc.names.lookup y=some .cell\/sc.names.lookup y=some .free:=G
  show ∃c,(rY q sc s.heap.objs.size f cd cl).cells.lookup y=some c;rw[ce,DO];rcases G with G|G
  ·let⟨c,e⟩:=E8 (n:=s.heap.objs.size+1) G;exact⟨c,by rw[e];rfl⟩
  ·let h:=S.onl y (a_ G);rw[<- E]at h;let⟨p,g,rfl⟩:=bH.mp h;cases e2:(bR (s.heap.objs.size+1) sc.names []).lookup p.1 with|some d=>exact⟨d,rfl⟩|none=>
    let⟨j,J⟩:=aQ.mp g;exact⟨p.2,by rw[LH (by rw[E];exact (c7.mp O).2.1) J];rfl⟩
 ·let Y:(sc.names.lookup y == some .cell)=true:=Y;let Y:sc.names.lookup y=some .cell:=by simpa using Y
  rcases B y c h with a|⟨a,_⟩
  ·exact f_ (x.above y c (a_ a))
  ·let⟨d,e⟩:=E8 (n:=s.heap.objs.size+1) Y;rw[e]at a;cases a
 ·let C : i < (vs ++ df).length := by
    unfold L2.start at l;by_cases C:i < (vs++df).length
    ·exact C
    ·rw[aE (by simpa using C)]at l;rw[fD]at l;split at l<;>cases l
  let h:(vs++df)[i]?=some v:=by
   unfold L2.start at l;rw[ao (by simpa using C),av]at l;cases e:(vs++df)[i]? with|none=>rw[e]at l;cases l|some a=>rw[e]at l;cases l;rfl
  let g:(ps++fr)[i]?=some y:=by rw[<- S.pre,cj ()];exact h1
  by_cases H:i < vs.length
  ·rw[ao H]at h;rw[ao ()]at g;let⟨u,hu,B⟩:=r.get h;refine⟨u,B,?_⟩;rcases S.par y (ax g) with k|k
   ·exact .inl ⟨k,ME Q g hu k⟩
   ·let⟨c,e⟩:=E8 (n:=s.heap.objs.size+1) k;refine .inr ⟨.inl k,c,?_,?_⟩
    ·show (rY q sc s.heap.objs.size f cd cl).cells.lookup y=some c;rw[ce,DO,e];rfl
    ·let q:=x.cell y c e;rw[Ky Q g hu (by show sc.names.lookup y≠_;rw[k];decide)]at q;exact q
  ·rw[aE ()]at h g;rw[hl]at h;let⟨u,hu,B⟩:=rc.get h;let G:=ax g;obtain⟨c,J⟩:∃c,cl[i-ps.length]?=some (y,c):=by
    rw[<- E,av]at g;cases e:cl[i-ps.length]? with|none=>rw[e]at g;cases g|some p=>rw[e]at g;exact⟨p.2,by rw[<- aM g]⟩
   let⟨o,U,hd⟩:=hc _ _ u J hu;refine⟨u,B,.inr ⟨.inr (S.fre y G),c,?_,o,hk c o U,hd⟩⟩
   show (rY q sc s.heap.objs.size f cd cl).cells.lookup y=some c;rw[ce,DO];have:(bR (s.heap.objs.size+1) sc.names []).lookup y=none:=by
    cases e:(bR (s.heap.objs.size+1) sc.names []).lookup y with|none=>rfl|some d=>
     rcases qo (a_ e) with z|z
     ·exact bh z (S.noc y G)
     ·cases z
   rw[this,LH (by rw[E];exact (c7.mp O).2.1) J];rfl
 ·rcases B y c h with a|⟨_,a⟩
  ·exact⟨_,x.cell y c a⟩
  ·let⟨u,o,U,hd⟩:=clu (y,c) (a_ a);exact⟨some u,o,hk c o U,hd⟩
 ·rcases B y c h with a|⟨_,a⟩
  ·exact I.hok.fresh (f_ (x.above y c (a_ a)))
  ·exact hn (y,c) (a_ a)
 ·unfold L2.start
  show _=N.length;rw[aC,af,fw];ext
end
section
variable{K:ah}{st s2:aZ}
def SR.kill0(G:nS cs H0 H)(sr:SR K ρ H st):SR K ρ H0 (gq 0 st):=by
 refine⟨?_,sr.nd,λm b o u g=>?_⟩
 ·rw[sr.len];unfold gq;simp
 ·rw[Op,aD ()]at g;cases e:st[m]? with|none=>rw[e]at g;cases g|some o'=>
   rw[e]at g;let h:=sr.ob m b o' u e;by_cases q:nF o'=true
   ·rw[dR,nZ,aH q]at g;cases g;cases o' with|clo c vs=>let⟨o,v,q,C,cl,l,B⟩:=h;exact⟨o,G.not l DN⟩|_=>cases q
   ·rw[dR,nZ,aD q]at g;cases g;exact n9.letgo G (zw.mpr q) h
def nS.again(G:nS cs H0 H)(T:nS cs H2 H3)(c:∀b∈cs,H3 b=H b)(x:Ex ρ H0 ρ2 H2)(s:SR K ρ2 H2 s2):Ex ρ H ρ2 H3:=by
 let key:∀b o,H b=some o->(b∉cs->H0 b=some o):=λb o e n=>by rw[<- G.old b n];exact e
 refine⟨?_,λb o k e=>?_,λb o n e=>?_,λb o e=>?_⟩
 ·let⟨τ,e,h⟩:=x.pre;refine⟨τ,e,λa l=>?_⟩;let q:a∉cs:=λz=>by
   let B:=T.non a z;have:a∈ρ2:=by rw[e];exact bn _ l
   let⟨n,g⟩:=aQ.mp this;let v:n < s2.length:=by rw[<- s.len];exact (ac.mp g).1
   let⟨u,hu⟩:=n9.ex (s.ob n a _ g (ae v));rw[B]at hu;cases hu
  have:=h a l;rw[<- G.old a q]at this;exact this
 ·by_cases z:b∈cs
  ·rw[c b z];exact e
  ·rw[T.old b z];exact x.fix b o k (key b o e z)
 ·by_cases z:b∈cs
  ·rw[c b z];exact e
  ·rw[T.old b z];exact x.oth b o n (key b o e z)
 ·by_cases z:b∈cs
  ·exact⟨o,by rw[c b z];exact e,rfl⟩
  ·let⟨o',C,k⟩:=x.knd b o (key b o e z);exact⟨o',by rw[T.old b z];exact C,k⟩
theorem SR.again(G:nS cs H0 H)(T:nS cs H2 H3)(J:∀b∈cs,H3 b=H b)(x:Ex ρ H0 ρ2 H2)(sr:SR K ρ H st)(s:SR K ρ2 H2 s2)(hd:∀(i:Nat)(o:MO),st[i]?=some o->nF o=true->s2[i]?=some MO.ded):SR K ρ2 H3 (s2.mapIdx (sk st)):=by
 let X:=G.again T J x s;refine⟨by rw[List.length_mapIdx];exact s.len,s.nd,λi b o B h=>?_⟩;rw[wB]at h;cases es:s2[i]? with|none=>rw[es]at h;cases h|some o'=>
  rw[es]at h;let g:o=sk st i o':=(aM h).symm;let rest:n9 K ρ2 H3 b o':=n9.mono (o:=o') ⟨⟨[],by simp⟩,λb o _ e=>T.le b o e,λb o e=>⟨o,T.le b o e,rfl⟩⟩ (s.ob i b o' B es) λu q=>T.le b u q;unfold sk at g;cases l:st[i]? with|none=>rw[l]at g;rw[g];exact rest|some oi=>
   rw[l]at g;cases oi with
   |clo c v=>
    dsimp only at g;subst g;let I:i < ρ.length:=by rw[sr.len];exact (ac.mp l).1
    let⟨τ,eτ,_⟩:=x.pre;let L:ρ[i]?=some b:=by rw[eτ,ao I]at B;exact B
    let C:=sr.ob i b _ L l;refine n9.mono (o:=.clo c v) X.up C λu hu=>?_;let⟨o,O,q,U,cl,E,Q⟩:=C;rw[hu]at E;cases E;exact X.fix b _ rfl hu
   |_=>dsimp only at g;rw[g];exact rest
theorem O0(ok:nN P w H h):∀{cl:List (Str×ak)}{vd:List D},eZ (tE K ρ H) cl vd->∃g l,cq g l/\bW K ρ H g vd/\∀(i:Nat)(p:Str×ak)(u:ag),cl[i]?=some p->l[i]?=some u->h.IsCell p.2 (some u)
 |[],_,r=>by cases r;exact⟨[],[],.nil,.nil,λi p u h=>by simp at h⟩
 |p::cl,_,r=>by
  cases r with|cons c t=>
   let⟨o,u,v,O,L,J,I⟩:=c;let⟨g,l,G,E,C⟩:=O0 ok t;refine⟨v::g,u::l,.cons J G,.cons I E,λi q u' B hu=>?_⟩;cases i with|zero=>cases B;cases hu;exact⟨o,(ok _ _ O).1,L⟩|succ i=>exact C i q u' (by simpa using B) (by simpa using hu)
end
def tK(P:Program)(w:bM)(K:ah)(mg:Str->Option ag)(base:bK)(k n:Nat)(c:kR)(g:List D->M D):Prop:=
 ∀(A:bI)(outer:List Env)(s:am)(H:Hp)(ρ:List ak)(st:aZ)(m:Nat)(a:ak)(l ds:List D)(o:List ag)(h:List V)(Q:VK),iw k A->r_ P w K mg base A outer s H->SR K ρ H st->ρ[m]?=some a->st[m]?=some (.clo c l) ->
  bW K ρ H h ds->cq h o->ds.length=n->aT K ρ H (o9 g l ds st) (λr _ ρ' q=>∀v,dE K ρ' q v r->Q v q)->iG (aY P w) A (.call (.ref a) ⟨o,[]⟩) (CR q_ outer P w H s Q E0) s
theorem MD{α β:Type}{F:α->β->Prop}:∀{l₁:List α}{l₂:List β}{i:Nat}{x:α},eZ F l₁ l₂->l₁[i]?=some x->∃y,l₂[i]?=some y/\F x y
 |_,_,_,_,.nil,e=>by simp at e|_,_,0,_,.cons r _,e=>by simp at e;subst e;exact⟨_,rfl,r⟩|_,_,i+1,_,.cons _ t,e=>by let⟨v,g,c⟩:=MD (i:=i) t (by simpa using e);exact⟨v,by simpa using g,c⟩
section
variable{K:ah}
def R7{s J:am}{Q:VK}(e0:r_ P w K mg base A outer s H)(G:nS h H0 H)(un:Un (gB outer) [] H0 I s.heap J.heap)(hok:nN P w I J.heap)(os:J.os=s.os)(U:lT J.gens)(rv:RelV v u)(hq:∀C,nS h I C->(∀b∈h,C b=H b)->Q v C):L2.CE outer P w H s Q u J:=by
 classical
 obtain⟨C,e3⟩:∃C:Hp,C=λb=>if b∈h then H b else I b:=⟨_,rfl⟩
 let l:∀b∈h,C b=H b:=λb c=>by rw[e3];exact aH c
 let B:∀b,b∉h->C b=I b:=λb c=>by rw[e3];exact aD c
 let Y:∀b o,H b=some o->b∉h->H0 b=some o:=λb o e n=>by rw[<- G.old b n];exact e
 let O:∀b∈h,∃o u,H b=some (.frz o u)/\s.heap.get? b=some o:=λb c=>by let⟨w',e,o,x,rfl,d⟩:=G.new b c;exact⟨o,_,e,(e0.hok b _ e).1⟩
 let T:nS h I C:=⟨B,λb c=>by let⟨o,u,e,g⟩:=O b c;exact un.free b o g (G.non b c) (by simp),λb c=>by rw[l b c];exact G.new b c⟩
 let nf:∀b∈h,b∉gB outer:=λb c z=>by let⟨o,u,e,g⟩:=O b c;rw[e0.frf b z]at e;cases e
 refine⟨v,C,os,U,⟨λb o e n c L=>?_,λb o e n c L=>?_,λb o e n L=>?_,un.there,λb xs e=>?_,λb o u e=>?_,λb p e=>?_⟩,T.hok' hok λb c o u e=>?_,rv,hq C T l⟩
 ·let E:b∉h:=λz=>by let⟨o,u,e,g⟩:=O b z;rw[n]at e;cases e
  exact un.keep b o e (by rw[<- G.old b E];exact n) c L
 ·let E:b∉h:=λz=>by let⟨o,u,e,g⟩:=O b z;rw[n]at e;cases e
  exact un.slot b o e (by rw[<- G.old b E];exact n) c L
 ·let E:b∉h:=λz=>by let⟨o,u,e,g⟩:=O b z;rw[n]at e;cases e
  rw[B b E];exact un.free b o e (by rw[<- G.old b E];exact n) L
 ·by_cases z:b∈h
  ·rw[l b z];exact e
  ·rw[B b z];exact un.tups b xs (Y b _ e z)
 ·by_cases z:b∈h
  ·rw[l b z];exact e
  ·rw[B b z];exact un.frzs b o u (Y b _ e z)
 ·by_cases z:b∈h
  ·exact⟨#[],by rw[l b z,e];simp⟩
  ·let⟨more,q⟩:=un.tbls b p (Y b _ e z);exact⟨more,by rw[B b z];exact q⟩
 ·rw[l b c]at e;let g:=(e0.hok b _ e).1;exact un.keep b o g (G.non b c) (nf b c) (by simp)
open Classical in
def Uk{k:Nat}{m n:Nat}(S:r8 N ps fr sc)(hm:N.length=m)(hn:ps.length=n)(hfr:oG sc.names=fr)(hb:∀(q:Str)(cl:List (Str×ak))(dc pm O ct:ag)(us:List ag),us.length=ps.length->gE (qT x q pa C sc cl .none .none dc pm none O ct) ⟨us,[]⟩=pure (ps.zip us))(hbody:∀(q:Str)(a:ak)(O:ag)(cl:List (Str×ak))(A:bI)(outer:List Env)(s:am)(H:Hp),iw k (A.deeper (rY q sc s.heap.objs.size a O cl))->xj (DS P w K mg base N q sc a O cl A outer s H) C f):tK P w K mg base (k+1) n (.dfn (.FunctionDef x pa C dx rt tp sc ts bd pos)) (bZ m f):=by
 subst hm hn;intro A outer s H ρ st m a vd ds us vs Q hr c sr ha hst rs hv hl p;let⟨ob,fd,q,cd,cl,e1,e2,⟨nm,ps',body',ds',rt',tp',sc',ts',bd',p',dc,pm,ct,ee,ef⟩,e4,⟨e5,E⟩,e6⟩:=sr.ob m a _ ha hst;cases ee;subst ef;let E:cl.map (·.1)=fr:=E.trans hfr;let eV:s.heap.NoLimit:=c.mod.nolimit.keeps λb o e=>(c.bs b o e).1;let⟨oc,cvs',t,hc1,hc2,hc3⟩:=e4;let⟨L,eh,c1,c2,c3⟩:=O0 c.hok e6;obtain⟨h,h0⟩:∃h:Hp,h=λb=>if b∈cl.map (·.2) then none else H b:=⟨_,rfl⟩
 let G:nS (cl.map (·.2)) h H:=⟨λb hb=>by rw[h0];exact (aD hb).symm,λb hb=>by rw[h0];exact aH hb,λb hb=>by let⟨pr,hp,rfl⟩:=bH.mp hb;let⟨i,hi⟩:=aQ.mp hp;let⟨d,_,o,u,v,f1,f2,_⟩:=MD e6 hi;exact⟨_,f1,o,_,rfl,f2⟩⟩
 let e00:r_ P w K mg base A outer s h:=⟨c.frames,c.mod,λb o g=>⟨(c.bs b o g).1,by rw[h0];dsimp only;split;rfl;exact (c.bs b o g).2⟩,c.bsz,c.funs,λb hb'=>by rw[h0];dsimp only;split;rfl;exact c.frf b hb',G.hok c.hok,c.bare⟩
 let hvl:vs.length=ps.length:=by rw[rs.length];exact hl
 let hkind:∀y∈ps.zip us,sc.names.lookup y.1=some .local\/(sc.names.lookup y.1=some .cell/\((bR (s.heap.objs.size+1) sc.names []).lookup y.1).isSome=true):=λpq129 hy=>by
  let⟨n,v⟩:=pq129;rcases S.par n (lH hy).1 with q|q
  ·exact .inl q
  ·exact .inr ⟨q,gQ _ _ _ (.inl q)⟩
 refine zI hr.depth (c.hok a _ e1).1 e2 S.co S.gen rfl ⟨cd,oc,cvs',t,rfl,(c.hok cd _ hc1).1,hc2,hc3⟩ ?_;rw[hb q cl dc pm (.ref cd) ct us (by rw[<- hv.length];exact hvl)];refine ai (Sq S.kind hkind λenv he s1 x=>?_);subst he;refine⟨eV.keeps x.toInCall.keep,codeAny_func ?_⟩;let hcl:L.length=fr.length:=by have h1:=c_ d7 E;rw[af]at h1;rw[c2.length,<- cV e6];exact h1
 let I:Inv (DS P w K mg base N q sc a (.ref cd) cl A outer s h) [] (L2.start N (vs++L)) h s1:=U2 S hr.hd e00 hvl hv E hcl c1 e5 c3 (λp hp=>G.non _ (iR hp)) x;unfold o9 at p;cases eg:bZ N.length f (ds++vd) (gq 0 st) with|exc _ _=>rw[eg]at p;exact p.elim|bad=>rw[eg]at p;exact p.elim|ok r st2=>
  rw[eg]at p;dsimp only at p;by_cases hd:∀(i:Nat)(o:MO),st[i]?=some o->nF o=true->st2[i]?=some MO.ded
  ·rw[aH hd]at p;let rr:bW K ρ h (vs++L) (ds++vd):=bW.app (rs.letgo G) (c2.letgo G);let pb:aT K ρ h (bZ N.length f (ds++vd) (gq 0 st)) λr' st' ρ' B=>∀v,dE K ρ' B v r'->∃ρ2,dE K ρ2 B v r/\SR K ρ2 B st2/\Ex ρ h ρ2 B:=by rw[eg];exact λρ' B x' s' v U=>⟨ρ',U,s',x'⟩
   let fin:∀{σ':St}{E:Hp}{s2:am}{v:V}{u:ag},Inv (DS P w K mg base N q sc a (.ref cd) cl A outer s h) [] σ' E s2->RelV v u->(∃ρ2,dE K ρ2 E v r/\SR K ρ2 E st2/\Ex ρ h ρ2 E)->L2.CE outer P w H s Q u s2:=λ{σ' E s2 v u}J U Y=>
    by let⟨ρ2,r2,C,x2⟩:=Y;exact R7 c G J.base J.hok J.os J.bare U λH3 T he=>p ρ2 H3 (G.again T he x2 C) (SR.again G T he x2 sr C hd) v (r2.up ⟨⟨[],by simp⟩,λb o _ e=>T.le b o e,λb o e=>⟨o,T.le b o e,rfl⟩⟩)
   refine fM (hbody q a (.ref cd) cl A outer s h (hr.deeper _) [] s1 (L2.start N (vs++L)) h { nx:=λ_ B=>∃ρ2,dE K ρ2 B .non r/\SR K ρ2 B st2/\Ex ρ h ρ2 B,rt:=λv B=>∃ρ2,dE K ρ2 B v r/\SR K ρ2 B st2/\Ex ρ h ρ2 B } I ⟨ρ,_,_,LR.start rr,SR.kill0 G sr,?_⟩) (λfl s' g=>?_) λe s' g=>g.elim
   ·unfold bZ at pb;exact pb.bnd.imp λfl c ρ1 h g s1 O=>by
     cases fl with|next l=>exact λσ' _=>O.ret s1 _ .non|ret d=>exact λv U=>O.ret s1 v U|brk l=>exact O.elim|cnt l=>exact O.elim
   ·cases fl with
    |ret u=>
     let⟨v,σ',B,J,U,q⟩:=g;exact fin J U q
    |next=>
     let⟨σ',B,J,q⟩:=g;exact fin (v:=V.non) (u:=cB) J rfl q
    |brk=>exact (by let⟨_,_,_,q⟩:=g;exact q.elim)|cont=>exact (by let⟨_,_,_,q⟩:=g;exact q.elim)
  ·rw[aD hd]at p;exact p.elim
end
section
variable{X:Cx}
theorem Qs{K:ah}{st:aZ}:∀{W:List (Expr×RL)},aT K ρ H (qJ W e ds st) R->∃r,(e,r)∈W/\ds.length=r.n/\aT K ρ H (r.g ds st) R
 |[],h=>h.elim
 | (e',r)::W,h=>by
  unfold qJ at h;by_cases z:e=e'
  ·rw[aH z]at h;let⟨g,c⟩:=aT.chk h;exact⟨r,z ▸ .head _,g,c⟩
  ·rw[aD z]at h;let⟨r,a,b⟩:=Qs h;exact⟨r,.tail _ a,b⟩
theorem Ph{K:ah}{st:aZ}:∀{W:List (kR×RK)},aT K ρ H (qO W c g ds st) R->∃r,(c,r)∈W/\ds.length=r.n/\aT K ρ H (o9 r.g g ds st) R
 |[],h=>h.elim
 | (e',r)::W,h=>by
  unfold qO at h;by_cases z:c=e'
  ·rw[aH z]at h;let⟨o,l⟩:=aT.chk h;exact⟨r,z ▸ .head _,o,l⟩
  ·rw[aD z]at h;let⟨r,a,b⟩:=Ph h;exact⟨r,.tail _ a,b⟩
def QhR{W:WT}{e:Expr}(hW:∀e r,(e,r)∈W.1->tB X.prog X.w X.K X.mg X.base r.k r.n e r.g/\iw r.k X.A)(hV:∀c r,(c,r)∈W.2->tK X.prog X.w X.K X.mg X.base r.k r.n c r.g/\iw r.k X.A)(hx:SE X (.Name x p) fa)(ha:SA X (e::es) ca)(he:starEach (e::es) X.env=(false,eval e X.env)::starEach es X.env:=by rfl) (hpl:(backTo pos (starEach es X.env)).any (·.1)=false:=by rfl):SE X (.Call (.Name x p) (e::es) [] pos) (qj W fa ca):=by
 intro L s σ H Q I Y;let⟨ρ,l,st,lr,sr,p⟩:=Y;refine dJ (fT (hx L s σ H (λv H1=>∃ρ1 B d,LR X.K ρ1 H1 σ l/\SR X.K ρ1 H1 B/\dE X.K ρ1 H1 v d/\aT X.K ρ1 H1 (bnd (ca l) (λds=>pH W d ds) B) λd _ ρ' H'=>∀v,dE X.K ρ' H' v d->Q v H') I
  ⟨ρ,l,st,lr,sr,p.bnd.imp λd B ρ1 H1 x1 s1 p1 v rv=>⟨ρ1,B,d,lr.mono x1,s1,rv,p1⟩⟩) λu s1 ⟨v,H1,I1,r,ρ1,B,d,lr1,sr1,rv,p1⟩=>?_)
 let hA:=ha pos L s1 σ H1 (λvs O=>∃ρ2 g ds,SR X.K ρ2 O g/\dE X.K ρ2 O v d/\bW X.K ρ2 O vs ds/\aT X.K ρ2 O (pH W d ds g) λd _ ρ' H'=>∀v,dE X.K ρ' H' v d->Q v H') I1
  ⟨ρ1,l,B,lr1,sr1,p1.bnd.imp λds g ρ2 O x2 s2 G vs rvs=>⟨ρ2,g,ds,s2,rv.mono x2,rvs,G⟩⟩
 rw[he]at hA ⊢;refine PySem.W.callWith_of (P:=λh=>∃a o fd,u=.ref a/\h.get? a=some o/\o.data=.func fd) (by show ((false||(backTo pos (starEach es X.env)).any (·.1))||false)=false;rw[hpl];rfl)
  (λh ⟨a,o,fd,eu,e1,e2⟩=>?_) (oP (fT hA λus s2 ⟨vs,O,I2,rv2,ρ2,g,ds,J,rd,U,G⟩=>?_))
 ·subst eu;refine⟨.frame,.inl rfl,(PySem.W.Looks.ld (part:=none) e1).andThen ?_⟩;simp only[e2];exact .now
 ·unfold pH at G;cases d with
  |fn n=>
   let⟨a,rfl,H⟩:=rd.inv;cases l:g[n]? with|none=>simp only[l]at G;exact G.elim|some ob=>
    simp only[l]at G;cases ob with
    |lam e'=>
     let⟨r',I,L,v⟩:=Qs G;let⟨ok,B⟩:=hW _ _ I;let⟨a',E,ps,b,sc,h,q,c,pm,ct,e1,e2,Y⟩:=J.at l;rw[H]at E;cases E;cases (show u=bD a from r);refine⟨⟨a,_,_,rfl,(I2.hok a _ e2).1,rfl⟩,?_⟩;refine vQ (lc (ok ps b sc h q c pm ct e1 X.A X.stack s2 O a us vs Q B I2.env0 e2 Y rv2 ⟨by rw[U.length];exact L,ρ2,g,ds,J,U,v⟩) λr s' C=>?_);cases r with|error e=>exact C.elim|ok fl=>
      cases fl with|ret u=>exact I2.after C|next=>exact c9 C|brk=>exact c9 C|cont=>exact c9 C
    |clo c vd=>
     let⟨r',I,L,v⟩:=Ph G;let⟨ok,B⟩:=hV _ _ I;let⟨a',E,o,fd,q,cd,cl,e1,e2,Y⟩:=J.at l;rw[H]at E;cases E;cases (show u=bD a from r);refine⟨⟨a,_,_,rfl,(I2.hok a _ e1).1,e2⟩,?_⟩;refine vQ (lc (ok X.A X.stack s2 O ρ2 g n a vd ds us vs Q B I2.env0 J H l U rv2 L v) λr s' C=>?_);cases r with|error e=>exact C.elim|ok fl=>
      cases fl with|ret u=>exact I2.after C|next=>exact c9 C|brk=>exact c9 C|cont=>exact c9 C
    |_=>exact G.elim
  |_=>exact G.elim
end
theorem Pe{cells:List (Str×ak)}:∀(names:List (Str×dG))(acc:List (Str×ak)),(∀x,(x,bG)∈names->∃c,cells.lookup x=some c)->(iT names cells acc).map (·.1)=oG names++acc.map (·.1)
 |[],acc,_=>rfl
 | (n,k)::r,acc,h=>by
  unfold iT;rw[Pe r _ λx l=>h x (.tail _ l)];by_cases g:(k == bG)=true
  ·obtain rfl:k=.free:=by simpa using g
   let⟨c,o⟩:=h n (.head _);rw[aH g,o];simp[oG]
  ·rw[aD g];simp[oG,g]
theorem tP:∀(names:List (Str×dG))(acc:List (Str×ak)),p∈iT names cells acc->(cells.lookup p.1=some p.2/\(p.1,bG)∈names)\/p∈acc
 |[],acc,h=>.inr h
 | (n,k)::r,acc,h=>by
  unfold iT at h;rcases tP r _ h with q|q
  ·exact .inl ⟨q.1,.tail _ q.2⟩
  ·by_cases g:(k == bG)=true
   ·obtain rfl:k=.free:=by simpa using g
    rw[aH g]at q;cases e:cells.lookup n with|none=>rw[e]at q;exact .inr q|some c=>
     rw[e]at q;rcases aR.mp q with z|z
     ·subst z;exact .inl ⟨e,.head _⟩
     ·exact .inr z
   ·rw[aD g]at q;exact .inr q
def nS.up(F:nS g H c):Up ρ H ρ c:=⟨⟨[],by simp⟩,λb o _ e=>F.le b o e,λb o e=>⟨o,F.le b o e,rfl⟩⟩
def nS.sr{K:ah}{st:aZ}(F:nS l H c)(s:SR K ρ H st):SR K ρ c st:=⟨s.len,s.nd,λn b o h g=>n9.mono (o:=o) F.up (s.ob n b o h g) λu q=>F.le b u q⟩
section
variable{st:aZ}
theorem NN(I:Inv X ar σ H s)(E:LR X.K ρ H σ l): ∀{cl:List (Str×ak)}{is:List Nat}{vd:List D},uh l is=some vd->eZ (λ(p:Str×ak)i=>X.N[i]?=some p.1) cl is ->(∀p∈cl,X.env.cells.lookup p.1=some p.2/\(X.env.kindOf p.1=some .cell\/X.env.kindOf p.1=some .free))->eZ (λ(p:Str×ak)d=>∃o u v,s.heap.get? p.2=some o/\o.data=.cell (some u)/\RelV v u/\dE X.K ρ H v d) cl vd
 |_,_,vd,e,.nil,_=>by cases e;exact .nil
 |p::cl,i::is,vd,e,.cons r t,h=>by
  unfold uh at e;cases B:l[i]? with|none=>rw[B]at e;cases e|some od=>
   cases od with|none=>rw[B]at e;cases e|some d=>
    rw[B]at e;cases C:uh l is with|none=>rw[C]at e;cases e|some vr=>
     rw[C]at e;cases e;refine .cons ?_ (NN I E C t λq U=>h q (.tail _ U));let⟨h1,g⟩:=h p (.head _);let⟨v,ev,J⟩:=E.2 i d B;let⟨m,hn,hl⟩:=I.loc;let Q:Fv X.env.scope p.1:=.inr g;let⟨u,L,O⟩:=hl i p.1 v r ev Q;rcases O with ⟨z,_⟩|⟨_,c,G,o,Y,hd⟩
     ·rcases g with g|g<;>(rw[g]at z;cases z)
     ·rw[h1]at G;cases G;exact⟨o,u,v,Y,hd,L,J⟩
open Classical in
def UV{k n:Nat}{vd ds:List D}{Q:VK}(I:Inv X ar σ H s)(F:mI X.prog X.w X.K X.mg X.base q_ k f fdG ps (mU X.K n g)) (hr:iw k X.A) (B:Binds X.K fdG ps []) (x0:Ex ρ0 H0 (ρ++[a]) H) (sr:SR X.K ρ H st) (na:a∉ρ) (lr:LR X.K ρ H σ l) (ha:H a=some (.frz ob (.own a))) (hd:ob.data=.func fd) (hf:B4 c fd q cd cl) (hcd:pE H cd q)(hcl:cl.map (·.1)=oG fd.scope.names) (hnn:(cl.map (·.1)).Nodup) (L:∀p∈cl,X.env.cells.lookup p.1=some p.2/\(X.env.kindOf p.1=some .cell\/X.env.kindOf p.1=some .free)/\X.fn p.1=true) (hcap:eZ (λ(p:Str×ak)i=>X.N[i]?=some p.1) cl is) (hv:uh l is=some vd)(hn:ds.length+1=n) (rs:bW X.K ρ H Y ds) (rv:cq Y O) (p:aT X.K ρ0 H0 (callC g c vd ds st) λd _ ρ' E=>∀v,dE X.K ρ' E v d->Q v E):aG (aY X.prog X.w) X.A (call (.ref f) (O++[.ref a])) (EP X ar σ Q) X.xe s:=by
 let cells:=NN I lr hv hcap λp J=>⟨(L p J).1,(L p J).2.1⟩
 obtain⟨U,ecs⟩:∃U,U=cl.map (·.2):=⟨_,rfl⟩
 let C:∀b∈U,∃o u,s.heap.get? b=some o/\o.data=.cell (some u)/\H b=none/\X.s₀.heap.objs.size<=b/\b≠X.env.locals:=λb B=>by rw[ecs]at B;let⟨pr,J,rfl⟩:=bH.mp B;let⟨i,hi⟩:=aQ.mp J;let⟨d,_,o,u,v,f1,f2,_⟩:=MD cells hi;let⟨h1,h2,h3⟩:=L pr J;exact⟨o,u,f1,f2,I.freeC _ _ h1,I.ok.cab _ _ h3 h1,I.cne _ _ h1⟩
 obtain⟨E,eH⟩:∃E:Hp,E=λb=>if b∈U then (s.heap.get? b).map (λo=>HO.frz o (.frz o (.own b))) else H b:=⟨_,rfl⟩
 let eI:∀b o,b∈U->s.heap.get? b=some o->E b=some (.frz o (.frz o (.own b))):=λb o B e=>by rw[eH];dsimp only;rw[aH B,e];rfl
 let G:nS U H E:=⟨λb B=>by rw[eH];exact aD B,λb B=>let ⟨_,_,_,_,z,_⟩:=C b B;z,λb B=>by let⟨o,u,e,d,_⟩:=C b B;exact⟨_,eI b o B e,o,_,rfl,d⟩⟩
 let hc:∀b∈U,∀o u,E b=some (.frz o u)->s.heap.get? b=some o:=λb B o u e=>by let⟨o',u',e',_⟩:=C b B;rw[eI b o' B e']at e;cases e;exact e'
 let e0:=U1 I G hc λb B=>let ⟨_,_,_,_,_,z1,z2⟩:=C b B;⟨z1,z2⟩
 let nd:(cl.map (·.2)).Nodup:=by refine List.pairwise_iff_getElem.mpr λi j hi hj hij z=>?_;rw[kZ,kZ]at z;rw[af]at hi hj;let h1:=(L _ (bo hi)).1;let h2:=(L _ (bo hj)).1;rw[z]at h1;let h3:=I.ok.inj _ _ _ h1 h2;have:=(List.pairwise_iff_getElem.mp hnn) i j (by rw[af];exact hi) (by rw[af];exact hj) hij;rw[kZ,kZ]at this;exact this h3
 let sr':SR X.K (ρ++[a]) E (st++[.clo c vd]):=(G.sr sr).keepO na ⟨ob,fd,q,cd,cl,G.le _ _ ha,hd,hf,hcd.up (ρ:=ρ) (ρ1:=ρ) G.up,⟨nd,hcl⟩,by
  have:∀{cl:List (Str×ak)}{vd:List D},(∀p∈cl,p.2∈U)->eZ (λ(p:Str×ak)d=>∃o u v,s.heap.get? p.2=some o/\o.data=.cell (some u)/\RelV v u/\dE X.K ρ H v d) cl vd->eZ (tE X.K ρ E) cl vd:=by
   intro cl vd hm J
   induction J with|nil=>exact .nil|cons r t ih=>
    refine .cons ?_ (ih λp J=>hm p (.tail _ J));let⟨o,u,v,h1,h2,h3,h4⟩:=r;exact⟨o,u,v,eI _ _ (hm _ (.head _)) h1,h2,h3,h4.up G.up⟩
  exact this (λp J=>by rw[ecs];exact iR J) cells⟩
 let rs':bW X.K (ρ++[a]) E (Y++[.ref a]) (ds++[.fn st.length]):=bW.app ((rs.up G.up).up Up.grow) (.cons (.fn (by rw[<- sr.len];simp)) .nil);let rv':cq (Y++[.ref a]) (O++[.ref a]):=by
  have:∀{Y:List V}{O:List ag},cq Y O->cq (Y++[.ref a]) (O++[.ref a]):=by
   intro Y O h
   induction h with|nil=>exact .cons rfl .nil|cons r t ih=>exact .cons r ih
  exact this rv
 unfold callC at p;cases eg:g (ds++[.fn st.length]) (st++[.clo c vd]) with|exc _ _=>rw[eg]at p;exact p.elim|bad=>rw[eg]at p;exact p.elim|ok r st2=>
  rw[eg]at p;dsimp only at p;by_cases hm:st.length < st2.length/\∀m:Nat,m < st.length->st2[m]?=st[m]?\/∃o:MO,st2[m]?=some o/\nF o=false
  ·rw[aH hm]at p;let Q:mU X.K n g (Y++[V.ref a]) E (λv h=>∃ρ1,SR X.K ρ1 h st2/\Ex (ρ++[a]) E ρ1 h/\dE X.K ρ1 h v r) E0:=⟨by rw[rs'.length,aC];exact hn,ρ++[a],_,_,sr',rs',by rw[eg];exact λρ1 h H L v rv=>⟨ρ1,L,H,rv⟩⟩
   let hl:((O++[bD a])++[]).length=ps.length:=by rw[bu,<- rv'.length];exact F.len _ _ _ _ Q
   let q:=B s (O++[.ref a]) I.kIn hl;rw[bu]at q;refine vQ (lc (F.run X.A X.stack s E ⟨O++[.ref a],[]⟩ _ _ _ E0 hr e0 q rv' Q) λr' s' l=>?_);cases r' with|error e=>exact l.elim|ok fl=>
    cases fl with
    |ret u=>
     let⟨v,h,r1,⟨ρ1,L,H,rr⟩,fz,inv⟩:=Ya I G hc l;obtain⟨c,C⟩:∃c:Hp,c=λb=>if b∈U then none else h b:=⟨_,rfl⟩
     let J:nS U c h:=⟨λb B=>by rw[C];exact (aD B).symm,λb B=>by rw[C];exact aH B,λb B=>by rw[fz b B];exact G.new b B⟩
     let s2:SR X.K ρ1 c (gq st.length st2):=SR.letgo (st:=st++[.ded]) G J H (sr.keepO (o':=.ded) na ⟨_,ha⟩) L (by simp) λm o=>by rw[ao o];exact hm.2 m o
     exact⟨v,c,inv c J,r1,p ρ1 c (x0.trans (G.ex J H)) s2 v (rr.letgo J)⟩
    |next=>exact c9 l|brk=>exact c9 l|cont=>exact c9 l
  ·rw[aD hm]at p;exact p.elim
end
def DP(K:ah)(f:CA)(T:TE):TA:=λσ H Q=>∃ρ l st,LR K ρ H σ l/\SR K ρ H st/\aT K ρ H (f l st) λds _ ρ' h=>∀g,bW K ρ' h g ds->T σ h λv c=>Q (g++[v]) c
theorem PH:∀{g:List V}{h:List ag},cq (g++[v]) h->∃c u,h=c++[u]/\cq g c/\RelV v u
 |[],_,.cons r .nil=>⟨[],_,rfl,.nil,r⟩|_::g,_,.cons r t=>by let⟨c,u,e,o,l⟩:=PH t;exact⟨_::c,u,by rw[e];rfl,.cons r o,l⟩
def Ex.made(c:Ex ρ v (ρ++[a]) q)(g:Ex ρ q ρ1 E)(G:a∉ρ)(B:q a=some o):Ex ρ v (ρ1++[a]) E/\a∉ρ1:=by
 let⟨τ,rfl,C⟩:=g.pre;refine⟨⟨⟨τ++[a],by rw[br],λb J=>?_⟩,λb u k e=>g.fix b u k (c.fix b u k e),λb u n e=>g.oth b u n (c.oth b u n e),λb u e=>?_⟩,λz=>?_⟩
 ·rcases aP.mp J with z|z
  ·cases e:v b with|none=>rfl|some u=>
    let⟨u',h,_⟩:=c.knd b u e;rw[C b z]at h;cases h
  ·let⟨τ',h,L⟩:=c.pre;obtain rfl:=List.append_cancel_left h;exact L b z
 ·let⟨u',Q,I⟩:=c.knd b u e;let⟨l,O,H⟩:=g.knd b u' Q;exact⟨l,O,H.trans I⟩
 ·rcases aP.mp z with z|z
  ·exact G z
  ·rw[C a z]at B;cases B
section
variable{X:Cx}{ca:CA}
def WY(h:PE X e T)(g:starEach [e] X.env=[(false,eval e X.env)]:=by rfl):PA X [e] (DP X.K aX T):=
 (sB h vg g).of λσ H Q c=>by let⟨ρ,l,st,o,sr,p⟩:=c;exact p.ret sr [] .nil
def W3(U:SE X e fa)(O:PA X es (DP X.K ca T))(L:starEach (e::es) X.env=(false,eval e X.env)::starEach es X.env:=by rfl):PA X (e::es) (DP X.K (au fa ca) T):=
 (sB U O L).of λσ H Q c=>by let⟨ρ,l,st,o,sr,p⟩:=c;exact⟨ρ,l,st,o,sr,p.bnd.imp λd g ρ1 H1 u E J v G=>⟨ρ1,l,g,o.mono u,E,J.bnd.imp λds B ρ2 H2 q C I Y h=>I.ret C _ (.cons (G.mono q) h)⟩⟩
structure uf(X:Cx)(names:List (Str×dG))(is:List Nat):Prop where
 cel:∀x,(x,bG)∈names->(X.env.kindOf x=some .cell\/X.env.kindOf x=some .free)/\X.fn x=true
 nd:(oG names).Nodup
 ix:eZ (λ(x:Str)i=>X.N[i]?=some x) (oG names) is
theorem uf.cl(h:uf X names is)(ok:X.Ok): ∃cl,iT names X.env.cells []=cl/\cl.map (·.1)=oG names/\(cl.map (·.1)).Nodup /\(∀p∈cl,X.env.cells.lookup p.1=some p.2/\(X.env.kindOf p.1=some .cell\/X.env.kindOf p.1=some .free)/\X.fn p.1=true)/\eZ (λ(p:Str×ak)i=>X.N[i]?=some p.1) cl is:=by
 let g:(iT names X.env.cells []).map (·.1)=oG names:=by rw[Pe names [] λx l=>ok.has x (h.cel x l).1];simp
 refine⟨_,rfl,g,by rw[g];exact h.nd,λp o=>?_,?_⟩
 ·rcases tP names [] o with ⟨a,b⟩|z
  ·exact⟨a,h.cel _ b⟩
  ·cases z
 ·let : ∀(cl : List (Str×ak))(fr : List Str)(is : List Nat), cl.map (·.1) = fr -> eZ (λ(x : Str)i => X.N[i]? = some x) fr is -> eZ (λ(p : Str×ak)i => X.N[i]? = some p.1) cl is := by
    intro cl
    induction cl with
    |nil=>intro fr is e p;subst e;cases p;exact .nil
    |cons c cl ih=>intro fr is e p;subst e;cases p with|cons r t=>exact .cons r (ih _ _ rfl t)
  exact this _ _ _ g h.ix
def B3(K:ah)(g:List D->M D)(c:kR)(q:Str)(cl:List (Str×ak))(is:List Nat)(i:Nat)(ca:CA):TE:=λσ h Q=>∃ρ H0 l st a ob fd cd vd,Ex ρ H0 (ρ++[a]) h/\a∉ρ/\SR K ρ h st/\LR K ρ h σ l/\σ[i]?=some (some (.ref a))/\h a=some (.frz ob (.own a))/\ob.data=.func fd /\
 B4 c fd q cd cl/\pE h cd q/\cl.map (·.1)=oG fd.scope.names/\uh l is=some vd/\aT K ρ H0 (bnd (ca l) (λds=>callC g c vd ds) st) λd _ ρ' o=>∀v,dE K ρ' o v d->Q v o
def UD{k n i:Nat}{cl:List (Str×ak)}(F:mI X.prog X.w X.K X.mg X.base q_ k f H ps (mU X.K n g))(hr:iw k X.A)(hg:Gl X x)(hm:X.mg x=some (.ref f))(hk:di X.K (.ref f)=true) (hb:Binds X.K H ps []) (ha:PA X (e::es) (DP X.K ca (yM i))) (hn:∀l st ds O,ca l st=.ok ds O->ds.length+1=n)(hnn:(cl.map (·.1)).Nodup) (hce:∀p∈cl,X.env.cells.lookup p.1=some p.2/\(X.env.kindOf p.1=some .cell\/X.env.kindOf p.1=some .free)/\X.fn p.1=true) (G:eZ (λ(p:Str×ak)i=>X.N[i]?=some p.1) cl is)(hdb:(x == ("__debug__":Str))=false:=by decide) (he:starEach (e::es) X.env=(false,eval e X.env)::starEach es X.env:=by rfl) (hpl:(backTo pos (starEach es X.env)).any (·.1)=false:=by rfl):
  PE X (.Call (.Name x p) (e::es) [] pos) (B3 X.K g c q cl is i ca):=by
 intro C s σ Hm Q I h;let⟨ρ,H0,l,st,a,ob,fd,cd,vd,x0,na,sr,lr,hσ,E,hod,hfd,hcd,hfr,hv,o⟩:=h;unfold bnd at o;cases J:ca l st with|bad=>rw[J]at o;exact o.elim|exc _ _=>rw[J]at o;exact o.elim|ok ds cp=>
  rw[J]at o;refine dJ (Qq I hg hm ?_ hdb);refine vR (h₀:=X.base) I.ok.mod.kin hk (fT (ha pos C s σ Hm (λzs L=>∃ρ1 B,zs=B++[.ref a]/\Ex ρ Hm ρ1 L/\SR X.K ρ1 L cp/\bW X.K ρ1 L B ds) I ⟨ρ,l,st,lr,sr,?_⟩) λus s1 ⟨zs,L,I2,rv,ρ1,B,e1,v,U,rs⟩=>⟨I2.kIn,?_⟩) he hpl
  ·rw[J];exact λρ1 c v s1 B Y=>⟨_,hσ,ρ1,B,rfl,v,s1,Y⟩
  ·subst e1;let⟨l,u,rfl,c,q⟩:=PH rv;obtain rfl:u=bD a:=q;let⟨h,g⟩:=x0.made v na E;exact UV I2 F hr hb h U g (lr.mono v) (v.fix _ _ rfl E) hod hfd (hcd.up v.up) hfr hnn hce G hv (hn _ _ _ _ J) rs c o
def LR.forget{K:ah}{i:Nat}(h:LR K ρ H σ l):LR K ρ H (σ.set i (some v)) (l.set i none):=by
 refine⟨by rw[dq,dq];exact h.1,λj d e=>?_⟩;by_cases c:i=j
 ·subst c;rw[List.getElem?_set]at e;rw[aH rfl]at e;split at e<;>cases e
 ·rw[aB c]at e;let⟨u,g,r⟩:=h.2 j d e;exact⟨u,by rw[aB c];exact g,r⟩
def QhZ{k n i j:Nat}{id:String}{pa:iB}{sc:du}(L:Co X y)(hN:X.N.Nodup)(hi:X.N[i]?=some w)(hkw:X.env.kindOf w=some .local)(hd0:pa.defaults=[]) (hk0:pa.kw_defaults=[]) (hann:annTrees pa none X.env=[]) (hdr:uf X sc.names is)(F:mI X.prog X.w X.K X.mg X.base q_ k f fdG ps (mU X.K n g)) (hr:iw k X.A) (hg:Gl X x) (hm:X.mg x=some (.ref f)) (hk:di X.K (.ref f)=true) (hb:Binds X.K fdG ps []) (ha:PA X (e::es) (DP X.K ca (yM i))) (hn:∀l st ds st',ca l st=.ok ds st'->ds.length+1=n)(hc:CallR X (.builtin id) (λxs H Q=>∃v,xs=[v]/\yG X.K u v H Q)) (hbg:Gl X bx) (hbm:X.mg bx=none) (hbv:cZ bx=some (.builtin id)) (hbn:bx≠"__name__":=by decide) (hbdb:(bx == ("__debug__":Str))=false:=by decide)
  (hdb:(x == ("__debug__":Str))=false:=by decide) (he:starEach (e::es) X.env=(false,eval e X.env)::starEach es X.env:=by rfl) (hpl:(backTo pos (starEach es X.env)).any (·.1)=false:=by rfl):
  xj X [.FunctionDef w pa B [] none [] sc none w h,.Return (some (.Call (.Name bx bp) [.Call (.Name x p) (e::es) [] pos] [] U)) O] (dF (c1 u (o6 j y w g (.dfn (.FunctionDef w pa B [] none [] sc none w h)) is i ca))):=by
 intro ar s σ H D I Y;let⟨ρ,l,st,lr,sr,pp⟩:=Y;let⟨cl,ecl,c1',c2',c3,c4⟩:=hdr.cl I.ok;let⟨f',o,fd,c,P,l1,l2,l3,l4,l5,l6,l7,l8⟩:=L;let hcl:ny sc X.env=pure cl:=by rw[MR λz hz=>I.ok.has z (hdr.cel z hz).1,ecl]
 let E:=pp.bnd.bnd;unfold o6 at E;cases ej:st[j]? with|none=>simp only[ej]at E;exact E.elim|some oj=>
  cases oj with
  |tbl y' w'=>
   cases ev:uh (l.set i none) is with|none=>simp only[ej,ev]at E;exact E.elim|some vd=>
    simp only[ej,ev]at E;by_cases hy:y'=y/\w'=w
    ·rw[aH hy]at E;let⟨rfl,rfl⟩:=hy;let⟨P',hP',hT,Y⟩:=sr.at ej;obtain rfl:P'=P:=hT.uniq ⟨f',o,fd,c,l1,l2,l3,l4,l5⟩;let u:=I.mod.glob.keeps I.bk;let⟨L,hgP⟩:=Py l8 I Y.choose_spec.1;let hC:=oT I.kIn l5;let hq:qualnameIn X.env w' w'=xh y' w':=by unfold qualnameIn;rw[hkw,l7];rfl
     refine Ht (PySem.W.nestDef_K hd0 hk0 hann ?_);rw[hq];refine Nq (Wp:=λQ=>aG (aY X.prog X.w) X.A _ Q X.xe s) (fobj:=λcd ct C=>{ cls:=.type "function",data:=.func (qT w' (xh y' w') pa B sc cl .none .none C ((X.mg "__name__").getD .none) none cd ct) }) (pos:=h) I Y (λ_ _ _=>rfl) (λtb cv Q g ht hf k=>?_) (λtb Q g ht hf k=>?_) λa c' G C H' s' T J=>?_
     ·exact PySem.W.makeFunction_hit hcl I.ok.glob u l6 hC g ht hf L λG C h' tk hk hsz=>k G C h' tk hk hsz
     ·exact PySem.W.makeFunction_K hcl I.ok.glob u l6 hC g ht hf hgP L λc' G C h' tk a1 o l h c=>k c' G C h' tk a1 o l h c
     ·let⟨na,g,C⟩:=Qc sr hP' ej T.fresh T.tab T.keep;refine Jd (v:=.ref a) J hN hi (.inl hkw) rfl (λG J' _=>?_) (.inr hkw);let o:Ex ρ H ρ H':=⟨⟨[],by simp⟩,g.fix,g.oth,g.knd⟩
      let rest:=Pd (OO (pos:=O) (HP (p:=bp) (pos:=U) hc hbg hbm hbv (sB (UD (p:=p) (pos:=pos) (c:=.dfn (.FunctionDef w' pa B [] none [] sc none w' h)) (q:=xh y' w') F hr hg hm hk hb ha hn c2' c3 c4 hdb he hpl) vg rfl) hbn hbdb rfl rfl)) PC;refine rest ar G (σ.set i (some (.ref a))) H' D J' ?_;refine⟨ρ,H,l.set i none,st,a,_,_,c',vd,g,na,C,(lr.mono o).forget,?_,T.fn,rfl,⟨_,_,_,_,_,_,_,_,_,_,_,_,_,rfl,rfl⟩,T.cod,c1',ev,E.imp λd u ρ1 H1 x1 C p2 v rv=>?_⟩
      ·let hiσ:i < σ.length:=by rw[I.len];exact (ac.mp hi).1
       rw[aF hiσ]
      ·exact⟨v,rfl,ρ1,u,d,C,rv,p2.imp λh Q ρ2 l g Y c v2 L=>c.ret Y v2 L⟩
    ·rw[aD hy]at E;exact E.elim
  |_=>simp only[ej]at E;exact E.elim
end
set_option genInjectivity false in
structure RF where
 n:Nat
 k:Nat
 ps:List Str
 kw:Bool
 g:List D->M D
set_option genInjectivity false in
structure RC where
 sc:du
 N:List Str
 k:Nat
 G:List (Str×RF)
 Z:List Str
 C:List (Str×D)
 H:List (Nat×Nat×Nat)
 top:Bool
 W:WT
 T:Option (Nat×Str)
noncomputable def RC.tag(c:RC)(p:Pos)(t:Nat):Bool:=c.H.contains (p.line,p.col,t)
noncomputable def RC.glo(c:RC)(x:Str):Bool:=c.sc.names.lookup x == some .globalImplicit
noncomputable def ug(x:Str):Bool := !((x == ("__debug__":Str))||(x == ("__classdict__":Str))||decide (x=("__name__":Str)))
def A1(h:ug x=true):rW x:=UG (by unfold ug at h;simpa only[zt] using h)
def EL(K:ah)(c:dm)(ps:List Str):Prop:=if ps.getLast?=some (az "most") then ∃u,RelV (.int 500) u/\Binds K c ps [u] else z9 K c ps
structure GF(P:Program)(w:bM)(K:ah)(mg:Str->Option ag)(base:bK)(x:Str)(r:RF):Prop where
 ex:∃f fd,mg x=some (.ref f)/\mI P w K mg base q_ r.k f fd r.ps (mU K r.n r.g)/\di K (.ref f)=true/\Binds K fd r.ps []/\(r.kw=true->EL K fd r.ps)
def yX(P:Program)(w:bM)(K:ah)(mg:Str->Option ag)(base:bK)(W:WT):Prop:=(∀e r,(e,r)∈W.1->tB P w K mg base r.k r.n e r.g)/\∀c r,(c,r)∈W.2->tK P w K mg base r.k r.n c r.g
structure Good(X:Cx)(c:RC):Prop where
 S:Sc X c.sc
 N:X.N=c.N
 nd:X.N.Nodup
 hr:iw c.k X.A
 G:∀x r,c.G.lookup x=some r->GF X.prog X.w X.K X.mg X.base x r
 Z:∀x,c.Z.contains x=true->X.mg x=none
 C:∀x d,c.C.lookup x=some d->∃v u,X.mg x=some u/\RelV v u/\∀ρ H,dE X.K ρ H v d
 ps:uq (aY X.prog X.w) X.A X.env X.xe
 kd:c.top=true->X.env.blockKind=.function/\∀x,X.env.kindOf x=c.sc.names.lookup x
 W:yX X.prog X.w X.K X.mg X.base c.W
 T:∀t,c.T=some t->Co X t.2
def Good.hu(g:Good X c):X.A.units+60 < cS:=Yd g.hr
noncomputable def rG:Expr->Bool
 | .Starred .. => false|_=>true
def rJ(h:rG e=true):starEach (e::es) env=(false,eval e env)::starEach es env:=by cases e<;>first|rfl|exact nomatch h
theorem CV:∀{es:List Expr},es.all rG=true->(backTo pos (starEach es env)).any (·.1)=false
 |[],_=>rfl|e::es,h=>by rw[cE,bv]at h;rw[rJ h.1];exact CV h.2
theorem Oq:∀{es:List Expr},es.all rG=true->(backTo pos (starEach es env)).all (λx => !x.1)=true
 |[],_=>rfl|e::es,h=>by rw[cE,bv]at h;rw[rJ h.1];exact Oq h.2
noncomputable def JE:Expr->Bool
 | .ListComp .. => false| .SetComp .. => false| .DictComp .. => false|_=>true
def P4{n:Nat}(h:JE e=true):kM e t n env=pure false:=by cases e<;>first|rfl|exact nomatch h
noncomputable def F7:Expr->Bool
 | .Set .. => false|_=>true
def Lq(h:F7 e=true)(x:ag):fL e env x=pure x:=by cases e<;>first|rfl|exact nomatch h
def Qn(h:F7 e=true):kr op e=false:=by cases e<;>first|rfl|exact nomatch h
noncomputable def Fc:Expr->Bool
 | .Call _ [] _ _=>false|_=>true
def IT(h:Fc e=true):dY e x env w=w:=by
 cases e with
 |Call f as ks p=>
  cases as with|nil=>exact nomatch h|cons a as=>unfold dY;cases f<;>rfl
 |_=>rfl
noncomputable def IV:Expr->Bool
 | .Slice .. => false|_=>true
def Gw(h:IV e=true):rH e:=by intro o i;cases e<;>first|rfl|exact nomatch h
noncomputable def Ol:Expr->Bool
 | .Compare .. => false| .BoolOp .. => false| .UnaryOp .. => false| .IfExp .. => false|_=>true
def Zg(h:Ol e=true)(w:Sem ag):PySem.isTrue e env w=(do let v <- w;yZ e.pos;k_ [v] (truthy v)):=by cases e<;>first|rfl|exact nomatch h
abbrev FW(c:RC)(x:Expr):={r:CE // ∀{X:Cx},Good X c->SE X x r}
abbrev O8(c:RC)(x:Expr):={r:CA // ∀{X:Cx},Good X c->SL X x r}
abbrev OV(c:RC)(x:Expr):={r:CT // ∀{X:Cx},Good X c->ST X x r}
abbrev Mw(c:RC)(tg x:Expr):={r:CI // ∀{X:Cx},Good X c->SI X tg x r}
abbrev Jw(c:RC)(x:Expr):={r:CG // ∀{X:Cx},Good X c->SG X x r}
abbrev Rm(c:RC)(x:Stmt):={r:CS // ∀{X:Cx},Good X c->SS X x r}
set_option genInjectivity false in
structure tD where
 e:∀(c:RC)(x:Expr),Option (FW c x)
 l:∀(c:RC)(x:Expr),Option (O8 c x)
 t:∀(c:RC)(x:Expr),Option (OV c x)
 i:∀(c:RC)(tg x:Expr),Option (Mw c tg x)
 g:∀(c:RC)(x:Expr),Option (Jw c x)
 s:∀(c:RC)(x:Stmt),Option (Rm c x)
abbrev lY:=tD->∀(c:RC)(x:Expr),Option (FW c x)
abbrev GN:=tD->∀(c:RC)(x:Expr),Option (O8 c x)
abbrev GI:=tD->∀(c:RC)(x:Expr),Option (OV c x)
abbrev xH:=tD->∀(c:RC)(tg x:Expr),Option (Mw c tg x)
abbrev IA:=tD->∀(c:RC)(x:Expr),Option (Jw c x)
abbrev we:=tD->∀(c:RC)(x:Stmt),Option (Rm c x)
set_option genInjectivity false in
structure mq where
 e:List lY
 l:List GN
 t:List GI
 i:List xH
 g:List IA
 s:List we
noncomputable def vO{α β:Type}(f:α->Option β):List α->Option β
 |[]=>none
 |a::as=>match f a with|some b=>some b|none=>vO f as
def nQ(R:mq):Nat->tD
 |0=>⟨λ_ _=>none,λ_ _=>none,λ_ _=>none,λ_ _ _=>none,λ_ _=>none,λ_ _=>none⟩
 |n+1 => ⟨λc x => vO (λr => r (nQ R n) c x) R.e, λc x => vO (λr => r (nQ R n) c x) R.l, λc x => vO (λr => r (nQ R n) c x) R.t,
   λc tg x=>vO (λr=>r (nQ R n) c tg x) R.i,λc x=>vO (λr=>r (nQ R n) c x) R.g,λc x=>vO (λr=>r (nQ R n) c x) R.s⟩
noncomputable def wh{α:Type}(C:Prop)[Decidable C](k:C->Option α):Option α:=if h:C then k h else none
section
variable{β:Type}
section
variable{α:Type}(e:List α)
noncomputable def v0(k:e=[]->Option β):Option β:=match e,k with|[],k=>k rfl|_,_=>none
noncomputable def vC(k:∀a c,e=a::c->Option β):Option β:=match e,k with|a::c,k=>k a c rfl|_,_=>none
def v1(k:∀a,e=[a]->Option β):Option β:=vC e λa g h=>v0 g λc=>k a (c ▸ h)
def v2(k:∀a b,e=[a,b]->Option β):Option β:=vC e λa g h=>v1 g λb c=>k a b (c ▸ h)
end
section
variable{α:Type}(e:Option α)
noncomputable def oN(k:e=none->Option β):Option β:=match e,k with|none,k=>k rfl|_,_=>none
noncomputable def oS(k:∀a,e=some a->Option β):Option β:=match e,k with|some a,k=>k a rfl|_,_=>none
end
section
variable(e:Expr)
noncomputable def Bh(k:∀x p,e=.Name x p->Option β):Option β:=match e,k with| .Name x p,k=>k x p rfl|_,_=>none
noncomputable def JF(k:∀f c ks p,e=.Call f c ks p->Option β):Option β:=match e,k with| .Call f c ks p,k=>k f c ks p rfl|_,_=>none
noncomputable def Xv(k:∀o x p,e=.Attribute o x p->Option β):Option β:=match e,k with| .Attribute o x p,k=>k o x p rfl|_,_=>none
noncomputable def Db(k:∀a b p,e=.Subscript a b p->Option β):Option β:=match e,k with| .Subscript a b p,k=>k a b p rfl|_,_=>none
noncomputable def Ot(k:∀v n p,e=.Constant v n p->Option β):Option β:=match e,k with| .Constant v n p,k=>k v n p rfl|_,_=>none
noncomputable def Ss(k:∀a o b p,e=.BinOp a o b p->Option β):Option β:=match e,k with| .BinOp a o b p,k=>k a o b p rfl|_,_=>none
noncomputable def vCp(k:∀a os bs p,e=.Compare a os bs p->Option β):Option β:=match e,k with| .Compare a os bs p,k=>k a os bs p rfl|_,_=>none
noncomputable def Q2(k:∀o es p,e=.BoolOp o es p->Option β):Option β:=match e,k with| .BoolOp o es p,k=>k o es p rfl|_,_=>none
noncomputable def Ii(k:∀o a p,e=.UnaryOp o a p->Option β):Option β:=match e,k with| .UnaryOp o a p,k=>k o a p rfl|_,_=>none
noncomputable def vIf(k:∀t a b p,e=.IfExp t a b p->Option β):Option β:=match e,k with| .IfExp t a b p,k=>k t a b p rfl|_,_=>none
noncomputable def IL(k:∀es n p,e=.Tuple es n p->Option β):Option β:=match e,k with| .Tuple es n p,k=>k es n p rfl|_,_=>none
noncomputable def ZI(k:∀es p,e=.List es p->Option β):Option β:=match e,k with| .List es p,k=>k es p rfl|_,_=>none
noncomputable def NW(k:∀ks c p,e=.Dict ks c p->Option β):Option β:=match e,k with| .Dict ks c p,k=>k ks c p rfl|_,_=>none
noncomputable def Ry(k:∀a b s p,e=.Slice a b s p->Option β):Option β:=match e,k with| .Slice a b s p,k=>k a b s p rfl|_,_=>none
noncomputable def Yf(k:∀x c sc p,e=.ListComp x c sc p->Option β):Option β:=match e,k with| .ListComp x c sc p,k=>k x c sc p rfl|_,_=>none
def DU(k:∀x p c q,e=.Call (.Name x p) c [] q->Option β):Option β:=JF e λf c ks q h=>Bh f λx p l=>v0 ks λg=>k x p c q (l ▸ g ▸ h)
def BS(k:∀x p a q,e=.Call (.Name x p) [a] [] q->Option β):Option β:=DU e λx p g q h=>v1 g λa c=>k x p a q (c ▸ h)
def LF(k:∀x p a b q,e=.Call (.Name x p) [a,b] [] q->Option β):Option β:=DU e λx p g q h=>v2 g λa b c=>k x p a b q (c ▸ h)
def R9(k:∀x p y r a q c,e=.Call (.Name x p) [.Call (.Name y r) [a] [] q] [] c->Option β):Option β:=BS e λx p b c h=>BS b λy r a q g=>k x p y r a q c (g ▸ h)
def vM(k:∀o x p c q,e=.Call (.Attribute o x p) c [] q->Option β):Option β:=JF e λf c ks q h=>Xv f λo x p l=>v0 ks λg=>k o x p c q (l ▸ g ▸ h)
def So(k:∀a o b p,e=.Compare a [o] [b] p->Option β):Option β:=vCp e λa os bs p h=>v1 os λo g=>v1 bs λb c=>k a o b p (g ▸ c ▸ h)
def Gv(k:∀a lo c p q,e=.Subscript a (.Slice lo c none p) q->Option β):Option β:=Db e λa b q h=>Ry b λlo c s p l=>oN s λg=>k a lo c p q (g ▸ l ▸ h)
end
section
variable(e:Stmt)
noncomputable def XW(k:∀ts a p,e=.Assign ts a p->Option β):Option β:=match e,k with| .Assign ts a p,k=>k ts a p rfl|_,_=>none
noncomputable def Om(k:∀t o a p,e=.AugAssign t o a p->Option β):Option β:=match e,k with| .AugAssign t o a p,k=>k t o a p rfl|_,_=>none
noncomputable def M0(k:∀o p,e=.Return o p->Option β):Option β:=match e,k with| .Return o p,k=>k o p rfl|_,_=>none
noncomputable def TY(k:∀a p,e=.Expr a p->Option β):Option β:=match e,k with| .Expr a p,k=>k a p rfl|_,_=>none
noncomputable def Uy(k:∀t a b p,e=.If t a b p->Option β):Option β:=match e,k with| .If t a b p,k=>k t a b p rfl|_,_=>none
noncomputable def ZG(k:∀t a b p,e=.While t a b p->Option β):Option β:=match e,k with| .While t a b p,k=>k t a b p rfl|_,_=>none
noncomputable def VQ(k:∀t i a b p,e=.For t i a b p->Option β):Option β:=match e,k with| .For t i a b p,k=>k t i a b p rfl|_,_=>none
noncomputable def uRs(k:∀a b p,e=.Raise a b p->Option β):Option β:=match e,k with| .Raise a b p,k=>k a b p rfl|_,_=>none
def HX(k:∀t a p,e=.Assign [t] a p->Option β):Option β:=XW e λts a p h=>v1 ts λt c=>k t a p (c ▸ h)
end
end
abbrev Xz(c:RC)(es:List Expr):={r:CA // (∀{X:Cx},Good X c->SA X es r)/\es.all rG=true/\∀l st ds g,r l st=.ok ds g->ds.length=es.length}
def wO(q:tD)(c:RC):∀es:List Expr,Option (Xz c es)
 |[]=>some ⟨aX,λ_=>Qp,rfl,Z4⟩|e::es=>wh (rG e=true) λh=>(q.e c e).bind λf=>(wO q c es).bind λr=>some ⟨au f.1 r.1,λg=>Pq (f.2 g) (r.2.1 g) (rJ h),by rw[cE,h,r.2.2.1];rfl,Yj r.2.2.2⟩
abbrev Z2(c:RC)(e:Option Expr):={r:CO // ∀{X:Cx},Good X c->SO X e r}
def zR(q:tD)(c:RC):∀e:Option Expr,Option (Z2 c e)
 |none=>some ⟨oU,λ_=>Vz⟩|some e=>(q.e c e).bind λf=>some ⟨mV f.1,λg=>UP (f.2 g)⟩
abbrev GG(c:RC)(g:List Stmt):={r:CS // ∀{X:Cx},Good X c->xj X g r}
def pd(q:tD)(c:RC):∀h:List Stmt,Option (GG c h)
 |[]=>some ⟨aU,λ_=>Xh⟩|s::h=>(q.s c s).bind λa=>(pd q c h).bind λb=>some ⟨aO a.1 b.1,λg=>Xb (a.2 g) (b.2 g)⟩
def Fi(c:RC)(x:Str):Option {i:Nat // c.N[i]?=some x/\(c.sc.names.lookup x=some .local\/c.sc.names.lookup x=some .cell\/c.sc.names.lookup x=some .free)/\ug x=true}:=wh _ λh=>some ⟨c.N.idxOf x,h⟩
def Pw{i:Nat}(g:Good X c)(h:c.N[i]?=some x/\(c.sc.names.lookup x=some .local\/c.sc.names.lookup x=some .cell\/c.sc.names.lookup x=some .free)/\ug x=true):SE X (.Name x p) (aq i):=by
 let⟨o,l,q⟩:=h;rw[<- g.N]at o;rcases l with l|l|l
 ·exact MT g.S _ o l (A1 q) (.inl rfl)
 ·exact MT g.S _ o l (A1 q) (.inr (.inl rfl))
 ·exact MT g.S _ o l (A1 q) (.inr (.inr rfl))
def Jm:lY:=λ_ c e=>Bh e λx _ h=>(Fi c x).bind λi=>some ⟨aq i.1,λg=>h ▸ Pw g i.2⟩
def Js{α:Type}(l:List (Str × α))(x:Str):Option {a:α // l.lookup x=some a}:=oS (l.lookup x) λa h=>some ⟨a,h⟩
noncomputable def Fa:Const->Option D
 | .int i=>some (.int i)| .str i=>some (.str i)| .bool i=>some (.bl i)| .none=>some .non|_=>none
def Xj{n:Nat}(h:Fa v=some d):SE X (.Constant v n p) (aN d):=by
 cases v<;>cases h
 ·exact Qds
 ·exact WJ
 ·exact WB
 ·exact Qdt
def V5{α:Type}(o:Option α):Option {a:α // o=some a}:=oS o λa h=>some ⟨a,h⟩
def Jg:lY:=λ_ _ e=>Ot e λv _ _ h=>(V5 (Fa v)).bind λd=>some ⟨aN d.1,λ_=>h ▸ Xj d.2⟩
def G6:lY:=λq c e=>(q.l c e).bind λa=>some ⟨eR a.1,λg=>Z_ (a.2 g)⟩
abbrev OpU(op:qp)(f:D->D->M D):Prop:=∀{X:Cx},X.A.units+60 < cS->OpR X (fH op) (ra X.K f)
abbrev Pk(op:uB)(f:D->D->M D):Prop:=∀{X:Cx},X.A.units+60 < cS->OpR X (dH op) (ra X.K f)
def DL(o:qp)(f:D->D->M D)(h:OpU o f):lY:=λq c e=>Ss e λa op b _ v=>wh (op=o) λz=>(q.e c a).bind λu=>(q.e c b).bind λl=>some ⟨c2 f u.1 l.1,λg=>v ▸ z ▸ Uf (h g.hu) (u.2 g) (l.2 g)⟩
abbrev YN(c:RC)(x:Expr):={r:CE // ∀{X:Cx},Good X c->SE X x r/\ST X x (cX r)}
abbrev vH:=tD->∀(c:RC)(x:Expr),Option (YN c x)
noncomputable def vH.e(r:vH):lY:=λq c x=>(r q c x).bind λf=>some ⟨f.1,λg=>(f.2 g).1⟩
def vH.t(r:vH):GI:=λq c x=>(r q c x).bind λf=>some ⟨cX f.1,λg=>(f.2 g).2⟩
def ua(o:uB)(f:D->D->M D)(h:Pk o f):vH:=λq c e=>So e λa op b _ v=>wh (op=o/\F7 b=true) λz=>(q.e c a).bind λu=>(q.e c b).bind λl=>some ⟨c2 f u.1 l.1,λg=>v ▸ z.1 ▸ ⟨Wc (h g.hu) (u.2 g) (l.2 g) (Qn z.2),X8 (h g.hu) (u.2 g) (l.2 g) (Qn z.2)⟩⟩
def Eu(t:Nat)(o:uB)(f:D->D->M D)(h:Pk o f):vH:=λq c e=>wh (c.tag e.pos t=true) λ_=>ua o f h q c e
def Gd(q:tD)(c:RC)(p:Pos):∀es:List Expr,Option (FW c (.BoolOp .And es p))
 |[a]=>(q.e c a).bind λh=>some ⟨h.1,λg=>N8 (h.2 g)⟩|a::b::r=>(q.e c a).bind λh=>(Gd q c p (b::r)).bind λl=>some ⟨vE h.1 l.1,λg=>QeG (h.2 g) (l.2 g)⟩|_=>none
def OI(q:tD)(c:RC)(p:Pos):∀es:List Expr,Option (FW c (.BoolOp .Or es p))
 |[a]=>(q.e c a).bind λh=>some ⟨h.1,λg=>N8 (h.2 g)⟩|a::b::r=>(q.e c a).bind λh=>(OI q c p (b::r)).bind λl=>some ⟨DG h.1 l.1,λg=>UA (h.2 g) (l.2 g)⟩|_=>none
def Jt:lY:=λq c e=>Q2 e λo es p h=>match o,h with| .And,h=>(Gd q c p es).bind λf=>some ⟨f.1,λg=>h ▸ f.2 g⟩| .Or,h=>(OI q c p es).bind λf=>some ⟨f.1,λg=>h ▸ f.2 g⟩
def Mc:lY:=λq c e=>Ii e λo a _ h=>wh (o=.USub) λz=>(q.e c a).bind λl=>some ⟨c1 uW l.1,λg=>h ▸ z ▸ Qf4 SM (l.2 g)⟩
def KZ:lY:=λq c e=>vIf e λt a b _ h=>(q.t c t).bind λl=>(q.e c a).bind λu=>(q.e c b).bind λo=>some ⟨wW l.1 u.1 o.1,λg=>h ▸ Ys (l.2 g) (u.2 g) (o.2 g)⟩
def J3:lY:=λq c e=>IL e λes _ _ h=>(wO q c es).bind λl=>some ⟨c8 l.1,λg=>h ▸ Vd (l.2.1 g)⟩
def z8:lY:=λq c e=>Db e λa b _ h=>wh (IV b=true) λz=>(q.l c a).bind λo=>(q.e c b).bind λl=>some ⟨nh o.1 l.1,λg=>h ▸ Tl (o.2 g) (l.2 g) (Gw z)⟩
def FF:lY:=λq c e=>Db e λa b _ h=>wh (IV b=true) λz=>(q.e c a).bind λo=>(q.e c b).bind λl=>some ⟨c2 aW o.1 l.1,λg=>h ▸ X1 g.hu (o.2 g) (l.2 g) (Gw z)⟩
theorem ZE:∀{b:Bool},SE X (.Dict [] [] p) (rS b)
 |false=>XG|true=>Uv
def EX:lY:=λ_ c e=>NW e λks g p h=>v0 ks λo=>v0 g λl=>some ⟨rS (c.tag p 2),λ_=>h ▸ o ▸ l ▸ ZE⟩
def FS(x:String)(f:CE->CE)(h:∀{X:Cx}{o:Expr}{v:CE}{u l:Pos},SE X o v->dY o (az x) X.env (eval o X.env)=eval o X.env->(u.endLine == l.line)=true->SE X (.Call (.Attribute o (az x) u) [] [] l) (f v)):lY:=
 λq c e=>vM e λo y H G E C=>v0 G λB=>wh (y=az x/\Fc o=true/\(H.endLine == E.line)=true) λz=>(q.e c o).bind λv=>some ⟨f v.1,λg=>by subst C B;exact z.1 ▸ h (v.2 g) (IT z.2.1) z.2.2⟩
noncomputable abbrev IC(X:Cx)(c:Pos)(es:List Expr):Prop:=((backTo c (starEach es X.env)).all (λx => !x.1)&&(qw c (l9 [] X.env)).all (λx=>x.1.isSome)&&decide (es.length+([]:List i5).length+(if ([]:List i5).isEmpty then 0 else 1) < 30))=true
def Fm{es:List Expr}(h:es.all rG=true)(g:es.length < 30):IC X c es:=by unfold IC;rw[Oq h];exact (bv _ _).mpr ⟨rfl,cz g⟩
def Bc(x:String)(f:CE->CE->CE)(ok:RC->Pos->Bool) (h:∀{X:Cx}{o e:Expr}{B v:CE}{u l:Pos},X.A.units+60 < cS->SE X o B->SE X e v->dY o (az x) X.env (eval o X.env)=eval o X.env->IC X l [e]->(u.endLine == l.line)=true ->starEach [e] X.env=(false,eval e X.env)::starEach [] X.env->(backTo l (starEach [] X.env)).any (·.1)=false->SE X (.Call (.Attribute o (az x) u) [e] [] l) (f B v)):lY:=
 λq c e=>vM e λo y O L E J=>v1 L λa I=>wh (y=az x/\Fc o=true/\rG a=true/\ok c E=true/\(O.endLine == E.line)=true) λz=>(q.e c o).bind λB=>(q.e c a).bind λv=>some ⟨f B.1 v.1,λg=>by subst J I;let⟨rfl,H,C,_,G⟩:=z;exact h g.hu (B.2 g) (v.2 g) (IT H) (Fm (by rw[cE,C];rfl) (wC rfl)) G (rJ C) rfl⟩
def Hk(x:String)(f:CE->CE->CE->CE) (h:∀{X:Cx}{o H u:Expr}{G E C:CE}{v l:Pos},X.A.units+60 < cS->SE X o G->SE X H E->SE X u C->dY o (az x) X.env (eval o X.env)=eval o X.env->IC X l [H,u]->(v.endLine == l.line)=true ->starEach [H,u] X.env=(false,eval H X.env)::starEach [u] X.env->starEach [u] X.env=(false,eval u X.env)::starEach [] X.env->(backTo l (starEach [u] X.env)).any (·.1)=false->SE X (.Call (.Attribute o (az x) v) [H,u] [] l) (f G E C)):lY:=
 λq c e=>vM e λo y ap Y U Q=>v2 Y λa b O=>wh (y=az x/\Fc o=true/\rG a=true/\rG b=true/\(ap.endLine == U.line)=true) λz=>(q.e c o).bind λG=>(q.e c a).bind λE=>(q.e c b).bind λC=>some ⟨f G.1 E.1 C.1,λg=>by subst Q O;let⟨rfl,L,I,B,J⟩:=z;exact h g.hu (G.2 g) (E.2 g) (C.2 g) (IT L) (Fm (by rw[cE,I,cE,B];rfl) (wC rfl)) J (rJ I) (rJ B) (CV (by rw[cE,B];rfl))⟩
def EZ:lY:=λq c e=>DU e λx _ h _ I=>vC h λa h H=>(Js c.G x).bind λr=>wh (c.glo x=true/\ug x=true/\r.1.k<=c.k/\r.1.n=(a::h).length) λz=>(wO q c (a::h)).bind λo=>some ⟨bJ r.1.g o.1,λg=>by subst I H;let⟨G,E,C,v⟩:=z;let⟨f,J,m,F,u,B,_⟩:=(g.G _ _ r.2).ex;let⟨x,y,l⟩:=o.2;rw[cE,bv]at y;exact TQ g.S (beq_iff_eq.mp G) F (g.hr.mono C) m u B (A1 E) (x g) (by rw[v];exact l) (rJ y.1) (CV y.2)⟩
def RC.bl(c:RC)(x:Str):Bool:=c.glo x&&c.Z.contains x
def Good.gl(g:Good X c)(h:c.bl x=true):Gl X x/\X.mg x=none:=by unfold RC.bl at h;rw[bv]at h;exact⟨g.S.glo _ (beq_iff_eq.mp h.1),g.Z _ h.2⟩
def rO(x:String)(ok:RC->Pos->Bool)(f:List D->M D)(h:∀{X:Cx}{e:Expr}{u:CA}{p pos:Pos},X.calm=true->X.A.units+60 < cS->Gl X (az x)->X.mg (az x)=none->SL X e u->starEach [e] X.env=[(false,eval e X.env)]->SE X (.Call (.Name (az x) p) [e] [] pos) (iM f u)):lY:=
 λq c e=>BS e λy _ a p e=>wh (y=az x/\c.bl y=true/\rG a=true/\ok c p=true) λz=>(q.l c a).bind λo=>some ⟨iM f o.1,λg=>by subst e;let⟨rfl,l,v,_⟩:=z;exact h g.S.calm g.hu (g.gl l).1 (g.gl l).2 (o.2 g) (rJ v)⟩
def wV(x:String)(ok:RC->Pos->Bool)(f:D->M D)(h:∀{X:Cx}{e:Expr}{l:CE}{p pos:Pos},X.calm=true->X.A.units+60 < cS->Gl X (az x)->X.mg (az x)=none->SE X e l->starEach [e] X.env=[(false,eval e X.env)]->SE X (.Call (.Name (az x) p) [e] [] pos) (c1 f l)):lY:=
 λq c e=>BS e λy _ a p e=>wh (y=az x/\c.bl y=true/\rG a=true/\ok c p=true) λz=>(q.e c a).bind λl=>some ⟨c1 f l.1,λg=>by subst e;let⟨rfl,o,u,_⟩:=z;exact h g.S.calm g.hu (g.gl o).1 (g.gl o).2 (l.2 g) (rJ u)⟩
def Kz(x:String)(ok:RC->Pos->Bool)(f:D->D->M D) (h:∀{X:Cx}{a b:Expr}{u o:CE}{p pos:Pos},X.calm=true->X.A.units+60 < cS->Gl X (az x)->X.mg (az x)=none->SE X a u->SE X b o->starEach [a,b] X.env=(false,eval a X.env)::starEach [b] X.env->starEach [b] X.env=(false,eval b X.env)::starEach [] X.env ->(backTo pos (starEach [b] X.env)).any (·.1)=false->SE X (.Call (.Name (az x) p) [a,b] [] pos) (c2 f u o)):lY:=
 λq c e=>LF e λy _ a b p e=>wh (y=az x/\c.bl y=true/\rG a=true/\rG b=true/\ok c p=true) λz=>(q.e c a).bind λu=>(q.e c b).bind λo=>some ⟨c2 f u.1 o.1,λg=>by subst e;let⟨rfl,v,B,l,_⟩:=z;exact h g.S.calm g.hu (g.gl v).1 (g.gl v).2 (u.2 g) (o.2 g) (rJ B) (rJ l) (CV (by rw[cE,l];rfl))⟩
def MH(x y:String)(ok:RC->Pos->Bool)(f:D->M D)(h:∀{X:Cx}{e:Expr}{o:CE}{p E pos l:Pos},X.calm=true->X.A.units+60 < cS->Gl X (az x)->X.mg (az x)=none->Gl X (az y)->X.mg (az y)=none->SE X e o->starEach [e] X.env=[(false,eval e X.env)]->SE X (.Call (.Name (az x) p) [.Call (.Name (az y) E) [e] [] l] [] pos) (c1 f o)):lY:=
 λq c e=>R9 e λv _ u _ a _ p e=>wh (v=az x/\u=az y/\c.bl v=true/\c.bl u=true/\rG a=true/\ok c p=true) λz=>(q.e c a).bind λo=>some ⟨c1 f o.1,λg=>by subst e;let⟨rfl,rfl,C,B,G,_⟩:=z;exact h g.S.calm g.hu (g.gl C).1 (g.gl C).2 (g.gl B).1 (g.gl B).2 (o.2 g) (rJ G)⟩
section
def Kw:GN:=λq c e=>ZI e λes _ h=>(wO q c es).bind λl=>some ⟨gJ l.1,λg=>h ▸ VP (l.2.1 g)⟩
def FK:GN:=λq c e=>Db e λa b _ h=>Ry b λlo u s _ I=>oN lo λH=>oN u λG=>oS s λs E=>Ii s λo s _ C=>Ot s λv _ _ B=>wh (o=.USub/\v=.int 1) λz=>(q.e c a).bind λl=>some ⟨uJ l.1,λg=>by subst h I H G E C B;exact z.1 ▸ z.2 ▸ Zq (l.2 g)⟩
def BY:GN:=λq c e=>Gv e λa lo v _ p h=>wh (c.tag p 1=false) λ_=>(q.e c a).bind λu=>(zR q c lo).bind λl=>(zR q c v).bind λo=>some ⟨sf u.1 l.1 o.1,λg=>h ▸ Vc (u.2 g) (l.2 g) (o.2 g)⟩
noncomputable def zF:Nat->Expr->List Str
 |_,.Name x _=>[x]|n+1,.Tuple es _ _=>es.flatMap (zF n)|_,_=>[]
abbrev Gy(c:RC)(es:List Expr):={r:CT // ∀{X:Cx},Good X c->yJ X es r}
def Nm(q:tD)(c:RC):∀es:List Expr,Option (Gy c es)
 |[]=>some ⟨b7,λ_=>TH⟩|[t]=>(q.t c t).bind λf=>some ⟨f.1,λg=>Zi (f.2 g)⟩|_=>none
noncomputable def RC.inn(c:RC)(sc:du)(own:List Str):RC:={ c with sc:=sc,N:=own++c.N.filter λx=>sc.names.lookup x == some .free,top:=false,T:=none }
noncomputable def RC.ix(c:RC)(sc:du):List Nat:=(c.N.filter λx=>sc.names.lookup x == some .free).map c.N.idxOf
def RC.cok(c:RC)(sc:du)(own:List Str)(b:Expr):Prop:=ub c.sc sc=true/\rT c.N sc (c.inn sc own).N own.length (c.ix sc)=true/\(c.inn sc own).N.Nodup/\F7 b=true
instance(c:RC)(sc:du)(own:List Str)(b:Expr):Decidable (c.cok sc own b):=by unfold RC.cok;infer_instance
theorem Good.inn(g:Good X c)(h:c.cok sc own b)(fp:List ak)(s:am)(H:Hp):Good (pq X (c.inn sc own).N sc fp s H) (c.inn sc own):=
 ⟨Sv g.S.calm,rfl,h.2.2.1,g.hr,λx r z=>⟨(g.G x r z).ex⟩,g.Z,g.C,iJ,nofun,g.W,λ_ z=>nomatch z⟩
set_option genInjectivity false in
structure Ml(c:RC)(e:Expr) where
 x:Expr
 tg:Expr
 b:Expr
 ifs:List Expr
 sc:du
 p:Pos
 eq:e=.ListComp x [⟨tg,b,ifs,0⟩] sc p
 ok:c.cok sc (zF 8 tg).eraseDups b
 i:Mw c tg b
 g:Jw (c.inn sc (zF 8 tg).eraseDups) tg
 t:Gy (c.inn sc (zF 8 tg).eraseDups) ifs
 f:FW (c.inn sc (zF 8 tg).eraseDups) x
def Ml.r{c:RC}{e:Expr}(m:Ml c e):CA:=dU (zF 8 m.tg).eraseDups.length (c.ix m.sc) m.i.1 m.g.1 m.t.1 m.f.1
def TC{a:Comprehension}(h:a.is_async=0):a=⟨a.target,a.iter,a.ifs,0⟩:=by cases a;exact c_ _ h
def Fo(q:tD)(c:RC)(e:Expr):Option (Ml c e):=Yf e λx o sc p h=>v1 o λa l=>wh (a.is_async=0/\c.cok sc (zF 8 a.target).eraseDups a.iter) λz=>
 (q.i c a.target a.iter).bind λu=>(q.g (c.inn sc (zF 8 a.target).eraseDups) a.target).bind λg=>(Nm q (c.inn sc (zF 8 a.target).eraseDups) a.ifs).bind λt=>(q.e (c.inn sc (zF 8 a.target).eraseDups) x).bind λf=>
  some ⟨x,a.target,a.iter,a.ifs,sc,p,by rw[h,l,<- TC z.1],z.2,u,g,t,f⟩
def E_:GN:=λq c e=>(Fo q c e).bind λm=>some ⟨m.r,λg=>by let⟨x,tg,b,o,sc,p,rfl,ok,h,mg,mt,l⟩:=m;exact TM g.S.calm (PU g.S ok.1) (QW g.N ok.2.1) (h.2 g) (λfp s H=>⟨mg.2 (g.inn ok fp s H),mt.2 (g.inn ok fp s H),l.2 (g.inn ok fp s H)⟩) (Lq ok.2.2.2)⟩
abbrev N2(c:RC)(o:BoolOp)(es:List Expr):={r:CT // ∀{X:Cx}{p:Pos},Good X c->PW X (.BoolOp o es p) (rg X.K r)}
def Ba(q:tD)(c:RC):∀es:List Expr,Option (N2 c .And es)
 |[]=>none|[a]=>(q.t c a).bind λh=>some ⟨h.1,λg=>QeA (h.2 g)⟩|a::b::r=>(q.t c a).bind λh=>(Ba q c (b::r)).bind λl=>some ⟨oX h.1 l.1,λg=>Y8 (h.2 g) (l.2 g)⟩
def EM(q:tD)(c:RC):∀es:List Expr,Option (N2 c .Or es)
 |[]=>none|[a]=>(q.t c a).bind λh=>some ⟨h.1,λg=>VO (h.2 g)⟩|a::b::r=>(q.t c a).bind λh=>(EM q c (b::r)).bind λl=>some ⟨sR h.1 l.1,λg=>SH (h.2 g) (l.2 g)⟩
def B0:GI:=λq c e=>Q2 e λo es p h=>match o,h with| .And,h=>(Ba q c es).bind λf=>some ⟨f.1,λg=>h ▸ L2.PW.pt (f.2 g)⟩| .Or,h=>(EM q c es).bind λf=>some ⟨f.1,λg=>h ▸ L2.PW.pt (f.2 g)⟩
def B6:GI:=λq c e=>Ii e λo a _ h=>wh (o=.Not) λz=>(q.t c a).bind λf=>some ⟨pJ f.1,λg=>h ▸ z ▸ UY (f.2 g)⟩
def Tp:GI:=λq c e=>wh (Ol e=true) λz=>(q.e c e).bind λf=>some ⟨pZ f.1,λg=>Xr (f.2 g) (Zg z)⟩
noncomputable def Ip:Expr->Bool
 | .Tuple .. => true|_=>false
def XR(tg:Expr):Prop:=∃es n p,tg=.Tuple es n p
def ML(h:Ip tg=true):XR tg:=by cases tg<;>first|exact⟨_,_,_,rfl⟩|exact nomatch h
def HY(t:Expr->Bool)(x:String)(ok:RC->Pos->Bool)(f:CE->CI)(h:∀{X:Cx}{tg e:Expr}{l:CE}{p pos:Pos},t tg=true->Gl X (az x)->X.mg (az x)=none->SE X e l->starEach [e] X.env=[(false,eval e X.env)]->SI X tg (.Call (.Name (az x) p) [e] [] pos) (f l)):xH:=
 λq c tg e=>BS e λy _ a p e=>wh (y=az x/\c.bl y=true/\rG a=true/\t tg=true/\ok c p=true) λz=>(q.e c a).bind λl=>some ⟨f l.1,λg=>by subst e;let⟨rfl,o,v,u,_⟩:=z;exact h u (g.gl o).1 (g.gl o).2 (l.2 g) (rJ v)⟩
def RJ(t:Expr->Bool)(x:String)(ok:RC->Pos->Bool)(f:CE->CE->CI) (h:∀{X:Cx}{tg a b:Expr}{u o:CE}{p pos:Pos},t tg=true->Gl X (az x)->X.mg (az x)=none->SE X a u->SE X b o->starEach [a,b] X.env=(false,eval a X.env)::starEach [b] X.env->starEach [b] X.env=(false,eval b X.env)::starEach [] X.env ->starEach [a,b] X.env=[(false,eval a X.env),(false,eval b X.env)]->SI X tg (.Call (.Name (az x) p) [a,b] [] pos) (f u o)):xH:=
 λq c tg e=>LF e λy _ a b p e=>wh (y=az x/\c.bl y=true/\rG a=true/\rG b=true/\t tg=true/\ok c p=true) λz=>(q.e c a).bind λu=>(q.e c b).bind λo=>some ⟨f u.1 o.1,λg=>by subst e;let⟨rfl,B,v,l,C,_⟩:=z;exact h C (g.gl B).1 (g.gl B).2 (u.2 g) (o.2 g) (rJ v) (rJ l) (by rw[rJ v,rJ l];rfl)⟩
noncomputable abbrev CN:Expr->Bool:=λ_=>true
noncomputable abbrev lA:RC->Pos->Bool:=λ_ _=>true
def Ay:xH:=HY CN "range" lA MM.fN λ_ g m a s=>Ue g m a s
def zP:xH:=RJ CN "range" lA MM.n8 λ_ g m a b s t u=>Ua g m a b s t u t
def Ci(t:Bool):xH:=RJ Ip "zip" (λc p=>c.tag p 7 == t) qH λh g m a b s t u=>by let⟨_,_,_,rfl⟩:=ML h;rw[QgH];exact Zc true true g m a b s t u t
def CY:xH:=HY Ip "enumerate" lA uK λh g m a s=>by let⟨_,_,_,rfl⟩:=ML h;rw[Tn];exact Qv true g m a s
def Fk:xH:=λq c _ e=>(q.l c e).bind λf=>some ⟨yS f.1,λg=>V3 (f.2 g)⟩
def G8:xH:=λq c _ e=>(q.e c e).bind λf=>some ⟨iV f.1,λg=>UR (f.2 g)⟩
noncomputable abbrev OJ(c:RC)(x:Str)(i:Nat):Prop:=c.N[i]?=some x/\(c.sc.names.lookup x=some .local\/c.sc.names.lookup x=some .cell)
def HU(c:RC)(x:Str):Option {i:Nat // OJ c x i}:=wh _ λh=>some ⟨c.N.idxOf x,h⟩
def IP(g:Good X c){i:Nat}(h:OJ c x i):X.N[i]?=some x/\∃k,c.sc.names.lookup x=some k/\(k=.local\/k=.cell):=by
 refine⟨by rw[g.N];exact h.1,?_⟩;rcases h.2 with l|l
 ·exact⟨_,l,.inl rfl⟩
 ·exact⟨_,l,.inr rfl⟩
def V7:IA:=λ_ c e=>Bh e λx _ h=>(HU c x).bind λi=>some ⟨aS i.1,λg=>by let⟨q,k,o,l⟩:=IP g i.2;exact h ▸ Ta g.S _ g.nd q o l⟩
abbrev LQ(c:RC)(es:List Expr):={r:List D->Loc->M Loc // ∀{X:Cx},Good X c->BP X es r/\(dX es X.env).length=es.length/\(dX es X.env).findIdx? (·.1)=none}
def Qie(g:rG e=true)(l:SG X e a)(h:BP X es b/\(dX es X.env).length=es.length/\(dX es X.env).findIdx? (·.1)=none):BP X (e::es) (cL a b)/\(dX (e::es) X.env).length=(e::es).length/\(dX (e::es) X.env).findIdx? (·.1)=none:=by
 let⟨q,o,d⟩:=h;let c:dX (e::es) X.env=(false,pf e X.env)::dX es X.env:=by cases e<;>first|rfl|exact nomatch g
 refine⟨Y1 l q (by rw[c];rfl),by rw[c];exact c_ (· + 1) o,?_⟩;rw[c,List.findIdx?_cons,d];rfl
def QL(q:tD)(c:RC):∀es:List Expr,Option (LQ c es)
 |[]=>some ⟨g8,λ_=>⟨S5,rfl,rfl⟩⟩|e::es=>wh (rG e=true) λh=>(q.g c e).bind λa=>(QL q c es).bind λb=>some ⟨cL a.1 b.1,λg=>Qie h (a.2 g) (b.2 g)⟩
def G4:IA:=λq c e=>IL e λes _ _ h=>(QL q c es).bind λf=>some ⟨gI es.length f.1,λg=>h ▸ UH g.S.calm (f.2 g).1 (f.2 g).2.1 (f.2 g).2.2⟩
def Gm:IA:=λq c e=>Db e λo i _ h=>wh (IV i=true) λz=>(q.e c o).bind λf=>(q.e c i).bind λk=>some ⟨kB f.1 k.1,λg=>h ▸ US g.hu (f.2 g) (k.2 g) (λv=>by cases i<;>first|rfl|exact nomatch z)⟩
def FN:we:=λq c e=>M0 e λo _ h=>oS o λa l=>(q.e c a).bind λf=>some ⟨dF f.1,λg=>h ▸ l ▸ ZM (f.2 g)⟩
def Fy:we:=λq c e=>TY e λa _ h=>wh (JE a=true) λz=>(q.e c a).bind λf=>some ⟨kH f.1,λg=>h ▸ Xg (f.2 g) (P4 z)⟩
def zX:we:=λ_ _ e=>uRs e λ_ _ _ h=>some ⟨BX,λ_=>h ▸ YL⟩
def KA:we:=λq c e=>Uy e λt a b _ h=>(q.t c t).bind λl=>(pd q c a).bind λu=>(pd q c b).bind λo=>some ⟨mr l.1 u.1 o.1,λg=>h ▸ XF (l.2 g) (u.2 g) (o.2 g)⟩
def Aw:we:=λq c e=>ZG e λt a b _ h=>v0 b λu=>(q.t c t).bind λl=>(pd q c a).bind λo=>some ⟨kK l.1 o.1,λg=>h ▸ u ▸ Vb g.ps (l.2 g) (o.2 g)⟩
def GC:we:=λq c e=>VQ e λtg l a b _ h=>v0 b λB=>wh (F7 l=true) λz=>(q.i c tg l).bind λo=>(q.g c tg).bind λu=>(pd q c a).bind λv=>some ⟨kg o.1 u.1 v.1,λg=>h ▸ B ▸ VH g.ps g.S.calm (o.2 g) (u.2 g) (v.2 g) (Lq z)⟩
def Li:we:=λq c e=>HX e λt a _ h=>Bh t λx _ l=>wh (JE a=true\/(c.top=true/\c.sc.names.lookup x=some .cell)) λz=>(HU c x).bind λi=>(q.e c a).bind λf=>some ⟨cn (aS i.1) f.1,λ{X}g=>by
 subst h l;let⟨l,k,C,B⟩:=IP g i.2;refine ZP g.S _ g.nd l C (f.2 g) B ?_;rcases z with u|⟨o,v⟩
 ·exact P4 u
 ·let e:(X.env.kindOf x == some dG.local)=false:=by rw[(g.kd o).2 x,v];rfl
  cases a<;>first|rfl|(unfold kM;simp only[e,Bool.and_false,tR])⟩
def T1(g:Good X c){sc:du}{p h:Pos}{n:Nat}(l:c.top=true)(q:c.sc.names.lookup y=some .local)(o:(h.line == p.line)=true)(u:(sc.names.any λz=>z.1 == y&&(z.2 == .local||z.2 == .cell))=false):kM (.ListComp e v sc p) (some (.Name y h)) n X.env=pure true:=by
 let C:(X.env.kindOf y == some dG.local)=true:=by rw[(g.kd l).2 y,q];rfl
 let B:(X.env.blockKind == u9)=true:=by rw[(g.kd l).1];rfl
 show (pure (X.env.blockKind == u9&&X.env.kindOf y == some dG.local&&h.line == p.line && !(sc.names.any λz=>z.1 == y&&(z.2 == .local||z.2 == .cell))):Sem Bool)=pure true;rw[C,B,o,u];rfl
def CD:we:=λq c s=>HX s λt a _ h=>Bh t λy v l=>(Fo q c a).bind λm=>wh (c.top=true/\c.sc.names.lookup y=some .local/\(v.line == m.p.line)=true/\(m.sc.names.any λz=>z.1 == y&&(z.2 == .local||z.2 == .cell))=false) λz=>(HU c y).bind λi=>some ⟨cn (aS i.1) (eR m.r),λg=>by subst h l;let⟨l,k,u,o⟩:=IP g i.2;let⟨x,tg,b,E,sc,p,rfl,ok,B,mg,mt,C⟩:=m;exact ZA g.nd l (g.S.loc _ _ u o).1 (g.S.loc _ _ u o).2 g.S.calm (PU g.S ok.1) (QW g.N ok.2.1) (B.2 g) (λfp s H=>⟨mg.2 (g.inn ok fp s H),mt.2 (g.inn ok fp s H),C.2 (g.inn ok fp s H)⟩) (T1 g z.1 z.2.1 z.2.2.1 z.2.2.2) (Lq ok.2.2.2)⟩
def Ed:we:=λq c s=>HX s λt a _ h=>Db t λo i p l=>(q.e c a).bind λf=>(q.g c (.Subscript o i p)).bind λk=>some ⟨cn k.1 f.1,λg=>by subst h l;exact Pg (f.2 g) (k.2 g) (by cases a<;>rfl) (by cases a<;>rfl) rfl⟩
noncomputable def Tk:Expr->Bool
 | .Tuple _ _ _=>false|_=>true
def G9:we:=λq c s=>HX s λt a _ h=>IL t λes n p l=>wh (Tk a=true) λz=>(q.e c a).bind λf=>(q.g c (.Tuple es n p)).bind λk=>some ⟨cn k.1 f.1,λg=>by subst h l;exact Pg (f.2 g) (k.2 g) (by cases a<;>rfl) (by cases a<;>first|rfl|exact nomatch z) rfl⟩
section
variable{P:Program}{w:bM}{K:ah}{mg:Str->Option ag}{base:bK}
variable(P w K mg base) in
def cN(l:List (Str×RF)):Prop:=∀x r,l.lookup x=some r->GF P w K mg base x r
def Xm:cN P w K mg base []:=λ_ _ h=>nomatch h
def GB{r:RF}(m:mg x=some (.ref f))(F:mI P w K mg base q_ r.k f c r.ps (mU K r.n r.g))(g:di K (.ref f)=true)(b:Binds K c r.ps [])(o:r.kw=true->EL K c r.ps)(h:cN P w K mg base l):cN P w K mg base ((x,r)::l):=λy s z=>by
 by_cases e:y=x
 ·subst e;rw[vY]at z;cases z;exact⟨f,c,m,F,g,b,o⟩
 ·rw[wT e]at z;exact h y s z
def Lp(K:ah)(mg:Str->Option ag)(base:bK)(x:Str)(f:ak)(g:dm):Prop:=∃c P,fR K cO x=some (some (.ref f))/\g.code=.ref c/\eB K c P=true/\BMod base mg
def Jr(R:mq)(j:Nat){k n m:Nat}{Z:List Str}{C:List (Str×D)}(F:yw K x x h f l)(S:mh N ps (bj h))(hn:ps.length=n)(hm:N.length=m)(hG:cN P w K mg base G) (hZ:∀x,Z.contains x=true->mg x=none) (hC:∀x d,C.lookup x=some d->∃v u,mg x=some u/\RelV v u/\∀ρ H,dE K ρ H v d)(hb:(pd (nQ R j) ⟨bj h,N,k,G,Z,C,H,true,W,T⟩ (cK h)).map (·.1)=some g) (hW:yX P w K mg base W) (hT:∀t,T=some t->t.2=x/\Lp K mg base x f l):mI P w K mg base q_ (k+1) f l ps (mU K n (bZ m g)):=
 have ⟨v,_,e⟩:=ck.mp hb
 QP F S hn hm λcdv A outer s Hp E o Y=>e ▸ v.2 ⟨HK,rfl,S.nd,Y,hG,hZ,hC,iJ,λ_=>⟨by show (if (bj h).kind.isAnnotationScope=true then _ else (bj h).kind)=_;rw[S.kind];rfl,λ_=>rfl⟩,hW,λt z=>by let⟨I,c,P,O,q,L,J⟩:=hT t z;let⟨oc,od,kV,doc,pm,an,B,ct,Q,e1,U,_⟩:=F.ex;rw[I];exact⟨f,_,l,c,P,O,U,rfl,q,L,by rw[<- q,o];rfl,rfl,J⟩⟩
end
end
section
variable{K:ah}{mg:Str->Option ag}
def vI(mg:Str->Option ag)(Z:List Str):Prop:=∀x,Z.contains x=true->mg x=none
def Hh:vI mg []:=λ_ h=>nomatch h
def C_(h:mg a=none)(t:vI mg l):vI mg (a::l):=λx z=>by
 rw[List.contains_cons,lI]at z;rcases z with z|z
 ·rw[beq_iff_eq.mp z];exact h
 ·exact t x z
def wJ(K:ah)(mg:Str->Option ag)(C:List (Str×D)):Prop:=∀x d,C.lookup x=some d->∃v u,mg x=some u/\RelV v u/\∀ρ H,dE K ρ H v d
def EO:wJ K mg []:=λ_ _ h=>nomatch h
end
section
def w9(h:ug x=true):x≠"__name__":=(A1 h).n
def Hg:lY:=rO "max" lA n0 λc _ g m a s=>Jf (Nf c) g m (by nofun) a (w9 (by nofun)) (by nofun) s
def Go:lY:=rO "all" lA wK λc _ g m a s=>Jf (Zb c) g m (by nofun) a (w9 (by nofun)) (by nofun) s
def GU:lY:=rO "any" lA wY λc _ g m a s=>Jf (Zd c) g m (by nofun) a (w9 (by nofun)) (by nofun) s
def FP:lY:=rO "tuple" lA lE λ_ _ g m a s=>Ur Qfn g m (by nofun) a (w9 (by nofun)) (by nofun) s
def Ae:lY:=wV "sorted" lA pC λ_ _ g m a s=>M7 U7 g m (by nofun) a (w9 (by nofun)) (by nofun) s
def KD:lY:=wV "len" lA gO λ_ _ g m a s=>M7 Qfk g m (by nofun) a (w9 (by nofun)) (by nofun) s
def Kq:lY:=wV "int" lA intD λ_ _ g m a s=>JV XM g m (by nofun) a (w9 (by nofun)) (by nofun) s
def BF:lY:=wV "tuple" lA tupleD λ_ _ g m a s=>JV Sf g m (by nofun) a (w9 (by nofun)) (by nofun) s
def BO:lY:=wV "list" (λc p=>c.tag p 5) qc λc _ g m a s=>JV (YJ c) g m (by nofun) a (w9 (by nofun)) (by nofun) s
def Hi:lY:=Kz "min" lA wu λc _ g m a b o l h=>U9 (Td c) g m (by nofun) a b (w9 (by nofun)) (by nofun) o l h
def Ax:lY:=Bc "append" e_ lA λ_ o a b f l s p=>Yy o a b f l s p
def JD:lY:=FS "pop" u7 λo b l=>Qf7 o b l
def Ar:lY:=Hk "setdefault" pN λu o a b bs f l g c p=>Qg2 u o a b bs f l g c p
end
section
variable{P:Program}{K:ah}{mg:Str->Option ag}
def FnAt(K:ah)(mg:Str->Option ag)(x:Str)(c:Stmt):Prop:=∃a g,yw K x x c a g/\mg x=some (.ref a)
def Jb{B kV C u o ct:ag}(X:K.In h)(G:h.Ns cO mg)(a:fR K cO x=some (some (.ref f)))(l:K.lookup f=some ⟨B,v,.func (cC x x (dO g) (cK g) (bj g) .none kV C u E o ct),q⟩) (c:gz K o x=true) (k:di K (.ref f)=true):FnAt K mg x g:=
 ⟨f,_,OB (st:=g) l c k,tm X G a⟩
noncomputable def rf(N P:List Str)(sc:du):Bool:=(sc.kind == .function)&&(sc.isCoroutine == false)&&(sc.isGenerator == false)&&decide N.Nodup&&(N.take P.length == P)&&(P.all λx=>sc.names.lookup x == some .local||sc.names.lookup x == some .cell)&&(sc.names.all λy=>y.2 != .free)
def DF{N P:List Str}(h:rf N P sc=true):mh N P sc:=by unfold rf at h;simp only[bv,beq_iff_eq,decide_eq_true_eq,dW,lI,bne_iff_ne,ne_eq]at h;obtain⟨⟨⟨⟨⟨⟨v,u⟩,q⟩,o⟩,l⟩,g⟩,c⟩:=h;exact⟨v,u,q,o,l,g,c⟩
def Oo(R:mq){k n m:Nat}(F:yw K x x g f h)(S:rf (ps++r) ps (bj g)=true)(q:(pd (nQ R 40) ⟨bj g,ps++r,k,G,Z,C,H,true,([],[]),none⟩ (cK g)).map (·.1)=some c) (v:cN P w K mg base G) (u:vI mg Z) (B:wJ K mg C) (l:ps.length=n) (o:(ps++r).length=m):mI P w K mg base q_ (k+1) f h ps (mU K n (bZ m c)):=
 Jr R 40 F (DF S) l o v u B q ⟨(λ_ _ z=>nomatch z),(λ_ _ z=>nomatch z)⟩ λ_ z=>nomatch z
def Lv(R:mq){k n m:Nat}(F:FnAt K mg x h)(S:rf (ps++r) ps (bj h)=true)(b:∀(kV c o:ag)(q:Option ak)(g ct:ag)(u:List ag),u.length=ps.length->gE (cC x x (dO h) (cK h) (bj h) .none kV c o q g ct) { pos:=u }=pure (ps.zip u))(J:v=true->∀(kV c o:ag)(q:Option ak)(g ct:ag)(s:am)(ws:List ag),ws.length=ps.length->sU s (cC x x (dO h) (cK h) (bj h) .none kV c o q g ct) ⟨[],ps.zip ws⟩ (ps.zip ws))(hb:(pd (nQ R 40) ⟨bj h,ps++r,k,G,Z,C,H,true,([],[]),none⟩ (cK h)).map (·.1)=some l) (E:cN P w K mg base G) (hZ:vI mg Z) (hC:wJ K mg C) (O:ps.length=n:=by rfl) (Q:(ps++r).length=m:=by rfl) (L:v=true->¬ ps.getLast?=some (az "most"):=by first|exact λz=>nomatch z|exact λ_=>by decide):cN P w K mg base ((x,⟨n,k+1,ps,v,bZ m l⟩)::G):=by
 let⟨f,fd,F,B⟩:=F;refine GB B (Oo R F S hb E hZ hC O Q) F.kp (F.binds b) (λz=>?_) E;let⟨oc,od,kV,c,o,q,g,ct,I,e,lk,Y⟩:=F.ex;unfold EL;rw[aD (L z)];intro s ws U;rw[e];exact J z kV c o q g ct s ws U
end
section
def EH:lY:=wV "max" lA (wL n0) λc _ g m a s=>M7 (Ny (Nf c)) g m (by nofun) a (w9 (by nofun)) (by nofun) s
end
section
variable{X:Cx}
def Qin{i:Nat}:∀G σ H,xf X.K (cn (aS i) (c2 uX (aq i) fa)) G σ H->G0 i (Au X.K fa) (RH λi j=>i+j) G σ H:=λG σ H J=>J.el λρ l st u sr p=>by
 let c:=p.bnd.bnd;unfold aq at c;cases e:l[i]? with|none=>rw[e]at c;exact c.elim|some o=>
  rw[e]at c;cases o with|none=>exact c.elim|some d=>
   let⟨v,L,r⟩:=u.2 i d e;let E:=c.ret sr;refine⟨v,L,ρ,l,st,u,sr,E.bnd.imp λy C ρ1 O B g q w h=>?_⟩;rcases yV (λa b=>ret (.int (a+b))) d y with ⟨a,b,rfl,rfl⟩|I
   ·exact⟨a,b,r.inv,h.inv,(q.ret g).bnd.ret g |>.ret g _ ((u.mono B).set i (.int _))⟩
   ·rw[show uX d y=bad from I]at q;exact q.elim
def Qio(S : Sc X sc)(i : Nat)(l : X.N.Nodup)(q : X.N[i]? = some x)(h : sc.names.lookup x = some k)(o : SE X e fa)(g : k = .local \/ k = .cell := by decide):
  SS X (.AugAssign (.Name x c) .Add e pos) (cn (aS i) (c2 uX (aq i) fa)):=(U8 l q (S.loc x k h g).1 o NY (S.loc x k h g).2).of Qin
end
def Hn:we:=λq c e=>Om e λt o a _ h=>Bh t λx _ l=>wh (o=.Add) λz=>(HU c x).bind λi=>(q.e c a).bind λf=>some ⟨cn (aS i.1) (c2 uX (aq i.1) f.1),λg=>by subst h l z;let⟨l,k,v,u⟩:=IP g i.2;exact Qio g.S _ g.nd l v (f.2 g) u⟩
section
variable{A:bI}{s:am}
def Zv{Q:List ag->am->Prop}{items:Array ag}(hh:A.handled=none)(h:s.heap.IsRevIter I l ((items.size:Int)-1))(Y:s.heap.IsList l items)(H:l≠I)(hn:items.size<=sizeLine)(hQ:∀(h':bK)(tk:Nat)(B:Array ag),(∀b o,b≠I->s.heap.get? b=some o->h'.get? b=some o)->D_ (λi v=>items[items.size-1-i]?=some v) B items.size->Q B.toList { s with heap:=h',toks:=tk }):aG (aY prog w) A (Br (.ref I)) Q E s:=by
 let hI:I < s.heap.objs.size:=let ⟨_,e,_⟩:=h;aL e
 let hL:l < s.heap.objs.size:=let ⟨_,e,_⟩:=Y;aL e
 unfold Br;refine ab (wpAny_runValue (eQ PySem.F.entry_proto_collect ?_));rw[c6 PySem.F.plain_proto_collect _]
 show aG _ A.in1 (newList [] >>= λl=>again (.builtin "list.__iadd__" ⟨[l,.ref I],[]⟩)) _ _ s;refine ab (b9 ?_);refine ai ⟨fm tV _,eQ PySem.F.entry_list_iadd ?_⟩;rw[c6 tV _];let hS₁:(s.heap.push { cls:=.type "list",data:=.seq ([]:List ag).toArray }).get? s.heap.objs.size=some { cls:=.type "list",data:=.seq ([]:List ag).toArray }:=ay _ rfl
 show aG _ A.in1 (pV (.ref s.heap.objs.size) (.ref I) (.ref s.heap.objs.size)) _ _ _;let c:(s.heap.push { cls:=.type "list",data:=.seq ([]:List ag).toArray }).IsRevIter I l ((items.size:Int)-1):=let ⟨o,e,x⟩:=h;⟨o,aj _ e,x⟩
 let J:(s.heap.push { cls:=.type "list",data:=.seq ([]:List ag).toArray }).IsList l items:=let ⟨o,e,x⟩:=Y;⟨o,aj _ e,x⟩
 let W:=Walks.listRev (prog:=prog) (w:=w) (A:=A.in1) hh I l H items;let L:s.heap.objs.size∉[I,l]:=by simp only[aR,cI,or_false,not_or];exact⟨dk hI,dk hL⟩
 let C:0<=items.size/\(s.heap.push { cls:=.type "list",data:=.seq ([]:List ag).toArray }).IsRevIter I l ((items.size:Int)-1-((0:Nat):Int))/\(s.heap.push { cls:=.type "list",data:=.seq ([]:List ag).toArray }).IsList l items:=⟨bU _,by rw[show (items.size:Int)-1-((0:Nat):Int)=(items.size:Int)-1 by ext];exact c,J⟩
 unfold pV;refine ab (gF c.typeIs ?_);let h1:qU (.ref s.heap.objs.size) (.ref I)=false:=by simp[qU,dk hI]
 rw[aD (by rw[h1];decide)];refine ab (qC c ?_);refine ab (bV (Y3 c.typeIs ?_));rw[aD (by decide)];refine ai ⟨fm PySem.F.plain_extend_loop _,codeAny_extend_loopS W.toS hn _ L _ items.size 0 _ _ _ rfl (bU _) C hS₁ (D_.nil _) λG u c' U O q=>?_⟩
 show aG _ A (load s.heap.objs.size >>= _) _ _ G;refine ab (wpAny_load O ?_);rw[Moved.eq_with U];refine ai (hQ G.heap G.toks u (λb o hb e=>U.heap b o (λg=>?_) (aj _ e)) q);rcases aR.mp g with e'|g
 ·exact ba (aL e) e'
 ·exact hb (aA.mp g)
def WI{Q₁:ag->am->Prop}{items:Array ag}(hh:A.handled=none)(q:s.heap.IsRevIter I l ((items.size:Int)-1))(O:s.heap.IsList l items)(B:l≠I)(hsz:items.size<=sizeLine)(h:∀(h':bK)(u:Nat)(c:Array ag),(∀b o,b≠I->s.heap.get? b=some o->h'.get? b=some o)->D_ (λi v=>items[items.size-1-i]?=some v) c items.size->Q₁ (.ref h'.objs.size) { s with heap:=h'.push { cls:=.type "tuple",data:=.seq c },toks:=u }):iG (aY prog w) A (.call (.builtin "tuple.__new__") ⟨[.type "tuple",.ref I],[]⟩) (wants Q₁ E) s:=by
 refine codeAny_of_tree ?_
 show aG _ A.in1 (do checkBuiltinCall "tuple.__new__" ⟨[.type "tuple",.ref I],[]⟩;again (.builtin "tuple.__new__" ⟨[.type "tuple",.ref I],[]⟩)) _ _ s;refine ab (nX (PySem.F.newCall_tuple_1 _) (ai ⟨fm tW _,eQ PySem.F.entry_tuple_new ?_⟩));rw[c6 tW _];let H:=sub_tuple_self;let C:=init_tuple_lookup;let J:=madeHere_tuple;let G:=q.typeIs
 wp_walk using gF G,Zv (A:=A.in1) hh q O B hsz
 intro h' u c L g
 show aG _ _ (e8 c.toList.toArray >>= λv=>PySem.ret v) _ _ _;unfold e8;refine ab (b9 ?_ (by show c.toList.toArray.size<=sizeLine;simp only[Array.toArray_toList];rw[g.1];exact hsz));refine ai ?_;let e:c.toList.toArray=c:=by simp
 rw[e];exact h h' u c L g
def Tu{Q:ag->am->Prop}{items:Array ag}(hh:A.handled=none)(u:s.heap.IsRevIter I l ((items.size:Int)-1))(C:s.heap.IsList l items)(q:l≠I)(hsz:items.size<=sizeLine)(G:∀(h':bK)(h:Nat)(c:Array ag),(∀b o,b≠I->s.heap.get? b=some o->h'.get? b=some o)->D_ (λi v=>items[items.size-1-i]?=some v) c items.size->Q (.ref h'.objs.size) { s with heap:=h'.push { cls:=.type "tuple",data:=.seq c },toks:=h }):aG (aY prog w) A (call (.type "tuple") [.ref I]) Q E s:=by
 refine vZ (Q₁:=λobj s₁=>s₁.TypeIs obj "tuple"/\Q obj s₁) PySem.F.called_tuple (PySem.F.typeCall_tuple_1 _) PySem.F.entry_object_init
  (WI hh u C q hsz λh' h c B g=>⟨⟨_,ay _ rfl,rfl⟩,G h' h c B g⟩) λobj s₁ h₁=>?_
 exact⟨h₁.1,PySem.F.args_object_init_2 obj _,object_init_meets PySem.F.called_tuple.init.lookup PySem.F.called_tuple.made (by decide) prog w A.in1 _ s₁ ⟨h₁.1,rfl,h₁.2⟩⟩
end
section
variable{X:Cx}{a b c e o tg:Expr}{K:ah}{st:aZ}
def YT(hc:X.calm=true)(hg:Gl X "tuple")(hm:X.mg "tuple"=none)(hv:cZ "tuple"=some (.type "tuple"))(Y:Gl X "reversed")(O:X.mg "reversed"=none)(L:cZ "reversed"=some (.type "reversed"))(ha:PE X e te)(he:starEach [e] X.env=[(false,eval e X.env)]:=by rfl) (v:starEach [.Call (.Name "reversed" p') [e] [] a9] X.env=[(false,eval (.Call (.Name "reversed" p') [e] [] a9) X.env)]:=by rfl):
  PE X (.Call (.Name "tuple" p) [.Call (.Name "reversed" p') [e] [] a9] [] pos) (λσ H Q=>te σ H λx C=>∃a xs,x=.ref a/\gS X.K C a xs/\∀q,C q=none->Q (.ref q) (fE C q (.tup xs.reverse))):=by
 intro g s σ H Q I h;refine dJ (xF I hg hm hv ?_ (by decide) (by decide));refine cw ?_ v rfl;rw[v]
 show aG _ _ (sS [(false,eval (.Call (.Name "reversed" p') [e] [] a9) X.env)]) _ _ s;refine g9 ?_;refine dJ (xF I Y O L ?_ (by decide) (by decide));refine cw ?_ he rfl;rw[he]
 show aG _ _ (sS [(false,eval e X.env)]) _ _ s;refine g9 (fT (ha g s σ H _ I h) λu G ⟨x,C,c,r1,a,xs,ex,hx,q⟩=>ip ?_);subst ex;cases r1;let⟨its,rv,J,hz⟩:=c.list hx;let hlen:=rv.length;refine Dq J.isList (ip ?_);let U:a < G.heap.objs.size:=let ⟨_,e,_⟩:=J.isList;aL e
 refine Tu (l:=a) (items:=its.toArray) (c.ok.hd hc) ⟨_,ay _ rfl,rfl,rfl⟩ (let ⟨o,e,x⟩:=J.isList;⟨o,aj _ e,x⟩) (ba U) (by simp only[aI];ext) λh' E acc hk B=>?_;rw[WR B];let kp:∀b u,G.heap.get? b=some u->h'.get? b=some u:=λb u e=>hk b u (ba (aL e)) (aj _ e);let I2:Inv X g σ C { G with heap:=h',toks:=E }:=c.kept (t':=E) kp;exact⟨.ref _,_,I2.laid (t':=E) (o:=.tup xs.reverse) (λb o e=>aj _ e) (aw _) (show gp X.prog X.w _ _ _ (.tup xs.reverse) from ⟨by rw[gG];exact hz,its.reverse,rv.reverse,kJ.new _ _⟩),rfl,q _ (I2.hok.fresh (aw _))⟩
def VY(hc:X.calm=true)(hg:Gl X "tuple")(hm:X.mg "tuple"=none)(C:cZ "tuple"=some (.type "tuple"))(I:Gl X "reversed")(G:X.mg "reversed"=none)(B:cZ "reversed"=some (.type "reversed"))(g:SE X e fa)(he:starEach [e] X.env=[(false,eval e X.env)]:=by rfl) (J:starEach [.Call (.Name "reversed" p') [e] [] a9] X.env=[(false,eval (.Call (.Name "reversed" p') [e] [] a9) X.env)]:=by rfl):
  SE X (.Call (.Name "tuple" p) [.Call (.Name "reversed" p') [e] [] a9] [] pos) (c1 sq fa):=
 (YT hc hg hm C I G B g he J).of λσ H Q h_=>h_.el λρ l st o sr p=>⟨ρ,l,st,o,sr,p.bnd.imp λd U ρ1 H1 x1 u L v Y=>by
  cases d with
  |ref n=>
   let⟨a,rfl,_,h⟩:=Y.inv;let⟨ds,e2,c⟩:=aT.getL (aT.bnd L) u;let⟨a',O,g,C,r⟩:=u.seq e2;rw[h]at g;cases g;exact⟨a,O,rfl,gS.of C,λq E=>c ρ1 _ (Ex.new E) (u.new E) _ (.tup (ml.of kL) ((bW.rev r).mono (Ex.new E)))⟩
  |_=>exact L.elim⟩
end
def zU:lY:=MH "tuple" "reversed" lA sq λc _ g m l h a s=>VY c g m (by nofun) l h (by nofun) a s rfl
section
def ZH(ha:SE X a fa)(B:SE X b fb):SE X (.Dict [some a] [b] pos) (rQ fa fb):=by
 refine (YS (Tb ha B R8) rfl rfl nofun (by simp)).of λσ H Q E q I=>?_;let⟨ρ,l,st,lr,sr,p⟩:=E;let hn:=sr.fresh I;let O:Ex ρ H ρ (fE H q (.dK [])):=Ex.new I;refine⟨ρ,l,st,lr.mono O,sr.new I,(p.bnd0.left O).imp λk cp ρ1 H1 Y s1 p1 v rv=>⟨ρ1,l,cp,(lr.mono O).mono Y,s1,(p1.bnd0.left (O.trans Y)).imp λd C ρ2 L U h p2 w rw'=>?_⟩⟩;cases k with
 |int i=>
  cases (show v=.int i from rv.inv);let g:=Y.trans U;let G:L q=some (.dK []):=g.oth q _ hn kL;refine⟨G,[(.inl i,w)],rfl,by simp,?_⟩;let ne:∀b o,H b=some o->b≠q:=λb o e z=>by rw[z,I]at e;cases e
  let J:q∉ρ2:=by
   let⟨τ,e,f⟩:=g.pre;rw[e];intro z;rcases aP.mp z with z|z
   ·exact hn z
   ·have:=f q z;rw[kL]at this;cases this
  let up:Up ρ2 L ρ2 (fE L q (.dK (mJ [] [(.inl i,w)]))):=by
   refine⟨⟨[],by simp⟩,λc o no w=>?_,λc o w=>?_⟩
   ·rw[fS λz=>by subst z;rw[G]at w;cases w;exact nomatch no];exact w
   ·by_cases z:c=q
    ·subst z;rw[G]at w;cases w;exact⟨_,kL,rfl⟩
    ·exact⟨o,by rw[fS z];exact w,rfl⟩
  let s2:SR X.K ρ2 (fE L q (.dK (mJ [] [(.inl i,w)]))) C:=⟨h.len,h.nd,λn b o e1 e2=>n9.mono (o:=o) up (h.ob n b o e1 e2) λu w=>by rw[fS (λ(z:b=q)=>J (by rw[<- z];exact ax e1))];exact w⟩
  let x2:Ex ρ H (ρ2++[q]) (fE L q (.dK (mJ [] [(.inl i,w)]))):=by
   let⟨τ,e,f⟩:=g.pre;refine⟨⟨τ++[q],by rw[e,br],λb B=>?_⟩,λb o no e=>?_,λb o nb e=>?_,λb o e=>?_⟩
   ·rcases aP.mp B with B|B
    ·let z:=f b B;by_cases w:b=q
     ·subst w;exact I
     ·rw[fS w]at z;exact z
    ·rw[aA]at B;rw[B];exact I
   ·rw[fS (ne b o e)];exact g.fix b o no (by rw[fS (ne b o e)];exact e)
   ·rw[fS (ne b o e)];exact g.oth b o nb (by rw[fS (ne b o e)];exact e)
   ·let⟨o',h,c⟩:=g.knd b o (by rw[fS (ne b o e)];exact e);exact⟨o',by rw[fS (ne b o e)];exact h,c⟩
  let p3:∀ρ' H',Ex ρ H ρ' H'->SR X.K ρ' H' (C++[.dct false (tJ [] (([.inl i].map pD).zip [d]))])->∀v,dE X.K ρ' H' v (.dic C.length)->Q v H':=p2;refine p3 _ _ x2 (s2.keepO J ⟨_,kL,KR.merge (KR.zip (ks:=[.inl i]) (bW.cons (rw'.up up) .nil)) .nil⟩) _ (.dic ⟨_,kL,.inl rfl⟩ ?_);rw[<- h.len];simp
 |_=>exact p2.elim
end
def BU:lY:=λq c e=>NW e λks u _ h=>v1 ks λa E=>oS a λk C=>v1 u λv B=>(q.e c k).bind λo=>(q.e c v).bind λl=>some ⟨rQ o.1 l.1,λg=>by subst h E C B;exact ZH (o.2 g) (l.2 g)⟩
end MM
namespace PySem.SeqAt
open AutoSeq1 (wpAny_loadPart')
open MeetsSeq MeetsSeq2 MeetsSeq3 SeqRoads2
end PySem.SeqAt
namespace MM
open PySem PySem.Spec PyProof.Rows L2
noncomputable def Cb(prog:Program)(w:bM)(A:bI)(op:uB)(P:Nat->ag->Prop)(Kp:bK->Prop)(c:Nat->Nat->Bool):Prop:=
 ∀i j vi vj(s:am)(Q:ag->am->Prop)(E:ag->am->Prop),Kp s.heap->P i vi->P j vj->Q (.bool (c i j)) s->aG (aY prog w) A (richCompare op vi vj) Q E s
section
variable{K:ah}{st:aZ}
def NF{n:Nat}{Q:Unit->am->Prop}{A:bI}(hu:A.units+2 < cS)(I:Inv X ar σ H s)(sr:SR X.K ρ H st)(ha:ρ[n]?=some a)(Y:st[n]?=some (.dct true g))(O:dE X.K ρ H y k) (hk:oY true k=true) (hl:g.length < sizeLine) (rv:dE X.K ρ H v d) (ry:RelV y u) (rr:RelV v U)(h:∀G J,Inv X ar σ G J->SR X.K ρ G (st.set n (.dct true (mK g k d)))->Ex ρ H ρ G->Q Unit.unit J):aG (aY X.prog X.w) A (D5 a u U) Q E s:=by
 let B:=(ac.mp Y).1;let⟨es,e,r⟩:=sr.ob n a _ ha Y;let⟨k,rfl⟩:=EY hk;let⟨_,hd,xs,L,dd,de⟩:=zB I e r;let⟨c,e2,e3,hc⟩:=BH I O ry;subst e2 e3;let up:Up ρ H ρ (fE H a (kI a (putN es k c v))):=by
  refine⟨⟨[],by simp⟩,λc o no q=>?_,λc o q=>?_⟩
  ·rw[fS λz=>by subst z;rw[e]at q;cases q;exact nomatch no];exact q
  ·by_cases z:c=a
   ·subst z;rw[e]at q;cases q;exact⟨_,kL,rfl⟩
   ·exact⟨o,by rw[fS z];exact q,rfl⟩
 let w:=sr.putO (o':=.dct true (mK g (sF k) d)) (u':=kI a (putN es k c v)) B ha e (by show (2:Nat)≠3;decide) rfl ⟨_,kL,(NR.put r k c O rv).up up⟩;let hz:xs.length<=sizeLine:=by rw[<- cV L,NR.length r];ext
 refine Q_ (knd:=AG X) (show A.units+1 < cS by ext) hc dd de hz λh' l C hs=>h _ _ ?_ w.1 w.2;let he:∃q,h'.get? a=some q:=let ⟨q,_,_,hq,_⟩:=l;⟨q,hq⟩
 refine DY I (by rw[e];exact gi) hs he (Dx ?_ hd (NX.put L k c rr) l C);have:=KG es k c v;rw[NR.length r]at this;ext
end
section
def WH{β:Type}(e:Expr)(k:∀a b s p,e=.Lambda a b s p->Option β):Option β:=match e,k with| .Lambda a b s p,k=>k a b s p rfl|_,_=>none
def XC{a:iB}(h:a.defaults.isEmpty=true/\a.kw_defaults.isEmpty=true):Dp a env=([],[]):=by let⟨a1,v,u,q,c,o,d⟩:=a;let⟨l,g⟩:=h;obtain rfl:d=[]:=iK.mp l;obtain rfl:c=[]:=iK.mp g;rfl
def VM{sc:du}(h:sc.names.all (λy=>y.2 != .free)=true):ny sc env=pure []:=by
 let z:∀x,(x,bG)∈sc.names->False:=λx g=>by have:=dW.mp h _ g;simp at this
 rw[MR λx g=>(z x g).elim];congr 1;have:∀(l:List (Str×dG))(c:List (Str×ak)),(∀x,(x,bG)∉l)->iT l env.cells c=c:=λl=>by
  induction l with|nil=>exact λ_ _=>rfl|cons y l ih=>
   intro c o;let⟨n,k⟩:=y;unfold iT;let q:(k == bG)=false:=by
    rw[beq_eq_false_iff_ne]
    rintro rfl
    exact o n (.head _)
   simp only[q,aK,if_false];exact ih c λx g=>o x (.tail _ g)
 exact this _ _ λx g=>z x g
def KY:lY:=λ_ c e=>WH e λa b s p h=>oS c.T λt l=>wh ((a.defaults.isEmpty=true/\a.kw_defaults.isEmpty=true)/\s.names.all (λy=>y.2 != .free)=true) λz=>some ⟨vx t.1 t.2 (.Lambda a b s p),λg=>h ▸ UE (g.T t l) (XC z.1) (VM z.2)⟩
def C0:lY:=λq c e=>DU e λx p u _ h=>vC u λa u B=>(Fi c x).bind λi=>wh ((c.W.1.all λr=>decide (r.2.k<=c.k))=true/\(c.W.2.all λr=>decide (r.2.k<=c.k))=true) λz=>(wO q c (a::u)).bind λv=>some ⟨qj c.W (aq i.1) v.1,λg=>by subst h B;let⟨x,y,l⟩:=v.2;rw[cE,bv]at y;exact QhR (λe r o=>⟨g.W.1 e r o,g.hr.mono (of_decide_eq_true (dW.mp z.1 _ o))⟩) (λe r o=>⟨g.W.2 e r o,g.hr.mono (of_decide_eq_true (dW.mp z.2 _ o))⟩) (Pw g i.2) (x g) (rJ y.1) (CV y.2)⟩
end
def GW(e:Expr):iB:=match e with| .Lambda a _ _ _=>a|_=>{ posonlyargs:=[],args:=[],vararg:=none,kwonlyargs:=[],kw_defaults:=[],kwarg:=none,defaults:=[] }
def CH(e:Expr):Expr:=match e with| .Lambda _ b _ _=>b|e=>e
def wU(e:Expr):du:=match e with| .Lambda _ _ s _=>s|_=>{ kind:=.function,names:=[],isGenerator:=false,isCoroutine:=false }
def Gu(e:Expr):Pos:=match e with| .Lambda _ _ _ p=>p|_=>⟨0,0,0,0⟩
def KO(s:Stmt):Expr:=match s with| .Return (some e) _=>e| .Assign _ e _=>e|_=>.Name "" ⟨0,0,0,0⟩
def Cw(n:Nat)(e:Expr):Expr:=match e with| .Call _ as _ _=>as.getD n e| .BinOp a _ b _=>if n=0 then a else b|_=>e
section
variable{P:Program}{K:ah}{mg:Str->Option ag}
def Fp:yX P w K mg base ([],[]):=⟨(λ_ _ z=>nomatch z),(λ_ _ z=>nomatch z)⟩
def U3{r:RL}(h:tB P w K mg base r.k r.n e r.g)(t:yX P w K mg base W):yX P w K mg base ((e,r)::W.1,W.2):=⟨λg c z=>by
 rcases aR.mp z with z|z
 ·cases z;exact h
 ·exact t.1 g c z,t.2⟩
def Us{r:RK}(h:tK P w K mg base r.k r.n c r.g)(t:yX P w K mg base W):yX P w K mg base (W.1,(c,r)::W.2):=⟨t.1,λl g z=>by
 rcases aR.mp z with z|z
 ·cases z;exact h
 ·exact t.2 l g z⟩
def Vw(R:mq){k n m:Nat}(I:e=.Lambda (GW e) (CH e) (wU e) (Gu e))(S:rf (nm++r) nm (wU e)=true)(J:∀(q:Str)(l c ct:ag)(g:List ag),g.length=nm.length->gE (oo "<lambda>" q (GW e) (CH e) (wU e) [] l c ct) ⟨g,[]⟩=pure (nm.zip g))(E:((nQ R 40).e ⟨wU e,nm++r,k,G,Z,C,H,true,W,none⟩ (CH e)).map (·.1)=some f) (Q:cN P w K mg base G) (L:vI mg Z) (U:wJ K mg C) (O:yX P w K mg base W) (u:nm.length=n:=by rfl) (B:(nm++r).length=m:=by rfl):
  tB P w K mg base (k+1) n e (vK m f):=by
 subst u;let h:=DF S;let⟨v,_,Y⟩:=ck.mp E;have:=Wh (pos:=Gu e) h B J λq a' c A outer s' Hp o=>Y ▸ v.2 ⟨HK,rfl,h.nd,o,Q,L,U,iJ,λ_=>⟨by show (if (wU e).kind.isAnnotationScope=true then _ else (wU e).kind)=_;rw[h.kind];rfl,λ_=>rfl⟩,O,λ_ z=>nomatch z⟩;rw[<- I]at this;exact this
def V2(R:mq){k n m:Nat}(F:FnAt K mg x g)(S:rf (ps++r) ps (bj g)=true)(b:∀(kV o v:ag)(Q:Option ak)(q ct:ag)(h:List ag),h.length=ps.length->gE (cC x x (dO g) (cK g) (bj g) .none kV o v Q q ct) { pos:=h }=pure (ps.zip h))(I:(pd (nQ R 40) ⟨bj g,ps++r,k,G,Z,C,H,true,W,none⟩ (cK g)).map (·.1)=some c) (u:cN P w K mg base G) (J:vI mg Z) (O:wJ K mg C) (L:yX P w K mg base W) (B:ps.length=n:=by rfl) (E:(ps++r).length=m:=by rfl):cN P w K mg base ((x,⟨n,k+1,ps,false,bZ m c⟩)::G):=by
 let⟨f,U,F,l⟩:=F;exact GB l (Jr R 40 F (DF S) B E u J O I L λ_ z=>nomatch z) F.kp (F.binds b) nofun u
noncomputable def uZ(K:ah)(mg:Str->Option ag)(x:Str)(h:Stmt):Prop:=∃a g c P,yw K x x h a g/\mg x=some (.ref a)/\fR K cO x=some (some (.ref a))/\g.code=.ref c/\eB K c P=true
def ZK(R:mq){j k n m:Nat}(F:uZ K mg x h)(S:rf (ps++r) ps (bj h)=true)(b:∀(kV q B:ag)(an:Option ak)(u ct:ag)(l:List ag),l.length=ps.length->gE (cC x x (dO h) (cK h) (bj h) .none kV q B an u ct) { pos:=l }=pure (ps.zip l))(J:(pd (nQ R 40) ⟨bj h,ps++r,k,G,Z,C,H,true,([],[]),some (j,x)⟩ (cK h)).map (·.1)=some g) (v:cN P w K mg base G) (L:vI mg Z) (O:wJ K mg C) (Q:BMod base mg) (E:ps.length=n:=by rfl) (I:(ps++r).length=m:=by rfl):cN P w K mg base ((x,⟨n,k+1,ps,false,bZ m g⟩)::G):=by
 let⟨f,fd,c,P',F,o,h1,Y,U⟩:=F;exact GB o (Jr R 40 F (DF S) E I v L O J Fp λt z=>by cases z;exact⟨rfl,c,P',h1,Y,U,Q⟩) F.kp (F.binds b) nofun v
end
def Bj{K:ah}{v kV E q ct:ag}(X:K.In h)(G:h.Ns cO mg)(a:fR K cO x=some (some (.ref f)))(l:K.lookup f=some ⟨v,u,.func (cC x x (dO g) (cK g) (bj g) .none kV E q H (.ref c) ct),o⟩) (C:gz K (.ref c) x=true) (k:di K (.ref f)=true) (B:eB K c P=true):uZ K mg x g:=
 ⟨f,_,c,P,OB (st:=g) l C k,tm X G a,a,rfl,B⟩
def BJ{K:ah}(g:fR K cO x=some (some (.ref f)))(l:K.lookup f=some ⟨v,u,.func o,q⟩)(B:o.code=.ref c)(h:eB K c P=true)(n:K.lookup P=none):TabOf K x P/\K.lookup P=none:=
 ⟨⟨f,_,o,c,g,l,rfl,B,h⟩,n⟩
def QiF{K:ah}{k:Nat}{s₁:am}{L:List ag}{ts:List (ak×Str×Str)}(KX:K.In s₁.heap) (hns:s₁.heap.Ns cO mg) (I:s₁.heap.Ns nv mb) (hbb:∀x:Str,x≠"__name__"->mb x=cZ x) (hlim:s₁.heap.NoLimit) (hg:s₁.gens=#[]) (hB:BMod s₁.heap mg)(hnd:(ts.map (·.1)).Nodup) (G:∀p∈ts,s₁.heap.get? p.1=some (eS #[])/\TabOf K p.2.1 p.1/\K.lookup p.1=none)(ha:s₁.heap.get? a=some { cls:=.type "list",data:=.seq L.toArray }) (hi:lU L U) (hl:U.length<=sizeLine) (hr:iw k lW)(F:∀base:bK,BMod base mg->mI P w K mg base q_ k fa fd [x] (mU K 1 g)) (hbind:∀(s:am)(u:ag),sU s fd ⟨[u],[]⟩ [(x,u)])(hsp:∃st',g [.lit (U.map D.int)] (ts.map λp=>.tbl p.2.1 p.2.2)=.ok (.bl true) st'):iG (aY P w) lW (.call (.ref fa) ⟨[.ref a],[]⟩) (λr E=>r=.ok (.ret (.bool true))/\OldK s₁.heap E.heap/\E.os=s₁.os/\lT E.gens) s₁:=by
 let rv:=J_ hi;let lenV:=hi.length;let nT:∀b∈ts.map (·.1),s₁.heap.get? b=some (eS #[])/\K.lookup b=none:=λb I=>by let⟨p,Y,rfl⟩:=bH.mp I;exact⟨(G p Y).1,(G p Y).2.2⟩
 let naT:a∉ts.map (·.1):=λz=>by have:=(nT a z).1;rw[ha]at this;cases this
 let J : ∀S : Option HO, (S = none \/ ∃o, S = some (.frz o (.lst (U.map V.int))) /\ o = { cls := .type "list", data := .seq L.toArray }) -> (S ≠ none -> K.lookup a = none) -> ∀H : Hp, (H = λb => if b = a then S else if b ∈ ts.map (·.1) then some (.tbl #[]) else none) -> zA K H a (U.map V.int) ->
   iG (aY P w) lW (.call (.ref fa) ⟨[.ref a],[]⟩) (λr E=>r=.ok (.ret (.bool true))/\OldK s₁.heap E.heap/\E.os=s₁.os/\lT E.gens) s₁:=by
  intro S hS hK H eH fz;let eA:H a=S:=by rw[eH];exact aH rfl
  let eT:∀b∈ts.map (·.1),H b=some (.tbl #[]):=λb I=>by
   rw[eH]
   show (if b=a then S else if b∈ts.map (·.1) then some (.tbl #[]) else none)=_;let nz:¬ b=a:=λz=>naT (z ▸ I);rw[aD nz,aH I]
  let eN:∀b,b≠a->b∉ts.map (·.1)->H b=none:=λb C B=>by
   rw[eH]
   show (if b=a then S else if b∈ts.map (·.1) then some (.tbl #[]) else none)=_;rw[aD C,aD B]
  let hok:nN P w H s₁.heap:=λb u e=>by
   by_cases C:b=a
   ·subst C;rw[eA]at e;rcases hS with z|⟨o,z,zo⟩
    ·rw[z]at e;cases e
    ·rw[z]at e;cases e;subst zo;exact⟨ha,by rw[af];exact hl,L,_,rv,ha⟩
   ·by_cases B:b∈ts.map (·.1)
    ·rw[eT b B]at e;cases e;exact (nT b B).1
    ·rw[eN b C B]at e;cases e
  let no:∀{b:ak}{o:Obj},s₁.heap.get? b=some o->o≠{ cls:=.type "list",data:=.seq L.toArray }->o≠eS #[]->H b=none:=λ{b o}e n1 n2=>eN b (λz=>by subst z;rw[ha]at e;exact n1 (aM e).symm) λz=>by have:=(nT b z).1;rw[e]at this;exact n2 (aM this)
  let noD:∀{b:ak}{o:Obj}{es:Array kP}{ep:Nat},s₁.heap.get? b=some o->o.data=.dict es ep->H b=none:=λe d=>no e (λz=>by subst z;cases d) λz=>by subst z;cases d
  let l:∀{b:ak}{o:Obj},s₁.heap.get? b=some o->H b=none->(pc s₁.heap H).get? b=some o:=λe n=>RM e n;let Q:∀{b:ak}{m:Str->Option ag},s₁.heap.Ns b m->(pc s₁.heap H).Ns b m:=λ{b m}O=>by let⟨o,es,ep,e,d,r⟩:=O;exact⟨o,es,ep,l e (noD e d),d,r⟩
  let hKb:K.In (pc s₁.heap H):=λb o e=>l (KX b o e) (by
   by_cases C:b=a
   ·subst C;rw[eA];rcases hS with z|⟨o',z,_⟩
    ·exact z
    ·rw[hK (by rw[z];simp)]at e;cases e
   ·exact eN b C λB=>by rw[(nT b B).2]at e;cases e)
  let hM:Mod K mg (pc s₁.heap H):=⟨hKb,Q hns,⟨mb,Q I,hbb⟩,let ⟨mc,C,B⟩:=hlim;⟨mc,Q C,B⟩⟩
  let hBb:BMod (pc s₁.heap H) mg:=by let⟨bm,ob,C,B,h3,h4,h5,h6⟩:=hB;exact⟨bm,ob,C,B,l h3 (no h3 (λz=>by subst z;cases h6) λz=>by subst z;cases h6),h4,h5,h6⟩
  let e0:r_ P w K mg (pc s₁.heap H) lW [] s₁ H:=⟨rfl,hM,λb o e=>Rh e,Hv (NG _ _),trivial,λb I=>bh (show b∈([]:List ak) from I) (by simp),hok,.of_eq hg⟩
  let sr:SR K (ts.map (·.1)) H (ts.map λp=>.tbl p.2.1 p.2.2):=⟨by simp,hnd,λn b o e1 e2=>by
   rw[av]at e1 e2;cases e:ts[n]? with|none=>rw[e]at e1;cases e1|some p=>
    rw[e]at e1 e2;cases e1;cases e2;let Y:=ax e;exact⟨(G p Y).2.1,#[],eT _ (iR Y),trivial,λ_ _ z=>by cases z⟩⟩
  let⟨st',est⟩:=hsp;let sp:mU K 1 g [.ref a] H (λv _=>v=.bl true) E0:=⟨rfl,_,_,_,sr,.cons (.lit fz (O1 U)) .nil,by rw[est];intro ρ' H' _ _ v rv;cases rv;rfl⟩
  refine lc ((F _ hBb).run lW [] s₁ H ⟨[.ref a],[]⟩ [.ref a] [.ref a] _ _ hr e0 (hbind s₁ (.ref a)) (.cons rfl .nil) sp) λr E h=>?_;cases r with|error e=>exact h.elim|ok fl=>
   cases fl with|next=>exact c9 h|brk=>exact c9 h|cont=>exact c9 h|ret u=>
    let⟨v,H',os,bare,un,hok',r',q⟩:=h;let q':v=.bl true:=q;subst q';obtain rfl:u=dB true:=r';let all:∀b o,s₁.heap.get? b=some o->E.heap.get? b=some o\/(b∈ts.map (·.1)/\o=eS #[]/\∃more,E.heap.get? b=some (eS more)):=λb o e=>by
     by_cases C:b=a
     ·subst C;rcases hS with z|⟨o',z,zo⟩
      ·exact .inl (un.keep b o e (eA.trans z) (by intro z;exact bh (show b∈([]:List ak) from z) (by simp)) (by simp))
      ·let z2:=un.frzs b o' _ (eA.trans z);let⟨e2,_⟩:=hok' b _ z2;rw[ha]at e;cases e;subst zo;exact .inl e2
     ·by_cases B:b∈ts.map (·.1)
      ·let⟨more,z2⟩:=un.tbls b #[] (eT b B);have:=(nT b B).1;rw[e]at this;exact .inr ⟨B,aM this,_,hok' b _ z2⟩
      ·exact .inl (un.keep b o e (eN b C B) (by intro z;exact bh (show b∈([]:List ak) from z) (by simp)) (by simp))
    refine⟨rfl,⟨λb o e=>?_,λb o e=>?_⟩,os,bare⟩
    ·rcases all b o e with z|⟨B,rfl,more,z⟩
     ·exact .inl z
     ·let⟨p,Y,rfl⟩:=bH.mp B;let⟨l,o',h,c,_,_,_,_,g⟩:=(G p Y).2.1;exact .inr (.inl ⟨((oT KX g).tab e).isCodeTable,rfl,#[],more,rfl,by rw[z];simp⟩)
    ·rcases all b o e with z|⟨_,_,more,z⟩
     ·exact⟨_,z⟩
     ·exact⟨_,z⟩
 cases hk:K.lookup a with
 |some o=>
  let e:=KX a o hk;rw[ha]at e;cases e;exact J none (.inl rfl) (λz=>bh rfl z) _ rfl (.inr ⟨_,L.toArray,_,hk,rfl,rfl,rfl,by rw[aI,lenV];exact hl,by simpa using rv⟩)
 |none=>exact J (some (.frz { cls:=.type "list",data:=.seq L.toArray } (.lst (U.map V.int)))) (.inr ⟨_,rfl,rfl⟩) (λ_=>hk) _ rfl (.inl ⟨_,aH rfl⟩)
def Wr{l:xX}{n k:Nat}{YP:bM->bK->Prop}{d:DefRec}{K:Params->ah}(ts:List (ak×Str×Str))(hn:l.most=some n) (Q:n<=sizeLine) (hdf:d.params.defaults=[]) (hr:iw k lW) (hY:∀(w:bM)(h:bK),YP w h->(K w.params).In h/\∀P∈ts.map (·.1),h.get? P=some (eS #[])) (O:(ts.map (·.1)).Nodup)(J:∀(w:bM),∀p∈ts,TabOf (K w.params) p.2.1 p.1/\(K w.params).lookup p.1=none)(F:∀(w:bM)(mg:Str->Option ag)(H:ak)(h:bK),(K w.params).In h->h.Ns cO mg->mg d.name=some (.ref H)->∃fd:dm,(∀(s:am)(u:ag),sU s fd ⟨[u],[]⟩ [(x,u)])/\∀base:bK,BMod base mg->mI l.prog w (K w.params) mg base q_ k H fd [x] (mU (K w.params) 1 g))(L:∀E:List Int,E.length<=n->∃I,g [.lit (E.map D.int)] (ts.map λp=>.tbl p.2.1 p.2.2)=.ok (.bl true) I):zO q v XP YP l.row.toRowW d [] (λf vs=>xq f vs):=by
 refine Att.uV hn hdf λw s₀ s₁ mg mb H o pm cd doc a vs E G Y ho hd hcd U C B c hg=>?_;let⟨KX,KT⟩:=hY w _ Y;let⟨fd,hb,hF⟩:=F w mg H _ KX G.T.g U;let⟨bm,ob,b1,b2,b3,b4,b5,b6⟩:=G.T.bmain;exact QiF KX G.T.g G.T.b G.T.builtins G.T.nolimit hg ⟨bm,ob,b1,b2,b3,b4,b5,b6⟩ O (λp hp=>⟨KT _ (iR hp),J w p hp⟩) C B (cW c Q) hr hF hb (L E c)
noncomputable def BE(N ps fr:List Str)(sc:du):Bool:=(sc.kind == .function)&&(sc.isCoroutine == false)&&(sc.isGenerator == false)&&decide N.Nodup&&(N.take (ps++fr).length == ps++fr)&&(ps.all λx=>sc.names.lookup x == some .local||sc.names.lookup x == some .cell)&&(fr.all λx=>sc.names.lookup x == some .free)&&(sc.names.all λy=>y.2 != .free||fr.contains y.1)&&(sc.names.all λy=>y.2 != .cell || !fr.contains y.1)
def Xd(h:BE N ps fr sc=true):r8 N ps fr sc:=by
 unfold BE at h;simp only[bv,beq_iff_eq,decide_eq_true_eq,dW,lI,bne_iff_ne,ne_eq]at h;obtain⟨⟨⟨⟨⟨⟨⟨⟨G,E⟩,C⟩,B⟩,v⟩,u⟩,o⟩,l⟩,g⟩:=h;refine⟨G,E,C,B,v,u,o,λx c=>?_,λx c z=>?_⟩
 ·rcases l _ c with q|q
  ·exact bh rfl q
  ·simpa using q
 ·rcases g _ z with q|q
  ·exact bh rfl q
  ·simp at q;exact q c
noncomputable def yO(s:Stmt):Pos:=match s with| .FunctionDef _ _ _ _ _ _ _ _ _ p=>p|_=>⟨0,0,0,0⟩
noncomputable def defName(s:Stmt):Str:=match s with| .FunctionDef x .. => x|_=>""
section
variable{K:ah}
def QiI(R:mq){st:Stmt}{k n m:Nat}(E:st=.FunctionDef (defName st) (dO st) (cK st) [] none [] (bj st) none (defName st) (yO st))(S:BE (nm++fr++r) nm fr (bj st)=true)(g:oG (bj st).names=fr)(I:∀(q:Str)(cl:List (Str×ak))(dc pm c ct:ag)(us:List ag),us.length=nm.length->gE (qT (defName st) q (dO st) (cK st) (bj st) cl .none .none dc pm none c ct) ⟨us,[]⟩=pure (nm.zip us))(B:(pd (nQ R 40) ⟨bj st,nm++fr++r,k,G,Z,C,H,true,W,none⟩ (cK st)).map (·.1)=some f) (O:cN P w K mg base G) (J:vI mg Z) (Q:wJ K mg C) (L:yX P w K mg base W) (o:nm.length=n:=by rfl) (u:(nm++fr++r).length=m:=by rfl):
  tK P w K mg base (k+1) n (.dfn st) (bZ m f):=by
 let h:=Xd S;let⟨v,_,U⟩:=ck.mp B;have:=Uk (dx:=[]) (rt:=none) (tp:=[]) (ts:=none) (bd:=defName st) (pos:=yO st) h u o g I λq a' c cl A outer Y Hp l=>U ▸ v.2 ⟨TV,rfl,h.nd,l,O,J,Q,iJ,λ_=>⟨by show (if (bj st).kind.isAnnotationScope=true then _ else (bj st).kind)=_;rw[h.kind];rfl,λ_=>rfl⟩,L,λ_ z=>nomatch z⟩;rw[<- E]at this;exact this
end
theorem G1:∀{l:List Arg},l.all (λa=>a.annotation.isNone)=true->annotationsOf l env=[]
 |[],_=>rfl|⟨n,none,p⟩::l,h=>by rw[cE,bv]at h;exact G1 (l:=l) h.2|⟨n,some a,p⟩::l,h=>by rw[cE,bv]at h;cases h.1
noncomputable def xZ(a:iB):Bool:=a.posonlyargs.isEmpty&&a.vararg.isNone&&a.kwonlyargs.isEmpty&&a.kwarg.isNone&&a.defaults.isEmpty&&a.kw_defaults.isEmpty&&a.args.all λx=>x.annotation.isNone
def SV(h:xZ a=true):a.defaults=[]/\a.kw_defaults=[]/\annTrees a none env=[]:=by
 let⟨G,E,g,H,I,c,d⟩:=a;unfold xZ at h;simp only[bv]at h;obtain⟨⟨⟨⟨⟨⟨C,B⟩,v⟩,u⟩,q⟩,o⟩,l⟩:=h;obtain rfl:=iK.mp C;obtain rfl:=iK.mp v;obtain rfl:=iK.mp q;obtain rfl:=iK.mp o;cases g with|some _=>cases B|none=>
  cases c with|some _=>cases u|none=>
   refine⟨rfl,rfl,?_⟩
   show annotationsOf (E++[]++[]++[]++[]) env++[]=[]
   rw[bu,bu,bu,bu,bu];exact G1 l
section
noncomputable def Wg{β:Type}(s:Stmt)(k:∀w a b sc p,s=.FunctionDef w a b [] none [] sc none w p->Option β):Option β:=match s,k with| .FunctionDef w a b [] none [] sc none w' p,k=>if h:w'=w then k w a b sc p (h ▸ rfl) else none|_,_=>none
abbrev Zx(c:RC)(i:Nat)(es:List Expr):={r:CA // (∀{X:Cx},Good X c->PA X es (DP X.K r (yM i)))/\es.all rG=true/\∀l st ds g,r l st=.ok ds g->ds.length+1=es.length}
def GH(q:tD)(c:RC)(i:Nat):∀es:List Expr,Option (Zx c i es)
 |[]=>none
 |[e] => Bh e λx p h => wh ((c.N[i]? = some x /\ (c.sc.names.lookup x = some .local \/ c.sc.names.lookup x = some .cell \/ c.sc.names.lookup x = some .free)) /\ ug x = true) λz => some ⟨aX, λg => by
   subst h;let B:=A1 z.2;refine WY (OX (by rw[g.N];exact z.1.1) ?_ B.d B.c);rcases z.1.2 with h|h|h
   ·exact g.S.vis _ _ h (.inl rfl)
   ·exact g.S.vis _ _ h (.inr (.inl rfl))
   ·exact g.S.vis _ _ h (.inr (.inr rfl)),by subst h;rfl,λl st ds u e=>by cases e;rfl⟩
 |e :: es => wh (rG e = true) λC => (q.e c e).bind λf => (GH q c i es).bind λr => some ⟨au f.1 r.1, λg => W3 (f.2 g) (r.2.1 g) (rJ C), by rw [cE, C, r.2.2.1]; rfl, λl st ds u e => by
   unfold au bnd at e;cases v:f.1 l st with|bad=>rw[v]at e;cases e|exc _ _=>rw[v]at e;cases e|ok d cp=>
    rw[v]at e;dsimp only at e;cases o:r.1 l cp with|bad=>rw[o]at e;cases e|exc _ _=>rw[o]at e;cases e|ok ds1 st2=>
     rw[o]at e;cases e;rw[b8,b8,r.2.2.2 l cp ds1 _ o]⟩
def CB(c:RC)(names:List (Str×dG)):Bool:=decide (oG names).Nodup&&((oG names).all λx=>c.N[c.N.idxOf x]? == some x)&&names.all λy=>y.2 != .free||c.sc.names.lookup y.1 == some .cell
def YF(g:Good X c)(C:c.top=true)(h:CB c names=true):uf X names ((oG names).map c.N.idxOf):=by
 unfold CB at h;simp only[bv,decide_eq_true_eq,dW,lI,bne_iff_ne,ne_eq,beq_iff_eq]at h;let⟨⟨H,G⟩,E⟩:=h;refine⟨λx B=>?_,H,?_⟩
 ·rcases E _ B with z|z
  ·exact bh rfl z
  ·let u:X.env.kindOf x=some .cell:=((g.kd C).2 x).trans z;refine⟨.inl u,?_⟩;rcases (g.S.loc x .cell z (.inr rfl)).2 with q|q
   ·exact q
   ·have:X.env.kindOf x=some .local:=q;rw[u]at this;cases this
 ·let : ∀(l : List Str), (∀x ∈ l, c.N[c.N.idxOf x]? = some x) -> eZ (λ(x : Str)i => X.N[i]? = some x) l (l.map c.N.idxOf) := by
    intro l
    induction l with|nil=>exact λ_=>.nil|cons x l ih=>exact λo=>.cons (by rw[g.N];exact o x (.head _)) (ih λy v=>o y (.tail _ v))
  exact this _ G
def La(q:tD)(c:RC)(I:List Stmt):Option (GG c I):=
 v2 I λs1 s2 h=>Wg s1 λw J u sc dp H=>M0 s2 λo rp G=>oS o λe E=>BS e λQ bp e3 U C=>DU e3 λx p as pos h5=>vC as λa v h6=>oS c.T λt h7=>(Js c.G x).bind λr=>
  wh ((Q=az "max"/\c.bl Q=true)/\(c.glo x=true/\ug x=true/\r.1.k<=c.k/\r.1.n=(a::v).length)/\(c.top=true/\c.N[c.N.idxOf w]?=some w/\c.sc.names.lookup w=some .local)/\xZ J=true/\CB c sc.names=true) λz=>
   (GH q c (c.N.idxOf w) (a::v)).bind λO=>some ⟨dF (c1 (wL n0) (o6 t.1 t.2 w r.1.g (.dfn (.FunctionDef w J u [] none [] sc none w dp)) ((oG sc.names).map c.N.idxOf) (c.N.idxOf w) O.1)),λg=>by subst h H G E C h5 h6;let⟨⟨rfl,Y⟩,⟨H,G,E,C⟩,⟨L,k2,k3⟩,ap,dw⟩:=z;let⟨f,fd,m,F,kp,B,_⟩:=(g.G _ _ r.2).ex;let⟨x',y,l⟩:=O.2;rw[cE,bv]at y;let⟨a1,a2,a3⟩:=SV (env:=_) ap;exact QhZ (g.T t h7) g.nd (by rw[g.N];exact k2) (((g.kd L).2 _).trans k3) a1 a2 a3 (YF g L dw) F (g.hr.mono E) (g.S.glo _ (beq_iff_eq.mp H)) m kp B (x' g) (by rw[C];exact l) (Ny (Nf g.S.calm)) (g.gl Y).1 (g.gl Y).2 (by nofun) (w9 (by nofun)) (by nofun) (A1 G).d (rJ y.1) (CV y.2)⟩
end
section
variable{K:ah}
def Tz(R:mq){j k n m:Nat}(F:uZ K mg x g)(S:rf (ps++r) ps (bj g)=true)(b:∀(kV l J:ag)(U:Option ak)(o ct:ag)(q:List ag),q.length=ps.length->gE (cC x x (dO g) (cK g) (bj g) .none kV l J U o ct) { pos:=q }=pure (ps.zip q))(hb:(La (nQ R 40) ⟨bj g,ps++r,k,G,Z,C,H,true,([],[]),some (j,x)⟩ (cK g)).map (·.1)=some h) (L:cN P w K mg base G) (hZ:vI mg Z) (hC:wJ K mg C) (hB:BMod base mg) (hn:ps.length=n:=by rfl) (hm:(ps++r).length=m:=by rfl):cN P w K mg base ((x,⟨n,k+1,ps,false,bZ m h⟩)::G):=by
 let⟨f,fd,c,P',F,u,h1,O,h3⟩:=F;let I:=DF S;let ⟨v,_,e⟩:=ck.mp hb;refine GB u (QP F I hn hm λo A outer s Hp E B hr=>e ▸ v.2 ⟨HK,rfl,I.nd,hr,L,hZ,hC,iJ,λ_=>⟨by show (if (bj g).kind.isAnnotationScope=true then _ else (bj g).kind)=_;rw[I.kind];rfl,λ_=>rfl⟩,Fp,λt z=>?_⟩) F.kp (F.binds b) nofun L;cases z;let⟨oc,od,kV,l,J,U,Q,ct,Y,e1,lk,_⟩:=F.ex;exact⟨f,_,fd,c,P',h1,lk,rfl,O,h3,by rw[<- O,B];rfl,rfl,hB⟩
end
end MM
namespace MM
open PySem
abbrev At{α:Type}(_:α->aZ->Prop):Type:=aZ
inductive wp{α:Type}(m:M α)(Q:α->aZ->Prop)(s:At Q):Prop
 |intro (a:α) (s':aZ) (h:m s=.ok a s') (q:Q a s'):wp m Q s
theorem sM{α:Type}{m:M α}{Q:α->aZ->Prop}{s:aZ}:wp m Q s=(match m s with
 | .ok a s'=>Q a s'
 |_=>False):=by
 apply propext;constructor
 ·rintro ⟨a,s',h,q⟩;rw[h];exact q
 ·intro h;cases e:m s with|ok a s'=>rw[e]at h;exact⟨a,s',e,h⟩|exc _ _=>rw[e]at h;exact h.elim|bad=>rw[e]at h;exact h.elim
section
variable{α β:Type}{Q:α->aZ->Prop}{s:aZ}
def cU{m:M α}{a:α}(h:m s=.ok a c):wp m Q s=Q a c:=by rw[sM,h]
def wa{m:M α}(h:m s=.bad):wp m Q s=False:=by rw[sM,h]
def nG{m:M β}{Q c:β->aZ->Prop}(h:∀a g,Q a g=c a g):wp m Q s=wp m c s:=by rw[show Q=c from funext λa=>funext λt=>h a t]
def cF{a:α}:wp (ret a) Q s=Q a s:=cU rfl
def ib:wp (bad:M α) Q s=False:=wa rfl
def d8{m:M β}{f:β->M α}:wp (bnd m f) Q s=wp m (λa c=>wp (f a) Q c) s:=by simp only[sM];unfold bnd;cases m s<;>rfl
def fA{c:Prop}[Decidable c]{m:M α}:wp (chk c m) Q s=(c/\wp m Q s):=by
 unfold chk;by_cases h:c
 ·simp[h]
 ·simp[h,ib]
def gZ{o:MO}{Q:D->aZ->Prop}:wp (alloc o) Q s=Q (.ref s.length) (s++[o]):=cU rfl
def fk{n:Nat}{Q:List D->aZ->Prop}(h:s[n]?=some (.lst ds)):wp (getL n) Q s=Q ds s:=by rw[sM];unfold getL;rw[h]
def oK{n:Nat}{Q:Unit->aZ->Prop}(h:s[n]?=some (.lst ds)):wp (putL n es) Q s=Q Unit.unit (s.set n (.lst es)):=by rw[sM];unfold putL;rw[h]
def wR{m:M α}{g:α->aZ->Prop}(h:wp m Q s)(f:∀a c,Q a c->g a c):wp m g s:=by
 simp only[sM]at *;cases e:m s with|ok a c=>rw[e]at h;exact f a c h|exc _ _=>rw[e]at h;exact h|bad=>rw[e]at h;exact h
def Ik{c:Prop}[Decidable c]{m n:M α}:wp (if c then m else n) Q s=if c then wp m Q s else wp n Q s:=by split<;>rfl
end
def Ei{ds:List D}{i:Int}(c:0<=i)(h:ds[i.toNat]?=some d):cY ds i=ret d:=by let g:i.toNat < ds.length:=(ac.mp h).1;unfold cY MM.n_;rw[aH c,aH ()];dsimp only;rw[h]
def x_{n:Nat}{b:CS}{ds:List D}{Q:D->aZ->Prop}{s:aZ}:wp (bZ n b ds) Q s=wp (b (ds.map some++bQ (n-ds.length) none)) (λf c=>wp (wM f) Q c) s:=by unfold bZ;rw[d8]
def WF{g:CG}{b:CS}{same:aZ->Prop}{Q:uU->aZ->Prop}(W:List D->Loc->aZ->Prop)(u:∀l s,W [] l s->wp (chkS same) (λ_ C=>Q (.next l) C) s)(o:∀d ds l s,W (d::ds) l s->wp (chkS same) (λ_ B=>wp (g d l) (λE v=>wp (b E) (λf c=>match f with
   | .next l2=>W ds l2 c| .cnt l2=>W ds l2 c| .brk l2=>Q (.next l2) c
   | .ret d=>Q (.ret d) c) v) B) s):∀ds l s,W ds l s->wp (o7 g b same ds l) Q s:=by
 intro ds
 induction ds with
 |nil=>
  intro l s h;unfold o7;rw[d8];exact wR (u l s h) λ_ C q=>by rw[cF];exact q
 |cons d ds ih=>
  intro l s h;unfold o7;rw[d8];refine wR (o d ds l s h) λ_ B q=>?_;rw[d8];refine wR q λE v q=>?_;rw[d8];refine wR q λf c q=>?_;cases f with|next l2=>exact ih l2 c q|cnt l2=>exact ih l2 c q|brk l2=>show wp (ret _) _ _;rw[cF];exact q|ret d=>show wp (ret _) _ _;rw[cF];exact q
def Lg{g:CG}{t:CT}{e:CE}{same:aZ->Prop}{Q:List D->aZ->Prop}(W:List D->List D->Loc->aZ->Prop)(B:∀c l s,W c [] l s->wp (chkS same) (λ_ C=>Q c C) s)(u:∀c d ds l s,W c (d::ds) l s->wp (chkS same) (λ_ H=>wp (g d l) (λo G=>wp (t o) (λb v=>if b=true then wp (e o) (λx E=>W (c++[x]) ds o E) v else W c ds o v) G) H) s):
  ∀ds c l s,W c ds l s->wp (collect g t e same ds l) (λxs C=>Q (c++xs) C) s:=by
 intro ds
 induction ds with
 |nil=>
  intro c l s h;unfold collect;rw[d8];exact wR (B c l s h) λ_ C q=>by rw[cF,bu];exact q
 |cons d ds ih=>
  intro c l s h;unfold collect;rw[d8];refine wR (u c d ds l s h) λ_ H q=>?_;rw[d8];refine wR q λo G q=>?_;rw[d8];refine wR q λb v q=>?_;cases b with|false=>exact ih c o v q|true=>
   show wp (bnd (e o) _) _ v;rw[d8];refine wR q λx E q=>?_;rw[d8];refine wR (ih (c++[x]) o E q) λxs I q=>?_;rw[cF];rw[br]at q;exact q
def PP{e:CE}{xs:List D}{same:aZ->Prop}{Q:List D->aZ->Prop}(W:Nat->List D->aZ->Prop)(E:∀i c s,W i c s->same s)(H:W 0 [] s)(g:∀(i:Nat)d c s,xs[i]?=some d->W i c s->wp (e (some d::caps)) (λx C=>W (i+1) (c++[x]) C) s) (u:∀c s,W xs.length c s->Q c s):wp (collect (aS 0) b7 e same xs (none::caps)) Q s:=by
 let chk:∀{s:aZ}{R:Unit->aZ->Prop},same s->R Unit.unit s->wp (chkS same) R s:=λh r=>by rw[sM];unfold chkS;rw[aH h];exact r
 refine Lg (Q:=Q) (λc ds l s=>∃i B,ds=xs.drop i/\i<=xs.length/\l=B::caps/\W i c s) (λc l s ⟨i,B,v,G,_,w⟩=>?_) (λc d ds l s ⟨i,B,v,G,el,w⟩=>?_) xs [] _ s ⟨0,none,by simp,bU _,rfl,H⟩
 ·let : i = xs.length := by have:=c_ d7 v;simp at this;ext
  subst this;exact chk (E _ _ _ w) (u c s w)
 ·subst el;let o:i < xs.length:=by have:=c_ d7 v;simp at this;ext
  rw[dZ o]at v;let⟨J,I⟩:=oC v;refine chk (E _ _ _ w) ?_
  show wp (ret _) _ s;rw[cF]
  show wp (ret true) _ s;rw[cF]
  show wp (e (some d::caps)) _ s;exact wR (g i d c s (by rw[J];exact ae o) w) λx C q=>⟨i+1,some d,I,o,rfl,q⟩
def UK{n i:Nat}(h:i < n):(iL 0 n)[i]?=some (.int i):=by unfold iL;rw[av,lR h];simp
def gH{n:Nat}(h:n<=1000):n<=eV:=cW h (by decide)
def sC{n:Nat}(h:n<=1000):n < eV:=zu h (by decide)
def Pf{g:CG}{b:CS}{same:aZ->Prop}{xs:List D}{l:Loc}{s:aZ}{Q:uU->aZ->Prop}(W:Nat->Loc->aZ->Prop)(G:∀i l s,W i l s->same s)(J:W 0 l s)(o:∀(i:Nat)d l s,xs[i]?=some d->W i l s->wp (g d l) (λE C=>wp (b E) (λf u=>match f with
   | .next l2=>W (i+1) l2 u| .cnt l2=>W (i+1) l2 u| .brk l2=>Q (.next l2) u
   | .ret d=>Q (.ret d) u) C) s) (v:∀l s,W xs.length l s->Q (.next l) s):wp (o7 g b same xs l) Q s:=by
 let chk:∀{s:aZ}{R:Unit->aZ->Prop},same s->R Unit.unit s->wp (chkS same) R s:=λh r=>by rw[sM];unfold chkS;rw[aH h];exact r
 refine WF (λds l s=>∃i,ds=xs.drop i/\i<=xs.length/\W i l s) (λl s ⟨i,B,I,w⟩=>?_) (λd ds l s ⟨i,B,I,w⟩=>?_) xs l s ⟨0,by simp,bU _,J⟩
 ·let : i = xs.length := by have:=c_ d7 B;simp at this;ext
  subst this;exact chk (G _ _ _ w) (v l s w)
 ·let c : i < xs.length := by have:=c_ d7 B;simp at this;ext
  rw[dZ c]at B;let⟨L,H⟩:=oC B;refine chk (G _ _ _ w) ?_;refine wR (o i d l s (by rw[L];exact ae c) w) λE C q=>wR q λf u q=>?_;cases f with|next l2=>exact⟨i+1,H,c,q⟩|cnt l2=>exact⟨i+1,H,c,q⟩|brk l2=>exact q|ret d=>exact q
end MM
local macro_rules|`(tactic| bv_omega)=>`(tactic| first|rfl|exact MM.cU rfl|exact MM.wa rfl)
local macro_rules|`(tactic| ac_rfl)=>`(tactic| first|rfl|simp only[MM.cF,MM.gZ,MM.ib]|(refine MM.nG λ_ _=>?_;simp only[MM.cF,MM.gZ,MM.ib]))
namespace MM
open PySem
def nr{α:Sort u}{a b:α}(h:a=b):a=b:=h
section
variable{Q:D->aZ->Prop}{R:uU->aZ->Prop}{T:Bool->aZ->Prop}{A:List D->aZ->Prop}{G:Loc->aZ->Prop}{I:Wk->aZ->Prop}{s:aZ}{l:Loc}
def uR{a b:CS}: wp (aO a b l) R s=wp (a l) (λf c=>match f with
  | .next l'=>wp (b l') R c| .ret d=>R (.ret d) c| .brk l'=>R (.brk l') c
  | .cnt l'=>R (.cnt l') c) s:=by
 unfold aO;rw[d8];congr 1;funext f c;cases f<;>first|bv_omega
def BN:wp (aU l) R s=R (.next l) s:=cU rfl
def xY{g:CG}{a:CE}:wp (cn g a l) R s=wp (a l) (λd h=>wp (g d l) (λo c=>R (.next o) c) h) s:=by unfold cn;rw[d8];congr 1;funext d h;rw[d8];ac_rfl
def FA{a:CE}:wp (dF a l) R s=wp (a l) (λd c=>R (.ret d) c) s:=by unfold dF;rw[d8];ac_rfl
def GL{a:CE}:wp (kH a l) R s=wp (a l) (λd c=>R (.next l) c) s:=by unfold kH;rw[d8];ac_rfl
def Hb{t:CT}{a b:CS}:wp (mr t a b l) R s=wp (t l) (λc g=>if c=true then wp (a l) R g else wp (b l) R g) s:=by unfold mr;rw[d8];congr 1;funext c g;rw[Ik]
def Be{a:CE}: wp (cX a l) T s=wp (a l) (λx c=>match x with
  | .bl b=>T b c
  |_=>False) s:=by
 unfold cX;rw[d8];congr 1;funext x c;cases x<;>first|bv_omega
def F6{a:CE}:wp (pZ a l) T s=wp (a l) (λx c=>wp (zZ x) T c) s:=by unfold pZ;rw[d8]
def Ho{a:CT}:wp (pJ a l) T s=wp (a l) (λx c=>T (!x) c) s:=by unfold pJ;rw[d8];ac_rfl
def E1{a b:CT}:wp (oX a b l) T s=wp (a l) (λc g=>if c=true then wp (b l) T g else T false g) s:=by unfold oX;rw[d8];congr 1;funext c g;rw[Ik];ac_rfl
def JR{a b:CT}:wp (sR a b l) T s=wp (a l) (λc g=>if c=true then T true g else wp (b l) T g) s:=by unfold sR;rw[d8];congr 1;funext c g;rw[Ik];ac_rfl
def ia{i:Nat}:wp (aS i d l) G s=G (l.set i (some d)) s:=cU rfl
def I_{a0:Option D}{d:D}{b:Option D}{r:Loc}{Q:Loc->aZ->Prop}:wp (aS 1 d (a0::b::r)) Q s=Q (a0::some d::r) s:=ia
def MQ{a0 a1:Option D}{d:D}{b:Option D}{r:Loc}{Q:Loc->aZ->Prop}:wp (aS 2 d (a0::a1::b::r)) Q s=Q (a0::a1::some d::r) s:=ia
def L_{a0 a1 c:Option D}{d:D}{b:Option D}{r:Loc}{Q:Loc->aZ->Prop}:wp (aS 3 d (a0::a1::c::b::r)) Q s=Q (a0::a1::c::some d::r) s:=ia
def Nd{a0 a1 g c:Option D}{d:D}{b:Option D}{r:Loc}{Q:Loc->aZ->Prop}:wp (aS 4 d (a0::a1::g::c::b::r)) Q s=Q (a0::a1::g::c::some d::r) s:=ia
def EN{a0 a1 h g c:Option D}{d:D}{b:Option D}{r:Loc}{Q:Loc->aZ->Prop}:wp (aS 5 d (a0::a1::h::g::c::b::r)) Q s=Q (a0::a1::h::g::c::some d::r) s:=ia
def Fq{a0 a1 o h g c:Option D}{d:D}{b:Option D}{r:Loc}{Q:Loc->aZ->Prop}:wp (aS 6 d (a0::a1::o::h::g::c::b::r)) Q s=Q (a0::a1::o::h::g::c::some d::r) s:=ia
def MB{a0 a1 q o h g c:Option D}{d:D}{b:Option D}{r:Loc}{Q:Loc->aZ->Prop}:wp (aS 7 d (a0::a1::q::o::h::g::c::b::r)) Q s=Q (a0::a1::q::o::h::g::c::some d::r) s:=ia
def Kd{a0 a1 u q o h g c:Option D}{d:D}{b:Option D}{r:Loc}{Q:Loc->aZ->Prop}:wp (aS 8 d (a0::a1::u::q::o::h::g::c::b::r)) Q s=Q (a0::a1::u::q::o::h::g::c::some d::r) s:=ia
def G_{a0 a1 v u q o h g c:Option D}{d:D}{b:Option D}{r:Loc}{Q:Loc->aZ->Prop}:wp (aS 9 d (a0::a1::v::u::q::o::h::g::c::b::r)) Q s=Q (a0::a1::v::u::q::o::h::g::c::some d::r) s:=ia
def FT{a0 a1 B v u q o h g c:Option D}{d:D}{b:Option D}{r:Loc}{Q:Loc->aZ->Prop}:wp (aS 10 d (a0::a1::B::v::u::q::o::h::g::c::b::r)) Q s=Q (a0::a1::B::v::u::q::o::h::g::c::some d::r) s:=ia
def FZ{a0 a1 C B v u q o h g c:Option D}{d:D}{b:Option D}{r:Loc}{Q:Loc->aZ->Prop}:wp (aS 11 d (a0::a1::C::B::v::u::q::o::h::g::c::b::r)) Q s=Q (a0::a1::C::B::v::u::q::o::h::g::c::some d::r) s:=ia
def ES{a0 a1 E C B v u q o h g c:Option D}{d:D}{b:Option D}{r:Loc}{Q:Loc->aZ->Prop}:wp (aS 12 d (a0::a1::E::C::B::v::u::q::o::h::g::c::b::r)) Q s=Q (a0::a1::E::C::B::v::u::q::o::h::g::c::some d::r) s:=ia
def Cy{o i:CE}{d:D}:wp (kB o i d l) G s=wp (o l) (λy g=>wp (i l) (λz c=>wp (ke y z d) (λ_ h=>G l h) c) g) s:=by unfold kB;rw[d8];congr 1;funext y g;rw[d8];congr 1;funext z c;rw[d8];ac_rfl
def lN{i:Nat}: wp (aq i l) Q s=match l[i]? with|some (some d)=>Q d s|_=>False:=by
 unfold aq;rcases l[i]? with _|_|d<;>first|bv_omega
def GY{d:D}{r:Loc}:wp (aq 0 (some d::r)) Q s=Q d s:=lN
def AD{a0:Option D}{d:D}{r:Loc}:wp (aq 1 (a0::some d::r)) Q s=Q d s:=lN
def J1{a0 a1:Option D}{d:D}{r:Loc}:wp (aq 2 (a0::a1::some d::r)) Q s=Q d s:=lN
def Ki{a0 a1 c:Option D}{d:D}{r:Loc}:wp (aq 3 (a0::a1::c::some d::r)) Q s=Q d s:=lN
def LC{a0 a1 g c:Option D}{d:D}{r:Loc}:wp (aq 4 (a0::a1::g::c::some d::r)) Q s=Q d s:=lN
def GS{a0 a1 h g c:Option D}{d:D}{r:Loc}:wp (aq 5 (a0::a1::h::g::c::some d::r)) Q s=Q d s:=lN
def J8{a0 a1 o h g c:Option D}{d:D}{r:Loc}:wp (aq 6 (a0::a1::o::h::g::c::some d::r)) Q s=Q d s:=lN
def Ko{a0 a1 q o h g c:Option D}{d:D}{r:Loc}:wp (aq 7 (a0::a1::q::o::h::g::c::some d::r)) Q s=Q d s:=lN
def MG{a0 a1 u q o h g c:Option D}{d:D}{r:Loc}:wp (aq 8 (a0::a1::u::q::o::h::g::c::some d::r)) Q s=Q d s:=lN
def JL{a0 a1 v u q o h g c:Option D}{d:D}{r:Loc}:wp (aq 9 (a0::a1::v::u::q::o::h::g::c::some d::r)) Q s=Q d s:=lN
def Eh{a0 a1 C B v u q o h g c:Option D}{d:D}{r:Loc}:wp (aq 11 (a0::a1::C::B::v::u::q::o::h::g::c::some d::r)) Q s=Q d s:=lN
def Fb{a0 a1 E C B v u q o h g c:Option D}{d:D}{r:Loc}:wp (aq 12 (a0::a1::E::C::B::v::u::q::o::h::g::c::some d::r)) Q s=Q d s:=lN
def wc{d:D}:wp (aN d l) Q s=Q d s:=cU rfl
def Mz{g:D->M D}{a:CE}:wp (c1 g a l) Q s=wp (a l) (λx c=>wp (g x) Q c) s:=by unfold c1;rw[d8]
def E7{g:D->D->M D}{a b:CE}:wp (c2 g a b l) Q s=wp (a l) (λx h=>wp (b l) (λy c=>wp (g x y) Q c) h) s:=by unfold c2;rw[d8];congr 1;funext x h;rw[d8]
def yY{g:List D->M D}{a:CA}:wp (bJ g a l) Q s=wp (a l) (λx c=>wp (g x) Q c) s:=by unfold bJ;rw[d8]
def Bf:wp (aX l) A s=A [] s:=cU rfl
def yL{a:CE}{r:CA}:wp (au a r l) A s=wp (a l) (λx g=>wp (r l) (λxs c=>A (x::xs) c) g) s:=by unfold au;rw[d8];congr 1;funext x g;rw[d8];ac_rfl
def Gj{a:CA}:wp (c8 a l) Q s=wp (a l) (λxs c=>xs.length<=eV/\Q (.tup xs) c) s:=by unfold c8;rw[d8];congr 1;funext x c;rw[fA];ac_rfl
def B9{a:CA}:wp (gJ a l) A s=wp (a l) (λxs c=>xs.length<=eV/\A xs c) s:=by unfold gJ;rw[d8];congr 1;funext x c;rw[fA];ac_rfl
def BR{a:CA}:wp (eR a l) Q s=wp (a l) (λxs c=>Q (.ref c.length) (c++[.lst xs])) s:=by unfold eR;rw[d8];ac_rfl
def EC{g:List D->M D}{a:CA}:wp (iM g a l) Q s=wp (a l) (λx c=>wp (g x) Q c) s:=by unfold iM;rw[d8]
def BG{n:Nat}{caps:List Nat}{i:CI}{g:CG}{t:CT}{e:CE}:wp (dU n caps i g t e l) A s=wp (i l) (λw c=>w.ds.length<=eV/\wp (collect g t e w.same w.ds (im n caps l)) A c) s:=by unfold dU;rw[d8];congr 1;funext x c;rw[fA]
def Hl{i:CI}{g:CG}{b:CS}:wp (kg i g b l) R s=wp (i l) (λw c=>wp (o7 g b w.same w.ds l) R c) s:=by unfold kg;rw[d8]
def EB{a:CE}: wp (MM.fN a l) I s=wp (a l) (λx c=>match x with
  | .int j=>(-(2^62)<=j/\j < 2^62)/\I ⟨iL 0 j.toNat,d6⟩ c
  |_=>False) s:=by
 unfold MM.fN;rw[d8];congr 1;funext x c;cases x<;>first|bv_omega|(dsimp only;rw[fA];ac_rfl)
def BK{a:CE}: wp (iV a l) I s=wp (a l) (λx c=>match x with
  | .tup ds=>I ⟨ds,d6⟩ c| .lit ds=>I ⟨ds,d6⟩ c| .ref n=>wp (getL n) (λds g=>I ⟨ds,gw n ds⟩ g) c
  |_=>False) s:=by
 unfold iV;rw[d8];congr 1;funext x c;cases x<;>first|bv_omega|(dsimp only;rw[d8];ac_rfl)
def A6{i j:Int}:wp (fF (.int i) (.int j)) Q s=Q (.int (i+j)) s:=cU rfl
def Ez{i j:Int}:wp (uc (.int i) (.int j)) Q s=Q (.int (i-j)) s:=cU rfl
def Hc{i j:Int}:wp (sQ (.int i) (.int j)) Q s=(qN i j/\Q (.int (i*j)) s):=by unfold sQ ui;rw[fA];ac_rfl
def FX{i j:Int}:wp (tQ (.int i) (.int j)) Q s=((0 < j/\j < 1073741824)/\Q (.int (i / j)) s):=by unfold tQ ui;rw[fA];ac_rfl
def Fg{i j:Int}:wp (pB (.int i) (.int j)) Q s=(0 < j/\Q (.int (i % j)) s):=by unfold pB ui;rw[fA];ac_rfl
def MY{i j:Int}:wp (Cf (.int i) (.int j)) Q s=Q (.bl (decide (i < j))) s:=cU rfl
def Mb{i j:Int}:wp (wZ (.int i) (.int j)) Q s=Q (.bl (decide (j < i))) s:=cU rfl
def Ke{i j:Int}:wp (Io (.int i) (.int j)) Q s=Q (.bl (decide (j<=i))) s:=cU rfl
def M_{i j:Int}:wp (nj (.int i) (.int j)) Q s=Q (.bl (i == j)) s:=cU rfl
def ud{ds:List D}{i:Int}:wp (aW (.tup ds) (.int i)) Q s=wp (cY ds i) Q s:=nr rfl
def AH{n:Nat}{i:Int}:wp (aW (.ref n) (.int i)) Q s=wp (getL n) (λds c=>wp (cY ds i) Q c) s:=by unfold aW;rw[d8]
def yz{ds:List D}:wp (gO (.tup ds)) Q s=Q (.int ds.length) s:=cU rfl
def B8{n:Nat}:wp (gO (.ref n)) Q s=wp (getL n) (λds c=>Q (.int ds.length) c) s:=by unfold gO;rw[d8];ac_rfl
def Ct{b:Bool}:wp (intD (.bl b)) Q s=Q (.int (if b then 1 else 0)) s:=cU rfl
def ul{n:Nat}{i:Int}{v:D}{U:Unit->aZ->Prop}: wp (ke (.ref n) (.int i) v) U s=wp (getL n) (λds c=>wp (match MM.n_ ds.length i with
  |some j=>putL n (ds.set j v)
  |none=>bad) U c) s:=by
 unfold ke;rw[d8]<;>congr 1
def B2{d:D}:wp (wM (.ret d)) Q s=Q d s:=cU rfl
def Af:wp (wM (.next l)) Q s=Q .non s:=cU rfl
end
def zT{a:CE}{lo o:CO}{A:List D->aZ->Prop}{s:aZ}{l:Loc}: wp (sf a lo o l) A s=wp (a l) (λx h=>wp (lo l) (λi g=>wp (o l) (λj c=>match x with
  | .lit ds=>A (cutD ds i j) c| .ref n=>wp (getL n) (λds q=>A (cutD ds i j) q) c
  |_=>False) g) h) s:=by
 unfold sf;rw[d8];congr 1;funext x h;rw[d8];congr 1;funext i g;rw[d8];congr 1;funext j c;cases x<;>first|bv_omega|(dsimp only;rw[d8];ac_rfl)
def Cq{A:Option Int->aZ->Prop}{s:aZ}{l:Loc}:wp (oU l) A s=A none s:=cU rfl
def C6{a:CE}{A:Option Int->aZ->Prop}{s:aZ}{l:Loc}: wp (mV a l) A s=wp (a l) (λx c=>match x with
  | .int i=>A (some i) c
  |_=>False) s:=by
 unfold mV;rw[d8];congr 1;funext x c;cases x<;>first|bv_omega
def CZ{a:CE}{I:Wk->aZ->Prop}{s:aZ}{l:Loc}: wp (uK a l) I s=wp (a l) (λx c=>match x with
  | .tup ds=>I ⟨(iL 0 ds.length).zipWith (λi d=>.tup [i,d]) ds,d6⟩ c
  |_=>False) s:=by
 unfold uK;rw[d8];congr 1;funext x c;cases x<;>first|bv_omega
def vA{n:Nat}{r:List D->Loc->M Loc}{ds:List D}{G:Loc->aZ->Prop}{s:aZ}{l:Loc}:wp (gI n r (.tup ds) l) G s=(ds.length=n/\wp (r ds l) G s):=by unfold gI;rw[fA]
def pA{g:CG}{r:List D->Loc->M Loc}{d:D}{ds:List D}{G:Loc->aZ->Prop}{s:aZ}{l:Loc}:wp (cL g r (d::ds) l) G s=wp (g d l) (λh c=>wp (r ds h) G c) s:=by unfold cL;rw[d8]
def vw{G:Loc->aZ->Prop}{s:aZ}{l:Loc}:wp (g8 [] l) G s=G l s:=cU rfl
def eJ(s c:aZ):Prop:=∃t,c=s++t
def eJ.refl(s:aZ):eJ s s:=⟨[],by simp⟩
def eJ.snoc(h:eJ s c)(o:MO):eJ s (c++[o]):=by let⟨t,e⟩:=h;exact⟨t++[o],by rw[e];simp⟩
def eJ.trans(h:eJ s g)(k:eJ g c):eJ s c:=by let⟨t,e⟩:=h;let⟨u,f⟩:=k;exact⟨t++u,by rw[f,e];simp⟩
def eJ.at_{n:Nat}(h:eJ s c)(k:s[n]?=some o):c[n]?=some o:=by let⟨t,e⟩:=h;rw[e,ao (ac.mp k).1];exact k
def Vo{α:Type}(f:α->Int)(xs:List α):n5 (xs.map λx=>.int (f x))=some (xs.map f):=by
 induction xs with|nil=>rfl|cons x xs ih=>simp only[aV,n5,ih];ac_rfl
def Pu{α:Type}{m:M α}{v:α}{Q:α->aZ->Prop}(h:wp m (λa c=>a=v/\c=s) s):wp m Q s=Q v s:=by
 simp only[sM]at *;cases e:m s with|ok a c=>rw[e]at h;let⟨l,g⟩:=h;subst l;subst g;ac_rfl|exc _ _=>rw[e]at h;exact h.elim|bad=>rw[e]at h;exact h.elim
def Yv{a b:Nat}{s:aZ}(g:s[a]?=some (.lst x))(c:s[b]?=some (.lst y)):wp (fF (.ref a) (.ref b)) Q s=(x.length+y.length<=eV/\Q (.ref s.length) (s++[.lst (x++y)])):=by unfold fF;rw[d8,fk g,d8,fk c,fA];ac_rfl
def zQ(x:D)(p q:Prop):Prop:=match x with| .bl true=>p| .bl false=>q|_=>False
def vy{p q:Prop}:zQ (.bl true) p q=p:=nr rfl
def vP{p q:Prop}:zQ (.bl false) p q=q:=nr rfl
section
variable{Q:D->aZ->Prop}{T:Bool->aZ->Prop}{s:aZ}{l:Loc}
def C9{a b:CE}:wp (vE a b l) Q s=wp (a l) (λx c=>zQ x (wp (b l) Q c) (Q (.bl false) c)) s:=by unfold vE;rw[d8];congr 1;funext x c;rcases x with _|b|_|_|_|_|_|_<;>first|bv_omega|(cases b<;>first|bv_omega)
def Ep{a b:CE}:wp (DG a b l) Q s=wp (a l) (λx c=>zQ x (Q (.bl true) c) (wp (b l) Q c)) s:=by unfold DG;rw[d8];congr 1;funext x c;rcases x with _|b|_|_|_|_|_|_<;>first|bv_omega|(cases b<;>first|bv_omega)
def EE{t:CT}{a b:CE}:wp (wW t a b l) Q s=wp (t l) (λc g=>if c=true then wp (a l) Q g else wp (b l) Q g) s:=by unfold wW;rw[d8];congr 1;funext c g;rw[Ik]
def By{b:Bool}:wp (zZ (.bl b)) T s=T b s:=cU rfl
def Ch{ds:List D}:wp (lE ds) Q s=Q (.tup ds) s:=cU rfl
def t5{d:D}{ds:List D}:wp (cY (d::ds) 0) Q s=Q d s:=by rw[Ei (d:=d) () rfl,cF]
def t7{d e:D}{ds:List D}:wp (cY (d::e::ds) 1) Q s=Q e s:=by rw[Ei (d:=e) () rfl,cF]
def z7{d e f:D}{ds:List D}:wp (cY (d::e::f::ds) 2) Q s=Q f s:=by rw[Ei (d:=f) () rfl,cF]
def Ab{d e f g:D}{ds:List D}:wp (cY (d::e::f::g::ds) 3) Q s=Q g s:=by rw[Ei (d:=g) () rfl,cF]
def uk{ds:List D}{i:Nat}{d:D}(h:ds[i]?=some d):wp (cY ds i) Q s=Q d s:=by rw[Ei (d:=d) () (by simpa using h),cF]
def C2{a:CA}{I:Wk->aZ->Prop}:wp (yS a l) I s=wp (a l) (λds c=>I ⟨ds,d6⟩ c) s:=by unfold yS;rw[d8];ac_rfl
end
noncomputable def bP(p:Prop):Bool:=@decide p (sI p)
def GZ{p:Prop}:bP p=true↔p:=by unfold bP;exact @decide_eq_true_iff p (sI p)
def Lb{p:Prop}(h:p):bP p=true:=GZ.mpr h
def Ll{p:Prop}(h:¬p):bP p=false:=by
 cases e:bP p with|false=>rfl|true=>exact (h (GZ.mp e)).elim
def Lo{p:Prop}(h:b=true↔p):b=bP p:=by
 cases b with|true=>exact (Lb (h.mp rfl)).symm|false=>exact (Ll λk=>by cases h.mpr k).symm
noncomputable def bA{α:Type}(n:Nat)(f:Nat->α):List α:=(bT n).map f
def vJ{α:Type}{n i:Nat}{f:Nat->α}(h:i < n):(bA n f)[i]?=some (f i):=by unfold bA;rw[av,lR h];ac_rfl
def DQ{α:Type}{n i:Nat}{f:Nat->α}{x:α}(h:(bA n f)[i]?=some x):i < n/\x=f i:=by
 let c:i < n:=by have:=(ac.mp h).1;simpa [bA] using this
 rw[vJ c]at h;cases h;exact⟨c,rfl⟩
def mH{α:Type}{n:Nat}{f:Nat->α}:(bA n f).length=n:=by simp[bA]
def A9{α:Type}{n:Nat}{f:Nat->α}:bA (n+1) f=bA n f++[f n]:=by unfold bA;rw[ij,bw];ac_rfl
def Ck{α:Type}{n:Nat}{xs:List α}{f:Nat->α}(g:xs.length=n)(h:∀i,i < n->xs[i]?=some (f i)):xs=bA n f:=by
 apply eW;intro i;by_cases c:i < n
 ·rw[h i c,vJ c]
 ·rw[bX (),bX (by rw[mH];ext)]
def zD{α:Type}{n:Nat}{f g:Nat->α}(h:∀i,i < n->f i=g i):bA n f=bA n g:=
 Ck mH λi c=>by rw[vJ c,h i c]
def Pt{α β:Type}{n:Nat}{f:Nat->α}{g:α->β}:(bA n f).map g=bA n λi=>g (f i):=by unfold bA;rw[iH];ac_rfl
def ue{n:Nat}:iL 0 n=bA n λi=>.int i:=by unfold iL bA;congr 1;funext k;simp
def QB{n:Nat}{f:Nat->Bool}:iU (bA n λi=>.bl (f i))=some (bA n f):=by
 have:∀(xs:List Nat),iU (xs.map λi=>.bl (f i))=some (xs.map f):=by
  intro xs
  induction xs with|nil=>rfl|cons x xs ih=>simp only[aV,iU,ih];ac_rfl
 exact this _
def Wl{n:Nat}{p:Nat->Prop}:wp (wK (bA n λi=>.bl (bP (p i)))) Q s=Q (.bl (bP (∀i,i < n->p i))) s:=by unfold wK;rw[QB];have:(bA n λi=>bP (p i)).all id=bP (∀i,i < n->p i):=Lo (by simp[bA,D8,GZ]);dsimp only;rw[this,cF]
def VB{n:Nat}{p:Nat->Prop}:wp (wY (bA n λi=>.bl (bP (p i)))) Q s=Q (.bl (bP (∃i,i < n/\p i))) s:=by unfold wY;rw[QB];have:(bA n λi=>bP (p i)).any id=bP (∃i,i < n/\p i):=Lo (by simp[bA,vn,GZ]);dsimp only;rw[this,cF]
def Ql{g:CG}{e:CE}{same:aZ->Prop}{ds:List D}{f:Nat->D}(I:Loc->Prop)(L:same s)(Y:I C)(h:∀i d l,ds[i]?=some d->I l->∃u,(∀G,wp (g d l) G s=G u s)/\I u/\∀Q,wp (e u) Q s=Q (f i) s):wp (collect g b7 e same ds C) Q s=Q (bA ds.length f) s:=by
 let chk:∀{R:Unit->aZ->Prop},R Unit.unit s->wp (chkS same) R s:=λr=>by rw[sM];unfold chkS;rw[aH L];exact r
 apply Pu;refine Lg (Q:=λc o=>c=bA ds.length f/\o=s) (λc xs l o=>∃i,xs=ds.drop i/\i<=ds.length/\I l/\c=bA i f/\o=s) (λc l o ⟨i,v,O,_,B,es⟩=>?_) (λc d xs l o ⟨i,v,O,U,B,es⟩=>?_) ds [] _ s ⟨0,by simp,bU _,Y,rfl,rfl⟩
 ·let : i = ds.length := by have:=c_ d7 v;simp at this;ext
  subst this;subst es;exact chk ⟨B,rfl⟩
 ·let q : i < ds.length := by have:=c_ d7 v;simp at this;ext
  rw[dZ q]at v;let⟨g,c⟩:=oC v;let⟨u,J,H,E⟩:=h i d l (by rw[g];exact ae q) U;subst es;refine chk ?_;rw[J]
  show wp (ret true) _ o;rw[cF]
  show wp (e u) _ o;rw[E];exact⟨i+1,c,q,H,by rw[B,A9],rfl⟩
def A3{e:CE}{same:aZ->Prop}{ds:List D}{caps:Loc}{f:Nat->D}{Q:List D->aZ->Prop}{s:aZ}(g:same s)(h:∀i d,ds[i]?=some d->∀Q,wp (e (some d::caps)) Q s=Q (f i) s):wp (collect (aS 0) b7 e same ds (none::caps)) Q s=Q (bA ds.length f) s:=
 Ql (λl=>∃x,l=x::caps) g ⟨none,rfl⟩ λi d l hd c=>by let⟨x,el⟩:=c;exact⟨some d::caps,λG=>by rw[el,ia];rfl,⟨_,rfl⟩,h i d hd⟩
def Cp{e:CE}{same:aZ->Prop}{ds:List D}{f:Nat->D}(g:same s)(h:∀i d,ds[i]?=some d->∃a b,d=.tup [a,b]/\∀Q,wp (e (some a::some b::caps)) Q s=Q (f i) s):wp (collect (gI 2 (cL (aS 0) (cL (aS 1) g8))) b7 e same ds (none::none::caps)) Q s=Q (bA ds.length f) s:=
 Ql (λl=>∃x y,l=x::y::caps) g ⟨none,none,rfl⟩ λi d l hd c=>by let⟨x,y,el⟩:=c;let⟨a,b,o,q⟩:=h i d hd;refine⟨some a::some b::caps,λG=>?_,⟨_,_,rfl⟩,q⟩;rw[o,el,vA,pA,ia,pA,ia,vw];exact propext ⟨λh=>h.2,λh=>⟨rfl,h⟩⟩
section
variable{n:Nat}{f:Nat->D}
def yN{i:Nat}(h:i < n):wp (cY (bA n f) (i:Int)) Q s=Q (f i) s:=uk (vJ h)
def W6(h:0 < n):wp (cY (bA n f) 0) Q s=Q (f 0) s:=by have:=@uk Q s (bA n f) 0 (f 0) (vJ h);simpa using this
end
def vN:d6 s:=trivial
def OZ{g:CG}{b:CS}{same:aZ->Prop}{n:Nat}{f:Nat->D}{l:Loc}{s:aZ}{Q:uU->aZ->Prop}(W:Nat->Loc->aZ->Prop)(v:∀i l s,W i l s->same s)(C:W 0 l s)(c:∀(i:Nat)l s,i < n->W i l s->wp (g (f i) l) (λu q=>wp (b u) (λf o=>match f with
   | .next l2=>W (i+1) l2 o| .cnt l2=>W (i+1) l2 o| .brk l2=>Q (.next l2) o
   | .ret d=>Q (.ret d) o) q) s) (h:∀l s,W n l s->Q (.next l) s):wp (o7 g b same (bA n f) l) Q s:=
 Pf W v C (λi d l s hd w=>by let⟨B,e⟩:=DQ hd;subst e;exact c i l s B w) (λl s w=>h l s (by rw[mH]at w;exact w))
def V_{e:CE}{n:Nat}{f:Nat->D}{same:aZ->Prop}{Q:List D->aZ->Prop}(W:Nat->List D->aZ->Prop)(o:∀i c s,W i c s->same s)(u:W 0 [] s)(g:∀(i:Nat)c s,i < n->W i c s->wp (e (some (f i)::caps)) (λx l=>W (i+1) (c++[x]) l) s) (h:∀c s,W n c s->Q c s):wp (collect (aS 0) b7 e same (bA n f) (none::caps)) Q s:=
 PP W o u (λi d c s hd w=>by let⟨q,e⟩:=DQ hd;subst e;exact g i c s q w) (λc s w=>h c s (by rw[mH]at w;exact w))
def yE{e:CE}{same:aZ->Prop}{n:Nat}{g:Nat->D}{f:Nat->D}(c:same s)(h:∀i,i < n->∀Q,wp (e (some (g i)::caps)) Q s=Q (f i) s):wp (collect (aS 0) b7 e same (bA n g) (none::caps)) Q s=Q (bA n f) s:=by
 rw[A3 (f:=f) c (λi d hd=>by let⟨l,e⟩:=DQ hd;subst e;exact h i l),mH]
def Yi{n:Nat}{f:Nat->D}:(iL 0 n).zipWith (λi d=>D.tup [i,d]) (bA n f)=bA n λi=>.tup [.int i,f i]:=by
 apply Ck
 ·simp[iL,bA]
 ·intro i c;rw[d9,UK c,vJ c]
section
variable{Q:D->aZ->Prop}{A:List D->aZ->Prop}{s:aZ}{l:Loc}
def yB{a b:CE}: wp (e_ a b l) Q s=wp (a l) (λx h=>match x with
  | .ref n=>wp (b l) (λv g=>wp (getL n) (λds c=>ds.length < eV/\wp (putL n (ds++[v])) (λ_ o=>Q .non o) c) g) h
  |_=>False) s:=by
 unfold e_;rw[d8];congr 1;funext x h;cases x<;>first|bv_omega|(dsimp only;rw[d8];congr 1;funext v g;unfold v_;rw[d8];congr 1;funext ds c;rw[fA,d8];first|ac_rfl|(refine c_ _ ?_;refine nG λ_ _=>?_;simp only[cF,gZ,ib]))
def Fs{a:CE}: wp (u7 a l) Q s=wp (a l) (λx g=>match x with
  | .ref n=>wp (getL n) (λds c=>match ds.getLast? with
   |some d=>wp (putL n ds.dropLast) (λ_ h=>Q d h) c
   |none=>False) g
  |_=>False) s:=by
 unfold u7;rw[d8];congr 1;funext x g;cases x<;>first|bv_omega|(dsimp only;rw[d8];congr 1;funext ds c;cases ds.getLast?<;>first|bv_omega|(dsimp only;rw[d8];first|ac_rfl|(refine c_ _ ?_;refine nG λ_ _=>?_;simp only[cF,gZ,ib])))
def Dd{a:CE}: wp (uJ a l) A s=wp (a l) (λx c=>match x with
  | .ref n=>wp (getL n) (λds g=>A ds.reverse g) c
  |_=>False) s:=by
 unfold uJ;rw[d8];congr 1;funext x c;cases x<;>first|bv_omega|(dsimp only;rw[d8];first|ac_rfl|(refine c_ _ ?_;refine nG λ_ _=>?_;simp only[cF,gZ,ib]))
def yW{n:Nat}:wp (tupleD (.ref n)) Q s=wp (getL n) (λds c=>Q (.tup ds) c) s:=by unfold tupleD;rw[d8];(try dsimp only);(try rw[d8]);refine nG λ_ _=>?_;simp only[cF,gZ,ib]
def zS{a b:Str}:wp (nj (.str a) (.str b)) Q s=Q (.bl (a == b)) s:=cU rfl
def EI{i:Int}:wp (uW (.int i)) Q s=Q (.int (-i)) s:=cU rfl
def Cz{i j:Int}:wp (wu (.int i) (.int j)) Q s=Q (.int (min i j)) s:=cU rfl
def Cd{a b:CE}{I:Wk->aZ->Prop}: wp (MM.n8 a b l) I s=wp (a l) (λx g=>wp (b l) (λy c=>match x,y with
  | .int i,.int j=>((-(2^62)<=i/\i < 2^62)/\(-(2^62)<=j/\j < 2^62))/\I ⟨iL i (j-i).toNat,d6⟩ c
  |_,_=>False) g) s:=by
 unfold MM.n8;rw[d8];congr 1;funext x g;rw[d8];congr 1;funext y c;cases x<;>first|bv_omega|skip
 cases y<;>first|bv_omega|(dsimp only;rw[fA];first|ac_rfl|(refine c_ _ ?_;refine nG λ_ _=>?_;simp only[cF,gZ,ib]))
def Dc{x y:List D}:wp (fF (.tup x) (.tup y)) Q s=(x.length+y.length<=eV/\Q (.tup (x++y)) s):=by unfold fF;rw[fA];first|ac_rfl|(refine c_ _ ?_;refine nG λ_ _=>?_;simp only[cF,gZ,ib])
def yH{a:CA}{b:CE}: wp (nh a b l) Q s=wp (a l) (λds g=>wp (b l) (λi c=>match i with
  | .int k=>wp (cY ds k) Q c
  |_=>False) g) s:=by
 unfold nh;rw[d8];congr 1;funext ds g;rw[d8];congr 1;funext i c;cases i<;>first|bv_omega
def UC:wp (yT x ds) Q s=((mn x=true/\ds.all mn=true)/\Q (.bl !(ds.any λd=>wP d x)) s):=by unfold yT;rw[fA];first|ac_rfl|(refine c_ _ ?_;refine nG λ_ _=>?_;simp only[cF,gZ,ib])
end
def Gh{p q:Prop}:(if false=true then p else q)=q:=aD (by simp)
noncomputable def mx(f:Nat->Nat):Nat->Nat
 |0=>0|n+1=>max (mx f n) (f n)
def Ib{f:Nat->Nat}{n m:Nat}(h:∀i,i < n->f i<=m):mx f n<=m:=by
 induction n with|zero=>exact bU _|succ n ih=>unfold mx;exact Nat.max_le.mpr ⟨ih λi c=>h i (),h n ()⟩
def MJ{f:Nat->Nat}{n i:Nat}(h:i < n):f i<=mx f n:=by
 induction n with|zero=>ext|succ n ih=>
  unfold mx;by_cases e:i=n
  ·subst e;exact AV _ _
  ·exact cW (ih ()) (Bs _ _)
def M6{f:Nat->Nat}{n:Nat}(g:0 < n):wp (n0 (bA n λi=>.int (f i:Nat))) Q s=Q (.int (mx f n:Nat)) s:=by
 obtain⟨k,rfl⟩:∃k,n=k+1:=⟨n-1,by ext⟩
 let c:∀(k:Nat),(((bT k).map (· + 1)).map λ(i:Nat)=>((f i:Nat):Int)).foldl max ((f 0:Nat):Int)=((mx f (k+1):Nat):Int):=by
  intro k
  induction k with|zero=>show ((f 0:Nat):Int)=((max 0 (f 0):Nat):Int);ext|succ k ih=>
   rw[ij,bw,bw,m5,ih]
   show max ((mx f (k+1):Nat):Int) ((f (k+1):Nat):Int)=((max (mx f (k+1)) (f (k+1)):Nat):Int)
   ext
 unfold n0 bA;rw[Vo (λi=>((f i:Nat):Int)),nW,aV];dsimp only;rw[cF,<- c k]
def eJ.put{n:Nat}(h:eJ s c)(g:s.length<=n):eJ s (c.set n o):=by let⟨t,e⟩:=h;exact⟨t.set (n-s.length) o,by rw[e,v7 _ _ g]⟩
def eJ.le(h:eJ s c):s.length<=c.length:=by let⟨t,e⟩:=h;rw[e];simp
theorem Kb:∀(n:Nat)(l:Loc)(s:aZ),fC t b n l s≠.bad->fC t b (n+1) l s=fC t b n l s
 |0,l,s,h=>(h rfl).elim
 |n+1,l,s,h=>by
  let g:∀k,fC t b (k+1) l s=(match t l s with
   | .ok true s1=>(match b l s1 with
    | .ok (.next l2) s2=>fC t b k l2 s2| .ok (.cnt l2) s2=>fC t b k l2 s2| .ok (.brk l2) s2=>.ok (.next l2) s2| .ok (.ret d) s2=>.ok (.ret d) s2| .exc x s2=>.exc x s2
    | .bad=>.bad)
   | .ok false s1=>.ok (.next l) s1| .exc x s1=>.exc x s1
   | .bad=>.bad):=λk=>by
   show bnd (t l) _ s=_;unfold bnd;cases t l s with|exc x s1=>rfl|bad=>rfl|ok c s1=>
    cases c with|false=>rfl|true=>
     show (bnd (b l) _) s1=_;unfold bnd;dsimp only;cases b l s1 with|exc x s2=>rfl|bad=>rfl|ok f s2=>cases f<;>first|bv_omega
  rw[g (n+1),g n];rw[g n]at h;cases o:t l s with|exc x s1=>rfl|bad=>rfl|ok c s1=>
   rw[o]at h;cases c with|false=>rfl|true=>
    dsimp only at h ⊢;cases q:b l s1 with|exc x s2=>rfl|bad=>rfl|ok f s2=>
     rw[q]at h;cases f with|next l2=>exact Kb n l2 s2 h|cnt l2=>exact Kb n l2 s2 h|brk l2=>rfl|ret d=>rfl
def Qy{n m:Nat}(h:fC t b n l s≠.bad)(c:n<=m):fC t b m l s=fC t b n l s:=by
 induction m with
 | zero => have : n = 0 := by ext
           subst this;ac_rfl
 |succ m ih=>
  by_cases e:n=m+1
  ·subst e;ac_rfl
  ·have:=ih ();rw[Kb m l s (by rw[this];exact h),this]
def Z9{t:CT}{b:CS}{Q:uU->aZ->Prop}{l:Loc}{s:aZ}(W:Loc->aZ->Prop)(μ:Loc->aZ->Nat)(J:W l s)(H:∀l s,W l s->wp (t l) (λc B=>if c=true then wp (b l) (λf o=>match f with
   | .next l2=>W l2 o/\μ l2 o < μ l s| .cnt l2=>W l2 o/\μ l2 o < μ l s| .brk l2=>Q (.next l2) o
   | .ret d=>Q (.ret d) o) B else Q (.next l) B) s):wp (kK t b l) Q s:=by
 let key:∀(k:Nat)(l:Loc)(s:aZ),μ l s < k->W l s->∃n,wp (fC t b n l) Q s:=by
  intro k
  induction k with
  |zero=>intro l s h;ext
  |succ k ih=>
   intro l s L w;let v:=H l s w;rw[sM]at v;cases C:t l s with|exc x B=>rw[C]at v;exact v.elim|bad=>rw[C]at v;exact v.elim|ok c B=>
    rw[C]at v;cases c with
    |false=>
     refine⟨1,?_⟩
     show wp (bnd (t l) _) Q s;rw[d8,cU C]
     show wp (ret _) _ _;rw[cF];exact v
    |true=>
     let g:wp (b l) _ B:=v;rw[sM]at g;cases E:b l B with|exc x o=>rw[E]at g;exact g.elim|bad=>rw[E]at g;exact g.elim|ok f o=>
      rw[E]at g;let go:∀(n:Nat),wp (match f with
       | .next l2=>fC t b n l2| .cnt l2=>fC t b n l2| .brk l2=>ret (.next l2)
       | .ret d=>ret (.ret d)) Q o->wp (fC t b (n+1) l) Q s:=λn q=>by
       show wp (bnd (t l) _) Q s;rw[d8,cU C,aH rfl,d8,cU E];exact q
      cases f with|next l2=>let⟨n,u⟩:=ih l2 o (by have:=g.2;ext) g.1;exact⟨n+1,go n u⟩|cnt l2=>let⟨n,u⟩:=ih l2 o (by have:=g.2;ext) g.1;exact⟨n+1,go n u⟩|brk l2=>exact⟨1,go 0 (by show wp (ret _) _ _;rw[cF];exact g)⟩|ret d=>exact⟨1,go 0 (by show wp (ret _) _ _;rw[cF];exact g)⟩
 let⟨n,u⟩:=key (μ l s+1) l s (iN _) J;let G:fC t b n l s≠.bad:=λe=>by rw[sM]at u;rw[e]at u;exact u
 let ex:∃n,∀r,fC t b n l s=r->r≠.bad:=⟨n,λr e=>e ▸ G⟩
 rw[sM];unfold kK;rw[dif_pos ex];let I:fC t b (ky ex) l s≠.bad:=Classical.choose_spec ex _ rfl;let e:fC t b (ky ex) l s=fC t b n l s:=by rw[<- Qy I (Bs (ky ex) n),<- Qy G (AV (ky ex) n)]
 rw[e];rw[sM]at u;exact u
def P7{α:Type}{n:Nat}{x:α}{f:Nat->α}: x::bA n f=bA (n+1) λd=>match d with|0=>x|d+1=>f d:=by
 unfold bA;rw[nW,aV,iH];ac_rfl
theorem Pz{lo:Int}{n:Nat}:iL lo n=bA n λi=>.int (lo+i):=rfl
section
variable{α β:Type}{γ:Sort _}
def ER{p:Prop}[Decidable p]:(decide p=true)=p:=_root_.decide_eq_true_eq
def MA{n:Nat}{a:α}:bQ (n+1) a=a::bQ n a:=nr rfl
def M5{a:α}:bQ 0 a=[]:=nr rfl
def JJ{x:Option α}:(some x).join=x:=nr rfl
def MW{f:α->β}{a:α}{l:List α}:Bt f (a::l)=f a::Bt f l:=nr rfl
def Mo{f:α->β}:Bt f []=[]:=nr rfl
def JS{a:α}{l k:List α}:(a::l)++k=a::(l++k):=nr rfl
def K9{l:List α}:[]++l=l:=nr rfl
def K7{a:α}{l:List α}:(a::l)[0]?=some a:=nr rfl
def Kv{a:α}{l:List α}{i:Nat}:(a::l)[i+1]?=l[i]?:=by simp
def K6{a b:α}{l:List α}:(a::l).set 0 b=b::l:=nr rfl
def Ma{a b:α}{l:List α}{i:Nat}:(a::l).set (i+1) b=a::l.set i b:=nr rfl
def Lz{a:α}{l:List α}:(a::l).length=l.length+1:=nr rfl
def Kr:([]:List α).length=0:=nr rfl
def LB{c d:γ}:(if True then c else d)=c:=aH trivial
def L8{c d:γ}:(if False then c else d)=d:=aD (λh=>h)
def KU{p:Prop}:(p/\True)=p:=and_true p
def LZ{p:Prop}:(True/\p)=p:=true_and p
def L0:(!true)=false:=nr rfl
def LO:(!false)=true:=nr rfl
end
section
variable{Q:D->aZ->Prop}{U:Unit->aZ->Prop}{s:aZ}{l:Loc}
def zx{n:Nat}{Q:Bool×List (D×D)->aZ->Prop}(h:s[n]?=some (.dct b c)):wp (getDc n) Q s=Q (b,c) s:=by rw[sM];unfold getDc;rw[h]
def O3{n:Nat}{Q:Unit->aZ->Prop}(h:s[n]?=some (.dct b g)):wp (tG n b c) Q s=Q Unit.unit (s.set n (.dct b c)):=by rw[sM];unfold tG;rw[h];simp
def DM{n:Nat}(h:s[n]?=some (.dct b c))(o:oY b k=true)(g:m_ c k=some d):wp (itemK n k) Q s=Q d s:=by unfold itemK;rw[d8,zx h,fA];dsimp only;rw[g,cF];exact propext ⟨λh=>h.2,λh=>⟨o,h⟩⟩
def Ls{n:Nat}(h:s[n]?=some (.dct b c))(o:oY b k=true)(g:c.length < eV):wp (storeK n k v) U s=U Unit.unit (s.set n (.dct b (mK c k v))):=by unfold storeK;rw[d8,zx h,fA];dsimp only;rw[O3 h];exact propext ⟨λh=>h.2,λh=>⟨⟨o,g⟩,h⟩⟩
def LA{n:Nat}{Q:Bool->aZ->Prop}(h:s[n]?=some (.dct b c))(g:oY b k=true):wp (hasK n k) Q s=Q (m_ c k).isSome s:=by unfold hasK;rw[d8,zx h,fA,cF];exact propext ⟨λh=>h.2,λh=>⟨g,h⟩⟩
def Ak{n:Nat}{k:D}:wp (aW (.dic n) k) Q s=wp (itemK n k) Q s:=by cases k<;>first|bv_omega
def BQ{n:Nat}{k v:D}:wp (ke (.dic n) k v) U s=wp (storeK n k v) U s:=by cases k<;>first|bv_omega
def AC{n:Nat}{k:D}:wp (qY k (.dic n)) Q s=wp (hasK n k) (λb c=>Q (.bl !b) c) s:=by unfold qY;rw[d8];ac_rfl
def NV{n:Nat}(h:s[n]?=some (.dct b c)):wp (gO (.dic n)) Q s=Q (.int c.length) s:=by unfold gO;rw[d8,zx h];ac_rfl
def C7{b:Bool}:wp (rS b l) Q s=Q (.dic s.length) (s++[.dct b []]):=cU rfl
end
def pW{α:Type}{l:List α}{a:α}:(l++[a])[l.length]?=some a:=by rw[aE (aw _),eE];ac_rfl
def uY{α:Type}{l:List α}{a b:α}{n:Nat}(h:l[n]?=some a):(l++[b])[n]?=some a:=by rw[ao (ac.mp h).1];exact h
end MM
noncomputable def MM.xP:=aJ @MM.uR<|aJ @MM.BN<|aJ @MM.xY<|aJ @MM.FA<|aJ @MM.GL<|aJ @MM.Hb<|aJ @MM.Be<|aJ @MM.C9<|aJ @MM.Ep<|aJ @MM.EE<|aJ @MM.By<|aJ @MM.Ch<|aJ @MM.t5<|aJ @MM.t7<|aJ @MM.z7<|aJ @MM.Ab<|aJ @MM.C2<|aJ @MM.CZ<|aJ @MM.vA<|aJ @MM.pA<|aJ @MM.vw<|aJ @MM.zT<|aJ @MM.Cq<|aJ @MM.C6<|aJ @MM.F6<|aJ @MM.Ho<|aJ @MM.E1<|aJ @MM.JR<|aJ @MM.I_<|aJ @MM.MQ<|aJ @MM.L_<|aJ @MM.Nd<|aJ @MM.EN<|aJ @MM.Fq<|aJ @MM.MB<|aJ @MM.Kd<|aJ @MM.G_<|aJ @MM.FT<|aJ @MM.FZ<|aJ @MM.ES<|aJ @MM.Cy<|aJ @MM.GY<|aJ @MM.AD<|aJ @MM.J1<|aJ @MM.Ki<|aJ @MM.LC<|aJ @MM.GS<|aJ @MM.J8<|aJ @MM.Ko<|aJ @MM.MG<|aJ @MM.JL<|aJ @MM.Eh<|aJ @MM.Fb<|aJ @MM.wc<|aJ @MM.Mz<|aJ @MM.E7<|aJ @MM.yY<|aJ @MM.Bf<|aJ @MM.yL<|aJ @MM.Gj<|aJ @MM.B9<|aJ @MM.BR<|aJ @MM.EC<|aJ @MM.BG<|aJ @MM.Hl<|aJ @MM.EB<|aJ @MM.BK<|aJ @MM.A6<|aJ @MM.Ez<|aJ @MM.Hc<|aJ @MM.FX<|aJ @MM.Fg<|aJ @MM.MY<|aJ @MM.Mb<|aJ @MM.Ke<|aJ @MM.M_<|aJ @MM.ud<|aJ @MM.AH<|aJ @MM.yz<|aJ @MM.B8<|aJ @MM.Ct<|aJ @MM.ul<|aJ @MM.B2<|aJ @MM.Af<|aJ @MM.x_<|aJ @MM.cF<|aJ @MM.fA<|aJ @MM.gZ<|aJ @MM.yB<|aJ @MM.Fs<|aJ @MM.Dd<|aJ @MM.yW<|aJ @MM.zS<|aJ @MM.EI<|aJ @MM.Cz<|aJ @MM.Cd<|aJ @MM.Dc<|aJ @MM.yH<|aJ @MM.Ak<|aJ @MM.BQ<|aJ @MM.AC<|@MM.C7
local macro_rules
 | `(tactic| simp![$a,*])=>`(tactic| simp only[↓MM.xP,MM.ia,MM.lN,MM.vy,MM.vP,MM.ER,MM.MA,MM.M5,MM.JJ,MM.MW,MM.Mo,MM.JS,MM.K9,MM.K7,MM.Kv,MM.K6,MM.Ma,MM.Lz,MM.Kr,Nat.reduceAdd,Nat.reduceSub,Int.reduceLE,Int.reduceLT,MM.LB,MM.L8,MM.KU,MM.LZ,beq_iff_eq,MM.Gh,MM.L0,MM.LO,Nat.reduceLT,Nat.reduceLeDiff,$a,*])
namespace MM
open PySem
theorem A0:∀(N:Nat)(l:List Nat),l.Nodup->(∀x∈l,x < N)->l.length<=N
 |0,l,_,h=>by
  cases l with|nil=>exact aw _|cons x xs=>exact bh (h x (by simp)) (tq _)
 |N+1,l,hn,h=>by
  by_cases o:N∈l
  ·let q := A0 N (l.erase N) (hn.erase N) (λx g => by have c:=(hn.mem_erase_iff).mp g;have:=h x c.2;have:=c.1;ext)
   rw[List.length_erase_of_mem o]at q;ext
  ·let q := A0 N l hn (λx g => by have:=h x g;have:x≠N:=λe=>o (e ▸ g);ext)
   ext
noncomputable def pr:List Nat->Nat
 |[]=>1|b::bs=>b*pr bs
def qh:List Nat->List Nat->Nat
 |b::bs,x::xs=>x*pr bs+qh bs xs|_,_=>0
theorem Ig:∀{bs xs:List Nat},xs.length=bs.length->(∀(i b x:Nat),bs[i]?=some b->xs[i]?=some x->x < b)->qh bs xs < pr bs
 |[],[],_,_=>by simp[qh,pr]
 |b::bs,x::xs,hl,h=>by
  let o:=Ig (bs:=bs) (xs:=xs) (by simpa using hl) λi b x g c=>h (i+1) b x (by simpa using g) (by simpa using c);let l:=h 0 b x rfl rfl
  show x*pr bs+qh bs xs < b*pr bs;have:(x+1)*pr bs<=b*pr bs:=Nat.mul_le_mul_right _ l;rw[Nat.succ_mul]at this;ext
theorem Nv:∀{bs xs ys:List Nat},xs.length=bs.length->ys.length=bs.length->(∀(i b x:Nat),bs[i]?=some b->xs[i]?=some x->x < b)->(∀(i b x:Nat),bs[i]?=some b->ys[i]?=some x->x < b)->qh bs xs=qh bs ys->xs=ys
 |[],[],[],_,_,_,_,_=>rfl
 |b::bs,x::xs,y::ys,hl,hl2,hx,hy,e=>by
  let g:∀(i b x:Nat),bs[i]?=some b->xs[i]?=some x->x < b:=λi b x l h=>hx (i+1) b x (by simpa using l) (by simpa using h);let c:∀(i b x:Nat),bs[i]?=some b->ys[i]?=some x->x < b:=λi b x l h=>hy (i+1) b x (by simpa using l) (by simpa using h);let B:=Ig (bs:=bs) (xs:=xs) (by simpa using hl) g;let v:=Ig (bs:=bs) (xs:=ys) (by simpa using hl2) c;let C:x*pr bs+qh bs xs=y*pr bs+qh bs ys:=e;let q:x=y/\qh bs xs=qh bs ys:=by
   generalize pr bs=p at C B v;let u:0 < p:=by ext
   let a1:(x*p+qh bs xs) / p=x:=by rw[rA,Bu u,AW B];simp
   let E:(y*p+qh bs ys) / p=y:=by rw[rA,Bu u,AW v];simp
   let o:x=y:=by rw[<- a1,<- E,C]
   subst o;exact⟨rfl,by ext⟩
  rw[q.1,Nv (by simpa using hl) (by simpa using hl2) g c q.2]
theorem MV:∀(a b:List Nat),mW (a.map λn:Nat=>.int n) (b.map λn:Nat=>.int n)=decide (a=b)
 |[],[]=>by simp[mW]|[],_::_=>by simp[mW]|_::_,[]=>by simp[mW]
 |x::xs,y::ys=>by
  rw[aV,aV]
  show (oM (.int x) (.int y)&&mW _ _)=_;rw[MV xs ys]
  show (decide ((x:Int)=y)&&_)=_;have:decide ((x:Int)=y)=decide (x=y):=decide_eq_decide.mpr ();rw[this];simp[oq]
theorem OC:∀(a:List Nat),pF (a.map λn:Nat=>.int n)=some (a.map λn:Nat=>(n:Int))
 |[]=>rfl|x::xs=>by rw[aV,aV];unfold pF;rw[OC xs];rfl
def UZ(a b:List Nat):oY true (.tup [.tup (a.map λn:Nat=>.int n),.tup (b.map λn:Nat=>.int n)])=true:=by show (n6 [.tup (a.map λn:Nat=>.int n),.tup (b.map λn:Nat=>.int n)]).isSome=true;simp only[n6,OC];rfl
def R4(a b c d:List Nat):oM (.tup [.tup (a.map λn:Nat=>.int n),.tup (b.map λn:Nat=>.int n)]) (.tup [.tup (c.map λn:Nat=>.int n),.tup (d.map λn:Nat=>.int n)])=(decide (a=c)&&decide (b=d)):=by show (mW (a.map _) (c.map _)&&(mW (b.map _) (d.map _)&&true))=_;rw[MV,MV,Bool.and_true]
end MM
namespace MM
def vp{g:CG}{b:CS}{same:aZ->Prop}{xs:List D}{Q:uU->aZ->Prop}(W:Nat->Loc->aZ->Prop)(B:∀i l s,W i l s->same s)(C:W 0 l s)(c:∀(R:uU->aZ->Prop)(i:Nat)d l s,(∀{q h},W (i+1) q h->R (.next q) h)->(∀{d h},Q (.ret d) h->R (.ret d) h)->xs[i]?=some d->W i l s->wp (g d l) (λv u=>wp (b v) R u) s) (o:∀l s,W xs.length l s->Q (.next l) s):wp (o7 g b same xs l) Q s:=
 Pf W B C (λi d l s hd w=>c _ i d l s (λz=>z) (λz=>z) hd w) o
def C1{t:CT}{b:CS}{Q:uU->aZ->Prop}(W:Loc->aZ->Prop)(μ:Loc->aZ->Nat)(v:W l s)(u:∀(R:uU->aZ->Prop)l s,(∀{g h},W g h->μ g h < μ l s->R (.next g) h)->(∀{d o},Q (.ret d) o->R (.ret d) o)->W l s->wp (t l) (λc q=>if c=true then wp (b l) R q else Q (.next l) q) s):wp (kK t b l) Q s:=
 Z9 W μ v λl s w => u (λf h => match f with
   | .next g=>W g h/\μ g h < μ l s| .cnt g=>W g h/\μ g h < μ l s| .brk g=>Q (.next g) h
   | .ret d=>Q (.ret d) h) l s (λa b=>⟨a,b⟩) (λz=>z) w
def CK{g:CG}{b:CS}{same:aZ->Prop}{n:Nat}{f:Nat->D}{Q:uU->aZ->Prop}(W:Nat->Loc->aZ->Prop)(B:∀i l s,W i l s->same s)(E:W 0 l s)(c:∀(R:uU->aZ->Prop)(i:Nat)l s,(∀{q o},W (i+1) q o->R (.next q) o)->i < n->W i l s->wp (g (f i) l) (λv u=>wp (b v) R u) s) (h:∀l s,W n l s->Q (.next l) s):wp (o7 g b same (bA n f) l) Q s:=
 OZ W B E (λi l s C w=>c _ i l s (λz=>z) C w) h
def IG{e:CE}{n:Nat}{f:Nat->D}{same:aZ->Prop}{Q:List D->aZ->Prop}(W:Nat->List D->aZ->Prop)(o:∀i c s,W i c s->same s)(u:W 0 [] s)(g:∀(R:D->aZ->Prop)(i:Nat)c s,(∀{x l},W (i+1) (c++[x]) l->R x l)->i < n->W i c s->wp (e (some (f i)::caps)) R s) (h:∀c s,W n c s->Q c s):wp (collect (aS 0) b7 e same (bA n f) (none::caps)) Q s:=V_ W o u (λi c s q w=>g _ i c s (λz=>z) q w) h
structure qL(s:aZ)(A:List Nat)(v:aZ)(C:List (List D)):Prop where
 le:s.length<=v.length
 len:A.length=C.length
 oth:∀k,k < s.length->k∉A->v[k]?=s[k]?
 at_:∀(i a:Nat)(ds:List D),A[i]?=some a->C[i]?=some ds->v[a]?=some (.lst ds)
section
variable{i a n:Nat}
def qL.nil:qL s [] s []:=⟨aw _,rfl,λ_ _ _=>rfl,λ_ _ _ h=>by simp at h⟩
def qL.snoc'{w:aZ}(K:qL s A v C)(l:v.length<=w.length)(o:∀k,k < v.length->w[k]?=v[k]?)(g:w[a]?=some (.lst ds)):qL s (A++[a]) w (C++[ds]):=by
 refine⟨cW K.le l,by simp[K.len],λk q B=>(o k (bb q K.le)).trans (K.oth k q λz=>B (by simp[z])),λi b es c h=>?_⟩;by_cases u:i < A.length
 ·rw[ao u]at c;rw[ao (K.len ▸ u)]at h;have:=K.at_ i b es c h;rw[o b (ac.mp this).1];exact this
 ·rw[aE ()]at c;rw[aE (by rw[<- K.len];ext),<- K.len]at h;cases e:i-A.length with|zero=>rw[e]at c h;cases c;cases h;exact g|succ n=>rw[e]at c;simp at c
def qL.old(K:qL s A v C)(g:v[a]?=some (.lst ds)):qL s (A++[a]) v (C++[ds]):=K.snoc' (aw _) (λ_ _=>rfl) g
def qL.snoc(K:qL s A v C)(h:v.length=n):qL s (A++[n]) (v++[.lst ds]) (C++[ds]):=K.snoc' (by simp) (λk c=>ao c) (by subst h;exact pW)
def qL.put(K:qL s A v C)(q:A.Nodup)(h:A[i]?=some a):qL s A (v.set a (.lst es)) (C.set i es):=by
 refine⟨by rw[dq];exact K.le,by rw[dq];exact K.len,λk u l=>?_,λj b ds g c=>?_⟩
 ·rw[aB λe:a=k=>l (by rw[<- e];exact ax h)];exact K.oth k u l
 ·by_cases e:i=j
  ·subst e;rw[h]at g;cases g;let o:i < C.length:=K.len ▸ (ac.mp h).1;rw[aF o]at c;cases c;exact aF (ac.mp (K.at_ i a _ h (ae o))).1
  ·rw[aB e]at c;rw[aB λz=>e ((eX (ac.mp h).1 q).mp (by rw[h,g,z]))];exact K.at_ j b ds g c
def qL.cg(K:qL s A v C)(h:C=C'):qL s A v C':=h ▸ K
theorem qL.ext(K:qL s A v C)(x:eJ s0 s)(h:∀a∈A,s0.length<=a):eJ s0 v:=by
 let g:=x.le;refine⟨v.drop s0.length,eW λk=>?_⟩;by_cases c:k < s0.length
 ·rw[ao c,K.oth k () λz=>by have:=h k z;ext];exact (x.at_ (ae c)).trans (ae c).symm
 ·have:=K.le;rw[aE (),mD,show s0.length+(k-s0.length)=k by ext]
end
def uM(c g h:CE):CS:=λl=>bnd (c l) λo=>bnd (g l) λi=>match o,i with| .ref n,.int k=>bnd (getL n) λds=>bnd (cY ds k) λx=>bnd (h l) λy=>bnd (uX x y) λz=>bnd (ke (.ref n) (.int k) z) λ_=>ret (.next l)|_,_=>bad
def rX(a:CE):CI:=λl=>bnd (a l) λx=>match x with| .dic n=>bnd (getDc n) λp=>chk (p.1=true) (ret ⟨p.2.map λq=>.tup [q.1,q.2],λs=>s[n]?=some (.dct true p.2)⟩)|_=>bad
def yF(a:CE):CI:=λl=>bnd (a l) λx=>match x with| .ref n=>bnd (getL n) λds=>ret ⟨ds.reverse,λs=>s[n]?=some (.lst ds)⟩|_=>bad
def oy(a b:CE):CE:=λl=>bnd (a l) λo=>match o with
 | .ref n=>bnd (b l) λx=>bnd (getL n) λds=>match x,iU ds with| .bl k,some bs=>chk (bs.contains k=true/\bs.length<=eV) (ret (.int (bs.findIdx (· == k):Nat)))|_,_=>bad
 |_=>bad
def Iz:D->Option (D×D)
 | .tup [k,v]=>if oY true k=true then some (k,v) else none|_=>none
def p_:List D->Option (List (D×D))
 |[]=>some []|d::ds=>(Iz d).bind λp=>(p_ ds).map (p::·)
def lK(ds:List D):M D:=match p_ ds with|some ps=>chk (ps.length<=1000) (t9 true (tJ [] ps))|none=>bad
open PySem
def tz(g:CA)(c:CE):CE:=λl=>bnd (g l) λds=>bnd (c l) λd=>if ds.length=0 then ret d else n0 ds
def rV(d e:D):M D:=match d,e with| .ref m,.ref n=>bnd (getL m) λks=>bnd (getL n) λc=>lK (ks.zipWith (λp q=>.tup [p,q]) c)|_,_=>bad
def getDf(n:Nat):M (List (D×D)):=λs=>match s[n]? with|some (.dct true a6)=>.ok a6 s|some (.dcf a6)=>.ok a6 s|_=>.bad
noncomputable def yA:D->Prop
 | .int _=>True|_=>False
open Classical in
def vD(d e:D):M D:=match d,e with| .dic m,.dic n=>bnd (getDf m) λa=>bnd (getDf n) λb=>chk (a=b/\∀p∈a,yA p.2) (ret (.bl false))|_,_=>bad
end MM
namespace MM
def kh(a:CE)(lo c:CO):CE:=λl=>bnd (a l) λx=>bnd (lo l) λi=>bnd (c l) λj=>match x with| .tup ds=>ret (.tup (cutD ds i j))|_=>bad
end MM
namespace HT
open PySem PySem.Spec PyProof.Rows L2
section
variable{s:am}
def pO{lo l:Option Int}{Q:ag->am->Prop}(g:xO s.heap t items)(H:s.heap.IsSliceOf o C B .none)(J:qu C lo)(I:qu B l)(G:gU items.size 0 lo=0/\gU items.size items.size l=items.size) (h:Q (.ref t) s):aG (aY prog w) A (nU (.ref t) (.ref o)) Q E s:=by
 let⟨os,q,u,L⟩:=id H;let v:s.TypeIs (.ref o) "slice":=⟨os,q,u⟩
 unfold nU
 try with_reducible refine bV ?_
 first|refine ab (ai ?_)|skip
 refine ab (sV g.typeIs (by decide) ?_);refine ab (bN (name:=az "__getitem__") g.typeIs dM
  (b_ dM g.typeIs Bm ?_ (Dh _ _)))
 show aG _ _ (kT (.ref t) >>= _) _ _ s;refine ab (tupleItemsOf_ g ?_);refine ab (gF v ?_);rw[aH (by decide)];refine ab (Pa H J I ?_);let c:((((gU items.size 0 lo:Nat):Int) == 0&&(1:Int) == 1&&(gU items.size items.size l-gU items.size 0 lo) == items.size)=true):=by rw[G.1,G.2];simp
 show aG _ _ (if (((gU items.size 0 lo:Nat):Int) == 0&&(1:Int) == 1&&(gU items.size items.size l-gU items.size 0 lo) == items.size)=true then _ else _) _ _ s;rw[aH c];unfold Builtin.Tuple.tupleIsExact;refine ab (ab (gF g.typeIs ?_));refine ai ?_;rw[aH (by decide)];exact ab (fV (ai ⟨_,rfl,ai h⟩))
end
end HT
namespace MM
open PySem PySem.Spec PyProof.Rows L2
section
def Ni(K:ah):V->Option Int->Option Int->Hp->VK->Prop:=λx lo c H Q=>∃a xs,x=.ref a/\ml K H a xs/\((HT.gU xs.length 0 lo=0/\HT.gU xs.length xs.length c=xs.length)->Q (.ref a) H) /\
 (¬ (HT.gU xs.length 0 lo=0/\HT.gU xs.length xs.length c=xs.length)->∀p,H p=none->Q (.ref p) (fE H p (.tup (t8 xs lo c))))
def Vq:Ir X (Ni X.K):=by
 intro c s σ H x v L J lo G O Q I o E u q h;let⟨a,xs,rfl,B,Y,U⟩:=h;by_cases l:HT.gU xs.length 0 lo=0/\HT.gU xs.length xs.length G=xs.length
 ·cases o;let⟨its,r,C,hz⟩:=I.tuple B;let g:its.toArray.size=xs.length:=by rw[aI];exact r.length.symm
  refine⟨"tuple",_,dM.lookup,C.typeIs,?_⟩;exact HT.pO C E u q (by rw[g];exact l) ⟨.ref a,H,I,rfl,Y l⟩
 ·exact Qb9 c s σ H _ v L J lo G O Q I o E u q ⟨a,xs,rfl,B,l,U l⟩
def VC{ds:List D}(h:MM.gU ds.length 0 i=0/\MM.gU ds.length ds.length j=ds.length):cutD ds i j=ds:=by unfold cutD;rw[h.1,h.2,mz,rB,eK]
def WV{lo U:Option Expr}(h:SE X e fa)(hl:SO X lo Y)(hh:SO X U fh):SE X (.Subscript e (.Slice lo U none C) pos) (kh fa Y fh):=
 (O2 Vq h hl hh).of λσ H Q h_=>h_.el λρ l st E sr p=>⟨ρ,l,st,E,sr,p.bnd.imp λd u ρ1 H1 L s1 p1 v rv=>⟨ρ1,l,u,E.mono L,s1,p1.bnd.imp λi g ρ2 H2 J s2 C=>⟨ρ2,l,g,(E.mono L).mono J,s2,C.bnd.imp λj st3 ρ3 H3 x3 O c=>by
  let B:=(rv.mono J).mono x3;let e:∀n d o,HT.gU n d o=MM.gU n d o:=λn d o=>by cases o<;>rfl
  cases B with
  |@tup a vs ds h r=>
   refine⟨a,vs,rfl,h,λG=>?_,λG q I=>c ρ3 _ (Ex.new I) (O.new I) _ (.tup (ml.of kL) ((bW.cut r i j).mono (Ex.new I)))⟩;rw[e,e,r.length]at G;dsimp only at c;rw[VC G]at c;exact c.ret O _ (.tup h r)
  |_=>exact c.elim⟩⟩⟩
end
def Ah:lY:=λq c e=>Gv e λa lo v _ p h=>wh (c.tag p 1=true) λ_=>(q.e c a).bind λu=>(zR q c lo).bind λl=>(zR q c v).bind λo=>some ⟨kh u.1 l.1 o.1,λg=>h ▸ WV (u.2 g) (l.2 g) (o.2 g)⟩
section
def Aj:xH:=HY Ip "enumerate" (λc p=>c.tag p 16) qd λh g m a s=>by let⟨_,_,_,rfl⟩:=ML h;rw[Za];exact Qv false g m a s
end
section
def bs{Q:ag×List ag->am->Prop}(h:Q (.builtin "list.__getattribute__",[.ref l]) s):aG (aY prog w) A (uG (.builtin "list.__getattribute__") (.ref l)) Q E s:=by
 unfold uG;let c:Dj (.builtin "list.__getattribute__")=pure (.type "wrapper_descriptor"):=by rfl
 rw[c];refine ab (ai ?_);exact ai h
def W9{A:bI}{s:am}{n:Nat}{Q:Option ag->am->Prop}(hh:A.handled=none)(o:s.heap.get? l=some { cls:=.type "list",data:=.seq its n,slots:=g })(h:∀h' c,(∀b u,s.heap.get? b=some u->h'.get? b=some u)->Q none { s with heap:=h',toks:=c }):aG (aY prog w) A (AX (.ref l) (az "keys")) Q E s:=by
 let H:s.TypeIs (.ref l) "list":=⟨_,o,rfl⟩
 let O:iW (.type "list") (az "__getattribute__")=pure (some (ut "list.__getattribute__")):=by rfl
 let B:iW (.type "list") (az "__getattr__")=pure none:=by rfl
 let v:iW (.type "list") (az "keys")=pure none:=by rfl
 unfold AX
 wp_walk using gF H
 refine bs ?_;refine su F.slot_list_getattribute ⟨_,o,rfl⟩ am_entry_list_getattribute (F.args_list_getattribute_2 _ _) (meets_getattribute_miss_list l its n g (az "keys") _ v rfl) ⟨o,?_⟩;refine⟨hh,λh' c e q=>?_⟩;let⟨L,J,C⟩:=q.there;let I:kW { s with heap:=h',toks:=c } (.ref e) "AttributeError":=⟨_,C,rfl⟩
 let G:isSubtype (.type "AttributeError") (.type "AttributeError")=pure true:=by rw[vW];kernel_rfl
 show aG (aY prog w) A (nE (.ref l) (.str (az "keys") s.toks) (.type "list") (.ref e) none false false) _ _ { s with heap:=h',toks:=c };unfold nE;refine ab (dN I G ?_);rw[aH rfl];unfold hookBehind;rw[aD (by decide),B];refine ab (ai ?_);unfold hookOrError AY
 wp_walk
 exact h h' c λb u z=>q.keeps b u z
def A5:plainId "dict.update.loop"=true:=by nofun
variable{prog:Program}{w:bM}
def QS{s:am}{kv v:ag}{Q:List ag->am->Prop}(o:s.heap.IsTuple a #[kv,v])(h:Q [kv,v] s):aG (aY prog w) A (rM (.ref a)) Q E s:=by
 let⟨⟨B,u,l,g⟩,e,c,n,hd⟩:=o;simp only at c hd;subst c hd;unfold rM;let q:s.TypeIs (.ref a) "tuple":=⟨_,e,rfl⟩
 wp_walk using gF q
 exact h
end
section
def YA:ET X (Ce X.K):=by
 intro c s σ H x y v u Q I L J h;let⟨p,xs,i,z,rfl,rfl,O,Y,q⟩:=h;cases L;let⟨t,rfl⟩:=J;let⟨its,r,C,hz⟩:=I.list O;let⟨j,g,h2,h3,h4,o⟩:=HG Y;let⟨w,G,l⟩:=r.get h2;let U:=r.length;let hn:=Bb;let fin:EP X c σ Q w s:=⟨z,H,I,l,q⟩
 by_cases E:0<=i
 ·let B : i.toNat = j := by rw[uC E o]at g;exact aM g
  exact wpAny_getItem_list C.isList E () (by rw[B];simpa using G) fin
 ·let B : (i+(its.toArray.size : Int)).toNat = j := by rw[sW () h4]at g;rw[aI,<- U];exact aM g
  exact zk C.isList () (by rw[aI]<;>ext) () (by rw[B];simpa using G) fin
theorem dE.intI{K:ah}{k:Int}(r:dE K ρ H v (.int k)):v=.int k:=by cases r;rfl
def dE.refI{K:ah}{n:Nat}(r:dE K ρ H v (.ref n)):∃a,v=.ref a/\ρ[n]?=some a:=by cases r with|ref _ h=>exact⟨_,rfl,h⟩
def X7(ho:SE X o fo)(hi:SE X i fi)(he:SE X e fe)(ha:∀ov iv new,augStore i ov iv new=(do k_ [new,ov,iv] (ph ov iv new); D1 [new,ov,iv] []; pure .next)):
  SS X (.AugAssign (.Subscript o i dr) .Add e pos) (uM fo fi fe):=
 (Qa0 ho hi YA he NY Qd ha).of λG σ H h_=>h_.el λρ l st lr sr p=>⟨ρ,l,st,lr,sr,p.bnd.imp λd cp ρ1 H1 x1 s1 p1 u ru=>⟨ρ1,l,cp,lr.mono x1,s1,p1.bnd.imp λz st2 ρ2 H2 x2 U p2 w B=>by
  let c:=ru.mono x2;let E:∀{ρ3 H3},Ex ρ2 H2 ρ3 H3->dE X.K ρ3 H3 u d:=λx=>c.mono x;let sh:∃I k,d=.ref I/\z=.int k:=by
   clear E c B ru;cases d with
   |ref I=>
    cases z with|int k=>exact⟨I,k,rfl,rfl⟩|_=>exact p2.elim
   |_=>exact p2.elim
  let⟨I,k,rfl,rfl⟩:=sh;let⟨aa,rfl,h⟩:=c.refI;cases B.intI;let⟨ds,e,p3⟩:=aT.getL (aT.bnd p2) U;let⟨a,vs,ha,hv,r⟩:=U.seq e;rw[h]at ha;cases ha;let⟨j,dx,h1,h2,q⟩:=aT.item (aT.bnd p3) U;let⟨v,h3,rv⟩:=EK r h1 h2;refine⟨_,vs,k,v,rfl,rfl,gS.of hv,h3,ρ2,l,st2,(lr.mono x1).mono x2,U,(aT.bnd q).imp λy st3 ρ3 H3 x3 Q p4 w g=>?_⟩;let C:=rv.mono x3;let sh2:∃i j,dx=.int i/\y=.int j:=by
   clear C g rv h2;cases dx with
   |int i=>
    cases y with|int j=>exact⟨i,j,rfl,rfl⟩|_=>exact p4.elim
   |_=>exact p4.elim
  let⟨i,j',rfl,rfl⟩:=sh2;cases C.intI;cases g.intI;refine⟨i,j',rfl,rfl,?_⟩;let p5:=(aT.bnd p4).ret Q;let⟨O,e',Y⟩:=aT.getL (aT.bnd (aT.bnd p5)) Q;let⟨a',vs',L,J,r'⟩:=Q.seq e';let h':ρ3[I]?=some aa:=by let⟨b,eb,h'⟩:=(E x3).refI;cases eb;exact h'
  rw[h']at L;cases L;cases e2:MM.n_ O.length k with|none=>rw[e2]at Y;exact Y.elim|some m=>
   rw[e2]at Y;let hl:=(ac.mp e').1;let⟨s4,x4⟩:=Q.put hl h' J (r'.set m (.int (i+j')));refine⟨_,vs',k,m,rfl,rfl,J,by rw[r'.length];exact e2,?_⟩;let p7:aT X.K ρ3 H3 (putL _ (O.set m (.int (i+j'))) st3) _:=Y;unfold putL at p7;rw[e']at p7;exact (p7 ρ3 _ x4 s4).ret s4 σ ((((lr.mono x1).mono x2).mono x3).mono x4)⟩⟩
end
def B_:we:=λq c e=>Om e λt o a _ h=>Db t λx i p v=>Ii i λn j l u=>wh (o=.Add/\n=.USub) λz=>(q.e c x).bind λf=>(q.e c (.UnaryOp n j l)).bind λk=>(q.e c a).bind λm=>some ⟨uM f.1 k.1 m.1,λg=>by subst h v u;let⟨rfl,rfl⟩:=z;exact X7 (f.2 g) (k.2 g) (m.2 g) (by intros;rfl)⟩
def Cs:lY:=λq c e=>DU e λx _ o _ Y=>vC o λa o U=>(Js c.G x).bind λr=>wh (c.glo x=true/\ug x=true/\r.1.k<=c.k/\r.1.n=(a::o).length+1/\r.1.kw=true/\r.1.ps.getLast?=some (az "most")) λz=>(wO q c (a::o)).bind λC=>some ⟨hU r.1.g C.1 (.int 500),λg=>by
 subst Y U;let⟨Q,O,L,J,I,H⟩:=z;let⟨f,fd,m,F,G,B,h⟩:=(g.G _ _ r.2).ex;let⟨x,y,l⟩:=C.2;rw[cE,bv]at y
 replace h:=h I
 unfold EL at h;rw[aH H]at h;let⟨u,hu,B1⟩:=h;exact Vf g.S (beq_iff_eq.mp Q) F (g.hr.mono L) m G B1 hu (A1 O) (x g) (λE st ds v z=>by rw[J,l E st ds v z]) (rJ y.1) (CV y.2)⟩
section
variable{K:ah}{mg:Str->Option ag}
def rP(K:ah)(mg:Str->Option ag)(x:Str)(c:Stmt):Prop:=∃a g u,yQ K x x c a g u/\mg x=some (.ref a)/\RelV (.int 500) u
def Fe{H kV I C o ct to:ag}{u:Nat}(X:K.In h)(G:h.Ns cO mg)(a:fR K cO x=some (some (.ref f)))(l:K.lookup f=some ⟨H,E,.func (cC x x (dO g) (cK g) (bj g) (.ref T) kV I C J o ct),B⟩) (c:gz K o x=true) (k:di K (.ref f)=true) (t:K.lookup T=some ⟨to,v,.seq #[.int 500 q] u,ts⟩):rP K mg x g:=
 ⟨f,_,_,Se (st:=g) l c k t rfl,tm X G a,⟨_,rfl⟩⟩
def S6(R:mq){k n m:Nat}(F:rP K mg x h)(S:rf (ps++r) ps (bj h)=true)(b0:∀(u:ag)(T:ak)(kV g q:ag)(B:Option ak)(c ct:ag)(l:List ag),l.length=n->∃k:Option (Array ag)->Sem (List (Str×ag)),gE (cC x x (dO h) (cK h) (bj h) (.ref T) kV g q B c ct) ⟨l,[]⟩=i9 (.ref T) >>= k/\k (some #[u])=pure (ps.zip l))(b1:∀(u:ag)(T:ak)(kV g q:ag)(B:Option ak)(c ct:ag)(l:List ag),l.length+1=n->∃k:Option (Array ag)->Sem (List (Str×ag)),gE (cC x x (dO h) (cK h) (bj h) (.ref T) kV g q B c ct) ⟨l,[]⟩=i9 (.ref T) >>= k/\k (some #[u])=pure (ps.zip (l++[u])))(hb:(pd (nQ R 40) ⟨bj h,ps++r,k,G,Z,C,H,true,([],[]),none⟩ (cK h)).map (·.1)=some o) (Q:cN P w K mg base G) (hZ:vI mg Z) (hC:wJ K mg C) (Y:ps.getLast?=some (az "most")) (J:ps.length=n:=by rfl) (hm:(ps++r).length=m:=by rfl):cN P w K mg base ((x,⟨n,k+1,ps,true,bZ m o⟩)::G):=by
 let⟨f,fd,u,F,L,hu⟩:=F;let O:=DF S;let⟨v,_,e⟩:=ck.mp hb;refine GB L (V1 F O J hm λc A outer s Hp E U=>e ▸ v.2 ⟨HK,rfl,O.nd,U,Q,hZ,hC,iJ,λ_=>⟨by show (if (bj h).kind.isAnnotationScope=true then _ else (bj h).kind)=_;rw[O.kind];rfl,λ_=>rfl⟩,⟨(λ_ _ z=>nomatch z),(λ_ _ z=>nomatch z)⟩,λ_ z=>nomatch z⟩) F.kp
  (F.binds λT kV g q B c ct l I=>?_) (λ_=>?_) Q
 ·rw[bu]at I ⊢;exact b0 u T kV g q B c ct l (I.trans J)
 ·unfold EL;rw[aH Y];exact⟨u,hu,F.binds λT kV g q B c ct l I=>b1 u T kV g q B c ct l (by rw[<- J,<- I,aC];rfl)⟩
end
def Qj6:SS X (.Return none pos) (dF (aN .non)):=WL.of λG σ H c=>c.el λρ l st g sr p=>((p.bnd.ret sr).ret sr) .non .non
def BV:we:=λ_ _ e=>M0 e λo _ h=>oN o λc=>some ⟨dF (aN .non),λ_=>h ▸ c ▸ Qj6⟩
end MM
namespace MM
open PySem PySem.W PyProof.Rows L2
section
variable{A:bI}{s:am}{es:Array kP}{ep i:Nat}
def X6(hd:(d == cH)=false):MeetsIn prog w (Builtin.«dict.items» ⟨[.ref d],[]⟩) (λ_ R s=>(∃es ep,nO s.heap d es ep)/\R (.ok (.ret (.ref s.heap.objs.size))) { s with heap:=s.heap.push { cls:=.type "dict_items",data:=.fields #[.ref d] } }):=
 .of_wp λA R s c=>by
  let⟨⟨es,ep,g⟩,h⟩:=c;unfold Builtin.«dict.items»;refine ab ?_;unfold Builtin.Dict.noArgs;refine ab (iE g.typeIs ?_)
  show aG _ _ (pure d) _ _ s;refine ai ?_
  show aG _ _ (gM d >>= _) _ _ s;unfold gM;rw[aD (by rw[hd];exact bE)];exact ab (ai (ab (b9 (ai ⟨_,rfl,h⟩))))
def Sk{Q:ag->am->Prop}(h:s.heap.IsItemsView v d)(B:nO s.heap d es ep)(G:Q (.ref s.heap.objs.size) { s with heap:=s.heap.push { cls:=.type "dict_itemiterator",data:=.fields #[.none,.bool false,.ref d,.int 0 0,.int es.size 0,.int ep 0,.none,.none] } }):aG (aY prog w) A (y0 (.ref v)) Q E s:=by
 let⟨H,l,C,q⟩:=id h;let⟨o,u,I,c⟩:=id B;refine Ea h.typeIs xy (b_ xy h.typeIs F.entry_dict_items_iter ?_ (F.args_dict_items_iter_1 _));unfold Builtin.«dict_items.__iter__»;refine ab (ai (ab ?_));unfold Builtin.Dict_items.dictOf;refine ab (cD l q (x:=.ref d) rfl (ai (ab ?_)));unfold Builtin.Dict_items.newIterator;refine ab (dD u c (ab (gC u c ?_)));let g:fj "dict_itemiterator"=true:=by decide
 simp only[g,if_true];refine b9 (ai ⟨_,rfl,"dict_itemiterator",_,⟨_,ay _ rfl,rfl⟩,ik.lookup,?_⟩)
  (by simp only[sizeOk,mR,aI,aC,b8,fU,kN];ext)
 simpa [dP,mR] using G
def WM{Q:Option ag->am->Prop}(l:iY s.heap it d i es.size ep ok C)(O:nO s.heap d es ep)(L:es[i]?=some c)(Y:∀h',xz h' it d (i+1) es.size ep c.key c.val s.heap.objs.size->h'.get? s.heap.objs.size=some { cls:=.type "tuple",data:=.seq #[c.key,c.val] }->h'.objs.size=s.heap.objs.size+1 ->(∀b o,b≠it->s.heap.get? b=some o->h'.get? b=some o)->Q (some (.ref s.heap.objs.size)) { s with heap:=h' }):aG (aY prog w) A (ic (.ref it)) Q E s:=by
 let⟨h,g,J,B,os⟩:=s;let⟨od,H,U,I⟩:=id O;let v:kW ⟨h,g,J,B,os⟩ (.ref it) "dict_itemiterator":=⟨_,l,rfl⟩
 unfold ic;refine ab (gR (bN (name:=az "__next__") v ik
  (b_ ik v tw ?_ (sJ _))))
 refine ab (ai (ab (ab ?_)))
 first|refine ab (ie v (ai ?_))|refine ab (i_ v (ai ?_))
 refine ab (qB l rfl ?_);let G:fj "dict_itemiterator"=true:=by decide
 simp only[G,if_true]
 show aG _ _ (if (bD d == cB)=true then _ else _) _ _ _;rw[aD (show ¬ ((bD d == cB)=true) from bE)];refine ab (ai (ab (dD H I ?_)));rw[aD (by simp)];refine ab (ai (ab (gC H I ?_)));rw[aD (by simp)];refine ai ?_;simp only[show ¬ ((i:Int) < 0) from by ext,if_false,bC,L];refine ab ?_
 first|refine ab (ie v (ai ?_))|refine ab (i_ v (ai ?_))
 refine ab (pk v ?_)
 show aG _ _ (AU (.ref it) 3 (dP ((i:Int)+1)) >>= _) _ _ ⟨h,g,J,B,os⟩;refine ab (dj l (by simp) λh₁ he₁ hs₁=>?_)
 replace hs₁:cR it h h₁:=hs₁
 replace he₁:iY h₁ it d (i+1) es.size ep ok C:=by
  let e:((i+1:Nat):Int)=(i:Int)+1:=by ext
  unfold iY;rw[e];simpa [dP] using he₁
 let hT₁:kW ⟨h₁,g,J,B,os⟩ (.ref it) "dict_itemiterator":=⟨_,he₁,rfl⟩
 refine ab (bV (ab (pk hT₁ (ab (pk hT₁ ?_)))))
 show aG _ _ (m8 (.ref it) 6 c.key c.val) _ _ ⟨h₁,g,J,B,os⟩;unfold m8;refine ab (vV ?_);let he₂:iY (h₁.push { cls:=.type "tuple",data:=.seq #[c.key,c.val] }) it d (i+1) es.size ep ok C:=aj _ he₁;generalize hh₂:h₁.push { cls:=.type "tuple",data:=.seq #[c.key,c.val] }=h₂ at he₂;let hz₁:h₁.objs.size=h.objs.size:=hs₁.1;let q:it < h.objs.size:=aL l;let ht₂:h₂.get? h.objs.size=some { cls:=.type "tuple",data:=.seq #[c.key,c.val] }:=by rw[<- hh₂,<- hz₁];exact ay _ rfl
 let hz₂:h₂.objs.size=h.objs.size+1:=by rw[<- hh₂,cA,hz₁]
 let hk₂:∀b o,b≠it->h.get? b=some o->h₂.get? b=some o:=λb o u e=>by rw[<- hh₂];exact aj _ (hs₁.extBut b o u e)
 show aG _ _ (mT (.ref it) >>= _) _ _ ⟨h₂,g,J,B,os⟩;rw[hz₁];clear hh₂ he₁ hs₁ hT₁ hz₁ h₁;refine ab ?_;unfold mT;refine ab (cD he₂ rfl (x:=.none) rfl (ai ?_));simp only[if_true];refine ab (cD he₂ rfl (x:=ok) rfl (ab (cD he₂ rfl (x:=C) rfl ?_)));refine ab (dj he₂ (by simp) λh₃ he₃ hs₃=>?_)
 replace hs₃:cR it h₂ h₃:=hs₃
 replace he₃:iY h₃ it d (i+1) es.size ep c.key C:=he₃
 refine ab (dj he₃ (by simp) λh₄ he₄ hs₄=>?_)
 replace hs₄:cR it h₃ h₄:=hs₄
 replace he₄:iY h₄ it d (i+1) es.size ep c.key c.val:=he₄
 refine ab (dj he₄ (by simp) λh₅ he₅ hs₅=>?_)
 replace hs₅:cR it h₄ h₅:=hs₅
 replace he₅:xz h₅ it d (i+1) es.size ep c.key c.val h.objs.size:=he₅
 refine ab (dj he₅ (by simp) λh₆ he₆ hs₆=>?_)
 replace hs₆:cR it h₅ h₆:=hs₆
 replace he₆:xz h₆ it d (i+1) es.size ep c.key c.val h.objs.size:=he₆
 refine ab (iX (ai (ai ⟨_,rfl,ai (Y h₆ he₆ ?_ ?_ ?_)⟩)))
 ·exact hs₆.extBut _ _ (dk q) (hs₅.extBut _ _ (dk q) (hs₄.extBut _ _ (dk q) (hs₃.extBut _ _ (dk q) ht₂)))
 ·show h₆.objs.size=h.objs.size+1;rw[hs₆.1,hs₅.1,hs₄.1,hs₃.1,hz₂]
 ·exact λb o u e=>hs₆.extBut b o u (hs₅.extBut b o u (hs₄.extBut b o u (hs₃.extBut b o u (hk₂ b o u e))))
def Qka{Q:Option ag->am->Prop}(hh:A.handled=none)(c:iY s.heap it d i es.size ep ok q)(v:nO s.heap d es ep)(u:es[i]?=none)(C:∀h',mZ it s.heap h'->Q none { s with heap:=h' }):aG (aY prog w) A (ic (.ref it)) Q E s:=by
 let⟨G,l,B,o⟩:=id v;let g:s.TypeIs (.ref it) "dict_itemiterator":=⟨_,c,rfl⟩
 unfold ic;refine ab (gR (bN (name:=az "__next__") g ik
  (b_ ik g tw ?_ (sJ _))))
 refine ab (ai (ab (ab ?_)))
 first|refine ab (ie g (ai ?_))|refine ab (i_ g (ai ?_))
 refine ab (qB c rfl ?_);let h:fj "dict_itemiterator"=true:=by decide
 simp only[h,if_true]
 show aG _ _ (if (bD d == cB)=true then _ else _) _ _ s;rw[aD (show ¬ ((bD d == cB)=true) from bE)];refine ab (ai (ab (dD l o ?_)));rw[aD (by simp)];refine ab (ai (ab (gC l o ?_)));rw[aD (by simp)];refine ai ?_;simp only[show ¬ ((i:Int) < 0) from by ext,if_false,bC,u];refine ab ?_
 first|refine ab (ie g (ai ?_))|refine ab (i_ g (ai ?_))
 show aG _ _ (AU (.ref it) 2 .none >>= _) _ _ s;refine ab (nB c rfl (by simp) ?_)
 show aG _ _ (zp (.type "StopIteration") [] >>= _) _ _ _;refine ab ?_;simp only[zp,newTuple];refine ab (b9 ?_ (by size_fits));refine ab (m:=lj _ _) (nX (a:=cB) (by first|rfl|(simp only[lj];rfl)) ?_);refine b9 ?_ (by size_fits);simp only[raiseNew];refine ab (xt ?_);rw[show A.in1.handled=none from hh];refine ab (ai (AQ ?_));refine ab (dN (T:="StopIteration") (b:=true) ⟨_,ay _ rfl,rfl⟩ nD ?_);exact ai (C _ (((cG ..).extBut.push _).push _))
end
def Mv(a:ak)(n:Nat):It:=
 ⟨λi H=>∃es p,H a=some (kI a es)/\es.length=n/\es[i]?=some p,λi H x c=>∃T k v,x=.ref T/\H T=none/\(∀es,H a=some (kI a es)->∃p,es[i]?=some p/\p.2.1=k/\p.2.2=v)/\c=fE H T (.tup [.ref k,v]),λi H=>∃es,H a=some (kI a es)/\es.length=n/\n<=i⟩
section
def Er(I:Inv X ar σ H s)(e:H a=some (kI a es)):(a == cH)=false/\∃c,nO s.heap a c es.length/\c.size=es.length/\∀(i:Nat)(p:NK×ak×V),es[i]?=some p->∃g:kP,c[i]?=some g/\g.key=.ref p.2.1/\RelV p.2.2 g.val:=by
 let⟨⟨z,y,xs,h,o,c,ep,J,G,E,u,Q,C⟩,O,L⟩:=(show gp X.prog X.w H s.heap a (kI a es) from I.hok a _ e)
 let l:es.length=xs.length:=cV h;subst C;refine⟨y,c,⟨o,J,G,by rw[l];exact E⟩,?_,λi p B=>?_⟩
 ·rw[l,<- fG,u,af]
 ·let⟨q,v,r⟩:=BW h B;refine⟨Cg q,by rw[<- fu,u,av,v];rfl,?_,r.2.2⟩;rw[r.2.1];rfl
def Yp(I:Inv X ar σ H s)(e:H a=some (kI a es))(U:H a=some (kI a ys)){i:Nat}(h:es[i]?=some p):∃q,ys[i]?=some q/\q.2.1=p.2.1/\q.2.2=p.2.2:=by
 let⟨_,x1,l,z1,O⟩:=Er I e;let⟨_,x2,g,z2,L⟩:=Er I U;let⟨o1,Q,_,Y⟩:=l;let⟨o2,C,_,c⟩:=g;rw[Q]at C;cases C;rw[Y]at c;injection c with c d3
 subst c;let B:i < ys.length:=by rw[<- d3];exact (ac.mp h).1
 let⟨u,hu,J,G⟩:=O i p h;let⟨v,o,kv,E⟩:=L i _ (ae B);rw[hu]at o;cases o;rw[J]at kv;injection kv with kv
 exact⟨_,ae B,kv.symm,RelV.inj E G⟩
end
def Qkd{K:ah}{k:Nat}(a l:ak)(n:Nat):u5 P w K (.Tuple ts k pos) (Mv a n) [l] l (λi h=>∃ok L,iY h l a i n n ok L) where
 mem:=by simp
 obj:=λi h pq149 b B=>by
  let⟨ok,L,st⟩:=pq149;let e:b=l:=by simpa using B
  subst e;exact⟨_,st,λv z=>by cases z⟩
 keep:=λi h h' pq150 k=>by let⟨ok,L,st⟩:=pq150;exact⟨ok,L,k l (by simp) _ st⟩
 item:=by
  intro X hP hw hK hc i O s σ H E I hf pq188 hg;let⟨ok,L,st⟩:=pq188;subst hP hw hK;let⟨es,p,hq,hn,hx⟩:=hg;let⟨_,G,en,hz,hk⟩:=Er I hq;let⟨u,hu,ku,ru⟩:=hk i p hx;let⟨f0,f1,f2,f3,f4,f5⟩:=hf l (by simp);subst hn;let U:iY s.heap l a i G.size es.length ok L:=by rw[hz];exact st
  refine WM U en hu λh' ho hT hsz hk'=>?_;refine⟨_,rfl,wpAny_letOwnedTupleGo_items ho λh2 he2 hs2=>?_⟩;let hit:l < s.heap.objs.size:=aL st;let C:H s.heap.objs.size=none:=I.hok.fresh (aw _);let keep:∀b o,b≠l->s.heap.get? b=some o->h2.get? b=some o:=λb o B J=>(hs2.2 b B).trans (hk' b o B J);let hT2:h2.get? s.heap.objs.size=some { cls:=.type "tuple",data:=.seq #[u.key,u.val] }:=(hs2.2 _ (dk hit)).trans hT;let ne:∀b o,H b=some o->b≠l:=λb o q z=>by rw[z,f0]at q;cases q
  let I2:Inv X O σ (fE H s.heap.objs.size (.tup [.ref p.2.1,p.2.2])) { s with heap:=h2,toks:=s.toks }:=by
   refine I.step (g':=s.gens) (d':=s.drawn) (ch:=[l]) (λb B=>?_) (λb o _ _ g J _=>keep b o (λz=>g (by simp[z])) J)
    (λb o _ _ g J _=>⟨o.slots,keep b o (λz=>g (by simp[z])) J⟩) (λb o g J n1=>by rw[fS (ba (aL J))];exact n1) (λb o g J=>⟨o,keep b o (λz=>g (by simp[z])) J⟩)
    (λb ys q=>by rw[fS (oJ q C)];exact q) (λb o ys q=>by rw[fS (oJ q C)];exact q) (λb ps q=>⟨#[],by rw[fS (oJ q C),q];simp⟩) (λm hm=>?_) ?_ I.bare
   ·let c:b=l:=by simpa using B
    subst c;exact⟨f3,f1,f4,f5⟩
   ·let⟨o,G,ep,J,r⟩:=hm;exact⟨o,G,ep,keep _ o f1.symm J,r⟩
   ·intro b o q;by_cases B:b=s.heap.objs.size
    ·subst B;rw[kL]at q;cases q;exact⟨by show 2<=sizeLine;decide,[u.key,u.val],.cons ku (.cons ru .nil),⟨_,hT2,rfl,⟨_,rfl⟩,rfl⟩⟩
    ·rw[fS B]at q;have:=ne b o q;refine (I.hok b o q).stay (λc v g r=>keep c v ?_ r) (λc Y=>by rw[fS (oJ Y C)];exact Y) λc ys Y=>by rw[fS (oJ Y C)];exact Y
     rcases g with z|z
     ·rw[z];exact this
     ·exact ne c _ z
  refine⟨.ref s.heap.objs.size,_,I2,rfl,⟨_,p.2.1,p.2.2,rfl,C,λys hy=>Yp I hq hy hx,rfl⟩,⟨_,_,by rw[hz]at he2;exact he2⟩,λb B=>?_⟩;rw[fS]
  ·exact (hf b B).1
  ·intro z;let Y:b=l:=by simpa using B
   rw[<- z,Y]at hit;exact bh hit (cM _)
 done:=by
  intro X hP hw hK hc i O s σ H E I hf pq189 hg;let⟨ok,L,st⟩:=pq189;subst hP hw hK;let⟨es,hq,hn,hx⟩:=hg;let⟨_,G,en,hz,hk⟩:=Er I hq;let⟨f0,f1,f2,f3,f4,f5⟩:=hf l (by simp);subst hn;let U:iY s.heap l a i G.size es.length ok L:=by rw[hz];exact st
  exact Qka (I.ok.hd hc) U en (by simp;ext) λh' eb=>⟨rfl,I.turned (t':=s.toks) (λb o B e=>eb b o B e) f0 f1 f3 f4 f5⟩
 self:=λA i s Q E pq151 h=>by let⟨ok,L,st⟩:=pq151;exact kcp_self st h
section
variable{k:Nat}{dr a8 a7:Pos}
def XQ(ho:SE X o fa)(G:dY o "items" X.env (eval o X.env)=eval o X.env)(E:(a8.endLine == a7.line)=true):SI X (.Tuple ts k dr) (.Call (.Attribute o "items" a8) [] [] a7) (rX fa):=by
 intro J s σ H R I C;let⟨ρ,l,st,lr,sr,q⟩:=C;refine xR G E (fT (ho J s σ H (λx U=>∃a es,x=.ref a/\U a=some (kI a es)/\R (Mv a es.length) U) I ⟨ρ,l,st,lr,sr,(aT.bnd q).imp λd cp ρ1 U x1 B p1 v rv=>?_⟩) λv B z=>?_)
 ·cases d with
  |dic n=>
   let⟨a,rfl,_,h⟩:=rv.inv;let⟨b,L,e,I⟩:=aT.getDc (aT.bnd p1) B;let⟨hb,G⟩:=aT.chk I;cases (show b=true from hb);let⟨es,Y,r⟩:=B.ob n a _ h e;refine⟨a,es,rfl,Y,G.ret B _ λρ H st x s q=>?_⟩;let U:ρ[n]?=some a:=by let⟨τ,eτ,_⟩:=x.pre;rw[eτ];exact xE h
   let⟨u,l,g⟩:=s.ob n a _ U q;let E:u.length=es.length:=by rw[NR.length g,NR.length r]
   refine⟨⟨u,l,E,by show es.length<=(L.map _).length;rw[af,NR.length r];exact aw _⟩,λi d hd=>?_⟩;let Q:i < u.length:=by rw[NR.length g];have:=(ac.mp hd).1;rw[af]at this;exact this
   refine⟨⟨u,_,l,E,ae Q⟩,λy H' z=>?_⟩;let⟨T,k,v,rfl,C,z,rfl⟩:=z;let⟨p,O,rfl,rfl⟩:=z u l;let⟨q,J,o⟩:=BW g O
   change (L.map _)[i]?=some d at hd
   rw[av,J]at hd;cases hd;let c:Ex ρ H ρ (fE H T (.tup [.ref p.2.1,p.2.2])):=Ex.new C;exact⟨c,s.new C,.tup (ml.of kL) (.cons (o.2.1.mono c) (.cons (o.2.2.mono c) .nil))⟩
  |_=>exact p1.elim
 ·let⟨x,U,Y,C,a,es,rfl,H,E⟩:=z;cases C;let⟨hd,u,Q,sz,_⟩:=Er Y H;let l:=Q;let⟨v,g,c,_⟩:=l;refine⟨"dict","dict.items",Bq,Bv,F.type_dict_items,Q.typeIs,λb q=>by injection q with q;subst q;exact⟨v,g,c.2.1⟩,?_⟩;refine kt rfl (wv (zn Bv Q.typeIs F.entry_dict_items (F.args_dict_items_1 _) (X6 hd) ⟨⟨u,_,Q⟩,?_⟩));let h:nO (B.heap.push { cls:=.type "dict_items",data:=.fields #[.ref a] }) a u es.length:=⟨v,aj _ g,c,by let⟨o',g',_,d'⟩:=Q;rw[g]at g';cases g';exact d'⟩
  refine Sk (s:={ B with heap:=B.heap.push { cls:=.type "dict_items",data:=.fields #[.ref a] } }) ⟨_,ay _ rfl,rfl,rfl⟩ h ?_;let G:∀b o,B.heap.get? b=some o->((B.heap.push { cls:=.type "dict_items",data:=.fields #[.ref a] }).push { cls:=.type "dict_itemiterator",data:=.fields #[.none,.bool false,.ref a,.int 0 0,.int u.size 0,.int es.length 0,.none,.none] }).get? b=some o:=λb o e=>aj _ (aj _ e);let O:B.heap.objs.size<=(B.heap.push { cls:=.type "dict_items",data:=.fields #[.ref a] }).objs.size:=by rw[cA];exact I0 _
  refine⟨_,[(B.heap.push { cls:=.type "dict_items",data:=.fields #[.ref a] }).objs.size],_,Mv a es.length,U,rfl,Y.kept (t':=B.toks) G,Qkd a _ es.length,⟨.none,.none,by rw[<- sz];rw[sz];exact (by rw[<- sz];exact ay _ rfl)⟩,λb hb=>?_,E⟩;let e:b=(B.heap.push { cls:=.type "dict_items",data:=.fields #[.ref a] }).objs.size:=by simpa using hb
  subst e;exact Y.fpOk O (Y.hok.fresh O)
end
def Az:xH:=λq c tg e=>vM e λo m p B v h=>v0 B λu=>IL tg λ_ _ _ l=>wh (m=az "items"/\(p.endLine == v.line)=true/\Fc o=true) λz=>(q.e c o).bind λf=>some ⟨rX f.1,λg=>by subst h u l;let⟨rfl,u,l⟩:=z;exact XQ (f.2 g) (IT l) u⟩
def NZ(K:ah)(a:ak)(n:Nat):It:=
 ⟨λi H=>∃xs x,gS K H a xs/\xs.length=n/\xs[n-1-i]?=some x/\i < n,λi H x c=>c=H/\∀xs,gS K H a xs->xs[n-1-i]?=some x,λi H=>n<=i⟩
def VR{K:ah}(a q:ak)(n:Nat):u5 P w K tg (NZ K a n) [q] q (λi h=>i<=n/\h.IsRevIter q a ((n:Int)-1-(i:Nat))) where
 mem:=by simp
 obj:=λi h L b O=>by
  let⟨_,st⟩:=L;let e:b=q:=by simpa using O
  subst e;let⟨o,e,c,d⟩:=st;exact⟨o,e,λv z=>by rw[d]at z;cases z⟩
 keep:=λi h h' J k=>by let⟨hi,st⟩:=J;exact⟨hi,st.at λo e=>k q (by simp) o e⟩
 item:=by
  intro X hP hw hK hc i g s σ H E I U C hg;let⟨hi,st⟩:=C;subst hP hw hK;let⟨xs,x,hq,hn,hx,hlt⟩:=hg;let⟨its,rv,pl,hz⟩:=I.list hq;let⟨u,hu,ru⟩:=rv.get hx;let⟨f0,f1,f2,f3,f4,f5⟩:=U q (by simp);let ej:((n-1-i:Nat):Int)=(n:Int)-1-(i:Nat):=by ext
  let Y:s.heap.IsRevIter q a ((n-1-i:Nat):Int):=by rw[ej];exact st
  refine wpAny_pyNext_rev_item Y pl.isList (x:=u) (by simpa using hu) λh' Q sb=>?_;let I1:Inv X g σ H { s with heap:=h' }:=I.turned (t':=s.toks) (λb o O e=>(sb.2 b O).trans e) f0 f1 f3 f4 f5;let⟨o,e,c,d⟩:=id Q;exact⟨u,rfl,Ic (s:={ s with heap:=h' }) e c d (by decide) ⟨x,H,I1,ru,⟨rfl,λys hy=>by rw[I.list_inj hy hq];exact hx⟩,⟨hlt,by rw[show (n:Int)-1-((i+1:Nat):Int)=((n-1-i:Nat):Int)-1 by ext];exact Q⟩,λb O=>(U b O).1⟩⟩
 done:=by intro X hP hw hK hc i g s σ H E I U B hg;let⟨hi,st⟩:=B;subst hP hw hK;let⟨f0,f1,f2,f3,f4,f5⟩:=U q (by simp);have hg':n<=i:=hg;exact wpAny_pyNext_rev_end (l:=a) (I.ok.hd hc) (by rw[show (-1:Int)=(n:Int)-1-(i:Nat) by ext];exact st) λh' eb=>⟨rfl,I.turned (t':=s.toks) (λb o O e=>eb b o O e) f0 f1 f3 f4 f5⟩
 self:=λ_ _ _ _ _ G h=>by let⟨_,st⟩:=G;exact qC st h
section
def Vk(hg : Gl X "reversed")(hm : X.mg "reversed" = none)(hv : cZ "reversed" = some (.type "reversed"))(h : SE X e fa)(he : starEach [e] X.env = [(false, eval e X.env)] := by rfl):
  SI X tg (.Call (.Name "reversed" p) [e] [] pos) (yF fa):=by
 intro J s σ H R I C;let⟨ρ,l,st,lr,sr,q⟩:=C;refine dJ (xF I hg hm hv ?_ (by decide) (by decide));refine cw ?_ he rfl;rw[he]
 show aG _ _ (sS [(false,eval e X.env)]) _ _ s;refine g9 (fT (h J s σ H (λx Y=>∃a xs,x=.ref a/\gS X.K Y a xs/\R (NZ X.K a xs.length) Y) I ⟨ρ,l,st,lr,sr,(aT.bnd q).imp λd cp ρ1 Y x1 g p1 v G=>?_⟩) λu g ⟨x,Y,I1,r1,a,xs,ex,hx,q1⟩=>ip ?_)
 ·cases d with
  |ref n=>
   let⟨a,rfl,_,h⟩:=G.inv;let⟨ds,e2,p2⟩:=aT.getL (aT.bnd p1) g;let⟨a',ws,u,hv,r⟩:=g.seq e2;rw[h]at u;cases u;refine⟨a,ws,rfl,gS.of hv,p2.ret g _ λρ2 H2 J I o Y=>?_⟩;let⟨a2,B,O,l,q⟩:=o.seq Y;let⟨τ,eτ,_⟩:=I.pre;rw[eτ,xE h]at O;cases O;let hl:=q.length;let E:=r.length;let L:gS X.K H2 a B:=gS.of l;refine⟨by show ws.length<=ds.reverse.length;rw[gG];ext,λi d C=>?_⟩;let hi:i < ds.length:=by have:=(ac.mp C).1;rw[gG]at this;exact this
   let U:ds.reverse[i]?=some d:=C;rw[oA hi]at U;let⟨v,c,G⟩:=q.get U;rw[E.symm.trans rfl]at c;refine⟨⟨B,v,L,by ext,by rw[show ws.length-1-i=ds.length-1-i by ext];first|exact c|(rw[E]at c;exact c),by ext⟩,λy H3 H=>?_⟩;let⟨rfl,z⟩:=H;let Q:=z B L;rw[show ws.length-1-i=ds.length-1-i by ext]at Q;let ev:y=v:=by
    first
    | (rw[c]at Q;exact (aM Q).symm)| (rw[E]at c;rw[c]at Q;exact (aM Q).symm)
   subst ev;exact⟨Ex.refl,o,G⟩
  |_=>exact p1.elim
 ·subst ex;cases r1;let⟨its,G,h,hz⟩:=I1.list hx;let c:=G.length;refine Dq h.isList ?_;refine qC (s:={ g with heap:=_ }) ⟨_,ay _ rfl,rfl,rfl⟩ ?_;refine⟨g.heap.objs.size,[g.heap.objs.size],_,_,Y,rfl,I1.kept (t':=g.toks) λb o e=>aj _ e,VR a _ xs.length,⟨bU _,⟨_,ay _ rfl,rfl,by show (Hu _)=_;rw[show ((its.toArray.size:Int)-1)=(xs.length:Int)-1-((0:Nat):Int) by rw[aI];ext]⟩⟩,λb l=>?_,q1⟩;let e:b=g.heap.objs.size:=by simpa using l
  subst e;exact I1.fpOk (aw _) (I1.hok.fresh (aw _))
end
def FG:xH:=HY CN "reversed" lA yF λ_ g m a s=>Vk g m (by nofun) a s
end MM
namespace MM
open PySem PySem.Spec PyProof.Rows L2
section
variable{X:Cx}
noncomputable def vB(k:Bool):ag->Bool
 | .bool b=>b == k|_=>false
def Ai:V->List V->Hp->VK->Prop:=λx ys H Q=>∃(l:ak)(bs:List Bool)(k:Bool),x=.ref l/\ys=[.bl k]/\H l=some (.lst (bs.map V.bl))/\bs.contains k=true/\bs.length<=eV/\Q (.int (bs.findIdx (· == k):Nat)) H
def Z6(hu:X.A.units+60 < cS):Gr X "list.index" Ai:=by
 intro ar s σ H x vs v us Q I rx rv h;let⟨l,bs,k,rfl,rfl,hv,C,hlim,q⟩:=h;cases rx;let⟨u,rfl,ru⟩:=rv.one;obtain rfl:u=dB k:=ru;let⟨its,B,pl,hz⟩:=I.list (gS.of hv);let hl:its.length=bs.length:=by rw[<- B.length,af]
 let c:∀(j:Nat)(w:ag),its[j]?=some w->∃b,bs[j]?=some b/\w=.bool b:=λj w E=>by
  let g:j < (bs.map V.bl).length:=by rw[af,<- hl];exact (ac.mp E).1
  let⟨w',J,G⟩:=B.get (ae g);rw[E]at J;cases J;rw[kZ]at G;rw[af]at g;exact⟨bs[j],ae g,G⟩
 let g:(bs.findIdx (· == k)) < bs.length:=List.findIdx_lt_length.mpr (by
  let⟨b,hb,e⟩:=iI.mp (show bs.any (· == k)=true by rw[iI];exact⟨k,List.contains_iff_mem.mp C,by simp⟩)
  exact⟨b,hb,e⟩)
 let U:eV < 2^60:=by decide
 let⟨⟨cls,dd,data,sl⟩,ho,hc,n,hd⟩:=id pl.isList;simp only at hc hd;subst hc hd;refine su tX ⟨_,ho,rfl⟩ PySem.F.entry_list_index (PySem.F.args_list_index_2 _ _)
  (SeqAt.list_indexAt l its.toArray n dd sl (.bool k) (vB k) (bs.findIdx (· == k)) (by simp only[aI];ext) () ?_ ?_) ⟨ho,λw E=>?_,⟨.int _,H,I.tok _,⟨_,rfl⟩,q⟩⟩
 ·let J:(bs.findIdx (· == k)) < its.length:=by ext
  let⟨b,o,L⟩:=c _ _ (ae J);simp only[fY];rw[L];rw[ae g]at o;cases o;exact List.findIdx_getElem (w:=g)
 ·intro m g O;simp only[aI]at g;let⟨b,o,L⟩:=c _ _ (ae g);simp only[fY];rw[L];let G:m < bs.length:=by ext
  rw[ae G]at o;cases o;have:=List.not_of_lt_findIdx O;simpa [vB] using this
 ·let⟨j,Y⟩:=aQ.mp (show w∈its by simpa using E);let⟨b,_,rfl⟩:=c _ _ Y;exact (HM (X:=X) (ρ:=[]) (v:=.bl b) (w:=.bl k) (d:=.bl b) (e:=.bl k) I 0 (by show X.A.units+1+0 < cS;ext) rfl (.bl b) (.bl k) rfl rfl).2.2
def Xu{q c:Pos}(hu:X.A.units+60 < cS)(ho:SE X o fa)(G:SE X e fb)(B:dY o "index" X.env (eval o X.env)=eval o X.env)(E:((backTo c (starEach [e] X.env)).all (λx => !x.1)&&(qw c (l9 [] X.env)).all (λx=>x.1.isSome)&& decide ([e].length+([]:List i5).length+(if ([]:List i5).isEmpty then 0 else 1) < 30))=true)
  (u:(q.endLine == c.line)=true) (hs:starEach [e] X.env=(false,eval e X.env)::starEach [] X.env) (g:(backTo c (starEach [] X.env)).any (·.1)=false):
  SE X (.Call (.Attribute o "index" q) [e] [] c) (oy fa fb):=
 (NM mY tX PySem.F.type_list_index (Z6 hu) ho (sB G vg hs) B E u hs g).of λσ H Q h_=>h_.el λρ l st lr sr p=>⟨ρ,l,st,lr,sr,p.bnd.imp λd J ρ1 H1 x1 s1 p1 v rv=>by
  cases d with
  |ref n=>
   let⟨a,rfl,kk,h⟩:=rv.inv;let⟨I,hv0⟩:=Ru kk;refine⟨.inl ⟨rfl,I,gS.of hv0⟩,ρ1,l,J,lr.mono x1,s1,(aT.bnd p1).imp λy st2 ρ2 H2 x2 L p2 w O=>?_⟩;let h2:ρ2[n]?=some a:=by let⟨τ,e,_⟩:=x2.pre;rw[e];exact xE h
   let⟨ds,e2,C⟩:=aT.getL (aT.bnd p2) L;let⟨a',vs,G,hv,r⟩:=L.seq e2;rw[h2]at G;cases G;cases O with
   |bl k=>
    cases eb:iU ds with|none=>rw[eb]at C;exact C.elim|some bs=>
     rw[eb]at C;let⟨⟨Y,U⟩,p4⟩:=aT.chk C;have:=HS eb r;subst this;exact⟨a,bs,k,rfl,rfl,hv,Y,U,p4.ret L _ (.int _)⟩
   |_=>exact C.elim
  |_=>exact p1.elim⟩
end
end MM
namespace MM
def Aq:lY:=Bc "index" oy (λc p=>c.tag p 20) λu o a b f l s p=>Xu u o a b f l s p
open PySem PySem.Spec PyProof.Rows L2
def RS(c:List (D×D))(k v:D):(mK c k v).length<=c.length+1:=by
 unfold mK;split
 ·rw[af];exact I0 _
 ·rw[aC];exact aw _
section
variable{X:Cx}{ρ:List ak}
def Y0(r:dE X.K ρ H v d)(h:Iz d=some p):∃(a:ak)(x y:V),v=.ref a/\ml X.K H a [x,y]/\dE X.K ρ H x p.1/\dE X.K ρ H y p.2/\oY true p.1=true:=by
 unfold Iz at h;split at h
 ·split at h
  ·rename_i c;cases h;cases r with|tup hq rs=>
    cases rs with|cons r1 rs=>
     cases rs with|cons r2 rs=>
      cases rs;exact⟨_,_,_,rfl,hq,r1,r2,c⟩
  ·cases h
 ·cases h
theorem OE(hc:X.calm=true){A:bI}(hh:A.handled=none)(hu:A.units+10 < cS){R:Dg->am->Prop}(d g L:ak)(n:Nat)(ha:ρ[n]?=some d)(nL:L∉ρ)(J:List V)(all:List D):∀(ds:List D)(ps:List (D×D))(j:Nat)(i:Int)(tok:Tok)(s:am)(H:Hp)(st:aZ)(a6:List (D×D)),all.drop j=ds->p_ ds=some ps->Inv X ar σ H s->SR X.K ρ H st->st[n]?=some (.dct true a6)->H L=some (.lst J)->bW X.K ρ H J all ->o_ X ar H g->s.heap.IsListIter g L j->a6.length+ds.length < sizeLine ->(∀B E,Inv X ar σ B E->SR X.K ρ B (st.set n (.dct true (tJ a6 ps)))->Ex ρ H ρ B->R (.ok (.ret .none)) E) ->iG (aY X.prog X.w) A (.builtin "dict.update.loop" ⟨[.ref d,.ref g,.int i tok,.none],[]⟩) R s
 |[],ps,j,i,tok,s,H,st,a6,hd,h,I,sr,hn,hL,rs,hf,hi,hz,hR=>by
  cases h;let⟨f0,Y,f2,U,Q,O⟩:=hf;let⟨its,rv,pl,_⟩:=I.list (gS.of hL);refine eQ (b:=Builtin.«dict.update.loop») rfl ?_;rw[c6 A5 _];unfold Builtin.«dict.update.loop»;simp only[];let hj:all.length<=j:=by have:=c_ d7 hd;simp at this;ext
  refine ab (zH (A:=A.in1) hh hi pl.isList (by rw[kA];rw[aI,<- rv.length,rs.length];exact hj) λh' hx=>?_)
  wp_walk
  refine hR H _ (I.turned (t':=s.toks) (λb o q e=>hx b o q e) f0 Y U Q O) ?_ Ex.refl;have:st.set n (.dct true (tJ a6 []))=st:=by show st.set n (.dct true a6)=st;let⟨h1,h2⟩:=ac.mp hn;rw[<- h2];exact v8 h1
  rw[this];exact sr
 |e::ds,ps,j,i,tok,s,H,st,a6,hd,h,I,sr,hn,hL,rs,hf,hi,hz,hR=>by
  let hf':=hf;let⟨f0,Y,f2,U,Q,O⟩:=hf;unfold p_ at h;rw[m9]at h;let⟨p,hp1,h⟩:=h;rw[ck]at h;let⟨ps,hps,rfl⟩:=h;let⟨its,rv,pl,_⟩:=I.list (gS.of hL);let hej:all[j]?=some e:=by have:=c_ (·[0]?) hd;simpa using this
  let⟨v,hv,rve⟩:=rs.get hej;let⟨a,x,y,rfl,hq,rx,ry,hk⟩:=Y0 rve hp1;let⟨u,hu',ru⟩:=rv.get hv;cases ru;refine eQ (b:=Builtin.«dict.update.loop») rfl ?_;rw[c6 A5 _];unfold Builtin.«dict.update.loop»;simp only[];refine ab (y9 (A:=A.in1) hi pl.isList (by simpa using hu') λh' l hs=>?_);let I1:Inv X ar σ H { s with heap:=h' }:=I.turned (t':=s.toks) (λb o q e=>(hs.2 b q).trans e) f0 Y U Q O;let⟨us,rus,pt,_⟩:=I1.tuple hq;obtain⟨ux,uy,rfl,r1,r2⟩:∃ux uy,us=[ux,uy]/\RelV x ux/\RelV y uy:=by
   cases rus with|cons r1 t=>
    cases t with|cons r2 t=>cases t;exact⟨_,_,rfl,r1,r2⟩
  refine ab (bV (ab (iZ (QS (s:={ s with heap:=h' }) pt ?_))));let I2:=I1.pinned (fp:=[g]) (λb q=>by rw[aA.mp q];exact hf') (λb q=>by rw[aA.mp q];let⟨o,G,c,dt⟩:=l;exact⟨o,G,λv z=>by rw[dt]at z;cases z⟩)
  refine bV (NF (A:=A.in1) (by show A.units+1+2 < cS;ext) I2 sr ha hn rx hk (by simp at hz;ext) ry r1 r2 λB E I' sr' x'=>?_);refine ai ⟨fm A5 _,?_⟩;let hlt:=(ac.mp hn).1;let hi2:E.heap.IsListIter g L (j+1):=by
   let⟨o,G,r⟩:=l;refine⟨o,?_,r⟩;let hm:(g,o)∈ar++mG [g] h':=by refine bn _ ?_;simp[mG,G]
   exact (I'.pin (g,o) (bn _ hm)).1
  let hit:B g=none:=by
   let⟨o,G,r⟩:=l;let hm:(g,o)∈ar++mG [g] h':=by refine bn _ ?_;simp[mG,G]
   exact (I'.pin (g,o) (bn _ hm)).2.1
  refine OE hc hh hu d g L n ha nL J all ds ps (j+1) (i+1) _ E B _ (mK a6 p.1 p.2) (by rw[<- Bw,hd];rfl) hps I'.unpinned sr' (aF hlt) (x'.lst L J nL hL) (rs.mono x') ⟨hit,Y,f2,U,Q,O⟩ hi2 (by have:=RS a6 p.1 p.2;simp at hz;ext) λH3 s3 I3 C x3=>?_;rw[Ec]at C;exact hR H3 s3 I3 C (x'.trans x3)
end
section
variable{X:Cx}
theorem Lu:∀{ds:List D}{ps:List (D×D)},p_ ds=some ps->ps.length=ds.length
 |[],_,h=>by cases h;rfl|d::ds,ps,h=>by unfold p_ at h;rw[m9]at h;let⟨p,_,h⟩:=h;rw[ck]at h;let⟨g,c,rfl⟩:=h;simp[Lu c]
def EU(K:ah)(g:List D->M D):List V->Hp->VK->Prop:=λxs H Q=>∃a c ρ st ds,xs=[.ref a]/\H a=some (.lst c)/\a∉ρ/\SR K ρ H st/\bW K ρ H c ds/\aT K ρ H (g ds st) λr _ ρ' h=>∀v,dE K ρ' h v r->Q v h
def Qkn(hc:X.calm=true)(hu:X.A.units+60 < cS):CallR X (.type "dict") (EU X.K lK):=by
 intro l s σ H xs us Q I r h;let⟨L,vs,ρ,st,ds,rfl,hv,nL,sr,rs,p⟩:=h;let⟨u,rfl,rx⟩:=w8 r;cases rx;unfold lK at p;cases c:p_ ds with|none=>rw[c]at p;exact p.elim|some ps=>
  rw[c]at p;let⟨hk,p2⟩:=aT.chk p;let hlen:=Lu c;let⟨its,rv,⟨⟨oc,od,odt,J⟩,n,g,c1,c2,c3⟩,hz⟩:=I.list (gS.of hv);simp only at c1 c2 c3;subst c1 c2 c3;let hh:=I.ok.hd hc;let hLd:L < s.heap.objs.size:=aL g;refine vZ (Q₁:=λobj s₁=>obj=.ref s.heap.objs.size/\s₁={ s with heap:=s.heap.push { cls:=.type "dict",data:=.dict #[] } }) Dr rfl Bx (HD _ ⟨rfl,rfl⟩) λobj s₁ h₁=>?_;let⟨rfl,rfl⟩:=h₁;refine⟨⟨_,ay _ rfl,rfl⟩,AZ _ _,?_⟩;let hn:=I.hok.fresh (aw s.heap.objs.size);let I1:=I.laid (a:=s.heap.objs.size) (o:=kI s.heap.objs.size []) (h':=s.heap.push { cls:=.type "dict",data:=.dict #[] }) (t':=s.toks) (λ_ _ q=>aj _ q) (aw _)
   (Dx (P:=X.prog) (w:=X.w) (xs:=[]) (bU _) (beq_eq_false_iff_ne.mpr (ff (ba I.big))) .nil (o0 s.heap) ⟨_,_,ay _ rfl,rfl⟩)
  let x0:Ex ρ H (ρ++[s.heap.objs.size]) (fE H s.heap.objs.size (kI s.heap.objs.size [])):=Ex.newO hn;let s0:SR X.K (ρ++[s.heap.objs.size]) (fE H s.heap.objs.size (kI s.heap.objs.size [])) (st++[.dct true []]):=(sr.new hn).keepO (sr.fresh hn) ⟨[],kL,.nil⟩;let C:(ρ++[s.heap.objs.size])[st.length]?=some s.heap.objs.size:=by rw[<- sr.len];simp
  let O:L≠s.heap.objs.size:=ba hLd;let hv1:fE H s.heap.objs.size (kI s.heap.objs.size []) L=some (.lst vs):=by rw[fS O];exact hv
  let nL1:L∉ρ++[s.heap.objs.size]:=by simp only[aP,aA,not_or];exact⟨nL,O⟩
  let Y:=rs.mono x0;let E:(s.heap.push { cls:=.type "dict",data:=.dict #[] }).get? L=some { cls:=.type "list",data:=.seq its.toArray n,slots:=J }:=aj _ g;let hT:kW { s with heap:=s.heap.push { cls:=.type "dict",data:=.dict #[] } } (.ref L) "list":=⟨_,E,rfl⟩
  unfold Builtin.«dict.__init__»
  wp_walk using gF hT,W9 (A:=X.A.in1.in1) hh E
  intro h' U kp;let I2:Inv X l σ _ { s with heap:=h',toks:=U }:=I1.kept (t':=U) kp;simp only[pz,if_true];refine ab (fV ?_);let hL2:h'.get? L=some { cls:=.type "list",data:=.seq its.toArray n,slots:=J }:=kp _ _ E;refine ab (fK ⟨_,hL2,rfl,n,rfl⟩ ?_);refine ai ⟨fm A5 _,?_⟩;let I3:Inv X l σ _ { s with heap:=h'.push { cls:=.type "list_iterator",data:=.fields #[.ref L,.int 0 0] },toks:=U }:=I2.kept (t':=U) λb o e=>aj _ e;refine OE (X:=X) (A:=X.A.in1) hc hh (by show X.A.units+1+10 < cS;ext) s.heap.objs.size h'.objs.size L st.length C nL1 vs ds ds ps 0 0 0 _ _ _ [] rfl c I3 s0 (by simp) hv1 Y (I2.fpOk (aw _) (I2.hok.fresh (aw _))) ⟨_,ay _ rfl,rfl,rfl⟩ (by rw[kN];simp;ext) λG s' I' B x'=>?_;refine⟨rfl,.ref s.heap.objs.size,G,I',rfl,?_⟩;let e1:(st++[MO.dct true []]).set st.length (.dct true (tJ [] ps))=st++[.dct true (tJ [] ps)]:=by simp
  rw[e1]at B;let p3:∀ρ' G,Ex ρ H ρ' G->SR X.K ρ' G (st++[.dct true (tJ [] ps)])->∀v,dE X.K ρ' G v (.dic st.length)->Q v G:=p2;let⟨es,ee,_⟩:=B.ob st.length _ (.dct true (tJ [] ps)) C (by simp);exact p3 _ G (x0.trans x') B _ (.dic ⟨_,ee,.inr rfl⟩ C)
def Zk(U:CallR X (.type "dict") (EU X.K lK))(O:Gl X x)(L:X.mg x=none)(h:cZ x=some (.type "dict"))(u:SL X e v)(J:x≠"__name__")(o:(x == ("__debug__":Str))=false)(q:starEach [e] X.env=[(false,eval e X.env)]):SE X (.Call (.Name x p) [e] [] pos) (iM lK v):=
 (Kg U O L h (sB u vg q) J o q rfl).of λσ H Q Y=>Y.el λρ l st I sr p=>⟨ρ,l,st,I,sr,p.bnd.imp λds c ρ1 H1 x1 C E a B u G h g=>⟨a,B,ρ1,c,ds,rfl,h,G,C,g,E⟩⟩
end
def CC:lY:=rO "dict" (λc p=>c.tag p 21) lK λc u g m a s=>Zk (Qkn c u) g m (by nofun) a (w9 (by nofun)) (by nofun) s
section
variable{A:bI}{R:Dg->am->Prop}{n:Nat}{P:Nat->ag->Prop}{St:Nat->bK->Prop}
def VD(W:Walks prog w A.in1 I fp wr n P St)(bt:Nat->Nat->Bool)(hcmp:Cb prog w A.in1 .Gt P Kp bt)(S:ak)(hSf:S∉fp)(kp:∀h h':bK,Kp h->(∀b o,b∉wr->b≠S->h.get? b=some o->h'.get? b=some o)->Kp h'):∀(k j:Nat)(s:am)(G:ag)(c:Nat),n-(j+1)=k->j+1<=n->St (j+1) s.heap->P (nV bt j) G->Kp s.heap ->s.heap.get? S=some { cls:=.type "list",dict:=none,data:=.seq #[G,G] c,slots:=#[] } ->(∀v h' tk,P (nV bt (n-1)) v->(∀b o,b∉wr->b≠S->s.heap.get? b=some o->h'.get? b=some o)->R (.ok (.ret v)) { s with heap:=h',toks:=tk }) ->iG (aY prog w) A (.builtin "max.loop" ⟨[.ref I,.none,.ref S],kw⟩) R s:=by
 let hSw:S∉wr:=λh=>hSf (W.sub _ h);let B:(toString "max"++toString ".loop":String)="max.loop":=by decide
 intro k
 induction k with
 |zero=>
  intro j s G c hk hj L H hK hS hR;let hin:j+1=n:=by ext
  refine eQ ki ?_;rw[c6 dA _]
  show aG _ A.in1 (i9 (.ref S) >>= _) _ _ s;refine ab (dg hS rfl ?_)
  show aG _ A.in1 (tryCatch (ic (.ref I)) _ >>= _) _ _ s;refine ab (iZ (W.done s _ _ (hin ▸ L) λh' tk l=>?_));let E:=l S _ hSw hS
  show aG _ A.in1 (updateSeq S (λ_=>#[]) >>= _) _ _ _;refine ab ?_;refine u_ E rfl (ab (iX (ai ?_)));refine hR G _ tk (by rw[<- hin];exact H) λb o q g e=>(dC _ _ (ff g)).trans (l b o q e)
 |succ k ih=>
  intro j s G c hk hj L H hK hS hR;let O:j+1 < n:=by ext
  refine eQ ki ?_;rw[c6 dA _]
  show aG _ A.in1 (i9 (.ref S) >>= _) _ _ s;refine ab (dg hS rfl ?_)
  show aG _ A.in1 (tryCatch (ic (.ref I)) _ >>= _) _ _ s;refine ab (iZ (W.item (j+1) s _ _ O L λv h' tk hP J l=>?_));let E:=l S _ hSw hS;let U:Kp h':=kp _ _ hK λb o hb _ e=>l b o hb e
  show aG _ A.in1 (tryCatch (k_ [v,v] (richCompare .Gt v G >>= _)) _ >>= _) _ _ _;refine ab (iZ (bV (ab (hcmp (j+1) (nV bt j) v G _ _ _ U hP H ?_))));refine ab (bV (fJ ?_));refine ab (iX (ai ?_));cases hb:bt (j+1) (nV bt j) with
  |true=>
   simp only[if_true];refine ab ?_;refine u_ E rfl (ab (iX ?_));rw[B];refine ai ⟨fm dA _,ih (j+1) _ v _ () O (W.frame _ _ _ J λb hbf o e=>?_) (by simp only[nV,hb,if_true];exact hP) (kp _ _ U λb o _ g e=>(dC _ _ (ff g)).trans e) (cT _ E rfl)
    λv' Y u Q C=>?_⟩
   ·exact (dC _ _ (λh:S=b=>hSf (by rw[h];exact hbf))).trans e
   ·exact hR v' Y u Q λb o q g e=>C b o q g ((dC _ _ (ff g)).trans (l b o q e))
  |false=>
   simp only[aK,if_false];refine ab (iX ?_);rw[B];refine ai ⟨fm dA _,ih (j+1) _ G c () O J (by simp only[nV,hb,aK,if_false];exact H) U E λv' Y u Q C=>?_⟩;exact hR v' Y u Q λb o q g e=>C b o q g (l b o q e)
def Zo(W:Walks prog w A.in1 I fp wr n P St)(bt:Nat->Nat->Bool)(G:Cb prog w A.in1 .Gt P Kp bt)(S:ak)(u:S∉fp)(L:∀h h':bK,Kp h->(∀b o,b∉wr->b≠S->h.get? b=some o->h'.get? b=some o)->Kp h') (hn:0 < n) {s:am}{c:Nat} (O:St 0 s.heap) (hK:Kp s.heap)(hS:s.heap.get? S=some { cls:=.type "list",dict:=none,data:=.seq #[] c,slots:=#[] })(hR:∀v h' tk,P (nV bt (n-1)) v->(∀b o,b∉wr->b≠S->s.heap.get? b=some o->h'.get? b=some o)->R (.ok (.ret v)) { s with heap:=h',toks:=tk }):iG (aY prog w) A (.builtin "max.loop" ⟨[.ref I,.none,.ref S],kw⟩) R s:=by
 let U:S∉wr:=λh=>u (W.sub _ h);let l:(toString "max"++toString ".loop":String)="max.loop":=by decide
 refine eQ ki ?_;rw[c6 dA _]
 show aG _ A.in1 (i9 (.ref S) >>= _) _ _ s;refine ab (dg hS rfl ?_)
 show aG _ A.in1 (tryCatch (ic (.ref I)) _ >>= _) _ _ s;refine ab (iZ (W.item 0 s _ _ hn O λv h' tk hP C q=>?_));let J:=q S _ U hS;let hK':Kp h':=L _ _ hK λb o hb _ e=>q b o hb e
 show aG _ A.in1 (updateSeq S (λ_=>#[v,v]) >>= _) _ _ _;refine ab ?_;refine u_ J rfl ?_;rw[l];refine ai ⟨fm dA _,VD W bt G S u L _ 0 _ v _ rfl hn (W.frame _ _ _ C λb Q o e=>?_) hP (L _ _ hK' λb o _ g e=>(dC _ _ (ff g)).trans e) (cT _ J rfl) λv' h'' B Y E=>?_⟩
 ·exact (dC _ _ (λh:S=b=>u (by rw[h];exact Q))).trans e
 ·exact hR v' h'' B Y λb o H g e=>E b o H g ((dC _ _ (ff g)).trans (q b o H e))
end
section
variable{A:bI}{s:am}
def Rx(a v:ag):argsOk "max" ⟨[a],[(az "default",v)]⟩:=by unfold argsOk;kernel_rfl
def Xa{dv:Option ag}{Q:ag->am->Prop}(hh:A.handled=none)(G:s.heap.IsList l items)(O:0 < items.size)(L:Nat->Nat->Bool)(u:Cb prog w A.in1 .Gt (λi v=>items[i]?=some v) (λh=>∀b o,s.heap.get? b=some o->h.get? b=some o) L)(U:∀v h' C,items[nV L (items.size-1)]?=some v->(∀b o,s.heap.get? b=some o->h'.get? b=some o)->Q v { s with heap:=h',toks:=C }):aG (aY prog w) A (call (.builtin "max") [.ref l] (dv.toList.map λd=>(az "default",d))) Q E s:=by
 let c:(toString "max"++toString ".loop":String)="max.loop":=by decide
 let q:l < s.heap.objs.size:=by let⟨_,e,_⟩:=G;exact aL e
 refine sA xA wD wE (by cases dv with|none=>exact PySem.F.args_max1 _|some d=>exact Rx _ _) ?_;let I:gA "max" ["key","default"] 0 ⟨[],dv.toList.map λd=>(az "default",d)⟩=pure [none,dv]:=by cases dv<;>rfl
 show aG _ A.in1 (gA "max" ["key","default"] 0 ⟨[],dv.toList.map λd=>(az "default",d)⟩ >>= _) _ _ s;refine ab (nX I ?_);refine ab (ai ?_);refine ab (fK G ?_);refine ab (b9 ?_);let B:s.heap.objs.size < (s.heap.push { cls:=.type "list_iterator",data:=.fields #[.ref l,.int 0 0] }).objs.size:=by rw[cA];exact iN _
 let J:(s.heap.push { cls:=.type "list_iterator",data:=.fields #[.ref l,.int 0 0] }).objs.size∉[s.heap.objs.size,l]:=λg=>by
  rcases aR.mp g with e|g
  ·exact dk B e
  ·rw[aA.mp g]at B;exact bh (om q B) (cM _)
 rw[c];refine ai ⟨fm dA _,Zo (Kp:=λh=>∀b o,s.heap.get? b=some o->h.get? b=some o) (tf (A:=A.in1) hh s.heap.objs.size l (ba q) items) L u _ J (λh h' hK H b o e=>H b o (λg=>?_) (λz=>?_) (hK b o e)) O ?_ ?_ (ay _ rfl) λv h' C Y H=>?_⟩
 ·exact bh (aL e) (by rw[aA.mp g];exact cM _)
 ·subst z;exact bh (om (aL e) B) (cM _)
 ·exact⟨⟨_,aj _ (ay _ rfl),rfl,rfl⟩,(G.push _).push _⟩
 ·exact λb o e=>aj _ (aj _ e)
 ·refine U v h' C Y λb o e=>H b o (λg=>?_) (λz=>?_) (aj _ (aj _ e))
  ·exact bh (aL e) (by rw[aA.mp g];exact cM _)
  ·subst z;exact bh (om (aL e) B) (cM _)
def Z8{Q:ag->am->Prop}(hh:A.handled=none)(q:s.heap.IsList l items)(B:items.size=0)(G:∀(h':bK)(g:Nat),(∀b o,s.heap.get? b=some o->h'.get? b=some o)->Q dv { s with heap:=h',toks:=g }):aG (aY prog w) A (call (.builtin "max") [.ref l] [(az "default",dv)]) Q E s:=by
 let c:(toString "max"++toString ".loop":String)="max.loop":=by decide
 let h:l < s.heap.objs.size:=by let⟨_,e,_⟩:=q;exact aL e
 refine sA xA wD wE (Rx _ _) ?_;let v:gA "max" ["key","default"] 0 ⟨[],[(az "default",dv)]⟩=pure [none,some dv]:=rfl
 show aG _ A.in1 (gA "max" ["key","default"] 0 ⟨[],[(az "default",dv)]⟩ >>= _) _ _ s;refine ab (nX v ?_);refine ab (ai ?_);refine ab (fK q ?_);refine ab (b9 ?_);let H:s.heap.objs.size < (s.heap.push { cls:=.type "list_iterator",data:=.fields #[.ref l,.int 0 0] }).objs.size:=by rw[cA];exact iN _
 rw[c];let W:=tf (prog:=prog) (w:=w) (A:=A.in1) hh s.heap.objs.size l (ba h) items;refine ai ⟨fm dA _,eQ ki ?_⟩;rw[c6 dA _]
 show aG _ A.in1 (i9 (.ref (s.heap.push { cls:=.type "list_iterator",data:=.fields #[.ref l,.int 0 0] }).objs.size) >>= _) _ _ _;refine ab (dg (ay _ rfl) rfl ?_)
 show aG _ A.in1 (tryCatch (ic (.ref s.heap.objs.size)) _ >>= _) _ _ _;refine ab (iZ (W.done _ _ _ ?_ λh' g u=>?_))
 ·rw[B];exact⟨⟨_,aj _ (ay _ rfl),rfl,rfl⟩,(q.push _).push _⟩
 ·show aG _ A.in1 (PySem.rule _ >>= _) _ _ _;refine ab (fV (ai ?_));refine G h' g λb o e=>u b o (λC=>?_) (aj _ (aj _ e));exact bh (aL e) (by rw[aA.mp C];exact cM _)
end
section
variable{X:Cx}
def Vm(hc:X.calm=true)(I:Inv X ar σ H s){n:Int}{Q:VK}(h:gS X.K H l ((n::c).map V.int))(q:Q (.int (c.foldl max n)) H):aG (aY X.prog X.w) X.A (call (.builtin "max") [.ref l] [(az "default",dv)]) (EP X ar σ Q) X.xe s:=by
 let⟨its,rv,pl,hz⟩:=I.list h;let⟨ys,e,g⟩:=Qx (MU rv);let C:=pl.isList;rw[e]at C;let hsz:ys.size=c.length+1:=by have:=c_ d7 g;simpa using this.symm
 refine Xa (dv:=some dv) (I.ok.hd hc) C (by simp[vT];ext) (λi j=>decide (oR ys i > oR ys j)) (λi j U O s' Q E _ h1 h2 h=>CmpOf.ints_gt (P:=λi v=>(vT ys)[i]?=some v) (oR ys) (λ_ _=>AN) i j U O s' Q E h1 h2 h) λv h' Y B hk=>?_;let e2:(vT ys).size=ys.size:=by simp[vT]
 rw[e2]at B;let⟨t,rfl⟩:=AN B;let⟨b1,L⟩:=argBest_gt (oR ys) (ys.size-1);let⟨J,f2⟩:=JG c n;generalize nV (λi j=>decide (oR ys i > oR ys j)) (ys.size-1)=k at b1 L ⊢;let o:oR ys k∈n::c:=by rw[g,AO];exact getD_mem (by rw[<- g];simp;ext)
 let u:c.foldl max n<=oR ys k:=by rw[g]at J;let⟨j,G,ej⟩:=mem_getD J;rw[<- ej,<- AO];exact L j (by rw[<- g]at G;simp at G;ext)
 have:oR ys k=c.foldl max n:=Bp (f2 _ o) u;rw[this];exact⟨.int (c.foldl max n),H,I.kept (t':=Y) hk,⟨t,rfl⟩,q⟩
end
section
variable{X:Cx}
def Tv(hc:X.calm=true)(hg:Gl X "max")(hm:X.mg "max"=none)(hv:cZ "max"=some (.builtin "max"))(ha:SL X e ca)(hd:SE X d fd)(he:starEach [e] X.env=[(false,eval e X.env)]:=by rfl):SE X (.Call (.Name "max" p) [e] [⟨some "default",d,kp⟩] pos) (tz ca fd):=by
 intro E s σ H Q I h;let⟨ρ,l,st,lr,sr,q⟩:=h;let O:backTo pos (starEach [e] X.env)=(false,eval e X.env)::backTo pos (starEach [] X.env):=by rw[he];rfl
 refine dJ (xF I hg hm hv ?_ (by decide) (by decide));refine PyProof.Rows.callWith_kw (e:=e) (rest:=[]) (kws:=[⟨some "default",d,kp⟩]) ?_ O (by rw[O];rfl) rfl rfl;rw[O]
 show aG _ _ (sS [(false,eval e X.env)]) _ _ s;unfold tz at q;refine g9 (fT (ha E s σ H (λx J=>∃a B ρ1 c ds,x=.ref a/\J a=some (.lst B)/\a∉ρ1/\SR X.K ρ1 J c/\bW X.K ρ1 J B ds/\LR X.K ρ1 J σ l/\aT X.K ρ1 J (bnd (fd l) (λd=>if ds.length=0 then ret d else n0 ds) c) λd x ρ' H'=>∀(v:V),dE X.K ρ' H' v d->Q v H') I
  ⟨ρ,l,st,lr,sr,q.bnd.imp λds c ρ1 J x1 s1 q1 a B na0 na hl L=>⟨a,B,ρ1,c,ds,rfl,hl,na,s1,L,lr.mono x1,q1⟩⟩) λu s1 ⟨x,J,I1,r1,a,B,ρ1,c,ds,ex,hl,na,sr1,L,lr1,q1⟩=>ip ?_)
 subst ex;cases r1;refine PyProof.Rows.kws_cons (fT (hd E s1 σ J (λy G=>∃ρ2 g dd,SR X.K ρ2 G g/\G a=some (.lst B)/\bW X.K ρ2 G B ds/\dE X.K ρ2 G y dd/\aT X.K ρ2 G ((if ds.length=0 then ret dd else n0 ds) g) λd x ρ' H'=>∀(v:V),dE X.K ρ' H' v d->Q v H') I1
  ⟨ρ1,l,c,lr1,sr1,q1.bnd.imp λdd g ρ2 G x2 s2 o v rv=>⟨ρ2,g,dd,s2,x2.lst a B na hl,L.mono x2,rv,o⟩⟩) λw s2 ⟨y,G,I2,r2,ρ2,g,dd,U,Y,C,ry,o⟩=>PyProof.Rows.kws_nil ?_)
 show aG _ _ (call (.builtin "max") [.ref a] [(az "default",w)]) _ _ s2;by_cases h0:ds.length=0
 ·rw[aH h0]at o;let⟨its,rv,g,hz⟩:=I2.list (gS.of Y);let q:=rv.length;let l:=C.length;exact Z8 (I2.ok.hd hc) g.isList (by rw[aI];ext) λh' c h=>⟨y,G,I2.kept (t':=c) h,r2,o.ret U y ry⟩
 ·rw[aD h0]at o;unfold n0 at o;cases e:n5 ds with|none=>rw[e]at o;exact o.elim|some ps=>
   rw[e]at o;have:=Ng e C;subst this;cases ps with|nil=>exact o.elim|cons n ns=>exact Vm hc I2 (gS.of Y) (o.ret U _ (.int _))
end
def FH:lY:=λq c e=>JF e λf G ks _ h=>Bh f λy _ E=>v1 G λa C=>v1 ks λk B=>wh (y=az "max"/\k.arg=some (az "default")/\c.bl y=true/\rG a=true) λz=>(q.l c a).bind λu=>(q.e c k.value).bind λo=>some ⟨tz u.1 o.1,λg=>by let⟨I,d,H⟩:=k;subst h E C B;let⟨rfl,rfl,l,v⟩:=z;exact Tv g.S.calm (g.gl l).1 (g.gl l).2 (by nofun) (u.2 g) (o.2 g) (rJ v)⟩
abbrev xK(h:bK)(z TI TO:ak)(g c:ag):Prop:=h.get? z=some { cls:=.type "zip",dict:=none,data:=.fields #[g,c,.bool false,.ref TI,.ref TO],slots:=#[] }
section
variable{A:bI}{E:ag->am->Prop}{s:am}
def Zh{Q:Option Obj->am->Prop}(h:s.heap.get? a=some o)(g:Q (some o) s):aG (aY prog w) A (loadIfAlive a) Q E s:=by show aG (aY prog w) A (.loadIfAlive a .pure) Q E s;intro p q c;rw[Sem.wp_loadIfAlive,h];exact ai (M:=aY prog w) (A:=A) (E:=E) g p q c
def Ti:entryFor table "zip.__getattribute__"=some Builtin.«object.__getattribute__»:=
 entryFor_alias (id':="object.__getattribute__") (by kernel_rfl) (by nofun) (by nofun) (by kernel_rfl)
def S9(z TI TO : ak)(name : Str)(u : Tok)(l : iW (.type "zip") name = pure none)(c : (["__module__", "__name__", "__qualname__", "__doc__", "__annotations__"] : List Str).contains name = false)(hsz : name.length+100 <= sizeLine := by size_fits):
  Meets (Builtin.«object.__getattribute__» ⟨[.ref z,.str name u],[]⟩) (λA R s=>ma s.heap z TI TO .none/\raisesAttr (.ref z) name A R s):=
 Meets.of_wp λprog w A R s h=>by
  let⟨v,g,d,o,os⟩:=s;let⟨q,h⟩:=h;let B:(⟨v,g,d,o,os⟩:am).TypeIs (.ref z) "zip":=⟨_,q,rfl⟩
  unfold Builtin.«object.__getattribute__»
  repeat (any_goals (first|assumption|wp_step))
  simp only[c,aK,if_false]
  repeat (any_goals (first|assumption|wp_step))
  exact wpAny_raiseAttrError h.1 h.2 (attrMsg_fits (by nofun) hsz)
def WS{Q:ag×List ag->am->Prop}(h:Q (.builtin "zip.__getattribute__",[.ref l]) s):aG (aY prog w) A (uG (.builtin "zip.__getattribute__") (.ref l)) Q E s:=by
 unfold uG;let c:Dj (.builtin "zip.__getattribute__")=pure (.type "wrapper_descriptor"):=by rfl
 rw[c];refine ab (ai ?_);exact ai h
def YW{z TI TO:ak}{Q:Option ag->am->Prop}(hh:A.handled=none)(g:ma s.heap z TI TO .none)(h:∀h' c,(∀b u,s.heap.get? b=some u->h'.get? b=some u)->Q none { s with heap:=h',toks:=c }):aG (aY prog w) A (AX (.ref z) (az "keys")) Q E s:=by
 let C:s.TypeIs (.ref z) "zip":=⟨_,g,rfl⟩
 let J:iW (.type "zip") (az "__getattribute__")=pure (some (ut "zip.__getattribute__")):=by rw[mP,iF];kernel_rfl
 let q:iW (.type "zip") (az "__getattr__")=pure none:=by rw[mP,iF];kernel_rfl
 let o:iW (.type "zip") (az "keys")=pure none:=by rw[mP,iF];kernel_rfl
 unfold AX
 wp_walk using gF C
 refine WS ?_;refine su F.slot_zip_getattribute ⟨_,g,rfl⟩ Ti (F.args_zip_getattribute_2 _ _) (S9 z TI TO (az "keys") _ o rfl) ⟨g,?_⟩;refine⟨hh,λh' c e l=>?_⟩;let⟨I,H,v⟩:=l.there;let G:kW { s with heap:=h',toks:=c } (.ref e) "AttributeError":=⟨_,v,rfl⟩
 let B:isSubtype (.type "AttributeError") (.type "AttributeError")=pure true:=by rw[vW];kernel_rfl
 show aG (aY prog w) A (nE (.ref z) (.str (az "keys") s.toks) (.type "zip") (.ref e) none false false) _ _ { s with heap:=h',toks:=c };unfold nE;refine ab (dN G B ?_);rw[aH rfl];unfold hookBehind;rw[aD (by decide),q];refine ab (ai ?_);unfold hookOrError AY
 wp_walk
 exact h h' c λb u z=>l.keeps b u z
def Lx(h:bK)(z TI TO:ak):Prop:=ma h z TI TO .none\/∃(T:ak)(o:Obj)(c:Bool),xK h z TI TO (dP T) (.bool c)/\h.get? T=some o
def Rl{z TI TO T:ak}{Q:Bool->am->Prop}(hz:xK s.heap z TI TO (dP T) (.bool h))(q:s.heap.get? T=some o)(l:∀h',xK h' z TI TO (dP T) (.bool true)->cR z s.heap h'->Q false { s with heap:=h' }):aG (aY prog w) A (cf (.ref z)) Q E s:=by
 unfold cf;refine ab (cD hz rfl (x:=dP T) rfl ?_);refine ab (Zh (a:=(T:Int).toNat) (by rw[bC];exact q) ?_);simp only[wF,aK,if_false];refine ab (cD hz rfl (x:=.bool h) rfl ?_);cases h with
 |true=>
  rw[aD (by decide)];exact ai (l _ hz ⟨rfl,λ_ _=>rfl⟩)
 |false=>
  rw[aH (by decide)];exact ab (dj hz (by simp) λh' c g=>ai (l h' c g))
def Xw{z TI TO h g q l T:ak}{B u:Nat}{Q:ag->am->Prop}(D:nC z TI TO h g q l)(hz:xK s.heap z TI TO (dP T) (.bool f1)) (O:s.heap.get? T=some o) (H:fv s.heap TI (.ref h) (.ref g))(h1:s.heap.IsListIter h q B) (Y:s.heap.IsListIter g l u) (G:s.heap.IsList q xs) (C:s.heap.IsList l ys) (L:xs[B]?=some x) (J:ys[u]?=some y)(U:∀h',xK h' z TI TO (dP T) (.bool true)->h'.IsListIter h q (B+1)->h'.IsListIter g l (u+1)->fv h' s.heap.objs.size x y->h'.objs.size=s.heap.objs.size+1 ->(∀c o,c≠z->c≠h->c≠g->s.heap.get? c=some o->h'.get? c=some o)->Q (.ref s.heap.objs.size) { s with heap:=h' }):aG (aY prog w) A (Builtin.«zip.__next__» ⟨[.ref z],[]⟩) (λfin I=>∃v,fin=.done (.ret v)/\Q v I) E s:=by
 show aG _ _ (qz (.ref z) 2 >>= _) _ _ _;refine ab (cD hz rfl (x:=.bool false) rfl ?_)
 show aG _ _ (qz (.ref z) 3 >>= _) _ _ _;refine ab (cD hz rfl (x:=.ref TI) rfl ?_);refine ab (dg H rfl ?_)
 show aG _ _ (cf (.ref z) >>= _) _ _ _;refine ab (Rl hz O λh₁ hz₁ hs₁=>?_);simp only[aK,if_false];refine ab ?_;rw[<- i6];simp only[i7,mB];refine ab (ab (bV ?_))
 show aG _ _ (bF (.ref h) >>= _) _ _ _;refine ab (lv (h1.extBut hs₁.extBut D.i1z) (G.extBut hs₁.extBut D.l1z) L λh₂ h1₂ hs₂=>ai (ai ?_));refine ab (ab (bV ?_))
 show aG _ _ (bF (.ref g) >>= _) _ _ _;refine ab (lv ((Y.extBut hs₁.extBut D.i2z).extBut hs₂.extBut D.i12.symm) ((C.extBut hs₁.extBut D.l2z).extBut hs₂.extBut D.l2i1) J λh₄ h2₄ hs₄=>ai (ai (ai ?_)));let hsz:h₄.objs.size=s.heap.objs.size:=by rw[hs₄.1,hs₂.1,hs₁.1]
 refine ab (vV (hsz:=by show 2<=sizeLine;decide) (ai ⟨_,rfl,?_⟩))
 show Q (.ref h₄.objs.size) { s with heap:=h₄.push { cls:=.type "tuple",data:=.seq #[x,y] } };let up:∀c o,h₄.get? c=some o->(h₄.push { cls:=.type "tuple",data:=.seq #[x,y] }).get? c=some o:=λc o e=>aj _ e;rw[hsz];refine U _ (up _ _ (hs₄.extBut _ _ D.i2z.symm (hs₂.extBut _ _ D.i1z.symm hz₁))) ((h1₂.extBut hs₄.extBut D.i12).at λo e=>up _ o e) (h2₄.at λo e=>up _ o e) ?_ (by rw[cA,hsz]) λc o c1 c2 c3 e=>up _ _ (hs₄.extBut _ _ c3 (hs₂.extBut _ _ c2 (hs₁.extBut _ _ c1 e)));rw[<- hsz];exact ay _ rfl
def Vs{z TI TO l g B v T:ak}{G C:Nat}(hh:A.handled=none)(D:nC z TI TO l g B v)(hz:xK s.heap z TI TO (dP T) (.bool f1)) (hT:s.heap.get? T=some o) (L:fv s.heap TI (.ref l) (.ref g))(Y:s.heap.IsListIter l B G) (h2:s.heap.IsListIter g v C) (q:s.heap.IsList B xs) (I:s.heap.IsList v ys) (u:xs[G]?=none\/ys[C]?=none)(U:∀h' e,(∀c o,c≠z->c≠TO->c≠l->c≠g->s.heap.get? c=some o->h'.get? c=some o)->(∃o,h'.get? e=some o/\o.cls=.type "StopIteration")->E (.ref e) { s with heap:=h' }):aG (aY prog w) A (Builtin.«zip.__next__» ⟨[.ref z],[]⟩) Q E s:=by
 show aG _ _ (qz (.ref z) 2 >>= _) _ _ _;refine ab (cD hz rfl (x:=.bool false) rfl ?_)
 show aG _ _ (qz (.ref z) 3 >>= _) _ _ _;refine ab (cD hz rfl (x:=.ref TI) rfl ?_);refine ab (dg L rfl ?_)
 show aG _ _ (cf (.ref z) >>= _) _ _ _;refine ab (Rl hz hT λh₁ hz₁ hs₁=>?_);simp only[aK,if_false];refine ab ?_;rw[<- i6];simp only[i7,mB];refine ab (ab (bV ?_))
 show aG _ _ (bF (.ref l) >>= _) _ _ _;cases H:xs[G]? with
 |none=>
  exact ab (pT hh (Y.extBut hs₁.extBut D.i1z) (q.extBut hs₁.extBut D.l1z) H λh₂ e hs₂ J=>U h₂ e (λc o c1 _ O _ x=>hs₂ _ _ O (hs₁.extBut _ _ c1 x)) J)
 |some x=>
  let hy:ys[C]?=none:=by rcases u with h|h;rw[H]at h;cases h;exact h
  refine ab (lv (Y.extBut hs₁.extBut D.i1z) (q.extBut hs₁.extBut D.l1z) H λh₂ h1₂ hs₂=>ai (ai ?_));refine ab (ab (bV ?_))
  show aG _ _ (bF (.ref g) >>= _) _ _ _;exact ab (pT hh ((h2.extBut hs₁.extBut D.i2z).extBut hs₂.extBut D.i12.symm) ((I.extBut hs₁.extBut D.l2z).extBut hs₂.extBut D.l2i1) hy λh₄ e hs₄ J=>U h₄ e (λc o c1 c2 O c4 x=>hs₄ _ _ c4 (hs₂.extBut _ _ O (hs₁.extBut _ _ c1 x))) J)
def SQ{z TI TO h g G C:ak}{J I:Nat}{Q:Option ag->am->Prop}(D:nC z TI TO h g G C)(hz:Lx s.heap z TI TO) (B:fv s.heap TI (.ref h) (.ref g)) (v:fv s.heap TO a b)(h1:s.heap.IsListIter h G J) (h2:s.heap.IsListIter g C I) (q:s.heap.IsList G xs) (l:s.heap.IsList C ys) (hx:xs[J]?=some x) (hy:ys[I]?=some y)(hQ:∀(h':bK)(T:ak)(L:Bool),xK h' z TI TO (dP T) (.bool L)->(T=s.heap.objs.size\/(xK s.heap z TI TO (dP T) (.bool true)\/xK s.heap z TI TO (dP T) (.bool false)))->(∃a b,fv h' TO a b)->h'.IsListIter h G (J+1)->h'.IsListIter g C (I+1)->fv h' s.heap.objs.size x y->h'.objs.size=s.heap.objs.size+1 ->(∀c o,c≠z->c≠TO->c≠h->c≠g->s.heap.get? c=some o->h'.get? c=some o)->Q (some (.ref s.heap.objs.size)) { s with heap:=h' }):aG (aY prog w) A (ic (.ref z)) Q E s:=by
 rcases hz with hz|⟨T,o,L,hz,hT⟩
 ·exact wpAny_pyNext_zip_item D hz B v h1 h2 q l hx hy λh' a1 c a3 Y U O H=>hQ h' _ _ a1 (.inl rfl) ⟨_,_,c⟩ a3 Y U O H
 ·let u:s.TypeIs (.ref z) "zip":=⟨_,hz,rfl⟩
  unfold ic;exact ab (gR (bN (name:=az "__next__") u gj
   (b_ gj u ot
    (Xw D hz hT B h1 h2 q l hx hy λh' a1 a3 Y U O H=>ai (hQ h' T true a1 (.inr (by cases L;exact .inr hz;exact .inl hz)) ⟨_,_,H TO _ D.TOz D.TOi1 D.TOi2 v⟩ a3 Y U O λc o c1 _ h g e=>H c o c1 h g e)) (nJ _))))
def Lh{z TI TO B v G C:ak}{J I:Nat}{Q:Option ag->am->Prop}(hh:A.handled=none)(D:nC z TI TO B v G C)(hz:Lx s.heap z TI TO) (u:fv s.heap TI (.ref B) (.ref v)) (H:fv s.heap TO a b)(U:s.heap.IsListIter B G J) (O:s.heap.IsListIter v C I) (l:s.heap.IsList G xs) (h:s.heap.IsList C ys) (g:xs[J]?=none\/ys[I]?=none)(L:∀h',(∀c o,c≠z->c≠TO->c≠B->c≠v->s.heap.get? c=some o->h'.get? c=some o)->Q none { s with heap:=h' }):aG (aY prog w) A (ic (.ref z)) Q E s:=by
 rcases hz with hz|⟨T,o,f1,hz,hT⟩
 ·exact wpAny_pyNext_zip_end hh D hz u H U O l h g L
 ·let q:s.TypeIs (.ref z) "zip":=⟨_,hz,rfl⟩
  unfold ic;refine ab (gR (bN (name:=az "__next__") q gj
   (b_ gj q ot (Vs hh D hz hT u U O l h g λh' e c v=>?_) (nJ _))))
  let⟨o,Y,B⟩:=v;refine ab (dN (T:="StopIteration") (b:=true) ⟨o,Y,B⟩ nD ?_);exact ai (L _ c)
end
section
variable{X:Cx}{ρ:List ak}
def Tg{ks es:List D}{j:Nat}(h:(ks.zipWith (λp q=>D.tup [p,q]) es).drop j=e::ds):∃k v,ks[j]?=some k/\es[j]?=some v/\e=.tup [k,v]:=by
 have:=c_ (·[0]?) h;simp only[mD,nK,HA,d9]at this;cases c:ks[j]? with|none=>rw[c]at this;cases this|some k=>
  cases g:es[j]? with|none=>rw[c,g]at this;cases this|some v=>rw[c,g]at this;exact⟨k,v,rfl,rfl,(aM this).symm⟩
noncomputable def ZW(z o l g c a b:ak)(i:Nat)(h:bK):Prop:=fv h o (.ref g) (.ref c)/\(∃u v,fv h l u v)/\h.IsListIter g a i/\h.IsListIter c b i
def ZF(H:Hp)(z g c:ak)(h:bK):Prop:=ma h z g c .none\/∃(T:ak)(o:Bool)(l:List V),xK h z g c (dP T) (.bool o)/\H T=some (.tup l)
def ZF.st{s:am}(h:ZF H z g c s.heap)(I:Inv X ar σ H s):Lx s.heap z g c:=by
 rcases h with h|⟨T,q,u,h,l⟩
 ·exact .inl h
 ·let⟨_,_,_,o,e,_⟩:=I.hok T _ l;exact .inr ⟨T,o,q,h,e⟩
def Ox(a:xK h z g c o v)(b:xK h z g c l u):o=l:=by
 have:=aM (Eq.trans (Eq.symm a) b);injection this with _ _ q
 injection q with q
 simp at q;exact q.1
theorem Po(l:X.calm=true){A:bI}(hh:A.handled=none)(hu:A.units+10 < cS){R:Dg->am->Prop}(Dz:nC z C G Q O L1 L2)(d:ak)(n m1 m2:Nat)(ha:ρ[n]?=some d)(a1:ρ[m1]?=some L1)(a2:ρ[m2]?=some L2)(n1:n≠m1)(n2:n≠m2)(ks es:List D):∀(ds:List D)(ps:List (D×D))(j:Nat)(i:Int)(tok:Tok)(s:am)(H:Hp)(st:aZ)(a6:List (D×D)),(ks.zipWith (λp q=>D.tup [p,q]) es).drop j=ds->p_ ds=some ps->Inv X ar σ H s->SR X.K ρ H st->st[n]?=some (.dct true a6)->st[m1]?=some (.lst ks)->st[m2]?=some (.lst es) ->(∀b∈[z,C,G,Q,O],o_ X ar H b)->ZW z C G Q O L1 L2 j s.heap->ZF H z C G s.heap->a6.length+ds.length < sizeLine ->(∀H' s',Inv X ar σ H' s'->SR X.K ρ H' (st.set n (.dct true (tJ a6 ps)))->Ex ρ H ρ H'->R (.ok (.ret .none)) s') ->iG (aY X.prog X.w) A (.builtin "dict.update.loop" ⟨[.ref d,.ref z,.int i tok,.none],[]⟩) R s
 |[],ps,j,i,tok,s,H,st,a6,hd,hp,I,sr,hn,L,e2,hf,⟨w1,⟨u,v,w2⟩,w3,w4⟩,zf,hz,hR=>by
  cases hp;let⟨b1,vs,Y,hv,r⟩:=sr.seq L;let⟨b2,ws,U,hw,r'⟩:=sr.seq e2;rw[a1]at Y;cases Y;rw[a2]at U;cases U;let⟨its,rv,pl,_⟩:=I.list (gS.of hv);let⟨its2,rv2,pl2,_⟩:=I.list (gS.of hw);refine eQ (b:=Builtin.«dict.update.loop») rfl ?_;rw[c6 A5 _];unfold Builtin.«dict.update.loop»;simp only[];let hj:(ks.zipWith (λp q=>D.tup [p,q]) es).length<=j:=by have:=c_ d7 hd;simp at this;simp;ext
  rw[iQ]at hj;let l1:=rv.length;let l2:=rv2.length;let l3:=r.length;let l4:=r'.length;refine ab (Lh (A:=A.in1) hh Dz (zf.st I) w1 w2 w3 w4 pl.isList pl2.isList (by
   rcases Nat.le_total ks.length es.length with q|q
   ·exact .inl (kA (by rw[aI];ext))
   ·exact .inr (kA (by rw[aI];ext))) λh' g=>?_)
  wp_walk
  refine hR H _ (O5 (t':=s.toks) I hf λc o l e=>?_) ?_ Ex.refl
  ·simp only[aR,cI,or_false,not_or]at l;exact g c o l.1 l.2.2.1 l.2.2.2.1 l.2.2.2.2 e
  ·let : st.set n (.dct true (tJ a6 [])) = st := by show st.set n (.dct true a6)=st;let⟨g,c⟩:=ac.mp hn;rw[<- c];exact v8 g
   rw[this];exact sr
 |e::ds,ps,j,i,tok,s,H,st,a6,hd,hp,I,sr,hn,L,e2,hf,⟨w1,⟨u0,v0,w2⟩,w3,w4⟩,zf,hz,hR=>by
  unfold p_ at hp;rw[m9]at hp;let⟨p,E,hp⟩:=hp;rw[ck]at hp;let⟨ps,hps,rfl⟩:=hp;let⟨k,v,hk0,hv0,rfl⟩:=Tg hd;obtain⟨hkk,ep⟩:oY true k=true/\(k,v)=p:=by
   replace E:(if oY true k=true then some (k,v) else none)=some p:=E
   by_cases q:oY true k=true
   ·rw[aH q]at E;exact⟨q,aM E⟩
   ·rw[aD q]at E;cases E
  subst ep;let⟨b1,vs,Y,hv,r⟩:=sr.seq L;let⟨b2,ws,U,hw,r'⟩:=sr.seq e2;rw[a1]at Y;cases Y;rw[a2]at U;cases U;let⟨its,rv,pl,_⟩:=I.list (gS.of hv);let⟨its2,rv2,pl2,_⟩:=I.list (gS.of hw);let⟨x,hx,rx⟩:=r.get hk0;let⟨y,hy,ry⟩:=r'.get hv0;let⟨ux,hux,rux⟩:=rv.get hx;let⟨uy,huy,ruy⟩:=rv2.get hy;refine eQ (b:=Builtin.«dict.update.loop») rfl ?_;rw[c6 A5 _];unfold Builtin.«dict.update.loop»;simp only[];refine ab (SQ (A:=A.in1) Dz (zf.st I) w1 w2 w3 w4 pl.isList pl2.isList (x:=ux) (y:=uy) (by simpa using hux) (by simpa using huy) λh' T f1 g1 gT g2 g3 g4 g5 g6 g7=>?_);let keep:∀c o,c∉[z,C,G,Q,O]->s.heap.get? c=some o->h'.get? c=some o:=λc o l e=>by simp only[aR,cI,or_false,not_or]at l;exact g7 c o l.1 l.2.2.1 l.2.2.2.1 l.2.2.2.2 e
  let hTn:H s.heap.objs.size=none:=I.hok.fresh (aw _);let I1:Inv X ar σ (fE H s.heap.objs.size (.tup [x,y])) { s with heap:=h',toks:=s.toks }:=
   JN (its:=[ux,uy]) I hf keep (aw _) (by show 2<=sizeLine;decide) (.cons rux (.cons ruy .nil)) ⟨_,g5,rfl,⟨_,rfl⟩,rfl⟩
  let x4:Ex ρ H ρ (fE H s.heap.objs.size (.tup [x,y])):=Ex.new hTn;let s4:=sr.new (o:=.tup [x,y]) hTn;let lt:∀c∈[z,C,G,Q,O],∃o,s.heap.get? c=some o:=λc l=>by
   simp only[aR,cI,or_false]at l;rcases l with q|q|q|q|q<;>subst q
   ·rcases zf with h|⟨T,f1,vs,h,hT⟩
    ·exact⟨_,h⟩
    ·exact⟨_,h⟩
   ·exact⟨_,w1⟩
   ·exact⟨_,w2⟩
   ·let⟨o,e,_⟩:=w3;exact⟨o,e⟩
   ·let⟨o,e,_⟩:=w4;exact⟨o,e⟩
  let hf1:∀b∈[z,C,G,Q,O],o_ X ar (fE H s.heap.objs.size (.tup [x,y])) b:=λb J=>by let⟨f0,fr⟩:=hf b J;let⟨o,eo⟩:=lt b J;exact⟨by rw[fS (ba (aL eo))];exact f0,fr⟩
  let zf1:ZF (fE H s.heap.objs.size (.tup [x,y])) z C G h':=by
   rcases gT with q|q
   ·subst q;exact .inr ⟨_,f1,_,g1,kL⟩
   ·rcases zf with h|⟨l,o,g,h,c⟩
    ·rcases q with q|q<;>cases Ox h q
    ·let : (T : Int) = l := by rcases q with q|q<;>· have:=Ox q h;injection this
     have:T=l:=by exact_mod_cast this
     subst this;exact .inr ⟨T,f1,g,g1,by rw[fS (oJ c hTn)];exact c⟩
  let tI1:fv h' C (.ref Q) (.ref O):=g7 C _ Dz.TIz Dz.TITO Dz.TIi1 Dz.TIi2 w1;refine ab (bV (ab (iZ (QS (s:={ s with heap:=h' }) ⟨_,g5,rfl,_,rfl⟩ ?_))));let I2:=I1.pinned (fp:=[z,C,G,Q,O]) hf1 (λb J=>by
   simp only[aR,cI,or_false]at J;rcases J with q|q|q|q|q<;>subst q
   ·exact⟨_,g1,λv z=>by cases z⟩
   ·exact⟨_,tI1,λv z=>by cases z⟩
   ·let⟨a,b,g2⟩:=g2;exact⟨_,g2,λv z=>by cases z⟩
   ·let⟨o,L,c,dt⟩:=g3;exact⟨o,L,λv z=>by rw[dt]at z;cases z⟩
   ·let⟨o,L,c,dt⟩:=g4;exact⟨o,L,λv z=>by rw[dt]at z;cases z⟩)
  refine bV (NF (A:=A.in1) (by show A.units+1+2 < cS;ext) I2 s4 ha hn (rx.mono x4) hkk (by simp at hz;ext) (ry.mono x4) rux ruy λH' s' I' sr' x'=>?_);refine ai ⟨fm A5 _,?_⟩;let hlt:=(ac.mp hn).1;let B:∀b o,b∈[z,C,G,Q,O]->h'.get? b=some o->s'.heap.get? b=some o/\H' b=none:=λb o J e=>by have hm:(b,o)∈ar++mG [z,C,G,Q,O] h':=bn _ (GA J e);have:=I'.pin (b,o) (bn _ hm);exact⟨this.1,this.2.1⟩
  let x5:=x4.trans x';refine Po l hh hu Dz d n m1 m2 ha a1 a2 n1 n2 ks es ds ps (j+1) (i+1) _ s' H' _ (mK a6 k v) (by rw[<- Bw,hd];rfl) hps I'.unpinned sr' (aF hlt) (by rw[aB n1];exact L) (by rw[aB n2];exact e2) (λb J=>?_) ?_ ?_ (by have:=RS a6 k v;simp at hz;ext) λH3 s3 I3 sr3 x3=>?_
  ·let⟨f0,fr⟩:=hf b J;obtain⟨o,eo⟩:∃o,h'.get? b=some o:=by
    simp only[aR,cI,or_false]at J;rcases J with q|q|q|q|q<;>subst q
    ·exact⟨_,g1⟩
    ·exact⟨_,tI1⟩
    ·let⟨a,b,g2⟩:=g2;exact⟨_,g2⟩
    ·let⟨o,L,_⟩:=g3;exact⟨o,L⟩
    ·let⟨o,L,_⟩:=g4;exact⟨o,L⟩
   exact⟨(B b o J eo).2,fr⟩
  ·let⟨a,b,g2⟩:=g2;exact⟨(B C _ (by simp) tI1).1,⟨a,b,(B G _ (by simp) g2).1⟩,g3.at λo e=>(B Q o (by simp) e).1,g4.at λo e=>(B O o (by simp) e).1⟩
  ·rcases zf1 with q|⟨T,f1,vs,q,hT⟩
   ·exact .inl (B z _ (by simp) q).1
   ·exact .inr ⟨T,f1,vs,(B z _ (by simp) q).1,x'.fix T _ rfl hT⟩
  ·rw[Ec]at sr3;exact hR H3 s3 I3 sr3 (x5.trans x3)
end
section
variable{X:Cx}
def Ux(hc:X.calm=true)(hu:X.A.units+60 < cS){st:aZ}{Q:VK}{m1 Y:Nat}(I:Inv X g σ H s)(sr:SR X.K ρ H st)(a1:ρ[m1]?=some L)(a2:ρ[Y]?=some L2)(U:st[m1]?=some (.lst ks))(e2:st[Y]?=some (.lst es))(hv:H L=some (.lst vs)) (hw:H L2=some (.lst ws)) (G:p_ (ks.zipWith (λp q=>D.tup [p,q]) es)=some ps) (hk:ps.length<=1000) (p2:∀ρ' C,Ex ρ H ρ' C->SR X.K ρ' C (st++[.dct true (tJ [] ps)])->∀v,dE X.K ρ' C v (.dic st.length)->Q v C):aG (aY X.prog X.w) X.A (call (.type "zip") [.ref L,.ref L2]) (λu s1=>aG (aY X.prog X.w) X.A (call (.type "dict") [u]) (EP X g σ Q) X.xe s1) X.xe s:=by
 let hh:=I.ok.hd hc;let⟨its,rv,pl,_⟩:=I.list (gS.of hv);let⟨its2,rv2,E,_⟩:=I.list (gS.of hw);let lt1:L < s.heap.objs.size:=by let⟨o,e,_⟩:=pl.isList;exact aL e
 let lt2:L2 < s.heap.objs.size:=by let⟨o,e,_⟩:=E.isList;exact aL e
 refine call_zip_2 pl.isList E.isList λh' O g2 g3 g4 g5 g6 g7=>?_;let I1:Inv X g σ H { s with heap:=h' }:=I.kept (t':=s.toks) g7;generalize hZ:s.heap.objs.size+4=z at O ⊢;refine vZ (Q₁:=λobj s₁=>obj=.ref h'.objs.size/\s₁={ s with heap:=h'.push { cls:=.type "dict",data:=.dict #[] } }) Dr rfl Bx (HD _ ⟨rfl,rfl⟩) λobj s₁ h₁=>?_;let⟨rfl,rfl⟩:=h₁;refine⟨⟨_,ay _ rfl,rfl⟩,AZ _ _,?_⟩;let hn:=I1.hok.fresh (aw h'.objs.size);let I2:=I1.laid (a:=h'.objs.size) (o:=kI h'.objs.size []) (h':=h'.push { cls:=.type "dict",data:=.dict #[] }) (t':=s.toks) (λ_ _ q=>aj _ q) (aw _)
  (Dx (P:=X.prog) (w:=X.w) (xs:=[]) (bU _) (beq_eq_false_iff_ne.mpr (ff (ba I1.big))) .nil (o0 h') ⟨_,_,ay _ rfl,rfl⟩)
 let x0:Ex ρ H (ρ++[h'.objs.size]) (fE H h'.objs.size (kI h'.objs.size [])):=Ex.newO hn;let s0:SR X.K (ρ++[h'.objs.size]) (fE H h'.objs.size (kI h'.objs.size [])) (st++[.dct true []]):=(sr.new hn).keepO (sr.fresh hn) ⟨[],kL,.nil⟩;let l:(ρ++[h'.objs.size])[st.length]?=some h'.objs.size:=by rw[<- sr.len];simp
 let z1:ma (h'.push { cls:=.type "dict",data:=.dict #[] }) z (s.heap.objs.size+2) (s.heap.objs.size+3) .none:=aj _ O;let hT:kW { s with heap:=h'.push { cls:=.type "dict",data:=.dict #[] } } (.ref z) "zip":=⟨_,z1,rfl⟩
 unfold Builtin.«dict.__init__»
 wp_walk using gF hT,YW (A:=X.A.in1.in1) hh z1
 intro h3 tk kp;let I3:Inv X g σ _ { s with heap:=h3,toks:=tk }:=I2.kept (t':=tk) kp;simp only[pz,if_true];refine ab (fV ?_);let up:∀c o,h'.get? c=some o->h3.get? c=some o:=λc o e=>kp _ _ (aj _ e);refine ab (uv (up _ _ O) ?_);refine ai ⟨fm A5 _,?_⟩;let l1:=(ac.mp U).1;let l2:=(ac.mp e2).1;let J:=Lu G;let Dz:nC z (s.heap.objs.size+2) (s.heap.objs.size+3) s.heap.objs.size (s.heap.objs.size+1) L L2:=by rw[<- hZ];exact zipApart_new lt1 lt2
 refine Po (X:=X) (A:=X.A.in1) hc hh (by show X.A.units+1+10 < cS;ext) Dz h'.objs.size st.length m1 Y l (xE a1) (xE a2) (dk l1) (dk l2) ks es _ ps 0 0 0 _ _ _ [] rfl G I3 s0 (by simp) (by rw[ao l1];exact U) (by rw[ao l2];exact e2) (λb hb=>?_) ⟨up _ _ g2,⟨_,_,up _ _ g3⟩,g4.at λo e=>up _ o e,g5.at λo e=>up _ o e⟩ (.inl (up _ _ O)) (by rw[kN,fU,mz,<- J];ext) λC s' I' h x'=>?_
 ·let B : s.heap.objs.size <= b /\ h'.objs.size > b := by simp only[aR,cI,or_false]at hb;rcases hb with e|e|e|e|e<;>rw[e]<;>constructor<;>ext
  refine I.fpOk B.1 ?_;rw[fS (ba B.2)];exact I.hok.fresh B.1
 ·refine⟨rfl,.ref h'.objs.size,C,I',rfl,?_⟩;let U:(st++[MO.dct true []]).set st.length (.dct true (tJ [] ps))=st++[.dct true (tJ [] ps)]:=by simp
  rw[U]at h;let⟨es,c,_⟩:=h.ob st.length _ (.dct true (tJ [] ps)) l (by simp);exact p2 _ C (x0.trans x') h _ (.dic ⟨_,c,.inr rfl⟩ l)
def QkI(hc:X.calm=true)(hu:X.A.units+60 < cS)(hg:Gl X "dict")(hm:X.mg "dict"=none)(hg2:Gl X "zip")(hm2:X.mg "zip"=none)(ha:SE X a fa)(hb:SE X b fb)(hs:starEach [a,b] X.env=(false,eval a X.env)::starEach [b] X.env) (C:starEach [b] X.env=(false,eval b X.env)::starEach [] X.env):SE X (.Call (.Name "dict" p) [.Call (.Name "zip" p') [a,b] [] a9] [] pos) (c2 rV fa fb):=by
 intro B s σ H Q I h;let E:starEach [.Call (.Name "zip" p') [a,b] [] a9] X.env=[(false,eval (.Call (.Name "zip" p') [a,b] [] a9) X.env)]:=rfl;refine dJ (xF I hg hm (show cZ "dict"=some (.type "dict") by nofun) ?_ (by decide) (by decide));refine cw ?_ E rfl;rw[E]
 show aG _ _ (sS [(false,eval (.Call (.Name "zip" p') [a,b] [] a9) X.env)]) _ _ s;refine g9 ?_;refine dJ (xF I hg2 hm2 boot_zip ?_ (by decide) (by decide));refine cw (fT ((sB ha (sB hb vg C) hs) a9 B s σ H (λL o=>∃v w d e ρ st,L=[v,w]/\SR X.K ρ o st/\dE X.K ρ o v d/\dE X.K ρ o w e/\aT X.K ρ o (rV d e st) λd x ρ' H'=>∀(v:V),dE X.K ρ' H' v d->Q v H') I ?_) λus s1 ⟨L,o,I1,r1,v,w,d,e,ρ,st,ev,sr,Y,c,q⟩=>?_) hs (by rw[C];rfl)
 ·exact h.el λρ l st g sr p=>⟨ρ,l,st,g,sr,p.bnd.imp λd U ρ1 o u s1 E v Y=>⟨ρ1,l,U,g.mono u,s1,E.bnd.imp λe O ρ2 G q B C w c=>⟨v,w,d,e,ρ2,O,rfl,B,Y.mono q,c,C⟩⟩⟩
 ·subst ev;let⟨C,B,rfl,O,I⟩:=r1.two;unfold rV at q;cases d with
  |ref m=>
   cases e with
   |ref n=>
    let⟨U,rfl,_,v⟩:=Y.inv;let⟨Q,rfl,_,o⟩:=c.inv;cases (show C=bD U from O);cases (show B=bD Q from I);let⟨ks,l,H⟩:=aT.getL (aT.bnd q) sr;let⟨es,h,u⟩:=aT.getL (aT.bnd H) sr;let⟨c1,L,J,hv,_⟩:=sr.seq l;let⟨c2,ws,G,hw,_⟩:=sr.seq h;rw[v]at J;cases J;rw[o]at G;cases G;unfold lK at u;cases g:p_ (ks.zipWith (λp q=>D.tup [p,q]) es) with|none=>rw[g]at u;exact u.elim|some ps=>
     rw[g]at u;let⟨hk,E⟩:=aT.chk u;exact fM (Ux hc hu I1 sr v o l h hv hw g hk E) (λ_ _ z=>ip z) λ_ _ z=>z
   |_=>exact q.elim
  |_=>exact q.elim
end
def BL:lY:=λr c e=>BS e λx _ z _ h=>LF z λy _ a b _ C=>wh (x=az "dict"/\y=az "zip"/\c.bl x=true/\c.bl y=true/\rG a=true/\rG b=true) λw=>(r.e c a).bind λv=>(r.e c b).bind λu=>some ⟨c2 rV v.1 u.1,λg=>by subst h C;let⟨rfl,rfl,q,l,B,o⟩:=w;exact QkI g.S.calm g.hu (g.gl q).1 (g.gl q).2 (g.gl l).1 (g.gl l).2 (v.2 g) (u.2 g) (rJ B) (rJ o)⟩
open PySem.W
section
variable{s:am}
def R_{K:Type}[DecidableEq K]{knd:qx prog w K}{xs ys:List (K×ak×ag)}{Q:Bool->am->Prop}(hu:knd.room A)(ha:(a == cH)=false)(hb:(b == cH)=false)(da:s.heap.DictOfH knd a xs) (db:s.heap.DictOfH knd b ys) (hl:xs.length=ys.length) (he:∀(i:Nat)(x:K×ak×ag),xs[i]?=some x->∃y:K×ak×ag,ys[i]?=some y/\y.1=x.1/\sY A s x.2.2 y.2.2 true) (h:Q true s):aG (aY prog w) A (rN nm a b) Q E s:=by
 let⟨oa,es,ep,g,_,l,I,hia,hna⟩:=da;let⟨ob,es',ep',u,_,G,C,hib,B⟩:=db;let la:=iA I;let lb:=iA C;unfold rN gM;rw[aD (show ¬ (a == cH)=true by rw[ha];exact bE),aD (show ¬ (b == cH)=true by rw[hb];exact bE)];refine ab (ai (ab (ai ?_)));refine ab (dD g l ?_);dsimp only;refine ab (dD u G ?_);rw[aD (by rw[la,lb,hl];simp)];refine ab (gC g l ?_);refine ab ?_;rw[Std.Legacy.Range.forIn_eq_forIn_range'];simp only[Std.Legacy.Range.size,rB,Nat.add_sub_cancel,Nat.div_one];refine lP _ (λrest q O=>O=s/\q=(none,Unit.unit)/\∃i,rest=HE i (es.size-i)/\i<=es.size) _ ?_ ?_ _ _ ⟨rfl,rfl,0,by simp,bU _⟩
 ·rintro x rest q O ⟨rfl,rfl,i,hr,hi⟩
  let Y:i < es.size:=by
   rcases Nat.lt_or_ge i es.size with h|h
   ·exact h
   ·rw[Nat.sub_eq_zero_of_le h]at hr;simp at hr
  obtain⟨rfl,o⟩:x=i/\rest=HE (i+1) (es.size-(i+1)):=by
   let e:es.size-i=(es.size-(i+1))+1:=by ext
   rw[e,List.range'_succ]at hr;injection hr with Q L
   exact⟨Q,L⟩
  refine ab (dD g l ?_);let hx:x < xs.length:=by ext
  obtain⟨k,c,v,E⟩:∃k c v,xs[x]=(k,c,v):=⟨_,_,_,rfl⟩
  let hx?:xs[x]?=some (k,c,v):=by rw[ae hx,E]
  let⟨⟨k',c',v'⟩,hy?,J,H⟩:=he x _ hx?;simp only at J H;subst J;rw[AT I x,hx?]
  show aG _ _ (k_ [.ref c,v] _ >>= _) _ _ _;refine ab (bV (ab (rm (k:=k') hu (hia _ (ax hx?)) u G C hib B (λU=>bh hy? (U x _)) λj p hj=>?_)));refine ab (dD u G ?_);let ep:p=(c',v'):=by have Q:=s_ B hj;have L:=s_ B hy?;rw[Q]at L;exact aM L
  subst ep;rw[AT C j,hj];refine bV (H prog w _ _ ?_)
  show aG _ _ (if (!true)=true then _ else _) _ _ _;rw[aD (by decide)];refine ab (gC g l ?_);rw[aD (by simp)];exact ai ⟨rfl,rfl,x+1,o,Y⟩
 ·rintro q O ⟨rfl,rfl,i,hr,hi⟩
  exact ai h
end
section
variable{K:ah}{st:aZ}
theorem aT.getDf{n:Nat}(h:aT K ρ H (MM.getDf n st) R)(s:SR K ρ H st):∃c,(st[n]?=some (.dct true c)\/st[n]?=some (.dcf c))/\R c st ρ H:=by
 unfold MM.getDf at h;cases e:st[n]? with|none=>rw[e]at h;exact h.elim|some o=>
  rw[e]at h;cases o with
  |dct b c=>
   cases b with|false=>exact h.elim|true=>exact⟨c,.inl rfl,h ρ H Ex.refl s⟩
  |dcf c=>exact⟨c,.inr rfl,h ρ H Ex.refl s⟩|_=>exact h.elim
def NQ{n:Nat}(I:Inv X ar σ H s)(sr:SR X.K ρ H st)(O:ρ[n]?=some a)(e:st[n]?=some (.dct true c)\/st[n]?=some (.dcf c)):∃es xs,NR X.K ρ H es c/\NX es xs/\es.length<=sizeLine/\(a == cH)=false/\s.heap.DictOfH (AG X) a xs/\∃u,H a=some u/\kO u=2:=by
 rcases e with e|e
 ·let⟨es,l,r⟩:=sr.ob n a _ O e;let⟨G,E,xs,C,B,_⟩:=zB I l r;exact⟨es,xs,r,C,G,E,B,_,l,rfl⟩
 ·let⟨es,l,r⟩:=sr.ob n a _ O e;let⟨⟨z,y,xs,L,o,J,ep,G,E,C,B,Q⟩,Y,U⟩:=(show gp X.prog X.w H s.heap a (N6 a es) from I.hok a _ l)
  refine⟨es,xs,r,L,z,y,⟨o,J,ep,G,E,C,B,?_,Q⟩,_,l,rfl⟩;clear G E C B Q e l z y Y U
  induction L generalizing c with
  |nil=>intro x v;exact nomatch v
  |@cons p q ps qs h t ih=>
   cases r with|cons g gt=>
    intro x v;rcases aR.mp v with e|v
    ·subst e;let⟨b,l,_,u⟩:=BH I (by rw[g.1];exact g.2.1) (show RelV (.ref p.2.1) (.ref p.2.1) from rfl);cases l;rw[<- h.1,<- h.2.1];exact u
    ·exact ih gt x v
end
section
variable{A:bI}{s:am}
def neN{K:Type}[DecidableEq K]{knd:qx prog w K}{xs ys:List (K×ak×ag)}{Q:ag->am->Prop}(hr:knd.room A.in1)(hu:A.units < cS)(ha:(a == cH)=false)(hb:(b == cH)=false)(da:s.heap.DictOfH knd a xs) (db:s.heap.DictOfH knd b ys) (hl:xs.length=ys.length) (he:∀(i:Nat)(x:K×ak×ag),xs[i]?=some x->∃y:K×ak×ag,ys[i]?=some y/\y.1=x.1/\sY A.in1 s x.2.2 y.2.2 true) (h:Q (.bool false) s):aG (aY prog w) A (dH .NotEq (.ref a) (.ref b)) Q E s:=by
 refine vk (op:=.NotEq) da.typeIs db.typeIs vc (b_ vc da.typeIs PySem.F.entry_dict_ne ?_ (PySem.F.args_dict_ne_2 _ _)) hu
 show aG _ _ (qF "__ne__" ⟨[.ref a,.ref b],[]⟩ >>= _) _ _ s;refine ab ?_;unfold qF;refine ab (iE da.typeIs ?_)
 show aG _ _ (pure (bD a,bD b)) _ _ s;refine ai ?_;refine ab (dN (T:="dict") db.typeIs PySem.F.sub_dict_dict ?_);simp only[dS,aK,if_false];refine ab (ai (ab (ai ?_)));refine ab (R_ hr ha hb da db hl he ?_);refine ai ⟨_,rfl,?_,?_⟩
 ·exact λx=>nomatch x
 ·simpa using h
end
section
variable{X:Cx}{K:ah}{st:aZ}
open Classical in
def Sg(hu:X.A.units+60 < cS):OpR X (dH .NotEq) (ra X.K vD):=by
 intro ar s σ H x y v u Q I rx ry h;let⟨ρ,st,d,e,sr,r1,r2,p⟩:=h;unfold vD at p;cases d with
 |dic m=>
  cases e with
  |dic n=>
   let⟨a,rfl,_,ha⟩:=r1.inv;let⟨b,rfl,_,hb⟩:=r2.inv;cases (show v=bD a from rx);cases (show u=bD b from ry);let⟨k1,e1,p1⟩:=aT.getDf (aT.bnd p) sr;let⟨k2,e2,p2⟩:=aT.getDf (aT.bnd p1) sr;let⟨⟨C,hi⟩,p3⟩:=aT.chk p2;let C:k1=k2:=C;subst C;let⟨es,xs,U,G,z1,y1,d1,_⟩:=NQ I sr ha e1;let⟨c,xs2,O,E,z2,y2,d2,_⟩:=NQ I sr hb e2;let l1:=cV U;let l2:=cV O;let l3:=cV G;let l4:=cV E;refine neN (knd:=AG X) (show X.A.in1.units+1 < cS by show X.A.units+1+1 < cS;ext) () y1 y2 d1 d2 () (λi x hx=>?_) ⟨.bl false,H,I,rfl,p3.ret sr _ (.bl false)⟩;let o:i < es.length:=by rw[l3];exact (ac.mp hx).1
   let l:i < c.length:=by ext
   let⟨q1,g1,f1⟩:=BW G (ae o);let⟨q2,g2,f2⟩:=BW E (ae l);let⟨c1,L,B⟩:=BW U (ae o);let⟨c2,J,q⟩:=BW O (ae l);rw[hx]at g1;cases g1;rw[L]at J;cases J;refine⟨q2,g2,?_,?_⟩
   ·have:sF es[i].1=sF c[i].1:=B.1.trans q.1.symm;have:=DV es[i].1 c[i].1;rw[B.1,q.1,<- q.1,DV,cz rfl]at this;rw[<- f2.1,<- f1.1];exact (of_decide_eq_true this.symm).symm
   ·let g:=hi _ (ax L);cases l:c1.2 with
    |int j=>
     let a1:=B.2.2;let o:=q.2.2;rw[l]at a1 o;let H:=a1.inv;let G:=o.inv;let h:=f1.2.2;let Y:=f2.2.2;rw[show es[i].2.2=V.int j from H]at h;rw[show c[i].2.2=V.int j from G]at Y;let⟨v,E⟩:=h;let⟨u,C⟩:=Y;rw[E,C];have:=uD (A:=X.A.in1) (s:=s) j v j u;rw[beq_self_eq_true]at this;exact this
    |_=>rw[l]at g;exact g.elim
  |_=>exact p.elim
 |_=>exact p.elim
end
end MM
namespace MM
open PySem PySem.Spec PyProof.Rows L2
def vq(c:Stmt):List Str:=((bj c).names.filter λp=>p.2 == .local||p.2 == .cell).map (·.1)
def uH(c:Stmt):List Str:=(vq c).take (dO c).args.length
def qE(x:Str)(c:Stmt)(n k:Nat)(g:List D->M D)(G:List (Str×RF)):List (Str×RF):=(x,⟨n,k+1,uH c,false,g⟩)::G
def qD(x:Str)(c:Stmt)(n k:Nat)(g:List D->M D)(G:List (Str×RF)):List (Str×RF):=(x,⟨n,k+1,uH c,true,g⟩)::G
section
variable{K:ah}{k:Nat}
def zV:uH sd++(vq sd).drop (dO sd).args.length=vq sd:=List.take_append_drop ..
def o8(R : mq)(H : List (Nat×Nat×Nat))(n : Nat)(F : FnAt K mg x sd)(L : cN P w K mg base G)(J : vI mg Z)(O : wJ K mg C)(I : (pd (nQ R 40) ⟨bj sd, vq sd, k, G, Z, C, H, true, ([], []), none⟩ (cK sd)).map (λv => bZ (vq sd).length v.1) = some g := by kernel_rfl)
  (S:rf (vq sd) (uH sd) (bj sd)=true:=by kernel_rfl) (u:(uH sd).length=n:=by kernel_rfl)
  (b:∀(kV c o:ag)(q:Option ak)(h ct:ag)(l:List ag),l.length=n->gE (cC x x (dO sd) (cK sd) (bj sd) .none kV c o q h ct) { pos:=l }=pure ((uH sd).zip l):=by first|exact λ_ _ _ _ _ _=>DA λ_=>by kernel_rfl|exact λ_ _ _ _ _ _=>DW λ_ _=>by kernel_rfl|exact λ_ _ _ _ _ _=>HJ λ_ _ _=>by kernel_rfl|exact λ_ _ _ _ _ _=>Ag λ_ _ _ _=>by kernel_rfl|exact λ_ _ _ _ _ _=>N9 λ_ _ _ _ _=>by kernel_rfl):
  cN P w K mg base (qE x sd n k g G):=by
 let⟨v,B,rfl⟩:=ck.mp I;exact Lv R (r:=(vq sd).drop (dO sd).args.length) (ps:=uH sd) (H:=H) F (by rw[zV];exact S) (λkV c o q h ct l E=>b kV c o q h ct l (E.trans u)) nofun (by rw[zV,B];rfl) L J O u (by rw[zV]) nofun
def Iu(R : mq)(H : List (Nat×Nat×Nat))(n : Nat)(F : rP K mg x sd)(Q : cN P w K mg base G)(O : vI mg Z)(U : wJ K mg C)(L : (pd (nQ R 40) ⟨bj sd, vq sd, k, G, Z, C, H, true, ([], []), none⟩ (cK sd)).map (λv => bZ (vq sd).length v.1) = some g := by kernel_rfl)
  (S:rf (vq sd) (uH sd) (bj sd)=true:=by kernel_rfl) (J:(uH sd).length=n:=by kernel_rfl) (I:(uH sd).getLast?=some (az "most"):=by kernel_rfl)
  (b0:∀(u:ag)(T:ak)(kV h o:ag)(B:Option ak)(l ct:ag)(c:List ag),c.length=n->∃k:Option (Array ag)->Sem (List (Str×ag)),gE (cC x x (dO sd) (cK sd) (bj sd) (.ref T) kV h o B l ct) ⟨c,[]⟩=i9 (.ref T) >>= k/\k (some #[u])=pure ((uH sd).zip c):=by first|exact λ_ _ _ _ _ _ _ _=>DW λ_ _=>⟨_,rfl,by kernel_rfl⟩|exact λ_ _ _ _ _ _ _ _=>HJ λ_ _ _=>⟨_,rfl,by kernel_rfl⟩)
  (Y:∀(u:ag)(T:ak)(kV h o:ag)(B:Option ak)(l ct:ag)(c:List ag),c.length+1=n->∃k:Option (Array ag)->Sem (List (Str×ag)),gE (cC x x (dO sd) (cK sd) (bj sd) (.ref T) kV h o B l ct) ⟨c,[]⟩=i9 (.ref T) >>= k/\k (some #[u])=pure ((uH sd).zip (c++[u])):=by first|exact λ_ _ _ _ _ _ _ _ c q=>DA (λ_=>⟨_,rfl,by kernel_rfl⟩) c (lC q)|exact λ_ _ _ _ _ _ _ _ c q=>DW (λ_ _=>⟨_,rfl,by kernel_rfl⟩) c (lC q)):
  cN P w K mg base (qD x sd n k g G):=by
 let⟨v,E,rfl⟩:=ck.mp L;exact S6 R (r:=(vq sd).drop (dO sd).args.length) (ps:=uH sd) (H:=H) F (by rw[zV];exact S) b0 Y (by rw[zV,E];rfl) Q O U I J (by rw[zV])
def L4(R : mq)(H : List (Nat×Nat×Nat)){n : Nat}(F : yw K x x sd f c)(B : cN P w K mg base G)(u : vI mg Z)(E : wJ K mg C)(q : (pd (nQ R 40) ⟨bj sd, vq sd, k, G, Z, C, H, true, ([], []), none⟩ (cK sd)).map (λv => bZ (vq sd).length v.1) = some g := by kernel_rfl)
  (S:rf (vq sd) (uH sd) (bj sd)=true:=by kernel_rfl) (o:(uH sd).length=n:=by kernel_rfl) (l:uH sd=ps:=by kernel_rfl):mI P w K mg base q_ (k+1) f c ps (mU K n g):=by
 subst l;let⟨v,h,rfl⟩:=ck.mp q;exact Oo R (r:=(vq sd).drop (dO sd).args.length) (ps:=uH sd) (H:=H) F (by rw[zV];exact S) (by rw[zV,h];rfl) B u E o (by rw[zV])
end
end MM
namespace My
open PySem MM
noncomputable def top(i:Nat):Stmt:=j_.main.body.getD i (.Pass ⟨0,0,0,0⟩)
noncomputable def tS:aZ:=[.tbl "most_deeds" "worth",.tbl "graph_numbers" "<lambda>"]
def j3:CS:=(aO (dF (c2 aW (c2 aW (c2 aW (aq 0) (aq 1)) (aq 2)) (aN (.int 0)))) aU)
@[irreducible] def js:List D->M D:=bZ 3 j3
def yp:CS:=(aO (dF (c2 aW (c2 aW (c2 aW (aq 0) (aq 1)) (aq 2)) (aN (.int 1)))) aU)
@[irreducible] def jO:List D->M D:=bZ 3 yp
def j6:CS:=(aO (cn (aS 1) (eR (gJ (au (c8 aX) aX)))) (aO (kg (iV (c2 aW (aq 0) (aN (.int 1)))) (aS 2) (aO (cn (aS 3) (eR (gJ aX))) (aO (kg (iV (aq 1)) (aS 4) (aO (kH (e_ (aq 3) (c2 fF (aq 4) (c8 (au (aN (.int 0)) aX))))) (aO (kH (e_ (aq 3) (c2 fF (aq 4) (c8 (au (aN (.int 1)) aX))))) aU))) (aO (cn (aS 1) (aq 3)) aU)))) (aO (dF (aq 1)) aU)))
@[irreducible] def jG:List D->M D:=bZ 5 j6
def yq:CS:=(aO (cn (aS 2) (iM lE (dU 2 [] (qH (c2 aW (aq 0) (aN (.int 1))) (aq 1)) (gI 2 (cL (aS 0) (cL (aS 1) g8))) b7 (c2 aW (c2 aW (aq 0) (aN (.int 0))) (aq 1))))) (aO (dF (c8 (au (aq 2) (au (iM lE (dU 2 [] (iV (c2 aW (aq 0) (aN (.int 0)))) (gI 2 (cL (aS 0) (cL (aS 1) g8))) b7 (aq 1))) aX)))) aU))
@[irreducible] def jd:List D->M D:=bZ 3 yq
def yl:CS:=(aO (dF (c2 aW (c2 aW (c2 aW (c2 aW (aq 0) (aN (.int 1))) (aq 2)) (aN (.int 1))) (c2 aW (c2 aW (aq 1) (aN (.int 0))) (aq 2)))) aU)
@[irreducible] def je:List D->M D:=bZ 3 yl
def yj:CS:=(aO (dF (c2 fF (c2 fF (kh (aq 0) oU (mV (aq 1))) (c8 (au (aq 2) aX))) (kh (aq 0) (mV (c2 fF (aq 1) (aN (.int 1)))) oU))) aU)
@[irreducible] def jn:List D->M D:=bZ 3 yj
def jU:CS:=(aO (dF (wW (cX (c2 nj (c2 aW (aq 0) (aN (.int 0))) (aN (.str "settle")))) (c2 aW (aq 0) (aN (.int 1))) (aN .non))) aU)
@[irreducible] def jp:List D->M D:=bZ 1 jU
def ye:CS:=(aO (cn (aS 2) (eR (gJ aX))) (aO (cn (aS 3) (c2 aW (aq 0) (aq 1))) (aO (kK (cX (c2 mw (aq 3) (aN .non))) (aO (kH (e_ (aq 2) (c2 aW (aq 3) (aN (.int 1))))) (aO (cn (aS 3) (c2 aW (aq 0) (c2 aW (aq 3) (aN (.int 0))))) aU))) (aO (dF (c1 sq (aq 2))) aU))))
@[irreducible] def jK:List D->M D:=bZ 4 ye
def jV:CS:=(aO (cn (kB (aq 2) (aq 1)) (aN (.bl true))) (aO (cn (aS 4) (eR (gJ (au (aq 1) aX)))) (aO (cn (aS 5) (eR (gJ (au (aN (.int 0)) aX)))) (aO (kK (cX (c2 wZ (c1 gO (aq 4)) (aN (.int 0)))) (aO (cn (aS 6) (c2 aW (aq 4) (c1 uW (aN (.int 1))))) (aO (mr (cX (c2 nj (c2 aW (aq 5) (c1 uW (aN (.int 1)))) (c1 gO (c2 aW (aq 0) (aq 6))))) (aO (kH (e_ (aq 3) (aq 6))) (aO (kH (u7 (aq 4))) (aO (kH (u7 (aq 5))) aU))) (aO (cn (aS 7) (c2 aW (c2 aW (c2 aW (aq 0) (aq 6)) (c2 aW (aq 5) (c1 uW (aN (.int 1))))) (aN (.int 1)))) (aO (uM (aq 5) (c1 uW (aN (.int 1))) (aN (.int 1))) (aO (mr (pJ (pZ (c2 aW (aq 2) (aq 7)))) (aO (cn (kB (aq 2) (aq 7)) (aN (.bl true))) (aO (kH (e_ (aq 4) (aq 7))) (aO (kH (e_ (aq 5) (aN (.int 0)))) aU))) aU) aU)))) aU))) aU))))
@[irreducible] def jx:List D->M D:=bZ 8 jV
def yo:CS:=(aO (cn (aS 1) (eR (dU 1 [] (iV (aq 0)) (aS 0) b7 (eR (gJ aX))))) (aO (kg (qd (aq 0)) (gI 2 (cL (aS 2) (cL (aS 3) g8))) (aO (kg (iV (aq 3)) (gI 2 (cL (aS 4) (cL (aS 5) g8))) (aO (kH (e_ (c2 aW (aq 1) (aq 5)) (aq 2))) aU)) aU)) (aO (dF (aq 1)) aU)))
@[irreducible] def jN:List D->M D:=bZ 6 yo
def j9:CS:=(aO (mr (cX (c2 mw (c2 aW (aq 2) (aq 1)) (aN .non))) (aO (dF (aN .non)) aU) aU) (aO (cn (kB (aq 2) (aq 1)) (aq 3)) (aO (cn (aS 4) (eR (gJ (au (aq 1) aX)))) (aO (kK (cX (c2 wZ (c1 gO (aq 4)) (aN (.int 0)))) (aO (cn (aS 5) (u7 (aq 4))) (aO (kg (iV (c2 aW (aq 0) (aq 5))) (aS 6) (aO (mr (cX (c2 sP (c2 aW (aq 2) (aq 6)) (aN .non))) (aO (cn (kB (aq 2) (aq 6)) (aq 3)) (aO (kH (e_ (aq 4) (aq 6))) aU)) aU) aU)) aU))) aU))))
@[irreducible] def jI:List D->M D:=bZ 7 j9
@[irreducible] def mj:xr:=Cw 2 (Cw 1 (Cw 0 (KO ((L2.cK (top 32)).getD 3 (.Pass ⟨0,0,0,0⟩)))))
def uQ:List D->M D:=vK 2 (aN (.int 1))
@[irreducible] def nY:Hy:=(L2.cK (top 38)).getD 0 (.Pass ⟨0,0,0,0⟩)
def Bi: CS :=
  (aO (dF (wW (oX (cX (c2 nj (aq 1) (aq 3))) (cX (c2 nj (c2 aW (bJ je (au (aq 2) (au (c2 aW (c2 aW (aq 4) (aN (.int 0))) (aq 0)) (au (aq 1) aX)))) (aN (.int 1))) (aq 5)))) (aN (.int 1)) (aN (.int 0))))
  aU)
def qM:List D->M D:=bZ 6 Bi
def pG:WT:=([(mj,⟨2,1,uQ⟩)],[(.dfn nY,⟨2,2,qM⟩)])
def j8:CS:=(aO (cn (aS 3) (eR (dU 1 [] (iV (aq 0)) (aS 0) b7 (aN (.int 0))))) (aO (kg (iV (aq 1)) (aS 4) (aO (cn (kB (aq 3) (aq 4)) (tz (dU 2 [2,3,4] (iV (c2 aW (aq 0) (aq 4))) (gI 2 (cL (aS 0) (cL (aS 1) g8))) b7 (c2 fF (qj pG (aq 2) (au (aq 4) (au (aq 0) aX))) (c2 aW (aq 3) (aq 1)))) (aN (.int 0)))) aU)) (aO (dF (aq 3)) aU)))
@[irreducible] def ji:List D->M D:=bZ 5 j8
def j4:CS:=(dF (c1 (wL n0) (o6 0 "most_deeds" "worth" ji (.dfn nY) [0,3,1,4] 5 (au (c2 aW (aq 1) (aN (.int 1))) (au (aq 2) aX)))))
@[irreducible] def jt:List D->M D:=bZ 6 j4
def ym:CS:=(aO (cn (aS 2) (c2 fF (c2 sQ (aN (.int 7919)) (aq 1)) (aN (.int 104729)))) (aO (cn (aS 3) (eR (gJ aX))) (aO (kg (yS (sf (aq 0) (mV (aq 1)) (mV (aN (.int 63))))) (aS 4) (aO (cn (aS 2) (c2 pB (c2 fF (c2 fF (c2 sQ (aq 2) (aN (.int 48271))) (c2 pB (aq 4) (aN (.int 2147483629)))) (aN (.int 1))) (aN (.int 2147483647)))) (aO (mr (cX (c2 Io (aq 4) (c2 yC (aN (.int 10)) (aN (.int 18))))) (aO (kH (e_ (aq 3) (aq 4))) aU) aU) aU))) (aO (dF (eR (gJ (au (aq 2) (au (aN (.int 0)) (au (eR (uJ (aq 3))) aX)))))) aU))))
@[irreducible] def jP:List D->M D:=bZ 5 ym
def yk:CS:=(aO (kK (oX (cX (c2 nj (c2 aW (aq 0) (aN (.int 1))) (aN (.int 0)))) (cX (c2 wZ (c1 gO (c2 aW (aq 0) (aN (.int 2)))) (aN (.int 0))))) (aO (cn (kB (aq 0) (aN (.int 1))) (u7 (c2 aW (aq 0) (aN (.int 2))))) aU)) (aO (mr (cX (c2 wZ (c2 aW (aq 0) (aN (.int 1))) (aN (.int 0)))) (aO (cn (aS 2) (c2 pB (c2 aW (aq 0) (aN (.int 1))) (aq 1))) (aO (cn (kB (aq 0) (aN (.int 1))) (c2 tQ (c2 aW (aq 0) (aN (.int 1))) (aq 1))) (aO (dF (aq 2)) aU))) aU) (aO (cn (aS 3) (c2 pB (c2 fF (c2 sQ (c2 aW (aq 0) (aN (.int 0))) (aN (.int 48271))) (aN (.int 7919))) (aN (.int 2147483647)))) (aO (cn (kB (aq 0) (aN (.int 0))) (c2 fF (c2 pB (c2 fF (c2 sQ (aq 3) (aN (.int 40692))) (aN (.int 12345))) (aN (.int 2147483399))) (aN (.int 1)))) (aO (dF (c2 pB (c2 tQ (c2 fF (c2 sQ (c2 pB (c2 sQ (aq 3) (aq 3)) (aN (.int 2147483629))) (aN (.int 31))) (c2 aW (aq 0) (aN (.int 0)))) (aN (.int 64))) (aq 1))) aU)))))
@[irreducible] def ja:List D->M D:=bZ 4 yk
def j7:CS:=(aO (cn (aS 2) (bJ ja (au (aq 0) (au (aN (.int 6)) aX)))) (aO (cn (aS 3) (c2 fF (aN (.int 1)) (bJ ja (au (aq 0) (au (aq 1) aX))))) (aO (mr (cX (c2 nj (aq 2) (aN (.int 0)))) (aO (cn (aS 3) (c2 wu (aq 3) (aN (.int 3)))) (aO (dF (iM lE (dU 1 [3] (MM.fN (aq 3)) (aS 0) b7 (c2 fF (c8 (au (c8 (au (aq 0) (au (aq 0) aX))) aX)) (iM lE (dU 1 [] (MM.fN (aq 1)) (aS 0) b7 (c8 (au (aq 0) (au (aN (.int 0)) aX))))))))) aU)) aU) (aO (mr (cX (c2 nj (aq 2) (aN (.int 1)))) (aO (dF (iM lE (dU 1 [3] (MM.fN (aq 3)) (aS 0) b7 (iM lE (dU 1 [0] (MM.fN (aq 1)) (aS 0) b7 (c8 (au (aq 0) (au (aq 1) aX)))))))) aU) aU) (aO (mr (cX (c2 nj (aq 2) (aN (.int 2)))) (aO (dF (iM lE (dU 1 [3] (MM.fN (aq 3)) (aS 0) b7 (c8 (au (c8 (au (c2 pB (c2 fF (aq 0) (aN (.int 1))) (aq 1)) (au (aq 0) aX))) aX))))) aU) aU) (aO (mr (oX (cX (c2 nj (aq 2) (aN (.int 3)))) (cX (c2 wZ (aq 3) (aN (.int 1))))) (aO (cn (aS 4) (eR (dU 1 [3] (MM.n8 (aN (.int 1)) (aq 3)) (aS 0) b7 (iM lE (dU 1 [0] (MM.n8 (aN (.int 1)) (aq 1)) (aS 0) b7 (c8 (au (aq 1) (au (aq 1) aX)))))))) (aO (dF (c2 fF (c8 (au (iM lE (dU 1 [] (MM.n8 (aN (.int 1)) (aq 3)) (aS 0) b7 (c8 (au (aq 0) (au (aq 0) aX))))) aX)) (c1 tupleD (aq 4)))) aU)) aU) (aO (cn (aS 5) (c2 fF (aN (.int 1)) (bJ ja (au (aq 0) (au (aN (.int 4)) aX))))) (aO (dF (iM lE (dU 1 [0,3,5] (MM.fN (aq 3)) (aS 0) b7 (iM lE (dU 1 [1,2] (MM.fN (aq 3)) (aS 0) b7 (c8 (au (bJ ja (au (aq 1) (au (aq 2) aX))) (au (bJ ja (au (aq 1) (au (aN (.int 4)) aX))) aX)))))))) aU))))))))
@[irreducible] def jH:List D->M D:=bZ 6 j7
def yh:CS:=(aO (mr (sR (cX (c2 nj (c1 gO (aq 1)) (aN (.int 0)))) (sR (oX (pZ (aq 4)) (cX (c2 nj (aq 3) (c2 uc (aq 2) (aN (.int 1)))))) (cX (c2 nj (bJ ja (au (aq 0) (au (aN (.int 5)) aX))) (aN (.int 0)))))) (aO (dF (c8 (au (aN (.str "settle")) (au (bJ ja (au (aq 0) (au (aN (.int 2)) aX))) aX)))) aU) aU) (aO (cn (aS 5) (bJ ja (au (aq 0) (au (c1 gO (aq 1)) aX)))) (aO (cn (aS 6) (c2 aW (c2 aW (aq 1) (aq 5)) (aN (.int 0)))) (aO (cn (aS 7) (bJ ja (au (aq 0) (au (c1 gO (c2 aW (aq 6) (aN (.int 0)))) aX)))) (aO (cn (aS 8) (eR (gJ aX))) (aO (kg (MM.fN (c2 fF (aN (.int 1)) (iM n0 (dU 1 [7] (iV (aq 6)) (aS 0) b7 (c2 aW (c2 aW (aq 0) (aq 1)) (aN (.int 1))))))) (aS 9) (aO (mr (pZ (aq 4)) (aO (kH (e_ (aq 8) (c2 fF (c2 fF (aq 3) (aN (.int 1))) (bJ ja (au (aq 0) (au (c2 uc (c2 uc (aq 2) (aq 3)) (aN (.int 1))) aX)))))) aU) (aO (kH (e_ (aq 8) (bJ ja (au (aq 0) (au (aq 2) aX))))) aU)) aU)) (aO (dF (c8 (au (aN (.str "do")) (au (aq 5) (au (aq 7) (au (c1 tupleD (aq 8)) aX)))))) aU)))))))
@[irreducible] def jz:List D->M D:=bZ 10 yh
def yb:CS:=(aO (cn (aS 1) (eR (gJ aX))) (aO (cn (aS 2) (nh (gJ (au (aN (.int 0)) (au (aN (.int 1)) (au (aN (.int 1)) (au (aN (.int 2)) (au (aN (.int 2)) (au (aN (.int 3)) (au (aN (.int 1)) (au (aN (.int 4)) aX))))))))) (bJ ja (au (aq 0) (au (aN (.int 8)) aX))))) (aO (kg (MM.fN (aq 2)) (aS 3) (aO (cn (aS 4) (bJ jH (au (aq 0) (au (nh (gJ (au (aN (.int 4)) (au (aN (.int 4)) (au (aN (.int 3)) (au (aN (.int 2)) (au (aN (.int 2)) aX)))))) (aq 2)) aX)))) (aO (kH (e_ (aq 1) (c8 (au (aq 4) (au (bJ ja (au (aq 0) (au (c1 gO (aq 4)) aX))) aX))))) aU))) (aO (cn (aS 5) (eR (gJ aX))) (aO (cn (aS 6) (c2 fF (aN (.int 2)) (c1 intD (c2 nj (bJ ja (au (aq 0) (au (aN (.int 3)) aX))) (aN (.int 0)))))) (aO (cn (aS 7) (c2 aW (nh (gJ (au (eR (gJ (au (aN (.int 4)) (au (aN (.int 4)) (au (aN (.int 4)) (au (aN (.int 4)) (au (aN (.int 3)) aX))))))) (au (eR (gJ (au (aN (.int 3)) (au (aN (.int 3)) (au (aN (.int 2)) (au (aN (.int 2)) (au (aN (.int 2)) aX))))))) aX))) (c2 uc (aq 6) (aN (.int 2)))) (aq 2))) (aO (cn (aS 8) (bJ ja (au (aq 0) (au (aN (.int 4)) aX)))) (aO (kg (MM.fN (aq 6)) (aS 3) (aO (cn (aS 9) (c2 fF (aN (.int 1)) (bJ ja (au (aq 0) (au (aq 7) aX))))) (aO (cn (aS 10) (DG (c2 Cf (aq 8) (aN (.int 2))) (vE (c2 nj (aq 8) (aN (.int 2))) (c2 wZ (aq 3) (aN (.int 0)))))) (aO (cn (aS 11) (iM lE (dU 1 [0,1,9,10] (MM.fN (aq 9)) (aS 0) b7 (bJ jz (au (aq 1) (au (aq 2) (au (aq 3) (au (aq 0) (au (aq 4) aX))))))))) (aO (cn (aS 12) (c8 (au (aN (.int 0)) (au (bJ ja (au (aq 0) (au (aq 9) aX))) aX)))) (aO (mr (cX (c2 nj (bJ ja (au (aq 0) (au (aN (.int 2)) aX))) (aN (.int 1)))) (aO (cn (aS 12) (c8 (au (bJ ja (au (aq 0) (au (aq 9) aX))) (au (bJ ja (au (aq 0) (au (aq 9) aX))) aX)))) aU) aU) (aO (kH (e_ (aq 5) (c8 (au (aq 12) (au (aq 11) aX))))) aU))))))) (aO (mr (cX (c2 nj (bJ ja (au (aq 0) (au (aN (.int 4)) aX))) (aN (.int 0)))) (aO (cn (kB (aq 5) (c1 uW (aN (.int 1)))) (c2 aW (aq 5) (aN (.int 0)))) aU) aU) (aO (dF (c8 (au (c1 tupleD (aq 1)) (au (c1 tupleD (aq 5)) aX)))) aU))))))))))
@[irreducible] def jE:List D->M D:=bZ 13 yb
def j2:CS:=(aO (cn (aS 1) (eR (gJ (au (c8 aX) aX)))) (aO (kg (iV (c2 aW (aq 0) (aN (.int 1)))) (aS 2) (aO (cn (aS 1) (c2 fF (eR (dU 1 [] (iV (aq 1)) (aS 0) b7 (c2 fF (aq 0) (c8 (au (aN (.int 0)) aX))))) (eR (dU 1 [] (iV (aq 1)) (aS 0) b7 (c2 fF (aq 0) (c8 (au (aN (.int 1)) aX))))))) aU)) (aO (dF (c1 pC (aq 1))) aU)))
@[irreducible] def jl:List D->M D:=bZ 3 j2
def jL:CS:=(aO (dF (c8 (au (c2 fF (c2 aW (aq 0) (aN (.int 0))) (c8 (au (aN (.int 0)) aX))) (au (c2 aW (aq 0) (aN (.int 1))) aX)))) aU)
@[irreducible] def jb:List D->M D:=bZ 1 jL
def yd:CS:=(aO (cn (aS 3) (bJ je (au (aq 0) (au (aq 1) (au (aq 2) aX))))) (aO (mr (cX (c2 nj (c2 aW (aq 3) (aN (.int 0))) (aN (.str "settle")))) (aO (dF (aq 1)) aU) aU) (aO (cn (aS 4) (c2 aW (aq 3) (aN (.int 1)))) (aO (cn (aS 5) (c2 aW (aq 3) (aN (.int 2)))) (aO (cn (aS 6) (c2 aW (c2 aW (c2 aW (aq 0) (aN (.int 0))) (aq 4)) (aN (.int 0)))) (aO (cn (aS 7) (c2 aW (c2 aW (aq 1) (aN (.int 1))) (aq 4))) (aO (cn (aS 8) (c2 aW (c2 aW (aq 3) (aN (.int 3))) (bJ jO (au (aq 6) (au (aq 7) (au (aq 5) aX)))))) (aO (dF (c8 (au (bJ jn (au (c2 aW (aq 1) (aN (.int 0))) (au (aq 2) (au (aq 8) aX)))) (au (bJ jn (au (c2 aW (aq 1) (aN (.int 1))) (au (aq 4) (au (bJ js (au (aq 6) (au (aq 7) (au (aq 5) aX)))) aX)))) aX)))) aU))))))))
@[irreducible] def jr:List D->M D:=bZ 9 yd
def yn:CS:=(aO (dF (iM lE (dU 1 [0,1] (MM.fN (c1 gO (c2 aW (aq 0) (aN (.int 1))))) (aS 0) b7 (bJ jp (au (bJ je (au (aq 1) (au (aq 2) (au (aq 0) aX)))) aX))))) aU)
@[irreducible] def jJ:List D->M D:=bZ 2 yn
def yt:CS:=(aO (dF (eR (dU 2 [] (uK (bJ jJ (au (aq 0) (au (aq 1) aX)))) (gI 2 (cL (aS 0) (cL (aS 1) g8))) (cX (c2 sP (aq 1) (aN .non))) (aq 0)))) aU)
@[irreducible] def jZ:List D->M D:=bZ 2 yt
def j1:CS:=(aO (cn (aS 4) (eR (gJ aX))) (aO (kg (iV (bJ jZ (au (aq 0) (au (aq 1) aX)))) (aS 5) (aO (cn (aS 6) (bJ jr (au (aq 0) (au (aq 1) (au (aq 5) aX))))) (aO (mr (cX (c2 qY (aq 6) (aq 3))) (aO (cn (kB (aq 3) (aq 6)) (c1 gO (aq 2))) (aO (kH (e_ (aq 2) (aq 6))) aU)) aU) (aO (kH (e_ (aq 4) (c8 (au (aq 5) (au (c2 aW (aq 3) (aq 6)) aX))))) aU)))) (aO (dF (aq 4)) aU)))
@[irreducible] def jA:List D->M D:=bZ 7 j1
def jS:CS:=(aO (cn (aS 3) (rQ (aq 1) (aN .non))) (aO (cn (aS 4) (eR (gJ (au (aq 1) aX)))) (aO (cn (aS 5) (aN (.int 0))) (aO (kK (cX (c2 Cf (aq 5) (c1 gO (aq 4)))) (aO (cn (aS 6) (c2 aW (aq 4) (aq 5))) (aO (kg (iV (c2 aW (aq 0) (aq 6))) (gI 2 (cL (aS 7) (cL (aS 8) g8))) (aO (mr (pZ (c2 aW (aq 2) (aq 8))) (aO (dF (c2 fF (bJ jK (au (aq 3) (au (aq 6) aX))) (c8 (au (aq 7) aX)))) aU) aU) (aO (mr (cX (c2 qY (aq 8) (aq 3))) (aO (cn (kB (aq 3) (aq 8)) (c8 (au (aq 6) (au (aq 7) aX)))) (aO (kH (e_ (aq 4) (aq 8))) aU)) aU) aU))) (aO (cn (aS 5) (c2 uX (aq 5) (aN (.int 1)))) aU)))) (aO (dF (aN .non)) aU)))))
@[irreducible] def ju:List D->M D:=bZ 9 jS
def jT:CS:=(aO (cn (aS 1) (eR (gJ aX))) (aO (cn (aS 2) (eR (dU 1 [] (iV (aq 0)) (aS 0) b7 (aN (.bl false))))) (aO (kg (MM.fN (c1 gO (aq 0))) (aS 3) (aO (mr (pJ (pZ (c2 aW (aq 2) (aq 3)))) (aO (kH (bJ jx (au (aq 0) (au (aq 3) (au (aq 2) (au (aq 1) aX)))))) aU) aU) aU)) (aO (dF (aq 1)) aU))))
@[irreducible] def jm:List D->M D:=bZ 4 jT
def jR:CS:=(aO (cn (aS 1) (bJ jm (au (aq 0) aX))) (aO (cn (aS 2) (eR (dU 1 [] (iV (aq 0)) (aS 0) b7 (aN (.bl false))))) (aO (kg (iV (aq 1)) (aS 3) (aO (mr (pJ (pZ (iM wK (dU 2 [2] (iV (c2 aW (aq 0) (aq 3))) (gI 2 (cL (aS 0) (cL (aS 1) g8))) b7 (c2 aW (aq 2) (aq 1)))))) (aO (dF (aN .non)) aU) aU) (aO (cn (kB (aq 2) (aq 3)) (aN (.bl true))) aU))) (aO (dF (aq 1)) aU))))
@[irreducible] def jg:List D->M D:=bZ 4 jR
def yc:CS:=(aO (cn (aS 1) (bJ jN (au (aq 0) aX))) (aO (cn (aS 2) (eR (dU 1 [] (iV (aq 0)) (aS 0) b7 (aN .non)))) (aO (kg (yF (bJ jm (au (aq 0) aX))) (aS 3) (aO (kH (bJ jI (au (aq 1) (au (aq 3) (au (aq 2) (au (aq 3) aX)))))) aU)) (aO (dF (eR (dU 2 [2] (qd (aq 0)) (gI 2 (cL (aS 0) (cL (aS 1) g8))) b7 (iM wY (dU 2 [0,2] (iV (aq 1)) (gI 2 (cL (aS 0) (cL (aS 1) g8))) b7 (c2 nj (c2 aW (aq 3) (aq 1)) (c2 aW (aq 3) (aq 2)))))))) aU))))
@[irreducible] def jF:List D->M D:=bZ 4 yc
def jQ:CS:=(aO (cn (aS 1) (c2 aW (aq 0) (aN (.int 1)))) (aO (cn (aS 2) (bJ jg (au (aq 1) aX))) (aO (mr (cX (c2 sP (aq 2) (aN .non))) (aO (dF (aN .non)) aU) aU) (aO (dF (c2 rV (c2 aW (aq 0) (aN (.int 0))) (bJ ji (au (aq 1) (au (aq 2) (au (vx 1 "graph_numbers" mj) aX)))))) aU))))
@[irreducible] def jj:List D->M D:=bZ 3 jQ
def jW:CS:=(aO (cn (aS 1) (bJ jF (au (aq 0) aX))) (aO (mr (cX (c2 qY (aN (.bl true)) (aq 1))) (aO (dF (aN .non)) aU) aU) (aO (cn (aS 2) (oy (aq 1) (aN (.bl true)))) (aO (dF (c8 (au (aq 2) (au (bJ ju (au (aq 0) (au (aq 2) (au (eR (dU 1 [2] (MM.fN (c1 gO (aq 0))) (aS 0) b7 (c2 nj (aq 0) (aq 1)))) aX)))) aX)))) aU))))
@[irreducible] def jw:List D->M D:=bZ 3 jW
def jX:CS:=(aO (cn (aS 3) (bJ jg (au (c2 aW (aq 1) (aN (.int 1))) aX))) (aO (mr (cX (c2 sP (aq 3) (aN .non))) (aO (dF (aN .non)) aU) aU) (aO (dF (iM lE (dU 1 [0,1,2,3] (MM.fN (c1 gO (c2 aW (aq 0) (aN (.int 1))))) (aS 0) b7 (bJ jt (au (aq 1) (au (aq 2) (au (aq 4) (au (aq 0) (au (aq 3) aX))))))))) aU)))
@[irreducible] def jy:List D->M D:=bZ 4 jX
def yr:CS:=(aO (cn (aS 3) (rS true)) (aO (cn (aS 4) (aq 1)) (aO (kK (cX (c2 qY (aq 4) (aq 3))) (aO (cn (aS 5) (bJ je (au (aq 0) (au (aq 4) (au (aq 2) aX))))) (aO (mr (cX (c2 nj (c2 aW (aq 5) (aN (.int 0))) (aN (.str "settle")))) (aO (dF (c8 (au (aN (.str "settles")) (au (c2 aW (aq 5) (aN (.int 1))) (au (c1 gO (aq 3)) aX))))) aU) aU) (aO (cn (kB (aq 3) (aq 4)) (c1 gO (aq 3))) (aO (cn (aS 4) (bJ jr (au (aq 0) (au (aq 4) (au (aq 2) aX))))) aU))))) (aO (dF (c8 (au (aN (.str "round")) (au (c2 aW (aq 3) (aq 4)) (au (c2 uc (c1 gO (aq 3)) (c2 aW (aq 3) (aq 4))) aX))))) aU))))
@[irreducible] def jD:List D->M D:=bZ 6 yr
def jY:CS:=(aO (cn (aS 3) (rS true)) (aO (kg (iV (aq 1)) (aS 4) (aO (kH (pN (aq 3) (aq 4) (c1 gO (aq 3)))) aU)) (aO (cn (aS 5) (c1 qc (aq 3))) (aO (cn (aS 6) (eR (gJ aX))) (aO (kK (cX (c2 Cf (c1 gO (aq 6)) (c1 gO (aq 5)))) (aO (mr (oX (cX (c2 mw (aq 2) (aN .non))) (cX (c2 wZ (c1 gO (aq 5)) (aq 2)))) (aO BX aU) aU) (aO (kH (e_ (aq 6) (bJ jA (au (aq 0) (au (c2 aW (aq 5) (c1 gO (aq 6))) (au (aq 5) (au (aq 3) aX))))))) aU))) (aO (dF (c8 (au (aq 5) (au (aq 6) aX)))) aU))))))
@[irreducible] def jC:List D->M D:=bZ 7 jY
def yf:CS:=(aO (cn (aS 2) (eR (dU 1 [0] (iV (bJ jG (au (aq 0) aX))) (aS 0) b7 (bJ jd (au (aq 1) (au (aq 0) aX)))))) (aO (dF (bJ jC (au (aq 0) (au (aq 2) (au (aq 1) aX))))) aU))
@[irreducible] def jq:List D->M D:=bZ 3 yf
def j0:CS:=(aO (dF (bJ jj (au (bJ jq (au (aq 0) (au (aq 1) aX))) aX))) aU)
@[irreducible] def jc:List D->M D:=bZ 2 j0
def yi:CS:=(aO (cn (aS 2) (bJ jq (au (aq 0) (au (aq 1) aX)))) (aO (cn (aS 3) (bJ jw (au (c2 aW (aq 2) (aN (.int 1))) aX))) (aO (mr (cX (c2 sP (aq 3) (aN .non))) (aO (dF (aN .non)) aU) aU) (aO (dF (c8 (au (c2 aW (c2 aW (aq 2) (aN (.int 0))) (c2 aW (aq 3) (aN (.int 0)))) (au (c2 aW (aq 3) (aN (.int 1))) aX)))) aU))))
@[irreducible] def jf:List D->M D:=bZ 4 yi
def yg:CS:=(aO (dF (bJ jy (au (aq 0) (au (bJ jq (au (aq 0) (au (aq 2) aX))) (au (aq 1) aX))))) aU)
@[irreducible] def jk:List D->M D:=bZ 3 yg
def jB:CS:=(aO (cn (aS 1) (c8 (au (c2 aW (aq 0) (aN (.int 0))) (au (kh (c2 aW (aq 0) (aN (.int 1))) oU (mV (aN (.int 2)))) aX)))) (aO (cn (aS 2) (hU jc (au (aq 0) aX) (.int 500))) (aO (cn (aS 3) (hU jc (au (aq 1) aX) (.int 500))) (aO (mr (cX (c2 sP (aq 2) (aN .non))) (aO (dF (c2 nj (c2 sP (aq 3) (aN .non)) (c2 mw (hU jf (au (aq 1) aX) (.int 500)) (aN .non)))) aU) aU) (aO (mr (sR (cX (c2 sP (aq 3) (aN .non))) (cX (c2 mw (hU jf (au (aq 1) aX) (.int 500)) (aN .non)))) (aO (dF (aN (.bl false))) aU) aU) (aO (kg (iV (bJ jl (au (aq 0) aX))) (aS 4) (aO (mr (cX (c2 wZ (c2 aW (aq 3) (bJ jd (au (aq 1) (au (kh (aq 4) oU (mV (aN (.int 2)))) aX)))) (c2 aW (aq 2) (bJ jd (au (aq 0) (au (aq 4) aX)))))) (aO (dF (aN (.bl false))) aU) aU) aU)) (aO (kg (MM.fN (c1 gO (c2 aW (aq 0) (aN (.int 0))))) (aS 5) (aO (kg (qH (hU jk (au (aq 1) (au (aq 5) aX)) (.int 500)) (hU jk (au (aq 0) (au (aq 5) aX)) (.int 500))) (gI 2 (cL (aS 6) (cL (aS 7) g8))) (aO (mr (cX (c2 wZ (aq 6) (aq 7))) (aO (dF (aN (.bl false))) aU) aU) aU)) aU)) (aO (dF (aN (.bl true))) aU))))))))
@[irreducible] def jh:List D->M D:=bZ 8 jB
def ya:CS:=(aO (dF (c2 aW (bJ jq (au (aq 0) (au (aq 1) aX))) (aN (.int 0)))) aU)
@[irreducible] def jv:List D->M D:=bZ 2 ya
def jM:CS:=(aO (cn (aS 2) (c8 (au (c2 aW (aq 0) (aN (.int 0))) (au (c2 fF (c2 aW (aq 0) (aN (.int 1))) (c8 (au (c8 (au (c8 (au (aN (.int 0)) (au (aN (.int 0)) aX))) (au (c8 (au (c8 (au (aN (.str "settle")) (au (aq 1) aX))) aX)) aX))) aX))) aX)))) (aO (mr (cX (c2 wk (hU jv (au (aq 2) aX) (.int 500)) (eR (dU 1 [] (iV (hU jv (au (aq 0) aX) (.int 500))) (aS 0) b7 (bJ jb (au (aq 0) aX)))))) (aO (dF (aN (.bl false))) aU) aU) (aO (cn (aS 3) (hU jc (au (aq 0) aX) (.int 500))) (aO (cn (aS 4) (hU jf (au (aq 0) aX) (.int 500))) (aO (mr (cX (c2 sP (aq 3) (aN .non))) (aO (dF (vE (c2 sP (hU jc (au (aq 2) aX) (.int 500)) (aN .non)) (c2 nj (hU jf (au (aq 2) aX) (.int 500)) (c8 (au (bJ jb (au (c2 aW (aq 4) (aN (.int 0))) aX)) (au (c2 aW (aq 4) (aN (.int 1))) aX)))))) aU) aU) (aO (cn (aS 5) (iM lK (dU 2 [] (rX (aq 3)) (gI 2 (cL (aS 0) (cL (aS 1) g8))) b7 (c8 (au (bJ jb (au (aq 0) aX)) (au (aq 1) aX)))))) (aO (mr (sR (cX (c2 vD (hU jc (au (aq 2) aX) (.int 500)) (aq 5))) (cX (c2 mw (hU jf (au (aq 2) aX) (.int 500)) (aN .non)))) (aO (dF (aN (.bl false))) aU) aU) (aO (kg (MM.fN (c1 gO (c2 aW (aq 0) (aN (.int 0))))) (aS 6) (aO (mr (cX (c2 wk (hU jk (au (aq 2) (au (aq 6) aX)) (.int 500)) (c2 fF (hU jk (au (aq 0) (au (aq 6) aX)) (.int 500)) (c8 (au (aN (.int 0)) aX))))) (aO (dF (aN (.bl false))) aU) aU) aU)) (aO (dF (aN (.bl true))) aU)))))))))
@[irreducible] def jo:List D->M D:=bZ 7 jM
def yu:CS:=(aO (cn (aS 1) (bJ jP (au (aq 0) (au (aN (.int 0)) aX)))) (aO (cn (aS 2) (bJ jE (au (aq 1) aX))) (aO (mr (cX (c2 nj (c1 gO (c2 aW (aq 2) (aN (.int 1)))) (aN (.int 2)))) (aO (cn (aS 3) (c8 (au (c2 aW (aq 2) (aN (.int 0))) (au (c2 fF (c2 aW (aq 2) (aN (.int 1))) (c8 (au (c8 (au (c8 (au (aN (.int 0)) (au (aN (.int 0)) aX))) (au (c8 (au (c8 (au (aN (.str "settle")) (au (bJ ja (au (aq 1) (au (aN (.int 2)) aX))) aX))) aX)) aX))) aX))) aX)))) (aO (mr (pJ (pZ (bJ jo (au (aq 2) (au (c2 aW (c2 aW (c2 aW (c2 aW (c2 aW (aq 3) (aN (.int 1))) (aN (.int 2))) (aN (.int 1))) (aN (.int 0))) (aN (.int 1))) aX))))) (aO (dF (aN (.bl false))) aU) aU) aU)) (aO (cn (aS 3) (c8 (au (c2 aW (aq 2) (aN (.int 0))) (au (kh (c2 aW (aq 2) (aN (.int 1))) oU (mV (aN (.int 2)))) aX)))) (aO (mr (pJ (pZ (bJ jh (au (aq 2) aX)))) (aO (dF (aN (.bl false))) aU) aU) aU))) (aO (kg (iV (bJ jl (au (aq 2) aX))) (aS 4) (aO (kg (MM.fN (aN (.int 2))) (aS 5) (aO (cn (aS 6) (bJ jd (au (aq 3) (au (kh (c2 fF (aq 4) (c8 (au (aN (.int 0)) aX))) oU (mV (c1 gO (c2 aW (aq 3) (aN (.int 1)))))) aX)))) (aO (mr (cX (c2 wk (bJ jD (au (aq 3) (au (aq 6) (au (aq 5) aX)))) (bJ jD (au (aq 2) (au (bJ jd (au (aq 2) (au (aq 4) aX))) (au (aq 5) aX)))))) (aO (dF (aN (.bl false))) aU) aU) aU))) aU)) (aO (dF (aN (.bl true))) aU)))))
@[irreducible] def j5:List D->M D:=bZ 7 yu
open PySem.Spec PyProof.Rows L2
set_option genInjectivity false in
structure Txt(K:ah)(mg:Str->Option ag):Prop where
 f0:FnAt K mg "next_state" (top 4)
 f1:FnAt K mg "answer" (top 5)
 f2:FnAt K mg "inputs_of" (top 7)
 f3:FnAt K mg "begin" (top 9)
 f4:FnAt K mg "line_at" (top 10)
 f5:FnAt K mg "replaced" (top 12)
 f6:FnAt K mg "value_at" (top 14)
 f7:FnAt K mg "turns_to" (top 23)
 f8:FnAt K mg "finish_from" (top 25)
 f9:FnAt K mg "turned" (top 27)
 f10:FnAt K mg "mark_from" (top 28)
 f11:FnAt K mg "most_from" (top 33)
 f12:uZ K mg "most_deeds" (top 38)
 f13:FnAt K mg "_law_pot" (top 42)
 f14:FnAt K mg "_law_draw" (top 43)
 f15:FnAt K mg "_law_table" (top 44)
 f16:FnAt K mg "_law_line" (top 45)
 f17:FnAt K mg "_law_house" (top 46)
 f18:FnAt K mg "_law_inputs" (top 47)
 f19:FnAt K mg "_law_with_third" (top 52)
 f20:FnAt K mg "behind" (top 11)
 f21:FnAt K mg "settled" (top 13)
 f22:FnAt K mg "free" (top 15)
 f23:FnAt K mg "steps_from" (top 20)
 f24:FnAt K mg "least_way_on" (top 22)
 f25:FnAt K mg "finish_order" (top 24)
 f26:FnAt K mg "falling_order" (top 26)
 f27:FnAt K mg "on_rounds" (top 29)
 f28:uZ K mg "graph_numbers" (top 32)
 f29:FnAt K mg "first_round" (top 35)
 f30:FnAt K mg "graph_deeds" (top 37)
 f31:FnAt K mg "alone" (top 40)
 f32:FnAt K mg "graph_from" (top 19)
 f33:FnAt K mg "graph_of" (top 18)
 f34:rP K mg "numbers_of" (top 31)
 f35:rP K mg "round_of" (top 34)
 f36:rP K mg "deeds_at" (top 36)
 f37:FnAt K mg "_law_third_left_out" (top 54)
 f38:rP K mg "stands_of" (top 17)
 f39:FnAt K mg "_law_third_idle" (top 53)
 f40:FnAt K mg "law" (top 55)
 z:vI mg ["all","any","dict","enumerate","int","len","list","max","min","range","reversed","sorted","tuple","zip"]
 c:wJ K mg []
section
variable{K:ah}
def Qa:vH:=Eu 27 .NotEq vD (λh=>Sg h)
def Qt:vH:=ua .Lt Cf (λ_=>Qej)
def O_:vH:=ua .Gt wZ (λ_=>Zr)
def O4:vH:=ua .GtE Io (λ_=>V6)
def OT:vH:=ua .Eq nj (λh=>Z0 h)
def NT:vH:=ua .NotEq wk (λh=>QfJ h)
def RI:vH:=ua .Is sP (λ_=>Xf)
def RW:vH:=ua .IsNot mw (λ_=>QfW)
def Oa:vH:=ua .NotIn qY (λh=>Qf2 h)
def RR:mq:=⟨[Jm,Jg,EZ,Cs,z8,MM.FF,J3,FH,BL,KY,C0,CC,Hg,Go,GU,FP,BO,zU,Aq,EH,Ae,KD,Kq,BF,Hi,Ax,JD,Ar,Ah,G6,DL .Add fF (λ_=>X2),DL .Sub uc (λ_=>Zs),DL .Mult sQ (λ_=>UM),DL .FloorDiv tQ (λ_=>W4),DL .Mod pB (λ_=>TJ),DL .Pow yC (λ_=>YY),Qa.e,Qt.e,O_.e,O4.e,OT.e,NT.e,RI.e,RW.e,Oa.e,Jt,Mc,KZ,EX,BU],[Kw,E_,FK,BY],[Qa.t,Qt.t,O_.t,O4.t,OT.t,NT.t,RI.t,RW.t,Oa.t,B0,B6,Tp],[Ay,zP,Aj,CY,Ci true,Az,FG,Fk,G8],[V7,G4,Gm],[Li,FN,KA,Fy,GC,Aw,CD,zX,Hn,B_,BV,Ed,G9]⟩
noncomputable abbrev hh:List (Nat×Nat×Nat):=[(25,53,7),(40,11,1),(40,41,1),(54,14,2),(57,13,5),(129,22,16),(149,89,16),(174,12,20),(190,14,2),(304,15,21),(305,7,27),(312,36,1),(320,37,1),(323,36,7),(335,42,1),(340,42,1)]
noncomputable def Ps:List (Str×RF):=[]
def XX(T:Txt K mg)(c:BMod base mg):cN P w K mg base Ps:=Xm
def P5:List (Str×RF):=qE "next_state" (top 4) 3 0 js Ps
def WD(T:Txt K mg)(c:BMod base mg):cN P w K mg base P5:=o8 RR hh 3 T.f0 (XX T c) T.z T.c
def N7:List (Str×RF):=qE "answer" (top 5) 3 0 jO P5
def Tf(T:Txt K mg)(c:BMod base mg):cN P w K mg base N7:=o8 RR hh 3 T.f1 (WD T c) T.z T.c
def NH:List (Str×RF):=qE "inputs_of" (top 7) 1 0 jG N7
def Yg(T:Txt K mg)(c:BMod base mg):cN P w K mg base NH:=o8 RR hh 1 T.f2 (Tf T c) T.z T.c
def RG:List (Str×RF):=qE "begin" (top 9) 2 0 jd NH
def T6(T:Txt K mg)(c:BMod base mg):cN P w K mg base RG:=o8 RR hh 2 T.f3 (Yg T c) T.z T.c
def RA:List (Str×RF):=qE "line_at" (top 10) 3 0 je RG
def Yl(T:Txt K mg)(c:BMod base mg):cN P w K mg base RA:=o8 RR hh 3 T.f4 (T6 T c) T.z T.c
def QX:List (Str×RF):=qE "replaced" (top 12) 3 0 jn RA
def WX(T:Txt K mg)(c:BMod base mg):cN P w K mg base QX:=o8 RR hh 3 T.f5 (Yl T c) T.z T.c
def NO:List (Str×RF):=qE "value_at" (top 14) 1 0 jp QX
def Su(T:Txt K mg)(c:BMod base mg):cN P w K mg base NO:=o8 RR hh 1 T.f6 (WX T c) T.z T.c
def Oh:List (Str×RF):=qE "turns_to" (top 23) 2 0 jK NO
def gk8(T:Txt K mg)(c:BMod base mg):cN P w K mg base Oh:=o8 RR hh 2 T.f7 (Su T c) T.z T.c
def Nu:List (Str×RF):=qE "finish_from" (top 25) 4 0 jx Oh
def Wz(T:Txt K mg)(c:BMod base mg):cN P w K mg base Nu:=o8 RR hh 4 T.f8 (gk8 T c) T.z T.c
def C8:List (Str×RF):=("turned",⟨1,1,["steps"],false,jN⟩)::Nu
def JK(T:Txt K mg)(c:BMod base mg):cN P w K mg base C8:=by unfold C8 jN;exact Lv RR (r:=["back","here","ways","hand","there"]) (H:=hh) T.f9 (by nofun) (λ_ _ _ _ _ _=>DA λ_=>rfl) nofun (by kernel_rfl) (Wz T c) T.z T.c
def FI:List (Str×RF):=qE "mark_from" (top 28) 4 0 jI C8
def BA(T:Txt K mg)(c:BMod base mg):cN P w K mg base FI:=o8 RR hh 4 T.f10 (JK T c) T.z T.c
def QkP(T:Txt K mg)(c:BMod base mg):tB P w K mg base 1 2 mj uQ:=by unfold uQ;exact Vw RR (r:=[]) (nm:=["here","hand"]) (k:=0) (H:=hh) (by kernel_rfl) (by kernel_rfl) (λ_ _ _ _=>DW λ_ _=>by kernel_rfl) (by kernel_rfl) (BA T c) T.z T.c Fp
def R1(T:Txt K mg)(c:BMod base mg):tK P w K mg base 2 2 (.dfn nY) qM:=by unfold qM;exact QiI RR (r:=[]) (nm:=["here","mover"]) (fr:=["house","hand","graph","board"]) (k:=1) (H:=hh) (by kernel_rfl) (by kernel_rfl) (by kernel_rfl) (λ_ _ _ _ _ _=>DW λ_ _=>by kernel_rfl) (by kernel_rfl) (BA T c) T.z T.c Fp
def KP(T:Txt K mg)(c:BMod base mg):yX P w K mg base pG:=(U3 (QkP T c) (Us (R1 T c) Fp))
def BB:List (Str×RF):=("most_from",⟨3,3,["steps","order","worth"],false,ji⟩)::FI
def Kk(T:Txt K mg)(c:BMod base mg):cN P w K mg base BB:=by unfold BB ji;exact V2 RR (r:=["told","here"]) (W:=pG) (H:=hh) T.f11 (by nofun) (λ_ _ _ _ _ _=>HJ λ_ _ _=>rfl) (by kernel_rfl) (BA T c) T.z T.c (KP T c)
def CJ:List (Str×RF):=("most_deeds",⟨5,4,["house","graph","order","hand","board"],false,jt⟩)::BB
def Jy(T:Txt K mg)(c:BMod base mg):cN P w K mg base CJ:=by unfold CJ jt;exact Tz RR (r:=["worth"]) (j:=0) (H:=hh) T.f12 (by nofun) (λ_ _ _ _ _ _=>N9 λ_ _ _ _ _=>rfl) (by kernel_rfl) (Kk T c) T.z T.c c
def Gp:List (Str×RF):=qE "_law_pot" (top 42) 2 0 jP CJ
def Ku(T:Txt K mg)(c:BMod base mg):cN P w K mg base Gp:=o8 RR hh 2 T.f13 (Jy T c) T.z T.c
def EQ:List (Str×RF):=qE "_law_draw" (top 43) 2 0 ja Gp
def KN(T:Txt K mg)(c:BMod base mg):cN P w K mg base EQ:=o8 RR hh 2 T.f14 (Ku T c) T.z T.c
def EW:List (Str×RF):=qE "_law_table" (top 44) 2 1 jH EQ
def Ms(T:Txt K mg)(c:BMod base mg):cN P w K mg base EW:=o8 RR hh 2 T.f15 (KN T c) T.z T.c
def FY:List (Str×RF):=qE "_law_line" (top 45) 5 1 jz EW
def Nc(T:Txt K mg)(c:BMod base mg):cN P w K mg base FY:=o8 RR hh 5 T.f16 (Ms T c) T.z T.c
def Ev:List (Str×RF):=qE "_law_house" (top 46) 1 2 jE FY
def Jk(T:Txt K mg)(c:BMod base mg):cN P w K mg base Ev:=o8 RR hh 1 T.f17 (Nc T c) T.z T.c
def Gf:List (Str×RF):=qE "_law_inputs" (top 47) 1 0 jl Ev
def MX(T:Txt K mg)(c:BMod base mg):cN P w K mg base Gf:=o8 RR hh 1 T.f18 (Jk T c) T.z T.c
def El:List (Str×RF):=qE "_law_with_third" (top 52) 1 0 jb Gf
def Km(T:Txt K mg)(c:BMod base mg):cN P w K mg base El:=o8 RR hh 1 T.f19 (MX T c) T.z T.c
def E9:List (Str×RF):=qE "behind" (top 11) 3 1 jr El
def Jv(T:Txt K mg)(c:BMod base mg):cN P w K mg base E9:=o8 RR hh 3 T.f20 (Km T c) T.z T.c
def G5:List (Str×RF):=qE "settled" (top 13) 2 1 jJ E9
def LG(T:Txt K mg)(c:BMod base mg):cN P w K mg base G5:=o8 RR hh 2 T.f21 (Jv T c) T.z T.c
def FU:List (Str×RF):=qE "free" (top 15) 2 2 jZ G5
def Jq(T:Txt K mg)(c:BMod base mg):cN P w K mg base FU:=o8 RR hh 2 T.f22 (LG T c) T.z T.c
def FM:List (Str×RF):=qE "steps_from" (top 20) 4 3 jA FU
def JP(T:Txt K mg)(c:BMod base mg):cN P w K mg base FM:=o8 RR hh 4 T.f23 (Jq T c) T.z T.c
def E3:List (Str×RF):=qE "least_way_on" (top 22) 3 1 ju FM
def Kx(T:Txt K mg)(c:BMod base mg):cN P w K mg base E3:=o8 RR hh 3 T.f24 (JP T c) T.z T.c
def FV:List (Str×RF):=qE "finish_order" (top 24) 1 1 jm E3
def Kf(T:Txt K mg)(c:BMod base mg):cN P w K mg base FV:=o8 RR hh 1 T.f25 (Kx T c) T.z T.c
def CL:List (Str×RF):=("falling_order",⟨1,3,["steps"],false,jg⟩)::FV
def Mi(T:Txt K mg)(c:BMod base mg):cN P w K mg base CL:=by unfold CL jg;exact Lv RR (r:=["order","ended","here"]) (H:=hh) T.f26 (by nofun) (λ_ _ _ _ _ _=>DA λ_=>rfl) nofun (by kernel_rfl) (Kf T c) T.z T.c
def GQ:List (Str×RF):=qE "on_rounds" (top 29) 1 2 jF CL
def JB(T:Txt K mg)(c:BMod base mg):cN P w K mg base GQ:=o8 RR hh 1 T.f27 (Mi T c) T.z T.c
def CM:List (Str×RF):=("graph_numbers",⟨1,4,["graph"],false,jj⟩)::GQ
def L6(T:Txt K mg)(c:BMod base mg):cN P w K mg base CM:=by unfold CM jj;exact ZK RR (r:=["steps","order"]) (j:=1) (H:=hh) T.f28 (by nofun) (λ_ _ _ _ _ _=>DA λ_=>rfl) (by kernel_rfl) (JB T c) T.z T.c c
def Fw:List (Str×RF):=qE "first_round" (top 35) 1 3 jw CM
def J9(T:Txt K mg)(c:BMod base mg):cN P w K mg base Fw:=o8 RR hh 1 T.f29 (L6 T c) T.z T.c
def F4:List (Str×RF):=qE "graph_deeds" (top 37) 3 4 jy Fw
def Lm(T:Txt K mg)(c:BMod base mg):cN P w K mg base F4:=o8 RR hh 3 T.f30 (J9 T c) T.z T.c
def Ft:List (Str×RF):=qE "alone" (top 40) 3 2 jD F4
def KQ(T:Txt K mg)(c:BMod base mg):cN P w K mg base Ft:=o8 RR hh 3 T.f31 (Lm T c) T.z T.c
def E2:List (Str×RF):=qE "graph_from" (top 19) 3 4 jC Ft
def JA(T:Txt K mg)(c:BMod base mg):cN P w K mg base E2:=o8 RR hh 3 T.f32 (KQ T c) T.z T.c
def F8:List (Str×RF):=qE "graph_of" (top 18) 2 5 jq E2
def Na(T:Txt K mg)(c:BMod base mg):cN P w K mg base F8:=o8 RR hh 2 T.f33 (JA T c) T.z T.c
def En:List (Str×RF):=qD "numbers_of" (top 31) 2 6 jc F8
def JC(T:Txt K mg)(c:BMod base mg):cN P w K mg base En:=Iu RR hh 2 T.f34 (Na T c) T.z T.c
def Gs:List (Str×RF):=qD "round_of" (top 34) 2 6 jf En
def Lr(T:Txt K mg)(c:BMod base mg):cN P w K mg base Gs:=Iu RR hh 2 T.f35 (JC T c) T.z T.c
def GX:List (Str×RF):=qD "deeds_at" (top 36) 3 6 jk Gs
def Jn(T:Txt K mg)(c:BMod base mg):cN P w K mg base GX:=Iu RR hh 3 T.f36 (Lr T c) T.z T.c
def Ff:List (Str×RF):=qE "_law_third_left_out" (top 54) 1 7 jh GX
def KJ(T:Txt K mg)(c:BMod base mg):cN P w K mg base Ff:=o8 RR hh 1 T.f37 (Jn T c) T.z T.c
def Hf:List (Str×RF):=qD "stands_of" (top 17) 2 6 jv Ff
def LK(T:Txt K mg)(c:BMod base mg):cN P w K mg base Hf:=Iu RR hh 2 T.f38 (KJ T c) T.z T.c
def MC:List (Str×RF):=qE "_law_third_idle" (top 53) 2 7 jo Hf
def Lc(T:Txt K mg)(c:BMod base mg):cN P w K mg base MC:=o8 RR hh 2 T.f39 (LK T c) T.z T.c
def yv(F:yw K "law" "law" (top 55) a c)(T:Txt K mg)(g:BMod base mg):mI P w K mg base q_ 9 a c ["_law_script"] (mU K 1 j5):=L4 RR hh F (Lc T g) T.z T.c
end
end My
namespace My
open MM
open PySem (Str)
def ly{s:aZ}{n:Nat}(h:s[n]?=some o):n < s.length:=(ac.mp h).1
structure d_(s:aZ)(p q:Nat):Prop where
 ne:p≠q
 ex:∃(x c:Int)(cs:List D),s[p]?=some (.lst [.int x,.int c,.ref q])/\s[q]?=some (.lst cs)/\0<=x/\x < 2147483648/\∀d∈cs,∃i:Int,d=.int i
structure Kept(p q:Nat)(s s':aZ):Prop where
 le:s.length<=s'.length
 at_:∀n,n < s.length->n≠p->n≠q->s'[n]?=s[n]?
section
variable{p q:Nat}{s s1 s2:aZ}{Q:D->aZ->Prop}
def Kept.refl:Kept p q s s:=⟨aw _,λ_ _ _ _=>rfl⟩
theorem Kept.trans(h:Kept p q s s1)(k:Kept p q s1 s2):Kept p q s s2:=⟨cW h.le k.le,λn l g c=>(k.at_ n (bb l h.le) g c).trans (h.at_ n l g c)⟩
def Kept.same{n:Nat}(h:Kept p q s s1)(l:n≠p)(c:n≠q)(g:s[n]?=some o):s1[n]?=some o:=(h.at_ n (ly g) l c).trans g
def Kept.snoc(h:Kept p q s s1):Kept p q s (s1++[o]):=h.trans ⟨by simp,λn c _ _=>ao c⟩
def Kept.put{n:Nat}(h:Kept p q s s1)(u:s.length<=n):Kept p q s (s1.set n o):=
 ⟨by simp;exact h.le,λm l g c=>by rw[aB ()];exact h.at_ m l g c⟩
def d_.lt(h:d_ s p q):p < s.length/\q < s.length:=by let⟨x,c,g,a,b,_⟩:=h.ex;exact⟨ly a,ly b⟩
def d_.snoc(h:d_ s p q):d_ (s++[o]) p q:=by let⟨x,c,g,a,b,r⟩:=h.ex;exact⟨h.ne,x,c,g,by rw[ao (ly a)];exact a,by rw[ao (ly b)];exact b,r⟩
def d_.put{n:Nat}(h:d_ s p q)(l:n≠p)(g:n≠q):d_ (s.set n o) p q:=by let⟨x,c,u,a,b,r⟩:=h.ex;exact⟨h.ne,x,c,u,by rw[aB l];exact a,by rw[aB g];exact b,r⟩
noncomputable def Ee(s:aZ)(p q:Nat)(x c:Int)(g:List D):Prop:=s[p]?=some (.lst [.int x,.int c,.ref q])/\s[q]?=some (.lst g)
def rR{k:Int}(hp:d_ s p q)(O:0 < k)(hk2:k < 1073741824)(h:∀r u,0<=r->r < k->d_ u p q->Kept p q s u->Q (.int r) u):wp (ja [.ref p,.int k]) Q s:=by
 let⟨x,c,g,I,J,hx0,hx1,C⟩:=hp.ex;let G:=hp.ne;let i3:MM.n_ [D.int x,D.int c,D.ref q].length 1=some 1:=rfl
 (simp![ja];simp![yk])
 refine C1 (λl u=>l=[some (.ref p),some (.int k),none,none]/\∃c g,Ee u p q x c g/\(∀d∈g,∃i:Int,d=.int i)/\Kept p q s u)
  (λl u=>match u[q]? with
   |some (.lst g)=>g.length
   |_=>0) ⟨rfl,c,g,⟨I,J⟩,C,Kept.refl⟩ (λRw l u up rt hW=>?_)
 let⟨el,c,g,⟨I,J⟩,C,H⟩:=hW;subst el;simp![↓fk I,↓fk J];by_cases hc:c=0/\0 < g.length
 ·let⟨c,U⟩:=hc;subst c;let O:decide ((0:Int) < (g.length:Nat))=true:=cz ();rw[aH rfl,aH ()];obtain⟨d,hd⟩:∃d,g.getLast?=some d:=⟨_,List.getLast?_eq_some_getLast (by intro e;rw[e]at U;simp at U)⟩
  let⟨i,o⟩:=C d (List.mem_of_getLast? hd);subst o;let h:(u.set q (.lst g.dropLast))[p]?=some (.lst [.int x,.int 0,.ref q]):=by rw[aB (ff G)];exact I
  let L:(u.set q (.lst g.dropLast))[q]?=some (.lst g.dropLast):=aF (ly J);let i3:MM.n_ 3 1=some 1:=rfl;simp![↓fk I,↓fk J,hd,↓oK J,↓ul,↓fk h,i3,↓oK h];let B:((u.set q (.lst g.dropLast)).set p (.lst [.int x,.int i,.ref q]))[p]?=some (.lst [.int x,.int i,.ref q]):=aF (ly h);let l:((u.set q (.lst g.dropLast)).set p (.lst [.int x,.int i,.ref q]))[q]?=some (.lst g.dropLast):=by rw[aB G];exact L
  refine up ⟨rfl,i,g.dropLast,⟨B,l⟩,λd hd=>C d (List.dropLast_subset _ hd),⟨by simp;exact H.le,λn hn v E=>?_⟩⟩ ?_
  ·rw[aB (ff v),aB (ff E)];exact H.at_ n hn v E
  ·rw[l,J];simp only[ww];ext
 ·let fin : ∀(A B : Prop), (if c = 0 then (if 0 < (g.length : Int) then A else B) else B) = B := λA B => by
    by_cases Y:c=0
    ·rw[aH Y,aD ()]
    ·rw[aD Y]
  rw[fin];let i3:MM.n_ 3 1=some 1:=rfl;let i4:MM.n_ 3 0=some 0:=rfl;let kp:∀o,Kept p q s (u.set p o):=λo=>⟨by simp;exact H.le,λn hn v E=>by rw[aB (ff v)];exact H.at_ n hn v E⟩
  let pt:∀(L c':Int),0<=L->L < 2147483648->d_ (u.set p (.lst [.int L,.int c',.ref q])) p q:=λL c' l Y=>⟨G,L,c',g,aF (ly I),by rw[aB G];exact J,l,Y,C⟩
  let Q:∀a b:Int,0<=b->b < 10000000->qN a b:=λa b Y h2=>.inr ⟨by ext,by ext⟩;by_cases l:0 < c
  ·rw[aH l];simp![i3,↓oK I];exact⟨O,⟨O,hk2⟩,h _ _ (lS _ ()) (kj _ O) (pt _ _ hx0 hx1) (kp _)⟩
  ·rw[aD l];let q:0<=(x*48271+7919) % 2147483647:=lS _ ();let o:(x*48271+7919) % 2147483647 < 2147483647:=kj _ ();generalize (x*48271+7919) % 2147483647=one at q o ⊢;let g:0<=(one*40692+12345) % 2147483399+1:=by have:=lS (one*40692+12345) (show (2147483399:Int)≠0 by ext);ext
   let c:(one*40692+12345) % 2147483399+1 < 2147483648:=by have:=kj (one*40692+12345) (show (0:Int) < 2147483399 by ext);ext
   generalize (one*40692+12345) % 2147483399+1=L at g c ⊢;let U:((0:Int) < 64/\(64:Int) < 1073741824):=by ext
   simp![i4,↓oK I,↓fk (aF (ly I)),U];exact⟨Q _ _ () (),Q _ _ () (),.inl ⟨by ext,by ext⟩,Q _ _ () (),O,h _ _ (lS _ ()) (kj _ O) (pt _ _ g c) (kp _)⟩
def QkT{E:List Int}(h:∀p q o,d_ o p q->s.length<=p->s.length<=q->eJ s o->Q (.ref p) o):wp (jP [.lit (E.map D.int),.int 0]) Q s:=by
 let l0:0<=eV:=bU _;let l3:3<=eV:=gH ();let m0:qN 7919 0:=.inl ⟨by ext,by ext⟩;let m2:∀a b:Int,0<=b->b < 10000000->qN a b:=λa b h1 h2=>.inr ⟨by ext,by ext⟩;let U:∀Q s,wp (yC (.int 10) (.int 18)) Q s=Q (.int 1000000000000000000) s:=λQ s=>by unfold yC ui;rw[fA,cF];exact propext ⟨λh=>h.2,λh=>⟨by decide,h⟩⟩
 generalize (1000000000000000000:Int)=big at U
 (simp![jP];simp![ym,l0,m0])
 let B:∀d∈cutD (E.map D.int) (some 0) (some 63),∃i:Int,d=.int i:=λd hd=>by unfold cutD at hd;let⟨i,_,e⟩:=bH.mp (List.mem_of_mem_drop (lD hd));exact⟨i,e.symm⟩
 let I:(cutD (E.map D.int) (some 0) (some 63)).length<=63:=by unfold cutD gU;simp;ext
 generalize cutD (E.map D.int) (some 0) (some 63)=cells at B I;refine vp (λi l o=>∃x J C,l=[some (.lit (E.map D.int)),some (.int 0),some (.int x),some (.ref s.length),J]/\(i=0\/(0<=x/\x < 2147483648))/\(i=0->x=104729)/\o[s.length]?=some (.lst C)/\(o.length=s.length+1/\eJ s o)/\C.length<=i/\∀d∈C,∃i:Int,d=.int i) (λ_ _ _ _=>trivial) ⟨_,_,[],rfl,.inl rfl,λ_=>rfl,by simp,⟨by simp,(eJ.refl _).snoc _⟩,aw _,by simp⟩ (λRw i d l o up rt hd O=>?_) (λl o O=>?_)
 ·let⟨x,J,C,el,Y,H,g,c,hl,u⟩:=O;subst el;let⟨v,G⟩:=B d (ax hd);subst G;let Q:=(ac.mp hd).1;let c1:(0:Int) < 2147483629:=by ext
  let c2:(0:Int) < 2147483647:=by ext
  let L:0<=(x*48271+v % 2147483629+1) % 2147483647:=lS _ ();let o:(x*48271+v % 2147483629+1) % 2147483647 < 2147483647:=kj _ ();let q:qN x 48271:=m2 _ _ () ();let E:C.length < eV:=sC ();simp![↓U,↓fk g,↓oK g,q,c1,c2,E];generalize (x*48271+v % 2147483629+1) % 2147483647=I at L o ⊢;by_cases l:big<=v
  ·rw[aH l];refine up ⟨_,_,_,rfl,.inr ⟨L,by ext⟩,λh=>by ext,aF (ly g),⟨by simp[c.1],c.2.put (aw _)⟩,by simp;ext,λd hd=>?_⟩;rcases aP.mp hd with hd|hd
   ·exact u d hd
   ·exact⟨v,aA.mp hd⟩
  ·rw[aD l];exact up ⟨_,_,_,rfl,.inr ⟨L,by ext⟩,λh=>by ext,g,c,by ext,u⟩
 ·let⟨x,J,C,el,Y,H,g,c,hl,u⟩:=O;subst el;simp![↓fk g,l3];let G:0<=x/\x < 2147483648:=by
   rcases Y with h|h
   ·have:=H h;ext
   ·exact h
  let⟨c,hex⟩:=c;refine h _ o.length _ ⟨by simp,x,0,C.reverse,by simp,by simp,G.1,G.2,λd hd=>u d (List.mem_reverse.mp hd)⟩ (by simp;ext) () ((hex.snoc _).snoc _)
end
open PySem (Str)
def nu(S c:Nat)(nx un:Nat->Nat->Nat):D:=.tup (bA S λs=>.tup (bA c λd=>.tup [.int (nx s d:Nat),.int (un s d:Nat)]))
noncomputable def uI(S c:Nat)(nx un:Nat->Nat->Nat):Prop:=1<=S/\S<=4/\1<=c/\c<=4/\∀s d,s < S->d < c->nx s d < S/\un s d < 4
section
variable{p q:Nat}{Q:D->aZ->Prop}
def vL{m:Nat}(h:m<=100):(-(2^62)<=(m:Int)/\(m:Int) < 2^62):=by ext
def Ym{m n:Nat}{A:List D->aZ->Prop}(O:d_ s p q)(h1:1<=m)(h2:m<=4)(h:∀(f g:Nat->Nat)v,(∀i,i < n->f i < m/\g i < 4)->d_ v p q->Kept p q s v->A (bA n λi=>.tup [.int (f i:Nat),.int (g i:Nat)]) v):wp (collect (aS 0) b7 (c8 (au (bJ ja (au (aq 1) (au (aq 2) aX))) (au (bJ ja (au (aq 1) (au (aN (.int 4)) aX))) aX))) d6 (bA n λi=>.int i) [none,some (.ref p),some (.int m)]) A s:=by
 refine IG (λi l v=>∃f g:Nat->Nat,l=(bA i λi=>.tup [.int (f i:Nat),.int (g i:Nat)])/\(∀j,j < i->f j < m/\g j < 4)/\d_ v p q/\Kept p q s v) (λ_ _ _ _=>trivial) ⟨λ_=>0,λ_=>0,rfl,λj G=>bh G (tq _),O,Kept.refl⟩ (λRr i l s1 up hi U=>?_) (λl s1 c=>by let⟨f,g,H,u,o,B⟩:=c;rw[H];exact h f g s1 u o B);let⟨f,g,H,u,o,B⟩:=U;let I:2<=eV:=gH ();simp![I];refine rR o () () λa s2 a0 a1 E L=>?_
 try simp![]
 refine rR E () () λb Q Y b1 C J=>?_
 try simp![I]
 refine up ⟨λj=>if j=i then a.toNat else f j,λj=>if j=i then b.toNat else g j,?_,λj G=>?_,C,(B.trans L).trans J⟩
 ·rw[A9,H];congr 1
  ·exact zD λj G=>by dsimp only;rw[aD (),aD ()]
  ·dsimp only;rw[aH rfl,aH rfl,gN a0,gN Y]
 ·dsimp only;by_cases e:j=i
  ·rw[aH e,aH e];ext
  ·rw[aD e,aD e];exact u j ()
def OU{m n:Nat}{A:List D->aZ->Prop}(L:d_ s p q)(I:1<=m)(H:m<=4)(h3:1<=n)(h4:n<=4)(h:∀(nx un:Nat->Nat->Nat)v,uI m n nx un->d_ v p q->Kept p q s v->A (bA m λs=>.tup (bA n λd=>.tup [.int (nx s d:Nat),.int (un s d:Nat)])) v):wp (collect (aS 0) b7 (iM lE (dU 1 [1,2] (MM.fN (aq 3)) (aS 0) b7 (c8 (au (bJ ja (au (aq 1) (au (aq 2) aX))) (au (bJ ja (au (aq 1) (au (aN (.int 4)) aX))) aX))))) d6 (bA m λi=>.int i) [none,some (.ref p),some (.int m),some (.int n)]) A s:=by
 refine IG (λi l v=>∃nx un:Nat->Nat->Nat,l=(bA i λs=>.tup (bA n λd=>.tup [.int (nx s d:Nat),.int (un s d:Nat)]))/\(∀s d,s < i->d < n->nx s d < m/\un s d < 4)/\d_ v p q/\Kept p q s v) (λ_ _ _ _=>trivial) ⟨λ_ _=>0,λ_ _=>0,rfl,λj d E=>bh E (tq _),L,Kept.refl⟩ (λRr i l s1 up hi Q=>?_) (λl s1 c=>by let⟨nx,un,G,u,o,B⟩:=c;rw[G];exact h nx un s1 ⟨I,H,h3,h4,u⟩ o B);let⟨nx,un,G,u,o,B⟩:=Q;let Y:=vL (show n<=100 by ext);let O:n<=eV:=gH ();simp![Y,im,bC,ue,mH,O];refine Ym o I H λf g s2 U C J=>?_
 try simp![]
 refine up ⟨λj d=>if j=i then f d else nx j d,λj d=>if j=i then g d else un j d,?_,λj d E hd=>?_,C,B.trans J⟩
 ·rw[A9,G];congr 1
  ·exact zD λj E => by congr 1;exact zD λd hd=>by dsimp only;rw[aD (),aD ()]
  ·congr 2;exact zD λd hd=>by dsimp only;rw[aH rfl,aH rfl]
 ·dsimp only;by_cases e:j=i
  ·rw[aH e,aH e];exact U d hd
  ·rw[aD e,aD e];exact u j d () hd
def QkX{k:Nat}(B:k<=3):wp (collect (aS 0) b7 (c2 fF (c8 (au (c8 (au (aq 0) (au (aq 0) aX))) aX)) (iM lE (dU 1 [] (MM.fN (aq 1)) (aS 0) b7 (c8 (au (aq 0) (au (aN (.int 0)) aX)))))) d6 (bA k λi=>.int i) [none,some (.int k)]) A s=A (bA k λv=>.tup (.tup [.int (v:Nat),.int (v:Nat)]::bA k λv=>.tup [.int (v:Nat),.int 0])) s:=yE vN λv o Q=>by
 let l:1<=eV:=gH ();let g:2<=eV:=gH ();let C:=vL (show k<=100 by ext);let u:k<=eV:=gH ();let c:1+k<=eV:=gH ();let h:∀Q s,wp (collect (aS 0) b7 (c8 (au (aq 0) (au (aN (.int 0)) aX))) d6 (bA k λi=>.int i) [none]) Q s=Q (bA k λv=>.tup [.int (v:Nat),.int 0]) s:=λQ s=>yE vN λv o Q=>by simp![g]
 simp![l,g,C,im,bC,ue,mH,u,↓h,c]
def QkY{k:Nat}: D.tup (bA k λv=>.tup (.tup [.int (v:Nat),.int (v:Nat)]::bA k λv=>.tup [.int (v:Nat),.int 0]))=nu k (k+1) (λs d=>match d with
    |0=>s|d+1=>d) (λs d=>match d with
    |0=>s
    |_+1=>0):=by
 unfold nu;congr 1;exact zD λv c=>by rw[P7];congr 1;exact zD λd hd=>by cases d<;>rfl
def V9{m:Nat}(B:m<=4):wp (collect (aS 0) b7 (iM lE (dU 1 [0] (MM.fN (aq 1)) (aS 0) b7 (c8 (au (aq 0) (au (aq 1) aX))))) d6 (bA m λi=>.int i) [none,some (.int m)]) A s=A (bA m λs=>.tup (bA m λv=>.tup [.int (v:Nat),.int (s:Nat)])) s:=yE vN λv o Q=>by
 let g:2<=eV:=gH ();let l:=vL (show m<=100 by ext);let h:m<=eV:=gH ();let c:∀Q s,wp (collect (aS 0) b7 (c8 (au (aq 0) (au (aq 1) aX))) d6 (bA m λi=>.int i) [none,some (.int v)]) Q s=Q (bA m λu=>.tup [.int (u:Nat),.int (v:Nat)]) s:=λQ s=>yE vN λu hu Q=>by simp![g]
 simp![l,im,bC,ue,mH,h,↓c]
def Wm{m:Nat}(l:1<=m):wp (collect (aS 0) b7 (c8 (au (c8 (au (c2 pB (c2 fF (aq 0) (aN (.int 1))) (aq 1)) (au (aq 0) aX))) aX)) d6 (bA m λi=>.int i) [none,some (.int m)]) A s=A (bA m λs=>.tup [.tup [.int (((s+1) % m:Nat):Int),.int (s:Nat)]]) s:=yE vN λv u Q=>by
 let h:1<=eV:=gH ();let g:2<=eV:=gH ();let c:(0:Int) < (m:Nat):=by ext
 let o:((v:Int)+1) % (m:Int)=(((v+1) % m:Nat):Int):=by simp
 simp![h,g,c,o]
def XZ{m:Nat}(E:m<=4):wp (collect (aS 0) b7 (iM lE (dU 1 [0] (MM.n8 (aN (.int 1)) (aq 1)) (aS 0) b7 (c8 (au (aq 1) (au (aq 1) aX))))) d6 (bA (m-1) λi=>.int (1+(i:Int))) [none,some (.int m)]) A s=A (bA (m-1) λs=>.tup (bA (m-1) λv=>.tup [.int (1+(s:Int)),.int (1+(s:Int))])) s:=yE vN λv C Q=>by
 let h:2<=eV:=gH ();let l:=vL (show m<=100 by ext);let o:((m:Int)-1).toNat=m-1:=by ext
 let c:m-1<=eV:=gH ();let B:(-(2^62)<=(1:Int)/\(1:Int) < 2^62):=by ext
 let g:∀Q s,wp (collect (aS 0) b7 (c8 (au (aq 1) (au (aq 1) aX))) d6 (bA (m-1) λi=>.int (1+(i:Int))) [none,some (.int (1+(v:Int)))]) Q s=Q (bA (m-1) λu=>.tup [.int (1+(v:Int)),.int (1+(v:Int))]) s:=λQ s=>yE vN λu hu Q=>by simp![h]
 simp![B,l,im,o,Pz,mH,c,↓g]
def Qk2{m:Nat}:wp (collect (aS 0) b7 (c8 (au (aq 0) (au (aq 0) aX))) d6 (bA (m-1) λi=>.int (1+(i:Int))) [none]) A s=A (bA (m-1) λv=>.tup [.int (1+(v:Int)),.int (1+(v:Int))]) s:=yE vN λu hu Q=>by have c:2<=eV:=gH ();simp![c]
def SK{n:Nat}: D.tup (.tup (bA n λv=>.tup [.int (1+(v:Int)),.int (1+(v:Int))])::bA n λs=>.tup (bA n λv=>.tup [.int (1+(s:Int)),.int (1+(s:Int))]))=nu (n+1) n (λs d=>match s with
     |0=>d+1|s+1=>s+1) (λs d=>match s with
     |0=>d+1
     |s+1=>s+1):=by
 unfold nu;rw[P7];congr 1;exact zD λs c=>by
  cases s with
  |zero=>
   dsimp only;congr 1;exact zD λd hd=>by rw[show (1+(d:Int))=((d+1:Nat):Int) by ext]
  |succ s=>
   dsimp only;congr 1;exact zD λd hd=>by rw[show (1+(s:Int))=((s+1:Nat):Int) by ext]
def Uc{mo:Int}(mo1:1<=mo)(mo4:mo<=4)(hp:d_ s p q)(h:∀S dn nx un s',uI S dn nx un->(S:Int)<=mo->d_ s' p q->Kept p q s s'->Q (nu S dn nx un) s'):wp (jH [.ref p,.int mo]) Q s:=by
 (simp![jH];simp![j7])
 refine rR hp () () λkind s1 kd0 kd1 hp1 k1=>?_
 try simp![]
 refine rR hp1 () () λr s2 O r1 u k2=>?_;let o:=k1.trans k2;let C:r=((r.toNat:Nat):Int):=(gN O).symm;generalize r.toNat=B at C;subst C;let E:(1+(B:Int))=((1+B:Nat):Int):=by ext
 let l:1<=1+B:=by ext
 let c:1+B<=4:=by ext
 let hmo:((1+B:Nat):Int)<=mo:=by ext
 simp![E]
 try rw[E]
 generalize 1+B=m at l c hmo;let l1:1<=eV:=gH ();by_cases c0:kind=0
 ·rw[aH c0];let g:min (m:Int) 3=((min m 3:Nat):Int):=by ext
  let Y:1<=min m 3:=by ext
  let U:min m 3<=3:=by ext
  let c:min m 3<=m:=by ext
  rw[g];generalize min m 3=k at Y U c;let J:=vL (show k<=100 by ext);let L:k<=eV:=gH ();let G:∀A s,wp (collect (aS 0) b7 (c2 fF (c8 (au (c8 (au (aq 0) (au (aq 0) aX))) aX)) (iM lE (dU 1 [] (MM.fN (aq 1)) (aS 0) b7 (c8 (au (aq 0) (au (aN (.int 0)) aX)))))) d6 (bA k λi=>.int i) [none,some (.int k)]) A s=A (bA k λv=>.tup (.tup [.int (v:Nat),.int (v:Nat)]::bA k λv=>.tup [.int (v:Nat),.int 0])) s:=λA s=>QkX U;simp![J,im,bC,ue,mH,L,↓G];rw[QkY];refine h _ _ _ _ _ ⟨Y,by ext,by ext,by ext,λs d hs hd=>?_⟩ () u o;cases d with|zero=>exact⟨hs,by dsimp only;ext⟩|succ d=>exact⟨by dsimp only;ext,by dsimp only;ext⟩
 rw[aD c0];let J:=vL (show m<=100 by ext);let L:m<=eV:=gH ();by_cases c1:kind=1
 ·rw[aH c1];let G:∀A s,wp (collect (aS 0) b7 (iM lE (dU 1 [0] (MM.fN (aq 1)) (aS 0) b7 (c8 (au (aq 0) (au (aq 1) aX))))) d6 (bA m λi=>.int i) [none,some (.int m)]) A s=A (bA m λs=>.tup (bA m λv=>.tup [.int (v:Nat),.int (s:Nat)])) s:=λA s=>V9 c;simp![J,im,bC,ue,mH,L,↓G];exact h m m (λs d=>d) (λs d=>s) _ ⟨l,c,l,c,λs d hs hd=>⟨hd,by dsimp only;ext⟩⟩ () u o
 rw[aD c1];by_cases c2':kind=2
 ·rw[aH c2'];let G:∀A s,wp (collect (aS 0) b7 (c8 (au (c8 (au (c2 pB (c2 fF (aq 0) (aN (.int 1))) (aq 1)) (au (aq 0) aX))) aX)) d6 (bA m λi=>.int i) [none,some (.int m)]) A s=A (bA m λs=>.tup [.tup [.int (((s+1) % m:Nat):Int),.int (s:Nat)]]) s:=λA s=>Wm l;simp![J,im,bC,ue,mH,L,↓G];exact h m 1 (λs d=>(s+1) % m) (λs d=>s) _ ⟨l,c,by ext,by ext,λs d hs hd=>⟨Nat.mod_lt _ (),by dsimp only;ext⟩⟩ () u o
 rw[aD c2'];by_cases c3:kind=3
 ·rw[aH c3];by_cases Y:(1:Int) < (m:Nat)
  ·rw[aH Y];let B:((m:Int)-1).toNat=m-1:=by ext
   let U:m-1<=eV:=gH ();let q:1+(m-1)<=eV:=gH ();let C:(-(2^62)<=(1:Int)/\(1:Int) < 2^62):=by ext
   let G:∀A s,wp (collect (aS 0) b7 (iM lE (dU 1 [0] (MM.n8 (aN (.int 1)) (aq 1)) (aS 0) b7 (c8 (au (aq 1) (au (aq 1) aX))))) d6 (bA (m-1) λi=>.int (1+(i:Int))) [none,some (.int m)]) A s=A (bA (m-1) λs=>.tup (bA (m-1) λv=>.tup [.int (1+(s:Int)),.int (1+(s:Int))])) s:=λA s=>XZ c;let l:∀A s,wp (collect (aS 0) b7 (c8 (au (aq 0) (au (aq 0) aX))) d6 (bA (m-1) λi=>.int (1+(i:Int))) [none]) A s=A (bA (m-1) λv=>.tup [.int (1+(v:Int)),.int (1+(v:Int))]) s:=λA s=>Qk2;let g:∀(ds:List D)Q,wp (getL s2.length) Q (s2++[MO.lst ds])=Q ds (s2++[MO.lst ds]):=λds Q=>fk (by simp);simp![C,J,im,B,Pz,mH,U,↓G,↓l,↓g,l1,q];rw[SK];refine h _ _ _ _ _ ⟨by ext,by ext,by ext,by ext,λs d hs hd=>?_⟩ () u.snoc o.snoc;cases s with|zero=>dsimp only;ext|succ s=>dsimp only;ext
  ·rw[aD Y];refine rR u () () λr s3 O r1 I k3=>?_;let C:r=((r.toNat:Nat):Int):=(gN O).symm;generalize r.toNat=B at C;subst C;let E:(1+(B:Int))=((1+B:Nat):Int):=by ext
   simp![E,J,im,bC,ue,mH,L]
   try rw[E]
   refine OU I l c () () λnx un s4 ok H k4=>?_;simp![];exact h _ _ _ _ _ ok () H ((o.trans k3).trans k4)
 ·rw[aD c3];refine rR u () () λr s3 O r1 I k3=>?_;let C:r=((r.toNat:Nat):Int):=(gN O).symm;generalize r.toNat=B at C;subst C;let E:(1+(B:Int))=((1+B:Nat):Int):=by ext
  simp![E,J,im,bC,ue,mH,L]
  try rw[E]
  refine OU I l c () () λnx un s4 ok H k4=>?_;simp![];exact h _ _ _ _ _ ok () H ((o.trans k3).trans k4)
end
open PySem (Str)
structure Bd where
 S:Nat
 dn:Nat
 nx:Nat->Nat->Nat
 un:Nat->Nat->Nat
 st:Nat
inductive Ln where
 |settle (v:Nat)|act (b d:Nat) (gs:List Nat)
structure Hd where
 b0:Nat
 b1:Nat
 lines:List Ln
structure Hs where
 boards:List Bd
 hands:List Hd
structure Sd where
 ls:List Nat
 ss:List Nat
 deriving DecidableEq
noncomputable def eL(n:Nat):D:=.int (n:Int)
def rF(b:Bd):D:=.tup [nu b.S b.dn b.nx b.un,eL b.st]
def qG:Ln->D
 | .settle v=>.tup [.str "settle",eL v]| .act b d gs=>.tup [.str "do",eL b,eL d,.tup (gs.map eL)]
def np(h:Hd):D:=.tup [.tup [eL h.b0,eL h.b1],.tup (h.lines.map qG)]
def fW(h:Hs):D:=.tup [.tup (h.boards.map rF),.tup (h.hands.map np)]
def dI(s:Sd):D:=.tup [.tup (s.ls.map eL),.tup (s.ss.map eL)]
def yR(b:Bd):Prop:=uI b.S b.dn b.nx b.un/\b.st < b.S
def vt(bs:List Bd)(m:Nat):Ln->Prop
 | .settle v=>v < 2| .act b d gs=>∃bd,bs[b]?=some bd/\d < bd.dn/\gs.length=1+mx (bd.un · d) bd.S/\∀g∈gs,g < m
def vF(bs:List Bd)(h:Hd):Prop:=h.b0 < h.lines.length/\h.b1 < h.lines.length/\h.lines.length<=12/\∀l∈h.lines,vt bs h.lines.length l
def gY(h:Hs):Prop:=h.boards.length<=7/\(∀b∈h.boards,yR b)/\2<=h.hands.length/\h.hands.length<=3/\∀x∈h.hands,vF h.boards x
noncomputable def io(h:Hs)(s:Sd):Prop:=s.ls.length=h.hands.length/\s.ss.length=h.boards.length/\(∀(k:Nat)hd l,h.hands[k]?=some hd->s.ls[k]?=some l->l < hd.lines.length)/\∀(b:Nat)bd x,h.boards[b]?=some bd->s.ss[b]?=some x->x < bd.S
def xD{r:Int}(h:0<=r):∃n:Nat,r=(n:Int):=⟨r.toNat,(gN h).symm⟩
section
variable{p q:Nat}{Q:D->aZ->Prop}
def V0{b:Bd}{d:Nat}(h:uI b.S b.dn b.nx b.un)(hd:d < b.dn):wp (collect (aS 0) b7 (c2 aW (c2 aW (aq 0) (aq 1)) (aN (.int 1))) d6 (bA b.S λs=>.tup (bA b.dn λd=>D.tup [.int (b.nx s d:Nat),.int (b.un s d:Nat)])) [none,some (.int d)]) (λx c=>wp (n0 x) Q c) s=Q (.int (mx (b.un · d) b.S:Nat)) s:=by rw[yE (f:=λi=>.int (b.un i d:Nat)) vN (λi g Q=>by simp![↓yN hd])];exact M6 (f:=(b.un · d)) (by have:=h.1;ext)
def XI{C:Nat}{bs:List Bd}{m k:Nat}{T:Bool->aZ->Prop}(u:d_ s p q)(I:s[C]?=some (.lst (bs.map rF)))(U:k < m)(B:∀s1,d_ s1 p q->Kept p q s s1->T true s1)(J:∀s1,(o=true->k+1 < m)->0 < bs.length->d_ s1 p q->Kept p q s s1->T false s1):wp (sR (cX (c2 nj (c1 gO (aq 1)) (aN (.int 0)))) (sR (oX (pZ (aq 4)) (cX (c2 nj (aq 3) (c2 uc (aq 2) (aN (.int 1)))))) (cX (c2 nj (bJ ja (au (aq 0) (au (aN (.int 5)) aX))) (aN (.int 0))))) [some (.ref p),some (.ref C),some (.int m),some (.int k),some (.bl o),none,none,none,none,none]) T s:=by
 simp![↓fk I,af];by_cases hz:bs.length=0
 ·rw[aH ()];exact B s u Kept.refl
 rw[aD ()];let go:∀(g:o=true->k+1 < m)(R:D->aZ->Prop)(H:∀(r:Int) l,R (.int r) l=T (r == 0) l),wp (ja [.ref p,.int 5]) R s:=λg R H=>by
  refine rR u () () λr s1 O L c E=>?_;rw[H];by_cases G:r=0
  ·have:(r == 0)=true:=by simp[G]
   rw[this];exact B s1 c E
  ·have:(r == 0)=false:=by simp[G]
   rw[this];exact J s1 g () c E
 cases o with
 |false=>
  simp only[aK,if_false];exact go (λh=>by cases h) _ λr l=>by simp![]
 |true=>
  simp only[if_true];by_cases v:k+1 < m
  ·rw[aD ()];exact go (λ_=>v) _ λr l=>by simp![]
  ·rw[aH ()];exact B s u Kept.refl
def Qk8{nb:Nat}{bs:List Bd}{m k:Nat}(hp:d_ s p q)(hg:s[nb]?=some (.lst (bs.map rF)))(hnp:nb≠p)(hnq:nb≠q)(hbl:bs.length<=7)(hbd:∀x∈bs,yR x)(hk:k < m)(hm:m<=12)(h:∀ln C,vt bs m ln->d_ C p q->Kept p q s C->Q (qG ln) C):wp (jz [.ref p,.ref nb,.int m,.int k,.bl on]) Q s:=by
 let l0:0<=eV:=bU _;let l2:2<=eV:=gH ();let l4:4<=eV:=gH ();simp only[jz,yh,↓x_,↓uR,↓Hb,aV,lV,kY,sK,b8,fU,Nat.reduceAdd,Nat.reduceSub,lO,List.replicate_zero];refine XI hp hg hk (λs1 J k1=>?_) (λs1 hon hz J k1=>?_)
 ·simp![l2];refine rR J () () λv s2 v0 v1 c k2=>?_;let⟨n,e⟩:=xD v0;subst e;simp![l2];exact h (.settle n) _ (by show n < 2;ext) c (k1.trans k2)
 ·let q2:∀Q,wp (getL nb) Q s1=Q (bs.map rF) s1:=λQ=>fk (k1.same hnp hnq hg);simp![↓q2,af,aK,if_false];refine rR J () () λbi s2 bi0 bi1 hp2 k2=>?_;let⟨b,eb⟩:=xD bi0;subst eb;let hb:b < bs.length:=by ext
  let U:bs[b]?=some bs[b]:=ae hb;let⟨ok,hst⟩:=hbd bs[b] (bo hb);generalize bs[b]=bd at U ok hst;let q4:∀Q s,wp (cY (bs.map rF) (b:Int)) Q s=Q (.tup [nu bd.S bd.dn bd.nx bd.un,eL bd.st]) s:=λQ s=>uk (by rw[av,U];rfl);let ok0:=ok;let⟨o1,o2,o3,o4,o5⟩:=ok;let tb:wp (aW (nu bd.S bd.dn bd.nx bd.un) (.int 0))=λQ s=>Q (D.tup (bA bd.dn λd=>D.tup [.int (bd.nx 0 d:Nat),.int (bd.un 0 d:Nat)])) s:=by funext Q s;unfold nu;rw[ud,W6 ()]
  simp![↓fk ((k1.trans k2).same hnp hnq hg),↓q4,↓tb,mH];refine rR hp2 () () λdd c dd0 dd1 hp3 k3=>?_;let⟨d,ed⟩:=xD dd0;subst ed;let hd:d < bd.dn:=by ext
  let hS:bd.S<=eV:=gH ();let mu:∀Q s,wp (collect (aS 0) b7 (c2 aW (c2 aW (aq 0) (aq 1)) (aN (.int 1))) d6 (bA bd.S λs=>.tup (bA bd.dn λd=>D.tup [.int (bd.nx s d:Nat),.int (bd.un s d:Nat)])) [none,some (.int d)]) (λx C=>wp (n0 x) Q C) s=Q (.int (mx (bd.un · d) bd.S:Nat)) s:=λQ s=>V0 ok0 hd;let hmx:mx (bd.un · d) bd.S<=3:=Ib λi hi=>by have:=(o5 i d hi hd).2;ext
  let hm1:(1+((mx (bd.un · d) bd.S:Nat):Int))=((1+mx (bd.un · d) bd.S:Nat):Int):=by ext
  let hb1:=vL (show 1+mx (bd.un · d) bd.S<=100 by ext);simp![l0,nu,im,mH,hS,↓mu,hm1,hb1,bC,ue];let I:=(k1.trans k2).trans k3;let hp4:d_ (c++[.lst []]) p q:=hp3.snoc;let k4:Kept p q s (c++[.lst []]):=I.snoc;let g4:(c++[MO.lst []])[c.length]?=some (.lst []):=by simp
  let hlp:=hp3.lt;let hs3:s.length<=c.length:=I.le;generalize c++[MO.lst []]=s4 at hp4 k4 g4;refine CK (n:=1+mx (bd.un · d) bd.S) (λi l C=>∃x9 u,l=[some (.ref p),some (.ref nb),some (.int m),some (.int k),some (.bl on),some (.int b),some (.tup (bA bd.S λs=>.tup (bA bd.dn λd=>D.tup [.int (bd.nx s d:Nat),.int (bd.un s d:Nat)]))),some (.int d),some (.ref c.length),x9]/\C[c.length]?=some (.lst (u.map eL))/\u.length=i/\(∀g∈u,g < m)/\d_ C p q/\Kept p q s C) (λ_ _ _ _=>trivial) ⟨_,[],rfl,g4,rfl,by simp,hp4,k4⟩ (λRr i l C up hi hW=>?_) (λl C hW=>?_)
  ·let⟨x9,u,el,g,hl,O,G,L⟩:=hW;subst el;let app:∀v B,v < m->d_ B p q->Kept p q C B->∃o:List Nat,(B.set c.length (.lst (u.map eL++[eL v])))[c.length]?=some (.lst (o.map eL))/\o.length=i+1/\(∀g∈o,g < m)/\d_ (B.set c.length (.lst (u.map eL++[eL v]))) p q/\Kept p q s (B.set c.length (.lst (u.map eL++[eL v]))):=λv B U E H=>by
    let Y:B[c.length]?=some (.lst (u.map eL)):=H.same () () g;refine⟨u++[v],by rw[aF (ly Y)];simp,by simp[hl],λx h=>?_,E.put () (),(L.trans H).put hs3⟩;rcases aP.mp h with h|h
    ·exact O x h
    ·rw[aA]at h;rw[h];exact U
   let J:u.length < eV:=sC ();cases on with
   |true=>
    let hkm:=hon rfl;simp![if_true];refine rR G () () λr B I Q E H=>?_;let⟨v,l⟩:=xD I;subst l;let Y:B[c.length]?=some (.lst (u.map eL)):=H.same () () g;let l:D.int ((k:Int)+1+(v:Int))=eL (k+1+v):=by unfold eL;congr 1
    simp![↓fk Y,↓oK Y,af,J,l];let⟨o,z⟩:=app (k+1+v) B () E H;exact up ⟨_,o,rfl,z⟩
   |false=>
    simp![aK,if_false];refine rR G () () λr B I Q E H=>?_;let⟨v,l⟩:=xD I;subst l;let Y:B[c.length]?=some (.lst (u.map eL)):=H.same () () g;simp![↓fk Y,↓oK Y,af,J];let⟨o,z⟩:=app v B () E H;exact up ⟨_,o,rfl,z⟩
  ·let⟨x9,u,el,g,hl,O,G,L⟩:=hW;subst el;simp![↓fk g,l4];exact h (.act b d u) _ ⟨bd,U,hd,hl,O⟩ G L
end
open PySem (Str)
section
variable{p q:Nat}{Q:D->aZ->Prop}
def Uu{H:Nat}{bs:List Bd}{m:Nat}{A:List D->aZ->Prop}(hp:d_ s p q)(hg:s[H]?=some (.lst (bs.map rF)))(G:H≠p)(E:H≠q)(U:bs.length<=7)(Y:∀x∈bs,yR x)(hm:m<=12)(h:∀(g:List Ln)C,g.length=m->(∀l∈g,vt bs m l)->d_ C p q->Kept p q s C->A (g.map qG) C):wp (collect (aS 0) b7 (bJ jz (au (aq 1) (au (aq 2) (au (aq 3) (au (aq 0) (au (aq 4) aX)))))) d6 (bA m λi=>.int i) [none,some (.ref p),some (.ref H),some (.int m),some (.bl on)]) A s:=by
 refine IG (λi u C=>∃g:List Ln,u=g.map qG/\g.length=i/\(∀l∈g,vt bs m l)/\d_ C p q/\Kept p q s C) (λ_ _ _ _=>trivial) ⟨[],rfl,rfl,by simp,hp,Kept.refl⟩ (λRr i u s1 up hi hW=>?_) (λu s1 o=>by let⟨g,Q,O,B,v,I⟩:=o;rw[Q];exact h g s1 O B v I);let⟨g,Q,O,B,v,I⟩:=hW;simp![];refine Qk8 v (I.same G E hg) G E U Y hi hm λln s2 L J k2=>?_;refine up ⟨g++[ln],by rw[Q];simp,by simp[O],λl c=>?_,J,I.trans k2⟩;rcases aP.mp c with c|c
 ·exact B l c
 ·rw[aA]at c;rw[c];exact L
def Qla{r:Nat}(h:r < 8){Q:D->aZ->Prop}(c:∀n:Nat,n<=4->Q (.int n) s):wp (cY [.int 0,.int 1,.int 1,.int 2,.int 2,.int 3,.int 1,.int 4] (r:Int)) Q s:=by have:r=0\/r=1\/r=2\/r=3\/r=4\/r=5\/r=6\/r=7:=(by decide:∀r,r < 8->(r=0\/r=1\/r=2\/r=3\/r=4\/r=5\/r=6\/r=7)) r h;rcases this with e|e|e|e|e|e|e|e<;>subst e<;>rw[uk (i:=_) rfl]<;>first|exact c 0 ()|exact c 1 ()|exact c 2 ()|exact c 3 ()|exact c 4 ()
noncomputable def mS:Nat->Nat
 |0=>4|1=>4|2=>3|_=>2
noncomputable def Rp:Nat->Nat
 |0=>4|1=>4|2=>4|3=>4|_=>3
noncomputable def QC:Nat->Nat
 |0=>3|1=>3|2=>2|3=>2|_=>2
def mL(n c:Nat):Nat:=if n=2 then Rp c else QC c
def Ag{r:Nat}(h:r<=4):r=0\/r=1\/r=2\/r=3\/r=4:=(by decide:∀r,r < 5->(r=0\/r=1\/r=2\/r=3\/r=4)) r (Nat.lt_succ_of_le h)
def VI{r:Nat}(h:r<=4):wp (cY [.int 4,.int 4,.int 3,.int 2,.int 2] (r:Int)) Q s=Q (.int (mS r)) s:=by rcases Ag h with e|e|e|e|e<;>subst e<;>rw[uk (i:=_) rfl]<;>rfl
def To{r:Nat}(h:r<=4):wp (cY [.int 4,.int 4,.int 4,.int 4,.int 3] (r:Int)) Q s=Q (.int (Rp r)) s:=by rcases Ag h with e|e|e|e|e<;>subst e<;>rw[uk (i:=_) rfl]<;>rfl
def Qld{r:Nat}(h:r<=4):wp (cY [.int 3,.int 3,.int 2,.int 2,.int 2] (r:Int)) Q s=Q (.int (QC r)) s:=by rcases Ag h with e|e|e|e|e<;>subst e<;>rw[uk (i:=_) rfl]<;>rfl
def JI{r:Nat}(h:r<=4):1<=mS r/\mS r<=4:=by rcases Ag h with e|e|e|e|e<;>subst e<;>decide
def KC{n r:Nat}(h:r<=4):1<=mL n r/\mL n r<=8:=by unfold mL;split<;>(rcases Ag h with e|e|e|e|e<;>subst e<;>decide)
def Pr(x:Hs):Prop:=gY x/\x.boards.length<=4/\(∀b∈x.boards,b.S<=mS x.boards.length)/\∀y∈x.hands,y.lines.length<=mL x.hands.length x.boards.length
def ZO{w k:Int}{l:Loc}{Q:D->aZ->Prop}(c:l[8]?=some (some (.int w)))(g:l[3]?=some (some (.int k)))(h:∀b,Q (.bl b) s):wp (DG (c2 Cf (aq 8) (aN (.int 2))) (vE (c2 nj (aq 8) (aN (.int 2))) (c2 wZ (aq 3) (aN (.int 0)))) l) Q s:=by
 simp![c,g];by_cases a:w < 2
 ·have:decide (w < 2)=true:=cz a;rw[this];simp only[vy];exact h _
 ·have:decide (w < 2)=false:=bc a;rw[this];simp only[vP];by_cases b:w=2
  ·have:(w == 2)=true:=by simp[b]
   rw[this];simp only[vy];exact h _
  ·have:(w == 2)=false:=by simp[b]
   rw[this];simp only[vP];exact h _
def Qlf(hp:d_ s p q)(h:∀x o,Pr x->d_ o p q->Kept p q s o->Q (fW x) o):wp (jE [.ref p]) Q s:=by
 let l0:0<=eV:=bU _;let l2:2<=eV:=gH ();let l8:8<=eV:=gH ();let l5:5<=eV:=gH ()
 (simp![jE];simp![yb,l0,l8])
 let hp1:d_ (s++[.lst []]) p q:=hp.snoc;let k1:Kept p q s (s++[.lst []]):=Kept.refl.snoc;let g1:(s++[MO.lst []])[s.length]?=some (.lst []):=by simp
 let hlt:=hp.lt;generalize s++[MO.lst []]=s1 at hp1 k1 g1;refine rR hp1 () () λr s2 r0 r1 hp2 k2=>?_;let⟨rn,er⟩:=xD r0;subst er;let g2:s2[s.length]?=some (.lst []):=k2.same () () g1;let k12:=k1.trans k2;simp![];refine Qla () λcnt B=>?_;let iS:∀(Q:D->aZ->Prop)s,wp (cY [.int 4,.int 4,.int 3,.int 2,.int 2] (cnt:Int)) Q s=Q (.int (mS cnt)) s:=λQ s=>VI B;let bS:=JI B;let hb:=vL (show cnt<=100 by ext);simp![hb,bC,ue];refine CK (n:=cnt) (λi l o=>∃x3 x4 bs,l=[some (.ref p),some (.ref s.length),some (.int cnt),x3,x4,none,none,none,none,none,none,none,none]/\o[s.length]?=some (.lst (bs.map rF))/\bs.length=i/\(∀x∈bs,yR x/\x.S<=mS cnt)/\d_ o p q/\Kept p q s o) (λ_ _ _ _=>trivial) ⟨_,_,[],rfl,g2,rfl,by simp,hp2,k12⟩ (λRr i l o up hi hW=>?_) (λl o hW=>?_)
 ·let⟨x3,x4,bs,el,g,hl,J,hp',hk'⟩:=hW;subst el;simp![l5,↓iS];refine Uc (mo:=(mS cnt:Int)) () () hp' λS q nx un s3 ok B hp3 k3=>?_;let w1:wp (gO (nu S q nx un))=λQ s=>Q (.int S) s:=by funext Q s;unfold nu;rw[yz,mH]
  simp![↓w1];let E:=ok.1;let C:=ok.2.1;refine rR hp3 () () λst Y h v hp4 k4=>?_;let⟨c,o⟩:=xD h;subst o;let l:Y[s.length]?=some (.lst (bs.map rF)):=(k3.trans k4).same () () g;let l3:bs.length < eV:=sC ();simp![↓fk l,↓oK l,l2,l3,af];refine up ⟨_,_,bs++[⟨S,q,nx,un,c⟩],rfl,by rw[aF (ly l)];simp[rF,eL],by simp[hl],λx u=>?_,hp4.put () (),((hk'.trans k3).trans k4).put (aw _)⟩;rcases aP.mp u with u|u
  ·exact J x u
  ·rw[aA]at u;rw[u];exact⟨⟨ok,by show c < S;ext⟩,by show S<=mS cnt;ext⟩
 ·let⟨x3,x4,bs,el,g,hl,J,hp',hk'⟩:=hW;subst el;simp![l0];let hp3:d_ (o++[.lst []]) p q:=hp'.snoc;let k3:Kept p q s (o++[.lst []]):=hk'.snoc;let g3:(o++[MO.lst []])[o.length]?=some (.lst []):=by simp
  let g3':(o++[MO.lst []])[s.length]?=some (.lst (bs.map rF)):=by rw[ao (ly g)];exact g
  let hlt':=hp'.lt;let v:=hk'.le;let hgl:=ly g;generalize o++[MO.lst []]=s3 at hp3 k3 g3 g3';refine rR hp3 () () λr3 Y r30 r31 hp4 k4=>?_;let hn:∃n:Nat,(n=2\/n=3)/\(2+(if r3=0 then (1:Int) else 0))=(n:Int):=by
   by_cases e:r3=0
   ·exact⟨3,.inr rfl,by simp[e]⟩
   ·exact⟨2,.inl rfl,by simp[e]⟩
  let⟨n,hn23,en⟩:=hn;let hb:=vL (show n<=100 by ext);obtain⟨mm,LL,gm,hit,hLL⟩:∃(mm:Nat)(LL:List D),(Y++[MO.lst [.int 4,.int 4,.int 4,.int 4,.int 3]]++[MO.lst [.int 3,.int 3,.int 2,.int 2,.int 2]])[mm]?=some (.lst LL)/\(∀(Q:D->aZ->Prop)s,wp (cY [.ref Y.length,.ref (Y++[MO.lst [.int 4,.int 4,.int 4,.int 4,.int 3]]).length] ((n:Int)-2)) Q s=Q (.ref mm) s)/\∀(Q:D->aZ->Prop)s,wp (cY LL (cnt:Int)) Q s=Q (.int (mL n cnt)) s:=by
   rcases hn23 with rfl|rfl
   ·exact⟨_,_,uY pW,λQ s=>by rw[show ((2:Nat):Int)-2=0 from rfl,t5],λQ s=>To B⟩
   ·exact⟨_,_,pW,λQ s=>by rw[show ((3:Nat):Int)-2=1 from rfl,t7],λQ s=>Qld B⟩
  let qm:∀Q,wp (getL mm) Q (Y++[MO.lst [.int 4,.int 4,.int 4,.int 4,.int 3]]++[MO.lst [.int 3,.int 3,.int 2,.int 2,.int 2]])=Q LL _:=λQ=>fk gm;let bL:=KC (n:=n) B;simp![en,l2,l5,↓hit,↓qm,↓hLL];let hp4':d_ (Y++[MO.lst [.int 4,.int 4,.int 4,.int 4,.int 3]]++[MO.lst [.int 3,.int 3,.int 2,.int 2,.int 2]]) p q:=hp4.snoc.snoc;let k4':Kept p q s3 (Y++[MO.lst [.int 4,.int 4,.int 4,.int 4,.int 3]]++[MO.lst [.int 3,.int 3,.int 2,.int 2,.int 2]]):=k4.snoc.snoc;clear gm hit qm;generalize Y++[MO.lst [.int 4,.int 4,.int 4,.int 4,.int 3]]++[MO.lst [.int 3,.int 3,.int 2,.int 2,.int 2]]=s4' at hp4' k4'
  replace k4:=k4'
  let en':(2+(if (r3 == 0)=true then (1:Int) else 0))=(n:Int):=by rw[<- en];simp
  rw[en'];refine rR hp4' () () λway s5 w0 w1 hp5 k5=>?_;simp![en,hb,bC,ue];let g5:s5[o.length]?=some (.lst []):=(k4.trans k5).same () () g3;let g5':s5[s.length]?=some (.lst (bs.map rF)):=(k4.trans k5).same () () g3';let k35:=(k3.trans k4).trans k5;let I:∀x∈bs,yR x:=λx u=>(J x u).1;refine CK (n:=n) (λi l s''=>∃x3 x8 x9 x10 x11 c,l=[some (.ref p),some (.ref s.length),some (.int cnt),x3,x4,some (.ref o.length),some (.int n),some (.int (mL n cnt)),some (.int way),x8,x9,x10,x11]/\s''[o.length]?=some (.lst (c.map np))/\s''[s.length]?=some (.lst (bs.map rF))/\c.length=i/\(∀x∈c,vF bs x/\x.lines.length<=mL n cnt)/\d_ s'' p q/\Kept p q s s'') (λ_ _ _ _=>trivial) ⟨_,_,_,_,_,[],rfl,g5,g5',rfl,by simp,hp5,k35⟩ (λRr i l s6 up hi hW=>?_) (λl s6 hW=>?_)
  ·let⟨x3,x8,x9,x10,x11,c,el,ga,gb,hl2,E,hp6,k6⟩:=hW;subst el
   try simp![]
   refine rR hp6 () () λr U r0 r1 hp7 k7=>?_;let⟨rn,er⟩:=xD r0;subst er;let hm:(1+(rn:Int))=((1+rn:Nat):Int):=by ext
   simp only[↓A6,↓G_,↓uR,↓xY,hm];let hm1:1<=1+rn:=by ext
   let hm8:1+rn<=8:=by ext
   let hmm:1+rn<=mL n cnt:=by ext
   try rw[hm]
   generalize 1+rn=m at hm1 hm8 hmm;refine ZO rfl rfl λon=>?_;let hbm:=vL (show m<=100 by ext);let hlm:m<=eV:=gH ();simp![hbm,bC,ue,mH,hlm,im];refine Uu hp7 (k7.same () () gb) () () () I () λH s8 hll hls hp8 k8=>?_
   try simp![]
   refine rR hp8 () () λv1 s9 v10 v11 hp9 k9=>?_;let⟨L,eb1⟩:=xD v10;subst eb1;simp![l2];refine rR hp9 () () λt sa t0 t1 Q ka=>?_;let l3:c.length < eV:=sC ();let app:∀(h L:Nat)O,h < m->L < m->d_ O p q->Kept p q s6 O->∃v:List Hd,(O.set o.length (.lst (c.map np++[.tup [.tup [.int h,.int L],.tup (H.map qG)]])))[o.length]?=some (.lst (v.map np))/\(O.set o.length (.lst (c.map np++[.tup [.tup [.int h,.int L],.tup (H.map qG)]])))[s.length]?=some (.lst (bs.map rF))/\v.length=i+1/\(∀x∈v,vF bs x/\x.lines.length<=mL n cnt)/\d_ (O.set o.length (.lst (c.map np++[.tup [.tup [.int h,.int L],.tup (H.map qG)]]))) p q/\Kept p q s (O.set o.length (.lst (c.map np++[.tup [.tup [.int h,.int L],.tup (H.map qG)]]))):=λh L O C h1 B J=>by
    let G:O[o.length]?=some (.lst (c.map np)):=J.same () () ga;refine⟨c++[⟨h,L,H⟩],by rw[aF (ly G)];simp[np,eL],by rw[aB ()];exact J.same () () gb,by simp[hl2],λx u=>?_,B.put () (),(k6.trans J).put v⟩;rcases aP.mp u with u|u
    ·exact E x u
    ·rw[aA]at u;rw[u];exact⟨⟨by show h < H.length;ext,by show L < H.length;ext,by show H.length<=12;ext,by show ∀l∈H,vt bs H.length l;rw[hll];exact hls⟩,by show H.length<=mL n cnt;ext⟩
   let g:=((k7.trans k8).trans k9).trans ka;by_cases ht:t=1
   ·subst ht;simp![l2,if_true];refine rR Q () () λv2 O h H B J=>?_;let⟨L,u⟩:=xD h;subst u
    try simp![l2]
    refine rR B () () λU sc Y E l C=>?_;let⟨I,q⟩:=xD Y;subst q;let G:sc[o.length]?=some (.lst (c.map np)):=((g.trans J).trans C).same () () ga;simp![l2,↓fk G,↓oK G,af,l3];let⟨v,z⟩:=app L I sc () () l ((g.trans J).trans C);exact up ⟨_,_,_,_,_,v,rfl,z⟩
   ·let G:sa[o.length]?=some (.lst (c.map np)):=g.same () () ga;simp![l2,↓fk G,↓oK G,af,l3];rw[aD ht];let⟨v,z⟩:=app 0 L sa () () Q g;exact up ⟨_,_,_,_,_,v,rfl,z⟩
  ·let⟨x3,x8,x9,x10,x11,c,el,ga,gb,hl2,E,hp6,k6⟩:=hW;subst el
   try simp![]
   refine rR hp6 () () λt U t0 t1 hp7 k7=>?_;let G:U[o.length]?=some (.lst (c.map np)):=k7.same () () ga;let v:U[s.length]?=some (.lst (bs.map rF)):=k7.same () () gb;by_cases ht:t=0
   ·subst ht;obtain⟨C,g,B⟩:∃C g,c=C::g:=by
     cases c with|nil=>simp at hl2;ext|cons a b=>exact⟨a,b,rfl⟩
    let O:∀Q s,wp (cY (c.map np) 0) Q s=Q (np C) s:=λQ s=>by rw[B,aV,t5]
    let ix:MM.n_ (c.map np).length (-1)=some (c.length-1):=by unfold MM.n_;rw[af,aD (),aH ()];congr 1;ext
    let e9:(c.map np).set (c.length-1) (np C)=(c.set (c.length-1) C).map np:=by rw[vo]
    let ge:∀es,(U.set o.length (MO.lst es))[s.length]?=some (.lst (bs.map rF)):=λes=>by rw[aB ()];exact v
    let Y:∀es,(U.set o.length (MO.lst es))[o.length]?=some (.lst es):=λes=>aF (ly G);let L:∀es Q,wp (getL s.length) Q (U.set o.length (MO.lst es))=Q (bs.map rF) (U.set o.length (MO.lst es)):=λes Q=>fk (ge es);let H:∀es Q,wp (getL o.length) Q (U.set o.length (MO.lst es))=Q es (U.set o.length (MO.lst es)):=λes Q=>fk (Y es);simp![if_true,↓fk G,↓O,↓ul,ix,↓oK G,e9,↓L,↓H,l2];let q:(c.set (c.length-1) C).length=n:=by rw[dq];ext
    let mem:∀x∈c.set (c.length-1) C,vF bs x/\x.lines.length<=mL n cnt:=λx u=>by
     rcases List.mem_or_eq_of_mem_set u with u|u
     ·exact E x u
     ·rw[u];exact E C (by rw[B];simp)
    exact h ⟨bs,c.set (c.length-1) C⟩ _ ⟨⟨by show bs.length<=7;ext,I,by show 2<=(c.set (c.length-1) C).length;ext,by show (c.set (c.length-1) C).length<=3;ext,λx u=>(mem x u).1⟩,by show bs.length<=4;ext,by show ∀b∈bs,b.S<=mS bs.length;rw[hl];exact λb hb=>(J b hb).2,by show ∀y∈c.set (c.length-1) C,y.lines.length<=mL (c.set (c.length-1) C).length bs.length;rw[q,hl];exact λy l=>(mem y l).2⟩ (hp7.put () ()) ((k6.trans k7).put ())
   ·simp![↓fk G,↓fk v,l2];rw[aD ht];exact h ⟨bs,c⟩ _ ⟨⟨by show bs.length<=7;ext,I,by show 2<=c.length;ext,by show c.length<=3;ext,λx u=>(E x u).1⟩,by show bs.length<=4;ext,by show ∀b∈bs,b.S<=mS bs.length;rw[hl];exact λb hb=>(J b hb).2,by show ∀y∈c,y.lines.length<=mL c.length bs.length;rw[hl2,hl];exact λy l=>(E y l).2⟩ hp7 (k6.trans k7)
end
open PySem (Str)
def Nb:((("settle":Str)) == "settle")=true:=by nofun
def LM:((("do":Str)) == "settle")=false:=by nofun
noncomputable def cQ(h:Hs)(s:Sd)(k:Nat):Ln:=((h.hands[k]?.bind λhd=>s.ls[k]?.bind λl=>hd.lines[l]?)).getD (.settle 0)
def kq(h:Hs)(s:Sd)(k:Nat):Sd:=match cQ h s k with
 | .settle _=>s
 | .act b d gs=>match h.boards[b]?,s.ss[b]? with|some bd,some x=>⟨s.ls.set k ((gs[bd.un x d]?).getD 0),s.ss.set b (bd.nx x d)⟩|_,_=>s
section
variable{p q:Nat}{st:Sd}
def Nh{xs:List Nat}{i x:Nat}(h:xs[i]?=some x):wp (cY (xs.map eL) (i:Int)) Q s=Q (.int (x:Nat)) s:=uk (by rw[av,h];rfl)
def Kc{k:Nat}(hh:gY h)(v:io h st)(B:k < h.hands.length):∃hd l,h.hands[k]?=some hd/\st.ls[k]?=some l/\l < hd.lines.length/\hd.lines[l]?=some (cQ h st k)/\vt h.boards hd.lines.length (cQ h st k):=by
 let c:h.hands[k]?=some h.hands[k]:=ae B;let o:k < st.ls.length:=by rw[v.1];exact B
 let u:st.ls[k]?=some st.ls[k]:=ae o;let g:=v.2.2.1 k _ _ c u;let E:h.hands[k].lines[st.ls[k]]?=some (h.hands[k].lines[st.ls[k]]):=ae g;let C:cQ h st k=h.hands[k].lines[st.ls[k]]:=by unfold cQ;rw[c,u];simp only[Option.bind_some,E,iC]
 refine⟨_,_,c,u,g,by rw[E,C],?_⟩;rw[C];exact (hh.2.2.2.2 _ (ax c)).2.2.2 _ (bo g)
def IS{k:Nat}(hh:gY h)(u:io h st)(v:k < h.hands.length):wp (je [fW h,dI st,.int k]) Q s=Q (qG (cQ h st k)) s:=by
 let⟨hd,l,E,C,G,B,_⟩:=Kc hh u v;let o:∀Q s,wp (cY (h.hands.map np) (k:Int)) Q s=Q (.tup [.tup [eL hd.b0,eL hd.b1],.tup (hd.lines.map qG)]) s:=λQ s=>uk (by rw[av,E];rfl);let g:∀Q s,wp (cY (st.ls.map eL) (k:Int)) Q s=Q (.int (l:Nat)) s:=λQ s=>Nh C;let c:∀Q s,wp (cY (hd.lines.map qG) (l:Int)) Q s=Q (qG (cQ h st k)) s:=λQ s=>uk (by rw[av,B];rfl)
 (simp![je];simp![yl,fW,dI,↓o,↓g,↓c])
def Q4{b d:Nat}{m:Nat}(hh:gY h)(B:io h st)(E:vt h.boards m (.act b d v)):∃bd x g,h.boards[b]?=some bd/\st.ss[b]?=some x/\x < bd.S/\d < bd.dn/\v[bd.un x d]?=some g/\g < m/\bd.nx x d < bd.S/\uI bd.S bd.dn bd.nx bd.un:=by
 let⟨bd,c,hd,G,o⟩:=E;let H:=(ac.mp c).1;let u:b < st.ss.length:=by rw[B.2.1];exact H
 let C:st.ss[b]?=some st.ss[b]:=ae u;let l:=B.2.2.2 b bd _ c C;let⟨ok,_⟩:=hh.2.1 bd (ax c);let hu:bd.un st.ss[b] d < v.length:=by rw[G];have:bd.un st.ss[b] d<=mx (bd.un · d) bd.S:=MJ (f:=(bd.un · d)) l;ext
 exact⟨bd,_,_,c,C,l,hd,ae hu,o _ (bo hu),(ok.2.2.2.2 _ _ l hd).1,ok⟩
def EG{a:CE}{lo g:CO}{l:Loc}: wp (kh a lo g l) Q s=wp (a l) (λx s1=>wp (lo l) (λi s2=>wp (g l) (λj c=>match x with
  | .tup ds=>Q (.tup (cutD ds i j)) c
  |_=>False) s2) s1) s:=by
 unfold kh;rw[d8];congr 1;funext x s1;rw[d8];congr 1;funext i s2;rw[d8];congr 1;funext j c;cases x<;>first|bv_omega
def Gk{i:Nat}:cutD xs none (some (i:Int))=xs.take i:=by
 unfold cutD gU;simp only[bC];rw[aD (),mz];by_cases h:i<=xs.length
 ·rw[oB h,rB]
 ·rw[Nat.min_eq_right (),rB,eK,g_ ()]
def Qe{xs:List D}{i:Nat}(o:i < xs.length)(B:xs.length<=100):wp (jn [.tup xs,.int i,v]) Q s=Q (.tup (xs.set i v)) s:=by
 let u:cutD xs (some ((i:Int)+1)) none=xs.drop (i+1):=by
  unfold cutD gU;have:(if (i:Int)+1 < 0 then ((i:Int)+1+(xs.length:Int)).toNat else min ((i:Int)+1).toNat xs.length)=i+1:=by rw[aD ()];ext
  simp only[this];exact g_ (by rw[gK];exact aw _)
 let l:1<=eV:=gH ();let g:(xs.take i).length+1<=eV:=gH (by rw[bB];ext);let c:(xs.take i++[v]).length+(xs.drop (i+1)).length<=eV:=gH (by rw[aC,bB,gK];simp;ext)
 (simp![jn];simp![yj,↓EG,Gk,u,l,g])
 rw[List.set_eq_take_append_cons_drop,aH o];have:xs.take i++[v]++xs.drop (i+1)=xs.take i++v::xs.drop (i+1):=by simp
 rw[this];exact propext ⟨λz=>z.2,λz=>⟨c,z⟩⟩
def PL{b d k:Nat}{x g:Nat}(e:cQ h st k=.act b d c)(u:h.boards[b]?=some bd)(o:st.ss[b]?=some x)(l:c[bd.un x d]?=some g):kq h st k=⟨st.ls.set k g,st.ss.set b (bd.nx x d)⟩:=by unfold kq;rw[e];dsimp only;rw[u,o];dsimp only;rw[l];rfl
def Qu{v k:Nat}(e:cQ h st k=.settle v):kq h st k=st:=by unfold kq;rw[e]
def Ld{k:Nat}(hh:gY h)(o:io h st)(O:k < h.hands.length):io h (kq h st k):=by
 let⟨hd,l,e1,Q,hl,e3,ok⟩:=Kc hh o O;cases el:cQ h st k with|settle v=>rw[Qu el];exact o|act b d gs=>
  rw[el]at ok;let⟨bd,x,g,L,J,f3,f4,q,Y,U,f8⟩:=Q4 hh o ok;rw[PL el L J q];refine⟨by show (st.ls.set k g).length=_;rw[dq];exact o.1,by show (st.ss.set b _).length=_;rw[dq];exact o.2.1,λu B I a1 G=>?_,λE C H a1 G=>?_⟩
  ·let c:(st.ls.set k g)[u]?=some I:=G;by_cases e:k=u
   ·subst e;rw[e1]at a1;cases a1;rw[aF (ac.mp Q).1]at c;cases c;exact Y
   ·rw[aB e]at c;exact o.2.2.1 u B I a1 c
  ·let c:(st.ss.set b (bd.nx x d))[E]?=some H:=G;by_cases e:b=E
   ·subst e;rw[L]at a1;cases a1;rw[aF (ac.mp J).1]at c;cases c;exact U
   ·rw[aB e]at c;exact o.2.2.2 E C H a1 c
def TW{bd:Bd}{x d:Nat}(c:x < bd.S)(hd:d < bd.dn):wp (js [nu bd.S bd.dn bd.nx bd.un,.int x,.int d]) Q s=Q (.int (bd.nx x d:Nat)) s:=by (simp![js];simp![j3,nu,↓yN c,↓yN hd])
def ZZ{bd:Bd}{x d:Nat}(c:x < bd.S)(hd:d < bd.dn):wp (jO [nu bd.S bd.dn bd.nx bd.un,.int x,.int d]) Q s=Q (.int (bd.un x d:Nat)) s:=by (simp![jO];simp![yp,nu,↓yN c,↓yN hd])
def Oy{k:Nat}(hh:gY h)(c:io h st)(u:k < h.hands.length):wp (jr [fW h,dI st,.int k]) Q s=Q (dI (kq h st k)) s:=by
 let⟨hd,l,e1,e2,hl,e3,ok⟩:=Kc hh c u;let w:∀Q s,wp (je [fW h,dI st,.int k]) Q s=Q (qG (cQ h st k)) s:=λQ s=>IS hh c u;cases el:cQ h st k with
 |settle v=>
  rw[Qu el];rw[el]at w;simp only[qG]at w
  (simp![jr];simp![yd,↓w,Nb])
 |act b d gs=>
  rw[el]at ok w;let⟨bd,x,g,U,C,O,L,J,f6,f7,f8⟩:=Q4 hh c ok;rw[PL el U C J];simp only[qG]at w;let o:k < (st.ls.map eL).length:=by rw[af,c.1];exact u
  let B:b < (st.ss.map eL).length:=by rw[af];exact (ac.mp C).1
  let z1:=c.1;let z2:=c.2.1;let z3:=hh.1;let z4:=hh.2.2.2.1;let w1:∀Q s,wp (cY (h.boards.map rF) (b:Int)) Q s=Q (.tup [nu bd.S bd.dn bd.nx bd.un,eL bd.st]) s:=λQ s=>uk (by rw[av,U];rfl);let I:∀Q s,wp (cY (st.ss.map eL) (b:Int)) Q s=Q (.int (x:Nat)) s:=λQ s=>Nh C;let H:∀Q s,wp (cY (gs.map eL) ((bd.un x d:Nat):Int)) Q s=Q (.int (g:Nat)) s:=λQ s=>Nh J;let q:∀Q s,wp (jO [nu bd.S bd.dn bd.nx bd.un,.int x,.int d]) Q s=Q (.int (bd.un x d:Nat)) s:=λQ s=>ZZ O L;let Y:∀Q s,wp (js [nu bd.S bd.dn bd.nx bd.un,.int x,.int d]) Q s=Q (.int (bd.nx x d:Nat)) s:=λQ s=>TW O L;let G:∀Q s,wp (jn [.tup (st.ls.map eL),.int k,.int g]) Q s=Q (.tup ((st.ls.map eL).set k (.int g))) s:=λQ s=>Qe o (by rw[af];ext);let E:∀Q s,wp (jn [.tup (st.ss.map eL),.int b,.int (bd.nx x d:Nat)]) Q s=Q (.tup ((st.ss.map eL).set b (.int (bd.nx x d:Nat)))) s:=λQ s=>Qe B (by rw[af];ext);let l2:2<=eV:=gH ();unfold eL at w;let nd:∀n:Nat,D.int (n:Int)=eL n:=λ_=>rfl
  (simp![jr];simp![yd,↓w,LM,aK,if_false])
  unfold fW dI;unfold eL at I H G E ⊢;simp![↓w1,↓I,↓H,↓q,↓Y,↓G,↓E,l2];rw[vo,vo]
end
open PySem (Str)
noncomputable def pM:Nat->List (List D)
 |0=>[[]]|n+1=>((pM n).map λx=>x++[.int 0])++((pM n).map λx=>x++[.int 1])
noncomputable def km:Nat->List (List D)
 |0=>[[]]|n+1=>((km n).map λx=>.int 0::x)++((km n).map λx=>.int 1::x)
theorem Nt:∀n,∀x∈pM n,x.length=n
 |0,x,h=>by simp[pM]at h;simp[h]|n+1,x,h=>by simp only[pM,aP,bH]at h;rcases h with ⟨y,c,e⟩|⟨y,c,e⟩<;>rw[<- e]<;>simp[Nt n y c]
theorem QT:∀n,(pM n).length=2^n
 |0=>rfl|n+1=>by simp only[pM,aC,af,QT n,rC];ext
theorem RP:∀n,(km n).length=2^n
 |0=>rfl|n+1=>by simp only[km,aC,af,RP n,rC];ext
theorem xJ:∀n,∀x∈km n,x.length=n/\∀(k:Nat)d,x[k]?=some d->d=.int 0\/d=.int 1
 |0,x,h=>by simp[km]at h;simp[h]
 |n+1,x,h=>by
  simp only[km,aP,bH]at h;rcases h with ⟨y,c,e⟩|⟨y,c,e⟩
  ·let⟨a,b⟩:=xJ n y c;rw[<- e];refine⟨by simp[a],λk d hd=>?_⟩;cases k with|zero=>exact .inl (by simpa using hd.symm)|succ k=>exact b k d (by simpa using hd)
  ·let⟨a,b⟩:=xJ n y c;rw[<- e];refine⟨by simp[a],λk d hd=>?_⟩;cases k with|zero=>exact .inr (by simpa using hd.symm)|succ k=>exact b k d (by simpa using hd)
theorem Wd:uN ((pM 2).map D.tup)=some ((km 2).map D.tup):=by rfl
theorem VU:uN ((pM 3).map D.tup)=some ((km 3).map D.tup):=by rfl
section
variable{s:aZ}{Q:D->aZ->Prop}{h:Hs}
def Qh{xs:List (List D)}{v:Int}{n:Nat}(g:s[n]?=some (.lst (xs.map D.tup)))(q:∀x∈xs,x.length<=100):wp (collect (aS 0) b7 (c2 fF (aq 0) (c8 (au (aN (.int v)) aX))) (gw n (xs.map D.tup)) (xs.map D.tup) [none]) A s=A ((xs.map λx=>x++[.int v]).map D.tup) s:=by
 let o:1<=eV:=gH ();have:=@A3 (c2 fF (aq 0) (c8 (au (aN (.int v)) aX))) (gw n (xs.map D.tup)) (xs.map D.tup) [] (λi=>.tup ((xs.getD i [])++[.int v])) A s g (λi d hd Q=>by
  rw[av]at hd;cases ex:xs[i]? with|none=>rw[ex]at hd;cases hd|some x=>
   rw[ex]at hd;let B:d=.tup x:=(aM hd).symm;subst B;let l:x.length+1<=eV:=gH (by have:=q x (ax ex);ext);let u:xs.getD i []=x:=by rw[eY,ex];rfl
   simp![o,l,u])
 rw[this,af];congr 1;symm;apply Ck
 ·simp
 ·intro i c;rw[av,av,ae c];simp[c]
def Ri(Y:h.hands.length=2\/h.hands.length=3)(U:∀r c,s.length<=r->c[r]?=some (.lst ((km h.hands.length).map D.tup))->eJ s c->Q (.ref r) c):wp (jl [fW h]) Q s:=by
 let L:0<=eV:=bU _;let J:1<=eV:=gH ()
 (simp![jl];simp![j2,fW,L,J])
 refine vp (λi l c=>∃n B,l=[some (.tup [.tup (h.boards.map rF),.tup (h.hands.map np)]),some (.ref n),B]/\c[n]?=some (.lst ((pM i).map D.tup))/\eJ s c) (λ_ _ _ _=>trivial) ⟨_,_,rfl,by simp[pM],(eJ.refl _).snoc _⟩ (λRw i d l c up rt hd C=>?_) (λl c C=>?_)
 ·let⟨n,B,el,g,ex⟩:=C;subst el;let h:=(ac.mp hd).1;rw[af]at h;let L:=QT i;let Q:2^i<=8:=by
   have:i<=3:=by ext
   calc 2^i<=2^3:=Nat.pow_le_pow_right () this
    _=8:=rfl
  let o:∀x∈pM i,x.length<=100:=λx O=>by have:=Nt i x O;ext
  let G:(pM i).length<=eV:=gH ();let l:∀A,wp (collect (aS 0) b7 (c2 fF (aq 0) (c8 (au (aN (.int 0)) aX))) (gw n ((pM i).map D.tup)) ((pM i).map D.tup) [none]) A c=A (((pM i).map λx=>x++[.int 0]).map D.tup) c:=λA=>Qh g o;simp![↓fk g,im,af,G,↓l];let u:eJ c (c++[.lst (((pM i).map λx=>x++[.int 0]).map D.tup)]):=(eJ.refl _).snoc _;let I:(c++[MO.lst (((pM i).map λx=>x++[.int 0]).map D.tup)])[c.length]?=some (.lst (((pM i).map λx=>x++[.int 0]).map D.tup)):=by simp
  generalize c++[MO.lst (((pM i).map λx=>x++[.int 0]).map D.tup)]=q at u I;let E:∀A,wp (collect (aS 0) b7 (c2 fF (aq 0) (c8 (au (aN (.int 1)) aX))) (gw n ((pM i).map D.tup)) ((pM i).map D.tup) [none]) A q=A (((pM i).map λx=>x++[.int 1]).map D.tup) q:=λA=>Qh (u.at_ g) o;simp![↓fk (u.at_ g),im,af,G,↓E];let v:eJ q (q++[.lst (((pM i).map λx=>x++[.int 1]).map D.tup)]):=(eJ.refl _).snoc _;let H:(q++[MO.lst (((pM i).map λx=>x++[.int 1]).map D.tup)])[q.length]?=some (.lst (((pM i).map λx=>x++[.int 1]).map D.tup)):=by simp
  generalize q++[MO.lst (((pM i).map λx=>x++[.int 1]).map D.tup)]=J at v H;rw[Yv (v.at_ I) H];refine⟨gH (by simp;ext),?_⟩;simp![];refine up ⟨_,_,rfl,?_,((ex.trans u).trans v).snoc _⟩;simp[pM]
 ·let⟨n,B,el,g,ex⟩:=C;subst el;rw[af]at g;let ks:uN ((pM h.hands.length).map D.tup)=some ((km h.hands.length).map D.tup):=by
   rcases Y with e|e<;>rw[e]
   ·exact Wd
   ·exact VU
  let ws:∀Q,wp (pC (.ref n)) Q c=Q (.ref c.length) (c++[.lst ((km h.hands.length).map D.tup)]):=λQ=>by unfold pC;rw[d8,fk g,ks];dsimp only;rw[gZ]
  simp![↓ws];exact U _ _ ex.le (by simp) (ex.snoc _)
noncomputable def bf(h:Hs)(row:List D)(k:Nat):Nat:=match h.hands[k]?,row[k]? with|some hd,some (.int v)=>if v=0 then hd.b0 else hd.b1|_,_=>0
noncomputable def DE(h:Hs)(k:Nat):Nat:=(h.boards[k]?.map (·.st)).getD 0
def fZ(h:Hs)(row:List D):Sd:=⟨bA h.hands.length (bf h row),bA h.boards.length (DE h)⟩
def DT{row:List D}(hh:gY h)(C:row∈km h.hands.length):io h (fZ h row):=by
 let⟨B,c⟩:=xJ _ row C;refine⟨mH,mH,λk hd l a1 q=>?_,λb bd x a1 q=>?_⟩
 ·let⟨E,el⟩:=DQ q;let⟨v,g,_⟩:=hh.2.2.2.2 hd (ax a1);let o:k < row.length:=by ext
  let u:row[k]?=some row[k]:=ae o;rw[el];unfold bf;rcases c k _ u with e|e<;>rw[a1,u,e]
  ·exact v
  ·exact g
 ·let⟨E,el⟩:=DQ q;let⟨_,g⟩:=hh.2.1 bd (ax a1);rw[el];unfold DE;rw[a1];exact g
def Yq{row:List D}{k:Nat}{Q:D->aZ->Prop}(u:row∈km h.hands.length)(B:k < h.hands.length):∃(hd:Hd)(v:Int),h.hands[k]?=some hd/\row[k]?=some (.int v)/\(v=0/\bf h row k=hd.b0\/v=1/\bf h row k=hd.b1):=by
 let⟨q,g⟩:=xJ _ row u;let l:h.hands[k]?=some h.hands[k]:=ae B;let o:k < row.length:=by ext
 let c:row[k]?=some row[k]:=ae o;rcases g k _ c with e|e<;>rw[e]at c
 ·exact⟨_,0,l,c,.inl ⟨rfl,by unfold bf;rw[l,c];rfl⟩⟩
 ·exact⟨_,1,l,c,.inr ⟨rfl,by unfold bf;rw[l,c];rfl⟩⟩
end
open PySem (Str)
def UU{g:CG}{t:CT}{e:CE}{same:aZ->Prop}{ds:List D}{f:Nat->D}{p:Nat->Bool}(I:Loc->Prop)(hs:same s)(h0:I H)(h:∀i d l,ds[i]?=some d->I l->∃u,(∀G,wp (g d l) G s=G u s)/\I u/\(∀T,wp (t u) T s=T (p i) s)/\∀Q,wp (e u) Q s=Q (f i) s):wp (collect g t e same ds H) Q s=Q (((bT ds.length).filter p).map f) s:=by
 let chk:∀{R:Unit->aZ->Prop},R Unit.unit s->wp (chkS same) R s:=λr=>by rw[sM];unfold chkS;rw[aH hs];exact r
 apply Pu;refine Lg (Q:=λc q=>c=((bT ds.length).filter p).map f/\q=s) (λc xs l q=>∃i,xs=ds.drop i/\i<=ds.length/\I l/\c=((bT i).filter p).map f/\q=s) (λc l q C=>?_) (λc d xs l q C=>?_) ds [] _ s ⟨0,by simp,bU _,h0,rfl,rfl⟩
 ·let⟨i,v,hi,_,B,es⟩:=C;have:i=ds.length:=by have:=c_ d7 v;simp at this;ext
  subst this;subst es;exact chk ⟨B,rfl⟩
 ·let⟨i,v,hi,c,B,es⟩:=C;let o:i < ds.length:=by have:=c_ d7 v;simp at this;ext
  rw[dZ o]at v;let⟨g,L⟩:=oC v;let⟨u,Y,E,O,U⟩:=h i d l (by rw[g];exact ae o) c;subst es;refine chk ?_;rw[Y,O];cases J:p i with
  |true=>
   rw[aH rfl,U];exact⟨i+1,L,o,E,by rw[B,ij,mE,bw];simp[J],rfl⟩
  |false=>
   rw[aD (by simp)];exact⟨i+1,L,o,E,by rw[B,ij,mE,bw];simp[J],rfl⟩
def sN:Ln->D
 | .settle v=>eL v| .act _ _ _=>.non
noncomputable def oV:Ln->Bool
 | .settle _=>false| .act _ _ _=>true
def Fz(h:Hs)(st:Sd):List D:=bA h.hands.length λk=>sN (cQ h st k)
def Bg(h:Hs)(st:Sd)(n:Nat):List D:=((bT n).filter λk=>oV (cQ h st k)).map λk=>.int (k:Nat)
section
variable{h:Hs}{st:Sd}
def X_:wp (jp [qG c]) Q s=Q (sN c) s:=by
 cases c with|settle v=>(simp![jp];simp![jU,qG,sN,Nb,if_true])|act b d gs=>(simp![jp];simp![jU,qG,sN,LM,aK,if_false])
def O6:wp (aW (fW h) (.int 1)) Q s=Q (.tup (h.hands.map np)) s:=by unfold fW;rw[ud,t7]
def ZR(hh:gY h)(q:io h st):wp (jJ [fW h,dI st]) Q s=Q (.tup (Fz h st)) s:=by
 let B:=hh.2.2.2.1;let v:=vL (show h.hands.length<=100 by ext);let o:h.hands.length<=eV:=gH ();let l:∀Q s,wp (aW (fW h) (.int 1)) Q s=Q (.tup (h.hands.map np)) s:=λQ s=>O6;let w:∀A s,wp (collect (aS 0) b7 (bJ jp (au (bJ je (au (aq 1) (au (aq 2) (au (aq 0) aX)))) aX)) d6 (bA h.hands.length λi=>.int i) [none,some (fW h),some (dI st)]) A s=A (Fz h st) s:=λA s=>yE vN λk u Q=>by have g:∀Q s,wp (je [fW h,dI st,.int k]) Q s=Q (qG (cQ h st k)) s:=λQ s=>IS hh q u;have c:∀Q s,wp (jp [qG (cQ h st k)]) Q s=Q (sN (cQ h st k)) s:=λQ s=>X_;simp![↓g,↓c]
 (simp![jJ];simp![yn,↓l,af,v,im,bC,ue,mH,o,↓w])
def Z7{c:Ln}{T:Bool->aZ->Prop}: wp (sP (sN c) .non) (λx g=>match x with
  | .bl b=>T b g
  |_=>False) s=T (oV c) s:=by
 cases c<;>(unfold sN oV eL sP Gc;rw[cF])
def wq(hh:gY h)(o:io h st):wp (jZ [fW h,dI st]) Q s=Q (.ref s.length) (s++[.lst (Bg h st h.hands.length)]):=by
 let u:=hh.2.2.2.1;let g:h.hands.length<=eV:=gH ();let ws:∀Q s,wp (jJ [fW h,dI st]) Q s=Q (.tup (bA h.hands.length λk=>sN (cQ h st k))) s:=λQ s=>ZR hh o;let w:∀A s,wp (collect (gI 2 (cL (aS 0) (cL (aS 1) g8))) (cX (c2 sP (aq 1) (aN .non))) (aq 0) d6 (bA h.hands.length λi=>.tup [.int i,sN (cQ h st i)]) [none,none]) A s=A (Bg h st h.hands.length) s:=λA s=>by
  rw[UU (f:=λk=>.int (k:Nat)) (p:=λk=>oV (cQ h st k)) (λl=>∃x y,l=[x,y]) vN ⟨_,_,rfl⟩ (λi d l hd c=>by
   let⟨x,y,el⟩:=c;let⟨v,q⟩:=DQ hd;refine⟨[some (.int i),some (sN (cQ h st i))],λG=>?_,⟨_,_,rfl⟩,λT=>?_,λQ=>?_⟩
   ·rw[q,el,vA,pA,ia,pA,ia,vw];exact propext ⟨λh=>h.2,λh=>⟨rfl,h⟩⟩
   ·simp only[↓Be,↓E7,↓lN,↓wc,nK,List.getElem?_cons_succ];exact Z7
   ·simp only[↓lN,nK]),mH]
  rfl
 (simp![jZ];simp![yt,↓ws,mH,Yi,im,g,↓w])
def TK{row:List D}(l:row∈km h.hands.length):wp (collect (gI 2 (cL (aS 0) (cL (aS 1) g8))) b7 (c2 aW (c2 aW (aq 0) (aN (.int 0))) (aq 1)) d6 ((h.hands.map np).zipWith (λp q=>D.tup [p,q]) row) [none,none]) A s=A (bA h.hands.length λk=>eL (bf h row k)) s:=by
 let⟨u,g⟩:=xJ _ row l;let c:((h.hands.map np).zipWith (λp q=>D.tup [p,q]) row).length=h.hands.length:=by rw[iQ,af];ext
 rw[Cp (f:=λk=>eL (bf h row k)) (caps:=[]) vN (λi d hd=>by
  let B:i < h.hands.length:=by rw[<- c];exact (ac.mp hd).1
  let⟨C,v,H,G,E⟩:=Yq (Q:=λ_ _=>True) l B;rw[d9,av,H,G]at hd;refine⟨_,_,(aM hd).symm,λQ=>?_⟩;rcases E with ⟨e,o⟩|⟨e,o⟩<;>subst e<;>rw[o]<;>simp![np]),c]
def Eg{row:List D}(hh:gY h)(v:row∈km h.hands.length):wp (jd [fW h,.tup row]) Q s=Q (dI (fZ h row)) s:=by
 let⟨J,u⟩:=xJ _ row v;let U:=hh.1;let O:=hh.2.2.2.1;let H:2<=eV:=gH ();let G:h.boards.length<=eV:=gH ();let E:((h.hands.map np).zipWith (λp q=>D.tup [p,q]) row).length<=eV:=gH (by rw[iQ,af];ext);let c : ∀{a b : CE}{I : Wk -> aZ -> Prop}{l : Loc}{s : aZ}, wp (qH a b l) I s = wp (a l) (λx o => wp (b l) (λy g => match x, y with
   | .tup ds,.tup es=>I ⟨ds.zipWith (λp q=>.tup [p,q]) es,d6⟩ g
   |_,_=>False) o) s:=λ{a b I l s}=>by
  unfold qH;rw[d8];congr 1;funext x o;rw[d8];congr 1;funext y g;cases x<;>cases y<;>first|exact cF|exact ib|exact wa rfl|exact cU rfl
 let C:∀A s,wp (collect (gI 2 (cL (aS 0) (cL (aS 1) g8))) b7 (c2 aW (c2 aW (aq 0) (aN (.int 0))) (aq 1)) d6 ((h.hands.map np).zipWith (λp q=>D.tup [p,q]) row) [none,none]) A s=A (bA h.hands.length λk=>eL (bf h row k)) s:=λA s=>TK v;let B:∀A s,wp (collect (gI 2 (cL (aS 0) (cL (aS 1) g8))) b7 (aq 1) d6 (h.boards.map rF) [none,none]) A s=A (bA h.boards.length λk=>eL (DE h k)) s:=λA s=>by
  rw[Cp (f:=λk=>eL (DE h k)) (caps:=[]) vN (λi d hd=>by
   rw[av]at hd;cases ex:h.boards[i]? with|none=>rw[ex]at hd;cases hd|some x=>
    rw[ex]at hd;let L:DE h i=x.st:=by unfold DE;rw[ex];rfl
    refine⟨_,_,(aM hd).symm,λQ=>?_⟩;rw[L];simp![]),af]
 (simp![jd];simp![yq,fW,↓c,im,E,↓C,af,G,↓B,H])
 unfold dI fZ;dsimp only;rw[Pt,Pt]
end
open PySem (Str)
noncomputable def xL(h:Hs):List Nat:=h.hands.map (·.lines.length)++h.boards.map (·.S)
def pv(h:Hs):Prop:=gY h/\pr (xL h)<=324
section
variable{h:Hs}
def Am(h:Hs)(st:Sd):Nat:=qh (xL h) (st.ls++st.ss)
def Xk:(xL h).length=h.hands.length+h.boards.length:=by unfold xL;simp
def DX{st:Sd}(g:io h st):(st.ls++st.ss).length=(xL h).length/\∀(i b x:Nat),(xL h)[i]?=some b->(st.ls++st.ss)[i]?=some x->x < b:=by
 refine⟨by rw[Xk,aC,g.1,g.2.1],λi b x c l=>?_⟩;unfold xL at c;by_cases o:i < h.hands.length
 ·rw[ao (by rw[af];exact o),av]at c;rw[ao (by rw[g.1];exact o)]at l;cases e:h.hands[i]? with|none=>rw[e]at c;cases c|some y=>rw[e]at c;cases c;exact g.2.2.1 i y x e l
 ·rw[aE (by rw[af];ext),av,af]at c;rw[aE (by rw[g.1];ext),g.1]at l;cases e:h.boards[i-h.hands.length]? with|none=>rw[e]at c;cases c|some y=>rw[e]at c;cases c;exact g.2.2.2 _ y x e l
def QlO{st:Sd}(g:pv h)(c:io h st):Am h st < 324:=
 bb (Ig (DX c).1 (DX c).2) g.2
def ZV(q:pv h)(g:io h a)(c:io h b)(e:Am h a=Am h b):a=b:=by have:=Nv (DX g).1 (DX c).1 (DX g).2 (DX c).2 e;let⟨o,l⟩:=List.append_inj this (by rw[g.1,c.1]);cases a;cases b;simp only at o l;rw[o,l]
theorem Iv{α β:Type}{f:α->β}:∀{l:List α},l.Nodup->(∀a∈l,∀b∈l,f a=f b->a=b)->(l.map f).Nodup
 |[],_,_=>tY|x::xs,hn,hi=>by let⟨v,u⟩:=lG.mp hn;rw[aV];refine lG.mpr ⟨λg=>?_,Iv u λa q b o=>hi a (by simp[q]) b (by simp[o])⟩;let⟨y,c,e⟩:=bH.mp g;have:=hi y (by simp[c]) x (by simp) e;exact v (this ▸ c)
def few{l:List Sd}(o:pv h)(u:l.Nodup)(c:∀x∈l,io h x):l.length<=324:=by
 have:=A0 324 (l.map (Am h)) (Iv u λa g b v e=>ZV o (c a g) (c b v) e) (λx q=>by let⟨a,g,e⟩:=bH.mp q;rw[<- e];exact QlO o (c a g))
 rwa [af]at this
def yD(st:Sd):oY true (dI st)=true:=UZ st.ls st.ss
def Gn(a b:Sd):oM (dI a) (dI b)=decide (a=b):=by
 have:=R4 a.ls a.ss b.ls b.ss
 show oM (dI a) (dI b)=_;unfold dI;refine this.trans ?_;cases a;cases b;simp only[Sd.mk.injEq,oq]
end
noncomputable def gP(xs:List Sd)(x:Sd):List Sd:=if x∈xs then xs else xs++[x]
def gB(h:Hs)(st:Sd):List Nat:=(bT h.hands.length).filter λk=>oV (cQ h st k)
def pP(h:Hs)(x:Sd)(ks:List Nat)(xs:List Sd):List Sd:=ks.foldl (λys k=>gP ys (kq h x k)) xs
def nt(h:Hs)(rows:List (List D)):List Sd:=rows.foldl (λys row=>gP ys (fZ h row)) []
def dh(h:Hs):Nat->List Sd
 |0=>nt h (km h.hands.length)
 |i+1=>match (dh h i)[i]? with|some x=>pP h x (gB h x) (dh h i)|none=>dh h i
def Good(h:Hs)(xs:List Sd):Prop:=xs.Nodup/\∀x∈xs,io h x
section
variable{h:Hs}
def OG(g:Good h xs)(l:io h x):Good h (gP xs x):=by
 unfold gP;by_cases e:x∈xs
 ·rw[aH e];exact g
 ·rw[aD e];refine⟨c7.mpr ⟨g.1,by simp,λa q b o=>?_⟩,λy c=>?_⟩
  ·rw[aA.mp o];exact λz=>e (z ▸ q)
  ·rcases aP.mp c with c|c
   ·exact g.2 y c
   ·rw[aA.mp c];exact l
theorem K0(hh:gY h)(c:io h x):∀{ks:List Nat}{xs:List Sd},(∀k∈ks,k < h.hands.length)->Good h xs->Good h (pP h x ks xs)
 |[],_,_,g=>g|k::ks,xs,hk,g=>K0 hh c (ks:=ks) (λy l=>hk y (by simp[l])) (OG g (Ld hh c (hk k (by simp))))
theorem LJ(hh:gY h):∀{rows:List (List D)}{xs:List Sd},(∀r∈rows,r∈km h.hands.length)->Good h xs->Good h (rows.foldl (λys row=>gP ys (fZ h row)) xs)
 |[],_,_,g=>g|r::rows,xs,hr,g=>LJ hh (rows:=rows) (λy c=>hr y (by simp[c])) (OG g (DT hh (hr r (by simp))))
def Ao{st:Sd}{k:Nat}(c:k∈gB h st):k < h.hands.length:=bY.mp (ig.mp c).1
theorem v9(hh:gY h):∀i,Good h (dh h i)
 |0=>LJ hh (λr c=>c) ⟨tY,by simp⟩
 |i+1=>by
  let g:=v9 hh i;unfold dh;cases e:(dh h i)[i]? with|none=>exact g|some x=>exact K0 hh (g.2 x (ax e)) (λk l=>Ao l) g
def OP(xs:List Sd)(x:Sd):∃t,gP xs x=xs++t:=by
 unfold gP;by_cases e:x∈xs
 ·exact⟨[],by rw[aH e];simp⟩
 ·exact⟨[x],by rw[aD e]⟩
theorem LU:∀(ks:List Nat)(xs:List Sd),∃t,pP h x ks xs=xs++t
 |[],xs=>⟨[],by simp[pP]⟩
 |k::ks,xs=>by
  let⟨t,e⟩:=OP xs (kq h x k);let⟨u,f⟩:=LU (x:=x) ks (gP xs (kq h x k));refine⟨t++u,?_⟩
  show pP h x ks (gP xs (kq h x k))=_;rw[f,e,br]
def H_(i:Nat):∃t,dh h (i+1)=dh h i++t:=by
 show ∃t,(match (dh h i)[i]? with
  |some x=>pP h x (gB h x) (dh h i)
  |none=>dh h i)=_
 cases (dh h i)[i]? with|none=>exact⟨[],by simp⟩|some x=>exact LU _ _
def PY{i j:Nat}(c:i<=j):(dh h i).length<=(dh h j).length:=by
 induction j with|zero=>cases xB.mp c;exact aw _|succ j ih=>
  by_cases e:i=j+1
  ·subst e;exact aw _
  ·let⟨t,g⟩:=H_ (h:=h) j;rw[g,aC];have:=ih ();ext
def so(h:Hs)(i:Nat):Prop:=∀j,j < i->j < (dh h j).length
def lL(h:Hs)(i:Nat):Prop:=so h i/\(dh h i).length<=i
def lL.uniq{i j:Nat}(a:lL h i)(b:lL h j):i=j:=by
 rcases rD i j with e|e|e
 ·have:=b.1 i e;have:=a.2;ext
 ·exact e
 ·have:=a.1 j e;have:=b.2;ext
def B5(c:pv h){i:Nat}(g:so h i):(dh h i).length<=324/\i<=324:=by
 let l:=few c (v9 c.1 i).1 (v9 c.1 i).2;refine⟨l,?_⟩;cases i with|zero=>ext|succ i=>
  have:=g i ();have:=PY (h:=h) (show i<=i+1 by ext);ext
end
open PySem (Str)
section
variable{no nd:Nat}
def Tw{ks:List Nat}{j k:Nat}(e:ks[j]?=some k):pP h x (ks.take (j+1)) xs=gP (pP h x (ks.take j) xs) (kq h x k):=by let⟨c,g⟩:=ac.mp e;rw[kF c,g];unfold pP;rw[m5];rfl
def Ql4{rows:List (List D)}{j:Nat}(e:rows[j]?=some r):nt h (rows.take (j+1))=gP (nt h (rows.take j)) (fZ h r):=by let⟨c,g⟩:=ac.mp e;rw[kF c,g];unfold nt;rw[m5];rfl
end
open PySem (Str)
section
variable{s u:aZ}{Q:D->aZ->Prop}{h:Hs}{no nd:Nat}{xs:List Sd}
def PV{a b c:CE}: wp (pN a b c l) Q s=wp (a l) (λx q=>match x with
  | .dic n=>wp (getDc n) (λp o=>p.1=true/\wp (b l) (λy g=>wp (c l) (λz v=>wp (mv n y z) Q v) g) o) q
  |_=>False) s:=by
 unfold pN;rw[d8];refine nG λx q=>?_;cases x with
 |dic n=>
  dsimp only;rw[d8];refine nG λp o=>?_;rw[fA,d8];refine c_ _ (nG λy g=>?_);rw[d8]
 |_=>exact wa rfl
def Wv{n:Nat}(g:s[n]?=some (.dct true c))(q:oY true k=true)(o:c.length < eV)(e:m_ c k=some d):wp (mv n k v) Q s=Q d s:=by unfold mv;rw[d8,zx g,fA];dsimp only;rw[e];dsimp only;rw[cF];exact propext ⟨λz=>z.2,λz=>⟨⟨rfl,q,o⟩,z⟩⟩
def UN{n:Nat}(g:s[n]?=some (.dct true c))(q:oY true k=true)(o:c.length < eV)(e:m_ c k=none):wp (mv n k v) Q s=Q v (s.set n (.dct true (mK c k v))):=by unfold mv;rw[d8,zx g,fA];dsimp only;rw[e];dsimp only;rw[d8,O3 g,cF];exact propext ⟨λz=>z.2,λz=>⟨⟨rfl,q,o⟩,z⟩⟩
def Wy{n:Nat}(g:s[n]?=some (.dct true c)):wp (qc (.dic n)) Q s=Q (.ref s.length) (s++[.lst (c.map (·.1))]):=by unfold qc;dsimp only;rw[d8,zx g,fA,gZ];exact propext ⟨λz=>z.2,λz=>⟨rfl,z⟩⟩
noncomputable def uO:Nat->List (List D)
 |0=>[[]]|n+1=>(uO n).flatMap λx=>[x++[.int 0],x++[.int 1]]
def WN{n:Nat}(c:n=2\/n=3):uO n=km n:=by rcases c with rfl|rfl<;>rfl
theorem PZ:∀n,∀x∈uO n,x.length=n
 |0,x,h=>by simp[uO]at h;simp[h]|n+1,x,h=>by let⟨y,c,e⟩:=nM.mp h;have:=PZ n y c;simp at e;rcases e with e|e<;>rw[e]<;>simp[this]
theorem RD:∀n,(uO n).length=2^n
 |0=>rfl
 |n+1=>by
  have:∀l:List (List D),(l.flatMap λx=>[x++[D.int 0],x++[D.int 1]]).length=2*l.length:=by
   intro l
   induction l with|nil=>rfl|cons a t ih=>rw[qV,aC,ih,b8];simp;ext
  show ((uO n).flatMap _).length=_;rw[this,RD n,rC];ext
def WC(hh:gY h)(hq:∀r u,s.length<=r->u[r]?=some (.lst ((km h.hands.length).map D.tup))->eJ s u->Q (.ref r) u):wp (jG [fW h]) Q s:=by
 let hn:h.hands.length=2\/h.hands.length=3:=by have:=hh.2.2.1;have:=hh.2.2.2.1;ext
 let U:1<=eV:=gH ();let wh:∀(Q:D->aZ->Prop)s,wp (aW (fW h) (.int 1)) Q s=Q (.tup (h.hands.map np)) s:=λQ s=>O6
 (simp![jG];simp![j6,bU,U,↓wh])
 refine vp (λi l u=>∃(n:Nat)(L J o:Option D),l=[some (fW h),some (.ref n),L,J,o]/\s.length<=n/\u[n]?=some (.lst ((uO i).map D.tup))/\eJ s u) (λ_ _ _ _=>trivial)
  ⟨_,_,_,_,rfl,aw _,pW,(eJ.refl _).snoc _⟩ (λRw1 i d l u up1 rt1 hd q=>?_) (λl u q=>?_)
 ·let⟨n,L,J,o,el,G,g,ex⟩:=q;subst el;let hi:=(ac.mp hd).1;rw[af]at hi;let hi3:i < 3:=by ext
  let hcn:=RD i;let hp:2^i<=8:=by rcases (show i=0\/i=1\/i=2 by ext) with rfl|rfl|rfl<;>decide
  let Y:(u++[MO.lst []])[n]?=some (.lst ((uO i).map D.tup)):=uY g;let lnn:=ly g;simp![bU,↓fk Y];refine vp (λj l v=>∃o,l=[some (fW h),some (.ref n),some d,some (.ref u.length),o]/\v[n]?=some (.lst ((uO i).map D.tup))/\v[u.length]?=some (.lst ((((uO i).take j).flatMap λx=>[x++[.int 0],x++[.int 1]]).map D.tup))/\eJ s v) (λ_ _ _ w=>by let⟨_,_,g,_⟩:=w;exact g)
   ⟨_,rfl,Y,pW,ex.snoc _⟩ (λRw2 j e l v O rt2 H q=>?_) (λl v q=>?_)
  ·let⟨o,el,g1,c,B⟩:=q;subst el;rw[av]at H;cases I:(uO i)[j]? with|none=>rw[I]at H;cases H|some row=>
    rw[I]at H;let ed:e=.tup row:=(aM H).symm;subst ed;let⟨hj,e2⟩:=ac.mp I;let hrl:=PZ i row (ax I);let h:(uO i).take (j+1)=(uO i).take j++[row]:=by rw[kF hj,e2]
    generalize E:((uO i).take j).flatMap (λx=>[x++[D.int 0],x++[D.int 1]])=ys at c;let Y:ys.length<=16:=by
     have:∀l:List (List D),(l.flatMap λx=>[x++[D.int 0],x++[D.int 1]]).length=2*l.length:=by
      intro l
      induction l with|nil=>rfl|cons a t ih=>rw[qV,aC,ih,b8];simp;ext
     rw[<- E,this,bB];ext
    let g:∀es,(v.set u.length (MO.lst es))[u.length]?=some (.lst es):=λes=>aF (ly c);let J:∀es Q,wp (getL u.length) Q (v.set u.length (MO.lst es))=Q es (v.set u.length (MO.lst es)):=λes Q=>fk (g es);let G:∀es C Q,wp (putL u.length C) Q (v.set u.length (MO.lst es))=Q Unit.unit ((v.set u.length (MO.lst es)).set u.length (.lst C)):=λes C Q=>oK (g es);let L:row.length+1<=eV:=gH ();simp![U,L,↓fk c,↓oK c,↓J,↓G,aC,af,b8,fU];let hu:=ex.le;refine⟨sC (),sC (),O ⟨_,rfl,?_,?_,(B.put hu).put hu⟩⟩
    ·rw[aB (),aB ()];exact g1
    ·rw[aF (by rw[dq];exact ly c),h,xC,E];simp
  ·let⟨o,el,g1,c,B⟩:=q;subst el;rw[af,eK]at c;simp![];exact up1 ⟨_,_,_,_,rfl,by have:=ex.le;ext,c,B⟩
 ·let⟨n,L,J,o,el,G,g,ex⟩:=q;subst el;rw[af,WN hn]at g;simp![];exact hq n u G g ex
def qK:List Sd->Nat->List (D×D)
 |[],_=>[]|x::xs,i=>(dI x,eL i)::qK xs (i+1)
theorem Es:∀(xs:List Sd)(i:Nat),m_ (qK xs i) (dI y)=if y∈xs then some (eL (i+xs.idxOf y)) else none
 |[],i=>rfl
 |x::xs,i=>by
  let c:=Es (y:=y) xs (i+1);unfold m_ at c ⊢;rw[qK,c5];dsimp only;rw[Gn];by_cases e:x=y
  ·subst e;simp
  ·let o:¬ y=x:=λz=>e z.symm;simp only[bc e];rw[c,lJ];have:(x == y)=false:=by simp[e]
   rw[this];simp only[aR,o,false_or,cond_false];by_cases g:y∈xs
   ·simp only[g,if_true];congr 2;ext
   ·simp only[g,if_false]
theorem QD:∀(xs:List Sd)(i:Nat),qK (xs++[y]) i=qK xs i++[(dI y,eL (i+xs.length))]
 |[],i=>rfl|x::xs,i=>by rw[kY,qK,qK,QD xs (i+1),kY,b8,show i+1+xs.length=i+(xs.length+1) by ext]
theorem Mk:∀(xs:List Sd)(i:Nat),(qK xs i).length=xs.length
 |[],i=>rfl|x::xs,i=>by rw[qK,b8,Mk xs,b8]
theorem QE:∀(xs:List Sd)(i:Nat),(qK xs i).map (·.1)=xs.map dI
 |[],i=>rfl|x::xs,i=>by rw[qK,aV,QE xs,aV]
def QZ(q:y∉xs):mK (qK xs 0) (dI y) (eL xs.length)=qK (xs++[y]) 0:=by
 let c:=Es (y:=y) xs 0;rw[aD q]at c;let v:((qK xs 0).any λp=>oM p.1 (dI y))=false:=by
  cases e:(qK xs 0).any λp=>oM p.1 (dI y) with|false=>rfl|true=>
   let⟨p,o,g⟩:=iI.mp e;have:((qK xs 0).find? λp=>oM p.1 (dI y)).isSome=true:=List.find?_isSome.mpr ⟨p,o,g⟩;unfold m_ at c;rw[Option.map_eq_none_iff]at c;rw[c]at this;cases this
 unfold mK;rw[v,aD (by simp),QD,HF]
theorem MP:∀{xs t:List Sd},y∈xs->(xs++t).idxOf y=xs.idxOf y
 |x::xs,t,hy=>by
  rw[kY,lJ,lJ];by_cases e:x=y
  ·subst e;simp
  ·have:(x == y)=false:=by simp[e]
   rw[this];simp only[cond_false];rw[MP (by rcases aR.mp hy with z|z;exact bh z.symm e;exact z)]
def row(h:Hs)(x:Sd)(ks:List Nat)(xs:List Sd):List D:=ks.map λk=>.tup [eL k,eL (xs.idxOf (kq h x k))]
def XH{ks:List Nat}(g:∀k∈ks,kq h x k∈xs):row h x ks (xs++t)=row h x ks xs:=by unfold row;refine cJ λk c=>?_;rw[MP (g k c)]
def Fn(s:aZ)(no nd:Nat)(xs:List Sd)(u:aZ):Prop:=u[nd]?=some (.dct true (qK xs 0))/\u[no]?=some (.lst (xs.map dI))/\eJ s u
def Fn.ext(f:Fn s no nd xs u)(x:eJ u u'):Fn s no nd xs u':=⟨x.at_ f.1,x.at_ f.2.1,f.2.2.trans x⟩
def RZ:x∈gP xs x:=by
 unfold gP;by_cases e:x∈xs
 ·rw[aH e];exact e
 ·rw[aD e];simp
def WO(c:y∈xs):y∈pP h x ks xs:=by let⟨t,e⟩:=LU (h:=h) (x:=x) ks xs;rw[e];exact bz _ c
theorem Ih{k:Nat}:∀{ks:List Nat}{xs:List Sd},k∈ks->kq h x k∈pP h x ks xs
 |j::ks,xs,c=>by
  show _∈pP h x ks (gP xs (kq h x j));rcases aR.mp c with e|c
  ·subst e;exact WO RZ
  ·exact Ih c
def Sz{st:Sd}{R:uU->aZ->Prop}(C:no≠nd)(q:s.length<=no)(B:s.length<=nd)(I:Fn s no nd xs u)(hl:xs.length<=400)(J:∀u',Fn s no nd (gP xs st) u'->(∀n,n≠no->n≠nd->u'[n]?=u[n]?)->R (.next [a,b,some (.ref no),some (.dic nd),G,E,some (dI st)]) u'):wp (mr (cX (c2 qY (aq 6) (aq 3))) (aO (cn (kB (aq 3) (aq 6)) (c1 gO (aq 2))) (aO (kH (e_ (aq 2) (aq 6))) aU)) aU [a,b,some (.ref no),some (.dic nd),G,E,some (dI st)]) R u:=by
 let⟨o,g,H⟩:=I;let h:∀Q,wp (hasK nd (dI st)) Q u=Q (m_ (qK xs 0) (dI st)).isSome u:=λQ=>LA o (yD st);simp![↓h,Es];by_cases c:st∈xs
 ·rw[aH c];simp![gW,dS,aK,if_false];refine J u ?_ λ_ _ _=>rfl;unfold gP;rw[aH c];exact⟨o,g,H⟩
 ·rw[aD c];let Y:∀v Q,wp (storeK nd (dI st) v) Q u=Q Unit.unit (u.set nd (.dct true (mK (qK xs 0) (dI st) v))):=λv Q=>Ls o (yD st) (sC (by rw[Mk];ext));let L:∀v,(u.set nd (MO.dct true (mK (qK xs 0) (dI st) v)))[no]?=some (.lst (xs.map dI)):=λv=>by rw[aB ()];exact g
  let U:∀v Q,wp (getL no) Q (u.set nd (MO.dct true (mK (qK xs 0) (dI st) v)))=Q (xs.map dI) (u.set nd (MO.dct true (mK (qK xs 0) (dI st) v))):=λv Q=>fk (L v);let O:∀v es Q,wp (putL no es) Q (u.set nd (MO.dct true (mK (qK xs 0) (dI st) v)))=Q Unit.unit ((u.set nd (MO.dct true (mK (qK xs 0) (dI st) v))).set no (.lst es)):=λv es Q=>oK (L v);simp![gX,fO,if_true,↓fk g,↓Y,↓U,↓O,af];refine⟨sC (),J _ ?_ λn h l=>by rw[aB (ff h),aB (ff l)]⟩;unfold gP;rw[aD c];refine⟨?_,?_,(H.put B).put q⟩
  ·rw[aB C,aF (ly o)];have:=QZ c;unfold eL at this;rw[this]
  ·rw[aF (by rw[dq];exact ly g),bw];rfl
def PX(hh:gY h):(gB h x).length<=3:=by let c:=hh.2.2.2.1;have:=oD (λk=>oV (cQ h x k)) (bT h.hands.length);rw[List.length_range]at this;unfold gB;ext
def ZY(hc:pv h)(Y:io h x)(gx:Good h xs)(hne:no≠nd)(hso:s.length<=no)(hsd:s.length<=nd)(I:Fn s no nd xs u)(hq:∀u',Fn s no nd (pP h x (gB h x) xs) u'->u'[u.length]?=some (.lst (row h x (gB h x) (pP h x (gB h x) xs)))->(∀n,n < u.length->n≠no->n≠nd->u'[n]?=u[n]?)->Q (.ref u.length) u'):wp (jA [fW h,dI x,.ref no,.dic nd]) Q u:=by
 let hh:=hc.1;let l2:2<=eV:=gH ();let wf:∀(Q:D->aZ->Prop)s,wp (jZ [fW h,dI x]) Q s=Q (.ref s.length) (s++[.lst ((gB h x).map λk=>.int (k:Nat))]):=λQ s=>wq hh Y;let G:(u++[MO.lst []]++[MO.lst ((gB h x).map λk=>.int (k:Nat))])[(u++[MO.lst []]).length]?=some (.lst ((gB h x).map λk=>.int (k:Nat))):=pW;let qf:∀Q,wp (getL (u++[MO.lst []]).length) Q (u++[MO.lst []]++[MO.lst ((gB h x).map λk=>.int (k:Nat))])=Q ((gB h x).map λk=>.int (k:Nat)) (u++[MO.lst []]++[MO.lst ((gB h x).map λk=>.int (k:Nat))]):=λQ=>fk G
 (simp![jA];simp![j1,bU,↓wf,↓qf])
 let xu:eJ u (u++[MO.lst []]++[MO.lst ((gB h x).map λk=>.int (k:Nat))]):=((eJ.refl _).snoc _).snoc _;let gs:(u++[MO.lst []]++[MO.lst ((gB h x).map λk=>.int (k:Nat))])[u.length]?=some (.lst []):=uY pW;let lf:u.length < (u++[MO.lst []]).length:=by simp
 let lnd:nd < u.length:=ly I.1;let lno:no < u.length:=ly I.2.1;let f0:=I.ext xu;let k0:∀n,n < u.length->n≠no->n≠nd->(u++[MO.lst []]++[MO.lst ((gB h x).map λk=>.int (k:Nat))])[n]?=u[n]?:=λn hn _ _=>by rw[ao (by rw[aC];ext),ao hn]
 clear qf wf;generalize (u++[MO.lst []]).length=nr at G lf;generalize u++[MO.lst []]++[MO.lst ((gB h x).map λk=>.int (k:Nat))]=u0 at G gs f0 k0;refine vp (λj l v=>∃(L J:Option D),l=[some (fW h),some (dI x),some (.ref no),some (.dic nd),some (.ref u.length),L,J]/\v[nr]?=some (.lst ((gB h x).map λk=>.int (k:Nat)))/\v[u.length]?=some (.lst (row h x ((gB h x).take j) (pP h x ((gB h x).take j) xs)))/\Fn s no nd (pP h x ((gB h x).take j) xs) v/\∀n,n < u.length->n≠no->n≠nd->v[n]?=u[n]?) (λ_ _ _ w=>by let⟨_,_,_,g,_⟩:=w;exact g)
  ⟨_,_,rfl,G,gs,f0,k0⟩ (λRw3 j d l v O rt3 hd hW=>?_) (λl v hW=>?_)
 ·let⟨L,J,el,g1,H,f,U⟩:=hW;subst el;rw[av]at hd;cases B:(gB h x)[j]? with|none=>rw[B]at hd;cases hd|some k=>
   rw[B]at hd;let ed:d=.int (k:Nat):=(aM hd).symm;subst ed;let g:=Ao (ax B);let hj:=(ac.mp B).1;let hj3:=PX hh (x:=x);let wb:∀(Q:D->aZ->Prop)s,wp (jr [fW h,dI x,.int k]) Q s=Q (dI (kq h x k)) s:=λQ s=>Oy hh Y g;let gd:=K0 hh Y (λk g=>Ao (lD g)) gx (ks:=(gB h x).take j);let hl2:=few hc gd.1 gd.2;let l:∀E∈(gB h x).take j,kq h x E∈pP h x ((gB h x).take j) xs:=λE o=>Ih o;let v:=Tw (h:=h) (xs:=xs) (x:=x) B;let tk:(gB h x).take (j+1)=(gB h x).take j++[k]:=by rw[mF,B];rfl
   let G:(row h x ((gB h x).take j) (pP h x ((gB h x).take j) xs)).length<=3:=by unfold row;rw[af,bB];ext
   generalize pP h x ((gB h x).take j) xs=ys at *;simp only[↓EN];rw[uR];simp only[↓xY,↓yY,↓yL,↓Bf,↓GY,↓AD,↓GS,↓wb,↓Fq];rw[uR];refine Sz hne hso hsd f () λv2 f2 c=>?_;let q:v2[u.length]?=some (.lst (row h x ((gB h x).take j) ys)):=by rw[c _ () ()];exact H
   let⟨b1,b2,b4⟩:=id f2;let C:=Es (y:=kq h x k) (gP ys (kq h x k)) 0;rw[aH RZ,HF]at C;let q1:∀Q,wp (itemK nd (dI (kq h x k))) Q v2=Q (eL ((gP ys (kq h x k)).idxOf (kq h x k))) v2:=λQ=>DM b1 (yD _) C;simp![l2,↓q1,↓fk q,↓oK q];let⟨t,et⟩:=OP ys (kq h x k);let er:row h x ((gB h x).take j) ys++[.tup [.int (k:Nat),eL ((gP ys (kq h x k)).idxOf (kq h x k))]]=row h x ((gB h x).take (j+1)) (gP ys (kq h x k)):=by rw[tk];unfold row;rw[bw];congr 1;refine cJ λE o=>?_;rw[et,MP (l E o)]
   refine⟨sC (),O ⟨_,_,rfl,?_,?_,?_,λn hn h1 I=>?_⟩⟩
   ·rw[aB (),c _ () ()];exact g1
   ·rw[aF (ly q),er,v]
   ·rw[v];let c:s.length<=u.length:=by ext
    exact⟨by rw[aB ()];exact b1,by rw[aB ()];exact b2,b4.put c⟩
   ·rw[aB (),c n h1 I];exact U n hn h1 I
 ·let⟨L,J,el,g1,H,f,U⟩:=hW;subst el;rw[af,eK]at f H;simp![];exact hq v f H U
end
open PySem (Str)
section
variable{s u:aZ}{Q:D->aZ->Prop}{h:Hs}{no nd:Nat}
def TX{i:Int}:wp (mw (.int i) .non) Q s=Q (.bl true) s:=cU rfl
def Im(h:Hs)(lo no nd c:Nat)(ys:List Sd)(rs:List D)(u:aZ):Prop:=∀(j:Nat)(d:D),rs[j]?=some d->∃(r:Nat)(x:Sd),d=.ref r/\lo<=r/\r≠no/\r≠nd/\r≠c/\ys[j]?=some x/\u[r]?=some (.lst (row h x (gB h x) ys))/\∀k∈gB h x,kq h x k∈ys
def Vt{J most:Nat}(Y:pv h)(gf:s[J]?=some (.lst (((km h.hands.length).map (fZ h)).map dI)))(hm:∀i,so h i->(dh h i).length<=most)(hq:∀i no nd q rs u,lL h i->u[no]?=some (.lst ((dh h i).map dI))->s.length<=no->u[q]?=some (.lst rs)->rs.length=i->s.length<=q->Im h s.length no nd q (dh h i) rs u->eJ s u->Q (.tup [.ref no,.ref q]) u):wp (jC [fW h,.ref J,.int most]) Q s:=by
 let hh:=Y.1;let hn:h.hands.length=2\/h.hands.length=3:=by have:=hh.2.2.1;have:=hh.2.2.2.1;ext
 let l2:2<=eV:=gH ();let lnf:=ly gf
 (simp![jC];simp![jY,↓fk (uY gf)])
 refine vp (λi l u=>∃(O:Option D),l=[some (fW h),some (.ref J),some (.int most),some (.dic s.length),O,none,none]/\u[J]?=some (.lst (((km h.hands.length).map (fZ h)).map dI))/\u[s.length]?=some (.dct true (qK (nt h ((km h.hands.length).take i)) 0))/\eJ s u) (λ_ _ _ w=>by let⟨_,_,g,_⟩:=w;exact g)
  ⟨_,rfl,uY gf,pW,(eJ.refl _).snoc _⟩ (λRw1 i d l u up1 rt1 hd L=>?_) (λl u L=>?_)
 ·let⟨O,el,g1,o,ex⟩:=L;subst el;rw[av,av]at hd;cases l:(km h.hands.length)[i]? with|none=>rw[l]at hd;cases hd|some row=>
   rw[l]at hd;let ed:d=dI (fZ h row):=(aM hd).symm;subst ed;let E:Good h (nt h ((km h.hands.length).take i)):=LJ hh (λr I=>lD I) ⟨tY,by simp⟩;let hl:=few Y E.1 E.2;let q:=Ql4 (h:=h) l;generalize nt h ((km h.hands.length).take i)=fs at *;let G:=Mk fs 0;let C:∀(Q:D->aZ->Prop),wp (gO (.dic s.length)) Q u=Q (eL fs.length) u:=λQ=>by rw[NV o,G];rfl
   let B:=Es (y:=fZ h row) fs 0;by_cases c:fZ h row∈fs
   ·rw[aH c]at B;let g:∀v Q,wp (mv s.length (dI (fZ h row)) v) Q u=Q _ u:=λv Q=>Wv o (yD _) (sC ()) B;simp![↓PV,↓zx o,↓C,↓g];refine up1 ⟨_,rfl,g1,?_,ex⟩;rw[q];unfold gP;rw[aH c];exact o
   ·rw[aD c]at B;let g:∀v Q,wp (mv s.length (dI (fZ h row)) v) Q u=Q v (u.set s.length (.dct true (mK (qK fs 0) (dI (fZ h row)) v))):=λv Q=>UN o (yD _) (sC ()) B;simp![↓PV,↓zx o,↓C,↓g,QZ c];refine up1 ⟨_,rfl,by rw[aB ()];exact g1,?_,ex.put (aw _)⟩;rw[aF (ly o),q];unfold gP;rw[aD c]
 ·let⟨O,el,g1,o,ex⟩:=L;subst el;rw[af,af,eK]at o;let qk:∀(Q:D->aZ->Prop),wp (qc (.dic s.length)) Q u=Q (.ref u.length) (u++[.lst ((dh h 0).map dI)]):=λQ=>by rw[Wy o,QE];rfl
  simp![bU,↓qk];let lu:=ex.le;let f0:Fn s u.length s.length (dh h 0) (u++[MO.lst ((dh h 0).map dI)]++[MO.lst []]):=⟨uY (uY o),uY pW,(ex.snoc _).snoc _⟩
  let g3:(u++[MO.lst ((dh h 0).map dI)]++[MO.lst []])[(u++[MO.lst ((dh h 0).map dI)]).length]?=some (.lst []):=pW;let l3:u.length < (u++[MO.lst ((dh h 0).map dI)]).length:=by simp
  let l4:=ly o;clear qk;generalize (u++[MO.lst ((dh h 0).map dI)]).length=q at g3 l3;generalize u++[MO.lst ((dh h 0).map dI)]++[MO.lst []]=u0 at g3 f0;generalize u.length=no at *;refine C1 (λl v=>∃(i:Nat)(rs:List D),l=[some (fW h),some (.ref J),some (.int most),some (.dic s.length),O,some (.ref no),some (.ref q)]/\so h i/\Fn s no s.length (dh h i) v/\v[q]?=some (.lst rs)/\rs.length=i/\Im h s.length no s.length q (dh h i) rs v)
   (λ(_:Loc)(v:aZ)=>match (v[q]?:Option MO) with
    |some (.lst rs)=>1000-rs.length
    |_=>0) ⟨0,[],rfl,λj U=>bh U (),f0,g3,rfl,λj d hd=>by simp at hd⟩ (λRw2 l v B rt2 L=>?_)
  let⟨i,rs,el,go,f,H,I,st⟩:=L;subst el;let⟨hl,hi⟩:=B5 Y go;let hmo:=hm i go;let gl:v[no]?=some (.lst ((dh h i).map dI)):=f.2.1;simp![↓fk gl,↓fk H,af];by_cases G:i < (dh h i).length
  ·rw[aH ()];let E:(dh h i)[i]?=some (dh h i)[i]:=ae G;let O:=(v9 hh i).2 _ (bo G);let c:dh h (i+1)=pP h (dh h i)[i] (gB h (dh h i)[i]) (dh h i):=by
    show (match (dh h i)[i]? with
     |some x=>pP h x (gB h x) (dh h i)
     |none=>dh h i)=_
    rw[E]
   let⟨t,g⟩:=H_ (h:=h) i;generalize (dh h i)[i]=x at E O c;let J:∀(Q:D->aZ->Prop)s,wp (cY ((dh h i).map dI) (rs.length:Nat)) Q s=Q (dI x) s:=λQ s=>uk (by rw[av,I,E];rfl);simp![↓TX,↓fk gl,↓fk H,↓J,af];rw[aD ()]
   try simp![↓fk gl,↓fk H,↓J,af]
   refine ZY Y O (v9 hh i) () () (aw _) f λv2 f2 gv L=>?_;let l:=ly H;let C:v2[q]?=some (.lst rs):=by rw[L q l () ()];exact H
   simp![↓fk C,↓oK C];let lvo:=ly gl;let lvd:=ly f.1;refine⟨sC (),B ⟨i+1,_,rfl,λj U=>?_,?_,aF (ly C),by simp[I],λj d hd=>?_⟩ ?_⟩
   ·by_cases e:j=i
    ·subst e;exact G
    ·exact go j ()
   ·rw[c];let⟨l,h,g⟩:=f2;exact⟨by rw[aB ()];exact l,by rw[aB ()];exact h,g.put ()⟩
   ·by_cases U:j < rs.length
    ·rw[ao U]at hd;let⟨r,y,ed,H,G,C,B,q,l,h⟩:=st j d hd;refine⟨r,y,ed,H,G,C,B,?_,?_,λk o=>?_⟩
     ·rw[g,ao (ac.mp q).1];exact q
     ·rw[aB (ff B),L r (ly l) G C,g,XH h];exact l
     ·rw[g];exact bz _ (h k o)
    ·let u : j = rs.length := by have:=(ac.mp hd).1;rw[aC]at this;simp at this;ext
     subst u;rw[aE (aw _),eE]at hd;cases hd;refine⟨v.length,x,rfl,by ext,by ext,by ext,by ext,?_,?_,λk o=>?_⟩
     ·rw[g,ao (),I];exact E
     ·rw[aB (),c];exact gv
     ·rw[c];exact Ih o
   ·rw[aF (ly C),H];simp only[aC,kU];ext
  ·rw[aD ()];simp![l2];exact hq i _ _ _ _ _ ⟨go,by ext⟩ gl () H I () st f.2.2
def UL{r:Nat}(hh:gY h)(g:u[r]?=some (.lst ((km h.hands.length).map D.tup)))(A:List D->aZ->Prop):wp (collect (aS 0) b7 (bJ jd (au (aq 1) (au (aq 0) aX))) (gw r ((km h.hands.length).map D.tup)) ((km h.hands.length).map D.tup) [none,some (fW h)]) A u=A (((km h.hands.length).map (fZ h)).map dI) u:=by
 rw[A3 (f:=λk=>((((km h.hands.length).map (fZ h)).map dI)[k]?).getD .non) (show gw r _ u from g) (λk d hd Q=>by
  rw[av]at hd;cases c:(km h.hands.length)[k]? with|none=>rw[c]at hd;cases hd|some row=>
   rw[c]at hd;let v:d=.tup row:=(aM hd).symm;subst v;let q:∀(Q:D->aZ->Prop)s,wp (jd [fW h,.tup row]) Q s=Q (dI (fZ h row)) s:=λQ s=>Eg hh (ax c);rw[av,av,c];simp![↓q,dR,iC])]
 congr 1;rw[af];apply eW;intro k;by_cases o:k < (km h.hands.length).length
 ·rw[vJ o,av,av,ae o];rfl
 ·rw[bX (by rw[mH];ext),bX (by rw[af,af];ext)]
def IE{most:Nat}(q:pv h)(I:∀i,so h i->(dh h i).length<=most)(E:∀i no nd c rs u,lL h i->u[no]?=some (.lst ((dh h i).map dI))->s.length<=no->u[c]?=some (.lst rs)->rs.length=i->s.length<=c->Im h s.length no nd c (dh h i) rs u->eJ s u->Q (.tup [.ref no,.ref c]) u):wp (jq [fW h,.int most]) Q s:=by
 let hh:=q.1
 (simp![jq];simp![yf])
 refine WC hh λr u hr g ex=>?_;let w:=λA=>UL hh g A;let C:(km h.hands.length).length<=eV:=gH (by rw[RP];have l:=hh.2.2.1;have Y:=hh.2.2.2.1;rcases (show h.hands.length=2\/h.hands.length=3 by ext) with e|e<;>rw[e]<;>decide)
 simp![↓fk g,im,↓w,af,C];refine Vt q pW I λi no nd c rs v st L H J o G B O=>?_;simp![];let l1:=ex.le;let l2:=(ex.snoc (.lst (((km h.hands.length).map (fZ h)).map dI))).le;refine E i no nd c rs v st L () J o () (λj d hd=>?_) ((ex.snoc _).trans O);let⟨r,x,U,e1,e⟩:=B j d hd;exact⟨r,x,U,by ext,e⟩
end
open PySem (Str)
inductive Rc(E:Nat->List (Nat×Nat)):Nat->Nat->Prop
 |refl (x:Nat):Rc E x x|step {x y:Nat}{p:Nat×Nat} (h:p∈E x) (r:Rc E p.2 y):Rc E x y
section
variable{E:Nat->List (Nat×Nat)}{n:Nat}{F P G:List Nat}{x y z:Nat}
def Rc.trans(a:Rc E x y)(b:Rc E y z):Rc E x z:=by
 induction a with|refl=>exact b|step h _ ih=>exact .step h (ih b)
def Rc.snoc(a:Rc E x y)(h:p∈E y):Rc E x p.2:=a.trans (.step h (.refl _))
noncomputable def FO(E:Nat->List (Nat×Nat))(F:List Nat):Prop:=∀(i x:Nat),F[i]?=some x->∀a∈F.take (i+1),∀p∈E a,p.2∈F.take (i+1)\/Rc E p.2 x
structure DI(n:Nat)(E:Nat->List (Nat×Nat))(F P G:List Nat):Prop where
 nd:(F++P).Nodup
 lt:∀x∈F++P,x < n
 len:G.length=P.length
 cl:∀a∈F,∀p∈E a,p.2∈F++P
 pg:∀(j x g:Nat),P[j]?=some x->G[j]?=some g->g<=(E x).length/\∀p∈(E x).take g,p.2∈F++P
 ch:∀(i j x y:Nat),i<=j->P[i]?=some x->P[j]?=some y->Rc E x y
 fo:FO E F
def Mn:(F++(P++[x])).Perm (F++[x]++P):=by rw[br];exact List.Perm.append_left F (List.perm_append_comm)
def DI.fin(I:DI n E F (P++[x]) (G++[(E x).length])):DI n E (F++[x]) P G:=by
 let v:=Mn (F:=F) (P:=P) (x:=x);let u:∀y,y∈F++(P++[x])->y∈F++[x]++P:=λy l=>v.mem_iff.mp l;let H:G.length=P.length:=by have:=I.len;simp at this;exact this
 let top:(P++[x])[P.length]?=some x:=by simp
 let tg:(G++[(E x).length])[P.length]?=some (E x).length:=by rw[<- H];simp
 let⟨_,h⟩:=I.pg P.length x _ top tg;rw[eK]at h;let at_:∀{j y:Nat},P[j]?=some y->(P++[x])[j]?=some y:=λe=>by rw[ao (ac.mp e).1];exact e
 refine⟨v.nodup_iff.mp I.nd,λy l=>I.lt y (v.mem_iff.mpr l),H,λa c p o=>?_,λj y g l L=>?_,λi j a b B c U=>I.ch i j a b B (at_ c) (at_ U),λi y l a c p o=>?_⟩
 ·rcases aP.mp c with c|c
  ·exact u _ (I.cl a c p o)
  ·rw[aA.mp c]at o;exact u _ (h p o)
 ·let⟨q,Y⟩:=I.pg j y g (at_ l) (by rw[ao (ac.mp L).1];exact L);exact⟨q,λp o=>u _ (Y p o)⟩
 ·by_cases Q:i < F.length
  ·rw[ao Q]at l;rw[List.take_append_of_le_length ()]at c ⊢;exact I.fo i y l a c p o
  ·let C : i = F.length := by have:=(ac.mp l).1;rw[aC]at this;simp at this;ext
   subst C;rw[aE (aw _),eE]at l;cases l;rw[g_ (by simp)]at c ⊢;let O:p.2∈F++(P++[x]):=by
    rcases aP.mp c with c|c
    ·exact I.cl a c p o
    ·rw[aA.mp c]at o;exact h p o
   rcases aP.mp (u _ O) with q|q
   ·exact .inl q
   ·let⟨j,J⟩:=aQ.mp q;exact .inr (I.ch j P.length _ x (f_ (ac.mp J).1) (at_ J) top)
def Eo{g:Nat}(h:(E x)[g]?=some p):(E x).take (g+1)=(E x).take g++[p]:=by rw[mF,h];rfl
def DI.old{g:Nat}(I:DI n E F (P++[x]) (G++[g]))(v:(E x)[g]?=some p)(C:p.2∈F++(P++[x])):DI n E F (P++[x]) (G++[g+1]):=by
 let o:G.length=P.length:=by have:=I.len;simp at this;exact this
 refine⟨I.nd,I.lt,by simp[o],I.cl,λj y k l h=>?_,I.ch,I.fo⟩;by_cases B:j < G.length
 ·rw[ao B]at h;exact I.pg j y k l (by rw[ao B];exact h)
 ·let u : j = G.length := by have:=(ac.mp h).1;rw[aC]at this;simp at this;ext
  subst u;rw[aE (aw _),eE]at h;cases h;rw[o,aE (aw _),eE]at l;cases l;let⟨J,H⟩:=I.pg G.length x g (by rw[o];simp) (by simp);refine⟨(ac.mp v).1,λq c=>?_⟩;rw[Eo v]at c;rcases aP.mp c with c|c
  ·exact H q c
  ·rw[aA.mp c];exact C
def DI.new{g:Nat}(I:DI n E F (P++[x]) (G++[g]))(U:(E x)[g]?=some p)(hs:p.2∉F++(P++[x]))(hn:p.2 < n):DI n E F (P++[x]++[p.2]) (G++[g+1]++[0]):=by
 let H:G.length=P.length:=by have:=I.len;simp at this;exact this
 let mo:∀{y},y∈F++(P++[x])->y∈F++(P++[x]++[p.2]):=λh=>by rw[<- br];exact bz _ h
 let Q:p∈E x:=ax U;let O:(P++[x])[P.length]?=some x:=by simp
 let u:(P++[x]).length=P.length+1:=by simp
 refine⟨?_,λy c=>?_,by simp[H],λa v q l=>mo (I.cl a v q l),λj y k c B=>?_,λi j a b Y v C=>?_,I.fo⟩
 ·rw[<- br,c7];refine⟨I.nd,by simp,λa v b C e=>?_⟩;rw[aA]at C;subst C e;exact hs v
 ·rw[<- br]at c;rcases aP.mp c with c|c
  ·exact I.lt y c
  ·rw[aA.mp c];exact hn
 ·by_cases L:j < P.length+1
  ·rw[ao (by rw[u];exact L)]at c;rw[ao (by simp[H];exact L)]at B;by_cases J:j < G.length
   ·rw[ao J]at B;let⟨v,h⟩:=I.pg j y k c (by rw[ao J];exact B);exact⟨v,λq l=>mo (h q l)⟩
   ·let o:j=G.length:=by ext
    subst o;rw[aE (aw _),eE]at B;cases B;rw[H,O]at c;cases c;let⟨v,h⟩:=I.pg G.length x g (by rw[H];exact O) (by simp);refine⟨(ac.mp U).1,λq l=>?_⟩;rw[Eo U]at l;rcases aP.mp l with l|l
    ·exact mo (h q l)
    ·rw[aA.mp l];simp
  ·let o : j = P.length+1 := by have:=(ac.mp c).1;rw[aC,u]at this;simp at this;ext
   subst o;rw[aE (by simp[H])]at B;simp[H]at B;subst B;exact⟨bU _,λq l=>by simp at l⟩
 ·by_cases L:j < P.length+1
  ·rw[ao (by rw[u];ext)]at v;rw[ao (by rw[u];exact L)]at C;exact I.ch i j a b Y v C
  ·let o : j = P.length+1 := by have:=(ac.mp C).1;rw[aC,u]at this;simp at this;ext
   subst o;rw[aE (by rw[u];exact aw _),u,eE]at C;cases C;by_cases g:i < P.length+1
   ·rw[ao (by rw[u];exact g)]at v;exact (I.ch i P.length a x () v O).snoc Q
   ·let c:i=P.length+1:=by ext
    subst c;rw[aE (by rw[u];exact aw _),u,eE]at v;cases v;exact .refl _
def DI.root{r:Nat}(I:DI n E F [] [])(v:r∉F)(B:r < n):DI n E F [r] [0]:=by
 let mo:∀{y},y∈F++[]->y∈F++[r]:=λh=>by rw[bu]at h;exact bz _ h
 refine⟨?_,λy c=>?_,rfl,λa g q o=>mo (I.cl a g q o),λj y k c u=>?_,λi j a b C g l=>?_,I.fo⟩
 ·rw[c7];refine⟨by have:=I.nd;rwa [bu]at this,by simp,λa g b l e=>?_⟩;rw[aA]at l;subst l e;exact v g
 ·rcases aP.mp c with c|c
  ·exact I.lt y (bz _ c)
  ·rw[aA.mp c];exact B
 ·match j,c,u with|0,c,u=>cases u;exact⟨bU _,λq o=>by simp at o⟩|j+1,c,_=>simp at c
 ·match i,j,g,l with|0,0,g,l=>cases g;cases l;exact .refl _|0,j+1,_,l=>simp at l|i+1,_,g,_=>simp at g
def DI.nil:DI n E [] [] []:=⟨by simp,by simp,rfl,by simp,by simp,by simp,λi x h=>by simp at h⟩
noncomputable def yK(E:Nat->List (Nat×Nat))(F G:List Nat):Nat:=F.length+(F.map λa=>(E a).length).sum+G.sum
theorem QF{f:Nat->Nat}:∀{F:List Nat},(∀a∈F,f a<=3)->(F.map f).sum<=3*F.length
 |[],_=>by simp|a::F,h=>by have l:=h a (by simp);have g:=QF (F:=F) λb c=>h b (by simp[c]);simp only[aV,lw,b8];ext
theorem QV:∀{G:List Nat},(∀g∈G,g<=3)->G.sum<=3*G.length
 |[],_=>by simp|a::G,h=>by have o:=h a (by simp);have l:=QV (G:=G) λb c=>h b (by simp[c]);simp only[lw,b8];ext
def DI.prg_le(I:DI n E F P G)(few:∀i,i < n->(E i).length<=3):yK E F G<=7*n:=by
 let q:=A0 n (F++P) I.nd I.lt;rw[aC]at q;let v:=QF (F:=F) (f:=λa=>(E a).length) λa o=>few a (I.lt a (bz _ o));let u:=QV (G:=G) λg l=>by
  let⟨j,h⟩:=aQ.mp l;let c:j < P.length:=by rw[<- I.len];exact (ac.mp h).1
  have:=(I.pg j _ g (ae c) h).1;have:=few P[j] (I.lt _ (bn _ (bo c)));ext
 have:=I.len;unfold yK;ext
end
open PySem (Str)
section
variable{s u s0:aZ}{Q:D->aZ->Prop}{E:Nat->List (Nat×Nat)}{n ns cx no root:Nat}{F P G:List Nat}
noncomputable def xM(p:Nat×Nat):D:=.tup [.int (p.1:Nat),.int (p.2:Nat)]
noncomputable def il(x:Nat):D:=.int (x:Nat)
structure tZ(n:Nat)(E:Nat->List (Nat×Nat))(ns:Nat)(u:aZ):Prop where
 at_:∃rs:List Nat,u[ns]?=some (.lst (rs.map .ref))/\rs.length=n/\∀(i r:Nat),rs[i]?=some r->u[r]?=some (.lst ((E i).map xM))
 wf:∀i,i < n->∀p∈E i,p.2 < n
 few:∀i,i < n->(E i).length<=3
def tZ.ext(g:tZ n E ns s)(x:eJ s u):tZ n E ns u:=by let⟨⟨rs,B,v,q⟩,o,h⟩:=g;exact⟨⟨rs,x.at_ B,v,λi r c=>x.at_ (q i r c)⟩,o,h⟩
def tZ.row(g:tZ n E ns u){i:Nat}(v:i < n):∃(rs:List Nat)(r:Nat),(∀Q,wp (getL ns) Q u=Q (rs.map .ref) u)/\(∀(Q:D->aZ->Prop)s,wp (cY (rs.map D.ref) ((i:Nat):Int)) Q s=Q (.ref r) s)/\u[r]?=some (.lst ((E i).map xM))/\rs.length=n:=by
 let⟨⟨rs,q,o,h⟩,C,B⟩:=g;let c:i < rs.length:=by ext
 exact⟨rs,rs[i],λQ=>fk q,λQ s=>uk (by rw[av,ae c];rfl),h i _ (ae c),o⟩
def tZ.row0(g:tZ n E ns s0){i:Nat}(q:i < n):∃(rs:List Nat)(r:Nat),(∀{v},eJ s0 v->v[ns]?=some (.lst (rs.map .ref))/\v[r]?=some (.lst ((E i).map xM)))/\(∀(Q:D->aZ->Prop)s,wp (cY (rs.map D.ref) ((i:Nat):Int)) Q s=Q (.ref r) s)/\rs.length=n:=by let⟨rs,o,h,c⟩:=g.at_;let e:=ae (show i < rs.length by ext);exact⟨rs,_,λx=>⟨x.at_ o,x.at_ (c i _ e)⟩,λQ s=>uk (by rw[av,e];rfl),h⟩
def JT:wp (cY (ds++[d]) (-1)) Q s=Q d s:=by
 let e:cY (ds++[d]) (-1)=ret d:=by
  unfold cY;have:MM.n_ (ds++[d]).length (-1)=some ds.length:=by unfold MM.n_;rw[aD (),aH (by simp;ext)];simp;ext
  rw[this];dsimp only;rw[aE (aw _),eE];rfl
 rw[e,cF]
def Wb{k:Nat}:MM.n_ (k+1) (-1)=some k:=by unfold MM.n_;rw[aD (),aH (by simp;ext)];simp;ext
def Xs:(ds++[d]).set ds.length e=ds++[e]:=by rw[v7 _ _ (aw _),eE];rfl
def Sh{H I J:CE}{R:uU->aZ->Prop}: wp (uM H I J l) R s=wp (H l) (λo C=>wp (I l) (λi B=>match o,i with
  | .ref n,.int k=>wp (getL n) (λds v=>wp (cY ds k) (λx q=>wp (J l) (λy h=>wp (uX x y) (λz g=>wp (ke (.ref n) (.int k) z) (λ_ c=>R (.next l) c) g) h) q) v) B
  |_,_=>False) C) s:=by
 unfold uM;rw[d8];congr 1;funext o C;rw[d8];congr 1;funext i B;cases o with
 |ref n=>
  cases i with
  |int k=>
   rw[d8];congr 1;funext ds v;rw[d8];congr 1;funext x q;rw[d8];congr 1;funext y h;rw[d8];congr 1;funext z g;rw[d8];congr 1;funext z c;rw[cF]
  |_=>exact ib
 |_=>exact ib
def PB{i j:Int}:wp (uX (.int i) (.int j)) Q s=Q (.int (i+j)) s:=cU rfl
def Nl{f:Nat->D}{i:Nat}(g:i < n):(bA n f).set i v=bA n λj=>if j=i then v else f j:=by
 apply eW;intro k;by_cases c:k < n
 ·rw[vJ c];by_cases e:k=i
  ·subst e;rw[aF (by rw[mH];exact c),aH rfl]
  ·rw[aB (ff e),vJ c,aD e]
 ·rw[bX (by rw[dq,mH];ext),bX (by rw[mH];ext)]
def HR{k i:Nat}(h:i < k):MM.n_ k ((i:Nat):Int)=some i:=by unfold MM.n_;rw[aH (),aH ()];simp
def seen(n:Nat)(S:List Nat):List D:=bA n λi=>.bl (decide (i∈S))
def Mj{i:Nat}(c:i < n):(seen n S).set i (.bl true)=seen n (S++[i]):=by
 unfold seen;rw[Nl c];congr 1;funext j;by_cases e:j=i
 ·subst e;simp
 ·simp[e]
def T7{S T:List Nat}(h:∀i,i∈S↔i∈T):seen n S=seen n T:=by unfold seen;congr 1;funext j;simp[h j]
def Nk{i:Nat}(c:i < n):wp (cY (seen n S) ((i:Nat):Int)) Q s=Q (.bl (decide (i∈S))) s:=yN c
noncomputable def yI(E:Nat->List (Nat×Nat)):D->Nat
 | .int i=>(E i.toNat).length|_=>0
noncomputable def yU:D->Nat
 | .int i=>i.toNat|_=>0
def Q1:(F.map il).length+((F.map il).map (yI E)).sum+((G.map il).map yU).sum=yK E F G:=by
 let g:(F.map il).map (yI E)=F.map λa=>(E a).length:=by rw[iH];exact cJ λa _=>rfl
 let c:(G.map il).map yU=G:=by rw[iH];exact (cJ λa _=>rfl).trans (List.map_id G)
 unfold yK;rw[g,c,af]
def Wt(g:tZ n E ns s0)(x0:eJ s0 s)(hs:s[cx]?=some (.lst (seen n F)))(ho:s[no]?=some (.lst (F.map il)))(l1:s0.length<=cx)(l2:s0.length<=no)(hne:cx≠no)(I:DI n E F [] [])(hr:root < n)(hrF:root∉F)(hn:n<=400)(hq:∀c u,DI n E c [] []->(∀x∈F,x∈c)->root∈c->u[cx]?=some (.lst (seen n c))->u[no]?=some (.lst (c.map il))->eJ s0 u->(∀k,k < s.length->k≠cx->k≠no->u[k]?=s[k]?)->Q .non u):wp (jx [.ref ns,.int (root:Nat),.ref cx,.ref no]) Q s:=by
 let c1:1<=eV:=gH ();let ix:∀(L:List Nat){t:Nat},t < n->MM.n_ (seen n L).length ((t:Nat):Int)=some t:=λL t ht=>by unfold seen;rw[mH];exact HR ht
 let ls:=ly hs;let lo:=ly ho;let lx:=x0.le;let Y:[cx,no,s.length,s.length+1].Nodup:=by simp;ext
 let hA:∀a∈[cx,no,s.length,s.length+1],s0.length<=a:=by simp;ext
 (simp![jx];simp![jV,↓fk hs,ix F hr,↓oK hs,c1,Mj hr])
 let e0:(s.set cx (MO.lst (seen n (F++[root])))).length=s.length:=dq;let e1:(s.set cx (MO.lst (seen n (F++[root])))++[MO.lst [.int (root:Nat)]]).length=s.length+1:=by rw[aC,e0];rfl
 let K:qL s [cx,no,s.length,s.length+1] (s.set cx (MO.lst (seen n (F++[root])))++[MO.lst [.int (root:Nat)]]++[MO.lst [.int 0]]) [seen n (F++[root]),F.map il,[root].map il,[0].map il]:=(((((qL.nil.old hs).old ho).put (i:=0) (by simpa using hne) rfl).snoc e0).snoc e1)
 rw[e0]
 try rw[e1]
 generalize s.set cx (MO.lst (seen n (F++[root])))++[MO.lst [.int (root:Nat)]]++[MO.lst [.int 0]]=s1 at *;refine C1 (λl v=>∃(c P G:List Nat)(y6 y7:Option D),l=[some (.ref ns),some (.int (root:Nat)),some (.ref cx),some (.ref no),some (.ref s.length),some (.ref (s.length+1)),y6,y7]/\DI n E c P G/\(∀x∈F++[root],x∈c++P)/\qL s [cx,no,s.length,s.length+1] v [seen n (c++P),c.map il,P.map il,G.map il])
  (λ(_:Loc)(v:aZ)=>match (v[no]?:Option MO),(v[s.length+1]?:Option MO) with
   |some (.lst os),some (.lst gs)=>10000-(os.length+(os.map (yI E)).sum+(gs.map yU).sum)
   |_,_=>0) ⟨F,[root],[0],_,_,rfl,I.root hrF hr,λx hx=>hx,K⟩ (λRw1 l v up1 rt1 hW=>?_)
 clear K;let⟨c,P,G,y6,y7,el,J,B,K⟩:=hW;subst el;let b2:=K.at_ 1 _ _ rfl rfl;let b4:=K.at_ 3 _ _ rfl rfl;simp![↓fk (K.at_ 2 _ _ rfl rfl),af];let C:=A0 n (c++P) J.nd J.lt;rw[aC]at C;rcases oE P with e|⟨q,x,e⟩
 ·subst e;let eG:G=[]:=List.length_eq_zero_iff.mp J.len;subst eG;rw[aD (by simp)];rw[bu]at K B;exact hq c v J (λx hx=>B x (bz _ hx)) (B root (by simp)) (K.at_ 0 _ _ rfl rfl) b2 (K.ext x0 hA) λk g h1 h2=>K.oth k g (by simp;ext)
 rw[oF]at e;subst e;obtain⟨h,gl,eG⟩:∃h gl,G=h++[gl]:=by
  rcases oE G with z|⟨h,gl,z⟩
  ·have:=J.len;rw[z]at this;simp at this
  ·exact⟨h,gl,by rw[z,oF]⟩
 subst eG;let hl:h.length=q.length:=by have:=J.len;simp at this;exact this
 let hx:x < n:=J.lt x (by simp);rw[aH (by simp)];let⟨rs,r,qg,qi,gr,hrs⟩:=(g.ext (K.ext x0 hA)).row hx;let o:∀(L:List Nat)(y:Nat),(L++[y]).map il=L.map il++[.int (y:Nat)]:=λL y=>by rw[bw];rfl
 rw[o q x,o h gl]at K;rw[o h gl]at b4;let few:=(g.few x hx)
 let⟨pg1,pg2⟩:=J.pg q.length x gl (by simp) (by rw[<- hl];simp);let pr:=J.prg_le g.few;rw[o q x,JT];simp![↓fk (K.at_ 2 _ _ rfl rfl),↓JT,↓fk b4,↓qg,↓qi,↓fk gr,af];let mu : ∀{w : aZ}{F2 G2 : List Nat}, w[no]? = some (.lst (F2.map il)) -> w[s.length+1]? = some (.lst (G2.map il)) -> yK E F2 G2 <= 7*n -> yK E F2 G2 = yK E c (h ++ [gl])+1 -> (match (w[no]? : Option MO), (w[s.length+1]? : Option MO) with
   |some (.lst os),some (.lst gs)=>10000-(os.length+(os.map (yI E)).sum+(gs.map yU).sum)|_,_=>0) < (match (v[no]?:Option MO),(v[s.length+1]?:Option MO) with
   |some (.lst os),some (.lst gs)=>10000-(os.length+(os.map (yI E)).sum+(gs.map yU).sum)
   |_,_=>0):=λg1 g2 h1 h2=>by
  rw[g1,g2,b2,b4,<- o h gl];dsimp only;rw[Q1,Q1,h2];exact Nat.sub_lt_sub_left () (iN _)
 by_cases hg:gl=(E x).length
 ·let O:=K.put (i:=1) (es:=c.map il++[.int (x:Nat)]) Y rfl;let K2:=O.put (i:=2) (es:=q.map il) Y rfl;let K3:=K2.put (i:=3) (es:=h.map il) Y rfl;rw[aH (),fk b2,oK b2];refine⟨sC (by rw[af];ext),?_⟩;simp![↓fk (O.at_ 2 _ _ rfl rfl),↓oK (O.at_ 2 _ _ rfl rfl),↓fk (K2.at_ 3 _ _ rfl rfl),↓oK (K2.at_ 3 _ _ rfl rfl),wG,wH];rw[hg]at J;let J2:=J.fin;refine up1 ⟨c++[x],q,h,_,_,rfl,J2,λy hy=>Mn.mem_iff.mp (B y hy),by rw[o c x,<- T7 λi=>Mn.mem_iff];exact K3⟩ (mu (by rw[o c x];exact K3.at_ 1 _ _ rfl rfl) (K3.at_ 3 _ _ rfl rfl) (J2.prg_le g.few) ?_);unfold yK;simp only[aC,bw,ou,aV,lV,lw,qW,b8,fU];ext
 ·rw[aD ()];let L:gl < (E x).length:=by ext
  obtain⟨p,v⟩:∃p,(E x)[gl]?=some p:=⟨_,ae L⟩
  let U:p.2 < n:=g.wf x hx p (ax v);let qe:∀(Q:D->aZ->Prop)s,wp (cY ((E x).map xM) ((gl:Nat):Int)) Q s=Q (.tup [.int (p.1:Nat),.int (p.2:Nat)]) s:=λQ s=>uk (by rw[av,v];rfl);let I:MM.n_ (h.map il++[D.int (gl:Nat)]).length (-1)=some h.length:=by rw[aC,af];exact Wb
  let u:(h.map il++[D.int (gl:Nat)]).set h.length (.int ((gl:Nat)+1))=(h++[gl+1]).map il:=by
   have:h.length=(h.map il).length:=by rw[af]
   rw[o,this,Xs];rfl
  let O:=K.put (i:=3) (es:=(h++[gl+1]).map il) Y rfl;let q2:∀(Q:D->aZ->Prop)s,wp (cY (seen n (c++(q++[x]))) ((p.2:Nat):Int)) Q s=Q (.bl (decide (p.2∈c++(q++[x])))) s:=λQ s=>Nk U;simp![↓Sh,↓PB,↓qg,↓qi,↓fk gr,↓fk b4,↓JT,↓qe,↓oK b4,I];rw[u];simp![↓fk (O.at_ 0 _ _ rfl rfl),↓q2];let l:∀H:List Nat,H.sum=gl+1+h.sum->yK E c H=yK E c (h++[gl])+1:=λH hH=>by unfold yK;rw[hH];simp only[ou,lw,qW];ext
  by_cases G:p.2∈c++(q++[x])
  ·rw[cz G];simp![dS,aK,if_false];exact up1 ⟨c,q++[x],h++[gl+1],_,_,rfl,J.old v G,B,by rw[o q x];exact O⟩ (mu (O.at_ 1 _ _ rfl rfl) (O.at_ 3 _ _ rfl rfl) ((J.old v G).prg_le g.few) (l _ (by simp only[ou,lw,qW];ext)))
  ·let K2:=O.put (i:=0) (es:=seen n (c++(q++[x])++[p.2])) Y rfl;let K3:=K2.put (i:=2) (es:=q.map il++[.int (x:Nat)]++[.int (p.2:Nat)]) Y rfl;let H:=K3.put (i:=3) (es:=(h++[gl+1]).map il++[.int 0]) Y rfl;rw[bc G];simp![fO,if_true,↓fk (O.at_ 0 _ _ rfl rfl),ix _ U,↓oK (O.at_ 0 _ _ rfl rfl),Mj U,↓fk (K2.at_ 2 _ _ rfl rfl),↓oK (K2.at_ 2 _ _ rfl rfl),↓fk (K3.at_ 3 _ _ rfl rfl),↓oK (K3.at_ 3 _ _ rfl rfl)];let J2:=J.new v G U;let E:q.length+1<=400:=by rw[aC]at C;simp at C;ext
   let u:=H.cg (C':=[seen n (c++(q++[x]++[p.2])),c.map il,(q++[x]++[p.2]).map il,(h++[gl+1]++[0]).map il]) (by rw[o (q++[x]),o q x,o (h++[gl+1]) 0,<- br c (q++[x]) [p.2]];rfl);refine⟨sC (by simp;ext),sC (by simp;ext),up1 ⟨c,q++[x]++[p.2],h++[gl+1]++[0],_,_,rfl,J2,λy hy=>?_,u⟩ (mu (u.at_ 1 _ _ rfl rfl) (u.at_ 3 _ _ rfl rfl) (J2.prg_le g.few) (l _ (by simp only[ou,lw,qW];ext)))⟩;rw[<- br];exact bz _ (B y hy)
end
open PySem (Str)
section
variable{Q:D->aZ->Prop}{E:Nat->List (Nat×Nat)}{n ns cx no root:Nat}{F P G:List Nat}
def Og:(bA n λ_=>D.bl false)=seen n []:=by unfold seen;congr 1
def QmL:iL 0 n=bA n λk=>.int (k:Nat):=by unfold iL bA;exact cJ λk _=>by rw[Int.zero_add]
def PN(g:tZ n E ns s)(hn:n<=400)(hq:∀F r u,DI n E F [] []->(∀x,x < n->x∈F)->u[r]?=some (.lst (F.map il))->s.length<=r->eJ s u->Q (.ref r) u):wp (jm [.ref ns]) Q s:=by
 let⟨rs,h,c,h3⟩:=id g.at_;let q0:∀o Q,wp (getL ns) Q (s++[o])=Q (rs.map .ref) (s++[o]):=λo Q=>fk (uY h);let w:∀o(A:List D->aZ->Prop),wp (collect (aS 0) b7 (aN (.bl false)) (gw ns (rs.map D.ref)) (rs.map D.ref) [none]) A (s++[o])=A (seen n []) (s++[o]):=λo A=>by rw[A3 (f:=λ_=>.bl false) (show gw ns _ _ from uY h) (λk d hd Q=>by simp![]),af,c,Og]
 let c1:n<=eV:=gH ()
 (simp![jm];simp![jT,bU,↓q0,im,↓w,af,c,c1])
 let q1:∀o o' Q,wp (getL ns) Q (s++[o]++[o'])=Q (rs.map .ref) (s++[o]++[o']):=λo o' Q=>fk (uY (uY h));rw[q1];let en:((rs.map D.ref).length:Int).toNat=n:=by rw[af,c];simp
 refine⟨by rw[af,c];exact⟨by ext,by ext⟩,?_⟩;rw[en,QmL];let G:(s++[MO.lst []]).length=s.length+1:=by simp
 rw[G];let a1:(s++[MO.lst []]++[MO.lst (seen n [])])[s.length+1]?=some (.lst (seen n [])):=by rw[<- G];exact pW
 let a2:(s++[MO.lst []]++[MO.lst (seen n [])])[s.length]?=some (.lst (([]:List Nat).map il)):=uY pW;let a3:eJ s (s++[MO.lst []]++[MO.lst (seen n [])]):=((eJ.refl _).snoc _).snoc _;generalize s++[MO.lst []]++[MO.lst (seen n [])]=s1 at *;refine OZ (λi l v=>∃(F:List Nat)(L:Option D),l=[some (.ref ns),some (.ref s.length),some (.ref (s.length+1)),L]/\DI n E F [] []/\(∀x,x < i->x∈F)/\v[s.length+1]?=some (.lst (seen n F))/\v[s.length]?=some (.lst (F.map il))/\eJ s v) (λ_ _ _ _=>vN)
  ⟨[],_,rfl,DI.nil,λx O=>bh O (),a1,a2,a3⟩ (λi l v Y U=>?_) (λl v U=>?_)
 ·let⟨F,L,el,J,B,I,H,C⟩:=U;subst el;let l:∀(Q:D->aZ->Prop)s,wp (cY (seen n F) ((i:Nat):Int)) Q s=Q (.bl (decide (i∈F))) s:=λQ s=>Nk Y;simp![↓fk I,↓l];by_cases q:i∈F
  ·rw[cz q];simp![dS,aK,if_false];refine⟨F,_,rfl,J,λx O=>?_,I,H,C⟩;by_cases e:x=i
   ·subst e;exact q
   ·exact B x ()
  ·rw[bc q];simp![fO,if_true];refine Wt g C I H () (aw _) () J Y q hn λE u v h c c1 c2 o G=>?_;simp![];refine⟨E,_,rfl,v,λx O=>?_,c1,c2,o⟩;by_cases e:x=i
   ·subst e;exact c
   ·exact h x (B x ())
 ·let⟨F,L,el,J,B,I,H,C⟩:=U;subst el;simp![];exact hq F _ v J B H (aw _) C
end
open PySem (Str)
section
variable{s u s0:aZ}{E:Nat->List (Nat×Nat)}{n ns no nd lo:Nat}{h:Hs}{ys:List Sd}
def eF(h:Hs)(ys:List Sd)(i:Nat):List (Nat×Nat):=match ys[i]? with|some x=>(gB h x).map λk=>(k,ys.idxOf (kq h x k))|none=>[]
theorem Rz:∀{rs:List D},(∀d∈rs,∃r,d=.ref r)->∃c:List Nat,rs=c.map .ref
 |[],_=>⟨[],rfl⟩|d::rs,hh=>by let⟨r,rfl⟩:=hh d (by simp);let⟨c,rfl⟩:=Rz (rs:=rs) λd hd=>hh d (by simp[hd]);exact⟨r::c,rfl⟩
def L7(hh:gY h)(L:u[ns]?=some (.lst rs))(G:rs.length=ys.length)(B:Im h lo no nd ns ys rs u):tZ ys.length (eF h ys) ns u:=by
 let⟨C,rfl⟩:=Rz (rs:=rs) λd hd=>by let⟨j,J⟩:=aQ.mp hd;let⟨r,_,e,_⟩:=B j d J;exact⟨r,e⟩
 rw[af]at G;let at_:∀(i r:Nat),C[i]?=some r->∃x,ys[i]?=some x/\u[r]?=some (.lst (row h x (gB h x) ys))/\∀k∈gB h x,kq h x k∈ys:=λi r g=>by let⟨O,x,e,_,_,_,_,c,v,q⟩:=B i (.ref r) (by rw[av,g];rfl);cases e;exact⟨x,c,v,q⟩
 refine⟨⟨C,L,G,λi r g=>?_⟩,λi H p o=>?_,λi H=>?_⟩
 ·let⟨x,c,v,_⟩:=at_ i r g;rw[v];unfold eF row;rw[c,iH];rfl
 ·let⟨x,c,_,q⟩:=at_ i _ (ae ());unfold eF at o;rw[c]at o;let⟨k,I,rfl⟩:=bH.mp o;exact fB.mpr (q k I)
 ·unfold eF;rw[ae H];dsimp only;rw[af];exact PX hh
def IK{i:Nat}(st:lL h i):(dh h i).length=i:=by
 let c:=st.2;refine Nat.le_antisymm c ?_;rcases Nat.eq_zero_or_pos i with e|e
 ·ext
 ·let o:=st.1 (i-1) ();let g:=PY (h:=h) (i:=i-1) (j:=i) ();ext
end
open PySem (Str)
def oI(R:List Sd)(f:Sd->D):List (D×D):=R.map λx=>(dI x,f x)
noncomputable def CQ{α:Type}[DecidableEq α](f:α->D)(x:α)(v:D):α->D:=λy=>if y=x then v else f y
section
variable{α:Type}[DecidableEq α]{kf:α->D}{R:List α}{f:α->D}{x:α}
def JO(g:∀a b,oM (kf a) (kf b)=decide (a=b)):m_ (R.map λx=>(kf x,f x)) (kf x)=if x∈R then some (f x) else none:=by
 unfold m_
 induction R with|nil=>rfl|cons y R ih=>
  rw[aV,c5];dsimp only;rw[g];by_cases e:y=x
  ·subst e;rw[cz rfl,aH cP];rfl
  ·rw[bc e];dsimp only;rw[ih];by_cases c:x∈R
   ·rw[aH c,aH (bO _ c)]
   ·rw[aD c,aD λh=>c ((aR.mp h).resolve_left (ff e))]
def Le(g:∀a b,oM (kf a) (kf b)=decide (a=b)):mK (R.map λx=>(kf x,f x)) (kf x) v=(if x∈R then R else R++[x]).map λy=>(kf y,CQ f x v y):=by
 let l:((R.map λx=>(kf x,f x)).any λp=>oM p.1 (kf x))=decide (x∈R):=by
  rw[vn];apply sH.mpr;rw[iI,decide_eq_true_iff];constructor
  ·rintro ⟨y,c,e⟩
   let e:decide (y=x)=true:=by rw[<- g];exact e
   rw[<- of_decide_eq_true e];exact c
  ·intro h;exact⟨x,h,by show oM (kf x) (kf x)=true;rw[g,cz rfl]⟩
 unfold mK;rw[l];by_cases h:x∈R
 ·rw[aH (cz h),aH h,iH];apply cJ;intro y c
  show (if oM (kf y) (kf x)=true then (kf y,v) else (kf y,f y))=_;rw[g];unfold CQ;by_cases e:y=x
  ·rw[aH (cz e),aH e]
  ·rw[aD (by rw[bc e];simp),aD e]
 ·rw[aD (by rw[bc h];simp),aD h,bw];congr 1
  ·apply cJ;intro y c;unfold CQ;rw[aD (λe:y=x=>h (by rw[<- e];exact c))]
  ·show [(kf x,v)]=[(kf x,CQ f x v x)]
   unfold CQ;rw[aH rfl]
end
def NS:m_ (oI R f) (dI x)=if x∈R then some (f x) else none:=JO Gn
def QmR:mK (oI R f) (dI x) v=oI (if x∈R then R else R++[x]) (CQ f x v):=Le Gn
section
theorem P8(hh:gY h):∀(m:Nat),so h m->∀(j:Nat)(x:Sd),j < m->(dh h m)[j]?=some x->∀k∈gB h x,kq h x k∈dh h m
 |0,_,j,x,v,_,k,_=>by ext
 |m+1,go,j,x,v,hx,k,hk=>by
  let⟨t,B⟩:=H_ (h:=h) m;let o:=go m ();let g:(dh h m)[m]?=some (dh h m)[m]:=ae o;let C:dh h (m+1)=pP h (dh h m)[m] (gB h (dh h m)[m]) (dh h m):=by
   show (match (dh h m)[m]? with
    |some x=>pP h x (gB h x) (dh h m)
    |none=>dh h m)=_
   rw[g]
  let q:j < (dh h m).length:=by ext
  let c:(dh h m)[j]?=some x:=by rw[B,ao q]at hx;exact hx
  by_cases e:j=m
  ·subst e;have:x=(dh h j)[j]:=aM (c.symm.trans g);subst this;rw[C];exact Ih hk
  ·rw[B];exact bz _ (P8 hh m (λj v=>go j ()) j x () c k hk)
def Dy{i:Nat}(hh:gY h)(st:lL h i)(g:x∈dh h i){k:Nat}(o:k∈gB h x):kq h x k∈dh h i:=by let⟨j,c⟩:=aQ.mp g;have:=(ac.mp c).1;have:=IK st;exact P8 hh i st.1 j x () c k o
end
open PySem (Str)
section
variable{S:Sd->Sd->Prop}{x y z:Sd}{row:List Sd}{h:Hs}{ys:List Sd}
inductive TS(S:Sd->Sd->Prop):Sd->Sd->Prop
 |one {x y:Sd} (h:S x y):TS S x y|more {x y z:Sd} (h:S x y) (r:TS S y z):TS S x z
def TS.snoc(a:TS S x y)(b:S y z):TS S x z:=by
 induction a with|one h=>exact .more h (.one b)|more h _ ih=>exact .more h (ih b)
def Rk(S:Sd->Sd->Prop)(row:List Sd):Prop:=∀(i:Nat)z,row[i]?=some z->∀y,S z y->y∈row.take i
def W8(q:Rk S row):∀{x y:Sd},TS S x y->∀m:Nat,row[m]?=some x->∃l:Nat,l < m/\row[l]?=some y:=by
 intro x y a
 induction a with
 |@one x y h=>
  intro m o;let⟨j,g⟩:=aQ.mp (q m x o y h);let c:j < m:=by have:=(ac.mp g).1;rw[bB]at this;ext
  rw[cj c]at g;exact⟨j,c,g⟩
 |@more x y z h _ ih=>
  intro m o;let⟨j,g⟩:=aQ.mp (q m x o y h);let c:j < m:=by have:=(ac.mp g).1;rw[bB]at this;ext
  rw[cj c]at g;let⟨l,v,u⟩:=ih j g;exact⟨l,by ext,u⟩
def Tc(g:Rk S row)(hz:z∈row):¬ TS S z z:=λa=>by
 let key:∀m:Nat,row[m]?=some z->False:=by
  intro m
  induction m using tx with|ind m ih=>
   intro c;let⟨l,q,o⟩:=W8 g a m c;exact ih l q o
 let⟨m,c⟩:=aQ.mp hz;exact key m c
def wS(h:Hs)(x y:Sd):Prop:=∃k∈gB h x,kq h x k=y
def HQ{i k j:Nat}(c:ys[i]?=some x):(k,j)∈eF h ys i↔k∈gB h x/\ys.idxOf (kq h x k)=j:=by
 unfold eF;rw[c];dsimp only;rw[bH];constructor
 ·rintro ⟨k',hk,e⟩
  cases e;exact⟨hk,rfl⟩
 ·rintro ⟨hk,e⟩
  exact⟨k,hk,by rw[e]⟩
def A4(c:y∈ys):ys[ys.idxOf y]?=some y:=by have:=fB.mpr c;rw[ae this,List.getElem_idxOf this]
def He(cl:∀x∈ys,∀k∈gB h x,kq h x k∈ys){i j:Nat}(a:Rc (eF h ys) i j):∀{x y:Sd},ys[i]?=some x->ys[j]?=some y->x=y\/TS (wS h) x y:=by
 induction a with
 |refl=>intro x y g c;rw[g]at c;cases c;exact .inl rfl
 |@step i j p hp _ ih=>
  intro x y g c;let⟨k,t⟩:=p;let⟨l,e⟩:=(HQ g).mp hp;let o:=cl x (ax g) k l;let q:ys[t]?=some (kq h x k):=by rw[<- e];exact A4 o
  rcases ih q c with z|z
  ·exact .inr (.one ⟨k,l,z⟩)
  ·exact .inr (.more ⟨k,l,rfl⟩ z)
end
open PySem (Str)
section
variable{ys zs:List Sd}{F:Sd->D}{nd:Nat}
def QmY{a:CE}{I:Wk->aZ->Prop}: wp (rX a l) I s=wp (a l) (λx g=>match x with
  | .dic n=>wp (getDc n) (λp c=>p.1=true/\I ⟨p.2.map λq=>.tup [q.1,q.2],λs=>s[n]?=some (.dct true p.2)⟩ c) g
  |_=>False) s:=by
 unfold rX;rw[d8];congr 1;funext x s1;cases x<;>first|exact ib|(dsimp only;rw[d8];congr 1;funext p c;rw[fA,cF])
theorem Qk:∀{ws zs:List Sd},(zs++ws).Nodup->tJ (oI zs F) (ws.map λx=>(dI x,F x))=oI (zs++ws) F
 |[],zs,_=>by rw[bu];rfl
 |w::ws,zs,hn=>by
  let g:w∉zs:=λz=>by rw[c7]at hn;exact hn.2.2 w z w (by simp) rfl
  let e:mK (oI zs F) (dI w) (F w)=oI (zs++[w]) F:=by
   rw[QmR,aD g];congr 1;funext y;unfold CQ;split
   ·rename_i h;rw[h]
   ·rfl
  let c:(zs++[w]++ws).Nodup:=by rw[br];exact hn
  have:=Qk (ws:=ws) (zs:=zs++[w]) c;rw[br]at this
  show tJ (mK (oI zs F) (dI w) (F w)) (ws.map λx=>(dI x,F x))=_;rw[e,this];rfl
theorem Nz:∀ws:List Sd,p_ (ws.map λx=>D.tup [dI x,F x])=some (ws.map λx=>(dI x,F x))
 |[]=>rfl|w::ws=>by rw[aV,p_,Nz ws];unfold Iz;dsimp only;rw[aH (yD w)];rfl
def OY(c:ys.Nodup)(g:ys.length<=1000):wp (lK (ys.map λx=>D.tup [dI x,F x])) Q s=Q (.dic s.length) (s++[.dct true (oI ys F)]):=by unfold lK;rw[Nz];dsimp only;let e:tJ [] (ys.map λx=>(dI x,F x))=oI ys F:=Qk (zs:=[]) c;rw[fA,e,af];have:wp (t9 true (oI ys F)) Q s=Q (.dic s.length) (s++[.dct true (oI ys F)]):=cU rfl;rw[this];exact propext ⟨λz=>z.2,λz=>⟨g,z⟩⟩
end
open PySem (Str)
theorem Dw{f g:Nat->Nat}:∀{n:Nat},(∀i,i < n->f i=g i)->mx f n=mx g n
 |0,_=>rfl|n+1,h=>by unfold mx;rw[Dw λi c=>h i (),h n ()]
def vf{α:Type}(v N:α->Nat)(L:List α):Nat:=mx (λi=>((L[i]?).map λx=>v x+N x).getD 0) L.length
def IH{α:Type}{v c N l:α->Nat}{L:List α}(h:∀x∈L,v x=c x/\N x=l x):vf v N L=vf c l L:=Dw λi g=>by
 rw[ae g]
 show v L[i]+N L[i]=c L[i]+l L[i];rw[(h _ (bo g)).1,(h _ (bo g)).2]
def UJ{α β:Type}{v N:β->Nat}{g:α->β}{L:List α}:vf v N (L.map g)=vf (λx=>v (g x)) (λx=>N (g x)) L:=by unfold vf;rw[af];exact Dw λi c=>by rw[av,ae c];rfl
def Zp{α:Type}{m:M α}{d:α}(h:∀Q:α->aZ->Prop,wp m Q s=Q d c):m s=.ok d c:=by
 have:=h λa t=>a=d/\t=c;let w:wp m (λa t=>a=d/\t=c) s:=by rw[this];exact⟨rfl,rfl⟩
 cases w with|intro a t e q=>rw[e,q.1,q.2]
def MZ{i:Nat}:(gq 0 v)[i]?=(v[i]?).map nZ:=by unfold gq;rw[List.take_zero,mz,sK,av]
def Xc{v:aZ}{i:Nat}(h:v[i]?=some (.lst ds)):(gq 0 v)[i]?=some (.lst ds):=by rw[MZ,h];rfl
def T0:(gq 0 v).mapIdx (sk v)=v:=by
 apply eW;intro i;rw[wB,MZ];cases e:v[i]? with|none=>rfl|some o=>
  show some (sk v i (nZ o))=some o;unfold sk;rw[e];cases o<;>rfl
def Qm9{g:List D->M D}(h:∀Q:D->aZ->Prop,wp (g (ds++l)) Q (gq 0 v)=Q r (gq 0 v)):o9 g l ds v=.ok r v:=by unfold o9;rw[Zp h];refine (aH λi o e c=>?_).trans (by rw[T0]);rw[MZ,e];show some (nZ o)=_;unfold nZ;rw[aH c]
def Yn{g:List D->M D}{s:aZ}(h:wp (g (ds++[.fn s.length])) (λr u=>eJ s u/\s.length < u.length/\Q r (gq s.length u)) (s++[.clo c l])):wp (callC g c l ds) Q s:=by
 cases h with|intro r u e q=>
  let⟨C,B,v⟩:=q;refine⟨r,gq s.length u,?_,v⟩;unfold callC;rw[e];refine aH ⟨B,λm o=>.inl ?_⟩;rw[ae o];exact C.at_ (ae o)
def XJ(h:eJ s u):eJ s (gq s.length u):=by let⟨t,rfl⟩:=h;exact⟨t.map nZ,by unfold gq;rw[List.take_left,List.drop_left]⟩
def Qnc{u:aZ}{n i:Nat}(h:u[i]?=some (.lst ds)):(gq n u)[i]?=some (.lst ds):=by
 unfold gq;by_cases g:i < n
 ·let c:=(ac.mp h).1;rw[ao (by rw[bB];ext),cj g];exact h
 ·let c:=(ac.mp h).1;rw[aE (by rw[bB];ext),bB,oB (),av,mD,show n+(i-n)=i by ext,h];rfl
section
variable{s u s0:aZ}{Q:D->aZ->Prop}{E:Nat->List (Nat×Nat)}{n ns nf no:Nat}{F:List Nat}
def Yh:wp (tz c (aN d) l) Q s=wp (c l) (λds g=>wp (if ds.length=0 then ret d else n0 ds) Q g) s:=by unfold tz;rw[d8];refine nG λds h=>?_;rw[d8];exact cU rfl
def M1{f:Nat->Nat}{k:Nat}:wp (if (bA k λi=>D.int (f i:Nat)).length=0 then ret (.int 0) else n0 (bA k λi=>D.int (f i:Nat))) Q s=Q (.int (mx f k:Nat)) s:=by
 rw[mH];by_cases h:k=0
 ·subst h;rw[aH rfl,cF];rfl
 ·rw[aD h,M6 ()]
def We:wp (qj pG f a l) Q s=wp (f l) (λd c=>wp (a l) (λds g=>wp (pH pG d ds) Q g) c) s:=by unfold qj;rw[d8];congr 1;funext d c;rw[d8]
def ZQ(g:s[nf]?=some (.clo (.dfn nY) o))(h:∀Q:D->aZ->Prop,wp (qM ([a,b]++o)) Q (gq 0 s)=Q r (gq 0 s)):wp (pH pG (.fn nf) [a,b]) Q s=Q r s:=by
 refine cU ?_
 show (match s[nf]? with|some (.lam e)=>qJ pG.1 e [a,b] s|some (.clo c o)=>qO pG.2 c o [a,b] s|_=>.bad)=_;rw[g]
 show qO [(.dfn nY,⟨2,2,qM⟩)] (.dfn nY) o [a,b] s=_;unfold qO;rw[aH rfl]
 show chk (2=2) (o9 qM o [a,b]) s=_;unfold chk;rw[aH rfl];exact Qm9 h
def Vh(g:s[nf]?=some (.lam mj)):wp (pH pG (.fn nf) [a,b]) Q s=Q (.int 1) s:=by
 refine cU ?_
 show (match s[nf]? with|some (.lam e)=>qJ pG.1 e [a,b] s|some (.clo c vs)=>qO pG.2 c vs [a,b] s|_=>.bad)=_;rw[g]
 show qJ [(mj,⟨2,1,uQ⟩)] mj [a,b] s=_;unfold qJ;rw[aH rfl]
 show chk (2=2) (uQ [a,b]) s=_;unfold chk;rw[aH rfl];rfl
def K8{v:aZ}{k i:Nat}(g:v[k]?=some (.lst ds))(c:i < ds.length):wp (ke (.ref k) (.int ((i:Nat):Int)) x) R v=R Unit.unit (v.set k (.lst (ds.set i x))):=by rw[ul,fk g,HR c];exact oK g
noncomputable def HL(E:Nat->List (Nat×Nat))(F:List Nat):Prop:=∀(i x:Nat),F[i]?=some x->∀p∈E x,p.2∈F.take i
def P_{wt:Nat->Nat->Nat}(g:tZ n E ns s)(hn:n<=400)(go:s[no]?=some (.lst (F.map il)))(nd:F.Nodup)(lt:∀x∈F,x < n)(al:∀x,x < n->x∈F)(G:HL E F)(hw:∀v x p,x < n->p∈E x->eJ s v->∀Q:D->aZ->Prop,wp (pH pG (.fn nf) [.int (x:Nat),.int (p.1:Nat)]) Q v=Q (.int (wt x p.1:Nat)) v)(hq:∀(N:Nat->Nat)(u:aZ),(∀x,x < n->N x=vf (λp=>wt x p.1) (λp=>N p.2) (E x))->u[s.length]?=some (.lst (bA n λi=>.int (N i:Nat)))->eJ s u->Q (.ref s.length) u):wp (ji [.ref ns,.ref no,.fn nf]) Q s:=by
 let⟨rs,h1,h2,h3⟩:=id g.at_;let c1:n<=eV:=gH ();let w:∀(A:List D->aZ->Prop),wp (collect (aS 0) b7 (aN (.int 0)) (gw ns (rs.map D.ref)) (rs.map D.ref) [none]) A s=A (bA n λ_=>.int 0) s:=λA=>by rw[A3 (f:=λ_=>.int 0) (show gw ns _ _ from h1) (λk d hd Q=>by simp![]),af,h2]
 (simp![ji];simp![j8,↓fk h1,im,↓w,af,h2,c1])
 let a1:(s++[MO.lst (bA n λ_=>D.int 0)])[s.length]?=some (.lst (bA n λi=>.int ((λ_=>0:Nat->Nat) i:Nat))):=pW;let a3:eJ s (s++[MO.lst (bA n λ_=>D.int 0)]):=(eJ.refl _).snoc _;generalize s++[MO.lst (bA n λ_=>D.int 0)]=s1 at *;rw[fk (a3.at_ go)];refine vp (λi l v=>∃(N:Nat->Nat)(L:Option D),l=[some (.ref ns),some (.ref no),some (.fn nf),some (.ref s.length),L]/\(∀x∈F.take i,N x=vf (λp=>wt x p.1) (λp=>N p.2) (E x))/\v[s.length]?=some (.lst (bA n λi=>.int (N i:Nat)))/\eJ s v) (λ_ _ _ w=>by let⟨_,_,_,_,_,e⟩:=w;exact e.at_ go)
  ⟨λ_=>0,_,rfl,by simp,a1,a3⟩ (λR i d l v up rt hd U=>?_) (λl v U=>?_)
 ·let⟨N,L,el,J,I,H⟩:=U;subst el;rw[av]at hd;cases ex:F[i]? with|none=>rw[ex]at hd;cases hd|some x=>
   rw[ex]at hd;let ed:d=.int (x:Nat):=(aM hd).symm;subst ed;let h:=lt x (ax ex);let⟨u,r,k1,k2,Y,k4⟩:=(g.ext H).row h;let l:F.take (i+1)=F.take i++[x]:=by rw[mF,ex];rfl
   let O:x∉F.take i:=λz=>by
    let⟨j,o⟩:=aQ.mp z;let c:j < i:=by have:=(ac.mp o).1;rw[bB]at this;ext
    rw[cj c]at o;exact bh ((eX (ac.mp o).1 nd).mp (o.trans ex.symm)) (ba c)
   let few:=g.few x h;let cc:∀(A:List D->aZ->Prop),wp (collect (gI 2 (cL (aS 0) (cL (aS 1) g8))) b7 (c2 fF (qj pG (aq 2) (au (aq 4) (au (aq 0) aX))) (c2 aW (aq 3) (aq 1))) (gw r ((E x).map xM)) ((E x).map xM) [none,none,some (.fn nf),some (.ref s.length),some (.int (x:Nat))]) A v=A (bA (E x).length λi=>D.int ((((E x)[i]?.map λp=>wt x p.1+N p.2).getD 0:Nat):Int)) v:=λA=>by
    rw[Cp (caps:=[some (.fn nf),some (.ref s.length),some (.int (x:Nat))]) (f:=λi=>D.int ((((E x)[i]?.map λp=>wt x p.1+N p.2).getD 0:Nat):Int)) Y (λj d hd=>?_),af];rw[av]at hd;cases ep:(E x)[j]? with|none=>rw[ep]at hd;cases hd|some p=>
     rw[ep]at hd;let C:=g.wf x h p (ax ep);refine⟨_,_,(aM hd).symm,λQ=>?_⟩;let q3:∀(Q:D->aZ->Prop)s,wp (cY (bA n λi=>D.int (N i:Nat)) ((p.2:Nat):Int)) Q s=Q (.int (N p.2:Nat)) s:=λQ s=>yN C;let q4:∀Q,wp (pH pG (.fn nf) [.int (x:Nat),.int (p.1:Nat)]) Q v=Q (.int (wt x p.1:Nat)) v:=hw v x p h (ax ep) H;simp![↓We,↓q4,↓fk I,↓q3,dR,iC];rw[show ((wt x p.1:Int)+(N p.2:Int))=((wt x p.1+N p.2:Nat):Int) by ext]
   let cl:(E x).length<=eV:=gH ();let mm:=λQ=>@M1 v Q (λi=>((E x)[i]?.map λp=>wt x p.1+N p.2).getD 0) (E x).length;let ln:s.length < v.length:=ly I;let gs:∀y R,wp (ke (.ref s.length) (.int ((x:Nat):Int)) y) R v=R Unit.unit (v.set s.length (.lst ((bA n λi=>D.int (N i:Nat)).set x y))):=λy R=>K8 I (by rw[mH];exact h);simp![↓Yh,↓k1,↓k2,↓fk Y,im,↓cc,af,cl,↓mm,↓gs];refine up ⟨λy=>if y=x then vf (λp=>wt x p.1) (λp=>N p.2) (E x) else N y,_,rfl,λy B=>?_,?_,H.put (aw _)⟩
   ·let same:∀z,(∀p∈E z,p.2∈F.take i)->vf (λp=>wt z p.1) (λp:Nat×Nat=>if p.2=x then vf (λp=>wt x p.1) (λp=>N p.2) (E x) else N p.2) (E z)=vf (λp=>wt z p.1) (λp=>N p.2) (E z):=λz hz=>IH λp C=>⟨rfl,aD λ(q:p.2=x)=>O (by rw[<- q];exact hz p C)⟩
    rw[l]at B;dsimp only;by_cases e:y=x
    ·subst e;rw[aH rfl,same y (G i y ex)]
    ·rw[aD e];rcases aP.mp B with B|B
     ·let⟨j,o⟩:=aQ.mp B;let c:j < i:=by have:=(ac.mp o).1;rw[bB]at this;ext
      rw[cj c]at o;rw[same y λp C=>lD (by rw[List.take_take,oB (f_ c)];exact G j y o p C),J y B]
     ·exact bh (aA.mp B) e
   ·rw[aF ln,Nl h];congr 3;funext j;dsimp only;by_cases e:j=x
    ·subst e;rw[aH rfl,aH rfl];rfl
    ·rw[aD e,aD e]
 ·let⟨N,L,el,J,I,H⟩:=U;subst el;simp![];rw[af,eK]at J;exact hq N v (λx h=>J x (al x h)) I H
noncomputable def xi(E:Nat->List (Nat×Nat))(x:Nat):Prop:=∃p∈E x,Rc E p.2 x
def RE(g:tZ n E ns s)(hn:n<=400)(h1:∀F r u,F.Nodup->(∀x∈F,x < n)->(∀x,x < n->x∈F)->HL E F->u[r]?=some (.lst (F.map il))->s.length<=r->eJ s u->Q (.ref r) u)(h2:∀x u,x < n->xi E x->eJ s u->Q .non u):wp (jg [.ref ns]) Q s:=by
 (simp![jg];simp![jR])
 refine PN g hn λF no c I al go lo O=>?_;let g1:=g.ext O;let⟨rs,r1,r2,r3⟩:=id g1.at_;let c1:n<=eV:=gH ();let nd:F.Nodup:=by have:=I.nd;rwa [bu]at this
 let lt:∀x∈F,x < n:=λx h=>I.lt x (by rw[bu];exact h);let w:∀(A:List D->aZ->Prop),wp (collect (aS 0) b7 (aN (.bl false)) (gw ns (rs.map D.ref)) (rs.map D.ref) [none]) A c=A (seen n []) c:=λA=>by rw[A3 (f:=λ_=>.bl false) (show gw ns _ _ from r1) (λk d hd Q=>by simp![]),af,r2,Og]
 simp![↓fk r1,im,↓w,af,r2,c1];let a1:(c++[MO.lst (seen n [])])[c.length]?=some (.lst (seen n (F.take 0))):=pW;let a3:eJ c (c++[MO.lst (seen n [])]):=(eJ.refl _).snoc _;generalize c++[MO.lst (seen n [])]=s2 at *;rw[fk (a3.at_ go)];refine vp (λi l v=>∃(L:Option D),l=[some (.ref ns),some (.ref no),some (.ref c.length),L]/\(∀(j x:Nat),j < i->F[j]?=some x->∀p∈E x,p.2∈F.take j)/\v[c.length]?=some (.lst (seen n (F.take i)))/\eJ c v) (λ_ _ _ w=>by let⟨_,_,_,_,e⟩:=w;exact e.at_ go)
  ⟨_,rfl,λj x C=>bh C (),a1,a3⟩ (λR i d l v up rt hd hW=>?_) (λl v hW=>?_)
 ·let⟨L,el,hF,H,G⟩:=hW;subst el;rw[av]at hd;cases ex:F[i]? with|none=>rw[ex]at hd;cases hd|some x=>
   rw[ex]at hd;let ed:d=.int (x:Nat):=(aM hd).symm;subst ed;let h:=lt x (ax ex);let⟨rs',r,k1,k2,k3,k4⟩:=(g1.ext G).row h;let U:F.take (i+1)=F.take i++[x]:=by rw[mF,ex];rfl
   let few:=g.few x h;let cc:∀(A:List D->aZ->Prop),wp (collect (gI 2 (cL (aS 0) (cL (aS 1) g8))) b7 (c2 aW (aq 2) (aq 1)) (gw r ((E x).map xM)) ((E x).map xM) [none,none,some (.ref c.length)]) A v=A (bA (E x).length λj=>D.bl (bP (∀p,(E x)[j]?=some p->p.2∈F.take i))) v:=λA=>by
    rw[Cp (caps:=[some (.ref c.length)]) (f:=λj=>D.bl (bP (∀p,(E x)[j]?=some p->p.2∈F.take i))) k3 (λj d hd=>?_),af];rw[av]at hd;cases ep:(E x)[j]? with|none=>rw[ep]at hd;cases hd|some p=>
     rw[ep]at hd;let o:=g.wf x h p (ax ep);refine⟨_,_,(aM hd).symm,λQ=>?_⟩;let q3:∀(Q:D->aZ->Prop)s,wp (cY (seen n (F.take i)) ((p.2:Nat):Int)) Q s=Q (.bl (decide (p.2∈F.take i))) s:=λQ s=>Nk o;simp![↓fk H,↓q3];congr 2;by_cases e:p.2∈F.take i
     ·rw[cz e,Lb λq c=>by cases c;exact e]
     ·rw[bc e,Ll λz=>e (z p rfl)]
   let cl:(E x).length<=eV:=gH ();simp![↓k1,↓k2,↓fk k3,im,↓cc,af,cl,↓Wl];by_cases J:∀j,j < (E x).length->∀p,(E x)[j]?=some p->p.2∈F.take i
   ·rw[Lb J];let q:c.length < v.length:=ly H;let Y:MM.n_ (seen n (F.take i)).length ((x:Nat):Int)=some x:=HR (by unfold seen;rw[mH];exact h);simp![dS,aK,if_false,↓fk H,Y,↓oK H];refine up ⟨_,rfl,λj y C l p o=>?_,?_,G.put (aw _)⟩
    ·by_cases e:j=i
     ·subst e;rw[ex]at l;cases l;let⟨m,g⟩:=aQ.mp o;exact J m (ac.mp g).1 p g
     ·exact hF j y () l p o
    ·rw[aF q,Mj h,<- U]
   ·rw[Ll J];simp![fO,if_true];refine rt ?_
    show wp (wM (.ret .non)) Q v;simp![];refine h2 x v h ?_ (O.trans G);refine iu λu=>J λj C p o=>?_;let B:=ax o;rcases I.fo i x ex x (by rw[U];simp) p B with z|z
    ·rw[U]at z;rcases aP.mp z with z|z
     ·exact z
     ·exact bh ⟨p,B,by rw[aA.mp z];exact .refl _⟩ u
    ·exact bh ⟨p,B,z⟩ u
 ·let⟨L,el,hF,H,G⟩:=hW;subst el;simp![];refine h1 F no v nd lt al (λj x C p o=>hF j x ?_ C p o) (G.at_ go) lo (O.trans G);rw[af];exact (ac.mp C).1
end
open PySem (Str)
section
variable{s u s0 v:aZ}{Q:D->aZ->Prop}{l:Loc}{h:Hs}{ys:List Sd}{no ns nd nn:Nat}
noncomputable def Du:Ln->Nat
 | .settle v=>v| .act b _ _=>b
def xI(h:Hs)(c bd:Nat)(y:Sd)(k:Nat):Nat:=if k=c/\Du (cQ h y k)=bd then 1 else 0
def SU:wp (aW (qG x) (.int 1)) Q s=Q (.int (Du x:Nat)) s:=by cases x<;>exact cU rfl
def YO{x k c bd:Nat}(hh:gY h)(E:io h y)(G:k < h.hands.length)(H:v[no]?=some (.lst (ys.map dI)))(I:ys[x]?=some y):wp (qM ([.int (x:Nat),.int (k:Nat)]++[fW h,.int (c:Nat),.tup [.ref no,.ref ns],.int (bd:Nat)])) Q v=Q (.int (xI h c bd y k:Nat)) v:=by
 let C:∀Q s,wp (je [fW h,dI y,.int k]) Q s=Q (qG (cQ h y k)) s:=λQ s=>IS hh E G;let B:∀(Q:D->aZ->Prop)s,wp (cY (ys.map dI) ((x:Nat):Int)) Q s=Q (dI y) s:=λQ s=>uk (i:=x) (by rw[av,I];rfl);let q:∀(Q:D->aZ->Prop)s,wp (aW (qG (cQ h y k)) (.int 1)) Q s=Q (.int (Du (cQ h y k):Nat)) s:=λQ s=>SU;unfold qM Bi;simp![↓fk H,↓C,↓B,↓q];unfold xI;by_cases o:k=c
 ·rw[aH (show (k:Int)=c by ext)];by_cases g:Du (cQ h y k)=bd
  ·rw[aH (show ((Du (cQ h y k):Nat):Int)=bd by ext),aH ⟨o,g⟩];rfl
  ·rw[aD (show ¬ ((Du (cQ h y k):Nat):Int)=bd by ext),aD λz=>g z.2];rfl
 ·rw[aD (show ¬ (k:Int)=c by ext),aD λz=>o z.1];rfl
def ZD{g:List D->M D}{c:kR}{a:CA}{o:List D}(t:s[0]?=some (.tbl "most_deeds" "worth"))(e:uh (l.set 5 none) [0,3,1,4]=some o):wp (o6 0 "most_deeds" "worth" g c [0,3,1,4] 5 a l) Q s=wp (a (l.set 5 none)) (λds q=>wp (callC g c o ds) Q q) s:=by
 have:o6 0 "most_deeds" "worth" g c [0,3,1,4] 5 a l s=bnd (a (l.set 5 none)) (λds=>callC g c o ds) s:=by unfold o6;rw[t,e];exact aH ⟨rfl,rfl⟩
 rw[<- d8,sM,sM,this]
def Qnm{r:Nat}(g:s[r]?=some (.lst ds)):wp (wL f (.ref r)) Q s=wp (f ds) Q s:=by unfold wL;rw[d8,fk g]
noncomputable def wN(ys:List Sd)(wt:Sd->Nat->Nat)(x k:Nat):Nat:=((ys[x]?).map λy=>wt y k).getD 0
def S3{r c bd:Nat}{F:List Nat}(hh:gY h)(C:∀y∈ys,io h y)(hl:ys.length<=324)(h0:0 < ys.length)(O:s[0]?=some (.tbl "most_deeds" "worth"))(gy:s[no]?=some (.lst (ys.map dI)))(g:tZ ys.length (eF h ys) ns s)(hE:∀x p,x < ys.length->p∈eF h ys x->p.1 < h.hands.length) (go:s[r]?=some (.lst (F.map il))) (nd:F.Nodup) (lt:∀x∈F,x < ys.length) (al:∀x,x < ys.length->x∈F) (G:HL (eF h ys) F)(l:∀(M:Nat->Nat)(u:aZ),(∀x,x < ys.length->M x=vf (λp=>wN ys (xI h c bd) x p.1) (λp=>M p.2) (eF h ys x))->eJ s u->Q (.int (mx M ys.length:Nat)) u):wp (jt [fW h,.tup [.ref no,.ref ns],.ref r,.int (c:Nat),.int (bd:Nat)]) Q s:=by
 let U:=λQ=>@ZD s Q [some (fW h),some (.tup [.ref no,.ref ns]),some (.ref r),some (.int (c:Nat)),some (.int (bd:Nat)),none] ji (.dfn nY) (au (c2 aW (aq 1) (aN (.int 1))) (au (aq 2) aX)) [fW h,.int (c:Nat),.tup [.ref no,.ref ns],.int (bd:Nat)] O rfl
 (simp![jt];simp![j4,↓U,List.set_cons_succ,List.set_cons_zero])
 refine Yn ?_;let o:eJ s (s++[MO.clo (.dfn nY) [fW h,.int (c:Nat),.tup [.ref no,.ref ns],.int (bd:Nat)]]):=(eJ.refl _).snoc _;let gl:(s++[MO.clo (.dfn nY) [fW h,.int (c:Nat),.tup [.ref no,.ref ns],.int (bd:Nat)]])[s.length]?=some (.clo (.dfn nY) [fW h,.int (c:Nat),.tup [.ref no,.ref ns],.int (bd:Nat)]):=pW;generalize s++[MO.clo (.dfn nY) [fW h,.int (c:Nat),.tup [.ref no,.ref ns],.int (bd:Nat)]]=B at *
 show wp (ji [.ref ns,.ref r,.fn s.length]) _ B;let Y:s.length < B.length:=ly gl;refine P_ (wt:=wN ys (xI h c bd)) (g.ext o) () (o.at_ go) nd lt al G (λv x p E hp H Q=>ZQ (H.at_ gl) λQ=>?_) λM u hM gm q=>?_
 ·let I:=ae E;rw[YO hh (C _ (bo E)) (hE x p E hp) (Xc ((o.trans H).at_ gy)) I];unfold wN;rw[I];rfl
 ·refine⟨o.trans q,by have:=q.le;ext,?_⟩;let c:(gq s.length u)[B.length]?=some (.lst (bA ys.length λi=>.int (M i:Nat))):=Qnc gm;let J:=XJ (o.trans q);generalize gq s.length u=L at *;simp![↓Qnm c,↓M6 h0];exact l M L hM J
end
open PySem (Str)
section
variable{s u s0 v:aZ}{Q:D->aZ->Prop}{h:Hs}{ys:List Sd}{no ns nd nn:Nat}
def NJ{n:Nat}:wp (sP (.ref n) .non) Q s=Q (.bl false) s:=cU rfl
def Cj:wp (sP .non .non) Q s=Q (.bl true) s:=cU rfl
def r6(h:Hs)(ys R:List Sd):Prop:=(∀x∈ys,x∈R)/\∀(i:Nat)(z:Sd),R[i]?=some z->∀k∈gB h z,kq h z k∈R.take i
def uw(h:Hs)(ys:List Sd)(wt:Sd->Nat->Nat)(M:Sd->Nat):Prop:=∀x∈ys,M x=vf (wt x) (λk=>M (kq h x k)) (gB h x)
def rE(M:Sd->Nat)(ys:List Sd):Nat:=mx (λi=>((ys[i]?).map M).getD 0) ys.length
def Od{M:Nat->Nat}(o:∀x∈ys,∀k∈gB h x,kq h x k∈ys)(q:∀x,x < ys.length->M x=vf (λp=>wN ys wt x p.1) (λp=>M p.2) (eF h ys x)):uw h ys wt λx=>M (ys.idxOf x):=by
 intro x c;let g:=fB.mpr c
 show M (ys.idxOf x)=_;rw[q _ g];unfold eF;rw[A4 c];refine UJ.trans (IH λk B=>⟨?_,rfl⟩);unfold wN;rw[A4 c];rfl
def Qnr{M:Nat->Nat}(g:ys.Nodup):mx M ys.length=rE (λx=>M (ys.idxOf x)) ys:=Dw λi c=>by
 rw[ae c]
 show M i=M (ys.idxOf ys[i]);have:=(eX (fB.mpr (bo c)) g).mp ((A4 (bo c)).trans (ae c).symm);rw[this]
def Nx{F:List Nat}(q:∀x∈ys,∀k∈gB h x,kq h x k∈ys)(nd:F.Nodup)(lt:∀x∈F,x < ys.length)(J:∀x,x < ys.length->x∈F)(B:HL (eF h ys) F):∃R:List Sd,r6 h ys R/\R.length<=ys.length/\∀x∈R,x∈ys:=by
 refine⟨F.map λi=>(ys[i]?).getD ⟨[],[]⟩,⟨λx c=>?_,λi z hz k E=>?_⟩,?_,λx c=>?_⟩
 ·let G:=fB.mpr c;exact bH.mpr ⟨ys.idxOf x,J _ G,by rw[A4 c];rfl⟩
 ·rw[av]at hz;cases o:F[i]? with|none=>rw[o]at hz;cases hz|some j=>
   rw[o]at hz;let g:=lt j (ax o);let I:z=ys[j]:=by have:=(aM hz).symm;dsimp only at this;rw[ae g]at this;exact this
   let C:ys[j]?=some z:=by rw[I];exact ae g
   let H:=q z (ax C) k E;have:=B i j o (k,ys.idxOf (kq h z k)) ((HQ C).mpr ⟨E,rfl⟩);rw[<- List.map_take];exact bH.mpr ⟨_,this,by rw[A4 H];rfl⟩
 ·rw[af];exact A0 _ _ nd lt
 ·let⟨j,g,rfl⟩:=bH.mp c;rw[ae (lt j g)];exact bo _
def r6.none_(f:r6 h ys R)(g:x∈ys):¬ TS (wS h) x x:=Tc (row:=R) (λj z hz y c=>by let⟨k,o,e⟩:=c;exact e ▸ f.2 j z hz k o) (f.1 x g)
def Jh(c:∀x∈ys,∀k∈gB h x,kq h x k∈ys){x:Nat}(q:x < ys.length)(H:xi (eF h ys) x):TS (wS h) ys[x] ys[x]:=by
 let⟨⟨k,t⟩,C,B⟩:=H;let o:=ae q;let⟨g,e⟩:=(HQ o).mp C;let E:=c ys[x] (bo q) k g;let G:ys[t]?=some (kq h ys[x] k):=by rw[<- e];exact A4 E
 rcases He c B G o with z|z
 ·exact .one ⟨k,g,z⟩
 ·exact .more ⟨k,g,rfl⟩ z
def ZX{bd:Nat}(hh:gY h)(hn:ys.Nodup)(I:∀y∈ys,io h y)(hl:ys.length<=324)(h0:0 < ys.length)(o:∀x∈ys,∀k∈gB h x,kq h x k∈ys)(t0:s[0]?=some (.tbl "most_deeds" "worth"))(gy:s[no]?=some (.lst (ys.map dI)))(g:tZ ys.length (eF h ys) ns s)(h1:∀(M:Nat->Sd->Nat)u,(∀k,k < h.hands.length->uw h ys (xI h k bd) (M k))->(∀x∈ys,¬ TS (wS h) x x)->eJ s u->Q (.tup (bA h.hands.length λk=>.int (rE (M k) ys:Nat))) u)(h2:∀x u,x∈ys->TS (wS h) x x->eJ s u->Q .non u):wp (jy [fW h,.tup [.ref no,.ref ns],.int (bd:Nat)]) Q s:=by
 (simp![jy];simp![jX])
 refine RE g () (λF r H nd lt l C go lr E=>?_) (λx H q cy E=>?_)
 ·let l3:=hh.2.2.2.1;let hb:=vL (show h.hands.length<=100 by ext);let q1:∀(Q:D->aZ->Prop)s,wp (aW (fW h) (.int 1)) Q s=Q (.tup (h.hands.map np)) s:=λQ s=>cU rfl;let Y:h.hands.length<=eV:=gH ();simp![↓NJ,aK,if_false,↓q1,af,hb,ue,im,bC,mH,Y];refine IG (λi c v=>∃M:Nat->Sd->Nat,c=(bA i λk=>D.int (rE (M k) ys:Nat))/\(∀k,k < i->uw h ys (xI h k bd) (M k))/\eJ H v) (λ_ _ _ _=>trivial) ⟨λ_ _=>0,rfl,λk J=>bh J (),eJ.refl _⟩ (λR i c v up hi w=>?_) (λc v w=>?_)
  ·let⟨M,U,O,B⟩:=w;let G:=E.trans B;simp![];refine S3 hh I hl h0 (G.at_ t0) (G.at_ gy) (g.ext G) (λx p q h=>Ao ((HQ (k:=p.1) (j:=p.2) (ae q)).mp h).1) (B.at_ go) nd lt l C λM' u L c=>?_;refine up ⟨λk=>if k=i then (λx=>M' (ys.idxOf x)) else M k,?_,λk J=>?_,B.trans c⟩
   ·rw[A9,U,Qnr hn];congr 1
    ·exact zD λk J=>by dsimp only;rw[aD (show ¬ k=i by ext)]
    ·dsimp only;rw[aH rfl]
   ·by_cases e:k=i
    ·subst e;simp only[if_true];exact Od o L
    ·simp only[aD e];exact O k ()
  ·let⟨M,U,O,B⟩:=w;subst U;simp![mH,Y];let⟨R,c,_⟩:=Nx o nd lt l C;exact h1 M v O (λx q=>c.none_ q) (E.trans B)
 ·simp![↓Cj,if_true];exact h2 ys[x] H (bo q) (Jh o q cy) E
end
open PySem (Str)
section
variable{s u s0 v:aZ}{Q:D->aZ->Prop}{h:Hs}{no ns nd nn:Nat}
def ZL:y∈gP xs x↔y∈xs\/y=x:=by
 unfold gP;by_cases e:x∈xs
 ·rw[aH e];exact⟨.inl,λz=>z.elim id λq=>q ▸ e⟩
 ·rw[aD e,aP,aA]
theorem Ie{α:Type}{f:α->Sd}:∀(c:List α)(xs:List Sd),y∈c.foldl (λys a=>gP ys (f a)) xs↔y∈xs\/∃a∈c,y=f a
 |[],xs=>by simp
 |a::c,xs=>by
  rw[AM,Ie c,ZL];constructor
  ·rintro ((z|z)|⟨b,hb,e⟩)
   ·exact .inl z
   ·exact .inr ⟨a,.head _,z⟩
   ·exact .inr ⟨b,.tail _ hb,e⟩
  ·rintro (z|⟨b,hb,e⟩)
   ·exact .inl (.inl z)
   ·rcases aR.mp hb with q|q
    ·subst q;exact .inl (.inr e)
    ·exact .inr ⟨b,q,e⟩
def Iw(i:Nat){row:List D}(c:row∈km h.hands.length):fZ h row∈dh h i:=by
 induction i with|zero=>exact (Ie _ _).mpr (.inr ⟨row,c,rfl⟩)|succ i ih=>let⟨t,e⟩:=H_ (h:=h) i;rw[e];exact bz _ ih
theorem IR:∀(i:Nat)(x:Sd),x∈dh h i->∃row∈km h.hands.length,x=fZ h row\/TS (wS h) (fZ h row) x
 |0,x,hx=>by
  rcases (Ie _ _).mp hx with z|⟨row,g,e⟩
  ·cases z
  ·exact⟨row,g,.inl e⟩
 |i+1,x,hx=>by
  let c:x∈(match (dh h i)[i]? with
   |some x=>pP h x (gB h x) (dh h i)
   |none=>dh h i):=hx
  cases e:(dh h i)[i]? with|none=>rw[e]at c;exact IR i x c|some y=>
   rw[e]at c;rcases (Ie (f:=λk=>kq h y k) _ _).mp c with z|⟨k,o,q⟩
   ·exact IR i x z
   ·let⟨row,g,z⟩:=IR i y (ax e);refine⟨row,g,.inr ?_⟩;rcases z with z|z
    ·rw[<- z];exact .one ⟨k,o,q.symm⟩
    ·exact z.snoc ⟨k,o,q.symm⟩
def SF{α:Type}{v N:α->Nat}{L:List α}{x:α}(g:x∈L):v x+N x<=vf v N L:=by let⟨i,c⟩:=aQ.mp g;have:=MJ (f:=λi=>((L[i]?).map λx=>v x+N x).getD 0) (ac.mp c).1;rw[c]at this;exact this
def uw.uniq{M M':Sd->Nat}(B:r6 h ys R)(G:∀x∈R,x∈ys)(a:uw h ys wt M)(b:uw h ys wt M'):∀x∈ys,M x=M' x:=by
 let key:∀(m i:Nat)(z:Sd),i < m->R[i]?=some z->M z=M' z:=λm=>by
  induction m with
  |zero=>intro i z q;ext
  |succ m ih=>
   intro i z q hz;let c:=G z (ax hz);rw[a z c,b z c];refine IH λk E=>⟨rfl,?_⟩
   let⟨j,o⟩:=aQ.mp (B.2 i z hz k E);let g:j < i:=by have:=(ac.mp o).1;rw[bB]at this;ext
   rw[cj g]at o;exact ih j _ () o
 intro x C;let⟨i,q⟩:=aQ.mp (B.1 x C);exact key (i+1) i x () q
theorem Ob:∀n,0 < (km n).length
 |0=>by simp[km]|n+1=>by have:=Ob n;simp[km];ext
def Ze{most bd:Nat}(o:pv h)(I:∀i,so h i->(dh h i).length<=most)(q:s[0]?=some (.tbl "most_deeds" "worth"))(U:∀i(M:Nat->Sd->Nat)u,lL h i->(∀k,k < h.hands.length->uw h (dh h i) (xI h k bd) (M k))->(∀x∈dh h i,¬ TS (wS h) x x)->eJ s u->Q (.tup (bA h.hands.length λk=>.int (rE (M k) (dh h i):Nat))) u)(O:∀i x u,lL h i->x∈dh h i->TS (wS h) x x->eJ s u->Q .non u):wp (jk [fW h,.int (bd:Nat),.int (most:Nat)]) Q s:=by
 let hh:=o.1
 (simp![jk];simp![yg])
 refine IE o I λi no nd ns rs u st gl H l E G B ex=>?_;let len:=IK st;let g:=L7 (h:=h) (ys:=dh h i) hh l () B;let J:(dh h i).length<=324:=(B5 o st.1).1;let Y:0 < (dh h i).length:=List.length_pos_of_mem (Iw i (bo (Ob h.hands.length)));simp![];refine ZX hh (v9 hh i).1 (v9 hh i).2 J Y (λx C k L=>Dy hh st C L) (ex.at_ q) gl g (λM v a b x=>?_) (λx v a b c=>?_)
 ·simp![];exact U i M v st a b (ex.trans x)
 ·simp![];exact O i x v st a b (ex.trans c)
end
open PySem (Str)
section
variable{s u s0:aZ}{Q:D->aZ->Prop}{ys:List Sd}{no ns nd nn:Nat}{N:Sd->Nat}
def VA(t:s[1]?=some (.tbl "graph_numbers" "<lambda>")):wp (vx 1 "graph_numbers" mj l) Q s=Q (.fn s.length) (s++[.lam mj]):=by refine cU ?_;unfold vx;rw[t];exact aH ⟨rfl,rfl⟩
def Sa(c:ys.Nodup):(ys.map dI).zipWith (λp q=>D.tup [p,q]) (bA ys.length λi=>((ys[i]?).map F).getD .non)=ys.map λx=>D.tup [dI x,F x]:=by
 apply eW;intro i;rw[d9,av,av];cases e:ys[i]? with|none=>rfl|some x=>rw[vJ (ac.mp e).1,e];rfl
def QnE{F:Sd->D}{r:Nat}(c:ys.Nodup)(g:ys.length<=1000)(q:s[no]?=some (.lst (ys.map dI)))(o:s[r]?=some (.lst (bA ys.length λi=>((ys[i]?).map F).getD .non))):wp (rV (.ref no) (.ref r)) Q s=Q (.dic s.length) (s++[.dct true (oI ys F)]):=by unfold rV;rw[d8,fk q,d8,fk o,Sa c];exact OY c g
noncomputable def IU:Sd->Nat->Nat:=λ_ _=>1
def Vp(J:ys.Nodup)(hl:ys.length<=324)(q:∀x∈ys,∀k∈gB h x,kq h x k∈ys)(l:s[1]?=some (.tbl "graph_numbers" "<lambda>"))(gy:s[no]?=some (.lst (ys.map dI)))(g:tZ ys.length (eF h ys) ns s)(h1:∀N R d u,uw h ys IU N->r6 h ys R->R.length<=ys.length->(∀x∈R,x∈ys)->u[d]?=some (.dct true (oI ys λx=>.int (N x:Nat)))->s.length<=d->eJ s u->Q (.dic d) u)(h2:∀x u,x < ys.length->xi (eF h ys) x->eJ s u->Q .non u):wp (jj [.tup [.ref no,.ref ns]]) Q s:=by
 (simp![jj];simp![jQ])
 refine RE g () (λF r c nd lt O B go lr E=>?_) (λx c H cy E=>?_)
 ·let q0:∀Q,wp (vx 1 "graph_numbers" mj [some (.tup [.ref no,.ref ns]),some (.ref ns),some (.ref r)]) Q c=Q (.fn c.length) (c++[.lam mj]):=λQ=>VA (E.at_ l);simp![↓NJ,aK,if_false,↓q0];let I:eJ c (c++[MO.lam mj]):=(eJ.refl _).snoc _;let gl:(c++[MO.lam mj])[c.length]?=some (.lam mj):=pW;generalize c++[MO.lam mj]=u at *;let C:=E.trans I;refine P_ (wt:=wN ys IU) (g.ext C) () (I.at_ go) nd lt O B (λv x p H hp Y Q=>?_) λM h hM L G=>?_
  ·rw[Vh (Y.at_ gl)];unfold wN;rw[ae H];rfl
  let ge:(bA ys.length λi=>D.int (M i:Nat))=bA ys.length λi=>((ys[i]?).map λx=>D.int (M (ys.idxOf x):Nat)).getD .non:=by
   refine Ck mH λi o=>?_;rw[vJ o,ae o]
   show some (D.int (M i:Nat))=some (D.int (M (ys.idxOf ys[i]):Nat));have:=(eX (fB.mpr (bo o)) J).mp ((A4 (bo o)).trans (ae o).symm);rw[this]
  rw[ge]at L;let U:=λQ=>@QnE h Q ys no (λx=>D.int (M (ys.idxOf x):Nat)) u.length J () ((C.trans G).at_ gy) L;simp![↓U];let⟨R,f1,f2,f3⟩:=Nx q nd lt O B;exact h1 (λx=>M (ys.idxOf x)) R _ _ (Od q hM) f1 f2 f3 pW (by have:=(C.trans G).le;ext) ((C.trans G).snoc _)
 ·simp![↓Cj,if_true];exact h2 x c H cy E
def Qw{most:Nat}(o:pv h)(I:∀i,so h i->(dh h i).length<=most)(q:s[1]?=some (.tbl "graph_numbers" "<lambda>"))(U:∀i N R d u,lL h i->uw h (dh h i) IU N->r6 h (dh h i) R->R.length<=(dh h i).length->(∀x∈R,x∈dh h i)->u[d]?=some (.dct true (oI (dh h i) λx=>.int (N x:Nat)))->s.length<=d->eJ s u->Q (.dic d) u)(O:∀i x u,lL h i->x < (dh h i).length->xi (eF h (dh h i)) x->eJ s u->Q .non u):wp (jc [fW h,.int (most:Nat)]) Q s:=by
 let hh:=o.1
 (simp![jc];simp![j0])
 refine IE o I λi no nd ns rs u st gl H Y E G B ex=>?_;let len:=IK st;let g:=L7 (h:=h) (ys:=dh h i) hh Y () B;let J:(dh h i).length<=324:=(B5 o st.1).1;simp![];refine Vp (v9 hh i).1 J (λx C k L=>Dy hh st C L) (ex.at_ q) gl g (λN R d v a b l c e f x=>?_) (λx v a b c=>?_)
 ·simp![];exact U i N R d v st a b l c e (by have:=ex.le;ext) (ex.trans x)
 ·simp![];exact O i x v st a b (ex.trans c)
end
open PySem (Str)
section
variable{E:Nat->List (Nat×Nat)}{n:Nat}{F P G:List Nat}{x y z v:Nat}
def Rc.lt(g:∀i,i < n->∀p∈E i,p.2 < n)(h:Rc E x y)(c:x < n):y < n:=by
 induction h with|refl=>exact c|step h _ ih=>exact ih (g _ c _ h)
def Wj{i:Nat}(H:FO E F)(q:F[i]?=some x){a:Nat}(h:Rc E a v)(l:v∉F.take (i+1))(o:a∈F.take (i+1)):∃b,Rc E a b/\Rc E b v/\Rc E b x/\b∉F.take (i+1):=by
 induction h with|refl=>exact bh o l|@step a' _ p hp r ih=>
  by_cases g:p.2∈F.take (i+1)
  ·let⟨b,c,C,B,u⟩:=ih l g;exact⟨b,.step hp c,C,B,u⟩
  ·rcases H i x q a' o p hp with c|c
   ·exact bh c g
   ·exact⟨p.2,.step hp (.refl _),r,c,g⟩
def Rb{i k:Nat}(h:F[i]?=some x)(c:i < k):x∈F.take k:=by refine ax (i:=i) ?_;rw[cj c];exact h
def SN{i k:Nat}(l:F.Nodup)(h:F[i]?=some x)(o:x∈F.take k):i < k:=by
 let⟨j,g⟩:=aQ.mp o;let c:j < k:=by have:=(ac.mp g).1;rw[bB]at this;ext
 rw[cj c]at g;have:=(eX (ac.mp h).1 l).mp (h.trans g.symm);ext
theorem GJ(u:FO E F)(o:F.Nodup)(all:∀x,x < n->x∈F)(lt:∀x∈F,x < n)(l:∀i,i < n->∀p∈E i,p.2 < n):∀(d i x v m:Nat),F.length-i<=d->F[i]?=some x->F[m]?=some v->Rc E x v->∃k w,F[k]?=some w/\m<=k/\Rc E x w/\Rc E w x
 |0,i,x,v,m,hd,hx,_,_=>by have:=(ac.mp hx).1;ext
 |d+1,i,x,v,m,hd,hx,hv,h=>by
  by_cases J:m<=i
  ·exact⟨i,x,hx,J,.refl _,.refl _⟩
  ·let c:v∉F.take (i+1):=λz=>by have:=SN o hv z;ext
   let⟨b,q,G,Y,U⟩:=Wj u hx h c (Rb hx ());let Q:b∈F:=all b (q.lt l (lt x (ax hx)));let⟨j,g⟩:=aQ.mp Q;let O:i < j:=by refine iu λz=>U (Rb g ())
   let L:=(ac.mp g).1;let⟨k,w,I,H,C,B⟩:=GJ u o all lt l d j b v m () g hv G;exact⟨k,w,I,H,q.trans C,B.trans Y⟩
structure MI(n:Nat)(E:Nat->List (Nat×Nat))(F:List Nat)(m:Nat)(mk:Nat->Option Nat):Prop where
 done:∀(k w:Nat),m<=k->F[k]?=some w->(mk w).isSome=true
 own:∀v r,mk v=some r->r < n/\Rc E v r/\Rc E r v
 same:∀v w,v < n->w < n->Rc E v w->Rc E w v->mk v=mk w
 lt:∀v r,mk v=some r->v < n
def MI.start:MI n E F F.length (λ_=>none):=⟨λk w g c=>by have:=(ac.mp c).1;ext,λv r h=>(nomatch h),λ_ _ _ _ _ _=>rfl,λv r h=>(nomatch h)⟩
def MI.skip{m root:Nat}{mk:Nat->Option Nat}(I:MI n E F (m+1) mk)(g:F[m]?=some root)(h:(mk root).isSome=true):MI n E F m mk:=
 ⟨λk w l c=>by
  by_cases e:k=m
  ·subst e;rw[g]at c;cases c;exact h
  ·exact I.done k w () c,I.own,I.same,I.lt⟩
def MI.mark{m root:Nat}{mk:Nat->Option Nat}{S:List Nat}(fo:FO E F)(nd:F.Nodup)(all:∀x,x < n->x∈F)(lt:∀x∈F,x < n)(C:∀i,i < n->∀p∈E i,p.2 < n)(I:MI n E F (m+1) mk) (B:F[m]?=some root) (J:mk root=none) (Q:root∈S) (o:∀v∈S,v < n/\mk v=none/\Rc E v root) (s2:∀v,v < n->mk v=none->∀p∈E v,p.2∈S->v∈S):MI n E F m (λv=>if v∈S then some root else mk v):=by
 let U:=lt root (ax B);let O:∀v∈S,Rc E root v:=λv c=>by
  let⟨g,l,h3⟩:=o v c;let⟨i,hi⟩:=aQ.mp (all v g);let⟨k,w,H,k2,G,Y⟩:=GJ fo nd all lt C _ i v root m (aw _) hi B h3;by_cases e:k=m
  ·subst e;rw[B]at H;cases H;exact Y
  ·have:=I.done k w () H;rw[<- I.same v w g (G.lt C g) G Y,l]at this;cases this
 let u:∀v,v < n->Rc E v root->Rc E root v->v∈S:=λv c a b=>by
  let key:∀{a t:Nat},Rc E a t->t=root->a < n->Rc E root a->a∈S:=by
   intro a t h
   induction h with
   |refl=>intro e _ _;rw[e];exact Q
   |@step a' _ p hp r ih=>
    intro e L q;let hm:=ih e (C _ L _ hp) (q.snoc hp);refine s2 a' L ?_ p hp hm;rw[I.same a' root L U (by rw[<- e];exact .step hp r) q];exact J
  exact key a rfl c b
 refine⟨λk w g l=>?_,λv r h=>?_,λv w c hw a b=>?_,λv r h=>?_⟩
 ·by_cases e:k=m
  ·subst e;rw[B]at l;cases l;rw[aH Q];rfl
  ·split
   ·rfl
   ·exact I.done k w () l
 ·split at h
  ·rename_i c;cases h;exact⟨U,(o v c).2.2,O v c⟩
  ·exact I.own v r h
 ·by_cases g:v∈S
  ·have:w∈S:=u w hw (b.trans (o v g).2.2) ((O v g).trans a);rw[aH g,aH this]
  ·have:w∉S:=λl=>g (u v c (a.trans (o w l).2.2) ((O w l).trans b));rw[aD g,aD this];exact I.same v w c hw a b
 ·split at h
  ·rename_i c;exact (o v c).1
  ·exact I.lt v r h
def MI.eq_iff{mk:Nat->Option Nat}(I:MI n E F 0 mk)(all:∀x,x < n->x∈F){a b:Nat}(o:a < n)(u:b < n):mk a=mk b↔Rc E a b/\Rc E b a:=by refine⟨λe=>?_,λc=>by let⟨h,g⟩:=c;exact I.same a b o u h g⟩;let⟨i,q⟩:=aQ.mp (all a o);have:=I.done i a (bU _) q;let⟨r,l⟩:=iP.mp this;let⟨_,h,g⟩:=I.own a r l;let⟨_,C,B⟩:=I.own b r (by rw[<- e];exact l);exact⟨h.trans B,C.trans g⟩
def MI.cyc{mk:Nat->Option Nat}(I:MI n E F 0 mk)(all:∀x,x < n->x∈F)(o:∀i,i < n->∀p∈E i,p.2 < n){i:Nat}(l:i < n):(∃p∈E i,mk p.2=mk i)↔xi E i:=
 ⟨λg=>by let⟨p,h,e⟩:=g;exact⟨p,h,((I.eq_iff all (o i l p h) l).mp e).1⟩,λc=>by let⟨p,h,r⟩:=c;exact⟨p,h,(I.eq_iff all (o i l p h) l).mpr ⟨r,.step h (.refl _)⟩⟩⟩
end
open PySem (Str)
section
variable{s u s0:aZ}{Q:D->aZ->Prop}{E:Nat->List (Nat×Nat)}{n ns nb i j:Nat}
noncomputable def bk(E:Nat->List (Nat×Nat))(i j:Nat):List Nat:=(bT i).flatMap λa=>((E a).filter λp=>decide (p.2=j)).map λ_=>a
def QJ{a:Nat}:a∈bk E i j↔a < i/\∃p∈E a,p.2=j:=by
 unfold bk;rw[nM];constructor
 ·rintro ⟨b,hb,hm⟩
  let⟨p,c,rfl⟩:=bH.mp hm;let⟨h,g⟩:=ig.mp c;exact⟨bY.mp hb,p,h,of_decide_eq_true g⟩
 ·rintro ⟨ha,p,c,e⟩
  exact⟨a,bY.mpr ha,bH.mpr ⟨p,ig.mpr ⟨c,cz e⟩,rfl⟩⟩
def OH:bk E (i+1) j=bk E i j++((E i).filter λp=>decide (p.2=j)).map λ_=>i:=by unfold bk;rw[ij,xC];simp
def bq(E:Nat->List (Nat×Nat))(i q j:Nat):List Nat:=bk E i j++(((E i).take q).filter λp=>decide (p.2=j)).map λ_=>i
theorem PJ(few:∀i,i < n->(E i).length<=3):∀i,i<=n->(bk E i j).length<=3*i
 |0,_=>by simp[bk]|i+1,hi=>by rw[OH,aC,af];have h:=PJ few i ();have g:=oD (λp=>decide (p.2=j)) (E i);have c:=few i ();ext
structure II(n:Nat)(B:Nat->List Nat)(nb:Nat)(u:aZ):Prop where
 at_:∃bs:Nat,u[nb]?=some (.lst (bA n λj=>.ref (bs+j)))/\∀j,j < n->u[bs+j]?=some (.lst ((B j).map il))
def Q7{a:CE}{I:Wk->aZ->Prop}: wp (qd a l) I s=wp (a l) (λx g=>match x with
  | .ref n=>wp (getL n) (λds c=>I ⟨(iL 0 ds.length).zipWith (λi d=>.tup [i,d]) ds,gw n ds⟩ c) g
  |_=>False) s:=by
 unfold qd;rw[d8];congr 1;funext x s1;cases x<;>first|exact ib|(dsimp only;rw[d8];congr 1;funext ds c;rw[cF])
def X3{k:Nat}(c:k < i):(s++bQ i o)[s.length+k]?=some o:=by rw[aE (),show s.length+k-s.length=k by ext,fD,aH c]
def Pj{ds:List D}(h:((iL 0 ds.length).zipWith (λi d=>D.tup [i,d]) ds)[i]?=some e):∃d,ds[i]?=some d/\e=.tup [.int (i:Nat),d]:=by
 rw[ue,d9]at h;let c:i < ds.length:=by
  refine iu λz=>?_;rw[bX (l:=ds) ()]at h;cases g:(bA ds.length λi=>D.int (i:Nat))[i]? with|none=>rw[g]at h;cases h|some _=>rw[g]at h;cases h
 rw[vJ c,ae c]at h;cases h;exact⟨_,ae c,rfl⟩
def RU{q:Nat}(c:(E i)[q]?=some p):bq E i (q+1) j=bq E i q j++(if p.2=j then [i] else []):=by
 unfold bq;rw[Eo c,mE,bw,<- br];congr 1;by_cases e:p.2=j
 ·simp[e]
 ·simp[e]
def Yz:bq E i (E i).length j=bk E (i+1) j:=by unfold bq;rw[eK,OH]
def QnS{q:Nat}(few:∀i,i < n->(E i).length<=3)(c:i < n):(bq E i q j).length<=3*n:=by unfold bq;rw[aC,af];let o:=PJ (j:=j) few i ();let g:=oD (λp:Nat×Nat=>decide (p.2=j)) ((E i).take q);let h:=few i c;rw[bB]at g;ext
def QnT(g:tZ n E ns s)(hn:n<=324)(hq:∀r u,II n (bk E n) r u->s.length<=r->eJ s u->Q (.ref r) u):wp (jN [.ref ns]) Q s:=by
 let⟨rs,I,J,h3⟩:=id g.at_;let c1:n<=eV:=gH ()
 (simp![jN];simp![yo,↓fk I,im,af,J,c1])
 refine PP (λi h v=>v=s++bQ i (MO.lst [])/\h=bA i λj=>.ref (s.length+j)) (λi h v w=>by rw[w.1];show _=_;rw[ao (ly I)];exact I) ⟨by simp,rfl⟩ (λi d h v hd w=>?_) (λh v w=>?_)
 ·let⟨rfl,rfl⟩:=w;simp![bU];refine⟨by rw[br,<- List.replicate_succ',lO],?_⟩;rw[A9,aC,fw]
 ·let⟨rfl,rfl⟩:=w;rw[af,J];let a1:(s++bQ n (MO.lst [])++[MO.lst (bA n λj=>.ref (s.length+j))])[(s++bQ n (MO.lst [])).length]?=some (.lst (bA n λj=>.ref (s.length+j))):=pW;let a2:∀j,j < n->(s++bQ n (MO.lst [])++[MO.lst (bA n λj=>.ref (s.length+j))])[s.length+j]?=some (.lst ((bk E 0 j).map il)):=λj G=>uY (X3 G);let a3:eJ s (s++bQ n (MO.lst [])++[MO.lst (bA n λj=>.ref (s.length+j))]):=⟨bQ n (MO.lst [])++[MO.lst (bA n λj=>.ref (s.length+j))],by rw[br]⟩
  let a4:s.length+n<=(s++bQ n (MO.lst [])).length:=by simp
  generalize (s++bQ n (MO.lst [])).length=nb at *;generalize s++bQ n (MO.lst [])++[MO.lst (bA n λj=>.ref (s.length+j))]=s1 at *;simp![↓Q7,↓fk (a3.at_ I)];refine vp (λi l v=>∃(h Y C B:Option D),l=[some (.ref ns),some (.ref nb),h,Y,C,B]/\v[nb]?=some (.lst (bA n λj=>.ref (s.length+j)))/\(∀j,j < n->v[s.length+j]?=some (.lst ((bk E i j).map il)))/\eJ s v) (λ_ _ _ w=>by let⟨_,_,_,_,_,_,_,g⟩:=w;exact g.at_ I)
   ⟨_,_,_,_,rfl,a1,a2,a3⟩ (λRw1 i d l v up1 rt1 hd H=>?_) (λl v H=>?_)
  ·let⟨h,Y,C,B,el,b1,U,O⟩:=H;subst el;let⟨dd,c,rfl⟩:=Pj hd;rw[av]at c;cases L:rs[i]? with|none=>rw[L]at c;cases c|some r=>
    rw[L]at c;cases c;let hi:i < n:=by rw[<- J];exact (ac.mp L).1
    let gr:=h3 i r L;let lr:=ly gr;simp![↓fk (O.at_ gr)];refine vp (λq l v=>∃(C B:Option D),l=[some (.ref ns),some (.ref nb),some (.int (i:Nat)),some (.ref r),C,B]/\v[nb]?=some (.lst (bA n λj=>.ref (s.length+j)))/\(∀j,j < n->v[s.length+j]?=some (.lst ((bq E i q j).map il)))/\eJ s v) (λ_ _ _ w=>by let⟨_,_,_,_,_,g⟩:=w;exact g.at_ gr)
     ⟨_,_,rfl,b1,λj G=>by rw[U j G];simp[bq],O⟩ (λRw2 q d l v u rt2 hd H=>?_) (λl v H=>?_)
    ·let⟨C,B,el,c1,c2,c3⟩:=H;subst el;rw[av]at hd;cases ep:(E i)[q]? with|none=>rw[ep]at hd;cases hd|some p=>
      rw[ep]at hd;cases hd;let o:=g.wf i hi p (ax ep);let c:∀(Q:D->aZ->Prop)I,wp (cY (bA n λj=>D.ref (s.length+j)) ((p.2:Nat):Int)) Q I=Q (.ref (s.length+p.2)) I:=λQ I=>yN o;unfold xM;simp![↓fk c1,↓c,↓fk (c2 p.2 o),↓oK (c2 p.2 o)];let h:=QnS (q:=q) (j:=p.2) g.few hi;refine⟨sC (by rw[af];ext),u ⟨_,_,rfl,by rw[aB ()];exact c1,λj G=>?_,c3.put ()⟩⟩;by_cases e:p.2=j
      ·subst e;rw[aF (ly (c2 p.2 o)),RU ep,aH rfl,bw];rfl
      ·rw[aB (),RU ep,aD e,bu];exact c2 j G
    ·let⟨C,B,el,c1,c2,c3⟩:=H;subst el;rw[af]at c2;simp![];exact up1 ⟨_,_,_,_,rfl,c1,λj G=>by rw[c2 j G,Yz],c3⟩
  ·let⟨h,Y,C,B,el,b1,U,O⟩:=H;subst el;let c:((iL 0 (rs.map D.ref).length).zipWith (λi d=>D.tup [i,d]) (rs.map D.ref)).length=n:=by simp[iL,J]
   rw[c]at U;simp![];exact hq _ v ⟨⟨s.length,b1,U⟩⟩ () O
end
open PySem (Str)
section
variable{s u s0:aZ}{Q:D->aZ->Prop}{E:Nat->List (Nat×Nat)}{n ns nb nm root:Nat}{mk:Nat->Option Nat}{S N W:List Nat}
def II.row{B:Nat->List Nat}(b:II n B nb s0){j:Nat}(c:j < n):∃(ds:List D)(r:Nat),(∀{v},eJ s0 v->v[nb]?=some (.lst ds)/\v[r]?=some (.lst ((B j).map il)))/\∀(Q:D->aZ->Prop)s,wp (cY ds ((j:Nat):Int)) Q s=Q (.ref r) s:=by let⟨⟨bs,h,g⟩⟩:=b;exact⟨_,bs+j,λe=>⟨e.at_ h,e.at_ (g j c)⟩,λQ s=>yN c⟩
def wo:Option Nat->D
 |none=>.non|some r=>.int (r:Nat)
def gD(n:Nat)(mk:Nat->Option Nat):List D:=bA n λi=>wo (mk i)
noncomputable def iD(root:Nat)(mk:Nat->Option Nat)(S:List Nat):Nat->Option Nat:=λv=>if v∈S then some root else mk v
def Kn{t:Nat}(c:t < n):(gD n (iD root mk S)).set t (.int (root:Nat))=gD n (iD root mk (S++[t])):=by
 unfold gD;rw[Nl c];congr 1;funext j;unfold iD;by_cases e:j=t
 ·subst e;simp[wo]
 ·rw[aD e];by_cases h:j∈S
  ·rw[aH h,aH (by simp[h])]
  ·rw[aD h,aD (by simp[h,e])]
noncomputable def t_:D->Bool
 | .non=>false|_=>true
def Te{t:Nat}(c:t < n)(o:iD root mk S t=none):(gD n (iD root mk (S++[t]))).countP t_=(gD n (iD root mk S)).countP t_+1:=by
 rw[<- Kn c];let g:t < (gD n (iD root mk S)).length:=by unfold gD;rw[mH];exact c
 rw[List.countP_set g];have:(gD n (iD root mk S))[t]=.non:=by have:=vJ (f:=λi=>wo (iD root mk S i)) c;rw[o]at this;have h:=ae g;exact aM (h.symm.trans this)
 rw[this];rfl
def Si:wp (sP (wo m) .non) Q s=Q (.bl m.isNone) s:=by cases m<;>exact cU rfl
def Zz:wp (mw (wo m) .non) Q s=Q (.bl m.isSome) s:=by cases m<;>exact cU rfl
def Ix{t:Nat}(c:t < n):wp (cY (gD n mk) ((t:Nat):Int)) Q s=Q (wo (mk t)) s:=yN c
structure MS(n:Nat)(E:Nat->List (Nat×Nat))(root:Nat)(mk:Nat->Option Nat)(S:List Nat):Prop where
 a1:root∈S
 a2:∀v∈S,v < n/\mk v=none/\Rc E v root
def Xl{v:Nat}(h:iD root mk S v=none):v∉S/\mk v=none:=by
 unfold iD at h;split at h
 ·cases h
 ·rename_i c;exact⟨c,h⟩
def Qn0{v:Nat}(h:iD root mk S v≠none):v∈S\/mk v≠none:=by
 unfold iD at h;split at h
 ·rename_i c;exact .inl c
 ·exact .inr h
def Wi(g:II n (bk E n) nb s0)(x0:eJ s0 s)(U:s[nm]?=some (.lst (gD n mk)))(l1:s0.length<=nm)(hr:root < n)(O:n<=324)(wf:∀i,i < n->∀p∈E i,p.2 < n)(h1:∀r,mk root=some r->Q .non s)(h2:mk root=none->∀S u,MS n E root mk S->(∀a∈S,∀b∈bk E n a,b∈S\/mk b≠none)->u[nm]?=some (.lst (gD n (iD root mk S)))->eJ s0 u->(∀k,k < s.length->k≠nm->u[k]?=s[k]?)->Q .non u):wp (jI [.ref nb,.int (root:Nat),.ref nm,.int (root:Nat)]) Q s:=by
 let q1:∀(Q:D->aZ->Prop)s,wp (cY (gD n mk) ((root:Nat):Int)) Q s=Q (wo (mk root)) s:=λQ s=>Ix hr;let c1:1<=eV:=gH ();let lm:=ly U;let lx:=x0.le;let nd:[nm,s.length].Nodup:=by simp;ext
 let hA:∀a∈[nm,s.length],s0.length<=a:=by simp;ext
 let ix:∀(f:Nat->Option Nat){t:Nat},t < n->MM.n_ (gD n f).length ((t:Nat):Int)=some t:=λf t ht=>by unfold gD;rw[mH];exact HR ht
 let cle:∀f,(gD n f).countP t_<=324:=λf=>by have:=List.countP_le_length (p:=t_) (l:=gD n f);unfold gD at this ⊢;rw[mH]at this;ext
 (simp![jI];simp![j9,↓fk U,↓q1,↓Zz])
 cases G:mk root with
 |some r=>
  simp![gW,if_true];exact h1 r G
 |none=>
  let eset:(gD n mk).set root (.int (root:Nat))=gD n (iD root mk [root]):=by
   let e0:gD n mk=gD n (iD root mk []):=by unfold gD iD;congr 1
   rw[e0,Kn hr];try rfl
  simp![gX,aK,if_false,↓fk U,ix mk hr,↓oK U,eset,c1];let el0:(s.set nm (MO.lst (gD n (iD root mk [root])))).length=s.length:=dq;rw[el0];let K:qL s [nm,s.length] (s.set nm (MO.lst (gD n (iD root mk [root])))++[MO.lst [.int (root:Nat)]]) [gD n (iD root mk [root]),[root].map il]:=((qL.nil.old U).put (i:=0) (by simp) rfl).snoc el0;generalize s.set nm (MO.lst (gD n (iD root mk [root])))++[MO.lst [.int (root:Nat)]]=s1 at *;refine C1 (λl v=>∃(S W:List Nat)(y5 y6:Option D),l=[some (.ref nb),some (.int (root:Nat)),some (.ref nm),some (.int (root:Nat)),some (.ref s.length),y5,y6]/\MS n E root mk S/\W.Nodup/\(∀w∈W,w∈S)/\(∀a∈S,a∉W->∀b∈bk E n a,b∈S\/mk b≠none)/\qL s [nm,s.length] v [gD n (iD root mk S),W.map il])
   (λ(_:Loc)(v:aZ)=>match (v[nm]?:Option MO),(v[s.length]?:Option MO) with
    |some (.lst ms),some (.lst ws)=>2*(1000-ms.countP t_)+ws.length
    |_,_=>0) ⟨[root],[root],_,_,rfl,⟨by simp,λv hv=>by rw[aA.mp hv];exact⟨hr,G,.refl _⟩⟩,by simp,λw L=>L,λa I O=>bh I O,K⟩ (λRw1 l v up1 rt1 Y=>?_)
  clear K;let⟨S,W,y5,y6,el,M,b0,b1,b2,K⟩:=Y;subst el;simp![↓fk (K.at_ 1 _ _ rfl rfl),af];rcases oE W with e|⟨B,x,e⟩
  ·subst e;rw[aD (by simp)];exact h2 G S v M (λa I=>b2 a I (by simp)) (K.at_ 0 _ _ rfl rfl) (K.ext x0 hA) λk c h=>K.oth k c (by simp;ext)
  rw[oF]at e;subst e;rw[aH (by simp)];let hxS:=b1 x (by simp);let⟨hx,_,hxr⟩:=M.a2 x hxS;let hmu:(match (v[nm]?:Option MO),(v[s.length]?:Option MO) with
   |some (.lst ms),some (.lst ws)=>2*(1000-ms.countP t_)+ws.length
   |_,_=>0)=2*(1000-(gD n (iD root mk S)).countP t_)+(B.length+1):=by
   rw[K.at_ 0 _ _ rfl rfl,K.at_ 1 _ _ rfl rfl];simp
  let wm:(B++[x]).map il=B.map il++[.int (x:Nat)]:=by rw[bw];rfl
  rw[wm]at K ⊢;let K1:=K.put (i:=1) (es:=B.map il) nd rfl;simp![wG,wH,↓oK (K.at_ 1 _ _ rfl rfl)];let H:∀{N:List Nat},∀w∈B++N,w∈S++N:=λw L=>by
   rcases aP.mp L with h|h
   ·exact bz _ (b1 w (bz _ h))
   ·exact bn _ h
  clear K;generalize v.set s.length (MO.lst (B.map il))=v1 at *;let⟨ds,r,gr,qi⟩:=g.row hx;let⟨gb,gv⟩:=gr (K1.ext x0 hA);simp![↓fk gb,↓qi,↓fk gv];refine vp (λq l v=>∃(N:List Nat)(y6:Option D),l=[some (.ref nb),some (.int (root:Nat)),some (.ref nm),some (.int (root:Nat)),some (.ref s.length),some (.int (x:Nat)),y6]/\MS n E root mk (S++N)/\(∀b∈(bk E n x).take q,b∈S++N\/mk b≠none)/\(B++N).Nodup/\(gD n (iD root mk (S++N))).countP t_=(gD n (iD root mk S)).countP t_+N.length/\qL s [nm,s.length] v [gD n (iD root mk (S++N)),(B++N).map il]) (λ_ _ _ w=>by let⟨_,_,_,_,_,_,_,K⟩:=w;exact (gr (K.ext x0 hA)).2)
   ⟨[],_,rfl,by rw[bu];exact M,by simp,by rw[bu];exact (c7.mp b0).1,by rw[bu];rfl,by rw[bu,bu];exact K1⟩ (λRw2 q d l v2 J rt2 hd Y=>?_) (λl v2 Y=>?_)
  ·let⟨N,y6',el,M2,f1,f0,f4,K⟩:=Y;subst el;rw[av]at hd;cases g:(bk E n x)[q]? with|none=>rw[g]at hd;cases hd|some b=>
    rw[g]at hd;cases hd;let⟨C,p,U,l⟩:=QJ.mp (ax g);let G:(bk E n x).take (q+1)=(bk E n x).take q++[b]:=by rw[mF,g];rfl
    let O:∀(Q:D->aZ->Prop)s,wp (cY (gD n (iD root mk (S++N))) ((b:Nat):Int)) Q s=Q (wo (iD root mk (S++N) b)) s:=λQ s=>Ix C;unfold il;simp![↓fk (K.at_ 0 _ _ rfl rfl),↓O,↓Si];cases h:iD root mk (S++N) b with
    |some t=>
     simp![wF,aK,if_false];refine J ⟨N,_,rfl,M2,λc o=>?_,f0,f4,K⟩;rw[G]at o;rcases aP.mp o with o|o
     ·exact f1 c o
     ·rw[aA.mp o];exact Qn0 (by rw[h];simp)
    |none=>
     let⟨g1,g2⟩:=Xl h;let v:=K.put (i:=0) (es:=gD n (iD root mk (S++N++[b]))) nd rfl;let K3:=(v.put (i:=1) (es:=(B++N).map il++[.int (b:Nat)]) nd rfl).cg (C':=[gD n (iD root mk (S++(N++[b]))),(B++(N++[b])).map il]) (by rw[<- br,<- br,bw (l₂:=[b])];rfl);simp![pz,if_true,↓fk (K.at_ 0 _ _ rfl rfl),ix _ C,↓oK (K.at_ 0 _ _ rfl rfl),Kn C,↓fk (v.at_ 1 _ _ rfl rfl),↓oK (v.at_ 1 _ _ rfl rfl)];let u:(B++N).length<=1000:=cW (A0 n _ f0 λw L=>(M2.a2 w (H w L)).1) ();refine⟨sC (by rw[af];exact u),J ⟨N++[b],_,rfl,⟨by rw[<- br];exact bz _ M2.a1,λc o=>?_⟩,λc o=>?_,?_,?_,K3⟩⟩
     ·rw[<- br]at o;rcases aP.mp o with o|o
      ·exact M2.a2 c o
      ·rw[aA.mp o];exact⟨C,g2,.step U (by rw[l];exact hxr)⟩
     ·rw[G]at o;rw[<- br];rcases aP.mp o with o|o
      ·exact (f1 c o).imp (λz=>bz _ z) id
      ·exact .inl (bn _ o)
     ·rw[<- br,c7];refine⟨f0,by simp,λa I c o e=>?_⟩;rw[aA]at o;subst o e;exact g1 (H _ I)
     ·rw[<- br,Te C h,f4,aC];rfl
  ·let⟨N,y6',el,M2,f1,f0,f4,K⟩:=Y;subst el;rw[af,eK]at f1;simp![];refine up1 ⟨S++N,B++N,_,_,rfl,M2,f0,H,λa I O b C=>?_,K⟩ ?_
   ·let c:a∈S:=(aP.mp I).resolve_right λz=>O (bn _ z);by_cases e:a=x
    ·subst e;exact f1 b C
    ·exact (b2 a c (λz => by
       rcases aP.mp z with z|z
       ·exact O (bz _ z)
       ·exact e (aA.mp z)) b C).imp (λz=>bz _ z) id
   ·refine Nat.lt_of_lt_of_eq ?_ hmu.symm;rw[K.at_ 0 _ _ rfl rfl,K.at_ 1 _ _ rfl rfl];dsimp only;rw[af,f4,aC];have:=cle (iD root mk (S++N));ext
end
open PySem (Str)
section
variable{Q:D->aZ->Prop}{E:Nat->List (Nat×Nat)}{n ns nb nm root:Nat}{mk:Nat->Option Nat}
def Ve{a:CE}{I:Wk->aZ->Prop}: wp (yF a l) I s=wp (a l) (λx g=>match x with
  | .ref n=>wp (getL n) (λds c=>I ⟨ds.reverse,λs=>s[n]?=some (.lst ds)⟩ c) g
  |_=>False) s:=by
 unfold yF;rw[d8];congr 1;funext x s1;cases x<;>first|exact ib|(dsimp only;rw[d8];congr 1;funext ds c;rw[cF])
def Qn3:wp (nj (wo a) (wo b)) Q s=Q (.bl (decide (a=b))) s:=by
 cases a with
 |none=>
  cases b with|none=>exact cU rfl|some b=>exact cU rfl
 |some a=>
  cases b with|none=>exact cU rfl|some b=>
   have:nj (wo (some a)) (wo (some b)) s=.ok (.bl (decide (some a=some b))) s:=by
    show nj (.int (a:Nat)) (.int (b:Nat)) s=_;let e:((a:Int) == (b:Int))=decide (some a=some b):=by
     by_cases h:a=b
     ·subst h;simp
     ·simp[h];ext
    rw[<- e];rfl
   exact cU this
def Qn4(g:tZ n E ns s)(hn:n<=324)(hq:∀(cy:Nat->Bool)r u,(∀i,i < n->(cy i=true↔xi E i))->u[r]?=some (.lst (bA n λi=>.bl (cy i)))->s.length<=r->eJ s u->Q (.ref r) u):wp (jF [.ref ns]) Q s:=by
 let⟨rs,O,L,h3⟩:=id g.at_;let c1:n<=eV:=gH ()
 (simp![jF];simp![yc])
 refine QnT g hn λnb u hb hnb ex=>?_;let gu:=g.ext ex;let w:∀(A:List D->aZ->Prop),wp (collect (aS 0) b7 (aN .non) (gw ns (rs.map D.ref)) (rs.map D.ref) [none]) A u=A (gD n λ_=>none) u:=λA=>by rw[A3 (f:=λ_=>.non) (show gw ns _ _ from ex.at_ O) (λk d hd Q=>by simp![]),af,L];rfl
 simp![↓fk (ex.at_ O),im,↓w,af,L,c1,↓Ve];refine PN (gu.ext ((eJ.refl _).snoc _)) () λF ro v J all go hro ev=>?_;let nd:F.Nodup:=by have:=J.nd;rwa [bu]at this
 let lt:∀x∈F,x < n:=λx hx=>J.lt x (bz _ hx);let exv:eJ u v:=((eJ.refl _).snoc _).trans ev;let gm:v[u.length]?=some (.lst (gD n λ_=>none)):=ev.at_ pW;let lro:u.length < ro:=by
  have:(u++[MO.lst (gD n λ_=>none)]).length=u.length+1:=by simp
  ext
 simp![↓fk go];refine vp (λi l v=>∃(mk:Nat->Option Nat)(y3:Option D),l=[some (.ref ns),some (.ref nb),some (.ref u.length),y3]/\MI n E F (F.length-i) mk/\v[u.length]?=some (.lst (gD n mk))/\v[ro]?=some (.lst (F.map il))/\eJ u v) (λ_ _ _ w=>by let⟨_,_,_,_,_,g,_⟩:=w;exact g)
  ⟨_,_,rfl,MI.start,gm,go,exv⟩ (λRw1 i d l v2 up1 rt1 hd hW=>?_) (λl v2 hW=>?_)
 ·let⟨mk,y3,el,I,b1,Y,U⟩:=hW;subst el;let C:i < F.length:=by have:=(ac.mp hd).1;rw[gG,af]at this;exact this
  rw[oA (by rw[af];exact C),af,av]at hd;cases o:F[F.length-1-i]? with|none=>rw[o]at hd;cases hd|some root=>
   rw[o]at hd;cases hd;let u:=lt root (ax o);let E:F.length-i=(F.length-1-i)+1:=by ext
   rw[E]at I;let H:F.length-(i+1)=F.length-1-i:=by ext
   unfold il;simp![];refine Wi (mk:=mk) hb U b1 (aw _) u hn g.wf (λr B=>?_) λB S Q M l O L G=>?_
   ·simp![];exact up1 ⟨mk,_,rfl,by rw[H];exact I.skip o (by rw[B];rfl),b1,Y,U⟩
   ·simp![];refine up1 ⟨iD root mk S,_,rfl,?_,O,by rw[G ro (ly Y) ()];exact Y,L⟩;rw[H];exact MI.mark J.fo nd all lt g.wf I o B M.a1 M.a2 λv q h p hp c=>(l p.2 c v (QJ.mpr ⟨q,p,hp,rfl⟩)).resolve_right λz=>z h
 ·let⟨mk,y3,el,I,b1,Y,U⟩:=hW;subst el;rw[gG,af,eE]at I;let G:=ex.trans U;simp![↓Q7,↓fk (G.at_ O),im];let le:((iL 0 (rs.map D.ref).length).zipWith (λi d=>D.tup [i,d]) (rs.map D.ref)).length=n:=by simp[iL,L]
  rw[le];refine⟨c1,?_⟩;rw[Cp (f:=λi=>.bl (bP (∃q,q < (E i).length/\mk ((E i).getD q (0,0)).2=mk i))) (show gw ns _ _ from G.at_ O) (λi d hd=>?_),le]
  ·simp![];refine hq (λi=>bP (∃q,q < (E i).length/\mk ((E i).getD q (0,0)).2=mk i)) _ _ (λi C=>?_) pW (by have:=G.le;ext) (G.snoc _);rw[GZ,<- I.cyc all g.wf C];constructor
   ·rintro ⟨q,c,e⟩
    rw[eY,ae c]at e;exact⟨_,bo c,e⟩
   ·rintro ⟨p,hp,e⟩
    let⟨q,c⟩:=aQ.mp hp;refine⟨q,(ac.mp c).1,?_⟩;rw[eY,c];exact e
  ·let⟨c,h,rfl⟩:=Pj hd;rw[av]at h;cases o:rs[i]? with|none=>rw[o]at h;cases h|some r=>
    rw[o]at h;cases h;let C:i < n:=by rw[<- L];exact (ac.mp o).1
    refine⟨_,_,rfl,λQ=>?_⟩;let v:=G.at_ (h3 i r o);let few:=g.few i C;let B:∀(A:List D->aZ->Prop),wp (collect (gI 2 (cL (aS 0) (cL (aS 1) g8))) b7 (c2 nj (c2 aW (aq 3) (aq 1)) (c2 aW (aq 3) (aq 2))) (gw r ((E i).map xM)) ((E i).map xM) [none,none,some (.int (i:Nat)),some (.ref u.length)]) A v2=A (bA (E i).length λq=>.bl (bP (mk ((E i).getD q (0,0)).2=mk i))) v2:=λA=>by
     rw[Cp (f:=λq=>.bl (bP (mk ((E i).getD q (0,0)).2=mk i))) (show gw r _ _ from v) (λq d hd=>?_),af];rw[av]at hd;cases ep:(E i)[q]? with|none=>rw[ep]at hd;cases hd|some p=>
      rw[ep]at hd;cases hd;refine⟨_,_,rfl,λQ=>?_⟩;let l:=g.wf i C p (ax ep);let J:∀(Q:D->aZ->Prop)s,wp (cY (gD n mk) ((p.2:Nat):Int)) Q s=Q (wo (mk p.2)) s:=λQ s=>Ix l;let H:∀(Q:D->aZ->Prop)s,wp (cY (gD n mk) ((i:Nat):Int)) Q s=Q (wo (mk i)) s:=λQ s=>Ix C;simp![↓fk b1,↓J,↓H,↓Qn3];rw[eY,ep,iC];rw[show decide (mk p.2=mk i)=bP (mk p.2=mk i) from Lo decide_eq_true_iff]
    simp![↓fk v,im,↓B,af,↓VB];exact eq_iff_iff.mpr ⟨λz=>z.2,λz=>⟨gH (),z⟩⟩
end
open PySem (Str)
section
variable{E:Nat->List (Nat×Nat)}{n a t q x y z k j m:Nat}{w v:List Nat}{P:List (Nat×List Nat)}
noncomputable abbrev Sr:=List (Nat×List Nat)×Nat×Nat
def xg(E:Nat->List (Nat×Nat))(a:Nat)(z:Sr):Option Sr:=match z.1[z.2.1]? with
 |none=>none
 |some p=>match (E p.1)[z.2.2]? with|none=>some (z.1,z.2.1+1,0)|some e=>if e.2=a then none else if e.2∈z.1.map (·.1) then some (z.1,z.2.1,z.2.2+1) else some (z.1++[(e.2,p.2++[e.1])],z.2.1,z.2.2+1)
def AE(E:Nat->List (Nat×Nat))(a:Nat):Nat->Option Sr
 |0=>some ([(a,[])],0,0)|m+1=>(AE E a m).bind (xg E a)
def Fd(E:Nat->List (Nat×Nat))(a:Nat)(v:List Nat):Prop:=∃m P t q x w k,AE E a m=some (P,t,q)/\P[t]?=some (x,w)/\(E x)[q]?=some (k,a)/\v=w++[k]
theorem M9{z:Sr}(h:AE E a m=some z)(e:xg E a z=none):∀d,AE E a (m+1+d)=none
 |0=>by show (AE E a m).bind (xg E a)=none;rw[h];exact e|d+1=>by show (AE E a (m+1+d)).bind (xg E a)=none;rw[M9 h e d];rfl
def Fd.uniq(h:Fd E a v)(h':Fd E a C):v=C:=by
 let⟨m,P,t,q,x,w,k,o,H,G,rfl⟩:=h;let⟨g,O,t',L,Q,U,Y,l,B,u,rfl⟩:=h';let J:xg E a (P,t,q)=none:=by unfold xg;dsimp only;rw[H];dsimp only;rw[G];exact aH rfl
 let I:xg E a (O,t',L)=none:=by unfold xg;dsimp only;rw[B];dsimp only;rw[u];exact aH rfl
 have:m=g:=by
  rcases rD m g with c|c|c
  ·have:=M9 o J (g-(m+1));rw[show m+1+(g-(m+1))=g by ext,l]at this;cases this
  ·exact c
  ·have:=M9 l I (m-(g+1));rw[show g+1+(m-(g+1))=m by ext,o]at this;cases this
 subst this;rw[o]at l;cases l;rw[H]at B;cases B;rw[G]at u;cases u;rfl
structure BI(n:Nat)(E:Nat->List (Nat×Nat))(a:Nat)(P:List (Nat×List Nat))(t q:Nat):Prop where
 hd:a∈P.map (·.1)
 wy:∀p∈P,p.1 < n
 nd:(P.map (·.1)).Nodup
 pr:∀(i:Nat)p,P[i]?=some p->i < t->∀e∈E p.1,e.2≠a/\e.2∈P.map (·.1)
 cu:∀p,P[t]?=some p->∀e∈(E p.1).take q,e.2≠a/\e.2∈P.map (·.1)
 it:∃m,AE E a m=some (P,t,q)
def BI.go{z:Sr}(I:BI n E a P t q)(h:xg E a (P,t,q)=some z):∃m,AE E a m=some z:=by let⟨m,e⟩:=I.it;exact⟨m+1,by show (AE E a m).bind (xg E a)=some z;rw[e];exact h⟩
def BI.start(l:a < n):BI n E a [(a,[])] 0 0:=
 ⟨by simp,λp c=>by rw[aA.mp c];exact l,by simp,λi p _ g=>bh g (),λp _ e h=>by simp at h,0,rfl⟩
def BI.old(I:BI n E a P t q)(g:P[t]?=some (x,w))(u:(E x)[q]?=some (k,j))(c:j≠a)(o:j∈P.map (·.1)):BI n E a P t (q+1):=
 ⟨I.hd,I.wy,I.nd,I.pr,λp h e l=>by
  rw[g]at h;cases h;rw[Eo u]at l;rcases aP.mp l with z|z
  ·exact I.cu _ g e z
  ·rw[aA.mp z];exact⟨c,o⟩,I.go (by unfold xg;dsimp only;rw[g];dsimp only;rw[u];dsimp only;rw[aD c,aH o])⟩
def BI.new(I:BI n E a P t q)(l:P[t]?=some (x,w))(H:(E x)[q]?=some (k,j))(o:j < n)(c:j≠a)(G:j∉P.map (·.1)):BI n E a (P++[(j,w++[k])]) t (q+1):=by
 let L:=(ac.mp l).1;let up:∀{z},z∈P.map (·.1)->z∈(P++[(j,w++[k])]).map (·.1):=λh=>by rw[bw];exact bz _ h
 let at_:∀{i:Nat}{p},(P++[(j,w++[k])])[i]?=some p->i < P.length->P[i]?=some p:=λh u=>by rwa [ao u]at h
 refine⟨up I.hd,λp h=>?_,?_,λi p h u e g=>?_,λp h e g=>?_,I.go (by unfold xg;dsimp only;rw[l];dsimp only;rw[H];dsimp only;rw[aD c,aD G])⟩
 ·rcases aP.mp h with z|z
  ·exact I.wy p z
  ·rw[aA.mp z];exact o
 ·rw[bw];refine c7.mpr ⟨I.nd,by simp,λy J z hz e=>G ?_⟩;let O:z=j:=by simpa using hz
  rw[<- O,<- e];exact J
 ·let⟨C,B⟩:=I.pr i p (at_ h ()) u e g;exact⟨C,up B⟩
 ·let h:=at_ h L;rw[l]at h;cases h;rw[Eo H]at g;rcases aP.mp g with z|z
  ·let⟨C,B⟩:=I.cu _ l e z;exact⟨C,up B⟩
  ·rw[aA.mp z];exact⟨c,by simp⟩
def BI.next(I:BI n E a P t (E x).length)(l:P[t]?=some (x,w)):BI n E a P (t+1) 0:=
 ⟨I.hd,I.wy,I.nd,λi p h o e g=>by
  by_cases c:i=t
  ·subst c;rw[l]at h;cases h;exact I.cu _ l e (by rw[eK];exact g)
  ·exact I.pr i p h () e g,λp _ e g=>by simp at g,I.go (by unfold xg;dsimp only;rw[l];dsimp only;rw[bX (aw _)])⟩
def BI.none(I:BI n E a P t q)(u:P.length<=t):¬ xi E a:=by
 let cl:∀x∈P.map (·.1),∀e∈E x,e.2≠a/\e.2∈P.map (·.1):=λx c e o=>by let⟨p,g,rfl⟩:=bH.mp c;let⟨i,l⟩:=aQ.mp g;exact I.pr i p l (by have:=(ac.mp l).1;ext) e o
 let key:∀{x y:Nat},Rc E x y->x∈P.map (·.1)->y=a->x=a:=λr=>by
  induction r with|refl=>exact λ_ e=>e|step h r ih=>exact λc e=>bh (ih (cl _ c _ h).2 e) (cl _ c _ h).1
 rintro ⟨p,g,r⟩
 exact (cl a I.hd p g).1 (key r (cl a I.hd p g).2 rfl)
end
open PySem (Str)
section
variable{s u:aZ}{Q:D->aZ->Prop}{E:Nat->List (Nat×Nat)}{n ns ec nc a t q x k j:Nat}{P:List (Nat×List Nat)}{cv:Nat->D}{L:List Nat}
noncomputable def t6(L:List Nat)(cv:Nat->D):List (D×D):=L.map λy=>(D.int (y:Nat),cv y)
def OQ{i j:Nat}:oM (.int (i:Nat)) (.int (j:Nat))=decide (i=j):=by
 rw[oM];by_cases e:i=j
 ·subst e;simp
 ·simp[e];ext
theorem HH{y:Nat}:∀L:List Nat,m_ (t6 L cv) (.int (y:Nat))=if y∈L then some (cv y) else none
 |[]=>rfl
 |z::L=>by
  let g:=HH (y:=y) L;unfold m_ t6 at g ⊢;rw[aV,c5];dsimp only;rw[OQ];by_cases e:z=y
  ·subst e;simp
  ·rw[bc e];dsimp only;rw[g];let o:¬ y=z:=λh=>e h.symm;by_cases c:y∈L
   ·rw[aH c,aH (by simp[c])]
   ·rw[aD c,aD (by simp[c,o])]
def X0{y:Nat}(g:y∉L):mK (t6 L cv) (.int (y:Nat)) v=t6 (L++[y]) λz=>if z=y then v else cv z:=by
 let h:((t6 L cv).any λp=>oM p.1 (.int (y:Nat)))=false:=by rw[qX];intro p c;unfold t6 at c;let⟨z,hz,rfl⟩:=bH.mp c;rw[OQ];have:z≠y:=λe=>g (e ▸ hz);simp[this]
 unfold mK;rw[h,aD (by simp)];unfold t6;rw[bw];congr 1
 ·refine cJ λz hz=>?_;have:z≠y:=λe=>g (e ▸ hz)
  show _=(D.int (z:Nat),if z=y then v else cv z)
  rw[aD this]
 ·simp
def Cm(P:List (Nat×List Nat))(cv:Nat->D):Prop:=∀(i:Nat)p,P[i]?=some p->(p.2=[]/\cv p.1=.non)\/∃(c:Nat)(r:Nat×List Nat)(k:Nat),c < i/\P[c]?=some r/\p.2=r.2++[k]/\cv p.1=.tup [.int (r.1:Nat),.int (k:Nat)]
def WA:wp (mw (.tup ds) .non) Q s=Q (.bl true) s:=cU rfl
def IX:wp (mw .non .non) Q s=Q (.bl false) s:=cU rfl
def Ud{j:Nat}(g:s[nc]?=some (.dct false (t6 (P.map (·.1)) cv)))(C:Cm P cv)(hl:P.length<=900)(I:P[j]?=some p)(hq:∀u,eJ s u->Q (.tup (p.2.map il)) u):wp (jK [.dic nc,.int (p.1:Nat)]) Q s:=by
 let hj:=(ac.mp I).1;let O:∀i:Nat,oY false (.int (i:Nat))=true:=λi=>rfl;let uO:∀{c:Nat}{r:Nat×List Nat},P[c]?=some r->r.1∈P.map (·.1):=λh=>bH.mpr ⟨_,ax h,rfl⟩;let L:∀Q,wp (itemK nc (.int (p.1:Nat))) Q (s++[MO.lst []])=Q (cv p.1) (s++[MO.lst []]):=λQ=>DM (uY g) (O _) (by rw[HH,aH (uO I)]);let lnc:=ly g
 (simp![jK];simp![ye,bU,↓L])
 refine C1 (λl u=>∃(c:Nat)(q:Nat×List Nat)(ts:List Nat),l=[some (.dic nc),some (.int (p.1:Nat)),some (.ref s.length),some (cv q.1)]/\c<=j/\c+ts.length<=j/\P[c]?=some q/\p.2=q.2++ts.reverse/\u[s.length]?=some (.lst (ts.map il))/\u[nc]?=some (.dct false (t6 (P.map (·.1)) cv))/\eJ s u)
  (λ(_:Loc)(u:aZ)=>match (u[s.length]?:Option MO) with
   |some (.lst ts)=>1000-ts.length
   |_=>0) ⟨j,p,[],rfl,aw _,aw _,I,by simp,pW,uY g,(eJ.refl _).snoc _⟩ (λRw1 l u up1 Y hW=>?_)
 let⟨c,q,ts,el,hc,hts,H,U,o,g2,ex⟩:=hW;subst el;rcases C c q H with ⟨J,B⟩|⟨i,G,k,hi,B,J,e3⟩
 ·rw[B];let w:∀Q,wp (sq (.ref s.length)) Q u=Q (.tup (p.2.map il)) u:=λQ=>by unfold sq;rw[d8,fk o,cF,U,J,sK,List.map_reverse]
  simp![↓IX,aK,if_false,↓w];exact hq u ex
 ·rw[e3];let v:∀es,(u.set s.length (MO.lst es))[nc]?=some (.dct false (t6 (P.map (·.1)) cv)):=λes=>by rw[aB ()];exact g2
  let E:∀es Q,wp (itemK nc (.int (G.1:Nat))) Q (u.set s.length (MO.lst es))=Q (cv G.1) (u.set s.length (MO.lst es)):=λes Q=>DM (v es) (O _) (by rw[HH,aH (uO B)]);simp![↓WA,if_true,↓fk o,↓oK o,↓E,af];refine⟨sC (),up1 ⟨i,G,ts++[k],rfl,by ext,by simp;ext,B,by rw[U,J];simp,by rw[aF (ly o),bw];rfl,v _,ex.put (aw _)⟩ ?_⟩;rw[aF (ly o),o];simp only[aC,kU,af];ext
def TZ(C:Cm P cv):∀(i:Nat)(p:Nat×List Nat),P[i]?=some p->p.2.length<=i:=by
 intro i
 induction i using tx with|ind i ih=>
  intro p g;rcases C i p g with ⟨e,_⟩|⟨c,r,k,v,o,h,_⟩
  ·rw[e];exact bU _
  ·have:=ih c v r o;rw[h];simp;ext
def LW(s:aZ)(P:List (Nat×List Nat))(v:aZ):Prop:=∃cv,v[s.length]?=some (.dct false (t6 (P.map (·.1)) cv))/\v[s.length+1]?=some (.lst (P.map λp:Nat×List Nat=>D.int (p.1:Nat)))/\Cm P cv/\eJ s v
theorem LW.put{v:aZ}(q:v[s.length]?=some (.dct false (t6 (P.map (·.1)) cv)))(l:v[s.length+1]?=some (.lst (P.map λp:Nat×List Nat=>D.int (p.1:Nat))))(C:Cm P cv)(ex:eJ s v)(J:j∉P.map (·.1))(G:P[t]?=some (x,w)):LW s (P++[(j,w++[k])]) ((v.set s.length (.dct false (t6 (P.map (·.1)++[j]) λz=>if z=j then .tup [.int (x:Nat),.int (k:Nat)] else cv z))).set (s.length+1) (.lst ((P.map λp:Nat×List Nat=>D.int (p.1:Nat))++[.int (j:Nat)]))):=by
 let B:=(ac.mp G).1;let g:∀{i:Nat}{p:Nat×List Nat},P[i]?=some p->p.1≠j:=λh e=>J (e ▸ bH.mpr ⟨_,ax h,rfl⟩);refine⟨λz=>if z=j then .tup [.int (x:Nat),.int (k:Nat)] else cv z,?_,?_,λi p c=>?_,(ex.put (aw _)).put ()⟩
 ·rw[aB (),aF (ly q),bw];rfl
 ·rw[aF (by rw[dq];exact ly l),bw];rfl
 ·by_cases o:i < P.length
  ·rw[ao o]at c;dsimp only;rw[aD (g c)];rcases C i p c with h|⟨I,r,H,Y,U,O⟩
   ·exact .inl h
   ·exact .inr ⟨I,r,H,Y,by rw[ao ()];exact U,O⟩
  ·let e : i = P.length := by have:=(ac.mp c).1;rw[aC]at this;simp at this;ext
   subst e;rw[aE (aw _),eE]at c;cases c;dsimp only;rw[aH rfl];exact .inr ⟨t,(x,w),k,B,by rw[ao B];exact G,rfl,rfl⟩
def T8(g:tZ n E ns s)(gg:s[ec]?=some (.lst (bA n λi=>.bl (decide (i=a)))))(ha:a < n)(hn:n<=324)(h1:∀v u,Fd E a v->eJ s u->Q (.tup (v.map il)) u) (h2:∀u,¬ xi E a->eJ s u->Q .non u):wp (ju [.ref ns,.int (a:Nat),.ref ec]) Q s:=by
 let c1:1<=eV:=gH ();let wd:∀(Q:D->aZ->Prop)l,wp (rQ (aq 1) (aN .non) (some (.ref ns)::some (.int (a:Nat))::l)) Q s=Q (.dic s.length) (s++[.dct false (t6 [a] λ_=>.non)]):=λQ l=>by unfold rQ;rw[d8,AD,d8,wc];exact cU rfl
 (simp![ju];simp![jS,↓wd,c1])
 let e1:(s++[MO.dct false (t6 [a] λ_=>D.non)]).length=s.length+1:=by simp
 rw[e1];let W0:LW s [(a,[])] (s++[MO.dct false (t6 [a] λ_=>D.non)]++[MO.lst [D.int (a:Nat)]]):=
  ⟨λ_=>.non,uY pW,by rw[<- e1];exact pW,λi p L=>by
   match i,L with
   |0,L=>cases L;exact .inl ⟨rfl,rfl⟩
   |i+1,L=>simp at L,((eJ.refl _).snoc _).snoc _⟩
 clear wd;generalize s++[MO.dct false (t6 [a] λ_=>D.non)]++[MO.lst [D.int (a:Nat)]]=s1 at *;let h:∀{P t q},BI n E a P t q->P.length<=324:=λ{P t q}I=>by
  have:=A0 n (P.map (·.1)) I.nd λy hy=>by let⟨p,c,rfl⟩:=bH.mp hy;exact I.wy p c
  rw[af]at this;ext
 refine C1 (λl v=>∃(P:List (Nat×List Nat))(t:Nat)(y6 H G:Option D),l=[some (.ref ns),some (.int (a:Nat)),some (.ref ec),some (.dic s.length),some (.ref (s.length+1)),some (.int (t:Nat)),y6,H,G]/\BI n E a P t 0/\LW s P v)
  (λ(l:Loc)(_:aZ)=>match (l[5]?:Option (Option D)) with
   |some (some (D.int i))=>(1000-i).toNat
   |_=>0) ⟨[(a,[])],0,_,_,_,rfl,BI.start ha,W0⟩ (λRw2 l v up2 rt2 hW=>?_)
 let⟨P,t,y6,H,G,el,I,W⟩:=hW;subst el;let hl:=h I;let⟨cv,b1,b2,C,ex⟩:=id W;simp![↓fk b2,af];by_cases ht:t < P.length
 ·rw[aH ()];obtain⟨⟨x,w⟩,c⟩:∃p,P[t]?=some p:=⟨_,ae ht⟩
  let hx:=I.wy _ (ax c);let q2:∀(Q:D->aZ->Prop)s,wp (cY (P.map λp:Nat×List Nat=>D.int (p.1:Nat)) ((t:Nat):Int)) Q s=Q (.int (x:Nat)) s:=λQ s=>uk (by rw[av,c];rfl);let⟨rs,r,L,qi,hrs⟩:=g.row0 hx;let⟨gn,gr⟩:=L ex;simp![↓fk b2,↓q2,↓fk gn,↓qi,↓fk gr];refine vp (λq l v=>∃(P:List (Nat×List Nat))(H G:Option D),l=[some (.ref ns),some (.int (a:Nat)),some (.ref ec),some (.dic s.length),some (.ref (s.length+1)),some (.int (t:Nat)),some (.int (x:Nat)),H,G]/\BI n E a P t q/\P[t]?=some (x,w)/\LW s P v) (λ_ _ _ z=>by let⟨_,_,_,_,_,_,_,_,_,_,e⟩:=z;exact (L e).2)
   ⟨P,_,_,rfl,I,c,W⟩ (λRw3 q d l v2 U rt3 hd hW=>?_) (λl v2 hW=>?_)
  ·let⟨P,H,G,el,I,c,W⟩:=hW;subst el;let hl:=h I;rw[av]at hd;cases O:(E x)[q]? with|none=>rw[O]at hd;cases hd|some e=>
    rw[O]at hd;cases hd;let⟨k,j⟩:=e;let Y:=g.wf x hx (k,j) (ax O);let⟨cv,b1,b2,C,ex⟩:=id W;let q4:∀(Q:D->aZ->Prop)s,wp (cY (bA n λi=>D.bl (decide (i=a))) ((j:Nat):Int)) Q s=Q (.bl (decide (j=a))) s:=λQ s=>yN Y;unfold xM;simp![↓fk (ex.at_ gg),↓q4];by_cases v:j=a
    ·subst v;rw[aH rfl];refine Ud (P:=P) (p:=(x,w)) b1 C () c λu L=>?_;let g:w.length<=t:=TZ C t (x,w) c;let B:=(ac.mp c).1;simp![c1,af];refine⟨gH (by simp;ext),?_⟩;let⟨m,h⟩:=I.it;have:=h1 (w++[k]) u ⟨m,P,t,q,x,w,k,h,c,O,rfl⟩ (ex.trans L);rw[bw]at this;refine rt3 (rt2 ?_);simp![];exact this
    ·rw[aD v];let q:∀Q,wp (hasK s.length (.int (j:Nat))) Q v2=Q (m_ (t6 (P.map (·.1)) cv) (.int (j:Nat))).isSome v2:=λQ=>LA b1 rfl;rw[q,HH];by_cases J:j∈P.map (·.1)
     ·rw[aH J];simp![gW,dS,aK,if_false];exact U ⟨P,_,_,rfl,I.old c O v J,c,W⟩
     ·rw[aD J];simp![gX,fO,if_true];rw[Ls b1 rfl (sC (by unfold t6;rw[af,af];ext)),X0 J];let l:∀o,(v2.set s.length o)[s.length+1]?=some (.lst (P.map λp:Nat×List Nat=>D.int (p.1:Nat))):=λo=>by rw[aB ()];exact b2
      let h:∀o Q,wp (getL (s.length+1)) Q (v2.set s.length o)=Q (P.map λp:Nat×List Nat=>D.int (p.1:Nat)) (v2.set s.length o):=λo Q=>fk (l o);let g:∀o es Q,wp (putL (s.length+1) es) Q (v2.set s.length o)=Q Unit.unit ((v2.set s.length o).set (s.length+1) (.lst es)):=λo es Q=>oK (l o);simp![↓h,↓g,af];let B:=(ac.mp c).1;refine⟨?_,sC (),U ⟨P++[(j,w++[k])],_,_,rfl,I.new c O Y v J,by rw[ao B];exact c,LW.put b1 b2 C ex J c⟩⟩
      first|exact gH ()|exact sC ()
  ·let⟨P,H,G,el,I,c,W⟩:=hW;subst el;let hl:=h I;rw[af]at I;let B:=(ac.mp c).1;simp![↓PB];refine up2 ⟨P,t+1,_,_,_,rfl,I.next c,W⟩ ?_
   show (1000-((t:Int)+1)).toNat < (1000-(t:Int)).toNat;ext
 ·rw[aD ()];exact h2 v (I.none ()) ex
end
open PySem (Str)
section
variable{s u:aZ}{Q:D->aZ->Prop}{E:Nat->List (Nat×Nat)}{n ns:Nat}
def Yo{c:Nat->Bool}{r:Nat}(g:s[r]?=some (.lst (bA n λi=>.bl (c i)))):wp (qY (.bl true) (.ref r)) Q s=Q (.bl !((bT n).any c)) s:=by
 let e:qY (.bl true) (.ref r)=bnd (getL r) (yT (.bl true)):=rfl;rw[e,d8,fk g,UC];let a1:(bA n λi=>D.bl (c i)).all mn=true:=by simp[bA,mn]
 let o:((bA n λi=>D.bl (c i)).any λd=>wP d (.bl true))=(bT n).any c:=by
  unfold bA;rw[vn];congr 1;funext i
  show (c i == true)=c i;simp
 rw[o];exact propext ⟨λz=>z.2,λz=>⟨⟨rfl,a1⟩,z⟩⟩
theorem OR{c:Nat->Bool}:∀L:List Nat,iU (L.map λi=>D.bl (c i))=some (L.map c)
 |[]=>rfl|i::L=>by rw[aV,iU,OR L];rfl
def Yc{o:Nat->Bool}{r:Nat}{f:Nat}(g:s[r]?=some (.lst (bA n λi=>.bl (o i))))(L:n<=900)(q:f < n)(v:o f=true)(J:∀i,i < f->o i=false)(C B:CE)(l:Loc)(I:∀Q s,wp (C l) Q s=Q (.ref r) s)(H:∀Q s,wp (B l) Q s=Q (.bl true) s):wp (oy C B l) Q s=Q (.int (f:Nat)) s:=by
 let e:((bT n).map o).findIdx (· == true)=f:=by rw[List.findIdx_eq (by simp;exact q)];refine⟨by simp[v],λj G=>?_⟩;simp[J j G]
 let c:((bT n).map o).contains true=true:=by rw[List.contains_iff_mem,bH];exact⟨f,bY.mpr q,v⟩
 unfold oy;rw[d8,I];dsimp only;rw[d8,H,d8,fk g];unfold bA;rw[OR];dsimp only;rw[fA,cF,e];exact propext ⟨λz=>z.2,λz=>⟨⟨c,gH (by simp;ext)⟩,z⟩⟩
def FR(n:Nat)(E:Nat->List (Nat×Nat))(o:Option (Nat×List Nat)):Prop:=match o with|none=>∀i,i < n->¬ xi E i|some (f,w)=>f < n/\xi E f/\(∀i,i < f->¬ xi E i)/\Fd E f w
theorem FR.uniq{E:Nat->List (Nat×Nat)}{n:Nat}(a:FR n E o)(b:FR n E o'):o=o':=by
 cases o with
 |none=>cases o' with|none=>rfl|some p=>exact bh b.2.1 (a _ b.1)
 |some p=>cases o' with|none=>exact bh a.2.1 (b _ a.1)|some p'=>
   let⟨f,w⟩:=p;let⟨g,I⟩:=p';let⟨a1,H,G,C⟩:=a;let⟨J,B,v,q⟩:=b;have:f=g:=by
    rcases rD f g with c|c|c
    ·exact bh H (v f c)
    ·exact c
    ·exact bh B (G g c)
   subst this;rw[C.uniq q]
def KW:Option (Nat×List Nat)->D
 |none=>.non|some (f,w)=>.tup [.int (f:Nat),.tup (w.map il)]
theorem Nr{c:Nat->Bool}:∀(n:Nat),(∃i,i < n/\c i=true)->∃f,f < n/\c f=true/\∀i,i < f->c i=false
 |0,⟨i,hi,_⟩=>by ext
 |n+1,⟨i,hi,e⟩=>by
  by_cases h:∃i,i < n/\c i=true
  ·let⟨f,q,o⟩:=Nr n h;exact⟨f,by ext,o⟩
  ·have:i=n:=iu λz=>h ⟨i,by ext,e⟩;subst this;exact⟨i,by ext,e,λj g=>by
    cases z:c j with
    |false=>rfl
    |true=>exact bh ⟨j,g,z⟩ h⟩
def SD(g:tZ n E ns s)(Y:n<=324)(U:∀o u,FR n E o->eJ s u->Q (KW o) u):wp (jw [.ref ns]) Q s:=by
 let l2:2<=eV:=gH ();let c1:n<=eV:=gH ()
 (simp![jw];simp![jW])
 refine Qn4 g Y λH r u q gr hr ex=>?_;let q0:∀(Q:D->aZ->Prop),wp (qY (.bl true) (.ref r)) Q u=Q (.bl !((bT n).any H)) u:=λQ=>Yo gr;simp![↓q0];by_cases G:∃i,i < n/\H i=true
 ·let a1 : (bT n).any H = true := by let⟨i,c,e⟩:=G;exact iI.mpr ⟨i,bY.mpr c,e⟩
  rw[a1];let⟨f,B,L,h⟩:=Nr n G;let q1:∀(Q:D->aZ->Prop)l,wp (oy (aq 1) (aN (.bl true)) (some (.ref ns)::some (.ref r)::l)) Q u=Q (.int (f:Nat)) u:=λQ l=>Yc gr () B L h _ _ _ (λQ s=>AD) (λQ s=>wc);let⟨rs,t1,o,t3⟩:=g.at_;simp![dS,aK,if_false,↓q1,↓fk (ex.at_ t1),af,o,im];let en:((n:Nat):Int).toNat=n:=by simp
  rw[en,ue];refine⟨⟨by ext,by ext⟩,by rw[mH];exact c1,?_⟩;rw[yE (f:=λi=>.bl (decide (i=f))) vN (λi c Q=>by
   simp![];have:((i:Int) == (f:Int))=decide (i=f):=by
    by_cases e:i=f
    ·subst e;simp
    ·simp[e];ext
   first|rw[this]|simp only[this])]
  simp![];let C:eJ s (u++[MO.lst (bA n λi=>D.bl (decide (i=f)))]):=ex.snoc _;refine T8 (g.ext C) pW B Y (λw v ha O=>?_) λv J O=>bh ((q f B).mp L) J;simp![l2];let nc:∀i,i < f->¬ xi E i:=λi c I=>by have:=(q i ()).mpr I;rw[h i c]at this;cases this
  exact U (some (f,w)) v ⟨B,(q f B).mp L,nc,ha⟩ (C.trans O)
 ·let a1 : (bT n).any H = false := by rw[qX];intro i c e;exact G ⟨i,bY.mp c,e⟩
  rw[a1];simp![fO,if_true];exact U none u (λi c I=>G ⟨i,c,(q i c).mpr I⟩) ex
end
open PySem (Str)
section
variable{Q:D->aZ->Prop}
def DD(ys:List Sd):Option (Nat×List Nat)->D
 |none=>.non|some (f,w)=>.tup [(ys[f]?.map dI).getD .non,.tup (w.map il)]
def Ul:wp (sP (.tup ds) .non) Q s=Q (.bl false) s:=cU rfl
def QA{most:Nat}(q:pv h)(Y:∀i,so h i->(dh h i).length<=most)(C:∀i o u,lL h i->FR (dh h i).length (eF h (dh h i)) o->eJ s u->Q (DD (dh h i) o) u):wp (jf [fW h,.int (most:Nat)]) Q s:=by
 let hh:=q.1;let I:2<=eV:=gH ()
 (simp![jf];simp![yi])
 refine IE q Y λi no nd ns rs u st gl O l J L G ex=>?_;let len:=IK st;let g:=L7 (h:=h) (ys:=dh h i) hh l () G;let U:(dh h i).length<=324:=(B5 q st.1).1;simp![];refine SD g U λo v B c=>?_;cases o with
 |none=>
  unfold KW;simp![↓Cj,if_true];exact C i none v st B (ex.trans c)
 |some p=>
  let⟨f,w⟩:=p;let E:f < (dh h i).length:=B.1;let H:∀(Q:D->aZ->Prop)s,wp (cY ((dh h i).map dI) ((f:Nat):Int)) Q s=Q (dI (dh h i)[f]) s:=λQ s=>uk (by rw[av,ae E];rfl);unfold KW;simp![↓Ul,aK,if_false,↓fk (c.at_ gl),↓H,I];have:=C i (some (f,w)) v st B (ex.trans c);unfold DD at this;dsimp only at this;rw[ae E]at this;exact this
end
open PySem (Str)
noncomputable def ad(h:Hs)(c:Hd):Hs:=⟨h.boards,h.hands++[c]⟩
def lf(x:Sd)(t:Nat):Sd:=⟨x.ls++[t],x.ss⟩
section
variable{h:Hs}{x y:Sd}{t t' k v:Nat}{row:List D}
def Gz(e:lf x t=lf y t'):x=y:=by cases x;cases y;unfold lf at e;simp only[Sd.mk.injEq]at e;rw[(List.append_inj' e.1 rfl).1,e.2]
def Ha(g:h.hands.length=2)(l:x.ls.length=2)(o:k < 2):cQ (ad h c) (lf x t) k=cQ h x k:=by unfold cQ ad lf;dsimp only;rw[ao (),ao ()]
def Tr(g:h.hands.length=2)(l:x.ls.length=2):cQ (ad h c) (lf x t) 2=(c.lines[t]?).getD (.settle 0):=by unfold cQ ad lf;dsimp only;rw[aE (),aE (),g,l];rfl
def DB(g:h.hands.length=2)(l:x.ls.length=2)(o:k < 2):kq (ad h c) (lf x t) k=lf (kq h x k) t:=by
 unfold kq;rw[Ha g l o];cases cQ h x k with|settle v=>rfl|act b d gs=>
  show (match h.boards[b]?,x.ss[b]? with
   |some bd,some z=>(⟨(x.ls++[t]).set k ((gs[bd.un z d]?).getD 0),x.ss.set b (bd.nx z d)⟩:Sd)
   |_,_=>lf x t)=_
  dsimp only;cases h.boards[b]? with|none=>rfl|some bd=>
   cases x.ss[b]? with|none=>rfl|some z=>
    dsimp only;unfold lf;rw[List.set_append_left _ _ ()]
def P9(g:h.hands.length=2)(o:x.ls.length=2)(l:k < 2):k∈gB (ad h c) (lf x t)↔k∈gB h x:=by unfold gB ad;rw[ig,ig,bY,bY,aC,g];have:=Ha (c:=c) (t:=t) g o l;unfold ad at this;rw[this];simp only[kU];exact⟨λz=>⟨l,z.2⟩,λz=>⟨by ext,z.2⟩⟩
def ED(g:h.hands.length=2)(o:row.length=2):fZ (ad h c) (row++[d])=lf (fZ h row) (bf (ad h c) (row++[d]) 2):=by
 let e:∀k,k < 2->bf (ad h c) (row++[d]) k=bf h row k:=λk l=>by unfold bf ad;dsimp only;rw[ao (),ao ()]
 unfold fZ lf;simp only[Sd.mk.injEq];refine⟨?_,rfl⟩;rw[show (ad h c).hands.length=3 by unfold ad;simp[g],g]
 show bA (2+1) _=_;rw[A9];congr 1;unfold bA;exact cJ λk l=>e k (bY.mp l)
def O7(l:r∈km 3):∃row d,row∈km 2/\r=row++[d]/\(d=.int 0\/d=.int 1):=by
 have:km 3=(km 2).flatMap λr=>[r++[.int 0],r++[.int 1]]:=by rfl
 rw[this,nM]at l;let⟨row,o,g⟩:=l;rcases aR.mp g with e|g
 ·exact⟨row,_,o,e,.inl rfl⟩
 ·exact⟨row,_,o,aA.mp g,.inr rfl⟩
def Rt(g:row∈km 2):row++[.int 0]∈km 3/\row++[.int 1]∈km 3:=by
 have:km 3=(km 2).flatMap λr=>[r++[.int 0],r++[.int 1]]:=by rfl
 rw[this,nM,nM];exact⟨⟨row,g,by simp⟩,⟨row,g,by simp⟩⟩
def Oi(hh:gY h)(g:h.hands.length=2)(a:TS (wS h) x y):io h x->TS (wS (ad h c)) (lf x t) (lf y t):=by
 let st:∀{x y:Sd},wS h x y->io h x->wS (ad h c) (lf x t) (lf y t)/\io h y:=λ{x y}z ok=>by let⟨k,l,e⟩:=z;have o:=Ao l;have q:=ok.1;refine⟨⟨k,(P9 g () ()).mpr l,by rw[DB g () (),e]⟩,by rw[<- e];exact Ld hh ok o⟩
 induction a with|one h1=>exact λok=>.one (st h1 ok).1|more h1 _ ih=>exact λok=>.more (st h1 ok).1 (ih (st h1 ok).2)
def Pc{α:Type}{v N:α->Nat}{L:List α}{B:Nat}(l:∀x∈L,v x+N x<=B):vf v N L<=B:=Ib λi g=>by rw[ae g];exact l _ (bo g)
def QG{wt l:Sd->Nat->Nat}{M M':Sd->Nat}{ys zs R:List Sd}(C:h.hands.length=2)(u:r6 h ys R)(U:∀x∈R,x∈ys)(ok:∀x∈ys,io h x)(O:∀x k,io h x->k < 2->l (lf x t) k=wt x k)(I:∀x∈zs,∀k∈gB (ad h c) x,kq (ad h c) x k∈zs) (a:uw h ys wt M) (b:uw (ad h c) zs l M'):∀x∈ys,lf x t∈zs->M x<=M' (lf x t):=by
 let key:∀(m:Nat)(x:Sd),R[m]?=some x->lf x t∈zs->M x<=M' (lf x t):=λm=>by
  induction m using tx with|ind m ih=>
   intro x B hz;let g:=U x (ax B);let J:x.ls.length=2:=by rw[(ok x g).1,C]
   rw[a x g,b _ hz];refine Pc λk G=>?_;let E:k < 2:=by have:=Ao G;ext
   let o:k∈gB (ad h c) (lf x t):=(P9 C J E).mpr G;refine cW ?_ (SF o);rw[O x k (ok x g) E];refine Nat.add_le_add_left ?_ _;let e:=DB (c:=c) (t:=t) C J E;let L:=I _ hz k o;rw[e]at L ⊢;let⟨j,H⟩:=aQ.mp (u.2 m x B k G);let q:j < m:=by have:=(ac.mp H).1;rw[bB]at this;ext
   rw[cj q]at H;exact ih j q _ H L
 exact λx B hz=>by let⟨m,Q⟩:=aQ.mp (u.1 x B);exact key m x Q hz
end
open PySem (Str)
noncomputable def pL(v:Nat):Hd:=⟨0,0,[.settle v]⟩
section
variable{h:Hs}{x y:Sd}{t t' k v:Nat}{row:List D}
def ZU(hh:gY h)(g:h.hands.length=2)(o:vF h.boards c):gY (ad h c):=by
 let⟨B,u,E,C,q⟩:=hh;refine⟨B,u,by unfold ad;simp[g],by unfold ad;simp[g],λx l=>?_⟩;rcases aP.mp l with z|z
 ·exact q x z
 ·rw[aA.mp z];exact o
def HN(hh:gY (ad h c))(l:h.hands.length=2):gY h/\vF h.boards c:=
 ⟨⟨hh.1,hh.2.1,by ext,by ext,λx g=>hh.2.2.2.2 x (bz _ g)⟩,hh.2.2.2.2 c (by unfold ad;simp)⟩
def WG(g:v < 2):vF h.boards (pL v):=⟨by unfold pL;simp,by unfold pL;simp,by unfold pL;simp,λl o=>by rw[aA.mp o];exact g⟩
theorem Fx:∀a b:List Nat,pr (a++b)=pr a*pr b
 |[],b=>by simp[pr]|x::a,b=>by show x*pr (a++b)=x*pr a*pr b;rw[Fx a b,ve]
def Oe:pr (xL (ad h c))=pr (xL h)*c.lines.length:=by
 unfold xL ad;dsimp only;rw[bw,Fx,Fx,Fx]
 show _*(c.lines.length*1)*_=_;rw[Nat.mul_one,ve,ve,rA c.lines.length]
def E4(g:pv h)(l:h.hands.length=2)(o:v < 2):pv (ad h (pL v)):=⟨ZU g.1 l (WG o),by rw[Oe];show pr (xL h)*1<=324;have:=g.2;ext⟩
def GD(g:pv (ad h c))(l:h.hands.length=2):pv h:=by let⟨q,o⟩:=HN g.1 l;refine⟨q,?_⟩;have:=g.2;rw[Oe]at this;exact cW (Nat.le_mul_of_pos_right _ (by have:=o.1;ext)) this
theorem Mp{α:Type}{f:α->Nat}{K:Nat}:∀{l:List α},(∀x∈l,f x<=K)->pr (l.map f)<=K^l.length
 |[],_=>aw _|b::bs,hb=>by have q:=Mp (l:=bs) λx g=>hb x (by simp[g]);have o:=hb b (by simp);rw[b8,rC,rA];exact Ds o q
def YQ{n c:Nat}(g:n=2\/n=3)(l:c<=4):mL n c^n*mS c^c<=324:=by rcases g with rfl|rfl<;>rcases Ag l with rfl|rfl|rfl|rfl|rfl<;>decide
def JU(l:Pr h):pv h:=by let⟨hh,q,o,g⟩:=l;refine⟨hh,?_⟩;unfold xL;rw[Fx];have:=hh.2.2.1;have:=hh.2.2.2.1;exact cW (Ds (Mp g) (Mp o)) (YQ () q)
def JZ:bf (ad h (pL v)) row h.hands.length=0:=by
 unfold bf ad;rw[aE (aw _),eE];cases row[h.hands.length]? with
 |none=>rfl
 | some d => cases d <;> try rfl
             rename_i i
             show (if i=0 then 0 else 0)=0;split<;>rfl
def Mr(g:h.hands.length=2)(l:x.ls.length=2):gB (ad h (pL v)) (lf x 0)=gB h x:=by
 let e:(ad h (pL v)).hands.length=3:=by unfold ad;simp[g]
 let q:=Tr (h:=h) (c:=pL v) (t:=0) g l;unfold gB;rw[e,g]
 show (bT (2+1)).filter _=_;rw[ij,mE];have:List.filter (λk=>oV (cQ (ad h (pL v)) (lf x 0) k)) [2]=[]:=by rw[List.filter_cons,q];rfl
 rw[this,bu];exact List.filter_congr λk o=>by rw[Ha g l (bY.mp o)]
def Jp{xs:List Sd}:lf x 0∈xs.map (lf · 0)↔x∈xs:=by rw[bH];exact⟨λg=>by let⟨z,hz,e⟩:=g;exact Gz e ▸ hz,λz=>⟨x,z,rfl⟩⟩
def Kl{xs:List Sd}:gP (xs.map (lf · 0)) (lf x 0)=(gP xs x).map (lf · 0):=by
 unfold gP;by_cases z:x∈xs
 ·rw[aH z,aH (Jp.mpr z)]
 ·rw[aD z,aD (λy=>z (Jp.mp y)),bw];rfl
def QoG:gP (gP xs x) x=gP xs x:=by
 unfold gP;by_cases z:x∈xs
 ·rw[aH z,aH z]
 ·rw[aD z,aH (by simp)]
theorem Qr(g:h.hands.length=2): ∀(rows:List (List D))(xs:List Sd),(∀r∈rows,r.length=2) ->(rows.flatMap λr=>[r++[.int 0],r++[.int 1]]).foldl (λys row=>gP ys (fZ (ad h (pL v)) row)) (xs.map (lf · 0))=(rows.foldl (λys row=>gP ys (fZ h row)) xs).map (lf · 0)
 |[],_,_=>rfl
 |r::rows,xs,hr=>by
  let b:∀d,fZ (ad h (pL v)) (r++[d])=lf (fZ h r) 0:=λd=>by rw[ED g (hr r (by simp))];have:=JZ (h:=h) (v:=v) (row:=r++[d]);rw[g]at this;rw[this]
  rw[qV,m5]
  show List.foldl _ (gP (gP _ (fZ (ad h (pL v)) (r++[.int 0]))) (fZ (ad h (pL v)) (r++[.int 1]))) _=_;rw[b,b,Kl,Kl,QoG];exact Qr g rows _ λr l=>hr r (by simp[l])
theorem NE(g:h.hands.length=2)(l:x.ls.length=2):∀(ks:List Nat)(xs:List Sd),(∀k∈ks,k < 2)->pP (ad h (pL v)) (lf x 0) ks (xs.map (lf · 0))=(pP h x ks xs).map (lf · 0)
 |[],_,_=>rfl|k::ks,xs,hk=>by show pP (ad h (pL v)) (lf x 0) ks (gP _ (kq _ _ k))=(pP h x ks (gP xs (kq h x k))).map _;rw[DB g l (hk k (by simp)),Kl];exact NE g l ks _ λk h'=>hk k (by simp[h'])
theorem zy(hh:gY h)(g:h.hands.length=2):∀i,dh (ad h (pL v)) i=(dh h i).map (lf · 0)
 |0=>by show nt _ (km (h.hands++[pL v]).length)=(nt h (km h.hands.length)).map _;rw[aC,g];exact Qr g (km 2) [] λr o=>(xJ 2 r o).1
 |i+1=>by
  let e:=zy hh g i;unfold dh;rw[e,av];cases ex:(dh h i)[i]? with|none=>rfl|some x=>
   let ok:=(v9 hh i).2 x (ax ex);let l:x.ls.length=2:=by rw[ok.1,g]
   show pP _ (lf x 0) (gB _ (lf x 0)) _=_;rw[Mr g l];exact NE g l _ _ λk q=>by have:=Ao q;ext
def QU(hh:gY h)(g:h.hands.length=2){i:Nat}:lL (ad h (pL v)) i↔lL h i:=by unfold lL so;simp only[zy hh g,af]
theorem Rn:∀(ys:List Sd),(ys.map (lf · 0)).idxOf (lf x 0)=ys.idxOf x
 |[]=>rfl
 |y::ys=>by
  rw[aV,lJ,lJ,Rn ys];by_cases z:y=x
  ·subst z;simp
  ·have:lf y 0≠lf x 0:=λe=>z (Gz e);rw[beq_false_of_ne z,beq_false_of_ne this]
def PK{ys:List Sd}(hh:gY h)(g:h.hands.length=2)(ok:∀x∈ys,io h x):eF (ad h (pL v)) (ys.map (lf · 0))=eF h ys:=by
 funext i;unfold eF;rw[av];cases e:ys[i]? with|none=>rfl|some x=>
  let l:x.ls.length=2:=by rw[(ok x (ax e)).1,g]
  show (gB _ (lf x 0)).map _=_;rw[Mr g l];refine cJ λk o=>?_;rw[DB g l (by have:=Ao o;ext),Rn]
def M3{wt g:Sd->Nat->Nat}{ys:List Sd}(l:h.hands.length=2)(ok:∀x∈ys,io h x)(B:∀x k,io h x->k < 2->g (lf x 0) k=wt x k)(b:uw (ad h (pL v)) (ys.map (lf · 0)) g M'):uw h ys wt λx=>M' (lf x 0):=λx o=>by
 let q:x.ls.length=2:=by rw[(ok x o).1,l]
 have:=b (lf x 0) (Jp.mpr o);rw[Mr l q]at this
 show M' (lf x 0)=_;rw[this];exact IH λk C=>by
  let u:k < 2:=by have:=Ao C;ext
  exact⟨B x k (ok x o) u,by rw[DB l q u]⟩
def Q5{ys:List Sd}:rE M' (ys.map (lf · 0))=rE (λx=>M' (lf x 0)) ys:=by unfold rE;rw[af];exact Dw λi g=>by rw[av];cases ys[i]?<;>rfl
end
open PySem (Str)
def kQ(h:Hs)(k:Nat)(st:Sd):Nat->Sd
 |0=>st|n+1=>kq h (kQ h k st n) k
section
variable{h:Hs}{st:Sd}{k n:Nat}{Q:D->aZ->Prop}
theorem EA(hh:gY h)(c:io h st)(g:k < h.hands.length):∀n,io h (kQ h k st n)
 |0=>c|n+1=>Ld hh (EA hh c g n) g
def Vi(c:pv h)(o:io h st)(q:k < h.hands.length)(inj:∀i j,i < n->j < n->kQ h k st i=kQ h k st j->i=j):n<=324:=by
 have:=few (l:=(bT n).map (kQ h k st)) c (Iv List.nodup_range λi B j v e=>inj i j (bY.mp B) (bY.mp v) e) λx g=>by let⟨i,_,e⟩:=bH.mp g;rw[<- e];exact EA c.1 o q i
 simpa using this
def qI(h:Hs)(st:Sd)(k:Nat)(d:D):Prop:=∃n:Nat,(∀i,i < n->oV (cQ h (kQ h k st i) k)=true)/\(∀i j,i < n->j < n->kQ h k st i=kQ h k st j->i=j) /\
 ((∃j:Nat,j < n/\kQ h k st j=kQ h k st n/\d=.tup [.str "round",.int j,.int ((n:Int)-j)])\/((∀j,j < n->kQ h k st j≠kQ h k st n)/\∃v:Nat,cQ h (kQ h k st n) k=.settle v/\d=.tup [.str "settles",.int v,.int n]))
def Oc(h1:qI h st k d)(Q:qI h st k e):d=e:=by
 let⟨n,a1,U,B⟩:=h1;let⟨m,L,J,I⟩:=Q;let o:∀n m:Nat,(∀i,i < m->oV (cQ h (kQ h k st i) k)=true)->(∀i j,i < m->j < m->kQ h k st i=kQ h k st j->i=j)->∀d,((∃j:Nat,j < n/\kQ h k st j=kQ h k st n/\d=D.tup [.str "round",.int j,.int ((n:Int)-j)])\/((∀j,j < n->kQ h k st j≠kQ h k st n)/\∃v:Nat,cQ h (kQ h k st n) k=.settle v/\d=.tup [.str "settles",.int v,.int n]))->¬ n < m:=λn m L J d B q=>by
  rcases B with ⟨j,E,e,_⟩|⟨_,v,e,_⟩
  ·have:=J j n () q e;ext
  ·have:=L n q;rw[e]at this;cases this
 let e1:=o n m L J d B;let e2:=o m n a1 U e I;let G:n=m:=by ext
 subst G;rcases B with ⟨j,E,e,H⟩|⟨u,v,e,H⟩
 ·rcases I with ⟨C,g,l,c⟩|⟨O,Y,l,c⟩
  ·have:=U j C E g (e.trans l.symm);subst this;rw[H,c]
  ·exact bh e (O j E)
 ·rcases I with ⟨C,g,l,c⟩|⟨O,Y,l,c⟩
  ·exact bh l (u C g)
  ·rw[e]at l;cases l;rw[H,c]
def kv(w:Nat->Sd)(n:Nat):List (D×D):=bA n λi=>(dI (w i),D.int i)
def QY{w:Nat->Sd}:m_ (kv w n) (dI x)=((bT n).find? λi=>decide (w i=x)).map λi:Nat=>D.int i:=by
 unfold m_ kv bA;rw[List.find?_map,Option.map_map];have:((λp:D×D=>oM p.1 (dI x)) ∘ λi:Nat=>(dI (w i),D.int i))=λi=>decide (w i=x):=by funext i;exact Gn _ _
 rw[this];rfl
def ZN{w:Nat->Sd}(g:∀j,j < n->w j≠w n):mK (kv w n) (dI (w n)) (.int n)=kv w (n+1):=by
 unfold mK;have:((kv w n).any λp=>oM p.1 (dI (w n)))=false:=by rw[qX];intro p c;let⟨i,l,e⟩:=bH.mp c;rw[<- e,Gn];simpa using g i (bY.mp l)
 rw[this,aD (by simp)];unfold kv;rw[A9]
def J5{w:Nat->Sd}:(kv w n).length=n:=mH
def T5{w:Nat->Sd}(inj:∀i j,i < n->j < n->w i=w j->i=j)(c:∀j,j < n->w j≠w n):∀i j,i < n+1->j < n+1->w i=w j->i=j:=λi j l g e=>by
 by_cases a:i=n
 ·by_cases b:j=n
  ·ext
  ·subst a;exact bh e.symm (c j ())
 ·by_cases b:j=n
  ·subst b;exact bh e (c i ())
  ·exact inj i j () () e
def OL(Y:pv h)(J:io h st)(B:k < h.hands.length)(L:∀d I,qI h st k d->eJ s I->Q d I):wp (jD [fW h,dI st,.int k]) Q s:=by
 let hh:=Y.1;let E:3<=eV:=gH ()
 (simp![jD];simp![yr])
 refine C1 (λl u=>∃(n:Nat)(y:Option D),l=[some (fW h),some (dI st),some (.int k),some (.dic s.length),some (dI (kQ h k st n)),y]/\u[s.length]?=some (.dct true (kv (kQ h k st) n))/\(∀i,i < n->oV (cQ h (kQ h k st i) k)=true)/\(∀i j,i < n->j < n->kQ h k st i=kQ h k st j->i=j)/\eJ s u)
  (λ(_:Loc)(u:aZ)=>match u[s.length]? with
   |some (.dct _ a6)=>200000-a6.length
   |_=>0) ⟨0,none,rfl,pW,λi U=>by ext,λi j U=>by ext,(eJ.refl _).snoc _⟩ (λRw l u up rt hW=>?_)
 let⟨n,y,el,g,H,inj,G⟩:=hW;subst el;let few:=Vi Y J B inj;let O:=EA hh J B n;let q1:∀Q,wp (hasK s.length (dI (kQ h k st n))) Q u=Q (m_ (kv (kQ h k st) n) (dI (kQ h k st n))).isSome u:=λQ=>LA g (yD _);let C:∀Q,wp (gO (.dic s.length)) Q u=Q (.int n) u:=λQ=>by rw[NV g,J5]
 simp![↓q1];cases o:(bT n).find? λi=>decide (kQ h k st i=kQ h k st n) with
 |some j=>
  let q:m_ (kv (kQ h k st) n) (dI (kQ h k st n))=some (.int j):=by rw[QY,o];rfl
  let q3:∀Q,wp (itemK s.length (dI (kQ h k st n))) Q u=Q (.int j) u:=λQ=>DM g (yD _) q;rw[q];simp![↓C,↓q3,E,gW,dS,aK,if_false];let e1:=List.find?_some o;let e2:=List.mem_of_find?_eq_some o;exact L _ _ ⟨n,H,inj,.inl ⟨j,bY.mp e2,by simpa using e1,rfl⟩⟩ G
 |none=>
  let q:m_ (kv (kQ h k st) n) (dI (kQ h k st n))=none:=by rw[QY,o];rfl
  let c:∀j,j < n->kQ h k st j≠kQ h k st n:=λj hj=>by have:=List.find?_eq_none.mp o j (bY.mpr hj);simpa using this
  let w:∀Q s,wp (je [fW h,dI (kQ h k st n),.int k]) Q s=Q (qG (cQ h (kQ h k st n) k)) s:=λQ s=>IS hh O B;let w2:∀Q s,wp (jr [fW h,dI (kQ h k st n),.int k]) Q s=Q (dI (kq h (kQ h k st n) k)) s:=λQ s=>Oy hh O B;rw[q];cases el:cQ h (kQ h k st n) k with
  |settle v=>
   rw[el]at w;simp only[qG]at w;simp![↓w,↓C,E,Nb,gX,fO,if_true];refine rt ?_;simp![];exact L _ _ ⟨n,H,inj,.inr ⟨c,v,el,rfl⟩⟩ G
  |act b d gs=>
   rw[el]at w;simp only[qG]at w;let q4:∀v Q,wp (storeK s.length (dI (kQ h k st n)) v) Q u=Q Unit.unit (u.set s.length (.dct true (mK (kv (kQ h k st) n) (dI (kQ h k st n)) v))):=λv Q=>Ls g (yD _) (sC (by rw[J5];ext));simp![↓w,↓w2,↓C,↓q4,E,LM,gX,fO,if_true,aK,if_false];rw[ZN c];let g2:(u.set s.length (MO.dct true (kv (kQ h k st) (n+1))))[s.length]?=some (.dct true (kv (kQ h k st) (n+1))):=aF (ly g);refine up ⟨n+1,_,rfl,g2,λi U=>?_,T5 inj c,G.put (aw _)⟩ ?_
   ·by_cases e:i=n
    ·subst e;rw[el];rfl
    ·exact H i ()
   ·rw[g2,g];simp only[J5];ext
theorem Ou(hh:gY h)(g:h.hands.length=2){t:Nat}(l:io h x)(o:k < 2):∀n,kQ (ad h c) k (lf x t) n=lf (kQ h k x n) t
 |0=>rfl|n+1=>by show kq _ (kQ _ _ _ n) k=lf (kq h _ k) t;rw[Ou hh g l o n,DB g (by rw[(EA hh l () n).1,g]) o]
def ND(hh:gY h)(g:h.hands.length=2){t:Nat}(C:io h x)(E:k < 2)(r:qI h x k d):qI (ad h c) (lf x t) k d:=by
 let e:=λn=>Ou hh g (c:=c) (t:=t) C E n;let el:∀n,cQ (ad h c) (lf (kQ h k x n) t) k=cQ h (kQ h k x n) k:=λn=>Ha g (by rw[(EA hh C () n).1,g]) E;let⟨n,I,H,G⟩:=r;refine⟨n,λi o=>by rw[e,el];exact I i o,λi j o l z=>H i j o l (Gz (by rw[<- e,<- e];exact z)),?_⟩;rw[e];rcases G with ⟨j,a1,B,q⟩|⟨a1,v,B,q⟩
 ·exact .inl ⟨j,a1,by rw[e,B],q⟩
 ·exact .inr ⟨λj l z=>a1 j l (Gz (by rw[<- e];exact z)),v,by rw[el];exact B,q⟩
end
open PySem (Str)
section
variable{s u:aZ}{Q:D->aZ->Prop}{h:Hs}{x:Sd}
theorem Me{n:Nat}:∀{xs:List D},(∀x∈xs,p9 n x x=some true)->og (p9 n) xs xs=some true
 |[],_=>rfl|x::xs,h=>by unfold og;rw[h x (by simp)];exact Me λy c=>h y (by simp[c])
def IW{n:Nat}{xs:List D}(h:∀x∈xs,p9 n x x=some true):p9 (n+1) (.tup xs) (.tup xs)=some true:=Me h
def Ew{n:Nat}{i:Int}:p9 n (.int i) (.int i)=some true:=by
 have:some (i == i)=some true:=by simp
 cases n<;>exact this
def L3{n:Nat}{xs:List Nat}:p9 (n+1) (.tup (xs.map eL)) (.tup (xs.map eL))=some true:=IW λx c=>by let⟨i,_,e⟩:=bH.mp c;rw[<- e];exact Ew
def Ey{n:Nat}:p9 (n+2) (dI x) (dI x)=some true:=IW λy c=>by
 rcases aR.mp c with e|c
 ·rw[e];exact L3
 ·rw[aA.mp c];exact L3
def NI{xs:List D}(h:∀x∈xs,p9 49 x x=some true):wp (wk (.tup xs) (.tup xs)) Q s=Q (.bl false) s:=by
 let e:p9 50 (.tup xs) (.tup xs)=some true:=IW h;have:wk (.tup xs) (.tup xs)=bnd (match p9 50 (.tup xs) (.tup xs) with
  |some r=>ret r
  |none=>bad) λb=>ret (.bl !b):=rfl
 rw[this,e,d8];dsimp only;rw[cF,cF];rfl
def Xi{xs:List D}(h:∀x∈xs,p9 49 x x=some true):wp (nj (.tup xs) (.tup xs)) Q s=Q (.bl true) s:=by
 let e:p9 50 (.tup xs) (.tup xs)=some true:=IW h;have:nj (.tup xs) (.tup xs)=bnd (match p9 50 (.tup xs) (.tup xs) with
  |some r=>ret r
  |none=>bad) λb=>ret (.bl b):=rfl
 rw[this,e,d8];dsimp only;rw[cF,cF]
def Qo5{a b:Nat}(g:s[a]?=some (.lst xs))(c:s[b]?=some (.lst xs))(h:∀x∈xs,p9 50 x x=some true):wp (wk (.ref a) (.ref b)) Q s=Q (.bl false) s:=by
 have:wk (.ref a) (.ref b)=bnd (bnd (getL a) λx=>bnd (getL b) λy=>match (if x.length=y.length then og (p9 50) x y else some false) with
  |some r=>ret r
  |none=>bad) λb=>ret (.bl !b):=rfl
 rw[this,d8,d8,fk g,d8,fk c,aH rfl,Me h];dsimp only;rw[cF,cF];rfl
open Classical in
def Qo6{m n:Nat}(B:s[m]?=some (.dct true c))(v:s[n]?=some (.dct true c))(q:∀p∈c,yA p.2):wp (vD (.dic m) (.dic n)) Q s=Q (.bl false) s:=by let o:∀{m c}{Q:List (D×D)->aZ->Prop},s[m]?=some (.dct true c)->wp (getDf m) Q s=Q c s:=λ{m c Q}g=>cU (by unfold getDf;rw[g]);unfold vD;rw[d8,o B,d8,o v,fA,cF];exact propext ⟨λz=>z.2,λz=>⟨⟨rfl,q⟩,z⟩⟩
def xN(h:Hs):Prop:=∃i,lL h i/\∃x,x < (dh h i).length/\xi (eF h (dh h i)) x
def wI(c:pv h):∀i,so h i->(dh h i).length<=500:=λi g=>by have:=(B5 c g).1;ext
def Yw{i:Nat}(v:pv h)(st:lL h i)(f:r6 h (dh h i) R):¬ xN h:=λc=>by let⟨j,o,x,g,B⟩:=c;have:=st.uniq o;subst this;exact f.none_ (bo g) (Jh (λx g k q=>Dy v.1 st g q) g B)
def RQ(o:pv h)(v:∀i c u,lL h i->u[c]?=some (.lst ((dh h i).map dI))->s.length<=c->eJ s u->Q (.ref c) u):wp (jv [fW h,.int 500]) Q s:=by
 (simp![jv];simp![ya])
 refine IE (most:=500) o (wI o) λi c G E rs u st gl g H q B C ex=>?_;simp![];exact v i c u st gl g ex
def Ij(c:pv h)(g:s[1]?=some (.tbl "graph_numbers" "<lambda>"))(q:xN h)(o:∀u,eJ s u->Q .non u):wp (jc [fW h,.int 500]) Q s:=
 Qw (most:=500) c (wI c) g (λi N R d u st v f _ _ _ _ _=>bh q (Yw c st f)) λ_ _ u _ _ _ ex=>o u ex
def Et(g:pv h)(q:s[1]?=some (.tbl "graph_numbers" "<lambda>"))(v:¬ xN h)(C:∀i N R d u,lL h i->uw h (dh h i) IU N->r6 h (dh h i) R->(∀x∈R,x∈dh h i)->u[d]?=some (.dct true (oI (dh h i) λx=>.int (N x:Nat)))->s.length<=d->eJ s u->Q (.dic d) u):wp (jc [fW h,.int 500]) Q s:=
 Qw (most:=500) g (wI g) q (λi N R d u st o f _ a b c ex=>C i N R d u st o f a b c ex) λi x u st B E _=>bh ⟨i,st,x,B,E⟩ v
def IM(c:pv h)(g:¬ xN h)(q:∀u,eJ s u->Q .non u):wp (jf [fW h,.int 500]) Q s:=
 QA (most:=500) c (wI c) λi o u st fr ex=>by
  cases o with|none=>exact q u ex|some p=>exact bh ⟨i,st,p.1,fr.1,fr.2.1⟩ g
def LP(g:pv h)(C:xN h)(B:∀i f w u,lL h i->FR (dh h i).length (eF h (dh h i)) (some (f,w))->eJ s u->Q (DD (dh h i) (some (f,w))) u):wp (jf [fW h,.int 500]) Q s:=
 QA (most:=500) g (wI g) λi o u st fr ex=>by
  cases o with
  |none=>
   let⟨j,q,x,v,c⟩:=C;have:=st.uniq q;subst this;exact bh c (fr x v)
  |some p=>exact B i p.1 p.2 u st fr ex
def ID{bd:Nat}(o:pv h)(q:s[0]?=some (.tbl "most_deeds" "worth")){i:Nat}(st:lL h i)(f:r6 h (dh h i) R)(B:∀(M:Nat->Sd->Nat)u,(∀k,k < h.hands.length->uw h (dh h i) (xI h k bd) (M k))->eJ s u->Q (.tup (bA h.hands.length λk=>.int (rE (M k) (dh h i):Nat))) u):wp (jk [fW h,.int (bd:Nat),.int 500]) Q s:=
 Ze (most:=500) o (wI o) q (λj M u g a _ ex=>by
  have:=st.uniq g;subst this;exact B M u a ex) λj x u g v c _=>by
  have:=st.uniq g;subst this;exact bh c (f.none_ v)
def HV{v:Nat}(hh:gY h)(c:h.hands.length=2):xN (ad h (pL v))↔xN h:=by unfold xN;simp only[QU hh c,zy hh c,af,PK hh c (v9 hh _).2]
def LS(q:x.ls.length=2):wp (jb [dI x]) Q s=Q (dI (lf x 0)) s:=by
 let c:2+1<=eV:=gH ();let g:2<=eV:=gH ();let o:1<=eV:=gH ()
 (simp![jb];simp![jL,dI,o,g,c,af,q])
 unfold lf;rw[bw];rfl
end
open PySem (Str)
section
variable{s u:aZ}{Q:D->aZ->Prop}{h:Hs}{ys:List Sd}
def Jl{n:Nat}:wp (sP (.dic n) .non) Q s=Q (.bl false) s:=cU rfl
def Cu{v:Nat}:D.tup [.tup (h.boards.map rF),.tup (h.hands.map np++[.tup [.tup [.int 0,.int 0],.tup [.tup [.str "settle",.int (v:Nat)]]]])]=fW (ad h (pL v)):=by unfold fW ad;rw[bw];rfl
def VZ{c:Nat}(g:u[c]?=some (.lst (ys.map dI)))(v:∀x∈ys,x.ls.length=2):wp (collect (aS 0) b7 (bJ jb (au (aq 0) aX)) (gw c (ys.map dI)) (ys.map dI) [none]) A u=A ((ys.map (lf · 0)).map dI) u:=by
 rw[A3 (f:=λi=>((ys[i]?).map λx=>dI (lf x 0)).getD .non) g λi d hd Q=>by
  rw[av]at hd;cases ex:ys[i]? with|none=>rw[ex]at hd;cases hd|some x=>
   rw[ex]at hd;cases hd;let q:∀Q s,wp (jb [dI x]) Q s=Q (dI (lf x 0)) s:=λQ s=>LS (v x (ax ex));simp![↓q];rfl]
 congr 1;symm;refine Ck (by simp) λi o=>?_;rw[af]at o;simp[ae o]
noncomputable def pj(y:Sd):Sd:=⟨y.ls.dropLast,y.ss⟩
def RB{t:Nat}:pj (lf x t)=x:=by unfold pj lf;cases x;simp
def UT{d:Nat}(g:u[d]?=some (.dct true (oI ys F)))(v:∀x∈ys,x.ls.length=2):wp (collect (gI 2 (cL (aS 0) (cL (aS 1) g8))) b7 (c8 (au (bJ jb (au (aq 0) aX)) (au (aq 1) aX))) (λs=>s[d]?=some (.dct true (oI ys F))) ((oI ys F).map λq=>.tup [q.1,q.2]) [none,none]) A u=A ((ys.map (lf · 0)).map λy=>D.tup [dI y,F (pj y)]) u:=by
 let o:2<=eV:=gH ();rw[Cp (f:=λi=>((ys[i]?).map λx=>D.tup [dI (lf x 0),F x]).getD .non) g λi d hd=>by
  unfold oI at hd;rw[iH,av]at hd;cases ex:ys[i]? with|none=>rw[ex]at hd;cases hd|some x=>
   rw[ex]at hd;cases hd;let q:∀Q s,wp (jb [dI x]) Q s=Q (dI (lf x 0)) s:=λQ s=>LS (v x (ax ex));refine⟨_,_,rfl,λQ=>?_⟩;simp![↓q,o];rfl]
 congr 1;symm;refine Ck (by unfold oI;simp) λi c=>?_;unfold oI at c;rw[af,af]at c;simp[ae c,RB]
def QK{M M':Sd->Nat}(e:∀x∈ys,M x=M' x):rE M ys=rE M' ys:=Dw λi c=>by rw[ae c];exact e _ (bo c)
def OW{g bd t k:Nat}(o:h.hands.length=2)(q:io h x)(v:k < 2):xI (ad h c) g bd (lf x t) k=xI h g bd x k:=by unfold xI;rw[Ha o (by rw[q.1,o]) v]
def SJ{v:Nat}(E:pv h)(c:h.hands.length=2)(hv:v < 2)(t0:s[0]?=some (.tbl "most_deeds" "worth"))(t1:s[1]?=some (.tbl "graph_numbers" "<lambda>"))(hq:∀u,eJ s u->Q (.bl true) u):wp (jo [fW h,.int (v:Nat)]) Q s:=by
 let hh:=E.1;let hm:=E4 E c hv;let l1:1<=eV:=gH ();let l2:2<=eV:=gH ();let l3:2+1<=eV:=gH ();let sD:∀Q s,wp (aW (fW h) (.int 0)) Q s=Q (.tup (h.boards.map rF)) s:=λQ s=>cU rfl;let sE:∀Q s,wp (aW (fW h) (.int 1)) Q s=Q (.tup (h.hands.map np)) s:=λQ s=>cU rfl
 (simp![jo];simp![jM,↓sD,↓sE,l1,l2,l3,af,c,Cu])
 refine RQ hm λi no u st gl hno ex=>?_;simp![];refine RQ E λj no2 C g gl2 hno2 ex2=>?_;have:=((QU hh c).mp st).uniq g;subst this;rw[zy hh c]at gl;let ok:=(v9 hh i).2;let U:∀x∈dh h i,x.ls.length=2:=λx Y=>by rw[(ok x Y).1,c]
 let ll:(dh h i).length<=eV:=gH (by have:=(B5 E g.1).1;ext);let w1:∀A,wp (collect (aS 0) b7 (bJ jb (au (aq 0) aX)) (gw no2 ((dh h i).map dI)) ((dh h i).map dI) [none]) A C=A (((dh h i).map (lf · 0)).map dI) C:=λA=>VZ gl2 U;rw[Cu];simp![↓fk gl2,im,↓w1,af,ll];let x3:eJ C (C++[MO.lst (((dh h i).map (lf · 0)).map dI)]):=(eJ.refl _).snoc _;let w2:∀Q,wp (wk (.ref no) (.ref C.length)) Q (C++[MO.lst (((dh h i).map (lf · 0)).map dI)])=Q (.bl false) (C++[MO.lst (((dh h i).map (lf · 0)).map dI)]):=λQ=>Qo5 (x3.at_ (ex2.at_ gl)) pW λy G=>by let⟨z,_,e⟩:=bH.mp G;rw[<- e];exact Ey
 simp![↓w2,aK,if_false];let I:eJ s (C++[MO.lst (((dh h i).map (lf · 0)).map dI)]):=(ex.trans ex2).trans x3;clear w1 w2;generalize C++[MO.lst (((dh h i).map (lf · 0)).map dI)]=v1 at *;by_cases J:xN h
 ·refine Ij E (I.at_ t1) J λv2 x4=>?_;simp![];refine LP E J λj f w o sj fr x5=>?_;have:=g.uniq sj;subst this;let q:=fr.1;let L:DD (dh h i) (some (f,w))=.tup [dI (dh h i)[f],.tup (w.map il)]:=by show D.tup [(((dh h i)[f]?).map dI).getD .non,_]=_;rw[ae q];rfl
  rw[L];simp![↓Cj,if_true];let B:=(I.trans x4).trans x5;refine Ij hm (B.at_ t1) ((HV hh c).mpr J) λv4 x6=>?_;let C:=λQ s=>@LS s Q (dh h i)[f] (U _ (bo q));simp![↓Cj,if_true];refine LP hm ((HV hh c).mpr J) λj f' Y v5 O l x7=>?_;have:=st.uniq O;subst this;rw[zy hh c,PK hh c ok,af]at l;have:=l.uniq fr;cases this;let H:DD (dh (ad h (pL v)) i) (some (f,w))=.tup [dI (lf (dh h i)[f] 0),.tup (w.map il)]:=by show D.tup [(((dh (ad h (pL v)) i)[f]?).map dI).getD .non,_]=_;rw[zy hh c,av,ae q];rfl
  let u:∀Q s,wp (nj (.tup [dI (lf (dh h i)[f] 0),.tup (w.map il)]) (.tup [dI (lf (dh h i)[f] 0),.tup (w.map il)])) Q s=Q (.bl true) s:=λQ s=>Xi λy G=>by
   rcases aR.mp G with e|G
   ·rw[e];exact Ey
   ·rw[aA.mp G];exact L3
  rw[H];simp![↓C,↓u,l2];exact hq _ ((B.trans x6).trans x7)
 ·refine Et E (I.at_ t1) J λj N R d v2 sj tN H hR gd ld x4=>?_;have:=g.uniq sj;subst this;simp![];refine IM E J λo x5=>?_;let hn:((dh h i).map (lf · 0)).Nodup:=Iv (v9 hh i).1 λa _ b _ e=>Gz e;let hl:((dh h i).map (lf · 0)).length<=1000:=by rw[af];have:=(B5 E g.1).1;ext
  let gd3:=x5.at_ gd;let w3:∀A,wp (collect (gI 2 (cL (aS 0) (cL (aS 1) g8))) b7 (c8 (au (bJ jb (au (aq 0) aX)) (au (aq 1) aX))) (λs=>s[d]?=some (.dct true (oI (dh h i) λx=>.int (N x:Nat)))) ((oI (dh h i) λx=>.int (N x:Nat)).map λq=>.tup [q.1,q.2]) [none,none]) A o=A (((dh h i).map (lf · 0)).map λy=>D.tup [dI y,.int (N (pj y):Nat)]) o:=λA=>UT gd3 U;let w4:∀Q,wp (lK (((dh h i).map (lf · 0)).map λy=>D.tup [dI y,.int (N (pj y):Nat)])) Q o=Q (.dic o.length) (o++[.dct true (oI ((dh h i).map (lf · 0)) λy=>.int (N (pj y):Nat))]):=λQ=>OY hn hl;let ls:(oI (dh h i) λx=>D.int (N x:Nat)).length=(dh h i).length:=by unfold oI;rw[af]
  simp![↓Jl,aK,if_false,↓QmY,↓zx gd3,im,af,ls,ll,↓w3,↓w4];let g5:(o++[MO.dct true (oI ((dh h i).map (lf · 0)) λy=>.int (N (pj y):Nat))])[o.length]?=some (.dct true (oI ((dh h i).map (lf · 0)) λy=>.int (N (pj y):Nat))):=pW;let B:eJ s (o++[MO.dct true (oI ((dh h i).map (lf · 0)) λy=>.int (N (pj y):Nat))]):=((I.trans x4).trans x5).snoc _;clear w3 w4;generalize o++[MO.dct true (oI ((dh h i).map (lf · 0)) λy=>.int (N (pj y):Nat))]=v4 at *;refine Et hm (B.at_ t1) (λz=>J ((HV hh c).mp z)) λj N' R' d' v5 O tN' fal' hR' u ld' x6=>?_;have:=st.uniq O;subst this;rw[zy hh c]at tN' u;let eN:∀x∈dh h i,N' (lf x 0)=N x:=uw.uniq H hR (M3 c ok (λ_ _ _ _=>rfl) tN') tN;let eD:(oI ((dh h i).map (lf · 0)) λy=>D.int (N' y:Nat))=oI ((dh h i).map (lf · 0)) λy=>D.int (N (pj y):Nat):=cJ λy G=>by let⟨x,Y,e⟩:=bH.mp G;subst e;dsimp only;rw[RB,eN x Y]
  rw[eD]at u;let w5:∀Q,wp (vD (.dic d') (.dic o.length)) Q v5=Q (.bl false) v5:=λQ=>Qo6 u (x6.at_ g5) λp hp=>by let⟨y,_,e⟩:=bH.mp hp;rw[<- e];trivial
  simp![↓w5,aK,if_false];refine IM hm (λz=>J ((HV hh c).mp z)) λv6 x7=>?_;let ex6:=(B.trans x6).trans x7;let hb:=vL (show h.boards.length<=100 by have:=hh.1;ext);simp![↓IX,aK,if_false,↓sD,af,hb,bC,ue];refine CK (n:=h.boards.length) (λ_ l s'=>∃y,l=[some (fW h),some (.int (v:Nat)),some (fW (ad h (pL v))),some (.dic d),some .non,some (.dic o.length),y]/\eJ s s') (λ_ _ _ _=>trivial) ⟨_,rfl,ex6⟩ (λRr b l s' up hb hW=>?_) (λl s' hW=>?_)
  ·let⟨y,el,xs⟩:=hW;subst el;simp![];refine ID hm (xs.at_ t0) st fal' λM' u1 L q=>?_;simp![];refine ID E ((xs.trans q).at_ t0) g H λM C J B=>?_;let u:(ad h (pL v)).hands.length=h.hands.length+1:=by unfold ad;simp
   rw[u]at L;let U:(bA (ad h (pL v)).hands.length λk=>D.int (rE (M' k) (dh (ad h (pL v)) i):Nat))=(bA h.hands.length λk=>D.int (rE (M k) (dh h i):Nat))++[.int 0]:=by
    rw[u,A9,zy hh c];congr 1
    ·refine cJ λk l=>?_;let l:=bY.mp l;let a:=L k ();rw[zy hh c]at a;have:=uw.uniq H hR (M3 c ok (λx j Y o=>OW c Y o) a) (J k l);rw[Q5,QK this]
    ·let a:=L h.hands.length ();rw[zy hh c]at a;have:=uw.uniq (M':=λ_=>0) H hR (M3 (wt:=λ_ _=>0) c ok (λx j Y o=>by unfold xI;rw[aD ()]) a) λx Y=>(xB.mp (Pc λk l=>aw _)).symm;rw[Q5,QK this];have:rE (λ_=>0) (dh h i)=0:=xB.mp (Ib λj o=>by rw[ae o];exact aw _);rw[this];rfl
   rw[U];let O:h.hands.length+1<=eV:=gH ();let I:∀Q s,wp (wk (.tup ((bA h.hands.length λk=>D.int (rE (M k) (dh h i):Nat))++[.int 0])) (.tup ((bA h.hands.length λk=>D.int (rE (M k) (dh h i):Nat))++[.int 0]))) Q s=Q (.bl false) s:=λQ s=>NI λy G=>by
    rcases aP.mp G with z|z
    ·let⟨k,_,e⟩:=bH.mp z;rw[<- e];exact Ew
    ·rw[aA.mp z];exact Ew
   simp![l1,mH,O,↓I,aK,if_false];exact up ⟨_,rfl,(xs.trans q).trans B⟩
  ·let⟨y,el,xs⟩:=hW;subst el;simp![];exact hq _ xs
end
open PySem (Str)
section
variable{s u:aZ}{Q:D->aZ->Prop}{h:Hs}{ys zs:List Sd}{i j:Nat}
def Sw(g:∀x∈ys,∀k∈gB h x,kq h x k∈ys)(a:TS (wS h) x y):x∈ys->y∈ys:=by
 induction a with|one z=>exact λo=>by let⟨k,q,e⟩:=z;exact e ▸ g _ o k q|more z _ ih=>exact λo=>ih (by let⟨k,q,e⟩:=z;exact e ▸ g _ o k q)
def zW(g:h.hands.length=2):(ad h c).hands.length=3:=by unfold ad;simp[g]
def Rf(hh:gY (ad h c))(o:h.hands.length=2)(st:lL (ad h c) i)(C:y∈dh h j):∃t,lf y t∈dh (ad h c) i:=by
 let B:=(HN hh o).1;let⟨row,v,e⟩:=IR j y C;let g:=v;rw[o]at g;let q:=Iw (h:=ad h c) i (row:=row++[.int 0]) (by rw[zW o];exact (Rt g).1);rw[ED o (xJ 2 row g).1]at q;rcases e with e|e
 ·exact⟨_,e ▸ q⟩
 ·exact⟨_,Sw (λx E k G=>Dy hh st E G) (Oi B o e (DT B v)) q⟩
def Qpp(C:pv (ad h c))(q:h.hands.length=2)(st:lL (ad h c) i)(f:r6 (ad h c) (dh (ad h c) i) R):¬ xN h:=λg=>by let⟨j,E,x,o,I⟩:=g;have v:=(HN C.1 q).1;have B:=bo o;have a:=Jh (λx o k H=>Dy v E o H) o I;let⟨t,G⟩:=Rf C.1 q st B;exact f.none_ G (Oi v q a ((v9 v j).2 _ B))
def Qpq{M M':Sd->Nat}(e:∀x∈ys,∃z∈zs,M x<=M' z):rE M ys<=rE M' zs:=Ib λi o=>by rw[ae o];let⟨z,hz,le⟩:=e _ (bo o);let⟨k,g,q⟩:=List.getElem_of_mem hz;refine cW le ?_;have:((zs[k]?).map M').getD 0<=rE M' zs:=MJ (f:=λi=>((zs[i]?).map M').getD 0) g;rw[ae g,q]at this;exact this
theorem Ji:D.tup [.tup (h.boards.map rF),.tup (h.hands.map np)]=fW h:=rfl
def Qf(g:h.hands.length=2):cutD ((ad h c).hands.map np) none (some 2)=h.hands.map np:=by have:cutD ((ad h c).hands.map np) none (some ((2:Nat):Int))=_:=Gk;rw[show (some (2:Int))=some ((2:Nat):Int) from rfl,this];unfold ad;rw[bw,sL (by rw[af,g])]
def Qps(U:pv (ad h c))(v:h.hands.length=2)(t0:s[0]?=some (.tbl "most_deeds" "worth"))(Y:s[1]?=some (.tbl "graph_numbers" "<lambda>"))(hq:∀u,eJ s u->Q (.bl true) u):wp (jh [fW (ad h c)]) Q s:=by
 let hh:=U.1;let h0:=(HN hh v).1;let o:=GD U v;let l2:2<=eV:=gH ();let sD:∀Q s,wp (aW (fW (ad h c)) (.int 0)) Q s=Q (.tup (h.boards.map rF)) s:=λQ s=>cU rfl;let sE:∀Q s,wp (aW (fW (ad h c)) (.int 1)) Q s=Q (.tup ((ad h c).hands.map np)) s:=λQ s=>cU rfl
 (simp![jh];simp![jB,↓EG,↓sD,↓sE,l2])
 rw[Qf v,Ji (h:=h)];let eqb:∀(a:Bool)Q s,wp (nj (.bl a) (.bl a)) Q s=Q (.bl true) s:=λa Q s=>by cases a<;>exact cU rfl
 by_cases cy:xN (ad h c)
 ·refine Ij U Y cy λu1 H=>?_;simp![];by_cases c2:xN h
  ·refine Ij o (H.at_ Y) c2 λu2 O=>?_;simp![↓Cj,if_true];refine LP o c2 λj f w u3 sj fr L=>?_;let c:∀Q s,wp (mw (DD (dh h j) (some (f,w))) .non) Q s=Q (.bl true) s:=λQ s=>cU rfl;simp![↓c,↓eqb];exact hq _ ((H.trans O).trans L)
  ·refine Et o (H.at_ Y) c2 λj N R d u2 sj tN E hR gd ld O=>?_;simp![↓Cj,↓Jl,if_true];refine IM o c2 λu3 L=>?_;simp![↓IX,↓eqb];exact hq _ ((H.trans O).trans L)
 ·refine Et U Y cy λi N' R' d' u1 st tN' G hR' gd' ld' H=>?_;let c2:=Qpp U v st G;simp![];refine Et o (H.at_ Y) c2 λj N R d u2 sj tN E hR gd ld O=>?_;simp![↓Jl,aK,if_false];refine IM o c2 λu3 L=>?_;simp![↓IX,aK,if_false];let ok:=(v9 h0 j).2;let hcl:∀x∈dh (ad h c) i,∀k∈gB (ad h c) x,kq (ad h c) x k∈dh (ad h c) i:=λx hx k J=>Dy hh st hx J;let n3:=zW (c:=c) v;refine Ri (.inr n3) λr u4 lr g4 x4=>?_;let ex4:=((H.trans O).trans L).trans x4;let i8:(km (ad h c).hands.length).length<=eV:=gH (by rw[n3];decide);simp![↓fk g4];refine vp (λq l g=>∃y,l=[some (fW (ad h c)),some (fW h),some (.dic d'),some (.dic d),y,none,none,none]/\eJ u4 g) (λ_ _ g z=>by let⟨_,_,e⟩:=z;exact e.at_ g4) ⟨_,rfl,eJ.refl _⟩ (λRr q dd l g up rt hd B=>?_) (λl g B=>?_)
  ·let⟨y,el,xs⟩:=B;subst el;rw[av]at hd;cases C:(km (ad h c).hands.length)[q]? with|none=>rw[C]at hd;cases hd|some r3=>
    rw[C]at hd;cases hd;let o:=ax C;let⟨row,d0,J,U,_⟩:=O7 (n3 ▸ o);let u:row∈km h.hands.length:=by rw[v];exact J
    let I:=(xJ 2 row J).1;let ct:cutD r3 none (some (2:Int))=row:=by have:cutD r3 none (some ((2:Nat):Int))=_:=Gk;rw[show (some (2:Int))=some ((2:Nat):Int) from rfl,this,U,sL I]
    let b1:∀Q s,wp (jd [fW h,.tup row]) Q s=Q (dI (fZ h row)) s:=λQ s=>Eg h0 u;let b2:∀Q s,wp (jd [fW (ad h c),.tup r3]) Q s=Q (dI (fZ (ad h c) r3)) s:=λQ s=>Eg hh o;let H:=Iw (h:=h) j u;let l:=Iw (h:=ad h c) i o;let G:=(L.trans x4).trans xs;let k1:∀Q,wp (itemK d (dI (fZ h row))) Q g=Q (.int (N (fZ h row):Nat)) g:=λQ=>DM (G.at_ gd) (yD _) (by rw[NS,aH H]);let Y:∀Q,wp (itemK d' (dI (fZ (ad h c) r3))) Q g=Q (.int (N' (fZ (ad h c) r3):Nat)) g:=λQ=>DM ((O.trans G).at_ gd') (yD _) (by rw[NS,aH l]);let le:N (fZ h row)<=N' (fZ (ad h c) r3):=by rw[U,ED v I]at l ⊢;exact QG v E hR ok (λ_ _ _ _=>rfl) hcl tN tN' _ H l
    simp![↓EG,ct,↓b1,↓b2,↓k1,↓Y];rw[aD ()];exact up ⟨_,rfl,xs⟩
  ·let⟨y,el,xs⟩:=B;subst el;let hb:=vL (show h.boards.length<=100 by have:=hh.1;unfold ad at this;dsimp only at this;ext);let C : ∀{a b : CE}{I : Wk -> aZ -> Prop}{l : Loc}{s : aZ}, wp (qH a b l) I s = wp (a l) (λx s1 => wp (b l) (λy Y => match x, y with
     | .tup ds,.tup es=>I ⟨ds.zipWith (λp q=>.tup [p,q]) es,d6⟩ Y
     |_,_=>False) s1) s:=by
    intro a b I l s;unfold qH;rw[d8];congr 1;funext x s1;rw[d8];congr 1;funext y Y;cases x<;>first|exact ib|skip
    cases y<;>first|exact ib|exact cF
   simp![↓sD,af,hb,bC,ue];refine CK (n:=h.boards.length) (λ_ l g=>∃a b e,l=[some (fW (ad h c)),some (fW h),some (.dic d'),some (.dic d),y,a,b,e]/\eJ s g) (λ_ _ _ _=>trivial) ⟨_,_,_,rfl,ex4.trans xs⟩ (λRr b l g up hb B=>?_) (λl g B=>?_)
   ·let⟨a5,H,u,el,xs⟩:=B;subst el;simp![↓C];refine ID o (xs.at_ t0) sj E λM v1 tM Q=>?_;refine ID U ((xs.trans Q).at_ t0) st G λM' v2 O Y=>?_;let ez:((bA h.hands.length λk=>D.int (rE (M k) (dh h j):Nat)).zipWith (λp q=>D.tup [p,q]) (bA (ad h c).hands.length λk=>D.int (rE (M' k) (dh (ad h c) i):Nat)))=bA h.hands.length λk=>D.tup [.int (rE (M k) (dh h j):Nat),.int (rE (M' k) (dh (ad h c) i):Nat)]:=Ck (by rw[iQ,mH,mH];ext) λk J=>by rw[d9,vJ J,vJ ()]
    simp![ez];refine CK (n:=h.hands.length) (λ_ l g=>∃H u,l=[some (fW (ad h c)),some (fW h),some (.dic d'),some (.dic d),y,some (.int (b:Nat)),H,u]/\eJ s g) (λ_ _ _ _=>trivial) ⟨_,_,rfl,(xs.trans Q).trans Y⟩ (λRr k l g L J B=>?_) (λl g B=>?_)
    ·let⟨H,u,el,xs⟩:=B;subst el;let le:rE (M k) (dh h j)<=rE (M' k) (dh (ad h c) i):=Qpq λx hx=>by let⟨t,I⟩:=Rf hh v st hx;exact⟨_,I,QG v E hR ok (λx k g J=>OW v g J) hcl (tM k J) (O k ()) x hx I⟩
     simp![];rw[aD ()];exact L ⟨_,_,rfl,xs⟩
    ·let⟨H,u,el,xs⟩:=B;subst el;simp![];exact up ⟨_,_,_,rfl,xs⟩
   ·let⟨a5,H,u,el,xs⟩:=B;subst el;simp![];exact hq _ xs
end
open PySem (Str)
section
variable{s u:aZ}{Q:D->aZ->Prop}{h g:Hs}{x:Sd}
def XA{k:Nat}{d:D}(r:qI h x k d):wp (wk d d) Q s=Q (.bl false) s:=by
 let go:∀(a:Str)(i j:Int),wp (wk (.tup [.str a,.int i,.int j]) (.tup [.str a,.int i,.int j])) Q s=Q (.bl false) s:=λa i j=>NI λy o=>by
  rcases aR.mp o with e|o
  ·subst e;have:some (a == a)=some true:=by simp
   exact this
  ·rcases aR.mp o with e|o
   ·subst e;exact Ew
   ·rw[aA.mp o];exact Ew
 let⟨n,_,_,r⟩:=r;rcases r with ⟨j,_,_,e⟩|⟨_,v,_,e⟩<;>rw[e]<;>exact go _ _ _
def AB(h g:Hs):Prop:=∀row∈km h.hands.length,cutD (row++[.int 0]) none (some ((g.hands.length:Nat):Int))∈km g.hands.length/\∀k,k < 2->∀d d',qI g (fZ g (cutD (row++[.int 0]) none (some ((g.hands.length:Nat):Int)))) k d->qI h (fZ h row) k d'->d=d'
def Yt(hh:gY h)(q:h.hands.length=2):AB h (ad h c):=λrow B=>by have o:=B;rw[q]at o;have v:=(xJ 2 row o).1;rw[Gk,zW q,g_ (by simp[v])];refine⟨(Rt o).1,λk C d d' a b=>?_⟩;rw[ED q v]at a;exact Oc a (ND hh q (DT hh B) C b)
def WK(hh:gY g)(o:g.hands.length=2):AB (ad g c) g:=λrow B=>by rw[zW o]at B;let⟨C,G,q,e,_⟩:=O7 B;have v:=(xJ 2 C q).1;rw[Gk,o,e,br,sL v];refine⟨q,λk E d d' a b=>?_⟩;rw[ED o v]at b;exact Oc (ND hh o (DT hh (o ▸ q)) E a) b
def OM(c:pv h)(G:pv g)(sm:AB h g)(hq:∀u,Q (.bl true) u):wp (aO (kg (iV (bJ jl (au (aq 2) aX))) (aS 4) (aO (kg (fN (aN (.int 2))) (aS 5) (aO (cn (aS 6) (bJ jd (au (aq 3) (au (kh (c2 fF (aq 4) (c8 (au (aN (.int 0)) aX))) oU (mV (c1 gO (c2 aW (aq 3) (aN (.int 1)))))) aX)))) (aO (mr (cX (c2 wk (bJ jD (au (aq 3) (au (aq 6) (au (aq 5) aX)))) (bJ jD (au (aq 2) (au (bJ jd (au (aq 2) (au (aq 4) aX))) (au (aq 5) aX)))))) (aO (dF (aN (.bl false))) aU) aU) aU))) aU)) (aO (dF (aN (.bl true))) aU) [a0,a1,some (fW h),some (fW g),none,none,none]) (λf o=>wp (wM f) Q o) t:=by
 let hh:=c.1;let J:h.hands.length=2\/h.hands.length=3:=by have:=hh.2.2.1;have:=hh.2.2.2.1;ext
 let sE:∀Q s,wp (aW (fW g) (.int 1)) Q s=Q (.tup (g.hands.map np)) s:=λQ s=>cU rfl;let l1:1<=eV:=gH ();let hb:=vL (show 2<=100 by ext);simp![];refine Ri J λr O lr g1 x1=>?_;simp![↓fk g1];refine vp (λq l o=>∃H B v,l=[a0,a1,some (fW h),some (fW g),H,B,v]/\eJ O o) (λ_ _ o z=>by let⟨_,_,_,_,e⟩:=z;exact e.at_ g1) ⟨_,_,_,rfl,eJ.refl _⟩ (λRr q dd l o up rt hd C=>?_) (λl o C=>?_)
 ·let⟨H,B,v,el,xs⟩:=C;subst el;rw[av]at hd;cases L:(km h.hands.length)[q]? with|none=>rw[L]at hd;cases hd|some row=>
   rw[L]at hd;cases hd;let E:=ax L;let⟨Y,m2⟩:=sm row E;let rl:=(xJ _ row E).1;let l4:row.length+1<=eV:=gH ();let b1:∀Q s,wp (jd [fW g,.tup (cutD (row++[.int 0]) none (some ((g.hands.length:Nat):Int)))]) Q s=Q (dI (fZ g (cutD (row++[.int 0]) none (some ((g.hands.length:Nat):Int))))) s:=λQ s=>Eg G.1 Y;let b2:∀Q s,wp (jd [fW h,.tup row]) Q s=Q (dI (fZ h row)) s:=λQ s=>Eg hh E;simp![];refine⟨by ext,?_⟩;rw[show iL 0 (Int.toNat 2)=bA 2 λi=>.int (i:Nat) from ue];refine CK (n:=2) (λ_ l o=>∃B v,l=[a0,a1,some (fW h),some (fW g),some (.tup row),B,v]/\eJ O o) (λ_ _ _ _=>trivial) ⟨_,_,rfl,xs⟩ (λRr k l o I hk C=>?_) (λl o C=>?_)
   ·let⟨B,v,el,xs⟩:=C;subst el;simp![↓EG,↓sE,l1,l4,af,↓b1];refine OL G (DT G.1 Y) (by have:=G.1.2.2.1;ext) λd v1 g J=>?_;simp![↓b2];refine OL c (DT hh E) () λd' v2 U u=>?_;have:=m2 k hk d d' g U;subst this;let w:=λQ s=>@XA s Q h _ k d U;simp![↓w,aK,if_false];exact I ⟨_,_,rfl,(xs.trans J).trans u⟩
   ·let⟨B,v,el,xs⟩:=C;subst el;simp![];exact up ⟨_,_,_,rfl,xs⟩
 ·let⟨H,B,v,el,xs⟩:=C;subst el;simp![];exact hq _
def T9(o:h.hands.length=3):∃g c,h=ad g c/\g.hands.length=2:=by
 refine⟨⟨h.boards,h.hands.take 2⟩,h.hands[2],?_,by show (h.hands.take 2).length=2;rw[bB];ext⟩;unfold ad;dsimp only;have:h.hands.take 2++[h.hands[2]]=h.hands:=by rw[List.take_append_getElem,g_ ()]
 rw[this]
def Yu(H:List Int)(hn:H.length<=63)(C:aZ)(u:C[0]?=some (.tbl "most_deeds" "worth"))(J:C[1]?=some (.tbl "graph_numbers" "<lambda>"))(Q:D->aZ->Prop)(hQ:∀s,Q (.bl true) s):wp (j5 [.lit (H.map D.int)]) Q C:=by
 let l1:1<=eV:=gH ();let U:2<=eV:=gH ();let l3:2+1<=eV:=gH ();let ls0:=ly J
 (simp![j5];simp![yu])
 refine QkT λp q s1 l lp lq x1=>?_;simp![];refine Qlf l λh s2 hg Y k2=>?_;let B:=JU hg;let hh:=B.1;let ks:∀{i:Nat}{o:MO}{v:aZ},i < C.length->C[i]?=some o->Kept p q s2 v->v[i]?=some o:=λhi e k=>(k2.trans k).same () () (x1.at_ e);let sD:∀(g:Hs)Q s,wp (aW (fW g) (.int 0)) Q s=Q (.tup (g.boards.map rF)) s:=λg Q s=>cU rfl;let L:∀(g:Hs)Q s,wp (aW (fW g) (.int 1)) Q s=Q (.tup (g.hands.map np)) s:=λg Q s=>cU rfl;simp![↓L,af];by_cases E:h.hands.length=2
 ·rw[aH ()];simp![↓L,↓sD];refine⟨U,rR Y () () λd C q G o c=>?_⟩;let⟨v,rfl⟩:=xD q;let g:v < 2:=by ext
  let l:∀Q s,wp (cY (h.hands.map np++[.tup [.tup [.int 0,.int 0],.tup [.tup [.str "settle",.int (v:Nat)]]]]) 2) Q s=Q (.tup [.tup [.int 0,.int 0],.tup [.tup [.str "settle",.int (v:Nat)]]]) s:=λQ s=>uk (i:=2) (by rw[aE (by rw[af];ext),af,E];rfl);simp![l1,U,l3,af,E];rw[Cu];simp![↓l];refine SJ B E g (ks (i:=0) () u c) (ks (i:=1) () J c) λO x4=>?_;simp![];let lo:=OM (a0:=some (.lit (H.map D.int))) (a1:=some (.ref p)) (t:=O) B (E4 B E g) (Yt hh E) hQ
  revert lo
  simp![];exact id
 ·rw[aD ()];let⟨g,c,e,I⟩:=T9 (h:=h) (by have:=hh.2.2.1;have:=hh.2.2.2.1;ext);subst e;have G:=GD B I;simp![↓EG,↓L,↓sD,U];rw[Qf I];refine Qps B I (ks (i:=0) () u Kept.refl) (ks (i:=1) () J Kept.refl) λO x4=>?_;simp![];have lo:=OM (a0:=some (.lit (H.map D.int))) (a1:=some (.ref p)) (t:=O) B G (WK G.1 I) hQ
  revert lo
  simp![];exact id
def U5{α:Type}{m:M α}{v:α}(h:wp m (λa _=>a=v) s):∃o,m s=.ok v o:=by
 rw[sM]at h;cases e:m s with|ok a o=>rw[e]at h;exact⟨o,by rw[show a=v from h]⟩|exc _ _=>rw[e]at h;exact h.elim|bad=>rw[e]at h;exact h.elim
def yy(o:List Int)(h:o.length<=63):∃q,j5 [.lit (o.map D.int)] tS=.ok (.bl true) q:=U5 (m:=j5 [.lit (o.map D.int)]) (v:=.bl true) (s:=tS) (Yu o h tS rfl rfl (λa _=>a=.bl true) λ_=>rfl)
end
open PySem PySem.Spec PyProof.Rows L2
def Ly{l:xX}{J:bM->bK->Prop}{d:DefRec}{K:Params->ah}(U:l.most=some 63)(I:d.params.defaults=[])(G:d.name="law")(ts:List (ak×Str×Str))(H:(ts.map (·.1)).Nodup)(E:(ts.map λp=>MO.tbl p.2.1 p.2.2)=tS)(C:∀(w:bM),∀p∈ts,TabOf (K w.params) p.2.1 p.1/\(K w.params).lookup p.1=none) (hY:∀(w:bM)(h:bK),J w h->(K w.params).In h/\∀P∈ts.map (·.1),h.get? P=some (eS #[])) (F:∀(w:bM)(mg:Str->Option ag)(h:bK),(K w.params).In h->h.Ns cO mg->Txt (K w.params) mg):zO q c XP J l.row.toRowW d [] (λf O=>xq f O):=by
 refine Wr (n:=63) (k:=9) (x:="_law_script") (g:=j5) ts U (by decide) I ⟨rfl,by decide,by decide⟩ hY H C (λw mg fa h B v o=>?_) (λv Y=>by rw[E];exact yy v Y);let T:=F w mg h B v;let⟨a,fd,L,m⟩:=T.f40;rw[G,m]at o;cases o;refine⟨fd,λs u=>?_,λbase hB=>yv L T hB⟩;let⟨oc,od,kV,doc,pm,an,cdv,ct,Q,e,lk,hcd⟩:=L.ex;rw[e];exact .of_eq rfl
end My
noncomputable def PySem.W.Fast.tw5168711236061325774:PySem.Program:=PySem.Challenge.pw_pactboards_k89_whole_a_hand_left_out
theorem PySem.W.Fast.te5168711236061325774:PySem.Challenge.pw_pactboards_k89_whole_a_hand_left_out=PySem.W.Fast.tw5168711236061325774:=rfl
namespace PySem.W.Fast
def tw1208583177627905835:=0
def tw2911751100559135674:=0
def tw9596305735030332070:=0
def tw14974891074460635423:=0
def tw17757184017838053827:=0
def tw13996342200495347744:=0
def tw443863697013956182:=0
def tw4824137706652879105:=0
def tw7625215155590291173:=0
def tw6087262827152018406:=0
def tw8836015462487931805:=0
def tw16166638733938393992:=0
def tw11177444046323365391:=0
def tw13282742229653995327:=0
def tw18053996838207506923:=0
def tw15710540660015187606:=0
def tw1595436874776602559:=0
def tw4123432259145226928:=0
def tw5942405691082153379:=0
def tw2189920366676822582:=0
def tw17291676532779852640:=0
def tw7694571524513094907:=0
def tw1557460562083202400:=0
def tw15981998011507783313:=0
def tw851021413747128661:=0
def tw6789851826843723170:=0
def tw10825730549459351551:=0
def tw7526104509787865278:=0
def tw15520307162508261168:=0
def tw2811119871763282100:=0
def tw5829878299068239150:=0
def tw7912861226540633474:=0
def tw5133448188985294493:=0
def tw9115614796996122008:=0
def tw864632900945852179:=0
def tw4661049343671526597:=0
def tw15719993692061671999:=0
def tw11367437152701968703:=0
def tw16629317135919085556:=0
def tw9493669311111424061:=0
def tw5961657720541294930:=0
def tw5397710841196541896:=0
def tw3416095720916188612:=0
def tw11220028235452268596:=0
def tw1721952492185306327:=0
def tw13467473972987229334:=0
def tw14145577255776274176:=0
def tw16307483644051232603:=0
def tw11541361075613844545:=0
def tw6168055376537746061:=0
def tw10355965361611427958:=0
def tw4161549335892899893:=0
def tw6409690187982975823:=0
def tw8204914490714638513:=0
def tw17441872185487931531:=0
def tw8305508353862207538:=0
def tw16556834475097038821:=0
def tw11913068378753871220:=0
def tw4508379165221158521:=0
def tw11614961735243466385:=0
def tw2410074328566505223:=0
def tw994674354576429161:=0
def tw7268467756483632675:=0
def tw6617704654256095737:=0
def tw13584457419205162177:=0
def tw16927116276927063620:=0
def tw11039772948010363655:=0
def tw17920084734297416955:=0
def tw18020064512027908531:=0
def tw9654309965295263469:=0
def tw8861554453992927368:=0
def tw17572433562392760361:=0
def tw7321801092874806456:=0
def tw6188102750206913983:=0
def tw2407754795980819290:=0
def tw1856565116240896948:=0
def tw12355305417205772872:=0
def tw12310285944777244326:=0
def tw3747332896102080109:=0
def tw8191216357180009196:=0
def tw5460078146885649016:=0
def tw12152912908543318536:=0
def tw11740865120161896680:=0
def tw10779204444300575323:=0
def tw9604906973131661043:=0
def tw8208299454697474668:=0
def tw13682230434946615779:=0
def tw16979548089579914345:=0
def tw17078336926888119303:=0
def tw5864078216731306143:=0
def tw5840754622100262884:=0
def tw2383137488586663853:=0
def tw485798659319114094:=0
def tw2716571887974326036:=0
def tw3465299836206752495:=0
def tw6294673098839373502:=0
def tw2079814839400567501:=0
def tw12123954306158050171:=0
def tw8292532102773755180:=0
def tw3519235218538396837:=0
def tw13183429995539452075:=0
def tw44680768790930139:=0
def tw12360422668940321197:=0
def tw11081963607509117935:=0
def tw3593280550464470005:=0
def tw4751323753699517411:=0
def tw3391693837387553269:=0
def tw35073411922182406:=0
def tw13718830226343309637:=0
def tw2347049953960053955:=0
def tw17264831514070824888:=0
def tw16084307639263983002:=0
def tw16742319073207262382:=0
def tw2195825620026021719:=0
def tw12376374368066267055:=0
def tw14943330139615168120:=0
def tw604960908412329694:=0
def tw1210971577310943831:=0
def tw11922420397347687778:=0
def tw2471042819962059184:=0
def tw6746495842393464472:=0
def tw976064187938222812:=0
def tw17417375486423326996:=0
def tw16526995458460868267:=0
def tw3238879761814027334:=0
def tw15197987390720518525:=0
def tw5939387453087150680:=0
def tw9725871070829825640:=0
def tw12317405569189270724:=0
def tw797707118353766959:=0
def tw5617173978202886255:=0
def tw13330972574459928130:=0
def tw16907880783831596815:=0
def tw15120712707129420296:=0
def tw4769794696834138577:=0
def tw16515072294453122304:=0
def tw12873519771762133191:=0
def tw3911078603313947444:=0
def tw16643051425587115580:=0
def tw18341866913814943350:=0
def tw5285529714740599117:=0
def tw18023330944393652768:=0
def tw17482448458574421902:=0
def tw3403357403893983931:=0
def tw13635117246335404948:=0
def tw14130589865341049847:=0
def tw7287435507132970690:=0
def tw15254415352148386562:=0
def tw18193367860099669238:=0
def tw4510533874831468253:=0
end PySem.W.Fast
open PySem PySem.W PyProof.Rows
set_option maxHeartbeats 0 in
theorem PySem.Challenge.cw_pactboards_k89_whole_a_hand_left_out_holds : PySem.Challenge.rw_pactboards_k89_whole_a_hand_left_out.Holds := by
 w_on;o_law;k_head;(case hw=>w_witness2)
 k_fill
 refine My.Ly (l:=PySem.Challenge.rw_pactboards_k89_whole_a_hand_left_out) rfl rfl rfl [(233,"most_deeds","worth"),(195,"graph_numbers","<lambda>")] (by decide) rfl ?T (λw h Y=>⟨PySem.W.km_in_of Y,PySem.W.km_tabs_of Y⟩) ?F
 case T=>
  intro w p hp;simp only[aR,cI,or_false]at hp;rcases hp with rfl|rfl<;>(refine' MM.BJ ?a ?b ?c ?d ?e;(case a|b=>k_is);(case c=>rfl);(case d|e=>kernel_rfl))
 case F=>
  intro w mg h KX G;constructor
  case f12=>refine' MM.Bj (P:=233) KX G ?u ?v ?x ?y ?t;(case u|v|x|y=>k_is);(case t=>kernel_rfl)
  case f28=>refine' MM.Bj (P:=195) KX G ?u ?v ?x ?y ?t;(case u|v|x|y=>k_is);(case t=>kernel_rfl)
  all_goals first|(refine' MM.Jb KX G ?u ?v ?x ?y;(case u|v|x|y=>k_is))|(refine' MM.Fe KX G ?u ?v ?x ?y ?t;(case u|v|x|y|t=>k_is))|exact MM.EO|(repeat' first|exact MM.Hh|refine' MM.C_ (PySem.W.mg_none_of KX G ?_) ?_|k_is)