import PyProof.Rows.All
import Wide.All
import OpenK.AllK
import Wide.FinOn
import PySem.Challenge.RW_pactboards_k42_critical_stands
local macro_rules|`(tactic| nofun)=>`(tactic| decide +kernel)
local macro_rules|`(tactic| ext)=>`(tactic| first|decide|lia|omega)
local macro_rules|`(())=>`(by ext)
open Lean in
local macro_rules|`(tactic| let $d:letDecl)=>do
 let rec p:Nat->Syntax->MacroM (TSyntax `rcasesPat)|0,_=>Macro.throwUnsupported|n+1,t=>do match t with
  |`(⟨$a,*⟩)=>`(rcasesPat| ⟨$(← a.getElems.mapM λx=>do `(Parser.Tactic.rcasesPatLo| $(← p n x):rcasesPat)),*⟩)
  |`(_)=>`(rcasesPat| _)
  |_=>`(rcasesPat| $(⟨t⟩):ident)
 if d.raw[0].isOfKind ``Parser.Term.letPatDecl then `(tactic| obtain $(← p 9 d.raw[0][0]):rcasesPat:=$(⟨d.raw[0][4]⟩))else`(tactic| have $d:letDecl)
set_option autoImplicit true
set_option relaxedAutoImplicit true
set_option compiler.extract_closed false
set_option genSizeOf false
set_option Elab.async false
set_option linter.all false
set_option maxRecDepth 100000
set_option maxHeartbeats 4000000
open Option renaming some->ξ,none->ψ
open Bool renaming true->θ,false->ω
local macro_rules|`(⇑$x)=>`(($x).length)
local macro_rules|`(↥$x)=>`(($x).heap.objs.size)
local macro_rules|`(↑$x)=>`(.int $x)
open And renaming intro->ay
open Array renaming ext'->Iy,find?_toList->wW,forIn_toList->pF,getElem?_eq_getElem->lV,getElem?_eq_none->uZ,getElem?_eq_some_iff->ii,getElem?_toList->ff,length_toList->fW,toList->Dz
open Bool renaming and_eq_true->bo,and_true->pK,decide_and->nG,eq_iff_iff->nI,false_and->tF,false_eq_true->bp,false_ne_true->bc,false_or->uk,not_eq_true'->qM,not_false->tH,not_true->fR,or_eq_false_iff->oA,or_eq_true->nK,or_false->pE,or_true->Ez,true_and->DI
open Classical renaming byContradiction->rB,choose->dm,choose_spec->eh,propDecidable->sC
open False renaming elim->cZ
open ForInStep renaming yield->ky
open Function renaming comp->sE
open Int renaming add_le_add_right->wZ,emod_lt_of_pos->gO,emod_nonneg->iM,le_of_lt->Il,le_trans->Iw,max_eq_right->A7,min_eq_left->BN,mul_one->JK,not_lt->zt,ofNat_le->Io,ofNat_lt->IB,toNat_natCast->aR,toNat_of_nonneg->pN,zero_add->Im
open List renaming all_cons->bO,all_eq_true->dX,any_cons->dw,any_eq_true->eQ,any_map->m8,append_assoc->bF,append_nil->bG,cons_append->mQ,contains_cons->dq,contains_iff_mem->vV,dropLast_eq_take->vP,drop_eq_getElem_cons->cz,drop_length->mM,drop_nil->DG,drop_zero->oy,eq_nil_of_length_eq_zero->sj,eq_of_mem_replicate->mr,ext_getElem?->d7,filterMap_cons->kT,filter_append->eR,filter_cons->gz,find?->JO,find?_cons->b9,find?_isSome->zF,flatMap_append->xx,flatten_cons->fL,foldl->m6,foldl_append->qN,foldl_cons->A_,forIn_cons->cV,forIn_nil->BQ,getD_eq_getElem?_getD->fj,getElem?_append_left->aI,getElem?_append_right->bv,getElem?_cons_succ->mO,getElem?_cons_zero->u_,getElem?_eq_getElem->ag,getElem?_eq_none->bE,getElem?_eq_some_iff->ac,getElem?_inj->mh,getElem?_map->ar,getElem?_of_mem->eU,getElem?_range->d_,getElem?_replicate->gp,getElem?_set_ne->aw,getElem?_set_self->ax,getElem?_zipWith->fo,getElem_idxOf->gK,getElem_inj->zS,getElem_mem->cM,getElem_toArray->kG,idxOf_cons->sD,idxOf_lt_length_iff->dM,length->e_,length_append->aK,length_cons->cm,length_drop->gq,length_dropLast->wB,length_eq_one_iff->vk,length_eq_zero_iff->u7,length_filter_le->gW,length_map->af,length_nil->nF,length_replicate->eM,length_reverse->kX,length_set->cJ,length_singleton->fm,length_take->cL,length_zipWith->kY,lookup->wC,lookup_cons->rn,lookup_cons_self->kz,map->tL,map_append->aV,map_congr_left->d9,map_cons->aX,map_map->i9,map_nil->m5,map_set->qO,mem_append->aS,mem_append_left->bI,mem_append_right->bu,mem_cons->a_,mem_cons_of_mem->bD,mem_cons_self->bK,mem_filter->dO,mem_filterMap->lL,mem_iff_getElem?->gX,mem_map->bA,mem_of_getElem?->aJ,mem_of_mem_take->wI,mem_range->cC,mem_reverse->Aa,mem_singleton->aD,nil_append->sB,nodup_append->d6,nodup_cons->iI,nodup_nil->oC,not_mem_nil->cW,of_mem_zip->sy,range->bU,range_succ->fH,range_succ_eq_map->vg,replicate->aE,replicate_succ->c_,reverse_cons->fK,set_eq_take_append_cons_drop->qx,set_set->EA,size_toArray->aG,sum_cons->mw,take_length->cX,take_nil->DF,take_of_length_le->m9,take_sublist->zq,take_succ->gA,take_succ_eq_append_getElem->d8,zipIdx_cons->zW,zipIdx_nil->Be,zip_cons_cons->xL
open List.cons renaming inj->nR
open Nat renaming add_assoc->pS,div_eq_of_lt->iw,le_max_left->BS,le_max_right->Bh,le_of_eq->vL,le_of_lt->nD,le_of_not_lt->r8,le_refl->aA,le_succ->xw,le_total->rf,le_trans->bH,lt_irrefl->cY,lt_of_le_of_lt->zD,lt_of_lt_of_le->br,lt_of_sub_eq_succ->wG,lt_succ_of_lt->ke,lt_succ_self->mX,min_le_right->A6,mul_add_div->iL,mul_assoc->u8,mul_comm->gN,mul_le_mul->DN,mul_le_mul_right->eW,ne_of_gt->fN,ne_of_lt->bB,not_lt_zero->s_,pow_succ->vW,sub_self->vQ,succ_mul->lA,zero_add->IC,zero_le->bn
open Nat.succ renaming inj->mn
open Ne renaming symm->du
open Option renaming bind_eq_some_iff->mq,bind_some->km,getD_some->il,isNone_none->wH,isSome_iff_exists->tG,isSome_map->fD,isSome_none->wJ,isSome_some->lj,map_eq_some_iff->cA,map_some->dJ,toList->Bl
open Option.some renaming inj->aO
open PyProof.Rows renaming AllBare->mZ,IntsAre->lc,IsTup->A3,News->zo,Subscript_->DB,callWith_type1->cU,call_isinstance_of->DL,envOfC->kB,get?_update_seq->JQ,seqObj->iU,slot_tuple_getitem->oi,subscriptTail->xj,subscriptTail_builtinR->zv,tail_any->A8,wpAny_notIn_heap->Iq
open PyProof.Rows.IntsAre renaming length->zA
open PySem renaming Addr->ak,Arguments->Ik,Around->bx,BindsTo->sR,CmpOp->xH,DictEntry->kl,Expr->Iu,Fin->uo,FuncData->b_,Heap->bC,HeapKind->vN,IsPair->iD,IsPart->t7,IsTupleKey->DE,IsZip->oY,Keyword->io,Model->A4,NameKind->fe,Operator->A5,Paired->iS,Params->DC,PassesOwn->og,Scope->dU,Shared->aj,Spec->cH,Str->ut,Value->ae,Within->Dx,World->bJ,assign->oK,assignEach->dC,atKey->lB,atKey_none_of_get->Eu,attributeBase->cG,backTo->dF,backToKw->oh,behindInMarks->iX,binaryOp->eJ,bindArgs->ly,bindC->xJ,bindL->xI,bindSpecial->ur,bootBuiltins->b5,builtinLookup_eq_fast->zX,builtinOwn->si,builtinsNs->rV,cLine->cO,call->sW,callSpecial?->zy,call_meets->iB,callerA->qH,cellsFrom->dG,classOwn->vU,closureFor->DH,codeAny->l_,codeAny_builtin->oZ,codeAny_call_builtin->qv,codeAny_call_builtin_code->wF,codeAny_mono->ma,compareOp->cq,concat_meets->zr,dictSet->Et,dictSetDefault->vT,entryOfKey->oJ,eqIsQuiet->qI,eqIsQuiet_byValue->Es,evalPart_none->w_,excClassObj->fv,excMatches->DO,field->vO,firstArgMember->qr,foldedSetIterable->eI,getAttr?->Bg,getItem->sS,getattributeRaised->DM,holding->oM,intKind->qG,isInstance->kW,isSubtype_stop->vR,isSubtype_tuple_tuple->pG,isSubtype_type->vS,isType->zC,keywordEach->ki,letOwnedTupleGo->oX,loadHead->Bf,mainGlobals->bN,mem_of_lookup->d3,model->aW,noFill_tuple_add->t6,not_mem_keys_of_get->BP,noteFrame->Iv,numAt->Ew,plainId_quiet->xq,pushCells->xN,pushCells_keeps->uX,putAt->ul,pyIter->DA,pyNext->qm,raiseStmt->IA,rawInt->gM,relabel->i_,seqIndex_neg->zu,seqIndex_of->A9,seqItems?->qJ,seqSlot_of->zE,seq_tuple_add->wY,setFlight->Iz,setItem->sQ,sizeLine_eq->gi,size_of_entries->lT,sliceBounds->kj,slicePick->xK,slot_list_getitem->sT,specialOf->qK,spliced->En,standAt->ve,starEach->az,storedH->lp,swapsWith->fX,sysModules->dB,tupleKind->tZ,tupleKind_room_in1->mI,typeIs_int->mH,typeLookup->cv,typeLookup_type->JN,typeOf->zw,unbindBehindTheSuite->Bk,valueAt->sY,wpAny->aF,wpAny_Call_Name_kw->fG,wpAny_Call_method_late->zx,wpAny_Dict_empty->Ir,wpAny_Name->Dy,wpAny_assign_Name->Eo,wpAny_attempt->iY,wpAny_binaryOp_repeat_ref->mV,wpAny_bind->aa,wpAny_call->kU,wpAny_callSpecial?_slot->cw,wpAny_call_entry->cR,wpAny_dictEntries->kD,wpAny_dictEpoch->uY,wpAny_dictFind_heap->BO,wpAny_eqBool_int->tY,wpAny_execs_cons->Ii,wpAny_execs_nil->lR,wpAny_field->cP,wpAny_forIn_list->oj,wpAny_getItem_heap->DD,wpAny_getItem_list_slice->xm,wpAny_holding->bT,wpAny_isInstance->eV,wpAny_isOneOf_keyiter->zZ,wpAny_isSubtype_exc->lX,wpAny_letGo->qq,wpAny_load->rW,wpAny_loadPart->iE,wpAny_loadPart'->i7,wpAny_loadPart_at->kE,wpAny_mkText->zB,wpAny_mono->dN,wpAny_newObj_type->dk,wpAny_notOrdered_dict->pH,wpAny_of_eq->Bb,wpAny_onRaise->nJ,wpAny_passesOwn->ig,wpAny_pure->ai,wpAny_pyHash_int->Ih,wpAny_pyIter_enum->Ey,wpAny_pyIter_list->kA,wpAny_pyIter_tuple->mJ,wpAny_pyIter_zip->Ix,wpAny_pyNext_list_end->zT,wpAny_pyNext_list_item->zp,wpAny_ret_mkInt->JM,wpAny_rule->eK,wpAny_seqItems->eL,wpAny_sequenceKey->Ep,wpAny_setField->iC,wpAny_setField_rec->g8,wpAny_specialOf->i8,wpAny_standAt->nE,wpAny_truthy_bool->f_,wpAny_tupleItemsOf->r9,wpAny_typeNameOfWhole_keyiter->gU,wpAny_typeNameOf_keyiter->iZ,wpAny_typeOf->eY,wpAny_typeOf_ref->iJ,wpAny_updateDictKeys->Ba,wpAny_updateSeq_pair->qu
open PySem.Around renaming under->uj,under_plainId->vj
open PySem.Builtin.Dict renaming pairItems->rA,showsAll->sf
open PySem.Builtin.Dict_items renaming ownsTuple->m7
open PySem.Builtin.List renaming listExtendWith->gF,listItems->rp,listLengthHint->pI,listSameRef->qL,listTooLong->kK
open PySem.Builtin.ObjectAttr renaming find->oP,refuseIfOverridden->lC
open PySem.Builtin.Slice renaming sliceAdjust->kC,sliceApplied->pC,slicePlaces->gS
open PySem.Builtin.SmallTypes renaming nextOf->bZ,ownedTupleHandOut->lM,ownedTupleIsFree->eP
open PySem.Builtin.Tuple renaming tupleExact->gZ,tupleHashOf->di,tupleItemsOf->pD,tupleTooMany->pM
open PySem.Calls renaming Name_function_global->sO,callWith_builtin->mU,call_function_entry->tJ,evalArgs_plain->vK,spliced_cons->pB,spliced_nil->qo
open PySem.Challenge renaming pw_pactboards_k42_critical_stands->kn
open PySem.Code renaming frames->Ij,isFrame->vf,quiet_builtin->pT
open PySem.EntryCells renaming newEntry->t_
open PySem.F renaming args_dict_keyiterator_next_1->sZ,args_int_rmul_2->rZ,args_tuple_add_2->lS,args_tuple_iterator_next_1->t9,args_tuple_mul_2->Bj,args_zip_next_1->BR,entry_dict_keyiterator_next->tK,entry_int_rmul->sV,entry_tuple_add->me,entry_tuple_iterator_next->um,entry_tuple_mul->BV,entry_zip_next->DJ,excBase_ValueError->pJ,fills_int_mul->t8,plainAttrs_list->mj,slot_dict_iter->DK,slot_dict_keyiterator_next->g9,slot_dict_len->Ev,slot_dict_setdefault->xt,slot_dict_setitem->zU,slot_enumerate_next->xR,slot_int_index->sU,slot_int_rmul->iW,slot_tuple_add->mG,slot_tuple_eq->ox,slot_tuple_hash->mL,slot_tuple_iterator_next->iu,slot_tuple_mul->nM,slot_tuple_rmul->BU,slot_zip_next->oz,typeOf_object_class->oQ
open PySem.Heap renaming ExtBut->r_,SameBut->dP,get?_push_of_some->av,get?_push_size->aM,get?_update_ne->o0,get?_update_other->dA,get?_update_self->bS,lt_size->aP,push->zY,size_push->dL
open PySem.Heap.DictOfH renaming new->uq
open PySem.Heap.IsSliceOf renaming new->sA
open PySem.Heap.SameBut renaming update->b7
open PySem.NameKind renaming cell->ip,free->b6
open PySem.Obj renaming cls_mapFields->zV,data_mapDict->mW,data_mapDictKeys->dY,data_mapFields->lU,isFreed_of_dict->gu,isFreed_of_fields->wD,mapFields->fV,mapSeq->eS
open PySem.Paired renaming length->dZ,snoc->nQ
open PySem.PassesOwn renaming never->qw
open PySem.ScopeKind renaming function->u5
open PySem.SeqAt renaming EqAt->Ip
open PySem.SeqAt.EqAt renaming int_str->uh,str_int->ui
open PySem.Shared renaming TypeIs->Bi,heap->vh
open PySem.Str renaming ofString->al,ofString->kJ
open PySem.Value renaming bool->eO,builtin->fO,float->Em,int->iK,isInt->rm,isStrOf->BM,none->bL,ref->aC,str->ku,type->fM
open PySem.Value.type renaming inj->wE
open PySem.W renaming Frag->aq,KasT->Bc,KatTups->xQ,OpenLaw->rg,WalkO->sX,callWith_K->oO,cellsFrom_some->mF,codeHdIn->qp,codeIn->gY,findIn->rY,fnOf->dv,instObj->ra,kas_sort->mm,kat_nil->xO,keepIn->dh,kia_one->cS,kitOne->fU,kitx_dict->wA,kitx_list->pA,kitx_tuple->vJ,kla_obj->xM,lks_asc->vi,lookIn->rX,methodObj->pz,mg_none_of->bW,mg_of->z_,nsIn->iT,plainGet->wX
open PySem.W.WData renaming int->JL
open PySem.W.WShape renaming has->Er
open Sum renaming inl->lq,inr->q_
open True renaming intro->dS
noncomputable section
noncomputable def aH:=@if_pos
noncomputable def aB:=@if_neg
noncomputable def aQ:=@decide_eq_false
noncomputable def bV:=@decide_eq_true
noncomputable def bw:=@absurd
noncomputable def cj:=@congrArg
namespace L2
open PySem PySem.Spec PyProof.Rows
noncomputable abbrev Key:=Sum Int Str
def tB:Key->ae->Bool
 | .inl k,v=>rm k v| .inr x,v=>BM x v
def Kg(w:bJ):Key->Int
 | .inl k=>hashInt k| .inr x=>hashStr w x
theorem fA:∀{k:Key}{v:ae},tB k v=θ->(∃i t,k=lq i/\v=iK i t)\/(∃x t,k=q_ x/\v=ku x t)
 | .inl i,v,h=>by let⟨t,e⟩:=ae.isInt_shape (k:=i) (v:=v) h;exact .inl ⟨i,t,rfl,e⟩| .inr x,v,h=>by let⟨t,e⟩:=ae.isStrOf_shape (x:=x) (v:=v) h;exact .inr ⟨x,t,rfl,e⟩
theorem WI(i:Int)(t:Tok):tB (.inl i) (.int i t)=true:=by simp[tB,rm]
theorem TK(x:Str)(t:Tok):tB (.inr x) (.str x t)=true:=by simp[tB,BM]
theorem VJ(a b:Int):decide ((lq a:Key)=lq b)=(a == b):=by
 by_cases e:a=b
 ·subst e;simp
 ·let h:¬ (lq a:Key)=lq b:=λq=>e (lq.inj q);rw[aQ h];exact (beq_eq_false_iff_ne.mpr e).symm
theorem Qad(a b:Str):decide ((q_ a:Key)=q_ b)=decide (a=b):=by
 by_cases e:a=b
 ·subst e;simp
 ·let h:¬ (q_ a:Key)=q_ b:=λq=>e (q_.inj q);rw[aQ h,aQ e]
theorem Qae(a:Int)(b:Str):decide ((lq a:Key)=q_ b)=false:=aQ (λq=>(by cases q))
theorem WM(a:Str)(b:Int):decide ((q_ a:Key)=lq b)=false:=aQ (λq=>(by cases q))
def fP(prog:Program)(w:bJ):PySem.KeyKind prog w Key where
 is:=tB
 hash:=Kg w
 inj:=λv a b o l=>by
  rcases fA o with ⟨i,t,rfl,rfl⟩|⟨x,t,rfl,rfl⟩
  ·rcases fA l with ⟨j,u,rfl,e⟩|⟨y,u,rfl,e⟩
   ·injection e with e1 _;rw[e1]
   ·cases e
  ·rcases fA l with ⟨j,u,rfl,e⟩|⟨y,u,rfl,e⟩
   ·cases e
   ·injection e with e1 _;rw[e1]
 byValue:=λk v h=>by rcases fA h with ⟨i,t,rfl,rfl⟩|⟨x,t,rfl,rfl⟩<;>rfl
 pyHash:=λg h=>by
  rcases fA g with ⟨i,t,rfl,rfl⟩|⟨x,t,rfl,rfl⟩
  ·exact Ih h
  ·exact wpAny_pyHash_str h
 eqBool:=λhu g h=>by
  rcases fA hu with ⟨i,t,rfl,rfl⟩|⟨x,t,rfl,rfl⟩
  ·rcases fA g with ⟨j,u,rfl,rfl⟩|⟨y,u,rfl,rfl⟩
   ·rw[VJ]at h;exact tY h
   ·rw[Qae]at h;exact uh i t y u _ _ _ _ h
  ·rcases fA g with ⟨j,u,rfl,rfl⟩|⟨y,u,rfl,rfl⟩
   ·rw[WM]at h;exact ui x t j u _ _ _ _ h
   ·rw[Qad]at h;exact wpAny_eqBool_str h
 «strs»:=λk x t v h=>by
  rcases fA h with ⟨i,u,rfl,e⟩|⟨y,u,rfl,e⟩
  ·cases e
  ·injection e with e1 _
   subst e1;cases v<;>rfl
theorem Qag(prog:Program)(w:bJ)(i:Int)(t:Tok):(fP prog w).is (.inl i) (.int i t)=true:=WI i t
theorem YM(prog:Program)(w:bJ)(x:Str)(t:Tok):(fP prog w).is (.inr x) (.str x t)=true:=TK x t
inductive V where
 |non|bl (b:Bool)|int (i:Int)|str (x:Str)|byt (b:Array UInt8)|flt (b:UInt64)|ref (a:ak)|ty (n:String)
 deriving DecidableEq
noncomputable def RelV:V->ae->Prop
 | .non,u=>u=bL| .bl b,u=>u=eO b| .int i,u=>∃t,u=iK i t| .str x,u=>∃t,u=ku x t| .byt b,u=>∃t,u=ae.bytes b t| .flt b,u=>∃t,u=Em b t| .ref a,u=>u=aC a| .ty n,u=>u=fM n
abbrev bX:List V->List ae->Prop:=iS RelV
theorem bX.length(r:bX xs g):⇑xs=⇑g:=dZ r
theorem bX.get{i:Nat}(h:bX xs g)(e:xs[i]?=ξ x):∃u,g[i]?=ξ u/\RelV x u:=by
 induction h generalizing i with
 |nil=>cases e
 |cons r t ih=>cases i with|zero=>cases e;exact⟨_,rfl,r⟩|succ i=>exact ih e
theorem bX.set(r:RelV x u)(i:Nat)(h:bX xs g):bX (xs.set i x) (g.set i u):=by
 induction h generalizing i with
 |nil=>exact .nil
 |cons q t ih=>cases i with|zero=>exact .cons r t|succ i=>exact .cons q (ih i)
theorem bX.append(h:bX xs g)(q:bX ys ws):bX (xs++ys) (g++ws):=by
 induction h with|nil=>exact q|cons r t ih=>exact .cons r ih
theorem bX.take:∀{xs:List V}{g:List ae}(n:Nat),bX xs g->bX (xs.take n) (g.take n)
 |_,_,0,_=>.nil|_,_,_+1,.nil=>.nil|_,_,n+1,.cons r t=>.cons r (bX.take n t)
theorem bX.drop:∀{xs:List V}{g:List ae}(n:Nat),bX xs g->bX (xs.drop n) (g.drop n)
 |_,_,0,r=>r|_,_,_+1,.nil=>.nil|_,_,n+1,.cons _ t=>bX.drop n t
def pj:Option V->Option ae->Prop
 |some v,ξ u=>RelV v u|none,ψ=>True|_,_=>False
def KV{κ:Type}:List (κ×V)->List (κ×ae)->Prop:=iS λ(p:κ×V)(q:κ×ae)=>p.1=q.1/\RelV p.2 q.2
def kV:Key->V
 | .inl i=>.int i| .inr x=>.str x
inductive HO where
 |lst (xs:List V)|tup (xs:List V)|dK (cx:List (Key×V))|dT (cx:List (List Key×V))
 |set (S:Int->Bool) (n:Nat)|ins (C dx:ak) (fs:List (Str×V))|own (x:ak)|xd (fs:List (Str×V))|met (f x:ak)|rng (lo hi:Int)|frz (o:Obj) (u:HO)|tbl (ps:Array ae)|ext (φ:bC->Prop)
noncomputable abbrev Hp:=ak->Option HO
noncomputable def eE(H:Hp)(a:ak)(o:HO):Hp:=λb=>if b=a then ξ o else H b
theorem ik:eE H a o a=ξ o:=by unfold eE;rw[aH rfl]
theorem e8(h:b≠a):eE H a o b=H b:=by unfold eE;rw[aB h]
theorem VB{H:Hp}(h:H a=ξ o)(h':H b=ξ u)(d:o≠u):a≠b:=by intro e;subst e;rw[h]at h';exact d (aO h')
theorem nV{H:Hp}(h:H a=ξ o)(h':H b=ψ):a≠b:=by intro e;subst e;rw[h]at h';cases h'
noncomputable def ka(h:bC)(a:ak)(its:Array ae):Prop:=∃o,h.get? a=ξ o/\o.cls=.type "tuple"/\(∃n,o.data=.seq its n)/\o.dict=ψ
theorem ka.is(p:ka h a its):A3 h a its:=by obtain ⟨o,e,c,d,_⟩:=p;exact ⟨o,e,c,d⟩
theorem ka.lt(p:ka h a its):a < h.objs.size:=p.is.lt
theorem ka.new(h:bC)(its:Array ae):ka (h.push { cls:=.type "tuple",data:=.seq its }) h.objs.size its:=⟨_,aM _ rfl,rfl,⟨_,rfl⟩,rfl⟩
section
variable(P:Program)(w:bJ)
def dQ(H:Hp)(h:bC)(a:ak):HO->Prop
 | .lst xs=>⇑xs<=sizeLine/\∃(its:List ae)(n:Nat),bX xs its/\h.get? a=ξ { cls:=.type "list",data:=.seq its.toArray n }| .tup xs=>⇑xs<=sizeLine/\∃its:List ae,bX xs its/\ka h a its.toArray| .dK cx=>⇑cx<=sizeLine/\(a == dB)=ω/\∃vs,KV cx vs/\h.DictOf (fP P w) a vs
 | .dT cx => ⇑cx <= sizeLine /\ (a == dB) = ω /\ ∃xs : List (List Key×ak×ae),
   iS (λ(p:List Key×V)(q:List Key×ak×ae)=>p.1=q.1/\H q.2.1=ξ (.tup (p.1.map kV))/\RelV p.2 q.2.2) cx xs /\
   ∃o es ep,h.get? a=ξ o/\o.ExactDict/\o.data=.dict es ep/\es.toList=xs.map (oJ (tZ (fP P w)))/\(xs.map (·.1)).Nodup
 | .set S n=>h.SetOf (qG P w) a S n
 | .ins C dx fs => H dx = ξ (.own a) /\ ⇑fs <= 1000 /\ dx ≠ a /\ h.get? a = ξ (ra C dx) /\
   ∃g,h.Ns1 dx g/\(∀f,pj (fs.lookup f) (g f))/\Dx g (fs.map (·.1))
 | .own _=>∃o,h.get? a=ξ o| .xd fs=>∃g,h.Ns1 a g/\∀f,pj (fs.lookup f) (g f)| .rng lo hi=>∃t u v,h.get? a=ξ { cls:=.type "range",data:=.fields #[.int lo t,.int hi u,.int 1 v] }| .frz o u=>h.get? a=ξ o/\dQ H h a u| .tbl ps=>h.get? a=ξ { cls:=.none,data:=.fields ps }| .met f x=>h.get? a=ξ (pz (.ref f) (.ref x))| .ext φ=>φ h/\(∃o,h.get? a=ξ o)/\∀z l:bC,φ z->(∀o,z.get? a=ξ o->l.get? a=ξ o)->φ l
def nZ(H:Hp)(h:bC):Prop:=∀a o,H a=ξ o->dQ P w H h a o
end
section
variable{H H':Hp}{h h':bC}{a:ak}
theorem dQ.lt(x:dQ P w H h a o):a < h.objs.size:=by
 cases o with|lst xs=>let⟨_,_,_,_,e⟩:=x;exact aP e|tup xs=>let⟨_,_,_,p⟩:=x;exact p.lt|dK cx=>let⟨_,_,_,_,o,_,_,e,_⟩:=x;exact aP e|dT cx=>let⟨_,_,_,_,o,_,_,e,_⟩:=x;exact aP e|set S n=>let⟨o,_,_,_,e,_⟩:=x;exact aP e|ins C dx fs=>let⟨_,_,_,e,_⟩:=x;exact aP e|own y=>let⟨_,e⟩:=x;exact aP e|xd fs=>let⟨_,⟨_,_,_,e,_⟩,_⟩:=x;exact aP e|rng lo hi=>let⟨_,_,_,e⟩:=x;exact aP e|frz ob u=>let⟨e,_⟩:=x;exact aP e|tbl ps=>exact aP (show h.get? a=ξ _ from x)|met f y=>exact aP (show h.get? a=ξ _ from x)|ext φ=>let⟨_,⟨_,e⟩,_⟩:=x;exact aP e
theorem iS.mapP{α β:Type}{F G:α->β->Prop}{l₁:List α}{l₂:List β}(h:iS F l₁ l₂)(f:∀a b,F a b->G a b):iS G l₁ l₂:=by
 induction h with|nil=>exact .nil|cons r t ih=>exact .cons (f _ _ r) ih
theorem dQ.stay(x:dQ P w H h a o)(k:∀b u,(b=a\/H b=ξ (.own a))->h.get? b=ξ u->h'.get? b=ξ u)(G:∀b,H b=ξ (.own a)->H' b=ξ (.own a)) (E:∀b xs,H b=ξ (.tup xs)->H' b=ξ (.tup xs)):dQ P w H' h' a o:=by
 induction o with
 |lst xs=>let⟨z,its,n,r,e⟩:=x;exact⟨z,its,n,r,k _ _ (.inl rfl) e⟩|tup xs=>let⟨z,its,r,ob,e,c⟩:=x;exact⟨z,its,r,ob,k _ _ (.inl rfl) e,c⟩|dK cx=>let⟨z,y,vs,r,ob,es,ep,e,c⟩:=x;exact⟨z,y,vs,r,ob,es,ep,k _ _ (.inl rfl) e,c⟩|dT cx=>
  let⟨z,y,xs,r,ob,es,ep,e,c⟩:=x;exact⟨z,y,xs,iS.mapP r λp q z=>⟨z.1,E _ _ z.2.1,z.2.2⟩,ob,es,ep,k _ _ (.inl rfl) e,c⟩
 |set S n=>let⟨ob,es,ep,t,e,c⟩:=x;exact⟨ob,es,ep,t,k _ _ (.inl rfl) e,c⟩|ins C dx fs=>
  let⟨d,z,ne,e,l,⟨g,es,ep,I,c⟩,r⟩:=x;exact⟨G _ d,z,ne,k _ _ (.inl rfl) e,l,⟨g,es,ep,k _ _ (.inr d) I,c⟩,r⟩
 |own y=>let⟨ob,e⟩:=x;exact⟨ob,k _ _ (.inl rfl) e⟩|xd fs=>let⟨l,⟨g,es,ep,e,c⟩,r⟩:=x;exact⟨l,⟨g,es,ep,k _ _ (.inl rfl) e,c⟩,r⟩|rng lo hi=>let⟨t,u,v,e⟩:=x;exact⟨t,u,v,k _ _ (.inl rfl) e⟩|frz ob u ih=>let⟨e,q⟩:=x;exact⟨k _ _ (.inl rfl) e,ih q⟩|tbl ps=>
  let e:h.get? a=ξ { cls:=.none,data:=.fields ps }:=x
  show h'.get? a=ξ { cls:=.none,data:=.fields ps };exact k a _ (.inl rfl) e
 |met f y=>
  let e:h.get? a=ξ (pz (.ref f) (.ref y)):=x
  show h'.get? a=ξ (pz (.ref f) (.ref y));exact k a _ (.inl rfl) e
 |ext φ=>let⟨p,⟨o,e⟩,st⟩:=x;exact⟨st _ _ p λo q=>k _ _ (.inl rfl) q,⟨o,k _ _ (.inl rfl) e⟩,st⟩
theorem nZ.lt(x:nZ P w H h)(e:H a=ξ o):a < h.objs.size:=(x a o e).lt
theorem nZ.fresh(x:nZ P w H h)(e:h.objs.size<=a):H a=none:=by
 cases q:H a with|none=>rfl|some u=>exact bw (br (x.lt q) e) (cY _)
theorem nZ.kept(x:nZ P w H h)(k:∀b u,h.get? b=ξ u->h'.get? b=ξ u):nZ P w H h':=λa o e=>
 (x a o e).stay (λb u _ q=>k b u q) (λ_ q=>q) λ_ _ q=>q
theorem nZ.laid(x:nZ P w H h)(k:∀b u,h.get? b=ξ u->h'.get? b=ξ u)(z:h.objs.size<=a)(new:dQ P w (eE H a o) h' a o):nZ P w (eE H a o) h':=λb u e=>by
 let g:=x.fresh z;by_cases l:b=a
 ·subst l;rw[ik]at e;cases e;exact new
 ·rw[e8 l]at e;exact (x b u e).stay (λc v _ q=>k c v q) (λc q=>by rw[e8 (nV q g)];exact q) λc xs q=>by rw[e8 (nV q g)];exact q
end
noncomputable def Rd(H:Hp)(a:ak)(u:HO):Prop:=H a=ξ u\/∃o,H a=ξ (.frz o u)
theorem Rd.ok(r:Rd H a u)(x:nZ P w H h):dQ P w H h a u:=by
 rcases r with r|⟨o,r⟩
 ·exact x a u r
 ·let⟨_,q⟩:=x a _ r;exact q
noncomputable def G0:Option HO->Prop
 |some (.lst _)=>True|some (.dK _)=>True|some (.dT _)=>True|some (.set _ _)=>True|some (.ins _ _ _)=>True|some (.ext _)=>True|_=>False
section
variable{h h':bC}
theorem nZ.write(ok:nZ P w H h)(C:G0 (H x))(L:e=x\/H e=ξ (.own x))(k:∀b u,b≠e->h.get? b=ξ u->h'.get? b=ξ u)(I:∃u,h'.get? e=ξ u)(new:dQ P w (eE H x o') h' x o'):nZ P w (eE H x o') h':=λb u q=>by
 let l:∀c y,H c=ξ (.own y)->c≠x:=λc y r z=>by subst z;rw[r]at C;exact C
 let o:∀c xs,H c=ξ (.tup xs)->c≠x:=λc xs r z=>by subst z;rw[r]at C;exact C
 by_cases G:b=x
 ·subst G;rw[ik]at q;cases q;exact new
 ·rw[e8 G]at q;by_cases g:b=e
  ·let J : H b = ξ (.own x) := by
     rcases L with z|z
     ·exact bw (g.trans z) G
     ·rw[g];exact z
   rw[q]at J;cases J;let⟨v,O⟩:=I;exact⟨v,by rw[g];exact O⟩
  ·refine (ok b u q).stay (λc v E r=>k c v ?_ r) (λc r=>by rw[e8 (l c b r)];exact r) λc xs r=>by rw[e8 (o c xs r)];exact r
   rcases E with rfl|E
   ·exact g
   ·rintro rfl
    rcases L with z|z
    ·exact l c b E z
    ·rw[E]at z;cases z;exact G rfl
end
structure Un(fs ex:List ak)(H H':Hp)(h h':bC):Prop where
 keep:∀b o,h.get? b=ξ o->H b=ψ->b∉fs->b∉ex->h'.get? b=ξ o
 slot:∀b o,h.get? b=ξ o->H b=ψ->b∈fs->b∉ex->∃sl,h'.get? b=ξ { o with slots:=sl }
 free:∀b o,h.get? b=ξ o->H b=ψ->b∉ex->H' b=ψ
 there:∀b o,h.get? b=ξ o->b∉ex->∃o',h'.get? b=ξ o'
 tups:∀b xs,H b=ξ (.tup xs)->H' b=ξ (.tup xs)
 frzs:∀b o u,H b=ξ (.frz o u)->H' b=ξ (.frz o u)
 tbls:∀b ps,H b=ξ (.tbl ps)->∃more,H' b=ξ (.tbl (ps++more))
section
variable{H H1 H2:Hp}{h h1 h2 h':bC}
theorem Un.any(u:Un fs ex H H1 h h1)(q:h.get? b=ξ ob)(n:H b=ψ)(g:b∉ex):∃z,h1.get? b=ξ { ob with slots:=z }:=by
 by_cases l:b∈fs
 ·exact u.slot b ob q n l g
 ·exact⟨ob.slots,u.keep b ob q n l g⟩
theorem Un.kept(k:∀b u,h.get? b=ξ u->h'.get? b=ξ u):Un fs ex H H h h':=
 ⟨λb ob q _ _ _=>k b ob q,λb ob q _ _ _=>⟨ob.slots,k b ob q⟩,λ_ _ _ n _=>n,λb ob q _=>⟨ob,k b ob q⟩,λ_ _ q=>q,λ_ _ _ q=>q,λ_ ps q=>⟨#[],by rw[q];simp⟩⟩
theorem Un.refl:Un fs ex H H h h:=Un.kept λ_ _ q=>q
theorem Un.laid(k:∀b u,h.get? b=ξ u->h'.get? b=ξ u)(l:h.objs.size<=a)(g:H a=ψ):Un fs ex H (eE H a o) h h' where
 keep:=λb u q _ _ _=>k b u q
 slot:=λb u q _ _ _=>⟨u.slots,k b u q⟩
 free:=λb u q n _=>by rw[e8 (bB (br (aP q) l))];exact n
 there:=λb u q _=>⟨u,k b u q⟩
 tups:=λb xs q=>by rw[e8 (nV q g)];exact q
 frzs:=λb u xs q=>by rw[e8 (nV q g)];exact q
 tbls:=λb ps q=>⟨#[],by rw[e8 (nV q g),q];simp⟩
theorem Un.write(l:G0 (H x))(L:e=x\/H e=ξ (.own x))(k:∀b u,b≠e->h.get? b=ξ u->h'.get? b=ξ u)(E:∃u,h'.get? e=ξ u):Un fs ex H (eE H x o) h h':=by
 let G:∀b,H b=ψ->b≠x:=λb n z=>by subst z;rw[n]at l;exact l
 let I:∀b,H b=ψ->b≠e:=λb n z=>by
  subst z;rcases L with r|r
  ·exact G b n r
  ·rw[n]at r;cases r
 let C:∀b u,H b=ξ u->¬ G0 (ξ u)->b≠x:=λb u q J z=>by subst z;rw[q]at l;exact J l
 refine⟨λb u q n _ _=>k b u (I b n) q,λb u q n _ _=>⟨u.slots,k b u (I b n) q⟩,λb u q n _=>by rw[e8 (G b n)];exact n,λb u q _=>?_,
  λb xs q=>by rw[e8 (C b _ q λz=>z)];exact q,λb u xs q=>by rw[e8 (C b _ q λz=>z)];exact q,λb ps q=>⟨#[],by rw[e8 (C b _ q λz=>z),q];simp⟩⟩
 by_cases g:b=e
 ·subst g;exact E
 ·exact⟨u,k b u g q⟩
end
noncomputable def trk(h:bC)(H:Hp):List ak:=(bU h.objs.size).filter λa=>(H a).isSome
def tM(h:bC)(H:Hp):bC:=PySem.W.hideAll h (trk h H)
theorem XB(h:bC)(H:Hp):(tM h H).objs.size=h.objs.size:=PySem.W.hideAll_size _ _
theorem Vv{h:bC}{H:Hp}(e:h.get? b=ξ o)(n:H b=ψ):(tM h H).get? b=ξ o:=
 PySem.W.hideAll_get _ e λg=>by have q:(H b).isSome=true:=(dO.mp g).2;rw[n]at q;simp at q
theorem Xw(e:(tM h H).get? b=ξ o):h.get? b=ξ o/\H b=none:=by
 let g:h.get? b=ξ o:=PySem.W.of_hideAll (trk h H) e;refine⟨g,?_⟩;cases q:H b with|none=>rfl|some x=>
  let l:b∈trk h H:=dO.mpr ⟨cC.mpr (aP g),by simp[q]⟩;let z:(tM h H).get? b=none:=PySem.W.hideAll_none (trk h H) l;rw[z]at e;cases e
noncomputable def ic(g h:bC)(L:ak):List (ak×Obj):=(bU h.objs.size).filterMap λa=>if a=L\/(g.get? a).isSome=θ then ψ else (h.get? a).map λo=>(a,o)
theorem IZ{g h:bC}(z:a≠L)(u:g.get? a=ψ)(l:h.get? a=ξ o):(a,o)∈ic g h L:=
 lL.mpr ⟨a,cC.mpr (aP l),by simp[z,u,l]⟩
theorem ZD(o:p∈ic g h L):p.1≠L/\g.get? p.1=ψ/\h.get? p.1=ξ p.2:=by
 let⟨b,_,e⟩:=lL.mp o;split at e
 ·cases e
 ·rename_i l;cases q:h.get? b with|none=>rw[q]at e;simp at e|some u=>
   rw[q]at e;simp only[dJ,Option.some.injEq]at e;subst e;refine⟨λz=>l (.inl z),?_,q⟩
   show g.get? b=ψ;cases r:g.get? b with|none=>rfl|some v=>exact (l (.inr (by simp[r]))).elim
def cQ(g h:bC)(L d:ak):List (ak×Obj):=(ic g h L).filter λp=>decide (p.1≠d)
theorem SK:zo g L h (ic g h L):=λp l=>let ⟨a,b,c⟩:=ZD l;⟨c,a,b⟩
structure Mod(K:aq)(mg:Str->Option ae)(base:bC):Prop where
 kin:K.In base
 glob:base.Ns bN mg
 blt:∃mb,base.Ns rV mb/\∀x:Str,x≠"__name__"->mb x=b5 x
 nolimit:base.NoLimit
structure Cx where
 prog:Program
 w:bJ
 K:aq
 mg:Str->Option ae
 base:bC
 A:bx
 N:List Str
 s₀:aj
 H₀:Hp
 env:Env
 outer:List Env
 stack:List Env
 ex:List ak
 fn:Str->Bool
 calm:Bool
 pn:List (ak×Obj)
 xe:ae->aj->Prop
noncomputable def vZ(l:List Env):List ak:=l.filterMap (·.frame)
abbrev Cx.fs(X:Cx):List ak:=vZ X.outer
noncomputable def Gu(sc:dU)(x:Str):Prop:=sc.names.lookup x=ξ .local\/sc.names.lookup x=ξ .cell\/sc.names.lookup x=ξ .free
noncomputable def Loc(sc:dU)(x:Str):Prop:=sc.names.lookup x=ξ .local\/sc.names.lookup x=ξ .cell
noncomputable def Look(env:Env)(h:bC)(m:Str->Option ae)(x:Str)(u:ae):Prop:=
 (env.kindOf x=ξ .local/\m x=ξ u)\/((env.kindOf x=ξ .cell\/env.kindOf x=ξ .free)/\∃c,env.cells.lookup x=ξ c/\h.IsCell c (ξ u))
structure Cx.Ok(X:Cx):Prop where
 mod:Mod X.K X.mg X.base
 kind:X.env.scope.kind=.function
 glob:X.env.globals=bN
 blt:X.env.builtins=rV
 above:↥X.s₀<=X.env.locals
 inj:∀x y c,X.env.cells.lookup x=ξ c->X.env.cells.lookup y=ξ c->x=y
 has:∀x,(X.env.kindOf x=ξ .cell\/X.env.kindOf x=ξ .free)->∃c,X.env.cells.lookup x=ξ c
 cab:∀x c,X.fn x=θ->X.env.cells.lookup x=ξ c->↥X.s₀<=c
 hd:X.calm=θ->X.A.handled=ψ
 frames:X.A.frames=ξ X.stack
 stk:X.stack=X.outer\/(X.stack=X.env::X.outer/\X.env.frame=ξ X.env.locals)
 exf:∀b∈X.ex,b≠X.env.locals/\∀x c,X.env.cells.lookup x=ξ c->c≠b
 bs:∀b o,X.base.get? b=ξ o->X.s₀.heap.get? b=ξ o/\X.H₀ b=ψ
 bsz:X.base.objs.size<=↥X.s₀
 noex:∀b o,X.base.get? b=ξ o->b∉X.ex
 exfs:∀b∈X.ex,b∉X.fs
 funs:X.s₀.heap.FunFrames X.base X.outer
 frf:∀b∈X.fs,X.H₀ b=ψ
structure Inv(X:Cx)(ah:List (ak×Obj))(σ:List (Option V))(H:Hp)(s:aj):Prop where
 ok:X.Ok
 os:s.os=X.s₀.os
 bare:mZ s.gens
 base:Un X.fs X.ex X.H₀ H X.s₀.heap s.heap
 loc:∃m,s.heap.Ns X.env.locals m/\∀(i:Nat)(x:Str)(v:V),X.N[i]?=ξ x->σ[i]?=ξ (ξ v)->Gu X.env.scope x->∃u,RelV v u/\Look X.env s.heap m x u
 cell:∀x c,X.env.cells.lookup x=ξ c->∃v,s.heap.IsCell c v
 free:H X.env.locals=ψ
 freeC:∀x c,X.env.cells.lookup x=ξ c->H c=ψ
 pin:∀p∈X.pn++ah,s.heap.get? p.1=ξ p.2/\H p.1=ψ/\p.1≠X.env.locals/\p.1∉X.fs/\∀v,p.2.data≠.cell v
 hok:nZ X.prog X.w H s.heap
 len:⇑σ=⇑X.N
section
variable{X:Cx}{ah:List (ak×Obj)}{σ:List (Option V)}{H H':Hp}{s:aj}{h':bC}
theorem Cx.Ok.nofr(ok:X.Ok)(e:X.base.get? b=ξ o):b∉X.fs:=λg=>by have:=(ok.funs.mem g).1;rw[e]at this;cases this
theorem Inv.bs(I:Inv X ah σ H s):∀b o,X.base.get? b=ξ o->s.heap.get? b=ξ o/\H b=none:=λb o e=>
 ⟨I.base.keep b o (I.ok.bs b o e).1 (I.ok.bs b o e).2 (I.ok.nofr e) (I.ok.noex b o e),I.base.free b o (I.ok.bs b o e).1 (I.ok.bs b o e).2 (I.ok.noex b o e)⟩
theorem Inv.bk(I:Inv X ah σ H s):∀b o,X.base.get? b=ξ o->s.heap.get? b=ξ o:=λb o e=>(I.bs b o e).1
theorem Inv.mod(I:Inv X ah σ H s):Mod X.K X.mg X.base:=I.ok.mod
theorem Inv.kIn(I:Inv X ah σ H s):X.K.In s.heap:=I.ok.mod.kin.keeps I.bk
theorem Inv.fr(I:Inv X ah σ H s):∃m,Fr X.base X.env.locals s.heap m:=
 let ⟨m,hn,_⟩:=I.loc
 ⟨m,hn,I.bk,bH I.ok.bsz I.ok.above⟩
theorem Inv.lt(I:Inv X ah σ H s):X.env.locals < ↥s:=by obtain ⟨_,g,_⟩:=I.loc;exact g.lt
theorem Inv.sz(I:Inv X ah σ H s):↥X.s₀<=↥s:=bH I.ok.above (nD I.lt)
theorem Inv.nofs(I:Inv X ah σ H s)(h:↥s<=a):a∉X.fs:=λl=>by let⟨_,o,g,_⟩:=I.ok.funs.mem l;exact bw (br (aP g) (bH I.sz h)) (cY _)
theorem Inv.cne(I:Inv X ah σ H s):∀x c,X.env.cells.lookup x=ξ c->c≠X.env.locals:=λx c e z=>by let⟨v,o,l,hd⟩:=I.cell x c e;let⟨m,⟨o',es,ep,g,h,_⟩,_⟩:=I.loc;rw[z,g]at l;cases l;rw[h]at hd;cases hd
theorem Inv.funs(I:Inv X ah σ H s):s.heap.FunFrames X.base X.outer:=by
 let all:∀(l:List Env),(∀b∈vZ l,b∈X.fs)->X.s₀.heap.FunFrames X.base l->s.heap.FunFrames X.base l:=by
  intro l
  induction l with
  |nil=>intro _ _;trivial
  |cons env r ih=>
   intro C O;let⟨Q,⟨L,o,g,J,G,hd⟩,E⟩:=O;let u:L∈X.fs:=C L (by unfold vZ;rw[kT,g];exact bK);let⟨U,e⟩:=I.base.slot L o G (I.ok.frf L u) u λz=>I.ok.exfs L z u;exact⟨Q,⟨L,_,g,J,e,hd⟩,ih (λb h=>C b (by unfold vZ;rw[kT,g];exact bD _ h)) E⟩
 exact all X.outer (λ_ h=>h) I.ok.funs
theorem Inv.stack(I:Inv X ah σ H s):s.heap.FunFrames X.base X.stack:=by
 rcases I.ok.stk with e|⟨e,h⟩
 ·rw[e];exact I.funs
 ·rw[e];let⟨m,g,_⟩:=I.loc;refine .cons (by rw[I.ok.kind];decide) h g ?_ I.funs;exact bC.get?_none_of_le (bH I.ok.bsz I.ok.above)
theorem Inv.stkSub(I:Inv X ah σ H s):∀b∈vZ X.stack,b∈X.env.locals::X.fs:=λb g=>by
 rcases I.ok.stk with e|⟨e,h⟩
 ·rw[e]at g;exact bD _ g
 ·rw[e]at g;unfold vZ at g;rw[kT,h]at g;exact g
theorem Inv.stkFree(I:Inv X ah σ H s):∀b∈vZ X.stack,H b=none:=λb g=>by
 rcases a_.mp (I.stkSub b g) with e|g
 ·rw[e];exact I.free
 ·let⟨_,o,h,_⟩:=I.ok.funs.mem g;exact I.base.free b o h (I.ok.frf b g) λz=>I.ok.exfs b z g
theorem Inv.step{g':Array GenState}{t':Nat}{d':Drawn}{ch:List ak}(I:Inv X ah σ H s)(C:∀b∈ch,(b∈X.ex\/↥X.s₀<=b)/\b≠X.env.locals/\(∀x c,X.env.cells.lookup x=ξ c->c≠b)/\∀p∈X.pn++ah,p.1≠b)(keep:∀b o,b≠X.env.locals->b∉X.fs->b∉ch->s.heap.get? b=ξ o->H b=ψ->h'.get? b=ξ o)(slot:∀b o,b≠X.env.locals->b∈X.fs->b∉ch->s.heap.get? b=ξ o->H b=ψ->∃sl,h'.get? b=ξ { o with slots:=sl }) (free:∀b o,b∉ch->s.heap.get? b=ξ o->H b=ψ->H' b=ψ)(there:∀b o,b∉ch->s.heap.get? b=ξ o->∃o',h'.get? b=ξ o')(tups:∀b xs,H b=ξ (.tup xs)->H' b=ξ (.tup xs)) (frzs:∀b o u,H b=ξ (.frz o u)->H' b=ξ (.frz o u)) (tbls:∀b ps,H b=ξ (.tbl ps)->∃more,H' b=ξ (.tbl (ps++more)))(ns:∀m,s.heap.Ns X.env.locals m->h'.Ns X.env.locals m) (hok:nZ X.prog X.w H' h') (hg:mZ g'):Inv X ah σ H' { s with heap:=h',gens:=g',drawn:=d',toks:=t' }:=by
 let Q:∀b o,X.s₀.heap.get? b=ξ o->b≠X.env.locals:=λb o e=>bB (br (aP e) I.ok.above);let G:∀b o,X.s₀.heap.get? b=ξ o->b∉X.ex->b∉ch:=λb o e g L=>by
  rcases (C b L).1 with z|z
  ·exact g z
  ·exact bw (br (aP e) z) (cY _)
 let E:∀x c,X.env.cells.lookup x=ξ c->∀v,s.heap.IsCell c v->h'.IsCell c v:=λx c e v pq1=>by
  let⟨o,O,hd⟩:=pq1;let h:c∉ch:=λz=>(C c z).2.2.1 x c e rfl;by_cases hc:c∈X.fs
  ·let⟨sl,q⟩:=slot c o (I.cne x c e) hc h O (I.freeC x c e);exact⟨_,q,hd⟩
  ·exact⟨o,keep c o (I.cne x c e) hc h O (I.freeC x c e),hd⟩
 refine⟨I.ok,I.os,hg,⟨λb o e n L g=>?_,λb o e n L g=>?_,λb o e n g=>?_,λb o e g=>?_,λb xs e=>tups b xs (I.base.tups b xs e),λb o xs e=>frzs b o xs (I.base.frzs b o xs e),λb ps e=>?_⟩,?_,λx c e=>?_,?_,λx c e=>?_,λp hp=>?_,hok,I.len⟩
 ·exact keep b o (Q b o e) L (G b o e g) (I.base.keep b o e n L g) (I.base.free b o e n g)
 ·let⟨sl,J⟩:=I.base.slot b o e n L g;let⟨Y,U⟩:=slot b _ (Q b o e) L (G b o e g) J (I.base.free b o e n g);exact⟨Y,U⟩
 ·let⟨o',J⟩:=I.base.there b o e g;exact free b o' (G b o e g) J (I.base.free b o e n g)
 ·let⟨o',J⟩:=I.base.there b o e g;exact there b o' (G b o e g) J
 ·let⟨h,J⟩:=I.base.tbls b ps e;let⟨g,U⟩:=tbls b _ J;exact⟨h++g,by rw[U,Array.append_assoc]⟩
 ·let⟨m,g,h⟩:=I.loc;refine⟨m,ns m g,λi x v J U o=>?_⟩;let⟨u,r,l⟩:=h i x v J U o;refine⟨u,r,?_⟩;rcases l with l|⟨k,c,e,z⟩
  ·exact .inl l
  ·exact .inr ⟨k,c,e,E x c e _ z⟩
 ·let⟨v,z⟩:=I.cell x c e;exact⟨v,E x c e v z⟩
 ·let⟨m,⟨o,_,_,O,_⟩,_⟩:=I.loc;exact free _ o (λz=>(C _ z).2.1 rfl) O I.free
 ·let⟨v,o,O,hd⟩:=I.cell x c e;exact free c o (λz=>(C c z).2.2.1 x c e rfl) O (I.freeC x c e)
 ·let⟨e,n,ne,g,d⟩:=I.pin p hp;let h:p.1∉ch:=λz=>(C p.1 z).2.2.2 p hp rfl;exact⟨keep p.1 p.2 ne g h e n,free p.1 p.2 h e n,ne,g,d⟩
theorem Inv.un{t':Nat}(I:Inv X ah σ H s)(u:Un X.fs [] H H' s.heap h')(h:nZ X.prog X.w H' h'):Inv X ah σ H' { s with heap:=h',toks:=t' }:=by
 let⟨m,⟨o,es,ep,G,r⟩,_⟩:=id I.loc;let⟨Q,O⟩:=u.any G I.free (by simp);exact I.step (g':=s.gens) (d':=s.drawn) (ch:=[]) (λ_ z=>(by cases z)) (λb o _ l _ e n=>u.keep b o e n l (by simp)) (λb o _ l _ e n=>u.slot b o e n l (by simp)) (λb o _ e n=>u.free b o e n (by simp)) (λb o _ e=>u.there b o e (by simp)) u.tups u.frzs u.tbls (λm' L=>by let⟨o',C,E,g,J⟩:=L;rw[G]at g;cases g;exact⟨_,C,E,O,J⟩) h I.bare
theorem Inv.call{t':Nat}(I:Inv X ah σ H s)(u:Un (vZ X.stack) ch H H' s.heap h')(C:nZ X.prog X.w H' h')(U:mZ g')(l:∀b∈ch,(b∈X.ex\/↥X.s₀<=b)/\b≠X.env.locals/\(∀x c,X.env.cells.lookup x=ξ c->c≠b)/\∀p∈X.pn++ah,p.1≠b):Inv X ah σ H' { s with heap:=h',gens:=g',drawn:=d',toks:=t' }:=by
 let⟨m,⟨o,es,ep,L,r⟩,_⟩:=id I.loc;let⟨sl,E⟩:=u.any L I.free λz=>(l _ z).2.1 rfl;exact I.step (ch:=ch) l (λb o E Y g e n=>u.keep b o e n (λz=>(a_.mp (I.stkSub b z)).elim E Y) g) (λb o _ _ g e n=>u.any e n g) (λb o g e n=>u.free b o e n g) (λb o g e=>u.there b o e g) u.tups u.frzs u.tbls (λm' Q=>by let⟨o',G,J,h,O⟩:=Q;rw[L]at h;cases h;exact⟨_,G,J,E,O⟩) C U
theorem Inv.turned{t':Nat}(I:Inv X ah σ H s)(k:∀b o,b≠g->s.heap.get? b=ξ o->h'.get? b=ξ o)(G:H g=ψ)(C:g≠X.env.locals)(U:g∈X.ex\/↥X.s₀<=g) (Q:∀x c,X.env.cells.lookup x=ξ c->c≠g) (O:∀p∈X.pn++ah,p.1≠g):Inv X ah σ H { s with heap:=h',toks:=t' }:=by
 let l:∀b u,H b=ξ u->b≠g:=λb u e z=>by rw[z,G]at e;cases e
 refine I.step (g':=s.gens) (d':=s.drawn) (ch:=[g]) (λb L=>?_) (λb o _ _ h e _=>k b o (λz=>h (by simp[z])) e) (λb o _ _ h e _=>⟨o.slots,k b o (λz=>h (by simp[z])) e⟩) (λ_ _ _ _ n=>n)
  (λb o h e=>⟨o,k b o (λz=>h (by simp[z])) e⟩) (λ_ _ e=>e) (λ_ _ _ e=>e) (λb ps e=>⟨#[],by rw[e];simp⟩) (λm J=>?_) (λb u e=>?_) I.bare
 ·let e:b=g:=by simpa using L
  subst e;exact⟨U,C,Q,O⟩
 ·let⟨o,es,ep,E,r⟩:=J;exact⟨o,es,ep,k _ o (du C) E,r⟩
 ·refine (I.hok b u e).stay (λc v h q=>k c v ?_ q) (λ_ q=>q) λ_ _ q=>q;rcases h with z|z
  ·rw[z];exact l b u e
  ·exact l c _ z
theorem Inv.tok(I:Inv X ah σ H s)(t:Nat):Inv X ah σ H { s with toks:=t }:=I.un (h':=s.heap) (t':=t) Un.refl I.hok
theorem Inv.kept{t':Nat}(I:Inv X ah σ H s)(k:∀b u,s.heap.get? b=ξ u->h'.get? b=ξ u):Inv X ah σ H { s with heap:=h',toks:=t' }:=I.un (Un.kept k) (I.hok.kept k)
theorem Inv.laid{t':Nat}(I:Inv X ah σ H s)(k:∀b u,s.heap.get? b=ξ u->h'.get? b=ξ u)(g:↥s<=a)(new:dQ X.prog X.w (eE H a o) h' a o):Inv X ah σ (eE H a o) { s with heap:=h',toks:=t' }:=I.un (Un.laid k g (I.hok.fresh g)) (I.hok.laid k g new)
theorem Inv.write{t':Nat}(I:Inv X ah σ H s)(h:G0 (H x))(l:e=x\/H e=ξ (.own x))(k:∀b u,b≠e->s.heap.get? b=ξ u->h'.get? b=ξ u)(g:∃u,h'.get? e=ξ u)(new:dQ X.prog X.w (eE H x o) h' x o):Inv X ah σ (eE H x o) { s with heap:=h',toks:=t' }:=I.un (Un.write h l k g) (I.hok.write h l k g new)
theorem Inv.pins_of{g:List (ak×Obj)}(I:Inv X ah σ H s)(h:∀p∈g,s.heap.get? p.1=ξ p.2/\H p.1=ψ/\p.1≠X.env.locals/\p.1∉X.fs/\∀v,p.2.data≠.cell v):Inv X g σ H s:=
 ⟨I.ok,I.os,I.bare,I.base,I.loc,I.cell,I.free,I.freeC,λp l=>(aS.mp l).elim (λz=>I.pin p (bI _ z)) (h p),I.hok,I.len⟩
theorem R7{N:List Str}(g:N.Nodup){i j:Nat}(a:N[i]?=ξ x)(b:N[j]?=ξ x):i=j:=by let⟨u,l⟩:=ac.mp a;let⟨o,h⟩:=ac.mp b;exact (zS g).mp (l.trans h.symm)
theorem OH{M:A4}{i:Nat}{Q:Unit->aj->Prop}(I:Inv X ah σ H s)(hN:X.N.Nodup)(hi:X.N[i]?=ξ x)(J:Loc X.env.scope x)(r:RelV v u)(h:∀s',Inv X ah (σ.set i (ξ v)) H s'->(∃a,dP a s.heap s'.heap/\(a=X.env.locals\/X.env.cells.lookup x=ξ a))->Q Unit.unit s') (hf:X.fn x=θ\/X.env.scope.names.lookup x=ξ .local:=by first|exact .inl rfl|exact .inr rfl|assumption):aF M A (storeName X.env x u) Q E s:=by
 let⟨m,hn,hl⟩:=id I.loc;let hcls:(X.env.scope.kind == .class||(X.env.scope.kind == .module&&X.env.locals != X.env.globals))=false:=by rw[I.ok.kind];rfl
 let hiσ:i < ⇑σ:=by rw[I.len];exact (ac.mp hi).1
 let cne:=I.cne;let l:∀{a:ak}{h':bC},(∃o,s.heap.get? a=ξ o/\H a=ψ)->dP a s.heap h'->nZ X.prog X.w H h':=λ{a h'}ha g b ob e=>by
  let⟨_,_,L⟩:=ha;refine (I.hok b ob e).stay (λc w' G q=>(g.2 c ?_).trans q) (λ_ q=>q) λ_ _ q=>q
  rintro rfl
  rcases G with rfl|G
  ·rw[L]at e;cases e
  ·rw[L]at G;cases G
 rcases J with U|U
 ·refine wpAny_storeName_local U hn (λh' G g=>?_) hcls;let⟨H,_,_,E,_⟩:=id hn;refine h _ ⟨I.ok,I.os,I.bare,⟨λb o e n hb J=>?_,λb o e n hb J=>?_,I.base.free,λb o e J=>?_,I.base.tups,I.base.frzs,I.base.tbls⟩,⟨_,G,λj y v' C O e3=>?_⟩,λy c e=>?_,I.free,I.freeC,λp hp=>?_,l ⟨H,E,I.free⟩ g,by simpa using I.len⟩ ⟨_,g,.inl rfl⟩
  ·exact (g.2 b (bB (br (aP e) I.ok.above))).trans (I.base.keep b o e n hb J)
  ·let⟨sl,C⟩:=I.base.slot b o e n hb J;exact⟨sl,(g.2 b (bB (br (aP e) I.ok.above))).trans C⟩
  ·let⟨o',C⟩:=I.base.there b o e J;exact⟨o',(g.2 b (bB (br (aP e) I.ok.above))).trans C⟩
  ·by_cases Y:j=i
   ·subst Y;rw[hi]at C;cases C;rw[ax hiσ]at O;cases O;exact⟨u,r,.inl ⟨U,by simp⟩⟩
   ·rw[aw (du Y)]at O;let⟨u',r',q⟩:=hl j y v' C O e3;refine⟨u',r',?_⟩;rcases q with ⟨k,e⟩|⟨k,c,e,z⟩
    ·refine .inl ⟨k,?_⟩;have:y≠x:=λe=>Y (R7 hN C (e ▸ hi));simp[this,e]
    ·exact .inr ⟨k,c,e,z.sameBut g (cne y c e)⟩
  ·let⟨w',z⟩:=I.cell y c e;exact⟨w',z.sameBut g (cne y c e)⟩
  ·let⟨e,n,ne,nf,d⟩:=I.pin p hp;exact⟨(g.2 p.1 ne).trans e,n,ne,nf,d⟩
 ·let E : X.fn x = θ := by
    rcases hf with z|z
    ·exact z
    ·rw[z]at U;cases U
  let⟨c,G⟩:=I.ok.has x (.inl U);let⟨w',z⟩:=I.cell x c G;refine wpAny_storeName_cell I.ok.kind U G z (λh' hc' g=>?_);let⟨oc,L,H⟩:=id z;refine h { s with heap:=h' } ⟨I.ok,I.os,I.bare,⟨λb o e n hb J=>?_,λb o e n hb J=>?_,I.base.free,λb o e J=>?_,I.base.tups,I.base.frzs,I.base.tbls⟩,⟨m,hn.sameBut g (du (cne x c G)),λj y v' C O e3=>?_⟩,λy c' e=>?_,I.free,I.freeC,λp hp=>?_,l ⟨oc,L,I.freeC x c G⟩ g,by simpa using I.len⟩ ⟨c,g,.inr G⟩
  ·exact (g.2 b (bB (br (aP e) (I.ok.cab x c E G)))).trans (I.base.keep b o e n hb J)
  ·let⟨sl,C⟩:=I.base.slot b o e n hb J;exact⟨sl,(g.2 b (bB (br (aP e) (I.ok.cab x c E G)))).trans C⟩
  ·let⟨o',C⟩:=I.base.there b o e J;exact⟨o',(g.2 b (bB (br (aP e) (I.ok.cab x c E G)))).trans C⟩
  ·by_cases Y:j=i
   ·subst Y;rw[hi]at C;cases C;rw[ax hiσ]at O;cases O;exact⟨u,r,.inr ⟨.inl U,c,G,hc'⟩⟩
   ·rw[aw (du Y)]at O;let⟨u',r',q⟩:=hl j y v' C O e3;refine⟨u',r',?_⟩;rcases q with q|⟨k,c',e,h⟩
    ·exact .inl q
    ·refine .inr ⟨k,c',e,h.sameBut g ?_⟩
     rintro rfl
     exact Y (R7 hN C (I.ok.inj _ _ _ e G ▸ hi))
  ·by_cases Q:c'=c
   ·subst Q;exact⟨_,hc'⟩
   ·let⟨l,h⟩:=I.cell y c' e;exact⟨l,h.sameBut g Q⟩
  ·let⟨e,n,ne,nf,d⟩:=I.pin p hp;refine⟨(g.2 p.1 ?_).trans e,n,ne,nf,d⟩;intro q;rw[q,L]at e;let h:oc=p.2:=aO e;exact d w' (by rw[<- h];exact H)
theorem I_{M:A4}{i:Nat}{Q:Unit->aj->Prop}(I:Inv X ah σ H s)(z:X.N.Nodup)(l:X.N[i]?=ξ x)(g:Loc X.env.scope x)(r:RelV v u)(h:∀s',Inv X ah (σ.set i (ξ v)) H s'->Q Unit.unit s') (o:X.fn x=θ\/X.env.scope.names.lookup x=ξ .local:=by first|exact .inl rfl|exact .inr rfl|assumption):aF M A (storeName X.env x u) Q E s:=
 OH I z l g r (λs' C _=>h s' C) o
theorem Inv.call'{s':aj}(I:Inv X ah σ H s)(l:s'.os=s.os)(u:Un (vZ X.stack) ch H H' s.heap s'.heap)(g:nZ X.prog X.w H' s'.heap)(o:mZ s'.gens)(h:∀b∈ch,(b∈X.ex\/↥X.s₀<=b)/\b≠X.env.locals/\(∀x c,X.env.cells.lookup x=ξ c->c≠b)/\∀p∈X.pn++ah,p.1≠b):Inv X ah σ H' s':=by
 let⟨h',g',d',t',o'⟩:=s';let e:o'=s.os:=l;subst e;exact I.call (g':=g') (t':=t') (d':=d') u g o h
end
abbrev XK:=ae->Option ak->Hp->Prop
noncomputable abbrev St:=List (Option V)
abbrev VK:=V->Hp->Prop
abbrev TE:=St->Hp->VK->Prop
abbrev TT:=St->Hp->(Bool->Hp->Prop)->Prop
abbrev TA:=St->Hp->(List V->Hp->Prop)->Prop
structure Ends where
 nx:St->Hp->Prop
 rt:VK
 bk:St->Hp->Prop:=λ_ _=>False
 ct:St->Hp->Prop:=λ_ _=>False
abbrev TS:=Ends->St->Hp->Prop
def EP(X:Cx)(g:List (ak×Obj))(σ:St)(Q:VK)(u:ae)(s':aj):Prop:=∃v h,Inv X g σ h s'/\RelV v u/\Q v h
noncomputable def TP(X:Cx)(g:List (ak×Obj))(σ:St)(Q:Bool->Hp->Prop)(b:Bool)(s':aj):Prop:=∃h,Inv X g σ h s'/\Q b h
def AP(X:Cx)(g:List (ak×Obj))(σ:St)(Q:List V->Hp->Prop)(l:List ae)(s':aj):Prop:=∃vs h,Inv X g σ h s'/\bX vs l/\Q vs h
def SP(X:Cx)(g:List (ak×Obj))(D:Ends)(f:Flow)(s':aj):Prop:=
 match f with| .next=>∃σ' h,Inv X g σ' h s'/\D.nx σ' h| .brk=>∃σ' h,Inv X g σ' h s'/\D.bk σ' h| .cont=>∃σ' h,Inv X g σ' h s'/\D.ct σ' h| .ret u=>∃v σ' h,Inv X g σ' h s'/\RelV v u/\D.rt v h
def PE(X:Cx)(e:Expr)(t:TE):Prop:=
 ∀(ah:List (ak×Obj))(s:aj)(σ:St)(H:Hp)(Q:VK),Inv X ah σ H s->t σ H Q->aF (aW X.prog X.w) X.A (eval e X.env) (EP X ah σ Q) X.xe s
def PT(X:Cx)(e:Expr)(t:TT):Prop:=
 ∀(ah:List (ak×Obj))(s:aj)(σ:St)(H:Hp)(Q:Bool->Hp->Prop),Inv X ah σ H s->t σ H Q->aF (aW X.prog X.w) X.A (isTrue e X.env (eval e X.env)) (TP X ah σ Q) X.xe s
def PW(X:Cx)(e:Expr)(t:TT):Prop:=
 ∀(whole:Sem ae)(ah:List (ak×Obj))(s:aj)(σ:St)(H:Hp)(Q:Bool->Hp->Prop),Inv X ah σ H s->t σ H Q->aF (aW X.prog X.w) X.A (isTrue e X.env whole) (TP X ah σ Q) X.xe s
theorem PW.pt(h:PW X e t):PT X e t:=h _
def PA(X:Cx)(es:List Expr)(t:TA):Prop:=
 ∀(pos:Pos)(ah:List (ak×Obj))(s:aj)(σ:St)(H:Hp)(Q:List V->Hp->Prop),Inv X ah σ H s->t σ H Q->aF (aW X.prog X.w) X.A (En (dF pos (az es X.env))) (AP X ah σ Q) X.xe s
def PS(X:Cx)(st:Stmt)(t:TS):Prop:=
 ∀(ah:List (ak×Obj))(s:aj)(σ:St)(H:Hp)(D:Ends),Inv X ah σ H s->t D σ H->aF (aW X.prog X.w) X.A (exec st X.env) (SP X ah D) X.xe s
def PSs(X:Cx)(st:List Stmt)(t:TS):Prop:=
 ∀(ah:List (ak×Obj))(s:aj)(σ:St)(H:Hp)(D:Ends),Inv X ah σ H s->t D σ H->aF (aW X.prog X.w) X.A (execs st X.env) (SP X ah D) X.xe s
theorem gH{α:Type}{t:Sem α}{Q g:α->aj->Prop}{M:A4}(h:aF M A t Q E s)(l:∀a s,Q a s->g a s):aF M A t g E s:=dN h l λ_ _ x=>x
section
variable{X:Cx}
noncomputable def Fa(i:Nat):TE:=λσ H Q=>∃v,σ[i]?=ξ (ξ v)/\Q v H
noncomputable def tC(v:V):TE:=λ_ H Q=>Q v H
theorem Ee{i:Nat}(Y:X.N[i]?=ξ x)(J:Gu X.env.scope x)(hd:(x == ("__debug__":Str))=false:=by decide)(E:(x == ("__classdict__":Str))=false:=by decide):PE X (.Name x pos) (Fa i):=by
 intro C s σ H Q I h;let⟨v,e,h⟩:=h;let⟨m,L,U⟩:=I.loc;let⟨u,r,l⟩:=U i x v Y e J;let z:EP X C σ Q u s:=⟨v,H,I,r,h⟩
 rcases l with ⟨o,O⟩|⟨o,c,G,g⟩
 ·exact Dy (wpAny_loadName_local I.ok.kind o L O z) hd
 ·rcases o with o|o
  ·exact Dy (wpAny_loadName_cell I.ok.kind o G g z) hd
  ·exact Dy (wpAny_loadName_free I.ok.kind o G g z E) hd
theorem Po{i j pos}:PE X (.Constant ↑i j pos) (tC ↑i):=λ_ _ _ H _ I h=>wpAny_Constant_int ⟨.int i,H,I.tok _,⟨_,rfl⟩,h⟩
theorem Qax{b j pos}:PE X (.Constant (.bool b) j pos) (tC (.bl b)):=λ_ _ _ H _ I h=>Constant_bool ⟨.bl b,H,I,rfl,h⟩
theorem WD{j pos}:PE X (.Constant .none j pos) (tC .non):=λ_ _ _ H _ I h=>Constant_none ⟨.non,H,I,rfl,h⟩
theorem Sh{x j pos}:PE X (.Constant (.str x) j pos) (tC (.str x)):=λ_ _ _ H _ I h=>Calls.Constant_str ⟨.str x,H,I.tok _,⟨_,rfl⟩,h⟩
noncomputable def Gl(X:Cx)(x:Str):Prop:=X.env.kindOf x=ξ .globalImplicit
theorem FK{Q:ae->aj->Prop}(I:Inv X g σ H s)(o:Gl X x)(l:X.mg x=ξ u)(h:Q u s)(hd:(x == ("__debug__":Str))=false:=by decide):aF (aW X.prog X.w) X.A (eval (.Name x pos) X.env) Q E s:=
 sO I.ok.kind o (Calls.loadGlobal_global (by rw[I.ok.glob];exact I.mod.glob.keeps I.bk) l h) hd
theorem AM{Q:ae->aj->Prop}(I:Inv X g σ H s)(C:Gl X x)(z:X.mg x=ψ)(l:b5 x=ξ u)(h:Q u s)(o:x≠"__name__":=by decide) (hd:(x == ("__debug__":Str))=false:=by decide):aF (aW X.prog X.w) X.A (eval (.Name x pos) X.env) Q E s:=by
 let⟨L,J,G⟩:=I.mod.blt;exact sO I.ok.kind C (Calls.loadGlobal_builtin (by rw[I.ok.glob];exact I.mod.glob.keeps I.bk) z (by rw[I.ok.blt];exact J.keeps I.bk) ((G x o).trans l) h) hd
theorem RJ(l:Gl X x)(g:X.mg x=ξ u)(r:RelV v u)(hd:(x == ("__debug__":Str))=false:=by decide):PE X (.Name x pos) (tC v):=
 λ_ _ _ H _ I h=>FK I l g ⟨v,H,I,r,h⟩ hd
theorem Pk(z:Gl X x)(o:X.mg x=ψ)(g:b5 x=ξ u)(r:RelV v u)(l:x≠"__name__":=by decide)(hd:(x == ("__debug__":Str))=false:=by decide):PE X (.Name x pos) (tC v):=
 λ_ _ _ H _ I h=>AM I z o g ⟨v,H,I,r,h⟩ l hd
variable{a b:Expr}{ta tb:TE}{pos:Pos}
variable{tA ft:TT}{cQ:List Expr}
noncomputable def Dc(t u:TT):TT:=λσ H Q=>t σ H λc g=>if c=θ then u σ g Q else Q ω g
noncomputable def ZW(t u:TT):TT:=λσ H Q=>t σ H λc g=>if c=θ then Q θ g else u σ g Q
noncomputable def CH(t:TT):TT:=λσ H Q=>t σ H λc g=>Q (!c) g
theorem Vo(l:PT X a tA):PW X (.BoolOp .And [a] pos) tA:=by
 intro wh g s σ H Q I h;refine isTrue_and (gH (l g s σ H Q I h) λc o e=>?_);cases c with|true=>exact isTrue_and_nil e|false=>exact e
theorem UV(l:PT X a tA):PW X (.BoolOp .Or [a] pos) tA:=by
 intro wh g s σ H Q I h;refine isTrue_or (gH (l g s σ H Q I h) λc o e=>?_);cases c with|false=>exact isTrue_or_nil e|true=>exact e
theorem QaG(G:PT X a tA)(E:PW X (.BoolOp .And (b::cQ) pos) ft):PW X (.BoolOp .And (a::b::cQ) pos) (Dc tA ft):=by
 intro wh g s σ H Q I h;refine isTrue_and (gH (G g s σ H _ I h) λc C l=>?_);let⟨z,u,o⟩:=l;cases c with|true=>exact E wh g C σ z Q u o|false=>exact⟨z,u,o⟩
theorem QaH(G:PT X a tA)(E:PW X (.BoolOp .Or (b::cQ) pos) ft):PW X (.BoolOp .Or (a::b::cQ) pos) (ZW tA ft):=by
 intro wh g s σ H Q I h;refine isTrue_or (gH (G g s σ H _ I h) λc C l=>?_);let⟨z,u,o⟩:=l;cases c with|true=>exact⟨z,u,o⟩|false=>exact E wh g C σ z Q u o
theorem Wv(l:PT X a tA):PT X (.UnaryOp .Not a pos) (CH tA):=by intro g s σ H Q I h;exact isTrue_not (l g s σ H (λc o=>Q (!c) o) I h)
noncomputable def He(ta tb:TE):TE:=λσ H Q=>ta σ H λx g=>∃c,x=.bl c/\if c=θ then tb σ g Q else Q (.bl ω) g
noncomputable def Mb(ta tb:TE):TE:=λσ H Q=>ta σ H λx g=>∃c,x=.bl c/\if c=θ then Q (.bl θ) g else tb σ g Q
noncomputable def GW(ta:TE):TE:=λσ H Q=>ta σ H λx g=>∃c,x=.bl c/\Q (.bl (!c)) g
theorem VD{op}(h:PE X a t):PE X (.BoolOp op [a] pos) t:=λg s σ H Q I l=>BoolOp_one (h g s σ H Q I l)
theorem UT(J:PE X a ta)(G:PE X (.BoolOp .And (b::cQ) pos) tb):PE X (.BoolOp .And (a::b::cQ) pos) (He ta tb):=by
 intro g s σ H Q I h;refine BoolOp_and (gH (J g s σ H _ I h) λv C o=>?_);let⟨x,z,u,E,l⟩:=o;let⟨c,rfl,l⟩:=l;cases E;refine f_ ?_;cases c with|true=>exact G g C σ z Q u l|false=>exact⟨.bl ω,z,u,rfl,l⟩
theorem UZ(J:PE X a ta)(G:PE X (.BoolOp .Or (b::cQ) pos) tb):PE X (.BoolOp .Or (a::b::cQ) pos) (Mb ta tb):=by
 intro g s σ H Q I h;refine BoolOp_or (gH (J g s σ H _ I h) λv C o=>?_);let⟨x,z,u,E,l⟩:=o;let⟨c,rfl,l⟩:=l;cases E;refine f_ ?_;cases c with|false=>exact G g C σ z Q u l|true=>exact⟨.bl θ,z,u,rfl,l⟩
theorem QaM(z:PE X a ta):PE X (.UnaryOp .Not a pos) (GW ta):=by intro g s σ H Q I h;refine UnaryOp_ (gH (z g s σ H _ I h) λv G o=>?_);let⟨x,E,C,u,l⟩:=o;let⟨c,rfl,l⟩:=l;cases u;exact not_of (f_ ⟨.bl (!c),E,C,rfl,l⟩)
noncomputable def XM(t:TT)(ta tb:TE):TE:=λσ H Q=>t σ H λc g=>if c=θ then ta σ g Q else tb σ g Q
theorem Ua(E:PT X c tA)(J:PE X a ta)(G:PE X b tb):PE X (.IfExp c a b pos) (XM tA ta tb):=by
 intro g s σ H Q I h;refine wpAny_IfExp (gH (E g s σ H _ I h) λd o l=>?_);let⟨C,z,u⟩:=l;cases d with|true=>exact J g o σ C Q z u|false=>exact G g o σ C Q z u
end
def ie(K:aq)(H:Hp)(a:ak)(xs:List V):Prop:=
 Rd H a (.lst xs) \/
  ∃(o:Obj)(its:Array ae)(n:Nat),K.lookup a=ξ o/\o.cls=.type "list"/\o.dict=ψ/\o.data=.seq its n/\its.size<=sizeLine/\bX xs its.toList
def kZ(K:aq)(H:Hp)(a:ak)(xs:List V):Prop:=
 Rd H a (.tup xs) \/
  ∃(o:Obj)(its:Array ae)(n:Nat),K.lookup a=ξ o/\o.cls=.type "tuple"/\o.dict=ψ/\o.data=.seq its n/\its.size<=sizeLine/\bX xs its.toList
noncomputable def Lb:ae->Option V
 | .none=>ξ .non| .bool b=>ξ (.bl b)| .int i _=>ξ ↑i| .str x _=>ξ (.str x)| .bytes b _=>ξ (.byt b)| .float b _=>ξ (.flt b)| .ref a=>ξ (.ref a)| .type n=>ξ (.ty n)|_=>ψ
theorem RelV.abs(r:RelV x u):Lb u=ξ x:=by
 cases x with|non=>cases r;rfl|bl _=>cases r;rfl|int _=>let⟨t,rfl⟩:=r;rfl|str _=>let⟨t,rfl⟩:=r;rfl|byt _=>let⟨t,rfl⟩:=r;rfl|flt _=>let⟨t,rfl⟩:=r;rfl|ref _=>cases r;rfl|ty _=>cases r;rfl
theorem RelV.inj(r:RelV x u)(q:RelV y u):x=y:=aO (r.abs.symm.trans q.abs)
theorem bX.inj(h:bX xs g)(q:bX ys g):xs=ys:=by
 induction h generalizing ys with|nil=>cases q;rfl|cons r t ih=>cases q with|cons r' t'=>rw[r.inj r',ih t']
section
variable{H:Hp}
theorem ie.of{K:aq}(h:H a=ξ (.lst xs)):ie K H a xs:=.inl (.inl h)
theorem kZ.of{K:aq}(h:H a=ξ (.tup xs)):kZ K H a xs:=.inl (.inl h)
theorem Inv.list(I:Inv X ah σ H s)(h:ie X.K H a xs):∃its:List ae,bX xs its/\PlainL s.heap a its.toArray/\⇑xs<=sizeLine:=by
 rcases h with h|⟨o,its,n,l,u,hd,g,hz,r⟩
 ·let⟨z,its,n,r,e⟩:=h.ok I.hok;exact⟨its,r,⟨_,n,e,rfl,rfl,rfl⟩,z⟩
 ·refine⟨its.toList,r,⟨o,n,I.kIn a o l,u,hd,by simpa using g⟩,?_⟩;let e:=⇑r;simp only[fW]at e;ext
theorem Inv.tupleD(I:Inv X ah σ H s)(h:kZ X.K H a xs):∃its:List ae,bX xs its/\ka s.heap a its.toArray/\⇑xs<=sizeLine:=by
 rcases h with h|⟨o,its,n,l,u,hd,g,hz,r⟩
 ·let⟨z,its,r,p⟩:=h.ok I.hok;exact⟨its,r,p,z⟩
 ·refine⟨its.toList,r,⟨o,I.kIn a o l,u,⟨n,by simpa using g⟩,hd⟩,?_⟩;let e:=⇑r;simp only[fW]at e;ext
theorem Inv.tuple(I:Inv X ah σ H s)(h:kZ X.K H a xs):∃its:List ae,bX xs its/\A3 s.heap a its.toArray/\⇑xs<=sizeLine:=by obtain ⟨its,r,p,z⟩:=I.tupleD h;exact ⟨its,r,p.is,z⟩
theorem Inv.list_inj(I:Inv X ah σ H s)(h:ie X.K H a xs)(h':ie X.K H a ys):xs=ys:=by
 let⟨its,r,⟨o,n,e,_,_,d⟩,_⟩:=I.list h;let⟨its',l,⟨o',u,g,_,_,d'⟩,_⟩:=I.list h';rw[e]at g;cases g;rw[d]at d';injection d' with d1 _
 have:its=its':=by simpa using cj Dz d1
 subst this;exact r.inj l
theorem Inv.tuple_inj(I:Inv X ah σ H s)(h:kZ X.K H a xs)(h':kZ X.K H a ys):xs=ys:=by
 let⟨its,r,⟨o,e,_,n,d⟩,_⟩:=I.tuple h;let⟨its',l,⟨o',g,_,u,d'⟩,_⟩:=I.tuple h';rw[e]at g;cases g;rw[d]at d';injection d' with d1 _
 have:its=its':=by simpa using cj Dz d1
 subst this;exact r.inj l
end
noncomputable abbrev Cx.wish(X:Cx)(E:ae->aj->Prop):Cx:={ X with xe:=E }
abbrev Cx.nox(X:Cx):Cx:=X.wish λ_ _=>False
theorem Cx.Ok.wish{X:Cx}(ok:X.Ok)(E:ae->aj->Prop):(X.wish E).Ok:=
 ⟨ok.mod,ok.kind,ok.glob,ok.blt,ok.above,ok.inj,ok.has,ok.cab,ok.hd,ok.frames,ok.stk,ok.exf,ok.bs,ok.bsz,ok.noex,ok.exfs,ok.funs,ok.frf⟩
theorem Cx.Ok.unwish{X:Cx}(ok:(X.wish E).Ok):X.Ok:=
 ⟨ok.mod,ok.kind,ok.glob,ok.blt,ok.above,ok.inj,ok.has,ok.cab,ok.hd,ok.frames,ok.stk,ok.exf,ok.bs,ok.bsz,ok.noex,ok.exfs,ok.funs,ok.frf⟩
section
variable{X:Cx}
theorem Inv.wish(I:Inv X ah σ H s)(E:ae->aj->Prop):Inv (X.wish E) ah σ H s:=⟨I.ok.wish E,I.os,I.bare,I.base,I.loc,I.cell,I.free,I.freeC,I.pin,I.hok,I.len⟩
theorem Inv.unwish(I:Inv (X.wish E) ah σ H s):Inv X ah σ H s:=⟨I.ok.unwish,I.os,I.bare,I.base,I.loc,I.cell,I.free,I.freeC,I.pin,I.hok,I.len⟩
theorem SP.unwish{D:Ends}(h:SP (X.wish E) ah D f s'):SP X ah D f s':=by
 cases f with|next=>let⟨σ',g,I,q⟩:=h;exact⟨σ',g,I.unwish,q⟩|brk=>let⟨σ',g,I,q⟩:=h;exact⟨σ',g,I.unwish,q⟩|cont=>let⟨σ',g,I,q⟩:=h;exact⟨σ',g,I.unwish,q⟩|ret u=>let⟨v,σ',g,I,r,q⟩:=h;exact⟨v,σ',g,I.unwish,r,q⟩
theorem PSs.nox{st:List Stmt}(h:PSs X.nox st t):PSs X st t:=λah s σ H D I g=>
 dN (h ah s σ H D (I.wish _) g) (λ_ _ q=>q.unwish) λ_ _ z=>cZ z
end
section
variable{st:Stmt}{cQ:List Stmt}{t u:TS}{te:TE}{pos:Pos}
noncomputable def Gy:TS:=λD σ H=>D.nx σ H
noncomputable def MJ(t u:TS):TS:=λD σ H=>t { D with nx:=u D } σ H
theorem Lw:PSs X [] Gy:=λ_ _ σ H _ I h=>lR ⟨σ,H,I,h⟩
theorem Nn(z:PS X st t)(o:PSs X cQ u):PSs X (st::cQ) (MJ t u):=by
 intro g s σ H D I h;refine Ii (gH (z g s σ H { D with nx:=u D } I h) λf l q=>?_);cases f with
 |next=>
  let⟨σ',E,C,q⟩:=q;exact o g l σ' E D C q
 |ret v=>exact q|brk=>exact q|cont=>exact q
theorem Inv.quiet(I:Inv X g σ H s):interactive X.env=false:=by simp[interactive,I.ok.kind]
noncomputable def GB(te:TE):TS:=λD σ H=>te σ H λ_ g=>D.nx σ g
theorem Pq(C:PE X e te)(z:fX e ψ pos.line X.env=pure false:=by rfl):PS X (.Expr e pos) (GB te):=by intro l s σ H D I h;exact wpAny_Expr_any (gH (C l s σ H _ I h) λv J g=>by let⟨x,G,E,L,o⟩:=g;exact⟨σ,G,E,o⟩) I.quiet z
noncomputable def KO(te:TE):TS:=λD σ H=>te σ H D.rt
theorem Qs(C:PE X e te):PS X (.Return (ξ e) pos) (KO te):=by intro l s σ H D I h;exact wpAny_Return_some (gH (C l s σ H _ I h) λv J g=>by let⟨x,G,E,o,z⟩:=g;exact⟨x,σ,G,E,o,z⟩)
noncomputable def E2:TS:=λD _ H=>D.rt .non H
theorem QaS:PS X (.Return ψ pos) E2:=λ_ _ σ H _ I h=>wpAny_Return_none ⟨.non,σ,H,I,rfl,h⟩
noncomputable def Ki(c:TT)(t u:TS):TS:=λD σ H=>c σ H λb g=>if b=θ then t D σ g else u D σ g
theorem QZ(J:PT X c o)(O:PSs X a t)(L:PSs X b u):PS X (.If c a b pos) (Ki o t u):=by
 intro g s σ H D I h;refine wpAny_If (gH (J g s σ H _ I h) λd z l=>?_);let⟨G,E,C⟩:=l;cases d with|true=>exact O g z σ G D E C|false=>exact L g z σ G D E C
end
abbrev TG:=V->St->Hp->(St->Hp->Prop)->Prop
abbrev AI:=List V->St->Hp->(St->Hp->Prop)->Prop
def PG(X:Cx)(g:Expr)(t:TG):Prop:=
 ∀(ah:List (ak×Obj))(s:aj)(σ:St)(H:Hp)(v:V)(u:ae)(Q:St->Hp->Prop),Inv X ah σ H s->RelV v u->t v σ H Q ->
  aF (aW X.prog X.w) X.A (oK g X.env u) (λ_ s'=>∃σ' H',Inv X ah σ' H' s'/\Q σ' H') X.xe s
def PGs(X:Cx)(g:List Expr)(t:AI):Prop:=
 ∀(ah:List (ak×Obj))(s:aj)(σ:St)(H:Hp)(vs:List V)(us:List ae)(Q:St->Hp->Prop),Inv X ah σ H s->bX vs us->t vs σ H Q ->
  aF (aW X.prog X.w) X.A (assignInOrder ((dC g X.env).map (·.2)) us) (λ_ s'=>∃σ' H',Inv X ah σ' H' s'/\Q σ' H') X.xe s
abbrev As:=V->V->V->Hp->(Hp->Prop)->Prop
def PSet(X:Cx)(t:As):Prop:=
 ∀(ah:List (ak×Obj))(s:aj)(σ:St)(H:Hp)(o i v:V)(ov iv u:ae)(Q:Hp->Prop),Inv X ah σ H s->RelV o ov->RelV i iv->RelV v u->t o i v H Q ->
  aF (aW X.prog X.w) X.A (sQ ov iv u) (λ_ s'=>∃g,Inv X ah σ g s'/\Q g) X.xe s
section
variable{X:Cx}{pos:Pos}
noncomputable def uK(i:Nat):TG:=λv σ H Q=>Q (σ.set i (ξ v)) H
theorem Zq{i:Nat}(C:X.N.Nodup)(o:X.N[i]?=ξ x)(l:Loc X.env.scope x)(z:X.fn x=θ\/X.env.scope.names.lookup x=ξ .local:=by first|exact .inl rfl|exact .inr rfl|assumption):PG X (.Name x pos) (uK i):=by intro g s σ H v u Q I r h;exact Eo (I_ I C o l r (λs' E=>⟨_,H,E,h⟩) z)
noncomputable def MX:AI:=λvs σ H Q=>vs=[]/\Q σ H
noncomputable def Fx(t:TG)(u:AI):AI:=λvs σ H Q=>∃v r,vs=v::r/\t v σ H λσ' g=>u r σ' g Q
theorem QaV:PGs X [] MX:=by intro g s σ H vs l Q I r h;let⟨e,h⟩:=h;subst e;cases r;exact assignInOrder_nil ⟨σ,H,I,h⟩
theorem VX(G:PG X e t)(E:PGs X es u)(C:(dC (e::es) X.env).map (·.2)=oK e X.env::(dC es X.env).map (·.2):=by rfl):PGs X (e::es) (Fx t u):=by
 intro g s σ H vs Y Q I r h;let⟨v,U,J,h⟩:=h;subst J;cases r with|cons r rr=>
  rw[C];refine assignInOrder_cons (gH (G g s σ H _ _ _ I r h) λ_ o l=>?_);let⟨σ1,O,L,z⟩:=l;exact E g o σ1 O _ _ Q L rr z
def KG(K:aq)(n:Nat)(t:AI):TG:=λv σ H Q=>∃a xs,v=.ref a/\kZ K H a xs/\⇑xs=n/\t xs σ H Q
theorem QaX{k:Nat}{n:Nat}(U:X.calm=θ)(h:PGs X es t)(L:⇑(dC es X.env)=n:=by rfl) (z:(dC es X.env).findIdx? (·.1)=none:=by rfl):PG X (.Tuple es k pos) (KG X.K n t):=by
 intro g s σ H v u Q I r l;let⟨a,xs,Y,J,O,l⟩:=l;subst Y;cases r;let⟨its,C,G,hz⟩:=I.tuple J;refine assign_Tuple_tuple (I.ok.hd U) G (by simp[L,<- O,⇑C]) z λh' E=>?_;let I1:Inv X g σ H { s with heap:=h' }:=I.kept (t':=s.toks) λb o e=>E b o (bB (aP e)) e;exact h g _ σ H xs _ Q I1 (by simpa using C) l
noncomputable def Lh(to g:TE)(t:As):TG:=λv σ H Q=>to σ H λo u=>g σ u λi l=>t o i v l λh=>Q σ h
theorem QaY(ho:PE X o to)(hi:PE X i J)(hs:PSet X t)(ha:∀v,oK (.Subscript o i pos) X.env v=(do
   let l <- oM [v] (eval o X.env)
   let G <- oM [v,l] (eval i X.env)
   ve pos
   oM [v,l,G] (sQ l G v)
   release [v,l,G] []):=by intro _;rfl):PG X (.Subscript o i pos) (Lh to J t):=by
 intro g s σ H v u Q I r h;rw[ha];refine aa (bT (gH (ho g s σ H _ I h) λl O E=>?_));let⟨x,H1,I1,Y,q1⟩:=E;refine aa (bT (gH (hi g O σ H1 _ I1 q1) λG L C=>?_));let⟨y,H2,I2,U,q2⟩:=C;refine aa (nE (aa (bT (gH (hs g L σ H2 x y v l G u _ I2 Y U r q2) λ_ s3 z=>?_))));let⟨H3,I3,q3⟩:=z;exact wpAny_release ⟨σ,H3,I3,q3⟩
noncomputable def Aw(h:TE)(g:TG):TS:=λD σ H=>h σ H λx l=>g x σ l D.nx
theorem QaZ(O : PE X e u)(L : PG X tg g)(J : swapsWithSole [tg] e pos.line X.env = pure ω := by rfl)(G : swappedStores [tg] e X.env = pure ψ := by rfl)
  (Q:(dC [tg] X.env).map (·.2)=[oK tg X.env]:=by rfl):PS X (.Assign [tg] e pos) (Aw u g):=by
 intro l s σ H D I h;refine wpAny_Assign_stores (gH (O l s σ H _ I h) λv z o=>?_) J G;obtain ⟨x,Y,U,C,E⟩:=o;rw[Q];exact gH (L l z σ Y x v _ U C E) λ_ s2 q=>q
theorem Qm{i : Nat}(Q : X.N.Nodup)(J : X.N[i]? = ξ x)(E : Loc X.env.scope x)(O : PE X e u)(G : fX e (ξ (.Name x g)) pos.line X.env = pure ω := by rfl)(L : X.fn x = θ \/ X.env.scope.names.lookup x = ξ .local := by first|exact .inl rfl|exact .inr rfl|assumption):
  PS X (.Assign [.Name x g] e pos) (Aw u (uK i)):=by
 intro l s σ H D I h;refine wpAny_Assign_Name (gH (O l s σ H _ I h) λv s1 o=>?_) G;obtain ⟨y,H1,Y,z,C⟩:=o;exact I_ Y Q J E z (λs2 U=>⟨_,H1,U,C⟩) L
end
section
variable{X:Cx}
def C9(c:TT)(tb:TS):TS:=λD σ H=>∃W:Nat->St->Hp->Prop,(∃m,W m σ H)/\∀m σ H,W m σ H ->
 c σ H λb g=>if b=θ then ∃N:St->Hp->Prop,(∀σ' H',N σ' H'->∃m',m' < m/\W m' σ' H')/\tb { D with nx:=N,ct:=N,bk:=D.nx } σ g else D.nx σ g
theorem OJ{tb:TS}(Q:og (aW X.prog X.w) X.A X.env X.xe)(hc:PT X c O)(hb:PSs X l tb):PS X (.While c l [] pos) (C9 O tb):=by
 intro g s σ H D I h;let⟨W,⟨m0,w0⟩,turn⟩:=h;refine wpAny_While (codeAny_whileLoop (λn s'=>∃σ' H',Inv X g σ' H' s'/\W n σ' H') ?_ m0 ⟨σ,H,I,w0⟩)
 rintro n s1 ⟨σ1,H1,I1,w1⟩
 refine ig Q (gH (hc g s1 σ1 H1 _ I1 (turn n σ1 H1 w1)) λb s2 o=>?_);let⟨H2,Y,C⟩:=o;cases b with
 |true=>
  let⟨N,U,C⟩:=C;rw[aH rfl];refine ig Q (gH (hb g s2 σ1 H2 _ Y C) λf s3 z=>?_);cases f with
  |next=>
   let⟨σ3,u,L,G⟩:=z;let⟨m',J,E⟩:=U σ3 u G;exact⟨m',J,σ3,u,L,E⟩
  |cont=>
   let⟨σ3,u,L,G⟩:=z;let⟨m',J,E⟩:=U σ3 u G;exact⟨m',J,σ3,u,L,E⟩
  |brk=>exact z|ret v=>exact z
 |false=>
  rw[aB bc];exact lR ⟨σ1,H2,Y,C⟩
end
structure It where
 go:Nat->Hp->Prop
 yld:Nat->Hp->V->Hp->Prop
 stop:Nat->Hp->Prop
def pU(X:Cx)(g:List (ak×Obj))(H:Hp)(b:ak):Prop:=
 H b=ψ/\b≠X.env.locals/\b∉X.fs/\(b∈X.ex\/↥X.s₀<=b)/\(∀x c,X.env.cells.lookup x=ξ c->c≠b)/\∀p∈X.pn++g,p.1≠b
theorem Inv.fpOk{H l:Hp}(I:Inv X g σ H s)(h:↥s<=b)(u:l b=ψ):pU X g l b:=by
 refine⟨u,fN (br I.lt h),I.nofs h,.inr (bH I.sz h),λx c e z=>?_,λp o z=>?_⟩
 ·let⟨v,q⟩:=I.cell x c e;exact bw (br q.lt (by rw[z];exact h)) (cY _)
 ·exact bw (br (aP (I.pin p o).1) (by rw[z];exact h)) (cY _)
structure wR(P:Program)(w:bJ)(K:aq)(tg:Expr)(J:It)(fp:List ak)(it:ak)(tn:Nat->bC->Prop):Prop where
 mem:it∈fp
 obj:∀i h,tn i h->∀b∈fp,∃o,h.get? b=ξ o/\∀v,o.data≠.cell v
 keep:∀i h h',tn i h->(∀b∈fp,∀o,h.get? b=ξ o->h'.get? b=ξ o)->tn i h'
 item:∀(X:Cx),X.prog=P->X.w=w->X.K=K->X.calm=θ->∀(i:Nat)(ah:List (ak×Obj))(s:aj)(σ:St)(H:Hp)(E:ae->aj->Prop),Inv X ah σ H s->(∀b∈fp,pU X ah H b)->tn i s.heap->J.go i H ->
  aF (aW P w) X.A (qm (.ref it)) (λr s1=>∃u,r=ξ u /\
   aF (aW P w) X.A (oX tg (.ref it) u) (λ_ s2=>∃x H',Inv X ah σ H' s2/\RelV x u/\J.yld i H x H'/\tn (i+1) s2.heap/\∀b∈fp,H' b=ψ) E s1) E s
 done:∀(X:Cx),X.prog=P->X.w=w->X.K=K->X.calm=θ->∀(i:Nat)(ah:List (ak×Obj))(s:aj)(σ:St)(H:Hp)(E:ae->aj->Prop),Inv X ah σ H s->(∀b∈fp,pU X ah H b)->tn i s.heap->J.stop i H ->
  aF (aW P w) X.A (qm (.ref it)) (λr s1=>r=ψ/\Inv X ah σ H s1) E s
 self:∀(A:bx)(i:Nat)(s:aj)(Q:ae->aj->Prop)(E:ae->aj->Prop),tn i s.heap->Q (.ref it) s->aF (aW P w) A (DA (.ref it)) Q E s
abbrev TI:=St->Hp->(It->Hp->Prop)->Prop
def Qw(X:Cx)(g:List (ak×Obj))(σ:St)(tg:Expr)(R:It->Hp->Prop)(h:ae)(u:aj):Prop:=
 ∃(z:ak)(fp:List ak)(o:Nat->bC->Prop)(J:It)(l:Hp),h=.ref z/\Inv X g σ l u/\wR X.prog X.w X.K tg J fp z o/\o 0 u.heap/\(∀b∈fp,pU X g l b)/\R J l
def PI(X:Cx)(tg iter:Expr)(g:TI):Prop:=
 ∀(ah:List (ak×Obj))(s:aj)(σ:St)(H:Hp)(R:It->Hp->Prop),Inv X ah σ H s->g σ H R ->
  aF (aW X.prog X.w) X.A (eval iter X.env) (λv h=>aF (aW X.prog X.w) X.A (DA v) (Qw X ah σ tg R) X.xe h) X.xe s
theorem Nm{M:A4}{s:aj}{Q:Unit->aj->Prop}(z:s.heap.get? l=ξ o)(G:o.cls=.type n)(hd:o.data=.fields vs)(C:["enumerate","zip","dict_itemiterator","dict_reverseitemiterator","odict_iterator","itertools.zip_longest","itertools.pairwise"].contains n=ω) (g:Q Unit.unit s):aF M A (oX tg (.ref l) u) Q E s:=by
 unfold oX;cases tg<;>first
  |exact ai g
  | (cases u <;> first
    |exact ai g
    | (refine aa (rW z ?_)
       rw[G,hd]
       show aF M A (if (["enumerate","zip","dict_itemiterator","dict_reverseitemiterator","odict_iterator","itertools.zip_longest","itertools.pairwise"].contains n&&vs[0]? == ξ (gM _))=θ then _ else _) Q E s;rw[aB (by intro h;rw[C,tF]at h;cases h)];exact ai g))
def JC(K:aq)(a:ak):It:=
 ⟨λi H=>∃xs x,ie K H a xs/\xs[i]?=ξ x,λi H x g=>g=H/\∀xs,ie K H a xs->xs[i]?=ξ x,λi H=>∃xs,ie K H a xs/\⇑xs<=i⟩
def KS(K:aq)(a:ak):It:=
 ⟨λi H=>∃xs x,kZ K H a xs/\xs[i]?=ξ x,λi H x g=>g=H/\∀xs,kZ K H a xs->xs[i]?=ξ x,λi H=>∃xs,kZ K H a xs/\⇑xs<=i⟩
noncomputable def HJ(lo:Int)(n:Nat):It:=⟨λi _=>i < n,λi H x g=>g=H/\x=.int (lo+i),λi _=>n<=i⟩
theorem Od{K:aq}(a l:ak):wR P w K tg (JC K a) [l] l (λi h=>h.IsListIter l a i) where
 mem:=by simp
 obj:=λi h st b C=>by
  let e:b=l:=by simpa using C
  subst e;let⟨o,e,c,d⟩:=st;exact⟨o,e,λv z=>by rw[d]at z;cases z⟩
 keep:=λi h h' st k=>st.at λo e=>k l (by simp) o e
 item:=by intro X hP U hK hc i g s σ H E I L st Y;subst hP U hK;let⟨xs,x,J,Q⟩:=Y;let⟨its,O,p,hz⟩:=I.list J;let⟨u,hu,ru⟩:=O.get Q;let⟨f0,f1,f2,f3,f4,f5⟩:=L l (by simp);refine zp st p.isList (x:=u) (by simpa using hu) λh' G sb=>?_;have I1:Inv X g σ H { s with heap:=h' }:=I.turned (t':=s.toks) (λb o C e=>(sb.2 b C).trans e) f0 f1 f3 f4 f5;let⟨o,e,c,d⟩:=id G;exact⟨u,rfl,Nm (s:={ s with heap:=h' }) e c d (by decide) ⟨x,H,I1,ru,⟨rfl,λys hy=>by rw[I.list_inj hy J];exact Q⟩,G,λb C=>(L b C).1⟩⟩
 done:=by intro X hP U hK hc i g s σ H E I L st Y;subst hP U hK;let⟨xs,J,Q⟩:=Y;let⟨its,O,p,hz⟩:=I.list J;let⟨f0,f1,f2,f3,f4,f5⟩:=L l (by simp);have hl:=⇑O;exact zT (I.ok.hd hc) st p.isList (by simp;ext) λh' eb=>⟨rfl,I.turned (t':=s.toks) (λb o C e=>eb b o C e) f0 f1 f3 f4 f5⟩
 self:=λ_ _ _ _ _ st h=>wpAny_pyIter_listiter st h
theorem Tn{K:aq}(a l:ak):wR P w K tg (KS K a) [l] l (λi h=>h.IsTupleIter l a i) where
 mem:=by simp
 obj:=λi h st b C=>by
  let e:b=l:=by simpa using C
  subst e;let⟨o,e,c,d⟩:=st;exact⟨o,e,λv z=>by rw[d]at z;cases z⟩
 keep:=λi h h' st k=>st.at λo e=>k l (by simp) o e
 item:=by intro X hP U hK hc i g s σ H E I L st Y;subst hP U hK;let⟨xs,x,J,Q⟩:=Y;let⟨its,O,p,hz⟩:=I.tuple J;let⟨u,hu,ru⟩:=O.get Q;let⟨f0,f1,f2,f3,f4,f5⟩:=L l (by simp);refine wpAny_pyNext_tuple_item st (show s.heap.IsTuple a its.toArray from p) (x:=u) (by simpa using hu) λh' G sb=>?_;have I1:Inv X g σ H { s with heap:=h' }:=I.turned (t':=s.toks) (λb o C e=>(sb.2 b C).trans e) f0 f1 f3 f4 f5;let⟨o,e,c,d⟩:=id G;exact⟨u,rfl,Nm (s:={ s with heap:=h' }) e c d (by decide) ⟨x,H,I1,ru,⟨rfl,λys hy=>by rw[I.tuple_inj hy J];exact Q⟩,G,λb C=>(L b C).1⟩⟩
 done:=by intro X hP U hK hc i g s σ H E I L st Y;subst hP U hK;let⟨xs,J,Q⟩:=Y;let⟨its,O,p,hz⟩:=I.tuple J;let⟨f0,f1,f2,f3,f4,f5⟩:=L l (by simp);have hl:=⇑O;exact wpAny_pyNext_tuple_end (I.ok.hd hc) st (show s.heap.IsTuple a its.toArray from p) (by simp;ext) λh' eb=>⟨rfl,I.turned (t':=s.toks) (λb o C e=>eb b o C e) f0 f1 f3 f4 f5⟩
 self:=λ_ _ _ _ _ st h=>wpAny_pyIter_tupleiter st h
theorem XD{K:aq}(l:ak)(lo:Int)(n:Nat):wR P w K tg (HJ lo n) [l] l (λi h=>IsRangeIter h l (lo+(i:Nat)*1) ((n:Int)-(i:Nat)) 1) where
 mem:=by simp
 obj:=λi h st b u=>by
  let e:b=l:=by simpa using u
  subst e;exact⟨_,st,λv z=>by have z':Data.fields _=Data.cell v:=z;cases z'⟩
 keep:=λi h h' st k=>k l (by simp) _ st
 item:=by intro X Q J U O i g s σ H E I G st L;subst Q J U;let⟨f0,f1,f2,f3,f4,Y⟩:=G l (by simp);have W:=Walks.range (prog:=X.prog) (w:=X.w) (I.ok.hd O) l lo 1 n;refine W.item i s _ _ L st λv h' tk hv C kk=>?_;let⟨t,rfl⟩:=hv;have I1:Inv X g σ H { s with heap:=h',toks:=tk }:=I.turned (λb o u e=>kk b o (by simpa using u) e) f0 f1 f3 f4 Y;refine⟨_,rfl,Nm (s:={ s with heap:=h',toks:=tk }) (n:="range_iterator") C rfl rfl (by decide) ⟨.int (lo+i),H,I1,⟨t,?_⟩,⟨rfl,rfl⟩,C,λb u=>(G b u).1⟩⟩;rw[JK]
 done:=by intro X Q J U O i g s σ H E I G st L;subst Q J U;let⟨f0,f1,f2,f3,f4,Y⟩:=G l (by simp);exact wpAny_pyNext_range_end (I.ok.hd O) st (by have:n<=i:=L;ext) λh' eb=>⟨rfl,I.turned (t':=s.toks) (λb o u e=>eb b o u e) f0 f1 f3 f4 Y⟩
 self:=λ_ _ _ _ _ st h=>wpAny_pyIter_rangeiter st h
section
variable{X:Cx}
def EV(K:aq)(h:TE):TI:=λσ H R=>h σ H λx g=>∃a,x=.ref a/\(∃xs,ie K g a xs)/\R (JC K a) g
theorem W9(O:PE X l E):PI X tg l (EV X.K E):=by
 intro u s σ H R I h;refine gH (O u s σ H _ I h) λv z g=>?_;let⟨x,U,C,G,J⟩:=g;let⟨a,e,⟨xs,L⟩,q⟩:=J;subst e;cases G;let⟨its,Y,p,hz⟩:=C.list L;refine kA p.isList ?_;refine⟨↥z,[↥z],_,_,U,rfl,C.kept (t':=z.toks) λb o e=>av _ e,Od a _,⟨_,aM _ rfl,rfl,rfl⟩,λb Q=>?_,q⟩;let e:b=↥z:=by simpa using Q
 subst e;exact C.fpOk (aA _) (C.hok.fresh (aA _))
theorem OM{R:It->Hp->Prop}{lo g:Int}{tk:Nat}(I:Inv X h σ H s)(L : -(2^62)<=lo)(J:lo < 2^62)(G : -(2^62)<=g)(C:g < 2^62)(q:R (HJ lo (g-lo).toNat) H):aF (aW X.prog X.w) X.A (DA (.ref ↥s)) (Qw X h σ tg R) E { s with heap:=s.heap.push { cls:=.type "range",data:=.fields #[.int lo t,.int g u,.int 1 v] },toks:=tk }:=by
 refine wpAny_pyIter_range (IsRange.new ..) (small_one L J G C) ?_;let l:Inv X h σ H { s with heap:=s.heap.push { cls:=.type "range",data:=.fields #[.int lo t,.int g u,.int 1 v] },toks:=tk }:=I.kept λb o e=>av _ e;refine⟨(s.heap.push { cls:=.type "range",data:=.fields #[.int lo t,.int g u,.int 1 v] }).objs.size,[(s.heap.push { cls:=.type "range",data:=.fields #[.int lo t,.int g u,.int 1 v] }).objs.size],_,_,H,rfl,
  l.kept (t':=tk) λb o e=>av _ e,XD _ lo (g-lo).toNat,?_,λb z=>?_,q⟩
 ·let Q:lo+((0:Nat):Int)*1=lo:=by simp
  let O:(((g-lo).toNat:Nat):Int)-((0:Nat):Int)=Builtin.Range.rangeSize lo g 1:=by rw[rangeSize_one];split<;>ext
  show IsRangeIter _ _ (lo+((0:Nat):Int)*1) ((((g-lo).toNat:Nat):Int)-((0:Nat):Int)) 1;rw[Q,O];exact aM _ rfl
 ·let e:b=(s.heap.push { cls:=.type "range",data:=.fields #[.int lo t,.int g u,.int 1 v] }).objs.size:=by simpa using z
  subst e;exact l.fpOk (aA _) (l.hok.fresh (aA _))
def fC(g:TA):TI:=λσ H R=>g σ H λvs h=>∃j:Int,vs=[.int j] /\ -(2^62)<=j/\j < 2^62/\R (HJ 0 j.toNat) h
def qA(g:TA):TI:=λσ H R=>g σ H λvs h=>∃i j:Int,vs=[.int i,.int j]/\(-(2^62)<=i/\i < 2^62 /\ -(2^62)<=j/\j < 2^62)/\R (HJ i (j-i).toNat) h
theorem Wy(J:Gl X "range")(G:X.mg "range"=ψ)(L:PA X [a] u)(E:az [a] X.env=[(ω,eval a X.env)]:=by rfl):PI X tg (.Call (.Name "range" p) [a] [] pos) (fC u):=by
 intro g s σ H R I h;refine Call_ (AM I J G boot_range (cU (gH (L pos g s σ H _ I h) λQ U o=>?_) E rfl));obtain ⟨vs,Y,O,z,l⟩:=o;let⟨j,e,l,C,q⟩:=l;subst e;cases z with|cons r rr=>
  cases rr;let⟨t,rfl⟩:=r;exact call_range_1 (OM O () () l C (by simpa using q))
theorem Yb(Q : Gl X "range")(O : X.mg "range" = ψ)(U : PA X [a, b] z)(L : az [a, b] X.env = [(ω, eval a X.env), (ω, eval b X.env)] := by rfl)(l : az [b] X.env = [(ω, eval b X.env)] := by rfl):
  PI X tg (.Call (.Name "range" p) [a,b] [] pos) (qA z):=by
 intro g s σ H R I h;refine Call_ (AM I Q O boot_range (cU (gH (U pos g s σ H _ I h) λus s1 u=>?_) (by rw[L,l]) (by rw[l];rfl)));obtain ⟨vs,H1,Y,C,o⟩:=u;let⟨i,j,e,⟨o,J,G,E⟩,q⟩:=o;subst e;cases C with|cons r rr=>
  cases rr with|cons r' rr=>
   cases rr;let⟨t,rfl⟩:=r;let⟨t',rfl⟩:=r';exact call_range_2 (OM Y o J G E q)
def MB(l:TI)(g:TG)(tb:TS):TS:=λD σ H=>l σ H λJ u=>∃W:Nat->Nat->St->Hp->Prop,(∃m,W 0 m σ u)/\∀i m σ H,W i m σ H ->
 (J.stop i H/\D.nx σ H)\/(J.go i H/\∃N:St->Hp->Prop,(∀σ' h,N σ' h->∃m',m' < m/\W (i+1) m' σ' h)/\∀x h,J.yld i H x h->g x σ h λσ2 o=>tb { D with nx:=N,ct:=N,bk:=D.nx } σ2 o)
noncomputable def mE(fp:List ak)(h:bC):List (ak×Obj):=fp.filterMap λb=>(h.get? b).map λo=>(b,o)
theorem Ju{fp:List ak}{h:bC}(g:b∈fp)(e:h.get? b=ξ o):(b,o)∈mE fp h:=lL.mpr ⟨b,g,by rw[e];rfl⟩
theorem ZU(g:p∈mE fp h):p.1∈fp/\h.get? p.1=ξ p.2:=by
 let⟨b,l,e⟩:=lL.mp g;cases q:h.get? b with|none=>rw[q]at e;cases e|some o=>
  rw[q]at e;let u:(b,o)=p:=aO e;subst u;exact⟨l,q⟩
theorem Inv.pinned{fp:List ak}(I:Inv X g σ H s)(E:∀b∈fp,pU X g H b)(C:∀b∈fp,∃o,s.heap.get? b=ξ o/\∀v,o.data≠.cell v):Inv X (g++mE fp s.heap) σ H s:=
 I.pins_of λp u=>(aS.mp u).elim (λz=>I.pin p (bu _ z)) λz=>by let⟨h,e⟩:=ZU z;let⟨L,J,G,_⟩:=E p.1 h;let⟨o,l,d⟩:=C p.1 h;rw[e]at l;cases l;exact⟨e,L,J,G,d⟩
theorem Inv.unpinned(I:Inv X (g++h) σ H s):Inv X g σ H s:=I.pins_of λp l=>I.pin p (bu _ (bI _ l))
theorem Pw{tb:TS}(hp:og (aW X.prog X.w) X.A X.env X.xe)(hc:X.calm=θ)(hi:PI X tg iter wi)(hg:PG X tg g)(C:PSs X Q tb)(hs:∀x,eI iter X.env x=pure x:=by intro _;rfl):PS X (.For tg iter Q [] pos) (MB wi g tb):=by
 intro l s σ H D I h;refine wpAny_For (gH (hi l s σ H _ I h) λv s1 h1=>gH h1 λitv s2 h2=>?_) hs;let⟨it,fp,tn,J,H2,e,I2,T,st2,f2,W,⟨m0,w0⟩,turn⟩:=h2;subst e;let z:∀{L:Hp},(∀b∈fp,L b=ψ)->∀b∈fp,pU X l L b:=λhn b C=>⟨hn b C,(f2 b C).2⟩
 refine codeAny_forLoop_any (λn s'=>∃i σ' L,Inv X l σ' L s'/\tn i s'.heap/\(∀b∈fp,L b=ψ)/\W i n σ' L) ?_ m0 ⟨0,σ,H2,I2,st2,λb C=>(f2 b C).1,w0⟩
 rintro n s3 ⟨i,σ3,H3,I3,st3,fr3,w3⟩
 rcases turn i n σ3 H3 w3 with ⟨Y,qn⟩|⟨go,N,hN,step⟩
 ·refine ig hp (gH (T.done X rfl rfl rfl hc i l s3 σ3 H3 X.xe I3 (z fr3) st3 Y) λr s4 g=>?_);let⟨hr,h⟩:=g;subst hr;exact lR ⟨σ3,H3,h,qn⟩
 ·refine ig hp (gH (T.item X rfl rfl rfl hc i l s3 σ3 H3 X.xe I3 (z fr3) st3 go) λr s4 H=>?_);let⟨u,hr,h4⟩:=H;subst hr;refine ig hp (gH h4 λ_ s5 h=>?_);let⟨x,H5,I5,r5,y5,U,Q⟩:=h;let Y:=I5.pinned (z Q) (T.obj _ _ U);refine ig hp (gH (hg _ s5 σ3 H5 x u _ Y r5 (step x H5 y5)) λ_ s6 g=>?_);let⟨σ6,H6,I6,q6⟩:=g;refine ig hp (gH (C _ s6 σ6 H6 _ I6 q6) λf J O=>?_);let again:∀{σ7:St}{G:Hp},Inv X (l++mE fp s5.heap) σ7 G J->N σ7 G->∃m,m < n/\∃i σ' L,Inv X l σ' L J/\tn i J.heap/\(∀b∈fp,L b=ψ)/\W i m σ' L:=λ{σ7 G}E I=>by let⟨m',hm,w7⟩:=hN σ7 G I;refine⟨m',hm,i+1,σ7,G,E.unpinned,T.keep _ _ _ U λb C o e=>(E.pin (b,o) (bu _ (bu _ (Ju C e)))).1,λb C=>?_,w7⟩;let⟨o,e,d⟩:=T.obj _ _ U b C;exact (E.pin (b,o) (bu _ (bu _ (Ju C e)))).2.1
  cases f with|next=>let⟨σ7,G,E,I⟩:=O;exact again E I|cont=>let⟨σ7,G,E,I⟩:=O;exact again E I|brk=>let⟨σ7,G,E,O⟩:=O;exact⟨σ7,G,E.unpinned,O⟩|ret v=>let⟨x7,σ7,G,E,r7,O⟩:=O;exact⟨x7,σ7,G,E.unpinned,r7,O⟩
end
abbrev R2:=V->V->Hp->VK->Prop
def OpR(X:Cx)(f:ae->ae->Sem ae)(r:R2):Prop:=
 ∀(ah:List (ak×Obj))(s:aj)(σ:St)(H:Hp)(x y:V)(v u:ae)(Q:VK),Inv X ah σ H s->RelV x v->RelV y u->r x y H Q ->
  aF (aW X.prog X.w) X.A (f v u) (EP X ah σ Q) X.xe s
def Nz(X:Cx)(f:ae->Sem ae)(r:V->Hp->VK->Prop):Prop:=
 ∀(ah:List (ak×Obj))(s:aj)(σ:St)(H:Hp)(x:V)(v:ae)(Q:VK),Inv X ah σ H s->RelV x v->r x H Q ->
  aF (aW X.prog X.w) X.A (f v) (EP X ah σ Q) X.xe s
def CallR(X:Cx)(f:ae)(r:List V->Hp->VK->Prop):Prop:=
 ∀(ah:List (ak×Obj))(s:aj)(σ:St)(H:Hp)(xs:List V)(us:List ae)(Q:VK),Inv X ah σ H s->bX xs us->r xs H Q ->
  aF (aW X.prog X.w) X.A (call f us) (EP X ah σ Q) X.xe s
def Nc(X:Cx)(r:V->Hp->(Bool->Hp->Prop)->Prop):Prop:=
 ∀(ah:List (ak×Obj))(s:aj)(σ:St)(H:Hp)(x:V)(v:ae)(Q:Bool->Hp->Prop),Inv X ah σ H s->RelV x v->r x H Q ->
  aF (aW X.prog X.w) X.A (truthy v) (TP X ah σ Q) X.xe s
noncomputable def GK(r:R2)(g tb:TE):TE:=λσ H Q=>g σ H λx l=>tb σ l λy h=>r x y h Q
noncomputable def Px(r:V->Hp->VK->Prop)(g:TE):TE:=λσ H Q=>g σ H λx h=>r x h Q
noncomputable def rI(C:Int->Int->Prop)(g:Int->Int->V):R2:=λx y H Q=>∃i j,x=.int i/\y=.int j/\C i j/\Q (g i j) H
noncomputable def BK(g:Int->Int->V):R2:=λx y H Q=>∃i j,x=.int i/\y=.int j/\Q (g i j) H
noncomputable def rU(g:Int->V):V->Hp->VK->Prop:=λx H Q=>∃i,x=.int i/\Q (g i) H
section
variable{X:Cx}{ta tb tc:TE}
theorem Ch(ha:PE X a ta)(hb:PE X b tb){R:V->V->Hp->Prop}(I:Inv X g σ H s)(h:ta σ H λx E=>tb σ E λy l=>R x y l) {f:ae->ae->Sem ae}(Y:∀v u C x y l,Inv X g σ l C->RelV x v->RelV y u->R x y l->aF (aW X.prog X.w) X.A (f v u) Q X.xe C):aF (aW X.prog X.w) X.A (eval a X.env) (λv s₁=>aF (aW X.prog X.w) X.A (eval b X.env) (λu s₂=>aF (aW X.prog X.w) X.A (f v u) Q X.xe s₂) X.xe s₁) X.xe s:=by
 refine gH (ha g s σ H _ I h) λv G z=>?_;let⟨x,E,I1,L,U⟩:=z;refine gH (hb g G σ E _ I1 U) λu C o=>?_;let⟨y,l,I2,J,O⟩:=o;exact Y v u C x y l I2 L J O
theorem Qh(C:OpR X (eJ op) r)(G:PE X a ta)(E:PE X b tb):PE X (.BinOp a op b pos) (GK r ta tb):=by intro g s σ H Q I h;exact wpAny_BinOp (Ch G E I h λv u l x y L J z o q=>C g l σ L x y v u Q J z o q)
theorem UP(C:Nz X (unaryOp op) r)(E:PE X a ta):PE X (.UnaryOp op a pos) (Px r ta):=by intro g s σ H Q I h;exact UnaryOp_ (gH (E g s σ H _ I h) λv o l=>by let⟨x,J,G,u,z⟩:=l;exact C g o σ J x v Q G u z)
theorem tS{f:ae->ae->Sem ae}{C:Int->Int->Prop}{g:Int->Int->Int}(rule:∀(i j:Int)(t u:Tok)(s:aj)(Q:ae->aj->Prop)(E:ae->aj->Prop),C i j->Q (.int (g i j) s.toks) { s with toks:=s.toks+1 }->aF (aW X.prog X.w) X.A (f (.int i t) (.int j u)) Q E s):OpR X f (rI C λi j=>.int (g i j)):=by
 intro l s σ H x y v u Q I z o h;let⟨i,j,rfl,rfl,G,q⟩:=h;let⟨t,rfl⟩:=z;let⟨t',rfl⟩:=o;exact rule i j t t' s _ _ G ⟨.int (g i j),H,I.tok _,⟨_,rfl⟩,q⟩
theorem E7{f:ae->ae->Sem ae}{g:Int->Int->Int}(rule:∀(i j:Int)(t u:Tok)(s:aj)(Q:ae->aj->Prop)(E:ae->aj->Prop),Q (.int (g i j) s.toks) { s with toks:=s.toks+1 }->aF (aW X.prog X.w) X.A (f (.int i t) (.int j u)) Q E s):OpR X f (BK λi j=>.int (g i j)):=by
 intro l s σ H x y v u Q I z o h;let⟨i,j,rfl,rfl,q⟩:=h;let⟨t,rfl⟩:=z;let⟨t',rfl⟩:=o;exact rule i j t t' s _ _ ⟨.int (g i j),H,I.tok _,⟨_,rfl⟩,q⟩
theorem A2{f:ae->ae->Sem ae}{g:Int->Int->Bool}(rule:∀(i j:Int)(t u:Tok)(s:aj)(Q:ae->aj->Prop)(E:ae->aj->Prop),Q (.bool (g i j)) s->aF (aW X.prog X.w) X.A (f (.int i t) (.int j u)) Q E s):OpR X f (BK λi j=>.bl (g i j)):=by
 intro l s σ H x y v u Q I z o h;let⟨i,j,rfl,rfl,q⟩:=h;let⟨t,rfl⟩:=z;let⟨t',rfl⟩:=o;exact rule i j t t' s _ _ ⟨.bl (g i j),H,I,rfl,q⟩
noncomputable def Kn(i j:Int):Prop:=0 < j/\j < 1073741824
noncomputable def MT(i j:Int):Prop:=0<=j/\j<=1000000/\i.natAbs < 2^64
noncomputable def Dd(i j:Int):Prop:=(-(2^64) < i/\i < 2^64)\/(-(2^64) < j/\j < 2^64)
theorem Dd.ok{i j:Int}(h:Dd i j):IntMulOk i j:=by
 rcases h with ⟨l,g⟩|⟨l,g⟩
 ·exact .of_left (intBits_le_64 l g)
 ·exact .of_right (intBits_le_64 l g)
theorem Qbf:OpR X (eJ .Add) (BK λi j=>.int (i+j)):=E7 λ_ _ _ _ _ _ _ q=>add_int q
theorem Qbg:OpR X (eJ .Sub) (BK λi j=>.int (i-j)):=E7 λ_ _ _ _ _ _ _ q=>sub_int q
theorem Wq:OpR X (eJ .Mult) (rI Dd λi j=>.int (i*j)):=tS λ_ _ _ _ _ _ _ g q=>mul_int q g.ok
theorem Qbi:OpR X (eJ .FloorDiv) (rI Kn λi j=>.int (i / j)):=tS λi j _ _ _ _ _ g q=>by have l:(0:Int) < j:=g.1;have h:j < 1073741824:=g.2;exact floordiv_int () (by rw[Int.fdiv_eq_ediv_of_nonneg i ()];exact q) (.inl (PyProof.noPylong_small ()))
theorem X5:OpR X (eJ .Mod) (rI (λ_ j=>0 < j) λi j=>.int (i % j)):=tS λi j _ _ _ _ _ g q=>by have h:(0:Int) < j:=g;exact mod_int' () (by rw[Int.fmod_eq_emod_of_nonneg i ()];exact q)
theorem VR:OpR X (eJ .Pow) (rI MT λi j=>.int (i^j.toNat)):=tS λ_ _ _ _ _ _ _ g q=>pow_int_small g.1 g.2.1 g.2.2 q
theorem unI{f:ae->Sem ae}{g:Int->Int}(rule:∀(i:Int)(t:Tok)(s:aj)(Q:ae->aj->Prop)(E:ae->aj->Prop),Q (.int (g i) s.toks) { s with toks:=s.toks+1 }->aF (aW X.prog X.w) X.A (f (.int i t)) Q E s):Nz X f (rU λi=>.int (g i)):=by
 intro l s σ H x v Q I o h;let⟨i,rfl,q⟩:=h;let⟨t,rfl⟩:=o;exact rule i t s _ _ ⟨.int (g i),H,I.tok _,⟨_,rfl⟩,q⟩
theorem TW:Nz X (unaryOp .USub) (rU λi=>.int (-i)):=unI λ_ _ _ _ _ q=>neg_int q
end
section
variable{X:Cx}{a b c:Expr}{ta tb tc:TE}
theorem Pp{Q:VK}(I:Inv X g σ H s)(q:Q (.bl k) H)(e:k=h):EP X g σ Q (.bool h) s:=by subst e;exact⟨.bl k,H,I,rfl,q⟩
theorem Qbn:OpR X (cq .Lt) (BK λi j=>.bl (decide (i < j))):=A2 λ_ _ _ _ _ _ _ q=>lt_int q
theorem Qbo:OpR X (cq .LtE) (BK λi j=>.bl (decide (i<=j))):=A2 λ_ _ _ _ _ _ _ q=>le_int q
theorem TC:OpR X (cq .Gt) (BK λi j=>.bl (decide (j < i))):=A2 λ_ _ _ _ _ _ _ q=>gt_int q
theorem Vp:OpR X (cq .GtE) (BK λi j=>.bl (decide (j<=i))):=A2 λ_ _ _ _ _ _ _ q=>ge_int q
theorem YV:OpR X (cq .Is) (λx y H Q=>y=.non/\Q (.bl (decide (x=.non))) H):=by
 intro l s σ H x y v u Q I g o h;let⟨rfl,q⟩:=h;cases o;refine is_none_gen (Pp I q ?_);cases x<;>first
  | (cases g;rfl)| (let⟨t,rfl⟩:=g;rfl)
theorem Qbs:OpR X (cq .IsNot) (λx y H Q=>y=.non/\Q (.bl (!decide (x=.non))) H):=by
 intro l s σ H x y v u Q I g o h;let⟨rfl,q⟩:=h;cases o;refine isnot_none_gen (Pp I q ?_);cases x<;>first
  | (cases g;rfl)| (let⟨t,rfl⟩:=g;rfl)
theorem Qbt(b:Expr)(h:op≠.In:=by decide)(g:op≠.NotIn:=by decide):iX op b=false:=by
 let o:(op == xH.In)=false:=by cases op<;>first|rfl|exact bw rfl h
 let l:(op == xH.NotIn)=false:=by cases op<;>first|rfl|exact bw rfl g
 cases b<;>simp[iX,o,l]
theorem Zc(C:OpR X (cq op) r)(J:PE X a ta)(G:PE X b tb)(E:iX op b=ω):PE X (.Compare a [op] [b] pos) (GK r ta tb):=by intro g s σ H Q I h;exact wpAny_Compare1 (Ch J G I h λv u l x y O L z o q=>C g l σ O x y v u Q L z o q) E
noncomputable def F8(t:TE):TT:=λσ H Q=>t σ H λx g=>∃k,x=.bl k/\Q k g
theorem U5(ho:OpR X (cq op) r)(ha:PE X a ta)(hb:PE X b tb)(hm:iX op b=ω):PT X (.Compare a [op] [b] pos) (F8 (GK r ta tb)):=by intro g s σ H Q I h;refine wpAny_isTrue_Compare1 (gH (ha g s σ H _ I h) λv G C=>?_) hm;let⟨x,H1,I1,O,q1⟩:=C;refine gH (hb g G σ H1 _ I1 q1) λu E o=>?_;let⟨y,H2,I2,L,Y⟩:=o;refine gH (ho g E σ H2 x y v u _ I2 O L Y) λc s3 l=>?_;let⟨z,H3,I3,J,k,e,U⟩:=l;subst e;cases J;exact f_ ⟨H3,I3,U⟩
def C1(K:aq)(x:V)(H:Hp)(k:Bool):Prop:=
 match x with| .non=>k=ω| .bl b=>k=b| .int i=>k=(i != 0)| .str y=>⇑y<=sizeLine/\k=((⇑y:Int) != 0)| .byt y=>y.size<=sizeLine/\k=((y.size:Int) != 0)| .ref p=>(∃xs,ie K H p xs/\k = !xs.isEmpty)\/(∃xs,kZ K H p xs/\k = !xs.isEmpty)\/∃g,H p=ξ (.dK g)/\k = !g.isEmpty|_=>False
theorem W3{κ:Type}{g:List (κ×V)}{vs:List (κ×ae)}(r:KV g vs):(!vs.isEmpty) = !g.isEmpty:=by cases r<;>rfl
theorem Q2(r:bX xs its):(!its.toArray.isEmpty) = !xs.isEmpty:=by cases r<;>simp
theorem C7:(sizeLine:Nat) < 2^63:=by rw[gi];decide
theorem Zf:Nc X (λx H Q=>∃k,C1 X.K x H k/\Q k H):=by
 intro E s σ H x v Q I u h;let⟨k,e,q⟩:=h;let O:=C7;let L:sizeLine=16777216:=gi;cases x with
 |non=>
  cases u;let g:k=false:=e;subst g;exact truthy_none ⟨H,I,q⟩
 |bl b=>
  cases u;let g:k=b:=e;subst g;exact f_ ⟨H,I,q⟩
 |int i=>
  let⟨t,rfl⟩:=u;let g:k=(i != 0):=e;subst g;exact PySem.P.truthy_int ⟨H,I,q⟩
 |str y=>
  let⟨t,rfl⟩:=u;obtain⟨G,g⟩:⇑y<=sizeLine/\k=((⇑y:Int) != 0):=e;subst g;exact PySem.P.truthy_str () ⟨H,I.tok _,q⟩
 |byt y=>
  let⟨t,rfl⟩:=u;obtain⟨G,g⟩:y.size<=sizeLine/\k=((y.size:Int) != 0):=e;subst g;exact PySem.W.truthy_bytes () ⟨H,I.tok _,q⟩
 |ref p=>
  cases u;let g:(∃xs,ie X.K H p xs/\k = !xs.isEmpty)\/(∃xs,kZ X.K H p xs/\k = !xs.isEmpty)\/∃l,H p=ξ (.dK l)/\k = !l.isEmpty:=e;rcases g with ⟨xs,z,g⟩|⟨xs,z,g⟩|⟨l,z,g⟩
  ·subst g;let⟨its,r,C,hz⟩:=I.list z;let o:=⇑r;exact wpAny_truthy_list C.isList (by simp only[aG];ext) ⟨H,I.tok _,by rw[Q2 r];exact q⟩
  ·subst g;let⟨its,r,C,hz⟩:=I.tuple z;let o:=⇑r;exact truthy_tuple C (by simp only[aG];ext) ⟨H,I.tok _,by rw[Q2 r];exact q⟩
  ·subst g;obtain⟨hz,J,vs,r,m⟩:⇑l<=sizeLine/\(p == dB)=ω/\∃vs,KV l vs/\s.heap.DictOf (fP X.prog X.w) p vs:=I.hok p _ z;let o:⇑l=⇑vs:=dZ r;exact wpAny_truthy_dict J m () ⟨H,I.tok _,by rw[W3 r];exact q⟩
 |_=>exact (show False from e).elim
theorem QbA(G:PE X a ta)(E:∀whole,isTrue a X.env whole=(do let v <- whole; ve a.pos; oM [v] (truthy v))):
  PT X a (λσ H Q=>ta σ H λx o=>∃k,C1 X.K x o k/\Q k o):=by
 intro g s σ H Q I h;exact isTrue_plain (gH (G g s σ H _ I h) λv u l=>by let⟨x,L,J,z,C⟩:=l;exact Zf g u σ L x v Q J z C) (E _)
theorem WO:OpR X (eJ .Add) (λx y H Q=>∃i j,x=.str i/\y=.str j/\⇑i+⇑j<=sizeLine/\Q (.str (i++j)) H):=by intro g s σ H x y v u Q I o l h;let⟨i,j,rfl,rfl,hz,q⟩:=h;let⟨t,rfl⟩:=o;let⟨t',rfl⟩:=l;exact add_str (λt' tk=>⟨.str (i++j),H,I.tok _,⟨_,rfl⟩,q⟩) hz
theorem vx(r:bX [x] g):∃u,g=[u]/\RelV x u:=by
 cases r with|cons r1 r2=>cases r2;exact⟨_,rfl,r1⟩
theorem J7(r:bX [x,y] h):∃u g,h=[u,g]/\RelV x u/\RelV y g:=by
 cases r with|cons r1 r2=>
  cases r2 with|cons r3 r4=>cases r4;exact⟨_,_,rfl,r1,r3⟩
theorem Xy(o:X.calm=θ):CallR X (.builtin "max") (λxs H Q=>∃i j,xs=[.int i,.int j]/\Q ↑(if j > i then j else i) H):=by
 intro l s σ H xs C Q I r h;let⟨i,j,rfl,q⟩:=h;let⟨u,z,rfl,⟨t,rfl⟩,⟨t',rfl⟩⟩:=J7 r;refine max_two_ints (I.ok.hd o) λh' tk k=>⟨_,H,I.kept k,?_,q⟩
 by_cases g:j > i
 ·rw[aH g,aH g];exact⟨_,rfl⟩
 ·rw[aB g,aB g];exact⟨_,rfl⟩
theorem Ze(o:X.calm=θ):CallR X (.builtin "min") (λxs H Q=>∃i j,xs=[.int i,.int j]/\Q ↑(if j < i then j else i) H):=by
 intro l s σ H xs C Q I r h;let⟨i,j,rfl,q⟩:=h;let⟨u,z,rfl,⟨t,rfl⟩,⟨t',rfl⟩⟩:=J7 r;refine min_two_ints (I.ok.hd o) λh' tk k=>⟨_,H,I.kept k,?_,q⟩
 by_cases g:j < i
 ·rw[aH g,aH g];exact⟨_,rfl⟩
 ·rw[aB g,aB g];exact⟨_,rfl⟩
theorem Wb:CallR X (.type "int") (λxs H Q=>(∃i,xs=[.int i]/\Q ↑i H)\/∃k,xs=[.bl k]/\Q ↑(if k then 1 else 0) H):=by
 intro g s σ H xs o Q I r h;rcases h with ⟨i,rfl,q⟩|⟨k,rfl,q⟩
 ·let⟨u,rfl,t,rfl⟩:=vx r;exact call_int_int ⟨.int i,H,I,⟨_,rfl⟩,q⟩
 ·let⟨u,rfl,l⟩:=vx r;cases l;exact call_int_bool ⟨.int (if k then 1 else 0),H,I.tok _,⟨_,rfl⟩,q⟩
end
structure Cf(h:bC)(x dx C:ak)(mA:Str->Option ae):Prop where
 obj:h.get? x=ξ (ra C dx)
 ns:h.Ns1 dx mA
 ne:dx≠x
theorem QbH{h:bC}(n:h.Ns1 C u):∃l,h.get? C=ξ l/\∀name,rX name l=ξ (u name):=by
 let⟨o,es,ep,G,hd,I,_,H⟩:=n;refine⟨o,G,λname=>?_⟩;let e:=H name;unfold nsFind findBy at e;rw[<- wW]at e;unfold rX;rw[hd];dsimp only;split
 ·rename_i y q;rw[q]at e;exact cj ξ e
 ·rename_i q;rw[q]at e;let a:es.toList.any (·.refKey)=false:=by rw[List.any_eq_false];intro y E;let⟨z,t,g⟩:=I y (Array.mem_toList_iff.mp E);simp[kl.refKey,g]
  let J:¬ es.toList.any (·.refKey)=true:=by rw[a];exact bc
  rw[aB J];exact cj ξ e
theorem Cf.look(I:Cf h x o C l):∃g,PySem.W.InstAt h x (ra C o) C (ξ g)/\∀name,rX name g=ξ (l name):=
 let ⟨g,ho,hl⟩:=QbH I.ns
 ⟨g,⟨I.obj,rfl,rfl,ho⟩,hl⟩
theorem pj.some_of(r:pj (ξ v) o):∃u,o=ξ u/\RelV v u:=by
 cases o with|none=>exact (show False from r).elim|some u=>exact⟨u,rfl,r⟩
section
theorem ZC(l:nZ P w H h)(e:H a=ξ (.ins C dx fs)):∃g,Cf h a dx C g/\(∀f,pj (fs.lookup f) (g f))/\Dx g (fs.map (·.1))/\⇑fs<=1000/\H dx=ξ (.own a):=by
 let⟨d,z,ne,ob,g,n,r,q⟩:=(show dQ P w H h a (.ins C dx fs) from l a _ e)
 exact⟨g,⟨ob,n,ne⟩,r,q,z,d⟩
end
structure Kh(K:aq)(C:ak):Prop where
 pg:wX K C Str.empty=θ
 hd:PySem.W.hasDictIn K C=θ
 po:PySem.W.plainOver K C=θ
 sa:rY K (.ref C) "__setattr__"=ξ (ξ (.builtin "object.__setattr__"))
theorem Kh.get{K:aq}(c:Kh K C)(f:Str):wX K C f=true:=c.pg
section
theorem Uw(g:cG e f env (eval e env)=eval e env)(h:aF (aW prog w) A (eval e env) (λo s₁=>aF (aW prog w) A (getAttr o f θ) Q E s₁) E s):aF (aW prog w) A (eval (.Attribute e f pos) env) Q E s:=
 Attribute_any_ h (by rw[arm_eval_Attribute,g])
end
section
noncomputable def Fw:V->V->Hp->VK->Prop:=λx y H Q=>∃i j,x=.int i/\y=.int j/\Q ↑(i-j) H
end
section
variable{H:Hp}{Q:ae->aj->Prop}
inductive qW(K:aq)(H:Hp):V->ae->Prop where
 |non:qW K H .non (.type "NoneType")|bl (x:Bool):qW K H (.bl x) (.type "bool")|int (i:Int):qW K H ↑i (.type "int")|str (x:Str):qW K H (.str x) (.type "str")|flt (x:UInt64):qW K H (.flt x) (.type "float")|lst {a:ak}{xs:List V} (e:H a=ξ (.lst xs)):qW K H (.ref a) (.type "list")|frz {a:ak}{o:Obj}{xs:List V} (e:H a=ξ (.frz o (.lst xs))):qW K H (.ref a) (.type "list")|tup {a:ak}{xs:List V} (e:H a=ξ (.tup xs)):qW K H (.ref a) (.type "tuple")|dK {a:ak}{cx:List (Key×V)} (e:H a=ξ (.dK cx)):qW K H (.ref a) (.type "dict")|dT {a:ak}{cx:List (List Key×V)} (e:H a=ξ (.dT cx)):qW K H (.ref a) (.type "dict")
 |ins {a C dx : ak} {fs : List (Str×V)} (e : H a = ξ (.ins C dx fs)) (cl : Kh K C) (ha : rY K (.ref C) "__class__" = ξ (ξ (.builtin "object.__class__")))
   (hn:PySem.W.specialIn K (.builtin "object.__class__") "__get__"=ξ (ξ (.builtin "getset_descriptor.__get__"))) (htk:PySem.W.takesIn K (.builtin "object.__class__")=ξ θ)
   (hm:PySem.W.mroIn K C (.type "object")=ξ θ):qW K H (.ref a) (.ref C)
theorem Js(I:Inv X ah σ H s)(g:RelV x u)(ty:qW X.K H x t)(e:fU X.K t c=ξ b)(h:∀tk,Q (.bool b) { s with toks:=tk }):aF (aW X.prog X.w) A (call (.builtin "isinstance") [u,c]) Q E s:=by
 cases ty with
 |non=>cases (show u=bL from g);exact cS PySem.W.kitx_none I.kIn dS e (λz=>(by cases z)) h|bl y=>cases (show u=eO y from g);exact cS PySem.W.kitx_bool I.kIn dS e (λz=>(by cases z)) h|int i=>let⟨t,q⟩:=(show ∃t,u=iK i t from g);cases q;exact cS PySem.W.kitx_int I.kIn dS e (λz=>(by cases z)) h|str y=>let⟨t,q⟩:=(show ∃t,u=ku y t from g);cases q;exact cS PySem.W.kitx_str I.kIn dS e (λz=>(by cases z)) h|flt y=>let⟨t,q⟩:=(show ∃t,u=Em y t from g);cases q;exact cS PySem.W.kitx_float I.kIn dS e (λz=>(by cases z)) h|@lst a xs ea=>
  cases (show u=aC a from g);let⟨_,_,n,_,l⟩:=(show dQ X.prog X.w H s.heap a (.lst xs) from I.hok a _ ea)
  exact cS pA I.kIn ⟨_,l,rfl⟩ e (λz=>(by cases z)) h
 |@frz a ob xs ea=>
  cases (show u=aC a from g);let⟨_,_,_,n,_,l⟩:=(show dQ X.prog X.w H s.heap a (.frz ob (.lst xs)) from I.hok a _ ea)
  exact cS pA I.kIn ⟨_,l,rfl⟩ e (λz=>(by cases z)) h
 |@tup a xs ea=>
  cases (show u=aC a from g);let⟨_,_,_,p⟩:=(show dQ X.prog X.w H s.heap a (.tup xs) from I.hok a _ ea)
  let⟨o,l,G,_⟩:=p;exact cS vJ I.kIn ⟨o,l,G⟩ e (λz=>(by cases z)) h
 |@dK a cx ea=>
  cases (show u=aC a from g);let⟨_,_,vs,_,p⟩:=(show dQ X.prog X.w H s.heap a (.dK cx) from I.hok a _ ea)
  let⟨o,es,ep,l,G,_⟩:=p;exact cS wA I.kIn ⟨o,l,G.1⟩ e (λz=>(by cases z)) h
 |@dT a cx ea=>
  cases (show u=aC a from g);let⟨_,_,xs,_,o,es,ep,l,G,_⟩:=(show dQ X.prog X.w H s.heap a (.dT cx) from I.hok a _ ea)
  exact cS wA I.kIn ⟨o,l,G.1⟩ e (λz=>(by cases z)) h
 |@ins a C dx fs ea cl ha hn htk hm=>
  cases (show u=aC a from g);let⟨U,O,_⟩:=ZC I.hok ea;let⟨L,J,_⟩:=O.look;exact cS (PySem.W.kitx_own (cl.get _) cl.hd ha hn htk hm) I.kIn J e (λz=>(by cases z)) h
end
structure gJ(k:Nat)(A:bx):Prop where
 hd:A.handled=ψ
 dp:A.depth+3*k+5 < recursionLimit
 un:A.units+16*k+200 < cO
theorem gJ.mono{j k:Nat}(r:gJ k A)(h:j<=k):gJ j A:=⟨r.hd,by have:=r.dp;ext,by have:=r.un;ext⟩
theorem gJ.deeper{k:Nat}(r:gJ (k+1) A)(env:Env):gJ k (A.deeper env):=
 ⟨r.hd,by have:=r.dp;show A.depth+1+3*k+5 < _;ext,by have:=r.un;show A.units+3+16*k+200 < _;ext⟩
theorem WV{A:bx}:(A.under (.builtin "type.__call__" ⟨.ref C::g,h⟩)).depth=A.depth+1:=by first|rfl|simp[uj,Code.weight,Code.isCreation,Code.isGuard,Code.isCaller,Ij,vf,guardIds]
theorem YA{A:bx}:(A.under (.builtin "type.__call__" ⟨.ref C::g,h⟩)).units=A.units+1:=by first|rfl|simp[uj,Code.cUnits,Ij,vf]
theorem gJ.make{k:Nat}(r:gJ (k+1) A)(C:ak)(g:List ae)(h:List (Str×ae)):gJ k (A.under (.builtin "type.__call__" ⟨.ref C::g,h⟩)):=
 ⟨r.hd,by have:=r.dp;rw[WV];ext,by have:=r.un;rw[YA];ext⟩
theorem gJ.depth{k:Nat}(r:gJ k A):A.depth < recursionLimit:=by have:=r.dp;ext
theorem gJ.units{k:Nat}(r:gJ k A):A.units+64 < cO:=by have:=r.un;ext
noncomputable def Mu:TA:=λ_ H Q=>Q [] H
noncomputable def HC(h:TE)(g:TA):TA:=λσ H Q=>h σ H λx o=>g σ o λxs l=>Q (x::xs) l
section
variable{t:TA}
theorem ua:PA X [] Mu:=λ_ _ _ _ H Q I h=>qo ⟨[],H,I,.nil,h⟩
theorem qy(U:PE X e te)(O:PA X es t)(L:az (e::es) X.env=(ω,eval e X.env)::az es X.env:=by rfl):PA X (e::es) (HC te t):=by
 intro pos g s σ H Q I h;rw[L]
 show aF _ _ (En ((ω,eval e X.env)::dF pos (az es X.env))) _ _ s;refine pB (gH (U g s σ H _ I h) λu z o=>?_);let⟨x,H1,I1,E,J⟩:=o;exact gH (O pos g z σ H1 _ I1 J) λus s2 l=>by let⟨xs,H2,Y,C,G⟩:=l;exact⟨x::xs,H2,Y,.cons E C,G⟩
def M4(t:TA):TE:=λσ H Q=>t σ H λxs g=>⇑xs<=sizeLine/\∀p,g p=ψ->Q (.ref p) (eE g p (.tup xs))
def Nf(t:TA):TE:=λσ H Q=>t σ H λxs g=>⇑xs<=sizeLine/\∀p,g p=ψ->Q (.ref p) (eE g p (.lst xs))
theorem S8{E}(h:PA X es t):PE X (.Tuple es E pos) (M4 t):=by intro g s σ H Q I J;refine wpAny_Tuple_spliced (gH (h pos g s σ H _ I J) λG l ⟨xs,C,o,r,z,q⟩=>⟨by rw[<- ⇑r];exact z,?_⟩);let L:C ↥l=none:=o.hok.fresh (aA _);refine⟨.ref ↥l,eE C ↥l (.tup xs),o.laid (t':=l.toks) (λb u e=>av _ e) (aA _) ?_,rfl,q _ L⟩;exact⟨z,G,r,⟨_,aM _ rfl,rfl,⟨_,rfl⟩,rfl⟩⟩
theorem Ws(h:PA X es t):PE X (.List es pos) (Nf t):=by intro g s σ H Q I G;refine wpAny_List_spliced (gH (h pos g s σ H _ I G) λE l ⟨xs,C,o,r,z,q⟩=>⟨by rw[<- ⇑r];exact z,?_⟩);let J:C ↥l=none:=o.hok.fresh (aA _);refine⟨.ref ↥l,eE C ↥l (.lst xs),o.laid (t':=l.toks) (λb u e=>av _ e) (aA _) ?_,rfl,q _ J⟩;exact⟨z,E,0,r,aM _ rfl⟩
end
abbrev Sp:=List V->Hp->VK->XK->Prop
abbrev vv:=List Env->Hp->aj->XK->ae->aj->Prop
structure tP(P:Program)(w:bJ)(K:aq)(mg:Str->Option ae)(base:bC)(A:bx)(outer:List Env)(s:aj)(H:Hp):Prop where
 frames:A.frames=ξ outer
 mod:Mod K mg base
 bs:∀b o,base.get? b=ξ o->s.heap.get? b=ξ o/\H b=ψ
 bsz:base.objs.size<=↥s
 funs:s.heap.FunFrames base outer
 frf:∀b∈vZ outer,H b=ψ
 hok:nZ P w H s.heap
 bare:mZ s.gens
def CE(outer:List Env)(P:Program)(w:bJ)(H:Hp)(s:aj)(Q:VK)(u:ae)(s':aj):Prop:=
 ∃v g,s'.os=s.os/\mZ s'.gens/\Un (vZ outer) [] H g s.heap s'.heap/\nZ P w g s'.heap/\RelV v u/\Q v g
def CR(CX:vv)(outer:List Env)(P:Program)(w:bJ)(H:Hp)(s:aj)(Q:VK)(E:XK)(r:Result)(s':aj):Prop:=
 match r with| .ok (.ret u)=>CE outer P w H s Q u s'| .ok _=>False| .error e=>CX outer H s E e s'
structure iz(P:Program)(w:bJ)(K:aq)(mg:Str->Option ae)(base:bC)(CX:vv)(k:Nat)(f:ak)(fd:b_)(ps:List Str)(sp:Sp):Prop where
 len:∀vs H Q E,sp vs H Q E->⇑vs=⇑ps
 run:∀(A:bx)(outer:List Env)(s:aj)(H:Hp)(args:Args)(us:List ae)(vs:List V)(Q:VK)(E:XK),gJ k A->tP P w K mg base A outer s H->sR s fd args (ps.zip us)->bX vs us->sp vs H Q E ->
  l_ (aW P w) A (.call (.ref f) args) (CR CX outer P w H s Q E) s
theorem tP.make{K:aq}(e:tP P w K mg base A outer s H)(C:ak)(g:List ae)(h:List (Str×ae)):tP P w K mg base (A.under (.builtin "type.__call__" ⟨.ref C::g,h⟩)) outer s H:=⟨by first|exact e.frames|(simpa [uj,Code.envs,vf,pushEnvs] using e.frames),e.mod,e.bs,e.bsz,e.funs,e.frf,e.hok,e.bare⟩
section
theorem Inv.env0(I:Inv X ah σ H s):tP X.prog X.w X.K X.mg X.base X.A X.stack s H:=
 ⟨I.ok.frames,I.ok.mod,I.bs,bH I.ok.bsz I.sz,I.stack,I.stkFree,I.hok,I.bare⟩
theorem Inv.after(I:Inv X ah σ H s)(h:CE X.stack X.prog X.w H s Q u s'):EP X ah σ Q u s':=by let⟨v,E,os,l,un,C,r,q⟩:=h;let⟨hh,g,d,t,o⟩:=s';obtain rfl:o=s.os:=os;exact⟨v,E,I.call (h':=hh) (g':=g) (d':=d) (t':=t) (ch:=[]) un C l (λb z=>bw z (by simp)),r,q⟩
end
noncomputable def FN(sp:Sp)(g:List V)(E:XK)(t:TA):TE:=λσ H Q=>t σ H λvs h=>sp (vs++g) h Q E
noncomputable def Binds(K:aq)(h:b_)(ps:List Str)(ds:List ae):Prop:=
 ∀(s:aj)(g:List ae),K.In s.heap->⇑(g++ds)=⇑ps->sR s h ⟨g,[]⟩ (ps.zip (g++ds))
theorem Binds.all{K:aq}{ps:List Str}(h:∀g:List ae,⇑g=⇑ps->ly o ⟨g,[]⟩=pure (ps.zip g)):Binds K o ps []:=λs g _ l=>by rw[bG]at l ⊢;exact .of_eq (h g l)
def rC(CX:vv)(X:Cx)(E:XK):Prop:=∀(ah:List (ak×Obj))(σ:St)(H:Hp)(s:aj)(e:ae)(s':aj),Inv X ah σ H s->CX X.stack H s E e s'->X.xe e s'
section
variable{X:Cx}{k:Nat}{f C:ak}
theorem W_(F:iz X.prog X.w X.K X.mg X.base CX k f fd ps sp)(L:gJ k X.A)(U:Binds X.K fd ps ds)(hd:bX fi ds)(J:rC CX X E)(I:Inv X g σ H s) (r:bX vs l) (h:sp (vs++fi) H Q E):aF (aW X.prog X.w) X.A (call (.ref f) l) (EP X g σ Q) X.xe s:=by
 let G:bX (vs++fi) (l++ds):=r.append hd;let O:⇑(l++ds)=⇑ps:=by rw[<- ⇑G];exact F.len _ _ _ _ h
 refine kU (ma (F.run X.A X.stack s H ⟨l,[]⟩ (l++ds) (vs++fi) Q E L I.env0 (U s l I.kIn O) G h) λr s' z=>?_);cases r with|error e=>exact J g σ H s e s' I z|ok fl=>
  cases fl with|ret u=>exact I.after z|next=>exact cZ z|brk=>exact cZ z|cont=>exact cZ z
theorem M6(F:iz X.prog X.w X.K X.mg X.base CX k f fd ps sp)(J:gJ k X.A)(U:Gl X x)(L:X.mg x=ξ (.ref f))(O:dh X.K (.ref f)=θ)(o:Binds X.K fd ps ds)(hd:bX fi ds)(G:rC CX X E)(C:PA X (e::es) t) (u:(x == ("__debug__":Str))=false:=by decide) (Y:az (e::es) X.env=(ω,eval e X.env)::az es X.env:=by rfl) (l:(dF pos (az es X.env)).any (·.1)=false:=by rfl):
  PE X (.Call (.Name x p) (e::es) [] pos) (FN sp fi E t):=by
 intro g s σ H Q I h;refine fG (FK I U L ?_ u);refine oO (h₀:=X.base) I.ok.mod.kin O (gH (C pos g s σ H _ I h) λus s1 ⟨vs,H1,z,r,q⟩=>⟨z.kIn,?_⟩) Y l;exact W_ F J o hd G z r q
structure Mk(K:aq)(C f:ak):Prop where
 makes:PySem.W.makesIn K C=θ
 init:rY K (.ref C) "__init__"=ξ (ξ (.ref f))
 fn:PySem.W.isFn K (.ref f)=θ
 kp:dh K (.ref C)=θ
end
def PK(X:Cx)(g:List io)(t:TA):Prop:=
 ∀(pos:Pos)(ah:List (ak×Obj))(s:aj)(σ:St)(H:Hp)(Q:List V->Hp->Prop),Inv X ah σ H s->t σ H Q->aF (aW X.prog X.w) X.A (evalAll ((oh pos (ki g X.env)).map (·.2))) (AP X ah σ Q) X.xe s
section
variable{X:Cx}{CX:vv}{k:Nat}{f C:ak}{fd:b_}{ps ks:List Str}{sp:Sp}{E:XK}{x m:Str}{p pos cy gD:Pos}{e o:Expr}{es:List Expr}{i5:List io}{te ta:TE}{t tk:TA}{nm:Option Str}
variable{g:List ae->List ae->List ae}{gV:List V->List V->List V}
end
structure kh(N P:List Str)(sc:dU):Prop where
 kind:sc.kind=.function
 co:sc.isCoroutine=ω
 gen:sc.isGenerator=ω
 nd:N.Nodup
 pre:N.take ⇑P=P
 par:∀x∈P,sc.names.lookup x=ξ .local\/sc.names.lookup x=ξ .cell
 nofree:∀y∈sc.names,y.2≠.free
theorem R6{kindOf:Str->Option fe}:∀{binds:List (Str×ae)}{m:Str->Option ae},(∀v,(x,v)∉binds)->xI kindOf binds m x=m x
 |[],_,_=>rfl
 | (n,v)::r,m,h=>by
  unfold xI;rw[R6 λw g=>h w (bD _ g)];split
  ·have:x≠n:=by rintro rfl;exact h v bK
   simp[this]
  ·rfl
theorem Qv{kindOf:Str->Option fe}:∀{binds:List (Str×ae)}{m:Str->Option ae},(∀v,(x,v)∉binds)->xJ kindOf binds m x=m x
 |[],_,_=>rfl
 | (n,v)::r,m,h=>by
  unfold xJ;rw[Qv λw g=>h w (bD _ g)];split
  ·rfl
  ·have:x≠n:=by rintro rfl;exact h v bK
   simp[this]
theorem ON{kindOf:Str->Option fe}: ∀{P:List Str}{vs:List ae}{i:Nat}{m:Str->Option ae},P.Nodup->P[i]?=ξ x->vs[i]?=ξ v->kindOf x=ξ .local ->xI kindOf (P.zip vs) m x=ξ v
 |[],_,_,_,_,h,_,_=>by simp at h|_::_,[],_,_,_,_,h,_=>by simp at h
 |p::P,w::vs,0,m,nd,h1,h2,hk=>by
  simp at h1 h2;subst h1;subst h2
  show xI kindOf ((p,w)::P.zip vs) m p=_;unfold xI;rw[R6 λv g=>(iI.mp nd).1 (sy g).1,aH hk];simp
 |p::P,w::vs,i+1,m,nd,h1,h2,hk=>by show xI kindOf ((p,w)::P.zip vs) m x=_;unfold xI;exact ON (i:=i) (iI.mp nd).2 (by simpa using h1) (by simpa using h2) hk
theorem RA{kindOf:Str->Option fe}: ∀{P:List Str}{vs:List ae}{i:Nat}{m:Str->Option ae},P.Nodup->P[i]?=ξ x->vs[i]?=ξ v->kindOf x≠ξ .local ->xJ kindOf (P.zip vs) m x=ξ v
 |[],_,_,_,_,h,_,_=>by simp at h|_::_,[],_,_,_,_,h,_=>by simp at h
 |p::P,w::vs,0,m,nd,h1,h2,hk=>by
  simp at h1 h2;subst h1;subst h2
  show xJ kindOf ((p,w)::P.zip vs) m p=_;unfold xJ;rw[Qv λv g=>(iI.mp nd).1 (sy g).1,aB hk];simp
 |p::P,w::vs,i+1,m,nd,h1,h2,hk=>by show xJ kindOf ((p,w)::P.zip vs) m x=_;unfold xJ;exact RA (i:=i) (iI.mp nd).2 (by simpa using h1) (by simpa using h2) hk
noncomputable def start(N:List Str)(vs:List V):St:=vs.map ξ++aE (⇑N-⇑vs) ψ
noncomputable def oD(CX:vv)(P:Program)(w:bJ)(K:aq)(mg:Str->Option ae)(base:bC)(N:List Str)(qual:Str)(scope:dU)(f:ak)(h:ae)(A:bx)(outer:List Env)(s:aj)(H:Hp)(E:XK):Cx where
 prog:=P
 w:=w
 K:=K
 mg:=mg
 base:=base
 A:=A.deeper (kB qual scope ↥s f h)
 N:=N
 s₀:=s
 H₀:=H
 env:=kB qual scope ↥s f h
 outer:=outer
 stack:=kB qual scope ↥s f h::outer
 ex:=[]
 calm:=θ
 fn:=λ_=>θ
 pn:=[]
 xe:=λe s'=>aF (aW P w) (A.deeper (kB qual scope ↥s f h)) (leaving (kB qual scope ↥s f h) e) (λ_ g=>CX outer H s E e g) (λl g=>CX outer H s E l g) s'
theorem Ol{sc:dU}{n:Nat}(h:sc.names.lookup x=ξ .cell):∃c,(dG n sc.names []).lookup x=ξ c:=by let q:=mF sc.names n [] (.inl h);exact tG.mp q
theorem Uo{K:aq}{A:bx}{vs:List V}(S:kh N ps scope) (hd:A.handled=ψ) (l:tP P w K mg base A outer s H) (hl:⇑vs=⇑ps) (r:bX vs O)(x:InCallC s ↥s (xI (kB qual scope ↥s f L).kindOf (ps.zip O) λ_=>ψ) (dG (↥s+1) scope.names []) (xJ (kB qual scope ↥s f L).kindOf (ps.zip O) λ_=>ψ) Q):Inv (oD CX P w K mg base N qual scope f L A outer s H E) [] (start N vs) H Q:=by
 let hpl:⇑ps<=⇑N:=by have:=cj e_ S.pre;rw[cL]at this;ext
 let⟨J,tk,rfl,U⟩:=x.done;let qC:∀b:ak,b∉(oD CX P w K mg base N qual scope f L A outer s H E).ex:=λb z=>bw (show b∈([]:List ak) from z) (by simp);refine⟨⟨l.mod,S.kind,rfl,rfl,aA _,λy z c J g=>?_,λy o=>?_,λy c _ h=>?_,λ_=>hd,bx.frames_deeper l.frames,.inr ⟨rfl,rfl⟩,λb z=>bw z (qC b),l.bs,l.bsz,λb _ _=>qC b,λb z=>bw z (qC b),l.funs,l.frf⟩,
  rfl,l.bare,Un.kept U,⟨_,x.toInCall.ns,λi y v J g h3=>?_⟩,λy c h=>⟨_,x.cell y c h⟩,l.hok.fresh (aA _),λy c h=>?_,λp G=>bw (show p∈([]:List (ak×Obj)) from G) (by simp),l.hok.kept U,?_⟩
 ·exact name_of_addr x.apart (d3 J) (d3 g)
 ·let o:scope.names.lookup y=ξ .cell\/scope.names.lookup y=ξ .free:=o;rcases o with o|o
  ·exact Ol o
  ·exact bw rfl (S.nofree _ (d3 o))
 ·exact nD (x.above y c (d3 h))
 ·let I : i < ⇑vs := by
    unfold start at g;by_cases I:i < ⇑vs
    ·exact I
    ·rw[bv (by simpa using I)]at g;rw[gp]at g;split at g<;>cases g
  let h:vs[i]?=ξ v:=by
   unfold start at g;rw[aI (by simpa using I),ar]at g;cases e:vs[i]? with|none=>rw[e]at g;cases g|some a=>rw[e]at g;cases g;rfl
  let⟨u,hu,Y⟩:=r.get h;let G:ps[i]?=ξ y:=by rw[<- S.pre,List.getElem?_take_of_lt ()];exact J
  let C:ps.Nodup:=by rw[<- S.pre];exact S.nd.sublist (zq _ _)
  refine⟨u,Y,?_⟩;rcases S.par y (aJ G) with k|k
  ·exact .inl ⟨k,ON C G hu k⟩
  ·let⟨c,e⟩:=Ol (n:=↥s+1) k;refine .inr ⟨.inl k,c,e,?_⟩;let q:=x.cell y c e;rw[RA C G hu (by show scope.names.lookup y≠_;rw[k];decide)]at q;exact q
 ·exact l.hok.fresh (nD (x.above y c (d3 h)))
 ·unfold start
  show _=⇑N;rw[aK,af,eM];ext
theorem MZ{K:aq}{k:Nat}{dV kV doc pm g ct oc:ae}{sp:Sp} (lk:K.lookup f=ξ ⟨oc,od,.func (dv name qual h l scope dV kV doc pm an g ct),osl⟩) (hcd:gY K g qual=θ) (S:kh N ps scope)(len:∀vs H Q E,sp vs H Q E->⇑vs=⇑ps)(G:∀(A:bx)(outer:List Env)(s:aj)(H:Hp)(vs:List V)(Q:VK)(E:XK),gJ k (A.deeper (kB qual scope ↥s f g))->sp vs H Q E ->∃t,PSs (oD CX P w K mg base N qual scope f g A outer s H E) l t/\t { nx:=λ_ z=>Q .non z,rt:=Q } (start N vs) H):iz P w K mg base CX (k+1) f (dv name qual h l scope dV kV doc pm an g ct) ps sp:=by
 refine⟨len,λA outer s H args us vs Q E hr e0 hb r U=>?_⟩;let hl:=len _ _ _ _ U;let KX:K.In s.heap:=e0.mod.kin.keeps λb o e=>(e0.bs b o e).1;let eT:s.heap.NoLimit:=e0.mod.nolimit.keeps λb o e=>(e0.bs b o e).1;let C:∀y∈ps.zip us,scope.names.lookup y.1=ξ .local\/(scope.names.lookup y.1=ξ .cell/\((dG (↥s+1) scope.names []).lookup y.1).isSome=θ):=λO hy=>by
  let⟨n,v⟩:=O;rcases S.par n (sy hy).1 with q|q
  ·exact .inl q
  ·exact .inr ⟨q,mF _ _ _ (.inl q)⟩
 refine codeAny_call_function hr.depth (KX _ _ lk) rfl S.co S.gen rfl (PySem.W.codeRec_of KX hcd) (hb _ _ _ _ ?_);refine wpAny_newFunctionEnv_cells S.kind C λenv he s1 x=>?_;subst he;refine⟨eT.keeps x.toInCall.keep,codeAny_func ?_⟩;let⟨t,ht,hq⟩:=G A outer s H vs Q E (hr.deeper _) U;let I:Inv (oD CX P w K mg base N qual scope f g A outer s H E) [] (start N vs) H s1:=Uo S hr.hd e0 hl r x;refine dN (ht [] s1 (start N vs) H _ I hq) (λfl s' L=>?_) λe s' L=>L;let Y:∀{σ':St}{z:Hp}{v:V}{u:ae},Inv (oD CX P w K mg base N qual scope f g A outer s H E) [] σ' z s'->RelV v u->Q v z->CE outer P w H s Q u s':=
  λ{σ' z v u}J rv q=>⟨v,z,J.os,J.bare,J.base,J.hok,rv,q⟩
 cases fl with
 |ret u=>
  let⟨v,σ',z,J,rv,q⟩:=L;exact Y J rv q
 |next=>
  let⟨σ',z,J,q⟩:=L;exact Y (v:=V.non) (u:=bL) J rfl q
 |brk=>
  let⟨_,_,_,q⟩:=L;exact cZ q
 |cont=>
  let⟨_,_,_,q⟩:=L;exact cZ q
section
variable{t:TA}{id T:String}{r:List V->Hp->VK->Prop}
noncomputable def OE(r:List V->Hp->VK->Prop)(t:TA):TE:=λσ H Q=>t σ H λvs g=>r vs g Q
theorem C0(hc : CallR X (.builtin id) r)(U : Gl X x)(O : X.mg x = ψ)(J : b5 x = ξ (.builtin id))(ha : PA X (e :: es) t)(L : x ≠ "__name__" := by decide)(u : (x == ("__debug__" : Str)) = ω := by decide)
  (Y:az (e::es) X.env=(ω,eval e X.env)::az es X.env:=by rfl) (o:(dF pos (az es X.env)).any (·.1)=false:=by rfl):PE X (.Call (.Name x p) (e::es) [] pos) (OE r t):=by
 intro g s σ H Q I h;refine fG (AM I U O J ?_ L u);exact PyProof.Rows.callWith_builtin1 (gH (ha pos g s σ H _ I h) λz C l=>by let⟨vs,H1,I1,E,G⟩:=l;exact hc g C σ H1 vs z Q I1 E G) Y o
theorem Kw(hc : CallR X (.type T) r)(U : Gl X x)(O : X.mg x = ψ)(J : b5 x = ξ (.type T))(ha : PA X (e :: es) t)(L : x ≠ "__name__" := by decide)(u : (x == ("__debug__" : Str)) = ω := by decide)
  (Y:az (e::es) X.env=(ω,eval e X.env)::az es X.env:=by rfl) (o:(dF pos (az es X.env)).any (·.1)=false:=by rfl):PE X (.Call (.Name x p) (e::es) [] pos) (OE r t):=by
 intro g s σ H Q I h;refine fG (AM I U O J ?_ L u);exact cU (gH (ha pos g s σ H _ I h) λz C l=>by let⟨vs,H1,I1,E,G⟩:=l;exact hc g C σ H1 vs z Q I1 E G) Y o
end
end L2
namespace HT
open PySem PyProof.Rows
section
open PySem.SeqAt
open PySem.AutoSeq1 (wpAny_loadPart')
open PySem.MeetsSeq PySem.MeetsSeq2 PySem.MeetsSeq3
end
section
variable{s:aj}
theorem AK{vs ws:List ae}{Q:ae->aj->Prop}(O:A3 s.heap t vs.toArray)(U:A3 s.heap b ws.toArray)(H:vs≠[])(h1:ws=[]->Q (.ref t) s) (Y:ws≠[]->Q (.ref ↥s) { s with heap:=s.heap.push { cls:=.type "tuple",data:=.seq (vs++ws).toArray } })(hsz:⇑vs+⇑ws<=sizeLine):aF (aW prog w) A (eJ .Add (.ref t) (.ref b)) Q E s:=by
 let⟨⟨cls,J,data,G⟩,C,I,n,hd⟩:=id O;let⟨⟨L,u,data2,h⟩,g,o,n2,l⟩:=id U;simp only at I hd o l;subst I hd o l;let e:vs.toArray++ws.toArray=(vs++ws).toArray:=by simp
 by_cases z:ws=[]
 ·exact zr ⟨_, C, rfl⟩ ⟨_, g, rfl⟩ t6 wY mG me (lS _ _)
    (tuple_addW1 t b vs.toArray ws.toArray n n2 J u G h (by simpa using H) (by simp[z])) ⟨C,g,h1 z⟩
 ·refine zr ⟨_, C, rfl⟩ ⟨_, g, rfl⟩ t6 wY mG me (lS _ _)
    (tuple_addW2 t b vs.toArray ws.toArray n n2 J u G h (by simpa using H) (by simpa using z) (by rw[aG,aG];exact hsz)) ⟨C,g,?_⟩
  rw[e];exact Y z
noncomputable def gQ(n d:Nat):Option Int->Nat
 |none=>d|some v=>if v < 0 then (v+(n:Int)).toNat else min v.toNat n
theorem W6(n d:Nat)(hd:d<=n)(o:Option Int):gQ n d o<=n:=by
 cases o with|none=>exact hd|some v=>
  refine (?_:(if v < 0 then _ else _)<=n);by_cases g:v < 0
  ·rw[aH g];exact Int.toNat_le.mpr (by have:=wZ (Il g) (n:Int);rwa [Im]at this)
  ·rw[aB g];exact A6 _ _
theorem L8(v:Int)(n d:Nat):(if v < 0 then max (v+(n:Int)) 0 else min v (n:Int))=((gQ n d (ξ v):Nat):Int):=by
 refine (?_:_=(((if v < 0 then _ else _):Nat):Int));by_cases g:v < 0
 ·rw[aH g,aH g,Int.ofNat_toNat]
 ·let⟨k,rfl⟩:=Int.eq_ofNat_of_zero_le (zt.mp g);rw[aB g,aB g,aR];rcases rf k n with h|h
  ·rw[Nat.min_eq_left h];exact BN (Io.mpr h)
  ·rw[Nat.min_eq_right h];exact Int.min_eq_right (Io.mpr h)
theorem xW(v:Int)(n d:Nat):max 0 (min (if v < 0 then v+(n:Int) else v) (n:Int))=((gQ n d (ξ v):Nat):Int):=by
 rw[<- L8];by_cases g:v < 0
 ·rw[aH g,aH g,BN (by have:=wZ (Il g) (n:Int);rwa [Im]at this),Int.max_comm]
 ·rw[aB g,aB g];exact A7 (Int.le_min.mpr ⟨zt.mp g,Int.natCast_nonneg _⟩)
theorem Xv(lo g:Option Int)(n:Nat):kC lo g 1 (n:Int)=(((gQ n 0 lo:Nat):Int),((gQ n n g:Nat):Int)):=by
 let h:¬ ((1:Int) < 0):=by ext
 unfold kC;simp only[h,if_false];refine Prod.ext ?_ ?_
 ·cases lo with|none=>rfl|some v=>exact L8 v n 0
 ·cases g with|none=>rfl|some v=>exact L8 v n n
theorem Vm(i j:Nat):gS (i:Int) (j:Int) 1=j-i:=by
 unfold gS;let g:(1:Int) > 0:=by decide
 simp only[g,if_true,Int.ediv_one,Int.sub_add_cancel];by_cases h:(i:Int) < j
 ·rw[aH h];exact Int.toNat_sub j i
 ·rw[aB h];exact (Nat.sub_eq_zero_of_le (Io.mp (zt.mp h))).symm
theorem Pc{Q:Option Int->aj->Prop}(p:t7 v o)(h:Q o s):aF (aW prog w) A (Builtin.Slice.slicePartIndex v) Q E s:=by
 cases p with|none=>exact slicePart_none h|int i t=>exact slicePart_int h
theorem Zy{lo l:Option Int}{n:Nat}{Q:Int×Int×Nat->aj->Prop}(I:s.heap.IsSliceOf C z u .none)(H:t7 z lo)(G:t7 u l)(h:Q (((gQ n 0 lo:Nat):Int),1,gQ n n l-gQ n 0 lo) s):aF (aW prog w) A (pC (.ref C) (pure (n:Int))) Q E s:=by
 let⟨os,g,J,o⟩:=id I;unfold pC Builtin.Slice.sliceFields;refine aa (aa (cP g o (x:=z) rfl (aa (cP g o (x:=u) rfl (aa (cP g o (x:=.none) rfl (ai ?_)))))));refine aa (slicePart_none ?_)
 show aF _ _ (if ((1:Int) == 0)=θ then _ else _) _ _ s;rw[aB (by decide)];refine aa (Pc H (aa (Pc G (aa (ai ?_)))))
 show aF _ _ (match kC lo l 1 (n:Int) with|(lo,l)=>pure (lo,(1:Int),gS lo l 1)) _ _ s;rw[Xv lo l n]
 show aF _ _ (pure (((gQ n 0 lo:Nat):Int),(1:Int),gS ((gQ n 0 lo:Nat):Int) ((gQ n n l:Nat):Int) 1)) _ _ s;rw[Vm];exact ai h
theorem U4(xs:Array ae)(i k:Nat):((bU k).filterMap λ(m:Nat)=>xs[((i:Int)+(m:Int)*1).toNat]?).toArray=((xs.toList.drop i).take k).toArray:=by
 let e:(λ(m:Nat)=>xs[((i:Int)+(m:Int)*1).toNat]?)=λm=>xs[i+m]?:=by funext m;rw[JK];rfl
 rw[e];have:=pick_run xs i k;rw[List.filterMap_map]at this;exact cj _ this
theorem pv{lo l:Option Int}{Q:ae->aj->Prop}(o:A3 s.heap t items)(O:s.heap.IsSliceOf u J I .none)(pl:t7 J lo)(Y:t7 I l)(hw:¬ (gQ items.size 0 lo=0/\gQ items.size items.size l=items.size))(h:Q (.ref ↥s) { s with heap:=s.heap.push { cls:=.type "tuple",data:=.seq ((items.toList.drop (gQ items.size 0 lo)).take (gQ items.size items.size l-gQ items.size 0 lo)).toArray } })(hsz:items.size<=sizeLine):aF (aW prog w) A (sS (.ref t) (.ref u)) Q E s:=by
 let g:sizeOk (.seq ((items.toList.drop (gQ items.size 0 lo)).take (gQ items.size items.size l-gQ items.size 0 lo)).toArray):=by show ((items.toList.drop (gQ items.size 0 lo)).take (gQ items.size items.size l-gQ items.size 0 lo)).toArray.size<=sizeLine;rw[aG,cL,gq,fW];exact bH (A6 _ _) (bH (Nat.sub_le _ _) hsz)
 let hj:gQ items.size items.size l<=items.size:=W6 _ _ (aA _) l;let⟨os,z,G,hds⟩:=id O;let H:s.TypeIs (.ref u) "slice":=⟨os,z,G⟩
 unfold sS
 try with_reducible refine bT ?_
 first|refine aa (ai ?_)|skip
 refine aa (Ep o.typeIs (by decide) ?_);refine aa (cw (name:=al "__getitem__") o.typeIs oi
  (cR oi o.typeIs entry_tuple_getitem ?_ (args_tuple_getitem _ _)))
 show aF _ _ (pD (.ref t) >>= _) _ _ s;refine aa (tupleItemsOf_ o ?_);refine aa (eY H ?_);rw[aH (by decide)];refine aa (Zy O pl Y ?_);let C:¬ ((((gQ items.size 0 lo:Nat):Int) == 0&&(1:Int) == 1&&(gQ items.size items.size l-gQ items.size 0 lo) == items.size)=θ):=by intro q;rw[bo,bo]at q;let L:=Int.ofNat.inj (eq_of_beq q.1.1);let U:=eq_of_beq q.2;exact hw ⟨L,by rwa [L]at U⟩
 show aF _ _ (if (((gQ items.size 0 lo:Nat):Int) == 0&&(1:Int) == 1&&(gQ items.size items.size l-gQ items.size 0 lo) == items.size)=θ then _ else _) _ _ s;rw[aB C,U4]
 first
  |exact aa (m:=gZ _) (dk (ai ⟨_,rfl,ai h⟩) g)|exact aa (m:=gZ _) (dk (aa (ai (ai ⟨_,rfl,ai h⟩))) g)|exact aa (aa (m:=gZ _) (dk (ai (ai ⟨_,rfl,ai h⟩)) g))|exact aa (aa (m:=gZ _) (dk (ai ⟨_,rfl,ai h⟩) g))
end
end HT
namespace L2
open PySem PySem.Spec PyProof.Rows
abbrev TO:=St->Hp->(Option Int->Hp->Prop)->Prop
def PO(X:Cx)(e:Option Expr)(t:TO):Prop:=
 ∀(ah:List (ak×Obj))(s:aj)(σ:St)(H:Hp)(Q:Option Int->Hp->Prop),Inv X ah σ H s->t σ H Q ->
  aF (aW X.prog X.w) X.A (evalPart e X.env) (λu s'=>∃o g,Inv X ah σ g s'/\t7 u o/\Q o g) X.xe s
noncomputable def An:TO:=λ_ H Q=>Q ψ H
noncomputable def FS(t:TE):TO:=λσ H Q=>t σ H λx g=>∃i,x=.int i/\Q (ξ i) g
theorem Sm{ns:List Int}:∀{g:List ae},bX (ns.map V.int) g->lc g ns:=by
 induction ns with
 |nil=>intro g r;rw[m5]at r;cases r;exact .nil
 |cons n ns ih=>
  intro g r;rw[aX]at r;cases r with|cons r1 r2=>
   let⟨t,e⟩:=r1;subst e;exact .cons n t (ih r2)
section
variable{X:Cx}{te:TE}{lo hi:Option Expr}{tl th:TO}
theorem Xi:PO X ψ An:=by intro g s σ H Q I h;rw[w_];exact ai ⟨ψ,H,I,.none,h⟩
theorem RX(h:PE X e te):PO X (ξ e) (FS te):=by intro l s σ H Q I C;rw[evalPart_some];refine gH (h l s σ H _ I C) λu J g=>?_;let⟨x,G,E,o,z⟩:=g;let⟨i,rfl,q⟩:=z;let⟨t,rfl⟩:=o;exact⟨ξ i,G,E,.int i t,q⟩
def Kz(X:Cx)(r:V->Option Int->Option Int->Hp->VK->Prop):Prop:=
 ∀(ah:List (ak×Obj))(s:aj)(σ:St)(H:Hp)(x:V)(v vl vu:ae)(lo hi:Option Int)(sl:ak)(Q:VK),Inv X ah σ H s->RelV x v->s.heap.IsSliceOf sl vl vu .none->t7 vl lo->t7 vu hi->r x lo hi H Q ->
  ∃T id,cv (.type T) "__getitem__"=pure (ξ (.builtin id))/\s.TypeIs v T/\aF (aW X.prog X.w) X.A (sS v (.ref sl)) (EP X ah σ Q) X.xe s
noncomputable def Xf(r:V->Option Int->Option Int->Hp->VK->Prop)(te:TE)(tl th:TO):TE:=λσ H Q=>te σ H λx o=>tl σ o λl h=>th σ h λu g=>r x l u g Q
theorem QQ(hr:Kz X r)(he:PE X e te)(hl:PO X lo tl)(hu:PO X hi th):PE X (.Subscript e (.Slice lo hi ψ p2) pos) (Xf r te tl th):=by
 intro g s σ H Q I h;refine DB (gH (he g s σ H _ I h) λv O C=>?_);let⟨x,H1,I1,U,q1⟩:=C;refine wpAny_Slice (gH (hl g O σ H1 _ I1 q1) λG L ⟨l,H2,I2,pl,q2⟩=>gH (hu g L σ H2 _ I2 q2) λE o z=>?_);let⟨u,J,I3,pu,Y⟩:=z;rw[w_];refine ai ?_;let I4:Inv X g σ J { o with heap:=o.heap.push { cls:=.type "slice",data:=.fields #[G,E,.none] } }:=I3.kept (t':=o.toks) λb ob q=>av _ q;let⟨T,id,hT,ht,hg⟩:=hr g { o with heap:=o.heap.push { cls:=.type "slice",data:=.fields #[G,E,.none] } } σ J x v G E l u ↥o Q I4 U (sA ..) pl pu Y
 show aF (aW X.prog X.w) X.A (xj e (.Slice lo hi ψ p2) v (.ref ↥o)) (EP X g σ Q) X.xe { o with heap:=o.heap.push { cls:=.type "slice",data:=.fields #[G,E,.none] } };exact A8 (ops:=[.ref ↥o,v]) ht hT hg (by with_unfolding_all rfl)
def uN(xs:List V)(lo hi:Option Int):List V:=(xs.drop (HT.gQ ⇑xs 0 lo)).take (HT.gQ ⇑xs ⇑xs hi-HT.gQ ⇑xs 0 lo)
theorem RN(xs:List V)(lo hi:Option Int):⇑(uN xs lo hi)<=⇑xs:=by unfold uN;rw[cL,gq];ext
def N1(K:aq):V->Option Int->Option Int->Hp->VK->Prop:=λx lo hi H Q=>∃a xs,x=.ref a/\kZ K H a xs /\
 ¬ (HT.gQ ⇑xs 0 lo=0/\HT.gQ ⇑xs ⇑xs hi=⇑xs)/\∀p,H p=ψ->Q (.ref p) (eE H p (.tup (uN xs lo hi)))
theorem XC:Kz X (N1 X.K):=by
 intro l s σ H x v U O lo hi Y Q I z L E C h;let⟨a,xs,rfl,G,J,q⟩:=h;cases z;let⟨its,r,u,hz⟩:=I.tuple G;let g:its.toArray.size=⇑xs:=by rw[aG];exact r.length.symm
 refine⟨"tuple",_,oi.lookup,u.typeIs,?_⟩;refine HT.pv u L E C (by rw[g];exact J) ?_ (by rw[g];exact hz);rw[g];refine⟨.ref ↥s,_,I.laid (t':=s.toks) (o:=.tup (uN xs lo hi)) (λb ob q=>av _ q) (aA _) ?_,rfl,q _ (I.hok.fresh (aA _))⟩;exact⟨bH (RN xs lo hi) hz,_,(r.drop (HT.gQ ⇑xs 0 lo)).take (HT.gQ ⇑xs ⇑xs hi-HT.gQ ⇑xs 0 lo),ka.new _ _⟩
def EZ(K:aq):R2:=λx y H Q=>∃a b xs ys,x=.ref a/\y=.ref b/\kZ K H a xs/\kZ K H b ys/\xs≠[]/\⇑xs+⇑ys<=sizeLine /\
 (ys=[]->Q (.ref a) H)/\(ys≠[]->∀p,H p=ψ->Q (.ref p) (eE H p (.tup (xs++ys))))
theorem bX.nil_iff(r:bX xs g):g=[]↔xs=[]:=by
 cases r with|nil=>simp|cons _ _=>simp
theorem Us:OpR X (eJ .Add) (EZ X.K):=by intro C s σ H x y v u Q I J G h;let⟨a,b,xs,ys,rfl,rfl,ha,hb,Y,hz,O,L⟩:=h;cases J;cases G;let⟨its,l,U,_⟩:=I.tuple ha;let⟨E,g,p2,_⟩:=I.tuple hb;refine HT.AK U p2 (λz=>Y (l.nil_iff.mp z)) (λz=>⟨.ref a,H,I,rfl,O (g.nil_iff.mp z)⟩) (λz=>?_) (by rw[<- ⇑l,<- ⇑g];exact hz);refine⟨.ref ↥s,_,I.laid (t':=s.toks) (o:=.tup (xs++ys)) (λb ob q=>av _ q) (aA _) ?_,rfl,L (λw=>z (g.nil_iff.mpr w)) _ (I.hok.fresh (aA _))⟩;exact⟨by rw[aK];exact hz,_,l.append g,ka.new _ _⟩
end
noncomputable def sK(n:Nat)(i:Int):Option Nat:=if 0<=i then (if i < n then ξ i.toNat else ψ) else if -(n:Int)<=i then ξ (i+n).toNat else ψ
def BC{α:Type}(xs:List α)(i:Int):Option α:=(sK ⇑xs i).bind λj=>xs[j]?
theorem QO{n:Nat}{i:Int}{j:Nat}(h:sK n i=ξ j):seqIndex? i n=ξ j/\j < n /\ -(n:Int)<=i/\i < n:=by
 unfold sK at h;by_cases l:0<=i
 ·rw[aH l]at h;by_cases g:i < n
  ·rw[aH g]at h;let e:i.toNat=j:=aO h;exact⟨by rw[A9 l g,e],by ext,by ext,g⟩
  ·rw[aB g]at h;cases h
 ·rw[aB l]at h;by_cases g : -(n:Int)<=i
  ·rw[aH g]at h;let e:(i+n).toNat=j:=aO h;exact⟨by rw[zu () g,e],by ext,g,by ext⟩
  ·rw[aB g]at h;cases h
theorem Mc{α:Type}{xs:List α}{i:Int}{v:α}(h:BC xs i=ξ v):∃j,seqIndex? i ⇑xs=ξ j/\xs[j]?=ξ v/\j < ⇑xs /\ -(⇑xs:Int)<=i/\i < ⇑xs:=by
 unfold BC at h;cases e:sK ⇑xs i with|none=>rw[e]at h;cases h|some j=>
  rw[e]at h;let⟨u,o,l,g⟩:=QO e;exact⟨j,u,h,o,l,g⟩
noncomputable def rj(b:Expr):Prop:=∀o i,subscripted b ω o i=operate [o,i] (sS o i)
def IxR(X:Cx)(r:R2):Prop:=
 ∀(h g:Expr)(ah:List (ak×Obj))(s:aj)(σ:St)(H:Hp)(x y:V)(v u:ae)(Q:VK),Inv X ah σ H s->RelV x v->RelV y u->r x y H Q ->
  subscripted g ω v u=operate [v,u] (sS v u)->aF (aW X.prog X.w) X.A (xj h g v u) (EP X ah σ Q) X.xe s
def Jk(X:Cx)(id:String)(r:V->List V->Hp->VK->Prop):Prop:=
 ∀(ah:List (ak×Obj))(s:aj)(σ:St)(H:Hp)(x:V)(xs:List V)(v:ae)(us:List ae)(Q:VK),Inv X ah σ H s->RelV x v->bX xs us->r x xs H Q ->
  aF (aW X.prog X.w) X.A (call (.builtin id) (v::us)) (EP X ah σ Q) X.xe s
section
variable{X:Cx}{a b:Expr}{ta tb:TE}{pos:Pos}
theorem IxR.or{r E:R2}(h:IxR X r)(h':IxR X E):IxR X (λx y H Q=>r x y H Q\/E x y H Q):=by
 intro g l o s σ H x y v u Q I C z q G;rcases q with q|q
 ·exact h g l o s σ H x y v u Q I C z q G
 ·exact h' g l o s σ H x y v u Q I C z q G
theorem Om{r:R2}(E:IxR X r)(J:PE X a ta)(G:PE X b tb)(C:rj b):PE X (.Subscript a b pos) (GK r ta tb):=by intro g s σ H Q I h;exact DB (Ch J G I h λv u l x y O L z o q=>E a b g l σ O x y v u Q L z o q (C _ _))
def Hm(K:aq):R2:=λx y H Q=>∃p xs i v,x=.ref p/\y=.int i/\ie K H p xs/\BC xs i=ξ v/\Q v H
def Hl(K:aq):R2:=λx y H Q=>∃p xs i v,x=.ref p/\y=.int i/\kZ K H p xs/\BC xs i=ξ v/\Q v H
def Gc:R2:=λx y H Q=>∃z i c,x=.str z/\y=.int i/\⇑z<=sizeLine/\BC z.cps.toList i=ξ c/\Q (.str ⟨#[c]⟩) H
theorem OD:IxR X (Hm X.K):=by
 intro C E g s σ H x y v u Q I rx ry h O;let⟨p,xs,i,z,rfl,rfl,hq,he,q⟩:=h;cases rx;let⟨t,rfl⟩:=ry;let⟨its,r,J,hz⟩:=I.list hq;let⟨j,o,h2,h3,h4,h5⟩:=Mc he;let⟨w,Y,G⟩:=r.get h2;let hl:=⇑r;let hn:=C7;let l:EP X g σ Q w s:=⟨z,H,I,G,q⟩
 by_cases U:0<=i
 ·let L : i.toNat = j := by rw[A9 U h5]at o;exact aO o
  exact item_listR J.isList U () (by rw[L];simpa using Y) l O
 ·let L : (i+(its.toArray.size : Int)).toNat = j := by rw[zu () h4]at o;rw[aG,<- hl];exact aO o
  exact zv (x:=w) J.isList.typeIs sT.lookup
   (wpAny_getItem_list_neg (Q:=λr s'=>r=w/\EP X g σ Q r s') J.isList () (by rw[aG]<;>ext) () (by rw[L];simpa using Y) ⟨rfl,l⟩) O
theorem VF:IxR X (Hl X.K):=by
 intro l o g s σ H x y v u Q I L J h O;let⟨p,xs,i,z,rfl,rfl,U,he,q⟩:=h;cases L;let⟨t,rfl⟩:=J;let⟨its,r,G,hz⟩:=I.tuple U;let⟨j,h1,h2,h3,h4,h5⟩:=Mc he;let⟨w,ew,C⟩:=r.get h2;let Y:=⇑r;let hn:=C7;let E:EP X g σ Q w s:=⟨z,H,I,C,q⟩
 exact zv (x:=w) G.typeIs slot_tuple_getitem.lookup
  (getItem_tuple (j:=j) (Q:=λr s'=>r=w/\EP X g σ Q r s') G () () (by rw[aG,<- Y];exact h1) (by simpa using ew) ⟨rfl,E⟩) O
theorem Wl:IxR X Gc:=by
 intro g l o s σ H x y v u Q I G E h J;let⟨z,i,c,rfl,rfl,hz,O,q⟩:=h;let⟨t,rfl⟩:=G;let⟨t',rfl⟩:=E;let⟨j,C,h2,h3,Y,U⟩:=Mc O;let L:⇑z.cps.toList=⇑z:=by simp[Str.length]
 rw[L]at C Y U;let hn:=C7;exact A8 (typeIs_str s z t) slot_str_getitem.lookup (getItem_str (c:=c) (by have e1:decide (i < -(2^63:Int))=false:=aQ ();have e2:decide (i ≥ 2^63)=false:=aQ ();rw[e1,e2,pE]) (by rw[C];simpa using h2) ⟨.str ⟨#[c]⟩,H,I.tok _,⟨_,rfl⟩,q⟩) J
def SU(K:aq):R2:=λx y H Q=>Hm K x y H Q\/Hl K x y H Q\/Gc x y H Q
theorem UM:IxR X (SU X.K):=OD.or (VF.or Wl)
theorem UB(its:List ae)(n j:Nat)(u:ae):eS (·.setIfInBounds j u) { cls:=.type "list",data:=.seq its.toArray n }={ cls:=.type "list",data:=.seq (its.set j u).toArray n }:=by simp[eS]
theorem Inv.lst{g:List (ak×Obj)}{σ:St}{H:Hp}{s:aj}{p:ak}{xs:List V}(I:Inv X g σ H s)(h:H p=ξ (.lst xs)):∃(its:List ae)(n:Nat),bX xs its/\s.heap.get? p=ξ { cls:=.type "list",data:=.seq its.toArray n }/\⇑xs<=sizeLine:=by
 let⟨z,its,n,r,e⟩:=I.hok p _ h;exact⟨its,n,r,e,z⟩
theorem Inv.lstUpd{its its':List ae}{n l:Nat}{f:Obj->Obj}(I:Inv X g σ H s)(h:H p=ξ (.lst xs))(z:s.heap.get? p=ξ { cls:=.type "list",data:=.seq its.toArray n }) (o:f { cls:=.type "list",data:=.seq its.toArray n }={ cls:=.type "list",data:=.seq its'.toArray l }) (r:bX ys its') (hz:⇑ys<=sizeLine) (t:Nat):Inv X g σ (eE H p (.lst ys)) { s with heap:=s.heap.update p f,toks:=t }:=by
 let e:(s.heap.update p f).get? p=ξ { cls:=.type "list",data:=.seq its'.toArray l }:=by rw[bS f z (by rw[o]<;>rfl),o]
 refine I.write (x:=p) (e:=p) (by rw[h];trivial) (.inl rfl) (λb u C q=>(dA _ _ (du C)).trans q) ⟨_,e⟩ ?_;exact⟨hz,its',l,r,e⟩
def HA:V->V->V->Hp->(Hp->Prop)->Prop:=λo i v H Q=>∃p xs k j,o=.ref p/\i=.int k/\H p=ξ (.lst xs)/\sK ⇑xs k=ξ j/\Q (eE H p (.lst (xs.set j v)))
theorem TD:PSet X HA:=by
 intro g s σ H o i v ov iv u Q I ro ri Y h;let⟨p,xs,k,j,rfl,rfl,G,hj,q⟩:=h;cases ro;let⟨t,rfl⟩:=ri;let⟨its,n,r,z,hz⟩:=I.lst G;let⟨l,h2,L,J⟩:=QO hj;let C:=⇑r;let hn:=C7;let U:Inv X g σ (eE H p (.lst (xs.set j v))) { s with heap:=s.heap.update p (eS (·.setIfInBounds j u)) }:=
  I.lstUpd G z (UB its n j u) (r.set Y j) (by rw[cJ];exact hz) s.toks
 by_cases O:0<=k
 ·let E : k.toNat = j := by rw[A9 O J]at l;exact aO l
  exact PySem.W.ki_setAt z O () (by rw[aG,<- C];exact J) (by rw[E];exact⟨_,U,q⟩)
 ·let E : (k+(its.toArray.size : Int)).toNat = j := by rw[zu () L]at l;rw[aG,<- C];exact aO l
  exact PySem.W.ki_setBack z () (by rw[aG,<- C];exact L) () (by rw[E];exact⟨_,U,q⟩)
theorem Qcp(lo g:Option Int)(n:Nat):(kj lo g ψ n).1=((HT.gQ n 0 lo:Nat):Int)/\(kj lo g ψ n).2.1=((HT.gQ n n g:Nat):Int)/\(kj lo g ψ n).2.2=1:=by
 refine⟨?_,?_,rfl⟩
 ·cases lo with|none=>rfl|some i=>exact HT.xW i n 0
 ·cases g with|none=>rfl|some i=>exact HT.xW i n n
theorem ZS(its:List ae)(lo g:Option Int):xK its.toArray lo g ψ=((its.drop (HT.gQ ⇑its 0 lo)).take (HT.gQ ⇑its ⇑its g-HT.gQ ⇑its 0 lo)).toArray:=by let⟨o,l,h⟩:=Qcp lo g its.toArray.size;unfold xK;rw[o,l,h];simp only[sliceRange_one,pick_run,aG]<;>rfl
def Gs(K:aq):V->Option Int->Option Int->Hp->VK->Prop:=λx lo g H Q=>∃a xs,x=.ref a/\ie K H a xs/\∀p,H p=ψ->Q (.ref p) (eE H p (.lst (uN xs lo g)))
theorem U1:Kz X (Gs X.K):=by intro u s σ H x v U O lo l Y Q I C L G E h;let⟨a,xs,rfl,J,q⟩:=h;cases C;let⟨its,r,z,hz⟩:=I.list J;let g:=⇑r;refine⟨"list",_,sT.lookup,z.isList.typeIs,?_⟩;refine xm z.isList L G E .none (by simp) ?_ (by rw[aG]<;>ext);rw[ZS,<- g];refine⟨.ref ↥s,_,I.laid (t':=s.toks) (o:=.lst (uN xs lo l)) (λb ob q=>av _ q) (aA _) ?_,rfl,q _ (I.hok.fresh (aA _))⟩;exact⟨bH (RN xs lo l) hz,_,0,(r.drop (HT.gQ ⇑xs 0 lo)).take (HT.gQ ⇑xs ⇑xs l-HT.gQ ⇑xs 0 lo),aM _ rfl⟩
noncomputable def oq:V->Bool
 | .non=>θ| .bl _=>θ| .int _=>θ| .str _=>θ|_=>ω
noncomputable def AX:V->V->Bool
 | .non,.non=>θ| .bl a,.bl b=>a == b| .bl a,.int b=>(if a then 1 else 0) == b| .int a,.bl b=>a == (if b then 1 else 0)| .int a,.int b=>a == b| .str a,.str b=>a == b|_,_=>ω
theorem Xt(h:RelV y u)(g:RelV x v)(o:oq y=θ)(l:oq x=θ):Ip A s u v (AX y x):=by
 cases y with
 |non=>
  cases h;cases x with|non=>cases g;exact Ip.same _|bl b=>cases g;exact Ip.none_bool b|int b=>let⟨t,rfl⟩:=g;exact Ip.none_int b t|str b=>let⟨t,rfl⟩:=g;exact Ip.none_str b t|_=>exact bw (show ω=θ from l) bc
 |bl a=>
  cases h;cases x with|non=>cases g;exact Ip.bool_none a|bl b=>cases g;exact Ip.bool_bool a b|int b=>let⟨t,rfl⟩:=g;exact Ip.bool_int a b t|str b=>let⟨t,rfl⟩:=g;exact Ip.bool_str a b t|_=>exact bw (show ω=θ from l) bc
 |int a=>
  let⟨t',rfl⟩:=h;cases x with|non=>cases g;exact Ip.int_none a t'|bl b=>cases g;exact Ip.int_bool a t' b|int b=>let⟨t,rfl⟩:=g;exact Ip.int_int a t' b t|str b=>let⟨t,rfl⟩:=g;exact uh a t' b t|_=>exact bw (show ω=θ from l) bc
 |str a=>
  let⟨t',rfl⟩:=h;cases x with|non=>cases g;exact Ip.str_none a t'|bl b=>cases g;exact Ip.str_bool a t' b|int b=>let⟨t,rfl⟩:=g;exact ui a t' b t|str b=>let⟨t,rfl⟩:=g;exact Ip.str_str a t' b t|_=>exact bw (show ω=θ from l) bc
 |_=>exact bw (show ω=θ from o) bc
def vn(x:V)(u:ae):Bool:=match u with| .none=>AX .non x| .bool b=>AX (.bl b) x| .int i _=>AX ↑i x| .str z _=>AX (.str z) x|_=>ω
theorem Qq(r:RelV y u)(f:oq y=θ):vn x u=AX y x:=by
 cases y with|non=>cases r;rfl|bl b=>cases r;rfl|int i=>let⟨t,rfl⟩:=r;rfl|str z=>let⟨t,rfl⟩:=r;rfl|_=>exact bw (show ω=θ from f) bc
theorem JF(h:bX xs g)(f:xs.all oq=θ):g.any (vn x)=xs.any λy=>AX y x:=by
 induction h with|nil=>rfl|cons r t ih=>
  rw[bO,bo]at f;rw[dw,dw,Qq r f.1,ih f.2]
theorem Hq(h:RelV x v)(l:oq x=θ):∀{xs:List V}{g:List ae},bX xs g->xs.all oq=θ->∀u∈g,Ip A s u v (vn x u)
 |_,_,.nil,_=>λu hu=>by cases hu
 |y::xs,u::g,.cons r t,f=>λu' hu=>by
  rw[bO,bo]at f;rcases a_.mp hu with rfl|hu
  ·rw[Qq r f.1];exact Xt r h f.1 l
  ·exact Hq h l t f.2 u' hu
def JG(x:V)(xs:List V):Bool:=xs.any λy=>AX y x
def Jf(K:aq)(g:Bool):R2:=λx y H Q=>∃p xs,y=.ref p/\(ie K H p xs\/kZ K H p xs)/\oq x=θ/\xs.all oq=θ/\Q (.bl (if g then !JG x xs else JG x xs)) H
theorem Qcw:OpR X (cq .In) (Jf X.K ω):=by
 intro C s σ H x y v u Q I z G h;let⟨p,xs,rfl,g,E,fs,q⟩:=h;cases G;rcases g with g|g
 ·let⟨its,r,l,hz⟩:=I.list g;refine SeqAt.in_listAt (vn x) l.isList (λw o=>Hq z E r fs w (by simpa using o)) ⟨.bl _,H,I,rfl,?_⟩;rw[show its.toArray.any (vn x)=its.any (vn x) by simp,JF r fs];exact q
 ·let⟨its,r,l,hz⟩:=I.tuple g;refine SeqAt.in_tupleAt (vn x) l (λw o=>Hq z E r fs w (by simpa using o)) ⟨.bl _,H,I,rfl,?_⟩;rw[show its.toArray.any (vn x)=its.any (vn x) by simp,JF r fs];exact q
theorem Qcx:OpR X (cq .NotIn) (Jf X.K θ):=by
 intro C s σ H x y v u Q I z G h;let⟨p,xs,rfl,g,E,fs,q⟩:=h;cases G;rcases g with g|g
 ·let⟨its,r,l,hz⟩:=I.list g;refine SeqAt.notIn_listAt (vn x) l.isList (λw o=>Hq z E r fs w (by simpa using o)) ⟨.bl _,H,I,rfl,?_⟩;rw[show its.toArray.any (vn x)=its.any (vn x) by simp,JF r fs];exact q
 ·let⟨its,r,l,hz⟩:=I.tuple g;refine SeqAt.notIn_tupleAt (vn x) l (λw o=>Hq z E r fs w (by simpa using o)) ⟨.bl _,H,I,rfl,?_⟩;rw[show its.toArray.any (vn x)=its.any (vn x) by simp,JF r fs];exact q
theorem Qcy:CallR X (.builtin "len") (λxs H Q=>∃p ys,xs=[.ref p]/\(ie X.K H p ys\/kZ X.K H p ys)/\Q (.int ⇑ys) H):=by
 intro C s σ H xs G Q I r h;let⟨p,ys,rfl,l,q⟩:=h;let⟨u,rfl,E⟩:=vx r;cases E;let J:=C7;rcases l with l|l
 ·let⟨its,o,z,hz⟩:=I.list l;let g:=⇑o;exact Calls.call_len_list z.isList (by simp only[aG]<;>ext) ⟨.int ⇑ys,H,I.tok _,⟨s.toks+1,by rw[aG,g]⟩,q⟩
 ·let⟨its,o,z,hz⟩:=I.tuple l;let g:=⇑o;exact len_tuple z (by simp only[aG]<;>ext) ⟨.int ⇑ys,H,I.tok _,⟨s.toks+1,by rw[aG,g]⟩,q⟩
theorem Vs:CallR X (.builtin "len") (λxs H Q=>∃z,xs=[.str z]/\⇑z<=sizeLine/\Q (.int ⇑z) H):=by intro g s σ H xs l Q I r h;let⟨z,rfl,hz,q⟩:=h;let⟨u,rfl,t,rfl⟩:=vx r;let o:=C7;exact len_str () ⟨.int ⇑z,H,I.tok _,⟨_,rfl⟩,q⟩
theorem CallR.or{r o:List V->Hp->VK->Prop}(h:CallR X f r)(h':CallR X f o):CallR X f (λxs H Q=>r xs H Q\/o xs H Q):=by
 intro g s σ H xs l Q I rs q;rcases q with q|q
 ·exact h g s σ H xs l Q I rs q
 ·exact h' g s σ H xs l Q I rs q
theorem QcA:CallR X (.type "list") (λxs H Q=>∃p ys,xs=[.ref p]/\(ie X.K H p ys\/kZ X.K H p ys)/\∀l,H l=ψ->Q (.ref l) (eE H l (.lst ys))):=by
 intro C s σ H xs us Q I r h;let⟨p,ys,rfl,E,q⟩:=h;let⟨u,rfl,Y⟩:=vx r;cases Y;let J : ∀(its : List ae), bX ys its -> ⇑ys <= sizeLine -> ∀(h' : bC)(z : Nat), (∀b o', s.heap.get? b = ξ o' -> h'.get? b = ξ o') ->
   h'.get? ↥s=ξ { cls:=.type "list",dict:=ψ,data:=.seq its.toArray z,slots:=#[] }->EP X C σ Q (.ref ↥s) { s with heap:=h' }:=λits g hz h' z kp e=>
  ⟨.ref ↥s,_,I.laid (t':=s.toks) kp (aA _) (show dQ X.prog X.w _ h' _ (.lst ys) from ⟨hz,its,z,g,e⟩),rfl,q _ (I.hok.fresh (aA _))⟩
 rcases E with E|E
 ·let⟨its,g,L,hz⟩:=I.list E;let G:=⇑g;let⟨o,O,U,n,hd⟩:=L.isList;exact call_list_seq p (.inl rfl) O U hd (λh' z kp e=>J its g hz h' z kp e) (by simp only[aG]<;>ext)
 ·let⟨its,g,L,hz⟩:=I.tuple E;let G:=⇑g;let⟨o,O,U,n,hd⟩:=L;exact call_list_seq p (.inr rfl) O U hd (λh' z kp e=>J its g hz h' z kp e) (by simp only[aG]<;>ext)
theorem Sj:CallR X (.type "tuple") (λxs H Q=>∃p ys,xs=[.ref p]/\((ie X.K H p ys/\∀l,H l=ψ->Q (.ref l) (eE H l (.tup ys)))\/(kZ X.K H p ys/\Q (.ref p) H))):=by
 intro g s σ H xs U Q I r h;let⟨p,ys,rfl,h⟩:=h;let⟨u,rfl,L⟩:=vx r;cases L;rcases h with ⟨E,q⟩|⟨E,q⟩
 ·let⟨its,z,C,hz⟩:=I.list E;let G:=⇑z;refine call_tuple_list C.isList (λh' kp=>?_) (by simp only[aG]<;>ext);let J:Inv X g σ H { s with heap:=h' }:=I.kept (t':=s.toks) kp;let O:Inv X g σ (eE H h'.objs.size (.tup ys)) { s with heap:=h'.push { cls:=.type "tuple",data:=.seq its.toArray } }:=
   J.laid (t':=s.toks) (λb o e=>av _ e) (aA _) (show dQ X.prog X.w _ _ _ (.tup ys) from ⟨hz,its,z,ka.new _ _⟩)
  exact⟨.ref h'.objs.size,_,O,rfl,q _ (J.hok.fresh (aA _))⟩
 ·let⟨its,z,C,hz⟩:=I.tuple E;exact call_tuple_same C ⟨.ref p,H,I,rfl,q⟩
def Nl(K:aq)(T:String)(x:V)(H:Hp):Prop:=match x with
 | .str _=>T="str"| .int _=>T="int"
 | .ref p => (T = "list" /\ ∃xs, ie K H p xs) \/ (T = "tuple" /\ ∃o, K.lookup p = ξ o /\ o.cls = .type "tuple" /\ o.dict = ψ) \/
   (T="dict"/\((∃g,H p=ξ (.dK g))\/∃g,H p=ξ (.dT g)))\/(T="set"/\∃S n,H p=ξ (.set S n))
 |_=>False
theorem Q8(I:Inv X h σ H s)(r:RelV x v)(ty:Nl X.K T x H):s.TypeIs v T/\∀a,v=.ref a->∃ob,s.heap.get? a=ξ ob/\ob.dict=none:=by
 cases x with
 |str z=>
  let⟨t,rfl⟩:=r;cases (show T="str" from ty);exact⟨typeIs_str s z t,λ_ e=>(by cases e)⟩
 |int i=>
  let⟨t,rfl⟩:=r;cases (show T="int" from ty);exact⟨mH s i t,λ_ e=>(by cases e)⟩
 |ref p=>
  cases r;rcases ty with ⟨rfl,xs,E⟩|⟨rfl,o,g,G,hd⟩|⟨rfl,g⟩|⟨rfl,S,n,g⟩
  ·let⟨its,_,C,_⟩:=I.list E;refine⟨C.isList.typeIs,λa e=>?_⟩;cases e;let⟨o,n,e,c,hd,_⟩:=C;exact⟨o,e,hd⟩
  ·refine⟨⟨o,I.kIn p o g,G⟩,λa e=>?_⟩;cases e;exact⟨o,I.kIn _ o g,hd⟩
  ·let z : ∃o, s.heap.get? p = ξ o /\ o.ExactDict := by
     rcases g with ⟨l,g⟩|⟨l,g⟩
     ·let⟨_,_,_,_,o,_,_,e,ex,_⟩:=I.hok p _ g;exact⟨o,e,ex⟩
     ·let⟨_,_,_,_,o,_,_,e,ex,_⟩:=I.hok p _ g;exact⟨o,e,ex⟩
   let⟨o,e,ex⟩:=z;refine⟨⟨o,e,ex.1⟩,λa u=>?_⟩;cases u;exact⟨o,e,ex.2.1⟩
  ·let⟨o,_,_,_,e,ex,_⟩:=I.hok p _ g;refine⟨⟨o,e,ex.1⟩,λa u=>?_⟩;cases u;exact⟨o,e,ex.2.1⟩
 |_=>exact cZ ty
def Mt(K:aq)(T:String)(r:V->List V->Hp->VK->Prop)(to:TE):TE:=λσ H Q=>to σ H λx g=>Nl K T x g/\r x [] g Q
def tBM(K:aq)(T:String)(r:V->List V->Hp->VK->Prop)(to:TE)(t:TA):TE:=λσ H Q=>to σ H λx g=>Nl K T x g/\t σ g λxs h=>r x xs h Q
variable{o e:Expr}{es:List Expr}{to:TE}{t:TA}{name:Str}{cy b3:Pos}{T id:String}{r:V->List V->Hp->VK->Prop}
theorem Rn(O:PlainAttrs T)(slot:Slot T name id)(C:zw (.builtin id)=pure (.type "method_descriptor"))(Y:Jk X id r)(U:PE X o to)(u:cG o name X.env (eval o X.env)=eval o X.env:=by rfl) (l:(cy.endLine == b3.line)=true:=by rfl):PE X (.Call (.Attribute o name cy) [] [] b3) (Mt X.K T r to):=by
 intro g s σ H Q I h;refine wpAny_Call_method0_late u l (gH (U g s σ H _ I h) λv J z=>?_);let⟨x,H1,G,E,ty,L⟩:=z;let⟨h1,h2⟩:=Q8 G E ty;exact⟨T,id,O,slot,C,h1,h2,mU rfl (PySem.evalArgs_none (Y g J σ H1 x [] v [] Q G E .nil L))⟩
theorem Wm(pa:PlainAttrs T)(slot:Slot T name id)(J:zw (.builtin id)=pure (.type "method_descriptor"))(hm:Jk X id r)(ho:PE X o to)(ha:PA X (e::es) t)(z:cG o name X.env (eval o X.env)=eval o X.env:=by rfl)
  (G:((dF b3 (az (e::es) X.env)).all (λx => !x.1)&&(oh b3 (ki [] X.env)).all (λx=>x.1.isSome)
   && decide (⇑(e::es)+⇑([]:List io)+(if ([]:List io).isEmpty then 0 else 1) < 30))=true:=by rfl)
  (u:(cy.endLine == b3.line)=true:=by rfl) (hs:az (e::es) X.env=(ω,eval e X.env)::az es X.env:=by rfl) (l:(dF b3 (az es X.env)).any (·.1)=false:=by rfl):
  PE X (.Call (.Attribute o name cy) (e::es) [] b3) (tBM X.K T r to t):=by
 intro g s σ H Q I h;refine zx z G u rfl (gH (ho g s σ H _ I h) λv s1 E=>?_);let⟨x,H1,U,L,ty,q1⟩:=E;let⟨h1,h2⟩:=Q8 U L ty;refine⟨T,id,pa,slot,J,h1,h2,?_⟩;let O:=ha b3 g s1 σ H1 _ U q1;rw[hs]at O ⊢;refine mU (by show (ω||(dF b3 (az es X.env)).any (·.1))=ω;rw[l]<;>rfl) (vK ?_);exact gH O λY s2 C=>by let⟨vs,H2,I2,r2,q2⟩:=C;exact hm g s2 σ H2 x vs v Y Q I2 L r2 q2
end
def Ms(X:Cx)(id:String)(r:V->List V->Hp->VK->Prop):Prop:=
 ∀(ah:List (ak×Obj))(s:aj)(σ:St)(H:Hp)(x:V)(xs:List V)(v:ae)(us:List ae)(Q:VK),Inv X ah σ H s->RelV x v->bX xs us->r x xs H Q ->
  aF (aW X.prog X.w) X.A (call (.builtin id) (v::us)) (EP X ah σ Q) X.xe s
theorem bX.one(h:bX [x] g):∃u,g=[u]/\RelV x u:=by
 cases h with|cons r h=>cases h;exact⟨_,rfl,r⟩
theorem bX.two(h:bX [x,y] g):∃u v,g=[u,v]/\RelV x u/\RelV y v:=by
 cases h with
 |cons r h=>cases h with|cons q h=>cases h;exact⟨_,_,rfl,r,q⟩
theorem bX.zero:∀{g:List ae},bX [] g->g=[]
 |_,.nil=>rfl
theorem bX.dropLast(h:bX xs g):bX xs.dropLast g.dropLast:=by
 induction h with|nil=>exact .nil|cons r t ih=>
  cases t with|nil=>exact .nil|cons q t'=>exact .cons r ih
theorem bX.reverse(h:bX xs g):bX xs.reverse g.reverse:=by
 induction h with|nil=>exact .nil|cons r t ih=>rw[fK,fK];exact bX.append ih (.cons r .nil)
theorem bX.rep(h:bX xs g):∀k:Nat,bX (aE k xs).flatten (aE k g).flatten
 |0=>.nil|k+1=>by rw[c_,c_,fL,fL];exact bX.append h (bX.rep h k)
theorem QcF{α:Type}(l:List α):l.eraseIdx (⇑l-1)=l.dropLast:=by
 induction l with|nil=>rfl|cons a r ih=>
  cases r with|nil=>rfl|cons b r=>
   let e:⇑(a::b::r)-1=(⇑(b::r)-1)+1:=by have h:⇑(a::b::r)=⇑r+2:=rfl;have g:⇑(b::r)=⇑r+1:=rfl;ext
   rw[e,List.eraseIdx_cons_succ,ih]
   all_goals rfl
theorem Mx(its:List ae): ∀(k:Nat)(g:List ae),m6 (λl h=>l++h) g.toArray (aE k its.toArray)=(g++(aE k its).flatten).toArray
 |0,g=>by simp
 |k+1,g=>by
  let e:g.toArray++its.toArray=(g++its).toArray:=by simp
  let o:(g++its)++(aE k its).flatten=g++(aE (k+1) its).flatten:=by rw[c_,fL,bF]
  rw[<- o,<- Mx its k (g++its),<- e,c_,A_]
section
theorem Inv.lset{its its':List ae}{n:Nat}{f:Array ae->Array ae}{t':Nat}(I:Inv X ah σ H s)(z:H l=ξ (.lst xs))(e:s.heap.get? l=ξ { cls:=.type "list",data:=.seq its.toArray n }) (h:f its.toArray=its'.toArray) (g:bX ys its') (hz:⇑ys<=sizeLine):Inv X ah σ (eE H l (.lst ys)) { s with heap:=s.heap.update l (eS f),toks:=t' }:=by
 let q:=PySem.IsL.update e f;rw[h]at q;refine I.write (x:=l) (e:=l) (by rw[z];exact trivial) (.inl rfl) (λC u o hu=>(dA s.heap (eS f) (du o)).trans hu) ⟨_,q⟩ ?_;exact⟨hz,its',_,g,q⟩
theorem Inv.lnew{t':Nat}(I:Inv X ah σ H s)(g:bX ys its)(hz:⇑ys<=sizeLine):Inv X ah σ (eE H ↥s (.lst ys)) { s with heap:=s.heap.push { cls:=.type "list",data:=.seq its.toArray },toks:=t' }:=
 I.laid (λ_ _ q=>av _ q) (aA _) ⟨hz,its,0,g,aM _ rfl⟩
theorem Inv.fresh(I:Inv X ah σ H s):H ↥s=none:=I.hok.fresh (aA _)
theorem Inv.lstM(I:Inv X ah σ H s)(g:H l=ξ (.lst xs)):⇑xs<=sizeLine/\∃(its:List ae)(n:Nat),bX xs its/\⇑xs=⇑its/\s.heap.get? l=ξ { cls:=.type "list",data:=.seq its.toArray n }:=by let⟨z,its,n,r,e⟩:=I.hok l _ g;exact⟨z,its,n,r,⇑r,e⟩
theorem UD{n:Nat}(h:n<=sizeLine):kK n=false:=by unfold kK;exact aQ ()
end
section
def AL:V->List V->Hp->VK->Prop:=λx vs H Q=>∃l xs y,x=.ref l/\vs=[y]/\H l=ξ (.lst xs)/\⇑xs < sizeLine/\Q .non (eE H l (.lst (xs++[y])))
theorem Su:Ms X "list.append" AL:=by intro g s σ H x vs v J Q I C E h;let⟨l,xs,y,rfl,rfl,o,hz,q⟩:=h;cases C;let⟨u,rfl,G⟩:=E.one;let⟨z,its,n,r,L,e⟩:=I.lstM o;refine iB F.slot_list_append ⟨_,e,rfl⟩ F.entry_list_append (F.args_list_append_2 _ _) (PySem.list_append l its.toArray n u (by rw[aG];ext)) ⟨e,?_⟩;refine⟨.non,_,I.lset (its':=its++[u]) o e (by simp) (r.append (.cons G .nil)) ?_,rfl,q⟩;rw[aK,fm];ext
def Nu:V->List V->Hp->VK->Prop:=λx vs H Q=>∃l xs y,x=.ref l/\vs=[]/\H l=ξ (.lst xs)/\xs[⇑xs-1]?=ξ y/\Q y (eE H l (.lst xs.dropLast))
theorem QcJ:Ms X "list.pop" Nu:=by
 intro C s σ H x vs v Y Q I G J h;let⟨l,xs,y,rfl,rfl,E,O,q⟩:=h;cases G;let o:=J.zero;subst o;let⟨z,its,n,r,U,e⟩:=I.lstM E;let⟨u,hu,L⟩:=r.get O;let g:its.toArray[its.toArray.size-1]?=ξ u:=by show its.toArray[⇑its-1]?=ξ u;rw[<- ff,<- U];exact hu
 refine iB F.slot_list_pop ⟨_,e,rfl⟩ F.entry_list_pop (F.args_list_pop_1 _) (MeetsSeq.list_pop_last l its.toArray n u g (by rw[aG];ext)) ⟨e,?_⟩;refine⟨y,_,I.lset (its':=its.dropLast) E e ?_ r.dropLast ?_,L,q⟩
 ·show its.toArray.eraseIdxIfInBounds (its.toArray.size-1)=its.dropLast.toArray;rw[aG,List.eraseIdxIfInBounds_toArray,QcF]
 ·rw[wB];ext
def Ci:V->List V->Hp->VK->Prop:=λx vs H Q=>∃l xs,x=.ref l/\vs=[]/\H l=ξ (.lst xs)/\Q .non (eE H l (.lst []))
theorem QcK:Ms X "list.clear" Ci:=by intro o s σ H x vs v G Q I C E h;let⟨l,xs,rfl,rfl,u,q⟩:=h;cases C;let g:=E.zero;subst g;let⟨z,its,n,r,J,e⟩:=I.lstM u;refine iB F.slot_list_clear ⟨_,e,rfl⟩ F.entry_list_clear (F.args_list_clear_1 _) (AutoSeq1.list_clear_list_0 l its.toArray n (by rw[aG];ext)) ⟨e,?_⟩;exact⟨.non,_,I.lset (its':=[]) (ys:=[]) u e rfl .nil (bn _),rfl,q⟩
def J9:R2:=λx y H Q=>∃l b xs zs,x=.ref l/\y=.ref b/\H l=ξ (.lst xs)/\H b=ξ (.lst zs)/\⇑xs+⇑zs<=sizeLine/\∀p,H p=ψ->Q (.ref p) (eE H p (.lst (xs++zs)))
theorem UG:OpR X (eJ .Add) J9:=by
 intro o s σ H x y v u Q I E C h;let⟨l,b,xs,zs,rfl,rfl,L,O,hz,q⟩:=h;cases E;cases C;let⟨z,its,n,r,hl,e⟩:=I.lstM L;let⟨z2,g,n2,G,J,Y⟩:=I.lstM O;refine PySem.P.add_list e Y ?_ (by rw[aG,aG];ext);let U:its.toArray++g.toArray=(its++g).toArray:=by simp
 rw[U];exact⟨.ref _,_,I.lnew (t':=s.toks) (r.append G) (by rw[aK];ext),rfl,q _ I.fresh⟩
def Nw:R2:=λx y H Q=>∃l k xs,x=.ref l/\y=.int k/\H l=ξ (.lst xs) /\ -(2^63)<=k/\k < 2^63/\⇑xs*k.toNat<=sizeLine /\
 ∀p,H p=ψ->Q (.ref p) (eE H p (.lst (aE k.toNat xs).flatten))
theorem RM{α:Type}(xs:List α)(k:Nat):⇑(aE k xs).flatten=k*⇑xs:=by
 induction k with|zero=>simp|succ k ih=>rw[c_,fL,aK,ih,lA,Nat.add_comm]
theorem XY:OpR X (eJ .Mult) Nw:=by
 intro O s σ H x y v u Q I rx Y h;let⟨l,k,xs,rfl,rfl,hH,h1,h2,hz,q⟩:=h;cases rx;let⟨t,rfl⟩:=Y;let⟨z,its,n,r,hl,e⟩:=I.lstM hH;let C:its.toArray.size*k.toNat<=sizeLine:=by rw[aG,<- hl];exact hz
 let G:¬ its.toArray.size*k.toNat > (2^63-1) / 8:=by
  have:(sizeLine:Nat)<=(2^63-1) / 8:=by decide
  ext
 let E:¬ (!Builtin.List.listFitsIndex k)=true:=by rw[fitsIndex_both h1 h2];exact bc
 let g:¬ kK (its.toArray.size*k.toNat)=true:=by rw[UD C];exact bc
 let o:m6 (λL J=>L++J) #[] (aE (if its.toArray.isEmpty=θ then 0 else k.toNat) its.toArray)=(aE k.toNat its).flatten.toArray:=by
  let f0:∀m:Nat,m6 (λL J=>L++J) #[] (aE m its.toArray)=(aE m its).flatten.toArray:=λm=>by have:=Mx its m [];rw[sB]at this;exact this
  rw[f0];cases its with|nil=>simp|cons a r'=>rw[aB (by simp)]
 refine mV (T:="list") (U:="int") (by decide) ⟨_,e,rfl⟩ (λs'=>mH s' k t) noFill_list_mul t8 iW repeat_list sU.lookup
  (iB iW (mH s k t) sV (rZ _ _) (int___rmul___int_list k t l its.toArray n)
   ⟨e,rfl,⟨_,e,rfl⟩,iB F.slot_list_mul ⟨_,e,rfl⟩ F.entry_list_mul (F.args_list_mul_2 _ _) (AutoListH.list___mul___list_int_3 l its.toArray n k t E G g) ⟨e,?_⟩⟩)
 rw[o];exact⟨.ref _,_,I.lnew (t':=s.toks) (r.rep k.toNat) (by rw[RM,gN];exact hz),rfl,q _ I.fresh⟩
end
section
theorem QcO{a c n:Nat}(g:a<=c)(o:c<=n):kj (ξ (a:Int)) (ξ (c:Int)) ψ n=((a:Int),(c:Int),1):=by
 simp only[kj,Option.getD_none];let l:¬ ((a:Int) < 0):=by ext
 let h:¬ ((c:Int) < 0):=by ext
 simp only[l,h,if_false,show (1:Int) > 0 by decide,if_true];congr 1
 ·ext
 ·congr 1;ext
end
end L2
namespace Att
open PySem PySem.W PySem.Calls PyProof.Rows
theorem V4:∀(ns:List Int)(vs:List ae),WellAll P h vs (ns.map JL)->lc vs ns:=by
 intro ns
 induction ns with
 |nil=>
  intro vs w;rw[m5]at w;cases w;exact .nil
 |cons n ns ih=>
  intro vs w;rw[aX]at w;cases w with|cons a b=>
   cases a;exact .cons _ _ (ih _ b)
theorem Xl{l:OpenLaw}{n:Nat}(J:l.most=ξ n)(o:l.row.toRowW.claim.pre args=θ) (E:WellAll P h g args):∃a vs ns,g=[aC a]/\args=[WData.list (ns.map JL)]/\h.get? a=ξ { cls:=.type "list",data:=.seq vs.toArray }/\lc vs ns/\⇑ns<=n:=by
 let G:WShape.hasAll [] args [.list .int]=true:=(pre_splitW o).1;let H:l.pre.holds [] { args:=args }=true:=(pre_splitW o).2;let⟨d,r,rfl,Q,O⟩:=hasAllW_cons G;obtain rfl:=hasAllW_nil O;let⟨xs,rfl,L⟩:=hasW_list Q;let⟨ns,rfl⟩:=items_int L;let u:⇑ns<=n:=by
  unfold OpenLaw.pre at H;let C:(WTm.not (.lt (.lit ↑(n:Int)) (.len (.arg 0)))).holds [] { args:=[.list (ns.map .int)] }=true:=by have C:=(holds_andW H).1;rw[J]at C;exact C
  let z:=condW_of C (w_not (w_lt w_lit (w_len_list (w_arg rfl))));rw[af]at z;refine r8 λq=>?_;let I:(n:Int) < ((⇑ns:Nat):Int):=by ext
  first
   | (rw[bV I]at z;exact bw z (by decide))| (simp at z;ext)
 cases E with|cons w1 w2=>
  cases w2;cases w1 with|list ho hall=>exact⟨_,_,ns,rfl,rfl,ho,V4 ns _ hall,u⟩
theorem Z9(l:OpenLaw)(args:List WData):l.row.toRowW.claim.post args (.bool θ) args=true:=
 postW_of (r:=l.row.toRowW) (X:=(θ == θ))
  (show Er [] (.bool θ) .bool=θ by first|rfl|decide|simp[Er,WShape.arms,WShape.armsAll])
  (show (WTm.eq .res (.lit (.bool θ))).value [] { args:=args,res:=ξ (.bool θ),after:=args }=ξ (.bool (θ == θ)) from w_eq_bool (w_res rfl) w_lit) rfl
theorem uA{l:OpenLaw}{n:Nat}{YP:bJ->bC->Prop}{d:DefRec}(hn:l.most=ξ n) (U:d.params.defaults=[])(call:∀(w:bJ)(s₀ s₁:aj)(mg L:Str->Option ae)(H:ak)(o:Obj)(J I u:ae)(a:ak)(vs:List ae)(ns:List Int),Ground q g [] XP w s₀ mg L s₁.heap->YP w s₁.heap ->s₁.heap.get? H=ξ o->o.data=.func (docDef d.name d.params d.body d.scope J I u)->s₁.heap.CodeRec I d.name->mg d.name=ξ (.ref H) ->s₁.heap.get? a=ξ { cls:=.type "list",data:=.seq vs.toArray }->lc vs ns->⇑ns<=n->s₁.gens=#[] ->l_ (aW l.prog w) qH (.call (.ref H) ⟨[.ref a],[]⟩) (λr s'=>r=.ok (.ret (.bool θ))/\OldK s₁.heap s'.heap/\s'.os=s₁.os/\mZ s'.gens) s₁):WalkO q g XP YP l.row.toRowW d [] (λf vs=>sW f vs):=by
 intro w s₀ s₁ mg L G Y H o J I u dV kV ho hd hcd hD Q hg args vals as z hlay hrd O hlo;obtain rfl:dV=.none:=Dflts.none hD U;obtain rfl:kV=.none:=Dflts.noKw hD;let⟨a,vs,ns,rfl,rfl,C,h,E⟩:=Xl hn z O;refine enter_call (ma (call w s₀ s₁ mg L H o J I u a vs ns G Y ho (fd_plain hd) hcd Q C h E hg) λr s' hq=>?_);let⟨rfl,h2,h3,h4⟩:=hq;exact⟨.inl ⟨.bool θ,.bool θ,[],rfl,λ_=>rfl,.bool θ,Z9 l _,λ_=>⟨List.Pairwise.nil,λ_ hm=>(by cases hm)⟩⟩,h2,h3,h4⟩
end Att
namespace L2
open PySem PySem.Spec PyProof.Rows
theorem Wx(h:lc vs ns):bX (ns.map V.int) vs:=by
 induction h with|nil=>exact .nil|cons n t h ih=>exact .cons ⟨t,rfl⟩ ih
noncomputable def xU(H:Hp):Prop:=∀b,H b=ψ\/∃o xs,H b=ξ (.frz o (.lst xs))
theorem TU{K:aq}{k:Nat}{s₁:aj}{vs:List ae}(KX:K.In s₁.heap) (U:s₁.heap.Ns bN mg) (l:s₁.heap.Ns rV mb) (hbb:∀x:Str,x≠"__name__"->mb x=b5 x) (Y:s₁.heap.NoLimit) (hg:s₁.gens=#[])(ha:s₁.heap.get? a=ξ { cls:=.type "list",data:=.seq vs.toArray }) (hi:lc vs ns) (hl:⇑ns<=sizeLine) (hr:gJ k qH)(F:∀base:bC,K.In base->base.Ns bN mg->iz P w K mg base CX k fa fd [x] sp) (G:∀(s:aj)(u:ae),sR s fd ⟨[u],[]⟩ [(x,u)])(hsp:∀H:Hp,xU H->ie K H a (ns.map V.int)->sp [.ref a] H (λv _=>v=.bl θ) λ_ _ _=>False)(hCX:∀H e s',CX [] H s₁ (λ_ _ _=>False) e s'->False):l_ (aW P w) qH (.call (.ref fa) ⟨[.ref a],[]⟩) (λr s'=>r=.ok (.ret (.bool θ))/\OldK s₁.heap s'.heap/\s'.os=s₁.os/\mZ s'.gens) s₁:=by
 let rv:=Wx hi;let L:=⇑hi;let E : ∀H : Hp, xU H -> ie K H a (ns.map V.int) -> nZ P w H s₁.heap -> (∀b, H b ≠ ψ -> b = a) -> (H a ≠ ψ -> K.lookup a = ψ) ->
   l_ (aW P w) qH (.call (.ref fa) ⟨[.ref a],[]⟩) (λr s'=>r=.ok (.ret (.bool θ))/\OldK s₁.heap s'.heap/\s'.os=s₁.os/\mZ s'.gens) s₁:=by
  intro H hO hS Q hA hK;let g:∀{b:ak}{o:Obj},s₁.heap.get? b=ξ o->H b=ψ->(tM s₁.heap H).get? b=ξ o:=λe n=>Vv e n;let qC:∀{b:ak}{o:Obj}{es:Array kl}{ep:Nat},s₁.heap.get? b=ξ o->o.data=.dict es ep->H b=none:=λ{b o es ep}e d=>by
   cases q:H b with|none=>rfl|some u=>
    let e':b=a:=hA b (by rw[q];simp);subst e';rw[ha]at e;cases e;let d':Data.seq vs.toArray _=Data.dict es ep:=d;cases d'
  let C:∀{b:ak}{m:Str->Option ae},s₁.heap.Ns b m->(tM s₁.heap H).Ns b m:=λ{b m}J=>by let⟨o,es,ep,e,d,r⟩:=J;exact⟨o,es,ep,g e (qC e d),d,r⟩
  let hKb:K.In (tM s₁.heap H):=λb o e=>g (KX b o e) (by
   cases q:H b with|none=>rfl|some u=>
    let e':b=a:=hA b (by rw[q];simp);subst e';rw[hK (by rw[q];simp)]at e;cases e)
  let hM:Mod K mg (tM s₁.heap H):=⟨hKb,C U,⟨mb,C l,hbb⟩,let ⟨mc,h1,h2⟩:=Y;⟨mc,C h1,h2⟩⟩
  let e0:tP P w K mg (tM s₁.heap H) qH [] s₁ H:=⟨rfl,hM,λb o e=>Xw e,vL (XB _ _),trivial,λb l=>bw (show b∈([]:List ak) from l) (by simp),Q,.of_eq hg⟩
  refine ma ((F _ hKb (C U)).run qH [] s₁ H ⟨[.ref a],[]⟩ [.ref a] [.ref a] _ _ hr e0 (G s₁ (.ref a)) (.cons rfl .nil) (hsp H hO hS)) λr s' h=>?_;cases r with|error e=>exact (hCX H e s' h).elim|ok fl=>
   cases fl with|next=>exact cZ h|brk=>exact cZ h|cont=>exact cZ h|ret u=>
    let⟨v,H',os,bare,un,O,r',q⟩:=h;let q':v=.bl true:=q;subst q';obtain rfl:u=eO true:=r';refine⟨rfl,OldK.of_keep λb o e=>?_,os,bare⟩;cases q:H b with|none=>exact un.keep b o e q (by intro z;exact bw (show b∈([]:List ak) from z) (by simp)) (by simp)|some u=>
     rcases hO b with z|⟨ob,xs,z⟩
     ·rw[q]at z;cases z
     ·let h:=un.frzs b ob _ z;let⟨g,_⟩:=Q b _ z;let⟨l,_⟩:=O b _ h;rw[e]at g;cases g;exact l
 cases hk:K.lookup a with
 |some o=>
  let e:=KX a o hk;rw[ha]at e;cases e;refine E (λ_=>ψ) (λ_=>.inl rfl) (.inr ⟨_,vs.toArray,_,hk,rfl,rfl,rfl,by rw[aG,L];exact hl,by simpa using rv⟩) (λb u z=>by have I:(ψ:Option HO)=ξ u:=z;cases I) (λb z=>bw rfl z) λz=>bw rfl z
 |none=>
  refine E (λb=>if b=a then ξ (.frz { cls:=.type "list",data:=.seq vs.toArray } (.lst (ns.map V.int))) else ψ) (λb=>?_) (.inl (.inr ⟨{ cls:=.type "list",data:=.seq vs.toArray },aH rfl⟩)) (λb u z=>?_) (λb z=>?_) λ_=>hk
  ·by_cases l:b=a
   ·exact .inr ⟨_,_,aH l⟩
   ·exact .inl (aB l)
  ·by_cases l:b=a
   ·let I:=(aH l).symm.trans z;cases I;subst l;exact⟨ha,by rw[af];exact hl,vs,_,rv,ha⟩
   ·let I:=(aB l).symm.trans z;cases I
  ·by_cases l:b=a
   ·exact l
   ·exact bw (aB l) z
theorem AF{l:rg}{n k:Nat}{YP:bJ->bC->Prop}{d:DefRec}{K:DC->aq}{CX:bJ->vv}{sp:bJ->Sp}(hn:l.most=ξ n) (L:n<=sizeLine) (Q:d.params.defaults=[]) (hr:gJ k qH)(hY:∀(w:bJ)(h:bC),YP w h->(K w.params).In h)(F:∀(w:bJ)(mg:Str->Option ae)(I:ak)(h:bC),(K w.params).In h->h.Ns bN mg->mg d.name=ξ (.ref I) ->∃fd:b_,(∀(s:aj)(u:ae),sR s fd ⟨[u],[]⟩ [(x,u)]) /\∀base:bC,(K w.params).In base->base.Ns bN mg->iz l.prog w (K w.params) mg base (CX w) k I fd [x] (sp w))(J:∀(w:bJ)(H:Hp)(a:ak)(ns:List Int),⇑ns<=n->xU H->ie (K w.params) H a (ns.map V.int)->sp w [.ref a] H (λv _=>v=.bl θ) λ_ _ _=>False)(U:∀(w:bJ)(H:Hp)(s:aj)(e:ae)(s':aj),CX w [] H s (λ_ _ _=>False) e s'->False):sX q z XP YP l.row.toRowW d [] (λf vs=>sW f vs):=by
 refine Att.uA hn Q λw s₀ s₁ mg mb I o pm cd doc a vs ns G Y ho hd hcd O E C g hg=>?_;let KX:=hY w _ Y;let⟨fd,hb,hF⟩:=F w mg I _ KX G.T.g O;exact TU KX G.T.g G.T.b G.T.builtins G.T.nolimit hg E C (bH g L) hr hF hb (λH hO hS=>J w H a ns g hO hS) λH e s'=>U w H s₁ e s'
theorem yX{l:rg}{n k:Nat}{J:bJ->bC->Prop}{d:DefRec}{K:DC->aq}{sp:aq->Sp}(O:l.most=ξ n) (z:n<=sizeLine) (C:d.params.defaults=[]) (L:gJ k qH)(Q:∀(w:bJ)(h:bC),J w h->(K w.params).In h)(F:∀(w:bJ)(mg:Str->Option ae)(I:ak)(h:bC),(K w.params).In h->h.Ns bN mg->mg d.name=ξ (.ref I) ->∃G:b_,(∀(s:aj)(u:ae),sR s G ⟨[u],[]⟩ [(x,u)]) /\∀base:bC,(K w.params).In base->base.Ns bN mg->iz l.prog w (K w.params) mg base CX k I G [x] (sp (K w.params)))(o:∀(K:aq)(H:Hp)(a:ak)(ns:List Int),⇑ns<=n->xU H->ie K H a (ns.map V.int)->sp K [.ref a] H (λv _=>v=.bl θ) λ_ _ _=>False)(E:∀(H:Hp)(s:aj)(e:ae)(s':aj),CX [] H s (λ_ _ _=>False) e s'->False):sX q g XP J l.row.toRowW d [] (λf vs=>sW f vs):=
 AF (K:=K) (CX:=λ_=>CX) (sp:=λw=>sp (K w.params)) O z C L Q F (λw H a ns h1 Y U=>o (K w.params) H a ns h1 Y U) λ_ H s e s'=>E H s e s'
noncomputable def dH(s:Stmt):Ik:=match s with| .FunctionDef _ a _ _ _ _ _ _ _ _=>a|_=>{ posonlyargs:=[],args:=[],vararg:=ψ,kwonlyargs:=[],kw_defaults:=[],kwarg:=ψ,defaults:=[] }
noncomputable def cn(s:Stmt):List Stmt:=match s with| .FunctionDef _ _ b _ _ _ _ _ _ _=>b|_=>[]
noncomputable def bh(s:Stmt):dU:=match s with| .FunctionDef _ _ _ _ _ _ sc _ _ _=>sc|_=>{ kind:=.function,names:=[],isGenerator:=ω,isCoroutine:=ω }
noncomputable abbrev qF:vv:=λ_ _ _ _ _ _=>False
noncomputable abbrev E0:XK:=λ_ _ _=>False
theorem Pe:rC qF X E0:=λ_ _ _ _ _ _ _ h=>h.elim
structure ww(K:aq)(x qual:Str)(st:Stmt)(f:ak)(fd:b_):Prop where
 ex:∃(oc:ae)(od:Option ak)(kV doc pm:ae)(an:Option ak)(cdv ct:ae)(osl:Array (Option ae)),
  fd=dv x qual (dH st) (cn st) (bh st) .none kV doc pm an cdv ct/\K.lookup f=ξ ⟨oc,od,.func fd,osl⟩/\gY K cdv qual=θ
 kp:dh K (.ref f)=θ
section
variable{K:aq}
theorem ww.ok{st:Stmt}{k:Nat}{sp:Sp}(F:ww K x qual st f z)(S:kh N ps (bh st))(len:∀vs H Q E,sp vs H Q E->⇑vs=⇑ps)(l:∀(g:ae)(A:bx)(outer:List Env)(s:aj)(H:Hp)(vs:List V)(Q:VK)(E:XK),gJ k (A.deeper (kB qual (bh st) ↥s f g))->sp vs H Q E ->∃t,PSs (oD qF P w K mg base N qual (bh st) f g A outer s H E).nox (cn st) t/\t { nx:=λ_ L=>Q .non L,rt:=Q } (start N vs) H):iz P w K mg base qF (k+1) f z ps sp:=by
 let⟨Y,U,kV,J,O,an,g,ct,C,rfl,G,u⟩:=F.ex;refine MZ G u S len λA outer s H vs Q E I o=>?_;let⟨t,h,q⟩:=l g A outer s H vs Q E I o;exact⟨t,h.nox,q⟩
theorem ww.binds{st:Stmt}{ps:List Str}(F:ww K x qual st f C)(h:∀(kV g u:ae)(z:Option ak)(l ct:ae)(o:List ae),⇑o=⇑ps->ly (dv x qual (dH st) (cn st) (bh st) .none kV g u z l ct) ⟨o,[]⟩=pure (ps.zip o)):Binds K C ps []:=by
 let⟨I,H,kV,g,u,z,l,ct,E,rfl,J,G⟩:=F.ex;exact .all (h kV g u z l ct)
theorem Pa{st:Stmt}{kV h u g ct:ae}(l:K.lookup f=ξ ⟨E,C,.func (dv x qual (dH st) (cn st) (bh st) .none kV h u z g ct),o⟩)(c:gY K g qual=θ) (k:dh K (.ref f)=θ):ww K x qual st f (dv x qual (dH st) (cn st) (bh st) .none kV h u z g ct):=⟨⟨E,C,kV,h,u,z,g,ct,o,rfl,l,c⟩,k⟩
end
section
variable{κ:Type}[DecidableEq κ]
noncomputable def qU(g:List (κ×V))(k:κ):Option V:=(g.find? λh=>decide (h.1=k)).map (·.2)
noncomputable def mD(g:List (κ×V))(k:κ)(v:V):List (κ×V):=
 if (g.any λh=>decide (h.1=k))=θ then g.map (λh=>if h.1=k then (h.1,v) else h) else g++[(k,v)]
theorem JI{p:κ×V}{r:List (κ×V)}{k:κ}(e:p.1=k):qU (p::r) k=ξ p.2:=by simp[qU,b9,e]
theorem IW{p:κ×V}{r:List (κ×V)}{k:κ}(e:¬ p.1=k):qU (p::r) k=qU r k:=by simp[qU,b9,e]
theorem QR(k:κ):∀g:List (κ×V),(g.any λh=>decide (h.1=k))=(qU g k).isSome
 |[]=>rfl
 |p::r=>by
  rw[dw];by_cases e:p.1=k
  ·simp only[JI e,bV e,Bool.true_or,lj]
  ·rw[IW e,aQ e,uk];exact QR k r
theorem L9(g:List (κ×V))(k:κ)(v:V):⇑(mD g k v)<=⇑g+1:=by
 unfold mD;split
 ·rw[af];ext
 ·rw[aK,cm,nF];ext
theorem pj.isSome_eq(r:pj o u):o.isSome=u.isSome:=by
 cases o with
 |none=>cases u with|none=>rfl|some _=>exact (show False from r).elim
 |some _=>cases u with|none=>exact (show False from r).elim|some _=>rfl
theorem KV.val{g:List (κ×V)}{vs:List (κ×ae)}(r:KV g vs)(k:κ):pj (qU g k) (sY vs k):=by
 unfold KV at r
 induction r with|nil=>exact dS|@cons p q ps qs h t ih=>
  let⟨o,u⟩:=h;by_cases e:p.1=k
  ·let l:q.1=k:=o.symm.trans e;let b:sY (q::qs) k=ξ q.2:=by simp[sY,b9,l]
   rw[JI e,b];exact u
  ·let l:¬ q.1=k:=λz=>e (o.trans z);let b:sY (q::qs) k=sY qs k:=by simp[sY,b9,l]
   rw[IW e,b];exact ih
theorem KV.any{g:List (κ×V)}{vs:List (κ×ae)}(r:KV g vs)(k:κ):(g.any λl=>decide (l.1=k))=vs.any λl=>decide (l.1=k):=by
 unfold KV at r
 induction r with|nil=>rfl|cons h t ih=>rw[dw,dw,ih,h.1]
theorem KV.repl{l:List (κ×V)}{vs:List (κ×ae)}(r:KV l vs)(k:κ)(C:RelV y u):KV (l.map λg=>if g.1=k then (g.1,y) else g) (vs.map λg=>if g.1=k then (g.1,u) else g):=by
 unfold KV at r ⊢
 induction r with|nil=>exact .nil|@cons p q ps qs h t ih=>
  rw[aX,aX];refine .cons ?_ ih;let⟨o,E⟩:=h;by_cases e:p.1=k
  ·rw[aH e,aH (o.symm.trans e)];exact⟨o,C⟩
  ·rw[aB e,aB (λz=>e (o.trans z))];exact⟨o,E⟩
theorem KV.put{g:List (κ×V)}{vs:List (κ×ae)}(r:KV g vs)(k:κ)(h:RelV y u):KV (mD g k y) (stored vs k u):=by
 unfold mD stored;rw[r.any k];by_cases e:(vs.any λl=>decide (l.1=k))=θ
 ·rw[aH e,aH e];exact r.repl k h
 ·rw[aB e,aB e];exact nQ r ⟨rfl,h⟩
theorem KV.length{g:List (κ×V)}{vs:List (κ×ae)}(r:KV g vs):⇑g=⇑vs:=dZ r
end
theorem D5(r:RelV (kV k) u):(fP P w).is k u=true:=by
 cases k with|inl i=>let⟨t,e⟩:=(show ∃t,u=iK i t from r);subst e;exact Qag P w i t|inr x=>let⟨t,e⟩:=(show ∃t,u=ku x t from r);subst e;exact YM P w x t
theorem Sa:∀{ks:List Key}{g:List ae},bX (ks.map kV) g->ItemsAre (fP P w) ks g
 |[],_,r=>by rw[m5]at r;cases r;exact .nil
 |k::ks,_,r=>by
  rw[aX]at r;cases r with|cons h t=>exact .cons (D5 h) (Sa t)
abbrev KT(H:Hp):List (List Key×V)->List (List Key×ak×ae)->Prop:=iS λp q=>p.1=q.1/\H q.2.1=ξ (.tup (p.1.map kV))/\RelV p.2 q.2.2
theorem KT.val(r:KT H g xs)(k:List Key):pj (qU g k) ((lB xs k).map (·.2)):=by
 induction r with|nil=>exact dS|@cons p q ps qs h t ih=>
  let⟨o,_,u⟩:=h;by_cases e:p.1=k
  ·let l:q.1=k:=o.symm.trans e;let b:lB (q::qs) k=ξ q.2:=by simp[lB,b9,l]
   rw[JI e,b];exact u
  ·let l:¬ q.1=k:=λz=>e (o.trans z);let b:lB (q::qs) k=lB qs k:=by simp[lB,b9,l]
   rw[IW e,b];exact ih
theorem KT.repl(r:KT H g xs)(k:List Key)(E:RelV y u):KT H (g.map λo=>if o.1=k then (o.1,y) else o) (xs.map (ul k u)):=by
 induction r with|nil=>exact .nil|@cons p q ps qs h t ih=>
  rw[aX,aX];refine .cons ?_ ih;let⟨l,C,G⟩:=h;unfold ul;by_cases e:p.1=k
  ·rw[aH e,aH (l.symm.trans e)];exact⟨l,C,E⟩
  ·rw[aB e,aB (λz=>e (l.trans z))];exact⟨l,C,G⟩
theorem KT.put(r:KT H g xs)(k:List Key)(o:H b=ξ (.tup (k.map kV)))(h:RelV y u):KT H (mD g k y) (lp xs k b u):=by
 let e:(g.any λl=>decide (l.1=k))=(lB xs k).isSome:=by rw[QR,(r.val k).isSome_eq,fD]
 unfold mD lp;rw[e];by_cases q:(lB xs k).isSome=θ
 ·rw[aH q,aH q];exact r.repl k h
 ·rw[aB q,aB q];exact nQ r ⟨rfl,o,h⟩
theorem KT.keeps{H h:Hp}(r:KT H g xs)(l:∀b ys,H b=ξ (.tup ys)->h b=ξ (.tup ys)):KT h g xs:=
 iS.mapP r λ_ _ z=>⟨z.1,l _ _ z.2.1,z.2.2⟩
section
theorem Rm(ok:nZ P w H h)(e:Rd H a u):dQ P w H h a u:=e.ok ok
theorem HZ(ok:nZ P w H h)(e:Rd H a (.dK g)):⇑g<=sizeLine/\(a == dB)=ω/\∃vs,KV g vs/\h.DictOf (fP P w) a vs:=
 show dQ P w H h a (.dK g) from Rm ok e
theorem KW(ok:nZ P w H h)(e:H a=ξ (.dK g)):⇑g<=sizeLine/\(a == dB)=ω/\∃vs,KV g vs/\h.DictOf (fP P w) a vs:=HZ ok (.inl e)
theorem EN{ks:List Key}(ok:nZ P w H h)(e:H a=ξ (.tup (ks.map kV))):(tZ (fP P w)).is h ks a:=by
 let⟨_,its,r,o,u,l,⟨n,g⟩,_⟩:=(show dQ P w H h a (.tup (ks.map kV)) from ok a _ e)
 exact⟨o,its.toArray,n,u,l,g,by simpa using Sa r⟩
theorem I0(ok:nZ P w H h)(e:Rd H a (.dT g)): ⇑g<=sizeLine/\(a == dB)=ω /\∃xs,KT H g xs/\h.DictOfH (tZ (fP P w)) a xs:=by
 let⟨z,y,xs,r,o,es,ep,J,I,G,E,C⟩:=(show dQ P w H h a (.dT g) from Rm ok e)
 refine⟨z,y,xs,r,o,es,ep,J,I,G,E,λx u=>?_,C⟩;let all:∀{l:List (List Key×V)}{m:List (List Key×ak×ae)},KT H l m->∀x∈m,(tZ (fP P w)).is h x.1 x.2.1:=by
  intro l m q
  induction q with
  |nil=>intro x u;cases u
  |@cons p q ps qs hq t ih=>
   intro x u;rcases a_.mp u with e|u
   ·subst e;exact EN ok (by rw[<- hq.1];exact hq.2.1)
   ·exact ih x u
 exact all r x u
theorem Yh(ok:nZ P w H h)(e:H a=ξ (.dT g)): ⇑g<=sizeLine/\(a == dB)=ω /\∃xs,KT H g xs/\h.DictOfH (tZ (fP P w)) a xs:=I0 ok (.inl e)
end
def uT(H:Hp)(a:ak)(y:V)(r:Option V):Prop:=
 (∃g k,Rd H a (.dK g)/\y=kV k/\r=qU g k)\/∃g k b,Rd H a (.dT g)/\y=.ref b/\H b=ξ (.tup (k.map kV))/\r=qU g k
def Ax(H:Hp)(a:ak)(y v:V)(h:Hp):Prop:=
 (∃g k,H a=ξ (.dK g)/\y=kV k/\⇑g < sizeLine/\h=eE H a (.dK (mD g k v))) \/
 ∃g k b,H a=ξ (.dT g)/\y=.ref b/\H b=ξ (.tup (k.map kV))/\⇑g < sizeLine/\h=eE H a (.dT (mD g k v))
theorem uT.k{H:Hp}{k:Key}(e:H a=ξ (.dK g)):uT H a (kV k) (qU g k):=.inl ⟨g,k,.inl e,rfl,rfl⟩
theorem Ax.k{H:Hp}{k:Key}(e:H a=ξ (.dK g))(h:⇑g < sizeLine):Ax H a (kV k) v (eE H a (.dK (mD g k v))):=.inl ⟨g,k,e,rfl,h,rfl⟩
section
variable{A:bx}
theorem Inv.big(I:Inv X ah σ H s):dB < ↥s:=by let h:bN < ↥s:=(I.mod.glob.keeps I.bk).lt;exact Nat.lt_trans (by decide) h
theorem WH{Q:ae->aj->Prop}(hu:A.units+1 < cO)(I:Inv X ah σ H s)(g:uT H a y (ξ v))(ry:RelV y u)(h:∀J s',Inv X ah σ H s'->RelV v J->Q J s'):aF (aW X.prog X.w) A (sS (.ref a) u) Q E s:=by
 rcases g with ⟨L,k,e,Y,l⟩|⟨L,k,b,e,Y,eb,l⟩
 ·subst Y;let⟨z,hd,vs,G,dd⟩:=HZ I.hok e;let⟨J,O,C⟩:=pj.some_of (v:=v) (o:=sY vs k) (by rw[l];exact G.val k);exact wpAny_getItem_of (D5 ry) dd.mapOf O (h J _ (I.tok _) C)
 ·subst Y;cases (show u=aC b from ry);let⟨z,hd,xs,G,dd⟩:=I0 I.hok e;let⟨J,O,C⟩:=pj.some_of (v:=v) (o:=(lB xs k).map (·.2)) (by rw[l];exact G.val k);let⟨p,g,U⟩:=cA.mp O;refine DD (mI hu) (EN I.hok eb) dd g ?_;rw[U];exact h J _ (I.tok _) C
theorem MY{Q:ae->aj->Prop}(hu:A.units+1 < cO)(I:Inv X ah σ H s)(g:uT H a y o)(O:RelV y u)(h:∀s',Inv X ah σ H s'->Q (.bool o.isSome) s'):aF (aW X.prog X.w) A (cq .In u (.ref a)) Q E s:=by
 rcases g with ⟨G,k,e,J,l⟩|⟨G,k,b,e,J,U,l⟩
 ·subst J;let⟨z,hd,vs,C,L⟩:=HZ I.hok e;refine wpAny_in_of (D5 O) hd L.mapOf ?_;rw[<- (C.val k).isSome_eq,<- l];exact h _ (I.tok _)
 ·subst J;cases (show u=aC b from O);let⟨z,hd,xs,C,L⟩:=I0 I.hok e;refine wpAny_in_heap (mI hu) (EN I.hok U) hd L ?_;let q:=(C.val k).isSome_eq;rw[fD]at q;rw[<- q,<- l];exact h _ (I.tok _)
theorem Qda{Q:ae->aj->Prop}(hu:A.units+1 < cO)(I:Inv X ah σ H s)(g:uT H a y o)(O:RelV y u)(h:∀s',Inv X ah σ H s'->Q (.bool (!o.isSome)) s'):aF (aW X.prog X.w) A (cq .NotIn u (.ref a)) Q E s:=by
 rcases g with ⟨G,k,e,J,l⟩|⟨G,k,b,e,J,U,l⟩
 ·subst J;let⟨z,hd,vs,C,L⟩:=HZ I.hok e;refine wpAny_notIn_of (D5 O) hd L.mapOf ?_;rw[<- (C.val k).isSome_eq,<- l];exact h _ (I.tok _)
 ·subst J;cases (show u=aC b from O);let⟨z,hd,xs,C,L⟩:=I0 I.hok e;refine Iq (mI hu) (EN I.hok U) hd L ?_;let q:=(C.val k).isSome_eq;rw[fD]at q;rw[<- q,<- l];exact h _ (I.tok _)
theorem DU{t':Nat}(I:Inv X ah σ H s)(g:G0 (H a))(h:dP a s.heap h')(l:∃q,h'.get? a=ξ q)(new:dQ X.prog X.w (eE H a ob) h' a ob):Inv X ah σ (eE H a ob) { s with heap:=h',toks:=t' }:=
 I.write (x:=a) (e:=a) g (.inl rfl) (λb q C z=>(h.2 b C).trans z) l new
theorem OU{h':bC}{g:List (Key×V)}(z:⇑g<=sizeLine)(hd:(a == dB)=ω)(h:KV g vs)(l:h'.DictOf (fP P w) a vs):dQ P w C h' a (.dK g):=⟨z,hd,vs,h,l⟩
theorem Xd{Q:Unit->aj->Prop}(hu:A.units+1 < cO)(I:Inv X ah σ H s)(g:Ax H a y v H')(ry:RelV y u)(rv:RelV v r)(h:∀s',Inv X ah σ H' s'->Q Unit.unit s'):aF (aW X.prog X.w) A (sQ (.ref a) u r) Q E s:=by
 rcases g with ⟨G,k,e,Y,l,o⟩|⟨G,k,b,e,Y,eb,l,o⟩
 ·subst Y o;let⟨z,hd,vs,C,dd⟩:=KW I.hok e;let hz:⇑vs<=sizeLine:=by rw[<- ⇑C];exact z
  let U:⇑(mD G k v)<=sizeLine:=by have:=L9 G k v;ext
  refine wpAny_setItem_pairs (hsz:=hz) (D5 ry) dd λh' J O=>h _ ?_;let g:∃q,h'.get? a=ξ q:=by obtain ⟨q,_,_,L,_⟩:=J;exact ⟨q,L⟩
  exact DU I (by rw[e];exact dS) O g (OU U hd (C.put k rv) J)
 ·subst Y o;cases (show u=aC b from ry);let⟨z,hd,xs,C,dd⟩:=Yh I.hok e;let hz:⇑xs<=sizeLine:=by rw[<- dZ C];exact z
  let U:⇑(mD G k v)<=sizeLine:=by have:=L9 G k v;ext
  refine wpAny_setItem_heap (hsz:=hz) (mI hu) (EN I.hok eb) dd λh' J O=>h _ ?_;let⟨q,es,ep,L,Q,H,E,_,l⟩:=J;refine DU I (by rw[e];exact dS) O ⟨q,L⟩ ⟨U,hd,_,(C.put k eb rv).keeps λc ys g=>?_,q,es,ep,L,Q,H,E,l⟩;rw[e8 (VB g e (λz=>(by cases z)))];exact g
end
section
theorem Vw{Q:ae->aj->Prop}(I:Inv X ah σ H s)(e:Rd H a (.dK cx))(h:∀t s',Inv X ah σ H s'->Q (.int ⇑cx t) s'):aF (aW X.prog X.w) A (call (.builtin "len") [.ref a]) Q E s:=by let⟨z,hd,vs,g,l⟩:=HZ I.hok e;refine call_len_dict hd l (by rw[<- ⇑g];rw[gi]at z;ext) ?_;rw[<- ⇑g];exact h _ _ (I.tok _)
end
theorem Ou(h:bC)(g:dB < h.objs.size):dQ P w H (h.push { cls:=.type "dict",data:=.dict #[] }) h.objs.size (.dK []):=
 ⟨bn _,beq_eq_false_iff_ne.mpr (du (bB g)),[],.nil,bC.DictOf.new h⟩
def CV:TE:=λ_ H Q=>∀p,H p=ψ->Q (.ref p) (eE H p (.dK []))
section
theorem X9:PE X (.Dict [] [] pos) CV:=λg s σ H Q I h=>
 Ir ⟨.ref ↥s,_,I.laid (a:=↥s) (o:=.dK []) (t':=s.toks) (λ_ _ q=>av _ q) (aA _) (Ou s.heap I.big),rfl,h _ (I.hok.fresh (aA _))⟩
end
def tX:List (TE×TE)->St->Hp->(List (V×V)->Hp->Prop)->Prop
 |[],_,H,Q=>Q [] H| (tk,tv)::r,σ,H,Q=>tk σ H λx l=>tv σ l λy h=>tX r σ h λps g=>Q ((x,y)::ps) g
abbrev VV:List (V×V)->List (ae×ae)->Prop:=iS λp q=>RelV p.1 q.1/\RelV p.2 q.2
def Fe(X:Cx)(pos:Pos)(keys:List (Option Expr))(g:List Expr)(h:List (TE×TE)):Prop:=
 ∀(ah:List (ak×Obj))(s:aj)(σ:St)(H:Hp)(Q:List (V×V)->Hp->Prop),Inv X ah σ H s->tX h σ H Q ->
  aF (aW X.prog X.w) X.A (evalPairs (pairTrees keys g X.env pos)) (λvs s'=>∃ps l,Inv X ah σ l s'/\VV ps vs/\Q ps l) X.xe s
theorem Qdh:Fe X pos [] [] []:=λg s σ H Q I h=>pairTrees_nil_walk ⟨[],H,I,.nil,h⟩
theorem ZN(hk:PE X k tk)(hv:PE X v G)(hr:Fe X pos ks vs l):Fe X pos (ξ k::ks) (v::vs) ((tk,G)::l):=by
 intro g s σ H Q I h;refine pairTrees_cons_walk (gH (hk g s σ H _ I h) λu L C=>?_);let⟨x,H1,I1,U,q1⟩:=C;refine gH (hv g L σ H1 _ I1 q1) λw2 J z=>?_;let⟨y,H2,I2,O,q2⟩:=z;refine gH (hr g J σ H2 _ I2 q2) λws s3 o=>?_;let⟨ps,H3,I3,E,Y⟩:=o;exact⟨(x,y)::ps,H3,I3,.cons ⟨U,O⟩ E,Y⟩
def lQ(g more:List (Key×V)):List (Key×V):=more.foldl (λh l=>mD h l.1 l.2) g
theorem KV.merge:∀{more:List (Key×V)}{rs:List (Key×ae)}{g:List (Key×V)}{vs:List (Key×ae)},KV more rs->KV g vs->KV (lQ g more) (merged vs rs):=by
 intro more rs g vs r;unfold KV at r
 induction r generalizing g vs with
 |nil=>intro q;exact q
 |@cons p q ps qs h t ih=>
  intro l;let e:KV (mD g p.1 p.2) (stored vs q.1 q.2):=by have:=l.put p.1 h.2;rw[<- h.1];exact this
  exact ih e
theorem RI:∀(more cx:List (Key×V)),⇑(lQ cx more)<=⇑cx+⇑more
 |[],cx=>by show ⇑cx<=⇑cx+0;ext
 |p::r,cx=>by
  let h:=RI r (mD cx p.1 p.2);let g:=L9 cx p.1 p.2
  show ⇑(lQ (mD cx p.1 p.2) r)<=_;rw[cm];ext
theorem QM:∀{cx:List (Key×V)}{ws:List (ae×ae)},VV (cx.map λg=>(kV g.1,g.2)) ws->∃rs,Carries (fP P w) ws rs/\KV cx rs
 |[],_,r=>by rw[m5]at r;cases r;exact⟨[],dS,.nil⟩
 |p::cx,_,r=>by
  rw[aX]at r;cases r with|@cons a b as bs h t=>
   let⟨rs,c,q⟩:=QM (P:=P) (w:=w) t;let⟨b1,b2⟩:=b;exact⟨(p.1,b2)::rs,⟨D5 h.1,rfl,c⟩,.cons ⟨rfl,h.2⟩ q⟩
def Gv(h:List (TE×TE)):TE:=λσ H Q=>∀p,H p=ψ->tX h σ (eE H p (.dK [])) λps o=>o p=ξ (.dK [])/\∃g:List (Key×V),ps=g.map (λl=>(kV l.1,l.2))/\⇑g<=15/\Q (.ref p) (eE o p (.dK (lQ [] g)))
theorem Tp(h:Fe X pos keys g l)(G:keys.all (·.isSome)=θ)(hl:⇑keys=⇑g)(h0:keys≠[])(O:⇑keys<=15):PE X (.Dict keys g pos) (Gv l):=by
 intro C s σ H Q I q;let hn:=I.hok.fresh (aA ↥s);let I1:=I.laid (a:=↥s) (o:=.dK []) (h':=s.heap.push { cls:=.type "dict",data:=.dict #[] }) (t':=s.toks) (λ_ _ q=>av _ q) (aA _) (Ou s.heap I.big);refine wpAny_Dict_walk (knd:=fP X.prog X.w) G hl h0 O (gH (h C _ σ _ _ I1 (q _ hn)) λws s2 u=>?_);let⟨ps,H2,U,L,e,E,ep,lk,q2⟩:=u;subst ep;let⟨rs,c,rk⟩:=QM (P:=X.prog) (w:=X.w) L;let⟨z,hd,Y,r0,dd⟩:=KW U.hok e;cases r0;refine⟨rs,c,dd,λh' J hs=>⟨.ref ↥s,_,?_,rfl,q2⟩⟩;let hz:⇑(lQ [] E)<=sizeLine:=by have h1:=RI E [];rw[nF]at h1;rw[gi];ext
 let he:∃q,h'.get? ↥s=ξ q:=by obtain ⟨q,_,_,hq,_⟩:=J;exact ⟨q,hq⟩
 exact DU U (by rw[e];exact dS) hs he (OU hz hd (rk.merge .nil) J)
structure M1(X:Cx)(o:Expr)(m:Str)(cy:Pos)(e:Expr)(b3:Pos):Prop where
 base:cG o m X.env (eval o X.env)=eval o X.env
 few:((dF b3 (az [e] X.env)).all (λx => !x.1)&&(oh b3 (ki [] X.env)).all (λx=>x.1.isSome)
  && decide (⇑([e]:List Expr)+⇑([]:List io)+(if ([]:List io).isEmpty then 0 else 1) < 30))=θ
 line:(cy.endLine == b3.line)=θ
 trees:dF b3 (az [e] X.env)=[(ω,eval e X.env)]
structure M2(X:Cx)(o:Expr)(m:Str)(cy:Pos)(e f:Expr)(b3:Pos):Prop where
 base:cG o m X.env (eval o X.env)=eval o X.env
 few:((dF b3 (az [e,f] X.env)).all (λx => !x.1)&&(oh b3 (ki [] X.env)).all (λx=>x.1.isSome)
  && decide (⇑([e,f]:List Expr)+⇑([]:List io)+(if ([]:List io).isEmpty then 0 else 1) < 30))=θ
 line:(cy.endLine == b3.line)=θ
 trees:dF b3 (az [e,f] X.env)=[(ω,eval e X.env),(ω,eval f X.env)]
end L2
namespace MM
open PySem PySem.Spec PyProof.Rows L2
noncomputable abbrev KI:=Int ⊕ List Int
section
variable{prog:Program}{w:bJ}
variable(prog w) in
inductive wQ(h:bC):KI->ae->Prop
 |one (i:Int) (t:Tok):wQ h (.inl i) (.int i t)|row {k:List Int}{b:ak}:DE (qG prog w) h k b->wQ h (.inr k) (.ref b)
variable(prog w) in
inductive oE(h:bC):List KI->List ae->Prop
 |nil:oE h [] []|cons {k:KI}{v:ae}{ks:List KI}{vs:List ae}:wQ prog w h k v->oE h ks vs->oE h (k::ks) (v::vs)
variable(prog w) in
noncomputable def eD(h:bC)(ks:List KI)(a:ak):Prop:=∃o items n,h.get? a=ξ o/\o.cls=.type "tuple"/\o.data=.seq items n/\oE prog w h ks items.toList
theorem wQ.inj(a:wQ prog w h x v)(b:wQ prog w h y v):x=y:=by
 cases a with
 |one i t=>cases b;rfl
 |row a=>cases b with|row b=>rw[a.inj b]
theorem oE.inj(a:oE prog w h x vs)(b:oE prog w h y vs):x=y:=by
 induction a generalizing y with
 |nil=>cases b;rfl
 |cons a t ih=>cases b with|cons b u=>rw[a.inj b,ih u]
theorem eD.typeIs{s:aj}(x:eD prog w s.heap ks a):s.TypeIs (.ref a) "tuple":=by obtain ⟨o,_,_,g,h,_⟩:=x;exact ⟨o,g,h⟩
theorem eD.inj(E:eD prog w h x a)(C:eD prog w h y a):x=y:=by
 let⟨o,items,n,G,_,hd,H⟩:=E;let⟨o',l,I,u,_,g,z⟩:=C;cases G.symm.trans u;rw[hd]at g;injection g with h1 _
 subst h1;exact H.inj z
theorem wQ.keeps{h h':bC}{es ep}(l:h.get? d=ξ o)(hd:o.data=.dict es ep)(g:dP d h h'):∀{x:KI}{v:ae},wQ prog w h x v->wQ prog w h' x v
 |_,_,.one i t=>.one i t|_,_,.row a=>.row (a.keeps l hd g)
theorem oE.keeps{h h':bC}{es ep}(l:h.get? d=ξ o)(hd:o.data=.dict es ep)(g:dP d h h')(r:oE prog w h x vs):oE prog w h' x vs:=by
 induction x generalizing vs with|nil=>cases r;exact .nil|cons k x ih=>cases r with|cons a t=>exact .cons (a.keeps l hd g) (ih t)
theorem eD.keeps{es ep}(x:eD prog w h ks a)(C:h.get? d=ξ o)(hd:o.data=.dict es ep)(z:dP d h h'):eD prog w h' ks a:=by
 let⟨o',items,n,l,G,g,E⟩:=x;let u:a≠d:=by
  rintro rfl
  obtain rfl:o'=o:=aO (l.symm.trans C);rw[hd]at g;exact nomatch g
 exact⟨o',items,n,(z.2 a u).trans l,G,g,E.keeps C hd z⟩
def B9:KI->Int
 | .inl i=>hashInt i| .inr r=>reduceHash (di (r.map hashInt))
def o7(ks:List KI):Int:=reduceHash (di (ks.map B9))
def KY:KI->Nat
 | .inl _=>1| .inr r=>⇑r+1
def iF:List KI->Nat
 |[]=>0|k::ks=>KY k+iF ks
variable{A:bx}{E:ae->aj->Prop}{s:aj}
theorem LY(k:KI):∀(l:List KI),iF (l++[k])=iF l+KY k
 |[]=>by simp[iF]|x::l=>by simp[iF,LY k l];ext
theorem YF{Q:Int->aj->Prop}(hu:A.units < cO)(g:wQ prog w s.heap k v)(h:Q (B9 k) { s with toks:=s.toks+KY k }):aF (aW prog w) A (pyHash v) Q E s:=by
 cases g with|one i t=>exact Ih h|row g=>exact wpAny_pyHash_tuple (knd:=qG prog w) hu g h
theorem V1{Q:Bool->aj->Prop}(hu:A.units < cO)(H:wQ prog w s.heap x u)(C:wQ prog w s.heap y v)(h:Q (decide (x=y)) s):aF (aW prog w) A (eqBool u v) Q E s:=by
 cases H with
 |one i t=>
  cases C with
  |one j t'=>
   refine tY ?_;let e:(i == j)=decide ((lq i:KI)=lq j):=by
    by_cases z:i=j
    ·subst z;simp
    ·let G:¬ ((lq i:KI)=lq j):=λq=>z (by injection q);rw[aQ G];exact beq_eq_false_iff_ne.mpr z
   first|(rw[e];exact h)|(simpa [e] using h)
  |row h2=>
   let⟨o,items,n,g,l,hd,_⟩:=h2;rw[aQ (by simp)]at h;exact Ip.int_tuple i t ⟨o,g,l,n,hd⟩ hu prog w E Q h
 |row h1=>
  cases C with
  |one j t'=>
   let⟨o,items,n,g,l,hd,_⟩:=h1;rw[aQ (by simp)]at h;exact Ip.tuple_int j t' ⟨o,g,l,n,hd⟩ hu prog w E Q h
  |@row k2 b h2=>
   refine wpAny_eqBool_tuple (knd:=qG prog w) hu h1 h2 ?_;simpa using h
theorem Yf{Q:Int->aj->Prop}(hu:A.units+1 < cO)(u:eD prog w s.heap ks a)(h:Q (o7 ks) { s with toks:=s.toks+(iF ks+1) }):aF (aW prog w) A (pyHash (.ref a)) Q E s:=by
 let l:=u.typeIs;let⟨o,items,n,z,_,hd,C⟩:=u;unfold pyHash
 first|unfold pyHashByItsType|skip
 first|refine aa (wpAny_cRoomFor_or (.inr ()) ?_)|skip
 refine aa (i8 l mL.lookup ?_)
 show aF _ _ (if (ξ (fO "tuple.__hash__") == ξ bL)=θ then _ else _) Q E s;rw[aB (by rw[beq_builtin_none];exact bc)];refine aa (i8 l mL.lookup ?_)
 show aF _ _ (callSpecialIfBoundUnlessNone? (.ref a) "__hash__" _ >>= _) Q E s;refine aa (wpAny_callSpecialIfBoundUnlessNone?_slot l mL (cR mL l F.entry_tuple_hash ?_ (F.args_tuple_hash_1 _)))
 show aF _ _ (pD (.ref a) >>= _) _ _ s;refine aa (r9 z hd ?_);refine aa ?_;rw[<- pF];refine oj _
  (λcQ(b:Array Int)s'=>∃done left,ks=done++left/\oE prog w s.heap left cQ/\b.toList=done.map (B9)/\s'={ s with toks:=s.toks+iF done })
  _ ?_ ?_ _ _ ⟨[],ks,rfl,C,rfl,rfl⟩
 ·rintro x cQ b s' ⟨done,left,rfl,hl,hb,rfl⟩
  cases hl with|@cons k b' ks' _ h1 hl'=>
   refine aa (YF (k:=k) hu h1 ?_)
   first
    |exact ai ⟨done++[k],ks',by simp,hl',by simp[hb],by simp[LY,pS]⟩|exact aa (ai (ai ⟨done++[k],ks',by simp,hl',by simp[hb],by simp[LY,pS]⟩))
 ·rintro b s' ⟨done,left,rfl,hl,hb,rfl⟩
  cases hl;rw[bG]at h
  show aF _ _ (retInt (di b.toList)) _ _ _;rw[hb];refine JM ?_
  show aF _ _ (if (decide (-(2:Int)^63<=di (done.map (B9)))&&decide (di (done.map (B9)) < 2^63))=θ then _ else _) Q E _;unfold o7 reduceHash at h;by_cases g:(decide (-(2:Int)^63<=di (done.map (B9)))&&decide (di (done.map (B9)) < 2^63))=θ
  ·rw[aH g];rw[aH g]at h;exact ai (by simpa [pS] using h)
  ·rw[aB g];rw[aB g]at h;exact aa (eK (ai (by simpa [pS] using h)))
theorem Zs{P:Fin->aj->Prop}(hu:A.units < cO)(hx:eD prog w s.heap x a)(hy:eD prog w s.heap y b)(h:P (.done (.ret (.bool (decide (x=y))))) s):aF (aW prog w) A (Builtin.«tuple.__eq__» ⟨[.ref a,.ref b],[]⟩) P E s:=by
 let Y:=hy.typeIs;let⟨oa,xs,na,I,_,U,O⟩:=hx;let⟨ob,ys,nb,H,_,Q,L⟩:=hy
 show aF _ _ (kW (.ref b) (.type "tuple") >>= _) _ _ s;refine aa (eV Y pG ?_);simp only[fR,bp,if_false];refine aa (r9 I U ?_);refine aa (r9 H Q ?_);refine aa ?_;refine oj _
  (λcQ r s'=>r.1=ψ/\s'=s/\∃G C l g,cQ=List.zip l g/\oE prog w s.heap G l/\oE prog w s.heap C g/\decide (G=C)=decide (x=y)/\(⇑l == ⇑g)=(xs.size == ys.size))
  _ ?_ ?_ _ _ ⟨rfl,rfl,x,y,xs.toList,ys.toList,rfl,O,L,rfl,by simp⟩
 ·rintro ⟨u,v⟩ cQ r s' ⟨hr,rfl,G,C,l,g,hz,hx',hy',hdec,hlen⟩
  cases hx' with|nil=>simp at hz|@cons k1 u' x'' xs'' h1 hx''=>
   cases hy' with|nil=>simp at hz|@cons k2 v' y'' ys'' h2 hy''=>
    simp only[xL,List.cons.injEq,Prod.mk.injEq]at hz;let⟨⟨rfl,rfl⟩,rfl⟩:=hz;refine aa (V1 (x:=k1) (y:=k2) hu h1 h2 ?_);by_cases J:k1=k2
    ·subst J;rw[bV rfl];simp only[fR,bp,if_false];refine ai ⟨rfl,rfl,x'',y'',xs'',ys'',rfl,hx'',hy'',?_,by simpa using hlen⟩;rw[<- hdec];by_cases o:x''=y''
     ·simp[o]
     ·simp[o]
    ·rw[aQ J];simp only[tH,if_true];let z:decide (x=y)=false:=by rw[<- hdec];simp[J]
     rw[z]at h;exact aa (ai (ai (ai h)))
 ·rintro ⟨r1,r2⟩ s' ⟨hr,rfl,G,C,l,g,hz,hx',hy',hdec,hlen⟩
  simp only at hr;subst hr;refine ai ?_;let z:(xs.size == ys.size)=decide (x=y):=by
   rw[<- hdec,<- hlen];cases hx' with
   |nil=>
    cases hy' with|nil=>simp|cons _ _=>simp
   |cons _ _=>
    cases hy' with|nil=>simp|cons _ _=>simp at hz
  show P (.done (.ret (.bool (xs.size == ys.size)))) s';rw[z];exact h
theorem Qdr{Q:Bool->aj->Prop}(hu:A.units+1 < cO)(l:eD prog w s.heap x a)(o:eD prog w s.heap y b)(h:Q (decide (x=y)) s):aF (aW prog w) A (eqBool (.ref a) (.ref b)) Q E s:=by
 unfold eqBool
 try with_reducible refine bT ?_
 show aF _ _ (if (aC a == aC b)=θ then _ else _) Q E s;by_cases g:(aC a == aC b)=θ
 ·rw[aH g];let e:a=b:=by have:=eq_of_beq g;injection this
  subst e;obtain rfl:=l.inj o;exact aa (eK (ai (by simpa using h)))
 ·rw[aB g];exact aa (wpAny_richCompare_same_room (op:=.Eq) l.typeIs o.typeIs ox
   (cR ox l.typeIs F.entry_tuple_eq (Zs (by exact hu) l o ⟨_,rfl,(λe=>(by cases e)),f_ h⟩) (F.args_tuple_eq_2 _ _)) ())
theorem Ym{n:Nat}{Q:Bool->aj->Prop}(l:DE (qG prog w) s.heap ks a)(h:Q θ s):aF (aW prog w) A (qI (n+1) (.ref a)) Q E s:=by
 let z:=l.typeIs;let⟨o,items,n,C,_,hd,G⟩:=l;unfold qI;refine aa (i8 z ox.lookup ?_)
 show aF _ _ (kW (.ref a) (.type "tuple") >>= _) _ _ s;refine aa (eV z pG ?_);simp only[fR,bp,if_false];refine aa (eL C hd ?_);refine aa ?_
 show aF _ _ (forIn items _ _) _ _ s;rw[<- pF];refine oj _ (λcQ r s'=>r.1=ψ/\s'=s/\∀v∈cQ,carriedByValue v=θ) _ ?_ ?_ _ _ ⟨rfl,rfl,G.byValue⟩
 ·rintro v cQ r s' ⟨hr,rfl,hall⟩
  rw[Es _ (hall v bK)];refine aa (ai ?_);simp only[fR,bp,if_false];exact ai ⟨rfl,rfl,λu g=>hall u (bD _ g)⟩
 ·rintro ⟨r1,r2⟩ s' ⟨hr,rfl,_⟩
  simp only at hr;subst hr;exact ai h
theorem Wn{n:Nat}{Q:Bool->aj->Prop}(g:wQ prog w s.heap k v)(h:Q θ s):aF (aW prog w) A (qI (n+1) v) Q E s:=by
 cases g with|one i t=>rw[Es _ (show carriedByValue (iK i t)=θ from rfl)];exact ai h|row g=>exact Ym g h
theorem UE{Q:Bool->aj->Prop}(g:eD prog w s.heap ks a)(h:Q θ s):aF (aW prog w) A (qI 8 (.ref a)) Q E s:=by
 let l:=g.typeIs;let⟨o,items,n,u,_,hd,z⟩:=g;unfold qI;refine aa (i8 l ox.lookup ?_)
 show aF _ _ (kW (.ref a) (.type "tuple") >>= _) _ _ s;refine aa (eV l pG ?_);simp only[fR,bp,if_false];refine aa (eL u hd ?_);refine aa ?_
 show aF _ _ (forIn items _ _) _ _ s;rw[<- pF];refine oj _ (λcQ r s'=>r.1=ψ/\s'=s/\∃left,oE prog w s.heap left cQ) _ ?_ ?_ _ _ ⟨rfl,rfl,ks,z⟩
 ·rintro v cQ r s' ⟨hr,rfl,left,hall⟩
  cases hall with|cons h1 hl=>
   refine aa (Wn (n:=6) h1 ?_);simp only[fR,bp,if_false];exact ai ⟨rfl,rfl,_,hl⟩
 ·rintro ⟨r1,r2⟩ s' ⟨hr,rfl,_⟩
  simp only at hr;subst hr;exact ai h
end
def uG(prog:Program)(w:bJ):vN prog w (List KI) where
 is:=eD prog w
 hash:=o7
 draws:=λks=>iF ks+1
 room:=λA=>A.units+1 < cO
 inj:=λl g=>l.inj g
 keeps:=λx z hd u=>x.keeps z hd u
 pyHash:=λhu o h=>Yf hu o h
 eqBool:=λhu l g h=>Qdr hu l g h
 quiet:=λo h=>UE o h
end MM
namespace MM
open PySem PyProof.Rows
noncomputable def sI(h:bC)(d:ak)(n:Nat):Prop:=∃o es,h.get? d=ξ o/\o.data=.dict es n
section
variable{prog:Program}{w:bJ}{K:Type}[DecidableEq K]{knd:vN prog w K}{A:bx}{s:aj}{k:K}{xs:List (K×ak×ae)}
theorem OL{Q:Unit->aj->Prop}(hu:knd.room A)(u:knd.is s.heap k a)(hm:s.heap.DictOfH knd d xs)(hp:sI s.heap d ⇑xs)(hsz:⇑xs<=sizeLine)(h:∀h',h'.DictOfH knd d (lp xs k a v)->sI h' d ⇑(lp xs k a v)->dP d s.heap h'->Q Unit.unit { s with heap:=h',toks:=s.toks+knd.draws k }):aF (aW prog w) A (Et d (.ref a) v) Q E s:=by
 let⟨o,es,ep,l,hc,hd,U,G,L⟩:=id hm;let⟨o',es',H,Y⟩:=hp;rw[l]at H;cases H;rw[hd]at Y;cases Y;unfold Et;refine bT (aa (knd.pyHash hu u ?_));unfold dictSetHashed;refine bT (aa (BO (s:={ s with toks:=s.toks+knd.draws k }) hu u l hd U G L (λJ=>?_) λj p O=>?_))
 ·let I:k∉xs.map (·.1):=BP J;let e0:=Eu J;let C:=storedH_new (a:=a) (v:=v) e0;let o:=lT U;refine aa (eK (Ba (hz:=by ext) (s:={ s with toks:=s.toks+knd.draws k }) l hd
   (h _ ⟨_,_,_,bS _ l (gu (dY hd _)),hc.mapDictKeys _,dY hd _,?_,?_,?_⟩ ?_ (b7 ..))))
  ·rw[C];simp[U,oJ]
  ·rw[C];intro x g;rcases aS.mp g with g|g
   ·exact knd.keeps (G x g) l hd (b7 ..)
   ·cases aD.mp g;exact knd.keeps u l hd (b7 ..)
  ·rw[C,aV,d6];refine⟨L,by simp,λx g y hy=>?_⟩;cases aD.mp hy;exact λe=>I ((show x=k from e) ▸ g)
  ·rw[C,aK];exact⟨_,_,bS _ l (gu (dY hd _)),dY hd _⟩
 ·let e0:=atKey_of_get L O;let C:=storedH_old e0 a v;let J:j < es.size:=by rw[lT U];exact (ac.mp O).1
  let o:(es.modify j λe=>{ hash:=e.hash,key:=e.key,val:=v }).toList=(xs.map (ul k v)).map (oJ knd):=by
   apply d7;intro i;rw[ff,Array.getElem?_modify,ar,ar];let E:es[i]?=(xs[i]?).map (oJ knd):=by rw[<- ff,U,ar]
   rw[E];by_cases z:j=i
   ·subst z;rw[aH rfl,O];simp[ul,oJ]
   ·rw[aB z];cases g:xs[i]? with|none=>rfl|some x=>
     let u:x.1≠k:=λq=>by
      let I:(xs.map (·.1))[i]?=ξ k:=by rw[ar,g,<- q];rfl
      let H:(xs.map (·.1))[j]?=ξ k:=by rw[ar,O];rfl
      exact z ((mh (by rw[af];exact (ac.mp O).1) L).mp (H.trans I.symm))
     simp[ul,u]
  refine aa (eK (aa (wpAny_updateDict (s:={ s with toks:=s.toks+knd.draws k }) l hd (wpAny_point
   (h _ ⟨_,_,_,bS _ l (gu (mW hd _)),hc.mapDict _,mW hd _,?_,?_,?_⟩ ?_ (b7 ..))))))
  ·rw[C];exact o
  ·rw[C];intro x g;let⟨y,hy,e⟩:=bA.mp g;let q:=knd.keeps (G y hy) l hd (b7 s.heap d (Obj.mapDict λx=>x.modify j λe=>{ hash:=e.hash,key:=e.key,val:=v }));rw[<- e];unfold ul;split
   ·exact q
   ·exact q
  ·rw[C,i9];have:(xs.map ((λx=>x.1)∘ul k v))=xs.map (·.1):=d9 λx _=>by show (ul k v x).1=x.1;unfold ul;split<;>rfl
   rw[this];exact L
  ·rw[C,af];exact⟨_,_,bS _ l (gu (mW hd _)),mW hd _⟩
theorem WB{Q:Unit->aj->Prop}(hu:knd.room A.in1)(g:knd.is s.heap k a)(l:s.heap.DictOfH knd d xs)(o:sI s.heap d ⇑xs)(hsz:⇑xs<=sizeLine)(h:∀h',h'.DictOfH knd d (lp xs k a v)->sI h' d ⇑(lp xs k a v)->dP d s.heap h'->Q Unit.unit { s with heap:=h',toks:=s.toks+knd.draws k }):aF (aW prog w) A (sQ (.ref d) (.ref a) v) Q E s:=by
 let T:=l.typeIs;unfold sQ;refine bT (aa (Ep T (by decide) (aa (cw T zU (cR zU T F.entry_dict_setitem ?_ (F.args_dict_setitem_3 _ _ _))))));unfold Builtin.«dict.__setitem__»;refine aa (pH T ?_);rw[aB (by simp)]
 show aF _ _ (Et d (.ref a) v >>= _) _ _ s;refine aa (OL hu g l o hsz λh' C z u=>ai ⟨_,rfl,ai (h h' C z u)⟩)
end
end MM
namespace MM
open PySem
inductive D where
 |non|bl (b:Bool)|int (i:Int)|str (x:Str)|tup (ds:List D)|lit (ds:List D)|ref (n:Nat)|dic (n:Nat)|exn (x:Str) (ds:List D)|fn (n:Nat)
inductive uU where
 |lam (e:Iu)|dfn (s:PySem.Stmt)
inductive MO where
 |lst (ds:List D)|dct (b:Bool) (cx:List (D×D))|lam (e:Iu)|tbl (x w:Str)|dcf (cx:List (D×D))|clo (c:uU) (vs:List D)|ded
noncomputable abbrev aY:=List MO
noncomputable abbrev TN:=D
inductive Rs(α:Type) where
 |ok (a:α) (s:aY)|exc (x:TN) (s:aY)|bad
def M(α:Type):=aY->Rs α
section
variable{α β:Type}
noncomputable def ret(a:α):M α:=λs=>.ok a s
noncomputable def bnd(m:M α)(f:α->M β):M β:=λs=>match m s with| .ok a s'=>f a s'| .exc x s'=>.exc x s'| .bad=>.bad
noncomputable def bad:M α:=λ_=>.bad
@[irreducible] def chk(c:Prop)[Decidable c](m:M α):M α:=if c then m else bad
end
noncomputable abbrev Loc:=List (Option D)
abbrev CE:=Loc->M D
abbrev CT:=Loc->M Bool
abbrev CA:=Loc->M (List D)
inductive su where
 |next (l:Loc)|ret (d:D)|brk (l:Loc)|cnt (l:Loc)
abbrev CS:=Loc->M su
noncomputable def eT:Nat:=2^24
noncomputable def alloc(o:MO):M D:=λs=>.ok (.ref ⇑s) (s++[o])
def getL(n:Nat):M (List D):=λs=>match s[n]? with|some (.lst ds)=>.ok ds s|_=>.bad
def putL(n:Nat)(ds:List D):M Unit:=λs=>match s[n]? with|some (.lst _)=>.ok Unit.unit (s.set n (.lst ds))|_=>.bad
def getDc(n:Nat):M (Bool×List (D×D)):=λs=>match s[n]? with|some (.dct b cx)=>.ok (b,cx) s|_=>.bad
def tj(n:Nat)(b:Bool)(g:List (D×D)):M Unit:=λs=>match s[n]? with|some (.dct c _)=>if b=c then .ok Unit.unit (s.set n (.dct b g)) else .bad|_=>.bad
mutual
noncomputable def mT:D->D->Bool
 | .int i,.int j=>decide (i=j)| .str x,.str y=>decide (x=y)| .tup xs,.tup ys=>lZ xs ys|_,_=>ω
noncomputable def lZ:List D->List D->Bool
 |[],[]=>θ|x::xs,y::ys=>mT x y&&lZ xs ys|_,_=>ω
end
noncomputable def pc:List D->Option (List Int)
 |[]=>ξ []| .int i::ds=>(pc ds).map (i::·)|_=>ψ
def nv:List D->Option (List (Int ⊕ List Int))
 |[]=>ξ []
 | .tup xs::ds=>match pc xs,nv ds with|some r,ξ rs=>ξ (.inr r::rs)|_,_=>ψ
 | .int i::ds=>(nv ds).map (.inl i::·)|_=>ψ
def stK:D->Option (List (Int ⊕ List Int))
 | .tup ds=>nv ds|_=>ψ
def oW:Bool->D->Bool
 |false,.int _=>θ|false,.str _=>θ|true,d=>(stK d).isSome|_,_=>ω
def kR(g:List (D×D))(k:D):Option D:=(g.find? λp=>mT p.1 k).map (·.2)
def i6(g:List (D×D))(k v:D):List (D×D):=if (g.any λp=>mT p.1 k)=θ then g.map λp=>if mT p.1 k=θ then (p.1,v) else p else g++[(k,v)]
def uD(g more:List (D×D)):List (D×D):=more.foldl (λh p=>i6 h p.1 p.2) g
def itemK(n:Nat)(k:D):M D:=bnd (getDc n) λp=>chk (oW p.1 k=θ) (match kR p.2 k with
 |some d=>ret d
 |none=>bad)
def storeK(n:Nat)(k v:D):M Unit:=bnd (getDc n) λp=>chk (oW p.1 k=θ/\⇑p.2 < eT) (tj n p.1 (i6 p.2 k v))
def hasK(n:Nat)(k:D):M Bool:=bnd (getDc n) λp=>chk (oW p.1 k=θ) (ret (kR p.2 k).isSome)
def uB:D->M (List D)
 | .tup ds=>ret ds| .lit ds=>ret ds| .ref n=>getL n|_=>bad
noncomputable def sK(n:Nat)(i:Int):Option Nat:=if 0<=i then (if i < n then ξ i.toNat else ψ) else (if -(n:Int)<=i then ξ (i+n).toNat else ψ)
def dg:D->D->M D
 | .int i,.int j=>ret ↑(i+j)| .str x,.str y=>chk (⇑x+⇑y<=eT) (ret (.str (x++y)))| .tup x,.tup y=>chk (⇑x+⇑y<=eT) (ret (.tup (x++y)))| .ref a,.ref b=>bnd (getL a) λx=>bnd (getL b) λy=>chk (⇑x+⇑y<=eT) (alloc (.lst (x++y)))|_,_=>bad
def tS(f:Int->Int->M D):D->D->M D
 | .int i,.int j=>f i j|_,_=>bad
theorem Dt(f:Int->Int->M D)(d e:D):(∃i j,d=.int i/\e=.int j)\/tS f d e=bad:=by
 cases d<;>first|exact .inr rfl|skip
 cases e<;>first|exact .inr rfl|exact .inl ⟨_,_,rfl,rfl⟩
def pX:D->D->M D:=tS λi j=>ret ↑(i-j)
noncomputable def tE(i j:Int):Prop:=(-(2^64) < i/\i < 2^64)\/(-(2^64) < j/\j < 2^64)
instance(i j:Int):Decidable (tE i j):=by unfold tE;infer_instance
def nW:D->D->M D:=tS λi j=>chk (tE i j) (ret ↑(i*j))
def tw:D->D->M D:=tS λi j=>chk (0 < j/\j < 1073741824) (ret ↑(i / j))
def qe:D->D->M D:=tS λi j=>chk (0 < j) (ret ↑(i % j))
def yJ:D->D->M D:=tS λi j=>chk (0<=j/\j<=1000000/\i.natAbs < 2^64) (ret ↑(i^j.toNat))
def Tv:D->M D
 | .int i=>ret ↑(-i)|_=>bad
def AS(p:Int->Int->Bool):D->D->M D:=tS λi j=>ret (.bl (p i j))
def Cd:=AS λi j=>decide (i < j)
def Hc:=AS λi j=>decide (i<=j)
def yV:=AS λi j=>decide (j < i)
def Jg:=AS λi j=>decide (j<=i)
noncomputable def mR(f:D->D->Option Bool):List D->List D->Option Bool
 |[],[]=>ξ θ
 |x::xs,y::ys=>match f x y with|some θ=>mR f xs ys|some ω=>(mR f xs ys).map λ_=>ω|none=>ψ
 |_::_,[]=>ξ ω|[],_::_=>ξ ω
noncomputable def JB(g:List D->List D->Option Bool):D->D->Option Bool
 | .non,.non=>ξ θ| .non,.int _=>ξ ω| .bl a,.bl b=>ξ (a == b)| .int _,.non=>ξ ω| .int a,.int b=>ξ (a == b)| .str a,.str b=>ξ (a == b)| .tup xs,.tup ys=>g xs ys|_,_=>ψ
def sJ:Nat->D->D->Option Bool
 |0,d,e=>JB (λ_ _=>ψ) d e|n+1,d,e=>JB (mR (sJ n)) d e
def Kl(d e:D):M Bool:=match d,e with
 | .ref a,.ref b=>bnd (getL a) λx=>bnd (getL b) λy=>match (if ⇑x=⇑y then mR (sJ 50) x y else ξ ω) with|some r=>ret r|none=>bad
 | .ref a,.non=>bnd (getL a) λ_=>ret ω| .non,.ref a=>bnd (getL a) λ_=>ret ω
 |d,e=>match sJ 50 d e with|some r=>ret r|none=>bad
def oF(d e:D):M D:=bnd (Kl d e) λb=>ret (.bl b)
def xT(d e:D):M D:=bnd (Kl d e) λb=>ret (.bl !b)
def FU:D->M D
 | .non=>ret (.bl θ)|_=>ret (.bl ω)
def HF:D->M D
 | .non=>ret (.bl ω)|_=>ret (.bl θ)
def cu(ds:List D)(i:Int):M D:=match sK ⇑ds i with
 |some k=>match ds[k]? with|some d=>ret d|none=>bad
 |none=>bad
def aU:D->D->M D
 | .tup ds,.int i=>cu ds i| .lit ds,.int i=>cu ds i| .ref n,.int i=>bnd (getL n) λds=>cu ds i| .dic n,k=>itemK n k
 | .str x,.int i=>chk (⇑x<=eT) (match sK ⇑x i with
  |some k=>match x.cps.toList[k]? with|some c=>ret (.str ⟨#[c]⟩)|none=>bad
  |none=>bad)
 |_,_=>bad
def Aj:D->M Bool
 | .non=>ret ω| .bl b=>ret b| .int i=>ret (i != 0)| .str x=>chk (⇑x<=eT) (ret ((⇑x:Int) != 0))| .tup ds=>ret (!ds.isEmpty)| .lit ds=>ret (!ds.isEmpty)| .ref n=>bnd (getL n) λds=>ret (!ds.isEmpty)| .dic _=>bad| .exn _ _=>bad| .fn _=>bad
def am(i:Nat):CE:=λl=>match l[i]? with|some (ξ d)=>ret d|_=>bad
def aL(d:D):CE:=λ_=>ret d
def c1(g:D->M D)(a:CE):CE:=λl=>bnd (a l) g
def c2(g:D->D->M D)(a b:CE):CE:=λl=>bnd (a l) λx=>bnd (b l) λy=>g x y
def bb:CA:=λ_=>ret []
def au(a:CE)(r:CA):CA:=λl=>bnd (a l) λx=>bnd (r l) λxs=>ret (x::xs)
def dD(a:CA):CE:=λl=>bnd (a l) λxs=>chk (⇑xs<=eT) (ret (.tup xs))
def N7(f g:D->D->M D)(a b c:CE):CE:=λl=>bnd (a l) λx=>bnd (b l) λy=>bnd (f x y) λz=>match z with| .bl θ=>bnd (c l) λw=>g y w| .bl ω=>ret (.bl ω)|_=>bad
def wT(a b:CE):CE:=λl=>bnd (a l) λx=>match x with| .bl θ=>b l| .bl ω=>ret (.bl ω)|_=>bad
def DX(a b:CE):CE:=λl=>bnd (a l) λx=>match x with| .bl θ=>ret (.bl θ)| .bl ω=>b l|_=>bad
def vH(a:CE):CE:=λl=>bnd (a l) λx=>match x with| .bl b=>ret (.bl !b)|_=>bad
def yR(t:CT)(a b:CE):CE:=λl=>bnd (t l) λc=>if c=θ then a l else b l
def bj(g:List D->M D)(a:CA):CE:=λl=>bnd (a l) g
def n6(a:CE):CT:=λl=>bnd (a l) Aj
def cK(a:CE):CT:=λl=>bnd (a l) λx=>match x with| .bl b=>ret b|_=>bad
def om(a b:CT):CT:=λl=>bnd (a l) λc=>if c=θ then b l else ret ω
def tR(a b:CT):CT:=λl=>bnd (a l) λc=>if c=θ then ret θ else b l
def pe(a:CT):CT:=λl=>bnd (a l) λc=>ret !c
structure Wk where
 ds:List D
 same:aY->Prop
abbrev CI:=Loc->M Wk
open Classical in
def chkS(p:aY->Prop):M Unit:=λs=>if p s then .ok Unit.unit s else .bad
noncomputable def e9:aY->Prop:=λ_=>True
noncomputable def ij(n:Nat)(ds:List D):aY->Prop:=λs=>s[n]?=ξ (.lst ds)
def fY(a:CE):CI:=λl=>bnd (a l) λx=>match x with| .tup ds=>ret ⟨ds,e9⟩| .lit ds=>ret ⟨ds,e9⟩| .ref n=>bnd (getL n) λds=>ret ⟨ds,ij n ds⟩|_=>bad
noncomputable def ib(lo:Int)(n:Nat):List D:=(bU n).map λk=>.int (lo+(k:Nat))
def fC(a:CE):CI:=λl=>bnd (a l) λx=>match x with| .int j=>chk (-(2^62)<=j/\j < 2^62) (ret ⟨ib 0 j.toNat,e9⟩)|_=>bad
def qA(a b:CE):CI:=λl=>bnd (a l) λx=>bnd (b l) λy=>match x,y with| .int i,.int j=>chk ((-(2^62)<=i/\i < 2^62)/\(-(2^62)<=j/\j < 2^62)) (ret ⟨ib i (j-i).toNat,e9⟩)|_,_=>bad
def wM(a:CA):CI:=λl=>bnd (a l) λds=>ret ⟨ds,e9⟩
def uO(a:CE):CI:=λl=>bnd (a l) λx=>match x with| .tup ds=>ret ⟨(ib 0 ⇑ds).zipWith (λi d=>.tup [i,d]) ds,e9⟩|_=>bad
abbrev CG:=D->Loc->M Loc
def aT(i:Nat):CG:=λd l=>ret (l.set i (ξ d))
def iG:List D->Loc->M Loc
 |[],l=>ret l|_,_=>bad
def cE(g:CG)(r:List D->Loc->M Loc):List D->Loc->M Loc
 |d::ds,l=>bnd (g d l) λh=>r ds h|_,_=>bad
def ir(n:Nat)(r:List D->Loc->M Loc):CG:=λd l=>match d with| .tup ds=>chk (⇑ds=n) (r ds l)|_=>bad
noncomputable def fT(n:Nat)(caps:List Nat)(l:Loc):Loc:=aE n ψ++caps.map λi=>(l[i]?).join
def collect(g:CG)(t:CT)(e:CE)(same:aY->Prop):List D->Loc->M (List D)
 |[],_=>bnd (chkS same) λ_=>ret []|d::ds,l=>bnd (chkS same) λ_=>bnd (g d l) λh=>bnd (t h) λb=>if b=θ then bnd (e h) λx=>bnd (collect g t e same ds h) λxs=>ret (x::xs) else collect g t e same ds h
def db(n:Nat)(caps:List Nat)(i:CI)(g:CG)(t:CT)(e:CE):CA:=λl=>bnd (i l) λw=>chk (⇑w.ds<=eT) (collect g t e w.same w.ds (fT n caps l))
noncomputable def gQ(n d:Nat):Option Int->Nat
 |none=>d|some v=>if v < 0 then (v+(n:Int)).toNat else min v.toNat n
def cutD(xs:List D)(lo g:Option Int):List D:=(xs.drop (gQ ⇑xs 0 lo)).take (gQ ⇑xs ⇑xs g-gQ ⇑xs 0 lo)
abbrev CO:=Loc->M (Option Int)
def o9:CO:=λ_=>ret ψ
def mK(a:CE):CO:=λl=>bnd (a l) λx=>match x with| .int i=>ret (ξ i)|_=>bad
def rM(a:CE)(lo g:CO):CA:=λl=>bnd (a l) λx=>bnd (lo l) λi=>bnd (g l) λj=>match x with| .lit ds=>ret (cutD ds i j)| .ref n=>bnd (getL n) λds=>ret (cutD ds i j)|_=>bad
def kg(a:CE)(lo g:CO):CE:=λl=>bnd (a l) λx=>bnd (lo l) λi=>bnd (g l) λj=>match x with| .tup ds=>chk (¬(gQ ⇑ds 0 i=0/\gQ ⇑ds ⇑ds j=⇑ds)) (ret (.tup (cutD ds i j)))|_=>bad
def cB:CT:=λ_=>ret θ
def cD(a:CA):CE:=λl=>bnd (a l) λds=>alloc (.lst ds)
def dW(a:CA):CA:=λl=>bnd (a l) λxs=>chk (⇑xs<=eT) (ret xs)
def iP(a:CA)(b:CE):CE:=λl=>bnd (a l) λds=>bnd (b l) λi=>match i with| .int k=>cu ds k|_=>bad
def kq(g:List D->M D)(a:CA):CE:=λl=>bnd (a l) g
def aZ:CS:=λl=>ret (.next l)
def aN(a b:CS):CS:=λl=>bnd (a l) λf=>match f with| .next l'=>b l'|f=>ret f
def bM(g:CG)(a:CE):CS:=λl=>bnd (a l) λd=>bnd (g d l) λh=>ret (.next h)
def dj(a:CE):CS:=λl=>bnd (a l) λd=>ret (.ret d)
def fZ(a:CE):CS:=λl=>bnd (a l) λ_=>ret (.next l)
def lY(t:CT)(a b:CS):CS:=λl=>bnd (t l) λc=>if c=θ then a l else b l
def kM(g:CG)(b:CS)(same:aY->Prop):List D->CS
 |[],l=>bnd (chkS same) λ_=>ret (.next l)
 |d::ds,l=>bnd (chkS same) λ_=>bnd (g d l) λh=>bnd (b h) λf=>match f with| .next l2=>kM g b same ds l2| .cnt l2=>kM g b same ds l2| .brk l2=>ret (.next l2)| .ret d=>ret (.ret d)
def hU(i:CI)(g:CG)(b:CS):CS:=λl=>bnd (i l) λw=>kM g b w.same w.ds l
def uz:su->M D
 | .ret d=>ret d| .next _=>ret .non|_=>bad
def bR(n:Nat)(g:CS)(ds:List D):M D:=bnd (g (ds.map ξ++aE (n-⇑ds) ψ)) uz
def ni(o i v:D):M Unit:=match o,i with
 | .ref n,.int k=>bnd (getL n) λds=>match sK ⇑ds k with|some j=>putL n (ds.set j v)|none=>bad
 | .dic n,k=>storeK n k v|_,_=>bad
def kN(o i:CE):CG:=λv l=>bnd (o l) λy=>bnd (i l) λz=>bnd (ni y z v) λ_=>ret l
def eN:D->M D
 | .tup ds=>ret (.int ⇑ds)| .lit ds=>ret (.int ⇑ds)| .ref n=>bnd (getL n) λds=>ret (.int ⇑ds)| .str x=>chk (⇑x<=eT) (ret (.int ⇑x))| .dic n=>bnd (getDc n) λp=>ret (.int ⇑p.2)|_=>bad
def wj(n:Nat)(v:D):M D:=bnd (getL n) λds=>chk (⇑ds < eT) (bnd (putL n (ds++[v])) λ_=>ret .non)
def dI(a b:CE):CE:=λl=>bnd (a l) λx=>match x with| .ref n=>bnd (b l) λv=>wj n v|_=>bad
def pV(a:CE):CE:=λl=>bnd (a l) λx=>match x with| .ref n=>bnd (putL n []) λ_=>ret .non|_=>bad
def intD:D->M D
 | .int i=>ret ↑i| .bl b=>ret ↑(if b then 1 else 0)|_=>bad
def tupleD:D->M D
 | .tup ds=>ret (.tup ds)| .lit ds=>ret (.tup ds)| .ref n=>bnd (getL n) λds=>ret (.tup ds)|_=>bad
noncomputable def uC:D->Option (List String)
 | .non=>ξ ["NoneType"]| .bl _=>ξ ["bool","int"]| .int _=>ξ ["int"]| .str _=>ξ ["str"]| .tup _=>ξ ["tuple"]| .lit _=>ξ ["list"]| .ref _=>ξ ["list"]|_=>ψ
noncomputable def lE:List D->Option (List Int)
 |[]=>ξ []| .int i::ds=>(lE ds).map (i::·)|_=>ψ
noncomputable def nu:List D->Option (List Bool)
 |[]=>ξ []| .bl b::ds=>(nu ds).map (b::·)|_=>ψ
def vB(ds:List D):M D:=match lE ds with|some (n::ns)=>ret ↑(ns.foldl max n)|_=>bad
def wN(ds:List D):M D:=match nu ds with|some bs=>ret (.bl (bs.any id))|_=>bad
def mS(ds:List D):M D:=ret (.tup ds)
def kc(g:List String)(d:D):M D:=match uC d with|some us=>ret (.bl (g.any λt=>us.contains t))|none=>bad
def Ap:D->D->M D
 | .bl a,.bl b=>ret (.bl (a == b))|x,.non=>FU x|_,_=>bad
def qz:D->D->M D
 | .bl a,.bl b=>ret (.bl !(a == b))|x,.non=>HF x|_,_=>bad
noncomputable def lG:D->Bool
 | .non=>θ| .bl _=>θ| .int _=>θ| .str _=>θ|_=>ω
noncomputable def vI:D->D->Bool
 | .non,.non=>θ| .bl a,.bl b=>a == b| .bl a,.int b=>(if a then 1 else 0) == b| .int a,.bl b=>a == (if b then 1 else 0)| .int a,.int b=>a == b| .str a,.str b=>a == b|_,_=>ω
def Gp(x:D)(ds:List D):M D:=chk (lG x=θ/\ds.all lG=θ) (ret (.bl (ds.any λd=>vI d x)))
def Av(x:D)(ds:List D):M D:=chk (lG x=θ/\ds.all lG=θ) (ret (.bl !(ds.any λd=>vI d x)))
def Ge(x y:D):M D:=match y with| .dic n=>bnd (hasK n x) λb=>ret (.bl b)|y=>bnd (uB y) (Gp x)
def nS(x y:D):M D:=match y with| .dic n=>bnd (hasK n x) λb=>ret (.bl !b)|y=>bnd (uB y) (Av x)
noncomputable def rH(b:Bool)(g:List (D×D)):M D:=λs=>.ok (.dic ⇑s) (s++[.dct b g])
def rK(b:Bool):CE:=λ_=>rH b []
def uQ(ks:List D)(vs:CA):CE:=λl=>bnd (vs l) λxs=>chk (⇑ks=⇑xs) (rH ω (uD [] (ks.zip xs)))
def oH(a:CA)(b:CE):CA:=λl=>bnd (a l) λxs=>bnd (b l) λk=>match k with| .int k=>chk ((-(2^63)<=k/\k < 2^63)/\⇑xs*k.toNat<=eT) (ret (aE k.toNat xs).flatten)|_=>bad
def xZ(a:CA):CA:=λl=>bnd (a l) λds=>ret ds.reverse
def wk:D->D->M D:=tS λi j=>ret ↑(min i j)
def v_:D->D->M D:=tS λi j=>ret ↑(max i j)
def tf(d:D):M D:=bnd (uB d) λds=>alloc (.lst ds)
def wO(a:CE):CE:=λl=>bnd (a l) λx=>match x with
 | .ref n=>bnd (getL n) λds=>match ds.getLast? with|some d=>bnd (putL n ds.dropLast) λ_=>ret d|none=>bad
 |_=>bad
def uI(a:CE):CA:=λl=>bnd (a l) λx=>match x with| .ref n=>getL n |> λm=>bnd m λds=>ret ds.reverse|_=>bad
def cF(t:CT)(b:CS):Nat->CS
 |0=>λ_=>bad
 |n+1 => λl => bnd (t l) λc => if c = θ then bnd (b l) λf => match f with| .next l2=>cF t b n l2| .cnt l2=>cF t b n l2| .brk l2=>ret (.next l2)| .ret d=>ret (.ret d) else ret (.next l)
open Classical in
def gL(t:CT)(b:CS):CS:=λl s=>if h:∃n,(∀r,cF t b n l s=r->r≠.bad) then cF t b (choose h) l s else .bad
end MM
namespace MM
open PySem PySem.Spec PyProof.Rows L2
abbrev St:=L2.St
def xG(K:aq)(H:Hp)(a:ak)(xs:List V):Prop:=
 (∃o,H a=ξ (.frz o (.lst xs))) \/
  ∃(o:Obj)(its:Array ae)(n:Nat),K.lookup a=ξ o/\o.cls=.type "list"/\o.dict=ψ/\o.data=.seq its n/\its.size<=sizeLine/\bX xs its.toList
theorem xG.seq{K:aq}(h:xG K H a xs):ie K H a xs:=by
 rcases h with ⟨o,h⟩|h
 ·exact .inl (.inr ⟨o,h⟩)
 ·exact .inr h
noncomputable def kO:HO->Nat
 | .lst _=>0| .dK _=>1| .ext _=>2| .tbl _=>4|_=>3
abbrev NK:=List KI
def nH(k:NK):Int:=o7 k
def FT(x:NK×ak×ae):kl:=⟨nH x.1,.ref x.2.1,x.2.2⟩
def NOk(a:ak)(es:List (NK×ak×V))(h:bC):Prop:=⇑es<=sizeLine/\(a == dB)=ω/\∃xs:List (NK×ak×ae),iS (λ(p:NK×ak×V)(q:NK×ak×ae)=>p.1=q.1/\p.2.1=q.2.1/\RelV p.2.2 q.2.2) es xs /\
 ∃o g ep,h.get? a=ξ o/\o.ExactDict/\o.data=.dict g ep/\g.toList=xs.map FT/\(xs.map (·.1)).Nodup/\ep=⇑xs
def nY(a:ak)(es:List (NK×ak×V)):HO:=.ext (NOk a es)
def W5(a:ak)(es:List (NK×ak×V))(h:bC):Prop:=⇑es<=sizeLine/\(a == dB)=ω/\∃xs:List (NK×ak×ae),iS (λ(p:NK×ak×V)(q:NK×ak×ae)=>p.1=q.1/\p.2.1=q.2.1/\RelV p.2.2 q.2.2) es xs /\
 ∃o g ep,h.get? a=ξ o/\o.ExactDict/\o.data=.dict g ep/\g.toList=xs.map FT/\(xs.map (·.1)).Nodup
def nfO(a:ak)(es:List (NK×ak×V)):HO:=.ext (W5 a es)
noncomputable def EQ(r:List Int):D:=.tup (r.map .int)
def qX:KI->D
 | .inl i=>.int i| .inr r=>EQ r
def tq(k:NK):D:=.tup (k.map qX)
def n8:Key->D
 | .inl i=>.int i| .inr x=>.str x
noncomputable def zi(x:Str)(vs:Array ae):Prop:=x=al "NoText"\/vs[2]?=ξ bL
mutual
inductive da(K:aq)(ρ:List ak)(H:Hp):V->D->Prop
 |non:da K ρ H .non .non|bl (b:Bool):da K ρ H (.bl b) (.bl b)|int (i:Int):da K ρ H ↑i ↑i|str (x:Str):da K ρ H (.str x) (.str x)|tup {a:ak}{vs:List V}{ds:List D} (h:kZ K H a vs) (r:bQ K ρ H vs ds):da K ρ H (.ref a) (.tup ds)|lit {a:ak}{vs:List V}{ds:List D} (h:xG K H a vs) (r:bQ K ρ H vs ds):da K ρ H (.ref a) (.lit ds)|ref {a:ak}{n:Nat} (k:∃o,H a=ξ o/\kO o=0) (h:ρ[n]?=ξ a):da K ρ H (.ref a) (.ref n)|dic {a:ak}{n:Nat} (k:∃o,H a=ξ o/\(kO o=1\/kO o=2)) (h:ρ[n]?=ξ a):da K ρ H (.ref a) (.dic n)|exn0 {a C:ak}{x:Str} (g:iT K bN x=ξ (ξ (.ref C))) (h:∃o,H a=ξ (.frz o (.own a))/\o.cls=.ref C):da K ρ H (.ref a) (.exn x [])|exn {a C dx:ak}{x f:Str}{v:V}{d:D} (g:iT K bN x=ξ (ξ (.ref C))) (h:∃o,H a=ξ (.frz o (.own a))/\o.cls=.ref C/\o.dict=ξ dx/\∃vs,o.data=.fields vs/\zi x vs) (h2:H dx=ξ (.xd [(f,v)])) (r:da K ρ H v d):da K ρ H (.ref a) (.exn x [.str f,d])|fn {a:ak}{n:Nat} (h:ρ[n]?=ξ a):da K ρ H (.ref a) (.fn n)
inductive bQ(K:aq)(ρ:List ak)(H:Hp):List V->List D->Prop
 |nil:bQ K ρ H [] []|cons {v:V}{d:D}{vs:List V}{ds:List D} (r:da K ρ H v d) (t:bQ K ρ H vs ds):bQ K ρ H (v::vs) (d::ds)
end
def Nj(K:aq)(ρ:List ak)(H:Hp)(v:V):D->Prop
 | .non=>v=.non| .bl b=>v=.bl b| .int i=>v=.int i| .str x=>v=.str x| .tup ds=>∃a vs,v=.ref a/\kZ K H a vs/\bQ K ρ H vs ds| .lit ds=>∃a vs,v=.ref a/\xG K H a vs/\bQ K ρ H vs ds| .ref n=>∃a,v=.ref a/\(∃o,H a=ξ o/\kO o=0)/\ρ[n]?=ξ a| .dic n=>∃a,v=.ref a/\(∃o,H a=ξ o/\(kO o=1\/kO o=2))/\ρ[n]?=ξ a| .fn n=>∃a,v=.ref a/\ρ[n]?=ξ a|_=>True
theorem da.inv{K:aq}(r:da K ρ H v d):Nj K ρ H v d:=by
 cases r with|non=>rfl|bl=>rfl|int=>rfl|str=>rfl|tup h q=>exact⟨_,_,rfl,h,q⟩|lit h q=>exact⟨_,_,rfl,h,q⟩|ref k h=>exact⟨_,rfl,k,h⟩|dic k h=>exact⟨_,rfl,k,h⟩|exn0=>trivial|exn=>trivial|fn h=>exact⟨_,rfl,h⟩
noncomputable def sG(H:Hp)(c:ak)(q:Str):Prop:=∃g vs t,H c=ξ (.frz g (.frz g (.own c)))/\g.data=.fields vs/\vs[1]?=ξ (.str q t)
def Mo(H:Hp)(a:ak)(e:Expr):Prop:=∃ps b sc p q c g ct,e=.Lambda ps b sc p/\H a=ξ (.frz (xM "<lambda>" q ps b sc [] g c ct) (.own a))/\sG H c q
noncomputable def TabOf(K:aq)(x:Str)(a:ak):Prop:=∃f o g c,iT K bN x=ξ (ξ (.ref f))/\K.lookup f=ξ o/\o.data=.func g/\g.code=.ref c/\qp K c a=θ
noncomputable def Lr(x w:Str):Str:=x++".<locals>."++w
def LC(K:aq)(H:Hp)(a:ak)(x w:Str):Prop:=TabOf K x a/\∃ps,H a=ξ (.tbl ps)/\TriplesOk ps.toList/\∀p v,codeAmong p ps.toList=ξ v->∃c,v=.ref c/\sG H c (Lr x w)
def vX(K:aq)(ρ:List ak)(H:Hp)(p:Str×ak)(d:D):Prop:=∃o u v,H p.2=ξ (.frz o (.frz o (.own p.2)))/\o.data=.cell (ξ u)/\RelV v u/\da K ρ H v d
noncomputable def N6(c:uU)(o:b_)(q:Str)(z:ak)(u:List (Str×ak)):Prop:=match c with| .lam e=>∃ps b sc p h ct,e=.Lambda ps b sc p/\o=PySem.W.kla_fn "<lambda>" q ps b sc u h (.ref z) ct| .dfn st=>∃l ps g ds rt E sc C H p G h ct,st=.FunctionDef l ps g ds rt E sc C H p/\o=PySem.W.fnX l q ps g sc u .none .none G h ψ (.ref z) ct
noncomputable def Ko(names:List (Str×fe)):List Str:=((names.filter λy=>y.2 == .free).map (·.1)).reverse
def Lz(K:aq)(ρ:List ak)(H:Hp)(a:ak)(c:uU)(vs:List D):Prop:=∃o h q l g,H a=ξ (.frz o (.own a))/\o.data=.func h/\N6 c h q l g/\sG H l q/\((g.map (·.2)).Nodup/\g.map (·.1)=Ko h.scope.names)/\iS (vX K ρ H) g vs
def rO(K:aq)(ρ:List ak)(H:Hp)(a:ak):MO->Prop
 | .lst ds=>∃vs,H a=ξ (.lst vs)/\bQ K ρ H vs ds| .dct ω cx=>∃es,H a=ξ (.dK es)/\iS (λ(p:Key×V)(q:D×D)=>n8 p.1=q.1/\da K ρ H p.2 q.2) es cx| .lam e=>Mo H a e| .tbl x w=>LC K H a x w| .clo c vs=>Lz K ρ H a c vs| .ded=>∃o,H a=ξ (.frz o (.own a))| .dcf cx=>∃es,H a=ξ (nfO a es)/\iS (λ(p:NK×ak×V)(q:D×D)=>tq p.1=q.1/\da K ρ H (.ref p.2.1) q.1/\da K ρ H p.2.2 q.2) es cx| .dct θ cx=>∃es,H a=ξ (nY a es)/\iS (λ(p:NK×ak×V)(q:D×D)=>tq p.1=q.1/\da K ρ H (.ref p.2.1) q.1/\da K ρ H p.2.2 q.2) es cx
structure SR(K:aq)(ρ:List ak)(H:Hp)(st:aY):Prop where
 len:⇑ρ=⇑st
 nd:ρ.Nodup
 ob:∀(n:Nat)(a:ak)(o:MO),ρ[n]?=ξ a->st[n]?=ξ o->rO K ρ H a o
noncomputable def LR(K:aq)(ρ:List ak)(H:Hp)(σ:St)(l:Loc):Prop:=
 ⇑σ=⇑l/\∀(i:Nat)(d:D),l[i]?=ξ (ξ d)->∃v,σ[i]?=ξ (ξ v)/\da K ρ H v d
structure Ex(ρ:List ak)(H:Hp)(ρ':List ak)(H':Hp):Prop where
 pre:∃τ,ρ'=ρ++τ/\∀a∈τ,H a=ψ
 fix:∀a o,kO o=3->H a=ξ o->H' a=ξ o
 oth:∀a o,a∉ρ->H a=ξ o->H' a=ξ o
 knd:∀a o,H a=ξ o->∃o',H' a=ξ o'/\kO o'=kO o
structure Up(ρ:List ak)(H:Hp)(ρ':List ak)(H':Hp):Prop where
 pre:∃τ,ρ'=ρ++τ
 fix:∀a o,kO o=3->H a=ξ o->H' a=ξ o
 knd:∀a o,H a=ξ o->∃o',H' a=ξ o'/\kO o'=kO o
section
variable{K:aq}{ρ ρ1 ρ2:List ak}{H H1 H2:Hp}{st df:aY}{v:V}{d:D}{vs:List V}{ds:List D}{a:ak}
theorem Ex.lst(x:Ex ρ H ρ1 H1)(a:ak)(xs:List V)(g:a∉ρ)(h:H a=ξ (.lst xs)):H1 a=ξ (.lst xs):=x.oth a _ g h
theorem Ex.trk(x:Ex ρ H ρ1 H1)(a:ak)(o:HO)(h:H a=ξ o):H1 a≠none:=by let⟨o',e,_⟩:=x.knd a o h;rw[e];exact λz=>(by cases z)
theorem Ex.up(x:Ex ρ H ρ1 H1):Up ρ H ρ1 H1:=⟨let ⟨τ,e,_⟩:=x.pre;⟨τ,e⟩,x.fix,x.knd⟩
theorem Up.grow:Up ρ H (ρ++τ) H:=⟨⟨τ,rfl⟩,λ_ _ _ e=>e,λ_ o e=>⟨o,e,rfl⟩⟩
theorem Ex.refl:Ex ρ H ρ H:=⟨⟨[],by simp,by simp⟩,λ_ _ _ e=>e,λ_ _ _ e=>e,λ_ o e=>⟨o,e,rfl⟩⟩
theorem Ex.trans(x:Ex ρ H ρ1 H1)(y:Ex ρ1 H1 ρ2 H2):Ex ρ H ρ2 H2:=by
 let⟨τ1,rfl,l⟩:=x.pre;let⟨τ2,rfl,I⟩:=y.pre;refine⟨⟨τ1++τ2,by simp,λa g=>?_⟩,λa o no e=>y.fix a o no (x.fix a o no e),λa o h e=>?_,λa o e=>?_⟩
 ·rcases aS.mp g with g|g
  ·exact l a g
  ·cases q:H a with|none=>rfl|some o=>exact bw (I a g) (x.trk a o q)
 ·refine y.oth a o (λz=>?_) (x.oth a o h e);rcases aS.mp z with z|z
  ·exact h z
  ·rw[l a z]at e;cases e
 ·let⟨C,L,G⟩:=x.knd a o e;let⟨u,J,E⟩:=y.knd a C L;exact⟨u,J,E.trans G⟩
theorem Ex.new(h:H a=ψ):Ex ρ H ρ (eE H a o):=
 ⟨⟨[],by simp,by simp⟩,λb u _ e=>by rw[e8 (nV e h)];exact e,λb u _ e=>by rw[e8 (nV e h)];exact e,
  λb u e=>⟨u,by rw[e8 (nV e h)];exact e,rfl⟩⟩
theorem Ex.newO(h:H a=ψ):Ex ρ H (ρ++[a]) (eE H a o):=
 ⟨⟨[a],rfl,λb g=>by rw[aD]at g;rw[g];exact h⟩,(Ex.new (ρ:=ρ) h).fix,(Ex.new (ρ:=ρ) h).oth,(Ex.new (ρ:=ρ) h).knd⟩
theorem Ex.newL(h:H a=ψ):Ex ρ H (ρ++[a]) (eE H a (.lst vs)):=Ex.newO h
theorem kZ.mono(x:Up ρ H ρ1 H1)(h:kZ K H a vs):kZ K H1 a vs:=by
 rcases h with h|h
 ·rcases h with h|⟨o,h⟩
  ·exact .inl (.inl (x.fix a _ rfl h))
  ·exact .inl (.inr ⟨o,x.fix a _ rfl h⟩)
 ·exact .inr h
theorem xG.mono(x:Up ρ H ρ1 H1)(h:xG K H a vs):xG K H1 a vs:=by
 rcases h with ⟨o,h⟩|h
 ·exact .inl ⟨o,x.fix a _ rfl h⟩
 ·exact .inr h
theorem GG{α:Type}{l τ:List α}{n:Nat}{a:α}(h:l[n]?=ξ a):(l++τ)[n]?=ξ a:=by rw[aI (ac.mp h).1];exact h
structure Ab(K:aq)(ρ:List ak)(H:Hp)(ρ1:List ak)(H1:Hp):Prop where
 sq:∀{a:ak}{vs:List V},kZ K H a vs->kZ K H1 a vs
 fz:∀{a:ak}{vs:List V},xG K H a vs->xG K H1 a vs
 kd:∀{a:ak}{o:HO},H a=ξ o->kO o≠3->∃o',H1 a=ξ o'/\kO o'=kO o
 rt:∀{n:Nat}{a:ak},ρ[n]?=ξ a->ρ1[n]?=ξ a
 ow:∀{a C:ak},(∃o,H a=ξ (.frz o (.own a))/\o.cls=.ref C)->∃o,H1 a=ξ (.frz o (.own a))/\o.cls=.ref C
 ex:∀{a C dx:ak}{x:Str},(∃o,H a=ξ (.frz o (.own a))/\o.cls=.ref C/\o.dict=ξ dx/\∃vs,o.data=.fields vs/\zi x vs)->∃o,H1 a=ξ (.frz o (.own a))/\o.cls=.ref C/\o.dict=ξ dx/\∃vs,o.data=.fields vs/\zi x vs
 xd:∀{a:ak}{fs:List (Str×V)},H a=ξ (.xd fs)->H1 a=ξ (.xd fs)
theorem da.map(m:Ab K ρ H ρ1 H1)(r:da K ρ H v d):da K ρ1 H1 v d:=
 da.rec (motive_1:=λv d _=>da K ρ1 H1 v d) (motive_2:=λvs ds _=>bQ K ρ1 H1 vs ds) .non .bl .int .str (λh _ r=>.tup (m.sq h) r) (λh _ r=>.lit (m.fz h) r)
  (λk h=>.ref (by let⟨o,u,l⟩:=k;let⟨o',e,k⟩:=m.kd u (by rw[l];decide);exact⟨o',e,k.trans l⟩) (m.rt h))
  (λk h=>.dic (by let⟨o,u,l⟩:=k;let⟨o',e,k⟩:=m.kd u ();exact⟨o',e,by rw[k];exact l⟩) (m.rt h))
  (λg h=>.exn0 g (m.ow h)) (λg h z _ r=>.exn g (m.ex h) (m.xd z) r) (λh=>.fn (m.rt h)) .nil (λ_ _ r t=>.cons r t) r
theorem bQ.map(m:Ab K ρ H ρ1 H1)(h:bQ K ρ H vs ds):bQ K ρ1 H1 vs ds:=by
 induction ds generalizing vs with|nil=>cases h;exact .nil|cons d ds ih=>cases h with|cons r t=>exact .cons (r.map m) (ih t)
theorem Up.rmap(x:Up ρ H ρ1 H1):Ab K ρ H ρ1 H1 where
 sq:=kZ.mono x
 fz:=xG.mono x
 kd h _:=x.knd _ _ h
 rt h:=by let⟨τ,e⟩:=x.pre;rw[e];exact GG h
 ow:=λl=>by let⟨o,h,c⟩:=l;exact⟨o,x.fix _ _ rfl h,c⟩
 ex:=λg=>by let⟨o,h,c⟩:=g;exact⟨o,x.fix _ _ rfl h,c⟩
 xd h:=x.fix _ _ rfl h
theorem da.up(x:Up ρ H ρ1 H1)(r:da K ρ H v d):da K ρ1 H1 v d:=r.map x.rmap
theorem bQ.up(x:Up ρ H ρ1 H1)(r:bQ K ρ H vs ds):bQ K ρ1 H1 vs ds:=r.map x.rmap
theorem da.mono(r:da K ρ H v d)(x:Ex ρ H ρ1 H1):da K ρ1 H1 v d:=r.up x.up
theorem bQ.mono(r:bQ K ρ H vs ds)(x:Ex ρ H ρ1 H1):bQ K ρ1 H1 vs ds:=r.up x.up
theorem bQ.length(h:bQ K ρ H vs ds):⇑vs=⇑ds:=by
 induction ds generalizing vs with|nil=>cases h;rfl|cons d ds ih=>cases h with|cons _ t=>simp[ih t]
theorem bQ.get{i:Nat}(h:bQ K ρ H vs ds)(e:ds[i]?=ξ d):∃v,vs[i]?=ξ v/\da K ρ H v d:=by
 induction ds generalizing vs i with|nil=>cases e|cons x ds ih=>
  cases h with|cons r t=>
   cases i with|zero=>cases e;exact⟨_,rfl,r⟩|succ i=>let⟨v,l,g⟩:=ih (i:=i) t e;exact⟨v,l,g⟩
theorem bQ.app(h:bQ K ρ H vs ds)(q:bQ K ρ H ws es):bQ K ρ H (vs++ws) (ds++es):=by
 induction ds generalizing vs with|nil=>cases h;exact q|cons d ds ih=>cases h with|cons r t=>exact .cons r (ih t)
theorem bQ.set(i:Nat)(h:bQ K ρ H vs ds)(q:da K ρ H v d):bQ K ρ H (vs.set i v) (ds.set i d):=by
 induction ds generalizing vs i with|nil=>cases h;exact .nil|cons x ds ih=>
  cases h with|cons r t=>
   cases i with|zero=>exact .cons q t|succ i=>exact .cons r (ih i t)
theorem bQ.take(n:Nat)(h:bQ K ρ H vs ds):bQ K ρ H (vs.take n) (ds.take n):=by
 induction ds generalizing vs n with|nil=>cases h;rw[DF,DF];exact .nil|cons x ds ih=>
  cases h with|cons r t=>
   cases n with|zero=>exact .nil|succ n=>exact .cons r (ih n t)
theorem bQ.drop(n:Nat)(h:bQ K ρ H vs ds):bQ K ρ H (vs.drop n) (ds.drop n):=by
 induction ds generalizing vs n with|nil=>cases h;rw[DG,DG];exact .nil|cons x ds ih=>
  cases h with|cons r t=>
   cases n with|zero=>exact .cons r t|succ n=>exact ih n t
theorem LR.mono(x:Ex ρ H ρ1 H1)(h:LR K ρ H σ l):LR K ρ1 H1 σ l:=
 ⟨h.1,λi d e=>let ⟨v,e1,r⟩:=h.2 i d e;⟨v,e1,r.mono x⟩⟩
theorem SR.at(s:SR K ρ H st){n:Nat}(e:st[n]?=ξ o):∃a,ρ[n]?=ξ a/\rO K ρ H a o:=by
 let g:n < ⇑ρ:=by rw[s.len];exact (ac.mp e).1
 let q:ρ[n]?=ξ ρ[n]:=ag g;exact⟨_,q,s.ob n _ o q e⟩
theorem SR.seq(s:SR K ρ H st){n:Nat}(e:st[n]?=ξ (.lst ds)):∃a vs,ρ[n]?=ξ a/\H a=ξ (.lst vs)/\bQ K ρ H vs ds:=by let⟨a,h,vs,q,r⟩:=s.at e;exact⟨a,vs,h,q,r⟩
theorem rO.ex(h:rO K ρ H a o):∃u,H a=ξ u:=by
 cases o with|lam e=>let⟨_,_,_,_,_,_,_,_,_,q,_⟩:=h;exact⟨_,q⟩|tbl x w=>let⟨_,_,q,_⟩:=h;exact⟨_,q⟩|dcf cx=>let⟨_,q,_⟩:=h;exact⟨_,q⟩|clo c vs=>let⟨_,_,_,_,_,q,_⟩:=h;exact⟨_,q⟩|ded=>let⟨_,q⟩:=h;exact⟨_,q⟩|lst ds=>let⟨vs,q,_⟩:=h;exact⟨_,q⟩|dct b cx=>cases b<;>(let⟨vs,q,_⟩:=h;exact⟨_,q⟩)
theorem SR.fresh(s:SR K ρ H st)(h:H a=ψ):a∉ρ:=λz=>by
 let⟨n,g⟩:=eU z;let l:n < ⇑st:=by rw[<- s.len];exact (ac.mp g).1
 let⟨u,q⟩:=rO.ex (s.ob n a _ g (ag l));rw[h]at q;cases q
theorem Tt{n:Nat}(h:getL n st=.ok xs s'):s'=st/\st[n]?=ξ (.lst xs):=by
 unfold getL at h;cases e:st[n]? with|none=>rw[e]at h;cases h|some o=>
  rw[e]at h;cases o with|lst ds=>cases h;exact⟨rfl,rfl⟩|_=>cases h
theorem iS.mapS{α β:Type}{F G:α->β->Prop}:∀{l₁:List α}{l₂:List β},iS F l₁ l₂->(∀a b,F a b->G a b)->iS G l₁ l₂
 |_,_,.nil,_=>.nil|_,_,.cons r t,f=>.cons (f _ _ r) (iS.mapS t f)
theorem sG.up(x:Up ρ H ρ1 H1)(h:sG H c q):sG H1 c q:=by obtain ⟨g,vs,t,e,r⟩:=h;exact ⟨g,vs,t,x.fix _ _ rfl e,r⟩
theorem vX.up(x:Up ρ H ρ1 H1)(h:vX K ρ H p d):vX K ρ1 H1 p d:=by obtain ⟨o,u,v,z,l,g,r⟩:=h;exact ⟨o,u,v,x.fix _ _ rfl z,l,g,r.up x⟩
theorem rO.mono(x:Up ρ H ρ1 H1)(h:rO K ρ H a o)(g:∀u,H a=ξ u->H1 a=ξ u):rO K ρ1 H1 a o:=by
 cases o with
 |lam e=>
  let⟨ps,b,sc,p,q,c,G,ct,E,C,l⟩:=h;exact⟨ps,b,sc,p,q,c,G,ct,E,g _ C,l.up x⟩
 |tbl y w=>
  let⟨t,ps,E,C,l⟩:=h;exact⟨t,ps,g _ E,C,λp v z=>let ⟨c,a,b⟩:=l p v z;⟨c,a,b.up x⟩⟩
 |clo c vs=>
  let⟨o,I,q,U,Q,E,C,l,O,L,J⟩:=h;exact⟨o,I,q,U,Q,g _ E,C,l,O.up x,L,iS.mapS J λ_ _ z=>z.up x⟩
 |ded=>let⟨u,e⟩:=h;exact⟨u,g _ e⟩|dcf cx=>
  let⟨es,q,r⟩:=h;exact⟨es,g _ q,iS.mapS r λp q z=>⟨z.1,z.2.1.up x,z.2.2.up x⟩⟩
 |lst ds=>
  let⟨vs,q,r⟩:=h;exact⟨vs,g _ q,r.up x⟩
 |dct b cx=>
  cases b with
  |false=>
   let⟨es,q,r⟩:=h;exact⟨es,g _ q,iS.mapS r λp q z=>⟨z.1,z.2.up x⟩⟩
  |true=>
   let⟨es,q,r⟩:=h;exact⟨es,g _ q,iS.mapS r λp q z=>⟨z.1,z.2.1.up x,z.2.2.up x⟩⟩
theorem SR.new(s:SR K ρ H st)(h:H a=ψ):SR K ρ (eE H a o) st:=
 ⟨s.len,s.nd,λn b ob l g=>rO.mono (o:=ob) (Ex.new (ρ:=ρ) h).up (s.ob n b ob l g) λvs q=>by rw[e8 (nV q h)];exact q⟩
theorem SR.keepO(s:SR K ρ H st)(E:a∉ρ)(r:rO K ρ H a o'):SR K (ρ++[a]) H (st++[o']):=by
 let C:=s.len;let old:∀(n:Nat)(b:ak),(ρ++[a])[n]?=ξ b->(n < ⇑ρ/\ρ[n]?=ξ b)\/(n=⇑ρ/\b=a):=λn b e=>by
  by_cases g:n < ⇑ρ
  ·rw[aI g]at e;exact .inl ⟨g,e⟩
  ·rw[bv ()]at e;let hz:n - ⇑ρ=0:=by
    cases q:n - ⇑ρ with|zero=>rfl|succ k=>rw[q]at e;simp at e
   rw[hz]at e;simp at e;exact .inr ⟨by ext,e.symm⟩
 refine⟨by simp[C],d6.mpr ⟨s.nd,by simp,λx G y u=>?_⟩,λn b o I h=>?_⟩
 ·rw[aD]at u;subst u;exact λz=>E (z ▸ G)
 ·rcases old n b I with ⟨g,l⟩|⟨g,l⟩
  ·rw[aI ()]at h;exact rO.mono (o:=o) Up.grow (s.ob n b o l h) λ_ q=>q
  ·subst l;have:o=o':=by rw[g,C,bv (aA _)]at h;simp at h;exact h.symm
   subst this;exact rO.mono (o:=o) Up.grow r λ_ q=>q
theorem SR.keep(s:SR K ρ H st)(h:H a=ξ (.lst vs))(g:a∉ρ)(r:bQ K ρ H vs ds):SR K (ρ++[a]) H (st++[.lst ds]):=s.keepO g ⟨vs,h,r⟩
theorem SR.putO(s:SR K ρ H st){n:Nat}(G:n < ⇑st)(l:ρ[n]?=ξ a)(hu:H a=ξ u)(E:kO u≠3)(I:kO u'=kO u)(r:rO K ρ (eE H a u') a o'):SR K ρ (eE H a u') (st.set n o')/\Ex ρ H ρ (eE H a u'):=by
 let x:Ex ρ H ρ (eE H a u'):=by
  refine⟨⟨[],by simp,by simp⟩,λb o no q=>?_,λb xs C q=>?_,λb o q=>?_⟩
  ·have:b≠a:=λz=>by subst z;rw[hu]at q;cases q;exact E no
   rw[e8 this];exact q
  ·have:b≠a:=λz=>by subst z;exact C (aJ l)
   rw[e8 this];exact q
  ·by_cases z:b=a
   ·subst z;rw[hu]at q;cases q;exact⟨u',ik,I⟩
   ·exact⟨o,by rw[e8 z];exact q,rfl⟩
 refine⟨⟨by simp[s.len],s.nd,λm b o g h=>?_⟩,x⟩;by_cases z:m=n
 ·subst z;rw[l]at g;cases g;rw[ax G]at h;cases h;exact r
 ·rw[aw (du z)]at h;refine rO.mono (o:=o) x.up (s.ob m b o g h) λJ q=>?_;have:b≠a:=λw=>by subst w;exact z ((mh (ac.mp g).1 s.nd).mp (g.trans l.symm))
  rw[e8 this];exact q
theorem SR.put(s:SR K ρ H st){n:Nat}(h:n < ⇑st)(l:ρ[n]?=ξ a)(g:H a=ξ (.lst ws))(r:bQ K ρ H vs ds):SR K ρ (eE H a (.lst vs)) (st.set n (.lst ds))/\Ex ρ H ρ (eE H a (.lst vs)):=by
 let u:Up ρ H ρ (eE H a (.lst vs)):=by
  refine⟨⟨[],by simp⟩,λb o no q=>?_,λb o q=>?_⟩
  ·have:b≠a:=λz=>by subst z;rw[g]at q;cases q;cases no
   rw[e8 this];exact q
  ·by_cases z:b=a
   ·subst z;rw[g]at q;cases q;exact⟨_,ik,rfl⟩
   ·exact⟨o,by rw[e8 z];exact q,rfl⟩
 exact s.putO h l g (by show (0:Nat)≠3;decide) rfl ⟨vs,ik,r.up u⟩
theorem NL(k:∃o,H a=ξ o/\kO o=0):∃vs,H a=ξ (.lst vs):=by
 let⟨o,e,g⟩:=k;cases o with|lst vs=>exact⟨vs,e⟩|_=>cases g
noncomputable def ba{α:Type}(K:aq)(ρ:List ak)(H:Hp)(r:Rs α)(R:α->aY->List ak->Hp->Prop):Prop:=match r with| .ok a st=>∀ρ' H',Ex ρ H ρ' H'->SR K ρ' H' st->R a st ρ' H'|_=>False
theorem ba.left{α:Type}{r:Rs α}{R:α->aY->List ak->Hp->Prop}(x:Ex ρ H ρ1 H1)(h:ba K ρ H r R):ba K ρ1 H1 r R:=by
 cases r with|ok a st=>exact λρ' g y s=>h ρ' g (x.trans y) s|exc _ _=>exact h|bad=>exact h
theorem ba.imp{α:Type}{r:Rs α}{R l:α->aY->List ak->Hp->Prop}(h:ba K ρ H r R)(f:∀a st ρ' g,Ex ρ H ρ' g->SR K ρ' g st->R a st ρ' g->l a st ρ' g):ba K ρ H r l:=by
 cases r with|ok a st=>exact λρ' g y s=>f a st ρ' g y s (h ρ' g y s)|exc _ _=>exact h|bad=>exact h
theorem ba.bnd{α β:Type}{m:M α}{f:α->M β}{R:β->aY->List ak->Hp->Prop}(h:ba K ρ H (bnd m f st) R):ba K ρ H (m st) λa g ρ' l=>ba K ρ' l (f a g) R:=by
 unfold MM.bnd at h;cases e:m st with
 |ok a s'=>
  rw[e]at h;exact λρ' l y s=>h.left y
 |exc _ _=>rw[e]at h;exact h|bad=>rw[e]at h;exact h
theorem ba.ret{α:Type}{a:α}{R:α->aY->List ak->Hp->Prop}(h:ba K ρ H (MM.ret a st) R)(s:SR K ρ H st):R a st ρ H:=h ρ H Ex.refl s
theorem ba.chk{α:Type}{c:Prop}[Decidable c]{m:M α}{R:α->aY->List ak->Hp->Prop}(h:ba K ρ H (MM.chk c m st) R):c/\ba K ρ H (m st) R:=by
 unfold MM.chk at h;by_cases g:c
 ·rw[aH g]at h;exact⟨g,h⟩
 ·rw[aB g]at h;exact h.elim
theorem ba.getL{n:Nat}(h:ba K ρ H (MM.getL n st) R)(s:SR K ρ H st):∃xs,st[n]?=ξ (.lst xs)/\R xs st ρ H:=by
 cases e:MM.getL n st with
 |ok xs s'=>
  let⟨rfl,q⟩:=Tt e;rw[e]at h;exact⟨xs,q,h ρ H Ex.refl s⟩
 |exc _ _=>rw[e]at h;exact h.elim|bad=>rw[e]at h;exact h.elim
def BL(K:aq)(f:CE):TE:=λσ H Q=>∃ρ l st,LR K ρ H σ l/\SR K ρ H st/\ba K ρ H (f l st) λd _ ρ' g=>∀v,da K ρ' g v d->Q v g
def pY(K:aq)(f:CT):TT:=λσ H Q=>∃ρ l st,LR K ρ H σ l/\SR K ρ H st/\ba K ρ H (f l st) λb _ _ g=>Q b g
def Fm(K:aq)(f:CA):TA:=λσ H Q=>∃ρ l st,LR K ρ H σ l/\SR K ρ H st/\ba K ρ H (f l st) λds _ ρ' g=>∀vs,bQ K ρ' g vs ds->Q vs g
def HX(K:aq)(f:CA):TE:=λσ H Q=>∃ρ l st,LR K ρ H σ l/\SR K ρ H st/\ba K ρ H (f l st) λds _ ρ' g=>∀a vs,H a=ψ->a∉ρ'->g a=ξ (.lst vs)->bQ K ρ' g vs ds->Q (.ref a) g
def wP(K:aq)(c:CS):TS:=λG σ H=>∃ρ l st,LR K ρ H σ l/\SR K ρ H st/\ba K ρ H (c l st) λf _ ρ' g=>match f with| .next l'=>∀σ',LR K ρ' g σ' l'->G.nx σ' g| .ret d=>∀v,da K ρ' g v d->G.rt v g| .brk l'=>∀σ',LR K ρ' g σ' l'->G.bk σ' g| .cnt l'=>∀σ',LR K ρ' g σ' l'->G.ct σ' g
def AO(K:aq)(g:CG):TG:=λv σ H Q=>∃ρ l st d,LR K ρ H σ l/\SR K ρ H st/\da K ρ H v d/\ba K ρ H (g d l st) λo _ ρ' h=>∀σ',LR K ρ' h σ' o->Q σ' h
def Gm(K:aq)(g:List D->Loc->M Loc):AI:=λvs σ H Q=>∃ρ l st ds,LR K ρ H σ l/\SR K ρ H st/\bQ K ρ H vs ds/\ba K ρ H (g ds l st) λo _ ρ' h=>∀σ',LR K ρ' h σ' o->Q σ' h
def pO(K:aq)(g:D->D->M D):R2:=λx y H Q=>∃ρ st d e,SR K ρ H st/\da K ρ H x d/\da K ρ H y e/\ba K ρ H (g d e st) λr _ ρ' h=>∀v,da K ρ' h v r->Q v h
def zI(K:aq)(g:D->M D):V->Hp->VK->Prop:=λx H Q=>∃ρ st d,SR K ρ H st/\da K ρ H x d/\ba K ρ H (g d st) λr _ ρ' h=>∀v,da K ρ' h v r->Q v h
def Zm(K:aq)(g:List D->M D):List V->Hp->VK->Prop:=λxs H Q=>∃ρ st ds,SR K ρ H st/\bQ K ρ H xs ds/\ba K ρ H (g ds st) λr _ ρ' h=>∀v,da K ρ' h v r->Q v h
def nX(K:aq)(n:Nat)(g:List D->M D):Sp:=λvs H Q _=>⇑vs=n/\Zm K g vs H Q
end
section
variable{X:Cx}{a b c:Expr}{pos:Pos}
abbrev SE(X:Cx)(e:Expr)(f:CE):Prop:=PE X e (BL X.K f)
abbrev SL(X:Cx)(e:Expr)(f:CA):Prop:=PE X e (HX X.K f)
abbrev ST(X:Cx)(e:Expr)(f:CT):Prop:=PT X e (pY X.K f)
abbrev SA(X:Cx)(es:List Expr)(f:CA):Prop:=PA X es (Fm X.K f)
abbrev SS(X:Cx)(s:Stmt)(f:CS):Prop:=PS X s (wP X.K f)
abbrev wS(X:Cx)(s:List Stmt)(f:CS):Prop:=PSs X s (wP X.K f)
theorem _root_.L2.PE.of{t t':TE}(h:PE X e t)(f:∀σ H Q,t' σ H Q->t σ H Q):PE X e t':=λg s σ H Q I q=>h g s σ H Q I (f σ H Q q)
theorem _root_.L2.PT.of{t t':TT}(h:PT X e t)(f:∀σ H Q,t' σ H Q->t σ H Q):PT X e t':=λg s σ H Q I q=>h g s σ H Q I (f σ H Q q)
theorem _root_.L2.PA.of{t t':TA}(h:PA X e t)(f:∀σ H Q,t' σ H Q->t σ H Q):PA X e t':=λpos g s σ H Q I q=>h pos g s σ H Q I (f σ H Q q)
theorem _root_.L2.PS.of{t t':TS}(h:PS X e t)(f:∀D σ H,t' D σ H->t D σ H):PS X e t':=λg s σ H D I q=>h g s σ H D I (f D σ H q)
theorem _root_.L2.PSs.of{t t':TS}(h:PSs X e t)(f:∀D σ H,t' D σ H->t D σ H):PSs X e t':=λg s σ H D I q=>h g s σ H D I (f D σ H q)
theorem _root_.L2.PG.of{t t':TG}(h:PG X e t)(f:∀v σ H Q,t' v σ H Q->t v σ H Q):PG X e t':=λg s σ H v u Q I r q=>h g s σ H v u Q I r (f v σ H Q q)
theorem _root_.L2.PGs.of{t t':AI}(h:PGs X e t)(f:∀v σ H Q,t' v σ H Q->t v σ H Q):PGs X e t':=λg s σ H v u Q I r q=>h g s σ H v u Q I r (f v σ H Q q)
theorem _root_.L2.OpR.of{r o:R2}(h:OpR X f r)(g:∀x y H Q,o x y H Q->r x y H Q):OpR X f o:=λl s σ H x y v u Q I C z q=>h l s σ H x y v u Q I C z (g x y H Q q)
theorem _root_.L2.CallR.of{r o:List V->Hp->VK->Prop}(h:CallR X f r)(g:∀x H Q,o x H Q->r x H Q):CallR X f o:=λl s σ H x u Q I z q=>h l s σ H x u Q I z (g x H Q q)
variable{fa fb fc:CE}
theorem Jr(i:Nat)(h:PE X (.Name x pos) (Fa i)):SE X (.Name x pos) (am i):=h.of λσ H Q g=>by
 let⟨ρ,l,st,z,u,p⟩:=g;unfold am at p;cases e:l[i]? with|none=>rw[e]at p;exact p.elim|some o=>
  rw[e]at p;cases o with|none=>exact p.elim|some d=>
   let⟨v,C,r⟩:=z.2 i d e;exact⟨v,C,p.ret u v r⟩
theorem QdB{i:Int}{j:Nat}:SE X (.Constant ↑i j pos) (aL ↑i):=(Po (i:=i) (j:=j) (pos:=pos)).of λσ H Q g=>by let⟨ρ,l,st,o,h,p⟩:=g;exact p.ret h _ ↑i
theorem XJ{j:Nat}:SE X (.Constant (.bool i) j pos) (aL (.bl i)):=(Qax (b:=i) (j:=j) (pos:=pos)).of λσ H Q g=>by let⟨ρ,l,st,o,h,p⟩:=g;exact p.ret h _ (.bl i)
theorem Y0{j:Nat}:SE X (.Constant .none j pos) (aL .non):=(WD (j:=j) (pos:=pos)).of λσ H Q g=>by let⟨ρ,l,st,o,h,p⟩:=g;exact p.ret h _ .non
theorem QdE{j:Nat}:SE X (.Constant (.str i) j pos) (aL (.str i)):=(Sh (x:=i) (j:=j) (pos:=pos)).of λσ H Q g=>by let⟨ρ,l,st,o,h,p⟩:=g;exact p.ret h _ (.str i)
theorem Jq{r:R2}(hr:∀x y H Q,pO X.K g x y H Q->r x y H Q):∀σ H Q,BL X.K (c2 g fa fb) σ H Q->GK r (BL X.K fa) (BL X.K fb) σ H Q:=λσ H Q h=>
 by let⟨ρ,l,st,C,I,p⟩:=h;exact⟨ρ,l,st,C,I,p.bnd.imp λd z ρ1 H1 G L p1 v O=>⟨ρ1,l,z,C.mono G,L,p1.bnd.imp λe o ρ2 H2 E J Y u U=>hr _ _ _ _ ⟨ρ2,o,d,e,J,O.mono E,U,Y⟩⟩⟩
theorem Pm(l:OpR X (eJ op) (pO X.K g))(u:SE X a fa)(o:SE X b fb):SE X (.BinOp a op b pos) (c2 g fa fb):=
 (Qh l u o).of (Jq λ_ _ _ _ h=>h)
theorem QdH(l:OpR X (cq op) (pO X.K g))(z:SE X a fa)(u:SE X b fb)(o:iX op b=ω):SE X (.Compare a [op] [b] pos) (c2 g fa fb):=
 (Zc l z u o).of (Jq λ_ _ _ _ h=>h)
end
theorem _root_.Exists.el{α β γ:Type}{A B C:α->β->γ->Prop}{G:Prop}(h:∃a b c,A a b c/\B a b c/\C a b c)(k:∀a b c,A a b c->B a b c->C a b c->G):G:=by let⟨ρ,l,st,a,b,c⟩:=h;exact k ρ l st a b c
theorem BL.el{K:aq}{C:Prop}(h:BL K f σ H Q)(k:∀ρ l st,LR K ρ H σ l->SR K ρ H st->ba K ρ H (f l st) (λd _ ρ' g=>∀v,da K ρ' g v d->Q v g)->C):C:=by let⟨ρ,l,st,a,b,c⟩:=h;exact k ρ l st a b c
theorem pY.el{K:aq}{C:Prop}(h:pY K f σ H Q)(k:∀ρ l st,LR K ρ H σ l->SR K ρ H st->ba K ρ H (f l st) (λb _ _ g=>Q b g)->C):C:=by let⟨ρ,l,st,a,b,c⟩:=h;exact k ρ l st a b c
theorem wP.el{K:aq}{c:CS}{σ:St}{H:Hp}{G:Ends}{C:Prop}(h:wP K c G σ H) (k:∀ρ l st,LR K ρ H σ l->SR K ρ H st->ba K ρ H (c l st) (λf _ ρ' g=>match f with
 | .next l'=>∀σ',LR K ρ' g σ' l'->G.nx σ' g| .ret d=>∀v,da K ρ' g v d->G.rt v g| .brk l'=>∀σ',LR K ρ' g σ' l'->G.bk σ' g
 | .cnt l'=>∀σ',LR K ρ' g σ' l'->G.ct σ' g)->C):C:=by
 let⟨ρ,l,st,a,b,c⟩:=h;exact k ρ l st a b c
end MM
namespace MM
open PySem PySem.Spec PyProof.Rows L2
theorem OI:∀(a b:List Int),lZ (a.map .int) (b.map .int)=decide (a=b)
 |[],[]=>by simp[lZ]|[],_::_=>by simp[lZ]|_::_,[]=>by simp[lZ]
 |x::xs,y::ys=>by
  rw[aX,aX]
  show (mT ↑x ↑y&&lZ _ _)=_;rw[OI xs ys]
  show (decide (x=y)&&_)=_;simp[nG]
theorem Xu:∀(a b:KI),mT (qX a) (qX b)=decide (a=b)
 | .inl i,.inl j=>by
  show decide (i=j)=_;by_cases z:i=j
  ·subst z;simp
  ·rw[aQ z,aQ (λq=>z (by injection q))]
 | .inl i,.inr r=>by rw[aQ (by simp)];rfl| .inr r,.inl i=>by rw[aQ (by simp)];rfl
 | .inr r,.inr q=>by
  show lZ (r.map .int) (q.map .int)=_;rw[OI];by_cases z:r=q
  ·subst z;simp
  ·rw[aQ z,aQ (λq=>z (by injection q))]
theorem Ph:∀(a b:List KI),lZ (a.map qX) (b.map qX)=decide (a=b)
 |[],[]=>by simp[lZ]|[],_::_=>by simp[lZ]|_::_,[]=>by simp[lZ]
 |x::xs,y::ys=>by
  rw[aX,aX]
  show (mT (qX x) (qX y)&&lZ _ _)=_;rw[Ph xs ys,Xu];simp[nG]
theorem IN(a b:NK):mT (tq a) (tq b)=decide (a=b):=Ph a b
theorem J2(a b:Key):mT (n8 a) (n8 b)=decide (a=b):=by cases a<;>cases b<;>simp[n8,mT]
theorem Qo:∀{ds:List D}{r:List Int},pc ds=ξ r->ds=r.map .int
 |[],r,h=>by simp[pc]at h;subst h;rfl
 |d::ds,r,h=>by
  cases d with
  |int i=>
   unfold pc at h;cases e:pc ds with|none=>rw[e]at h;cases h|some q=>
    rw[e]at h;cases h;rw[aX,Qo e]
  |_=>cases h
theorem MC:∀{ds:List D}{r:NK},nv ds=ξ r->ds=r.map qX
 |[],r,h=>by simp[nv]at h;subst h;rfl
 |d::ds,r,h=>by
  cases d with
  |tup xs=>
   unfold nv at h;cases e:pc xs with|none=>rw[e]at h;cases h|some q=>
    cases g:nv ds with|none=>rw[e,g]at h;cases h|some q2=>
     rw[e,g]at h;cases h;rw[aX,<- MC g]
     show _=D.tup (q.map .int)::ds;rw[<- Qo e]
  |int i=>
   unfold nv at h;cases g:nv ds with|none=>rw[g]at h;cases h|some q2=>
    rw[g]at h;cases h;rw[aX,<- MC g];rfl
  |_=>cases h
theorem Yn(h:stK d=ξ r):d=tq r:=by
 cases d with|tup ds=>show D.tup ds=D.tup _;rw[MC h]|_=>cases h
theorem DP(h:oW θ d=θ):∃k,d=tq k:=by
 cases e:stK d with
 |none=>
  have:oW θ d=(stK d).isSome:=by cases d<;>rfl
  rw[this,e]at h;cases h
 |some k=>exact⟨k,Yn e⟩
theorem IP(h:oW ω d=θ):∃k,d=n8 k:=by
 cases d with|int i=>exact⟨.inl i,rfl⟩|str x=>exact⟨.inr x,rfl⟩|_=>cases h
section
variable{X:Cx}{K:aq}{ρ:List ak}{H:Hp}{st:aY}{a b:ak}
theorem IG(r:da K ρ H v (n8 k)):v=kV k:=by
 cases k with|inl i=>cases r;rfl|inr x=>cases r;rfl
abbrev KR(K:aq)(ρ:List ak)(H:Hp):List (Key×V)->List (D×D)->Prop:=iS λ(p:Key×V)(q:D×D)=>n8 p.1=q.1/\da K ρ H p.2 q.2
def RO(K:aq)(ρ:List ak)(H:Hp):Option V->Option D->Prop
 |some v,ξ d=>da K ρ H v d|none,ψ=>True|_,_=>False
theorem RO.some_of(h:RO K ρ H o (ξ d)):∃v,o=ξ v/\da K ρ H v d:=by
 cases o with|none=>exact h.elim|some v=>exact⟨v,rfl,h⟩
theorem RO.isSome_eq(h:RO K ρ H o d):o.isSome=d.isSome:=by cases o<;>cases d<;>first|rfl|exact h.elim
theorem KR.val(r:KR K ρ H es g)(k:Key):RO K ρ H (qU es k) (kR g (n8 k)):=by
 induction r with|nil=>exact dS|@cons p q ps qs h t ih=>
  let⟨o,l⟩:=h;unfold kR;rw[b9,<- o,J2];by_cases e:p.1=k
  ·rw[JI e,bV e];exact l
  ·rw[IW e,aQ e];exact ih
theorem KR.any(r:KR K ρ H es g)(k:Key):(es.any λl=>decide (l.1=k))=g.any λp=>mT p.1 (n8 k):=by
 induction r with|nil=>rfl|@cons p q ps qs h t ih=>rw[dw,dw,ih,<- h.1,J2]
theorem KR.put(r:KR K ρ H es g)(k:Key)(l:da K ρ H v d):KR K ρ H (L2.mD es k v) (i6 g (n8 k) d):=by
 unfold L2.mD i6;rw[r.any k];by_cases e:(g.any λp=>mT p.1 (n8 k))=θ
 ·rw[aH e,aH e];clear e
  induction r with|nil=>exact .nil|@cons p q ps qs h t ih=>
   rw[aX,aX];refine .cons ?_ ih;rw[<- h.1,J2];by_cases e:p.1=k
   ·rw[aH e,aH (bV e)];exact⟨rfl,l⟩
   ·rw[aB e,aB (by rw[aQ e];exact bc)];exact h
 ·rw[aB e,aB e];exact nQ r ⟨rfl,l⟩
theorem KR.up(x:Up ρ H ρ1 h)(r:KR K ρ H es g):KR K ρ1 h es g:=iS.mapS r λ_ _ z=>⟨z.1,z.2.up x⟩
theorem KR.length(r:KR K ρ H es g):⇑es=⇑g:=dZ r
abbrev NR(K:aq)(ρ:List ak)(H:Hp):List (NK×ak×V)->List (D×D)->Prop:=iS λ(p:NK×ak×V)(q:D×D)=>tq p.1=q.1/\da K ρ H (.ref p.2.1) q.1/\da K ρ H p.2.2 q.2
abbrev NX:List (NK×ak×V)->List (NK×ak×ae)->Prop:=iS λ(p:NK×ak×V)(q:NK×ak×ae)=>p.1=q.1/\p.2.1=q.2.1/\RelV p.2.2 q.2.2
abbrev Bz(X:Cx):vN X.prog X.w NK:=uG X.prog X.w
theorem Sk:∀{r:List Int}{vs:List V}{l:List ae},bQ K ρ H vs (r.map .int)->bX vs l->ItemsAre (qG P w) r l
 |[],_,_,h,g=>by cases h;cases g;exact .nil
 |i::r,_,_,h,g=>by
  cases h with|cons h1 ht=>
   cases h1;cases g with|cons g1 gt=>
    let⟨t,e⟩:=g1;subst e;exact .cons (by show rm i (iK i t)=θ;simp[rm]) (Sk ht gt)
theorem YZ(I:Inv X ah σ H s)(h:da X.K ρ H v (EQ r))(g:RelV v u):∃b,u=.ref b/\DE (qG X.prog X.w) s.heap r b:=by
 cases h with|@tup b vs ds h q=>
  let e:u=aC b:=g;subst e;let⟨its,l,⟨o,E,C,n,z⟩,_⟩:=I.tuple h;exact⟨b,rfl,o,its.toArray,n,E,C,z,by simpa using Sk q l⟩
theorem S4(I:Inv X ah σ H s):∀{k:NK}{vs:List V}{l:List ae},bQ X.K ρ H vs (k.map qX)->bX vs l->oE X.prog X.w s.heap k l
 |[],_,_,h,g=>by cases h;cases g;exact .nil
 |r::k,_,_,h,g=>by
  cases h with|cons h1 ht=>
   cases g with|cons g1 gt=>
    refine .cons ?_ (S4 I ht gt);cases r with
    |inl i=>
     cases (show da X.K ρ H _ ↑i from h1);let⟨t,e⟩:=g1;subst e;exact .one i t
    |inr r=>
     let⟨b,e,o⟩:=YZ I h1 g1;subst e;exact .row o
theorem Dh(I:Inv X ah σ H s)(h:da X.K ρ H v (tq k))(g:RelV v u):∃b,v=.ref b/\u=.ref b/\(Bz X).is s.heap k b:=by
 cases h with|@tup b vs ds h q=>
  let e:u=aC b:=g;subst e;let⟨its,l,⟨o,E,C,n,z⟩,_⟩:=I.tuple h;exact⟨b,rfl,rfl,o,its.toArray,n,E,C,z,by simpa using S4 I q l⟩
theorem zQ(I:Inv X ah σ H s)(e:H a=ξ (nY a es))(r:NR X.K ρ H es l):⇑es<=sizeLine/\(a == dB)=ω/\∃xs,NX es xs/\s.heap.DictOfH (Bz X) a xs/\sI s.heap a ⇑xs:=by
 let⟨⟨z,y,xs,J,o,C,ep,G,Q,E,O,L,h6⟩,Y,U⟩:=(show dQ X.prog X.w H s.heap a (nY a es) from I.hok a _ e)
 subst h6;refine⟨z,y,xs,J,⟨o,C,_,G,Q,E,O,?_,L⟩,⟨o,C,G,E⟩⟩;clear G Q E O L e z y Y U
 induction J generalizing l with
 |nil=>intro x u;cases u
 |@cons p q ps qs h t ih=>
  cases r with|cons g gt=>
   intro x u;rcases a_.mp u with e|u
   ·subst e;let⟨b,o,_,l⟩:=Dh I (by rw[g.1];exact g.2.1) (show RelV (.ref p.2.1) (.ref p.2.1) from rfl);cases o;rw[<- h.1,<- h.2.1];exact l
   ·exact ih gt x u
theorem Gb{h':bC}{es:List (NK×ak×V)}(z:⇑es<=sizeLine)(y:(a == dB)=ω)(r:NX es xs)(O:h'.DictOfH (uG P w) a xs)(L:sI h' a ⇑xs):dQ P w Q h' a (nY a es):=by
 let⟨o,g,ep,h,l,C,I,_,G⟩:=O;let⟨U,J,u,E⟩:=L;rw[h]at u;cases u;rw[C]at E;cases E;refine⟨⟨z,y,xs,r,o,g,_,h,l,C,I,G,rfl⟩,⟨o,h⟩,?_⟩
 rintro u g2 ⟨z,y,xs,r,o,g,ep,h,l⟩ k
 exact⟨z,y,xs,r,o,g,ep,k o h,l⟩
noncomputable def valN(es:List (NK×ak×V))(k:NK):Option V:=(es.find? λp=>decide (p.1=k)).map (·.2.2)
noncomputable def putN(es:List (NK×ak×V))(k:NK)(b:ak)(v:V):List (NK×ak×V):=if (es.any λp=>decide (p.1=k))=θ then es.map (λp=>if p.1=k then (p.1,p.2.1,v) else p) else es++[(k,b,v)]
theorem NR.val(r:NR K ρ H es g)(k:NK):RO K ρ H (valN es k) (kR g (tq k)):=by
 induction r with|nil=>exact dS|@cons p q ps qs h t ih=>
  let⟨o,_,l⟩:=h;unfold kR valN;rw[b9,b9,<- o,IN];by_cases e:p.1=k
  ·rw[bV e];exact l
  ·rw[aQ e];exact ih
theorem NX.val(r:NX es xs)(k:NK):pj (valN es k) ((lB xs k).map (·.2)):=by
 induction r with|nil=>exact dS|@cons p q ps qs h t ih=>
  let⟨l,_,g⟩:=h;unfold lB valN;rw[b9,b9,<- l];by_cases e:p.1=k
  ·rw[bV e];exact g
  ·rw[aQ e];exact ih
theorem NX.put(r:NX es xs)(k:NK)(b:ak)(g:RelV v u):NX (putN es k b v) (lp xs k b u):=by
 let e:(es.any λp=>decide (p.1=k))=(lB xs k).isSome:=by
  clear g
  induction r with|nil=>rfl|@cons p q ps qs h t ih=>
   rw[dw,ih];unfold lB;rw[b9,<- h.1];by_cases e:p.1=k
   ·rw[bV e];rfl
   ·rw[aQ e];rfl
 unfold putN lp;rw[e];by_cases q:(lB xs k).isSome=θ
 ·rw[aH q,aH q];clear q e
  induction r with|nil=>exact .nil|@cons p q ps qs h t ih=>
   rw[aX,aX];refine .cons ?_ ih;unfold ul;by_cases e:p.1=k
   ·rw[aH e,aH (h.1.symm.trans e)];exact⟨h.1,h.2.1,g⟩
   ·rw[aB e,aB (λz=>e (h.1.trans z))];exact h
 ·rw[aB q,aB q];exact nQ r ⟨rfl,rfl,g⟩
theorem NR.put(r:NR K ρ H es g)(k:NK)(b:ak)(o:da K ρ H (.ref b) (tq k))(l:da K ρ H v d):NR K ρ H (putN es k b v) (i6 g (tq k) d):=by
 let e:(es.any λp=>decide (p.1=k))=g.any λp=>mT p.1 (tq k):=by
  clear o l
  induction r with|nil=>rfl|@cons p q ps qs h t ih=>rw[dw,dw,ih,<- h.1,IN]
 unfold putN i6;rw[e];clear e;by_cases e:(g.any λp=>mT p.1 (tq k))=θ
 ·rw[aH e,aH e];clear e
  induction r with|nil=>exact .nil|@cons p q ps qs h t ih=>
   rw[aX,aX];refine .cons ?_ ih;by_cases e:p.1=k
   ·let z:mT q.1 (tq k)=true:=by rw[<- h.1,IN];exact bV e
    rw[aH e,aH z];exact⟨h.1,h.2.1,l⟩
   ·let z:¬ mT q.1 (tq k)=true:=by rw[<- h.1,IN,aQ e];exact bc
    rw[aB e,aB z];exact h
 ·rw[aB e,aB e];exact nQ r ⟨rfl,o,l⟩
theorem NR.up(x:Up ρ H ρ1 h)(r:NR K ρ H es g):NR K ρ1 h es g:=iS.mapS r λ_ _ z=>⟨z.1,z.2.1.up x,z.2.2.up x⟩
theorem NR.length(r:NR K ρ H es g):⇑es=⇑g:=dZ r
theorem MA(es:List (NK×ak×V))(k:NK)(b:ak)(v:V):⇑(putN es k b v)<=⇑es+1:=by
 unfold putN;split
 ·rw[af];ext
 ·rw[aK,cm,nF];ext
theorem Qd0{n:Nat}(h:getDc n st=.ok p s'):s'=st/\st[n]?=ξ (.dct p.1 p.2):=by
 unfold getDc at h;cases e:st[n]? with|none=>rw[e]at h;cases h|some o=>
  rw[e]at h;cases o with|dct b cx=>cases h;exact⟨rfl,rfl⟩|_=>cases h
theorem ba.getDc{n:Nat}(h:ba K ρ H (MM.getDc n st) R)(s:SR K ρ H st):∃b g,st[n]?=ξ (.dct b g)/\R (b,g) st ρ H:=by
 cases e:MM.getDc n st with
 |ok xs s'=>
  let⟨rfl,q⟩:=Qd0 e;rw[e]at h;exact⟨xs.1,xs.2,q,h ρ H Ex.refl s⟩
 |exc _ _=>rw[e]at h;exact h.elim|bad=>rw[e]at h;exact h.elim
theorem YB{b:Bool}{Q:ae->aj->Prop}{A:bx}(hu:A.units+2 < cO)(I:Inv X ah σ H s)(g:rO X.K ρ H a (.dct b C))(U:da X.K ρ H y k)(hk:oW b k=θ)(Y:kR C k=ξ d)(O:RelV y u)(h:∀v z s',Inv X ah σ H s'->da X.K ρ H v d->RelV v z->Q z s'):aF (aW X.prog X.w) A (sS (.ref a) u) Q E s:=by
 cases b with
 |false=>
  let⟨es,e,r⟩:=g;let⟨k,rfl⟩:=IP hk;cases IG U;let q:=KR.val r k;rw[Y]at q;let⟨v,L,G⟩:=q.some_of;exact WH () I (by have:=uT.k (k:=k) e;rw[L]at this;exact this) O λz s' I' l=>h v z s' I' G l
 |true=>
  let⟨es,e,r⟩:=g;let⟨k,rfl⟩:=DP hk;let q:=NR.val r k;rw[Y]at q;let⟨v,L,G⟩:=q.some_of;let⟨_,hd,xs,rx,dd,de⟩:=zQ I e r;let⟨c,e2,e3,hc⟩:=Dh I U O;subst e3;let⟨z,hw,l⟩:=pj.some_of (v:=v) (o:=(lB xs k).map (·.2)) (by rw[<- L];exact NX.val rx k);let⟨p,hp,J⟩:=cA.mp hw;refine DD (knd:=Bz X) (show A.in1.units+1 < cO from hu) hc dd hp ?_;rw[J];exact h v z _ (I.tok _) G l
theorem Qd2{b:Bool}{Q:ae->aj->Prop}{A:bx}(hu:A.units+2 < cO)(I:Inv X ah σ H s)(g:rO X.K ρ H a (.dct b l))(z:da X.K ρ H y k)(C:oW b k=θ)(o:RelV y u)(h:∀s',Inv X ah σ H s'->Q (.bool (kR l k).isSome) s'):aF (aW X.prog X.w) A (cq .In u (.ref a)) Q E s:=by
 cases b with
 |false=>
  let⟨es,e,r⟩:=g;let⟨k,rfl⟩:=IP C;cases IG z;rw[<- (KR.val r k).isSome_eq]at h;exact MY () I (uT.k (k:=k) e) o h
 |true=>
  let⟨es,e,r⟩:=g;let⟨k,rfl⟩:=DP C;rw[<- (NR.val r k).isSome_eq]at h;let⟨_,hd,xs,G,O,Y⟩:=zQ I e r;let⟨c,U,L,J⟩:=Dh I z o;subst L;refine wpAny_in_heap (knd:=Bz X) (show A.in1.units+1 < cO from hu) J hd O ?_;let q:=(NX.val G k).isSome_eq;rw[fD]at q;rw[<- q];exact h _ (I.tok _)
theorem Vt{b:Bool}{Q:ae->aj->Prop}{A:bx}(hu:A.units+2 < cO)(I:Inv X ah σ H s)(g:rO X.K ρ H a (.dct b l))(z:da X.K ρ H y k)(C:oW b k=θ)(o:RelV y u)(h:∀s',Inv X ah σ H s'->Q (.bool (!(kR l k).isSome)) s'):aF (aW X.prog X.w) A (cq .NotIn u (.ref a)) Q E s:=by
 cases b with
 |false=>
  let⟨es,e,r⟩:=g;let⟨k,rfl⟩:=IP C;cases IG z;rw[<- (KR.val r k).isSome_eq]at h;exact Qda () I (uT.k (k:=k) e) o h
 |true=>
  let⟨es,e,r⟩:=g;let⟨k,rfl⟩:=DP C;rw[<- (NR.val r k).isSome_eq]at h;let⟨_,hd,xs,G,O,Y⟩:=zQ I e r;let⟨c,U,L,J⟩:=Dh I z o;subst L;refine Iq (knd:=Bz X) (show A.in1.units+1 < cO from hu) J hd O ?_;let q:=(NX.val G k).isSome_eq;rw[fD]at q;rw[<- q];exact h _ (I.tok _)
theorem Xk{n:Nat}{b:Bool}{Q:Unit->aj->Prop}{A:bx}(hu:A.units+2 < cO)(I:Inv X ah σ H s)(J:SR X.K ρ H st)(O:ρ[n]?=ξ a)(hn:st[n]?=ξ (.dct b l))(L:da X.K ρ H y k) (hk:oW b k=θ) (hl:⇑l < sizeLine) (rv:da X.K ρ H v d) (ry:RelV y u) (rr:RelV v r')(h:∀Y s',Inv X ah σ Y s'->SR X.K ρ Y (st.set n (.dct b (i6 l k d)))->Ex ρ H ρ Y->Q Unit.unit s'):aF (aW X.prog X.w) A (sQ (.ref a) u r') Q E s:=by
 let C:=(ac.mp hn).1;let g:=J.ob n a _ O hn;cases b with
 |false=>
  let⟨es,e,r⟩:=g;let⟨k,rfl⟩:=IP hk;cases IG L;let w:=J.putO (o':=.dct ω (i6 l (n8 k) d)) (u':=.dK (L2.mD es k v)) C O e (by show (1:Nat)≠3;decide) rfl ⟨_,ik,(KR.put r k rv).up ?_⟩
  ·exact Xd () I (Ax.k (k:=k) e (by rw[KR.length r];exact hl)) ry rr λs' g=>h _ s' g w.1 w.2
  ·refine⟨⟨[],by simp⟩,λc o no q=>?_,λc o q=>?_⟩
   ·rw[e8 λz=>by subst z;rw[e]at q;cases q;cases no];exact q
   ·by_cases z:c=a
    ·subst z;rw[e]at q;cases q;exact⟨_,ik,rfl⟩
    ·exact⟨o,by rw[e8 z];exact q,rfl⟩
 |true=>
  let⟨es,e,r⟩:=g;let⟨k,rfl⟩:=DP hk;let⟨_,hd,xs,rx,dd,de⟩:=zQ I e r;let⟨c,e2,e3,hc⟩:=Dh I L ry;subst e2 e3;let w:=J.putO (o':=.dct θ (i6 l (tq k) d)) (u':=nY a (putN es k c v)) C O e (by show (2:Nat)≠3;decide) rfl ⟨_,ik,(NR.put r k c L rv).up ?_⟩
  ·let hz : ⇑xs <= sizeLine := by rw[<- dZ rx,NR.length r];ext
   refine WB (knd:=Bz X) (show A.in1.units+1 < cO from hu) hc dd de hz λh' G U g=>h _ _ ?_ w.1 w.2;let o:∃q,h'.get? a=ξ q:=by obtain ⟨q,_,_,l,_⟩:=G;exact ⟨q,l⟩
   refine DU I (by rw[e];exact dS) g o (Gb ?_ hd (NX.put rx k c rr) G U);have:=MA es k c v;rw[NR.length r]at this;ext
  ·refine⟨⟨[],by simp⟩,λc o no q=>?_,λc o q=>?_⟩
   ·rw[e8 λz=>by subst z;rw[e]at q;cases q;cases no];exact q
   ·by_cases z:c=a
    ·subst z;rw[e]at q;cases q;exact⟨_,ik,rfl⟩
    ·exact⟨o,by rw[e8 z];exact q,rfl⟩
end
noncomputable abbrev Ar:ae->aj->Prop:=λ_ _=>False
noncomputable def BD(g:List Expr)(env:Env):Sem Bool:=forIn g θ λc r=>if r=θ then do let ok <- isTrue c env (eval c env);pure (ky ok) else pure (ky r)
section
variable{R:Result->aj->Prop}
theorem Vi{o g iter:Expr}{l:List Expr}{scope:dU}{pos:Pos}{z u:ae}{env:Env}(I:Nat->aj->Prop)(turn:∀n s,I n s->aF (aW prog w) A (qm z) (λr s₁=>match r with
   |none=>R (.ok .next) s₁
   |some v => aF (aW prog w) A (oX g z v) (λ_ s₁' => aF (aW prog w) A (oK g env v) (λ_ s₂ =>
     aF (aW prog w) A (BD l env) (λok s₃=>
      if ok=θ then aF (aW prog w) A (eval o env) (λx s₄=>
       aF (aW prog w) A (call (.builtin "list.append") [u,x]) (λ_ s₅=>∃m,m < n/\I m s₅) Ar s₄) Ar s₃
      else ∃m,m < n/\I m s₃) Ar s₂) Ar s₁') Ar s₁) Ar s)
  (n:Nat) (h:I n s):l_ (aW prog w) A (.compLoop (.ListComp o [⟨g,iter,l,0⟩] scope pos) 0 z u env) R s:=by
 refine codeAny_loop rfl I (λn s C=>?_) n h
 show aF _ A ((compTurn (.ListComp o [⟨g,iter,l,0⟩] scope pos) 0 z u env).onRaise (λx=>do Iv x env;theTreesLotGoes x)) _ _ s;refine wpAny_noted ?_;rw[compTurn_list];refine aa (nE (aa (dN (turn n s C) (λr s₁ h₁=>?_) λ_ _ h'=>h'.elim)));cases r with|none=>exact ai h₁|some v=>
  refine aa (dN h₁ (λ_ s₁' h₁'=>?_) λ_ _ h'=>h'.elim);refine aa (dN h₁' (λ_ s₂ h₂=>aa (dN h₂ (λok s₃ h₃=>?_) λ_ _ h'=>h'.elim)) λ_ _ h'=>h'.elim);cases ok with|false=>exact ai ⟨rfl,h₃⟩|true=>
   exact aa (aa (dN h₃ (λx s₄ h₄=>aa (dN h₄ (λ_ s₅ h₅=>ai (ai ⟨rfl,h₅⟩)) λ_ _ h'=>h'.elim)) λ_ _ h'=>h'.elim))
end
noncomputable def kP:List (Str×fe)->List (Str×ak)->List (Str×ak)->List (Str×ak)
 |[],_,acc=>acc| (n,k)::r,cells,acc=>kP r cells (if k == .free then (match cells.lookup n with|some c=>(n,c)::acc|none=>acc) else acc)
theorem L3{env:Env}: ∀(names:List (Str×fe))(acc:List (Str×ak)),(∀x,(x,b6)∈names->∃c,env.cells.lookup x=ξ c) ->(forIn names acc λ(x:Str×fe)r=>if (x.2 == b6)=θ then (do let a <- cellOf env x.1;pure (ky ((x.1,a)::r)):Sem _) else pure (ky r))=(pure (kP names env.cells acc):Sem _)
 |[],acc,_=>rfl
 | (n,k)::r,acc,h=>by
  rw[cV];by_cases l:(k == b6)=θ
  ·let e:k=.free:=by simpa using l
   subst e;let⟨c,o⟩:=h n bK;let q:cellOf env n=pure c:=by unfold cellOf;rw[o]
   simp only[beq_self_eq_true,if_true,q];unfold kP;simp only[beq_self_eq_true,if_true,o];exact L3 r ((n,c)::acc) λx g=>h x (bD _ g)
  ·simp only[l,if_false];unfold kP;simp only[l,if_false];exact L3 r acc λx g=>h x (bD _ g)
theorem YK{scope:dU}{env:Env}(h:∀x,(x,b6)∈scope.names->∃c,env.cells.lookup x=ξ c):DH scope env=pure (kP scope.names env.cells []):=by let q:=L3 (env:=env) scope.names [] h;simp only[DH];exact cj (λm=>m >>= λg=>pure g) q
theorem v7{α:Type}{v:α}{r:List (Str × α)}(h:x≠y):wC x ((y,v)::r)=r.lookup x:=by rw[rn];have:(x == y)=false:=beq_eq_false_iff_ne.mpr h;rw[this]
theorem lookup_cons_self{α:Type}{v:α}{r:List (Str × α)}:wC x ((x,v)::r)=ξ v:=by rw[rn,beq_self_eq_true]
theorem vY:∀(names:List (Str×fe))(acc:List (Str×ak)),(kP names cells acc).lookup x=ξ c->cells.lookup x=ξ c\/acc.lookup x=ξ c
 |[],acc,h=>.inr h
 | (n,k)::r,acc,h=>by
  unfold kP at h;rcases vY r _ h with q|q
  ·exact .inl q
  ·split at q
   ·split at q
    ·rename_i o l;by_cases g:x=n
     ·subst g;rw[lookup_cons_self]at q;cases q;exact .inl l
     ·rw[v7 g]at q;exact .inr q
    ·exact .inr q
   ·exact .inr q
theorem EC{cells:List (Str×ak)}(l:cells.lookup x=ξ c):∀(names:List (Str×fe))(acc:List (Str×ak)),((x,b6)∈names\/acc.lookup x=ξ c)->(∀d,acc.lookup x=ξ d->d=c)->(kP names cells acc).lookup x=ξ c
 |[],acc,h,_=>by
  rcases h with h|h
  ·cases h
  ·exact h
 | (n,k)::r,acc,h,ha=>by
  unfold kP;by_cases o:x=n
  ·subst o;by_cases u:(k == b6)=θ
   ·rw[aH u,l];exact EC l r _ (.inr lookup_cons_self) λd hd=>by rw[lookup_cons_self]at hd;cases hd;rfl
   ·rw[aB u];refine EC l r _ ?_ ha;rcases h with h|h
    ·rcases a_.mp h with e|e
     ·cases e;exact bw rfl u
     ·exact .inl e
    ·exact .inr h
  ·let step : ∀g, g.lookup x = acc.lookup x -> (kP r cells g).lookup x = ξ c := λg e => by
     refine EC l r g ?_ (by rw[e];exact ha);rcases h with h|h
     ·rcases a_.mp h with z|z
      ·cases z;exact bw rfl o
      ·exact .inl z
     ·exact .inr (by rw[e];exact h)
   refine step _ ?_;split
   ·split
    ·exact v7 o
    ·rfl
   ·rfl
theorem kH:∀(names:List (Str×fe))(n:Nat)(acc:List (Str×ak)),(dG n names acc).lookup x=ξ c->n<=c\/acc.lookup x=ξ c
 |[],_,_,h=>.inr h
 | (y,k)::r,n,acc,h=>by
  unfold dG at h;split at h
  ·rcases kH r (n+1) _ h with q|q
   ·exact .inl ()
   ·by_cases g:x=y
    ·subst g;rw[lookup_cons_self]at q;cases q;exact .inl (aA _)
    ·rw[v7 g]at q;exact .inr q
  ·exact kH r n acc h
theorem NB: ∀(names:List (Str×fe))(n:Nat)(acc:List (Str×ak)),(∀x y c,acc.lookup x=ξ c->acc.lookup y=ξ c->x=y)->(∀x c,acc.lookup x=ξ c->c < n) ->∀x y c,(dG n names acc).lookup x=ξ c->(dG n names acc).lookup y=ξ c->x=y
 |[],_,_,hi,_=>hi
 | (z,k)::r,n,acc,hi,hb=>by
  unfold dG;split
  ·refine NB r (n+1) _ (λx y c u g=>?_) (λx c h=>?_)
   ·by_cases o:x=z
    ·subst o;rw[lookup_cons_self]at u;cases u;by_cases l:y=x
     ·exact l.symm
     ·rw[v7 l]at g;exact bw (hb y _ g) (cY _)
    ·rw[v7 o]at u;by_cases l:y=z
     ·subst l;rw[lookup_cons_self]at g;cases g;exact bw (hb x _ u) (cY _)
     ·rw[v7 l]at g;exact hi x y c u g
   ·by_cases o:x=z
    ·subst o;rw[lookup_cons_self]at h;cases h;exact mX _
    ·rw[v7 o]at h;exact ke (hb x c h)
  ·exact NB r n acc hi hb
theorem kS:∀(names:List (Str×fe))(h:bC)(acc:List (Str×ak)),(dG h.objs.size names acc).lookup x=ξ c->acc.lookup x=ξ c\/((xN h names).IsCell c ψ/\h.objs.size<=c)
 |[],_,_,q=>.inl q
 | (y,k)::r,h,acc,q=>by
  unfold dG at q;unfold xN;split at q
  ·rename_i g;rw[aH g];rw[<- dL h { cls:=.type "cell",data:=.cell ψ }]at q;rcases kS r _ _ q with z|z
   ·by_cases l:x=y
    ·subst l;rw[lookup_cons_self]at z;cases z;refine .inr ⟨?_,aA _⟩;refine⟨{ cls:=.type "cell",data:=.cell ψ },uX r _ _ _ (aM _ rfl),rfl⟩
    ·rw[v7 l]at z;exact .inl z
   ·refine .inr ⟨z.1,?_⟩;have:=z.2;rw[dL]at this;ext
  ·rename_i g;rw[aB g];exact kS r h acc q
theorem Nh:∀(names:List (Str×fe))(n:Nat)(acc:List (Str×ak)),(x,ip)∉names->(dG n names acc).lookup x=acc.lookup x
 |[],_,_,_=>rfl
 | (y,k)::r,n,acc,h=>by
  unfold dG;split
  ·rename_i l;let e:k=.cell:=by simpa using l
   subst e;let g:x≠y:=λz=>h (by rw[z];exact bK);rw[Nh r (n+1) _ λz=>h (bD _ z),v7 g]
  ·exact Nh r n acc λz=>h (bD _ z)
theorem PU{α β:Type}(f:Str->α->β)(x:Str):∀(l:List (Str × α)),(l.map λp=>(p.1,f p.1 p.2)).lookup x=(l.lookup x).map (f x)
 |[]=>rfl
 | (y,v)::r=>by
  by_cases g:x=y
  ·subst g;rw[aX,lookup_cons_self,lookup_cons_self];rfl
  ·rw[aX,v7 g,v7 g];exact PU f x r
theorem Ek(scope:dU)(env:Env)(x:Str):(i_ scope env).names.lookup x=(scope.names.lookup x).map λk=>if (k == b6&&env.scope.kind == .function&&env.kindOf x == ξ .cell)=θ then .cell else k:=by
 let e:(i_ scope env).names=scope.names.map λp=>(p.1,(λ(n:Str)k=>if (k == b6&&env.scope.kind == .function&&env.kindOf n == ξ .cell)=θ then ip else k) p.1 p.2):=by show scope.names.map _=_;congr 1;funext p;let⟨n,k⟩:=p;dsimp only;split<;>rfl
 rw[e];exact PU (λ(n:Str)k=>if (k == b6&&env.scope.kind == .function&&env.kindOf n == ξ .cell)=θ then ip else k) x scope.names
theorem Zz{M:A4}{s:aj}{env:Env}{Q:Env->aj->Prop}(h:Q { scope:=scope,locals:=↥s,globals:=globals,cells:=dG (↥s+1) scope.names l,qual:=qual,func:=ψ,code:=env.code,frame:=env.frame,builtins:=env.builtins } { s with heap:=xN (s.heap.push { cls:=.type "dict",data:=.dict #[] }) scope.names }):aF M A (newFunctionEnv scope globals l [] qual ψ .none (ξ env)) Q E s:=by
 simp only[newFunctionEnv,lj,if_true];refine aa (wpAny_alloc ?_);refine aa (wpAny_layCells _ (λname kind cells=>by cases g:kind == ip<;>simp[g]) _ _ _ _ ?_);rw[show ↥({ s with heap:=s.heap.push { cls:=.type "dict",data:=.dict #[] } }:aj)=↥s+1 from dL ..];exact aa (ai (ai h))
def oU(X:Cx)(N:List Str)(scope:dU)(fp:List ak)(s:aj)(H:Hp):Cx where
 prog:=X.prog
 w:=X.w
 K:=X.K
 mg:=X.mg
 base:=X.base
 A:=X.A
 N:=N
 s₀:=s
 H₀:=H
 env:=compEnvC scope (dG (↥s+1) scope.names (kP scope.names X.env.cells [])) ↥s X.env
 outer:=X.stack
 stack:=X.stack
 ex:=fp
 fn:=λx=>decide (scope.names.lookup x=ξ .local\/scope.names.lookup x=ξ .cell)
 calm:=X.calm
 pn:=[]
 xe:=Ar
structure g_(X:Cx)(scope:dU):Prop where
 kind:scope.kind=.function
 names:∀x∈scope.names,x.2=.local->scope.names.lookup x.1=ξ .local
 free:∀x,(x,b6)∈scope.names->X.env.kindOf x=ξ .cell\/X.env.kindOf x=ξ .free
 once:∀x,(x,b6)∈scope.names->(x,ip)∉scope.names
 own:∀x,(x,b6)∈scope.names->scope.names.lookup x≠ξ .local
noncomputable def Aq(n:Nat)(ix:List Nat)(σ:St):St:=aE n ψ++ix.map λi=>(σ[i]?).join
structure j_(X:Cx)(scope:dU)(N:List Str)(n:Nat)(ix:List Nat):Prop where
 len:⇑N=n+⇑ix
 cap:∀(j i:Nat)(x:Str),ix[j]?=ξ i->N[n+j]?=ξ x->X.N[i]?=ξ x/\scope.names.lookup x=ξ .free
theorem uL:∀(names:List (Str×fe))(acc:List (Str×ak)),(kP names cells acc).lookup x=ξ c->(x,b6)∈names\/acc.lookup x=ξ c
 |[],acc,h=>.inr h
 | (n,k)::r,acc,h=>by
  unfold kP at h;rcases uL r _ h with q|q
  ·exact .inl (bD _ q)
  ·split at q
   ·rename_i l;let e:k=.free:=by simpa using l
    subst e;split at q
    ·by_cases g:x=n
     ·subst g;exact .inl bK
     ·rw[v7 g]at q;exact .inr q
    ·exact .inr q
   ·exact .inr q
theorem Qef{scope:dU}(h:(kP scope.names cells []).lookup x=ξ c)(g:scope.names.lookup x=ξ .local\/scope.names.lookup x=ξ .cell)(S:g_ X scope):False:=by
 rcases uL _ _ h with q|q
 ·rcases g with z|z
  ·exact S.own x q z
  ·exact S.once x q (d3 z)
 ·cases q
section
variable{X:Cx}{ah:List (ak×Obj)}{σ:St}{H:Hp}{s:aj}{scope:dU}{fp:List ak}
theorem EK(I:Inv X ah σ H s)(h:(kP scope.names X.env.cells []).lookup x=ξ c):X.env.cells.lookup x=ξ c/\c < ↥s/\(∃v,s.heap.IsCell c v)/\H c=none:=by
 rcases vY _ _ h with q|q
 ·let⟨v,z⟩:=I.cell x c q;exact⟨q,z.lt,⟨v,z⟩,I.freeC x c q⟩
 ·cases q
theorem Qeh(I:Inv X ah σ H s)(S:g_ X scope)(l:∀b∈fp,pU X ah H b)(E:∀b∈fp,b < ↥s):(oU X N scope fp s H).Ok:=by
 let inj:∀x y c,(dG (↥s+1) scope.names (kP scope.names X.env.cells [])).lookup x=ξ c->(dG (↥s+1) scope.names (kP scope.names X.env.cells [])).lookup y=ξ c->x=y:=
  NB scope.names _ _ (λx y c h1 h2=>I.ok.inj x y c (EK I h1).1 (EK I h2).1) λx c h=>ke (EK I h).2.1
 refine⟨I.ok.mod,S.kind,I.ok.glob,I.ok.blt,aA _,inj,λx hx=>?_,λx c hf G=>?_,I.ok.hd,I.ok.frames,.inl rfl,λb C=>?_,I.bs,bH I.ok.bsz I.sz,λb o e C=>?_,λb C z=>?_,I.stack,I.stkFree⟩
 ·let g:(i_ scope X.env).names.lookup x=ξ .cell\/(i_ scope X.env).names.lookup x=ξ .free:=hx;rw[Ek]at g;cases e:scope.names.lookup x with
  |none=>rw[e]at g;rcases g with z|z<;>cases z
  |some k=>
   refine tG.mp (mF scope.names _ _ ?_);cases k with
   |cell=>exact .inl e|free=>
    let Y:=d3 e;let⟨c,G⟩:=I.ok.has x (S.free x Y);exact .inr (by rw[EC G scope.names [] (.inl Y) λd hd=>by cases hd];rfl)
   |_=>
    rw[e]at g;rcases g with z|z<;>(simp at z)
 ·let u:(dG (↥s+1) scope.names (kP scope.names X.env.cells [])).lookup x=ξ c:=G;rcases kH _ _ _ u with q|q
  ·exact Nat.le_of_succ_le q
  ·exfalso
   let J:scope.names.lookup x=ξ .local\/scope.names.lookup x=ξ .cell:=of_decide_eq_true hf;exact Qef q J S
 ·let⟨f0,U,Q,O,L,f5⟩:=l b C;refine⟨bB (E b C),λx c G z=>?_⟩;let u:(dG (↥s+1) scope.names (kP scope.names X.env.cells [])).lookup x=ξ c:=G;rcases kH _ _ _ u with q|q
  ·rw[z]at q;exact bw (br (ke (E b C)) q) (cY _)
  ·exact L x c (EK I q).1 z
 ·let⟨f0,U,Q,O,L,f5⟩:=l b C;rcases O with z|z
  ·exact I.ok.noex b o e z
  ·exact bw (br (br (aP e) I.ok.bsz) z) (cY _)
 ·let⟨f0,U,Q,O,L,f5⟩:=l b C;rcases a_.mp (I.stkSub b z) with q|q
  ·exact U q
  ·exact Q q
noncomputable abbrev rE(h:bC)(scope:dU):bC:=xN (h.push { cls:=.type "dict",data:=.dict #[] }) scope.names
theorem PF(h:bC)(scope:dU):∀b o,h.get? b=ξ o->(rE h scope).get? b=ξ o:=λb o e=>uX _ _ b o (av _ e)
theorem Yq{n:Nat}(I:Inv X ah σ H s)(S:g_ X scope)(T:j_ X scope N n ix)(O:∀b∈fp,pU X ah H b)(L:∀b∈fp,b < ↥s):Inv (oU X N scope fp s H) [] (Aq n ix σ) H { s with heap:=rE s.heap scope }:=by
 let kp:=PF s.heap scope;let G:(rE s.heap scope).Ns ↥s λ_=>none:=(bC.Ns.new s.heap (.type "dict")).keeps (uX _ _);let cells : ∀x c, (dG (↥s+1) scope.names (kP scope.names X.env.cells [])).lookup x = ξ c ->
   (∃v,(rE s.heap scope).IsCell c v)/\H c=none:=λx c h=>by
  let h':(dG (s.heap.push { cls:=.type "dict",data:=.dict #[] }).objs.size scope.names (kP scope.names X.env.cells [])).lookup x=ξ c:=by rw[dL];exact h
  rcases kS _ _ _ h' with q|⟨q,z⟩
  ·let⟨_,_,⟨v,g⟩,hn⟩:=EK I q;exact⟨⟨v,g.keeps kp⟩,hn⟩
  ·refine⟨⟨ψ,q⟩,I.hok.fresh ?_⟩;rw[dL]at z;ext
 refine⟨Qeh I S O L,rfl,I.bare,Un.kept kp,⟨_,G,λi x v h1 h2 h3=>?_⟩,λx c h=>(cells x c h).1,I.hok.fresh (aA _),λx c h=>(cells x c h).2,λp hp=>bw (show p∈([]:List (ak×Obj)) from hp) (by simp),I.hok.kept kp,?_⟩
 ·let U:N[i]?=ξ x:=h1;let g:(aE n ψ++ix.map λi=>(σ[i]?).join)[i]?=ξ (ξ v):=h2;let hi:n<=i:=r8 λz=>by rw[aI (by simpa using z),gp]at g;split at g<;>cases g
  rw[bv (by simpa using hi),eM,ar]at g;cases e:ix[i-n]? with|none=>rw[e]at g;cases g|some k=>
   rw[e]at g;let C:(σ[k]?).join=ξ v:=aO g;let O:σ[k]?=ξ (ξ v):=by
    cases q:σ[k]? with|none=>rw[q]at C;cases C|some o=>rw[q]at C;exact cj ξ C
   let⟨hN,l⟩:=T.cap (i-n) k x e (by rw[show n+(i-n)=i by ext];exact U);let J:=d3 l;let Y:=S.free x J;let⟨m,hn,L⟩:=I.loc;let⟨u,G,H⟩:=L k x v hN O (by
    rcases Y with z|z
    ·exact .inr (.inl z)
    ·exact .inr (.inr z))
   let E:∃c,X.env.cells.lookup x=ξ c/\s.heap.IsCell c (ξ u):=by
    rcases H with ⟨z,_⟩|⟨_,c,Q,q⟩
    ·rcases Y with y|y<;>(rw[y]at z;cases z)
    ·exact⟨c,Q,q⟩
   let⟨c,Q,q⟩:=E;refine⟨u,G,.inr ⟨?_,c,?_,q.keeps kp⟩⟩
   ·show (i_ scope X.env).names.lookup x=ξ .cell\/(i_ scope X.env).names.lookup x=ξ .free;rw[Ek,l,dJ];by_cases h:(b6 == b6&&X.env.scope.kind == .function&&X.env.kindOf x == ξ .cell)=θ
    ·rw[aH h];exact .inl rfl
    ·rw[aB h];exact .inr rfl
   ·show (dG (↥s+1) scope.names (kP scope.names X.env.cells [])).lookup x=ξ c;rw[Nh _ _ _ (S.once x J)];exact EC Q scope.names [] (.inl J) λd hd=>by cases hd
 ·show ⇑(aE n ψ++ix.map λi=>(σ[i]?).join)=⇑N;rw[aK,eM,af,T.len]
def wg(E:TI)(n:Nat)(ix:List Nat)(g:TG)(G:TT)(I:TE):TE:=λσ H Q=>E σ H λJ C=>∀l,C l=ψ->∃W:Nat->Nat->St->Hp->Prop,(∃m,W 0 m (Aq n ix σ) (eE C l (.lst []))) /\
 ∀i m σ' h,W i m σ' h->(J.stop i h/\Q (.ref l) h)\/(J.go i h/\∀x z,J.yld i h x z->g x σ' z λσ2 L=>G σ2 L λb u=>
  if b=θ then I σ2 u λv o=>∃ys,o l=ξ (.lst ys)/\⇑ys < sizeLine/\∃m',m' < m/\W (i+1) m' σ2 (eE o l (.lst (ys++[v]))) else ∃m',m' < m/\W (i+1) m' σ2 u)
def wV(X:Cx)(g:List Expr)(h:TT):Prop:=
 ∀(ah:List (ak×Obj))(s:aj)(σ:St)(H:Hp)(Q:Bool->Hp->Prop),Inv X ah σ H s->h σ H Q->aF (aW X.prog X.w) X.A (BD g X.env) (TP X ah σ Q) X.xe s
theorem Qek:wV X [] (λ_ H Q=>Q θ H):=λah s σ H Q I h=>wpAny_tests_nil ⟨H,I,h⟩
theorem Zg(h:PT X c g):wV X [c] g:=λah s σ H Q I q=>wpAny_tests_one (h ah s σ H Q I q)
structure we(X:Cx)(ah:List (ak×Obj))(C:ak)(H:Hp)(s:aj):Prop where
 ns:∃m,s.heap.Ns C m
 free:H C=ψ
 loc:C≠X.env.locals
 cell:∀x c,X.env.cells.lookup x=ξ c->c≠C
 sz:↥X.s₀<=C
 pin:∀p∈X.pn++ah,p.1≠C
theorem we.go(c:we X ah C H s)(I:Inv X ah σ H s)(g:dP C s.heap h'):Inv X ah σ H { s with heap:=h' }:=
 I.turned (t':=s.toks) (λb o h e=>(g.2 b h).trans e) c.free c.loc (.inr c.sz) c.cell c.pin
theorem Qx{n:Nat}(hc:X.calm=θ) (S:g_ X scope) (T:j_ X scope N n ix) (hi:PI X E iter wi)(blk:∀(fp:List ak)(s:aj)(H:Hp),PG (oU X N scope fp s H) E g/\wV (oU X N scope fp s H) ifs tt/\PE (oU X N scope fp s H) elt te)(hs:∀x,eI iter X.env x=pure x) (I:Inv X ah σ H s) (h:wg wi n ix g tt te σ H QH)(fin:∀(l C:ak)(L:Hp)(s':aj),Inv X ah σ L s'->QH (.ref l) L->we X ah C L s'->compPost (aW X.prog X.w) X.A X.xe use Q (.ref l) C (.ok .next) s'):aF (aW X.prog X.w) X.A (comprehension (.ListComp elt [⟨E,iter,ifs,0⟩] scope pos) scope X.env (firstIterPos [⟨E,iter,ifs,0⟩] pos) (newList []) ω (eval iter X.env) use) Q X.xe s:=by
 let hclos:DH scope X.env=pure (kP scope.names X.env.cells []):=YK λx hx=>I.ok.has x (S.free x hx);refine wpAny_comprehension_free rfl hs hclos S.kind S.names ?_;refine gH (hi ah s σ H _ I h) λv s1 h1=>gH h1 λitv Y h2=>?_;let⟨it,fp,tn,J,H2,rfl,I2,TT,st2,f2,cQ⟩:=h2;refine dk (hd:=by size_fits) ?_;let hf2:H2 ↥Y=none:=I2.hok.fresh (aA _);let⟨W,⟨m0,w0⟩,turn⟩:=cQ _ hf2;let fl:∀b∈fp,b < ↥Y:=λb G=>by let⟨o,e,_⟩:=TT.obj _ _ st2 b G;exact aP e
 let f3:∀b∈fp,pU X ah (eE H2 ↥Y (.lst [])) b:=λb G=>by let⟨f0,fr⟩:=f2 b G;refine⟨?_,fr⟩;rw[e8 (bB (fl b G))];exact f0
 let I3:Inv X ah σ (eE H2 ↥Y (.lst [])) { Y with heap:=Y.heap.push { cls:=.type "list",dict:=ψ,data:=.seq ([]:List ae).toArray } }:=
  I2.laid (t':=Y.toks) (λb o e=>av _ e) (aA _) ⟨bn _,[],0,.nil,aM _ rfl⟩
 let tn3:tn 0 (Y.heap.push { cls:=.type "list",dict:=ψ,data:=.seq ([]:List ae).toArray }):=TT.keep _ _ _ st2 λb G o e=>av _ e;let fl3:∀b∈fp,b < (Y.heap.push { cls:=.type "list",dict:=ψ,data:=.seq ([]:List ae).toArray }).objs.size:=λb G=>by rw[dL];exact ke (fl b G)
 generalize ↥Y=l at *;generalize hs3:({ Y with heap:=Y.heap.push { cls:=.type "list",dict:=ψ,data:=.seq ([]:List ae).toArray } }:aj)=O at *;let e3:Y.heap.push { cls:=.type "list",dict:=ψ,data:=.seq ([]:List ae).toArray }=O.heap:=by rw[<- hs3]
 rw[e3]at tn3 fl3;generalize eE H2 l (.lst [])=U at *;refine Zz ?_;let I4:=Yq (N:=N) (n:=n) (ix:=ix) I3 S T f3 fl3;let⟨bg,bt,be⟩:=blk fp O U;let tn4:tn 0 (rE O.heap scope):=TT.keep _ _ _ tn3 λb G o e=>PF _ _ _ _ e;let fr4:∀b∈fp,U b=none:=λb G=>(f3 b G).1
 show l_ (aW X.prog X.w) X.A (.compStart (.ListComp elt [⟨E,iter,ifs,0⟩] scope pos) 0 (.ref it) (.ref l) (oU X N scope fp O U).env) (compPost (aW X.prog X.w) X.A X.xe use Q (.ref l) ↥O) { O with heap:=rE O.heap scope };let fpx:∀{σ':St}{L:Hp}{s':aj},Inv (oU X N scope fp O U) [] σ' L s'->(∀b∈fp,L b=ψ)->∀b∈fp,pU (oU X N scope fp O U) [] L b:=λI' hn b G=>by have q:=I'.ok.exf b G;exact⟨hn b G,q.1,I'.ok.exfs b G,.inl G,q.2,λp hp=>bw (show p∈([]:List (ak×Obj)) from hp) (by simp)⟩
 let hc':(oU X N scope fp O U).calm=true:=hc;let loop:l_ (aW X.prog X.w) X.A (.compLoop (.ListComp elt [⟨E,iter,ifs,0⟩] scope pos) 0 (.ref it) (.ref l) (oU X N scope fp O U).env) (compPost (aW X.prog X.w) X.A X.xe use Q (.ref l) ↥O) { O with heap:=rE O.heap scope }:=by
  refine Vi (λk s'=>∃i σ' L,Inv (oU X N scope fp O U) [] σ' L s'/\tn i s'.heap/\(∀b∈fp,L b=ψ)/\W i k σ' L) ?_ m0 ⟨0,_,U,I4,tn4,fr4,w0⟩
  rintro k s5 ⟨i,σ5,H5,I5,tn5,fr5,w5⟩
  rcases turn i k σ5 H5 w5 with ⟨stop,q⟩|⟨go,step⟩
  ·refine gH (TT.done (oU X N scope fp O U) rfl rfl rfl hc' i [] s5 σ5 H5 Ar I5 (fpx I5 fr5) tn5 stop) λr s6 h=>?_;let⟨hr,g⟩:=h;subst hr;let H:Inv X ah σ H5 s6:=I3.call' g.os g.base g.hok g.bare λb G=>by let⟨J,E,I,C,u,o⟩:=f3 b G;exact⟨C,E,u,o⟩
   let⟨m,hn,_⟩:=g.loc;refine fin l ↥O H5 s6 H q ⟨⟨m,hn⟩,g.free,fN I3.lt,λx c e=>?_,I3.sz,λp hp=>?_⟩
   ·let⟨v,z⟩:=I3.cell x c e;exact bB z.lt
   ·exact bB (aP (I3.pin p hp).1)
  ·refine gH (TT.item (oU X N scope fp O U) rfl rfl rfl hc' i [] s5 σ5 H5 Ar I5 (fpx I5 fr5) tn5 go) λr s6 J=>?_;let⟨u,hr,h6⟩:=J;subst hr;refine gH h6 λ_ s7 I=>?_;let⟨x,H7,I7,r7,y7,g,fr7⟩:=I;let I7':=I7.pinned (fpx I7 fr7) (TT.obj _ _ g);refine gH (bg _ s7 σ5 H7 x u _ I7' r7 (step x H7 y7)) λ_ s8 H=>?_;let⟨σ8,H8,I8,q8⟩:=H;refine gH (bt _ s8 σ8 H8 _ I8 q8) λok s9 E=>?_;let⟨H9,I9,q9⟩:=E;let again : ∀{s' : aj}{L : Hp}, Inv (oU X N scope fp O U) ([] ++ mE fp s7.heap) σ8 L s' -> (∃m', m' < k /\ W (i+1) m' σ8 L) ->
     ∃m,m < k/\∃i σ' L,Inv (oU X N scope fp O U) [] σ' L s'/\tn i s'.heap/\(∀b∈fp,L b=ψ)/\W i m σ' L:=λ{s' L}I' C=>by
    let⟨m',hm,w'⟩:=C;refine⟨m',hm,i+1,σ8,L,I'.unpinned,TT.keep _ _ _ g λb G o e=>(I'.pin (b,o) (bu _ (bu _ (Ju G e)))).1,λb G=>?_,w'⟩;let⟨o,e,d⟩:=TT.obj _ _ g b G;exact (I'.pin (b,o) (bu _ (bu _ (Ju G e)))).2.1
   cases ok with|false=>exact again I9 q9|true=>
    refine gH (be _ s9 σ8 H9 _ I9 q9) λxv Y z=>?_;let⟨v,Q,I10,r10,ys,hy,hz,q10⟩:=z;refine gH (Su (X:=oU X N scope fp O U) _ Y σ8 Q (.ref l) [v] (.ref l) [xv] (λ_ L=>L=eE Q l (.lst (ys++[v]))) I10 rfl (.cons r10 .nil) ⟨l,ys,v,rfl,rfl,hy,hz,rfl⟩) λ_ s11 h=>?_;let⟨_,H11,I11,_,e⟩:=h;subst e;exact again I11 q10
 exact codeAny_compStart_list loop (TT.self _ 0 _ _ _ tn4 loop)
theorem Zd{n:Nat}(hc:X.calm=θ) (S:g_ X scope) (T:j_ X scope N n ix) (hi:PI X o iter J)(G:∀(fp:List ak)(s:aj)(H:Hp),PG (oU X N scope fp s H) o g/\wV (oU X N scope fp s H) u L/\PE (oU X N scope fp s H) z O)(U:∀x,eI iter X.env x=pure x:=by intro _;rfl):PE X (.ListComp z [⟨o,iter,u,0⟩] scope pos) (wg J n ix g L O):=by
 intro ah s σ H Q I h;rw[eval_ListComp];refine Qx (use:=ψ) hc S T hi G U I h λl C H' s' I' q c=>?_;let⟨m,Y⟩:=c.ns;exact⟨m,Y,λh' E=>⟨.ref l,H',c.go I' E,rfl,q⟩⟩
theorem Vu{pos u J:Pos}{n i:Nat}(hN:X.N.Nodup) (Y:X.N[i]?=ξ x) (hx:L2.Loc X.env.scope x) (hf:X.fn x=θ\/X.env.scope.names.lookup x=ξ .local)(hc:X.calm=θ) (S:g_ X scope) (T:j_ X scope N n ix) (hi:PI X o iter wi)(blk:∀(fp:List ak)(s:aj)(H:Hp),PG (oU X N scope fp s H) o g/\wV (oU X N scope fp s H) E tt/\PE (oU X N scope fp s H) G te)(O:fX (.ListComp G [⟨o,iter,E,0⟩] scope pos) (ξ (.Name x u)) J.line X.env=pure θ)(hs:∀x,eI iter X.env x=pure x:=by intro _;rfl):PS X (.Assign [.Name x u] (.ListComp G [⟨o,iter,E,0⟩] scope pos) J) (Aw (wg wi n ix g tt te) (uK i)):=by
 intro ah s σ H D I h;rw[exec_Assign_Name_used _ _ _ _ O];refine aa (nE (aa ?_))
 show aF _ _ (comprehension (.ListComp G [⟨o,iter,E,0⟩] scope pos) scope X.env _ (newList []) ω (eval iter X.env) (ξ (oK (.Name x u) X.env)) >>= λ_=>pure Unit.unit) _ _ s;refine aa (dN (Qx (use:=ξ (oK (.Name x u) X.env)) (Q:=λ_ s'=>SP X ah D .next s') hc S T hi blk hs I h λl C H' s' I' q c=>?_) (λ_ s' hq=>ai (ai hq)) λ_ _ e=>e);let⟨m,hn⟩:=c.ns;refine Eo (OH I' hN Y hx (v:=.ref l) rfl (λs2 I2 h1_=>?_) hf);obtain ⟨b,hb,hb2⟩:=h1_;let L:b≠C:=by
  rcases hb2 with z|z
  ·rw[z];exact c.loc.symm
  ·exact c.cell x b z
 refine⟨m,hn.sameBut hb L.symm,λh' U=>⟨_,H',?_,q⟩⟩;exact we.go ⟨⟨m,hn.sameBut hb L.symm⟩,c.free,c.loc,c.cell,c.sz,c.pin⟩ I2 U
end
section
variable{X:Cx}{a b c e:Expr}{es:List Expr}{pos:Pos}{fa fb fc:CE}{ca cb:CA}{K:aq}{ρ:List ak}{H:Hp}{st:aY}
theorem y_{K:aq}(h:pO K (tS f) x y H Q):∃(i j:Int)(ρ:List ak)(st:aY),x=.int i/\y=.int j/\SR K ρ H st/\ba K ρ H (f i j st) (λr _ ρ' g=>∀v,da K ρ' g v r->Q v g):=by
 let⟨ρ,st,d,e,l,u,o,p⟩:=h;rcases Dt f d e with ⟨i,j,rfl,rfl⟩|z
 ·exact⟨i,j,ρ,st,u.inv,o.inv,l,p⟩
 ·rw[z]at p;exact p.elim
theorem YW:OpR X (eJ .Sub) (pO X.K pX):=Qbg.of λx y H Q h=>by let⟨i,j,ρ,st,rfl,rfl,g,p⟩:=y_ h;exact⟨_,_,rfl,rfl,p.ret g _ ↑_⟩
theorem Qer:OpR X (eJ .Mult) (pO X.K nW):=Wq.of λx y H Q h=>by let⟨i,j,ρ,st,rfl,rfl,g,p⟩:=y_ h;exact⟨_,_,rfl,rfl,p.chk.1,p.chk.2.ret g _ ↑_⟩
theorem Qes:OpR X (eJ .FloorDiv) (pO X.K tw):=Qbi.of λx y H Q h=>by let⟨i,j,ρ,st,rfl,rfl,g,p⟩:=y_ h;exact⟨_,_,rfl,rfl,p.chk.1,p.chk.2.ret g _ ↑_⟩
theorem W0:OpR X (eJ .Mod) (pO X.K qe):=X5.of λx y H Q h=>by let⟨i,j,ρ,st,rfl,rfl,g,p⟩:=y_ h;exact⟨_,_,rfl,rfl,p.chk.1,p.chk.2.ret g _ ↑_⟩
theorem UH:OpR X (eJ .Pow) (pO X.K yJ):=VR.of λx y H Q h=>by let⟨i,j,ρ,st,rfl,rfl,g,p⟩:=y_ h;exact⟨_,_,rfl,rfl,p.chk.1,p.chk.2.ret g _ ↑_⟩
theorem Qev:OpR X (cq .Lt) (pO X.K Cd):=Qbn.of λx y H Q h=>by let⟨i,j,ρ,st,rfl,rfl,g,p⟩:=y_ h;exact⟨_,_,rfl,rfl,p.ret g _ (.bl _)⟩
theorem T_:OpR X (cq .LtE) (pO X.K Hc):=Qbo.of λx y H Q h=>by let⟨i,j,ρ,st,rfl,rfl,g,p⟩:=y_ h;exact⟨_,_,rfl,rfl,p.ret g _ (.bl _)⟩
theorem V_:OpR X (cq .Gt) (pO X.K yV):=TC.of λx y H Q h=>by let⟨i,j,ρ,st,rfl,rfl,g,p⟩:=y_ h;exact⟨_,_,rfl,rfl,p.ret g _ (.bl _)⟩
theorem YR:OpR X (cq .GtE) (pO X.K Jg):=Vp.of λx y H Q h=>by let⟨i,j,ρ,st,rfl,rfl,g,p⟩:=y_ h;exact⟨_,_,rfl,rfl,p.ret g _ (.bl _)⟩
theorem R5:SA X [] bb:=ua.of λσ H Q h=>h.el λρ l st o g p=>p.ret g [] .nil
theorem Rl(ha:SE X e fa)(Y:SA X es ca)(U:az (e::es) X.env=(ω,eval e X.env)::az es X.env:=by rfl):SA X (e::es) (au fa ca):=
 (qy ha Y U).of λσ H Q h_=>h_.el λρ l st o E p=>⟨ρ,l,st,o,E,p.bnd.imp λd g ρ1 H1 z I O v J=>⟨ρ1,l,g,o.mono z,I,O.bnd.imp λds C ρ2 H2 u G L vs h=>L.ret G _ (.cons (J.mono u) h)⟩⟩
theorem VH{k:Nat}(h:SA X es ca):SE X (.Tuple es k pos) (dD ca):=(S8 h).of λσ H Q L=>L.el λρ l st I z p=>⟨ρ,l,st,I,z,p.bnd.imp λds u ρ1 U O C G vs g=>by let⟨J,E⟩:=G.chk;refine⟨by rw[⇑g];exact J,λq o=>?_⟩;exact E ρ1 _ (Ex.new o) (C.new o) _ (.tup (kZ.of ik) (g.mono (Ex.new o)))⟩
theorem QeC(h:SA X es ca):SL X (.List es pos) (dW ca):=(Ws h).of λσ H Q h_=>h_.el λρ l st O I p=>⟨ρ,l,st,O,I,p.bnd.imp λds G ρ1 H1 E C L vs g=>by
 let⟨Y,J⟩:=L.chk;refine⟨by rw[⇑g];exact Y,λq u=>?_⟩;let U:H q=none:=by
  cases z:H q with|none=>rfl|some o=>exact bw u (E.trk q o z)
 exact J ρ1 _ (Ex.new u) (C.new u) q vs U (C.fresh u) ik (g.mono (Ex.new u))⟩
theorem ba.bnd0{α β:Type}{m:M α}{f:α->M β}{R:β->aY->List ak->Hp->Prop}(h:ba K ρ H (MM.bnd m f st) R):ba K ρ H (m st) λa g _ _=>ba K ρ H (f a g) R:=by
 unfold MM.bnd at h;cases e:m st with
 |ok a s'=>
  rw[e]at h;exact λρ' l y s=>h
 |exc _ _=>rw[e]at h;exact h|bad=>rw[e]at h;exact h
theorem XI(h:SL X e ca):SE X e (cD ca):=h.of λσ H Q Y=>Y.el λρ l st O I p=>⟨ρ,l,st,O,I,p.bnd0.imp λds G ρ1 E o z J a vs U L C u=>by
 let x:Ex ρ H (ρ1++[a]) E:=by
  let⟨τ,e,f⟩:=o.pre;refine⟨⟨τ++[a],by rw[e,bF],λb g=>?_⟩,o.fix,o.oth,o.knd⟩;rcases aS.mp g with g|g
  ·exact f b g
  ·rw[aD]at g;rw[g];exact U
 refine J (ρ1++[a]) E x (z.keep C L u) _ (.ref ⟨_,C,rfl⟩ ?_);rw[<- z.len];simp⟩
theorem _root_.L2.IxR.of{r C:R2}(h:IxR X r)(g:∀x y H Q,C x y H Q->r x y H Q):IxR X C:=λl o z s σ H x y v u Q I G E q J=>h l o z s σ H x y v u Q I G E (g x y H Q q) J
theorem ba.item{i:Int}(h:ba K ρ H (cu ds i st) R)(s:SR K ρ H st):∃k d,L2.sK ⇑ds i=ξ k/\ds[k]?=ξ d/\R d st ρ H:=by
 unfold cu at h;cases e:MM.sK ⇑ds i with|none=>rw[e]at h;exact h.elim|some k=>
  rw[e]at h;cases g:ds[k]? with|none=>dsimp only at h;rw[g]at h;exact h.elim|some d=>dsimp only at h;rw[g]at h;exact⟨k,d,e,g,h.ret s⟩
theorem IX{i:Int}{k:Nat}(r:bQ K ρ H vs ds)(l:L2.sK ⇑ds i=ξ k)(h:ds[k]?=ξ d):∃v,BC vs i=ξ v/\da K ρ H v d:=by let⟨v,e,g⟩:=r.get h;refine⟨v,?_,g⟩;unfold BC;rw[⇑r,l];exact e
theorem ba.itemK{n:Nat}(h:ba K ρ H (MM.itemK n k st) R)(s:SR K ρ H st):∃b g d,st[n]?=ξ (.dct b g)/\oW b k=θ/\kR g k=ξ d/\R d st ρ H:=by
 let⟨b,g,e,u⟩:=ba.getDc (ba.bnd h) s;let⟨z,l⟩:=ba.chk u;cases o:kR g k with|none=>dsimp only at l;rw[o]at l;exact l.elim|some d=>dsimp only at l;rw[o]at l;exact⟨b,g,d,e,z,o,l.ret s⟩
theorem rO.dictIs{a:ak}{b:Bool}(I:Inv X h σ H s)(g:rO X.K ρ H a (.dct b l)):s.TypeIs (.ref a) "dict":=by
 cases b with
 |false=>
  let⟨es,e,r⟩:=g;let⟨_,_,vs,_,o⟩:=KW I.hok e;exact o.typeIs
 |true=>
  let⟨es,e,r⟩:=g;let⟨_,_,xs,_,o,_⟩:=zQ I e r;exact o.typeIs
theorem QeF(hu:X.A.units+60 < cO):IxR X (λx y H Q=>∃(ρ:List ak)(st:aY)(n:Nat)(a:ak)(b:Bool)(l:List (D×D))(k d:D),x=.ref a/\SR X.K ρ H st/\ρ[n]?=ξ a/\st[n]?=ξ (.dct b l)/\da X.K ρ H y k/\oW b k=θ/\kR l k=ξ d/\∀v,da X.K ρ H v d->Q v H):=by intro o z E s σ H x y v u Q I L J h Y;let⟨ρ,st,n,a,b,l,k,d,ex,G,ha,hn,U,hk,hl,q⟩:=h;subst ex;cases L;let g:=G.ob n a _ ha hn;exact A8 (rO.dictIs I g) PySem.F.slot_dict_getitem.lookup (YB () I g U hk hl J λv w' s' I' O C=>⟨v,H,I',C,q v O⟩) Y
theorem Y1{d e:D}{Q:VK}(l:SR K ρ H st)(G:da K ρ H x d)(O:da K ρ H y e)(hd:∀n,d≠.dic n)(p:ba K ρ H (aU d e st) λr _ ρ' L=>∀v,da K ρ' L v r->Q v L):SU K x y H Q:=by
 cases e with
 |int i=>
  obtain rfl:y=.int i:=O.inv;cases d with
  |dic _=>exact bw rfl (hd _)|tup ds=>
   let⟨_,_,rfl,h,r⟩:=G.inv;let⟨k,d,E,C,q⟩:=ba.item p l;let⟨v,u,o⟩:=IX r E C;exact .inr (.inl ⟨_,_,i,v,rfl,rfl,h,u,q v o⟩)
  |lit ds=>
   let⟨_,_,rfl,h,r⟩:=G.inv;let⟨k,d,E,C,q⟩:=ba.item p l;let⟨v,u,o⟩:=IX r E C;exact .inl ⟨_,_,i,v,rfl,rfl,h.seq,u,q v o⟩
  |ref n=>
   let⟨_,rfl,_,h⟩:=G.inv;let⟨xs,e,g⟩:=ba.getL (ba.bnd p) l;let⟨a,vs,J,U,r⟩:=l.seq e;rw[h]at J;cases J;let⟨k,d,E,C,q⟩:=ba.item g l;let⟨v,u,o⟩:=IX r E C;exact .inl ⟨_,_,i,v,rfl,rfl,ie.of U,u,q v o⟩
  |str z=>
   obtain rfl:x=.str z:=G.inv;let⟨hz,g⟩:=ba.chk p;cases e:MM.sK ⇑z i with|none=>rw[e]at g;exact g.elim|some k=>
    rw[e]at g;cases I:z.cps.toList[k]? with|none=>dsimp only at g;rw[I]at g;exact g.elim|some c=>
     dsimp only at g;rw[I]at g;refine .inr (.inr ⟨z,i,c,rfl,rfl,hz,?_,g.ret l _ (.str _)⟩);unfold BC;rw[show ⇑z.cps.toList=⇑z by simp[Str.length]]
     show (L2.sK ⇑z i).bind _=_;rw[show L2.sK ⇑z i=ξ k from e];exact I
  |_=>exact p.elim
 |_=>cases d<;>first|exact bw rfl (hd _)|exact p.elim
theorem Uu(hu:X.A.units+60 < cO):IxR X (pO X.K aU):=(UM.or (QeF hu)).of λx y H Q g=>by
 let⟨ρ,st,d,e,l,C,u,p⟩:=g;by_cases hd:∃n,d=.dic n
 ·let⟨n,rfl⟩:=hd;let⟨a,rfl,_,h⟩:=C.inv;let G:ba X.K ρ H (itemK n e st) λr _ ρ' E=>∀(v:V),da X.K ρ' E v r->Q v E:=p;let⟨b,o,d,L,J,I,q⟩:=ba.itemK G l;exact .inr ⟨ρ,st,n,a,b,o,e,d,rfl,l,h,L,u,J,I,q⟩
 ·exact .inl (Y1 l C u (λn z=>hd ⟨n,z⟩) p)
theorem QeH(hu:X.A.units+60 < cO)(o:SE X a fa)(l:SE X b fb)(g:rj b):SE X (.Subscript a b pos) (c2 aU fa fb):=(Om (Uu hu) o l g).of (Jq λ_ _ _ _ h=>h)
theorem U2(E:SL X a ca)(hb:SE X b fb)(hs:rj b):SE X (.Subscript a b pos) (iP ca fb):=(Om OD E hb hs).of λσ H Q h_=>h_.el λρ l st C J p=>
 ⟨ρ,l,st,C,J,p.bnd.imp λds g ρ1 H1 G O p1 a vs E na hv h=>⟨ρ1,l,g,C.mono G,O,p1.bnd.imp λe I ρ2 H2 o L z u Y=>by
  cases e with
  |int i=>
   cases (show u=.int i from Y.inv);let⟨k,d,h1,h2,q⟩:=ba.item z L;let⟨v,h3,U⟩:=IX (h.mono o) h1 h2;exact⟨a,vs,i,v,rfl,rfl,ie.of (o.lst a vs na hv),h3,q v U⟩
  |_=>exact z.elim⟩⟩
theorem Tj{k n:Nat}(F:iz X.prog X.w X.K X.mg X.base CX k f C ps (nX X.K n g))(J:gJ k X.A)(Y:Gl X x)(O:X.mg x=ξ (.ref f))(U:dh X.K (.ref f)=θ) (hb:Binds X.K C ps []) (I:rC CX X E0) (ha:SA X (e::es) ca) (L:∀l st ds o,ca l st=.ok ds o->⇑ds=n) (z:(x == ("__debug__":Str))=false:=by decide)
  (he:az (e::es) X.env=(ω,eval e X.env)::az es X.env:=by rfl) (u:(dF pos (az es X.env)).any (·.1)=false:=by rfl):SE X (.Call (.Name x p) (e::es) [] pos) (bj g ca):=
 (M6 F J Y O U hb .nil I ha z he u).of λσ H Q h_=>h_.el λρ l st G E p=>⟨ρ,l,st,G,E,by
  let q:=ba.bnd p;cases h:ca l st with|bad=>rw[h]at q;exact q|exc _ _=>rw[h]at q;exact q|ok ds df=>
   rw[h]at q;intro ρ1 H1 x1 s1 vs rvs;refine⟨by rw[bG,⇑rvs];exact L l st ds df h,ρ1,df,ds,s1,by rw[bG];exact rvs,q ρ1 H1 x1 s1⟩⟩
variable{ta tb:CT}
theorem QeK(p:ba K ρ H (Aj d st) R)(g:SR K ρ H st)(o:da K ρ H v d):∃k,C1 K v H k/\R k st ρ H:=by
 cases o with
 |non=>exact⟨ω,rfl,p.ret g⟩|bl b=>exact⟨b,rfl,p.ret g⟩|int i=>exact⟨_,rfl,p.ret g⟩|str x=>exact⟨_,⟨(ba.chk p).1,rfl⟩,(ba.chk p).2.ret g⟩|@tup a vs ds h r=>
  refine⟨!vs.isEmpty,.inr (.inl ⟨vs,h,rfl⟩),?_⟩;have:vs.isEmpty=ds.isEmpty:=by have:=⇑r;cases vs<;>cases ds<;>simp_all
  rw[this];exact p.ret g
 |@lit a vs ds h r=>
  refine⟨!vs.isEmpty,.inl ⟨vs,h.seq,rfl⟩,?_⟩;have:vs.isEmpty=ds.isEmpty:=by have:=⇑r;cases vs<;>cases ds<;>simp_all
  rw[this];exact p.ret g
 |ref _ h=>
  let⟨ds,e,u⟩:=ba.getL (ba.bnd p) g;let⟨a,vs,l,z,r⟩:=g.seq e;rw[h]at l;cases l;refine⟨!vs.isEmpty,.inl ⟨vs,ie.of z,rfl⟩,?_⟩;have:vs.isEmpty=ds.isEmpty:=by have:=⇑r;cases vs<;>cases ds<;>simp_all
  rw[this];exact u.ret g
 |_=>exact p.elim
theorem O8(G:SE X a fa)(E:∀whole,isTrue a X.env whole=(do let v <- whole;ve a.pos;oM [v] (truthy v)):=by intro _;rfl):ST X a (n6 fa):=
 (QbA G E).of λσ H Q I=>I.el λρ l st C h p=>⟨ρ,l,st,C,h,p.bnd.imp λd g ρ1 L J o z v u=>QeK z o u⟩
theorem Pl(I:OpR X (cq op) (pO X.K g))(O:SE X a fa)(L:SE X b fb)(J:iX op b=ω):ST X (.Compare a [op] [b] pos) (cK (c2 g fa fb)):=
 (U5 I O L J).of λσ H Q U=>U.el λρ l st G z p=>Jq (X:=X) (λ_ _ _ _ h=>h) _ _ _ ⟨ρ,l,st,G,z,p.bnd.imp λd u ρ1 H1 Y C o v E=>by
  cases d with
  |bl k=>cases (show v=.bl k from E.inv);exact⟨k,rfl,o.ret C⟩
  |_=>exact o.elim⟩
theorem QeN(g:ST X a ta):PW X (.BoolOp .And [a] pos) (pY X.K ta):=Vo g
theorem QS(g:ST X a ta):PW X (.BoolOp .Or [a] pos) (pY X.K ta):=UV g
theorem _root_.L2.PW.of{t t':TT}(h:PW X e t)(f:∀σ H Q,t' σ H Q->t σ H Q):PW X e t':=λwhole g s σ H Q I q=>h whole g s σ H Q I (f σ H Q q)
theorem Tu{cQ:List Expr}(G:ST X a ta)(E:PW X (.BoolOp .And (b::cQ) pos) (pY X.K tb)):PW X (.BoolOp .And (a::b::cQ) pos) (pY X.K (om ta tb)):=
 (QaG G E).of λσ H Q I=>I.el λρ l st u C p=>⟨ρ,l,st,u,C,p.bnd.imp λc g ρ1 J z h o=>by
  cases c with
  |true=>exact⟨ρ1,l,g,u.mono z,h,o⟩
  |false=>exact o.ret h⟩
theorem O1{cQ:List Expr}(G:ST X a ta)(E:PW X (.BoolOp .Or (b::cQ) pos) (pY X.K tb)):PW X (.BoolOp .Or (a::b::cQ) pos) (pY X.K (tR ta tb)):=
 (QaH G E).of λσ H Q I=>I.el λρ l st u C p=>⟨ρ,l,st,u,C,p.bnd.imp λc g ρ1 J z h o=>by
  cases c with
  |true=>exact o.ret h
  |false=>exact⟨ρ1,l,g,u.mono z,h,o⟩⟩
theorem Sw(C:ST X a ta):ST X (.UnaryOp .Not a pos) (pe ta):=(Wv C).of λσ H Q E=>E.el λρ l st z h p=>⟨ρ,l,st,z,h,p.bnd.imp λc g ρ1 I G o u=>u.ret o⟩
theorem PP(h:SE X a fa):SE X (.BoolOp op [a] pos) fa:=VD h
theorem UY{cQ:List Expr}(I:SE X a fa)(G:SE X (.BoolOp .And (b::cQ) pos) fb):SE X (.BoolOp .And (a::b::cQ) pos) (wT fa fb):=
 (UT I G).of λσ H Q J=>J.el λρ l st u C p=>⟨ρ,l,st,u,C,p.bnd.imp λd g ρ1 L z o h v E=>by
  cases d with
  |bl c=>
   cases (show v=.bl c from E.inv);refine⟨c,rfl,?_⟩;cases c with|true=>exact⟨ρ1,l,g,u.mono z,o,h⟩|false=>exact h.ret o _ (.bl ω)
  |_=>exact h.elim⟩
theorem V8{cQ:List Expr}(I:SE X a fa)(G:SE X (.BoolOp .Or (b::cQ) pos) fb):SE X (.BoolOp .Or (a::b::cQ) pos) (DX fa fb):=
 (UZ I G).of λσ H Q J=>J.el λρ l st u C p=>⟨ρ,l,st,u,C,p.bnd.imp λd g ρ1 L z o h v E=>by
  cases d with
  |bl c=>
   cases (show v=.bl c from E.inv);refine⟨c,rfl,?_⟩;cases c with|true=>exact h.ret o _ (.bl θ)|false=>exact⟨ρ1,l,g,u.mono z,o,h⟩
  |_=>exact h.elim⟩
theorem Qk(E : SE X a fa): SE X (.UnaryOp .Not a pos) (vH fa) := (QaM E).of λσ H Q G => G.el λρ l st C o p => ⟨ρ, l, st, C, o, p.bnd.imp λd h ρ1 J I u g v z => by
  cases d with
  |bl c=>cases (show v=.bl c from z.inv);exact⟨c,rfl,g.ret u _ (.bl _)⟩
  |_=>exact g.elim⟩
theorem WA(E : ST X c ta)(I : SE X a fa)(G : SE X b fb): SE X (.IfExp c a b pos) (yR ta fa fb) := (Ua E I G).of λσ H Q J => J.el λρ l st h C p => ⟨ρ, l, st, h, C, p.bnd.imp λk g ρ1 L o u z => by
  cases k with
  |true=>exact⟨ρ1,l,g,h.mono o,u,z⟩
  |false=>exact⟨ρ1,l,g,h.mono o,u,z⟩⟩
end
theorem LR.set{K:aq}(h:LR K ρ H σ l)(i:Nat)(r:da K ρ H v d):LR K ρ H (σ.set i (ξ v)) (l.set i (ξ d)):=by
 refine⟨by simp[h.1],λj e q=>?_⟩;by_cases z:i=j
 ·subst z;by_cases g:i < ⇑l
  ·rw[ax g]at q;cases q;exact⟨v,by rw[ax (by rw[h.1];exact g)],r⟩
  ·rw[bE (by simp;ext)]at q;cases q
 ·rw[aw z]at q;let⟨w,u,o⟩:=h.2 j e q;exact⟨w,by rw[aw z];exact u,o⟩
theorem LR.start{K:aq}(r:bQ K ρ H vs ds):LR K ρ H (L2.start N vs) (ds.map ξ++aE (⇑N-⇑ds) ψ):=by
 let o:=⇑r;unfold L2.start;refine⟨by simp[o],λi d e=>?_⟩;by_cases g:i < ⇑ds
 ·rw[aI (by simpa using g),ar]at e;cases q:ds[i]? with|none=>rw[q]at e;cases e|some d'=>
   rw[q]at e;let u:d'=d:=aO (aO e);subst u;let⟨v,l,h⟩:=r.get q;refine⟨v,?_,h⟩;rw[aI (by simp;ext),ar,l];rfl
 ·rw[bv (by simpa using g),gp]at e;split at e<;>cases e
section
variable{X:Cx}{a b c e tg:Expr}{pos:Pos}{ta tb:CT}{K:aq}{ρ:List ak}{H:Hp}{st:aY}
abbrev SG(X:Cx)(e:Expr)(g:CG):Prop:=PG X e (AO X.K g)
abbrev Dw(X:Cx)(e:List Expr)(g:List D->Loc->M Loc):Prop:=PGs X e (Gm X.K g)
theorem QeX{i:Nat}(h:PG X (.Name x pos) (uK i)):SG X (.Name x pos) (aT i):=h.of λv σ H Q g=>by let⟨ρ,l,st,d,z,o,u,p⟩:=g;exact p.ret o _ (z.set i u)
theorem QeY:Dw X [] iG:=QaV.of λvs σ H Q g=>by
 let⟨ρ,l,st,ds,u,o,h,p⟩:=g;cases h with|nil=>exact⟨rfl,p.ret o σ u⟩|cons _ _=>exact p.elim
theorem QeZ(Y:SG X e g)(U:Dw X es r)(O:(dC (e::es) X.env).map (·.2)=oK e X.env::(dC es X.env).map (·.2):=by rfl):Dw X (e::es) (cE g r):=
 (VX Y U O).of λvs σ H Q h=>by
  let⟨ρ,l,st,ds,J,E,u,p⟩:=h;cases u with|nil=>exact p.elim|cons rv rt=>exact⟨_,_,rfl,ρ,l,st,_,J,E,rv,(ba.bnd p).imp λL o ρ1 H1 C G I σ1 z=>⟨ρ1,L,o,_,z,G,rt.mono C,I⟩⟩
theorem Uc{k n:Nat}(G:X.calm=θ)(h:Dw X es r)(E:⇑(dC es X.env)=n:=by rfl)(o:(dC es X.env).findIdx? (·.1)=none:=by rfl):SG X (.Tuple es k pos) (ir n r):=
 (QaX G h E o).of λv σ H Q g=>by
  let⟨ρ,l,st,d,C,u,z,p⟩:=g;cases d with|tup ds_=>let⟨_,_,rfl,h,r⟩:=z.inv;exact⟨_,_,rfl,h,by rw[⇑r];exact (ba.chk p).1,ρ,l,st,_,C,u,r,(ba.chk p).2⟩|_=>exact p.elim
theorem NS:wS X [] aZ:=Lw.of λG σ H o=>o.el λρ l st h g p=>p.ret g σ h
theorem MF(J:SS X s cs)(I:wS X ss cr):wS X (s::ss) (aN cs cr):=(Nn J I).of λG σ H E=>E.el λρ l st C z p=>⟨ρ,l,st,C,z,p.bnd.imp λf o ρ1 O L g h=>by
 cases f with
 |next l'=>exact λσ' u=>⟨ρ1,l',o,u,g,h⟩|ret d=>exact h.ret g|brk l'=>exact h.ret g
 |cnt l'=>exact h.ret g⟩
theorem NH(h:SE X e fa):SS X (.Return (ξ e) pos) (dj fa):=(Qs h).of λG σ H I=>I.el λρ l st E o p=>⟨ρ,l,st,E,o,p.bnd.imp λd g ρ1 L J u C v z=>C.ret u v z⟩
theorem UA(h:SE X e fa)(I:fX e ψ pos.line X.env=pure false:=by rfl):SS X (.Expr e pos) (fZ fa):=(Pq h I).of λG σ H J=>J.el λρ l st g z p=>
 ⟨ρ,l,st,g,z,p.bnd.imp λd u ρ1 O o C E v L=>E.ret C σ (g.mono o)⟩
theorem P6(E:ST X c ta)(J:wS X ss cs)(I:wS X h cr):SS X (.If c ss h pos) (lY ta cs cr):=(QZ E J I).of λG σ H L=>L.el λρ l st o h p=>
 ⟨ρ,l,st,o,h,p.bnd.imp λk g ρ1 O u z C=>by
  cases k with
  |true=>exact⟨ρ1,l,g,o.mono u,z,C⟩
  |false=>exact⟨ρ1,l,g,o.mono u,z,C⟩⟩
theorem MU{u:TE}{tg:TG}(he:∀σ H Q,BL X.K fa σ H Q->u σ H Q)(hg:∀v σ H Q,AO X.K g v σ H Q->tg v σ H Q):∀G σ H,wP X.K (bM g fa) G σ H->Aw u tg G σ H:=λG σ H h_=>h_.el λρ l st z I p=>
 he _ _ _ ⟨ρ,l,st,z,I,p.bnd.imp λd h ρ1 H1 C L Y v O=>hg _ _ _ _ ⟨ρ1,l,h,d,z.mono C,L,O,Y.bnd.imp λl2 E ρ2 H2 x2 J U σ2 o=>U.ret J σ2 o⟩⟩
theorem Sg{i:Nat}:∀v σ H Q,AO X.K (aT i) v σ H Q->uK i v σ H Q:=λv σ H Q g=>by let⟨ρ,l,st,d,u,h,o,p⟩:=g;exact p.ret h _ (u.set i o)
theorem RV{i : Nat}(E : X.N.Nodup)(u : X.N[i]? = ξ x)(l : L2.Loc X.env.scope x)(C : SE X e fa)(o : fX e (ξ (.Name x g)) pos.line X.env = pure ω := by rfl)
  (z:X.fn x=θ\/X.env.scope.names.lookup x=ξ .local:=by first|exact .inl rfl|exact .inr rfl|assumption):SS X (.Assign [.Name x g] e pos) (bM (aT i) fa):=
 (Qm E u l C o z).of (MU (λ_ _ _ h=>h) Sg)
theorem QT(z : SE X e fa)(u : SG X tg g)(o : swapsWithSole [tg] e pos.line X.env = pure ω := by rfl)(l : swappedStores [tg] e X.env = pure ψ := by rfl)
  (C:(dC [tg] X.env).map (·.2)=[oK tg X.env]:=by rfl):SS X (.Assign [tg] e pos) (bM g fa):=(QaZ z u o l C).of (MU (λ_ _ _ h=>h) λ_ _ _ _ h=>h)
theorem ba.storeK{n:Nat}(h:ba K ρ H (MM.storeK n k v st) R)(s:SR K ρ H st):∃b g,st[n]?=ξ (.dct b g)/\oW b k=θ/\⇑g < eT/\ba K ρ H (.ok Unit.unit (st.set n (.dct b (i6 g k v)))) R:=by let⟨b,g,e,o⟩:=ba.getDc (ba.bnd h) s;let⟨⟨z,u⟩,l⟩:=ba.chk o;refine⟨b,g,e,z,u,?_⟩;unfold tj at l;rw[e]at l;simpa using l
def Gf(X:Cx):V->V->V->Hp->(Hp->Prop)->Prop:=λo i v H Q=>∃(ρ:List ak)(st:aY)(n:Nat)(a:ak)(b:Bool)(cx:List (D×D))(k d:D),o=.ref a/\SR X.K ρ H st/\ρ[n]?=ξ a/\st[n]?=ξ (.dct b cx)/\da X.K ρ H i k/\oW b k=θ/\⇑cx < sizeLine/\da X.K ρ H v d /\
 ∀g,SR X.K ρ g (st.set n (.dct b (i6 cx k d)))->Ex ρ H ρ g->Q g
theorem X4(hu:X.A.units+60 < cO):PSet X (Gf X):=by intro h s σ H o i v ov iv u Q I J O G g;let⟨ρ,st,n,a,b,Y,k,d,eo,C,ha,hn,L,hk,hl,U,q⟩:=g;subst eo;cases J;exact Xk () I C ha hn L hk hl U O G λl s' I' E z=>⟨l,I',q l E z⟩
theorem _root_.L2.PSet.or(h:PSet X t)(h':PSet X t'):PSet X (λo i v H Q=>t o i v H Q\/t' o i v H Q):=by
 intro g s σ H o i v E G u Q I z C l q;rcases q with q|q
 ·exact h g s σ H o i v E G u Q I z C l q
 ·exact h' g s σ H o i v E G u Q I z C l q
theorem Vq(hu:X.A.units+60 < cO)(ho:SE X o to)(hi:SE X i ti)(ha:∀v,oK (.Subscript o i pos) X.env v=(do
   let ov <- oM [v] (eval o X.env)
   let iv <- oM [v,ov] (eval i X.env)
   ve pos
   oM [v,ov,iv] (sQ ov iv v)
   release [v,ov,iv] []):=by intro _;rfl):SG X (.Subscript o i pos) (kN to ti):=
 (QaY ho hi (TD.or (X4 hu)) ha).of λv σ H Q L=>by let⟨ρ,l,st,d,lr,sr,rv,p⟩:=L;exact⟨ρ,l,st,lr,sr,p.bnd.imp λy df ρ1 H1 U s1 p1 u ru=>⟨ρ1,l,df,lr.mono U,s1,p1.bnd.imp λz g ρ2 H2 O I p2 w C=>by
  let J:=ru.mono O;let rd:da X.K ρ2 H2 v d:=(rv.mono U).mono O;cases y with
  |ref n=>
   let⟨_,rfl,_,h⟩:=J.inv;cases z with
   |int k=>
    cases (show _=V.int k from C.inv);let⟨ds,e,Y⟩:=ba.getL (ba.bnd (ba.bnd p2)) I;let⟨a,vs,ha,hv,r⟩:=I.seq e;rw[h]at ha;cases ha;cases e2:MM.sK ⇑ds k with|none=>rw[e2]at Y;exact Y.elim|some j=>
     rw[e2]at Y;let hl:=(ac.mp e).1;let⟨G,E⟩:=I.put hl h hv (r.set j rd);refine .inl ⟨_,vs,k,j,rfl,rfl,hv,by rw[⇑r];exact e2,?_⟩;let p4:ba X.K ρ2 H2 (putL _ (ds.set j d) g) _:=Y;unfold putL at p4;rw[e]at p4;exact (p4 ρ2 _ E G).ret G σ (((lr.mono U).mono O).mono E)
   |_=>exact (ba.bnd p2).elim
  |dic n=>
   let⟨a,rfl,_,h⟩:=J.inv;let p':ba X.K ρ2 H2 (storeK n z d g) λa st' ρ' H'=>ba X.K ρ' H' (MM.ret l st') λl' _ ρ' H'=>∀σ',LR X.K ρ' H' σ' l'->Q σ' H':=by cases C<;>exact ba.bnd p2
   let⟨b,cx,e1,hk,hl,q⟩:=ba.storeK p' I;exact .inr ⟨ρ2,g,n,a,b,cx,z,d,rfl,I,h,e1,C,hk,hl,rd,λH3 G E=>(q ρ2 H3 E G).ret G σ (((lr.mono U).mono O).mono E)⟩
  |_=>exact (ba.bnd p2).elim⟩⟩
theorem UF{K:aq}{k:Nat}(F:ww K x qual sd f I)(S:kh N ps (bh sd))(u:∀(g:ae)(A:bx)(outer:List Env)(s:aj)(H:Hp)(E:XK),I.code=g->gJ k (A.deeper (kB qual (bh sd) ↥s f g))->wS (oD qF P w K mg base N qual (bh sd) f g A outer s H E).nox (cn sd) o):iz P w K mg base qF (k+1) f I ps (nX K ⇑ps (bR ⇑N o)):=by
 let⟨oc,od,kV,doc,pm,an,g,ct,Y,rfl,lk,G⟩:=F.ex;refine MZ lk G S (λvs H Q E h=>h.1) λA outer s H vs Q E hr h=>⟨_,(u g A outer s H E rfl hr).nox,?_⟩
 let⟨hl,ρ,st,ds,O,C,p⟩:=h;refine⟨ρ,_,st,LR.start C,O,?_⟩;unfold bR at p;exact p.bnd.imp λf L ρ1 H1 x1 J z=>by
  cases f with|next l=>exact λσ' _=>z.ret J _ .non|ret d=>exact λv U=>z.ret J v U|brk l=>exact z.elim|cnt l=>exact z.elim
noncomputable def Jz(K:aq)(ρ0:List ak)(h:Hp)(w:Wk)(J:It):Prop:=∀ρ H st,Ex ρ0 h ρ H->SR K ρ H st->w.same st->J.stop ⇑w.ds H/\∀(i:Nat)(d:D),w.ds[i]?=ξ d->J.go i H/\∀x g,J.yld i H x g->Ex ρ H ρ g/\SR K ρ g st/\da K ρ g x d
def FM(K:aq)(f:CI):TI:=λσ H R=>∃ρ l st,LR K ρ H σ l/\SR K ρ H st/\ba K ρ H (f l st) λw _ ρ' g=>∀J,Jz K ρ' g w J->R J g
abbrev SI(X:Cx)(tg e:Expr)(f:CI):Prop:=PI X tg e (FM X.K f)
theorem _root_.L2.PI.of{t t':TI}(h:PI X tg e t)(f:∀σ H R,t' σ H R->t σ H R):PI X tg e t':=λg s σ H R I q=>h g s σ H R I (f σ H R q)
theorem LG{p:aY->Prop}{a:ak}(h:∀ρ H st,Ex ρ0 u ρ H->SR K ρ H st->p st->∃vs,ie K H a vs/\bQ K ρ H vs ds):Jz K ρ0 u ⟨ds,p⟩ (JC K a):=λρ H st x s q=>by let⟨vs,l,r⟩:=h ρ H st x s q;refine⟨⟨vs,l,by rw[⇑r];exact aA _⟩,λi d e=>?_⟩;let⟨v,o,z⟩:=r.get e;refine⟨⟨vs,v,l,o⟩,λy G g=>?_⟩;let⟨E,C⟩:=g;subst E;have:=C vs l;rw[o]at this;cases this;exact⟨Ex.refl,s,z⟩
theorem T9{p:aY->Prop}{a:ak}(h:∀ρ H st,Ex ρ0 u ρ H->SR K ρ H st->p st->∃vs,kZ K H a vs/\bQ K ρ H vs ds):Jz K ρ0 u ⟨ds,p⟩ (KS K a):=λρ H st x s q=>by let⟨vs,l,r⟩:=h ρ H st x s q;refine⟨⟨vs,l,by rw[⇑r];exact aA _⟩,λi d e=>?_⟩;let⟨v,o,z⟩:=r.get e;refine⟨⟨vs,v,l,o⟩,λy G g=>?_⟩;let⟨E,C⟩:=g;subst E;have:=C vs l;rw[o]at this;cases this;exact⟨Ex.refl,s,z⟩
theorem Qr{lo:Int}{n:Nat}:Jz K ρ0 u ⟨ib lo n,e9⟩ (HJ lo n):=λρ H st x s _=>by
 refine⟨by show n<=⇑(ib lo n);unfold ib;simp,λi d e=>?_⟩;let h:i < n:=by have:=(ac.mp e).1;simpa [ib] using this
 refine⟨h,λy z g=>?_⟩;let⟨o,l⟩:=g;subst o l;have:d=.int (lo+(i:Nat)):=by unfold ib at e;rw[ar,d_ h]at e;exact (aO e).symm
 subst this;exact⟨Ex.refl,s,.int _⟩
theorem Y3(U:PE X l L):PI X tg l (λσ H R=>L σ H λx z=>∃a,x=.ref a/\((∃xs,ie X.K z a xs)/\R (JC X.K a) z\/(∃xs,kZ X.K z a xs)/\R (KS X.K a) z)):=by
 intro E s σ H R I h;refine gH (U E s σ H _ I h) λv g C=>?_;let⟨x,z,u,Q,a,e,q⟩:=C;subst e;cases Q;rcases q with ⟨⟨xs,G⟩,q⟩|⟨⟨xs,G⟩,q⟩
 ·let⟨its,O,p,hz⟩:=u.list G;refine kA p.isList ?_;refine⟨↥g,[↥g],_,_,z,rfl,u.kept (t':=g.toks) λb o e=>av _ e,Od a _,⟨_,aM _ rfl,rfl,rfl⟩,λb J=>?_,q⟩;let e:b=↥g:=by simpa using J
  subst e;exact u.fpOk (aA _) (u.hok.fresh (aA _))
 ·let⟨its,O,p,hz⟩:=u.tuple G;refine mJ (show g.heap.IsTuple a its.toArray from p) ?_;refine⟨↥g,[↥g],_,_,z,rfl,u.kept (t':=g.toks) λb o e=>av _ e,Tn a _,⟨_,aM _ rfl,rfl,rfl⟩,λb J=>?_,q⟩;let e:b=↥g:=by simpa using J
  subst e;exact u.fpOk (aA _) (u.hok.fresh (aA _))
theorem YY(h:SE X e fa):SI X tg e (fY fa):=(Y3 h).of λσ H R U=>U.el λρ l st L I p=>⟨ρ,l,st,L,I,p.bnd.imp λd G ρ1 H1 Y g u v C=>by
 cases d with
 |tup ds=>let⟨a,vs,rfl,h,r⟩:=C.inv;exact⟨a,rfl,.inr ⟨⟨vs,h⟩,u.ret g _ (T9 λρ H st x s _=>⟨vs,kZ.mono x.up h,r.mono x⟩)⟩⟩|lit ds=>let⟨a,vs,rfl,h,r⟩:=C.inv;exact⟨a,rfl,.inl ⟨⟨vs,h.seq⟩,u.ret g _ (LG λρ H st x s _=>⟨vs,(xG.mono x.up h).seq,r.mono x⟩)⟩⟩|ref n=>
  let⟨a,rfl,_,h⟩:=C.inv;let⟨ds,e,J⟩:=ba.getL (ba.bnd u) g;let⟨a',vs,E,Q,r⟩:=g.seq e;rw[h]at E;cases E;refine⟨a,rfl,.inl ⟨⟨vs,ie.of Q⟩,J.ret g _ (LG λρ H st x s q=>?_)⟩⟩;let⟨a2,ws,o,O,z⟩:=s.seq q;let⟨τ,eτ,_⟩:=x.pre;rw[eτ,GG h]at o;cases o;exact⟨ws,ie.of O,z⟩
 |_=>exact u.elim⟩
theorem Ys(h:SL X e ca):SI X tg e (wM ca):=(W9 h).of λσ H R J=>J.el λρ l st I z p=>⟨ρ,l,st,I,z,p.bnd.imp λds u ρ1 Q L C E a vs O G o g=>
 ⟨a,rfl,⟨vs,ie.of o⟩,E.ret C _ (LG λρ H st x s _=>⟨vs,ie.of (x.lst a vs G o),g.mono x⟩)⟩⟩
theorem TJ(G:Gl X "range")(E:X.mg "range"=ψ)(h:SE X a fa)(o:az [a] X.env=[(ω,eval a X.env)]:=by rfl):SI X tg (.Call (.Name "range" p) [a] [] pos) (MM.fC fa):=
 (Wy (tg:=tg) (p:=p) (pos:=pos) G E (Rl h R5 o) o).of λσ H R I=>I.el λρ l st C u p=>⟨ρ,l,st,C,u,by
  let q:=ba.bnd p;unfold au
  show ba X.K ρ H (bnd (fa l) _ st) _;unfold MM.bnd;cases e:fa l st with|bad=>rw[e]at q;exact q|exc _ _=>rw[e]at q;exact q|ok d df=>
   rw[e]at q
   show ∀ρ' H',Ex ρ H ρ' H'->SR X.K ρ' H' df->_;intro ρ1 H1 x1 s1 vs rvs;let g:=q ρ1 H1 x1 s1;cases rvs with|cons rv rt=>
    cases rt;cases rv with
    |int j=>
     let⟨⟨L,J⟩,z⟩:=ba.chk g;exact⟨j,rfl,L,J,z.ret s1 _ Qr⟩
    |_=>exact g.elim⟩
theorem ba.chkS(h:ba K ρ H (MM.chkS p st) R)(s:SR K ρ H st):p st/\R Unit.unit st ρ H:=by
 unfold MM.chkS at h;by_cases g:p st
 ·rw[aH g]at h;exact⟨g,h ρ H Ex.refl s⟩
 ·rw[aB g]at h;exact h.elim
theorem VG{cb:CS}(hp:og (aW X.prog X.w) X.A X.env X.xe)(hc:X.calm=θ)(hi:SI X tg iter ci)(hg:SG X tg g)(hb:wS X u cb)(hs:∀x,eI iter X.env x=pure x:=by intro _;rfl):SS X (.For tg iter u [] pos) (hU ci g cb):=(Pw hp hc hi hg hb hs).of λG σ H h_=>h_.el λρ l st lr sr p=>
 ⟨ρ,l,st,lr,sr,p.bnd.imp λw Y ρ1 H1 x1 s1 p1 J hJ=>by
  refine⟨λi m σ' h=>m=⇑w.ds-i/\i<=⇑w.ds/\∃ρ' l' st',Ex ρ1 H1 ρ' h/\LR X.K ρ' h σ' l'/\SR X.K ρ' h st'/\ba X.K ρ' h (kM g cb w.same (w.ds.drop i) l' st') λf _ ρ' h=>match f with
   | .next l'=>∀σ',LR X.K ρ' h σ' l'->G.nx σ' h| .ret d=>∀v,da X.K ρ' h v d->G.rt v h| .brk l'=>∀σ',LR X.K ρ' h σ' l'->G.bk σ' h
   | .cnt l'=>∀σ',LR X.K ρ' h σ' l'->G.ct σ' h,⟨⇑w.ds,by simp,bn _,ρ1,l,Y,Ex.refl,lr.mono x1,s1,p1⟩,?_⟩
  rintro i m σ2 H2 ⟨rfl,hi,ρ2,l2,st2,x2,lr2,s2,p2⟩
  by_cases z:i < ⇑w.ds
  ·let ed:w.ds.drop i=w.ds[i]::w.ds.drop (i+1):=cz z;rw[ed]at p2;unfold kM at p2;let⟨sm,p3⟩:=ba.chkS (ba.bnd p2) s2;let⟨_,go⟩:=hJ ρ2 H2 st2 x2 s2 sm;let⟨g1,g2⟩:=go i w.ds[i] (ag z);refine .inr ⟨g1,λσ3 C=>∃ρ3 l3 st3,Ex ρ1 H1 ρ3 C/\LR X.K ρ3 C σ3 l3/\SR X.K ρ3 C st3/\ba X.K ρ3 C (kM g cb w.same (w.ds.drop (i+1)) l3 st3) λf _ ρ' h=>match f with
    | .next l'=>∀σ',LR X.K ρ' h σ' l'->G.nx σ' h| .ret d=>∀v,da X.K ρ' h v d->G.rt v h| .brk l'=>∀σ',LR X.K ρ' h σ' l'->G.bk σ' h
    | .cnt l'=>∀σ',LR X.K ρ' h σ' l'->G.ct σ' h,λσ3 C q=>⟨_,by ext,rfl,z,q⟩,λy C hy=>?_⟩
   let⟨Q,s3,l⟩:=g2 y C hy;refine⟨ρ2,l2,st2,_,lr2.mono Q,s3,l,(ba.left Q (ba.bnd p3)).imp λl4 U ρ4 H4 J Y p4 σ4 u=>⟨ρ4,l4,U,u,Y,(ba.bnd p4).imp λf I ρ5 H5 H L O=>?_⟩⟩;let E:Ex ρ1 H1 ρ5 H5:=(x2.trans Q).trans (J.trans H);cases f with|next l5=>exact λσ5 o=>⟨ρ5,l5,I,E,o,L,O⟩|cnt l5=>exact λσ5 o=>⟨ρ5,l5,I,E,o,L,O⟩|brk l5=>exact λσ5 o=>O.ret L σ5 o|ret d=>exact λv l=>O.ret L v l
  ·let e:i=⇑w.ds:=by ext
   subst e;rw[mM]at p2;unfold kM at p2;let⟨sm,p3⟩:=ba.chkS (ba.bnd p2) s2;let⟨g1,_⟩:=hJ ρ2 H2 st2 x2 s2 sm;exact .inl ⟨g1,p3.ret s2 σ2 lr2⟩⟩
end
section
variable{X:Cx}{a b c e tg:Expr}{ta tb:CT}{K:aq}{ρ:List ak}{H:Hp}{st:aY}{id T:String}
theorem Qfl{n:Nat}(h:LR K ρ H σ l):LR K ρ H (Aq n ix σ) (fT n ix l):=by
 unfold Aq fT;refine⟨by simp,λi d e=>?_⟩;let u:n<=i:=r8 λz=>by rw[aI (by simpa using z),gp]at e;split at e<;>cases e
 rw[bv (by simpa using u),eM,ar]at e;cases q:ix[i-n]? with|none=>rw[q]at e;cases e|some k=>
  rw[q]at e;let g:(l[k]?).join=ξ d:=aO e;let G:l[k]?=ξ (ξ d):=by
   cases z:l[k]? with|none=>rw[z]at g;cases g|some o=>rw[z]at g;exact cj ξ g
  let⟨v,E,C⟩:=h.2 k d G;refine⟨v,?_,C⟩;rw[bv (by simpa using u),eM,ar,q]
  show ξ ((σ[k]?).join)=ξ (ξ v);rw[E];rfl
abbrev zl(X:Cx)(g:List Expr)(t:CT):Prop:=wV X g (pY X.K t)
theorem Uv:zl X [] cB:=λg s σ H Q I o=>o.el λρ l st u h p=>Qek g s σ H Q I (p.ret h)
theorem XN(h:ST X c ta):zl X [c] ta:=Zg h
theorem Ex.own(x:Ex ρ H ρ' g)(h:H q=ψ):Ex ρ H ρ' (eE g q (.lst ws)):=by
 let ne:∀b o,H b=ξ o->b≠q:=λb o e z=>by rw[z,h]at e;cases e
 exact⟨x.pre,λb o no e=>by rw[e8 (ne b o e)];exact x.fix b o no e,λb xs l e=>by rw[e8 (ne b _ e)];exact x.oth b xs l e,λb o e=>by rw[e8 (ne b o e)];exact x.knd b o e⟩
theorem Up.own{g:Hp}(h:g q=ξ (.lst vs)):Up ρ' g ρ' (eE g q (.lst ws)):=
 ⟨⟨[],by simp⟩,λb o no e=>by rw[e8 λz=>by subst z;rw[h]at e;cases e;cases no];exact e,
  λb o e=>by
   by_cases z:b=q
   ·subst z;rw[h]at e;cases e;exact⟨_,ik,rfl⟩
   ·exact⟨o,by rw[e8 z];exact e,rfl⟩⟩
theorem LR.up(x:Up ρ H ρ' g)(h:LR K ρ H σ l):LR K ρ' g σ l:=⟨h.1,λi d e=>let ⟨v,e1,r⟩:=h.2 i d e;⟨v,e1,r.up x⟩⟩
theorem SR.own(s:SR K ρ H st)(h:H q=ξ (.lst vs))(l:q∉ρ):SR K ρ (eE H q (.lst ws)) st:=
 ⟨s.len,s.nd,λn b o g u=>rO.mono (o:=o) (Up.own h) (s.ob n b o g u) λC e=>by rw[e8 (λ(z:b=q)=>l (by rw[<- z];exact aJ g))];exact e⟩
theorem OP{n:Nat}:∀σ H Q,HX K (db n ix ci g ta fa) σ H Q->wg (FM K ci) n ix (AO K g) (pY K ta) (BL K fa) σ H Q:=λσ H Q h_=>h_.el λρ l st lr sr p=>
 ⟨ρ,l,st,lr,sr,p.bnd0.imp λw df ρ1 H1 x1 s1 p1 J hJ q hq=>by
  let⟨hz,p2⟩:=ba.chk p1;let hn:H q=none:=by
   cases z:H q with|none=>rfl|some o=>exact bw hq (x1.trk q o z)
  obtain⟨J0,I⟩:∃J0:Nat->Nat->St->Hp->Prop,J0=λi m σ' O=>m=⇑w.ds-i/\i<=⇑w.ds/\∃ρ' l' st' done vs,Ex ρ H ρ' O/\Ex ρ1 H1 ρ' O/\LR K ρ' O σ' l'/\SR K ρ' O st'/\q∉ρ'/\O q=ξ (.lst vs)/\bQ K ρ' O vs done/\⇑done<=i /\
   ba K ρ H (collect g ta fa w.same (w.ds.drop i) l' st') (λcQ u ρ2 h=>∀a ws,H a=ψ->a∉ρ2->h a=ξ (.lst ws)->bQ K ρ2 h ws (done++cQ)->Q (.ref a) h):=⟨_,rfl⟩
  refine⟨J0,
   ⟨⇑w.ds,by rw[I];exact⟨by simp,bn _,ρ1,fT n ix l,df,[],[],x1.trans (Ex.new hq),Ex.new hq,Qfl ((lr.mono x1).mono (Ex.new hq)),s1.new hq,s1.fresh hq,ik,.nil,bn _,p2⟩⟩,?_⟩
  intro i m σ2 h hj;rw[I]at hj;let⟨rfl,hi,ρ2,l2,u,done,vs,L,y2,lr2,s2,nq,hv,C,hd,p3⟩:=hj;by_cases G:i < ⇑w.ds
  ·let ed:w.ds.drop i=w.ds[i]::w.ds.drop (i+1):=cz G;rw[ed]at p3;unfold collect at p3;let⟨sm,p4⟩:=ba.chkS (p3.bnd0.left L) s2;let⟨_,go⟩:=hJ ρ2 h u y2 s2 sm;let⟨g1,g2⟩:=go i w.ds[i] (ag G);refine .inr ⟨g1,λy H3 hy=>?_⟩;let⟨Q,s3,rv⟩:=g2 y H3 hy;refine⟨ρ2,l2,u,_,lr2.mono Q,s3,rv,(p4.bnd0.left (L.trans Q)).imp λl4 st4 ρ4 H4 x4 s4 p5 σ4 E=>⟨ρ4,l4,st4,E,s4,(p5.bnd0.left (L.trans (Q.trans x4))).imp λb H ρ5 H5 J s5 p6=>?_⟩⟩;let U:Ex ρ2 h ρ5 H5:=Q.trans (x4.trans J);let Y:∀{ρ':List ak}{O:Hp},Ex ρ2 h ρ' O->q∉ρ':=λz o=>by
    let⟨τ,e,f⟩:=z.pre;rw[e]at o;rcases aS.mp o with o|o
    ·exact nq o
    ·rw[f q o]at hv;cases hv
   cases b with|false=>exact⟨⇑w.ds-(i+1),by ext,by rw[I];exact⟨rfl,G,ρ5,l4,H,done,vs,L.trans U,y2.trans U,E.mono J,s5,Y U,U.lst q vs nq hv,C.mono U,Nat.le_succ_of_le hd,p6⟩⟩|true=>
    refine⟨ρ5,l4,H,E.mono J,s5,(p6.bnd0.left (L.trans U)).imp λd st6 ρ6 H6 x6 s6 p7 v rv6=>?_⟩;let l:Ex ρ2 h ρ6 H6:=U.trans x6;let g:=l.lst q vs nq hv;let u6:Up ρ6 H6 ρ6 (eE H6 q (.lst (vs++[v]))):=Up.own g;refine⟨vs,g,?_,⇑w.ds-(i+1),by ext,?_⟩
    ·let h:=⇑C;let g:⇑w.ds<=sizeLine:=hz;ext
    ·rw[I];refine⟨rfl,G,ρ6,l4,st6,done++[d],vs++[v],(L.trans l).own hn,(y2.trans l).own hq,LR.up u6 ((E.mono J).mono x6),s6.own g (Y l),Y l,ik,
     bQ.app ((C.mono l).up u6) (.cons (rv6.up u6) .nil),by simp;ext,?_⟩
     refine p7.bnd0.imp λcQ u ρ8 H8 o z H a ws U O Q h=>?_;exact H ρ8 H8 o z a ws U O Q (by rw[List.append_cons];exact h)
  ·let e:i=⇑w.ds:=by ext
   subst e;rw[mM]at p3;unfold collect at p3;let⟨sm,p4⟩:=ba.chkS (p3.bnd0.left L) s2;let⟨g1,_⟩:=hJ ρ2 h u y2 s2 sm;refine .inl ⟨g1,p4 ρ2 h L s2 q vs hn nq hv (by rw[bG];exact C)⟩⟩
theorem Ui{n:Nat}(C:X.calm=θ)(S:g_ X scope)(T:j_ X scope N n ix)(z:SI X tg b o)(l:∀(fp:List ak)(s:aj)(H:Hp),SG (oU X N scope fp s H) tg g/\zl (oU X N scope fp s H) h ta/\SE (oU X N scope fp s H) e fa)(u:∀x,eI b X.env x=pure x:=by intro _;rfl):SL X (.ListComp e [⟨tg,b,h,0⟩] scope pos) (db n ix o g ta fa):=(Zd C S T z l u).of OP
theorem W7{n i:Nat}{o h:Pos}(hN:X.N.Nodup) (I:X.N[i]?=ξ y) (hy:L2.Loc X.env.scope y) (hf:X.fn y=θ\/X.env.scope.names.lookup y=ξ .local)(hc:X.calm=θ) (S:g_ X scope) (T:j_ X scope N n ix) (hi:SI X tg b U)(J:∀(fp:List ak)(s:aj)(H:Hp),SG (oU X N scope fp s H) tg g/\zl (oU X N scope fp s H) u ta/\SE (oU X N scope fp s H) e fa)(G:fX (.ListComp e [⟨tg,b,u,0⟩] scope pos) (ξ (.Name y o)) h.line X.env=pure θ)(hs:∀x,eI b X.env x=pure x:=by intro _;rfl):SS X (.Assign [.Name y o] (.ListComp e [⟨tg,b,u,0⟩] scope pos) h) (bM (aT i) (cD (db n ix U g ta fa))):=
 (Vu hN I hy hf hc S T hi J G hs).of (MU (λσ H Q h_=>h_.el λρ l st lr sr p=>OP _ _ _ ⟨ρ,l,st,lr,sr,p.bnd0.imp λds df ρ1 Y C L p1 a vs ha na O E=>by
  let x:Ex ρ H (ρ1++[a]) Y:=by
   let⟨τ,e,f⟩:=C.pre;refine⟨⟨τ++[a],by rw[e,bF],λb z=>?_⟩,C.fix,C.oth,C.knd⟩;rcases aS.mp z with z|z
   ·exact f b z
   ·rw[aD]at z;rw[z];exact ha
  refine p1 (ρ1++[a]) Y x (L.keep O na E) _ (.ref ⟨_,O,rfl⟩ ?_);rw[<- L.len];simp⟩) Sg)
theorem KQ(Y : CallR X (.builtin id) (λxs H Q => ∃v, xs = [v] /\ zI X.K g v H Q))(U : Gl X x)(O : X.mg x = ψ)(J : b5 x = ξ (.builtin id))(ha : SE X e fa)(L : x ≠ "__name__" := by decide)(o : (x == ("__debug__" : Str)) = ω := by decide)
  (u:az [e] X.env=[(ω,eval e X.env)]:=by rfl):SE X (.Call (.Name x p) [e] [] pos) (c1 g fa):=
 (C0 Y U O J (qy ha ua u) L o u rfl).of λσ H Q h_=>h_.el λρ l st I z p=>⟨ρ,l,st,I,z,p.bnd.imp λd h ρ1 H1 x1 C G v E=>⟨v,rfl,ρ1,h,d,C,E,G⟩⟩
theorem JJ(Y : CallR X (.type T) (λxs H Q => ∃v, xs = [v] /\ zI X.K g v H Q))(U : Gl X x)(O : X.mg x = ψ)(J : b5 x = ξ (.type T))(ha : SE X e fa)(L : x ≠ "__name__" := by decide)(o : (x == ("__debug__" : Str)) = ω := by decide)
  (u:az [e] X.env=[(ω,eval e X.env)]:=by rfl):SE X (.Call (.Name x p) [e] [] pos) (c1 g fa):=
 (Kw Y U O J (qy ha ua u) L o u rfl).of λσ H Q h_=>h_.el λρ l st I z p=>⟨ρ,l,st,I,z,p.bnd.imp λd h ρ1 H1 x1 C G v E=>⟨v,rfl,ρ1,h,d,C,E,G⟩⟩
def Do(K:aq)(g:List D->M D):List V->Hp->VK->Prop:=λxs H Q=>∃a vs ρ st ds,xs=[.ref a]/\ie K H a vs/\SR K ρ H st/\bQ K ρ H vs ds/\ba K ρ H (g ds st) λr _ ρ' h=>∀v,da K ρ' h v r->Q v h
theorem Rf(hc : CallR X (.builtin id) (Do X.K g))(Y : Gl X x)(U : X.mg x = ψ)(u : b5 x = ξ (.builtin id))(E : SL X e ca)(O : x ≠ "__name__" := by decide)(z : (x == ("__debug__" : Str)) = ω := by decide)
  (C:az [e] X.env=[(ω,eval e X.env)]:=by rfl):SE X (.Call (.Name x p) [e] [] pos) (kq g ca):=
 (C0 hc Y U u (qy E ua C) O z C rfl).of λσ H Q h_=>h_.el λρ l st L G p=>⟨ρ,l,st,L,G,p.bnd.imp λds h ρ1 H1 x1 I J a vs E na u o=>⟨a,vs,ρ1,h,ds,rfl,ie.of u,I,o,J⟩⟩
theorem Vg(hc : CallR X (.type T) (Do X.K g))(Y : Gl X x)(U : X.mg x = ψ)(u : b5 x = ξ (.type T))(E : SL X e ca)(O : x ≠ "__name__" := by decide)(z : (x == ("__debug__" : Str)) = ω := by decide)
  (C:az [e] X.env=[(ω,eval e X.env)]:=by rfl):SE X (.Call (.Name x p) [e] [] pos) (kq g ca):=
 (Kw hc Y U u (qy E ua C) O z C rfl).of λσ H Q h_=>h_.el λρ l st L G p=>⟨ρ,l,st,L,G,p.bnd.imp λds h ρ1 H1 x1 I J a vs E na u o=>⟨a,vs,ρ1,h,ds,rfl,ie.of u,I,o,J⟩⟩
theorem We{s:aj}{K:Type}[DecidableEq K]{knd:vN prog w K}{xs:List (K×ak×ae)}{Q:ae->aj->Prop}(hd:(d == dB)=ω)(u:s.heap.DictOfH knd d xs)(hfit:(⇑xs:Int) < 2^63)(h:Q (.int ⇑xs (s.toks+1)) { s with toks:=s.toks+1+1 }):aF (aW prog w) A (call (.builtin "len") [.ref d]) Q E s:=by
 refine tJ kind_len plain_len entry_len (args_len1 _) ?_;unfold Builtin.«len»;let l:MeetsIn prog w (Builtin.«dict.__len__» ⟨[.ref d],[]⟩) (λ_ R s=>∃xs,s.heap.DictOfH knd d xs/\R (.ok (.ret (.int ⇑xs s.toks))) { s with toks:=s.toks+1 }):=.of_wp λA R s g=>by
  let⟨xs,u,h⟩:=g;let⟨o,es,ep,C,J,z,G,_,I⟩:=u
  show aF _ _ (dictSize d >>= _) _ _ s;unfold dictSize;refine aa (aa (kD C z (ai ?_)))
  show aF _ _ (Builtin.Dict.pendingCount d >>= _) _ _ s;refine aa (wpAny_pendingCount_other hd ?_);refine JM ?_;rw[Nat.add_zero,lT G];exact h
 refine aa (m:=oneArg "len" _) (ai ?_);refine aa (m:=zy (.ref d) (al "__len__")) (cw (name:=al "__len__") u.typeIs Ev
  (call_meetsIn Ev u.typeIs F.entry_dict_len (F.args_dict_len_1 _) l ⟨xs,u,?_⟩))
 show aF _ _ _ _ _ { s with toks:=s.toks+1 };refine aa (bT (ai ?_));refine aa (qq ?_)
 show aF _ _ (if ((⇑xs:Nat):Int) < 0 then _ else _) _ _ _;rw[aB ()]
 show aF _ _ (if ((⇑xs:Nat):Int) ≥ 2^63 then _ else _) _ _ _;rw[aB ()];exact aa (wpAny_mkInt (ai ⟨_,rfl,h⟩))
theorem Qfw:CallR X (.builtin "len") (λxs H Q=>∃(ρ:List ak)(st:aY)(n:Nat)(a:ak)(b:Bool)(l:List (D×D)),xs=[.ref a]/\SR X.K ρ H st/\ρ[n]?=ξ a/\st[n]?=ξ (.dct b l)/\Q (.int ⇑l) H):=by
 intro C s σ H xs Y Q I r h;let⟨ρ,st,n,a,b,l,e,E,L,J,q⟩:=h;subst e;let⟨u,rfl,G⟩:=vx r;cases G;let g:=E.ob n a _ L J;cases b with
 |false=>
  let⟨es,e,r⟩:=g;rw[<- KR.length r]at q;exact Vw I (.inl e) λt s' U=>⟨.int ⇑es,H,U,⟨t,rfl⟩,q⟩
 |true=>
  let⟨es,e,r⟩:=g;let⟨z,hd,xs,o,O,_⟩:=zQ I e r;rw[<- NR.length r,dZ o]at q;let hz:⇑xs<=sizeLine:=by rw[<- dZ o];exact z
  exact We hd O (by rw[gi]at hz;ext) ⟨.int ⇑xs,H,I.tok _,⟨_,rfl⟩,q⟩
theorem Z0:CallR X (.builtin "len") (λxs H Q=>∃v,xs=[v]/\zI X.K eN v H Q):=((Qcy.or Vs).or Qfw).of λxs H Q l=>by
 let⟨v,e,ρ,st,d,g,G,p⟩:=l;cases G with
 |@tup a vs ds h r=>exact .inl (.inl ⟨a,vs,e,.inr h,by rw[⇑r];exact p.ret g _ ↑_⟩)|@lit a vs ds h r=>exact .inl (.inl ⟨a,vs,e,.inl h.seq,by rw[⇑r];exact p.ret g _ ↑_⟩)|@ref a n _ h=>
  let⟨ds,C,o⟩:=ba.getL (ba.bnd p) g;let⟨J,vs,E,I,r⟩:=g.seq C;rw[h]at E;cases E;exact .inl (.inl ⟨a,vs,e,.inl (ie.of I),by rw[⇑r];exact o.ret g _ ↑_⟩)
 |str z=>exact .inl (.inr ⟨z,e,(ba.chk p).1,(ba.chk p).2.ret g _ ↑_⟩)|@dic a n _ h=>
  let⟨b,u,C,o⟩:=ba.getDc (ba.bnd p) g;exact .inr ⟨ρ,st,n,a,b,u,e,g,h,C,o.ret g _ ↑_⟩
 |_=>exact p.elim
theorem VP:CallR X (.type "int") (λxs H Q=>∃v,xs=[v]/\zI X.K intD v H Q):=Wb.of λxs H Q g=>by
 let⟨v,e,ρ,st,d,h,l,p⟩:=g;cases l with|int i=>exact .inl ⟨i,e,p.ret h _ ↑_⟩|bl k=>exact .inr ⟨k,e,p.ret h _ ↑_⟩|_=>exact p.elim
theorem VS:CallR X (.type "tuple") (λxs H Q=>∃v,xs=[v]/\zI X.K tupleD v H Q):=Sj.of λxs H Q u=>by
 let⟨v,e,ρ,st,d,o,C,p⟩:=u;cases C with
 |@tup a vs ds h r=>exact⟨a,vs,e,.inr ⟨h,p.ret o _ (.tup h r)⟩⟩|@lit a vs ds h r=>exact⟨a,vs,e,.inl ⟨h.seq,λl g=>p ρ _ (Ex.new g) (o.new g) _ (.tup (kZ.of ik) (r.mono (Ex.new g)))⟩⟩|@ref a n _ h=>
  let⟨ds,I,E⟩:=ba.getL (ba.bnd p) o;let⟨J,vs,z,G,r⟩:=o.seq I;rw[h]at z;cases z;exact⟨a,vs,e,.inl ⟨ie.of G,λl g=>E ρ _ (Ex.new g) (o.new g) _ (.tup (kZ.of ik) (r.mono (Ex.new g)))⟩⟩
 |_=>exact p.elim
theorem Ve:CallR X (.type "tuple") (Do X.K mS):=Sj.of λxs H Q g=>
 by let⟨a,vs,ρ,st,ds,e,u,o,r,p⟩:=g;exact⟨a,vs,e,.inl ⟨u,λl h=>p ρ _ (Ex.new h) (o.new h) _ (.tup (kZ.of ik) (r.mono (Ex.new h)))⟩⟩
end
section
variable{X:Cx}{ta tb:CT}{K:aq}{st:aY}{T:String}
theorem NG(h:lE ds=ξ ns)(g:bQ K ρ H vs ds):vs=ns.map V.int:=by
 induction ds generalizing ns vs with|nil=>cases g;cases h;rfl|cons d ds ih=>
  cases g with|cons r t=>
   cases r with
   |int i=>
    unfold lE at h;cases q:lE ds with|none=>rw[q]at h;cases h|some ms=>
     rw[q]at h;let h':i::ms=_:=aO h;subst h';rw[ih q t];rfl
   |_=>cases h
theorem QfC(h:nu ds=ξ ns)(g:bQ K ρ H vs ds):vs=ns.map V.bl:=by
 induction ds generalizing ns vs with|nil=>cases g;cases h;rfl|cons d ds ih=>
  cases g with|cons r t=>
   cases d with
   |bl i=>
    unfold nu at h;cases q:nu ds with|none=>rw[q]at h;cases h|some ms=>
     rw[q]at h;let h':i::ms=_:=aO h;subst h';cases r;rw[ih q t];rfl
   |_=>cases h
theorem R8:∀{bs:List Bool}{g:List ae},bX (bs.map V.bl) g->g=bs.map eO
 |[],_,.nil=>rfl|_::_,_,.cons r t=>by cases r;rw[R8 t];rfl
theorem QfE(hc:X.calm=θ):CallR X (.builtin "any") (λxs H Q=>∃(l:ak)(bs:List Bool),xs=[.ref l]/\ie X.K H l (bs.map V.bl)/\Q (.bl (bs.any id)) H):=by
 intro O s σ H xs us Q I r h;let⟨l,bs,rfl,hq,q⟩:=h;let⟨u,rfl,rx⟩:=vx r;cases rx;let⟨its,rv,C,hz⟩:=I.list hq;let ei:=R8 rv;subst ei;refine call_any_walk (kA C.isList ?_);let G:l < ↥s:=by let⟨o,E,_⟩:=C.isList;exact aP E
 refine⟨↥s,_,_,_,_,_,λi=>(bs[i]?).getD θ,rfl,Walks.list (A:=X.A.in1) (I.ok.hd hc) ↥s l (bB G) (bs.map eO).toArray,⟨⟨_,aM _ rfl,rfl,rfl⟩,?_⟩,?_,λh' tk J=>?_⟩
 ·let⟨o,E,g⟩:=C.isList;exact⟨o,av _ E,g⟩
 ·intro i v s' l o h L;let g:(bs.map eO)[i]?=ξ v:=by simpa using h
  rw[ar]at g;dsimp only at L;cases e:bs[i]? with|none=>rw[e]at g;cases g|some k=>
   rw[e]at g L;have:v=eO k:=(aO g).symm;subst this;exact f_ L
 ·let e : (bU (bs.map eO).toArray.size).any (λi => (bs[i]?).getD θ) = bs.any id := by
    let g:(bs.map eO).toArray.size=⇑bs:=by simp
    rw[g,nI,eQ,eQ];constructor
    ·rintro ⟨i,z,hh⟩
     let U:=cC.mp z;rw[ag U]at hh;exact⟨_,cM U,hh⟩
    ·rintro ⟨k,J,hh⟩
     let⟨i,z⟩:=eU J;exact⟨i,cC.mpr (ac.mp z).1,by rw[z];exact hh⟩
  rw[e];exact⟨.bl _,H,I.kept (t':=tk) λb o Y=>J b o (by simp;exact bB (aP Y)) (av _ Y),rfl,q⟩
theorem QG:∀(ns:List Int)(n:Int),ns.foldl max n∈n::ns/\∀a∈n::ns,a<=ns.foldl max n
 |[],n=>⟨by simp,by simp⟩
 |m::ns,n=>by
  let⟨u,h⟩:=QG ns (max n m);rw[A_];refine⟨?_,λa o=>?_⟩
  ·rcases a_.mp u with e|e
   ·rw[e];by_cases l:n<=m
    ·rw[A7 l];simp
    ·rw[Int.max_eq_left ()];simp
   ·exact bD _ (bD _ e)
  ·let g:=h (max n m) bK;rcases a_.mp o with e|e
   ·subst e;exact Iw (Int.le_max_left ..) g
   ·rcases a_.mp e with e|e
    ·subst e;exact Iw (Int.le_max_right ..) g
    ·exact h a (bD _ e)
theorem Y_(g:lc vs ns):∃xs,vs.toArray=intItems xs/\ns=xs.toList.map (·.1):=by let⟨xs,e⟩:=g.allInts.items;exact⟨xs,e,by rw[<- g.numsOf,<- nums_intItems,<- e]⟩
theorem Wf(hc:X.calm=θ):CallR X (.builtin "max") (λxs H Q=>∃(l:ak)(n:Int)(ns:List Int),xs=[.ref l]/\ie X.K H l ((n::ns).map V.int)/\Q ↑(ns.foldl max n) H):=by
 intro C s σ H xs us Q I r h;let⟨l,n,ns,rfl,hq,q⟩:=h;let⟨u,rfl,L⟩:=vx r;cases L;let⟨its,O,U,hz⟩:=I.list hq;let⟨ys,e,g⟩:=Y_ (Sm O);let E:=U.isList;rw[e]at E;let hsz:ys.size=⇑ns+1:=by have:=cj e_ g;simpa using this.symm
 refine max_intList (I.ok.hd hc) E () λv h' tk Y hk=>?_;let⟨t,rfl⟩:=intItems_at Y;let⟨b1,b2⟩:=argBest_gt (Ew ys) (ys.size-1);let⟨J,f2⟩:=QG ns n;generalize argBest (λi j=>decide (Ew ys i > Ew ys j)) (ys.size-1)=k at b1 b2 ⊢;let o:Ew ys k∈n::ns:=by rw[g,numAt_eq];exact getD_mem (by rw[<- g];simp;ext)
 let z:ns.foldl max n<=Ew ys k:=by rw[g]at J;let⟨j,G,ej⟩:=mem_getD J;rw[<- ej,<- numAt_eq];exact b2 j (by rw[<- g]at G;simp at G;ext)
 let hM:Ew ys k=ns.foldl max n:=Int.le_antisymm (f2 _ o) z;rw[hM];exact⟨.int _,H,I.kept (t':=tk) hk,⟨t,rfl⟩,q⟩
theorem Ye(o:X.calm=θ):CallR X (.builtin "any") (Do X.K wN):=(QfE o).of λxs H Q g=>by
 let⟨a,vs,ρ,st,ds,e,l,h,r,p⟩:=g;unfold wN at p;cases q:nu ds with|none=>rw[q]at p;exact p.elim|some bs=>
  rw[q]at p;have:=QfC q r;subst this;exact⟨a,bs,e,l,p.ret h _ (.bl _)⟩
theorem Xm(o:X.calm=θ):CallR X (.builtin "max") (Do X.K vB):=(Wf o).of λxs H Q g=>by
 let⟨a,vs,ρ,st,ds,e,l,h,r,p⟩:=g;unfold vB at p;cases q:lE ds with|none=>rw[q]at p;exact p.elim|some ns=>
  rw[q]at p;have:=NG q r;subst this;cases ns with|nil=>exact p.elim|cons n ns=>exact⟨a,n,ns,e,l,p.ret h _ ↑_⟩
structure v9(T:String):Prop where
 non:∀K,fU K (.type "NoneType") (.type T)=ξ (["NoneType"].contains T)
 bl:∀K,fU K (.type "bool") (.type T)=ξ (["bool","int"].contains T)
 int:∀K,fU K (.type "int") (.type T)=ξ (["int"].contains T)
 str:∀K,fU K (.type "str") (.type T)=ξ (["str"].contains T)
 tup:∀K,fU K (.type "tuple") (.type T)=ξ (["tuple"].contains T)
 lst:∀K,fU K (.type "list") (.type T)=ξ (["list"].contains T)
theorem VM:v9 "list":=⟨λ_=>rfl,λ_=>rfl,λ_=>rfl,λ_=>rfl,λ_=>rfl,λ_=>rfl⟩
theorem K0{Q:ae->aj->Prop}(I:Inv X g σ H s)(l:∃o,s.heap.get? u=ξ o/\o.cls=.type t)(C:t="tuple"\/t="list")(e:fU X.K (.type t) (.type T)=ξ k)(h:∀tk,Q (.bool k) { s with toks:=tk }):aF (aW X.prog X.w) X.A (call (.builtin "isinstance") [.ref u,.type T]) Q X.xe s:=by
 rcases C with rfl|rfl
 ·exact cS vJ I.kIn l e (λz=>(by cases z)) h
 ·exact cS pA I.kIn l e (λz=>(by cases z)) h
theorem TX(B:v9 T):CallR X (.builtin "isinstance") (λxs H Q=>∃v,xs=[v,.ty T]/\zI X.K (kc [T]) v H Q):=by
 intro E s σ H xs us Q I r C;let⟨v,e,ρ,st,d,l,rv,p⟩:=C;subst e;let⟨u,Y,rfl,z,O⟩:=J7 r;let ew:Y=fM T:=O;subst ew;let g:∀k:Bool,Q (.bl k) H->∀tk,EP X E σ Q (.bool k) { s with toks:=tk }:=λk q tk=>⟨.bl k,H,I.tok tk,rfl,q⟩
 cases rv with
 |non=>
  refine Js I z .non (B.non _) (g _ ?_);simpa [kc,uC] using p.ret l _ (.bl _)
 |bl k=>
  refine Js I z (.bl k) (B.bl _) (g _ ?_);simpa [kc,uC] using p.ret l _ (.bl _)
 |int k=>
  refine Js I z ↑k (B.int _) (g _ ?_);simpa [kc,uC] using p.ret l _ (.bl _)
 |str k=>
  refine Js I z (.str k) (B.str _) (g _ ?_);simpa [kc,uC] using p.ret l _ (.bl _)
 |tup h r=>
  let L:u=aC _:=z;subst L;let⟨its,_,⟨o,J,G,_⟩,_⟩:=I.tuple h;refine K0 I ⟨o,J,G⟩ (.inl rfl) (B.tup _) (g _ ?_);simpa [kc,uC] using p.ret l _ (.bl _)
 |lit h r=>
  let L:u=aC _:=z;subst L;let⟨its,_,U,_⟩:=I.list h.seq;let⟨o,J,G,_⟩:=U.isList;refine K0 I ⟨o,J,G⟩ (.inr rfl) (B.lst _) (g _ ?_);simpa [kc,uC] using p.ret l _ (.bl _)
 |@ref a n kk h=>
  let L:u=aC _:=z;subst L;let⟨vs,hv⟩:=NL kk;let⟨its,_,U,_⟩:=I.list (ie.of hv);let⟨o,J,G,_⟩:=U.isList;refine K0 I ⟨o,J,G⟩ (.inr rfl) (B.lst _) (g _ ?_);simpa [kc,uC] using p.ret l _ (.bl _)
 |_=>exact p.elim
theorem Xo(B:v9 T)(hg:Gl X "isinstance")(hm:X.mg "isinstance"=ψ)(E:Gl X y)(C:X.mg y=ψ)(o:b5 y=ξ (.type T))(ha:SE X e fa)(hv:b5 "isinstance"=ξ (.builtin "isinstance"))(z:y≠"__name__":=by decide) (I:(y == ("__debug__":Str))=false:=by decide)
  (J:az [e,.Name y g] X.env=(ω,eval e X.env)::az [.Name y g] X.env:=by rfl) (G:az [.Name y g] X.env=(ω,eval (.Name y g) X.env)::az [] X.env:=by rfl) (u:(dF pos (az [.Name y g] X.env)).any (·.1)=false:=by rfl):
  SE X (.Call (.Name "isinstance" p) [e,.Name y g] [] pos) (c1 (kc [T]) fa):=
 (C0 (TX B) hg hm hv (qy ha (qy (Pk (v:=.ty T) E C o rfl z I) ua G) J) (by decide) (by decide) J u).of λσ H Q h_=>h_.el λρ l st Y L p=>⟨ρ,l,st,Y,L,p.bnd.imp λd h ρ1 H1 x1 O g v U=>⟨v,rfl,ρ1,h,d,O,U,g⟩⟩
end
section
variable{K:aq}{st:aY}{s:aj}
theorem LX:∀{xs ys:List D}{r:Bool},mR f xs ys=ξ r->∀(j:Nat)(x y:D),xs[j]?=ξ x->ys[j]?=ξ y->∃k,f x y=ξ k
 |[],_,_,_,j,x,y,h,_=>by cases j<;>cases h|_::_,[],_,_,j,x,y,_,h=>by cases j<;>cases h
 |a::xs,b::ys,r,h,j,x,y,hx,hy=>by
  unfold mR at h;cases e:f a b with|none=>rw[e]at h;cases h|some k=>
   cases j with|zero=>cases hx;cases hy;exact⟨k,e⟩|succ j=>
    rw[e]at h;let l:xs[j]?=ξ x:=hx;let g:ys[j]?=ξ y:=hy;cases k with|true=>exact LX h j x y l g|false=>
     cases o:mR f xs ys with|none=>rw[o]at h;cases h|some r'=>exact LX o j x y l g
noncomputable def Eh(f:D->D->Option Bool)(xs ys:List D)(j:Nat):Bool:=match xs[j]?,ys[j]? with|some x,ξ y=>(f x y).getD ω|_,_=>θ
theorem Sv:∀{xs ys:List D}{r:Bool},mR f xs ys=ξ r->r=((bU (min ⇑xs ⇑ys)).all (Eh f xs ys)&&⇑xs == ⇑ys)
 |[],[],_,h=>by cases h;rfl|_::_,[],_,h=>by cases h;simp|[],_::_,_,h=>by cases h;simp
 |a::xs,b::ys,r,h=>by
  let step:(bU (min ⇑(a::xs) ⇑(b::ys))).all (Eh f (a::xs) (b::ys))=((f a b).getD ω&&(bU (min ⇑xs ⇑ys)).all (Eh f xs ys)):=by
   let e:min ⇑(a::xs) ⇑(b::ys)=min ⇑xs ⇑ys+1:=by simp only[cm];ext
   rw[e,vg,bO,List.all_map];rfl
  rw[step];unfold mR at h;cases e:f a b with|none=>rw[e]at h;cases h|some k=>
   rw[e]at h;cases k with
   |true=>
    have:=Sv h;simp only[il,DI,cm];rw[this];congr 1;rw[nI];simp
   |false=>
    simp only[il,tF];cases g:mR f xs ys with|none=>rw[g]at h;cases h|some r'=>rw[g]at h;cases h;rfl
theorem bX.at{j:Nat}(r:bX vs g)(h:g[j]?=ξ u):∃v,vs[j]?=ξ v/\RelV v u:=by
 let z:=⇑r;let l:j < ⇑vs:=by rw[z];exact (ac.mp h).1
 let⟨u',e,o⟩:=r.get (ag l);rw[h]at e;cases e;exact⟨_,ag l,o⟩
theorem bQ.at{j:Nat}(r:bQ K ρ H vs ds)(h:vs[j]?=ξ v):∃d,ds[j]?=ξ d/\da K ρ H v d:=by
 let o:=⇑r;let g:j < ⇑ds:=by rw[<- o];exact (ac.mp h).1
 let⟨u,e,l⟩:=r.get (ag g);rw[h]at e;cases e;exact⟨_,ag g,l⟩
theorem QL{g:List D->List D->Option Bool}(I:Inv X ah σ H s)(C:∀xs ys vs k,bQ X.K ρ H vs xs->bQ X.K ρ H vs ys->g xs ys=ξ k->k=θ)(h:JB g d e=ξ r)(o:da X.K ρ H v d)(l:da X.K ρ H v e):r=true:=by
 cases d with
 |non=>cases e<;>first|(cases h;rfl)|(cases h;done)|exact nomatch (show v=_ from o.inv).symm.trans (show v=_ from l.inv)|skip
 |bl b=>
  cases e with|bl c=>cases (show v=_ from o.inv).symm.trans (show v=_ from l.inv);cases h;simp|_=>cases h
 |int b=>
  cases e with|int c=>cases (show v=_ from o.inv).symm.trans (show v=_ from l.inv);cases h;simp|non=>exact nomatch (show v=_ from o.inv).symm.trans (show v=_ from l.inv)|_=>cases h
 |str b=>
  cases e with|str c=>cases (show v=_ from o.inv).symm.trans (show v=_ from l.inv);cases h;simp|_=>cases h
 |tup xs=>
  let⟨a,vs,rfl,G,z⟩:=o.inv;cases e with
  |tup ys=>
   let⟨J,ws,e,E,u⟩:=l.inv;cases e;have:=I.tuple_inj G E;subst this;exact C _ _ _ _ z u h
  |_=>cases h
 |_=>cases h
theorem SD{f:D->D->Option Bool}(o:∀v d e k,da K ρ H v d->da K ρ H v e->f d e=ξ k->k=θ)(l:bQ K ρ H vs xs)(g:bQ K ρ H vs ys)(h:mR f xs ys=ξ k):k=true:=by
 induction xs generalizing ys vs k with|nil=>cases l;cases g;cases h;rfl|cons x xs ih=>
  cases l with
  |cons a b=>cases g with|cons c d=>
    unfold mR at h;cases e:f _ _ with|none=>rw[e]at h;cases h|some k=>
     rw[e]at h;have:=o _ _ _ _ a c e;subst this;exact ih b d h
theorem Ox(I:Inv X ah σ H s):∀(n:Nat){v:V}{d e:D}{r:Bool},sJ n d e=ξ r->da X.K ρ H v d->da X.K ρ H v e->r=θ
 |0,_,_,_,_,h,r1,r2=>QL I (λ_ _ _ _ _ _ z=>by cases z) h r1 r2|n+1,_,_,_,_,h,r1,r2=>QL I (λxs ys vs k l g z=>SD (λv d e k a b c=>Ox I n c a b) l g z) h r1 r2
open SeqAt in
noncomputable abbrev U6(A:bx)(s:aj)(h g:ae)(r:Bool):Prop:=RcAt A s h g r/\RcNeAt A s h g (!r)/\EqAt A s h g r
open SeqAt in
theorem Ss{g:List D->List D->Option Bool}{A:bx}(I:Inv X ah σ H s)(hu:A.units < cO)(hg:∀xs ys k,g xs ys=ξ k->∀vs ws its l,bQ X.K ρ H vs xs->bQ X.K ρ H ws ys->bX vs its->bX ws l ->∃e:Nat->Bool,k=((bU (min ⇑its ⇑l)).all e&&⇑its == ⇑l)/\∀(j:Nat)x y,its[j]?=ξ x->l[j]?=ξ y->EqAt A.in1 s x y (e j))(hs:∀xs ys vs k,bQ X.K ρ H vs xs->bQ X.K ρ H vs ys->g xs ys=ξ k->k=θ)(h:JB g d e=ξ r) (E:da X.K ρ H v d) (C:da X.K ρ H w e) (v1:RelV v z) (v2:RelV w u):U6 A s z u r:=by
 cases d with
 |non=>
  cases (show v=_ from E.inv);cases (show z=bL from v1);cases e with|non=>cases (show w=_ from C.inv);cases (show u=bL from v2);cases h;exact⟨.none_none,.none_none,.same _⟩|int b=>cases (show w=_ from C.inv);let⟨t,rfl⟩:=(show ∃t,u=iK b t from v2);cases h;exact⟨.none_int b t,.none_int b t,.none_int b t⟩|_=>cases h
 |bl a=>
  cases e with|bl b=>cases (show v=_ from E.inv);cases (show w=_ from C.inv);cases (show z=eO a from v1);cases (show u=eO b from v2);cases h;exact⟨.bool_bool a b,.bool_bool a b,.bool_bool a b⟩|_=>cases h
 |int a=>
  cases (show v=_ from E.inv);let⟨o,rfl⟩:=(show ∃t,z=iK a t from v1)
  cases e with|non=>cases (show w=_ from C.inv);cases (show u=bL from v2);cases h;exact⟨.int_none a o,.int_none a o,.int_none a o⟩|int b=>cases (show w=_ from C.inv);let⟨t,rfl⟩:=(show ∃t,u=iK b t from v2);cases h;exact⟨.int_int a o b t,.int_int a o b t,.int_int a o b t⟩|_=>cases h
 |str a=>
  cases e with|str b=>cases (show v=_ from E.inv);cases (show w=_ from C.inv);let⟨o,rfl⟩:=(show ∃t,z=ku a t from v1);let⟨t,rfl⟩:=(show ∃t,u=ku b t from v2);cases h;exact⟨.str_str a o b t,.str_str a o b t,.str_str a o b t⟩|_=>cases h
 |tup xs=>
  let⟨l1,vs,rfl,h1,U⟩:=E.inv;cases (show z=aC _ from v1);let⟨its,rv,p,_⟩:=I.tuple h1;cases e with
  |tup ys=>
   let⟨l2,ws,rfl,h2,Q⟩:=C.inv;cases (show u=aC _ from v2);let⟨l,L,Y,_⟩:=I.tuple h2;let⟨ef,ek,he⟩:=hg xs ys r h vs ws its l U Q rv L;let G:∀j(a1:j < its.toArray.size)(a2:j < l.toArray.size),EqAt A.in1 s its.toArray[j] l.toArray[j] (ef j):=λj a1 a2=>
    he j _ _ (by rw[kG];exact ag (by simpa using a1)) (by rw[kG];exact ag (by simpa using a2))
   let J:=RcAt.tuples (A:=A) (s:=s) p Y hu G;let O:=RcNeAt.tuples (A:=A) (s:=s) p Y hu G;simp only[aG]at J O;rw[<- ek]at J O;refine⟨J,O,?_⟩;by_cases hl:l1=l2
   ·subst hl;have:=I.tuple_inj h1 h2;subst this;rw[hs xs ys vs r U Q h];exact .same _
   ·exact .of_refs hl J
  |_=>cases h
 |_=>cases h
open SeqAt in
theorem Qy{n:Nat}(I:Inv X ah σ H s)(ih:∀{v w:V}{z u:ae}{d e:D}{r:Bool},sJ n d e=ξ r->da X.K ρ H v d->da X.K ρ H w e->RelV v z->RelV w u->EqAt A s z u r)(h:mR (sJ n) xs ys=ξ k)  (G:bQ X.K ρ H vs xs) (E:bQ X.K ρ H ws ys) (C:bX vs its) (l:bX ws g):∃e:Nat->Bool,k=((bU (min ⇑its ⇑g)).all e&&⇑its == ⇑g)/\∀(j:Nat)x y,its[j]?=ξ x->g[j]?=ξ y->EqAt A s x y (e j):=by
 refine⟨Eh (sJ n) xs ys,?_,λj x y hx hy=>?_⟩
 ·let u:=⇑C;let o:=⇑l;let g:=⇑G;let Y:=⇑E;rw[<- u,<- o,g,Y];exact Sv h
 ·let⟨v,u,O⟩:=bX.at C hx;let⟨w,g,o⟩:=bX.at l hy;let⟨d,hd,U⟩:=bQ.at G u;let⟨e,L,Q⟩:=bQ.at E g;let⟨r,J⟩:=LX h j d e hd L;have:Eh (sJ n) xs ys j=r:=by unfold Eh;rw[hd,L];dsimp only;rw[J];rfl
  rw[this];exact ih J U Q O o
open SeqAt in
theorem Kx(I:Inv X ah σ H s):∀(n:Nat){A:bx}{v w:V}{u o:ae}{d e:D}{r:Bool},A.units+n < cO->sJ n d e=ξ r->da X.K ρ H v d->da X.K ρ H w e->RelV v u->RelV w o->RcAt A s u o r/\RcNeAt A s u o (!r)/\EqAt A s u o r
 |0,_,_,_,_,_,_,_,_,hu,h,l,g,v1,v2=>Ss I hu (λ_ _ _ z=>by cases z) (λ_ _ _ _ _ _ z=>by cases z) h l g v1 v2
 | n+1, A, _, _, _, _, _, _, _, hu, h, l, g, v1, v2 => Ss I ()
   (λxs ys k z vs ws its J G E L C=>Qy I (λh l g v1 v2=>(Kx I n (A:=A.in1) (by show A.units+1+n < cO;ext) h l g v1 v2).2.2) z G E L C)
   (λxs ys vs k G E z=>SD (λv d e k a b c=>Ox I n c a b) G E z) h l g v1 v2
end
section
variable{X:Cx}{K:aq}{st:aY}
open SeqAt in
theorem Qp(hu:X.A.units+60 < cO)(I:Inv X ah σ H s)(o:SR X.K ρ H st)(O:da X.K ρ H x d)(L:da X.K ρ H y e)(rx:RelV x v)(ry:RelV y u)(p:ba X.K ρ H (Kl d e st) R):∃r,R r st ρ H/\RcAt X.A s v u r/\RcNeAt X.A s v u (!r):=by
 let l:X.A.units < cO:=by ext
 let J:ba X.K ρ H ((match sJ 50 d e with|some r=>ret r|none=>bad:M Bool) st) R->∃r,R r st ρ H/\RcAt X.A s v u r/\RcNeAt X.A s v u (!r):=λq=>by
  cases h:sJ 50 d e with|none=>rw[h]at q;exact q.elim|some r=>
   rw[h]at q;let⟨k1,k2,_⟩:=Kx I 50 (A:=X.A) () h O L rx ry;exact⟨r,q.ret o,k1,k2⟩
 cases d with
 |non=>
  cases e with
  |ref n=>
   obtain⟨a,rfl,_,h⟩:∃a,y=.ref a/\_/\_:=L.inv;cases (show x=.non from O.inv);let⟨ds,e2,U⟩:=ba.getL (ba.bnd p) o;let⟨a',vs,E,Y,r⟩:=o.seq e2;rw[h]at E;cases E;cases (show v=bL from rx);cases (show u=aC a from ry);let⟨_,_,z,_⟩:=I.list (ie.of Y);exact⟨ω,U.ret o,.none_list z.isList l,.none_list z.isList l⟩
  |_=>exact J p
 |ref n=>
  cases e with
  |non=>
   obtain⟨a,rfl,_,h⟩:∃a,x=.ref a/\_/\_:=O.inv;cases (show y=.non from L.inv);let⟨ds,e2,U⟩:=ba.getL (ba.bnd p) o;let⟨a',vs,E,Y,r⟩:=o.seq e2;rw[h]at E;cases E;cases (show u=bL from ry);cases (show v=aC a from rx);let⟨_,_,z,_⟩:=I.list (ie.of Y);exact⟨ω,U.ret o,.list_none z.isList l,.list_none z.isList l⟩
  |ref m=>
   obtain⟨a,rfl,_,h⟩:∃a,x=.ref a/\_/\_:=O.inv;obtain⟨b,rfl,_,h'⟩:∃a,y=.ref a/\_/\_:=L.inv;let⟨xs,e2,U⟩:=ba.getL (ba.bnd p) o;let⟨ys,e3,G⟩:=ba.getL (ba.bnd U) o;let⟨a',vs,E,Y,q1⟩:=o.seq e2;let⟨b',ws,hb,hw,q2⟩:=o.seq e3;rw[h]at E;cases E;rw[h']at hb;cases hb;cases (show v=aC a from rx);cases (show u=aC b from ry);let⟨its,rv,z,_⟩:=I.list (ie.of Y);let⟨g,Q,C,_⟩:=I.list (ie.of hw);let l1:=⇑rv;let l2:=⇑Q;let l3:=⇑q1;let l4:=⇑q2;by_cases hl:⇑xs=⇑ys
   ·rw[aH hl]at G;cases E:mR (sJ 50) xs ys with|none=>rw[E]at G;exact G.elim|some r=>
     rw[E]at G;let⟨J,ek,he⟩:=Qy (A:=X.A.in1) I (λh O L v1 v2=>(Kx I 50 (A:=X.A.in1) (by show X.A.units+1+50 < cO;ext) h O L v1 v2).2.2) E q1 q2 rv Q;let hsz:its.toArray.size=g.toArray.size:=by rw[aG,aG];ext
     let u:∀j(Y:j < its.toArray.size)(U:j < g.toArray.size),EqAt X.A.in1 s its.toArray[j] g.toArray[j] (J j):=λj Y U=>
      he j _ _ (by rw[kG];exact ag (by simpa using Y)) (by rw[kG];exact ag (by simpa using U))
     let H:(bU its.toArray.size).all J=r:=by
      rw[ek,aG];have:⇑its=⇑g:=by ext
      rw[this];simp
     let k1:=RcAt.lists (A:=X.A) (s:=s) z.isList C.isList hsz l u;let k2:=RcNeAt.lists (A:=X.A) (s:=s) z.isList C.isList hsz l u;rw[H]at k1 k2;exact⟨r,G.ret o,k1,k2⟩
   ·rw[aB hl]at G;let h:(its.toArray.size != g.toArray.size)=true:=by rw[aG,aG];simp;ext
    exact⟨ω,G.ret o,.lists_lengths z.isList C.isList h l,.lists_lengths z.isList C.isList h l⟩
  |_=>exact J p
 |_=>cases e<;>exact J p
theorem Yo(hu:X.A.units+60 < cO):OpR X (cq .Eq) (pO X.K oF):=by intro ah s σ H x y v u Q I o l g;let⟨ρ,st,d,e,h,C,z,p⟩:=g;let⟨r,q,E,_⟩:=Qp hu I h C z o l p.bnd;exact E _ _ _ _ ⟨.bl r,H,I,rfl,q.ret h _ (.bl _)⟩
theorem PN(hu:X.A.units+60 < cO):OpR X (cq .NotEq) (pO X.K xT):=by intro ah s σ H x y v u Q I o l g;let⟨ρ,st,d,e,h,C,z,p⟩:=g;let⟨r,q,_,E⟩:=Qp hu I h C z o l p.bnd;exact E _ _ _ _ ⟨.bl (!r),H,I,rfl,q.ret h _ (.bl _)⟩
end
section
variable{X:Cx}{a b c e o tg:Expr}{pos cy b3:Pos}{ta tb:CT}{K:aq}{ρ:List ak}{H:Hp}{st:aY}{x:Str}
theorem Ud(ho : SE X o fa)(G : SE X e fb)(z : cG o "append" X.env (eval o X.env) = eval o X.env := by rfl)
  (E:((dF b3 (az [e] X.env)).all (λx => !x.1)&&(oh b3 (ki [] X.env)).all (λx=>x.1.isSome)
   && decide (⇑[e]+⇑([]:List io)+(if ([]:List io).isEmpty then 0 else 1) < 30))=true:=by rfl)
  (u:(cy.endLine == b3.line)=true:=by rfl) (hs:az [e] X.env=(ω,eval e X.env)::az [] X.env:=by rfl) (g:(dF b3 (az [] X.env)).any (·.1)=false:=by rfl):
  SE X (.Call (.Attribute o "append" cy) [e] [] b3) (dI fa fb):=
 (Wm mj PySem.F.slot_list_append PySem.F.type_list_append Su ho (qy G ua hs) z E u hs g).of λσ H Q h_=>h_.el λρ l st lr sr p=>⟨ρ,l,st,lr,sr,p.bnd.imp λd C ρ1 H1 x1 s1 p1 v rv=>by
  cases d with
  |ref n=>
   let⟨a,rfl,kk,h⟩:=rv.inv;let hl:n < ⇑C:=by rw[<- s1.len];exact (ac.mp h).1
   let⟨I,U⟩:=NL kk;refine⟨.inl ⟨rfl,I,ie.of U⟩,ρ1,l,C,lr.mono x1,s1,(ba.bnd p1).imp λy st2 ρ2 H2 x2 J p2 w L=>?_⟩;let h2:ρ2[n]?=ξ a:=by let⟨τ,e,_⟩:=x2.pre;rw[e];exact GG h
   let⟨ds,Y,p3⟩:=ba.getL (ba.bnd p2) J;let⟨a',vs,G,hv,r⟩:=J.seq Y;rw[h2]at G;cases G;let⟨hz,p4⟩:=ba.chk p3;let⟨s3,x3⟩:=J.put (ac.mp Y).1 h2 hv (bQ.app r (.cons L .nil));let O:=ba.bnd p4;unfold putL at O;rw[Y]at O;exact⟨a,vs,w,rfl,rfl,hv,by rw[⇑r];exact hz,(O ρ2 _ x3 s3).ret s3 _ .non⟩
  |_=>exact p1.elim⟩
theorem Qf0(ho:SE X o fa)(z:cG o "clear" X.env (eval o X.env)=eval o X.env:=by rfl)(u:(cy.endLine == b3.line)=true:=by rfl):SE X (.Call (.Attribute o "clear" cy) [] [] b3) (pV fa):=
 (Rn mj PySem.F.slot_list_clear PySem.F.type_list_clear QcK ho z u).of λσ H Q h_=>h_.el λρ l st lr U p=>⟨ρ,l,st,lr,U,p.bnd.imp λd G ρ1 H1 x1 J L v Y=>by
  cases d with
  |ref n=>
   let⟨a,rfl,kk,h⟩:=Y.inv;let hl:n < ⇑G:=by rw[<- J.len];exact (ac.mp h).1
   let⟨E,g⟩:=NL kk;let⟨I,O⟩:=J.put (ds:=[]) (vs:=[]) hl h g .nil;let C:=ba.bnd L;unfold putL at C;cases o:G[n]? with|none=>rw[o]at C;exact C.elim|some ob=>
    rw[o]at C;cases ob with|lst ds'=>exact⟨.inl ⟨rfl,E,ie.of g⟩,a,E,rfl,rfl,g,(C ρ1 _ O I).ret I _ .non⟩|_=>exact C.elim
  |_=>exact L.elim⟩
theorem WQ:OpR X (eJ .Add) (pO X.K dg):=by
 intro g s σ H x y v u Q I U O J;let⟨ρ,st,d,e,l,r1,r2,p⟩:=J;cases d with
 |int i=>
  cases e with
  |int j=>
   cases r1.inv;cases r2.inv;exact Qbf g s σ H _ _ v u Q I U O ⟨i,j,rfl,rfl,p.ret l _ ↑_⟩
  |_=>exact p.elim
 |str i=>
  cases e with
  |str j=>
   cases r1.inv;cases r2.inv;exact WO g s σ H _ _ v u Q I U O ⟨i,j,rfl,rfl,(ba.chk p).1,(ba.chk p).2.ret l _ (.str _)⟩
  |_=>exact p.elim
 |ref _=>
  cases e with
  |ref _=>
   let⟨_,rfl,_,h⟩:=r1.inv;let⟨_,rfl,_,h'⟩:=r2.inv;let⟨xs,e2,p1⟩:=ba.getL (ba.bnd p) l;let⟨ys,e3,L⟩:=ba.getL (ba.bnd p1) l;let⟨a',vs,ha,hv,G⟩:=l.seq e2;let⟨b',ws,hb,hw,C⟩:=l.seq e3;rw[h]at ha;cases ha;rw[h']at hb;cases hb;let⟨hz,p3⟩:=ba.chk L;refine UG g s σ H _ _ v u Q I U O ⟨_,_,vs,ws,rfl,rfl,hv,hw,by rw[⇑G,⇑C];exact hz,λq z=>?_⟩;let nq:=l.fresh z;let x1:Ex ρ H (ρ++[q]) (eE H q (.lst (vs++ws))):=Ex.newL z;refine p3 _ _ x1 ((l.new z).keep ik nq ((bQ.app G C).mono (Ex.new z))) _ (.ref ⟨_,ik,rfl⟩ ?_);rw[<- l.len];simp
  |_=>exact p.elim
 |tup xs=>
  cases e with
  |tup ys=>
   let⟨a1,vs,rfl,h1,G⟩:=r1.inv;let⟨b1,ws,rfl,h2,C⟩:=r2.inv;let⟨hz,L⟩:=ba.chk p;by_cases hx:vs=[]
   ·subst hx;cases G;let⟨its,v1,ht,_⟩:=I.tuple h1;let⟨J,v2,hb,_⟩:=I.tuple h2;cases v1;let ev:v=aC a1:=U;let eu:u=aC b1:=O;subst ev eu;let⟨⟨cls,dd,data,sl⟩,Q,hc,n,hd⟩:=ht;let⟨⟨cls2,z,data2,h⟩,Y,g,n2,o⟩:=hb;simp only at hc hd g o;subst hc hd g o;refine zr (E:=X.xe) ⟨_,Q,rfl⟩ ⟨_,Y,rfl⟩ t6 wY mG me (lS _ _) (tuple_addW0 a1 b1 _ _ n n2 dd z sl h (by simp)) ⟨Q,Y,?_⟩;exact⟨.ref b1,H,I,rfl,L.ret l _ (.tup h2 C)⟩
   ·refine Us g s σ H _ _ v u Q I U O ⟨_,_,vs,ws,rfl,rfl,h1,h2,hx,by rw[⇑G,⇑C];exact hz,λh=>?_,λ_ q z=>?_⟩
    ·subst h;cases C;rw[bG]at L;exact L.ret l _ (.tup h1 G)
    ·exact L _ _ (Ex.new z) (l.new z) _ (.tup (kZ.of ik) ((bQ.app G C).mono (Ex.new z)))
  |_=>exact p.elim
 |_=>cases e<;>exact p.elim
def NN(K:aq)(f:CO):TO:=λσ H Q=>∃ρ l st,LR K ρ H σ l/\SR K ρ H st/\ba K ρ H (f l st) λo _ _ g=>Q o g
abbrev SO(X:Cx)(e:Option Expr)(f:CO):Prop:=PO X e (NN X.K f)
theorem Wg:SO X ψ o9:=λg s σ H Q I u=>u.el λρ l st z h p=>Xi g s σ H Q I (p.ret h)
theorem Qf3(h:SE X e fa):SO X (ξ e) (mK fa):=λg s σ H Q I L=>L.el λρ l st J C p=>RX h g s σ H Q I ⟨ρ,l,st,J,C,p.bnd.imp λd z ρ1 U O E u v G=>by
 cases d with
 |int i=>cases (show v=.int i from G.inv);exact⟨i,rfl,u.ret E⟩
 |_=>exact u.elim⟩
theorem bQ.cut(r:bQ K ρ H vs ds)(lo g:Option Int):bQ K ρ H (uN vs lo g) (cutD ds lo g):=by
 unfold uN cutD;let e:∀n d o,HT.gQ n d o=MM.gQ n d o:=λn d o=>by cases o<;>rfl
 rw[e,e,⇑r];exact (r.drop _).take _
theorem Yx{lo hi:Option Expr}(h:SE X e fa)(hl:SO X lo fl)(hh:SO X hi fh):SL X (.Subscript e (.Slice lo hi ψ p2) pos) (rM fa fl fh):=
 (QQ U1 h hl hh).of λσ H Q h_=>h_.el λρ l st lr sr p=>⟨ρ,l,st,lr,sr,p.bnd0.imp λd U ρ1 H1 C s1 p1 v rv=>⟨ρ1,l,U,lr.mono C,s1,(p1.bnd0.left C).imp λi O ρ2 H2 G s2 p2=>⟨ρ2,l,O,(lr.mono C).mono G,s2,(p2.bnd0.left (C.trans G)).imp λj L ρ3 H3 x3 I p3=>by
  let Y:=(rv.mono G).mono x3;let u:=C.trans (G.trans x3);let E:∀{a:ak}{vs:List V}{ds:List D},ie X.K H3 a vs->bQ X.K ρ3 H3 vs ds->ba X.K ρ H (ret (cutD ds i j) L) (λds _ ρ' H'=>∀a vs,H a=ψ->a∉ρ'->H' a=ξ (.lst vs)->bQ X.K ρ' H' vs ds->Q (.ref a) H')->Gs X.K (.ref a) i j H3 Q:=λ{a vs ds}hs r q=>
   ⟨a,vs,rfl,hs,λJ g=>by
    let hn:H J=none:=by
     cases z:H J with|none=>rfl|some o=>exact bw g (u.trk J o z)
    exact q ρ3 _ (u.trans (Ex.new g)) (I.new g) J _ hn (I.fresh g) ik ((bQ.cut r i j).mono (Ex.new g))⟩
  cases Y with
  |lit h r=>exact E h.seq r p3|ref _ h=>
   let⟨ds,e2,p4⟩:=ba.getL (p3.bnd0.left u) I;let⟨a',vs,ha,hv,r⟩:=I.seq e2;rw[h]at ha;cases ha;exact E (ie.of hv) r p4
  |_=>exact p3.elim⟩⟩⟩
end
open PySem.AutoSeq1 (wpAny_loadPart')
theorem X_(l:ak)(items:Array ae)(n:Nat)(dct:Option ak)(C:Array (Option ae)):Meets (Builtin.«enumerate.__new__» ⟨[.type "enumerate",.ref l],[]⟩) (λ_ R s=>s.heap.get? l=ξ { cls:=.type "tuple",dict:=dct,data:=.seq items n,slots:=C } /\R (.ok (.ret (.ref (s.heap.push { cls:=.type "tuple_iterator",data:=.fields #[.ref l,.int 0 0] }).objs.size))) { s with heap:=(s.heap.push { cls:=.type "tuple_iterator",data:=.fields #[.ref l,.int 0 0] }).push { cls:=.type "enumerate",data:=.fields #[.none,.bool ω,.ref ↥s,gM 0,.none,.none] } }):=
 .of_wp λprog w A R s h=>by
  let⟨E,g,d,tk,os⟩:=s;let⟨o,h⟩:=h;let u:=sub_enumerate;let z:bC.IsTuple (vh ⟨E,g,d,tk,os⟩) l items:=⟨_,o,rfl,n,rfl⟩
  wp_walk using i7 o;refine wpAny_stack_any λst=>ai ?_;split
  ·rename_i c _ _ _ _ _;cases (c == fM "enumerate")<;>(wp_walk using i7 o,mJ z;exact⟨_,rfl,h⟩)
  ·wp_walk using i7 o,mJ z;exact⟨_,rfl,h⟩
section
variable{A:bx}{E:ae->aj->Prop}{s:aj}
theorem YE{Q:ae->aj->Prop}(G:s.heap.IsTuple l items)(h:∀h',IsEnum h' (↥s+1) ↥s 0 .none->h'.IsTupleIter ↥s l 0->h'.objs.size=↥s+2->(∀b o,s.heap.get? b=ξ o->h'.get? b=ξ o)->Q (.ref (↥s+1)) { s with heap:=h' }):aF (aW prog w) A (call (.type "enumerate") [.ref l]) Q E s:=by
 let⟨⟨c,dct,H,z⟩,C,g,n,hd⟩:=G
 replace g:c=.type "tuple":=g
 replace hd:H=.seq items n:=hd
 subst g hd;refine callType_new F.called_enumerate (by decide) (F.typeCall_enumerate_1 _) (F.newCall_enumerate_1 _) (λobj=>F.args_object_init_2 obj _) F.entry_enumerate_new (X_ l items n dct z) ⟨C,?_⟩;let hz:(s.heap.push { cls:=.type "tuple_iterator",data:=.fields #[.ref l,.int 0 0] }).objs.size=↥s+1:=dL ..
 show _/\_;rw[hz];let u:IsEnum ((s.heap.push { cls:=.type "tuple_iterator",data:=.fields #[.ref l,.int 0 0] }).push { cls:=.type "enumerate",data:=.fields #[.none,.bool ω,.ref ↥s,gM 0,.none,.none] }) (↥s+1) ↥s 0 .none:=by have q:=aM (s.heap.push { cls:=.type "tuple_iterator",data:=.fields #[.ref l,.int 0 0] }) (o:={ cls:=.type "enumerate",data:=.fields #[.none,.bool ω,.ref ↥s,gM 0,.none,.none] }) rfl;rw[hz]at q;exact q
 exact⟨⟨_,u,rfl⟩,h _ u ⟨_,av _ (aM _ rfl),rfl,rfl⟩ (by rw[dL,hz]) λb o x=>av _ (av _ x)⟩
theorem XE{i:Nat}{items}{Q:ae->aj->Prop}(g:s.heap.IsTupleIter h l i)(H:s.heap.IsTuple l items)(G:items[i]?=ξ x)(J:∀h',h'.IsTupleIter h l (i+1)->dP h s.heap h'->Q x { s with heap:=h' }):aF (aW prog w) A (bZ (.ref h)) Q E s:=by
 let⟨o,u,I,hd⟩:=id g;let⟨L,z,_,O,C⟩:=H;unfold bZ;refine aa (cw (name:=al "__next__") g.typeIs iu (cR iu g.typeIs um ?_ (t9 _)))
 show aF _ _ (vO (.ref h) 0 >>= _) _ _ s;refine aa (cP u hd (x:=.ref l) rfl ?_)
 show aF _ _ (if (aC l == bL)=θ then _ else _) _ _ s;rw[aB (show ¬ ((aC l == bL)=θ) from bc)]
 show aF _ _ (vO (.ref h) 1 >>= _) _ _ s;refine aa (cP u hd (x:=.int i 0) rfl ?_)
 show aF _ _ (qJ (.ref l) >>= _) _ _ s;refine aa (eL z C ?_);simp only[aR,G];refine aa (iC u hd (by simp) (ai ⟨x,rfl,ai (J _ ⟨_,bS _ u (wD (lU hd _)),(zV ..).trans I,?_⟩ (b7 ..))⟩));rw[lU hd];simp[gM]
theorem Xg{i:Nat}{items}(hh:A.handled=ψ)(g:s.heap.IsTupleIter h l i)(H:s.heap.IsTuple l items)(G:items[i]?=ψ)(I:∀h' e,r_ h s.heap h'->(∃o,h'.get? e=ξ o/\o.cls=.type "StopIteration")->E (.ref e) { s with heap:=h' }):aF (aW prog w) A (bZ (.ref h)) Q E s:=by
 let⟨o,z,O,hd⟩:=id g;let⟨J,u,_,L,C⟩:=H;unfold bZ;refine aa (cw (name:=al "__next__") g.typeIs iu (cR iu g.typeIs um ?_ (t9 _)))
 show aF _ _ (vO (.ref h) 0 >>= _) _ _ s;refine aa (cP z hd (x:=.ref l) rfl ?_)
 show aF _ _ (if (aC l == bL)=θ then _ else _) _ _ s;rw[aB (show ¬ ((aC l == bL)=θ) from bc)]
 show aF _ _ (vO (.ref h) 1 >>= _) _ _ s;refine aa (cP z hd (x:=.int i 0) rfl ?_)
 show aF _ _ (qJ (.ref l) >>= _) _ _ s;refine aa (eL u C ?_);simp only[aR,G];refine aa (eK (aa (iC z hd (by simp) ?_)));show aF _ _ (newExc (.type "StopIteration") [] >>= _) _ _ _;refine aa ?_;simp only[newExc,newTuple];refine aa (dk ?_ (by size_fits));refine aa (m:=qr _ _) (Bb (a:=bL) (by first|rfl|(simp only[qr];rfl)) (dk ?_ (by size_fits)));simp only[raiseNew];refine aa (wpAny_handled ?_);first|rw[show A.in1.handled=ψ from hh]|rw[hh]
 exact aa (ai (wpAny_throw (I _ _ (((b7 ..).extBut.push _).push _) ⟨_,aM _ rfl,rfl⟩)))
end
section
variable{X:Cx}{K:aq}{st:aY}
theorem ZK(r:da K ρ H v d):Ap d .non=ret (.bl (decide (v=.non))):=by cases r<;>rfl
theorem V9(r:da K ρ H v d):qz d .non=ret (.bl (!decide (v=.non))):=by cases r<;>rfl
theorem ZV:OpR X (cq .Is) (pO X.K Ap):=by
 intro h s σ H x y v u Q I z o g;let⟨ρ,st,d,e,l,E,C,p⟩:=g;cases e with
 |non=>
  cases C.inv;refine YV h s σ H x .non v u Q I z o ⟨rfl,?_⟩;rw[ZK E]at p;exact p.ret l _ (.bl _)
 |bl b=>
  cases d with
  |bl a=>
   cases E.inv;cases C.inv;cases (show v=eO a from z);cases (show u=eO b from o);refine wpAny_is_plain rfl ⟨.bl (a == b),H,I,?_,p.ret l _ (.bl _)⟩;cases a<;>cases b<;>rfl
  |_=>exact p.elim
 |_=>cases d<;>exact p.elim
theorem WK:OpR X (cq .IsNot) (pO X.K qz):=by
 intro h s σ H x y v u Q I z o g;let⟨ρ,st,d,e,l,E,C,p⟩:=g;cases e with
 |non=>
  cases C.inv;refine Qbs h s σ H x .non v u Q I z o ⟨rfl,?_⟩;rw[V9 E]at p;exact p.ret l _ (.bl _)
 |bl b=>
  cases d with
  |bl a=>
   cases E.inv;cases C.inv;cases (show v=eO a from z);cases (show u=eO b from o);refine wpAny_isNot_plain rfl ⟨.bl (!(a == b)),H,I,?_,p.ret l _ (.bl _)⟩;cases a<;>cases b<;>rfl
  |_=>exact p.elim
 |_=>cases d<;>exact p.elim
theorem Ka(r:da K ρ H v d)(h:lG d=θ):oq v=true:=by cases r<;>first|rfl|cases h
theorem SH(r:bQ K ρ H vs ds)(h:ds.all lG=θ):vs.all oq=true:=by
 induction ds generalizing vs with|nil=>cases r;rfl|cons d ds ih=>
  cases r with|cons r t=>
   rw[bO,bo]at h;rw[bO,bo];exact⟨Ka r h.1,ih t h.2⟩
theorem ZE(r:da K ρ H v d)(q:da K ρ H w e)(h:lG d=θ)(h':lG e=θ):AX v w=vI d e:=by
 cases d<;>first|(cases h;done)|skip
 all_goals have r:=r.inv;cases (show v=_ from r);cases e<;>first|(cases h';done)|skip
 all_goals have q:=q.inv;cases (show w=_ from q);rfl
theorem M9(q:da K ρ H w e)(h':lG e=θ):∀{vs:List V}{ds:List D},bQ K ρ H vs ds->ds.all lG=θ->JG w vs=ds.any λd=>vI d e
 |_,_,.nil,_=>rfl|_,_,.cons r t,h=>by rw[bO,bo]at h;have:=M9 q h' t h.2;unfold JG at this ⊢;rw[dw,dw,this,ZE r q h.1 h']
theorem ba.hasK{n:Nat}(h:ba K ρ H (MM.hasK n k st) R)(s:SR K ρ H st):∃b g,st[n]?=ξ (.dct b g)/\oW b k=θ/\R (kR g k).isSome st ρ H:=by let⟨b,g,e,o⟩:=ba.getDc (ba.bnd h) s;let⟨u,l⟩:=ba.chk o;exact⟨b,g,e,u,l.ret s⟩
theorem _root_.L2.OpR.orO(h:OpR X f r)(h':OpR X f z):OpR X f (λx y H Q=>r x y H Q\/z x y H Q):=by
 intro g s σ H x y v u Q I o l q;rcases q with q|q
 ·exact h g s σ H x y v u Q I o l q
 ·exact h' g s σ H x y v u Q I o l q
theorem Qgh(hu:X.A.units+60 < cO):OpR X (cq .In) (λx y H Q=>∃(ρ:List ak)(st:aY)(n:Nat)(a:ak)(b:Bool)(h:List (D×D))(k:D),y=.ref a/\SR X.K ρ H st/\ρ[n]?=ξ a/\st[n]?=ξ (.dct b h)/\da X.K ρ H x k/\oW b k=θ/\Q (.bl (kR h k).isSome) H):=by intro l s σ H x y v u Q I C z g;let⟨ρ,st,n,a,b,h,k,e,o,L,G,E,J,q⟩:=g;subst e;cases z;exact Qd2 () I (o.ob n a _ L G) E J C λs' O=>⟨.bl _,H,O,rfl,q⟩
theorem Zj(hu:X.A.units+60 < cO):OpR X (cq .NotIn) (λx y H Q=>∃(ρ:List ak)(st:aY)(n:Nat)(a:ak)(b:Bool)(h:List (D×D))(k:D),y=.ref a/\SR X.K ρ H st/\ρ[n]?=ξ a/\st[n]?=ξ (.dct b h)/\da X.K ρ H x k/\oW b k=θ/\Q (.bl (!(kR h k).isSome)) H):=by intro l s σ H x y v u Q I C z g;let⟨ρ,st,n,a,b,h,k,e,o,L,G,E,J,q⟩:=g;subst e;cases z;exact Vt () I (o.ob n a _ L G) E J C λs' O=>⟨.bl _,H,O,rfl,q⟩
theorem VZ(hu:X.A.units+60 < cO):OpR X (cq .In) (pO X.K Ge):=(Qcw.orO (Qgh hu)).of λx y H Q o=>by
 let⟨ρ,st,d,e,g,z,O,p⟩:=o;let l:∀{a:ak}{vs:List V}{ds:List D}(E:ie X.K H a vs\/kZ X.K H a vs)(r:bQ X.K ρ H vs ds)(u:ba X.K ρ H (Gp d ds st) λr _ ρ' L=>∀v,da X.K ρ' L v r->Q v L),Jf X.K ω x (.ref a) H Q:=λE r u=>by let⟨⟨J,I⟩,U⟩:=ba.chk u;refine⟨_,_,rfl,E,Ka z J,SH r I,?_⟩;rw[aB (by simp),M9 z J r I];exact U.ret g _ (.bl _)
 cases O with
 |tup h r=>exact .inl (l (.inr h) r ((ba.bnd p).ret g))|lit h r=>exact .inl (l (.inl h.seq) r ((ba.bnd p).ret g))|ref _ h=>
  let⟨ds,e2,u⟩:=ba.getL (ba.bnd p) g;let⟨a',vs,G,Y,r⟩:=g.seq e2;rw[h]at G;cases G;exact .inl (l (.inl (ie.of Y)) r u)
 |@dic a n _ h=>
  let⟨b,C,e1,hk,q⟩:=ba.hasK (ba.bnd p) g;exact .inr ⟨ρ,st,n,a,b,C,d,rfl,g,h,e1,z,hk,(q.ret g) _ (.bl _)⟩
 |_=>exact (show False from p).elim
theorem Qgk(hu:X.A.units+60 < cO):OpR X (cq .NotIn) (pO X.K nS):=(Qcx.orO (Zj hu)).of λx y H Q o=>by
 let⟨ρ,st,d,e,g,z,O,p⟩:=o;let l:∀{a:ak}{vs:List V}{ds:List D}(E:ie X.K H a vs\/kZ X.K H a vs)(r:bQ X.K ρ H vs ds)(u:ba X.K ρ H (Av d ds st) λr _ ρ' L=>∀v,da X.K ρ' L v r->Q v L),Jf X.K θ x (.ref a) H Q:=λE r u=>by let⟨⟨J,I⟩,U⟩:=ba.chk u;refine⟨_,_,rfl,E,Ka z J,SH r I,?_⟩;rw[aH rfl,M9 z J r I];exact U.ret g _ (.bl _)
 cases O with
 |tup h r=>exact .inl (l (.inr h) r ((ba.bnd p).ret g))|lit h r=>exact .inl (l (.inl h.seq) r ((ba.bnd p).ret g))|ref _ h=>
  let⟨ds,e2,u⟩:=ba.getL (ba.bnd p) g;let⟨a',vs,G,Y,r⟩:=g.seq e2;rw[h]at G;cases G;exact .inl (l (.inl (ie.of Y)) r u)
 |@dic a n _ h=>
  let⟨b,C,e1,hk,q⟩:=ba.hasK (ba.bnd p) g;exact .inr ⟨ρ,st,n,a,b,C,d,rfl,g,h,e1,z,hk,(q.ret g) _ (.bl _)⟩
 |_=>exact (show False from p).elim
end
section
variable{X:Cx}{pos cy b3:Pos}{ta tb:CT}{K:aq}{st:aY}{T id:String}
theorem Yc:CallR X (.type "list") (λxs H Q=>∃v,xs=[v]/\zI X.K tf v H Q):=QcA.of λxs H Q C=>by
 let⟨v,e,ρ,st,d,u,L,p⟩:=C;let z:∀{ds:List D}{vs:List V}{l:ak}(r:bQ X.K ρ H vs ds)(g:H l=ψ)(E:ba X.K ρ H (alloc (.lst ds) st) λr _ ρ' I=>∀v,da X.K ρ' I v r->Q v I),Q (.ref l) (eE H l (.lst vs)):=λ{ds vs l}r g E=>by have O:=u.fresh g;have J:SR X.K (ρ++[l]) (eE H l (.lst vs)) (st++[.lst ds]):=(u.new g).keep ik O (r.mono (Ex.new g));refine E _ _ (Ex.newL g) J _ (.ref ⟨_,ik,rfl⟩ ?_);rw[<- u.len];simp
 cases L with
 |@tup a vs ds h r=>exact⟨a,vs,e,.inr h,λl g=>z r g ((ba.bnd p).ret u)⟩|@lit a vs ds h r=>exact⟨a,vs,e,.inl h.seq,λl g=>z r g ((ba.bnd p).ret u)⟩|@ref a n _ h=>
  let⟨ds,Y,E⟩:=ba.getL (ba.bnd p) u;let⟨o,vs,G,U,r⟩:=u.seq Y;rw[h]at G;cases G;exact⟨a,vs,e,.inl (ie.of U),λl g=>z r g E⟩
 |_=>exact (ba.bnd p).elim
theorem Rp(hc : CallR X (.builtin id) (λxs H Q => ∃v w, xs = [v, w] /\ pO X.K g v w H Q))(hg : Gl X x)(hm : X.mg x = ψ)(hv : b5 x = ξ (.builtin id))(ha : SE X a fa)(hb : SE X b fb)(hn : x ≠ "__name__" := by decide)(I : (x == ("__debug__" : Str)) = ω := by decide)
  (h:az [a,b] X.env=(ω,eval a X.env)::az [b] X.env:=by rfl) (G:az [b] X.env=(ω,eval b X.env)::az [] X.env:=by rfl) (E:(dF pos (az [b] X.env)).any (λx=>x.fst)=false:=by rfl):SE X (.Call (.Name x p) [a,b] [] pos) (c2 g fa fb):=
 (C0 hc hg hm hv (qy ha (qy hb ua G) h) hn I h E).of λσ H Q h_=>h_.el λρ l st J U p=>⟨ρ,l,st,J,U,p.bnd.imp λd z ρ1 H1 O o p1 v rv=>⟨ρ1,l,z,J.mono O,o,p1.bnd.imp λe u ρ2 H2 L Y p2 w C=>⟨v,w,rfl,ρ2,u,d,e,Y,rv.mono L,C,p2⟩⟩⟩
theorem ZM(u:X.calm=θ):CallR X (.builtin "min") (λxs H Q=>∃v w,xs=[v,w]/\pO X.K wk v w H Q):=(Ze u).of λxs H Q g=>by
 let⟨v,w,e,h⟩:=g;let⟨i,j,ρ,st,rfl,rfl,l,p⟩:=y_ h;refine⟨i,j,e,?_⟩;have:(if j < i then j else i)=min i j:=by ext
 rw[this];exact p.ret l _ ↑_
theorem Uy(u:X.calm=θ):CallR X (.builtin "max") (λxs H Q=>∃v w,xs=[v,w]/\pO X.K v_ v w H Q):=(Xy u).of λxs H Q g=>by
 let⟨v,w,e,h⟩:=g;let⟨i,j,ρ,st,rfl,rfl,l,p⟩:=y_ h;refine⟨i,j,e,?_⟩;have:(if j > i then j else i)=max i j:=by ext
 rw[this];exact p.ret l _ ↑_
theorem UN(ho:SE X o fa)(u:cG o "pop" X.env (eval o X.env)=eval o X.env:=by rfl)(g:(cy.endLine == b3.line)=true:=by rfl):SE X (.Call (.Attribute o "pop" cy) [] [] b3) (wO fa):=
 (Rn mj PySem.F.slot_list_pop PySem.F.type_list_pop QcJ ho u g).of λσ H Q h_=>h_.el λρ l st lr sr p=>⟨ρ,l,st,lr,sr,p.bnd.imp λd df ρ1 H1 x1 C U v rv=>by
  cases d with
  |ref n=>
   let⟨a,rfl,_,h⟩:=rv.inv;let⟨ds,J,z⟩:=ba.getL (ba.bnd U) C;let⟨a',vs,Y,G,r⟩:=C.seq J;rw[h]at Y;cases Y;cases I:ds.getLast? with|none=>rw[I]at z;exact z.elim|some d=>
    rw[I]at z;let hl:=(ac.mp J).1;let e4:ds[⇑ds-1]?=ξ d:=by rw[<- List.getLast?_eq_getElem?];exact I
    let⟨y,hy,ry⟩:=r.get e4;let rd:bQ X.K ρ1 H1 vs.dropLast ds.dropLast:=by rw[vP,vP,⇑r];exact r.take _
    let⟨O,L⟩:=C.put hl h G rd;refine⟨.inl ⟨rfl,vs,ie.of G⟩,a,vs,y,rfl,rfl,G,by rw[⇑r];exact hy,?_⟩;let E:=ba.bnd z;unfold putL at E;rw[J]at E;exact (E ρ1 _ L O).ret O _ (ry.mono L)
  |_=>exact U.elim⟩
theorem bQ.rev(h:bQ K ρ H vs ds):bQ K ρ H vs.reverse ds.reverse:=by
 induction ds generalizing vs with|nil=>cases h;exact .nil|cons d ds ih=>cases h with|cons r t=>rw[fK,fK];exact bQ.app (ih t) (.cons r .nil)
theorem Xr(hg : Gl X "range")(hm : X.mg "range" = ψ)(h : SE X a fa)(h' : SE X b fb)(G : az [a, b] X.env = (ω, eval a X.env) :: az [b] X.env := by rfl)(E : az [b] X.env = (ω, eval b X.env) :: az [] X.env := by rfl)
  (hs:az [a,b] X.env=[(ω,eval a X.env),(ω,eval b X.env)]:=by rfl) (C:az [b] X.env=[(ω,eval b X.env)]:=by rfl):SI X tg (.Call (.Name "range" p) [a,b] [] pos) (MM.qA fa fb):=
 (Yb (tg:=tg) (p:=p) (pos:=pos) hg hm (qy h (qy h' ua E) G) hs C).of λσ H R h_=>h_.el λρ l st I O p=>⟨ρ,l,st,I,O,p.bnd.imp λd g ρ1 H1 J U p1 v Y=>⟨ρ1,l,g,I.mono J,U,p1.bnd.imp λe L ρ2 H2 x2 Q z w u=>by
  cases d with
  |int i=>
   cases e with
   |int j=>
    cases (show v=.int i from Y.inv);cases (show w=.int j from u.inv);let⟨⟨⟨h1,h2⟩,h3,h4⟩,o⟩:=ba.chk z;exact⟨i,j,rfl,⟨h1,h2,h3,h4⟩,o.ret Q _ Qr⟩
   |_=>exact z.elim
  |_=>exact z.elim⟩⟩
theorem Ub(hp:og (aW X.prog X.w) X.A X.env X.xe)(hc:ST X c ta)(hb:wS X body cs):SS X (.While c body [] pos) (gL ta cs):=(OJ hp hc hb).of λG σ H h_=>h_.el λρ l st lr sr p=>by
 unfold gL at p;by_cases h:∃n,∀r,cF ta cs n l st=r->r≠.bad
 ·rw[dif_pos h]at p;generalize dm h=n at p;refine⟨λm σ H=>∃ρ l st,LR X.K ρ H σ l/\SR X.K ρ H st/\ba X.K ρ H (cF ta cs m l st) λf _ ρ' g=>match f with
   | .next l'=>∀σ',LR X.K ρ' g σ' l'->G.nx σ' g| .ret d=>∀v,da X.K ρ' g v d->G.rt v g| .brk l'=>∀σ',LR X.K ρ' g σ' l'->G.bk σ' g
   | .cnt l'=>∀σ',LR X.K ρ' g σ' l'->G.ct σ' g,⟨n,ρ,l,st,lr,sr,p⟩,?_⟩
  intro m σ1 H1 u;let⟨ρ1,l1,O,z,Q,p1⟩:=u;cases m with|zero=>exact p1.elim|succ m=>
   refine⟨ρ1,l1,O,z,Q,(ba.bnd p1).imp λk L ρ2 H2 U Y o=>?_⟩;cases k with|false=>exact o.ret Y _ (z.mono U)|true=>
    refine⟨λσ' g=>∃ρ l st,LR X.K ρ g σ' l/\SR X.K ρ g st/\ba X.K ρ g (cF ta cs m l st) _,λσ' g q=>⟨m,mX m,q⟩,ρ2,l1,L,z.mono U,Y,(ba.bnd o).imp λf E ρ3 H3 x3 I J=>?_⟩;cases f with|next l'=>exact λσ' C=>⟨ρ3,l',E,C,I,J⟩|ret d=>exact J.ret I|brk l'=>exact J.ret I|cnt l'=>exact λσ' C=>⟨ρ3,l',E,C,I,J⟩
 ·rw[dif_neg h]at p;exact p.elim
end
theorem X6(its:List ae):xK its.toArray ψ ψ (ξ (-1))=its.reverse.toArray:=by
 unfold xK;let e:sliceRange (kj ψ ψ (ξ (-1)) its.toArray.size).1 (kj ψ ψ (ξ (-1)) its.toArray.size).2.1 (kj ψ ψ (ξ (-1)) its.toArray.size).2.2=(bU its.toArray.size).map λk=>its.toArray.size-1-k:=picked_rev its.toArray.size;rw[e];congr 1;rw[aG];let key:∀n,n<=⇑its->((bU n).map λk=>⇑its-1-k).filterMap (λi=>its.toArray[i]?)=(its.drop (⇑its-n)).reverse:=by
  intro n
  induction n with
  |zero=>intro _;simp
  |succ n ih=>
   intro o;rw[fH,aV,List.filterMap_append,ih ()];let g:⇑its-1-n < ⇑its:=by ext
   have:its.drop (⇑its-(n+1))=its[⇑its-1-n]::its.drop (⇑its-n):=by
    let l:⇑its-(n+1)=⇑its-1-n:=by ext
    let h:⇑its-n=⇑its-1-n+1:=by ext
    rw[l,h];exact cz g
   rw[this,fK];congr 1;simp[g]
 have:=key ⇑its (aA _);rw[vQ,oy]at this;exact this
section
variable{e st:Expr}{j:Nat}
def Gj(K:aq):V->Hp->VK->Prop:=λx H Q=>∃a xs,x=.ref a/\ie K H a xs/\∀p,H p=ψ->Q (.ref p) (eE H p (.lst xs.reverse))
theorem ZB(he:PE X e te):PE X (.Subscript e (.Slice ψ ψ (ξ (.UnaryOp .USub (.Constant ↑1 j p3) p4)) p2) pos) (λσ H Q=>te σ H λx C=>Gj X.K x C Q):=by
 intro g s σ H Q I h;refine DB (gH (he g s σ H _ I h) λv O z=>?_);let⟨x,C,I1,U,Y⟩:=z;refine wpAny_Slice ?_;rw[w_];refine ai (ai ?_);let E:PE X (.UnaryOp .USub (.Constant ↑1 j p3) p4) (Px (rU λi=>.int (-i)) (tC ↑1)):=UP TW Po;refine gH (RX E g O σ C (λo H'=>o=ξ (-1)/\H'=C) I1 ⟨1,rfl,-1,rfl,rfl,rfl⟩) λvs l u=>?_;let⟨o,H2,I2,ps,eo,eH⟩:=u;subst eo eH;let⟨a,xs,rfl,hx,q⟩:=Y;cases U;let G:Inv X g σ H2 { l with heap:=l.heap.push { cls:=.type "slice",data:=.fields #[.none,.none,vs] } }:=I2.kept (t':=l.toks) λb ob q=>av _ q;let⟨its,r,J,hz⟩:=G.list hx;let L:=⇑r
 show aF (aW X.prog X.w) X.A (xj e _ (.ref a) (.ref ↥l)) (EP X g σ Q) X.xe { l with heap:=l.heap.push { cls:=.type "slice",data:=.fields #[.none,.none,vs] } };refine A8 (ops:=[.ref a,.ref ↥l]) J.isList.typeIs sT.lookup ?_ (by with_unfolding_all rfl);refine xm J.isList (sA ..) .none .none ps (by simp) ?_ (by rw[aG]<;>ext);rw[X6];refine⟨.ref _,_,G.laid (t':=l.toks) (o:=.lst xs.reverse) (λb ob q=>av _ q) (aA _) ?_,rfl,q _ (G.hok.fresh (aA _))⟩;exact⟨by rw[kX];exact hz,_,0,r.reverse,aM _ rfl⟩
theorem Y2(h:SE X e fa):SL X (.Subscript e (.Slice ψ ψ (ξ (.UnaryOp .USub (.Constant ↑1 j p3) p4)) p2) pos) (uI fa):=
 (ZB h).of λσ H Q h_=>h_.el λρ l st O J p=>⟨ρ,l,st,O,J,p.bnd0.imp λd I ρ1 H1 C u E v L=>by
  cases d with
  |ref n=>
   let⟨a,rfl,_,h⟩:=L.inv;let⟨ds,e2,p2⟩:=ba.getL (E.bnd0.left C) u;let⟨a',vs,G,U,r⟩:=u.seq e2;rw[h]at G;cases G;refine⟨a,vs,rfl,ie.of U,λq g=>?_⟩;let Y:H q=none:=by
    cases z:H q with|none=>rfl|some o=>exact bw g (C.trk q o z)
   exact p2 ρ1 _ (C.trans (Ex.new g)) (u.new g) q _ Y (u.fresh g) ik ((bQ.rev r).mono (Ex.new g))
  |_=>exact E.elim⟩
theorem V6{lo J:Option Expr}(h:SE X e fa)(hl:SO X lo fl)(hh:SO X J L):SE X (.Subscript e (.Slice lo J ψ p2) pos) (kg fa fl L):=
 (QQ XC h hl hh).of λσ H Q h_=>h_.el λρ l st C Y p=>⟨ρ,l,st,C,Y,p.bnd.imp λd u ρ1 H1 I s1 p1 v rv=>⟨ρ1,l,u,C.mono I,s1,p1.bnd.imp λi g ρ2 H2 G s2 p2=>⟨ρ2,l,g,(C.mono I).mono G,s2,p2.bnd.imp λj U ρ3 H3 O s3 p3=>by
  let z:=(rv.mono G).mono O;let e:∀n d o,HT.gQ n d o=MM.gQ n d o:=λn d o=>by cases o<;>rfl
  cases z with
  |@tup a vs ds h r=>
   let⟨hw,p4⟩:=ba.chk p3;exact⟨a,vs,rfl,h,by rw[e,e,⇑r];exact hw,λq E=>p4 ρ3 _ (Ex.new E) (s3.new E) _ (.tup (kZ.of ik) ((bQ.cut r i j).mono (Ex.new E)))⟩
  |_=>exact p3.elim⟩⟩⟩
end
end MM
namespace MM
open PySem
def tz{α:Type}(n:Nat)(f:Nat->Nat->Bool):Bc α->Option α
 | .ret a=>ξ a| .ask i j k=>if i < n/\j < n then tz n f (k (f i j)) else ψ
def rT:List D->Option (List (List Int))
 |[]=>ξ []
 | .tup xs::ds=>match lE xs,rT ds with|some ns,ξ rs=>ξ (ns::rs)|_,_=>ψ
 |_=>ψ
noncomputable def vm:List Int->List Int->Bool
 |[],[]=>ω|[],_::_=>θ|_::_,[]=>ω|a::as,b::bs=>if (a == b)=θ then vm as bs else decide (a < b)
def uw(ds:List D):Option (List D):=match rT ds with
 |some rows => if (rows.all λr => decide (0 < ⇑r)) = θ /\ 2 <= ⇑ds /\ ⇑ds < 64 then (match tz ⇑ds (λi j => vm (rows.getD i []) (rows.getD j [])) (mm ⇑ds) with
   |some p=>if p.size<=1000 then ξ (p.toList.map λi=>ds.getD i .non) else ψ
   |none=>ψ) else ψ
 |none=>ψ
def o_:D->M D
 | .ref n=>bnd (getL n) λds=>match uw ds with|some es=>alloc (.lst es)|none=>bad
 |_=>bad
open PySem.Spec PyProof.Rows L2
theorem PC{α:Type}{n:Nat}{f:Nat->Nat->Bool}{o:Nat->Nat->(Bool->aj->Prop)->aj->Prop}{G:α->aj->Prop}(u:∀i j C,i < n->j < n->C (f i j) s->o i j C s):∀(t:Bc α){a:α},tz n f t=ξ a->G a s->t.kasWp o G s
 | .ret b,a,h,g=>by cases h;exact g
 | .ask i j k,a,h,g=>by
  unfold tz at h;by_cases l:i < n/\j < n
  ·rw[aH l]at h;exact u i j _ l.1 l.2 (PC u (k (f i j)) h g)
  ·rw[aB l]at h;cases h
section
variable{Q:Bool->aj->Prop}
theorem UL{l bs:List Int}(i:Nat)(E:lc z l)(C:lc ws bs)(o:g=decide (⇑l < ⇑bs))(h:Q (vm l bs) s):PySem.W.KatLex prog w A θ g Q (z.zip ws) i s:=by
 induction l generalizing bs z ws i g with
 |nil=>
  cases E;refine xO ?_;cases C with|nil=>rw[o];exact h|@cons b u vs bs r'=>
   rw[o];have:decide (⇑([]:List Int) < ⇑(b::bs))=true:=by simp
   rw[this];exact h
 |cons a l ih=>
  cases E with
  |cons _ t r=>cases C with
   |nil=>
    refine xO ?_;rw[o];have:decide (⇑(a::l) < ⇑([]:List Int))=false:=by simp
    rw[this];exact h
   |@cons b u vs bs r'=>
    refine PySem.W.kat_cons (tY ?_);unfold vm at h;by_cases e:(a == b)=θ
    ·rw[e];rw[aH e]at h;exact PySem.W.kat_yes (ih (i+1) r r' (by rw[o];simp) h)
    ·let G:(a == b)=false:=by simpa using e
     rw[G];rw[aB e]at h;refine PySem.W.kat_no ?_;cases i with|zero=>exact oneLt_int h|succ i=>exact PySem.W.kat_one _ _ (lt_int h)
end
section
variable{K:aq}{st:aY}
theorem WP(I:Inv X l σ H s)(E:bQ X.K ρ H vs ds)(C:bX vs its)(e:rT ds=ξ g):⇑g=⇑ds/\∀(i:Nat)(h:i < ⇑ds),∃a xs,its[i]?=ξ (.ref a)/\A3 s.heap a xs/\lc xs.toList (g.getD i []):=by
 induction ds generalizing vs its g with|nil=>cases E;cases C;cases e;exact⟨rfl,λi h=>by simp at h⟩|cons d ds ih=>
 cases E with|cons r t=>
 cases C with|cons ru tu=>
 cases d with
 |tup xs=>
  let⟨a,vs',rfl,Y,J⟩:=r.inv;unfold rT at e;cases o:lE xs with|none=>rw[o]at e;cases e|some ns=>
   cases z:rT ds with|none=>rw[o,z]at e;cases e|some rs=>
    rw[o,z]at e;cases e;let⟨U,h1⟩:=ih t tu z;refine⟨by simp[U],λi hi=>?_⟩;cases i with
    |succ i=>
     let⟨a',u,Q,O,L⟩:=h1 i (by simpa using hi);exact⟨a',u,by simpa using Q,O,by simpa using L⟩
    |zero=>
     let⟨its',G,p,_⟩:=I.tuple Y;cases (show _=aC a from ru);have:=NG o J;subst this;exact⟨a,_,rfl,p,by simpa using Sm G⟩
 |_=>cases e
theorem QN{h:bC}(x:h.Ns a m)(y:h.Ns a m'):m=m':=by let⟨o,es,ep,I,G,_,E⟩:=x;let⟨o',z,C,l,g,_,u⟩:=y;rw[I]at l;cases l;rw[G]at g;cases g;funext n;rw[<- E n,u n]
theorem bQ.pick(i:Nat)(h:bQ K ρ H vs ds):da K ρ H (vs.getD i .non) (ds.getD i .non):=by
 induction ds generalizing vs i with|nil=>cases h;exact .non|cons d ds ih=>
  cases h with|cons r t=>
   cases i with|zero=>exact r|succ i=>simpa using ih i t
theorem bX.pick(i:Nat)(h:bX vs g):RelV (vs.getD i .non) (g.getD i .none):=by
 induction h generalizing i with|nil=>rfl|cons r t ih=>
  cases i with|zero=>exact r|succ i=>simpa using ih i
theorem bQ.picks(r:bQ K ρ H vs ds):∀(p:List Nat),bQ K ρ H (p.map λi=>vs.getD i .non) (p.map λi=>ds.getD i .non)
 |[]=>.nil|i::p=>.cons (bQ.pick i r) (bQ.picks r p)
theorem bX.picks(r:bX vs g):∀(p:List Nat),bX (p.map λi=>vs.getD i .non) (p.map λi=>g.getD i .none)
 |[]=>.nil|i::p=>.cons (bX.pick i r) (bX.picks r p)
theorem IM(x:dQ P w H h a o):∃ob,h.get? a=ξ ob:=by
 cases o with|lst _=>let⟨_,_,_,_,e⟩:=x;exact⟨_,e⟩|tup _=>let⟨_,_,_,ob,e,_⟩:=x;exact⟨_,e⟩|dK _=>let⟨_,_,_,_,ob,_,_,e,_⟩:=x;exact⟨_,e⟩|dT _=>let⟨_,_,_,_,ob,_,_,e,_⟩:=x;exact⟨_,e⟩|set _ _=>let⟨ob,_,_,_,e,_⟩:=x;exact⟨_,e⟩|ins _ _ _=>let⟨_,_,_,e,_⟩:=x;exact⟨_,e⟩|own _=>let⟨_,e⟩:=x;exact⟨_,e⟩|xd _=>let⟨_,⟨_,_,_,e,_⟩,_⟩:=x;exact⟨_,e⟩|rng _ _=>let⟨_,_,_,e⟩:=x;exact⟨_,e⟩|frz _ _=>let⟨e,_⟩:=x;exact⟨_,e⟩|tbl _=>exact⟨_,(show h.get? a=ξ _ from x)⟩|met _ _=>exact⟨_,(show h.get? a=ξ _ from x)⟩|ext _=>let⟨_,⟨_,e⟩,_⟩:=x;exact⟨_,e⟩
theorem QgB: CallR X (.builtin "sorted") (λxs H Q=>∃(l:ak)(vs:List V)(ρ:List ak)(ds:List D)(g:List (List Int))(p:Array Nat),xs=[.ref l]/\ie X.K H l vs/\bQ X.K ρ H vs ds/\rT ds=ξ g/\(g.all λr=>decide (0 < ⇑r))=θ/\2<=⇑ds/\⇑ds < 64 /\tz ⇑ds (λi j=>vm (g.getD i []) (g.getD j [])) (mm ⇑ds)=ξ p/\p.size<=1000/\∀q,H q=ψ->Q (.ref q) (eE H q (.lst (p.toList.map λi=>vs.getD i .non)))):=by
 intro ah s σ H xs us Q I r h;let⟨l,vs,ρ,ds,g,p,rfl,hq,rr,hrows,hall,h2,h64,hev,hps,q⟩:=h;let⟨u,rfl,rx⟩:=vx r;cases rx;let⟨its,rv,pl,hz⟩:=I.list hq;let l1:=⇑rv;let l2:=⇑rr;let hil:⇑its=⇑ds:=by ext
 let⟨hrl,hit⟩:=WP I rr rv hrows;let⟨m,F⟩:=I.fr;let N:zo X.base X.env.locals s.heap (ic X.base s.heap X.env.locals):=SK;let neL:∀a xs,A3 s.heap a xs->a≠X.env.locals:=λa xs ht e=>by let⟨o,U,hc,n,hd⟩:=ht;let⟨o',es,ep,J,hd',_⟩:=F.ns;rw[e,J]at U;cases U;rw[hd']at hd;cases hd
 let kept:∀h',Fr X.base X.env.locals h' m->zo X.base X.env.locals h' (ic X.base s.heap X.env.locals)->∀b o,b≠X.env.locals->s.heap.get? b=ξ o->h'.get? b=ξ o:=λh' F' N' b o hb e=>by
  cases z:X.base.get? b with
  |some u=>
   have:=F.keep b u z;rw[e]at this;cases this;exact F'.keep b _ z
  |none=>exact (N' (b,o) (IZ hb z e)).1
 refine PySem.W.kat_sorted F N pl.isList () () λD e1 h' F' N' hD=>?_;let N'':zo X.base X.env.locals h' (ic X.base s.heap X.env.locals):=λz hz=>N' z (bD _ hz);let hDL:=(N' _ (bK ..)).2.1;let hDb:=(N' _ (bK ..)).2.2;let hDs:s.heap.get? D=none:=by
  cases z:s.heap.get? D with|none=>rfl|some o=>exact bw (hD _ (IZ hDL hDb z)) (cY _)
 let E:H D=none:=by
  cases z:H D with|none=>rfl|some o=>
   let⟨ob,e⟩:=IM (I.hok D o z);rw[hDs]at e;cases e
 let L:∀(i:Nat),i < ⇑ds->∃a xs o n,its[i]?=ξ (.ref a)/\h'.get? a=ξ o/\o.cls=.type "tuple"/\o.data=.seq xs n/\lc xs.toList (g.getD i []):=λi hi=>by let⟨a,xs,e,ht,G⟩:=hit i hi;have hn:=neL a xs ht;let⟨o,U,hc,n,hd⟩:=ht;exact⟨a,xs,o,n,e,kept h' F' N'' a o hn U,hc,hd,G⟩
 let tups:∃fs:List ae,xQ h' its fs/\⇑fs=⇑its/\∀v∈fs,∃(k:Int)(t:Tok),v=.int k t:=by
  let gen:∀(ys:List ae),(∀v∈ys,∃a xs o n,v=.ref a/\h'.get? a=ξ o/\o.cls=.type "tuple"/\o.data=.seq xs n/\∃(k:Int)(t:Tok),xs[0]?=ξ (.int k t))->∃fs:List ae,xQ h' ys fs/\⇑fs=⇑ys/\∀v∈fs,∃(k:Int)(t:Tok),v=.int k t:=by
   intro ys
   induction ys with|nil=>exact λ_=>⟨[],trivial,rfl,by simp⟩|cons y ys ih=>
    intro hy;let⟨fs,k1,k2,k3⟩:=ih λv hv=>hy v (by simp[hv]);let⟨a,xs,o,n,e,U,hc,hd,k,t,G⟩:=hy y (by simp);subst e;exact⟨.int k t::fs,xQ.cons U hc hd G k1,by simp[k2],λv hv=>by
     rcases a_.mp hv with z|z
     ·exact⟨k,t,z⟩
     ·exact k3 v z⟩
  refine gen its λv hv=>?_;let⟨i,hi⟩:=eU hv;let hlt:i < ⇑ds:=by rw[<- hil];exact (ac.mp hi).1
  let⟨a,xs,o,n,e,U,hc,hd,G⟩:=L i hlt;rw[hi]at e;cases e;refine⟨a,xs,o,n,rfl,U,hc,hd,?_⟩;let eG:0 < ⇑(g.getD i []):=by
   let hr:i < ⇑g:=by ext
   have:g.getD i []=g[i]:=by simp[hr]
   rw[this];have:=dX.mp hall g[i] (cM hr);simpa using this
  cases Y:g.getD i [] with|nil=>rw[Y]at eG;simp at eG|cons k ks=>
   rw[Y]at G;cases hxs:xs.toList with|nil=>rw[hxs]at G;cases G|cons y ys=>
    rw[hxs]at G;cases G with|cons _ t r=>exact⟨k,t,by rw[<- ff,hxs];rfl⟩
 let⟨fs,t1,t2,t3⟩:=tups;refine PySem.W.kat_kind (T:=.type "int") t1 () (λv hv=>?_) (by decide) ?_
 ·let⟨k,t,e⟩:=t3 v hv;subst e;exact PySem.W.Looks.of_pure rfl
 refine PC (n:=⇑ds) (f:=λi j=>vm (g.getD i []) (g.getD j [])) (λi j C hi hj hC=>?_) (mm ⇑its) (a:=p) (by rw[hil];exact hev) ?_
 ·let⟨a,xs,o,n,e,U,hc,hd,G⟩:=L i hi;let⟨b,ys,o',E,C,J,z,hd',hy⟩:=L j hj
  show aF _ _ (keyLt' _ (its.getD i bL) (its.getD j bL)) _ _ _;let h:its.getD i bL=.ref a:=by rw[fj,e];rfl
  let g:its.getD j bL=.ref b:=by rw[fj,C];rfl
  rw[h,g];refine PySem.W.kat_lt U hd J hd' (UL 0 G hy ?_ hC);let u:=zA G;let l:=zA hy;rw[<- u,<- l,fW,fW]
 ·refine PySem.W.KasFin.intro F' N' (PySem.W.UpdF.head (λz hz=>bB (hD z hz))) λl c G L=>?_;let U:zo X.base X.env.locals l (ic X.base s.heap X.env.locals):=λz hz=>L z (bD _ hz);let h:=(L _ (bK ..)).1;let kp:=kept l G U;let hsz:⇑(p.toList.map λi=>vs.getD i V.non)<=sizeLine:=by
   rw[af,fW];have:1000<=sizeLine:=by decide
   ext
  let O:=I.free
  suffices I3:Inv X ah σ (eE H D (.lst (p.toList.map λi=>vs.getD i V.non))) { s with heap:=l,gens:=s.gens,drawn:=s.drawn,toks:=s.toks } by exact⟨.ref D,eE H D (.lst (p.toList.map λi=>vs.getD i V.non)),I3,rfl,q D E⟩
  refine I.step (g':=s.gens) (d':=s.drawn) (t':=s.toks) (ch:=[]) (λb hb=>by cases hb) (λb o C _ _ e _=>kp b o C e) (λb o C _ _ e _=>⟨o.slots,kp b o C e⟩)
   (λb o _ e n1=>by rw[e8 (λz=>by rw[z,hDs]at e;cases e)];exact n1)
   (λb o _ e=>by
    by_cases z:b=X.env.locals
    ·let⟨o',_,_,J,_⟩:=G.ns;exact⟨o',by rw[z];exact J⟩
    ·exact⟨o,kp b o z e⟩)
   (λb ys e=>by rw[e8 (nV e E)];exact e) (λb o ys e=>by rw[e8 (nV e E)];exact e) (λb ps e=>⟨#[],by rw[e8 (nV e E),e];simp⟩)
   (λm' Q=>by rw[<- QN F.ns Q];exact G.ns) ?_ I.bare
  intro a o e;by_cases z:a=D
  ·subst z;rw[ik]at e;cases e;exact⟨hsz,_,c,bX.picks rv p.toList,h⟩
  ·rw[e8 z]at e;refine (I.hok a o e).stay (λb u hb e1=>kp b u (λg=>?_) e1) (λb e1=>by rw[e8 (nV e1 E)];exact e1) (λb ys e1=>by rw[e8 (nV e1 E)];exact e1);rcases hb with y|y
   ·rw[y]at g;rw[g,O]at e;cases e
   ·rw[g,O]at y;cases y
theorem Ts:CallR X (.builtin "sorted") (λxs H Q=>∃v,xs=[v]/\zI X.K o_ v H Q):=QgB.of λxs H Q o=>by
 let⟨v,e,ρ,st,d,l,J,p⟩:=o;cases J with
 |@ref a n _ h=>
  let⟨ds,U,g⟩:=ba.getL (ba.bnd p) l;let⟨Y,vs,G,O,r⟩:=l.seq U;rw[h]at G;cases G;unfold uw at g;cases C:rT ds with|none=>rw[C]at g;exact g.elim|some rows=>
   rw[C]at g;by_cases u:(rows.all λr=>decide (0 < ⇑r))=θ/\2<=⇑ds/\⇑ds < 64
   ·simp only[aH u]at g;cases E:tz ⇑ds (λi j=>vm (rows.getD i []) (rows.getD j [])) (mm ⇑ds) with|none=>rw[E]at g;exact g.elim|some pp=>
     rw[E]at g;by_cases hz:pp.size<=1000
     ·simp only[aH hz]at g;refine⟨a,vs,ρ,ds,rows,pp,e,ie.of O,r,C,u.1,u.2.1,u.2.2,E,hz,λq z=>?_⟩;let L:=l.fresh z;let I:SR X.K (ρ++[q]) (eE H q (.lst (pp.toList.map λi=>vs.getD i V.non))) (st++[.lst (pp.toList.map λi=>ds.getD i D.non)]):=(l.new z).keep ik L ((bQ.picks r pp.toList).mono (Ex.new z));refine g _ _ (Ex.newL z) I _ (.ref ⟨_,ik,rfl⟩ ?_);rw[<- l.len];simp
     ·simp only[aB hz]at g;exact g.elim
   ·simp only[aB u]at g;exact g.elim
 |_=>exact p.elim
end
section
variable{h':bC}{ch:List ak}
theorem T3{t':Nat}(I:Inv X ah σ H s)(l:∀b∈ch,pU X ah H b)(keep:∀b o,b∉ch->s.heap.get? b=ξ o->h'.get? b=ξ o):Inv X ah σ H { s with heap:=h',toks:=t' }:=by
 let ne:∀b o,H b=ξ o->b∉ch:=λb o e z=>by rw[(l b z).1]at e;cases e
 let G:X.env.locals∉ch:=λz=>(l _ z).2.1 rfl;refine I.step (g':=s.gens) (d':=s.drawn) (ch:=ch) (λb C=>?_) (λb o _ _ g e _=>keep b o g e) (λb o _ _ g e _=>⟨o.slots,keep b o g e⟩) (λb o _ _ e=>e) (λb o g e=>⟨o,keep b o g e⟩)
  (λb ys e=>e) (λb o ys e=>e) (λb ps e=>⟨#[],by rw[e];simp⟩) (λm E=>?_) ?_ I.bare
 ·let⟨Y,Q,U,O,L,J⟩:=l b C;exact⟨O,Q,L,J⟩
 ·let⟨o,es,ep,e,r⟩:=E;exact⟨o,es,ep,keep _ o G e,r⟩
 ·intro a o e;refine (I.hok a o e).stay (λb u C h=>keep b u ?_ h) (λb h=>h) (λb ys h=>h);rcases C with y|y
  ·rw[y];exact ne a o e
  ·exact ne b _ y
theorem Pu{t':Nat}{vs:List V}(I:Inv X ah σ H s)(C:∀b∈ch,pU X ah H b)(keep:∀b o,b∉ch->s.heap.get? b=ξ o->h'.get? b=ξ o)(G:↥s<=T)(hz:⇑vs<=sizeLine) (J:bX vs its) (L:ka h' T its.toArray):Inv X ah σ (eE H T (.tup vs)) { s with heap:=h',toks:=t' }:=by
 let g:H T=none:=I.hok.fresh G;let ne:∀b o,H b=ξ o->b∉ch:=λb o e z=>by rw[(C b z).1]at e;cases e
 let Q:X.env.locals∉ch:=λz=>(C _ z).2.1 rfl;refine I.step (g':=s.gens) (d':=s.drawn) (ch:=ch) (λb E=>?_) (λb o _ _ l e _=>keep b o l e) (λb o _ _ l e _=>⟨o.slots,keep b o l e⟩) (λb o _ e n=>by rw[e8 (bB (br (aP e) G))];exact n) (λb o l e=>⟨o,keep b o l e⟩)
  (λb ys e=>by rw[e8 (nV e g)];exact e) (λb o ys e=>by rw[e8 (nV e g)];exact e) (λb ps e=>⟨#[],by rw[e8 (nV e g),e];simp⟩) (λm O=>?_) ?_ I.bare
 ·let⟨o,h,l,g,Y,U⟩:=C b E;exact⟨g,h,Y,U⟩
 ·let⟨o,es,ep,e,r⟩:=O;exact⟨o,es,ep,keep _ o Q e,r⟩
 ·intro a o e;by_cases z:a=T
  ·subst z;rw[ik]at e;cases e;exact⟨hz,its,J,L⟩
  ·rw[e8 z]at e;refine (I.hok a o e).stay (λb u E h=>keep b u ?_ h) (λb h=>by rw[e8 (nV h g)];exact h) (λb ys h=>by rw[e8 (nV h g)];exact h);rcases E with y|y
   ·rw[y];exact ne a o e
   ·exact ne b _ y
end
def uE(a b:CE):CI:=λl=>bnd (a l) λx=>bnd (b l) λy=>match x,y with| .ref m,.ref n=>bnd (getL m) λds=>bnd (getL n) λes=>ret ⟨ds.zipWith (λp q=>.tup [p,q]) es,λs=>ij m ds s/\ij n es s⟩|_,_=>bad
structure B7(prog:Program)(w:bJ)(A:bx)(it src:ak)(val:Nat->Option ae)(P:Nat->bC->Prop):Prop where
 there:∀k h,P k h->∃o,h.get? it=ξ o
 keep:∀k h h',P k h->(∀b,b=it\/b=src->∀o,h.get? b=ξ o->h'.get? b=ξ o)->P k h'
 item:∀k x(s:aj)(Q:ae->aj->Prop)(E:ae->aj->Prop),P k s.heap->val k=ξ x->(∀h',P (k+1) h'->dP it s.heap h'->Q x { s with heap:=h' })->aF (aW prog w) A (bZ (.ref it)) Q E s
 done:∀k(s:aj)(Q:ae->aj->Prop)(E:ae->aj->Prop),P k s.heap->val k=ψ->(∀h' e,r_ it s.heap h'->(∃o,h'.get? e=ξ o/\o.cls=.type "StopIteration")->E (.ref e) { s with heap:=h' })->aF (aW prog w) A (bZ (.ref it)) Q E s
section
variable{A:bx}{E:ae->aj->Prop}{s:aj}{v1 v2:Nat->Option ae}{P1 P2:Nat->bC->Prop}{k:Nat}
theorem xC{val:Nat->Option ae}{P:Nat->bC->Prop}(S:B7 prog w A l g val P)(x:P k h)(e:r_ b h h')(I:l≠b)(H:g≠b):P k h':=
 S.keep k h h' x λc G o C=>e c o (by rcases G with q|q<;>rw[q]<;>assumption) C
theorem Vd{items:Array ae}(hh:A.handled=ψ)(O:a≠I):B7 prog w A I a (λi=>items[i]?) (λi h=>h.IsTupleIter I a i/\h.IsTuple a items) where
 there:=λk h G=>by let⟨⟨o,e,_⟩,_⟩:=G;exact⟨o,e⟩
 keep:=λk h h' C kp=>by let⟨⟨o,e,r⟩,⟨o',e',Y⟩⟩:=C;exact⟨⟨o,kp I (.inl rfl) o e,r⟩,⟨o',kp a (.inr rfl) o' e',Y⟩⟩
 item:=λk x s Q E l L u=>by let⟨J,H⟩:=l;exact XE J H L λh' q U=>u h' ⟨q,H.extBut U.extBut O⟩ U
 done:=λk s Q E g L z=>by let⟨J,H⟩:=g;exact Xg hh J H L z
theorem QgH{Q:ae->aj->Prop}(D:ZipApart z tI tO i1 i2 l1 l2)(G:B7 prog w A i1 l1 v1 P1)(C:B7 prog w A i2 l2 v2 P2)(hz:oY s.heap z tI tO .none)(hi:iD s.heap tI (.ref i1) (.ref i2))(ho:iD s.heap tO u v)(p1:P1 k s.heap) (p2:P2 k s.heap)  (hx:v1 k=ξ x) (hy:v2 k=ξ y)(hQ:∀h',oY h' z tI tO (gM ↥s)->iD h' tO x y->P1 (k+1) h'->P2 (k+1) h'->iD h' ↥s x y ->(∀c o,c≠z->c≠tO->c≠i1->c≠i2->s.heap.get? c=ξ o->h'.get? c=ξ o)->Q (.ref ↥s) { s with heap:=h' }):aF (aW prog w) A (Builtin.«zip.__next__» ⟨[.ref z],[]⟩) (λf s'=>∃r,f=.done (.ret r)/\Q r s') E s:=by
 show aF _ _ (vO (.ref z) 2 >>= _) _ _ _;refine aa (cP hz rfl (x:=.bool ω) rfl ?_);show aF _ _ (vO (.ref z) 3 >>= _) _ _ _;refine aa (cP hz rfl (x:=.ref tI) rfl (aa (eL hi rfl ?_)));show aF _ _ (eP (.ref z) >>= _) _ _ _;refine aa ?_;unfold eP;refine aa (cP hz rfl (x:=.none) rfl (ai ?_));simp only[if_true];refine aa (eK (aa (cP hz rfl (x:=.ref tO) rfl (aa (g8 hz (by simp) λha za O=>?_)))));let za':oY ha z tI tO .ellipsis:=za;refine aa ?_;simp only[zW,Be,cV,BQ];refine aa (aa (nJ ?_));show aF _ _ (bZ (.ref i1) >>= _) _ _ _;refine aa (G.item k x _ _ _ (xC G p1 O.extBut D.i1z D.l1z) hx λhb q1 L=>ai ?_);let ob:iD hb tO u v:=L.extBut _ _ D.TOi1 (O.extBut _ _ D.TOz ho);refine aa (eL ob rfl (aa (qu ob λl oc sc=>?_)));let oc':iD l tO x v:=oc;refine aa (qq (ai ?_));refine aa (aa (nJ ?_));show aF _ _ (bZ (.ref i2) >>= _) _ _ _;let p2c:P2 k l:=xC C (xC C (xC C p2 O.extBut D.i2z D.l2z) L.extBut D.i12.symm D.l2i1) sc.extBut D.TOi2.symm D.l2TO;refine aa (C.item k y _ _ _ p2c hy λhd q2 sd=>ai ?_);let od:iD hd tO x v:=sd.extBut _ _ D.TOi2 oc';refine aa (eL od rfl (aa (qu od λg oe J=>?_)));let U:iD g tO x y:=oe;refine aa (qq (ai (ai ?_)));refine aa (eL U rfl (aa (wpAny_newTuple ?_)));let h:g.objs.size=↥s:=by rw[J.1,sd.1,sc.1,L.1,O.1]
 let ze:oY g z tI tO .ellipsis:=J.extBut _ _ D.TOz.symm (sd.extBut _ _ D.i2z.symm (sc.extBut _ _ D.TOz.symm (L.extBut _ _ D.i1z.symm za')));let all:∀c o,c≠z->c≠tO->c≠i1->c≠i2->s.heap.get? c=ξ o->g.get? c=ξ o:=λc o n1 n2 n3 n4 e=>J.extBut _ _ n2 (sd.extBut _ _ n4 (sc.extBut _ _ n2 (L.extBut _ _ n3 (O.extBut _ _ n1 e))));let q1e:P1 (k+1) g:=xC G (xC G (xC G q1 sc.extBut D.TOi1.symm D.l1TO) sd.extBut D.i12 D.l1i2) J.extBut D.TOi1.symm D.l1TO;let q2e:P2 (k+1) g:=xC C q2 J.extBut D.TOi2.symm D.l2TO;let H:z < g.objs.size:=aP ze
 show aF _ _ (lM (.ref z) (.ref g.objs.size) >>= _) _ _ _;refine aa ?_;unfold lM;let zf:oY (g.push { cls:=.type "tuple",data:=.seq #[x,y] }) z tI tO .ellipsis:=av _ ze;refine aa (g8 zf (by simp) λhg zg sg=>?_);let Y:oY hg z tI tO (gM g.objs.size):=zg;refine g8 Y (by simp) λhh zh sh=>?_;let I:oY hh z tI tO (gM g.objs.size):=zh;let up:∀c o,c≠z->g.get? c=ξ o->hh.get? c=ξ o:=λc o n1 e=>sh.extBut _ _ n1 (sg.extBut _ _ n1 (av _ e));let new:iD hh g.objs.size x y:=sh.extBut _ _ (fN H) (sg.extBut _ _ (fN H) (aM _ rfl));rw[h]at I new;refine ai ⟨_,rfl,?_⟩;show Q (.ref g.objs.size) _;rw[h];exact hQ hh I (up _ _ D.TOz U) (G.keep _ _ _ q1e λc l o e=>up c o (l.elim (λq=>by rw[q];exact D.i1z) (λq=>by rw[q];exact D.l1z)) e) (C.keep _ _ _ q2e λc l o e=>up c o (l.elim (λq=>by rw[q];exact D.i2z) (λq=>by rw[q];exact D.l2z)) e) new λc o n1 n2 n3 n4 e=>up c o n1 (all c o n1 n2 n3 n4 e)
theorem WL(D:ZipApart z tI tO i1 i2 l1 l2)(S1:B7 prog w A i1 l1 v1 P1)(O:B7 prog w A i2 l2 v2 P2)(hz:oY s.heap z tI tO .none)(hi:iD s.heap tI (.ref i1) (.ref i2))(ho:iD s.heap tO u v)(p1:P1 k s.heap) (p2:P2 k s.heap) (J:v1 k=ψ\/v2 k=ψ)(hE:∀h' e,(∀c o,c≠z->c≠tO->c≠i1->c≠i2->s.heap.get? c=ξ o->h'.get? c=ξ o)->(∃o,h'.get? e=ξ o/\o.cls=.type "StopIteration")->E (.ref e) { s with heap:=h' }):aF (aW prog w) A (Builtin.«zip.__next__» ⟨[.ref z],[]⟩) Q E s:=by
 show aF _ _ (vO (.ref z) 2 >>= _) _ _ _;refine aa (cP hz rfl (x:=.bool ω) rfl ?_);show aF _ _ (vO (.ref z) 3 >>= _) _ _ _;refine aa (cP hz rfl (x:=.ref tI) rfl (aa (eL hi rfl ?_)));show aF _ _ (eP (.ref z) >>= _) _ _ _;refine aa ?_;unfold eP;refine aa (cP hz rfl (x:=.none) rfl (ai ?_));simp only[if_true];refine aa (eK (aa (cP hz rfl (x:=.ref tO) rfl (aa (g8 hz (by simp) λha za C=>?_)))));let l:oY ha z tI tO .ellipsis:=za;refine aa ?_;simp only[zW,Be,cV,BQ];refine aa (aa (nJ ?_));show aF _ _ (bZ (.ref i1) >>= _) _ _ _;let I:P1 k ha:=xC S1 p1 C.extBut D.i1z D.l1z;cases hx:v1 k with
 |none=>
  refine aa (S1.done k _ _ _ I hx λhb e g H=>?_);let⟨Y,h,L⟩:=H;let zb:oY hb z tI tO .ellipsis:=g _ _ D.i1z.symm l;let ne:e≠z:=λq=>by rw[q,zb]at h;cases h;simp at L
  exact g8 zb (by simp) λhc _ sc=>hE hc e (λc o n1 _ n3 _ q=>sc.extBut _ _ n1 (g _ _ n3 (C.extBut _ _ n1 q))) ⟨Y,sc.extBut _ _ ne h,L⟩
 |some x=>
  let hy:v2 k=none:=J.resolve_left (by rw[hx];simp);refine aa (S1.item k x _ _ _ I hx λhb q1 g=>ai ?_);let ob:iD hb tO u v:=g.extBut _ _ D.TOi1 (C.extBut _ _ D.TOz ho);refine aa (eL ob rfl (aa (qu ob λhc oc sc=>?_)));refine aa (qq (ai ?_));refine aa (aa (nJ ?_));show aF _ _ (bZ (.ref i2) >>= _) _ _ _;let U:P2 k hc:=xC O (xC O (xC O p2 C.extBut D.i2z D.l2z) g.extBut D.i12.symm D.l2i1) sc.extBut D.TOi2.symm D.l2TO;refine aa (O.done k _ _ _ U hy λhd e sd G=>?_);let⟨Y,h,L⟩:=G;let zd:oY hd z tI tO .ellipsis:=sd _ _ D.i2z.symm (sc.extBut _ _ D.TOz.symm (g.extBut _ _ D.i1z.symm l));let ne:e≠z:=λq=>by rw[q,zd]at h;cases h;simp at L
  exact g8 zd (by simp) λhe _ se=>hE he e (λc o n1 n2 n3 n4 q=>se.extBut _ _ n1 (sd _ _ n4 (sc.extBut _ _ n2 (g.extBut _ _ n3 (C.extBut _ _ n1 q))))) ⟨Y,se.extBut _ _ ne h,L⟩
end
def uP(a b:CE):CI:=λl=>bnd (a l) λx=>bnd (b l) λy=>match x,y with| .tup ds,.tup es=>ret ⟨ds.zipWith (λp q=>.tup [p,q]) es,e9⟩|_,_=>bad
end MM
namespace MM
open PySem
def qg(a:CE):CI:=λl=>bnd (a l) λx=>match x with| .ref n=>bnd (getL n) λds=>ret ⟨(ib 0 ⇑ds).zipWith (λi d=>.tup [i,d]) ds,ij n ds⟩|_=>bad
open PySem.Spec PyProof.Rows L2
def uR(t:Bool)(K:aq)(H:Hp)(a:ak)(xs:List V):Prop:=match t with|true=>kZ K H a xs|false=>ie K H a xs
noncomputable def tm(t:Bool)(h:bC)(a:ak)(xs:Array ae):Prop:=match t with|true=>h.IsTuple a xs|false=>h.IsList a xs
noncomputable def n_(t:Bool)(h:bC)(g a:ak)(i:Nat):Prop:=match t with|true=>h.IsTupleIter g a i|false=>h.IsListIter g a i
noncomputable def Co:Bool->ak->Obj
 |true,a=>{ cls:=.type "tuple_iterator",data:=.fields #[.ref a,.int 0 0] }|false,a=>{ cls:=.type "list_iterator",data:=.fields #[.ref a,.int 0 0] }
section
variable{A:bx}{s:aj}{t u:Bool}{h h':bC}{a b it:ak}{xs ys:Array ae}{i:Nat}
theorem tm.there(p:tm t h a xs):∃o,h.get? a=ξ o:=by cases t<;>(obtain ⟨o,e,_⟩:=p;exact ⟨o,e⟩)
theorem tm.keep(p:tm t h a xs)(k:∀o,h.get? a=ξ o->h'.get? a=ξ o):tm t h' a xs:=by cases t<;>(obtain ⟨o,e,r⟩:=p;exact ⟨o,k o e,r⟩)
theorem n_.keep(p:n_ t h it a i)(k:∀o,h.get? it=ξ o->h'.get? it=ξ o):n_ t h' it a i:=by cases t<;>(obtain ⟨o,e,r⟩:=p;exact ⟨o,k o e,r⟩)
theorem n_.obj(p:n_ t h it a i):∃o,h.get? it=ξ o/\∀v,o.data≠.cell v:=by cases t<;>(obtain ⟨o,e,_,d⟩:=p;exact ⟨o,e,λv q=>by rw[d]at q;cases q⟩)
theorem OV(e:h.get? it=ξ (Co t a)):n_ t h it a 0:=by cases t<;>exact⟨_,e,rfl,rfl⟩
theorem tm.ne(p:tm t h a xs)(q:n_ u h it b i):a≠it:=λz=>by subst z;cases t<;>cases u<;>let⟨o,C,c,_⟩:=p<;>let⟨o',g,l,_⟩:=q<;>rw[C]at g<;>cases g<;>rw[c]at l<;>exact bw (wE l) (by decide)
theorem Af(hh:A.handled=ψ)(G:a≠it):B7 prog w A it a (λi=>xs[i]?) (λi h=>n_ t h it a i/\tm t h a xs):=by
 cases t
 ·exact⟨λk h C=>by let⟨⟨o,e,_⟩,_⟩:=C;exact⟨o,e⟩,λk h h' z kp=>by let⟨p,q⟩:=z;exact⟨n_.keep (t:=ω) p (kp it (.inl rfl)),tm.keep (t:=ω) q (kp a (.inr rfl))⟩,λk x s Q E l J O=>by let⟨I,H⟩:=l;exact wpAny_nextOf_list_item I H J λh' q L=>O h' ⟨q,tm.keep (t:=ω) H λo e=>L.extBut a o G e⟩ L,λk s Q E g J U=>by let⟨I,H⟩:=g;exact wpAny_nextOf_list_end hh I H J U⟩
 ·exact Vd hh G
theorem RE{Q:ae->aj->Prop}(p:tm t s.heap a xs)(g:Q (.ref ↥s) { s with heap:=s.heap.push (Co t a) }):aF (aW prog w) A (DA (.ref a)) Q E s:=by
 cases t
 ·exact kA p g
 ·exact mJ p g
theorem AY(I:Inv X g σ H s)(q:uR t X.K H a vs):∃its,bX vs its/\tm t s.heap a its.toArray:=by
 cases t
 ·let⟨its,l,p,_⟩:=I.list q;exact⟨its,l,p.isList⟩
 ·let⟨its,l,p,_⟩:=I.tuple q;exact⟨its,l,p⟩
theorem L1(I:Inv X g σ H s)(p:uR t X.K H a vs)(q:uR t X.K H a ws):vs=ws:=by
 cases t
 ·exact I.list_inj p q
 ·exact I.tuple_inj p q
abbrev Ed(t:Bool)(h:bC)(a:ak):bC:=h.push (Co t a)
abbrev D1(t u:Bool)(h:bC)(a b:ak):bC:=(Ed t h a).push (Co u b)
abbrev DS(t u:Bool)(h:bC)(a b:ak):bC:=(D1 t u h a b).push { cls:=.type "tuple",data:=.seq #[.ref h.objs.size,.ref (Ed t h a).objs.size] }
abbrev Fp(t u:Bool)(h:bC)(a b:ak):bC:=(DS t u h a b).push { cls:=.type "tuple",data:=.seq #[.none,.none] }
abbrev zL(t u:Bool)(h:bC)(a b:ak):bC:=(Fp t u h a b).push { cls:=.type "zip",data:=.fields #[.none,.bool ω,.bool ω,.ref (D1 t u h a b).objs.size,.ref (DS t u h a b).objs.size] }
theorem Xz(t u:Bool)(a b:ak)(xs ys:Array ae):Meets (Builtin.«zip.__new__» ⟨[.type "zip",.ref a,.ref b],[]⟩) (λ_ R s=>tm t s.heap a xs/\tm u s.heap b ys/\R (.ok (.ret (.ref (Fp t u s.heap a b).objs.size))) { s with heap:=zL t u s.heap a b }):=
 .of_wp λprog w A R s h=>by
  let⟨z,g,d,tk,os⟩:=s;let⟨I,H,h⟩:=h;let l:=sub_zip;let G:tm t (vh ⟨z,g,d,tk,os⟩) a xs:=I;let C:tm u (vh ⟨z.push (Co t a),g,d,tk,os⟩) b ys:=H.keep λo e=>av _ e
  wp_walk using RE G,RE C
  exact⟨_,rfl,h⟩
theorem QgP{Q:ae->aj->Prop}(Y:tm t s.heap a xs)(U:tm u s.heap b ys)(h:∀h',oY h' (↥s+4) (↥s+2) (↥s+3) .none->iD h' (↥s+2) (.ref ↥s) (.ref (↥s+1))->iD h' (↥s+3) .none .none ->n_ t h' ↥s a 0->n_ u h' (↥s+1) b 0->(∀c o,s.heap.get? c=ξ o->h'.get? c=ξ o)->Q (.ref (↥s+4)) { s with heap:=h' }):aF (aW prog w) A (call (.type "zip") [.ref a,.ref b]) Q E s:=by
 refine callType_new F.called_zip (by decide) (F.typeCall_zip_2 _ _) (F.newCall_zip_2 _ _) (λobj=>F.args_object_init_3 obj _ _) F.entry_zip_new (Xz t u a b xs ys) ⟨Y,U,?_⟩;let n1:(Ed t s.heap a).objs.size=↥s+1:=dL ..;let n2:(D1 t u s.heap a b).objs.size=↥s+2:=by rw[dL,n1]
 let G:(DS t u s.heap a b).objs.size=↥s+3:=by rw[dL,n2]
 let L:(Fp t u s.heap a b).objs.size=↥s+4:=by rw[dL,G]
 let g:∀{c o},(Fp t u s.heap a b).get? c=ξ o->(zL t u s.heap a b).get? c=ξ o:=λe=>av _ e;let l:∀{c o},(DS t u s.heap a b).get? c=ξ o->(zL t u s.heap a b).get? c=ξ o:=λe=>g (av _ e);let z:∀{c o},(D1 t u s.heap a b).get? c=ξ o->(zL t u s.heap a b).get? c=ξ o:=λe=>l (av _ e);let up1:∀{c o},(Ed t s.heap a).get? c=ξ o->(zL t u s.heap a b).get? c=ξ o:=λe=>z (av _ e);let C:oY (zL t u s.heap a b) (Fp t u s.heap a b).objs.size (D1 t u s.heap a b).objs.size (DS t u s.heap a b).objs.size .none:=aM _ rfl;let H:iD (zL t u s.heap a b) (DS t u s.heap a b).objs.size .none .none:=g (aM _ rfl);let I:iD (zL t u s.heap a b) (D1 t u s.heap a b).objs.size (.ref ↥s) (.ref (Ed t s.heap a).objs.size):=l (aM _ rfl);let J:(zL t u s.heap a b).get? (Ed t s.heap a).objs.size=ξ (Co u b):=z (aM _ (by cases u<;>rfl));let O:(zL t u s.heap a b).get? ↥s=ξ (Co t a):=up1 (aM _ (by cases t<;>rfl))
 show _/\_;rw[n2,G,L]at C;rw[G]at H;rw[n1,n2]at I;rw[n1]at J;rw[L];exact⟨⟨_,C,rfl⟩,h _ C I H (OV O) (OV J) λc o e=>up1 (av _ e)⟩
theorem Zv{Q:ae->aj->Prop}(p:tm t s.heap a xs)(h:∀h',IsEnum h' (↥s+1) ↥s 0 .none->n_ t h' ↥s a 0->(∀b o,s.heap.get? b=ξ o->h'.get? b=ξ o)->Q (.ref (↥s+1)) { s with heap:=h' }):aF (aW prog w) A (call (.type "enumerate") [.ref a]) Q E s:=by
 cases t
 ·exact call_enumerate_list p λh' a b _ c=>h h' a b c
 ·exact YE p λh' a b _ c=>h h' a b c
theorem Uf(t:Bool)(hh:A.handled=ψ)(g:a≠it)(xs:Array ae):Draws prog w A it [it,a] xs.size (λi v=>xs[i]?=ξ v) (λi h=>n_ t h it a i/\tm t h a xs) where
 live:=λi h st=>(Af (prog:=prog) (w:=w) hh g).there i h st
 frame:=λi h h' st C=>(Af (prog:=prog) (w:=w) hh g).keep i h h' st λb G o e=>C b (by rcases G with q|q<;>rw[q]<;>simp) o e
 item:=λi s Q E l st H=>(Af hh g).item i xs[i] s Q E st (by simp[l]) λh' p z=>H _ h' s.toks (by simp[l]) p z
 done:=λs Q E st I=>(Af hh g).done xs.size s Q E st (by simp) I
end
def CC(t u:Bool)(K:aq)(a b:ak):It:=
 ⟨λi H=>∃xs ys x y,uR t K H a xs/\uR u K H b ys/\xs[i]?=ξ x/\ys[i]?=ξ y,
  λi H r g=>∃T x y,r=.ref T/\H T=ψ/\(∀xs,uR t K H a xs->xs[i]?=ξ x)/\(∀ys,uR u K H b ys->ys[i]?=ξ y)/\g=eE H T (.tup [x,y]),
  λi H=>∃xs ys,uR t K H a xs/\uR u K H b ys/\(⇑xs<=i\/⇑ys<=i)⟩
def De(t:Bool)(K:aq)(a:ak):It:=
 ⟨λi H=>∃xs x,uR t K H a xs/\xs[i]?=ξ x,λi H x g=>∃T v,x=.ref T/\H T=ψ/\(∀xs,uR t K H a xs->xs[i]?=ξ v)/\g=eE H T (.tup [.int i,v]),λi H=>∃xs,uR t K H a xs/\⇑xs<=i⟩
def Fj(t u:Bool)(z l g C o a b:ak)(i:Nat)(h:bC):Prop:=oY h z l g .none/\iD h l (.ref C) (.ref o)/\(∃u v,iD h g u v)/\n_ t h C a i/\n_ u h o b i
section
variable{K:aq}{st:aY}{t u:Bool}
theorem Oj{i:Nat}(p:Fj t u z l g E C a b i h)(G:c∈[z,l,g,E,C]):∃o,h.get? c=ξ o/\∀v,o.data≠.cell v:=by
 let⟨Q,O,⟨u,v,L⟩,J,I⟩:=p;simp only[a_,cW,or_false]at G;rcases G with e|e|e|e|e<;>subst e
 ·exact⟨_,Q,λv q=>by cases q⟩
 ·exact⟨_,O,λv q=>by cases q⟩
 ·exact⟨_,L,λv q=>by cases q⟩
 ·exact J.obj
 ·exact I.obj
theorem X0{k:Nat}(D:ZipApart z J tO i1 i2 a b):wR P w K (.Tuple es k pos) (CC t u K a b) [z,J,tO,i1,i2] z (Fj t u z J tO i1 i2 a b) where
 mem:=by simp
 obj:=λi h p c l=>Oj p l
 keep:=λi h h' U kp=>by let⟨C,h2,⟨u,v,h3⟩,h4,h5⟩:=U;exact⟨kp z (by simp) _ C,kp J (by simp) _ h2,⟨u,v,kp tO (by simp) _ h3⟩,h4.keep λo e=>kp i1 (by simp) o e,h5.keep λo e=>kp i2 (by simp) o e⟩
 item:=by
  intro X hP hw hK l i G s σ H E I hf p0 hg;let⟨C,h2,⟨u0,v0,h3⟩,h4,h5⟩:=id p0;subst hP hw hK;let⟨xs,ys,x,y,qa,qb,hx,hy⟩:=hg;let⟨its,rv,p⟩:=AY I qa;let⟨its2,L,p2⟩:=AY I qb;let⟨ux,hux,rux⟩:=rv.get hx;let⟨uy,huy,ruy⟩:=L.get hy;let hT:s.TypeIs (.ref z) "zip":=⟨_,C,rfl⟩
  unfold qm;refine aa (iY (cw (name:=al "__next__") hT oz (cR oz hT DJ (QgH D (Af (I.ok.hd l) D.l1i1) (Af (I.ok.hd l) D.l2i2) C h2 h3 ⟨h4,p⟩ ⟨h5,p2⟩ (x:=ux) (y:=uy) (by simpa using hux) (by simpa using huy) λh' g1 g2 g3 g4 g5 g7=>ai ?_) (BR _))));refine⟨_,rfl,wpAny_letOwnedTupleGo_zip g1 λh'' k1 k2=>?_⟩;let zlt:z < ↥s:=aP C;let keep:∀c o,c∉[z,J,tO,i1,i2]->s.heap.get? c=ξ o->h''.get? c=ξ o:=λc o l e=>by simp only[a_,cW,or_false,not_or]at l;exact (k2.2 c l.1).trans (g7 c o l.1 l.2.2.1 l.2.2.2.1 l.2.2.2.2 e)
  let hT:iD h'' ↥s ux uy:=(k2.2 _ (fN zlt)).trans g5;let I2:Inv X G σ (eE H ↥s (.tup [x,y])) { s with heap:=h'',toks:=s.toks }:=Pu (its:=[ux,uy]) I hf keep (aA _) (by show 2<=sizeLine;decide) (.cons rux (.cons ruy .nil)) ⟨_,hT,rfl,⟨_,rfl⟩,rfl⟩;refine⟨.ref ↥s,_,I2,rfl,⟨_,x,y,rfl,I.hok.fresh (aA _),λzs Y=>by rw[L1 I Y qa];exact hx,λzs Y=>by rw[L1 I Y qb];exact hy,rfl⟩,
   ⟨k1,(k2.2 J D.TIz).trans (g7 J _ D.TIz D.TITO D.TIi1 D.TIi2 h2),⟨_,_,(k2.2 tO D.TOz).trans g2⟩,g3.1.keep λo e=>(k2.2 i1 D.i1z).trans e,g4.1.keep λo e=>(k2.2 i2 D.i2z).trans e⟩,λc l=>?_⟩
  let⟨o,eo,_⟩:=Oj p0 l;rw[e8 (bB (aP eo))];exact (hf c l).1
 done:=by
  intro X hP hw hK l i G s σ H E I hf O hg;let⟨C,h2,⟨u,v,h3⟩,h4,h5⟩:=O;subst hP hw hK;let⟨xs,ys,qa,qb,hl⟩:=hg;let⟨its,rv,p⟩:=AY I qa;let⟨its2,L,p2⟩:=AY I qb;let l1:=⇑rv;let l2:=⇑L;let hT:s.TypeIs (.ref z) "zip":=⟨_,C,rfl⟩
  unfold qm;refine aa (iY (cw (name:=al "__next__") hT oz (cR oz hT DJ (WL D (Af (I.ok.hd l) D.l1i1) (Af (I.ok.hd l) D.l2i2) C h2 h3 ⟨h4,p⟩ ⟨h5,p2⟩ ?_ λh' e g ⟨o,q1,q2⟩=>?_) (BR _))))
  ·rcases hl with hl|hl
   ·exact .inl (by simp;ext)
   ·exact .inr (by simp;ext)
  ·refine aa (eV (T:="StopIteration") (b:=θ) ⟨o,q1,q2⟩ vR (ai ⟨rfl,T3 (t':=s.toks) I hf λc o l e=>?_⟩));simp only[a_,cW,or_false,not_or]at l;exact g c o l.1 l.2.2.1 l.2.2.2.1 l.2.2.2.2 e
 self:=λ_ _ _ _ _ Q h=>by let⟨C,_⟩:=Q;exact Ix C h
theorem TH{k:Nat}(a e J:ak)(hei:e≠J):wR P w K (.Tuple es k pos) (De t K a) [e,J] e (λi h=>(∃old,IsEnum h e J i old)/\n_ t h J a i) where
 mem:=by simp
 obj:=λi h pq104 b l=>by
  let⟨⟨old,C⟩,g⟩:=pq104;simp only[a_,cW,or_false]at l;rcases l with z|z<;>subst z
  ·exact⟨_,C,λv q=>by cases q⟩
  ·exact g.obj
 keep:=λi h h' pq105 kp=>by let⟨⟨old,C⟩,g⟩:=pq105;exact⟨⟨old,kp e (by simp) _ C⟩,g.keep λo x=>kp J (by simp) o x⟩
 item:=by
  intro X hP hw hK hc i G s σ H E I hf Q hg;let⟨⟨old,C⟩,g⟩:=Q;subst hP hw hK;let⟨xs,x,hq,hx⟩:=hg;let⟨its,rv,p⟩:=AY I hq;let⟨u,hu,ru⟩:=rv.get hx;let hlt:i < its.toArray.size:=by rw[aG];exact (ac.mp hu).1
  let hae:a≠e:=λz=>by subst z;cases t<;>let⟨o',e2,c',_⟩:=p<;>rw[C]at e2<;>cases e2<;>exact bw (wE c') (by decide)
  refine wpAny_pyNext_enum_itemD (Uf t (prog:=X.prog) (w:=X.w) (A:=X.A.in1) (I.ok.hd hc) (p.ne g) its.toArray) C ⟨g,p⟩ hlt hei (by simp;exact⟨hei,hae.symm⟩) λy h' tk hP ho hst hT hsz hk=>?_;let ey:y=u:=by
   have:its.toArray[i]?=ξ u:=by simpa using hu
   rw[this]at hP;cases hP;rfl
  subst ey;refine⟨_,rfl,wpAny_letOwnedTupleGo_enum ho λh2 he2 hs2=>?_⟩;let L:e < ↥s:=aP C;let hT2:h2.get? ↥s=ξ { cls:=.type "tuple",data:=.seq #[.int i tk,y] }:=(hs2.2 _ (fN L)).trans hT;let I2:Inv X G σ (eE H ↥s (.tup [.int i,x])) { s with heap:=h2,toks:=tk+1 }:=Pu (its:=[.int i tk,y]) I hf (λb o l e1=>by simp only[a_,cW,or_false,not_or]at l;exact (hs2.2 b l.1).trans (hk b o l.1 l.2 e1)) (aA _) (by show 2<=sizeLine;decide) (.cons ⟨tk,rfl⟩ (.cons ru .nil)) ⟨_,hT2,rfl,⟨_,rfl⟩,rfl⟩
  refine⟨.ref ↥s,_,I2,rfl,⟨_,x,rfl,I.hok.fresh (aA _),λys hy=>by rw[L1 I hy hq];exact hx,rfl⟩,⟨⟨y,by simpa using he2⟩,hst.1.keep λo e=>(hs2.2 J hei.symm).trans e⟩,λb l=>?_⟩;rw[e8]
  ·exact (hf b l).1
  ·simp only[a_,cW,or_false]at l;rcases l with z|z<;>subst z
   ·exact bB L
   ·let⟨o,h,_⟩:=g.obj;exact bB (aP h)
 done:=by
  intro X hP hw hK hc i G s σ H E I hf O hg;let⟨⟨old,C⟩,g⟩:=O;subst hP hw hK;let⟨xs,hq,hx⟩:=hg;let⟨its,rv,p⟩:=AY I hq;let⟨g0,g1,g2,g3,g4,g5⟩:=hf J (by simp);let hl:=⇑rv;let hT:s.TypeIs (.ref e) "enumerate":=⟨_,C,rfl⟩
  unfold qm;refine aa (iY (cw (name:=al "__next__") hT xR (cR xR hT F.entry_enumerate_next ?_ (F.args_enumerate_next_1 _))))
  show aF _ _ (vO (.ref e) 2 >>= _) _ _ _;refine aa (cP C rfl (x:=.ref J) rfl ?_);refine aa ((Af (A:=X.A.in1) (I.ok.hd hc) (p.ne g)).done i _ _ _ ⟨g,p⟩ (by simp;ext) λh' x he' Y=>?_);let⟨o,ho,hc'⟩:=Y;exact aa (eV (T:="StopIteration") (b:=θ) ⟨o,ho,hc'⟩ vR (ai ⟨rfl,I.turned (t':=s.toks) (λb o l e=>he' b o l e) g0 g1 g3 g4 g5⟩))
 self:=λ_ _ _ _ _ U h=>by let⟨⟨old,C⟩,_⟩:=U;exact Ey C h
theorem Xn{k:Nat}(hg:Gl X "zip")(hm:X.mg "zip"=ψ)(ha:PA X [a,b] ta)(hs:az [a,b] X.env=[(ω,eval a X.env),(ω,eval b X.env)])(J:az [b] X.env=[(ω,eval b X.env)]):PI X (.Tuple es k G) (.Call (.Name "zip" p) [a,b] [] pos) (λσ H R=>ta σ H λvs E=>∃C z xs ys,vs=[.ref C,.ref z]/\uR t X.K E C xs/\uR u X.K E z ys/\R (CC t u X.K C z) E):=by
 intro l s σ H R I h;refine Call_ (AM I hg hm boot_zip (cU (gH (ha pos l s σ H _ I h) λus g Y=>?_) (by rw[hs,J]) (by rw[J];rfl)));obtain ⟨vs,E,O,r1,q1⟩:=Y;let⟨C,z,xs,ys,e,hx,hy,q⟩:=q1;subst e;cases r1 with|cons r rr=>
  cases rr with|cons r' rr=>
   cases rr;cases r;cases r';let⟨its,rv,p1⟩:=AY O hx;let⟨its2,rv2,p2⟩:=AY O hy;let U:C < ↥g:=by let⟨o,e⟩:=p1.there;exact aP e
   let Q:z < ↥g:=by let⟨o,e⟩:=p2.there;exact aP e
   refine QgP p1 p2 λh' g1 g2 g3 g4 g5 g7=>Ix g1 ?_;let I2:Inv X l σ E { g with heap:=h' }:=O.kept (t':=g.toks) g7;refine⟨↥g+4,[↥g+4,↥g+2,↥g+3,↥g,↥g+1],_,CC t u X.K C z,E,rfl,I2,X0 (zipApart_new U Q),⟨g1,g2,⟨_,_,g3⟩,g4,g5⟩,λb hb=>?_,q⟩;let L:↥g<=b:=by simp only[a_,cW,or_false]at hb;rcases hb with e|e|e|e|e<;>rw[e]<;>ext
   exact O.fpOk L (O.hok.fresh L)
theorem QgW{k:Nat}(hg:Gl X "enumerate")(hm:X.mg "enumerate"=ψ)(ha:PA X [b] L)(hs:az [b] X.env=[(ω,eval b X.env)]):PI X (.Tuple es k o) (.Call (.Name "enumerate" p) [b] [] pos) (λσ H R=>L σ H λvs C=>∃a xs,vs=[.ref a]/\uR t X.K C a xs/\R (De t X.K a) C):=by
 intro l s σ H R I h;refine Call_ (AM I hg hm boot_enumerate (cU (gH (ha pos l s σ H _ I h) λus g J=>?_) hs rfl));obtain ⟨vs,C,E,Y,q1⟩:=J;let⟨a,xs,e,hq,hR⟩:=q1;subst e;let⟨u,rfl,U⟩:=vx Y;cases U;let⟨its,rv,p1⟩:=AY E hq;refine Zv p1 λh' O G kp=>Ey O ?_;let I2:Inv X l σ C { g with heap:=h' }:=E.kept (t':=g.toks) kp;refine⟨↥g+1,[↥g+1,↥g],_,De t X.K a,C,rfl,I2,TH a (↥g+1) ↥g (Nat.succ_ne_self _),⟨⟨_,O⟩,G⟩,λb Q=>?_,hR⟩;let z:↥g<=b:=by simp only[a_,cW,or_false]at Q;rcases Q with e|e<;>rw[e]<;>ext
 exact E.fpOk z (E.hok.fresh z)
def Fi:Bool->D->M (List D×(aY->Prop))
 |true,.tup ds=>ret (ds,e9)|false,.ref n=>bnd (getL n) λds=>ret (ds,ij n ds)|_,_=>bad
theorem ba.sqx{α:Type}{f:List D×(aY->Prop)->M α}{R:α->aY->List ak->Hp->Prop}(p:ba K ρ H (MM.bnd (Fi t d) f st) R)(J:da K ρ H v d)(E:SR K ρ H st):∃a ws ds sm,v=.ref a/\uR t K H a ws/\ba K ρ H (f (ds,sm) st) R/\∀ρ' l g,Ex ρ H ρ' l->SR K ρ' l g->(t=ω->sm g)->∃o,uR t K l a o/\bQ K ρ' l o ds:=by
 cases t
 ·cases d with
  |ref n=>
   obtain⟨a,rfl,L⟩:∃a,v=.ref a/\ρ[n]?=ξ a:=by cases J with|@ref a m _ h=>exact⟨_,rfl,h⟩
   let⟨ds,Y,Q⟩:=ba.getL (ba.bnd (ba.bnd p)) E;let⟨u,vs,C,U,r⟩:=E.seq Y;rw[L]at C;cases C;refine⟨a,vs,ds,ij n ds,rfl,ie.of U,Q.ret E,λρ' l g x s' sm=>?_⟩;let⟨τ,eτ,_⟩:=x.pre;let⟨b1,G,z,I,O⟩:=s'.seq (sm rfl);rw[eτ,GG L]at z;cases z;exact⟨G,ie.of I,O⟩
  |_=>exact p.elim
 ·cases d with
  |tup ds=>
   obtain⟨a,ws,rfl,h,r⟩:∃a ws,v=.ref a/\kZ K H a ws/\bQ K ρ H ws ds:=by cases J with|tup h r=>exact⟨_,_,rfl,h,r⟩
   exact⟨a,ws,ds,e9,rfl,h,(ba.bnd p).ret E,λρ' l g x s' _=>⟨ws,kZ.mono x.up h,r.mono x⟩⟩
  |_=>exact p.elim
def Uk(t u:Bool)(P Q:aY->Prop):aY->Prop:=match t,u with|true,θ=>e9|false,θ=>P|true,ω=>Q|false,ω=>λs=>P s/\Q s
def yZ(t u:Bool)(a b:CE):CI:=λl=>bnd (a l) λx=>bnd (b l) λy=>bnd (Fi t x) λp=>bnd (Fi u y) λq=>ret ⟨p.1.zipWith (λp q=>.tup [p,q]) q.1,Uk t u p.2 q.2⟩
def vD(t:Bool)(a:CE):CI:=λl=>bnd (a l) λx=>bnd (Fi t x) λp=>ret ⟨(ib 0 ⇑p.1).zipWith (λi d=>.tup [i,d]) p.1,p.2⟩
theorem Qb{k:Nat}(t u:Bool)(hg:Gl X "zip")(hm:X.mg "zip"=ψ)(h:SE X a fa)(h':SE X b fb)(he1:az [a,b] X.env=(ω,eval a X.env)::az [b] X.env)(he2:az [b] X.env=(ω,eval b X.env)::az [] X.env)(hs:az [a,b] X.env=[(ω,eval a X.env),(ω,eval b X.env)]) (hs2:az [b] X.env=[(ω,eval b X.env)]):SI X (.Tuple es k I) (.Call (.Name "zip" p) [a,b] [] pos) (yZ t u fa fb):=
 (Xn (t:=t) (u:=u) hg hm (qy h (qy h' ua he2) he1) hs hs2).of λσ H R h_=>h_.el λρ l st lr sr p=>⟨ρ,l,st,lr,sr,p.bnd.imp λd Y ρ1 H1 x1 s1 p1 v rv=>⟨ρ1,l,Y,lr.mono x1,s1,p1.bnd.imp λe st2 ρ2 H2 x2 s2 p2 w rw'=>by
  let⟨a1,ws,ds,sm,rfl,q1,p3,L⟩:=ba.sqx p2 (rv.mono x2) s2;let⟨a2,U,G,sm2,rfl,q2,p4,J⟩:=ba.sqx p3 rw' s2;refine⟨a1,a2,ws,U,rfl,q1,q2,p4.ret s2 _ ?_⟩;intro ρ3 H3 st3 x3 s3 sm3;let⟨o,E,r3⟩:=L ρ3 H3 st3 x3 s3 λe=>by subst e;cases u<;>first|exact sm3.1|exact sm3
  let⟨g,C,r4⟩:=J ρ3 H3 st3 x3 s3 λe=>by subst e;cases t<;>first|exact sm3.2|exact sm3
  let l1:=⇑r3;let l2:=⇑r4;refine⟨⟨o,g,E,C,?_⟩,λi d hd=>?_⟩
  ·show ⇑o<=⇑(ds.zipWith _ G)\/⇑g<=⇑(ds.zipWith _ G);rw[kY];ext
  ·rw[fo]at hd;cases O:ds[i]? with|none=>rw[O]at hd;cases hd|some d1=>
    cases u:G[i]? with|none=>rw[O,u]at hd;cases hd|some d2=>
     rw[O,u]at hd;let ed:d=.tup [d1,d2]:=(aO hd).symm;subst ed;let⟨v1,L,l⟩:=r3.get O;let⟨v2,J,h⟩:=r4.get u;refine⟨⟨o,g,v1,v2,E,C,L,J⟩,λy H4 z=>?_⟩;let⟨T,x,y',ey,U,hx,Y,eH⟩:=z;subst ey eH;let I:=hx o E;let H:=Y g C;rw[L]at I;cases I;rw[J]at H;cases H;let Q:Ex ρ3 H3 ρ3 (eE H3 T (.tup [v1,v2])):=Ex.new U;exact⟨Q,s3.new U,.tup (kZ.of ik) (.cons (l.mono Q) (.cons (h.mono Q) .nil))⟩⟩⟩
theorem Ov{k:Nat}(t:Bool)(hg:Gl X "enumerate")(hm:X.mg "enumerate"=ψ)(h:SE X b fa)(O:az [b] X.env=[(ω,eval b X.env)]):SI X (.Tuple es k o) (.Call (.Name "enumerate" p) [b] [] pos) (vD t fa):=
 (QgW (t:=t) hg hm (qy h ua O) O).of λσ H R h_=>h_.el λρ l st lr u p=>⟨ρ,l,st,lr,u,p.bnd.imp λd Y ρ1 H1 x1 L p1 v C=>by
  let⟨a1,ws,ds,sm,rfl,q1,p3,k1⟩:=ba.sqx p1 C L;refine⟨a1,ws,rfl,q1,p3.ret L _ ?_⟩;intro ρ2 H2 st2 x2 s2 sm2;let⟨vs,E,r⟩:=k1 ρ2 H2 st2 x2 s2 λ_=>sm2;let hl:=⇑r;let len:⇑((ib 0 ⇑ds).zipWith (λi d=>D.tup [i,d]) ds)=⇑ds:=by simp[ib]
  refine⟨⟨vs,E,by rw[len,hl];exact aA _⟩,λi d I=>?_⟩;let G:i < ⇑ds:=by rw[<- len];exact (ac.mp I).1
  let ed:d=.tup [.int i,ds[i]]:=by rw[fo,ib,ar,d_ G,ag G]at I;have:=aO I;rw[<- this];simp
  subst ed;let⟨v,z,C⟩:=r.get (ag G);refine⟨⟨vs,v,E,z⟩,λy H3 g=>?_⟩;let⟨T,w,ey,Q,hw,eH⟩:=g;subst ey eH;let U:=hw vs E;rw[z]at U;cases U;let J:Ex ρ2 H2 ρ2 (eE H2 T (.tup [.int i,v])):=Ex.new Q;exact⟨J,s2.new Q,.tup (kZ.of ik) (.cons ↑_ (.cons (C.mono J) .nil))⟩⟩
theorem Ce{α β:Type}{m:M α}{f g:α->M β}(h:∀x s,f x s=g x s):bnd m f s=bnd m g s:=by unfold bnd;cases m s<;>first|rfl|exact h _ _
theorem Zo:uP fa fb=yZ θ θ fa fb:=by
 funext l s;refine Ce λx s=>Ce λy s=>?_;cases x<;>first|rfl|skip
 cases y<;>rfl
theorem Z2{α:Type}{n:Nat}{f:List D->M α}(h:∀ds s,f ds s=.bad)(s:aY):.bad=bnd (getL n) f s:=by
 unfold bnd getL;cases s[n]? with|none=>rfl|some o=>cases o<;>first|rfl|exact (h _ _).symm
theorem Zw:uO fa=vD θ fa:=by funext l s;refine Ce λx s=>?_;cases x<;>rfl
theorem V7:qg fa=vD ω fa:=by
 funext l s;refine Ce λx s=>?_;cases x<;>first|rfl|skip
 rename_i n
 show bnd (getL n) _ s=bnd (bnd (getL n) _) _ s;unfold bnd;cases getL n s<;>rfl
end
end MM
namespace PySem.F
theorem nolen_lri:cv (.type "list_reverseiterator") "__len__"=pure none:=by rw[JN,zX];kernel_rfl
theorem hint_lri:cv (.type "list_reverseiterator") "__length_hint__"=pure (ξ (.builtin "list_reverseiterator.__length_hint__")):=by rw[JN,zX];kernel_rfl
end PySem.F
namespace MM
open PySem PySem.Spec PyProof.Rows L2
section
variable{A:bx}{s:aj}
theorem ZH{Q:Bool->aj->Prop}(o:s.TypeIs (.ref r) "list_reverseiterator")(h:Q ω s):aF (aW prog w) A (pI (.ref r)) Q E s:=by
 unfold pI;refine aa (i8 o PySem.F.nolen_lri ?_)
 show aF _ A (qK (aC r) (al "__length_hint__") >>= _) _ _ _;refine aa (i8 o PySem.F.hint_lri ?_);generalize g:("list_reverseiterator.__length_hint__":String)=l
 wp_delta
 rw[show splitId l=ξ ("list_reverseiterator","__length_hint__") from by subst g;decide +kernel];subst g;refine aa (eV (b:=θ) o (by rw[vS];kernel_rfl) ?_);exact ai h
theorem TF{R:Result->aj->Prop}{I l:ak}{items:Array ae}(hh:A.handled=ψ)(u:s.heap.IsRevIter I l ((items.size:Int)-1))(hl:s.heap.IsList l items)(J:l≠I)(S:ak)(G:S≠I)(O:S≠l)(res:ae)(c₀:Nat)(hS:s.heap.get? S=ξ { cls:=.type "list",data:=.seq #[] c₀ })(hR:∀h' tk g z,(∀b o,b≠S->b≠I->s.heap.get? b=ξ o->h'.get? b=ξ o)->h'.get? S=ξ { cls:=.type "list",dict:=ψ,data:=.seq g z,slots:=#[] }->ItemsOf (λi v=>items[items.size-1-i]?=ξ v) g items.size->R (.ok (.ret res)) { s with heap:=h',toks:=tk }) (hn:items.size<=sizeLine):aF (aW prog w) A.in1 (gF (.ref S) (.ref I) res) (λY s'=>match Y with | .done f=>R (.ok f) s' | .again z=>z.quiet=θ/\l_ (aW prog w) A z R s') (λe s'=>R (.error e) s') s:=by
 let W:=Walks.listRev (prog:=prog) (w:=w) (A:=A.in1) hh I l J items;let Q:S∉[I,l]:=by simp only[a_,cW,or_false,not_or];exact⟨G,O⟩
 let H:0<=items.size/\s.heap.IsRevIter I l ((items.size:Int)-1-((0:Nat):Int))/\s.heap.IsList l items:=⟨bn _,by rw[show (items.size:Int)-1-((0:Nat):Int)=(items.size:Int)-1 by ext];exact u,hl⟩
 unfold gF;refine aa (eY u.typeIs ?_);let h1:qL (.ref S) (.ref I)=false:=by simp[qL,G]
 rw[aB (by rw[h1];decide)];refine aa (wpAny_pyIter_revIter u ?_);refine aa (bT (ZH u.typeIs ?_));rw[aB (by decide)];refine ai ⟨xq PySem.F.plain_extend_loop _,codeAny_extend_loopS W.toS hn S Q res items.size 0 _ #[] c₀ rfl (bn _) H hS (ItemsOf.nil _) λs' g z E U C=>?_⟩;rw[Moved.eq_with E];refine hR s'.heap s'.toks g z (λb o hb L e=>E.heap b o (λh=>?_) e) U C;rcases a_.mp h with e'|h
 ·exact hb e'
 ·exact L (aD.mp h)
theorem Qg6{Q:ae->aj->Prop}{items:Array ae}(hh:A.handled=ψ)(z:s.heap.IsRevIter I l ((items.size:Int)-1))(Y:s.heap.IsList l items)(H:l≠I)(hn:items.size<=sizeLine)(hQ:∀h' tk g U,(∀b o,b≠I->s.heap.get? b=ξ o->h'.get? b=ξ o)->h'.get? ↥s=ξ { cls:=.type "list",dict:=ψ,data:=.seq g U,slots:=#[] }->ItemsOf (λi v=>items[items.size-1-i]?=ξ v) g items.size->Q (.ref ↥s) { s with heap:=h',toks:=tk }):aF (aW prog w) A (call (.type "list") [.ref I]) Q E s:=by
 refine callType_codes (Q₁:=λobj s₁=>obj=.ref ↥s/\s₁={ s with heap:=s.heap.push { cls:=.type "list",data:=.seq #[] } }) PySem.F.called_list (PySem.F.typeCall_list_1 _) PySem.F.entry_list_init
  (code_list_new _ ⟨rfl,rfl⟩) λobj s₁ h₁=>?_
 let⟨rfl,rfl⟩:=h₁;let G:(s.heap.push { cls:=.type "list",data:=.seq #[] }).get? ↥s=ξ { cls:=.type "list",data:=.seq #[] }:=aM _ rfl;let hI:I < ↥s:=by obtain ⟨_,e,_⟩:=z;exact aP e
 let hL:l < ↥s:=by obtain ⟨_,e,_⟩:=Y;exact aP e
 let u:(s.heap.push { cls:=.type "list",data:=.seq #[] }).IsRevIter I l ((items.size:Int)-1):=by obtain ⟨o,e,x⟩:=z;exact ⟨o,av _ e,x⟩
 let J:(s.heap.push { cls:=.type "list",data:=.seq #[] }).IsList l items:=by obtain ⟨o,e,x⟩:=Y;exact ⟨o,av _ e,x⟩
 refine⟨⟨_,G,rfl⟩,PySem.F.args_list_init_2 _ _,?_⟩
 show aF _ A.in1.in1 (do let old <- rp (.ref ↥s);Builtin.List.listUpdate (.ref ↥s) (λ_=>#[]);letGo old.toList.reverse;gF (.ref ↥s) (.ref I) .none) _ _ _;refine aa ?_;unfold rp;refine aa (eL G rfl (ai ?_))
 show aF _ _ (updateSeq ↥s (λ_=>#[]) >>= λ_=>letGo (#[]:Array ae).toList.reverse >>= λ_=>gF (.ref ↥s) (.ref I) .none) _ _ _;refine aa (wpAny_updateSeq G rfl ?_);let hS₂:=bS (eS (λ_=>(#[]:Array ae))) G rfl;let h:∀b o,b≠↥s->(s.heap.push { cls:=.type "list",data:=.seq #[] }).get? b=ξ o->((s.heap.push { cls:=.type "list",data:=.seq #[] }).update ↥s (eS (λ_=>(#[]:Array ae)))).get? b=ξ o:=
  λb o hb e=>(dA _ _ (du hb)).trans e
 refine aa (qq ?_);refine TF (A:=A.in1) hh (by obtain ⟨o,e,x⟩:=u;exact ⟨o,h _ _ (bB hI) e,x⟩) (by obtain ⟨o,e,x⟩:=J;exact ⟨o,h _ _ (bB hL) e,x⟩) H ↥s (fN hI) (fN hL) .none _ hS₂ (λh' tk g U hk O C=>?_) hn;exact⟨rfl,hQ h' tk g U (λb o L e=>hk b o (bB (aP e)) L (h b o (bB (aP e)) (av _ e))) O C⟩
end
theorem Z7{vs:List ae}(h:ItemsOf (λi v=>vs.toArray[vs.toArray.size-1-i]?=ξ v) g vs.toArray.size):g=vs.reverse.toArray:=by
 apply Iy;apply d7;intro i;let z:g.size=⇑vs:=by have:=h.1;simpa using this
 by_cases u:i < ⇑vs
 ·let o:g[i]?=ξ (g[i]'()):=lV ();let l:=h.2 i _ o;rw[ff,o];simp only[List.getElem?_toArray,aG]at l;rw[List.getElem?_reverse u];exact l.symm
 ·rw[bE (by simp;ext),bE (by simp;ext)]
theorem bX.reverse(h:bX xs g):bX xs.reverse g.reverse:=by
 induction h with|nil=>exact .nil|cons r t ih=>rw[fK,fK];exact L2.bX.append ih (.cons r .nil)
section
variable{X:Cx}{a b c e o tg:Expr}{pos em cy b3 p p':Pos}{ca cb:CA}{K:aq}{ρ:List ak}{H:Hp}{st:aY}
theorem Qg8(hc:X.calm=θ)(hg:Gl X "list")(hm:X.mg "list"=ψ)(hv:b5 "list"=ξ (.type "list"))(hg2:Gl X "reversed")(U:X.mg "reversed"=ψ)(O:b5 "reversed"=ξ (.type "reversed"))(ha:PE X e te)(he:az [e] X.env=[(ω,eval e X.env)]:=by rfl) (z:az [.Call (.Name "reversed" p') [e] [] em] X.env=[(ω,eval (.Call (.Name "reversed" p') [e] [] em) X.env)]:=by rfl):
  PE X (.Call (.Name "list" p) [.Call (.Name "reversed" p') [e] [] em] [] pos) (λσ H Q=>te σ H λx J=>∃a xs,x=.ref a/\ie X.K J a xs/\∀q,J q=ψ->Q (.ref q) (eE J q (.lst xs.reverse))):=by
 intro g s σ H Q I h;refine fG (AM I hg hm hv ?_ (by decide) (by decide));refine cU ?_ z rfl;rw[z]
 show aF _ _ (En [(ω,eval (.Call (.Name "reversed" p') [e] [] em) X.env)]) _ _ s;refine pB ?_;refine fG (AM I hg2 U O ?_ (by decide) (by decide));refine cU ?_ he rfl;rw[he]
 show aF _ _ (En [(ω,eval e X.env)]) _ _ s;refine pB (gH (ha g s σ H _ I h) λu E zz=>?_);let⟨x,J,G,r1,a,xs,ex,hx,q⟩:=zz;refine qo ?_;subst ex;cases r1;let⟨its,rv,L,hz⟩:=G.list hx;let hlen:=⇑rv;refine call_reversed_list L.isList (qo ?_);let Y:a < ↥E:=by obtain ⟨_,e,_⟩:=L.isList;exact aP e
 refine Qg6 (l:=a) (items:=its.toArray) (G.ok.hd hc) ⟨_,aM _ rfl,rfl,rfl⟩ (by obtain ⟨o,e,x⟩:=L.isList;exact ⟨o,av _ e,x⟩) (bB Y) (by simp only[aG];ext) λh' tk acc c hk hS C=>?_;rw[Z7 C]at hS;let kp:∀b u,E.heap.get? b=ξ u->h'.get? b=ξ u:=λb u e=>hk b u (bB (aP e)) (av _ e);let hp:↥E<=(E.heap.push (revObj a ((its.toArray.size:Int)-1))).objs.size:=by simp[zY]
 refine⟨.ref _,_,G.laid (t':=tk) (o:=.lst xs.reverse) kp hp ?_,rfl,q _ (G.hok.fresh hp)⟩;exact⟨by rw[kX];exact hz,its.reverse,c,rv.reverse,hS⟩
theorem VC(hc:X.calm=θ)(hg:Gl X "list")(hm:X.mg "list"=ψ)(C:b5 "list"=ξ (.type "list"))(G:Gl X "reversed")(E:X.mg "reversed"=ψ)(u:b5 "reversed"=ξ (.type "reversed"))(O:SL X e ca)(he:az [e] X.env=[(ω,eval e X.env)]:=by rfl) (I:az [.Call (.Name "reversed" p') [e] [] em] X.env=[(ω,eval (.Call (.Name "reversed" p') [e] [] em) X.env)]:=by rfl):
  SL X (.Call (.Name "list" p) [.Call (.Name "reversed" p') [e] [] em] [] pos) (xZ ca):=
 (Qg8 hc hg hm C G E u O he I).of λσ H Q h_=>h_.el λρ l st lr Y p=>⟨ρ,l,st,lr,Y,p.bnd0.imp λds U ρ1 H1 J L p1 a vs O na C h=>by
  refine⟨a,vs,rfl,ie.of C,λq g=>?_⟩;let hn:H q=none:=by
   cases z:H q with|none=>rfl|some o=>exact bw g (J.trk q o z)
  exact p1 ρ1 _ (J.trans (Ex.new g)) (L.new g) q _ hn (L.fresh g) ik ((bQ.rev h).mono (Ex.new g))⟩
theorem bQ.rep(h:bQ K ρ H vs ds):∀k:Nat,bQ K ρ H (aE k vs).flatten (aE k ds).flatten
 |0=>.nil|k+1=>by rw[c_,c_,fL,fL];exact bQ.app h (bQ.rep h k)
theorem Qha(U:SL X a ca)(hb:SE X b fb):SL X (.BinOp a .Mult b pos) (oH ca fb):=
 (Qh XY U hb).of λσ H Q h_=>h_.el λρ l st O sr p=>⟨ρ,l,st,O,sr,p.bnd0.imp λds I ρ1 H1 G s1 p1 a vs U na hv h=>⟨ρ1,l,I,O.mono G,s1,((p1.bnd0.left G)).imp λe Y ρ2 H2 E J L u ru=>by
  cases e with
  |int k=>
   cases (show u=.int k from ru.inv);let⟨⟨⟨h1,h2⟩,h3⟩,p3⟩:=ba.chk L;refine⟨a,k,vs,rfl,rfl,E.lst a vs na hv,h1,h2,by rw[⇑h];exact h3,λq C=>?_⟩;let g:=G.trans E;let hn:H q=none:=by
    cases z:H q with|none=>rfl|some o=>exact bw C (g.trk q o z)
   exact p3 ρ2 _ (g.trans (Ex.new C)) (J.new C) q _ hn (J.fresh C) ik ((bQ.rep (h.mono E) k.toNat).mono (Ex.new C))
  |_=>exact L.elim⟩⟩
theorem XA:SE X (.Dict [] [] pos) (rK ω):=X9.of λσ H Q g q u=>by let⟨ρ,l,st,z,h,p⟩:=g;have p':∀ρ' H',Ex ρ H ρ' H'->SR X.K ρ' H' (st++[.dct ω []])->∀v,da X.K ρ' H' v (.dic ⇑st)->Q v H':=p;refine p' (ρ++[q]) _ (Ex.newO u) ((h.new u).keepO (h.fresh u) ⟨[],ik,.nil⟩) _ (.dic ⟨_,ik,.inl rfl⟩ ?_);rw[<- h.len];simp
def Dp(X:Cx):TE:=λ_ H Q=>∀p,H p=ψ->Q (.ref p) (eE H p (nY p []))
theorem Qhc:PE X (.Dict [] [] pos) (Dp X):=λg s σ H Q I h=>
 Ir ⟨.ref ↥s,_,I.laid (a:=↥s) (o:=nY ↥s []) (t':=s.toks) (λ_ _ q=>av _ q) (aA _)
  (Gb (P:=X.prog) (w:=X.w) (xs:=[]) (bn _) (beq_eq_false_iff_ne.mpr (du (bB I.big))) .nil (uq s.heap) ⟨_,_,aM _ rfl,rfl⟩),rfl,h _ (I.hok.fresh (aA _))⟩
theorem Vc:SE X (.Dict [] [] pos) (rK θ):=Qhc.of λσ H Q g q u=>by let⟨ρ,l,st,z,h,p⟩:=g;have p':∀ρ' H',Ex ρ H ρ' H'->SR X.K ρ' H' (st++[.dct θ []])->∀v,da X.K ρ' H' v (.dic ⇑st)->Q v H':=p;refine p' (ρ++[q]) _ (Ex.newO u) ((h.new u).keepO (h.fresh u) ⟨[],ik,.nil⟩) _ (.dic ⟨_,ik,.inr rfl⟩ ?_);rw[<- h.len];simp
def F2(X:Cx)(pos:Pos)(keys:List (Option Expr))(g:List Expr)(ks:List Key)(ca:CA):Prop:=∃h,Fe X pos keys g h /\
 ∀σ H(Q:List (V×V)->Hp->Prop),(∃ρ l st,LR X.K ρ H σ l/\SR X.K ρ H st/\ba X.K ρ H (ca l st) λds _ ρ' z=>⇑ks=⇑ds/\∀vs,bQ X.K ρ' z vs ds->Q ((ks.zip vs).map λu=>(kV u.1,u.2)) z)->tX h σ H Q
theorem UK:F2 X pos [] [] [] bb:=⟨[],Qdh,λσ H Q h=>h.el λρ l st u g p=>(p.ret g).2 [] .nil⟩
theorem YG{j:Nat}(hv:SE X v fa)(hr:F2 X pos ks vs z ca):F2 X pos (ξ (.Constant (.str x) j b3)::ks) (v::vs) (.inr x::z) (au fa ca):=by
 let⟨G,h1,h2⟩:=hr;refine⟨_,ZN Sh hv h1,λσ H Q h_=>h_.el λρ l st u J p=>?_⟩;refine⟨ρ,l,st,u,J,p.bnd.imp λd g ρ1 H1 E O o v U=>h2 _ _ _ ⟨ρ1,l,g,u.mono E,O,o.bnd.imp λds I ρ2 H2 C L Y=>?_⟩⟩;let⟨hl,q⟩:=Y.ret L;refine⟨by simpa using hl,λvs h=>?_⟩;exact q (v::vs) (.cons (U.mono C) h)
theorem KR.zip:∀{ks:List Key}{vs:List V}{ds:List D},bQ K ρ H vs ds->KR K ρ H (ks.zip vs) ((ks.map n8).zip ds)
 |[],_,_,_=>.nil|k::ks,_,_,.nil=>.nil|k::ks,_,_,.cons r t=>.cons ⟨rfl,r⟩ (KR.zip t)
theorem KR.merge{es:List (Key×V)}(h:KR K ρ H more rs)(q:KR K ρ H es g):KR K ρ H (lQ es more) (uD g rs):=by
 unfold KR at h
 induction h generalizing es g with|nil=>exact q|@cons p q' ps qs h t ih=>
  let z:=KR.put q p.1 h.2;rw[h.1]at z
  show KR K ρ H (lQ (L2.mD es p.1 p.2) ps) (uD (i6 g q'.1 q'.2) qs);exact ih z
theorem Xb(h : F2 X pos keys g ks ca)(U : keys.all (·.isSome) = θ := by rfl)(hl : ⇑keys = ⇑g := by rfl)(h0 : keys ≠ [] := by simp)(h15 : ⇑keys <= 15 := by decide)(hk : ⇑ks <= 15 := by decide):
  SE X (.Dict keys g pos) (uQ (ks.map n8) ca):=by
 let⟨trs,h1,h2⟩:=h;refine (Tp h1 U hl h0 h15).of λσ H Q ⟨ρ,l,st,lr,sr,p⟩ q I=>h2 _ _ _ ?_;let hn:=sr.fresh I;refine⟨ρ,l,st,lr.mono (Ex.new I),sr.new I,(p.bnd0.left (Ex.new I)).imp λds E ρ1 Y J s1 p1=>?_⟩;let⟨C,p2⟩:=ba.chk p1;rw[af]at C;let G:Y q=ξ (.dK []):=J.oth q _ hn ik;refine⟨C,λvs rvs=>⟨G,ks.zip vs,rfl,by simp;ext,?_⟩⟩;let ne:∀b o,H b=ξ o->b≠q:=λb o e z=>by rw[z,I]at e;cases e
 let O:q∉ρ1:=by
  let⟨τ,e,f⟩:=J.pre;rw[e];intro z;rcases aS.mp z with z|z
  ·exact hn z
  ·have:=f q z;rw[ik]at this;cases this
 let up:Up ρ1 Y ρ1 (eE Y q (.dK (lQ [] (ks.zip vs)))):=by
  refine⟨⟨[],by simp⟩,λc o no w=>?_,λc o w=>?_⟩
  ·rw[e8 λz=>by subst z;rw[G]at w;cases w;cases no];exact w
  ·by_cases z:c=q
   ·subst z;rw[G]at w;cases w;exact⟨_,ik,rfl⟩
   ·exact⟨o,by rw[e8 z];exact w,rfl⟩
 let s2:SR X.K ρ1 (eE Y q (.dK (lQ [] (ks.zip vs)))) E:=⟨s1.len,s1.nd,λn b o e1 e2=>rO.mono (o:=o) up (s1.ob n b o e1 e2) λu w=>by rw[e8 (λ(z:b=q)=>O (by rw[<- z];exact aJ e1))];exact w⟩
 let x2:Ex ρ H (ρ1++[q]) (eE Y q (.dK (lQ [] (ks.zip vs)))):=by
  let⟨τ,e,f⟩:=J.pre;refine⟨⟨τ++[q],by rw[e,bF],λb L=>?_⟩,λb o no e=>?_,λb o nb e=>?_,λb o e=>?_⟩
  ·rcases aS.mp L with L|L
   ·let z:=f b L;by_cases w:b=q
    ·subst w;exact I
    ·rw[e8 w]at z;exact z
   ·rw[aD]at L;rw[L];exact I
  ·rw[e8 (ne b o e)];exact J.fix b o no (by rw[e8 (ne b o e)];exact e)
  ·rw[e8 (ne b o e)];exact J.oth b o nb (by rw[e8 (ne b o e)];exact e)
  ·let⟨o',h,g⟩:=J.knd b o (by rw[e8 (ne b o e)];exact e);exact⟨o',by rw[e8 (ne b o e)];exact h,g⟩
 let p3:∀ρ' H',Ex ρ H ρ' H'->SR X.K ρ' H' (E++[.dct ω (uD [] ((ks.map n8).zip ds))])->∀v,da X.K ρ' H' v (.dic ⇑E)->Q v H':=p2;refine p3 _ _ x2 (s2.keepO O ⟨_,ik,KR.merge (KR.zip (rvs.up up)) .nil⟩) _ (.dic ⟨_,ik,.inl rfl⟩ ?_);rw[<- s1.len];simp
end



































end MM
namespace MM
open PySem PyProof.Rows L2
section
variable{prog:Program}{w:bJ}{K:Type}[DecidableEq K]{knd:vN prog w K}{A:bx}{s:aj}{k:K}{xs:List (K×ak×ae)}
theorem Qhi{dflt:ae}{Q:ae->aj->Prop}(hu:knd.room A)(g:knd.is s.heap k a) (hm:s.heap.DictOfH knd d xs) (hp:sI s.heap d ⇑xs) (hsz:⇑xs<=sizeLine)(h1:∀p,lB xs k=ξ p->Q p.2 { s with toks:=s.toks+knd.draws k })(h2:lB xs k=ψ->∀h',h'.DictOfH knd d (lp xs k a dflt)->sI h' d ⇑(lp xs k a dflt)->dP d s.heap h'->Q dflt { s with heap:=h',toks:=s.toks+knd.draws k }):aF (aW prog w) A (vT d (.ref a) dflt) Q E s:=by
 let⟨o,es,ep,h,hc,hd,I,G,L⟩:=hm;let⟨o',es',u,H⟩:=hp;rw[h]at u;cases u;rw[hd]at H;cases H;unfold vT;refine bT ?_;refine aa (knd.pyHash hu g ?_);refine aa (BO (s:={ s with toks:=s.toks+knd.draws k }) hu g h hd I G L (λC=>?_) λj p O=>?_)
 ·let z:k∉xs.map (·.1):=BP C;let U:=Eu C;let J:=storedH_new (a:=a) (v:=dflt) U;let o:=lT I;refine aa (eK (aa (Ba (hz:=by ext) (s:={ s with toks:=s.toks+knd.draws k }) h hd (ai
   (h2 U _ ⟨_,_,_,bS _ h (gu (dY hd _)),hc.mapDictKeys _,dY hd _,?_,?_,?_⟩ ?_ (b7 ..))))))
  ·rw[J];simp[I,oJ]
  ·rw[J];intro x l;rcases aS.mp l with l|l
   ·exact knd.keeps (G x l) h hd (b7 ..)
   ·cases aD.mp l;exact knd.keeps g h hd (b7 ..)
  ·rw[J,aV,d6];refine⟨L,by simp,λx l y Y=>?_⟩;cases aD.mp Y;exact λe=>z ((show x=k from e) ▸ l)
  ·rw[J,aK];exact⟨_,_,bS _ h (gu (dY hd _)),dY hd _⟩
 ·refine aa (kD (s:={ s with toks:=s.toks+knd.draws k }) h hd ?_);rw[entry_at I j,O];exact aa (eK (ai (h1 p (atKey_of_get L O))))
theorem V5(hd:(d == dB)=ω)(dflt:ae):MeetsIn prog w (Builtin.«dict.setdefault» ⟨[.ref d,.ref a,dflt],[]⟩) (λA R s=>knd.room A.in1/\∃k xs,knd.is s.heap k a/\s.heap.DictOfH knd d xs/\sI s.heap d ⇑xs/\⇑xs<=sizeLine /\(∀p,lB xs k=ξ p->R (.ok (.ret p.2)) { s with toks:=s.toks+knd.draws k }) /\(lB xs k=ψ->∀h',h'.DictOfH knd d (lp xs k a dflt)->sI h' d ⇑(lp xs k a dflt)->dP d s.heap h'->R (.ok (.ret dflt)) { s with heap:=h',toks:=s.toks+knd.draws k })):=
 .of_wp λA R s z=>by
  let⟨hu,k,xs,g,C,o,hz,I,H⟩:=z;unfold Builtin.«dict.setdefault»;refine aa ?_;unfold Builtin.Dict.keyAndDefault;refine aa (pH C.typeIs ?_)
  show aF _ _ (pure (d,aC a,ξ dflt)) _ _ s;refine ai ?_
  show aF _ _ (if (d == dB)=θ then _ else (vT d (.ref a) dflt >>= _)) _ _ s;rw[aB (by rw[hd];exact bc)];exact aa (Qhi hu g C o hz (λp o=>ai ⟨p.2,rfl,I p o⟩) λG h' u l h=>ai ⟨dflt,rfl,H G h' u l h⟩)
end
section
variable{st:aY}
theorem US{n:Nat}{Q:ae->aj->Prop}{A:bx}(hu:A.units+2 < cO)(I:Inv X ah σ H s)(sr:SR X.K ρ H st)(ha:ρ[n]?=ξ a)(hn:st[n]?=ξ (.dct θ g))(rk:da X.K ρ H y k) (hk:oW θ k=θ) (hl:⇑g < sizeLine) (rv:da X.K ρ H v d) (ry:RelV y u) (rr:RelV v L)(h1:∀d',kR g k=ξ d'->∀C w' s',Inv X ah σ H s'->da X.K ρ H C d'->RelV C w'->Q w' s')(h2:kR g k=ψ->∀H' s',Inv X ah σ H' s'->SR X.K ρ H' (st.set n (.dct θ (i6 g k d)))->Ex ρ H ρ H'->Q L s'):aF (aW X.prog X.w) A (call (.builtin "dict.setdefault") [.ref a,u,L]) Q E s:=by
 let Y:=(ac.mp hn).1;let⟨es,e,r⟩:=sr.ob n a _ ha hn;let⟨k,rfl⟩:=DP hk;let⟨_,hd,xs,O,dd,de⟩:=zQ I e r;let⟨c,e2,e3,hc⟩:=Dh I rk ry;subst e2 e3;let w:=sr.putO (o':=.dct θ (i6 g (tq k) d)) (u':=nY a (putN es k c v)) Y ha e (by show (2:Nat)≠3;decide) rfl ⟨_,ik,(NR.put r k c rk rv).up ?_⟩
 ·let hz : ⇑xs <= sizeLine := by rw[<- dZ O,NR.length r];ext
  let l:=NR.val r k;let h:=NX.val O k;refine call_meetsIn xt dd.typeIs F.entry_dict_setdefault (F.args_dict_setdefault_3 _ _ _) (V5 (knd:=Bz X) hd L) ⟨show A.in1.units+1 < cO from hu,k,xs,hc,dd,de,hz,λp U=>?_,λU h' J o u=>?_⟩
  ·rw[U]at h;cases G:valN es k with|none=>rw[G]at h;exact h.elim|some C=>
    rw[G]at l h;cases el:kR g (tq k) with|none=>rw[el]at l;exact l.elim|some d'=>
     rw[el]at l;exact h1 d' el C p.2 _ (I.tok _) l h
  ·rw[U]at h;cases G:valN es k with|some C=>rw[G]at h;exact h.elim|none=>
    rw[G]at l;cases el:kR g (tq k) with|some d'=>rw[el]at l;exact l.elim|none=>
     refine h2 el _ _ ?_ w.1 w.2;let E:∃q,h'.get? a=ξ q:=by obtain ⟨q,_,_,z,_⟩:=J;exact ⟨q,z⟩
     refine DU I (by rw[e];exact dS) u E (Gb ?_ hd (NX.put O k c rr) J o);have:=MA es k c v;rw[NR.length r]at this;ext
 ·refine⟨⟨[],by simp⟩,λc o no q=>?_,λc o q=>?_⟩
  ·rw[e8 λz=>by subst z;rw[e]at q;cases q;cases no];exact q
  ·by_cases z:c=a
   ·subst z;rw[e]at q;cases q;exact⟨_,ik,rfl⟩
   ·exact⟨o,by rw[e8 z];exact q,rfl⟩
end
open PySem.W
section
variable{A:bx}{s:aj}{d it:ak}{es:Array kl}{ep i:Nat}
noncomputable def qR(h:bC)(d:ak)(es:Array kl)(ep:Nat):Prop:=∃o,h.get? d=ξ o/\o.ExactDict/\o.data=.dict es ep
theorem qR.typeIs(x:qR s.heap d es ep):s.TypeIs (.ref d) "dict":=by let⟨o,g,c,_⟩:=x;exact⟨o,g,c.1⟩
theorem qR.keep{h h':bC}(x:qR h d es ep)(k:∀o,h.get? d=ξ o->h'.get? d=ξ o):qR h' d es ep:=by let⟨o,g,r⟩:=x;exact⟨o,k o g,r⟩
theorem qR.lt(x:qR h d es ep):d < h.objs.size:=by let⟨o,g,_⟩:=x;exact aP g
theorem Qhl{Q:ae->aj->Prop}(hd:(d == dB)=ω)(x:qR s.heap d es ep)(q:Q (.ref ↥s) { s with heap:=s.heap.push { cls:=.type "dict_keyiterator",data:=.fields #[.ref d,.int 0 0,.int es.size 0,.int ep 0] } }):aF (aW prog w) A (DA (.ref d)) Q E s:=by
 let T:=x.typeIs;let⟨o,g,c,h⟩:=x;refine wpAny_pyIter_slot T DK (cR DK T F.entry_dict_iter ?_ (F.args_dict_iter_1 _));unfold Builtin.«dict.__iter__» Builtin.Dict.dictSlotNone;refine aa (aa (pH T ?_))
 show aF _ _ (pure (aC d)) _ _ s;refine ai ?_
 show aF _ _ (sf d >>= _) _ _ s;unfold sf;rw[aB (by rw[hd];exact bc)];refine aa (ai (aa (kD g h (aa (uY g h ?_)))));refine aa (dk (ai ⟨_,rfl,"dict_keyiterator",_,⟨_,aM _ rfl,rfl⟩,g9.lookup,?_⟩));simpa [gM] using q
theorem X8{Q:Option ae->aj->Prop}(z:s.heap.IsKeyIter it d i es.size ep)(x:qR s.heap d es ep)(G:es[i]?=ξ e)(q:∀h',h'.IsKeyIter it d (i+1) es.size ep->dP it s.heap h'->Q (ξ e.key) { s with heap:=h' }):aF (aW prog w) A (qm (.ref it)) Q E s:=by
 let T:=z.typeIs;let⟨o,g,c,h⟩:=id z;let⟨H,u,I,C⟩:=x;unfold qm;refine aa (iY (cw (name:=al "__next__") T g9 (cR g9 T tK ?_ (sZ _))));refine aa (ai (aa (aa ?_)))
 first|refine aa (gU T (ai ?_))|refine aa (iZ T (ai ?_))
 refine aa (wpAny_fieldsOf g h ?_);let ow:m7 "dict_keyiterator"=false:=by decide
 simp only[ow,bp,if_false]
 show aF _ _ (if (aC d == bL)=θ then _ else _) _ _ s;rw[aB (show ¬ ((aC d == bL)=θ) from bc)];refine aa (ai (aa (kD u C ?_)));rw[aB (by simp)];refine aa (ai (aa (uY u C ?_)));rw[aB (by simp)];refine ai ?_;simp only[show ¬ ((i:Int) < 0) from by ext,if_false,aR,G];refine aa ?_
 first|refine aa (gU T (ai ?_))|refine aa (iZ T (ai ?_))
 refine aa (zZ T ?_)
 show aF _ _ (setField (.ref it) 1 (gM ((i:Int)+1)) >>= _) _ _ s;refine aa (iC g h (by simp) ?_);let l:(s.heap.update it (fV (·.setIfInBounds 1 (gM ((i:Int)+1))))).IsKeyIter it d (i+1) es.size ep:=
  ⟨_,bS _ g (wD (lU h _)),(zV ..).trans c,by rw[lU h];simp[gM]⟩
 refine aa (bT (aa (zZ (s:={ s with heap:=s.heap.update it (fV (·.setIfInBounds 1 (gM ((i:Int)+1)))) }) l.typeIs ?_)))
 show aF _ _ (pure e.key) _ _ _;exact ai (ai ⟨_,rfl,ai (q _ l (b7 ..))⟩)
theorem Qhn{Q:Option ae->aj->Prop}(hh:A.handled=ψ)(z:s.heap.IsKeyIter it d i es.size ep)(x:qR s.heap d es ep)(C:es[i]?=ψ)(q:∀h',r_ it s.heap h'->Q ψ { s with heap:=h' }):aF (aW prog w) A (qm (.ref it)) Q E s:=by
 let T:=z.typeIs;let⟨o,g,c,l⟩:=id z;let⟨G,h,H,u⟩:=x;unfold qm;refine aa (iY (cw (name:=al "__next__") T g9 (cR g9 T tK ?_ (sZ _))));refine aa (ai (aa (aa ?_)))
 first|refine aa (gU T (ai ?_))|refine aa (iZ T (ai ?_))
 refine aa (wpAny_fieldsOf g l ?_);let ow:m7 "dict_keyiterator"=false:=by decide
 simp only[ow,bp,if_false]
 show aF _ _ (if (aC d == bL)=θ then _ else _) _ _ s;rw[aB (show ¬ ((aC d == bL)=θ) from bc)];refine aa (ai (aa (kD h u ?_)));rw[aB (by simp)];refine aa (ai (aa (uY h u ?_)));rw[aB (by simp)];refine ai ?_;simp only[show ¬ ((i:Int) < 0) from by ext,if_false,aR,C];refine aa ?_
 first|refine aa (gU T (ai ?_))|refine aa (iZ T (ai ?_))
 show aF _ _ (setField (.ref it) 0 .none >>= _) _ _ s;refine aa (iC g l (by simp) ?_)
 show aF _ _ (newExc (.type "StopIteration") [] >>= _) _ _ _;refine aa ?_;simp only[newExc,newTuple];refine aa (dk ?_ (by size_fits));refine aa (m:=qr _ _) (Bb (a:=bL) (by first|rfl|(simp only[qr];rfl)) (dk ?_ (by size_fits)));simp only[raiseNew];refine aa (wpAny_handled ?_);rw[show A.in1.handled=ψ from hh];refine aa (ai (wpAny_throw ?_));refine aa (eV (T:="StopIteration") (b:=θ) ⟨_,aM _ rfl,rfl⟩ vR ?_);exact ai (q _ (((b7 ..).extBut.push _).push _))
theorem UR(hh:A.handled=ψ)(I d:ak)(ne:d≠I)(es:Array kl)(ep:Nat):Walks prog w A I [I,d] [I] es.size (λi v=>∃e,es[i]?=ξ e/\v=e.key) (λi h=>h.IsKeyIter I d i es.size ep/\qR h d es ep) where
 sub:=λb g=>by simp at g;simp[g]
 frame:=λ_ _ _ z k=>⟨z.1.at λo e=>k I (by simp) o e,z.2.keep λo e=>k d (by simp) o e⟩
 item:=λi s Q E G z q=>by
  let l:es[i]?=ξ es[i]:=by simp[G]
  refine X8 z.1 z.2 l λh' C u=>?_;exact q _ h' s.toks ⟨_,l,rfl⟩ ⟨C,z.2.keep λo e=>u.extBut d o ne e⟩ λb o g e=>u.extBut b o (λh=>g (by simp[h])) e
 done:=λs Q E z q=>Qhn hh z.1 z.2 (by simp) λh' H=>q h' s.toks λb o g e=>H b o (λh=>g (by simp[h])) e
 self:=λ_ _ _ _ z q=>wpAny_pyIter_keyiter z.1 q
theorem Qhp(lo:(d == dB)=ω):KdlSrc prog w "dict" d d es.size (λi v=>∃e,es[i]?=ξ e/\v=e.key) (λh=>qR h d es ep) where
 type:=λ_ x=>x.typeIs
 there:=λ_ x=>⟨x.lt,x.lt⟩
 keep:=λ_ _ x k=>x.keep λo e=>k d (.inl rfl) o e
 notList:=by decide
 notTuple:=by decide
 hint:=λ_ _ _ _ x q=>kdl_hint_dict x.typeIs q
 iter:=λ_ _ hh x=>⟨_,_,(λ_ _ q=>Qhl lo x q),UR hh _ d (bB x.lt) es ep,⟨⟨_,aM _ rfl,rfl,rfl⟩,x.keep λo e=>av _ e⟩⟩
end
end MM
namespace MM
open PySem
def qj:D->M D
 | .dic n=>bnd (getDc n) λp=>chk (p.1=θ) (alloc (.lst (p.2.map (·.1))))|_=>bad
def lH(n:Nat)(k v:D):M D:=bnd (getDc n) λp=>chk (p.1=θ/\oW θ k=θ/\⇑p.2 < eT) (match kR p.2 k with
 |some d=>ret d
 |none=>bnd (tj n θ (i6 p.2 k v)) λ_=>ret v)
def pi(a b c:CE):CE:=λl=>bnd (a l) λx=>match x with| .dic n=>bnd (getDc n) λp=>chk (p.1=θ) (bnd (b l) λy=>bnd (c l) λz=>lH n y z)|_=>bad
def p9(g:List D->M D)(a:CA)(d:D):CE:=λl=>bnd (a l) λds=>g (ds++[d])
open PySem.W PyProof.Rows L2
section
variable{X:Cx}
theorem NX.refs(r:NX es xs):L2.bX (es.map λp=>V.ref p.2.1) (xs.map λx=>aC x.2.1):=by
 induction r with|nil=>exact .nil|cons h t ih=>exact .cons (by dsimp only;rw[h.2.1];rfl) ih
theorem Ur(hc:X.calm=θ):CallR X (.type "list") (λvs H Q=>∃a es ρ E,vs=[.ref a]/\H a=ξ (nY a es)/\NR X.K ρ H es E/\∀l,H l=ψ->Q (.ref l) (eE H l (.lst (es.map λp=>V.ref p.2.1)))):=by
 intro U s σ H vs us Q I r h;let⟨a,es,ρ,E,rfl,e,nr,q⟩:=h;let⟨u,rfl,J⟩:=vx r;cases J;let⟨hz,hd,xs,J,dd,_⟩:=zQ I e nr;let⟨o,O,ep,g,c,gd,Y,_⟩:=id dd;let hn:O.size=⇑xs:=lT Y;let hl:⇑es=⇑xs:=dZ J;refine kdl_call (Qhp (ep:=ep) hd) (I.ok.hd hc) ⟨o,g,c,gd⟩ () λh' tk C c' kp hS z=>?_;let ea:C=(xs.map λx=>aC x.2.1).toArray:=by
  apply Iy;apply d7;intro i;rw[ff,ar];cases L:xs[i]? with
  |none=>
   have:=List.getElem?_eq_none_iff.mp L;rw[uZ (by rw[z.1];ext)];rfl
  |some x=>
   let hi:=(ac.mp L).1;let G:i < C.size:=by rw[z.1];ext
   rw[lV G];let⟨en,e1,e2⟩:=z.2 i C[i] (lV G);rw[entry_at Y i,L]at e1;cases e1;rw[e2];rfl
 rw[ea]at hS;exact⟨.ref ↥s,_,I.laid (t':=tk) kp (aA _) (show dQ X.prog X.w _ h' _ (.lst (es.map λp=>V.ref p.2.1)) from ⟨by rw[af];exact hz,_,c',J.refs,hS⟩),rfl,q _ (I.hok.fresh (aA _))⟩
theorem NR.keys{K:aq}(r:NR K ρ H es g):bQ K ρ H (es.map λp=>V.ref p.2.1) (g.map (·.1)):=by
 induction r with|nil=>exact .nil|cons h t ih=>exact .cons h.2.1 ih
theorem Yk(L:X.calm=θ):CallR X (.type "list") (λxs H Q=>∃v,xs=[v]/\zI X.K qj v H Q):=(Ur L).of λxs H Q z=>by
 let⟨v,e,ρ,st,d,g,E,p⟩:=z;cases d with
 |dic n=>
  let⟨a,rfl,_,h⟩:=E.inv;let⟨b,o,Y,I⟩:=ba.getDc (ba.bnd p) g;let⟨O,G⟩:=ba.chk I;cases (show b=θ from O);let⟨es,U,r⟩:=g.ob n a _ h Y;refine⟨a,es,ρ,o,e,U,r,λl u=>?_⟩;let J:=g.fresh u;let C:SR X.K (ρ++[l]) (eE H l (.lst (es.map λp=>V.ref p.2.1))) (st++[.lst (o.map (·.1))]):=(g.new u).keep ik J ((NR.keys r).mono (Ex.new u));refine G _ _ (Ex.newL u) C _ (.ref ⟨_,ik,rfl⟩ ?_);rw[<- g.len];simp
 |_=>exact p.elim
theorem Qhs{E l:Pos}{id:String}(slot:Slot "dict" name id)(Y:zw (.builtin id)=pure (.type "method_descriptor"))(hm:Jk X id r)(ho:PE X o to)(ha:PA X (e::es) t)(J:cG o name X.env (eval o X.env)=eval o X.env)(O:((dF l (az (e::es) X.env)).all (λx => !x.1)&&(oh l (ki [] X.env)).all (λx=>x.1.isSome)&&decide (⇑(e::es)+⇑([]:List io)+(if ([]:List io).isEmpty then 0 else 1) < 30))=θ)
  (G:(E.endLine == l.line)=θ) (hs:az (e::es) X.env=(ω,eval e X.env)::az es X.env) (C:(dF l (az es X.env)).any (·.1)=ω):
  PE X (.Call (.Attribute o name E) (e::es) [] l) (λσ H Q=>to σ H λx U=>(∃a es ρ L,x=.ref a/\U a=ξ (nY a es)/\NR X.K ρ U es L)/\t σ U λxs H2=>r x xs H2 Q):=by
 intro u s σ H Q I h;refine zx J O G rfl (gH (ho u s σ H _ I h) λv s1 z=>?_);let⟨x,U,I1,r1,⟨a,es',ρ,L,rfl,e1,nr⟩,q1⟩:=z;cases r1;let⟨_,_,_,_,dd,_⟩:=zQ I1 e1 nr;let dd':=dd;let⟨ob,_,_,g,c,_⟩:=dd';refine⟨"dict",id,F.plainAttrs_dict,slot,Y,dd.typeIs,λb eb=>by injection eb with eb;subst eb;exact⟨ob,g,c.2.1⟩,?_⟩;let hA:=ha l u s1 σ U _ I1 q1;rw[hs]at hA ⊢;refine mU (by show (ω||(dF l (az es X.env)).any (·.1))=ω;rw[C]<;>rfl) (vK (gH hA λus s2 z=>?_));let⟨vs,H2,I2,r2,q2⟩:=z;exact hm u s2 σ H2 (.ref a) vs _ us Q I2 rfl r2 q2
def wq(X:Cx):V->List V->Hp->VK->Prop:=λx vs H Q=>∃(a:ak)(ρ:List ak)(st:aY)(n:Nat)(cx:List (D×D))(k d:D)(y v:V),x=.ref a/\vs=[y,v]/\SR X.K ρ H st/\ρ[n]?=ξ a/\st[n]?=ξ (.dct θ cx)/\da X.K ρ H y k/\oW θ k=θ/\⇑cx < sizeLine/\da X.K ρ H v d /\
 (∀d',kR cx k=ξ d'->∀h,da X.K ρ H h d'->Q h H)/\(kR cx k=ψ->∀g,SR X.K ρ g (st.set n (.dct θ (i6 cx k d)))->Ex ρ H ρ g->Q v g)
theorem Qht(hu:X.A.units+60 < cO):Jk X "dict.setdefault" (wq X):=by intro C s σ H x vs u us Q I O U h;let⟨a,ρ,st,n,cx,k,d,y,v,rfl,rfl,J,ha,hn,Y,hk,hl,rd,h1,h2⟩:=h;cases O;let⟨u1,u2,rfl,r1,z⟩:=U.two;exact US () I J ha hn Y hk hl rd r1 z (λd' e o w' s' l r' g=>⟨o,H,l,g,h1 d' e o r'⟩) λe E s' l L G=>⟨v,E,l,z,h2 e E L G⟩
theorem UU{E g : Pos}(hu : X.A.units+60 < cO)(ho : SE X o fa)(ha : SE X L fb)(hb : SE X C fc)(I : cG o "setdefault" X.env (eval o X.env) = eval o X.env := by rfl)
  (U:((dF g (az [L,C] X.env)).all (λx => !x.1)&&(oh g (ki [] X.env)).all (λx=>x.1.isSome)&&decide (⇑[L,C]+⇑([]:List io)+(if ([]:List io).isEmpty then 0 else 1) < 30))=true:=by rfl)
  (G:(E.endLine == g.line)=true:=by rfl) (hs:az [L,C] X.env=(ω,eval L X.env)::az [C] X.env:=by rfl) (hs2:az [C] X.env=(ω,eval C X.env)::az [] X.env:=by rfl) (u:(dF g (az [C] X.env)).any (·.1)=false:=by rfl):
  SE X (.Call (.Attribute o "setdefault" E) [L,C] [] g) (pi fa fb fc):=
 (Qhs xt F.type_dict_setdefault (Qht hu) ho (qy ha (qy hb ua hs2) hs) I U G hs u).of λσ H Q h_=>h_.el λρ l st lr sr p=>⟨ρ,l,st,lr,sr,p.bnd.imp λd df ρ1 H1 x1 s1 p1 v rv=>by
  cases d with
  |dic n=>
   let⟨a,rfl,kk,h⟩:=rv.inv;let⟨b,O,e0,p2⟩:=ba.getDc (ba.bnd p1) s1;let⟨hb0,p3⟩:=ba.chk p2;cases (show b=θ from hb0);let⟨es0,e3,r0⟩:=s1.ob n a _ h e0;refine⟨⟨a,es0,ρ1,O,rfl,e3,r0⟩,?_⟩;refine⟨ρ1,l,df,lr.mono x1,s1,(ba.bnd p3).imp λdy st2 ρ2 H2 x2 s2 p4 y ry=>⟨ρ2,l,st2,(lr.mono x1).mono x2,s2,(ba.bnd p4).imp λdz Y ρ3 H3 x3 s3 p5 z rz=>?_⟩⟩
   show wq X (.ref a) [y,z] H3 Q;let⟨b,cx,e5,p6⟩:=ba.getDc (ba.bnd p5) s3;let⟨⟨hb5,hk,hl⟩,J⟩:=ba.chk p6;cases (show b=θ from hb5);let h3:ρ3[n]?=ξ a:=by let⟨τ,e,_⟩:=(x2.trans x3).pre;rw[e];exact GG h
   refine⟨a,ρ3,Y,n,cx,dy,dz,y,z,rfl,rfl,s3,h3,e5,ry.mono x3,hk,hl,rz,λd' e v' rv'=>?_,λe H' s4 x4=>?_⟩
   ·dsimp only at J;rw[e]at J;exact J.ret s3 v' rv'
   ·dsimp only at J;rw[e]at J;let g:=ba.bnd J;unfold tj at g;rw[e5]at g;exact (g ρ3 _ x4 s4).ret s4 _ (rz.mono x4)
  |_=>exact p1.elim⟩
end
end MM
namespace MM
open PySem PyProof.Rows L2
section
open PySem.Builtin.Str
variable{prog:Program}{w:bJ}{A:bx}{E:ae->aj->Prop}{s:aj}
end
abbrev CF:=Str->Loc->M D
end MM
namespace MM
noncomputable def sv(m:Nat):List Nat:=(bU 4).filter λi=>m.testBit i
open PySem PySem.W PyProof.Rows L2
def tb(g:Bool)(m:Nat):SetTable:=⟨7,(sv m).toArray,#[],0,g,0,θ⟩
theorem v8:∀g:Bool,∀m:Nat,m < 16->∀v:Nat,v < 4->m.testBit v=ω->(tb g m).freeSlot (v:Int)=ξ (v,ω):=by nofun
end MM
namespace MM
open PySem
def uS(x f:Str):D->M D
 | .exn y [.str g,d]=>chk (y=x/\g=f) (ret d)|_=>bad
def rL(xs:List Str)(b:Str->Bool):D->M D
 | .exn x _=>chk (x∈xs) (ret (.bl (b x)))|_=>bad
open PyProof.Rows
noncomputable def p_(h:bC)(C N:ak)(bm:List ae)(u:Str->Option ae):Prop:=
 (∃o q bs l sub L g J I H G E z,h.get? C=ξ (fv o q C N bs bm θ l sub L g J I H G E z "ValueError.__new__"))/\h.Ns N u
noncomputable def gE:List ae:=[.type "ValueError",.type "Exception",.type "BaseException",.type "object"]
structure va(h:bC)(C N P NP:ak)(mN mP:Str->Option ae):Prop where
 c:p_ h C N (.ref P::gE) mN
 p:p_ h P NP gE mP
section
variable{A:bx}{s:aj}
theorem Gg{h:bC}(z:h.objs.size<=a):h.get? a=none:=by
 cases e:h.get? a with|none=>rfl|some o=>exact bw (br (aP e) z) (cY _)
theorem Nq{Q:Option ae->aj->Prop}(x:p_ s.heap C N bm mN)(q:Q (mN name) s):aF (aW prog w) A (vU (.ref C) name) Q E s:=by let⟨⟨z,u,bs,o,sub,Y,l,U,L,J,I,H,G,g⟩,ns⟩:=x;let⟨h,O,d,t,os⟩:=s;exact wpAny_classOwn_exc g ns q
theorem IT{Q:List ae->aj->Prop}(x:p_ s.heap C N bm mN)(q:Q (.ref C::bm) s):aF (aW prog w) A (mroOf (.ref C)) Q E s:=by let⟨⟨z,u,bs,o,sub,Y,l,U,L,J,I,H,G,g⟩,ns⟩:=x;let⟨h,O,d,t,os⟩:=s;exact wpAny_mroOf_exc g q
theorem C8{Q:Bool->aj->Prop}(x:p_ s.heap C N bm mN)(q:Q ((aC C::bm).contains base) s):aF (aW prog w) A (isSubtype (.ref C) base) Q E s:=by let⟨⟨z,u,bs,o,sub,Y,l,U,L,J,I,H,G,g⟩,ns⟩:=x;let⟨h,O,d,t,os⟩:=s;exact lX g q
theorem Wj{Q:Option ae->aj->Prop}(x:p_ s.heap C N bm mN)(g:mN name=ξ v)(q:Q (ξ v) s):aF (aW prog w) A (cv (.ref C) name) Q E s:=by unfold cv;refine aa (IT x ?_);rw[cV];refine aa (aa (aa (Nq x ?_)));rw[g];dsimp only;refine ai (ai (ai q))
theorem VL{f:ae->Option (Option ae)×Unit->Sem (ForInStep (Option (Option ae)×Unit))}(o:∀n v b,si n name=ξ v->f (.type n) b=pure (.done (ξ (ξ v),Unit.unit)))(l:∀n b,si n name=ψ->f (.type n) b=pure (.yield (ψ,Unit.unit))):∃z:Option (Option ae)×Unit,forIn gE (ψ,Unit.unit) f=(pure z:Sem _):=by
 let st:∀(n:String)(cQ:List ae),(∃z,forIn cQ (ψ,Unit.unit) f=(pure z:Sem _))->∃z,forIn (fM n::cQ) (ψ,Unit.unit) f=(pure z:Sem _):=λn cQ h=>by
  let⟨z,hz⟩:=h;rw[cV];cases g:si n name with|some v=>exact⟨(ξ (ξ v),Unit.unit),by rw[o n v _ g];rfl⟩|none=>
   refine⟨z,?_⟩;rw[<- hz,l n _ g];rfl
 unfold gE;exact st _ _ (st _ _ (st _ _ (st _ _ ⟨_,rfl⟩)))
theorem Ea{Q:Option ae->aj->Prop}(x:va s.heap C N P NP mN mP)(u:mN name=ψ)(o:mP name=ψ)(g:cv (.type "ValueError") name=pure y)(q:Q y s):aF (aW prog w) A (cv (.ref C) name) Q E s:=by
 let l:mroOf (.type "ValueError")=pure gE:=pJ.mroIs;unfold cv at g ⊢;rw[l]at g;refine aa (IT x.c ?_);rw[cV];refine aa (aa (aa (Nq x.c ?_)));rw[u];dsimp only;refine ai ?_;dsimp only;rw[cV];refine aa (aa (Nq x.p ?_));rw[o];dsimp only;refine ai ?_;dsimp only;obtain ⟨z, hz⟩ := VL (name := name) (f := λc __s => (do
   let __do_lift <- vU c name
   cv.match_1 (motive:=λ_=>Sem (ForInStep (Option (Option ae)×Unit))) __do_lift (λv=>pure (ForInStep.done (ξ (ξ v),Unit.unit))) (λx=>pure (ky (ψ,Unit.unit))))) (λn v b h=>by show (pure (si n name) >>= _)=_;rw[h];rfl) (λn b h=>by show (pure (si n name) >>= _)=_;rw[h];rfl)
 rw[hz];refine ai ?_
 change ((forIn gE (ψ,Unit.unit) _:Sem (Option (Option ae)×Unit)) >>= _)=_ at g
 rw[hz]at g;exact (cj (λm=>aF (aW prog w) A m Q E s) g).mpr (ai q)
theorem vb{Q:ae->aj->Prop}(g:s.heap.get? e=ξ o)(h:o.cls=.ref C)(q:Q (.ref C) s):aF (aW prog w) A (zw (.ref e)) Q E s:=iJ g (by rw[h];exact q)
theorem p_.keep{h h':bC}(x:p_ h C N bm mN)(k:∀b o,h.get? b=ξ o->h'.get? b=ξ o):p_ h' C N bm mN:=by let⟨⟨G,z,bs,u,sub,Y,l,U,O,L,J,I,H,g⟩,o,es,ep,Q,r⟩:=x;exact⟨⟨G,z,bs,u,sub,Y,l,U,O,L,J,I,H,k _ _ g⟩,o,es,ep,k _ _ Q,r⟩
theorem va.keep{h h':bC}(x:va h C N P NP mN mP)(k:∀b o,h.get? b=ξ o->h'.get? b=ξ o):va h' C N P NP mN mP:=⟨x.c.keep k,x.p.keep k⟩
theorem Y6{cQ:List ae}(x:va s.heap C N P NP mN mP)(G:mP (al "__init__")=ψ)(hi:mN (al "__init__")=ξ (.ref I))(gI:s.heap.get? I=ξ O)(cI:O.cls=.type "function")(run:∀h' e,↥s<=e->s.heap.MadeExcOf h' e (.ref C) cQ->aF (aW prog w) A (call (.ref I) (.ref e::cQ)) (λr s'=>r=.none/\Q (.done (.ret (.ref e))) s') E { s with heap:=h' }) (hl:⇑cQ<=sizeLine):aF (aW prog w) A (Builtin.«type.__call__» { pos:=.ref C::cQ }) Q E s:=by
 unfold Builtin.«type.__call__»;dsimp only;rw[aB (show ¬ ((aC C == fM "type")=θ) from bc)];refine aa (IT x.c ?_);rw[aB (by simp)];refine aa ?_;let⟨⟨nm,q1,bs,U,sub,ab,J,dd,k0,k1,k2,k3,k5,g⟩,ns⟩:=id x.c;let l:OwnTail s.heap gE (.ref P::gE):=by let⟨⟨nm,q1,bs,U,sub,ab,J,dd,k0,k1,k2,k3,k5,g⟩,ns⟩:=id x.p;exact .own g ns G .base
 refine wpAny_madeBy_exc (h:=s.heap) g ?_;dsimp only;refine aa (ai (aa (bT (kU (wF (pT _ (by nofun)) (wpAny_check_new_subU (h:=s.heap) pJ rfl l g ?_))))));refine codeAny_exc_new_subU (h:=s.heap) pJ rfl pJ l g ?_ hl;let k:∀b o,s.heap.get? b=ξ o->((s.heap.push { cls:=.type "tuple",data:=.seq cQ.toArray }).push { cls:=.ref C,data:=.fields #[.ref ↥s,.none,.none,.none,.bool ω,.none] }).get? b=ξ o:=λb o z=>av _ (av _ z);let sz:(s.heap.push { cls:=.type "tuple",data:=.seq cQ.toArray }).objs.size=↥s+1:=by simp[zY]
 let H:((s.heap.push { cls:=.type "tuple",data:=.seq cQ.toArray }).push { cls:=.ref C,data:=.fields #[.ref ↥s,.none,.none,.none,.bool ω,.none] }).get? (↥s+1)=ξ { cls:=.ref C,data:=.fields #[.ref ↥s,.none,.none,.none,.bool ω,.none] }:=by have:=aM (s.heap.push { cls:=.type "tuple",data:=.seq cQ.toArray }) (o:={ cls:=.ref C,data:=.fields #[.ref ↥s,.none,.none,.none,.bool ω,.none] }) rfl;rw[sz]at this;exact this
 let md:s.heap.MadeExcOf ((s.heap.push { cls:=.type "tuple",data:=.seq cQ.toArray }).push { cls:=.ref C,data:=.fields #[.ref ↥s,.none,.none,.none,.bool ω,.none] }) (↥s+1) (.ref C) cQ:=
  ⟨k,Gg (xw _),↥s,H,Gg (aA _),av _ (aM _ rfl)⟩
 let Y:=run _ _ (xw _) md;let L:=x.keep k;generalize (s.heap.push { cls:=.type "tuple",data:=.seq cQ.toArray }).push { cls:=.ref C,data:=.fields #[.ref ↥s,.none,.none,.none,.bool ω,.none] }=u at *;dsimp only;unfold kW;refine aa (aa (vb (s:={ s with heap:=u }) H rfl (C8 (s:={ s with heap:=u }) L.c ?_)));rw[aB (by simp)];refine aa (bT ?_);unfold zy qK;refine aa (aa (vb (s:={ s with heap:=u }) H rfl (Wj (s:={ s with heap:=u }) L.c hi ?_)));dsimp only;refine bT (aa (wpAny_bindSpecial_def (s:={ s with heap:=u }) (k _ _ gI) cI ?_));dsimp only;refine aa (dN Y (λr s' hr=>?_) λ_ _ z=>z);let⟨er,hq⟩:=hr;subst er;refine ai ?_;dsimp only;rw[aB (by decide)];exact ai hq
theorem Zl{cQ:List ae}(x:p_ s.heap C N bm mN)(h:aF (aW prog w) (A.under (Code.builtin "type.__call__" { pos:=.ref C::cQ })) (Builtin.«type.__call__» { pos:=.ref C::cQ }) (λl s'=>∃v,l=.done (.ret v)/\Q v s') E s):aF (aW prog w) A (call (.ref C) cQ) Q E s:=by
 let⟨⟨J,I,bs,H,sub,ab,G,dd,k0,Y,U,O,L,g⟩,ns⟩:=id x;refine kU (codeAny_of_tree ?_)
 show aF _ _ (callAny (.ref C) _) _ _ s;unfold callAny;dsimp only;refine aa (rW g ?_);dsimp only;unfold callAny.viaDunder qK;refine aa (aa (iJ g ?_));dsimp only;rw[F.lookup_type_call];refine ai ?_;dsimp only;rw[F.bind_type_call];refine aa (ai ?_);dsimp only;unfold callAny.plainCallee;refine aa (ai ?_);rw[aH (by decide)];refine ai ⟨?_,wF (pT _ (by nofun)) (wpAny_check_type_call_sub (h:=s.heap) g (oZ entry_typeCall ?_))⟩
 ·first|rfl|decide|simp[Code.quiet,Thread.loud]
 ·refine dN h (λl s' z=>?_) λ_ _ z=>z;let⟨v,u,o⟩:=z;subst u;exact o
end
theorem VE:cv (.type "ValueError") (al "__setattr__")=pure (ξ (.builtin "object.__setattr__")):=by rfl
theorem T0(self:ae):ur (.builtin "object.__setattr__") self=pure (.builtin "object.__setattr__",[self]):=by rfl
section
variable{s:aj}
theorem WR(x:va s.heap C N P NP mN mP)(g:s.heap.get? e=ξ o)(z:o.cls=.ref C){Q:Unit->aj->Prop}(q:Q Unit.unit s):aF (aW prog w) A (lC (.ref e) (al "__setattr__")) Q E s:=by
 unfold lC;refine aa (vb g z (aa (IT x.c ?_)));rw[cV];refine aa (aa (ai ?_));dsimp only;rw[cV];refine aa (ai ?_);dsimp only;unfold gE;let u:vU (.type "ValueError") (al "__setattr__")=pure none:=by rfl
 let l:vU (.type "Exception") (al "__setattr__")=pure none:=by rfl
 let h:vU (.type "BaseException") (al "__setattr__")=pure none:=by rfl
 rw[cV];dsimp only;rw[aB (by decide),aB (by decide),u];refine aa (aa (ai ?_));rw[aB (by decide)];refine ai ?_;dsimp only;rw[cV];dsimp only;rw[aB (by decide),aB (by decide),l];refine aa (aa (ai ?_));rw[aB (by decide)];refine ai ?_;dsimp only;rw[cV];dsimp only;rw[aB (by decide),aB (by decide),h];refine aa (aa (ai ?_));rw[aB (by decide)];refine ai ?_;dsimp only;rw[cV];dsimp only;rw[aB (by decide),aB (by decide),F.own_object_setattr];refine aa (aa (ai ?_));rw[aH (show (ξ (fO "object.__setattr__")).isSome=θ from rfl),aB (by nofun)];refine ai (ai ?_);exact ai q
theorem XH{Q:Unit->aj->Prop}(x:va s.heap C N P NP mN mP)(g:s.heap.get? e=ξ ⟨.ref C,ψ,.fields vs,u⟩)(a1:mN (al "__setattr__")=ψ) (a2:mP (al "__setattr__")=ψ) (b1:mN name=ψ) (b2:mP name=ψ) (O:cv (.type "ValueError") name=pure ψ)(q:∀h' G tk,s.heap.get? G=ψ->h'.get? e=ξ ⟨.ref C,ξ G,.fields vs,u⟩->(h'.Ns1 G λy=>if y=name then ξ v else ψ)->(∀b o,b≠e->s.heap.get? b=ξ o->h'.get? b=ξ o)->Q Unit.unit { s with heap:=h',toks:=tk }):
  aF (aW prog w) A (setAttr (.ref e) name v) Q E s:=by
 unfold setAttr;refine aa (zB ?_);refine aa ?_;unfold zy qK;refine aa (aa (vb (s:={ s with toks:=s.toks+1 }) g rfl (Ea (s:={ s with toks:=s.toks+1 }) x a1 a2 VE ?_)));dsimp only;refine bT ?_;rw[T0];refine aa (ai ?_);dsimp only;refine aa (kU (qv (by nofun) F.entry_object_setattr ?_));unfold checkBuiltinCall;rw[F.bk_object_setattr,F.sp_object_setattr];dsimp only;unfold kW;refine aa (aa (vb (s:={ s with toks:=s.toks+1 }) g rfl (C8 (s:={ s with toks:=s.toks+1 }) x.c ?_)));rw[aB (by simp[gE])];let J:=F.args_object_setattr_3 (.ref e) (.str name s.toks) v;unfold argsOk at J;refine Bb J ?_;unfold Builtin.«object.__setattr__»;rw[aB (show ¬ ((!({ pos:=[aC e]++[ku name s.toks,v] }:Args).kw.isEmpty)=θ) from bc)];dsimp only;refine aa (WR (s:={ s with toks:=s.toks+1 }) x g rfl ?_);refine aa (ai ?_);refine aa (vb (s:={ s with toks:=s.toks+1 }) g rfl (aa (Ea (s:={ s with toks:=s.toks+1 }) x b1 b2 O (aa (ai ?_)))));dsimp only;unfold Builtin.ObjectAttr.storeInOwnDict;refine aa (ai ?_);rw[aB (show ¬ ((aC C == fM "module")=θ) from bc)];refine aa ?_;unfold Builtin.ObjectAttr.ownDictForStores instanceDict;dsimp only;let⟨⟨nm,q1,bs,sn,sub,ab,col,dd,k0,k1,k2,k3,k5,gC⟩,ns⟩:=id x.c;refine aa (iE (s:={ s with toks:=s.toks+1 }) g ?_);dsimp only;unfold classData;refine aa (aa (rW (s:={ s with toks:=s.toks+1 }) gC (ai ?_)));rw[aB (by simp)];rw[aB (by simp[typeHasDict])];let h:∀b o,s.heap.get? b=ξ o->(s.heap.push { cls:=.type "dict",data:=.dict #[] }).get? b=ξ o:=λb o z=>av _ z;refine aa (wpAny_alloc (aa (wpAny_update (s:={ s with heap:=s.heap.push { cls:=.type "dict",data:=.dict #[] },toks:=s.toks+1 }) (h _ _ g) ?_)));refine ai ?_;dsimp only;let gd:(s.heap.push { cls:=.type "dict",data:=.dict #[] }).get? ↥s=ξ { cls:=.type "dict",data:=.dict #[] }:=aM _ rfl;let ne:↥s≠e:=λz=>by have:=aP g;rw[z]at this;exact cY _ this
 let ge:((s.heap.push { cls:=.type "dict",data:=.dict #[] }).update e λo=>{ cls:=o.cls,dict:=ξ ↥s,data:=o.data,slots:=o.slots }).get? e=ξ ⟨.ref C,ξ ↥s,.fields vs,u⟩:=bS _ (h _ _ g) rfl;let H:=b7 (s.heap.push { cls:=.type "dict",data:=.dict #[] }) e λo=>{ cls:=o.cls,dict:=ξ ↥s,data:=o.data,slots:=o.slots }
 generalize (s.heap.push { cls:=.type "dict",data:=.dict #[] }).update e (λo=>{ cls:=o.cls,dict:=ξ ↥s,data:=o.data,slots:=o.slots })=h1 at *;let L:h1.Ns1 ↥s λ_=>none:=by
  let z:h1.get? ↥s=ξ { cls:=.type "dict",data:=.dict #[] }:=by rw[H.2 _ ne];exact gd
  exact bC.Ns1.of_empty ⟨_,_,_,z,rfl,by intro e U;simp at U,λ_=>rfl⟩
 unfold Builtin.ObjectAttr.storeInDict;refine aa (ai ?_);refine aa (wpAny_nsSet1 (s:={ s with heap:=h1,toks:=s.toks+1 }) L λI n2 l=>?_);let⟨o2,es2,ep2,g2,d2,hz⟩:=n2.count (Within.cons name v Within.nil);refine aa (wpAny_lookBehind (s:={ s with heap:=I,toks:=s.toks+1+1 }) g2 (by rw[d2];exact pastItsLine_dict (bH hz (show 1<=sizeLine+1 by decide))) ?_);refine ai (ai (ai ?_));refine q I ↥s _ (Gg (aA _)) (by rw[l.2 _ (du ne)];exact ge) n2 λb o Y z=>?_;rw[l.2 b (λy=>by rw[y,Gg (aA _)]at z;cases z),H.2 b Y];exact h _ _ z
end
theorem VU:cv (.type "ValueError") (al "__getattribute__")=pure (ξ (.builtin "BaseException.__getattribute__")):=by rfl
theorem QhK:cv (.type "ValueError") (al "__getattr__")=pure none:=by rfl
theorem QhL(self:ae):ur (.builtin "BaseException.__getattribute__") self=pure (.builtin "BaseException.__getattribute__",[self]):=by rfl
theorem QhM:entryFor table "BaseException.__getattribute__"=ξ Builtin.«object.__getattribute__»:=entryFor_alias (id':="object.__getattribute__") (by rfl) (by nofun) (by nofun) (by rfl)
theorem Yr:plainId "BaseException.__getattribute__"=true:=by nofun
structure D7(mN mP:Str->Option ae)(name:Str):Prop where
 c:mN name=ψ
 p:mP name=ψ
structure qB(mN mP:Str->Option ae):Prop where
 ga:D7 mN mP (al "__getattribute__")
 gh:D7 mN mP (al "__getattr__")
 sa:D7 mN mP (al "__setattr__")
 cl:D7 mN mP (al "__class__")
 qt:∀n∈quietNames,mP n=ψ
section
variable{A:bx}{s:aj}
theorem Oh{fill u:Bool}(x:va s.heap C N P NP mN mP)(H:qB mN mP)(g:s.heap.get? e=ξ o)(O:o.cls=.ref C)(h:aF (aW prog w) A.in1 (Builtin.«object.__getattribute__» { pos:=[.ref e,l] }) (λI s'=>∃v,I=.done (.ret v)/\(∀id,v≠.builtin id)/\Q v s') (λ_ _=>False) s):aF (aW prog w) A (getAttrBy (.ref e) l fill u) Q E s:=by
 unfold getAttrBy;refine bT (aa (vb g O (aa (Ea x H.ga.c H.ga.p VU ?_))));dsimp only;let nq:¬ ((onTheHeap (aC C)&&(fO "BaseException.__getattribute__" == fO "object.__getattribute__"))=θ):=(show ¬ ((θ&&(fO "BaseException.__getattribute__" == fO "object.__getattribute__"))=θ) by decide)
 rw[aB nq];unfold getAttrByItsOwn hookBefore;rw[aH (show onTheHeap (.ref C)=θ from rfl)];refine aa (Ea x H.gh.c H.gh.p QhK ?_);refine aa (iY (bT ?_));unfold callGetattribute;rw[aB (by cases u<;>exact bc)];unfold boundAndCalled;rw[QhL];refine aa (ai ?_);dsimp only;let⟨⟨nm,Y,bs,U,sub,ab,L,dd,k0,k1,k2,k3,k5,gC⟩,ns⟩:=id x.c;let G:OwnTailQ s.heap gE (.ref P::gE):=by let⟨⟨nm,Y,bs,U,sub,ab,L,dd,k0,k1,k2,k3,k5,gP⟩,J⟩:=id x.p;exact .own gP J H.qt .base
 refine kU (qv Yr QhM (wpAny_check_ga_own (h:=s.heap) F.attrBase_ValueError gC G g O ?_));refine dN h (λI s' z=>?_) λ_ _ z=>z.elim;let⟨v,e1,nb,hq⟩:=z;subst e1;dsimp only;unfold handedOut;cases v with|builtin id=>exact bw rfl (nb id)|_=>exact ai hq
theorem ZA{Q:ae->aj->Prop}(x:va s.heap C N P NP mN mP)(z:qB mN mP)(g:s.heap.get? e=ξ ⟨.ref C,ξ o,.fields vs,u⟩)(J:s.heap.Ns o l)(I:l name=ξ v)(G:∀id,v≠.builtin id)(no:D7 mN mP name) (H:cv (.type "ValueError") name=pure ψ) (q:∀tk,Q v { s with toks:=tk }):aF (aW prog w) A (getAttr (.ref e) name h) Q E s:=by
 unfold getAttr;refine aa (zB (Oh (s:={ s with toks:=s.toks+1 }) x z g rfl ?_));unfold Builtin.«object.__getattribute__»;refine aa ?_
 show aF _ _ (pure (aC e,[ku name s.toks])) _ _ _;refine ai ?_;dsimp only;refine aa (ai (aa (vb (s:={ s with toks:=s.toks+1 }) g rfl (aa ?_))));unfold oP;refine aa (Ea (s:={ s with toks:=s.toks+1 }) x no.c no.p H (aa (ai (aa (ai ?_)))));dsimp only;unfold Builtin.ObjectAttr.ownThenClass Builtin.ObjectAttr.inOwnDict;dsimp only;unfold Builtin.ObjectAttr.ownDict;let⟨⟨nm,Y,bs,U,sub,ab,O,dd,k0,k1,k2,k3,k5,L⟩,ns⟩:=id x.c;unfold Bf;refine aa (aa (aa (iE (s:={ s with toks:=s.toks+1 }) g ?_)));dsimp only;unfold instanceDict;refine aa (iE (s:={ s with toks:=s.toks+1 }) g ?_);dsimp only;unfold classData;refine aa (aa (rW (s:={ s with toks:=s.toks+1 }) L (ai ?_)));rw[aB (by simp)];refine ai ?_;unfold Builtin.ObjectAttr.inDict;dsimp only;refine wpAny_nsGet (s:={ s with toks:=s.toks+1 }) J ?_;rw[I];dsimp only;refine aa (eK (ai ?_));exact ai ⟨v,rfl,G,q _⟩
theorem XS:cv (.type "ValueError") (al "__class__")=pure (ξ (.builtin "object.__class__")):=by rfl
theorem QU:cv (.type "getset_descriptor") (al "__get__")=pure (ξ (.builtin "getset_descriptor.__get__")):=by rfl
theorem WG:entryFor table "getset_descriptor.__get__"=ξ Builtin.«getset_descriptor.__get__»:=entryFor_of_tree (by rfl)
theorem Ta:Slot "getset_descriptor" (al "__get__") "getset_descriptor.__get__":=Slot.of (owner:="getset_descriptor") (n:="__get__") QU (by nofun) (by nofun) (by nofun) (Or.inl (by nofun)) (by rw[vS];rfl) (by nofun)
theorem YJ(a b c:ae):argsOk "getset_descriptor.__get__" { pos:=[a,b,c] }:=by rfl
theorem QhV:∃n,Builtin.Getset_descriptor.descrNameAndClass (.builtin "object.__class__")=pure (n,.type "object"):=⟨_,rfl⟩
theorem YD:cv (.type "getset_descriptor") (al "__set__")=pure (ξ (.builtin "getset_descriptor.__set__")):=by rfl
theorem S6{Q:Option ae->aj->Prop}(x:va s.heap C N P NP mN mP)(l:qB mN mP)(g:s.heap.get? e=ξ o)(h:o.cls=.ref C)(q:∀tk,Q (ξ (.ref C)) { s with toks:=tk }):aF (aW prog w) A (Bg (.ref e) (al "__class__")) Q E s:=by
 unfold Bg getAttrBy?;refine aa (zB (aa (iY (Oh (s:={ s with toks:=s.toks+1 }) x l g h ?_))));unfold Builtin.«object.__getattribute__»;refine aa ?_
 show aF _ _ (pure (aC e,[ku (al "__class__") s.toks])) _ _ _;refine ai ?_;dsimp only;refine aa (ai (aa (vb (s:={ s with toks:=s.toks+1 }) g h (aa ?_))));unfold oP;refine aa (Ea (s:={ s with toks:=s.toks+1 }) x l.cl.c l.cl.p XS (aa ?_));unfold Builtin.ObjectAttr.getOf;dsimp only;unfold qK;rw[oQ];refine aa (ai ?_);rw[QU];refine ai (aa ?_);unfold Builtin.ObjectAttr.dataDescriptor?;dsimp only;refine aa ?_;unfold Builtin.ObjectAttr.takesStores qK;rw[oQ];refine aa (aa (ai ?_));rw[YD];refine ai ?_;rw[aH (show (ξ (fO "getset_descriptor.__set__")).isSome=θ from rfl)];refine ai ?_;rw[aH rfl];refine ai ?_;dsimp only;refine aa (eK (ai ?_));dsimp only;unfold Builtin.ObjectAttr.bindTo;dsimp only;refine aa (bT (kU (qv Ta.plain WG (Ta.check _ _ _ _ _ _ _ _ oQ (YJ _ _ _) ?_))));unfold Builtin.«getset_descriptor.__get__» Builtin.Getset_descriptor.descrGet;refine aa ?_
 show aF _ _ (pure (fO "object.__class__",ξ (aC e),ξ (aC C))) _ _ _;refine ai ?_;dsimp only;unfold Builtin.Getset_descriptor.descrGetter;dsimp only;refine aa ?_;unfold Builtin.Getset_descriptor.descrCheckInstance;let⟨n,u⟩:=QhV;rw[u];refine aa (ai ?_);dsimp only;unfold kW;refine aa (aa (vb (s:={ s with toks:=s.toks+1 }) g h (C8 (s:={ s with toks:=s.toks+1 }) x.c ?_)));rw[aB (by simp[gE])];refine ai (ai ⟨pT _ (by nofun),oZ F.entry_object_class ?_⟩);unfold Builtin.«object.__class__»;dsimp only;unfold shownTypeOf;refine aa (aa (vb (s:={ s with toks:=s.toks+1 }) g h ?_));rw[aB (show ¬ ((aC C == fM "builtin_function_or_method")=θ) from bc)];refine ai (ai (ai ⟨_,rfl,ay (λid z=>by cases z) (ai (q _))⟩))
theorem Qt{Q:ae->aj->Prop}(x:va s.heap C N P NP mN mP)(G:qB mN mP)(g:s.heap.get? e=ξ o)(u:o.cls=.ref C)(I:∀(A:bx)(E:ae->aj->Prop)(R:ae->aj->Prop)tk,R (.type "type") { s with toks:=tk }->aF (aW prog w) A (zw T) R E { s with toks:=tk })(H:∀(A:bx)(E:ae->aj->Prop)(R:Bool->aj->Prop)tk,R θ { s with toks:=tk }->aF (aW prog w) A (zC T) R E { s with toks:=tk })(q:∀tk,Q (.bool ((aC C::aC P::gE).contains T)) { s with toks:=tk }):aF (aW prog w) A (call (.builtin "isinstance") [.ref e,T]) Q E s:=by
 refine DL ?_ (λz=>(by cases z));unfold Builtin.«isinstance.nested»;dsimp only[gM];refine aa (vb g u ?_);by_cases l:(aC C == T)=θ
 ·rw[aH l];refine aa (eK (ai ?_));let L:(aC C::aC P::gE).contains T=true:=by
   rw[dq];have:(T == aC C)=true:=by rw[beq_iff_eq]at l ⊢;exact l.symm
   rw[this];rfl
  have:=q s.toks;rw[L]at this;exact this
 ·rw[aB l];refine aa (I _ _ _ s.toks ?_);rw[aH (by decide)];refine aa ?_
  show aF _ _ (zC T >>= _) _ _ _;refine aa (H _ _ _ s.toks ?_);rw[aB (by decide)];unfold kW;refine aa (aa (vb g u (C8 x.c ?_)));by_cases h:(aC C::aC P::gE).contains T=θ
  ·rw[aH h];refine ai (ai ?_);have:=q s.toks;rw[h]at this;exact this
  ·rw[aB h];refine aa (S6 x G g u λtk=>?_);dsimp only;let⟨⟨o,Y,bs,U,sub,ab,O,I,l,Q,L,E,z,J⟩,ns⟩:=id x.c;unfold zC;dsimp only;unfold Bf;refine aa (aa (iE (s:={ s with toks:=tk }) J (ai ?_)));rw[aB (by simp)];refine aa (eK (C8 (s:={ s with toks:=tk }) x.c ?_));let H:(aC C::aC P::gE).contains T=false:=by simpa using h
   refine ai ?_;exact q tk
end
open PySem.W L2
noncomputable abbrev FF(o:Obj):Prop:=∃vs,o.data=.fields vs/\vs[1]?=ξ bL/\vs[2]?=ξ bL
noncomputable def qQ(e C:ak)(h:bC):Prop:=∃vs g,h.get? e=ξ ⟨.ref C,ψ,.fields vs,g⟩/\vs[1]?=ξ bL/\vs[2]?=ξ bL
noncomputable def uM(K:Frag)(N:ak):Prop:=∃c d es ep g,K.lookup N=ξ ⟨c,d,.dict es ep,g⟩/\StrKeys es
structure XF(K:Frag)(x f:Str)(C N P NP:ak):Prop where
 gl:nsIn K bN x=ξ (ξ (.ref C))
 ob:∃q bs sn sub ab col dd k0 k1 k2 k3 k5,K.lookup C=ξ (fv x q C N bs (.ref P::gE) θ sn sub ab col dd k0 k1 k2 k3 k5 "ValueError.__new__")
 obP:∃q bs sn sub ab col dd k0 k1 k2 k3 k5,K.lookup P=ξ (fv "PactError" q P NP bs gE θ sn sub ab col dd k0 k1 k2 k3 k5 "ValueError.__new__")
 glP:nsIn K bN "PactError"=ξ (ξ (.ref P))
 sN:uM K N
 sP:uM K NP
 nn:∀n∈([al "__getattribute__",al "__getattr__",al "__setattr__",al "__class__",f]:List Str),nsIn K N n=ξ ψ
 np:∀n∈([al "__getattribute__",al "__getattr__",al "__setattr__",al "__class__",f,al "__init__",al "args"]:List Str),nsIn K NP n=ξ ψ
 kp:keepIn K (.ref C)=θ
section
variable{K:Frag}
theorem uM.ns(z:uM K N)(k:K.In h):∃m,h.Ns N m:=by let⟨c,d,es,ep,o,l,g⟩:=z;exact⟨nsFind es,_,es,ep,k _ _ l,rfl,g,λ_=>rfl⟩
theorem Uh(k:K.In h)(ns:h.Ns N m)(e:nsIn K N n=ξ (ξ v)):m n=ξ v:=by
 let⟨o,es,ep,g,d,E,z⟩:=ns;unfold nsIn at e;cases l:wC N K with|none=>rw[l]at e;cases e|some o'=>
  let g':=k _ _ l;rw[g]at g';cases g';rw[l]at e;let⟨I,H,G,os⟩:=o;cases d;dsimp only at e;cases u:JO (λx=>x.key.isStr n) es.toList with
  |none=>
   rw[u]at e;dsimp only at e;split at e<;>cases e
  |some en=>
   rw[u]at e;cases e;rw[<- z n];unfold nsFind findBy;rw[<- wW]
   show Option.map (λx=>x.val) (JO (λx=>x.key.isStr n) es.toList)=_;rw[u];rfl
theorem XF.ch(F:XF K x f C N P NP)(k:K.In h):∃o g,va h C N P NP o g/\qB o g/\D7 o g f/\h.Ns N o/\g (al "__init__")=none:=by
 let⟨o,Y⟩:=F.sN.ns k;let⟨g,hP⟩:=F.sP.ns k;let⟨q1,bs,sn,sub,ab,col,dd,k0,k1,k2,k3,k5,l⟩:=F.ob;let⟨I,bs',H,E,ab',G,dd',U,Q,O,L,J,l'⟩:=F.obP;let a:∀n∈([al "__getattribute__",al "__getattr__",al "__setattr__",al "__class__",f]:List Str),o n=none:=λn u=>ns_none_of k Y (F.nn n u);let b:∀n∈([al "__getattribute__",al "__getattr__",al "__setattr__",al "__class__",f,al "__init__",al "args"]:List Str),g n=none:=λn u=>ns_none_of k hP (F.np n u);refine⟨o,g,⟨⟨⟨x,q1,bs,sn,sub,ab,col,dd,k0,k1,k2,k3,k5,k _ _ l⟩,Y⟩,⟨⟨_,I,bs',H,E,ab',G,dd',U,Q,O,L,J,k _ _ l'⟩,hP⟩⟩,
  ⟨⟨a _ (by simp),b _ (by simp)⟩,⟨a _ (by simp),b _ (by simp)⟩,⟨a _ (by simp),b _ (by simp)⟩,⟨a _ (by simp),b _ (by simp)⟩,λn u=>b n ?_⟩,⟨a _ (by simp),b _ (by simp)⟩,Y,b _ (by simp)⟩
 simp only[quietNames,a_,cW,or_false]at u;rcases u with z|z|z|z<;>(rw[z];simp)
end
section
variable{X:Cx}{x f:Str}{C N P NP:ak}{pos em:Pos}
def kF(H:Hp)(e g:ak)(f:Str)(v:V)(ob:Obj):Hp:=eE (eE H g (.xd [(f,v)])) e (.frz ob (.own e))
theorem T2(F : XF X.K x f C N P NP)(hy : cv (.type "ValueError") f = pure ψ)(ha : PE X o ta)(hv : PE X value tv)(hs : fX value (ξ (.Attribute o f em)) pos.line X.env = pure ω := by rfl):
  PS X (.Assign [.Attribute o f em] value pos) (λD σ H=>tv σ H λv H1=>ta σ H1 λy O=>∃e,y=.ref e/\O e=ξ (.ext (qQ e C))/\∀E ob,O E=ψ->E≠e->ob.cls=.ref C->ob.dict=ξ E->FF ob->D.nx σ (kF O e E f v ob)):=by
 intro ah s σ H D I h;refine plainObj_wpAny_Assign_Attribute (gH (hv ah s σ H _ I h) λu s1 Q=>?_) hs;let⟨y,H1,I1,ry,q⟩:=Q;refine gH (ha ah s1 σ H1 _ I1 q) λov s2 Q=>?_;let⟨z,O,I2,rx,e,ex,Y,q2⟩:=Q;subst ex;obtain rfl:ov=aC e:=rx;let⟨mN,mP,ch,pl,no,_,_⟩:=F.ch I2.kIn;let⟨⟨vs,sl,g,gv1⟩,_,_⟩:=(show dQ X.prog X.w O s2.heap e (.ext (qQ e C)) from I2.hok e _ Y)
 refine XH ch g pl.sa.c pl.sa.p no.c no.p hy λh' E tk U ge ns kp=>?_;let J:O E=none:=by
  cases w:O E with|none=>rfl|some ob=>
   let⟨ob',e'⟩:=IM (I2.hok E ob w);rw[U]at e';cases e'
 let hde:E≠e:=λw=>by rw[w,g]at U;cases U
 refine⟨σ,kF O e E f y ⟨.ref C,ξ E,.fields vs,sl⟩,?_,q2 E _ J hde rfl rfl ⟨vs,rfl,gv1⟩⟩;let ne:∀b,O b=ψ->b≠e:=λb w z=>by rw[z,Y]at w;cases w
 let nd:∀{b o},s2.heap.get? b=ξ o->b≠E:=λw z=>by rw[z,U]at w;cases w
 let G:∀b,b≠e->b≠E->kF O e E f y ⟨.ref C,ξ E,.fields vs,sl⟩ b=O b:=λb h1 h2=>by unfold kF;rw[e8 h1,e8 h2]
 refine I2.step (g':=s2.gens) (d':=s2.drawn) (t':=tk) (ch:=[]) (λb hb=>by cases hb) (λb ob _ _ _ l n1=>kp b ob (ne b n1) l) (λb ob _ _ _ l n1=>⟨ob.slots,kp b ob (ne b n1) l⟩)
  (λb ob _ l n1=>by rw[G b (ne b n1) (nd l)];exact n1) (λb ob _ l=>by
   by_cases w:b=e
   ·exact⟨_,by rw[w];exact ge⟩
   ·exact⟨ob,kp b ob w l⟩)
  (λb ys l=>by rw[G b (λw=>by rw[w,Y]at l;cases l) (nV l J)];exact l) (λb ob ys l=>by rw[G b (λw=>by rw[w,Y]at l;cases l) (nV l J)];exact l)
  (λb ps l=>⟨#[],by rw[G b (λw=>by rw[w,Y]at l;cases l) (nV l J),l];simp⟩)
  (λm hm=>by let⟨ob,es,ep,g1,r1⟩:=hm;exact⟨ob,es,ep,kp _ _ (λw=>by have:=I2.free;rw[w,Y]at this;cases this) g1,r1⟩) ?_ I2.bare
 intro b ob l;by_cases w:b=e
 ·subst w;unfold kF at l;rw[ik]at l;cases l;exact⟨ge,_,ge⟩
 ·by_cases o:b=E
  ·subst o;unfold kF at l;rw[e8 w,ik]at l;cases l;refine⟨_,ns,λg=>?_⟩
   show pj (([(f,y)]:List (Str×V)).lookup g) (if g=f then ξ u else ψ);by_cases q:g=f
   ·rw[aH q,q,kz];exact ry
   ·rw[aB q,rn,show (g == f)=ω from by simpa using q];exact trivial
  ·rw[G b w o]at l;refine (I2.hok b ob l).stay (λc u' hb L=>kp c u' (λQ=>?_) L) (λc L=>by rw[G c (λQ=>by rw[Q,Y]at L;cases L) (nV L J)];exact L) (λc ys L=>by rw[G c (λQ=>by rw[Q,Y]at L;cases L) (nV L J)];exact L);rcases hb with h|h
   ·exact w (h.symm.trans Q)
   ·rw[Q,Y]at h;cases h
def D4(C:ak)(f:Str):Sp:=λvs H Q _=>∃e v,vs=[.ref e,v]/\H e=ξ (.ext (qQ e C))/\∀g ob,H g=ψ->g≠e->ob.cls=.ref C->ob.dict=ξ g->FF ob->Q .non (kF H e g f v ob)
theorem Qh1{PG:Program}{K:Frag}(F:XF K x f C N P NP)(L:cv (.type "ValueError") f=pure ψ)(FI:L2.ww K "__init__" qual sd g u) (S:kh [n1,n2] [n1,n2] (bh sd)) (U:cn sd=[.Assign [.Attribute (.Name n1 J) f I] (.Name n2 G) z])(v1:Gu (bh sd) n1) (v2:Gu (bh sd) n2) (d1:(n1 == ("__debug__":Str))=ω) (d2:(n2 == ("__debug__":Str))=ω) (c1:(n1 == ("__classdict__":Str))=ω) (c2:(n2 == ("__classdict__":Str))=ω):iz PG w K mg base qF 1 g u [n1,n2] (D4 C f):=by
 refine FI.ok (k:=0) S (λvs H Q E h=>?_) (λl A outer s H vs Q E hr h=>?_)
 ·let⟨e,v,rfl,_⟩:=h;rfl
 ·let⟨e,v,rfl,O,q⟩:=h;rw[U];refine⟨_,Nn (T2 (X:=(oD qF PG w K mg base [n1,n2] qual (bh sd) g l A outer s H E).nox) F L (Ee (i:=0) rfl v1 d1 c1) (Ee (i:=1) rfl v2 d2 c2)) Lw,?_⟩;exact⟨v,rfl,.ref e,rfl,e,rfl,O,λG ob C z u o Y=>q G ob C z u o Y⟩
theorem Ue{Q:VK}{o:ak}(F:XF X.K x f C N P NP)(hi:nsIn X.K N (al "__init__")=ξ (ξ (.ref o)))(O:∃J,X.K.lookup o=ξ J/\J.cls=.type "function")(G:iz X.prog X.w X.K X.mg X.base qF 1 o fd ps (D4 C f)) (hr:gJ 2 X.A) (hb:Binds X.K fd ps []) (I:Inv X g σ H s) (r:RelV v u)(h:∀e E ob,H e=ψ->(X.ex=[]->X.s₀.heap.get? e=ψ)->H E=ψ->E≠e->ob.cls=.ref C->ob.dict=ξ E->FF ob->Q (.ref e) (kF (eE H e (.ext (qQ e C))) e E f v ob)):aF (aW X.prog X.w) X.A (call (.ref C) [u]) (EP X g σ Q) X.xe s:=by
 let⟨mN,mP,ch,pl,no,hN,L⟩:=F.ch I.kIn;let⟨J,lI,cI⟩:=O;refine Zl ch.c (Y6 ch L (Uh I.kIn hN hi) (I.kIn _ _ lI) cI (λh' e hz md=>?_) (show 1<=sizeLine by decide));let⟨t,ge,_,_⟩:=md.there;let I2:Inv X g σ (eE H e (.ext (qQ e C))) { s with heap:=h' }:=I.laid (t':=s.toks) md.keeps hz (show dQ X.prog X.w _ h' e (.ext (qQ e C)) from ⟨⟨_,_,ge,rfl,rfl⟩,⟨_,ge⟩,λY U y1 k=>by let⟨vs,sl,g1,g2⟩:=y1;exact⟨vs,sl,k _ g1,g2⟩⟩)
 let he:H e=none:=I.hok.fresh hz;let hq:D4 C f [.ref e,v] (eE H e (.ext (qQ e C))) (λz H2=>z=.non/\Q (.ref e) H2) E0:=⟨e,v,rfl,ik,λE ob Y U h3 h4 h5=>⟨rfl,h e E ob he (λ_=>Gg (bH I.sz hz)) (by rw[e8 U]at Y;exact Y) U h3 h4 h5⟩⟩
 let hl:⇑([aC e,u]++[])=⇑ps:=by have:=G.len _ _ _ _ hq;simpa using this
 refine kU (ma (G.run _ X.stack _ _ ⟨[.ref e,u],[]⟩ ([.ref e,u]++[]) [.ref e,v] _ E0 (hr.make C [u] []) (I2.env0.make C [u] []) (hb _ [.ref e,u] I2.kIn hl) (.cons rfl (.cons r .nil)) hq) λr s' l=>?_);cases r with|error e=>exact l.elim|ok fl=>
  cases fl with
  |ret u2=>
   let⟨v2,H',I3,rv,ev,q3⟩:=I2.after l;subst ev;exact⟨rv,_,rfl,⟨V.ref e,H',I3,rfl,q3⟩⟩
  |next=>exact cZ l|brk=>exact cZ l|cont=>exact cZ l
theorem Qh3(F:XF X.K x f C N P NP)(hi:nsIn X.K N (al "__init__")=ξ (ξ (.ref L)))(E:∃O,X.K.lookup L=ξ O/\O.cls=.type "function")(G:iz X.prog X.w X.K X.mg X.base qF 1 L U ps (D4 C f)) (hr:gJ 2 X.A) (hb:Binds X.K U ps []) (hg:Gl X x) (hm:X.mg x=ξ (.ref C)) (ha:PA X [e] t) (J:(x == ("__debug__":Str))=false:=by decide)
  (he:az [e] X.env=[(ω,eval e X.env)]:=by rfl):PE X (.Call (.Name x p) [e] [] pos) (λσ H Q=>t σ H λvs z=>∃v,vs=[v]/\∀e l ob,z e=ψ->(X.ex=[]->X.s₀.heap.get? e=ψ)->z l=ψ->l≠e->ob.cls=.ref C->ob.dict=ξ l->FF ob->Q (.ref e) (kF (eE z e (.ext (qQ e C))) e l f v ob)):=by
 intro g s σ H Q I h;refine fG (FK I hg hm ?_ J);refine oO (h₀:=X.base) I.ok.mod.kin F.kp (gH (ha pos g s σ H _ I h) λus s1 o=>?_) he rfl;let⟨vs,z,Y,r,v,ev,q⟩:=o;refine⟨Y.kIn,?_⟩;subst ev;let⟨u,rfl,ru⟩:=vx r;exact Ue F hi E G hr hb Y ru q
theorem YI(hy : cv (.type "ValueError") f = pure ψ)(he : PE X e U)(hb : cG e f X.env (eval e X.env) = eval e X.env := by rfl):
  PE X (.Attribute e f pos) (λσ H Q=>U σ H λy g=>∃a G v ob x C N P NP,y=.ref a/\XF X.K x f C N P NP/\g a=ξ (.frz ob (.own a))/\ob.cls=.ref C/\ob.dict=ξ G/\(∃vs,ob.data=.fields vs)/\g G=ξ (.xd [(f,v)])/\Q v g):=by
 intro E s σ H Q I h;refine Uw hb (gH (he E s σ H _ I h) λu Y z=>?_);let⟨y,g,J,rx,a,G,v,ob,x,C,N,P,NP,ex,F,ea,oc,od,⟨vs,ov⟩,ed,q⟩:=z;subst ex;obtain rfl:u=aC a:=rx;let⟨mN,mP,ch,pl,no,hN,hpi⟩:=F.ch J.kIn;let⟨ga,_⟩:=(show dQ X.prog X.w g Y.heap a (.frz ob (.own a)) from J.hok a _ ea)
 let⟨mA,n1,rl⟩:=(show dQ X.prog X.w g Y.heap G (.xd [(f,v)]) from J.hok G _ ed)
 let l:=rl f;rw[kz]at l;cases O:mA f with|none=>rw[O]at l;exact l.elim|some u1=>
  rw[O]at l;let L:RelV v u1:=l;let⟨c0,d0,dd0,o⟩:=ob;cases oc;cases od;cases ov;refine ZA ch pl ga n1.ns O (λid z=>?_) no hy λtk=>⟨v,g,J.tok _,L,q⟩
  subst z;cases v<;>first|(let⟨_,z⟩:=L;cases z)|cases L
noncomputable def wL(C P:ak)(T:V):Bool:=match T with| .ref D=>decide (D=C)||decide (D=P)| .ty n=>["ValueError","Exception","BaseException","object"].contains n|_=>ω
theorem Py:CallR X (.builtin "isinstance") (λxs H Q=>∃a ob x f C N P NP T,xs=[.ref a,T]/\XF X.K x f C N P NP/\H a=ξ (.frz ob (.own a))/\ob.cls=.ref C/\(T=.ty "ValueError"\/∃D o q bs bm N L sub ab u dd k0 k1 k2 k3 k5,T=.ref D/\X.K.lookup D=ξ (fv o q D N bs bm θ L sub ab u dd k0 k1 k2 k3 k5 "ValueError.__new__"))/\Q (.bl (wL C P T)) H):=by
 intro U s σ H xs us Q I r h;let⟨a,ob,x,f,C,N,P,NP,T,rfl,F,ea,Y,l,q⟩:=h;let⟨mN,mP,ch,O,no,hN,hpi⟩:=F.ch I.kIn;let⟨ga,_⟩:=(show dQ X.prog X.w H s.heap a (.frz ob (.own a)) from I.hok a _ ea)
 cases r with|cons r1 r2=>
 cases r1;cases r2 with|cons r3 r4=>
 cases r4;rcases l with l|⟨D,o,q1,bs,bm,N',L,sub,ab,u,dd,k0,k1,k2,k3,k5,l,lD⟩
 ·subst l;cases r3;refine Qt ch O ga Y (λA E R tk g=>ai g) (λA E R tk g=>ai g) λtk=>?_;let G:(aC C::aC P::gE).contains (fM "ValueError")=wL C P (.ty "ValueError"):=by show _=θ;simp[gE]
  rw[G];exact⟨.bl _,H,I.tok _,rfl,q⟩
 ·subst l;cases r3;let h:=I.kIn _ _ lD;refine Qt ch O ga Y (λA E R tk g=>iJ (s:={ s with toks:=tk }) h g) (λA E R tk g=>?_) λtk=>?_
  ·unfold zC;dsimp only;unfold Bf;exact aa (iE (s:={ s with toks:=tk }) h (ai g))
  ·let G : (aC C :: aC P :: gE).contains (aC D) = wL C P (.ref D) := by
     show _=(decide (D=C)||decide (D=P))
     rw[dq,dq];let z:gE.contains (aC D)=false:=rfl;rw[z,pE];let J:∀a b:ak,(aC a == aC b)=decide (a=b):=λa b=>by
      by_cases w:a=b
      ·subst w;rw[bV rfl];exact beq_self_eq_true _
      ·rw[aQ w];exact beq_eq_false_iff_ne.mpr (λz=>w (by injection z))
     rw[J,J]
   rw[G];exact⟨.bl _,H,I.tok _,rfl,q⟩
end
end MM
namespace MM
open PySem PySem.Spec PyProof.Rows L2
structure pW(x:Str):Prop where
 d:(x == ("__debug__":Str))=ω
 c:(x == ("__classdict__":Str))=ω
 n:x≠"__name__"
theorem nok(h:((x == ("__debug__":Str))||(x == ("__classdict__":Str))||decide (x=("__name__":Str)))=ω):pW x:=by rw[oA,oA]at h;exact⟨h.1.1,h.1.2,of_decide_eq_false h.2⟩
structure Sc(X:Cx)(sc:dU):Prop where
 vis:∀x k,sc.names.lookup x=ξ k->(k=.local\/k=.cell\/k=.free)->Gu X.env.scope x
 cel:∀x,(sc.names.lookup x=ξ .cell\/sc.names.lookup x=ξ .free)->(X.env.kindOf x=ξ .cell\/X.env.kindOf x=ξ .free)
 glo:∀x,sc.names.lookup x=ξ .globalImplicit->Gl X x
 loc:∀x k,sc.names.lookup x=ξ k->(k=.local\/k=.cell)->L2.Loc X.env.scope x/\(X.fn x=θ\/X.env.scope.names.lookup x=ξ .local)
 calm:X.calm=θ
theorem RS{K:aq}:Sc (oD qF P w K mg base N qual sc f l A outer s H E).nox sc where
 vis:=λx k h g=>by
  rcases g with z|z|z<;>subst z
  ·exact .inl h
  ·exact .inr (.inl h)
  ·exact .inr (.inr h)
 cel:=λx h=>h
 glo:=λx h=>h
 loc:=λx k h g=>⟨by rcases g with z|z<;>subst z;exact .inl h;exact .inr h,.inl rfl⟩
 calm:=rfl
theorem Tl{X:Cx}(o:X.calm=θ):Sc (oU X N scope fp s H) scope where
 vis:=λx k h l=>by
  show (i_ scope X.env).names.lookup x=_\/(i_ scope X.env).names.lookup x=_\/(i_ scope X.env).names.lookup x=_;rw[Ek,h,dJ];rcases l with z|z|z<;>subst z
  ·exact .inl rfl
  ·exact .inr (.inl rfl)
  ·by_cases g:(b6 == b6&&X.env.scope.kind == .function&&X.env.kindOf x == ξ .cell)=θ
   ·rw[aH g];exact .inr (.inl rfl)
   ·rw[aB g];exact .inr (.inr rfl)
 cel:=λx h=>by
  show (i_ scope X.env).names.lookup x=_\/(i_ scope X.env).names.lookup x=_;rcases h with h|h<;>rw[Ek,h,dJ]
  ·exact .inl rfl
  ·by_cases g:(b6 == b6&&X.env.scope.kind == .function&&X.env.kindOf x == ξ .cell)=θ
   ·rw[aH g];exact .inl rfl
   ·rw[aB g];exact .inr rfl
 glo:=λx h=>by show (i_ scope X.env).names.lookup x=_;rw[Ek,h,dJ];rfl
 loc:=λx k h l=>by
  refine⟨?_,.inl ?_⟩
  ·show (i_ scope X.env).names.lookup x=_\/(i_ scope X.env).names.lookup x=_;rw[Ek,h,dJ];rcases l with z|z<;>subst z
   ·exact .inl rfl
   ·exact .inr rfl
  ·show decide (scope.names.lookup x=ξ .local\/scope.names.lookup x=ξ .cell)=θ;rw[h];rcases l with z|z<;>subst z<;>decide
 calm:=o
noncomputable def tU(sc scope:dU):Bool:=
 (scope.kind == .function)&&scope.names.all (λp=>p.2 != .local||scope.names.lookup p.1 == ξ .local) &&
 scope.names.all (λp=>p.2 != .free||((sc.names.lookup p.1 == ξ .cell||sc.names.lookup p.1 == ξ .free) && !scope.names.contains (p.1,.cell)&&scope.names.lookup p.1 != ξ .local))
theorem RU(S:Sc X sc)(h:tU sc scope=θ):g_ X scope:=by
 unfold tU at h;rw[bo,bo]at h;let⟨⟨I,u⟩,o⟩:=h;rw[dX]at u o;let fr:∀x,(x,b6)∈scope.names->(sc.names.lookup x=ξ .cell\/sc.names.lookup x=ξ .free)/\(x,ip)∉scope.names/\scope.names.lookup x≠ξ .local:=λx g=>by have q:=o _ g;simp only[bne_self_eq_false,uk,bo,nK,beq_iff_eq,qM,bne_iff_ne,ne_eq]at q;let⟨⟨E,l⟩,C⟩:=q;refine⟨E,λz=>?_,C⟩;have:scope.names.contains (x,ip)=true:=vV.mpr z;rw[this]at l;cases l
 refine⟨by simpa using I,λp G H=>?_,λx g=>S.cel x (fr x g).1,λx g=>(fr x g).2.1,λx g=>(fr x g).2.2⟩;let q:=u p G;rw[H]at q;simpa using q
noncomputable def rD(g:List Str)(scope:dU)(N:List Str)(n:Nat)(ix:List Nat):Bool:=
 ⇑N == n+⇑ix&&(bU ⇑ix).all λj=>match ix[j]?,N[n+j]? with|some i,ξ x=>g[i]? == ξ x&&scope.names.lookup x == ξ .free|_,_=>ω
theorem Oz{X:Cx}{n:Nat}(u:X.N=l)(h:rD l scope N n ix=θ):j_ X scope N n ix:=by unfold rD at h;rw[bo,dX]at h;refine⟨by simpa using h.1,λj i x g o=>?_⟩;let q:=h.2 j (cC.mpr (ac.mp g).1);rw[g,o]at q;simp only[bo,beq_iff_eq]at q;rw[u];exact q
section
variable{pos p:Pos}{ca cb:CA}{T id:String}
theorem Lm(S:Sc X sc)(i:Nat)(l:X.N[i]?=ξ x)(h:sc.names.lookup x=ξ k)(n:pW x)(g:k=.local\/k=.cell\/k=.free:=by decide):SE X (.Name x pos) (am i):=Jr i (Ee l (S.vis x k h g) n.d n.c)
theorem XU(S:Sc X sc)(i:Nat)(l:X.N.Nodup)(u:X.N[i]?=ξ x)(h:sc.names.lookup x=ξ k)(g:k=.local\/k=.cell:=by decide):SG X (.Name x pos) (aT i):=
 QeX (Zq l u (S.loc x k h g).1 (S.loc x k h g).2)
theorem Z4(S : Sc X sc)(i : Nat)(u : X.N.Nodup)(E : X.N[i]? = ξ x)(h : sc.names.lookup x = ξ k)(C : SE X e fa)(l : k = .local \/ k = .cell := by decide)(z : fX e (ξ (.Name x g)) pos.line X.env = pure ω := by rfl):
  SS X (.Assign [.Name x g] e pos) (bM (aT i) fa):=RV u E (S.loc x k h l).1 C z (S.loc x k h l).2
theorem Xa{n:Nat}(h:∀l st ds g,ca l st=.ok ds g->⇑ds=n):∀l st ds g,au fa ca l st=.ok ds g->⇑ds=n+1:=λl st ds g e=>by
 unfold au bnd at e;cases q:fa l st with
 |ok d s1=>
  rw[q]at e;dsimp only at e;cases u:ca l s1 with
  |ok es s2=>
   rw[u]at e;have:=h l s1 es s2 u;cases e;simp[this]
  |exc _ _=>rw[u]at e;cases e|bad=>rw[u]at e;cases e
 |exc _ _=>rw[q]at e;cases e|bad=>rw[q]at e;cases e
theorem W2:∀l st ds g,bb l st=.ok ds g->⇑ds=0:=λl st ds g e=>by cases e;rfl
noncomputable def AU(K:aq)(g:b_)(ps:List Str):Prop:=∀(s:aj)(ws:List ae),⇑ws=⇑ps->sR s g ⟨[],ps.zip ws⟩ (ps.zip ws)
theorem Xs{k n:Nat}(S:Sc X sc)(h:sc.names.lookup x=ξ .globalImplicit)(F:iz X.prog X.w X.K X.mg X.base qF k f C ps (nX X.K n g))(G:gJ k X.A)(I:X.mg x=ξ (.ref f))(J:dh X.K (.ref f)=θ) (O:Binds X.K C ps []) (E:pW x) (Q:SA X (e::es) ca) (H:∀l st ds u,ca l st=.ok ds u->⇑ds=n)(L:az (e::es) X.env=(ω,eval e X.env)::az es X.env:=by rfl) (z:(dF pos (az es X.env)).any (·.1)=false:=by rfl):SE X (.Call (.Name x p) (e::es) [] pos) (bj g ca):=
 Tj F G (S.glo x h) I J O Pe Q H E.d L z
end
theorem Ya{k:Nat}{X:Cx}(h:gJ k X.A):X.A.units+60 < cO:=by have:=h.units;ext
theorem SW{K:aq}{k n m:Nat}(F:ww K x qual sd f o)(S:kh N ps (bh sd))(u:⇑ps=n)(z:⇑N=m)(h:∀(l:ae)(A:bx)(outer:List Env)(s:aj)(H:Hp)(E:XK),o.code=l->gJ k (A.deeper (kB qual (bh sd) ↥s f l))->wS (oD qF P w K mg base N qual (bh sd) f l A outer s H E).nox (cn sd) g):iz P w K mg base qF (k+1) f o ps (nX K n (bR m g)):=by
 subst u z;exact UF F S h
theorem RG{K:aq}:∀(ns:List Int),bQ K ρ H (ns.map V.int) (ns.map D.int)
 |[]=>.nil|n::ns=>.cons ↑n (RG ns)
theorem Zb{K:aq}{ns:List Int}{g:List D->M D}(C:xU H)(u:ie K H a (ns.map V.int))(h:∃l,g [.lit (ns.map D.int)] []=.ok (.bl θ) l):nX K 1 g [.ref a] H (λv _=>v=.bl θ) λ_ _ _=>False:=by
 let⟨l,e⟩:=h;let fz:xG K H a (ns.map V.int):=by
  rcases u with (h|⟨o,h⟩)|h
  ·rcases C a with z|⟨ob,xs,z⟩<;>(rw[z]at h;cases h)
  ·exact .inl ⟨o,h⟩
  ·exact .inr h
 refine⟨rfl,[],[],_,⟨rfl,oC,λn b o z=>by cases z⟩,.cons (.lit fz (RG ns)) .nil,?_⟩;rw[e];intro ρ' H' _ _ v rv;cases rv;rfl
@[elab_as_elim] def Hu{A:Type}{P:List A->Prop}(h:∀a,P [a])(g:List A)(l:⇑g=1):P g:=by
 cases g with
 |nil=>cases l
 |cons a t=>cases t with|nil=>exact h a|cons b u=>simp at l
@[elab_as_elim] def Cv{A:Type}{P:List A->Prop}(h:∀u o,P [u,o])(g:List A)(l:⇑g=2):P g:=by
 cases g with|nil=>cases l|cons a t=>exact Hu (P:=λt=>P (a::t)) (h a) t (mn l)
@[elab_as_elim] def KZ{A:Type}{P:List A->Prop}(h:∀z u o,P [z,u,o])(g:List A)(l:⇑g=3):P g:=by
 cases g with|nil=>cases l|cons a t=>exact Cv (P:=λt=>P (a::t)) (h a) t (mn l)
@[elab_as_elim] def le4{A:Type}{P:List A->Prop}(h:∀C z u o,P [C,z,u,o])(g:List A)(l:⇑g=4):P g:=by
 cases g with|nil=>cases l|cons a t=>exact KZ (P:=λt=>P (a::t)) (h a) t (mn l)
structure Au(K:aq)(x qual:Str)(st:Stmt)(f:ak)(fd:b_)(u:ae):Prop where
 ex:∃(oc:ae)(od:Option ak)(kV doc pm:ae)(an:Option ak)(cdv ct:ae)(osl:Array (Option ae))(T:ak)(o:Obj)(n:Nat),
  fd=dv x qual (dH st) (cn st) (bh st) (.ref T) kV doc pm an cdv ct/\K.lookup f=ξ ⟨oc,od,.func fd,osl⟩/\gY K cdv qual=θ/\K.lookup T=ξ o/\o.data=.seq #[u] n
 kp:dh K (.ref f)=θ
section
variable{K:aq}{st:Stmt}{ps:List Str}
theorem Au.binds(F:Au K x qual st f fd u)(h:∀(T:ak)(kV g C:ae)(E:Option ak)(l ct:ae)(z:List ae),⇑(z++ds)=⇑ps->∃k:Option (Array ae)->Sem (List (Str×ae)),ly (dv x qual (dH st) (cn st) (bh st) (.ref T) kV g C E l ct) ⟨z,[]⟩=qJ (.ref T) >>= k/\k (ξ #[u])=pure (ps.zip (z++ds))):Binds K fd ps ds:=by
 let⟨Y,U,kV,g,C,E,l,ct,G,T,o,n,rfl,lk,J,lt,H⟩:=F.ex;intro s z Q I;let⟨k,O,L⟩:=h T kV g C E l ct z I;exact sR.of_defaults (T:=T) rfl (Q T o lt) H O L
theorem ZF{kV h C g ct:ae}{n:Nat}(l:K.lookup f=ξ ⟨H,G,.func (dv x qual (dH st) (cn st) (bh st) (.ref T) kV h C E g ct),z⟩)(c:gY K g qual=θ) (k:dh K (.ref f)=θ) (lt:K.lookup T=ξ o) (I:o.data=.seq #[u] n):Au K x qual st f (dv x qual (dH st) (cn st) (bh st) (.ref T) kV h C E g ct) u:=
 ⟨⟨H,G,kV,h,C,E,g,ct,z,T,o,n,rfl,l,c,lt,I⟩,k⟩
end
section
theorem Qil{k n:Nat}{i:Int}(S:Sc X sc)(h:sc.names.lookup x=ξ .globalImplicit)(F:iz X.prog X.w X.K X.mg X.base qF k f E ps (nX X.K n g))(L:gJ k X.A)(U:X.mg x=ξ (.ref f))(hk:dh X.K (.ref f)=θ) (hb:Binds X.K E ps [u]) (hu:RelV ↑i u) (I:pW x) (ha:SA X (e::es) ca) (O:∀l st ds z,ca l st=.ok ds z->⇑ds+1=n)(he:az (e::es) X.env=(ω,eval e X.env)::az es X.env:=by rfl) (C:(dF pos (az es X.env)).any (·.1)=false:=by rfl):SE X (.Call (.Name x p) (e::es) [] pos) (p9 g ca ↑i):=
 (M6 F L (S.glo x h) U hk hb (.cons hu .nil) Pe ha I.d he C).of λσ H Q h_=>h_.el λρ l st J G p=>⟨ρ,l,st,J,G,by
  let q:=ba.bnd p;cases o:ca l st with|bad=>rw[o]at q;exact q|exc _ _=>rw[o]at q;exact q|ok ds df=>
   rw[o]at q;intro ρ1 H1 x1 s1 vs rvs;let Y:=O l st ds df o;exact⟨by rw[aK,⇑rvs];exact Y,ρ1,df,ds++[.int i],s1,bQ.app rvs (.cons ↑i .nil),q ρ1 H1 x1 s1⟩⟩
end
end MM
namespace MM
open PySem PySem.W PyProof.Rows L2
section
variable{K:Frag}{H H1:Hp}{st:aY}
theorem Ex.more(h:∀b o,H b=ξ o->H1 b=ξ o):Ex ρ H ρ H1:=
 ⟨⟨[],by simp,by simp⟩,λb u _ e=>h b u e,λb u _ e=>h b u e,λb u e=>⟨u,h b u e,rfl⟩⟩
theorem SR.more(s:SR K ρ H st)(h:∀b o,H b=ξ o->H1 b=ξ o):SR K ρ H1 st:=
 ⟨s.len,s.nd,λn b ob l g=>rO.mono (o:=ob) (Ex.more (ρ:=ρ) h).up (s.ob n b ob l g) λu q=>h b u q⟩
theorem Zn(g:H e=ψ)(hd:H h=ψ):∀b u,H b=ξ u->kF (eE H e o) e h f v ob b=ξ u:=λb u q=>by unfold kF;rw[e8 (nV q g),e8 (nV q hd),e8 (nV q g)];exact q
end
section
variable{X:Cx}{x f y:Str}{C N P NP D:ak}{xs:List Str}
theorem Qin(F : XF X.K x f C N P NP)(O : cv (.type "ValueError") f = pure ψ)(ha : SE X e fa)(hb : cG e f X.env (eval e X.env) = eval e X.env := by rfl):
  SE X (.Attribute e f pos) (c1 (uS x f) fa):=
 (YI O ha hb).of λσ H Q h_=>h_.el λρ l st L E q=>⟨ρ,l,st,L,E,q.bnd.imp λd u ρ1 H1 x1 G h v I=>by
  cases I with
  |@exn a C' dx x' f' v' d' g hh h2 r=>
   let⟨⟨rfl,rfl⟩,J⟩:=h.chk;let⟨o,Y,hc,hd,U⟩:=hh;let eC:C'=C:=by have:=g.symm.trans F.gl;injection this with t;injection t with t;injection t
   subst eC;exact⟨a,dx,v',o,_,_,_,_,_,rfl,F,Y,hc,hd,U.imp λ_ z=>z.1,h2,J.ret G _ r⟩
  |_=>exact h.elim⟩
structure XO(K:Frag)(y:Str)(D:ak):Prop where
 gl:nsIn K bN y=ξ (ξ (.ref D))
 ob:∃N bm q bs sn sub ab col dd k0 k1 k2 k3 k5,K.lookup D=ξ (fv y q D N bs bm θ sn sub ab col dd k0 k1 k2 k3 k5 "ValueError.__new__")
theorem XF.xo(F:XF X.K x f C N P NP):XO X.K x C:=⟨F.gl,_,_,F.ob⟩
theorem XF.xp(F:XF X.K x f C N P NP):XO X.K "PactError" P:=⟨F.glP,_,_,F.obP⟩
theorem XO.iff{K:Frag}{C D:ak}(a:XO K x C)(b:XO K y D):decide (D=C)=(x == y):=by
 by_cases z:x=y
 ·subst z;let e:C=D:=by have:=a.gl.symm.trans b.gl;injection this with t;injection t with t;injection t
  rw[e];simp
 ·rw[aQ (λw=>?_),beq_eq_false_iff_ne.mpr z];subst w;let⟨N,bm,q,bs,C,sub,ab,O,dd,k0,k1,k2,k3,k5,l⟩:=a.ob;let⟨N',U,q',Q,u,g,Y,o,L,J,I,H,G,E,h⟩:=b.ob;rw[l]at h;injection h with t
  injection t with _ _ t _
  injection t with t
  injection t with t
  exact z t
theorem IY{H:Hp}{Q:VK}(B:∀x∈xs,∃f C N P NP,XF X.K x f C N P NP)(hx:z∈xs)(g:nsIn X.K bN z=ξ (ξ (.ref C')))(hh:∃o,H a=ξ (.frz o (.own a))/\o.cls=.ref C')(hT:T=.ty "ValueError"\/∃y D,T=.ref D/\XO X.K y D) (q:∀P,XO X.K z C'->XO X.K "PactError" P->Q (.bl (wL C' P T)) H):∃b ob x f C N P NP E,[V.ref a,T]=[.ref b,E]/\XF X.K x f C N P NP/\H b=ξ (.frz ob (.own b))/\ob.cls=.ref C/\(E=.ty "ValueError"\/∃D nm q bs bm N G sub ab u dd Y U L J I,E=.ref D/\X.K.lookup D=ξ (fv nm q D N bs bm θ G sub ab u dd Y U L J I "ValueError.__new__"))/\Q (.bl (wL C P E)) H:=by
 let⟨f,C,N,P,NP,F⟩:=B z hx;let⟨o,ho,hc⟩:=hh;let eC:C'=C:=by have:=g.symm.trans F.gl;injection this with t;injection t with t;injection t
 subst eC;refine⟨a,o,z,f,C',N,P,NP,T,rfl,F,ho,hc,?_,q P F.xo F.xp⟩;rcases hT with h|⟨y,D,h,O⟩
 ·exact .inl h
 ·let⟨N,bm,q,bs,G,sub,ab,u,dd,Y,U,L,J,I,l⟩:=O.ob;exact .inr ⟨D,y,q,bs,bm,N,G,sub,ab,u,dd,Y,U,L,J,I,h,l⟩
theorem T5(B:∀x∈xs,∃f C N P NP,XF X.K x f C N P NP)(hg:Gl X "isinstance")(hm:X.mg "isinstance"=ψ)(hv:b5 "isinstance"=ξ (.builtin "isinstance"))(J:Gl X "ValueError")(I:X.mg "ValueError"=ψ)(E:b5 "ValueError"=ξ (.type "ValueError"))(ha:SE X e fa)(U:az [e,.Name "ValueError" p1] X.env=(ω,eval e X.env)::az [.Name "ValueError" p1] X.env:=by rfl) (L:az [.Name "ValueError" p1] X.env=(ω,eval (.Name "ValueError" p1) X.env)::az [] X.env:=by rfl) (G:(dF pos (az [.Name "ValueError" p1] X.env)).any (·.1)=false:=by rfl):
  SE X (.Call (.Name "isinstance" p) [e,.Name "ValueError" p1] [] pos) (c1 (rL xs λ_=>θ) fa):=
 (C0 Py hg hm hv (qy ha (qy (Pk (v:=.ty "ValueError") J I E rfl (by decide) (by decide)) ua L) U) (by decide) (by decide) U G).of λσ H Q h_=>h_.el λρ l st lr sr q=>⟨ρ,l,st,lr,sr,q.bnd.imp λd df ρ1 H1 x1 O u v rv=>by
  cases rv with
  |@exn a C' dx x' f' v' d' g hh Y r=>
   let⟨z,h⟩:=u.chk;let⟨o,ho,hc,_⟩:=hh;exact IY B z g ⟨o,ho,hc⟩ (.inl rfl) λP h1 Y=>h.ret O _ (.bl _)
  |@exn0 a C' x' g hh=>
   let⟨z,h⟩:=u.chk;exact IY B z g hh (.inl rfl) λP h1 Y=>h.ret O _ (.bl _)
  |_=>exact u.elim⟩
end
noncomputable def rG(es:Array kl)(ns:List Str):Bool:=es.toList.all λe=>match e.key with| .str n _ => !(ns.contains n)|_=>ω
section
variable{K:Frag}{ep:Nat}
theorem Y9(h:rG es ns=θ):StrKeys es:=λe g=>by
 have:=dX.mp h e (Array.mem_toList_iff.mpr g);cases k:e.key with|str n t=>exact⟨n,t,rfl⟩|_=>rw[k]at this;cases this
theorem Tf(l:K.lookup N=ξ ⟨o,d,.dict es ep,sl⟩)(h:rG es ns=θ)(C:n∈ns):nsIn K N n=ξ none:=by
 let a:∀e∈es.toList,e.key.isStr n=ω/\e.refKey=false:=λe g=>by
  have:=dX.mp h e g;let⟨hh,k,v⟩:=e;cases k with
  |str m t=>
   let u:(!(ns.contains m))=true:=this;refine⟨?_,rfl⟩
   show (m == n)=ω;refine beq_eq_false_iff_ne.mpr λz=>?_;subst z;rw[vV.mpr C]at u;cases u
  |_=>cases this
 unfold nsIn;rw[l];dsimp only;rw[List.find?_eq_none.mpr λe g=>by rw[(a e g).1];exact bc];dsimp only;rw[aB];intro z;let⟨e,g,t⟩:=eQ.mp z;rw[(a e g).2]at t;cases t
theorem RT(l:K.lookup N=ξ ⟨o,d,.dict es ep,sl⟩)(h:rG es ns=θ):uM K N:=⟨_,_,_,_,_,l,Y9 h⟩
end
theorem Wt{K:Frag}{bs bs':List ae}{sub u:List ae}{ep ep':Nat}(g:nsIn K bN x=ξ (ξ (.ref C))) (l:K.lookup C=ξ (fv x q C N bs (.ref P::gE) θ sn sub ab col dd k0 k1 k2 k3 k5 "ValueError.__new__")) (lN:K.lookup N=ξ ⟨o,d,.dict es ep,sl⟩) (h:rG es ns=θ) (kp:keepIn K (.ref C)=θ)(g':nsIn K bN "PactError"=ξ (ξ (.ref P))) (l':K.lookup P=ξ (fv "PactError" q' P NP bs' gE θ H u ab' G dd' U Q O L J "ValueError.__new__")) (z:K.lookup NP=ξ ⟨o',d',.dict E ep',I⟩) (h':rG E fs=θ)(s1:∀n∈([al "__getattribute__",al "__getattr__",al "__setattr__",al "__class__",f]:List Str),n∈ns:=by nofun)
  (s2:∀n∈([al "__getattribute__",al "__getattr__",al "__setattr__",al "__class__",f,al "__init__",al "args"]:List Str),n∈fs:=by nofun):XF K x f C N P NP where
 gl:=g
 ob:=⟨_,_,_,_,_,_,_,_,_,_,_,_,l⟩
 obP:=⟨_,_,_,_,_,_,_,_,_,_,_,_,l'⟩
 glP:=g'
 sN:=RT lN h
 sP:=RT z h'
 nn:=λn Y=>Tf lN h (s1 n Y)
 np:=λn Y=>Tf z h' (s2 n Y)
 kp:=kp
end MM
namespace MM
open PySem PySem.Spec PyProof.Rows L2
noncomputable def Kt(h h':bC):Prop:=∀c o,h.get? c=ξ o->o.cls=.type "tuple"->h'.get? c=ξ o
structure NU(prog:Program)(w:bJ)(K:Type)[DecidableEq K] where
 is:bC->K->ak->Prop
 hash:K->Int
 draws:K->Nat
 keep:∀{h h':bC}{k:K}{b:ak},Kt h h'->is h k b->is h' k b
 hashes:∀{A:bx}{E:ae->aj->Prop}{s:aj}{k:K}{b:ak}{Q:Int->aj->Prop},A.units+1 < cO->is s.heap k b->Q (hash k) { s with toks:=s.toks+draws k }->aF (aW prog w) A (pyHash (.ref b)) Q E s
 eqs:∀{A:bx}{E:ae->aj->Prop}{s:aj}{x y:K}{a b:ak}{Q:Bool->aj->Prop},A.units+1 < cO->is s.heap x a->is s.heap y b->Q (decide (x=y)) s->aF (aW prog w) A (eqBool (.ref a) (.ref b)) Q E s
 quiet:∀{A:bx}{E:ae->aj->Prop}{s:aj}{k:K}{b:ak}{Q:Bool->aj->Prop},is s.heap k b->Q θ s->aF (aW prog w) A (qI 8 (.ref b)) Q E s
 cls:∀{A:bx}{E:ae->aj->Prop}{s:aj}{k:K}{b:ak}{Q:Bool->aj->Prop},is s.heap k b->Q ω s->aF (aW prog w) A (ofAClassStatement 8 (.ref b)) Q E s
 byv:∀{A:bx}{E:ae->aj->Prop}{s:aj}{k:K}{b:ak}{Q:Bool->aj->Prop},is s.heap k b->Q θ s->aF (aW prog w) A (hashByValue 8 (.ref b)) Q E s
section
variable{prog:Program}{w:bJ}{K:Type}[DecidableEq K](T:NU prog w K)
variable{T}
variable{A:bx}{E:ae->aj->Prop}{s:aj}{a:ak}{fy:Bool}{m:Nat}{key:Nat->K}{es:Array (Int×ae)}
end
section
theorem items_int(h:ItemsAre (qG prog w) k vs):∀v∈vs,∃i t,v=iK i t:=by
 induction h with|nil=>simp|cons h1 h2 ih=>
  intro v g;rcases a_.mp g with z|z
  ·subst z;cases v with|int i t=>exact⟨i,t,rfl⟩|_=>cases h1
  ·exact ih v z
end
end MM
namespace MM
def uV(g:List D->M D):D->M D
 | .ref n=>bnd (getL n) g|_=>bad
noncomputable def insI(x:Int):List Int->List Int
 |[]=>[x]|y::ys=>if x<=y then x::y::ys else y::insI x ys
def sortI:List Int->List Int
 |[]=>[]|x::xs=>insI x (sortI xs)
def iO(ds:List D):M D:=match lE ds with|some ns=>chk (⇑ns < 64) (alloc (.lst ((sortI ns).map D.int)))|none=>bad
open PySem PySem.W PyProof.Rows L2
section
theorem Y7(h:CallR X b (Do X.K g)):CallR X b (λxs H Q=>∃v,xs=[v]/\zI X.K (uV g) v H Q):=h.of λxs H Q l=>by
 let⟨v,e,ρ,st,d,o,z,p⟩:=l;cases z with
 |@ref a n _ h=>
  let⟨ds,G,C⟩:=ba.getL (ba.bnd p) o;let⟨I,vs,u,E,r⟩:=o.seq G;rw[h]at u;cases u;exact⟨a,vs,ρ,st,ds,e,ie.of E,o,r,C⟩
 |_=>exact p.elim
end
section
variable{A:bx}{s:aj}{vs:List ae}
theorem XX{n:Nat}{P:uo->aj->Prop}(G:s.heap.get? a=ξ (iU "list" vs.toArray n))(O:⇑vs < 2)(h:∀h' c,(∀b o,b≠a->s.heap.get? b=ξ o->h'.get? b=ξ o)->h'.get? a=ξ (iU "list" vs.toArray c)->P (.done (.ret .none)) { s with heap:=h' }):aF (aW prog w) A (Builtin.«list.sort» ⟨[.ref a],[]⟩) P E s:=by
 let Q:a < ↥s:=aP G;obtain⟨C,u⟩:∃C,(s.heap.update a (eS λ_=>(#[]:Array ae))).get? a=ξ (iU "list" #[] C):=⟨_,JQ G λ_=>#[]⟩
 rw[list_sort_plain];refine aa (listItems_at G rfl ?_);refine aa (listUpdate_at G rfl ?_ (by rw[aG,gi];ext) (bn _));refine aa (seqEpoch_at u rfl ?_);refine aa (wpAny_newTuple ?_ (by show ⇑vs<=_;rw[gi];ext));refine aa (wpAny_newList ?_ (bn _));refine bT ?_
 show aF (aW prog w) A _ P E { s with heap:=((s.heap.update a (eS λ_=>(#[]:Array ae))).push (iU "tuple" vs.toArray 0)).push (iU "list" #[] 0) };dsimp only;let z:vs.toArray.size < 2:=by rw[aG];exact O
 rw[aH z,aH z];refine aa (ai ?_);let H:(((s.heap.update a (eS λ_=>(#[]:Array ae))).push (iU "tuple" vs.toArray 0)).push (iU "list" #[] 0)).get? a=ξ (iU "list" #[] C):=av _ (av _ u);refine aa ?_
 show aF _ _ (pure (Unit.unit,_)) _ _ _;refine ai ?_;dsimp only;let l:∀g:List ae,⇑g < 2->(arrOf (SortSt.mk' general' (g.toArray.zip g.toArray) #[] 7 ψ)).map (·.2)=g.toArray:=λg hu=>by
  show (g.toArray.zip g.toArray).map (·.2)=_;cases g with
  |nil=>simp
  |cons x t=>cases t with|nil=>simp|cons y t=>simp only[cm]at hu;ext
 rw[l vs O];refine aa (seqEpoch_at H rfl ?_);refine aa (listUpdate_at H rfl ?_ (bn _) (by rw[aG,gi];ext))
 show aF _ _ (if (C != C)=θ then _ else _) _ _ _;rw[aB (by simp)];obtain⟨c2,I⟩:∃c2,((((s.heap.update a (eS λ_=>(#[]:Array ae))).push (iU "tuple" vs.toArray 0)).push (iU "list" #[] 0)).update a (eS λ_=>vs.toArray)).get? a=ξ (iU "list" vs.toArray c2):=⟨_,JQ H λ_=>vs.toArray⟩
 refine ai (h _ c2 (λb o J e=>?_) I);rw[o0 _ _ _ _ J];refine av _ (av _ ?_);rw[o0 _ _ _ _ J];exact e
theorem Qiw{Q:ae->aj->Prop}(F:Fr h₀ L s.heap m)(N:zo h₀ L s.heap fg)(G:s.heap.IsList l vs.toArray)(I:⇑vs < 64)(h:∀D h',Fr h₀ L h' m->zo h₀ L h' ((D,iU "list" vs.toArray 0)::fg)->(∀q∈fg,q.1 < D)->aF (aW prog w) A.in1 (call (.builtin "list.sort") [.ref D]) (λ_ s'=>Q (.ref D) s') E { s with heap:=h' }):aF (aW prog w) A (call (.builtin "sorted") [.ref l]) Q E s:=by
 refine tJ kind_sorted plain_sorted entry_sorted (args_sorted1 _) ?_;unfold Builtin.«sorted»;refine aa (m:=checkCount "sorted" 1 1 _) (ai ?_);refine aa (collect_list G ?_ (by rw[gi];ext));refine aa (wpAny_newList ?_ (by rw[gi];ext));let hsz:((s.heap.push (iU "list" #[] 0)).update ↥s (eS (·++vs.toArray))).objs.size=↥s+1:=by rw[bC.size_update];simp[zY]
 let g:∀b o,s.heap.get? b=ξ o->((s.heap.push (iU "list" #[] 0)).update ↥s (eS (·++vs.toArray))).get? b=ξ o:=λb o q=>by have u:b < ↥s:=aP q;rw[o0 _ _ _ _ (bB u)];exact av _ q
 let H:=h _ (((s.heap.push (iU "list" #[] 0)).update ↥s (eS (·++vs.toArray))).push (iU "list" vs.toArray 0)) ((F.keeps g).push _) (zo.push (F.keeps g) (λp z=>⟨g _ _ (N p z).1,(N p z).2⟩) _ rfl) (λq C=>by rw[hsz];exact ke (aP (N q C).1));refine aa (bT (dN H (λ_ s' x=>?_) λ_ _ e=>e));exact ai ⟨_,rfl,x⟩
end
section
theorem Rg(I:L2.Inv X l σ H s)(F:Fr X.base X.env.locals s.heap m){D:ak}{c tk:Nat}{E:List ae}(F3:Fr X.base X.env.locals L m)(O:zo X.base X.env.locals L ((D,iU "list" E.toArray c)::ic X.base s.heap X.env.locals)) (hD:∀q∈ic X.base s.heap X.env.locals,q.1 < D) (hv:L2.bX vs E) (hsz:⇑vs<=sizeLine):H D=ψ/\L2.Inv X l σ (eE H D (.lst vs)) { s with heap:=L,toks:=tk }:=by
 let hDL:=(O _ (bK ..)).2.1;let Y:=(O _ (bK ..)).2.2;let J:s.heap.get? D=none:=by
  cases z:s.heap.get? D with|none=>rfl|some o=>exact bw (hD _ (IZ hDL Y z)) (cY _)
 let g:H D=none:=by
  cases z:H D with|none=>rfl|some o=>
   let⟨ob,e⟩:=IM (I.hok D o z);rw[J]at e;cases e
 let N4:zo X.base X.env.locals L (ic X.base s.heap X.env.locals):=λz hz=>O z (bD _ hz);let hD3:=(O _ (bK ..)).1;let kp:∀b o,b≠X.env.locals->s.heap.get? b=ξ o->L.get? b=ξ o:=λb o G e=>by
  cases z:X.base.get? b with
  |some u=>
   have:=F.keep b u z;rw[e]at this;cases this;exact F3.keep b _ z
  |none=>exact (N4 (b,o) (IZ G z e)).1
 let h:=I.free;refine⟨g,I.step (g':=s.gens) (d':=s.drawn) (t':=tk) (ch:=[]) (λb G=>by cases G) (λb o h1 _ _ e _=>kp b o h1 e) (λb o h1 _ _ e _=>⟨o.slots,kp b o h1 e⟩)
  (λb o _ e n1=>by rw[e8 (λz=>by rw[z,J]at e;cases e)];exact n1)
  (λb o _ e=>by
   by_cases z:b=X.env.locals
   ·let⟨o',_,_,U,_⟩:=F3.ns;exact⟨o',by rw[z];exact U⟩
   ·exact⟨o,kp b o z e⟩)
  (λb ys e=>by rw[e8 (nV e g)];exact e) (λb o ys e=>by rw[e8 (nV e g)];exact e) (λb ps e=>⟨#[],by rw[e8 (nV e g),e];simp⟩)
  (λm' hm=>by rw[<- QN F.ns hm];exact F3.ns) ?_ I.bare⟩
 intro b o e;by_cases z:b=D
 ·subst z;rw[ik]at e;cases e;exact⟨hsz,_,c,hv,hD3⟩
 ·rw[e8 z]at e;refine (I.hok b o e).stay (λc u G C=>kp c u (λQ=>?_) C) (λc C=>by rw[e8 (nV C g)];exact C) (λc ys C=>by rw[e8 (nV C g)];exact C);rcases G with y|y
  ·rw[y]at Q;rw[Q,h]at e;cases e
  ·rw[Q,h]at y;cases y
theorem SQ(x:Int):∀ys,(insI x ys).Perm (x::ys)
 |[]=>.refl _
 |y::ys=>by
  unfold insI;split
  ·exact .refl _
  ·exact ((SQ x ys).cons y).trans (.swap x y ys)
theorem IF:∀xs,(sortI xs).Perm xs
 |[]=>.refl _|x::xs=>(SQ x (sortI xs)).trans ((IF xs).cons x)
theorem Qn{x a:Int}:∀{ys:List Int},a<=x->(ys.all λb=>decide (a<=b))=θ->((insI x ys).all λb=>decide (a<=b))=θ
 |[],h,_=>by simp[insI,h]
 |y::ys,h,k=>by
  rw[bO,bo]at k;unfold insI;split
  ·rw[bO,bO,k.1,k.2];simp[h]
  ·rw[bO,k.1,Qn h k.2];rfl
theorem Ry(x:Int):∀{ys:List Int},vi ys=θ->vi (insI x ys)=θ
 |[],_=>rfl
 |y::ys,h=>by
  let h':=h;unfold vi at h;rw[bo]at h;unfold insI;split
  ·rename_i g;unfold vi;rw[h',bO,pK,bo];refine⟨by simp[g],?_⟩;rw[dX];intro b l;have:=dX.mp h.1 b l;simp only[decide_eq_true_eq]at this ⊢;ext
  ·rename_i g;unfold vi;rw[Ry x h.2,pK];exact Qn () h.1
theorem PZ:∀xs,vi (sortI xs)=θ
 |[]=>rfl|x::xs=>Ry x (PZ xs)
theorem RP:∀{ns:List Int}{g:List ae},L2.bX (ns.map V.int) g->lks_nums g=ns/\kf_ints g=θ
 |[],_,.nil=>⟨rfl,rfl⟩|n::ns,_,.cons r t=>by let⟨tk,e⟩:=r;subst e;let⟨l,h⟩:=RP t;exact⟨by rw[lks_nums.eq_def];dsimp only;rw[l],by rw[kf_ints.eq_def];exact h⟩
theorem So:∀(ns:List Int)(i:Nat)(t:Nat->Tok),L2.bX (ns.map V.int) (lks_vals ns i t)
 |[],_,_=>.nil|v::vs,i,t=>by rw[aX,lks_vals.eq_2];exact .cons ⟨_,rfl⟩ (So vs (i+1) t)
theorem VY:CallR X (.builtin "sorted") (λxs H Q=>∃(l:ak)(ns:List Int),xs=[.ref l]/\ie X.K H l (ns.map V.int)/\⇑ns < 64/\∀q,H q=ψ->Q (.ref q) (eE H q (.lst ((sortI ns).map V.int)))):=by
 intro ah s σ H xs us Q I r h;let⟨l,ns,rfl,hq,U,q⟩:=h;let⟨u,rfl,rx⟩:=vx r;cases rx;let⟨its,J,pl,hz⟩:=I.list hq;let l1:=⇑J;rw[af]at l1;let⟨m,F⟩:=I.fr;let N:zo X.base X.env.locals s.heap (ic X.base s.heap X.env.locals):=SK;refine Qiw (vs:=its) F N pl.isList () λD h' O G L=>?_;let sl:∀k,k < 64->k<=sizeLine:=λk hk=>bH (nD hk) (by decide);let pm:=(IF ns).length_eq;cases ns with
 |nil=>
  cases J;let ho:=(G _ (bK ..)).1;refine cR slot_list_sort ⟨_,ho,rfl⟩ entry_list_sort (XX (vs:=[]) ho (by simp) λh2 c kp hc=>?_) (args_list_sort _);let E:=(G _ (bK ..)).2.1;let C:=(G _ (bK ..)).2.2;let F3:Fr X.base X.env.locals h2 m:=by let⟨o,es,ep,e1,Y⟩:=O.ns;refine⟨⟨o,es,ep,kp _ o (du E) e1,Y⟩,λb u z=>kp b u (λzz=>?_) (O.keep b u z),O.above⟩;subst zz;exact bw (C.symm.trans z) (λk=>(by cases k))
  let N3:zo X.base X.env.locals h2 ((D,iU "list" ([]:List ae).toArray c)::ic X.base s.heap X.env.locals):=λz hz=>by
   rcases a_.mp hz with e|e
   ·subst e;exact⟨hc,E,C⟩
   ·have:=G z (bD _ e);exact⟨kp _ _ (bB (L z e)) this.1,this.2⟩
  let⟨g,I3⟩:=Rg (tk:=s.toks) (vs:=[]) I F F3 N3 L .nil (bn _);exact⟨.none,rfl,.ref D,_,I3,rfl,q D g⟩
 |cons n0 nt=>
  let⟨e1,Y⟩:=RP J;refine lks_sort (D:=D) (its:=its.toArray) (n:=0) (q:=sortI (n0::nt)) O G (λt=>Upd.head λz hz=>bB (L z hz)) Y (by unfold lks_ok;rw[e1,PZ,pK,List.isPerm_iff];exact (IF _).symm) (by cases J;rfl) (by show ⇑its < 64;ext) λt h3 F3 N3=>?_;let⟨g,I3⟩:=Rg (tk:=s.toks) I F F3 N3 L (So _ 0 t) (by rw[af,pm];exact sl _ U);exact⟨.ref D,_,I3,rfl,q D g⟩
theorem R9{K:aq}:∀(ns:List Int),bQ K ρ H (ns.map V.int) (ns.map D.int)
 |[]=>.nil|n::ns=>.cons ↑n (R9 ns)
theorem Vk:CallR X (.builtin "sorted") (Do X.K iO):=VY.of λxs H Q g=>by
 let⟨a,vs,ρ,st,ds,e,G,h,r,p⟩:=g;unfold iO at p;cases q:lE ds with|none=>rw[q]at p;exact p.elim|some ns=>
  rw[q]at p;let⟨u,C⟩:=ba.chk p;let I:=NG q r;subst I;refine⟨a,ns,e,G,u,λl o=>?_⟩;let E:=h.fresh o;let z:SR X.K (ρ++[l]) (eE H l (.lst ((sortI ns).map V.int))) (st++[.lst ((sortI ns).map D.int)]):=(h.new o).keep ik E (R9 _);refine C _ _ (Ex.newL o) z _ (.ref ⟨_,ik,rfl⟩ ?_);rw[<- h.len];simp
end
end MM
namespace MM
open PySem
noncomputable def BH:MO->Bool
 | .clo _ _=>θ|_=>ω
def GH(o:MO):MO:=if BH o=θ then .ded else o
def Ho(n:Nat)(s:aY):aY:=s.take n++(s.drop n).map GH
noncomputable def F9(s:aY)(i:Nat)(o:MO):MO:=match s[i]? with|some (.clo c v)=>.clo c v|_=>o
open Classical in
def Dg(g:List D->M D)(vs ds:List D):M D:=λs=>match g (ds++vs) (Ho 0 s) with| .ok r s2=>if ∀(i:Nat)(o:MO),s[i]?=ξ o->BH o=θ->s2[i]?=ξ MO.ded then .ok r (s2.mapIdx (F9 s)) else .bad|_=>.bad
structure RK where
 n:Nat
 k:Nat
 g:List D->M D
structure RL where
 n:Nat
 k:Nat
 g:List D->M D
noncomputable abbrev WT:=List (Expr×RL)×List (uU×RK)
open PySem.Spec PyProof.Rows L2
noncomputable def BMod(base:bC)(mg:Str->Option ae):Prop:=∃bm ob,mg "__builtins__"=ξ (.ref bm)/\bm≠rV/\base.get? bm=ξ ob/\ob.cls=.type "module"/\ob.dict=ξ rV/\ob.data=.plain
section
variable{X:Cx}
def NM(X:Cx)(x:Str):Prop:=∃f o g c P,iT X.K bN x=ξ (ξ (.ref f))/\X.K.lookup f=ξ o/\o.data=.func g/\g.code=.ref c/\qp X.K c P=θ/\X.env.code=.ref c/\X.env.qual=x++".<locals>."/\BMod X.base X.mg
def Fo(P:Program)(w:bJ)(K:aq)(mg:Str->Option ae)(base:bC)(k n:Nat)(e:Expr)(g:List D->M D):Prop:=
 ∀(ps:Ik)(b:Expr)(sc:dU)(pos:Pos)(q:Str)(c:ak)(l ct:ae),e=.Lambda ps b sc pos->∀(A:bx)(outer:List Env)(s:aj)(H:Hp)(a:ak)(h:List ae)(vs:List V)(Q:VK),gJ k A->tP P w K mg base A outer s H ->
  H a=ξ (.frz (xM "<lambda>" q ps b sc [] l c ct) (.own a))->sG H c q->bX vs h->nX K n g vs H Q E0->l_ (aW P w) A (.call (.ref a) ⟨h,[]⟩) (CR qF outer P w H s Q E0) s
end
def FE(P:Program)(w:bJ)(K:aq)(mg:Str->Option ae)(base:bC)(k n:Nat)(c:uU)(g:List D->M D):Prop:=
 ∀(A:bx)(outer:List Env)(s:aj)(H:Hp)(ρ:List ak)(st:aY)(m:Nat)(a:ak)(h ds:List D)(l:List ae)(vs:List V)(Q:VK),gJ k A->tP P w K mg base A outer s H->SR K ρ H st->ρ[m]?=ξ a->st[m]?=ξ (.clo c h) ->
  bQ K ρ H vs ds->bX vs l->⇑ds=n->ba K ρ H (Dg g h ds st) (λr _ ρ' o=>∀v,da K ρ' o v r->Q v o)->l_ (aW P w) A (.call (.ref a) ⟨l,[]⟩) (CR qF outer P w H s Q E0) s
set_option genInjectivity false in
structure RF where
 n:Nat
 k:Nat
 ps:List Str
 kw:Bool
 g:List D->M D
set_option genInjectivity false in
structure RC where
 sc:dU
 N:List Str
 k:Nat
 G:List (Str×RF)
 Z:List Str
 C:List (Str×D)
 H:List (Nat×Nat×Nat)
 top:Bool
 W:WT
 T:Option (Nat×Str)
noncomputable def RC.tag(c:RC)(p:Pos)(t:Nat):Bool:=c.H.contains (p.line,p.col,t)
noncomputable def RC.glo(c:RC)(x:Str):Bool:=c.sc.names.lookup x == ξ .globalImplicit
noncomputable def nj(x:Str):Bool := !((x == ("__debug__":Str))||(x == ("__classdict__":Str))||decide (x=("__name__":Str)))
theorem uv(h:nj x=θ):pW x:=nok (by unfold nj at h;simpa only[qM] using h)
def Ec(K:aq)(g:b_)(ps:List Str):Prop:=if ps.getLast?=ξ (al "most") then ∃u,RelV ↑500 u/\Binds K g ps [u] else AU K g ps
structure GF(P:Program)(w:bJ)(K:aq)(mg:Str->Option ae)(base:bC)(x:Str)(r:RF):Prop where
 ex:∃f fd,mg x=ξ (.ref f)/\iz P w K mg base qF r.k f fd r.ps (nX K r.n r.g)/\dh K (.ref f)=θ/\Binds K fd r.ps []/\(r.kw=θ->Ec K fd r.ps)
def Rq(P:Program)(w:bJ)(K:aq)(mg:Str->Option ae)(base:bC)(W:WT):Prop:=(∀e r,(e,r)∈W.1->Fo P w K mg base r.k r.n e r.g)/\∀c r,(c,r)∈W.2->FE P w K mg base r.k r.n c r.g
structure Good(X:Cx)(c:RC):Prop where
 S:Sc X c.sc
 N:X.N=c.N
 nd:X.N.Nodup
 hr:gJ c.k X.A
 G:∀x r,c.G.lookup x=ξ r->GF X.prog X.w X.K X.mg X.base x r
 Z:∀x,c.Z.contains x=θ->X.mg x=ψ
 C:∀x d,c.C.lookup x=ξ d->∃v u,X.mg x=ξ u/\RelV v u/\∀ρ H,da X.K ρ H v d
 ps:og (aW X.prog X.w) X.A X.env X.xe
 kd:c.top=θ->X.env.blockKind=.function/\∀x,X.env.kindOf x=c.sc.names.lookup x
 W:Rq X.prog X.w X.K X.mg X.base c.W
 T:∀t,c.T=ξ t->NM X t.2
theorem Good.hu(g:Good X c):X.A.units+60 < cO:=Ya g.hr
noncomputable def sx:Expr->Bool
 | .Starred .. => ω|_=>θ
theorem qP(h:sx e=θ):az (e::es) env=(ω,eval e env)::az es env:=by cases e<;>first|rfl|cases h
theorem Dk:∀{es:List Expr},es.all sx=θ->(dF pos (az es env)).any (·.1)=ω
 |[],_=>rfl|e::es,h=>by rw[bO,bo]at h;rw[qP h.1];exact Dk h.2
theorem Ro:∀{es:List Expr},es.all sx=θ->(dF pos (az es env)).all (λx => !x.1)=θ
 |[],_=>rfl|e::es,h=>by rw[bO,bo]at h;rw[qP h.1];exact Ro h.2
noncomputable def IE:Expr->Bool
 | .ListComp .. => ω| .SetComp .. => ω| .DictComp .. => ω|_=>θ
theorem DV{n:Nat}(h:IE e=θ):fX e t n env=pure false:=by cases e<;>first|rfl|cases h
noncomputable def Ca:Expr->Bool
 | .Set .. => ω|_=>θ
theorem JD(h:Ca e=θ)(x:ae):eI e env x=pure x:=by cases e<;>first|rfl|cases h
theorem L4(h:Ca e=θ):iX op e=false:=by cases e<;>first|rfl|cases h
noncomputable def EH:Expr->Bool
 | .Call _ [] _ _=>ω|_=>θ
theorem Jo(h:EH e=θ):cG e x env w=w:=by
 cases e with
 |Call f as ks p=>
  cases as with|nil=>cases h|cons a as=>unfold cG;cases f<;>rfl
 |_=>rfl
noncomputable def Jt:Expr->Bool
 | .Slice .. => ω|_=>θ
theorem F1(h:Jt e=θ):rj e:=by intro o i;cases e<;>first|rfl|cases h
noncomputable def Ky:Expr->Bool
 | .Compare .. => ω| .BoolOp .. => ω| .UnaryOp .. => ω| .IfExp .. => ω|_=>θ
theorem QK(h:Ky e=θ)(w:Sem ae):PySem.isTrue e env w=(do let v <- w;ve e.pos;oM [v] (truthy v)):=by cases e<;>first|rfl|cases h
abbrev GZ(c:RC)(x:Expr):={r:CE // ∀{X:Cx},Good X c->SE X x r}
abbrev RB(c:RC)(x:Expr):={r:CA // ∀{X:Cx},Good X c->SL X x r}
abbrev O6(c:RC)(x:Expr):={r:CT // ∀{X:Cx},Good X c->ST X x r}
abbrev KA(c:RC)(tg x:Expr):={r:CI // ∀{X:Cx},Good X c->SI X tg x r}
abbrev Ny(c:RC)(x:Expr):={r:CG // ∀{X:Cx},Good X c->SG X x r}
abbrev SJ(c:RC)(x:Stmt):={r:CS // ∀{X:Cx},Good X c->SS X x r}
set_option genInjectivity false in
structure oV where
 e:∀(c:RC)(x:Expr),Option (GZ c x)
 l:∀(c:RC)(x:Expr),Option (RB c x)
 t:∀(c:RC)(x:Expr),Option (O6 c x)
 i:∀(c:RC)(tg x:Expr),Option (KA c tg x)
 g:∀(c:RC)(x:Expr),Option (Ny c x)
 s:∀(c:RC)(x:Stmt),Option (SJ c x)
abbrev lP:=oV->∀(c:RC)(x:Expr),Option (GZ c x)
abbrev Du:=oV->∀(c:RC)(x:Expr),Option (RB c x)
abbrev E_:=oV->∀(c:RC)(x:Expr),Option (O6 c x)
abbrev yS:=oV->∀(c:RC)(tg x:Expr),Option (KA c tg x)
abbrev Jm:=oV->∀(c:RC)(x:Expr),Option (Ny c x)
abbrev zm:=oV->∀(c:RC)(x:Stmt),Option (SJ c x)
set_option genInjectivity false in
structure nA where
 e:List lP
 l:List Du
 t:List E_
 i:List yS
 g:List Jm
 s:List zm
noncomputable def vq{α β:Type}(f:α->Option β):List α->Option β
 |[]=>ψ
 |a::as=>match f a with|some b=>ξ b|none=>vq f as
def py(R:nA):Nat->oV
 |0=>⟨λ_ _=>ψ,λ_ _=>ψ,λ_ _=>ψ,λ_ _ _=>ψ,λ_ _=>ψ,λ_ _=>ψ⟩
 |n+1 => ⟨λc x => vq (λr => r (py R n) c x) R.e, λc x => vq (λr => r (py R n) c x) R.l, λc x => vq (λr => r (py R n) c x) R.t,
   λc tg x=>vq (λr=>r (py R n) c tg x) R.i,λc x=>vq (λr=>r (py R n) c x) R.g,λc x=>vq (λr=>r (py R n) c x) R.s⟩
noncomputable def wh{α:Type}(C:Prop)[Decidable C](k:C->Option α):Option α:=if h:C then k h else ψ
section
variable{β:Type}
section
variable{α:Type}(e:List α)
noncomputable def v0(k:e=[]->Option β):Option β:=match e,k with|[],k=>k rfl|_,_=>ψ
noncomputable def vC(k:∀a g,e=a::g->Option β):Option β:=match e,k with|a::g,k=>k a g rfl|_,_=>ψ
def v1(k:∀a,e=[a]->Option β):Option β:=vC e λa l h=>v0 l λg=>k a (g ▸ h)
def v2(k:∀a b,e=[a,b]->Option β):Option β:=vC e λa l h=>v1 l λb g=>k a b (g ▸ h)
end
section
variable{α:Type}(e:Option α)
noncomputable def oN(k:e=ψ->Option β):Option β:=match e,k with|none,k=>k rfl|_,_=>ψ
noncomputable def oS(k:∀a,e=ξ a->Option β):Option β:=match e,k with|some a,k=>k a rfl|_,_=>ψ
end
section
variable(e:Expr)
noncomputable def xD(k:∀x p,e=.Name x p->Option β):Option β:=match e,k with| .Name x p,k=>k x p rfl|_,_=>ψ
noncomputable def O9(k:∀f g ks p,e=.Call f g ks p->Option β):Option β:=match e,k with| .Call f g ks p,k=>k f g ks p rfl|_,_=>ψ
noncomputable def Ri(k:∀o x p,e=.Attribute o x p->Option β):Option β:=match e,k with| .Attribute o x p,k=>k o x p rfl|_,_=>ψ
noncomputable def Eg(k:∀a b p,e=.Subscript a b p->Option β):Option β:=match e,k with| .Subscript a b p,k=>k a b p rfl|_,_=>ψ
noncomputable def KN(k:∀v n p,e=.Constant v n p->Option β):Option β:=match e,k with| .Constant v n p,k=>k v n p rfl|_,_=>ψ
noncomputable def MK(k:∀a o b p,e=.BinOp a o b p->Option β):Option β:=match e,k with| .BinOp a o b p,k=>k a o b p rfl|_,_=>ψ
noncomputable def Tz(k:∀a os bs p,e=.Compare a os bs p->Option β):Option β:=match e,k with| .Compare a os bs p,k=>k a os bs p rfl|_,_=>ψ
noncomputable def M8(k:∀o es p,e=.BoolOp o es p->Option β):Option β:=match e,k with| .BoolOp o es p,k=>k o es p rfl|_,_=>ψ
noncomputable def GC(k:∀o a p,e=.UnaryOp o a p->Option β):Option β:=match e,k with| .UnaryOp o a p,k=>k o a p rfl|_,_=>ψ
noncomputable def Ul(k:∀t a b p,e=.IfExp t a b p->Option β):Option β:=match e,k with| .IfExp t a b p,k=>k t a b p rfl|_,_=>ψ
noncomputable def Jl(k:∀es n p,e=.Tuple es n p->Option β):Option β:=match e,k with| .Tuple es n p,k=>k es n p rfl|_,_=>ψ
noncomputable def Yu(k:∀es p,e=.List es p->Option β):Option β:=match e,k with| .List es p,k=>k es p rfl|_,_=>ψ
noncomputable def Qg(k:∀ks vs p,e=.Dict ks vs p->Option β):Option β:=match e,k with| .Dict ks vs p,k=>k ks vs p rfl|_,_=>ψ
noncomputable def Pz(k:∀a b s p,e=.Slice a b s p->Option β):Option β:=match e,k with| .Slice a b s p,k=>k a b s p rfl|_,_=>ψ
noncomputable def vLc(k:∀x g sc p,e=.ListComp x g sc p->Option β):Option β:=match e,k with| .ListComp x g sc p,k=>k x g sc p rfl|_,_=>ψ
def vStr(k:∀x n p,e=.Constant (.str x) n p->Option β):Option β:=KN e λv n p h=>match v,h with| .str x,h=>k x n p h|_,_=>ψ
def D0(k:∀x p g q,e=.Call (.Name x p) g [] q->Option β):Option β:=O9 e λf g ks q h=>xD f λx p o=>v0 ks λl=>k x p g q (o ▸ l ▸ h)
def Ei(k:∀x p a q,e=.Call (.Name x p) [a] [] q->Option β):Option β:=D0 e λx p l q h=>v1 l λa g=>k x p a q (g ▸ h)
def Jc(k:∀x p a b q,e=.Call (.Name x p) [a,b] [] q->Option β):Option β:=D0 e λx p l q h=>v2 l λa b g=>k x p a b q (g ▸ h)
def vBB(k:∀x p y r a q g,e=.Call (.Name x p) [.Call (.Name y r) [a] [] q] [] g->Option β):Option β:=Ei e λx p b g h=>Ei b λy r a q l=>k x p y r a q g (l ▸ h)
def vM(k:∀o x p g q,e=.Call (.Attribute o x p) g [] q->Option β):Option β:=O9 e λf g ks q h=>Ri f λo x p u=>v0 ks λl=>k o x p g q (u ▸ l ▸ h)
def QX(k:∀a o b p,e=.Compare a [o] [b] p->Option β):Option β:=Tz e λa os bs p h=>v1 os λo l=>v1 bs λb g=>k a o b p (l ▸ g ▸ h)
def Gi(k:∀a lo g p q,e=.Subscript a (.Slice lo g ψ p) q->Option β):Option β:=Eg e λa b q h=>Pz b λlo g s p o=>oN s λl=>k a lo g p q (l ▸ o ▸ h)
end
section
variable(e:Stmt)
noncomputable def uAs(k:∀g a p,e=.Assign g a p->Option β):Option β:=match e,k with| .Assign g a p,k=>k g a p rfl|_,_=>ψ
noncomputable def II(k:∀o p,e=.Return o p->Option β):Option β:=match e,k with| .Return o p,k=>k o p rfl|_,_=>ψ
noncomputable def J1(k:∀a p,e=.Expr a p->Option β):Option β:=match e,k with| .Expr a p,k=>k a p rfl|_,_=>ψ
noncomputable def K6(k:∀t a b p,e=.If t a b p->Option β):Option β:=match e,k with| .If t a b p,k=>k t a b p rfl|_,_=>ψ
noncomputable def Pb(k:∀t a b p,e=.While t a b p->Option β):Option β:=match e,k with| .While t a b p,k=>k t a b p rfl|_,_=>ψ
noncomputable def O4(k:∀t i a b p,e=.For t i a b p->Option β):Option β:=match e,k with| .For t i a b p,k=>k t i a b p rfl|_,_=>ψ
noncomputable def UW(k:∀a b p,e=.Raise a b p->Option β):Option β:=match e,k with| .Raise a b p,k=>k a b p rfl|_,_=>ψ
noncomputable def Ux(k:∀a h b d p,e=.Try a h b d p->Option β):Option β:=match e,k with| .Try a h b d p,k=>k a h b d p rfl|_,_=>ψ
def D6(k:∀t a p,e=.Assign [t] a p->Option β):Option β:=uAs e λg a p h=>v1 g λt l=>k t a p (l ▸ h)
end
end
abbrev Wd(c:RC)(es:List Expr):={r:CA // (∀{X:Cx},Good X c->SA X es r)/\es.all sx=θ/\∀l st ds g,r l st=.ok ds g->⇑ds=⇑es}
def vA(q:oV)(c:RC):∀es:List Expr,Option (Wd c es)
 |[]=>ξ ⟨bb,λ_=>R5,rfl,W2⟩|e::es=>wh (sx e=θ) λh=>(q.e c e).bind λf=>(vA q c es).bind λr=>ξ ⟨au f.1 r.1,λg=>Rl (f.2 g) (r.2.1 g) (qP h),by rw[bO,h,r.2.2.1];rfl,Xa r.2.2.2⟩
abbrev Yl(c:RC)(e:Option Expr):={r:CO // ∀{X:Cx},Good X c->SO X e r}
def AE(q:oV)(c:RC):∀e:Option Expr,Option (Yl c e)
 |none=>ξ ⟨o9,λ_=>Wg⟩|some e=>(q.e c e).bind λf=>ξ ⟨mK f.1,λg=>Qf3 (f.2 g)⟩
abbrev N8(c:RC)(g:List Stmt):={r:CS // ∀{X:Cx},Good X c->wS X g r}
def qS(q:oV)(c:RC):∀h:List Stmt,Option (N8 c h)
 |[]=>ξ ⟨aZ,λ_=>NS⟩|s::h=>(q.s c s).bind λa=>(qS q c h).bind λb=>ξ ⟨aN a.1 b.1,λg=>MF (a.2 g) (b.2 g)⟩
def GL(c:RC)(x:Str):Option {i:Nat // c.N[i]?=ξ x/\(c.sc.names.lookup x=ξ .local\/c.sc.names.lookup x=ξ .cell\/c.sc.names.lookup x=ξ .free)/\nj x=θ}:=wh _ λh=>ξ ⟨c.N.idxOf x,h⟩
theorem Xx{i:Nat}(g:Good X c)(h:c.N[i]?=ξ x/\(c.sc.names.lookup x=ξ .local\/c.sc.names.lookup x=ξ .cell\/c.sc.names.lookup x=ξ .free)/\nj x=θ):SE X (.Name x p) (am i):=by
 let⟨o,l,u⟩:=h;rw[<- g.N]at o;rcases l with l|l|l
 ·exact Lm g.S _ o l (uv u) (.inl rfl)
 ·exact Lm g.S _ o l (uv u) (.inr (.inl rfl))
 ·exact Lm g.S _ o l (uv u) (.inr (.inr rfl))
def J3:lP:=λ_ c e=>xD e λx _ h=>(GL c x).bind λi=>ξ ⟨am i.1,λg=>h ▸ Xx g i.2⟩
def Jn{α:Type}(l:List (Str × α))(x:Str):Option {a:α // l.lookup x=ξ a}:=oS (l.lookup x) λa h=>ξ ⟨a,h⟩
noncomputable def Ha:Const->Option D
 | .int i=>ξ ↑i| .str i=>ξ (.str i)| .bool i=>ξ (.bl i)| .none=>ξ .non|_=>ψ
theorem Uz{n:Nat}(h:Ha v=ξ d):SE X (.Constant v n p) (aL d):=by
 cases v<;>cases h
 ·exact Y0
 ·exact XJ
 ·exact QdB
 ·exact QdE
def Wi{α:Type}(o:Option α):Option {a:α // o=ξ a}:=oS o λa h=>ξ ⟨a,h⟩
def Le:lP:=λ_ _ e=>KN e λv _ _ h=>(Wi (Ha v)).bind λd=>ξ ⟨aL d.1,λ_=>h ▸ Uz d.2⟩
def FZ:lP:=λq c e=>(q.l c e).bind λa=>ξ ⟨cD a.1,λg=>XI (a.2 g)⟩
abbrev Xh(op:A5)(f:D->D->M D):Prop:=∀{X:Cx},X.A.units+60 < cO->OpR X (eJ op) (pO X.K f)
abbrev YO(op:xH)(f:D->D->M D):Prop:=∀{X:Cx},X.A.units+60 < cO->OpR X (cq op) (pO X.K f)
def D2(o:A5)(f:D->D->M D)(h:Xh o f):lP:=λq c e=>MK e λa op b _ C=>wh (op=o) λz=>(q.e c a).bind λu=>(q.e c b).bind λl=>ξ ⟨c2 f u.1 l.1,λg=>C ▸ z ▸ Pm (h g.hu) (u.2 g) (l.2 g)⟩
abbrev TlC(c:RC)(x:Expr):={r:CE // ∀{X:Cx},Good X c->SE X x r/\ST X x (cK r)}
abbrev vz:=oV->∀(c:RC)(x:Expr),Option (TlC c x)
noncomputable def vz.e(r:vz):lP:=λq c x=>(r q c x).bind λf=>ξ ⟨f.1,λg=>(f.2 g).1⟩
def vz.t(r:vz):E_:=λq c x=>(r q c x).bind λf=>ξ ⟨cK f.1,λg=>(f.2 g).2⟩
def sF(o:xH)(f:D->D->M D)(h:YO o f):vz:=λq c e=>QX e λa op b _ C=>wh (op=o/\Ca b=θ) λz=>(q.e c a).bind λu=>(q.e c b).bind λl=>ξ ⟨c2 f u.1 l.1,λg=>C ▸ z.1 ▸ ⟨QdH (h g.hu) (u.2 g) (l.2 g) (L4 z.2),Pl (h g.hu) (u.2 g) (l.2 g) (L4 z.2)⟩⟩
def Gk(q:oV)(c:RC)(p:Pos):∀es:List Expr,Option (GZ c (.BoolOp .And es p))
 |[a]=>(q.e c a).bind λh=>ξ ⟨h.1,λg=>PP (h.2 g)⟩|a::b::r=>(q.e c a).bind λh=>(Gk q c p (b::r)).bind λl=>ξ ⟨wT h.1 l.1,λg=>UY (h.2 g) (l.2 g)⟩|_=>ψ
def OC(q:oV)(c:RC)(p:Pos):∀es:List Expr,Option (GZ c (.BoolOp .Or es p))
 |[a]=>(q.e c a).bind λh=>ξ ⟨h.1,λg=>PP (h.2 g)⟩|a::b::r=>(q.e c a).bind λh=>(OC q c p (b::r)).bind λl=>ξ ⟨DX h.1 l.1,λg=>V8 (h.2 g) (l.2 g)⟩|_=>ψ
def NF:lP:=λq c e=>M8 e λo es p h=>match o,h with| .And,h=>(Gk q c p es).bind λf=>ξ ⟨f.1,λg=>h ▸ f.2 g⟩| .Or,h=>(OC q c p es).bind λf=>ξ ⟨f.1,λg=>h ▸ f.2 g⟩
def N9:lP:=λq c e=>GC e λo a _ h=>wh (o=.Not) λz=>(q.e c a).bind λl=>ξ ⟨vH l.1,λg=>h ▸ z ▸ Qk (l.2 g)⟩
def J4:lP:=λq c e=>Ul e λt a b _ h=>(q.t c t).bind λl=>(q.e c a).bind λu=>(q.e c b).bind λo=>ξ ⟨yR l.1 u.1 o.1,λg=>h ▸ WA (l.2 g) (u.2 g) (o.2 g)⟩
def NE:lP:=λq c e=>Jl e λes _ _ h=>(vA q c es).bind λl=>ξ ⟨dD l.1,λg=>h ▸ VH (l.2.1 g)⟩
def Ac:lP:=λq c e=>Gi e λa lo u _ p h=>wh (c.tag p 1=θ) λ_=>(q.e c a).bind λo=>(AE q c lo).bind λfl=>(AE q c u).bind λl=>ξ ⟨kg o.1 fl.1 l.1,λg=>h ▸ V6 (o.2 g) (fl.2 g) (l.2 g)⟩
def Az:lP:=λq c e=>Eg e λa b _ h=>wh (Jt b=θ) λz=>(q.l c a).bind λo=>(q.e c b).bind λl=>ξ ⟨iP o.1 l.1,λg=>h ▸ U2 (o.2 g) (l.2 g) (F1 z)⟩
def Fw:lP:=λq c e=>Eg e λa b _ h=>wh (Jt b=θ) λz=>(q.e c a).bind λo=>(q.e c b).bind λl=>ξ ⟨c2 aU o.1 l.1,λg=>h ▸ QeH g.hu (o.2 g) (l.2 g) (F1 z)⟩
theorem WU:∀{b:Bool},SE X (.Dict [] [] p) (rK b)
 |false=>XA|true=>Vc
def F5:lP:=λ_ c e=>Qg e λks vs p h=>v0 ks λl=>v0 vs λg=>ξ ⟨rK (c.tag p 2),λ_=>h ▸ l ▸ g ▸ WU⟩
abbrev TlD(c:RC)(p:Pos)(ks:List (Option Expr))(vs:List Expr):={r:List Key×CA // (∀{X:Cx},Good X c->F2 X p ks vs r.1 r.2)/\ks.all (·.isSome)=θ/\⇑ks=⇑vs/\⇑r.1=⇑ks}
def FH(q:oV)(c:RC)(p:Pos):∀(ks:List (Option Expr))(vs:List Expr),Option (TlD c p ks vs)
 |[],vs=>v0 vs λh=>ξ ⟨([],bb),λ_=>h ▸ UK,rfl,h ▸ rfl,rfl⟩|k::ks,vs=>vC vs λv vs' h=>oS k λo l=>vStr o λx _ _ u=>(q.e c v).bind λf=>(FH q c p ks vs').bind λr=>ξ ⟨(.inr x::r.1.1,au f.1 r.1.2),λg=>h ▸ l ▸ u ▸ YG (f.2 g) (r.2.1 g),by rw[bO,r.2.2.1,l];rfl,h ▸ cj (· + 1) r.2.2.2.1,cj (· + 1) r.2.2.2.2⟩
def EG:lP:=λq c e=>Qg e λks vs p h=>wh (ks≠[]/\⇑ks<=15) λz=>(FH q c p ks vs).bind λr=>ξ ⟨uQ (r.1.1.map n8) r.1.2,λg=>h ▸ Xb (r.2.1 g) r.2.2.1 r.2.2.2.1 z.1 z.2 (by rw[r.2.2.2.2];exact z.2)⟩
def Bx(x:String)(f:CE->CE)(h:∀{X:Cx}{o:Expr}{C:CE}{u l:Pos},SE X o C->cG o (al x) X.env (eval o X.env)=eval o X.env->(u.endLine == l.line)=θ->SE X (.Call (.Attribute o (al x) u) [] [] l) (f C)):lP:=
 λq c e=>vM e λo y J I H G=>v0 I λE=>wh (y=al x/\EH o=θ/\(J.endLine == H.line)=θ) λz=>(q.e c o).bind λC=>ξ ⟨f C.1,λg=>by subst G E;exact z.1 ▸ h (C.2 g) (Jo z.2.1) z.2.2⟩
noncomputable abbrev Jw(X:Cx)(g:Pos)(es:List Expr):Prop:=((dF g (az es X.env)).all (λx => !x.1)&&(oh g (ki [] X.env)).all (λx=>x.1.isSome)&&decide (⇑es+⇑([]:List io)+(if ([]:List io).isEmpty then 0 else 1) < 30))=θ
theorem GP{es:List Expr}(h:es.all sx=θ)(l:⇑es < 30):Jw X g es:=by unfold Jw;rw[Ro h];exact (bo _ _).mpr ⟨rfl,bV l⟩
def Gz(x:String)(f:CE->CE->CE)(ok:RC->Pos->Bool) (h:∀{X:Cx}{o e:Expr}{E C:CE}{u l:Pos},X.A.units+60 < cO->SE X o E->SE X e C->cG o (al x) X.env (eval o X.env)=eval o X.env->Jw X l [e]->(u.endLine == l.line)=θ ->az [e] X.env=(ω,eval e X.env)::az [] X.env->(dF l (az [] X.env)).any (·.1)=ω->SE X (.Call (.Attribute o (al x) u) [e] [] l) (f E C)):lP:=
 λq c e=>vM e λo y U Q H O=>v1 Q λa L=>wh (y=al x/\EH o=θ/\sx a=θ/\ok c H=θ/\(U.endLine == H.line)=θ) λz=>(q.e c o).bind λE=>(q.e c a).bind λC=>ξ ⟨f E.1 C.1,λg=>by subst O L;let⟨rfl,J,G,_,I⟩:=z;exact h g.hu (E.2 g) (C.2 g) (Jo J) (GP (by rw[bO,G];rfl) (wG rfl)) I (qP G) rfl⟩
def G7(x:String)(f:CE->CE->CE->CE) (h:∀{X:Cx}{o J u:Expr}{I H G:CE}{C l:Pos},X.A.units+60 < cO->SE X o I->SE X J H->SE X u G->cG o (al x) X.env (eval o X.env)=eval o X.env->Jw X l [J,u]->(C.endLine == l.line)=θ ->az [J,u] X.env=(ω,eval J X.env)::az [u] X.env->az [u] X.env=(ω,eval u X.env)::az [] X.env->(dF l (az [u] X.env)).any (·.1)=ω->SE X (.Call (.Attribute o (al x) C) [J,u] [] l) (f I H G)):lP:=
 λq c e=>vM e λo y ap as cp Y=>v2 as λa b U=>wh (y=al x/\EH o=θ/\sx a=θ/\sx b=θ/\(ap.endLine == cp.line)=θ) λz=>(q.e c o).bind λI=>(q.e c a).bind λH=>(q.e c b).bind λG=>ξ ⟨f I.1 H.1 G.1,λg=>by subst Y U;let⟨rfl,Q,L,E,O⟩:=z;exact h g.hu (I.2 g) (H.2 g) (G.2 g) (Jo Q) (GP (by rw[bO,L,bO,E];rfl) (wG rfl)) O (qP L) (qP E) (Dk (by rw[bO,E];rfl))⟩
def GV:lP:=λq c e=>D0 e λx _ h _ I=>vC h λa h H=>(Jn c.G x).bind λr=>wh (c.glo x=θ/\nj x=θ/\r.1.k<=c.k/\r.1.n=⇑(a::h)) λz=>(vA q c (a::h)).bind λo=>ξ ⟨bj r.1.g o.1,λg=>by subst I H;let⟨G,E,C,u⟩:=z;let⟨f,J,m,F,kp,B,_⟩:=(g.G _ _ r.2).ex;let⟨x,y,l⟩:=o.2;rw[bO,bo]at y;exact Xs g.S (beq_iff_eq.mp G) F (g.hr.mono C) m kp B (uv E) (x g) (by rw[u];exact l) (qP y.1) (Dk y.2)⟩
def RC.bl(c:RC)(x:Str):Bool:=c.glo x&&c.Z.contains x
theorem Good.gl(g:Good X c)(h:c.bl x=θ):Gl X x/\X.mg x=none:=by unfold RC.bl at h;rw[bo]at h;exact⟨g.S.glo _ (beq_iff_eq.mp h.1),g.Z _ h.2⟩
def tQ(x:String)(ok:RC->Pos->Bool)(f:List D->M D)(h:∀{X:Cx}{e:Expr}{u:CA}{p pos:Pos},X.calm=θ->X.A.units+60 < cO->Gl X (al x)->X.mg (al x)=ψ->SL X e u->az [e] X.env=[(ω,eval e X.env)]->SE X (.Call (.Name (al x) p) [e] [] pos) (kq f u)):lP:=
 λq c e=>Ei e λy _ a p e=>wh (y=al x/\c.bl y=θ/\sx a=θ/\ok c p=θ) λz=>(q.l c a).bind λo=>ξ ⟨kq f o.1,λg=>by subst e;let⟨rfl,l,C,_⟩:=z;exact h g.S.calm g.hu (g.gl l).1 (g.gl l).2 (o.2 g) (qP C)⟩
def vt(x:String)(ok:RC->Pos->Bool)(f:D->M D)(h:∀{X:Cx}{e:Expr}{l:CE}{p pos:Pos},X.calm=θ->X.A.units+60 < cO->Gl X (al x)->X.mg (al x)=ψ->SE X e l->az [e] X.env=[(ω,eval e X.env)]->SE X (.Call (.Name (al x) p) [e] [] pos) (c1 f l)):lP:=
 λq c e=>Ei e λy _ a p e=>wh (y=al x/\c.bl y=θ/\sx a=θ/\ok c p=θ) λz=>(q.e c a).bind λl=>ξ ⟨c1 f l.1,λg=>by subst e;let⟨rfl,o,u,_⟩:=z;exact h g.S.calm g.hu (g.gl o).1 (g.gl o).2 (l.2 g) (qP u)⟩
def Hg(x:String)(ok:RC->Pos->Bool)(f:D->D->M D) (h:∀{X:Cx}{a b:Expr}{u o:CE}{p pos:Pos},X.calm=θ->X.A.units+60 < cO->Gl X (al x)->X.mg (al x)=ψ->SE X a u->SE X b o->az [a,b] X.env=(ω,eval a X.env)::az [b] X.env->az [b] X.env=(ω,eval b X.env)::az [] X.env ->(dF pos (az [b] X.env)).any (·.1)=ω->SE X (.Call (.Name (al x) p) [a,b] [] pos) (c2 f u o)):lP:=
 λq c e=>Jc e λy _ a b p e=>wh (y=al x/\c.bl y=θ/\sx a=θ/\sx b=θ/\ok c p=θ) λz=>(q.e c a).bind λu=>(q.e c b).bind λo=>ξ ⟨c2 f u.1 o.1,λg=>by subst e;let⟨rfl,C,E,l,_⟩:=z;exact h g.S.calm g.hu (g.gl C).1 (g.gl C).2 (u.2 g) (o.2 g) (qP E) (qP l) (Dk (by rw[bO,l];rfl))⟩
def Ke(y:String)(T:v9 y)(h:b5 (al y)=ξ (.type y))(n1:al y≠al "__name__")(n2:(al y == al "__debug__")=ω):lP:=
 λq c e=>Jc e λz _ a b _ G=>xD b λx _ E=>wh (z=al "isinstance"/\x=al y/\c.bl z=θ/\c.bl x=θ/\sx a=θ) λz=>(q.e c a).bind λu=>ξ ⟨c1 (kc [y]) u.1,λg=>by subst G E;let⟨rfl,rfl,o,l,C⟩:=z;exact Xo T (g.gl o).1 (g.gl o).2 (g.gl l).1 (g.gl l).2 h (u.2 g) (by nofun) n1 n2 (qP C) rfl rfl⟩
section
def JS:Du:=λq c e=>Yu e λes _ h=>(vA q c es).bind λl=>ξ ⟨dW l.1,λg=>h ▸ QeC (l.2.1 g)⟩
def Cz:Du:=λq c e=>MK e λa o b _ h=>wh (o=.Mult) λz=>(q.l c a).bind λu=>(q.e c b).bind λl=>ξ ⟨oH u.1 l.1,λg=>h ▸ z ▸ Qha (u.2 g) (l.2 g)⟩
def ET:Du:=λq c e=>Eg e λa b _ h=>Pz b λlo u s _ J=>oN lo λI=>oN u λH=>oS s λs G=>GC s λo s _ E=>KN s λv _ _ C=>wh (o=.USub/\v=.int 1) λz=>(q.e c a).bind λl=>ξ ⟨uI l.1,λg=>by subst h J I H G E C;exact z.1 ▸ z.2 ▸ Y2 (l.2 g)⟩
def B2:Du:=λq c e=>Gi e λa lo u _ p h=>wh (c.tag p 1=ω) λ_=>(q.e c a).bind λo=>(AE q c lo).bind λfl=>(AE q c u).bind λl=>ξ ⟨rM o.1 fl.1 l.1,λg=>h ▸ Yx (o.2 g) (fl.2 g) (l.2 g)⟩
def JX:Du:=λq c e=>vBB e λx _ y _ a _ _ h=>wh (x=al "list"/\y=al "reversed"/\c.bl x=θ/\c.bl y=θ/\sx a=θ) λz=>(q.l c a).bind λu=>ξ ⟨xZ u.1,λg=>by subst h;let⟨rfl,rfl,o,l,C⟩:=z;exact VC g.S.calm (g.gl o).1 (g.gl o).2 (by nofun) (g.gl l).1 (g.gl l).2 (by nofun) (u.2 g) (qP C) rfl⟩
noncomputable def zH:Nat->Expr->List Str
 |_,.Name x _=>[x]|n+1,.Tuple es _ _=>es.flatMap (zH n)|_,_=>[]
abbrev EE(c:RC)(es:List Expr):={r:CT // ∀{X:Cx},Good X c->zl X es r}
def Mj(q:oV)(c:RC):∀es:List Expr,Option (EE c es)
 |[]=>ξ ⟨cB,λ_=>Uv⟩|[t]=>(q.t c t).bind λf=>ξ ⟨f.1,λg=>XN (f.2 g)⟩|_=>ψ
noncomputable def RC.inn(c:RC)(sc:dU)(own:List Str):RC:={ c with sc:=sc,N:=own++c.N.filter λx=>sc.names.lookup x == ξ .free,top:=ω,T:=ψ }
noncomputable def RC.ix(c:RC)(sc:dU):List Nat:=(c.N.filter λx=>sc.names.lookup x == ξ .free).map c.N.idxOf
def RC.cok(c:RC)(sc:dU)(own:List Str)(b:Expr):Prop:=tU c.sc sc=θ/\rD c.N sc (c.inn sc own).N ⇑own (c.ix sc)=θ/\(c.inn sc own).N.Nodup/\Ca b=θ
instance(c:RC)(sc:dU)(own:List Str)(b:Expr):Decidable (c.cok sc own b):=by unfold RC.cok;infer_instance
theorem Good.inn(g:Good X c)(h:c.cok sc own b)(fp:List ak)(s:aj)(H:Hp):Good (oU X (c.inn sc own).N sc fp s H) (c.inn sc own):=
 ⟨Tl g.S.calm,rfl,h.2.2.1,g.hr,λx r z=>⟨(g.G x r z).ex⟩,g.Z,g.C,qw,(λz=>(by cases z)),g.W,λ_ z=>(by cases z)⟩
set_option genInjectivity false in
structure Ng(c:RC)(e:Expr) where
 x:Expr
 tg:Expr
 b:Expr
 ifs:List Expr
 sc:dU
 p:Pos
 eq:e=.ListComp x [⟨tg,b,ifs,0⟩] sc p
 ok:c.cok sc (zH 8 tg).eraseDups b
 i:KA c tg b
 g:Ny (c.inn sc (zH 8 tg).eraseDups) tg
 t:EE (c.inn sc (zH 8 tg).eraseDups) ifs
 f:GZ (c.inn sc (zH 8 tg).eraseDups) x
def Ng.r{c:RC}{e:Expr}(m:Ng c e):CA:=db ⇑(zH 8 m.tg).eraseDups (c.ix m.sc) m.i.1 m.g.1 m.t.1 m.f.1
theorem Qi3{a:Comprehension}(h:a.is_async=0):a=⟨a.target,a.iter,a.ifs,0⟩:=by cases a;exact cj _ h
def E9(q:oV)(c:RC)(e:Expr):Option (Ng c e):=vLc e λx o sc p h=>v1 o λa l=>wh (a.is_async=0/\c.cok sc (zH 8 a.target).eraseDups a.iter) λz=>
 (q.i c a.target a.iter).bind λu=>(q.g (c.inn sc (zH 8 a.target).eraseDups) a.target).bind λg=>(Mj q (c.inn sc (zH 8 a.target).eraseDups) a.ifs).bind λt=>(q.e (c.inn sc (zH 8 a.target).eraseDups) x).bind λf=>
  ξ ⟨x,a.target,a.iter,a.ifs,sc,p,by rw[h,l,<- Qi3 z.1],z.2,u,g,t,f⟩
def G6:Du:=λq c e=>(E9 q c e).bind λm=>ξ ⟨m.r,λg=>by let⟨x,tg,b,o,sc,p,rfl,ok,h,mg,mt,l⟩:=m;exact Ui g.S.calm (RU g.S ok.1) (Oz g.N ok.2.1) (h.2 g) (λfp s H=>⟨mg.2 (g.inn ok fp s H),mt.2 (g.inn ok fp s H),l.2 (g.inn ok fp s H)⟩) (JD ok.2.2.2)⟩
abbrev O_(c:RC)(o:BoolOp)(es:List Expr):={r:CT // ∀{X:Cx}{p:Pos},Good X c->PW X (.BoolOp o es p) (pY X.K r)}
def Bn(q:oV)(c:RC):∀es:List Expr,Option (O_ c .And es)
 |[]=>ψ|[a]=>(q.t c a).bind λh=>ξ ⟨h.1,λg=>QeN (h.2 g)⟩|a::b::r=>(q.t c a).bind λh=>(Bn q c (b::r)).bind λl=>ξ ⟨om h.1 l.1,λg=>Tu (h.2 g) (l.2 g)⟩
def F_(q:oV)(c:RC):∀es:List Expr,Option (O_ c .Or es)
 |[]=>ψ|[a]=>(q.t c a).bind λh=>ξ ⟨h.1,λg=>QS (h.2 g)⟩|a::b::r=>(q.t c a).bind λh=>(F_ q c (b::r)).bind λl=>ξ ⟨tR h.1 l.1,λg=>O1 (h.2 g) (l.2 g)⟩
def Dc:E_:=λq c e=>M8 e λo es p h=>match o,h with| .And,h=>(Bn q c es).bind λf=>ξ ⟨f.1,λg=>h ▸ L2.PW.pt (f.2 g)⟩| .Or,h=>(F_ q c es).bind λf=>ξ ⟨f.1,λg=>h ▸ L2.PW.pt (f.2 g)⟩
def CH:E_:=λq c e=>GC e λo a _ h=>wh (o=.Not) λz=>(q.t c a).bind λf=>ξ ⟨pe f.1,λg=>h ▸ z ▸ Sw (f.2 g)⟩
def tVl:E_:=λq c e=>wh (Ky e=θ) λz=>(q.e c e).bind λf=>ξ ⟨n6 f.1,λg=>O8 (f.2 g) (QK z)⟩
noncomputable def E6:Expr->Bool
 | .Tuple .. => θ|_=>ω
noncomputable def Uj(tg:Expr):Prop:=∃es n p,tg=.Tuple es n p
theorem IU(h:E6 tg=θ):Uj tg:=by cases tg<;>first|exact⟨_,_,_,rfl⟩|cases h
def Mf(t:Expr->Bool)(x:String)(ok:RC->Pos->Bool)(f:CE->CI)(h:∀{X:Cx}{tg e:Expr}{l:CE}{p pos:Pos},t tg=θ->Gl X (al x)->X.mg (al x)=ψ->SE X e l->az [e] X.env=[(ω,eval e X.env)]->SI X tg (.Call (.Name (al x) p) [e] [] pos) (f l)):yS:=
 λq c tg e=>Ei e λy _ a p e=>wh (y=al x/\c.bl y=θ/\sx a=θ/\t tg=θ/\ok c p=θ) λz=>(q.e c a).bind λl=>ξ ⟨f l.1,λg=>by subst e;let⟨rfl,o,C,u,_⟩:=z;exact h u (g.gl o).1 (g.gl o).2 (l.2 g) (qP C)⟩
def KH(t:Expr->Bool)(x:String)(ok:RC->Pos->Bool)(f:CE->CE->CI) (h:∀{X:Cx}{tg a b:Expr}{u o:CE}{p pos:Pos},t tg=θ->Gl X (al x)->X.mg (al x)=ψ->SE X a u->SE X b o->az [a,b] X.env=(ω,eval a X.env)::az [b] X.env->az [b] X.env=(ω,eval b X.env)::az [] X.env ->az [a,b] X.env=[(ω,eval a X.env),(ω,eval b X.env)]->SI X tg (.Call (.Name (al x) p) [a,b] [] pos) (f u o)):yS:=
 λq c tg e=>Jc e λy _ a b p e=>wh (y=al x/\c.bl y=θ/\sx a=θ/\sx b=θ/\t tg=θ/\ok c p=θ) λz=>(q.e c a).bind λu=>(q.e c b).bind λo=>ξ ⟨f u.1 o.1,λg=>by subst e;let⟨rfl,E,C,l,G,_⟩:=z;exact h G (g.gl E).1 (g.gl E).2 (u.2 g) (o.2 g) (qP C) (qP l) (by rw[qP C,qP l];rfl)⟩
noncomputable abbrev Ig:Expr->Bool:=λ_=>θ
noncomputable abbrev lK:RC->Pos->Bool:=λ_ _=>θ
def AA:yS:=Mf Ig "range" lK MM.fC λ_ g m a s=>TJ g m a s
def Am:yS:=KH Ig "range" lK MM.qA λ_ g m a b s t u=>Xr g m a b s t u t
def CU(t:Bool):yS:=KH E6 "zip" (λc p=>c.tag p 7 == t) uP λh g m a b s t u=>by let⟨_,_,_,rfl⟩:=IU h;rw[Zo];exact Qb θ θ g m a b s t u t
def Cg:yS:=Mf E6 "enumerate" lK uO λh g m a s=>by let⟨_,_,_,rfl⟩:=IU h;rw[Zw];exact Ov θ g m a s
def E4:yS:=λq c _ e=>(q.l c e).bind λf=>ξ ⟨wM f.1,λg=>Ys (f.2 g)⟩
def FX:yS:=λq c _ e=>(q.e c e).bind λf=>ξ ⟨fY f.1,λg=>YY (f.2 g)⟩
noncomputable abbrev Oo(c:RC)(x:Str)(i:Nat):Prop:=c.N[i]?=ξ x/\(c.sc.names.lookup x=ξ .local\/c.sc.names.lookup x=ξ .cell)
def GQ(c:RC)(x:Str):Option {i:Nat // Oo c x i}:=wh _ λh=>ξ ⟨c.N.idxOf x,h⟩
theorem F4(g:Good X c){i:Nat}(h:Oo c x i):X.N[i]?=ξ x/\∃k,c.sc.names.lookup x=ξ k/\(k=.local\/k=.cell):=by
 refine⟨by rw[g.N];exact h.1,?_⟩;rcases h.2 with l|l
 ·exact⟨_,l,.inl rfl⟩
 ·exact⟨_,l,.inr rfl⟩
def ZT:Jm:=λ_ c e=>xD e λx _ h=>(GQ c x).bind λi=>ξ ⟨aT i.1,λg=>by let⟨u,k,o,l⟩:=F4 g i.2;exact h ▸ XU g.S _ g.nd u o l⟩
abbrev Oa(c:RC)(es:List Expr):={r:List D->Loc->M Loc // ∀{X:Cx},Good X c->Dw X es r/\⇑(dC es X.env)=⇑es/\(dC es X.env).findIdx? (·.1)=ψ}
theorem Qi6(l:sx e=θ)(o:SG X e a)(h:Dw X es b/\⇑(dC es X.env)=⇑es/\(dC es X.env).findIdx? (·.1)=ψ):Dw X (e::es) (cE a b)/\⇑(dC (e::es) X.env)=⇑(e::es)/\(dC (e::es) X.env).findIdx? (·.1)=none:=by
 let⟨z,u,d⟩:=h;let g:dC (e::es) X.env=(ω,oK e X.env)::dC es X.env:=by cases e<;>first|rfl|cases l
 refine⟨QeZ o z (by rw[g];rfl),by rw[g];exact cj (· + 1) u,?_⟩;rw[g,List.findIdx?_cons,d];rfl
def Q_(q:oV)(c:RC):∀es:List Expr,Option (Oa c es)
 |[]=>ξ ⟨iG,λ_=>⟨QeY,rfl,rfl⟩⟩|e::es=>wh (sx e=θ) λh=>(q.g c e).bind λa=>(Q_ q c es).bind λb=>ξ ⟨cE a.1 b.1,λg=>Qi6 h (a.2 g) (b.2 g)⟩
def Hi:Jm:=λq c e=>Jl e λes _ _ h=>(Q_ q c es).bind λf=>ξ ⟨ir ⇑es f.1,λg=>h ▸ Uc g.S.calm (f.2 g).1 (f.2 g).2.1 (f.2 g).2.2⟩
def HL:Jm:=λq c e=>Eg e λo i _ h=>wh (Jt i=θ) λz=>(q.e c o).bind λf=>(q.e c i).bind λk=>ξ ⟨kN f.1 k.1,λg=>h ▸ Vq g.hu (f.2 g) (k.2 g) (λv=>by cases i<;>first|rfl|cases z)⟩
def FO:zm:=λq c e=>II e λo _ h=>oS o λa l=>(q.e c a).bind λf=>ξ ⟨dj f.1,λg=>h ▸ l ▸ NH (f.2 g)⟩
def EM:zm:=λq c e=>J1 e λa _ h=>wh (IE a=θ) λz=>(q.e c a).bind λf=>ξ ⟨fZ f.1,λg=>h ▸ UA (f.2 g) (DV z)⟩
def NV:zm:=λq c e=>K6 e λt a b _ h=>(q.t c t).bind λl=>(qS q c a).bind λu=>(qS q c b).bind λo=>ξ ⟨lY l.1 u.1 o.1,λg=>h ▸ P6 (l.2 g) (u.2 g) (o.2 g)⟩
def AR:zm:=λq c e=>Pb e λt a b _ h=>v0 b λu=>(q.t c t).bind λl=>(qS q c a).bind λo=>ξ ⟨gL l.1 o.1,λg=>h ▸ u ▸ Ub g.ps (l.2 g) (o.2 g)⟩
def FR:zm:=λq c e=>O4 e λtg l a b _ h=>v0 b λE=>wh (Ca l=θ) λz=>(q.i c tg l).bind λo=>(q.g c tg).bind λu=>(qS q c a).bind λC=>ξ ⟨hU o.1 u.1 C.1,λg=>h ▸ E ▸ VG g.ps g.S.calm (o.2 g) (u.2 g) (C.2 g) (JD z)⟩
def Na:zm:=λq c e=>D6 e λt a _ h=>xD t λx _ l=>wh (IE a=θ\/(c.top=θ/\c.sc.names.lookup x=ξ .cell)) λz=>(GQ c x).bind λi=>(q.e c a).bind λf=>ξ ⟨bM (aT i.1) f.1,λ{X}g=>by
 subst h l;let⟨l,k,G,E⟩:=F4 g i.2;refine Z4 g.S _ g.nd l G (f.2 g) E ?_;rcases z with u|⟨o,C⟩
 ·exact DV u
 ·let e:(X.env.kindOf x == ξ fe.local)=false:=by rw[(g.kd o).2 x,C];rfl
  cases a<;>first|rfl|(unfold fX;simp only[e,Bool.and_false,tF])⟩
theorem Qi7(g:Good X c){sc:dU}{p h:Pos}{n:Nat}(l:c.top=θ)(u:c.sc.names.lookup y=ξ .local)(o:(h.line == p.line)=θ)(C:(sc.names.any λz=>z.1 == y&&(z.2 == .local||z.2 == .cell))=ω):fX (.ListComp e E sc p) (ξ (.Name y h)) n X.env=pure true:=by
 let H:(X.env.kindOf y == ξ fe.local)=true:=by rw[(g.kd l).2 y,u];rfl
 let G:(X.env.blockKind == u5)=true:=by rw[(g.kd l).1];rfl
 show (pure (X.env.blockKind == u5&&X.env.kindOf y == ξ fe.local&&h.line == p.line && !(sc.names.any λz=>z.1 == y&&(z.2 == .local||z.2 == .cell))):Sem Bool)=pure θ;rw[H,G,o,C];rfl
def Dv:zm:=λq c s=>D6 s λt a _ h=>xD t λy C l=>(E9 q c a).bind λm=>wh (c.top=θ/\c.sc.names.lookup y=ξ .local/\(C.line == m.p.line)=θ/\(m.sc.names.any λz=>z.1 == y&&(z.2 == .local||z.2 == .cell))=ω) λz=>(GQ c y).bind λi=>ξ ⟨bM (aT i.1) (cD m.r),λg=>by subst h l;let⟨l,k,u,o⟩:=F4 g i.2;let⟨x,tg,b,I,sc,p,rfl,ok,E,mg,mt,G⟩:=m;exact W7 g.nd l (g.S.loc _ _ u o).1 (g.S.loc _ _ u o).2 g.S.calm (RU g.S ok.1) (Oz g.N ok.2.1) (E.2 g) (λfp s H=>⟨mg.2 (g.inn ok fp s H),mt.2 (g.inn ok fp s H),G.2 (g.inn ok fp s H)⟩) (Qi7 g z.1 z.2.1 z.2.2.1 z.2.2.2) (JD ok.2.2.2)⟩
def HQ:zm:=λq c s=>D6 s λt a _ h=>Eg t λo i p l=>(q.e c a).bind λf=>(q.g c (.Subscript o i p)).bind λk=>ξ ⟨bM k.1 f.1,λg=>by subst h l;exact QT (f.2 g) (k.2 g) (by cases a<;>rfl) (by cases a<;>rfl) rfl⟩
noncomputable def ntE:Expr->Bool
 | .Tuple _ _ _=>ω|_=>θ
def HI:zm:=λq c s=>D6 s λt a _ h=>Jl t λes n p l=>wh (ntE a=θ) λz=>(q.e c a).bind λf=>(q.g c (.Tuple es n p)).bind λk=>ξ ⟨bM k.1 f.1,λg=>by subst h l;exact QT (f.2 g) (k.2 g) (by cases a<;>rfl) (by cases a<;>first|rfl|cases z) rfl⟩
section
variable{P:Program}{w:bJ}{K:aq}{mg:Str->Option ae}{base:bC}
variable(P w K mg base) in
def ck(l:List (Str×RF)):Prop:=∀x r,l.lookup x=ξ r->GF P w K mg base x r
theorem Z8:ck P w K mg base []:=λ_ _ h=>(by cases h)
theorem Je{r:RF}(m:mg x=ξ (.ref f))(F:iz P w K mg base qF r.k f g r.ps (nX K r.n r.g))(kp:dh K (.ref f)=θ)(b:Binds K g r.ps [])(o:r.kw=θ->Ec K g r.ps)(h:ck P w K mg base l):ck P w K mg base ((x,r)::l):=λy s z=>by
 by_cases e:y=x
 ·subst e;rw[kz]at z;cases z;exact⟨f,g,m,F,kp,b,o⟩
 ·rw[v7 e]at z;exact h y s z
def L5(K:aq)(mg:Str->Option ae)(base:bC)(x:Str)(f:ak)(g:b_):Prop:=∃c P,iT K bN x=ξ (ξ (.ref f))/\g.code=.ref c/\qp K c P=θ/\BMod base mg
theorem Qja(R:nA)(j:Nat){k n m:Nat}{Z:List Str}{C:List (Str×D)}(F:ww K x x sd f h)(S:kh N ps (bh sd))(hn:⇑ps=n)(hm:⇑N=m)(hG:ck P w K mg base G) (hZ:∀x,Z.contains x=θ->mg x=ψ) (hC:∀x d,C.lookup x=ξ d->∃v u,mg x=ξ u/\RelV v u/\∀ρ H,da K ρ H v d)(hb:(qS (py R j) ⟨bh sd,N,k,G,Z,C,H,θ,W,T⟩ (cn sd)).map (·.1)=ξ g) (hW:Rq P w K mg base W) (hT:∀t,T=ξ t->t.2=x/\L5 K mg base x f h):iz P w K mg base qF (k+1) f h ps (nX K n (bR m g)):=
 have ⟨v,_,e⟩:=cA.mp hb
 SW F S hn hm λcdv A outer s Hp E l hr=>e ▸ v.2 ⟨RS,rfl,S.nd,hr,hG,hZ,hC,qw,λ_=>⟨by show (if (bh sd).kind.isAnnotationScope=θ then _ else (bh sd).kind)=_;rw[S.kind];rfl,λ_=>rfl⟩,hW,λt z=>by let⟨J,c,P,Q,o,O,L⟩:=hT t z;let⟨oc,od,kV,doc,pm,an,I,ct,U,e1,Y,_⟩:=F.ex;rw[J];exact⟨f,_,h,c,P,Q,Y,rfl,o,O,by rw[<- o,l];rfl,rfl,L⟩⟩
end
end
section
variable{K:aq}{mg:Str->Option ae}
noncomputable def xF(mg:Str->Option ae)(Z:List Str):Prop:=∀x,Z.contains x=θ->mg x=ψ
theorem GU:xF mg []:=λ_ h=>(by cases h)
theorem iA(h:mg a=ψ)(t:xF mg l):xF mg (a::l):=λx z=>by
 rw[dq,nK]at z;rcases z with z|z
 ·rw[beq_iff_eq.mp z];exact h
 ·exact t x z
def zO(K:aq)(mg:Str->Option ae)(C:List (Str×D)):Prop:=∀x d,C.lookup x=ξ d->∃v u,mg x=ξ u/\RelV v u/\∀ρ H,da K ρ H v d
theorem Gh:zO K mg []:=λ_ _ h=>(by cases h)
end
section
theorem wt(h:nj x=θ):x≠"__name__":=(uv h).n
def HD:lP:=tQ "max" lK vB λc _ g m a s=>Rf (Xm c) g m (by nofun) a (wt (by nofun)) (by nofun) s
def FL:lP:=tQ "any" lK wN λc _ g m a s=>Rf (Ye c) g m (by nofun) a (wt (by nofun)) (by nofun) s
def FD:lP:=tQ "tuple" lK mS λ_ _ g m a s=>Vg Ve g m (by nofun) a (wt (by nofun)) (by nofun) s
def Ai:lP:=vt "sorted" lK o_ λ_ _ g m a s=>KQ Ts g m (by nofun) a (wt (by nofun)) (by nofun) s
def LS:lP:=vt "len" lK eN λ_ _ g m a s=>KQ Z0 g m (by nofun) a (wt (by nofun)) (by nofun) s
def Lc:lP:=vt "int" lK intD λ_ _ g m a s=>JJ VP g m (by nofun) a (wt (by nofun)) (by nofun) s
def Cn:lP:=vt "tuple" lK tupleD λ_ _ g m a s=>JJ VS g m (by nofun) a (wt (by nofun)) (by nofun) s
def Ic:lP:=vt "list" lK tf λ_ _ g m a s=>JJ Yc g m (by nofun) a (wt (by nofun)) (by nofun) s
def CK:lP:=vt "list" (λc p=>c.tag p 5) qj λc _ g m a s=>JJ (Yk c) g m (by nofun) a (wt (by nofun)) (by nofun) s
def GS:lP:=Hg "min" lK wk λc _ g m a b o l h=>Rp (ZM c) g m (by nofun) a b (wt (by nofun)) (by nofun) o l h
def Gw:lP:=Hg "max" lK v_ λc _ g m a b o l h=>Rp (Uy c) g m (by nofun) a b (wt (by nofun)) (by nofun) o l h
def x_:lP:=Ke "list" VM (by nofun) (wt (by nofun)) (by nofun)
def AN:lP:=Gz "append" dI lK λ_ o a b f l s p=>Ud o a b f l s p
def C2:lP:=Bx "clear" pV λo b l=>Qf0 o b l
def Nb:lP:=Bx "pop" wO λo b l=>UN o b l
def Ad:lP:=G7 "setdefault" pi λu o a b bs f l h g p=>UU u o a b bs f l h g p
end
section
variable{P:Program}{K:aq}{mg:Str->Option ae}
noncomputable def FnAt(K:aq)(mg:Str->Option ae)(x:Str)(sd:Stmt):Prop:=∃a g,ww K x x sd a g/\mg x=ξ (.ref a)
theorem fF{C kV E u g ct:ae}(X:K.In h)(G:h.Ns bN mg)(a:iT K bN x=ξ (ξ (.ref f)))(l:K.lookup f=ξ ⟨C,z,.func (dv x x (dH sd) (cn sd) (bh sd) .none kV E u H g ct),o⟩) (c:gY K g x=θ) (k:dh K (.ref f)=θ):FnAt K mg x sd:=
 ⟨f,_,Pa (st:=sd) l c k,z_ X G a⟩
noncomputable def sM(N P:List Str)(sc:dU):Bool:=(sc.kind == .function)&&(sc.isCoroutine == ω)&&(sc.isGenerator == ω)&&decide N.Nodup&&(N.take ⇑P == P)&&(P.all λx=>sc.names.lookup x == ξ .local||sc.names.lookup x == ξ .cell)&&(sc.names.all λy=>y.2 != .free)
theorem C3{N P:List Str}(h:sM N P sc=θ):kh N P sc:=by unfold sM at h;simp only[bo,beq_iff_eq,decide_eq_true_eq,dX,nK,bne_iff_ne,ne_eq]at h;obtain⟨⟨⟨⟨⟨⟨E,C⟩,z⟩,u⟩,o⟩,l⟩,g⟩:=h;exact⟨E,C,z,u,o,l,g⟩
theorem QP(R:nA){k n m:Nat}(F:ww K x x sd f h)(S:sM (ps++r) ps (bh sd)=θ)(u:(qS (py R 40) ⟨bh sd,ps++r,k,G,Z,C,H,θ,([],[]),ψ⟩ (cn sd)).map (·.1)=ξ g) (I:ck P w K mg base G) (E:xF mg Z) (J:zO K mg C) (l:⇑ps=n) (o:⇑(ps++r)=m):iz P w K mg base qF (k+1) f h ps (nX K n (bR m g)):=
 Qja R 40 F (C3 S) l o I E J u ⟨(λ_ _ z=>(by cases z)),(λ_ _ z=>(by cases z))⟩ λ_ z=>(by cases z)
theorem G5(R:nA){k n m:Nat}(F:FnAt K mg x sd)(S:sM (ps++r) ps (bh sd)=θ)(b:∀(kV g o:ae)(u:Option ak)(h ct:ae)(E:List ae),⇑E=⇑ps->ly (dv x x (dH sd) (cn sd) (bh sd) .none kV g o u h ct) { pos:=E }=pure (ps.zip E))(Q:I=θ->∀(kV g o:ae)(u:Option ak)(h ct:ae)(s:aj)(ws:List ae),⇑ws=⇑ps->sR s (dv x x (dH sd) (cn sd) (bh sd) .none kV g o u h ct) ⟨[],ps.zip ws⟩ (ps.zip ws))(hb:(qS (py R 40) ⟨bh sd,ps++r,k,G,Z,C,H,θ,([],[]),ψ⟩ (cn sd)).map (·.1)=ξ l) (L:ck P w K mg base G) (hZ:xF mg Z) (hC:zO K mg C) (Y:⇑ps=n:=by rfl) (hm:⇑(ps++r)=m:=by rfl) (U:I=θ->¬ ps.getLast?=ξ (al "most"):=by first|exact λz=>(by cases z)|exact λ_=>by decide):ck P w K mg base ((x,⟨n,k+1,ps,I,bR m l⟩)::G):=by
 let⟨f,fd,F,J⟩:=F;refine Je J (QP R F S hb L hZ hC Y hm) F.kp (F.binds b) (λz=>?_) L;let⟨oc,od,kV,g,o,u,h,ct,O,e,lk,hcd⟩:=F.ex;unfold Ec;rw[aB (U z)];intro s ws hl;rw[e];exact Q z kV g o u h ct s ws hl
end
section
def yN:lP:=vt "sorted" (λc p=>c.tag p 9) (uV iO) λ_ _ g m a s=>KQ (Y7 Vk) g m (by nofun) a (wt (by nofun)) (by nofun) s
end
end MM
namespace PySem.SeqAt
open AutoSeq1 (wpAny_loadPart')
open MeetsSeq MeetsSeq2 MeetsSeq3 SeqRoads2
end PySem.SeqAt
namespace MM
open PySem PySem.Spec PyProof.Rows L2 PySem.SeqAt
section
def qZ(h:bC)(v:ae)(p:Int×List Int):Prop:=∃a t b xs,v=.ref a/\h.IsTuple a #[.int p.1 t,.ref b]/\h.IsTuple b xs/\lc xs.toList p.2
end
end MM
namespace MM
open PySem PySem.Spec PyProof.Rows L2
section
variable{K:aq}{st:aY}
theorem Qjg{n:Nat}{Q:Unit->aj->Prop}{A:bx}(hu:A.units+2 < cO)(I:Inv X ah σ H s)(L:SR X.K ρ H st)(ha:ρ[n]?=ξ a)(hn:st[n]?=ξ (.dct θ g))(U:da X.K ρ H y k) (hk:oW θ k=θ) (hl:⇑g < sizeLine) (rv:da X.K ρ H v d) (ry:RelV y u) (rr:RelV v Y)(h:∀J s',Inv X ah σ J s'->SR X.K ρ J (st.set n (.dct θ (i6 g k d)))->Ex ρ H ρ J->Q Unit.unit s'):aF (aW X.prog X.w) A (Et a u Y) Q E s:=by
 let C:=(ac.mp hn).1;let⟨es,e,r⟩:=L.ob n a _ ha hn;let⟨k,rfl⟩:=DP hk;let⟨_,hd,xs,O,dd,de⟩:=zQ I e r;let⟨c,e2,e3,hc⟩:=Dh I U ry;subst e2 e3;let up:Up ρ H ρ (eE H a (nY a (putN es k c v))):=by
  refine⟨⟨[],by simp⟩,λc o no q=>?_,λc o q=>?_⟩
  ·rw[e8 λz=>by subst z;rw[e]at q;cases q;cases no];exact q
  ·by_cases z:c=a
   ·subst z;rw[e]at q;cases q;exact⟨_,ik,rfl⟩
   ·exact⟨o,by rw[e8 z];exact q,rfl⟩
 let w:=L.putO (o':=.dct θ (i6 g (tq k) d)) (u':=nY a (putN es k c v)) C ha e (by show (2:Nat)≠3;decide) rfl ⟨_,ik,(NR.put r k c U rv).up up⟩;let hz:⇑xs<=sizeLine:=by rw[<- dZ O,NR.length r];ext
 refine OL (knd:=Bz X) (show A.units+1 < cO by ext) hc dd de hz λh' l G hs=>h _ _ ?_ w.1 w.2;let he:∃q,h'.get? a=ξ q:=by obtain ⟨q,_,_,hq,_⟩:=l;exact ⟨q,hq⟩
 refine DU I (by rw[e];exact dS) hs he (Gb ?_ hd (NX.put O k c rr) l G);have:=MA es k c v;rw[NR.length r]at this;ext
end
end MM
namespace MM
open PySem
abbrev At{α:Type}(_:α->aY->Prop):Type:=aY
inductive wp{α:Type}(m:M α)(Q:α->aY->Prop)(s:At Q):Prop
 |intro (a:α) (s':aY) (h:m s=.ok a s') (q:Q a s'):wp m Q s
theorem rF{α:Type}{m:M α}{Q:α->aY->Prop}{s:aY}:wp m Q s=(match m s with
 | .ok a s'=>Q a s'
 |_=>False):=by
 apply propext;constructor
 ·rintro ⟨a,s',h,q⟩;rw[h];exact q
 ·intro h;cases e:m s with|ok a s'=>rw[e]at h;exact⟨a,s',e,h⟩|exc _ _=>rw[e]at h;exact h.elim|bad=>rw[e]at h;exact h.elim
section
variable{α β:Type}{Q:α->aY->Prop}{s:aY}
theorem eB{m:M α}{a:α}(h:m s=.ok a s'):wp m Q s=Q a s':=by rw[rF,h]
theorem wd{m:M α}(h:m s=.bad):wp m Q s=False:=by rw[rF,h]
theorem kt{m:M β}{Q g:β->aY->Prop}(h:∀a s',Q a s'=g a s'):wp m Q s=wp m g s:=by rw[show Q=g from funext λa=>funext λt=>h a t]
theorem b4{a:α}:wp (ret a) Q s=Q a s:=eB rfl
theorem im:wp (bad:M α) Q s=False:=wd rfl
theorem dR{m:M β}{f:β->M α}:wp (bnd m f) Q s=wp m (λa s'=>wp (f a) Q s') s:=by simp only[rF];unfold bnd;cases m s<;>rfl
theorem dE{c:Prop}[Decidable c]{m:M α}:wp (chk c m) Q s=(c/\wp m Q s):=by
 unfold chk;by_cases h:c
 ·simp[h]
 ·simp[h,im]
theorem eX{o:MO}{Q:D->aY->Prop}:wp (alloc o) Q s=Q (.ref ⇑s) (s++[o]):=eB rfl
theorem eA{n:Nat}{Q:List D->aY->Prop}(h:s[n]?=ξ (.lst ds)):wp (getL n) Q s=Q ds s:=by rw[rF];unfold getL;rw[h]
theorem rh{n:Nat}{Q:Unit->aY->Prop}(h:s[n]?=ξ (.lst ds)):wp (putL n es) Q s=Q Unit.unit (s.set n (.lst es)):=by rw[rF];unfold putL;rw[h]
theorem ue{m:M α}{g:α->aY->Prop}(h:wp m Q s)(f:∀a s',Q a s'->g a s'):wp m g s:=by
 simp only[rF]at *;cases e:m s with|ok a s'=>rw[e]at h;exact f a s' h|exc _ _=>rw[e]at h;exact h|bad=>rw[e]at h;exact h
theorem JH{c:Prop}[Decidable c]{m n:M α}:wp (if c then m else n) Q s=if c then wp m Q s else wp n Q s:=by split<;>rfl
end
theorem HU{ds:List D}{i:Int}(g:0<=i)(h:ds[i.toNat]?=ξ d):cu ds i=ret d:=by let l:i.toNat < ⇑ds:=(ac.mp h).1;unfold cu MM.sK;rw[aH g,aH ()];dsimp only;rw[h]
theorem Dq{n:Nat}{b:CS}{ds:List D}{Q:D->aY->Prop}{s:aY}:wp (bR n b ds) Q s=wp (b (ds.map ξ++aE (n-⇑ds) ψ)) (λf s'=>wp (uz f) Q s') s:=by unfold bR;rw[dR]
theorem U8{g:CG}{b:CS}{same:aY->Prop}{Q:su->aY->Prop}(W:List D->Loc->aY->Prop)(z:∀l s,W [] l s->wp (chkS same) (λ_ s'=>Q (.next l) s') s)(u:∀d ds l s,W (d::ds) l s->wp (chkS same) (λ_ E=>wp (g d l) (λG C=>wp (b G) (λf o=>match f with
   | .next l2=>W ds l2 o| .cnt l2=>W ds l2 o| .brk l2=>Q (.next l2) o
   | .ret d=>Q (.ret d) o) C) E) s):∀ds l s,W ds l s->wp (kM g b same ds l) Q s:=by
 intro ds
 induction ds with
 |nil=>
  intro l s h;unfold kM;rw[dR];exact ue (z l s h) λ_ s' q=>by rw[b4];exact q
 |cons d ds ih=>
  intro l s h;unfold kM;rw[dR];refine ue (u d ds l s h) λ_ E q=>?_;rw[dR];refine ue q λG C q=>?_;rw[dR];refine ue q λf o q=>?_;cases f with|next l2=>exact ih l2 o q|cnt l2=>exact ih l2 o q|brk l2=>show wp (ret _) _ _;rw[b4];exact q|ret d=>show wp (ret _) _ _;rw[b4];exact q
theorem FV{g:CG}{t:CT}{e:CE}{same:aY->Prop}{Q:List D->aY->Prop}(W:List D->List D->Loc->aY->Prop)(E:∀o l s,W o [] l s->wp (chkS same) (λ_ s'=>Q o s') s)(z:∀o d ds l s,W o (d::ds) l s->wp (chkS same) (λ_ I=>wp (g d l) (λu H=>wp (t u) (λb C=>if b=θ then wp (e u) (λx G=>W (o++[x]) ds u G) C else W o ds u C) H) I) s):
  ∀ds o l s,W o ds l s->wp (collect g t e same ds l) (λxs s'=>Q (o++xs) s') s:=by
 intro ds
 induction ds with
 |nil=>
  intro o l s h;unfold collect;rw[dR];exact ue (E o l s h) λ_ s' q=>by rw[b4,bG];exact q
 |cons d ds ih=>
  intro o l s h;unfold collect;rw[dR];refine ue (z o d ds l s h) λ_ I q=>?_;rw[dR];refine ue q λu H q=>?_;rw[dR];refine ue q λb C q=>?_;cases b with|false=>exact ih o u C q|true=>
   show wp (bnd (e u) _) _ C;rw[dR];refine ue q λx G q=>?_;rw[dR];refine ue (ih (o++[x]) u G q) λxs J q=>?_;rw[b4];rw[bF]at q;exact q
theorem JE{e:CE}{xs:List D}{same:aY->Prop}{Q:List D->aY->Prop}(W:Nat->List D->aY->Prop)(I:∀i g s,W i g s->same s)(L:W 0 [] s)(o:∀(i:Nat)d g s,xs[i]?=ξ d->W i g s->wp (e (ξ d::caps)) (λx s'=>W (i+1) (g++[x]) s') s) (z:∀g s,W ⇑xs g s->Q g s):wp (collect (aT 0) cB e same xs (ψ::caps)) Q s:=by
 let chk:∀{s:aY}{R:Unit->aY->Prop},same s->R Unit.unit s->wp (chkS same) R s:=λh r=>by rw[rF];unfold chkS;rw[aH h];exact r
 refine FV (Q:=Q) (λg ds l s=>∃i E,ds=xs.drop i/\i<=⇑xs/\l=E::caps/\W i g s) (λg l s H=>?_) (λg d ds l s G=>?_) xs [] _ s ⟨0,ψ,by simp,bn _,rfl,L⟩
 ·obtain ⟨i,E,C,J,_,w⟩:=H;let : i = ⇑xs := by have:=cj e_ C;simp at this;ext
  subst this;exact chk (I _ _ _ w) (z g s w)
 ·obtain ⟨i,E,C,J,el,w⟩:=G;subst el;let u:i < ⇑xs:=by have:=cj e_ C;simp at this;ext
  rw[cz u]at C;let⟨U,O⟩:=nR C;refine chk (I _ _ _ w) ?_
  show wp (ret _) _ s;rw[b4]
  show wp (ret θ) _ s;rw[b4]
  show wp (e (ξ d::caps)) _ s;exact ue (o i d g s (by rw[U];exact ag u) w) λx s' q=>⟨i+1,ξ d,O,u,rfl,q⟩
theorem Ql{n i:Nat}(h:i < n):(ib 0 n)[i]?=ξ ↑i:=by unfold ib;rw[ar,d_ h];simp
theorem IK{n i:Nat}(h:(ib 0 n)[i]?=ξ d):i < n/\d=.int i:=by
 let g:i < n:=by have:=(ac.mp h).1;simpa [ib] using this
 rw[Ql g]at h;cases h;exact⟨g,rfl⟩
theorem n9(n:Nat):⇑(ib 0 n)=n:=by simp[ib]
theorem iy{n:Nat}(h:n<=1000):n<=eT:=bH h (by decide)
theorem wr{n:Nat}(h:n<=1000):n < eT:=zD h (by decide)
theorem KU{g:CG}{b:CS}{same:aY->Prop}{xs:List D}{l:Loc}{s:aY}{Q:su->aY->Prop}(W:Nat->Loc->aY->Prop)(L:∀i l s,W i l s->same s)(Y:W 0 l s)(u:∀(i:Nat)d l s,xs[i]?=ξ d->W i l s->wp (g d l) (λJ I=>wp (b J) (λf z=>match f with
   | .next l2=>W (i+1) l2 z| .cnt l2=>W (i+1) l2 z| .brk l2=>Q (.next l2) z
   | .ret d=>Q (.ret d) z) I) s) (C:∀l s,W ⇑xs l s->Q (.next l) s):wp (kM g b same xs l) Q s:=by
 let chk:∀{s:aY}{R:Unit->aY->Prop},same s->R Unit.unit s->wp (chkS same) R s:=λh r=>by rw[rF];unfold chkS;rw[aH h];exact r
 refine U8 (λds l s=>∃i,ds=xs.drop i/\i<=⇑xs/\W i l s) (λl s H=>?_) (λd ds l s G=>?_) xs l s ⟨0,by simp,bn _,Y⟩
 ·obtain ⟨i,E,U,w⟩:=H;let : i = ⇑xs := by have:=cj e_ E;simp at this;ext
  subst this;exact chk (L _ _ _ w) (C l s w)
 ·obtain ⟨i,E,U,w⟩:=G;let o : i < ⇑xs := by have:=cj e_ E;simp at this;ext
  rw[cz o]at E;let⟨g,O⟩:=nR E;refine chk (L _ _ _ w) ?_;refine ue (u i d l s (by rw[g];exact ag o) w) λJ I q=>ue q λf z q=>?_;cases f with|next l2=>exact⟨i+1,O,o,q⟩|cnt l2=>exact⟨i+1,O,o,q⟩|brk l2=>exact q|ret d=>exact q
end MM
local macro_rules|`(tactic| bv_omega)=>`(tactic| first|rfl|exact MM.eB rfl|exact MM.wd rfl)
local macro_rules|`(tactic| ac_rfl)=>`(tactic| first|rfl|simp only[MM.b4,MM.eX,MM.im]|(refine MM.kt λ_ _=>?_;simp only[MM.b4,MM.eX,MM.im]))
namespace MM
open PySem
theorem nr{α:Sort u}{a b:α}(h:a=b):a=b:=h
section
variable{Q:D->aY->Prop}{R:su->aY->Prop}{T:Bool->aY->Prop}{A:List D->aY->Prop}{G:Loc->aY->Prop}{I:Wk->aY->Prop}{s:aY}{l:Loc}
theorem wx{a b:CS}: wp (aN a b l) R s=wp (a l) (λf s'=>match f with
  | .next l'=>wp (b l') R s'| .ret d=>R (.ret d) s'| .brk l'=>R (.brk l') s'
  | .cnt l'=>R (.cnt l') s') s:=by
 unfold aN;rw[dR];congr 1;funext f s';cases f<;>first|bv_omega
theorem BY:wp (aZ l) R s=R (.next l) s:=eB rfl
theorem xS{g:CG}{a:CE}:wp (bM g a l) R s=wp (a l) (λd s'=>wp (g d l) (λo h=>R (.next o) h) s') s:=by unfold bM;rw[dR];congr 1;funext d s';rw[dR];ac_rfl
theorem Ib{a:CE}:wp (dj a l) R s=wp (a l) (λd s'=>R (.ret d) s') s:=by unfold dj;rw[dR];ac_rfl
theorem HE{a:CE}:wp (fZ a l) R s=wp (a l) (λd s'=>R (.next l) s') s:=by unfold fZ;rw[dR];ac_rfl
theorem LM{t:CT}{a b:CS}:wp (lY t a b l) R s=wp (t l) (λc s'=>if c=θ then wp (a l) R s' else wp (b l) R s') s:=by unfold lY;rw[dR];congr 1;funext c s';rw[JH]
theorem Bm{a:CE}: wp (cK a l) T s=wp (a l) (λx s'=>match x with
  | .bl b=>T b s'
  |_=>False) s:=by
 unfold cK;rw[dR];congr 1;funext x s';cases x<;>first|bv_omega
theorem Fu{a:CE}:wp (n6 a l) T s=wp (a l) (λx s'=>wp (Aj x) T s') s:=by unfold n6;rw[dR]
theorem GI{a:CT}:wp (pe a l) T s=wp (a l) (λx s'=>T (!x) s') s:=by unfold pe;rw[dR];ac_rfl
theorem HR{a b:CT}:wp (om a b l) T s=wp (a l) (λc s'=>if c=θ then wp (b l) T s' else T ω s') s:=by unfold om;rw[dR];congr 1;funext c s';rw[JH];ac_rfl
theorem Mg{a b:CT}:wp (tR a b l) T s=wp (a l) (λc s'=>if c=θ then T θ s' else wp (b l) T s') s:=by unfold tR;rw[dR];congr 1;funext c s';rw[JH];ac_rfl
theorem fk{i:Nat}:wp (aT i d l) G s=G (l.set i (ξ d)) s:=eB rfl
theorem KJ{d:D}{b:Option D}{r:Loc}{Q:Loc->aY->Prop}:wp (aT 0 d (b::r)) Q s=Q (ξ d::r) s:=fk
theorem LZ{g:Option D}{d:D}{b:Option D}{r:Loc}{Q:Loc->aY->Prop}:wp (aT 1 d (g::b::r)) Q s=Q (g::ξ d::r) s:=fk
theorem Ku{h g:Option D}{d:D}{b:Option D}{r:Loc}{Q:Loc->aY->Prop}:wp (aT 2 d (h::g::b::r)) Q s=Q (h::g::ξ d::r) s:=fk
theorem LP{o h g:Option D}{d:D}{b:Option D}{r:Loc}{Q:Loc->aY->Prop}:wp (aT 3 d (o::h::g::b::r)) Q s=Q (o::h::g::ξ d::r) s:=fk
theorem MP{u o h g:Option D}{d:D}{b:Option D}{r:Loc}{Q:Loc->aY->Prop}:wp (aT 4 d (u::o::h::g::b::r)) Q s=Q (u::o::h::g::ξ d::r) s:=fk
theorem B3{z u o h g:Option D}{d:D}{b:Option D}{r:Loc}{Q:Loc->aY->Prop}:wp (aT 5 d (z::u::o::h::g::b::r)) Q s=Q (z::u::o::h::g::ξ d::r) s:=fk
theorem Fv{C z u o h g:Option D}{d:D}{b:Option D}{r:Loc}{Q:Loc->aY->Prop}:wp (aT 6 d (C::z::u::o::h::g::b::r)) Q s=Q (C::z::u::o::h::g::ξ d::r) s:=fk
theorem KC{E C z u o h g:Option D}{d:D}{b:Option D}{r:Loc}{Q:Loc->aY->Prop}:wp (aT 7 d (E::C::z::u::o::h::g::b::r)) Q s=Q (E::C::z::u::o::h::g::ξ d::r) s:=fk
theorem MH{H E C z u o h g:Option D}{d:D}{b:Option D}{r:Loc}{Q:Loc->aY->Prop}:wp (aT 8 d (H::E::C::z::u::o::h::g::b::r)) Q s=Q (H::E::C::z::u::o::h::g::ξ d::r) s:=fk
theorem Ld{J H E C z u o h g:Option D}{d:D}{b:Option D}{r:Loc}{Q:Loc->aY->Prop}:wp (aT 9 d (J::H::E::C::z::u::o::h::g::b::r)) Q s=Q (J::H::E::C::z::u::o::h::g::ξ d::r) s:=fk
theorem G_{L J H E C z u o h g:Option D}{d:D}{b:Option D}{r:Loc}{Q:Loc->aY->Prop}:wp (aT 10 d (L::J::H::E::C::z::u::o::h::g::b::r)) Q s=Q (L::J::H::E::C::z::u::o::h::g::ξ d::r) s:=fk
theorem Gq{O L J H E C z u o h g:Option D}{d:D}{b:Option D}{r:Loc}{Q:Loc->aY->Prop}:wp (aT 11 d (O::L::J::H::E::C::z::u::o::h::g::b::r)) Q s=Q (O::L::J::H::E::C::z::u::o::h::g::ξ d::r) s:=fk
theorem EW{U O L J H E C z u o h g:Option D}{d:D}{b:Option D}{r:Loc}{Q:Loc->aY->Prop}:wp (aT 12 d (U::O::L::J::H::E::C::z::u::o::h::g::b::r)) Q s=Q (U::O::L::J::H::E::C::z::u::o::h::g::ξ d::r) s:=fk
theorem Hf{Y U O L J H E C z u o h g:Option D}{d:D}{b:Option D}{r:Loc}{Q:Loc->aY->Prop}:wp (aT 13 d (Y::U::O::L::J::H::E::C::z::u::o::h::g::b::r)) Q s=Q (Y::U::O::L::J::H::E::C::z::u::o::h::g::ξ d::r) s:=fk
theorem Gx{l Y U O L J H E C z u o h g:Option D}{d:D}{b:Option D}{r:Loc}{Q:Loc->aY->Prop}:wp (aT 14 d (l::Y::U::O::L::J::H::E::C::z::u::o::h::g::b::r)) Q s=Q (l::Y::U::O::L::J::H::E::C::z::u::o::h::g::ξ d::r) s:=fk
theorem Cp{o i:CE}{d:D}:wp (kN o i d l) G s=wp (o l) (λy h=>wp (i l) (λz g=>wp (ni y z d) (λ_ u=>G l u) g) h) s:=by unfold kN;rw[dR];congr 1;funext y h;rw[dR];congr 1;funext z g;rw[dR];ac_rfl
theorem iQ{i:Nat}: wp (am i l) Q s=match l[i]? with|some (ξ d)=>Q d s|_=>False:=by
 unfold am;rcases l[i]? with _|_|d<;>first|bv_omega
theorem GY{d:D}{r:Loc}:wp (am 0 (ξ d::r)) Q s=Q d s:=iQ
theorem FY{g:Option D}{d:D}{r:Loc}:wp (am 1 (g::ξ d::r)) Q s=Q d s:=iQ
theorem Li{h g:Option D}{d:D}{r:Loc}:wp (am 2 (h::g::ξ d::r)) Q s=Q d s:=iQ
theorem Mr{o h g:Option D}{d:D}{r:Loc}:wp (am 3 (o::h::g::ξ d::r)) Q s=Q d s:=iQ
theorem N2{u o h g:Option D}{d:D}{r:Loc}:wp (am 4 (u::o::h::g::ξ d::r)) Q s=Q d s:=iQ
theorem E3{z u o h g:Option D}{d:D}{r:Loc}:wp (am 5 (z::u::o::h::g::ξ d::r)) Q s=Q d s:=iQ
theorem K5{C z u o h g:Option D}{d:D}{r:Loc}:wp (am 6 (C::z::u::o::h::g::ξ d::r)) Q s=Q d s:=iQ
theorem J_{E C z u o h g:Option D}{d:D}{r:Loc}:wp (am 7 (E::C::z::u::o::h::g::ξ d::r)) Q s=Q d s:=iQ
theorem NY{H E C z u o h g:Option D}{d:D}{r:Loc}:wp (am 8 (H::E::C::z::u::o::h::g::ξ d::r)) Q s=Q d s:=iQ
theorem M3{J H E C z u o h g:Option D}{d:D}{r:Loc}:wp (am 9 (J::H::E::C::z::u::o::h::g::ξ d::r)) Q s=Q d s:=iQ
theorem E1{L J H E C z u o h g:Option D}{d:D}{r:Loc}:wp (am 10 (L::J::H::E::C::z::u::o::h::g::ξ d::r)) Q s=Q d s:=iQ
theorem ED{O L J H E C z u o h g:Option D}{d:D}{r:Loc}:wp (am 11 (O::L::J::H::E::C::z::u::o::h::g::ξ d::r)) Q s=Q d s:=iQ
theorem Fg{U O L J H E C z u o h g:Option D}{d:D}{r:Loc}:wp (am 12 (U::O::L::J::H::E::C::z::u::o::h::g::ξ d::r)) Q s=Q d s:=iQ
theorem EF{Y U O L J H E C z u o h g:Option D}{d:D}{r:Loc}:wp (am 13 (Y::U::O::L::J::H::E::C::z::u::o::h::g::ξ d::r)) Q s=Q d s:=iQ
theorem HS{l Y U O L J H E C z u o h g:Option D}{d:D}{r:Loc}:wp (am 14 (l::Y::U::O::L::J::H::E::C::z::u::o::h::g::ξ d::r)) Q s=Q d s:=iQ
theorem xX{d:D}:wp (aL d l) Q s=Q d s:=eB rfl
theorem ND{g:D->M D}{a:CE}:wp (c1 g a l) Q s=wp (a l) (λx s'=>wp (g x) Q s') s:=by unfold c1;rw[dR]
theorem C5{g:D->D->M D}{a b:CE}:wp (c2 g a b l) Q s=wp (a l) (λx s'=>wp (b l) (λy h=>wp (g x y) Q h) s') s:=by unfold c2;rw[dR];congr 1;funext x s';rw[dR]
theorem yL{g:List D->M D}{a:CA}:wp (bj g a l) Q s=wp (a l) (λx s'=>wp (g x) Q s') s:=by unfold bj;rw[dR]
theorem Bq:wp (bb l) A s=A [] s:=eB rfl
theorem x9{a:CE}{r:CA}:wp (au a r l) A s=wp (a l) (λx s'=>wp (r l) (λxs g=>A (x::xs) g) s') s:=by unfold au;rw[dR];congr 1;funext x s';rw[dR];ac_rfl
theorem Fc{a:CA}:wp (dD a l) Q s=wp (a l) (λxs s'=>⇑xs<=eT/\Q (.tup xs) s') s:=by unfold dD;rw[dR];congr 1;funext x s';rw[dE];ac_rfl
theorem Di{a:CA}:wp (dW a l) A s=wp (a l) (λxs s'=>⇑xs<=eT/\A xs s') s:=by unfold dW;rw[dR];congr 1;funext x s';rw[dE];ac_rfl
theorem CJ{a:CA}:wp (cD a l) Q s=wp (a l) (λxs s'=>Q (.ref ⇑s') (s'++[.lst xs])) s:=by unfold cD;rw[dR];ac_rfl
theorem HN{g:List D->M D}{a:CA}:wp (kq g a l) Q s=wp (a l) (λx s'=>wp (g x) Q s') s:=by unfold kq;rw[dR]
theorem BW{n:Nat}{caps:List Nat}{i:CI}{g:CG}{t:CT}{e:CE}:wp (db n caps i g t e l) A s=wp (i l) (λw s'=>⇑w.ds<=eT/\wp (collect g t e w.same w.ds (fT n caps l)) A s') s:=by unfold db;rw[dR];congr 1;funext x s';rw[dE]
theorem Hh{i:CI}{g:CG}{b:CS}:wp (hU i g b l) R s=wp (i l) (λw s'=>wp (kM g b w.same w.ds l) R s') s:=by unfold hU;rw[dR]
theorem Ie{a:CE}: wp (MM.fC a l) I s=wp (a l) (λx s'=>match x with
  | .int j=>(-(2^62)<=j/\j < 2^62)/\I ⟨ib 0 j.toNat,e9⟩ s'
  |_=>False) s:=by
 unfold MM.fC;rw[dR];congr 1;funext x s';cases x<;>first|bv_omega|(dsimp only;rw[dE];ac_rfl)
theorem Cj{a:CE}: wp (fY a l) I s=wp (a l) (λx s'=>match x with
  | .tup ds=>I ⟨ds,e9⟩ s'| .lit ds=>I ⟨ds,e9⟩ s'| .ref n=>wp (getL n) (λds g=>I ⟨ds,ij n ds⟩ g) s'
  |_=>False) s:=by
 unfold fY;rw[dR];congr 1;funext x s';cases x<;>first|bv_omega|(dsimp only;rw[dR];ac_rfl)
theorem BJ{i j:Int}:wp (dg ↑i ↑j) Q s=Q ↑(i+j) s:=eB rfl
theorem FW{i j:Int}:wp (pX ↑i ↑j) Q s=Q ↑(i-j) s:=eB rfl
theorem BI{i j:Int}:wp (nW ↑i ↑j) Q s=(tE i j/\Q ↑(i*j) s):=by unfold nW tS;rw[dE];ac_rfl
theorem HW{i j:Int}:wp (tw ↑i ↑j) Q s=((0 < j/\j < 1073741824)/\Q ↑(i / j) s):=by unfold tw tS;rw[dE];ac_rfl
theorem Bo{i j:Int}:wp (qe ↑i ↑j) Q s=(0 < j/\Q ↑(i % j) s):=by unfold qe tS;rw[dE];ac_rfl
theorem LA{i j:Int}:wp (Cd ↑i ↑j) Q s=Q (.bl (decide (i < j))) s:=eB rfl
theorem NI{i j:Int}:wp (Hc ↑i ↑j) Q s=Q (.bl (decide (i<=j))) s:=eB rfl
theorem Md{i j:Int}:wp (yV ↑i ↑j) Q s=Q (.bl (decide (j < i))) s:=eB rfl
theorem Ob{i j:Int}:wp (Jg ↑i ↑j) Q s=Q (.bl (decide (j<=i))) s:=eB rfl
theorem Mn{i j:Int}:wp (oF ↑i ↑j) Q s=Q (.bl (i == j)) s:=eB rfl
theorem KP{i j:Int}:wp (xT ↑i ↑j) Q s=Q (.bl !(i == j)) s:=eB rfl
theorem nP{ds:List D}{i:Int}:wp (aU (.tup ds) ↑i) Q s=wp (cu ds i) Q s:=nr rfl
theorem Al{n:Nat}{i:Int}:wp (aU (.ref n) ↑i) Q s=wp (getL n) (λds s'=>wp (cu ds i) Q s') s:=by unfold aU;rw[dR]
theorem yT{ds:List D}:wp (eN (.tup ds)) Q s=Q (.int ⇑ds) s:=eB rfl
theorem Cq{n:Nat}:wp (eN (.ref n)) Q s=wp (getL n) (λds s'=>Q (.int ⇑ds) s') s:=by unfold eN;rw[dR];ac_rfl
theorem CN{b:Bool}:wp (intD (.bl b)) Q s=Q ↑(if b then 1 else 0) s:=eB rfl
theorem Cu{n:Nat}{i:Int}{v:D}{U:Unit->aY->Prop}: wp (ni (.ref n) ↑i v) U s=wp (getL n) (λds s'=>wp (match MM.sK ⇑ds i with
  |some j=>putL n (ds.set j v)
  |none=>bad) U s') s:=by
 unfold ni;rw[dR]<;>congr 1
theorem yM{d:D}:wp (uz (.ret d)) Q s=Q d s:=eB rfl
theorem AG:wp (uz (.next l)) Q s=Q .non s:=eB rfl
end
theorem Ay{a:CE}{lo u:CO}{A:List D->aY->Prop}{s:aY}{l:Loc}: wp (rM a lo u l) A s=wp (a l) (λx o=>wp (lo l) (λi h=>wp (u l) (λj g=>match x with
  | .lit ds=>A (cutD ds i j) g| .ref n=>wp (getL n) (λds z=>A (cutD ds i j) z) g
  |_=>False) h) o) s:=by
 unfold rM;rw[dR];congr 1;funext x o;rw[dR];congr 1;funext i h;rw[dR];congr 1;funext j g;cases x<;>first|bv_omega|(dsimp only;rw[dR];ac_rfl)
theorem Db{A:Option Int->aY->Prop}{s:aY}{l:Loc}:wp (o9 l) A s=A ψ s:=eB rfl
theorem C6{a:CE}{A:Option Int->aY->Prop}{s:aY}{l:Loc}: wp (mK a l) A s=wp (a l) (λx g=>match x with
  | .int i=>A (ξ i) g
  |_=>False) s:=by
 unfold mK;rw[dR];congr 1;funext x g;cases x<;>first|bv_omega
theorem B5{a:CE}{I:Wk->aY->Prop}{s:aY}{l:Loc}: wp (uO a l) I s=wp (a l) (λx s'=>match x with
  | .tup ds=>I ⟨(ib 0 ⇑ds).zipWith (λi d=>.tup [i,d]) ds,e9⟩ s'
  |_=>False) s:=by
 unfold uO;rw[dR];congr 1;funext x s';cases x<;>first|bv_omega
theorem vG{n:Nat}{r:List D->Loc->M Loc}{ds:List D}{G:Loc->aY->Prop}{s:aY}{l:Loc}:wp (ir n r (.tup ds) l) G s=(⇑ds=n/\wp (r ds l) G s):=by unfold ir;rw[dE]
theorem pf{g:CG}{r:List D->Loc->M Loc}{d:D}{ds:List D}{G:Loc->aY->Prop}{s:aY}{l:Loc}:wp (cE g r (d::ds) l) G s=wp (g d l) (λh s'=>wp (r ds h) G s') s:=by unfold cE;rw[dR]
theorem vw{G:Loc->aY->Prop}{s:aY}{l:Loc}:wp (iG [] l) G s=G l s:=eB rfl
def eZ(s s':aY):Prop:=∃t,s'=s++t
theorem eZ.refl(s:aY):eZ s s:=⟨[],by simp⟩
theorem eZ.snoc(h:eZ s s')(o:MO):eZ s (s'++[o]):=by let⟨t,e⟩:=h;exact⟨t++[o],by rw[e];simp⟩
theorem eZ.trans(h:eZ s s')(k:eZ s' g):eZ s g:=by let⟨t,e⟩:=h;let⟨u,f⟩:=k;exact⟨t++u,by rw[f,e];simp⟩
theorem eZ.at_{n:Nat}(h:eZ s s')(k:s[n]?=ξ o):s'[n]?=ξ o:=by let⟨t,e⟩:=h;rw[e,aI (ac.mp k).1];exact k
theorem Vx{α:Type}(f:α->Int)(xs:List α):lE (xs.map λx=>.int (f x))=ξ (xs.map f):=by
 induction xs with|nil=>rfl|cons x xs ih=>simp only[aX,lE,ih];ac_rfl
theorem Kq{α:Type}{m:M α}{v:α}{Q:α->aY->Prop}(h:wp m (λa s'=>a=v/\s'=s) s):wp m Q s=Q v s:=by
 simp only[rF]at *;cases e:m s with|ok a s'=>rw[e]at h;let⟨l,g⟩:=h;subst l;subst g;ac_rfl|exc _ _=>rw[e]at h;exact h.elim|bad=>rw[e]at h;exact h.elim
theorem Hj{a b:Nat}{s:aY}(h:s[a]?=ξ (.lst x))(g:s[b]?=ξ (.lst y)):wp (dg (.ref a) (.ref b)) Q s=(⇑x+⇑y<=eT/\Q (.ref ⇑s) (s++[.lst (x++y)])):=by unfold dg;rw[dR,eA h,dR,eA g,dE];ac_rfl
def Ao(x:D)(p q:Prop):Prop:=match x with| .bl θ=>p| .bl ω=>q|_=>False
theorem vE{p q:Prop}:Ao (.bl θ) p q=p:=nr rfl
theorem yO{p q:Prop}:Ao (.bl ω) p q=q:=nr rfl
section
variable{Q:D->aY->Prop}{T:Bool->aY->Prop}{s:aY}{l:Loc}
theorem Cs{a b:CE}:wp (wT a b l) Q s=wp (a l) (λx s'=>Ao x (wp (b l) Q s') (Q (.bl ω) s')) s:=by unfold wT;rw[dR];congr 1;funext x s';rcases x with _|b|_|_|_|_|_|_<;>first|bv_omega|(cases b<;>first|bv_omega)
theorem Fk{a b:CE}:wp (DX a b l) Q s=wp (a l) (λx s'=>Ao x (Q (.bl θ) s') (wp (b l) Q s')) s:=by unfold DX;rw[dR];congr 1;funext x s';rcases x with _|b|_|_|_|_|_|_<;>first|bv_omega|(cases b<;>first|bv_omega)
theorem Cw{a:CE}: wp (vH a l) Q s=wp (a l) (λx s'=>match x with
  | .bl b=>Q (.bl !b) s'
  |_=>False) s:=by
 unfold vH;rw[dR];congr 1;funext x s';cases x<;>first|bv_omega
theorem ES{t:CT}{a b:CE}:wp (yR t a b l) Q s=wp (t l) (λc s'=>if c=θ then wp (a l) Q s' else wp (b l) Q s') s:=by unfold yR;rw[dR];congr 1;funext c s';rw[JH]
theorem CP{b:Bool}:wp (Aj (.bl b)) T s=T b s:=eB rfl
theorem Dr{ds:List D}:wp (mS ds) Q s=Q (.tup ds) s:=eB rfl
theorem nO{d:D}{ds:List D}:wp (cu (d::ds) 0) Q s=Q d s:=by rw[HU (d:=d) () rfl,b4]
theorem my{d e:D}{ds:List D}:wp (cu (d::e::ds) 1) Q s=Q e s:=by rw[HU (d:=e) () rfl,b4]
theorem AC{d e f:D}{ds:List D}:wp (cu (d::e::f::ds) 2) Q s=Q f s:=by rw[HU (d:=f) () rfl,b4]
theorem AV{d e f g:D}{ds:List D}:wp (cu (d::e::f::g::ds) 3) Q s=Q g s:=by rw[HU (d:=g) () rfl,b4]
theorem oG{ds:List D}{i:Nat}{d:D}(h:ds[i]?=ξ d):wp (cu ds i) Q s=Q d s:=by rw[HU (d:=d) () (by simpa using h),b4]
theorem B6{a:CA}{I:Wk->aY->Prop}:wp (wM a l) I s=wp (a l) (λds s'=>I ⟨ds,e9⟩ s') s:=by unfold wM;rw[dR];ac_rfl
end
noncomputable def bP(p:Prop):Bool:=@decide p (sC p)
theorem Fh{p:Prop}:bP p=θ↔p:=by unfold bP;exact @decide_eq_true_iff p (sC p)
theorem QjC{p:Prop}(h:p):bP p=true:=Fh.mpr h
theorem Tb{p:Prop}(h:¬p):bP p=false:=by
 cases e:bP p with|false=>rfl|true=>exact (h (Fh.mp e)).elim
theorem JA{p:Prop}(h:b=θ↔p):b=bP p:=by
 cases b with|true=>exact (QjC (h.mp rfl)).symm|false=>exact (Tb λk=>by cases h.mpr k).symm
noncomputable def bY{α:Type}(n:Nat)(f:Nat->α):List α:=(bU n).map f
theorem xy{α:Type}{n i:Nat}{f:Nat->α}(h:i < n):(bY n f)[i]?=ξ (f i):=by unfold bY;rw[ar,d_ h];ac_rfl
theorem zK{α:Type}{n i:Nat}{f:Nat->α}{x:α}(h:(bY n f)[i]?=ξ x):i < n/\x=f i:=by
 let g:i < n:=by have:=(ac.mp h).1;simpa [bY] using this
 rw[xy g]at h;cases h;exact⟨g,rfl⟩
theorem on{α:Type}{n:Nat}{f:Nat->α}:⇑(bY n f)=n:=by simp[bY]
theorem R4{α:Type}{n:Nat}{f:Nat->α}:bY (n+1) f=bY n f++[f n]:=by unfold bY;rw[fH,aV];ac_rfl
theorem AZ{α:Type}{n:Nat}{xs:List α}{f:Nat->α}(l:⇑xs=n)(h:∀i,i < n->xs[i]?=ξ (f i)):xs=bY n f:=by
 apply d7;intro i;by_cases g:i < n
 ·rw[h i g,xy g]
 ·rw[bE (),bE (by rw[on];ext)]
theorem Jy{α β:Type}{n:Nat}{f:Nat->α}{g:α->β}:(bY n f).map g=bY n λi=>g (f i):=by unfold bY;rw[i9];ac_rfl
theorem Ef{n:Nat}:ib 0 n=bY n λi=>.int i:=by unfold ib bY;congr 1;funext k;simp
theorem QV{g:CG}{e:CE}{same:aY->Prop}{ds:List D}{f:Nat->D}(I:Loc->Prop)(Y:same s)(h0:I l0)(h:∀i d l,ds[i]?=ξ d->I l->∃z,(∀G,wp (g d l) G s=G z s)/\I z/\∀Q,wp (e z) Q s=Q (f i) s):wp (collect g cB e same ds l0) Q s=Q (bY ⇑ds f) s:=by
 let chk:∀{R:Unit->aY->Prop},R Unit.unit s->wp (chkS same) R s:=λr=>by rw[rF];unfold chkS;rw[aH Y];exact r
 apply Kq;refine FV (Q:=λo s'=>o=bY ⇑ds f/\s'=s) (λo xs l s'=>∃i,xs=ds.drop i/\i<=⇑ds/\I l/\o=bY i f/\s'=s) (λo l s' H=>?_) (λo d xs l s' E=>?_) ds [] _ s ⟨0,by simp,bn _,h0,rfl,rfl⟩
 ·obtain ⟨i,C,hi,_,J,es⟩:=H;let : i = ⇑ds := by have:=cj e_ C;simp at this;ext
  subst this;subst es;exact chk ⟨J,rfl⟩
 ·obtain ⟨i,C,hi,g,J,es⟩:=E;let u : i < ⇑ds := by have:=cj e_ C;simp at this;ext
  rw[cz u]at C;let⟨G,o⟩:=nR C;let⟨z,U,O,L⟩:=h i d l (by rw[G];exact ag u) g;subst es;refine chk ?_;rw[U]
  show wp (ret θ) _ s';rw[b4]
  show wp (e z) _ s';rw[L];exact⟨i+1,o,u,O,by rw[J,R4],rfl⟩
theorem A0{e:CE}{same:aY->Prop}{ds:List D}{caps:Loc}{f:Nat->D}{Q:List D->aY->Prop}{s:aY}(o:same s)(h:∀i d,ds[i]?=ξ d->∀Q,wp (e (ξ d::caps)) Q s=Q (f i) s):wp (collect (aT 0) cB e same ds (ψ::caps)) Q s=Q (bY ⇑ds f) s:=
 QV (λl=>∃x,l=x::caps) o ⟨ψ,rfl⟩ λi d l hd g=>by let⟨x,el⟩:=g;exact⟨ξ d::caps,λG=>by rw[el,fk];rfl,⟨_,rfl⟩,h i d hd⟩
theorem Fy{e:CE}{same:aY->Prop}{ds:List D}{caps:Loc}{f:Nat->D}{Q:List D->aY->Prop}{s:aY}(o:same s)(h:∀i d,ds[i]?=ξ d->∃a b,d=.tup [a,b]/\∀Q,wp (e (ξ a::ξ b::caps)) Q s=Q (f i) s):wp (collect (ir 2 (cE (aT 0) (cE (aT 1) iG))) cB e same ds (ψ::ψ::caps)) Q s=Q (bY ⇑ds f) s:=
 QV (λl=>∃x y,l=x::y::caps) o ⟨ψ,ψ,rfl⟩ λi d l hd g=>by let⟨x,y,el⟩:=g;let⟨a,b,u,q⟩:=h i d hd;refine⟨ξ a::ξ b::caps,λG=>?_,⟨_,_,rfl⟩,q⟩;rw[u,el,vG,pf,fk,pf,fk,vw];exact propext ⟨λh=>h.2,λh=>⟨rfl,h⟩⟩
section
variable{n:Nat}{f:Nat->D}
theorem xA{i:Nat}(h:i < n):wp (cu (bY n f) (i:Int)) Q s=Q (f i) s:=oG (xy h)
theorem Zr(h:0 < n):wp (cu (bY n f) 0) Q s=Q (f 0) s:=by have:=@oG Q s (bY n f) 0 (f 0) (xy h);simpa using this
end
theorem yU:e9 s:=trivial
theorem HG{e:CE}{same:aY->Prop}{n:Nat}{g:Nat->D}{f:Nat->D}(l:same s)(h:∀i,i < n->∀Q,wp (e (ξ (g i)::caps)) Q s=Q (f i) s):wp (collect (aT 0) cB e same (bY n g) (ψ::caps)) Q s=Q (bY n f) s:=by
 rw[A0 (f:=f) l (λi d hd=>by let⟨o,e⟩:=zK hd;subst e;exact h i o),on]
theorem Vr{n:Nat}{f:Nat->D}:(ib 0 n).zipWith (λi d=>D.tup [i,d]) (bY n f)=bY n λi=>.tup [.int i,f i]:=by
 apply AZ
 ·simp[ib,bY]
 ·intro i g;rw[fo,Ql g,xy g]
section
variable{Q:D->aY->Prop}{A:List D->aY->Prop}{s:aY}{l:Loc}
theorem zj{a b:CE}: wp (dI a b l) Q s=wp (a l) (λx o=>match x with
  | .ref n=>wp (b l) (λv h=>wp (getL n) (λds g=>⇑ds < eT/\wp (putL n (ds++[v])) (λ_ u=>Q .non u) g) h) o
  |_=>False) s:=by
 unfold dI;rw[dR];congr 1;funext x o;cases x<;>first|bv_omega|(dsimp only;rw[dR];congr 1;funext v h;unfold wj;rw[dR];congr 1;funext ds g;rw[dE,dR];first|ac_rfl|(refine cj _ ?_;refine kt λ_ _=>?_;simp only[b4,eX,im]))
theorem AD{a:CE}: wp (pV a l) Q s=wp (a l) (λx g=>match x with
  | .ref n=>wp (putL n []) (λ_ h=>Q .non h) g
  |_=>False) s:=by
 unfold pV;rw[dR];congr 1;funext x g;cases x<;>first|bv_omega|(dsimp only;rw[dR];first|ac_rfl|(refine cj _ ?_;refine kt λ_ _=>?_;simp only[b4,eX,im]))
theorem Hn{a:CE}: wp (wO a l) Q s=wp (a l) (λx h=>match x with
  | .ref n=>wp (getL n) (λds g=>match ds.getLast? with
   |some d=>wp (putL n ds.dropLast) (λ_ o=>Q d o) g
   |none=>False) h
  |_=>False) s:=by
 unfold wO;rw[dR];congr 1;funext x h;cases x<;>first|bv_omega|(dsimp only;rw[dR];congr 1;funext ds g;cases ds.getLast?<;>first|bv_omega|(dsimp only;rw[dR];first|ac_rfl|(refine cj _ ?_;refine kt λ_ _=>?_;simp only[b4,eX,im])))
theorem CW{a:CE}: wp (uI a l) A s=wp (a l) (λx g=>match x with
  | .ref n=>wp (getL n) (λds h=>A ds.reverse h) g
  |_=>False) s:=by
 unfold uI;rw[dR];congr 1;funext x g;cases x<;>first|bv_omega|(dsimp only;rw[dR];first|ac_rfl|(refine cj _ ?_;refine kt λ_ _=>?_;simp only[b4,eX,im]))
theorem AW{n:Nat}:wp (tf (.ref n)) Q s=wp (getL n) (λds g=>Q (.ref ⇑g) (g++[.lst ds])) s:=by unfold tf uB;rw[dR];(try dsimp only);(try rw[dR]);refine kt λ_ _=>?_;simp only[b4,eX,im]
theorem zk{n:Nat}:wp (tupleD (.ref n)) Q s=wp (getL n) (λds g=>Q (.tup ds) g) s:=by unfold tupleD;rw[dR];(try dsimp only);(try rw[dR]);refine kt λ_ _=>?_;simp only[b4,eX,im]
theorem Dn{x:D}{ds:List D}:wp (Ge x (.tup ds)) Q s=wp (Gp x ds) Q s:=nr rfl
theorem AH{a b:Str}:wp (oF (.str a) (.str b)) Q s=Q (.bl (a == b)) s:=eB rfl
theorem B_{n:Nat}:wp (kc ["list"] (.ref n)) Q s=Q (.bl θ) s:=eB rfl
theorem Cc{i j:Int}:wp (wk ↑i ↑j) Q s=Q ↑(min i j) s:=eB rfl
theorem BX{i j:Int}:wp (v_ ↑i ↑j) Q s=Q ↑(max i j) s:=eB rfl
theorem Ck{a b:CE}{I:Wk->aY->Prop}: wp (MM.qA a b l) I s=wp (a l) (λx h=>wp (b l) (λy g=>match x,y with
  | .int i,.int j=>((-(2^62)<=i/\i < 2^62)/\(-(2^62)<=j/\j < 2^62))/\I ⟨ib i (j-i).toNat,e9⟩ g
  |_,_=>False) h) s:=by
 unfold MM.qA;rw[dR];congr 1;funext x h;rw[dR];congr 1;funext y g;cases x<;>first|bv_omega|skip
 cases y<;>first|bv_omega|(dsimp only;rw[dE];first|ac_rfl|(refine cj _ ?_;refine kt λ_ _=>?_;simp only[b4,eX,im]))
theorem CB{x y:List D}:wp (dg (.tup x) (.tup y)) Q s=(⇑x+⇑y<=eT/\Q (.tup (x++y)) s):=by unfold dg;rw[dE];first|ac_rfl|(refine cj _ ?_;refine kt λ_ _=>?_;simp only[b4,eX,im])
theorem yP{a:CA}{b:CE}: wp (iP a b l) Q s=wp (a l) (λds h=>wp (b l) (λi g=>match i with
  | .int k=>wp (cu ds k) Q g
  |_=>False) h) s:=by
 unfold iP;rw[dR];congr 1;funext ds h;rw[dR];congr 1;funext i g;cases i<;>first|bv_omega
theorem ZR:wp (Av x ds) Q s=((lG x=θ/\ds.all lG=θ)/\Q (.bl !(ds.any λd=>vI d x)) s):=by unfold Av;rw[dE];first|ac_rfl|(refine cj _ ?_;refine kt λ_ _=>?_;simp only[b4,eX,im])
end
theorem F7{p q:Prop}:(if ω=θ then p else q)=q:=aB (by simp)
noncomputable def mx(f:Nat->Nat):Nat->Nat
 |0=>0|n+1=>max (mx f n) (f n)
theorem Rt{f:Nat->Nat}{n m:Nat}(h:∀i,i < n->f i<=m):mx f n<=m:=by
 induction n with|zero=>exact bn _|succ n ih=>unfold mx;exact Nat.max_le.mpr ⟨ih λi g=>h i (),h n ()⟩
theorem QjY{f:Nat->Nat}{n i:Nat}(h:i < n):f i<=mx f n:=by
 induction n with|zero=>ext|succ n ih=>
  unfold mx;by_cases e:i=n
  ·subst e;exact Bh _ _
  ·exact bH (ih ()) (BS _ _)
theorem Zu{f:Nat->Nat}{n:Nat}(h:0 < n):wp (vB (bY n λi=>.int (f i:Nat))) Q s=Q ↑(mx f n:Nat) s:=by
 obtain⟨k,rfl⟩:∃k,n=k+1:=⟨n-1,by ext⟩
 let g:∀(k:Nat),(((bU k).map (· + 1)).map λ(i:Nat)=>((f i:Nat):Int)).foldl max ((f 0:Nat):Int)=((mx f (k+1):Nat):Int):=by
  intro k
  induction k with|zero=>show ((f 0:Nat):Int)=((max 0 (f 0):Nat):Int);ext|succ k ih=>
   rw[fH,aV,aV,qN,ih]
   show max ((mx f (k+1):Nat):Int) ((f (k+1):Nat):Int)=((max (mx f (k+1)) (f (k+1)):Nat):Int)
   ext
 unfold vB bY;rw[Vx (λi=>((f i:Nat):Int)),vg,aX];dsimp only;rw[b4,<- g k]
theorem eZ.put{n:Nat}(h:eZ s s')(g:⇑s<=n):eZ s (s'.set n o):=by let⟨t,e⟩:=h;exact⟨t.set (n-⇑s) o,by rw[e,List.set_append_right _ _ g]⟩
theorem eZ.le(h:eZ s s'):⇑s<=⇑s':=by let⟨t,e⟩:=h;rw[e];simp
theorem LB:∀(n:Nat)(l:Loc)(s:aY),cF t b n l s≠.bad->cF t b (n+1) l s=cF t b n l s
 |0,l,s,h=>(h rfl).elim
 |n+1,l,s,h=>by
  let g:∀k,cF t b (k+1) l s=(match t l s with
   | .ok θ s1=>(match b l s1 with
    | .ok (.next l2) s2=>cF t b k l2 s2| .ok (.cnt l2) s2=>cF t b k l2 s2| .ok (.brk l2) s2=>.ok (.next l2) s2| .ok (.ret d) s2=>.ok (.ret d) s2| .exc x s2=>.exc x s2
    | .bad=>.bad)
   | .ok ω s1=>.ok (.next l) s1| .exc x s1=>.exc x s1
   | .bad=>.bad):=λk=>by
   show bnd (t l) _ s=_;unfold bnd;cases t l s with|exc x s1=>rfl|bad=>rfl|ok c s1=>
    cases c with|false=>rfl|true=>
     show (bnd (b l) _) s1=_;unfold bnd;dsimp only;cases b l s1 with|exc x s2=>rfl|bad=>rfl|ok f s2=>cases f<;>first|bv_omega
  rw[g (n+1),g n];rw[g n]at h;cases o:t l s with|exc x s1=>rfl|bad=>rfl|ok c s1=>
   rw[o]at h;cases c with|false=>rfl|true=>
    dsimp only at h ⊢;cases u:b l s1 with|exc x s2=>rfl|bad=>rfl|ok f s2=>
     rw[u]at h;cases f with|next l2=>exact LB n l2 s2 h|cnt l2=>exact LB n l2 s2 h|brk l2=>rfl|ret d=>rfl
theorem IL{n m:Nat}(h:cF t b n l s≠.bad)(g:n<=m):cF t b m l s=cF t b n l s:=by
 induction m with
 | zero => have : n = 0 := by ext
           subst this;ac_rfl
 |succ m ih=>
  by_cases e:n=m+1
  ·subst e;ac_rfl
  ·have:=ih ();rw[LB m l s (by rw[this];exact h),this]
theorem OS{t:CT}{b:CS}{Q:su->aY->Prop}{l:Loc}{s:aY}(W:Loc->aY->Prop)(μ:Loc->aY->Nat)(L:W l s)(I:∀l s,W l s->wp (t l) (λc C=>if c=θ then wp (b l) (λf o=>match f with
   | .next l2=>W l2 o/\μ l2 o < μ l s| .cnt l2=>W l2 o/\μ l2 o < μ l s| .brk l2=>Q (.next l2) o
   | .ret d=>Q (.ret d) o) C else Q (.next l) C) s):wp (gL t b l) Q s:=by
 let key:∀(k:Nat)(l:Loc)(s:aY),μ l s < k->W l s->∃n,wp (cF t b n l) Q s:=by
  intro k
  induction k with
  |zero=>intro l s h;ext
  |succ k ih=>
   intro l s O w;let z:=I l s w;rw[rF]at z;cases E:t l s with|exc x C=>rw[E]at z;exact z.elim|bad=>rw[E]at z;exact z.elim|ok c C=>
    rw[E]at z;cases c with
    |false=>
     refine⟨1,?_⟩
     show wp (bnd (t l) _) Q s;rw[dR,eB E]
     show wp (ret _) _ _;rw[b4];exact z
    |true=>
     let g:wp (b l) _ C:=z;rw[rF]at g;cases G:b l C with|exc x o=>rw[G]at g;exact g.elim|bad=>rw[G]at g;exact g.elim|ok f o=>
      rw[G]at g;let go:∀(n:Nat),wp (match f with
       | .next l2=>cF t b n l2| .cnt l2=>cF t b n l2| .brk l2=>ret (.next l2)
       | .ret d=>ret (.ret d)) Q o->wp (cF t b (n+1) l) Q s:=λn q=>by
       show wp (bnd (t l) _) Q s;rw[dR,eB E,aH rfl,dR,eB G];exact q
      cases f with|next l2=>let⟨n,u⟩:=ih l2 o (by have:=g.2;ext) g.1;exact⟨n+1,go n u⟩|cnt l2=>let⟨n,u⟩:=ih l2 o (by have:=g.2;ext) g.1;exact⟨n+1,go n u⟩|brk l2=>exact⟨1,go 0 (by show wp (ret _) _ _;rw[b4];exact g)⟩|ret d=>exact⟨1,go 0 (by show wp (ret _) _ _;rw[b4];exact g)⟩
 let⟨n,u⟩:=key (μ l s+1) l s (mX _) L;let H:cF t b n l s≠.bad:=λe=>by rw[rF]at u;rw[e]at u;exact u
 let ex:∃n,∀r,cF t b n l s=r->r≠.bad:=⟨n,λr e=>e ▸ H⟩
 rw[rF];unfold gL;rw[dif_pos ex];let J:cF t b (dm ex) l s≠.bad:=eh ex _ rfl;let e:cF t b (dm ex) l s=cF t b n l s:=by rw[<- IL J (BS (dm ex) n),<- IL H (Bh (dm ex) n)]
 rw[e];rw[rF]at u;exact u
section
variable{Q:D->aY->Prop}{s:aY}{l:Loc}
theorem yY{a:CE}{lo u:CO}: wp (kg a lo u l) Q s=wp (a l) (λx o=>wp (lo l) (λi h=>wp (u l) (λj g=>match x with
  | .tup ds=>¬(gQ ⇑ds 0 i=0/\gQ ⇑ds ⇑ds j=⇑ds)/\Q (.tup (cutD ds i j)) g
  |_=>False) h) o) s:=by
 unfold kg;rw[dR];congr 1;funext x o;rw[dR];congr 1;funext i h;rw[dR];congr 1;funext j g;cases x<;>first|bv_omega|(dsimp only;rw[dE];ac_rfl)
end
section
variable{α β:Type}{γ:Sort _}
theorem ER{p:Prop}[Decidable p]:(decide p=θ)=p:=_root_.decide_eq_true_eq
theorem LQ{n:Nat}{a:α}:aE (n+1) a=a::aE n a:=nr rfl
theorem Nk{a:α}:aE 0 a=[]:=nr rfl
theorem L6{x:Option α}:(ξ x).join=x:=nr rfl
theorem K4{f:α->β}{a:α}{l:List α}:tL f (a::l)=f a::tL f l:=nr rfl
theorem Lx{f:α->β}:tL f []=[]:=nr rfl
theorem Nv{a:α}{l k:List α}:(a::l)++k=a::(l++k):=nr rfl
theorem MQ{l:List α}:[]++l=l:=nr rfl
theorem LL{a:α}{l:List α}:(a::l)[0]?=ξ a:=nr rfl
theorem Lj{a:α}{l:List α}{i:Nat}:(a::l)[i+1]?=l[i]?:=by simp
theorem LI{a b:α}{l:List α}:(a::l).set 0 b=b::l:=nr rfl
theorem Lp{a b:α}{l:List α}{i:Nat}:(a::l).set (i+1) b=a::l.set i b:=nr rfl
theorem La{a:α}{l:List α}:⇑(a::l)=⇑l+1:=nr rfl
theorem LJ:⇑([]:List α)=0:=nr rfl
theorem M5{c d:γ}:(if True then c else d)=c:=aH trivial
theorem Kk{c d:γ}:(if False then c else d)=d:=aB (λh=>h)
theorem NQ{p:Prop}:(p/\True)=p:=and_true p
theorem Kp{p:Prop}:(True/\p)=p:=true_and p
theorem Ll:(!θ)=false:=nr rfl
theorem MI:(!ω)=true:=nr rfl
end
section
variable{Q:D->aY->Prop}{U:Unit->aY->Prop}{A:List D->aY->Prop}{s:aY}{l:Loc}
theorem Br{n:Nat}{Q:Bool×List (D×D)->aY->Prop}(h:s[n]?=ξ (.dct b g)):wp (getDc n) Q s=Q (b,g) s:=by rw[rF];unfold getDc;rw[h]
theorem PY{n:Nat}{Q:Unit->aY->Prop}(h:s[n]?=ξ (.dct b o)):wp (tj n b g) Q s=Q Unit.unit (s.set n (.dct b g)):=by rw[rF];unfold tj;rw[h];simp
theorem A1{n:Nat}(h:s[n]?=ξ (.dct b g))(u:oW b k=θ)(o:kR g k=ξ d):wp (itemK n k) Q s=Q d s:=by unfold itemK;rw[dR,Br h,dE];dsimp only;rw[o,b4];exact propext ⟨λh=>h.2,λh=>⟨u,h⟩⟩
theorem D8{n:Nat}(h:s[n]?=ξ (.dct b g))(u:oW b k=θ)(o:⇑g < eT):wp (storeK n k v) U s=U Unit.unit (s.set n (.dct b (i6 g k v))):=by unfold storeK;rw[dR,Br h,dE];dsimp only;rw[PY h];exact propext ⟨λh=>h.2,λh=>⟨⟨u,o⟩,h⟩⟩
theorem JY{n:Nat}{Q:Bool->aY->Prop}(h:s[n]?=ξ (.dct b g))(o:oW b k=θ):wp (hasK n k) Q s=Q (kR g k).isSome s:=by unfold hasK;rw[dR,Br h,dE,b4];exact propext ⟨λh=>h.2,λh=>⟨o,h⟩⟩
theorem wy{n:Nat}{k:D}:wp (aU (.dic n) k) Q s=wp (itemK n k) Q s:=by cases k<;>first|bv_omega
theorem Dj{n:Nat}{k v:D}:wp (ni (.dic n) k v) U s=wp (storeK n k v) U s:=by cases k<;>first|bv_omega
theorem AJ{n:Nat}{k:D}:wp (nS k (.dic n)) Q s=wp (hasK n k) (λb s'=>Q (.bl !b) s') s:=by unfold nS;rw[dR];ac_rfl
theorem Qj9{n:Nat}(h:s[n]?=ξ (.dct b g)):wp (eN (.dic n)) Q s=Q (.int ⇑g) s:=by unfold eN;rw[dR,Br h];ac_rfl
theorem Ct{b:Bool}:wp (rK b l) Q s=Q (.dic ⇑s) (s++[.dct b []]):=eB rfl
theorem Ae{ks:List D}{vs:CA}:wp (uQ ks vs l) Q s=wp (vs l) (λxs s'=>⇑ks=⇑xs/\Q (.dic ⇑s') (s'++[.dct ω (uD [] (ks.zip xs))])) s:=by unfold uQ;rw[dR];congr 1;funext xs s';rw[dE];rw[show ∀g,wp (rH ω g) Q s'=Q (.dic ⇑s') (s'++[.dct ω g]) from λ_=>eB rfl]
theorem CL{a:CA}:wp (xZ a l) A s=wp (a l) (λds s'=>A ds.reverse s') s:=by unfold xZ;rw[dR];ac_rfl
end
theorem AQ{a:CA}{b:CE}{A:List D->aY->Prop}{s:aY}{l:Loc}: wp (oH a b l) A s=wp (a l) (λxs h=>wp (b l) (λk g=>match k with
  | .int k=>((-(2^63)<=k/\k < 2^63)/\⇑xs*k.toNat<=eT)/\A (aE k.toNat xs).flatten g
  |_=>False) h) s:=by
 unfold oH;rw[dR];congr 1;funext xs h;rw[dR];congr 1;funext k g;cases k<;>first|bv_omega|(dsimp only;rw[dE];ac_rfl)
theorem Qka{m:M D}{s:aY}(h:wp m (λd _=>d=.bl θ) s):∃g,m s=.ok (.bl θ) g:=by
 rw[rF]at h;cases e:m s with|ok a s'=>rw[e]at h;exact⟨s',by rw[show a=.bl θ from h]⟩|exc _ _=>rw[e]at h;exact h.elim|bad=>rw[e]at h;exact h.elim
theorem i4{α:Type}{l:List α}{a:α}:(l++[a])[⇑l]?=ξ a:=by rw[bv (aA _),vQ];ac_rfl
theorem k_{α:Type}{l:List α}{a b:α}{n:Nat}(h:l[n]?=ξ a):(l++[b])[n]?=ξ a:=by rw[aI (ac.mp h).1];exact h
section
variable{A:List D->aY->Prop}
theorem Q7{g:CG}{e:CE}{same:aY->Prop}{xs:List D}(V:D->Prop)(L:Loc->Prop)(P:D->Prop)(W:aY->Prop)(hs:∀s,W s->same s)(h0:W s)(hl:L l)(hV:∀d∈xs,V d)(C:∀d l s,V d->L l->W s->wp (g d l) (λH G=>L H/\wp (e H) (λx s2=>P x/\W s2) G) s) (E:∀o s',⇑o=⇑xs->(∀d∈o,P d)->W s'->A o s'):wp (collect g cB e same xs l) A s:=by
 let chk:∀{s:aY}{R:Unit->aY->Prop},same s->R Unit.unit s->wp (chkS same) R s:=λh r=>by rw[rF];unfold chkS;rw[aH h];exact r
 refine FV (Q:=A) (λo ds l s=>⇑o+⇑ds=⇑xs/\(∀d∈ds,V d)/\L l/\(∀d∈o,P d)/\W s) (λo l s U=>?_) (λo d ds l s O=>?_) xs [] l s ⟨by simp,hV,hl,λd hd=>bw hd (by simp),h0⟩
 ·obtain ⟨Y,_,_,I,w⟩:=U;exact chk (hs _ w) (E o s (by simpa using Y) I w)
 ·obtain ⟨Y,g,E,I,w⟩:=O;refine chk (hs _ w) ?_;refine ue (C d l s (g d (by simp)) E w) λH G z=>?_;let⟨J,q⟩:=z
  show wp (ret θ) _ G;rw[b4]
  show wp (e H) _ G;exact ue q λx s2 u=>by let⟨o,h⟩:=u;exact⟨by simp at Y ⊢;ext,λd hd=>g d (by simp[hd]),J,λd hd=>by
   rcases aS.mp hd with hd|hd
   ·exact I d hd
   ·rw[aD.mp hd];exact o,h⟩
theorem BB{e:CE}{same:aY->Prop}{xs:List D}(V:D->Prop)(P:D->Prop)(W:aY->Prop)(E:∀s,W s->same s)(H:W s)(G:∀d∈xs,V d)(o:∀d s,V d->W s->wp (e (ξ d::caps)) (λx z=>P x/\W z) s) (u:∀h s',⇑h=⇑xs->(∀d∈h,P d)->W s'->A h s'):wp (collect (aT 0) cB e same xs (ψ::caps)) A s:=
 Q7 V (λl=>∃x,l=x::caps) P W E H ⟨ψ,rfl⟩ G (λd l s C g w=>by let⟨x,el⟩:=g;subst el;rw[fk];exact⟨⟨_,rfl⟩,o d s C w⟩) u
noncomputable def By(n:Nat)(d:D):Prop:=∃i:Nat,i < n/\d=.int i
theorem B0{n:Nat}:∀d∈ib 0 n,By n d:=λd hd=>by let⟨i,g⟩:=eU hd;let⟨l,h⟩:=IK g;exact⟨i,l,h⟩
theorem Qkg{g:CG}{t:CT}{e:CE}{same:aY->Prop}{xs:List D}(V:D->Prop)(L:Loc->Prop)(P:D->Prop)(W:aY->Prop)(hs:∀s,W s->same s)(h0:W s)(hl:L l)(hV:∀d∈xs,V d)(z:∀d l s,V d->L l->W s->wp (g d l) (λH s1=>L H/\wp (t H) (λb G=>if b=θ then wp (e H) (λx s3=>P x/\W s3) G else W G) s1) s) (C:∀o s',⇑o<=⇑xs->(∀d∈o,P d)->W s'->A o s'):
  wp (collect g t e same xs l) A s:=by
 let chk:∀{s:aY}{R:Unit->aY->Prop},same s->R Unit.unit s->wp (chkS same) R s:=λh r=>by rw[rF];unfold chkS;rw[aH h];exact r
 refine FV (Q:=A) (λo ds l s=>⇑o+⇑ds<=⇑xs/\(∀d∈ds,V d)/\L l/\(∀d∈o,P d)/\W s) (λo l s Y=>?_) (λo d ds l s U=>?_) xs [] l s ⟨by simp,hV,hl,λd hd=>bw hd (by simp),h0⟩
 ·obtain ⟨J,_,_,I,w⟩:=Y;exact chk (hs _ w) (C o s (by simpa using J) I w)
 ·obtain ⟨J,O,o,I,w⟩:=U;refine chk (hs _ w) ?_;refine ue (z d l s (O d (by simp)) o w) λH s1 ⟨E,q⟩=>ue q λb G q=>?_;cases b with|false=>exact⟨by simp at J ⊢;ext,λd hd=>O d (by simp[hd]),E,I,q⟩|true=>
   exact ue q λx G u=>by let⟨h,g⟩:=u;exact⟨by simp at J ⊢;ext,λd hd=>O d (by simp[hd]),E,λd hd=>by
    rcases aS.mp hd with hd|hd
    ·exact I d hd
    ·rw[aD.mp hd];exact h,g⟩
end
end MM
noncomputable def MM.xP:=ay @MM.wx<|ay @MM.BY<|ay @MM.xS<|ay @MM.Ib<|ay @MM.HE<|ay @MM.LM<|ay @MM.Bm<|ay @MM.Cs<|ay @MM.Fk<|ay @MM.Cw<|ay @MM.ES<|ay @MM.CP<|ay @MM.Dr<|ay @MM.nO<|ay @MM.my<|ay @MM.AC<|ay @MM.AV<|ay @MM.B6<|ay @MM.B5<|ay @MM.vG<|ay @MM.pf<|ay @MM.vw<|ay @MM.Ay<|ay @MM.Db<|ay @MM.C6<|ay @MM.Fu<|ay @MM.GI<|ay @MM.HR<|ay @MM.Mg<|ay @MM.KJ<|ay @MM.LZ<|ay @MM.Ku<|ay @MM.LP<|ay @MM.MP<|ay @MM.B3<|ay @MM.Fv<|ay @MM.KC<|ay @MM.MH<|ay @MM.Ld<|ay @MM.G_<|ay @MM.Gq<|ay @MM.EW<|ay @MM.Hf<|ay @MM.Gx<|ay @MM.Cp<|ay @MM.GY<|ay @MM.FY<|ay @MM.Li<|ay @MM.Mr<|ay @MM.N2<|ay @MM.E3<|ay @MM.K5<|ay @MM.J_<|ay @MM.NY<|ay @MM.M3<|ay @MM.E1<|ay @MM.ED<|ay @MM.Fg<|ay @MM.EF<|ay @MM.HS<|ay @MM.xX<|ay @MM.ND<|ay @MM.C5<|ay @MM.yL<|ay @MM.Bq<|ay @MM.x9<|ay @MM.Fc<|ay @MM.Di<|ay @MM.CJ<|ay @MM.HN<|ay @MM.BW<|ay @MM.Hh<|ay @MM.Ie<|ay @MM.Cj<|ay @MM.BJ<|ay @MM.FW<|ay @MM.BI<|ay @MM.HW<|ay @MM.Bo<|ay @MM.LA<|ay @MM.NI<|ay @MM.Md<|ay @MM.Ob<|ay @MM.Mn<|ay @MM.KP<|ay @MM.nP<|ay @MM.Al<|ay @MM.yT<|ay @MM.Cq<|ay @MM.CN<|ay @MM.Cu<|ay @MM.yM<|ay @MM.AG<|ay @MM.Dq<|ay @MM.b4<|ay @MM.dE<|ay @MM.eX<|ay @MM.zj<|ay @MM.AD<|ay @MM.Hn<|ay @MM.CW<|ay @MM.AW<|ay @MM.zk<|ay @MM.Dn<|ay @MM.AH<|ay @MM.B_<|ay @MM.Cc<|ay @MM.BX<|ay @MM.Ck<|ay @MM.CB<|ay @MM.yP<|ay @MM.yY<|ay @MM.wy<|ay @MM.Dj<|ay @MM.AJ<|ay @MM.Ct<|ay @MM.Ae<|ay @MM.CL<|@MM.AQ
local macro_rules
 | `(tactic| simp![$a,*])=>`(tactic| simp only[↓MM.xP,MM.fk,MM.iQ,MM.vE,MM.yO,MM.ER,MM.LQ,MM.Nk,MM.L6,MM.K4,MM.Lx,MM.Nv,MM.MQ,MM.LL,MM.Lj,MM.LI,MM.Lp,MM.La,MM.LJ,Nat.reduceAdd,Nat.reduceSub,Int.reduceLE,Int.reduceLT,MM.M5,MM.Kk,MM.NQ,MM.Kp,beq_iff_eq,MM.F7,MM.Ll,MM.MI,Nat.reduceLT,Nat.reduceLeDiff,$a,*])
namespace MM
open PySem
theorem B8:∀(N:Nat)(l:List Nat),l.Nodup->(∀x∈l,x < N)->⇑l<=N
 |0,l,_,h=>by
  cases l with|nil=>exact aA _|cons x xs=>exact bw (h x (by simp)) (s_ _)
 |N+1,l,hn,h=>by
  by_cases u:N∈l
  ·let z := B8 N (l.erase N) (hn.erase N) (λx o => by have g:=(hn.mem_erase_iff).mp o;have:=h x g.2;have:=g.1;ext)
   rw[List.length_erase_of_mem u]at z;ext
  ·let z := B8 N l hn (λx o => by have:=h x o;have:x≠N:=λe=>u (e ▸ o);ext)
   ext
noncomputable def rS(B:Nat):List Nat->Nat
 |[]=>0|x::xs=>x*B^⇑xs+rS B xs
theorem EL{B:Nat}:∀{xs:List Nat},(∀x∈xs,x < B)->rS B xs < B^⇑xs
 |[],_=>by simp[rS]
 |x::xs,h=>by
  let o:=EL (B:=B) (xs:=xs) λy g=>h y (by simp[g]);let l:=h x (by simp)
  show x*B^⇑xs+rS B xs < B^(⇑xs+1);rw[vW,gN (B^⇑xs) B];have:(x+1)*B^⇑xs<=B*B^⇑xs:=eW _ l;rw[lA]at this;ext
theorem Q3{B:Nat}:∀{xs ys:List Nat},⇑xs=⇑ys->(∀x∈xs,x < B)->(∀x∈ys,x < B)->rS B xs=rS B ys->xs=ys
 |[],[],_,_,_,_=>rfl
 |x::xs,y::ys,hl,hx,hy,e=>by
  let g:⇑xs=⇑ys:=by simpa using hl
  let C:=EL (B:=B) (xs:=xs) λz hz=>hx z (by simp[hz]);let h:=EL (B:=B) (xs:=ys) λz hz=>hy z (by simp[hz]);let o:x*B^⇑xs+rS B xs=y*B^⇑ys+rS B ys:=e;rw[<- g]at o h;let q:x=y/\rS B xs=rS B ys:=by
   generalize B^⇑xs=p at o C h;let u:0 < p:=by ext
   let G:(x*p+rS B xs) / p=x:=by rw[gN,iL u,iw C];simp
   let E:(y*p+rS B ys) / p=y:=by rw[gN,iL u,iw h];simp
   let l:x=y:=by rw[<- G,<- E,o]
   subst l;exact⟨rfl,by ext⟩
  rw[q.1,Q3 g (λz hz=>hx z (by simp[hz])) (λz hz=>hy z (by simp[hz])) q.2]
noncomputable def pr:List Nat->Nat
 |[]=>1|b::bs=>b*pr bs
def m_:List Nat->List Nat->Nat
 |b::bs,x::xs=>x*pr bs+m_ bs xs|_,_=>0
theorem Dm:∀{bs xs:List Nat},⇑xs=⇑bs->(∀(i b x:Nat),bs[i]?=ξ b->xs[i]?=ξ x->x < b)->m_ bs xs < pr bs
 |[],[],_,_=>by simp[m_,pr]
 |b::bs,x::xs,hl,h=>by
  let u:=Dm (bs:=bs) (xs:=xs) (by simpa using hl) λi b x l g=>h (i+1) b x (by simpa using l) (by simpa using g);let o:=h 0 b x rfl rfl
  show x*pr bs+m_ bs xs < b*pr bs;have:(x+1)*pr bs<=b*pr bs:=eW _ o;rw[lA]at this;ext
theorem Q1:∀{bs xs ys:List Nat},⇑xs=⇑bs->⇑ys=⇑bs->(∀(i b x:Nat),bs[i]?=ξ b->xs[i]?=ξ x->x < b)->(∀(i b x:Nat),bs[i]?=ξ b->ys[i]?=ξ x->x < b)->m_ bs xs=m_ bs ys->xs=ys
 |[],[],[],_,_,_,_,_=>rfl
 |b::bs,x::xs,y::ys,hl,hl2,hx,hy,e=>by
  let l:∀(i b x:Nat),bs[i]?=ξ b->xs[i]?=ξ x->x < b:=λi b x o h=>hx (i+1) b x (by simpa using o) (by simpa using h);let g:∀(i b x:Nat),bs[i]?=ξ b->ys[i]?=ξ x->x < b:=λi b x o h=>hy (i+1) b x (by simpa using o) (by simpa using h);let E:=Dm (bs:=bs) (xs:=xs) (by simpa using hl) l;let C:=Dm (bs:=bs) (xs:=ys) (by simpa using hl2) g;let G:x*pr bs+m_ bs xs=y*pr bs+m_ bs ys:=e;let q:x=y/\m_ bs xs=m_ bs ys:=by
   generalize pr bs=p at G E C;let z:0 < p:=by ext
   let I:(x*p+m_ bs xs) / p=x:=by rw[gN,iL z,iw E];simp
   let H:(y*p+m_ bs ys) / p=y:=by rw[gN,iL z,iw C];simp
   let u:x=y:=by rw[<- I,<- H,G]
   subst u;exact⟨rfl,by ext⟩
  rw[q.1,Q1 (by simpa using hl) (by simpa using hl2) l g q.2]
theorem K8:∀(a b:List Nat),lZ (a.map λn:Nat=>.int n) (b.map λn:Nat=>.int n)=decide (a=b)
 |[],[]=>by simp[lZ]|[],_::_=>by simp[lZ]|_::_,[]=>by simp[lZ]
 |x::xs,y::ys=>by
  rw[aX,aX]
  show (mT ↑x ↑y&&lZ _ _)=_;rw[K8 xs ys]
  show (decide ((x:Int)=y)&&_)=_;have:decide ((x:Int)=y)=decide (x=y):=decide_eq_decide.mpr ();rw[this];simp[nG]
theorem Te:∀(a:List Nat),pc (a.map λn:Nat=>.int n)=ξ (a.map λn:Nat=>(n:Int))
 |[]=>rfl|x::xs=>by rw[aX,aX];unfold pc;rw[Te xs];rfl
theorem Uq(a b:List Nat):oW θ (.tup [.tup (a.map λn:Nat=>.int n),.tup (b.map λn:Nat=>.int n)])=true:=by show (nv [.tup (a.map λn:Nat=>.int n),.tup (b.map λn:Nat=>.int n)]).isSome=θ;simp only[nv,Te];rfl
theorem Qkp(a b c d:List Nat):mT (.tup [.tup (a.map λn:Nat=>.int n),.tup (b.map λn:Nat=>.int n)]) (.tup [.tup (c.map λn:Nat=>.int n),.tup (d.map λn:Nat=>.int n)])=(decide (a=c)&&decide (b=d)):=by show (lZ (a.map _) (c.map _)&&(lZ (b.map _) (d.map _)&&θ))=_;rw[K8,K8,pK]
section
variable{Q:List D->aY->Prop}{s:aY}
theorem R_{g:CG}{t:CT}{e:CE}{same:aY->Prop}{l0:Loc}(I:Loc->Prop)(p:D->Bool)(f:D->D)(u:same s): ∀(ds:List D)(l0:Loc),I l0->(∀d∈ds,∀l,I l->∃o,(∀G,wp (g d l) G s=G o s)/\I o/\(∀T,wp (t o) T s=T (p d) s)/\∀Q,wp (e o) Q s=Q (f d) s) ->∀Q,wp (collect g t e same ds l0) Q s=Q ((ds.filter p).map f) s
 |[],l0,_,_,Q=>by unfold collect;rw[dR];rw[show wp (chkS same) (λa s'=>wp (ret []) Q s') s=Q [] s from by rw[rF];unfold chkS;rw[aH u];exact b4];rfl
 |d::ds,l0,h0,h,Q=>by
  let⟨o,L,J,H,E⟩:=h d (by simp) l0 h0;let z:=R_ (l0:=l0) I p f u ds o J λx O=>h x (by simp[O]);unfold collect;rw[dR,show ∀R:Unit->aY->Prop,wp (chkS same) R s=R Unit.unit s from λR=>by rw[rF];unfold chkS;rw[aH u],dR,L,dR,H];cases C:p d with
  |true=>
   rw[aH rfl,dR,E,dR,z,b4,gz,aH C];rfl
  |false=>rw[aB (by simp),z,gz,aB (by rw[C];simp)]
end
open PySem.Spec PyProof.Rows L2
section
variable{prog:Program}{w:bJ}{K:Type}[DecidableEq K](T:NU prog w K)
variable{T}
variable{A:bx}{E:ae->aj->Prop}{s:aj}{a:ak}{fy:Bool}{M mv:Nat}{oc:Nat->Bool}{key:Nat->K}{es:Array (Int×ae)}
end
section
variable{prog:Program}{w:bJ}{K:Type}[DecidableEq K]
variable{T:NU prog w K}
variable{A:bx}{E:ae->aj->Prop}{s:aj}{a:ak}{fy:Bool}{M mv:Nat}{oc:Nat->Bool}{key:Nat->K}{es:Array (Int×ae)}
end
section
def Ah:yS:=Mf E6 "enumerate" (λc p=>c.tag p 16) qg λh g m a s=>by let⟨_,_,_,rfl⟩:=IU h;rw[V7];exact Ov ω g m a s
end
end MM
namespace MM
def uH:D->D->M D
 | .tup ds,.int k=>chk (1<=k/\k<=1000/\⇑ds<=1000/\ds≠[]) (ret (.tup (aE k.toNat ds).flatten))|_,_=>bad
open PySem PySem.Spec PyProof.Rows L2
section
theorem bs{Q:ae×List ae->aj->Prop}(h:Q (.builtin "list.__getattribute__",[.ref l]) s):aF (aW prog w) A (ur (.builtin "list.__getattribute__") (.ref l)) Q E s:=by
 unfold ur;let g:zw (.builtin "list.__getattribute__")=pure (.type "wrapper_descriptor"):=by rfl
 rw[g];refine aa (ai ?_);exact ai h
theorem ZJ{A:bx}{s:aj}{n:Nat}{Q:Option ae->aj->Prop}(hh:A.handled=ψ)(o:s.heap.get? l=ξ { cls:=.type "list",data:=.seq its n,slots:=g })(h:∀h' tk,(∀b u,s.heap.get? b=ξ u->h'.get? b=ξ u)->Q ψ { s with heap:=h',toks:=tk }):aF (aW prog w) A (Bg (.ref l) (al "keys")) Q E s:=by
 let J:s.TypeIs (.ref l) "list":=⟨_,o,rfl⟩
 let n1:cv (.type "list") (al "__getattribute__")=pure (ξ (fO "list.__getattribute__")):=by rfl
 let n2:cv (.type "list") (al "__getattr__")=pure none:=by rfl
 let G:cv (.type "list") (al "keys")=pure none:=by rfl
 unfold Bg
 wp_walk using eY J
 refine bs ?_;refine iB F.slot_list_getattribute ⟨_,o,rfl⟩ am_entry_list_getattribute (F.args_list_getattribute_2 _ _) (meets_getattribute_miss_list l its n g (al "keys") _ G rfl) ⟨o,?_⟩;refine⟨hh,λh' tk e C=>?_⟩;let⟨U,O,H⟩:=C.there;let L:Bi { s with heap:=h',toks:=tk } (.ref e) "AttributeError":=⟨_,H,rfl⟩
 let I:isSubtype (.type "AttributeError") (.type "AttributeError")=pure true:=by rw[vS];kernel_rfl
 show aF (aW prog w) A (DM (.ref l) (.str (al "keys") s.toks) (.type "list") (.ref e) ψ ω ω) _ _ { s with heap:=h',toks:=tk };unfold DM;refine aa (eV L I ?_);rw[aH rfl];unfold hookBehind;rw[aB (by decide),n2];refine aa (ai ?_);unfold hookOrError attributeErrorLeaves
 wp_walk
 exact h h' tk λb u z=>C.keeps b u z
theorem Jp:plainId "dict.update.loop"=true:=by nofun
variable{prog:Program}{w:bJ}
theorem YX{s:aj}{Q:List ae->aj->Prop}(z:s.heap.IsTuple a #[g,v])(h:Q [g,v] s):aF (aW prog w) A (rA (.ref a)) Q E s:=by
 let⟨⟨H,G,u,o⟩,e,l,n,hd⟩:=z;simp only at l hd;subst l hd;unfold rA;let C:s.TypeIs (.ref a) "tuple":=⟨_,e,rfl⟩
 wp_walk using eY C
 exact h
end
theorem SF:fillsNumberSlot (.type "tuple") "mul"=pure false:=PySem.fillsNumberSlot_seq nM.lookup (by decide) BU.lookup (by decide)
theorem H_:seqRepeat? (.type "tuple")=pure (ξ (.builtin "tuple.__mul__")):=by unfold seqRepeat?;let h:seqSlot? (.type "tuple") (al "__mul__")=pure (ξ (.builtin "tuple.__mul__")):=zE nM.lookup (by decide);let g:seqSlot? (.type "tuple") (al "__rmul__")=pure (ξ (.builtin "tuple.__rmul__")):=zE BU.lookup (by decide);rw[h,g];rfl
theorem FC(a:Int)(t:Tok)(l:ak)(its:Array ae)(n:Nat)(C:Option ak)(o:Array (Option ae)):Meets (Builtin.«int.__rmul__» { pos:=[.int a t,.ref l] }) λ_ R s=>s.heap.get? l=ξ { cls:=.type "tuple",dict:=C,data:=.seq its n,slots:=o }/\R (.ok (.ret .notImplemented)) s:=by
 intro prog w A R s g;let⟨u,h⟩:=g;unfold Builtin.«int.__rmul__»;let z:s.TypeIs (.ref l) "tuple":=⟨_,u,rfl⟩
 wp_walk using eY z
 exact h
theorem K_(l:ak)(its:Array ae)(n:Nat)(O:Option ak)(E:Array (Option ae))(k:Int)(t:Tok)(h2:2<=k)(L:k<=1000)(C:its.isEmpty=ω)(hz:its.size<=1000)(Y:(m6 (λz u=>z++u) #[] (aE k.toNat its)).size<=sizeLine):Meets (Builtin.«tuple.__mul__» { pos:=[.ref l,.int k t] }) λ_ R s=>s.heap.get? l=ξ { cls:=.type "tuple",dict:=O,data:=.seq its n,slots:=E }/\R (.ok (.ret (.ref ↥s))) { s with heap:=s.heap.push { cls:=.type "tuple",data:=.seq (m6 (λz u=>z++u) #[] (aE k.toNat its)) } }:=by
 intro prog w A R s g;let⟨J,h⟩:=g;unfold Builtin.«tuple.__mul__»;let o:s.TypeIs (.ref l) "tuple":=⟨_,J,rfl⟩
 let Q:(its.size:Int)*k<=1000*1000:=Int.mul_le_mul () L () ();let I:(decide (k < -2^63)||decide (k ≥ 2^63))=false:=by rw[oA];exact⟨aQ (),aQ ()⟩
 let H:(its.isEmpty||k == 1)=false:=by rw[C,uk];exact beq_eq_false_iff_ne.mpr ()
 let G:(decide (k<=0)||its.isEmpty)=false:=by rw[C,pE];exact aQ ()
 let U:pM (its.size*k)=false:=by
  unfold pM;have:(1000000:Int)<=(sizeLine:Int):=by decide
  exact aQ ()
 wp_walk using eY o
 rw[aB (by rw[I];exact bc)]
 wp_walk using eY o
 rw[aB (by rw[H];exact bc)]
 wp_walk using eY o
 rw[aB (by rw[G];exact bc)]
 wp_walk using eY o
 rw[aB ()]
 wp_walk using eY o
 exact h
theorem Lu(l:ak)(its:Array ae)(n:Nat)(C:Option ak)(o:Array (Option ae))(t:Tok):Meets (Builtin.«tuple.__mul__» { pos:=[.ref l,.int 1 t] }) λ_ R s=>s.heap.get? l=ξ { cls:=.type "tuple",dict:=C,data:=.seq its n,slots:=o }/\R (.ok (.ret (.ref l))) s:=by
 intro prog w A R s g;let⟨u,h⟩:=g;unfold Builtin.«tuple.__mul__»;let z:s.TypeIs (.ref l) "tuple":=⟨_,u,rfl⟩
 wp_walk using eY z
 exact h
section
theorem QkR:OpR X (eJ .Mult) (pO X.K uH):=by
 intro ah s σ H x y v u Q I rx ry l;let⟨ρ,st,d,e,sr,r1,r2,p⟩:=l;cases r1 with
 |@tup a vs ds hq rq=>
  cases r2 with
  |int k=>
   let⟨⟨h1,hk,hz,O⟩,L⟩:=ba.chk p;cases rx;let⟨t,rfl⟩:=ry;let⟨its,J,pl,_⟩:=I.tuple hq;let⟨⟨cls,G,data,E⟩,C,hc,n,hd⟩:=pl;simp only at hc hd;subst hc hd;by_cases hk1:k=1
   ·subst hk1;let z:s.TypeIs (.ref a) "tuple":=⟨_,C,rfl⟩
    refine mV (T:="tuple") (U:="int") (by decide) z (λs'=>mH s' 1 t) SF t8 iW H_ sU.lookup
     (iB iW (mH s 1 t) sV (rZ _ _) (FC 1 t a its.toArray n G E)
      ⟨C,rfl,z,iB nM z BV (Bj _ _) (Lu a its.toArray n G E t) ⟨C,?_⟩⟩)
    rw[show (aE (1:Int).toNat ds).flatten=ds from by simp]at L;exact⟨.ref a,_,I,rfl,L _ _ Ex.refl sr _ (.tup hq rq)⟩
   let h2:2<=k:=by ext
   let hl:⇑its=⇑ds:=by rw[<- ⇑J,⇑rq]
   let g:m6 (λx1 x2=>x1++x2) #[] (aE k.toNat its.toArray)=(aE k.toNat its).flatten.toArray:=by have:=Mx its k.toNat [];rw[sB]at this;exact this
   let h:⇑(aE k.toNat its).flatten<=sizeLine:=by have e1:⇑(aE k.toNat its).flatten=k.toNat*⇑its:=RM its k.toNat;have e2:k.toNat*⇑its<=1000*1000:=DN () ();rw[e1];exact bH e2 (by decide)
   let z:s.TypeIs (.ref a) "tuple":=⟨_,C,rfl⟩
   refine mV (T:="tuple") (U:="int") (by decide) z (λs'=>mH s' k t) SF t8 iW H_ sU.lookup
    (iB iW (mH s k t) sV (rZ _ _) (FC k t a its.toArray n G E)
     ⟨C,rfl,z,iB nM z BV (Bj _ _) (K_ a its.toArray n G E k t h2 hk ?_ (by rw[aG];ext) (by rw[g];exact h)) ⟨C,?_⟩⟩)
   ·cases its with|nil=>exact bw (u7.mp (hl.symm.trans rfl)) O|cons=>rfl
   ·rw[g];let Y:=I.hok.fresh (aA ↥s);refine⟨.ref ↥s,_,I.laid (t':=s.toks) (o:=.tup (aE k.toNat vs).flatten) (λb o e=>av _ e) (aA _) ⟨?_,(aE k.toNat its).flatten,L2.bX.rep J k.toNat,ka.new _ _⟩,rfl,?_⟩
    ·let e1:⇑(aE k.toNat vs).flatten=⇑(aE k.toNat its).flatten:=⇑(L2.bX.rep J k.toNat);rw[e1];exact h
    ·exact L _ _ (Ex.new Y) (sr.new Y) _ (.tup (kZ.of ik) ((bQ.rep rq k.toNat).mono (Ex.new Y)))
  |_=>exact (show False from p).elim
 |_=>exact (show False from p).elim
end
section
def Ga:lP:=λq c e=>MK e λa o b p h=>wh (o=.Mult/\c.tag p 14=θ) λz=>(q.e c a).bind λu=>(q.e c b).bind λl=>ξ ⟨c2 uH u.1 l.1,λg=>h ▸ z.1 ▸ Pm QkR (u.2 g) (l.2 g)⟩
end
end MM
namespace MM
def qT{α:Type}(m:M α):M α:=λs=>match m s with| .ok a s'=>.ok a s'|_=>.bad
def xE(c:CS):CS:=λl=>qT (c l)
def pP(c:CT):CT:=λl=>qT (c l)
def qC(c:CA):CA:=λl=>qT (c l)
def Jh(c:CI):CI:=λl=>qT (c l)
def zG(c:CG):CG:=λd l=>qT (c d l)
noncomputable def xV(d:D):M su:=λs=>.exc d s
def tT(x f:ut)(e:CE):CS:=λl=>bnd (qT (e l)) λd=>xV (.exn x [.str f,d])
open PySem PyProof.Rows
section
variable{M:A4}{A:bx}{s:aj}
structure CQ(fs:List ak)(e:ak)(c:ae)(d:Option ak)(sl:Array (Option ae))(vs:Array ae)(L T:ak)(h h':bC):Prop where
 keep:∀b o,b≠e->b∉fs->h.get? b=ξ o->h'.get? b=ξ o
 slot:∀b o,b≠e->h.get? b=ξ o->∃sl,h'.get? b=ξ { o with slots:=sl }
 new:h.get? T=ψ
 ne:T≠e
 ex:h'.get? e=ξ ⟨c,d,.fields (vs.setIfInBounds 1 (.ref T)),sl⟩
 tr:∃ts,h'.get? T=ξ ⟨.type "traceback",ψ,.fields ts,#[]⟩/\ts[3]?=ξ (gM L)
theorem OR{Q:Unit->aj->Prop}(hfr:A.frames=ξ (env::outer)) (hl:s.heap.FunFrames base (env::outer)) (hf:env.frame=ξ L) (he:s.heap.get? e=ξ ⟨c,d,.fields vs,sl⟩) (hsz:1 < vs.size)(h:∀h' T,CQ ((env::outer).filterMap (·.frame)) e c d sl vs L T s.heap h'->Q Unit.unit { s with heap:=h' }):aF M A (do let a <- frameOf env;let U <- entryPlaceOf L g;let b <- t_ u a .none (gM L) .none U;setField (.ref e) 1 b) Q E s:=by
 let H:e∉(env::outer).filterMap (·.frame):=λhm=>by let⟨_,o,ho,hnf⟩:=hl.mem hm;rw[he]at ho;cases ho;exact hnf vs rfl
 refine aa (wpAny_frameOf_fun hfr hl hf λC l=>?_);refine aa (wpAny_entryPlaceOf λU hpl=>?_);unfold t_ newFields;refine aa (dk ?_ (hpl.sizeOk5 _ _ _ _ _));let J:=(l.2.1 e H).trans he;generalize hts:([u,aC L,bL,gM L,bL]++(if U.isEmpty then aE 6 bL else U)).toArray=Y;let h3:Y[3]?=ξ (gM L):=by rw[<- hts];simp
 let I:=av (h:=C) { cls:=.type "traceback",dict:=ψ,data:=.fields Y } J;refine iC I rfl hsz (h _ C.objs.size ?_);let O:C.objs.size≠e:=fN (aP J);let sz:∀{b:ak}{o:Obj},C.get? b=ξ o->C.objs.size≠b:=λq=>fN (aP q);refine⟨λb o G hbf hb=>?_,λb o G hb=>?_,?_,O,?_,Y,?_,h3⟩
 ·rw[dA _ _ (du G)];exact av _ ((l.2.1 b hbf).trans hb)
 ·let⟨g,e1⟩:=l.2.2 b o hb;refine⟨g,?_⟩;rw[dA _ _ (du G)];exact av _ e1
 ·cases z:s.heap.get? C.objs.size with|none=>rfl|some o=>
   let⟨_,e1⟩:=l.2.2 _ o z;exact bw rfl (sz e1)
 ·exact bS (fV (·.setIfInBounds 1 (aC C.objs.size))) I rfl
 ·rw[dA _ _ (du O)];exact aM C rfl
def Ks(h:bC)(e:ak)(vs:Array ae):Prop:=vs[1]?=ξ .none\/∃T g c d l,vs[1]?=ξ (.ref T)/\T≠e/\h.get? T=ξ ⟨c,d,.fields g,l⟩/\g[3]?=ξ .none
structure qV(fs:List ak)(e:ak)(c:ae)(d:Option ak)(sl:Array (Option ae))(vs:Array ae)(f:ae)(h h':bC):Prop where
 keep:∀b o,b≠e->vs[1]?≠ξ (.ref b)->b∉fs->h.get? b=ξ o->h'.get? b=ξ o
 slot:∀b o,b≠e->vs[1]?≠ξ (.ref b)->h.get? b=ξ o->∃sl,h'.get? b=ξ { o with slots:=sl }
 there:∀b o,h.get? b=ξ o->∃o',h'.get? b=ξ o'
 ex:∃vs' T ts c' d' sl',h'.get? e=ξ ⟨c,d,.fields vs',sl⟩/\vs'[1]?=ξ (.ref T)/\T≠e/\h.get? T=ψ/\h'.get? T=ξ ⟨c',d',.fields ts,sl'⟩/\ts[3]?=ξ f/\vs'[2]?=vs[2]?
theorem CQ.gone(g:CQ fs e c d u vs L T h h')(hsz:1 < vs.size):qV fs e c d u vs (gM L) h h':=by
 let⟨C,H,G⟩:=g.tr;refine⟨λb o l _ J q=>g.keep b o l J q,λb o l _ q=>g.slot b o l q,λb o q=>?_,_,T,C,_,_,_,g.ex,?_,g.ne,g.new,H,G,by simp⟩
 ·by_cases z:b=e
  ·subst z;exact⟨_,g.ex⟩
  ·let⟨_,I⟩:=g.slot b o z q;exact⟨_,I⟩
 ·simp[hsz]
theorem Sb{Q:Unit->aj->Prop}(I:A.frames=ξ (env::outer)) (hl:s.heap.FunFrames base (env::outer)) (hf:env.frame=ξ L) (O:s.heap.get? e=ξ ⟨c,d,.fields vs,sl⟩) (hv:Ks s.heap e vs)(h:∀h',qV ((env::outer).filterMap (·.frame)) e c d sl vs (gM L) s.heap h'->Q Unit.unit { s with heap:=h' }):aF M A (Iv (.ref e) env) Q E s:=by
 unfold Iv;simp only[hf];rcases hv with H|⟨T,ts,cT,dT,slT,H,hTe,U,h3⟩
 ·let hsz:=(ii.mp H).1;refine aa (cP O rfl H ?_);rw[aB (by decide)];exact OR I hl hf O hsz λh' T g=>h h' (g.gone hsz)
 ·let hsz:=(ii.mp H).1;refine aa (cP O rfl H ?_);rw[aH (by simp)];refine aa (cP U rfl h3 ?_);rw[aB (by simp[gM])];refine aa (iC U rfl (ii.mp h3).1 ?_);let l:∀b,b≠T->(s.heap.update T (fV (·.setIfInBounds 3 bL))).get? b=s.heap.get? b:=λb G=>dA _ _ (du G);let J:=bS (fV (·.setIfInBounds 3 bL)) U rfl;refine OR (s:={ s with heap:=s.heap.update T (fV (·.setIfInBounds 3 bL)) }) I (hl.of_keeps λb o G Q=>⟨o,?_,rfl⟩) hf ((l e (du hTe)).trans O) hsz λh' Y g=>h h' ?_
  ·rw[l b λz=>?_]
   ·exact G
   ·subst z;rw[U]at G;cases G;exact Q ts rfl
  ·let I:∀b,vs[1]?≠ξ (.ref b)->b≠T:=λb G z=>G (by rw[z];exact H);let⟨E,Q,O⟩:=g.tr;let U:s.heap.get? Y=none:=by
    by_cases z:Y=T
    ·have:=g.new;rw[z,J]at this;cases this
    ·have:=g.new;rw[l Y z]at this;exact this
   refine⟨λb o u C h q=>g.keep b o u h ((l b (I b C)).trans q),λb o u C q=>g.slot b o u ((l b (I b C)).trans q),λb o q=>?_,_,Y,E,_,_,_,g.ex,by simp[hsz],g.ne,U,Q,O,by simp⟩;by_cases z:b=e
   ·subst z;exact⟨_,g.ex⟩
   ·by_cases y:b=T
    ·subst y;let⟨_,L⟩:=g.slot _ _ z J;exact⟨_,L⟩
    ·let⟨_,L⟩:=g.slot b o z ((l b y).trans q);exact⟨_,L⟩
theorem QkU{Q:Unit->aj->Prop}(u:s.heap.get? e=ξ ⟨c,d,.fields vs,o⟩)(G:vs[1]?=ξ (.ref T))(z:s.heap.get? T=ξ ⟨H,dT,.fields l,g⟩)(C:3 < l.size)(h:Q Unit.unit { s with heap:=s.heap.update T (fV (·.setIfInBounds 3 .none)) }):aF M A (Iz (.ref e) ψ) Q E s:=by
 unfold Iz;refine aa (cP u rfl G ?_);rw[aH (by simp)];exact iC z rfl C h
theorem qV.calm{Q:Unit->aj->Prop}(g:qV fs e c d u vs f h s.heap)(q:∀h',qV fs e c d u vs .none h h'->Q Unit.unit { s with heap:=h' }):aF M A (Iz (.ref e) ψ) Q E s:=by
 let⟨vs',T,ts,c',d',sl',e1,e2,Y,U,O,e6,e7⟩:=g.ex;let C:=(ii.mp e6).1;let l:∀b,b≠T->(s.heap.update T (fV (·.setIfInBounds 3 bL))).get? b=s.heap.get? b:=λb hb=>dA _ _ (du hb);let H:∀b o,h.get? b=ξ o->b≠T:=λb o z y=>by rw[y,U]at z;cases z
 let I:=bS (fV (·.setIfInBounds 3 bL)) O rfl;refine QkU e1 e2 O C (q _ ⟨λb o L J C z=>(l b (H b o z)).trans (g.keep b o L J C z),λb o L J z=>?_,λb o z=>?_,vs',T,_,_,_,_,(l e (du Y)).trans e1,e2,Y,U,I,by simp[C],e7⟩)
 ·let⟨u,G⟩:=g.slot b o L J z;exact⟨u,(l b (H b o z)).trans G⟩
 ·let⟨o',G⟩:=g.there b o z;exact⟨o',(l b (H b o z)).trans G⟩
theorem Z5{Q:Unit->aj->Prop}(l:A.frames=ξ (env::outer)) (z:s.heap.FunFrames base (env::outer)) (C:env.frame=ξ L) (G:s.heap.get? e=ξ ⟨c,d,.fields vs,o⟩) (u:Ks s.heap e vs)(h:∀h',qV ((env::outer).filterMap (·.frame)) e c d o vs .none s.heap h'->Q Unit.unit { s with heap:=h' }):aF M A (leaving env (.ref e)) Q E s:=by
 unfold leaving;exact aa (Sb l z C G u λh' g=>qV.calm (s:={ s with heap:=h' }) g λH I=>h H I)
end
open PySem.W L2
noncomputable def Fl(z:bC)(G H:Hp)(h:bC)(a:ak):Prop:=z.get? a=ψ/\(∀o u,G a≠ξ (.frz o u))/\∃c d vs C,H a=ξ (.frz ⟨c,d,.fields vs,C⟩ (.own a)) /\
 (vs[1]?=ξ .none\/∃T l E d' g,vs[1]?=ξ (.ref T)/\T≠a/\z.get? T=ψ/\H T=ψ/\h.get? T=ξ ⟨E,d',.fields l,g⟩/\l[3]?=ξ .none)
def xz(P:Program)(w:bJ):vv:=λouter H s E e s'=>∃a g,e=.ref a/\s'.os=s.os/\mZ s'.gens/\Un (vZ outer) [] H g s.heap s'.heap/\nZ P w g s'.heap/\Fl s.heap H g s'.heap a/\E (.ref a) ψ g
def iR(a:ak)(H h:Hp):Prop:=∃c d vs vs' g,H a=ξ (.frz ⟨c,d,.fields vs,g⟩ (.own a))/\vs'[2]?=vs[2]?/\h=eE H a (.frz ⟨c,d,.fields vs',g⟩ (.own a))
section
theorem S7{fs:List ak}(G:nZ P w H h)(I:∀b∈fs,H b=ψ)(J:H a=ξ (.frz ⟨c,d,.fields vs,E⟩ (.own a)))(Q:∀T,vs[1]?=ξ (.ref T)->H T=ψ)(g:qV fs a c d E vs f h h')(L:h'.get? a=ξ ⟨c,d,.fields vs',E⟩):nZ P w (eE H a (.frz ⟨c,d,.fields vs',E⟩ (.own a))) h':=by
 intro b o e;by_cases z:b=a
 ·subst z;rw[ik]at e;cases e;exact⟨L,_,L⟩
 ·rw[e8 z]at e;let kp:∀C u o',H C=ξ o'->C≠a->h.get? C=ξ u->h'.get? C=ξ u:=λC u o' l Y U=>g.keep C u Y (λy=>by rw[Q C y]at l;cases l) (λy=>by rw[I C y]at l;cases l) U;refine (G b o e).stay (λC u O l=>?_) (λC l=>?_) (λC xs l=>?_)
  ·rcases O with y|y
   ·subst y;exact kp _ u o e z l
   ·exact kp C u _ y (λq=>by rw[q,J]at y;cases y) l
  ·rw[e8 λq=>by rw[q,J]at l;cases l];exact l
  ·rw[e8 λq=>by rw[q,J]at l;cases l];exact l
theorem Fl.fly(f:Fl O U H h a):∃c d vs u,H a=ξ (.frz ⟨c,d,.fields vs,u⟩ (.own a))/\Ks h a vs/\(∀T,vs[1]?=ξ (.ref T)->H T=ψ/\O.get? T=ψ):=by
 let⟨_,_,c,d,vs,u,e,z⟩:=f;refine⟨c,d,vs,u,e,?_,λT l=>?_⟩
 ·rcases z with z|⟨T,L,Q,d',g,o,J,I,G,E,C⟩
  ·exact .inl z
  ·exact .inr ⟨T,L,Q,d',g,o,J,E,C⟩
 ·rcases z with z|⟨Y,L,Q,d',g,o,J,I,G,E,C⟩
  ·rw[z]at l;cases l
  ·rw[o]at l;cases l;exact⟨G,I⟩
end
section
variable{P:Program}{w:bJ}{K:Frag}{mg:Str->Option ae}{base:bC}{N:List Str}{qual:Str}{scope:dU}{f:ak}{cd:ae}{A:bx}{outer:List Env}{s:aj}{H:Hp}{E:XK}
variable{ah:List (ak×Obj)}{σ:L2.St}{H':Hp}{s':aj}{a:ak}
theorem X2(I:Inv (oD (xz P w) P w K mg base N qual scope f cd A outer s H E) ah σ H' s')(fl:Fl s.heap H H' s'.heap a)(hE:∀H2,iR a H' H2->E (.ref a) ψ H2):(oD (xz P w) P w K mg base N qual scope f cd A outer s H E).xe (.ref a) s':=by
 let⟨c,d,vs,G,L,hv,hT⟩:=fl.fly;let⟨ga,_⟩:=(show dQ P w H' s'.heap a (.frz ⟨c,d,.fields vs,G⟩ (.own a)) from I.hok a _ L)
 let hfr:=I.ok.frames;let Y:=I.stack;let hsf:=I.stkFree
 show aF (aW P w) (A.deeper (kB qual scope ↥s f cd)) (leaving (kB qual scope ↥s f cd) (.ref a)) _ _ s';refine Z5 hfr Y rfl ga hv λh2 g=>?_;let⟨vs',T,ts,c',d',Q,e1,e2,e3,e4,e5,e6,e7⟩:=g.ex;let th:∀b o,s.heap.get? b=ξ o->∃o',s'.heap.get? b=ξ o':=λb o q=>I.base.there b o q (by intro z;cases z);let U:∀b o,s.heap.get? b=ξ o->b∉vZ outer->b∉(kB qual scope ↥s f cd::outer).filterMap (·.frame):=λb o q C z=>by
  rw[kT]at z;rcases a_.mp (show b∈↥s::vZ outer from z) with z|z
  ·exact bw (aP q) (by rw[z];exact cY _)
  ·exact C z
 let l:∀b o,s.heap.get? b=ξ o->b≠a:=λb o q z=>by rw[z,fl.1]at q;cases q
 let neT:∀b o,s.heap.get? b=ξ o->vs[1]?≠ξ (.ref b):=λb o q z=>by rw[(hT b z).2]at q;cases q
 let J:∀b,b≠a->eE H' a (.frz ⟨c,d,.fields vs',G⟩ (.own a)) b=H' b:=λb z=>e8 z;refine⟨a,eE H' a (.frz ⟨c,d,.fields vs',G⟩ (.own a)),rfl,I.os,I.bare,⟨λb o q n C _=>?_,λb o q n C _=>?_,λb o q n _=>?_,λb o q _=>?_,λb xs q=>?_,λb o u q=>?_,λb ps q=>?_⟩,S7 I.hok hsf L (λT z=>(hT T z).1) g e1,⟨fl.1,fl.2.1,c,d,vs',G,ik,.inr ⟨T,ts,c',d',Q,e2,e3,?_,?_,e5,e6⟩⟩,hE _ ⟨c,d,vs,vs',G,L,e7,rfl⟩⟩
 ·exact g.keep b o (l b o q) (neT b o q) (U b o q C) (I.base.keep b o q n C (by intro z;cases z))
 ·let⟨u,h⟩:=I.base.slot b o q n C (by intro z;cases z);let⟨O,E⟩:=g.slot b _ (l b o q) (neT b o q) h;exact⟨O,E⟩
 ·rw[J b (l b o q)];exact I.base.free b o q n (by intro z;cases z)
 ·let⟨o',h⟩:=th b o q;exact g.there b o' h
 ·have:=I.base.tups b xs q;rw[J b λz=>by rw[z,L]at this;cases this];exact this
 ·have:=I.base.frzs b o u q;rw[J b λz=>by rw[z]at q;exact fl.2.1 o u q];exact this
 ·let⟨more,h⟩:=I.base.tbls b ps q;exact⟨more,by rw[J b λz=>by rw[z,L]at h;cases h];exact h⟩
 ·cases z:s.heap.get? T with|none=>rfl|some o=>let⟨o',q⟩:=th T o z;rw[e4]at q;cases q
 ·rw[J T e3];cases z:H' T with|none=>rfl|some o=>let⟨ob,q⟩:=IM (I.hok T o z);rw[e4]at q;cases q
end
section
variable{K:Frag}{ρ ρ1:List ak}{H H1 H2:Hp}{st:aY}{a:ak}
abbrev XW:=D->aY->List ak->Hp->Prop
def cc{α:Type}(K:Frag)(ρ:List ak)(H:Hp)(r:Rs α)(R:α->aY->List ak->Hp->Prop)(W:XW):Prop:=match r with| .ok a st=>∀ρ' H',Ex ρ H ρ' H'->SR K ρ' H' st->R a st ρ' H'| .exc d st=>∀ρ' H',Ex ρ H ρ' H'->SR K ρ' H' st->W d st ρ' H'| .bad=>False
variable{α β:Type}{W:XW}
theorem cc.left{r:Rs α}{R:α->aY->List ak->Hp->Prop}(x:Ex ρ H ρ1 H1)(h:cc K ρ H r R W):cc K ρ1 H1 r R W:=by
 cases r with|ok a st=>exact λρ' g y s=>h ρ' g (x.trans y) s|exc _ _=>exact λρ' g y s=>h ρ' g (x.trans y) s|bad=>exact h
theorem cc.imp{r:Rs α}{R l:α->aY->List ak->Hp->Prop}(h:cc K ρ H r R W)(f:∀a st ρ' g,Ex ρ H ρ' g->SR K ρ' g st->R a st ρ' g->l a st ρ' g):cc K ρ H r l W:=by
 cases r with|ok a st=>exact λρ' g y s=>f a st ρ' g y s (h ρ' g y s)|exc _ _=>exact h|bad=>exact h
theorem cc.bnd{m:M α}{f:α->M β}{R:β->aY->List ak->Hp->Prop}(h:cc K ρ H (bnd m f st) R W):cc K ρ H (m st) (λa g ρ' l=>cc K ρ' l (f a g) R W) W:=by
 unfold MM.bnd at h;cases e:m st with
 |ok a s'=>
  rw[e]at h;exact λρ' l y s=>cc.left y h
 |exc _ _=>rw[e]at h;exact h|bad=>rw[e]at h;exact h
theorem cc.ret{x:α}{R:α->aY->List ak->Hp->Prop}(h:cc K ρ H (MM.ret x st) R W)(s:SR K ρ H st):R x st ρ H:=h ρ H Ex.refl s
theorem cc.no{m:M α}{R:α->aY->List ak->Hp->Prop}(h:cc K ρ H (qT m st) R W):ba K ρ H (m st) R:=by
 unfold qT at h;cases e:m st with|ok a s'=>rw[e]at h;exact h|exc _ _=>rw[e]at h;exact h|bad=>rw[e]at h;exact h
theorem iR.ne(t:iR a H H2)(h:H b=ξ o)(g:∀q,o≠.frz q (.own a)):H2 b=ξ o:=by
 let⟨c,d,vs,vs',l,e,u,rfl⟩:=t;by_cases z:b=a
 ·subst z;rw[h]at e;cases e;exact bw rfl (g _)
 ·rw[e8 z];exact h
theorem iR.knd(t:iR a H H2)(h:H b=ξ o):∃o',H2 b=ξ o'/\kO o'=kO o:=by
 let⟨c,d,vs,vs',g,e,l,rfl⟩:=t;by_cases z:b=a
 ·subst z;rw[h]at e;cases e;exact⟨_,ik,rfl⟩
 ·exact⟨o,by rw[e8 z];exact h,rfl⟩
theorem iR.rmap(t:iR a H H2):Ab K ρ H ρ H2 where
 sq h:=by
  rcases h with (h|⟨o,h⟩)|h
  ·exact .inl (.inl (t.ne h λ_ z=>(by cases z)))
  ·exact .inl (.inr ⟨o,t.ne h λ_ z=>(by cases z)⟩)
  ·exact .inr h
 fz h:=by
  rcases h with ⟨o,h⟩|h
  ·exact .inl ⟨o,t.ne h λ_ z=>(by cases z)⟩
  ·exact .inr h
 kd h _:=t.knd h
 rt:=id
 ow {b _}:=λl=>by
  let⟨o,u,C⟩:=l;let⟨c,d,vs,vs',I,e,G,rfl⟩:=t;by_cases z:b=a
  ·subst z;rw[u]at e;cases e;exact⟨_,ik,C⟩
  ·exact⟨o,by rw[e8 z];exact u,C⟩
 ex {b _ _ _}:=λg=>by
  let⟨o,u,C⟩:=g;let⟨c,d,vs,vs',I,e,G,rfl⟩:=t;by_cases z:b=a
  ·subst z;rw[u]at e;cases e;let⟨O,E,Q,L,J⟩:=C;cases L;exact⟨_,ik,O,E,_,rfl,J.imp id λz=>by rw[G];exact z⟩
  ·exact⟨o,by rw[e8 z];exact u,C⟩
 xd h:=t.ne h λ_ z=>(by cases z)
theorem da.turn(t:iR a H H2)(r:da K ρ H v d):da K ρ H2 v d:=r.map t.rmap
theorem bQ.turn(t:iR a H H2)(r:bQ K ρ H vs ds):bQ K ρ H2 vs ds:=r.map t.rmap
theorem sG.turn(t:iR a H H2)(h:sG H c q):sG H2 c q:=by obtain ⟨g,vs,x,e,r⟩:=h;exact ⟨g,vs,x,t.ne e (λ_ z=>by injection z with _ z;cases z),r⟩
theorem SR.turn(t:iR a H H2)(s:SR K ρ H st):SR K ρ H2 st:=⟨s.len,s.nd,λn b o l g=>by
 let q:=s.ob n b o l g;cases o with
 |lst ds=>let⟨vs,h,r⟩:=q;exact⟨vs,t.ne h λ_ z=>(by cases z),r.turn t⟩|dcf cx=>let⟨es,h,r⟩:=q;exact⟨es,t.ne h λ_ z=>(by cases z),iS.mapS r λ_ _ z=>⟨z.1,z.2.1.turn t,z.2.2.turn t⟩⟩|ded=>
  let⟨o,h⟩:=q;let⟨c,d,vs,vs',E,e,G,rfl⟩:=t;by_cases z:b=a
  ·subst z;exact⟨_,ik⟩
  ·exact⟨o,by rw[e8 z];exact h⟩
 |clo c vs=>
  let⟨o,L,q,cd,Y,l,g,C,U,Q,O⟩:=q;refine⟨o,L,q,cd,Y,?_,g,C,U.turn t,Q,iS.mapS O λ_ _ z=>let ⟨o,u,v,l,g,C,r⟩:=z;⟨o,u,v,t.ne l (λ_ z=>by injection z with _ z;cases z),g,C,r.turn t⟩⟩;let⟨c,d,vs,vs',E,e,G,rfl⟩:=t;by_cases z:b=a
  ·subst z;rw[l]at e;cases e;cases g
  ·rw[e8 z];exact l
 |lam e=>
  let⟨ps,b',sc,p,q,c,J,ct,l,g,C⟩:=q;refine⟨ps,b',sc,p,q,c,J,ct,l,?_,C.turn t⟩;let⟨c,d,vs,vs',E,e,G,rfl⟩:=t;by_cases z:b=a
  ·subst z;rw[g]at e;cases e
  ·rw[e8 z];exact g
 |tbl y=>
  let⟨I,ps,l,g,C⟩:=q;exact⟨I,ps,t.ne l λ_ z=>(by cases z),g,λp v z=>let ⟨c,a,b⟩:=C p v z;⟨c,a,b.turn t⟩⟩
 |dct k cx=>
  cases k with
  |false=>let⟨es,h,r⟩:=q;exact⟨es,t.ne h λ_ z=>(by cases z),iS.mapS r λ_ _ z=>⟨z.1,z.2.turn t⟩⟩
  |true=>let⟨es,h,r⟩:=q;exact⟨es,t.ne h λ_ z=>(by cases z),iS.mapS r λ_ _ z=>⟨z.1,z.2.1.turn t,z.2.2.turn t⟩⟩⟩
theorem Ex.turn(t:iR a H1 H2)(x:Ex ρ H ρ1 H1)(n:∀o u,H a≠ξ (.frz o u)):Ex ρ H ρ1 H2:=by
 let key:∀b o,H b=ξ o->H1 b=ξ o->H2 b=ξ o:=λb o h g=>by
  let⟨c,d,vs,vs',L,e,O,rfl⟩:=t;by_cases z:b=a
  ·subst z;rw[g]at e;cases e;exact bw h (n _ _)
  ·rw[e8 z];exact g
 refine⟨x.pre,λb o k e=>key b o e (x.fix b o k e),λb o C e=>key b o e (x.oth b o C e),λb o e=>?_⟩;let⟨o',J,G⟩:=x.knd b o e;let⟨l,I,E⟩:=t.knd J;exact⟨l,I,E.trans G⟩
end
def D_(X:Cx):XW:=λd _ ρ' h=>∀g σ s' a,Inv X g σ h s'->da X.K ρ' h (.ref a) d->Fl X.s₀.heap X.H₀ h s'.heap a->X.xe (.ref a) s'
def Lv(X:Cx)(f:CE):TE:=λσ H Q=>∃ρ l st,LR X.K ρ H σ l/\SR X.K ρ H st/\cc X.K ρ H (f l st) (λd _ ρ' g=>∀v,da X.K ρ' g v d->Q v g) (D_ X)
def Ru(X:Cx)(c:CS):TS:=λG σ H=>∃ρ l st,LR X.K ρ H σ l/\SR X.K ρ H st/\cc X.K ρ H (c l st) (λf _ ρ' g=>match f with
 | .next l'=>∀σ',LR X.K ρ' g σ' l'->G.nx σ' g| .ret d=>∀v,da X.K ρ' g v d->G.rt v g| .brk l'=>∀σ',LR X.K ρ' g σ' l'->G.bk σ' g
 | .cnt l'=>∀σ',LR X.K ρ' g σ' l'->G.ct σ' g) (D_ X)
abbrev Hb(X:Cx)(e:Expr)(f:CE):Prop:=PE X e (Lv X f)
abbrev SX(X:Cx)(s:Stmt)(c:CS):Prop:=PS X s (Ru X c)
abbrev zP(X:Cx)(s:List Stmt)(c:CS):Prop:=PSs X s (Ru X c)
def AB(K:Frag)(n:Nat)(g:List D->M D):Sp:=λvs H Q E=>⇑vs=n/\∃ρ st ds,SR K ρ H st/\bQ K ρ H vs ds/\cc K ρ H (g ds st) (λr _ ρ' h=>∀v,da K ρ' h v r->Q v h) (λd _ ρ' h=>∀a,da K ρ' h (.ref a) d->E (.ref a) ψ h)
section
variable{X:Cx}{a b c e tg:Expr}{pos:Pos}{ta tb:CT}{K:Frag}{st:aY}
theorem UX(h:SS X s cs):SX X s (xE cs):=h.of λG σ H g=>by let⟨ρ,l,st,u,o,p⟩:=g;exact⟨ρ,l,st,u,o,p.no⟩
theorem QkZ:zP X [] aZ:=Lw.of λG σ H g=>by let⟨ρ,l,st,o,h,p⟩:=g;exact cc.ret p h σ o
theorem Yy(J:SX X s cs)(I:zP X ss cr):zP X (s::ss) (aN cs cr):=(Nn J I).of λG σ H g=>by let⟨ρ,l,st,E,C,p⟩:=g;exact⟨ρ,l,st,E,C,(cc.bnd p).imp λf u ρ1 O L h o=>by
 cases f with
 |next l'=>exact λσ' z=>⟨ρ1,l',u,z,h,o⟩|ret d=>exact cc.ret o h|brk l'=>exact cc.ret o h
 |cnt l'=>exact cc.ret o h⟩
theorem Qk1(I:ST X c ta)(L:zP X ss cs)(J:zP X o cr):SX X (.If c ss o pos) (lY (pP ta) cs cr):=(QZ I L J).of λG σ H g=>
 by let⟨ρ,l,st,u,o,p⟩:=g;exact⟨ρ,l,st,u,o,(cc.no (cc.bnd p)).imp λk h ρ1 O z C E=>by
  cases k with
  |true=>exact⟨ρ1,l,h,u.mono z,C,E⟩
  |false=>exact⟨ρ1,l,h,u.mono z,C,E⟩⟩
def ZQ(X:Cx):XK:=λv _ h=>∀g σ s' a,v=.ref a->Inv X g σ h s'->Fl X.s₀.heap X.H₀ h s'.heap a->X.xe (.ref a) s'
theorem V2(hex:X.ex=[]):rC (xz X.prog X.w) X (ZQ X):=λg σ H s e s' I h=>by
 let⟨a,H',rfl,os,l,un,E,fl,q⟩:=h;let I2:Inv X g σ H' s':=I.call' os un E l (ch:=[]) (λb z=>bw z (by simp));let up:∀b,s.heap.get? b=ψ->X.s₀.heap.get? b=none:=λb z=>by
  cases y:X.s₀.heap.get? b with|none=>rfl|some o=>
   let⟨o',q⟩:=I.base.there b o y (by rw[hex];simp);rw[z]at q;cases q
 let⟨f1,f2,c,d,vs,Y,f3,G⟩:=fl;refine q g σ s' a rfl I2 ⟨up a f1,λo u z=>f2 o u (I.base.frzs a o u z),c,d,vs,Y,f3,?_⟩;rcases G with G|⟨T,U,c',d',C,Q,O,L,J⟩
 ·exact .inl G
 ·exact .inr ⟨T,U,c',d',C,Q,O,up T L,J⟩
theorem WY{k n:Nat}(hex:X.ex=[])(F:iz X.prog X.w X.K X.mg X.base (xz X.prog X.w) k f J ps (AB X.K n g))(Y:gJ k X.A)(hg:Gl X x)(hm:X.mg x=ξ (.ref f))(hk:keepIn X.K (.ref f)=θ) (hb:Binds X.K J ps []) (ha:SA X (e::es) ca) (hn:∀l st ds z,ca l st=.ok ds z->⇑ds=n) (E:(x == ("__debug__":Str))=false:=by decide)
  (he:az (e::es) X.env=(ω,eval e X.env)::az es X.env:=by rfl) (C:(dF pos (az es X.env)).any (·.1)=false:=by rfl):Hb X (.Call (.Name x p) (e::es) [] pos) (bj g (qC ca)):=
 (M6 F Y hg hm hk hb .nil (V2 hex) ha E he C).of λσ H Q h=>by let⟨ρ,l,st,U,O,p⟩:=h;exact⟨ρ,l,st,U,O,by
  let q:=cc.no (cc.bnd p);cases u:ca l st with|bad=>rw[u]at q;exact q|exc _ _=>rw[u]at q;exact q|ok ds df=>
   rw[u]at q;intro ρ1 H1 x1 s1 vs rvs;refine⟨by rw[bG,⇑rvs];exact hn l st ds df u,ρ1,df,ds,s1,by rw[bG];exact rvs,?_⟩;let o:cc X.K ρ1 H1 (g ds df) (λd _ ρ' L=>∀v,da X.K ρ' L v d->Q v L) (D_ X):=q ρ1 H1 x1 s1;cases G:g ds df with|bad=>rw[G]at o;exact o|ok r st2=>rw[G]at o;exact o|exc d st2=>
    rw[G]at o;intro ρ2 H2 x2 s2 a rep ah σ s' a' ea I fl;cases ea;exact o ρ2 H2 x2 s2 ah σ s' a I rep fl⟩
theorem Wo(h:Hb X e fa)(J:fX e ψ pos.line X.env=pure false:=by rfl):SX X (.Expr e pos) (fZ fa):=(Pq h J).of λG σ H g=>
 by let⟨ρ,l,st,o,C,p⟩:=g;exact⟨ρ,l,st,o,C,(cc.bnd p).imp λd z ρ1 O u E I v L=>cc.ret I E σ (o.mono u)⟩
theorem Z3(h:Hb X e fa):SX X (.Return (ξ e) pos) (dj fa):=(Qs h).of λG σ H g=>by let⟨ρ,l,st,I,u,p⟩:=g;exact⟨ρ,l,st,I,u,(cc.bnd p).imp λd o ρ1 L J z E v C=>cc.ret E z v C⟩
end
section
variable{X:Cx}{pos:Pos}{ta tb:CT}{K:Frag}{st:aY}
theorem cc.chkS(h:cc K ρ H (MM.chkS p st) R W)(s:SR K ρ H st):p st/\R Unit.unit st ρ H:=by
 unfold MM.chkS at h;by_cases g:p st
 ·rw[aH g]at h;exact⟨g,h ρ H Ex.refl s⟩
 ·rw[aB g]at h;exact h.elim
theorem Qk6{i : Nat}(hN : X.N.Nodup)(Q : X.N[i]? = ξ x)(L : L2.Loc X.env.scope x)(Y : Hb X e fa)(O : fX e (ξ (.Name x g)) pos.line X.env = pure ω := by rfl)
  (U:X.fn x=θ\/X.env.scope.names.lookup x=ξ .local:=by first|exact .inl rfl|exact .inr rfl|assumption):SX X (.Assign [.Name x g] e pos) (bM (aT i) fa):=
 (Qm hN Q L Y O U).of λG σ H h=>by let⟨ρ,l,st,u,E,p⟩:=h;exact⟨ρ,l,st,u,E,(cc.bnd p).imp λd C ρ1 H1 z o J v I=>
  cc.ret (cc.ret (cc.bnd J) o) o _ ((u.mono z).set i I)⟩
theorem Z6{cb:CS}(hp:og (aW X.prog X.w) X.A X.env X.xe)(hc:X.calm=θ)(hi:SI X tg iter ci)(hg:SG X tg g)(hb:zP X u cb)(hs:∀x,eI iter X.env x=pure x:=by intro _;rfl):SX X (.For tg iter u [] pos) (hU (Jh ci) (zG g) cb):=(Pw hp hc hi hg hb hs).of λG σ H z=>
 by let⟨ρ,l,st,lr,sr,p⟩:=z;exact⟨ρ,l,st,lr,sr,(cc.no (cc.bnd p)).imp λw df ρ1 H1 x1 s1 p1 J hJ=>by
  refine⟨λi m σ' h=>m=⇑w.ds-i/\i<=⇑w.ds/\∃ρ' l' st',Ex ρ1 H1 ρ' h/\LR X.K ρ' h σ' l'/\SR X.K ρ' h st'/\cc X.K ρ' h (kM (zG g) cb w.same (w.ds.drop i) l' st') (λf _ ρ' h=>match f with
   | .next l'=>∀σ',LR X.K ρ' h σ' l'->G.nx σ' h| .ret d=>∀v,da X.K ρ' h v d->G.rt v h| .brk l'=>∀σ',LR X.K ρ' h σ' l'->G.bk σ' h
   | .cnt l'=>∀σ',LR X.K ρ' h σ' l'->G.ct σ' h) (D_ X),⟨⇑w.ds,by simp,bn _,ρ1,l,df,Ex.refl,lr.mono x1,s1,p1⟩,?_⟩
  rintro i m σ2 H2 ⟨rfl,hi,ρ2,l2,st2,x2,lr2,s2,p2⟩
  by_cases C:i < ⇑w.ds
  ·let ed:w.ds.drop i=w.ds[i]::w.ds.drop (i+1):=cz C;rw[ed]at p2;unfold kM at p2;let⟨sm,p3⟩:=cc.chkS (cc.bnd p2) s2;let⟨_,go⟩:=hJ ρ2 H2 st2 x2 s2 sm;let⟨g1,g2⟩:=go i w.ds[i] (ag C);refine .inr ⟨g1,λσ3 E=>∃ρ3 l3 st3,Ex ρ1 H1 ρ3 E/\LR X.K ρ3 E σ3 l3/\SR X.K ρ3 E st3/\cc X.K ρ3 E (kM (zG g) cb w.same (w.ds.drop (i+1)) l3 st3) (λf _ ρ' h=>match f with
    | .next l'=>∀σ',LR X.K ρ' h σ' l'->G.nx σ' h| .ret d=>∀v,da X.K ρ' h v d->G.rt v h| .brk l'=>∀σ',LR X.K ρ' h σ' l'->G.bk σ' h
    | .cnt l'=>∀σ',LR X.K ρ' h σ' l'->G.ct σ' h) (D_ X),λσ3 E q=>⟨_,by ext,rfl,C,q⟩,λy E hy=>?_⟩
   let⟨U,s3,l⟩:=g2 y E hy;refine⟨ρ2,l2,st2,_,lr2.mono U,s3,l,(cc.no (cc.left U (cc.bnd p3))).imp λl4 Y ρ4 H4 H J p4 σ4 u=>⟨ρ4,l4,Y,u,J,(cc.bnd p4).imp λf L ρ5 H5 z O Q=>?_⟩⟩;let I:Ex ρ1 H1 ρ5 H5:=(x2.trans U).trans (H.trans z);cases f with|next l5=>exact λσ5 o=>⟨ρ5,l5,L,I,o,O,Q⟩|cnt l5=>exact λσ5 o=>⟨ρ5,l5,L,I,o,O,Q⟩|brk l5=>exact λσ5 o=>cc.ret Q O σ5 o|ret d=>exact λv l=>cc.ret Q O v l
  ·let e:i=⇑w.ds:=by ext
   subst e;rw[mM]at p2;unfold kM at p2;let⟨sm,p3⟩:=cc.chkS (cc.bnd p2) s2;let⟨g1,_⟩:=hJ ρ2 H2 st2 x2 s2 sm;exact .inl ⟨g1,cc.ret p3 s2 σ2 lr2⟩⟩
end
section
variable{A:bx}{bm:List ae}
theorem T8(J:bm.contains (.type "BaseException")=θ)(hh:A.handled=ψ)(h:aF (aW prog w) A x (λv l=>∃e d vs u z,v=.ref e/\p_ l.heap C N bm z/\l.heap.get? e=ξ ⟨.ref C,d,.fields vs,u⟩/\vs[1]?=ξ .none/\E (.ref e) l) E s):aF (aW prog w) A (IA env (ξ x) ψ) Q E s:=by
 let o:(aC C::bm).contains (.type "BaseException")=true:=by rw[dq,J,Ez]
 unfold IA;refine aa (dN h (λv l O=>?_) λ_ _ x=>x);let⟨e,d,vs,u,z,rfl,⟨⟨nm,q1,bs,Y,sub,ab,U,dd,k0,k1,k2,k3,k5,G⟩,_⟩,I,H,L⟩:=O;let⟨hp,g,dr,tk,os⟩:=l
 repeat (first
  |with_reducible refine kE I ?_|with_reducible refine kE G ?_
  | (with_reducible refine lX G ?_
     rw[o])
  |wp_step)
 rw[H];refine ai ?_;rw[aB (by decide)];exact ai (wpAny_raiseNew_none hh L)
end
theorem Sy:(aC P::gE).contains (.type "BaseException")=true:=by simp[gE]
section
variable{X:Cx}
theorem Qla(hex:X.ex=[])(hcm:X.calm=θ)(F:XF X.K x f C N P NP)(hi:nsIn X.K N (al "__init__")=ξ (ξ (.ref fI)))(Y:∃oI,X.K.lookup fI=ξ oI/\oI.cls=.type "function")(G:iz X.prog X.w X.K X.mg X.base qF 1 fI fd ps (D4 C f)) (hr:gJ 2 X.A) (hb:Binds X.K fd ps []) (hg:Gl X x) (hm:X.mg x=ξ (.ref C)) (hdb:(x == ("__debug__":Str))=ω) (ha:SE X e fa)(he:az [e] X.env=[(ω,eval e X.env)]:=by rfl):SX X (.Raise (ξ (.Call (.Name x p) [e] [] b3)) ψ pos) (tT x f fa):=by
 intro g s σ H D I h;let⟨ρ,l,st,lr,sr,q⟩:=h;rw[arm_exec_Raise];refine aa (nE ?_)
 show aF _ _ (IA X.env (ξ (do let v <- eval (.Call (.Name x p) [e] [] b3) X.env;ve pos;pure v)) ψ) _ _ _;let mk:=Qh3 (X:=X) (p:=p) (pos:=b3) F hi Y G hr hb hg hm (qy ha ua he) hdb he;let q1:=cc.no (cc.bnd q);refine T8 (C:=C) (N:=N) (bm:=.ref P::gE) Sy (I.ok.hd hcm) (aa (gH (mk g s σ H (λv J=>∃a d vs L,v=.ref a/\J a=ξ (.frz ⟨.ref C,d,.fields vs,L⟩ (.own a))/\vs[1]?=ξ .none/\X.s₀.heap.get? a=ψ/\(∀o u,X.H₀ a≠ξ (.frz o u))/\∀g σ s',Inv X g σ J s'->Fl X.s₀.heap X.H₀ J s'.heap a->X.xe (.ref a) s') I ?_) λv O z=>?_))
 ·refine⟨ρ,l,st,lr,sr,q1.imp λd df ρ1 h Y O p1 v rv=>⟨v,rfl,λa Q ob L h0 h2 h3 J h5 G=>?_⟩⟩;let k:=Zn (f:=f) (v:=v) (ob:=ob) (o:=.ext (qQ a C)) L h2;let E:kF (eE h a (.ext (qQ a C))) a Q f v ob a=ξ (.frz ob (.own a)):=by unfold kF;rw[ik]
  let gd:kF (eE h a (.ext (qQ a C))) a Q f v ob Q=ξ (.xd [(f,v)]):=by unfold kF;rw[e8 h3,ik]
  let W:=p1 ρ1 _ (Ex.more k) (O.more k);let nH:H a=none:=by
   cases z:H a with|none=>rfl|some o=>exact bw L (Y.trk a o z)
  let rep:da X.K ρ1 (kF (eE h a (.ext (qQ a C))) a Q f v ob) (.ref a) (.exn x [.str f,d]):=.exn F.gl ⟨ob,E,J,h5,G.imp λ_ z=>⟨z.1,.inr z.2.2⟩⟩ gd (rv.mono (Ex.more k));let⟨vs,e1,e2,_⟩:=G;let⟨c0,d0,dd0,U⟩:=ob;cases J;cases e1;let nz:∀o u,X.H₀ a≠ξ (.frz o u):=λo u z=>by have:=I.base.frzs a o u z;rw[nH]at this;cases this
  exact⟨a,d0,vs,U,rfl,E,e2,h0 hex,nz,λg σ s' I' fl=>W g σ s' a I' rep fl⟩
 ·let⟨y,J,h,o,a,d,vs,L,rfl,E,l,h0,hz,G⟩:=z;obtain rfl:v=aC a:=o;let⟨u,I,ch,_⟩:=F.ch h.kIn;let⟨H,_⟩:=(show dQ X.prog X.w J O.heap a (.frz ⟨.ref C,d,.fields vs,L⟩ (.own a)) from h.hok a _ E)
  exact aa (nE (ai ⟨a,d,vs,L,u,rfl,ch.c,H,l,G g σ O h ⟨h0,hz,_,_,_,_,E,.inl l⟩⟩))
end
section
variable{C N D N':ak}
theorem OX{s:aj}{Q:Bool->aj->Prop}(I:p_ s.heap C N bm mN)(xd:p_ s.heap D N' fx gk)(hb:fx.contains (.type "BaseException")=θ)(he:s.heap.get? e=ξ l)(hc:l.cls=.ref C)(h:Q ((aC C::bm).contains (.ref D)) s):aF (aW prog w) A (DO (.ref e) (.ref D)) Q E s:=by
 let o:(aC D::fx).contains (.type "BaseException")=true:=by rw[dq,hb,Ez]
 let⟨⟨nm,q1,bs,sn,sub,ab,col,dd,k0,k1,k2,k3,k5,z⟩,_⟩:=xd;let⟨⟨U,O,bs',J,u,ab',H,dd',k0',k1',k2',k3',k5',G⟩,_⟩:=I;let⟨hp,g,dr,tk,os⟩:=s;let⟨c0,d0,dt0,L⟩:=l;cases hc;let f:=tc_notTuple;generalize hk:(aC C::bm).contains (.ref D)=Y at h;unfold DO
 repeat (first
  |with_reducible refine kE he ?_|with_reducible refine kE z ?_|with_reducible refine kE G ?_
  | (with_reducible refine lX z ?_
     rw[o])
  | (with_reducible refine lX G ?_
     rw[hk])
  |wp_step)
 cases Y<;>(wp_walk;exact h)
end
theorem X3(un:Un fs [] H1 H E h')(Y:E.get? a=ψ)(U:∀o u,H1 a≠ξ (.frz o u))(hH:H a=ξ (.frz ⟨c,d,.fields vs,I⟩ (.own a)))(hT:∀T,vs[1]?=ξ (.ref T)->E.get? T=ψ) (g:qV G a c d I vs f h' h3) (Q:∀b o,E.get? b=ξ o->b∉fs->b∉G):Un fs [] H1 (eE H a (.frz ⟨c,d,.fields vs',I⟩ (.own a))) E h3:=by
 let l:∀b o,E.get? b=ξ o->b≠a:=λb o q z=>by rw[z,Y]at q;cases q
 let neT:∀b o,E.get? b=ξ o->vs[1]?≠ξ (.ref b):=λb o q z=>by rw[hT b z]at q;cases q
 let J:∀b,b≠a->eE H a (.frz ⟨c,d,.fields vs',I⟩ (.own a)) b=H b:=λb z=>e8 z;refine⟨λb o q n L C=>?_,λb o q n L C=>?_,λb o q n C=>?_,λb o q C=>?_,λb xs q=>?_,λb o u q=>?_,λb ps q=>?_⟩
 ·exact g.keep b o (l b o q) (neT b o q) (Q b o q L) (un.keep b o q n L C)
 ·let⟨u,h⟩:=un.slot b o q n L C;let⟨O,z⟩:=g.slot b _ (l b o q) (neT b o q) h;exact⟨O,z⟩
 ·rw[J b (l b o q)];exact un.free b o q n C
 ·let⟨o',h⟩:=un.there b o q C;exact g.there b o' h
 ·have:=un.tups b xs q;rw[J b λz=>by rw[z,hH]at this;cases this];exact this
 ·have:=un.frzs b o u q;rw[J b λz=>by rw[z]at q;exact U o u q];exact this
 ·let⟨more,h⟩:=un.tbls b ps q;exact⟨more,by rw[J b λz=>by rw[z,hH]at h;cases h];exact h⟩
noncomputable def tW(X:Cx)(a:ak):Cx:={ X with A:=X.A.mark (ξ (.ref a)),calm:=ω,xe:=λ_ _=>False }
section
variable{X:Cx}
theorem TB(ok:X.Ok):(tW X a).Ok:=⟨ok.mod,ok.kind,ok.glob,ok.blt,ok.above,ok.inj,ok.has,ok.cab,λz=>(by cases z),ok.frames,ok.stk,ok.exf,ok.bs,ok.bsz,ok.noex,ok.exfs,ok.funs,ok.frf⟩
theorem RZ(I:Inv X ah σ H s):Inv (tW X a) ah σ H s:=⟨TB I.ok,I.os,I.bare,I.base,I.loc,I.cell,I.free,I.freeC,I.pin,I.hok,I.len⟩
theorem OK(ok:X.Ok)(I:Inv (tW X a) ah σ H s):Inv X ah σ H s:=⟨ok,I.os,I.bare,I.base,I.loc,I.cell,I.free,I.freeC,I.pin,I.hok,I.len⟩
theorem Qlg{M:A4}{i:Nat}{Q:Unit->aj->Prop}(I:Inv X ah σ H s)(hN:X.N.Nodup)(hi:X.N[i]?=ξ n)(U:X.env.scope.names.lookup n=ξ .local)(hv:σ[i]?=ξ (ξ v))(h:∀s',Inv X ah (σ.set i ψ) H s'->Q Unit.unit s'):aF M A (unbindName X.env n) Q E s:=by
 let⟨m,hn,G⟩:=id I.loc;let L:(X.env.scope.kind == .class||(X.env.scope.kind == .module&&X.env.locals != X.env.globals))=false:=by rw[I.ok.kind];rfl
 let hk:X.env.kindOf n=ξ .local:=U;let⟨u,ru,lu⟩:=G i n v hi hv (.inl U);let hm:m n=ξ u:=by
  rcases lu with ⟨_,z⟩|⟨z,_⟩
  ·exact z
  ·rw[hk]at z;rcases z with z|z<;>cases z
 refine wpAny_unbindName_local hk hn hm L λh' u' hn' C=>h _ ?_;let ne0:∀b o,X.s₀.heap.get? b=ξ o->b≠X.env.locals:=λb o q z=>by have:=aP q;rw[z]at this;exact bw (br this I.ok.above) (cY _)
 let g:∀b o,X.s₀.heap.get? b=ξ o->h'.get? b=s.heap.get? b:=λb o q=>C.2 b (ne0 b o q);refine⟨I.ok,I.os,I.bare,⟨λb o q n hb l=>(g b o q).trans (I.base.keep b o q n hb l),λb o q n hb l=>?_,I.base.free,λb o q l=>?_,I.base.tups,I.base.frzs,I.base.tbls⟩,⟨_,hn',λj y v' h1 Y h3=>?_⟩,λy c e=>?_,I.free,I.freeC,λp hp=>?_,λb o e=>?_,?_⟩
 ·let⟨h,z⟩:=I.base.slot b o q n hb l;exact⟨h,(g b o q).trans z⟩
 ·let⟨o',z⟩:=I.base.there b o q l;exact⟨o',(g b o q).trans z⟩
 ·let J : j ≠ i := λz => by subst z;let U:j < ⇑σ:=(ac.mp hv).1;rw[ax U]at Y;cases Y
  rw[aw (du J)]at Y;let⟨w,h,u⟩:=G j y v' h1 Y h3;refine⟨w,h,?_⟩;rcases u with ⟨g,O⟩|⟨g,c,O,l⟩
  ·refine .inl ⟨g,?_⟩;have:y≠n:=λz=>by subst z;exact J ((mh (ac.mp h1).1 hN).mp (h1.trans hi.symm))
   dsimp only;rw[aB this];exact O
  ·refine .inr ⟨g,c,O,?_⟩;let⟨o,e1,e2⟩:=l;exact⟨o,(C.2 c (I.cne y c O)).trans e1,e2⟩
 ·let⟨w,o,e1,e2⟩:=I.cell y c e;exact⟨w,o,(C.2 c (I.cne y c e)).trans e1,e2⟩
 ·let⟨o,l,g,h⟩:=I.pin p hp;exact⟨(C.2 p.1 g).trans o,l,g,h⟩
 ·refine (I.hok b o e).stay (λc h g q=>(C.2 c ?_).trans q) (λ_ q=>q) λ_ _ q=>q
  rintro rfl
  rcases g with z|z
  ·rw[<- z,I.free]at e;cases e
  ·rw[I.free]at z;cases z
 ·rw[cJ];exact I.len
end
theorem LR.unset{K:Frag}{i:Nat}(h:LR K ρ H σ l):LR K ρ H (σ.set i ψ) (l.set i ψ):=by
 refine⟨by rw[cJ,cJ];exact h.1,λk d e=>?_⟩;let o:k≠i:=λz=>by
  subst z;by_cases g:k < ⇑l
  ·rw[ax g]at e;cases e
  ·rw[bE (by rw[cJ];ext)]at e;cases e
 rw[aw (du o)]at e ⊢;exact h.2 k d e
theorem ba.no{α:Type}{K:Frag}{st:aY}{m:M α}{R:α->aY->List ak->Hp->Prop}(h:ba K ρ H (qT m st) R):ba K ρ H (m st) R:=by
 unfold qT at h;cases e:m st with|ok a s'=>rw[e]at h;exact h|exc _ _=>rw[e]at h;exact h|bad=>rw[e]at h;exact h
section
variable{X:Cx}{e:Expr}{es:List Expr}{ca:CA}{hc:CS}
variable{k n:Nat}{f:ak}{fd:b_}{ps:List Str}{g:List D->M D}{fn x y nm fl:Str}{p p2 p3 b3 cy eG pos:Pos}{i j:Nat}{C N P NP:ak}{b0:Stmt}{ez:List Stmt}
end
noncomputable def IS(h:bC)(D:ak):Prop:=∃o q bs bm N l sub I g H G E C z u,h.get? D=ξ (fv o q D N bs bm θ l sub I g H G E C z u "ValueError.__new__")
section
variable{s:aj}{C N P NP e:ak}
theorem Qlh{D:ak}{dep:Int}{R:uo->aj->Prop}(x:va s.heap C N P NP mN mP)(L:qB mN mP)(g:s.heap.get? e=ξ o)(u:o.cls=.ref C)(Q:IS s.heap D)(q:∀tk,R (.done (.ret (.bool ((aC C::aC P::gE).contains (.ref D))))) { s with toks:=tk }):aF (aW prog w) A (Builtin.«isinstance.nested» ⟨[.ref e,.ref D,.int dep l],[]⟩) R E s:=by
 let⟨O,q0,zR,bm0,N0,J,G,ab0,I,dd0,j0,j1,j2,j3,j5,H⟩:=Q;unfold Builtin.«isinstance.nested»;dsimp only;refine aa (vb g u ?_);by_cases h:(aC C == aC D)=θ
 ·rw[aH h];refine aa (eK (ai ?_));let Y:(aC C::aC P::gE).contains (.ref D)=true:=by
   rw[dq];have:(aC D == aC C)=true:=by rw[beq_iff_eq]at h ⊢;exact h.symm
   rw[this];rfl
  have:=q s.toks;rw[Y]at this;exact this
 ·rw[aB h];refine aa (iJ H ?_);rw[aH (show (fM "type" == fM "type")=θ by decide)];refine aa ?_
  show aF _ _ (zC (.ref D) >>= _) _ _ _;unfold zC;dsimp only;unfold Bf;refine aa (aa (iE H (ai ?_)));rw[aB (show ¬ ((!θ)=θ) by decide)];unfold kW;refine aa (aa (vb g u (C8 x.c ?_)));by_cases z:(aC C::aC P::gE).contains (.ref D)=θ
  ·rw[aH z];refine ai (ai ?_);have:=q s.toks;rw[z]at this;exact this
  ·rw[aB z];refine aa (S6 x L g u λtk=>?_);dsimp only;let⟨⟨G,E,bs,o,sub,C,l,h,Y,Q,O,J,I,U⟩,ns⟩:=id x.c;refine aa (aa (iE (s:={ s with toks:=tk }) U (ai ?_)));rw[aB (by simp)];refine aa (eK (C8 (s:={ s with toks:=tk }) x.c ?_));refine ai ?_;exact q tk
def yK(C P D:ak):Bool:=(aC C::aC P::gE).contains (.ref D)
theorem Sn{o:Obj}{G:aj->Prop}(I:o.cls=.ref C)(H:qB mN mP)(u:∀s,G s->va s.heap C N P NP mN mP/\s.heap.get? e=ξ o):∀{l:List ak},(∀s,G s->∀D∈l,IS s.heap D)->AnswersAll G (.ref e) (l.map aC) (l.map (yK C P))
 |[],_=>trivial|D::l,h=>⟨λdep tk prog w A R s g=>Qlh (u s g.1).1 H (u s g.1).2 I (h s g.1 D bK) g.2,Sn I H u λs z J m=>h s z J (bD _ m)⟩
theorem YS{l:List ak}{n:Nat}{Q:ae->aj->Prop}(x:va s.heap C N P NP mN mP)(U:qB mN mP)(g:s.heap.get? e=ξ o)(O:o.cls=.ref C)(Y:∀D∈l,IS s.heap D)(u:s.heap.get? H=ξ o') (h:o'.cls=.type "tuple") (I:o'.data=.seq (l.map aC).toArray n) (q:∀tk,Q (.bool (l.any (yK C P))) { s with toks:=tk }):aF (aW prog w) A (call (.builtin "isinstance") [.ref e,.ref H]) Q E s:=by
 refine DL ?_ (λz=>(by cases z));unfold Builtin.«isinstance.nested»;dsimp only[gM];refine aa (vb g O ?_);let J:¬ ((aC C == aC H)=θ):=λz=>by
  rw[beq_iff_eq]at z;injection z with z
  subst z;let⟨⟨nm,q1,bs,sn,sub,ab,col,dd,k0,k1,k2,k3,k5,gC⟩,ns⟩:=x.c;rw[gC]at u;cases u;exact bw (show fM "type"=fM "tuple" from h) (by decide)
 rw[aB J];refine aa (iJ u ?_);rw[h,aB (by decide)];refine aa ?_;unfold Builtin.Builtins.unionMembers;refine aa (iJ u ?_);rw[h,aB (by decide)];refine ai (aa (eV (T:="tuple") (b:=θ) ⟨o',u,h⟩ F.isi_sub_tuple ?_));rw[aH rfl];rw[aB (by decide)];unfold qJ;dsimp only;refine aa ?_;refine aa (rW u ?_);rw[I];refine ai (aa ?_);refine wpAny_arrayLoop ?_;simp only[il,List.toList_toArray];refine isinstance_items (dep:=0) (P:=λs'=>va s'.heap C N P NP mN mP/\s'.heap.get? e=ξ o/\∀D∈l,IS s'.heap D) (λs tk z=>z) (l.map aC) (l.map (yK C P)) _ _ (Sn O U (λs z=>⟨z.1,z.2.1⟩) λs z=>z.2.2) ⟨x,g,Y⟩ λG=>?_;let ea:(l.map (yK C P)).any id=l.any (yK C P):=by rw[m8];rfl
 rw[ea];cases L:l.any (yK C P) with|true=>have:=q G;rw[L]at this;exact ai this|false=>have:=q G;rw[L]at this;exact ai this
end
section
variable{X:Cx}{xs ys zs:List Str}
theorem Qlk(C P D:ak):yK C P D=(decide (D=C)||decide (D=P)):=by
 show (aC C::aC P::gE).contains (aC D)=_;rw[dq,dq];let z:gE.contains (aC D)=false:=rfl;rw[z,pE];let g:∀a b:ak,(aC a == aC b)=decide (a=b):=λa b=>by
  by_cases w:a=b
  ·subst w;rw[bV rfl];exact beq_self_eq_true _
  ·rw[aQ w];exact beq_eq_false_iff_ne.mpr (λz=>w (by injection z))
 rw[g,g]
theorem pd:∀{g:List ak}{its:List ae},bX (g.map V.ref) its->its=g.map aC
 |[],_,r=>by cases r;rfl
 |D::g,_,r=>by
  cases r with|cons r1 r2=>cases r1;rw[pd r2];rfl
theorem VW:CallR X (.builtin "isinstance") (λvs H Q=>∃(a:ak)(ob:Obj)(x f:Str)(C N P z g:ak)(o:List ak),vs=[.ref a,.ref g]/\XF X.K x f C N P z/\H a=ξ (.frz ob (.own a))/\ob.cls=.ref C/\H g=ξ (.tup (o.map V.ref))/\(∀D∈o,∃y,XO X.K y D)/\Q (.bl (o.any (yK C P))) H):=by
 intro u s σ H xs us Q I r h;let⟨a,ob,x,f,C,N,P,z,g,o,rfl,F,ea,J,L,Y,q⟩:=h;let⟨mN,mP,ch,G,no,hN,U⟩:=F.ch I.kIn;let⟨ga,_⟩:=(show dQ X.prog X.w H s.heap a (.frz ob (.own a)) from I.hok a _ ea)
 let⟨_,its,E,o',g1,g2,⟨n,g3⟩,_⟩:=(show dQ X.prog X.w H s.heap g (.tup (o.map V.ref)) from I.hok g _ L)
 cases r with|cons r1 r2=>
 cases r1;cases r2 with|cons r3 r4=>
 cases r4;cases r3;refine YS ch G ga J (λD hd=>?_) g1 g2 (by rw[g3,pd E]) λtk=>⟨.bl _,H,I.tok _,rfl,q⟩
 let⟨y,O⟩:=Y D hd;let⟨N,bm,q,bs,sn,sub,ab,col,dd,k0,k1,k2,k3,k5,l⟩:=O.ob;exact⟨_,_,_,_,_,_,_,_,_,_,_,_,_,_,_,I.kIn _ _ l⟩
noncomputable def BE(K:Frag)(mg:Str->Option ae)(ys:List Str):Prop:=∀y,ys.contains y=θ->∃D,XO K y D/\mg y=ξ (.ref D)
noncomputable def yQ(ok:Str->Bool):List Expr->Option (List Str)
 |[]=>ξ []| .Name y _::es=>if ok y=θ then (yQ ok es).bind λzs=>ξ (y::zs) else ψ|_=>ψ
theorem Sl{ok:Str->Bool}(o:BE X.K X.mg ys)(l:∀y,ok y=θ->ys.contains y=θ/\Gl X y/\nj y=θ): ∀{es:List Expr}{zs:List Str},yQ ok es=ξ zs->∃g:List ak,PA X es (λσ H Q=>Q (g.map V.ref) H)/\⇑zs=⇑g/\(∀D∈g,∃y,XO X.K y D) /\∀C P x,XO X.K x C->XO X.K "PactError" P->g.any (yK C P)=zs.any λy=>x == y||("PactError":Str) == y
 |[],zs,h=>by cases h;exact⟨[],ua,rfl,λD z=>(by cases z),λ_ _ _ _ _=>rfl⟩
 |e::es,zs,h=>by
  unfold yQ at h;split at h
  ·cases ‹_::_=[]›
  ·rename_i y p es' L;injection L with e1 e2
   subst e1 e2;simp only[Option.ite_none_right_eq_some,mq]at h;let⟨h1,G,Q,h⟩:=h;cases h;let⟨a,b,d⟩:=l y h1;let⟨D,O,m⟩:=o y a;let⟨g,I,J,U,H⟩:=Sl o l Q;refine⟨D::g,qy (RJ (v:=.ref D) b m rfl (uv d).d) I,by simp[J],λD' Y=>?_,λC P x u E=>?_⟩
   ·rcases a_.mp Y with z|z
    ·subst z;exact⟨y,O⟩
    ·exact U D' z
   ·rw[dw,dw,H C P x u E,Qlk,u.iff O,E.iff O]
  ·cases h
theorem Rx{H:Hp}{Q:VK}{E:List ak}(B:∀x∈xs,∃f C N P z,XF X.K x f C N P z)(I:l∈xs)(g:nsIn X.K bN l=ξ (ξ (.ref C')))(hh:∃o,H a=ξ (.frz o (.own a))/\o.cls=.ref C')(J:H G=ξ (.tup (E.map V.ref))) (U:∀D∈E,∃y,XO X.K y D) (q:∀P,XO X.K l C'->XO X.K "PactError" P->Q (.bl (E.any (yK C' P))) H):∃(b:ak)(ob:Obj)(x f:Str)(C N P z u:ak)(h:List ak),[V.ref a,V.ref G]=[.ref b,.ref u]/\XF X.K x f C N P z/\H b=ξ (.frz ob (.own b))/\ob.cls=.ref C/\H u=ξ (.tup (h.map V.ref))/\(∀D∈h,∃y,XO X.K y D)/\Q (.bl (h.any (yK C P))) H:=by
 let⟨f,C,N,P,z,F⟩:=B l I;let⟨o,L,O⟩:=hh;let Y:C'=C:=by have:=g.symm.trans F.gl;injection this with t;injection t with t;injection t
 subst Y;exact⟨a,o,l,f,C',N,P,z,G,E,rfl,F,L,O,J,U,q P F.xo F.xp⟩
theorem Y8{ok:Str->Bool}{k:Nat}(B:∀x∈xs,∃f C N P NP,XF X.K x f C N P NP)(hy:BE X.K X.mg ys)(Y:∀y,ok y=θ->ys.contains y=θ/\Gl X y/\nj y=θ)(hz:yQ ok es=ξ zs)(hsz:⇑zs<=10)(hg:Gl X "isinstance")(hm:X.mg "isinstance"=ψ)(hv:b5 "isinstance"=ξ (.builtin "isinstance"))(ha:SE X e fa)(he:az [e,.Tuple es k p1] X.env=(ω,eval e X.env)::az [.Tuple es k p1] X.env) (he2:az [.Tuple es k p1] X.env=(ω,eval (.Tuple es k p1) X.env)::az [] X.env:=by rfl) (U:(dF pos (az [.Tuple es k p1] X.env)).any (·.1)=false:=by rfl):
  SE X (.Call (.Name "isinstance" p) [e,.Tuple es k p1] [] pos) (c1 (rL xs λx=>zs.any λy=>x == y||("PactError":Str) == y) fa):=by
 let⟨Ds,pa,hl,hO,hA⟩:=Sl hy Y hz;refine (C0 VW hg hm hv (qy ha (qy (S8 pa) ua he2) he) (by decide) (by decide) he U).of λσ H Q h_=>h_.el λρ l st lr sr q=>⟨ρ,l,st,lr,sr,q.bnd.imp λd G ρ1 h x1 s1 J v rv=>?_⟩
 refine⟨by rw[af,<- hl];exact bH hsz (show 10<=2^24 by ext),λE O=>?_⟩;let x2:Ex ρ1 h ρ1 (eE h E (.tup (Ds.map V.ref))):=Ex.new O;let s2:SR X.K ρ1 (eE h E (.tup (Ds.map V.ref))) G:=s1.new O;let k1:∀b o,h b=ξ o->eE h E (.tup (Ds.map V.ref)) b=ξ o:=λb o z=>by rw[e8 (nV z O)];exact z
 cases rv with
 |@exn a C' dx x' f' v' d' g hh u r=>
  let⟨L,I⟩:=J.chk;let⟨o,ho,hc,_⟩:=hh;refine Rx B L g ⟨o,k1 _ _ ho,hc⟩ ik hO λP h1 u=>?_;rw[hA _ _ _ h1 u];exact (ba.left x2 I).ret s2 _ (.bl _)
 |@exn0 a C' x' g hh=>
  let⟨L,I⟩:=J.chk;let⟨o,ho,hc⟩:=hh;refine Rx B L g ⟨o,k1 _ _ ho,hc⟩ ik hO λP h1 u=>?_;rw[hA _ _ _ h1 u];exact (ba.left x2 I).ret s2 _ (.bl _)
 |_=>exact J.elim
end
end MM
namespace MM
def iN(c:CS)(ys:List ut)(i:Nat)(g:CS):CS:=λl s=>match c l s with
 | .ok f s'=>.ok f s'
 | .exc d s'=>(match d with
  | .exn x ds => if x ∈ ys then bnd (qT (g (l.set i (ξ (.exn x ds))))) (λf => match f with
    | .next l'=>ret (.next (l'.set i ψ))| .ret d=>ret (.ret d)
    |_=>bad) s' else .bad
  |_=>.bad)
 | .bad=>.bad
open PySem PySem.W PyProof.Rows L2
theorem Yz:(gE:List ae).contains (.type "BaseException")=true:=by nofun
def pZ(ys:List Str)(i:Nat)(g:CS)(l:Loc)(d:D):M su:=λs'=>match d with
 | .exn x ds => if x ∈ ys then bnd (qT (g (l.set i (ξ (.exn x ds))))) (λf => match f with
   | .next l'=>ret (.next (l'.set i ψ))| .ret d=>ret (.ret d)
   |_=>bad) s' else .bad
 |_=>.bad
section
variable{X:Cx}{e:Expr}{es:List Expr}{ca:CA}{hc:CS}
variable{k n:Nat}{f:ak}{fd:b_}{ps:List Str}{g:List D->M D}{fn x z nm:Str}{ys:List Str}{p p2 p3 b3 cy eG pos:Pos}{i j:Nat}{Z:ak}{b0:Stmt}{ez:List Stmt}
theorem Y5{cb:CS}{fs:L2.St->V->L2.St}{fl:Loc->D->Loc}(hcm:X.calm=θ)(hst:X.stack=X.env::X.outer)(hfr:X.env.frame=ξ X.env.locals)(F:iz X.prog X.w X.K X.mg X.base (xz X.prog X.w) k f fd ps (AB X.K n g))(hr:gJ k X.A)(hg:Gl X fn)(hm:X.mg fn=ξ (.ref f))(hk:keepIn X.K (.ref f)=θ) (hb:Binds X.K fd ps []) (ha:SA X.nox (e::es) ca) (hn:∀l st ds st',ca l st=.ok ds st'->⇑ds=n) (hdb:(fn == ("__debug__":Str))=ω)(he:az (e::es) X.env=(ω,eval e X.env)::az es X.env) (hpl:(dF b3 (az es X.env)).any (·.1)=ω)(hN:X.N.Nodup) (hcb:∀l st,cb l st=bnd (bj g (qC ca) l) (λd=>ret (.next (fl l d))) st) (hl':∀{ρ H σ l v d},LR X.K ρ H σ l->da X.K ρ H v d->LR X.K ρ H (fs σ v) (fl l d))(hB:∀{s:aj}{Q:Flow->aj->Prop}{E:ae->aj->Prop}{J σ H},Inv X J σ H s->aF (aW X.prog X.w) X.A (eval (.Call (.Name fn p2) (e::es) [] b3) X.env) (λu s1=>∃v σ1 H1,Inv X J σ1 H1 s1/\RelV v u/\∀O,Inv X J (fs σ1 v) H1 O->Q .next O) E s->aF (aW X.prog X.w) X.A (execs [b] X.env) Q E s)(G:∀y∈ys,∃fl C N P NP,XF X.K y fl C N P NP/\(Z=C\/Z=P)) (hgy:Gl X z) (hmy:X.mg z=ξ (.ref Z)) (hdy:(z == ("__debug__":Str))=ω) (hi:X.N[i]?=ξ nm) (hl:X.env.scope.names.lookup nm=ξ .local)(hsuite:∀a,wS (tW X a) (b0::ez) hc):SS X (.Try [b] [.ExceptHandler (ξ (.Name z p3)) (ξ nm) (b0::ez) eG] [] [] pos) (iN cb ys i hc):=by
 intro J s σ H D I pq202;let⟨ρ,l,st,lr,sr,q⟩:=pq202;refine wpAny_Try_except (hB I ?_);refine fG (FK I hg hm ?_ hdb);let arg : wP X.K (iN cb ys i hc) D σ H -> Fm X.K ca σ H λvs H1 => AB X.K n g vs H1 (λv U => D.nx (fs σ v) U) (λv _ U => ∀a, v = .ref a -> (∀o u, H1 a ≠ ξ (.frz o u)) -> ∀H3, iR a U H3 -> ∃ρ3 d st3, LR X.K ρ3 H3 σ l /\ SR X.K ρ3 H3 st3 /\ da X.K ρ3 H3 (.ref a) d /\ ba X.K ρ3 H3 (pZ ys i hc l d st3) λf _ ρ' L => match f with
   | .next l'=>∀σ',LR X.K ρ' L σ' l'->D.nx σ' L| .ret d=>∀v,da X.K ρ' L v d->D.rt v L| .brk l'=>∀σ',LR X.K ρ' L σ' l'->D.bk σ' L
   | .cnt l'=>∀σ',LR X.K ρ' L σ' l'->D.ct σ' L):=λ_=>by
  refine⟨ρ,l,st,lr,sr,?_⟩;cases ec:ca l st with
  |bad=>
   have:iN cb ys i hc l st=.bad:=by unfold iN;rw[hcb];unfold bj qC qT bnd;dsimp only;rw[ec]
   rw[this]at q;exact q
  |exc _ _=>
   have:iN cb ys i hc l st=.bad:=by unfold iN;rw[hcb];unfold bj qC qT bnd;dsimp only;rw[ec]
   rw[this]at q;exact q
  |ok ds df=>
   intro ρ1 H1 x1 s1 vs rvs;refine⟨by rw[⇑rvs];exact hn l st ds df ec,ρ1,df,ds,s1,rvs,?_⟩;cases eg:g ds df with
   |bad=>
    have:iN cb ys i hc l st=.bad:=by unfold iN;rw[hcb];unfold bj qC qT bnd;dsimp only;rw[ec];dsimp only;rw[eg]
    rw[this]at q;exact q
   |ok r st2=>
    have:iN cb ys i hc l st=.ok (.next (fl l r)) st2:=by unfold iN;rw[hcb];unfold bj qC qT bnd;dsimp only;rw[ec];dsimp only;rw[eg];rfl
    rw[this]at q;exact λρ2 U x2 O v rv=>q ρ2 U (x1.trans x2) O _ (hl' (lr.mono (x1.trans x2)) rv)
   |exc d st2=>
    have:iN cb ys i hc l st=pZ ys i hc l d st2:=by unfold iN;rw[hcb];unfold bj qC qT bnd pZ;dsimp only;rw[ec];dsimp only;rw[eg];cases d<;>rfl
    rw[this]at q;intro ρ2 U x2 O a rep a' ea na H3 t;cases ea;let x3:=Ex.turn t x2 na;exact⟨ρ2,d,st2,lr.mono (x1.trans x3),O.turn t,rep.turn t,ba.left (x1.trans x3) q⟩
 let hq:=arg ⟨ρ,l,st,lr,sr,q⟩;refine oO (h₀:=X.base) I.ok.mod.kin hk (dN (ha b3 J s σ H _ (I.wish _) hq) (λus s1 z=>?_) λ_ _ z=>cZ z) he hpl;let⟨vs,H1,I1',rv,sp⟩:=z;let I1:Inv X J σ H1 s1:=I1'.unwish;refine⟨I1.kIn,?_⟩;let hlen:⇑(us++[])=⇑ps:=by rw[bG,<- ⇑rv];exact F.len _ _ _ _ sp
 refine kU (ma (F.run X.A X.stack s1 H1 ⟨us,[]⟩ (us++[]) vs _ _ hr I1.env0 (hb s1 us I1.kIn hlen) (by rw[bG];exact rv) sp) λr O hr2=>?_);cases r with
 |ok fl=>
  cases fl with
  |ret u=>
   let⟨v,U,I2,ru,nx⟩:=I1.after hr2;exact⟨v,σ,U,I2,ru,λs3 I3=>lR ⟨_,U,I3,nx⟩⟩
  |next=>exact cZ hr2|brk=>exact cZ hr2|cont=>exact cZ hr2
 |error ev=>
  let⟨a,U,rfl,os,bare,un,hok,fl,hE⟩:=hr2;let I2:Inv X J σ U O:=I1.call' os un hok bare (ch:=[]) (λb z=>bw z (by simp));let⟨c,d0,vs0,sl,hH,hv,hT⟩:=fl.fly;let⟨ga,_⟩:=(show dQ X.prog X.w U O.heap a (.frz ⟨c,d0,.fields vs0,sl⟩ (.own a)) from I2.hok a _ hH)
  let hfs:X.A.frames=ξ (X.env::X.outer):=by rw[<- hst];exact I2.ok.frames
  let hstk:O.heap.FunFrames X.base (X.env::X.outer):=by rw[<- hst];exact I2.stack
  let hsf:∀b∈(X.env::X.outer).filterMap (·.frame),U b=none:=by have:=I2.stkFree;rw[hst]at this;exact this
  let un':Un ((X.env::X.outer).filterMap (·.frame)) [] H1 U s1.heap O.heap:=by rw[hst]at un;exact un
  let key:∀h4,qV ((X.env::X.outer).filterMap (·.frame)) a c d0 sl vs0 .none O.heap h4->∃H4 o4,Inv X J σ H4 { O with heap:=h4 }/\iR a U H4/\h4.get? a=ξ o4/\o4.cls=c:=λh4 g4=>by let⟨vs',T,ts,c',d',sl',e1,e2,e3,e4,e5,e6,e7⟩:=g4.ex;have un4:=X3 (vs':=vs') un' fl.1 fl.2.1 hH (λT z=>(hT T z).2) g4 (λb o _ hb=>hb);refine⟨_,_,I1.call' (s':={ O with heap:=h4 }) os (by rw[hst];exact un4) (S7 hok hsf hH (λT z=>(hT T z).1) g4 e1) bare (ch:=[]) (λb z=>bw z (by simp)),⟨c,d0,vs0,vs',sl,hH,e7,rfl⟩,e1,rfl⟩
  refine Sb hfs hstk hfr ga hv λh3 g3=>qV.calm (s:={ O with heap:=h3 }) g3 λh4 g4=>?_;let⟨H4,o4,I4,t4,ga4,hc4⟩:=key h4 g4;let⟨ρ4,d4,st4,lr4,sr4,rep4,p4⟩:=hE a rfl fl.2.1 H4 t4;let Y:∀{ρ':List ak}{L:Hp}{d:MM.D}{st':aY}{R:su->aY->List ak->Hp->Prop},ba X.K ρ' L (pZ ys i hc l d st') R->∃y ds,d=.exn y ds/\y∈ys:=λ{ρ' L d st' R}z=>by
   cases d with
   |exn x' ds=>
    by_cases e:x'∈ys
    ·exact⟨x',ds,rfl,e⟩
    ·unfold pZ at z;dsimp only at z;rw[aB e]at z;exact z.elim
   |_=>exact z.elim
  let⟨y4,ds4,ed4,hy4⟩:=Y p4;subst ed4;let⟨fl4,C,N,P,NP,G4,hZ⟩:=G y4 hy4;let hcC:c=.ref C:=by
   let⟨c1,d1,vs1,vs1',sl1,e1,_,rfl⟩:=t4;rw[hH]at e1;cases e1;cases rep4 with
   |exn0 g h=>
    let⟨o,ho,hco⟩:=h;rw[ik]at ho;cases ho;have:=g.symm.trans G4.gl;injection this with t;injection t with t;rw[<- t];exact hco
   |exn g h h2 r=>
    let⟨o,ho,hco,_⟩:=h;rw[ik]at ho;cases ho;have:=g.symm.trans G4.gl;injection this with t;injection t with t;rw[<- t];exact hco
  refine wpAny_handleBy_cons (codeAny_handlers_test ?_) (by intro q;cases q);refine FK (X:=tW X a) (RZ I4) hgy hmy ?_ hdy;let⟨mN,mP,ch,_⟩:=G4.ch I4.kIn;let hmt:∀{Q:Bool->aj->Prop}{E:ae->aj->Prop},Q θ { O with heap:=h4 }->aF (aW X.prog X.w) (tW X a).A (DO (.ref a) (.ref Z)) Q E { O with heap:=h4 }:=λ{Q E}hQ=>by
   rcases hZ with z|z
   ·subst z;refine OX ch.c ch.c Sy ga4 (hc4.trans hcC) ?_;rw[show (aC Z::aC P::gE).contains (.ref Z)=θ by simp];exact hQ
   ·subst z;refine OX ch.c ch.p Yz ga4 (hc4.trans hcC) ?_;rw[show (aC C::aC Z::gE).contains (.ref Z)=θ by simp];exact hQ
  refine hmt ?_;refine codeAny_handlers_suite_as ?_;refine qV.calm (s:={ O with heap:=h4 }) g4 λh5 g5=>?_;let⟨H5,o5,I5,t5,ga5,hc5⟩:=key h5 g5;let⟨ρ5,d5,st5,lr5,sr5,rep5,p5⟩:=hE a rfl fl.2.1 H5 t5;let⟨y,ds,ed5,hy5⟩:=Y p5;subst ed5;let hlen:i < ⇑σ:=by rw[I.len];exact (ac.mp hi).1
  refine I_ I5 hN hi (.inl hl) (v:=.ref a) rfl (λs6 I6=>?_) (.inr hl);refine dN (hsuite a J s6 _ H5 { nx:=λσ' L=>D.nx (σ'.set i ψ) L,rt:=D.rt,bk:=λ_ _=>False,ct:=λ_ _=>False } (RZ I6) ⟨ρ5,l.set i (ξ (.exn y ds)),st5,lr5.set i rep5,sr5,?_⟩) (λfw s7 hs7=>?_) (λ_ _ z=>cZ z)
  ·unfold pZ at p5;dsimp only at p5;rw[aH hy5]at p5;refine (ba.no (ba.bnd p5)).imp λfw o ρ6 z u g h=>?_;cases fw with|next l'=>exact λσ' l=>ba.ret h g _ l.unset|ret d=>exact λv rv=>ba.ret h g v rv|brk l'=>exact h.elim|cnt l'=>exact h.elim
  ·let o : ∀(σ' : L2.St)L, Inv X J σ' L s7 -> ∀{Q : Unit -> aj -> Prop}{E : ae -> aj -> Prop}, (∀g, Inv X J (σ'.set i ψ) L g -> Q Unit.unit g) -> aF (aW X.prog X.w) X.A (do bindName X.env nm .none; Bk X.env nm eG) Q E s7 := λσ' L l{Q E}hQ => by
     let C:i < ⇑σ':=by rw[l.len];exact (ac.mp hi).1
     refine aa (wpAny_bindName (I_ l hN hi (.inl hl) (v:=.non) rfl (λH G=>?_) (.inr hl)));unfold Bk;refine nJ (Qlg G hN hi hl (ax C) λg h=>hQ g ?_);rw[EA]at h;exact h
   cases fw with
   |next=>
    let⟨σ',L,l,nx⟩:=hs7;exact o σ' L (OK I.ok l) λg h=>⟨_,L,h,nx⟩
   |ret u=>
    let⟨v,σ',L,l,r,rt⟩:=hs7;exact o σ' L (OK I.ok l) λg h=>⟨v,_,L,h,r,rt⟩
   |brk=>let⟨_,_,_,z⟩:=hs7;exact cZ z|cont=>let⟨_,_,_,z⟩:=hs7;exact cZ z
theorem VN(hcm:X.calm=θ)(J:X.stack=X.env::X.outer)(U:X.env.frame=ξ X.env.locals)(F:iz X.prog X.w X.K X.mg X.base (xz X.prog X.w) k f fd ps (AB X.K n g))(hr:gJ k X.A)(hg:Gl X fn)(hm:X.mg fn=ξ (.ref f))(hk:keepIn X.K (.ref f)=θ) (hb:Binds X.K fd ps []) (ha:SA X.nox (e::es) ca) (hn:∀l st ds H,ca l st=.ok ds H->⇑ds=n) (hdb:(fn == ("__debug__":Str))=ω)(he:az (e::es) X.env=(ω,eval e X.env)::az es X.env) (L:(dF b3 (az es X.env)).any (·.1)=ω)(hN:X.N.Nodup) (hs:fX (.Call (.Name fn p2) (e::es) [] b3) ψ cy.line X.env=pure ω)(G:∀y∈ys,∃fl C N P NP,XF X.K y fl C N P NP/\(Z=C\/Z=P)) (Q:Gl X z) (O:X.mg z=ξ (.ref Z)) (Y:(z == ("__debug__":Str))=ω) (hi:X.N[i]?=ξ nm) (hl:X.env.scope.names.lookup nm=ξ .local)(o:∀a,wS (tW X a) (b0::ez) hc):SS X (.Try [.Expr (.Call (.Name fn p2) (e::es) [] b3) cy] [.ExceptHandler (ξ (.Name z p3)) (ξ nm) (b0::ez) eG] [] [] pos) (iN (fZ (bj g (qC ca))) ys i hc):=by
 exact Y5 hcm J U F hr hg hm hk hb ha hn hdb he L hN (cb:=fZ (bj g (qC ca))) (fs:=λσ _=>σ) (fl:=λl _=>l) (λl st=>by unfold fZ bnd;cases bj g (qC ca) l st<;>rfl) (λlr _=>lr)
  (λI h=>Ii (wpAny_Expr_any (dN h (λu s1 E=>by let⟨v,σ1,H1,I1,ru,k⟩:=E;exact lR (k s1 I1)) λ_ _ z=>z) I.quiet hs)) G Q O Y hi hl o
end
end MM
namespace MM
open PySem PySem.Spec PyProof.Rows L2
def B4:lP:=λq c e=>D0 e λx _ o _ Y=>vC o λa o U=>(Jn c.G x).bind λr=>wh (c.glo x=θ/\nj x=θ/\r.1.k<=c.k/\r.1.n=⇑(a::o)+1/\r.1.kw=θ/\r.1.ps.getLast?=ξ (al "most")) λz=>(vA q c (a::o)).bind λE=>ξ ⟨p9 r.1.g E.1 ↑500,λg=>by
 subst Y U;let⟨Q,O,L,J,I,H⟩:=z;let⟨f,fd,m,F,kp,B,h⟩:=(g.G _ _ r.2).ex;let⟨x,y,l⟩:=E.2;rw[bO,bo]at y
 replace h:=h I
 unfold Ec at h;rw[aH H]at h;let⟨u,hu,B1⟩:=h;exact Qil g.S (beq_iff_eq.mp Q) F (g.hr.mono L) m kp B1 hu (uv O) (x g) (λG st ds C z=>by rw[J,l G st ds C z]) (qP y.1) (Dk y.2)⟩
section
variable{K:aq}{mg:Str->Option ae}
def yW(K:aq)(mg:Str->Option ae)(x:Str)(sd:Stmt):Prop:=∃a g u,Au K x x sd a g u/\mg x=ξ (.ref a)/\RelV ↑500 u
theorem FG{J kV L H g ct to:ae}{z:Nat}(X:K.In h)(G:h.Ns bN mg)(a:iT K bN x=ξ (ξ (.ref f)))(l:K.lookup f=ξ ⟨J,I,.func (dv x x (dH sd) (cn sd) (bh sd) (.ref T) kV L H O g ct),E⟩) (c:gY K g x=θ) (k:dh K (.ref f)=θ) (t:K.lookup T=ξ ⟨to,C,.seq #[.int 500 o] z,u⟩):yW K mg x sd:=
 ⟨f,_,_,ZF (st:=sd) l c k t rfl,z_ X G a,⟨_,rfl⟩⟩
end
def rQ(sd:Stmt):List Str:=((bh sd).names.filter λp=>p.2 == .local||p.2 == .cell).map (·.1)
def qc(sd:Stmt):List Str:=(rQ sd).take ⇑(dH sd).args
def qE(x:Str)(sd:Stmt)(n k:Nat)(g:List D->M D)(G:List (Str×RF)):List (Str×RF):=(x,⟨n,k+1,qc sd,ω,g⟩)::G
def qD(x:Str)(sd:Stmt)(n k:Nat)(g:List D->M D)(G:List (Str×RF)):List (Str×RF):=(x,⟨n,k+1,qc sd,θ,g⟩)::G
section
variable{K:aq}{k:Nat}
theorem D9:qc sd++(rQ sd).drop ⇑(dH sd).args=rQ sd:=List.take_append_drop ..
theorem nB(R : nA)(H : List (Nat×Nat×Nat))(n : Nat)(F : FnAt K mg x sd)(U : ck P w K mg base G)(Q : xF mg Z)(Y : zO K mg C)(O : (qS (py R 40) ⟨bh sd, rQ sd, k, G, Z, C, H, θ, ([], []), ψ⟩ (cn sd)).map (λv => bR ⇑(rQ sd) v.1) = ξ g := by kernel_rfl)
  (S:sM (rQ sd) (qc sd) (bh sd)=true:=by kernel_rfl) (I:⇑(qc sd)=n:=by kernel_rfl)
  (b:∀(kV h u:ae)(E:Option ak)(l ct:ae)(o:List ae),⇑o=n->ly (dv x x (dH sd) (cn sd) (bh sd) .none kV h u E l ct) { pos:=o }=pure ((qc sd).zip o):=by and_intros):
  ck P w K mg base (qE x sd n k g G):=by
 let⟨v,J,rfl⟩:=cA.mp O;exact G5 R (r:=(rQ sd).drop ⇑(dH sd).args) (ps:=qc sd) (H:=H) F (by rw[D9];exact S) (λkV h u E l ct o L=>b kV h u E l ct o (L.trans I)) (λz=>(by cases z)) (by rw[D9,J];rfl) U Q Y I (by rw[D9]) (λz=>(by cases z))
theorem N5(R : nA)(H : List (Nat×Nat×Nat)){n : Nat}(F : ww K x x sd f h)(I : ck P w K mg base G)(E : xF mg Z)(J : zO K mg C)(z : (qS (py R 40) ⟨bh sd, rQ sd, k, G, Z, C, H, θ, ([], []), ψ⟩ (cn sd)).map (λv => bR ⇑(rQ sd) v.1) = ξ g := by kernel_rfl)
  (S:sM (rQ sd) (qc sd) (bh sd)=true:=by kernel_rfl) (u:⇑(qc sd)=n:=by kernel_rfl) (o:qc sd=ps:=by kernel_rfl):iz P w K mg base qF (k+1) f h ps (nX K n g):=by
 subst o;let⟨v,l,rfl⟩:=cA.mp z;exact QP R (r:=(rQ sd).drop ⇑(dH sd).args) (ps:=qc sd) (H:=H) F (by rw[D9];exact S) (by rw[D9,l];rfl) I E J u (by rw[D9])
end
end MM
local macro_rules
 | `(tactic| and_intros)=>`(tactic| first|exact λ_ _ _ _ _ _=>MM.Hu λ_=>by kernel_rfl|exact λ_ _ _ _ _ _=>MM.Cv λ_ _=>by kernel_rfl|exact λ_ _ _ _ _ _=>MM.KZ λ_ _ _=>by kernel_rfl|exact λ_ _ _ _ _ _=>MM.le4 λ_ _ _ _=>by kernel_rfl|exact λ_ _ _ _ _ _=>MM.le5 λ_ _ _ _ _=>by kernel_rfl)
local macro_rules
 | `(tactic| subst_eqs)=>`(tactic| first|exact λ_ _ _ _ _ _ _ _=>MM.Cv λ_ _=>⟨_,rfl,by kernel_rfl⟩|exact λ_ _ _ _ _ _ _ _=>MM.KZ λ_ _ _=>⟨_,rfl,by kernel_rfl⟩)
local macro_rules
 | `(tactic| subst_vars)=>`(tactic| first|exact λ_ _ _ _ _ _ _ _ us hl=>MM.Hu (λ_=>⟨_,rfl,by kernel_rfl⟩) us (mn hl)|exact λ_ _ _ _ _ _ _ _ us hl=>MM.Cv (λ_ _=>⟨_,rfl,by kernel_rfl⟩) us (mn hl))
namespace MM
open PySem PySem.Spec PySem.W PyProof.Rows L2
section
variable{P:Program}{w:bJ}{K:Frag}{mg:Str->Option ae}{base:bC}
structure GX(P:Program)(w:bJ)(K:Frag)(mg:Str->Option ae)(base:bC)(x:Str)(r:RF):Prop where
 ex:∃f fd,mg x=ξ (.ref f)/\iz P w K mg base (xz P w) r.k f fd r.ps (AB K r.n r.g)/\keepIn K (.ref f)=θ/\Binds K fd r.ps []
def ny(P:Program)(w:bJ)(K:Frag)(mg:Str->Option ae)(base:bC)(l:List (Str×RF)):Prop:=∀x r,l.lookup x=ξ r->GX P w K mg base x r
structure XR(P:Program)(w:bJ)(K:Frag)(mg:Str->Option ae)(base:bC)(y f:Str):Prop where
 ex:∃C N PA NP fI fd ps,XF K y f C N PA NP/\mg y=ξ (.ref C)/\nsIn K N (al "__init__")=ξ (ξ (.ref fI))/\(∃oI,K.lookup fI=ξ oI/\oI.cls=.type "function")/\iz P w K mg base qF 1 fI fd ps (D4 C f)/\Binds K fd ps []
 hy:cv (.type "ValueError") f=pure ψ
theorem OQ{k n:Nat}(F:iz P w K mg base (xz P w) k f o ps (AB K n g)):iz P w K mg base qF k f o ps (nX K n g):=by
 let u:∀vs H Q E,nX K n g vs H Q E->AB K n g vs H Q (λ_ _ _=>False):=λvs H Q E l=>by let⟨h1,ρ,st,ds,G,I,p⟩:=l;exact⟨h1,ρ,st,ds,G,I,by
  cases e:g ds st with
  |ok r s=>rw[e]at p;exact p|exc d s=>rw[e]at p;exact p.elim
  |bad=>rw[e]at p;exact p.elim⟩
 refine⟨λvs H Q E h=>F.len vs H Q _ (u vs H Q E h),λA outer s H args C vs Q E O U Y J L=>ma (F.run A outer s H args C vs Q (λ_ _ _=>False) O U Y J (u vs H Q E L)) λr s' h=>?_⟩;cases r with|ok f=>cases f<;>exact h|error e=>
  let⟨a,H',_,_,_,_,_,_,z⟩:=h;exact z.elim
end
section
variable{X:Cx}{x f y:Str}{C N P NP D:ak}{xs:List Str}
theorem WF(B:∀x∈xs,∃f C N P NP,XF X.K x f C N P NP)(O:XO X.K y D)(hg:Gl X "isinstance")(hm:X.mg "isinstance"=ψ)(hv:b5 "isinstance"=ξ (.builtin "isinstance"))(U:Gl X y)(L:X.mg y=ξ (.ref D))(nk:pW y)(ha:SE X e fa)(he:az [e,.Name y p1] X.env=(ω,eval e X.env)::az [.Name y p1] X.env:=by rfl) (Y:az [.Name y p1] X.env=(ω,eval (.Name y p1) X.env)::az [] X.env:=by rfl) (J:(dF pos (az [.Name y p1] X.env)).any (·.1)=false:=by rfl):
  SE X (.Call (.Name "isinstance" p) [e,.Name y p1] [] pos) (c1 (rL xs λx=>x == y||("PactError":Str) == y) fa):=
 (C0 Py hg hm hv (qy ha (qy (RJ (v:=.ref D) U L rfl nk.d) ua Y) he) (by decide) (by decide) he J).of λσ H Q h_=>h_.el λρ l st lr sr q=>⟨ρ,l,st,lr,sr,q.bnd.imp λd df ρ1 H1 x1 s1 G v rv=>by
  let e:∀(C' P:ak)(u:Str),XO X.K u C'->XO X.K "PactError" P->wL C' P (.ref D)=(u == y||("PactError":Str) == y):=λC' P u z h=>by show (decide (D=C')||decide (D=P))=_;rw[z.iff O,h.iff O]
  cases rv with
  |@exn a C' dx u f' v' d' g hh h r=>
   let⟨I,E⟩:=G.chk;let⟨o,ho,hc,_⟩:=hh;refine IY B I g ⟨o,ho,hc⟩ (.inr ⟨y,D,rfl,O⟩) λP z h=>?_;rw[e _ _ _ z h];exact E.ret s1 _ (.bl _)
  |@exn0 a C' u g hh=>
   let⟨I,E⟩:=G.chk;refine IY B I g hh (.inr ⟨y,D,rfl,O⟩) λP z h=>?_;rw[e _ _ _ z h];exact E.ret s1 _ (.bl _)
  |_=>exact G.elim⟩
end
section
variable{X:Cx}
theorem XV(hp:og (aW X.prog X.w) X.A X.env X.xe)(hc:ST X c ta)(hb:zP X body cs):SX X (.While c body [] pos) (gL (pP ta) cs):=(OJ hp hc hb).of λG σ H u=>by
 let⟨ρ,l,st,lr,sr,p⟩:=u;unfold gL at p;by_cases h:∃n,∀r,cF (pP ta) cs n l st=r->r≠.bad
 ·rw[dif_pos h]at p;generalize dm h=n at p;refine⟨λm σ H=>∃ρ l st,LR X.K ρ H σ l/\SR X.K ρ H st/\cc X.K ρ H (cF (pP ta) cs m l st) (λf _ ρ' g=>match f with
   | .next l'=>∀σ',LR X.K ρ' g σ' l'->G.nx σ' g| .ret d=>∀v,da X.K ρ' g v d->G.rt v g| .brk l'=>∀σ',LR X.K ρ' g σ' l'->G.bk σ' g
   | .cnt l'=>∀σ',LR X.K ρ' g σ' l'->G.ct σ' g) (D_ X),⟨n,ρ,l,st,lr,sr,p⟩,?_⟩
  intro m σ1 H1 o;let⟨ρ1,l1,O,z,Q,p1⟩:=o;cases m with|zero=>exact p1.elim|succ m=>
   refine⟨ρ1,l1,O,z,Q,(cc.no (cc.bnd p1)).imp λk L ρ2 H2 U Y u=>?_⟩;cases k with|false=>exact cc.ret u Y _ (z.mono U)|true=>
    refine⟨λσ' g=>∃ρ l st,LR X.K ρ g σ' l/\SR X.K ρ g st/\cc X.K ρ g (cF (pP ta) cs m l st) _ _,λσ' g q=>⟨m,mX m,q⟩,ρ2,l1,L,z.mono U,Y,(cc.bnd u).imp λf E ρ3 H3 x3 I J=>?_⟩;cases f with|next l'=>exact λσ' C=>⟨ρ3,l',E,C,I,J⟩|ret d=>exact cc.ret J I|brk l'=>exact cc.ret J I|cnt l'=>exact λσ' C=>⟨ρ3,l',E,C,I,J⟩
 ·rw[dif_neg h]at p;exact p.elim
end
section
variable(E:List (Str×RF))(y fl:Str)
structure CY(X:Cx)(E:List (Str×RF))(y fl:Str):Prop where
 E:ny X.prog X.w X.K X.mg X.base E
 ex:X.ex=[]
 R:XR X.prog X.w X.K X.mg X.base y fl
abbrev Ht(c:RC)(s:Stmt):={r:CS // ∀{X:Cx},Good X c->CY X E y fl->SX X s r}
abbrev Hz(c:RC)(s:List Stmt):={r:CS // ∀{X:Cx},Good X c->CY X E y fl->zP X s r}
abbrev NT(c:RC)(e:Expr):={r:CE // (∀{X:Cx},Good X c->CY X E y fl->Hb X e r)/\IE e=θ}
def zc(q:oV)(c:RC)(e:Expr):Option (NT E y fl c e):=D0 e λx p U pos C=>vC U λa o Q=>(Jn E x).bind λr=>wh (c.glo x=θ/\nj x=θ/\r.1.k<=c.k/\r.1.n=⇑(a::o)) λz=>(vA q c (a::o)).bind λG=>
 ξ ⟨bj r.1.g (qC G.1),λg h=>by subst C Q;let⟨O,L,J,I⟩:=z;let⟨f,Y,m,F,kp,B⟩:=(h.E _ _ r.2).ex;let⟨x,y,l⟩:=G.2;rw[bO,bo]at y;exact WY h.ex F (g.hr.mono J) (g.S.glo _ (beq_iff_eq.mp O)) m kp B (x g) (λH st ds u z=>by rw[I,l H st ds u z]) (uv L).d (qP y.1) (Dk y.2),by subst C;rfl⟩
def vo{c:RC}(k:∀s:Stmt,Option (Ht E y fl c s)):∀l:List Stmt,Option (Hz E y fl c l)
 |[]=>ξ ⟨aZ,λ_ _=>QkZ⟩|s::l=>(k s).bind λa=>(vo k l).bind λb=>ξ ⟨aN a.1 b.1,λg h=>Yy (a.2 g h) (b.2 g h)⟩
def xPl(q:oV)(c:RC)(s:Stmt):Option (Ht E y fl c s):=(q.s c s).bind λf=>ξ ⟨xE f.1,λg _=>UX (f.2 g)⟩
noncomputable def xOr{α:Type}(a b:Option α):Option α:=match a with|some x=>ξ x|none=>b
def No(q:oV)(c:RC)(k:∀s:Stmt,Option (Ht E y fl c s))(s:Stmt): Option (Ht E y fl c s):=
  xOr (UW s λa b _ e=>oS a λa l=>oN b λe2=>Ei a λx _ v _ e3=>wh (x=y/\c.glo y=θ/\nj y=θ/\2<=c.k/\sx v=θ) λz=>(q.e c v).bind λf=>ξ ⟨tT y fl f.1,λg h=>by subst e2 l e e3;let⟨rfl,L,J,h4,h5⟩:=z;let⟨C,N,PA,NP,fI,fd,ps,F,m,hi,O,G,B⟩:=h.R.ex;exact Qla h.ex g.S.calm F hi O G (g.hr.mono h4) B (g.S.glo _ (beq_iff_eq.mp L)) m (uv J).d (f.2 g) (qP h5)⟩) <|
  xOr (K6 s λt a b _ e=>(q.t c t).bind λu=>(vo E y fl k a).bind λI=>(vo E y fl k b).bind λH=>ξ ⟨lY (pP u.1) I.1 H.1,λg h=>e ▸ Qk1 (u.2 g) (I.2 g h) (H.2 g h)⟩) <|
  xOr (Pb s λt a b _ e=>v0 b λl=>(q.t c t).bind λu=>(vo E y fl k a).bind λI=>ξ ⟨gL (pP u.1) I.1,λg h=>by subst l e;exact XV g.ps (u.2 g) (I.2 g h)⟩) <|
  xOr (O4 s λtg Q b r _ e=>v0 r λl=>wh (Ca Q=θ) λz=>(q.i c tg Q).bind λU=>(q.g c tg).bind λY=>(vo E y fl k b).bind λH=>ξ ⟨hU (Jh U.1) (zG Y.1) H.1,λg h=>by subst l e;exact Z6 g.ps g.S.calm (U.2 g) (Y.2 g) (H.2 g h) (JD z)⟩) <|
  xOr (J1 s λa _ e=>(zc E y fl q c a).bind λf=>ξ ⟨fZ f.1,λg h=>e ▸ Wo (f.2.1 g h) (DV f.2.2)⟩) <|
  xOr (II s λo _ e=>oS o λa l=>(zc E y fl q c a).bind λf=>ξ ⟨dj f.1,λg h=>by subst l e;exact Z3 (f.2.1 g h)⟩) <|
  xOr (D6 s λt a _ e=>xD t λx _ l=>(zc E y fl q c a).bind λf=>(GQ c x).bind λi=>ξ ⟨bM (aT i.1) f.1,λg h=>by subst l e;let⟨h1,k,L,J⟩:=F4 g i.2;exact Qk6 g.nd h1 (g.S.loc _ _ L J).1 (f.2.1 g h) (DV f.2.2) (g.S.loc _ _ L J).2⟩) <|
  xPl E y fl q c s
def JZ(q:oV)(c:RC):Nat->∀s:Stmt,Option (Ht E y fl c s)
 |0=>λ_=>ψ|n+1=>No E y fl q c (JZ q c n)
end
section
variable{β:Type}
def XQ(h:ExceptHandler)(k:∀z p l o g q,h=.ExceptHandler (ξ (.Name z p)) (ξ l) (o::g) q->Option β):Option β:=match h,k with| .ExceptHandler t n b q,k=>oS t λt G=>xD t λz p E=>oS n λl C=>vC b λo g u=>k z p l o g q (u ▸ C ▸ E ▸ G ▸ rfl)
end
section
variable(E:List (Str×RF))(ys:List Str)(y fl:Str)
structure vy(X:Cx)(E:List (Str×RF))(ys:List Str)(y fl:Str):Prop where
 E:ny X.prog X.w X.K X.mg X.base E
 R:XR X.prog X.w X.K X.mg X.base y fl
 hy:BE X.K X.mg ys
 nx:X.nox=X
 st:X.stack=X.env::X.outer
 fr:X.env.frame=ξ X.env.locals
variable{E ys y fl} in
theorem vy.B(h:vy X E ys y fl):∀x∈[y],∃f C N P l,XF X.K x f C N P l:=λx g=>by rw[aD]at g;subst g;let⟨C,N,PA,l,u,o,ps,F,_⟩:=h.R.ex;exact⟨_,_,_,_,_,F⟩
abbrev NZ(c:RC)(e:Expr):={r:CE // ∀{X:Cx},Good X c->vy X E ys y fl->SE X e r}
abbrev Ag(c:RC)(e:Expr):={r:CT // ∀{X:Cx},Good X c->vy X E ys y fl->ST X e r}
abbrev ME(c:RC)(es:List Expr):={r:CT // ∀{X:Cx}{p:Pos},Good X c->vy X E ys y fl->PW X (.BoolOp .Or es p) (pY X.K r)}
abbrev CM(c:RC)(s:Stmt):={r:CS // ∀{X:Cx},Good X c->vy X E ys y fl->SS X s r}
abbrev Lo(c:RC)(s:List Stmt):={r:CS // ∀{X:Cx},Good X c->vy X E ys y fl->wS X s r}
def EU(q:oV)(c:RC)(e:Expr):Option (NZ E ys y fl c e):=
 xOr (Jc e λz _ a b _ h=>wh (z=al "isinstance"/\c.bl z=θ/\sx a=θ) λw=>(q.e c a).bind λl=>
  xOr (xD b λt _ H=>wh (t=al "ValueError"/\c.bl t=θ) λv=>ξ ⟨c1 (rL [y] λ_=>θ) l.1,λg o=>by subst H h;let⟨rfl,u,G⟩:=w;let⟨rfl,L⟩:=v;let⟨I,M1⟩:=g.gl u;let⟨G2,M2⟩:=g.gl L;exact T5 o.B I M1 (by nofun) G2 M2 (by nofun) (l.2 g) (qP G)⟩) <|
  xOr (xD b λt _ H=>wh (ys.contains t=θ/\c.glo t=θ/\nj t=θ) λv=>ξ ⟨c1 (rL [y] λx=>x == t||("PactError":Str) == t) l.1,λg o=>by subst H h;let⟨rfl,u,G⟩:=w;let⟨h2,Y,U⟩:=v;let⟨I,M1⟩:=g.gl u;let⟨D,O,m⟩:=o.hy _ h2;exact WF o.B O I M1 (by nofun) (g.S.glo _ (beq_iff_eq.mp Y)) m (uv U) (l.2 g) (qP G)⟩)
  (Jl b λes n _ H=>oS (yQ (λt=>ys.contains t&&c.glo t&&nj t) es) λzs hz=>wh (⇑zs<=10) λQ=>ξ ⟨c1 (rL [y] λx=>zs.any λt=>x == t||("PactError":Str) == t) l.1,λg o=>by subst H h;let⟨rfl,u,G⟩:=w;let⟨I,M1⟩:=g.gl u;refine Y8 o.B o.hy (λt J=>?_) hz Q I M1 (by nofun) (l.2 g) (qP G);rw[bo,bo]at J;exact⟨J.1.1,g.S.glo _ (beq_iff_eq.mp J.1.2),J.2⟩⟩)) <|
 xOr (Ri e λa x _ h=>wh (x=fl/\EH a=θ) λw=>(q.e c a).bind λl=>ξ ⟨c1 (uS y fl) l.1,λg o=>by subst h;let⟨rfl,u⟩:=w;let⟨C,N,PA,NP,fI,fd,ps,F,_⟩:=o.R.ex;exact Qin F o.R.hy (l.2 g) (Jo u)⟩)
 ((q.e c e).bind λf=>ξ ⟨f.1,λg _=>f.2 g⟩)
def G3(k:∀e,Option (Ag E ys y fl c e)):∀es:List Expr,Option (ME E ys y fl c es)
 |[]=>ψ|[a]=>(k a).bind λh=>ξ ⟨h.1,λg o=>QS (h.2 g o)⟩|a::b::r=>(k a).bind λh=>(G3 k (b::r)).bind λl=>ξ ⟨tR h.1 l.1,λg o=>O1 (h.2 g o) (l.2 g o)⟩
def Vn(q:oV)(c:RC)(k:∀e,Option (Ag E ys y fl c e))(e:Expr):Option (Ag E ys y fl c e):=
 xOr (GC e λo a _ h=>wh (o=.Not) λz=>(k a).bind λf=>ξ ⟨pe f.1,λg w=>h ▸ z ▸ Sw (f.2 g w)⟩) <|
 xOr (M8 e λo es _ h=>wh (o=.Or) λz=>(G3 E ys y fl k es).bind λf=>ξ ⟨f.1,λg w=>by subst z h;exact L2.PW.pt (f.2 g w)⟩) <|
 xOr (QX e λa o b _ h=>wh (o=.NotEq/\Ca b=θ) λz=>(EU E ys y fl q c a).bind λu=>(EU E ys y fl q c b).bind λl=>ξ ⟨cK (c2 xT u.1 l.1),λg w=>by subst h;let⟨rfl,z⟩:=z;exact Pl (PN g.hu) (u.2 g w) (l.2 g w) (L4 z)⟩)
 (wh (Ky e=θ) λz=>(EU E ys y fl q c e).bind λf=>ξ ⟨n6 f.1,λg w=>O8 (f.2 g w) (QK z)⟩)
def Qj(q:oV)(c:RC):Nat->∀e,Option (Ag E ys y fl c e)
 |0=>λ_=>ψ|n+1=>Vn E ys y fl q c (Qj q c n)
def WW(c:RC)(s:Stmt):Option {r:CS // ∀{X:Cx}{a:ak},Good X c->SS (tW X a) s r}:=D6 s λt e _ h=>xD t λv _ J=>xD e λx _ I=>(GQ c v).bind λi=>(GL c x).bind λj=>ξ ⟨bM (aT i.1) (am j.1),λ{X a}g=>by
 subst J I h;let⟨H,k,C,z⟩:=F4 g i.2;let⟨u,l,G⟩:=j.2;let u:X.N[j.1]?=ξ x:=by rw[g.N];exact u
 let o:=uv G;refine RV (X:=tW X a) g.nd H (g.S.loc _ _ C z).1 ?_ (DV rfl) (g.S.loc _ _ C z).2;rcases l with l|l|l
 ·exact Jr _ (Ee u (g.S.vis x _ l (.inl rfl)) o.d o.c)
 ·exact Jr _ (Ee u (g.S.vis x _ l (.inr (.inl rfl))) o.d o.c)
 ·exact Jr _ (Ee u (g.S.vis x _ l (.inr (.inr rfl))) o.d o.c)⟩
def N_(q:oV)(c:RC)(s:Stmt):Option (CM E ys y fl c s):=Ux s λb hs r1 r2 _ h=>v1 b λb h1=>v1 hs λhd h2=>v0 r1 λh3=>v0 r2 λh4=>XQ hd λz p3 H b0 ss _ h5=>v0 ss λh6=>
 wh (ys.contains z=θ/\(z=al "PactError"\/z=y)/\c.glo z=θ/\nj z=θ/\c.top=θ/\c.sc.names.lookup H=ξ .local/\c.N[c.N.idxOf H]?=ξ H) λw=>(WW c b0).bind λY=>
 J1 b λe _ h7=>D0 e λfn _ as _ h8=>vC as λa l h9=>(Jn E fn).bind λr=>wh (c.glo fn=θ/\nj fn=θ/\r.1.k<=c.k/\r.1.n=⇑(a::l)) λv=>(vA q c (a::l)).bind λca=>
 ξ ⟨iN (fZ (bj r.1.g (qC ca.1))) [y] (c.N.idxOf H) (aN Y.1 aZ),λ{X}g o=>by
  subst h9 h8 h7 h6 h5 h4 h3 h2 h1 h;let⟨w0,J,w1,w2,w3,w4,w5⟩:=w;let⟨v1,v2,v3,v4⟩:=v;let⟨Z,O,mz⟩:=o.hy _ w0;let G:∀x∈[y],∃fl C N P U,XF X.K x fl C N P U/\(Z=C\/Z=P):=λx Q=>by
   let⟨fl,C,N,P,U,F⟩:=o.B x Q;rw[aD]at Q;refine⟨fl,C,N,P,U,F,?_⟩;rcases J with u|u
   ·subst u;have:=O.1.symm.trans F.glP;injection this with t;injection t with t;injection t with t;exact .inr t
   ·rw[u,<- Q]at O;have:=O.1.symm.trans F.gl;injection this with t;injection t with t;injection t with t;exact .inl t
  let⟨f,fd,m,F,kp,B⟩:=(o.E _ _ r.2).ex;let⟨xa,I,la⟩:=ca.2;rw[bO,bo]at I;exact VN g.S.calm o.st o.fr F (g.hr.mono v3) (g.S.glo _ (beq_iff_eq.mp v1)) m kp B (by rw[o.nx];exact xa g) (λl' st ds L z=>by rw[v4,la l' st ds L z]) (uv v2).d (qP I.1) (Dk I.2) g.nd (DV rfl) G (g.S.glo _ (beq_iff_eq.mp w1)) mz (uv w2).d (by rw[g.N];exact w5) ((g.kd w3).2 _ |>.trans w4) λa=>MF (Y.2 g) NS⟩
def Vl(q:oV)(c:RC)(s:Stmt):Option (CM E ys y fl c s):=
 xOr (K6 s λt a b _ h=>(Qj E ys y fl q c 9 t).bind λC=>(qS q c a).bind λH=>(qS q c b).bind λG=>ξ ⟨lY C.1 H.1 G.1,λg o=>h ▸ P6 (C.2 g o) (H.2 g) (G.2 g)⟩) <|
 xOr (II s λo _ h=>oS o λe l=>xOr (GC e λu a _ I=>wh (u=.Not) λz=>(EU E ys y fl q c a).bind λf=>ξ ⟨dj (vH f.1),λg w=>by subst z I l h;exact NH (Qk (f.2 g w))⟩)
  ((EU E ys y fl q c e).bind λf=>ξ ⟨dj f.1,λg w=>by subst l h;exact NH (f.2 g w)⟩))
 ((q.s c s).bind λf=>ξ ⟨f.1,λg _=>f.2 g⟩)
def TM(q:oV)(c:RC)(s:Stmt):Option (CM E ys y fl c s):=xOr (N_ E ys y fl q c s) (Vl E ys y fl q c s)
def GA(q:oV)(c:RC):∀h:List Stmt,Option (Lo E ys y fl c h)
 |[]=>ξ ⟨aZ,λ_ _=>NS⟩|s::h=>(TM E ys y fl q c s).bind λa=>(GA q c h).bind λb=>ξ ⟨aN a.1 b.1,λg o=>MF (a.2 g o) (b.2 g o)⟩
end
section
variable{P:Program}{w:bJ}{K:Frag}{mg:Str->Option ae}{base:bC}
theorem Xe{H:Hp}{E:XK}:Sc (oD CX P w K mg base N qual sc f l A outer s H E) sc where
 vis:=λx k h g=>by
  rcases g with z|z|z<;>subst z
  ·exact .inl h
  ·exact .inr (.inl h)
  ·exact .inr (.inr h)
 cel:=λx h=>h
 glo:=λx h=>h
 loc:=λx k h g=>⟨by rcases g with z|z<;>subst z;exact .inl h;exact .inr h,.inl rfl⟩
 calm:=rfl
def XT(K:Frag)(mg:Str->Option ae)(y f qual:Str)(sd:Stmt):Prop:=∃C N PA o g l,XF K y f C N PA o/\mg y=ξ (.ref C)/\nsIn K N (al "__init__")=ξ (ξ (.ref g))/\(∃h,K.lookup g=ξ h/\h.cls=.type "function")/\ww K "__init__" qual sd g l
theorem U3(T:XT K mg y f qual sd)(E:cv (.type "ValueError") f=pure ψ)(S:sM [n1,n2] [n1,n2] (bh sd)=θ)(U:cn sd=[.Assign [.Attribute (.Name n1 O) f L] (.Name n2 J) I])(v1:(bh sd).names.lookup n1=ξ .local) (v2:(bh sd).names.lookup n2=ξ .local) (z:nj n1=θ) (u:nj n2=θ)(b:∀(kV l H:ae)(an:Option ak)(o ct:ae)(g:List ae),⇑g=⇑[n1,n2]->ly (fnOf "__init__" qual (dH sd) (cn sd) (bh sd) .none kV l H an o ct) { pos:=g }=pure ([n1,n2].zip g)):XR P w K mg base y f:=by
 let⟨C,N,PA,NP,fI,Y,F,m,Q,h,G⟩:=T;exact⟨⟨C,N,PA,NP,fI,Y,[n1,n2],F,m,Q,h,Qh1 F E G (C3 S) U (.inl v1) (.inl v2) (uv z).d (uv u).d (uv z).c (uv u).c,G.binds b⟩,E⟩
theorem Ra{r:RF}{g:b_}(m:mg x=ξ (.ref f))(F:iz P w K mg base (xz P w) r.k f g r.ps (AB K r.n r.g))(kp:keepIn K (.ref f)=θ)(b:Binds K g r.ps [])(h:ny P w K mg base E):ny P w K mg base ((x,r)::E):=λy s z=>by
 by_cases e:y=x
 ·subst e;rw[kz]at z;cases z;exact⟨f,g,m,F,kp,b⟩
 ·rw[v7 e]at z;exact h y s z
theorem Dl:BE K mg []:=λ_ h=>(by cases h)
theorem kI{D N:ak}{bs bm:List ae}{sub:List ae}{J I H E C:Option ae}(X:K.In h)(G:h.Ns bN mg)(g:nsIn K bN y=ξ (ξ (.ref D)))(l:K.lookup D=ξ (fv y q D N bs bm θ u sub O o L J I H E C "ValueError.__new__")) (t:BE K mg ys):BE K mg (y::ys):=λx z=>by
 rw[dq,nK]at z;rcases z with z|z
 ·rw[beq_iff_eq.mp z];exact⟨D,⟨g,_,_,_,_,_,_,_,_,_,_,_,_,_,_,l⟩,mg_of X G g⟩
 ·exact t x z
theorem EO{C N PA NP I:ak}{bs bs':List ae}{sub u:List ae}{col H:Option Bool}{es E:Array kl}{ep ep':Nat}{kV dc pm cd ct:ae} (X:K.In h) (G:h.Ns bN mg)(g:nsIn K bN x=ξ (ξ (.ref C))) (l:K.lookup C=ξ (fv x q C N bs (.ref PA::gE) θ sn sub ab col dd k0 k1 k2 k3 k5 "ValueError.__new__")) (lN:K.lookup N=ξ ⟨o,d,.dict es ep,sl⟩)(h1:rG es [al "__getattribute__",al "__getattr__",al "__setattr__",al "__class__",f]=θ) (kp:keepIn K (.ref C)=θ)(g':nsIn K bN "PactError"=ξ (ξ (.ref PA))) (l':K.lookup PA=ξ (fv "PactError" q' PA NP bs' gE θ J u ab' H dd' k0' k1' k2' Y U "ValueError.__new__")) (Q:K.lookup NP=ξ ⟨o',d',.dict E ep',O⟩)(h2:rG E [al "__getattribute__",al "__getattr__",al "__setattr__",al "__class__",f,al "__init__",al "args"]=θ)(xi:nsIn K N (al "__init__")=ξ (ξ (.ref I))) (xf:K.lookup I=ξ ⟨.type "function",od,.func (fnOf "__init__" qual (dH sd) (cn sd) (bh sd) .none kV dc pm an cd ct),L⟩) (xe:codeIn K cd qual=θ) (xk:keepIn K (.ref I)=θ):XT K mg x f qual sd:=
 ⟨C,N,PA,NP,I,_,Wt g l lN h1 kp g' l' Q h2 (λ_ z=>z) (λ_ z=>z),mg_of X G g,xi,⟨_,xf,rfl⟩,Pa (st:=sd) xf xe xk⟩
theorem EX{k n m:Nat}{oc Y kV z U g ct:ae}(lk:K.lookup f=ξ ⟨oc,od,.func (fnOf x qual (dH sd) (cn sd) (bh sd) Y kV z U an g ct),J⟩)(L:codeIn K g qual=θ)(S:kh N ps (bh sd))(hn:⇑ps=n)(hm:⇑N=m)(u:∀(g:ae)(A:bx)(outer:List Env)(s:aj)(H:Hp)(E:XK),gJ k (A.deeper (kB qual (bh sd) ↥s f g))->zP (oD (xz P w) P w K mg base N qual (bh sd) f g A outer s H E) (cn sd) o):iz P w K mg base (xz P w) (k+1) f (fnOf x qual (dH sd) (cn sd) (bh sd) Y kV z U an g ct) ps (AB K n (bR m o)):=by
 subst hn hm;refine MZ lk L S (λvs H Q E h=>h.1) λA outer s H vs Q E hr h=>⟨_,u g A outer s H E hr,?_⟩
 let⟨hl,ρ,st,ds,sr,G,p⟩:=h;refine⟨ρ,_,st,LR.start G,sr,?_⟩;unfold bR at p;let q:=cc.bnd p;cases O:o (ds.map ξ++aE (⇑N-⇑ds) ψ) st with
 |bad=>rw[O]at q;exact q|ok f df=>
  rw[O]at q;intro ρ1 H1 x1 s1;let C:=q ρ1 H1 x1 s1;cases f with|next l=>exact λσ' _=>cc.ret C s1 _ .non|ret d=>exact λv rv=>cc.ret C s1 v rv|brk l=>exact C.elim|cnt l=>exact C.elim
 |exc d df=>
  rw[O]at q;intro ρ1 H1 x1 s1 ah σ s' a I rep fl;exact X2 I fl λH2 t=>q ρ1 H2 (Ex.turn t x1 fl.2.1) (s1.turn t) a (rep.turn t)
variable{x y fl:Str}{sd:Stmt}{k n:Nat}{g:List D->M D}{G E:List (Str×RF)}{Z:List Str}{C:List (Str×D)}{H:List (Nat×Nat×Nat)}{ys:List Str}
theorem O3(R:nA){v:Hz E y fl ⟨bh sd,rQ sd,k,G,Z,C,H,θ,([],[]),ψ⟩ (cn sd)}(I:ck P w K mg base G)(J:ny P w K mg base E)(u:XR P w K mg base y fl)(o:xF mg Z)(L:zO K mg C)(S:kh (rQ sd) (qc sd) (bh sd)){A:bx}{s:aj}{Hp:Hp}{Ex:XK} (l:gJ k (A.deeper (kB x (bh sd) ↥s f h))):zP (oD (xz P w) P w K mg base (rQ sd) x (bh sd) f h A outer s Hp Ex) (cn sd) v.1:=
 v.2 ⟨Xe,rfl,S.nd,l,I,o,L,og.leaving,λ_=>⟨by show (if (bh sd).kind.isAnnotationScope=θ then _ else (bh sd).kind)=_;rw[S.kind];rfl,λ_=>rfl⟩,⟨(λ_ _ z=>(by cases z)),(λ_ _ z=>(by cases z))⟩,λ_ z=>(by cases z)⟩ ⟨J,rfl,u⟩
theorem QC(R : nA)(H : List (Nat×Nat×Nat))(n : Nat)(F : FnAt K mg x sd)(hh : ny P w K mg base E /\ ck P w K mg base G)(hR : XR P w K mg base y fl)(hZ : xF mg Z)(hC : zO K mg C)(hb : (vo E y fl (JZ E y fl (py R 40) ⟨bh sd, rQ sd, k, G, Z, C, H, θ, ([], []), ψ⟩ 20) (cn sd)).map (λv => bR ⇑(rQ sd) v.1) = ξ g := by kernel_rfl)
  (S:sM (rQ sd) (qc sd) (bh sd)=true:=by kernel_rfl) (O:⇑(qc sd)=n:=by kernel_rfl)
  (b:∀(kV l I:ae)(J:Option ak)(h ct:ae)(o:List ae),⇑o=n->ly (fnOf x x (dH sd) (cn sd) (bh sd) .none kV l I J h ct) { pos:=o }=pure ((qc sd).zip o):=by and_intros):
  ny P w K mg base (qE x sd n k g E)/\ck P w K mg base (qE x sd n k g G):=by
 let⟨U,Q⟩:=hh;let⟨v,hv,rfl⟩:=cA.mp hb;let⟨f,fd,F,u⟩:=F;let bs:=F.binds (ps:=qc sd) λkV l I J h ct o hl=>b kV l I J h ct o (hl.trans O);let⟨oc,od,kV,l,I,J,h,ct,Y,rfl,lk,L⟩:=F.ex;let ok:=EX (P:=P) (w:=w) (mg:=mg) (base:=base) (k:=k) lk L (C3 S) O rfl λh A outer s Hp Ex hr=>O3 R (v:=v) Q U hR hZ hC (C3 S) hr;exact⟨Ra u ok F.kp bs U,Je u (OQ ok) F.kp bs (λz=>(by cases z)) Q⟩
theorem QlC(R : nA)(H : List (Nat×Nat×Nat))(n : Nat)(F : yW K mg x sd)(hh : ny P w K mg base E /\ ck P w K mg base G)(hR : XR P w K mg base y fl)(hZ : xF mg Z)(hC : zO K mg C)(hb : (vo E y fl (JZ E y fl (py R 40) ⟨bh sd, rQ sd, k, G, Z, C, H, θ, ([], []), ψ⟩ 20) (cn sd)).map (λv => bR ⇑(rQ sd) v.1) = ξ g := by kernel_rfl)
  (S:sM (rQ sd) (qc sd) (bh sd)=true:=by kernel_rfl) (Q:⇑(qc sd)=n:=by kernel_rfl) (hq:(qc sd).getLast?=ξ (al "most"):=by kernel_rfl)
  (b0:∀(u:ae)(T:ak)(kV l I:ae)(J:Option ak)(h ct:ae)(z:List ae),⇑z=n->∃k:Option (Array ae)->Sem (List (Str×ae)),ly (fnOf x x (dH sd) (cn sd) (bh sd) (.ref T) kV l I J h ct) ⟨z,[]⟩=qJ (.ref T) >>= k/\k (ξ #[u])=pure ((qc sd).zip z):=by subst_eqs)
  (b1:∀(u:ae)(T:ak)(kV l I:ae)(J:Option ak)(h ct:ae)(z:List ae),⇑z+1=n->∃k:Option (Array ae)->Sem (List (Str×ae)),ly (fnOf x x (dH sd) (cn sd) (bh sd) (.ref T) kV l I J h ct) ⟨z,[]⟩=qJ (.ref T) >>= k/\k (ξ #[u])=pure ((qc sd).zip (z++[u])):=by subst_vars):
  ny P w K mg base (qE x sd n k g E)/\ck P w K mg base (qD x sd n k g G):=by
 let⟨hE,Y⟩:=hh;let⟨v,hv,rfl⟩:=cA.mp hb;let⟨f,fd,u,F,L,hu⟩:=F;let bs:Binds K fd (qc sd) []:=F.binds λT kV l I J h ct z O=>by rw[bG]at O ⊢;exact b0 u T kV l I J h ct z (O.trans Q)
 let kw:Ec K fd (qc sd):=by unfold Ec;rw[aH hq];exact⟨u,hu,F.binds λT kV l I J h ct z O=>b1 u T kV l I J h ct z (by rw[<- Q,<- O,aK];rfl)⟩
 let⟨oc,od,kV,l,I,J,h,ct,osl,T,o,nn,rfl,lk,U,lt,ht⟩:=F.ex;let ok:=EX (P:=P) (w:=w) (mg:=mg) (base:=base) (k:=k) lk U (C3 S) Q rfl λh A outer s Hp Ex hr=>O3 R (v:=v) Y hE hR hZ hC (C3 S) hr;exact⟨Ra L ok F.kp bs hE,Je L (OQ ok) F.kp bs (λ_=>kw) Y⟩
theorem Za(R : nA)(H : List (Nat×Nat×Nat))(n : Nat)(F : FnAt K mg x sd)(hE : ny P w K mg base E)(Q : ck P w K mg base G)(hR : XR P w K mg base y fl)(U : BE K mg ys)(hZ : xF mg Z)(hC : zO K mg C)(hb : (GA E ys y fl (py R 40) ⟨bh sd, rQ sd, k, G, Z, C, H, θ, ([], []), ψ⟩ (cn sd)).map (λv => bR ⇑(rQ sd) v.1) = ξ g := by kernel_rfl)
  (S:sM (rQ sd) (qc sd) (bh sd)=true:=by kernel_rfl) (O:⇑(qc sd)=n:=by kernel_rfl)
  (b:∀(kV l u:ae)(J:Option ak)(h ct:ae)(o:List ae),⇑o=n->ly (fnOf x x (dH sd) (cn sd) (bh sd) .none kV l u J h ct) { pos:=o }=pure ((qc sd).zip o):=by and_intros):
  ck P w K mg base (qE x sd n k g G):=by
 let⟨v,hv,rfl⟩:=cA.mp hb;let⟨f,fd,F,I⟩:=F;let bs:=F.binds (ps:=qc sd) λkV l u J h ct o hl=>b kV l u J h ct o (hl.trans O);let L:=C3 S;exact Je I (SW F L O rfl λh A outer s Hp E' _ Y=>v.2 ⟨RS,rfl,L.nd,Y,Q,hZ,hC,qw,λ_=>⟨by show (if (bh sd).kind.isAnnotationScope=θ then _ else (bh sd).kind)=_;rw[L.kind];rfl,λ_=>rfl⟩,⟨(λ_ _ z=>(by cases z)),(λ_ _ z=>(by cases z))⟩,λ_ z=>(by cases z)⟩ ⟨hE,hR,U,rfl,rfl,rfl⟩) F.kp bs (λz=>(by cases z)) Q
end
end MM
namespace MM
open PySem PySem.Spec PyProof.Rows L2
theorem QlE:SS X (.Return ψ pos) (dj (aL .non)):=QaS.of λG σ H h=>h.el λρ l st o g p=>((p.bnd.ret g).ret g) .non .non
def C_:zm:=λ_ _ e=>II e λo _ h=>oN o λg=>ξ ⟨dj (aL .non),λ_=>h ▸ g ▸ QlE⟩
end MM
namespace MM
def Jj:D->Option (D×D)
 | .tup [k,v]=>if oW θ k=θ then ξ (k,v) else ψ|_=>ψ
def tN:List D->Option (List (D×D))
 |[]=>ξ []|d::ds=>(Jj d).bind λp=>(tN ds).map (p::·)
def mB(ds:List D):M D:=match tN ds with|some ps=>chk (⇑ps<=1000) (rH θ (uD [] ps))|none=>bad
open PySem PySem.Spec PyProof.Rows L2
theorem QlF(g:List (D×D))(k v:D):⇑(i6 g k v)<=⇑g+1:=by
 unfold i6;split
 ·rw[af];exact xw _
 ·rw[aK];exact aA _
section
variable{X:Cx}{ρ:List ak}
theorem QlG(r:da X.K ρ H v d)(h:Jj d=ξ p):∃(a:ak)(x y:V),v=.ref a/\kZ X.K H a [x,y]/\da X.K ρ H x p.1/\da X.K ρ H y p.2/\oW θ p.1=true:=by
 unfold Jj at h;split at h
 ·split at h
  ·rename_i g;cases h;cases r with|tup hq rs=>
    cases rs with|cons r1 rs=>
     cases rs with|cons r2 rs=>
      cases rs;exact⟨_,_,_,rfl,hq,r1,r2,g⟩
  ·cases h
 ·cases h
theorem Qf(hc:X.calm=θ){A:bx}(hh:A.handled=ψ)(hu:A.units+10 < cO){R:Result->aj->Prop}(d g L:ak)(n:Nat)(ha:ρ[n]?=ξ d)(nL:L∉ρ)(vs:List V)(all:List D):∀(ds:List D)(ps:List (D×D))(j:Nat)(i:Int)(tok:Tok)(s:aj)(H:Hp)(st:aY)(cx:List (D×D)),all.drop j=ds->tN ds=ξ ps->Inv X ah σ H s->SR X.K ρ H st->st[n]?=ξ (.dct θ cx)->H L=ξ (.lst vs)->bQ X.K ρ H vs all ->pU X ah H g->s.heap.IsListIter g L j->⇑cx+⇑ds < sizeLine ->(∀E s',Inv X ah σ E s'->SR X.K ρ E (st.set n (.dct θ (uD cx ps)))->Ex ρ H ρ E->R (.ok (.ret .none)) s') ->l_ (aW X.prog X.w) A (.builtin "dict.update.loop" ⟨[.ref d,.ref g,.int i tok,.none],[]⟩) R s
 |[],ps,j,i,tok,s,H,st,cx,hd,h,I,sr,hn,hL,rs,hf,hi,hz,hR=>by
  cases h;let⟨f0,Y,f2,U,Q,O⟩:=hf;let⟨its,rv,pl,_⟩:=I.list (ie.of hL);refine oZ (b:=Builtin.«dict.update.loop») rfl ?_;rw[vj Jp _];unfold Builtin.«dict.update.loop»;simp only[];let hj:⇑all<=j:=by have:=cj e_ hd;simp at this;ext
  refine aa (zT (A:=A.in1) hh hi pl.isList (by rw[uZ];rw[aG,<- ⇑rv,⇑rs];exact hj) λh' hx=>?_)
  wp_walk
  refine hR H _ (I.turned (t':=s.toks) (λb o C e=>hx b o C e) f0 Y U Q O) ?_ Ex.refl;have:st.set n (.dct θ (uD cx []))=st:=by show st.set n (.dct θ cx)=st;let⟨h1,h2⟩:=ac.mp hn;rw[<- h2];exact List.set_getElem_self h1
  rw[this];exact sr
 |e::ds,ps,j,i,tok,s,H,st,cx,hd,h,I,sr,hn,hL,rs,hf,hi,hz,hR=>by
  let hf':=hf;let⟨f0,Y,f2,U,Q,O⟩:=hf;unfold tN at h;rw[mq]at h;let⟨p,hp1,h⟩:=h;rw[cA]at h;let⟨ps,hps,rfl⟩:=h;let⟨its,rv,pl,_⟩:=I.list (ie.of hL);let hej:all[j]?=ξ e:=by have:=cj (·[0]?) hd;simpa using this
  let⟨v,hv,rve⟩:=rs.get hej;let⟨a,x,y,rfl,hq,rx,ry,hk⟩:=QlG rve hp1;let⟨u,hu',ru⟩:=rv.get hv;cases ru;refine oZ (b:=Builtin.«dict.update.loop») rfl ?_;rw[vj Jp _];unfold Builtin.«dict.update.loop»;simp only[];refine aa (zp (A:=A.in1) hi pl.isList (by simpa using hu') λh' l hs=>?_);let I1:Inv X ah σ H { s with heap:=h' }:=I.turned (t':=s.toks) (λb o C e=>(hs.2 b C).trans e) f0 Y U Q O;let⟨us,rus,pt,_⟩:=I1.tuple hq;obtain⟨ux,uy,rfl,r1,r2⟩:∃ux uy,us=[ux,uy]/\RelV x ux/\RelV y uy:=by
   cases rus with|cons r1 t=>
    cases t with|cons r2 t=>cases t;exact⟨_,_,rfl,r1,r2⟩
  refine aa (bT (aa (wpAny_tryCatch (YX (s:={ s with heap:=h' }) pt ?_))));let I2:=I1.pinned (fp:=[g]) (λb C=>by rw[aD.mp C];exact hf') (λb C=>by rw[aD.mp C];let⟨o,J,c,dt⟩:=l;exact⟨o,J,λv z=>by rw[dt]at z;cases z⟩)
  refine bT (Qjg (A:=A.in1) (by show A.units+1+2 < cO;ext) I2 sr ha hn rx hk (by simp at hz;ext) ry r1 r2 λE s' I' sr' x'=>?_);refine ai ⟨xq Jp _,?_⟩;let hlt:=(ac.mp hn).1;let hi2:s'.heap.IsListIter g L (j+1):=by
   let⟨o,J,r⟩:=l;refine⟨o,?_,r⟩;let hm:(g,o)∈ah++mE [g] h':=by refine bu _ ?_;simp[mE,J]
   exact (I'.pin (g,o) (bu _ hm)).1
  let hit:E g=none:=by
   let⟨o,J,r⟩:=l;let hm:(g,o)∈ah++mE [g] h':=by refine bu _ ?_;simp[mE,J]
   exact (I'.pin (g,o) (bu _ hm)).2.1
  refine Qf hc hh hu d g L n ha nL vs all ds ps (j+1) (i+1) _ s' E _ (i6 cx p.1 p.2) (by rw[<- List.drop_drop,hd];rfl) hps I'.unpinned sr' (ax hlt) (x'.lst L vs nL hL) (rs.mono x') ⟨hit,Y,f2,U,Q,O⟩ hi2 (by have:=QlF cx p.1 p.2;simp at hz;ext) λH3 s3 I3 G x3=>?_;rw[EA]at G;exact hR H3 s3 I3 G (x'.trans x3)
end
section
variable{X:Cx}
theorem Qz:∀{ds:List D}{ps:List (D×D)},tN ds=ξ ps->⇑ps=⇑ds
 |[],_,h=>by cases h;rfl|d::ds,ps,h=>by unfold tN at h;rw[mq]at h;let⟨p,_,h⟩:=h;rw[cA]at h;let⟨l,g,rfl⟩:=h;simp[Qz g]
def EI(K:aq)(g:List D->M D):List V->Hp->VK->Prop:=λxs H Q=>∃a vs ρ st ds,xs=[.ref a]/\H a=ξ (.lst vs)/\a∉ρ/\SR K ρ H st/\bQ K ρ H vs ds/\ba K ρ H (g ds st) λr _ ρ' h=>∀v,da K ρ' h v r->Q v h
theorem QlJ(hc:X.calm=θ)(hu:X.A.units+60 < cO):CallR X (.type "dict") (EI X.K mB):=by
 intro z s σ H xs us Q I r h;let⟨L,vs,ρ,st,ds,rfl,hv,nL,Y,rs,p⟩:=h;let⟨u,rfl,rx⟩:=vx r;cases rx;unfold mB at p;cases l:tN ds with|none=>rw[l]at p;exact p.elim|some ps=>
  rw[l]at p;let⟨hk,p2⟩:=ba.chk p;let hlen:=Qz l;let⟨its,rv,⟨⟨oc,od,odt,O⟩,n,g,c1,c2,c3⟩,hz⟩:=I.list (ie.of hv);simp only at c1 c2 c3;subst c1 c2 c3;let hh:=I.ok.hd hc;let hLd:L < ↥s:=aP g;refine callType_codes (Q₁:=λobj s₁=>obj=.ref ↥s/\s₁={ s with heap:=s.heap.push { cls:=.type "dict",data:=.dict #[] } }) F.kt_called_dict rfl F.entry_dict_init (kt_code_dict_new _ ⟨rfl,rfl⟩) λobj s₁ h₁=>?_;let⟨rfl,rfl⟩:=h₁;refine⟨⟨_,aM _ rfl,rfl⟩,F.args_dict_init_2 _ _,?_⟩;let hn:=I.hok.fresh (aA ↥s);let I1:=I.laid (a:=↥s) (o:=nY ↥s []) (h':=s.heap.push { cls:=.type "dict",data:=.dict #[] }) (t':=s.toks) (λ_ _ q=>av _ q) (aA _)
   (Gb (P:=X.prog) (w:=X.w) (xs:=[]) (bn _) (beq_eq_false_iff_ne.mpr (du (bB I.big))) .nil (uq s.heap) ⟨_,_,aM _ rfl,rfl⟩)
  let x0:Ex ρ H (ρ++[↥s]) (eE H ↥s (nY ↥s [])):=Ex.newO hn;let s0:SR X.K (ρ++[↥s]) (eE H ↥s (nY ↥s [])) (st++[.dct θ []]):=(Y.new hn).keepO (Y.fresh hn) ⟨[],ik,.nil⟩;let E:(ρ++[↥s])[⇑st]?=ξ ↥s:=by rw[<- Y.len];simp
  let U:L≠↥s:=bB hLd;let hv1:eE H ↥s (nY ↥s []) L=ξ (.lst vs):=by rw[e8 U];exact hv
  let nL1:L∉ρ++[↥s]:=by simp only[aS,aD,not_or];exact⟨nL,U⟩
  let rs1:=rs.mono x0;let G:(s.heap.push { cls:=.type "dict",data:=.dict #[] }).get? L=ξ { cls:=.type "list",data:=.seq its.toArray n,slots:=O }:=av _ g;let hT:Bi { s with heap:=s.heap.push { cls:=.type "dict",data:=.dict #[] } } (.ref L) "list":=⟨_,G,rfl⟩
  unfold Builtin.«dict.__init__»
  wp_walk using eY hT,ZJ (A:=X.A.in1.in1) hh G
  intro h' tk kp;let I2:Inv X z σ _ { s with heap:=h',toks:=tk }:=I1.kept (t':=tk) kp;simp only[wH,if_true];refine aa (eK ?_);let hL2:h'.get? L=ξ { cls:=.type "list",data:=.seq its.toArray n,slots:=O }:=kp _ _ G;refine aa (kA ⟨_,hL2,rfl,n,rfl⟩ ?_);refine ai ⟨xq Jp _,?_⟩;let I3:Inv X z σ _ { s with heap:=h'.push { cls:=.type "list_iterator",data:=.fields #[.ref L,.int 0 0] },toks:=tk }:=I2.kept (t':=tk) λb o e=>av _ e;refine Qf (X:=X) (A:=X.A.in1) hc hh (by show X.A.units+1+10 < cO;ext) ↥s h'.objs.size L ⇑st E nL1 vs ds ds ps 0 0 0 _ _ _ [] rfl l I3 s0 (by simp) hv1 rs1 (I2.fpOk (aA _) (I2.hok.fresh (aA _))) ⟨_,aM _ rfl,rfl,rfl⟩ (by rw[gi];simp;ext) λJ s' I' C x'=>?_;refine⟨rfl,.ref ↥s,J,I',rfl,?_⟩;let e1:(st++[MO.dct θ []]).set ⇑st (.dct θ (uD [] ps))=st++[.dct θ (uD [] ps)]:=by simp
  rw[e1]at C;let p3:∀ρ' J,Ex ρ H ρ' J->SR X.K ρ' J (st++[.dct θ (uD [] ps)])->∀v,da X.K ρ' J v (.dic ⇑st)->Q v J:=p2;let⟨es,ee,_⟩:=C.ob ⇑st _ (.dct θ (uD [] ps)) E (by simp);exact p3 _ J (x0.trans x') C _ (.dic ⟨_,ee,.inr rfl⟩ E)
theorem Wu(hc:CallR X (.type "dict") (EI X.K mB))(hg:Gl X x)(Y:X.mg x=ψ)(o:b5 x=ξ (.type "dict"))(C:SL X e E)(U:x≠"__name__")(u:(x == ("__debug__":Str))=ω)(z:az [e] X.env=[(ω,eval e X.env)]):SE X (.Call (.Name x p) [e] [] pos) (kq mB E):=
 (Kw hc hg Y o (qy C ua z) U u z rfl).of λσ H Q h_=>h_.el λρ l st O G p=>⟨ρ,l,st,O,G,p.bnd.imp λds g ρ1 H1 x1 I J a vs C L o h=>⟨a,vs,ρ1,g,ds,rfl,o,L,I,h,J⟩⟩
end
def BZ:lP:=tQ "dict" (λc p=>c.tag p 21) mB λc u g m a s=>Wu (QlJ c u) g m (by nofun) a (wt (by nofun)) (by nofun) s
section
theorem UJ:uE h g=yZ ω ω h g:=by
 funext l s;refine Ce λx s=>Ce λy s=>?_;let e:∀{α:Type}(n:Nat)(f:List D×(aY->Prop)->M α)s,bnd (Fi ω (.ref n)) f s=bnd (getL n) (λds=>f (ds,ij n ds)) s:=λn f s=>by show bnd (bnd (getL n) _) f s=_;unfold bnd;cases getL n s<;>rfl
 cases x<;>first|(cases y<;>rfl)|skip
 rename_i m;refine Eq.trans ?_ (e _ _ s).symm;cases y<;>first|exact Z2 (λ_ _=>rfl) s|skip
 rename_i n
 show bnd (getL _) _ s=bnd (getL _) _ s;refine Ce λds s=>?_;exact (e n (λq=>ret (⟨ds.zipWith (λp q=>D.tup [p,q]) q.1,λs=>ij m ds s/\q.2 s⟩:Wk)) s).symm
def C4(t:Bool):yS:=KH E6 "zip" (λc p=>c.tag p 7 == t) uE λh g m a b s t u=>by let⟨_,_,_,rfl⟩:=IU h;rw[UJ];exact Qb ω ω g m a b s t u t
end
end MM
namespace MM
inductive lW{α:Type}(m:M α)(Q:α->aY->Prop)(W:D->aY->Prop)(s:At Q):Prop
 |ok (a:α) (s':aY) (h:m s=.ok a s') (q:Q a s'):lW m Q W s|exc (d:D) (s':aY) (h:m s=.exc d s') (q:W d s'):lW m Q W s
section
variable{α β:Type}{m:M α}{Q:α->aY->Prop}{W:D->aY->Prop}
theorem YH(h:lW m Q (λ_ _=>False) s):wp m Q s:=by
 rcases h with ⟨a,s',e,q⟩|⟨_,_,_,q⟩
 ·exact⟨a,s',e,q⟩
 ·exact q.elim
theorem DQ(h:wp m Q s):lW (qT m) Q W s:=by let⟨a,s',e,q⟩:=h;exact .ok a s' (by unfold qT;rw[e]) q
theorem xB{f:α->M β}{R:β->aY->Prop}(h:lW m (λa s'=>lW (f a) R W s') W s):lW (bnd m f) R W s:=by
 rcases h with ⟨a,s',e,q⟩|⟨d,s',e,q⟩
 ·rcases q with ⟨b,g,l,q⟩|⟨d,g,l,q⟩
  ·exact .ok b g (by unfold bnd;rw[e];exact l) q
  ·exact .exc d g (by unfold bnd;rw[e];exact l) q
 ·exact .exc d s' (by unfold bnd;rw[e]) q
theorem Bw{R:α->aY->Prop}{V:D->aY->Prop}(h:lW m Q W s)(l:∀a s',Q a s'->R a s')(g:∀d s',W d s'->V d s'):lW m R V s:=by
 rcases h with ⟨a,s',e,q⟩|⟨d,s',e,q⟩
 ·exact .ok a s' e (l a s' q)
 ·exact .exc d s' e (g d s' q)
theorem Bp{a:α}(h:Q a s):lW (ret a) Q W s:=.ok a s rfl h
theorem Va{Q:su->aY->Prop}(h:W d s):lW (xV d) Q W s:=.exc d s rfl h
end
section
variable{Q:su->aY->Prop}{W:D->aY->Prop}{a b:CS}
theorem vc (h:lW (a l) (λf s'=>match f with
  | .next l'=>lW (b l') Q W s'
  |f=>Q f s') W s):lW (aN a b l) Q W s:=xB (Bw h (λf s' q=>by cases f<;>first|exact q|exact Bp q) λ_ _ q=>q)
theorem IV(h:Q (.next l) s):lW (aZ l) Q W s:=Bp h
theorem zJ{c:CS}(h:wp (c l) Q s):lW (xE c l) Q W s:=DQ h
theorem X1{t:CT}(h:wp (t l) (λk s'=>if k=θ then lW (a l) Q W s' else lW (b l) Q W s') s):lW (lY (pP t) a b l) Q W s:=
 xB (Bw (DQ h) (λk s' q=>by cases k<;>exact q) λ_ _ q=>q)
theorem Yj{e:CE}(h:wp (e l) (λd s'=>W (.exn y [.str f,d]) s') s):lW (tT y f e l) Q W s:=
 xB (Bw (DQ h) (λd s' q=>Va q) λ_ _ q=>q)
theorem PJ{g:List D->M D}{o:CA}(h:wp (o l) (λds s'=>lW (g ds) R W s') s):lW (bj g (qC o) l) R W s:=
 xB (DQ h)
theorem YT{i:CI}(h:wp (i l) (λw s'=>lW (kM (zG g) b w.same w.ds l) Q W s') s):lW (hU (Jh i) (zG g) b l) Q W s:=xB (DQ h)
theorem TY{g:CG}{same:aY->Prop}{xs:List D}(J:Nat->Loc->aY->Prop)(H:∀i l s,J i l s->same s)(u:∀(i:Nat)d l s,xs[i]?=ξ d->J i l s->wp (g d l) (λG E=>lW (b G) (λf o=>match f with
   | .next l2=>J (i+1) l2 o| .cnt l2=>J (i+1) l2 o| .brk l2=>Q (.next l2) o
   | .ret d=>Q (.ret d) o) W E) s) (z:∀l s,J ⇑xs l s->Q (.next l) s) (L:J 0 l s):lW (kM (zG g) b same xs l) Q W s:=by
 let chk:∀{s:aY}{R:Unit->aY->Prop},same s->R Unit.unit s->lW (chkS same) R W s:=λh r=>.ok Unit.unit _ (by unfold chkS;rw[aH h]) r;let key:∀(n i:Nat)l s,i+n=⇑xs->J i l s->lW (kM (zG g) b same (xs.drop i) l) Q W s:=by
  intro n
  induction n with
  |zero=>
   intro i l s e j;let e:i=⇑xs:=by ext
   subst e;rw[mM];unfold kM;exact xB (chk (H _ _ _ j) (Bp (z l s j)))
  |succ n ih=>
   intro i l s e j;let I:i < ⇑xs:=by ext
   rw[cz I];unfold kM;refine xB (chk (H _ _ _ j) (xB (Bw (DQ (u i _ l s (ag I) j)) (λG E q=>xB (Bw q (λf o C=>?_) λ_ _ q=>q)) λ_ _ q=>q)));cases f with|next l2=>exact ih (i+1) l2 o () C|cnt l2=>exact ih (i+1) l2 o () C|brk l2=>exact Bp C|ret d=>exact Bp C
 have:=key ⇑xs 0 l s () L;rw[oy]at this;exact this
theorem Np{n:Nat}{g:CS}{ds:List D}{R:D->aY->Prop} (h:lW (g (ds.map ξ++aE (n-⇑ds) ψ)) (λf s'=>match f with
  | .ret d=>R d s'| .next _=>R .non s'
  |_=>False) W s):lW (bR n g ds) R W s:=xB (Bw h (λf s' q=>by cases f<;>first|exact Bp q|exact q.elim) λ_ _ q=>q)
end
theorem rJ{g:CG}{b:CS}{same:aY->Prop}{xs:List D}{Q:su->aY->Prop}(W:Nat->Loc->aY->Prop)(H:∀i l s,W i l s->same s)(I:W 0 l s)(h:∀(R:su->aY->Prop)(i:Nat)d l s,(∀{C o},W (i+1) C o->R (.next C) o)->(∀{d o},Q (.ret d) o->R (.ret d) o)->xs[i]?=ξ d->W i l s->wp (g d l) (λG E=>wp (b G) R E) s) (u:∀l s,W ⇑xs l s->Q (.next l) s):wp (kM g b same xs l) Q s:=
 KU W H I (λi d l s hd w=>h _ i d l s (λz=>z) (λz=>z) hd w) u
theorem Ni{t:CT}{b:CS}{Q:su->aY->Prop}(W:Loc->aY->Prop)(μ:Loc->aY->Nat)(E:W l s)(C:∀(R:su->aY->Prop)l s,(∀{g h},W g h->μ g h < μ l s->R (.next g) h)->(∀{d o},Q (.ret d) o->R (.ret d) o)->W l s->wp (t l) (λc u=>if c=θ then wp (b l) R u else Q (.next l) u) s):wp (gL t b l) Q s:=
 OS W μ E λl s w => C (λf h => match f with
   | .next g=>W g h/\μ g h < μ l s| .cnt g=>W g h/\μ g h < μ l s| .brk g=>Q (.next g) h
   | .ret d=>Q (.ret d) h) l s (λa b=>⟨a,b⟩) (λz=>z) w
structure rP(s:aY)(A:List Nat)(v:aY)(C:List (List D)):Prop where
 le:⇑s<=⇑v
 len:⇑A=⇑C
 oth:∀k,k < ⇑s->k∉A->v[k]?=s[k]?
 at_:∀(i a:Nat)(ds:List D),A[i]?=ξ a->C[i]?=ξ ds->v[a]?=ξ (.lst ds)
section
variable{i a n:Nat}
theorem rP.nil:rP s [] s []:=⟨aA _,rfl,λ_ _ _=>rfl,λ_ _ _ h=>by simp at h⟩
theorem rP.snoc'{w:aY}(K:rP s A v C)(l:⇑v<=⇑w)(o:∀k,k < ⇑v->w[k]?=v[k]?)(g:w[a]?=ξ (.lst ds)):rP s (A++[a]) w (C++[ds]):=by
 refine⟨bH K.le l,by simp[K.len],λk E H=>(o k (br E K.le)).trans (K.oth k E λz=>H (by simp[z])),λi b es h u=>?_⟩;by_cases G:i < ⇑A
 ·rw[aI G]at h;rw[aI (K.len ▸ G)]at u;have:=K.at_ i b es h u;rw[o b (ac.mp this).1];exact this
 ·rw[bv ()]at h;rw[bv (by rw[<- K.len];ext),<- K.len]at u;cases e:i-⇑A with|zero=>rw[e]at h u;cases h;cases u;exact g|succ n=>rw[e]at h;simp at h
theorem rP.old(K:rP s A v C)(g:v[a]?=ξ (.lst ds)):rP s (A++[a]) v (C++[ds]):=K.snoc' (aA _) (λ_ _=>rfl) g
theorem rP.snoc(K:rP s A v C)(h:⇑v=n):rP s (A++[n]) (v++[.lst ds]) (C++[ds]):=K.snoc' (by simp) (λk g=>aI g) (by subst h;exact i4)
theorem rP.put(K:rP s A v C)(E:A.Nodup)(h:A[i]?=ξ a):rP s A (v.set a (.lst es)) (C.set i es):=by
 refine⟨by rw[cJ];exact K.le,by rw[cJ];exact K.len,λk G o=>?_,λj b ds l g=>?_⟩
 ·rw[aw λe:a=k=>o (by rw[<- e];exact aJ h)];exact K.oth k G o
 ·by_cases e:i=j
  ·subst e;rw[h]at l;cases l;let u:i < ⇑C:=K.len ▸ (ac.mp h).1;rw[ax u]at g;cases g;exact ax (ac.mp (K.at_ i a _ h (ag u))).1
  ·rw[aw e]at g;rw[aw λz=>e ((mh (ac.mp h).1 E).mp (by rw[h,l,z]))];exact K.at_ j b ds l g
theorem rP.cg(K:rP s A v C)(h:C=C'):rP s A v C':=h ▸ K
theorem rP.ext(K:rP s A v C)(x:eZ s0 s)(h:∀a∈A,⇑s0<=a):eZ s0 v:=by
 let l0:=x.le;refine⟨v.drop ⇑s0,d7 λk=>?_⟩;by_cases g:k < ⇑s0
 ·rw[aI g,K.oth k () λz=>by have:=h k z;ext];exact (x.at_ (ag g)).trans (ag g).symm
 ·have:=K.le;rw[bv (),List.getElem?_drop,show ⇑s0+(k-⇑s0)=k by ext]
end
section
variable{t:CT}{b:CS}{Q:su->aY->Prop}{V:D->aY->Prop}
theorem Hr{α β:Type}{m:M α}{f:α->M β}{a:α}(h:m s=.ok a s'):bnd m f s=f a s':=by unfold bnd;rw[h]
theorem L_{α β:Type}{m:M α}{f:α->M β}(h:m s=.exc d s'):bnd m f s=.exc d s':=by unfold bnd;rw[h]
theorem Wr(W:Loc->aY->Prop)(μ:Loc->aY->Nat)(h0:W l s)(Y:∀l s,W l s->wp (t l) (λc E=>if c=θ then lW (b l) (λf o=>match f with
   | .next g=>W g o/\μ g o < μ l s| .cnt g=>W g o/\μ g o < μ l s| .brk g=>Q (.next g) o
   | .ret d=>Q (.ret d) o) V E else Q (.next l) E) s):lW (gL (pP t) b l) Q V s:=by
 let key:∀(k:Nat)(l:Loc)(s:aY),μ l s < k->W l s->∃n,lW (cF (pP t) b n l) Q V s:=by
  intro k
  induction k with
  |zero=>intro l s h;ext
  |succ k ih=>
   intro l s hk w;let⟨c,E,et,I⟩:=Y l s w;let L : ∀n, cF (pP t) b (n+1) l s = (if c = θ then bnd (b l) λf => match f with
     | .next g=>cF (pP t) b n g| .cnt g=>cF (pP t) b n g| .brk g=>ret (.next g)
     | .ret d=>ret (.ret d) else ret (.next l)) E:=λn=>by
    let e:pP t l s=.ok c E:=by unfold pP qT;rw[et]
    exact Hr e
   cases c with|false=>exact⟨1,.ok _ E (by rw[L];rfl) I⟩|true=>
    rw[aH rfl]at I;rcases I with ⟨f,o,J,q⟩|⟨d,o,J,q⟩
    ·let H : ∀n, cF (pP t) b (n+1) l s = (match f with
         | .next g=>cF (pP t) b n g| .cnt g=>cF (pP t) b n g| .brk g=>ret (.next g)
         | .ret d=>ret (.ret d)) o:=λn=>by
       rw[L,aH rfl];exact Hr J
     let go:∀{g},μ g o < μ l s->W g o->(∀n,cF (pP t) b (n+1) l s=cF (pP t) b n g o)->∃n,lW (cF (pP t) b n l) Q V s:=λh w e=>by
      let⟨n,G⟩:=ih _ o () w;refine⟨n+1,?_⟩;rcases G with ⟨a,C,u,q⟩|⟨d,C,u,q⟩
      ·exact .ok a C (by rw[e];exact u) q
      ·exact .exc d C (by rw[e];exact u) q
     cases f with|next g=>exact go q.2 q.1 H|cnt g=>exact go q.2 q.1 H|brk g=>exact⟨1,.ok _ o (by rw[H];rfl) q⟩|ret d=>exact⟨1,.ok _ o (by rw[H];rfl) q⟩
    ·exact⟨1,.exc d o (by rw[L,aH rfl];exact L_ J) q⟩
 let⟨n,G⟩:=key (μ l s+1) l s () h0;let O:cF (pP t) b n l s≠.bad:=by rcases G with ⟨a,C,u,q⟩|⟨d,C,u,q⟩<;>rw[u]<;>exact λz=>(by cases z)
 let ex:∃n,∀r,cF (pP t) b n l s=r->r≠.bad:=⟨n,λr e=>e ▸ O⟩
 let e:gL (pP t) b l s=cF (pP t) b n l s:=by
  unfold gL;rw[dif_pos ex];let U:=eh ex _ rfl;rcases rf n (dm ex) with z|z
  ·exact IL O z
  ·exact (IL U z).symm
 rcases G with ⟨a,C,u,q⟩|⟨d,C,u,q⟩
 ·exact .ok a C (e.trans u) q
 ·exact .exc d C (e.trans u) q
theorem Ql4(W:Loc->aY->Prop)(μ:Loc->aY->Nat)(z:W l s)(u:∀(R:su->aY->Prop)l s,(∀{g h},W g h->μ g h < μ l s->R (.next g) h)->W l s->wp (t l) (λc o=>if c=θ then lW (b l) R V o else Q (.next l) o) s):lW (gL (pP t) b l) Q V s:=
 Wr W μ z λl s w => u (λf h => match f with
   | .next g=>W g h/\μ g h < μ l s| .cnt g=>W g h/\μ g h < μ l s| .brk g=>Q (.next g) h
   | .ret d=>Q (.ret d) h) l s (λa b=>⟨a,b⟩) w
theorem ZI{g:CG}{same:aY->Prop}{xs:List D}(J:Nat->Loc->aY->Prop)(H:∀i l s,J i l s->same s)(h:∀(R:su->aY->Prop)(i:Nat)d l s,(∀{C u},J (i+1) C u->R (.next C) u)->xs[i]?=ξ d->J i l s->wp (g d l) (λG E=>lW (b G) R V E) s) (o:∀l s,J ⇑xs l s->Q (.next l) s) (I:J 0 l s):lW (kM (zG g) b same xs l) Q V s:=
 TY J H (λi d l s hd w=>h _ i d l s (λz=>z) hd w) o I
theorem ZZ{g:List D->M D}{E:CA}{ys:List ut}{i:Nat}{z:CS} (h:wp (E l) (λds G=>lW (g ds) (λd o=>Q (.next l) o) (λd o=>∃y es,d=.exn y es/\y∈ys/\wp (z (l.set i (ξ (.exn y es)))) (λf u=>match f with
  | .next l'=>Q (.next (l'.set i ψ)) u| .ret d=>Q (.ret d) u
  |_=>False) o) G) s):wp (iN (fZ (bj g (qC E))) ys i z l) Q s:=by
 let⟨ds,G,I,h⟩:=h;rcases h with ⟨d,o,C,q⟩|⟨d,o,C,y,es,rfl,J,q⟩
 ·refine⟨_,o,?_,q⟩;unfold iN fZ bj qC qT bnd;dsimp only;rw[I];dsimp only;rw[C];rfl
 ·let⟨f,u,H,q⟩:=q;let e : iN (fZ (bj g (qC E))) ys i z l s = bnd (qT (z (l.set i (ξ (.exn y es))))) (λf => match f with
    | .next l'=>ret (.next (l'.set i ψ))| .ret d=>ret (.ret d)
    |_=>bad) o:=by
   unfold iN fZ bj qC qT;unfold bnd;dsimp only;rw[I];dsimp only;rw[C];dsimp only;rw[aH J]
   try rfl
  cases f with|next l'=>exact⟨_,u,by rw[e];unfold bnd qT;rw[H];rfl,q⟩|ret d=>exact⟨_,u,by rw[e];unfold bnd qT;rw[H];rfl,q⟩|brk l'=>exact q.elim|cnt l'=>exact q.elim
end
end MM
namespace My
open PySem MM
def j8:CS:=(aN (dj (c2 aU (c2 aU (c2 aU (am 0) (am 1)) (am 2)) (aL ↑0))) aZ)
@[irreducible] def jp:List D->M D:=bR 3 j8
def yE:CS:=(aN (dj (c2 aU (c2 aU (c2 aU (am 0) (am 1)) (am 2)) (aL ↑1))) aZ)
@[irreducible] def jP:List D->M D:=bR 3 yE
def yg:CS:=(aN (bM (aT 1) (cD (dW (au (dD bb) bb)))) (aN (hU (fY (c2 aU (am 0) (aL ↑1))) (aT 2) (aN (bM (aT 3) (cD (dW bb))) (aN (hU (fY (am 1)) (aT 4) (aN (fZ (dI (am 3) (c2 dg (am 4) (dD (au (aL ↑0) bb))))) (aN (fZ (dI (am 3) (c2 dg (am 4) (dD (au (aL ↑1) bb))))) aZ))) (aN (bM (aT 1) (am 3)) aZ)))) (aN (dj (am 1)) aZ)))
@[irreducible] def jI:List D->M D:=bR 5 yg
def yF:CS:=(aN (bM (aT 2) (kq mS (db 2 [] (uP (c2 aU (am 0) (aL ↑1)) (am 1)) (ir 2 (cE (aT 0) (cE (aT 1) iG))) cB (c2 aU (c2 aU (am 0) (aL ↑0)) (am 1))))) (aN (dj (dD (au (am 2) (au (kq mS (db 2 [] (fY (c2 aU (am 0) (aL ↑0))) (ir 2 (cE (aT 0) (cE (aT 1) iG))) cB (am 1))) bb)))) aZ))
@[irreducible] def jO:List D->M D:=bR 3 yF
def yB:CS:=(aN (dj (c2 aU (c2 aU (c2 aU (c2 aU (am 0) (aL ↑1)) (am 2)) (aL ↑1)) (c2 aU (c2 aU (am 1) (aL ↑0)) (am 2)))) aZ)
@[irreducible] def jh:List D->M D:=bR 3 yB
def yl:CS:=(aN (dj (c2 dg (c2 dg (kg (am 0) o9 (mK (am 1))) (dD (au (am 2) bb))) (kg (am 0) (mK (c2 dg (am 1) (aL ↑1))) o9))) aZ)
@[irreducible] def jj:List D->M D:=bR 3 yl
def jU:CS:=(aN (dj (yR (cK (c2 oF (c2 aU (am 0) (aL ↑0)) (aL (.str "settle")))) (c2 aU (am 0) (aL ↑1)) (aL .non))) aZ)
@[irreducible] def jk:List D->M D:=bR 1 jU
def yD:CS:=(aN (bM (aT 1) (cD (db 1 [] (fY (am 0)) (aT 0) cB (cD (dW bb))))) (aN (hU (qg (am 0)) (ir 2 (cE (aT 2) (cE (aT 3) iG))) (aN (hU (fY (am 3)) (ir 2 (cE (aT 4) (cE (aT 5) iG))) (aN (fZ (dI (c2 aU (am 1) (am 5)) (am 2))) aZ)) aZ)) (aN (dj (am 1)) aZ)))
@[irreducible] def jR:List D->M D:=bR 6 yD
def yf:CS:=(aN (lY (cK (c2 qz (c2 aU (am 2) (am 1)) (aL .non))) (aN (dj (aL .non)) aZ) aZ) (aN (bM (kN (am 2) (am 1)) (am 3)) (aN (bM (aT 4) (cD (dW (au (am 1) bb)))) (aN (gL (cK (c2 yV (c1 eN (am 4)) (aL ↑0))) (aN (bM (aT 5) (wO (am 4))) (aN (hU (fY (c2 aU (am 0) (am 5))) (aT 6) (aN (lY (cK (c2 Ap (c2 aU (am 2) (am 6)) (aL .non))) (aN (bM (kN (am 2) (am 6)) (am 3)) (aN (fZ (dI (am 4) (am 6))) aZ)) aZ) aZ)) aZ))) aZ))))
@[irreducible] def jH:List D->M D:=bR 7 yf
def yb:CS:=(aN (bM (aT 2) (bj jR (au (am 0) bb))) (aN (bM (aT 3) (cD (db 1 [] (fY (am 0)) (aT 0) cB (aL .non)))) (aN (hU (qg (am 1)) (ir 2 (cE (aT 4) (cE (aT 5) iG))) (aN (lY (n6 (am 5)) (aN (fZ (bj jH (au (am 2) (au (am 4) (au (am 3) (au (aL (.bl θ)) bb)))))) aZ) aZ) aZ)) (aN (dj (cD (db 1 [] (fY (am 3)) (aT 0) cB (c2 qz (am 0) (aL .non))))) aZ))))
@[irreducible] def jy:List D->M D:=bR 6 yb
def jV:CS:=(aN (dj (wT (c2 aU (am 1) (am 2)) (vH (kq wN (db 2 [1] (fY (c2 aU (am 0) (am 2))) (ir 2 (cE (aT 0) (cE (aT 1) iG))) cB (c2 aU (am 2) (am 1))))))) aZ)
@[irreducible] def jl:List D->M D:=bR 3 jV
def yt:CS:=(aN (bM (aT 2) (cD (db 1 [] (wM (rM (am 0) (mK (am 1)) (mK (aL ↑63)))) (aT 0) cB (c2 v_ (am 0) (c2 pX (aL ↑0) (am 0)))))) (aN (bM (aT 3) (c2 dg (aL ↑7919) (am 1))) (aN (hU (fY (am 2)) (aT 4) (aN (bM (aT 3) (c2 qe (c2 dg (c2 nW (am 3) (aL ↑48271)) (c2 qe (am 4) (aL ↑2147483629))) (aL ↑2147483647))) aZ)) (aN (dj (uQ [.str "seed",.str "number",.str "left"] (au (am 3) (au (aL ↑0) (au (cD (xZ (db 1 [] (fY (am 2)) (aT 0) (cK (c2 Jg (am 0) (c2 yJ (aL ↑10) (aL ↑18)))) (am 0)))) bb))))) aZ))))
@[irreducible] def jr:List D->M D:=bR 5 yt
def yp:CS:=(aN (gL (om (cK (c2 oF (c2 aU (am 0) (aL (.str "number"))) (aL ↑0))) (cK (c2 yV (c1 eN (c2 aU (am 0) (aL (.str "left")))) (aL ↑0)))) (aN (bM (kN (am 0) (aL (.str "number"))) (wO (c2 aU (am 0) (aL (.str "left"))))) aZ)) (aN (bM (aT 2) (c2 aU (am 0) (aL (.str "number")))) (aN (lY (cK (c2 yV (am 2) (aL ↑0))) (aN (bM (kN (am 0) (aL (.str "number"))) (c2 tw (am 2) (am 1))) (aN (dj (c2 qe (am 2) (am 1))) aZ)) aZ) (aN (bM (aT 3) (c2 qe (c2 dg (c2 nW (c2 aU (am 0) (aL (.str "seed"))) (aL ↑48271)) (aL ↑7919)) (aL ↑2147483647))) (aN (bM (kN (am 0) (aL (.str "seed"))) (c2 qe (c2 dg (c2 nW (am 3) (aL ↑40692)) (aL ↑104729)) (aL ↑2147483399))) (aN (bM (aT 4) (c2 qe (c2 nW (c2 aU (am 0) (aL (.str "seed"))) (c2 aU (am 0) (aL (.str "seed")))) (aL ↑2147483563))) (aN (dj (c2 qe (c2 dg (c2 nW (c2 qe (c2 nW (am 3) (am 3)) (aL ↑2147483629)) (aL ↑2147483563)) (am 4)) (am 1))) aZ)))))))
@[irreducible] def ja:List D->M D:=bR 5 yp
def yd:CS:=(aN (bM (aT 1) (cD (dW (au (kq mS (db 1 [] (MM.qA (aL ↑1) (c2 dg (am 0) (aL ↑1))) (aT 0) cB (dD (au (am 0) (au (am 0) bb))))) bb)))) (aN (dj (c1 tupleD (c2 dg (am 1) (cD (db 1 [0] (MM.qA (aL ↑1) (c2 dg (am 0) (aL ↑1))) (aT 0) cB (kq mS (oH (dW (au (dD (au (am 0) (au (am 0) bb))) bb)) (am 1)))))))) aZ))
@[irreducible] def jg:List D->M D:=bR 2 yd
def yi:CS:=(aN (dj (kq mS (db 1 [0] (MM.fC (am 0)) (aT 0) cB (c2 dg (dD (au (dD (au (am 0) (au (am 0) bb))) bb)) (kq mS (db 1 [] (MM.fC (am 1)) (aT 0) cB (dD (au (am 0) (au (aL ↑0) bb))))))))) aZ)
@[irreducible] def jw:List D->M D:=bR 1 yi
def yq:CS:=(aN (dj (kq mS (db 1 [0] (MM.fC (am 0)) (aT 0) cB (kq mS (db 1 [0] (MM.fC (am 1)) (aT 0) cB (dD (au (am 0) (au (am 1) bb)))))))) aZ)
@[irreducible] def jx:List D->M D:=bR 1 yq
def yz:CS:=(aN (dj (kq mS (db 1 [0] (MM.fC (am 0)) (aT 0) cB (dD (au (dD (au (c2 qe (c2 dg (am 0) (aL ↑1)) (am 1)) (au (am 0) bb))) bb))))) aZ)
@[irreducible] def jK:List D->M D:=bR 1 yz
def jS:CS:=(aN (bM (aT 1) (c2 dg (aL ↑1) (bj ja (au (am 0) (au (aL ↑3) bb))))) (aN (bM (aT 2) (c2 dg (aL ↑1) (bj ja (au (am 0) (au (aL ↑3) bb))))) (aN (bM (aT 3) (cD (dW bb))) (aN (hU (MM.fC (am 1)) (aT 4) (aN (fZ (dI (am 3) (kq mS (db 1 [0,1] (MM.fC (am 2)) (aT 0) cB (dD (au (bj ja (au (am 1) (au (am 2) bb))) (au (bj ja (au (am 1) (au (aL ↑4) bb))) bb))))))) aZ)) (aN (dj (c1 tupleD (am 3))) aZ)))))
@[irreducible] def jn:List D->M D:=bR 5 jS
def jL:CS:=(aN (bM (aT 1) (c2 dg (aL ↑1) (bj ja (au (am 0) (au (aL ↑3) bb))))) (aN (bM (aT 2) (cD (db 1 [] (MM.fC (am 1)) (aT 0) cB (cD (dW bb))))) (aN (hU (MM.fC (c2 dg (aL ↑1) (bj ja (au (am 0) (au (aL ↑4) bb))))) (aT 3) (aN (bM (aT 4) (c2 oF (bj ja (au (am 0) (au (aL ↑2) bb))) (aL ↑0))) (aN (bM (aT 5) (bj ja (au (am 0) (au (am 1) bb)))) (aN (hU (MM.fC (am 1)) (aT 6) (aN (fZ (dI (c2 aU (am 2) (am 6)) (iP (dW (au (dD (au (am 5) (au (aL ↑0) bb))) (au (dD (au (am 6) (au (bj ja (au (am 0) (au (aL ↑4) bb))) bb))) bb))) (c1 intD (am 4))))) aZ)) aZ)))) (aN (dj (kq mS (db 1 [] (fY (am 2)) (aT 0) cB (c1 tupleD (am 0))))) aZ))))
@[irreducible] def jf:List D->M D:=bR 7 jL
def yh:CS:=(aN (bM (aT 2) (c2 aU (am 1) (bj ja (au (am 0) (au (c1 eN (am 1)) bb))))) (aN (lY (cK (c2 oF (am 2) (aL (.str "first")))) (aN (dj (bj jg (au (c2 dg (aL ↑1) (bj ja (au (am 0) (au (aL ↑3) bb)))) bb))) aZ) aZ) (aN (lY (cK (c2 oF (am 2) (aL (.str "plain")))) (aN (dj (bj jw (au (c2 dg (aL ↑1) (bj ja (au (am 0) (au (aL ↑3) bb)))) bb))) aZ) aZ) (aN (lY (cK (c2 oF (am 2) (aL (.str "swap")))) (aN (dj (bj jx (au (c2 dg (aL ↑1) (bj ja (au (am 0) (au (aL ↑3) bb)))) bb))) aZ) aZ) (aN (lY (cK (c2 oF (am 2) (aL (.str "add")))) (aN (dj (bj jK (au (c2 dg (aL ↑1) (bj ja (au (am 0) (au (aL ↑4) bb)))) bb))) aZ) aZ) (aN (lY (cK (c2 oF (am 2) (aL (.str "laid")))) (aN (dj (bj jf (au (am 0) bb))) aZ) aZ) (aN (dj (bj jn (au (am 0) bb))) aZ)))))))
@[irreducible] def jt:List D->M D:=bR 3 yh
def jX:CS:=(aN (dj (c2 dg (aL ↑1) (kq vB (db 1 [1] (fY (am 0)) (aT 0) cB (c2 aU (c2 aU (am 0) (am 1)) (aL ↑1)))))) aZ)
@[irreducible] def je:List D->M D:=bR 2 jX
def ym:CS:=(aN (bM (aT 3) (c2 nW (bj ja (au (am 0) (au (c2 pX (am 2) (aL ↑1)) bb))) (c1 intD (c2 yV (c1 eN (am 1)) (aL ↑0))))) (aN (bM (aT 4) (bj ja (au (am 0) (au (aL ↑4) bb)))) (aN (bM (aT 5) (cD (dW bb))) (aN (hU (MM.fC (am 3)) (aT 6) (aN (bM (aT 7) (bj ja (au (am 0) (au (c1 eN (am 1)) bb)))) (aN (bM (aT 8) (bj ja (au (am 0) (au (c1 eN (c2 aU (c2 aU (c2 aU (am 1) (am 7)) (aL ↑0)) (aL ↑0))) bb)))) (aN (bM (aT 9) (iP (dW (au (c2 dg (am 6) (aL ↑1)) (au (c2 dg (am 6) (aL ↑1)) (au (c2 dg (am 6) (aL ↑1)) (au (aL ↑0) bb))))) (am 4))) (aN (bM (aT 10) (cD (dW bb))) (aN (hU (MM.fC (bj je (au (c2 aU (c2 aU (am 1) (am 7)) (aL ↑0)) (au (am 8) bb)))) (aT 11) (aN (fZ (dI (am 10) (c2 dg (am 9) (bj ja (au (am 0) (au (c2 pX (c2 dg (am 3) (aL ↑2)) (am 9)) bb)))))) aZ)) (aN (fZ (dI (am 5) (dD (au (aL (.str "do")) (au (am 7) (au (am 8) (au (c1 tupleD (am 10)) bb))))))) aZ))))))) (aN (bM (aT 12) (iP (dW (au (cD (dW (au (dD (au (aL (.str "settle")) (au (aL ↑0) bb))) (au (dD (au (aL (.str "settle")) (au (aL ↑1) bb))) bb)))) (au (cD (dW (au (dD (au (aL (.str "settle")) (au (aL ↑1) bb))) (au (dD (au (aL (.str "settle")) (au (aL ↑0) bb))) bb)))) bb))) (c1 intD (c2 oF (bj ja (au (am 0) (au (aL ↑6) bb))) (aL ↑1))))) (aN (bM (aT 5) (c2 dg (am 5) (am 12))) (aN (bM (aT 13) (iP (dW (au (dD (au (aL ↑0) (au (aL ↑0) bb))) (au (dD (au (aL ↑0) (au (c2 wk (aL ↑1) (am 3)) bb))) (au (dD (au (bj ja (au (am 0) (au (c2 dg (am 3) (aL ↑1)) bb))) (au (bj ja (au (am 0) (au (c2 dg (am 3) (aL ↑1)) bb))) bb))) bb)))) (bj ja (au (am 0) (au (aL ↑3) bb))))) (aN (lY (cK (c2 oF (bj ja (au (am 0) (au (aL ↑12) bb))) (aL ↑1))) (aN (bM (aT 13) (dD (au (bj ja (au (am 0) (au (c2 dg (am 3) (aL ↑2)) bb))) (au (bj ja (au (am 0) (au (c2 dg (am 3) (aL ↑2)) bb))) bb)))) aZ) aZ) (aN (dj (dD (au (am 13) (au (c1 tupleD (am 5)) bb)))) aZ)))))))))
@[irreducible] def jM:List D->M D:=bR 14 ym
def ye:CS:=(aN (bM (aT 3) (cD (dW bb))) (aN (bM (aT 4) (iP (dW (au (aL ↑36) (au (aL ↑64) bb))) (c2 pX (am 1) (aL ↑2)))) (aN (hU (MM.fC (bj ja (au (am 0) (au (c2 dg (aL ↑3) (c2 nW (aL ↑2) (c1 intD (c2 oF (bj ja (au (am 0) (au (aL ↑4) bb))) (aL ↑0))))) bb)))) (aT 5) (aN (bM (aT 6) (bj jt (au (am 0) (au (am 2) bb)))) (aN (lY (cK (c2 Hc (c2 nW (am 4) (c1 eN (am 6))) (aL ↑300))) (aN (bM (aT 4) (c2 nW (am 4) (c1 eN (am 6)))) (aN (fZ (dI (am 3) (dD (au (am 6) (au (bj ja (au (am 0) (au (c1 eN (am 6)) bb))) bb))))) aZ)) aZ) aZ))) (aN (bM (aT 7) (cD (db 1 [0,1,3] (MM.fC (am 1)) (aT 0) cB (bj jM (au (am 1) (au (am 3) (au (iP (dW (au (aL ↑6) (au (aL ↑4) bb))) (c2 pX (am 2) (aL ↑2))) bb))))))) (aN (lY (cK (c2 oF (bj ja (au (am 0) (au (aL ↑3) bb))) (aL ↑0))) (aN (bM (aT 7) (cD (oH (dW (au (c2 aU (am 7) (aL ↑0)) bb)) (am 1)))) aZ) aZ) (aN (dj (dD (au (c1 tupleD (am 3)) (au (c1 tupleD (am 7)) bb)))) aZ))))))
@[irreducible] def jv:List D->M D:=bR 8 ye
def yw:CS:=(aN (dj (cD (db 1 [0,1] (MM.fC (c1 eN (c2 aU (am 0) (aL ↑1)))) (aT 0) (cK (c2 oF (c2 aU (c2 aU (c2 aU (c2 aU (c2 aU (am 1) (aL ↑1)) (am 0)) (aL ↑1)) (c2 aU (c2 aU (am 2) (aL ↑0)) (am 0))) (aL ↑0)) (aL (.str "do")))) (am 0)))) aZ)
@[irreducible] def jc:List D->M D:=bR 2 yw
def jQ:CS:=(aN (bM (aT 3) (c2 aU (c2 aU (c2 aU (c2 aU (am 0) (aL ↑1)) (am 2)) (aL ↑1)) (c2 aU (c2 aU (am 1) (aL ↑0)) (am 2)))) (aN (lY (cK (c2 oF (c2 aU (am 3) (aL ↑0)) (aL (.str "settle")))) (aN (dj (am 1)) aZ) aZ) (aN (bM (ir 4 (cE (aT 4) (cE (aT 5) (cE (aT 6) (cE (aT 7) iG))))) (am 3)) (aN (bM (ir 2 (cE (aT 8) (cE (aT 9) iG))) (c2 aU (c2 aU (c2 aU (c2 aU (c2 aU (am 0) (aL ↑0)) (am 5)) (aL ↑0)) (c2 aU (c2 aU (am 1) (aL ↑1)) (am 5))) (am 6))) (aN (bM (aT 10) (c2 dg (c2 dg (kg (c2 aU (am 1) (aL ↑0)) o9 (mK (am 2))) (dD (au (c2 aU (am 7) (am 9)) bb))) (kg (c2 aU (am 1) (aL ↑0)) (mK (c2 dg (am 2) (aL ↑1))) o9))) (aN (dj (dD (au (am 10) (au (c2 dg (c2 dg (kg (c2 aU (am 1) (aL ↑1)) o9 (mK (am 5))) (dD (au (am 8) bb))) (kg (c2 aU (am 1) (aL ↑1)) (mK (c2 dg (am 5) (aL ↑1))) o9)) bb)))) aZ))))))
@[irreducible] def jb:List D->M D:=bR 11 jQ
def yj:CS:=(aN (bM (aT 2) (kq mS (db 1 [0,1] (MM.fC (c1 eN (am 1))) (aT 0) cB (c2 aU (c2 aU (c2 aU (c2 aU (am 1) (aL ↑1)) (am 0)) (aL ↑0)) (c2 aU (am 2) (am 0)))))) (aN (dj (dD (au (am 2) (au (kq mS (db 2 [] (fY (c2 aU (am 0) (aL ↑0))) (ir 2 (cE (aT 0) (cE (aT 1) iG))) cB (am 1))) bb)))) aZ))
@[irreducible] def ju:List D->M D:=bR 3 yj
def jZ:CS:=(aN (bM (aT 1) (cD (dW (au (dD bb) bb)))) (aN (hU (fY (c2 aU (am 0) (aL ↑1))) (aT 2) (aN (bM (aT 1) (c2 dg (cD (db 1 [] (fY (am 1)) (aT 0) cB (c2 dg (am 0) (dD (au (aL ↑0) bb))))) (cD (db 1 [] (fY (am 1)) (aT 0) cB (c2 dg (am 0) (dD (au (aL ↑1) bb))))))) aZ)) (aN (dj (c1 o_ (am 1))) aZ)))
@[irreducible] def jF:List D->M D:=bR 3 jZ
def yo:CS:=(aN (bM (aT 2) (rK θ)) (aN (bM (aT 3) (cD (dW bb))) (aN (hU (fY (am 1)) (aT 4) (aN (lY (cK (c2 nS (am 4) (am 2))) (aN (bM (kN (am 2) (am 4)) (dD bb)) (aN (fZ (dI (am 3) (am 4))) aZ)) aZ) aZ)) (aN (bM (aT 5) (aL ↑0)) (aN (gL (cK (c2 Cd (am 5) (c1 eN (am 3)))) (aN (bM (aT 6) (c2 aU (am 3) (am 5))) (aN (bM (aT 5) (c2 dg (am 5) (aL ↑1))) (aN (hU (fY (bj jc (au (am 0) (au (am 6) bb)))) (aT 7) (aN (bM (aT 8) (bj jb (au (am 0) (au (am 6) (au (am 7) bb))))) (aN (lY (cK (c2 nS (am 8) (am 2))) (aN (bM (kN (am 2) (am 8)) (c2 dg (c2 aU (am 2) (am 6)) (dD (au (am 7) bb)))) (aN (fZ (dI (am 3) (am 8))) aZ)) aZ) aZ))) aZ)))) (aN (dj (dD (au (am 3) (au (am 2) bb)))) aZ))))))
@[irreducible] def jN:List D->M D:=bR 9 yo
def yc:CS:=(aN (dj (c2 aU (bj jN (au (am 0) (au (cD (db 1 [0] (fY (bj jF (au (am 0) bb))) (aT 0) cB (bj ju (au (am 1) (au (am 0) bb))))) bb))) (aL ↑0))) aZ)
@[irreducible] def jo:List D->M D:=bR 1 yc
def j9:CS:=(aN (bM (aT 2) (cD (dW bb))) (aN (hU (MM.fC (c1 eN (c2 aU (am 0) (aL ↑1)))) (aT 3) (aN (bM (aT 4) (c2 aU (c2 aU (c2 aU (c2 aU (am 0) (aL ↑1)) (am 3)) (aL ↑1)) (c2 aU (c2 aU (am 1) (aL ↑0)) (am 3)))) (aN (lY (om (cK (c2 oF (c2 aU (am 4) (aL ↑0)) (aL (.str "settle")))) (cK (c2 nS (c2 aU (am 4) (aL ↑1)) (am 2)))) (aN (fZ (dI (am 2) (c2 aU (am 4) (aL ↑1)))) aZ) aZ) aZ))) (aN (dj (c1 (uV iO) (am 2))) aZ)))
@[irreducible] def jB:List D->M D:=bR 5 j9
def yx:CS:=(aN (bM (aT 2) (kq mB (db 1 [0] (fY (am 1)) (aT 0) cB (dD (au (am 0) (au (cD (db 1 [0,1] (fY (bj jc (au (am 1) (au (am 0) bb)))) (aT 0) cB (bj jb (au (am 2) (au (am 1) (au (am 0) bb)))))) bb)))))) (aN (bM (aT 3) (kq mB (db 1 [0] (fY (am 1)) (aT 0) cB (dD (au (am 0) (au (bj jB (au (am 1) (au (am 0) bb))) bb)))))) (aN (bM (aT 4) (aL (.bl θ))) (aN (gL (n6 (am 4)) (aN (bM (aT 4) (aL (.bl ω))) (aN (hU (wM (uI (am 1))) (aT 5) (aN (bM (aT 6) (c1 tf (c2 aU (am 3) (am 5)))) (aN (hU (fY (c2 aU (am 2) (am 5))) (aT 7) (aN (bM (aT 6) (c2 dg (am 6) (cD (db 1 [6] (fY (c2 aU (am 3) (am 7))) (aT 0) (cK (c2 nS (am 0) (am 1))) (am 0))))) aZ)) (aN (lY (cK (c2 yV (c1 eN (am 6)) (c1 eN (c2 aU (am 3) (am 5))))) (aN (bM (kN (am 3) (am 5)) (c1 (uV iO) (am 6))) (aN (bM (aT 4) (aL (.bl θ))) aZ)) aZ) aZ)))) aZ))) (aN (dj (am 3)) aZ)))))
@[irreducible] def jz:List D->M D:=bR 8 yx
def yv:CS:=(aN (bM (aT 2) (cD (dW (au (dD (au (bj jg (au (aL ↑2) bb)) (au (aL ↑0) bb))) bb)))) (aN (bM (aT 3) (iP (dW (au (aL ↑6) (au (aL ↑2) bb))) (c2 pX (am 1) (aL ↑2)))) (aN (hU (MM.fC (bj ja (au (am 0) (au (aL ↑3) bb)))) (aT 4) (aN (bM (aT 5) (bj jt (au (am 0) (au (cD (dW (au (aL (.str "first")) (au (aL (.str "plain")) (au (aL (.str "swap")) (au (aL (.str "add")) (au (aL (.str "any")) (au (aL (.str "laid")) bb)))))))) bb)))) (aN (lY (cK (c2 Hc (c1 eN (am 5)) (am 3))) (aN (bM (aT 3) (c2 tw (am 3) (c1 eN (am 5)))) (aN (fZ (dI (am 2) (dD (au (am 5) (au (bj ja (au (am 0) (au (c1 eN (am 5)) bb))) bb))))) aZ)) aZ) aZ))) (aN (bM (aT 6) (cD (dW bb))) (aN (hU (MM.fC (am 1)) (aT 4) (aN (bM (aT 7) (c2 nW (bj ja (au (am 0) (au (c2 pX (aL ↑3) (c1 intD (c2 oF (am 1) (aL ↑3)))) bb))) (c1 intD (c2 yV (c1 eN (am 2)) (aL ↑1))))) (aN (bM (aT 8) (cD (dW bb))) (aN (hU (MM.fC (aL ↑2)) (aT 9) (aN (hU (MM.fC (am 7)) (aT 10) (aN (bM (aT 11) (c2 dg (aL ↑1) (bj ja (au (am 0) (au (c2 pX (c1 eN (am 2)) (aL ↑1)) bb))))) (aN (bM (aT 12) (bj ja (au (am 0) (au (c1 eN (c2 aU (c2 aU (c2 aU (am 2) (am 11)) (aL ↑0)) (aL ↑0))) bb)))) (aN (bM (aT 13) (c2 uH (dD (au (c2 dg (c1 eN (am 8)) (aL ↑1)) bb)) (bj je (au (c2 aU (c2 aU (am 2) (am 11)) (aL ↑0)) (au (am 12) bb))))) (aN (fZ (dI (am 8) (dD (au (aL (.str "do")) (au (am 11) (au (am 12) (au (am 13) bb))))))) aZ))))) (aN (bM (aT 14) (c2 dg (c2 nW (aL ↑2) (am 7)) (aL ↑2))) (aN (fZ (dI (am 8) (dD (au (aL (.str "do")) (au (aL ↑0) (au (am 9) (au (dD (au (am 14) (au (am 14) (au (c2 dg (am 14) (aL ↑1)) bb)))) bb))))))) aZ)))) (aN (bM (aT 8) (c2 dg (am 8) (cD (dW (au (dD (au (aL (.str "settle")) (au (aL ↑0) bb))) (au (dD (au (aL (.str "settle")) (au (aL ↑1) bb))) bb)))))) (aN (fZ (dI (am 6) (dD (au (dD (au (aL ↑0) (au (c2 dg (am 7) (aL ↑1)) bb))) (au (c1 tupleD (am 8)) bb))))) aZ)))))) (aN (dj (dD (au (c1 tupleD (am 2)) (au (c1 tupleD (am 6)) bb)))) aZ))))))
@[irreducible] def jC:List D->M D:=bR 15 yv
def yC:CS:=(aN (bM (aT 2) (bj jz (au (am 0) (au (am 1) bb)))) (aN (bM (aT 3) (cD (dW bb))) (aN (hU (fY (am 1)) (aT 4) (aN (bM (aT 5) (cD (db 1 [0,2,4] (fY (bj jc (au (am 0) (au (am 4) bb)))) (aT 0) cB (c2 aU (am 2) (bj jb (au (am 1) (au (am 3) (au (am 0) bb)))))))) (aN (lY (om (cK (c2 oF (c1 eN (c2 aU (am 2) (am 4))) (aL ↑2))) (cK (c2 oF (cD (db 1 [] (fY (am 5)) (aT 0) (cK (c2 oF (c1 eN (am 0)) (aL ↑2))) (am 0))) (cD (dW bb))))) (aN (fZ (dI (am 3) (am 4))) aZ) aZ) aZ))) (aN (dj (am 3)) aZ))))
@[irreducible] def jJ:List D->M D:=bR 6 yC
def yk:CS:=(aN (bM (aT 3) (bj jh (au (am 0) (au (am 1) (au (am 2) bb))))) (aN (lY (cK (c2 oF (c2 aU (am 3) (aL ↑0)) (aL (.str "settle")))) (aN (dj (am 1)) aZ) aZ) (aN (bM (aT 4) (c2 aU (am 3) (aL ↑1))) (aN (bM (aT 5) (c2 aU (am 3) (aL ↑2))) (aN (bM (aT 6) (c2 aU (c2 aU (c2 aU (am 0) (aL ↑0)) (am 4)) (aL ↑0))) (aN (bM (aT 7) (c2 aU (c2 aU (am 1) (aL ↑1)) (am 4))) (aN (bM (aT 8) (c2 aU (c2 aU (am 3) (aL ↑3)) (bj jP (au (am 6) (au (am 7) (au (am 5) bb)))))) (aN (dj (dD (au (bj jj (au (c2 aU (am 1) (aL ↑0)) (au (am 2) (au (am 8) bb)))) (au (bj jj (au (c2 aU (am 1) (aL ↑1)) (au (am 4) (au (bj jp (au (am 6) (au (am 7) (au (am 5) bb)))) bb)))) bb)))) aZ))))))))
@[irreducible] def jG:List D->M D:=bR 9 yk
def yA:CS:=(aN (dj (kq mS (db 1 [0,1] (MM.fC (c1 eN (c2 aU (am 0) (aL ↑1)))) (aT 0) cB (bj jk (au (bj jh (au (am 1) (au (am 2) (au (am 0) bb)))) bb))))) aZ)
@[irreducible] def ji:List D->M D:=bR 2 yA
def yG:CS:=(aN (dj (cD (db 2 [] (uO (bj ji (au (am 0) (au (am 1) bb)))) (ir 2 (cE (aT 0) (cE (aT 1) iG))) (cK (c2 Ap (am 1) (aL .non))) (am 0)))) aZ)
@[irreducible] def jY:List D->M D:=bR 2 yG
def j6:CS:=(aN (bM (aT 4) (cD (dW bb))) (aN (hU (fY (bj jY (au (am 0) (au (am 1) bb)))) (aT 5) (aN (bM (aT 6) (bj jG (au (am 0) (au (am 1) (au (am 5) bb))))) (aN (lY (cK (c2 nS (am 6) (am 3))) (aN (bM (kN (am 3) (am 6)) (c1 eN (am 2))) (aN (fZ (dI (am 2) (am 6))) aZ)) aZ) (aN (fZ (dI (am 4) (dD (au (am 5) (au (c2 aU (am 3) (am 6)) bb))))) aZ)))) (aN (dj (am 4)) aZ)))
@[irreducible] def jD:List D->M D:=bR 7 j6
def j7:CS:=(aN (dj (cD (db 1 [0,2] (fY (am 1)) (aT 0) cB (c2 Ge (am 2) (bj ji (au (am 1) (au (am 0) bb))))))) aZ)
@[irreducible] def jE:List D->M D:=bR 3 j7
def jT:CS:=(aN (bM (aT 2) (cD (db 1 [0,1] (fY (dD (au (aL ↑0) (au (aL ↑1) bb)))) (aT 0) cB (bj jy (au (c2 aU (am 2) (aL ↑1)) (au (bj jE (au (am 1) (au (c2 aU (am 2) (aL ↑0)) (au (am 0) bb)))) bb)))))) (aN (dj (cD (db 2 [] (uE (c2 aU (am 2) (aL ↑0)) (c2 aU (am 2) (aL ↑1))) (ir 2 (cE (aT 0) (cE (aT 1) iG))) cB (wT (am 0) (am 1))))) aZ))
@[irreducible] def js:List D->M D:=bR 3 jT
def j4:CS:=(aN (xE (bM (aT 3) (rK θ))) (aN (hU (Jh (fY (am 1))) (zG (aT 4)) (aN (xE (fZ (pi (am 3) (am 4) (c1 eN (am 3))))) aZ)) (aN (xE (bM (aT 5) (c1 qj (am 3)))) (aN (xE (bM (aT 6) (cD (dW bb)))) (aN (gL (pP (cK (c2 Cd (c1 eN (am 6)) (c1 eN (am 5))))) (aN (lY (pP (om (cK (c2 qz (am 2) (aL .non))) (cK (c2 yV (c1 eN (am 5)) (am 2))))) (aN (tT "TooMany" "most" (am 2)) aZ) aZ) (aN (xE (fZ (dI (am 6) (bj jD (au (am 0) (au (c2 aU (am 5) (c1 eN (am 6))) (au (am 5) (au (am 3) bb)))))))) aZ))) (aN (xE (dj (dD (au (am 5) (au (am 6) bb))))) aZ))))))
@[irreducible] def jq:List D->M D:=bR 7 j4
def yr:CS:=(aN (xE (bM (aT 2) (cD (db 1 [0] (fY (bj jI (au (am 0) bb))) (aT 0) cB (bj jO (au (am 1) (au (am 0) bb))))))) (aN (dj (bj jq (qC (au (am 0) (au (am 2) (au (am 1) bb)))))) aZ))
@[irreducible] def jA:List D->M D:=bR 3 yr
def yu:CS:=(aN (bM (aT 2) (bj jA (qC (au (am 0) (au (am 1) bb))))) (aN (xE (bM (aT 3) (bj js (au (am 0) (au (am 2) bb))))) (aN (xE (dj (cD (db 1 [2,3] (MM.fC (c1 eN (am 3))) (aT 0) (n6 (bj jl (au (c2 aU (am 1) (aL ↑1)) (au (am 2) (au (am 0) bb))))) (c2 aU (c2 aU (am 1) (aL ↑0)) (am 0)))))) aZ)))
@[irreducible] def jd:List D->M D:=bR 4 yu
def jW:CS:=(aN (bM (aT 2) (aL .non)) (aN (iN (fZ (bj jd (qC (au (am 0) (au (am 1) bb))))) ["TooMany"] 3 (aN (bM (aT 2) (am 3)) aZ)) (aN (lY (tR (pe (n6 (c1 (rL ["TooMany"] λx=>x == "TooMany" || ("PactError":Str) == "TooMany") (am 2)))) (tR (pe (n6 (c1 (rL ["TooMany"] λ_=>θ) (am 2)))) (cK (c2 xT (c1 (uS "TooMany" "most") (am 2)) (am 1))))) (aN (dj (aL (.bl ω))) aZ) aZ) (aN (dj (vH (c1 (rL ["TooMany"] λx=>["NoHouse","NoMark","NoRow","NoTable","NoText","NotGood","NotMeek"].any λt=>x == t||("PactError":Str) == t) (am 2)))) aZ))))
@[irreducible] def jm:List D->M D:=bR 4 jW
def yH:CS:=(aN (bM (aT 1) (bj jr (au (am 0) (au (aL ↑0) bb)))) (aN (bM (aT 2) (bj jv (au (am 1) (au (c2 dg (aL ↑2) (bj ja (au (am 1) (au (aL ↑2) bb)))) (au (cD (dW (au (aL (.str "first")) (au (aL (.str "plain")) (au (aL (.str "swap")) (au (aL (.str "add")) (au (aL (.str "any")) (au (aL (.str "laid")) bb)))))))) bb))))) (aN (bM (aT 3) (c2 oF (bj ja (au (am 1) (au (aL ↑2) bb))) (aL ↑0))) (aN (lY (n6 (am 3)) (aN (bM (aT 2) (bj jC (au (am 1) (au (c2 dg (aL ↑2) (bj ja (au (am 1) (au (aL ↑2) bb)))) bb)))) aZ) aZ) (aN (bM (aT 4) (bj jo (au (am 2) bb))) (aN (bM (aT 5) (bj jJ (au (am 2) (au (am 4) bb)))) (aN (lY (om (n6 (am 3)) (cK (c2 oF (c1 eN (am 5)) (aL ↑0)))) (aN (dj (aL (.bl ω))) aZ) aZ) (aN (bM (aT 6) (p9 jd (au (am 2) bb) ↑500)) (aN (lY (tR (pe (n6 (c1 (kc ["list"]) (am 6)))) (cK (c2 xT (am 6) (am 5)))) (aN (dj (aL (.bl ω))) aZ) aZ) (aN (fZ (pV (am 6))) (aN (lY (cK (c2 xT (bj jd (au (am 2) (au (c1 eN (am 4)) bb))) (am 5))) (aN (dj (aL (.bl ω))) aZ) aZ) (aN (dj (DX (c2 Cd (c1 eN (am 4)) (aL ↑2)) (bj jm (au (am 2) (au (c2 pX (c1 eN (am 4)) (aL ↑1)) bb))))) aZ))))))))))))
@[irreducible] def yn:List D->M D:=bR 7 yH
open PySem.Spec PyProof.Rows L2
noncomputable def top(i:Nat):Stmt:=kn.main.body.getD i (.Pass ⟨0,0,0,0⟩)
noncomputable def Lk:Stmt->Stmt
 | .ClassDef _ _ _ (s::_) _ _ _ _ _ _ _=>s|s=>s
noncomputable abbrev yy:List Str:=["NoHouse","NoMark","NoRow","NoTable","NoText","NotGood","NotMeek","TooMany","PactError"]
set_option genInjectivity false in
structure Txt(K:aq)(mg:Str->Option ae):Prop where
 f0:FnAt K mg "next_state" (top 11)
 f1:FnAt K mg "answer" (top 12)
 f2:FnAt K mg "inputs_of" (top 14)
 f3:FnAt K mg "begin" (top 16)
 f4:FnAt K mg "line_at" (top 17)
 f5:FnAt K mg "replaced" (top 19)
 f6:FnAt K mg "value_at" (top 21)
 f7:FnAt K mg "turned" (top 28)
 f8:FnAt K mg "mark_from" (top 29)
 f9:FnAt K mg "leading_to" (top 30)
 f10:FnAt K mg "is_critical" (top 35)
 f11:FnAt K mg "_law_deal" (top 37)
 f12:FnAt K mg "_law_draw" (top 38)
 f13:FnAt K mg "_law_first" (top 39)
 f14:FnAt K mg "_law_plain" (top 40)
 f15:FnAt K mg "_law_swap" (top 41)
 f16:FnAt K mg "_law_add" (top 42)
 f17:FnAt K mg "_law_any_table" (top 43)
 f18:FnAt K mg "_law_plain_table" (top 44)
 f19:FnAt K mg "_law_table" (top 45)
 f20:FnAt K mg "_law_answers" (top 46)
 f21:FnAt K mg "_law_hand" (top 47)
 f22:FnAt K mg "_law_house" (top 48)
 f23:FnAt K mg "_law_free" (top 49)
 f24:FnAt K mg "_law_behind" (top 50)
 f25:FnAt K mg "_law_begin" (top 51)
 f26:FnAt K mg "_law_inputs" (top 52)
 f27:FnAt K mg "_law_from" (top 53)
 f28:FnAt K mg "_law_stands" (top 54)
 f29:FnAt K mg "_law_values" (top 55)
 f30:FnAt K mg "_law_ends" (top 56)
 f31:FnAt K mg "_law_pact" (top 57)
 f32:FnAt K mg "_law_due" (top 58)
 f33:FnAt K mg "behind" (top 18)
 f34:FnAt K mg "settled" (top 20)
 f35:FnAt K mg "free" (top 22)
 f36:FnAt K mg "steps_from" (top 26)
 f37:FnAt K mg "settled_on" (top 32)
 f38:FnAt K mg "open_numbers" (top 34)
 f39:FnAt K mg "graph_from" (top 25)
 f40:FnAt K mg "graph_of" (top 24)
 f41:yW K mg "critical" (top 33)
 f42:FnAt K mg "_law_refused" (top 59)
 f43:FnAt K mg "law" (top 60)
 z:xF mg ["ValueError","any","dict","enumerate","int","isinstance","len","list","max","min","range","reversed","sorted","tuple","zip"]
 c:zO K mg []
 x:XT K mg "TooMany" "most" "TooMany.__init__" (Lk (top 5))
 o:BE K mg yy
section
variable{K:aq}
def QF:vz:=sF .Lt Cd (λ_=>Qev)
def Tc:vz:=sF .LtE Hc (λ_=>T_)
def P5:vz:=sF .Gt yV (λ_=>V_)
def QA:vz:=sF .GtE Jg (λ_=>YR)
def Pr:vz:=sF .Eq oF (λh=>Yo h)
def P8:vz:=sF .NotEq xT (λh=>PN h)
def R0:vz:=sF .Is Ap (λ_=>ZV)
def PV:vz:=sF .IsNot qz (λ_=>WK)
def Q9:vz:=sF .In Ge (λh=>VZ h)
def PX:vz:=sF .NotIn nS (λh=>Qgk h)
def RR:nA:=⟨[J3,Le,GV,B4,Az,MM.Fw,NE,BZ,HD,FL,FD,CK,Ga,yN,Ai,LS,Lc,Cn,Ic,GS,Gw,x_,AN,C2,Nb,Ad,Ac,FZ,D2 .Add dg (λ_=>WQ),D2 .Sub pX (λ_=>YW),D2 .Mult nW (λ_=>Qer),D2 .FloorDiv tw (λ_=>Qes),D2 .Mod qe (λ_=>W0),D2 .Pow yJ (λ_=>UH),QF.e,Tc.e,P5.e,QA.e,Pr.e,P8.e,R0.e,PV.e,Q9.e,PX.e,NF,N9,J4,F5,EG],[JS,G6,Cz,ET,B2,JX],[QF.t,Tc.t,P5.t,QA.t,Pr.t,P8.t,R0.t,PV.t,Q9.t,PX.t,Dc,CH,tVl],[AA,Am,Ah,Cg,C4 ω,CU θ,E4,FX],[ZT,Hi,HL],[Na,FO,NV,EM,FR,AR,Dv,C_,HQ,HI]⟩
noncomputable abbrev hh:List (Nat×Nat×Nat):=[(47,53,7),(62,11,1),(62,41,1),(74,14,2),(77,13,5),(96,22,16),(114,24,16),(226,17,1),(226,77,1),(227,24,1),(227,65,1),(237,16,2),(261,11,9),(263,17,21),(264,17,21),(273,41,9),(292,29,14)]
noncomputable def OB:List (Str×RF):=[]
theorem gk0(T:Txt K mg):ck P w K mg base OB:=Z8
noncomputable def SN:List (Str×RF):=[]
theorem Zk(T:Txt K mg):ny P w K mg base SN:=λ_ _ h=>(by cases h)
theorem xr(T:Txt K mg):XR P w K mg base "TooMany" "most":=U3 (n1:="self") (n2:="most") T.x rfl (by nofun) rfl (by nofun) (by nofun) (by nofun) (by nofun) (λ_ _ _ _ _ _=>Cv λ_ _=>rfl)
def Pd:List (Str×RF):=qE "next_state" (top 11) 3 0 jp OB
theorem X7(T:Txt K mg):ck P w K mg base Pd:=nB RR hh 3 T.f0 (gk0 T) T.z T.c
def QI:List (Str×RF):=qE "answer" (top 12) 3 0 jP Pd
theorem gk2(T:Txt K mg):ck P w K mg base QI:=nB RR hh 3 T.f1 (X7 T) T.z T.c
def RH:List (Str×RF):=qE "inputs_of" (top 14) 1 0 jI QI
theorem gk3(T:Txt K mg):ck P w K mg base RH:=nB RR hh 1 T.f2 (gk2 T) T.z T.c
def OZ:List (Str×RF):=qE "begin" (top 16) 2 0 jO RH
theorem T4(T:Txt K mg):ck P w K mg base OZ:=nB RR hh 2 T.f3 (gk3 T) T.z T.c
def Rb:List (Str×RF):=qE "line_at" (top 17) 3 0 jh OZ
theorem Zh(T:Txt K mg):ck P w K mg base Rb:=nB RR hh 3 T.f4 (T4 T) T.z T.c
def Of:List (Str×RF):=qE "replaced" (top 19) 3 0 jj Rb
theorem gk6(T:Txt K mg):ck P w K mg base Of:=nB RR hh 3 T.f5 (Zh T) T.z T.c
def QJ:List (Str×RF):=qE "value_at" (top 21) 1 0 jk Of
theorem T1(T:Txt K mg):ck P w K mg base QJ:=nB RR hh 1 T.f6 (gk6 T) T.z T.c
def L7:List (Str×RF):=("turned",⟨1,1,["steps"],ω,jR⟩)::QJ
theorem U7(T:Txt K mg):ck P w K mg base L7:=by unfold L7 jR;exact G5 RR (r:=["back","here","ways","hand","there"]) (H:=hh) T.f7 (by nofun) (λ_ _ _ _ _ _=>Hu λ_=>rfl) (λz=>(by cases z)) (by kernel_rfl) (T1 T) T.z T.c
def Q0:List (Str×RF):=qE "mark_from" (top 29) 4 0 jH L7
theorem Yi(T:Txt K mg):ck P w K mg base Q0:=nB RR hh 4 T.f8 (U7 T) T.z T.c
def Hx:List (Str×RF):=qE "leading_to" (top 30) 2 1 jy Q0
theorem K7(T:Txt K mg):ck P w K mg base Hx:=nB RR hh 2 T.f9 (Yi T) T.z T.c
def Ia:List (Str×RF):=qE "is_critical" (top 35) 3 0 jl Hx
theorem KL(T:Txt K mg):ck P w K mg base Ia:=nB RR hh 3 T.f10 (K7 T) T.z T.c
def Cy:List (Str×RF):=("_law_deal",⟨2,1,["_law_script","_law_base"],ω,jr⟩)::Ia
theorem Nr(T:Txt K mg):ck P w K mg base Cy:=by unfold Cy jr;exact G5 RR (r:=["_law_cells","_law_number","_law_cell"]) (H:=hh) T.f11 (by nofun) (λ_ _ _ _ _ _=>Cv λ_ _=>rfl) (λz=>(by cases z)) (by kernel_rfl) (KL T) T.z T.c
def GJ:List (Str×RF):=qE "_law_draw" (top 38) 2 0 ja Cy
theorem NC(T:Txt K mg):ck P w K mg base GJ:=nB RR hh 2 T.f12 (Nr T) T.z T.c
def Fb:List (Str×RF):=qE "_law_first" (top 39) 1 0 jg GJ
theorem Kj(T:Txt K mg):ck P w K mg base Fb:=nB RR hh 1 T.f13 (NC T) T.z T.c
def EB:List (Str×RF):=qE "_law_plain" (top 40) 1 0 jw Fb
theorem LD(T:Txt K mg):ck P w K mg base EB:=nB RR hh 1 T.f14 (Kj T) T.z T.c
def Gd:List (Str×RF):=qE "_law_swap" (top 41) 1 0 jx EB
theorem JV(T:Txt K mg):ck P w K mg base Gd:=nB RR hh 1 T.f15 (LD T) T.z T.c
def E5:List (Str×RF):=qE "_law_add" (top 42) 1 0 jK Gd
theorem MN(T:Txt K mg):ck P w K mg base E5:=nB RR hh 1 T.f16 (JV T) T.z T.c
def HV:List (Str×RF):=qE "_law_any_table" (top 43) 1 1 jn E5
theorem Lg(T:Txt K mg):ck P w K mg base HV:=nB RR hh 1 T.f17 (MN T) T.z T.c
def CD:List (Str×RF):=("_law_plain_table",⟨1,2,["_law_deal_here"],ω,jf⟩)::HV
theorem LV(T:Txt K mg):ck P w K mg base CD:=by unfold CD jf;exact G5 RR (r:=["_law_states","_law_rows","_law_deed","_law_looks","_law_laid","_law_state"]) (H:=hh) T.f18 (by nofun) (λ_ _ _ _ _ _=>Hu λ_=>rfl) (λz=>(by cases z)) (by kernel_rfl) (Lg T) T.z T.c
def Fq:List (Str×RF):=qE "_law_table" (top 45) 2 2 jt CD
theorem Mv(T:Txt K mg):ck P w K mg base Fq:=nB RR hh 2 T.f19 (LV T) T.z T.c
def FJ:List (Str×RF):=qE "_law_answers" (top 46) 2 0 je Fq
theorem LH(T:Txt K mg):ck P w K mg base FJ:=nB RR hh 2 T.f20 (Mv T) T.z T.c
def GO:List (Str×RF):=qE "_law_hand" (top 47) 3 1 jM FJ
theorem Kd(T:Txt K mg):ck P w K mg base GO:=nB RR hh 3 T.f21 (LH T) T.z T.c
def HM:List (Str×RF):=qE "_law_house" (top 48) 3 3 jv GO
theorem MG(T:Txt K mg):ck P w K mg base HM:=nB RR hh 3 T.f22 (Kd T) T.z T.c
def Go:List (Str×RF):=qE "_law_free" (top 49) 2 0 jc HM
theorem Kb(T:Txt K mg):ck P w K mg base Go:=nB RR hh 2 T.f23 (MG T) T.z T.c
def Hk:List (Str×RF):=qE "_law_behind" (top 50) 3 0 jb Go
theorem Oc(T:Txt K mg):ck P w K mg base Hk:=nB RR hh 3 T.f24 (Kb T) T.z T.c
def HB:List (Str×RF):=qE "_law_begin" (top 51) 2 0 ju Hk
theorem JR(T:Txt K mg):ck P w K mg base HB:=nB RR hh 2 T.f25 (Oc T) T.z T.c
def Hv:List (Str×RF):=qE "_law_inputs" (top 52) 1 0 jF HB
theorem Nx(T:Txt K mg):ck P w K mg base Hv:=nB RR hh 1 T.f26 (JR T) T.z T.c
def GN:List (Str×RF):=qE "_law_from" (top 53) 2 1 jN Hv
theorem Kf(T:Txt K mg):ck P w K mg base GN:=nB RR hh 2 T.f27 (Nx T) T.z T.c
def G9:List (Str×RF):=qE "_law_stands" (top 54) 1 2 jo GN
theorem ML(T:Txt K mg):ck P w K mg base G9:=nB RR hh 1 T.f28 (Kf T) T.z T.c
def EY:List (Str×RF):=qE "_law_values" (top 55) 2 0 jB G9
theorem Ml(T:Txt K mg):ck P w K mg base EY:=nB RR hh 2 T.f29 (ML T) T.z T.c
def Df:List (Str×RF):=("_law_ends",⟨2,2,["_law_house_here","_law_stands_here"],ω,jz⟩)::EY
theorem LN(T:Txt K mg):ck P w K mg base Df:=by unfold Df jz;exact G5 RR (r:=["_law_nexts","_law_found","_law_left","_law_stand","_law_some","_law_there"]) (H:=hh) T.f30 (by nofun) (λ_ _ _ _ _ _=>Cv λ_ _=>rfl) (λz=>(by cases z)) (by kernel_rfl) (Ml T) T.z T.c
def Ft:List (Str×RF):=qE "_law_pact" (top 57) 2 3 jC Df
theorem MV(T:Txt K mg):ck P w K mg base Ft:=nB RR hh 2 T.f31 (LN T) T.z T.c
def HH:List (Str×RF):=qE "_law_due" (top 58) 2 2 jJ Ft
theorem Lq(T:Txt K mg):ck P w K mg base HH:=nB RR hh 2 T.f32 (MV T) T.z T.c
def EJ:List (Str×RF):=qE "behind" (top 18) 3 1 jG HH
theorem NO(T:Txt K mg):ck P w K mg base EJ:=nB RR hh 3 T.f33 (Lq T) T.z T.c
def FP:List (Str×RF):=qE "settled" (top 20) 2 1 ji EJ
theorem Mi(T:Txt K mg):ck P w K mg base FP:=nB RR hh 2 T.f34 (NO T) T.z T.c
def FQ:List (Str×RF):=qE "free" (top 22) 2 2 jY FP
theorem Mz(T:Txt K mg):ck P w K mg base FQ:=nB RR hh 2 T.f35 (Mi T) T.z T.c
def Hy:List (Str×RF):=qE "steps_from" (top 26) 4 3 jD FQ
theorem JW(T:Txt K mg):ck P w K mg base Hy:=nB RR hh 4 T.f36 (Mz T) T.z T.c
def HK:List (Str×RF):=qE "settled_on" (top 32) 3 2 jE Hy
theorem NA(T:Txt K mg):ck P w K mg base HK:=nB RR hh 3 T.f37 (JW T) T.z T.c
def F6:List (Str×RF):=qE "open_numbers" (top 34) 2 3 js HK
theorem Mq(T:Txt K mg):ck P w K mg base F6:=nB RR hh 2 T.f38 (NA T) T.z T.c
def Cm:List (Str×RF):=qE "graph_from" (top 25) 3 4 jq F6
def JU:List (Str×RF):=qE "graph_from" (top 25) 3 4 jq SN
theorem Fd(T:Txt K mg):ny P w K mg base JU/\ck P w K mg base Cm:=QC RR hh 3 T.f39 ⟨Zk T,Mq T⟩ (xr T) T.z T.c
theorem LF(T:Txt K mg):ck P w K mg base Cm:=(Fd T).2
theorem YU(T:Txt K mg):ny P w K mg base JU:=(Fd T).1
def CZ:List (Str×RF):=qE "graph_of" (top 24) 2 5 jA Cm
def MD:List (Str×RF):=qE "graph_of" (top 24) 2 5 jA JU
theorem HY(T:Txt K mg):ny P w K mg base MD/\ck P w K mg base CZ:=QC RR hh 2 T.f40 ⟨YU T,LF T⟩ (xr T) T.z T.c
theorem Mm(T:Txt K mg):ck P w K mg base CZ:=(HY T).2
theorem YN(T:Txt K mg):ny P w K mg base MD:=(HY T).1
def Cb:List (Str×RF):=qD "critical" (top 33) 2 6 jd CZ
def P9:List (Str×RF):=qE "critical" (top 33) 2 6 jd MD
theorem Ff(T:Txt K mg):ny P w K mg base P9/\ck P w K mg base Cb:=QlC RR hh 2 T.f41 ⟨YN T,Mm T⟩ (xr T) T.z T.c
theorem KD(T:Txt K mg):ck P w K mg base Cb:=(Ff T).2
theorem xk3(T:Txt K mg):ny P w K mg base P9:=(Ff T).1
def Ly:List (Str×RF):=qE "_law_refused" (top 59) 2 7 jm Cb
theorem LW(T:Txt K mg):ck P w K mg base Ly:=Za (ys:=yy) RR hh 2 T.f42 (xk3 T) (KD T) (xr T) T.o T.z T.c
theorem yI(F:ww K "law" "law" (top 60) a g)(T:Txt K mg):iz P w K mg base qF 9 a g ["_law_script"] (nX K 1 yn):=N5 RR hh F (LW T) T.z T.c
end
end My
namespace My
open MM
open PySem (Str)
theorem iq{s:aY}{n:Nat}(h:s[n]?=ξ o):n < ⇑s:=(ac.mp h).1
noncomputable def fJ(x c:Int)(q:Nat):List (D×D):=[(.str "seed",.int x),(.str "number",.int c),(.str "left",.ref q)]
section
variable{x c y:Int}{q:Nat}
theorem Sr:kR (fJ x c q) (.str "seed")=ξ ↑x:=by simp[kR,fJ,mT]
theorem U_:kR (fJ x c q) (.str "number")=ξ ↑c:=by
 let h:¬ (("seed":Str)="number"):=by decide
 simp[kR,fJ,mT,h]
theorem YL:kR (fJ x c q) (.str "left")=ξ (.ref q):=by
 let h:¬ (("seed":Str)="left"):=by decide
 let g:¬ (("number":Str)="left"):=by decide
 simp[kR,fJ,mT,h,g]
theorem Qmb:i6 (fJ x c q) (.str "seed") ↑y=fJ y c q:=by
 let h:¬ (("number":Str)="seed"):=by decide
 let g:¬ (("left":Str)="seed"):=by decide
 simp[i6,fJ,mT,h,g]
theorem Qc:i6 (fJ x c q) (.str "number") ↑y=fJ x y q:=by
 let h:¬ (("seed":Str)="number"):=by decide
 let g:¬ (("left":Str)="number"):=by decide
 simp[i6,fJ,mT,h,g]
theorem Qmd:uD [] [(.str "seed",.int x),(.str "number",.int c),(.str "left",.ref q)]=fJ x c q:=by
 let h:¬ (("seed":Str)="number"):=by decide
 let l:¬ (("seed":Str)="left"):=by decide
 let g:¬ (("number":Str)="left"):=by decide
 simp[uD,i6,fJ,mT,h,l,g]
theorem M7:⇑(fJ x c q) < eT:=wr (by simp[fJ])
end
structure i0(s:aY)(p q:Nat):Prop where
 ne:p≠q
 ex:∃(x c:Int)(cs:List D),s[p]?=ξ (.dct ω (fJ x c q))/\s[q]?=ξ (.lst cs)/\0<=x/\x < 2147483648/\∀d∈cs,∃i:Int,d=.int i
structure Kept(p q:Nat)(s s':aY):Prop where
 le:⇑s<=⇑s'
 at_:∀n,n < ⇑s->n≠p->n≠q->s'[n]?=s[n]?
section
variable{p q:Nat}{s s1 s2:aY}{Q:D->aY->Prop}
theorem Kept.refl:Kept p q s s:=⟨aA _,λ_ _ _ _=>rfl⟩
theorem Kept.trans(h:Kept p q s s1)(k:Kept p q s1 s2):Kept p q s s2:=⟨bH h.le k.le,λn o l g=>(k.at_ n (br o h.le) l g).trans (h.at_ n o l g)⟩
theorem Kept.same{n:Nat}(h:Kept p q s s1)(u:n≠p)(l:n≠q)(g:s[n]?=ξ o):s1[n]?=ξ o:=(h.at_ n (iq g) u l).trans g
theorem Kept.snoc(h:Kept p q s s1):Kept p q s (s1++[o]):=h.trans ⟨by simp,λn g _ _=>aI g⟩
theorem Kept.put{n:Nat}(h:Kept p q s s1)(z:⇑s<=n):Kept p q s (s1.set n o):=
 ⟨by simp;exact h.le,λm u l g=>by rw[aw ()];exact h.at_ m u l g⟩
theorem i0.lt(h:i0 s p q):p < ⇑s/\q < ⇑s:=by let⟨x,c,g,a,b,_⟩:=h.ex;exact⟨iq a,iq b⟩
theorem i0.snoc(h:i0 s p q):i0 (s++[o]) p q:=by let⟨x,c,g,a,b,r⟩:=h.ex;exact⟨h.ne,x,c,g,by rw[aI (iq a)];exact a,by rw[aI (iq b)];exact b,r⟩
theorem i0.put{n:Nat}(h:i0 s p q)(l:n≠p)(g:n≠q):i0 (s.set n o) p q:=by let⟨x,c,u,a,b,r⟩:=h.ex;exact⟨h.ne,x,c,u,by rw[aw l];exact a,by rw[aw g];exact b,r⟩
theorem V0{k:Int}(hp:i0 s p q)(Y:0 < k)(hk2:k < 1073741824)(h:∀r s',0<=r->r < k->i0 s' p q->Kept p q s s'->Q ↑r s'):wp (ja [.dic p,.int k]) Q s:=by
 let⟨x,c,g,E,J,hx0,hx1,z⟩:=hp.ex;let H:=hp.ne
 (simp![ja];simp![yp])
 refine OS (λl s'=>l=[ξ (.dic p),ξ ↑k,ψ,ψ,ψ]/\∃c g,s'[p]?=ξ (.dct ω (fJ x c q))/\s'[q]?=ξ (.lst g)/\(∀d∈g,∃i:Int,d=.int i)/\Kept p q s s')
  (λl s'=>match s'[q]? with
   |some (.lst g)=>⇑g
   |_=>0) ⟨rfl,c,g,E,J,z,Kept.refl⟩ (λl s' hZ0=>?_)
 let⟨el,c,g,E,J,z,I⟩:=hZ0;subst el;let gs:∀Q,wp (itemK p (.str "seed")) Q s'=Q ↑x s':=λQ=>A1 E rfl Sr;let gn:∀Q,wp (itemK p (.str "number")) Q s'=Q ↑c s':=λQ=>A1 E rfl U_;let gl:∀Q,wp (itemK p (.str "left")) Q s'=Q (.ref q) s':=λQ=>A1 E rfl YL;let g2:∀Q,wp (getL q) Q s'=Q g s':=λQ=>eA J;simp![↓gn,↓gl,↓g2];by_cases hc:c=0/\0 < ⇑g
 ·let⟨l,h⟩:=hc;subst l;rw[aH rfl,aH ()];obtain⟨d,hd⟩:∃d,g.getLast?=ξ d:=⟨_,List.getLast?_eq_some_getLast (by intro e;rw[e]at h;simp at h)⟩
  let⟨i,O⟩:=z d (List.mem_of_getLast? hd);subst O;let L:∀es Q,wp (putL q es) Q s'=Q Unit.unit (s'.set q (.lst es)):=λes Q=>rh J;let C:(s'.set q (.lst g.dropLast))[p]?=ξ (.dct ω (fJ x 0 q)):=by rw[aw (du H)];exact E
  let Y:(s'.set q (.lst g.dropLast))[q]?=ξ (.lst g.dropLast):=ax (iq J);let q3:∀v Q,wp (storeK p (.str "number") v) Q (s'.set q (.lst g.dropLast))=Q Unit.unit ((s'.set q (.lst g.dropLast)).set p (.dct ω (i6 (fJ x 0 q) (.str "number") v))):=λv Q=>D8 C rfl M7;simp![↓gl,↓g2,hd,↓L,↓q3,Qc];let U:((s'.set q (.lst g.dropLast)).set p (.dct ω (fJ x i q)))[p]?=ξ (.dct ω (fJ x i q)):=ax (iq C);let o:((s'.set q (.lst g.dropLast)).set p (.dct ω (fJ x i q)))[q]?=ξ (.lst g.dropLast):=by rw[aw H];exact Y
  refine⟨⟨i,g.dropLast,U,o,λd hd=>z d (List.dropLast_subset _ hd),⟨by simp;exact I.le,λn hn u G=>?_⟩⟩,?_⟩
  ·rw[aw (du u),aw (du G)];exact I.at_ n hn u G
  ·rw[o,J];simp only[wB];ext
 ·let fin : ∀(A B : Prop), (if c = 0 then (if 0 < (⇑g : Int) then A else B) else B) = B := λA B => by
    by_cases l:c=0
    ·rw[aH l,aB ()]
    ·rw[aB l]
  rw[fin];let q3:∀v Q,wp (storeK p (.str "number") v) Q s'=Q Unit.unit (s'.set p (.dct ω (i6 (fJ x c q) (.str "number") v))):=λv Q=>D8 E rfl M7;let q4:∀v Q,wp (storeK p (.str "seed") v) Q s'=Q Unit.unit (s'.set p (.dct ω (i6 (fJ x c q) (.str "seed") v))):=λv Q=>D8 E rfl M7;let kp:∀o,Kept p q s (s'.set p o):=λo=>⟨by simp;exact I.le,λn hn u G=>by rw[aw (du u)];exact I.at_ n hn u G⟩
  let pt:∀(C c':Int),0<=C->C < 2147483648->i0 (s'.set p (.dct ω (fJ C c' q))) p q:=λC c' h0 l=>⟨H,C,c',g,ax (iq E),by rw[aw H];exact J,h0,l,z⟩
  let g5:∀C Q,wp (itemK p (.str "seed")) Q (s'.set p (.dct ω (fJ C c q)))=Q ↑C (s'.set p (.dct ω (fJ C c q))):=λC Q=>A1 (ax (iq E)) rfl Sr;let U:∀a b:Int,0<=b->b < 10000000000->tE a b:=λa b l h2=>.inr ⟨by ext,by ext⟩;by_cases h0:0 < c
  ·rw[aH h0];simp![↓q3,Qc];exact⟨⟨Y,hk2⟩,Y,h _ _ (iM _ ()) (gO _ Y) (pt _ _ hx0 hx1) (kp _)⟩
  ·rw[aB h0];simp only[↓wx,↓xS,↓C5,↓iQ,↓xX,↓wy,↓gs,↓BI,↓BJ,↓Bo,word_snoc];refine⟨U _ _ () (),by ext,?_⟩;let O:=iM (x*48271+7919) (show (2147483647:Int)≠0 by ext);let L:=gO (x*48271+7919) (show (0:Int) < 2147483647 by ext);generalize (x*48271+7919) % 2147483647=one at O L ⊢;let g:=iM (one*40692+104729) (show (2147483399:Int)≠0 by ext);let l:=gO (one*40692+104729) (show (0:Int) < 2147483399 by ext);simp![↓q4,Qmb,↓g5];refine⟨U _ _ () (),?_⟩;generalize (one*40692+104729) % 2147483399=y at g l ⊢;refine⟨U _ _ () (),U _ _ () (),U _ _ () (),Y,h _ _ (iM _ ()) (gO _ Y) (pt _ _ g ()) (kp _)⟩
theorem T6{ns:List Int}(h:∀p q s',i0 s' p q->⇑s<=p->⇑s<=q->Kept p q s s'->Q (.dic p) s'):wp (jr [.lit (ns.map D.int),.int 0]) Q s:=by
 let l0:0<=eT:=bn _;let m2:∀a b:Int,0<=b->b < 10000000000->tE a b:=λa b h1 h2=>.inr ⟨by ext,by ext⟩;let J:∀Q s,wp (yJ ↑10 ↑18) Q s=Q ↑1000000000000000000 s:=λQ s=>by unfold yJ tS;rw[dE,b4];exact propext ⟨λh=>h.2,λh=>⟨by decide,h⟩⟩
 generalize (1000000000000000000:Int)=big at J
 (simp![jr];simp![yt,fT])
 let E:∀d∈cutD (ns.map D.int) (ξ 0) (ξ 63),∃i:Int,d=.int i:=λd hd=>by unfold cutD at hd;let⟨i,_,e⟩:=bA.mp (List.mem_of_mem_drop (wI hd));exact⟨i,e.symm⟩
 let G:⇑(cutD (ns.map D.int) (ξ 0) (ξ 63))<=63:=by unfold cutD gQ;simp;ext
 generalize cutD (ns.map D.int) (ξ 0) (ξ 63)=cells at E G;refine⟨iy (),?_⟩;refine Q7 (λd=>∃i:Int,d=.int i) (λl=>⇑l=1) (λd=>∃i:Int,d=.int i) (λs'=>s=s') (λ_ _=>trivial) rfl rfl E (λd l s' C L es=>?_) λu s' Y hP es=>?_
 ·let⟨i,g⟩:=C;subst g;subst es;let⟨I,rfl⟩:=vk.mp L;simp![];exact⟨_,rfl⟩
 ·subst es;let g:∀Q:List D->aY->Prop,wp (getL ⇑s) Q (s++[.lst u])=Q u (s++[.lst u]):=λQ=>eA (by simp);simp![↓g]
  skip
  refine KU (λi l s'=>∃x H,l=[ξ (.lit (ns.map D.int)),ξ ↑0,ξ (.ref ⇑s),ξ ↑x,H]/\0<=x/\x < 2147483648/\s'=s++[.lst u]) (λi l s' ⟨_,_,_,_,_,e⟩=>by subst e;show (s++[MO.lst u])[⇑s]?=ξ (.lst u);simp) ⟨_,_,rfl,?_,?_,rfl⟩ (λi d l s' hd C=>?_) (λl s' C=>?_)
  ·ext
  ·ext
  ·let⟨x,H,el,I,U,es⟩:=C;subst el es;let⟨v,O⟩:=hP d (aJ hd);subst O;simp![];exact⟨m2 _ _ () (),_,_,rfl,iM _ (),Int.lt_trans (gO _ ()) ()⟩
  ·let⟨x,H,el,I,U,es⟩:=C;subst el es;simp![↓g,↓J,fT];refine⟨iy (),?_⟩;refine Qkg (λd=>∃i:Int,d=.int i) (λl=>⇑l=1) (λd=>∃i:Int,d=.int i) (λs'=>s++[.lst u]=s') (λs' es=>by subst es;show (s++[MO.lst u])[⇑s]?=ξ (.lst u);simp) rfl rfl hP (λd l s' C L es=>?_) λo s' G Y es=>?_
   ·let⟨v,O⟩:=C;subst O;subst es;let⟨z,rfl⟩:=vk.mp L;simp![↓J];by_cases E:big<=v
    ·rw[aH E];exact⟨_,rfl⟩
    ·rw[aB E];trivial
   ·subst es;simp![xL,List.zip_nil_right,Qmd];refine h _ _ _ ⟨by simp,x,0,o.reverse,i4,k_ i4,I,U,λd hd=>Y d (Aa.mp hd)⟩ (by simp<;>ext) (by simp) ((Kept.refl.snoc).snoc.snoc)
end
open PySem (Str)
noncomputable def qZ(S:Nat)(d:D):Prop:=∃a b:Int,d=.tup [.int a,.int b]/\0<=a/\a < S/\0<=b/\b < 4
def tD(S n:Nat)(d:D):Prop:=∃ps,d=.tup ps/\⇑ps=n/\∀p∈ps,qZ S p
def ou(d:D):Prop:=∃(S n:Nat)(g:List D),d=.tup g/\⇑g=S/\1<=S/\S<=4/\1<=n/\n<=4/\∀r∈g,tD S n r
def iH(S g:Nat)(nx un:Nat->Nat->Nat):D:=.tup (bY S λs=>.tup (bY g λd=>.tup [.int (nx s d:Nat),.int (un s d:Nat)]))
noncomputable def tx(S g:Nat)(nx un:Nat->Nat->Nat):Prop:=1<=S/\S<=4/\1<=g/\g<=4/\∀s d,s < S->d < g->nx s d < S/\un s d < 4
theorem QE(h:ou t):∃S o nx un,t=iH S o nx un/\tx S o nx un:=by
 let⟨S,o,l,et,hl,O,L,J,I,U⟩:=h;let key:∀s:Nat,∃p:Nat->Nat×Nat,s < S->l[s]?=ξ (.tup (bY o λd=>.tup [.int ((p d).1:Nat),.int ((p d).2:Nat)]))/\∀d,d < o->(p d).1 < S/\(p d).2 < 4:=by
  intro s;by_cases z:s < S
  ·let C:s < ⇑l:=by ext
   let⟨ds,e,H,Y⟩:=U l[s] (cM C);let G:∀d:Nat,∃p:Nat×Nat,d < o->ds[d]?=ξ (.tup [.int (p.1:Nat),.int (p.2:Nat)])/\p.1 < S/\p.2 < 4:=by
    intro d;by_cases hd:d < o
    ·let E:d < ⇑ds:=by ext
     let⟨g,u,I,z,L,Q,J⟩:=Y ds[d] (cM E);refine⟨(g.toNat,u.toNat),λ_=>⟨?_,by show g.toNat < S;ext,by show u.toNat < 4;ext⟩⟩;rw[ag E,I,pN z,pN Q]
    ·exact⟨(0,0),λh=>(hd h).elim⟩
   refine⟨λd=>dm (G d),λ_=>⟨?_,λd hd=>(eh (G d) hd).2⟩⟩;rw[ag C,e];congr 2;exact AZ H λd hd=>(eh (G d) hd).1
  ·exact⟨λ_=>(0,0),λh=>(z h).elim⟩
 refine⟨S,o,λs d=>(dm (key s) d).1,λs d=>(dm (key s) d).2,?_,O,L,J,I,λs d z hd=>(eh (key s) z).2 d hd⟩;rw[et];unfold iH;congr 1;exact AZ hl λs z=>(eh (key s) z).1
section
variable{p q:Nat}{s s1 s2:aY}{Q:D->aY->Prop}
noncomputable def PK(p q:Nat)(s s':aY):Prop:=i0 s' p q/\Kept p q s s'
theorem PK.refl(h:i0 s p q):PK p q s s:=⟨h,Kept.refl⟩
theorem nC{k:Int}(u:PK p q s s1)(E:0 < k)(l:k < 1073741824)(h:∀r s',0<=r->r < k->PK p q s s'->Kept p q s1 s'->Q ↑r s'):wp (ja [.dic p,.int k]) Q s1:=
 V0 u.1 E l λr s' C z g o=>h r s' C z ⟨g,u.2.trans o⟩ o
theorem PK.snoc(h:PK p q s s1):PK p q s (s1++[o]):=⟨h.1.snoc,h.2.snoc⟩
theorem PK.put{n:Nat}(h:PK p q s s1)(u:⇑s<=n)(l:n≠p)(g:n≠q):PK p q s (s1.set n o):=⟨h.1.put l g,h.2.put u⟩
noncomputable def Ow(p q:Nat)(s s1:aY)(n:Nat):Prop:=⇑s<=n/\⇑s1<=n/\n≠p/\n≠q
theorem PK.ow{n:Nat}(h:PK p q s s1)(g:⇑s1<=n):Ow p q s s1 n:=by have:=h.1.lt;have:=h.2.le;unfold Ow;ext
theorem Kept.sm{n:Nat}(w:Kept p q u v)(h:Ow p q s s1 n)(g:u[n]?=ξ o):v[n]?=ξ o:=w.same h.2.2.1 h.2.2.2 g
theorem PK.pt{n:Nat}(w:PK p q s u)(h:Ow p q s s1 n):PK p q s (u.set n o):=w.put h.1 h.2.2.1 h.2.2.2
theorem Kept.pt{n:Nat}(w:Kept p q s1 u)(h:Ow p q s s1 n):Kept p q s1 (u.set n o):=w.put h.2.1
theorem lO{m:Int}(g:0<=m)(h:m<=1000):(-(2^62)<=m/\m < 2^62):=by ext
end
open PySem (Str)
section
variable{p q:Nat}{s s1 s2:aY}{Q:D->aY->Prop}
theorem rR{r:Int}(h:0<=r):∃n:Nat,r=n:=⟨r.toNat,(pN h).symm⟩
noncomputable def ud(s d:Nat):Nat:=if s=0 then d+1 else s
theorem Q5{n:Nat}(L:1<=n)(J:n<=3)(h:∀s',eZ s s'->Q (iH (n+1) n ud ud) s'):wp (jg [.int n]) Q s:=by
 let l:2<=eT:=iy ();let u:1<=eT:=iy ();let E:n<=eT:=iy ();let H:((n:Int)+1-1).toNat=n:=by ext
 let I:ib 1 n=bY n λi=>D.int (1+(i:Nat)):=rfl;let C:∀A s,wp (collect (aT 0) cB (dD (au (am 0) (au (am 0) bb))) e9 (bY n λi=>D.int (1+(i:Nat))) [ψ]) A s=A (bY n λi=>.tup [.int (1+(i:Nat)),.int (1+(i:Nat))]) s:=λA s=>HG yU λk G Q=>by simp![l,true_and]
 let z:∀A s,wp (collect (aT 0) cB (kq mS (oH (dW (au (dD (au (am 0) (au (am 0) bb))) bb)) (am 1))) e9 (bY n λi=>D.int (1+(i:Nat))) [ψ,ξ ↑n]) A s=A (bY n λi=>.tup (aE n [D.tup [.int (1+(i:Nat)),.int (1+(i:Nat))]]).flatten) s:=λA s=>HG yU λk G Q=>by simp![l,u,aR];exact propext ⟨λh=>h.2,λh=>⟨⟨by ext,iy ()⟩,h⟩⟩
 let ad:∀(a:D)ds(Q:D->aY->Prop),wp (dg (.ref ⇑s) (.ref ⇑(s++[MO.lst [a]]))) Q (s++[MO.lst [a]]++[MO.lst ds])=(⇑[a]+⇑ds<=eT/\Q (.ref ⇑(s++[MO.lst [a]]++[MO.lst ds])) (s++[MO.lst [a]]++[MO.lst ds]++[.lst ([a]++ds)])):=λa ds Q=>Hj (by simp) (by simp);let g:∀a ds(Q:List D->aY->Prop),wp (getL ⇑(s++[MO.lst [a]]++[MO.lst ds])) Q (s++[MO.lst [a]]++[MO.lst ds]++[.lst ([a]++ds)])=Q ([a]++ds) (s++[MO.lst [a]]++[MO.lst ds]++[.lst ([a]++ds)]):=λa ds Q=>eA (by simp);let o:(-(2^62)<=(1:Int)/\(1:Int) < 2^62) /\ -(2^62)<=(n:Int)+1/\(n:Int)+1 < 2^62:=by ext
 (simp![jg];simp![yd,l,u,E,fT,H,I,on,↓C,↓z,↓ad,↓g])
 refine⟨o,o,iy (),?_⟩;have:=h _ ((((eZ.refl s).snoc (.lst [.tup (bY n λi=>.tup [.int (1+(i:Nat)),.int (1+(i:Nat))])])).snoc (.lst (bY n λi=>.tup (aE n [D.tup [.int (1+(i:Nat)),.int (1+(i:Nat))]]).flatten))).snoc (.lst ([.tup (bY n λi=>.tup [.int (1+(i:Nat)),.int (1+(i:Nat))])]++bY n λi=>.tup (aE n [D.tup [.int (1+(i:Nat)),.int (1+(i:Nat))]]).flatten)));rcases (show n=1\/n=2\/n=3 by ext) with e|e|e<;>subst e<;>exact this
theorem Z_{S g:Nat}{nx un:Nat->Nat->Nat}(h:tx S g nx un):ou (iH S g nx un):=by let⟨a,b,c,d,ok⟩:=h;refine⟨S,g,_,rfl,on,a,b,c,d,λr u=>?_⟩;let⟨s,o,e⟩:=bA.mp u;refine⟨_,e.symm,on,λp z=>?_⟩;let⟨t,l,e⟩:=bA.mp z;have:=ok s t (cC.mp o) (cC.mp l);exact⟨_,_,e.symm,by ext,by ext,by ext,by ext⟩
theorem QB{n:Nat}(g:1<=n)(l:n<=3):tx (n+1) n ud ud:=⟨by ext,by ext,g,by ext,λs d h hd=>by unfold ud;split<;>ext⟩
theorem UQ{n:Nat}(l:1<=n)(g:n<=3)(h:∀t s',ou t->eZ s s'->Q t s'):wp (jg [.int n]) Q s:=Q5 l g λs' x=>h _ s' (Z_ (QB l g)) x
theorem Y4{n:Nat}(G:1<=n)(J:n<=3)(h:∀t,ou t->Q t s):wp (jw [.int n]) Q s:=by
 let C:2<=eT:=iy ();let E:1<=eT:=iy ()
 (simp![jw];simp![yi,fT,aR,n9])
 refine⟨lO () (),iy (),?_⟩;refine BB (By n) (tD n (n+1)) (λs'=>s=s') (λ_ _=>trivial) rfl B0 (λd s' g es=>?_) (λl s' o z es=>?_)
 ·let⟨i,I,e⟩:=g;subst e es;simp![C,E,fT,aR,n9];refine⟨lO () (),iy (),?_⟩;refine BB (By n) (qZ n) (λs'=>s=s') (λ_ _=>trivial) rfl B0 (λd s' g es=>?_) (λps s' o z es=>?_)
  ·let⟨j,H,e⟩:=g;subst e es;simp![C];exact⟨j,0,rfl,by ext,by ext,by ext,by ext⟩
  ·subst es;rw[n9]at o;simp![];refine⟨iy (),_,rfl,by simp[o],λx u=>?_⟩;rcases a_.mp u with e|u
   ·exact⟨i,i,e,by ext,by ext,by ext,by ext⟩
   ·exact z x u
 ·subst es;rw[n9]at o;simp![];exact h _ ⟨n,n+1,l,rfl,o,G,by ext,by ext,by ext,z⟩
theorem WE{n:Nat}(C:1<=n)(H:n<=3)(h:∀t,ou t->Q t s):wp (jx [.int n]) Q s:=by
 let z:2<=eT:=iy ()
 (simp![jx];simp![yq,fT,aR,n9])
 refine⟨lO () (),iy (),?_⟩;refine BB (By n) (tD n n) (λs'=>s=s') (λ_ _=>trivial) rfl B0 (λd s' g es=>?_) (λl s' o u es=>?_)
 ·let⟨i,G,e⟩:=g;subst e es;simp![fT,aR,n9];refine⟨lO () (),iy (),?_⟩;refine BB (By n) (qZ n) (λs'=>s=s') (λ_ _=>trivial) rfl B0 (λd s' g es=>?_) (λps s' o u es=>?_)
  ·let⟨j,E,e⟩:=g;subst e es;simp![z];exact⟨j,i,rfl,by ext,by ext,by ext,by ext⟩
  ·subst es;rw[n9]at o;simp![];exact⟨ps,rfl,o,u⟩
 ·subst es;rw[n9]at o;simp![];exact h _ ⟨n,n,l,rfl,o,C,by ext,by ext,by ext,u⟩
theorem Qmq{n:Nat}(G:1<=n)(I:n<=4)(h:∀t,ou t->Q t s):wp (jK [.int n]) Q s:=by
 let u:2<=eT:=iy ();let z:1<=eT:=iy ()
 (simp![jK];simp![yz,fT,aR,n9])
 refine⟨lO () (),iy (),?_⟩;refine BB (By n) (tD n 1) (λs'=>s=s') (λ_ _=>trivial) rfl B0 (λd s' l es=>?_) (λg s' o E es=>?_)
 ·let⟨i,H,e⟩:=l;subst e es;simp![u,z];refine⟨by ext,_,rfl,rfl,λx C=>?_⟩;exact⟨_,_,aD.mp C,iM _ (),gO _ (),by ext,by ext⟩
 ·subst es;rw[n9]at o;simp![];exact h _ ⟨n,1,g,rfl,o,G,by ext,by ext,by ext,E⟩
theorem Yp(hp:PK p q s s1)(h:∀t s',ou t->PK p q s s'->Kept p q s1 s'->Q t s'):wp (jn [.dic p]) Q s1:=by
 (simp![jn];simp![jS])
 refine nC hp () () λH t1 a0 a1 h1 w1=>?_;simp![];refine nC h1 () () λG C b0 b1 h2 I=>?_;let⟨H,rfl⟩:=rR a0;let⟨G,rfl⟩:=rR b0;let e1:(1+(H:Int))=((1+H:Nat):Int):=by ext
 let e2:(1+(G:Int))=((1+G:Nat):Int):=by ext
 simp![e1,e2];let m1:1<=1+H/\1+H<=3:=by ext
 let n1:1<=1+G/\1+G<=3:=by ext
 generalize 1+H=m at m1;generalize 1+G=n at n1;simp![bn,aR];refine⟨lO () (),?_⟩;let pl:=h2.1.lt;let l3:=h2.2.le;let l4:=hp.2.le;let l5:=(w1.trans I).le;refine rJ (λi l s'=>∃o y4,l=[ξ (.dic p),ξ ↑m,ξ ↑n,ξ (.ref ⇑C),y4]/\s'[⇑C]?=ξ (.lst o)/\⇑o=i/\(∀r∈o,tD m n r)/\PK p q s s'/\Kept p q s1 s') (λ_ _ _ _=>trivial) ⟨[],ψ,rfl,by simp,rfl,λr J=>bw J (by simp),h2.snoc,(w1.trans I).snoc⟩ (λR1 i d l s' up rt hd u=>?_) (λl s' u=>?_)
 ·let⟨o,y6,el,g,L,J,E,w⟩:=u;subst el;simp![fT,aR,n9];refine⟨lO () (),iy (),?_⟩;refine BB (By n) (qZ m) (λs'=>s'[⇑C]?=ξ (.lst o)/\PK p q s s'/\Kept p q s1 s') (λ_ _=>trivial) ⟨g,E,w⟩ B0 (λd s' _ u=>?_) (λO s' G hP u=>?_)
  ·let⟨g,E,w⟩:=u;let l:2<=eT:=iy ();simp![l];refine nC E () () λa s2 a0 a1 Y I=>?_;simp![];refine nC Y () () λb o b0 b1 U h=>?_;simp![l];exact⟨⟨a,b,rfl,a0,a1,b0,by ext⟩,h.same () () (I.same () () g),U,(w.trans I).trans h⟩
  ·let⟨g,E,w⟩:=u;let g1:∀Q,wp (getL ⇑C) Q s'=Q o s':=λQ=>eA g;let h:∀es Q,wp (putL ⇑C es) Q s'=Q Unit.unit (s'.set ⇑C (.lst es)):=λes Q=>rh g;simp![↓g1,↓h];let H:=(ac.mp hd).1;rw[n9]at H G;refine⟨wr (),up ⟨_,_,rfl,ax (iq g),by simp[L],λr z=>?_,E.put () () (),w.put ()⟩⟩;rcases aS.mp z with z|z
   ·exact J r z
   ·exact⟨O,aD.mp z,G,hP⟩
 ·let⟨o,y6,el,g,L,J,E,w⟩:=u;subst el;let g1:∀Q,wp (getL ⇑C) Q s'=Q o s':=λQ=>eA g;simp![↓g1];rw[n9]at L;exact h _ _ ⟨m,n,o,rfl,L,m1.1,by ext,n1.1,by ext,J⟩ E w
theorem TV(hp:PK p q s s1)(h:∀t s',ou t->PK p q s s'->Kept p q s1 s'->Q t s'):wp (jf [.dic p]) Q s1:=by
 simp![jL,jf];refine nC hp () () λr1 C a0 a1 h1 w1=>?_;let⟨r1,rfl⟩:=rR a0;let e1:(1+(r1:Int))=((1+r1:Nat):Int):=by ext
 simp![e1];let m1:1<=1+r1/\1+r1<=3:=by ext
 generalize 1+r1=m at m1;simp![fT,aR,n9];let pl:=h1.1.lt;let l3:=h1.2.le;let l4:=hp.2.le;let l5:=w1.le;let E:∀k,⇑C+k≠p/\⇑C+k≠q:=λk=>by ext
 refine⟨lO () (),iy (),?_⟩;refine JE (λi J s'=>⇑J=i/\(∀k,k < i->J[k]?=ξ (.ref (⇑C+k)))/\⇑s'=⇑C+i/\(∀k,k < i->s'[⇑C+k]?=ξ (.lst []))/\PK p q s s'/\Kept p q s1 s') (λ_ _ _ _=>trivial) ⟨rfl,λk G=>bw G (s_ _),rfl,λk G=>bw G (s_ _),h1,w1⟩ (λi d J s' hd hw=>?_) (λL s' hw=>?_)
 ·let⟨o1,o2,o3,o4,o5,o6⟩:=hw;simp![bn];refine⟨by simp[o1],λk G=>?_,by simp[o3];ext,λk G=>?_,o5.snoc,o6.snoc⟩
  ·by_cases e:k=i
   ·subst e;rw[<- o1,i4,o1,o3]
   ·exact k_ (o2 k ())
  ·by_cases e:k=i
   ·subst e;rw[<- o3,i4]
   ·exact k_ (o4 k ())
 let⟨o1,o2,o3,o4,o5,o6⟩:=hw;rw[n9]at o1 o2 o3 o4;simp![];refine nC o5.snoc () () λr2 t2 b0 b1 h2 Y=>?_;let⟨r2,rfl⟩:=rR b0;let e2:(1+(r2:Int))=((1+r2:Nat):Int):=by ext
 simp![e2];let n1:1<=1+r2/\1+r2<=4:=by ext
 generalize 1+r2=n at n1;simp![aR];refine⟨lO () (),?_⟩;let lt2:⇑s' < ⇑t2:=by have:=Y.le;simp at this;ext
 let start:t2[⇑s']?=ξ (.lst L)/\(∀k,k < m->∃ps,t2[⇑C+k]?=ξ (.lst ps)/\⇑ps=0/\∀x∈ps,qZ m x)/\PK p q s t2/\Kept p q s1 t2:=by have w3:Kept p q s1 t2:=(o6.snoc (o:=.lst L)).trans Y;exact⟨Y.same () () i4,λk G=>⟨[],Y.same (E k).1 (E k).2 (k_ (o4 k G)),rfl,λx hx=>bw hx (by simp)⟩,h2,w3⟩
 let up:∀{j:Nat->Nat}{u v:aY},(u[⇑s']?=ξ (.lst L)/\(∀k,k < m->∃ps,u[⇑C+k]?=ξ (.lst ps)/\⇑ps=j k/\∀x∈ps,qZ m x)/\PK p q s u/\Kept p q s1 u)->Kept p q u v->i0 v p q->(v[⇑s']?=ξ (.lst L)/\(∀k,k < m->∃ps,v[⇑C+k]?=ξ (.lst ps)/\⇑ps=j k/\∀x∈ps,qZ m x)/\PK p q s v/\Kept p q s1 v):=λpq163 w hp=>by let⟨a,b,c,d⟩:=pq163;exact⟨w.same () () a,λk G=>by let⟨ps,g,x⟩:=b k G;exact⟨ps,w.same (E k).1 (E k).2 g,x⟩,⟨hp,c.2.trans w⟩,d.trans w⟩
 let hnr:∀k,k < m->⇑C+k≠⇑s':=λk G=>by ext
 let hn1:⇑s'≠p/\⇑s'≠q:=by ext
 generalize ⇑s'=nr at lt2 start up hnr hn1 ⊢;clear Y h2;refine rJ (λi l u=>∃y3 y4 y5 U,l=[ξ (.dic p),ξ ↑m,ξ (.ref nr),y3,y4,y5,U]/\u[nr]?=ξ (.lst L)/\(∀k,k < m->∃ps,u[⇑C+k]?=ξ (.lst ps)/\⇑ps=(λ_=>i) k/\∀x∈ps,qZ m x)/\PK p q s u/\Kept p q s1 u) (λ_ _ _ _=>trivial) ⟨_,_,_,_,rfl,start⟩ (λR1 i d l u up1 rt1 hd H=>?_) (λl u H=>?_)
 ·let⟨y3,y4,y5,U,el,hr⟩:=H;subst el;let hi:=(ac.mp hd).1;rw[n9]at hi;simp![];refine nC hr.2.2.1 () () λlk u2 c0 c1 hk2 Y=>?_;let hr2:=up (j:=λ_=>i) hr Y hk2.1;simp![];refine nC hr2.2.2.1 () () λld u3 d0 d1 hk3 w3=>?_;let O:=up (j:=λ_=>i) hr2 w3 hk3.1;simp![aR];refine⟨lO () (),?_⟩;generalize (lk == 0)=lb;refine rJ (λj l u=>∃U,l=[ξ (.dic p),ξ ↑m,ξ (.ref nr),ξ d,ξ (.bl lb),ξ ↑ld,U]/\u[nr]?=ξ (.lst L)/\(∀k,k < m->∃ps,u[⇑C+k]?=ξ (.lst ps)/\⇑ps=(λk=>if k < j then i+1 else i) k/\∀x∈ps,qZ m x)/\PK p q s u/\Kept p q s1 u) (λ_ _ _ _=>trivial)
   ⟨_,rfl,O.1,λk G=>by let⟨ps,g,x⟩:=O.2.1 k G;exact⟨ps,g,by simp;exact x.1,x.2⟩,O.2.2.1,O.2.2.2⟩ (λR2 j e l u J rt2 hje H=>?_) (λl u H=>?_)
  ·let⟨U,el,ga,gb,gc,gd⟩:=H;subst el;let⟨hj,ee⟩:=IK hje;subst ee;let l2:2<=eT:=iy ();let g1:∀Q,wp (getL nr) Q u=Q L u:=λQ=>eA ga;let g0:∀Q:D->aY->Prop,wp (cu L j) Q u=Q (.ref (⇑C+j)) u:=λQ=>oG (o2 j hj);simp![↓g1,↓g0,l2];refine nC gc () () λan v f0 f1 hkv Y=>?_;let⟨ps,g,x1,x2⟩:=gb j hj;let x1':⇑ps=i:=by simpa using x1
   let gv:=Y.same (E j).1 (E j).2 g;let g3:∀Q,wp (getL (⇑C+j)) Q v=Q ps v:=λQ=>eA gv;let g4:∀es Q,wp (putL (⇑C+j) es) Q v=Q Unit.unit (v.set (⇑C+j) (.lst es)):=λes Q=>rh gv;let O:∀x,qZ m x->⇑ps < eT/\(v.set (⇑C+j) (.lst (ps++[x])))[nr]?=ξ (.lst L)/\(∀k,k < m->∃I,(v.set (⇑C+j) (.lst (ps++[x])))[⇑C+k]?=ξ (.lst I)/\⇑I=(λk=>if k < j+1 then i+1 else i) k/\∀x∈I,qZ m x)/\PK p q s (v.set (⇑C+j) (.lst (ps++[x])))/\Kept p q s1 (v.set (⇑C+j) (.lst (ps++[x]))):=λx hx=>by
    let hne:⇑C+j≠nr:=hnr j hj;refine⟨wr (),?_,λk G=>?_,hkv.put () (E j).1 (E j).2,(gd.trans Y).put ()⟩
    ·rw[aw hne];exact Y.same hn1.1 hn1.2 ga
    ·by_cases g:k=j
     ·subst g;refine⟨_,ax (iq gv),by simp[x1'],λz hz=>?_⟩;rcases aS.mp hz with hz|hz
      ·exact x2 z hz
      ·rw[aD.mp hz];exact hx
     ·let⟨I,g',o,h⟩:=gb k G;refine⟨I,by rw[aw ()];exact Y.same (E k).1 (E k).2 g',?_,h⟩;rw[o];dsimp only;by_cases l:k < j
      ·rw[aH l,aH ()]
      ·rw[aB l,aB ()]
   cases lb with
   |false=>
    simp![l2,↓g3,↓g4,bp];let⟨o,h⟩:=O (.tup [.int ld,.int 0]) ⟨ld,0,rfl,d0,d1,by ext,by ext⟩;exact⟨o,J ⟨_,rfl,h⟩⟩
   |true=>
    simp![l2,↓g3,↓g4];let⟨o,h⟩:=O (.tup [.int j,.int an]) ⟨j,an,rfl,by ext,by ext,f0,by ext⟩;exact⟨o,J ⟨_,rfl,h⟩⟩
  ·let⟨U,el,ga,gb,gc,gd⟩:=H;subst el;rw[n9]at gb;simp![];exact up1 ⟨_,_,_,_,rfl,ga,λk G=>by let⟨ps,g,x1,x2⟩:=gb k G;exact⟨ps,g,by simpa [G] using x1,x2⟩,gc,gd⟩
 ·let⟨y3,y4,y5,U,el,hr⟩:=H;subst el;rw[n9]at hr;let⟨ga,gb,gc,gd⟩:=hr;let g1:∀Q,wp (getL nr) Q u=Q L u:=λQ=>eA ga;simp![↓g1,fT,o1];refine⟨iy (),?_⟩;refine BB (λr=>∃k,k < m/\r=.ref (⇑C+k)) (tD m n) (λv=>u=v) (λv e=>by subst e;exact ga) rfl (λr hr=>by let⟨i,hi⟩:=eU hr;have E:=(ac.mp hi).1;rw[o2 i ()]at hi;exact⟨i,by ext,(aO hi).symm⟩) (λr v ⟨k,G,e⟩ es=>?_) (λJ v z l es=>?_)
  ·subst e es;let⟨ps,g,x1,x2⟩:=gb k G;let o:∀Q,wp (getL (⇑C+k)) Q u=Q ps u:=λQ=>eA g;simp![↓o];exact⟨ps,rfl,x1,x2⟩
  ·subst es;simp![];exact h _ _ ⟨m,n,J,rfl,by ext,m1.1,by ext,n1.1,n1.2,l⟩ gc gd
theorem Kept.ext(h:eZ s1 s2):Kept p q s1 s2:=by let⟨t,e⟩:=h;exact⟨by rw[e];simp,λn g _ _=>by rw[e,aI g]⟩
theorem i0.ext(h:eZ s1 s2)(k:i0 s1 p q):i0 s2 p q:=by let⟨x,c,g,a,b,r⟩:=k.ex;exact⟨k.ne,x,c,g,h.at_ a,h.at_ b,r⟩
theorem RW{C:Nat}{sorts:List Str}(hp:PK p q s s1)(H:s1[C]?=ξ (.lst (sorts.map D.str)))(U:C≠p)(O:C≠q)(hl1:1<=⇑sorts)(hl2:⇑sorts<=100)(h:∀t s',ou t->PK p q s s'->Kept p q s1 s'->Q t s'):wp (jt [.dic p,.ref C]) Q s1:=by
 let g1:∀Q,wp (getL C) Q s1=Q (sorts.map D.str) s1:=λQ=>eA H
 (simp![jt];simp![yh,↓g1,af])
 refine nC hp () () λr I a0 a1 h1 E=>?_;let⟨r,rfl⟩:=rR a0;let hr:r < ⇑sorts:=by ext
 let g2:∀Q,wp (getL C) Q I=Q (sorts.map D.str) I:=λQ=>eA (E.same U O H);let g3:∀(Q:D->aY->Prop)s,wp (cu (sorts.map D.str) r) Q s=Q (.str sorts[r]) s:=λQ s=>by rw[oG (d:=.str sorts[r]) (by rw[ar,ag hr];rfl)]
 simp![↓g2,↓g3];generalize sorts[r]=x;let go : ∀(g : List D -> M D)(l : Loc)(k : Int), 0 < k -> k <= 4 -> (∀(n : Nat)(R : D -> aY -> Prop)s2, 1 <= n -> n <= k -> (∀t G, ou t -> eZ s2 G -> R t G) -> wp (g [.int n]) R s2) ->
   wp (ja [.dic p,.int k]) (λy s'=>wp (dg ↑1 y) (λx s'=>wp (bb l) (λxs J=>wp (g (x::xs)) (λd s'=>wp (uz (.ret d)) Q s') J) s') s') I:=λg l k k0 k1 H=>by
  refine nC h1 k0 () λr t2 b0 b1 h2 w2=>?_;let⟨n,rfl⟩:=rR b0;simp![];let e:(1:Int)+(n:Int)=((1+n:Nat):Int):=by ext
  rw[e];exact H (1+n) _ t2 () () λt G o L=>by simp![];exact h t G o ⟨h2.1.ext L,h2.2.trans (Kept.ext L)⟩ ((E.trans w2).trans (Kept.ext L))
 by_cases c1:x=("first":Str)
 ·rw[aH c1];exact go jg _ 3 () () λn R s2 u n1 z=>UQ u () z
 rw[aB c1];by_cases c2:x=("plain":Str)
 ·rw[aH c2];exact go jw _ 3 () () λn R s2 u n1 z=>Y4 u () λt o=>z t s2 o (eZ.refl _)
 rw[aB c2];by_cases c3:x=("swap":Str)
 ·rw[aH c3];exact go jx _ 3 () () λn R s2 u n1 z=>WE u () λt o=>z t s2 o (eZ.refl _)
 rw[aB c3];by_cases c4:x=("add":Str)
 ·rw[aH c4];exact go jK _ 4 () () λn R s2 u n1 z=>Qmq u () λt o=>z t s2 o (eZ.refl _)
 rw[aB c4];by_cases c5:x=("laid":Str)
 ·rw[aH c5];exact TV h1 λt s' o Y w=>by simp![];exact h t s' o Y (E.trans w)
 rw[aB c5];exact Yp h1 λt s' o Y w=>by simp![];exact h t s' o Y (E.trans w)
end
open PySem (Str)
structure Bd where
 S:Nat
 dn:Nat
 nx:Nat->Nat->Nat
 un:Nat->Nat->Nat
 st:Nat
inductive Ln where
 |settle (v:Nat)|act (b d:Nat) (gs:List Nat)
structure Hd where
 b0:Nat
 b1:Nat
 lines:List Ln
structure Hs where
 boards:List Bd
 hands:List Hd
structure Sd where
 ls:List Nat
 ss:List Nat
 deriving DecidableEq
noncomputable def bz(n:Nat):D:=.int (n:Int)
def nN(b:Bd):D:=.tup [iH b.S b.dn b.nx b.un,bz b.st]
def lJ:Ln->D
 | .settle v=>.tup [.str "settle",bz v]| .act b d gs=>.tup [.str "do",bz b,bz d,.tup (gs.map bz)]
def qh(h:Hd):D:=.tup [.tup [bz h.b0,bz h.b1],.tup (h.lines.map lJ)]
def gj(h:Hs):D:=.tup [.tup (h.boards.map nN),.tup (h.hands.map qh)]
def b8(s:Sd):D:=.tup [.tup (s.ls.map bz),.tup (s.ss.map bz)]
def wK(b:Bd):Prop:=tx b.S b.dn b.nx b.un/\b.st < b.S
def vF(bs:List Bd)(m:Nat):Ln->Prop
 | .settle v=>v < 2| .act b d gs=>∃h,bs[b]?=ξ h/\d < h.dn/\⇑gs=1+mx (h.un · d) h.S/\∀g∈gs,g < m
def vp(bs:List Bd)(h:Hd):Prop:=h.b0 < ⇑h.lines/\h.b1 < ⇑h.lines/\⇑h.lines<=12/\∀l∈h.lines,vF bs ⇑h.lines l
def ko(h:Hs):Prop:=⇑h.boards<=7/\(∀b∈h.boards,wK b)/\2<=⇑h.hands/\⇑h.hands<=3/\∀x∈h.hands,vp h.boards x
noncomputable def fE(h:Hs)(s:Sd):Prop:=⇑s.ls=⇑h.hands/\⇑s.ss=⇑h.boards/\(∀(k:Nat)hd l,h.hands[k]?=ξ hd->s.ls[k]?=ξ l->l < ⇑hd.lines)/\∀(b:Nat)bd x,h.boards[b]?=ξ bd->s.ss[b]?=ξ x->x < bd.S
noncomputable def mC:List Bd->Nat
 |[]=>1|b::bs=>b.S*mC bs
theorem Mw:∀(bs:List Bd)(b:Bd),mC (bs++[b])=mC bs*b.S
 |[],b=>by simp[mC]|c::bs,b=>by show c.S*mC (bs++[b])=c.S*mC bs*b.S;rw[Mw bs b,u8]
section
variable{p q:Nat}
theorem Qu{S n:Nat}{nx un:Nat->Nat->Nat}:wp (eN (iH S n nx un)) Q s=Q ↑S s:=by unfold iH;rw[yT,on]
theorem Tw{S n a:Nat}{nx un:Nat->Nat->Nat}(h:a < S):wp (aU (iH S n nx un) ↑a) Q s=Q (.tup (bY n λd=>.tup [.int (nx a d:Nat),.int (un a d:Nat)])) s:=by unfold iH;rw[nP,xA h]
theorem Pg{S n:Nat}{nx un:Nat->Nat->Nat}(h:0 < S):wp (aU (iH S n nx un) ↑0) Q s=Q (.tup (bY n λd=>.tup [.int (nx 0 d:Nat),.int (un 0 d:Nat)])) s:=by unfold iH;rw[nP,Zr h]
theorem Og{S n d:Nat}{nx un:Nat->Nat->Nat}(ok:tx S n nx un)(hd:d < n):wp (je [iH S n nx un,.int d]) Q s=Q ↑((1+mx (un · d) S:Nat):Int) s:=by
 let z:=ok.1;let o:=ok.2.1;let l:S<=eT:=iy ();let g:∀A s,wp (collect (aT 0) cB (c2 aU (c2 aU (am 0) (am 1)) (aL ↑1)) e9 (bY S λs=>.tup (bY n λd=>D.tup [.int (nx s d:Nat),.int (un s d:Nat)])) [ψ,ξ ↑d]) A s=A (bY S λi=>.int (un i d:Nat)) s:=λA s=>
  HG yU λi u Q=>by simp![↓xA hd]
 let h:∀(Q:D->aY->Prop)s,wp (vB (bY S λi=>.int (un i d:Nat))) Q s=Q ↑(mx (un · d) S:Nat) s:=λQ s=>Zu (f:=(un · d)) ();let e:(1+((mx (un · d) S:Nat):Int))=((1+mx (un · d) S:Nat):Int):=by ext
 unfold iH
 (simp![je];simp![jX,fT,on,l,↓g,↓h,e])
end
open PySem (Str)
section
variable{p q:Nat}{Q:D->aY->Prop}
def uJ(bs:List Bd)(m:Nat)(d:D):Prop:=∃l,d=lJ l/\vF bs m l
theorem Oe{bs:List Bd}{m:Nat}:∀{ds:List D},(∀d∈ds,uJ bs m d)->∃o:List Ln,ds=o.map lJ/\∀l∈o,vF bs m l
 |[],_=>⟨[],rfl,λl h=>bw h (by simp)⟩
 |d::ds,h=>by
  let⟨l,e,u⟩:=h d (by simp);let⟨o,C,z⟩:=Oe (ds:=ds) λx g=>h x (by simp[g]);refine⟨l::o,by rw[e,C];rfl,λx g=>?_⟩;rcases a_.mp g with g|g
  ·rw[g];exact u
  ·exact z x g
theorem O5{P:Nat->Prop}:∀{ds:List D},(∀d∈ds,∃n:Nat,d=bz n/\P n)->∃ns:List Nat,ds=ns.map bz/\∀n∈ns,P n
 |[],_=>⟨[],rfl,λl h=>bw h (by simp)⟩
 |d::ds,h=>by
  let⟨l,e,u⟩:=h d (by simp);let⟨o,C,z⟩:=O5 (ds:=ds) λx g=>h x (by simp[g]);refine⟨l::o,by rw[e,C];rfl,λx g=>?_⟩;rcases a_.mp g with g|g
  ·rw[g];exact u
  ·exact z x g
theorem Zi{O most:Nat}{bs:List Bd}(hp:PK p q s s1)(hg:s1[O]?=ξ (.lst (bs.map nN)))(hnp:O≠p)(Y:O≠q)(hb:∀b∈bs,wK b)(hbl:⇑bs<=7)(hm1:2<=most)(hm2:most<=12)(h:∀hd s',vp bs hd->⇑hd.lines<=most->PK p q s s'->Kept p q s1 s'->Q (qh hd) s'):wp (jM [.dic p,.ref O,.int most]) Q s1:=by
 let g1:∀Q,wp (getL O) Q s1=Q (bs.map nN) s1:=λQ=>eA hg;simp![ym,jM];refine nC hp () () λr t1 a0 a1 h1 w1=>?_;let g2:∀Q,wp (getL O) Q t1=Q (bs.map nN) t1:=λQ=>eA (w1.same hnp Y hg);simp![↓g2,af];obtain⟨G,hah,hah2,hah3⟩:∃G:Nat,(r*(if (0:Int) < (⇑bs:Int) then 1 else 0))=(G:Int)/\G+2<=most/\(0 < G->0 < ⇑bs):=by
  by_cases hz:(0:Int) < (⇑bs:Int)
  ·rw[aH hz];exact⟨r.toNat,by ext,by ext,λ_=>by ext⟩
  ·rw[aB hz];exact⟨0,by ext,by ext,λh=>by ext⟩
 rw[hah];refine⟨.inr (by by_cases hz:(0:Int) < (⇑bs:Int)<;>simp only[hz,if_true,if_false]<;>ext),?_⟩;clear hah a0 a1;refine nC h1 () () λso t2 b0 b1 h2 w2=>?_;let⟨so,rfl⟩:=rR b0;simp![bn,aR];refine⟨lO () (),?_⟩;let w12:=w1.trans w2;let pl:=h2.1.lt;let l2:=h2.2.le;let ls1:=hp.2.le;let lw:=w12.le;let oT:=hp.ow lw;let gb:=w12.same hnp Y hg;let lnb:=iq hg;refine rJ (λi l s'=>∃(C:List D)(y6 y7 y8 y9 y10 I:Option D),l=[ξ (.dic p),ξ (.ref O),ξ ↑most,ξ ↑G,ξ ↑so,ξ (.ref ⇑t2),y6,y7,y8,y9,y10,I,ψ,ψ]/\s'[⇑t2]?=ξ (.lst C)/\⇑C=i/\(∀r∈C,uJ bs (G+2) r)/\PK p q s s'/\Kept p q s1 s') (λ_ _ _ _=>trivial)
  ⟨[],ψ,ψ,ψ,ψ,ψ,ψ,rfl,i4,rfl,λr hr=>bw hr (by simp),h2.snoc,w12.snoc⟩ (λR1 i d l s' up rt hd J=>?_) (λl s' J=>?_)
 ·let⟨C,y6,y7,y8,y9,y10,I,el,g,hl,hr,hk,w⟩:=J;subst el;let⟨hi,ed⟩:=IK hd;subst ed;let hbp:=hah3 ();let q1:∀Q,wp (getL O) Q s'=Q (bs.map nN) s':=λQ=>eA (w.same hnp Y hg);simp![↓q1,af];refine nC hk () () λbi s2 bi0 bi1 hk2 v2=>?_;let⟨b,rfl⟩:=rR bi0;let hb1:b < ⇑bs:=by ext
  let U:bs[b]?=ξ bs[b]:=ag hb1;let⟨ok,hst⟩:=hb bs[b] (cM hb1);generalize bs[b]=E at U ok hst;let q2:∀Q,wp (getL O) Q s2=Q (bs.map nN) s2:=λQ=>eA ((w.trans v2).same hnp Y hg);let q3:∀(Q:D->aY->Prop)s,wp (cu (bs.map nN) (b:Int)) Q s=Q (.tup [iH E.S E.dn E.nx E.un,bz E.st]) s:=λQ s=>oG (by rw[ar,U];rfl);let t0:∀(Q:D->aY->Prop)s,wp (aU (iH E.S E.dn E.nx E.un) ↑0) Q s=Q (.tup (bY E.dn λd=>.tup [.int (E.nx 0 d:Nat),.int (E.un 0 d:Nat)])) s:=λQ s=>Pg ok.1;simp![↓q2,↓q3,↓t0,on];let dn1:=ok.2.2.1;let dn2:=ok.2.2.2.1;refine nC hk2 () () λdd h dd0 dd1 hk3 v3=>?_;let⟨d,rfl⟩:=rR dd0;let o:d < E.dn:=by ext
  let q4:∀Q,wp (getL O) Q (h++[.lst []])=Q (bs.map nN) (h++[.lst []]):=λQ=>eA (k_ (((w.trans v2).trans v3).same hnp Y hg));obtain⟨le,hle,hle2⟩:∃le:Nat,(∀(Q:D->aY->Prop)s,wp (cu [.int ((i:Int)+1),.int ((i:Int)+1),.int ((i:Int)+1),.int 0] so) Q s=Q ↑le s)/\le < G+2:=by
   rcases (show so=0\/so=1\/so=2\/so=3 by ext) with e|e|e|e<;>rw[e]
   ·exact⟨i+1,λQ s=>by rw[oG (i:=0) rfl];rfl,by ext⟩
   ·exact⟨i+1,λQ s=>by rw[oG (i:=1) rfl];rfl,by ext⟩
   ·exact⟨i+1,λQ s=>by rw[oG (i:=2) rfl];rfl,by ext⟩
   ·exact⟨0,λQ s=>by rw[oG (i:=3) rfl];rfl,by ext⟩
  let l4:4<=eT:=iy ();let an:∀(Q:D->aY->Prop)s,wp (je [iH E.S E.dn E.nx E.un,.int d]) Q s=Q ↑((1+mx (E.un · d) E.S:Nat):Int) s:=λQ s=>Og ok o;let hmx:mx (E.un · d) E.S<=3:=Rt λi hi=>by have:=(ok.2.2.2.2 i d hi o).2;ext
  simp![↓hle,l4,bn,↓q4,↓q3,↓an,aR];refine⟨lO () (),?_⟩;let p3:=hk3.1.lt;let v23:=w.trans (v2.trans v3);let lv:=v23.le;let gT:=(v2.trans v3).sm oT g;let lg:=iq gT;let oS:=hp.ow lv;refine rJ (λj l u=>∃(gs:List D)(I:Option D),l=[ξ (.dic p),ξ (.ref O),ξ ↑most,ξ ↑G,ξ ↑so,ξ (.ref ⇑t2),ξ ↑i,ξ ↑b,ξ ↑d,ξ ↑le,ξ (.ref ⇑h),I,ψ,ψ]/\u[⇑h]?=ξ (.lst gs)/\⇑gs=j/\(∀x∈gs,∃n:Nat,x=bz n/\n < G+2)/\u[⇑t2]?=ξ (.lst C)/\PK p q s u/\Kept p q s1 u) (λ_ _ _ _=>trivial)
   ⟨[],I,rfl,i4,rfl,λx H=>bw H (by simp),k_ gT,hk3.snoc,v23.snoc⟩ (λR2 j e l u up2 rt2 hje J=>?_) (λl u J=>?_)
  ·let⟨gs,I,el,ga,gl,gx,gr,hku,wu⟩:=J;subst el;let o:=(ac.mp hje).1;rw[n9]at o;simp![];refine nC hku () () λx v x0 x1 hkv wv=>?_;let⟨x,rfl⟩:=rR x0;let g:=wv.sm oS ga;let q5:∀Q,wp (getL ⇑h) Q v=Q gs v:=λQ=>eA g;let l:∀es Q,wp (putL ⇑h es) Q v=Q Unit.unit (v.set ⇑h (.lst es)):=λes Q=>rh g;simp![↓q5,↓l];refine⟨wr (),up2 ⟨_,_,rfl,ax (iq g),by simp[gl],λz hz=>?_,?_,hkv.pt oS,(wu.trans wv).pt oS⟩⟩
   ·rcases aS.mp hz with hz|hz
    ·exact gx z hz
    ·exact⟨le+x,by rw[aD.mp hz];unfold bz;congr 1,by ext⟩
   ·rw[aw ()];exact wv.sm oT gr
  ·let⟨gs,I,el,ga,gl,gx,gr,hku,wu⟩:=J;subst el;rw[n9]at gl;let q5:∀Q,wp (getL ⇑h) Q u=Q gs u:=λQ=>eA ga;let G:∀Q,wp (getL ⇑t2) Q u=Q C u:=λQ=>eA gr;let l:∀es Q,wp (putL ⇑t2 es) Q u=Q Unit.unit (u.set ⇑t2 (.lst es)):=λes Q=>rh gr;simp![↓q5,l4,↓G,↓l];let⟨ns,L,g⟩:=O5 gx;refine⟨wr (),up ⟨_,_,_,_,_,_,_,rfl,ax (iq gr),by simp[hl],λz hz=>?_,hku.pt oT,wu.pt oT⟩⟩;rcases aS.mp hz with hz|hz
   ·exact hr z hz
   ·refine⟨.act b d ns,by rw[aD.mp hz,L];rfl,E,U,o,?_,g⟩;rw[L,af]at gl;ext
 ·let⟨C,y6,y7,y8,y9,y10,I,el,g,hl,hr,hk,w⟩:=J;subst el;rw[n9]at hl;let U:2<=eT:=iy ();let l3:3<=eT:=iy ();simp![U];refine nC hk.snoc.snoc () () λe6 u e0 e1 hku wu=>?_;simp![];let Y:=wu.sm oT (k_ (k_ g):(s'++[_]++[_])[⇑t2]?=_);let e0':=wu.same (by have:=iq g;ext) (by have:=iq g;ext) (k_ i4:(s'++[MO.lst [D.tup [D.str "settle",D.int 0],D.tup [D.str "settle",D.int 1]]]++[MO.lst [D.tup [D.str "settle",D.int 1],D.tup [D.str "settle",D.int 0]]])[⇑s']?=_);let e1':=wu.same (by have:=iq g;simp;ext) (by have:=iq g;simp;ext) (i4:(s'++[MO.lst [D.tup [D.str "settle",D.int 0],D.tup [D.str "settle",D.int 1]]]++[MO.lst [D.tup [D.str "settle",D.int 1],D.tup [D.str "settle",D.int 0]]])[⇑(s'++[MO.lst [D.tup [D.str "settle",D.int 0],D.tup [D.str "settle",D.int 1]]])]?=_);let w3:Kept p q s1 u:=w.snoc.snoc.trans wu;let s0:uJ bs (G+2) (.tup [.str "settle",.int 0]):=⟨.settle 0,rfl,by show 0 < 2;ext⟩
  let O:uJ bs (G+2) (.tup [.str "settle",.int 1]):=⟨.settle 1,rfl,by show 1 < 2;ext⟩
  obtain⟨n,L,hn,hl2,hen,hit⟩:∃(n:Nat)(L:List D),u[n]?=ξ (.lst L)/\⇑L=2/\(∀x∈L,uJ bs (G+2) x)/\∀(Q:D->aY->Prop)s,wp (cu [.ref ⇑s',.ref ⇑(s'++[MO.lst [D.tup [D.str "settle",D.int 0],D.tup [D.str "settle",D.int 1]]])] (if e6=1 then 1 else 0)) Q s=Q (.ref n) s:=by
   by_cases he:e6=1
   ·refine⟨_,_,e1',rfl,λx H=>?_,λQ s=>by rw[aH he,my]⟩;simp at H;rcases H with H|H<;>rw[H]
    ·exact O
    ·exact s0
   ·refine⟨_,_,e0',rfl,λx H=>?_,λQ s=>by rw[aB he,nO]⟩;simp at H;rcases H with H|H<;>rw[H]
    ·exact s0
    ·exact O
  let ad:=λQ=>Hj (Q:=Q) Y hn;simp![↓hit,↓ad,U];refine⟨iy (),?_⟩;let hk4:=hku.snoc (o:=.lst (C++L));let w4:=w3.snoc (o:=.lst (C++L));let g4:(u++[MO.lst (C++L)])[⇑u]?=ξ (.lst (C++L)):=i4;let lu:⇑t2 < ⇑u:=iq Y;clear hit ad e0' e1' hn;generalize ⇑u=m at g4 lu;generalize u++[MO.lst (C++L)]=v at hk4 w4 g4;let⟨ls,els,hls⟩:=Oe (bs:=bs) (m:=G+2) (ds:=C++L) (λx H=>by
   rcases aS.mp H with H|H
   ·exact hr x H
   ·exact hen x H)
  let l:⇑ls=G+2:=by have:=cj e_ els;rw[aK,af]at this;ext
  let fin:∀(a b:Nat)v2,a < G+2->b < G+2->Kept p q v v2->PK p q s v2->(∀Q,wp (getL m) Q v2=Q (C++L) v2)/\Q (.tup [.tup [bz a,bz b],.tup (C++L)]) v2:=λa b v2 ha hb wv hkv=>by refine⟨λQ=>eA (wv.same () () g4),?_⟩;rw[els];exact h ⟨a,b,ls⟩ v2 ⟨by rw[l];exact ha,by rw[l];exact hb,by rw[l];ext,by rw[l];exact hls⟩ (by rw[l];ext) hkv (w4.trans wv)
  refine nC hk4 () () λx v1 x0 x1 hk5 w5=>?_;simp![];refine nC hk5 () () λy v2 y0 y1 hk6 w6=>?_;let⟨x,rfl⟩:=rR x0;let⟨y,rfl⟩:=rR y0;simp![U,l3,true_and];refine nC hk6 () () λz v3 z0 z1 hk7 w7=>?_;let⟨z,rfl⟩:=rR z0;obtain⟨a,b,hab,ha,hb⟩:∃a b:Nat,(∀(Q:D->aY->Prop)s,wp (cu [.tup [.int 0,.int 0],.tup [.int 0,.int (min 1 (G:Int))],.tup [.int x,.int y]] z) Q s=Q (.tup [bz a,bz b]) s)/\a < G+2/\b < G+2:=by
   rcases (show z=0\/z=1\/z=2 by ext) with e|e|e<;>rw[e]
   ·exact⟨0,0,λQ s=>by rw[oG (i:=0) rfl];rfl,by ext,by ext⟩
   ·exact⟨0,min 1 G,λQ s=>by rw[oG (i:=1) rfl,show min 1 (G:Int)=((min 1 G:Nat):Int) by ext];rfl,by ext,by ext⟩
   ·exact⟨x,y,λQ s=>by rw[oG (i:=2) rfl];rfl,by ext,by ext⟩
  simp![↓hab];clear hab;refine nC hk7 () () λt v4 f0 f1 hk8 w8=>?_;let E:=((w5.trans w6).trans w7).trans w8;simp![];by_cases ht:t=1
  ·rw[aH ht];refine nC hk8 () () λc C z c1 l o=>?_;simp![];refine nC l () () λd u d0 d1 g h=>?_;let⟨c,rfl⟩:=rR z;let⟨d,rfl⟩:=rR d0;let⟨gm,fq⟩:=fin c d u () () ((E.trans o).trans h) g;simp![U,↓gm,true_and];exact fq
  ·rw[aB ht];let⟨gm,fq⟩:=fin a b v4 ha hb E hk8;simp![U,↓gm,true_and];exact fq
def Ak(h:Hs):Prop:=ko h/\⇑h.boards<=4/\(⇑h.hands=2/\(∀x∈h.hands,⇑x.lines<=6)/\36*mC h.boards<=300\/⇑h.hands=3/\(∀x∈h.hands,⇑x.lines<=4)/\64*mC h.boards<=300)
theorem PQ{bs:List Bd}{most:Nat}:∀{ds:List D},(∀d∈ds,∃x,d=qh x/\vp bs x/\⇑x.lines<=most)->∃xs:List Hd,ds=xs.map qh/\∀x∈xs,vp bs x/\⇑x.lines<=most
 |[],_=>⟨[],rfl,λl h=>bw h (by simp)⟩
 |d::ds,h=>by
  let⟨l,e,u⟩:=h d (by simp);let⟨o,C,z⟩:=PQ (ds:=ds) λx g=>h x (by simp[g]);refine⟨l::o,by rw[e,C];rfl,λx g=>?_⟩;rcases a_.mp g with g|g
  ·rw[g];exact u
  ·exact z x g
theorem Xp{nb nh:Nat}{sorts:List Str}(hp:PK p q s s1)(hg:s1[nb]?=ξ (.lst (sorts.map D.str)))(hnp:nb≠p)(hnq:nb≠q)(hl1:1<=⇑sorts)(hl2:⇑sorts<=100)(hh:nh=2\/nh=3)(h:∀x s',Ak x->PK p q s s'->Kept p q s1 s'->Q (gj x) s'):wp (jv [.dic p,.int nh,.ref nb]) Q s1:=by
 let O:2<=nh/\nh<=3:=by ext
 obtain⟨base,most,hbase,Y,hbm⟩:∃base most:Nat,(∀(Q:D->aY->Prop)s,wp (cu [.int 36,.int 64] ((nh:Int)-2)) Q s=Q ↑base s)/\(∀(Q:D->aY->Prop)s,wp (cu [.int 6,.int 4] ((nh:Int)-2)) Q s=Q ↑most s)/\(nh=2/\base=36/\most=6\/nh=3/\base=64/\most=4):=by
  rcases hh with e|e<;>subst e
  ·exact⟨36,6,λQ s=>nO,λQ s=>nO,.inl ⟨rfl,rfl,rfl⟩⟩
  ·exact⟨64,4,λQ s=>my,λQ s=>my,.inr ⟨rfl,rfl,rfl⟩⟩
 let l2:2<=eT:=iy ();let l1:1<=eT:=iy ()
 (simp![jv];simp![ye,bn,l2,↓hbase])
 let pl:=hp.1.lt;let lnb:=iq hg;let ls:=hp.2.le;refine nC hp.snoc () () λr t1 a0 a1 h1 w1=>?_;simp![];let hc:(0:Int) < 3+2*(if r=0 then 1 else 0)/\3+2*(if r=0 then (1:Int) else 0)<=5:=by by_cases hr:r=0<;>simp only[hr,if_true,if_false]<;>ext
 refine⟨.inl ⟨by ext,by ext⟩,?_⟩;refine nC h1 () () λn t2 b0 b1 h2 C=>?_;let⟨n,rfl⟩:=rR b0;let hn4:n<=4:=by ext
 clear hc b1;simp![aR];refine⟨lO () (),?_⟩;let I:=hp.ow (aA _);let w12:Kept p q s1 t2:=Kept.refl.snoc.trans (w1.trans C);let gb0:t2[⇑s1]?=ξ (.lst []):=(w1.trans C).sm I i4;refine rJ (λi l u=>∃(bs:List Bd)(y5 y6:Option D),l=[ξ (.dic p),ξ ↑nh,ξ (.ref nb),ξ (.ref ⇑s1),ξ ↑((base*mC bs:Nat):Int),y5,y6,ψ]/\u[⇑s1]?=ξ (.lst (bs.map nN))/\⇑bs<=i/\(∀b∈bs,wK b)/\base*mC bs<=300/\PK p q s u/\Kept p q s1 u) (λ_ _ _ _=>trivial)
  ⟨[],ψ,ψ,by simp[mC],gb0,aA _,λb hb=>bw hb (by simp),by simp only[mC];ext,h2,w12⟩ (λR1 i d l u up rt hd G=>?_) (λl u G=>?_)
 ·let⟨bs,y5,y6,el,g,J,hb,hN,hk,w⟩:=G;subst el;let Y:=(ac.mp hd).1;rw[n9]at Y;simp![];refine RW hk (w.same hnp hnq hg) hnp hnq hl1 hl2 λt v O E L=>?_;let⟨S,h,nx,un,et,ok⟩:=QE O;rw[et];let lt':∀(Q:D->aY->Prop)s,wp (eN (iH S h nx un)) Q s=Q ↑S s:=λQ s=>Qu;let s4:=ok.2.1;let u:=ok.1;simp![↓lt'];refine⟨.inr ⟨by ext,by ext⟩,?_⟩;let U:=L.sm I g;by_cases hc:((base*mC bs:Nat):Int)*(S:Int)<=300
  ·rw[aH hc];refine⟨.inr ⟨by ext,by ext⟩,?_⟩;refine nC E () () λx v2 o l z C=>?_;let⟨x,rfl⟩:=rR o;let g2:=C.sm I U;let q1:∀Q,wp (getL ⇑s1) Q v2=Q (bs.map nN) v2:=λQ=>eA g2;let q2:∀es Q,wp (putL ⇑s1 es) Q v2=Q Unit.unit (v2.set ⇑s1 (.lst es)):=λes Q=>rh g2;simp![l2,↓q1,↓q2,af];let g:((base*mC bs:Nat):Int)*(S:Int)=((base*mC (bs++[⟨S,h,nx,un,x⟩]):Nat):Int):=by rw[Mw,<- u8];simp
   refine⟨wr (),up ⟨bs++[⟨S,h,nx,un,x⟩],_,_,by rw[g],?_,by simp;ext,λb H=>?_,by ext,z.pt I,((w.trans L).trans C).pt I⟩⟩
   ·rw[ax (iq g2),aV];rfl
   ·rcases aS.mp H with H|H
    ·exact hb b H
    ·rw[aD.mp H];exact⟨ok,IB.mp l⟩
  ·rw[aB hc];exact up ⟨bs,_,_,rfl,U,by ext,hb,hN,E,w.trans L⟩
 ·let⟨bs,y5,y6,el,g,J,hb,hN,hk,w⟩:=G;subst el;rw[n9]at J;simp![fT,aR,n9];refine⟨lO () (),iy (),?_⟩;refine BB (By nh) (λd=>∃x,d=qh x/\vp bs x/\⇑x.lines<=most) (λv=>v[⇑s1]?=ξ (.lst (bs.map nN))/\PK p q s v/\Kept p q s1 v) (λ_ _=>trivial) ⟨g,hk,w⟩ B0 (λd v _ G=>?_) (λo v ho hP G=>?_)
  ·let⟨U,E,L⟩:=G;simp![l2,↓Y];exact Zi E U I.2.2.1 I.2.2.2 hb () () () λx v2 u g z C=>⟨⟨x,rfl,u,g⟩,C.sm I U,z,L.trans C⟩
  ·let⟨U,E,L⟩:=G;rw[n9]at ho;let Y:∀(m:Nat)(ds:List D)v2,v2[m]?=ξ (.lst ds)->⇑ds=nh->(∀d∈ds,∃x,d=qh x/\vp bs x/\⇑x.lines<=most)->v2[⇑s1]?=ξ (.lst (bs.map nN))->PK p q s v2->Kept p q s1 v2->(∀Q,wp (getL m) Q v2=Q ds v2)/\(∀Q,wp (getL ⇑s1) Q v2=Q (bs.map nN) v2)/\Q (.tup [.tup (bs.map nN),.tup ds]) v2:=λm ds v2 g1 g hP g2 z C=>by
    refine⟨λQ=>eA g1,λQ=>eA g2,?_⟩;let⟨xs,ex,u⟩:=PQ hP;rw[ex,af]at g;rw[ex];refine h ⟨bs,xs⟩ v2 ⟨⟨bH J (),hb,bH O.1 (vL g.symm),bH (vL g) O.2,λy l=>(u y l).1⟩,bH J hn4,?_⟩ z C;rcases hbm with ⟨e1,e2,e3⟩|⟨e1,e2,e3⟩
    ·exact .inl ⟨g.trans e1,λy l=>e3 ▸ (u y l).2,by show 36*mC bs<=300;rw[e2]at hN;exact hN⟩
    ·exact .inr ⟨g.trans e1,λy l=>e3 ▸ (u y l).2,by show 64*mC bs<=300;rw[e2]at hN;exact hN⟩
   simp![];refine nC E.snoc () () λr2 v2 c0 c1 z C=>?_;simp![];let go:=iq U;let hne:¬ (⇑v=p\/⇑v=q):=by have:=E.1.lt;ext
   let g3:v2[⇑v]?=ξ (.lst o):=C.same () () i4;let g4:=C.sm I (k_ U:(v++[MO.lst o])[⇑s1]?=_);by_cases H:r2=0
   ·rw[aH H];let h:0 < ⇑o:=by ext
    let q1:∀Q,wp (getL ⇑v) Q v2=Q o v2:=λQ=>eA g3;let q2:∀(Q:D->aY->Prop)s,wp (cu o 0) Q s=Q o[0] s:=λQ s=>by have:=@oG Q s o 0 o[0] (ag h);simpa using this
    simp![↓q1,↓q2,l1,l2,aR,Nat.one_mul];refine⟨⟨⟨by ext,by ext⟩,iy ()⟩,?_⟩;let⟨f1,f2,f3⟩:=Y ⇑v2 (aE nh [o[0]]).flatten (v2++[.lst (aE nh [o[0]]).flatten]) i4 (by simp) (λd hd=>by let⟨l,g,hd⟩:=List.mem_flatten.mp hd;rw[mr g]at hd;rw[aD.mp hd];exact hP _ (cM h)) (k_ g4) z.snoc ((L.snoc.trans C).snoc)
    simp![↓f1,↓f2,l2,true_and];exact f3
   ·rw[aB H];let⟨f1,f2,f3⟩:=Y _ _ _ g3 ho hP g4 z (L.snoc.trans C);simp![↓f1,↓f2,l2,true_and];exact f3
def uf(h:Hs):Prop:=ko h/\⇑h.boards<=4/\∃B:Nat,B<=8/\(∀x∈h.hands,⇑x.lines<=B)/\B^⇑h.hands*mC h.boards<=1300
theorem V3(c:Ak h):uf h:=by
 let⟨a,b,c⟩:=c;rcases c with ⟨l,g,o⟩|⟨l,g,o⟩
 ·exact⟨a,b,6,by ext,g,by rw[l];show 36*_<=1300;ext⟩
 ·exact⟨a,b,4,by ext,g,by rw[l];show 64*_<=1300;ext⟩
end
open PySem (Str)
theorem Ja:((("do":Str))="settle")=False:=by
 have:¬ (("do":Str)="settle"):=by decide
 simp[this]
noncomputable def cN(h:Hs)(s:Sd)(k:Nat):Ln:=((h.hands[k]?.bind λhd=>s.ls[k]?.bind λl=>hd.lines[l]?)).getD (.settle 0)
def fQ(h:Hs)(s:Sd)(k:Nat):Sd:=match cN h s k with
 | .settle _=>s
 | .act b d gs=>match h.boards[b]?,s.ss[b]? with|some bd,ξ x=>⟨s.ls.set k ((gs[bd.un x d]?).getD 0),s.ss.set b (bd.nx x d)⟩|_,_=>s
section
variable{p q:Nat}{h:Hs}{st:Sd}
theorem Bu{xs:List Nat}{i x:Nat}(h:xs[i]?=ξ x):wp (cu (xs.map bz) (i:Int)) Q s=Q ↑(x:Nat) s:=oG (by rw[ar,h];rfl)
theorem BF{k:Nat}(hh:ko h)(C:fE h st)(E:k < ⇑h.hands):∃hd l,h.hands[k]?=ξ hd/\st.ls[k]?=ξ l/\l < ⇑hd.lines/\hd.lines[l]?=ξ (cN h st k)/\vF h.boards ⇑hd.lines (cN h st k):=by
 let g:h.hands[k]?=ξ h.hands[k]:=ag E;let u:k < ⇑st.ls:=by rw[C.1];exact E
 let z:st.ls[k]?=ξ st.ls[k]:=ag u;let o:=C.2.2.1 k _ _ g z;let H:h.hands[k].lines[st.ls[k]]?=ξ (h.hands[k].lines[st.ls[k]]):=ag o;let G:cN h st k=h.hands[k].lines[st.ls[k]]:=by unfold cN;rw[g,z];simp only[km,H,il]
 refine⟨_,_,g,z,o,by rw[H,G],?_⟩;rw[G];exact (hh.2.2.2.2 _ (aJ g)).2.2.2 _ (cM o)
theorem G8{b d:Nat}{m:Nat}(hh:ko h)(G:fE h st)(I:vF h.boards m (.act b d E)):∃l x g,h.boards[b]?=ξ l/\st.ss[b]?=ξ x/\x < l.S/\d < l.dn/\E[l.un x d]?=ξ g/\g < m/\l.nx x d < l.S/\tx l.S l.dn l.nx l.un:=by
 let⟨l,o,hd,J,z⟩:=I;let L:=(ac.mp o).1;let C:b < ⇑st.ss:=by rw[G.2.1];exact L
 let H:st.ss[b]?=ξ st.ss[b]:=ag C;let u:=G.2.2.2 b l _ o H;let⟨ok,_⟩:=hh.2.1 l (aJ o);let hu:l.un st.ss[b] d < ⇑E:=by rw[J];have:l.un st.ss[b] d<=mx (l.un · d) l.S:=QjY (f:=(l.un · d)) u;ext
 exact⟨l,_,_,o,H,u,hd,ag hu,z _ (cM hu),(ok.2.2.2.2 _ _ u hd).1,ok⟩
theorem GD{b d k:Nat}{x g:Nat}(e:cN h st k=.act b d o)(C:h.boards[b]?=ξ l)(z:st.ss[b]?=ξ x)(u:o[l.un x d]?=ξ g):fQ h st k=⟨st.ls.set k g,st.ss.set b (l.nx x d)⟩:=by unfold fQ;rw[e];dsimp only;rw[C,z];dsimp only;rw[u];rfl
theorem Kc{v k:Nat}(e:cN h st k=.settle v):fQ h st k=st:=by unfold fQ;rw[e]
theorem DT{k:Nat}(hh:ko h)(u:fE h st)(Y:k < ⇑h.hands):fE h (fQ h st k):=by
 let⟨hd,l,e1,e2,hl,e3,ok⟩:=BF hh u Y;cases el:cN h st k with|settle v=>rw[Kc el];exact u|act b d gs=>
  rw[el]at ok;let⟨bd,x,g,U,O,f3,f4,f5,f6,Q,f8⟩:=G8 hh u ok;rw[GD el U O f5];refine⟨by show ⇑(st.ls.set k g)=_;rw[cJ];exact u.1,by show ⇑(st.ss.set b _)=_;rw[cJ];exact u.2.1,λC E L z I=>?_,λH G J z I=>?_⟩
  ·let o:(st.ls.set k g)[C]?=ξ L:=I;by_cases e:k=C
   ·subst e;rw[e1]at z;cases z;rw[ax (ac.mp e2).1]at o;cases o;exact f6
   ·rw[aw e]at o;exact u.2.2.1 C E L z o
  ·let o:(st.ss.set b (bd.nx x d))[H]?=ξ J:=I;by_cases e:b=H
   ·subst e;rw[U]at z;cases z;rw[ax (ac.mp O).1]at o;cases o;exact Q
   ·rw[aw e]at o;exact u.2.2.2 H G J z o
theorem S0{xs:List D}{i:Nat}(g:i < ⇑xs):¬(gQ ⇑xs 0 ψ=0/\gQ ⇑xs ⇑xs (ξ (i:Int))=⇑xs)/\cutD xs ψ (ξ (i:Int))=xs.take i:=by
 refine⟨?_,?_⟩
 ·unfold gQ;simp only[aR];rw[aB ()];ext
 ·unfold cutD gQ;simp only[aR];rw[aB (),oy];congr 1;ext
theorem Oi{xs:List D}{i:Nat}(g:i < ⇑xs):¬(gQ ⇑xs 0 (ξ ((i:Int)+1))=0/\gQ ⇑xs ⇑xs ψ=⇑xs)/\cutD xs (ξ ((i:Int)+1)) ψ=xs.drop (i+1):=by
 refine⟨?_,?_⟩
 ·unfold gQ;dsimp only;rw[aB ()];ext
 ·unfold cutD gQ;have:(if (i:Int)+1 < 0 then ((i:Int)+1+(⇑xs:Int)).toNat else min ((i:Int)+1).toNat ⇑xs)=i+1:=by rw[aB ()];ext
  simp only[this];exact m9 (by rw[gq];exact aA _)
theorem QD{xs:List D}{i:Nat}(g:i < ⇑xs):xs.take i++[v]++xs.drop (i+1)=xs.set i v:=by rw[qx,aH g];simp
theorem NW{k:Nat}(hh:ko h)(E:fE h st)(hk:k < ⇑h.hands):wp (jb [gj h,b8 st,.int k]) Q s=Q (b8 (fQ h st k)) s:=by
 let⟨hd,l,e1,e2,hl,e3,ok⟩:=BF hh E hk;let H:∀(Q:D->aY->Prop)s,wp (cu (h.hands.map qh) (k:Int)) Q s=Q (.tup [.tup [bz hd.b0,bz hd.b1],.tup (hd.lines.map lJ)]) s:=λQ s=>oG (by rw[ar,e1];rfl);let G:∀(Q:D->aY->Prop)s,wp (cu (st.ls.map bz) (k:Int)) Q s=Q ↑(l:Nat) s:=λQ s=>Bu e2;let C:∀(Q:D->aY->Prop)s,wp (cu (hd.lines.map lJ) (l:Int)) Q s=Q (lJ (cN h st k)) s:=λQ s=>oG (by rw[ar,e3];rfl);cases el:cN h st k with
 |settle v=>
  rw[Kc el];rw[el]at C;simp only[lJ]at C;unfold gj b8
  (simp![jb];simp![jQ,↓H,↓G,↓C,beq_self_eq_true])
 |act b d gs=>
  rw[el]at ok C;let⟨o,x,g,f1,I,f3,f4,f5,f6,f7,f8⟩:=G8 hh E ok;rw[GD el f1 I f5];simp only[lJ]at C;let u:k < ⇑(st.ls.map bz):=by rw[af,E.1];exact hk
  let z:b < ⇑(st.ss.map bz):=by rw[af];exact (ac.mp I).1
  let z1:=E.1;let z2:=E.2.1;let z3:=hh.1;let z4:=hh.2.2.2.1;let v1:∀(Q:D->aY->Prop)s,wp (cu (h.boards.map nN) (b:Int)) Q s=Q (.tup [iH o.S o.dn o.nx o.un,bz o.st]) s:=λQ s=>oG (by rw[ar,f1];rfl);let v2:∀(Q:D->aY->Prop)s,wp (cu (st.ss.map bz) (b:Int)) Q s=Q ↑(x:Nat) s:=λQ s=>Bu I;let J:∀(Q:D->aY->Prop)s,wp (cu (gs.map bz) ((o.un x d:Nat):Int)) Q s=Q ↑(g:Nat) s:=λQ s=>Bu f5;let v4:∀(Q:D->aY->Prop)s,wp (aU (iH o.S o.dn o.nx o.un) ↑x) Q s=Q (.tup (bY o.dn λd=>.tup [.int (o.nx x d:Nat),.int (o.un x d:Nat)])) s:=λQ s=>Tw f3;let⟨c1,c2⟩:=S0 u;let⟨c3,c4⟩:=Oi u;let⟨c5,c6⟩:=S0 z;let⟨c7,c8⟩:=Oi z;let l1:1<=eT:=iy ();let l2:2<=eT:=iy ();let ll:⇑(st.ls.map bz)=⇑st.ls:=by simp
  let lb:⇑(st.ss.map bz)=⇑st.ss:=by simp
  let Y:⇑((st.ls.map bz).take k)+1<=eT:=iy (by rw[cL];ext);let U:∀v:D,⇑((st.ls.map bz).take k++[v])+⇑((st.ls.map bz).drop (k+1))<=eT:=λv=>iy (by rw[aK,cL,gq];simp;ext);let O:⇑((st.ss.map bz).take b)+1<=eT:=iy (by rw[cL];ext);let L:∀v:D,⇑((st.ss.map bz).take b++[v])+⇑((st.ss.map bz).drop (b+1))<=eT:=λv=>iy (by rw[aK,cL,gq];simp;ext);unfold gj b8;unfold bz at C G v2 J H v1 c1 c2 c3 c4 c5 c6 c7 c8 Y U O L u z ⊢
  (simp![jb];simp![jQ,↓H,↓G,↓C,Ja,↓v1,↓v2,↓J,↓v4,↓xA f4,c1,c2,c3,c4,c5,c6,c7,c8,not_false_eq_true,l1,l2,Y,U,O,L,QD u,QD z])
  rw[qO,qO]
noncomputable def o8:Ln->Bool
 | .act _ _ _=>θ|_=>ω
def fr(h:Hs)(st:Sd):List Nat:=(bU ⇑h.hands).filter λk=>o8 (cN h st k)
theorem Kr(hh:ko h)(H:fE h st):wp (jc [gj h,b8 st]) Q s=Q (.ref ⇑s) (s++[.lst ((fr h st).map bz)]):=by
 let z4:=hh.2.2.2.1;let L:=lO (show (0:Int)<=(⇑h.hands:Int) by ext) ();let E:⇑h.hands<=eT:=iy ();let w:∀A,wp (collect (aT 0) (cK (c2 oF (c2 aU (c2 aU (c2 aU (c2 aU (c2 aU (am 1) (aL ↑1)) (am 0)) (aL ↑1)) (c2 aU (c2 aU (am 2) (aL ↑0)) (am 0))) (aL ↑0)) (aL (.str "do")))) (am 0) e9 (bY ⇑h.hands λi=>.int i) [ψ,ξ (gj h),ξ (b8 st)]) A s=A ((fr h st).map bz) s:=λA=>by
  rw[R_ (l0:=[]) (λl=>∃x,l=[x,ξ (gj h),ξ (b8 st)]) (λd=>match d with| .int i=>o8 (cN h st i.toNat)|_=>ω) id yU _ _ ⟨_,rfl⟩ (λd hd l g=>by
   let⟨x,el⟩:=g;let⟨i,J⟩:=eU hd;let⟨I,O⟩:=zK J;subst O el;let⟨hd,l,e1,Y,C,U,ok⟩:=BF hh H I;let z:∀(Q:D->aY->Prop)s,wp (cu (h.hands.map qh) (i:Int)) Q s=Q (.tup [.tup [bz hd.b0,bz hd.b1],.tup (hd.lines.map lJ)]) s:=λQ s=>oG (by rw[ar,e1];rfl);let u:∀(Q:D->aY->Prop)s,wp (cu (st.ls.map bz) (i:Int)) Q s=Q ↑(l:Nat) s:=λQ s=>Bu Y;let o:∀(Q:D->aY->Prop)s,wp (cu (hd.lines.map lJ) (l:Int)) Q s=Q (lJ (cN h st i)) s:=λQ s=>oG (by rw[ar,U];rfl);refine⟨[ξ ↑i,ξ (gj h),ξ (b8 st)],λG=>by simp![],⟨_,rfl⟩,λT=>?_,λQ=>by simp![];rfl⟩;dsimp only;rw[aR];unfold gj b8;cases el:cN h st i with
   |settle v=>
    rw[el]at o;simp only[lJ]at o;simp![↓z,↓u,↓o];rw[show ((("settle":Str)) == "do")=ω by decide];rfl
   |act b d gs=>
    rw[el]at o;simp only[lJ]at o;simp![↓z,↓u,↓o];rw[show ((("do":Str)) == "do")=θ by decide];rfl)]
  congr 1;rw[List.map_id];unfold bY fr;rw[List.filter_map];have:(λk:Nat=>o8 (cN h st k))=(λd=>match d with
   |D.int i=>o8 (cN h st i.toNat)
   |_=>ω) ∘ λi:Nat=>D.int i:=by funext k;simp
  rw[<- this];rfl
 let C:∀(Q:D->aY->Prop),wp (aU (gj h) ↑1) Q s=Q (.tup (h.hands.map qh)) s:=λQ=>by unfold gj;rw[nP,my]
 (simp![jc];simp![yw,↓C,af,L,fT,aR,Ef,on,E,↓w])
theorem zM{k:Nat}(g:k∈fr h st):k < ⇑h.hands:=cC.mp (dO.mp g).1
end
noncomputable def ot:Nat->List (List D)
 |0=>[[]]|n+1=>((ot n).map λx=>x++[.int 0])++((ot n).map λx=>x++[.int 1])
noncomputable def mY:Nat->List (List D)
 |0=>[[]]|n+1=>((mY n).map λx=>.int 0::x)++((mY n).map λx=>.int 1::x)
theorem OA:∀n,∀x∈ot n,⇑x=n
 |0,x,h=>by simp[ot]at h;simp[h]|n+1,x,h=>by simp only[ot,aS,bA]at h;rcases h with ⟨y,g,e⟩|⟨y,g,e⟩<;>rw[<- e]<;>simp[OA n y g]
theorem QY:∀n,⇑(ot n)=2^n
 |0=>rfl|n+1=>by simp only[ot,aK,af,QY n,vW];ext
theorem Se:∀n,⇑(mY n)=2^n
 |0=>rfl|n+1=>by simp only[mY,aK,af,Se n,vW];ext
theorem BG:∀n,∀x∈mY n,⇑x=n/\∀(k:Nat)d,x[k]?=ξ d->d=.int 0\/d=.int 1
 |0,x,h=>by simp[mY]at h;simp[h]
 |n+1,x,h=>by
  simp only[mY,aS,bA]at h;rcases h with ⟨y,g,e⟩|⟨y,g,e⟩
  ·let⟨a,b⟩:=BG n y g;rw[<- e];refine⟨by simp[a],λk d hd=>?_⟩;cases k with|zero=>exact .inl (by simpa using hd.symm)|succ k=>exact b k d (by simpa using hd)
  ·let⟨a,b⟩:=BG n y g;rw[<- e];refine⟨by simp[a],λk d hd=>?_⟩;cases k with|zero=>exact .inr (by simpa using hd.symm)|succ k=>exact b k d (by simpa using hd)
theorem ZG:uw ((ot 2).map D.tup)=ξ ((mY 2).map D.tup):=by rfl
theorem Tq:uw ((ot 3).map D.tup)=ξ ((mY 3).map D.tup):=by rfl
section
variable{s:aY}{Q:D->aY->Prop}{h:Hs}
theorem SV{xs:List (List D)}{v:Int}{n:Nat}(g:s[n]?=ξ (.lst (xs.map D.tup)))(z:∀x∈xs,⇑x<=100):wp (collect (aT 0) cB (c2 dg (am 0) (dD (au (aL ↑v) bb))) (ij n (xs.map D.tup)) (xs.map D.tup) [ψ]) A s=A ((xs.map λx=>x++[.int v]).map D.tup) s:=by
 let u:1<=eT:=iy ();have:=@A0 (c2 dg (am 0) (dD (au (aL ↑v) bb))) (ij n (xs.map D.tup)) (xs.map D.tup) [] (λi=>.tup ((xs.getD i [])++[.int v])) A s g (λi d hd Q=>by
  rw[ar]at hd;cases ex:xs[i]? with|none=>rw[ex]at hd;cases hd|some x=>
   rw[ex]at hd;let E:d=.tup x:=(aO hd).symm;subst E;let o:⇑x+1<=eT:=iy (by have:=z x (aJ ex);ext);let C:xs.getD i []=x:=by rw[fj,ex];rfl
   simp![u,o,C])
 rw[this,af];congr 1;symm;apply AZ
 ·simp
 ·intro i l;rw[ar,ar,ag l];simp[l]
theorem XG(hn:⇑h.hands=2\/⇑h.hands=3)(hq:∀r s',⇑s<=r->s'[r]?=ξ (.lst ((mY ⇑h.hands).map D.tup))->eZ s s'->Q (.ref r) s'):wp (jF [gj h]) Q s:=by
 let l0:0<=eT:=bn _;let Y:1<=eT:=iy ()
 (simp![jF];simp![jZ,gj,l0,Y])
 refine KU (λi l s'=>∃n G,l=[ξ (.tup [.tup (h.boards.map nN),.tup (h.hands.map qh)]),ξ (.ref n),G]/\s'[n]?=ξ (.lst ((ot i).map D.tup))/\eZ s s') (λ_ _ _ _=>trivial) ⟨_,_,rfl,by simp[ot],(eZ.refl _).snoc _⟩ (λi d l s' hd z=>?_) (λl s' z=>?_)
 ·let⟨n,G,el,g,ex⟩:=z;subst el;let l:=(ac.mp hd).1;rw[af]at l;let hc:=QY i;let h8:2^i<=8:=by
   have:i<=3:=by ext
   calc 2^i<=2^3:=Nat.pow_le_pow_right () this
    _=8:=rfl
  let u:∀x∈ot i,⇑x<=100:=λx h=>by have:=OA i x h;ext
  let H:∀Q,wp (getL n) Q s'=Q ((ot i).map D.tup) s':=λQ=>eA g;let J:⇑(ot i)<=eT:=iy ();let Y:∀A,wp (collect (aT 0) cB (c2 dg (am 0) (dD (au (aL ↑0) bb))) (ij n ((ot i).map D.tup)) ((ot i).map D.tup) [ψ]) A s'=A (((ot i).map λx=>x++[.int 0]).map D.tup) s':=λA=>SV g u;simp![↓H,fT,af,J,↓Y];let C:eZ s' (s'++[.lst (((ot i).map λx=>x++[.int 0]).map D.tup)]):=(eZ.refl _).snoc _;let O:(s'++[MO.lst (((ot i).map λx=>x++[.int 0]).map D.tup)])[⇑s']?=ξ (.lst (((ot i).map λx=>x++[.int 0]).map D.tup)):=by simp
  generalize s'++[MO.lst (((ot i).map λx=>x++[.int 0]).map D.tup)]=o at C O;let U:∀Q,wp (getL n) Q o=Q ((ot i).map D.tup) o:=λQ=>eA (C.at_ g);let I:∀A,wp (collect (aT 0) cB (c2 dg (am 0) (dD (au (aL ↑1) bb))) (ij n ((ot i).map D.tup)) ((ot i).map D.tup) [ψ]) A o=A (((ot i).map λx=>x++[.int 1]).map D.tup) o:=λA=>SV (C.at_ g) u;simp![↓U,fT,af,J,↓I];let E:eZ o (o++[.lst (((ot i).map λx=>x++[.int 1]).map D.tup)]):=(eZ.refl _).snoc _;let L:(o++[MO.lst (((ot i).map λx=>x++[.int 1]).map D.tup)])[⇑o]?=ξ (.lst (((ot i).map λx=>x++[.int 1]).map D.tup)):=by simp
  generalize o++[MO.lst (((ot i).map λx=>x++[.int 1]).map D.tup)]=sb at E L;rw[Hj (E.at_ O) L];refine⟨iy (by simp;ext),?_⟩;simp![];refine⟨_,_,rfl,?_,((ex.trans C).trans E).snoc _⟩;simp[ot]
 ·let⟨n,G,el,g,ex⟩:=z;subst el;rw[af]at g;let H:∀Q,wp (getL n) Q s'=Q ((ot ⇑h.hands).map D.tup) s':=λQ=>eA g;let ks:uw ((ot ⇑h.hands).map D.tup)=ξ ((mY ⇑h.hands).map D.tup):=by
   rcases hn with e|e<;>rw[e]
   ·exact ZG
   ·exact Tq
  let ws:∀Q,wp (o_ (.ref n)) Q s'=Q (.ref ⇑s') (s'++[.lst ((mY ⇑h.hands).map D.tup)]):=λQ=>by unfold o_;rw[dR,H,ks];dsimp only;rw[eX]
  simp![↓ws];exact hq _ _ ex.le (by simp) (ex.snoc _)
end
open PySem (Str)
theorem qY{n:Nat}(h:n<=5000):n < eT:=zD h (by decide)
theorem kr{n:Nat}(h:n<=5000):n<=eT:=nD (qY h)
section
variable{s:aY}{Q:D->aY->Prop}{h:Hs}
noncomputable def bf(h:Hs)(row:List D)(k:Nat):Nat:=match h.hands[k]?,row[k]? with|some hd,ξ ↑v=>if v=0 then hd.b0 else hd.b1|_,_=>0
noncomputable def zR(h:Hs)(k:Nat):Nat:=(h.boards[k]?.map (·.st)).getD 0
def n5(h:Hs)(row:List D):Sd:=⟨bY ⇑h.hands (bf h row),bY ⇑h.boards (zR h)⟩
theorem M_{row:List D}(hh:ko h)(I:row∈mY ⇑h.hands):fE h (n5 h row):=by
 let⟨H,g⟩:=BG _ row I;refine⟨on,on,λk hd l o C=>?_,λb L x o C=>?_⟩
 ·let⟨J,el⟩:=zK C;let⟨G,u,_⟩:=hh.2.2.2.2 hd (aJ o);let z:k < ⇑row:=by ext
  let E:row[k]?=ξ row[k]:=ag z;rw[el];unfold bf;rcases g k _ E with e|e<;>rw[o,E,e]
  ·exact G
  ·exact u
 ·let⟨J,el⟩:=zK C;let⟨_,u⟩:=hh.2.1 L (aJ o);rw[el];unfold zR;rw[o];exact u
theorem T7{row:List D}(hh:ko h)(U:row∈mY ⇑h.hands)(l:Q (b8 (n5 h row)) s):wp (ju [gj h,.tup row]) Q s:=by
 let⟨z,g⟩:=BG _ row U;let z1:=hh.1;let z4:=hh.2.2.2.1;let hb:=lO (show (0:Int)<=(⇑h.hands:Int) by ext) ();let O:⇑h.hands<=eT:=kr ();let J:⇑h.boards<=eT:=kr ();let L:2<=eT:=kr ()
 refine let f:Nat->Nat:=bf h row;?_
 let w:∀A s,wp (collect (aT 0) cB (c2 aU (c2 aU (c2 aU (c2 aU (am 1) (aL ↑1)) (am 0)) (aL ↑0)) (c2 aU (am 2) (am 0))) e9 (bY ⇑h.hands λi=>.int i) [ψ,ξ (.tup [.tup (h.boards.map nN),.tup (h.hands.map qh)]),ξ (.tup row)]) A s=A (bY ⇑h.hands λk=>bz (f k)) s:=λA s=>HG yU λk Y Q=>by
  let E:h.hands[k]?=ξ h.hands[k]:=ag Y;let C:k < ⇑row:=by ext
  let u:row[k]?=ξ row[k]:=ag C;let H:∀(Q:D->aY->Prop)s,wp (cu (h.hands.map qh) (k:Int)) Q s=Q (.tup [.tup [bz h.hands[k].b0,bz h.hands[k].b1],.tup (h.hands[k].lines.map lJ)]) s:=λQ s=>oG (by rw[ar,E];rfl);let G:∀(Q:D->aY->Prop)s,wp (cu row (k:Int)) Q s=Q row[k] s:=λQ s=>oG u;let o:f k=match h.hands[k]?,row[k]? with|some hd,ξ ↑v=>if v=0 then hd.b0 else hd.b1|_,_=>0:=rfl
  rcases g k _ u with e|e
  ·rw[E,u,e]at o;simp![↓H,↓G,e];rw[o];rfl
  ·rw[E,u,e]at o;simp![↓H,↓G,e];rw[o];rfl
 let I:∀A s,wp (collect (ir 2 (cE (aT 0) (cE (aT 1) iG))) cB (am 1) e9 (h.boards.map nN) [ψ,ψ]) A s=A (bY ⇑h.boards λk=>bz ((h.boards[k]?.map (·.st)).getD 0)) s:=λA s=>by
  have:=@Fy (am 1) e9 (h.boards.map nN) [] (λk=>bz ((h.boards[k]?.map (·.st)).getD 0)) A s yU (λi d hd=>by
   rw[ar]at hd;cases ex:h.boards[i]? with|none=>rw[ex]at hd;cases hd|some x=>
    rw[ex]at hd;let ed:d=nN x:=(aO hd).symm;subst ed;exact⟨_,_,rfl,λQ=>by simp![dJ,il]⟩)
  rw[this,af]
 (simp![ju];simp![yj,gj,z,hb,fT,aR,Ef,on,O,↓w,af,J,↓I,L])
 unfold n5 b8 at l;dsimp only at l;rw[Jy,Jy]at l;exact l
def sL(B:Nat)(h:Hs)(st:Sd):Nat:=rS B st.ls*mC h.boards+m_ (h.boards.map (·.S)) st.ss
theorem Jx:∀bs:List Bd,pr (bs.map (·.S))=mC bs
 |[]=>rfl|b::bs=>by show b.S*pr (bs.map (·.S))=b.S*mC bs;rw[Jx bs]
theorem Gn{B:Nat}{st:Sd}(o:fE h st)(C:∀x∈h.hands,⇑x.lines<=B):∀x∈st.ls,x < B:=λx z=>by
 let⟨k,u⟩:=eU z;let l:=(ac.mp u).1;let g:k < ⇑h.hands:=by rw[<- o.1];exact l
 let e:=ag g;let G:=o.2.2.1 k _ _ e u;let E:=C _ (cM g);ext
theorem El{st:Sd}(o:fE h st):∀(i b x:Nat),(h.boards.map (·.S))[i]?=ξ b->st.ss[i]?=ξ x->x < b:=λi b x g l=>by
 rw[ar]at g;cases e:h.boards[i]? with|none=>rw[e]at g;cases g|some bd=>
  rw[e]at g;cases g;exact o.2.2.2 i bd x e l
theorem Xq{B:Nat}{st:Sd}(o:∀x∈h.hands,⇑x.lines<=B)(z:B^⇑h.hands*mC h.boards<=1300)(g:fE h st):sL B h st < 1300:=by let l:=EL (Gn g o);let u:=Dm (by rw[af];exact g.2.1) (El g);rw[Jx]at u;unfold sL;rw[g.1]at l;have:(rS B st.ls+1)*mC h.boards<=B^⇑h.hands*mC h.boards:=eW _ l;rw[lA]at this;ext
theorem LO{B:Nat}(z:∀x∈h.hands,⇑x.lines<=B)(l:fE h a)(g:fE h b)(e:sL B h a=sL B h b):a=b:=by
 let o:=Dm (by rw[af];exact l.2.1) (El l);let b1:=Dm (by rw[af];exact g.2.1) (El g);rw[Jx]at o b1;unfold sL at e;let q:rS B a.ls=rS B b.ls/\m_ (h.boards.map (·.S)) a.ss=m_ (h.boards.map (·.S)) b.ss:=by
  generalize mC h.boards=p at e o b1;let u:0 < p:=by ext
  let H:(rS B a.ls*p+m_ (h.boards.map (·.S)) a.ss) / p=rS B a.ls:=by rw[gN,iL u,iw o];simp
  let G:(rS B b.ls*p+m_ (h.boards.map (·.S)) b.ss) / p=rS B b.ls:=by rw[gN,iL u,iw b1];simp
  have:rS B a.ls=rS B b.ls:=by rw[<- H,<- G,e]
  rw[this]at e;exact⟨this,by ext⟩
 let E:=Q3 (by rw[l.1,g.1]) (Gn l z) (Gn g z) q.1;let C:=Q1 (by rw[af];exact l.2.1) (by rw[af];exact g.2.1) (El l) (El g) q.2;cases a;cases b;simp only at E C;rw[E,C]
theorem D3{α β:Type}{f:α->β}:∀{l:List α},l.Nodup->(∀a∈l,∀b∈l,f a=f b->a=b)->(l.map f).Nodup
 |[],_,_=>oC|x::xs,hn,hi=>by let⟨E,C⟩:=iI.mp hn;rw[aX];refine iI.mpr ⟨λo=>?_,D3 C λa z b u=>hi a (by simp[z]) b (by simp[u])⟩;let⟨y,g,e⟩:=bA.mp o;have:=hi y (by simp[g]) x (by simp) e;exact E (this ▸ g)
theorem few{l:List Sd}(E:uf h)(C:l.Nodup)(g:∀x∈l,fE h x):⇑l<=1300:=by
 let⟨B,_,u,H⟩:=E.2.2;have:=B8 1300 (l.map (sL B h)) (D3 C λa o b G e=>LO u (g a o) (g b G) e) (λx z=>by let⟨a,o,e⟩:=bA.mp z;rw[<- e];exact Xq u H (g a o))
 rwa [af]at this
theorem wz(st:Sd):oW θ (b8 st)=true:=Uq st.ls st.ss
theorem Ji(a b:Sd):mT (b8 a) (b8 b)=decide (a=b):=by
 have:=Qkp a.ls a.ss b.ls b.ss
 show mT (b8 a) (b8 b)=_;unfold b8;refine this.trans ?_;cases a;cases b;simp only[Sd.mk.injEq,nG]
noncomputable abbrev PL:=List (Sd×List Nat)
noncomputable def pk(ps:PL):List Sd:=ps.map (·.1)
def sw(ps:PL):List (D×D):=ps.map λp=>(b8 p.1,.tup (p.2.map bz))
def ug(ps:PL)(y:Sd)(w:List Nat):PL:=if y∈pk ps then ps else ps++[(y,w)]
def nU(h:Hs)(x:Sd)(w:List Nat):List Nat->PL->PL
 |[],ps=>ps|k::ks,ps=>nU h x w ks (ug ps (fQ h x k) (w++[k]))
def iV(h:Hs)(g:PL):Nat->PL
 |0=>g
 |i+1=>match (iV h g i)[i]? with|some p=>nU h p.1 p.2 (fr h p.1) (iV h g i)|none=>iV h g i
def lF(firsts:List Sd):PL:=firsts.foldl (λps x=>ug ps x []) []
theorem ub(ps:PL):⇑(pk ps)=⇑ps:=af ..
theorem DW(h:y∈pk ps):ug ps y w=ps:=aH h
theorem DY(h:y∉pk ps):ug ps y w=ps++[(y,w)]:=aB h
theorem Jv{k:Nat}:∀{ks:List Nat}{ps:PL},nU h x w (ks++[k]) ps=ug (nU h x w ks ps) (fQ h x k) (w++[k])
 |[],ps=>rfl|j::ks,ps=>Jv (ks:=ks)
theorem J5(ps:PL)(y:Sd)(w:List Nat):∃t,ug ps y w=ps++t:=by
 unfold ug;split
 ·exact⟨[],by simp⟩
 ·exact⟨_,rfl⟩
theorem Eb:∀(ks:List Nat)(ps:PL),∃t,nU h x w ks ps=ps++t
 |[],ps=>⟨[],by simp[nU]⟩|k::ks,ps=>by let⟨l,u⟩:=J5 ps (fQ h x k) (w++[k]);let⟨g,o⟩:=Eb ks (ug ps (fQ h x k) (w++[k]));exact⟨l++g,by rw[nU,o,u,bF]⟩
structure PI(h:Hs)(ps:PL):Prop where
 nd:(pk ps).Nodup
 ok:∀p∈ps,fE h p.1
 ln:∀p∈ps,⇑p.2 < ⇑ps
theorem PI.sd(I:PI h ps)(g:x∈pk ps):fE h x:=by let⟨p,l,e⟩:=bA.mp g;rw[<- e];exact I.ok p l
theorem PI.add{w:List Nat}(I:PI h ps)(o:fE h y)(u:⇑w < ⇑ps+1):PI h (ug ps y w):=by
 by_cases l:y∈pk ps
 ·rw[DW l];exact I
 ·rw[DY l];refine⟨?_,λp g=>?_,λp g=>?_⟩
  ·unfold pk;rw[aV];exact d6.mpr ⟨I.nd,by simp,λa C b z=>by rw[aD.mp z];exact λe=>l (by rw[show y=a from e.symm];exact C)⟩
  ·rcases aS.mp g with g|g
   ·exact I.ok p g
   ·rw[aD.mp g];exact o
  ·rw[aK];rcases aS.mp g with g|g
   ·have:=I.ln p g;simp;ext
   ·rw[aD.mp g];exact u
theorem PI.few(l:uf h)(I:PI h ps):⇑ps<=1300:=by
 have:=My.few l I.nd λx g=>I.sd g
 rwa [ub]at this
theorem Km{st:Sd}:∀ps:PL,kR (sw ps) (b8 st)=(ps.find? λp=>p.1=st).map λp=>.tup (p.2.map bz)
 |[]=>rfl
 |p::ps=>by
  let g:=Km (st:=st) ps;unfold kR sw at g ⊢;rw[aX,b9,b9];dsimp only;rw[Ji];by_cases e:p.1=st
  ·simp[e]
  ·simp only[aQ e];exact g
theorem Nd{st:Sd}:(kR (sw ps) (b8 st)).isSome=decide (st∈pk ps):=by rw[Km,fD,nI,zF,decide_eq_true_iff];unfold pk;rw[bA];exact⟨λl=>by let⟨p,o,e⟩:=l;exact⟨p,o,by simpa using e⟩,λg=>by let⟨p,o,e⟩:=g;exact⟨p,o,by simpa using e⟩⟩
theorem Qnj:⇑(sw ps)=⇑ps:=af ..
theorem Qnk{st:Sd}{w:List Nat}(u:st∉pk ps):i6 (sw ps) (b8 st) (.tup (w.map bz))=sw (ps++[(st,w)]):=by
 let g:=Nd (st:=st) (ps:=ps);rw[aQ u]at g;let z:((sw ps).any λp=>mT p.1 (b8 st))=false:=by
  cases e:(sw ps).any λp=>mT p.1 (b8 st) with|false=>rfl|true=>
   let⟨p,o,l⟩:=eQ.mp e;have:((sw ps).find? λp=>mT p.1 (b8 st)).isSome=true:=zF.mpr ⟨p,o,l⟩;unfold kR at g;rw[fD,this]at g;cases g
 unfold i6;rw[z,aB (by simp)];unfold sw;rw[aV];rfl
theorem PM:∀{ps:PL},(pk ps).Nodup->p∈ps->ps.find? (λq=>q.1=p.1)=ξ p
 |q::ps,nd,g=>by
  rw[b9];unfold pk at nd;rw[aX,iI]at nd;rcases a_.mp g with e|g
  ·subst e;simp
  ·have:¬ q.1=p.1:=λe=>nd.1 (by rw[e];exact bA.mpr ⟨p,g,rfl⟩);simp only[aQ this];exact PM nd.2 g
theorem TR(I:PI h ps)(g:p∈ps):kR (sw ps) (b8 p.1)=ξ (.tup (p.2.map bz)):=by rw[Km,PM I.nd g];rfl
theorem FA:pk (ps++[(y,w)])=pk ps++[y]:=by unfold pk;rw[aV];rfl
def WS(h:Hs)(s:aY)(no:Nat)(ps:PL)(u:aY):Prop:=u[⇑s]?=ξ (.dct θ (sw ps))/\u[no]?=ξ (.lst ((pk ps).map b8))/\PI h ps/\eZ s u
theorem WS.new{no:Nat}{w:List Nat}(lo:⇑s < no)(W:WS h s no ps u)(g:y∉pk ps)(o:fE h y)(z:⇑w < ⇑ps+1):WS h s no (ug ps y w) ((u.set ⇑s (.dct θ (i6 (sw ps) (b8 y) (.tup (w.map bz))))).set no (.lst ((pk ps).map b8++[b8 y]))):=by
 let⟨E,C,I,ex⟩:=W;let l:=I.add o z;rw[DY g]at l ⊢;refine⟨by rw[aw (),ax (iq E),Qnk g],by rw[ax (by rw[cJ];exact iq C),FA,aV];rfl,l,(ex.put (aA _)).put ()⟩
theorem ZP{U:Nat}{firsts:List Sd}(hc:uf h)(hf:∀x∈firsts,fE h x)(hg:s[U]?=ξ (.lst (firsts.map b8)))(hfl:⇑firsts<=100)(hq:∀(no:Nat)(ps:PL)(m:Nat)(s':aY),ps=iV h (lF firsts) m->⇑ps<=m->PI h ps->(∀x∈firsts,x∈pk ps)->s'[⇑s]?=ξ (.dct θ (sw ps))->s'[no]?=ξ (.lst ((pk ps).map b8))->⇑s < no->eZ s s'->Q (.tup [.ref no,.dic ⇑s]) s'):wp (jN [gj h,.ref U]) Q s:=by
 let hh:=hc.1;let g0:(s++[MO.dct θ []]++[MO.lst []])[U]?=ξ (.lst (firsts.map b8)):=k_ (k_ hg);let q0:∀Q,wp (getL U) Q (s++[MO.dct θ []]++[MO.lst []])=Q (firsts.map b8) (s++[MO.dct θ []]++[MO.lst []]):=λQ=>eA g0
 (simp![jN];simp![yo,bn,↓q0])
 let lnf:=iq hg;let x0:eZ s (s++[MO.dct θ []]++[MO.lst []]):=((eZ.refl _).snoc _).snoc _;let gd:(s++[MO.dct θ []]++[MO.lst []])[⇑s]?=ξ (.dct θ []):=k_ i4;let go:(s++[MO.dct θ []]++[MO.lst []])[⇑(s++[MO.dct θ []])]?=ξ (.lst []):=i4;let lo:⇑s < ⇑(s++[MO.dct θ []]):=by simp
 let lnn:U < ⇑(s++[MO.dct θ []]):=by simp;ext
 generalize ⇑(s++[MO.dct θ []])=no at go lo lnn ⊢;generalize s++[MO.dct θ []]++[MO.lst []]=u0 at x0 gd go g0 ⊢;let l1:1<=eT:=kr ();let put:∀{ps:PL}{u:aY}{st:Sd}{R:aY->Prop}(W:WS h s no ps u)(v:D),(∀Q,wp (storeK ⇑s (b8 st) v) Q u=Q Unit.unit (u.set ⇑s (.dct θ (i6 (sw ps) (b8 st) v))))/\(∀Q,wp (getL no) Q (u.set ⇑s (MO.dct θ (i6 (sw ps) (b8 st) v)))=Q ((pk ps).map b8) (u.set ⇑s (MO.dct θ (i6 (sw ps) (b8 st) v))))/\(∀es Q,wp (putL no es) Q (u.set ⇑s (MO.dct θ (i6 (sw ps) (b8 st) v)))=Q Unit.unit ((u.set ⇑s (MO.dct θ (i6 (sw ps) (b8 st) v))).set no (.lst es))):=λ{ps u st R}W v=>by
  let hl:=W.2.2.1.few hc;let g3:(u.set ⇑s (MO.dct θ (i6 (sw ps) (b8 st) v)))[no]?=ξ (.lst ((pk ps).map b8)):=by rw[aw ()];exact W.2.1
  exact⟨λQ=>D8 W.1 (wz st) (qY (by rw[Qnj];ext)),λQ=>eA g3,λes Q=>rh g3⟩
 refine rJ (λi l u=>∃(ps:PL)(O:Option D),l=[ξ (gj h),ξ (.ref U),ξ (.dic ⇑s),ξ (.ref no),O,ψ,ψ,ψ,ψ]/\u[U]?=ξ (.lst (firsts.map b8))/\ps=lF (firsts.take i)/\(∀x∈firsts.take i,x∈pk ps)/\WS h s no ps u) (λi l u pq168=>by let⟨_,_,_,g,_⟩:=pq168;exact g)
  ⟨[],ψ,rfl,g0,rfl,λx hx=>bw hx (by simp),gd,go,⟨oC,λp hp=>bw hp (by simp),λp hp=>bw hp (by simp)⟩,x0⟩ (λR1 i d l u up rt hd E=>?_) (λl u E=>?_)
 ·let⟨ps,O,el,gf,ep,G,W⟩:=E;subst el;rw[ar]at hd;cases ex:firsts[i]? with|none=>rw[ex]at hd;cases hd|some st=>
   rw[ex]at hd;let ed:d=b8 st:=(aO hd).symm;subst ed;let hst:=hf st (aJ ex);let hl:=W.2.2.1.few hc;let h:=(ac.mp ex).1;let tk:firsts.take (i+1)=firsts.take i++[st]:=by rw[d8 h,(ac.mp ex).2]
   let g:lF (firsts.take (i+1))=ug ps st []:=by rw[tk];unfold lF;rw[qN,<- lF,<- ep];rfl
   let q1:∀Q,wp (hasK ⇑s (b8 st)) Q u=Q (kR (sw ps) (b8 st)).isSome u:=λQ=>JY W.1 (wz st);simp![↓q1,Nd];by_cases J:st∈pk ps
   ·rw[bV J];simp![bp];exact up ⟨ps,_,rfl,gf,by rw[g,DW J],λx z=>by
     rw[tk]at z;rcases aS.mp z with z|z
     ·exact G x z
     ·rw[aD.mp z];exact J,W⟩
   ·rw[aQ J];let⟨q2,q3,q4⟩:=put (st:=st) (R:=λ_=>True) W (.tup []);simp![bn,↓q2,↓q3,↓q4,af,ub];refine⟨qY (),up ⟨_,_,rfl,?_,g.symm,λx z=>?_,W.new lo J hst (w:=[]) (by simp)⟩⟩
    ·rw[aw (),aw ()];exact gf
    ·rw[DY J,FA];rw[tk]at z;rcases aS.mp z with z|z
     ·exact bI _ (G x z)
     ·exact bu _ z
 ·let⟨ps,O,el,gf,ep,G,W⟩:=E;subst el;rw[af,cX]at G ep;simp![];refine Ni (λl u=>∃(ps:PL)(at_:Nat)(O y6 y7 y8:Option D),l=[ξ (gj h),ξ (.ref U),ξ (.dic ⇑s),ξ (.ref no),O,ξ ↑at_,y6,y7,y8]/\at_<=⇑ps/\ps=iV h (lF firsts) at_/\(∀x∈firsts,x∈pk ps)/\WS h s no ps u)
   (λ(l:Loc)(_:aY)=>match (l[5]?:Option (Option D)) with
    |some (ξ (D.int i))=>(2000-i).toNat
    |_=>0) ⟨ps,0,O,ψ,ψ,ψ,rfl,bn _,ep,G,W⟩ (λR1 l u up rt E=>?_)
  let⟨ps,at_,O,y6,y7,y8,el,hat,eb,G,W⟩:=E;subst el;let hl:=W.2.2.1.few hc;let q1:∀Q,wp (getL no) Q u=Q ((pk ps).map b8) u:=λQ=>eA W.2.1;simp![↓q1,af,ub];by_cases hlt:(at_:Int) < (⇑ps:Int)
  ·rw[aH hlt];let Y:at_ < ⇑ps:=by ext
   let J:ps[at_]∈ps:=cM Y;let e1:ps[at_]?=ξ ps[at_]:=ag Y;generalize ps[at_]=pw at J e1;let⟨o,w⟩:=pw;let H:fE h o:=W.2.2.1.ok _ J;let q2:∀(Q:D->aY->Prop)s,wp (cu ((pk ps).map b8) (at_:Int)) Q s=Q (b8 o) s:=λQ s=>oG (by unfold pk;rw[ar,ar,e1];rfl);let q3:∀(Q:D->aY->Prop)s,wp (jc [gj h,b8 o]) Q s=Q (.ref ⇑s) (s++[.lst ((fr h o).map bz)]):=λQ s=>Kr hh H;let q4:∀Q:List D->aY->Prop,wp (getL ⇑u) Q (u++[MO.lst ((fr h o).map bz)])=Q ((fr h o).map bz) (u++[MO.lst ((fr h o).map bz)]):=λQ=>eA i4;simp![↓q2,↓q3,↓q4];let lu1:=iq W.1;let lu2:=iq W.2.1;refine rJ (λi l v=>∃(C:PL)(y7 y8:Option D),l=[ξ (gj h),ξ (.ref U),ξ (.dic ⇑s),ξ (.ref no),O,ξ ↑((at_:Int)+1),ξ (b8 o),y7,y8]/\v[⇑u]?=ξ (.lst ((fr h o).map bz))/\C=nU h o w ((fr h o).take i) ps/\WS h s no C v) (λi l v pq169=>by let⟨_,_,_,_,g,_⟩:=pq169;exact g)
    ⟨ps,_,_,rfl,i4,rfl,k_ W.1,k_ W.2.1,W.2.2.1,W.2.2.2.snoc _⟩ (λR2 i d l v up2 rt2 hd E=>?_) (λl v E=>?_)
   ·let⟨C,y7,y8,el,gv,I,L⟩:=E;subst el;rw[ar]at hd;cases l:(fr h o)[i]? with|none=>rw[l]at hd;cases hd|some k=>
     rw[l]at hd;let ed:d=bz k:=(aO hd).symm;subst ed;let hk:=zM (aJ l);let hst:=DT hh H hk;let hl':=L.2.2.1.few hc;let hi':=(ac.mp l).1;let G:(fr h o).take (i+1)=(fr h o).take i++[k]:=by rw[d8 hi',(ac.mp l).2]
     let es:nU h o w ((fr h o).take (i+1)) ps=ug C (fQ h o k) (w++[k]):=by rw[G,Jv,I]
     let g:(o,w)∈C:=by let⟨t,e⟩:=Eb (h:=h) (x:=o) (w:=w) ((fr h o).take i) ps;rw[I,e];exact bI _ J
     let Y:=L.2.2.1.ln _ g;dsimp only at Y;let q5:∀(Q:D->aY->Prop)s,wp (jb [gj h,b8 o,bz k]) Q s=Q (b8 (fQ h o k)) s:=λQ s=>NW hh H hk;let q6:∀Q,wp (hasK ⇑s (b8 (fQ h o k))) Q v=Q (kR (sw C) (b8 (fQ h o k))).isSome v:=λQ=>JY L.1 (wz _);simp![↓q5,↓q6,Nd];by_cases u:fQ h o k∈pk C
     ·rw[bV u];simp![bp];exact up2 ⟨C,_,_,rfl,gv,by rw[es,DW u],L⟩
     ·rw[aQ u];let C:∀Q,wp (itemK ⇑s (b8 o)) Q v=Q (.tup (w.map bz)) v:=λQ=>A1 L.1 (wz _) (TR L.2.2.1 g);let⟨U,O,z⟩:=put (st:=fQ h o k) (R:=λ_=>True) L (.tup ((w++[k]).map bz));rw[aV]at U O z;let l2:⇑(w.map bz)+1<=eT:=kr (by rw[af];ext);let l:=L.new (w:=w++[k]) lo u hst (by simp;ext);rw[aV]at l;simp![l1,l2,↓C];simp only[aX,m5]at U O z l;simp![↓U,↓O,↓z,af,ub];refine⟨qY (),up2 ⟨_,_,_,rfl,?_,es.symm,l⟩⟩;rw[aw (),aw ()];exact gv
   ·let⟨C,y7,y8,el,gv,I,L⟩:=E;subst el;simp![];rw[af,cX]at I;let⟨t,g⟩:=Eb (h:=h) (x:=o) (w:=w) (fr h o) ps;refine up ⟨C,at_+1,O,_,_,_,rfl,?_,?_,λx hx=>?_,L⟩ ?_
    ·rw[I,g,aK];ext
    ·rw[iV,<- eb,e1,I]
    ·have:=G x hx;rw[I,g];unfold pk at this ⊢;rw[aV];exact bI _ this
    ·show (2000-((at_:Int)+1)).toNat < (2000-(at_:Int)).toNat;ext
  ·rw[aB hlt];let l2:2<=eT:=kr ();simp![l2];exact hq _ ps at_ u eb () W.2.2.1 G W.1 W.2.1 lo W.2.2.2
end
open PySem (Str)
theorem OO:((("settle":Str)) == "settle")=true:=by nofun
theorem Sq:((("do":Str)) == "settle")=false:=by nofun
section
variable{p q:Nat}{st a b:Sd}
theorem O2{k:Nat}(hh:ko h)(z:fE h st)(C:k < ⇑h.hands):wp (jh [gj h,b8 st,.int k]) Q s=Q (lJ (cN h st k)) s:=by
 let⟨hd,l,H,G,I,E,_⟩:=BF hh z C;let u:∀Q s,wp (cu (h.hands.map qh) (k:Int)) Q s=Q (.tup [.tup [bz hd.b0,bz hd.b1],.tup (hd.lines.map lJ)]) s:=λQ s=>oG (by rw[ar,H];rfl);let o:∀Q s,wp (cu (st.ls.map bz) (k:Int)) Q s=Q ↑(l:Nat) s:=λQ s=>Bu G;let g:∀Q s,wp (cu (hd.lines.map lJ) (l:Int)) Q s=Q (lJ (cN h st k)) s:=λQ s=>oG (by rw[ar,E];rfl)
 (simp![jh];simp![yB,gj,b8,↓u,↓o,↓g])
theorem OT{xs:List D}{i:Nat}(C:i < ⇑xs)(H:⇑xs<=100):wp (jj [.tup xs,.int i,v]) Q s=Q (.tup (xs.set i v)) s:=by
 let c1:¬(gQ ⇑xs 0 ψ=0/\gQ ⇑xs ⇑xs (ξ (i:Int))=⇑xs):=by unfold gQ;simp only[aR];rw[aB ()];ext
 let g:¬(gQ ⇑xs 0 (ξ ((i:Int)+1))=0/\gQ ⇑xs ⇑xs ψ=⇑xs):=by unfold gQ;dsimp only;rw[aB ()];ext
 let G:cutD xs ψ (ξ (i:Int))=xs.take i:=by unfold cutD gQ;simp only[aR];rw[aB (),oy];congr 1;ext
 let E:cutD xs (ξ ((i:Int)+1)) ψ=xs.drop (i+1):=by
  unfold cutD gQ;have:(if (i:Int)+1 < 0 then ((i:Int)+1+(⇑xs:Int)).toNat else min ((i:Int)+1).toNat ⇑xs)=i+1:=by rw[aB ()];ext
  simp only[this];exact m9 (by rw[gq];exact aA _)
 let u:1<=eT:=iy ();let o:⇑(xs.take i)+1<=eT:=iy (by rw[cL];ext);let l:⇑(xs.take i++[v])+⇑(xs.drop (i+1))<=eT:=iy (by rw[aK,cL,gq];simp;ext)
 (simp![jj];simp![yl,c1,g,not_false_eq_true,G,E,u,o])
 rw[qx,aH C];have:xs.take i++[v]++xs.drop (i+1)=xs.take i++v::xs.drop (i+1):=by simp
 rw[this];exact propext ⟨λz=>z.2,λz=>⟨l,z⟩⟩
theorem W8{g:Bd}{x d:Nat}(l:x < g.S)(hd:d < g.dn):wp (jp [iH g.S g.dn g.nx g.un,.int x,.int d]) Q s=Q ↑(g.nx x d:Nat) s:=by (simp![jp];simp![j8,iH,↓xA l,↓xA hd])
theorem Qnu{g:Bd}{x d:Nat}(l:x < g.S)(hd:d < g.dn):wp (jP [iH g.S g.dn g.nx g.un,.int x,.int d]) Q s=Q ↑(g.un x d:Nat) s:=by (simp![jP];simp![yE,iH,↓xA l,↓xA hd])
theorem Wc{k:Nat}(hh:ko h)(u:fE h st)(C:k < ⇑h.hands):wp (jG [gj h,b8 st,.int k]) Q s=Q (b8 (fQ h st k)) s:=by
 let⟨hd,l,e1,e2,hl,e3,ok⟩:=BF hh u C;let w:∀Q s,wp (jh [gj h,b8 st,.int k]) Q s=Q (lJ (cN h st k)) s:=λQ s=>O2 hh u C;cases el:cN h st k with
 |settle v=>
  rw[Kc el];rw[el]at w;simp only[lJ]at w
  (simp![jG];simp![yk,↓w,OO])
 |act b d gs=>
  rw[el]at ok w;let⟨o,x,g,f1,G,Y,U,O,f6,f7,f8⟩:=G8 hh u ok;rw[GD el f1 G O];simp only[lJ]at w;let z:k < ⇑(st.ls.map bz):=by rw[af,u.1];exact C
  let E:b < ⇑(st.ss.map bz):=by rw[af];exact (ac.mp G).1
  let z1:=u.1;let z2:=u.2.1;let z3:=hh.1;let z4:=hh.2.2.2.1;let w1:∀Q s,wp (cu (h.boards.map nN) (b:Int)) Q s=Q (.tup [iH o.S o.dn o.nx o.un,bz o.st]) s:=λQ s=>oG (by rw[ar,f1];rfl);let L:∀Q s,wp (cu (st.ss.map bz) (b:Int)) Q s=Q ↑(x:Nat) s:=λQ s=>Bu G;let J:∀Q s,wp (cu (gs.map bz) ((o.un x d:Nat):Int)) Q s=Q ↑(g:Nat) s:=λQ s=>Bu O;let w4:∀Q s,wp (jP [iH o.S o.dn o.nx o.un,.int x,.int d]) Q s=Q ↑(o.un x d:Nat) s:=λQ s=>Qnu Y U;let w5:∀Q s,wp (jp [iH o.S o.dn o.nx o.un,.int x,.int d]) Q s=Q ↑(o.nx x d:Nat) s:=λQ s=>W8 Y U;let I:∀Q s,wp (jj [.tup (st.ls.map bz),.int k,.int g]) Q s=Q (.tup ((st.ls.map bz).set k ↑g)) s:=λQ s=>OT z (by rw[af];ext);let H:∀Q s,wp (jj [.tup (st.ss.map bz),.int b,.int (o.nx x d:Nat)]) Q s=Q (.tup ((st.ss.map bz).set b ↑(o.nx x d:Nat))) s:=λQ s=>OT E (by rw[af];ext);let l2:2<=eT:=iy ();unfold bz at w;let nd:∀n:Nat,D.int (n:Int)=bz n:=λ_=>rfl
  (simp![jG];simp![yk,↓w,Ja,Sq,bp,if_false])
  unfold gj b8;unfold bz at L J I H ⊢;simp![↓w1,↓L,↓J,↓w4,↓w5,↓I,↓H,l2];rw[qO,qO]
end
theorem Jd{g:CG}{t:CT}{e:CE}{same:aY->Prop}{ds:List D}{f:Nat->D}{p:Nat->Bool}(I:Loc->Prop)(hs:same s)(h0:I l0)(h:∀i d l,ds[i]?=ξ d->I l->∃z,(∀G,wp (g d l) G s=G z s)/\I z/\(∀T,wp (t z) T s=T (p i) s)/\∀Q,wp (e z) Q s=Q (f i) s):wp (collect g t e same ds l0) Q s=Q (((bU ⇑ds).filter p).map f) s:=by
 let chk:∀{R:Unit->aY->Prop},R Unit.unit s->wp (chkS same) R s:=λr=>by rw[rF];unfold chkS;rw[aH hs];exact r
 apply Kq;refine FV (Q:=λo s'=>o=((bU ⇑ds).filter p).map f/\s'=s) (λo xs l s'=>∃i,xs=ds.drop i/\i<=⇑ds/\I l/\o=((bU i).filter p).map f/\s'=s) (λo l s' H=>?_) (λo d xs l s' H=>?_) ds [] _ s ⟨0,by simp,bn _,h0,rfl,rfl⟩
 ·let⟨i,C,hi,_,E,es⟩:=H;have:i=⇑ds:=by have:=cj e_ C;simp at this;ext
  subst this;subst es;exact chk ⟨E,rfl⟩
 ·let⟨i,C,hi,o,E,es⟩:=H;let u:i < ⇑ds:=by have:=cj e_ C;simp at this;ext
  rw[cz u]at C;let⟨G,O⟩:=nR C;let⟨z,g,J,U,Y⟩:=h i d l (by rw[G];exact ag u) o;subst es;refine chk ?_;rw[g,U];cases L:p i with
  |true=>
   rw[aH rfl,Y];exact⟨i+1,O,u,J,by rw[E,fH,eR,aV];simp[L],rfl⟩
  |false=>
   rw[aB (by simp)];exact⟨i+1,O,u,J,by rw[E,fH,eR,aV];simp[L],rfl⟩
def sH:Ln->D
 | .settle v=>bz v| .act _ _ _=>.non
def uF(h:Hs)(st:Sd):List D:=bY ⇑h.hands λk=>sH (cN h st k)
section
variable{st:Sd}
theorem Ut:wp (jk [lJ g]) Q s=Q (sH g) s:=by
 cases g with|settle v=>(simp![jk];simp![jU,lJ,sH,if_true])|act b d gs=>(simp![jk];simp![jU,lJ,sH,Ja,bp,if_false])
theorem Ls:wp (aU (gj h) ↑1) Q s=Q (.tup (h.hands.map qh)) s:=by unfold gj;rw[nP,my]
theorem Oy(hh:ko h)(z:fE h st):wp (ji [gj h,b8 st]) Q s=Q (.tup (uF h st)) s:=by
 let G:=hh.2.2.2.1;let E:=lO (show (0:Int)<=(⇑h.hands:Int) by ext) ();let u:⇑h.hands<=eT:=iy ();let o:∀Q s,wp (aU (gj h) ↑1) Q s=Q (.tup (h.hands.map qh)) s:=λQ s=>Ls;let w:∀A s,wp (collect (aT 0) cB (bj jk (au (bj jh (au (am 1) (au (am 2) (au (am 0) bb)))) bb)) e9 (bY ⇑h.hands λi=>.int i) [ψ,ξ (gj h),ξ (b8 st)]) A s=A (uF h st) s:=λA s=>HG yU λk C Q=>by have l:∀Q s,wp (jh [gj h,b8 st,.int k]) Q s=Q (lJ (cN h st k)) s:=λQ s=>O2 hh z C;have g:∀Q s,wp (jk [lJ (cN h st k)]) Q s=Q (sH (cN h st k)) s:=λQ s=>Ut;simp![↓l,↓g]
 (simp![ji];simp![yA,↓o,af,E,fT,aR,Ef,on,u,↓w])
theorem ZY{g:Ln}{T:Bool->aY->Prop}: wp (Ap (sH g) .non) (λx s'=>match x with
  | .bl b=>T b s'
  |_=>False) s=T (o8 g) s:=by
 cases g<;>(unfold sH o8 bz Ap FU;rw[b4])
theorem v8(hh:ko h)(u:fE h st):wp (jY [gj h,b8 st]) Q s=Q (.ref ⇑s) (s++[.lst ((fr h st).map bz)]):=by
 let C:=hh.2.2.2.1;let o:⇑h.hands<=eT:=iy ();let ws:∀Q s,wp (ji [gj h,b8 st]) Q s=Q (.tup (bY ⇑h.hands λk=>sH (cN h st k))) s:=λQ s=>Oy hh u;let w:∀A s,wp (collect (ir 2 (cE (aT 0) (cE (aT 1) iG))) (cK (c2 Ap (am 1) (aL .non))) (am 0) e9 (bY ⇑h.hands λi=>.tup [.int i,sH (cN h st i)]) [ψ,ψ]) A s=A ((fr h st).map bz) s:=λA s=>by
  rw[Jd (f:=λk=>.int (k:Nat)) (p:=λk=>o8 (cN h st k)) (λl=>∃x y,l=[x,y]) yU ⟨_,_,rfl⟩ (λi d l hd g=>by
   let⟨x,y,el⟩:=g;let⟨E,z⟩:=zK hd;refine⟨[ξ ↑i,ξ (sH (cN h st i))],λG=>?_,⟨_,_,rfl⟩,λT=>?_,λQ=>?_⟩
   ·rw[z,el,vG,pf,fk,pf,fk,vw];exact propext ⟨λh=>h.2,λh=>⟨rfl,h⟩⟩
   ·simp only[↓Bm,↓C5,↓iQ,↓xX,u_,mO];exact ZY
   ·simp only[↓iQ,u_]),on]
  rfl
 (simp![jY];simp![yG,↓ws,on,Vr,fT,o,↓w])
end
open PySem (Str)
section
variable{s u:aY}{h:Hs}{no nd:Nat}{xs:List Sd}
def pR:List Sd->Nat->List (D×D)
 |[],_=>[]|x::xs,i=>(b8 x,bz i)::pR xs (i+1)
theorem DR:∀(xs:List Sd)(i:Nat),kR (pR xs i) (b8 y)=if y∈xs then ξ (bz (i+xs.idxOf y)) else ψ
 |[],i=>rfl
 |x::xs,i=>by
  let g:=DR (y:=y) xs (i+1);unfold kR at g ⊢;rw[pR,b9];dsimp only;rw[Ji];by_cases e:x=y
  ·subst e;simp
  ·let C:¬ y=x:=λz=>e z.symm;simp only[aQ e];rw[g,sD];have:(x == y)=false:=by simp[e]
   rw[this];simp only[a_,C,false_or,cond_false];by_cases o:y∈xs
   ·simp only[o,if_true];congr 2;ext
   ·simp only[o,if_false]
theorem Rz:∀(xs:List Sd)(i:Nat),pR (xs++[y]) i=pR xs i++[(b8 y,bz (i+⇑xs))]
 |[],i=>rfl|x::xs,i=>by rw[mQ,pR,pR,Rz xs (i+1),mQ,cm,show i+1+⇑xs=i+(⇑xs+1) by ext]
theorem Jb:∀(xs:List Sd)(i:Nat),⇑(pR xs i)=⇑xs
 |[],i=>rfl|x::xs,i=>by rw[pR,cm,Jb xs,cm]
theorem OG:∀(xs:List Sd)(i:Nat),(pR xs i).map (·.1)=xs.map b8
 |[],i=>rfl|x::xs,i=>by rw[pR,aX,OG xs,aX]
theorem RY(C:y∉xs):i6 (pR xs 0) (b8 y) (bz ⇑xs)=pR (xs++[y]) 0:=by
 let g:=DR (y:=y) xs 0;rw[aB C]at g;let E:((pR xs 0).any λp=>mT p.1 (b8 y))=false:=by
  cases e:(pR xs 0).any λp=>mT p.1 (b8 y) with|false=>rfl|true=>
   let⟨p,z,o⟩:=eQ.mp e;have:((pR xs 0).find? λp=>mT p.1 (b8 y)).isSome=true:=zF.mpr ⟨p,z,o⟩;unfold kR at g;rw[Option.map_eq_none_iff]at g;rw[g]at this;cases this
 unfold i6;rw[E,aB (by simp),Rz,IC]
theorem Rk:∀{xs t:List Sd},y∈xs->(xs++t).idxOf y=xs.idxOf y
 |x::xs,t,hy=>by
  rw[mQ,sD,sD];by_cases e:x=y
  ·subst e;simp
  ·have:(x == y)=false:=by simp[e]
   rw[this];simp only[cond_false];rw[Rk (by rcases a_.mp hy with z|z;exact bw z.symm e;exact z)]
def row(h:Hs)(x:Sd)(ks:List Nat)(xs:List Sd):List D:=ks.map λk=>.tup [bz k,bz (xs.idxOf (fQ h x k))]
theorem RQ{ks:List Nat}(o:∀k∈ks,fQ h x k∈xs):row h x ks (xs++t)=row h x ks xs:=by unfold row;refine d9 λk g=>?_;rw[Rk (o k g)]
theorem E8{k:Nat}:∀{ks:List Nat}{ps:PL},k∈ks->fQ h x k∈pk (nU h x w ks ps)
 |j::ks,ps,o=>by
  rw[nU];rcases a_.mp o with e|o
  ·subst e;let⟨t,e⟩:=Eb (h:=h) (x:=x) (w:=w) ks (ug ps (fQ h x k) (w++[k]));rw[e];unfold pk;rw[aV];refine bI _ ?_;by_cases g:fQ h x k∈pk ps
   ·rw[DW g];exact g
   ·rw[DY g,aV];exact bu _ (by simp)
  ·exact E8 o
def Fn(s:aY)(no nd:Nat)(xs:List Sd)(u:aY):Prop:=u[nd]?=ξ (.dct θ (pR xs 0))/\u[no]?=ξ (.lst (xs.map b8))/\eZ s u
theorem Si{a b c:CE}: wp (pi a b c l) Q s=wp (a l) (λx C=>match x with
  | .dic n=>wp (getDc n) (λp o=>p.1=θ/\wp (b l) (λy g=>wp (c l) (λz E=>wp (lH n y z) Q E) g) o) C
  |_=>False) s:=by
 unfold pi;rw[dR];refine kt λx C=>?_;cases x with
 |dic n=>
  dsimp only;rw[dR];refine kt λp o=>?_;rw[dE,dR];refine cj _ (kt λy g=>?_);rw[dR]
 |_=>exact wd rfl
theorem Vy{n:Nat}(g:s[n]?=ξ (.dct θ o))(E:oW θ k=θ)(C:⇑o < eT)(e:kR o k=ξ d):wp (lH n k v) Q s=Q d s:=by unfold lH;rw[dR,Br g,dE];dsimp only;rw[e];dsimp only;rw[b4];exact propext ⟨λz=>z.2,λz=>⟨⟨rfl,E,C⟩,z⟩⟩
theorem UO{n:Nat}(g:s[n]?=ξ (.dct θ o))(E:oW θ k=θ)(C:⇑o < eT)(e:kR o k=ψ):wp (lH n k v) Q s=Q v (s.set n (.dct θ (i6 o k v))):=by unfold lH;rw[dR,Br g,dE];dsimp only;rw[e];dsimp only;rw[dR,PY g,b4];exact propext ⟨λz=>z.2,λz=>⟨⟨rfl,E,C⟩,z⟩⟩
theorem Zx{n:Nat}(g:s[n]?=ξ (.dct θ o)):wp (qj (.dic n)) Q s=Q (.ref ⇑s) (s++[.lst (o.map (·.1))]):=by unfold qj;dsimp only;rw[dR,Br g,dE,eX];exact propext ⟨λz=>z.2,λz=>⟨rfl,z⟩⟩
theorem WZ{st:Sd}{R:su->aY->Prop}(G:no≠nd)(C:⇑s<=no)(E:⇑s<=nd)(I:Fn s no nd (pk ps) u)(hl:⇑ps<=1300)(O:∀u',Fn s no nd (pk (ug ps st w)) u'->(∀n,n≠no->n≠nd->u'[n]?=u[n]?)->R (.next [a,b,ξ (.ref no),ξ (.dic nd),J,H,ξ (b8 st)]) u'):wp (lY (cK (c2 nS (am 6) (am 3))) (aN (bM (kN (am 3) (am 6)) (c1 eN (am 2))) (aN (fZ (dI (am 2) (am 6))) aZ)) aZ [a,b,ξ (.ref no),ξ (.dic nd),J,H,ξ (b8 st)]) R u:=by
 let⟨z,o,L⟩:=I;let q1:∀Q,wp (hasK nd (b8 st)) Q u=Q (kR (pR (pk ps) 0) (b8 st)).isSome u:=λQ=>JY z (wz st);let q0:∀Q,wp (getL no) Q u=Q ((pk ps).map b8) u:=λQ=>eA o;simp![↓q1,DR];by_cases g:st∈pk ps
 ·rw[aH g];simp![lj,fR,bp,if_false];refine O u ?_ λ_ _ _=>rfl;rw[DW g];exact⟨z,o,L⟩
 ·rw[aB g];let l:∀v Q,wp (storeK nd (b8 st) v) Q u=Q Unit.unit (u.set nd (.dct θ (i6 (pR (pk ps) 0) (b8 st) v))):=λv Q=>D8 z (wz st) (qY (by rw[Jb,ub];ext));let U:∀v,(u.set nd (MO.dct θ (i6 (pR (pk ps) 0) (b8 st) v)))[no]?=ξ (.lst ((pk ps).map b8)):=λv=>by rw[aw ()];exact o
  let h:∀v Q,wp (getL no) Q (u.set nd (MO.dct θ (i6 (pR (pk ps) 0) (b8 st) v)))=Q ((pk ps).map b8) (u.set nd (MO.dct θ (i6 (pR (pk ps) 0) (b8 st) v))):=λv Q=>eA (U v);let Y:∀v es Q,wp (putL no es) Q (u.set nd (MO.dct θ (i6 (pR (pk ps) 0) (b8 st) v)))=Q Unit.unit ((u.set nd (MO.dct θ (i6 (pR (pk ps) 0) (b8 st) v))).set no (.lst es)):=λv es Q=>rh (U v);simp![wJ,tH,if_true,↓q0,↓l,↓h,↓Y,af];refine⟨qY (by rw[ub];ext),O _ ?_ λn I H=>by rw[aw (du I),aw (du H)]⟩;rw[DY g,FA];refine⟨?_,?_,(L.put E).put C⟩
  ·rw[aw G,ax (iq z)];have:=RY g;unfold bz at this;rw[this]
  ·rw[ax (by rw[cJ];exact iq o),aV];rfl
end
open PySem (Str)
section
variable{s u:aY}{Q:D->aY->Prop}{no nd:Nat}
theorem PI.st(hh:ko h):∀{ks:List Nat}{ps:PL},PI h ps->(x,w)∈ps->(∀k∈ks,k∈fr h x)->PI h (nU h x w ks ps)
 |[],ps,I,_,_=>I|k::ks,ps,I,hm,hk=>by rw[nU];have g:=I.ok _ hm;have z:=I.ln _ hm;refine PI.st hh (I.add (DT hh g (zM (hk k (by simp)))) (by simp;ext)) ?_ λj o=>hk j (by simp[o]);let⟨t,e⟩:=J5 ps (fQ h x k) (w++[k]);rw[e];exact bI _ hm
theorem IR:pk (ps++t)=pk ps++pk t:=by unfold pk;rw[aV]
theorem ID(hh:ko h):⇑(fr h x)<=3:=by let g:=hh.2.2.2.1;have:=gW (λk=>o8 (cN h x k)) (bU ⇑h.hands);rw[List.length_range]at this;unfold fr;ext
theorem XZ(hc:uf h)(hne:no≠nd)(hso:⇑s<=no)(hsd:⇑s<=nd)(I:Fn s no nd (pk ps) u)(W:PI h ps)(C:(x,w)∈ps)(hq:∀r u',⇑u<=r->u'[r]?=ξ (.lst (row h x (fr h x) (pk (nU h x w (fr h x) ps))))->Fn s no nd (pk (nU h x w (fr h x) ps)) u'->(∀n,n < ⇑u->n≠no->n≠nd->u'[n]?=u[n]?)->Q (.ref r) u'):wp (jD [gj h,b8 x,.ref no,.dic nd]) Q u:=by
 let hh:=hc.1;let hx:=W.ok _ C;let l2:2<=eT:=kr ();let wf:∀(Q:D->aY->Prop)s,wp (jY [gj h,b8 x]) Q s=Q (.ref ⇑s) (s++[.lst ((fr h x).map bz)]):=λQ s=>v8 hh hx;let L:(u++[MO.lst []]++[MO.lst ((fr h x).map bz)])[⇑(u++[MO.lst []])]?=ξ (.lst ((fr h x).map bz)):=i4;let qf:∀Q,wp (getL ⇑(u++[MO.lst []])) Q (u++[MO.lst []]++[MO.lst ((fr h x).map bz)])=Q ((fr h x).map bz) (u++[MO.lst []]++[MO.lst ((fr h x).map bz)]):=λQ=>eA L
 (simp![jD];simp![j6,bn,↓wf,↓qf])
 let gs:(u++[MO.lst []]++[MO.lst ((fr h x).map bz)])[⇑u]?=ξ (.lst []):=k_ i4;let lf:⇑u < ⇑(u++[MO.lst []]):=by simp
 let lnd:nd < ⇑u:=iq I.1;let lno:no < ⇑u:=iq I.2.1;let f0:Fn s no nd (pk ps) (u++[MO.lst []]++[MO.lst ((fr h x).map bz)]):=⟨k_ (k_ I.1),k_ (k_ I.2.1),(I.2.2.snoc _).snoc _⟩
 let k0:∀n,n < ⇑u->n≠no->n≠nd->(u++[MO.lst []]++[MO.lst ((fr h x).map bz)])[n]?=u[n]?:=λn hn _ _=>by rw[aI (by rw[aK];ext),aI hn]
 clear qf wf;generalize ⇑(u++[MO.lst []])=nr at L lf;generalize u++[MO.lst []]++[MO.lst ((fr h x).map bz)]=u0 at L gs f0 k0;refine rJ (λj l v=>∃(Y U:Option D),l=[ξ (gj h),ξ (b8 x),ξ (.ref no),ξ (.dic nd),ξ (.ref ⇑u),Y,U]/\v[nr]?=ξ (.lst ((fr h x).map bz))/\v[⇑u]?=ξ (.lst (row h x ((fr h x).take j) (pk (nU h x w ((fr h x).take j) ps))))/\Fn s no nd (pk (nU h x w ((fr h x).take j) ps)) v/\∀n,n < ⇑u->n≠no->n≠nd->v[n]?=u[n]?) (λ_ _ _ w=>by let⟨_,_,_,g,_⟩:=w;exact g)
  ⟨_,_,rfl,L,gs,f0,k0⟩ (λR1 j d l v up rt hd hW=>?_) (λl v hW=>?_)
 ·let⟨Y,U,el,g1,O,f,kp⟩:=hW;subst el;rw[ar]at hd;cases J:(fr h x)[j]? with|none=>rw[J]at hd;cases hd|some k=>
   rw[J]at hd;let ed:d=bz k:=(aO hd).symm;subst ed;let G:=zM (aJ J);let hj:=(ac.mp J).1;let hj3:=ID hh (x:=x);let tk:(fr h x).take (j+1)=(fr h x).take j++[k]:=by rw[d8 hj,(ac.mp J).2]
   let I:∀(Q:D->aY->Prop)s,wp (jG [gj h,b8 x,bz k]) Q s=Q (b8 (fQ h x k)) s:=λQ s=>Wc hh hx G;let gd:=W.st hh C (ks:=(fr h x).take j) λk G=>wI G;let hl2:=gd.few hc;simp only[↓B3];rw[wx];simp only[↓xS,↓yL,↓x9,↓Bq,↓GY,↓FY,↓E3,↓I,↓Fv];rw[wx];refine WZ (w:=w++[k]) hne hso hsd f () λv2 H o=>?_;let z:v2[⇑u]?=ξ (.lst (row h x ((fr h x).take j) (pk (nU h x w ((fr h x).take j) ps)))):=by rw[o _ () ()];exact O
   rw[<- Jv,<- tk]at H;let E:fQ h x k∈pk (nU h x w ((fr h x).take (j+1)) ps):=E8 (by rw[tk];simp);let q1:∀Q,wp (itemK nd (b8 (fQ h x k))) Q v2=Q (bz ((pk (nU h x w ((fr h x).take (j+1)) ps)).idxOf (fQ h x k))) v2:=λQ=>A1 H.1 (wz _) (by rw[DR,aH E,IC]);let q2:∀Q,wp (getL ⇑u) Q v2=Q (row h x ((fr h x).take j) (pk (nU h x w ((fr h x).take j) ps))) v2:=λQ=>eA z;let L:∀es Q,wp (putL ⇑u es) Q v2=Q Unit.unit (v2.set ⇑u (.lst es)):=λes Q=>rh z;simp![l2,↓q1,↓q2,↓L];let er:row h x ((fr h x).take j) (pk (nU h x w ((fr h x).take j) ps))++[.tup [bz k,bz ((pk (nU h x w ((fr h x).take (j+1)) ps)).idxOf (fQ h x k))]]=row h x ((fr h x).take (j+1)) (pk (nU h x w ((fr h x).take (j+1)) ps)):=by
    let⟨t,e⟩:=J5 (nU h x w ((fr h x).take j) ps) (fQ h x k) (w++[k]);let e2:row h x ((fr h x).take j) (pk (nU h x w ((fr h x).take (j+1)) ps))=row h x ((fr h x).take j) (pk (nU h x w ((fr h x).take j) ps)):=by rw[tk,Jv,e,IR];exact RQ λk G=>E8 G
    rw[<- e2];unfold row;rw[show (fr h x).take (j+1)=(fr h x).take j++[k] from tk,aV];rfl
   rw[er];refine⟨wr ?_,up ⟨_,_,rfl,?_,ax (iq z),?_,λn hn l g=>?_⟩⟩
   ·unfold row;rw[af,cL];ext
   ·rw[aw (),o _ () ()];exact g1
   ·let g:⇑s<=⇑u:=by ext
    exact⟨by rw[aw ()];exact H.1,by rw[aw ()];exact H.2.1,H.2.2.put g⟩
   ·rw[aw (),o n l g];exact kp n hn l g
 ·let⟨Y,U,el,g1,O,f,kp⟩:=hW;subst el;rw[af,cX]at f O;simp![];exact hq _ v (aA _) O f kp
end
open PySem (Str)
section
variable{s u:aY}{Q:D->aY->Prop}{h:Hs}{no nd:Nat}
theorem QnR{row:List D}{k:Nat}{Q:D->aY->Prop}(G:row∈mY ⇑h.hands)(H:k < ⇑h.hands):∃(hd:Hd)(v:Int),h.hands[k]?=ξ hd/\row[k]?=ξ ↑v/\(v=0/\bf h row k=hd.b0\/v=1/\bf h row k=hd.b1):=by
 let⟨E,o⟩:=BG _ row G;let z:h.hands[k]?=ξ h.hands[k]:=ag H;let C:k < ⇑row:=by ext
 let g:row[k]?=ξ row[k]:=ag C;rcases o k _ g with e|e<;>rw[e]at g
 ·exact⟨_,0,z,g,.inl ⟨rfl,by unfold bf;rw[z,g];rfl⟩⟩
 ·exact⟨_,1,z,g,.inr ⟨rfl,by unfold bf;rw[z,g];rfl⟩⟩
theorem YC{row:List D}(z:row∈mY ⇑h.hands):wp (collect (ir 2 (cE (aT 0) (cE (aT 1) iG))) cB (c2 aU (c2 aU (am 0) (aL ↑0)) (am 1)) e9 ((h.hands.map qh).zipWith (λp q=>D.tup [p,q]) row) [ψ,ψ]) A s=A (bY ⇑h.hands λk=>bz (bf h row k)) s:=by
 let⟨E,o⟩:=BG _ row z;let g:⇑((h.hands.map qh).zipWith (λp q=>D.tup [p,q]) row)=⇑h.hands:=by rw[kY,af];ext
 rw[Fy (f:=λk=>bz (bf h row k)) (caps:=[]) yU (λi d hd=>by
  let G:i < ⇑h.hands:=by rw[<- g];exact (ac.mp hd).1
  let⟨H,v,L,J,I⟩:=QnR (Q:=λ_ _=>True) z G;rw[fo,ar,L,J]at hd;refine⟨_,_,(aO hd).symm,λQ=>?_⟩;rcases I with ⟨e,C⟩|⟨e,C⟩<;>subst e<;>rw[C]<;>simp![qh]),g]
theorem Yg{row:List D}(hh:ko h)(E:row∈mY ⇑h.hands):wp (jO [gj h,.tup row]) Q s=Q (b8 (n5 h row)) s:=by
 let⟨U,C⟩:=BG _ row E;let z1:=hh.1;let u:=hh.2.2.2.1;let O:2<=eT:=iy ();let L:⇑h.boards<=eT:=iy ();let J:⇑((h.hands.map qh).zipWith (λp q=>D.tup [p,q]) row)<=eT:=iy (by rw[kY,af];ext);let g : ∀{a b : CE}{I : Wk -> aY -> Prop}{l : Loc}{s : aY}, wp (uP a b l) I s = wp (a l) (λx z => wp (b l) (λy o => match x, y with
   | .tup ds,.tup es=>I ⟨ds.zipWith (λp q=>.tup [p,q]) es,e9⟩ o
   |_,_=>False) z) s:=λ{a b I l s}=>by
  unfold uP;rw[dR];congr 1;funext x z;rw[dR];congr 1;funext y o;cases x<;>cases y<;>first|exact b4|exact im|exact wd rfl|exact eB rfl
 let H:∀A s,wp (collect (ir 2 (cE (aT 0) (cE (aT 1) iG))) cB (c2 aU (c2 aU (am 0) (aL ↑0)) (am 1)) e9 ((h.hands.map qh).zipWith (λp q=>D.tup [p,q]) row) [ψ,ψ]) A s=A (bY ⇑h.hands λk=>bz (bf h row k)) s:=λA s=>YC E;let G:∀A s,wp (collect (ir 2 (cE (aT 0) (cE (aT 1) iG))) cB (am 1) e9 (h.boards.map nN) [ψ,ψ]) A s=A (bY ⇑h.boards λk=>bz (zR h k)) s:=λA s=>by
  rw[Fy (f:=λk=>bz (zR h k)) (caps:=[]) yU (λi d hd=>by
   rw[ar]at hd;cases ex:h.boards[i]? with|none=>rw[ex]at hd;cases hd|some x=>
    rw[ex]at hd;let Y:zR h i=x.st:=by unfold zR;rw[ex];rfl
    refine⟨_,_,(aO hd).symm,λQ=>?_⟩;rw[Y];simp![]),af]
 (simp![jO];simp![yF,gj,↓g,fT,J,↓H,af,L,↓G,O])
 unfold b8 n5;dsimp only;rw[Jy,Jy]
noncomputable def wU:Nat->List (List D)
 |0=>[[]]|n+1=>(wU n).flatMap λx=>[x++[.int 0],x++[.int 1]]
theorem ZL{n:Nat}(g:n=2\/n=3):wU n=mY n:=by rcases g with rfl|rfl<;>rfl
theorem WJ(l:List (List D)):⇑(l.flatMap λx=>[x++[D.int 0],x++[D.int 1]])=2*⇑l:=by
 induction l with|nil=>rfl|cons a t ih=>rw[List.flatMap_cons,aK,ih,cm];simp;ext
theorem TQ(hh:ko h)(hq:∀r u,⇑s<=r->u[r]?=ξ (.lst ((mY ⇑h.hands).map D.tup))->eZ s u->Q (.ref r) u):wp (jI [gj h]) Q s:=by
 let hn:⇑h.hands=2\/⇑h.hands=3:=by have:=hh.2.2.1;have:=hh.2.2.2.1;ext
 let l1:1<=eT:=iy ();let wh:∀(Q:D->aY->Prop)s,wp (aU (gj h) ↑1) Q s=Q (.tup (h.hands.map qh)) s:=λQ s=>Ls
 (simp![jI];simp![yg,bn,l1,↓wh])
 refine rJ (λi l u=>∃(n:Nat)(U O z:Option D),l=[ξ (gj h),ξ (.ref n),U,O,z]/\⇑s<=n/\u[n]?=ξ (.lst ((wU i).map D.tup))/\eZ s u) (λ_ _ _ _=>trivial)
  ⟨_,_,_,_,rfl,aA _,i4,(eZ.refl _).snoc _⟩ (λRw1 i d l u up1 rt1 hd C=>?_) (λl u C=>?_)
 ·let⟨n,U,O,z,el,I,g,ex⟩:=C;subst el;let hi:=(ac.mp hd).1;rw[af]at hi;let hi3:i < 3:=by ext
  let hcn:⇑(wU i)<=4/\∀x∈wU i,⇑x<=2:=by rcases (show i=0\/i=1\/i=2 by ext) with rfl|rfl|rfl<;>simp[wU]
  let gn:(u++[MO.lst []])[n]?=ξ (.lst ((wU i).map D.tup)):=k_ g;let lnn:=iq g;simp![bn,↓eA gn];refine rJ (λj l v=>∃z,l=[ξ (gj h),ξ (.ref n),ξ d,ξ (.ref ⇑u),z]/\v[n]?=ξ (.lst ((wU i).map D.tup))/\v[⇑u]?=ξ (.lst ((((wU i).take j).flatMap λx=>[x++[.int 0],x++[.int 1]]).map D.tup))/\eZ s v) (λ_ _ _ w=>by let⟨_,_,g,_⟩:=w;exact g)
   ⟨_,rfl,gn,i4,ex.snoc _⟩ (λRw2 j e l v Y rt2 J C=>?_) (λl v C=>?_)
  ·let⟨z,el,g1,o,E⟩:=C;subst el;rw[ar]at J;cases L:(wU i)[j]? with|none=>rw[L]at J;cases J|some row=>
    rw[L]at J;let ed:e=.tup row:=(aO J).symm;subst ed;let⟨hj,e2⟩:=ac.mp L;let U:=hcn.2 row (aJ L);let tk:(wU i).take (j+1)=(wU i).take j++[row]:=by rw[d8 hj,e2]
    generalize H:((wU i).take j).flatMap (λx=>[x++[D.int 0],x++[D.int 1]])=ys at o;let O:⇑ys<=16:=by rw[<- H,WJ,cL];ext
    let g:∀es,(v.set ⇑u (MO.lst es))[⇑u]?=ξ (.lst es):=λes=>ax (iq o);let l:∀es Q,wp (getL ⇑u) Q (v.set ⇑u (MO.lst es))=Q es (v.set ⇑u (MO.lst es)):=λes Q=>eA (g es);let h:∀es G Q,wp (putL ⇑u G) Q (v.set ⇑u (MO.lst es))=Q Unit.unit ((v.set ⇑u (MO.lst es)).set ⇑u (.lst G)):=λes G Q=>rh (g es);let I:⇑row+1<=eT:=iy ();simp![l1,I,↓eA o,↓rh o,↓l,↓h,aK,af,cm,nF];let hu:=ex.le;refine⟨wr (),wr (),Y ⟨_,rfl,?_,?_,(E.put hu).put hu⟩⟩
    ·rw[aw (),aw ()];exact g1
    ·rw[ax (by rw[cJ];exact iq o),tk,xx,H];simp
  ·let⟨z,el,g1,o,E⟩:=C;subst el;rw[af,cX]at o;simp![];exact up1 ⟨_,_,_,_,rfl,by have:=ex.le;ext,o,E⟩
 ·let⟨n,U,O,z,el,I,g,ex⟩:=C;subst el;rw[af,ZL hn]at g;simp![];exact hq n u I g ex
end
open PySem (Str)
section
variable{s u:aY}{Q:D->aY->Prop}{V:D->aY->Prop}{h:Hs}{no nd:Nat}{xs firsts:List Sd}{ps:PL}
theorem Xc{i:Int}:wp (qz ↑i .non) Q s=Q (.bl θ) s:=eB rfl
def Gr(h:Hs)(lo no nd:Nat)(ps:PL)(rs:List D)(u:aY):Prop:=∀(i:Nat)(d:D),rs[i]?=ξ d->∃(r:Nat)(p:Sd×List Nat),d=.ref r/\lo < r/\r≠no/\r≠nd/\ps[i]?=ξ p/\u[r]?=ξ (.lst (row h p.1 (fr h p.1) (pk ps)))/\∀k∈fr h p.1,fQ h p.1 k∈pk ps
noncomputable def pq(most:Nat):D:=.exn "TooMany" [.str "most",.int most]
theorem QnY{Y most:Nat}(hc:uf h)(hf:∀x∈firsts,fE h x)(hfl:⇑firsts<=100)(gf:s[Y]?=ξ (.lst (firsts.map b8)))(hq:∀ps m no ns rs u,ps=iV h (lF firsts) m->⇑ps<=m->⇑ps<=most\/ps=[]->PI h ps->u[no]?=ξ (.lst ((pk ps).map b8))->u[ns]?=ξ (.lst rs)->⇑rs=⇑ps->Gr h ns no ⇑s ps rs u->⇑s<=no->eZ s u->Q (.tup [.ref no,.ref ns]) u)(hv:∀m u,most < ⇑(iV h (lF firsts) m)->eZ s u->V (pq most) u):lW (jq [gj h,.ref Y,.int most]) Q V s:=by
 let hh:=hc.1;let l2:2<=eT:=kr ();let lnf:=iq gf;unfold jq j4;refine Np (vc (zJ ?_));simp![];refine vc (YT ?_);simp![↓eA (k_ gf)];refine ZI (λi l u=>∃(y4:Option D),l=[ξ (gj h),ξ (.ref Y),ξ ↑most,ξ (.dic ⇑s),y4,ψ,ψ]/\u[Y]?=ξ (.lst (firsts.map b8))/\PI h (lF (firsts.take i))/\u[⇑s]?=ξ (.dct θ (pR (pk (lF (firsts.take i))) 0))/\eZ s u) (λ_ _ _ w=>by let⟨_,_,g,_⟩:=w;exact g) (λR1 i d l u up hd hW=>?_) (λl u hW=>?_)
  ⟨_,rfl,k_ gf,⟨oC,λp hp=>bw hp (by simp[lF]),λp hp=>bw hp (by simp[lF])⟩,i4,(eZ.refl _).snoc _⟩
 ·let⟨y4,el,g1,I,o,ex⟩:=hW;subst el;let hi:=(ac.mp hd).1;rw[ar]at hd;cases g:firsts[i]? with|none=>rw[g]at hd;cases hd|some a=>
   rw[g]at hd;cases hd;let G:=hf a (aJ g);let hi:=(ac.mp g).1;let tk:firsts.take (i+1)=firsts.take i++[a]:=by rw[d8 hi,(ac.mp g).2]
   let l:lF (firsts.take (i+1))=ug (lF (firsts.take i)) a []:=by rw[tk];unfold lF;rw[qN];rfl
   let H:=I.few hc;let z:=I.add (w:=[]) G (by simp);rw[<- l]at z;simp![];let E:∀Q,wp (getDc ⇑s) Q u=Q (θ,pR (pk (lF (firsts.take i))) 0) u:=λQ=>Br o;let C:∀(Q:D->aY->Prop),wp (eN (.dic ⇑s)) Q u=Q ↑(⇑(pk (lF (firsts.take i))):Nat) u:=λQ=>by rw[Qj9 o,Jb]
   let hl:⇑(pR (pk (lF (firsts.take i))) 0) < eT:=qY (by rw[Jb,ub];ext);by_cases L:a∈pk (lF (firsts.take i))
   ·let h:∀v Q,wp (lH ⇑s (b8 a) v) Q u=Q (bz (0+(pk (lF (firsts.take i))).idxOf a)) u:=λv Q=>Vy o (wz _) hl (by rw[DR,aH L]);refine vc (zJ ?_);simp![↓Si,↓E,↓C,↓h];refine IV (up ⟨_,rfl,g1,z,?_,ex⟩);rw[l,DW L];exact o
   ·let h:∀v Q,wp (lH ⇑s (b8 a) v) Q u=Q v (u.set ⇑s (.dct θ (i6 (pR (pk (lF (firsts.take i))) 0) (b8 a) v))):=λv Q=>UO o (wz _) hl (by rw[DR,aB L]);refine vc (zJ ?_);simp![↓Si,↓E,↓C,↓h];refine IV (up ⟨_,rfl,by rw[aw ()];exact g1,z,?_,ex.put (aA _)⟩);rw[l,DY L,FA,ax (iq o)];have:=RY L;unfold bz at this;rw[this]
 ·let⟨y4,el,g1,I,o,ex⟩:=hW;subst el;rw[af,cX]at I o;let qk:∀(Q:D->aY->Prop),wp (qj (.dic ⇑s)) Q u=Q (.ref ⇑u) (u++[.lst ((pk (lF firsts)).map b8)]):=λQ=>by rw[Zx o,OG]
  refine vc (zJ ?_);simp![↓qk];refine vc (zJ ?_);simp![bn];let lu:=ex.le;let f0:Fn s ⇑u ⇑s (pk (lF firsts)) (u++[MO.lst ((pk (lF firsts)).map b8)]++[MO.lst []]):=⟨k_ (k_ o),k_ i4,(ex.snoc _).snoc _⟩
  let g3:(u++[MO.lst ((pk (lF firsts)).map b8)]++[MO.lst []])[⇑(u++[MO.lst ((pk (lF firsts)).map b8)])]?=ξ (.lst []):=i4;let l3:⇑u < ⇑(u++[MO.lst ((pk (lF firsts)).map b8)]):=by simp
  let l4:=iq o;clear qk;generalize ⇑(u++[MO.lst ((pk (lF firsts)).map b8)])=ns at g3 l3;generalize u++[MO.lst ((pk (lF firsts)).map b8)]++[MO.lst []]=u0 at g3 f0;generalize ⇑u=no at *;refine vc (Ql4 (λl v=>∃(ps:PL)(rs:List D),l=[ξ (gj h),ξ (.ref Y),ξ ↑most,ξ (.dic ⇑s),y4,ξ (.ref no),ξ (.ref ns)]/\ps=iV h (lF firsts) ⇑rs/\PI h ps/\Fn s no ⇑s (pk ps) v/\v[ns]?=ξ (.lst rs)/\⇑rs<=⇑ps/\Gr h ns no ⇑s ps rs v/\(⇑ps<=⇑rs->⇑ps<=most\/ps=[]))
   (λ(_:Loc)(v:aY)=>match (v[ns]?:Option MO) with
    |some (.lst rs)=>2000-⇑rs
    |_=>0) ⟨lF firsts,[],rfl,rfl,I,f0,g3,by simp,λi d e=>by simp at e,λz=>.inr (sj (by simpa using z))⟩ (λR1 l v up hW=>?_))
  let⟨ps,rs,el,eb,Wp,f,U,hr,G,hend⟩:=hW;subst el;let hl:=Wp.few hc;simp![↓eA U,↓eA f.2.1,af,ub];by_cases O:⇑rs < ⇑ps
  ·rw[aH ()];let E:ps[⇑rs]?=ξ ps[⇑rs]:=ag O;let H:=cM O;generalize ps[⇑rs]=p at E H;let⟨x,w⟩:=p;refine vc (X1 ?_);simp![↓Xc,if_true,↓eA f.2.1,af,ub];by_cases L:most < ⇑ps
   ·rw[aH ()];refine vc (Yj ?_);simp![];exact hv ⇑rs v (by rw[<- eb];exact L) f.2.2
   ·rw[aB ()];refine IV ?_;let q3:∀(Q:D->aY->Prop)s,wp (cu ((pk ps).map b8) (⇑rs:Nat)) Q s=Q (b8 x) s:=λQ s=>oG (by unfold pk;rw[ar,ar,E];rfl);refine vc (zJ ?_);simp![↓eA U,↓eA f.2.1,↓q3];refine XZ hc () () (aA _) f Wp H λr v2 hr2 gw u kp=>?_;let lv:=iq U;let C:v2[ns]?=ξ (.lst rs):=by rw[kp ns lv () ()];exact U
    let lno:=iq f.2.1;let lnd:=iq f.1;simp![↓eA C,↓rh C];let⟨t,J⟩:=Eb (h:=h) (x:=x) (w:=w) (fr h x) ps;refine⟨qY (),IV (up ⟨nU h x w (fr h x) ps,_,rfl,?_,Wp.st hh H λk g=>g,?_,ax (iq C),?_,λi d e=>?_,λz=>?_⟩ ?_)⟩
    ·rw[aK,fm,iV,<- eb,E]
    ·exact⟨by rw[aw ()];exact u.1,by rw[aw ()];exact u.2.1,u.2.2.put ()⟩
    ·rw[J];simp;ext
    ·by_cases hi:i < ⇑rs
     ·rw[aI hi]at e;let⟨I,z,Q,l,L,Y,H,u,h⟩:=G i d e;let C:=iq u;refine⟨I,z,Q,l,L,Y,by rw[J,aI ()];exact H,?_,λk g=>?_⟩
      ·rw[aw (),kp I C L Y,u,J,IR,RQ h]
      ·rw[J,IR];exact bI _ (h k g)
     ·let o : i = ⇑rs := by have:=(ac.mp e).1;simp at this;ext
      subst o;rw[bv (aA _),vQ]at e;refine⟨r,(x,w),(aO e).symm,by ext,by ext,by ext,by rw[J,aI O];exact E,?_,λk g=>E8 g⟩;rw[aw ()];exact gw
    ·rw[aK,fm,J,aK]at z;refine .inl ?_;rw[J,aK];ext
    ·rw[ax (iq C),U];simp only[aK,fm];ext
  ·rw[aB ()];refine vc (zJ ?_);simp![l2];exact hq ps ⇑rs no ns rs v eb () (hend ()) Wp f.2.1 U () G () f.2.2
end
open PySem (Str)
inductive Rc(E:Nat->List (Nat×Nat)):Nat->Nat->Prop
 |refl (x:Nat):Rc E x x|step {x y:Nat}{p:Nat×Nat} (h:p∈E x) (r:Rc E p.2 y):Rc E x y
section
variable{E:Nat->List (Nat×Nat)}{n:Nat}{x y z:Nat}
theorem QnZ{g:Nat}(h:(E x)[g]?=ξ p):(E x).take (g+1)=(E x).take g++[p]:=by rw[gA,h];rfl
theorem Rc.trans(a:Rc E x y)(b:Rc E y z):Rc E x z:=by
 induction a with|refl=>exact b|step h _ ih=>exact .step h (ih b)
end
section
variable{s u s0:aY}{Q:D->aY->Prop}{V:D->aY->Prop}{E:Nat->List (Nat×Nat)}{n ns i3 no nd lo ao:Nat}{h:Hs}{ys:List Sd}{rs:List D}
noncomputable def LK(p:Nat×Nat):D:=.tup [.int (p.1:Nat),.int (p.2:Nat)]
noncomputable def qX(x:Nat):D:=.int (x:Nat)
structure zN(n:Nat)(E:Nat->List (Nat×Nat))(ns:Nat)(u:aY):Prop where
 at_:∃rs:List Nat,u[ns]?=ξ (.lst (rs.map .ref))/\⇑rs=n/\∀(i r:Nat),rs[i]?=ξ r->u[r]?=ξ (.lst ((E i).map LK))
 wf:∀i,i < n->∀p∈E i,p.2 < n
 few:∀i,i < n->⇑(E i)<=3
theorem zN.ext(g:zN n E ns s)(x:eZ s u):zN n E ns u:=by let⟨⟨rs,I,H,G⟩,C,z⟩:=g;exact⟨⟨rs,x.at_ I,H,λi r o=>x.at_ (G i r o)⟩,C,z⟩
theorem zN.row0(g:zN n E ns s0){i:Nat}(G:i < n):∃(rs:List Nat)(r:Nat),(∀{v},eZ s0 v->v[ns]?=ξ (.lst (rs.map .ref))/\v[r]?=ξ (.lst ((E i).map LK)))/\(∀(Q:D->aY->Prop)s,wp (cu (rs.map D.ref) ((i:Nat):Int)) Q s=Q (.ref r) s)/\⇑rs=n:=by let⟨rs,C,z,o⟩:=g.at_;let e:=ag (show i < ⇑rs by ext);exact⟨rs,_,λx=>⟨x.at_ C,x.at_ (o i _ e)⟩,λQ s=>oG (by rw[ar,e];rfl),z⟩
theorem ZO{f:Nat->D}{i:Nat}(o:i < n):(bY n f).set i v=bY n λj=>if j=i then v else f j:=by
 apply d7;intro k;by_cases g:k < n
 ·rw[xy g];by_cases e:k=i
  ·subst e;rw[ax (by rw[on];exact g),aH rfl]
  ·rw[aw (du e),xy g,aB e]
 ·rw[bE (by rw[cJ,on];ext),bE (by rw[on];ext)]
theorem Wh{k i:Nat}(h:i < k):MM.sK k ((i:Nat):Int)=ξ i:=by unfold MM.sK;rw[aH (),aH ()];simp
def eF(h:Hs)(ys:List Sd)(i:Nat):List (Nat×Nat):=match ys[i]? with|some x=>(fr h x).map λk=>(k,ys.idxOf (fQ h x k))|none=>[]
theorem pd:∀{rs:List D},(∀d∈rs,∃r,d=.ref r)->∃g:List Nat,rs=g.map .ref
 |[],_=>⟨[],rfl⟩|d::rs,hh=>by let⟨r,rfl⟩:=hh d (by simp);let⟨g,rfl⟩:=pd (rs:=rs) λd hd=>hh d (by simp[hd]);exact⟨r::g,rfl⟩
theorem Tk(hh:ko h)(U:u[ns]?=ξ (.lst rs))(I:⇑rs=⇑(pk ps))(sp:Gr h lo no nd ps rs u):zN ⇑(pk ps) (eF h (pk ps)) ns u:=by
 let⟨H,rfl⟩:=pd (rs:=rs) λd hd=>by let⟨j,O⟩:=gX.mp hd;let⟨r,_,e,_⟩:=sp j d O;exact⟨r,e⟩
 rw[af]at I;let at_:∀(i r:Nat),H[i]?=ξ r->∃x,(pk ps)[i]?=ξ x/\u[r]?=ξ (.lst (row h x (fr h x) (pk ps)))/\∀k∈fr h x,fQ h x k∈pk ps:=λi r o=>by let⟨Y,p,e,_,_,_,g,G,C⟩:=sp i (.ref r) (by rw[ar,o];rfl);cases e;exact⟨p.1,by unfold pk;rw[ar,g];rfl,G,C⟩
 refine⟨⟨H,U,I,λi r o=>?_⟩,λi J p z=>?_,λi J=>?_⟩
 ·let⟨x,g,G,_⟩:=at_ i r o;rw[G];unfold eF row;rw[g,i9];rfl
 ·let⟨x,g,_,C⟩:=at_ i _ (ag ());unfold eF at z;rw[g]at z;let⟨k,L,rfl⟩:=bA.mp z;exact dM.mpr (C k L)
 ·unfold eF;rw[ag J];dsimp only;rw[af];exact ID hh
theorem Tr{r:Nat}(hh:ko h)(g:u[r]?=ξ (.lst ((mY ⇑h.hands).map D.tup)))(A:List D->aY->Prop):wp (collect (aT 0) cB (bj jO (au (am 1) (au (am 0) bb))) (ij r ((mY ⇑h.hands).map D.tup)) ((mY ⇑h.hands).map D.tup) [ψ,ξ (gj h)]) A u=A (((mY ⇑h.hands).map (n5 h)).map b8) u:=by
 rw[A0 (f:=λk=>((((mY ⇑h.hands).map (n5 h)).map b8)[k]?).getD .non) (show ij r _ u from g) (λk d hd Q=>by
  rw[ar]at hd;cases o:(mY ⇑h.hands)[k]? with|none=>rw[o]at hd;cases hd|some row=>
   rw[o]at hd;let G:d=.tup row:=(aO hd).symm;subst G;let C:∀(Q:D->aY->Prop)s,wp (jO [gj h,.tup row]) Q s=Q (b8 (n5 h row)) s:=λQ s=>Yg hh (aJ o);rw[ar,ar,o];simp![↓C,dJ,il])]
 congr 1;rw[af];apply d7;intro k;by_cases z:k < ⇑(mY ⇑h.hands)
 ·rw[xy z,ar,ar,ag z];rfl
 ·rw[bE (by rw[on];ext),bE (by rw[af,af];ext)]
def kL(h:Hs):List Sd:=(mY ⇑h.hands).map (n5 h)
theorem SY(hh:ko h):∀x∈kL h,fE h x:=λx g=>by let⟨row,o,e⟩:=bA.mp g;rw[<- e];exact M_ hh o
theorem Qi(hh:ko h):⇑(mY ⇑h.hands)<=100:=by rw[Se];let o:=hh.2.2.1;let g:=hh.2.2.2.1;rcases (show ⇑h.hands=2\/⇑h.hands=3 by ext) with e|e<;>rw[e]<;>decide
theorem ZX{most:Nat}(H:uf h)(U:∀ps m no ns lo nd rs u,ps=iV h (lF (kL h)) m->⇑ps<=m->⇑ps<=most\/ps=[]->PI h ps->u[no]?=ξ (.lst ((pk ps).map b8))->u[ns]?=ξ (.lst rs)->⇑rs=⇑ps->Gr h lo no nd ps rs u->eZ s u->Q (.tup [.ref no,.ref ns]) u)(O:∀m u,most < ⇑(iV h (lF (kL h)) m)->eZ s u->V (pq most) u):lW (jA [gj h,.int most]) Q V s:=by
 let hh:=H.1;unfold jA yr;refine Np (vc (zJ ?_));simp![];refine TQ hh λr u hr g ex=>?_;let w:=λA=>Tr hh g A;let L:=Qi hh;let J:⇑(mY ⇑h.hands)<=eT:=kr ();simp![↓eA g,fT,↓w,af,J];refine vc (xB (Bw (PJ ?_) (λd s' q=>Bp q) λ_ _ q=>q));simp![];refine QnY (firsts:=kL h) H (SY hh) (by unfold kL;rw[af];exact L) i4 (λps m no ns rs o e1 e2 e3 I g2 E z G Y C=>?_) (λm o l C=>O m o l ((ex.snoc _).trans C));exact U ps m no ns _ _ rs o e1 e2 e3 I g2 E z G ((ex.snoc _).trans C)
end
open PySem (Str)
section
variable{s u s0:aY}{Q:D->aY->Prop}{E:Nat->List (Nat×Nat)}{n ns nb i j:Nat}
noncomputable def bk(E:Nat->List (Nat×Nat))(i j:Nat):List Nat:=(bU i).flatMap λa=>((E a).filter λp=>decide (p.2=j)).map λ_=>a
theorem Td{a:Nat}:a∈bk E i j↔a < i/\∃p∈E a,p.2=j:=by
 unfold bk;rw[List.mem_flatMap];constructor
 ·rintro ⟨b,hb,hm⟩
  let⟨p,g,rfl⟩:=bA.mp hm;let⟨o,h⟩:=dO.mp g;exact⟨cC.mp hb,p,o,of_decide_eq_true h⟩
 ·rintro ⟨ha,p,g,e⟩
  exact⟨a,cC.mpr ha,bA.mpr ⟨p,dO.mpr ⟨g,bV e⟩,rfl⟩⟩
theorem Qa:bk E (i+1) j=bk E i j++((E i).filter λp=>decide (p.2=j)).map λ_=>i:=by unfold bk;rw[fH,xx];simp
def bq(E:Nat->List (Nat×Nat))(i q j:Nat):List Nat:=bk E i j++(((E i).take q).filter λp=>decide (p.2=j)).map λ_=>i
theorem PB(few:∀i,i < n->⇑(E i)<=3):∀i,i<=n->⇑(bk E i j)<=3*i
 |0,_=>by simp[bk]|i+1,hi=>by rw[Qa,aK,af];have o:=PB few i ();have h:=gW (λp=>decide (p.2=j)) (E i);have g:=few i ();ext
structure IQ(n:Nat)(B:Nat->List Nat)(nb:Nat)(u:aY):Prop where
 at_:∃bs:Nat,u[nb]?=ξ (.lst (bY n λj=>.ref (bs+j)))/\∀j,j < n->u[bs+j]?=ξ (.lst ((B j).map qX))
theorem Sf{a:CE}{I:Wk->aY->Prop}: wp (qg a l) I s=wp (a l) (λx s'=>match x with
  | .ref n=>wp (getL n) (λds g=>I ⟨(ib 0 ⇑ds).zipWith (λi d=>.tup [i,d]) ds,ij n ds⟩ g) s'
  |_=>False) s:=by
 unfold qg;rw[dR];congr 1;funext x s1;cases x<;>first|exact im|(dsimp only;rw[dR];congr 1;funext ds g;rw[b4])
theorem Ti{k:Nat}(g:k < i):(s++aE i o)[⇑s+k]?=ξ o:=by rw[bv (),show ⇑s+k-⇑s=k by ext,gp,aH g]
theorem Qe{ds:List D}(h:((ib 0 ⇑ds).zipWith (λi d=>D.tup [i,d]) ds)[i]?=ξ e):∃d,ds[i]?=ξ d/\e=.tup [.int (i:Nat),d]:=by
 rw[Ef,fo]at h;let g:i < ⇑ds:=by
  refine rB λz=>?_;rw[bE (l:=ds) ()]at h;cases o:(bY ⇑ds λi=>D.int (i:Nat))[i]? with|none=>rw[o]at h;cases h|some _=>rw[o]at h;cases h
 rw[xy g,ag g]at h;cases h;exact⟨_,ag g,rfl⟩
theorem OF{q:Nat}(g:(E i)[q]?=ξ p):bq E i (q+1) j=bq E i q j++(if p.2=j then [i] else []):=by
 unfold bq;rw[QnZ g,eR,aV,<- bF];congr 1;by_cases e:p.2=j
 ·simp[e]
 ·simp[e]
theorem Yw:bq E i ⇑(E i) j=bk E (i+1) j:=by unfold bq;rw[cX,Qa]
theorem Qof{q:Nat}(few:∀i,i < n->⇑(E i)<=3)(g:i < n):⇑(bq E i q j)<=3*n:=by unfold bq;rw[aK,af];let z:=PB (j:=j) few i ();let h:=gW (λp:Nat×Nat=>decide (p.2=j)) ((E i).take q);let o:=few i g;rw[cL]at h;ext
theorem Qog(g:zN n E ns s)(hn:n<=1300)(hq:∀r u,IQ n (bk E n) r u->⇑s<=r->eZ s u->Q (.ref r) u):wp (jR [.ref ns]) Q s:=by
 let⟨rs,J,L,h3⟩:=id g.at_;let c1:n<=eT:=kr ()
 (simp![jR];simp![yD,↓eA J,fT,af,L,c1])
 refine JE (λi o v=>v=s++aE i (MO.lst [])/\o=bY i λj=>.ref (⇑s+j)) (λi o v w=>by rw[w.1];show _=_;rw[aI (iq J)];exact J) ⟨by simp,rfl⟩ (λi d o v hd w=>?_) (λo v w=>?_)
 ·let⟨rfl,rfl⟩:=w;simp![bn];refine⟨by rw[bF,<- List.replicate_succ',c_],?_⟩;rw[R4,aK,eM]
 ·let⟨rfl,rfl⟩:=w;rw[af,L];let a1:(s++aE n (MO.lst [])++[MO.lst (bY n λj=>.ref (⇑s+j))])[⇑(s++aE n (MO.lst []))]?=ξ (.lst (bY n λj=>.ref (⇑s+j))):=i4;let a2:∀j,j < n->(s++aE n (MO.lst [])++[MO.lst (bY n λj=>.ref (⇑s+j))])[⇑s+j]?=ξ (.lst ((bk E 0 j).map qX)):=λj H=>k_ (Ti H);let a3:eZ s (s++aE n (MO.lst [])++[MO.lst (bY n λj=>.ref (⇑s+j))]):=⟨aE n (MO.lst [])++[MO.lst (bY n λj=>.ref (⇑s+j))],by rw[bF]⟩
  let a4:⇑s+n<=⇑(s++aE n (MO.lst [])):=by simp
  generalize ⇑(s++aE n (MO.lst []))=nb at *;generalize s++aE n (MO.lst [])++[MO.lst (bY n λj=>.ref (⇑s+j))]=s1 at *;simp![↓Sf,↓eA (a3.at_ J)];refine rJ (λi l v=>∃(o Y G C:Option D),l=[ξ (.ref ns),ξ (.ref nb),o,Y,G,C]/\v[nb]?=ξ (.lst (bY n λj=>.ref (⇑s+j)))/\(∀j,j < n->v[⇑s+j]?=ξ (.lst ((bk E i j).map qX)))/\eZ s v) (λ_ _ _ w=>by let⟨_,_,_,_,_,_,_,g⟩:=w;exact g.at_ J)
   ⟨_,_,_,_,rfl,a1,a2,a3⟩ (λRw1 i d l v up1 rt1 hd I=>?_) (λl v I=>?_)
  ·let⟨o,Y,G,C,el,b1,b2,U⟩:=I;subst el;let⟨dd,h,rfl⟩:=Qe hd;rw[ar]at h;cases O:rs[i]? with|none=>rw[O]at h;cases h|some r=>
    rw[O]at h;cases h;let hi:i < n:=by rw[<- L];exact (ac.mp O).1
    let J:=h3 i r O;let lr:=iq J;simp![↓eA (U.at_ J)];refine rJ (λq l v=>∃(G C:Option D),l=[ξ (.ref ns),ξ (.ref nb),ξ ↑(i:Nat),ξ (.ref r),G,C]/\v[nb]?=ξ (.lst (bY n λj=>.ref (⇑s+j)))/\(∀j,j < n->v[⇑s+j]?=ξ (.lst ((bq E i q j).map qX)))/\eZ s v) (λ_ _ _ w=>by let⟨_,_,_,_,_,g⟩:=w;exact g.at_ J)
     ⟨_,_,rfl,b1,λj H=>by rw[b2 j H];simp[bq],U⟩ (λRw2 q d l v u rt2 hd I=>?_) (λl v I=>?_)
    ·let⟨G,C,el,c1,c2,c3⟩:=I;subst el;rw[ar]at hd;cases ep:(E i)[q]? with|none=>rw[ep]at hd;cases hd|some p=>
      rw[ep]at hd;cases hd;let z:=g.wf i hi p (aJ ep);let h:∀(Q:D->aY->Prop)s',wp (cu (bY n λj=>D.ref (⇑s+j)) ((p.2:Nat):Int)) Q s'=Q (.ref (⇑s+p.2)) s':=λQ s'=>xA z;unfold LK;simp![↓eA c1,↓h,↓eA (c2 p.2 z),↓rh (c2 p.2 z)];let l:=Qof (q:=q) (j:=p.2) g.few hi;refine⟨qY (by rw[af];ext),u ⟨_,_,rfl,by rw[aw ()];exact c1,λj H=>?_,c3.put ()⟩⟩;by_cases e:p.2=j
      ·subst e;rw[ax (iq (c2 p.2 z)),OF ep,aH rfl,aV];rfl
      ·rw[aw (),OF ep,aB e,bG];exact c2 j H
    ·let⟨G,C,el,c1,c2,c3⟩:=I;subst el;rw[af]at c2;simp![];exact up1 ⟨_,_,_,_,rfl,c1,λj H=>by rw[c2 j H,Yw],c3⟩
  ·let⟨o,Y,G,C,el,b1,b2,U⟩:=I;subst el;let g:⇑((ib 0 ⇑(rs.map D.ref)).zipWith (λi d=>D.tup [i,d]) (rs.map D.ref))=n:=by simp[ib,L]
   rw[g]at b2;simp![];exact hq _ v ⟨⟨⇑s,b1,b2⟩⟩ () U
end
open PySem (Str)
section
variable{s u s0:aY}{Q:D->aY->Prop}{E:Nat->List (Nat×Nat)}{n ns nb nm ao:Nat}{mk:Nat->Option Nat}{S N W:List Nat}
theorem IQ.row{B:Nat->List Nat}(b:IQ n B nb s0){j:Nat}(g:j < n):∃(ds:List D)(r:Nat),(∀{v},eZ s0 v->v[nb]?=ξ (.lst ds)/\v[r]?=ξ (.lst ((B j).map qX)))/\∀(Q:D->aY->Prop)s,wp (cu ds ((j:Nat):Int)) Q s=Q (.ref r) s:=by let⟨⟨bs,o,h⟩⟩:=b;exact⟨_,bs+j,λe=>⟨e.at_ o,e.at_ (h j g)⟩,λQ s=>xA g⟩
def Bt:Option Nat->D
 |none=>.non|some _=>.bl θ
def fS(n:Nat)(mk:Nat->Option Nat):List D:=bY n λi=>Bt (mk i)
noncomputable def ia(ao:Nat)(mk:Nat->Option Nat)(S:List Nat):Nat->Option Nat:=λv=>if v∈S then ξ ao else mk v
theorem K9{t:Nat}(g:t < n):(fS n (ia ao mk S)).set t (.bl θ)=fS n (ia ao mk (S++[t])):=by
 unfold fS;rw[ZO g];congr 1;funext j;unfold ia;by_cases e:j=t
 ·subst e;simp[Bt]
 ·rw[aB e];by_cases h:j∈S
  ·rw[aH h,aH (by simp[h])]
  ·rw[aB h,aB (by simp[h,e])]
noncomputable def tV:D->Bool
 | .non=>ω|_=>θ
theorem Qoi{t:Nat}(g:t < n)(z:ia ao mk S t=ψ):(fS n (ia ao mk (S++[t]))).countP tV=(fS n (ia ao mk S)).countP tV+1:=by
 rw[<- K9 g];let h:t < ⇑(fS n (ia ao mk S)):=by unfold fS;rw[on];exact g
 rw[List.countP_set h];have:(fS n (ia ao mk S))[t]=.non:=by have:=xy (f:=λi=>Bt (ia ao mk S i)) g;rw[z]at this;have o:=ag h;exact aO (o.symm.trans this)
 rw[this];rfl
theorem Vz:wp (Ap (Bt m) .non) Q s=Q (.bl m.isNone) s:=by cases m<;>exact eB rfl
theorem O7:wp (qz (Bt m) .non) Q s=Q (.bl m.isSome) s:=by cases m<;>exact eB rfl
theorem Tg{t:Nat}(g:t < n):wp (cu (fS n mk) ((t:Nat):Int)) Q s=Q (Bt (mk t)) s:=xA g
structure MS(n:Nat)(E:Nat->List (Nat×Nat))(ao:Nat)(mk:Nat->Option Nat)(S:List Nat):Prop where
 a1:ao∈S
 a2:∀v∈S,v < n/\mk v=ψ/\Rc E v ao
theorem Qom{v:Nat}(h:ia ao mk S v=ψ):v∉S/\mk v=none:=by
 unfold ia at h;split at h
 ·cases h
 ·rename_i g;exact⟨g,h⟩
theorem wo{v:Nat}(h:ia ao mk S v≠ψ):v∈S\/mk v≠none:=by
 unfold ia at h;split at h
 ·rename_i g;exact .inl g
 ·exact .inr h
theorem Yd(g:IQ n (bk E n) nb s0)(x0:eZ s0 s)(Y:s[nm]?=ξ (.lst (fS n mk)))(l1:⇑s0<=nm)(hr:ao < n)(U:n<=1300)(wf:∀i,i < n->∀p∈E i,p.2 < n)(h1:∀r,mk ao=ξ r->Q .non s)(h2:mk ao=ψ->∀S u,MS n E ao mk S->(∀a∈S,∀b∈bk E n a,b∈S\/mk b≠ψ)->u[nm]?=ξ (.lst (fS n (ia ao mk S)))->eZ s0 u->(∀k,k < ⇑s->k≠nm->u[k]?=s[k]?)->Q .non u):wp (jH [.ref nb,.int (ao:Nat),.ref nm,.bl θ]) Q s:=by
 let q1:∀(Q:D->aY->Prop)s,wp (cu (fS n mk) ((ao:Nat):Int)) Q s=Q (Bt (mk ao)) s:=λQ s=>Tg hr;let c1:1<=eT:=kr ();let lm:=iq Y;let lx:=x0.le;let nd:[nm,⇑s].Nodup:=by simp;ext
 let hA:∀a∈[nm,⇑s],⇑s0<=a:=by simp;ext
 let ix:∀(f:Nat->Option Nat){t:Nat},t < n->MM.sK ⇑(fS n f) ((t:Nat):Int)=ξ t:=λf t ht=>by unfold fS;rw[on];exact Wh ht
 let cle:∀f,(fS n f).countP tV<=1300:=λf=>by have:=List.countP_le_length (p:=tV) (l:=fS n f);unfold fS at this ⊢;rw[on]at this;ext
 (simp![jH];simp![yf,↓eA Y,↓q1,↓O7])
 cases H:mk ao with
 |some r=>
  simp![lj,if_true];exact h1 r H
 |none=>
  let eset:(fS n mk).set ao (.bl θ)=fS n (ia ao mk [ao]):=by
   let e0:fS n mk=fS n (ia ao mk []):=by unfold fS ia;congr 1
   rw[e0,K9 hr];try rfl
  simp![wJ,bp,if_false,↓eA Y,ix mk hr,↓rh Y,eset,c1];let el0:⇑(s.set nm (MO.lst (fS n (ia ao mk [ao]))))=⇑s:=cJ;rw[el0];let K:rP s [nm,⇑s] (s.set nm (MO.lst (fS n (ia ao mk [ao])))++[MO.lst [.int (ao:Nat)]]) [fS n (ia ao mk [ao]),[ao].map qX]:=((rP.nil.old Y).put (i:=0) (by simp) rfl).snoc el0;generalize s.set nm (MO.lst (fS n (ia ao mk [ao])))++[MO.lst [.int (ao:Nat)]]=s1 at *;refine Ni (λl v=>∃(S W:List Nat)(y5 y6:Option D),l=[ξ (.ref nb),ξ ↑(ao:Nat),ξ (.ref nm),ξ (.bl θ),ξ (.ref ⇑s),y5,y6]/\MS n E ao mk S/\W.Nodup/\(∀w∈W,w∈S)/\(∀a∈S,a∉W->∀b∈bk E n a,b∈S\/mk b≠ψ)/\rP s [nm,⇑s] v [fS n (ia ao mk S),W.map qX])
   (λ(_:Loc)(v:aY)=>match (v[nm]?:Option MO),(v[⇑s]?:Option MO) with
    |some (.lst ms),ξ (.lst ws)=>2*(2000-ms.countP tV)+⇑ws
    |_,_=>0) ⟨[ao],[ao],_,_,rfl,⟨by simp,λv hv=>by rw[aD.mp hv];exact⟨hr,H,.refl _⟩⟩,by simp,λw O=>O,λa J U=>bw J U,K⟩ (λRw1 l v up1 rt1 hW=>?_)
  clear K;let⟨S,W,y5,y6,el,M,b0,b1,b2,K⟩:=hW;subst el;simp![↓eA (K.at_ 1 _ _ rfl rfl),af];rcases List.eq_nil_or_concat W with e|⟨C,x,e⟩
  ·subst e;rw[aB (by simp)];exact h2 H S v M (λa J=>b2 a J (by simp)) (K.at_ 0 _ _ rfl rfl) (K.ext x0 hA) λk g h=>K.oth k g (by simp;ext)
  rw[List.concat_eq_append]at e;subst e;rw[aH (by simp)];let hxS:=b1 x (by simp);let⟨hx,_,hxr⟩:=M.a2 x hxS;let hmu:(match (v[nm]?:Option MO),(v[⇑s]?:Option MO) with
   |some (.lst ms),ξ (.lst ws)=>2*(2000-ms.countP tV)+⇑ws
   |_,_=>0)=2*(2000-(fS n (ia ao mk S)).countP tV)+(⇑C+1):=by
   rw[K.at_ 0 _ _ rfl rfl,K.at_ 1 _ _ rfl rfl];simp
  let wm:(C++[x]).map qX=C.map qX++[.int (x:Nat)]:=by rw[aV];rfl
  rw[wm]at K ⊢;let K1:=K.put (i:=1) (es:=C.map qX) nd rfl;simp![List.getLast?_concat,List.dropLast_concat,↓rh (K.at_ 1 _ _ rfl rfl)];let I:∀{N:List Nat},∀w∈C++N,w∈S++N:=λw O=>by
   rcases aS.mp O with h|h
   ·exact bI _ (b1 w (bI _ h))
   ·exact bu _ h
  clear K;generalize v.set ⇑s (MO.lst (C.map qX))=v1 at *;let⟨ds,r,gr,qi⟩:=g.row hx;let⟨gb,gv⟩:=gr (K1.ext x0 hA);simp![↓eA gb,↓qi,↓eA gv];refine rJ (λq l v=>∃(N:List Nat)(y6:Option D),l=[ξ (.ref nb),ξ ↑(ao:Nat),ξ (.ref nm),ξ (.bl θ),ξ (.ref ⇑s),ξ ↑(x:Nat),y6]/\MS n E ao mk (S++N)/\(∀b∈(bk E n x).take q,b∈S++N\/mk b≠ψ)/\(C++N).Nodup/\(fS n (ia ao mk (S++N))).countP tV=(fS n (ia ao mk S)).countP tV+⇑N/\rP s [nm,⇑s] v [fS n (ia ao mk (S++N)),(C++N).map qX]) (λ_ _ _ w=>by let⟨_,_,_,_,_,_,_,K⟩:=w;exact (gr (K.ext x0 hA)).2)
   ⟨[],_,rfl,by rw[bG];exact M,by simp,by rw[bG];exact (d6.mp b0).1,by rw[bG];rfl,by rw[bG,bG];exact K1⟩ (λRw2 q d l v2 L rt2 hd hW=>?_) (λl v2 hW=>?_)
  ·let⟨N,y6',el,M2,f1,f0,f4,K⟩:=hW;subst el;rw[ar]at hd;cases g:(bk E n x)[q]? with|none=>rw[g]at hd;cases hd|some b=>
    rw[g]at hd;cases hd;let⟨G,p,U,l⟩:=Td.mp (aJ g);let tk:(bk E n x).take (q+1)=(bk E n x).take q++[b]:=by rw[gA,g];rfl
    let H:∀(Q:D->aY->Prop)s,wp (cu (fS n (ia ao mk (S++N))) ((b:Nat):Int)) Q s=Q (Bt (ia ao mk (S++N) b)) s:=λQ s=>Tg G;unfold qX;simp![↓eA (K.at_ 0 _ _ rfl rfl),↓H,↓Vz];cases h:ia ao mk (S++N) b with
    |some t=>
     simp![Option.isNone_some,bp,if_false];refine L ⟨N,_,rfl,M2,λc o=>?_,f0,f4,K⟩;rw[tk]at o;rcases aS.mp o with o|o
     ·exact f1 c o
     ·rw[aD.mp o];exact wo (by rw[h];simp)
    |none=>
     let⟨g1,g2⟩:=Qom h;let u:=K.put (i:=0) (es:=fS n (ia ao mk (S++N++[b]))) nd rfl;let K3:=(u.put (i:=1) (es:=(C++N).map qX++[.int (b:Nat)]) nd rfl).cg (C':=[fS n (ia ao mk (S++(N++[b]))),(C++(N++[b])).map qX]) (by rw[<- bF,<- bF,aV (l₂:=[b])];rfl);simp![wH,if_true,↓eA (K.at_ 0 _ _ rfl rfl),ix _ G,↓rh (K.at_ 0 _ _ rfl rfl),K9 G,↓eA (u.at_ 1 _ _ rfl rfl),↓rh (u.at_ 1 _ _ rfl rfl)];let Y:⇑(C++N)<=2000:=bH (B8 n _ f0 λw O=>(M2.a2 w (I w O)).1) ();refine⟨qY (by rw[af];ext),L ⟨N++[b],_,rfl,⟨by rw[<- bF];exact bI _ M2.a1,λc o=>?_⟩,λc o=>?_,?_,?_,K3⟩⟩
     ·rw[<- bF]at o;rcases aS.mp o with o|o
      ·exact M2.a2 c o
      ·rw[aD.mp o];exact⟨G,g2,.step U (by rw[l];exact hxr)⟩
     ·rw[tk]at o;rw[<- bF];rcases aS.mp o with o|o
      ·exact (f1 c o).imp (λz=>bI _ z) id
      ·exact .inl (bu _ o)
     ·rw[<- bF,d6];refine⟨f0,by simp,λa J c o e=>?_⟩;rw[aD]at o;subst o e;exact g1 (I _ J)
     ·rw[<- bF,Qoi G h,f4,aK];rfl
  ·let⟨N,y6',el,M2,f1,f0,f4,K⟩:=hW;subst el;rw[af,cX]at f1;simp![];refine up1 ⟨S++N,C++N,_,_,rfl,M2,f0,I,λa J U b G=>?_,K⟩ ?_
   ·let g:a∈S:=(aS.mp J).resolve_right λz=>U (bu _ z);by_cases e:a=x
    ·subst e;exact f1 b G
    ·exact (b2 a g (λz => by
       rcases aS.mp z with z|z
       ·exact U (bI _ z)
       ·exact e (aD.mp z)) b G).imp (λz=>bI _ z) id
   ·refine Nat.lt_of_lt_of_eq ?_ hmu.symm;rw[K.at_ 0 _ _ rfl rfl,K.at_ 1 _ _ rfl rfl];dsimp only;rw[af,f4,aK];have:=cle (ia ao mk (S++N));ext
end
open PySem (Str)
section
variable{Q:D->aY->Prop}{E:Nat->List (Nat×Nat)}{n ns ng ao i:Nat}{mk:Nat->Option Nat}{G:Nat->Bool}
def Mk(n:Nat)(E:Nat->List (Nat×Nat))(G:Nat->Bool)(i:Nat)(mk:Nat->Option Nat):Prop:=∀v,v < n->(mk v≠ψ↔∃r,r < i/\G r=θ/\Rc E v r)
theorem Mk.start:Mk n E G 0 λ_=>none:=λv _=>⟨λz=>bw rfl z,λg=>by let⟨r,h,_⟩:=g;ext⟩
theorem Mk.skip(m:Mk n E G i mk)(h:G i=ω):Mk n E G (i+1) mk:=λv C=>(m v C).trans ⟨λo=>by let⟨r,I,z⟩:=o;exact⟨r,by ext,z⟩,λg=>by
 let⟨r,I,z,H⟩:=g;by_cases e:r=i
 ·subst e;rw[h]at z;cases z
 ·exact⟨r,by ext,z,H⟩⟩
theorem Mk.old(m:Mk n E G i mk)(J:i < n)(h:mk i≠ψ):Mk n E G (i+1) mk:=λv I=>(m v I).trans ⟨λo=>by let⟨r,L,z⟩:=o;exact⟨r,by ext,z⟩,λg=>by
 let⟨r,L,z,C⟩:=g;by_cases e:r=i
 ·subst e;let⟨H,Y,U,O⟩:=(m r J).mp h;exact⟨H,Y,U,C.trans O⟩
 ·exact⟨r,by ext,z,C⟩⟩
theorem Mk.new(m:Mk n E G i mk)(Y:i < n)(O:G i=θ)(L:∀i,i < n->∀p∈E i,p.2 < n)(M:MS n E i mk S)(U:∀a∈S,∀b∈bk E n a,b∈S\/mk b≠ψ):Mk n E G (i+1) (ia i mk S):=λv C=>by
 let key:∀{v w:Nat},Rc E v w->w=i->v < n->v∈S\/mk v≠none:=λr=>by
  induction r with|refl=>exact λe _=>.inl (e ▸ M.a1)|@step x y p hp r ih=>
   intro e o;let g:=L x o p hp;rcases ih e g with z|z
   ·exact U _ z x (Td.mpr ⟨o,p,hp,rfl⟩)
   ·let⟨h,J,I,H⟩:=(m _ g).mp z;exact .inr ((m x o).mpr ⟨h,J,I,.step hp H⟩)
 constructor
 ·intro z;rcases wo z with z|z
  ·exact⟨i,by ext,O,(M.a2 v z).2.2⟩
  ·let⟨h,J,I,H⟩:=(m v C).mp z;exact⟨h,by ext,I,H⟩
 ·rintro ⟨r,h1,h2,h3⟩
  have:v∈S\/mk v≠none:=by
   by_cases e:r=i
   ·exact key h3 e C
   ·exact .inr ((m v C).mpr ⟨r,by ext,h2,h3⟩)
  unfold ia;rcases this with z|z
  ·rw[aH z];exact λe=>(by cases e)
  ·split
   ·exact λe=>(by cases e)
   ·exact z
theorem Qoo(g:zN n E ns s)(U:s[ng]?=ξ (.lst (bY n λi=>.bl (G i))))(hn:n<=1300)(hq:∀(b:Nat->Bool)r u,(∀v,v < n->(b v=θ↔∃r,r < n/\G r=θ/\Rc E v r))->u[r]?=ξ (.lst (bY n λi=>.bl (b i)))->⇑s<=r->eZ s u->Q (.ref r) u):wp (jy [.ref ns,.ref ng]) Q s:=by
 let c1:n<=eT:=kr ()
 (simp![jy];simp![yb])
 refine Qog g hn λnb h B hnb o=>?_;let⟨rs,t1,t2,_⟩:=id g.at_;simp![↓eA (o.at_ t1),fT,af,t2,c1];rw[A0 (f:=λ_=>.non) (o.at_ t1) (λi d hd Q=>by simp![]),af,t2];let e0:(bY n λ_=>D.non)=fS n λ_=>none:=rfl;rw[e0];let g1:(h++[MO.lst (fS n λ_=>ψ)])[⇑h]?=ξ (.lst (fS n λ_=>ψ)):=i4;let Y:eZ h (h++[MO.lst (fS n λ_=>ψ)]):=(eZ.refl _).snoc _;generalize h++[MO.lst (fS n λ_=>ψ)]=u2 at *;simp![↓Sf,↓eA (Y.at_ (o.at_ U))];let lg:=iq U;refine rJ (λi l v=>∃(mk:Nat->Option Nat)(J I:Option D),l=[ξ (.ref ns),ξ (.ref ng),ξ (.ref nb),ξ (.ref ⇑h),J,I]/\Mk n E G i mk/\v[⇑h]?=ξ (.lst (fS n mk))/\eZ h v) (λ_ _ _ w=>by let⟨_,_,_,_,_,_,e⟩:=w;exact e.at_ (o.at_ U))
  ⟨_,_,_,rfl,Mk.start,g1,Y⟩ (λRw i d l v up rt hd O=>?_) (λl v O=>?_)
 ·let⟨mk,J,I,el,m,C,ex⟩:=O;subst el;let⟨Q,L,rfl⟩:=Qe hd;let⟨H,rfl⟩:=zK L;simp![];cases l:G i with
  |false=>
   simp![bp,if_false];exact up ⟨mk,_,_,rfl,m.skip l,C,ex⟩
  |true=>
   simp![if_true];refine Yd (s0:=h) B ex C (aA _) H hn g.wf (λr e=>?_) (λe S v2 M E o u _=>?_)
   ·simp![];exact up ⟨mk,_,_,rfl,m.old H (by rw[e];exact λz=>(by cases z)),C,ex⟩
   ·simp![];exact up ⟨_,_,_,rfl,m.new H l g.wf M E,o,u⟩
 ·let⟨mk,J,I,el,m,C,ex⟩:=O;subst el;let el:⇑((ib 0 ⇑(bY n λi=>D.bl (G i))).zipWith (λi d=>D.tup [i,d]) (bY n λi=>D.bl (G i)))=n:=by simp[ib,on]
  rw[el]at m;let g:⇑(fS n mk)=n:=on;simp![↓eA C,fT,g,c1];rw[A0 (f:=λi=>.bl (mk i).isSome) C (λi d hd Q=>by let⟨H,rfl⟩:=zK hd;simp![↓O7]),g]
  simp![];refine hq (λi=>(mk i).isSome) _ _ (λv h=>?_) i4 (by have:=(o.trans ex).le;ext) ((o.trans ex).snoc _);rw[<- m v h];cases mk v<;>simp
end
open PySem (Str)
section
variable{s u:aY}{Q:D->aY->Prop}{h:Hs}{a x y:Sd}{xs ys:List Sd}{v:Nat}
def Bv(h:Hs)(x:Sd)(v:Nat):Prop:=∃k,k < ⇑h.hands/\cN h x k=.settle v
def rN(h:Hs)(x:Sd)(v:Nat):Bool:=(uF h x).any λd=>vI d ↑v
theorem GR{α:Type}{l:List α}(h:⇑l=2):∃a b,l=[a,b]:=by
 match l,h with|[a,b],_=>exact⟨a,b,rfl⟩
theorem IH:rN h x v=θ↔Bv h x v:=by
 unfold rN uF bY Bv;rw[m8,eQ];constructor
 ·rintro ⟨k,hk,e⟩
  refine⟨k,cC.mp hk,?_⟩;cases el:cN h x k with
  |settle w=>
   rw[sE,el]at e;have:((w:Int) == (v:Int))=true:=e;rw[beq_iff_eq]at this;have:w=v:=by ext
   rw[this]
  |act b d g=>rw[sE,el]at e;cases e
 ·rintro ⟨k,hk,e⟩
  refine⟨k,cC.mpr hk,?_⟩;rw[sE,e]
  show ((v:Int) == (v:Int))=θ;simp
theorem Qoq{r:Nat}(hh:ko h)(g:s[r]?=ξ (.lst (xs.map b8)))(ok:∀x∈xs,fE h x)(L:⇑xs<=1300):wp (jE [gj h,.ref r,.int v]) Q s=Q (.ref ⇑s) (s++[.lst (xs.map λx=>.bl (rN h x v))]):=by
 let w:∀A,wp (collect (aT 0) cB (c2 Ge (am 2) (bj ji (au (am 1) (au (am 0) bb)))) (ij r (xs.map b8)) (xs.map b8) [ψ,ξ (gj h),ξ ↑v]) A s=A (xs.map λx=>.bl (rN h x v)) s:=λA=>by
  rw[A0 (f:=λi=>.bl (rN h (xs.getD i ⟨[],[]⟩) v)) (show ij r _ s from g) (λi d hd Q=>by
   rw[ar]at hd;cases ex:xs[i]? with|none=>rw[ex]at hd;cases hd|some x=>
    rw[ex]at hd;let J:d=b8 x:=(aO hd).symm;subst J;let I:=ok x (aJ ex);let G:∀(Q:D->aY->Prop)s,wp (ji [gj h,b8 x]) Q s=Q (.tup (uF h x)) s:=λQ s=>Oy hh I;let C:(uF h x).all lG=true:=by rw[dX];intro d hd;unfold uF bY at hd;let⟨k,_,e⟩:=bA.mp hd;rw[<- e];cases cN h x k<;>rfl
    let E:∀(Q:D->aY->Prop)s,wp (Gp ↑v (uF h x)) Q s=Q (.bl (rN h x v)) s:=λQ s=>by unfold Gp;rw[dE,b4];exact propext ⟨λz=>z.2,λz=>⟨⟨rfl,C⟩,z⟩⟩
    simp![↓G,↓E];rw[fj,ex];rfl)]
  congr 1;unfold bY;apply d7;intro i;rw[ar,ar,af];by_cases o:i < ⇑xs
  ·rw[d_ o,ag o,dJ,dJ,fj,ag o];rfl
  ·rw[bE (by simp;ext),bE ()];rfl
 let q:∀Q,wp (getL r) Q s=Q (xs.map b8) s:=λQ=>eA g;let H:⇑xs<=eT:=kr ()
 (simp![jE];simp![j7,↓q,fT,af,H,↓w])
inductive Pt(h:Hs):Sd->Sd->Prop
 |refl (x:Sd):Pt h x x|step {x y:Sd}{k:Nat} (hk:k∈fr h x) (r:Pt h (fQ h x k) y):Pt h x y
def Rv(h:Hs)(x:Sd)(v:Nat):Prop:=∃y,Pt h x y/\rN h y v=θ
def Cl(h:Hs)(ys:List Sd):Prop:=∀x∈ys,∀k∈fr h x,fQ h x k∈ys
theorem Qd(o:Cl h ys)(p:Pt h x y):x∈ys->y∈ys:=by
 induction p with|refl=>exact id|step hk _ ih=>exact λg=>ih (o _ g _ hk)
theorem VT(H:Cl h ys){i j:Nat}(r:Rc (eF h ys) i j):∀x,ys[i]?=ξ x->∃y,ys[j]?=ξ y/\Pt h x y:=by
 induction r with|refl=>exact λx g=>⟨x,g,.refl x⟩|@step i j p hp r ih=>
  intro x g;unfold eF at hp;rw[g]at hp;let⟨k,z,rfl⟩:=bA.mp hp;let C:=H x (aJ g) k z;let o:=dM.mpr C;let⟨y,G,E⟩:=ih (fQ h x k) (by rw[ag o,gK o]);exact⟨y,G,.step z E⟩
theorem Vh(z:Cl h ys)(p:Pt h x y):x∈ys->Rc (eF h ys) (ys.idxOf x) (ys.idxOf y):=by
 induction p with|refl=>exact λ_=>.refl _|@step x y k hk r ih=>
  intro g;let o:=dM.mpr g;refine .step (p:=(k,ys.idxOf (fQ h x k))) ?_ (ih (z x g k hk));unfold eF;rw[ag o,gK o];exact bA.mpr ⟨k,hk,rfl⟩
theorem Wz(E:Cl h ys)(G:ys.Nodup){i:Nat}(g:ys[i]?=ξ x):(∃r,r < ⇑ys/\((ys[r]?).map (rN h · v)).getD ω=θ/\Rc (eF h ys) i r)↔Rv h x v:=by
 constructor
 ·rintro ⟨r,hr,hb,rc⟩
  let⟨y,J,o⟩:=VT E rc x g;rw[J]at hb;exact⟨y,o,hb⟩
 ·rintro ⟨y,p,hb⟩
  let z:=aJ g;let H:=Qd E p z;let C:=dM.mpr H;let e:ys[ys.idxOf y]?=ξ y:=by rw[ag C,gK C]
  let L:ys.idxOf x=i:=by have I:=(ac.mp g).1;have o:=dM.mpr z;refine (zS (h₀:=o) (h₁:=I) G).mp ?_;rw[gK o,(ac.mp g).2]
  refine⟨_,C,by rw[e];exact hb,?_⟩;rw[<- L];exact Vh E p z
theorem Vj{a b:CE}{I:Wk->aY->Prop}: wp (uE a b l) I s=wp (a l) (λx C=>wp (b l) (λy z=>match x,y with
  | .ref m,.ref n=>wp (getL m) (λds o=>wp (getL n) (λes g=>I ⟨ds.zipWith (λp q=>.tup [p,q]) es,λs=>ij m ds s/\ij n es s⟩ g) o) z
  |_,_=>False) C) s:=by
 unfold uE;rw[dR];refine kt λx C=>?_;rw[dR];refine kt λy z=>?_;cases x<;>first|exact im|skip
 cases y<;>first|exact im|skip
 dsimp only;rw[dR];refine kt λds o=>?_;rw[dR];refine kt λes g=>?_;rw[b4]
theorem Qow{no ns:Nat}(hh:ko h)(gy:s[no]?=ξ (.lst (ys.map b8)))(g:zN ⇑ys (eF h ys) ns s)(ok:∀x∈ys,fE h x)(cl:Cl h ys)(nd:ys.Nodup)(hl:⇑ys<=1300)(hq:∀(b:Nat->Bool)r u,(∀i x,ys[i]?=ξ x->(b i=θ↔Rv h x 0/\Rv h x 1))->u[r]?=ξ (.lst (bY ⇑ys λi=>.bl (b i)))->⇑s<=r->eZ s u->Q (.ref r) u):wp (js [gj h,.tup [.ref no,.ref ns]]) Q s:=by
 let l2:2<=eT:=kr ();let c1:⇑ys<=eT:=kr ()
 (simp![js];simp![jT,l2,fT])
 let ev:∀v,(ys.map λx=>D.bl (rN h x v))=bY ⇑ys λi=>.bl (((ys[i]?).map (rN h · v)).getD ω):=λv=>AZ (by simp) λi hi=>by rw[ar,ag hi];rfl
 refine JE (λj o v=>eZ s v/\⇑o=j/\∀t d,o[t]?=ξ d->∃(r:Nat)(b:Nat->Bool),d=.ref r/\v[r]?=ξ (.lst (bY ⇑ys λi=>.bl (b i)))/\∀i x,ys[i]?=ξ x->(b i=θ↔Rv h x t)) (λ_ _ _ _=>trivial) ⟨eZ.refl _,rfl,λt d z=>by simp at z⟩ (λj d o v hd Y=>?_) (λo v Y=>?_)
 ·let⟨ex,el,O⟩:=Y;let hj:j < 2:=by have:=(ac.mp hd).1;simpa using this
  let E:d=.int (j:Nat):=by rcases (show j=0\/j=1 by ext) with e|e<;>subst e<;>simp at hd<;>rw[<- hd]<;>rfl
  subst E;simp![];rw[Qoq hh (ex.at_ gy) ok hl,ev];simp![];refine Qoo (g.ext (ex.snoc _)) i4 hl λb r u z C lr l=>?_;refine⟨((ex.snoc _).trans l),by simp[el],λt d G=>?_⟩;by_cases c:t < ⇑o
  ·rw[aI c]at G;let⟨h,Q,L,J,H⟩:=O t d G;exact⟨h,Q,L,l.at_ (k_ J),H⟩
  ·rw[bv ()]at G;let U:t-⇑o=0:=by have:=(ac.mp G).1;simp at this;ext
   rw[U]at G;cases G;have:t=j:=by ext
   subst this;exact⟨r,b,rfl,C,λi x I=>(z i (ac.mp I).1).trans (Wz cl nd I)⟩
 ·let⟨ex,el,O⟩:=Y;let⟨d0,d1,rfl⟩:=GR el;let⟨E,H,rfl,z,l⟩:=O 0 d0 rfl;let⟨C,b1,rfl,u,h⟩:=O 1 d1 rfl;let o:(v++[MO.lst [D.ref E,.ref C]])[⇑v]?=ξ (.lst [.ref E,.ref C]):=i4;let L:(v++[MO.lst [D.ref E,.ref C]])[E]?=ξ (.lst (bY ⇑ys λi=>.bl (H i))):=k_ z;let J:(v++[MO.lst [D.ref E,.ref C]])[C]?=ξ (.lst (bY ⇑ys λi=>.bl (b1 i))):=k_ u;let xe:=ex.snoc (.lst [D.ref E,.ref C]);generalize v++[MO.lst [D.ref E,.ref C]]=v1 at *;let G:((bY ⇑ys λi=>D.bl (H i)).zipWith (λp q=>D.tup [p,q]) (bY ⇑ys λi=>D.bl (b1 i)))=bY ⇑ys λi=>D.tup [.bl (H i),.bl (b1 i)]:=AZ (by rw[kY,on,on];ext) λk g=>by rw[fo,xy g,xy g]
  simp![↓Vj,↓eA o,↓eA L,↓eA J,G,fT,on,c1];rw[Fy (f:=λi=>.bl (H i&&b1 i)) ⟨L,J⟩ (λi d hd=>by let⟨hi,rfl⟩:=zK hd;refine⟨_,_,rfl,λQ=>?_⟩;simp![];cases H i<;>rfl),on]
  simp![];refine hq (λi=>H i&&b1 i) _ _ (λi x I=>?_) i4 (by have:=xe.le;ext) (xe.snoc _);rw[bo,l i x I,h i x I]
end
open PySem (Str)
section
variable{s u:aY}{Q:D->aY->Prop}{V:D->aY->Prop}{h:Hs}{a x y:Sd}{xs ys:List Sd}{v:Nat}{E:Nat->List (Nat×Nat)}{n ns ng i:Nat}{b:Nat->Bool}
theorem Th{g:Nat->Bool}:∀L:List Nat,nu (L.map λi=>D.bl (g i))=ξ (L.map g)
 |[]=>rfl|i::L=>by rw[aX,nu,Th L];rfl
theorem To(g:zN n E ns s)(C:s[ng]?=ξ (.lst (bY n λi=>.bl (b i))))(o:i < n):wp (jl [.ref ns,.ref ng,.int (i:Nat)]) Q s=Q (.bl (b i && !(E i).any λp=>b p.2)) s:=by
 let⟨rs,r,Y,L,O⟩:=g.row0 o;let⟨h,G⟩:=Y (eZ.refl s);let u:=g.few i o;let l:⇑(E i)<=eT:=kr ();let J:∀(Q:D->aY->Prop)s,wp (cu (bY n λi=>D.bl (b i)) ((i:Nat):Int)) Q s=Q (.bl (b i)) s:=λQ s=>xA o
 (simp![jl];simp![jV,↓eA C,↓J])
 cases b i with|false=>rfl|true=>
  simp![vE,DI,↓eA h,↓L,↓eA G,fT,af,l];rw[Fy (f:=λq=>.bl (((E i)[q]?.map λp=>b p.2).getD ω)) G (λq d hd=>by
   rw[ar]at hd;cases ep:(E i)[q]? with|none=>rw[ep]at hd;cases hd|some p=>
    rw[ep]at hd;cases hd;let U:=g.wf i o p (aJ ep);let I:∀(Q:D->aY->Prop)s,wp (cu (bY n λi=>D.bl (b i)) ((p.2:Nat):Int)) Q s=Q (.bl (b p.2)) s:=λQ s=>xA U;refine⟨_,_,rfl,λQ=>?_⟩;simp![↓eA C,↓I];rfl),af]
  let e:((bU ⇑(E i)).map λq=>((E i)[q]?.map λp=>b p.2).getD ω).any id=(E i).any λp=>b p.2:=by
   have:((bU ⇑(E i)).map λq=>((E i)[q]?.map λp=>b p.2).getD ω)=(E i).map λp=>b p.2:=d7 λq=>by
    rw[ar,ar];by_cases z:q < ⇑(E i)
    ·rw[d_ z,ag z,dJ,ag z];rfl
    ·rw[bE (by simp;ext),bE ()];rfl
   rw[this,m8];rfl
  let H:∀Q s,wp (wN (bY ⇑(E i) λq=>.bl (((E i)[q]?.map λp=>b p.2).getD ω))) Q s=Q (.bl ((E i).any λp=>b p.2)) s:=λQ s=>by unfold wN bY;rw[Th];dsimp only;rw[e,b4]
  simp![↓H]
def Op(h:Hs)(x:Sd):Prop:=Rv h x 0/\Rv h x 1
def Cr(h:Hs)(x:Sd):Prop:=Op h x/\∀k∈fr h x,¬ Op h (fQ h x k)
def uc(h:Hs)(ys:List Sd):List Sd:=ys.filter λx=>bP (Cr h x)
theorem Qoz(O:Cl h ys)(Y:ys.Nodup)(J:∀i x,ys[i]?=ξ x->(b i=θ↔Op h x))(I:ys[i]?=ξ x):(b i && !(eF h ys i).any λp=>b p.2)=bP (Cr h x):=by
 let l:b i=bP (Op h x):=JA (J i x I);let L:=aJ I;let U:((eF h ys i).any λp=>b p.2)=θ↔∃k∈fr h x,Op h (fQ h x k):=by
  rw[eQ];unfold eF;rw[I];constructor
  ·rintro ⟨p,hp,hb2⟩
   let⟨k,g,rfl⟩:=bA.mp hp;let G:=O x L k g;let H:=dM.mpr G;exact⟨k,g,(J _ _ (by rw[ag H,gK H])).mp hb2⟩
  ·rintro ⟨k,g,o⟩
   let G:=O x L k g;let H:=dM.mpr G;exact⟨_,bA.mpr ⟨k,g,rfl⟩,(J _ _ (by rw[ag H,gK H])).mpr o⟩
 refine JA ?_;rw[bo,J i x I,qM];unfold Cr;refine and_congr_right λ_=>?_;rw[<- Bool.not_eq_true,U];exact⟨λz k g o=>z ⟨k,g,o⟩,λz C=>by let⟨k,g,o⟩:=C;exact z k g o⟩
theorem U9:((bU ⇑ys).filter λi=>((ys[i]?).map p).getD ω).map (λi=>((ys[i]?).map b8).getD .non)=(ys.filter p).map b8:=by
 let key:∀k,k<=⇑ys->((bU k).filter λi=>((ys[i]?).map p).getD ω).map (λi=>((ys[i]?).map b8).getD .non)=((ys.take k).filter p).map b8:=λk=>by
  induction k with|zero=>exact λ_=>rfl|succ k ih=>
   intro g;let e:=ag (show k < ⇑ys by ext);rw[fH,eR,aV,ih (),gA,eR,aV,e];congr 1;rw[gz,e,Bl,gz]
   show (tL _ (if p ys[k]=θ then _ else _))=_;cases p ys[k] with|true=>rw[aH rfl,aH rfl];show [((ys[k]?).map b8).getD .non]=_;rw[e];rfl|false=>rfl
 have:=key ⇑ys (aA _)
 rwa [cX]at this
theorem QW{most:Nat}(E:uf h)(hq:∀ps m r u,ps=iV h (lF (kL h)) m->⇑ps<=m->⇑ps<=most\/ps=[]->PI h ps->Cl h (pk ps)->u[r]?=ξ (.lst ((uc h (pk ps)).map b8))->⇑s<=r->eZ s u->Q (.ref r) u)(hv:∀m u,most < ⇑(iV h (lF (kL h)) m)->eZ s u->V (pq most) u):lW (jd [gj h,.int most]) Q V s:=by
 let hh:=E.1;let l2:2<=eT:=kr ();unfold jd yu;refine Np (vc (xB (Bw (Q:=λd u=>∃ps m no ns lo O rs,d=.tup [.ref no,.ref ns]/\ps=iV h (lF (kL h)) m/\⇑ps<=m/\(⇑ps<=most\/ps=[])/\PI h ps/\u[no]?=ξ (.lst ((pk ps).map b8))/\u[ns]?=ξ (.lst rs)/\⇑rs=⇑ps/\Gr h lo no O ps rs u/\eZ s u) (PJ ?_) (λd s' q=>?_) λ_ _ q=>q)))
 ·simp![];exact ZX E (λps m no ns lo O rs u e1 e2 e3 I U gs C G ex=>⟨ps,m,no,ns,lo,O,rs,rfl,e1,e2,e3,I,U,gs,C,G,ex⟩) hv
 ·let⟨ps,m,no,ns,lo,O,rs,rfl,e1,e2,e3,I,U,gs,C,G,ex⟩:=q;refine Bp ?_;let cl:Cl h (pk ps):=λx o k hk=>by
   let⟨i,H⟩:=gX.mp o;let Y:=(ac.mp H).1;rw[ub]at Y;let⟨r,p,_,_,_,_,e5,_,e7⟩:=G i _ (ag ());have:p.1=x:=by unfold pk at H;rw[ar,e5]at H;exact aO H
   subst this;exact e7 k hk
  let ok:∀x∈pk ps,fE h x:=λx o=>I.sd o;let ln:⇑(pk ps)<=1300:=by rw[ub];exact I.few E
  let g:=Tk hh gs (by rw[ub];exact C) G;let c1:⇑(pk ps)<=eT:=kr ();simp![];refine vc (zJ ?_);simp![];refine Qow hh U g ok cl I.nd ln λb r u hb gr hr L=>?_;simp![];refine vc (zJ ?_);let J : -(2^62)<=(⇑(pk ps):Int)/\(⇑(pk ps):Int) < 2^62:=by ext
  simp![↓eA gr,on,J,aR,Ef,fT,c1];let wc:∀i x,(pk ps)[i]?=ξ x->∀(Q:D->aY->Prop),wp (jl [.ref ns,.ref r,.int (i:Nat)]) Q u=Q (.bl (bP (Cr h x))) u:=λi x o Q=>by rw[To (g.ext L) gr (ac.mp o).1,Qoz cl I.nd hb o]
  rw[Jd (f:=λi=>(((pk ps)[i]?).map b8).getD .non) (p:=λi=>(((pk ps)[i]?).map λx=>bP (Cr h x)).getD ω) (λl=>∃x0,l=[x0,ξ (.tup [.ref no,.ref ns]),ξ (.ref r)]) yU ⟨_,rfl⟩ (λi d l hd z=>by
   let⟨x0,el⟩:=z;subst el;let⟨H,rfl⟩:=zK hd;let o:=ag H;let w1:=λQ=>wc i _ o Q;let w2:∀(Q:D->aY->Prop)s,wp (cu ((pk ps).map b8) ((i:Nat):Int)) Q s=Q (b8 (pk ps)[i]) s:=λQ s=>oG (by rw[ar,o];rfl);refine⟨_,λG=>by simp![];rfl,⟨_,rfl⟩,λT=>?_,λQ=>?_⟩
   ·simp![↓w1];rw[o];rfl
   ·simp![↓eA (L.at_ U),↓w2];rw[o];rfl),on]
  let el:((bU ⇑(pk ps)).filter λi=>(((pk ps)[i]?).map λx=>bP (Cr h x)).getD ω).map (λi=>(((pk ps)[i]?).map b8).getD .non)=(uc h (pk ps)).map b8:=by exact U9
  rw[el];exact hq ps m _ _ e1 e2 e3 I cl i4 (by have:=(ex.trans L).le;ext) ((ex.trans L).snoc _)
end
open PySem (Str)
def pQ(R:List Sd)(f:Sd->D):List (D×D):=R.map λx=>(b8 x,f x)
noncomputable def BA{α:Type}[DecidableEq α](f:α->D)(x:α)(v:D):α->D:=λy=>if y=x then v else f y
section
variable{α:Type}[DecidableEq α]{kf:α->D}{R:List α}{f:α->D}{x:α}
theorem Me(l:∀a b,mT (kf a) (kf b)=decide (a=b)):kR (R.map λx=>(kf x,f x)) (kf x)=if x∈R then ξ (f x) else none:=by
 unfold kR
 induction R with|nil=>rfl|cons y R ih=>
  rw[aX,b9];dsimp only;rw[l];by_cases e:y=x
  ·subst e;rw[bV rfl,aH bK];rfl
  ·rw[aQ e];dsimp only;rw[ih];by_cases g:x∈R
   ·rw[aH g,aH (bD _ g)]
   ·rw[aB g,aB λh=>g ((a_.mp h).resolve_left (du e))]
theorem Nt(l:∀a b,mT (kf a) (kf b)=decide (a=b)):i6 (R.map λx=>(kf x,f x)) (kf x) v=(if x∈R then R else R++[x]).map λy=>(kf y,BA f x v y):=by
 let o:((R.map λx=>(kf x,f x)).any λp=>mT p.1 (kf x))=decide (x∈R):=by
  rw[m8];apply nI.mpr;rw[eQ,decide_eq_true_iff];constructor
  ·rintro ⟨y,g,e⟩
   let e:decide (y=x)=true:=by rw[<- l];exact e
   rw[<- of_decide_eq_true e];exact g
  ·intro h;exact⟨x,h,by show mT (kf x) (kf x)=θ;rw[l,bV rfl]⟩
 unfold i6;rw[o];by_cases h:x∈R
 ·rw[aH (bV h),aH h,i9];apply d9;intro y g
  show (if mT (kf y) (kf x)=θ then (kf y,v) else (kf y,f y))=_;rw[l];unfold BA;by_cases e:y=x
  ·rw[aH (bV e),aH e]
  ·rw[aB (by rw[aQ e];simp),aB e]
 ·rw[aB (by rw[aQ h];simp),aB h,aV];congr 1
  ·apply d9;intro y g;unfold BA;rw[aB (λe:y=x=>h (by rw[<- e];exact g))]
  ·show [(kf x,v)]=[(kf x,BA f x v x)]
   unfold BA;rw[aH rfl]
end
theorem Oq:kR (pQ R f) (b8 x)=if x∈R then ξ (f x) else none:=Me Ji
theorem Ps:i6 (pQ R f) (b8 x) v=pQ (if x∈R then R else R++[x]) (BA f x v):=Nt Ji
section
variable{s u:aY}{Q:D->aY->Prop}{xs ys zs:List Sd}{v:Nat}{F:Sd->D}{nd no:Nat}
theorem Rh:∀{ws zs:List Sd},(zs++ws).Nodup->uD (pQ zs F) (ws.map λx=>(b8 x,F x))=pQ (zs++ws) F
 |[],zs,_=>by rw[bG];rfl
 |w::ws,zs,hn=>by
  let o:w∉zs:=λz=>by rw[d6]at hn;exact hn.2.2 w z w (by simp) rfl
  let e:i6 (pQ zs F) (b8 w) (F w)=pQ (zs++[w]) F:=by
   rw[Ps,aB o];congr 1;funext y;unfold BA;split
   ·rename_i h;rw[h]
   ·rfl
  let g:(zs++[w]++ws).Nodup:=by rw[bF];exact hn
  have:=Rh (ws:=ws) (zs:=zs++[w]) g;rw[bF]at this
  show uD (i6 (pQ zs F) (b8 w) (F w)) (ws.map λx=>(b8 x,F x))=_;rw[e,this];rfl
theorem Ot:∀ws:List Sd,tN (ws.map λx=>D.tup [b8 x,F x])=ξ (ws.map λx=>(b8 x,F x))
 |[]=>rfl|w::ws=>by rw[aX,tN,Ot ws];unfold Jj;dsimp only;rw[aH (wz w)];rfl
theorem P4(g:ys.Nodup)(o:⇑ys<=1000):wp (mB (ys.map λx=>D.tup [b8 x,F x])) Q s=Q (.dic ⇑s) (s++[.dct θ (pQ ys F)]):=by unfold mB;rw[Ot];dsimp only;let e:uD [] (ys.map λx=>(b8 x,F x))=pQ ys F:=Rh (zs:=[]) g;rw[dE,e,af];have:wp (rH θ (pQ ys F)) Q s=Q (.dic ⇑s) (s++[.dct θ (pQ ys F)]):=eB rfl;rw[this];exact propext ⟨λz=>z.2,λz=>⟨o,z⟩⟩
theorem QoH{vs:List Nat}:(vs.map bz).any (λd=>vI d ↑(v:Nat))=decide (v∈vs):=by
 rw[nI,m8,eQ,decide_eq_true_iff];constructor
 ·rintro ⟨w,hw,e⟩
  have:((w:Int) == (v:Int))=true:=e;rw[beq_iff_eq]at this;have:w=v:=by ext
  rw[<- this];exact hw
 ·intro g;refine⟨v,g,?_⟩
  show ((v:Int) == (v:Int))=θ;simp
theorem VA{vs:List Nat}:(vs.map bz).all lG=true:=by rw[dX];intro d hd;let⟨k,_,e⟩:=bA.mp hd;rw[<- e];rfl
theorem Sx{r:Nat}{vs:List Nat}(g:s[r]?=ξ (.lst (vs.map bz))):wp (nS ↑(v:Nat) (.ref r)) Q s=Q (.bl (!decide (v∈vs))) s:=by unfold nS;dsimp only;rw[dR];unfold uB;dsimp only;rw[eA g,ZR,QoH];exact propext ⟨λz=>z.2,λz=>⟨⟨rfl,VA⟩,z⟩⟩
theorem NJ:∀vs:List Nat,lE (vs.map bz)=ξ (vs.map λv:Nat=>(v:Int))
 |[]=>rfl|v::vs=>by rw[aX];unfold bz lE;rw[show vs.map (λv:Nat=>D.int v)=vs.map bz from rfl,NJ vs];rfl
theorem Q6{vs:List Nat}(nd:vs.Nodup):∃ws:List Nat,(sortI (vs.map λv:Nat=>(v:Int))).map D.int=ws.map bz/\⇑ws=⇑vs/\ws.Nodup/\∀v,v∈ws↔v∈vs:=by
 let p:=IF (vs.map λv:Nat=>(v:Int));refine⟨(sortI (vs.map λv:Nat=>(v:Int))).map Int.toNat,?_,by rw[af,p.length_eq,af],?_,λv=>?_⟩
 ·rw[i9];refine d9 λz hz=>?_;let⟨w,_,e⟩:=bA.mp (p.mem_iff.mp hz);subst e;rfl
 ·refine D3 (p.nodup_iff.mpr (D3 nd λa _ b _ e=>by ext)) λa E b C e=>?_;let⟨w,_,I⟩:=bA.mp (p.mem_iff.mp E);let⟨H,_,G⟩:=bA.mp (p.mem_iff.mp C);ext
 ·rw[bA];constructor
  ·rintro ⟨z,hz,e⟩
   let⟨w,g,G⟩:=bA.mp (p.mem_iff.mp hz);have:w=v:=by ext
   rw[<- this];exact g
  ·intro o;exact⟨v,p.mem_iff.mpr (bA.mpr ⟨v,o,rfl⟩),rfl⟩
theorem U0(hh:ko h)(hs:fE h x)(hq:∀r(ws:List Nat)u,u[r]?=ξ (.lst (ws.map bz))->(∀v,v∈ws↔Bv h x v)->ws.Nodup->⇑s<=r->eZ s u->Q (.ref r) u):wp (jB [gj h,b8 x]) Q s:=by
 let z4:=hh.2.2.2.1;let C:=lO (show (0:Int)<=(⇑h.hands:Int) by ext) ();let ln:⇑h.hands<=eT:=iy ();let J:∀(Q:D->aY->Prop)s,wp (aU (gj h) ↑1) Q s=Q (.tup (h.hands.map qh)) s:=λQ s=>Ls;let ll:∀(Q:D->aY->Prop)s,wp (aU (b8 x) ↑0) Q s=Q (.tup (x.ls.map bz)) s:=λQ s=>by unfold b8;rw[nP,nO]
 (simp![jB];simp![j9,bn,↓J,af,C,aR,Ef])
 refine rJ (λm l u=>∃(vs:List Nat)(G E:Option D),l=[ξ (gj h),ξ (b8 x),ξ (.ref ⇑s),G,E]/\u[⇑s]?=ξ (.lst (vs.map bz))/\⇑vs<=m/\vs.Nodup/\(∀v,v∈vs↔∃k,k < m/\cN h x k=.settle v)/\eZ s u) (λ_ _ _ _=>trivial)
  ⟨[],ψ,ψ,rfl,i4,aA _,by simp,by simp,(eZ.refl _).snoc _⟩ (λR1 k d l u up rt hd I=>?_) (λl u I=>?_)
 ·let⟨vs,G,E,el,g,L,nd,o,ex⟩:=I;subst el;let⟨hk,ed⟩:=zK hd;subst ed;let⟨hd,l,e1,e2,hl2,e3,ok⟩:=BF hh hs hk;let Y:∀Q s,wp (cu (h.hands.map qh) (k:Int)) Q s=Q (.tup [.tup [bz hd.b0,bz hd.b1],.tup (hd.lines.map lJ)]) s:=λQ s=>oG (by rw[ar,e1];rfl);let U:∀Q s,wp (cu (x.ls.map bz) (k:Int)) Q s=Q ↑(l:Nat) s:=λQ s=>Bu e2;let O:∀Q s,wp (cu (hd.lines.map lJ) (l:Int)) Q s=Q (lJ (cN h x k)) s:=λQ s=>oG (by rw[ar,e3];rfl);simp![↓J,↓ll,↓Y,↓U,↓O];cases el:cN h x k with
  |settle v=>
   let q1:∀Q,wp (nS (bz v) (.ref ⇑s)) Q u=Q (.bl (!decide (v∈vs))) u:=λQ=>Sx g;let q2:∀Q,wp (getL ⇑s) Q u=Q (vs.map bz) u:=λQ=>eA g;let H:∀es Q,wp (putL ⇑s es) Q u=Q Unit.unit (u.set ⇑s (.lst es)):=λes Q=>rh g;simp![lJ,OO,↓q1];by_cases z:v∈vs
   ·rw[bV z];simp![bp];refine up ⟨vs,_,_,rfl,g,by ext,nd,λw=>?_,ex⟩;rw[o w];constructor
    ·rintro ⟨k',h1,h2⟩;exact⟨k',by ext,h2⟩
    ·rintro ⟨k',h1,h2⟩
     by_cases e:k'=k
     ·subst e;rw[el]at h2;cases h2;exact (o v).mp z
     ·exact⟨k',by ext,h2⟩
   ·rw[aQ z];simp![↓q2,↓H,af];refine⟨wr (),up ⟨vs++[v],_,_,rfl,by rw[ax (iq g),aV];rfl,by simp;ext,d6.mpr ⟨nd,by simp,λa h b C e=>z (by rw[aD]at C;subst C;exact e ▸ h)⟩,λw=>?_,ex.put (aA _)⟩⟩;rw[aS,o w,aD];constructor
    ·rintro (⟨k',h1,h2⟩|e)
     ·exact⟨k',by ext,h2⟩
     ·subst e;exact⟨k,by ext,el⟩
    ·rintro ⟨k',h1,h2⟩
     by_cases e:k'=k
     ·subst e;rw[el]at h2;cases h2;exact .inr rfl
     ·exact .inl ⟨k',by ext,h2⟩
  |act b d gs=>
   simp![lJ,Ja,Sq,bp,if_false];refine up ⟨vs,_,_,rfl,g,by ext,nd,λw=>?_,ex⟩;rw[o w];constructor
   ·rintro ⟨k',h1,h2⟩;exact⟨k',by ext,h2⟩
   ·rintro ⟨k',h1,h2⟩
    by_cases e:k'=k
    ·subst e;rw[el]at h2;cases h2
    ·exact⟨k',by ext,h2⟩
 ·let⟨vs,G,E,el,g,L,nd,o,ex⟩:=I;subst el;rw[on]at L o;let⟨ws,u,h,H,l⟩:=Q6 nd;simp![];unfold uV;dsimp only;rw[dR,eA g];unfold iO;rw[NJ];dsimp only;rw[dE,eX,u,yM];refine⟨by rw[af];ext,hq _ ws _ i4 (λv=>?_) H ex.le (ex.snoc _)⟩;rw[l,o];rfl
theorem Q4{e:CE}{A:List D->aY->Prop}(P:Sd->List D->Prop)(Y:ys.Nodup)(g:s[no]?=ξ (.lst (ys.map b8)))(h:∀x∈ys,∀(v:aY)(R:D->aY->Prop),eZ s v->(∀r u ds,u[r]?=ξ (.lst ds)->P x ds->eZ v u->R (.tup [b8 x,.ref r]) u)->wp (e (ξ (b8 x)::caps)) R v)(U:∀(F:Sd->Nat)u,eZ s u->(∀x∈ys,∃ds,u[F x]?=ξ (.lst ds)/\P x ds)->A (ys.map λx=>.tup [b8 x,.ref (F x)]) u):wp (collect (aT 0) cB e (ij no (ys.map b8)) (ys.map b8) (ψ::caps)) A s:=by
 refine JE (λi o v=>eZ s v/\∃F:Sd->Nat,o=(ys.take i).map (λx=>.tup [b8 x,.ref (F x)])/\∀x∈ys.take i,∃ds,v[F x]?=ξ (.lst ds)/\P x ds) (λ_ _ _ w=>w.1.at_ g) ⟨eZ.refl _,λ_=>0,rfl,λx G=>by simp at G⟩ (λi d o v hd J=>?_) (λo v J=>?_)
 ·let⟨ex,F,I,H⟩:=J;rw[ar]at hd;cases C:ys[i]? with|none=>rw[C]at hd;cases hd|some x=>
   rw[C]at hd;cases hd;let U:=(ac.mp C).1;let tk:ys.take (i+1)=ys.take i++[x]:=by rw[gA,C];rfl
   let G:x∉ys.take i:=λz=>by have:=Y.sublist (zq (i+1) ys);rw[tk,d6]at this;exact this.2.2 x z x (by simp) rfl
   refine h x (aJ C) v _ ex λr u ds Q l O=>⟨ex.trans O,λy=>if y=x then r else F y,?_,λy E=>?_⟩
   ·rw[tk,aV,I];congr 1
    ·exact d9 λy E=>by dsimp only;rw[aB λe:y=x=>G (e ▸ E)]
    ·show _=[D.tup [b8 x,D.ref (if x=x then r else F x)]]
     rw[aH rfl]
   ·rw[tk]at E;dsimp only;rcases aS.mp E with z|z
    ·rw[aB λe:y=x=>G (e ▸ z)];let⟨L,o,g⟩:=H y z;exact⟨L,O.at_ o,g⟩
    ·rw[aH (aD.mp z),aD.mp z];exact⟨ds,Q,l⟩
 ·let⟨ex,F,I,H⟩:=J;rw[af,cX]at I H;rw[I];exact U F v ex H
end
open PySem (Str)
section
variable{s u v s0:aY}{h:Hs}{x y:Sd}{ys:List Sd}{no nx nf:Nat}{F G:Sd->Nat}{L:Sd->List Nat}
theorem Um{w:Nat}(a:Bv h x w):Rv h x w:=⟨x,.refl x,IH.mpr a⟩
theorem O0{k w:Nat}(o:k∈fr h x):Rv h (fQ h x k) w->Rv h x w:=λg=>by let⟨y,p,b⟩:=g;exact⟨y,.step o p,b⟩
structure Fs(h:Hs)(ys:List Sd)(s0:aY)(nf:Nat)(F:Sd->Nat)(L:Sd->List Nat)(v:aY):Prop where
 d:v[nf]?=ξ (.dct θ (pQ ys λx=>.ref (F x)))
 g:∀x∈ys,v[F x]?=ξ (.lst ((L x).map bz))
 nd:∀x∈ys,(L x).Nodup
 rv:∀x∈ys,∀w∈L x,Rv h x w
 own:∀x∈ys,∀w,Bv h x w->w∈L x
 ex:eZ s0 v
 le:⇑s0<=nf
theorem Fs.ext(f:Fs h ys s0 nf F L v)(x:eZ v u):Fs h ys s0 nf F L u:=⟨x.at_ f.d,λy g=>x.at_ (f.g y g),f.nd,f.rv,f.own,f.ex.trans x,f.le⟩
def Lf(h:Hs)(L:Sd->List Nat)(x:Sd):Prop:=∀k∈fr h x,∀w∈L (fQ h x k),w∈L x
theorem Hw(hh:ko h)(ok:fE h x){w:Nat}(r:Rv h x w):w < 2:=by
 let⟨y,p,b⟩:=r;have:fE h y:=by
  clear b
  induction p with|refl=>exact ok|step g _ ih=>exact ih (DT hh ok (zM g))
 let⟨k,g,e⟩:=IH.mp b;let⟨hd,l,_,_,_,_,z⟩:=BF hh this g;rw[e]at z;exact z
theorem Fz{W:List Nat}(g:W.Nodup)(o:∀w∈W,w < 2):⇑W<=2:=B8 2 W g o
noncomputable def tot(L:Sd->List Nat)(ys:List Sd):Nat:=(ys.map λx=>⇑(L x)).sum
theorem Ug(g:∀x∈ys,⇑(L x)<=2):tot L ys<=2*⇑ys:=by
 unfold tot
 induction ys with|nil=>simp|cons a as ih=>
  let C:=g a (by simp);let z:=ih λx o=>g x (by simp[o]);simp only[aX,mw,cm];ext
theorem P7{W:List Nat}(g:x∈ys)(E:ys.Nodup)(I:⇑(L x) < ⇑W):tot L ys < tot (λy=>if y=x then W else L y) ys:=by
 unfold tot
 induction ys with|nil=>cases g|cons a as ih=>
  let⟨z,H⟩:=iI.mp E;simp only[aX,mw];rcases a_.mp g with e|o
  ·subst e;rw[aH rfl];have:(as.map λy=>⇑(if y=x then W else L y))=as.map λy=>⇑(L y):=d9 λy C=>by rw[aB λe:y=x=>z (e ▸ C)]
   rw[this];ext
  ·rw[aB λe:a=x=>z (e ▸ o)];have:(as.map λy=>⇑(L y)).sum < (as.map λy=>⇑(if y=x then W else L y)).sum:=ih o H
   show ⇑(L a)+_ < ⇑(L a)+_;ext
def uW(nf:Nat)(v:aY):Nat:=match v[nf]? with
 |some (.dct _ cx)=>(cx.map λp=>match p.2 with
  | .ref r=>match v[r]? with|some (.lst ds)=>⇑ds|_=>0
  |_=>0).sum
 |_=>0
theorem Fs.tot(f:Fs h ys s0 nf F L v):uW nf v=tot L ys:=by
 unfold uW My.tot;rw[f.d];dsimp only;unfold pQ;rw[i9];congr 1;exact d9 λy g=>by
  show (match v[F y]? with
   |some (.lst ds)=>⇑ds
   |_=>0)=_
  rw[f.g y g];exact af ..
theorem QoU{R:su->aY->Prop}(hc:uf h)(ok:∀x∈ys,fE h x)(cl:Cl h ys)(hn:ys.Nodup)(hl:⇑ys<=1000)(C:x∈ys)(gn:s0[nx]?=ξ (.dct θ (pQ ys λx=>.ref (G x)))) (gG:∀x∈ys,s0[G x]?=ξ (.lst ((fr h x).map λk=>b8 (fQ h x k)))) (f:Fs h ys s0 nf F L v)(h1:∀u y6 U,Fs h ys s0 nf F L u->Lf h L x->R (.next [ξ (gj h),ξ (.ref no),ξ (.dic nx),ξ (.dic nf),ξ (.bl b),ξ (b8 x),y6,U]) u)(h2:∀F' W u y6 U,Fs h ys s0 nf F' (λy=>if y=x then W else L y) u->⇑(L x) < ⇑W->R (.next [ξ (gj h),ξ (.ref no),ξ (.dic nx),ξ (.dic nf),ξ (.bl θ),ξ (b8 x),y6,U]) u):
  wp (aN (bM (aT 6) (c1 tf (c2 aU (am 3) (am 5)))) (aN (hU (fY (c2 aU (am 2) (am 5))) (aT 7) (aN (bM (aT 6) (c2 dg (am 6) (cD (db 1 [6] (fY (c2 aU (am 3) (am 7))) (aT 0) (cK (c2 nS (am 0) (am 1))) (am 0))))) aZ)) (aN (lY (cK (c2 yV (c1 eN (am 6)) (c1 eN (c2 aU (am 3) (am 5))))) (aN (bM (kN (am 3) (am 5)) (c1 (uV iO) (am 6))) (aN (bM (aT 4) (aL (.bl θ))) aZ)) aZ) aZ)) [ξ (gj h),ξ (.ref no),ξ (.dic nx),ξ (.dic nf),ξ (.bl b),ξ (b8 x),y6,U]) R v:=by
 let hh:=hc.1;let lk:∀{F:Sd->Nat}{y:Sd},y∈ys->kR (pQ ys λx=>.ref (F x)) (b8 y)=ξ (.ref (F y)):=λg=>by rw[Oq,aH g]
 let q1:∀{u y},Fs h ys s0 nf F L u->y∈ys->∀Q,wp (itemK nf (b8 y)) Q u=Q (.ref (F y)) u:=λf g Q=>A1 f.d (wz _) (lk g);let q2:∀{u},Fs h ys s0 nf F L u->∀Q,wp (itemK nx (b8 x)) Q u=Q (.ref (G x)) u:=λf Q=>A1 (f.ex.at_ gn) (wz _) (lk C);let lt2:∀{y},y∈ys->⇑(L y)<=2:=λg=>Fz (f.nd _ g) λw o=>Hw hh (ok _ g) (f.rv _ g w o);simp![↓q1 f C,↓eA (f.g x C)];let f1:=f.ext ((eZ.refl v).snoc (.lst ((L x).map bz)));let g6:(v++[MO.lst ((L x).map bz)])[⇑v]?=ξ (.lst ((L x).map bz)):=i4;generalize v++[MO.lst ((L x).map bz)]=v1 at *;simp![↓q2 f1,↓eA (f1.ex.at_ (gG x C))];refine rJ (λq l u=>∃(Y:Nat)(t:List Nat)(U:Option D),l=[ξ (gj h),ξ (.ref no),ξ (.dic nx),ξ (.dic nf),ξ (.bl b),ξ (b8 x),ξ (.ref Y),U]/\u[Y]?=ξ (.lst ((L x++t).map bz))/\(L x++t).Nodup/\(∀w∈L x++t,Rv h x w)/\(∀k∈(fr h x).take q,∀w∈L (fQ h x k),w∈L x++t)/\Fs h ys s0 nf F L u) (λ_ _ _ w=>by let⟨_,_,_,_,_,_,_,_,f⟩:=w;exact f.ex.at_ (gG x C))
  ⟨⇑v,[],_,rfl,by rw[bG];exact g6,by rw[bG];exact f.nd x C,by rw[bG];exact f.rv x C,λk hk=>by simp at hk,f1⟩ (λRw q d l u up rt hd hW=>?_) (λl u hW=>?_)
 ·let⟨Y,t,U,el,gr,J,I,O,H⟩:=hW;subst el;rw[ar]at hd;cases ek:(fr h x)[q]? with|none=>rw[ek]at hd;cases hd|some k=>
   rw[ek]at hd;cases hd;let hk:=aJ ek;let E:=cl x C k hk;let tk:(fr h x).take (q+1)=(fr h x).take q++[k]:=by rw[gA,ek];rfl
   let hw2:=Fz J λw o=>Hw hh (ok x C) (I w o);let ll:⇑((L (fQ h x k)).map bz)<=eT:=kr (by rw[af];have:=lt2 E;ext);let cf:∀A,wp (collect (aT 0) (cK (c2 nS (am 0) (am 1))) (am 0) (ij (F (fQ h x k)) ((L (fQ h x k)).map bz)) ((L (fQ h x k)).map bz) [ψ,ξ (.ref Y)]) A u=A (((L (fQ h x k)).filter λw => !decide (w∈L x++t)).map bz) u:=λA=>by
    rw[Jd (f:=λi=>(((L (fQ h x k))[i]?).map bz).getD .non) (p:=λi=>(((L (fQ h x k))[i]?).map λw => !decide (w∈L x++t)).getD ω) (λl=>∃x0,l=[x0,ξ (.ref Y)]) (H.g _ E) ⟨_,rfl⟩ (λi d l hd g=>by
     let⟨x0,el⟩:=g;subst el;rw[ar]at hd;cases ew:(L (fQ h x k))[i]? with|none=>rw[ew]at hd;cases hd|some w=>
      rw[ew]at hd;cases hd;let wn:∀(Q:D->aY->Prop),wp (nS (bz w) (.ref Y)) Q u=Q (.bl (!decide (w∈L x++t))) u:=λQ=>Sx gr;refine⟨_,λG=>by simp![];rfl,⟨_,rfl⟩,λT=>?_,λQ=>?_⟩
      ·simp![↓wn];rfl
      ·simp![];rfl),af]
    congr 1;generalize (λw => !decide (w∈L x++t))=p;generalize L (fQ h x k)=A;let key:∀j,j<=⇑A->((bU j).filter λi=>((A[i]?).map p).getD ω).map (λi=>((A[i]?).map bz).getD .non)=((A.take j).filter p).map bz:=λj=>by
     induction j with|zero=>exact λ_=>rfl|succ j ih=>
      intro hj;let e:=ag (show j < ⇑A by ext);rw[fH,eR,aV,ih (),gA,eR,aV,e];congr 1;rw[gz,e,Bl,gz]
      show (tL _ (if p A[j]=θ then _ else _))=_;cases p A[j] with|true=>rw[aH rfl,aH rfl];show [((A[j]?).map bz).getD .non]=_;rw[e];rfl|false=>rfl
    have:=key ⇑A (aA _)
    rwa [cX]at this
   simp![↓q1 H E,↓eA (H.g _ E),fT,ll,↓cf];let xa:eZ u (u++[MO.lst (((L (fQ h x k)).filter λw => !decide (w∈L x++t)).map bz)]):=(eZ.refl _).snoc _;rw[Hj (xa.at_ gr) i4];let fl:⇑(((L (fQ h x k)).filter λw => !decide (w∈L x++t)).map bz)<=2:=by rw[af];exact bH (gW _ _) (lt2 E)
   refine⟨kr (by rw[af];ext),?_⟩;simp![];refine up ⟨_,t++(L (fQ h x k)).filter (λw => !decide (w∈L x++t)),_,rfl,by rw[<- bF,aV (l₁:=L x++t),aV];exact i4,?_,λw o=>?_,λj hj w o=>?_,H.ext (xa.snoc _)⟩
   ·rw[<- bF,d6];refine⟨J,(H.nd _ E).sublist List.filter_sublist,λa g c hc e=>?_⟩;subst e;have:=(dO.mp hc).2;simp[g]at this
   ·rw[<- bF]at o;rcases aS.mp o with z|z
    ·exact I w z
    ·exact O0 hk (f.rv _ E w (dO.mp z).1)
   ·rw[<- bF];rw[tk]at hj;rcases aS.mp hj with z|z
    ·exact bI _ (O j z w o)
    ·rw[aD.mp z]at o;by_cases g:w∈L x++t
     ·exact bI _ g
     ·exact bu _ (dO.mpr ⟨o,by rw[aQ g];rfl⟩)
 ·let⟨Y,t,U,el,gr,J,I,O,H⟩:=hW;subst el;rw[af,cX]at O;simp![↓eA gr,↓q1 H C,↓eA (H.g x C),af];by_cases hgt:⇑(L x) < ⇑(L x++t)
  ·rw[aH ()];let⟨ws,ew,hwl,G,o⟩:=Q6 J;let h:∀(Q:D->aY->Prop),wp (uV iO (.ref Y)) Q u=Q (.ref ⇑u) (u++[.lst (ws.map bz)]):=λQ=>by have l2:=Fz J λw o=>Hw hh (ok x C) (I w o);unfold uV;dsimp only;rw[dR,eA gr];unfold iO;rw[NJ];dsimp only;rw[dE,eX,ew];exact propext ⟨λz=>z.2,λz=>⟨by rw[af];ext,z⟩⟩
   let E:=H.ext ((eZ.refl u).snoc (.lst (ws.map bz)));let gw:(u++[MO.lst (ws.map bz)])[⇑u]?=ξ (.lst (ws.map bz)):=i4;simp![↓h];generalize u++[MO.lst (ws.map bz)]=L at *;let U:=iq H.d;let O:∀Q,wp (storeK nf (b8 x) (.ref ⇑u)) Q L=Q Unit.unit (L.set nf (.dct θ (i6 (pQ ys λx=>.ref (F x)) (b8 x) (.ref ⇑u)))):=λQ=>D8 E.d (wz _) (qY (by unfold pQ;rw[af];ext));simp![↓O];let e5:i6 (pQ ys λx=>.ref (F x)) (b8 x) (.ref ⇑u)=pQ ys λy=>.ref (if y=x then ⇑u else F y):=by rw[Ps,aH C];congr 1;funext y;unfold BA;split<;>rfl
   rw[e5];let l:∀y∈ys,F y≠nf:=λy g e=>by have:=E.g y g;rw[e,E.d]at this;cases this
   refine h2 (λy=>if y=x then ⇑u else F y) ws _ _ _ ⟨ax (iq E.d),λy g=>?_,λy g=>?_,λy g=>?_,λy g=>?_,E.ex.put H.le,H.le⟩ ()
   ·by_cases e:y=x
    ·rw[aH e,aH e,aw ()];exact gw
    ·rw[aB e,aB e,aw (λz=>l y g z.symm)];exact E.g y g
   ·by_cases e:y=x
    ·rw[aH e];exact G
    ·rw[aB e];exact f.nd y g
   ·by_cases e:y=x
    ·subst e;rw[aH rfl];exact λw z=>I w ((o w).mp z)
    ·rw[aB e];exact f.rv y g
   ·by_cases e:y=x
    ·subst e;rw[aH rfl];exact λw z=>(o w).mpr (bI _ (f.own y g w z))
    ·rw[aB e];exact f.own y g
  ·rw[aB ()];let g:t=[]:=sj (by rw[aK]at hgt;ext);subst g;rw[bG]at O;exact h1 u _ _ H O
end
open PySem (Str)
section
variable{s u v s0:aY}{Q:D->aY->Prop}{ys:List Sd}{no nx nf:Nat}
theorem QoV(hh:ko h)(o:fE h x)(I:∀r u,u[r]?=ξ (.lst ((fr h x).map λk=>b8 (fQ h x k)))->eZ v u->Q (.tup [b8 x,.ref r]) u):wp (dD (au (am 0) (au (cD (db 1 [0,1] (fY (bj jc (au (am 1) (au (am 0) bb)))) (aT 0) cB (bj jb (au (am 2) (au (am 1) (au (am 0) bb)))))) bb)) (ξ (b8 x)::[ξ (gj h)])) Q v:=by
 let H:2<=eT:=kr ();let C:∀(Q:D->aY->Prop)s,wp (jc [gj h,b8 x]) Q s=Q (.ref ⇑s) (s++[.lst ((fr h x).map bz)]):=λQ s=>Kr hh o;let z:(v++[MO.lst ((fr h x).map bz)])[⇑v]?=ξ (.lst ((fr h x).map bz)):=i4;let O:=ID hh (x:=x);let c1:⇑(fr h x)<=eT:=kr ();simp![↓C,↓eA z,fT,af,c1];rw[A0 (f:=λi=>(((fr h x)[i]?).map λk=>b8 (fQ h x k)).getD .non) z (λi d hd Q=>by
  rw[ar]at hd;cases g:(fr h x)[i]? with|none=>rw[g]at hd;cases hd|some k=>
   rw[g]at hd;cases hd;let E:∀(Q:D->aY->Prop)s,wp (jb [gj h,b8 x,bz k]) Q s=Q (b8 (fQ h x k)) s:=λQ s=>NW hh o (zM (aJ g));simp![↓E];rfl),af]
 let e:(bY ⇑(fr h x) λi=>(((fr h x)[i]?).map λk=>b8 (fQ h x k)).getD .non)=(fr h x).map λk=>b8 (fQ h x k):=by symm;exact AZ (by simp) λi J=>by rw[ar,ag J];rfl
 rw[e];simp![H];exact I _ _ i4 (((eZ.refl v).snoc _).snoc _)
theorem YQ(hc:uf h)(gy:s[no]?=ξ (.lst (ys.map b8)))(ok:∀x∈ys,fE h x)(hn:ys.Nodup)(cl:Cl h ys)(hl:⇑ys<=1000)(hq:∀(nf:Nat)(F:Sd->Nat)(L:Sd->List Nat)(v:aY),v[nf]?=ξ (.dct θ (pQ ys λx=>.ref (F x)))->(∀x∈ys,v[F x]?=ξ (.lst ((L x).map bz))/\(L x).Nodup/\∀w,w∈L x↔Rv h x w)->eZ s v->Q (.dic nf) v):wp (jz [gj h,.ref no]) Q s:=by
 let hh:=hc.1;let l2:2<=eT:=kr ();let c1:⇑ys<=eT:=kr ()
 (simp![jz];simp![yx,↓eA gy,fT,af,c1])
 refine Q4 (λx ds=>ds=(fr h x).map λk=>b8 (fQ h x k)) hn gy (λx o v R xv hr=>QoV hh (ok x o) λr u g ex=>hr r u _ g rfl ex) (λG u xu hG=>?_);rw[P4 hn hl];let gn:(u++[MO.dct θ (pQ ys λx=>.ref (G x))])[⇑u]?=ξ (.dct θ (pQ ys λx=>.ref (G x))):=i4;let xn:eZ u (u++[MO.dct θ (pQ ys λx=>.ref (G x))]):=(eZ.refl _).snoc _;generalize u++[MO.dct θ (pQ ys λx=>.ref (G x))]=u1 at *;let g1:=xn.at_ (xu.at_ gy);simp![↓eA g1,fT,af,c1];refine Q4 (λx ds=>∃ws:List Nat,ds=ws.map bz/\ws.Nodup/\∀w,w∈ws↔Bv h x w) hn g1 (λx o v R xv hr=>?_) (λF0 C xu2 hF=>?_)
 ·simp![l2];refine U0 hh (ok x o) λr ws u g hw h l ex=>?_;simp![l2];exact hr r u _ g ⟨ws,rfl,h,hw⟩ ex
 rw[P4 hn hl];let hF':∀x,∃ws:List Nat,x∈ys->C[F0 x]?=ξ (.lst (ws.map bz))/\ws.Nodup/\∀w,w∈ws↔Bv h x w:=λx=>by
  by_cases o:x∈ys
  ·let⟨ds,e1,ws,e2,h,g⟩:=hF x o;subst e2;exact⟨ws,λ_=>⟨e1,h,g⟩⟩
  ·exact⟨[],λz=>bw z o⟩
 obtain⟨L0,E⟩:∃L0:Sd->List Nat,∀x∈ys,C[F0 x]?=ξ (.lst ((L0 x).map bz))/\(L0 x).Nodup/\∀w,w∈L0 x↔Bv h x w:=⟨λx=>dm (hF' x),λx o=>eh (hF' x) o⟩
 let gn2:C[⇑u]?=ξ (.dct θ (pQ ys λx=>.ref (G x))):=xu2.at_ gn;let gG2:∀x∈ys,C[G x]?=ξ (.lst ((fr h x).map λk=>b8 (fQ h x k))):=λx o=>by let⟨ds,e1,e2⟩:=hG x o;subst e2;exact xu2.at_ (xn.at_ e1)
 let f0:Fs h ys C ⇑C F0 L0 (C++[MO.dct θ (pQ ys λx=>.ref (F0 x))]):=⟨i4,λx o=>k_ (E x o).1,λx o=>(E x o).2.1,λx o w hw=>Um (((E x o).2.2 w).mp hw),λx o w hw=>((E x o).2.2 w).mpr hw,(eZ.refl _).snoc _,aA _⟩
 let xs2:eZ s C:=(xu.trans xn).trans xu2;generalize C++[MO.dct θ (pQ ys λx=>.ref (F0 x))]=u3 at f0;generalize ⇑C=nf at *;simp![];clear hF hF' E;refine Ni (λl v=>∃(b:Bool)(F:Sd->Nat)(L:Sd->List Nat)(y5 U O:Option D),l=[ξ (gj h),ξ (.ref no),ξ (.dic ⇑u),ξ (.dic nf),ξ (.bl b),y5,U,O]/\Fs h ys C nf F L v/\(b=ω->∀x∈ys,Lf h L x))
  (λ(l:Loc)(v:aY)=>2*(5000-uW nf v)+(match (l[4]?:Option (Option D)) with
   |some (ξ (.bl θ))=>1
   |_=>0)) ⟨θ,F0,L0,_,_,_,rfl,f0,λz=>(by cases z)⟩ (λRw l v up rt hW=>?_)
 let⟨b,F,L,y5,U,O,el,f,hcl⟩:=hW;subst el;simp![];cases b with
 |false=>
  simp![bp,if_false];let hcl:=hcl rfl;let key:∀{x y:Sd}{w:Nat},Pt h x y->x∈ys->rN h y w=θ->w∈L x:=λp=>by
   induction p with|refl=>exact λo hb=>f.own _ o _ (IH.mp hb)|step hk _ ih=>exact λo hb=>hcl _ o _ hk _ (ih (cl _ o _ hk) hb)
  exact hq nf F L v f.d (λx o=>⟨f.g x o,f.nd x o,λw=>⟨f.rv x o w,λpq180=>by let⟨y,p,hb⟩:=pq180;exact key p o hb⟩⟩) (xs2.trans f.ex)
 |true=>
  simp![if_true,↓eA (f.ex.at_ (xs2.at_ gy))];let tl:∀{F' H Y},Fs h ys C nf F' H Y->uW nf Y<=2*⇑ys:=λJ=>by rw[J.tot];exact Ug λx o=>Fz (J.nd x o) λw hw=>Hw hh (ok x o) (J.rv x o w hw)
  let t0:=f.tot;let tl0:=tl f;refine rJ (λq l Y=>∃(b:Bool)(F':Sd->Nat)(H:Sd->List Nat)(y5 U O:Option D),l=[ξ (gj h),ξ (.ref no),ξ (.dic ⇑u),ξ (.dic nf),ξ (.bl b),y5,U,O]/\Fs h ys C nf F' H Y/\(b=ω->H=L/\∀x∈ys.reverse.take q,Lf h L x)/\(b=θ->tot L ys < tot H ys)/\tot L ys<=tot H ys) (λ_ _ _ _=>trivial)
   ⟨ω,F,L,_,_,_,rfl,f,λ_=>⟨rfl,λx o=>by simp at o⟩,(λz=>(by cases z)),aA _⟩ (λRw2 q d l Y up2 rt2 hd hW=>?_) (λl Y hW=>?_)
  ·let⟨b,F',H,y5,U,O,el,J,I,hb1,htot⟩:=hW;subst el;rw[<- List.map_reverse,ar]at hd;cases ex:ys.reverse[q]? with|none=>rw[ex]at hd;cases hd|some x=>
    rw[ex]at hd;cases hd;let o:x∈ys:=Aa.mp (aJ ex);let tk:ys.reverse.take (q+1)=ys.reverse.take q++[x]:=by rw[gA,ex];rfl
    simp only[↓B3];refine QoU hc ok cl hn hl o gn2 gG2 J (λu' U O l h=>up2 ⟨b,F',H,_,_,_,rfl,l,λe=>?_,hb1,htot⟩) (λu W u' U O l g=>up2 ⟨θ,u,_,_,_,_,rfl,l,(λz=>(by cases z)),λ_=>?_,?_⟩)
    ·let⟨e1,e2⟩:=I e;subst e1;refine⟨rfl,λz hz=>?_⟩;rw[tk]at hz;rcases aS.mp hz with y|y
     ·exact e2 z y
     ·rw[aD.mp y];exact h
    ·have:=P7 (ys:=ys) o hn g;ext
    ·have:=P7 (ys:=ys) o hn g;ext
  ·let⟨b,F',H,y5,U,O,el,J,I,hb1,htot⟩:=hW;subst el;rw[kX,af,m9 (by rw[kX];ext)]at I;simp![];let h:=J.tot;let g:=tl J;refine up ⟨b,F',H,_,_,_,rfl,J,λe x o=>?_⟩ ?_
   ·let⟨e1,e2⟩:=I e;rw[e1];exact e2 x (Aa.mpr o)
   ·cases b with
    |false=>
     show 2*(5000-uW nf Y)+0 < 2*(5000-uW nf v)+1;ext
    |true=>
     have:=hb1 rfl
     show 2*(5000-uW nf Y)+1 < 2*(5000-uW nf v)+1;ext
end
open PySem (Str)
section
variable{s u v s0:aY}{Q:D->aY->Prop}{ys:List Sd}{no nx nf:Nat}
theorem Wa{W:List Nat}{P:Nat->Prop}(o:W.Nodup)(g:∀w,w∈W↔P w)(z:∀w,P w->w < 2):⇑W=2↔P 0/\P 1:=by
 let le:=Fz o λw E=>z w ((g w).mp E);constructor
 ·intro e;rw[<- g,<- g];let⟨a,b,rfl⟩:=GR e;let O:=z a ((g a).mp (by simp));let J:=z b ((g b).mp (by simp));let H:a≠b:=by simp at o;exact o
  simp only[a_,cW,or_false];ext
 ·rintro ⟨a,b⟩
  let C:=(g 0).mpr a;let I:=(g 1).mpr b;cases W with|nil=>cases C|cons c t=>
   cases t with
   |nil=>
    let Y:=aD.mp C;let U:=aD.mp I;ext
   |cons d t=>simp only[cm]at le ⊢;ext
theorem QoY{a b:Nat}(o:s[a]?=ξ (.lst rs))(g:s[b]?=ξ (.lst [])):wp (oF (.ref a) (.ref b)) Q s=Q (.bl (rs.isEmpty)) s:=by
 have:oF (.ref a) (.ref b)=bnd (bnd (getL a) λx=>bnd (getL b) λy=>match (if ⇑x=⇑y then mR (sJ 50) x y else ξ ω) with
  |some r=>ret r
  |none=>bad) λb=>ret (.bl b):=rfl
 rw[this,dR,dR,eA o,dR,eA g];cases rs with
 |nil=>
  rw[aH rfl]
  show wp (ret θ) _ s=_;rw[b4,b4];rfl
 |cons r rs=>
  rw[aB (by simp)];dsimp only;rw[b4,b4];rfl
theorem Vb(hc:uf h)(gy:s[no]?=ξ (.lst (ys.map b8)))(ok:∀x∈ys,fE h x)(hn:ys.Nodup)(cl:Cl h ys)(hl:⇑ys<=1000)(hq:∀r v,v[r]?=ξ (.lst ((uc h ys).map b8))->⇑s<=r->eZ s v->Q (.ref r) v):wp (jJ [gj h,.ref no]) Q s:=by
 let hh:=hc.1
 (simp![jJ];simp![yC])
 refine YQ hc gy ok hn cl hl λnf F L v gd hL ex=>?_;let lk:∀{y:Sd},y∈ys->∀{u},eZ v u->∀Q,wp (itemK nf (b8 y)) Q u=Q (.ref (F y)) u:=λ{y}hy{u}x Q=>A1 (x.at_ gd) (wz _) (by rw[Oq,aH hy]);let op:∀y∈ys,⇑(L y)=2↔Op h y:=λy hy=>Wa (hL y hy).2.1 (hL y hy).2.2 λw r=>Hw hh (ok y hy) r;simp![bn];let g0:(v++[MO.lst []])[⇑v]?=ξ (.lst []):=i4;let Y:eZ v (v++[MO.lst []]):=(eZ.refl v).snoc _;generalize v++[MO.lst []]=v0 at *;simp![↓eA (Y.at_ (ex.at_ gy))];refine rJ (λq l u=>∃(y4 y5:Option D),l=[ξ (gj h),ξ (.ref no),ξ (.dic nf),ξ (.ref ⇑v),y4,y5]/\u[⇑v]?=ξ (.lst ((uc h (ys.take q)).map b8))/\eZ v u) (λ_ _ _ w=>by let⟨_,_,_,_,e⟩:=w;exact e.at_ (ex.at_ gy))
  ⟨_,_,rfl,g0,Y⟩ (λRw q d l u up rt hd hW=>?_) (λl u hW=>?_)
 ·let⟨y4,y5,el,gr,xu⟩:=hW;subst el;rw[ar]at hd;cases ey:ys[q]? with|none=>rw[ey]at hd;cases hd|some x=>
   rw[ey]at hd;cases hd;let H:=aJ ey;let hs:=ok x H;let tk:ys.take (q+1)=ys.take q++[x]:=by rw[gA,ey];rfl
   let wf:∀(Q:D->aY->Prop)s,wp (jc [gj h,b8 x]) Q s=Q (.ref ⇑s) (s++[.lst ((fr h x).map bz)]):=λQ s=>Kr hh hs;let f3:=ID hh (x:=x);let c1:⇑(fr h x)<=eT:=kr ();let g1:(u++[MO.lst ((fr h x).map bz)])[⇑u]?=ξ (.lst ((fr h x).map bz)):=i4;let x1:eZ v (u++[MO.lst ((fr h x).map bz)]):=xu.snoc _;let gr1:(u++[MO.lst ((fr h x).map bz)])[⇑v]?=ξ (.lst ((uc h (ys.take q)).map b8)):=k_ gr;simp![↓wf,↓eA g1];generalize u++[MO.lst ((fr h x).map bz)]=u1 at *;simp![fT,af,c1];rw[A0 (f:=λi=>(((fr h x)[i]?).map λk=>D.ref (F (fQ h x k))).getD .non) g1 (λi d hd Q=>by
    rw[ar]at hd;cases O:(fr h x)[i]? with|none=>rw[O]at hd;cases hd|some k=>
     rw[O]at hd;cases hd;let hk:=aJ O;let wb:∀(Q:D->aY->Prop)s,wp (jb [gj h,b8 x,bz k]) Q s=Q (b8 (fQ h x k)) s:=λQ s=>NW hh hs (zM hk);simp![↓wb,↓lk (cl x H k hk) x1];rfl),af]
   let e:(bY ⇑(fr h x) λi=>(((fr h x)[i]?).map λk=>D.ref (F (fQ h x k))).getD .non)=(fr h x).map λk=>.ref (F (fQ h x k)):=by symm;exact AZ (by simp) λi I=>by rw[ar,ag I];rfl
   rw[e];let g2:(u1++[MO.lst ((fr h x).map λk=>.ref (F (fQ h x k)))])[⇑u1]?=ξ (.lst ((fr h x).map λk=>.ref (F (fQ h x k)))):=i4;let U:eZ v (u1++[MO.lst ((fr h x).map λk=>.ref (F (fQ h x k)))]):=x1.snoc _;let gr2:(u1++[MO.lst ((fr h x).map λk=>.ref (F (fQ h x k)))])[⇑v]?=ξ (.lst ((uc h (ys.take q)).map b8)):=k_ gr1;generalize u1++[MO.lst ((fr h x).map λk=>.ref (F (fQ h x k)))]=C at *;simp![↓lk H U,↓eA (U.at_ (hL x H).1),af];let ce:uc h (ys.take (q+1))=uc h (ys.take q)++if bP (Cr h x)=θ then [x] else []:=by unfold uc;rw[tk,eR,gz];split<;>rfl
   by_cases ho:Op h x
   ·rw[aH (by have:=(op x H).mpr ho;ext)];simp![↓eA g2,fT,af,c1];rw[Jd (f:=λi=>(((fr h x)[i]?).map λk=>D.ref (F (fQ h x k))).getD .non) (p:=λi=>(((fr h x)[i]?).map λk=>bP (Op h (fQ h x k))).getD ω) (λl=>∃Y,l=[Y]) g2 ⟨_,rfl⟩ (λi d l hd E=>by
     let⟨Y,el⟩:=E;subst el;rw[ar]at hd;cases O:(fr h x)[i]? with|none=>rw[O]at hd;cases hd|some k=>
      rw[O]at hd;cases hd;let J:=cl x H k (aJ O);let e2:((⇑(L (fQ h x k)):Int) == 2)=bP (Op h (fQ h x k)):=JA (by rw[beq_iff_eq,<- op _ J];ext);refine⟨_,λG=>by simp![];rfl,⟨_,rfl⟩,λT=>?_,λQ=>?_⟩
      ·simp![↓eA (U.at_ (hL _ J).1),af,e2];rfl
      ·simp![];rfl),af]
    generalize u:((bU ⇑(fr h x)).filter λi=>(((fr h x)[i]?).map λk=>bP (Op h (fQ h x k))).getD ω).map (λi=>(((fr h x)[i]?).map λk=>D.ref (F (fQ h x k))).getD .non)=rs;let he:rs.isEmpty=bP (Cr h x):=JA (by
     rw[List.isEmpty_iff,<- u,List.map_eq_nil_iff,List.filter_eq_nil_iff];constructor
     ·intro z;refine⟨ho,λk hk o=>?_⟩;let⟨i,I⟩:=gX.mp hk;have:=z i (cC.mpr (ac.mp I).1);rw[I]at this;exact this (Fh.mpr o)
     ·intro z i I t;let e:=ag (cC.mp I);rw[e]at t;exact z.2 _ (cM (cC.mp I)) (Fh.mp t))
    simp![bn];let g3:(C++[MO.lst rs]++[MO.lst []])[⇑C]?=ξ (.lst rs):=k_ i4;let g4:(C++[MO.lst rs]++[MO.lst []])[⇑(C++[MO.lst rs])]?=ξ (.lst []):=i4;let x4:eZ v (C++[MO.lst rs]++[MO.lst []]):=(U.snoc _).snoc _;let g:(C++[MO.lst rs]++[MO.lst []])[⇑v]?=ξ (.lst ((uc h (ys.take q)).map b8)):=k_ (k_ gr2);rw[QoY g3 g4,he];generalize C++[MO.lst rs]++[MO.lst []]=u4 at *;rw[ce]at up;cases J:bP (Cr h x) with
    |false=>
     simp![bp,if_false];rw[J]at up;exact up ⟨_,_,rfl,by rw[aB (by simp),bG];exact g,x4⟩
    |true=>
     let cll:⇑(uc h (ys.take q))<=1000:=bH (gW _ _) (by rw[cL];ext);simp![if_true,↓eA g,↓rh g,af];rw[J]at up;refine⟨qY (),up ⟨_,_,rfl,?_,x4.put (aA _)⟩⟩;rw[aH rfl,ax (iq g),aV];rfl
   ·rw[aB (λe=>ho ((op x H).mp ()))];let J:bP (Cr h x)=false:=Tb λc=>ho c.1;rw[ce,J]at up;exact up ⟨_,_,rfl,by rw[aB (by simp),bG];exact gr2,U⟩
 ·let⟨y4,y5,el,gr,xu⟩:=hW;subst el;rw[af,cX]at gr;simp![];exact hq _ u gr ex.le (ex.trans xu)
end
open PySem (Str)
section
variable{s u v:aY}{Q:D->aY->Prop}{x y:Sd}{ps p0:PL}{J:Sd->Prop}
theorem Ej{m:Nat}(e:⇑(iV h p0 m)<=m):∀k,iV h p0 (m+k)=iV h p0 m
 |0=>rfl
 |k+1=>by
  let g:=Ej e k
  show (match (iV h p0 (m+k))[m+k]? with
   |some p=>nU h p.1 p.2 (fr h p.1) (iV h p0 (m+k))
   |none=>iV h p0 (m+k))=_
  rw[g,bE ()]
theorem S_{m m':Nat}(e:⇑(iV h p0 m)<=m)(g:⇑(iV h p0 m')<=m'):iV h p0 m=iV h p0 m':=by
 rcases rf m m' with z|z
 ·have:=Ej e (m'-m);rw[show m+(m'-m)=m' by ext]at this;exact this.symm
 ·have:=Ej g (m-m');rw[show m'+(m-m')=m by ext]at this;exact this
theorem OY(m:Nat):∃t,iV h p0 (m+1)=iV h p0 m++t:=by
 show ∃t,(match (iV h p0 m)[m]? with
  |some p=>nU h p.1 p.2 (fr h p.1) (iV h p0 m)
  |none=>iV h p0 m)=_
 cases (iV h p0 m)[m]? with|none=>exact⟨[],by simp⟩|some p=>exact Eb _ _
theorem Qo3{m m':Nat}(e:⇑(iV h p0 m)<=m):⇑(iV h p0 m')<=⇑(iV h p0 m):=by
 let up:∀k i,⇑(iV h p0 i)<=⇑(iV h p0 (i+k)):=λk i=>by
  induction k with|zero=>exact aA _|succ k ih=>
   let⟨t,g⟩:=OY (h:=h) (p0:=p0) (i+k);rw[show i+(k+1)=i+k+1 from rfl,g,aK];ext
 rcases rf m m' with z|z
 ·have:=Ej e (m'-m);rw[show m+(m'-m)=m' by ext]at this;rw[this];exact aA _
 ·have:=up (m-m') m';rw[show m'+(m-m')=m by ext]at this;exact this
theorem RD:∀(m i:Nat)(p:Sd×List Nat),i < m->(iV h p0 m)[i]?=ξ p->∀k∈fr h p.1,fQ h p.1 k∈pk (iV h p0 m)
 |0,i,p,hi,_=>by ext
 |m+1,i,p,hi,hp=>by
  let⟨t,o⟩:=OY (h:=h) (p0:=p0) m;intro k C;by_cases e:i < m
  ·by_cases z:i < ⇑(iV h p0 m)
   ·rw[o,aI z]at hp;rw[o,IR];exact bI _ (RD m i p e hp k C)
   ·have:iV h p0 (m+1)=iV h p0 m:=Ej () 1;rw[this,bE ()]at hp;cases hp
  ·let e:i=m:=by ext
   subst e;by_cases z:i < ⇑(iV h p0 i)
   ·let g:=hp;rw[o,aI z]at g;have:iV h p0 (i+1)=nU h p.1 p.2 (fr h p.1) (iV h p0 i):=by
     show (match (iV h p0 i)[i]? with
      |some p=>nU h p.1 p.2 (fr h p.1) (iV h p0 i)
      |none=>iV h p0 i)=_
     rw[g]
    rw[this];exact E8 C
   ·have:iV h p0 (i+1)=iV h p0 i:=Ej () 1;rw[this,bE ()]at hp;cases hp
theorem Xj{m:Nat}(e:ps=iV h p0 m)(E:⇑ps<=m):Cl h (pk ps):=λx z k C=>by let⟨i,o⟩:=gX.mp z;have g:=(ac.mp o).1;rw[ub]at g;unfold pk at o;rw[ar,ag g]at o;cases o;have:=RD (h:=h) (p0:=p0) m i ps[i] () (by rw[<- e];exact ag g) k C;rw[<- e]at this;exact this
theorem PR(o:∀x∈pk ps,J x)(C:J y):∀x∈pk (ug ps y w),J x:=λx g=>by
 unfold ug at g;split at g
 ·exact o x g
 ·rw[FA]at g;rcases aS.mp g with z|z
  ·exact o x z
  ·rw[aD.mp z];exact C
theorem Sz:∀(xs:List Sd)(ps:PL),(∀x∈xs,J x)->(∀x∈pk ps,J x)->∀x∈pk (xs.foldl (λps x=>ug ps x []) ps),J x
 |[],_,_,h2=>h2|a::as,ps,h1,h2=>Sz as _ (λx g=>h1 x (by simp[g])) (PR h2 (h1 a (by simp)))
theorem PD:∀(ks:List Nat)(ps:PL),(∀k∈ks,J (fQ h x k))->(∀x∈pk ps,J x)->∀y∈pk (nU h x w ks ps),J y
 |[],_,_,h2=>h2|k::ks,ps,h1,h2=>PD ks _ (λj g=>h1 j (by simp[g])) (PR h2 (h1 k (by simp)))
theorem S5(o:∀x k,J x->k∈fr h x->J (fQ h x k))(z:∀x∈pk p0,J x):∀m,∀x∈pk (iV h p0 m),J x
 |0=>z
 |m+1=>by
  let g:=S5 o z m;unfold iV;cases e:(iV h p0 m)[m]? with|none=>exact g|some p=>exact PD _ _ (λk C=>o _ k (g _ (bA.mpr ⟨p,aJ e,rfl⟩)) C) g
theorem WX(E:uf h)(L:∀ps m no u,ps=iV h (lF (kL h)) m->⇑ps<=m->PI h ps->(∀x∈kL h,x∈pk ps)->u[no]?=ξ (.lst ((pk ps).map b8))->⇑s<=no->eZ s u->Q (.ref no) u):wp (jo [gj h]) Q s:=by
 let hh:=E.1;let z:⇑h.hands=2\/⇑h.hands=3:=by have:=hh.2.2.1;have:=hh.2.2.2.1;ext
 let H:=Qi hh;let c1:⇑(mY ⇑h.hands)<=eT:=kr ()
 (simp![jo];simp![yc])
 refine XG z λr u lr g ex=>?_;simp![↓eA g,fT,af,c1];rw[A0 (f:=λi=>((((mY ⇑h.hands)[i]?).map λrow=>b8 (n5 h row)).getD .non)) g (λi d hd Q=>by
  rw[ar]at hd;cases C:(mY ⇑h.hands)[i]? with|none=>rw[C]at hd;cases hd|some row=>
   rw[C]at hd;cases hd;let G:∀(Q:D->aY->Prop)s,wp (ju [gj h,.tup row]) Q s=Q (b8 (n5 h row)) s:=λQ s=>Kq (T7 hh (aJ C) ⟨rfl,rfl⟩);simp![↓G];rfl),af]
 let e:(bY ⇑(mY ⇑h.hands) λi=>((((mY ⇑h.hands)[i]?).map λrow=>b8 (n5 h row)).getD .non))=(kL h).map b8:=by unfold kL;rw[i9];symm;exact AZ (by simp) λi O=>by rw[ar,ag O];rfl
 rw[e];simp![];refine ZP E (SY hh) i4 (by unfold kL;rw[af];exact H) λno ps m s' J l I o g1 U lo Y=>?_;simp![];exact L ps m no s' J l I o U (by have:=ex.le;simp at lo;ext) ((ex.snoc _).trans Y)
end
open PySem (Str)
section
variable{p q:Nat}{Q:D->aY->Prop}
def fB:Bd:=⟨3,2,ud,ud,0⟩
theorem UC:wK fB:=⟨QB (n:=2) (by decide) (by decide),by decide⟩
theorem Qpc{k:Int}:wp (uH (.tup ds) ↑k) Q s=((1<=k/\k<=1000/\⇑ds<=1000/\ds≠[])/\Q (.tup (aE k.toNat ds).flatten) s):=by unfold uH;rw[dE,b4]
def Bs(bs:List Bd)(m j:Nat)(h:Ln):Prop:=(j=m/\h=.act 0 0 [2*m+2,2*m+2,2*m+3])\/(j=2*m+1/\h=.act 0 1 [2*m+2,2*m+2,2*m+3])\/(j≠m/\j≠2*m+1/\∃b d l,h=.act b d l/\1<=b/\vF bs (2*m+4) h/\∀g∈l,g=j+1)
def HP(bs:List Bd)(M:Nat)(x:Hd):Prop:=∃m g,m<=M/\x=⟨0,m+1,g++[.settle 0,.settle 1]⟩/\⇑g=2*m+2/\∀j h,g[j]?=ξ h->Bs bs m j h
def kQ(h:Hs):Prop:=∃cQ M,h.boards=fB::cQ/\⇑cQ<=2/\(∀b∈cQ,wK b)/\(∀x∈h.hands,HP h.boards M x)/\(⇑h.hands=2/\M=2/\mC cQ<=6\/⇑h.hands=3/\M=1/\mC cQ<=2)
theorem Rr{bs:List Bd}{M:Nat}:∀{ds:List D},(∀d∈ds,∃x,d=qh x/\HP bs M x)->∃xs:List Hd,ds=xs.map qh/\∀x∈xs,HP bs M x
 |[],_=>⟨[],rfl,λl h=>bw h (by simp)⟩
 |d::ds,h=>by
  let⟨l,e,u⟩:=h d (by simp);let⟨o,C,z⟩:=Rr (ds:=ds) λx g=>h x (by simp[g]);refine⟨l::o,by rw[e,C];rfl,λx g=>?_⟩;rcases a_.mp g with g|g
  ·rw[g];exact u
  ·exact z x g
theorem Pf{bs:List Bd}{m:Nat}{g:List Ln}(h:∀j x,g[j]?=ξ x->Bs bs m j x)(u:Bs bs m ⇑g o):∀j x,(g++[o])[j]?=ξ x->Bs bs m j x:=λj x l=>by
 by_cases z:j < ⇑g
 ·rw[aI z]at l;exact h j x l
 ·have:=(ac.mp l).1;rw[aK,fm]at this;obtain rfl:j=⇑g:=by ext
  rw[List.getElem?_concat_length]at l;cases l;exact u
theorem Zp{k n:Nat}:(aE k [D.int ((n:Int)+1)]).flatten=(aE k (n+1)).map bz:=by
 induction k with|zero=>rfl|succ k ih=>rw[c_,fL,ih,c_,aX];rfl
theorem Yv{nh:Nat}(hp:PK p q s s1)(hh:nh=2\/nh=3)(h:∀x s',kQ x->PK p q s s'->Kept p q s1 s'->Q (gj x) s'):wp (jC [.dic p,.int nh]) Q s1:=by
 obtain⟨c,M,hbase,hM,hbm⟩:∃c M:Nat,(∀(Q:D->aY->Prop)s,wp (cu [.int 6,.int 2] ((nh:Int)-2)) Q s=Q ↑c s)/\(3-(if (nh:Int)=3 then (1:Int) else 0)=M+1)/\(nh=2/\c=6/\M=2\/nh=3/\c=2/\M=1):=by
  rcases hh with e|e<;>subst e
  ·exact⟨6,2,λQ s=>nO,rfl,.inl ⟨rfl,rfl,rfl⟩⟩
  ·exact⟨2,1,λQ s=>my,rfl,.inr ⟨rfl,rfl,rfl⟩⟩
 let l2:2<=eT:=iy ();let l1:1<=eT:=iy ()
 (simp![jC];simp![yv,bn,l2,↓hbase])
 let pl:=hp.1.lt;let E:=hp.2.le;refine Q5 (n:=2) (by decide) (by decide) λt0 x0=>?_;let h0:PK p q s t0:=⟨hp.1.ext x0,hp.2.trans (Kept.ext x0)⟩
 let w0:Kept p q s1 t0:=Kept.ext x0;let ls0:=w0.le;let oB:=hp.ow ls0;simp![bn,l2,l1,↓hbase];refine nC h0.snoc () () λn t2 b0 b1 h2 w2=>?_;let⟨n,rfl⟩:=rR b0;simp![aR];refine⟨lO () (),?_⟩;let w12:Kept p q s1 t2:=w0.snoc.trans w2;let gb0:t2[⇑t0]?=ξ (.lst [nN fB]):=w2.sm oB i4;refine rJ (λi l u=>∃(bs:List Bd)(m:Nat)(y4 y5:Option D),l=[ξ (.dic p),ξ ↑nh,ξ (.ref ⇑t0),ξ ↑(m:Int),y4,y5,ψ,ψ,ψ,ψ,ψ,ψ,ψ,ψ,ψ]/\u[⇑t0]?=ξ (.lst ((fB::bs).map nN))/\⇑bs<=i/\(∀b∈bs,wK b)/\m*mC bs<=c/\m<=c/\1<=m/\PK p q s u/\Kept p q s1 u) (λ_ _ _ _=>trivial)
  ⟨[],c,ψ,ψ,rfl,gb0,aA _,λb hb=>bw hb (by simp),by simp[mC],aA _,by ext,h2,w12⟩ (λRw i d l u up rt hd G=>?_) (λl u G=>?_)
 ·let⟨bs,m,y4,y5,el,g,hbl,hb,hN,hmc,hm1,hk,w⟩:=G;subst el;let hi:=(ac.mp hd).1;rw[n9]at hi;simp![];let O:=w.le;refine⟨iy (),RW (sorts:=["first","plain","swap","add","any","laid"]) hk.snoc i4 () () (by decide) (by decide) λt v H hkv wv=>?_⟩;let⟨S,z,nx,un,J,ok⟩:=QE H;rw[J];let lt':∀(Q:D->aY->Prop)s,wp (eN (iH S z nx un)) Q s=Q ↑S s:=λQ s=>Qu;let L:=ok.2.1;let E:=ok.1;simp![↓lt'];let o:=wv.sm oB (k_ g:(u++[_])[⇑t0]?=_);by_cases l:(S:Int)<=(m:Int)
  ·rw[aH l];refine⟨⟨by ext,by ext⟩,?_⟩;refine nC hkv () () λx v2 x0 C hk2 w2=>?_;let⟨x,rfl⟩:=rR x0;let g2:=w2.sm oB o;let q1:∀Q,wp (getL ⇑t0) Q v2=Q ((fB::bs).map nN) v2:=λQ=>eA g2;let q2:∀es Q,wp (putL ⇑t0 es) Q v2=Q Unit.unit (v2.set ⇑t0 (.lst es)):=λes Q=>rh g2;simp![l2,↓q1,↓q2,af];let I:S<=m:=by ext
   refine⟨wr (by simp;ext),up ⟨bs++[⟨S,z,nx,un,x⟩],m / S,_,_,rfl,?_,by simp;ext,λb h=>?_,?_,bH (Nat.div_le_self ..) hmc,(Nat.one_le_div_iff ()).mpr I,hk2.pt oB,((w.snoc.trans wv).trans w2).pt oB⟩⟩
   ·rw[ax (iq g2),aX,aV];rfl
   ·rcases aS.mp h with h|h
    ·exact hb b h
    ·rw[aD.mp h];exact⟨ok,IB.mp C⟩
   ·rw[Mw]
    show m / S*(mC bs*S)<=c;rw[gN (mC bs),<- u8];exact bH (eW _ (Nat.div_mul_le_self ..)) hN
  ·rw[aB l];exact up ⟨bs,m,_,_,rfl,o,by ext,hb,hN,hmc,hm1,hkv,w.snoc.trans wv⟩
 ·let⟨bs,m,y4,y5,el,g,hbl,hb,hN,hmc,hm1,hk,w⟩:=G;subst el;rw[n9]at hbl;simp![aR,bn];refine⟨lO () (),?_⟩;let pb:=iq g;let lw:=w.le;let oR:=hp.ow lw;refine rJ (λi l v=>∃(ds:List D)(y4 y5 y7 y8 y9 L J I H y14:Option D),l=[ξ (.dic p),ξ ↑nh,ξ (.ref ⇑t0),ξ ↑(m:Int),y4,y5,ξ (.ref ⇑u),y7,y8,y9,L,J,I,H,y14]/\v[⇑t0]?=ξ (.lst ((fB::bs).map nN))/\v[⇑u]?=ξ (.lst ds)/\⇑ds=i/\(∀d∈ds,∃x,d=qh x/\HP (fB::bs) M x)/\PK p q s v/\Kept p q s1 v) (λ_ _ _ _=>trivial)
   ⟨[],y4,y5,ψ,ψ,ψ,ψ,ψ,ψ,ψ,ψ,rfl,k_ g,i4,rfl,λd hd=>bw hd (by simp),hk.snoc,w.snoc⟩ (λRw i d l v up rt hd G=>?_) (λl v G=>?_)
  ·let⟨ds,y4,y5,y7,y8,y9,L,J,I,H,y14,el,ga,gr,hl,hr,hkv,wv⟩:=G;subst el;let hi:=(ac.mp hd).1;rw[n9]at hi;simp![hM];refine nC hkv () () λr t1 a0 a1 h1 w1=>?_;let gB:=w1.sm oB ga;let g2:∀Q,wp (getL ⇑t0) Q t1=Q ((fB::bs).map nN) t1:=λQ=>eA gB;simp![↓g2,af];obtain⟨U,hmo,hmo2,hmo3⟩:∃U:Nat,(r*(if (1:Int) < ((⇑bs+1:Nat):Int) then 1 else 0))=(U:Int)/\U<=M/\(0 < U->0 < ⇑bs):=by
    by_cases hz:(0:Int) < (⇑bs:Int)
    ·rw[aH ()];exact⟨r.toNat,by ext,by ext,λ_=>by ext⟩
    ·rw[aB ()];exact⟨0,by ext,by ext,λh=>by ext⟩
   rw[hmo];refine⟨.inr (by by_cases hz:(1:Int) < ((⇑bs+1:Nat):Int)<;>simp only[hz,if_true,if_false]<;>ext),bn _,by decide,?_⟩;let hM2:M<=2:=by ext
   clear hmo a0 a1 hM hbm;let lt1:=w1.le;let oL:=hp.ow (bH wv.le lt1);let lr:=iq gr;let gR:=w1.sm oR gr;let w01:=wv.trans w1;refine rJ (λC l s'=>∃(E:List Ln)(y9 L J I H y14:Option D),l=[ξ (.dic p),ξ ↑nh,ξ (.ref ⇑t0),ξ ↑(m:Int),ξ d,y5,ξ (.ref ⇑u),ξ ↑(U:Int),ξ (.ref ⇑t1),y9,L,J,I,H,y14]/\s'[⇑t0]?=ξ (.lst ((fB::bs).map nN))/\s'[⇑u]?=ξ (.lst ds)/\s'[⇑t1]?=ξ (.lst (E.map lJ))/\⇑E=C*(U+1)/\(∀j ln,E[j]?=ξ ln->Bs (fB::bs) U j ln)/\PK p q s s'/\Kept p q s1 s') (λ_ _ _ _=>trivial)
    ⟨[],y9,L,J,I,H,y14,rfl,k_ gB,k_ gR,i4,by simp,λj ln hj=>bw hj (by simp),h1.snoc,w01.snoc⟩ (λR2 C e l s' up2 rt2 hd' G=>?_) (λl s' G=>?_)
   ·let⟨E,y9,L,J,I,H,y14,el,gb,gr,gl,Y,hP,hk',w'⟩:=G;subst el;let hsd:=(ac.mp hd').1;rw[n9]at hsd;let hsd:C < 2:=hsd;obtain rfl:e=.int (C:Int):=by let⟨_,e⟩:=IK hd';exact e
    simp![bn,aR];refine⟨lO () (),?_⟩;refine rJ (λat' l s'=>∃(E:List Ln)(L J I H:Option D),l=[ξ (.dic p),ξ ↑nh,ξ (.ref ⇑t0),ξ ↑(m:Int),ξ d,y5,ξ (.ref ⇑u),ξ ↑(U:Int),ξ (.ref ⇑t1),ξ ↑(C:Int),L,J,I,H,y14]/\s'[⇑t0]?=ξ (.lst ((fB::bs).map nN))/\s'[⇑u]?=ξ (.lst ds)/\s'[⇑t1]?=ξ (.lst (E.map lJ))/\⇑E=C*(U+1)+at'/\(∀j ln,E[j]?=ξ ln->Bs (fB::bs) U j ln)/\PK p q s s'/\Kept p q s1 s') (λ_ _ _ _=>trivial)
     ⟨E,L,J,I,H,rfl,gb,gr,gl,Y,hP,hk',w'⟩ (λR3 at' e l s' up3 rt3 hd' G=>?_) (λl s' G=>?_)
    ·let⟨E,L,J,I,H,el,gb,gr,gl,Y,hP,hk',w'⟩:=G;subst el;let hat:=(ac.mp hd').1;rw[n9]at hat;let q1:∀Q,wp (getL ⇑t0) Q s'=Q ((fB::bs).map nN) s':=λQ=>eA gb;simp![↓q1,af,cm];let hbp:=hmo3 ();refine nC hk' () () λbi s2 bi0 bi1 hk2 v2=>?_;let⟨b,rfl⟩:=rR bi0;let hb1:b < ⇑bs:=by ext
     let o:bs[b]?=ξ bs[b]:=ag hb1;let⟨ok,hst⟩:=hb bs[b] (cM hb1);generalize bs[b]=O at o ok hst;let pL:=iq gl;let ls':=w'.le;let q2:∀Q,wp (getL ⇑t0) Q s2=Q ((fB::bs).map nN) s2:=λQ=>eA (v2.sm oB gb);let q3:∀(Q:D->aY->Prop)s,wp (cu ((fB::bs).map nN) (1+(b:Int))) Q s=Q (.tup [iH O.S O.dn O.nx O.un,bz O.st]) s:=λQ s=>by rw[show (1:Int)+(b:Int)=((b+1:Nat):Int) by ext];exact oG (by rw[ar,mO,o];rfl)
     let t0':∀(Q:D->aY->Prop)s,wp (aU (iH O.S O.dn O.nx O.un) ↑0) Q s=Q (.tup (bY O.dn λd=>.tup [.int (O.nx 0 d:Nat),.int (O.un 0 d:Nat)])) s:=λQ s=>Pg ok.1;simp![↓q2,↓q3,↓t0',on];let dn1:=ok.2.2.1;let dn2:=ok.2.2.2.1;refine nC hk2 () () λdd s3 dd0 dd1 hk3 v3=>?_;let⟨d',rfl⟩:=rR dd0;let l:d' < O.dn:=by ext
     let z:=v2.trans v3;let gB3:=z.sm oB gb;let gR3:=z.sm oR gr;let u:=z.sm oL gl;let q4:∀Q,wp (getL ⇑t0) Q s3=Q ((fB::bs).map nN) s3:=λQ=>eA gB3;let q5:∀Q,wp (getL ⇑t1) Q s3=Q (E.map lJ) s3:=λQ=>eA u;let q6:∀es Q,wp (putL ⇑t1 es) Q s3=Q Unit.unit (s3.set ⇑t1 (.lst es)):=λes Q=>rh u;let an:∀(Q:D->aY->Prop)s,wp (je [iH O.S O.dn O.nx O.un,.int d']) Q s=Q ↑((1+mx (O.un · d') O.S:Nat):Int) s:=λQ s=>Og ok l;let hmx:mx (O.un · d') O.S<=3:=Rt λi hi=>by have:=(ok.2.2.2.2 i d' hi l).2;ext
     let l4:4<=eT:=iy ();simp![↓q4,↓q5,↓q6,↓q3,↓an,↓Qpc,aR,l1,l4,true_and,af,Zp];let hll:⇑E<=8:=by have h1:C*(U+1)<=1*(U+1):=eW _ ();ext
     let h:C=0\/C=1:=by ext
     let hnew:Bs (fB::bs) U ⇑E (.act (b+1) d' (aE (1+mx (O.un · d') O.S) (⇑E+1))):=.inr (.inr ⟨by rcases h with e|e<;>subst e<;>ext,by rcases h with e|e<;>subst e<;>ext,b+1,d',_,rfl,by ext,(⟨O,by rw[mO];exact o,l,by rw[eM],λg hg=>by rw[mr hg];rcases h with e|e<;>subst e<;>ext⟩:∃bd2,_),λg hg=>mr hg⟩)
     refine⟨⟨by ext,by ext,by simp⟩,wr (),up3 ⟨E++[.act (b+1) d' (aE (1+mx (O.un · d') O.S) (⇑E+1))],_,_,_,_,rfl,?_,?_,?_,?_,Pf hP hnew,hk3.pt oL,(w'.trans z).pt oL⟩⟩
     ·rw[aw ()];exact gB3
     ·rw[aw ()];exact gR3
     ·rw[ax (iq u),aV]
      show _=ξ (MO.lst (E.map lJ++[D.tup [D.str "do",D.int ((b+1:Nat):Int),_,_]]));rw[show ((b+1:Nat):Int)=1+(b:Int) by ext];rfl
     ·rw[aK,Y];rfl
    ·let⟨E,L,J,I,H,el,gb,gr,gl,Y,hP,hk',w'⟩:=G;subst el;rw[n9]at Y;let q5:∀Q,wp (getL ⇑t1) Q s'=Q (E.map lJ) s':=λQ=>eA gl;let q6:∀es Q,wp (putL ⇑t1 es) Q s'=Q Unit.unit (s'.set ⇑t1 (.lst es)):=λes Q=>rh gl;let g:3<=eT:=iy ();let l4:4<=eT:=iy ();simp![↓q5,↓q6,g,l4,true_and,af];let ls':=w'.le;let pL:=iq gl;let hll:⇑E<=8:=by have h1:C*(U+1)<=1*(U+1):=eW _ ();ext
     let h:C=0\/C=1:=by ext
     refine⟨.inr (),wr (),up2 ⟨E++[.act 0 C [2*U+2,2*U+2,2*U+3]],_,_,_,_,_,_,rfl,?_,?_,?_,?_,Pf hP ?_,hk'.pt oL,w'.pt oL⟩⟩
     ·rw[aw ()];exact gb
     ·rw[aw ()];exact gr
     ·rw[ax (iq gl),aV];rfl
     ·rw[aK,Y,fm,lA];ext
     ·rcases h with e|e<;>subst e
      ·exact .inl ⟨by ext,rfl⟩
      ·exact .inr (.inl ⟨by ext,rfl⟩)
   ·let⟨E,y9,L,J,I,H,y14,el,gb,gr,gl,Y,hP,hk',w'⟩:=G;subst el;rw[n9]at Y;let Y:⇑E=2*(U+1):=Y;let ls':=w'.le;let pL:=iq gl;simp![l2,true_and];generalize O:([.tup [.str "settle",.int 0],.tup [.str "settle",.int 1]]:List D)=X;rw[Hj (k_ gl) i4];let l:=(hk'.snoc (o:=.lst X)).snoc (o:=.lst (E.map lJ++X));let w4:=(w'.snoc (o:=.lst X)).snoc (o:=.lst (E.map lJ++X));let C:=k_ (b:=.lst (E.map lJ++X)) (k_ (b:=.lst X) gb);let g:=k_ (b:=.lst (E.map lJ++X)) (k_ (b:=.lst X) gr);let gn:(s'++[MO.lst X]++[.lst (E.map lJ++X)])[⇑(s'++[MO.lst X])]?=ξ (.lst (E.map lJ++X)):=i4;refine⟨iy (by rw[<- O];simp;ext),?_⟩;simp![l2];generalize s'++[MO.lst X]++[MO.lst (E.map lJ++X)]=h at *;generalize ⇑(s'++[MO.lst X])=N at *;let q1:∀Q,wp (getL N) Q h=Q (E.map lJ++X) h:=λQ=>eA gn;let q5:∀Q,wp (getL ⇑u) Q h=Q ds h:=λQ=>eA g;let q6:∀es Q,wp (putL ⇑u es) Q h=Q Unit.unit (h.set ⇑u (.lst es)):=λes Q=>rh g;simp![↓q1,↓q5,↓q6,l2,true_and];refine⟨wr (),up ⟨_,_,_,_,_,_,_,_,_,_,_,rfl,?_,ax (iq g),by simp[hl],λz hz=>?_,l.pt oR,w4.pt oR⟩⟩
    ·rw[aw ()];exact C
    ·rcases aS.mp hz with hz|hz
     ·exact hr z hz
     ·refine⟨⟨0,U+1,E++[.settle 0,.settle 1]⟩,?_,U,E,hmo2,rfl,by ext,hP⟩;rw[aD.mp hz,<- O];unfold qh;rw[aV];rfl
  ·let⟨ds,y4,y5,y7,y8,y9,L,J,I,H,y14,el,ga,gr,hl,hr,hkv,wv⟩:=G;subst el;rw[n9]at hl;let q1:∀Q,wp (getL ⇑t0) Q v=Q ((fB::bs).map nN) v:=λQ=>eA ga;let q2:∀Q,wp (getL ⇑u) Q v=Q ds v:=λQ=>eA gr;let⟨xs,ex,o⟩:=Rr hr;simp![↓q1,↓q2,l2,true_and];rw[ex]at hl ⊢;rw[af]at hl;refine h ⟨fB::bs,xs⟩ v ⟨bs,M,rfl,by ext,hb,o,?_⟩ hkv wv;let z:mC bs<=c:=bH (Nat.le_mul_of_pos_left _ ()) hN;rcases hbm with ⟨l,C,g⟩|⟨l,C,g⟩
   ·exact .inl ⟨hl.trans l,g,by ext⟩
   ·exact .inr ⟨hl.trans l,g,by ext⟩
end
open PySem (Str)
section
variable{k M:Nat}{hd:Hd}
structure PH(bs:List Bd)(M:Nat)(hd:Hd)(m:Nat):Prop where
 few:m<=M
 b0:hd.b0=0
 b1:hd.b1=m+1
 len:⇑hd.lines=2*m+4
 line:∀l,l < 2*m+2->∃ln,hd.lines[l]?=ξ ln/\Bs bs m l ln
 e0:hd.lines[2*m+2]?=ξ (.settle 0)
 e1:hd.lines[2*m+3]?=ξ (.settle 1)
theorem DZ{bs:List Bd}(p:HP bs M hd):∃m,PH bs M hd m:=by
 let⟨m,g,u,e,o,C⟩:=p;subst e;refine⟨m,u,rfl,rfl,by simp[o],λl z=>⟨g[l],?_,C l _ (ag ())⟩,?_,?_⟩
 ·show (g++_)[l]?=_;rw[aI (),ag ()]
 ·show (g++_)[_]?=_;rw[bv (),o,show 2*m+2-(2*m+2)=0 by ext];rfl
 ·show (g++_)[_]?=_;rw[bv (),o,show 2*m+3-(2*m+2)=1 by ext];rfl
theorem Zt{bs:List Bd}{m:Nat}(I:bs[0]?=ξ fB)(O:M<=2)(p:PH bs M hd m):vp bs hd:=by
 let L:=p.few;refine⟨by rw[p.b0,p.len];ext,by rw[p.b1,p.len];ext,by rw[p.len];ext,λJ u=>?_⟩;rw[p.len];let⟨l,o⟩:=gX.mp u;let E:=(ac.mp o).1;rw[p.len]at E;let turn:∀d,d < 2->vF bs (2*m+4) (.act 0 d [2*m+2,2*m+2,2*m+3]):=λd z=>by
  refine⟨fB,I,z,?_,λg G=>?_⟩
  ·have:d=0\/d=1:=by ext
   rcases this with e|e<;>subst e<;>rfl
  ·simp only[a_,cW,or_false]at G;ext
 by_cases c:l < 2*m+2
 ·let⟨C,e,H⟩:=p.line l c;rw[o]at e;cases e;rcases H with ⟨_,e⟩|⟨_,e⟩|⟨_,_,b,d,Q,e,_,ok,_⟩
  ·rw[e];exact turn 0 ()
  ·rw[e];exact turn 1 ()
  ·exact ok
 ·by_cases c2:l=2*m+2
  ·rw[c2,p.e0]at o;cases o;show 0 < 2;ext
  ·rw[show l=2*m+3 by ext,p.e1]at o;cases o;show 1 < 2;ext
theorem AT(P:kQ h):uf h:=by
 let⟨cQ,M,o,I,u,hh,C⟩:=P;let H:h.boards[0]?=ξ fB:=by rw[o];rfl
 let J:⇑h.hands=2\/⇑h.hands=3:=by rcases C with ⟨a,_⟩|⟨a,_⟩<;>ext
 let z:M<=2:=by rcases C with ⟨_,a,_⟩|⟨_,a,_⟩<;>ext
 let G:⇑h.boards=⇑cQ+1:=by rw[o];rfl
 let E:mC h.boards=3*mC cQ:=by rw[o];rfl
 refine⟨⟨by ext,λb g=>?_,by ext,by ext,λx l=>?_⟩,by ext,?_⟩
 ·rw[o]at g;rcases a_.mp g with e|g
  ·rw[e];exact UC
  ·exact u b g
 ·let⟨m,p⟩:=DZ (hh x l);exact Zt H z p
 ·rcases C with ⟨a,b,c⟩|⟨a,b,c⟩
  ·refine⟨8,by ext,λx l=>?_,by rw[a,E];show 64*_<=_;ext⟩;let⟨m,p⟩:=DZ (hh x l);have:=p.few;rw[p.len];ext
  ·refine⟨6,by ext,λx l=>?_,by rw[a,E];show 216*_<=_;ext⟩;let⟨m,p⟩:=DZ (hh x l);have:=p.few;rw[p.len];ext
theorem J8{s d:Nat}(g:s < 3)(hd:d < 2):1<=ud s d/\ud s d<=2:=by unfold ud;split<;>ext
theorem Mh(P:kQ h)(I:fE h x)(Y:k∈fr h x):∃M hd m l b g st,h.hands[k]?=ξ hd/\PH h.boards M hd m/\x.ls[k]?=ξ l/\l < 2*m+2/\fQ h x k=⟨x.ls.set k g,x.ss.set b st⟩/\((1<=b/\g=l+1/\l≠m/\l≠2*m+1)\/∃d σ,(l=m/\d=0\/l=2*m+1/\d=1)/\b=0/\x.ss[0]?=ξ σ/\σ < 3/\st=ud σ d/\g=2*m+1+st):=by
 let Q:=AT P;let⟨cQ,M,hb,hr,hbd,hh,hM⟩:=P;let h0:h.boards[0]?=ξ fB:=by rw[hb];rfl
 let⟨hd,l,U,e2,hl,C,ok⟩:=BF Q.1 I (zM Y);let⟨m,p⟩:=DZ (hh hd (aJ U));let E:o8 (cN h x k)=true:=(dO.mp Y).2;let c:l < 2*m+2:=Nat.lt_of_not_le λz=>by
  rw[p.len]at hl;by_cases c2:l=2*m+2
  ·rw[c2,p.e0]at C;rw[<- aO C]at E;cases E
  ·rw[show l=2*m+3 by ext,p.e1]at C;rw[<- aO C]at E;cases E
 let⟨ln,e4,hP⟩:=p.line l c;rw[C]at e4;let el:=aO e4;let turn:∀d,d < 2->(l=m/\d=0\/l=2*m+1/\d=1)->cN h x k=.act 0 d [2*m+2,2*m+2,2*m+3]->∃M hd m l b g st,h.hands[k]?=ξ hd/\PH h.boards M hd m/\x.ls[k]?=ξ l/\l < 2*m+2/\fQ h x k=⟨x.ls.set k g,x.ss.set b st⟩/\((1<=b/\g=l+1/\l≠m/\l≠2*m+1)\/∃d σ,(l=m/\d=0\/l=2*m+1/\d=1)/\b=0/\x.ss[0]?=ξ σ/\σ < 3/\st=ud σ d/\g=2*m+1+st):=λd O J e=>by
  rw[e]at ok;let⟨bd,σ,g,H,G,u,f4,o,f6,f7,f8⟩:=G8 Q.1 I ok;rw[h0]at H;cases H;let u:σ < 3:=u;let o:[2*m+2,2*m+2,2*m+3][ud σ d]?=ξ g:=o;let L:g=2*m+1+ud σ d:=by
   have:=J8 u O;let z:ud σ d=1\/ud σ d=2:=by ext
   rcases z with z|z<;>rw[z]at o ⊢<;>exact (aO o).symm
  exact⟨M,hd,m,l,0,g,ud σ d,U,p,e2,c,GD e h0 G o,.inr ⟨d,σ,J,rfl,G,u,rfl,L⟩⟩
 rcases hP with ⟨z,e⟩|⟨z,e⟩|⟨z1,z2,b,d,gs,e,b1,ok',L⟩
 ·exact turn 0 () (.inl ⟨z,rfl⟩) (el.trans e)
 ·exact turn 1 () (.inr ⟨z,rfl⟩) (el.trans e)
 ·rw[el,e]at ok;let⟨bd,σ,g,H,G,u,f4,o,f6,f7,f8⟩:=G8 Q.1 I ok;exact⟨M,hd,m,l,b,g,_,U,p,e2,c,GD (el.trans e) H G o,.inl ⟨b1,L g (aJ o),z1,z2⟩⟩
theorem Z1{bs:List Bd}{l m m':Nat}(p:PH bs M hd m)(g:PH bs l hd m'):m=m':=by have:=p.len;have:=g.len;ext
theorem Tx{m l:Nat}(H:uf h)(G:fE h x)(g:h.hands[k]?=ξ hd)(p:PH h.boards M hd m)(E:x.ls[k]?=ξ l)(c:l < 2*m+2):k∈fr h x:=by
 let u:=(ac.mp g).1;refine dO.mpr ⟨cC.mpr u,?_⟩;let⟨o,C,z⟩:=p.line l c;have:cN h x k=o:=by unfold cN;rw[g,km,E,km,C];rfl
 rw[this];rcases z with ⟨_,e⟩|⟨_,e⟩|⟨_,_,_,_,_,e,_⟩<;>rw[e]<;>rfl
end
open PySem (Str)
section
variable{h:Hs}{x y:Sd}{k M:Nat}{hd:Hd}
theorem S3{B:Nat}{st:Sd}(o:∀x∈h.hands,⇑x.lines<=B)(g:fE h st):sL B h st < B^⇑h.hands*mC h.boards:=by let l:=EL (Gn g o);let u:=Dm (by rw[af];exact g.2.1) (El g);rw[Jx]at u;unfold sL;rw[g.1]at l;have:(rS B st.ls+1)*mC h.boards<=B^⇑h.hands*mC h.boards:=eW _ l;rw[lA]at this;ext
theorem MR{l:List Sd}(E:Ak h)(C:l.Nodup)(g:∀x∈l,fE h x):⇑l<=300:=by
 obtain⟨B,u,H⟩:∃B,(∀x∈h.hands,⇑x.lines<=B)/\B^⇑h.hands*mC h.boards<=300:=by
  rcases E.2.2 with ⟨a,b,c⟩|⟨a,b,c⟩
  ·exact⟨6,b,by rw[a];exact c⟩
  ·exact⟨4,b,by rw[a];exact c⟩
 have:=B8 300 (l.map (sL B h)) (D3 C λa o b G e=>LO u (g a o) (g b G) e) (λx z=>by let⟨a,o,e⟩:=bA.mp z;rw[<- e];exact br (S3 u (g a o)) H)
 rwa [af]at this
structure JP(h:Hs)(x:Sd):Prop where
 ok:fE h x
 st:∃σ,x.ss[0]?=ξ σ/\(∀(k:Nat)(hd:Hd)(l:Nat),h.hands[k]?=ξ hd->x.ls[k]?=ξ l->l+2 < ⇑hd.lines\/l+3=⇑hd.lines + σ/\σ≠0)/\(σ≠0->∃(k:Nat)(hd:Hd)(l:Nat),h.hands[k]?=ξ hd/\x.ls[k]?=ξ l/\l+3=⇑hd.lines + σ)
theorem W1(P:kQ h)(J:JP h x)(hk:k∈fr h x):JP h (fQ h x k):=by
 let hc:=AT P;refine⟨DT hc.1 J.ok (zM hk),?_⟩;let⟨σ,s0,G,H⟩:=J.st;let⟨M,hd,m,l,b,g,st,e1,p,e2,c,eb,I⟩:=Mh P J.ok hk;let pl:=p.len;rw[eb];let O:=(ac.mp e2).1;let own:∀{o E},h.hands[k]?=ξ o->(x.ls.set k g)[k]?=ξ E->o=hd/\E=g:=λ{o E}C u=>by rw[e1]at C;rw[ax O]at u;exact⟨(aO C).symm,(aO u).symm⟩
 rcases I with ⟨b1,hg,n1,n2⟩|⟨d,σ',hld,b0,f2,f3,L,hg⟩
 ·refine⟨σ,by rw[aw ()];exact s0,λj o E C u=>?_,λz=>?_⟩
  ·by_cases Q:j=k
   ·subst Q;let⟨Y,U⟩:=own C u;rw[Y,U];left;ext
   ·let u:(x.ls.set k g)[j]?=ξ E:=u;rw[aw ()]at u;exact G j o E C u
  ·let⟨j,o,E,C,u,h⟩:=H z;refine⟨j,o,E,C,?_,h⟩;let Q:¬ j=k:=λe=>by subst e;rw[e1]at C;rw[e2]at u;cases C;cases u;ext
   show (x.ls.set k g)[j]?=_;rw[aw ()];exact u
 ·rw[s0]at f2;cases f2;subst b0;let h:=(ac.mp s0).1;let H:=J8 f3 (show d < 2 by ext);rw[<- L]at H;refine⟨st,by rw[ax h],λj o E C u=>?_,λz=>⟨k,hd,g,e1,ax O,by ext⟩⟩;by_cases Q:j=k
  ·subst Q;let⟨Y,U⟩:=own C u;rw[Y,U];right;ext
  ·let u:(x.ls.set k g)[j]?=ξ E:=u;rw[aw ()]at u;rcases G j o E C u with z|⟨z,l⟩
   ·exact .inl z
   ·have:st=σ:=by rw[L];unfold ud;rw[aB l]
    rw[this];exact .inr ⟨z,l⟩
theorem Mp(P:kQ h)(e:h.hands[k]?=ξ hd):∃M m,PH h.boards M hd m:=by let⟨cQ,M,o,l,g,hh,u⟩:=P;let⟨m,p⟩:=DZ (hh hd (aJ e));exact⟨M,m,p⟩
theorem Kv(P:kQ h)(row:List D):(n5 h row).ss[0]?=ξ 0:=by
 let⟨cQ,M,g,o,l,hh,u⟩:=P;have:⇑h.boards=⇑cQ+1:=by rw[g];rfl
 show (bY ⇑h.boards (zR h))[0]?=_;unfold bY;rw[ar,d_ ()]
 show ξ (zR h 0)=_;unfold zR;rw[g];rfl
theorem IJ{row:List D}{v:Nat}(e:h.hands[k]?=ξ hd)(l:row[k]?=ξ ↑v)(o:v < 2):(n5 h row).ls[k]?=ξ (if v=0 then hd.b0 else hd.b1):=by
 let g:=(ac.mp e).1
 show (bY ⇑h.hands (bf h row))[k]?=_;unfold bY;rw[ar,d_ g]
 show ξ (bf h row k)=_;unfold bf;rw[e,l];dsimp only;have:v=0\/v=1:=by ext
 rcases this with z|z<;>subst z<;>rfl
theorem VQ(P:kQ h){row:List D}(E:row∈mY ⇑h.hands):JP h (n5 h row):=by
 let H:=AT P;refine⟨M_ H.1 E,0,Kv P row,λk hd l C u=>.inl ?_,λz=>bw rfl z⟩;let⟨G,g⟩:=BG _ row E;let J:=(ac.mp C).1;let o:=ag (show k < ⇑row by ext);let⟨M,m,p⟩:=Mp P C;let I:=p.len;rcases g k _ o with e|e
 ·rw[e]at o;rw[IJ (v:=0) C o (),aH rfl,p.b0]at u;cases u;ext
 ·rw[e]at o;rw[IJ (v:=1) C o (),aB (),p.b1]at u;cases u;ext
theorem Vf(A:JP h a)(B:JP h b)(G:a.ls=b.ls)(e2:a.ss.tail=b.ss.tail):a=b:=by
 let⟨σ,s0,C,g⟩:=A.st;let⟨τ,J,E,o⟩:=B.st;let key:σ=τ:=by
  by_cases z:σ=0
  ·by_cases w:τ=0
   ·ext
   ·let⟨k,hd,l,I,H,a3⟩:=o w;rcases C k hd l I (by rw[G];exact H) with q|q<;>ext
  ·let⟨k,hd,l,I,H,a3⟩:=g z;rcases E k hd l I (by rw[<- G];exact H) with q|q<;>ext
 let⟨U,O⟩:=a;let⟨Q,L⟩:=b;cases O with|nil=>cases s0|cons u us=>
  cases L with|nil=>cases J|cons w ws=>
   let g0:u=σ:=aO s0;let Y:w=τ:=aO J;let f2:us=ws:=e2;let f1:U=Q:=G;rw[f1,f2,g0,Y,key]
theorem WC(P:kQ h){l:List Sd}(Q:l.Nodup)(g:∀x∈l,JP h x):⇑l<=500:=by
 let⟨cQ,M,I,hr,Y,hh,hM⟩:=P;obtain⟨B,U,hB⟩:∃B,(∀x∈h.hands,⇑x.lines<=B)/\B^⇑h.hands*mC cQ<=500:=by
  refine⟨2*M+4,λx G=>?_,?_⟩
  ·let⟨m,p⟩:=DZ (hh x G);have:=p.few;rw[p.len];ext
  ·rcases hM with ⟨a,b,c⟩|⟨a,b,c⟩
   ·rw[a,b];show 64*_<=_;ext
   ·rw[a,b];show 216*_<=_;ext
 let sd:∀x,JP h x->fE ⟨cQ,h.hands⟩ ⟨x.ls,x.ss.tail⟩:=λx J=>by have o:=J.ok;have H:=o.2.1;rw[I]at H;refine⟨o.1,by show ⇑x.ss.tail=⇑cQ;rw[List.length_tail,H];rfl,o.2.2.1,λb bd s a1 E=>?_⟩;have E:x.ss.tail[b]?=ξ s:=E;rw[List.getElem?_tail]at E;exact o.2.2.2 (b+1) bd s (by rw[I];exact a1) E
 let u:∀x∈(⟨cQ,h.hands⟩:Hs).hands,⇑x.lines<=B:=U;have:=B8 500 (l.map λx=>sL B ⟨cQ,h.hands⟩ ⟨x.ls,x.ss.tail⟩) (D3 Q λa C b z e=>by
  have:=LO u (sd a (g a C)) (sd b (g b z)) e;let O:=cj Sd.ls this;let L:=cj Sd.ss this;exact Vf (g a C) (g b z) O L) (λx G=>by
  let⟨a,C,e⟩:=bA.mp G;rw[<- e];exact br (S3 u (sd a (g a C))) hB)
 rwa [af]at this
end
open PySem (Str)
section
variable{k M:Nat}{v:Nat}{ys:List Sd}
theorem run(P:kQ h):∀(n:Nat)(x:Sd)(k:Nat)(hd:Hd)(M m l d e:Nat),fE h x->x.ss[0]?=ξ 0->h.hands[k]?=ξ hd->PH h.boards M hd m->x.ls[k]?=ξ l->(d=0/\e=m/\l<=m\/d=1/\e=2*m+1/\m < l/\l<=2*m+1)->e < l+n->Rv h x d:=by
 intro n
 induction n with
 |zero=>intro x k hd M m l d e I s0 C p L G hn;ext
 |succ n ih=>
  intro x k hd M m l d e I s0 C p L G hn;let J:=Tx (AT P) I C p L ();let O:=DT (AT P).1 I (zM J);let⟨M',H,m',l',b,g,st,a1,p',a2,c,U,u⟩:=Mh P I J;rw[C]at a1;cases a1;rw[L]at a2;cases a2;obtain rfl:=Z1 p p';let Y:∀g:Nat,(x.ls.set k g)[k]?=ξ g:=λg=>ax (ac.mp L).1;rcases u with ⟨b1,Q,n1,n2⟩|⟨d',σ',E,b0,z,f3,o,Q⟩
  ·refine O0 J (ih _ k hd M m (l+1) d e O ?_ C p ?_ () ())
   ·rw[U];show (x.ss.set b st)[0]?=_;rw[aw ()];exact s0
   ·rw[U,Q];exact Y _
  ·rw[s0]at z;cases z;let H:d'=d:=by ext
   let o:st=d+1:=by rw[o,H];rfl
   refine⟨_,.step J (.refl _),IH.mpr ⟨k,(ac.mp C).1,?_⟩⟩;rw[U];unfold cN;rw[C,km]
   show ((x.ls.set k g)[k]?.bind _).getD _=_;rw[Y,km,Q,o];clear E;rcases G with ⟨d0,_⟩|⟨d0,_⟩<;>subst d0
   ·rw[p.e0];rfl
   ·rw[p.e1];rfl
theorem SM:∀{xs:List Nat}{k l g:Nat},xs[k]?=ξ l->(xs.set k g).sum+l=xs.sum+g
 |[],_,_,_,h=>(by cases h)|x::xs,0,l,g,h=>by cases h;simp only[List.set_cons_zero,mw];ext|x::xs,k+1,l,g,h=>by have:=SM (xs:=xs) (k:=k) (g:=g) (show xs[k]?=ξ l from h);simp only[List.set_cons_succ,mw];ext
theorem OW{B:Nat}:∀{xs:List Nat},(∀x∈xs,x < B)->xs.sum<=B*⇑xs
 |[],_=>bn _|x::xs,h=>by have o:=h x (by simp);have l:=OW (xs:=xs) λy g=>h y (by simp[g]);rw[mw,cm,Nat.mul_succ];ext
theorem MW(P:kQ h):∀(n:Nat)(x:Sd),fE h x->Op h x->25<=n+x.ls.sum->∃y,Pt h x y/\Cr h y:=by
 intro n
 induction n with
 |zero=>
  intro x u o I;let⟨hh,_,B,U,L,_⟩:=AT P;let E:=OW (Gn u L);let s2:B*⇑x.ls<=8*3:=DN U (by rw[u.1];exact hh.2.2.2.1);ext
 |succ n ih=>
  intro x u o I;by_cases c:Cr h x
  ·exact⟨x,.refl x,c⟩
  ·obtain⟨k,C,ok⟩:∃k∈fr h x,Op h (fQ h x k):=rB λz=>c ⟨o,λk C ok=>z ⟨k,C,ok⟩⟩;let⟨M',Q,m',G,b,g,st,a1,p',U,cl,I,l⟩:=Mh P u C;let up:G < g:=by
    rcases l with ⟨_,O,_⟩|⟨d,σ,J,_,_,Y,H,O⟩
    ·ext
    ·have:=J8 Y (show d < 2 by ext);ext
   let E:=SM (g:=g) U;let e:(fQ h x k).ls=x.ls.set k g:=by rw[I]
   let⟨y,p,L⟩:=ih _ (DT (AT P).1 u (zM C)) ok (by rw[e];ext);exact⟨y,.step C p,L⟩
theorem Yt{n:Nat}(g:n=2\/n=3):∃row∈mY n,row[0]?=ξ ↑0/\row[1]?=ξ ↑1:=by
 rcases g with e|e<;>subst e
 ·exact⟨[.int 0,.int 1],.tail _ (.head _),rfl,rfl⟩
 ·exact⟨[.int 0,.int 1,.int 0],.tail _ (.tail _ (.head _)),rfl,rfl⟩
theorem TZ(P:kQ h)(U:∀x∈kL h,x∈ys)(z:Cl h ys):uc h ys≠[]:=by
 let C:=AT P;let Q:⇑h.hands=2\/⇑h.hands=3:=by have:=C.1.2.2.1;have:=C.1.2.2.2.1;ext
 let⟨row,I,L,J⟩:=Yt Q;let u:=M_ C.1 I;let G:=ag (show 0 < ⇑h.hands by ext);let E:=ag (show 1 < ⇑h.hands by ext);let⟨M0,l,p0⟩:=Mp P G;let⟨M1,g,H⟩:=Mp P E;let o:Op h (n5 h row):=⟨run P (l+1) _ 0 _ M0 l 0 0 l u (Kv P row) G p0 (by rw[IJ (v:=0) G L (),aH rfl,p0.b0]) () (),
  run P (g+1) _ 1 _ M1 g (g+1) 1 (2*g+1) u (Kv P row) E H (by rw[IJ (v:=1) E J (),aB (),H.b1]) () ()⟩
 let⟨y,p,Y⟩:=MW P 25 _ u o ();let O:=Qd z p (U _ (bA.mpr ⟨row,I,rfl⟩));intro e;have:y∈uc h ys:=dO.mpr ⟨O,Fh.mpr Y⟩;rw[e]at this;cases this
end
open PySem (Str)
section
variable{s u:aY}{Q:D->aY->Prop}
theorem Ma{n:Nat}:∀{xs:List D},(∀x∈xs,sJ n x x=ξ θ)->mR (sJ n) xs xs=ξ θ
 |[],_=>rfl|x::xs,h=>by unfold mR;rw[h x (by simp)];exact Ma λy g=>h y (by simp[g])
theorem S9{n:Nat}{xs:List D}(h:∀x∈xs,sJ n x x=ξ θ):sJ (n+1) (.tup xs) (.tup xs)=ξ true:=Ma h
theorem W4{n:Nat}{i:Int}:sJ n ↑i ↑i=ξ true:=by
 have:ξ (i == i)=ξ true:=by simp
 cases n<;>exact this
theorem Pj{n:Nat}{xs:List Nat}:sJ (n+1) (.tup (xs.map bz)) (.tup (xs.map bz))=ξ true:=S9 λx g=>by let⟨i,_,e⟩:=bA.mp g;rw[<- e];exact W4
theorem JT{n:Nat}:sJ (n+2) (b8 x) (b8 x)=ξ true:=S9 λy g=>by
 rcases a_.mp g with e|g
 ·rw[e];exact Pj
 ·rw[aD.mp g];exact Pj
theorem Rj{a b:Nat}{xs:List Sd}(C:s[a]?=ξ (.lst (xs.map b8)))(o:s[b]?=ξ (.lst (xs.map b8))):wp (xT (.ref a) (.ref b)) Q s=Q (.bl ω) s:=by
 have:xT (.ref a) (.ref b)=bnd (bnd (getL a) λx=>bnd (getL b) λy=>match (if ⇑x=⇑y then mR (sJ 50) x y else ξ ω) with
  |some r=>ret r
  |none=>bad) λb=>ret (.bl !b):=rfl
 rw[this,dR,dR,eA C,dR,eA o,aH rfl,Ma λy g=>by let⟨z,_,e⟩:=bA.mp g;rw[<- e];exact JT]
 dsimp only;rw[b4,b4];rfl
theorem Pn{most m:Nat}(J:uf h)(e:ps=iV h (lF (kL h)) m)(z:⇑ps<=m)(O:⇑ps<=most)(G:∀r u,u[r]?=ξ (.lst ((uc h (pk ps)).map b8))->⇑s<=r->eZ s u->Q (.ref r) u):wp (jd [gj h,.int most]) Q s:=
 YH (QW J (λo m' r u C L U I Y g E ex=>by
  have:o=ps:=by rw[C,e];exact S_ (by rw[<- C];exact L) (by rw[<- e];exact z)
  rw[this]at g;exact G r u g E ex) λm' u H ex=>by
  have:=Qo3 (h:=h) (p0:=lF (kL h)) (m:=m) (m':=m') (by rw[<- e];exact z);rw[<- e]at this;ext)
theorem b1:((("TooMany":Str) == "TooMany")||(("PactError":Str) == "TooMany"))=true:=by nofun
theorem b2:(["NoHouse","NoMark","NoRow","NoTable","NoText","NotGood","NotMeek"].any λt=>(kJ "TooMany") == kJ t||(kJ "PactError") == kJ t)=false:=by nofun
theorem QpG{n:Nat}:wp (rL ["TooMany"] b (pq n)) Q s=Q (.bl (b "TooMany")) s:=by show wp (chk _ _) Q s=_;rw[dE,b4];exact propext ⟨λh=>h.2,λh=>⟨aD.mpr rfl,h⟩⟩
theorem UI{n:Nat}:wp (uS "TooMany" "most" (pq n)) Q s=Q ↑n s:=by show wp (chk _ _) Q s=_;rw[dE,b4];exact propext ⟨λh=>h.2,λh=>⟨⟨rfl,rfl⟩,h⟩⟩
theorem VI{most m:Nat}(U:uf h)(e:ps=iV h (lF (kL h)) m)(L:⇑ps<=m)(C:most < ⇑ps)(hp:0 < most)(Y:∀u,Q (.bl θ) u):wp (jm [gj h,.int most]) Q s:=by
 (simp![jm];simp![jW])
 refine ZZ ?_;simp![];refine QW U (λo m' r u G l E I cl g lr ex=>by
  have:o=ps:=by rw[G,e];exact S_ (by rw[<- G];exact l) (by rw[<- e];exact L)
  rw[this]at E;rcases E with z|z
  ·ext
  ·rw[z]at C;cases C) λm' u O ex=>?_
 refine⟨_,_,rfl,aD.mpr rfl,?_⟩;let J:∀(b:Str->Bool)(Q:D->aY->Prop)s,wp (rL ["TooMany"] b (.exn "TooMany" [.str "most",.int most])) Q s=Q (.bl (b "TooMany")) s:=λb Q s=>QpG;let H:∀(Q:D->aY->Prop)s,wp (uS "TooMany" "most" (.exn "TooMany" [.str "most",.int most])) Q s=Q ↑most s:=λQ s=>UI;simp![↓J,↓H,b1,b2,fR,tH,bp,if_false,if_true,bne_self_eq_false];rw[aB (by simp)];exact Y u
end
open PySem (Str)
@[irreducible] def wl:CS:=(aN (bM (aT 6) (p9 jd (au (am 2) bb) ↑500)) (aN (lY (tR (pe (n6 (c1 (kc ["list"]) (am 6)))) (cK (c2 xT (am 6) (am 5)))) (aN (dj (aL (.bl ω))) aZ) aZ) (aN (fZ (pV (am 6))) (aN (lY (cK (c2 xT (bj jd (au (am 2) (au (c1 eN (am 4)) bb))) (am 5))) (aN (dj (aL (.bl ω))) aZ) aZ) (aN (dj (DX (c2 Cd (c1 eN (am 4)) (aL ↑2)) (bj jm (au (am 2) (au (c2 pX (c1 eN (am 4)) (aL ↑1)) bb))))) aZ)))))
@[irreducible] def uu:CS:=(aN (bM (aT 4) (bj jo (au (am 2) bb))) (aN (bM (aT 5) (bj jJ (au (am 2) (au (am 4) bb)))) (aN (lY (om (n6 (am 3)) (cK (c2 oF (c1 eN (am 5)) (aL ↑0)))) (aN (dj (aL (.bl ω))) aZ) aZ) wl)))
theorem TL:yH=(aN (bM (aT 1) (bj jr (au (am 0) (au (aL ↑0) bb)))) (aN (bM (aT 2) (bj jv (au (am 1) (au (c2 dg (aL ↑2) (bj ja (au (am 1) (au (aL ↑2) bb)))) (au (cD (dW (au (aL (.str "first")) (au (aL (.str "plain")) (au (aL (.str "swap")) (au (aL (.str "add")) (au (aL (.str "any")) (au (aL (.str "laid")) bb)))))))) bb))))) (aN (bM (aT 3) (c2 oF (bj ja (au (am 1) (au (aL ↑2) bb))) (aL ↑0))) (aN (lY (n6 (am 3)) (aN (bM (aT 2) (bj jC (au (am 1) (au (c2 dg (aL ↑2) (bj ja (au (am 1) (au (aL ↑2) bb)))) bb)))) aZ) aZ) uu)))):=by unfold uu wl;rfl
theorem VO:wp (p9 g a d l) Q s=wp (a l) (λds s'=>wp (g (ds++[d])) Q s') s:=by unfold p9;exact dR
theorem Ww{s:aY}{m no r:Nat}(C:uf h)(J:ps=iV h (lF (kL h)) m)(I:⇑ps<=m)(Q:⇑ps<=500)(O:s[no]?=ξ (.lst ((pk ps).map b8)))(G:s[r]?=ξ (.lst ((uc h (pk ps)).map b8))):wp (wl [ξ d0,ξ d1,ξ (gj h),ξ (.bl g),ξ (.ref no),ξ (.ref r),ψ]) (λf s'=>wp (uz f) (λd _=>d=.bl θ) s') s:=by
 let lg:=iq G;let Y:=iq O;unfold wl;simp![↓VO,mQ,sB];refine Pn (most:=500) C J I Q λa u H la ex=>?_;simp![↓Rj H (ex.at_ G),↓eA H,↓rh H,fR,bp,if_false];let l:(u.set a (.lst []))[no]?=ξ (.lst ((pk ps).map b8)):=by rw[aw ()];exact ex.at_ O
 let E:(u.set a (.lst []))[r]?=ξ (.lst ((uc h (pk ps)).map b8)):=by rw[aw ()];exact ex.at_ G
 generalize u.set a (.lst [])=v at *;simp![↓eA l,af,ub];refine Pn (most:=⇑ps) C J I (aA _) λb w U lb o=>?_;simp![↓Rj U (o.at_ E),bp,if_false,↓eA (o.at_ l),af,ub];by_cases L:(⇑ps:Int) < 2
 ·rw[bV L,vE];trivial
 ·rw[aQ L,yO,show (⇑ps:Int)-1=((⇑ps-1:Nat):Int) by ext];refine VI (most:=⇑ps-1) C J I () () λz=>?_;simp![]
theorem P_(l:uf h)(h5:∀m ps,ps=iV h (lF (kL h)) m->PI h ps->⇑ps<=500)(hg:g=θ->∀ys,(∀x∈kL h,x∈ys)->Cl h ys->uc h ys≠[]):wp (uu [ξ d0,ξ d1,ξ (gj h),ξ (.bl g),ψ,ψ,ψ]) (λf s'=>wp (uz f) (λd _=>d=.bl θ) s') s:=by
 let hh:=l.1;unfold uu;simp![];refine WX l λps m no u H O I C L ln ex=>?_;let Q:=Xj H O;let E:=h5 m ps H I;simp![];refine Vb l L (λx Y=>I.sd Y) I.nd Q (by rw[ub];ext) λr v J lr G=>?_;simp![];let go:=Ww (d0:=d0) (d1:=d1) (g:=g) l H O E (G.at_ L) J;cases g with|false=>exact go|true=>
  let o:=hg rfl (pk ps) C Q;let U:¬ ((⇑(uc h (pk ps)):Int)=0):=λz=>o (u7.mp ());simp![if_true,↓eA J,af,U,if_false];exact go
theorem QpN(ns:List Int)(hn:⇑ns<=63):wp (yn [.lit (ns.map D.int)]) (λd _=>d=.bl θ) []:=by
 simp![yn,TL];refine T6 λp q s0 hp _ _ _=>?_;let h0:PK p q s0 s0:=PK.refl hp;let L:6<=eT:=iy ();simp![L];refine nC h0 () () λo s3 C Y O w3=>?_;let⟨o,rfl⟩:=rR C;let H:(2:Int)+(o:Int)=((2+o:Nat):Int):=by ext
 simp![H,L];let p3:=O.1.lt;refine Xp (nh:=2+o) (sorts:=["first","plain","swap","add","any","laid"]) O.snoc i4 () () (by simp) (by simp) () λh s4 u h4 w4=>?_;simp![];refine nC h4 () () λg U g0 g1 h5 w5=>?_;simp![];let E:∀{x:Hs},Ak x->(g == 0)=ω->wp (uu [ξ (.lit (ns.map D.int)),ξ (.dic p),ξ (gj x),ξ (.bl (g == 0)),ψ,ψ,ψ]) (λf s'=>wp (uz f) (λd _=>d=.bl θ) s') U:=λ{x}u e=>by
  rw[e];exact P_ (V3 u) (λm ps _ I=>by have:=MR u I.nd λy l=>I.sd l;rw[ub]at this;ext) λz=>(by cases z)
 by_cases hz:g=0
 ·rw[aH hz];refine nC h5 () () λt s6 Q U C O=>?_;let⟨t,rfl⟩:=rR Q;let E:(2:Int)+(t:Int)=((2+t:Nat):Int):=by ext
  simp![E];refine Yv (nh:=2+t) C () λx Y P h7 L=>?_;let G:=AT P;simp![];exact P_ G (λm ps e I=>by
   let g:∀y∈pk (lF (kL x)),JP x y:=λy l=>Sz (J:=JP x) (kL x) [] (λz hz=>by let⟨row,h,e⟩:=bA.mp hz;rw[<- e];exact VQ P h) (λz hz=>bw hz (by simp[pk])) y l
   have:=WC P I.nd λy l=>S5 (J:=JP x) (p0:=lF (kL x)) (λy k J o=>W1 P J o) g m y (by rw[<- e];exact l)
   rwa [ub]at this) λ_ ys u H=>TZ P u H
 ·rw[aB hz];exact E u (by simpa using hz)
theorem xY(ns:List Int)(h:⇑ns<=63):∃g,yn [.lit (ns.map D.int)] []=.ok (.bl θ) g:=Qka (QpN ns h)
open PySem PySem.Spec PyProof.Rows L2
theorem LU{l:rg}{I:bJ->bC->Prop}{d:DefRec}{K:DC->aq}(O:l.most=ξ 63)(G:d.params.defaults=[])(E:d.name="law")(Y:∀(w:bJ)(h:bC),I w h->(K w.params).In h) (F:∀(w:bJ)(mg:Str->Option ae)(h:bC),(K w.params).In h->h.Ns bN mg->Txt (K w.params) mg):sX q g XP I l.row.toRowW d [] (λf vs=>sW f vs):=by
 refine L2.yX (n:=63) (k:=9) (x:="_law_script") (CX:=qF) (K:=K) (sp:=λK=>nX K 1 yn) O (by decide) G ⟨rfl,by decide,by decide⟩ Y (λw mg fa h C ns o=>?_) (λK H a ns Q hO hS=>Zb hO hS (xY ns Q)) (λ_ _ _ _ z=>z);let T:=F w mg h C ns;let⟨a,fd,L,m⟩:=T.f43;rw[E,m]at o;cases o;refine⟨fd,λs u=>?_,λbase _ _=>yI L T⟩;let⟨oc,od,kV,doc,pm,an,cdv,ct,J,e,lk,U⟩:=L.ex;rw[e];exact .of_eq rfl
end My
noncomputable def PySem.W.Fast.tw3828109383739736403:PySem.Program:=PySem.Challenge.pw_pactboards_k42_critical_stands
theorem PySem.W.Fast.te3828109383739736403:PySem.Challenge.pw_pactboards_k42_critical_stands=PySem.W.Fast.tw3828109383739736403:=rfl
namespace PySem.W.Fast
def tw2612958417574645128:=True
def tw5092154875300993975:=True
def tw10960955578468030745:=True
def tw12091676227203886194:=True
def tw1039895281647036456:=True
def tw4937981223890320971:=True
def tw16660797812954265288:=True
def tw15711547592851383908:=True
def tw2951713144587855392:=True
def tw3286708195407679975:=True
def tw10976241008872492162:=True
def tw12204339227864931654:=True
def tw2893768592314945085:=True
def tw4429888115972491190:=True
def tw13529414175023587431:=True
def tw7820511130655217870:=True
def tw15461332805684117408:=True
def tw6624515917905626433:=True
def tw13045674079610103359:=True
def tw17377889506416830777:=True
def tw12282760133809527195:=True
def tw4579006639531076694:=True
def tw6637078701265004202:=True
def tw12801280104921923628:=True
def tw13661157294651656642:=True
def tw5718449835563742983:=True
def tw10765951856407030597:=True
def tw6010721796543205464:=True
def tw4401080735869687990:=True
def tw6069597386297589993:=True
def tw16456218243438407009:=True
def tw16933710560860358882:=True
def tw11446733437780107040:=True
def tw16324527004492749170:=True
def tw6297272428415858127:=True
def tw4059966254685012890:=True
def tw10186053007847466983:=True
def tw15414304465670796462:=True
def tw9932362068961388270:=True
def tw6839911246388176836:=True
def tw18266143851359067640:=True
def tw6093723667896340001:=True
def tw10389716596750670874:=True
def tw8288306207414249404:=True
def tw4218364363552900622:=True
def tw10773852696263124852:=True
def tw2467232049582408738:=True
def tw8274372206931951266:=True
def tw4635506846530165406:=True
def tw5427976893436416064:=True
def tw2192670830947404368:=True
def tw8317492471744972802:=True
def tw16279709111048050810:=True
def tw11448522992225074525:=True
def tw4925827860779205115:=True
def tw5918307984164577323:=True
def tw12536234291718640943:=True
def tw5710569627596720840:=True
def tw6357441724062211510:=True
def tw2155470097359381867:=True
def tw10914014038972974721:=True
def tw4496918559245977387:=True
def tw9414198774975086071:=True
def tw7931044248809127241:=True
def tw7130829473053763198:=True
def tw10763394640675201265:=True
def tw12218537054413352630:=True
def tw8017776225638240648:=True
def tw15566099493445846208:=True
def tw12653458747512837808:=True
def tw14567481350828267963:=True
def tw2092757974327219894:=True
def tw14343526053727493076:=True
def tw14408946949013644908:=True
def tw8554841426346556818:=True
def tw407832852491260109:=True
def tw16367236938158364602:=True
def tw15430478525711129922:=True
def tw9942553184015610984:=True
def tw5425826023513767138:=True
def tw4697516733813682475:=True
def tw17949209356800009855:=True
def tw8186005665228574783:=True
def tw13733643737271364681:=True
def tw12101504615262402513:=True
def tw8164583925784953367:=True
def tw7106782941894150260:=True
def tw6298496354170185765:=True
def tw2559306250561718402:=True
def tw2324903712920902954:=True
def tw6080140433402449843:=True
def tw9425023227984149755:=True
def tw6654168031156719467:=True
def tw9492781945958725954:=True
def tw4101598882682343286:=True
def tw1372754476745413333:=True
def tw3811579280477570113:=True
def tw13591220208464433535:=True
def tw2377141447155040770:=True
def tw17837502071312885016:=True
def tw3484730898290503627:=True
def tw15542538823997813046:=True
def tw9746835445727163197:=True
def tw12988819911490996988:=True
def tw2990995639541766537:=True
def tw18434676789430745326:=True
def tw5056020291771326140:=True
def tw3221315897987659227:=True
def tw11729703976307828006:=True
def tw2885444807791009541:=True
def tw4228840032980777531:=True
def tw12337118115841309786:=True
def tw607675629304847670:=True
def tw9389765509375111392:=True
def tw13607829904115605379:=True
def tw9445948359047060787:=True
def tw9819164824451504557:=True
def tw10484854323847237691:=True
def tw8482511916913561272:=True
def tw10473824810923165730:=True
def tw13735019568364516514:=True
def tw2617651693455910186:=True
def tw9778973120756823471:=True
def tw7885926831711941251:=True
def tw17329475034623186558:=True
def tw17579501562919828003:=True
def tw1176530361838063310:=True
def tw12117726176321613831:=True
def tw9158707585481288924:=True
def tw8933049291380293643:=True
def tw3207904455425168681:=True
def tw168692516336809763:=True
def tw13859478778006258077:=True
def tw15961192750713801820:=True
def tw16094673650607743151:=True
def tw5200961012467224055:=True
def tw593225804097368058:=True
def tw13630697436298870299:=True
def tw8741554212771487290:=True
def tw16049236333146866631:=True
def tw8752502255580038539:=True
def tw11537916189285161494:=True
def tw6383350970524718396:=True
def tw6987816261992565591:=True
def tw16404783804658978107:=True
def tw10191050086470374965:=True
def tw10301094307025405164:=True
def tw14336060141594276661:=True
def tw11092310362973218323:=True
def tw3741553321102258372:=True
def tw10836695609301628807:=True
def tw5037327804149421373:=True
def tw2242602822448249300:=True
def tw2482389342410899635:=True
def tw10426622946798951894:=True
def tw5674956596945545749:=True
def tw10454327604419003368:=True
def tw6913587423896892153:=True
def tw10878260857407827931:=True
def tw11118441825269441313:=True
def tw16894978075539988930:=True
def tw14981255245834944870:=True
def tw13194155099865264946:=True
def tw12808851077380320214:=True
def tw13174108867751837066:=True
def tw18129806670129689125:=True
def tw5996847236846080736:=True
def tw13834008942947434551:=True
def tw4517228020841918311:=True
def tw8536780739321713235:=True
def tw3622377181320305762:=True
def tw12154916169084602578:=True
def tw17481369686275554545:=True
def tw3341941728231367628:=True
def tw7093817356239175807:=True
def tw11523973843381473148:=True
def tw18336264393219457869:=True
def tw1828952565841828282:=True
def tw13380291405123283852:=True
def tw15703633498475630634:=True
def tw13861630690232301133:=True
def tw2275315465352629957:=True
def tw17872674693540975036:=True
def tw14147110578867705718:=True
def tw17178829903753716540:=True
def tw6386546634279182713:=True
def tw11223419797026698796:=True
def tw9359013121393177316:=True
def tw6626522843994545416:=True
def tw1794457238947560327:=True
def tw6673920885651638642:=True
def tw12062220819617454498:=True
def tw16585144915338243015:=True
def tw8344623503834496554:=True
def tw5088636362236811205:=True
def tw5611681924109611423:=True
def tw14836912722016698398:=True
def tw1243664973456302242:=True
def tw7013264365942699170:=True
def tw6281404969917832194:=True
def tw7307972379025017976:=True
def tw11113815832080276164:=True
def tw4333126631818077663:=True
def tw215537108340014227:=True
def tw17992516840286253392:=True
def tw8925338071606863467:=True
def tw4987018528785882338:=True
def tw5496449680265804172:=True
def tw3902630450913279411:=True
def tw3675000481908883543:=True
def tw3990406844801346825:=True
def tw11156767340892468009:=True
def tw5435329963469029848:=True
def tw15100917528379858443:=True
def tw9477709089945187474:=True
def tw2468641718575659333:=True
def tw3859669435498767668:=True
def tw16572272246736507329:=True
def tw12710609632391331964:=True
def tw4478364812900665533:=True
def tw12867844499776832837:=True
def tw9014868329116331318:=True
def tw12560085615461948025:=True
def tw8122294180168937656:=True
def tw15213510816506758255:=True
def tw9460522912832728713:=True
def tw7735445585139009418:=True
def tw6980279237690768179:=True
def tw7126696230630557835:=True
def tw12184805935480992352:=True
def tw3410048561479033047:=True
def tw11704911607631751120:=True
def tw4862040456186590237:=True
def tw5361292234392129788:=True
def tw2713219345501627728:=True
def tw2258454209091226144:=True
def tw12194867665749112352:=True
def tw5391942716832406192:=True
def tw18071338822355070714:=True
def tw8134551552281268783:=True
def tw12908343011526122965:=True
def tw17991210634787202144:=True
def tw7013660381126556479:=True
def tw6153945154240195765:=True
def tw9981599916446273790:=True
def tw18312899919665760332:=True
def tw5273595506420422829:=True
def tw15029272707435191541:=True
def tw13659357047696502109:=True
def tw12834661587399869760:=True
def tw4847360679183456511:=True
def tw251474423748009827:=True
def tw8820179879245915401:=True
def tw17434203623895159749:=True
def tw7133004889840425980:=True
def tw6753924732151485418:=True
def tw16132654453168309283:=True
def tw8434550010858242900:=True
def tw12456258307626147312:=True
def tw5558672947035148230:=True
def tw18155554463603627929:=True
def tw11344655586343261221:=True
def tw13849460681650837902:=True
def tw18124131257657772779:=True
def tw17042921142582022775:=True
def tw5073445983541601295:=True
def tw7682903525798326563:=True
def tw16147487255426633766:=True
def tw5039011340006357431:=True
def tw3802914443683538669:=True
def tw2866261698513664340:=True
def tw17803319483935111552:=True
def tw15446834747579542751:=True
def tw11927169358268901763:=True
def tw15284268963127942623:=True
def tw1620213335467257022:=True
def tw10874022180068395481:=True
def tw5696930759310734819:=True
def tw8788940546794699380:=True
def tw3341891390583032570:=True
def tw11875505920721465348:=True
def tw11025651699698484938:=True
def tw10631005207555658724:=True
def tw14636720347152188772:=True
def tw1784937079276253369:=True
def tw8332489247749964626:=True
def tw14810051199578555907:=True
def tw3466306097499747156:=True
def tw7648509755393886770:=True
def tw9118704569661711832:=True
def tw2447929067969607329:=True
def tw11569944486857076850:=True
def tw7110788798017600806:=True
def tw17169776377361589501:=True
def tw1774269396048360243:=True
def tw13074107595040529327:=True
def tw7550764252847768778:=True
def tw15120082894898519137:=True
def tw15358387258306777724:=True
def tw774762741391440697:=True
def tw3668659238503833451:=True
def tw8293038571482238113:=True
def tw18073831970074825095:=True
def tw4283483560832784129:=True
def tw3226354829136875009:=True
def tw10653261036079073989:=True
def tw9827366084520357890:=True
def tw2736651273247005348:=True
def tw6717921023860945359:=True
def tw16067415511097014966:=True
def tw4287312960051680197:=True
def tw70694654271889622:=True
def tw3559023640352736231:=True
def tw4220523762031821113:=True
def tw1624285386038718035:=True
def tw12675385686756019511:=True
def tw4766211295049103093:=True
def tw7073184126873684605:=True
def tw15563808312203419980:=True
def tw13967395368457716650:=True
def tw12076780909455995637:=True
def tw9426859047901256625:=True
def tw15144525568476683924:=True
def tw9873224531512241958:=True
def tw3103053976195174365:=True
def tw17433285707331207458:=True
def tw2488030809157751281:=True
def tw439075886191973209:=True
def tw1941531139697219640:=True
def tw1574701599372778231:=True
def tw1189695229743495107:=True
def tw15856543536309387491:=True
def tw8478227383042410843:=True
def tw6839583338024458714:=True
def tw6820600401214798868:=True
def tw1588860619596304217:=True
def tw345572428254838150:=True
def tw8960121448472279983:=True
def tw16435891775172349384:=True
def tw10199788504333327250:=True
def tw14103523324513135820:=True
def tw7598842977337716134:=True
def tw107475298348991634:=True
def tw774661505000946097:=True
def tw3027084530722811926:=True
end PySem.W.Fast
open PySem PySem.W PyProof.Rows
set_option maxHeartbeats 0 in
theorem PySem.Challenge.cw_pactboards_k42_critical_stands_holds : PySem.Challenge.rw_pactboards_k42_critical_stands.Holds := by
 w_on;o_law;k_head;(case hw=>w_witness2)
 k_fill
 refine My.LU (l:=PySem.Challenge.rw_pactboards_k42_critical_stands) rfl rfl rfl (λw h Y=>PySem.W.kIn_of Y) ?F
 case F=>
  intro w mg h KX G;refine' My.Txt.mk (MM.fF KX G ?a0 ?l0 ?c0 ?k0) (MM.fF KX G ?a1 ?l1 ?c1 ?k1) (MM.fF KX G ?a2 ?l2 ?c2 ?k2) (MM.fF KX G ?a3 ?l3 ?c3 ?k3) (MM.fF KX G ?a4 ?l4 ?c4 ?k4) (MM.fF KX G ?a5 ?l5 ?c5 ?k5) (MM.fF KX G ?a6 ?l6 ?c6 ?k6) (MM.fF KX G ?a7 ?l7 ?c7 ?k7) (MM.fF KX G ?a8 ?l8 ?c8 ?k8) (MM.fF KX G ?a9 ?l9 ?c9 ?k9) (MM.fF KX G ?a10 ?l10 ?c10 ?k10) (MM.fF KX G ?a11 ?l11 ?c11 ?k11) (MM.fF KX G ?a12 ?l12 ?c12 ?k12) (MM.fF KX G ?a13 ?l13 ?c13 ?k13) (MM.fF KX G ?a14 ?l14 ?c14 ?k14) (MM.fF KX G ?a15 ?l15 ?c15 ?k15) (MM.fF KX G ?a16 ?l16 ?c16 ?k16) (MM.fF KX G ?a17 ?l17 ?c17 ?k17) (MM.fF KX G ?a18 ?l18 ?c18 ?k18) (MM.fF KX G ?a19 ?l19 ?c19 ?k19) (MM.fF KX G ?a20 ?l20 ?c20 ?k20) (MM.fF KX G ?a21 ?l21 ?c21 ?k21) (MM.fF KX G ?a22 ?l22 ?c22 ?k22) (MM.fF KX G ?a23 ?l23 ?c23 ?k23) (MM.fF KX G ?a24 ?l24 ?c24 ?k24) (MM.fF KX G ?a25 ?l25 ?c25 ?k25) (MM.fF KX G ?a26 ?l26 ?c26 ?k26) (MM.fF KX G ?a27 ?l27 ?c27 ?k27) (MM.fF KX G ?a28 ?l28 ?c28 ?k28) (MM.fF KX G ?a29 ?l29 ?c29 ?k29) (MM.fF KX G ?a30 ?l30 ?c30 ?k30) (MM.fF KX G ?a31 ?l31 ?c31 ?k31) (MM.fF KX G ?a32 ?l32 ?c32 ?k32) (MM.fF KX G ?a33 ?l33 ?c33 ?k33) (MM.fF KX G ?a34 ?l34 ?c34 ?k34) (MM.fF KX G ?a35 ?l35 ?c35 ?k35) (MM.fF KX G ?a36 ?l36 ?c36 ?k36) (MM.fF KX G ?a37 ?l37 ?c37 ?k37) (MM.fF KX G ?a38 ?l38 ?c38 ?k38) (MM.fF KX G ?a39 ?l39 ?c39 ?k39) (MM.fF KX G ?a40 ?l40 ?c40 ?k40) (MM.FG KX G ?a41 ?l41 ?c41 ?k41 ?t41) (MM.fF KX G ?a42 ?l42 ?c42 ?k42) (MM.fF KX G ?a43 ?l43 ?c43 ?k43) (MM.iA (bW KX G ?z0) (MM.iA (bW KX G ?z1) (MM.iA (bW KX G ?z2) (MM.iA (bW KX G ?z3) (MM.iA (bW KX G ?z4) (MM.iA (bW KX G ?z5) (MM.iA (bW KX G ?z6) (MM.iA (bW KX G ?z7) (MM.iA (bW KX G ?z8) (MM.iA (bW KX G ?z9) (MM.iA (bW KX G ?z10) (MM.iA (bW KX G ?z11) (MM.iA (bW KX G ?z12) (MM.iA (bW KX G ?z13) (MM.iA (bW KX G ?z14) MM.GU))))))))))))))) MM.Gh (MM.EO KX G ?xg ?xl ?xn ?xh ?xc ?pg ?pl ?pn ?ph ?xi ?xf ?xe ?xk) (MM.kI KX G ?og0 ?ol0 (MM.kI KX G ?og1 ?ol1 (MM.kI KX G ?og2 ?ol2 (MM.kI KX G ?og3 ?ol3 (MM.kI KX G ?og4 ?ol4 (MM.kI KX G ?og5 ?ol5 (MM.kI KX G ?og6 ?ol6 (MM.kI KX G ?og7 ?ol7 (MM.kI KX G ?og8 ?ol8 MM.Dl)))))))))
  case xg|xl|xn|xc|pg|pl|pn|xi|xf|xe|xk|og0|ol0|og1|ol1|og2|ol2|og3|ol3|og4|ol4|og5|ol5|og6|ol6|og7|ol7|og8|ol8|a0|l0|c0|k0|a1|l1|c1|k1|a2|l2|c2|k2|a3|l3|c3|k3|a4|l4|c4|k4|a5|l5|c5|k5|a6|l6|c6|k6|a7|l7|c7|k7|a8|l8|c8|k8|a9|l9|c9|k9|a10|l10|c10|k10|a11|l11|c11|k11|a12|l12|c12|k12|a13|l13|c13|k13|a14|l14|c14|k14|a15|l15|c15|k15|a16|l16|c16|k16|a17|l17|c17|k17|a18|l18|c18|k18|a19|l19|c19|k19|a20|l20|c20|k20|a21|l21|c21|k21|a22|l22|c22|k22|a23|l23|c23|k23|a24|l24|c24|k24|a25|l25|c25|k25|a26|l26|c26|k26|a27|l27|c27|k27|a28|l28|c28|k28|a29|l29|c29|k29|a30|l30|c30|k30|a31|l31|c31|k31|a32|l32|c32|k32|a33|l33|c33|k33|a34|l34|c34|k34|a35|l35|c35|k35|a36|l36|c36|k36|a37|l37|c37|k37|a38|l38|c38|k38|a39|l39|c39|k39|a40|l40|c40|k40|a41|l41|c41|k41|t41|a42|l42|c42|k42|a43|l43|c43|k43|z0|z1|z2|z3|z4|z5|z6|z7|z8|z9|z10|z11|z12|z13|z14=>k_is
  case xh|ph=>rfl